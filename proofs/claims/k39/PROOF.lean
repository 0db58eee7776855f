import PyProof.Rows.All
import Wide.All
import OpenK.AllK
import Wide.FinOn
import Lean
import PyProof.EqAt
import PyProof.EqKinds
import PyProof.TupleCall
import PyProof.ZipIter
import PyProof.ConsumeS
import PyProof.StrCalls2
import PyProof.StrWalks
import PyProof.SliceStr2
import PyProof.StrBlock
import PyProof.StrBlockL
import PyProof.ListIndex
import PyProof.StrLawsTight
import PyProof.StrLawsChain
import PyProof.StrLaws
import PyProof.StrLawsFirst
import PyProof.StationsW
import PyProof.ExcClass3
import PyProof.NsDelKeeps
import PyProof.RulesAs
import PyProof.ExcBaseAll.ValueError
import PyProof.ExcArgsOwn
import PyProof.ExcAttrAll.ValueError
import KE.KTryMore
import KE.RegKTryMore
import KE.RegKIsAll
import PyProof.Rows.Range3
import PyProof.Rows.SumGenD
import PyProof.Rows.RuleM_int
import PyProof.EnumMake
import PyProof.EnumFor
import PyProof.EnumStmt
import PyProof.Rows.EnumRows
import KE.KRevIter
import PyProof.ListNew
import PyProof.CollectIter
import PyProof.ListRange
import PyProof.CallStr
import PyProof.StrBlock2
import PyProof.Rows.StrMadeLen
import PyProof.Rows.SetFrom
import PyProof.SetRoads
import PyProof.MeetsStr2
import KE.KRevSl
import PyProof.Conv_int
import PyProof.WalkInts
import PyProof.Rows.SeqMore
import PySem.Challenge.RW_cluemaker_k39_whole_less_stands_more_is
set_option Elab.async false
set_option linter.all false
set_option maxRecDepth 100000
namespace L2
open PySem PySem.Spec PyProof.Rows
abbrev Key:=Sum Int Str
def keyIs:Key→Value→Bool
 | .inl k,v=>Value.isInt k v
 | .inr x,v=>Value.isStrOf x v
def keyH (w:World):Key→Int
 | .inl k=>hashInt k
 | .inr x=>hashStr w x
theorem bN:∀ {k:Key} {v:Value},keyIs k v=true→(∃ i t,k=Sum.inl i∧v=Value.int i t)∨(∃ x t,k=Sum.inr x∧v=Value.str x t)
 | .inl i,v,h=>by
  obtain ⟨t,e⟩:=Value.isInt_shape (k:=i) (v:=v) h
  exact .inl ⟨i,t,rfl,e⟩
 | .inr x,v,h=>by
  obtain ⟨t,e⟩:=Value.isStrOf_shape (x:=x) (v:=v) h
  exact .inr ⟨x,t,rfl,e⟩
theorem wQ (i:Int) (t:Tok):keyIs (.inl i) (.int i t)=true:=by simp [keyIs,Value.isInt]
theorem wR (x:Str) (t:Tok):keyIs (.inr x) (.str x t)=true:=by simp [keyIs,Value.isStrOf]
theorem z4 (a b:Int):decide ((Sum.inl a:Key)=Sum.inl b)=(a==b):=by
 by_cases e:a=b
 · subst e; simp
 · have h:¬ (Sum.inl a:Key)=Sum.inl b:=fun q=>e (Sum.inl.inj q)
   rw [decide_eq_false h]
   exact (beq_eq_false_iff_ne.mpr e).symm
theorem z5 (a b:Str):decide ((Sum.inr a:Key)=Sum.inr b)=decide (a=b):=by
 by_cases e:a=b
 · subst e; simp
 · have h:¬ (Sum.inr a:Key)=Sum.inr b:=fun q=>e (Sum.inr.inj q)
   rw [decide_eq_false h,decide_eq_false e]
theorem z6 (a:Int) (b:Str):decide ((Sum.inl a:Key)=Sum.inr b)=false:=decide_eq_false (fun q=>nomatch q)
theorem z7 (a:Str) (b:Int):decide ((Sum.inr a:Key)=Sum.inl b)=false:=decide_eq_false (fun q=>nomatch q)
def dR (prog:Program) (w:World):PySem.KeyKind prog w Key where
 is:=keyIs
 hash:=keyH w
 inj:=fun v a b ha hb=>by
  rcases bN ha with ⟨i,t,rfl,rfl⟩ | ⟨x,t,rfl,rfl⟩
  · rcases bN hb with ⟨j,u,rfl,e⟩ | ⟨y,u,rfl,e⟩
    · injection e with e1 _; rw [e1]
    · exact nomatch e
  · rcases bN hb with ⟨j,u,rfl,e⟩ | ⟨y,u,rfl,e⟩
    · exact nomatch e
    · injection e with e1 _; rw [e1]
 byValue:=fun k v h=>by
  rcases bN h with ⟨i,t,rfl,rfl⟩ | ⟨x,t,rfl,rfl⟩ <;> rfl
 pyHash:=fun hv h=>by
  rcases bN hv with ⟨i,t,rfl,rfl⟩ | ⟨x,t,rfl,rfl⟩
  · exact wpAny_pyHash_int h
  · exact wpAny_pyHash_str h
 eqBool:=fun hu hv h=>by
  rcases bN hu with ⟨i,t,rfl,rfl⟩ | ⟨x,t,rfl,rfl⟩
  · rcases bN hv with ⟨j,u,rfl,rfl⟩ | ⟨y,u,rfl,rfl⟩
    · rw [z4] at h; exact wpAny_eqBool_int h
    · rw [z6] at h; exact SeqAt.EqAt.int_str i t y u _ _ _ _ h
  · rcases bN hv with ⟨j,u,rfl,rfl⟩ | ⟨y,u,rfl,rfl⟩
    · rw [z7] at h; exact SeqAt.EqAt.str_int x t j u _ _ _ _ h
    · rw [z5] at h; exact wpAny_eqBool_str h
 «strs»:=fun k x t v h=>by
  rcases bN h with ⟨i,u,rfl,e⟩ | ⟨y,u,rfl,e⟩
  · exact nomatch e
  · injection e with e1 _
    subst e1
    cases v <;> rfl
theorem uy (prog:Program) (w:World) (i:Int) (t:Tok):(dR prog w).is (.inl i) (.int i t)=true:=wQ i t
theorem uz (prog:Program) (w:World) (x:Str) (t:Tok):(dR prog w).is (.inr x) (.str x t)=true:=wR x t
end L2
namespace L2
open PySem PySem.Spec PyProof.Rows
inductive V where
 | non | bl (b:Bool) | int (i:Int) | str (x:Str) | byt (b:Array UInt8) | flt (b:UInt64) | ref (a:Addr) | ty (n:String)
 deriving DecidableEq
def RelV:V→Value→Prop
 | .non,u=>u=Value.none
 | .bl b,u=>u=Value.bool b
 | .int i,u=>∃ t,u=Value.int i t
 | .str x,u=>∃ t,u=Value.str x t
 | .byt b,u=>∃ t,u=Value.bytes b t
 | .flt b,u=>∃ t,u=Value.float b t
 | .ref a,u=>u=Value.ref a
 | .ty n,u=>u=Value.type n
abbrev Vals:List V→List Value→Prop:=Paired RelV
theorem Vals.length {xs:List V} {us:List Value} (r:Vals xs us):xs.length=us.length:=Paired.length r
theorem Vals.get:∀ {xs:List V} {us:List Value} {i:Nat} {x:V},Vals xs us→xs[i]? =some x→∃ u,us[i]? =some u∧RelV x u
 | _,_,_,_,.nil,e=>by simp at e
 | _,_,0,_,.cons r _,e=>by simp at e; subst e; exact ⟨_,rfl,r⟩
 | _,_,i+1,x,.cons _ t,e=>by
  obtain ⟨u,h1,h2⟩:=Vals.get (i:=i) (x:=x) t (by simpa using e)
  exact ⟨u,by simpa using h1,h2⟩
theorem Vals.append:∀ {xs ys:List V} {us ws:List Value},Vals xs us→Vals ys ws→Vals (xs++ys) (us++ws)
 | _,_,_,_,.nil,s=>s
 | _,_,_,_,.cons r t,s=>.cons r (Vals.append t s)
theorem Vals.take:∀ {xs:List V} {us:List Value} (n:Nat),Vals xs us→Vals (xs.take n) (us.take n)
 | _,_,0,_=>.nil
 | _,_,_+1,.nil=>.nil
 | _,_,n+1,.cons r t=>.cons r (Vals.take n t)
theorem Vals.drop:∀ {xs:List V} {us:List Value} (n:Nat),Vals xs us→Vals (xs.drop n) (us.drop n)
 | _,_,0,r=>r
 | _,_,_+1,.nil=>.nil
 | _,_,n+1,.cons _ t=>Vals.drop n t
def RelO:Option V→Option Value→Prop
 | some v,some u=>RelV v u
 | none,none=>True
 | _,_=>False
def KV {κ:Type}:List (κ × V)→List (κ × Value)→Prop:=Paired fun (p:κ × V) (q:κ × Value)=>p.1=q.1∧RelV p.2 q.2
def kV:Key→V
 | .inl i=>.int i
 | .inr x=>.str x
inductive HO where
  | lst (xs:List V)
  | tup (xs:List V)
  | dK (kvs:List (Key × V)) | dT (kvs:List (List Key × V))
  | set (S:Int→Bool) (n:Nat)
  | ins (C dx:Addr) (fs:List (Str × V))
  | own (x:Addr)
  | xd (fs:List (Str × V))
  | met (f x:Addr)
  | rng (lo hi:Int)
  | frz (o:Obj) (u:HO)
  | tbl (ps:Array Value)
  | ext (φ:Heap→Prop)
abbrev Hp:=Addr→Option HO
def upd (H:Hp) (a:Addr) (o:HO):Hp:=fun b=>if b=a then some o else H b
theorem ag {H:Hp} {a:Addr} {o:HO}:upd H a o a=some o:=by unfold upd; rw [if_pos rfl]
theorem aj {H:Hp} {a b:Addr} {o:HO} (h:b≠a):upd H a o b=H b:=by unfold upd; rw [if_neg h]
theorem az {H:Hp} {a b:Addr} {o:HO} (h:H a=some o) (h':H b=none):a≠b:=by
 intro e; subst e; rw [h] at h'; cases h'
section
variable (P:Program) (w:World)
def ObjOk (H:Hp) (h:Heap) (a:Addr):HO→Prop
 | .lst xs=>xs.length≤sizeLine∧∃ (its:List Value) (n:Nat),Vals xs its∧h.get? a=some { cls:=.type "list",data:=.seq its.toArray n }
 | .tup xs=>xs.length≤sizeLine∧∃ its:List Value,Vals xs its∧IsTup h a its.toArray
 | .dK kvs=>kvs.length≤sizeLine∧(a==sysModules)=false∧∃ vs,KV kvs vs∧h.DictOf (dR P w) a vs
 | .dT kvs=>kvs.length≤sizeLine∧(a==sysModules)=false∧∃ xs:List (List Key × Addr × Value),
   Paired (fun (p:List Key × V) (q:List Key × Addr × Value)=>p.1=q.1∧H q.2.1=some (.tup (p.1.map kV))∧RelV p.2 q.2.2) kvs xs∧
   ∃ o es ep,h.get? a=some o∧o.ExactDict∧o.data=.dict es ep∧es.toList=xs.map (entryOfKey (tupleKind (dR P w)))∧(xs.map (·.1)).Nodup
 | .set S n=>h.SetOf (intKind P w) a S n
 | .ins C dx fs=>H dx=some (.own a)∧fs.length≤1000∧dx≠a∧h.get? a=some (PySem.W.instObj C dx)∧
   ∃ mA,h.Ns1 dx mA∧(∀ f,RelO (fs.lookup f) (mA f))∧PySem.Within mA (fs.map (·.1))
 | .own _=>∃ o,h.get? a=some o
 | .xd fs=>∃ mA,h.Ns1 a mA∧∀ f,RelO (fs.lookup f) (mA f)
 | .rng lo hi=>∃ t u v,h.get? a=some { cls:=.type "range",data:=.fields #[.int lo t,.int hi u,.int 1 v] }
 | .frz o u=>h.get? a=some o∧ObjOk H h a u
 | .tbl ps=>h.get? a=some { cls:=.none,data:=.fields ps }
 | .met f x=>h.get? a=some (PySem.W.methodObj (.ref f) (.ref x))
 | .ext φ=>φ h∧(∃ o,h.get? a=some o)∧∀ h1 h2:Heap,φ h1→(∀ o,h1.get? a=some o→h2.get? a=some o)→φ h2
def HOk (H:Hp) (h:Heap):Prop:=∀ a o,H a=some o→ObjOk P w H h a o
end
section
variable {P:Program} {w:World} {H H':Hp} {h h':Heap} {a:Addr} {o:HO}
theorem ObjOk.lt (x:ObjOk P w H h a o):a < h.objs.size:=by
 cases o with
 | lst xs=>obtain ⟨_,_,_,_,e⟩:=x; exact Heap.lt_size e
 | tup xs=>obtain ⟨_,_,_,p⟩:=x; exact p.lt
 | dK kvs=>obtain ⟨_,_,_,_,o,_,_,e,_⟩:=x; exact Heap.lt_size e
 | dT kvs=>obtain ⟨_,_,_,_,o,_,_,e,_⟩:=x; exact Heap.lt_size e
 | set S n=>obtain ⟨o,_,_,_,e,_⟩:=x; exact Heap.lt_size e
 | ins C dx fs=>obtain ⟨_,_,_,e,_⟩:=x; exact Heap.lt_size e
 | own y=>obtain ⟨_,e⟩:=x; exact Heap.lt_size e
 | xd fs=>obtain ⟨_,⟨_,_,_,e,_⟩,_⟩:=x; exact Heap.lt_size e
 | rng lo hi=>obtain ⟨_,_,_,e⟩:=x; exact Heap.lt_size e
 | frz ob u=>obtain ⟨e,_⟩:=x; exact Heap.lt_size e
 | tbl ps=>exact Heap.lt_size (show h.get? a=some _ from x)
 | met f y=>exact Heap.lt_size (show h.get? a=some _ from x)
 | ext φ=>obtain ⟨_,⟨_,e⟩,_⟩:=x; exact Heap.lt_size e
theorem Paired.mapP {α β:Type} {F G:α→β→Prop}:∀ {l₁:List α} {l₂:List β},Paired F l₁ l₂→(∀ a b,F a b→G a b)→Paired G l₁ l₂
 | _,_,.nil,_=>.nil
 | _,_,.cons r t,f=>.cons (f _ _ r) (Paired.mapP t f)
theorem ObjOk.stay (x:ObjOk P w H h a o) (k:∀ b u,(b=a∨H b=some (.own a))→h.get? b=some u→h'.get? b=some u)
  (ho:∀ b,H b=some (.own a)→H' b=some (.own a)) (ht:∀ b xs,H b=some (.tup xs)→H' b=some (.tup xs)):ObjOk P w H' h' a o:=by
 induction o with
 | lst xs=>obtain ⟨z,its,n,r,e⟩:=x; exact ⟨z,its,n,r,k _ _ (.inl rfl) e⟩
 | tup xs=>obtain ⟨z,its,r,ob,e,c⟩:=x; exact ⟨z,its,r,ob,k _ _ (.inl rfl) e,c⟩
 | dK kvs=>obtain ⟨z,y,vs,r,ob,es,ep,e,c⟩:=x; exact ⟨z,y,vs,r,ob,es,ep,k _ _ (.inl rfl) e,c⟩
 | dT kvs=>
  obtain ⟨z,y,xs,r,ob,es,ep,e,c⟩:=x
  exact ⟨z,y,xs,Paired.mapP r fun p q z=>⟨z.1,ht _ _ z.2.1,z.2.2⟩,ob,es,ep,k _ _ (.inl rfl) e,c⟩
 | set S n=>obtain ⟨ob,es,ep,t,e,c⟩:=x; exact ⟨ob,es,ep,t,k _ _ (.inl rfl) e,c⟩
 | ins C dx fs=>
  obtain ⟨d,z,ne,e,mA,⟨od,es,ep,e2,c⟩,r⟩:=x
  exact ⟨ho _ d,z,ne,k _ _ (.inl rfl) e,mA,⟨od,es,ep,k _ _ (.inr d) e2,c⟩,r⟩
 | own y=>obtain ⟨ob,e⟩:=x; exact ⟨ob,k _ _ (.inl rfl) e⟩
 | xd fs=>obtain ⟨mA,⟨od,es,ep,e,c⟩,r⟩:=x; exact ⟨mA,⟨od,es,ep,k _ _ (.inl rfl) e,c⟩,r⟩
 | rng lo hi=>obtain ⟨t,u,v,e⟩:=x; exact ⟨t,u,v,k _ _ (.inl rfl) e⟩
 | frz ob u ih=>obtain ⟨e,q⟩:=x; exact ⟨k _ _ (.inl rfl) e,ih q⟩
 | tbl ps=>
  have e:h.get? a=some { cls:=.none,data:=.fields ps }:=x
  show h'.get? a=some { cls:=.none,data:=.fields ps }
  exact k a _ (.inl rfl) e
 | met f y=>
  have e:h.get? a=some (PySem.W.methodObj (.ref f) (.ref y)):=x
  show h'.get? a=some (PySem.W.methodObj (.ref f) (.ref y))
  exact k a _ (.inl rfl) e
 | ext φ=>obtain ⟨p,⟨o,e⟩,st⟩:=x; exact ⟨st _ _ p fun o q=>k _ _ (.inl rfl) q,⟨o,k _ _ (.inl rfl) e⟩,st⟩
theorem HOk.lt (x:HOk P w H h) (e:H a=some o):a < h.objs.size:=(x a o e).lt
theorem HOk.fresh (x:HOk P w H h) (e:h.objs.size≤a):H a=none:=by
 cases q:H a with
 | none=>rfl
 | some u=>exact absurd (Nat.lt_of_lt_of_le (x.lt q) e) (Nat.lt_irrefl _)
theorem HOk.kept (x:HOk P w H h) (k:∀ b u,h.get? b=some u→h'.get? b=some u):HOk P w H h':=fun a o e=>
 (x a o e).stay (fun b u _ q=>k b u q) (fun _ q=>q) fun _ _ q=>q
theorem HOk.laid (x:HOk P w H h) (k:∀ b u,h.get? b=some u→h'.get? b=some u) (hp:h.objs.size≤a) (new:ObjOk P w (upd H a o) h' a o):HOk P w (upd H a o) h':=fun b u e=>by
 have hn:=x.fresh hp
 by_cases hb:b=a
 · subst hb; rw [ag] at e; cases e; exact new
 · rw [aj hb] at e
   exact (x b u e).stay (fun c v _ q=>k c v q) (fun c q=>by rw [aj (az q hn)]; exact q) fun c xs q=>by rw [aj (az q hn)]; exact q
end
def Rd (H:Hp) (a:Addr) (u:HO):Prop:=H a=some u∨∃ o,H a=some (.frz o u)
theorem Rd.ok {P:Program} {w:World} {H:Hp} {h:Heap} {a:Addr} {u:HO} (r:Rd H a u) (x:HOk P w H h):ObjOk P w H h a u:=by
 rcases r with r | ⟨o,r⟩
 · exact x a u r
 · obtain ⟨_,q⟩:=x a _ r
   exact q
def Mut:Option HO→Prop
 | some (.lst _)=>True
 | some (.dK _)=>True
 | some (.dT _)=>True
 | some (.set _ _)=>True
 | some (.ins _ _ _)=>True
 | some (.ext _)=>True
 | _=>False
section
variable {P:Program} {w:World} {H:Hp} {h h':Heap} {x e:Addr} {o':HO}
theorem HOk.write (ok:HOk P w H h) (mu:Mut (H x)) (he:e=x∨H e=some (.own x)) (k:∀ b u,b≠e→h.get? b=some u→h'.get? b=some u) (heo:∃ u,h'.get? e=some u)
  (new:ObjOk P w (upd H x o') h' x o'):HOk P w (upd H x o') h':=fun b u q=>by
 have nown:∀ c y,H c=some (.own y)→c≠x:=fun c y r z=>by subst z; rw [r] at mu; exact mu
 have ntup:∀ c xs,H c=some (.tup xs)→c≠x:=fun c xs r z=>by subst z; rw [r] at mu; exact mu
 by_cases hb:b=x
 · subst hb; rw [ag] at q; cases q; exact new
 · rw [aj hb] at q
   by_cases hbe:b=e
   · have q':H b=some (.own x):=by
      rcases he with z | z
      · exact absurd (hbe.trans z) hb
      · rw [hbe]; exact z
     rw [q] at q'; cases q'
     obtain ⟨v,hv⟩:=heo
     exact ⟨v,by rw [hbe]; exact hv⟩
   · refine (ok b u q).stay (fun c v hc r=>k c v ?_ r) (fun c r=>by rw [aj (nown c b r)]; exact r) fun c xs r=>by rw [aj (ntup c xs r)]; exact r
     rcases hc with rfl | hc
     · exact hbe
     · rintro rfl
       rcases he with z | z
       · exact nown c b hc z
       · rw [hc] at z; cases z; exact hb rfl
end
structure Un (fs ex:List Addr) (H H':Hp) (h h':Heap):Prop where
 keep:∀ b o,h.get? b=some o→H b=none→b∉fs→b∉ex→h'.get? b=some o
 slot:∀ b o,h.get? b=some o→H b=none→b∈fs→b∉ex→∃ sl,h'.get? b=some { o with slots:=sl }
 free:∀ b o,h.get? b=some o→H b=none→b∉ex→H' b=none
 there:∀ b o,h.get? b=some o→b∉ex→∃ o',h'.get? b=some o'
 tups:∀ b xs,H b=some (.tup xs)→H' b=some (.tup xs)
 frzs:∀ b o u,H b=some (.frz o u)→H' b=some (.frz o u)
 tbls:∀ b ps,H b=some (.tbl ps)→∃ more,H' b=some (.tbl (ps++more))
section
variable {fs fs' ex ex':List Addr} {H H1 H2:Hp} {h h1 h2 h':Heap} {a x e:Addr} {o:HO}
theorem Un.any (u:Un fs ex H H1 h h1) {b:Addr} {ob:Obj} (q:h.get? b=some ob) (n:H b=none) (hx:b∉ex):∃ sl,h1.get? b=some { ob with slots:=sl }:=by
 by_cases hb:b∈fs
 · exact u.slot b ob q n hb hx
 · exact ⟨ob.slots,u.keep b ob q n hb hx⟩
theorem Un.kept (k:∀ b u,h.get? b=some u→h'.get? b=some u):Un fs ex H H h h':=
 ⟨fun b ob q _ _ _=>k b ob q,fun b ob q _ _ _=>⟨ob.slots,k b ob q⟩,fun _ _ _ n _=>n,fun b ob q _=>⟨ob,k b ob q⟩,fun _ _ q=>q,fun _ _ _ q=>q,fun _ ps q=>⟨#[],by rw [q]; simp⟩⟩
theorem Un.refl:Un fs ex H H h h:=Un.kept fun _ _ q=>q
theorem Un.laid (k:∀ b u,h.get? b=some u→h'.get? b=some u) (hp:h.objs.size≤a) (hn:H a=none):Un fs ex H (upd H a o) h h' where
 keep:=fun b u q _ _ _=>k b u q
 slot:=fun b u q _ _ _=>⟨u.slots,k b u q⟩
 free:=fun b u q n _=>by rw [aj (Nat.ne_of_lt (Nat.lt_of_lt_of_le (Heap.lt_size q) hp))]; exact n
 there:=fun b u q _=>⟨u,k b u q⟩
 tups:=fun b xs q=>by rw [aj (az q hn)]; exact q
 frzs:=fun b u xs q=>by rw [aj (az q hn)]; exact q
 tbls:=fun b ps q=>⟨#[],by rw [aj (az q hn),q]; simp⟩
theorem Un.write (mu:Mut (H x)) (he:e=x∨H e=some (.own x)) (k:∀ b u,b≠e→h.get? b=some u→h'.get? b=some u) (heo:∃ u,h'.get? e=some u):Un fs ex H (upd H x o) h h':=by
 have hx:∀ b,H b=none→b≠x:=fun b n z=>by subst z; rw [n] at mu; exact mu
 have hb:∀ b,H b=none→b≠e:=fun b n z=>by
  subst z
  rcases he with r | r
  · exact hx b n r
  · rw [n] at r; cases r
 have hm:∀ b u,H b=some u→¬ Mut (some u)→b≠x:=fun b u q nm z=>by subst z; rw [q] at mu; exact nm mu
 refine ⟨fun b u q n _ _=>k b u (hb b n) q,fun b u q n _ _=>⟨u.slots,k b u (hb b n) q⟩,fun b u q n _=>by rw [aj (hx b n)]; exact n,fun b u q _=>?_,
  fun b xs q=>by rw [aj (hm b _ q fun z=>z)]; exact q,fun b u xs q=>by rw [aj (hm b _ q fun z=>z)]; exact q,fun b ps q=>⟨#[],by rw [aj (hm b _ q fun z=>z),q]; simp⟩⟩
 by_cases hbe:b=e
 · subst hbe; exact heo
 · exact ⟨u,k b u hbe q⟩
end
def trk (h:Heap) (H:Hp):List Addr:=(List.range h.objs.size).filter fun a=>(H a).isSome
def hidT (h:Heap) (H:Hp):Heap:=PySem.W.hideAll h (trk h H)
theorem wS (h:Heap) (H:Hp):(hidT h H).objs.size=h.objs.size:=PySem.W.hideAll_size _ _
theorem yt {h:Heap} {H:Hp} {b:Addr} {o:Obj} (e:h.get? b=some o) (n:H b=none):(hidT h H).get? b=some o:=
 PySem.W.hideAll_get _ e fun hm=>by
  have q:(H b).isSome=true:=(List.mem_filter.mp hm).2
  rw [n] at q; simp at q
theorem zk {h:Heap} {H:Hp} {b:Addr} {o:Obj} (e:(hidT h H).get? b=some o):h.get? b=some o∧H b=none:=by
 have e':h.get? b=some o:=PySem.W.of_hideAll (trk h H) e
 refine ⟨e',?_⟩
 cases q:H b with
 | none=>rfl
 | some x=>
  have hm:b∈trk h H:=List.mem_filter.mpr ⟨List.mem_range.mpr (Heap.lt_size e'),by simp [q]⟩
  have z:(hidT h H).get? b=none:=PySem.W.hideAll_none (trk h H) hm
  rw [z] at e; cases e
end L2
namespace L2
open PySem PySem.Spec PyProof.Rows
structure Mod (K:PySem.W.Frag) (mg:Str→Option Value) (base:Heap):Prop where
 kin:K.In base
 glob:base.Ns mainGlobals mg
 blt:∃ mb,base.Ns builtinsNs mb∧∀ x:Str,x≠"__name__"→mb x=bootBuiltins x
 nolimit:base.NoLimit
structure Cx where
 prog:Program
 w:World
 K:PySem.W.Frag
 mg:Str→Option Value
 base:Heap
 A:Around
 N:List Str
 s₀:Shared
 H₀:Hp
 env:Env
 outer:List Env
 stack:List Env
 ex:List Addr
 fn:Str→Bool
 calm:Bool
 pn:List (Addr × Obj)
 xe:Value→Shared→Prop
def frs (l:List Env):List Addr:=l.filterMap (·.frame)
abbrev Cx.fs (X:Cx):List Addr:=frs X.outer
def Vis (sc:Scope) (x:Str):Prop:=sc.names.lookup x=some .local∨sc.names.lookup x=some .cell∨sc.names.lookup x=some .free
def Loc (sc:Scope) (x:Str):Prop:=sc.names.lookup x=some .local∨sc.names.lookup x=some .cell
def Look (env:Env) (h:Heap) (m:Str→Option Value) (x:Str) (u:Value):Prop:=
 (env.kindOf x=some .local∧m x=some u)∨((env.kindOf x=some .cell∨env.kindOf x=some .free)∧∃ c,env.cells.lookup x=some c∧h.IsCell c (some u))
structure Cx.Ok (X:Cx):Prop where
 mod:Mod X.K X.mg X.base
 kind:X.env.scope.kind=.function
 glob:X.env.globals=mainGlobals
 blt:X.env.builtins=builtinsNs
 above:X.s₀.heap.objs.size≤X.env.locals
 inj:∀ x y c,X.env.cells.lookup x=some c→X.env.cells.lookup y=some c→x=y
 has:∀ x,(X.env.kindOf x=some .cell∨X.env.kindOf x=some .free)→∃ c,X.env.cells.lookup x=some c
 cab:∀ x c,X.fn x=true→X.env.cells.lookup x=some c→X.s₀.heap.objs.size≤c
 hd:X.calm=true→X.A.handled=none
 frames:X.A.frames=some X.stack
 stk:X.stack=X.outer∨(X.stack=X.env::X.outer∧X.env.frame=some X.env.locals)
 exf:∀ b∈X.ex,b≠X.env.locals∧∀ x c,X.env.cells.lookup x=some c→c≠b
 bs:∀ b o,X.base.get? b=some o→X.s₀.heap.get? b=some o∧X.H₀ b=none
 bsz:X.base.objs.size≤X.s₀.heap.objs.size
 noex:∀ b o,X.base.get? b=some o→b∉X.ex
 exfs:∀ b∈X.ex,b∉X.fs
 funs:X.s₀.heap.FunFrames X.base X.outer
 frf:∀ b∈X.fs,X.H₀ b=none
structure Inv (X:Cx) (pins:List (Addr × Obj)) (σ:List (Option V)) (H:Hp) (s:Shared):Prop where
 ok:X.Ok
 os:s.os=X.s₀.os
 bare:AllBare s.gens
 base:Un X.fs X.ex X.H₀ H X.s₀.heap s.heap
 loc:∃ m,s.heap.Ns X.env.locals m∧∀ (i:Nat) (x:Str) (v:V),X.N[i]? =some x→σ[i]? =some (some v)→Vis X.env.scope x→∃ u,RelV v u∧Look X.env s.heap m x u
 cell:∀ x c,X.env.cells.lookup x=some c→∃ v,s.heap.IsCell c v
 free:H X.env.locals=none
 freeC:∀ x c,X.env.cells.lookup x=some c→H c=none
 pin:∀ p∈X.pn++pins,s.heap.get? p.1=some p.2∧H p.1=none∧p.1≠X.env.locals∧p.1∉X.fs∧∀ v,p.2.data≠.cell v
 hok:HOk X.prog X.w H s.heap
 len:σ.length=X.N.length
section
variable {X:Cx} {pins:List (Addr × Obj)} {σ:List (Option V)} {H H':Hp} {s:Shared} {h':Heap}
theorem Cx.Ok.nofr (ok:X.Ok) {b:Addr} {o:Obj} (e:X.base.get? b=some o):b∉X.fs:=fun hb=>by
 have:=(ok.funs.mem hb).1
 rw [e] at this; cases this
theorem Inv.bs (I:Inv X pins σ H s):∀ b o,X.base.get? b=some o→s.heap.get? b=some o∧H b=none:=fun b o e=>
 ⟨I.base.keep b o (I.ok.bs b o e).1 (I.ok.bs b o e).2 (I.ok.nofr e) (I.ok.noex b o e),I.base.free b o (I.ok.bs b o e).1 (I.ok.bs b o e).2 (I.ok.noex b o e)⟩
theorem Inv.bk (I:Inv X pins σ H s):∀ b o,X.base.get? b=some o→s.heap.get? b=some o:=fun b o e=>(I.bs b o e).1
theorem Inv.mod (I:Inv X pins σ H s):Mod X.K X.mg X.base:=I.ok.mod
theorem Inv.kIn (I:Inv X pins σ H s):X.K.In s.heap:=I.ok.mod.kin.keeps I.bk
theorem Inv.lt (I:Inv X pins σ H s):X.env.locals < s.heap.objs.size:=let ⟨_,hn,_⟩:=I.loc; hn.lt
theorem Inv.sz (I:Inv X pins σ H s):X.s₀.heap.objs.size≤s.heap.objs.size:=Nat.le_trans I.ok.above (Nat.le_of_lt I.lt)
theorem Inv.nofs (I:Inv X pins σ H s) {a:Addr} (h:s.heap.objs.size≤a):a∉X.fs:=fun hb=>by
 obtain ⟨_,o,ho,_⟩:=I.ok.funs.mem hb
 exact absurd (Nat.lt_of_lt_of_le (Heap.lt_size ho) (Nat.le_trans I.sz h)) (Nat.lt_irrefl _)
theorem Inv.cne (I:Inv X pins σ H s):∀ x c,X.env.cells.lookup x=some c→c≠X.env.locals:=fun x c e z=>by
 obtain ⟨v,o,ho,hd⟩:=I.cell x c e
 obtain ⟨m,⟨o',es,ep,ho',hd',_⟩,_⟩:=I.loc
 rw [z,ho'] at ho; cases ho; rw [hd'] at hd; cases hd
theorem Inv.funs (I:Inv X pins σ H s):s.heap.FunFrames X.base X.outer:=by
 have all:∀ (l:List Env),(∀ b∈frs l,b∈X.fs)→X.s₀.heap.FunFrames X.base l→s.heap.FunFrames X.base l:=by
  intro l
  induction l with
  | nil=>intro _ _; trivial
  | cons env r ih=>
   intro hs hl
   obtain ⟨hk,⟨L,o,hf,hn,ho,hd⟩,hr⟩:=hl
   have hL:L∈X.fs:=hs L (by unfold frs; rw [List.filterMap_cons,hf]; exact List.mem_cons_self)
   obtain ⟨sl,e⟩:=I.base.slot L o ho (I.ok.frf L hL) hL fun z=>I.ok.exfs L z hL
   exact ⟨hk,⟨L,_,hf,hn,e,hd⟩,ih (fun b hb=>hs b (by unfold frs; rw [List.filterMap_cons,hf]; exact List.mem_cons_of_mem _ hb)) hr⟩
 exact all X.outer (fun _ hb=>hb) I.ok.funs
theorem Inv.stack (I:Inv X pins σ H s):s.heap.FunFrames X.base X.stack:=by
 rcases I.ok.stk with e | ⟨e,hf⟩
 · rw [e]; exact I.funs
 · rw [e]
   obtain ⟨m,hn,_⟩:=I.loc
   refine .cons (by rw [I.ok.kind]; decide) hf hn ?_ I.funs
   exact Heap.get?_none_of_le (Nat.le_trans I.ok.bsz I.ok.above)
theorem Inv.stkSub (I:Inv X pins σ H s):∀ b∈frs X.stack,b∈X.env.locals::X.fs:=fun b hb=>by
 rcases I.ok.stk with e | ⟨e,hf⟩
 · rw [e] at hb; exact List.mem_cons_of_mem _ hb
 · rw [e] at hb
   unfold frs at hb
   rw [List.filterMap_cons,hf] at hb
   exact hb
theorem Inv.stkFree (I:Inv X pins σ H s):∀ b∈frs X.stack,H b=none:=fun b hb=>by
 rcases List.mem_cons.mp (I.stkSub b hb) with e | hb
 · rw [e]; exact I.free
 · obtain ⟨_,o,ho,_⟩:=I.ok.funs.mem hb
   exact I.base.free b o ho (I.ok.frf b hb) fun z=>I.ok.exfs b z hb
theorem Inv.step {g':Array GenState} {t':Nat} {d':Drawn} {ch:List Addr} (I:Inv X pins σ H s)
  (hch:∀ b∈ch,(b∈X.ex∨X.s₀.heap.objs.size≤b)∧b≠X.env.locals∧(∀ x c,X.env.cells.lookup x=some c→c≠b)∧∀ p∈X.pn++pins,p.1≠b)
  (keep:∀ b o,b≠X.env.locals→b∉X.fs→b∉ch→s.heap.get? b=some o→H b=none→h'.get? b=some o)
  (slot:∀ b o,b≠X.env.locals→b∈X.fs→b∉ch→s.heap.get? b=some o→H b=none→∃ sl,h'.get? b=some { o with slots:=sl }) (free:∀ b o,b∉ch→s.heap.get? b=some o→H b=none→H' b=none)
  (there:∀ b o,b∉ch→s.heap.get? b=some o→∃ o',h'.get? b=some o')
  (tups:∀ b xs,H b=some (.tup xs)→H' b=some (.tup xs)) (frzs:∀ b o u,H b=some (.frz o u)→H' b=some (.frz o u)) (tbls:∀ b ps,H b=some (.tbl ps)→∃ more,H' b=some (.tbl (ps++more)))
  (ns:∀ m,s.heap.Ns X.env.locals m→h'.Ns X.env.locals m) (hok:HOk X.prog X.w H' h') (hg:AllBare g'):
  Inv X pins σ H' { s with heap:=h',gens:=g',drawn:=d',toks:=t' }:=by
 have neL:∀ b o,X.s₀.heap.get? b=some o→b≠X.env.locals:=fun b o e=>Nat.ne_of_lt (Nat.lt_of_lt_of_le (Heap.lt_size e) I.ok.above)
 have neC:∀ b o,X.s₀.heap.get? b=some o→b∉X.ex→b∉ch:=fun b o e hx hb=>by
  rcases (hch b hb).1 with z | z
  · exact hx z
  · exact absurd (Nat.lt_of_lt_of_le (Heap.lt_size e) z) (Nat.lt_irrefl _)
 have cellK:∀ x c,X.env.cells.lookup x=some c→∀ v,s.heap.IsCell c v→h'.IsCell c v:=fun x c e v ⟨o,ho,hd⟩=>by
  have nch:c∉ch:=fun z=>(hch c z).2.2.1 x c e rfl
  by_cases hc:c∈X.fs
  · obtain ⟨sl,q⟩:=slot c o (I.cne x c e) hc nch ho (I.freeC x c e)
    exact ⟨_,q,hd⟩
  · exact ⟨o,keep c o (I.cne x c e) hc nch ho (I.freeC x c e),hd⟩
 refine ⟨I.ok,I.os,hg,⟨fun b o e n hb hx=>?_,fun b o e n hb hx=>?_,fun b o e n hx=>?_,fun b o e hx=>?_,fun b xs e=>tups b xs (I.base.tups b xs e),fun b o xs e=>frzs b o xs (I.base.frzs b o xs e),fun b ps e=>?_⟩,?_,fun x c e=>?_,?_,fun x c e=>?_,fun p hp=>?_,hok,I.len⟩
 · exact keep b o (neL b o e) hb (neC b o e hx) (I.base.keep b o e n hb hx) (I.base.free b o e n hx)
 · obtain ⟨sl,e1⟩:=I.base.slot b o e n hb hx
   obtain ⟨sl',e2⟩:=slot b _ (neL b o e) hb (neC b o e hx) e1 (I.base.free b o e n hx)
   exact ⟨sl',e2⟩
 · obtain ⟨o',e1⟩:=I.base.there b o e hx
   exact free b o' (neC b o e hx) e1 (I.base.free b o e n hx)
 · obtain ⟨o',e1⟩:=I.base.there b o e hx
   exact there b o' (neC b o e hx) e1
 · obtain ⟨m1,e1⟩:=I.base.tbls b ps e
   obtain ⟨m2,e2⟩:=tbls b _ e1
   exact ⟨m1++m2,by rw [e2,Array.append_assoc]⟩
 · obtain ⟨m,hn,hl⟩:=I.loc
   refine ⟨m,ns m hn,fun i x v e1 e2 e3=>?_⟩
   obtain ⟨u,r,l⟩:=hl i x v e1 e2 e3
   refine ⟨u,r,?_⟩
   rcases l with l | ⟨k,c,e,z⟩
   · exact .inl l
   · exact .inr ⟨k,c,e,cellK x c e _ z⟩
 · obtain ⟨v,z⟩:=I.cell x c e
   exact ⟨v,cellK x c e v z⟩
 · obtain ⟨m,⟨o,_,_,ho,_⟩,_⟩:=I.loc
   exact free _ o (fun z=>(hch _ z).2.1 rfl) ho I.free
 · obtain ⟨v,o,ho,hd⟩:=I.cell x c e
   exact free c o (fun z=>(hch c z).2.2.1 x c e rfl) ho (I.freeC x c e)
 · obtain ⟨e,n,ne,nf,d⟩:=I.pin p hp
   have nch:p.1∉ch:=fun z=>(hch p.1 z).2.2.2 p hp rfl
   exact ⟨keep p.1 p.2 ne nf nch e n,free p.1 p.2 nch e n,ne,nf,d⟩
theorem Inv.un {t':Nat} (I:Inv X pins σ H s) (u:Un X.fs [] H H' s.heap h') (hok:HOk X.prog X.w H' h'):Inv X pins σ H' { s with heap:=h',toks:=t' }:=by
 obtain ⟨m,⟨o,es,ep,ho,r⟩,_⟩:=id I.loc
 obtain ⟨sl,hL⟩:=u.any ho I.free (by simp)
 exact I.step (g':=s.gens) (d':=s.drawn) (ch:=[]) (fun _ z=>nomatch z) (fun b o _ hb _ e n=>u.keep b o e n hb (by simp)) (fun b o _ hb _ e n=>u.slot b o e n hb (by simp)) (fun b o _ e n=>u.free b o e n (by simp)) (fun b o _ e=>u.there b o e (by simp)) u.tups u.frzs u.tbls (fun m' hm=>by
  obtain ⟨o',es',ep',ho',r'⟩:=hm
  rw [ho] at ho'; cases ho'
  exact ⟨_,es',ep',hL,r'⟩) hok I.bare
theorem Inv.call {g':Array GenState} {t':Nat} {d':Drawn} {ch:List Addr} (I:Inv X pins σ H s) (u:Un (frs X.stack) ch H H' s.heap h') (hok:HOk X.prog X.w H' h') (hg:AllBare g')
  (hch:∀ b∈ch,(b∈X.ex∨X.s₀.heap.objs.size≤b)∧b≠X.env.locals∧(∀ x c,X.env.cells.lookup x=some c→c≠b)∧∀ p∈X.pn++pins,p.1≠b):
  Inv X pins σ H' { s with heap:=h',gens:=g',drawn:=d',toks:=t' }:=by
 obtain ⟨m,⟨o,es,ep,ho,r⟩,_⟩:=id I.loc
 obtain ⟨sl,hL⟩:=u.any ho I.free fun z=>(hch _ z).2.1 rfl
 exact I.step (ch:=ch) hch (fun b o hL hb hc e n=>u.keep b o e n (fun z=>(List.mem_cons.mp (I.stkSub b z)).elim hL hb) hc) (fun b o _ _ hc e n=>u.any e n hc) (fun b o hc e n=>u.free b o e n hc) (fun b o hc e=>u.there b o e hc) u.tups u.frzs u.tbls (fun m' hm=>by
  obtain ⟨o',es',ep',ho',r'⟩:=hm
  rw [ho] at ho'; cases ho'
  exact ⟨_,es',ep',hL,r'⟩) hok hg
theorem Inv.turned {t':Nat} {it:Addr} (I:Inv X pins σ H s) (k:∀ b o,b≠it→s.heap.get? b=some o→h'.get? b=some o) (hn:H it=none) (hL:it≠X.env.locals)
  (h1:it∈X.ex∨X.s₀.heap.objs.size≤it) (h2:∀ x c,X.env.cells.lookup x=some c→c≠it) (h3:∀ p∈X.pn++pins,p.1≠it):Inv X pins σ H { s with heap:=h',toks:=t' }:=by
 have nit:∀ b u,H b=some u→b≠it:=fun b u e z=>by rw [z,hn] at e; cases e
 refine I.step (g':=s.gens) (d':=s.drawn) (ch:=[it]) (fun b hb=>?_) (fun b o _ _ hc e _=>k b o (fun z=>hc (by simp [z])) e) (fun b o _ _ hc e _=>⟨o.slots,k b o (fun z=>hc (by simp [z])) e⟩) (fun _ _ _ _ n=>n)
  (fun b o hc e=>⟨o,k b o (fun z=>hc (by simp [z])) e⟩) (fun _ _ e=>e) (fun _ _ _ e=>e) (fun b ps e=>⟨#[],by rw [e]; simp⟩) (fun m hm=>?_) (fun b u e=>?_) I.bare
 · have e:b=it:=by simpa using hb
   subst e
   exact ⟨h1,hL,h2,h3⟩
 · obtain ⟨o,es,ep,ho,r⟩:=hm
   exact ⟨o,es,ep,k _ o (Ne.symm hL) ho,r⟩
 · refine (I.hok b u e).stay (fun c v hc q=>k c v ?_ q) (fun _ q=>q) fun _ _ q=>q
   rcases hc with z | z
   · rw [z]; exact nit b u e
   · exact nit c _ z
theorem Inv.tok (I:Inv X pins σ H s) (t:Nat):Inv X pins σ H { s with toks:=t }:=I.un (h':=s.heap) (t':=t) Un.refl I.hok
theorem Inv.kept {t':Nat} (I:Inv X pins σ H s) (k:∀ b u,s.heap.get? b=some u→h'.get? b=some u):Inv X pins σ H { s with heap:=h',toks:=t' }:=I.un (Un.kept k) (I.hok.kept k)
theorem Inv.laid {a:Addr} {o:HO} {t':Nat} (I:Inv X pins σ H s) (k:∀ b u,s.heap.get? b=some u→h'.get? b=some u) (hp:s.heap.objs.size≤a) (new:ObjOk X.prog X.w (upd H a o) h' a o):
  Inv X pins σ (upd H a o) { s with heap:=h',toks:=t' }:=I.un (Un.laid k hp (I.hok.fresh hp)) (I.hok.laid k hp new)
theorem Inv.write {x e:Addr} {o:HO} {t':Nat} (I:Inv X pins σ H s) (mu:Mut (H x)) (he:e=x∨H e=some (.own x)) (k:∀ b u,b≠e→s.heap.get? b=some u→h'.get? b=some u) (heo:∃ u,h'.get? e=some u)
  (new:ObjOk X.prog X.w (upd H x o) h' x o):Inv X pins σ (upd H x o) { s with heap:=h',toks:=t' }:=I.un (Un.write mu he k heo) (I.hok.write mu he k heo new)
theorem Inv.pins_of {pins':List (Addr × Obj)} (I:Inv X pins σ H s) (h:∀ p∈pins',s.heap.get? p.1=some p.2∧H p.1=none∧p.1≠X.env.locals∧p.1∉X.fs∧∀ v,p.2.data≠.cell v):Inv X pins' σ H s:=
 ⟨I.ok,I.os,I.bare,I.base,I.loc,I.cell,I.free,I.freeC,fun p hp=>(List.mem_append.mp hp).elim (fun z=>I.pin p (List.mem_append_left _ z)) (h p),I.hok,I.len⟩
theorem sx {N:List Str} (hN:N.Nodup) {i j:Nat} {x:Str} (a:N[i]? =some x) (b:N[j]? =some x):i=j:=by
 obtain ⟨h1,e1⟩:=List.getElem?_eq_some_iff.mp a
 obtain ⟨h2,e2⟩:=List.getElem?_eq_some_iff.mp b
 exact (List.getElem_inj hN).mp (e1.trans e2.symm)
theorem qN {M:Model} {A:Around} {E:Value→Shared→Prop} {i:Nat} {x:Str} {v:V} {u:Value} {Q:Unit→Shared→Prop} (I:Inv X pins σ H s) (hN:X.N.Nodup) (hi:X.N[i]? =some x) (hx:Loc X.env.scope x) (r:RelV v u)
  (h:∀ s',Inv X pins (σ.set i (some v)) H s'→(∃ a,Heap.SameBut a s.heap s'.heap∧(a=X.env.locals∨X.env.cells.lookup x=some a))→Q () s') (hf:X.fn x=true∨X.env.scope.names.lookup x=some .local:=by first | exact .inl rfl | exact .inr rfl | assumption):wpAny M A (storeName X.env x u) Q E s:=by
 obtain ⟨m,hn,hl⟩:=id I.loc
 have hcls:(X.env.scope.kind==.class||(X.env.scope.kind==.module&&X.env.locals != X.env.globals))=false:=by rw [I.ok.kind]; rfl
 have hiσ:i < σ.length:=by rw [I.len]; exact (List.getElem?_eq_some_iff.mp hi).1
 have cne:=I.cne
 have tracked:∀ {a:Addr} {h':Heap},(∃ o,s.heap.get? a=some o∧H a=none)→Heap.SameBut a s.heap h'→HOk X.prog X.w H h':=fun {a h'} ha hs b ob e=>by
  obtain ⟨_,_,hfree⟩:=ha
  refine (I.hok b ob e).stay (fun c w' hc q=>(hs.2 c ?_).trans q) (fun _ q=>q) fun _ _ q=>q
  rintro rfl
  rcases hc with rfl | hc
  · rw [hfree] at e; cases e
  · rw [hfree] at hc; cases hc
 rcases hx with hk | hk
 · refine wpAny_storeName_local hk hn (fun h' hn' hs=>?_) hcls
   obtain ⟨oL,_,_,hoL,_⟩:=id hn
   refine h _ ⟨I.ok,I.os,I.bare,⟨fun b o e n hb hx=>?_,fun b o e n hb hx=>?_,I.base.free,fun b o e hx=>?_,I.base.tups,I.base.frzs,I.base.tbls⟩,⟨_,hn',fun j y v' e1 e2 e3=>?_⟩,fun y c e=>?_,I.free,I.freeC,fun p hp=>?_,tracked ⟨oL,hoL,I.free⟩ hs,by simpa using I.len⟩ ⟨_,hs,.inl rfl⟩
   · exact (hs.2 b (Nat.ne_of_lt (Nat.lt_of_lt_of_le (Heap.lt_size e) I.ok.above))).trans (I.base.keep b o e n hb hx)
   · obtain ⟨sl,e1⟩:=I.base.slot b o e n hb hx
     exact ⟨sl,(hs.2 b (Nat.ne_of_lt (Nat.lt_of_lt_of_le (Heap.lt_size e) I.ok.above))).trans e1⟩
   · obtain ⟨o',e1⟩:=I.base.there b o e hx
     exact ⟨o',(hs.2 b (Nat.ne_of_lt (Nat.lt_of_lt_of_le (Heap.lt_size e) I.ok.above))).trans e1⟩
   · by_cases hj:j=i
     · subst hj
       rw [hi] at e1; cases e1
       rw [List.getElem?_set_self hiσ] at e2
       cases e2
       exact ⟨u,r,.inl ⟨hk,by simp⟩⟩
     · rw [List.getElem?_set_ne (Ne.symm hj)] at e2
       obtain ⟨u',r',q⟩:=hl j y v' e1 e2 e3
       refine ⟨u',r',?_⟩
       rcases q with ⟨k,e⟩ | ⟨k,c,e,z⟩
       · refine .inl ⟨k,?_⟩
         have:y≠x:=fun e=>hj (sx hN e1 (e ▸ hi))
         simp [this,e]
       · exact .inr ⟨k,c,e,z.sameBut hs (cne y c e)⟩
   · obtain ⟨w',z⟩:=I.cell y c e
     exact ⟨w',z.sameBut hs (cne y c e)⟩
   · obtain ⟨e,n,ne,nf,d⟩:=I.pin p hp
     exact ⟨(hs.2 p.1 ne).trans e,n,ne,nf,d⟩
 · have hfn:X.fn x=true:=by
    rcases hf with z | z
    · exact z
    · rw [z] at hk; cases hk
   obtain ⟨c,hc⟩:=I.ok.has x (.inl hk)
   obtain ⟨w',z⟩:=I.cell x c hc
   refine wpAny_storeName_cell I.ok.kind hk hc z (fun h' hc' hs=>?_)
   obtain ⟨oc,hoc,hocd⟩:=id z
   refine h { s with heap:=h' } ⟨I.ok,I.os,I.bare,⟨fun b o e n hb hx=>?_,fun b o e n hb hx=>?_,I.base.free,fun b o e hx=>?_,I.base.tups,I.base.frzs,I.base.tbls⟩,⟨m,hn.sameBut hs (Ne.symm (cne x c hc)),fun j y v' e1 e2 e3=>?_⟩,fun y c' e=>?_,I.free,I.freeC,fun p hp=>?_,tracked ⟨oc,hoc,I.freeC x c hc⟩ hs,by simpa using I.len⟩ ⟨c,hs,.inr hc⟩
   · exact (hs.2 b (Nat.ne_of_lt (Nat.lt_of_lt_of_le (Heap.lt_size e) (I.ok.cab x c hfn hc)))).trans (I.base.keep b o e n hb hx)
   · obtain ⟨sl,e1⟩:=I.base.slot b o e n hb hx
     exact ⟨sl,(hs.2 b (Nat.ne_of_lt (Nat.lt_of_lt_of_le (Heap.lt_size e) (I.ok.cab x c hfn hc)))).trans e1⟩
   · obtain ⟨o',e1⟩:=I.base.there b o e hx
     exact ⟨o',(hs.2 b (Nat.ne_of_lt (Nat.lt_of_lt_of_le (Heap.lt_size e) (I.ok.cab x c hfn hc)))).trans e1⟩
   · by_cases hj:j=i
     · subst hj
       rw [hi] at e1; cases e1
       rw [List.getElem?_set_self hiσ] at e2
       cases e2
       exact ⟨u,r,.inr ⟨.inl hk,c,hc,hc'⟩⟩
     · rw [List.getElem?_set_ne (Ne.symm hj)] at e2
       obtain ⟨u',r',q⟩:=hl j y v' e1 e2 e3
       refine ⟨u',r',?_⟩
       rcases q with q | ⟨k,c',e,z'⟩
       · exact .inl q
       · refine .inr ⟨k,c',e,z'.sameBut hs ?_⟩
         rintro rfl
         exact hj (sx hN e1 (I.ok.inj _ _ _ e hc ▸ hi))
   · by_cases hcc:c'=c
     · subst hcc; exact ⟨_,hc'⟩
     · obtain ⟨w2,z2⟩:=I.cell y c' e
       exact ⟨w2,z2.sameBut hs hcc⟩
   · obtain ⟨e,n,ne,nf,d⟩:=I.pin p hp
     refine ⟨(hs.2 p.1 ?_).trans e,n,ne,nf,d⟩
     intro q
     rw [q,hoc] at e
     have q':oc=p.2:=Option.some.inj e
     exact d w' (by rw [← q']; exact hocd)
theorem sy {M:Model} {A:Around} {E:Value→Shared→Prop} {i:Nat} {x:Str} {v:V} {u:Value} {Q:Unit→Shared→Prop} (I:Inv X pins σ H s) (hN:X.N.Nodup) (hi:X.N[i]? =some x) (hx:Loc X.env.scope x) (r:RelV v u)
  (h:∀ s',Inv X pins (σ.set i (some v)) H s'→Q () s') (hf:X.fn x=true∨X.env.scope.names.lookup x=some .local:=by first | exact .inl rfl | exact .inr rfl | assumption):wpAny M A (storeName X.env x u) Q E s:=
 qN I hN hi hx r (fun s' I' _=>h s' I') hf
theorem Inv.call' {s':Shared} {ch:List Addr} (I:Inv X pins σ H s) (ho:s'.os=s.os) (u:Un (frs X.stack) ch H H' s.heap s'.heap) (hok:HOk X.prog X.w H' s'.heap) (hg:AllBare s'.gens)
  (hch:∀ b∈ch,(b∈X.ex∨X.s₀.heap.objs.size≤b)∧b≠X.env.locals∧(∀ x c,X.env.cells.lookup x=some c→c≠b)∧∀ p∈X.pn++pins,p.1≠b):Inv X pins σ H' s':=by
 obtain ⟨h',g',d',t',o'⟩:=s'
 have e:o'=s.os:=ho
 subst e
 exact I.call (g':=g') (t':=t') (d':=d') u hok hg hch
end
abbrev XK:=Value→Option Addr→Hp→Prop
abbrev St:=List (Option V)
abbrev VK:=V→Hp→Prop
abbrev TE:=St→Hp→VK→Prop
abbrev TT:=St→Hp→(Bool→Hp→Prop)→Prop
abbrev TA:=St→Hp→(List V→Hp→Prop)→Prop
structure Ends where
 nx:St→Hp→Prop
 rt:VK
 bk:St→Hp→Prop:=fun _ _=>False
 ct:St→Hp→Prop:=fun _ _=>False
abbrev TS:=Ends→St→Hp→Prop
def EP (X:Cx) (pins:List (Addr × Obj)) (σ:St) (Q:VK) (u:Value) (s':Shared):Prop:=∃ v H',Inv X pins σ H' s'∧RelV v u∧Q v H'
def TP (X:Cx) (pins:List (Addr × Obj)) (σ:St) (Q:Bool→Hp→Prop) (b:Bool) (s':Shared):Prop:=∃ H',Inv X pins σ H' s'∧Q b H'
def AP (X:Cx) (pins:List (Addr × Obj)) (σ:St) (Q:List V→Hp→Prop) (us:List Value) (s':Shared):Prop:=∃ vs H',Inv X pins σ H' s'∧Vals vs us∧Q vs H'
def SP (X:Cx) (pins:List (Addr × Obj)) (D:Ends) (f:Flow) (s':Shared):Prop:=
 match f with
 | .next=>∃ σ' H',Inv X pins σ' H' s'∧D.nx σ' H'
 | .brk=>∃ σ' H',Inv X pins σ' H' s'∧D.bk σ' H'
 | .cont=>∃ σ' H',Inv X pins σ' H' s'∧D.ct σ' H'
 | .ret u=>∃ v σ' H',Inv X pins σ' H' s'∧RelV v u∧D.rt v H'
def PE (X:Cx) (e:Expr) (t:TE):Prop:=
 ∀ (pins:List (Addr × Obj)) (s:Shared) (σ:St) (H:Hp) (Q:VK),Inv X pins σ H s→t σ H Q→wpAny (model X.prog X.w) X.A (eval e X.env) (EP X pins σ Q) X.xe s
def PT (X:Cx) (e:Expr) (t:TT):Prop:=
 ∀ (pins:List (Addr × Obj)) (s:Shared) (σ:St) (H:Hp) (Q:Bool→Hp→Prop),Inv X pins σ H s→t σ H Q→wpAny (model X.prog X.w) X.A (isTrue e X.env (eval e X.env)) (TP X pins σ Q) X.xe s
def PW (X:Cx) (e:Expr) (t:TT):Prop:=
 ∀ (whole:Sem Value) (pins:List (Addr × Obj)) (s:Shared) (σ:St) (H:Hp) (Q:Bool→Hp→Prop),Inv X pins σ H s→t σ H Q→wpAny (model X.prog X.w) X.A (isTrue e X.env whole) (TP X pins σ Q) X.xe s
theorem PW.pt {X:Cx} {e:Expr} {t:TT} (h:PW X e t):PT X e t:=h _
def PA (X:Cx) (es:List Expr) (t:TA):Prop:=
 ∀ (pos:Pos) (pins:List (Addr × Obj)) (s:Shared) (σ:St) (H:Hp) (Q:List V→Hp→Prop),Inv X pins σ H s→t σ H Q→wpAny (model X.prog X.w) X.A (spliced (backTo pos (starEach es X.env))) (AP X pins σ Q) X.xe s
def PS (X:Cx) (st:Stmt) (t:TS):Prop:=
 ∀ (pins:List (Addr × Obj)) (s:Shared) (σ:St) (H:Hp) (D:Ends),Inv X pins σ H s→t D σ H→wpAny (model X.prog X.w) X.A (exec st X.env) (SP X pins D) X.xe s
def PSs (X:Cx) (st:List Stmt) (t:TS):Prop:=
 ∀ (pins:List (Addr × Obj)) (s:Shared) (σ:St) (H:Hp) (D:Ends),Inv X pins σ H s→t D σ H→wpAny (model X.prog X.w) X.A (execs st X.env) (SP X pins D) X.xe s
theorem thn {α:Type} {t:Sem α} {Q Q':α→Shared→Prop} {M:Model} {A:Around} {E:Value→Shared→Prop} {s:Shared} (h:wpAny M A t Q E s) (hQ:∀ a s,Q a s→Q' a s):wpAny M A t Q' E s:=wpAny_mono h hQ fun _ _ x=>x
end L2
namespace L2
open PySem PySem.Spec PyProof.Rows
section
variable {X:Cx}
def tVar (i:Nat):TE:=fun σ H Q=>∃ v,σ[i]? =some (some v)∧Q v H
def tC (v:V):TE:=fun _ H Q=>Q v H
theorem z8 {i:Nat} {x:Str} {pos:Pos} (hN:X.N[i]? =some x) (hv:Vis X.env.scope x) (hd:(x==("__debug__":Str))=false:=by decide) (hcd:(x==("__classdict__":Str))=false:=by decide):PE X (.Name x pos) (tVar i):=by
 intro pins s σ H Q I h
 obtain ⟨v,e,h⟩:=h
 obtain ⟨m,hn,hl⟩:=I.loc
 obtain ⟨u,r,l⟩:=hl i x v hN e hv
 have fin:EP X pins σ Q u s:=⟨v,H,I,r,h⟩
 rcases l with ⟨hk,hm⟩ | ⟨hk,c,hc,hcell⟩
 · exact wpAny_Name (wpAny_loadName_local I.ok.kind hk hn hm fin) hd
 · rcases hk with hk | hk
   · exact wpAny_Name (wpAny_loadName_cell I.ok.kind hk hc hcell fin) hd
   · exact wpAny_Name (wpAny_loadName_free I.ok.kind hk hc hcell fin hcd) hd
theorem af {i j pos}:PE X (.Constant (.int i) j pos) (tC (.int i)):=fun _ _ _ H _ I h=>wpAny_Constant_int ⟨.int i,H,I.tok _,⟨_,rfl⟩,h⟩
theorem bW {b j pos}:PE X (.Constant (.bool b) j pos) (tC (.bl b)):=fun _ _ _ H _ I h=>Constant_bool ⟨.bl b,H,I,rfl,h⟩
theorem sA {j pos}:PE X (.Constant .none j pos) (tC .non):=fun _ _ _ H _ I h=>Constant_none ⟨.non,H,I,rfl,h⟩
theorem aI {x j pos}:PE X (.Constant (.str x) j pos) (tC (.str x)):=fun _ _ _ H _ I h=>Calls.Constant_str ⟨.str x,H,I.tok _,⟨_,rfl⟩,h⟩
def Gl (X:Cx) (x:Str):Prop:=X.env.kindOf x=some .globalImplicit
theorem qj {E:Value→Shared→Prop} {pins:List (Addr × Obj)} {s:Shared} {σ:St} {H:Hp} {x:Str} {u:Value} {pos:Pos} {Q:Value→Shared→Prop} (I:Inv X pins σ H s) (hg:Gl X x) (hm:X.mg x=some u) (h:Q u s)
  (hd:(x==("__debug__":Str))=false:=by decide):wpAny (model X.prog X.w) X.A (eval (.Name x pos) X.env) Q E s:=
 Calls.Name_function_global I.ok.kind hg (Calls.loadGlobal_global (by rw [I.ok.glob]; exact I.mod.glob.keeps I.bk) hm h) hd
theorem gg {E:Value→Shared→Prop} {pins:List (Addr × Obj)} {s:Shared} {σ:St} {H:Hp} {x:Str} {u:Value} {pos:Pos} {Q:Value→Shared→Prop} (I:Inv X pins σ H s) (hg:Gl X x) (hm:X.mg x=none) (hv:bootBuiltins x=some u) (h:Q u s)
  (hn:x≠"__name__":=by decide) (hd:(x==("__debug__":Str))=false:=by decide):wpAny (model X.prog X.w) X.A (eval (.Name x pos) X.env) Q E s:=by
 obtain ⟨mb,h1,h2⟩:=I.mod.blt
 exact Calls.Name_function_global I.ok.kind hg (Calls.loadGlobal_builtin (by rw [I.ok.glob]; exact I.mod.glob.keeps I.bk) hm (by rw [I.ok.blt]; exact h1.keeps I.bk) ((h2 x hn).trans hv) h) hd
theorem cB {x:Str} {v:V} {u:Value} {pos:Pos} (hg:Gl X x) (hm:X.mg x=some u) (r:RelV v u) (hd:(x==("__debug__":Str))=false:=by decide):PE X (.Name x pos) (tC v):=
 fun _ _ _ H _ I h=>qj I hg hm ⟨v,H,I,r,h⟩ hd
theorem iX {x:Str} {v:V} {u:Value} {pos:Pos} (hg:Gl X x) (hm:X.mg x=none) (hv:bootBuiltins x=some u) (r:RelV v u) (hn:x≠"__name__":=by decide) (hd:(x==("__debug__":Str))=false:=by decide):PE X (.Name x pos) (tC v):=
 fun _ _ _ H _ I h=>gg I hg hm hv ⟨v,H,I,r,h⟩ hn hd
variable {a b:Expr} {ta tb:TE} {pos:Pos}
def tB (t:TE):TT:=fun σ H Q=>t σ H fun x H1=>∃ c,x=.bl c∧Q c H1
theorem aZ {e:Expr} {t:TE} (h:PE X e t) (he:∀ whole,isTrue e X.env whole=(do let v ← whole; standAt e.pos; holding [v] (truthy v)):=by intro _; rfl):PT X e (tB t):=by
 intro pins s σ H Q I hw
 refine isTrue_plain (thn (h pins s σ H _ I hw) fun v s1 ⟨x,H1,I1,r1,q1⟩=>?_) (he _)
 obtain ⟨d,rfl,q⟩:=q1
 cases r1
 exact wpAny_truthy_bool ⟨H1,I1,q⟩
variable {tA tB':TT} {rest:List Expr}
def tAnd (t u:TT):TT:=fun σ H Q=>t σ H fun c H1=>if c=true then u σ H1 Q else Q false H1
def tOr (t u:TT):TT:=fun σ H Q=>t σ H fun c H1=>if c=true then Q true H1 else u σ H1 Q
def tNot (t:TT):TT:=fun σ H Q=>t σ H fun c H1=>Q (!c) H1
theorem vc (ha:PT X a tA):PW X (.BoolOp .And [a] pos) tA:=by
 intro wh pins s σ H Q I h
 refine isTrue_and (thn (ha pins s σ H Q I h) fun c s1 e=>?_)
 cases c with
 | true=>exact isTrue_and_nil e
 | false=>exact e
theorem g6 (ha:PT X a tA):PW X (.BoolOp .Or [a] pos) tA:=by
 intro wh pins s σ H Q I h
 refine isTrue_or (thn (ha pins s σ H Q I h) fun c s1 e=>?_)
 cases c with
 | false=>exact isTrue_or_nil e
 | true=>exact e
theorem wT (ha:PT X a tA) (hb:PW X (.BoolOp .And (b::rest) pos) tB'):PW X (.BoolOp .And (a::b::rest) pos) (tAnd tA tB'):=by
 intro wh pins s σ H Q I h
 refine isTrue_and (thn (ha pins s σ H _ I h) fun c s1 ⟨H1,I1,q1⟩=>?_)
 cases c with
 | true=>exact hb wh pins s1 σ H1 Q I1 q1
 | false=>exact ⟨H1,I1,q1⟩
theorem gj (ha:PT X a tA) (hb:PW X (.BoolOp .Or (b::rest) pos) tB'):PW X (.BoolOp .Or (a::b::rest) pos) (tOr tA tB'):=by
 intro wh pins s σ H Q I h
 refine isTrue_or (thn (ha pins s σ H _ I h) fun c s1 ⟨H1,I1,q1⟩=>?_)
 cases c with
 | true=>exact ⟨H1,I1,q1⟩
 | false=>exact hb wh pins s1 σ H1 Q I1 q1
theorem bR (ha:PT X a tA):PT X (.UnaryOp .Not a pos) (tNot tA):=by
 intro pins s σ H Q I h
 exact isTrue_not (ha pins s σ H (fun c H1=>Q (!c) H1) I h)
def tAndV (ta tb:TE):TE:=fun σ H Q=>ta σ H fun x H1=>∃ c,x=.bl c∧if c=true then tb σ H1 Q else Q (.bl false) H1
def tOrV (ta tb:TE):TE:=fun σ H Q=>ta σ H fun x H1=>∃ c,x=.bl c∧if c=true then Q (.bl true) H1 else tb σ H1 Q
def tNotV (ta:TE):TE:=fun σ H Q=>ta σ H fun x H1=>∃ c,x=.bl c∧Q (.bl (!c)) H1
theorem c5 {op} {t:TE} (h:PE X a t):PE X (.BoolOp op [a] pos) t:=fun pins s σ H Q I hw=>BoolOp_one (h pins s σ H Q I hw)
theorem cK (ha:PE X a ta) (hb:PE X (.BoolOp .And (b::rest) pos) tb):PE X (.BoolOp .And (a::b::rest) pos) (tAndV ta tb):=by
 intro pins s σ H Q I h
 refine BoolOp_and (thn (ha pins s σ H _ I h) fun v s1 ⟨x,H1,I1,r1,q1⟩=>?_)
 obtain ⟨c,rfl,q1⟩:=q1
 cases r1
 refine wpAny_truthy_bool ?_
 cases c with
 | true=>exact hb pins s1 σ H1 Q I1 q1
 | false=>exact ⟨.bl false,H1,I1,rfl,q1⟩
theorem vD (ha:PE X a ta) (hb:PE X (.BoolOp .Or (b::rest) pos) tb):PE X (.BoolOp .Or (a::b::rest) pos) (tOrV ta tb):=by
 intro pins s σ H Q I h
 refine BoolOp_or (thn (ha pins s σ H _ I h) fun v s1 ⟨x,H1,I1,r1,q1⟩=>?_)
 obtain ⟨c,rfl,q1⟩:=q1
 cases r1
 refine wpAny_truthy_bool ?_
 cases c with
 | false=>exact hb pins s1 σ H1 Q I1 q1
 | true=>exact ⟨.bl true,H1,I1,rfl,q1⟩
theorem wU (ha:PE X a ta):PE X (.UnaryOp .Not a pos) (tNotV ta):=by
 intro pins s σ H Q I h
 refine UnaryOp_ (thn (ha pins s σ H _ I h) fun v s1 ⟨x,H1,I1,r1,q1⟩=>?_)
 obtain ⟨c,rfl,q1⟩:=q1
 cases r1
 exact not_of (wpAny_truthy_bool ⟨.bl (!c),H1,I1,rfl,q1⟩)
def tIf (t:TT) (ta tb:TE):TE:=fun σ H Q=>t σ H fun c H1=>if c=true then ta σ H1 Q else tb σ H1 Q
theorem n6 {c:Expr} (hc:PT X c tA) (ha:PE X a ta) (hb:PE X b tb):PE X (.IfExp c a b pos) (tIf tA ta tb):=by
 intro pins s σ H Q I h
 refine wpAny_IfExp (thn (hc pins s σ H _ I h) fun d s1 ⟨H1,I1,q1⟩=>?_)
 cases d with
 | true=>exact ha pins s1 σ H1 Q I1 q1
 | false=>exact hb pins s1 σ H1 Q I1 q1
end
end L2
namespace L2
open PySem PySem.Spec PyProof.Rows
def SqL (K:PySem.W.Frag) (H:Hp) (a:Addr) (xs:List V):Prop:=
 Rd H a (.lst xs)∨
  ∃ (o:Obj) (its:Array Value) (n:Nat),K.lookup a=some o∧o.cls=.type "list"∧o.dict=none∧o.data=.seq its n∧its.size≤sizeLine∧Vals xs its.toList
def SqT (K:PySem.W.Frag) (H:Hp) (a:Addr) (xs:List V):Prop:=
 Rd H a (.tup xs)∨
  ∃ (o:Obj) (its:Array Value) (n:Nat),K.lookup a=some o∧o.cls=.type "tuple"∧o.data=.seq its n∧its.size≤sizeLine∧Vals xs its.toList
def absV:Value→Option V
 | .none=>some .non
 | .bool b=>some (.bl b)
 | .int i _=>some (.int i)
 | .str x _=>some (.str x)
 | .bytes b _=>some (.byt b)
 | .float b _=>some (.flt b)
 | .ref a=>some (.ref a)
 | .type n=>some (.ty n)
 | _=>none
theorem RelV.abs {x:V} {u:Value} (r:RelV x u):absV u=some x:=by
 cases x with
 | non=>cases r; rfl
 | bl _=>cases r; rfl
 | int _=>obtain ⟨t,rfl⟩:=r; rfl
 | str _=>obtain ⟨t,rfl⟩:=r; rfl
 | byt _=>obtain ⟨t,rfl⟩:=r; rfl
 | flt _=>obtain ⟨t,rfl⟩:=r; rfl
 | ref _=>cases r; rfl
 | ty _=>cases r; rfl
theorem RelV.inj {x y:V} {u:Value} (r:RelV x u) (q:RelV y u):x=y:=Option.some.inj (r.abs.symm.trans q.abs)
theorem Vals.inj:∀ {xs ys:List V} {us:List Value},Vals xs us→Vals ys us→xs=ys
 | _,_,_,.nil,.nil=>rfl
 | _,_,_,.cons r t,.cons r' t'=>by rw [r.inj r',Vals.inj t t']
section
variable {X:Cx} {pins:List (Addr × Obj)} {σ:St} {H:Hp} {s:Shared} {a:Addr} {xs ys:List V}
theorem SqL.of {K:PySem.W.Frag} (h:H a=some (.lst xs)):SqL K H a xs:=.inl (.inl h)
theorem SqT.of {K:PySem.W.Frag} (h:H a=some (.tup xs)):SqT K H a xs:=.inl (.inl h)
theorem Inv.list (I:Inv X pins σ H s) (h:SqL X.K H a xs):∃ its:List Value,Vals xs its∧PlainL s.heap a its.toArray∧xs.length≤sizeLine:=by
 rcases h with h | ⟨o,its,n,hk,hc,hd,hs,hz,r⟩
 · obtain ⟨z,its,n,r,e⟩:=h.ok I.hok
   exact ⟨its,r,⟨_,n,e,rfl,rfl,rfl⟩,z⟩
 · refine ⟨its.toList,r,⟨o,n,I.kIn a o hk,hc,hd,by simpa using hs⟩,?_⟩
   have e:=r.length
   simp only [Array.length_toList] at e
   omega
theorem Inv.tuple (I:Inv X pins σ H s) (h:SqT X.K H a xs):∃ its:List Value,Vals xs its∧IsTup s.heap a its.toArray∧xs.length≤sizeLine:=by
 rcases h with h | ⟨o,its,n,hk,hc,hs,hz,r⟩
 · obtain ⟨z,its,r,p⟩:=h.ok I.hok
   exact ⟨its,r,p,z⟩
 · refine ⟨its.toList,r,⟨o,I.kIn a o hk,hc,n,by simpa using hs⟩,?_⟩
   have e:=r.length
   simp only [Array.length_toList] at e
   omega
theorem Inv.list_inj (I:Inv X pins σ H s) (h:SqL X.K H a xs) (h':SqL X.K H a ys):xs=ys:=by
 obtain ⟨its,r,⟨o,n,e,_,_,d⟩,_⟩:=I.list h
 obtain ⟨its',r',⟨o',n',e',_,_,d'⟩,_⟩:=I.list h'
 rw [e] at e'; cases e'
 rw [d] at d'
 injection d' with d1 _
 have:its=its':=by simpa using congrArg Array.toList d1
 subst this
 exact r.inj r'
theorem Inv.tuple_inj (I:Inv X pins σ H s) (h:SqT X.K H a xs) (h':SqT X.K H a ys):xs=ys:=by
 obtain ⟨its,r,⟨o,e,_,n,d⟩,_⟩:=I.tuple h
 obtain ⟨its',r',⟨o',e',_,n',d'⟩,_⟩:=I.tuple h'
 rw [e] at e'; cases e'
 rw [d] at d'
 injection d' with d1 _
 have:its=its':=by simpa using congrArg Array.toList d1
 subst this
 exact r.inj r'
end
abbrev Cx.wish (X:Cx) (E:Value→Shared→Prop):Cx:={ X with xe:=E }
abbrev Cx.nox (X:Cx):Cx:=X.wish fun _ _=>False
theorem Cx.Ok.wish {X:Cx} (ok:X.Ok) (E:Value→Shared→Prop):(X.wish E).Ok:=
 ⟨ok.mod,ok.kind,ok.glob,ok.blt,ok.above,ok.inj,ok.has,ok.cab,ok.hd,ok.frames,ok.stk,ok.exf,ok.bs,ok.bsz,ok.noex,ok.exfs,ok.funs,ok.frf⟩
theorem Cx.Ok.unwish {X:Cx} {E:Value→Shared→Prop} (ok:(X.wish E).Ok):X.Ok:=
 ⟨ok.mod,ok.kind,ok.glob,ok.blt,ok.above,ok.inj,ok.has,ok.cab,ok.hd,ok.frames,ok.stk,ok.exf,ok.bs,ok.bsz,ok.noex,ok.exfs,ok.funs,ok.frf⟩
section
variable {X:Cx} {pins:List (Addr × Obj)} {σ:St} {H:Hp} {s:Shared} {E:Value→Shared→Prop}
theorem Inv.wish (I:Inv X pins σ H s) (E:Value→Shared→Prop):Inv (X.wish E) pins σ H s:=⟨I.ok.wish E,I.os,I.bare,I.base,I.loc,I.cell,I.free,I.freeC,I.pin,I.hok,I.len⟩
theorem Inv.unwish (I:Inv (X.wish E) pins σ H s):Inv X pins σ H s:=⟨I.ok.unwish,I.os,I.bare,I.base,I.loc,I.cell,I.free,I.freeC,I.pin,I.hok,I.len⟩
theorem SP.unwish {D:Ends} {f:Flow} {s':Shared} (h:SP (X.wish E) pins D f s'):SP X pins D f s':=by
 cases f with
 | next=>obtain ⟨σ',H',I,q⟩:=h; exact ⟨σ',H',I.unwish,q⟩
 | brk=>obtain ⟨σ',H',I,q⟩:=h; exact ⟨σ',H',I.unwish,q⟩
 | cont=>obtain ⟨σ',H',I,q⟩:=h; exact ⟨σ',H',I.unwish,q⟩
 | ret u=>obtain ⟨v,σ',H',I,r,q⟩:=h; exact ⟨v,σ',H',I.unwish,r,q⟩
theorem PSs.nox {st:List Stmt} {t:TS} (h:PSs X.nox st t):PSs X st t:=fun pins s σ H D I hw=>
 wpAny_mono (h pins s σ H D (I.wish _) hw) (fun _ _ q=>q.unwish) fun _ _ z=>False.elim z
end
section
variable {X:Cx} {st:Stmt} {rest:List Stmt} {t u:TS} {e:Expr} {te:TE} {pos:Pos}
def tNext:TS:=fun D σ H=>D.nx σ H
def tSeq (t u:TS):TS:=fun D σ H=>t { D with nx:=u D } σ H
theorem ar:PSs X [] tNext:=fun _ _ σ H _ I h=>wpAny_execs_nil ⟨σ,H,I,h⟩
theorem ad (h1:PS X st t) (h2:PSs X rest u):PSs X (st::rest) (tSeq t u):=by
 intro pins s σ H D I h
 refine wpAny_execs_cons (thn (h1 pins s σ H { D with nx:=u D } I h) fun f s1 q=>?_)
 cases f with
 | next=>
  obtain ⟨σ',H',I',q⟩:=q
  exact h2 pins s1 σ' H' D I' q
 | ret v=>exact q
 | brk=>exact q
 | cont=>exact q
theorem ae (h1:PS X st t):PSs X [st] t:=by
 intro pins s σ H D I h
 refine wpAny_execs_cons (thn (h1 pins s σ H D I h) fun f s1 q=>?_)
 cases f with
 | next=>exact wpAny_execs_nil q
 | ret v=>exact q
 | brk=>exact q
 | cont=>exact q
theorem Inv.quiet {pins:List (Addr × Obj)} {σ:St} {H:Hp} {s:Shared} (I:Inv X pins σ H s):interactive X.env=false:=by simp [interactive,I.ok.kind]
def tDrop (te:TE):TS:=fun D σ H=>te σ H fun _ H1=>D.nx σ H1
theorem fK (he:PE X e te) (hs:swapsWith e none pos.line X.env=pure false:=by rfl):PS X (.Expr e pos) (tDrop te):=by
 intro pins s σ H D I h
 exact wpAny_Expr_any (thn (he pins s σ H _ I h) fun v s1 ⟨x,H1,I1,r1,q1⟩=>⟨σ,H1,I1,q1⟩) I.quiet hs
def tRet (te:TE):TS:=fun D σ H=>te σ H D.rt
theorem ai (he:PE X e te):PS X (.Return (some e) pos) (tRet te):=by
 intro pins s σ H D I h
 exact wpAny_Return_some (thn (he pins s σ H _ I h) fun v s1 ⟨x,H1,I1,r1,q1⟩=>⟨x,σ,H1,I1,r1,q1⟩)
def tRetN:TS:=fun D _ H=>D.rt .non H
def tIfS (c:TT) (t u:TS):TS:=fun D σ H=>c σ H fun b H1=>if b=true then t D σ H1 else u D σ H1
theorem aC {c:Expr} {a b:List Stmt} {tc:TT} (hc:PT X c tc) (ha:PSs X a t) (hb:PSs X b u):PS X (.If c a b pos) (tIfS tc t u):=by
 intro pins s σ H D I h
 refine wpAny_If (thn (hc pins s σ H _ I h) fun d s1 ⟨H1,I1,q1⟩=>?_)
 cases d with
 | true=>exact ha pins s1 σ H1 D I1 q1
 | false=>exact hb pins s1 σ H1 D I1 q1
def cq:TS:=fun _ _ _=>False
theorem bC:PS X st cq:=fun _ _ _ _ _ _ h=>h.elim
end
abbrev TG:=V→St→Hp→(St→Hp→Prop)→Prop
abbrev TGs:=List V→St→Hp→(St→Hp→Prop)→Prop
def PG (X:Cx) (target:Expr) (t:TG):Prop:=
 ∀ (pins:List (Addr × Obj)) (s:Shared) (σ:St) (H:Hp) (v:V) (u:Value) (Q:St→Hp→Prop),Inv X pins σ H s→RelV v u→t v σ H Q→
  wpAny (model X.prog X.w) X.A (assign target X.env u) (fun _ s'=>∃ σ' H',Inv X pins σ' H' s'∧Q σ' H') X.xe s
def PGs (X:Cx) (ts:List Expr) (t:TGs):Prop:=
 ∀ (pins:List (Addr × Obj)) (s:Shared) (σ:St) (H:Hp) (vs:List V) (us:List Value) (Q:St→Hp→Prop),Inv X pins σ H s→Vals vs us→t vs σ H Q→
  wpAny (model X.prog X.w) X.A (assignInOrder ((assignEach ts X.env).map (·.2)) us) (fun _ s'=>∃ σ' H',Inv X pins σ' H' s'∧Q σ' H') X.xe s
abbrev TSet:=V→V→V→Hp→(Hp→Prop)→Prop
section
variable {X:Cx} {pos:Pos}
def gName (i:Nat):TG:=fun v σ H Q=>Q (σ.set i (some v)) H
theorem aB {i:Nat} {x:Str} (hN:X.N.Nodup) (hi:X.N[i]? =some x) (hx:Loc X.env.scope x) (hf:X.fn x=true∨X.env.scope.names.lookup x=some .local:=by first | exact .inl rfl | exact .inr rfl | assumption):PG X (.Name x pos) (gName i):=by
 intro pins s σ H v u Q I r h
 exact wpAny_assign_Name (sy I hN hi hx r (fun s' I'=>⟨_,H,I',h⟩) hf)
def gNil:TGs:=fun vs σ H Q=>vs=[]∧Q σ H
def gCons (t:TG) (u:TGs):TGs:=fun vs σ H Q=>∃ v r,vs=v::r∧t v σ H fun σ' H'=>u r σ' H' Q
theorem qk:PGs X [] gNil:=by
 intro pins s σ H vs us Q I r h
 obtain ⟨e,h⟩:=h
 subst e
 cases r
 exact assignInOrder_nil ⟨σ,H,I,h⟩
theorem gF {e:Expr} {es:List Expr} {t:TG} {u:TGs} (h1:PG X e t) (h2:PGs X es u)
  (hs:(assignEach (e::es) X.env).map (·.2)=assign e X.env::(assignEach es X.env).map (·.2):=by rfl):PGs X (e::es) (gCons t u):=by
 intro pins s σ H vs us Q I r h
 obtain ⟨v,vr,e1,h⟩:=h
 subst e1
 cases r with
 | cons r rr=>
  rw [hs]
  refine assignInOrder_cons (thn (h1 pins s σ H _ _ _ I r h) fun _ s1 ⟨σ1,H1,I1,q1⟩=>?_)
  exact h2 pins s1 σ1 H1 _ _ Q I1 rr q1
def gTup (K:PySem.W.Frag) (n:Nat) (t:TGs):TG:=fun v σ H Q=>∃ a xs,v=.ref a∧SqT K H a xs∧xs.length=n∧t xs σ H Q
theorem sB {es:List Expr} {k:Nat} {t:TGs} {n:Nat} (hc:X.calm=true) (h:PGs X es t)
  (hn:(assignEach es X.env).length=n:=by rfl) (hst:(assignEach es X.env).findIdx? (·.1)=none:=by rfl):PG X (.Tuple es k pos) (gTup X.K n t):=by
 intro pins s σ H v u Q I r hw
 obtain ⟨a,xs,e1,hq,hl,hw⟩:=hw
 subst e1
 cases r
 obtain ⟨its,rv,ht,hz⟩:=I.tuple hq
 refine assign_Tuple_tuple (I.ok.hd hc) ht (by simp [hn,← hl,rv.length]) hst fun h' hx=>?_
 have I1:Inv X pins σ H { s with heap:=h' }:=I.kept (t':=s.toks) fun b o e=>hx b o (Nat.ne_of_lt (Heap.lt_size e)) e
 exact h pins _ σ H xs _ Q I1 (by simpa using rv) hw
def gSub (to ti:TE) (t:TSet):TG:=fun v σ H Q=>to σ H fun o H1=>ti σ H1 fun i H2=>t o i v H2 fun H3=>Q σ H3
def tAsg (te:TE) (g:TG):TS:=fun D σ H=>te σ H fun x H1=>g x σ H1 D.nx
theorem wV {tg e:Expr} {te:TE} {g:TG} (he:PE X e te) (hg:PG X tg g) (hs:swapsWithSole [tg] e pos.line X.env=pure false:=by rfl) (hw:swappedStores [tg] e X.env=pure none:=by rfl)
  (h1:(assignEach [tg] X.env).map (·.2)=[assign tg X.env]:=by rfl):PS X (.Assign [tg] e pos) (tAsg te g):=by
 intro pins s σ H D I h
 refine wpAny_Assign_stores (thn (he pins s σ H _ I h) fun v s1 ⟨x,H1,I1,r1,q1⟩=>?_) hs hw
 rw [h1]
 exact thn (hg pins s1 σ H1 x v _ I1 r1 q1) fun _ s2 q=>q
theorem av {i:Nat} {x:Str} {e:Expr} {te:TE} {pos':Pos} (hN:X.N.Nodup) (hi:X.N[i]? =some x) (hx:Loc X.env.scope x) (he:PE X e te) (hs:swapsWith e (some (.Name x pos')) pos.line X.env=pure false:=by rfl) (hf:X.fn x=true∨X.env.scope.names.lookup x=some .local:=by first | exact .inl rfl | exact .inr rfl | assumption):
  PS X (.Assign [.Name x pos'] e pos) (tAsg te (gName i)):=by
 intro pins s σ H D I h
 refine wpAny_Assign_Name (thn (he pins s σ H _ I h) fun v s1 ⟨y,H1,I1,r1,q1⟩=>?_) hs
 exact sy I1 hN hi hx r1 (fun s2 I2=>⟨_,H1,I2,q1⟩) hf
end
section
variable {X:Cx} {pos:Pos}
def wW (c:TT) (tb:TS):TS:=fun D σ H=>∃ W:Nat→St→Hp→Prop,(∃ m,W m σ H)∧∀ m σ H,W m σ H→
 c σ H fun b H1=>if b=true then ∃ N:St→Hp→Prop,(∀ σ' H',N σ' H'→∃ m',m' < m∧W m' σ' H')∧tb { D with nx:=N,ct:=N,bk:=D.nx } σ H1 else D.nx σ H1
theorem yu {c:Expr} {body:List Stmt} {tc:TT} {tb:TS} (hp:PassesOwn (model X.prog X.w) X.A X.env X.xe) (hc:PT X c tc) (hb:PSs X body tb):PS X (.While c body [] pos) (wW tc tb):=by
 intro pins s σ H D I h
 obtain ⟨W,⟨m0,w0⟩,turn⟩:=h
 refine wpAny_While (codeAny_whileLoop (fun n s'=>∃ σ' H',Inv X pins σ' H' s'∧W n σ' H') ?_ m0 ⟨σ,H,I,w0⟩)
 rintro n s1 ⟨σ1,H1,I1,w1⟩
 refine wpAny_passesOwn hp (thn (hc pins s1 σ1 H1 _ I1 (turn n σ1 H1 w1)) fun b s2 ⟨H2,I2,q2⟩=>?_)
 cases b with
 | true=>
  obtain ⟨N,hN,q2⟩:=q2
  rw [if_pos rfl]
  refine wpAny_passesOwn hp (thn (hb pins s2 σ1 H2 _ I2 q2) fun f s3 q3=>?_)
  cases f with
  | next=>
   obtain ⟨σ3,H3,I3,n3⟩:=q3
   obtain ⟨m',hm,w3⟩:=hN σ3 H3 n3
   exact ⟨m',hm,σ3,H3,I3,w3⟩
  | cont=>
   obtain ⟨σ3,H3,I3,n3⟩:=q3
   obtain ⟨m',hm,w3⟩:=hN σ3 H3 n3
   exact ⟨m',hm,σ3,H3,I3,w3⟩
  | brk=>exact q3
  | ret v=>exact q3
 | false=>
  rw [if_neg Bool.false_ne_true]
  exact wpAny_execs_nil ⟨σ1,H2,I2,q2⟩
end
structure It where
 go:Nat→Hp→Prop
 yld:Nat→Hp→V→Hp→Prop
 stop:Nat→Hp→Prop
def FpOk (X:Cx) (pins:List (Addr × Obj)) (H:Hp) (b:Addr):Prop:=
 H b=none∧b≠X.env.locals∧b∉X.fs∧(b∈X.ex∨X.s₀.heap.objs.size≤b)∧(∀ x c,X.env.cells.lookup x=some c→c≠b)∧∀ p∈X.pn++pins,p.1≠b
theorem Inv.fpOk {X:Cx} {pins:List (Addr × Obj)} {σ:St} {H H':Hp} {s:Shared} {b:Addr} (I:Inv X pins σ H s) (hb:s.heap.objs.size≤b) (hn:H' b=none):FpOk X pins H' b:=by
 refine ⟨hn,Nat.ne_of_gt (Nat.lt_of_lt_of_le I.lt hb),I.nofs hb,.inr (Nat.le_trans I.sz hb),fun x c e z=>?_,fun p hp z=>?_⟩
 · obtain ⟨v,q⟩:=I.cell x c e
   exact absurd (Nat.lt_of_lt_of_le q.lt (by rw [z]; exact hb)) (Nat.lt_irrefl _)
 · exact absurd (Nat.lt_of_lt_of_le (Heap.lt_size (I.pin p hp).1) (by rw [z]; exact hb)) (Nat.lt_irrefl _)
structure Turn (P:Program) (w:World) (K:PySem.W.Frag) (tg:Expr) (J:It) (fp:List Addr) (it:Addr) (tn:Nat→Heap→Prop):Prop where
 mem:it∈fp
 obj:∀ i h,tn i h→∀ b∈fp,∃ o,h.get? b=some o∧∀ v,o.data≠.cell v
 keep:∀ i h h',tn i h→(∀ b∈fp,∀ o,h.get? b=some o→h'.get? b=some o)→tn i h'
 item:∀ (X:Cx),X.prog=P→X.w=w→X.K=K→X.calm=true→∀ (i:Nat) (pins:List (Addr × Obj)) (s:Shared) (σ:St) (H:Hp) (E:Value→Shared→Prop),Inv X pins σ H s→(∀ b∈fp,FpOk X pins H b)→tn i s.heap→J.go i H→
  wpAny (model P w) X.A (pyNext (.ref it)) (fun r s1=>∃ u,r=some u∧
   wpAny (model P w) X.A (letOwnedTupleGo tg (.ref it) u) (fun _ s2=>∃ x H',Inv X pins σ H' s2∧RelV x u∧J.yld i H x H'∧tn (i+1) s2.heap∧∀ b∈fp,H' b=none) E s1) E s
 done:∀ (X:Cx),X.prog=P→X.w=w→X.K=K→X.calm=true→∀ (i:Nat) (pins:List (Addr × Obj)) (s:Shared) (σ:St) (H:Hp) (E:Value→Shared→Prop),Inv X pins σ H s→(∀ b∈fp,FpOk X pins H b)→tn i s.heap→J.stop i H→
  wpAny (model P w) X.A (pyNext (.ref it)) (fun r s1=>r=none∧Inv X pins σ H s1) E s
 self:∀ (A:Around) (i:Nat) (s:Shared) (Q:Value→Shared→Prop) (E:Value→Shared→Prop),tn i s.heap→Q (.ref it) s→wpAny (model P w) A (pyIter (.ref it)) Q E s
abbrev TI:=St→Hp→(It→Hp→Prop)→Prop
def PIE (X:Cx) (pins:List (Addr × Obj)) (σ:St) (tg:Expr) (R:It→Hp→Prop) (itv:Value) (s2:Shared):Prop:=
 ∃ (it:Addr) (fp:List Addr) (tn:Nat→Heap→Prop) (J:It) (H':Hp),itv=.ref it∧Inv X pins σ H' s2∧Turn X.prog X.w X.K tg J fp it tn∧tn 0 s2.heap∧(∀ b∈fp,FpOk X pins H' b)∧R J H'
def PI (X:Cx) (tg iter:Expr) (wi:TI):Prop:=
 ∀ (pins:List (Addr × Obj)) (s:Shared) (σ:St) (H:Hp) (R:It→Hp→Prop),Inv X pins σ H s→wi σ H R→
  wpAny (model X.prog X.w) X.A (eval iter X.env) (fun v s1=>wpAny (model X.prog X.w) X.A (pyIter v) (PIE X pins σ tg R) X.xe s1) X.xe s
theorem sj {M:Model} {A:Around} {E:Value→Shared→Prop} {s:Shared} {tg:Expr} {it:Addr} {u:Value} {o:Obj} {n:String} {vs:Array Value} {Q:Unit→Shared→Prop} (ho:s.heap.get? it=some o) (hc:o.cls=.type n) (hd:o.data=.fields vs)
  (hn:["enumerate","zip","dict_itemiterator","dict_reverseitemiterator","odict_iterator","itertools.zip_longest","itertools.pairwise"].contains n=false) (hQ:Q () s):wpAny M A (letOwnedTupleGo tg (.ref it) u) Q E s:=by
 unfold letOwnedTupleGo
 cases tg <;> first
  | exact wpAny_pure hQ
  | (cases u <;> first
    | exact wpAny_pure hQ
    | (refine wpAny_bind (wpAny_load ho ?_)
       rw [hc,hd]
       show wpAny M A (if (["enumerate","zip","dict_itemiterator","dict_reverseitemiterator","odict_iterator","itertools.zip_longest","itertools.pairwise"].contains n&&vs[0]? ==some (rawInt _))=true then _ else _) Q E s
       rw [if_neg (by intro h; rw [hn,Bool.false_and] at h; cases h)]
       exact wpAny_pure hQ))
def Itl (K:PySem.W.Frag) (a:Addr):It:=
 ⟨fun i H=>∃ xs x,SqL K H a xs∧xs[i]? =some x,fun i H x H'=>H'=H∧∀ xs,SqL K H a xs→xs[i]? =some x,fun i H=>∃ xs,SqL K H a xs∧xs.length≤i⟩
def Itt (K:PySem.W.Frag) (a:Addr):It:=
 ⟨fun i H=>∃ xs x,SqT K H a xs∧xs[i]? =some x,fun i H x H'=>H'=H∧∀ xs,SqT K H a xs→xs[i]? =some x,fun i H=>∃ xs,SqT K H a xs∧xs.length≤i⟩
def Itr (lo:Int) (n:Nat):It:=⟨fun i _=>i < n,fun i H x H'=>H'=H∧x=.int (lo+i),fun i _=>n≤i⟩
theorem wX {P:Program} {w:World} {K:PySem.W.Frag} {tg:Expr} (a it:Addr):Turn P w K tg (Itl K a) [it] it (fun i h=>h.IsListIter it a i) where
 mem:=by simp
 obj:=fun i h st b hb=>by
  have e:b=it:=by simpa using hb
  subst e
  obtain ⟨o,e,c,d⟩:=st
  exact ⟨o,e,fun v z=>by rw [d] at z; cases z⟩
 keep:=fun i h h' st k=>st.at fun o e=>k it (by simp) o e
 item:=by
  intro X hP hw hK hc i pins s σ H E I hf st hg
  subst hP hw hK
  obtain ⟨xs,x,hq,hx⟩:=hg
  obtain ⟨its,rv,p,hz⟩:=I.list hq
  obtain ⟨u,hu,ru⟩:=rv.get hx
  obtain ⟨f0,f1,f2,f3,f4,f5⟩:=hf it (by simp)
  refine wpAny_pyNext_list_item st p.isList (x:=u) (by simpa using hu) fun h' st' sb=>?_
  have I1:Inv X pins σ H { s with heap:=h' }:=I.turned (t':=s.toks) (fun b o hb e=>(sb.2 b hb).trans e) f0 f1 f3 f4 f5
  obtain ⟨o,e,c,d⟩:=id st'
  exact ⟨u,rfl,sj (s:={ s with heap:=h' }) e c d (by decide) ⟨x,H,I1,ru,⟨rfl,fun ys hy=>by rw [I.list_inj hy hq]; exact hx⟩,st',fun b hb=>(hf b hb).1⟩⟩
 done:=by
  intro X hP hw hK hc i pins s σ H E I hf st hg
  subst hP hw hK
  obtain ⟨xs,hq,hx⟩:=hg
  obtain ⟨its,rv,p,hz⟩:=I.list hq
  obtain ⟨f0,f1,f2,f3,f4,f5⟩:=hf it (by simp)
  have hl:=rv.length
  exact wpAny_pyNext_list_end (I.ok.hd hc) st p.isList (by simp; omega) fun h' eb=>⟨rfl,I.turned (t':=s.toks) (fun b o hb e=>eb b o hb e) f0 f1 f3 f4 f5⟩
 self:=fun _ _ _ _ _ st h=>wpAny_pyIter_listiter st h
theorem vE {P:Program} {w:World} {K:PySem.W.Frag} {tg:Expr} (a it:Addr):Turn P w K tg (Itt K a) [it] it (fun i h=>h.IsTupleIter it a i) where
 mem:=by simp
 obj:=fun i h st b hb=>by
  have e:b=it:=by simpa using hb
  subst e
  obtain ⟨o,e,c,d⟩:=st
  exact ⟨o,e,fun v z=>by rw [d] at z; cases z⟩
 keep:=fun i h h' st k=>st.at fun o e=>k it (by simp) o e
 item:=by
  intro X hP hw hK hc i pins s σ H E I hf st hg
  subst hP hw hK
  obtain ⟨xs,x,hq,hx⟩:=hg
  obtain ⟨its,rv,p,hz⟩:=I.tuple hq
  obtain ⟨u,hu,ru⟩:=rv.get hx
  obtain ⟨f0,f1,f2,f3,f4,f5⟩:=hf it (by simp)
  refine wpAny_pyNext_tuple_item st (show s.heap.IsTuple a its.toArray from p) (x:=u) (by simpa using hu) fun h' st' sb=>?_
  have I1:Inv X pins σ H { s with heap:=h' }:=I.turned (t':=s.toks) (fun b o hb e=>(sb.2 b hb).trans e) f0 f1 f3 f4 f5
  obtain ⟨o,e,c,d⟩:=id st'
  exact ⟨u,rfl,sj (s:={ s with heap:=h' }) e c d (by decide) ⟨x,H,I1,ru,⟨rfl,fun ys hy=>by rw [I.tuple_inj hy hq]; exact hx⟩,st',fun b hb=>(hf b hb).1⟩⟩
 done:=by
  intro X hP hw hK hc i pins s σ H E I hf st hg
  subst hP hw hK
  obtain ⟨xs,hq,hx⟩:=hg
  obtain ⟨its,rv,p,hz⟩:=I.tuple hq
  obtain ⟨f0,f1,f2,f3,f4,f5⟩:=hf it (by simp)
  have hl:=rv.length
  exact wpAny_pyNext_tuple_end (I.ok.hd hc) st (show s.heap.IsTuple a its.toArray from p) (by simp; omega) fun h' eb=>⟨rfl,I.turned (t':=s.toks) (fun b o hb e=>eb b o hb e) f0 f1 f3 f4 f5⟩
 self:=fun _ _ _ _ _ st h=>wpAny_pyIter_tupleiter st h
theorem vF {P:Program} {w:World} {K:PySem.W.Frag} {tg:Expr} (it:Addr) (lo:Int) (n:Nat):Turn P w K tg (Itr lo n) [it] it (fun i h=>IsRangeIter h it (lo+(i:Nat)*1) ((n:Int) - (i:Nat)) 1) where
 mem:=by simp
 obj:=fun i h st b hb=>by
  have e:b=it:=by simpa using hb
  subst e
  exact ⟨_,st,fun v z=>by
   have z':Data.fields _=Data.cell v:=z
   cases z'⟩
 keep:=fun i h h' st k=>k it (by simp) _ st
 item:=by
  intro X hP hw hK hc i pins s σ H E I hf st hg
  subst hP hw hK
  obtain ⟨f0,f1,f2,f3,f4,f5⟩:=hf it (by simp)
  have W:=Walks.range (prog:=X.prog) (w:=X.w) (I.ok.hd hc) it lo 1 n
  refine W.item i s _ _ hg st fun v h' tk hv st' kk=>?_
  obtain ⟨t,rfl⟩:=hv
  have I1:Inv X pins σ H { s with heap:=h',toks:=tk }:=I.turned (fun b o hb e=>kk b o (by simpa using hb) e) f0 f1 f3 f4 f5
  refine ⟨_,rfl,sj (s:={ s with heap:=h',toks:=tk }) (n:="range_iterator") st' rfl rfl (by decide) ⟨.int (lo+i),H,I1,⟨t,?_⟩,⟨rfl,rfl⟩,st',fun b hb=>(hf b hb).1⟩⟩
  rw [Int.mul_one]
 done:=by
  intro X hP hw hK hc i pins s σ H E I hf st hg
  subst hP hw hK
  obtain ⟨f0,f1,f2,f3,f4,f5⟩:=hf it (by simp)
  exact wpAny_pyNext_range_end (I.ok.hd hc) st (by have:n≤i:=hg; omega) fun h' eb=>⟨rfl,I.turned (t':=s.toks) (fun b o hb e=>eb b o hb e) f0 f1 f3 f4 f5⟩
 self:=fun _ _ _ _ _ st h=>wpAny_pyIter_rangeiter st h
end L2
namespace L2
open PySem PySem.Spec PyProof.Rows
section
variable {X:Cx} {tg:Expr}
def iList (K:PySem.W.Frag) (tl:TE):TI:=fun σ H R=>tl σ H fun x H1=>∃ a,x=.ref a∧(∃ xs,SqL K H1 a xs)∧R (Itl K a) H1
def iTup (K:PySem.W.Frag) (tl:TE):TI:=fun σ H R=>tl σ H fun x H1=>∃ a,x=.ref a∧(∃ xs,SqT K H1 a xs)∧R (Itt K a) H1
theorem aO {l:Expr} {tl:TE} (hl:PE X l tl):PI X tg l (iList X.K tl):=by
 intro pins s σ H R I h
 refine thn (hl pins s σ H _ I h) fun v s1 ⟨x,H1,I1,r1,q1⟩=>?_
 obtain ⟨a,e,⟨xs,hq⟩,q⟩:=q1
 subst e
 cases r1
 obtain ⟨its,rv,p,hz⟩:=I1.list hq
 refine wpAny_pyIter_list p.isList ?_
 refine ⟨s1.heap.objs.size,[s1.heap.objs.size],_,_,H1,rfl,I1.kept (t':=s1.toks) fun b o e=>Heap.get?_push_of_some _ e,wX a _,⟨_,Heap.get?_push_size _ rfl,rfl,rfl⟩,fun b hb=>?_,q⟩
 have e:b=s1.heap.objs.size:=by simpa using hb
 subst e
 exact I1.fpOk (Nat.le_refl _) (I1.hok.fresh (Nat.le_refl _))
theorem wY {l:Expr} {tl:TE} (hl:PE X l tl):PI X tg l (iTup X.K tl):=by
 intro pins s σ H R I h
 refine thn (hl pins s σ H _ I h) fun v s1 ⟨x,H1,I1,r1,q1⟩=>?_
 obtain ⟨a,e,⟨xs,hq⟩,q⟩:=q1
 subst e
 cases r1
 obtain ⟨its,rv,p,hz⟩:=I1.tuple hq
 refine wpAny_pyIter_tuple (show s1.heap.IsTuple a its.toArray from p) ?_
 refine ⟨s1.heap.objs.size,[s1.heap.objs.size],_,_,H1,rfl,I1.kept (t':=s1.toks) fun b o e=>Heap.get?_push_of_some _ e,vE a _,⟨_,Heap.get?_push_size _ rfl,rfl,rfl⟩,fun b hb=>?_,q⟩
 have e:b=s1.heap.objs.size:=by simpa using hb
 subst e
 exact I1.fpOk (Nat.le_refl _) (I1.hok.fresh (Nat.le_refl _))
theorem sC {pins:List (Addr × Obj)} {σ:St} {H:Hp} {s:Shared} {R:It→Hp→Prop} {E:Value→Shared→Prop} {lo hi:Int} {t u v:Tok} {tk:Nat} (I:Inv X pins σ H s) (h1: -(2^62)≤lo) (h2:lo < 2^62) (h3: -(2^62)≤hi) (h4:hi < 2^62)
  (q:R (Itr lo (hi - lo).toNat) H):wpAny (model X.prog X.w) X.A (pyIter (.ref s.heap.objs.size)) (PIE X pins σ tg R) E { s with heap:=s.heap.push { cls:=.type "range",data:=.fields #[.int lo t,.int hi u,.int 1 v] },toks:=tk }:=by
 refine wpAny_pyIter_range (IsRange.new ..) (small_one h1 h2 h3 h4) ?_
 have I1:Inv X pins σ H { s with heap:=s.heap.push { cls:=.type "range",data:=.fields #[.int lo t,.int hi u,.int 1 v] },toks:=tk }:=I.kept fun b o e=>Heap.get?_push_of_some _ e
 refine ⟨(s.heap.push { cls:=.type "range",data:=.fields #[.int lo t,.int hi u,.int 1 v] }).objs.size,[(s.heap.push { cls:=.type "range",data:=.fields #[.int lo t,.int hi u,.int 1 v] }).objs.size],_,_,H,rfl,
  I1.kept (t':=tk) fun b o e=>Heap.get?_push_of_some _ e,vF _ lo (hi - lo).toNat,?_,fun b hb=>?_,q⟩
 · have e1:lo+((0:Nat):Int)*1=lo:=by simp
   have e2:(((hi - lo).toNat:Nat):Int) - ((0:Nat):Int)=Builtin.Range.rangeSize lo hi 1:=by rw [rangeSize_one]; split <;> omega
   show IsRangeIter _ _ (lo+((0:Nat):Int)*1) ((((hi - lo).toNat:Nat):Int) - ((0:Nat):Int)) 1
   rw [e1,e2]
   exact Heap.get?_push_size _ rfl
 · have e:b=(s.heap.push { cls:=.type "range",data:=.fields #[.int lo t,.int hi u,.int 1 v] }).objs.size:=by simpa using hb
   subst e
   exact I1.fpOk (Nat.le_refl _) (I1.hok.fresh (Nat.le_refl _))
def cU (ta:TA):TI:=fun σ H R=>ta σ H fun vs H1=>∃ j:Int,vs=[.int j]∧ -(2^62)≤j∧j < 2^62∧R (Itr 0 j.toNat) H1
def oY (ta:TA):TI:=fun σ H R=>ta σ H fun vs H1=>∃ i j:Int,vs=[.int i,.int j]∧(-(2^62)≤i∧i < 2^62∧ -(2^62)≤j∧j < 2^62)∧R (Itr i (j - i).toNat) H1
theorem bF {a:Expr} {ta:TA} {p pos:Pos} (hg:Gl X "range") (hm:X.mg "range"=none) (ha:PA X [a] ta) (hs:starEach [a] X.env=[(false,eval a X.env)]:=by rfl):PI X tg (.Call (.Name "range" p) [a] [] pos) (cU ta):=by
 intro pins s σ H R I h
 refine Call_ (gg I hg hm boot_range (PyProof.Rows.callWith_type1 (thn (ha pos pins s σ H _ I h) fun us s1 ⟨vs,H1,I1,r1,q1⟩=>?_) hs rfl))
 obtain ⟨j,e,q1,q2,q⟩:=q1
 subst e
 cases r1 with
 | cons r rr=>
  cases rr
  obtain ⟨t,rfl⟩:=r
  exact call_range_1 (sC I1 (by omega) (by omega) q1 q2 (by simpa using q))
theorem wZ {a b:Expr} {ta:TA} {p pos:Pos} (hg:Gl X "range") (hm:X.mg "range"=none) (ha:PA X [a,b] ta) (hs:starEach [a,b] X.env=[(false,eval a X.env),(false,eval b X.env)]:=by rfl) (hs2:starEach [b] X.env=[(false,eval b X.env)]:=by rfl):
  PI X tg (.Call (.Name "range" p) [a,b] [] pos) (oY ta):=by
 intro pins s σ H R I h
 refine Call_ (gg I hg hm boot_range (PyProof.Rows.callWith_type1 (thn (ha pos pins s σ H _ I h) fun us s1 ⟨vs,H1,I1,r1,q1⟩=>?_) (by rw [hs,hs2]) (by rw [hs2]; rfl)))
 obtain ⟨i,j,e,⟨q1,q2,q3,q4⟩,q⟩:=q1
 subst e
 cases r1 with
 | cons r rr=>
  cases rr with
  | cons r' rr=>
   cases rr
   obtain ⟨t,rfl⟩:=r
   obtain ⟨t',rfl⟩:=r'
   exact call_range_2 (sC I1 q1 q2 q3 q4 q)
def tFor (wi:TI) (g:TG) (tb:TS):TS:=fun D σ H=>wi σ H fun J H1=>∃ W:Nat→Nat→St→Hp→Prop,(∃ m,W 0 m σ H1)∧∀ i m σ H,W i m σ H→
 (J.stop i H∧D.nx σ H)∨(J.go i H∧∃ N:St→Hp→Prop,(∀ σ' H',N σ' H'→∃ m',m' < m∧W (i+1) m' σ' H')∧∀ x H',J.yld i H x H'→g x σ H' fun σ2 H2=>tb { D with nx:=N,ct:=N,bk:=D.nx } σ2 H2)
def mB (fp:List Addr) (h:Heap):List (Addr × Obj):=fp.filterMap fun b=>(h.get? b).map fun o=>(b,o)
theorem jR {fp:List Addr} {h:Heap} {b:Addr} {o:Obj} (hb:b∈fp) (e:h.get? b=some o):(b,o)∈mB fp h:=List.mem_filterMap.mpr ⟨b,hb,by rw [e]; rfl⟩
theorem w5 {fp:List Addr} {h:Heap} {p:Addr × Obj} (hp:p∈mB fp h):p.1∈fp∧h.get? p.1=some p.2:=by
 obtain ⟨b,hb,e⟩:=List.mem_filterMap.mp hp
 cases q:h.get? b with
 | none=>rw [q] at e; cases e
 | some o=>
  rw [q] at e
  have e':(b,o)=p:=Option.some.inj e
  subst e'
  exact ⟨hb,q⟩
theorem Inv.pinned {pins:List (Addr × Obj)} {σ:St} {H:Hp} {s:Shared} {fp:List Addr} (I:Inv X pins σ H s) (hf:∀ b∈fp,FpOk X pins H b) (ho:∀ b∈fp,∃ o,s.heap.get? b=some o∧∀ v,o.data≠.cell v):Inv X (pins++mB fp s.heap) σ H s:=
 I.pins_of fun p hp=>(List.mem_append.mp hp).elim (fun z=>I.pin p (List.mem_append_right _ z)) fun z=>by
  obtain ⟨hb,e⟩:=w5 z
  obtain ⟨f0,f1,f2,_⟩:=hf p.1 hb
  obtain ⟨o,e',d⟩:=ho p.1 hb
  rw [e] at e'; cases e'
  exact ⟨e,f0,f1,f2,d⟩
theorem Inv.unpinned {pins pl:List (Addr × Obj)} {σ:St} {H:Hp} {s:Shared} (I:Inv X (pins++pl) σ H s):Inv X pins σ H s:=I.pins_of fun p hp=>I.pin p (List.mem_append_right _ (List.mem_append_left _ hp))
theorem c6 {iter:Expr} {body:List Stmt} {wi:TI} {g:TG} {tb:TS} {pos:Pos} (hp:PassesOwn (model X.prog X.w) X.A X.env X.xe) (hc:X.calm=true) (hi:PI X tg iter wi) (hg:PG X tg g) (hb:PSs X body tb)
  (hs:∀ x,foldedSetIterable iter X.env x=pure x:=by intro _; rfl):PS X (.For tg iter body [] pos) (tFor wi g tb):=by
 intro pins s σ H D I h
 refine wpAny_For (thn (hi pins s σ H _ I h) fun v s1 h1=>thn h1 fun itv s2 h2=>?_) hs
 obtain ⟨it,fp,tn,J,H2,e,I2,T,st2,f2,W,⟨m0,w0⟩,turn⟩:=h2
 subst e
 have stat:∀ {H':Hp},(∀ b∈fp,H' b=none)→∀ b∈fp,FpOk X pins H' b:=fun hn b hb=>⟨hn b hb,(f2 b hb).2⟩
 refine codeAny_forLoop_any (fun n s'=>∃ i σ' H',Inv X pins σ' H' s'∧tn i s'.heap∧(∀ b∈fp,H' b=none)∧W i n σ' H') ?_ m0 ⟨0,σ,H2,I2,st2,fun b hb=>(f2 b hb).1,w0⟩
 rintro n s3 ⟨i,σ3,H3,I3,st3,fr3,w3⟩
 rcases turn i n σ3 H3 w3 with ⟨stop,qn⟩ | ⟨go,N,hN,step⟩
 · refine wpAny_passesOwn hp (thn (T.done X rfl rfl rfl hc i pins s3 σ3 H3 X.xe I3 (stat fr3) st3 stop) fun r s4 ⟨hr,I4⟩=>?_)
   subst hr
   exact wpAny_execs_nil ⟨σ3,H3,I4,qn⟩
 · refine wpAny_passesOwn hp (thn (T.item X rfl rfl rfl hc i pins s3 σ3 H3 X.xe I3 (stat fr3) st3 go) fun r s4 ⟨u,hr,h4⟩=>?_)
   subst hr
   refine wpAny_passesOwn hp (thn h4 fun _ s5 ⟨x,H5,I5,r5,y5,st5,fr5⟩=>?_)
   have I5':=I5.pinned (stat fr5) (T.obj _ _ st5)
   refine wpAny_passesOwn hp (thn (hg _ s5 σ3 H5 x u _ I5' r5 (step x H5 y5)) fun _ s6 ⟨σ6,H6,I6,q6⟩=>?_)
   refine wpAny_passesOwn hp (thn (hb _ s6 σ6 H6 _ I6 q6) fun f s7 q7=>?_)
   have again:∀ {σ7:St} {H7:Hp},Inv X (pins++mB fp s5.heap) σ7 H7 s7→N σ7 H7→∃ m,m < n∧∃ i σ' H',Inv X pins σ' H' s7∧tn i s7.heap∧(∀ b∈fp,H' b=none)∧W i m σ' H':=fun {σ7 H7} I7 n7=>by
    obtain ⟨m',hm,w7⟩:=hN σ7 H7 n7
    refine ⟨m',hm,i+1,σ7,H7,I7.unpinned,T.keep _ _ _ st5 fun b hb o e=>(I7.pin (b,o) (List.mem_append_right _ (List.mem_append_right _ (jR hb e)))).1,fun b hb=>?_,w7⟩
    obtain ⟨o,e,d⟩:=T.obj _ _ st5 b hb
    exact (I7.pin (b,o) (List.mem_append_right _ (List.mem_append_right _ (jR hb e)))).2.1
   cases f with
   | next=>obtain ⟨σ7,H7,I7,n7⟩:=q7; exact again I7 n7
   | cont=>obtain ⟨σ7,H7,I7,n7⟩:=q7; exact again I7 n7
   | brk=>obtain ⟨σ7,H7,I7,q7⟩:=q7; exact ⟨σ7,H7,I7.unpinned,q7⟩
   | ret v=>obtain ⟨x7,σ7,H7,I7,r7,q7⟩:=q7; exact ⟨x7,σ7,H7,I7.unpinned,r7,q7⟩
end
theorem gG {K:PySem.W.Frag} {a:Addr} {xs:List V} {g:TG} {tb:TS} {D:Ends} {σ:St} {H:Hp} (Pv:Nat→St→Hp→Prop) (h0:Pv 0 σ H) (hl:∀ i σ H,i≤xs.length→Pv i σ H→SqL K H a xs)
  (hs:∀ i x σ H,xs[i]? =some x→Pv i σ H→g x σ H fun σ2 H2=>tb { D with nx:=Pv (i+1),ct:=Pv (i+1),bk:=D.nx } σ2 H2) (hd:∀ σ H,Pv xs.length σ H→D.nx σ H):
  ∃ W:Nat→Nat→St→Hp→Prop,(∃ m,W 0 m σ H)∧∀ i m σ H,W i m σ H→
   ((Itl K a).stop i H∧D.nx σ H)∨((Itl K a).go i H∧∃ N:St→Hp→Prop,(∀ σ' H',N σ' H'→∃ m',m' < m∧W (i+1) m' σ' H')∧∀ x H',(Itl K a).yld i H x H'→g x σ H' fun σ2 H2=>tb { D with nx:=N,ct:=N,bk:=D.nx } σ2 H2):=by
 refine ⟨fun i m σ H=>m=xs.length - i∧i≤xs.length∧Pv i σ H,⟨xs.length,by simp,Nat.zero_le _,h0⟩,?_⟩
 rintro i m σ H ⟨rfl,hi,p⟩
 have q:=hl i σ H hi p
 by_cases hlt:i < xs.length
 · refine .inr ⟨⟨xs,xs[i],q,by simp [hlt]⟩,Pv (i+1),fun σ' H' p'=>⟨xs.length - (i+1),by omega,rfl,hlt,p'⟩,fun x H' y=>?_⟩
   obtain ⟨e,y⟩:=y
   subst e
   exact hs i x σ _ (y xs q) p
 · have e:i=xs.length:=by omega
   subst e
   exact .inl ⟨⟨xs,q,Nat.le_refl _⟩,hd σ H p⟩
theorem gN {lo:Int} {n:Nat} {g:TG} {tb:TS} {D:Ends} {σ:St} {H:Hp} (Pv:Nat→St→Hp→Prop) (h0:Pv 0 σ H)
  (hs:∀ i σ H,i < n→Pv i σ H→g (.int (lo+i)) σ H fun σ2 H2=>tb { D with nx:=Pv (i+1),ct:=Pv (i+1),bk:=D.nx } σ2 H2) (hd:∀ σ H,Pv n σ H→D.nx σ H):
  ∃ W:Nat→Nat→St→Hp→Prop,(∃ m,W 0 m σ H)∧∀ i m σ H,W i m σ H→
   ((Itr lo n).stop i H∧D.nx σ H)∨((Itr lo n).go i H∧∃ N:St→Hp→Prop,(∀ σ' H',N σ' H'→∃ m',m' < m∧W (i+1) m' σ' H')∧∀ x H',(Itr lo n).yld i H x H'→g x σ H' fun σ2 H2=>tb { D with nx:=N,ct:=N,bk:=D.nx } σ2 H2):=by
 refine ⟨fun i m σ H=>m=n - i∧i≤n∧Pv i σ H,⟨n,by simp,Nat.zero_le _,h0⟩,?_⟩
 rintro i m σ H ⟨rfl,hi,p⟩
 by_cases hlt:i < n
 · refine .inr ⟨hlt,Pv (i+1),fun σ' H' p'=>⟨n - (i+1),by omega,rfl,hlt,p'⟩,fun x H' y=>?_⟩
   obtain ⟨e,y⟩:=y
   subst e y
   exact hs i σ _ hlt p
 · have e:i=n:=by omega
   subst e
   exact .inl ⟨Nat.le_refl _,hd σ H p⟩
end L2
namespace L2
open PySem PySem.Spec PyProof.Rows
abbrev R2:=V→V→Hp→VK→Prop
def OpR (X:Cx) (f:Value→Value→Sem Value) (r:R2):Prop:=
 ∀ (pins:List (Addr × Obj)) (s:Shared) (σ:St) (H:Hp) (x y:V) (v u:Value) (Q:VK),Inv X pins σ H s→RelV x v→RelV y u→r x y H Q→
  wpAny (model X.prog X.w) X.A (f v u) (EP X pins σ Q) X.xe s
def UnR (X:Cx) (f:Value→Sem Value) (r:V→Hp→VK→Prop):Prop:=
 ∀ (pins:List (Addr × Obj)) (s:Shared) (σ:St) (H:Hp) (x:V) (v:Value) (Q:VK),Inv X pins σ H s→RelV x v→r x H Q→
  wpAny (model X.prog X.w) X.A (f v) (EP X pins σ Q) X.xe s
def CallR (X:Cx) (f:Value) (r:List V→Hp→VK→Prop):Prop:=
 ∀ (pins:List (Addr × Obj)) (s:Shared) (σ:St) (H:Hp) (xs:List V) (us:List Value) (Q:VK),Inv X pins σ H s→Vals xs us→r xs H Q→
  wpAny (model X.prog X.w) X.A (call f us) (EP X pins σ Q) X.xe s
def tOp (r:R2) (ta tb:TE):TE:=fun σ H Q=>ta σ H fun x H1=>tb σ H1 fun y H2=>r x y H2 Q
def tUn (r:V→Hp→VK→Prop) (ta:TE):TE:=fun σ H Q=>ta σ H fun x H1=>r x H1 Q
def rI (C:Int→Int→Prop) (g:Int→Int→V):R2:=fun x y H Q=>∃ i j,x=.int i∧y=.int j∧C i j∧Q (g i j) H
def rI0 (g:Int→Int→V):R2:=fun x y H Q=>∃ i j,x=.int i∧y=.int j∧Q (g i j) H
def rU (g:Int→V):V→Hp→VK→Prop:=fun x H Q=>∃ i,x=.int i∧Q (g i) H
section
variable {X:Cx} {a b c:Expr} {ta tb tc:TE} {pos:Pos}
theorem binT (ha:PE X a ta) (hb:PE X b tb) {pins:List (Addr × Obj)} {s:Shared} {σ:St} {H:Hp} {R:V→V→Hp→Prop} (I:Inv X pins σ H s)
  (h:ta σ H fun x H1=>tb σ H1 fun y H2=>R x y H2) {Q:Value→Shared→Prop} {f:Value→Value→Sem Value}
  (hf:∀ v u s2 x y H2,Inv X pins σ H2 s2→RelV x v→RelV y u→R x y H2→wpAny (model X.prog X.w) X.A (f v u) Q X.xe s2):
  wpAny (model X.prog X.w) X.A (eval a X.env) (fun v s₁=>wpAny (model X.prog X.w) X.A (eval b X.env) (fun u s₂=>wpAny (model X.prog X.w) X.A (f v u) Q X.xe s₂) X.xe s₁) X.xe s:=by
 refine thn (ha pins s σ H _ I h) fun v s1 ⟨x,H1,I1,r1,q1⟩=>?_
 refine thn (hb pins s1 σ H1 _ I1 q1) fun u s2 ⟨y,H2,I2,r2,q2⟩=>?_
 exact hf v u s2 x y H2 I2 r1 r2 q2
theorem ao {op:Operator} {r:R2} (ho:OpR X (binaryOp op) r) (ha:PE X a ta) (hb:PE X b tb):PE X (.BinOp a op b pos) (tOp r ta tb):=by
 intro pins s σ H Q I h
 exact wpAny_BinOp (binT ha hb I h fun v u s2 x y H2 I2 rx ry q=>ho pins s2 σ H2 x y v u Q I2 rx ry q)
theorem AU {op:UnaryOp} {r:V→Hp→VK→Prop} (ho:UnR X (unaryOp op) r) (ha:PE X a ta):PE X (.UnaryOp op a pos) (tUn r ta):=by
 intro pins s σ H Q I h
 exact UnaryOp_ (thn (ha pins s σ H _ I h) fun v s1 ⟨x,H1,I1,r1,q1⟩=>ho pins s1 σ H1 x v Q I1 r1 q1)
theorem opI {f:Value→Value→Sem Value} {C:Int→Int→Prop} {g:Int→Int→Int}
  (rule:∀ (i j:Int) (t u:Tok) (s:Shared) (Q:Value→Shared→Prop) (E:Value→Shared→Prop),C i j→Q (.int (g i j) s.toks) { s with toks:=s.toks+1 }→wpAny (model X.prog X.w) X.A (f (.int i t) (.int j u)) Q E s):
  OpR X f (rI C fun i j=>.int (g i j)):=by
 intro pins s σ H x y v u Q I rx ry h
 obtain ⟨i,j,rfl,rfl,hc,q⟩:=h
 obtain ⟨t,rfl⟩:=rx
 obtain ⟨t',rfl⟩:=ry
 exact rule i j t t' s _ _ hc ⟨.int (g i j),H,I.tok _,⟨_,rfl⟩,q⟩
theorem vG {f:Value→Value→Sem Value} {g:Int→Int→Int}
  (rule:∀ (i j:Int) (t u:Tok) (s:Shared) (Q:Value→Shared→Prop) (E:Value→Shared→Prop),Q (.int (g i j) s.toks) { s with toks:=s.toks+1 }→wpAny (model X.prog X.w) X.A (f (.int i t) (.int j u)) Q E s):
  OpR X f (rI0 fun i j=>.int (g i j)):=by
 intro pins s σ H x y v u Q I rx ry h
 obtain ⟨i,j,rfl,rfl,q⟩:=h
 obtain ⟨t,rfl⟩:=rx
 obtain ⟨t',rfl⟩:=ry
 exact rule i j t t' s _ _ ⟨.int (g i j),H,I.tok _,⟨_,rfl⟩,q⟩
theorem vH {f:Value→Value→Sem Value} {g:Int→Int→Bool}
  (rule:∀ (i j:Int) (t u:Tok) (s:Shared) (Q:Value→Shared→Prop) (E:Value→Shared→Prop),Q (.bool (g i j)) s→wpAny (model X.prog X.w) X.A (f (.int i t) (.int j u)) Q E s):
  OpR X f (rI0 fun i j=>.bl (g i j)):=by
 intro pins s σ H x y v u Q I rx ry h
 obtain ⟨i,j,rfl,rfl,q⟩:=h
 obtain ⟨t,rfl⟩:=rx
 obtain ⟨t',rfl⟩:=ry
 exact rule i j t t' s _ _ ⟨.bl (g i j),H,I,rfl,q⟩
def CDiv (i j:Int):Prop:=0 < j∧j < 1073741824
def CPow (i j:Int):Prop:=0≤j∧j≤1000000∧i.natAbs < 2^64
def CMul (i j:Int):Prop:=(-(2^64) < i∧i < 2^64)∨(-(2^64) < j∧j < 2^64)
theorem CMul.ok {i j:Int} (h:CMul i j):IntMulOk i j:=by
 rcases h with ⟨h1,h2⟩ | ⟨h1,h2⟩
 · exact .of_left (intBits_le_64 h1 h2)
 · exact .of_right (intBits_le_64 h1 h2)
theorem vI (k:Nat):(0:Int)≤2^k:=by
 rw [two_pow_cast]
 exact Int.natCast_nonneg _
theorem z9:OpR X (binaryOp .Add) (rI0 fun i j=>.int (i+j)):=vG fun _ _ _ _ _ _ _ q=>add_int q
theorem Aa:OpR X (binaryOp .Sub) (rI0 fun i j=>.int (i - j)):=vG fun _ _ _ _ _ _ _ q=>sub_int q
theorem Ab:OpR X (binaryOp .Mult) (rI CMul fun i j=>.int (i*j)):=opI fun _ _ _ _ _ _ _ hc q=>mul_int q hc.ok
theorem zl:OpR X (binaryOp .FloorDiv) (rI CDiv fun i j=>.int (i / j)):=opI fun i j _ _ _ _ _ hc q=>by
 have h1:(0:Int) < j:=hc.1
 have h2:j < 1073741824:=hc.2
 exact floordiv_int (by omega) (by rw [Int.fdiv_eq_ediv_of_nonneg i (by omega)]; exact q) (.inl (PyProof.noPylong_small (by omega)))
theorem Ac:OpR X (binaryOp .Mod) (rI (fun _ j=>0 < j) fun i j=>.int (i % j)):=opI fun i j _ _ _ _ _ hc q=>by
 have h1:(0:Int) < j:=hc
 exact mod_int' (by omega) (by rw [Int.fmod_eq_emod_of_nonneg i (by omega)]; exact q)
theorem Ad:OpR X (binaryOp .RShift) (rI (fun _ j=>0≤j) fun i j=>.int (i / 2^j.toNat)):=opI fun i j _ _ _ _ _ hc q=>
 rshift_int hc (by rw [Int.fdiv_eq_ediv_of_nonneg i (vI _)]; exact q)
theorem Ae:OpR X (binaryOp .BitAnd) (rI0 fun i j=>.int (Builtin.bitAnd i j)):=vG fun _ _ _ _ _ _ _ q=>and_int q
theorem AV:OpR X (binaryOp .BitOr) (rI0 fun i j=>.int (Builtin.bitOr i j)):=vG fun _ _ _ _ _ _ _ q=>or_int q
theorem unI {f:Value→Sem Value} {g:Int→Int}
  (rule:∀ (i:Int) (t:Tok) (s:Shared) (Q:Value→Shared→Prop) (E:Value→Shared→Prop),Q (.int (g i) s.toks) { s with toks:=s.toks+1 }→wpAny (model X.prog X.w) X.A (f (.int i t)) Q E s):
  UnR X f (rU fun i=>.int (g i)):=by
 intro pins s σ H x v Q I rx h
 obtain ⟨i,rfl,q⟩:=h
 obtain ⟨t,rfl⟩:=rx
 exact rule i t s _ _ ⟨.int (g i),H,I.tok _,⟨_,rfl⟩,q⟩
theorem Af:UnR X (unaryOp .USub) (rU fun i=>.int (-i)):=unI fun _ _ _ _ _ q=>neg_int q
end
def scal:V→V→Bool
 | .non,.non=>true | .non,.int _=>true | .int _,.non=>true | .non,.bl _=>true | .bl _,.non=>true | .non,.str _=>true | .str _,.non=>true
 | .int _,.int _=>true | .bl _,.bl _=>true | .str _,.str _=>true | .byt _,.byt _=>true
 | .int _,.str _=>true | .str _,.int _=>true | .bl _,.str _=>true | .str _,.bl _=>true
 | _,_=>false
def rEq:R2:=fun x y H Q=>scal x y=true∧Q (.bl (decide (x=y))) H
def rNe:R2:=fun x y H Q=>scal x y=true∧Q (.bl (!decide (x=y))) H
theorem vd {i j:Int}:decide (V.int i=V.int j)=(i==j):=by
 rw [Bool.eq_iff_iff]
 simp
theorem w9 {i j:Bool}:decide (V.bl i=V.bl j)=(i==j):=by
 rw [Bool.eq_iff_iff]
 simp
theorem ve {i j:Str}:decide (V.str i=V.str j)=(i==j):=by
 rw [Bool.eq_iff_iff]
 simp
theorem vf {i j:Array UInt8}:decide (V.byt i=V.byt j)=(i.toList==j.toList):=by
 rw [Bool.eq_iff_iff]
 cases i
 cases j
 simp
section
variable {X:Cx} {a b c:Expr} {ta tb tc:TE} {pos:Pos}
theorem aN {pins:List (Addr × Obj)} {σ:St} {H:Hp} {s:Shared} {Q:VK} {k k':Bool} (I:Inv X pins σ H s) (q:Q (.bl k) H) (e:k=k'):EP X pins σ Q (.bool k') s:=by
 subst e
 exact ⟨.bl k,H,I,rfl,q⟩
theorem vJ:OpR X (compareOp .Eq) rEq:=by
 intro pins s σ H x y v u Q I rx ry h
 obtain ⟨hs,q⟩:=h
 cases x with
 | non=>
  cases rx
  cases y with
  | non=>cases ry; exact PySem.EqNone.eq_none_none (aN I q (by simp))
  | bl j=>cases ry; exact PySem.EqNone.eq_none_bool (aN I q (by simp))
  | int j=>obtain ⟨t',rfl⟩:=ry; exact PySem.EqNone.eq_none_int (aN I q (by simp))
  | str j=>obtain ⟨t',rfl⟩:=ry; exact PySem.EqNone.eq_none_str (aN I q (by simp))
  | _=>exact absurd (show false=true from hs) Bool.false_ne_true
 | bl i=>
  cases rx
  cases y with
  | non=>cases ry; exact PySem.EqNone.eq_bool_none (aN I q (by simp))
  | bl j=>cases ry; exact eq_bool (aN I q w9)
  | str j=>obtain ⟨t',rfl⟩:=ry; exact PySem.EqMixed.eq_bool_str (aN I q (by simp))
  | _=>exact absurd (show false=true from hs) Bool.false_ne_true
 | int i=>
  obtain ⟨t,rfl⟩:=rx
  cases y with
  | non=>cases ry; exact PySem.EqNone.eq_int_none (aN I q (by simp))
  | int j=>obtain ⟨t',rfl⟩:=ry; exact eq_int (aN I q vd)
  | str j=>obtain ⟨t',rfl⟩:=ry; exact PySem.EqMixed.eq_int_str (aN I q (by simp))
  | _=>exact absurd (show false=true from hs) Bool.false_ne_true
 | str i=>
  obtain ⟨t,rfl⟩:=rx
  cases y with
  | non=>cases ry; exact PySem.EqNone.eq_str_none (aN I q (by simp))
  | bl j=>cases ry; exact PySem.EqMixed.eq_str_bool (aN I q (by simp))
  | int j=>obtain ⟨t',rfl⟩:=ry; exact PySem.EqMixed.eq_str_int (aN I q (by simp))
  | str j=>obtain ⟨t',rfl⟩:=ry; exact eq_str (aN I q ve)
  | _=>exact absurd (show false=true from hs) Bool.false_ne_true
 | byt i=>
  obtain ⟨t,rfl⟩:=rx
  cases y with
  | byt j=>obtain ⟨t',rfl⟩:=ry; exact PySem.W.eq_bytes (aN I q vf)
  | _=>exact absurd (show false=true from hs) Bool.false_ne_true
 | _=>cases y <;> exact absurd (show false=true from hs) Bool.false_ne_true
theorem vK:OpR X (compareOp .NotEq) rNe:=by
 intro pins s σ H x y v u Q I rx ry h
 obtain ⟨hs,q⟩:=h
 cases x with
 | non=>
  cases rx
  cases y with
  | non=>cases ry; exact PySem.EqNone.ne_none_none (aN I q (by simp))
  | bl j=>cases ry; exact PySem.EqNone.ne_none_bool (aN I q (by simp))
  | int j=>obtain ⟨t',rfl⟩:=ry; exact PySem.EqNone.ne_none_int (aN I q (by simp))
  | str j=>obtain ⟨t',rfl⟩:=ry; exact PySem.EqNone.ne_none_str (aN I q (by simp))
  | _=>exact absurd (show false=true from hs) Bool.false_ne_true
 | bl i=>
  cases rx
  cases y with
  | non=>cases ry; exact PySem.EqNone.ne_bool_none (aN I q (by simp))
  | bl j=>cases ry; exact ne_bool (aN I q (congrArg not w9))
  | str j=>obtain ⟨t',rfl⟩:=ry; exact PySem.EqMixed.ne_bool_str (aN I q (by simp))
  | _=>exact absurd (show false=true from hs) Bool.false_ne_true
 | int i=>
  obtain ⟨t,rfl⟩:=rx
  cases y with
  | non=>cases ry; exact PySem.EqNone.ne_int_none (aN I q (by simp))
  | int j=>obtain ⟨t',rfl⟩:=ry; exact ne_int (aN I q (congrArg not vd))
  | str j=>obtain ⟨t',rfl⟩:=ry; exact PySem.EqMixed.ne_int_str (aN I q (by simp))
  | _=>exact absurd (show false=true from hs) Bool.false_ne_true
 | str i=>
  obtain ⟨t,rfl⟩:=rx
  cases y with
  | non=>cases ry; exact PySem.EqNone.ne_str_none (aN I q (by simp))
  | bl j=>cases ry; exact PySem.EqMixed.ne_str_bool (aN I q (by simp))
  | int j=>obtain ⟨t',rfl⟩:=ry; exact PySem.EqMixed.ne_str_int (aN I q (by simp))
  | str j=>obtain ⟨t',rfl⟩:=ry; exact ne_str (aN I q (congrArg not ve))
  | _=>exact absurd (show false=true from hs) Bool.false_ne_true
 | byt i=>
  obtain ⟨t,rfl⟩:=rx
  cases y with
  | byt j=>obtain ⟨t',rfl⟩:=ry; exact PySem.W.ne_bytes (aN I q (congrArg not vf))
  | _=>exact absurd (show false=true from hs) Bool.false_ne_true
 | _=>cases y <;> exact absurd (show false=true from hs) Bool.false_ne_true
theorem AW:OpR X (compareOp .Lt) (rI0 fun i j=>.bl (decide (i < j))):=vH fun _ _ _ _ _ _ _ q=>lt_int q
theorem AX:OpR X (compareOp .LtE) (rI0 fun i j=>.bl (decide (i≤j))):=vH fun _ _ _ _ _ _ _ q=>le_int q
theorem AY:OpR X (compareOp .Gt) (rI0 fun i j=>.bl (decide (j < i))):=vH fun _ _ _ _ _ _ _ q=>gt_int q
theorem AZ:OpR X (compareOp .GtE) (rI0 fun i j=>.bl (decide (j≤i))):=vH fun _ _ _ _ _ _ _ q=>ge_int q
theorem xa:OpR X (compareOp .In) (fun x y H Q=>∃ i j,x=.str i∧y=.str j∧Q (.bl (!(Builtin.Str.occurrences j i 0 j.length 1).isEmpty)) H):=by
 intro pins s σ H x y v u Q I rx ry h
 obtain ⟨i,j,rfl,rfl,q⟩:=h
 obtain ⟨t,rfl⟩:=rx
 obtain ⟨t',rfl⟩:=ry
 exact in_str (aN I q rfl)
theorem Ag:OpR X (compareOp .Is) (fun x y H Q=>y=.non∧Q (.bl (decide (x=.non))) H):=by
 intro pins s σ H x y v u Q I rx ry h
 obtain ⟨rfl,q⟩:=h
 cases ry
 refine is_none_gen (aN I q ?_)
 cases x <;> first
  | (cases rx; rfl)
  | (obtain ⟨t,rfl⟩:=rx; rfl)
theorem ap (b:Expr) {op:CmpOp} (h:op≠.In:=by decide) (h2:op≠.NotIn:=by decide):behindInMarks op b=false:=by
 have e1:(op==CmpOp.In)=false:=by cases op <;> first | rfl | exact absurd rfl h
 have e2:(op==CmpOp.NotIn)=false:=by cases op <;> first | rfl | exact absurd rfl h2
 cases b <;> simp [behindInMarks,e1,e2]
theorem aF {op:CmpOp} {r:R2} (ho:OpR X (compareOp op) r) (ha:PE X a ta) (hb:PE X b tb) (hm:behindInMarks op b=false):PE X (.Compare a [op] [b] pos) (tOp r ta tb):=by
 intro pins s σ H Q I h
 exact wpAny_Compare1 (binT ha hb I h fun v u s2 x y H2 I2 rx ry q=>ho pins s2 σ H2 x y v u Q I2 rx ry q) hm
def tTest (t:TE):TT:=fun σ H Q=>t σ H fun x H'=>∃ k,x=.bl k∧Q k H'
theorem ax {op:CmpOp} {r:R2} (ho:OpR X (compareOp op) r) (ha:PE X a ta) (hb:PE X b tb) (hm:behindInMarks op b=false):PT X (.Compare a [op] [b] pos) (tTest (tOp r ta tb)):=by
 intro pins s σ H Q I h
 refine wpAny_isTrue_Compare1 (thn (ha pins s σ H _ I h) fun v s1 ⟨x,H1,I1,r1,q1⟩=>thn (hb pins s1 σ H1 _ I1 q1) fun u s2 ⟨y,H2,I2,r2,q2⟩=>
  thn (ho pins s2 σ H2 x y v u _ I2 r1 r2 q2) fun c s3 ⟨z,H3,I3,r3,k,e,q3⟩=>?_) hm
 subst e
 cases r3
 exact wpAny_truthy_bool ⟨H3,I3,q3⟩
theorem mC:(sizeLine:Nat) < 2^63:=by rw [sizeLine_eq]; decide
theorem vL:OpR X (binaryOp .Add) (fun x y H Q=>∃ i j,x=.str i∧y=.str j∧i.length+j.length≤sizeLine∧Q (.str (i++j)) H):=by
 intro pins s σ H x y v u Q I rx ry h
 obtain ⟨i,j,rfl,rfl,hz,q⟩:=h
 obtain ⟨t,rfl⟩:=rx
 obtain ⟨t',rfl⟩:=ry
 exact add_str (fun t' tk=>⟨.str (i++j),H,I.tok _,⟨_,rfl⟩,q⟩) hz
theorem cL {x:V} {us:List Value} (r:Vals [x] us):∃ u,us=[u]∧RelV x u:=by
 cases r with
 | cons r1 r2=>cases r2; exact ⟨_,rfl,r1⟩
theorem A0 {x y:V} {us:List Value} (r:Vals [x,y] us):∃ u w',us=[u,w']∧RelV x u∧RelV y w':=by
 cases r with
 | cons r1 r2=>
  cases r2 with
  | cons r3 r4=>cases r4; exact ⟨_,_,rfl,r1,r3⟩
theorem qO:CallR X (.type "int") (fun xs H Q=>(∃ i,xs=[.int i]∧Q (.int i) H)∨∃ k,xs=[.bl k]∧Q (.int (if k then 1 else 0)) H):=by
 intro pins s σ H xs us Q I r h
 rcases h with ⟨i,rfl,q⟩ | ⟨k,rfl,q⟩
 · obtain ⟨u,rfl,t,rfl⟩:=cL r
   exact call_int_int ⟨.int i,H,I,⟨_,rfl⟩,q⟩
 · obtain ⟨u,rfl,r1⟩:=cL r
   cases r1
   exact call_int_bool ⟨.int (if k then 1 else 0),H,I.tok _,⟨_,rfl⟩,q⟩
end
end L2
namespace L2
open PySem PySem.Spec PyProof.Rows
structure ObjM (h:Heap) (x dx C:Addr) (mA:Str→Option Value):Prop where
 obj:h.get? x=some (PySem.W.instObj C dx)
 ns:h.Ns1 dx mA
 ne:dx≠x
theorem xb {h:Heap} {dx:Addr} {mA:Str→Option Value} (n:h.Ns1 dx mA):∃ od,h.get? dx=some od∧∀ name,PySem.W.lookIn name od=some (mA name):=by
 obtain ⟨o,es,ep,ho,hd,hk,_,hm⟩:=n
 refine ⟨o,ho,fun name=>?_⟩
 have e:=hm name
 unfold nsFind findBy at e
 rw [← Array.find?_toList] at e
 unfold PySem.W.lookIn
 rw [hd]
 dsimp only
 split
 · rename_i y q
   rw [q] at e
   exact congrArg some e
 · rename_i q
   rw [q] at e
   have a:es.toList.any (·.refKey)=false:=by
    rw [List.any_eq_false]
    intro y hy
    obtain ⟨z,t,hkey⟩:=hk y (Array.mem_toList_iff.mp hy)
    simp [DictEntry.refKey,hkey]
   have a':¬ es.toList.any (·.refKey)=true:=by rw [a]; exact Bool.false_ne_true
   rw [if_neg a']
   exact congrArg some e
theorem ObjM.look {h:Heap} {x dx C:Addr} {mA:Str→Option Value} (I:ObjM h x dx C mA):∃ od,PySem.W.InstAt h x (PySem.W.instObj C dx) C (some od)∧∀ name,PySem.W.lookIn name od=some (mA name):=
 let ⟨od,ho,hl⟩:=xb I.ns
 ⟨od,⟨I.obj,rfl,rfl,ho⟩,hl⟩
section
variable {prog:Program} {w:World} {A:Around} {E:Value→Shared→Prop} {s:Shared} {K:PySem.W.Frag} {x dx C f:Addr} {mA:Str→Option Value} {name:Str} {v:Value}
theorem zm {expr:Bool} {Q:Value→Shared→Prop} (X:K.In s.heap) (I:ObjM s.heap x dx C mA) (hg:PySem.W.plainGet K C name=true) (hh:PySem.W.hasDictIn K C=true)
  (ha:PySem.W.findIn K (.ref C) name=some none) (hv:mA name=some v) (hv':PySem.W.handedIn v=true) (h:Q v { s with toks:=s.toks+1 }):
  wpAny (model prog w) A (getAttr (.ref x) name expr) Q E s:=by
 obtain ⟨od,J,hl⟩:=I.look
 exact PySem.W.get_value X J (PySem.W.plainGet_of hg).1 (PySem.W.findObj_own hh ha rfl (by rw [hl,hv])) hv' h
theorem yw {pl:Sem Bool} {Q:Value × List Value→Shared→Prop} (X:K.In s.heap) (I:ObjM s.heap x dx C mA) (hg:PySem.W.plainGet K C name=true)
  (hf:PySem.W.findIn K (.ref C) name=some (some (.ref f))) (ht:PySem.W.isFn K (.ref f)=true) (hv:mA name=none) (h:Q (.ref f,[.ref x]) s):
  wpAny (model prog w) A (getMethod (.ref x) name pl) Q E s:=by
 obtain ⟨od,J,hl⟩:=I.look
 exact PySem.W.method_fn X J (PySem.W.plainGet_of hg).1 (PySem.W.plainGet_of hg).2 hf (beq_iff_eq.mp ht) (by show (PySem.W.lookIn name od).map (·.isSome)=some false; rw [hl,hv]; rfl) h
theorem zn {ns:List Str} {Q:Unit→Shared→Prop} (X:K.In s.heap) (I:ObjM s.heap x dx C mA)
  (hs:PySem.W.findIn K (.ref C) "__setattr__"=some (some (.builtin "object.__setattr__"))) (hp:PySem.W.plainOver K C=true) (ht:PySem.W.takerIn K C name=some none) (hh:PySem.W.hasDictIn K C=true)
  (hw:PySem.Within mA ns) (hsz:ns.length≤sizeLine)
  (h:∀ h',ObjM h' x dx C (fun y=>if y=name then some v else mA y)→Heap.SameBut dx s.heap h'→Q () { s with heap:=h',toks:=s.toks+2 }):
  wpAny (model prog w) A (setAttr (.ref x) name v) Q E s:=by
 obtain ⟨od,J,hl⟩:=I.look
 refine PySem.W.set_plain X J hs (PySem.W.osa_open (s:={ s with toks:=s.toks+1 }) (r:=none) X J hp ht fun b=>?_)
 obtain ⟨cd,hc,hd'⟩:=PySem.W.any_some hh
 have hx:s.heap.get? x=some ⟨.ref C,some dx,.plain,#[]⟩:=I.obj
 refine wpAny_bind (wpAny_pure (wpAny_bind (wpAny_bind (wpAny_loadPart hx (wpAny_bind (PySem.W.Looks.here (s:={ s with toks:=s.toks+1 }) (PySem.W.looks_clsIn X hc) ?_))))))
 rw [hd']
 refine wpAny_pure (a:=some dx) (wpAny_bind (wpAny_pure (wpAny_bind ?_)))
 refine wpAny_nsSet1 (s:={ s with toks:=s.toks+1 }) I.ns fun h' hn2 hs2=>?_
 obtain ⟨oD,esD,epD,hoD,hdD,hcD⟩:=hn2.count (PySem.Within.cons name v hw)
 refine wpAny_bind (wpAny_lookBehind hoD (by rw [hdD]; exact pastItsLine_dict (Nat.le_trans hcD (by rw [List.length_cons]; omega))) ?_)
 exact wpAny_pure (h _ ⟨(hs2.2 _ (Ne.symm I.ne)).trans I.obj,hn2,I.ne⟩ hs2)
theorem yx {R:Result→Shared→Prop} {vs:List Value} {kw:List (Str × Value)} (X:K.In s.heap) (hm:PySem.W.makesIn K C=true)
  (hi:PySem.W.findIn K (.ref C) "__init__"=some (some (.ref f))) (hf:PySem.W.typeIn K (.ref f)=some (.type "function"))
  (h:codeAny (model prog w) (A.under (.builtin "type.__call__" ⟨.ref C::vs,kw⟩)) (.call (.ref f) ⟨.ref (s.heap.objs.size+1)::vs,kw⟩) (PySem.W.InitBack (s.heap.objs.size+1) R)
   { s with heap:=(s.heap.push PySem.W.emptyDict).push (PySem.W.instObj C s.heap.objs.size) }):
  codeAny (model prog w) A (.call (.ref C) ⟨vs,kw⟩) R s:=by
 obtain ⟨hh,g,d,t,os⟩:=s
 exact PySem.W.make_core (PySem.W.makes_of X hm) (PySem.W.looks_findIn X hi) (fun self=>PySem.W.bind_fn X self hf) (.inl rfl) h
end
def putF (f:Str) (v:V):List (Str × V)→List (Str × V)
 | []=>[(f,v)]
 | (g,x)::r=>if g=f then (g,v)::r else (g,x)::putF f v r
theorem nT (f g:Str) (v:V):∀ fs:List (Str × V),(putF f v fs).lookup g=if g=f then some v else fs.lookup g
 | []=>by
  show List.lookup g [(f,v)]=_
  by_cases h:g=f
  · have hb:(g==f)=true:=beq_iff_eq.mpr h
    simp only [List.lookup,hb,if_pos h]
  · have hb:(g==f)=false:=beq_eq_false_iff_ne.mpr h
    simp only [List.lookup,hb,if_neg h]
 | (k,x)::r=>by
  have ih:=nT f g v r
  rw [show putF f v ((k,x)::r)=(if k=f then (k,v)::r else (k,x)::putF f v r) from rfl]
  by_cases hk:k=f
  · rw [if_pos hk]
    by_cases h:g=k
    · have hb:(g==k)=true:=beq_iff_eq.mpr h
      simp only [List.lookup,hb,if_pos (h.trans hk)]
    · have hb:(g==k)=false:=beq_eq_false_iff_ne.mpr h
      simp only [List.lookup,hb,if_neg (fun e:g=f=>h (e.trans hk.symm))]
  · rw [if_neg hk]
    by_cases h:g=k
    · have hb:(g==k)=true:=beq_iff_eq.mpr h
      simp only [List.lookup,hb,if_neg (fun e:g=f=>hk (h.symm.trans e))]
    · have hb:(g==k)=false:=beq_eq_false_iff_ne.mpr h
      simp only [List.lookup,hb]
      exact ih
theorem mD (f:Str) (v:V):∀ fs:List (Str × V),f∈(putF f v fs).map (·.1)∧∀ g,g∈fs.map (·.1)→g∈(putF f v fs).map (·.1)
 | []=>⟨by simp [putF],fun g h=>by simp at h⟩
 | (k,x)::r=>by
  obtain ⟨i1,i2⟩:=mD f v r
  rw [show putF f v ((k,x)::r)=(if k=f then (k,v)::r else (k,x)::putF f v r) from rfl]
  by_cases hk:k=f
  · rw [if_pos hk]
    subst hk
    exact ⟨by simp,fun g h=>by simpa using h⟩
  · rw [if_neg hk]
    refine ⟨?_,fun g h=>?_⟩
    · rw [List.map_cons]
      exact List.mem_cons_of_mem _ i1
    · rw [List.map_cons] at h ⊢
      rcases List.mem_cons.mp h with e | e
      · exact List.mem_cons.mpr (.inl e)
      · exact List.mem_cons_of_mem _ (i2 g e)
theorem nU (f:Str) (v:V):∀ fs:List (Str × V),(putF f v fs).length≤fs.length+1
 | []=>by simp [putF]
 | (k,x)::r=>by
  have ih:=nU f v r
  rw [show putF f v ((k,x)::r)=(if k=f then (k,v)::r else (k,x)::putF f v r) from rfl]
  by_cases hk:k=f
  · rw [if_pos hk,List.length_cons,List.length_cons]; omega
  · rw [if_neg hk,List.length_cons,List.length_cons]; omega
theorem RelO.some_of {v:V} {o:Option Value} (r:RelO (some v) o):∃ u,o=some u∧RelV v u:=by
 cases o with
 | none=>exact (show False from r).elim
 | some u=>exact ⟨u,rfl,r⟩
theorem RelO.none_of {o:Option Value} (r:RelO none o):o=none:=by
 cases o with
 | none=>rfl
 | some u=>exact (show False from r).elim
theorem xc {v:V} {u:Value} (r:RelV v u):PySem.W.handedIn u=true:=by
 cases v with
 | non=>cases (show u=Value.none from r); rfl
 | bl b=>cases (show u=Value.bool b from r); rfl
 | int i=>obtain ⟨t,e⟩:=(show ∃ t,u=Value.int i t from r); cases e; rfl
 | str x=>obtain ⟨t,e⟩:=(show ∃ t,u=Value.str x t from r); cases e; rfl
 | byt b=>obtain ⟨t,e⟩:=(show ∃ t,u=Value.bytes b t from r); cases e; rfl
 | flt b=>obtain ⟨t,e⟩:=(show ∃ t,u=Value.float b t from r); cases e; rfl
 | ref a=>cases (show u=Value.ref a from r); rfl
 | ty n=>cases (show u=Value.type n from r); rfl
section
variable {P:Program} {w:World} {H H':Hp} {h h':Heap} {a C dx:Addr} {fs fs':List (Str × V)}
theorem nr (hok:HOk P w H h) (e:H a=some (.ins C dx fs)):∃ mA,ObjM h a dx C mA∧(∀ f,RelO (fs.lookup f) (mA f))∧PySem.Within mA (fs.map (·.1))∧fs.length≤1000∧H dx=some (.own a):=by
 obtain ⟨d,z,ne,ob,mA,n,r,q⟩:=(show ObjOk P w H h a (.ins C dx fs) from hok a _ e)
 exact ⟨mA,⟨ob,n,ne⟩,r,q,z,d⟩
end
structure Cls (K:PySem.W.Frag) (C:Addr):Prop where
 pg:PySem.W.plainGet K C Str.empty=true
 hd:PySem.W.hasDictIn K C=true
 po:PySem.W.plainOver K C=true
 sa:PySem.W.findIn K (.ref C) "__setattr__"=some (some (.builtin "object.__setattr__"))
theorem Cls.get {K:PySem.W.Frag} {C:Addr} (c:Cls K C) (f:Str):PySem.W.plainGet K C f=true:=c.pg
def NoAttr (K:PySem.W.Frag) (C:Addr) (f:Str):Prop:=PySem.W.findIn K (.ref C) f=some none
theorem NoAttr.taker {K:PySem.W.Frag} {C:Addr} {f:Str} (n:NoAttr K C f):PySem.W.takerIn K C f=some none:=by
 unfold PySem.W.takerIn
 rw [show PySem.W.findIn K (.ref C) f=some none from n]
 rfl
structure Meth (K:PySem.W.Frag) (C:Addr) (m:Str) (f:Addr):Prop where
 at_:PySem.W.findIn K (.ref C) m=some (some (.ref f))
 fn:PySem.W.isFn K (.ref f)=true
 kp:PySem.W.keepIn K (.ref f)=true
section
variable {X:Cx} {pins:List (Addr × Obj)} {σ:St} {H:Hp} {s:Shared} {a C dx:Addr} {fs:List (Str × V)} {f:Str} {v:V} {A:Around} {E:Value→Shared→Prop}
theorem vM {b:Bool} {Q:Value→Shared→Prop} (I:Inv X pins σ H s) (e:H a=some (.ins C dx fs)) (c:Cls X.K C) (n:NoAttr X.K C f) (l:fs.lookup f=some v)
  (h:∀ u s',Inv X pins σ H s'→RelV v u→Q u s'):wpAny (model X.prog X.w) A (getAttr (.ref a) f b) Q E s:=by
 obtain ⟨mA,O,r,_,_,_⟩:=nr I.hok e
 obtain ⟨u,hu,ru⟩:=RelO.some_of (v:=v) (o:=mA f) (by rw [← l]; exact r f)
 exact zm I.kIn O (c.get f) c.hd n hu (xc ru) (h u _ (I.tok _) ru)
theorem oZ {m:Str} {g:Addr} {pl:Sem Bool} {Q:Value × List Value→Shared→Prop} (I:Inv X pins σ H s) (e:H a=some (.ins C dx fs)) (c:Cls X.K C) (k:Meth X.K C m g) (l:fs.lookup m=none)
  (h:Q (.ref g,[.ref a]) s):wpAny (model X.prog X.w) A (getMethod (.ref a) m pl) Q E s:=by
 obtain ⟨mA,O,r,_,_,_⟩:=nr I.hok e
 have hn:mA m=none:=RelO.none_of (by rw [← l]; exact r m)
 exact yw I.kIn O (c.get m) k.at_ k.fn hn h
theorem vN {y:V} {u:Value} {Q:Unit→Shared→Prop} (I:Inv X pins σ H s) (e:H a=some (.ins C dx fs)) (c:Cls X.K C) (n:NoAttr X.K C f) (hl:fs.length < 1000) (ry:RelV y u)
  (h:∀ s',Inv X pins σ (upd H a (.ins C dx (putF f y fs))) s'→Q () s'):wpAny (model X.prog X.w) A (setAttr (.ref a) f u) Q E s:=by
 obtain ⟨mA,O,r,wi,_,ho⟩:=nr I.hok e
 have hz:(fs.map (·.1)).length≤sizeLine:=by rw [List.length_map,sizeLine_eq]; omega
 refine zn I.kIn O c.sa c.po n.taker c.hd wi hz fun h' O' sb=>h _ ?_
 have hd:∃ o,h'.get? dx=some o:=let ⟨o,_,_,e',_⟩:=O'.ns; ⟨o,e'⟩
 refine I.write (x:=a) (e:=dx) (by rw [e]; exact True.intro) (.inr ho) (fun b q hb z=>(sb.2 b hb).trans z) hd ?_
 refine ⟨by rw [aj O.ne]; exact ho,?_,O.ne,O'.obj,_,O'.ns,fun g=>?_,fun g hg=>?_⟩
 · have:=nU f y fs; omega
 · show RelO ((putF f y fs).lookup g) (if g=f then some u else mA g)
   rw [nT]
   by_cases q:g=f
   · rw [if_pos q,if_pos q]; exact ry
   · rw [if_neg q,if_neg q]; exact r g
 · by_cases q:g=f
   · rw [q]; exact (mD f y fs).1
   · refine (mD f y fs).2 g (wi g fun z=>hg ?_)
     show (if g=f then some u else mA g)=none
     rw [if_neg q]; exact z
theorem Inv.made (I:Inv X pins σ H s):Inv X pins σ (upd (upd H s.heap.objs.size (.own (s.heap.objs.size+1))) (s.heap.objs.size+1) (.ins C s.heap.objs.size []))
  { s with heap:=(s.heap.push PySem.W.emptyDict).push (PySem.W.instObj C s.heap.objs.size) }:=by
 have e1:(s.heap.push PySem.W.emptyDict).get? s.heap.objs.size=some PySem.W.emptyDict:=Heap.get?_push_size s.heap rfl
 have e2:((s.heap.push PySem.W.emptyDict).push (PySem.W.instObj C s.heap.objs.size)).get? (s.heap.objs.size+1)=some (PySem.W.instObj C s.heap.objs.size):=by
  have:=Heap.get?_push_size (s.heap.push PySem.W.emptyDict) (o:=PySem.W.instObj C s.heap.objs.size) rfl
  rwa [Heap.size_push] at this
 have e3:(s.heap.push PySem.W.emptyDict).Ns s.heap.objs.size (fun _=>none):=⟨PySem.W.emptyDict,#[],_,e1,rfl,(fun e he=>absurd he (by simp)),fun _=>rfl⟩
 have I1:=I.laid (a:=s.heap.objs.size) (o:=.own (s.heap.objs.size+1)) (h':=s.heap.push PySem.W.emptyDict) (t':=s.toks) (fun b u q=>Heap.get?_push_of_some _ q) (Nat.le_refl _) ⟨_,e1⟩
 refine I1.laid (a:=s.heap.objs.size+1) (o:=.ins C s.heap.objs.size []) (t':=s.toks) (fun b u q=>Heap.get?_push_of_some _ q) (Nat.le_of_eq (Heap.size_push _ _)) ?_
 have ne:s.heap.objs.size≠s.heap.objs.size+1:=Nat.ne_of_lt (Nat.lt_succ_self _)
 refine ⟨by rw [aj ne,ag],Nat.zero_le _,ne,e2,fun _=>none,(Heap.Ns1.of_empty e3).at fun o q=>Heap.get?_push_of_some _ q,fun _=>True.intro,fun y hy=>absurd rfl hy⟩
theorem zo {prog:Program} {w:World} {env:Env} {e:Expr} {f:Str} {pos:Pos} {s:Shared} {Q:Value→Shared→Prop} (hb:attributeBase e f env (eval e env)=eval e env)
  (h:wpAny (model prog w) A (eval e env) (fun o s₁=>wpAny (model prog w) A (getAttr o f true) Q E s₁) E s):wpAny (model prog w) A (eval (.Attribute e f pos) env) Q E s:=
 Attribute_any_ h (by rw [arm_eval_Attribute,hb])
end
section
variable {X:Cx} {o e value:Expr} {f:Str} {pos pos' tpos:Pos} {ta tv:TE}
end
section
variable {X:Cx} {pins:List (Addr × Obj)} {σ:St} {H:Hp} {s:Shared} {A:Around} {E:Value→Shared→Prop} {Q:Value→Shared→Prop} {c:Value} {b:Bool}
inductive TyOf (K:PySem.W.Frag) (H:Hp):V→Value→Prop where
 | non:TyOf K H .non (.type "NoneType")
 | bl (x:Bool):TyOf K H (.bl x) (.type "bool")
 | int (i:Int):TyOf K H (.int i) (.type "int")
 | str (x:Str):TyOf K H (.str x) (.type "str")
 | flt (x:UInt64):TyOf K H (.flt x) (.type "float")
 | lst {a:Addr} {xs:List V} (e:H a=some (.lst xs)):TyOf K H (.ref a) (.type "list")
 | frz {a:Addr} {o:Obj} {xs:List V} (e:H a=some (.frz o (.lst xs))):TyOf K H (.ref a) (.type "list")
 | tup {a:Addr} {xs:List V} (e:H a=some (.tup xs)):TyOf K H (.ref a) (.type "tuple")
 | dK {a:Addr} {kvs:List (Key × V)} (e:H a=some (.dK kvs)):TyOf K H (.ref a) (.type "dict")
 | dT {a:Addr} {kvs:List (List Key × V)} (e:H a=some (.dT kvs)):TyOf K H (.ref a) (.type "dict")
 | ins {a C dx:Addr} {fs:List (Str × V)} (e:H a=some (.ins C dx fs)) (cl:Cls K C) (ha:PySem.W.findIn K (.ref C) "__class__"=some (some (.builtin "object.__class__")))
   (hn:PySem.W.specialIn K (.builtin "object.__class__") "__get__"=some (some (.builtin "getset_descriptor.__get__"))) (htk:PySem.W.takesIn K (.builtin "object.__class__")=some true)
   (hm:PySem.W.mroIn K C (.type "object")=some true):TyOf K H (.ref a) (.ref C)
theorem xf {x:V} {u t:Value} (I:Inv X pins σ H s) (rx:RelV x u) (ty:TyOf X.K H x t) (e:PySem.W.kitOne X.K t c=some b) (h:∀ tk,Q (.bool b) { s with toks:=tk }):
  wpAny (model X.prog X.w) A (call (.builtin "isinstance") [u,c]) Q E s:=by
 cases ty with
 | non=>cases (show u=Value.none from rx); exact PySem.W.kia_one PySem.W.kitx_none I.kIn True.intro e (fun z=>nomatch z) h
 | bl y=>cases (show u=Value.bool y from rx); exact PySem.W.kia_one PySem.W.kitx_bool I.kIn True.intro e (fun z=>nomatch z) h
 | int i=>obtain ⟨t,q⟩:=(show ∃ t,u=Value.int i t from rx); cases q; exact PySem.W.kia_one PySem.W.kitx_int I.kIn True.intro e (fun z=>nomatch z) h
 | str y=>obtain ⟨t,q⟩:=(show ∃ t,u=Value.str y t from rx); cases q; exact PySem.W.kia_one PySem.W.kitx_str I.kIn True.intro e (fun z=>nomatch z) h
 | flt y=>obtain ⟨t,q⟩:=(show ∃ t,u=Value.float y t from rx); cases q; exact PySem.W.kia_one PySem.W.kitx_float I.kIn True.intro e (fun z=>nomatch z) h
 | @lst a xs ea=>
  cases (show u=Value.ref a from rx)
  obtain ⟨_,_,n,_,h1⟩:=(show ObjOk X.prog X.w H s.heap a (.lst xs) from I.hok a _ ea)
  exact PySem.W.kia_one PySem.W.kitx_list I.kIn ⟨_,h1,rfl⟩ e (fun z=>nomatch z) h
 | @frz a ob xs ea=>
  cases (show u=Value.ref a from rx)
  obtain ⟨_,_,_,n,_,h1⟩:=(show ObjOk X.prog X.w H s.heap a (.frz ob (.lst xs)) from I.hok a _ ea)
  exact PySem.W.kia_one PySem.W.kitx_list I.kIn ⟨_,h1,rfl⟩ e (fun z=>nomatch z) h
 | @tup a xs ea=>
  cases (show u=Value.ref a from rx)
  obtain ⟨_,_,_,p⟩:=(show ObjOk X.prog X.w H s.heap a (.tup xs) from I.hok a _ ea)
  obtain ⟨o,h1,h2,_⟩:=p
  exact PySem.W.kia_one PySem.W.kitx_tuple I.kIn ⟨o,h1,h2⟩ e (fun z=>nomatch z) h
 | @dK a kvs ea=>
  cases (show u=Value.ref a from rx)
  obtain ⟨_,_,vs,_,p⟩:=(show ObjOk X.prog X.w H s.heap a (.dK kvs) from I.hok a _ ea)
  obtain ⟨o,es,ep,h1,h2,_⟩:=p
  exact PySem.W.kia_one PySem.W.kitx_dict I.kIn ⟨o,h1,h2.1⟩ e (fun z=>nomatch z) h
 | @dT a kvs ea=>
  cases (show u=Value.ref a from rx)
  obtain ⟨_,_,xs,_,o,es,ep,h1,h2,_⟩:=(show ObjOk X.prog X.w H s.heap a (.dT kvs) from I.hok a _ ea)
  exact PySem.W.kia_one PySem.W.kitx_dict I.kIn ⟨o,h1,h2.1⟩ e (fun z=>nomatch z) h
 | @ins a C dx fs ea cl ha hn htk hm=>
  cases (show u=Value.ref a from rx)
  obtain ⟨mA,O,_⟩:=nr I.hok ea
  obtain ⟨od,J,_⟩:=O.look
  exact PySem.W.kia_one (PySem.W.kitx_own (cl.get _) cl.hd ha hn htk hm) I.kIn J e (fun z=>nomatch z) h
end
end L2
namespace L2
open PySem PySem.Spec PyProof.Rows
structure Room (k:Nat) (A:Around):Prop where
 hd:A.handled=none
 dp:A.depth+3*k+5 < recursionLimit
 un:A.units+16*k+200 < cLine
theorem Room.mono {j k:Nat} {A:Around} (r:Room k A) (h:j≤k):Room j A:=⟨r.hd,by have:=r.dp; omega,by have:=r.un; omega⟩
theorem Room.deeper {k:Nat} {A:Around} (r:Room (k+1) A) (env:Env):Room k (A.deeper env):=
 ⟨r.hd,by have:=r.dp; show A.depth+1+3*k+5 < _; omega,by have:=r.un; show A.units+3+16*k+200 < _; omega⟩
theorem vO {A:Around} {C:Addr} {us:List Value} {kw:List (Str × Value)}:(A.under (.builtin "type.__call__" ⟨.ref C::us,kw⟩)).depth=A.depth+1:=by
 first | rfl | simp [Around.under,Code.weight,Code.isCreation,Code.isGuard,Code.isCaller,Code.frames,Code.isFrame,guardIds]
theorem vP {A:Around} {C:Addr} {us:List Value} {kw:List (Str × Value)}:(A.under (.builtin "type.__call__" ⟨.ref C::us,kw⟩)).units=A.units+1:=by
 first | rfl | simp [Around.under,Code.cUnits,Code.frames,Code.isFrame]
theorem Room.make {k:Nat} {A:Around} (r:Room (k+1) A) (C:Addr) (us:List Value) (kw:List (Str × Value)):Room k (A.under (.builtin "type.__call__" ⟨.ref C::us,kw⟩)):=
 ⟨r.hd,by have:=r.dp; rw [vO]; omega,by have:=r.un; rw [vP]; omega⟩
theorem Room.depth {k:Nat} {A:Around} (r:Room k A):A.depth < recursionLimit:=by have:=r.dp; omega
theorem Room.units {k:Nat} {A:Around} (r:Room k A):A.units+64 < cLine:=by have:=r.un; omega
def tNil:TA:=fun _ H Q=>Q [] H
def tCons (ta:TE) (tr:TA):TA:=fun σ H Q=>ta σ H fun x H1=>tr σ H1 fun xs H2=>Q (x::xs) H2
section
variable {X:Cx} {e:Expr} {es:List Expr} {te:TE} {t:TA} {pos:Pos}
theorem ac:PA X [] tNil:=fun _ _ _ _ H Q I h=>Calls.spliced_nil ⟨[],H,I,.nil,h⟩
theorem aa (ha:PE X e te) (hr:PA X es t) (hs:starEach (e::es) X.env=(false,eval e X.env)::starEach es X.env:=by rfl):PA X (e::es) (tCons te t):=by
 intro pos pins s σ H Q I h
 rw [hs]
 show wpAny _ _ (spliced ((false,eval e X.env)::backTo pos (starEach es X.env))) _ _ s
 refine Calls.spliced_cons (thn (ha pins s σ H _ I h) fun u s1 ⟨x,H1,I1,r1,q1⟩=>?_)
 exact thn (hr pos pins s1 σ H1 _ I1 q1) fun us s2 ⟨xs,H2,I2,r2,q2⟩=>⟨x::xs,H2,I2,.cons r1 r2,q2⟩
def tTup (t:TA):TE:=fun σ H Q=>t σ H fun xs H1=>xs.length≤sizeLine∧∀ p,H1 p=none→Q (.ref p) (upd H1 p (.tup xs))
def tLst (t:TA):TE:=fun σ H Q=>t σ H fun xs H1=>xs.length≤sizeLine∧∀ p,H1 p=none→Q (.ref p) (upd H1 p (.lst xs))
theorem dJ {x1} (h:PA X es t):PE X (.Tuple es x1 pos) (tTup t):=by
 intro pins s σ H Q I hq
 refine wpAny_Tuple_spliced (thn (h pos pins s σ H _ I hq) fun us s1 ⟨xs,H1,I1,r,z,q⟩=>⟨by rw [← r.length]; exact z,?_⟩)
 have hf:H1 s1.heap.objs.size=none:=I1.hok.fresh (Nat.le_refl _)
 refine ⟨.ref s1.heap.objs.size,upd H1 s1.heap.objs.size (.tup xs),I1.laid (t':=s1.toks) (fun b u e=>Heap.get?_push_of_some _ e) (Nat.le_refl _) ?_,rfl,q _ hf⟩
 exact ⟨z,us,r,⟨_,Heap.get?_push_size _ rfl,rfl,_,rfl⟩⟩
theorem aW (h:PA X es t):PE X (.List es pos) (tLst t):=by
 intro pins s σ H Q I hq
 refine wpAny_List_spliced (thn (h pos pins s σ H _ I hq) fun us s1 ⟨xs,H1,I1,r,z,q⟩=>⟨by rw [← r.length]; exact z,?_⟩)
 have hf:H1 s1.heap.objs.size=none:=I1.hok.fresh (Nat.le_refl _)
 refine ⟨.ref s1.heap.objs.size,upd H1 s1.heap.objs.size (.lst xs),I1.laid (t':=s1.toks) (fun b u e=>Heap.get?_push_of_some _ e) (Nat.le_refl _) ?_,rfl,q _ hf⟩
 exact ⟨z,us,0,r,Heap.get?_push_size _ rfl⟩
end
abbrev Sp:=List V→Hp→VK→XK→Prop
abbrev CXT:=List Env→Hp→Shared→XK→Value→Shared→Prop
structure Env0 (P:Program) (w:World) (K:PySem.W.Frag) (mg:Str→Option Value) (base:Heap) (A:Around) (outer:List Env) (s:Shared) (H:Hp):Prop where
 frames:A.frames=some outer
 mod:Mod K mg base
 bs:∀ b o,base.get? b=some o→s.heap.get? b=some o∧H b=none
 bsz:base.objs.size≤s.heap.objs.size
 funs:s.heap.FunFrames base outer
 frf:∀ b∈frs outer,H b=none
 hok:HOk P w H s.heap
 bare:AllBare s.gens
def CE (outer:List Env) (P:Program) (w:World) (H:Hp) (s:Shared) (Q:VK) (u:Value) (s':Shared):Prop:=
 ∃ v H',s'.os=s.os∧AllBare s'.gens∧Un (frs outer) [] H H' s.heap s'.heap∧HOk P w H' s'.heap∧RelV v u∧Q v H'
def CR (CX:CXT) (outer:List Env) (P:Program) (w:World) (H:Hp) (s:Shared) (Q:VK) (E:XK) (r:Result) (s':Shared):Prop:=
 match r with
 | .ok (.ret u)=>CE outer P w H s Q u s'
 | .ok _=>False
 | .error e=>CX outer H s E e s'
structure FnOk (P:Program) (w:World) (K:PySem.W.Frag) (mg:Str→Option Value) (base:Heap) (CX:CXT) (k:Nat) (f:Addr) (fd:FuncData) (ps:List Str) (sp:Sp):Prop where
 len:∀ vs H Q E,sp vs H Q E→vs.length=ps.length
 run:∀ (A:Around) (outer:List Env) (s:Shared) (H:Hp) (args:Args) (us:List Value) (vs:List V) (Q:VK) (E:XK),Room k A→Env0 P w K mg base A outer s H→BindsTo s fd args (ps.zip us)→Vals vs us→sp vs H Q E→
  codeAny (model P w) A (.call (.ref f) args) (CR CX outer P w H s Q E) s
theorem FnOk.mono {P:Program} {w:World} {K:PySem.W.Frag} {mg:Str→Option Value} {base:Heap} {CX:CXT} {j k:Nat} {f:Addr} {fd:FuncData} {ps:List Str} {sp:Sp} (F:FnOk P w K mg base CX j f fd ps sp) (h:j≤k):
  FnOk P w K mg base CX k f fd ps sp:=⟨F.len,fun A outer s H args us vs Q E hr=>F.run A outer s H args us vs Q E (hr.mono h)⟩
theorem FnOk.imp {P:Program} {w:World} {K:PySem.W.Frag} {mg:Str→Option Value} {base:Heap} {CX:CXT} {k:Nat} {f:Addr} {fd:FuncData} {ps:List Str} {sp sp':Sp} (F:FnOk P w K mg base CX k f fd ps sp)
  (h:∀ vs H Q E,sp' vs H Q E→sp vs H Q E):FnOk P w K mg base CX k f fd ps sp':=
 ⟨fun vs H Q E q=>F.len vs H Q E (h _ _ _ _ q),fun A outer s H args us vs Q E hr he hb hv hs=>F.run A outer s H args us vs Q E hr he hb hv (h _ _ _ _ hs)⟩
theorem Env0.make {P:Program} {w:World} {K:PySem.W.Frag} {mg:Str→Option Value} {base:Heap} {A:Around} {outer:List Env} {s:Shared} {H:Hp} (e:Env0 P w K mg base A outer s H) (C:Addr) (us:List Value) (kw:List (Str × Value)):
  Env0 P w K mg base (A.under (.builtin "type.__call__" ⟨.ref C::us,kw⟩)) outer s H:=⟨by first | exact e.frames | (simpa [Around.under,Code.envs,Code.isFrame,pushEnvs] using e.frames),e.mod,e.bs,e.bsz,e.funs,e.frf,e.hok,e.bare⟩
section
variable {X:Cx} {pins:List (Addr × Obj)} {σ:St} {H:Hp} {s s':Shared}
theorem Inv.env0 (I:Inv X pins σ H s):Env0 X.prog X.w X.K X.mg X.base X.A X.stack s H:=
 ⟨I.ok.frames,I.ok.mod,I.bs,Nat.le_trans I.ok.bsz I.sz,I.stack,I.stkFree,I.hok,I.bare⟩
theorem Inv.after {Q:VK} {u:Value} (I:Inv X pins σ H s) (h:CE X.stack X.prog X.w H s Q u s'):EP X pins σ Q u s':=by
 obtain ⟨v,H',os,bare,un,hok,r,q⟩:=h
 obtain ⟨hh,g,d,t,os'⟩:=s'
 obtain rfl:os'=s.os:=os
 exact ⟨v,H',I.call (h':=hh) (g':=g) (d':=d) (t':=t) (ch:=[]) un hok bare (fun b z=>absurd z (by simp)),r,q⟩
end
def tCall (sp:Sp) (dvs:List V) (E:XK) (t:TA):TE:=fun σ H Q=>t σ H fun vs H1=>sp (vs++dvs) H1 Q E
def tMake (C:Addr) (sp:Sp) (dvs:List V) (E:XK) (t:TA):TE:=fun σ H Q=>t σ H fun vs H1=>∀ x dx,H1 x=none→H1 dx=none→dx≠x→
 sp (.ref x::(vs++dvs)) (upd (upd H1 dx (.own x)) x (.ins C dx [])) (fun v H2=>v=.non∧Q (.ref x) H2) E
def Binds (K:PySem.W.Frag) (fd:FuncData) (ps:List Str) (ds:List Value):Prop:=
 ∀ (s:Shared) (us:List Value),K.In s.heap→(us++ds).length=ps.length→BindsTo s fd ⟨us,[]⟩ (ps.zip (us++ds))
theorem Binds.all {K:PySem.W.Frag} {fd:FuncData} {ps:List Str} (h:∀ us:List Value,us.length=ps.length→bindArgs fd ⟨us,[]⟩=pure (ps.zip us)):Binds K fd ps []:=fun s us _ hl=>by
 rw [List.append_nil] at hl ⊢
 exact .of_eq (h us hl)
def mE (CX:CXT) (X:Cx) (E:XK):Prop:=∀ (pins:List (Addr × Obj)) (σ:St) (H:Hp) (s:Shared) (e:Value) (s':Shared),Inv X pins σ H s→CX X.stack H s E e s'→X.xe e s'
section
variable {X:Cx} {CX:CXT} {k:Nat} {f C:Addr} {fd:FuncData} {ps:List Str} {sp:Sp} {dvs:List V} {ds:List Value} {E:XK} {x m:Str} {p pos apos:Pos} {e o:Expr} {es:List Expr} {ta:TE} {t:TA}
theorem sD {pins:List (Addr × Obj)} {σ:St} {H:Hp} {s:Shared} {Q:VK} {us:List Value} {vs:List V} (F:FnOk X.prog X.w X.K X.mg X.base CX k f fd ps sp) (hr:Room k X.A) (hb:Binds X.K fd ps ds) (hd:Vals dvs ds) (hx:mE CX X E)
  (I:Inv X pins σ H s) (r:Vals vs us) (h:sp (vs++dvs) H Q E):wpAny (model X.prog X.w) X.A (call (.ref f) us) (EP X pins σ Q) X.xe s:=by
 have r2:Vals (vs++dvs) (us++ds):=r.append hd
 have hl:(us++ds).length=ps.length:=by rw [← r2.length]; exact F.len _ _ _ _ h
 refine wpAny_call (codeAny_mono (F.run X.A X.stack s H ⟨us,[]⟩ (us++ds) (vs++dvs) Q E hr I.env0 (hb s us I.kIn hl) r2 h) fun r s' hq=>?_)
 cases r with
 | error e=>exact hx pins σ H s e s' I hq
 | ok fl=>
  cases fl with
  | ret u=>exact I.after hq
  | next=>exact False.elim hq
  | brk=>exact False.elim hq
  | cont=>exact False.elim hq
theorem zp (F:FnOk X.prog X.w X.K X.mg X.base CX k f fd ps sp) (hr:Room k X.A) (hg:Gl X x) (hm:X.mg x=some (.ref f)) (hk:PySem.W.keepIn X.K (.ref f)=true) (hb:Binds X.K fd ps ds) (hd:Vals dvs ds) (hx:mE CX X E)
  (ha:PA X (e::es) t) (hdb:(x==("__debug__":Str))=false:=by decide) (he:starEach (e::es) X.env=(false,eval e X.env)::starEach es X.env:=by rfl) (hpl:(backTo pos (starEach es X.env)).any (·.1)=false:=by rfl):
  PE X (.Call (.Name x p) (e::es) [] pos) (tCall sp dvs E t):=by
 intro pins s σ H Q I h
 refine wpAny_Call_Name_kw (qj I hg hm ?_ hdb)
 refine PySem.W.callWith_K (h₀:=X.base) I.ok.mod.kin hk (thn (ha pos pins s σ H _ I h) fun us s1 ⟨vs,H1,I1,r,q⟩=>⟨I1.kIn,?_⟩) he hpl
 exact sD F hr hb hd hx I1 r q
structure Mk (K:PySem.W.Frag) (C f:Addr):Prop where
 makes:PySem.W.makesIn K C=true
 init:PySem.W.findIn K (.ref C) "__init__"=some (some (.ref f))
 fn:PySem.W.isFn K (.ref f)=true
 kp:PySem.W.keepIn K (.ref C)=true
theorem yy {pins:List (Addr × Obj)} {σ:St} {H:Hp} {s:Shared} {Q:VK} {us:List Value} {vs:List V} (M:Mk X.K C f) (F:FnOk X.prog X.w X.K X.mg X.base CX k f fd ps sp) (hr:Room (k+1) X.A) (hb:Binds X.K fd ps ds) (hd:Vals dvs ds)
  (hx:mE CX X E) (I:Inv X pins σ H s) (r:Vals vs us)
  (h:∀ x dx,H x=none→H dx=none→dx≠x→sp (.ref x::(vs++dvs)) (upd (upd H dx (.own x)) x (.ins C dx [])) (fun v H2=>v=.non∧Q (.ref x) H2) E):
  wpAny (model X.prog X.w) X.A (call (.ref C) us) (EP X pins σ Q) X.xe s:=by
 have hq:=h (s.heap.objs.size+1) s.heap.objs.size (I.hok.fresh (Nat.le_succ _)) (I.hok.fresh (Nat.le_refl _)) (Nat.ne_of_lt (Nat.lt_succ_self _))
 have I2:=Inv.made (C:=C) I
 have r2:Vals (V.ref (s.heap.objs.size+1)::(vs++dvs)) (Value.ref (s.heap.objs.size+1)::(us++ds)):=.cons rfl (r.append hd)
 have hl:(Value.ref (s.heap.objs.size+1)::us++ds).length=ps.length:=by
  have e:=r2.length
  rw [F.len _ _ _ _ hq] at e
  exact e.symm
 refine wpAny_call (yx (f:=f) I.kIn M.makes M.init (beq_iff_eq.mp M.fn) (codeAny_mono (F.run _ X.stack _ _ ⟨Value.ref (s.heap.objs.size+1)::us,[]⟩ (Value.ref (s.heap.objs.size+1)::(us++ds)) _ _ E (hr.make C us [])
  (I2.env0.make C us []) (hb _ (Value.ref (s.heap.objs.size+1)::us) I2.kIn hl) r2 hq) fun r s' hq'=>?_))
 cases r with
 | error e=>exact hx pins σ _ _ e s' I2 hq'
 | ok fl=>
  cases fl with
  | ret u=>
   obtain ⟨v,H',I3,rv,ev,q3⟩:=I2.after hq'
   subst ev
   exact ⟨rv,⟨V.ref (s.heap.objs.size+1),H',I3,rfl,q3⟩⟩
  | next=>exact False.elim hq'
  | brk=>exact False.elim hq'
  | cont=>exact False.elim hq'
theorem zq (M:Mk X.K C f) (F:FnOk X.prog X.w X.K X.mg X.base CX k f fd ps sp) (hr:Room (k+1) X.A) (hg:Gl X x) (hm:X.mg x=some (.ref C)) (hb:Binds X.K fd ps ds) (hd:Vals dvs ds) (hx:mE CX X E)
  (ha:PA X (e::es) t) (hdb:(x==("__debug__":Str))=false:=by decide) (he:starEach (e::es) X.env=(false,eval e X.env)::starEach es X.env:=by rfl) (hpl:(backTo pos (starEach es X.env)).any (·.1)=false:=by rfl):
  PE X (.Call (.Name x p) (e::es) [] pos) (tMake C sp dvs E t):=by
 intro pins s σ H Q I h
 refine wpAny_Call_Name_kw (qj I hg hm ?_ hdb)
 refine PySem.W.callWith_K (h₀:=X.base) I.ok.mod.kin M.kp (thn (ha pos pins s σ H _ I h) fun us s1 ⟨vs,H1,I1,r,q⟩=>⟨I1.kIn,?_⟩) he hpl
 exact yy M F hr hb hd hx I1 r q
end
section
variable {X:Cx} {CX:CXT} {k:Nat} {f C:Addr} {fd:FuncData} {ps ks:List Str} {sp:Sp} {E:XK} {x m:Str} {p pos apos kpos:Pos} {e o:Expr} {es:List Expr} {kws:List Keyword} {te ta:TE} {t tk:TA} {nm:Option Str}
variable {g:List Value→List Value→List Value} {gV:List V→List V→List V}
end
structure am (N P:List Str) (sc:Scope):Prop where
 kind:sc.kind=.function
 co:sc.isCoroutine=false
 gen:sc.isGenerator=false
 nd:N.Nodup
 pre:N.take P.length=P
 par:∀ x∈P,sc.names.lookup x=some .local∨sc.names.lookup x=some .cell
 nofree:∀ y∈sc.names,y.2≠.free
theorem qP {kindOf:Str→Option NameKind} {x:Str}:∀ {binds:List (Str × Value)} {m:Str→Option Value},(∀ v,(x,v)∉binds)→bindL kindOf binds m x=m x
 | [],_,_=>rfl
 | (n,v)::r,m,h=>by
  unfold bindL
  rw [qP fun w hw=>h w (List.mem_cons_of_mem _ hw)]
  split
  · have:x≠n:=by rintro rfl; exact h v List.mem_cons_self
    simp [this]
  · rfl
theorem qQ {kindOf:Str→Option NameKind} {x:Str}:∀ {binds:List (Str × Value)} {m:Str→Option Value},(∀ v,(x,v)∉binds)→bindC kindOf binds m x=m x
 | [],_,_=>rfl
 | (n,v)::r,m,h=>by
  unfold bindC
  rw [qQ fun w hw=>h w (List.mem_cons_of_mem _ hw)]
  split
  · rfl
  · have:x≠n:=by rintro rfl; exact h v List.mem_cons_self
    simp [this]
theorem qR {kindOf:Str→Option NameKind} {x:Str} {v:Value}:∀ {P:List Str} {vs:List Value} {i:Nat} {m:Str→Option Value},P.Nodup→P[i]? =some x→vs[i]? =some v→kindOf x=some .local→
  bindL kindOf (P.zip vs) m x=some v
 | [],_,_,_,_,h,_,_=>by simp at h
 | _::_,[],_,_,_,_,h,_=>by simp at h
 | p::P,w::vs,0,m,nd,h1,h2,hk=>by
  simp at h1 h2; subst h1; subst h2
  show bindL kindOf ((p,w)::P.zip vs) m p=_
  unfold bindL
  rw [qP fun v hv=>(List.nodup_cons.mp nd).1 (List.of_mem_zip hv).1,if_pos hk]
  simp
 | p::P,w::vs,i+1,m,nd,h1,h2,hk=>by
  show bindL kindOf ((p,w)::P.zip vs) m x=_
  unfold bindL
  exact qR (i:=i) (List.nodup_cons.mp nd).2 (by simpa using h1) (by simpa using h2) hk
theorem qS {kindOf:Str→Option NameKind} {x:Str} {v:Value}:∀ {P:List Str} {vs:List Value} {i:Nat} {m:Str→Option Value},P.Nodup→P[i]? =some x→vs[i]? =some v→kindOf x≠some .local→
  bindC kindOf (P.zip vs) m x=some v
 | [],_,_,_,_,h,_,_=>by simp at h
 | _::_,[],_,_,_,_,h,_=>by simp at h
 | p::P,w::vs,0,m,nd,h1,h2,hk=>by
  simp at h1 h2; subst h1; subst h2
  show bindC kindOf ((p,w)::P.zip vs) m p=_
  unfold bindC
  rw [qQ fun v hv=>(List.nodup_cons.mp nd).1 (List.of_mem_zip hv).1,if_neg hk]
  simp
 | p::P,w::vs,i+1,m,nd,h1,h2,hk=>by
  show bindC kindOf ((p,w)::P.zip vs) m x=_
  unfold bindC
  exact qS (i:=i) (List.nodup_cons.mp nd).2 (by simpa using h1) (by simpa using h2) hk
def start (N:List Str) (vs:List V):St:=vs.map some++List.replicate (N.length - vs.length) none
def cxOf (CX:CXT) (P:Program) (w:World) (K:PySem.W.Frag) (mg:Str→Option Value) (base:Heap) (N:List Str) (qual:Str) (scope:Scope) (f:Addr) (cd:Value) (A:Around) (outer:List Env) (s:Shared) (H:Hp) (E:XK):Cx where
 prog:=P
 w:=w
 K:=K
 mg:=mg
 base:=base
 A:=A.deeper (envOfC qual scope s.heap.objs.size f cd)
 N:=N
 s₀:=s
 H₀:=H
 env:=envOfC qual scope s.heap.objs.size f cd
 outer:=outer
 stack:=envOfC qual scope s.heap.objs.size f cd::outer
 ex:=[]
 calm:=true
 fn:=fun _=>true
 pn:=[]
 xe:=fun e s'=>wpAny (model P w) (A.deeper (envOfC qual scope s.heap.objs.size f cd)) (leaving (envOfC qual scope s.heap.objs.size f cd) e) (fun _ s''=>CX outer H s E e s'') (fun e' s''=>CX outer H s E e' s'') s'
theorem lG {sc:Scope} {n:Nat} {x:Str} (h:sc.names.lookup x=some .cell):∃ c,(cellsFrom n sc.names []).lookup x=some c:=by
 have q:=PySem.W.cellsFrom_some sc.names n [] (.inl h)
 exact Option.isSome_iff_exists.mp q
theorem xg {CX:CXT} {P:Program} {w:World} {K:PySem.W.Frag} {mg:Str→Option Value} {base:Heap} {N ps:List Str} {qual:Str} {scope:Scope} {f:Addr} {cd:Value} {A:Around} {outer:List Env} {s s1:Shared} {H:Hp} {E:XK} {us:List Value} {vs:List V}
  (S:am N ps scope) (hd:A.handled=none) (e0:Env0 P w K mg base A outer s H) (hl:vs.length=ps.length) (r:Vals vs us)
  (x:InCallC s s.heap.objs.size (bindL (envOfC qual scope s.heap.objs.size f cd).kindOf (ps.zip us) fun _=>none) (cellsFrom (s.heap.objs.size+1) scope.names []) (bindC (envOfC qual scope s.heap.objs.size f cd).kindOf (ps.zip us) fun _=>none) s1):
  Inv (cxOf CX P w K mg base N qual scope f cd A outer s H E) [] (start N vs) H s1:=by
 have hpl:ps.length≤N.length:=by have:=congrArg List.length S.pre; rw [List.length_take] at this; omega
 obtain ⟨h1,tk,rfl,hk⟩:=x.done
 have noA:∀ b:Addr,b∉(cxOf CX P w K mg base N qual scope f cd A outer s H E).ex:=fun b z=>absurd (show b∈([]:List Addr) from z) (by simp)
 refine ⟨⟨e0.mod,S.kind,rfl,rfl,Nat.le_refl _,fun y z c h1 h2=>?_,fun y hy=>?_,fun y c _ h=>?_,fun _=>hd,Around.frames_deeper e0.frames,.inr ⟨rfl,rfl⟩,fun b z=>absurd z (noA b),e0.bs,e0.bsz,fun b _ _=>noA b,fun b z=>absurd z (noA b),e0.funs,e0.frf⟩,
  rfl,e0.bare,Un.kept hk,⟨_,x.toInCall.ns,fun i y v h1 h2 h3=>?_⟩,fun y c h=>⟨_,x.cell y c h⟩,e0.hok.fresh (Nat.le_refl _),fun y c h=>?_,fun p hp=>absurd (show p∈([]:List (Addr × Obj)) from hp) (by simp),e0.hok.kept hk,?_⟩
 · exact name_of_addr x.apart (PySem.mem_of_lookup h1) (PySem.mem_of_lookup h2)
 · have hy:scope.names.lookup y=some .cell∨scope.names.lookup y=some .free:=hy
   rcases hy with hy | hy
   · exact lG hy
   · exact absurd rfl (S.nofree _ (PySem.mem_of_lookup hy))
 · exact Nat.le_of_lt (x.above y c (PySem.mem_of_lookup h))
 · have hi:i < vs.length:=by
    unfold start at h2
    by_cases hi:i < vs.length
    · exact hi
    · rw [List.getElem?_append_right (by simpa using hi)] at h2
      rw [List.getElem?_replicate] at h2
      split at h2 <;> cases h2
   have ha:vs[i]? =some v:=by
    unfold start at h2
    rw [List.getElem?_append_left (by simpa using hi),List.getElem?_map] at h2
    cases e:vs[i]? with
    | none=>rw [e] at h2; cases h2
    | some a=>rw [e] at h2; cases h2; rfl
   obtain ⟨u,hu,rv⟩:=r.get ha
   have hp:ps[i]? =some y:=by
    rw [← S.pre,List.getElem?_take_of_lt (by omega)]; exact h1
   have ndP:ps.Nodup:=by rw [← S.pre]; exact S.nd.sublist (List.take_sublist _ _)
   refine ⟨u,rv,?_⟩
   rcases S.par y (List.mem_of_getElem? hp) with k | k
   · exact .inl ⟨k,qR ndP hp hu k⟩
   · obtain ⟨c,e⟩:=lG (n:=s.heap.objs.size+1) k
     refine .inr ⟨.inl k,c,e,?_⟩
     have q:=x.cell y c e
     rw [qS ndP hp hu (by show scope.names.lookup y≠_; rw [k]; decide)] at q
     exact q
 · exact e0.hok.fresh (Nat.le_of_lt (x.above y c (PySem.mem_of_lookup h)))
 · unfold start
   show _=N.length
   rw [List.length_append,List.length_map,List.length_replicate]
   omega
theorem A1 {CX:CXT} {P:Program} {w:World} {K:PySem.W.Frag} {mg:Str→Option Value} {base:Heap} {k:Nat} {f:Addr} {name qual:Str} {params:Arguments} {body:List Stmt} {scope:Scope} {dV kV doc pm cdv ct oc:Value} {an od:Option Addr}
  {osl:Array (Option Value)} {N ps:List Str} {sp:Sp} (lk:K.lookup f=some ⟨oc,od,.func (PySem.W.fnOf name qual params body scope dV kV doc pm an cdv ct),osl⟩) (hcd:PySem.W.codeIn K cdv qual=true) (S:am N ps scope)
  (len:∀ vs H Q E,sp vs H Q E→vs.length=ps.length)
  (hbody:∀ (A:Around) (outer:List Env) (s:Shared) (H:Hp) (vs:List V) (Q:VK) (E:XK),Room k (A.deeper (envOfC qual scope s.heap.objs.size f cdv))→sp vs H Q E→
   ∃ t,PSs (cxOf CX P w K mg base N qual scope f cdv A outer s H E) body t∧t { nx:=fun _ H'=>Q .non H',rt:=Q } (start N vs) H):
  FnOk P w K mg base CX (k+1) f (PySem.W.fnOf name qual params body scope dV kV doc pm an cdv ct) ps sp:=by
 refine ⟨len,fun A outer s H args us vs Q E hr e0 hb r hsp=>?_⟩
 have hl:=len _ _ _ _ hsp
 have KX:K.In s.heap:=e0.mod.kin.keeps fun b o e=>(e0.bs b o e).1
 have lim:s.heap.NoLimit:=e0.mod.nolimit.keeps fun b o e=>(e0.bs b o e).1
 have hkind:∀ y∈ps.zip us,scope.names.lookup y.1=some .local∨(scope.names.lookup y.1=some .cell∧((cellsFrom (s.heap.objs.size+1) scope.names []).lookup y.1).isSome=true):=fun ⟨n,v⟩ hy=>by
  rcases S.par n (List.of_mem_zip hy).1 with q | q
  · exact .inl q
  · exact .inr ⟨q,PySem.W.cellsFrom_some _ _ _ (.inl q)⟩
 refine codeAny_call_function hr.depth (KX _ _ lk) rfl S.co S.gen rfl (PySem.W.codeRec_of KX hcd) (hb _ _ _ _ ?_)
 refine wpAny_newFunctionEnv_cells S.kind hkind fun env he s1 x=>?_
 subst he
 refine ⟨lim.keeps x.toInCall.keep,codeAny_func ?_⟩
 obtain ⟨t,ht,hq⟩:=hbody A outer s H vs Q E (hr.deeper _) hsp
 have I:Inv (cxOf CX P w K mg base N qual scope f cdv A outer s H E) [] (start N vs) H s1:=xg S hr.hd e0 hl r x
 refine wpAny_mono (ht [] s1 (start N vs) H _ I hq) (fun fl s' hs=>?_) fun e s' hs=>hs
 have fin:∀ {σ':St} {H':Hp} {v:V} {u:Value},Inv (cxOf CX P w K mg base N qual scope f cdv A outer s H E) [] σ' H' s'→RelV v u→Q v H'→CE outer P w H s Q u s':=
  fun {σ' H' v u} J rv q=>⟨v,H',J.os,J.bare,J.base,J.hok,rv,q⟩
 cases fl with
 | ret u=>
  obtain ⟨v,σ',H',J,rv,q⟩:=hs
  exact fin J rv q
 | next=>
  obtain ⟨σ',H',J,q⟩:=hs
  exact fin (v:=V.non) (u:=Value.none) J rfl q
 | brk=>
  obtain ⟨_,_,_,q⟩:=hs
  exact False.elim q
 | cont=>
  obtain ⟨_,_,_,q⟩:=hs
  exact False.elim q
end L2
namespace L2
open PySem PySem.Spec PyProof.Rows
section
variable {X:Cx} {x:Str} {p pos:Pos} {e:Expr} {es:List Expr} {t:TA} {id T:String} {r:List V→Hp→VK→Prop}
def tCB (r:List V→Hp→VK→Prop) (t:TA):TE:=fun σ H Q=>t σ H fun vs H1=>r vs H1 Q
theorem ay (hc:CallR X (.builtin id) r) (hg:Gl X x) (hm:X.mg x=none) (hv:bootBuiltins x=some (.builtin id)) (ha:PA X (e::es) t) (hn:x≠"__name__":=by decide) (hdb:(x==("__debug__":Str))=false:=by decide)
  (he:starEach (e::es) X.env=(false,eval e X.env)::starEach es X.env:=by rfl) (hpl:(backTo pos (starEach es X.env)).any (·.1)=false:=by rfl):PE X (.Call (.Name x p) (e::es) [] pos) (tCB r t):=by
 intro pins s σ H Q I h
 refine wpAny_Call_Name_kw (gg I hg hm hv ?_ hn hdb)
 exact PyProof.Rows.callWith_builtin1 (thn (ha pos pins s σ H _ I h) fun us s1 ⟨vs,H1,I1,r1,q1⟩=>hc pins s1 σ H1 vs us Q I1 r1 q1) he hpl
theorem bp (hc:CallR X (.type T) r) (hg:Gl X x) (hm:X.mg x=none) (hv:bootBuiltins x=some (.type T)) (ha:PA X (e::es) t) (hn:x≠"__name__":=by decide) (hdb:(x==("__debug__":Str))=false:=by decide)
  (he:starEach (e::es) X.env=(false,eval e X.env)::starEach es X.env:=by rfl) (hpl:(backTo pos (starEach es X.env)).any (·.1)=false:=by rfl):PE X (.Call (.Name x p) (e::es) [] pos) (tCB r t):=by
 intro pins s σ H Q I h
 refine wpAny_Call_Name_kw (gg I hg hm hv ?_ hn hdb)
 exact PyProof.Rows.callWith_type1 (thn (ha pos pins s σ H _ I h) fun us s1 ⟨vs,H1,I1,r1,q1⟩=>hc pins s1 σ H1 vs us Q I1 r1 q1) he hpl
end
end L2
namespace HT
open PySem PyProof.Rows
section
open PySem.SeqAt
open PySem.AutoSeq1 (wpAny_loadPart')
open PySem.MeetsSeq PySem.MeetsSeq2 PySem.MeetsSeq3
end
section
variable {prog:Program} {w:World} {A:Around} {E:Value→Shared→Prop} {s:Shared}
def sIx (n d:Nat):Option Int→Nat
 | none=>d
 | some v=>if v < 0 then (v+(n:Int)).toNat else min v.toNat n
theorem sIx_nat (n d k:Nat):sIx n d (some (k:Int))=min k n:=by
 show (if (k:Int) < 0 then ((k:Int)+(n:Int)).toNat else min (k:Int).toNat n)=min k n
 rw [if_neg (by omega),Int.toNat_natCast]
end
end HT
namespace L2
open PySem PySem.Spec PyProof.Rows
abbrev TO:=St→Hp→(Option Int→Hp→Prop)→Prop
def PO (X:Cx) (e:Option Expr) (t:TO):Prop:=
 ∀ (pins:List (Addr × Obj)) (s:Shared) (σ:St) (H:Hp) (Q:Option Int→Hp→Prop),Inv X pins σ H s→t σ H Q→
  wpAny (model X.prog X.w) X.A (evalPart e X.env) (fun u s'=>∃ o H',Inv X pins σ H' s'∧IsPart u o∧Q o H') X.xe s
def iY:TO:=fun _ H Q=>Q none H
def tPart (t:TE):TO:=fun σ H Q=>t σ H fun x H1=>∃ i,x=.int i∧Q (some i) H1
theorem o0 {ns:List Int}:∀ {us:List Value},Vals (ns.map V.int) us→IntsAre us ns:=by
 induction ns with
 | nil=>intro us r; rw [List.map_nil] at r; cases r; exact .nil
 | cons n ns ih=>
  intro us r
  rw [List.map_cons] at r
  cases r with
  | cons r1 r2=>
   obtain ⟨t,e⟩:=r1
   subst e
   exact .cons n t (ih r2)
section
variable {X:Cx} {e:Expr} {te:TE} {lo hi:Option Expr} {tl th:TO} {pos p2:Pos}
theorem nt:PO X none iY:=by
 intro pins s σ H Q I h
 rw [evalPart_none]
 exact wpAny_pure ⟨none,H,I,.none,h⟩
theorem gO (h:PE X e te):PO X (some e) (tPart te):=by
 intro pins s σ H Q I hw
 rw [evalPart_some]
 refine thn (h pins s σ H _ I hw) fun u s1 ⟨x,H1,I1,r1,q1⟩=>?_
 obtain ⟨i,rfl,q⟩:=q1
 obtain ⟨t,rfl⟩:=r1
 exact ⟨some i,H1,I1,.int i t,q⟩
def SlR (X:Cx) (r:V→Option Int→Option Int→Hp→VK→Prop):Prop:=
 ∀ (pins:List (Addr × Obj)) (s:Shared) (σ:St) (H:Hp) (x:V) (v vl vu:Value) (lo hi:Option Int) (sl:Addr) (Q:VK),Inv X pins σ H s→RelV x v→s.heap.IsSliceOf sl vl vu .none→IsPart vl lo→IsPart vu hi→r x lo hi H Q→
  ∃ T id,typeLookup (.type T) "__getitem__"=pure (some (.builtin id))∧s.TypeIs v T∧wpAny (model X.prog X.w) X.A (getItem v (.ref sl)) (EP X pins σ Q) X.xe s
def tSl (r:V→Option Int→Option Int→Hp→VK→Prop) (te:TE) (tl th:TO):TE:=fun σ H Q=>te σ H fun x H1=>tl σ H1 fun l H2=>th σ H2 fun u H3=>r x l u H3 Q
theorem iZ {r:V→Option Int→Option Int→Hp→VK→Prop} (hr:SlR X r) (he:PE X e te) (hl:PO X lo tl) (hu:PO X hi th):PE X (.Subscript e (.Slice lo hi none p2) pos) (tSl r te tl th):=by
 intro pins s σ H Q I h
 refine Subscript_ (thn (he pins s σ H _ I h) fun v s1 ⟨x,H1,I1,r1,q1⟩=>?_)
 refine wpAny_Slice (thn (hl pins s1 σ H1 _ I1 q1) fun vl s2 ⟨l,H2,I2,pl,q2⟩=>thn (hu pins s2 σ H2 _ I2 q2) fun vu s3 ⟨u,H3,I3,pu,q3⟩=>?_)
 rw [evalPart_none]
 refine wpAny_pure ?_
 have I4:Inv X pins σ H3 { s3 with heap:=s3.heap.push { cls:=.type "slice",data:=.fields #[vl,vu,.none] } }:=I3.kept (t':=s3.toks) fun b ob q=>Heap.get?_push_of_some _ q
 obtain ⟨T,id,hT,ht,hg⟩:=hr pins { s3 with heap:=s3.heap.push { cls:=.type "slice",data:=.fields #[vl,vu,.none] } } σ H3 x v vl vu l u s3.heap.objs.size Q I4 r1 (Heap.IsSliceOf.new ..) pl pu q3
 show wpAny (model X.prog X.w) X.A (subscriptTail e (.Slice lo hi none p2) v (.ref s3.heap.objs.size)) (EP X pins σ Q) X.xe { s3 with heap:=s3.heap.push { cls:=.type "slice",data:=.fields #[vl,vu,.none] } }
 exact tail_any (ops:=[.ref s3.heap.objs.size,v]) ht hT hg (by with_unfolding_all rfl)
def cutV (xs:List V) (lo hi:Option Int):List V:=(xs.drop (HT.sIx xs.length 0 lo)).take (HT.sIx xs.length xs.length hi - HT.sIx xs.length 0 lo)
theorem uA (xs:List V) (lo hi:Option Int):(cutV xs lo hi).length≤xs.length:=by
 unfold cutV
 rw [List.length_take,List.length_drop]
 omega
end
end L2
namespace L2
open PySem PySem.Spec PyProof.Rows
def ixN (n:Nat) (i:Int):Option Nat:=if 0≤i then (if i < n then some i.toNat else none) else if -(n:Int)≤i then some (i+n).toNat else none
def atI {α:Type} (xs:List α) (i:Int):Option α:=(ixN xs.length i).bind fun j=>xs[j]?
theorem zr {n:Nat} {i:Int} {j:Nat} (h:ixN n i=some j):seqIndex? i n=some j∧j < n∧ -(n:Int)≤i∧i < n:=by
 unfold ixN at h
 by_cases h0:0≤i
 · rw [if_pos h0] at h
   by_cases h1:i < n
   · rw [if_pos h1] at h
     have e:i.toNat=j:=Option.some.inj h
     exact ⟨by rw [seqIndex_of h0 h1,e],by omega,by omega,h1⟩
   · rw [if_neg h1] at h; cases h
 · rw [if_neg h0] at h
   by_cases h1: -(n:Int)≤i
   · rw [if_pos h1] at h
     have e:(i+n).toNat=j:=Option.some.inj h
     exact ⟨by rw [seqIndex_neg (by omega) h1,e],by omega,h1,by omega⟩
   · rw [if_neg h1] at h; cases h
theorem ql {α:Type} {xs:List α} {i:Int} {v:α} (h:atI xs i=some v):∃ j,seqIndex? i xs.length=some j∧xs[j]? =some v∧j < xs.length∧ -(xs.length:Int)≤i∧i < xs.length:=by
 unfold atI at h
 cases e:ixN xs.length i with
 | none=>rw [e] at h; cases h
 | some j=>
  rw [e] at h
  obtain ⟨h1,h2,h3,h4⟩:=zr e
  exact ⟨j,h1,h,h2,h3,h4⟩
theorem fL {α:Type} {xs:List α} {j:Nat} {v:α} (h:xs[j]? =some v):atI xs (j:Int)=some v:=by
 have hj:j < xs.length:=(List.getElem?_eq_some_iff.mp h).1
 have e:ixN xs.length (j:Int)=some j:=by
  unfold ixN
  rw [if_pos (by omega),if_pos (by omega)]; simp
 unfold atI; rw [e]; exact h
def vg (b:Expr):Prop:=∀ o i,subscripted b false o i=operate [o,i] (getItem o i)
def IxR (X:Cx) (r:R2):Prop:=
 ∀ (value slice:Expr) (pins:List (Addr × Obj)) (s:Shared) (σ:St) (H:Hp) (x y:V) (v u:Value) (Q:VK),Inv X pins σ H s→RelV x v→RelV y u→r x y H Q→
  subscripted slice false v u=operate [v,u] (getItem v u)→wpAny (model X.prog X.w) X.A (subscriptTail value slice v u) (EP X pins σ Q) X.xe s
def MtR (X:Cx) (id:String) (r:V→List V→Hp→VK→Prop):Prop:=
 ∀ (pins:List (Addr × Obj)) (s:Shared) (σ:St) (H:Hp) (x:V) (xs:List V) (v:Value) (us:List Value) (Q:VK),Inv X pins σ H s→RelV x v→Vals xs us→r x xs H Q→
  wpAny (model X.prog X.w) X.A (call (.builtin id) (v::us)) (EP X pins σ Q) X.xe s
section
variable {X:Cx} {a b:Expr} {ta tb:TE} {pos:Pos}
theorem aw {r:R2} (hr:IxR X r) (ha:PE X a ta) (hb:PE X b tb) (hs:vg b):PE X (.Subscript a b pos) (tOp r ta tb):=by
 intro pins s σ H Q I h
 exact Subscript_ (binT ha hb I h fun v u s2 x y H2 I2 rx ry q=>hr a b pins s2 σ H2 x y v u Q I2 rx ry q (hs _ _))
def rIxL (K:PySem.W.Frag):R2:=fun x y H Q=>∃ p xs i v,x=.ref p∧y=.int i∧SqL K H p xs∧atI xs i=some v∧Q v H
def rIxT (K:PySem.W.Frag):R2:=fun x y H Q=>∃ p xs i v,x=.ref p∧y=.int i∧SqT K H p xs∧atI xs i=some v∧Q v H
def rIxS:R2:=fun x y H Q=>∃ z i c,x=.str z∧y=.int i∧z.length≤sizeLine∧atI z.cps.toList i=some c∧Q (.str ⟨#[c]⟩) H
theorem vh:IxR X (rIxL X.K):=by
 intro value slice pins s σ H x y v u Q I rx ry h hs
 obtain ⟨p,xs,i,z,rfl,rfl,hq,he,q⟩:=h
 cases rx
 obtain ⟨t,rfl⟩:=ry
 obtain ⟨its,r,pl,hz⟩:=I.list hq
 obtain ⟨j,h1,h2,h3,h4,h5⟩:=ql he
 obtain ⟨w,ew,rw'⟩:=r.get h2
 have hl:=r.length
 have hn:=mC
 have fin:EP X pins σ Q w s:=⟨z,H,I,rw',q⟩
 by_cases h0:0≤i
 · have hj:i.toNat=j:=by
    rw [seqIndex_of h0 h5] at h1
    exact Option.some.inj h1
   exact item_listR pl.isList h0 (by omega) (by rw [hj]; simpa using ew) fin hs
 · have hj:(i+(its.toArray.size:Int)).toNat=j:=by
    rw [seqIndex_neg (by omega) h4] at h1
    rw [List.size_toArray,← hl]
    exact Option.some.inj h1
   exact subscriptTail_builtinR (x:=w) pl.isList.typeIs slot_list_getitem.lookup
    (wpAny_getItem_list_neg (Q:=fun r s'=>r=w∧EP X pins σ Q r s') pl.isList (by omega) (by rw [List.size_toArray] <;> omega) (by omega) (by rw [hj]; simpa using ew) ⟨rfl,fin⟩) hs
theorem Ah:IxR X (rIxT X.K):=by
 intro value slice pins s σ H x y v u Q I rx ry h hs
 obtain ⟨p,xs,i,z,rfl,rfl,hq,he,q⟩:=h
 cases rx
 obtain ⟨t,rfl⟩:=ry
 obtain ⟨its,r,pl,hz⟩:=I.tuple hq
 obtain ⟨j,h1,h2,h3,h4,h5⟩:=ql he
 obtain ⟨w,ew,rw'⟩:=r.get h2
 have hl:=r.length
 have hn:=mC
 have fin:EP X pins σ Q w s:=⟨z,H,I,rw',q⟩
 exact subscriptTail_builtinR (x:=w) pl.typeIs slot_tuple_getitem.lookup
  (getItem_tuple (j:=j) (Q:=fun r s'=>r=w∧EP X pins σ Q r s') pl (by omega) (by omega) (by rw [List.size_toArray,← hl]; exact h1) (by simpa using ew) ⟨rfl,fin⟩) hs
theorem Ai:IxR X rIxS:=by
 intro value slice pins s σ H x y v u Q I rx ry h hs
 obtain ⟨z,i,c,rfl,rfl,hz,he,q⟩:=h
 obtain ⟨t,rfl⟩:=rx
 obtain ⟨t',rfl⟩:=ry
 obtain ⟨j,h1,h2,h3,h4,h5⟩:=ql he
 have hl:z.cps.toList.length=z.length:=by simp [Str.length]
 rw [hl] at h1 h4 h5
 have hn:=mC
 exact tail_any (typeIs_str s z t) slot_str_getitem.lookup (getItem_str (c:=c) (by
  have e1:decide (i < -(2^63:Int))=false:=decide_eq_false (by omega)
  have e2:decide (i ≥ 2^63)=false:=decide_eq_false (by omega)
  rw [e1,e2,Bool.or_false]) (by rw [h1]; simpa using h2) ⟨.str ⟨#[c]⟩,H,I.tok _,⟨_,rfl⟩,q⟩) hs
theorem Inv.lst {pins:List (Addr × Obj)} {σ:St} {H:Hp} {s:Shared} {p:Addr} {xs:List V} (I:Inv X pins σ H s) (h:H p=some (.lst xs)):
  ∃ (its:List Value) (n:Nat),Vals xs its∧s.heap.get? p=some { cls:=.type "list",data:=.seq its.toArray n }∧xs.length≤sizeLine:=by
 obtain ⟨z,its,n,r,e⟩:=I.hok p _ h
 exact ⟨its,n,r,e,z⟩
theorem sE (lo hi:Option Int) (n:Nat):(sliceBounds lo hi none n).1=((HT.sIx n 0 lo:Nat):Int)∧(sliceBounds lo hi none n).2.1=((HT.sIx n n hi:Nat):Int)∧(sliceBounds lo hi none n).2.2=1:=by
 refine ⟨?_,?_,rfl⟩
 · cases lo with
   | none=>simp [sliceBounds,HT.sIx]
   | some i=>
    simp only [sliceBounds,HT.sIx,Option.getD_none,show (1:Int) > 0 by decide,if_true]
    by_cases h:i < 0
    · simp only [h,if_true] <;> omega
    · simp only [h,if_false] <;> omega
 · cases hi with
   | none=>simp [sliceBounds,HT.sIx]
   | some i=>
    simp only [sliceBounds,HT.sIx,Option.getD_none,show (1:Int) > 0 by decide,if_true]
    by_cases h:i < 0
    · simp only [h,if_true] <;> omega
    · simp only [h,if_false] <;> omega
theorem rq (its:List Value) (lo hi:Option Int):slicePick its.toArray lo hi none=((its.drop (HT.sIx its.length 0 lo)).take (HT.sIx its.length its.length hi - HT.sIx its.length 0 lo)).toArray:=by
 obtain ⟨h1,h2,h3⟩:=sE lo hi its.toArray.size
 unfold slicePick
 rw [h1,h2,h3]
 simp only [sliceRange_one,pick_run,List.size_toArray] <;> rfl
def rSlL (K:PySem.W.Frag):V→Option Int→Option Int→Hp→VK→Prop:=fun x lo hi H Q=>∃ a xs,x=.ref a∧SqL K H a xs∧∀ p,H p=none→Q (.ref p) (upd H p (.lst (cutV xs lo hi)))
theorem zt:SlR X (rSlL X.K):=by
 intro pins s σ H x v vl vu lo hi sl Q I rx hs pl pu h
 obtain ⟨a,xs,rfl,hx,q⟩:=h
 cases rx
 obtain ⟨its,r,ht,hz⟩:=I.list hx
 have hlen:=r.length
 refine ⟨"list",_,slot_list_getitem.lookup,ht.isList.typeIs,?_⟩
 refine wpAny_getItem_list_slice ht.isList hs pl pu .none (by simp) ?_ (by rw [List.size_toArray] <;> omega)
 rw [rq,← hlen]
 refine ⟨.ref s.heap.objs.size,_,I.laid (t':=s.toks) (o:=.lst (cutV xs lo hi)) (fun b ob q=>Heap.get?_push_of_some _ q) (Nat.le_refl _) ?_,rfl,q _ (I.hok.fresh (Nat.le_refl _))⟩
 exact ⟨Nat.le_trans (uA xs lo hi) hz,_,0,(r.drop (HT.sIx xs.length 0 lo)).take (HT.sIx xs.length xs.length hi - HT.sIx xs.length 0 lo),Heap.get?_push_size _ rfl⟩
def flatV:V→Bool
 | .non=>true
 | .bl _=>true
 | .int _=>true
 | .str _=>true
 | _=>false
def eqV:V→V→Bool
 | .non,.non=>true
 | .bl a,.bl b=>a==b
 | .bl a,.int b=>(if a then 1 else 0)==b
 | .int a,.bl b=>a==(if b then 1 else 0)
 | .int a,.int b=>a==b
 | .str a,.str b=>a==b
 | _,_=>false
theorem Aj {A:Around} {s:Shared} {y x:V} {u v:Value} (ry:RelV y u) (rx:RelV x v) (fy:flatV y=true) (fx:flatV x=true):SeqAt.EqAt A s u v (eqV y x):=by
 cases y with
 | non=>
  cases ry
  cases x with
  | non=>cases rx; exact SeqAt.EqAt.same _
  | bl b=>cases rx; exact SeqAt.EqAt.none_bool b
  | int b=>obtain ⟨t,rfl⟩:=rx; exact SeqAt.EqAt.none_int b t
  | str b=>obtain ⟨t,rfl⟩:=rx; exact SeqAt.EqAt.none_str b t
  | _=>exact absurd (show false=true from fx) Bool.false_ne_true
 | bl a=>
  cases ry
  cases x with
  | non=>cases rx; exact SeqAt.EqAt.bool_none a
  | bl b=>cases rx; exact SeqAt.EqAt.bool_bool a b
  | int b=>obtain ⟨t,rfl⟩:=rx; exact SeqAt.EqAt.bool_int a b t
  | str b=>obtain ⟨t,rfl⟩:=rx; exact SeqAt.EqAt.bool_str a b t
  | _=>exact absurd (show false=true from fx) Bool.false_ne_true
 | int a=>
  obtain ⟨t',rfl⟩:=ry
  cases x with
  | non=>cases rx; exact SeqAt.EqAt.int_none a t'
  | bl b=>cases rx; exact SeqAt.EqAt.int_bool a t' b
  | int b=>obtain ⟨t,rfl⟩:=rx; exact SeqAt.EqAt.int_int a t' b t
  | str b=>obtain ⟨t,rfl⟩:=rx; exact SeqAt.EqAt.int_str a t' b t
  | _=>exact absurd (show false=true from fx) Bool.false_ne_true
 | str a=>
  obtain ⟨t',rfl⟩:=ry
  cases x with
  | non=>cases rx; exact SeqAt.EqAt.str_none a t'
  | bl b=>cases rx; exact SeqAt.EqAt.str_bool a t' b
  | int b=>obtain ⟨t,rfl⟩:=rx; exact SeqAt.EqAt.str_int a t' b t
  | str b=>obtain ⟨t,rfl⟩:=rx; exact SeqAt.EqAt.str_str a t' b t
  | _=>exact absurd (show false=true from fx) Bool.false_ne_true
 | _=>exact absurd (show false=true from fy) Bool.false_ne_true
def eqU (x:V) (u:Value):Bool:=match u with
 | .none=>eqV .non x
 | .bool b=>eqV (.bl b) x
 | .int i _=>eqV (.int i) x
 | .str z _=>eqV (.str z) x
 | _=>false
theorem xh {x y:V} {u:Value} (r:RelV y u) (f:flatV y=true):eqU x u=eqV y x:=by
 cases y with
 | non=>cases r; rfl
 | bl b=>cases r; rfl
 | int i=>obtain ⟨t,rfl⟩:=r; rfl
 | str z=>obtain ⟨t,rfl⟩:=r; rfl
 | _=>exact absurd (show false=true from f) Bool.false_ne_true
theorem lw {x:V}:∀ {xs:List V} {us:List Value},Vals xs us→xs.all flatV=true→us.any (eqU x)=xs.any fun y=>eqV y x
 | _,_,.nil,_=>rfl
 | y::xs,u::us,.cons r t,f=>by
  rw [List.all_cons,Bool.and_eq_true] at f
  rw [List.any_cons,List.any_cons,xh r f.1,lw t f.2]
theorem j8 {A:Around} {s:Shared} {x:V} {v:Value} (rx:RelV x v) (fx:flatV x=true):∀ {xs:List V} {us:List Value},Vals xs us→xs.all flatV=true→∀ u∈us,SeqAt.EqAt A s u v (eqU x u)
 | _,_,.nil,_=>fun u hu=>by cases hu
 | y::xs,u::us,.cons r t,f=>fun u' hu=>by
  rw [List.all_cons,Bool.and_eq_true] at f
  rcases List.mem_cons.mp hu with rfl | hu
  · rw [xh r f.1]; exact Aj r rx f.1 fx
  · exact j8 rx fx t f.2 u' hu
def inV (x:V) (xs:List V):Bool:=xs.any fun y=>eqV y x
def rIn (K:PySem.W.Frag) (neg:Bool):R2:=fun x y H Q=>∃ p xs,y=.ref p∧(SqL K H p xs∨SqT K H p xs)∧flatV x=true∧xs.all flatV=true∧Q (.bl (if neg then !inV x xs else inV x xs)) H
theorem mF:OpR X (compareOp .In) (rIn X.K false):=by
 intro pins s σ H x y v u Q I rx ry h
 obtain ⟨p,xs,rfl,hq,fx,fs,q⟩:=h
 cases ry
 rcases hq with hq | hq
 · obtain ⟨its,r,pl,hz⟩:=I.list hq
   refine SeqAt.in_listAt (eqU x) pl.isList (fun w hw=>j8 rx fx r fs w (by simpa using hw)) ⟨.bl _,H,I,rfl,?_⟩
   rw [show its.toArray.any (eqU x)=its.any (eqU x) by simp,lw r fs]
   exact q
 · obtain ⟨its,r,pl,hz⟩:=I.tuple hq
   refine SeqAt.in_tupleAt (eqU x) pl (fun w hw=>j8 rx fx r fs w (by simpa using hw)) ⟨.bl _,H,I,rfl,?_⟩
   rw [show its.toArray.any (eqU x)=its.any (eqU x) by simp,lw r fs]
   exact q
theorem mG:OpR X (compareOp .NotIn) (rIn X.K true):=by
 intro pins s σ H x y v u Q I rx ry h
 obtain ⟨p,xs,rfl,hq,fx,fs,q⟩:=h
 cases ry
 rcases hq with hq | hq
 · obtain ⟨its,r,pl,hz⟩:=I.list hq
   refine SeqAt.notIn_listAt (eqU x) pl.isList (fun w hw=>j8 rx fx r fs w (by simpa using hw)) ⟨.bl _,H,I,rfl,?_⟩
   rw [show its.toArray.any (eqU x)=its.any (eqU x) by simp,lw r fs]
   exact q
 · obtain ⟨its,r,pl,hz⟩:=I.tuple hq
   refine SeqAt.notIn_tupleAt (eqU x) pl (fun w hw=>j8 rx fx r fs w (by simpa using hw)) ⟨.bl _,H,I,rfl,?_⟩
   rw [show its.toArray.any (eqU x)=its.any (eqU x) by simp,lw r fs]
   exact q
theorem sF:OpR X (compareOp .NotIn) (fun x y H Q=>∃ i j,x=.str i∧y=.str j∧Q (.bl (!(!(Builtin.Str.occurrences j i 0 j.length 1).isEmpty))) H):=by
 intro pins s σ H x y v u Q I rx ry h
 obtain ⟨i,j,rfl,rfl,q⟩:=h
 obtain ⟨t,rfl⟩:=rx
 obtain ⟨t',rfl⟩:=ry
 exact notIn_str ⟨.bl _,H,I,rfl,q⟩
theorem mH:CallR X (.builtin "len") (fun xs H Q=>∃ p ys,xs=[.ref p]∧(SqL X.K H p ys∨SqT X.K H p ys)∧Q (.int ys.length) H):=by
 intro pins s σ H xs us Q I r h
 obtain ⟨p,ys,rfl,hq,q⟩:=h
 obtain ⟨u,rfl,rx⟩:=cL r
 cases rx
 have hn:=mC
 rcases hq with hq | hq
 · obtain ⟨its,r',pl,hz⟩:=I.list hq
   have hlen:=r'.length
   exact Calls.call_len_list pl.isList (by simp only [List.size_toArray] <;> omega) ⟨.int ys.length,H,I.tok _,⟨s.toks+1,by rw [List.size_toArray,hlen]⟩,q⟩
 · obtain ⟨its,r',pl,hz⟩:=I.tuple hq
   have hlen:=r'.length
   exact len_tuple pl (by simp only [List.size_toArray] <;> omega) ⟨.int ys.length,H,I.tok _,⟨s.toks+1,by rw [List.size_toArray,hlen]⟩,q⟩
theorem sG:CallR X (.builtin "len") (fun xs H Q=>∃ z,xs=[.str z]∧z.length≤sizeLine∧Q (.int z.length) H):=by
 intro pins s σ H xs us Q I r h
 obtain ⟨z,rfl,hz,q⟩:=h
 obtain ⟨u,rfl,t,rfl⟩:=cL r
 have hn:=mC
 exact len_str (by omega) ⟨.int z.length,H,I.tok _,⟨_,rfl⟩,q⟩
theorem sH:CallR X (.type "list") (fun xs H Q=>∃ p ys,xs=[.ref p]∧(SqL X.K H p ys∨SqT X.K H p ys)∧∀ l,H l=none→Q (.ref l) (upd H l (.lst ys))):=by
 intro pins s σ H xs us Q I r h
 obtain ⟨p,ys,rfl,hq,q⟩:=h
 obtain ⟨u,rfl,rx⟩:=cL r
 cases rx
 have fin:∀ (its:List Value),Vals ys its→ys.length≤sizeLine→∀ (h':Heap) (c':Nat),(∀ b o',s.heap.get? b=some o'→h'.get? b=some o')→
   h'.get? s.heap.objs.size=some { cls:=.type "list",dict:=none,data:=.seq its.toArray c',slots:=#[] }→EP X pins σ Q (.ref s.heap.objs.size) { s with heap:=h' }:=fun its r' hz h' c' kp e=>
  ⟨.ref s.heap.objs.size,_,I.laid (t':=s.toks) kp (Nat.le_refl _) (show ObjOk X.prog X.w _ h' _ (.lst ys) from ⟨hz,its,c',r',e⟩),rfl,q _ (I.hok.fresh (Nat.le_refl _))⟩
 rcases hq with hq | hq
 · obtain ⟨its,r',pl,hz⟩:=I.list hq
   have hlen:=r'.length
   obtain ⟨o,ho,hc,n,hd⟩:=pl.isList
   exact call_list_seq p (.inl rfl) ho hc hd (fun h' c' kp e=>fin its r' hz h' c' kp e) (by simp only [List.size_toArray] <;> omega)
 · obtain ⟨its,r',pl,hz⟩:=I.tuple hq
   have hlen:=r'.length
   obtain ⟨o,ho,hc,n,hd⟩:=pl
   exact call_list_seq p (.inr rfl) ho hc hd (fun h' c' kp e=>fin its r' hz h' c' kp e) (by simp only [List.size_toArray] <;> omega)
theorem rz:CallR X (.type "tuple") (fun xs H Q=>∃ p ys,xs=[.ref p]∧((SqL X.K H p ys∧∀ l,H l=none→Q (.ref l) (upd H l (.tup ys)))∨(SqT X.K H p ys∧Q (.ref p) H))):=by
 intro pins s σ H xs us Q I r h
 obtain ⟨p,ys,rfl,h⟩:=h
 obtain ⟨u,rfl,rx⟩:=cL r
 cases rx
 rcases h with ⟨hq,q⟩ | ⟨hq,q⟩
 · obtain ⟨its,r',pl,hz⟩:=I.list hq
   have hlen:=r'.length
   refine call_tuple_list pl.isList (fun h' kp=>?_) (by simp only [List.size_toArray] <;> omega)
   have I1:Inv X pins σ H { s with heap:=h' }:=I.kept (t':=s.toks) kp
   have I2:Inv X pins σ (upd H h'.objs.size (.tup ys)) { s with heap:=h'.push { cls:=.type "tuple",data:=.seq its.toArray } }:=
    I1.laid (t':=s.toks) (fun b o e=>Heap.get?_push_of_some _ e) (Nat.le_refl _) (show ObjOk X.prog X.w _ _ _ (.tup ys) from ⟨hz,its,r',IsTup.new _ _⟩)
   exact ⟨.ref h'.objs.size,_,I2,rfl,q _ (I1.hok.fresh (Nat.le_refl _))⟩
 · obtain ⟨its,r',pl,hz⟩:=I.tuple hq
   exact call_tuple_same pl ⟨.ref p,H,I,rfl,q⟩
def tyV (K:PySem.W.Frag) (T:String) (x:V) (H:Hp):Prop:=match x with
 | .str _=>T="str"
 | .int _=>T="int"
 | .ref p=>(T="list"∧∃ xs,SqL K H p xs)∨(T="tuple"∧∃ o,K.lookup p=some o∧o.cls=.type "tuple"∧o.dict=none)∨
   (T="dict"∧((∃ kvs,H p=some (.dK kvs))∨∃ kvs,H p=some (.dT kvs)))∨(T="set"∧∃ S n,H p=some (.set S n))
 | _=>False
theorem xi {pins:List (Addr × Obj)} {σ:St} {H:Hp} {s:Shared} {T:String} {x:V} {v:Value} (I:Inv X pins σ H s) (r:RelV x v) (ty:tyV X.K T x H):
  s.TypeIs v T∧∀ a,v=.ref a→∃ ob,s.heap.get? a=some ob∧ob.dict=none:=by
 cases x with
 | str z=>
  obtain ⟨t,rfl⟩:=r
  cases (show T="str" from ty)
  exact ⟨typeIs_str s z t,fun _ e=>nomatch e⟩
 | int i=>
  obtain ⟨t,rfl⟩:=r
  cases (show T="int" from ty)
  exact ⟨typeIs_int s i t,fun _ e=>nomatch e⟩
 | ref p=>
  cases r
  rcases ty with ⟨rfl,xs,hq⟩ | ⟨rfl,o,hk,hc,hd⟩ | ⟨rfl,hk⟩ | ⟨rfl,S,n,hk⟩
  · obtain ⟨its,_,pl,_⟩:=I.list hq
    refine ⟨pl.isList.typeIs,fun a e=>?_⟩
    cases e
    obtain ⟨o,n,e,c,hd,_⟩:=pl
    exact ⟨o,e,hd⟩
  · refine ⟨⟨o,I.kIn p o hk,hc⟩,fun a e=>?_⟩
    cases e
    exact ⟨o,I.kIn _ o hk,hd⟩
  · have z:∃ o,s.heap.get? p=some o∧o.ExactDict:=by
     rcases hk with ⟨kvs,hk⟩ | ⟨kvs,hk⟩
     · obtain ⟨_,_,_,_,o,_,_,e,ex,_⟩:=I.hok p _ hk
       exact ⟨o,e,ex⟩
     · obtain ⟨_,_,_,_,o,_,_,e,ex,_⟩:=I.hok p _ hk
       exact ⟨o,e,ex⟩
    obtain ⟨o,e,ex⟩:=z
    refine ⟨⟨o,e,ex.1⟩,fun a e2=>?_⟩
    cases e2
    exact ⟨o,e,ex.2.1⟩
  · obtain ⟨o,_,_,_,e,ex,_⟩:=I.hok p _ hk
    refine ⟨⟨o,e,ex.1⟩,fun a e2=>?_⟩
    cases e2
    exact ⟨o,e,ex.2.1⟩
 | _=>exact False.elim ty
def vQ (K:PySem.W.Frag) (T:String) (r:V→List V→Hp→VK→Prop) (to:TE):TE:=fun σ H Q=>to σ H fun x H1=>tyV K T x H1∧r x [] H1 Q
def tBM (K:PySem.W.Frag) (T:String) (r:V→List V→Hp→VK→Prop) (to:TE) (t:TA):TE:=fun σ H Q=>to σ H fun x H1=>tyV K T x H1∧t σ H1 fun xs H2=>r x xs H2 Q
variable {o e:Expr} {es:List Expr} {to:TE} {t:TA} {name:Str} {apos cpos:Pos} {T id:String} {r:V→List V→Hp→VK→Prop}
theorem xj (pa:PlainAttrs T) (slot:Slot T name id) (hty:typeOf (.builtin id)=pure (.type "method_descriptor")) (hm:MtR X id r) (ho:PE X o to)
  (hbase:attributeBase o name X.env (eval o X.env)=eval o X.env:=by rfl) (hline:(apos.endLine==cpos.line)=true:=by rfl):PE X (.Call (.Attribute o name apos) [] [] cpos) (vQ X.K T r to):=by
 intro pins s σ H Q I h
 refine wpAny_Call_method0_late hbase hline (thn (ho pins s σ H _ I h) fun v s1 ⟨x,H1,I1,r1,ty,q1⟩=>?_)
 obtain ⟨h1,h2⟩:=xi I1 r1 ty
 exact ⟨T,id,pa,slot,hty,h1,h2,Calls.callWith_builtin rfl (PySem.evalArgs_none (hm pins s1 σ H1 x [] v [] Q I1 r1 .nil q1))⟩
theorem d2 (pa:PlainAttrs T) (slot:Slot T name id) (hty:typeOf (.builtin id)=pure (.type "method_descriptor")) (hm:MtR X id r) (ho:PE X o to) (ha:PA X (e::es) t)
  (hbase:attributeBase o name X.env (eval o X.env)=eval o X.env:=by rfl)
  (hfew:((backTo cpos (starEach (e::es) X.env)).all (fun x=>!x.1)&&(backToKw cpos (keywordEach [] X.env)).all (fun x=>x.1.isSome)
   &&decide ((e::es).length+([]:List Keyword).length+(if ([]:List Keyword).isEmpty then 0 else 1) < 30))=true:=by rfl)
  (hline:(apos.endLine==cpos.line)=true:=by rfl) (hs:starEach (e::es) X.env=(false,eval e X.env)::starEach es X.env:=by rfl) (hplain:(backTo cpos (starEach es X.env)).any (·.1)=false:=by rfl):
  PE X (.Call (.Attribute o name apos) (e::es) [] cpos) (tBM X.K T r to t):=by
 intro pins s σ H Q I h
 refine wpAny_Call_method_late hbase hfew hline rfl (thn (ho pins s σ H _ I h) fun v s1 ⟨x,H1,I1,r1,ty,q1⟩=>?_)
 obtain ⟨h1,h2⟩:=xi I1 r1 ty
 refine ⟨T,id,pa,slot,hty,h1,h2,?_⟩
 have hA:=ha cpos pins s1 σ H1 _ I1 q1
 rw [hs] at hA ⊢
 refine Calls.callWith_builtin (by show (false||(backTo cpos (starEach es X.env)).any (·.1))=false; rw [hplain] <;> rfl) (Calls.evalArgs_plain ?_)
 exact thn hA fun us s2 ⟨vs,H2,I2,r2,q2⟩=>hm pins s2 σ H2 x vs v us Q I2 r1 r2 q2
end
end L2
namespace L2
open PySem PySem.Spec PyProof.Rows
def MtM (X:Cx) (id:String) (r:V→List V→Hp→VK→Prop):Prop:=
 ∀ (pins:List (Addr × Obj)) (s:Shared) (σ:St) (H:Hp) (x:V) (xs:List V) (v:Value) (us:List Value) (Q:VK),Inv X pins σ H s→RelV x v→Vals xs us→r x xs H Q→
  wpAny (model X.prog X.w) X.A (call (.builtin id) (v::us)) (EP X pins σ Q) X.xe s
theorem Vals.one:∀ {x:V} {us:List Value},Vals [x] us→∃ u,us=[u]∧RelV x u
 | _,_,.cons r .nil=>⟨_,rfl,r⟩
theorem Vals.eraseIdx:∀ {xs:List V} {us:List Value} (i:Nat),Vals xs us→Vals (xs.eraseIdx i) (us.eraseIdx i)
 | _,_,_,.nil=>.nil
 | _,_,0,.cons _ t=>t
 | _,_,i+1,.cons r t=>.cons r (Vals.eraseIdx i t)
theorem Vals.rep {xs:List V} {us:List Value} (h:Vals xs us):∀ k:Nat,Vals (List.replicate k xs).flatten (List.replicate k us).flatten
 | 0=>.nil
 | k+1=>by
  rw [List.replicate_succ,List.replicate_succ,List.flatten_cons,List.flatten_cons]
  exact Vals.append h (Vals.rep h k)
theorem qT {α:Type}:∀ (l:List α) (i:Nat),(l.eraseIdx i).length≤l.length
 | [],_=>Nat.le_refl _
 | _::_,0=>Nat.le_succ _
 | _::r,i+1=>Nat.succ_le_succ (qT r i)
theorem qU (its:List Value):∀ (k:Nat) (acc:List Value),
  List.foldl (fun x1 x2=>x1++x2) acc.toArray (List.replicate k its.toArray)=(acc++(List.replicate k its).flatten).toArray
 | 0,acc=>by simp
 | k+1,acc=>by
  have e:acc.toArray++its.toArray=(acc++its).toArray:=by simp
  have e2:(acc++its)++(List.replicate k its).flatten=acc++(List.replicate (k+1) its).flatten:=by
   rw [List.replicate_succ,List.flatten_cons,List.append_assoc]
  rw [← e2,← qU its k (acc++its),← e,List.replicate_succ,List.foldl_cons]
section
variable {X:Cx} {pins:List (Addr × Obj)} {σ:St} {H:Hp} {s:Shared} {l b:Addr} {xs ys zs:List V}
theorem Inv.lset {its its':List Value} {n:Nat} {f:Array Value→Array Value} {t':Nat} (I:Inv X pins σ H s) (hH:H l=some (.lst xs))
  (e:s.heap.get? l=some { cls:=.type "list",data:=.seq its.toArray n }) (hf:f its.toArray=its'.toArray) (hv:Vals ys its') (hz:ys.length≤sizeLine):
  Inv X pins σ (upd H l (.lst ys)) { s with heap:=s.heap.update l (Obj.mapSeq f),toks:=t' }:=by
 have q:=PySem.IsL.update e f
 rw [hf] at q
 refine I.write (x:=l) (e:=l) (by rw [hH]; exact trivial) (.inl rfl) (fun b' u hb hu=>(Heap.get?_update_other s.heap (Obj.mapSeq f) (Ne.symm hb)).trans hu) ⟨_,q⟩ ?_
 exact ⟨hz,its',_,hv,q⟩
theorem Inv.lnew {its:List Value} {t':Nat} (I:Inv X pins σ H s) (hv:Vals ys its) (hz:ys.length≤sizeLine):
  Inv X pins σ (upd H s.heap.objs.size (.lst ys)) { s with heap:=s.heap.push { cls:=.type "list",data:=.seq its.toArray },toks:=t' }:=
 I.laid (fun _ _ q=>Heap.get?_push_of_some _ q) (Nat.le_refl _) ⟨hz,its,0,hv,Heap.get?_push_size _ rfl⟩
theorem Inv.fresh (I:Inv X pins σ H s):H s.heap.objs.size=none:=I.hok.fresh (Nat.le_refl _)
theorem Inv.lstM (I:Inv X pins σ H s) (hH:H l=some (.lst xs)):xs.length≤sizeLine∧∃ (its:List Value) (n:Nat),Vals xs its∧xs.length=its.length∧s.heap.get? l=some { cls:=.type "list",data:=.seq its.toArray n }:=by
 obtain ⟨z,its,n,r,e⟩:=I.hok l _ hH
 exact ⟨z,its,n,r,r.length,e⟩
theorem sI {n:Nat} (h:n≤sizeLine):Builtin.List.listTooLong n=false:=by
 unfold Builtin.List.listTooLong
 exact decide_eq_false (by omega)
end
section
variable {X:Cx}
def zu:V→List V→Hp→VK→Prop:=fun x vs H Q=>∃ l xs y,x=.ref l∧vs=[y]∧H l=some (.lst xs)∧xs.length < sizeLine∧Q .non (upd H l (.lst (xs++[y])))
theorem qV:MtM X "list.append" zu:=by
 intro pins s σ H x vs v us Q I rx rv h
 obtain ⟨l,xs,y,rfl,rfl,hH,hz,q⟩:=h
 cases rx
 obtain ⟨u,rfl,ru⟩:=rv.one
 obtain ⟨z,its,n,r,hl,e⟩:=I.lstM hH
 refine call_meets F.slot_list_append ⟨_,e,rfl⟩ F.entry_list_append (F.args_list_append_2 _ _) (PySem.list_append l its.toArray n u (by rw [List.size_toArray]; omega)) ⟨e,?_⟩
 refine ⟨.non,_,I.lset (its':=its++[u]) hH e (by simp) (r.append (.cons ru .nil)) ?_,rfl,q⟩
 rw [List.length_append,List.length_singleton]
 omega
def zv:V→List V→Hp→VK→Prop:=fun x vs H Q=>∃ l b xs zs,x=.ref l∧vs=[.ref b]∧H l=some (.lst xs)∧H b=some (.lst zs)∧xs.length+zs.length≤sizeLine∧Q .non (upd H l (.lst (xs++zs)))
theorem xk:MtM X "list.extend" zv:=by
 intro pins s σ H x vs v us Q I rx rv h
 obtain ⟨l,b,xs,zs,rfl,rfl,hH,hB,hz,q⟩:=h
 cases rx
 obtain ⟨u,rfl,ru⟩:=rv.one
 cases ru
 obtain ⟨z,its,n,r,hl,e⟩:=I.lstM hH
 obtain ⟨z2,its2,n2,r2,hl2,e2⟩:=I.lstM hB
 have hsz:its.toArray.size+its2.toArray.size≤sizeLine:=by rw [List.size_toArray,List.size_toArray]; omega
 have hlong:¬ (!its.toArray.isEmpty&&Builtin.List.listTooLong (its.toArray.size+its2.toArray.size))=true:=by
  rw [sI hsz,Bool.and_false]
  exact Bool.false_ne_true
 refine call_meets F.slot_list_extend ⟨_,e,rfl⟩ F.entry_list_extend (F.args_list_extend_2 _ _)
  (AutoSeq1.list_extend_list_list_0 l its.toArray n b its2.toArray n2 hlong (by rw [List.size_toArray]; omega) (by omega)) ⟨e,e2,?_⟩
 refine ⟨.non,_,I.lset (its':=its++its2) hH e (by simp) (r.append r2) ?_,rfl,q⟩
 rw [List.length_append]
 omega
def Ak:V→List V→Hp→VK→Prop:=fun x vs H Q=>∃ l xs i k y,x=.ref l∧vs=[.int i]∧H l=some (.lst xs)∧ -(2^63)≤i∧i < 2^63∧seqIndex? i xs.length=some k∧xs[k]? =some y∧Q y (upd H l (.lst (xs.eraseIdx k)))
theorem yz:MtM X "list.pop" Ak:=by
 intro pins s σ H x vs v us Q I rx rv h
 obtain ⟨l,xs,i,k,y,rfl,rfl,hH,h1,h2,hk,hy,q⟩:=h
 cases rx
 obtain ⟨u,rfl,ru⟩:=rv.one
 obtain ⟨t,rfl⟩:=ru
 obtain ⟨z,its,n,r,hl,e⟩:=I.lstM hH
 obtain ⟨w,hw,rw'⟩:=r.get hy
 refine call_meets F.slot_list_pop ⟨_,e,rfl⟩ F.entry_list_pop (F.args_list_pop_2 _ _)
  (MeetsSeq.list_pop_at l its.toArray n i t k w (fitsIndex_both h1 h2) (by rw [List.size_toArray,← hl]; exact hk) (by rw [← Array.getElem?_toList]; exact hw) (by rw [List.size_toArray]; omega)) ⟨e,?_⟩
 refine ⟨y,_,I.lset (its':=its.eraseIdx k) hH e ?_ (r.eraseIdx k) ?_,rw',q⟩
 · show its.toArray.eraseIdxIfInBounds k=(its.eraseIdx k).toArray
   rw [List.eraseIdxIfInBounds_toArray]
 · have:=qT xs k
   omega
def rCat:R2:=fun x y H Q=>∃ l b xs zs,x=.ref l∧y=.ref b∧H l=some (.lst xs)∧H b=some (.lst zs)∧xs.length+zs.length≤sizeLine∧∀ p,H p=none→Q (.ref p) (upd H p (.lst (xs++zs)))
theorem Al:OpR X (binaryOp .Add) rCat:=by
 intro pins s σ H x y v u Q I rx ry h
 obtain ⟨l,b,xs,zs,rfl,rfl,hH,hB,hz,q⟩:=h
 cases rx
 cases ry
 obtain ⟨z,its,n,r,hl,e⟩:=I.lstM hH
 obtain ⟨z2,its2,n2,r2,hl2,e2⟩:=I.lstM hB
 refine PySem.P.add_list e e2 ?_ (by rw [List.size_toArray,List.size_toArray]; omega)
 have ea:its.toArray++its2.toArray=(its++its2).toArray:=by simp
 rw [ea]
 exact ⟨.ref _,_,I.lnew (t':=s.toks) (r.append r2) (by rw [List.length_append]; omega),rfl,q _ I.fresh⟩
def rRep:R2:=fun x y H Q=>∃ l k xs,x=.ref l∧y=.int k∧H l=some (.lst xs)∧ -(2^63)≤k∧k < 2^63∧xs.length*k.toNat≤sizeLine∧
 ∀ p,H p=none→Q (.ref p) (upd H p (.lst (List.replicate k.toNat xs).flatten))
theorem zw {α:Type} (xs:List α) (k:Nat):(List.replicate k xs).flatten.length=k*xs.length:=by
 induction k with
 | zero=>simp
 | succ k ih=>rw [List.replicate_succ,List.flatten_cons,List.length_append,ih,Nat.succ_mul,Nat.add_comm]
theorem Am:OpR X (binaryOp .Mult) rRep:=by
 intro pins s σ H x y v u Q I rx ry h
 obtain ⟨l,k,xs,rfl,rfl,hH,h1,h2,hz,q⟩:=h
 cases rx
 obtain ⟨t,rfl⟩:=ry
 obtain ⟨z,its,n,r,hl,e⟩:=I.lstM hH
 have hlen:its.toArray.size*k.toNat≤sizeLine:=by rw [List.size_toArray,← hl]; exact hz
 have hcap:¬ its.toArray.size*k.toNat > (2^63 - 1) / 8:=by
  have:(sizeLine:Nat)≤(2^63 - 1) / 8:=by decide
  omega
 have hfit:¬ (!Builtin.List.listFitsIndex k)=true:=by
  rw [fitsIndex_both h1 h2]
  exact Bool.false_ne_true
 have hlong:¬ Builtin.List.listTooLong (its.toArray.size*k.toNat)=true:=by
  rw [sI hlen]
  exact Bool.false_ne_true
 have hnew:List.foldl (fun x1 x2=>x1++x2) #[] (List.replicate (if its.toArray.isEmpty=true then 0 else k.toNat) its.toArray)=(List.replicate k.toNat its).flatten.toArray:=by
  have f0:∀ m:Nat,List.foldl (fun x1 x2=>x1++x2) #[] (List.replicate m its.toArray)=(List.replicate m its).flatten.toArray:=fun m=>by
   have:=qU its m []
   rw [List.nil_append] at this
   exact this
  rw [f0]
  cases its with
  | nil=>simp
  | cons a r'=>rw [if_neg (by simp)]
 refine wpAny_binaryOp_repeat_ref (T:="list") (U:="int") (by decide) ⟨_,e,rfl⟩ (fun s'=>typeIs_int s' k t) noFill_list_mul F.fills_int_mul F.slot_int_rmul repeat_list F.slot_int_index.lookup
  (call_meets F.slot_int_rmul (typeIs_int s k t) F.entry_int_rmul (F.args_int_rmul_2 _ _) (int___rmul___int_list k t l its.toArray n)
   ⟨e,rfl,⟨_,e,rfl⟩,call_meets F.slot_list_mul ⟨_,e,rfl⟩ F.entry_list_mul (F.args_list_mul_2 _ _) (AutoListH.list___mul___list_int_3 l its.toArray n k t hfit hcap hlong) ⟨e,?_⟩⟩)
 rw [hnew]
 exact ⟨.ref _,_,I.lnew (t':=s.toks) (r.rep k.toNat) (by rw [zw,Nat.mul_comm]; exact hz),rfl,q _ I.fresh⟩
end
end L2
namespace Att
open PySem PySem.W PySem.Calls PyProof.Rows
theorem ints_of_wellAll {P:Params} {h:Heap}:∀ (ns:List Int) (vs:List Value),WellAll P h vs (ns.map WData.int)→IntsAre vs ns:=by
 intro ns
 induction ns with
 | nil=>
  intro vs w
  rw [List.map_nil] at w
  cases w
  exact .nil
 | cons n ns ih=>
  intro vs w
  rw [List.map_cons] at w
  cases w with
  | cons a b=>
   cases a
   exact .cons _ _ (ih _ b)
theorem script_of {l:OpenLaw} {n:Nat} (hn:l.most=some n) {P:Params} {h:Heap} {args:List WData} {vals:List Value}
  (hpre:l.row.toRowW.claim.pre args=true) (hwl:WellAll P h vals args):
  ∃ a vs ns,vals=[Value.ref a]∧args=[WData.list (ns.map WData.int)]∧h.get? a=some { cls:=.type "list",data:=.seq vs.toArray }∧IntsAre vs ns∧ns.length≤n:=by
 have hsh:WShape.hasAll [] args [.list .int]=true:=(pre_splitW hpre).1
 have hc:l.pre.holds [] { args:=args }=true:=(pre_splitW hpre).2
 obtain ⟨d,r,rfl,h1,h2⟩:=hasAllW_cons hsh
 obtain rfl:=hasAllW_nil h2
 obtain ⟨xs,rfl,h3⟩:=hasW_list h1
 obtain ⟨ns,rfl⟩:=items_int h3
 have hlen:ns.length≤n:=by
  unfold OpenLaw.pre at hc
  have h4:(WTm.not (.lt (.lit (.int (n:Int))) (.len (.arg 0)))).holds [] { args:=[.list (ns.map .int)] }=true:=by
   have h4:=(holds_andW hc).1
   rw [hn] at h4
   exact h4
  have h5:=condW_of h4 (w_not (w_lt w_lit (w_len_list (w_arg rfl))))
  rw [List.length_map] at h5
  refine Nat.le_of_not_lt fun q=>?_
  have q':(n:Int) < ((ns.length:Nat):Int):=by omega
  first
   | (rw [decide_eq_true q'] at h5; exact absurd h5 (by decide))
   | (simp at h5; omega)
 cases hwl with
 | cons w1 w2=>
  cases w2
  cases w1 with
  | list ho hall=>exact ⟨_,_,ns,rfl,rfl,ho,ints_of_wellAll ns _ hall,hlen⟩
theorem post_true (l:OpenLaw) (args:List WData):l.row.toRowW.claim.post args (.bool true) args=true:=
 postW_of (r:=l.row.toRowW) (X:=(true==true))
  (show WShape.has [] (.bool true) .bool=true by first | rfl | decide | simp [WShape.has,WShape.arms,WShape.armsAll])
  (show (WTm.eq .res (.lit (.bool true))).value [] { args:=args,res:=some (.bool true),after:=args }=some (.bool (true==true)) from w_eq_bool (w_res rfl) w_lit) rfl
theorem attach_call {l:OpenLaw} {n:Nat} {q:Program} {loose:List Str} {XP:(Str→Option Value)→Heap→Prop} {YP:World→Heap→Prop} {d:DefRec}
  (hn:l.most=some n) (hdf:d.params.defaults=[])
  (call:∀ (w:World) (s₀ s₁:Shared) (mg mb:Str→Option Value) (fa:Addr) (o:Obj) (pm cd doc:Value) (a:Addr) (vs:List Value) (ns:List Int),
   Ground q loose [] XP w s₀ mg mb s₁.heap→YP w s₁.heap→
   s₁.heap.get? fa=some o→o.data=.func (docDef d.name d.params d.body d.scope pm cd doc)→s₁.heap.CodeRec cd d.name→mg d.name=some (.ref fa)→
   s₁.heap.get? a=some { cls:=.type "list",data:=.seq vs.toArray }→IntsAre vs ns→ns.length≤n→s₁.gens=#[]→
   codeAny (model l.prog w) callerA (.call (.ref fa) ⟨[.ref a],[]⟩) (fun r s'=>r=.ok (.ret (.bool true))∧OldK s₁.heap s'.heap∧s'.os=s₁.os∧AllBare s'.gens) s₁):
  WalkO q loose XP YP l.row.toRowW d [] (fun f vs=>PySem.call f vs):=by
 intro w s₀ s₁ mg mb G Y fa o pm cd doc dV kV ho hd hcd hD hmg hg args vals as hpre hlay hrd hwl hlo
 obtain rfl:dV=.none:=Dflts.none hD hdf
 obtain rfl:kV=.none:=Dflts.noKw hD
 obtain ⟨a,vs,ns,rfl,rfl,hobj,hints,hlen⟩:=script_of hn hpre hwl
 refine enter_call (codeAny_mono (call w s₀ s₁ mg mb fa o pm cd doc a vs ns G Y ho (fd_plain hd) hcd hmg hobj hints hlen hg) fun r s' hq=>?_)
 obtain ⟨rfl,h2,h3,h4⟩:=hq
 exact ⟨.inl ⟨.bool true,.bool true,[],rfl,fun _=>rfl,.bool true,post_true l _,fun _=>⟨List.Pairwise.nil,fun _ hm=>(nomatch hm)⟩⟩,h2,h3,h4⟩
section
variable {prog:Program} {w:World} {A:Around} {E:Value→Shared→Prop} {s:Shared} {K:Frag}
end
end Att
namespace L2
open PySem PySem.Spec PyProof.Rows
theorem mI:∀ {vs:List Value} {ns:List Int},IntsAre vs ns→Vals (ns.map V.int) vs
 | _,_,.nil=>.nil
 | _,_,.cons n t h=>.cons ⟨t,rfl⟩ (mI h)
def Only (H:Hp):Prop:=∀ b,H b=none∨∃ o xs,H b=some (.frz o (.lst xs))
theorem yA {P:Program} {w:World} {K:PySem.W.Frag} {mg mb:Str→Option Value} {CX:CXT} {k:Nat} {fa a:Addr} {fd:FuncData} {x:Str} {sp:Sp} {s₁:Shared} {vs:List Value} {ns:List Int}
  (KX:K.In s₁.heap) (hns:s₁.heap.Ns mainGlobals mg) (hb:s₁.heap.Ns builtinsNs mb) (hbb:∀ x:Str,x≠"__name__"→mb x=bootBuiltins x) (hlim:s₁.heap.NoLimit) (hg:s₁.gens=#[])
  (ha:s₁.heap.get? a=some { cls:=.type "list",data:=.seq vs.toArray }) (hi:IntsAre vs ns) (hl:ns.length≤sizeLine) (hr:Room k callerA)
  (F:∀ base:Heap,K.In base→base.Ns mainGlobals mg→FnOk P w K mg base CX k fa fd [x] sp) (hbind:∀ (s:Shared) (u:Value),BindsTo s fd ⟨[u],[]⟩ [(x,u)])
  (hsp:∀ H:Hp,Only H→SqL K H a (ns.map V.int)→sp [.ref a] H (fun v _=>v=.bl true) fun _ _ _=>False)
  (hCX:∀ H e s',CX [] H s₁ (fun _ _ _=>False) e s'→False):
  codeAny (model P w) callerA (.call (.ref fa) ⟨[.ref a],[]⟩) (fun r s'=>r=.ok (.ret (.bool true))∧OldK s₁.heap s'.heap∧s'.os=s₁.os∧AllBare s'.gens) s₁:=by
 have rv:=mI hi
 have lenV:=hi.length
 have core:∀ H:Hp,Only H→SqL K H a (ns.map V.int)→HOk P w H s₁.heap→(∀ b,H b≠none→b=a)→(H a≠none→K.lookup a=none)→
   codeAny (model P w) callerA (.call (.ref fa) ⟨[.ref a],[]⟩) (fun r s'=>r=.ok (.ret (.bool true))∧OldK s₁.heap s'.heap∧s'.os=s₁.os∧AllBare s'.gens) s₁:=by
  intro H hO hS hok hA hK
  have base_of:∀ {b:Addr} {o:Obj},s₁.heap.get? b=some o→H b=none→(hidT s₁.heap H).get? b=some o:=fun e n=>yt e n
  have noA:∀ {b:Addr} {o:Obj} {es:Array DictEntry} {ep:Nat},s₁.heap.get? b=some o→o.data=.dict es ep→H b=none:=fun {b o es ep} e d=>by
   cases q:H b with
   | none=>rfl
   | some u=>
    have e':b=a:=hA b (by rw [q]; simp)
    subst e'
    rw [ha] at e; cases e
    have d':Data.seq vs.toArray _=Data.dict es ep:=d
    cases d'
  have nsK:∀ {b:Addr} {m:Str→Option Value},s₁.heap.Ns b m→(hidT s₁.heap H).Ns b m:=fun {b m} ⟨o,es,ep,e,d,r⟩=>⟨o,es,ep,base_of e (noA e d),d,r⟩
  have hKb:K.In (hidT s₁.heap H):=fun b o e=>base_of (KX b o e) (by
   cases q:H b with
   | none=>rfl
   | some u=>
    have e':b=a:=hA b (by rw [q]; simp)
    subst e'
    rw [hK (by rw [q]; simp)] at e; cases e)
  have hM:Mod K mg (hidT s₁.heap H):=⟨hKb,nsK hns,⟨mb,nsK hb,hbb⟩,let ⟨mc,h1,h2⟩:=hlim; ⟨mc,nsK h1,h2⟩⟩
  have e0:Env0 P w K mg (hidT s₁.heap H) callerA [] s₁ H:=⟨rfl,hM,fun b o e=>zk e,Nat.le_of_eq (wS _ _),trivial,fun b hb=>absurd (show b∈([]:List Addr) from hb) (by simp),hok,.of_eq hg⟩
  refine codeAny_mono ((F _ hKb (nsK hns)).run callerA [] s₁ H ⟨[.ref a],[]⟩ [.ref a] [.ref a] _ _ hr e0 (hbind s₁ (.ref a)) (.cons rfl .nil) (hsp H hO hS)) fun r s' h=>?_
  cases r with
  | error e=>exact (hCX H e s' h).elim
  | ok fl=>
   cases fl with
   | next=>exact False.elim h
   | brk=>exact False.elim h
   | cont=>exact False.elim h
   | ret u=>
    obtain ⟨v,H',os,bare,un,hok',r',q⟩:=h
    have q':v=.bl true:=q
    subst q'
    obtain rfl:u=Value.bool true:=r'
    refine ⟨rfl,OldK.of_keep fun b o e=>?_,os,bare⟩
    cases q:H b with
    | none=>exact un.keep b o e q (by intro z; exact absurd (show b∈([]:List Addr) from z) (by simp)) (by simp)
    | some u=>
     rcases hO b with z | ⟨ob,xs,z⟩
     · rw [q] at z; cases z
     · have z2:=un.frzs b ob _ z
       obtain ⟨e1,_⟩:=hok b _ z
       obtain ⟨e2,_⟩:=hok' b _ z2
       rw [e] at e1; cases e1
       exact e2
 cases hk:K.lookup a with
 | some o=>
  have e:=KX a o hk
  rw [ha] at e
  cases e
  refine core (fun _=>none) (fun _=>.inl rfl) (.inr ⟨_,vs.toArray,_,hk,rfl,rfl,rfl,by rw [List.size_toArray,lenV]; exact hl,by simpa using rv⟩) (fun b u z=>by have z':(none:Option HO)=some u:=z; cases z') (fun b z=>absurd rfl z) fun z=>absurd rfl z
 | none=>
  refine core (fun b=>if b=a then some (.frz { cls:=.type "list",data:=.seq vs.toArray } (.lst (ns.map V.int))) else none) (fun b=>?_) (.inl (.inr ⟨{ cls:=.type "list",data:=.seq vs.toArray },if_pos rfl⟩)) (fun b u z=>?_) (fun b z=>?_) fun _=>hk
  · by_cases hb:b=a
    · exact .inr ⟨_,_,if_pos hb⟩
    · exact .inl (if_neg hb)
  · by_cases hb:b=a
    · have z':=(if_pos hb).symm.trans z
      cases z'
      subst hb
      exact ⟨ha,by rw [List.length_map]; exact hl,vs,_,rv,ha⟩
    · have z':=(if_neg hb).symm.trans z
      cases z'
  · by_cases hb:b=a
    · exact hb
    · exact absurd (if_neg hb) z
end L2
namespace L2
open PySem PySem.Spec PyProof.Rows
theorem zx {l:PySem.W.OpenLaw} {n k:Nat} {q:Program} {loose:List Str} {XP:(Str→Option Value)→Heap→Prop} {YP:World→Heap→Prop} {d:DefRec} {K:Params→PySem.W.Frag} {CX:World→CXT} {sp:World→Sp} {x:Str}
  (hn:l.most=some n) (hn2:n≤sizeLine) (hdf:d.params.defaults=[]) (hr:Room k callerA)
  (hY:∀ (w:World) (h:Heap),YP w h→(K w.params).In h)
  (F:∀ (w:World) (mg:Str→Option Value) (fa:Addr) (h:Heap),(K w.params).In h→h.Ns mainGlobals mg→mg d.name=some (.ref fa)→
   ∃ fd:FuncData,(∀ (s:Shared) (u:Value),BindsTo s fd ⟨[u],[]⟩ [(x,u)])∧
    ∀ base:Heap,(K w.params).In base→base.Ns mainGlobals mg→FnOk l.prog w (K w.params) mg base (CX w) k fa fd [x] (sp w))
  (hsp:∀ (w:World) (H:Hp) (a:Addr) (ns:List Int),ns.length≤n→Only H→SqL (K w.params) H a (ns.map V.int)→sp w [.ref a] H (fun v _=>v=.bl true) fun _ _ _=>False)
  (hCX:∀ (w:World) (H:Hp) (s:Shared) (e:Value) (s':Shared),CX w [] H s (fun _ _ _=>False) e s'→False):
  PySem.W.WalkO q loose XP YP l.row.toRowW d [] (fun f vs=>PySem.call f vs):=by
 refine Att.attach_call hn hdf fun w s₀ s₁ mg mb fa o pm cd doc a vs ns G Y ho hd hcd hmg hobj hints hlen hg=>?_
 have KX:=hY w _ Y
 obtain ⟨fd,hb,hF⟩:=F w mg fa _ KX G.T.g hmg
 exact yA KX G.T.g G.T.b G.T.builtins G.T.nolimit hg hobj hints (Nat.le_trans hlen hn2) hr hF hb (fun H hO hS=>hsp w H a ns hlen hO hS) fun H e s'=>hCX w H s₁ e s'
end L2
namespace L2
open PySem PySem.Spec PyProof.Rows
def bD (s:Stmt):Arguments:=match s with
 | .FunctionDef _ a _ _ _ _ _ _ _ _=>a
 | _=>{ posonlyargs:=[],args:=[],vararg:=none,kwonlyargs:=[],kw_defaults:=[],kwarg:=none,defaults:=[] }
def bv (s:Stmt):List Stmt:=match s with
 | .FunctionDef _ _ b _ _ _ _ _ _ _=>b
 | _=>[]
def ah (s:Stmt):Scope:=match s with
 | .FunctionDef _ _ _ _ _ _ sc _ _ _=>sc
 | _=>{ kind:=.function,names:=[],isGenerator:=false,isCoroutine:=false }
abbrev CX0:CXT:=fun _ _ _ _ _ _=>False
abbrev E0:XK:=fun _ _ _=>False
theorem sk {X:Cx}:mE CX0 X E0:=fun _ _ _ _ _ _ _ h=>h.elim
structure Fun (K:PySem.W.Frag) (x qual:Str) (st:Stmt) (f:Addr) (fd:FuncData):Prop where
 ex:∃ (oc:Value) (od:Option Addr) (kV doc pm:Value) (an:Option Addr) (cdv ct:Value) (osl:Array (Option Value)),
  fd=PySem.W.fnOf x qual (bD st) (bv st) (ah st) .none kV doc pm an cdv ct∧K.lookup f=some ⟨oc,od,.func fd,osl⟩∧PySem.W.codeIn K cdv qual=true
 kp:PySem.W.keepIn K (.ref f)=true
section
variable {P:Program} {w:World} {K:PySem.W.Frag} {mg:Str→Option Value} {base:Heap}
theorem Fun.ok {x qual:Str} {st:Stmt} {f:Addr} {fd:FuncData} {N ps:List Str} {k:Nat} {sp:Sp} (F:Fun K x qual st f fd) (S:am N ps (ah st)) (len:∀ vs H Q E,sp vs H Q E→vs.length=ps.length)
  (hbody:∀ (cdv:Value) (A:Around) (outer:List Env) (s:Shared) (H:Hp) (vs:List V) (Q:VK) (E:XK),Room k (A.deeper (envOfC qual (ah st) s.heap.objs.size f cdv))→sp vs H Q E→
   ∃ t,PSs (cxOf CX0 P w K mg base N qual (ah st) f cdv A outer s H E).nox (bv st) t∧t { nx:=fun _ H'=>Q .non H',rt:=Q } (start N vs) H):FnOk P w K mg base CX0 (k+1) f fd ps sp:=by
 obtain ⟨oc,od,kV,doc,pm,an,cdv,ct,osl,rfl,lk,hcd⟩:=F.ex
 refine A1 lk hcd S len fun A outer s H vs Q E hr hsp=>?_
 obtain ⟨t,h,q⟩:=hbody cdv A outer s H vs Q E hr hsp
 exact ⟨t,h.nox,q⟩
theorem Fun.binds {x qual:Str} {st:Stmt} {f:Addr} {fd:FuncData} {ps:List Str} (F:Fun K x qual st f fd)
  (h:∀ (kV doc pm:Value) (an:Option Addr) (cdv ct:Value) (us:List Value),us.length=ps.length→bindArgs (PySem.W.fnOf x qual (bD st) (bv st) (ah st) .none kV doc pm an cdv ct) ⟨us,[]⟩=pure (ps.zip us)):Binds K fd ps []:=by
 obtain ⟨oc,od,kV,doc,pm,an,cdv,ct,osl,rfl,lk,hcd⟩:=F.ex
 exact .all (h kV doc pm an cdv ct)
theorem aq {x qual:Str} {st:Stmt} {f:Addr} {oc:Value} {od an:Option Addr} {osl:Array (Option Value)} {kV doc pm cdv ct:Value} (l:K.lookup f=some ⟨oc,od,.func (PySem.W.fnOf x qual (bD st) (bv st) (ah st) .none kV doc pm an cdv ct),osl⟩)
  (c:PySem.W.codeIn K cdv qual=true) (k:PySem.W.keepIn K (.ref f)=true):Fun K x qual st f (PySem.W.fnOf x qual (bD st) (bv st) (ah st) .none kV doc pm an cdv ct):=⟨⟨oc,od,kV,doc,pm,an,cdv,ct,osl,rfl,l,c⟩,k⟩
end
theorem aE {n:Nat} (h:n≤1000):n < sizeLine:=Nat.lt_of_le_of_lt h (by decide)
section
variable {X:Cx}
theorem pv (i:Nat) {x:Str} {pos:Pos} (hN:X.N[i]? =some x:=by rfl) (hv:Vis X.env.scope x:=by first | exact Or.inl rfl | exact Or.inr (Or.inl rfl) | exact Or.inr (Or.inr rfl)) (hd:(x==("__debug__":Str))=false:=by decide)
  (hcd:(x==("__classdict__":Str))=false:=by decide):PE X (.Name x pos) (tVar i):=z8 hN hv hd hcd
end
theorem iteF {A B:Prop} (h:B):if false=true then A else B:=by
 rw [if_neg Bool.false_ne_true]
 exact h
theorem iteT {A B:Prop} (h:A):if true=true then A else B:=by
 rw [if_pos rfl]
 exact h
def Same (H H':Hp):Prop:=∀ b o,H b=some o→H' b=some o
theorem Same.refl (H:Hp):Same H H:=fun _ _ h=>h
theorem Same.trans {H H1 H2:Hp} (a:Same H H1) (b:Same H1 H2):Same H H2:=fun c o h=>b c o (a c o h)
theorem Same.free {H H':Hp} (e:Same H H') {l:Addr} (h:H' l=Option.none):H l=Option.none:=by
 cases q:H l with
 | none=>rfl
 | some o=>
  rw [e l o q] at h
  cases h
theorem Same.seq {K:PySem.W.Frag} {H H':Hp} {a:Addr} {xs:List V} (e:Same H H') (h:SqL K H a xs):SqL K H' a xs:=by
 rcases h with (h | ⟨o,h⟩) | h
 · exact .inl (.inl (e _ _ h))
 · exact .inl (.inr ⟨o,e _ _ h⟩)
 · exact .inr h
end L2
namespace L2
open PySem PySem.Spec PyProof.Rows
section
variable {κ:Type} [DecidableEq κ]
def valV (kvs:List (κ × V)) (k:κ):Option V:=(kvs.find? fun kv=>decide (kv.1=k)).map (·.2)
def putK (kvs:List (κ × V)) (k:κ) (v:V):List (κ × V):=
 if (kvs.any fun kv=>decide (kv.1=k))=true then kvs.map (fun kv=>if kv.1=k then (kv.1,v) else kv) else kvs++[(k,v)]
theorem sJ {p:κ × V} {r:List (κ × V)} {k:κ} (e:p.1=k):valV (p::r) k=some p.2:=by simp [valV,List.find?_cons,e]
theorem sK {p:κ × V} {r:List (κ × V)} {k:κ} (e:¬ p.1=k):valV (p::r) k=valV r k:=by simp [valV,List.find?_cons,e]
theorem RelO.isSome_eq {o:Option V} {u:Option Value} (r:RelO o u):o.isSome=u.isSome:=by
 cases o with
 | none=>cases u with
  | none=>rfl
  | some _=>exact (show False from r).elim
 | some _=>cases u with
  | none=>exact (show False from r).elim
  | some _=>rfl
theorem KV.val {kvs:List (κ × V)} {vs:List (κ × Value)} (r:KV kvs vs) (k:κ):RelO (valV kvs k) (valueAt vs k):=by
 unfold KV at r
 induction r with
 | nil=>exact True.intro
 | @cons p q ps qs h t ih=>
  obtain ⟨h1,h2⟩:=h
  by_cases e:p.1=k
  · have e':q.1=k:=h1.symm.trans e
    have b:valueAt (q::qs) k=some q.2:=by simp [valueAt,List.find?_cons,e']
    rw [sJ e,b]; exact h2
  · have e':¬ q.1=k:=fun z=>e (h1.trans z)
    have b:valueAt (q::qs) k=valueAt qs k:=by simp [valueAt,List.find?_cons,e']
    rw [sK e,b]; exact ih
theorem KV.length {kvs:List (κ × V)} {vs:List (κ × Value)} (r:KV kvs vs):kvs.length=vs.length:=Paired.length r
end
theorem sn {P:Program} {w:World} {k:Key} {u:Value} (r:RelV (kV k) u):(dR P w).is k u=true:=by
 cases k with
 | inl i=>obtain ⟨t,e⟩:=(show ∃ t,u=Value.int i t from r); subst e; exact uy P w i t
 | inr x=>obtain ⟨t,e⟩:=(show ∃ t,u=Value.str x t from r); subst e; exact uz P w x t
theorem qW {P:Program} {w:World}:∀ {ks:List Key} {us:List Value},Vals (ks.map kV) us→ItemsAre (dR P w) ks us
 | [],_,r=>by rw [List.map_nil] at r; cases r; exact .nil
 | k::ks,_,r=>by
  rw [List.map_cons] at r
  cases r with
  | cons h t=>exact .cons (sn h) (qW t)
abbrev KT (H:Hp):List (List Key × V)→List (List Key × Addr × Value)→Prop:=Paired fun p q=>p.1=q.1∧H q.2.1=some (.tup (p.1.map kV))∧RelV p.2 q.2.2
theorem KT.val {H:Hp} {kvs:List (List Key × V)} {xs:List (List Key × Addr × Value)} (r:KT H kvs xs) (k:List Key):RelO (valV kvs k) ((atKey xs k).map (·.2)):=by
 induction r with
 | nil=>exact True.intro
 | @cons p q ps qs h t ih=>
  obtain ⟨h1,_,h2⟩:=h
  by_cases e:p.1=k
  · have e':q.1=k:=h1.symm.trans e
    have b:atKey (q::qs) k=some q.2:=by simp [atKey,List.find?_cons,e']
    rw [sJ e,b]; exact h2
  · have e':¬ q.1=k:=fun z=>e (h1.trans z)
    have b:atKey (q::qs) k=atKey qs k:=by simp [atKey,List.find?_cons,e']
    rw [sK e,b]; exact ih
section
variable {P:Program} {w:World} {H:Hp} {h:Heap} {a:Addr}
theorem zb {u:HO} (ok:HOk P w H h) (e:Rd H a u):ObjOk P w H h a u:=e.ok ok
theorem o3 {kvs:List (Key × V)} (ok:HOk P w H h) (e:Rd H a (.dK kvs)):kvs.length≤sizeLine∧(a==sysModules)=false∧∃ vs,KV kvs vs∧h.DictOf (dR P w) a vs:=
 show ObjOk P w H h a (.dK kvs) from zb ok e
theorem o4 {ks:List Key} (ok:HOk P w H h) (e:H a=some (.tup (ks.map kV))):(tupleKind (dR P w)).is h ks a:=by
 obtain ⟨_,its,r,o,h1,h2,n,h3⟩:=(show ObjOk P w H h a (.tup (ks.map kV)) from ok a _ e)
 exact ⟨o,its.toArray,n,h1,h2,h3,by simpa using qW r⟩
theorem so {kvs:List (List Key × V)} (ok:HOk P w H h) (e:Rd H a (.dT kvs)):kvs.length≤sizeLine∧(a==sysModules)=false∧
  ∃ xs,KT H kvs xs∧h.DictOfH (tupleKind (dR P w)) a xs:=by
 obtain ⟨z,y,xs,r,o,es,ep,h1,h2,h3,h4,h5⟩:=(show ObjOk P w H h a (.dT kvs) from zb ok e)
 refine ⟨z,y,xs,r,o,es,ep,h1,h2,h3,h4,fun x hx=>?_,h5⟩
 have all:∀ {l:List (List Key × V)} {m:List (List Key × Addr × Value)},KT H l m→∀ x∈m,(tupleKind (dR P w)).is h x.1 x.2.1:=by
  intro l m q
  induction q with
  | nil=>intro x hx; exact nomatch hx
  | @cons p q ps qs hq t ih=>
   intro x hx
   rcases List.mem_cons.mp hx with e | hx
   · subst e
     exact o4 ok (by rw [← hq.1]; exact hq.2.1)
   · exact ih x hx
 exact all r x hx
end
def DGet (H:Hp) (a:Addr) (y:V) (r:Option V):Prop:=
 (∃ kvs k,Rd H a (.dK kvs)∧y=kV k∧r=valV kvs k)∨∃ kvs k b,Rd H a (.dT kvs)∧y=.ref b∧H b=some (.tup (k.map kV))∧r=valV kvs k
def DPut (H:Hp) (a:Addr) (y v:V) (H':Hp):Prop:=
 (∃ kvs k,H a=some (.dK kvs)∧y=kV k∧kvs.length < sizeLine∧H'=upd H a (.dK (putK kvs k v)))∨
 ∃ kvs k b,H a=some (.dT kvs)∧y=.ref b∧H b=some (.tup (k.map kV))∧kvs.length < sizeLine∧H'=upd H a (.dT (putK kvs k v))
theorem DGet.k {H:Hp} {a:Addr} {kvs:List (Key × V)} {k:Key} (e:H a=some (.dK kvs)):DGet H a (kV k) (valV kvs k):=.inl ⟨kvs,k,.inl e,rfl,rfl⟩
section
variable {X:Cx} {pins:List (Addr × Obj)} {σ:St} {H:Hp} {s:Shared} {a:Addr} {y v:V} {u r:Value} {o:Option V} {A:Around} {E:Value→Shared→Prop}
theorem xl {Q:Value→Shared→Prop} (hu:A.units+1 < cLine) (I:Inv X pins σ H s) (g:DGet H a y (some v)) (ry:RelV y u) (h:∀ w' s',Inv X pins σ H s'→RelV v w'→Q w' s'):
  wpAny (model X.prog X.w) A (getItem (.ref a) u) Q E s:=by
 rcases g with ⟨kvs,k,e,ey,l⟩ | ⟨kvs,k,b,e,ey,eb,l⟩
 · subst ey
   obtain ⟨z,hd,vs,rel,dd⟩:=o3 I.hok e
   obtain ⟨w',hw,rw'⟩:=RelO.some_of (v:=v) (o:=valueAt vs k) (by rw [l]; exact rel.val k)
   exact wpAny_getItem_of (sn ry) dd.mapOf hw (h w' _ (I.tok _) rw')
 · subst ey
   cases (show u=Value.ref b from ry)
   obtain ⟨z,hd,xs,rel,dd⟩:=so I.hok e
   obtain ⟨w',hw,rw'⟩:=RelO.some_of (v:=v) (o:=(atKey xs k).map (·.2)) (by rw [l]; exact rel.val k)
   obtain ⟨p,hp,hp2⟩:=Option.map_eq_some_iff.mp hw
   refine wpAny_getItem_heap (tupleKind_room_in1 hu) (o4 I.hok eb) dd hp ?_
   rw [hp2]
   exact h w' _ (I.tok _) rw'
theorem Bc {Q:Value→Shared→Prop} (hu:A.units+1 < cLine) (I:Inv X pins σ H s) (g:DGet H a y o) (ry:RelV y u) (h:∀ s',Inv X pins σ H s'→Q (.bool o.isSome) s'):
  wpAny (model X.prog X.w) A (compareOp .In u (.ref a)) Q E s:=by
 rcases g with ⟨kvs,k,e,ey,l⟩ | ⟨kvs,k,b,e,ey,eb,l⟩
 · subst ey
   obtain ⟨z,hd,vs,rel,dd⟩:=o3 I.hok e
   refine wpAny_in_of (sn ry) hd dd.mapOf ?_
   rw [← (rel.val k).isSome_eq,← l]
   exact h _ (I.tok _)
 · subst ey
   cases (show u=Value.ref b from ry)
   obtain ⟨z,hd,xs,rel,dd⟩:=so I.hok e
   refine wpAny_in_heap (tupleKind_room_in1 hu) (o4 I.hok eb) hd dd ?_
   have q:=(rel.val k).isSome_eq
   rw [Option.isSome_map] at q
   rw [← q,← l]
   exact h _ (I.tok _)
theorem zy {Q:Value→Shared→Prop} (hu:A.units+1 < cLine) (I:Inv X pins σ H s) (g:DGet H a y o) (ry:RelV y u) (h:∀ s',Inv X pins σ H s'→Q (.bool (!o.isSome)) s'):
  wpAny (model X.prog X.w) A (compareOp .NotIn u (.ref a)) Q E s:=by
 rcases g with ⟨kvs,k,e,ey,l⟩ | ⟨kvs,k,b,e,ey,eb,l⟩
 · subst ey
   obtain ⟨z,hd,vs,rel,dd⟩:=o3 I.hok e
   refine wpAny_notIn_of (sn ry) hd dd.mapOf ?_
   rw [← (rel.val k).isSome_eq,← l]
   exact h _ (I.tok _)
 · subst ey
   cases (show u=Value.ref b from ry)
   obtain ⟨z,hd,xs,rel,dd⟩:=so I.hok e
   refine wpAny_notIn_heap (tupleKind_room_in1 hu) (o4 I.hok eb) hd dd ?_
   have q:=(rel.val k).isSome_eq
   rw [Option.isSome_map] at q
   rw [← q,← l]
   exact h _ (I.tok _)
end
section
variable {X:Cx} {pins:List (Addr × Obj)} {σ:St} {H:Hp} {s:Shared} {a:Addr} {kvs:List (Key × V)} {k:Key} {u:Value} {A:Around} {E:Value→Shared→Prop}
theorem A2 {Q:Value→Shared→Prop} (I:Inv X pins σ H s) (e:Rd H a (.dK kvs)) (h:∀ t s',Inv X pins σ H s'→Q (.int kvs.length t) s'):wpAny (model X.prog X.w) A (call (.builtin "len") [.ref a]) Q E s:=by
 obtain ⟨z,hd,vs,rel,dd⟩:=o3 I.hok e
 refine call_len_dict hd dd (by rw [← rel.length]; rw [sizeLine_eq] at z; omega) ?_
 rw [← rel.length]
 exact h _ _ (I.tok _)
end
theorem uB {X:Cx} {pins:List (Addr × Obj)} {σ:St} {H:Hp} {s:Shared} {a:Addr} {y:V} {o:Option V} (I:Inv X pins σ H s) (g:DGet H a y o):s.TypeIs (.ref a) "dict":=by
 rcases g with ⟨kvs,k,e,_,_⟩ | ⟨kvs,k,b,e,_,_,_⟩
 · obtain ⟨_,_,vs,_,dd⟩:=o3 I.hok e
   exact dd.typeIs
 · obtain ⟨_,_,xs,_,dd⟩:=so I.hok e
   exact dd.typeIs
def sDPut (td ty tv:TE):TS:=fun D σ H=>tv σ H fun v H1=>td σ H1 fun x H2=>ty σ H2 fun y H3=>∃ a H4,x=.ref a∧DPut H3 a y v H4∧D.nx σ H4
def An:TE:=fun _ H Q=>∀ p,H p=none→Q (.ref p) (upd H p (.dK []))
end L2
namespace L2
open PySem PySem.Spec PyProof.Rows
section
variable {X:Cx}
theorem xm:CallR X (.builtin "len") (fun xs H Q=>∃ a kvs,xs=[V.ref a]∧H a=some (.dK kvs)∧Q (.int kvs.length) H):=by
 intro pins s σ H xs us Q I r h
 obtain ⟨a,kvs,rfl,ha,q⟩:=h
 obtain ⟨u,rfl,ru⟩:=cL r
 cases ru
 exact A2 I (.inl ha) fun t s' I'=>⟨.int kvs.length,H,I',⟨t,rfl⟩,q⟩
end
end L2
namespace L2
open PySem PySem.Spec PyProof.Rows
theorem cg {α:Type} (x:Str):∀ (a b:List (Str × α)),(a++b).lookup x=match a.lookup x with | some c=>some c | none=>b.lookup x
 | [],b=>rfl
 | (k,v)::r,b=>by
  rw [List.cons_append,List.lookup_cons,List.lookup_cons]
  cases x==k with
  | true=>rfl
  | false=>exact cg x r b
theorem jJ:∀ (names:List (Str × NameKind)) (n:Nat) (acc cl:List (Str × Addr)),cellsFrom n names (acc++cl)=cellsFrom n names acc++cl
 | [],_,_,_=>rfl
 | (y,k)::r,n,acc,cl=>by
  unfold cellsFrom
  split
  · rw [← List.cons_append]; exact jJ r _ _ cl
  · exact jJ r _ _ cl
theorem gk {x:Str} {c:Addr}:∀ (names:List (Str × NameKind)) (n:Nat) (acc:List (Str × Addr)),(x,c)∈cellsFrom n names acc→(x,NameKind.cell)∈names∨(x,c)∈acc
 | [],_,_,h=>.inr h
 | (y,k)::r,n,acc,h=>by
  unfold cellsFrom at h
  split at h
  · rename_i hk
    have hk:k=.cell:=by simpa using hk
    subst hk
    rcases gk r _ _ h with z | z
    · exact .inl (List.mem_cons_of_mem _ z)
    · rcases List.mem_cons.mp z with z | z
      · cases z; exact .inl List.mem_cons_self
      · exact .inr z
  · rcases gk r _ _ h with z | z
    · exact .inl (List.mem_cons_of_mem _ z)
    · exact .inr z
theorem lH {env:Env} (f:Str × NameKind→List (Str × Addr)→Sem (ForInStep (List (Str × Addr))))
  (hf:∀ name kind cs,f (name,kind) cs=if kind==.free then (do let a ← cellOf env name; pure (.yield ((name,a)::cs))) else pure (.yield cs)):
  ∀ (names:List (Str × NameKind)) (acc:List (Str × Addr)),(∀ x,(x,NameKind.free)∈names→∃ c,env.cells.lookup x=some c)→(∀ x c,acc.lookup x=some c→env.cells.lookup x=some c)→
   ∃ cl,forIn names acc f=(pure cl:Sem _)∧(∀ x c,cl.lookup x=some c→env.cells.lookup x=some c)∧(∀ x,((x,NameKind.free)∈names∨∃ c,acc.lookup x=some c)→∃ c,cl.lookup x=some c)
 | [],acc,_,h2=>⟨acc,rfl,h2,fun x h=>h.elim (fun z=>nomatch z) id⟩
 | (y,k)::r,acc,h1,h2=>by
  rw [List.forIn_cons,hf]
  by_cases hk:(k==NameKind.free)=true
  · rw [if_pos hk]
    have hk':k=.free:=by simpa using hk
    subst hk'
    obtain ⟨c,hc⟩:=h1 y List.mem_cons_self
    have e:(cellOf env y:Sem Addr)=pure c:=by unfold cellOf; rw [hc]
    rw [e]
    obtain ⟨cl,e1,e2,e3⟩:=lH f hf r ((y,c)::acc) (fun x hx=>h1 x (List.mem_cons_of_mem _ hx)) (fun x c' hx=>by
     rw [List.lookup_cons] at hx
     cases hb:x==y with
     | true=>rw [hb] at hx; cases hx; rw [beq_iff_eq.mp hb]; exact hc
     | false=>rw [hb] at hx; exact h2 x c' hx)
    refine ⟨cl,?_,e2,fun x hx=>e3 x ?_⟩
    · exact e1
    · rcases hx with hx | ⟨c',hx⟩
      · rcases List.mem_cons.mp hx with z | z
        · cases z; exact .inr ⟨c,by rw [List.lookup_cons]; simp⟩
        · exact .inl z
      · cases hb:x==y with
        | true=>exact .inr ⟨c,by rw [List.lookup_cons,hb]⟩
        | false=>exact .inr ⟨c',by rw [List.lookup_cons,hb]; exact hx⟩
  · rw [if_neg hk]
    obtain ⟨cl,e1,e2,e3⟩:=lH f hf r acc (fun x hx=>h1 x (List.mem_cons_of_mem _ hx)) h2
    refine ⟨cl,e1,e2,fun x hx=>e3 x ?_⟩
    rcases hx with hx | hx
    · rcases List.mem_cons.mp hx with z | z
      · cases z; exact absurd rfl hk
      · exact .inl z
    · exact .inr hx
theorem vR {scope:Scope} {env:Env} (h:∀ x,(x,NameKind.free)∈scope.names→∃ c,env.cells.lookup x=some c):
  ∃ cl,closureFor scope env=pure cl∧(∀ x c,cl.lookup x=some c→env.cells.lookup x=some c)∧∀ x,(x,NameKind.free)∈scope.names→∃ c,cl.lookup x=some c:=by
 obtain ⟨cl,e1,e2,e3⟩:=lH (env:=env) (fun x cs=>match x with | (name,kind)=>if kind==.free then (do let a ← cellOf env name; pure (.yield ((name,a)::cs))) else pure (.yield cs)) (fun _ _ _=>rfl) scope.names [] h (fun x c hx=>nomatch hx)
 refine ⟨cl,?_,e2,fun x hx=>e3 x (.inl hx)⟩
 have:closureFor scope env=(forIn scope.names [] (fun x cs=>match x with | (name,kind)=>if kind==.free then (do let a ← cellOf env name; pure (.yield ((name,a)::cs))) else pure (.yield cs)) >>= fun cs=>pure cs):=by
  simp only [closureFor]
 rw [this,e1]
 rfl
def xn (scope:Scope) (cl:List (Str × Addr)) (C:Addr) (env:Env):Env:=
 { newEnv scope C env.globals (cellsFrom (C+1) scope.names cl) env.qual none .none (some env) builtinsNs with scope:=relabel scope env }
theorem yB {M:Model} {A:Around} {E:Value→Shared→Prop} {s:Shared} {scope:Scope} {cl:List (Str × Addr)} {env:Env} {Q:Env→Shared→Prop}
  (hQ:Q (newEnv scope s.heap.objs.size env.globals (cellsFrom (s.heap.objs.size+1) scope.names cl) env.qual none .none (some env) builtinsNs) { s with heap:=pushCells (s.heap.push { cls:=.type "dict",data:=.dict #[] }) scope.names }):
  wpAny M A (newFunctionEnv scope env.globals cl [] env.qual none .none (some env)) Q E s:=by
 simp only [newFunctionEnv,Option.isSome_some,if_true]
 refine wpAny_bind (wpAny_alloc ?_)
 refine wpAny_bind (wpAny_layCells _ (fun name kind cells=>by cases hkc:kind==NameKind.cell <;> simp [hkc]) _ _ _ _ ?_)
 rw [show ({ s with heap:=s.heap.push { cls:=.type "dict",data:=.dict #[] } }:Shared).heap.objs.size=s.heap.objs.size+1 from Heap.size_push ..]
 refine wpAny_bind ?_
 rw [List.forIn_nil]
 exact wpAny_pure (wpAny_pure hQ)
section
variable {prog:Program} {w:World} {A:Around} {E:Value→Shared→Prop} {R:Result→Shared→Prop} {s:Shared}
theorem xo {elt target iter:Expr} {ifs:List Expr} {scope:Scope} {pos:Pos} {it acc:Value} {env:Env} (I:Nat→Shared→Prop)
  (turn:∀ n s,I n s→wpAny (model prog w) A (pyNext it) (fun r s₁=>match r with
   | none=>R (.ok .next) s₁
   | some v=>wpAny (model prog w) A (letOwnedTupleGo target it v) (fun _ s₁'=>wpAny (model prog w) A (assign target env v) (fun _ s₂=>
     wpAny (model prog w) A (forIn ifs true fun c r=>if r=true then do let ok ← isTrue c env (eval c env); pure (ForInStep.yield ok) else pure (ForInStep.yield r)) (fun ok s₃=>
      if ok=true then wpAny (model prog w) A (eval elt env) (fun x s₄=>
       wpAny (model prog w) A (call (.builtin "list.append") [acc,x]) (fun _ s₅=>∃ m,m < n∧I m s₅) (notedBy (model prog w) A env fun e s'=>R (.error e) s') s₄) (notedBy (model prog w) A env fun e s'=>R (.error e) s') s₃
      else ∃ m,m < n∧I m s₃) (notedBy (model prog w) A env fun e s'=>R (.error e) s') s₂) (notedBy (model prog w) A env fun e s'=>R (.error e) s') s₁') (notedBy (model prog w) A env fun e s'=>R (.error e) s') s₁) (notedBy (model prog w) A env fun e s'=>R (.error e) s') s)
  (n:Nat) (h:I n s):
  codeAny (model prog w) A (.compLoop (.ListComp elt [⟨target,iter,ifs,0⟩] scope pos) 0 it acc env) R s:=by
 refine codeAny_loop rfl I (fun n s hI=>?_) n h
 show wpAny _ A ((compTurn (.ListComp elt [⟨target,iter,ifs,0⟩] scope pos) 0 it acc env).onRaise (fun x=>do noteFrame x env; theTreesLotGoes x)) _ _ s
 refine wpAny_noted ?_
 rw [compTurn_list]
 refine wpAny_bind (wpAny_standAt (wpAny_bind (wpAny_mono (turn n s hI) (fun r s₁ h₁=>?_) fun _ _ h'=>h')))
 cases r with
 | none=>exact wpAny_pure h₁
 | some v=>
  refine wpAny_bind (wpAny_mono h₁ (fun _ s₁' h₁'=>?_) fun _ _ h'=>h')
  refine wpAny_bind (wpAny_mono h₁' (fun _ s₂ h₂=>wpAny_bind (wpAny_mono h₂ (fun ok s₃ h₃=>?_) fun _ _ h'=>h')) fun _ _ h'=>h')
  cases ok with
  | false=>exact wpAny_pure ⟨rfl,h₃⟩
  | true=>
   exact wpAny_bind (wpAny_bind (wpAny_mono h₃ (fun x s₄ h₄=>wpAny_bind (wpAny_mono h₄ (fun _ s₅ h₅=>wpAny_pure (wpAny_pure ⟨rfl,h₅⟩)) fun _ _ h'=>h')) fun _ _ h'=>h'))
end
end L2
namespace L2
open PySem PySem.Spec PyProof.Rows
theorem j9 {scope:Scope} {env:Env} {x:Str} {k:NameKind} (h:(relabel scope env).names.lookup x=some k):∃ k',scope.names.lookup x=some k'∧(k=k'∨(k'=.free∧k=.cell)):=by
 unfold relabel at h
 dsimp only at h
 generalize scope.names=names at h ⊢
 induction names with
 | nil=>cases h
 | cons p r ih=>
  obtain ⟨n,k0⟩:=p
  rw [List.map_cons] at h
  rw [List.lookup_cons]
  cases hb:x==n with
  | true=>
   refine ⟨k0,rfl,?_⟩
   dsimp only at h
   split at h
   · rename_i hc
     rw [List.lookup_cons,hb] at h
     cases h
     simp only [Bool.and_eq_true,beq_iff_eq] at hc
     exact .inr ⟨hc.1.1,rfl⟩
   · rw [List.lookup_cons,hb] at h
     cases h
     exact .inl rfl
  | false=>
   dsimp only at h
   refine ih ?_
   split at h
   · rw [List.lookup_cons,hb] at h; exact h
   · rw [List.lookup_cons,hb] at h; exact h
def blkCx (X:Cx) (N:List Str) (scope:Scope) (cl:List (Str × Addr)) (s:Shared) (H:Hp) (fp:List Addr):Cx where
 prog:=X.prog
 w:=X.w
 K:=X.K
 mg:=X.mg
 base:=X.base
 A:=X.A
 N:=N
 s₀:=s
 H₀:=H
 env:=xn scope cl (s.heap.objs.size+1) X.env
 outer:=X.stack
 stack:=X.stack
 ex:=fp
 fn:=fun x=>scope.names.lookup x==some .cell
 calm:=X.calm
 pn:=[]
 xe:=fun e₀ s₁=>(∃ (pins:List (Addr × Obj)) (σ:St),Inv X pins σ H s∧∀ b∈fp,FpOk X pins H b)→notedBy (model X.prog X.w) X.A (xn scope cl (s.heap.objs.size+1) X.env) (fun x s'=>∃ m,s'.heap.Ns (s.heap.objs.size+1) m∧∀ h',Heap.SameBut (s.heap.objs.size+1) s'.heap h'→∀ cenv:Env,cenv.locals=s.heap.objs.size+1→
  wpAny (model X.prog X.w) X.A (passOn "comprehension.variables-let-go" x cenv:Sem Value) (fun _ _=>False) X.xe { s' with heap:=h' }) e₀ s₁
def subσ (ix:List (Option Nat)) (σ:St):St:=ix.map fun o=>match o with | none=>none | some i=>match σ[i]? with | some v=>v | none=>none
structure BlkOk (X:Cx) (N:List Str) (ix:List (Option Nat)) (scope:Scope):Prop where
 kind:scope.kind=.function
 nd:N.Nodup
 len:ix.length=N.length
 names:(scope.names.map (·.1)).Nodup
 free:∀ x,(x,NameKind.free)∈scope.names→X.env.kindOf x=some .cell∨X.env.kindOf x=some .free
 at_:∀ (j i:Nat) (x:Str),N[j]? =some x→ix[j]? =some (some i)→X.N[i]? =some x∧(x,NameKind.free)∈scope.names
theorem dL {α:Type}:∀ {l:List (Str × α)} {x:Str} {k:α},(l.map (·.1)).Nodup→(x,k)∈l→l.lookup x=some k
 | (y,k0)::r,x,k,nd,h=>by
  rw [List.map_cons,List.nodup_cons] at nd
  rw [List.lookup_cons]
  rcases List.mem_cons.mp h with e | e
  · cases e; simp
  · have:x≠y:=by
     rintro rfl
     exact nd.1 (List.mem_map.mpr ⟨(x,k),e,rfl⟩)
    have hb:(x==y)=false:=by simpa using this
    rw [hb]
    exact dL nd.2 e
theorem xp {X:Cx} {pins:List (Addr × Obj)} {σ:St} {H:Hp} {s:Shared} {N:List Str} {ix:List (Option Nat)} {scope:Scope} {cl:List (Str × Addr)} {fp:List Addr} (B:BlkOk X N ix scope)
  (I:Inv X pins σ H s) (hcl:∀ x c,cl.lookup x=some c→X.env.cells.lookup x=some c) (hcf:∀ x,(x,NameKind.free)∈scope.names→∃ c,cl.lookup x=some c)
  (hfp:∀ b∈fp,FpOk X pins H b) (hob:∀ b∈fp,∃ o,s.heap.get? b=some o∧∀ v,o.data≠.cell v):
  Inv (blkCx X N scope cl s H fp) [] (subσ ix σ) (upd H s.heap.objs.size (.lst []))
   { s with heap:=pushCells ((s.heap.push { cls:=.type "list",data:=.seq #[] }).push { cls:=.type "dict",data:=.dict #[] }) scope.names }:=by
 have hs2:(s.heap.push { cls:=.type "list",data:=.seq #[] }).objs.size=s.heap.objs.size+1:=Heap.size_push ..
 have hs3:((s.heap.push { cls:=.type "list",data:=.seq #[] }).push { cls:=.type "dict",data:=.dict #[] }).objs.size=s.heap.objs.size+2:=by rw [Heap.size_push,hs2]
 have hk:∀ b o,s.heap.get? b=some o→(pushCells ((s.heap.push { cls:=.type "list",data:=.seq #[] }).push { cls:=.type "dict",data:=.dict #[] }) scope.names).get? b=some o:=
  fun b o e=>pushCells_keeps _ _ b o (Heap.get?_push_of_some _ (Heap.get?_push_of_some _ e))
 have hl:(pushCells ((s.heap.push { cls:=.type "list",data:=.seq #[] }).push { cls:=.type "dict",data:=.dict #[] }) scope.names).get? s.heap.objs.size=some { cls:=.type "list",data:=.seq #[] }:=
  pushCells_keeps _ _ _ _ (Heap.get?_push_of_some _ (Heap.get?_push_size _ rfl))
 have ok0:=cellsFrom_ok scope.names ((s.heap.push { cls:=.type "list",data:=.seq #[] }).push { cls:=.type "dict",data:=.dict #[] }) (s.heap.objs.size+2) [] ⟨fun _ _ hm=>(nomatch hm),List.Pairwise.nil⟩ (by rw [hs3]; exact Nat.le_refl _)
 rw [hs3] at ok0
 have hcells:(blkCx X N scope cl s H fp).env.cells=cellsFrom (s.heap.objs.size+2) scope.names []++cl:=by
  show cellsFrom (s.heap.objs.size+1+1) scope.names cl=_
  rw [← List.nil_append cl,jJ]
  simp
 have cases_:∀ x c,(blkCx X N scope cl s H fp).env.cells.lookup x=some c→((x,c)∈cellsFrom (s.heap.objs.size+2) scope.names []∧(x,NameKind.cell)∈scope.names)∨((cellsFrom (s.heap.objs.size+2) scope.names []).lookup x=none∧cl.lookup x=some c):=fun x c e=>by
  rw [hcells,cg] at e
  cases q:(cellsFrom (s.heap.objs.size+2) scope.names []).lookup x with
  | none=>rw [q] at e; exact .inr ⟨rfl,e⟩
  | some c'=>
   rw [q] at e
   cases e
   have m:=PySem.mem_of_lookup q
   refine .inl ⟨m,?_⟩
   rcases gk _ _ _ m with z | z
   · exact z
   · exact nomatch z
 have oldc:∀ x c,cl.lookup x=some c→c < s.heap.objs.size:=fun x c e=>by
  obtain ⟨v,q⟩:=I.cell x c (hcl x c e)
  exact q.lt
 have hfree:H s.heap.objs.size=none:=I.hok.fresh (Nat.le_refl _)
 have hfix:∀ b,s.heap.objs.size < b→(upd H s.heap.objs.size (.lst [])) b=none:=fun b hb=>by
  rw [aj (Nat.ne_of_gt hb)]
  exact I.hok.fresh (Nat.le_of_lt hb)
 have hlt:∀ b∈fp,b < s.heap.objs.size:=fun b hb=>by
  obtain ⟨o,e,_⟩:=hob b hb
  exact Heap.lt_size e
 have e0:=I.env0
 have isnew:∀ x c,(x,c)∈cellsFrom (s.heap.objs.size+2) scope.names []→s.heap.objs.size+2≤c:=fun x c m=>(ok0.empty x c m).2
 refine ⟨⟨I.ok.mod,B.kind,I.ok.glob,I.ok.blt,Nat.le_succ _,fun x y c e1 e2=>?_,fun x hx=>?_,fun x c hx e=>?_,I.ok.hd,I.ok.frames,.inl rfl,fun b hb=>⟨?_,fun x c e=>?_⟩,e0.bs,e0.bsz,fun b o e hb=>?_,fun b hb hb2=>?_,e0.funs,e0.frf⟩,
  rfl,I.bare,Un.laid hk (Nat.le_refl _) hfree,⟨fun _=>none,?_,fun j x v e1 e2 e3=>?_⟩,fun x c e=>?_,hfix _ (Nat.lt_succ_self _),fun x c e=>?_,fun p hp=>absurd (show p∈([]:List (Addr × Obj)) from hp) (by simp),?_,?_⟩
 · rcases cases_ x c e1 with ⟨m1,k1⟩ | ⟨n1,q1⟩ <;> rcases cases_ y c e2 with ⟨m2,k2⟩ | ⟨n2,q2⟩
   · exact name_of_addr ok0.apart m1 m2
   · exact absurd (Nat.lt_of_lt_of_le (oldc _ _ q2) (Nat.le_trans (Nat.le_add_right _ _) (isnew _ _ m1))) (Nat.lt_irrefl _)
   · exact absurd (Nat.lt_of_lt_of_le (oldc _ _ q1) (Nat.le_trans (Nat.le_add_right _ _) (isnew _ _ m2))) (Nat.lt_irrefl _)
   · exact I.ok.inj x y c (hcl _ _ q1) (hcl _ _ q2)
 · have hx':(relabel scope X.env).names.lookup x=some .cell∨(relabel scope X.env).names.lookup x=some .free:=hx
   have key:scope.names.lookup x=some .cell∨scope.names.lookup x=some .free:=by
    rcases hx' with z | z
    · obtain ⟨k',e,r | r⟩:=j9 z
      · rw [← r] at e; exact .inl e
      · rw [r.1] at e; exact .inr e
    · obtain ⟨k',e,r | r⟩:=j9 z
      · rw [← r] at e; exact .inr e
      · cases r.2
   rw [hcells]
   rcases key with z | z
   · obtain ⟨c,q⟩:=lG (n:=s.heap.objs.size+2) z
     exact ⟨c,by rw [cg,q]⟩
   · obtain ⟨c,q⟩:=hcf x (PySem.mem_of_lookup z)
     cases q2:(cellsFrom (s.heap.objs.size+2) scope.names []).lookup x with
     | none=>exact ⟨c,by rw [cg,q2]; exact q⟩
     | some c'=>exact ⟨c',by rw [cg,q2]⟩
 · have hx':scope.names.lookup x=some .cell:=by simpa [blkCx] using hx
   rcases cases_ x c e with ⟨m1,k1⟩ | ⟨n1,q1⟩
   · exact Nat.le_trans (Nat.le_add_right _ _) (isnew _ _ m1)
   · obtain ⟨c',q⟩:=lG (n:=s.heap.objs.size+2) hx'
     rw [q] at n1; cases n1
 · exact Nat.ne_of_lt (Nat.lt_succ_of_lt (hlt b hb))
 · rcases cases_ x c e with ⟨m1,k1⟩ | ⟨n1,q1⟩
   · exact Nat.ne_of_gt (Nat.lt_of_lt_of_le (hlt b hb) (Nat.le_trans (Nat.le_add_right _ _) (isnew _ _ m1)))
   · exact (hfp b hb).2.2.2.2.1 x c (hcl _ _ q1)
 · rcases (hfp b hb).2.2.2.1 with z | z
   · exact I.ok.noex b o e z
   · exact absurd (Nat.lt_of_lt_of_le (Heap.lt_size e) (Nat.le_trans I.ok.bsz z)) (Nat.lt_irrefl _)
 · rcases List.mem_cons.mp (I.stkSub b hb2) with z | z
   · exact (hfp b hb).2.1 z
   · exact (hfp b hb).2.2.1 z
 · show Heap.Ns _ (s.heap.objs.size+1) _
   rw [← hs2]
   exact (Heap.Ns.new _ (.type "dict")).keeps (pushCells_keeps _ _)
 ·
   unfold subσ at e2
   rw [List.getElem?_map] at e2
   cases q:ix[j]? with
   | none=>rw [q] at e2; cases e2
   | some o=>
    rw [q] at e2
    cases o with
    | none=>cases e2
    | some i=>
     simp only [Option.map_some,Option.some.injEq] at e2
     obtain ⟨hN,hm⟩:=B.at_ j i x e1 q
     have hσ:σ[i]? =some (some v):=by
      cases q2:σ[i]? with
      | none=>rw [q2] at e2; cases e2
      | some z=>rw [q2] at e2; exact congrArg some e2
     obtain ⟨m,hn,hl'⟩:=I.loc
     have hkind:=B.free x hm
     have hvis:Vis X.env.scope x:=hkind.elim (fun z=>.inr (.inl z)) fun z=>.inr (.inr z)
     obtain ⟨u,ru,lk⟩:=hl' i x v hN hσ hvis
     refine ⟨u,ru,?_⟩
     obtain ⟨c,hc⟩:=hcf x hm
     have hnone:(cellsFrom (s.heap.objs.size+2) scope.names []).lookup x=none:=by
      cases q2:(cellsFrom (s.heap.objs.size+2) scope.names []).lookup x with
      | none=>rfl
      | some c'=>
       rcases gk _ _ _ (PySem.mem_of_lookup q2) with z | z
       · have a1:=dL B.names z
         have a2:=dL B.names hm
         rw [a1] at a2; cases a2
       · exact nomatch z
     have hcell:(blkCx X N scope cl s H fp).env.cells.lookup x=some c:=by rw [hcells,cg,hnone]; exact hc
     have hkk:(blkCx X N scope cl s H fp).env.kindOf x=some .cell∨(blkCx X N scope cl s H fp).env.kindOf x=some .free:=by
      rcases e3 with z | z | z
      · obtain ⟨k',e,r | r⟩:=j9 (show (relabel scope X.env).names.lookup x=some .local from z)
        · rw [dL B.names hm] at e; cases e; cases r
        · cases r.2
      · exact .inl z
      · exact .inr z
     refine .inr ⟨hkk,c,hcell,?_⟩
     rcases lk with ⟨k1,_⟩ | ⟨_,c2,e4,z⟩
     · rcases hkind with z | z <;> rw [k1] at z <;> cases z
     · rw [hcl x c hc] at e4; cases e4
       exact z.keeps hk
 · rcases cases_ x c e with ⟨m1,k1⟩ | ⟨n1,q1⟩
   · exact ⟨none,(ok0.empty x c m1).1⟩
   · obtain ⟨v,z⟩:=I.cell x c (hcl _ _ q1)
     exact ⟨v,z.keeps hk⟩
 · rcases cases_ x c e with ⟨m1,k1⟩ | ⟨n1,q1⟩
   · exact hfix c (Nat.lt_of_lt_of_le (Nat.lt_add_of_pos_right (by decide)) (isnew _ _ m1))
   · rw [aj (Nat.ne_of_lt (oldc _ _ q1))]
     exact I.freeC x c (hcl _ _ q1)
 · exact I.hok.laid hk (Nat.le_refl _) ⟨Nat.zero_le _,[],0,.nil,hl⟩
 · show (subσ ix σ).length=N.length
   unfold subσ
   rw [List.length_map]
   exact B.len
end L2
namespace L2
open PySem PySem.Spec PyProof.Rows
def PTs (X:Cx) (ifs:List Expr) (t:TT):Prop:=
 ∀ (pins:List (Addr × Obj)) (s:Shared) (σ:St) (H:Hp) (Q:Bool→Hp→Prop),Inv X pins σ H s→t σ H Q→
  wpAny (model X.prog X.w) X.A (forIn ifs true fun c r=>if r=true then do let ok ← isTrue c X.env (eval c X.env); pure (ForInStep.yield ok) else pure (ForInStep.yield r)) (TP X pins σ Q) X.xe s
def tTrue:TT:=fun _ H Q=>Q true H
theorem aU {X:Cx}:PTs X [] tTrue:=fun _ _ _ H _ I h=>wpAny_tests_nil ⟨H,I,h⟩
theorem i3 {X:Cx} {c:Expr} {t:TT} (h:PT X c t):PTs X [c] t:=fun pins s σ H Q I q=>wpAny_tests_one (h pins s σ H Q I q)
def sL (ix:List (Option Nat)) (wi:TI) (g:TG) (tt:TT) (te:TE) (fin:Addr→Hp→Prop):St→Hp→Prop:=fun σ H=>wi σ H fun J H1=>∀ l,H1 l=none→
 ∃ W:Nat→Nat→St→Hp→Prop,(∃ m,W 0 m (subσ ix σ) (upd H1 l (.lst [])))∧∀ i m σ' H',W i m σ' H'→
  (J.stop i H'∧fin l H')∨(J.go i H'∧∃ N:St→Hp→Prop,(∀ σ'' H'',N σ'' H''→∃ m',m' < m∧W (i+1) m' σ'' H'')∧∀ x H2,J.yld i H' x H2→g x σ' H2 fun σ2 H3=>tt σ2 H3 fun b H4=>
   if b=true then te σ2 H4 fun y H5=>∃ ys,H5 l=some (.lst ys)∧ys.length < sizeLine∧N σ2 (upd H5 l (.lst (ys++[y]))) else N σ2 H4)
section
variable {X:Cx} {pins:List (Addr × Obj)} {σ σ':St} {H H':Hp} {s s':Shared} {N:List Str} {scope:Scope} {cl:List (Str × Addr)} {fp:List Addr}
theorem vi {h':Heap} (I:Inv X pins σ H s) (J:Inv (blkCx X N scope cl s H fp) [] σ' H' s') (hfp:∀ b∈fp,FpOk X pins H b) (sb:Heap.SameBut (s.heap.objs.size+1) s'.heap h'):Inv X pins σ H' { s' with heap:=h' }:=by
 have u:Un (frs X.stack) fp H H' s.heap s'.heap:=J.base
 have hC:H' (s.heap.objs.size+1)=none:=J.free
 have ne:∀ b o,s.heap.get? b=some o→b≠s.heap.objs.size+1:=fun b o e=>Nat.ne_of_lt (Nat.lt_succ_of_lt (Heap.lt_size e))
 refine I.call' (s':={ s' with heap:=h' }) (ch:=fp) J.os ⟨fun b o e n hb hx=>?_,fun b o e n hb hx=>?_,u.free,fun b o e hx=>?_,u.tups,u.frzs,u.tbls⟩ (fun b ob e=>?_) J.bare fun b hb=>?_
 · exact (sb.2 b (ne b o e)).trans (u.keep b o e n hb hx)
 · obtain ⟨sl,q⟩:=u.slot b o e n hb hx
   exact ⟨sl,(sb.2 b (ne b o e)).trans q⟩
 · obtain ⟨o',q⟩:=u.there b o e hx
   exact ⟨o',(sb.2 b (ne b o e)).trans q⟩
 · refine (J.hok b ob e).stay (fun c w' hc q=>(sb.2 c ?_).trans q) (fun _ q=>q) fun _ _ q=>q
   rintro rfl
   rcases hc with rfl | hc
   · rw [hC] at e; cases e
   · rw [hC] at hc; cases hc
 · obtain ⟨f0,f1,f2,f3,f4,f5⟩:=hfp b hb
   exact ⟨f3,f1,f4,f5⟩
theorem sM {tg iter elt:Expr} {ifs:List Expr} {pos:Pos} {ix:List (Option Nat)} {wi:TI} {g:TG} {tt:TT} {te:TE} {fin:Addr→Hp→Prop} {RR:Value→Addr→Result→Shared→Prop} (B:BlkOk X N ix scope) (hc:X.calm=true)
  (hi:PI X tg iter wi) (hg:∀ cl s H fp,PG (blkCx X N scope cl s H fp) tg g) (ht:∀ cl s H fp,PTs (blkCx X N scope cl s H fp) ifs tt) (he:∀ cl s H fp,PE (blkCx X N scope cl s H fp) elt te)
  (hcl:∀ x c,cl.lookup x=some c→X.env.cells.lookup x=some c) (hcf:∀ x,(x,NameKind.free)∈scope.names→∃ c,cl.lookup x=some c)
  (I:Inv X pins σ H s) (h:sL ix wi g tt te fin σ H)
  (ok:∀ (s2:Shared) (H2:Hp) (fp:List Addr) (σ3:St) (H3:Hp) (s3:Shared),Inv X pins σ H2 s2→(∀ b∈fp,FpOk X pins H2 b)→Inv (blkCx X N scope cl s2 H2 fp) [] σ3 H3 s3→fin s2.heap.objs.size H3→RR (.ref s2.heap.objs.size) (s2.heap.objs.size+1) (.ok .next) s3)
  (bad:∀ (a C:Addr) (x:Value) (s':Shared),(∃ m,s'.heap.Ns C m∧∀ h',Heap.SameBut C s'.heap h'→∀ cenv:Env,cenv.locals=C→wpAny (model X.prog X.w) X.A (passOn "comprehension.variables-let-go" x cenv:Sem Value) (fun _ _=>False) X.xe { s' with heap:=h' })→RR (.ref a) C (.error x) s'):
  wpAny (model X.prog X.w) X.A (eval iter X.env) (fun x s₁=>wpAny (model X.prog X.w) X.A (pyIter x) (fun it s₂=>wpAny (model X.prog X.w) X.A (newList []) (fun acc s₃=>
   wpAny (model X.prog X.w) X.A (newFunctionEnv scope X.env.globals cl [] X.env.qual none .none (some X.env)) (fun cenv s₄=>
    codeAny (model X.prog X.w) X.A (.compStart (.ListComp elt [⟨tg,iter,ifs,0⟩] scope pos) 0 it acc { cenv with scope:=relabel scope X.env }) (RR acc cenv.locals) s₄) X.xe s₃) X.xe s₂) X.xe s₁) X.xe s:=by
 refine thn (hi pins s σ H _ I h) fun v s1 h1=>thn h1 fun itv s2 h2=>?_
 obtain ⟨it,fp,tn,J,H2,e,I2,T,st2,f2,h2⟩:=h2
 subst e
 refine wpAny_newList (yB ?_) (Nat.zero_le _)
 have hs2:(s2.heap.push { cls:=.type "list",data:=.seq (([]:List Value)).toArray }).objs.size=s2.heap.objs.size+1:=Heap.size_push ..
 dsimp only
 rw [hs2]
 have I3:=xp (fp:=fp) B I2 hcl hcf f2 (T.obj _ _ st2)
 obtain ⟨W,⟨m0,w0⟩,turn⟩:=h2 s2.heap.objs.size I2.fresh
 have hk:∀ b o,s2.heap.get? b=some o→(pushCells ((s2.heap.push { cls:=.type "list",data:=.seq #[] }).push { cls:=.type "dict",data:=.dict #[] }) scope.names).get? b=some o:=
  fun b o e=>pushCells_keeps _ _ b o (Heap.get?_push_of_some _ (Heap.get?_push_of_some _ e))
 have st3:=T.keep _ _ _ st2 fun b _ o e=>hk b o e
 have fr3:∀ b∈fp,(upd H2 s2.heap.objs.size (.lst [])) b=none:=fun b hb=>by
  obtain ⟨o,e,_⟩:=T.obj _ _ st2 b hb
  rw [aj (Nat.ne_of_lt (Heap.lt_size e))]
  exact (f2 b hb).1
 have stat:∀ {σ5:St} {H5:Hp} {s5:Shared},Inv (blkCx X N scope cl s2 H2 fp) [] σ5 H5 s5→(∀ b∈fp,H5 b=none)→∀ b∈fp,FpOk (blkCx X N scope cl s2 H2 fp) [] H5 b:=fun I5 hn b hb=>
  ⟨hn b hb,(I5.ok.exf b hb).1,I5.ok.exfs b hb,.inl hb,(I5.ok.exf b hb).2,fun p hp=>absurd (show p∈([]:List (Addr × Obj)) from hp) (by simp)⟩
 have loop:∀ s₃:Shared,s₃={ s2 with heap:=pushCells ((s2.heap.push { cls:=.type "list",data:=.seq #[] }).push { cls:=.type "dict",data:=.dict #[] }) scope.names }→
   codeAny (model X.prog X.w) X.A (.compLoop (.ListComp elt [⟨tg,iter,ifs,0⟩] scope pos) 0 (.ref it) (.ref s2.heap.objs.size) (blkCx X N scope cl s2 H2 fp).env) (RR (.ref s2.heap.objs.size) (s2.heap.objs.size+1)) s₃:=by
  rintro s₃ rfl
  refine xo (fun n s'=>∃ i σ' H',Inv (blkCx X N scope cl s2 H2 fp) [] σ' H' s'∧tn i s'.heap∧(∀ b∈fp,H' b=none)∧W i n σ' H') ?_ m0 ⟨0,_,_,I3,st3,fr3,w0⟩
  rintro n s4 ⟨i,σ4,H4,I4,st4,fr4,w4⟩
  have xe_:∀ x s',(blkCx X N scope cl s2 H2 fp).xe x s'→notedBy (model X.prog X.w) X.A (blkCx X N scope cl s2 H2 fp).env (fun e s'=>RR (.ref s2.heap.objs.size) (s2.heap.objs.size+1) (.error e) s') x s':=fun x s' hx=>
   wpAny_mono (hx ⟨pins,σ,I2,f2⟩) (fun _ s'' q=>bad _ _ _ _ q) fun e s'' q=>bad _ _ _ _ q
  rcases turn i n σ4 H4 w4 with ⟨stop,qn⟩ | ⟨go,Nx,hN,step⟩
  · refine wpAny_mono (T.done (blkCx X N scope cl s2 H2 fp) rfl rfl rfl hc i [] s4 σ4 H4 _ I4 (stat I4 fr4) st4 stop) (fun r s5 ⟨hr,I5⟩=>?_) xe_
    subst hr
    exact ok s2 H2 fp σ4 H4 s5 I2 f2 I5 qn
  · refine wpAny_mono (T.item (blkCx X N scope cl s2 H2 fp) rfl rfl rfl hc i [] s4 σ4 H4 _ I4 (stat I4 fr4) st4 go) (fun r s5 ⟨u,hr,h5⟩=>?_) xe_
    subst hr
    refine wpAny_mono h5 (fun _ s6 ⟨x,H6,I6,r6,y6,st6,fr6⟩=>?_) xe_
    have I6':=I6.pinned (stat I6 fr6) (T.obj _ _ st6)
    refine wpAny_mono (hg cl s2 H2 fp _ s6 σ4 H6 x u _ I6' r6 (step x H6 y6)) (fun _ s7 ⟨σ7,H7,I7,q7⟩=>?_) xe_
    have again:∀ {σ8:St} {H8:Hp} {s8:Shared},Inv (blkCx X N scope cl s2 H2 fp) ([]++mB fp s6.heap) σ8 H8 s8→Nx σ8 H8→∃ m,m < n∧∃ i σ' H',Inv (blkCx X N scope cl s2 H2 fp) [] σ' H' s8∧tn i s8.heap∧(∀ b∈fp,H' b=none)∧W i m σ' H':=fun {σ8 H8 s8} I8 n8=>by
     obtain ⟨m',hm,w8⟩:=hN σ8 H8 n8
     refine ⟨m',hm,i+1,σ8,H8,I8.unpinned,T.keep _ _ _ st6 fun b hb o e=>(I8.pin (b,o) (List.mem_append_right _ (List.mem_append_right _ (jR hb e)))).1,fun b hb=>?_,w8⟩
     obtain ⟨o,e,d⟩:=T.obj _ _ st6 b hb
     exact (I8.pin (b,o) (List.mem_append_right _ (List.mem_append_right _ (jR hb e)))).2.1
    refine wpAny_mono (ht cl s2 H2 fp _ s7 σ7 H7 _ I7 q7) (fun okb s8 ⟨H8,I8,q8⟩=>?_) xe_
    cases okb with
    | false=>exact again I8 q8
    | true=>
     refine wpAny_mono (he cl s2 H2 fp _ s8 σ7 H8 _ I8 q8) (fun y s9 ⟨yv,H9,I9,r9,ys,hl,hz,q9⟩=>?_) xe_
     refine wpAny_mono (qV (X:=blkCx X N scope cl s2 H2 fp) _ s9 σ7 H9 (.ref s2.heap.objs.size) [yv] (.ref s2.heap.objs.size) [y] (fun _ H10=>Nx σ7 H10) I9 rfl (.cons r9 .nil) ⟨_,ys,yv,rfl,rfl,hl,hz,q9⟩) (fun _ s10 ⟨_,H10,I10,_,q10⟩=>?_) xe_
     exact again I10 q10
 exact codeAny_compStart_list (loop _ rfl) (T.self _ 0 _ _ _ st3 (loop _ rfl))
def tComp (ix:List (Option Nat)) (wi:TI) (g:TG) (tt:TT) (te:TE):TE:=fun σ H Q=>sL ix wi g tt te (fun l H'=>Q (.ref l) H') σ H
def sComp (k:Nat) (ix:List (Option Nat)) (wi:TI) (g:TG) (tt:TT) (te:TE):TS:=fun D σ H=>sL ix wi g tt te (fun l H'=>D.nx (σ.set k (some (.ref l))) H') σ H
theorem vj (I:Inv X pins σ H s) {ix:List (Option Nat)} (B:BlkOk X N ix scope):∃ cl,closureFor scope X.env=pure cl∧(∀ x c,cl.lookup x=some c→X.env.cells.lookup x=some c)∧∀ x,(x,NameKind.free)∈scope.names→∃ c,cl.lookup x=some c:=
 vR fun x hx=>I.ok.has x (B.free x hx)
theorem nV {ix:List (Option Nat)} (B:BlkOk X N ix scope):∀ x∈scope.names,x.2=NameKind.local→scope.names.lookup x.1=some .local:=fun x hx e=>by
 obtain ⟨n,k⟩:=x
 cases e
 exact dL B.names hx
theorem aM {tg iter elt:Expr} {ifs:List Expr} {pos:Pos} {ix:List (Option Nat)} {wi:TI} {g:TG} {tt:TT} {te:TE} (N:List Str) (B:BlkOk X N ix scope) (hc:X.calm=true)
  (hi:PI X tg iter wi) (hg:∀ cl s H fp,PG (blkCx X N scope cl s H fp) tg g) (ht:∀ cl s H fp,PTs (blkCx X N scope cl s H fp) ifs tt) (he:∀ cl s H fp,PE (blkCx X N scope cl s H fp) elt te)
  (hs:∀ x,foldedSetIterable iter X.env x=pure x:=by intro _; rfl):PE X (.ListComp elt [⟨tg,iter,ifs,0⟩] scope pos) (tComp ix wi g tt te):=by
 intro pins s σ H Q I h
 obtain ⟨cl,e1,e2,e3⟩:=vj I B
 rw [eval_ListComp]
 refine wpAny_comprehension_free (use:=none) rfl hs e1 B.kind (nV B) ?_
 refine sM (RR:=fun acc C=>compPost (model X.prog X.w) X.A X.xe none (EP X pins σ Q) acc C) B hc hi hg ht he e2 e3 I h (fun s2 H2 fp σ3 H3 s3 I2 f2 J q=>?_) (fun a C x s' q=>q)
 obtain ⟨m,hn,_⟩:=J.loc
 exact ⟨m,hn,fun h' sb=>⟨.ref _,H3,vi I2 J f2 sb,rfl,q⟩⟩
theorem qm {y:Str} {py spos:Pos} {k:Nat} {tg iter elt:Expr} {ifs:List Expr} {pos:Pos} {ix:List (Option Nat)} {wi:TI} {g:TG} {tt:TT} {te:TE} (hN:X.N.Nodup) (hy:X.N[k]? =some y) (hx:Loc X.env.scope y)
  (hsw:swapsWith (.ListComp elt [⟨tg,iter,ifs,0⟩] scope pos) (some (.Name y py)) spos.line X.env=pure true) (N:List Str) (B:BlkOk X N ix scope) (hc:X.calm=true)
  (hi:PI X tg iter wi) (hg:∀ cl s H fp,PG (blkCx X N scope cl s H fp) tg g) (ht:∀ cl s H fp,PTs (blkCx X N scope cl s H fp) ifs tt) (he:∀ cl s H fp,PE (blkCx X N scope cl s H fp) elt te)
  (hs:∀ x,foldedSetIterable iter X.env x=pure x:=by intro _; rfl) (hf:X.fn y=true∨X.env.scope.names.lookup y=some .local:=by first | exact .inl rfl | exact .inr rfl | assumption):
  PS X (.Assign [.Name y py] (.ListComp elt [⟨tg,iter,ifs,0⟩] scope pos) spos) (sComp k ix wi g tt te):=by
 intro pins s σ H D I h
 obtain ⟨cl,e1,e2,e3⟩:=vj I B
 rw [exec_Assign_Name_used _ _ _ _ hsw]
 refine wpAny_bind (wpAny_standAt (wpAny_bind ?_))
 show wpAny _ X.A (do let _ ← comprehension (.ListComp elt [⟨tg,iter,ifs,0⟩] scope pos) scope X.env _ (newList []) false (eval iter X.env) (some (assign (.Name y py) X.env))) _ _ s
 refine wpAny_bind (wpAny_mono (wpAny_comprehension_free (use:=some (assign (.Name y py) X.env)) (Q:=fun _ s'=>SP X pins D .next s') rfl hs e1 B.kind (nV B) ?_) (fun _ s' hq=>wpAny_pure (wpAny_pure hq)) fun _ _ e=>e)
 refine sM (RR:=fun acc C=>compPost (model X.prog X.w) X.A X.xe (some (assign (.Name y py) X.env)) (fun _ s'=>SP X pins D .next s') acc C) B hc hi hg ht he e2 e3 I h (fun s2 H2 fp σ3 H3 s3 I2 f2 J q=>?_) (fun a C x s' q=>q)
 obtain ⟨m,hn,_⟩:=J.loc
 have I3:Inv X pins σ H3 { s3 with heap:=s3.heap }:=vi I2 J f2 (Heap.SameBut.refl _ _)
 show wpAny _ X.A (assign (.Name y py) X.env (.ref _)) _ _ _
 refine wpAny_assign_Name (qN (v:=.ref _) I3 hN hy hx rfl (fun s4 I4 ⟨a,sb4,ha⟩=>?_) hf)
 have hlt:a < s2.heap.objs.size:=by
  rcases ha with rfl | ha
  · exact I2.lt
  · obtain ⟨v,z⟩:=I2.cell _ _ ha
    exact z.lt
 have hCa:s2.heap.objs.size+1≠a:=Nat.ne_of_gt (Nat.lt_succ_of_lt hlt)
 refine ⟨m,hn.sameBut sb4 hCa,fun h' sb=>?_⟩
 refine ⟨_,H3,I4.turned (t':=s4.toks) (it:=s2.heap.objs.size+1) (fun b o hb e=>(sb.2 b hb).trans e) J.free (Nat.ne_of_gt (Nat.lt_succ_of_lt I2.lt)) (.inr (Nat.le_trans I2.sz (Nat.le_succ _))) (fun x c e=>?_) (fun p hp=>?_),q⟩
 · obtain ⟨v,z⟩:=I2.cell x c e
   exact Nat.ne_of_lt (Nat.lt_succ_of_lt z.lt)
 · exact Nat.ne_of_lt (Nat.lt_succ_of_lt (Heap.lt_size (I2.pin p hp).1))
end
end L2
namespace L2
open PySem PySem.Spec PyProof.Rows
def bnd {α:Type}:Option α→(α→Prop)→Prop
 | some a,k=>k a
 | none,_=>False
theorem aV {α:Type} {o:Option α} {a:α} {k:α→Prop} (h:o=some a) (q:k a):bnd o k:=by subst h; exact q
theorem aX {α:Type} {o:Option α} {k:α→Prop} (h:bnd o k):∃ a,o=some a∧k a:=by
 cases o with
 | none=>exact h.elim
 | some a=>exact ⟨a,rfl,h⟩
theorem b4 {α:Type} {a:α} {k:α→Prop}:bnd (some a) k=k a:=rfl
def unM:Option HO→Option (List V)
 | some (.lst xs)=>some xs
 | _=>none
def unL:Option HO→Option (List V)
 | some (.lst xs)=>some xs
 | some (.frz _ (.lst xs))=>some xs
 | _=>none
def unS:Option HO→Option (List V)
 | some (.lst xs)=>some xs
 | some (.frz _ (.lst xs))=>some xs
 | some (.tup xs)=>some xs
 | _=>none
theorem g7 {o:Option HO} {xs:List V} (h:unM o=some xs):o=some (.lst xs):=by
 unfold unM at h; split at h
 · cases h; rfl
 · cases h
theorem mJ {K:PySem.W.Frag} {H:Hp} {p:Addr} {xs:List V} (h:unL (H p)=some xs):SqL K H p xs:=by
 unfold unL at h; split at h
 · rename_i e; cases h; exact .inl (.inl e)
 · rename_i o _ e; cases h; exact .inl (.inr ⟨_,e⟩)
 · cases h
theorem lx {K:PySem.W.Frag} {H:Hp} {p:Addr} {xs:List V} (h:unS (H p)=some xs):SqL K H p xs∨SqT K H p xs:=by
 unfold unS at h; split at h
 · rename_i e; cases h; exact .inl (.inl (.inl e))
 · rename_i o _ e; cases h; exact .inl (.inl (.inr ⟨_,e⟩))
 · rename_i e; cases h; exact .inr (.inl (.inl e))
 · cases h
mutual
inductive DV (K:PySem.W.Frag) (H:Hp):V→PyData→Prop
 | non:DV K H .non .none
 | bl (b:Bool):DV K H (.bl b) (.bool b)
 | int (i:Int):DV K H (.int i) (.int i)
 | str (x:Str):DV K H (.str x) (.str x)
 | lst {a:Addr} {xs:List V} {ds:List PyData}:SqL K H a xs→DVs K H xs ds→DV K H (.ref a) (.list ds)
 | tup {a:Addr} {xs:List V} {ds:List PyData}:SqT K H a xs→DVs K H xs ds→DV K H (.ref a) (.tuple ds)
inductive DVs (K:PySem.W.Frag) (H:Hp):List V→List PyData→Prop
 | nil:DVs K H [] []
 | cons {x:V} {d:PyData} {xs:List V} {ds:List PyData}:DV K H x d→DVs K H xs ds→DVs K H (x::xs) (d::ds)
end
section
variable {X:Cx} {pins:List (Addr × Obj)} {σ:St} {H:Hp} {s:Shared}
mutual
theorem DV.reads (I:Inv X pins σ H s):∀ {x:V} {d:PyData} {v:Value},DV X.K H x d→RelV x v→∃ as,Reads s.heap v d as
 | _,_,_,.non,r=>by cases r; exact ⟨_,.none⟩
 | _,_,_,.bl b,r=>by cases r; exact ⟨_,.bool b⟩
 | _,_,_,.int i,r=>by obtain ⟨t,rfl⟩:=r; exact ⟨_,.int i t⟩
 | _,_,_,.str x,r=>by obtain ⟨t,rfl⟩:=r; exact ⟨_,.str x t⟩
 | _,_,_,.lst (a:=a) h hs,r=>by
  cases r
  obtain ⟨its,rv,p,_⟩:=I.list h
  obtain ⟨as,q⟩:=DVs.reads I hs rv
  obtain ⟨o,h1,h2,n,h3⟩:=p.isList
  exact ⟨_,.list h1 h2 h3 q⟩
 | _,_,_,.tup (a:=a) h hs,r=>by
  cases r
  obtain ⟨its,rv,p,_⟩:=I.tuple h
  obtain ⟨as,q⟩:=DVs.reads I hs rv
  obtain ⟨o,h1,h2,n,h3⟩:=p
  exact ⟨_,.tuple h1 h2 h3 q⟩
theorem DVs.reads (I:Inv X pins σ H s):∀ {xs:List V} {ds:List PyData} {us:List Value},DVs X.K H xs ds→Vals xs us→∃ as,ReadsAll s.heap us ds as
 | _,_,_,.nil,.nil=>⟨_,.nil⟩
 | _,_,_,.cons h hs,.cons r rs=>by
  obtain ⟨as,q⟩:=DV.reads I h r
  obtain ⟨bs,q2⟩:=DVs.reads I hs rs
  exact ⟨_,.cons q q2⟩
end
end
theorem DVs.ints {K:PySem.W.Frag} {H:Hp}:∀ ns:List Int,DVs K H (ns.map V.int) (ns.map PyData.int)
 | []=>.nil
 | n::r=>.cons (.int n) (DVs.ints r)
theorem sN:∀ ns ms:List Int,PyData.eqvAll (ns.map PyData.int) (ms.map PyData.int)=decide (ns=ms):=PySem.W.ked_eqvAll
theorem oa:∀ ns:List Int,PyData.canLayAll0 (ns.map PyData.int)=true
 | []=>rfl
 | n::r=>by rw [List.map_cons,PyData.canLayAll0,oa r]; rfl
theorem lI:∀ ns:List Int,PyData.depthAll (ns.map PyData.int)=0
 | []=>rfl
 | n::r=>by rw [List.map_cons,PyData.depthAll,lI r]; rfl
theorem jn (ns:List Int):SeqAt.shaped (.list (ns.map PyData.int))=true:=by
 simp [SeqAt.shaped,PyData.canLay0,oa,PyData.depth,lI]
def cAdd:R2
 | .int i,.int j,H,Q=>Q (.int (i+j)) H
 | .str i,.str j,H,Q=>i.length+j.length≤sizeLine∧Q (.str (i++j)) H
 | .ref l,.ref b,H,Q=>bnd (unM (H l)) fun xs=>bnd (unM (H b)) fun zs=>xs.length+zs.length≤sizeLine∧∀ p,H p=none→Q (.ref p) (upd H p (.lst (xs++zs)))
 | _,_,_,_=>False
def cSub:R2
 | .int i,.int j,H,Q=>Q (.int (i - j)) H
 | _,_,_,_=>False
def cMul:R2
 | .int i,.int j,H,Q=>CMul i j∧Q (.int (i*j)) H
 | _,_,_,_=>False
def cDiv:R2
 | .int i,.int j,H,Q=>CDiv i j∧Q (.int (i / j)) H
 | _,_,_,_=>False
def cMod:R2
 | .int i,.int j,H,Q=>0 < j∧Q (.int (i % j)) H
 | _,_,_,_=>False
def cPow:R2
 | .int i,.int j,H,Q=>CPow i j∧Q (.int (i^j.toNat)) H
 | _,_,_,_=>False
def cCmp (g:Int→Int→Bool):R2
 | .int i,.int j,H,Q=>Q (.bl (g i j)) H
 | _,_,_,_=>False
def rEqD (K:PySem.W.Frag):R2:=fun x y H Q=>∃ d e,DV K H x d∧DV K H y e∧SeqAt.shaped d=true∧SeqAt.shaped e=true∧Q (.bl (PyData.eqv d e)) H
def rNeD (K:PySem.W.Frag):R2:=fun x y H Q=>∃ d e,DV K H x d∧DV K H y e∧SeqAt.shaped d=true∧SeqAt.shaped e=true∧Q (.bl (!PyData.eqv d e)) H
def cEq (K:PySem.W.Frag):R2
 | .int i,.int j,H,Q=>Q (.bl (decide (i=j))) H
 | .bl i,.bl j,H,Q=>Q (.bl (decide (i=j))) H
 | .str i,.str j,H,Q=>Q (.bl (decide (i=j))) H
 | x,y,H,Q=>rEqD K x y H Q
def cNe (K:PySem.W.Frag):R2
 | .int i,.int j,H,Q=>Q (.bl (!decide (i=j))) H
 | .bl i,.bl j,H,Q=>Q (.bl (!decide (i=j))) H
 | .str i,.str j,H,Q=>Q (.bl (!decide (i=j))) H
 | x,y,H,Q=>rNeD K x y H Q
def rInD (K:PySem.W.Frag) (neg:Bool):R2:=fun x y H Q=>∃ d ds,DV K H x d∧(DV K H y (.list ds)∨DV K H y (.tuple ds))∧PyData.canLayAll0 ds=true∧PyData.canLay0 d=true∧min (PyData.depthAll ds) d.depth≤62∧
 Q (.bl (if neg then !ds.any (fun y=>PyData.eqv y d) else ds.any fun y=>PyData.eqv y d)) H
def keyOf:V→Option Key
 | .int i=>some (.inl i)
 | .str x=>some (.inr x)
 | _=>none
def unD:Option HO→Option (List (Key × V))
 | some (.dK kvs)=>some kvs
 | _=>none
def cIn (K:PySem.W.Frag) (neg:Bool):R2
 | .ref a,y,H,Q=>rInD K neg (.ref a) y H Q
 | x,.ref p,H,Q=>(match unD (H p) with
  | some kvs=>bnd (keyOf x) fun k=>Q (.bl (if neg then !(valV kvs k).isSome else (valV kvs k).isSome)) H
  | none=>bnd (unS (H p)) fun xs=>flatV x=true∧xs.all flatV=true∧Q (.bl (if neg then !inV x xs else inV x xs)) H)
 | .str i,.str j,H,Q=>Q (.bl (if neg then !(!(Builtin.Str.occurrences j i 0 j.length 1).isEmpty) else !(Builtin.Str.occurrences j i 0 j.length 1).isEmpty)) H
 | _,_,_,_=>False
def cIx:R2
 | .ref p,y,H,Q=>(match unD (H p) with
  | some kvs=>bnd (keyOf y) fun k=>bnd (valV kvs k) fun v=>Q v H
  | none=>match y with
   | .int i=>bnd (unS (H p)) fun xs=>bnd (atI xs i) fun v=>Q v H
   | _=>False)
 | .str z,.int i,H,Q=>z.length≤sizeLine∧bnd (atI z.cps.toList i) fun c=>Q (.str ⟨#[c]⟩) H
 | _,_,_,_=>False
theorem o5 {o:Option HO} {kvs:List (Key × V)} (h:unD o=some kvs):o=some (.dK kvs):=by
 unfold unD at h; split at h
 · cases h; rfl
 · cases h
theorem oe {x:V} {k:Key} (h:keyOf x=some k):x=kV k:=by
 unfold keyOf at h; split at h
 · cases h; rfl
 · cases h; rfl
 · cases h
section
variable {X:Cx} {a b c:Expr} {ta tb tc:TE} {pos:Pos}
theorem aD:OpR X (binaryOp .Add) cAdd:=by
 intro pins s σ H x y v u Q I rx ry h
 unfold cAdd at h
 split at h
 · exact z9 pins s σ H _ _ v u Q I rx ry ⟨_,_,rfl,rfl,h⟩
 · exact vL pins s σ H _ _ v u Q I rx ry ⟨_,_,rfl,rfl,h.1,h.2⟩
 · obtain ⟨xs,e1,h⟩:=aX h
   obtain ⟨zs,e2,h⟩:=aX h
   exact Al pins s σ H _ _ v u Q I rx ry ⟨_,_,xs,zs,rfl,rfl,g7 e1,g7 e2,h.1,h.2⟩
 · exact h.elim
theorem cj:OpR X (binaryOp .Sub) cSub:=by
 intro pins s σ H x y v u Q I rx ry h
 unfold cSub at h
 split at h
 · exact Aa pins s σ H _ _ v u Q I rx ry ⟨_,_,rfl,rfl,h⟩
 · exact h.elim
theorem bh:OpR X (binaryOp .Mult) cMul:=by
 intro pins s σ H x y v u Q I rx ry h
 unfold cMul at h
 split at h
 · exact Ab pins s σ H _ _ v u Q I rx ry ⟨_,_,rfl,rfl,h.1,h.2⟩
 · exact h.elim
theorem c7:OpR X (binaryOp .FloorDiv) cDiv:=by
 intro pins s σ H x y v u Q I rx ry h
 unfold cDiv at h
 split at h
 · exact zl pins s σ H _ _ v u Q I rx ry ⟨_,_,rfl,rfl,h.1,h.2⟩
 · exact h.elim
theorem bd:OpR X (binaryOp .Mod) cMod:=by
 intro pins s σ H x y v u Q I rx ry h
 unfold cMod at h
 split at h
 · exact Ac pins s σ H _ _ v u Q I rx ry ⟨_,_,rfl,rfl,h.1,h.2⟩
 · exact h.elim
theorem nu {op:CmpOp} {g:Int→Int→Bool} (o:OpR X (compareOp op) (rI0 fun i j=>.bl (g i j))):OpR X (compareOp op) (cCmp g):=by
 intro pins s σ H x y v u Q I rx ry h
 unfold cCmp at h
 split at h
 · exact o pins s σ H _ _ v u Q I rx ry ⟨_,_,rfl,rfl,h⟩
 · exact h.elim
theorem dM:OpR X (compareOp .Lt) (cCmp fun i j=>decide (i < j)):=nu AW
theorem jy:OpR X (compareOp .LtE) (cCmp fun i j=>decide (i≤j)):=nu AX
theorem gh:OpR X (compareOp .Gt) (cCmp fun i j=>decide (j < i)):=nu AY
theorem sO:OpR X (compareOp .GtE) (cCmp fun i j=>decide (j≤i)):=nu AZ
theorem Ao (hu:X.A.units+64 < cLine):OpR X (compareOp .Eq) (rEqD X.K):=by
 intro pins s σ H x y v u Q I rx ry h
 obtain ⟨d,e,h1,h2,h3,h4,q⟩:=h
 obtain ⟨as,r1⟩:=h1.reads I rx
 obtain ⟨bs,r2⟩:=h2.reads I ry
 exact eq_dataH r1 r2 h3 h4 hu ⟨.bl _,H,I,rfl,q⟩
theorem Ap (hu:X.A.units+64 < cLine):OpR X (compareOp .NotEq) (rNeD X.K):=by
 intro pins s σ H x y v u Q I rx ry h
 obtain ⟨d,e,h1,h2,h3,h4,q⟩:=h
 obtain ⟨as,r1⟩:=h1.reads I rx
 obtain ⟨bs,r2⟩:=h2.reads I ry
 exact ne_dataH r1 r2 h3 h4 hu ⟨.bl _,H,I,rfl,q⟩
theorem aG (hu:X.A.units+64 < cLine):OpR X (compareOp .Eq) (cEq X.K):=by
 intro pins s σ H x y v u Q I rx ry h
 unfold cEq at h
 split at h
 · refine vJ pins s σ H _ _ v u Q I rx ry ⟨rfl,?_⟩
   simpa using h
 · refine vJ pins s σ H _ _ v u Q I rx ry ⟨rfl,?_⟩
   simpa using h
 · refine vJ pins s σ H _ _ v u Q I rx ry ⟨rfl,?_⟩
   simpa using h
 · exact Ao hu pins s σ H _ _ v u Q I rx ry h
theorem eY (hu:X.A.units+64 < cLine):OpR X (compareOp .NotEq) (cNe X.K):=by
 intro pins s σ H x y v u Q I rx ry h
 unfold cNe at h
 split at h
 · refine vK pins s σ H _ _ v u Q I rx ry ⟨rfl,?_⟩
   simpa using h
 · refine vK pins s σ H _ _ v u Q I rx ry ⟨rfl,?_⟩
   simpa using h
 · refine vK pins s σ H _ _ v u Q I rx ry ⟨rfl,?_⟩
   simpa using h
 · exact Ap hu pins s σ H _ _ v u Q I rx ry h
theorem Aq (hu:X.A.units+64 < cLine):OpR X (compareOp .In) (rInD X.K false):=by
 intro pins s σ H x y v u Q I rx ry h
 obtain ⟨d,ds,h1,h2,h3,h4,h5,q⟩:=h
 obtain ⟨as,r1⟩:=h1.reads I rx
 rcases h2 with h2 | h2
 · obtain ⟨bs,r2⟩:=h2.reads I ry
   exact SeqAt.in_list_reads r2 r1 h3 h4 (by omega) ⟨.bl _,H,I,rfl,q⟩
 · obtain ⟨bs,r2⟩:=h2.reads I ry
   exact SeqAt.in_tuple_reads r2 r1 h3 h4 (by omega) ⟨.bl _,H,I,rfl,q⟩
theorem xq (hu:X.A.units+64 < cLine):OpR X (compareOp .NotIn) (rInD X.K true):=by
 intro pins s σ H x y v u Q I rx ry h
 obtain ⟨d,ds,h1,h2,h3,h4,h5,q⟩:=h
 obtain ⟨as,r1⟩:=h1.reads I rx
 rcases h2 with h2 | h2
 · obtain ⟨bs,r2⟩:=h2.reads I ry
   exact SeqAt.notIn_list_reads r2 r1 h3 h4 (by omega) ⟨.bl _,H,I,rfl,q⟩
 · obtain ⟨bs,r2⟩:=h2.reads I ry
   exact SeqAt.notIn_tuple_reads r2 r1 h3 h4 (by omega) ⟨.bl _,H,I,rfl,q⟩
theorem kc (hu:X.A.units+64 < cLine):OpR X (compareOp .In) (cIn X.K false):=by
 intro pins s σ H x y v u Q I rx ry h
 unfold cIn at h
 split at h
 · exact Aq hu pins s σ H _ _ v u Q I rx ry h
 · rename_i p hx
   split at h
   · rename_i kvs e
     obtain ⟨k,ek,q⟩:=aX h
     cases (show u=Value.ref p from ry)
     have g:DGet H p x (valV kvs k):=by rw [oe ek]; exact DGet.k (o5 e)
     exact Bc (Nat.lt_of_le_of_lt (Nat.add_le_add_left (by decide:1≤64) _) hu) I g rx fun s' I'=>⟨.bl _,H,I',rfl,q⟩
   · obtain ⟨xs,e,f1,f2,q⟩:=aX h
     exact mF pins s σ H _ _ v u Q I rx ry ⟨p,xs,rfl,lx e,f1,f2,q⟩
 · exact xa pins s σ H _ _ v u Q I rx ry ⟨_,_,rfl,rfl,h⟩
 · exact h.elim
theorem qX (hu:X.A.units+64 < cLine):OpR X (compareOp .NotIn) (cIn X.K true):=by
 intro pins s σ H x y v u Q I rx ry h
 unfold cIn at h
 split at h
 · exact xq hu pins s σ H _ _ v u Q I rx ry h
 · rename_i p hx
   split at h
   · rename_i kvs e
     obtain ⟨k,ek,q⟩:=aX h
     cases (show u=Value.ref p from ry)
     have g:DGet H p x (valV kvs k):=by rw [oe ek]; exact DGet.k (o5 e)
     exact zy (Nat.lt_of_le_of_lt (Nat.add_le_add_left (by decide:1≤64) _) hu) I g rx fun s' I'=>⟨.bl _,H,I',rfl,q⟩
   · obtain ⟨xs,e,f1,f2,q⟩:=aX h
     exact mG pins s σ H _ _ v u Q I rx ry ⟨p,xs,rfl,lx e,f1,f2,q⟩
 · exact sF pins s σ H _ _ v u Q I rx ry ⟨_,_,rfl,rfl,h⟩
 · exact h.elim
end
end L2
namespace L2
open PySem PySem.Spec PyProof.Rows
section
variable {X:Cx} {a b c:Expr} {ta tb tc:TE} {pos:Pos}
theorem aA (hu:X.A.units+64 < cLine):IxR X cIx:=by
 intro value slice pins s σ H x y v u Q I rx ry h hs
 cases x with
 | ref p=>
  unfold cIx at h
  dsimp only at h
  split at h
  · rename_i kvs e
    obtain ⟨k,ek,h⟩:=aX h
    obtain ⟨z,ez,q⟩:=aX h
    cases (show v=Value.ref p from rx)
    have g:DGet H p y (some z):=by rw [oe ek,← ez]; exact DGet.k (o5 e)
    exact tail_any (uB I g) PySem.F.slot_dict_getitem.lookup (xl (Nat.lt_of_le_of_lt (Nat.add_le_add_left (by decide:1≤64) _) hu) I g ry fun w' s3 I3 rw'=>⟨z,H,I3,rw',q⟩) hs
  · split at h
    · obtain ⟨xs,e,h⟩:=aX h
      obtain ⟨z,ez,q⟩:=aX h
      rcases lx (K:=X.K) e with r | r
      · exact vh value slice pins s σ H _ _ v u Q I rx ry ⟨p,xs,_,z,rfl,rfl,r,ez,q⟩ hs
      · exact Ah value slice pins s σ H _ _ v u Q I rx ry ⟨p,xs,_,z,rfl,rfl,r,ez,q⟩ hs
    · exact h.elim
 | str zz=>
  cases y with
  | int i=>
   obtain ⟨hz,h⟩:=(show zz.length≤sizeLine∧bnd (atI zz.cps.toList i) fun c=>Q (.str ⟨#[c]⟩) H from h)
   obtain ⟨z,ez,q⟩:=aX h
   exact Ai value slice pins s σ H _ _ v u Q I rx ry ⟨_,_,z,rfl,rfl,hz,ez,q⟩ hs
  | _=>exact False.elim h
 | _=>exact False.elim h
def kLen:List V→Hp→VK→Prop
 | [.ref p],H,Q=>(match unD (H p) with
  | some kvs=>Q (.int kvs.length) H
  | none=>bnd (unS (H p)) fun xs=>Q (.int xs.length) H)
 | [.str z],H,Q=>z.length≤sizeLine∧Q (.int z.length) H
 | _,_,_=>False
theorem aR:CallR X (.builtin "len") kLen:=by
 intro pins s σ H xs us Q I r h
 unfold kLen at h
 split at h
 · split at h
   · rename_i kvs e
     exact xm pins s σ H _ us Q I r ⟨_,kvs,rfl,o5 e,h⟩
   · obtain ⟨ys,e,q⟩:=aX h
     exact mH pins s σ H _ us Q I r ⟨_,ys,rfl,lx e,q⟩
 · exact sG pins s σ H _ us Q I r ⟨_,rfl,h.1,h.2⟩
 · exact h.elim
def kAbs:List V→Hp→VK→Prop
 | [.int i],H,Q=>Q (.int (if i < 0 then -i else i)) H
 | _,_,_=>False
def kMin:List V→Hp→VK→Prop
 | [.int i,.int j],H,Q=>Q (.int (if j < i then j else i)) H
 | _,_,_=>False
def kMax:List V→Hp→VK→Prop
 | [.int i,.int j],H,Q=>Q (.int (if j > i then j else i)) H
 | _,_,_=>False
def kList:List V→Hp→VK→Prop
 | [.ref p],H,Q=>bnd (unS (H p)) fun ys=>∀ l,H l=none→Q (.ref l) (upd H l (.lst ys))
 | _,_,_=>False
theorem jS:CallR X (.type "list") kList:=by
 intro pins s σ H xs us Q I r h
 unfold kList at h
 split at h
 · obtain ⟨ys,e,q⟩:=aX h
   exact sH pins s σ H _ us Q I r ⟨_,ys,rfl,lx e,q⟩
 · exact h.elim
def c8:List V→Hp→VK→Prop
 | [.ref p],H,Q=>bnd (unL (H p)) fun ys=>∃ ns:List Int,ys=ns.map V.int∧ns.length < 64∧∀ (ns':List Int) l,H l=none→ns'.Perm ns→ns'.Pairwise (· ≤·)→Q (.ref l) (upd H l (.lst (ns'.map V.int)))
 | _,_,_=>False
theorem e5:CallR X (.builtin "sorted") c8:=by
 intro pins s σ H xs us Q I r h
 unfold c8 at h
 split at h
 · rename_i p
   obtain ⟨ys,e,ns,rfl,hlen,q⟩:=aX h
   obtain ⟨u,rfl,ru⟩:=cL r
   cases ru
   obtain ⟨its,rv,pl,hz⟩:=I.list (mJ e)
   have hI:IntsAre its ns:=o0 rv
   have hl:=rv.length
   rw [List.length_map] at hl
   refine sorted_ints pl.isList hI (by omega) fun out ns' hI' hp hs=>?_
   have old:∀ b o,s.heap.get? b=some o→(sortedAll s.heap its out).get? b=some o:=fun b o e=>sortedAll_old e
   obtain ⟨n,at_⟩:=sortedAll_at s.heap its out
   have hfresh:H (s.heap.objs.size+1)=none:=I.hok.fresh (Nat.le_succ _)
   have hlen':(ns'.map V.int).length≤sizeLine:=by
    rw [List.length_map,hp.length_eq]
    exact Nat.le_of_lt (Nat.lt_trans hlen (by decide))
   refine ⟨.ref (s.heap.objs.size+1),_,I.laid (t':=s.toks) (a:=s.heap.objs.size+1) (o:=.lst (ns'.map V.int)) old (Nat.le_succ _) ⟨hlen',out.toList,n,mI hI',?_⟩,rfl,q ns' _ hfresh hp hs⟩
   rw [at_]
 · exact h.elim
def kd (H:Hp):V→Option String
 | .non=>some "NoneType"
 | .bl _=>some "bool"
 | .int _=>some "int"
 | .str _=>some "str"
 | .ref p=>match H p with
  | some (.lst _)=>some "list"
  | some (.frz _ (.lst _))=>some "list"
  | some (.tup _)=>some "tuple"
  | some (.dK _)=>some "dict"
  | _=>none
 | _=>none
def isTy (t n:String):Bool:=t==n||(t=="bool"&&n=="int")
def nv (n:String):Bool:=["int","bool","str","list","tuple","dict"].contains n
theorem xt {K:PySem.W.Frag} {H:Hp} {x:V} {t:String} (h:kd H x=some t):TyOf K H x (.type t)∧["NoneType","int","bool","str","list","tuple","dict"].contains t=true:=by
 cases x with
 | non=>cases h; exact ⟨.non,by decide⟩
 | bl b=>cases h; exact ⟨.bl b,by decide⟩
 | int i=>cases h; exact ⟨.int i,by decide⟩
 | str i=>cases h; exact ⟨.str i,by decide⟩
 | byt _=>cases h
 | flt _=>cases h
 | ty _=>cases h
 | ref p=>
  unfold kd at h
  dsimp only at h
  split at h
  · rename_i e; cases h; exact ⟨.lst e,by decide⟩
  · rename_i e; cases h; exact ⟨.frz e,by decide⟩
  · rename_i e; cases h; exact ⟨.tup e,by decide⟩
  · rename_i e; cases h; exact ⟨.dK e,by decide⟩
  · cases h
theorem Ar (K:PySem.W.Frag):∀ t∈["NoneType","int","bool","str","list","tuple","dict"],∀ n∈["int","bool","str","list","tuple","dict"],PySem.W.kitOne K (.type t) (.type n)=some (isTy t n):=by
 intro t ht n hn
 simp only [List.mem_cons,List.not_mem_nil,or_false] at ht hn
 rcases ht with rfl | rfl | rfl | rfl | rfl | rfl | rfl <;> rcases hn with rfl | rfl | rfl | rfl | rfl | rfl <;> rfl
def kIsi:List V→Hp→VK→Prop
 | [x,.ty n],H,Q=>nv n=true∧bnd (kd H x) fun t=>Q (.bl (isTy t n)) H
 | _,_,_=>False
theorem e6:CallR X (.builtin "isinstance") kIsi:=by
 intro pins s σ H xs us Q I r h
 unfold kIsi at h
 split at h
 · obtain ⟨hn,h⟩:=h
   obtain ⟨t,et,q⟩:=aX h
   obtain ⟨u,w,rfl,ru,rw'⟩:=A0 r
   cases rw'
   obtain ⟨ty,ht⟩:=xt (K:=X.K) et
   exact xf I ru ty (Ar X.K t (by simpa using ht) _ (by simpa [nv] using hn)) fun tk=>⟨.bl _,H,I.tok tk,rfl,q⟩
 · exact h.elim
def ck:V→List V→Hp→VK→Prop
 | .ref l,[y],H,Q=>bnd (unM (H l)) fun xs=>xs.length < sizeLine∧Q .non (upd H l (.lst (xs++[y])))
 | _,_,_,_=>False
theorem cM:MtR X "list.append" ck:=by
 intro pins s σ H x vs v us Q I rx rv h
 unfold ck at h
 split at h
 · obtain ⟨xs,e,h1,q⟩:=aX h
   exact qV pins s σ H _ _ v us Q I rx rv ⟨_,xs,_,rfl,rfl,g7 e,h1,q⟩
 · exact h.elim
def nA:V→List V→Hp→VK→Prop
 | .ref l,[.ref b],H,Q=>bnd (unM (H l)) fun xs=>bnd (unM (H b)) fun zs=>xs.length+zs.length≤sizeLine∧Q .non (upd H l (.lst (xs++zs)))
 | _,_,_,_=>False
theorem vS:MtR X "list.extend" nA:=by
 intro pins s σ H x vs v us Q I rx rv h
 unfold nA at h
 split at h
 · obtain ⟨xs,e,h⟩:=aX h
   obtain ⟨zs,e2,h1,q⟩:=aX h
   exact xk pins s σ H _ _ v us Q I rx rv ⟨_,_,xs,zs,rfl,rfl,g7 e,g7 e2,h1,q⟩
 · exact h.elim
theorem dv {K:PySem.W.Frag} {H:Hp} {p:Addr} {xs:List V} (h:H p=some (.lst xs)):tyV K "list" (.ref p) H:=.inl ⟨rfl,_,SqL.of h⟩
def cSl:V→Option Int→Option Int→Hp→VK→Prop
 | .ref p,lo,hi,H,Q=>bnd (unL (H p)) fun xs=>∀ l,H l=none→Q (.ref l) (upd H l (.lst (cutV xs lo hi)))
 | _,_,_,_,_=>False
theorem Bd:SlR X cSl:=by
 intro pins s σ H x v vl vu lo hi sl Q I rx hs pl pu h
 unfold cSl at h
 split at h
 · obtain ⟨xs,e,q⟩:=aX h
   exact zt pins s σ H _ v vl vu lo hi sl Q I rx hs pl pu ⟨_,xs,rfl,mJ e,q⟩
 · exact h.elim
end
structure Cal (P:Program) (w:World) (K:PySem.W.Frag) (mg:Str→Option Value) (base:Heap) (k:Nat) (x:Str) (ps:List Str) (sp:Sp):Prop where
 ex:∃ (f:Addr) (fd:FuncData),FnOk P w K mg base CX0 k f fd ps sp∧mg x=some (.ref f)∧PySem.W.keepIn K (.ref f)=true∧Binds K fd ps []
theorem ak {X:Cx} {k n:Nat} {x:Str} {ps:List Str} {sp:Sp} {p pos:Pos} {e:Expr} {es:List Expr} {t:TA} (C:Cal X.prog X.w X.K X.mg X.base k x ps sp) (hr:Room n X.A) (hk:k≤n) (hg:Gl X x) (ha:PA X (e::es) t)
  (hdb:(x==("__debug__":Str))=false:=by decide) (he:starEach (e::es) X.env=(false,eval e X.env)::starEach es X.env:=by rfl) (hpl:(backTo pos (starEach es X.env)).any (·.1)=false:=by rfl):
  PE X (.Call (.Name x p) (e::es) [] pos) (tCall sp [] E0 t):=by
 obtain ⟨f,fd,F,hm,hkp,hb⟩:=C.ex
 exact zp F (hr.mono hk) hg hm hkp hb .nil sk ha hdb he hpl
end L2
namespace L2
open PySem PySem.Spec PyProof.Rows
theorem bo:bootBuiltins "len"=some (.builtin "len"):=by decide+kernel
theorem jz:bootBuiltins "sorted"=some (.builtin "sorted"):=by decide+kernel
theorem sP:bootBuiltins "any"=some (.builtin "any"):=by decide+kernel
theorem b5:bootBuiltins "isinstance"=some (.builtin "isinstance"):=by decide+kernel
theorem i4:bootBuiltins "list"=some (.type "list"):=by decide+kernel
theorem o6:bootBuiltins "int"=some (.type "int"):=by decide+kernel
theorem zA:bootBuiltins "bool"=some (.type "bool"):=by decide+kernel
theorem ly:bootBuiltins "str"=some (.type "str"):=by decide+kernel
theorem lJ:bootBuiltins "tuple"=some (.type "tuple"):=by decide+kernel
def compN (scope:Scope):List Str:=(scope.names.filter fun p=>p.2==.local||p.2==.cell||p.2==.free).map (·.1)
def o7 (N:List Str) (scope:Scope):List (Option Nat):=(compN scope).map fun x=>if scope.names.lookup x==some .free then N.findIdx? (· ==x) else none
def isCF:Option NameKind→Bool
 | some .cell=>true
 | some .free=>true
 | _=>false
theorem As {X:Cx} {scope:Scope} (h1:scope.kind=.function) (h2:(scope.names.map (·.1)).Nodup) (h3:(scope.names.all fun p=>p.2 != .free||isCF (X.env.kindOf p.1))=true):BlkOk X (compN scope) (o7 X.N scope) scope where
 kind:=h1
 nd:=h2.sublist (List.Sublist.map _ (List.filter_sublist ..))
 len:=by unfold o7; rw [List.length_map]
 names:=h2
 free:=fun x hx=>by
  have:=List.all_eq_true.mp h3 (x,.free) hx
  simp only [bne_self_eq_false,Bool.false_or] at this
  unfold isCF at this
  split at this
  · rename_i e; exact .inl e
  · rename_i e; exact .inr e
  · cases this
 at_:=fun j i x e1 e2=>by
  unfold o7 at e2
  rw [List.getElem?_map,e1] at e2
  simp only [Option.map_some,Option.some.injEq] at e2
  split at e2
  · rename_i hf
    obtain ⟨hlt,hp,_⟩:=List.findIdx?_eq_some_iff_getElem.mp e2
    have hx:X.N[i]? =some x:=by
     rw [List.getElem?_eq_getElem hlt]
     have:X.N[i]=x:=by simpa using hp
     rw [this]
    refine ⟨hx,PySem.mem_of_lookup (by simpa using hf)⟩
  · cases e2
end L2
namespace L2
open PySem PySem.Spec PyProof.Rows
section
variable {t u:TS} {D:Ends} {σ:St} {H:Hp} {Q:VK} {ta tb:TE} {R:Bool→Hp→Prop} {c d:TT}
theorem aQ:tSeq t u D σ H=t { D with nx:=u D } σ H:=rfl
theorem dN:tNext D σ H=D.nx σ H:=rfl
theorem dw {g:TG}:tAsg ta g D σ H=ta σ H fun x H1=>g x σ H1 D.nx:=rfl
theorem bi {i:Nat} {v:V} {k:St→Hp→Prop}:gName i v σ H k=k (σ.set i (some v)) H:=rfl
theorem gl {i:Nat}:tVar i σ H Q=∃ v,σ[i]? =some (some v)∧Q v H:=rfl
theorem w_c {v:V}:tC v σ H Q=Q v H:=rfl
theorem g8 {r:R2}:tOp r ta tb σ H Q=ta σ H fun x H1=>tb σ H1 fun y H2=>r x y H2 Q:=rfl
theorem dy:tRet ta D σ H=ta σ H D.rt:=rfl
theorem e7:tRetN D σ H=D.rt .non H:=rfl
theorem dO:tDrop ta D σ H=ta σ H fun _ H1=>D.nx σ H1:=rfl
theorem aH:tIfS c t u D σ H=c σ H fun b H1=>if b=true then t D σ H1 else u D σ H1:=rfl
theorem e8:tTest ta σ H R=ta σ H fun x H'=>∃ k,x=.bl k∧R k H':=rfl
theorem w_b:tB ta σ H R=ta σ H fun x H'=>∃ k,x=.bl k∧R k H':=rfl
theorem w_not:tNot c σ H R=c σ H fun k H1=>R (!k) H1:=rfl
theorem g9:tAnd c d σ H R=c σ H fun k H1=>if k=true then d σ H1 R else R false H1:=rfl
theorem ke:tOr c d σ H R=c σ H fun k H1=>if k=true then R true H1 else d σ H1 R:=rfl
theorem e9:tNotV ta σ H Q=ta σ H fun x H1=>∃ c,x=.bl c∧Q (.bl (!c)) H1:=rfl
theorem fb:tAndV ta tb σ H Q=ta σ H fun x H1=>∃ c,x=.bl c∧if c=true then tb σ H1 Q else Q (.bl false) H1:=rfl
theorem hE:tOrV ta tb σ H Q=ta σ H fun x H1=>∃ c,x=.bl c∧if c=true then Q (.bl true) H1 else tb σ H1 Q:=rfl
theorem gm {k:List V→Hp→Prop}:tNil σ H k=k [] H:=rfl
theorem cN {tr:TA} {k:List V→Hp→Prop}:tCons ta tr σ H k=ta σ H fun x H1=>tr σ H1 fun xs H2=>k (x::xs) H2:=rfl
theorem jK {r:List V→Hp→VK→Prop} {tr:TA}:tCB r tr σ H Q=tr σ H fun vs H1=>r vs H1 Q:=rfl
theorem dP {sp:Sp} {dvs:List V} {E:XK} {tr:TA}:tCall sp dvs E tr σ H Q=tr σ H fun vs H1=>sp (vs++dvs) H1 Q E:=rfl
theorem hJ {tr:TA}:tTup tr σ H Q=tr σ H fun xs H1=>xs.length≤sizeLine∧∀ p,H1 p=none→Q (.ref p) (upd H1 p (.tup xs)):=rfl
theorem gn {tr:TA}:tLst tr σ H Q=tr σ H fun xs H1=>xs.length≤sizeLine∧∀ p,H1 p=none→Q (.ref p) (upd H1 p (.lst xs)):=rfl
theorem jL {K:PySem.W.Frag} {T:String} {r:V→List V→Hp→VK→Prop} {tr:TA}:tBM K T r ta tr σ H Q=ta σ H fun x H1=>tyV K T x H1∧tr σ H1 fun xs H2=>r x xs H2 Q:=rfl
theorem hV {K:PySem.W.Frag} {T:String} {r:V→List V→Hp→VK→Prop}:vQ K T r ta σ H Q=ta σ H fun x H1=>tyV K T x H1∧r x [] H1 Q:=rfl
theorem dQ:tTrue σ H R=R true H:=rfl
theorem fc:An σ H Q=∀ p,H p=none→Q (.ref p) (upd H p (.dK [])):=rfl
theorem fe {td ty tv:TE}:sDPut td ty tv D σ H=tv σ H fun v H1=>td σ H1 fun x H2=>ty σ H2 fun y H3=>∃ a H4,x=.ref a∧DPut H3 a y v H4∧D.nx σ H4:=rfl
theorem hX {i j:Int}:cAdd (.int i) (.int j) H Q=Q (.int (i+j)) H:=rfl
theorem h9 {i j:Int}:cSub (.int i) (.int j) H Q=Q (.int (i - j)) H:=rfl
theorem ia {i j:Int}:cMul (.int i) (.int j) H Q=(CMul i j∧Q (.int (i*j)) H):=rfl
theorem ib {i j:Int}:cDiv (.int i) (.int j) H Q=(CDiv i j∧Q (.int (i / j)) H):=rfl
theorem ic {i j:Int}:cMod (.int i) (.int j) H Q=(0 < j∧Q (.int (i % j)) H):=rfl
theorem ie {g:Int→Int→Bool} {i j:Int}:cCmp g (.int i) (.int j) H Q=Q (.bl (g i j)) H:=rfl
theorem ig {K:PySem.W.Frag} {i j:Int}:cEq K (.int i) (.int j) H Q=Q (.bl (decide (i=j))) H:=rfl
theorem ii {K:PySem.W.Frag} {i j:Int}:cNe K (.int i) (.int j) H Q=Q (.bl (!decide (i=j))) H:=rfl
theorem ij {K:PySem.W.Frag} {i j:Bool}:cEq K (.bl i) (.bl j) H Q=Q (.bl (decide (i=j))) H:=rfl
theorem ik {K:PySem.W.Frag} {i j:Bool}:cNe K (.bl i) (.bl j) H Q=Q (.bl (!decide (i=j))) H:=rfl
theorem gH {p:Addr} {i:Int} {xs:List V} (h:H p=some (.tup xs)):cIx (.ref p) (.int i) H Q=bnd (atI xs i) fun v=>Q v H:=by
 unfold cIx; dsimp only; rw [h]; rfl
theorem zc {p:Addr} {i:Int} {xs:List V} (h:H p=some (.lst xs)):cIx (.ref p) (.int i) H Q=bnd (atI xs i) fun v=>Q v H:=by
 unfold cIx; dsimp only; rw [h]; rfl
theorem il {i:Int}:kAbs [.int i] H Q=Q (.int (if i < 0 then -i else i)) H:=rfl
theorem im {i j:Int}:kMin [.int i,.int j] H Q=Q (.int (if j < i then j else i)) H:=rfl
theorem cO {p:Addr} {xs:List V} (h:H p=some (.lst xs)):kLen [.ref p] H Q=Q (.int xs.length) H:=by
 unfold kLen; dsimp only; rw [h]; rfl
theorem xu {p:Addr} {xs:List V} (h:H p=some (.tup xs)):kLen [.ref p] H Q=Q (.int xs.length) H:=by
 unfold kLen; dsimp only; rw [h]; rfl
theorem kf {p:Addr} {xs:List V} {y:V} (h:H p=some (.lst xs)):ck (.ref p) [y] H Q=(xs.length < sizeLine∧Q .non (upd H p (.lst (xs++[y])))):=by
 unfold ck; dsimp only; rw [h]; rfl
theorem mK:∀ ns:List Int,(ns.map V.int).all flatV=true
 | []=>rfl
 | n::r=>by rw [List.map_cons,List.all_cons,mK r]; rfl
theorem og (i:Int):∀ ns:List Int,inV (.int i) (ns.map V.int)=decide (i∈ns)
 | []=>by simp [inV]
 | n::r=>by
  have ih:=og i r
  unfold inV at ih ⊢
  rw [List.map_cons,List.any_cons,ih]
  show ((n==i)||decide (i∈r))=decide (i∈n::r)
  rw [Bool.eq_iff_iff,Bool.or_eq_true,beq_iff_eq,decide_eq_true_eq,decide_eq_true_eq,List.mem_cons]
  exact ⟨fun h=>h.elim (fun e=>.inl e.symm) .inr,fun h=>h.elim (fun e=>.inl e.symm) .inr⟩
theorem qo {K:PySem.W.Frag} {p:Addr} {i:Int} {ns:List Int} (h:H p=some (.lst (ns.map V.int))):cIn K false (.int i) (.ref p) H Q=Q (.bl (decide (i∈ns))) H:=by
 unfold cIn; dsimp only; rw [h]; dsimp only [unD,unS,bnd]
 rw [og,mK]
 simp [flatV]
theorem zd {K:PySem.W.Frag} {p:Addr} {i:Int} {ns:List Int} (h:H p=some (.lst (ns.map V.int))):cIn K true (.int i) (.ref p) H Q=Q (.bl (!decide (i∈ns))) H:=by
 unfold cIn; dsimp only; rw [h]; dsimp only [unD,unS,bnd]
 rw [og,mK]
 simp [flatV]
end
def LoopR (J:It) (g:TG) (tb:TS) (D:Ends) (σ:St) (H1:Hp):Prop:=∃ W:Nat→Nat→St→Hp→Prop,(∃ m,W 0 m σ H1)∧∀ i m σ H,W i m σ H→
 (J.stop i H∧D.nx σ H)∨(J.go i H∧∃ N:St→Hp→Prop,(∀ σ' H',N σ' H'→∃ m',m' < m∧W (i+1) m' σ' H')∧∀ x H',J.yld i H x H'→g x σ H' fun σ2 H2=>tb { D with nx:=N,ct:=N,bk:=D.nx } σ2 H2)
def CompR (J:It) (g:TG) (tt:TT) (te:TE) (fin:Addr→Hp→Prop) (σ0:St) (H1:Hp):Prop:=∀ l,H1 l=none→
 ∃ W:Nat→Nat→St→Hp→Prop,(∃ m,W 0 m σ0 (upd H1 l (.lst [])))∧∀ i m σ' H',W i m σ' H'→
  (J.stop i H'∧fin l H')∨(J.go i H'∧∃ N:St→Hp→Prop,(∀ σ'' H'',N σ'' H''→∃ m',m' < m∧W (i+1) m' σ'' H'')∧∀ x H2,J.yld i H' x H2→g x σ' H2 fun σ2 H3=>tt σ2 H3 fun b H4=>
   if b=true then te σ2 H4 fun y H5=>∃ ys,H5 l=some (.lst ys)∧ys.length < sizeLine∧N σ2 (upd H5 l (.lst (ys++[y]))) else N σ2 H4)
section
variable {K:PySem.W.Frag} {g:TG} {tb:TS} {D:Ends} {σ:St} {H:Hp} {tl:TE} {ta:TA} {ix:List (Option Nat)} {tt:TT} {te:TE} {k:Nat} {Q:VK}
theorem ff:tFor (iList K tl) g tb D σ H=tl σ H fun x H1=>∃ a,x=.ref a∧(∃ xs,SqL K H1 a xs)∧LoopR (Itl K a) g tb D σ H1:=rfl
theorem c9:tFor (cU ta) g tb D σ H=ta σ H fun vs H1=>∃ j:Int,vs=[.int j]∧ -(2^62)≤j∧j < 2^62∧LoopR (Itr 0 j.toNat) g tb D σ H1:=rfl
theorem da:tFor (oY ta) g tb D σ H=ta σ H fun vs H1=>∃ i j:Int,vs=[.int i,.int j]∧(-(2^62)≤i∧i < 2^62∧ -(2^62)≤j∧j < 2^62)∧LoopR (Itr i (j - i).toNat) g tb D σ H1:=rfl
theorem cC:tComp ix (iList K tl) g tt te σ H Q=tl σ H fun x H1=>∃ a,x=.ref a∧(∃ xs,SqL K H1 a xs)∧CompR (Itl K a) g tt te (fun l H'=>Q (.ref l) H') (subσ ix σ) H1:=rfl
theorem cr:tComp ix (cU ta) g tt te σ H Q=ta σ H fun vs H1=>∃ j:Int,vs=[.int j]∧ -(2^62)≤j∧j < 2^62∧CompR (Itr 0 j.toNat) g tt te (fun l H'=>Q (.ref l) H') (subσ ix σ) H1:=rfl
theorem cu:sComp k ix (iList K tl) g tt te D σ H=tl σ H fun x H1=>∃ a,x=.ref a∧(∃ xs,SqL K H1 a xs)∧CompR (Itl K a) g tt te (fun l H'=>D.nx (σ.set k (some (.ref l))) H') (subσ ix σ) H1:=rfl
theorem bS:sComp k ix (cU ta) g tt te D σ H=ta σ H fun vs H1=>∃ j:Int,vs=[.int j]∧ -(2^62)≤j∧j < 2^62∧CompR (Itr 0 j.toNat) g tt te (fun l H'=>D.nx (σ.set k (some (.ref l))) H') (subσ ix σ) H1:=rfl
theorem lK {lo:Int} {n:Nat} {fin:Addr→Hp→Prop} {σ0:St} {H1:Hp} (Pv:Addr→Nat→St→Hp→Prop) (h0:∀ l,H1 l=none→Pv l 0 σ0 (upd H1 l (.lst [])))
  (hs:∀ l i σ H,H1 l=none→i < n→Pv l i σ H→g (.int (lo+i)) σ H fun σ2 H3=>tt σ2 H3 fun b H4=>if b=true then te σ2 H4 fun y H5=>∃ ys,H5 l=some (.lst ys)∧ys.length < sizeLine∧Pv l (i+1) σ2 (upd H5 l (.lst (ys++[y]))) else Pv l (i+1) σ2 H4)
  (hd:∀ l σ H,H1 l=none→Pv l n σ H→fin l H):CompR (Itr lo n) g tt te fin σ0 H1:=by
 intro l hl0
 refine ⟨fun i m σ H=>m=n - i∧i≤n∧Pv l i σ H,⟨n,by simp,Nat.zero_le _,h0 l hl0⟩,?_⟩
 rintro i m σ H ⟨rfl,hi,p⟩
 by_cases hlt:i < n
 · refine .inr ⟨hlt,Pv l (i+1),fun σ' H' p'=>⟨n - (i+1),by omega,rfl,hlt,p'⟩,fun x H' y=>?_⟩
   obtain ⟨e,y⟩:=y
   subst e y
   exact hs l i σ _ hl0 hlt p
 · have e:i=n:=by omega
   subst e
   exact .inl ⟨Nat.le_refl _,hd l σ H hl0 p⟩
theorem mL {a:Addr} {xs:List V} {fin:Addr→Hp→Prop} {σ0:St} {H1:Hp} (Pv:Addr→Nat→St→Hp→Prop) (h0:∀ l,H1 l=none→Pv l 0 σ0 (upd H1 l (.lst []))) (hq:∀ l i σ H,H1 l=none→i≤xs.length→Pv l i σ H→SqL K H a xs)
  (hs:∀ l i x σ H,H1 l=none→xs[i]? =some x→Pv l i σ H→g x σ H fun σ2 H3=>tt σ2 H3 fun b H4=>if b=true then te σ2 H4 fun y H5=>∃ ys,H5 l=some (.lst ys)∧ys.length < sizeLine∧Pv l (i+1) σ2 (upd H5 l (.lst (ys++[y]))) else Pv l (i+1) σ2 H4)
  (hd:∀ l σ H,H1 l=none→Pv l xs.length σ H→fin l H):CompR (Itl K a) g tt te fin σ0 H1:=by
 intro l hl0
 refine ⟨fun i m σ H=>m=xs.length - i∧i≤xs.length∧Pv l i σ H,⟨xs.length,by simp,Nat.zero_le _,h0 l hl0⟩,?_⟩
 rintro i m σ H ⟨rfl,hi,p⟩
 have q:=hq l i σ H hl0 hi p
 by_cases hlt:i < xs.length
 · refine .inr ⟨⟨xs,xs[i],q,by simp [hlt]⟩,Pv l (i+1),fun σ' H' p'=>⟨xs.length - (i+1),by omega,rfl,hlt,p'⟩,fun x H' y=>?_⟩
   obtain ⟨e,y⟩:=y
   subst e
   exact hs l i x σ _ hl0 (y xs q) p
 · have e:i=xs.length:=by omega
   subst e
   exact .inl ⟨⟨xs,q,Nat.le_refl _⟩,hd l σ H hl0 p⟩
theorem vT {p q:Addr} {xs ys:List Int} (hp:H p=some (.lst (xs.map V.int))) (hq:H q=some (.lst (ys.map V.int))) (h:Q (.bl (decide (xs=ys))) H):cEq K (.ref p) (.ref q) H Q:=by
 show rEqD K (.ref p) (.ref q) H Q
 refine ⟨.list (xs.map PyData.int),.list (ys.map PyData.int),.lst (SqL.of hp) (.ints xs),.lst (SqL.of hq) (.ints ys),jn xs,jn ys,?_⟩
 rw [PyData.eqv,sN]
 exact h
theorem su {p q:Addr} {xs ys:List Int} (hp:H p=some (.lst (xs.map V.int))) (hq:H q=some (.lst (ys.map V.int))) (h:Q (.bl (!decide (xs=ys))) H):cNe K (.ref p) (.ref q) H Q:=by
 show rNeD K (.ref p) (.ref q) H Q
 refine ⟨.list (xs.map PyData.int),.list (ys.map PyData.int),.lst (SqL.of hp) (.ints xs),.lst (SqL.of hq) (.ints ys),jn xs,jn ys,?_⟩
 rw [PyData.eqv,sN]
 exact h
theorem yC {p:Addr} {ns:List Int} (hp:H p=some (.lst (ns.map V.int))) (hn:ns.length < 64) (h:∀ (ns':List Int) l,H l=none→ns'.Perm ns→ns'.Pairwise (· ≤·)→Q (.ref l) (upd H l (.lst (ns'.map V.int)))):c8 [.ref p] H Q:=by
 unfold c8
 dsimp only
 rw [hp]
 exact ⟨ns,rfl,hn,h⟩
theorem sQ {p:Addr} {xs:List V} (hp:H p=some (.lst xs)) (h:∀ l,H l=none→Q (.ref l) (upd H l (.lst xs))):kList [.ref p] H Q:=by
 unfold kList
 dsimp only
 rw [hp]
 exact h
end
theorem aJ {X:Cx} {N:List Str} {ix:List (Option Nat)} {scope:Scope} (h1:scope.kind=.function) (h2:(scope.names.map (·.1)).Nodup) (h3:(scope.names.all fun p=>p.2 != .free||isCF (X.env.kindOf p.1))=true) (h4:N=compN scope) (h5:ix=o7 X.N scope):BlkOk X N ix scope:=by
 subst h4 h5
 exact As h1 h2 h3
def kLenS (K:PySem.W.Frag):List V→Hp→VK→Prop:=fun xs H Q=>∃ p ys,xs=[.ref p]∧(SqL K H p ys∨SqT K H p ys)∧Q (.int ys.length) H
structure Bt (mg:Str→Option Value):Prop where
 len_:mg "len"=none
 abs_:mg "abs"=none
 min_:mg "min"=none
 max_:mg "max"=none
 sorted_:mg "sorted"=none
 any_:mg "any"=none
 isinstance_:mg "isinstance"=none
 list_:mg "list"=none
 int_:mg "int"=none
 bool_:mg "bool"=none
 str_:mg "str"=none
 tuple_:mg "tuple"=none
 reversed_:mg "reversed"=none
 set_:mg "set"=none
 range_:mg "range"=none
 zip_:mg "zip"=none
end L2
namespace L2
open PySem PySem.Spec PyProof.Rows
theorem Vals.get':∀ {xs:List V} {us:List Value} {i:Nat} {u:Value},Vals xs us→us[i]? =some u→∃ x,xs[i]? =some x∧RelV x u
 | _,_,_,_,.nil,h=>by simp at h
 | _,_,0,_,.cons r _,h=>by simp at h; subst h; exact ⟨_,rfl,r⟩
 | _,_,i+1,_,.cons _ t,h=>by
  obtain ⟨x,hx,r⟩:=Vals.get' (i:=i) t (by simpa using h)
  exact ⟨x,by simpa using hx,r⟩
section
variable {X:Cx} {pins:List (Addr × Obj)} {σ:St} {H:Hp} {s s':Shared}
theorem Inv.kept' (I:Inv X pins σ H s) (k:∀ b u,s.heap.get? b=some u→s'.heap.get? b=some u) (ho:s'.os=s.os) (hg:AllBare s'.gens):Inv X pins σ H s':=
 I.call' (ch:=[]) ho (Un.kept k) (I.hok.kept k) hg fun b z=>absurd z (by simp)
theorem Inv.walked {l:Addr} {o:Obj} (I:Inv X pins σ H s) (hm:Moved [s.heap.objs.size] (fun a b=>b=a) { s with heap:=s.heap.push o } s'):Inv X pins σ H s':=by
 refine I.kept' (fun b u e=>hm.heap b u (fun z=>?_) (Heap.get?_push_of_some _ e)) hm.os (by rw [show s'.gens=s.gens from hm.gens]; exact I.bare)
 have:b=s.heap.objs.size:=by simpa using z
 exact absurd (Heap.lt_size e) (by rw [this]; exact Nat.lt_irrefl _)
def kAny:List V→Hp→VK→Prop
 | [.ref p],H,Q=>bnd (unL (H p)) fun ys=>∃ bs:List Bool,ys=bs.map V.bl∧Q (.bl (bs.any id)) H
 | _,_,_=>False
theorem xv (bs:List Bool):(List.range bs.length).any (fun i=>bs.getD i false)=bs.any id:=by
 rw [Bool.eq_iff_iff,List.any_eq_true,List.any_eq_true]
 constructor
 · rintro ⟨i,hi,h⟩
   have hi':i < bs.length:=List.mem_range.mp hi
   exact ⟨bs[i],List.getElem_mem hi',by simpa [List.getD,hi'] using h⟩
 · rintro ⟨b,hb,h⟩
   obtain ⟨i,hi,e⟩:=List.mem_iff_getElem.mp hb
   refine ⟨i,List.mem_range.mpr hi,?_⟩
   have h':b=true:=h
   rw [List.getD,List.getElem?_eq_getElem hi,e]
   exact h'
theorem mM (hc:X.calm=true):CallR X (.builtin "any") kAny:=by
 intro pins s σ H xs us Q I r h
 unfold kAny at h
 split at h
 · rename_i p
   obtain ⟨ys,e,bs,rfl,q⟩:=aX h
   obtain ⟨u,rfl,ru⟩:=cL r
   cases ru
   obtain ⟨its,rv,pl,hz⟩:=I.list (mJ e)
   have hl:=rv.length
   rw [List.length_map] at hl
   have hlt:p < s.heap.objs.size:=by
    obtain ⟨o,h1,_⟩:=pl.isList
    exact Heap.lt_size h1
   refine call_any_walkS (wpAny_pyIter_list pl.isList ?_)
   refine ⟨s.heap.objs.size,_,_,_,its.toArray.size,_,_,fun i=>bs.getD i false,rfl,(Walks.list (A:=X.A.in1) (I.ok.hd hc) s.heap.objs.size p (Nat.ne_of_lt hlt) its.toArray).toS,⟨⟨_,Heap.get?_push_size _ rfl,rfl,rfl⟩,pl.isList.push _⟩,?_,fun s' hm=>?_⟩
   · intro i v s1 Q1 E1 hP hQ
     have hv:its[i]? =some v:=by simpa using hP
     obtain ⟨x,hx,rx⟩:=rv.get' hv
     obtain ⟨b,hb,rfl⟩:∃ b,bs[i]? =some b∧V.bl b=x:=by simpa using hx
     cases rx
     refine wpAny_truthy_bool ?_
     have e3:bs.getD i false=b:=by simp [List.getD,hb]
     rw [← e3]
     exact hQ
   · refine ⟨.bl _,H,I.walked (l:=p) hm,?_,q⟩
     have e2:its.toArray.size=bs.length:=by rw [List.size_toArray]; exact hl.symm
     rw [e2,xv]
     rfl
 · exact h.elim
def mN (K:PySem.W.Frag):V→List V→Hp→VK→Prop
 | .ref p,[y],H,Q=>∃ (ds:List PyData) (d:PyData) (j:Nat),DV K H (.ref p) (.list ds)∧DV K H y d∧PyData.canLayAll0 ds=true∧PyData.canLay0 d=true∧min (PyData.depthAll ds) d.depth≤62∧
   j≤1000∧(∃ e,ds[j]? =some e∧PyData.eqv e d=true)∧(∀ m e,m < j→ds[m]? =some e→PyData.eqv e d=false)∧Q (.int j) H
 | _,_,_,_=>False
theorem qY (hu:X.A.units+64 < cLine):MtR X "list.index" (mN X.K):=by
 intro pins s σ H x vs v us Q I rx rv h
 unfold mN at h
 split at h
 · rename_i p y
   obtain ⟨ds,d,j,hp,hy,hl,hd,hdep,hj,⟨e,ej,et⟩,hno,q⟩:=h
   cases rx
   obtain ⟨u,rfl,ru⟩:=cL rv
   obtain ⟨as,rc⟩:=hp.reads I rfl
   obtain ⟨bs,rx⟩:=hy.reads I ru
   cases rc with
   | @list _ o its n _ _ h1 h2 h3 h4=>
    obtain ⟨oc,od,oda,osl⟩:=o
    dsimp only at h2 h3
    subst h2 h3
    have hmap:=SeqAt.readsAll_map ds _ _ hl h4
    have at_:∀ (m:Nat) (hm:m < its.size),ds[m]? =some (SeqAt.readOf s.heap its[m]):=fun m hm=>by
     rw [← hmap,List.getElem?_map,Array.getElem?_toList,Array.getElem?_eq_getElem hm]; rfl
    have hjs:j < its.size:=by
     have:=(List.getElem?_eq_some_iff.mp ej).1
     rw [← hmap,List.length_map,Array.length_toList] at this
     exact this
    refine call_meets F.slot_list_index ⟨_,h1,rfl⟩ F.entry_list_index (F.args_list_index_2 _ _) (SeqAt.list_indexAt p its n od osl u (fun y=>PyData.eqv (SeqAt.readOf s.heap y) d) j hjs (by omega) ?_ ?_) ⟨h1,SeqAt.items_eqAt h4 rx hl hd ?_,⟨.int j,H,I.tok _,⟨_,rfl⟩,q⟩⟩
    · have:=at_ j hjs
      rw [ej] at this
      cases this
      exact et
    · intro m hm hlt
      exact hno m _ hlt (at_ m hm)
    · omega
 · exact h.elim
theorem At {h:Heap} {a b:Addr} {o u:Obj} {c d:String} (ha:h.get? a=some o) (hb:h.get? b=some u) (hc:o.cls=.type c) (hd:u.cls=.type d) (ne:c≠d):a≠b:=by
 rintro rfl; rw [ha] at hb; cases hb; rw [hc] at hd; cases hd; exact ne rfl
end
end L2
namespace L2
open PySem PySem.Spec PyProof.Rows
open Builtin Builtin.Str
theorem qp:∀ {ts:List Str} {us:List Value},Vals (ts.map V.str) us→∃ l:List (Str × Tok),us=strValues l∧l.map (·.1)=ts
 | [],_,.nil=>⟨[],rfl,rfl⟩
 | t::ts,_,.cons r rs=>by
  obtain ⟨l,rfl,e⟩:=qp (ts:=ts) rs
  obtain ⟨u,rfl⟩:=r
  exact ⟨(t,u)::l,rfl,by rw [List.map_cons,e]⟩
theorem qZ:∀ (l:List (Str × Tok)),Vals ((l.map (·.1)).map V.str) (strValues l)
 | []=>.nil
 | (t,u)::l=>.cons ⟨u,rfl⟩ (qZ l)
section
variable {X:Cx}
def kFind:V→List V→Hp→VK→Prop
 | .str x,[.str y],H,Q=>Q (.int (Txt.find x y)) H
 | _,_,_,_=>False
def o8:V→List V→Hp→VK→Prop
 | .str x,[.str y],H,Q=>(y.length==0)=false∧x.length≤sizeLine∧(Txt.split x y).length≤sizeLine∧∀ l,H l=none→Q (.ref l) (upd H l (.lst ((Txt.split x y).map V.str)))
 | _,_,_,_=>False
theorem xw:MtR X "str.split" o8:=by
 intro pins s σ H x vs v us Q I rx rv h
 unfold o8 at h
 split at h
 · rename_i x y
   obtain ⟨t,rfl⟩:=rx
   obtain ⟨u,rfl,ru⟩:=cL rv
   obtain ⟨t2,rfl⟩:=ru
   obtain ⟨hy,hx,hn,q⟩:=h
   have fin:∀ (l:List (Str × Tok)) (k:Nat),l.map (·.1)=Txt.split x y→EP X pins σ Q (.ref s.heap.objs.size) { s with heap:=s.heap.push { cls:=.type "list",data:=.seq (strValues l).toArray },toks:=k }:=fun l k e=>by
    refine ⟨.ref s.heap.objs.size,_,I.lnew (t':=k) (ys:=(Txt.split x y).map V.str) (its:=strValues l) ?_ (by rw [List.length_map]; exact hn),rfl,q _ I.fresh⟩
    rw [← e]
    exact qZ l
   cases h1:(decide (x.length < y.length)||decide (strKind x < strKind y))
   · cases hf:(occurrences x y 0 x.length (x.length+1)).isEmpty
     · have e3:Txt.split x y=partsBetween x (occurrences x y 0 x.length (x.length+1)) y.length:=(if_neg (ne_true_of_eq_false h1)).trans (if_neg (ne_true_of_eq_false hf))
       refine call_meets F.slot_str_split (typeIs_str _ _ _) F.entry_str_split (F.args_str_split_2 _ _) (meets_str_split_sep x y t t2 h1 hy hf hx (by rw [← e3]; exact hn)) ?_
       show wants _ _ _ { s with toks:=_,heap:=s.heap.push { cls:=.type "list",data:=.seq (strsFrom s.toks (partsBetween x (occurrences x y 0 x.length (x.length+1)) y.length)).toArray } }
       rw [strsFrom_eq]
       exact fin (numbered s.toks _) _ ((numbered_texts _ _).trans e3.symm)
     · exact call_meets F.slot_str_split (typeIs_str _ _ _) F.entry_str_split (F.args_str_split_2 _ _) (meets_str_split_not_found x y t t2 h1 hy hf)
        (fin [(x,t)] s.toks ((if_neg (ne_true_of_eq_false h1)).trans (if_pos hf)).symm)
   · exact call_meets F.slot_str_split (typeIs_str _ _ _) F.entry_str_split (F.args_str_split_2 _ _) (meets_str_split_cannot_occur x y t t2 h1)
      (fin [(x,t)] s.toks (if_pos h1).symm)
 · exact h.elim
def kT:V→Option Int→Option Int→Hp→VK→Prop
 | .ref p,lo,hi,H,Q=>cSl (.ref p) lo hi H Q
 | .str z,lo,hi,H,Q=>z.length≤sizeLine∧Q (.str (Txt.slice z lo hi)) H
 | _,_,_,_,_=>False
theorem nB:SlR X kT:=by
 intro pins s σ H x v vl vu lo hi sl Q I rx hs pl pu h
 cases x with
 | ref p=>exact Bd pins s σ H _ v vl vu lo hi sl Q I rx hs pl pu h
 | str z=>
  obtain ⟨hz,q⟩:=(show z.length≤sizeLine∧Q (.str (Txt.slice z lo hi)) H from h)
  obtain ⟨t,rfl⟩:=rx
  have fin:∀ t' k,EP X pins σ Q (.str (Txt.slice z lo hi) t') { s with toks:=k }:=fun t' k=>⟨.str _,H,I.tok k,⟨t',rfl⟩,q⟩
  refine ⟨"str",_,F.slot_str_getitem.lookup,typeIs_str _ _ _,?_⟩
  cases pl with
  | none=>
   cases pu with
   | none=>exact wpAny_getItem_str_slice (l:=none) (u:=none) (st:=none) hs rfl (post_val_or_str ⟨Nat.le_trans (Txt.slice_le z _ _) hz,fin⟩)
   | int j tj=>exact wpAny_getItem_str_slice (l:=none) (u:=some (j,tj)) (st:=none) hs rfl (post_val_or_str ⟨Nat.le_trans (Txt.slice_le z _ _) hz,fin⟩)
  | int i ti=>
   cases pu with
   | none=>exact wpAny_getItem_str_slice (l:=some (i,ti)) (u:=none) (st:=none) hs rfl (post_val_or_str ⟨Nat.le_trans (Txt.slice_le z _ _) hz,fin⟩)
   | int j tj=>exact wpAny_getItem_str_slice (l:=some (i,ti)) (u:=some (j,tj)) (st:=none) hs rfl (post_val_or_str ⟨Nat.le_trans (Txt.slice_le z _ _) hz,fin⟩)
 | _=>exact False.elim h
def Its (x:Str):It:=⟨fun i _=>i < x.cps.size,fun i H v H'=>H'=H∧∃ c,x.cps[i]? =some c∧v=.str ⟨#[c]⟩,fun i _=>x.cps.size≤i⟩
theorem sR {P:Program} {w:World} {K:PySem.W.Frag} {tg:Expr} {x:Str} {t:Tok} (it:Addr) (ty:String) (hty:["enumerate","zip","dict_itemiterator","dict_reverseitemiterator","odict_iterator","itertools.zip_longest","itertools.pairwise"].contains ty=false)
  (W:∀ A:Around,A.handled=none→Walks P w A it [it] [it] x.cps.size (SignAt x) (fun i h=>h.IsStrIter it ty x t i))
  (slf:∀ (A:Around) (i:Nat) (s:Shared) (Q:Value→Shared→Prop) (E:Value→Shared→Prop),s.heap.IsStrIter it ty x t i→Q (.ref it) s→wpAny (model P w) A (pyIter (.ref it)) Q E s):
  Turn P w K tg (Its x) [it] it (fun i h=>i≤x.cps.size∧h.IsStrIter it ty x t i) where
 mem:=by simp
 obj:=fun i h st b hb=>by
  have e:b=it:=by simpa using hb
  subst e
  obtain ⟨_,o,e,c,d⟩:=st
  exact ⟨o,e,fun v z=>by rw [d] at z; cases z⟩
 keep:=fun i h h' st k=>by
  obtain ⟨hi,o,e,c,d⟩:=st
  exact ⟨hi,o,k it (by simp) o e,c,d⟩
 item:=by
  intro X hP hw hK hc i pins s σ H E I hf st hg
  subst hP hw hK
  obtain ⟨f0,f1,f2,f3,f4,f5⟩:=hf it (by simp)
  have hlt:i < x.cps.size:=hg
  refine (W X.A (I.ok.hd hc)).item i s _ _ hlt st.2 fun v h' tk hv st' kk=>?_
  obtain ⟨c,u,hcu,rfl⟩:=hv
  have I1:Inv X pins σ H { s with heap:=h',toks:=tk }:=I.turned (fun b o hb e=>kk b o (by simpa using hb) e) f0 f1 f3 f4 f5
  obtain ⟨o,e,c',d⟩:=id st'
  exact ⟨_,rfl,sj (s:={ s with heap:=h',toks:=tk }) e c' d hty ⟨.str ⟨#[c]⟩,H,I1,⟨u,rfl⟩,⟨rfl,c,hcu,rfl⟩,⟨hlt,st'⟩,fun b hb=>(hf b hb).1⟩⟩
 done:=by
  intro X hP hw hK hc i pins s σ H E I hf st hg
  subst hP hw hK
  obtain ⟨f0,f1,f2,f3,f4,f5⟩:=hf it (by simp)
  have hle:x.cps.size≤i:=hg
  have e:i=x.cps.size:=Nat.le_antisymm st.1 hle
  subst e
  exact (W X.A (I.ok.hd hc)).done s _ _ st.2 fun h' tk kk=>⟨rfl,I.turned (fun b o hb e=>kk b o (by simpa using hb) e) f0 f1 f3 f4 f5⟩
 self:=fun A i s Q E st h=>slf A i s Q E st.2 h
def iStr (tl:TE):TI:=fun σ H R=>tl σ H fun x H1=>∃ z,x=.str z∧R (Its z) H1
theorem Au {tg l:Expr} {tl:TE} (hl:PE X l tl):PI X tg l (iStr tl):=by
 intro pins s σ H R I h
 refine thn (hl pins s σ H _ I h) fun v s1 ⟨x,H1,I1,r1,q1⟩=>?_
 obtain ⟨z,rfl,q⟩:=q1
 obtain ⟨t,rfl⟩:=r1
 have fin:∀ b∈[s1.heap.objs.size],FpOk X pins H1 b:=fun b hb=>by
  have e:b=s1.heap.objs.size:=by simpa using hb
  subst e
  exact I1.fpOk (Nat.le_refl _) (I1.hok.fresh (Nat.le_refl _))
 cases ha:z.cps.all (· < 128)
 · refine wpAny_pyIter_wide ha ⟨s1.heap.objs.size,[s1.heap.objs.size],_,Its z,H1,rfl,I1.kept (t':=s1.toks) fun b o e=>Heap.get?_push_of_some _ e,sR (t:=t) _ "str_iterator" (by decide) (fun A' hA=>Walks.strWide hA _ z t) (fun A i s Q E st hq=>wpAny_pyIter_striter_wide st hq),⟨Nat.zero_le _,_,Heap.get?_push_size _ rfl,rfl,rfl⟩,fin,q⟩
 · refine wpAny_pyIter_ascii ha ⟨s1.heap.objs.size,[s1.heap.objs.size],_,Its z,H1,rfl,I1.kept (t':=s1.toks) fun b o e=>Heap.get?_push_of_some _ e,sR (t:=t) _ "str_ascii_iterator" (by decide) (fun A' hA=>Walks.strAscii hA _ z t) (fun A i s Q E st hq=>wpAny_pyIter_striter_ascii st hq),⟨Nat.zero_le _,_,Heap.get?_push_size _ rfl,rfl,rfl⟩,fin,q⟩
end
section
variable {K:PySem.W.Frag} {g:TG} {tb:TS} {D:Ends} {σ:St} {H:Hp} {tl:TE} {ix:List (Option Nat)} {tt:TT} {te ta:TE} {k:Nat} {Q:VK}
theorem kg {r:V→Option Int→Option Int→Hp→VK→Prop} {a b:TO}:tSl r te a b σ H Q=te σ H fun x H1=>a σ H1 fun l H2=>b σ H2 fun u H3=>r x l u H3 Q:=rfl
theorem fg {R:Option Int→Hp→Prop}:tPart te σ H R=te σ H fun x H1=>∃ i,x=.int i∧R (some i) H1:=rfl
theorem cw {R:Option Int→Hp→Prop}:iY σ H R=R none H:=rfl
theorem fh {to ti:TE} {t:TSet} {v:V} {R:St→Hp→Prop}:gSub to ti t v σ H R=to σ H fun o H1=>ti σ H1 fun i H2=>t o i v H2 fun H3=>R σ H3:=rfl
theorem kh {r:V→Hp→VK→Prop}:tUn r te σ H Q=te σ H fun x H1=>r x H1 Q:=rfl
theorem fi:tFor (iStr tl) g tb D σ H=tl σ H fun x H1=>∃ z,x=.str z∧LoopR (Its z) g tb D σ H1:=rfl
theorem db:tComp ix (iStr tl) g tt te σ H Q=tl σ H fun x H1=>∃ z,x=.str z∧CompR (Its z) g tt te (fun l H'=>Q (.ref l) H') (subσ ix σ) H1:=rfl
theorem cx:sComp k ix (iStr tl) g tt te D σ H=tl σ H fun x H1=>∃ z,x=.str z∧CompR (Its z) g tt te (fun l H'=>D.nx (σ.set k (some (.ref l))) H') (subσ ix σ) H1:=rfl
theorem ze {x:Str}:tyV K "str" (.str x) H:=rfl
theorem io {i j:Str}:cEq K (.str i) (.str j) H Q=Q (.bl (decide (i=j))) H:=rfl
theorem ip {i j:Str}:cNe K (.str i) (.str j) H Q=Q (.bl (!decide (i=j))) H:=rfl
theorem fj {z:Str}:kLen [.str z] H Q=(z.length≤sizeLine∧Q (.int z.length) H):=rfl
theorem fk {i j:Str}:cAdd (.str i) (.str j) H Q=(i.length+j.length≤sizeLine∧Q (.str (i++j)) H):=rfl
theorem A3 {z:Str} {i:Int}:cIx (.str z) (.int i) H Q=(z.length≤sizeLine∧bnd (atI z.cps.toList i) fun c=>Q (.str ⟨#[c]⟩) H):=rfl
theorem fo {x y:Str}:kFind (.str x) [.str y] H Q=Q (.int (Txt.find x y)) H:=rfl
theorem zB {x y:Str}:o8 (.str x) [.str y] H Q=((y.length==0)=false∧x.length≤sizeLine∧(Txt.split x y).length≤sizeLine∧∀ l,H l=none→Q (.ref l) (upd H l (.lst ((Txt.split x y).map V.str)))):=rfl
theorem sw {p:Addr} {lo hi:Option Int} {xs:List V} (hp:H p=some (.lst xs)) (h:∀ l,H l=none→Q (.ref l) (upd H l (.lst (cutV xs lo hi)))):kT (.ref p) lo hi H Q:=by
 show bnd (unL (H p)) _
 rw [hp]
 exact h
end
end L2
namespace L2
open PySem PySem.Spec PyProof.Rows
def cBitI (g:Int→Int→Int):R2
 | .int i,.int j,H,Q=>Q (.int (g i j)) H
 | _,_,_,_=>False
def cShr:R2
 | .int i,.int j,H,Q=>0≤j∧Q (.int (i / 2^j.toNat)) H
 | _,_,_,_=>False
abbrev cAnd:R2:=cBitI Builtin.bitAnd
abbrev cOr:R2:=cBitI Builtin.bitOr
section
variable {X:Cx}
theorem sS {o:Operator} {g:Int→Int→Int} (h0:OpR X (binaryOp o) (rI0 fun i j=>.int (g i j))):OpR X (binaryOp o) (cBitI g):=by
 intro pins s σ H x y v u Q I rx ry h
 unfold cBitI at h
 split at h
 · exact h0 pins s σ H _ _ v u Q I rx ry ⟨_,_,rfl,rfl,h⟩
 · exact h.elim
theorem vk:OpR X (binaryOp .BitAnd) cAnd:=sS Ae
theorem Av:OpR X (binaryOp .BitOr) cOr:=sS AV
theorem zC:OpR X (binaryOp .RShift) cShr:=by
 intro pins s σ H x y v u Q I rx ry h
 unfold cShr at h
 split at h
 · exact Ad pins s σ H _ _ v u Q I rx ry ⟨_,_,rfl,rfl,h.1,h.2⟩
 · exact h.elim
end
section
variable {H:Hp} {Q:VK} {i j:Int}
theorem jA {g:Int→Int→Int}:cBitI g (.int i) (.int j) H Q=Q (.int (g i j)) H:=rfl
theorem kF:cShr (.int i) (.int j) H Q=(0≤j∧Q (.int (i / 2^j.toNat)) H):=rfl
end
end L2
namespace L2
open PySem PySem.Spec PyProof.Rows
section
variable {X:Cx}
def kInt:List V→Hp→VK→Prop
 | [.int i],H,Q=>Q (.int i) H
 | [.bl k],H,Q=>Q (.int (if k then 1 else 0)) H
 | _,_,_=>False
def lz:V→List V→Hp→VK→Prop
 | .int i,[],H,Q=>Q (.int (Builtin.Int.intBits i:Nat)) H
 | _,_,_,_=>False
theorem o9:MtR X "int.bit_length" lz:=by
 intro pins s σ H x vs v us Q I rx rv h
 unfold lz at h
 split at h
 · obtain ⟨t,rfl⟩:=rx
   cases rv
   exact call_int_bit_length ⟨.int _,H,I.tok _,⟨_,rfl⟩,h⟩
 · exact h.elim
def cRepL:R2
 | .ref l,.int k,H,Q=>bnd (unM (H l)) fun xs=> -(2^63)≤k∧k < 2^63∧xs.length*k.toNat≤sizeLine∧∀ p,H p=none→Q (.ref p) (upd H p (.lst (List.replicate k.toNat xs).flatten))
 | _,_,_,_=>False
theorem yD:OpR X (binaryOp .Mult) cRepL:=by
 intro pins s σ H x y v u Q I rx ry h
 unfold cRepL at h
 split at h
 · obtain ⟨xs,e,h1,h2,h3,q⟩:=aX h
   exact Am pins s σ H _ _ v u Q I rx ry ⟨_,_,xs,rfl,rfl,g7 e,h1,h2,h3,q⟩
 · exact h.elim
def kAll:List V→Hp→VK→Prop
 | [.ref p],H,Q=>bnd (unL (H p)) fun ys=>∃ bs:List Bool,ys=bs.map V.bl∧Q (.bl (bs.all id)) H
 | _,_,_=>False
theorem xx (bs:List Bool):(List.range bs.length).all (fun i=>bs.getD i false)=bs.all id:=by
 rw [Bool.eq_iff_iff,List.all_eq_true,List.all_eq_true]
 constructor
 · intro h b hb
   obtain ⟨i,hi,e⟩:=List.mem_iff_getElem.mp hb
   have:=h i (List.mem_range.mpr hi)
   rw [List.getD,List.getElem?_eq_getElem hi,e] at this
   exact this
 · intro h i hi
   have hi':i < bs.length:=List.mem_range.mp hi
   have:=h bs[i] (List.getElem_mem hi')
   simpa [List.getD,hi'] using this
theorem jB:bootBuiltins "all"=some (.builtin "all"):=by decide+kernel
theorem sU:bootBuiltins "sum"=some (.builtin "sum"):=by decide+kernel
theorem dn (hc:X.calm=true):CallR X (.builtin "all") kAll:=by
 intro pins s σ H xs us Q I r h
 unfold kAll at h
 split at h
 · rename_i p
   obtain ⟨ys,e,bs,rfl,q⟩:=aX h
   obtain ⟨u,rfl,ru⟩:=cL r
   cases ru
   obtain ⟨its,rv,pl,hz⟩:=I.list (mJ e)
   have hl:=rv.length
   rw [List.length_map] at hl
   have hlt:p < s.heap.objs.size:=by
    obtain ⟨o,h1,_⟩:=pl.isList
    exact Heap.lt_size h1
   refine call_all_walkS (wpAny_pyIter_list pl.isList ?_)
   refine ⟨s.heap.objs.size,_,_,_,its.toArray.size,_,_,fun i=>bs.getD i false,rfl,(Walks.list (A:=X.A.in1) (I.ok.hd hc) s.heap.objs.size p (Nat.ne_of_lt hlt) its.toArray).toS,⟨⟨_,Heap.get?_push_size _ rfl,rfl,rfl⟩,pl.isList.push _⟩,?_,fun s' hm=>?_⟩
   · intro i v s1 Q1 E1 hP hQ
     have hv:its[i]? =some v:=by simpa using hP
     obtain ⟨x,hx,rx⟩:=rv.get' hv
     obtain ⟨b,hb,rfl⟩:∃ b,bs[i]? =some b∧V.bl b=x:=by simpa using hx
     cases rx
     refine wpAny_truthy_bool ?_
     have e3:bs.getD i false=b:=by simp [List.getD,hb]
     rw [← e3]
     exact hQ
   · refine ⟨.bl _,H,I.walked (l:=p) hm,?_,q⟩
     have e2:its.toArray.size=bs.length:=by rw [List.size_toArray]; exact hl.symm
     rw [e2,xx]
     rfl
 · exact h.elim
def kSum:List V→Hp→VK→Prop
 | [.ref p],H,Q=>bnd (unL (H p)) fun ys=>∃ ns:List Int,ys=ns.map V.int∧(∀ x∈ns,0≤x∧x≤1000000)∧ns.length≤1000000∧Q (.int ns.sum) H
 | _,_,_=>False
theorem xy:∀ (ns:List Int),(∀ x∈ns,0≤x∧x≤1000000)→0≤ns.sum∧ns.sum≤1000000*ns.length
 | [],_=>by simp
 | n::r,h=>by
  have ih:=xy r fun x hx=>h x (List.mem_cons_of_mem _ hx)
  have h1:=h n List.mem_cons_self
  rw [List.sum_cons,List.length_cons]
  omega
theorem mO (hc:X.calm=true):CallR X (.builtin "sum") kSum:=by
 intro pins s σ H xs us Q I r h
 unfold kSum at h
 split at h
 · rename_i p
   obtain ⟨ys,e,ns,rfl,hb,hn,q⟩:=aX h
   obtain ⟨u,rfl,ru⟩:=cL r
   cases ru
   obtain ⟨its,rv,pl,hz⟩:=I.list (mJ e)
   have hl:=rv.length
   rw [List.length_map] at hl
   have hlt:p < s.heap.objs.size:=by
    obtain ⟨o,h1,_⟩:=pl.isList
    exact Heap.lt_size h1
   have e2:its.toArray.size=ns.length:=by rw [List.size_toArray]; exact hl.symm
   refine call_sum_walkS (wpAny_pyIter_list pl.isList ?_)
   refine ⟨s.heap.objs.size,_,_,_,its.toArray.size,_,_,fun i=>ns.getD i 0,rfl,(Walks.list (A:=X.A.in1) (I.ok.hd hc) s.heap.objs.size p (Nat.ne_of_lt hlt) its.toArray).toS,⟨⟨_,Heap.get?_push_size _ rfl,rfl,rfl⟩,pl.isList.push _⟩,?_,?_,?_,fun s' t' hm=>?_⟩
   · intro b hb'
     show b < (s.heap.push _).objs.size
     rw [Heap.size_push]
     simp only [List.mem_cons,List.not_mem_nil,or_false] at hb'
     rcases hb' with rfl | rfl
     · exact Nat.lt_succ_self _
     · exact Nat.lt_succ_of_lt hlt
   · intro i v hP
     have hv:its[i]? =some v:=by simpa using hP
     obtain ⟨x,hx,rx⟩:=rv.get' hv
     obtain ⟨b,hb',rfl⟩:∃ b,ns[i]? =some b∧V.int b=x:=by simpa using hx
     obtain ⟨t,rfl⟩:=rx
     exact ⟨t,by simp [List.getD,hb']⟩
   · intro j hj
     rw [e2] at hj
     refine ⟨?_,?_⟩
     · have:=hb ns[j] (List.getElem_mem hj)
       have e3:ns.getD j 0=ns[j]:=by simp [List.getD,hj]
       show InLong (ns.getD j 0)
       rw [e3]
       exact ⟨by omega,by omega⟩
     · rw [preSum_getD]
       have h1:=xy (ns.take (j+1)) fun x hx=>hb x (List.mem_of_mem_take hx)
       have h2:(ns.take (j+1)).length≤ns.length:=by rw [List.length_take]; omega
       exact ⟨by omega,by omega⟩
   · refine ⟨.int ns.sum,H,I.walked (l:=p) hm,⟨t',?_⟩,q⟩
     rw [e2,preSum_getD,List.take_length]
 · exact h.elim
def Itd (hi:Int) (n:Nat):It:=⟨fun i _=>i < n,fun i H x H'=>H'=H∧x=.int (hi - i),fun i _=>n≤i⟩
def iRngD (ta:TA):TI:=fun σ H R=>ta σ H fun vs H1=>∃ i j:Int,vs=[.int i,.int j,.int (-1)]∧(-(2^60)≤i∧i < 2^60∧ -(2^60)≤j∧j < 2^60)∧R (Itd i (i - j).toNat) H1
end
section
variable {K:PySem.W.Frag} {g:TG} {tb:TS} {D:Ends} {σ:St} {H:Hp} {ta:TA} {Q:VK}
theorem jC {k:Bool}:kInt [.bl k] H Q=Q (.int (if k then 1 else 0)) H:=rfl
theorem jD {i:Int}:kInt [.int i] H Q=Q (.int i) H:=rfl
theorem fq {i:Int}:lz (.int i) [] H Q=Q (.int (Builtin.Int.intBits i:Nat)) H:=rfl
theorem kG {p:Addr} {bs:List Bool} (hp:H p=some (.lst (bs.map V.bl))) (h:Q (.bl (bs.all id)) H):kAll [.ref p] H Q:=by
 show bnd (unL (H p)) _
 rw [hp]
 exact aV (a:=bs.map V.bl) rfl ⟨bs,rfl,h⟩
theorem vU {p:Addr} {ns:List Int} (hp:H p=some (.lst (ns.map V.int))) (hb:∀ x∈ns,0≤x∧x≤1000000) (hn:ns.length≤1000000) (h:Q (.int ns.sum) H):kSum [.ref p] H Q:=by
 show bnd (unL (H p)) _
 rw [hp]
 exact aV (a:=ns.map V.int) rfl ⟨ns,rfl,hb,hn,h⟩
theorem Aw {p:Addr} {xs:List V} {k:Int} (hp:H p=some (.lst xs)) (h0:0≤k) (h1:k≤1000) (hn:xs.length≤1) (h:∀ l,H l=none→Q (.ref l) (upd H l (.lst (List.replicate k.toNat xs).flatten))):cRepL (.ref p) (.int k) H Q:=by
 show bnd (unM (H p)) _
 rw [hp]
 refine aV (a:=xs) rfl ⟨by omega,by omega,?_,h⟩
 refine Nat.le_of_lt (aE (Nat.le_trans (Nat.mul_le_mul_right _ hn) ?_))
 omega
theorem gP:tFor (iRngD ta) g tb D σ H=ta σ H fun vs H1=>∃ i j:Int,vs=[.int i,.int j,.int (-1)]∧(-(2^60)≤i∧i < 2^60∧ -(2^60)≤j∧j < 2^60)∧LoopR (Itd i (i - j).toNat) g tb D σ H1:=rfl
end
end L2
namespace L2
open PySem PySem.Spec PyProof.Rows
section
variable {X:Cx}
def Ite (K:PySem.W.Frag) (a:Addr):It:=
 ⟨fun i H=>∃ xs x,SqL K H a xs∧xs[i]? =some x,
  fun i H v H'=>∃ T x,v=.ref T∧H T=none∧H'=upd H T (.tup [.int i,x])∧∀ xs,SqL K H a xs→xs[i]? =some x,
  fun i H=>∃ xs,SqL K H a xs∧xs.length≤i⟩
def ESt (a e it:Addr) (i:Nat) (h:Heap):Prop:=(∃ old,IsEnum h e it i old)∧h.IsListIter it a i
theorem xz {P:Program} {w:World} {K:PySem.W.Frag} {es:List Expr} {x1:Nat} {pos:Pos} (a e it:Addr):
  Turn P w K (.Tuple es x1 pos) (Ite K a) [e,it] e (ESt a e it) where
 mem:=by simp
 obj:=fun i h st c hc=>by
  obtain ⟨⟨old,he⟩,⟨o1,e1,c1,f1⟩⟩:=st
  simp only [List.mem_cons,List.not_mem_nil,or_false] at hc
  rcases hc with rfl | rfl
  · exact ⟨_,he,fun v z=>by have z':Data.fields _=Data.cell v:=z; cases z'⟩
  · exact ⟨_,e1,fun v z=>by rw [f1] at z; cases z⟩
 keep:=fun i h h' st k=>by
  obtain ⟨⟨old,he⟩,h1⟩:=st
  exact ⟨⟨old,k e (by simp) _ he⟩,h1.at fun o q=>k it (by simp) o q⟩
 item:=by
  intro X hP hw hK hc i pins s σ H E I hf st hg
  subst hP hw hK
  obtain ⟨xs,x,hq1,hx⟩:=hg
  obtain ⟨its1,rv1,p1,hz1⟩:=I.list hq1
  obtain ⟨u1,hu1,ru1⟩:=rv1.get hx
  obtain ⟨⟨old,he⟩,⟨o1,e1,c1,f1⟩⟩:=id st
  have hne:e≠it:=At he e1 rfl c1 (by decide)
  refine wpAny_pyNext_enum_item he ⟨o1,e1,c1,f1⟩ p1.isList (x:=u1) (by simpa using hu1) hne fun h' a1 a2 a3 a4 hk=>?_
  refine ⟨_,rfl,wpAny_letOwnedTupleGo_enum a1 fun h2 hz2 sb=>?_⟩
  have hT:H s.heap.objs.size=none:=I.fresh
  have lt:∀ {c o},s.heap.get? c=some o→c≠s.heap.objs.size:=fun e=>Nat.ne_of_lt (Heap.lt_size e)
  have kp:∀ c o,c∉[e,it]→s.heap.get? c=some o→h2.get? c=some o:=fun c o hc q=>by
   simp only [List.mem_cons,List.not_mem_nil,or_false,not_or] at hc
   exact sb.extBut _ _ hc.1 (hk c o hc.1 hc.2 q)
  have hTe:s.heap.objs.size≠e:=(lt he).symm
  have gT:h2.get? s.heap.objs.size=some { cls:=.type "tuple",data:=.seq #[.int i s.toks,u1] }:=sb.extBut _ _ hTe a3
  have nH:∀ c∈[e,it],H c=none:=fun c hc=>(hf c hc).1
  refine ⟨.ref s.heap.objs.size,upd H s.heap.objs.size (.tup [.int i,x]),I.call' (s':={ s with heap:=h2,toks:=s.toks+1 }) (ch:=[e,it]) rfl ⟨fun c o e n _ hx=>kp c o hx e,fun c o e n _ hx=>⟨o.slots,kp c o hx e⟩,fun c o e n _=>by rw [aj (lt e)]; exact n,fun c o e hx=>⟨o,kp c o hx e⟩,fun c xs e=>by rw [aj (az e hT)]; exact e,fun c o u e=>by rw [aj (az e hT)]; exact e,fun c ps e=>⟨#[],by rw [aj (az e hT),e]; simp⟩⟩ ?_ I.bare ?_,rfl,⟨_,x,rfl,hT,rfl,fun zs hz'=>by rw [I.list_inj hz' hq1]; exact hx⟩,?_,?_⟩
  · intro c ob e
    by_cases hb:c=s.heap.objs.size
    · subst hb
      rw [ag] at e
      cases e
      exact ⟨by show (2:Nat)≤sizeLine; exact Nat.le_of_lt (aE (by decide)),[.int i s.toks,u1],.cons ⟨_,rfl⟩ (.cons ru1 .nil),⟨_,gT,rfl,_,rfl⟩⟩
    · rw [aj hb] at e
      refine (I.hok c ob e).stay (fun d w' hd g=>kp d w' ?_ g) (fun d g=>by rw [aj (az g hT)]; exact g) fun d xs g=>by rw [aj (az g hT)]; exact g
      intro hm
      rcases hd with rfl | hd
      · rw [nH _ hm] at e; cases e
      · rw [nH _ hm] at hd; cases hd
  · intro c hc
    obtain ⟨f0,f1,f2,f3,f4,f5⟩:=hf c hc
    exact ⟨f3,f1,f4,f5⟩
  · exact ⟨⟨_,hz2⟩,a2.extBut sb.extBut hne.symm⟩
  · intro c hc
    obtain ⟨o,q⟩:∃ o,s.heap.get? c=some o:=by
     simp only [List.mem_cons,List.not_mem_nil,or_false] at hc
     rcases hc with rfl | rfl
     · exact ⟨_,he⟩
     · exact ⟨_,e1⟩
    rw [aj (lt q)]
    exact (hf c hc).1
 done:=by
  intro X hP hw hK hc i pins s σ H E I hf st hg
  subst hP hw hK
  obtain ⟨xs,hq1,hx⟩:=hg
  obtain ⟨its1,rv1,p1,hz1⟩:=I.list hq1
  have hl1:=rv1.length
  obtain ⟨⟨old,he⟩,⟨o1,e1,c1,f1⟩⟩:=id st
  have hend:its1.toArray[i]? =none:=by simp; omega
  obtain ⟨f0,f1',f2,f3,f4,f5⟩:=hf it (by simp)
  exact wpAny_pyNext_enum_end (I.ok.hd hc) he ⟨o1,e1,c1,f1⟩ p1.isList hend fun h' eb=>⟨rfl,I.turned (t':=s.toks) (fun b o hb e=>eb b o hb e) f0 f1' f3 f4 f5⟩
 self:=fun _ _ _ _ _ st h=>by
  obtain ⟨⟨old,he⟩,_⟩:=st
  exact wpAny_pyIter_enum he h
def iEnum (K:PySem.W.Frag) (ta:TA):TI:=fun σ H R=>ta σ H fun vs H1=>∃ a,vs=[.ref a]∧(∃ xs,SqL K H1 a xs)∧R (Ite K a) H1
theorem sV:bootBuiltins "enumerate"=some (.type "enumerate"):=by decide+kernel
theorem zD {es:List Expr} {x1:Nat} {tpos:Pos} {e1:Expr} {ta:TA} {p pos:Pos} (hg:Gl X "enumerate") (hm:X.mg "enumerate"=none) (ha:PA X [e1] ta) (hs:starEach [e1] X.env=[(false,eval e1 X.env)]:=by rfl):
  PI X (.Tuple es x1 tpos) (.Call (.Name "enumerate" p) [e1] [] pos) (iEnum X.K ta):=by
 intro pins s σ H R I h
 refine Call_ (gg I hg hm sV (PyProof.Rows.callWith_type1 (thn (ha pos pins s σ H _ I h) fun us s1 ⟨vs,H1,I1,r1,q1⟩=>?_) hs rfl))
 obtain ⟨a,rfl,⟨xs,hq1⟩,q⟩:=q1
 obtain ⟨u1,rfl,ru1⟩:=cL r1
 cases ru1
 obtain ⟨its1,rv1,p1,hz1⟩:=I1.list hq1
 refine call_enumerate_list p1.isList fun h' a1 a2 a3 hk=>?_
 refine wpAny_pyIter_enum a1 ?_
 have I2:Inv X pins σ H1 { s1 with heap:=h',toks:=s1.toks }:=I1.kept hk
 refine ⟨s1.heap.objs.size+1,[s1.heap.objs.size+1,s1.heap.objs.size],ESt a (s1.heap.objs.size+1) s1.heap.objs.size,Ite X.K a,H1,rfl,I2,xz a (s1.heap.objs.size+1) s1.heap.objs.size,⟨⟨_,a1⟩,a2⟩,fun c hc=>?_,q⟩
 have hge:s1.heap.objs.size≤c:=by
  simp only [List.mem_cons,List.not_mem_nil,or_false] at hc
  rcases hc with rfl | rfl <;> omega
 exact I1.fpOk hge (I1.hok.fresh hge)
end
section
variable {K:PySem.W.Frag} {g:TG} {tb:TS} {D:Ends} {σ:St} {H:Hp} {ta:TA} {Q:VK} {ix:List (Option Nat)} {tt:TT} {te:TE} {k:Nat}
theorem jE:tFor (iEnum K ta) g tb D σ H=ta σ H fun vs H1=>∃ a,vs=[.ref a]∧(∃ xs,SqL K H1 a xs)∧LoopR (Ite K a) g tb D σ H1:=rfl
theorem gQ:tComp ix (iEnum K ta) g tt te σ H Q=ta σ H fun vs H1=>∃ a,vs=[.ref a]∧(∃ xs,SqL K H1 a xs)∧CompR (Ite K a) g tt te (fun l H'=>Q (.ref l) H') (subσ ix σ) H1:=rfl
theorem ft:sComp k ix (iEnum K ta) g tt te D σ H=ta σ H fun vs H1=>∃ a,vs=[.ref a]∧(∃ xs,SqL K H1 a xs)∧CompR (Ite K a) g tt te (fun l H'=>D.nx (σ.set k (some (.ref l))) H') (subσ ix σ) H1:=rfl
theorem xA {a:Addr} {xs:List V} {fin:Addr→Hp→Prop} {σ0:St} {H1:Hp} (Pv:Addr→Nat→St→Hp→Prop) (h0:∀ l,H1 l=none→Pv l 0 σ0 (upd H1 l (.lst []))) (hq:∀ l i σ H,H1 l=none→i≤xs.length→Pv l i σ H→SqL K H a xs)
  (hs:∀ l i x T σ H,H1 l=none→xs[i]? =some x→Pv l i σ H→H T=none→g (.ref T) σ (upd H T (.tup [.int i,x])) fun σ2 H3=>tt σ2 H3 fun b H4=>if b=true then te σ2 H4 fun y H5=>∃ ys,H5 l=some (.lst ys)∧ys.length < sizeLine∧Pv l (i+1) σ2 (upd H5 l (.lst (ys++[y]))) else Pv l (i+1) σ2 H4)
  (hd:∀ l σ H,H1 l=none→Pv l xs.length σ H→fin l H):CompR (Ite K a) g tt te fin σ0 H1:=by
 intro l hl0
 refine ⟨fun i m σ H=>m=xs.length - i∧i≤xs.length∧Pv l i σ H,⟨xs.length,by simp,Nat.zero_le _,h0 l hl0⟩,?_⟩
 rintro i m σ H ⟨rfl,hi,p⟩
 have q:=hq l i σ H hl0 hi p
 by_cases hlt:i < xs.length
 · refine .inr ⟨⟨xs,xs[i],q,by simp [hlt]⟩,Pv l (i+1),fun σ' H' p'=>⟨xs.length - (i+1),by omega,rfl,hlt,p'⟩,fun v H' y=>?_⟩
   obtain ⟨T,x,rfl,hT,rfl,e⟩:=y
   exact hs l i x T σ _ hl0 (e xs q) p hT
 · have e:i=xs.length:=by omega
   subst e
   exact .inl ⟨⟨xs,q,Nat.le_refl _⟩,hd l σ H hl0 p⟩
theorem vV {a:Addr} {xs:List V} {fin:Addr→Hp→Prop} {σ0:St} {H1:Hp} {k1 k2:Nat} (b:Nat→Bool) (f:Nat→V) (hn:xs.length≤900) (hne:k1≠k2) (hq:SqL K H1 a xs)
  (ht:∀ (i:Nat) x H R,xs[i]? =some x→Same H1 H→(∀ H',Same H H'→R (b i) H')→tt ((σ0.set k1 (some (.int (i:Int)))).set k2 (some x)) H R)
  (he:∀ (i:Nat) x H Q,xs[i]? =some x→b i=true→Same H1 H→(∀ H',Same H H'→Q (f i) H')→te ((σ0.set k1 (some (.int (i:Int)))).set k2 (some x)) H Q)
  (hd:∀ l H,H1 l=none→Same H1 H→H l=some (.lst (((List.range xs.length).filter b).map f))→fin l H):
  CompR (Ite K a) (gTup K 2 (gCons (gName k1) (gCons (gName k2) gNil))) tt te fin σ0 H1:=by
 refine xA (xs:=xs) (fun l i σ H=>(σ=σ0∨∃ c1 c2,σ=(σ0.set k1 c1).set k2 c2)∧Same H1 H∧H l=some (.lst (((List.range i).filter b).map f))) (fun l hl=>⟨.inl rfl,fun b u e=>by rw [aj (az e hl)]; exact e,by rw [ag]; rfl⟩) (fun l i σ H _ _ p=>p.2.1.seq hq) ?_ (fun l σ H hl p=>hd l H hl p.2.1 p.2.2)
 rintro l i x T σ H hl hx ⟨hσ,s1,el⟩ hT
 have hi:i < xs.length:=(List.getElem?_eq_some_iff.mp hx).1
 have sT:Same H (upd H T (.tup [.int i,x])):=fun b u e=>by rw [aj (az e hT)]; exact e
 refine ⟨T,_,rfl,SqT.of ag,rfl,_,_,rfl,_,_,rfl,rfl,?_⟩
 have e:(σ.set k1 (some (.int i))).set k2 (some x)=(σ0.set k1 (some (.int i))).set k2 (some x):=by
  rcases hσ with rfl | ⟨c1,c2,rfl⟩
  · rfl
  · rw [List.set_comm _ _ (Ne.symm hne),List.set_set,List.set_set,List.set_comm _ _ hne]
 show tt ((σ.set k1 (some (.int i))).set k2 (some x)) _ _
 rw [e]
 refine ht i x _ _ hx (s1.trans sT) fun H2 s2=>?_
 have el2:=s2 _ _ (sT _ _ el)
 have s12:=(s1.trans sT).trans s2
 have own:∀ {H3:Hp} {o:HO},Same H1 H3→Same H1 (upd H3 l o):=fun s b u e=>by rw [aj (az e hl)]; exact s b u e
 have hlen:∀ i,i≤900→(((List.range i).filter b).map f).length < sizeLine:=fun i hi=>by
  rw [List.length_map]
  refine aE (Nat.le_trans (List.length_filter_le b _) ?_)
  rw [List.length_range]
  omega
 cases hb:b i with
 | false=>
  rw [if_neg Bool.false_ne_true]
  refine ⟨.inr ⟨_,_,rfl⟩,s12,?_⟩
  rw [List.range_succ,List.filter_append,List.filter_cons,hb]
  simpa using el2
 | true=>
  rw [if_pos rfl]
  refine he i x H2 _ hx hb s12 fun H3 s3=>⟨_,s3 _ _ el2,hlen i (by omega),.inr ⟨_,_,rfl⟩,own (s12.trans s3),?_⟩
  rw [ag,List.range_succ,List.filter_append,List.filter_cons,hb]
  simp
end
end L2
namespace L2
open PySem PySem.Spec PyProof.Rows
end L2
namespace L2
open PySem PySem.Spec PyProof.Rows
end L2
namespace L2
open PySem PySem.Spec PyProof.Rows
def rngL (i j:Int):List Int:=(List.range (j - i).toNat).map fun (k:Nat)=>i+(k:Int)
theorem lL (i j:Int):(rngL i j).length=(j - i).toNat:=by unfold rngL; simp
theorem nX:∀ {xs:List V} {us:List Value},xs.length=us.length→(∀ (i:Nat) x u,xs[i]? =some x→us[i]? =some u→RelV x u)→Vals xs us
 | [],[],_,_=>.nil
 | [],_::_,h,_=>by simp at h
 | _::_,[],h,_=>by simp at h
 | x::xs,u::us,h,f=>.cons (f 0 x u rfl rfl) (nX (by simpa using h) fun i y e h1 h2=>f (i+1) y e (by simpa using h1) (by simpa using h2))
theorem yE {i j:Int} {acc:Array Value} (h:ItemsOf (fun k v=>∃ t,v=.int (i+k*1) t) acc (j - i).toNat):Vals ((rngL i j).map V.int) acc.toList:=by
 refine nX (by rw [List.length_map,lL,Array.length_toList]; exact h.1.symm) fun k x u hx hu=>?_
 obtain ⟨t,rfl⟩:=h.2 k u (by simpa using hu)
 unfold rngL at hx
 rw [List.map_map,List.getElem?_map] at hx
 by_cases hk:k < (j - i).toNat
 · rw [List.getElem?_range hk] at hx
   cases hx
   exact ⟨t,by rw [Int.mul_one]⟩
 · rw [List.getElem?_eq_none (by simpa using hk)] at hx
   cases hx
section
variable {X:Cx}
def kH (ta:TA):TE:=fun σ H Q=>ta σ H fun vs H1=>∃ j:Int,vs=[.int j]∧ -(2^60)≤j∧j≤1000∧∀ l,H1 l=none→Q (.ref l) (upd H1 l (.lst ((rngL 0 j).map V.int)))
def xB (ta:TA):TE:=fun σ H Q=>ta σ H fun vs H1=>∃ i j:Int,vs=[.int i,.int j]∧(0≤i∧i≤1000∧ -(2^60)≤j∧j≤1000)∧∀ l,H1 l=none→Q (.ref l) (upd H1 l (.lst ((rngL i j).map V.int)))
theorem yF {pins:List (Addr × Obj)} {σ:St} {H1:Hp} {s1:Shared} {Q:VK} {i j:Int} {t u v:Tok} {tk:Nat} {A:Around} {E:Value→Shared→Prop} (hh:A.handled=none) (I1:Inv X pins σ H1 s1) (h1:0≤i) (h2:i≤1000) (h3: -(2^60)≤j) (h4:j≤1000)
  (q:∀ l,H1 l=none→Q (.ref l) (upd H1 l (.lst ((rngL i j).map V.int)))):
  wpAny (model X.prog X.w) A (call (.type "list") [.ref s1.heap.objs.size]) (EP X pins σ Q) E { s1 with heap:=s1.heap.push { cls:=.type "range",data:=.fields #[.int i t,.int j u,.int 1 v] },toks:=tk }:=by
 have I2:Inv X pins σ H1 { s1 with heap:=s1.heap.push { cls:=.type "range",data:=.fields #[.int i t,.int j u,.int 1 v] },toks:=tk }:=I1.kept fun b o e=>Heap.get?_push_of_some _ e
 refine call_list_range (n:=(j - i).toNat) hh (IsRange.new ..) (small_one (by omega) (by omega) (by omega) (by omega)) (by rw [rangeSize_one]; split <;> omega) (by omega) fun h' tk' acc' c' old hS' hacc=>?_
 have hlen:((rngL i j).map V.int).length≤sizeLine:=by rw [List.length_map,lL]; exact Nat.le_of_lt (aE (by omega))
 exact ⟨.ref _,_,I2.laid (t':=tk') (o:=.lst ((rngL i j).map V.int)) old (Nat.le_refl _) ⟨hlen,acc'.toList,c',yE hacc,hS'⟩,rfl,q _ (I2.hok.fresh (Nat.le_refl _))⟩
theorem nY {a:Expr} {ta:TA} {p p2 pos pos2:Pos} (hc:X.calm=true) (hgl:Gl X "list") (hgr:Gl X "range") (hl:X.mg "list"=none) (hr:X.mg "range"=none) (ha:PA X [a] ta)
  (hs1:starEach [.Call (.Name "range" p2) [a] [] pos2] X.env=[(false,eval (.Call (.Name "range" p2) [a] [] pos2) X.env)]:=by rfl) (hs:starEach [a] X.env=[(false,eval a X.env)]:=by rfl):
  PE X (.Call (.Name "list" p) [.Call (.Name "range" p2) [a] [] pos2] [] pos) (kH ta):=by
 intro pins s σ H Q I h
 refine wpAny_Call_Name_kw (gg I hgl hl i4 ?_ (by decide) (by decide))
 refine PyProof.Rows.callWith_type1 ?_ hs1 rfl
 rw [hs1]
 show wpAny _ _ (spliced [(false,eval (.Call (.Name "range" p2) [a] [] pos2) X.env)]) _ _ s
 refine Calls.spliced_cons ?_
 refine Call_ (gg I hgr hr boot_range (PyProof.Rows.callWith_type1 (thn (ha pos2 pins s σ H _ I h) fun us s1 ⟨vs,H1,I1,r1,q1⟩=>?_) hs rfl))
 obtain ⟨j,e,q1,q2,q⟩:=q1
 subst e
 cases r1 with
 | cons r rr=>
  cases rr
  obtain ⟨t,rfl⟩:=r
  refine call_range_1 ?_
  refine Calls.spliced_nil ?_
  exact yF (I.ok.hd hc) I1 (by omega) (by omega) q1 q2 q
end
section
variable {σ:St} {H:Hp} {Q:VK} {ta:TA}
theorem gR:kH ta σ H Q=ta σ H fun vs H1=>∃ j:Int,vs=[.int j]∧ -(2^60)≤j∧j≤1000∧∀ l,H1 l=none→Q (.ref l) (upd H1 l (.lst ((rngL 0 j).map V.int))):=rfl
theorem gS:xB ta σ H Q=ta σ H fun vs H1=>∃ i j:Int,vs=[.int i,.int j]∧(0≤i∧i≤1000∧ -(2^60)≤j∧j≤1000)∧∀ l,H1 l=none→Q (.ref l) (upd H1 l (.lst ((rngL i j).map V.int))):=rfl
end
end L2
namespace L2
def besL (h w c:Int):List Int:=(if 0 < c / w then [c - w] else [])++(if 0 < c % w then [c - 1] else [])++(if c % w < w - 1 then [c+1] else [])++(if c / w < h - 1 then [c+w] else [])
inductive RC (h w:Int) (cs:List Int) (st:Int):Int→Prop
 | start:st∈cs→RC h w cs st st
 | step {x y:Int}:RC h w cs st x→y∈besL h w x→y∈cs→RC h w cs st y
theorem RC.mem {h w:Int} {cs:List Int} {st x:Int} (r:RC h w cs st x):x∈cs:=by cases r <;> assumption
theorem RC.st {h w:Int} {cs:List Int} {st x:Int} (r:RC h w cs st x):st∈cs:=by
 induction r with
 | start h=>exact h
 | step _ _ _ ih=>exact ih
theorem lM:∀ {xs ys:List Int},xs.Nodup→(∀ x∈xs,x∈ys)→xs.length≤ys.length
 | [],_,_,_=>Nat.zero_le _
 | x::xs,ys,nd,h=>by
  have hx:=h x List.mem_cons_self
  have nd':=List.nodup_cons.mp nd
  have ih:=lM (xs:=xs) (ys:=ys.erase x) nd'.2 fun y hy=>by
   have ne:y≠x:=fun e=>nd'.1 (e ▸ hy)
   exact (List.mem_erase_of_ne ne).mpr (h y (List.mem_cons_of_mem _ hy))
  rw [List.length_erase_of_mem hx] at ih
  have:0 < ys.length:=List.length_pos_of_mem hx
  simp only [List.length_cons]
  omega
structure BI (h w:Int) (cs:List Int) (st:Int) (fs:List Int) (pl:Nat):Prop where
 nd:fs.Nodup
 rc:∀ x∈fs,RC h w cs st x
 hst:st∈fs
 le:pl≤fs.length
 cl:∀ (i:Nat) (x y:Int),i < pl→fs[i]? =some x→y∈besL h w x→y∈cs→y∈fs
theorem BI.len {h w:Int} {cs:List Int} {st:Int} {fs:List Int} {pl:Nat} (b:BI h w cs st fs pl):fs.length≤cs.length:=lM b.nd fun x hx=>(b.rc x hx).mem
theorem BI.start {h w:Int} {cs:List Int} {st:Int} (hs:st∈cs):BI h w cs st [st] 0:=
 ⟨by simp,fun x hx=>by rw [List.mem_singleton.mp hx]; exact .start hs,by simp,Nat.zero_le _,fun i x y hi=>absurd hi (Nat.not_lt_zero _)⟩
theorem BI.done {h w:Int} {cs:List Int} {st:Int} {fs:List Int} {pl:Nat} (b:BI h w cs st fs pl) (e:¬ pl < fs.length) (x:Int):x∈fs↔RC h w cs st x:=by
 refine ⟨b.rc x,fun r=>?_⟩
 induction r with
 | start _=>exact b.hst
 | step r hy hc ih=>
  obtain ⟨i,hi⟩:=List.getElem?_of_mem ih
  have hlt:i < fs.length:=(List.getElem?_eq_some_iff.mp hi).1
  exact b.cl i _ _ (by omega) hi hy hc
def addC (cs fs:List Int) (y:Int):List Int:=if y∈cs∧¬ y∈fs then fs++[y] else fs
structure BJ (h w:Int) (cs:List Int) (st:Int) (f0:List Int) (pl:Nat) (bs:List Int) (fs:List Int):Prop where
 nd:fs.Nodup
 rc:∀ x∈fs,RC h w cs st x
 pre:f0 <+:fs
 al:∀ y∈bs,y∈cs→y∈fs
theorem BJ.zero {h w:Int} {cs:List Int} {st:Int} {fs:List Int} {pl:Nat} (b:BI h w cs st fs pl):BJ h w cs st fs pl [] fs:=⟨b.nd,b.rc,List.prefix_refl _,fun y hy=>nomatch hy⟩
theorem BJ.more {h w:Int} {cs:List Int} {st:Int} {f0 fs bs:List Int} {pl:Nat} {x y:Int} (j:BJ h w cs st f0 pl bs fs) (hx:RC h w cs st x) (hy:y∈besL h w x):BJ h w cs st f0 pl (bs++[y]) (addC cs fs y):=by
 unfold addC
 split
 · rename_i hc
   refine ⟨?_,fun z hz=>?_,j.pre.trans (List.prefix_append _ _),fun z hz hzc=>?_⟩
   · refine List.nodup_append.mpr ⟨j.nd,by simp,fun a ha b hb=>?_⟩
     rw [List.mem_singleton.mp hb]
     intro e
     exact hc.2 (e ▸ ha)
   · rcases List.mem_append.mp hz with hz | hz
     · exact j.rc z hz
     · rw [List.mem_singleton.mp hz]
       exact .step hx hy hc.1
   · rcases List.mem_append.mp hz with hz | hz
     · exact List.mem_append_left _ (j.al z hz hzc)
     · rw [List.mem_singleton.mp hz]
       simp
 · rename_i hc
   refine ⟨j.nd,j.rc,j.pre,fun z hz hzc=>?_⟩
   rcases List.mem_append.mp hz with hz | hz
   · exact j.al z hz hzc
   · rw [List.mem_singleton.mp hz] at hzc ⊢
     exact Decidable.byContradiction fun n=>hc ⟨hzc,n⟩
theorem BJ.done {h w:Int} {cs:List Int} {st:Int} {f0 fs:List Int} {pl:Nat} {x:Int} (b:BI h w cs st f0 pl) (hx:f0[pl]? =some x) (j:BJ h w cs st f0 pl (besL h w x) fs):BI h w cs st fs (pl+1):=by
 have hlt:pl < f0.length:=(List.getElem?_eq_some_iff.mp hx).1
 have hle:=j.pre.length_le
 have get:∀ i,i < f0.length→fs[i]? =f0[i]? :=fun i hi=>by
  obtain ⟨t,e⟩:=j.pre
  rw [← e,List.getElem?_append_left hi]
 refine ⟨j.nd,j.rc,j.pre.subset b.hst,by omega,fun i z y hi hz hy hc=>?_⟩
 rw [get i (by omega)] at hz
 by_cases e:i < pl
 · exact j.pre.subset (b.cl i z y e hz hy hc)
 · have:i=pl:=by omega
   subst this
   rw [hx] at hz
   cases hz
   exact j.al y hy hc
theorem xC {rs fs:List Int} (p:rs.Perm fs) (s:rs.Pairwise (· ≤·)) (nd:fs.Nodup):rs.Pairwise (· < ·):=by
 have nd':rs.Nodup:=p.nodup_iff.mpr nd
 refine (s.and nd').imp ?_
 intro a b h
 have:=h.1
 have:=h.2
 omega
theorem pb:∀ {xs ys:List Int},xs.Pairwise (· < ·)→ys.Pairwise (· < ·)→(∀ z,z∈xs↔z∈ys)→xs=ys
 | [],[],_,_,_=>rfl
 | [],y::ys,_,_,h=>absurd ((h y).mpr List.mem_cons_self) (fun q=>nomatch q)
 | x::xs,[],_,_,h=>absurd ((h x).mp List.mem_cons_self) (fun q=>nomatch q)
 | x::xs,y::ys,hx,hy,h=>by
  have hx':=List.pairwise_cons.mp hx
  have hy':=List.pairwise_cons.mp hy
  have e:x=y:=by
   rcases List.mem_cons.mp ((h x).mp List.mem_cons_self) with e | m1
   · exact e
   · rcases List.mem_cons.mp ((h y).mpr List.mem_cons_self) with e | m2
     · exact e.symm
     · have:=hy'.1 x m1
       have:=hx'.1 y m2
       omega
  subst e
  refine congrArg (x::·) (pb hx'.2 hy'.2 fun z=>⟨fun m=>?_,fun m=>?_⟩)
  · rcases List.mem_cons.mp ((h z).mp (List.mem_cons_of_mem _ m)) with e | q
    · have:=hx'.1 z m; omega
    · exact q
  · rcases List.mem_cons.mp ((h z).mpr (List.mem_cons_of_mem _ m)) with e | q
    · have:=hy'.1 z m; omega
    · exact q
end L2
namespace L2
open PySem PySem.Spec PyProof.Rows
local macro_rules | `(tactic| walk_at "w")=>`(tactic| (first | simp only [aQ,dN,dw,bi,gl,w_c,g8,dy,e7,dO,e8,w_b,w_not,g9,ke,e9,fb,hE,gm,cN,jK,dP,hJ,gn,jL,hV,dQ,fc,fe,ff,c9,da,cC,cr,cu,bS,hX,h9,ia,ib,ic,ie,ig,ii,ij,ik,il,im,kg,fg,cw,fh,kh,fi,db,cx,io,ip,fj,fk,fo,
 List.getElem?_cons_zero,List.getElem?_cons_succ,Option.some.injEq,exists_eq_left',exists_eq_left,List.set_cons_zero,List.set_cons_succ,b4,V.int.injEq,V.bl.injEq,V.ref.injEq,V.str.injEq,List.append_nil,List.nil_append,List.cons_append] | dsimp only | skip))
theorem aK {n:Nat} (h:n≤1000):n≤sizeLine:=Nat.le_of_lt (aE h)
def IsFl (H:Hp) (a:Addr) (h w g:Int):Prop:=H a=some (.tup [.int h,.int w,.int g])
theorem Same.laid {H H':Hp} {p:Addr} {o:HO} (s:Same H H') (h:H' p=none):Same H (upd H' p o):=fun b u e=>by
 rw [aj (az (s b u e) h)]
 exact s b u e
theorem Same.own {H H':Hp} {p:Addr} {o:HO} (s:Same H H') (h:H p=none):Same H (upd H' p o):=fun b u e=>by
 rw [aj (az e h)]
 exact s b u e
theorem i5 {l:List Int} {i:Nat} {x:Int} (h:l[i]? =some x):l.getD i 0=x:=by
 rw [List.getD,h]; rfl
theorem oh {ns:List Int} {k:Int} (h0:0≤k) (h1:k < ns.length):atI (ns.map V.int) k=some (.int (ns.getD k.toNat 0)):=by
 have e:((k.toNat:Nat):Int)=k:=Int.toNat_of_nonneg h0
 have hlt:k.toNat < ns.length:=by omega
 have:(ns.map V.int)[k.toNat]? =some (.int (ns.getD k.toNat 0)):=by
  rw [List.getElem?_map,List.getElem?_eq_getElem hlt]
  simp [List.getD,hlt]
 have q:=fL this
 rw [e] at q
 exact q
theorem bf {α:Type} (l:List α):l.filter (fun _=>true)=l:=List.filter_eq_self.mpr fun _ _=>rfl
theorem bz {l:List Int} {i:Nat} {y:V} (h:(l.map V.int)[i]? =some y):∃ z,l[i]? =some z∧y=.int z:=by
 rw [List.getElem?_map] at h
 cases e:l[i]? with
 | none=>rw [e] at h; cases h
 | some z=>rw [e] at h; cases h; exact ⟨z,rfl,rfl⟩
theorem kU {l:List Addr} {i:Nat} {y:V} (h:(l.map V.ref)[i]? =some y):∃ z,l[i]? =some z∧y=.ref z:=by
 rw [List.getElem?_map] at h
 cases e:l[i]? with
 | none=>rw [e] at h; cases h
 | some z=>rw [e] at h; cases h; exact ⟨z,rfl,rfl⟩
theorem mP {h w:Int} (h0:1≤h) (h1:h≤6):CMul h w:=.inl ⟨by omega,by omega⟩
theorem ki {ps:List Addr} {k:Int} {p:Addr} (h0:0≤k) (h:ps[k.toNat]? =some p):atI (ps.map V.ref) k=some (.ref p):=by
 have e:((k.toNat:Nat):Int)=k:=Int.toNat_of_nonneg h0
 have q0:(ps.map V.ref)[k.toNat]? =some (.ref p):=by rw [List.getElem?_map,h]; rfl
 have q:=fL q0
 rw [e] at q
 exact q
section
variable {k:Nat} {lo:Int} {n:Nat} {tt:TT} {te:TE} {fin:Addr→Hp→Prop} {σ0:St} {H1:Hp} {K:PySem.W.Frag} {a:Addr}
theorem kj {n i:Nat} (b:Nat→Bool) (h:i < n) (hn:n≤900):((List.range i).filter b).length≤900:=by
 have:=List.length_filter_le b (List.range i)
 rw [List.length_range] at this
 omega
theorem nZ (b:Nat→Bool) (f:Nat→V) (hn:n≤900)
  (ht:∀ i H R,i < n→Same H1 H→(∀ H',Same H H'→R (b i) H')→tt (σ0.set k (some (.int (lo+i)))) H R)
  (he:∀ i H Q,i < n→b i=true→Same H1 H→(∀ H',Same H H'→Q (f i) H')→te (σ0.set k (some (.int (lo+i)))) H Q)
  (hd:∀ l H,H1 l=none→Same H1 H→H l=some (.lst (((List.range n).filter b).map f))→fin l H):
  CompR (Itr lo n) (gName k) tt te fin σ0 H1:=by
 refine lK (fun l i σ H=>(σ=σ0∨∃ cv,σ=σ0.set k cv)∧Same H1 H∧H l=some (.lst (((List.range i).filter b).map f))) (fun l hl=>⟨.inl rfl,(Same.refl H1).laid hl,by rw [ag]; rfl⟩) ?_ (fun l σ H hl p=>hd l H hl p.2.1 p.2.2)
 rintro l i σ H hl hi ⟨hσ,s1,el⟩
 rw [bi]
 have e:σ.set k (some (.int (lo+i)))=σ0.set k (some (.int (lo+i))):=by
  rcases hσ with rfl | ⟨cv,rfl⟩
  · rfl
  · exact List.set_set ..
 rw [e]
 refine ht i H _ hi s1 fun H2 s2=>?_
 have el2:=s2 _ _ el
 cases hb:b i with
 | false=>
  rw [if_neg Bool.false_ne_true]
  refine ⟨.inr ⟨_,rfl⟩,s1.trans s2,?_⟩
  rw [List.range_succ,List.filter_append,List.filter_cons,hb]
  simpa using el2
 | true=>
  rw [if_pos rfl]
  refine he i H2 _ hi hb (s1.trans s2) fun H3 s3=>⟨_,s3 _ _ el2,by rw [List.length_map]; exact aE (Nat.le_trans (kj b hi hn) (by decide)),.inr ⟨_,rfl⟩,((s1.trans s2).trans s3).own hl,?_⟩
  rw [ag,List.range_succ,List.filter_append,List.filter_cons,hb]
  simp
theorem b9 {xs:List V} (b:Nat→Bool) (f:Nat→V) (hn:xs.length≤900) (hq:SqL K H1 a xs)
  (ht:∀ i x H R,xs[i]? =some x→Same H1 H→(∀ H',Same H H'→R (b i) H')→tt (σ0.set k (some x)) H R)
  (he:∀ i x H Q,xs[i]? =some x→b i=true→Same H1 H→(∀ H',Same H H'→Q (f i) H')→te (σ0.set k (some x)) H Q)
  (hd:∀ l H,H1 l=none→Same H1 H→H l=some (.lst (((List.range xs.length).filter b).map f))→fin l H):
  CompR (Itl K a) (gName k) tt te fin σ0 H1:=by
 refine mL (xs:=xs) (fun l i σ H=>(σ=σ0∨∃ cv,σ=σ0.set k cv)∧Same H1 H∧H l=some (.lst (((List.range i).filter b).map f))) (fun l hl=>⟨.inl rfl,(Same.refl H1).laid hl,by rw [ag]; rfl⟩) (fun l i σ H _ _ p=>p.2.1.seq hq) ?_ (fun l σ H hl p=>hd l H hl p.2.1 p.2.2)
 rintro l i x σ H hl hx ⟨hσ,s1,el⟩
 have hi:i < xs.length:=(List.getElem?_eq_some_iff.mp hx).1
 rw [bi]
 have e:σ.set k (some x)=σ0.set k (some x):=by
  rcases hσ with rfl | ⟨cv,rfl⟩
  · rfl
  · exact List.set_set ..
 rw [e]
 refine ht i x H _ hx s1 fun H2 s2=>?_
 have el2:=s2 _ _ el
 cases hb:b i with
 | false=>
  rw [if_neg Bool.false_ne_true]
  refine ⟨.inr ⟨_,rfl⟩,s1.trans s2,?_⟩
  rw [List.range_succ,List.filter_append,List.filter_cons,hb]
  simpa using el2
 | true=>
  rw [if_pos rfl]
  refine he i x H2 _ hx hb (s1.trans s2) fun H3 s3=>⟨_,s3 _ _ el2,by rw [List.length_map]; exact aE (Nat.le_trans (kj b hi hn) (by decide)),.inr ⟨_,rfl⟩,((s1.trans s2).trans s3).own hl,?_⟩
  rw [ag,List.range_succ,List.filter_append,List.filter_cons,hb]
  simp
theorem kW (b:Nat→Bool) (f:Nat→Int) (hn:n≤900)
  (ht:∀ i H R,i < n→Same H1 H→(∀ H',Same H H'→R (b i) H')→tt (σ0.set k (some (.int (lo+i)))) H R)
  (he:∀ i H Q,i < n→b i=true→Same H1 H→(∀ H',Same H H'→Q (.int (f i)) H')→te (σ0.set k (some (.int (lo+i)))) H Q)
  (hd:∀ l H,H1 l=none→Same H1 H→H l=some (.lst ((((List.range n).filter b).map f).map V.int))→fin l H):
  CompR (Itr lo n) (gName k) tt te fin σ0 H1:=
 nZ b (fun i=>.int (f i)) hn ht he fun l H hl s1 el=>hd l H hl s1 (by rw [List.map_map]; exact el)
theorem xD (b:Int→Bool) (f:Int→Int) (xs:List Int):((List.range xs.length).filter fun i=>b (xs.getD i 0)).map (fun i=>V.int (f (xs.getD i 0)))=((xs.filter b).map f).map V.int:=by
 have e:xs=(List.range xs.length).map fun i=>xs.getD i 0:=by
  refine List.ext_getElem? fun i=>?_
  rw [List.getElem?_map]
  by_cases h:i < xs.length
  · rw [List.getElem?_range h,List.getElem?_eq_getElem h]
    simp [List.getD,h]
  · rw [List.getElem?_eq_none (by omega),List.getElem?_eq_none (by simpa using h)]; rfl
 conv=>rhs; rw [e]
 rw [List.filter_map,List.map_map,List.map_map]
 rfl
theorem dz {xs:List Int} (b:Int→Bool) (f:Int→Int) (hn:xs.length≤900) (hq:SqL K H1 a (xs.map V.int))
  (ht:∀ x H R,x∈xs→Same H1 H→(∀ H',Same H H'→R (b x) H')→tt (σ0.set k (some (.int x))) H R)
  (he:∀ x H Q,x∈xs→b x=true→Same H1 H→(∀ H',Same H H'→Q (.int (f x)) H')→te (σ0.set k (some (.int x))) H Q)
  (hd:∀ l H,H1 l=none→Same H1 H→H l=some (.lst (((xs.filter b).map f).map V.int))→fin l H):
  CompR (Itl K a) (gName k) tt te fin σ0 H1:=by
 refine b9 (xs:=xs.map V.int) (fun i=>b (xs.getD i 0)) (fun i=>.int (f (xs.getD i 0))) (by rw [List.length_map]; exact hn) hq ?_ ?_ ?_
 · intro i x H R hx s1 h
   obtain ⟨z,hz,rfl⟩:=bz hx
   rw [i5 hz] at h
   exact ht z H R (List.mem_of_getElem? hz) s1 h
 · intro i x H Q hx hb s1 h
   obtain ⟨z,hz,rfl⟩:=bz hx
   rw [i5 hz] at h hb
   exact he z H Q (List.mem_of_getElem? hz) hb s1 h
 · intro l H hl s1 el
   refine hd l H hl s1 ?_
   rw [List.length_map] at el
   rw [el,xD]
structure NewAt (H1 H:Hp) (l:Addr) (as:List Addr) (os:List HO):Prop where
 len:as.length=os.length
 nd:as.Nodup
 nl:l∉as
 fr:∀ a∈as,H1 a=none
 at_:∀ (j:Nat) (a:Addr) (o:HO),as[j]? =some a→os[j]? =some o→H a=some o
theorem NewAt.nil {H1 H:Hp} {l:Addr}:NewAt H1 H l [] [] where
 len:=rfl
 nd:=List.nodup_nil
 nl:=by simp
 fr:=fun a h=>nomatch h
 at_:=fun j a o h=>by simp at h
theorem NewAt.same {H1 H H':Hp} {l:Addr} {as:List Addr} {os:List HO} (x:NewAt H1 H l as os) (s:Same H H'):NewAt H1 H' l as os:=
 ⟨x.len,x.nd,x.nl,x.fr,fun j a o h1 h2=>s _ _ (x.at_ j a o h1 h2)⟩
theorem NewAt.mem {H1 H:Hp} {l:Addr} {as:List Addr} {os:List HO} (x:NewAt H1 H l as os) {a:Addr} (h:a∈as):∃ o,H a=some o:=by
 obtain ⟨j,hj,e⟩:=List.mem_iff_getElem.mp h
 have hj2:j < os.length:=by rw [← x.len]; exact hj
 exact ⟨os[j],x.at_ j a os[j] (by rw [List.getElem?_eq_getElem hj,e]) (List.getElem?_eq_getElem hj2)⟩
theorem NewAt.more {H1 H H2:Hp} {l p:Addr} {as:List Addr} {os:List HO} {o u:HO} (x:NewAt H1 H l as os) (s1:Same H1 H) (s:Same H H2) (hp:H p=none) (e:H2 p=some o) (hl:H l=some u) (o':HO):NewAt H1 (upd H2 l o') l (as++[p]) (os++[o]):=by
 have npl:p≠l:=fun z=>by rw [z,hl] at hp; cases hp
 refine ⟨by simp [x.len],?_,?_,?_,?_⟩
 · refine List.nodup_append.mpr ⟨x.nd,by simp,fun a ha b hb z=>?_⟩
   rw [List.mem_singleton.mp hb] at z
   obtain ⟨o2,e2⟩:=x.mem ha
   rw [z,hp] at e2; cases e2
 · intro hm
   rcases List.mem_append.mp hm with hm | hm
   · exact x.nl hm
   · exact npl (List.mem_singleton.mp hm).symm
 · intro a ha
   rcases List.mem_append.mp ha with ha | ha
   · exact x.fr a ha
   · rw [List.mem_singleton.mp ha]
     cases q:H1 p with
     | none=>rfl
     | some v=>rw [s1 _ _ q] at hp; cases hp
 · intro j a o2 h1 h2
   have hlen:=x.len
   by_cases hj:j < as.length
   · rw [List.getElem?_append_left hj] at h1
     rw [List.getElem?_append_left (by omega)] at h2
     have nal:a≠l:=fun z=>x.nl (z ▸ List.mem_of_getElem? h1)
     rw [aj nal]
     exact s _ _ (x.at_ j a o2 h1 h2)
   · rw [List.getElem?_append_right (by omega)] at h1
     rw [List.getElem?_append_right (by omega)] at h2
     have e0:j - as.length=0:=by
      have:=(List.getElem?_eq_some_iff.mp h1).1
      simp at this
      omega
     rw [e0] at h1
     rw [show j - os.length=0 by omega] at h2
     simp at h1 h2
     subst h1 h2
     rw [aj npl]
     exact e
theorem uC (b:Nat→Bool) (o:Nat→HO) (hn:n≤900)
  (ht:∀ i H R,i < n→Same H1 H→(∀ H',Same H H'→R (b i) H')→tt (σ0.set k (some (.int (lo+i)))) H R)
  (he:∀ i H Q,i < n→b i=true→Same H1 H→(∀ a H',Same H H'→H a=none→H' a=some (o i)→Q (.ref a) H')→te (σ0.set k (some (.int (lo+i)))) H Q)
  (hd:∀ l as H,H1 l=none→Same H1 H→H l=some (.lst (as.map V.ref))→NewAt H1 H l as (((List.range n).filter b).map o)→fin l H):
  CompR (Itr lo n) (gName k) tt te fin σ0 H1:=by
 refine lK (fun l i σ H=>(σ=σ0∨∃ cv,σ=σ0.set k cv)∧Same H1 H∧∃ as:List Addr,H l=some (.lst (as.map V.ref))∧NewAt H1 H l as (((List.range i).filter b).map o)) (fun l hl=>⟨.inl rfl,(Same.refl H1).laid hl,[],by rw [ag]; rfl,NewAt.nil⟩) ?_ (fun l σ H hl ⟨_,s1,as,el,x⟩=>hd l as H hl s1 el x)
 rintro l i σ H hl hi ⟨hσ,s1,as,el,x⟩
 rw [bi]
 have e:σ.set k (some (.int (lo+i)))=σ0.set k (some (.int (lo+i))):=by
  rcases hσ with rfl | ⟨cv,rfl⟩
  · rfl
  · exact List.set_set ..
 rw [e]
 refine ht i H _ hi s1 fun H2 s2=>?_
 have el2:=s2 _ _ el
 have x2:=x.same s2
 have s12:=s1.trans s2
 cases hb:b i with
 | false=>
  rw [if_neg Bool.false_ne_true]
  refine ⟨.inr ⟨_,rfl⟩,s12,as,el2,?_⟩
  rw [List.range_succ,List.filter_append,List.filter_cons,hb]
  simpa using x2
 | true=>
  rw [if_pos rfl]
  refine he i H2 _ hi hb s12 fun p H3 s3 hp ep=>⟨_,s3 _ _ el2,?_,.inr ⟨_,rfl⟩,(s12.trans s3).own hl,as++[p],?_,?_⟩
  · rw [List.length_map,x2.len,List.length_map]; exact aE (Nat.le_trans (kj b hi hn) (by decide))
  · rw [ag]; simp
  · have y:=x2.more s12 s3 hp ep el2 (.lst (as.map V.ref++[V.ref p]))
    rw [List.range_succ,List.filter_append,List.filter_cons,hb]
    simpa using y
theorem vW {xs:List V} (b:Nat→Bool) (o:Nat→HO) (hn:xs.length≤900) (hq:SqL K H1 a xs)
  (ht:∀ i x H R,xs[i]? =some x→Same H1 H→(∀ H',Same H H'→R (b i) H')→tt (σ0.set k (some x)) H R)
  (he:∀ i x H Q,xs[i]? =some x→b i=true→Same H1 H→(∀ a H',Same H H'→H a=none→H' a=some (o i)→Q (.ref a) H')→te (σ0.set k (some x)) H Q)
  (hd:∀ l as H,H1 l=none→Same H1 H→H l=some (.lst (as.map V.ref))→NewAt H1 H l as (((List.range xs.length).filter b).map o)→fin l H):
  CompR (Itl K a) (gName k) tt te fin σ0 H1:=by
 refine mL (xs:=xs) (fun l i σ H=>(σ=σ0∨∃ cv,σ=σ0.set k cv)∧Same H1 H∧∃ as:List Addr,H l=some (.lst (as.map V.ref))∧NewAt H1 H l as (((List.range i).filter b).map o)) (fun l hl=>⟨.inl rfl,(Same.refl H1).laid hl,[],by rw [ag]; rfl,NewAt.nil⟩) (fun l i σ H _ _ p=>p.2.1.seq hq) ?_ (fun l σ H hl ⟨_,s1,as,el,x⟩=>hd l as H hl s1 el x)
 rintro l i y σ H hl hy ⟨hσ,s1,as,el,x⟩
 have hi:i < xs.length:=(List.getElem?_eq_some_iff.mp hy).1
 rw [bi]
 have e:σ.set k (some y)=σ0.set k (some y):=by
  rcases hσ with rfl | ⟨cv,rfl⟩
  · rfl
  · exact List.set_set ..
 rw [e]
 refine ht i y H _ hy s1 fun H2 s2=>?_
 have el2:=s2 _ _ el
 have x2:=x.same s2
 have s12:=s1.trans s2
 cases hb:b i with
 | false=>
  rw [if_neg Bool.false_ne_true]
  refine ⟨.inr ⟨_,rfl⟩,s12,as,el2,?_⟩
  rw [List.range_succ,List.filter_append,List.filter_cons,hb]
  simpa using x2
 | true=>
  rw [if_pos rfl]
  refine he i y H2 _ hy hb s12 fun p H3 s3 hp ep=>⟨_,s3 _ _ el2,?_,.inr ⟨_,rfl⟩,(s12.trans s3).own hl,as++[p],?_,?_⟩
  · rw [List.length_map,x2.len,List.length_map]; exact aE (Nat.le_trans (kj b hi hn) (by decide))
  · rw [ag]; simp
  · have z:=x2.more s12 s3 hp ep el2 (.lst (as.map V.ref++[V.ref p]))
    rw [List.range_succ,List.filter_append,List.filter_cons,hb]
    simpa using z
end
theorem vm:∀ {ds:List PyData},(∀ d∈ds,PyData.canLay0 d=true)→PyData.canLayAll0 ds=true
 | [],_=>rfl
 | d::r,h=>by rw [PyData.canLayAll0,h d List.mem_cons_self,vm fun e he=>h e (List.mem_cons_of_mem _ he)]; rfl
theorem q5 {n:Nat}:∀ {ds:List PyData},(∀ d∈ds,PyData.depth d≤n)→PyData.depthAll ds≤n
 | [],_=>Nat.zero_le _
 | d::r,h=>by rw [PyData.depthAll]; exact Nat.max_le.mpr ⟨h d List.mem_cons_self,q5 fun e he=>h e (List.mem_cons_of_mem _ he)⟩
theorem qq {α:Type} [DecidableEq α] (g:α→PyData) (hg:∀ a b,PyData.eqv (g a) (g b)=decide (a=b)):∀ xs ys:List α,PyData.eqvAll (xs.map g) (ys.map g)=decide (xs=ys)
 | [],[]=>rfl
 | [],_::_=>rfl
 | _::_,[]=>rfl
 | x::xs,y::ys=>by
  rw [List.map_cons,List.map_cons,PyData.eqvAll,hg,qq g hg xs ys,Bool.eq_iff_iff]
  simp
structure IsLL (H:Hp) (l:Addr) (as:List Addr) (xss:List (List Int)):Prop where
 top:H l=some (.lst (as.map V.ref))
 len:as.length=xss.length
 at_:∀ (j:Nat) (a:Addr) (xs:List Int),as[j]? =some a→xss[j]? =some xs→H a=some (.lst (xs.map V.int))
theorem IsLL.same {H H':Hp} {l:Addr} {as:List Addr} {xss:List (List Int)} (x:IsLL H l as xss) (s:Same H H'):IsLL H' l as xss:=
 ⟨s _ _ x.top,x.len,fun j a xs h1 h2=>s _ _ (x.at_ j a xs h1 h2)⟩
def cP (K:PySem.W.Frag):Sp:=fun vs H Q _=>∃ (a:Addr) (h w g c:Int),vs=[.ref a,.int c]∧IsFl H a h w g∧0 < w∧w < 100∧∀ p,H p=none→Q (.ref p) (upd H p (.tup [.int (c / w),.int (c % w)]))
theorem vX {K:PySem.W.Frag} {vs:List V} {H:Hp} {Q:VK} {E:XK} (h:cP K vs H Q E):vs.length=2:=by
 obtain ⟨_,_,_,_,_,rfl,_⟩:=h; rfl
def jT (K:PySem.W.Frag):TS:=
 (tSeq (tAsg (tOp cIx (tVar 0) (tC (.int 1))) (gName 2))
  (tRet (tTup (tCons (tOp cDiv (tVar 1) (tVar 2)) (tCons (tOp cMod (tVar 1) (tVar 2)) tNil)))))
theorem vY {K:PySem.W.Frag} {vs:List V} {H:Hp} {Q:VK} {E:XK} (h:cP K vs H Q E):jT K { nx:=fun _ H'=>Q .non H',rt:=Q } (start ["floor","cell","wide"] vs) H:=by
 obtain ⟨a,h,w,g,c,rfl,ha,w0,w1,k⟩:=h
 show jT K _ [some (.ref a),some (.int c),none] H
 unfold jT
 walk_at "w"
 rw [gH ha]
 refine aV (a:=V.int w) rfl ?_
 walk_at "w"
 refine ⟨⟨w0,by omega⟩,w0,aK (by show (2:Nat)≤1000; decide),k⟩
def dq (K:PySem.W.Frag):Sp:=fun vs H Q _=>∃ (a:Addr) (h w g c:Int),vs=[.ref a,.int c]∧IsFl H a h w g∧0 < w∧w < 100∧∀ l H',Same H H'→H l=none→H' l=some (.lst ((besL h w c).map V.int))→Q (.ref l) H'
theorem xE {K:PySem.W.Frag} {vs:List V} {H:Hp} {Q:VK} {E:XK} (h:dq K vs H Q E):vs.length=2:=by
 obtain ⟨_,_,_,_,_,rfl,_⟩:=h; rfl
def kI (K:PySem.W.Frag):TS:=
 (tSeq (tAsg (tOp cIx (tVar 0) (tC (.int 0))) (gName 2))
  (tSeq (tAsg (tOp cIx (tVar 0) (tC (.int 1))) (gName 3))
  (tSeq (tAsg (tCall (cP K) [] E0 (tCons (tVar 0) (tCons (tVar 1) tNil))) (gName 4))
  (tSeq (tAsg (tLst tNil) (gName 5))
  (tSeq (tIfS (tTest (tOp (cCmp fun i j=>decide (j < i)) (tOp cIx (tVar 4) (tC (.int 0))) (tC (.int 0)))) (tDrop (tBM K "list" ck (tVar 5) (tCons (tOp cSub (tVar 1) (tVar 3)) tNil))) tNext)
  (tSeq (tIfS (tTest (tOp (cCmp fun i j=>decide (j < i)) (tOp cIx (tVar 4) (tC (.int 1))) (tC (.int 0)))) (tDrop (tBM K "list" ck (tVar 5) (tCons (tOp cSub (tVar 1) (tC (.int 1))) tNil))) tNext)
  (tSeq (tIfS (tTest (tOp (cCmp fun i j=>decide (i < j)) (tOp cIx (tVar 4) (tC (.int 1))) (tOp cSub (tVar 3) (tC (.int 1))))) (tDrop (tBM K "list" ck (tVar 5) (tCons (tOp cAdd (tVar 1) (tC (.int 1))) tNil))) tNext)
  (tSeq (tIfS (tTest (tOp (cCmp fun i j=>decide (i < j)) (tOp cIx (tVar 4) (tC (.int 0))) (tOp cSub (tVar 2) (tC (.int 1))))) (tDrop (tBM K "list" ck (tVar 5) (tCons (tOp cAdd (tVar 1) (tVar 3)) tNil))) tNext)
  (tRet (tVar 5))))))))))
theorem pc {K:PySem.W.Frag} {D:Ends} {σ:St} {H:Hp} {t:TT} {e:TE} {b:Bool} {v:Int} {l:Addr} {i:Nat} {ns:List Int} (hσ:σ[i]? =some (some (.ref l))) (ht:∀ R,R b H→t σ H R) (hl:H l=some (.lst (ns.map V.int))) (hn:ns.length≤900)
  (he:∀ Q,Q (.int v) H→e σ H Q) (k:∀ H',(H' l=some (.lst ((ns++if b=true then [v] else []).map V.int)))→(∀ c,c≠l→H' c=H c)→D.nx σ H'):
  tIfS t (tDrop (tBM K "list" ck (tVar i) (tCons e tNil))) tNext D σ H:=by
 rw [aH]
 refine ht _ ?_
 cases b with
 | false=>
  refine iteF ?_
  rw [dN]
  exact k H (by simpa using hl) fun _ _=>rfl
 | true=>
  refine iteT ?_
  rw [dO,jL,gl]
  refine ⟨_,hσ,dv hl,?_⟩
  rw [cN]
  refine he _ ?_
  rw [gm,kf hl]
  refine ⟨by rw [List.length_map]; exact aE (by omega),k _ ?_ fun c hc=>aj hc⟩
  rw [ag]
  simp
theorem xG {K:PySem.W.Frag} {vs:List V} {H:Hp} {Q:VK} {E:XK} (h:dq K vs H Q E):kI K { nx:=fun _ H'=>Q .non H',rt:=Q } (start ["floor","cell","high","wide","spot","found"] vs) H:=by
 obtain ⟨a,h,w,g,c,rfl,ha,w0,w1,k⟩:=h
 show kI K _ [some (.ref a),some (.int c),none,none,none,none] H
 unfold kI
 walk_at "w"
 rw [gH ha]
 refine aV (a:=V.int h) rfl ?_
 walk_at "w"
 rw [gH ha]
 refine aV (a:=V.int w) rfl ?_
 walk_at "w"
 refine ⟨a,h,w,g,c,rfl,ha,w0,w1,fun p hp=>?_⟩
 walk_at "w"
 refine ⟨aK (by decide),fun l hl=>?_⟩
 have npl:p≠l:=fun e=>by rw [e,ag] at hl; cases hl
 have hl0:H l=none:=by rw [aj npl.symm] at hl; exact hl
 have hpS:∀ H':Hp,(∀ d,d≠l→H' d=upd H p (.tup [.int (c / w),.int (c % w)]) d)→H' p=some (.tup [.int (c / w),.int (c % w)]):=fun H' e=>by rw [e p npl,ag]
 refine pc (ns:=[]) (l:=l) (i:=5) (b:=decide (0 < c / w)) (v:=c - w) rfl (fun R q=>?_) ag (by decide) (fun Q q=>?_) fun H1 e1 f1=>?_
 · walk_at "w"
   rw [gH (hpS _ fun d hd=>aj hd)]
   refine aV rfl ?_
   walk_at "w"
   exact q
 · walk_at "w"
   exact q
 walk_at "w"
 refine pc (l:=l) (i:=5) (b:=decide (0 < c % w)) (v:=c - 1) rfl (fun R q=>?_) e1 (by simp; split <;> simp) (fun Q q=>?_) fun H2 e2 f2=>?_
 · walk_at "w"
   rw [gH (hpS _ fun d hd=>by rw [f1 d hd,aj hd])]
   refine aV rfl ?_
   walk_at "w"
   exact q
 · walk_at "w"
   exact q
 walk_at "w"
 refine pc (l:=l) (i:=5) (b:=decide (c % w < w - 1)) (v:=c+1) rfl (fun R q=>?_) e2 (by simp; split <;> split <;> simp) (fun Q q=>?_) fun H3 e3 f3=>?_
 · walk_at "w"
   rw [gH (hpS _ fun d hd=>by rw [f2 d hd,f1 d hd,aj hd])]
   refine aV rfl ?_
   walk_at "w"
   exact q
 · walk_at "w"
   exact q
 walk_at "w"
 refine pc (l:=l) (i:=5) (b:=decide (c / w < h - 1)) (v:=c+w) rfl (fun R q=>?_) e3 (by simp; split <;> split <;> split <;> simp) (fun Q q=>?_) fun H4 e4 f4=>?_
 · walk_at "w"
   rw [gH (hpS _ fun d hd=>by rw [f3 d hd,f2 d hd,f1 d hd,aj hd])]
   refine aV rfl ?_
   walk_at "w"
   exact q
 · walk_at "w"
   exact q
 walk_at "w"
 refine k l H4 (fun b o e=>?_) hl0 ?_
 · have nb:b≠l:=az e hl0
   have nbp:b≠p:=az e hp
   rw [f4 b nb,f3 b nb,f2 b nb,f1 b nb,aj nb,aj nbp]
   exact e
 · rw [e4]
   unfold besL
   simp [decide_eq_true_eq]
structure FlOk (h w g:Int):Prop where
 h0:1≤h
 h1:h≤6
 w0:1≤w
 w1:w≤6
 m:h*w≤16
 g0:1≤g
 g1:g≤6
section
variable {K:PySem.W.Frag} {H:Hp} {Q:VK}
theorem xH {p:Addr} {xs:List V} (hp:H p=some (.lst xs)) (h:Q (.bl true) H):kIsi [.ref p,.ty "list"] H Q:=by
 refine ⟨by decide,aV (a:="list") (by unfold kd; dsimp only; rw [hp]) ?_⟩
 rw [show isTy "list" "list"=true by decide]
 exact h
theorem xI {p:Addr} {xs:List V} (hp:H p=some (.tup xs)) (h:Q (.bl true) H):kIsi [.ref p,.ty "tuple"] H Q:=by
 refine ⟨by decide,aV (a:="tuple") (by unfold kd; dsimp only; rw [hp]) ?_⟩
 rw [show isTy "tuple" "tuple"=true by decide]
 exact h
theorem xJ {n:Nat} {t:TGs} {σ:St} {k:St→Hp→Prop} {p:Addr} {xs:List V} (hp:H p=some (.tup xs)) (hn:xs.length=n) (h:t xs σ H k):gTup K n t (.ref p) σ H k:=⟨p,xs,rfl,SqT.of hp,hn,h⟩
theorem yG {i j:Nat} {x y:V} {σ:St} {k:St→Hp→Prop}:gCons (gName i) (gCons (gName j) gNil) [x,y] σ H k=k ((σ.set i (some x)).set j (some y)) H:=by
 refine propext ⟨?_,fun h=>⟨x,[y],rfl,y,[],rfl,rfl,h⟩⟩
 rintro ⟨v,r,e,v2,r2,e2,e3,h⟩
 cases e
 cases e2
 exact h
end
end L2
namespace L2
open PySem PySem.Builtin PySem.Builtin.Str
def tx (l:List Nat):Str:=⟨l.toArray⟩
theorem pe (l:List Nat):(tx l).cps.toList=l:=by simp [tx]
theorem A4 (x:Str):tx x.cps.toList=x:=by cases x; simp [tx]
theorem xK {a b:List Nat} (h:tx a=tx b):a=b:=by rw [← pe a,h,pe]
theorem iq (l:List Nat):(tx l).length=l.length:=by simp [tx,Str.length]
theorem lA (a b:List Nat):tx a++tx b=tx (a++b):=by
 refine Str.ext' ?_
 rw [Str.cps_append]
 simp [tx]
theorem bT (a b:List Nat):decide (tx a=tx b)=decide (a=b):=by
 by_cases h:a=b
 · subst h; simp
 · have:¬ tx a=tx b:=fun e=>h (xK e)
   rw [decide_eq_false h,decide_eq_false this]
def catL (c:Nat):List (List Nat)→List Nat
 | []=>[]
 | [x]=>x
 | x::y::r=>x++c::catL c (y::r)
theorem qr (c:Nat):∀ ts:List (List Nat),Str.join (tx [c]) (ts.map tx)=tx (catL c ts)
 | []=>rfl
 | [x]=>rfl
 | x::y::r=>by
  show tx x++tx [c]++Str.join (tx [c]) ((y::r).map tx)=_
  rw [qr c (y::r),lA,lA]
  show tx _=tx (x++c::catL c (y::r))
  rw [List.append_assoc]; rfl
theorem yH (sep:Str) (ts:List Str):Txt.join sep ts=Str.join sep ts:=StrLaws.glued_eq_join sep ts
theorem vn {c:Nat}:∀ {a b x y:List Nat},c∉a→c∉b→a++c::x=b++c::y→a=b∧x=y
 | [],[],_,_,_,_,h=>⟨rfl,by simpa using h⟩
 | [],b::bs,_,_,_,hb,h=>by
  simp at h
  exact absurd (List.mem_cons.mpr (.inl h.1)) hb
 | a::as,[],_,_,ha,_,h=>by
  simp at h
  exact absurd (List.mem_cons.mpr (.inl h.1.symm)) ha
 | a::as,b::bs,x,y,ha,hb,h=>by
  simp at h
  have:=vn (fun z=>ha (List.mem_cons_of_mem _ z)) (fun z=>hb (List.mem_cons_of_mem _ z)) h.2
  exact ⟨by rw [h.1,this.1],this.2⟩
theorem sW {c:Nat}:∀ {x:List Nat} {r:List (List Nat)} {y:List Nat},c∈catL c (x::y::r):=by
 intro x r y
 show c∈x++c::_
 simp
theorem sX {c:Nat}:∀ {xs ys:List (List Nat)},xs≠[]→ys≠[]→(∀ x∈xs,c∉x)→(∀ y∈ys,c∉y)→catL c xs=catL c ys→xs=ys
 | [],_,h,_,_,_,_=>absurd rfl h
 | _,[],_,h,_,_,_=>absurd rfl h
 | [x],[y],_,_,_,_,h=>by
  have h':x=y:=h
  rw [h']
 | [x],y::z::r,_,_,hx,_,h=>by
  have h':x=catL c (y::z::r):=h
  exact absurd (h' ▸ sW) (hx x List.mem_cons_self)
 | x::z::r,[y],_,_,_,hy,h=>by
  have h':catL c (x::z::r)=y:=h
  exact absurd (h' ▸ sW) (hy y List.mem_cons_self)
 | x::z::r,y::u::s,_,_,hx,hy,h=>by
  obtain ⟨e1,e2⟩:=vn (hx x List.mem_cons_self) (hy y List.mem_cons_self) (show x++c::catL c (z::r)=y++c::catL c (u::s) from h)
  rw [e1,sX (by simp) (by simp) (fun w hw=>hx w (List.mem_cons_of_mem _ hw)) (fun w hw=>hy w (List.mem_cons_of_mem _ hw)) e2]
theorem yI (x y:Str):Txt.split x y≠[]:=by
 intro h
 unfold Txt.split at h
 split at h
 · cases h
 · split at h
   · cases h
   · rw [StrLaws.partsBetween_eq] at h
     obtain ⟨p,r,e⟩:=StrLaws.partsFrom_ne x y.length 0 (occurrences x y 0 x.length (x.length+1))
     rw [e] at h; cases h
theorem yJ {c:Nat} {rows:List (List Nat)} (hne:rows≠[]) (hf:∀ r∈rows,c∉r):Txt.split (tx (catL c rows)) (tx [c])=rows.map tx:=by
 have h1:=StrLaws.join_split (tx (catL c rows)) (tx [c])
 have h2:∀ p∈Txt.split (tx (catL c rows)) (tx [c]),c∉p.cps.toList:=StrLaws.split_free _ c
 have h3:=yI (tx (catL c rows)) (tx [c])
 generalize Txt.split (tx (catL c rows)) (tx [c])=S at*
 have e:S=(S.map (·.cps.toList)).map tx:=by
  rw [List.map_map]
  conv=>lhs; rw [← List.map_id S]
  exact List.map_congr_left fun x _=>(A4 x).symm
 rw [e,qr] at h1
 have h4:=xK h1
 have h5:=sX (c:=c) (xs:=S.map (·.cps.toList)) (ys:=rows) (by simpa using h3) hne (fun x hx=>by obtain ⟨p,hp,rfl⟩:=List.mem_map.mp hx; exact h2 p hp) hf h4
 rw [e,h5]
end L2
namespace L2
end L2
namespace L2
open PySem PySem.Spec PyProof.Rows
local macro_rules | `(tactic| walk_at "w")=>`(tactic| (first | simp only [aQ,dN,dw,bi,gl,w_c,g8,dy,e7,dO,e8,w_b,w_not,g9,ke,e9,fb,hE,gm,cN,jK,dP,hJ,gn,jL,hV,dQ,fc,fe,ff,c9,da,cC,cr,cu,bS,hX,h9,ia,ib,ic,ie,ig,ii,ij,ik,il,im,kg,fg,cw,fh,kh,fi,db,cx,io,ip,fj,fk,fo,
 List.getElem?_cons_zero,List.getElem?_cons_succ,Option.some.injEq,exists_eq_left',exists_eq_left,List.set_cons_zero,List.set_cons_succ,b4,V.int.injEq,V.bl.injEq,V.ref.injEq,V.str.injEq,List.append_nil,List.nil_append,List.cons_append] | dsimp only | skip))
section
variable {k:Nat} {tt:TT} {te:TE} {fin:Addr→Hp→Prop} {σ0:St} {H1:Hp}
theorem xM {cs:List Nat} (b:Nat→Bool) (f:Nat→V) (hn:cs.length≤900)
  (ht:∀ i c H R,cs[i]? =some c→Same H1 H→(∀ H',Same H H'→R (b i) H')→tt (σ0.set k (some (.str (tx [c])))) H R)
  (he:∀ i c H Q,cs[i]? =some c→b i=true→Same H1 H→(∀ H',Same H H'→Q (f i) H')→te (σ0.set k (some (.str (tx [c])))) H Q)
  (hd:∀ l H,H1 l=none→Same H1 H→H l=some (.lst (((List.range cs.length).filter b).map f))→fin l H):
  CompR (Its (tx cs)) (gName k) tt te fin σ0 H1:=by
 intro l hl
 have hsz:(tx cs).cps.size=cs.length:=by simp [tx]
 refine ⟨fun i m σ H=>m=cs.length - i∧i≤cs.length∧(σ=σ0∨∃ cv,σ=σ0.set k cv)∧Same H1 H∧H l=some (.lst (((List.range i).filter b).map f)),⟨cs.length,by simp,Nat.zero_le _,.inl rfl,(Same.refl H1).laid hl,by rw [ag]; rfl⟩,?_⟩
 rintro i m σ H ⟨rfl,hi,hσ,s1,el⟩
 by_cases hlt:i < cs.length
 · refine .inr ⟨by show i < (tx cs).cps.size; rw [hsz]; exact hlt,fun σ H=>(σ=σ0∨∃ cv,σ=σ0.set k cv)∧Same H1 H∧H l=some (.lst (((List.range (i+1)).filter b).map f)),fun σ' H' p'=>⟨cs.length - (i+1),by omega,rfl,hlt,p'⟩,?_⟩
   rintro x H' ⟨rfl,c,hc,rfl⟩
   have hc':cs[i]? =some c:=by simpa [tx] using hc
   show gName k (.str (tx [c])) σ H' _
   rw [bi]
   have e:σ.set k (some (.str (tx [c])))=σ0.set k (some (.str (tx [c]))):=by
    rcases hσ with rfl | ⟨cv,rfl⟩
    · rfl
    · exact List.set_set ..
   rw [e]
   refine ht i c H' _ hc' s1 fun H2 s2=>?_
   have el2:=s2 _ _ el
   cases hb:b i with
   | false=>
    rw [if_neg Bool.false_ne_true]
    refine ⟨.inr ⟨_,rfl⟩,s1.trans s2,?_⟩
    rw [List.range_succ,List.filter_append,List.filter_cons,hb]
    simpa using el2
   | true=>
    rw [if_pos rfl]
    refine he i c H2 _ hc' hb (s1.trans s2) fun H3 s3=>⟨_,s3 _ _ el2,by rw [List.length_map]; exact aE (Nat.le_trans (kj b hlt hn) (by decide)),.inr ⟨_,rfl⟩,((s1.trans s2).trans s3).own hl,?_⟩
    rw [ag,List.range_succ,List.filter_append,List.filter_cons,hb]
    simp
 · have e:i=cs.length:=by omega
   subst e
   exact .inl ⟨by show (tx cs).cps.size≤_; rw [hsz]; exact Nat.le_refl _,hd l H hl s1 el⟩
end
theorem mr {α:Type} (xs:List Int) (g:Int→α):(List.range xs.length).map (fun i=>g (xs.getD i 0))=xs.map g:=by
 have e:xs=(List.range xs.length).map fun i=>xs.getD i 0:=by
  refine List.ext_getElem? fun i=>?_
  rw [List.getElem?_map]
  by_cases h:i < xs.length
  · rw [List.getElem?_range h,List.getElem?_eq_getElem h]
    simp [List.getD,h]
  · rw [List.getElem?_eq_none (by omega),List.getElem?_eq_none (by simpa using h)]; rfl
 conv=>rhs; rw [e]
 rw [List.map_map]
 rfl
theorem sY {sep:Str} {ts:List Str} (h1:ts.length≤1000) (h2:∀ t∈ts,t.length≤1000) (h3:sep.length≤10):JoinOk sep ts=true:=by
 unfold JoinOk
 rw [Bool.not_eq_true']
 refine StrLaws.joinFits (B:=1000) h2 ?_
 have a1:ts.length*1000≤1000*1000:=Nat.mul_le_mul_right _ h1
 have a2:ts.length*sep.length≤1000*10:=Nat.mul_le_mul h1 h3
 omega
end L2
namespace L2
open PySem PySem.Spec PyProof.Rows
abbrev rIsN:R2:=fun x y H Q=>y=.non∧Q (.bl (decide (x=.non))) H
abbrev rNotN:R2:=fun x y H Q=>y=.non∧Q (.bl (!decide (x=.non))) H
def kStr:List V→Hp→VK→Prop
 | [.int i],H,Q=>i.natAbs.log2 < 1920∧Q (.str (Str.ofString (toString i))) H
 | _,_,_=>False
section
variable {X:Cx}
theorem jF:CallR X (.type "str") kStr:=by
 intro pins s σ H xs us Q I r h
 unfold kStr at h
 split at h
 · obtain ⟨hi,q⟩:=h
   cases r with
   | cons r0 rr=>
    cases rr
    obtain ⟨t,rfl⟩:=r0
    exact PySem.P.str_of_int hi ⟨.str _,H,I.tok _,⟨_,rfl⟩,q⟩
 · exact h.elim
end
section
variable {K:PySem.W.Frag} {H:Hp} {Q:VK}
theorem lN {x:V}:rIsN x .non H Q=Q (.bl (decide (x=.non))) H:=by simp [rIsN]
theorem kl {x:V}:rNotN x .non H Q=Q (.bl (!decide (x=.non))) H:=by simp [rNotN]
theorem kJ {i:Int}:kStr [.int i] H Q=(i.natAbs.log2 < 1920∧Q (.str (Str.ofString (toString i))) H):=rfl
end
end L2
namespace L2
open PySem PySem.Spec PyProof.Rows
structure Bt2 (mg:Str→Option Value):Prop extends Bt mg where
 all_:mg "all"=none
 sum_:mg "sum"=none
 enumerate_:mg "enumerate"=none
section
variable {K:PySem.W.Frag} {H:Hp} {Q:VK} {D:Ends} {σ:St} {g:TG} {tb:TS} {ta:TA} {ix:List (Option Nat)} {tt:TT} {te tf:TE} {k:Nat}
theorem kK:tIf tt te tf σ H Q=tt σ H fun c H1=>if c=true then te σ H1 Q else tf σ H1 Q:=rfl
theorem fu:tComp ix (oY ta) g tt te σ H Q=ta σ H fun vs H1=>∃ i j:Int,vs=[.int i,.int j]∧(-(2^62)≤i∧i < 2^62∧ -(2^62)≤j∧j < 2^62)∧CompR (Itr i (j - i).toNat) g tt te (fun l H'=>Q (.ref l) H') (subσ ix σ) H1:=rfl
theorem dr:sComp k ix (oY ta) g tt te D σ H=ta σ H fun vs H1=>∃ i j:Int,vs=[.int i,.int j]∧(-(2^62)≤i∧i < 2^62∧ -(2^62)≤j∧j < 2^62)∧CompR (Itr i (j - i).toNat) g tt te (fun l H'=>D.nx (σ.set k (some (.ref l))) H') (subσ ix σ) H1:=rfl
theorem isiE {x:V} {n t:String} {b:Bool} (hx:kd H x=some t) (hn:nv n=true) (hb:isTy t n=b):kIsi [x,.ty n] H Q=Q (.bl b) H:=by
 subst hb
 show (nv n=true∧bnd (kd H x) fun t=>Q (.bl (isTy t n)) H)=_
 rw [hx]
 simp only [hn,true_and,b4]
theorem fv {i:Int}:kIsi [.int i,.ty "int"] H Q=Q (.bl true) H:=isiE (t:="int") rfl (by decide) (by decide)
theorem fw {i:Int}:kIsi [.int i,.ty "bool"] H Q=Q (.bl false) H:=isiE (t:="int") rfl (by decide) (by decide)
theorem fz {i:Int}:kIsi [.int i,.ty "str"] H Q=Q (.bl false) H:=isiE (t:="int") rfl (by decide) (by decide)
theorem fA {i:Bool}:kIsi [.bl i,.ty "bool"] H Q=Q (.bl true) H:=isiE (t:="bool") rfl (by decide) (by decide)
theorem fB {i:Bool}:kIsi [.bl i,.ty "int"] H Q=Q (.bl true) H:=isiE (t:="bool") rfl (by decide) (by decide)
theorem fC {i:Str}:kIsi [.str i,.ty "str"] H Q=Q (.bl true) H:=isiE (t:="str") rfl (by decide) (by decide)
theorem fD {i:Bool}:kIsi [.bl i,.ty "str"] H Q=Q (.bl false) H:=isiE (t:="bool") rfl (by decide) (by decide)
theorem jG {A B:Prop}:(if true=true then A else B)=A:=if_pos rfl
theorem jH {A B:Prop}:(if false=true then A else B)=B:=if_neg Bool.false_ne_true
theorem jI {i:Int}:rU (fun i=>.int (-i)) (.int i) H Q=Q (.int (-i)) H:=by
 refine propext ⟨?_,fun h=>⟨i,rfl,h⟩⟩
 rintro ⟨j,e,h⟩
 cases e
 exact h
theorem ixT {p:Addr} {i:Int} {xs:List V} {v:V} (h:H p=some (.tup xs)) (e:atI xs i=some v) (q:Q v H):cIx (.ref p) (.int i) H Q:=by
 rw [gH h]; exact aV e q
theorem ixL {p:Addr} {i:Int} {xs:List V} {v:V} (h:H p=some (.lst xs)) (e:atI xs i=some v) (q:Q v H):cIx (.ref p) (.int i) H Q:=by
 rw [zc h]; exact aV e q
theorem ixI {p:Addr} {i:Int} {ns:List Int} (h:H p=some (.lst (ns.map V.int))) (h0:0≤i) (h1:i < ns.length) (q:Q (.int (ns.getD i.toNat 0)) H):cIx (.ref p) (.int i) H Q:=ixL h (oh h0 h1) q
end
end L2
namespace L2
open PySem PySem.Spec PyProof.Rows
end L2
namespace L2
open PySem PySem.Spec PyProof.Rows
end L2
namespace L2
open PySem PySem.Spec PyProof.Rows
end L2
namespace L2
open PySem PySem.Spec PyProof.Rows
end L2
namespace L2
open PySem PySem.Spec PyProof.Rows
end L2
namespace L2
open PySem PySem.Spec PyProof.Rows
def cMulB:R2
 | .int i,.int j,H,Q=>IntMulOk i j∧Q (.int (i*j)) H
 | _,_,_,_=>False
end L2
namespace Att
open PySem PySem.W PySem.Calls PyProof.Rows
end Att
namespace L2
open PySem PySem.Spec PyProof.Rows
section
variable {K:PySem.W.Frag} {H:Hp} {Q:VK} {D:Ends} {σ:St}
theorem Bf {i j:Int}:cMulB (.int i) (.int j) H Q=(IntMulOk i j∧Q (.int (i*j)) H):=rfl
theorem lO {i j:Int}:cPow (.int i) (.int j) H Q=(CPow i j∧Q (.int (i^j.toNat)) H):=rfl
theorem vo {ix:List (Option Nat)} {tl:TE} {g:TG} {tt:TT} {te:TE}:tComp ix (iTup K tl) g tt te σ H Q=tl σ H fun x H1=>∃ a,x=.ref a∧(∃ xs,SqT K H1 a xs)∧CompR (Itt K a) g tt te (fun l H'=>Q (.ref l) H') (subσ ix σ) H1:=rfl
theorem vZ {p:Addr} {bs:List Bool} (hp:H p=some (.lst (bs.map V.bl))) (h:Q (.bl (bs.any id)) H):kAny [.ref p] H Q:=by
 show bnd (unL (H p)) _
 rw [hp]
 exact aV (a:=bs.map V.bl) rfl ⟨bs,rfl,h⟩
theorem Ax {p q:Addr} {xs ys:List V} (hp:H p=some (.lst xs)) (hq:H q=some (.lst ys)) (hn:xs.length+ys.length≤1000) (h:∀ r,H r=none→Q (.ref r) (upd H r (.lst (xs++ys)))):cAdd (.ref p) (.ref q) H Q:=by
 show bnd (unM (H p)) _
 rw [hp]
 refine aV (a:=xs) rfl ?_
 rw [hq]
 exact aV (a:=ys) rfl ⟨Nat.le_of_lt (aE hn),h⟩
theorem yK {g:TG} {tt:TT} {te:TE} {a:Addr} {xs:List V} {fin:Addr→Hp→Prop} {σ0:St} {H1:Hp} (Pv:Addr→Nat→St→Hp→Prop) (h0:∀ l,H1 l=none→Pv l 0 σ0 (upd H1 l (.lst []))) (hq:∀ l i σ H,H1 l=none→i≤xs.length→Pv l i σ H→SqT K H a xs)
  (hs:∀ l i x σ H,H1 l=none→xs[i]? =some x→Pv l i σ H→g x σ H fun σ2 H3=>tt σ2 H3 fun b H4=>if b=true then te σ2 H4 fun y H5=>∃ ys,H5 l=some (.lst ys)∧ys.length < sizeLine∧Pv l (i+1) σ2 (upd H5 l (.lst (ys++[y]))) else Pv l (i+1) σ2 H4)
  (hd:∀ l σ H,H1 l=none→Pv l xs.length σ H→fin l H):CompR (Itt K a) g tt te fin σ0 H1:=by
 intro l hl0
 refine ⟨fun i m σ H=>m=xs.length - i∧i≤xs.length∧Pv l i σ H,⟨xs.length,by simp,Nat.zero_le _,h0 l hl0⟩,?_⟩
 rintro i m σ H ⟨rfl,hi,p⟩
 have q:=hq l i σ H hl0 hi p
 by_cases hlt:i < xs.length
 · refine .inr ⟨⟨xs,xs[i],q,by simp [hlt]⟩,Pv l (i+1),fun σ' H' p'=>⟨xs.length - (i+1),by omega,rfl,hlt,p'⟩,fun x H' y=>?_⟩
   obtain ⟨e,y⟩:=y
   subst e
   exact hs l i x σ _ hl0 (y xs q) p
 · have e:i=xs.length:=by omega
   subst e
   exact .inl ⟨⟨xs,q,Nat.le_refl _⟩,hd l σ H hl0 p⟩
end
end L2
namespace L2
open PySem PySem.Spec PyProof.Rows
inductive RK where
 | Rule | Unlike | Sum | Rising | Seen | Count | Joined | NoSquare | Ring
 deriving DecidableEq
structure RCl (ι:Type) where
 A:ι→Addr
 ok:ι→Bool
section
variable {ι:Type}
def tFldK (c:RCl ι) (ta:TE) (f:Str):TE:=fun σ H Q=>ta σ H fun x H1=>∃ a k dx fs v,x=.ref a∧c.ok k=true∧H1 a=some (.ins (c.A k) dx fs)∧fs.lookup f=some v∧Q v H1
def sFldK (c:RCl ι) (ta tv:TE) (f:Str):TS:=fun D σ H=>tv σ H fun y H1=>ta σ H1 fun x H2=>∃ a k dx fs,x=.ref a∧c.ok k=true∧H2 a=some (.ins (c.A k) dx fs)∧fs.length < 1000∧
 D.nx σ (upd H2 a (.ins (c.A k) dx (putF f y fs)))
def aL (c:RCl ι) (okm:ι→Bool) (m:Str) (sp:ι→Sp) (ta:TE) (t:TA):TE:=fun σ H Q=>ta σ H fun x H1=>∃ a k dx fs,x=.ref a∧okm k=true∧H1 a=some (.ins (c.A k) dx fs)∧fs.lookup m=none∧
 t σ H1 fun vs H2=>sp k (x::vs) H2 Q E0
structure FldK (K:PySem.W.Frag) (c:RCl ι) (f:Str):Prop where
 ex:∀ k,c.ok k=true→Cls K (c.A k)∧NoAttr K (c.A k) f
structure MCal (P:Program) (w:World) (K:PySem.W.Frag) (mg:Str→Option Value) (base:Heap) (c:RCl ι) (okm:ι→Bool) (k:Nat) (m:Str) (ps:List Str) (sp:ι→Sp):Prop where
 ex:∀ i,okm i=true→∃ (f:Addr) (fd:FuncData),Cls K (c.A i)∧Meth K (c.A i) m f∧FnOk P w K mg base CX0 k f fd ps (sp i)∧Binds K fd ps []
structure KCal (P:Program) (w:World) (K:PySem.W.Frag) (mg:Str→Option Value) (base:Heap) (k:Nat) (x:Str) (C:Addr) (ps:List Str) (sp:Sp):Prop where
 ex:∃ (f:Addr) (fd:FuncData),Mk K C f∧FnOk P w K mg base CX0 k f fd ps sp∧mg x=some (.ref C)∧Binds K fd ps []
end
section
variable {ι:Type} {X:Cx} {c:RCl ι} {o e value:Expr} {es:List Expr} {f x m:Str} {p pos pos' apos:Pos} {ta tv:TE} {t:TA} {okm:ι→Bool} {k n:Nat} {ps:List Str} {sp:ι→Sp} {sp1:Sp} {C:Addr}
theorem bu (he:PE X e ta) (F:FldK X.K c f) (hb:attributeBase e f X.env (eval e X.env)=eval e X.env:=by rfl):PE X (.Attribute e f pos) (tFldK c ta f):=by
 intro pins s σ H Q I h
 refine zo hb (thn (he pins s σ H _ I h) fun u s1 ⟨x,H1,I1,rx,a,k,dx,fs,v,ex,hk,ea,l,q⟩=>?_)
 subst ex
 obtain rfl:u=Value.ref a:=rx
 obtain ⟨cl,na⟩:=F.ex k hk
 exact vM I1 ea cl na l fun u' s2 I2 ru=>⟨v,H1,I2,ru,q⟩
theorem gU (ha:PE X o ta) (hv:PE X value tv) (F:FldK X.K c f) (hs:swapsWith value (some (.Attribute o f pos')) pos.line X.env=pure false:=by rfl):PS X (.Assign [.Attribute o f pos'] value pos) (sFldK c ta tv f):=by
 intro pins s σ H D I h
 refine plainObj_wpAny_Assign_Attribute (thn (hv pins s σ H _ I h) fun u s1 ⟨y,H1,I1,ry,q⟩=>thn (ha pins s1 σ H1 _ I1 q) fun ov s2 ⟨x,H2,I2,rx,a,k,dx,fs,ex,hk,ea,l,q2⟩=>?_) hs
 subst ex
 obtain rfl:ov=Value.ref a:=rx
 obtain ⟨cl,na⟩:=F.ex k hk
 exact vN I2 ea cl na l ry fun s3 I3=>⟨σ,_,I3,q2⟩
theorem b6 {pl:Sem Bool} (M:MCal X.prog X.w X.K X.mg X.base c okm k m ps sp) (hr:Room n X.A) (hk:k≤n) (he:PE X o ta) (ha:PA X (e::es) t)
  (hst:starEach (e::es) X.env=(false,eval e X.env)::starEach es X.env:=by rfl) (hpl:(backTo pos (starEach es X.env)).any (·.1)=false:=by rfl)
  (ht:eval (.Call (.Attribute o m apos) (e::es) [] pos) X.env=(do
   let ov ← eval o X.env
   standAt apos.atName
   let (f,first) ← holding [ov] (getMethod ov m pl)
   callWith pos f first (backTo pos (starEach (e::es) X.env)) (backToKw pos (keywordEach [] X.env))):=by rfl):
  PE X (.Call (.Attribute o m apos) (e::es) [] pos) (aL c okm m sp ta t):=by
 intro pins s σ H Q I h
 refine PySem.W.methodCall_KW (pl:=pl) (thn (he pins s σ H _ I h) fun u s1 ⟨x,H1,I1,rx,a,i,dx,fs,ex,hi,ea,l,q⟩=>?_) ht
 subst ex
 obtain rfl:u=Value.ref a:=rx
 obtain ⟨f,fd,cl,hm,F,hb⟩:=M.ex i hi
 refine oZ I1 ea cl hm l ?_
 refine PySem.W.callWith_K (first:=[.ref a]) (h₀:=X.base) I.ok.mod.kin hm.kp (thn (ha pos pins s1 σ H1 _ I1 q) fun us s2 ⟨vs,H2,I2,r,q2⟩=>⟨I2.kIn,?_⟩) hst hpl
 exact sD (us:=.ref a::us) (vs:=.ref a::vs) F (hr.mono hk) hb .nil sk I2 (.cons rfl r) (by rw [List.append_nil]; exact q2)
theorem ba {pl:Sem Bool} (M:MCal X.prog X.w X.K X.mg X.base c okm k m ps sp) (hr:Room n X.A) (hk:k≤n) (he:PE X o ta)
  (ht:eval (.Call (.Attribute o m apos) [] [] pos) X.env=(do
   let ov ← eval o X.env
   standAt apos.atName
   let (f,first) ← holding [ov] (getMethod ov m pl)
   callWith pos f first (backTo pos (starEach [] X.env)) (backToKw pos (keywordEach [] X.env))):=by rfl):
  PE X (.Call (.Attribute o m apos) [] [] pos) (aL c okm m sp ta tNil):=by
 intro pins s σ H Q I h
 refine PySem.W.methodCall_KW (pl:=pl) (thn (he pins s σ H _ I h) fun u s1 ⟨x,H1,I1,rx,a,i,dx,fs,ex,hi,ea,l,q⟩=>?_) ht
 subst ex
 obtain rfl:u=Value.ref a:=rx
 obtain ⟨f,fd,cl,hm,F,hb⟩:=M.ex i hi
 refine oZ I1 ea cl hm l ?_
 exact PySem.W.callWith_K0 (first:=[.ref a]) I1.kIn hm.kp (sD (us:=[.ref a]) (vs:=[.ref a]) F (hr.mono hk) hb .nil sk I1 (.cons rfl .nil) q)
theorem jU (M:KCal X.prog X.w X.K X.mg X.base k x C ps sp1) (hr:Room n X.A) (hk:k+1≤n) (hg:Gl X x) (ha:PA X (e::es) t)
  (hdb:(x==("__debug__":Str))=false:=by decide) (he:starEach (e::es) X.env=(false,eval e X.env)::starEach es X.env:=by rfl) (hpl:(backTo pos (starEach es X.env)).any (·.1)=false:=by rfl):
  PE X (.Call (.Name x p) (e::es) [] pos) (tMake C sp1 [] E0 t):=by
 obtain ⟨f,fd,mk,F,hm,hb⟩:=M.ex
 exact zq mk F (hr.mono hk) hg hm hb .nil sk ha hdb he hpl
end
def km (K:PySem.W.Frag):List V→Hp→VK→Prop
 | [.ref p],H,Q=>bnd (unM (H p)) fun ys=>∀ l,H l=none→Q (.ref l) (upd H l (.tup ys))
 | _,_,_=>False
def tInG (ws:List Str) (neg:Bool) (te:TE):TE:=fun σ H Q=>te σ H fun x H1=>∃ z,x=.str z∧Q (.bl (if neg then !decide (z∈ws) else decide (z∈ws))) H1
structure GTup (K:PySem.W.Frag) (mg:Str→Option Value) (x:Str) (ws:List Str):Prop where
 ex:∃ (p:Addr) (o:Obj) (its:Array Value) (n:Nat),mg x=some (.ref p)∧K.lookup p=some o∧o.cls=.type "tuple"∧o.data=.seq its n∧its.size≤sizeLine∧Vals (ws.map V.str) its.toList
theorem kL:∀ ns:List Str,(ns.map V.str).all flatV=true
 | []=>rfl
 | n::r=>by rw [List.map_cons,List.all_cons,kL r]; rfl
theorem lP (i:Str):∀ ns:List Str,inV (.str i) (ns.map V.str)=decide (i∈ns)
 | []=>by simp [inV]
 | n::r=>by
  have ih:=lP i r
  unfold inV at ih ⊢
  rw [List.map_cons,List.any_cons,ih]
  show ((n==i)||decide (i∈r))=decide (i∈n::r)
  rw [Bool.eq_iff_iff,Bool.or_eq_true,beq_iff_eq,decide_eq_true_eq,decide_eq_true_eq,List.mem_cons]
  exact ⟨fun h=>h.elim (fun e=>.inl e.symm) .inr,fun h=>h.elim (fun e=>.inl e.symm) .inr⟩
section
variable {X:Cx} {a:Expr} {ta:TE} {pos p:Pos} {x:Str} {ws:List Str}
theorem n4:CallR X (.type "tuple") (km X.K):=by
 intro pins s σ H xs us Q I r h
 unfold km at h
 split at h
 · obtain ⟨ys,e,q⟩:=aX h
   exact rz pins s σ H _ us Q I r ⟨_,ys,rfl,.inl ⟨SqL.of (g7 e),q⟩⟩
 · exact h.elim
theorem Ay {ws:List Str} {q:Addr} (hq:∃ (o:Obj) (its:Array Value) (n:Nat),X.K.lookup q=some o∧o.cls=.type "tuple"∧o.data=.seq its n∧its.size≤sizeLine∧Vals (ws.map V.str) its.toList):
  OpR X (compareOp .In) (fun x y H Q=>∃ z,x=.str z∧y=.ref q∧Q (.bl (decide (z∈ws))) H):=by
 intro pins s σ H x y v u Q I rx ry h
 obtain ⟨z,rfl,rfl,h⟩:=h
 refine mF pins s σ H _ _ v u Q I rx ry ⟨q,ws.map V.str,rfl,.inr (.inr hq),rfl,kL ws,?_⟩
 rw [lP]
 exact h
theorem zE {ws:List Str} {q:Addr} (hq:∃ (o:Obj) (its:Array Value) (n:Nat),X.K.lookup q=some o∧o.cls=.type "tuple"∧o.data=.seq its n∧its.size≤sizeLine∧Vals (ws.map V.str) its.toList):
  OpR X (compareOp .NotIn) (fun x y H Q=>∃ z,x=.str z∧y=.ref q∧Q (.bl (!decide (z∈ws))) H):=by
 intro pins s σ H x y v u Q I rx ry h
 obtain ⟨z,rfl,rfl,h⟩:=h
 refine mG pins s σ H _ _ v u Q I rx ry ⟨q,ws.map V.str,rfl,.inr (.inr hq),rfl,kL ws,?_⟩
 rw [lP]
 exact h
end
section
variable {ι:Type} {c:RCl ι} {ta tv:TE} {t:TA} {f m:Str} {σ:St} {H:Hp} {Q:VK} {D:Ends} {okm:ι→Bool} {sp:ι→Sp} {sp1:Sp} {C:Addr} {K:PySem.W.Frag}
theorem kn:tMake C sp1 [] E0 t σ H Q=t σ H fun vs H1=>∀ x dx,H1 x=none→H1 dx=none→dx≠x→sp1 (.ref x::(vs++[])) (upd (upd H1 dx (.own x)) x (.ins C dx [])) (fun v H2=>v=.non∧Q (.ref x) H2) E0:=rfl
theorem lQ {ws:List Str} {neg:Bool} {te:TE}:tInG ws neg te σ H Q=te σ H fun x H1=>∃ z,x=.str z∧Q (.bl (if neg then !decide (z∈ws) else decide (z∈ws))) H1:=rfl
theorem zF {p:Addr} {xs:List V} (hp:H p=some (.lst xs)) (h:∀ l,H l=none→Q (.ref l) (upd H l (.tup xs))):km K [.ref p] H Q:=by
 unfold km
 dsimp only
 rw [hp]
 exact h
end
end L2
namespace L2
open PySem PySem.Spec PyProof.Rows
def cntD (ns:List Int):Nat:=(firstMet (fun i=>ns.getD i 0) ns.length).length
def nD (te:TE):TE:=fun σ H Q=>te σ H fun x H1=>∃ p ns,x=.ref p∧H1 p=some (.lst (ns.map V.int))∧ns.length≤900∧Q (.int (cntD ns:Nat)) H1
theorem gI {te:TE} {σ:St} {H:Hp} {Q:VK}:nD te σ H Q=te σ H fun x H1=>∃ p ns,x=.ref p∧H1 p=some (.lst (ns.map V.int))∧ns.length≤900∧Q (.int (cntD ns:Nat)) H1:=rfl
theorem zG:bootBuiltins "set"=some (.type "set"):=by decide+kernel
theorem ra {X:Cx} {e:Expr} {te:TE} {p p2 pos pos2:Pos} (hc:X.calm=true) (hgl:Gl X "len") (hgs:Gl X "set") (hl:X.mg "len"=none) (hs:X.mg "set"=none) (he:PE X e te)
  (hs1:starEach [.Call (.Name "set" p2) [e] [] pos2] X.env=[(false,eval (.Call (.Name "set" p2) [e] [] pos2) X.env)]:=by rfl) (hs2:starEach [e] X.env=[(false,eval e X.env)]:=by rfl):
  PE X (.Call (.Name "len" p) [.Call (.Name "set" p2) [e] [] pos2] [] pos) (nD te):=by
 intro pins s σ H Q I h
 refine wpAny_Call_Name_kw (gg I hgl hl bo ?_ (by decide) (by decide))
 refine PyProof.Rows.callWith_builtin1 ?_ hs1 rfl
 rw [hs1]
 show wpAny _ _ (spliced [(false,eval (.Call (.Name "set" p2) [e] [] pos2) X.env)]) _ _ s
 refine Calls.spliced_cons ?_
 refine wpAny_Call_Name_kw (gg I hgs hs zG ?_ (by decide) (by decide))
 refine PyProof.Rows.callWith_type1 ?_ hs2 rfl
 rw [hs2]
 show wpAny _ _ (spliced [(false,eval e X.env)]) _ _ s
 refine Calls.spliced_cons (thn (he pins s σ H _ I h) fun u s1 ⟨x,H1,I1,r1,q1⟩=>?_)
 refine Calls.spliced_nil ?_
 obtain ⟨l,ns,rfl,hys,hn,q⟩:=q1
 cases r1
 obtain ⟨its,n,rv,ho,hz⟩:=I1.lst hys
 have hL:s1.heap.IsList l its.toArray:=⟨_,ho,rfl,n,rfl⟩
 have hI:IntsAre its ns:=o0 rv
 have hlen:=rv.length
 rw [List.length_map] at hlen
 refine call_set_list (ns:=ns) (I.ok.hd hc) hL (by simpa using hI) (by rw [List.size_toArray,← hlen]; exact Nat.lt_of_le_of_lt (Nat.succ_le_succ hn) (by decide)) fun h' tk hS old=>?_
 refine Calls.spliced_nil ?_
 obtain ⟨o,es,ep,t,h1,h2,h3,h4,h5,h6,h7,h8⟩:=hS
 have hb:(firstMet (fun i=>ns.getD i 0) its.toArray.size).length≤900:=Nat.le_trans (firstMet_length_le _ _) (by rw [List.size_toArray,← hlen]; exact hn)
 refine call_len_set h1 h2 h3 h7 (by omega) ?_
 have I2:Inv X pins σ H1 { s1 with heap:=h',toks:=tk }:=I1.kept fun b o' e=>old b o' (Heap.lt_size e) e
 refine ⟨.int _,H1,I2.tok _,⟨_,rfl⟩,?_⟩
 rw [h8,List.size_toArray,← hlen]
 exact q
def mQ:V→List V→Hp→VK→Prop
 | .str sep,[.ref p],H,Q=>bnd (unS (H p)) fun ys=>∃ ts:List Str,ys=ts.map V.str∧JoinOk sep ts=true∧Q (.str (Txt.join sep ts)) H
 | _,_,_,_=>False
theorem xN {X:Cx}:MtR X "str.join" mQ:=by
 intro pins s σ H x vs v us Q I rx rv h
 unfold mQ at h
 split at h
 · rename_i sep p
   obtain ⟨ys,e,ts,rfl,hok,q⟩:=aX h
   rcases lx (K:=X.K) e with hq | hq
   · obtain ⟨t,rfl⟩:=rx
     obtain ⟨u,rfl,ru⟩:=cL rv
     cases ru
     obtain ⟨its,rvv,pl,hz⟩:=I.list hq
     obtain ⟨l,rfl,hl⟩:=qp rvv
     exact SC.join pl.isList hl hok fun t' k=>⟨.str _,H,I.tok k,⟨t',rfl⟩,q⟩
   · obtain ⟨t,rfl⟩:=rx
     obtain ⟨u,rfl,ru⟩:=cL rv
     cases ru
     obtain ⟨its,rvv,pl,hz⟩:=I.tuple hq
     obtain ⟨l,rfl,hl⟩:=qp rvv
     subst hl
     obtain ⟨o,h1,h2,n,h3⟩:=pl
     have hok':=hok
     unfold JoinOk at hok'
     rw [Bool.not_eq_true'] at hok'
     exact call_meets F.slot_str_join (typeIs_str _ _ _) F.entry_str_join (F.args_str_join_2 _ _) (meets_str_join_tuple sep t p l hok') ⟨⟨o,n,h1,h2,h3⟩,post_join l ⟨joinFit_length hok',fun t' k=>⟨.str _,H,I.tok k,⟨t',rfl⟩,q⟩⟩⟩
 · exact h.elim
end L2
namespace L2
open PySem PySem.Spec PyProof.Rows
section
variable {X:Cx} {e:Expr} {te:TE} {p2 p3 p4 pos:Pos} {z0:Nat}
def pf:V→List V→Hp→VK→Prop
 | .ref l,[.int i],H,Q=>bnd (unM (H l)) fun xs=>0≤i∧i < xs.length∧bnd (xs[i.toNat]?) fun y=>Q y (upd H l (.lst (xs.eraseIdx i.toNat)))
 | _,_,_,_=>False
theorem seqIx {i:Int} {n:Nat} (h0:0≤i) (h1:i < n):seqIndex? i n=some i.toNat:=by
 obtain ⟨k,rfl⟩:=Int.eq_ofNat_of_zero_le h0
 have hk:k < n:=by omega
 unfold seqIndex?
 have hn:¬ ((k:Int) < 0):=by omega
 simp [hk,hn]
theorem xO:MtR X "list.pop" pf:=by
 intro pins s σ H x vs v us Q I rx rv h
 unfold pf at h
 split at h
 · obtain ⟨xs,e,h0,h1,h⟩:=aX h
   obtain ⟨y,ey,q⟩:=aX h
   have hz:xs.length≤sizeLine:=(I.lstM (g7 e)).1
   have hs:(sizeLine:Int) < 2^63:=by decide
   exact yz pins s σ H _ _ v us Q I rx rv ⟨_,xs,_,_,y,rfl,rfl,g7 e,by omega,by omega,seqIx h0 h1,ey,q⟩
 · exact h.elim
def tRevL (te:TE):TE:=fun σ H Q=>te σ H fun x H1=>∃ p xs,x=.ref p∧H1 p=some (.lst xs)∧∀ l,H1 l=none→Q (.ref l) (upd H1 l (.lst xs.reverse))
end
section
variable {σ:St} {H:Hp} {Q:VK} {te:TE}
theorem lR {i j:Int} {H:Hp} {Q:VK}:kMax [.int i,.int j] H Q=Q (.int (if j > i then j else i)) H:=rfl
theorem ko:tRevL te σ H Q=te σ H fun x H1=>∃ p xs,x=.ref p∧H1 p=some (.lst xs)∧∀ l,H1 l=none→Q (.ref l) (upd H1 l (.lst xs.reverse)):=rfl
theorem zH {l:Addr} {i:Int} {xs:List V} {y:V} (hl:H l=some (.lst xs)) (h0:0≤i) (h1:i < xs.length) (ey:xs[i.toNat]? =some y) (q:Q y (upd H l (.lst (xs.eraseIdx i.toNat)))):pf (.ref l) [.int i] H Q:=by
 show bnd (unM (H l)) _
 rw [hl]
 exact aV (a:=xs) rfl ⟨h0,h1,aV ey q⟩
end
end L2
namespace L2
open PySem PySem.Spec PyProof.Rows
theorem v0:typeLookup (.type "str") (Str.ofString "__int__")=pure none:=by rw [typeLookup_type,builtinLookup_eq_fast]; kernel_rfl
theorem sZ:typeLookup (.type "str") (Str.ofString "__index__")=pure none:=by rw [typeLookup_type,builtinLookup_eq_fast]; kernel_rfl
theorem tp:typeLookup (.type "str") (Str.ofString "__trunc__")=pure none:=by rw [typeLookup_type,builtinLookup_eq_fast]; kernel_rfl
def numC (n:Nat):List Nat:=if n < 10 then [48+n] else [48+n / 10,48+n % 10]
theorem xP {n:Nat} (h:n < 100):((tx (numC n)).cps.all fun x=>decide (x < 128))=true:=by
 have t:((List.range 100).all fun n=>(tx (numC n)).cps.all fun x=>decide (x < 128))=true:=by decide+kernel
 exact List.all_eq_true.mp t n (List.mem_range.mpr h)
theorem xQ {α:Type} {M:Model} {A:Around} {E:Value→Shared→Prop} {s:Shared} {Q:α→Shared→Prop} {m m':Sem α} (e:m=m') (h:wpAny M A m' Q E s):wpAny M A m Q E s:=e ▸ h
set_option maxHeartbeats 4000000 in
theorem gis (n:Nat) (hn:n < 100) (u:Tok):Gives (Builtin.«int.__new__» ⟨[.type "int",.str (tx (numC n)) u],[]⟩) (.int n):=
 .of_wp fun M A E s Q h=>by
  obtain ⟨hp,g,d,tk,os⟩:=s
  have f1:=PySem.F.conv_sub_int
  have f2:=PySem.F.madeHere_int
  have f3:=v0
  have f4:=sZ
  have f5:=tp
  iterate 44 (any_goals (first | assumption | wp_step))
  refine wpAny_bind (wpAny_of_eq (a:=some (tx (numC n))) rfl ?_)
  refine wpAny_of_eq (a:=some (numC n)) ?e1 ?_
  case e1=>
   show (pure (some (if ((tx (numC n)).cps.all fun x=>decide (x < 128))=true then (tx (numC n)).cps.toList else _)):Sem _)=_
   rw [if_pos (xP hn),pe]
  refine xQ (m':=mkInt (n:Int)) ?e2 ?_
  case e2=>
   clear h f1 f2 f3 f4 f5
   match n,hn with | 0,_=>kernel_rfl | 1,_=>kernel_rfl | 2,_=>kernel_rfl | 3,_=>kernel_rfl | 4,_=>kernel_rfl | 5,_=>kernel_rfl | 6,_=>kernel_rfl | 7,_=>kernel_rfl | 8,_=>kernel_rfl | 9,_=>kernel_rfl | 10,_=>kernel_rfl | 11,_=>kernel_rfl | 12,_=>kernel_rfl | 13,_=>kernel_rfl | 14,_=>kernel_rfl | 15,_=>kernel_rfl | 16,_=>kernel_rfl | 17,_=>kernel_rfl | 18,_=>kernel_rfl | 19,_=>kernel_rfl | 20,_=>kernel_rfl | 21,_=>kernel_rfl | 22,_=>kernel_rfl | 23,_=>kernel_rfl | 24,_=>kernel_rfl | 25,_=>kernel_rfl | 26,_=>kernel_rfl | 27,_=>kernel_rfl | 28,_=>kernel_rfl | 29,_=>kernel_rfl | 30,_=>kernel_rfl | 31,_=>kernel_rfl | 32,_=>kernel_rfl | 33,_=>kernel_rfl | 34,_=>kernel_rfl | 35,_=>kernel_rfl | 36,_=>kernel_rfl | 37,_=>kernel_rfl | 38,_=>kernel_rfl | 39,_=>kernel_rfl | 40,_=>kernel_rfl | 41,_=>kernel_rfl | 42,_=>kernel_rfl | 43,_=>kernel_rfl | 44,_=>kernel_rfl | 45,_=>kernel_rfl | 46,_=>kernel_rfl | 47,_=>kernel_rfl | 48,_=>kernel_rfl | 49,_=>kernel_rfl | 50,_=>kernel_rfl | 51,_=>kernel_rfl | 52,_=>kernel_rfl | 53,_=>kernel_rfl | 54,_=>kernel_rfl | 55,_=>kernel_rfl | 56,_=>kernel_rfl | 57,_=>kernel_rfl | 58,_=>kernel_rfl | 59,_=>kernel_rfl | 60,_=>kernel_rfl | 61,_=>kernel_rfl | 62,_=>kernel_rfl | 63,_=>kernel_rfl | 64,_=>kernel_rfl | 65,_=>kernel_rfl | 66,_=>kernel_rfl | 67,_=>kernel_rfl | 68,_=>kernel_rfl | 69,_=>kernel_rfl | 70,_=>kernel_rfl | 71,_=>kernel_rfl | 72,_=>kernel_rfl | 73,_=>kernel_rfl | 74,_=>kernel_rfl | 75,_=>kernel_rfl | 76,_=>kernel_rfl | 77,_=>kernel_rfl | 78,_=>kernel_rfl | 79,_=>kernel_rfl | 80,_=>kernel_rfl | 81,_=>kernel_rfl | 82,_=>kernel_rfl | 83,_=>kernel_rfl | 84,_=>kernel_rfl | 85,_=>kernel_rfl | 86,_=>kernel_rfl | 87,_=>kernel_rfl | 88,_=>kernel_rfl | 89,_=>kernel_rfl | 90,_=>kernel_rfl | 91,_=>kernel_rfl | 92,_=>kernel_rfl | 93,_=>kernel_rfl | 94,_=>kernel_rfl | 95,_=>kernel_rfl | 96,_=>kernel_rfl | 97,_=>kernel_rfl | 98,_=>kernel_rfl | 99,_=>kernel_rfl | (m+100),hm=>exact absurd hm (by omega)
  repeat (any_goals (first | assumption | wp_step))
  all_goals first | exact ⟨_,rfl,h⟩ | skip
def kM:List V→Hp→VK→Prop
 | [.int i],H,Q=>Q (.int i) H
 | [.bl k],H,Q=>Q (.int (if k then 1 else 0)) H
 | [.str z],H,Q=>∃ n:Nat,n < 100∧z=tx (numC n)∧Q (.int n) H
 | _,_,_=>False
theorem lS {X:Cx}:CallR X (.type "int") kM:=by
 intro pins s σ H xs us Q I r h
 unfold kM at h
 split at h
 · exact qO pins s σ H _ us Q I r (.inl ⟨_,rfl,h⟩)
 · exact qO pins s σ H _ us Q I r (.inr ⟨_,rfl,h⟩)
 · obtain ⟨n,hn,rfl,q⟩:=h
   obtain ⟨u,rfl,ru⟩:=cL r
   obtain ⟨t,rfl⟩:=ru
   exact call_int_1 (gis n hn t).meets (show (Made.int (n:Int)).post _ s from ⟨rfl,⟨.int n,H,I.tok _,⟨_,rfl⟩,q⟩⟩)
 · exact h.elim
theorem i6 {k:Bool} {H:Hp} {Q:VK}:kM [.bl k] H Q=Q (.int (if k then 1 else 0)) H:=rfl
theorem i7 {i:Int} {H:Hp} {Q:VK}:kM [.int i] H Q=Q (.int i) H:=rfl
theorem lB {n:Nat} (h:n < 100):Str.ofString (toString (n:Int))=tx (numC n):=by
 have t:((List.range 100).all fun (n:Nat)=>decide (Str.ofString (toString (n:Int))=tx (numC n)))=true:=by decide+kernel
 simpa using List.all_eq_true.mp t n (List.mem_range.mpr h)
theorem oi {n:Nat} (h:n < 100):32∉numC n:=by
 have t:((List.range 100).all fun (n:Nat)=>decide (32∉numC n))=true:=by decide+kernel
 simpa using List.all_eq_true.mp t n (List.mem_range.mpr h)
theorem Az {n:Nat} (h:n < 100):numC n≠[]:=by unfold numC; split <;> simp
theorem gW {n:Nat}:(numC n).length≤2:=by unfold numC; split <;> simp
theorem yL {n:Nat} (h:n < 100):((numC n).head? =some 48→n=0)∧numC 0=[48]:=by
 have t:((List.range 100).all fun (n:Nat)=>decide ((numC n).head? =some 48→n=0))=true:=by decide+kernel
 exact ⟨of_decide_eq_true (List.all_eq_true.mp t n (List.mem_range.mpr h)),rfl⟩
theorem vp {n:Nat} (h:n < 100):∀ c∈numC n,48≤c∧c≤57:=by
 have t:((List.range 100).all fun (n:Nat)=>(numC n).all fun c=>decide (48≤c∧c≤57))=true:=by decide+kernel
 intro c hc
 simpa using List.all_eq_true.mp (List.all_eq_true.mp t n (List.mem_range.mpr h)) c hc
end L2
namespace L2
open PySem PySem.Spec PyProof.Rows
local macro_rules | `(tactic| walk_at "w")=>`(tactic| (first | simp only [aQ,dN,dw,bi,gl,w_c,g8,dy,e7,dO,e8,w_b,w_not,g9,ke,e9,fb,hE,gm,cN,jK,dP,hJ,gn,jL,hV,dQ,fc,fe,ff,c9,da,cC,cr,cu,bS,hX,h9,ia,ib,ic,ie,ig,ii,ij,ik,il,im,kg,fg,cw,fh,kh,fi,db,cx,io,ip,fj,fk,fo,
 List.getElem?_cons_zero,List.getElem?_cons_succ,Option.some.injEq,exists_eq_left',exists_eq_left,List.set_cons_zero,List.set_cons_succ,b4,V.int.injEq,V.bl.injEq,V.ref.injEq,V.str.injEq,List.append_nil,List.nil_append,List.cons_append] | dsimp only | skip))
def aP (K:PySem.W.Frag):Sp:=fun vs H Q _=>∃ (a:Addr) (h w g:Int),vs=[.ref a]∧IsFl H a h w g∧1≤h∧h≤6∧Q (.int (h*w)) H
theorem rA {K:PySem.W.Frag} {vs:List V} {H:Hp} {Q:VK} {E:XK} (h:aP K vs H Q E):vs.length=1:=by
 obtain ⟨_,_,_,_,rfl,_⟩:=h; rfl
def gp (K:PySem.W.Frag):TS:=
 (tRet (tOp cMul (tOp cIx (tVar 0) (tC (.int 0))) (tOp cIx (tVar 0) (tC (.int 1)))))
theorem rB {K:PySem.W.Frag} {vs:List V} {H:Hp} {Q:VK} {E:XK} (h:aP K vs H Q E):gp K { nx:=fun _ H'=>Q .non H',rt:=Q } (start ["floor"] vs) H:=by
 obtain ⟨a,h,w,g,rfl,ha,h0,h1,q⟩:=h
 show gp K _ [some (.ref a)] H
 unfold gp
 walk_at "w"
 rw [gH ha]
 refine aV (a:=V.int h) rfl ?_
 walk_at "w"
 rw [gH ha]
 refine aV (a:=V.int w) rfl ?_
 walk_at "w"
 exact ⟨mP h0 h1,q⟩
def cornB (h w c:Int):Bool:=decide (c / w < h - 1)&&decide (c % w < w - 1)
def dc (K:PySem.W.Frag):Sp:=fun vs H Q _=>∃ (a:Addr) (h w g c:Int),vs=[.ref a,.int c]∧IsFl H a h w g∧0 < w∧w < 100∧∀ H',Same H H'→Q (.bl (cornB h w c)) H'
theorem tq {K:PySem.W.Frag} {vs:List V} {H:Hp} {Q:VK} {E:XK} (h:dc K vs H Q E):vs.length=2:=by
 obtain ⟨_,_,_,_,_,rfl,_⟩:=h; rfl
def iu (K:PySem.W.Frag):TS:=
 (tSeq (tAsg (tCall (cP K) [] E0 (tCons (tVar 0) (tCons (tVar 1) tNil))) (gName 2))
  (tRet (tAndV (tOp (cCmp fun i j=>decide (i < j)) (tOp cIx (tVar 2) (tC (.int 0))) (tOp cSub (tOp cIx (tVar 0) (tC (.int 0))) (tC (.int 1)))) (tOp (cCmp fun i j=>decide (i < j)) (tOp cIx (tVar 2) (tC (.int 1))) (tOp cSub (tOp cIx (tVar 0) (tC (.int 1))) (tC (.int 1)))))))
theorem tu {K:PySem.W.Frag} {vs:List V} {H:Hp} {Q:VK} {E:XK} (h:dc K vs H Q E):iu K { nx:=fun _ H'=>Q .non H',rt:=Q } (start ["floor","cell","spot"] vs) H:=by
 obtain ⟨a,h,w,g,c,rfl,ha,w0,w1,k⟩:=h
 show iu K _ [some (.ref a),some (.int c),none] H
 unfold iu
 walk_at "w"
 refine ⟨a,h,w,g,c,rfl,ha,w0,w1,fun p hp=>?_⟩
 have s1:Same H (upd H p (.tup [.int (c / w),.int (c % w)])):=(Same.refl H).laid hp
 have k1:=k _ s1
 have ha1:=s1 _ _ ha
 have hp1:(upd H p (.tup [.int (c / w),.int (c % w)])) p=some (.tup [.int (c / w),.int (c % w)]):=ag
 generalize upd H p (.tup [.int (c / w),.int (c % w)])=H1 at*
 walk_at "w"
 rw [gH hp1]
 refine aV (a:=V.int (c / w)) rfl ?_
 walk_at "w"
 rw [gH ha1]
 refine aV (a:=V.int h) rfl ?_
 walk_at "w"
 unfold cornB at k1
 cases hb:decide (c / w < h - 1) with
 | false=>
  rw [hb,Bool.false_and] at k1
  exact iteF k1
 | true=>
  rw [hb,Bool.true_and] at k1
  refine iteT ?_
  rw [gH hp1]
  refine aV (a:=V.int (c % w)) rfl ?_
  walk_at "w"
  rw [gH ha1]
  refine aV (a:=V.int w) rfl ?_
  walk_at "w"
  exact k1
def sqL (w c:Int):List Int:=[c,c+1,c+w,c+w+1]
def de (K:PySem.W.Frag):Sp:=fun vs H Q _=>∃ (a:Addr) (h w g c:Int),vs=[.ref a,.int c]∧IsFl H a h w g∧∀ p,H p=none→Q (.ref p) (upd H p (.lst ((sqL w c).map V.int)))
theorem tw {K:PySem.W.Frag} {vs:List V} {H:Hp} {Q:VK} {E:XK} (h:de K vs H Q E):vs.length=2:=by
 obtain ⟨_,_,_,_,_,rfl,_⟩:=h; rfl
def iv (K:PySem.W.Frag):TS:=
 (tSeq (tAsg (tOp cAdd (tVar 1) (tOp cIx (tVar 0) (tC (.int 1)))) (gName 2))
  (tRet (tLst (tCons (tVar 1) (tCons (tOp cAdd (tVar 1) (tC (.int 1))) (tCons (tVar 2) (tCons (tOp cAdd (tVar 2) (tC (.int 1))) tNil)))))))
theorem tz {K:PySem.W.Frag} {vs:List V} {H:Hp} {Q:VK} {E:XK} (h:de K vs H Q E):iv K { nx:=fun _ H'=>Q .non H',rt:=Q } (start ["floor","corner","below"] vs) H:=by
 obtain ⟨a,h,w,g,c,rfl,ha,k⟩:=h
 show iv K _ [some (.ref a),some (.int c),none] H
 unfold iv
 walk_at "w"
 rw [gH ha]
 refine aV (a:=V.int w) rfl ?_
 walk_at "w"
 exact ⟨aK (by show (4:Nat)≤1000; decide),k⟩
def squL (h w:Int):List (List Int):=((List.range (h*w).toNat).filter fun (i:Nat)=>cornB h w i).map fun (i:Nat)=>sqL w i
def fM (K:PySem.W.Frag):Sp:=fun vs H Q _=>∃ (a:Addr) (h w g:Int),vs=[.ref a]∧IsFl H a h w g∧FlOk h w g∧
 ∀ l as H',Same H H'→H l=none→IsLL H' l as (squL h w)→as.Nodup→l∉as→(∀ a∈as,H a=none)→Q (.ref l) H'
theorem wa {K:PySem.W.Frag} {vs:List V} {H:Hp} {Q:VK} {E:XK} (h:fM K vs H Q E):vs.length=1:=by
 obtain ⟨_,_,_,_,rfl,_⟩:=h; rfl
def jV (K:PySem.W.Frag):TS:=
 (tRet (tComp [none,none,some 0] (cU (tCons (tCall (aP K) [] E0 (tCons (tVar 0) tNil)) tNil)) (gName 1) (tB (tCall (dc K) [] E0 (tCons (tVar 2) (tCons (tVar 1) tNil)))) (tCall (de K) [] E0 (tCons (tVar 2) (tCons (tVar 1) tNil)))))
theorem NewAt.ll {H1 H:Hp} {l:Addr} {as:List Addr} {xss:List (List Int)} (x:NewAt H1 H l as (xss.map fun xs=>.lst (xs.map V.int))) (e:H l=some (.lst (as.map V.ref))):IsLL H l as xss:=
 ⟨e,by rw [x.len,List.length_map],fun j a xs h1 h2=>x.at_ j a _ h1 (by rw [List.getElem?_map,h2]; rfl)⟩
theorem wb {K:PySem.W.Frag} {vs:List V} {H:Hp} {Q:VK} {E:XK} (h:fM K vs H Q E):jV K { nx:=fun _ H'=>Q .non H',rt:=Q } (start ["floor"] vs) H:=by
 obtain ⟨a,h,w,g,rfl,ha,F,k⟩:=h
 obtain ⟨h0,h1,w0,w1,m16,g0,g1⟩:=F
 have mpos:0≤h*w:=Int.mul_nonneg (by omega) (by omega)
 show jV K _ [some (.ref a)] H
 unfold jV
 walk_at "w"
 refine ⟨a,h,w,g,rfl,ha,h0,h1,?_⟩
 walk_at "w"
 refine ⟨h*w,rfl,by omega,by omega,?_⟩
 refine uC (fun (i:Nat)=>cornB h w i) (fun (i:Nat)=>.lst ((sqL w i).map V.int)) (by omega) ?_ ?_ ?_
 · intro i H1 R hi s1 k1
   show tB _ [none,some (.int (0+(i:Int))),some (.ref a)] H1 R
   walk_at "w"
   rw [Int.zero_add]
   exact ⟨a,h,w,g,_,rfl,s1 _ _ ha,by omega,by omega,fun H2 s2=>⟨_,rfl,k1 H2 s2⟩⟩
 · intro i H1 Q1 hi hb s1 k1
   show tCall _ _ _ _ [none,some (.int (0+(i:Int))),some (.ref a)] H1 Q1
   walk_at "w"
   rw [Int.zero_add]
   exact ⟨a,h,w,g,_,rfl,s1 _ _ ha,fun p hp=>k1 p _ ((Same.refl H1).laid hp) hp ag⟩
 · intro l as H2 hl s2 el x
   have x':NewAt H H2 l as ((squL h w).map fun xs=>.lst (xs.map V.int)):=by
    unfold squL
    rw [List.map_map]
    exact x
   exact k l as H2 s2 hl (x'.ll el) x.nd x.nl x.fr
end L2
namespace L2
open PySem PySem.Spec PyProof.Rows
local macro_rules | `(tactic| walk_at "w")=>`(tactic| (first | simp only [aQ,kn,lQ,gI,ko,i6,i7,lR,lN,kl,lO,if_true,if_false,Bool.false_eq_true,decide_true,decide_false,gR,gS,kK,fu,dr,gP,jE,gQ,ft,jC,jD,fq,kF,fv,fw,fA,fB,fC,fD,fz,jG,jH,jI,jA,kJ,Bool.not_true,Bool.not_false,dN,dw,bi,gl,w_c,g8,dy,e7,dO,e8,w_b,w_not,g9,ke,e9,fb,hE,gm,cN,jK,dP,hJ,gn,jL,hV,dQ,fc,fe,ff,c9,da,cC,cr,cu,bS,hX,h9,ia,ib,ic,ie,ig,ii,ij,ik,il,im,kg,fg,cw,fh,kh,fi,db,cx,io,ip,fj,fk,fo,
 List.getElem?_cons_zero,List.getElem?_cons_succ,Option.some.injEq,exists_eq_left',exists_eq_left,List.set_cons_zero,List.set_cons_succ,b4,V.int.injEq,V.bl.injEq,V.ref.injEq,V.str.injEq,List.append_nil,List.nil_append,List.cons_append] | dsimp only | skip))
def nmC:RK→List Nat
 | .Rule=>[]
 | .Unlike=>[117,110,108,105,107,101]
 | .Sum=>[115,117,109]
 | .Rising=>[114,105,115,105,110,103]
 | .Seen=>[115,101,101,110]
 | .Count=>[99,111,117,110,116]
 | .Joined=>[106,111,105,110,101,100]
 | .NoSquare=>[110,111,115,113,117,97,114,101]
 | .Ring=>[114,105,110,103]
def fN:List Str:=[tx [115,117,109],tx [115,101,101,110],tx [99,111,117,110,116]]
def fE:List Str:=[tx [99,111,117,110,116],tx [106,111,105,110,101,100],tx [110,111,115,113,117,97,114,101],tx [114,105,110,103]]
def d3:List Str:=[tx [106,111,105,110,101,100],tx [110,111,115,113,117,97,114,101],tx [114,105,110,103]]
def rFs (p W C:Addr) (n m:Int):List (Str × V):=[("floor",.ref p),("words",.ref W),("cells",.ref C),("amount",.int n),("mark",.int m)]
structure IsRule (H:Hp) (c:RCl RK) (k:RK) (r p:Addr) (ws:List (List Nat)) (cs:List Int) (n m:Int):Prop where
 ok:c.ok k=true
 ex:∃ dx W C,H r=some (.ins (c.A k) dx (rFs p W C n m))∧H W=some (.tup ((ws.map tx).map V.str))∧H C=some (.tup (cs.map V.int))
theorem IsRule.same {H H':Hp} {c:RCl RK} {k:RK} {r p:Addr} {ws:List (List Nat)} {cs:List Int} {n m:Int} (x:IsRule H c k r p ws cs n m) (s:Same H H'):IsRule H' c k r p ws cs n m:=by
 obtain ⟨dx,W,C,h1,h2,h3⟩:=x.ex
 exact ⟨x.ok,dx,W,C,s _ _ h1,s _ _ h2,s _ _ h3⟩
section
variable {ι:Type} {c:RCl ι} {σ:St} {H:Hp} {Q:VK} {i:Nat} {r dx:Addr} {k:ι} {fs:List (Str × V)} {f m:Str} {v:V} {okm:ι→Bool} {sp:ι→Sp} {t:TA} {D:Ends} {tv:TE} {y:V} {H1:Hp}
theorem fldE (hσ:σ[i]? =some (some (.ref r))) (ok:c.ok k=true) (hr:H r=some (.ins (c.A k) dx fs)) (hl:fs.lookup f=some v) (q:Q v H):tFldK c (tVar i) f σ H Q:=⟨_,hσ,r,k,dx,fs,v,rfl,ok,hr,hl,q⟩
theorem methE (hσ:σ[i]? =some (some (.ref r))) (ok:okm k=true) (hr:H r=some (.ins (c.A k) dx fs)) (hl:fs.lookup m=none) (q:t σ H fun vs H2=>sp k (.ref r::vs) H2 Q E0):aL c okm m sp (tVar i) t σ H Q:=⟨_,hσ,r,k,dx,fs,rfl,ok,hr,hl,q⟩
theorem sfldV {j:Nat} {x:V} (hj:σ[j]? =some (some x)) (hσ:σ[i]? =some (some (.ref r))) (ok:c.ok k=true) (hr:H r=some (.ins (c.A k) dx fs)) (hn:fs.length < 1000) (q:D.nx σ (upd H r (.ins (c.A k) dx (putF f x fs)))):sFldK c (tVar i) (tVar j) f D σ H:=
 ⟨x,hj,_,hσ,r,k,dx,fs,rfl,ok,hr,hn,q⟩
theorem sfldT {K:PySem.W.Frag} {j:Nat} {p:Addr} {xs:List V} (hj:σ[j]? =some (some (.ref p))) (hp:H p=some (.lst xs)) (hσ:σ[i]? =some (some (.ref r))) (ok:c.ok k=true) (hr:H r=some (.ins (c.A k) dx fs)) (hn:fs.length < 1000)
  (q:∀ l,H l=none→D.nx σ (upd (upd H l (.tup xs)) r (.ins (c.A k) dx (putF f (.ref l) fs)))):sFldK c (tVar i) (tCB (km K) (tCons (tVar j) tNil)) f D σ H:=by
 unfold sFldK
 walk_at "w"
 refine ⟨_,hj,zF hp fun l hl=>?_⟩
 exact ⟨_,hσ,r,k,dx,fs,rfl,ok,by rw [aj (az hr hl)]; exact hr,hn,q l hl⟩
end
theorem zI {H:Hp} {Q:VK} {p:Addr} {xs:List V} (hp:H p=some (.tup xs)) (h:∀ l,H l=none→Q (.ref l) (upd H l (.lst xs))):kList [.ref p] H Q:=by
 unfold kList
 dsimp only
 rw [hp]
 exact h
theorem zJ {H:Hp} {Q:VK} {sep:Str} {p:Addr} {ts:List Str} (hp:H p=some (.lst (ts.map V.str))) (hok:JoinOk sep ts=true) (h:Q (.str (Txt.join sep ts)) H):mQ (.str sep) [.ref p] H Q:=by
 unfold mQ
 dsimp only
 rw [hp]
 exact ⟨ts,rfl,hok,h⟩
theorem rb {K:PySem.W.Frag} {a:Addr} {k:Nat} {tt:TT} {te:TE} {fin:Addr→Hp→Prop} {σ0:St} {H1:Hp} {xs:List Int} (b:Int→Bool) (f:Int→Int) (hn:xs.length≤900) (hq:H1 a=some (.tup (xs.map V.int)))
  (ht:∀ x H R,x∈xs→Same H1 H→(∀ H',Same H H'→R (b x) H')→tt (σ0.set k (some (.int x))) H R)
  (he:∀ x H Q,x∈xs→b x=true→Same H1 H→(∀ H',Same H H'→Q (.int (f x)) H')→te (σ0.set k (some (.int x))) H Q)
  (hd:∀ l H,H1 l=none→Same H1 H→H l=some (.lst (((xs.filter b).map f).map V.int))→fin l H):CompR (Itt K a) (gName k) tt te fin σ0 H1:=by
 refine yK (xs:=xs.map V.int) (fun l i σ H=>(σ=σ0∨∃ cv,σ=σ0.set k cv)∧Same H1 H∧H l=some (.lst ((((xs.take i).filter b).map f).map V.int))) (fun l hl=>⟨.inl rfl,(Same.refl H1).laid hl,by rw [ag]; rfl⟩) (fun l i σ H _ _ p=>SqT.of (p.2.1 _ _ hq)) ?_ (fun l σ H hl p=>hd l H hl p.2.1 (by have:=p.2.2; rw [List.length_map,List.take_length] at this; exact this))
 rintro l i x σ H hl hx ⟨hσ,s1,el⟩
 obtain ⟨z,hz,rfl⟩:=bz hx
 have hi:i < xs.length:=(List.getElem?_eq_some_iff.mp hz).1
 have et:xs.take (i+1)=xs.take i++[z]:=by rw [List.take_succ,hz]; rfl
 rw [bi]
 have e:σ.set k (some (.int z))=σ0.set k (some (.int z)):=by
  rcases hσ with rfl | ⟨cv,rfl⟩
  · rfl
  · exact List.set_set ..
 rw [e]
 refine ht z H _ (List.mem_of_getElem? hz) s1 fun H2 s2=>?_
 have el2:=s2 _ _ el
 have hlen:((((xs.take i).filter b).map f).map V.int).length < sizeLine:=by
  rw [List.length_map,List.length_map]
  refine aE (Nat.le_trans (List.length_filter_le b _) ?_)
  rw [List.length_take]
  omega
 cases hb:b z with
 | false=>
  rw [if_neg Bool.false_ne_true]
  refine ⟨.inr ⟨_,rfl⟩,s1.trans s2,?_⟩
  rw [et,List.filter_append,List.filter_cons,hb]
  simpa using el2
 | true=>
  rw [if_pos rfl]
  refine he z H2 _ (List.mem_of_getElem? hz) hb (s1.trans s2) fun H3 s3=>⟨_,s3 _ _ el2,hlen,.inr ⟨_,rfl⟩,((s1.trans s2).trans s3).own hl,?_⟩
  rw [ag,et,List.filter_append,List.filter_cons,hb]
  simp
def nE (K:PySem.W.Frag) (c:RCl RK) (k:RK):Sp:=fun vs H Q _=>∃ (r p:Addr) (w:List Nat) (ws:List (List Nat)) (cs:List Int) (n m:Int),vs=[.ref r]∧IsRule H c k r p (w::ws) cs n m∧Q (.str (tx w)) H
def cT (K:PySem.W.Frag) (c:RCl RK) (k:RK):Sp:=fun vs H Q _=>∃ (r p:Addr) (ws:List (List Nat)) (cs:List Int) (n m:Int),vs=[.ref r]∧IsRule H c k r p ws cs n m∧∀ l,H l=none→Q (.ref l) (upd H l (.lst (cs.map V.int)))
def dt (K:PySem.W.Frag) (c:RCl RK) (k:RK):Sp:=fun vs H Q _=>∃ (r p:Addr) (ws:List (List Nat)) (cs:List Int) (n m:Int),vs=[.ref r]∧IsRule H c k r p ws cs n m∧Q (.int n) H
def lC (K:PySem.W.Frag) (c:RCl RK) (k:RK):Sp:=fun vs H Q _=>∃ (r p:Addr) (ws:List (List Nat)) (cs:List Int) (n m:Int),vs=[.ref r]∧IsRule H c k r p ws cs n m∧Q (.int m) H
def sgAt (xs cs:List Int):List Int:=cs.map fun c=>xs.getD c.toNat 0
def mkAt (xs cs:List Int) (m:Int):List Int:=cs.filter fun c=>decide (xs.getD c.toNat 0=m)
def bj (cs:List Int) (n:Nat):Prop:=cs.length≤63∧∀ c∈cs,0≤c∧c < n
def bA (K:PySem.W.Frag) (c:RCl RK) (k:RK):Sp:=fun vs H Q _=>∃ (r p f:Addr) (ws:List (List Nat)) (cs xs:List Int) (n m:Int),vs=[.ref r,.ref f]∧IsRule H c k r p ws cs n m∧H f=some (.lst (xs.map V.int))∧bj cs xs.length∧
 ∀ l H',Same H H'→H l=none→H' l=some (.lst ((sgAt xs cs).map V.int))→Q (.ref l) H'
def bG (K:PySem.W.Frag) (c:RCl RK) (k:RK):Sp:=fun vs H Q _=>∃ (r p f:Addr) (ws:List (List Nat)) (cs xs:List Int) (n m:Int),vs=[.ref r,.ref f]∧IsRule H c k r p ws cs n m∧H f=some (.lst (xs.map V.int))∧bj cs xs.length∧
 ∀ l H',Same H H'→H l=none→H' l=some (.lst ((mkAt xs cs m).map V.int))→Q (.ref l) H'
def risB:List Int→Bool
 | x::y::r=>decide (x < y)&&risB (y::r)
 | _=>true
def seenN (xs:List Int):Int × Int:=xs.foldl (fun a x=>if a.1 < x then (x,a.2+1) else a) (0,0)
noncomputable def joinB (h w:Int) (ms:List Int):Bool:=@decide (ms=[]∨(ms.Pairwise (· < ·)∧∀ x∈ms,RC h w ms (ms.headD 0) x)) (Classical.propDecidable _)
def twoB (h w:Int) (ms:List Int) (c:Int):Bool:=decide (((besL h w c).filter fun y=>decide (y∈ms)).length=2)
noncomputable def hoB (k:RK) (h w:Int) (cs:List Int) (n m:Int) (xs:List Int):Bool:=match k with
 | .Unlike=>decide (cntD (sgAt xs cs)=(sgAt xs cs).length)
 | .Sum=>decide ((sgAt xs cs).sum=n)
 | .Rising=>risB (sgAt xs cs)
 | .Seen=>decide ((seenN (sgAt xs cs)).2=n)
 | .Count=>decide (((mkAt xs cs m).length:Int)=n)
 | .NoSquare=>!((squL h w).any fun sq=>sq.all fun c=>decide (c∈mkAt xs cs m))
 | .Joined=>joinB h w (mkAt xs cs m)
 | .Ring=>joinB h w (mkAt xs cs m)&&(mkAt xs cs m).all (twoB h w (mkAt xs cs m))
 | _=>true
def cy (K:PySem.W.Frag) (c:RCl RK) (k:RK):Sp:=fun vs H Q _=>∃ (r p f:Addr) (ws:List (List Nat)) (cs xs:List Int) (n m h w g:Int),vs=[.ref r,.ref f]∧IsRule H c k r p ws cs n m∧IsFl H p h w g∧FlOk h w g∧H f=some (.lst (xs.map V.int))∧bj cs xs.length∧(∀ x∈xs,0≤x∧x≤1000)∧
 ∀ H',Same H H'→Q (.bl (hoB k h w cs n m xs)) H'
def cz (K:PySem.W.Frag) (c:RCl RK) (k:RK):Sp:=fun vs H Q _=>∃ (r p C:Addr) (ws:List (List Nat)) (cs ms:List Int) (n m h w g:Int),vs=[.ref r,.ref C]∧IsRule H c k r p ws cs n m∧IsFl H p h w g∧FlOk h w g∧H C=some (.lst (ms.map V.int))∧ms.length≤63∧
 ∀ H',Same H H'→Q (.bl (joinB h w ms)) H'
def cV (K:PySem.W.Frag) (c:RCl RK) (k:RK):Sp:=fun vs H Q _=>∃ (r p C:Addr) (ws:List (List Nat)) (cs ms:List Int) (n m h w g z:Int),vs=[.ref r,.ref C,.int z]∧IsRule H c k r p ws cs n m∧IsFl H p h w g∧FlOk h w g∧H C=some (.lst (ms.map V.int))∧ms.length≤63∧
 ∀ H',Same H H'→Q (.bl (twoB h w ms z)) H'
def au (K:PySem.W.Frag) (c:RCl RK):Sp:=fun vs H Q _=>∃ (k:RK) (x dx p W C:Addr) (ws:List (List Nat)) (cs:List Int) (n m:Int),vs=[.ref x,.ref p,.ref W,.ref C,.int n,.int m]∧c.ok k=true∧H x=some (.ins (c.A k) dx [])∧W≠x∧C≠x∧
 H W=some (.lst ((ws.map tx).map V.str))∧H C=some (.lst (cs.map V.int))∧∀ H',(∀ b o,b≠x→H b=some o→H' b=some o)→IsRule H' c k x p ws cs n m→Q .non H'
theorem oj {K:PySem.W.Frag} {c:RCl RK} {vs:List V} {H:Hp} {Q:VK} {E:XK} (h:au K c vs H Q E):vs.length=6:=by
 obtain ⟨_,_,_,_,_,_,_,_,_,_,rfl,_⟩:=h; rfl
def dA (K:PySem.W.Frag) (c:RCl RK):TS:=
 (tSeq (sFldK c (tVar 0) (tVar 1) "floor")
  (tSeq (sFldK c (tVar 0) (tCB (km K) (tCons (tVar 2) tNil)) "words")
  (tSeq (sFldK c (tVar 0) (tCB (km K) (tCons (tVar 3) tNil)) "cells")
  (tSeq (sFldK c (tVar 0) (tVar 4) "amount")
  (sFldK c (tVar 0) (tVar 5) "mark")))))
theorem oo {K:PySem.W.Frag} {c:RCl RK} {vs:List V} {H:Hp} {Q:VK} {E:XK} (h:au K c vs H Q E):dA K c { nx:=fun _ H'=>Q .non H',rt:=Q } (start ["self","floor","words","cells","amount","mark"] vs) H:=by
 obtain ⟨k,x,dx,p,W,C,ws,cs,n,m,rfl,ok,hx,nW,nC,hW,hC,q⟩:=h
 show dA K c _ [some (.ref x),some (.ref p),some (.ref W),some (.ref C),some (.int n),some (.int m)] H
 unfold dA
 walk_at "w"
 refine sfldV (k:=k) (j:=1) rfl rfl ok hx (by decide) ?_
 walk_at "w"
 refine sfldT (k:=k) (j:=2) (p:=W) rfl (by rw [aj nW]; exact hW) rfl ok ag (by show (1:Nat) < 1000; decide) fun l1 h1=>?_
 have n1:l1≠x:=fun e=>by rw [e,ag] at h1; cases h1
 have g1:H l1=none:=by rw [aj n1] at h1; exact h1
 walk_at "w"
 refine sfldT (k:=k) (j:=3) (p:=C) rfl (by rw [aj nC,aj (az hC g1),aj nC]; exact hC) rfl ok ag (by show (2:Nat) < 1000; decide) fun l2 h2=>?_
 have n2:l2≠x:=fun e=>by rw [e,ag] at h2; cases h2
 have n21:l2≠l1:=fun e=>by rw [e,aj n1,ag] at h2; cases h2
 have g2:H l2=none:=by rw [aj n2,aj n21,aj n2] at h2; exact h2
 walk_at "w"
 refine sfldV (k:=k) (j:=4) rfl rfl ok ag (by show (3:Nat) < 1000; decide) ?_
 refine sfldV (k:=k) (j:=5) rfl rfl ok ag (by show (4:Nat) < 1000; decide) ?_
 refine q _ (fun b o hb e=>?_) ⟨ok,dx,l1,l2,by rw [ag]; rfl,?_,?_⟩
 · rw [aj hb,aj hb,aj hb,aj (az e g2),aj hb,aj (az e g1),aj hb]
   exact e
 · rw [aj n1,aj n1,aj n1,aj n21.symm,aj n1,ag]
 · rw [aj n2,aj n2,aj n2,ag]
def iw (K:PySem.W.Frag) (c:RCl RK):Sp:=fun vs H Q E=>∃ k,nE K c k vs H Q E
theorem tD {K:PySem.W.Frag} {c:RCl RK} {vs:List V} {H:Hp} {Q:VK} {E:XK} (h:iw K c vs H Q E):vs.length=1:=by
 obtain ⟨_,_,_,_,_,_,_,_,rfl,_⟩:=h; rfl
def iy (K:PySem.W.Frag) (c:RCl RK):TS:=
 (tRet (tOp cIx (tFldK c (tVar 0) "words") (tC (.int 0))))
theorem tE {K:PySem.W.Frag} {c:RCl RK} {vs:List V} {H:Hp} {Q:VK} {E:XK} (h:iw K c vs H Q E):iy K c { nx:=fun _ H'=>Q .non H',rt:=Q } (start ["self"] vs) H:=by
 obtain ⟨k,r,p,w,ws,cs,n,m,rfl,x,q⟩:=h
 obtain ⟨dx,W,C,h1,h2,h3⟩:=x.ex
 show iy K c _ [some (.ref r)] H
 unfold iy
 walk_at "w"
 refine fldE rfl x.ok h1 (v:=.ref W) (by rfl) ?_
 walk_at "w"
 have e0:atI (((w::ws).map tx).map V.str) 0=some (V.str (tx w)):=fL (j:=0) rfl
 exact ixT h2 e0 q
def gq (K:PySem.W.Frag) (c:RCl RK):Sp:=fun vs H Q E=>∃ k,cT K c k vs H Q E
theorem rC {K:PySem.W.Frag} {c:RCl RK} {vs:List V} {H:Hp} {Q:VK} {E:XK} (h:gq K c vs H Q E):vs.length=1:=by
 obtain ⟨_,_,_,_,_,_,_,rfl,_⟩:=h; rfl
def gr (K:PySem.W.Frag) (c:RCl RK):TS:=
 (tRet (tCB kList (tCons (tFldK c (tVar 0) "cells") tNil)))
theorem rD {K:PySem.W.Frag} {c:RCl RK} {vs:List V} {H:Hp} {Q:VK} {E:XK} (h:gq K c vs H Q E):gr K c { nx:=fun _ H'=>Q .non H',rt:=Q } (start ["self"] vs) H:=by
 obtain ⟨k,r,p,ws,cs,n,m,rfl,x,q⟩:=h
 obtain ⟨dx,W,C,h1,h2,h3⟩:=x.ex
 show gr K c _ [some (.ref r)] H
 unfold gr
 walk_at "w"
 refine fldE rfl x.ok h1 (v:=.ref C) (by rfl) ?_
 walk_at "w"
 exact zI h3 q
def fO (K:PySem.W.Frag) (c:RCl RK):Sp:=fun vs H Q E=>∃ k,dt K c k vs H Q E
theorem qt {K:PySem.W.Frag} {c:RCl RK} {vs:List V} {H:Hp} {Q:VK} {E:XK} (h:fO K c vs H Q E):vs.length=1:=by
 obtain ⟨_,_,_,_,_,_,_,rfl,_⟩:=h; rfl
def fP (K:PySem.W.Frag) (c:RCl RK):TS:=
 (tRet (tFldK c (tVar 0) "amount"))
theorem qu {K:PySem.W.Frag} {c:RCl RK} {vs:List V} {H:Hp} {Q:VK} {E:XK} (h:fO K c vs H Q E):fP K c { nx:=fun _ H'=>Q .non H',rt:=Q } (start ["self"] vs) H:=by
 obtain ⟨k,r,p,ws,cs,n,m,rfl,x,q⟩:=h
 obtain ⟨dx,W,C,h1,h2,h3⟩:=x.ex
 show fP K c _ [some (.ref r)] H
 unfold fP
 walk_at "w"
 exact fldE rfl x.ok h1 (v:=.int n) (by rfl) q
def iz (K:PySem.W.Frag) (c:RCl RK):Sp:=fun vs H Q E=>∃ k,lC K c k vs H Q E
theorem tF {K:PySem.W.Frag} {c:RCl RK} {vs:List V} {H:Hp} {Q:VK} {E:XK} (h:iz K c vs H Q E):vs.length=1:=by
 obtain ⟨_,_,_,_,_,_,_,rfl,_⟩:=h; rfl
def iA (K:PySem.W.Frag) (c:RCl RK):TS:=
 (tRet (tFldK c (tVar 0) "mark"))
theorem tG {K:PySem.W.Frag} {c:RCl RK} {vs:List V} {H:Hp} {Q:VK} {E:XK} (h:iz K c vs H Q E):iA K c { nx:=fun _ H'=>Q .non H',rt:=Q } (start ["self"] vs) H:=by
 obtain ⟨k,r,p,ws,cs,n,m,rfl,x,q⟩:=h
 obtain ⟨dx,W,C,h1,h2,h3⟩:=x.ex
 show iA K c _ [some (.ref r)] H
 unfold iA
 walk_at "w"
 exact fldE rfl x.ok h1 (v:=.int m) (by rfl) q
def dB (K:PySem.W.Frag) (c:RCl RK):Sp:=fun vs H Q E=>∃ k,bA K c k vs H Q E
theorem oq {K:PySem.W.Frag} {c:RCl RK} {vs:List V} {H:Hp} {Q:VK} {E:XK} (h:dB K c vs H Q E):vs.length=2:=by
 obtain ⟨_,_,_,_,_,_,_,_,_,rfl,_⟩:=h; rfl
def dC (K:PySem.W.Frag) (c:RCl RK):TS:=
 (tRet (tComp [none,none,some 1] (iTup K (tFldK c (tVar 0) "cells")) (gName 1) tTrue (tOp cIx (tVar 2) (tVar 1))))
theorem or {K:PySem.W.Frag} {c:RCl RK} {vs:List V} {H:Hp} {Q:VK} {E:XK} (h:dB K c vs H Q E):dC K c { nx:=fun _ H'=>Q .non H',rt:=Q } (start ["self","filling"] vs) H:=by
 obtain ⟨k,r,p,f,ws,cs,xs,n,m,rfl,x,hf,⟨hn,hc⟩,q⟩:=h
 obtain ⟨dx,W,C,h1,h2,h3⟩:=x.ex
 show dC K c _ [some (.ref r),some (.ref f)] H
 unfold dC
 rw [dy,vo]
 refine fldE rfl x.ok h1 (v:=.ref C) (by rfl) ?_
 refine ⟨C,rfl,⟨_,SqT.of h3⟩,?_⟩
 refine rb (xs:=cs) (fun _=>true) (fun c=>xs.getD c.toNat 0) (by omega) h3 ?_ ?_ ?_
 · intro x H1 R hx s1 k1
   exact k1 _ (Same.refl _)
 · intro z H1 Q1 hz hb s1 k1
   show tOp cIx _ _ [none,some (.int z),some (.ref f)] H1 Q1
   walk_at "w"
   have:=hc z hz
   exact ixI (s1 _ _ hf) this.1 (by omega) (k1 _ (Same.refl _))
 · intro l H1 hl s1 el
   rw [bf] at el
   exact q l H1 s1 hl el
def df (K:PySem.W.Frag):Sp:=fun vs H Q _=>∃ n:Nat,vs=[.str (tx (numC n))]∧n < 100∧∀ H',Same H H'→Q (.int n) H'
theorem tH {K:PySem.W.Frag} {vs:List V} {H:Hp} {Q:VK} {E:XK} (h:df K vs H Q E):vs.length=1:=by
 obtain ⟨_,rfl,_⟩:=h; rfl
def iB (K:PySem.W.Frag):TS:=
 (tSeq (tIfS (tOr (tTest (tOp (cEq K) (tVar 0) (tC (.str (tx []))))) (tOr (tTest (tOp (cCmp fun i j=>decide (j < i)) (tCB kLen (tCons (tVar 0) tNil)) (tC (.int 9)))) (tAnd (tTest (tOp (cEq K) (tOp cIx (tVar 0) (tC (.int 0))) (tC (.str (tx [48]))))) (tTest (tOp (cNe K) (tVar 0) (tC (.str (tx [48])))))))) (tRet (tC .non)) tNext)
  (tSeq (tIfS (tNot (tB (tCB kAll (tCons (tComp [none,none] (iStr (tVar 0)) (gName 1) tTrue (tOp (cIn K false) (tVar 1) (tC (.str (tx [48,49,50,51,52,53,54,55,56,57]))))) tNil)))) (tRet (tC .non)) tNext)
  (tRet (tCB kM (tCons (tVar 0) tNil)))))
theorem AA {c:Nat} (h0:48≤c) (h1:c≤57):(!(Builtin.Str.occurrences (tx [48,49,50,51,52,53,54,55,56,57]) ⟨#[c]⟩ 0 (tx [48,49,50,51,52,53,54,55,56,57]).length 1).isEmpty)=true:=by
 have t:((List.range 58).all fun c=>!decide (48≤c)||!(Builtin.Str.occurrences (tx [48,49,50,51,52,53,54,55,56,57]) ⟨#[c]⟩ 0 (tx [48,49,50,51,52,53,54,55,56,57]).length 1).isEmpty)=true:=by decide+kernel
 have:=List.all_eq_true.mp t c (List.mem_range.mpr (by omega))
 simpa [h0] using this
theorem tI {K:PySem.W.Frag} {vs:List V} {H:Hp} {Q:VK} {E:XK} (h:df K vs H Q E):iB K { nx:=fun _ H'=>Q .non H',rt:=Q } (start ["word"] vs) H:=by
 obtain ⟨n,rfl,hn,q⟩:=h
 have hne:=Az hn
 have hl:=gW (n:=n)
 show iB K _ [some (.str (tx (numC n)))] H
 unfold iB
 rw [aQ,aH]
 walk_at "w"
 rw [bT,decide_eq_false hne]
 refine iteF ⟨by rw [iq]; exact aK (by omega),?_⟩
 walk_at "w"
 rw [iq,decide_eq_false (show ¬ (9:Int) < ((numC n).length:Nat) by omega)]
 refine iteF ?_
 rw [A3,iq,pe]
 obtain ⟨c,r,ec⟩:∃ c r,numC n=c::r:=by
  cases e:numC n with
  | nil=>exact absurd e hne
  | cons c r=>exact ⟨c,r,rfl⟩
 refine ⟨aK (by omega),aV (a:=c) (by rw [ec]; exact fL (j:=0) rfl) ?_⟩
 walk_at "w"
 have e1:decide ((⟨#[c]⟩:Str)=tx [48])=decide (c=48):=by
  have:(⟨#[c]⟩:Str)=tx [c]:=rfl
  rw [this,bT]
  simp
 rw [e1,bT]
 have e2:(decide (c=48)=true→decide (numC n=[48])=true):=by
  intro h
  rw [decide_eq_true_eq] at h
  have:=(yL hn).1 (by rw [ec,h]; rfl)
  subst this
  decide
 have goal2:tSeq (tIfS (tNot (tB (tCB kAll (tCons (tComp [none,none] (iStr (tVar 0)) (gName 1) tTrue (tOp (cIn K false) (tVar 1) (tC (.str (tx [48,49,50,51,52,53,54,55,56,57]))))) tNil)))) (tRet (tC .non)) tNext) (tRet (tCB kM (tCons (tVar 0) tNil)))
   { nx:=fun _ H'=>Q .non H',rt:=Q } [some (.str (tx (numC n)))] H:=by
  rw [aQ,aH]
  walk_at "w"
  refine xM (cs:=numC n) (fun _=>true) (fun _=>.bl true) (by omega) ?_ ?_ ?_
  · intro i c H1 R hc s1 k1
    exact k1 _ (Same.refl _)
  · intro i c H1 Q1 hc hb s1 k1
    have hd:=vp hn c (List.mem_of_getElem? hc)
    show tOp (cIn K false) _ _ [none,some (.str (tx [c]))] H1 Q1
    walk_at "w"
    have q1:=k1 _ (Same.refl H1)
    show Q1 (.bl (if false=true then _ else !(Builtin.Str.occurrences (tx [48,49,50,51,52,53,54,55,56,57]) (tx [c]) 0 (tx [48,49,50,51,52,53,54,55,56,57]).length 1).isEmpty)) H1
    rw [if_neg Bool.false_ne_true,show tx [c]=⟨#[c]⟩ from rfl,AA hd.1 hd.2]
    exact q1
  · intro l H1 hl1 s1 el
    have eb:((List.range (numC n).length).filter fun _=>true).map (fun _=>V.bl true)=(List.replicate (numC n).length true).map V.bl:=by
     rw [bf,List.map_const',List.length_range,List.map_replicate]
    rw [eb] at el
    refine kG el ?_
    have ea:(List.replicate (numC n).length true).all id=true:=by
     rw [List.all_eq_true]
     intro b hb
     exact (List.mem_replicate.mp hb).2
    rw [ea]
    walk_at "w"
    exact ⟨n,hn,rfl,q _ s1⟩
 cases hc:decide (c=48) with
 | false=>
  refine iteF ?_
  exact goal2
 | true=>
  refine iteT ?_
  rw [e2 hc]
  exact goal2
def bg (K:PySem.W.Frag):Sp:=fun vs H Q _=>∃ (n:Nat) (lo hi:Int),vs=[.str (tx (numC n)),.int lo,.int hi]∧n < 100∧lo≤n∧n≤hi∧∀ H',Same H H'→Q (.int n) H'
theorem ot {K:PySem.W.Frag} {vs:List V} {H:Hp} {Q:VK} {E:XK} (h:bg K vs H Q E):vs.length=3:=by
 obtain ⟨_,_,_,rfl,_⟩:=h; rfl
def dD (K:PySem.W.Frag):TS:=
 (tSeq (tAsg (tCall (df K) [] E0 (tCons (tVar 0) tNil)) (gName 3))
  (tSeq (tIfS (tOr (tTest (tOp rIsN (tVar 3) (tC .non))) (tOr (tTest (tOp (cCmp fun i j=>decide (i < j)) (tVar 3) (tVar 1))) (tTest (tOp (cCmp fun i j=>decide (j < i)) (tVar 3) (tVar 2))))) cq tNext)
  (tRet (tVar 3))))
theorem ou {K:PySem.W.Frag} {vs:List V} {H:Hp} {Q:VK} {E:XK} (h:bg K vs H Q E):dD K { nx:=fun _ H'=>Q .non H',rt:=Q } (start ["word","least","most","number"] vs) H:=by
 obtain ⟨n,lo,hi,rfl,hn,h0,h1,q⟩:=h
 show dD K _ [some (.str (tx (numC n))),some (.int lo),some (.int hi),none] H
 unfold dD
 walk_at "w"
 refine ⟨n,rfl,hn,fun H1 s1=>?_⟩
 walk_at "w"
 rw [aH]
 walk_at "w"
 rw [decide_eq_false (show ¬ V.int n=V.non from fun e=>nomatch e)]
 refine iteF ?_
 rw [decide_eq_false (show ¬ (n:Int) < lo by omega)]
 refine iteF ?_
 rw [decide_eq_false (show ¬ hi < (n:Int) by omega)]
 refine iteF ?_
 walk_at "w"
 exact q _ s1
def WOk (ws:List (List Nat)):Prop:=∀ w∈ws,∀ c∈w,c < 128
theorem WOk.cons {w:List Nat} {ws:List (List Nat)} (h:∀ c∈w,c < 128) (hs:WOk ws):WOk (w::ws):=fun v hv=>by
 rcases List.mem_cons.mp hv with rfl | hv
 · exact h
 · exact hs v hv
theorem qv {n:Nat} (h:n < 100):∀ c∈numC n,c < 128:=fun c hc=>by have:=vp h c hc; omega
theorem A5 {w:List Nat} (h:∀ c∈w,c < 128):PyData.strOk (tx w)=true:=by
 unfold PyData.strOk
 simp [tx]
 intro c hc
 have:=h c hc
 omega
theorem WOk.strs {ws:List (List Nat)} (h:WOk ws):∀ x∈ws.map tx,PyData.strOk x=true:=fun x hx=>by
 obtain ⟨w,hw,rfl⟩:=List.mem_map.mp hx
 exact A5 (h w hw)
def bq (K:PySem.W.Frag):Sp:=fun vs H Q _=>∃ (p:Addr) (n:Nat) (ws:List (List Nat)) (lo hi:Int),vs=[.ref p,.int lo,.int hi]∧H p=some (.lst (((numC n::ws).map tx).map V.str))∧n < 100∧WOk ws∧lo≤n∧n≤hi∧∀ H',Same H H'→Q (.int n) H'
theorem ph {K:PySem.W.Frag} {vs:List V} {H:Hp} {Q:VK} {E:XK} (h:bq K vs H Q E):vs.length=3:=by
 obtain ⟨_,_,_,_,_,rfl,_⟩:=h; rfl
def d4 (K:PySem.W.Frag):TS:=
 (tSeq (tIfS (tTest (tOp (cEq K) (tVar 0) (tLst tNil))) cq tNext)
  (tRet (tCall (bg K) [] E0 (tCons (tOp cIx (tVar 0) (tC (.int 0))) (tCons (tVar 1) (tCons (tVar 2) tNil))))))
theorem DVs.strs {K:PySem.W.Frag} {H:Hp}:∀ ns:List Str,DVs K H (ns.map V.str) (ns.map PyData.str)
 | []=>.nil
 | n::r=>.cons (.str n) (DVs.strs r)
theorem rd (a b:Str):PyData.eqv (.str a) (.str b)=decide (a=b):=by
 rw [PyData.eqv]
 by_cases h:a=b
 · subst h; simp
 · simp [h]
theorem jo (ns:List Str) (hs:∀ x∈ns,PyData.strOk x=true):SeqAt.shaped (.list (ns.map PyData.str))=true:=by
 have h1:PyData.canLayAll0 (ns.map PyData.str)=true:=vm fun d hd=>by obtain ⟨x,hx,rfl⟩:=List.mem_map.mp hd; rw [PyData.canLay0]; exact hs x hx
 have h2:PyData.depthAll (ns.map PyData.str)≤0:=q5 fun d hd=>by obtain ⟨x,_,rfl⟩:=List.mem_map.mp hd; exact Nat.le_refl _
 simp [SeqAt.shaped,PyData.canLay0,h1,PyData.depth]
 omega
theorem AB {K:PySem.W.Frag} {H:Hp} {Q:VK} {p q:Addr} {xs ys:List Str} (hp:H p=some (.lst (xs.map V.str))) (hq:H q=some (.lst (ys.map V.str))) (h1:∀ x∈xs,PyData.strOk x=true) (h2:∀ x∈ys,PyData.strOk x=true) (h:Q (.bl (decide (xs=ys))) H):cEq K (.ref p) (.ref q) H Q:=by
 show rEqD K (.ref p) (.ref q) H Q
 refine ⟨.list (xs.map PyData.str),.list (ys.map PyData.str),.lst (SqL.of hp) (.strs xs),.lst (SqL.of hq) (.strs ys),jo xs h1,jo ys h2,?_⟩
 rw [PyData.eqv,qq PyData.str rd]
 exact h
theorem AC {K:PySem.W.Frag} {H:Hp} {Q:VK} {p q:Addr} {xs ys:List Str} (hp:H p=some (.lst (xs.map V.str))) (hq:H q=some (.lst (ys.map V.str))) (h1:∀ x∈xs,PyData.strOk x=true) (h2:∀ x∈ys,PyData.strOk x=true) (h:Q (.bl (!decide (xs=ys))) H):cNe K (.ref p) (.ref q) H Q:=by
 show rNeD K (.ref p) (.ref q) H Q
 refine ⟨.list (xs.map PyData.str),.list (ys.map PyData.str),.lst (SqL.of hp) (.strs xs),.lst (SqL.of hq) (.strs ys),jo xs h1,jo ys h2,?_⟩
 rw [PyData.eqv,qq PyData.str rd]
 exact h
theorem pi {K:PySem.W.Frag} {vs:List V} {H:Hp} {Q:VK} {E:XK} (h:bq K vs H Q E):d4 K { nx:=fun _ H'=>Q .non H',rt:=Q } (start ["words","least","most"] vs) H:=by
 obtain ⟨p,n,ws,lo,hi,rfl,hp,hn,hw,h0,h1,q⟩:=h
 show d4 K _ [some (.ref p),some (.int lo),some (.int hi)] H
 unfold d4
 rw [aQ,aH]
 walk_at "w"
 refine ⟨aK (by decide),fun l hl=>?_⟩
 have s1:Same H (upd H l (.lst [])):=(Same.refl H).laid hl
 refine AB (s1 _ _ hp) (ys:=[]) ag (WOk.strs (WOk.cons (qv hn) hw)) (fun x hx=>nomatch hx) ?_
 generalize upd H l (.lst [])=H1 at*
 walk_at "w"
 rw [decide_eq_false (by simp)]
 refine iteF ?_
 walk_at "w"
 have e0:atI (((numC n::ws).map tx).map V.str) 0=some (V.str (tx (numC n))):=fL (j:=0) rfl
 refine ixL (s1 _ _ hp) e0 ?_
 walk_at "w"
 exact ⟨n,lo,hi,rfl,hn,h0,h1,fun H2 s2=>q _ (s1.trans s2)⟩
theorem yM (acc:List Int) (v:Int):(step_dedup acc v).length≤acc.length+1:=by
 unfold step_dedup
 split <;> simp
theorem tJ:∀ (l acc:List Int),(l.foldl step_dedup acc).length≤acc.length+l.length
 | [],acc=>by simp
 | x::r,acc=>by
  have h1:=tJ r (step_dedup acc x)
  have h2:=yM acc x
  rw [List.foldl_cons,List.length_cons]
  omega
theorem n5:∀ (l acc:List Int),acc.Nodup→((l.foldl step_dedup acc).length=acc.length+l.length↔(acc++l).Nodup)
 | [],acc,h=>by simpa using h
 | x::r,acc,h=>by
  rw [List.foldl_cons]
  by_cases hx:x∈acc
  · have e:step_dedup acc x=acc:=by
     unfold step_dedup
     rw [if_pos (by simpa using hx)]
    rw [e]
    have:=tJ r acc
    constructor
    · intro z
      rw [List.length_cons] at z
      omega
    · intro z
      have:=(List.nodup_append.mp z).2.2 x hx x List.mem_cons_self
      exact absurd rfl this
  · have e:step_dedup acc x=acc++[x]:=by
     unfold step_dedup
     rw [if_neg (by simpa using hx)]
    rw [e]
    have hn:(acc++[x]).Nodup:=List.nodup_append.mpr ⟨h,by simp,fun a ha b hb z=>hx (by rw [List.mem_singleton.mp hb] at z; exact z ▸ ha)⟩
    have ih:=n5 r (acc++[x]) hn
    rw [List.length_append,List.length_singleton] at ih
    rw [List.length_cons,show acc.length+(r.length+1)=acc.length+1+r.length by omega,show acc++x::r=acc++[x]++r by simp]
    exact ih
theorem qw (ns:List Int):(List.range ns.length).map (fun i=>ns.getD i 0)=ns:=by
 have:=mr ns (fun x=>x)
 simpa using this
theorem yN (ns:List Int):cntD ns=ns.length↔ns.Nodup:=by
 unfold cntD firstMet
 rw [qw]
 have:=n5 ns [] List.nodup_nil
 simpa using this
def cD (K:PySem.W.Frag):Sp:=fun vs H Q _=>∃ (a p:Addr) (h w g:Int) (ns:List Nat),vs=[.ref a,.ref p]∧IsFl H a h w g∧FlOk h w g∧H p=some (.lst (((ns.map numC).map tx).map V.str))∧ns≠[]∧ns.length≤16∧(∀ n∈ns,(n:Int) < h*w)∧ns.Nodup∧
 ∀ l H',Same H H'→H l=none→H' l=some (.lst ((ns.map fun (n:Nat)=>(n:Int)).map V.int))→Q (.ref l) H'
theorem rE {K:PySem.W.Frag} {vs:List V} {H:Hp} {Q:VK} {E:XK} (h:cD K vs H Q E):vs.length=2:=by
 obtain ⟨_,_,_,_,_,_,rfl,_⟩:=h; rfl
def gt (K:PySem.W.Frag):TS:=
 (tSeq (sComp 2 [none,none,some 0] (iList K (tVar 1)) (gName 1) tTrue (tCall (bg K) [] E0 (tCons (tVar 1) (tCons (tC (.int 0)) (tCons (tOp cSub (tCall (aP K) [] E0 (tCons (tVar 2) tNil)) (tC (.int 1))) tNil)))))
  (tSeq (tIfS (tTest (tOp (cEq K) (tVar 2) (tLst tNil))) cq tNext)
  (tSeq (tIfS (tTest (tOp (cNe K) (nD (tVar 2)) (tCB kLen (tCons (tVar 2) tNil)))) cq tNext)
  (tRet (tVar 2)))))
theorem pj {ns:List Nat} (h:ns.Nodup):(ns.map fun (n:Nat)=>(n:Int)).Nodup:=by
 induction ns with
 | nil=>exact List.nodup_nil
 | cons a r ih=>
  rw [List.nodup_cons] at h
  rw [List.map_cons,List.nodup_cons]
  refine ⟨fun z=>?_,ih h.2⟩
  obtain ⟨b,hb,e⟩:=List.mem_map.mp z
  exact h.1 (by have:b=a:=by omega
                exact this ▸ hb)
theorem rF {K:PySem.W.Frag} {vs:List V} {H:Hp} {Q:VK} {E:XK} (h:cD K vs H Q E):gt K { nx:=fun _ H'=>Q .non H',rt:=Q } (start ["floor","words","cells"] vs) H:=by
 obtain ⟨a,p,h,w,g,ns,rfl,ha,F,hp,hne,hn16,hlt,hnd,q⟩:=h
 obtain ⟨h0,h1,w0,w1,m16,g0,g1⟩:=F
 show gt K _ [some (.ref a),some (.ref p),none] H
 unfold gt
 walk_at "w"
 refine ⟨⟨_,SqL.of hp⟩,?_⟩
 refine b9 (xs:=((ns.map numC).map tx).map V.str) (fun _=>true) (fun i=>.int (ns.getD i 0:Nat)) (by simp; omega) (SqL.of hp) ?_ ?_ ?_
 · intro i x H1 R hx s1 k1
   exact k1 _ (Same.refl _)
 · intro i x H1 Q1 hx hb s1 k1
   rw [List.getElem?_map,List.getElem?_map,List.getElem?_map] at hx
   cases e:ns[i]? with
   | none=>rw [e] at hx; cases hx
   | some n=>
    rw [e] at hx
    cases hx
    have hm:=hlt n (List.mem_of_getElem? e)
    show tCall _ _ _ _ [none,some (.str (tx (numC n))),some (.ref a)] H1 Q1
    walk_at "w"
    refine ⟨a,h,w,g,rfl,s1 _ _ ha,h0,h1,?_⟩
    walk_at "w"
    refine ⟨n,0,_,rfl,by omega,by omega,by omega,fun H2 s2=>?_⟩
    have q1:=k1 _ s2
    have eg:ns.getD i 0=n:=by rw [List.getD,e]; rfl
    rw [eg] at q1
    exact q1
 · intro l H1 hl s1 el
   have ec:((List.range (((ns.map numC).map tx).map V.str).length).filter fun _=>true).map (fun i=>V.int (ns.getD i 0:Nat))=(ns.map fun (n:Nat)=>(n:Int)).map V.int:=by
    rw [bf,List.length_map,List.length_map,List.length_map,List.map_map]
    refine List.ext_getElem? fun i=>?_
    rw [List.getElem?_map,List.getElem?_map]
    by_cases h:i < ns.length
    · rw [List.getElem?_range h,List.getElem?_eq_getElem h]
      simp [List.getD,h]
    · rw [List.getElem?_eq_none (by simpa using h),List.getElem?_eq_none (by omega)]; rfl
   rw [ec] at el
   walk_at "w"
   rw [aH]
   walk_at "w"
   refine ⟨aK (by decide),fun z hz=>?_⟩
   have s2:Same H1 (upd H1 z (.lst [])):=(Same.refl H1).laid hz
   refine vT (s2 _ _ el) (ys:=[]) ag ?_
   generalize upd H1 z (.lst [])=H2 at*
   walk_at "w"
   rw [decide_eq_false (by simpa using hne)]
   refine iteF ?_
   walk_at "w"
   rw [aH]
   walk_at "w"
   refine ⟨l,_,rfl,s2 _ _ el,by rw [List.length_map]; omega,?_⟩
   rw [cO (s2 _ _ el),List.length_map]
   walk_at "w"
   rw [decide_eq_true (by rw [(yN _).mpr (pj hnd)])]
   refine iteF ?_
   walk_at "w"
   exact q l _ (s1.trans s2) hl (s2 _ _ el)
def allK:RK→Bool
 | .Joined=>true
 | .NoSquare=>true
 | .Ring=>true
 | _=>false
def numK:RK→Bool
 | .Sum=>true
 | .Seen=>true
 | .Count=>true
 | _=>false
def sgnK:RK→Bool
 | .Count=>true
 | .Joined=>true
 | .NoSquare=>true
 | .Ring=>true
 | _=>false
theorem AD (k:RK):decide (tx (nmC k)∈d3)=allK k:=by cases k <;> decide+kernel
theorem AE (k:RK):decide (tx (nmC k)∈fN)=numK k:=by cases k <;> decide+kernel
theorem AF (k:RK):decide (tx (nmC k)∈fE)=sgnK k:=by cases k <;> decide+kernel
structure qx (k:RK) (h w:Int) (ns:List Nat) (cs:List Int):Prop where
 told:allK k=false→ns≠[]∧ns.length≤16∧(∀ n∈ns,(n:Int) < h*w)∧ns.Nodup∧cs=ns.map fun (n:Nat)=>(n:Int)
 all:allK k=true→ns=[]∧cs=rngL 0 (h*w)
def dS (K:PySem.W.Frag):Sp:=fun vs H Q _=>∃ (k:RK) (a p:Addr) (h w g:Int) (ns:List Nat) (cs:List Int),vs=[.ref a,.str (tx (nmC k)),.ref p]∧IsFl H a h w g∧FlOk h w g∧H p=some (.lst (((ns.map numC).map tx).map V.str))∧qx k h w ns cs∧(∀ n∈ns,n < 100)∧
 ∀ l H',Same H H'→H l=none→H' l=some (.lst (cs.map V.int))→Q (.ref l) H'
theorem uD {K:PySem.W.Frag} {vs:List V} {H:Hp} {Q:VK} {E:XK} (h:dS K vs H Q E):vs.length=3:=by
 obtain ⟨_,_,_,_,_,_,_,_,rfl,_⟩:=h; rfl
def jp (K:PySem.W.Frag):TS:=
 (tSeq (tIfS (tB (tInG d3 true (tVar 1))) (tRet (tCall (cD K) [] E0 (tCons (tVar 0) (tCons (tVar 2) tNil)))) tNext)
  (tSeq (tIfS (tTest (tOp (cNe K) (tVar 2) (tLst tNil))) cq tNext)
  (tRet (kH (tCons (tCall (aP K) [] E0 (tCons (tVar 0) tNil)) tNil)))))
theorem uE {K:PySem.W.Frag} {vs:List V} {H:Hp} {Q:VK} {E:XK} (h:dS K vs H Q E):jp K { nx:=fun _ H'=>Q .non H',rt:=Q } (start ["floor","name","words"] vs) H:=by
 obtain ⟨k,a,p,h,w,g,ns,cs,rfl,ha,F,hp,hc,hn,q⟩:=h
 obtain ⟨h0,h1,w0,w1,m16,g0,g1⟩:=id F
 have mpos:0≤h*w:=Int.mul_nonneg (by omega) (by omega)
 show jp K _ [some (.ref a),some (.str (tx (nmC k))),some (.ref p)] H
 unfold jp
 rw [aQ,aH]
 walk_at "w"
 rw [AD]
 cases hk:allK k with
 | false=>
  obtain ⟨c1,c2,c3,c4,rfl⟩:=hc.told hk
  walk_at "w"
  exact ⟨a,p,h,w,g,ns,rfl,ha,F,hp,c1,c2,c3,c4,q⟩
 | true=>
  obtain ⟨rfl,rfl⟩:=hc.all hk
  walk_at "w"
  rw [aH]
  walk_at "w"
  refine ⟨aK (by decide),fun z hz=>?_⟩
  have s1:Same H (upd H z (.lst [])):=(Same.refl H).laid hz
  refine AC (xs:=[]) (ys:=[]) (s1 _ _ hp) ag (fun x hx=>nomatch hx) (fun x hx=>nomatch hx) ?_
  generalize upd H z (.lst [])=H1 at*
  walk_at "w"
  refine ⟨a,h,w,g,rfl,s1 _ _ ha,h0,h1,?_⟩
  walk_at "w"
  refine ⟨h*w,rfl,by omega,by omega,fun l hl=>?_⟩
  exact q l _ (s1.laid hl) (s1.free hl) ag
def fQ (K:PySem.W.Frag) (c:RCl RK):Sp:=fun vs H Q _=>∃ (k:RK) (p W C:Addr) (ws:List (List Nat)) (cs:List Int) (n m:Int),vs=[.ref p,.ref W,.ref C,.int n,.int m]∧k≠.Rule∧c.ok k=true∧H W=some (.lst (((nmC k::ws).map tx).map V.str))∧H C=some (.lst (cs.map V.int))∧
 ∀ r H',Same H H'→H r=none→IsRule H' c k r p (nmC k::ws) cs n m→Q (.ref r) H'
theorem wc {K:PySem.W.Frag} {c:RCl RK} {vs:List V} {H:Hp} {Q:VK} {E:XK} (h:fQ K c vs H Q E):vs.length=5:=by
 obtain ⟨_,_,_,_,_,_,_,_,rfl,_⟩:=h; rfl
def jW (K:PySem.W.Frag) (c:RCl RK):TS:=
 (tSeq (tAsg (tOp cIx (tVar 1) (tC (.int 0))) (gName 5))
  (tSeq (tIfS (tTest (tOp (cEq K) (tVar 5) (tC (.str (tx [117,110,108,105,107,101]))))) (tRet (tMake (c.A .Unlike) (au K c) [] E0 (tCons (tVar 0) (tCons (tVar 1) (tCons (tVar 2) (tCons (tVar 3) (tCons (tVar 4) tNil))))))) tNext)
  (tSeq (tIfS (tTest (tOp (cEq K) (tVar 5) (tC (.str (tx [115,117,109]))))) (tRet (tMake (c.A .Sum) (au K c) [] E0 (tCons (tVar 0) (tCons (tVar 1) (tCons (tVar 2) (tCons (tVar 3) (tCons (tVar 4) tNil))))))) tNext)
  (tSeq (tIfS (tTest (tOp (cEq K) (tVar 5) (tC (.str (tx [114,105,115,105,110,103]))))) (tRet (tMake (c.A .Rising) (au K c) [] E0 (tCons (tVar 0) (tCons (tVar 1) (tCons (tVar 2) (tCons (tVar 3) (tCons (tVar 4) tNil))))))) tNext)
  (tSeq (tIfS (tTest (tOp (cEq K) (tVar 5) (tC (.str (tx [115,101,101,110]))))) (tRet (tMake (c.A .Seen) (au K c) [] E0 (tCons (tVar 0) (tCons (tVar 1) (tCons (tVar 2) (tCons (tVar 3) (tCons (tVar 4) tNil))))))) tNext)
  (tSeq (tIfS (tTest (tOp (cEq K) (tVar 5) (tC (.str (tx [99,111,117,110,116]))))) (tRet (tMake (c.A .Count) (au K c) [] E0 (tCons (tVar 0) (tCons (tVar 1) (tCons (tVar 2) (tCons (tVar 3) (tCons (tVar 4) tNil))))))) tNext)
  (tSeq (tIfS (tTest (tOp (cEq K) (tVar 5) (tC (.str (tx [106,111,105,110,101,100]))))) (tRet (tMake (c.A .Joined) (au K c) [] E0 (tCons (tVar 0) (tCons (tVar 1) (tCons (tVar 2) (tCons (tVar 3) (tCons (tVar 4) tNil))))))) tNext)
  (tSeq (tIfS (tTest (tOp (cEq K) (tVar 5) (tC (.str (tx [110,111,115,113,117,97,114,101]))))) (tRet (tMake (c.A .NoSquare) (au K c) [] E0 (tCons (tVar 0) (tCons (tVar 1) (tCons (tVar 2) (tCons (tVar 3) (tCons (tVar 4) tNil))))))) tNext)
  (tSeq (tIfS (tTest (tOp (cEq K) (tVar 5) (tC (.str (tx [114,105,110,103]))))) (tRet (tMake (c.A .Ring) (au K c) [] E0 (tCons (tVar 0) (tCons (tVar 1) (tCons (tVar 2) (tCons (tVar 3) (tCons (tVar 4) tNil))))))) tNext)
  cq)))))))))
theorem zK {K:PySem.W.Frag} {c:RCl RK} {H:Hp} {Q:VK} {k:RK} {p W C:Addr} {ws:List (List Nat)} {cs:List Int} {n m:Int} (ok:c.ok k=true) (hW:H W=some (.lst ((ws.map tx).map V.str))) (hC:H C=some (.lst (cs.map V.int))) (q:∀ r H',Same H H'→H r=none→IsRule H' c k r p ws cs n m→Q (.ref r) H'):
  ∀ x dx,H x=none→H dx=none→dx≠x→au K c (.ref x::([.ref p,.ref W,.ref C,.int n,.int m]++[])) (upd (upd H dx (.own x)) x (.ins (c.A k) dx [])) (fun v H2=>v=.non∧Q (.ref x) H2) E0:=by
 intro x dx hx hd ne
 refine ⟨k,x,dx,p,W,C,ws,cs,n,m,rfl,ok,ag,az hW hx,az hC hx,?_,?_,fun H' hs hr=>⟨rfl,q x H' (fun b o e=>hs b o (az e hx) ?_) hx hr⟩⟩
 · rw [aj (az hW hx),aj (az hW hd)]; exact hW
 · rw [aj (az hC hx),aj (az hC hd)]; exact hC
 · rw [aj (az e hx),aj (az e hd)]; exact e
theorem wd {K:PySem.W.Frag} {c:RCl RK} {vs:List V} {H:Hp} {Q:VK} {E:XK} (h:fQ K c vs H Q E):jW K c { nx:=fun _ H'=>Q .non H',rt:=Q } (start ["floor","words","cells","amount","mark","name"] vs) H:=by
 obtain ⟨k,p,W,C,ws,cs,n,m,rfl,hk,ok,hW,hC,q⟩:=h
 have mk:=zK (K:=K) ok hW hC q
 have e0:atI (((nmC k::ws).map tx).map V.str) 0=some (V.str (tx (nmC k))):=fL (j:=0) rfl
 show jW K c _ [some (.ref p),some (.ref W),some (.ref C),some (.int n),some (.int m),none] H
 unfold jW
 walk_at "w"
 refine ixL hW e0 ?_
 have D:∀ (l:List Nat) (t:TS) (u:TS) (D:Ends) (b:Bool),decide (nmC k=l)=b→(if b=true then t D [some (.ref p),some (.ref W),some (.ref C),some (.int n),some (.int m),some (.str (tx (nmC k)))] H else u D [some (.ref p),some (.ref W),some (.ref C),some (.int n),some (.int m),some (.str (tx (nmC k)))] H)→
   tIfS (tTest (tOp (cEq K) (tVar 5) (tC (.str (tx l))))) t u D [some (.ref p),some (.ref W),some (.ref C),some (.int n),some (.int m),some (.str (tx (nmC k)))] H:=fun l t u D b hb hq=>by
  rw [aH]
  walk_at "w"
  rw [bT,hb]
  exact hq
 have R:∀ (D:Ends),D.rt=Q→tRet (tMake (c.A k) (au K c) [] E0 (tCons (tVar 0) (tCons (tVar 1) (tCons (tVar 2) (tCons (tVar 3) (tCons (tVar 4) tNil)))))) D [some (.ref p),some (.ref W),some (.ref C),some (.int n),some (.int m),some (.str (tx (nmC k)))] H:=fun D hD=>by
  walk_at "w"
  rw [hD]
  exact mk
 cases k with
 | Rule=>exact absurd rfl hk
 | Unlike=>exact D _ _ _ _ true (by decide) (iteT (R _ rfl))
 | Sum=>exact D _ _ _ _ false (by decide) (iteF (D _ _ _ _ true (by decide) (iteT (R _ rfl))))
 | Rising=>exact D _ _ _ _ false (by decide) (iteF (D _ _ _ _ false (by decide) (iteF (D _ _ _ _ true (by decide) (iteT (R _ rfl))))))
 | Seen=>exact D _ _ _ _ false (by decide) (iteF (D _ _ _ _ false (by decide) (iteF (D _ _ _ _ false (by decide) (iteF (D _ _ _ _ true (by decide) (iteT (R _ rfl))))))))
 | Count=>exact D _ _ _ _ false (by decide) (iteF (D _ _ _ _ false (by decide) (iteF (D _ _ _ _ false (by decide) (iteF (D _ _ _ _ false (by decide) (iteF (D _ _ _ _ true (by decide) (iteT (R _ rfl))))))))))
 | Joined=>exact D _ _ _ _ false (by decide) (iteF (D _ _ _ _ false (by decide) (iteF (D _ _ _ _ false (by decide) (iteF (D _ _ _ _ false (by decide) (iteF (D _ _ _ _ false (by decide) (iteF (D _ _ _ _ true (by decide) (iteT (R _ rfl))))))))))))
 | NoSquare=>exact D _ _ _ _ false (by decide) (iteF (D _ _ _ _ false (by decide) (iteF (D _ _ _ _ false (by decide) (iteF (D _ _ _ _ false (by decide) (iteF (D _ _ _ _ false (by decide) (iteF (D _ _ _ _ false (by decide) (iteF (D _ _ _ _ true (by decide) (iteT (R _ rfl))))))))))))))
 | Ring=>exact D _ _ _ _ false (by decide) (iteF (D _ _ _ _ false (by decide) (iteF (D _ _ _ _ false (by decide) (iteF (D _ _ _ _ false (by decide) (iteF (D _ _ _ _ false (by decide) (iteF (D _ _ _ _ false (by decide) (iteF (D _ _ _ _ false (by decide) (iteF (D _ _ _ _ true (by decide) (iteT (R _ rfl))))))))))))))))
def rowW (k:RK) (n m:Nat) (ns:List Nat):List (List Nat):=nmC k::((if numK k then [numC n] else [])++(if sgnK k then [numC m] else [])++ns.map numC)
structure tK (k:RK) (h w g:Int) (n m:Nat) (ns:List Nat) (cs:List Int):Prop where
 k0:k≠.Rule
 n0:n≤99
 nz:numK k=false→n=0
 m0:sgnK k=true→1≤(m:Int)∧(m:Int)≤g
 mz:sgnK k=false→m=0
 cl:qx k h w ns cs
 ns0:∀ x∈ns,x < 100
 len:ns.length≤16
def dg (K:PySem.W.Frag) (c:RCl RK):Sp:=fun vs H Q _=>∃ (k:RK) (p:Addr) (h w g:Int) (n m:Nat) (ns:List Nat) (cs:List Int),vs=[.ref p,.str (tx (catL 32 (rowW k n m ns)))]∧IsFl H p h w g∧FlOk h w g∧tK k h w g n m ns cs∧c.ok k=true∧
 ∀ r H',Same H H'→H r=none→IsRule H' c k r p (rowW k n m ns) cs n m→Q (.ref r) H'
theorem tL {K:PySem.W.Frag} {c:RCl RK} {vs:List V} {H:Hp} {Q:VK} {E:XK} (h:dg K c vs H Q E):vs.length=2:=by
 obtain ⟨_,_,_,_,_,_,_,_,_,rfl,_⟩:=h; rfl
def d5 (K:PySem.W.Frag) (c:RCl RK):TS:=
 (tRet (tCall (fQ K c) [] E0 (tCons (tVar 0) (tCons (tVar 2) (tCons (tCall (dS K) [] E0 (tCons (tVar 0) (tCons (tVar 3) (tCons (tVar 4) tNil)))) (tCons (tVar 5) (tCons (tVar 6) tNil)))))))
def iC (K:PySem.W.Frag) (c:RCl RK):TS:=
 (tSeq (tAsg (tOp cIx (tVar 2) (tC (.int 0))) (gName 3))
  (tSeq (tAsg (tSl kT (tVar 2) (tPart (tC (.int 1))) iY) (gName 4))
  (tSeq (tAsg (tC (.int 0)) (gName 5))
  (tSeq (tAsg (tC (.int 0)) (gName 6))
  (tSeq (tIfS (tB (tInG fN false (tVar 3))) (tSeq (tAsg (tCall (bq K) [] E0 (tCons (tVar 4) (tCons (tC (.int 0)) (tCons (tC (.int 99)) tNil)))) (gName 5))
  (tAsg (tSl kT (tVar 4) (tPart (tC (.int 1))) iY) (gName 4))) tNext)
  (tSeq (tIfS (tB (tInG fE false (tVar 3))) (tSeq (tAsg (tCall (bq K) [] E0 (tCons (tVar 4) (tCons (tC (.int 1)) (tCons (tOp cIx (tVar 0) (tC (.int 2))) tNil)))) (gName 6))
  (tAsg (tSl kT (tVar 4) (tPart (tC (.int 1))) iY) (gName 4))) tNext)
  (d5 K c)))))))
def iD (K:PySem.W.Frag) (c:RCl RK):TS:=
 (tSeq (tIfS (tNot (tB (tCB kIsi (tCons (tVar 1) (tCons (tC (.ty "str")) tNil))))) cq tNext)
  (tSeq (tAsg (tBM K "str" o8 (tVar 1) (tCons (tC (.str (tx [32]))) tNil)) (gName 2))
  (iC K c)))
theorem zL (k:RK):32∉nmC k:=by cases k <;> decide
theorem xR {k:RK} {n m:Nat} {ns:List Nat} (hn:n < 100) (hm:m < 100) (hs:∀ x∈ns,x < 100):∀ r∈rowW k n m ns,32∉r:=by
 intro r hr
 unfold rowW at hr
 rcases List.mem_cons.mp hr with rfl | hr
 · exact zL k
 rcases List.mem_append.mp hr with hr | hr
 · rcases List.mem_append.mp hr with hr | hr
   · split at hr
     · rw [List.mem_singleton.mp hr]; exact oi hn
     · cases hr
   · split at hr
     · rw [List.mem_singleton.mp hr]; exact oi hm
     · cases hr
 · obtain ⟨x,hx,rfl⟩:=List.mem_map.mp hr
   exact oi (hs x hx)
theorem yO (xs:List V):cutV xs (some 1) none=xs.drop 1:=by
 unfold cutV
 have h1:HT.sIx xs.length 0 (some 1)=min 1 xs.length:=HT.sIx_nat ..
 have h2:HT.sIx xs.length xs.length none=xs.length:=rfl
 rw [h1,h2]
 cases xs with
 | nil=>rfl
 | cons x r=>
  have:min 1 (x::r).length=1:=by simp
  rw [this]
  show (r).take _=r
  rw [List.take_of_length_le (by simp)]
theorem kN {K:PySem.W.Frag} {c:RCl RK} {H:Hp} {Q:VK} {k:RK} {p W R:Addr} {h w g:Int} {n m:Nat} {ws:List (List Nat)} {ns:List Nat} {cs:List Int} {lv:V} (F:FlOk h w g) (ha:IsFl H p h w g) (hW:H W=some (.lst (((nmC k::ws).map tx).map V.str))) (hR:H R=some (.lst (((ns.map numC).map tx).map V.str))) (hc:qx k h w ns cs) (hn:∀ x∈ns,x < 100) (k0:k≠.Rule) (ok:c.ok k=true)
  (q:∀ r H',Same H H'→H r=none→IsRule H' c k r p (nmC k::ws) cs n m→Q (.ref r) H'):
  d5 K c { nx:=fun _ H'=>Q .non H',rt:=Q } [some (.ref p),some lv,some (.ref W),some (.str (tx (nmC k))),some (.ref R),some (.int n),some (.int m)] H:=by
 unfold d5
 walk_at "w"
 refine ⟨k,p,R,h,w,g,ns,cs,rfl,ha,F,hR,hc,hn,fun l H1 s1 hl el=>?_⟩
 walk_at "w"
 exact ⟨k,p,W,l,ws,cs,n,m,rfl,k0,ok,s1 _ _ hW,el,fun r H2 s2 hr x=>q r H2 (s1.trans s2) (s1.free hr) x⟩
theorem uF {k:RK} {n m:Nat} {ns:List Nat} (h:ns.length≤16):(rowW k n m ns).length≤100∧∀ w∈rowW k n m ns,w.length≤100:=by
 unfold rowW
 refine ⟨?_,fun w hw=>?_⟩
 · simp only [List.length_cons,List.length_append,List.length_map]
   split <;> split <;> simp <;> omega
 · rcases List.mem_cons.mp hw with rfl | hw
   · cases k <;> decide
   have h2:∀ x,(numC x).length≤100:=fun x=>Nat.le_trans gW (by decide)
   rcases List.mem_append.mp hw with hw | hw
   · rcases List.mem_append.mp hw with hw | hw
     · split at hw
       · rw [List.mem_singleton.mp hw]; exact h2 _
       · cases hw
     · split at hw
       · rw [List.mem_singleton.mp hw]; exact h2 _
       · cases hw
   · obtain ⟨x,hx,rfl⟩:=List.mem_map.mp hw
     exact h2 _
theorem pk:∀ (rows:List (List Nat)),(∀ r∈rows,r.length≤100)→(catL 32 rows).length≤101*rows.length
 | [],_=>Nat.zero_le _
 | [x],h=>by
  have:=h x List.mem_cons_self
  show x.length≤101*1
  omega
 | x::y::r,h=>by
  have h1:=h x List.mem_cons_self
  have ih:=pk (y::r) fun z hz=>h z (List.mem_cons_of_mem _ hz)
  have e:catL 32 (x::y::r)=x++32::catL 32 (y::r):=by first | rfl | simp [catL]
  rw [e,List.length_append,List.length_cons,List.length_cons]
  omega
theorem qy {H:Hp} {Q:VK} {p:Addr} {x:Str} {xs:List Str} (hp:H p=some (.lst ((x::xs).map V.str))) (q:∀ l,H l=none→Q (.ref l) (upd H l (.lst (xs.map V.str)))):kT (.ref p) (some 1) none H Q:=by
 refine sw hp fun l hl=>?_
 rw [yO]
 exact q l hl
theorem pq {K:PySem.W.Frag} {c:RCl RK} {H:Hp} {Q:VK} {k:RK} {p W:Addr} {h w g:Int} {n m:Nat} {ns:List Nat} {cs:List Int} {lv:V} (F:FlOk h w g) (ha:IsFl H p h w g) (hW:H W=some (.lst (((rowW k n m ns).map tx).map V.str))) (O:tK k h w g n m ns cs) (ok:c.ok k=true)
  (q:∀ r H',Same H H'→H r=none→IsRule H' c k r p (rowW k n m ns) cs n m→Q (.ref r) H'):
  iC K c { nx:=fun _ H'=>Q .non H',rt:=Q } [some (.ref p),some lv,some (.ref W),none,none,none,none] H:=by
 obtain ⟨k0,n0,nz,m0,mz,cl,ns0,len⟩:=O
 obtain ⟨h0,h1,w0,w1,m16,g0,g1⟩:=id F
 have e0:atI (((rowW k n m ns).map tx).map V.str) 0=some (V.str (tx (nmC k))):=fL (j:=0) rfl
 have hns:WOk (ns.map numC):=fun v hv=>by obtain ⟨x,hx,rfl⟩:=List.mem_map.mp hv; exact qv (ns0 x hx)
 unfold iC
 walk_at "w"
 refine ixL hW e0 ?_
 walk_at "w"
 refine qy hW fun R hR=>?_
 have s1:Same H (upd H R (.lst ((((if numK k then [numC n] else [])++(if sgnK k then [numC m] else [])++ns.map numC).map tx).map V.str))):=(Same.refl H).laid hR
 have eR:(upd H R (.lst ((((if numK k then [numC n] else [])++(if sgnK k then [numC m] else [])++ns.map numC).map tx).map V.str))) R=some (.lst ((((if numK k then [numC n] else [])++(if sgnK k then [numC m] else [])++ns.map numC).map tx).map V.str)):=ag
 generalize upd H R (.lst ((((if numK k then [numC n] else [])++(if sgnK k then [numC m] else [])++ns.map numC).map tx).map V.str))=H1 at*
 walk_at "w"
 have two:∀ {H2:Hp} {R2:Addr},Same H H2→H2 R2=some (.lst ((((if sgnK k then [numC m] else [])++ns.map numC).map tx).map V.str))→
   tSeq (tIfS (tB (tInG fE false (tVar 3))) (tSeq (tAsg (tCall (bq K) [] E0 (tCons (tVar 4) (tCons (tC (.int 1)) (tCons (tOp cIx (tVar 0) (tC (.int 2))) tNil)))) (gName 6)) (tAsg (tSl kT (tVar 4) (tPart (tC (.int 1))) iY) (gName 4))) tNext) (d5 K c) { nx:=fun _ H'=>Q .non H',rt:=Q }
    [some (.ref p),some lv,some (.ref W),some (.str (tx (nmC k))),some (.ref R2),some (.int n),some (.int 0)] H2:=by
  intro H2 R2 s2 eR2
  rw [aQ,aH]
  walk_at "w"
  rw [AF]
  cases hs:sgnK k with
  | false=>
   rw [hs] at eR2
   have:=mz hs
   subst this
   walk_at "w"
   exact kN F (s2 _ _ ha) (s2 _ _ hW) eR2 cl ns0 k0 ok fun r H3 s3 hr x=>q r H3 (s2.trans s3) (s2.free hr) x
  | true=>
   rw [hs] at eR2
   have hm:=m0 hs
   walk_at "w"
   refine ixT (s2 _ _ ha) (v:=V.int g) rfl ?_
   walk_at "w"
   refine ⟨R2,m,ns.map numC,1,g,rfl,eR2,by omega,hns,hm.1,hm.2,fun H3 s3=>?_⟩
   walk_at "w"
   refine qy (s3 _ _ eR2) fun R3 hR3=>?_
   have s4:Same H3 (upd H3 R3 (.lst (((ns.map numC).map tx).map V.str))):=(Same.refl H3).laid hR3
   have s24:=(s2.trans s3).trans s4
   exact kN F (s24 _ _ ha) (s24 _ _ hW) ag cl ns0 k0 ok fun r H5 s5 hr x=>q r H5 (s24.trans s5) (s24.free hr) x
 rw [aH]
 walk_at "w"
 rw [AE]
 cases hn:numK k with
 | false=>
  rw [hn] at eR
  have:=nz hn
  subst this
  walk_at "w"
  exact two s1 eR
 | true=>
  rw [hn] at eR
  walk_at "w"
  refine ⟨R,n,(if sgnK k then [numC m] else [])++ns.map numC,0,99,rfl,eR,by omega,?_,by omega,by omega,fun H3 s3=>?_⟩
  · intro v hv
    rcases List.mem_append.mp hv with hv | hv
    · split at hv
      · rename_i hs
        have:=m0 hs
        rw [List.mem_singleton.mp hv]; exact qv (by omega)
      · cases hv
    · exact hns v hv
  walk_at "w"
  refine qy (s3 _ _ eR) fun R3 hR3=>?_
  have s4:Same H3 (upd H3 R3 (.lst ((((if sgnK k then [numC m] else [])++ns.map numC).map tx).map V.str))):=(Same.refl H3).laid hR3
  walk_at "w"
  exact two ((s1.trans s3).trans s4) ag
theorem tM {K:PySem.W.Frag} {c:RCl RK} {vs:List V} {H:Hp} {Q:VK} {E:XK} (h:dg K c vs H Q E):iD K c { nx:=fun _ H'=>Q .non H',rt:=Q } (start ["floor","line","words","name","rest","amount","mark"] vs) H:=by
 obtain ⟨k,p,h,w,g,n,m,ns,cs,rfl,ha,F,O,ok,q⟩:=h
 have hm:m < 100:=by
  by_cases hs:sgnK k=true
  · have:=(O.m0 hs).2
    have:=F.g1
    omega
  · have:=O.mz (by simpa using hs)
    omega
 have hsp:Txt.split (tx (catL 32 (rowW k n m ns))) (tx [32])=(rowW k n m ns).map tx:=yJ (by simp [rowW]) (xR (by have:=O.n0; omega) hm O.ns0)
 have hl:=uF (k:=k) (n:=n) (m:=m) O.len
 have hl2:=pk _ hl.2
 show iD K c _ [some (.ref p),some (.str (tx (catL 32 (rowW k n m ns)))),none,none,none,none,none] H
 unfold iD
 rw [aQ,aH]
 walk_at "w"
 refine ⟨ze,?_⟩
 rw [zB,hsp]
 refine ⟨by rw [iq]; decide,by rw [iq]; exact Nat.le_of_lt (Nat.lt_of_le_of_lt hl2 (Nat.lt_of_le_of_lt (Nat.mul_le_mul_left 101 hl.1) (by decide))),by rw [List.length_map]; exact aK (by omega),fun W hW=>?_⟩
 have s1:Same H (upd H W (.lst (((rowW k n m ns).map tx).map V.str))):=(Same.refl H).laid hW
 exact pq F (s1 _ _ ha) ag O ok fun r H2 s2 hr x=>q r H2 (s1.trans s2) (s1.free hr) x
theorem re {α β:Type} (f:α→β):∀ (l:List α) (j:Nat),(l.map f).eraseIdx j=(l.eraseIdx j).map f
 | [],_=>rfl
 | _::_,0=>rfl
 | x::r,j+1=>by
  show f x::(r.map f).eraseIdx j=f x::(r.eraseIdx j).map f
  rw [re f r j]
theorem pw {α:Type}:∀ (l:List α) (j:Nat) (h:j < l.length),(l[j]::l.eraseIdx j).Perm l
 | [],_,h=>absurd h (by simp)
 | x::r,0,_=>List.Perm.refl _
 | x::r,j+1,h=>by
  have hj:j < r.length:=by simpa using h
  have ih:=pw r j hj
  show (r[j]::x::r.eraseIdx j).Perm (x::r)
  exact (List.Perm.swap x r[j] (r.eraseIdx j)).trans (List.Perm.cons x ih)
theorem mR {α β:Type} (f:α→β):∀ {l:List α},(l.map f).Nodup→l.Nodup
 | [],_=>List.nodup_nil
 | a::r,h=>by
  rw [List.map_cons,List.nodup_cons] at h
  rw [List.nodup_cons]
  exact ⟨fun z=>h.1 (List.mem_map.mpr ⟨a,z,rfl⟩),mR f h.2⟩
theorem xS (n:Int):(rngL 0 n).Nodup:=by
 unfold rngL
 have e:(List.range (n - 0).toNat).map (fun (k:Nat)=>0+(k:Int))=(List.range (n - 0).toNat).map fun (k:Nat)=>(k:Int):=List.map_congr_left fun k _=>by omega
 rw [e]
 exact pj List.nodup_range
theorem vq {n x:Int} (h:x∈rngL 0 n):0≤x∧x < n:=by
 unfold rngL at h
 obtain ⟨k,hk,rfl⟩:=List.mem_map.mp h
 have:=List.mem_range.mp hk
 omega
def d6 (K:PySem.W.Frag) (c:RCl RK):Sp:=cy K c .Unlike
theorem px {K:PySem.W.Frag} {c:RCl RK} {vs:List V} {H:Hp} {Q:VK} {E:XK} (h:d6 K c vs H Q E):vs.length=2:=by
 obtain ⟨_,_,_,_,_,_,_,_,_,_,_,rfl,_⟩:=h; rfl
def d7 (K:PySem.W.Frag) (c:RCl RK):TS:=
 (tSeq (tAsg (aL c c.ok "signs_at" (bA K c) (tVar 0) (tCons (tVar 1) tNil)) (gName 2))
  (tRet (tOp (cEq K) (nD (tVar 2)) (tCB kLen (tCons (tVar 2) tNil)))))
theorem pz {K:PySem.W.Frag} {c:RCl RK} {vs:List V} {H:Hp} {Q:VK} {E:XK} (h:d6 K c vs H Q E):d7 K c { nx:=fun _ H'=>Q .non H',rt:=Q } (start ["self","filling","signs"] vs) H:=by
 obtain ⟨r,p,f,ws,cs,xs,n,m,h,w,g,rfl,x,ha,F,hf,hC,hx,q⟩:=h
 obtain ⟨dx,W,C,h1,h2,h3⟩:=x.ex
 show d7 K c _ [some (.ref r),some (.ref f),none] H
 unfold d7
 walk_at "w"
 refine methE rfl x.ok h1 (by rfl) ?_
 walk_at "w"
 refine ⟨r,p,f,ws,cs,xs,n,m,rfl,x,hf,hC,fun l H1 s1 hl el=>?_⟩
 have hlen:(sgAt xs cs).length≤100:=by unfold sgAt; rw [List.length_map]; exact Nat.le_trans hC.1 (by decide)
 walk_at "w"
 refine ⟨l,_,rfl,el,by omega,?_⟩
 walk_at "w"
 rw [cO el,List.length_map]
 walk_at "w"
 have q1:=q _ s1
 unfold hoB at q1
 dsimp only at q1
 have e:decide (((cntD (sgAt xs cs):Nat):Int)=((sgAt xs cs).length:Nat))=decide (cntD (sgAt xs cs)=(sgAt xs cs).length):=by
  rw [Bool.eq_iff_iff,decide_eq_true_eq,decide_eq_true_eq]
  omega
 rw [e]
 exact q1
theorem lD {n:Nat} (h:n < 100):((n:Int)).natAbs.log2 < 1920:=by
 have t:((List.range 100).all fun n=>decide (n.log2 < 1920))=true:=by decide+kernel
 have:=List.all_eq_true.mp t n (List.mem_range.mpr h)
 simpa using this
theorem zM {H:Hp} {Q:VK} {n:Nat} (h:n < 100) (q:Q (.str (tx (numC n))) H):kStr [.int (n:Int)] H Q:=by
 refine ⟨lD h,?_⟩
 rw [lB h]
 exact q
theorem xT {K:PySem.W.Frag} {H:Hp} {C:Addr} {cs:List Nat} {fin:Addr→Hp→Prop} (hC:H C=some (.lst ((cs.map fun (n:Nat)=>(n:Int)).map V.int))) (hl:cs.length≤100) (hc:∀ c∈cs,c < 100)
  (hd:∀ l H',H l=none→Same H H'→H' l=some (.lst (((cs.map numC).map tx).map V.str))→fin l H'):CompR (Itl K C) (gName 1) tTrue (tCB kStr (tCons (tVar 1) tNil)) fin [none,none] H:=by
 refine b9 (xs:=(cs.map fun (n:Nat)=>(n:Int)).map V.int) (fun _=>true) (fun i=>.str (tx (numC (cs.getD i 0)))) (by simp; omega) (SqL.of hC) ?_ ?_ ?_
 · intro i x H1 R hx s1 k1
   exact k1 _ (Same.refl _)
 · intro i x H1 Q1 hx hb s1 k1
   rw [List.getElem?_map,List.getElem?_map] at hx
   cases e:cs[i]? with
   | none=>rw [e] at hx; cases hx
   | some n=>
    rw [e] at hx
    cases hx
    show tCB kStr _ [none,some (.int (n:Int))] H1 Q1
    walk_at "w"
    have q1:=k1 _ (Same.refl H1)
    have eg:cs.getD i 0=n:=by rw [List.getD,e]; rfl
    rw [eg] at q1
    have:=zM (H:=H1) (Q:=Q1) (hc n (List.mem_of_getElem? e)) q1
    exact this
 · intro l H1 hl1 s1 el
   refine hd l H1 hl1 s1 ?_
   rw [el,bf,List.length_map,List.length_map,List.map_map,List.map_map]
   congr 2
   refine List.ext_getElem? fun i=>?_
   rw [List.getElem?_map,List.getElem?_map]
   by_cases h:i < cs.length
   · rw [List.getElem?_range h,List.getElem?_eq_getElem h]
     simp [List.getD,h]
   · rw [List.getElem?_eq_none (by simpa using h),List.getElem?_eq_none (by omega)]; rfl
theorem dE {c:Nat} {x:List Nat}:∀ {rs:List (List Nat)},rs≠[]→catL c (x::rs)=x++c::catL c rs
 | [],h=>absurd rfl h
 | y::r,_=>by first | rfl | simp [catL]
end L2
namespace L2
open PySem PySem.Spec PyProof.Rows
section
variable {X:Cx} {a:Expr} {ta:TE} {pos p:Pos} {x:Str} {ws:List Str}
theorem lE (G:GTup X.K X.mg x ws) (ha:PE X a ta) (hg:Gl X x) (hdb:(x==("__debug__":Str))=false:=by decide) (hm:behindInMarks .In (.Name x p)=false:=by with_unfolding_all rfl):PT X (.Compare a [.In] [.Name x p] pos) (tB (tInG ws false ta)):=by
 obtain ⟨q,o,its,n,h1,h2⟩:=G.ex
 have h0:=ax (pos:=pos) (Ay ⟨o,its,n,h2⟩) ha (cB (v:=V.ref q) hg h1 rfl hdb) hm
 intro pins s σ H Q I h
 refine h0 pins s σ H Q I ?_
 have e:(fun (x:V) (H1:Hp)=>∃ z,x=.str z∧∃ k,V.bl (if false=true then !decide (z∈ws) else decide (z∈ws))=.bl k∧Q k H1)=fun x H1=>∃ z,x=.str z∧(V.ref q=V.ref q)∧∃ k,V.bl (decide (z∈ws))=.bl k∧Q k H1:=by
  funext x H1; simp
 have h':ta σ H (fun (x:V) (H1:Hp)=>∃ z,x=.str z∧∃ k,V.bl (if false=true then !decide (z∈ws) else decide (z∈ws))=.bl k∧Q k H1):=h
 rw [e] at h'
 exact h'
theorem vt (G:GTup X.K X.mg x ws) (ha:PE X a ta) (hg:Gl X x) (hdb:(x==("__debug__":Str))=false:=by decide) (hm:behindInMarks .NotIn (.Name x p)=false:=by with_unfolding_all rfl):PT X (.Compare a [.NotIn] [.Name x p] pos) (tB (tInG ws true ta)):=by
 obtain ⟨q,o,its,n,h1,h2⟩:=G.ex
 have h0:=ax (pos:=pos) (zE ⟨o,its,n,h2⟩) ha (cB (v:=V.ref q) hg h1 rfl hdb) hm
 intro pins s σ H Q I h
 refine h0 pins s σ H Q I ?_
 have e:(fun (x:V) (H1:Hp)=>∃ z,x=.str z∧∃ k,V.bl (if true=true then !decide (z∈ws) else decide (z∈ws))=.bl k∧Q k H1)=fun x H1=>∃ z,x=.str z∧(V.ref q=V.ref q)∧∃ k,V.bl (!decide (z∈ws))=.bl k∧Q k H1:=by
  funext x H1; simp
 have h':ta σ H (fun (x:V) (H1:Hp)=>∃ z,x=.str z∧∃ k,V.bl (if true=true then !decide (z∈ws) else decide (z∈ws))=.bl k∧Q k H1):=h
 rw [e] at h'
 exact h'
end
end L2
namespace L2
open PySem PySem.Spec PyProof.Rows
local macro_rules | `(tactic| walk_at "w")=>`(tactic| (first | simp only [aQ,kn,lQ,gI,ko,i6,i7,lR,lN,kl,lO,if_true,if_false,Bool.false_eq_true,decide_true,decide_false,gR,gS,kK,fu,dr,gP,jE,gQ,ft,jC,jD,fq,kF,fv,fw,fA,fB,fC,fD,fz,jG,jH,jI,jA,kJ,Bool.not_true,Bool.not_false,dN,dw,bi,gl,w_c,g8,dy,e7,dO,e8,w_b,w_not,g9,ke,e9,fb,hE,gm,cN,jK,dP,hJ,gn,jL,hV,dQ,fc,fe,ff,c9,da,cC,cr,cu,bS,hX,h9,ia,ib,ic,ie,ig,ii,ij,ik,il,im,kg,fg,cw,fh,kh,fi,db,cx,io,ip,fj,fk,fo,
 List.getElem?_cons_zero,List.getElem?_cons_succ,Option.some.injEq,exists_eq_left',exists_eq_left,List.set_cons_zero,List.set_cons_succ,b4,V.int.injEq,V.bl.injEq,V.ref.injEq,V.str.injEq,List.append_nil,List.nil_append,List.cons_append] | dsimp only | skip))
inductive PzK where
 | Puzzle
 deriving DecidableEq
structure RR where
 k:RK
 n:Nat
 m:Nat
 ns:List Nat
 cs:List Int
def RR.ws (r:RR):List (List Nat):=rowW r.k r.n r.m r.ns
def RR.txt (r:RR):Str:=tx (catL 32 r.ws)
def RR.Ok (r:RR) (h w g:Int):Prop:=tK r.k h w g r.n r.m r.ns r.cs
structure IsRules (H:Hp) (c:RCl RK) (p L:Addr) (rs:List Addr) (rows:List RR):Prop where
 top:H L=some (.lst (rs.map V.ref))
 len:rs.length=rows.length
 at_:∀ (i:Nat) (r:Addr) (x:RR),rs[i]? =some r→rows[i]? =some x→IsRule H c x.k r p x.ws x.cs x.n x.m
theorem IsRules.same {H H':Hp} {c:RCl RK} {p L:Addr} {rs:List Addr} {rows:List RR} (x:IsRules H c p L rs rows) (s:Same H H'):IsRules H' c p L rs rows:=
 ⟨s _ _ x.top,x.len,fun i r y h1 h2=>(x.at_ i r y h1 h2).same s⟩
theorem IsRule.lst {H:Hp} {c:RCl RK} {k:RK} {r p a:Addr} {ws:List (List Nat)} {cs:List Int} {n m:Int} {xs:List V} {o:HO} (x:IsRule H c k r p ws cs n m) (ha:H a=some (.lst xs)):IsRule (upd H a o) c k r p ws cs n m:=by
 obtain ⟨dx,W,C,h1,h2,h3⟩:=x.ex
 refine ⟨x.ok,dx,W,C,?_,?_,?_⟩
 · rw [aj (fun e=>by rw [e,ha] at h1; cases h1)]; exact h1
 · rw [aj (fun e=>by rw [e,ha] at h2; cases h2)]; exact h2
 · rw [aj (fun e=>by rw [e,ha] at h3; cases h3)]; exact h3
def pFs (p L G:Addr):List (Str × V):=[("floor",.ref p),("laws",.ref L),("given",.ref G)]
structure mS (c:RCl RK) (h w g:Int) (rows:List RR):Prop where
 F:FlOk h w g
 n:rows.length≤12
 ok:∀ r∈rows,r.Ok h w g
 c:∀ r∈rows,c.ok r.k=true
structure CluesOk (h w g:Int) (cl:List Int):Prop where
 len:cl.length=(h*w).toNat
 ok:∀ x∈cl,0≤x∧x≤g
structure IsPz (H:Hp) (c:RCl RK) (d:RCl PzK) (P L G:Addr) (h w g:Int) (rows:List RR) (cl:List Int):Prop where
 ok:d.ok .Puzzle=true
 R:mS c h w g rows
 C:CluesOk h w g cl
 gv:H G=some (.lst (cl.map V.int))
 ex:∃ dx p rs,H P=some (.ins (d.A .Puzzle) dx (pFs p L G))∧IsFl H p h w g∧IsRules H c p L rs rows
theorem IsPz.same {H H':Hp} {c:RCl RK} {d:RCl PzK} {P L G:Addr} {h w g:Int} {rows:List RR} {cl:List Int} (x:IsPz H c d P L G h w g rows cl) (s:Same H H'):IsPz H' c d P L G h w g rows cl:=by
 obtain ⟨dx,p,rs,h1,h2,h3⟩:=x.ex
 exact ⟨x.ok,x.R,x.C,s _ _ x.gv,dx,p,rs,s _ _ h1,s _ _ h2,h3.same s⟩
def aY (K:PySem.W.Frag):Sp:=fun vs H Q _=>∃ i:Int,vs=[.int i]∧Q (.bl true) H
theorem uG {K:PySem.W.Frag} {vs:List V} {H:Hp} {Q:VK} {E:XK} (h:aY K vs H Q E):vs.length=1:=by
 obtain ⟨_,rfl,_⟩:=h; rfl
def jq (K:PySem.W.Frag):TS:=
 (tRet (tAndV (tCB kIsi (tCons (tVar 0) (tCons (tC (.ty "int")) tNil))) (tNotV (tCB kIsi (tCons (tVar 0) (tCons (tC (.ty "bool")) tNil))))))
theorem uH {K:PySem.W.Frag} {vs:List V} {H:Hp} {Q:VK} {E:XK} (h:aY K vs H Q E):jq K { nx:=fun _ H'=>Q .non H',rt:=Q } (start ["value"] vs) H:=by
 obtain ⟨i,rfl,q⟩:=h
 show jq K _ [some (.int i)] H
 unfold jq
 walk_at "w"
 exact q
def aS (K:PySem.W.Frag):Sp:=fun vs H Q _=>∃ i m:Int,vs=[.int i,.int m]∧Q (.bl (decide (1≤i)&&decide (i≤m))) H
theorem nI {K:PySem.W.Frag} {vs:List V} {H:Hp} {Q:VK} {E:XK} (h:aS K vs H Q E):vs.length=2:=by
 obtain ⟨_,_,rfl,_⟩:=h; rfl
def cW (K:PySem.W.Frag):TS:=
 (tRet (tAndV (tCall (aY K) [] E0 (tCons (tVar 0) tNil)) (tAndV (tOp (cCmp fun i j=>decide (i≤j)) (tC (.int 1)) (tVar 0)) (tOp (cCmp fun i j=>decide (i≤j)) (tVar 0) (tVar 1)))))
theorem nJ {K:PySem.W.Frag} {vs:List V} {H:Hp} {Q:VK} {E:XK} (h:aS K vs H Q E):cW K { nx:=fun _ H'=>Q .non H',rt:=Q } (start ["value","most"] vs) H:=by
 obtain ⟨i,m,rfl,q⟩:=h
 show cW K _ [some (.int i),some (.int m)] H
 unfold cW
 walk_at "w"
 refine ⟨i,rfl,⟨true,rfl,iteT ?_⟩⟩
 walk_at "w"
 cases hb:decide (1≤i) with
 | false=>
  rw [hb,Bool.false_and] at q
  exact iteF q
 | true=>
  rw [hb,Bool.true_and] at q
  exact iteT q
def dU (K:PySem.W.Frag):Sp:=fun vs H Q _=>∃ h w g:Int,vs=[.int h,.int w,.int g]∧FlOk h w g∧∀ p,H p=none→Q (.ref p) (upd H p (.tup [.int h,.int w,.int g]))
theorem uI {K:PySem.W.Frag} {vs:List V} {H:Hp} {Q:VK} {E:XK} (h:dU K vs H Q E):vs.length=3:=by
 obtain ⟨_,_,_,rfl,_⟩:=h; rfl
def jr (K:PySem.W.Frag):TS:=
 (tSeq (tIfS (tNot (tB (tCall (aS K) [] E0 (tCons (tVar 0) (tCons (tC (.int 6)) tNil))))) cq tNext)
  (tSeq (tIfS (tNot (tB (tCall (aS K) [] E0 (tCons (tVar 1) (tCons (tC (.int 6)) tNil))))) cq tNext)
  (tSeq (tIfS (tTest (tOp (cCmp fun i j=>decide (j < i)) (tOp cMul (tVar 0) (tVar 1)) (tC (.int 16)))) cq tNext)
  (tSeq (tIfS (tNot (tB (tCall (aS K) [] E0 (tCons (tVar 2) (tCons (tC (.int 6)) tNil))))) cq tNext)
  (tRet (tTup (tCons (tVar 0) (tCons (tVar 1) (tCons (tVar 2) tNil)))))))))
theorem uJ {K:PySem.W.Frag} {vs:List V} {H:Hp} {Q:VK} {E:XK} (h:dU K vs H Q E):jr K { nx:=fun _ H'=>Q .non H',rt:=Q } (start ["high","wide","signs"] vs) H:=by
 obtain ⟨h,w,g,rfl,F,q⟩:=h
 obtain ⟨h0,h1,w0,w1,m16,g0,g1⟩:=id F
 show jr K _ [some (.int h),some (.int w),some (.int g)] H
 unfold jr
 rw [aQ,aH]
 walk_at "w"
 refine ⟨h,6,rfl,⟨_,rfl,?_⟩⟩
 rw [decide_eq_true h0,decide_eq_true h1,Bool.and_self]
 refine iteF ?_
 rw [aH]
 walk_at "w"
 refine ⟨w,6,rfl,⟨_,rfl,?_⟩⟩
 rw [decide_eq_true w0,decide_eq_true w1,Bool.and_self]
 refine iteF ?_
 rw [aH]
 walk_at "w"
 refine ⟨mP h0 h1,?_⟩
 rw [decide_eq_false (show ¬ (16:Int) < h*w by omega)]
 refine iteF ?_
 rw [aH]
 walk_at "w"
 refine ⟨g,6,rfl,⟨_,rfl,?_⟩⟩
 rw [decide_eq_true g0,decide_eq_true g1,Bool.and_self]
 refine iteF ?_
 walk_at "w"
 exact ⟨aK (by show (3:Nat)≤1000; decide),q⟩
def bI (K:PySem.W.Frag):Sp:=fun vs H Q _=>∃ (p:Addr) (h w g:Int),vs=[.ref p]∧IsFl H p h w g∧FlOk h w g∧∀ p,H p=none→Q (.ref p) (upd H p (.tup [.int h,.int w,.int g]))
theorem ow {K:PySem.W.Frag} {vs:List V} {H:Hp} {Q:VK} {E:XK} (h:bI K vs H Q E):vs.length=1:=by
 obtain ⟨_,_,_,_,rfl,_⟩:=h; rfl
def dF (K:PySem.W.Frag):TS:=
 (tSeq (tIfS (tOr (tNot (tB (tCB kIsi (tCons (tVar 0) (tCons (tC (.ty "tuple")) tNil))))) (tTest (tOp (cNe K) (tCB kLen (tCons (tVar 0) tNil)) (tC (.int 3))))) cq tNext)
  (tRet (tCall (dU K) [] E0 (tCons (tOp cIx (tVar 0) (tC (.int 0))) (tCons (tOp cIx (tVar 0) (tC (.int 1))) (tCons (tOp cIx (tVar 0) (tC (.int 2))) tNil))))))
theorem ox {K:PySem.W.Frag} {vs:List V} {H:Hp} {Q:VK} {E:XK} (h:bI K vs H Q E):dF K { nx:=fun _ H'=>Q .non H',rt:=Q } (start ["floor"] vs) H:=by
 obtain ⟨p,h,w,g,rfl,hp,F,q⟩:=h
 show dF K _ [some (.ref p)] H
 unfold dF
 rw [aQ,aH]
 walk_at "w"
 refine xI hp ?_
 walk_at "w"
 rw [xu hp,show (([V.int h,V.int w,V.int g]:List V).length:Int)=3 from rfl]
 walk_at "w"
 refine ixT hp (v:=V.int h) rfl ?_
 walk_at "w"
 refine ixT hp (v:=V.int w) rfl ?_
 walk_at "w"
 refine ixT hp (v:=V.int g) rfl ?_
 walk_at "w"
 exact ⟨h,w,g,rfl,F,q⟩
def cE (K:PySem.W.Frag) (c:RCl RK):Sp:=fun vs H Q _=>∃ (p a:Addr) (h w g:Int) (rows:List RR),vs=[.ref p,.ref a]∧IsFl H p h w g∧H a=some (.lst ((rows.map RR.txt).map V.str))∧mS c h w g rows∧
 ∀ l rs H',Same H H'→H l=none→IsRules H' c p l rs rows→Q (.ref l) H'
theorem rG {K:PySem.W.Frag} {c:RCl RK} {vs:List V} {H:Hp} {Q:VK} {E:XK} (h:cE K c vs H Q E):vs.length=2:=by
 obtain ⟨_,_,_,_,_,_,rfl,_⟩:=h; rfl
def gu (K:PySem.W.Frag) (c:RCl RK):TS:=
 (tSeq (tIfS (tTest (tOp (cCmp fun i j=>decide (j < i)) (tCB kLen (tCons (tVar 1) tNil)) (tC (.int 12)))) cq tNext)
  (tRet (tComp [none,none,some 0] (iList K (tVar 1)) (gName 1) tTrue (tCall (dg K c) [] E0 (tCons (tVar 2) (tCons (tVar 1) tNil))))))
theorem rH {K:PySem.W.Frag} {c:RCl RK} {vs:List V} {H:Hp} {Q:VK} {E:XK} (h:cE K c vs H Q E):gu K c { nx:=fun _ H'=>Q .non H',rt:=Q } (start ["floor","lines"] vs) H:=by
 obtain ⟨p,a,h,w,g,rows,rfl,hp,ha,O,q⟩:=h
 have hn:=O.n
 show gu K c _ [some (.ref p),some (.ref a)] H
 unfold gu
 rw [aQ,aH]
 walk_at "w"
 rw [cO ha,List.length_map,List.length_map]
 walk_at "w"
 rw [decide_eq_false (show ¬ (12:Int) < (rows.length:Nat) by omega)]
 refine iteF ?_
 walk_at "w"
 refine ⟨⟨_,SqL.of ha⟩,?_⟩
 refine mL (xs:=(rows.map RR.txt).map V.str) (fun l i σ H'=>(∃ cv,σ=[none,cv,some (.ref p)])∧Same H H'∧∃ rs:List Addr,H' l=some (.lst (rs.map V.ref))∧rs.length=i∧∀ (j:Nat) (r:Addr) (x:RR),rs[j]? =some r→rows[j]? =some x→IsRule H' c x.k r p x.ws x.cs x.n x.m)
  (fun l hl=>⟨⟨none,rfl⟩,(Same.refl H).laid hl,[],by rw [ag]; rfl,rfl,fun j r x e=>by simp at e⟩) (fun l i σ H' _ _ x=>x.2.1.seq (SqL.of ha)) ?_ ?_
 · rintro l i x σ H1 hl hx ⟨⟨cv,rfl⟩,s1,rs,el,hlen,hat⟩
   rw [List.getElem?_map,List.getElem?_map] at hx
   cases e:rows[i]? with
   | none=>rw [e] at hx; cases hx
   | some y=>
    rw [e] at hx
    cases hx
    have hi:=(List.getElem?_eq_some_iff.mp e).1
    have hm:=List.mem_of_getElem? e
    rw [bi]
    show tTrue [none,some (.str y.txt),some (.ref p)] H1 _
    walk_at "w"
    refine ⟨y.k,p,h,w,g,y.n,y.m,y.ns,y.cs,rfl,s1 _ _ hp,O.F,O.ok y hm,O.c y hm,fun r H2 s2 hr xr=>?_⟩
    have nrl:r≠l:=fun z=>by rw [z,el] at hr; cases hr
    refine ⟨_,s2 _ _ el,by rw [List.length_map]; exact aE (by omega),⟨_,rfl⟩,(s1.trans s2).own hl,rs++[r],by rw [ag]; simp,by simp [hlen],fun j r' x' h1 h2=>?_⟩
    by_cases hj:j < rs.length
    · rw [List.getElem?_append_left hj] at h1
      exact ((hat j r' x' h1 h2).same s2).lst (s2 _ _ el)
    · rw [List.getElem?_append_right (by omega)] at h1
      have hj0:j - rs.length=0:=by
       have:=(List.getElem?_eq_some_iff.mp h1).1
       simp at this
       omega
      rw [hj0] at h1
      have:j=i:=by omega
      subst this
      rw [e] at h2
      simp at h1
      cases h2
      subst h1
      exact xr.lst (s2 _ _ el)
 · rintro l σ H1 hl ⟨_,s1,rs,el,hlen,hat⟩
   exact q l rs H1 s1 hl ⟨el,by rw [hlen]; simp,hat⟩
def filB (least g:Int) (n:Nat) (xs:List Int):Bool:=decide (xs.length=n)&&xs.all fun x=>decide (least≤x)&&decide (x≤g)
def cF (K:PySem.W.Frag):Sp:=fun vs H Q _=>∃ (p a:Addr) (h w g least:Int) (xs:List Int),vs=[.ref p,.ref a,.int least]∧IsFl H p h w g∧FlOk h w g∧H a=some (.lst (xs.map V.int))∧xs.length≤100∧∀ H',Same H H'→Q (.bl (filB least g (h*w).toNat xs)) H'
theorem rJ {K:PySem.W.Frag} {vs:List V} {H:Hp} {Q:VK} {E:XK} (h:cF K vs H Q E):vs.length=3:=by
 obtain ⟨_,_,_,_,_,_,_,rfl,_⟩:=h; rfl
def gw (K:PySem.W.Frag):TS:=
 (tSeq (tIfS (tOr (tNot (tB (tCB kIsi (tCons (tVar 1) (tCons (tC (.ty "list")) tNil))))) (tTest (tOp (cNe K) (tCB kLen (tCons (tVar 1) tNil)) (tCall (aP K) [] E0 (tCons (tVar 0) tNil))))) (tRet (tC (.bl false))) tNext)
  (tRet (tCB kAll (tCons (tComp [none,none,some 0,some 2] (iList K (tVar 1)) (gName 1) tTrue (tAndV (tCall (aY K) [] E0 (tCons (tVar 1) tNil)) (tAndV (tOp (cCmp fun i j=>decide (i≤j)) (tVar 3) (tVar 1)) (tOp (cCmp fun i j=>decide (i≤j)) (tVar 1) (tOp cIx (tVar 2) (tC (.int 2))))))) tNil))))
theorem rK {K:PySem.W.Frag} {vs:List V} {H:Hp} {Q:VK} {E:XK} (h:cF K vs H Q E):gw K { nx:=fun _ H'=>Q .non H',rt:=Q } (start ["floor","filling","least"] vs) H:=by
 obtain ⟨p,a,h,w,g,least,xs,rfl,hp,F,ha,hn,q⟩:=h
 obtain ⟨h0,h1,w0,w1,m16,g0,g1⟩:=id F
 have mpos:0≤h*w:=Int.mul_nonneg (by omega) (by omega)
 show gw K _ [some (.ref p),some (.ref a),some (.int least)] H
 unfold gw
 rw [aQ,aH]
 walk_at "w"
 refine xH ha ?_
 walk_at "w"
 rw [cO ha,List.length_map]
 walk_at "w"
 refine ⟨p,h,w,g,rfl,hp,h0,h1,?_⟩
 walk_at "w"
 unfold filB at q
 by_cases hl:xs.length=(h*w).toNat
 · rw [decide_eq_true (show (xs.length:Int)=h*w by omega)]
   rw [decide_eq_true hl] at q
   walk_at "w"
   refine ⟨⟨_,SqL.of ha⟩,?_⟩
   refine b9 (xs:=xs.map V.int) (fun _=>true) (fun i=>.bl (decide (least≤xs.getD i 0)&&decide (xs.getD i 0≤g))) (by rw [List.length_map]; omega) (SqL.of ha) ?_ ?_ ?_
   · intro i x H1 R hx s1 k1
     exact k1 _ (Same.refl _)
   · intro i x H1 Q1 hx hb s1 k1
     obtain ⟨z,hz,rfl⟩:=bz hx
     have q1:=k1 _ (Same.refl H1)
     rw [i5 hz] at q1
     show tAndV _ _ [none,some (.int z),some (.ref p),some (.int least)] H1 Q1
     walk_at "w"
     refine ⟨z,rfl,⟨true,rfl,iteT ?_⟩⟩
     walk_at "w"
     cases hb:decide (least≤z) with
     | false=>
      rw [hb,Bool.false_and] at q1
      exact iteF q1
     | true=>
      rw [hb,Bool.true_and] at q1
      refine iteT ?_
      walk_at "w"
      refine ixT (s1 _ _ hp) (v:=V.int g) rfl ?_
      walk_at "w"
      exact q1
   · intro l H1 hl1 s1 el
     have eb:((List.range (xs.map V.int).length).filter fun _=>true).map (fun i=>V.bl (decide (least≤xs.getD i 0)&&decide (xs.getD i 0≤g)))=(xs.map fun x=>decide (least≤x)&&decide (x≤g)).map V.bl:=by
      rw [bf,List.length_map]
      refine List.ext_getElem? fun i=>?_
      rw [List.getElem?_map,List.getElem?_map,List.getElem?_map]
      by_cases h:i < xs.length
      · rw [List.getElem?_range h,List.getElem?_eq_getElem h]
        simp [List.getD,h]
      · rw [List.getElem?_eq_none (by simpa using h),List.getElem?_eq_none (by omega)]; rfl
     rw [eb] at el
     refine kG el ?_
     have ea:(xs.map fun x=>decide (least≤x)&&decide (x≤g)).all id=xs.all fun x=>decide (least≤x)&&decide (x≤g):=by rw [List.all_map]; rfl
     rw [ea]
     exact q _ s1
 · rw [decide_eq_false (show ¬ (xs.length:Int)=h*w by omega)]
   rw [decide_eq_false hl] at q
   walk_at "w"
   exact q _ (Same.refl _)
def bJ (K:PySem.W.Frag):Sp:=fun vs H Q _=>∃ (p a:Addr) (h w g:Int) (xs:List Int),vs=[.ref p,.ref a]∧IsFl H p h w g∧FlOk h w g∧H a=some (.lst (xs.map V.int))∧CluesOk h w g xs∧∀ l H',Same H H'→H l=none→H' l=some (.lst (xs.map V.int))→Q (.ref l) H'
theorem oy {K:PySem.W.Frag} {vs:List V} {H:Hp} {Q:VK} {E:XK} (h:bJ K vs H Q E):vs.length=2:=by
 obtain ⟨_,_,_,_,_,_,rfl,_⟩:=h; rfl
def dG (K:PySem.W.Frag):TS:=
 (tSeq (tIfS (tNot (tB (tCall (cF K) [] E0 (tCons (tVar 0) (tCons (tVar 1) (tCons (tC (.int 0)) tNil)))))) cq tNext)
  (tRet (tCB kList (tCons (tVar 1) tNil))))
theorem CluesOk.fil {h w g:Int} {xs:List Int} (C:CluesOk h w g xs):filB 0 g (h*w).toNat xs=true:=by
 unfold filB
 rw [decide_eq_true C.len,Bool.true_and,List.all_eq_true]
 intro x hx
 have:=C.ok x hx
 simp [this.1,this.2]
theorem oz {K:PySem.W.Frag} {vs:List V} {H:Hp} {Q:VK} {E:XK} (h:bJ K vs H Q E):dG K { nx:=fun _ H'=>Q .non H',rt:=Q } (start ["floor","clues"] vs) H:=by
 obtain ⟨p,a,h,w,g,xs,rfl,hp,F,ha,C,q⟩:=h
 obtain ⟨h0,h1,w0,w1,m16,g0,g1⟩:=id F
 show dG K _ [some (.ref p),some (.ref a)] H
 unfold dG
 rw [aQ,aH]
 walk_at "w"
 refine ⟨p,a,h,w,g,0,xs,rfl,hp,F,ha,by have:=C.len; omega,fun H1 s1=>?_⟩
 rw [C.fil]
 refine ⟨true,rfl,iteF ?_⟩
 walk_at "w"
 refine sQ (s1 _ _ ha) fun l hl=>?_
 exact q l _ (s1.laid hl) (s1.free hl) ag
theorem IsRule.ins {H:Hp} {c:RCl RK} {k:RK} {r p a:Addr} {ws:List (List Nat)} {cs:List Int} {n m:Int} {C dx:Addr} {fs:List (Str × V)} {o:HO} (x:IsRule H c k r p ws cs n m) (ha:H a=some (.ins C dx fs)) (hf:fs.length≠5):IsRule (upd H a o) c k r p ws cs n m:=by
 obtain ⟨dx',W,C',h1,h2,h3⟩:=x.ex
 refine ⟨x.ok,dx',W,C',?_,?_,?_⟩
 · rw [aj (fun e=>by rw [e,ha] at h1; cases h1; exact hf rfl)]; exact h1
 · rw [aj (fun e=>by rw [e,ha] at h2; cases h2)]; exact h2
 · rw [aj (fun e=>by rw [e,ha] at h3; cases h3)]; exact h3
theorem IsRules.ins {H:Hp} {c:RCl RK} {p L a:Addr} {rs:List Addr} {rows:List RR} {C dx:Addr} {fs:List (Str × V)} {o:HO} (x:IsRules H c p L rs rows) (ha:H a=some (.ins C dx fs)) (hf:fs.length≠5):IsRules (upd H a o) c p L rs rows:=
 ⟨by rw [aj (fun e=>by have:=x.top; rw [e,ha] at this; cases this)]; exact x.top,x.len,fun i r y h1 h2=>(x.at_ i r y h1 h2).ins ha hf⟩
def bb (K:PySem.W.Frag) (c:RCl RK) (d:RCl PzK):Sp:=fun vs H Q _=>∃ (x dx p a b:Addr) (h w g:Int) (rows:List RR) (cl:List Int),vs=[.ref x,.ref p,.ref a,.ref b]∧d.ok .Puzzle=true∧H x=some (.ins (d.A .Puzzle) dx [])∧IsFl H p h w g∧H a=some (.lst ((rows.map RR.txt).map V.str))∧H b=some (.lst (cl.map V.int))∧mS c h w g rows∧CluesOk h w g cl∧
 ∀ L G H',(∀ y o,y≠x→H y=some o→H' y=some o)→H L=none→H G=none→IsPz H' c d x L G h w g rows cl→Q .non H'
theorem mT {K:PySem.W.Frag} {c:RCl RK} {d:RCl PzK} {vs:List V} {H:Hp} {Q:VK} {E:XK} (h:bb K c d vs H Q E):vs.length=4:=by
 obtain ⟨_,_,_,_,_,_,_,_,_,_,rfl,_⟩:=h; rfl
def cQ (K:PySem.W.Frag) (c:RCl RK) (d:RCl PzK):TS:=
 (tSeq (sFldK d (tVar 0) (tCall (bI K) [] E0 (tCons (tVar 1) tNil)) "floor")
  (tSeq (sFldK d (tVar 0) (tCall (cE K c) [] E0 (tCons (tFldK d (tVar 0) "floor") (tCons (tVar 2) tNil))) "laws")
  (sFldK d (tVar 0) (tCall (bJ K) [] E0 (tCons (tFldK d (tVar 0) "floor") (tCons (tVar 3) tNil))) "given")))
theorem mU {K:PySem.W.Frag} {c:RCl RK} {d:RCl PzK} {vs:List V} {H:Hp} {Q:VK} {E:XK} (h:bb K c d vs H Q E):cQ K c d { nx:=fun _ H'=>Q .non H',rt:=Q } (start ["self","floor","lines","clues"] vs) H:=by
 obtain ⟨x,dx,p,a,b,h,w,g,rows,cl,rfl,ok,hx,hp,ha,hb,R,C,q⟩:=h
 show cQ K c d _ [some (.ref x),some (.ref p),some (.ref a),some (.ref b)] H
 unfold cQ sFldK
 walk_at "w"
 refine ⟨p,h,w,g,rfl,hp,R.F,fun p1 hp1=>?_⟩
 have nxp:x≠p1:=az hx hp1
 refine ⟨x,.Puzzle,dx,[],rfl,ok,by rw [aj nxp]; exact hx,by show (0:Nat) < 1000; decide,?_⟩
 have f1:∀ y o,y≠x→H y=some o→(upd (upd H p1 (.tup [.int h,.int w,.int g])) x (.ins (d.A .Puzzle) dx (putF "floor" (.ref p1) []))) y=some o:=fun y o ny e=>by
  rw [aj ny,aj (az e hp1)]; exact e
 have hx1:(upd (upd H p1 (.tup [.int h,.int w,.int g])) x (.ins (d.A .Puzzle) dx (putF "floor" (.ref p1) []))) x=some (.ins (d.A .Puzzle) dx [("floor",.ref p1)]):=ag
 have hp1':IsFl (upd (upd H p1 (.tup [.int h,.int w,.int g])) x (.ins (d.A .Puzzle) dx (putF "floor" (.ref p1) []))) p1 h w g:=by
  show (upd (upd H p1 (.tup [.int h,.int w,.int g])) x _) p1=_
  rw [aj nxp.symm,ag]
 have fr1:∀ l,(upd (upd H p1 (.tup [.int h,.int w,.int g])) x (.ins (d.A .Puzzle) dx (putF "floor" (.ref p1) []))) l=none→H l=none:=fun l e=>by
  have n1:l≠x:=fun z=>by rw [z,ag] at e; cases e
  rw [aj n1] at e
  have n2:l≠p1:=fun z=>by rw [z,ag] at e; cases e
  rw [aj n2] at e
  exact e
 have nax:a≠x:=fun z=>by rw [z,hx] at ha; cases ha
 have nbx:b≠x:=fun z=>by rw [z,hx] at hb; cases hb
 generalize upd (upd H p1 (.tup [.int h,.int w,.int g])) x (.ins (d.A .Puzzle) dx (putF "floor" (.ref p1) []))=H1 at*
 refine fldE (c:=d) (k:=.Puzzle) rfl ok hx1 (v:=.ref p1) (by rfl) ?_
 walk_at "w"
 refine ⟨p1,a,h,w,g,rows,rfl,hp1',f1 a _ nax ha,R,fun L rs H2 s2 hL X=>?_⟩
 refine ⟨x,.Puzzle,dx,_,rfl,ok,s2 _ _ hx1,by show (1:Nat) < 1000; decide,?_⟩
 have nxL:L≠x:=fun z=>by rw [z,hx1] at hL; cases hL
 have X3:=X.ins (o:=.ins (d.A .Puzzle) dx (putF "laws" (.ref L) [("floor",.ref p1)])) (s2 _ _ hx1) (by show (1:Nat)≠5; decide)
 have f2:∀ y o,y≠x→H y=some o→(upd H2 x (.ins (d.A .Puzzle) dx (putF "laws" (.ref L) [("floor",.ref p1)]))) y=some o:=fun y o ny e=>by
  rw [aj ny]; exact s2 _ _ (f1 y o ny e)
 have hx3:(upd H2 x (.ins (d.A .Puzzle) dx (putF "laws" (.ref L) [("floor",.ref p1)]))) x=some (.ins (d.A .Puzzle) dx [("floor",.ref p1),("laws",.ref L)]):=ag
 have hp3:IsFl (upd H2 x (.ins (d.A .Puzzle) dx (putF "laws" (.ref L) [("floor",.ref p1)]))) p1 h w g:=by
  show (upd H2 x _) p1=_
  rw [aj nxp.symm]; exact s2 _ _ hp1'
 have fr3:∀ l,(upd H2 x (.ins (d.A .Puzzle) dx (putF "laws" (.ref L) [("floor",.ref p1)]))) l=none→H1 l=none:=fun l e=>by
  have n1:l≠x:=fun z=>by rw [z,ag] at e; cases e
  rw [aj n1] at e
  exact s2.free e
 generalize upd H2 x (.ins (d.A .Puzzle) dx (putF "laws" (.ref L) [("floor",.ref p1)]))=H3 at*
 refine fldE (c:=d) (k:=.Puzzle) rfl ok hx3 (v:=.ref p1) (by rfl) ?_
 walk_at "w"
 refine ⟨p1,b,h,w,g,cl,rfl,hp3,R.F,f2 b _ nbx hb,C,fun G H4 s4 hG eG=>?_⟩
 refine ⟨x,.Puzzle,dx,_,rfl,ok,s4 _ _ hx3,by show (2:Nat) < 1000; decide,?_⟩
 have nxG:G≠x:=fun z=>by rw [z,hx3] at hG; cases hG
 refine q L G _ (fun y o ny e=>?_) (fr1 L hL) (fr1 G (fr3 G hG)) ⟨ok,R,C,?_,dx,p1,rs,?_,?_,?_⟩
 · rw [aj ny]; exact s4 _ _ (f2 y o ny e)
 · rw [aj nxG]; exact eG
 · rw [ag]; rfl
 · show (upd H4 x _) p1=_
   rw [aj nxp.symm]; exact s4 _ _ hp3
 · exact (X3.same s4).ins (s4 _ _ hx3) (by show (2:Nat)≠5; decide)
theorem AG {K:PySem.W.Frag} {c:RCl RK} {d:RCl PzK} {H:Hp} {Z:Addr→Hp→Prop} {p a b:Addr} {h w g:Int} {rows:List RR} {cl:List Int} (ok:d.ok .Puzzle=true) (hp:IsFl H p h w g) (ha:H a=some (.lst ((rows.map RR.txt).map V.str))) (hb:H b=some (.lst (cl.map V.int))) (R:mS c h w g rows) (C:CluesOk h w g cl)
  (q:∀ P L G H',Same H H'→H P=none→H L=none→H G=none→IsPz H' c d P L G h w g rows cl→Z P H'):
  ∀ x dx,H x=none→H dx=none→dx≠x→bb K c d (.ref x::([.ref p,.ref a,.ref b]++[])) (upd (upd H dx (.own x)) x (.ins (d.A .Puzzle) dx [])) (fun v H2=>v=.non∧Z x H2) E0:=by
 intro x dx hx hd ne
 have k:∀ y o,H y=some o→(upd (upd H dx (.own x)) x (.ins (d.A .Puzzle) dx [])) y=some o:=fun y o e=>by rw [aj (az e hx),aj (az e hd)]; exact e
 have fr:∀ y,(upd (upd H dx (.own x)) x (.ins (d.A .Puzzle) dx [])) y=none→H y=none:=fun y e=>by
  have n1:y≠x:=fun z=>by rw [z,ag] at e; cases e
  rw [aj n1] at e
  have n2:y≠dx:=fun z=>by rw [z,ag] at e; cases e
  rw [aj n2] at e
  exact e
 exact ⟨x,dx,p,a,b,h,w,g,rows,cl,rfl,ok,ag,k _ _ hp,k _ _ ha,k _ _ hb,R,C,fun L G H' hs hL hG X=>⟨rfl,q x L G H' (fun y o e=>hs y o (az e hx) (k _ _ e)) hx (fr L hL) (fr G hG) X⟩⟩
def kq (K:PySem.W.Frag) (c:RCl RK) (d:RCl PzK) (_:PzK):Sp:=fun vs H Q _=>∃ (P L G:Addr) (h w g:Int) (rows:List RR) (cl:List Int),vs=[.ref P]∧IsPz H c d P L G h w g rows cl∧∀ p,IsFl H p h w g→Q (.ref p) H
def d8 (K:PySem.W.Frag) (c:RCl RK) (d:RCl PzK):Sp:=kq K c d .Puzzle
theorem pA {K:PySem.W.Frag} {c:RCl RK} {d:RCl PzK} {vs:List V} {H:Hp} {Q:VK} {E:XK} (h:d8 K c d vs H Q E):vs.length=1:=by
 obtain ⟨_,_,_,_,_,_,_,_,rfl,_⟩:=h; rfl
def d9 (K:PySem.W.Frag) (c:RCl RK) (d:RCl PzK):TS:=
 (tRet (tFldK d (tVar 0) "floor"))
theorem pB {K:PySem.W.Frag} {c:RCl RK} {d:RCl PzK} {vs:List V} {H:Hp} {Q:VK} {E:XK} (h:d8 K c d vs H Q E):d9 K c d { nx:=fun _ H'=>Q .non H',rt:=Q } (start ["self"] vs) H:=by
 obtain ⟨P,L,G,h,w,g,rows,cl,rfl,x,q⟩:=h
 obtain ⟨dx,p,rs,h1,h2,h3⟩:=x.ex
 show d9 K c d _ [some (.ref P)] H
 unfold d9
 walk_at "w"
 exact fldE (k:=.Puzzle) rfl x.ok h1 (v:=.ref p) (by rfl) (q p h2)
def oA (K:PySem.W.Frag) (c:RCl RK) (d:RCl PzK) (_:PzK):Sp:=fun vs H Q _=>∃ (P L G:Addr) (h w g:Int) (rows:List RR) (cl:List Int),vs=[.ref P]∧IsPz H c d P L G h w g rows cl∧∀ l,H l=none→Q (.ref l) (upd H l (.lst (cl.map V.int)))
def ed (K:PySem.W.Frag) (c:RCl RK) (d:RCl PzK):Sp:=oA K c d .Puzzle
theorem pC {K:PySem.W.Frag} {c:RCl RK} {d:RCl PzK} {vs:List V} {H:Hp} {Q:VK} {E:XK} (h:ed K c d vs H Q E):vs.length=1:=by
 obtain ⟨_,_,_,_,_,_,_,_,rfl,_⟩:=h; rfl
def eh (K:PySem.W.Frag) (c:RCl RK) (d:RCl PzK):TS:=
 (tRet (tCB kList (tCons (tFldK d (tVar 0) "given") tNil)))
theorem pD {K:PySem.W.Frag} {c:RCl RK} {d:RCl PzK} {vs:List V} {H:Hp} {Q:VK} {E:XK} (h:ed K c d vs H Q E):eh K c d { nx:=fun _ H'=>Q .non H',rt:=Q } (start ["self"] vs) H:=by
 obtain ⟨P,L,G,h,w,g,rows,cl,rfl,x,q⟩:=h
 obtain ⟨dx,p,rs,h1,h2,h3⟩:=x.ex
 show eh K c d _ [some (.ref P)] H
 unfold eh
 walk_at "w"
 refine fldE (k:=.Puzzle) rfl x.ok h1 (v:=.ref G) (by rfl) ?_
 walk_at "w"
 exact sQ x.gv q
def b7 (K:PySem.W.Frag) (c:RCl RK) (d:RCl PzK) (_:PzK):Sp:=fun vs H Q _=>∃ (P L G:Addr) (h w g:Int) (rows:List RR) (cl:List Int),vs=[.ref P]∧IsPz H c d P L G h w g rows cl∧∀ l p rs,H l=none→IsFl (upd H l (.lst (rs.map V.ref))) p h w g→IsRules (upd H l (.lst (rs.map V.ref))) c p l rs rows→Q (.ref l) (upd H l (.lst (rs.map V.ref)))
def eo (K:PySem.W.Frag) (c:RCl RK) (d:RCl PzK):Sp:=b7 K c d .Puzzle
theorem pE {K:PySem.W.Frag} {c:RCl RK} {d:RCl PzK} {vs:List V} {H:Hp} {Q:VK} {E:XK} (h:eo K c d vs H Q E):vs.length=1:=by
 obtain ⟨_,_,_,_,_,_,_,_,rfl,_⟩:=h; rfl
def eE (K:PySem.W.Frag) (c:RCl RK) (d:RCl PzK):TS:=
 (tRet (tCB kList (tCons (tFldK d (tVar 0) "laws") tNil)))
theorem pF {K:PySem.W.Frag} {c:RCl RK} {d:RCl PzK} {vs:List V} {H:Hp} {Q:VK} {E:XK} (h:eo K c d vs H Q E):eE K c d { nx:=fun _ H'=>Q .non H',rt:=Q } (start ["self"] vs) H:=by
 obtain ⟨P,L,G,h,w,g,rows,cl,rfl,x,q⟩:=h
 obtain ⟨dx,p,rs,h1,h2,h3⟩:=x.ex
 show eE K c d _ [some (.ref P)] H
 unfold eE
 walk_at "w"
 refine fldE (k:=.Puzzle) rfl x.ok h1 (v:=.ref L) (by rfl) ?_
 walk_at "w"
 refine sQ h3.top fun l hl=>?_
 have s1:Same H (upd H l (.lst (rs.map V.ref))):=(Same.refl H).laid hl
 exact q l p rs hl (s1 _ _ h2) ⟨ag,h3.len,fun i r y e1 e2=>(h3.at_ i r y e1 e2).same s1⟩
end L2
namespace L2
open PySem PySem.Spec PyProof.Rows
inductive DRows (w:World) (K:PySem.W.Frag):List DictEntry→List (Str × List Str)→Prop
 | nil:DRows w K [] []
 | cons {hsh:Int} {k:Str} {t:Tok} {q:Addr} {o:Obj} {its:Array Value} {n:Nat} {ws:List Str} {es:List DictEntry} {D:List (Str × List Str)}:hsh=hashStr w k→K.lookup q=some o→o.cls=.type "tuple"→o.data=.seq its n→its.size≤sizeLine→Vals (ws.map V.str) its.toList→DRows w K es D→DRows w K (⟨hsh,.str k t,.ref q⟩::es) ((k,ws)::D)
structure GDict (w:World) (K:PySem.W.Frag) (mg:Str→Option Value) (x:Str) (D:List (Str × List Str)):Prop where
 ex:∃ (p:Addr) (o:Obj) (es:Array DictEntry) (ep:Nat),mg x=some (.ref p)∧K.lookup p=some o∧o.ExactDict∧o.data=.dict es ep∧DRows w K es.toList D∧(D.map fun x=>x.1).Nodup
theorem DRows.of {P:Program} {w:World} {K:PySem.W.Frag} {es:List DictEntry} {D:List (Str × List Str)} (h:DRows w K es D):
  ∃ kvs:List (Str × Value),Pairs (strKind P w) es kvs∧kvs.map (fun x=>x.1)=D.map (fun x=>x.1)∧(∀ e∈es,∃ k,(strKind P w).is k e.key=true∧e.hash=(strKind P w).hash k)∧
   ∀ k ws,D.lookup k=some ws→∃ q,valueAt kvs k=some (.ref q)∧∃ (o:Obj) (its:Array Value) (n:Nat),K.lookup q=some o∧o.cls=.type "tuple"∧o.data=.seq its n∧its.size≤sizeLine∧Vals (ws.map V.str) its.toList:=by
 induction h with
 | nil=>exact ⟨[],.nil,rfl,fun e he=>(by cases he),fun k ws e=>(by cases e)⟩
 | @cons hsh k t q o its n ws es D h1 h2 h3 h4 h5 h6 _ ih=>
  obtain ⟨kvs,p1,p2,p3,p4⟩:=ih
  have hk:(strKind P w).is k (.str k t)=true:=by show (k==k)=true; simp
  refine ⟨(k,.ref q)::kvs,.cons hk rfl p1,by rw [List.map_cons,List.map_cons,p2],fun e he=>?_,fun k' ws' e=>?_⟩
  · rcases List.mem_cons.mp he with rfl | he
    · exact ⟨k,hk,h1⟩
    · exact p3 e he
  · rw [List.lookup_cons] at e
    unfold valueAt
    rw [List.find?_cons]
    by_cases hkk:k'=k
    · subst hkk
      simp at e
      subst e
      refine ⟨q,by simp,o,its,n,h2,h3,h4,h5,h6⟩
    · have hb:(k'==k)=false:=by simpa using hkk
      rw [hb] at e
      have hd:decide (k=k')=false:=decide_eq_false (fun z=>hkk z.symm)
      dsimp only
      rw [hd]
      exact p4 k' ws' e
def tIxG (K:PySem.W.Frag) (D:List (Str × List Str)) (te:TE):TE:=fun σ H Q=>te σ H fun y H1=>∃ k ws,y=.str k∧D.lookup k=some ws∧∀ q,SqT K H1 q (ws.map V.str)→Q (.ref q) H1
def rInS (K:PySem.W.Frag):R2:=fun x y H Q=>∃ (z:Str) (q:Addr) (ws:List Str),x=.str z∧y=.ref q∧SqT K H q (ws.map V.str)∧Q (.bl (decide (z∈ws))) H
section
variable {X:Cx} {a b:Expr} {ta tb:TE} {pos p:Pos} {x:Str} {D:List (Str × List Str)}
theorem AH (G:GDict X.w X.K X.mg x D) (hb:PE X b tb) (hg:Gl X x) (hpi:vg b) (hdb:(x==("__debug__":Str))=false:=by decide):PE X (.Subscript (.Name x p) b pos) (tIxG X.K D tb):=by
 obtain ⟨pd,o,es,ep,h1,h2,h3,h4,h5,h6⟩:=G.ex
 obtain ⟨kvs,p1,p2,p3,p4⟩:=h5.of (P:=X.prog)
 have ir:IxR X (fun x y H Q=>x=.ref pd∧∃ k ws,y=.str k∧D.lookup k=some ws∧∀ q,SqT X.K H q (ws.map V.str)→Q (.ref q) H):=by
  intro value slice pins s σ H x y v u Q I rx ry h hs
  obtain ⟨rfl,k,ws,rfl,hl,q⟩:=h
  cases (show v=Value.ref pd from rx)
  have hget:s.heap.get? pd=some o:=I.kIn pd o h2
  have dd:Heap.DictOf (strKind X.prog X.w) s.heap pd kvs:=⟨o,es,ep,hget,h3,h4,fun e he=>p3 e (Array.mem_toList_iff.mpr he),p1,by rw [p2]; exact h6⟩
  obtain ⟨qa,hv,o2,its,n,g1,g2,g3,g4,g5⟩:=p4 k ws hl
  obtain ⟨t,rfl⟩:∃ t,u=Value.str k t:=ry
  have hk:(strKind X.prog X.w).is k (.str k t)=true:=by show (k==k)=true; simp
  refine tail_any dd.typeIs PySem.F.slot_dict_getitem.lookup (wpAny_getItem_of hk dd.mapOf hv ?_) hs
  exact ⟨.ref qa,H,I.tok _,rfl,q qa (.inr ⟨o2,its,n,g1,g2,g3,g4,g5⟩)⟩
 have h0:=aw (pos:=pos) ir (cB (pos:=p) (v:=V.ref pd) hg h1 rfl hdb) hb hpi
 intro pins s σ H Q I h
 refine h0 pins s σ H Q I ?_
 have e:(fun (y:V) (H1:Hp)=>∃ k ws,y=.str k∧D.lookup k=some ws∧∀ q,SqT X.K H1 q (ws.map V.str)→Q (.ref q) H1)=fun y H1=>(V.ref pd=V.ref pd)∧∃ k ws,y=.str k∧D.lookup k=some ws∧∀ q,SqT X.K H1 q (ws.map V.str)→Q (.ref q) H1:=by
  funext y H1; simp
 have h':tb σ H (fun (y:V) (H1:Hp)=>∃ k ws,y=.str k∧D.lookup k=some ws∧∀ q,SqT X.K H1 q (ws.map V.str)→Q (.ref q) H1):=h
 rw [e] at h'
 exact h'
theorem AI:OpR X (compareOp .In) (rInS X.K):=by
 intro pins s σ H x y v u Q I rx ry h
 obtain ⟨z,q,ws,rfl,rfl,hq,h⟩:=h
 refine mF pins s σ H _ _ v u Q I rx ry ⟨q,ws.map V.str,rfl,.inr hq,rfl,kL ws,?_⟩
 rw [lP]
 exact h
end
section
variable {K:PySem.W.Frag} {σ:St} {H:Hp} {Q:VK} {te:TE} {D:List (Str × List Str)}
theorem A6:tIxG K D te σ H Q=te σ H fun y H1=>∃ k ws,y=.str k∧D.lookup k=some ws∧∀ q,SqT K H1 q (ws.map V.str)→Q (.ref q) H1:=rfl
end
end L2
namespace L2
open PySem PySem.Spec PyProof.Rows
local macro_rules | `(tactic| walk_at "w")=>`(tactic| (first | simp only [aQ,if_true,if_false,Bool.false_eq_true,decide_true,decide_false,gR,gS,kK,fu,dr,gP,jE,gQ,ft,jC,jD,fq,kF,fv,fw,fA,fB,fC,fD,fz,jG,jH,jI,jA,kJ,Bool.not_true,Bool.not_false,dN,dw,bi,gl,w_c,g8,dy,e7,dO,e8,w_b,w_not,g9,ke,e9,fb,hE,gm,cN,jK,dP,hJ,gn,jL,hV,dQ,fc,fe,ff,c9,da,cC,cr,cu,bS,hX,h9,ia,ib,ic,ie,ig,ii,ij,ik,il,im,kg,fg,cw,fh,kh,fi,db,cx,io,ip,fj,fk,fo,
 List.getElem?_cons_zero,List.getElem?_cons_succ,Option.some.injEq,exists_eq_left',exists_eq_left,List.set_cons_zero,List.set_cons_succ,b4,V.int.injEq,V.bl.injEq,V.ref.injEq,V.str.injEq,List.append_nil,List.nil_append,List.cons_append] | dsimp only | skip))
def stB (m s:Int):Bool:=decide (1≤s)&&(decide (s≤((Builtin.Int.intBits m:Nat):Int))&&decide (m / 2^(s - 1).toNat % 2=1))
def ce (K:PySem.W.Frag):Sp:=fun vs H Q _=>∃ m s:Int,vs=[.int m,.int s]∧Q (.bl (stB m s)) H
theorem xU {K:PySem.W.Frag} {vs:List V} {H:Hp} {Q:VK} {E:XK} (h:ce K vs H Q E):vs.length=2:=by
 obtain ⟨_,_,rfl,_⟩:=h; rfl
def kO (K:PySem.W.Frag):TS:=
 (tRet (tAndV (tOp (cCmp fun i j=>decide (i≤j)) (tC (.int 1)) (tVar 1)) (tAndV (tOp (cCmp fun i j=>decide (i≤j)) (tVar 1) (vQ K "int" lz (tVar 0))) (tOp (cEq K) (tOp cMod (tOp cShr (tVar 0) (tOp cSub (tVar 1) (tC (.int 1)))) (tC (.int 2))) (tC (.int 1))))))
theorem xV {K:PySem.W.Frag} {vs:List V} {H:Hp} {Q:VK} {E:XK} (h:ce K vs H Q E):kO K { nx:=fun _ H'=>Q .non H',rt:=Q } (start ["mask","sign"] vs) H:=by
 obtain ⟨m,s,rfl,q⟩:=h
 show kO K _ [some (.int m),some (.int s)] H
 unfold kO
 walk_at "w"
 unfold stB at q
 cases h1:decide (1≤s) with
 | false=>rw [h1,Bool.false_and] at q; exact iteF q
 | true=>
  refine iteT ⟨rfl,?_⟩
  walk_at "w"
  rw [h1,Bool.true_and] at q
  cases h2:decide (s≤((Builtin.Int.intBits m:Nat):Int)) with
  | false=>rw [h2,Bool.false_and] at q; exact iteF q
  | true=>
   rw [h2,Bool.true_and] at q
   exact iteT ⟨by have:=of_decide_eq_true h1; omega,by decide,q⟩
def gX (K:PySem.W.Frag):Sp:=fun vs H Q _=>∃ s:Int,vs=[.int s]∧1≤s∧s≤100000∧Q (.int (2^(s - 1).toNat)) H
theorem xW {K:PySem.W.Frag} {vs:List V} {H:Hp} {Q:VK} {E:XK} (h:gX K vs H Q E):vs.length=1:=by
 obtain ⟨_,rfl,_⟩:=h; rfl
def kP (K:PySem.W.Frag):TS:=
 (tSeq (tAsg (tC (.int 1)) (gName 1))
  (tSeq (tFor (cU (tCons (tOp cSub (tVar 0) (tC (.int 1))) tNil)) (gName 2)
  (tAsg (tOp cMul (tVar 1) (tC (.int 2))) (gName 1)))
  (tRet (tVar 1))))
theorem xX {K:PySem.W.Frag} {vs:List V} {H:Hp} {Q:VK} {E:XK} (h:gX K vs H Q E):kP K { nx:=fun _ H'=>Q .non H',rt:=Q } (start ["sign","bit","step"] vs) H:=by
 obtain ⟨s,rfl,h1,h2,q⟩:=h
 show kP K _ [some (.int s),none,none] H
 unfold kP
 walk_at "w"
 refine ⟨s - 1,rfl,by omega,by omega,?_⟩
 refine gN (fun i σ H'=>∃ sv:Option V,σ=[some (.int s),some (.int (2^i)),sv]∧H'=H) ⟨none,rfl,rfl⟩ ?_ ?_
 · rintro i σ H' hi ⟨sv,rfl,rfl⟩
   walk_at "w"
   refine ⟨.inr ⟨by decide,by decide⟩,?_⟩
   simp [Int.pow_succ]
 · rintro σ H' ⟨sv,rfl,rfl⟩
   walk_at "w"
   exact q
def woI (m s:Int):Int:=if stB m s=true then m - 2^(s - 1).toNat else m
def fR (K:PySem.W.Frag):Sp:=fun vs H Q _=>∃ m s:Int,vs=[.int m,.int s]∧s≤100000∧Q (.int (woI m s)) H
theorem we {K:PySem.W.Frag} {vs:List V} {H:Hp} {Q:VK} {E:XK} (h:fR K vs H Q E):vs.length=2:=by
 obtain ⟨_,_,rfl,_⟩:=h; rfl
def jX (K:PySem.W.Frag):TS:=
 (tRet (tIf (tB (tCall (ce K) [] E0 (tCons (tVar 0) (tCons (tVar 1) tNil)))) (tOp cSub (tVar 0) (tCall (gX K) [] E0 (tCons (tVar 1) tNil))) (tVar 0)))
theorem wf {K:PySem.W.Frag} {vs:List V} {H:Hp} {Q:VK} {E:XK} (h:fR K vs H Q E):jX K { nx:=fun _ H'=>Q .non H',rt:=Q } (start ["mask","sign"] vs) H:=by
 obtain ⟨m,s,rfl,h2,q⟩:=h
 show jX K _ [some (.int m),some (.int s)] H
 unfold jX
 walk_at "w"
 refine ⟨m,s,rfl,_,rfl,?_⟩
 unfold woI at q
 cases hb:stB m s with
 | false=>
  rw [hb,if_neg Bool.false_ne_true] at q
  exact iteF q
 | true=>
  rw [hb,if_pos rfl] at q
  refine iteT ⟨s,rfl,?_,h2,?_⟩
  · unfold stB at hb
    rw [Bool.and_eq_true,decide_eq_true_eq] at hb
    exact hb.1
  · walk_at "w"
    exact q
def dW (K:PySem.W.Frag):Sp:=fun vs H Q _=>∃ m s:Int,vs=[.int m,.int s]∧s≤100000∧Q (.bl (decide (woI m s=0))) H
theorem uK {K:PySem.W.Frag} {vs:List V} {H:Hp} {Q:VK} {E:XK} (h:dW K vs H Q E):vs.length=2:=by
 obtain ⟨_,_,rfl,_⟩:=h; rfl
def js (K:PySem.W.Frag):TS:=
 (tRet (tOp (cEq K) (tCall (fR K) [] E0 (tCons (tVar 0) (tCons (tVar 1) tNil))) (tC (.int 0))))
theorem uL {K:PySem.W.Frag} {vs:List V} {H:Hp} {Q:VK} {E:XK} (h:dW K vs H Q E):js K { nx:=fun _ H'=>Q .non H',rt:=Q } (start ["mask","sign"] vs) H:=by
 obtain ⟨m,s,rfl,h2,q⟩:=h
 show js K _ [some (.int m),some (.int s)] H
 unfold js
 walk_at "w"
 refine ⟨m,s,rfl,h2,?_⟩
 walk_at "w"
 exact q
def sgL (m:Int):List Int:=((List.range (Builtin.Int.intBits m)).filter fun (i:Nat)=>stB m (1+(i:Int))).map fun (i:Nat)=>1+(i:Int)
def aT (K:PySem.W.Frag):Sp:=fun vs H Q _=>∃ m:Int,vs=[.int m]∧Builtin.Int.intBits m≤900∧∀ l H',Same H H'→H l=none→H' l=some (.lst ((sgL m).map V.int))→Q (.ref l) H'
theorem uM {K:PySem.W.Frag} {vs:List V} {H:Hp} {Q:VK} {E:XK} (h:aT K vs H Q E):vs.length=1:=by
 obtain ⟨_,rfl,_⟩:=h; rfl
def jt (K:PySem.W.Frag):TS:=
 (tRet (tComp [none,none,some 0] (oY (tCons (tC (.int 1)) (tCons (tOp cAdd (vQ K "int" lz (tVar 0)) (tC (.int 1))) tNil))) (gName 1) (tB (tCall (ce K) [] E0 (tCons (tVar 2) (tCons (tVar 1) tNil)))) (tVar 1)))
theorem uN {K:PySem.W.Frag} {vs:List V} {H:Hp} {Q:VK} {E:XK} (h:aT K vs H Q E):jt K { nx:=fun _ H'=>Q .non H',rt:=Q } (start ["mask"] vs) H:=by
 obtain ⟨m,rfl,hb,k⟩:=h
 show jt K _ [some (.int m)] H
 unfold jt
 walk_at "w"
 refine ⟨rfl,1,_,rfl,by omega,?_⟩
 have en:(((Builtin.Int.intBits m:Nat):Int)+1 - 1).toNat=Builtin.Int.intBits m:=by omega
 rw [en]
 refine kW (fun (i:Nat)=>stB m (1+(i:Int))) (fun (i:Nat)=>1+(i:Int)) hb ?_ ?_ ?_
 · intro i H1 R hi s1 k1
   show tB _ [none,some (.int (1+(i:Int))),some (.int m)] H1 R
   walk_at "w"
   exact ⟨m,_,rfl,_,rfl,k1 _ (Same.refl _)⟩
 · intro i H1 Q1 hi hb s1 k1
   show tVar 1 [none,some (.int (1+(i:Int))),some (.int m)] H1 Q1
   exact ⟨_,rfl,k1 _ (Same.refl _)⟩
 · intro l H1 hl s1 el
   exact k l H1 s1 hl el
end L2
namespace L2
open PySem PySem.Spec PyProof.Rows
local macro_rules | `(tactic| walk_at "w")=>`(tactic| (first | simp only [aQ,kn,lQ,gI,ko,i6,i7,lR,lN,kl,lO,if_true,if_false,Bool.false_eq_true,decide_true,decide_false,gR,gS,kK,fu,dr,gP,jE,gQ,ft,jC,jD,fq,kF,fv,fw,fA,fB,fC,fD,fz,jG,jH,jI,jA,kJ,Bool.not_true,Bool.not_false,dN,dw,bi,gl,w_c,g8,dy,e7,dO,e8,w_b,w_not,g9,ke,e9,fb,hE,gm,cN,jK,dP,hJ,gn,jL,hV,dQ,fc,fe,ff,c9,da,cC,cr,cu,bS,hX,h9,ia,ib,ic,ie,ig,ii,ij,ik,il,im,kg,fg,cw,fh,kh,fi,db,cx,io,ip,fj,fk,fo,
 List.getElem?_cons_zero,List.getElem?_cons_succ,Option.some.injEq,exists_eq_left',exists_eq_left,List.set_cons_zero,List.set_cons_succ,b4,V.int.injEq,V.bl.injEq,V.ref.injEq,V.str.injEq,List.append_nil,List.nil_append,List.cons_append] | dsimp only | skip))
inductive TK where
 | clue | only | place | count | step | sum | square | reach | turn | pair | ways
 deriving DecidableEq
def tkC:TK→List Nat
 | .clue=>[99,108,117,101]
 | .only=>[111,110,108,121]
 | .place=>[112,108,97,99,101]
 | .count=>[99,111,117,110,116]
 | .step=>[115,116,101,112]
 | .sum=>[115,117,109]
 | .square=>[115,113,117,97,114,101]
 | .reach=>[114,101,97,99,104]
 | .turn=>[116,117,114,110]
 | .pair=>[112,97,105,114]
 | .ways=>[119,97,121,115]
def lT:List Str:=[tx [99,108,117,101],tx [111,110,108,121],tx [112,108,97,99,101],tx [99,111,117,110,116],tx [115,116,101,112],tx [115,117,109],tx [115,113,117,97,114,101],tx [114,101,97,99,104],tx [116,117,114,110],tx [112,97,105,114],tx [119,97,121,115]]
def cG:List Str:=[tx [99,108,117,101],tx [111,110,108,121],tx [112,108,97,99,101],tx [115,116,101,112],tx [112,97,105,114]]
def bX:List Str:=[tx [99,111,117,110,116],tx [115,117,109],tx [119,97,121,115]]
def gd_RULES_OF_KIND:List (Str × List Str):=[(tx [111,110,108,121],[tx [117,110,108,105,107,101]]),(tx [112,108,97,99,101],[tx [117,110,108,105,107,101]]),(tx [99,111,117,110,116],[tx [99,111,117,110,116]]),(tx [115,116,101,112],[tx [114,105,115,105,110,103]]),(tx [115,117,109],[tx [115,117,109]]),(tx [115,113,117,97,114,101],[tx [110,111,115,113,117,97,114,101]]),(tx [114,101,97,99,104],[tx [106,111,105,110,101,100],tx [114,105,110,103]]),(tx [116,117,114,110],[tx [114,105,110,103]]),(tx [112,97,105,114],[tx [117,110,108,105,107,101]])]
def wsOf:TK→List Str
 | .only=>[tx [117,110,108,105,107,101]]
 | .place=>[tx [117,110,108,105,107,101]]
 | .count=>[tx [99,111,117,110,116]]
 | .step=>[tx [114,105,115,105,110,103]]
 | .sum=>[tx [115,117,109]]
 | .square=>[tx [110,111,115,113,117,97,114,101]]
 | .reach=>[tx [106,111,105,110,101,100],tx [114,105,110,103]]
 | .turn=>[tx [114,105,110,103]]
 | .pair=>[tx [117,110,108,105,107,101]]
 | _=>[]
def goesB:TK→RK→Bool
 | .ways,_=>true
 | .only,.Unlike=>true
 | .place,.Unlike=>true
 | .count,.Count=>true
 | .step,.Rising=>true
 | .sum,.Sum=>true
 | .square,.NoSquare=>true
 | .reach,.Joined=>true
 | .reach,.Ring=>true
 | .turn,.Ring=>true
 | .pair,.Unlike=>true
 | _,_=>false
def lineK:TK→Bool
 | .clue=>true
 | .only=>true
 | .place=>true
 | .step=>true
 | .pair=>true
 | _=>false
def nbrK:TK→Bool
 | .count=>true
 | .sum=>true
 | .ways=>true
 | _=>false
theorem yP (t:TK):decide (tx (tkC t)∈lT)=true:=by cases t <;> decide+kernel
theorem vv (t:TK):decide (tx (tkC t)∈cG)=lineK t:=by cases t <;> decide+kernel
theorem xY (t:TK):decide (tx (tkC t)∈bX)=nbrK t:=by cases t <;> decide+kernel
theorem A7 {t:TK} (h1:t≠.clue) (h2:t≠.ways):gd_RULES_OF_KIND.lookup (tx (tkC t))=some (wsOf t):=by
 cases t <;> first | exact absurd rfl h1 | exact absurd rfl h2 | decide+kernel
theorem zN {t:TK} (h2:t≠.ways) (k:RK):decide (tx (nmC k)∈wsOf t)=goesB t k:=by
 cases t <;> first | exact absurd rfl h2 | (cases k <;> decide+kernel)
theorem zO (t:TK):decide (tkC t=[119,97,121,115])=decide (t=.ways):=by cases t <;> decide
theorem qz (t:TK):decide (tkC t=[99,108,117,101])=decide (t=.clue):=by cases t <;> decide
theorem vw (t:TK):decide (tkC t=[111,110,108,121])=decide (t=.only):=by cases t <;> decide
def fS (K:PySem.W.Frag):Sp:=fun vs H Q _=>∃ (p:Addr) (h w g i:Int),vs=[.ref p,.int i]∧IsFl H p h w g∧FlOk h w g∧Q (.bl (decide (0≤i)&&decide (i < h*w))) H
theorem wg {K:PySem.W.Frag} {vs:List V} {H:Hp} {Q:VK} {E:XK} (h:fS K vs H Q E):vs.length=2:=by
 obtain ⟨_,_,_,_,_,rfl,_⟩:=h; rfl
def jY (K:PySem.W.Frag):TS:=
 (tRet (tAndV (tCall (aY K) [] E0 (tCons (tVar 1) tNil)) (tAndV (tOp (cCmp fun i j=>decide (i≤j)) (tC (.int 0)) (tVar 1)) (tOp (cCmp fun i j=>decide (i < j)) (tVar 1) (tCall (aP K) [] E0 (tCons (tVar 0) tNil))))))
theorem wj {K:PySem.W.Frag} {vs:List V} {H:Hp} {Q:VK} {E:XK} (h:fS K vs H Q E):jY K { nx:=fun _ H'=>Q .non H',rt:=Q } (start ["floor","value"] vs) H:=by
 obtain ⟨p,h,w,g,i,rfl,hp,F,q⟩:=h
 show jY K _ [some (.ref p),some (.int i)] H
 unfold jY
 walk_at "w"
 refine ⟨i,rfl,⟨true,rfl,iteT ?_⟩⟩
 walk_at "w"
 cases hb:decide (0≤i) with
 | false=>
  rw [hb,Bool.false_and] at q
  exact iteF q
 | true=>
  rw [hb,Bool.true_and] at q
  refine iteT ?_
  walk_at "w"
  refine ⟨p,h,w,g,rfl,hp,F.h0,F.h1,?_⟩
  walk_at "w"
  exact q
def fT (K:PySem.W.Frag):Sp:=fun vs H Q _=>∃ (p:Addr) (h w g i:Int),vs=[.ref p,.int i]∧IsFl H p h w g∧Q (.bl (decide (1≤i)&&decide (i≤g))) H
theorem wk {K:PySem.W.Frag} {vs:List V} {H:Hp} {Q:VK} {E:XK} (h:fT K vs H Q E):vs.length=2:=by
 obtain ⟨_,_,_,_,_,rfl,_⟩:=h; rfl
def jZ (K:PySem.W.Frag):TS:=
 (tRet (tCall (aS K) [] E0 (tCons (tVar 1) (tCons (tOp cIx (tVar 0) (tC (.int 2))) tNil))))
theorem wl {K:PySem.W.Frag} {vs:List V} {H:Hp} {Q:VK} {E:XK} (h:fT K vs H Q E):jZ K { nx:=fun _ H'=>Q .non H',rt:=Q } (start ["floor","value"] vs) H:=by
 obtain ⟨p,h,w,g,i,rfl,hp,q⟩:=h
 show jZ K _ [some (.ref p),some (.int i)] H
 unfold jZ
 walk_at "w"
 refine ixT hp (v:=V.int g) rfl ?_
 walk_at "w"
 exact ⟨i,g,rfl,q⟩
def fU (K:PySem.W.Frag) (c:RCl RK):Sp:=fun vs H Q _=>∃ (t:TK) (k:RK) (r p:Addr) (ws:List (List Nat)) (cs:List Int) (n m:Int),vs=[.str (tx (tkC t)),.ref r]∧t≠.clue∧IsRule H c k r p (nmC k::ws) cs n m∧Q (.bl (goesB t k)) H
theorem wm {K:PySem.W.Frag} {c:RCl RK} {vs:List V} {H:Hp} {Q:VK} {E:XK} (h:fU K c vs H Q E):vs.length=2:=by
 obtain ⟨_,_,_,_,_,_,_,_,rfl,_⟩:=h; rfl
def j2 (K:PySem.W.Frag) (c:RCl RK):TS:=
 (tRet (tOrV (tOp (cEq K) (tVar 0) (tC (.str (tx [119,97,121,115])))) (tOp (rInS K) (aL c c.ok "name" (nE K c) (tVar 1) tNil) (tIxG K gd_RULES_OF_KIND (tVar 0)))))
theorem wn {K:PySem.W.Frag} {c:RCl RK} {vs:List V} {H:Hp} {Q:VK} {E:XK} (h:fU K c vs H Q E):j2 K c { nx:=fun _ H'=>Q .non H',rt:=Q } (start ["kind","rule"] vs) H:=by
 obtain ⟨t,k,r,p,ws,cs,n,m,rfl,t0,x,q⟩:=h
 obtain ⟨dx,W,C,h1,h2,h3⟩:=x.ex
 show j2 K c _ [some (.str (tx (tkC t))),some (.ref r)] H
 unfold j2
 walk_at "w"
 rw [bT,zO]
 by_cases hw:t=.ways
 · subst hw
   rw [decide_eq_true rfl]
   exact iteT q
 · rw [decide_eq_false hw]
   refine iteF ?_
   refine methE (k:=k) rfl x.ok h1 (by rfl) ?_
   walk_at "w"
   refine ⟨r,p,nmC k,ws,cs,n,m,rfl,x,?_⟩
   dsimp only
   rw [A6]
   walk_at "w"
   refine ⟨_,_,rfl,A7 t0 hw,fun qa hq=>?_⟩
   refine ⟨_,qa,_,rfl,rfl,hq,?_⟩
   rw [zN hw]
   exact q
def br (K:PySem.W.Frag) (c:RCl RK):Sp:=fun vs H Q _=>∃ (k:RK) (r p:Addr) (ws:List (List Nat)) (cs:List Int) (n m z:Int),vs=[.ref r,.int z]∧IsRule H c k r p ws cs n m∧cs.length≤63∧∀ l H',Same H H'→H l=none→H' l=some (.lst ((cs.filter fun x=>!decide (x=z)).map V.int))→Q (.ref l) H'
theorem xZ {K:PySem.W.Frag} {c:RCl RK} {vs:List V} {H:Hp} {Q:VK} {E:XK} (h:br K c vs H Q E):vs.length=2:=by
 obtain ⟨_,_,_,_,_,_,_,_,rfl,_⟩:=h; rfl
def kQ (K:PySem.W.Frag) (c:RCl RK):TS:=
 (tRet (tComp [none,none,some 1] (iList K (aL c c.ok "spots" (cT K c) (tVar 0) tNil)) (gName 1) (tTest (tOp (cNe K) (tVar 1) (tVar 2))) (tVar 1)))
theorem x4 {K:PySem.W.Frag} {c:RCl RK} {vs:List V} {H:Hp} {Q:VK} {E:XK} (h:br K c vs H Q E):kQ K c { nx:=fun _ H'=>Q .non H',rt:=Q } (start ["rule","cell"] vs) H:=by
 obtain ⟨k,r,p,ws,cs,n,m,z,rfl,x,hn,q⟩:=h
 obtain ⟨dx,W,C,h1,h2,h3⟩:=x.ex
 show kQ K c _ [some (.ref r),some (.int z)] H
 unfold kQ
 rw [dy,cC]
 refine methE (k:=k) rfl x.ok h1 (by rfl) ?_
 walk_at "w"
 refine ⟨r,p,ws,cs,n,m,rfl,x,fun l hl=>?_⟩
 have s1:Same H (upd H l (.lst (cs.map V.int))):=(Same.refl H).laid hl
 have el:(upd H l (.lst (cs.map V.int))) l=some (.lst (cs.map V.int)):=ag
 generalize upd H l (.lst (cs.map V.int))=H1 at*
 refine ⟨l,rfl,⟨_,SqL.of el⟩,?_⟩
 refine dz (xs:=cs) (fun x=>!decide (x=z)) (fun x=>x) (by omega) (SqL.of el) ?_ ?_ ?_
 · intro y H2 R hy s2 k2
   show tTest _ [none,some (.int y),some (.int z)] H2 R
   walk_at "w"
   exact k2 _ (Same.refl _)
 · intro y H2 Q2 hy hb s2 k2
   show tVar 1 [none,some (.int y),some (.int z)] H2 Q2
   walk_at "w"
   exact k2 _ (Same.refl _)
 · intro T H2 hT s2 eT
   rw [List.map_id'] at eT
   exact q T H2 (s1.trans s2) (s1.free hT) eT
def hitB (t:TK) (rows:List RR) (r z:Int):Bool:=if r < 0 then false else if t=.clue then decide (r=0) else match rows[r.toNat]? with
 | none=>false
 | some x=>goesB t x.k&&decide (z∈x.cs)
def bY (K:PySem.W.Frag) (c:RCl RK) (d:RCl PzK):Sp:=fun vs H Q _=>∃ (t:TK) (P L G:Addr) (h w g r z:Int) (rows:List RR) (cl:List Int),vs=[.ref P,.str (tx (tkC t)),.int r,.int z]∧IsPz H c d P L G h w g rows cl∧∀ H',Same H H'→Q (.bl (hitB t rows r z)) H'
theorem pG {K:PySem.W.Frag} {c:RCl RK} {d:RCl PzK} {vs:List V} {H:Hp} {Q:VK} {E:XK} (h:bY K c d vs H Q E):vs.length=4:=by
 obtain ⟨_,_,_,_,_,_,_,_,_,_,_,rfl,_⟩:=h; rfl
def eF (K:PySem.W.Frag) (c:RCl RK) (d:RCl PzK):TS:=
 (tSeq (tIfS (tOr (tNot (tB (tCall (aY K) [] E0 (tCons (tVar 2) tNil)))) (tTest (tOp (cCmp fun i j=>decide (i < j)) (tVar 2) (tC (.int 0))))) (tRet (tC (.bl false))) tNext)
  (tSeq (tIfS (tTest (tOp (cEq K) (tVar 1) (tC (.str (tx [99,108,117,101]))))) (tRet (tOp (cEq K) (tVar 2) (tC (.int 0)))) tNext)
  (tSeq (tAsg (aL d d.ok "rules" (b7 K c d) (tVar 0) tNil) (gName 4))
  (tSeq (tIfS (tTest (tOp (cCmp fun i j=>decide (j≤i)) (tVar 2) (tCB kLen (tCons (tVar 4) tNil)))) (tRet (tC (.bl false))) tNext)
  (tRet (tAndV (tCall (fU K c) [] E0 (tCons (tVar 1) (tCons (tOp cIx (tVar 4) (tVar 2)) tNil))) (tOp (cIn K false) (tVar 3) (aL c c.ok "spots" (cT K c) (tOp cIx (tVar 4) (tVar 2)) tNil))))))))
theorem RR.ws_cons (r:RR):∃ t,r.ws=nmC r.k::t:=⟨_,rfl⟩
theorem pH {K:PySem.W.Frag} {c:RCl RK} {d:RCl PzK} {vs:List V} {H:Hp} {Q:VK} {E:XK} (h:bY K c d vs H Q E):eF K c d { nx:=fun _ H'=>Q .non H',rt:=Q } (start ["puzzle","kind","number","cell","rules"] vs) H:=by
 obtain ⟨t,P,L,G,h,w,g,r,z,rows,cl,rfl,x,q⟩:=h
 obtain ⟨dx,p,rs,h1,h2,h3⟩:=x.ex
 have hN:=x.R.F.m
 show eF K c d _ [some (.ref P),some (.str (tx (tkC t))),some (.int r),some (.int z),none] H
 unfold eF
 rw [aQ,aH]
 walk_at "w"
 refine ⟨r,rfl,⟨true,rfl,iteF ?_⟩⟩
 walk_at "w"
 unfold hitB at q
 by_cases hr:r < 0
 · rw [if_pos hr] at q
   rw [decide_eq_true hr]
   exact iteT (q _ (Same.refl _))
 rw [if_neg hr] at q
 rw [decide_eq_false hr]
 refine iteF ?_
 rw [aH]
 walk_at "w"
 rw [bT,qz]
 by_cases ht:t=.clue
 · rw [if_pos ht] at q
   rw [decide_eq_true ht]
   exact iteT (q _ (Same.refl _))
 rw [if_neg ht] at q
 rw [decide_eq_false ht]
 refine iteF ?_
 refine methE (k:=.Puzzle) rfl x.ok h1 (by rfl) ?_
 walk_at "w"
 refine ⟨P,L,G,h,w,g,rows,cl,rfl,x,fun l p2 rs2 hl hp2 X=>?_⟩
 have s1:Same H (upd H l (.lst (rs2.map V.ref))):=(Same.refl H).laid hl
 generalize upd H l (.lst (rs2.map V.ref))=H1 at*
 have hlen:=X.len
 walk_at "w"
 rw [aH]
 walk_at "w"
 rw [cO X.top,List.length_map,hlen]
 walk_at "w"
 by_cases hge:(rows.length:Int)≤r
 · rw [decide_eq_true hge]
   have e:rows[r.toNat]? =none:=List.getElem?_eq_none (by omega)
   rw [e] at q
   exact iteT (q _ s1)
 rw [decide_eq_false hge]
 have hlt:r.toNat < rows.length:=by omega
 have er:rows[r.toNat]? =some rows[r.toNat]:=List.getElem?_eq_getElem hlt
 rw [er] at q
 have ea:rs2[r.toNat]? =some rs2[r.toNat]:=List.getElem?_eq_getElem (by omega)
 have X1:=X.at_ _ _ _ ea er
 obtain ⟨ws,ews⟩:=RR.ws_cons rows[r.toNat]
 rw [ews] at X1
 have eix:atI (rs2.map V.ref) r=some (V.ref rs2[r.toNat]):=ki (by omega) ea
 refine iteF ?_
 refine ixL X.top eix ?_
 walk_at "w"
 refine ⟨t,_,_,p2,ws,_,_,_,rfl,ht,X1,?_⟩
 dsimp only at q
 cases hg:goesB t rows[r.toNat].k with
 | false=>
  rw [hg,Bool.false_and] at q
  exact ⟨false,rfl,iteF (q _ s1)⟩
 | true=>
  rw [hg,Bool.true_and] at q
  refine ⟨true,rfl,iteT ?_⟩
  unfold aL
  walk_at "w"
  obtain ⟨dx1,W1,C1,g1,g2,g3⟩:=X1.ex
  refine ixL X.top eix ?_
  refine ⟨_,rows[r.toNat].k,dx1,_,rfl,X1.ok,g1,by rfl,?_⟩
  refine ⟨_,p2,_,_,_,_,rfl,X1,fun S hS=>?_⟩
  have s2:Same H1 (upd H1 S (.lst (rows[r.toNat].cs.map V.int))):=(Same.refl H1).laid hS
  have eS:(upd H1 S (.lst (rows[r.toNat].cs.map V.int))) S=some (.lst (rows[r.toNat].cs.map V.int)):=ag
  dsimp only
  rw [qo eS]
  exact q _ (s1.trans s2)
structure IsTh (H:Hp) (T M:Addr) (t:TK) (r z s:Int) (ms:List Int):Prop where
 T:H T=some (.tup [.str (tx (tkC t)),.int r,.int z,.int s,.ref M])
 M:H M=some (.lst (ms.map V.int))
 n:ms.length≤100
theorem IsTh.same {H H':Hp} {T M:Addr} {t:TK} {r z s:Int} {ms:List Int} (x:IsTh H T M t r z s ms) (s':Same H H'):IsTh H' T M t r z s ms:=⟨s' _ _ x.T,s' _ _ x.M,x.n⟩
def formB (h w g:Int) (rows:List RR) (t:TK) (r z s:Int):Bool:=(decide (0≤z)&&decide (z < h*w))&&((decide (1≤s)&&decide (s≤g))&&hitB t rows r z)
def dh (K:PySem.W.Frag) (c:RCl RK) (d:RCl PzK):Sp:=fun vs H Q _=>∃ (t:TK) (P L G T M:Addr) (h w g r z s:Int) (rows:List RR) (cl ms:List Int),vs=[.ref P,.ref T]∧IsPz H c d P L G h w g rows cl∧IsTh H T M t r z s ms∧∀ H',Same H H'→Q (.bl (formB h w g rows t r z s)) H'
theorem tN {K:PySem.W.Frag} {c:RCl RK} {d:RCl PzK} {vs:List V} {H:Hp} {Q:VK} {E:XK} (h:dh K c d vs H Q E):vs.length=2:=by
 obtain ⟨_,_,_,_,_,_,_,_,_,_,_,_,_,_,_,rfl,_⟩:=h; rfl
def iE (K:PySem.W.Frag) (c:RCl RK) (d:RCl PzK):TS:=
 (tRet (tAndV (tCB kIsi (tCons (tOp cIx (tVar 1) (tC (.int 4))) (tCons (tC (.ty "list")) tNil))) (tCB kAll (tCons (tComp [none,none] (iList K (tOp cIx (tVar 1) (tC (.int 4)))) (gName 1) tTrue (tCall (aY K) [] E0 (tCons (tVar 1) tNil))) tNil))))
def iF (K:PySem.W.Frag) (c:RCl RK) (d:RCl PzK):TS:=
 (tSeq (tIfS (tOr (tNot (tB (tCB kIsi (tCons (tVar 1) (tCons (tC (.ty "tuple")) tNil))))) (tOr (tTest (tOp (cNe K) (tCB kLen (tCons (tVar 1) tNil)) (tC (.int 5)))) (tB (tInG lT true (tOp cIx (tVar 1) (tC (.int 0))))))) (tRet (tC (.bl false))) tNext)
  (tSeq (tAsg (aL d d.ok "place" (kq K c d) (tVar 0) tNil) (gName 2))
  (tSeq (tIfS (tOr (tNot (tB (tCall (fS K) [] E0 (tCons (tVar 2) (tCons (tOp cIx (tVar 1) (tC (.int 2))) tNil))))) (tNot (tB (tCall (fT K) [] E0 (tCons (tVar 2) (tCons (tOp cIx (tVar 1) (tC (.int 3))) tNil)))))) (tRet (tC (.bl false))) tNext)
  (tSeq (tIfS (tNot (tB (tCall (bY K c d) [] E0 (tCons (tVar 0) (tCons (tOp cIx (tVar 1) (tC (.int 0))) (tCons (tOp cIx (tVar 1) (tC (.int 1))) (tCons (tOp cIx (tVar 1) (tC (.int 2))) tNil))))))) (tRet (tC (.bl false))) tNext)
  (iE K c d)))))
theorem pI {K:PySem.W.Frag} {c:RCl RK} {d:RCl PzK} {H:Hp} {Q:VK} {P T M:Addr} {t:TK} {r z s:Int} {ms:List Int} {v2:Option V} (x:IsTh H T M t r z s ms) (q:∀ H',Same H H'→Q (.bl true) H'):
  iE K c d { nx:=fun _ H'=>Q .non H',rt:=Q } [some (.ref P),some (.ref T),v2] H:=by
 have hn:=x.n
 unfold iE
 walk_at "w"
 refine ixT x.T (v:=V.ref M) rfl ?_
 walk_at "w"
 refine xH x.M ?_
 walk_at "w"
 refine ixT x.T (v:=V.ref M) rfl ?_
 walk_at "w"
 refine ⟨⟨_,SqL.of x.M⟩,?_⟩
 refine b9 (xs:=ms.map V.int) (fun _=>true) (fun _=>.bl true) (by rw [List.length_map]; omega) (SqL.of x.M) ?_ ?_ ?_
 · intro i y H1 R hy s1 k1
   exact k1 _ (Same.refl _)
 · intro i y H1 Q1 hy hb s1 k1
   obtain ⟨v,hv,rfl⟩:=bz hy
   show tCall _ _ _ _ [none,some (.int v)] H1 Q1
   walk_at "w"
   exact ⟨v,rfl,k1 _ (Same.refl _)⟩
 · intro l H1 hl s1 el
   have eb:((List.range (ms.map V.int).length).filter fun _=>true).map (fun _=>V.bl true)=(List.replicate (ms.map V.int).length true).map V.bl:=by
    rw [bf,List.map_const',List.length_range,List.map_replicate]
   rw [eb] at el
   refine kG el ?_
   have ea:(List.replicate (ms.map V.int).length true).all id=true:=by
    rw [List.all_eq_true]
    intro b hb
    exact (List.mem_replicate.mp hb).2
   rw [ea]
   exact q _ s1
theorem tO {K:PySem.W.Frag} {c:RCl RK} {d:RCl PzK} {vs:List V} {H:Hp} {Q:VK} {E:XK} (h:dh K c d vs H Q E):iF K c d { nx:=fun _ H'=>Q .non H',rt:=Q } (start ["puzzle","thought","floor"] vs) H:=by
 obtain ⟨t,P,L,G,T,M,h,w,g,r,z,s,rows,cl,ms,rfl,x,y,q⟩:=h
 obtain ⟨dx,p,rs,h1,h2,h3⟩:=x.ex
 show iF K c d _ [some (.ref P),some (.ref T),none] H
 unfold iF
 rw [aQ,aH]
 walk_at "w"
 refine xI y.T ?_
 walk_at "w"
 rw [xu y.T,show (([.str (tx (tkC t)),.int r,.int z,.int s,.ref M]:List V).length:Int)=5 from rfl]
 walk_at "w"
 refine ixT y.T (v:=V.str (tx (tkC t))) rfl ?_
 walk_at "w"
 rw [yP]
 walk_at "w"
 refine methE (k:=.Puzzle) rfl x.ok h1 (by rfl) ?_
 walk_at "w"
 refine ⟨P,L,G,h,w,g,rows,cl,rfl,x,fun p1 hp1=>?_⟩
 walk_at "w"
 rw [aH]
 walk_at "w"
 refine ixT y.T (v:=V.int z) rfl ?_
 walk_at "w"
 refine ⟨p1,h,w,g,z,rfl,hp1,x.R.F,?_⟩
 unfold formB at q
 cases hb:(decide (0≤z)&&decide (z < h*w)) with
 | false=>
  rw [hb,Bool.false_and] at q
  exact ⟨false,rfl,iteT (q _ (Same.refl _))⟩
 | true=>
  rw [hb,Bool.true_and] at q
  refine ⟨true,rfl,iteF ?_⟩
  refine ixT y.T (v:=V.int s) rfl ?_
  walk_at "w"
  refine ⟨p1,h,w,g,s,rfl,hp1,?_⟩
  cases hb2:(decide (1≤s)&&decide (s≤g)) with
  | false=>
   rw [hb2,Bool.false_and] at q
   exact ⟨false,rfl,iteT (q _ (Same.refl _))⟩
  | true=>
   rw [hb2,Bool.true_and] at q
   refine ⟨true,rfl,iteF ?_⟩
   rw [aH]
   walk_at "w"
   refine ixT y.T (v:=V.str (tx (tkC t))) rfl ?_
   walk_at "w"
   refine ixT y.T (v:=V.int r) rfl ?_
   walk_at "w"
   refine ixT y.T (v:=V.int z) rfl ?_
   walk_at "w"
   refine ⟨t,P,L,G,h,w,g,r,z,rows,cl,rfl,x,fun H1 s1=>?_⟩
   cases hb3:hitB t rows r z with
   | false=>
    rw [hb3] at q
    exact ⟨false,rfl,iteT (q _ s1)⟩
   | true=>
    rw [hb3] at q
    refine ⟨true,rfl,iteF ?_⟩
    exact pI (y.same s1) fun H' s2=>q H' (s1.trans s2)
abbrev nsV (cs:List Nat):List V:=(cs.map fun (n:Nat)=>(n:Int)).map V.int
theorem yQ (xs:List V) {k:Int} (h:0≤k):cutV xs none (some k)=xs.take k.toNat:=by
 unfold cutV
 have e:k=((k.toNat:Nat):Int):=by omega
 have h1:HT.sIx xs.length 0 none=0:=rfl
 have h2:HT.sIx xs.length xs.length (some k)=min k.toNat xs.length:=by
  conv=>lhs; rw [e]
  exact HT.sIx_nat ..
 rw [h1,h2]
 show (xs.drop 0).take _=_
 rw [List.drop_zero]
 by_cases hk:k.toNat≤xs.length
 · rw [Nat.min_eq_left hk]; rfl
 · rw [Nat.min_eq_right (by omega),List.take_of_length_le (by omega),List.take_of_length_le (by omega)]
theorem zP (cs:List Nat) (k:Nat):(nsV cs).take k=nsV (cs.take k):=by
 unfold nsV
 rw [List.map_take,List.map_take]
def i8:TE:=fun _ _ _=>False
theorem gY {X:Cx} {e:Expr}:PE X e i8:=fun _ _ _ _ _ _ h=>h.elim
theorem RR.cin22 {r:RR} {h w g:Int} (O:r.Ok h w g) (F:FlOk h w g):bj r.cs (h*w).toNat:=by
 obtain ⟨h0,h1,w0,w1,m16,g0,g1⟩:=id F
 have mpos:0≤h*w:=Int.mul_nonneg (by omega) (by omega)
 cases hk:allK r.k with
 | false=>
  obtain ⟨c1,c2,c3,c4,e⟩:=O.cl.told hk
  rw [e]
  refine ⟨by rw [List.length_map]; omega,fun c hc=>?_⟩
  obtain ⟨n,hn,rfl⟩:=List.mem_map.mp hc
  have:=c3 n hn
  omega
 | true=>
  obtain ⟨_,e⟩:=O.cl.all hk
  rw [e]
  refine ⟨by rw [lL]; omega,fun c hc=>?_⟩
  have:=vq hc
  omega
structure Asks (H:Hp) (c:RCl RK) (d:RCl PzK) (P L G A T M:Addr) (h w g:Int) (rows:List RR) (cl masks:List Int) (t:TK) (r z s:Int) (ms:List Int):Prop where
 P:IsPz H c d P L G h w g rows cl
 T:IsTh H T M t r z s ms
 A:H A=some (.lst (masks.map V.int))
 n:masks.length=(h*w).toNat
theorem Asks.same {H H':Hp} {c:RCl RK} {d:RCl PzK} {P L G A T M:Addr} {h w g:Int} {rows:List RR} {cl masks:List Int} {t:TK} {r z s:Int} {ms:List Int} (x:Asks H c d P L G A T M h w g rows cl masks t r z s ms) (s':Same H H'):Asks H' c d P L G A T M h w g rows cl masks t r z s ms:=⟨x.P.same s',x.T.same s',s' _ _ x.A,x.n⟩
theorem mV {h w g:Int} {rows:List RR} {t:TK} {r z s:Int} (f:formB h w g rows t r z s=true):0≤z∧z < h*w∧1≤s∧s≤g∧hitB t rows r z=true:=by
 unfold formB at f
 simp only [Bool.and_eq_true,decide_eq_true_eq] at f
 exact ⟨f.1.1,f.1.2,f.2.1.1,f.2.1.2,f.2.2⟩
theorem qA {t:TK} {rows:List RR} {r z:Int} (ht:t≠.clue) (f:hitB t rows r z=true):0≤r∧∃ x,rows[r.toNat]? =some x∧goesB t x.k=true∧z∈x.cs:=by
 unfold hitB at f
 by_cases hr:r < 0
 · rw [if_pos hr] at f; cases f
 rw [if_neg hr,if_neg ht] at f
 cases e:rows[r.toNat]? with
 | none=>rw [e] at f; cases f
 | some x=>
  rw [e] at f
  simp only [Bool.and_eq_true,decide_eq_true_eq] at f
  exact ⟨by omega,x,rfl,f.1,f.2⟩
def bB (K:PySem.W.Frag):Sp:=fun vs H Q _=>∃ (A C:Addr) (masks cs:List Int),vs=[.ref A,.ref C]∧H A=some (.lst (masks.map V.int))∧H C=some (.lst (cs.map V.int))∧bj cs masks.length∧∀ l H',Same H H'→H l=none→H' l=some (.lst ((sgAt masks cs).map V.int))→Q (.ref l) H'
theorem uO {K:PySem.W.Frag} {vs:List V} {H:Hp} {Q:VK} {E:XK} (h:bB K vs H Q E):vs.length=2:=by
 obtain ⟨_,_,_,_,rfl,_⟩:=h; rfl
def ju (K:PySem.W.Frag):TS:=
 (tRet (tComp [none,none,some 0] (iList K (tVar 1)) (gName 1) tTrue (tOp cIx (tVar 2) (tVar 1))))
theorem uP {K:PySem.W.Frag} {vs:List V} {H:Hp} {Q:VK} {E:XK} (h:bB K vs H Q E):ju K { nx:=fun _ H'=>Q .non H',rt:=Q } (start ["masks","cells"] vs) H:=by
 obtain ⟨A,C,masks,cs,rfl,hA,hC,⟨hn,hc⟩,q⟩:=h
 show ju K _ [some (.ref A),some (.ref C)] H
 unfold ju
 walk_at "w"
 refine ⟨⟨_,SqL.of hC⟩,?_⟩
 refine dz (xs:=cs) (fun _=>true) (fun c=>masks.getD c.toNat 0) (by omega) (SqL.of hC) ?_ ?_ ?_
 · intro x H1 R hx s1 k1
   exact k1 _ (Same.refl _)
 · intro z H1 Q1 hz hb s1 k1
   show tOp cIx _ _ [none,some (.int z),some (.ref A)] H1 Q1
   walk_at "w"
   have:=hc z hz
   exact ixI (s1 _ _ hA) this.1 (by omega) (k1 _ (Same.refl _))
 · intro l H1 hl s1 el
   rw [bf] at el
   exact q l H1 s1 hl el
def dX (K:PySem.W.Frag):Sp:=fun vs H Q _=>∃ (C:Addr) (ms:List Int) (s:Int),vs=[.ref C,.int s]∧H C=some (.lst (ms.map V.int))∧ms.length≤63∧∀ H',Same H H'→Q (.int ((ms.filter fun m=>stB m s).length:Nat)) H'
theorem uQ {K:PySem.W.Frag} {vs:List V} {H:Hp} {Q:VK} {E:XK} (h:dX K vs H Q E):vs.length=2:=by
 obtain ⟨_,_,_,rfl,_⟩:=h; rfl
def jv (K:PySem.W.Frag):TS:=
 (tRet (tCB kLen (tCons (tComp [none,none,some 1] (iList K (tVar 0)) (gName 1) (tB (tCall (ce K) [] E0 (tCons (tVar 1) (tCons (tVar 2) tNil)))) (tVar 1)) tNil)))
theorem uR {K:PySem.W.Frag} {vs:List V} {H:Hp} {Q:VK} {E:XK} (h:dX K vs H Q E):jv K { nx:=fun _ H'=>Q .non H',rt:=Q } (start ["some","sign"] vs) H:=by
 obtain ⟨C,ms,s,rfl,hC,hn,q⟩:=h
 show jv K _ [some (.ref C),some (.int s)] H
 unfold jv
 walk_at "w"
 refine ⟨⟨_,SqL.of hC⟩,?_⟩
 refine dz (xs:=ms) (fun m=>stB m s) (fun m=>m) (by omega) (SqL.of hC) ?_ ?_ ?_
 · intro x H1 R hx s1 k1
   show tB _ [none,some (.int x),some (.int s)] H1 R
   walk_at "w"
   exact ⟨x,s,rfl,_,rfl,k1 _ (Same.refl _)⟩
 · intro z H1 Q1 hz hb s1 k1
   show tVar 1 [none,some (.int z),some (.int s)] H1 Q1
   walk_at "w"
   exact k1 _ (Same.refl _)
 · intro l H1 hl s1 el
   rw [List.map_id'] at el
   rw [cO el,List.length_map]
   exact q _ s1
end L2
namespace L2
open PySem PySem.Spec PyProof.Rows
end L2
namespace L2
open PySem PySem.Spec PyProof.Rows
local macro_rules | `(tactic| walk_at "w")=>`(tactic| (first | simp only [aQ,kn,lQ,gI,ko,i6,i7,lR,lN,kl,lO,if_true,if_false,Bool.false_eq_true,decide_true,decide_false,gR,gS,kK,fu,dr,gP,jE,gQ,ft,jC,jD,fq,kF,fv,fw,fA,fB,fC,fD,fz,jG,jH,jI,jA,kJ,Bool.not_true,Bool.not_false,dN,dw,bi,gl,w_c,g8,dy,e7,dO,e8,w_b,w_not,g9,ke,e9,fb,hE,gm,cN,jK,dP,hJ,gn,jL,hV,dQ,fc,fe,ff,c9,da,cC,cr,cu,bS,hX,h9,ia,ib,ic,ie,ig,ii,ij,ik,il,im,kg,fg,cw,fh,kh,fi,db,cx,io,ip,fj,fk,fo,
 List.getElem?_cons_zero,List.getElem?_cons_succ,Option.some.injEq,exists_eq_left',exists_eq_left,List.set_cons_zero,List.set_cons_succ,b4,V.int.injEq,V.bl.injEq,V.ref.injEq,V.str.injEq,List.append_nil,List.nil_append,List.cons_append] | dsimp only | skip))
def di (K:PySem.W.Frag):Sp:=fun vs H Q _=>∃ (C:Addr) (ms:List Int) (s:Int),vs=[.ref C,.int s]∧H C=some (.lst (ms.map V.int))∧ms.length≤63∧s≤100000∧∀ H',Same H H'→Q (.int ((ms.filter fun m=>decide (woI m s=0)).length:Nat)) H'
theorem tP {K:PySem.W.Frag} {vs:List V} {H:Hp} {Q:VK} {E:XK} (h:di K vs H Q E):vs.length=2:=by
 obtain ⟨_,_,_,rfl,_⟩:=h; rfl
def iG (K:PySem.W.Frag):TS:=
 (tRet (tCB kLen (tCons (tComp [none,none,some 1] (iList K (tVar 0)) (gName 1) (tB (tCall (dW K) [] E0 (tCons (tVar 1) (tCons (tVar 2) tNil)))) (tVar 1)) tNil)))
theorem tQ {K:PySem.W.Frag} {vs:List V} {H:Hp} {Q:VK} {E:XK} (h:di K vs H Q E):iG K { nx:=fun _ H'=>Q .non H',rt:=Q } (start ["some","sign"] vs) H:=by
 obtain ⟨C,ms,s,rfl,hC,hn,hs,q⟩:=h
 show iG K _ [some (.ref C),some (.int s)] H
 unfold iG
 walk_at "w"
 refine ⟨⟨_,SqL.of hC⟩,?_⟩
 refine dz (xs:=ms) (fun m=>decide (woI m s=0)) (fun m=>m) (by omega) (SqL.of hC) ?_ ?_ ?_
 · intro x H1 R hx s1 k1
   show tB _ [none,some (.int x),some (.int s)] H1 R
   walk_at "w"
   exact ⟨x,s,rfl,hs,_,rfl,k1 _ (Same.refl _)⟩
 · intro z H1 Q1 hz hb s1 k1
   show tVar 1 [none,some (.int z),some (.int s)] H1 Q1
   walk_at "w"
   exact k1 _ (Same.refl _)
 · intro l H1 hl s1 el
   rw [List.map_id'] at el
   rw [cO el,List.length_map]
   exact q _ s1
def othL (cs:List Int) (z:Int):List Int:=cs.filter fun x=>!decide (x=z)
def cntB (cs:List Int) (n m:Int) (masks:List Int) (z s:Int) (ms:List Int):Bool:=
 decide (ms=[])&&(if s=m then decide (n≤(((sgAt masks (othL cs z)).filter fun k=>decide (woI k s=0)).length:Int)) else decide ((((sgAt masks (othL cs z)).filter fun k=>stB k m).length:Int) < n))
def bK (K:PySem.W.Frag) (c:RCl RK):Sp:=fun vs H Q _=>∃ (k:RK) (r p A M:Addr) (ws:List (List Nat)) (cs masks ms:List Int) (n m z s:Int),vs=[.ref r,.ref A,.int z,.int s,.ref M]∧IsRule H c k r p ws cs n m∧bj cs masks.length∧H A=some (.lst (masks.map V.int))∧H M=some (.lst (ms.map V.int))∧s≤1000∧∀ H',Same H H'→Q (.bl (cntB cs n m masks z s ms)) H'
theorem oB {K:PySem.W.Frag} {c:RCl RK} {vs:List V} {H:Hp} {Q:VK} {E:XK} (h:bK K c vs H Q E):vs.length=5:=by
 obtain ⟨_,_,_,_,_,_,_,_,_,_,_,_,_,rfl,_⟩:=h; rfl
def dY (K:PySem.W.Frag) (c:RCl RK):TS:=
 (tSeq (tAsg (tCall (bB K) [] E0 (tCons (tVar 1) (tCons (tCall (br K c) [] E0 (tCons (tVar 0) (tCons (tVar 2) tNil))) tNil))) (gName 5))
  (tSeq (tIfS (tTest (tOp (cEq K) (tVar 3) (aL c c.ok "sign" (lC K c) (tVar 0) tNil))) (tRet (tOp (cCmp fun i j=>decide (j≤i)) (tCall (di K) [] E0 (tCons (tVar 5) (tCons (tVar 3) tNil))) (aL c c.ok "number" (dt K c) (tVar 0) tNil))) tNext)
  (tRet (tOp (cCmp fun i j=>decide (i < j)) (tCall (dX K) [] E0 (tCons (tVar 5) (tCons (aL c c.ok "sign" (lC K c) (tVar 0) tNil) tNil))) (aL c c.ok "number" (dt K c) (tVar 0) tNil)))))
def dH (K:PySem.W.Frag) (c:RCl RK):TS:=
 (tSeq (tIfS (tTest (tOp (cNe K) (tVar 4) (tLst tNil))) (tRet (tC (.bl false))) tNext)
  (dY K c))
theorem mw {K:PySem.W.Frag} {c:RCl RK} {H:Hp} {Q:VK} {k:RK} {r p A M:Addr} {ws:List (List Nat)} {cs masks:List Int} {n m z s:Int} (x:IsRule H c k r p ws cs n m) (hC:bj cs masks.length) (hA:H A=some (.lst (masks.map V.int))) (hs0:s≤1000)
  (q:∀ H',Same H H'→Q (.bl (if s=m then decide (n≤(((sgAt masks (othL cs z)).filter fun k=>decide (woI k s=0)).length:Int)) else decide ((((sgAt masks (othL cs z)).filter fun k=>stB k m).length:Int) < n))) H'):
  dY K c { nx:=fun _ H'=>Q .non H',rt:=Q } [some (.ref r),some (.ref A),some (.int z),some (.int s),some (.ref M),none] H:=by
 have hC2:bj (othL cs z) masks.length:=⟨Nat.le_trans (List.length_filter_le _ _) hC.1,fun y hy=>hC.2 y (List.mem_filter.mp hy).1⟩
 have hlen:(sgAt masks (othL cs z)).length≤63:=by unfold sgAt; rw [List.length_map]; exact hC2.1
 unfold dY
 walk_at "w"
 refine ⟨k,r,p,ws,cs,n,m,z,rfl,x,hC.1,fun O H1 s1 hO eO=>?_⟩
 walk_at "w"
 refine ⟨A,O,masks,othL cs z,rfl,s1 _ _ hA,eO,hC2,fun B H2 s2 hB eB=>?_⟩
 have s12:=s1.trans s2
 have x2:=x.same s12
 obtain ⟨dx,W,C,h1,h2,h3⟩:=x2.ex
 walk_at "w"
 rw [aH]
 walk_at "w"
 refine methE (k:=k) rfl x2.ok h1 (by rfl) ?_
 walk_at "w"
 refine ⟨r,p,ws,cs,n,m,rfl,x2,?_⟩
 walk_at "w"
 by_cases hs:s=m
 · rw [if_pos hs] at q
   rw [decide_eq_true hs]
   walk_at "w"
   refine ⟨B,_,_,rfl,eB,hlen,by omega,fun H3 s3=>?_⟩
   have x3:=x2.same s3
   obtain ⟨dx3,W3,C3,g1,g2,g3⟩:=x3.ex
   refine methE (k:=k) rfl x3.ok g1 (by rfl) ?_
   walk_at "w"
   refine ⟨r,p,ws,cs,n,m,rfl,x3,?_⟩
   walk_at "w"
   exact q _ (s12.trans s3)
 · rw [if_neg hs] at q
   rw [decide_eq_false hs]
   walk_at "w"
   refine methE (k:=k) rfl x2.ok h1 (by rfl) ?_
   walk_at "w"
   refine ⟨r,p,ws,cs,n,m,rfl,x2,?_⟩
   walk_at "w"
   refine ⟨B,_,_,rfl,eB,hlen,fun H3 s3=>?_⟩
   have x3:=x2.same s3
   obtain ⟨dx3,W3,C3,g1,g2,g3⟩:=x3.ex
   refine methE (k:=k) rfl x3.ok g1 (by rfl) ?_
   walk_at "w"
   refine ⟨r,p,ws,cs,n,m,rfl,x3,?_⟩
   walk_at "w"
   exact q _ (s12.trans s3)
theorem oC {K:PySem.W.Frag} {c:RCl RK} {vs:List V} {H:Hp} {Q:VK} {E:XK} (h:bK K c vs H Q E):dH K c { nx:=fun _ H'=>Q .non H',rt:=Q } (start ["rule","masks","cell","sign","more","some"] vs) H:=by
 obtain ⟨k,r,p,A,M,ws,cs,masks,ms,n,m,z,s,rfl,x,hC,hA,hM,hs,q⟩:=h
 show dH K c _ [some (.ref r),some (.ref A),some (.int z),some (.int s),some (.ref M),none] H
 unfold dH
 rw [aQ,aH]
 walk_at "w"
 refine ⟨aK (by decide),fun Z hZ=>?_⟩
 have s1:Same H (upd H Z (.lst [])):=(Same.refl H).laid hZ
 have eZ:(upd H Z (.lst [])) Z=some (.lst (([]:List Int).map V.int)):=ag
 generalize upd H Z (.lst [])=H1 at*
 refine su (s1 _ _ hM) eZ ?_
 unfold cntB at q
 cases hb:decide (ms=[]) with
 | false=>
  rw [hb,Bool.false_and] at q
  refine ⟨true,rfl,?_⟩
  walk_at "w"
  exact q _ s1
 | true=>
  rw [hb,Bool.true_and] at q
  refine ⟨false,rfl,?_⟩
  walk_at "w"
  exact mw (x.same s1) hC (s1 _ _ hA) hs fun H' s2=>q H' (s1.trans s2)
theorem yR (t:TK):decide (tkC t=[99,111,117,110,116])=decide (t=.count):=by cases t <;> decide
theorem tR {K:PySem.W.Frag} {H:Hp} {Q:VK} {q:Addr} {xs:List Int} {x:Int} (hq:H q=some (.lst (xs.map V.int))) (hm:x∈xs) (hn:xs.length≤900) (h:Q (.int (xs.findIdx (· ==x):Nat)) H):mN K (.ref q) [.int x] H Q:=by
 have hlt:xs.findIdx (· ==x) < xs.length:=List.findIdx_lt_length_of_exists ⟨x,hm,by simp⟩
 have ev:∀ a b:Int,PyData.eqv (.int a) (.int b)=decide (a=b):=fun a b=>by
  rw [PyData.eqv]
  by_cases h:a=b
  · subst h; simp
  · simp [h]
 refine ⟨xs.map PyData.int,.int x,xs.findIdx (· ==x),.lst (SqL.of hq) (.ints xs),.int x,oa xs,rfl,?_,by omega,⟨PyData.int xs[xs.findIdx (· ==x)],?_,?_⟩,fun m e hm2 he=>?_,h⟩
 · rw [lI]; omega
 · rw [List.getElem?_map,List.getElem?_eq_getElem hlt]; rfl
 · have:=List.findIdx_getElem (w:=hlt)
   rw [ev,decide_eq_true_eq]
   simpa using this
 · have hml:m < xs.length:=by omega
   rw [List.getElem?_map,List.getElem?_eq_getElem hml] at he
   cases he
   have:=List.not_of_lt_findIdx hm2
   rw [ev,decide_eq_false_iff_not]
   simpa using this
def lU (xs:List Int) (x:Int):Nat:=xs.findIdx (· ==x)
theorem AJ:((List.range 64).all fun m=>decide (Builtin.Int.intBits (m:Int)≤6)&&decide (sgL (m:Int)=(([0,1,2,3,4,5]:List Nat).filter fun (i:Nat)=>stB (m:Int) (1+(i:Int))).map fun (i:Nat)=>1+(i:Int)))=true:=by decide+kernel
theorem fF {m:Int} (m0:0≤m) (m1:m < 64):Builtin.Int.intBits m≤6∧sgL m=(([0,1,2,3,4,5]:List Nat).filter fun (i:Nat)=>stB m (1+(i:Int))).map fun (i:Nat)=>1+(i:Int):=by
 have t:=List.all_eq_true.mp AJ m.toNat (List.mem_range.mpr (by omega))
 have e1:((m.toNat:Nat):Int)=m:=by omega
 rw [e1,Bool.and_eq_true,decide_eq_true_eq,decide_eq_true_eq] at t
 exact t
theorem wp {masks:List Int} {i:Int} (mm:∀ m∈masks,0≤m∧m < 64) (i0:0≤i) (i1:i < masks.length):0≤masks.getD i.toNat 0∧masks.getD i.toNat 0 < 64:=by
 have hlt:i.toNat < masks.length:=by omega
 rw [List.getD,List.getElem?_eq_getElem hlt]
 exact mm _ (List.getElem_mem hlt)
theorem pJ (t:TK):decide (tkC t=[112,108,97,99,101])=decide (t=.place):=by cases t <;> decide
theorem zQ (t:TK):decide (tkC t=[115,116,101,112])=decide (t=.step):=by cases t <;> decide
theorem vx (xs:List V) {a b:Nat} (hab:a≤b):cutV xs (some (a:Int)) (some (b:Int))=(xs.drop a).take (b - a):=by
 have h1:HT.sIx xs.length 0 (some (a:Int))=min a xs.length:=by rw [HT.sIx_nat]
 have h2:HT.sIx xs.length xs.length (some (b:Int))=min b xs.length:=by rw [HT.sIx_nat]
 unfold cutV
 rw [h1,h2]
 by_cases ha:a≤xs.length
 · rw [Nat.min_eq_left ha]
   by_cases hb:b≤xs.length
   · rw [Nat.min_eq_left hb]
   · rw [Nat.min_eq_right (by omega),List.take_of_length_le (by simp),List.take_of_length_le (by simp; omega)]
 · rw [Nat.min_eq_right (by omega),Nat.min_eq_right (by omega),List.drop_length,List.drop_eq_nil_of_le (by omega)]
   simp
theorem jw {K:PySem.W.Frag} {k:Nat} {a:Addr} {te:TE} {fin:Addr→Hp→Prop} {σ0:St} {H1:Hp} {xs:List Int} (f:Int→Bool) (hn:xs.length≤900) (hq:SqL K H1 a (xs.map V.int))
  (he:∀ x H Q,x∈xs→Same H1 H→(∀ H',Same H H'→Q (.bl (f x)) H')→te (σ0.set k (some (.int x))) H Q)
  (hd:∀ l H,H1 l=none→Same H1 H→H l=some (.lst ((xs.map f).map V.bl))→fin l H):
  CompR (Itl K a) (gName k) tTrue te fin σ0 H1:=by
 refine b9 (xs:=xs.map V.int) (fun _=>true) (fun i=>.bl (f (xs.getD i 0))) (by rw [List.length_map]; exact hn) hq ?_ ?_ ?_
 · intro i x H R hx s1 k1
   exact k1 _ (Same.refl _)
 · intro i x H Q hx hb s1 h
   obtain ⟨z,hz,rfl⟩:=bz hx
   have h2:=h
   simp only [i5 hz] at h2
   exact he z H Q (List.mem_of_getElem? hz) s1 h2
 · intro l H hl s1 el
   refine hd l H hl s1 ?_
   rw [el,bf,List.length_map,List.map_map]
   congr 2
   exact mr xs fun x=>V.bl (f x)
def ahdL (cs:List Int) (z:Int):List Int:=if 0 < lU cs z then [cs.getD (lU cs z - 1) 0] else []
def behL (cs:List Int) (z:Int):List Int:=if lU cs z+1 < cs.length then [cs.getD (lU cs z+1) 0] else []
theorem zf {cs:List Int} {z:Int} (h:z∈cs):lU cs z < cs.length:=List.findIdx_lt_length_of_exists ⟨z,h,by simp⟩
theorem vy {cs:List Int} {z o:Int} (h:z∈cs) (ho:o∈ahdL cs z):o∈cs:=by
 have:=zf h
 unfold ahdL at ho
 split at ho
 · rw [List.mem_singleton.mp ho,List.getD,List.getElem?_eq_getElem (by omega)]
   exact List.getElem_mem _
 · cases ho
theorem vz {cs:List Int} {z o:Int} (ho:o∈behL cs z):o∈cs:=by
 unfold behL at ho
 split at ho
 · rename_i h
   rw [List.mem_singleton.mp ho,List.getD,List.getElem?_eq_getElem h]
   exact List.getElem_mem _
 · cases ho
theorem tS (cs:List Int) (k:Nat):(cs.drop k).take 1=if k < cs.length then [cs.getD k 0] else []:=by
 by_cases h:k < cs.length
 · rw [if_pos h,List.drop_eq_getElem_cons h,List.getD,List.getElem?_eq_getElem h]
   rfl
 · rw [if_neg h,List.drop_eq_nil_of_le (by omega)]
   rfl
def cf (K:PySem.W.Frag) (c:RCl RK):Sp:=fun vs H Q _=>∃ (k:RK) (r p:Addr) (ws:List (List Nat)) (cs:List Int) (n m z:Int),vs=[.ref r,.int z]∧IsRule H c k r p ws cs n m∧cs.length≤63∧z∈cs∧∀ l H',Same H H'→H l=none→H' l=some (.lst ((ahdL cs z).map V.int))→Q (.ref l) H'
theorem uS {K:PySem.W.Frag} {c:RCl RK} {vs:List V} {H:Hp} {Q:VK} {E:XK} (h:cf K c vs H Q E):vs.length=2:=by
 obtain ⟨_,_,_,_,_,_,_,_,rfl,_⟩:=h; rfl
def jx (K:PySem.W.Frag) (c:RCl RK):TS:=
 (tSeq (tAsg (aL c c.ok "spots" (cT K c) (tVar 0) tNil) (gName 2))
  (tSeq (tAsg (tBM K "list" (mN K) (tVar 2) (tCons (tVar 1) tNil)) (gName 3))
  (tRet (tIf (tTest (tOp (cCmp fun i j=>decide (j < i)) (tVar 3) (tC (.int 0)))) (tSl kT (tVar 2) (tPart (tOp cSub (tVar 3) (tC (.int 1)))) (tPart (tVar 3))) (tLst tNil)))))
theorem uT {K:PySem.W.Frag} {c:RCl RK} {vs:List V} {H:Hp} {Q:VK} {E:XK} (h:cf K c vs H Q E):jx K c { nx:=fun _ H'=>Q .non H',rt:=Q } (start ["rule","cell","spots","place"] vs) H:=by
 obtain ⟨k,r,p,ws,cs,n,m,z,rfl,x,hn,hz,q⟩:=h
 obtain ⟨dx,W,C,h1,h2,h3⟩:=x.ex
 have hlt:=zf hz
 show jx K c _ [some (.ref r),some (.int z),none,none] H
 unfold jx
 rw [aQ,dw]
 refine methE (k:=k) rfl x.ok h1 (by rfl) ?_
 walk_at "w"
 refine ⟨r,p,ws,cs,n,m,rfl,x,fun S hS=>?_⟩
 have s1:Same H (upd H S (.lst (cs.map V.int))):=(Same.refl H).laid hS
 have eS:(upd H S (.lst (cs.map V.int))) S=some (.lst (cs.map V.int)):=ag
 generalize upd H S (.lst (cs.map V.int))=H1 at*
 walk_at "w"
 refine ⟨dv eS,?_⟩
 refine tR eS hz (by omega) ?_
 have ei:(cs.findIdx (· ==z))=lU cs z:=rfl
 rw [ei]
 unfold ahdL at q
 generalize lU cs z=j at*
 walk_at "w"
 by_cases hj:0 < j
 · rw [if_pos hj] at q
   rw [decide_eq_true (show (0:Int) < (j:Int) by omega)]
   refine iteT ?_
   refine sw eS fun l hl=>?_
   have ej:(j:Int) - 1=((j - 1:Nat):Int):=by omega
   rw [ej,vx _ (by omega),show j - (j - 1)=1 by omega,← List.map_drop,← List.map_take,tS,if_pos (by omega)]
   exact q l _ (s1.laid hl) (s1.free hl) ag
 · rw [if_neg hj] at q
   rw [decide_eq_false (show ¬ (0:Int) < (j:Int) by omega)]
   refine iteF ?_
   refine ⟨aK (by decide),fun l hl=>?_⟩
   exact q l _ (s1.laid hl) (s1.free hl) ag
def du (K:PySem.W.Frag) (c:RCl RK):Sp:=fun vs H Q _=>∃ (k:RK) (r p:Addr) (ws:List (List Nat)) (cs:List Int) (n m z:Int),vs=[.ref r,.int z]∧IsRule H c k r p ws cs n m∧cs.length≤63∧z∈cs∧∀ l H',Same H H'→H l=none→H' l=some (.lst ((behL cs z).map V.int))→Q (.ref l) H'
theorem x6 {K:PySem.W.Frag} {c:RCl RK} {vs:List V} {H:Hp} {Q:VK} {E:XK} (h:du K c vs H Q E):vs.length=2:=by
 obtain ⟨_,_,_,_,_,_,_,_,rfl,_⟩:=h; rfl
def kR (K:PySem.W.Frag) (c:RCl RK):TS:=
 (tSeq (tAsg (aL c c.ok "spots" (cT K c) (tVar 0) tNil) (gName 2))
  (tSeq (tAsg (tBM K "list" (mN K) (tVar 2) (tCons (tVar 1) tNil)) (gName 3))
  (tRet (tSl kT (tVar 2) (tPart (tOp cAdd (tVar 3) (tC (.int 1)))) (tPart (tOp cAdd (tVar 3) (tC (.int 2))))))))
theorem x8 {K:PySem.W.Frag} {c:RCl RK} {vs:List V} {H:Hp} {Q:VK} {E:XK} (h:du K c vs H Q E):kR K c { nx:=fun _ H'=>Q .non H',rt:=Q } (start ["rule","cell","spots","place"] vs) H:=by
 obtain ⟨k,r,p,ws,cs,n,m,z,rfl,x,hn,hz,q⟩:=h
 obtain ⟨dx,W,C,h1,h2,h3⟩:=x.ex
 show kR K c _ [some (.ref r),some (.int z),none,none] H
 unfold kR
 rw [aQ,dw]
 refine methE (k:=k) rfl x.ok h1 (by rfl) ?_
 walk_at "w"
 refine ⟨r,p,ws,cs,n,m,rfl,x,fun S hS=>?_⟩
 have s1:Same H (upd H S (.lst (cs.map V.int))):=(Same.refl H).laid hS
 have eS:(upd H S (.lst (cs.map V.int))) S=some (.lst (cs.map V.int)):=ag
 generalize upd H S (.lst (cs.map V.int))=H1 at*
 walk_at "w"
 refine ⟨dv eS,?_⟩
 refine tR eS hz (by omega) ?_
 have ei:(cs.findIdx (· ==z))=lU cs z:=rfl
 rw [ei]
 unfold behL at q
 generalize lU cs z=j at*
 walk_at "w"
 refine sw eS fun l hl=>?_
 have ej:(j:Int)+1=((j+1:Nat):Int):=by omega
 have ek:(j:Int)+2=((j+2:Nat):Int):=by omega
 rw [ej,ek,vx _ (by omega),show j+2 - (j+1)=1 by omega,← List.map_drop,← List.map_take,tS]
 exact q l _ (s1.laid hl) (s1.free hl) ag
def nogB (s m:Int):Bool:=(sgL m).all fun x=>decide (s≤x)
def nolB (s m:Int):Bool:=(sgL m).all fun x=>decide (x≤s)
theorem zg {m:Int} (m0:0≤m) (m1:m < 64):(sgL m).length≤6:=by
 rw [(fF m0 m1).2,List.length_map]
 exact List.length_filter_le _ _
def bL (K:PySem.W.Frag):Sp:=fun vs H Q _=>∃ s m:Int,vs=[.int s,.int m]∧0≤m∧m < 64∧∀ H',Same H H'→Q (.bl (nogB s m)) H'
theorem oE {K:PySem.W.Frag} {vs:List V} {H:Hp} {Q:VK} {E:XK} (h:bL K vs H Q E):vs.length=2:=by
 obtain ⟨_,_,rfl,_⟩:=h; rfl
def dI (K:PySem.W.Frag):TS:=
 (tRet (tCB kAll (tCons (tComp [none,none,some 0] (iList K (tCall (aT K) [] E0 (tCons (tVar 1) tNil))) (gName 1) tTrue (tOp (cCmp fun i j=>decide (i≤j)) (tVar 2) (tVar 1))) tNil)))
theorem oF {K:PySem.W.Frag} {vs:List V} {H:Hp} {Q:VK} {E:XK} (h:bL K vs H Q E):dI K { nx:=fun _ H'=>Q .non H',rt:=Q } (start ["sign","mask"] vs) H:=by
 obtain ⟨s,m,rfl,m0,m1,q⟩:=h
 have sb:=(fF m0 m1).1
 have sl:=zg m0 m1
 show dI K _ [some (.int s),some (.int m)] H
 unfold dI
 walk_at "w"
 refine ⟨m,rfl,by omega,fun l H1 s1 hl el=>?_⟩
 refine ⟨l,rfl,⟨_,SqL.of el⟩,?_⟩
 refine jw (xs:=sgL m) (fun x=>decide (s≤x)) (by omega) (SqL.of el) ?_ ?_
 · intro x H2 Q2 hx s2 k2
   show tOp _ _ _ [none,some (.int x),some (.int s)] H2 Q2
   walk_at "w"
   exact k2 _ (Same.refl _)
 · intro l2 H2 hl2 s2 el2
   walk_at "w"
   refine kG el2 ?_
   rw [List.all_map]
   exact q _ (s1.trans s2)
def cH (K:PySem.W.Frag):Sp:=fun vs H Q _=>∃ s m:Int,vs=[.int s,.int m]∧0≤m∧m < 64∧∀ H',Same H H'→Q (.bl (nolB s m)) H'
theorem rL {K:PySem.W.Frag} {vs:List V} {H:Hp} {Q:VK} {E:XK} (h:cH K vs H Q E):vs.length=2:=by
 obtain ⟨_,_,rfl,_⟩:=h; rfl
def gx (K:PySem.W.Frag):TS:=
 (tRet (tCB kAll (tCons (tComp [none,none,some 0] (iList K (tCall (aT K) [] E0 (tCons (tVar 1) tNil))) (gName 1) tTrue (tOp (cCmp fun i j=>decide (j≤i)) (tVar 2) (tVar 1))) tNil)))
theorem rM {K:PySem.W.Frag} {vs:List V} {H:Hp} {Q:VK} {E:XK} (h:cH K vs H Q E):gx K { nx:=fun _ H'=>Q .non H',rt:=Q } (start ["sign","mask"] vs) H:=by
 obtain ⟨s,m,rfl,m0,m1,q⟩:=h
 have sb:=(fF m0 m1).1
 have sl:=zg m0 m1
 show gx K _ [some (.int s),some (.int m)] H
 unfold gx
 walk_at "w"
 refine ⟨m,rfl,by omega,fun l H1 s1 hl el=>?_⟩
 refine ⟨l,rfl,⟨_,SqL.of el⟩,?_⟩
 refine jw (xs:=sgL m) (fun x=>decide (x≤s)) (by omega) (SqL.of el) ?_ ?_
 · intro x H2 Q2 hx s2 k2
   show tOp _ _ _ [none,some (.int x),some (.int s)] H2 Q2
   walk_at "w"
   exact k2 _ (Same.refl _)
 · intro l2 H2 hl2 s2 el2
   walk_at "w"
   refine kG el2 ?_
   rw [List.all_map]
   exact q _ (s1.trans s2)
def stpB (cs masks:List Int) (z s:Int):Bool:=((ahdL cs z).any fun o=>nogB s (masks.getD o.toNat 0))||((behL cs z).any fun o=>nolB s (masks.getD o.toNat 0))
def stepB (cs masks:List Int) (z s:Int) (ms:List Int):Bool:=decide (ms=[])&&stpB cs masks z s
def bZ (K:PySem.W.Frag) (c:RCl RK):Sp:=fun vs H Q _=>∃ (k:RK) (r p A M:Addr) (ws:List (List Nat)) (cs masks ms:List Int) (n m z s:Int),vs=[.ref r,.ref A,.int z,.int s,.ref M]∧IsRule H c k r p ws cs n m∧bj cs masks.length∧z∈cs∧(∀ m∈masks,0≤m∧m < 64)∧H A=some (.lst (masks.map V.int))∧H M=some (.lst (ms.map V.int))∧∀ H',Same H H'→Q (.bl (stepB cs masks z s ms)) H'
theorem pK {K:PySem.W.Frag} {c:RCl RK} {vs:List V} {H:Hp} {Q:VK} {E:XK} (h:bZ K c vs H Q E):vs.length=5:=by
 obtain ⟨_,_,_,_,_,_,_,_,_,_,_,_,_,rfl,_⟩:=h; rfl
def fG (K:PySem.W.Frag) (c:RCl RK):TS:=
 (tSeq (tIfS (tB (tCB kAny (tCons (tComp [none,none,some 1,some 3] (iList K (tCall (cf K c) [] E0 (tCons (tVar 0) (tCons (tVar 2) tNil)))) (gName 1) tTrue (tCall (bL K) [] E0 (tCons (tVar 3) (tCons (tOp cIx (tVar 2) (tVar 1)) tNil)))) tNil))) (tRet (tC (.bl true))) tNext)
  (tRet (tCB kAny (tCons (tComp [none,none,some 1,some 3] (iList K (tCall (du K c) [] E0 (tCons (tVar 0) (tCons (tVar 2) tNil)))) (gName 1) tTrue (tCall (cH K) [] E0 (tCons (tVar 3) (tCons (tOp cIx (tVar 2) (tVar 1)) tNil)))) tNil))))
def eH (K:PySem.W.Frag) (c:RCl RK):TS:=
 (tSeq (tIfS (tTest (tOp (cNe K) (tVar 4) (tLst tNil))) (tRet (tC (.bl false))) tNext)
  (fG K c))
theorem mW {K:PySem.W.Frag} {c:RCl RK} {H:Hp} {Q:VK} {k:RK} {r p A M:Addr} {ws:List (List Nat)} {cs masks:List Int} {n m z s:Int} (x:IsRule H c k r p ws cs n m) (hC:bj cs masks.length) (hz:z∈cs) (mm:∀ m∈masks,0≤m∧m < 64) (hA:H A=some (.lst (masks.map V.int)))
  (q:∀ H',Same H H'→Q (.bl (stpB cs masks z s)) H'):
  fG K c { nx:=fun _ H'=>Q .non H',rt:=Q } [some (.ref r),some (.ref A),some (.int z),some (.int s),some (.ref M)] H:=by
 have la:(ahdL cs z).length≤1:=by unfold ahdL; split <;> simp
 have lb:(behL cs z).length≤1:=by unfold behL; split <;> simp
 unfold fG
 rw [aQ,aH]
 walk_at "w"
 refine ⟨k,r,p,ws,cs,n,m,z,rfl,x,hC.1,hz,fun l H1 s1 hl el=>?_⟩
 refine ⟨l,rfl,⟨_,SqL.of el⟩,?_⟩
 refine jw (xs:=ahdL cs z) (fun o=>nogB s (masks.getD o.toNat 0)) (by omega) (SqL.of el) ?_ ?_
 · intro o H2 Q2 ho s2 k2
   have ci:=hC.2 o (vy hz ho)
   have mi:=wp mm ci.1 ci.2
   show tCall _ _ _ _ [none,some (.int o),some (.ref A),some (.int s)] H2 Q2
   walk_at "w"
   refine ixI ((s1.trans s2) _ _ hA) ci.1 ci.2 ?_
   exact ⟨s,_,rfl,mi.1,mi.2,k2⟩
 · intro l2 H2 hl2 s2 el2
   walk_at "w"
   refine vZ el2 ?_
   have s12:=s1.trans s2
   rw [List.any_map]
   unfold stpB at q
   have ea:(ahdL cs z).any (id ∘ fun o=>nogB s (masks.getD o.toNat 0))=(ahdL cs z).any fun o=>nogB s (masks.getD o.toNat 0):=rfl
   rw [ea]
   cases hb:(ahdL cs z).any fun o=>nogB s (masks.getD o.toNat 0) with
   | true=>
    rw [hb,Bool.true_or] at q
    refine ⟨true,rfl,iteT ?_⟩
    walk_at "w"
    exact q _ s12
   | false=>
    rw [hb,Bool.false_or] at q
    refine ⟨false,rfl,iteF ?_⟩
    walk_at "w"
    refine ⟨k,r,p,ws,cs,n,m,z,rfl,x.same s12,hC.1,hz,fun l3 H3 s3 hl3 el3=>?_⟩
    refine ⟨l3,rfl,⟨_,SqL.of el3⟩,?_⟩
    refine jw (xs:=behL cs z) (fun o=>nolB s (masks.getD o.toNat 0)) (by omega) (SqL.of el3) ?_ ?_
    · intro o H4 Q4 ho s4 k4
      have ci:=hC.2 o (vz ho)
      have mi:=wp mm ci.1 ci.2
      show tCall _ _ _ _ [none,some (.int o),some (.ref A),some (.int s)] H4 Q4
      walk_at "w"
      refine ixI (((s12.trans s3).trans s4) _ _ hA) ci.1 ci.2 ?_
      exact ⟨s,_,rfl,mi.1,mi.2,k4⟩
    · intro l4 H4 hl4 s4 el4
      walk_at "w"
      refine vZ el4 ?_
      rw [List.any_map]
      exact q _ ((s12.trans s3).trans s4)
theorem pL {K:PySem.W.Frag} {c:RCl RK} {vs:List V} {H:Hp} {Q:VK} {E:XK} (h:bZ K c vs H Q E):eH K c { nx:=fun _ H'=>Q .non H',rt:=Q } (start ["rule","masks","cell","sign","more"] vs) H:=by
 obtain ⟨k,r,p,A,M,ws,cs,masks,ms,n,m,z,s,rfl,x,hC,hz,mm,hA,hM,q⟩:=h
 show eH K c _ [some (.ref r),some (.ref A),some (.int z),some (.int s),some (.ref M)] H
 unfold eH
 rw [aQ,aH]
 walk_at "w"
 refine ⟨aK (by decide),fun Z hZ=>?_⟩
 have s1:Same H (upd H Z (.lst [])):=(Same.refl H).laid hZ
 have eZ:(upd H Z (.lst [])) Z=some (.lst (([]:List Int).map V.int)):=ag
 generalize upd H Z (.lst [])=H1 at*
 refine su (s1 _ _ hM) eZ ?_
 unfold stepB at q
 cases hb:decide (ms=[]) with
 | false=>
  rw [hb,Bool.false_and] at q
  refine ⟨true,rfl,?_⟩
  walk_at "w"
  exact q _ s1
 | true=>
  rw [hb,Bool.true_and] at q
  refine ⟨false,rfl,?_⟩
  walk_at "w"
  exact mW (x.same s1) hC hz mm (s1 _ _ hA) fun H' s2=>q H' (s1.trans s2)
end L2
namespace L2
open PySem PySem.Spec PyProof.Rows
section
variable {X:Cx}
def minI (ns:List Int):Int:=ns.getD (argBest (fun i j=>decide (ns.getD i 0 < ns.getD j 0)) (ns.length - 1)) 0
def maxI (ns:List Int):Int:=ns.getD (argBest (fun i j=>decide (ns.getD i 0 > ns.getD j 0)) (ns.length - 1)) 0
end
end L2
namespace L2
open PySem PySem.Spec PyProof.Rows
local macro_rules | `(tactic| walk_at "w")=>`(tactic| (first | simp only [aQ,kn,lQ,gI,ko,i6,i7,lR,lN,kl,lO,if_true,if_false,Bool.false_eq_true,decide_true,decide_false,gR,gS,kK,fu,dr,gP,jE,gQ,ft,jC,jD,fq,kF,fv,fw,fA,fB,fC,fD,fz,jG,jH,jI,jA,kJ,Bool.not_true,Bool.not_false,dN,dw,bi,gl,w_c,g8,dy,e7,dO,e8,w_b,w_not,g9,ke,e9,fb,hE,gm,cN,jK,dP,hJ,gn,jL,hV,dQ,fc,fe,ff,c9,da,cC,cr,cu,bS,hX,h9,ia,ib,ic,ie,ig,ii,ij,ik,il,im,kg,fg,cw,fh,kh,fi,db,cx,io,ip,fj,fk,fo,
 List.getElem?_cons_zero,List.getElem?_cons_succ,Option.some.injEq,exists_eq_left',exists_eq_left,List.set_cons_zero,List.set_cons_succ,b4,V.int.injEq,V.bl.injEq,V.ref.injEq,V.str.injEq,List.append_nil,List.nil_append,List.cons_append] | dsimp only | skip))
theorem mt (xs:List Int):xs.filter (fun _=>true)=xs:=List.filter_eq_self.mpr fun _ _=>rfl
def loM (m:Int):Int:=(sgL m).getD 0 0
def hiM (m:Int):Int:=(sgL m).getD ((sgL m).length - 1) 0
theorem AK:((List.range 64).all fun m=>decide (m=0)||(decide (0 < (sgL (m:Int)).length∧(sgL (m:Int)).length≤6)&&(decide (minI (sgL (m:Int))=loM (m:Int)∧maxI (sgL (m:Int))=hiM (m:Int))&&decide ((1≤loM (m:Int)∧loM (m:Int)≤6)∧1≤hiM (m:Int)∧hiM (m:Int)≤6))))=true:=by decide+kernel
theorem wq {m:Int} (m0:0≤m) (m1:m < 64) (hm:m≠0):(0 < (sgL m).length∧(sgL m).length≤6)∧(minI (sgL m)=loM m∧maxI (sgL m)=hiM m)∧(1≤loM m∧loM m≤6)∧1≤hiM m∧hiM m≤6:=by
 have t:=List.all_eq_true.mp AK m.toNat (List.mem_range.mpr (by omega))
 have e1:((m.toNat:Nat):Int)=m:=by omega
 rw [e1,Bool.or_eq_true,decide_eq_true_eq,Bool.and_eq_true,Bool.and_eq_true,decide_eq_true_eq,decide_eq_true_eq,decide_eq_true_eq] at t
 rcases t with t | t
 · omega
 · exact t
theorem x9:sgL 0=[]:=by decide+kernel
theorem wr {xs:List Int} (h:0 < xs.length):atI (xs.map V.int) (-1)=some (V.int (xs.getD (xs.length - 1) 0)):=by
 unfold atI ixN
 rw [List.length_map,if_neg (by decide),if_pos (by omega)]
 show (xs.map V.int)[((xs.length:Int)+ -1).toNat]? =_
 rw [show ((xs.length:Int)+ -1).toNat=xs.length - 1 by omega,List.getElem?_map,List.getElem?_eq_getElem (by omega),List.getD,List.getElem?_eq_getElem (by omega)]
 rfl
def smB (os:List Int) (n s:Int):Bool:=decide (0∈os)||(decide (n < s+(os.map loM).sum)||decide (s+(os.map hiM).sum < n))
def sumB (cs:List Int) (n:Int) (masks:List Int) (z s:Int) (ms:List Int):Bool:=decide (ms=[])&&smB (sgAt masks (othL cs z)) n s
def cR (K:PySem.W.Frag):Sp:=fun vs H Q _=>∃ (A:Addr) (ms:List Int),vs=[.ref A]∧H A=some (.lst (ms.map V.int))∧Q (.bl (decide (0∈ms))) H
theorem wt {K:PySem.W.Frag} {vs:List V} {H:Hp} {Q:VK} {E:XK} (h:cR K vs H Q E):vs.length=1:=by
 obtain ⟨_,_,rfl,_⟩:=h; rfl
def j3 (K:PySem.W.Frag):TS:=
 (tRet (tOp (cIn K false) (tC (.int 0)) (tVar 0)))
theorem wu {K:PySem.W.Frag} {vs:List V} {H:Hp} {Q:VK} {E:XK} (h:cR K vs H Q E):j3 K { nx:=fun _ H'=>Q .non H',rt:=Q } (start ["masks"] vs) H:=by
 obtain ⟨A,ms,rfl,hA,q⟩:=h
 show j3 K _ [some (.ref A)] H
 unfold j3
 walk_at "w"
 rw [qo hA]
 exact q
theorem A8 {cs masks:List Int} {z:Int} (hC:bj cs masks.length) (mm:∀ m∈masks,0≤m∧m < 64):∀ m∈sgAt masks (othL cs z),0≤m∧m < 64:=fun m hm=>by
 unfold sgAt at hm
 obtain ⟨x,hx,rfl⟩:=List.mem_map.mp hm
 have ci:=hC.2 x (List.mem_filter.mp hx).1
 exact wp mm ci.1 ci.2
def cm (K:PySem.W.Frag) (c:RCl RK):Sp:=fun vs H Q _=>∃ (k:RK) (r p A M:Addr) (ws:List (List Nat)) (cs masks ms:List Int) (n m z s:Int),vs=[.ref r,.ref A,.int z,.int s,.ref M]∧IsRule H c k r p ws cs n m∧bj cs masks.length∧(∀ m∈masks,0≤m∧m < 64)∧H A=some (.lst (masks.map V.int))∧H M=some (.lst (ms.map V.int))∧∀ H',Same H H'→Q (.bl (sumB cs n masks z s ms)) H'
theorem qB {K:PySem.W.Frag} {c:RCl RK} {vs:List V} {H:Hp} {Q:VK} {E:XK} (h:cm K c vs H Q E):vs.length=5:=by
 obtain ⟨_,_,_,_,_,_,_,_,_,_,_,_,_,rfl,_⟩:=h; rfl
def gb (K:PySem.W.Frag) (c:RCl RK):TS:=
 (tSeq (tAsg (tOp cAdd (tVar 3) (tCB kSum (tCons (tComp [none,none] (iList K (tVar 5)) (gName 1) tTrue (tOp cIx (tCall (aT K) [] E0 (tCons (tVar 1) tNil)) (tC (.int 0)))) tNil))) (gName 6))
  (tSeq (tAsg (tOp cAdd (tVar 3) (tCB kSum (tCons (tComp [none,none] (iList K (tVar 5)) (gName 1) tTrue (tOp cIx (tCall (aT K) [] E0 (tCons (tVar 1) tNil)) (tUn (rU fun i=>.int (-i)) (tC (.int 1))))) tNil))) (gName 7))
  (tRet (tOrV (tOp (cCmp fun i j=>decide (j < i)) (tVar 6) (aL c c.ok "number" (dt K c) (tVar 0) tNil)) (tOp (cCmp fun i j=>decide (i < j)) (tVar 7) (aL c c.ok "number" (dt K c) (tVar 0) tNil))))))
def gc (K:PySem.W.Frag) (c:RCl RK):TS:=
 (tSeq (tAsg (tCall (bB K) [] E0 (tCons (tVar 1) (tCons (tCall (br K c) [] E0 (tCons (tVar 0) (tCons (tVar 2) tNil))) tNil))) (gName 5))
  (tSeq (tIfS (tB (tCall (cR K) [] E0 (tCons (tVar 5) tNil))) (tRet (tC (.bl true))) tNext)
  (gb K c)))
def fV (K:PySem.W.Frag) (c:RCl RK):TS:=
 (tSeq (tIfS (tTest (tOp (cNe K) (tVar 4) (tLst tNil))) (tRet (tC (.bl false))) tNext)
  (gc K c))
theorem nK {K:PySem.W.Frag} {c:RCl RK} {H:Hp} {Q:VK} {k:RK} {r p A M B:Addr} {ws:List (List Nat)} {cs os:List Int} {n m z s:Int} (x:IsRule H c k r p ws cs n m) (ol:os.length≤63) (om:∀ m∈os,0≤m∧m < 64) (on:¬ 0∈os) (eB:H B=some (.lst (os.map V.int)))
  (q:∀ H',Same H H'→Q (.bl (decide (n < s+(os.map loM).sum)||decide (s+(os.map hiM).sum < n))) H'):
  gb K c { nx:=fun _ H'=>Q .non H',rt:=Q } [some (.ref r),some (.ref A),some (.int z),some (.int s),some (.ref M),some (.ref B),none,none] H:=by
 have lh:∀ y∈os,_:=fun y hy=>wq (om y hy).1 (om y hy).2 (fun e=>on (e ▸ hy))
 unfold gb
 walk_at "w"
 refine ⟨⟨_,SqL.of eB⟩,?_⟩
 refine dz (xs:=os) (fun _=>true) loM (by omega) (SqL.of eB) ?_ ?_ ?_
 · intro y H1 R hy s1 k1
   exact k1 _ (Same.refl _)
 · intro y H1 Q1 hy hb s1 k1
   have hl:=lh y hy
   show tOp cIx _ _ [none,some (.int y)] H1 Q1
   walk_at "w"
   refine ⟨y,rfl,by have:=(fF (om y hy).1 (om y hy).2); have:=this.1; omega,fun l H2 s2 hl2 el=>?_⟩
   refine ixI el (by decide) (by omega) ?_
   exact k1 _ s2
 · intro l1 H1 hl1 s1 el1
   rw [mt] at el1
   walk_at "w"
   refine vU el1 (fun y hy=>by obtain ⟨z,hz,rfl⟩:=List.mem_map.mp hy; have:=(lh z hz).2.2.1; omega) (by rw [List.length_map]; omega) ?_
   walk_at "w"
   refine ⟨⟨_,SqL.of (s1 _ _ eB)⟩,?_⟩
   refine dz (xs:=os) (fun _=>true) hiM (by omega) (SqL.of (s1 _ _ eB)) ?_ ?_ ?_
   · intro y H2 R hy s2 k2
     exact k2 _ (Same.refl _)
   · intro y H2 Q2 hy hb s2 k2
     have hl:=lh y hy
     show tOp cIx _ _ [none,some (.int y)] H2 Q2
     walk_at "w"
     refine ⟨y,rfl,by have:=(fF (om y hy).1 (om y hy).2); have:=this.1; omega,fun l H3 s3 hl3 el=>?_⟩
     refine ixL el (wr hl.1.1) ?_
     exact k2 _ s3
   · intro l2 H2 hl2 s2 el2
     rw [mt] at el2
     walk_at "w"
     refine vU el2 (fun y hy=>by obtain ⟨z,hz,rfl⟩:=List.mem_map.mp hy; have:=(lh z hz).2.2.2; omega) (by rw [List.length_map]; omega) ?_
     walk_at "w"
     have s12:=s1.trans s2
     have x2:=x.same s12
     obtain ⟨dx,W,C,h1,h2,h3⟩:=x2.ex
     refine methE (k:=k) rfl x2.ok h1 (by rfl) ?_
     walk_at "w"
     refine ⟨r,p,ws,cs,n,m,rfl,x2,?_⟩
     walk_at "w"
     by_cases hb:n < s+(os.map loM).sum
     · rw [decide_eq_true hb,Bool.true_or] at q
       rw [decide_eq_true hb]
       walk_at "w"
       exact q _ s12
     · rw [decide_eq_false hb,Bool.false_or] at q
       rw [decide_eq_false hb]
       walk_at "w"
       refine methE (k:=k) rfl x2.ok h1 (by rfl) ?_
       walk_at "w"
       refine ⟨r,p,ws,cs,n,m,rfl,x2,?_⟩
       walk_at "w"
       exact q _ s12
theorem nL {K:PySem.W.Frag} {c:RCl RK} {H:Hp} {Q:VK} {k:RK} {r p A M:Addr} {ws:List (List Nat)} {cs masks:List Int} {n m z s:Int} (x:IsRule H c k r p ws cs n m) (hC:bj cs masks.length) (mm:∀ m∈masks,0≤m∧m < 64) (hA:H A=some (.lst (masks.map V.int)))
  (q:∀ H',Same H H'→Q (.bl (smB (sgAt masks (othL cs z)) n s)) H'):
  gc K c { nx:=fun _ H'=>Q .non H',rt:=Q } [some (.ref r),some (.ref A),some (.int z),some (.int s),some (.ref M),none,none,none] H:=by
 have hC2:bj (othL cs z) masks.length:=⟨Nat.le_trans (List.length_filter_le _ _) hC.1,fun y hy=>hC.2 y (List.mem_filter.mp hy).1⟩
 have ol:(sgAt masks (othL cs z)).length≤63:=by unfold sgAt; rw [List.length_map]; exact hC2.1
 have om:=A8 (z:=z) hC mm
 unfold gc
 walk_at "w"
 refine ⟨k,r,p,ws,cs,n,m,z,rfl,x,hC.1,fun O H1 s1 hO eO=>?_⟩
 walk_at "w"
 refine ⟨A,O,masks,othL cs z,rfl,s1 _ _ hA,eO,hC2,fun B H2 s2 hB eB=>?_⟩
 have s12:=s1.trans s2
 generalize sgAt masks (othL cs z)=os at*
 walk_at "w"
 rw [aH]
 walk_at "w"
 refine ⟨B,os,rfl,eB,?_⟩
 unfold smB at q
 by_cases h0:0∈os
 · rw [decide_eq_true h0,Bool.true_or] at q
   rw [decide_eq_true h0]
   refine ⟨true,rfl,?_⟩
   walk_at "w"
   exact q _ s12
 · rw [decide_eq_false h0,Bool.false_or] at q
   rw [decide_eq_false h0]
   refine ⟨false,rfl,?_⟩
   walk_at "w"
   exact nK (x.same s12) ol om h0 eB fun H' s3=>q H' (s12.trans s3)
theorem qC {K:PySem.W.Frag} {c:RCl RK} {vs:List V} {H:Hp} {Q:VK} {E:XK} (h:cm K c vs H Q E):fV K c { nx:=fun _ H'=>Q .non H',rt:=Q } (start ["rule","masks","cell","sign","more","some","least","greatest"] vs) H:=by
 obtain ⟨k,r,p,A,M,ws,cs,masks,ms,n,m,z,s,rfl,x,hC,mm,hA,hM,q⟩:=h
 show fV K c _ [some (.ref r),some (.ref A),some (.int z),some (.int s),some (.ref M),none,none,none] H
 unfold fV
 rw [aQ,aH]
 walk_at "w"
 refine ⟨aK (by decide),fun Z hZ=>?_⟩
 have s1:Same H (upd H Z (.lst [])):=(Same.refl H).laid hZ
 have eZ:(upd H Z (.lst [])) Z=some (.lst (([]:List Int).map V.int)):=ag
 generalize upd H Z (.lst [])=H1 at*
 refine su (s1 _ _ hM) eZ ?_
 unfold sumB at q
 cases hb:decide (ms=[]) with
 | false=>
  rw [hb,Bool.false_and] at q
  refine ⟨true,rfl,?_⟩
  walk_at "w"
  exact q _ s1
 | true=>
  rw [hb,Bool.true_and] at q
  refine ⟨false,rfl,?_⟩
  walk_at "w"
  exact nL (x.same s1) hC mm (s1 _ _ hA) fun H' s2=>q H' (s1.trans s2)
theorem ya (t:TK):decide (tkC t=[115,117,109])=decide (t=.sum):=by cases t <;> decide
theorem yb {c:RCl RK} {H1:Hp} {n:Nat} {σ0:St} {te:TE} {fin:Addr→Hp→Prop} {h w g:Int} (F:FlOk h w g) (hn:n≤12) (hk:∀ k,k≠.Rule→c.ok k=true)
  (he:∀ i H Q,i < n→Same H1 H→(∀ (r:RR) (H':Hp),Same H H'→r.Ok h w g→Q (.str r.txt) H')→te (σ0.set 1 (some (.int (0+(i:Int))))) H Q)
  (hd:∀ l rows H,H1 l=none→Same H1 H→H l=some (.lst ((rows.map RR.txt).map V.str))→rows.length=n→mS c h w g rows→fin l H):
  CompR (Itr 0 n) (gName 1) tTrue te fin σ0 H1:=by
 refine lK (fun l i σ H=>(σ=σ0∨∃ cv,σ=σ0.set 1 cv)∧Same H1 H∧∃ rows:List RR,H l=some (.lst ((rows.map RR.txt).map V.str))∧rows.length=i∧∀ r∈rows,r.Ok h w g) (fun l hl=>⟨.inl rfl,(Same.refl H1).laid hl,[],by rw [ag]; rfl,rfl,fun _ h=>nomatch h⟩) ?_ (fun l σ H hl ⟨_,s1,rows,el,hl2,hP⟩=>hd l rows H hl s1 el hl2 ⟨F,by omega,hP,fun r hr=>hk _ (hP r hr).k0⟩)
 rintro l i σ H hl hi ⟨hσ,s1,rows,el,hl2,hP⟩
 rw [bi]
 have e:σ.set 1 (some (.int (0+(i:Int))))=σ0.set 1 (some (.int (0+(i:Int)))):=by
  rcases hσ with rfl | ⟨cv,rfl⟩
  · rfl
  · exact List.set_set ..
 rw [e,dQ,if_pos rfl]
 refine he i H _ hi s1 fun r H2 s2 hr=>⟨_,s2 _ _ el,by simp; exact aE (by omega),.inr ⟨_,rfl⟩,(s1.trans s2).own hl,rows++[r],by rw [ag]; simp,by simp [hl2],fun z hz=>?_⟩
 rcases List.mem_append.mp hz with hz | hz
 · exact hP z hz
 · rw [List.mem_singleton.mp hz]; exact hr
def iH (K:PySem.W.Frag) (c:RCl RK):Sp:=cy K c .Sum
theorem tT {K:PySem.W.Frag} {c:RCl RK} {vs:List V} {H:Hp} {Q:VK} {E:XK} (h:iH K c vs H Q E):vs.length=2:=by
 obtain ⟨_,_,_,_,_,_,_,_,_,_,_,rfl,_⟩:=h; rfl
def iI (K:PySem.W.Frag) (c:RCl RK):TS:=
 (tRet (tOp (cEq K) (tCB kSum (tCons (aL c c.ok "signs_at" (bA K c) (tVar 0) (tCons (tVar 1) tNil)) tNil)) (tFldK c (tVar 0) "amount")))
theorem AL {xs cs:List Int} {n:Nat} (hC:bj cs n) (hn:n=xs.length) (hx:∀ x∈xs,0≤x∧x≤1000):∀ x∈sgAt xs cs,0≤x∧x≤1000:=fun x hm=>by
 unfold sgAt at hm
 obtain ⟨c,hc,rfl⟩:=List.mem_map.mp hm
 have:=hC.2 c hc
 have hl:c.toNat < xs.length:=by omega
 rw [List.getD,List.getElem?_eq_getElem hl]
 exact hx _ (List.getElem_mem hl)
theorem tU {K:PySem.W.Frag} {c:RCl RK} {vs:List V} {H:Hp} {Q:VK} {E:XK} (h:iH K c vs H Q E):iI K c { nx:=fun _ H'=>Q .non H',rt:=Q } (start ["self","filling"] vs) H:=by
 obtain ⟨r,p,f,ws,cs,xs,n,m,h,w,g,rfl,x,ha,F,hf,hC,hx,q⟩:=h
 obtain ⟨dx,W,C,h1,h2,h3⟩:=x.ex
 show iI K c _ [some (.ref r),some (.ref f)] H
 unfold iI
 walk_at "w"
 refine methE rfl x.ok h1 (by rfl) ?_
 walk_at "w"
 refine ⟨r,p,f,ws,cs,xs,n,m,rfl,x,hf,hC,fun l H1 s1 hl el=>?_⟩
 have hlen:(sgAt xs cs).length≤100:=by unfold sgAt; rw [List.length_map]; exact Nat.le_trans hC.1 (by decide)
 walk_at "w"
 refine vU el (fun y hy=>by have:=AL hC rfl hx y hy; omega) (by omega) ?_
 refine fldE rfl x.ok (s1 _ _ h1) (v:=.int n) (by rfl) ?_
 walk_at "w"
 exact q _ s1
theorem vA:∀ l:List Int,risB l=(List.range (l.length - 1)).all fun i=>decide (l.getD i 0 < l.getD (i+1) 0)
 | []=>rfl
 | [x]=>rfl
 | x::y::r=>by
  have ih:=vA (y::r)
  show (decide (x < y)&&risB (y::r))=(List.range (r.length+1)).all fun i=>decide ((x::y::r).getD i 0 < (x::y::r).getD (i+1) 0)
  rw [ih,List.range_succ_eq_map,List.all_cons,List.all_map]
  rfl
def eI (K:PySem.W.Frag) (c:RCl RK):Sp:=cy K c .Rising
theorem pM {K:PySem.W.Frag} {c:RCl RK} {vs:List V} {H:Hp} {Q:VK} {E:XK} (h:eI K c vs H Q E):vs.length=2:=by
 obtain ⟨_,_,_,_,_,_,_,_,_,_,_,rfl,_⟩:=h; rfl
def eJ (K:PySem.W.Frag) (c:RCl RK):TS:=
 (tSeq (tAsg (aL c c.ok "signs_at" (bA K c) (tVar 0) (tCons (tVar 1) tNil)) (gName 2))
  (tRet (tCB kAll (tCons (tComp [none,none,some 2] (cU (tCons (tOp cSub (tCB kLen (tCons (tVar 2) tNil)) (tC (.int 1))) tNil)) (gName 1) tTrue (tOp (cCmp fun i j=>decide (i < j)) (tOp cIx (tVar 2) (tVar 1)) (tOp cIx (tVar 2) (tOp cAdd (tVar 1) (tC (.int 1)))))) tNil))))
theorem pN {K:PySem.W.Frag} {c:RCl RK} {vs:List V} {H:Hp} {Q:VK} {E:XK} (h:eI K c vs H Q E):eJ K c { nx:=fun _ H'=>Q .non H',rt:=Q } (start ["self","filling","signs"] vs) H:=by
 obtain ⟨r,p,f,ws,cs,xs,n,m,h,w,g,rfl,x,ha,F,hf,hC,hx,q⟩:=h
 obtain ⟨dx,W,C,h1,h2,h3⟩:=x.ex
 show eJ K c _ [some (.ref r),some (.ref f),none] H
 unfold eJ
 walk_at "w"
 refine methE rfl x.ok h1 (by rfl) ?_
 walk_at "w"
 refine ⟨r,p,f,ws,cs,xs,n,m,rfl,x,hf,hC,fun l H1 s1 hl el=>?_⟩
 have hlen:(sgAt xs cs).length≤100:=by unfold sgAt; rw [List.length_map]; exact Nat.le_trans hC.1 (by decide)
 have q1:∀ H',Same H H'→Q (.bl (risB (sgAt xs cs))) H':=q
 generalize sgAt xs cs=sg at*
 walk_at "w"
 rw [cO el,List.length_map]
 walk_at "w"
 refine ⟨_,rfl,by omega,by omega,?_⟩
 have en:((sg.length:Int) - 1).toNat=sg.length - 1:=by omega
 rw [en]
 refine nZ (fun _=>true) (fun i=>.bl (decide (sg.getD i 0 < sg.getD (i+1) 0))) (by omega) ?_ ?_ ?_
 · intro i H2 R hi s2 k2
   exact k2 _ (Same.refl _)
 · intro i H2 Q2 hi hb s2 k2
   show tOp _ _ _ [none,some (.int (0+(i:Int))),some (.ref l)] H2 Q2
   rw [Int.zero_add]
   walk_at "w"
   refine ixI (s2 _ _ el) (by omega) (by omega) ?_
   refine ixI (s2 _ _ el) (by omega) (by omega) ?_
   walk_at "w"
   have e1:(i:Int).toNat=i:=by omega
   have e2:((i:Int)+1).toNat=i+1:=by omega
   rw [e1,e2]
   exact k2 _ (Same.refl _)
 · intro l2 H2 hl2 s2 el2
   rw [bf] at el2
   refine kG (bs:=(List.range (sg.length - 1)).map fun i=>decide (sg.getD i 0 < sg.getD (i+1) 0)) (by rw [el2,List.map_map]; rfl) ?_
   have e:((List.range (sg.length - 1)).map fun i=>decide (sg.getD i 0 < sg.getD (i+1) 0)).all id=risB sg:=by
    rw [vA,List.all_map]
    rfl
   rw [e]
   exact q1 _ (s1.trans s2)
theorem yS (l:List Int) (x:Int):seenN (l++[x])=if (seenN l).1 < x then (x,(seenN l).2+1) else seenN l:=by
 unfold seenN
 rw [List.foldl_append]
 rfl
def gy (K:PySem.W.Frag) (c:RCl RK):Sp:=cy K c .Seen
theorem rN {K:PySem.W.Frag} {c:RCl RK} {vs:List V} {H:Hp} {Q:VK} {E:XK} (h:gy K c vs H Q E):vs.length=2:=by
 obtain ⟨_,_,_,_,_,_,_,_,_,_,_,rfl,_⟩:=h; rfl
def gz (K:PySem.W.Frag) (c:RCl RK):TS:=
 (tSeq (tAsg (tC (.int 0)) (gName 2))
  (tSeq (tAsg (tC (.int 0)) (gName 3))
  (tSeq (tFor (iList K (aL c c.ok "signs_at" (bA K c) (tVar 0) (tCons (tVar 1) tNil))) (gName 4)
  (tIfS (tTest (tOp (cCmp fun i j=>decide (j < i)) (tVar 4) (tVar 2))) (tSeq (tAsg (tVar 4) (gName 2))
  (tAsg (tOp cAdd (tVar 3) (tC (.int 1))) (gName 3))) tNext))
  (tRet (tOp (cEq K) (tVar 3) (tFldK c (tVar 0) "amount"))))))
theorem rO {K:PySem.W.Frag} {c:RCl RK} {vs:List V} {H:Hp} {Q:VK} {E:XK} (h:gy K c vs H Q E):gz K c { nx:=fun _ H'=>Q .non H',rt:=Q } (start ["self","filling","greatest","seen","sign"] vs) H:=by
 obtain ⟨r,p,f,ws,cs,xs,n,m,h,w,g,rfl,x,ha,F,hf,hC,hx,q⟩:=h
 obtain ⟨dx,W,C,h1,h2,h3⟩:=x.ex
 show gz K c _ [some (.ref r),some (.ref f),none,none,none] H
 unfold gz
 walk_at "w"
 refine methE rfl x.ok h1 (by rfl) ?_
 walk_at "w"
 refine ⟨r,p,f,ws,cs,xs,n,m,rfl,x,hf,hC,fun l H1 s1 hl el=>?_⟩
 have q1:∀ H',Same H H'→Q (.bl (decide ((seenN (sgAt xs cs)).2=n))) H':=q
 generalize sgAt xs cs=sg at*
 walk_at "w"
 refine ⟨⟨_,SqL.of el⟩,gG (K:=K) (xs:=sg.map V.int) (fun i σ H'=>∃ cv:Option V,σ=[some (.ref r),some (.ref f),some (.int (seenN (sg.take i)).1),some (.int (seenN (sg.take i)).2),cv]∧H'=H1) ⟨none,rfl,rfl⟩ (fun i σ H' _ ⟨_,_,e⟩=>by rw [e]; exact SqL.of el) ?_ ?_⟩
 · rintro i y σ H2 hy ⟨cv,rfl,rfl⟩
   rw [List.getElem?_map] at hy
   cases e:sg[i]? with
   | none=>rw [e] at hy; cases hy
   | some z=>
    rw [e] at hy
    cases hy
    have et:sg.take (i+1)=sg.take i++[z]:=by rw [List.take_succ,e]; rfl
    have ea:=yS (sg.take i) z
    rw [← et] at ea
    walk_at "w"
    rw [aH]
    walk_at "w"
    by_cases hz:(seenN (sg.take i)).1 < z
    · rw [decide_eq_true hz]
      rw [if_pos hz] at ea
      refine iteT ?_
      rw [ea]
      exact ⟨_,rfl,by first | trivial | rfl⟩
    · rw [decide_eq_false hz]
      rw [if_neg hz] at ea
      refine iteF ?_
      rw [ea]
      exact ⟨_,rfl,by first | trivial | rfl⟩
 · rintro σ H2 ⟨cv,rfl,rfl⟩
   rw [List.length_map,List.take_length]
   walk_at "w"
   refine fldE rfl x.ok (s1 _ _ h1) (v:=.int n) (by rfl) ?_
   walk_at "w"
   exact q1 _ s1
def cp (K:PySem.W.Frag) (c:RCl RK):Sp:=fun vs H Q E=>∃ k,bG K c k vs H Q E
theorem qD {K:PySem.W.Frag} {c:RCl RK} {vs:List V} {H:Hp} {Q:VK} {E:XK} (h:cp K c vs H Q E):vs.length=2:=by
 obtain ⟨_,_,_,_,_,_,_,_,_,rfl,_⟩:=h; rfl
def fW (K:PySem.W.Frag) (c:RCl RK):TS:=
 (tRet (tComp [none,none,some 1,some 0] (iTup K (tFldK c (tVar 0) "cells")) (gName 1) (tTest (tOp (cEq K) (tOp cIx (tVar 2) (tVar 1)) (tFldK c (tVar 3) "mark"))) (tVar 1)))
theorem qE {K:PySem.W.Frag} {c:RCl RK} {vs:List V} {H:Hp} {Q:VK} {E:XK} (h:cp K c vs H Q E):fW K c { nx:=fun _ H'=>Q .non H',rt:=Q } (start ["self","filling"] vs) H:=by
 obtain ⟨k,r,p,f,ws,cs,xs,n,m,rfl,x,hf,⟨hn,hc⟩,q⟩:=h
 obtain ⟨dx,W,C,h1,h2,h3⟩:=x.ex
 show fW K c _ [some (.ref r),some (.ref f)] H
 unfold fW
 rw [dy,vo]
 refine fldE rfl x.ok h1 (v:=.ref C) (by rfl) ?_
 refine ⟨C,rfl,⟨_,SqT.of h3⟩,?_⟩
 refine rb (xs:=cs) (fun c=>decide (xs.getD c.toNat 0=m)) (fun c=>c) (by omega) h3 ?_ ?_ ?_
 · intro z H1 R hz s1 k1
   show tTest _ [none,some (.int z),some (.ref f),some (.ref r)] H1 R
   walk_at "w"
   have:=hc z hz
   refine ixI (s1 _ _ hf) this.1 (by omega) ?_
   refine fldE rfl x.ok (s1 _ _ h1) (v:=.int m) (by rfl) ?_
   walk_at "w"
   exact k1 _ (Same.refl _)
 · intro z H1 Q1 hz hb s1 k1
   show tVar 1 [none,some (.int z),some (.ref f),some (.ref r)] H1 Q1
   exact ⟨_,rfl,k1 _ (Same.refl _)⟩
 · intro l H1 hl s1 el
   rw [List.map_id'] at el
   exact q l H1 s1 hl el
def fX (K:PySem.W.Frag) (c:RCl RK):Sp:=cy K c .Count
theorem qF {K:PySem.W.Frag} {c:RCl RK} {vs:List V} {H:Hp} {Q:VK} {E:XK} (h:fX K c vs H Q E):vs.length=2:=by
 obtain ⟨_,_,_,_,_,_,_,_,_,_,_,rfl,_⟩:=h; rfl
def fY (K:PySem.W.Frag) (c:RCl RK):TS:=
 (tRet (tOp (cEq K) (tCB kLen (tCons (aL c c.ok "marked" (bG K c) (tVar 0) (tCons (tVar 1) tNil)) tNil)) (tFldK c (tVar 0) "amount")))
theorem qG {K:PySem.W.Frag} {c:RCl RK} {vs:List V} {H:Hp} {Q:VK} {E:XK} (h:fX K c vs H Q E):fY K c { nx:=fun _ H'=>Q .non H',rt:=Q } (start ["self","filling"] vs) H:=by
 obtain ⟨r,p,f,ws,cs,xs,n,m,h,w,g,rfl,x,ha,F,hf,hC,hx,q⟩:=h
 obtain ⟨dx,W,C,h1,h2,h3⟩:=x.ex
 show fY K c _ [some (.ref r),some (.ref f)] H
 unfold fY
 walk_at "w"
 refine methE rfl x.ok h1 (by rfl) ?_
 walk_at "w"
 refine ⟨r,p,f,ws,cs,xs,n,m,rfl,x,hf,hC,fun l H1 s1 hl el=>?_⟩
 walk_at "w"
 rw [cO el,List.length_map]
 refine fldE rfl x.ok (s1 _ _ h1) (v:=.int n) (by rfl) ?_
 walk_at "w"
 exact q _ s1
end L2
namespace L2
open PySem PySem.Spec PyProof.Rows
end L2
namespace L2
open PySem PySem.Spec PyProof.Rows
local macro_rules | `(tactic| walk_at "w")=>`(tactic| (first | simp only [aQ,kn,lQ,gI,ko,i6,i7,lR,lN,kl,lO,if_true,if_false,Bool.false_eq_true,decide_true,decide_false,gR,gS,kK,fu,dr,gP,jE,gQ,ft,jC,jD,fq,kF,fv,fw,fA,fB,fC,fD,fz,jG,jH,jI,jA,kJ,Bool.not_true,Bool.not_false,dN,dw,bi,gl,w_c,g8,dy,e7,dO,e8,w_b,w_not,g9,ke,e9,fb,hE,gm,cN,jK,dP,hJ,gn,jL,hV,dQ,fc,fe,ff,c9,da,cC,cr,cu,bS,hX,h9,ia,ib,ic,ie,ig,ii,ij,ik,il,im,kg,fg,cw,fh,kh,fi,db,cx,io,ip,fj,fk,fo,
 List.getElem?_cons_zero,List.getElem?_cons_succ,Option.some.injEq,exists_eq_left',exists_eq_left,List.set_cons_zero,List.set_cons_succ,b4,V.int.injEq,V.bl.injEq,V.ref.injEq,V.str.injEq,List.append_nil,List.nil_append,List.cons_append] | dsimp only | skip))
def dj (K:PySem.W.Frag):Sp:=fun vs H Q _=>∃ (S M:Addr) (sq ms:List Int),vs=[.ref S,.ref M]∧H S=some (.lst (sq.map V.int))∧H M=some (.lst (ms.map V.int))∧sq.length≤100∧∀ H',Same H H'→Q (.bl (sq.all fun c=>decide (c∈ms))) H'
theorem tV {K:PySem.W.Frag} {vs:List V} {H:Hp} {Q:VK} {E:XK} (h:dj K vs H Q E):vs.length=2:=by
 obtain ⟨_,_,_,_,rfl,_⟩:=h; rfl
def iJ (K:PySem.W.Frag):TS:=
 (tRet (tCB kAll (tCons (tComp [none,none,some 1] (iList K (tVar 0)) (gName 1) tTrue (tOp (cIn K false) (tVar 1) (tVar 2))) tNil)))
theorem tW {K:PySem.W.Frag} {vs:List V} {H:Hp} {Q:VK} {E:XK} (h:dj K vs H Q E):iJ K { nx:=fun _ H'=>Q .non H',rt:=Q } (start ["some","cells"] vs) H:=by
 obtain ⟨S,M,sq,ms,rfl,hS,hM,hn,q⟩:=h
 show iJ K _ [some (.ref S),some (.ref M)] H
 unfold iJ
 walk_at "w"
 refine ⟨⟨_,SqL.of hS⟩,?_⟩
 refine b9 (xs:=sq.map V.int) (fun _=>true) (fun i=>.bl (decide (sq.getD i 0∈ms))) (by rw [List.length_map]; omega) (SqL.of hS) ?_ ?_ ?_
 · intro i x H1 R hx s1 k1
   exact k1 _ (Same.refl _)
 · intro i x H1 Q1 hx hb s1 k1
   rw [List.getElem?_map] at hx
   cases e:sq[i]? with
   | none=>rw [e] at hx; cases hx
   | some z=>
    rw [e] at hx
    cases hx
    have k2:=k1 _ (Same.refl H1)
    rw [List.getD,e] at k2
    show tOp (cIn K false) _ _ [none,some (.int z),some (.ref M)] H1 Q1
    walk_at "w"
    rw [qo (s1 _ _ hM)]
    exact k2
 · intro l H1 hl s1 el
   rw [bf,List.length_map] at el
   refine kG (bs:=(List.range sq.length).map fun i=>decide (sq.getD i 0∈ms)) (by rw [el,List.map_map]; rfl) ?_
   have e:((List.range sq.length).map fun i=>decide (sq.getD i 0∈ms)).all id=sq.all fun c=>decide (c∈ms):=by
    rw [List.all_map,Bool.eq_iff_iff,List.all_eq_true,List.all_eq_true]
    constructor
    · intro h c hc
      obtain ⟨i,hi,rfl⟩:=List.mem_iff_getElem.mp hc
      have:=h i (List.mem_range.mpr hi)
      dsimp only [Function.comp,id] at this
      rw [List.getD,List.getElem?_eq_getElem hi] at this
      exact this
    · intro h i hi
      have hi:=List.mem_range.mp hi
      have:=h _ (List.getElem_mem hi)
      dsimp only [Function.comp,id]
      rw [List.getD,List.getElem?_eq_getElem hi]
      exact this
   rw [e]
   exact q _ s1
def cX (K:PySem.W.Frag) (c:RCl RK):Sp:=cy K c .NoSquare
theorem nM {K:PySem.W.Frag} {c:RCl RK} {vs:List V} {H:Hp} {Q:VK} {E:XK} (h:cX K c vs H Q E):vs.length=2:=by
 obtain ⟨_,_,_,_,_,_,_,_,_,_,_,rfl,_⟩:=h; rfl
theorem zR {h w g:Int} (F:FlOk h w g):(squL h w).length≤16:=by
 obtain ⟨h0,h1,w0,w1,m16,g0,g1⟩:=F
 unfold squL
 rw [List.length_map]
 refine Nat.le_trans (List.length_filter_le _ _) ?_
 rw [List.length_range]
 omega
def cY (K:PySem.W.Frag) (c:RCl RK):TS:=
 (tSeq (tAsg (aL c c.ok "marked" (bG K c) (tVar 0) (tCons (tVar 1) tNil)) (gName 2))
  (tRet (tNotV (tCB kAny (tCons (tComp [none,none,some 2] (iList K (tCall (fM K) [] E0 (tCons (tFldK c (tVar 0) "floor") tNil))) (gName 1) tTrue (tCall (dj K) [] E0 (tCons (tVar 1) (tCons (tVar 2) tNil)))) tNil)))))
theorem nN {K:PySem.W.Frag} {c:RCl RK} {vs:List V} {H:Hp} {Q:VK} {E:XK} (h:cX K c vs H Q E):cY K c { nx:=fun _ H'=>Q .non H',rt:=Q } (start ["self","filling","cells"] vs) H:=by
 obtain ⟨r,p,f,ws,cs,xs,n,m,h,w,g,rfl,x,ha,F,hf,hC,hx,q⟩:=h
 obtain ⟨dx,W,C,h1,h2,h3⟩:=x.ex
 show cY K c _ [some (.ref r),some (.ref f),none] H
 unfold cY
 walk_at "w"
 refine methE rfl x.ok h1 (by rfl) ?_
 walk_at "w"
 refine ⟨r,p,f,ws,cs,xs,n,m,rfl,x,hf,hC,fun l H1 s1 hl el=>?_⟩
 walk_at "w"
 refine fldE rfl x.ok (s1 _ _ h1) (v:=.ref p) (by rfl) ?_
 walk_at "w"
 refine ⟨p,h,w,g,rfl,s1 _ _ ha,F,fun L as H2 s2 hL xL _ _ _=>?_⟩
 have sl:=zR F
 refine ⟨L,rfl,⟨_,SqL.of xL.top⟩,?_⟩
 refine b9 (xs:=as.map V.ref) (fun _=>true) (fun i=>.bl (((squL h w).getD i []).all fun c=>decide (c∈mkAt xs cs m))) (by rw [List.length_map,xL.len]; omega) (SqL.of xL.top) ?_ ?_ ?_
 · intro i x H3 R hx s3 k3
   exact k3 _ (Same.refl _)
 · intro i y H3 Q3 hi hb s3 k3
   obtain ⟨b,hb,rfl⟩:=kU hi
   have hlt:i < (squL h w).length:=by rw [← xL.len]; exact (List.getElem?_eq_some_iff.mp hb).1
   have e:=List.getElem?_eq_getElem hlt
   have eg:(squL h w).getD i []=(squL h w)[i]:=by rw [List.getD,e]; rfl
   have hq4:((squL h w)[i]).length≤100:=by
    have hm:=List.getElem_mem hlt
    generalize (squL h w)[i]=z at hm
    unfold squL at hm
    obtain ⟨j,_,rfl⟩:=List.mem_map.mp hm
    show 4≤100
    decide
   show tCall _ _ _ _ [none,some (.ref b),some (.ref l)] H3 Q3
   walk_at "w"
   refine ⟨b,l,_,_,rfl,s3 _ _ (xL.at_ i b _ hb e),s3 _ _ (s2 _ _ el),hq4,fun H4 s4=>?_⟩
   have:=k3 H4 s4
   rw [eg] at this
   exact this
 · intro D H3 hD s3 eD
   rw [bf,List.length_map,xL.len] at eD
   refine vZ (bs:=(List.range (squL h w).length).map fun i=>((squL h w).getD i []).all fun c=>decide (c∈mkAt xs cs m)) (by rw [eD,List.map_map]; rfl) ?_
   have e:((List.range (squL h w).length).map fun i=>((squL h w).getD i []).all fun c=>decide (c∈mkAt xs cs m)).any id=(squL h w).any fun sq=>sq.all fun c=>decide (c∈mkAt xs cs m):=by
    rw [List.any_map,Bool.eq_iff_iff,List.any_eq_true,List.any_eq_true]
    constructor
    · rintro ⟨i,hi,hh⟩
      have hi:=List.mem_range.mp hi
      dsimp only [Function.comp,id] at hh
      have eg:(squL h w).getD i []=(squL h w)[i]:=by rw [List.getD,List.getElem?_eq_getElem hi]; rfl
      rw [eg] at hh
      exact ⟨_,List.getElem_mem hi,hh⟩
    · rintro ⟨sq,hs,hh⟩
      obtain ⟨i,hi,rfl⟩:=List.mem_iff_getElem.mp hs
      refine ⟨i,List.mem_range.mpr hi,?_⟩
      dsimp only [Function.comp,id]
      have eg:(squL h w).getD i []=(squL h w)[i]:=by rw [List.getD,List.getElem?_eq_getElem hi]; rfl
      rw [eg]
      exact hh
   rw [e]
   walk_at "w"
   exact q _ ((s1.trans s2).trans s3)
end L2
namespace L2
open PySem PySem.Spec PyProof.Rows
end L2
namespace L2
open PySem PySem.Spec PyProof.Rows
local macro_rules | `(tactic| walk_at "w")=>`(tactic| (first | simp only [aQ,kn,lQ,gI,ko,i6,i7,lR,lN,kl,lO,if_true,if_false,Bool.false_eq_true,decide_true,decide_false,gR,gS,kK,fu,dr,gP,jE,gQ,ft,jC,jD,fq,kF,fv,fw,fA,fB,fC,fD,fz,jG,jH,jI,jA,kJ,Bool.not_true,Bool.not_false,dN,dw,bi,gl,w_c,g8,dy,e7,dO,e8,w_b,w_not,g9,ke,e9,fb,hE,gm,cN,jK,dP,hJ,gn,jL,hV,dQ,fc,fe,ff,c9,da,cC,cr,cu,bS,hX,h9,ia,ib,ic,ie,ig,ii,ij,ik,il,im,kg,fg,cw,fh,kh,fi,db,cx,io,ip,fj,fk,fo,
 List.getElem?_cons_zero,List.getElem?_cons_succ,Option.some.injEq,exists_eq_left',exists_eq_left,List.set_cons_zero,List.set_cons_succ,b4,V.int.injEq,V.bl.injEq,V.ref.injEq,V.str.injEq,List.append_nil,List.nil_append,List.cons_append] | dsimp only | skip))
def fZ (K:PySem.W.Frag):Sp:=fun vs H Q _=>∃ (a l:Addr) (h w g st:Int) (cs:List Int),vs=[.ref a,.ref l,.int st]∧IsFl H a h w g∧0 < w∧w < 100∧H l=some (.lst (cs.map V.int))∧cs.length≤63∧
 ∀ (p:Addr) (H':Hp) (rs:List Int),Same H H'→H p=none→H' p=some (.lst (rs.map V.int))→rs.Pairwise (· < ·)→(∀ x,x∈rs↔RC h w cs st x)→Q (.ref p) H'
theorem wv {K:PySem.W.Frag} {vs:List V} {H:Hp} {Q:VK} {E:XK} (h:fZ K vs H Q E):vs.length=3:=by
 obtain ⟨_,_,_,_,_,_,_,rfl,_⟩:=h; rfl
def j4 (K:PySem.W.Frag):TS:=
 (tSeq (tIfS (tTest (tOp (cIn K true) (tVar 2) (tVar 1))) (tRet (tLst tNil)) tNext)
  (tSeq (tAsg (tLst (tCons (tVar 2) tNil)) (gName 3))
  (tSeq (tAsg (tC (.int 0)) (gName 4))
  (tSeq (wW (tTest (tOp (cCmp fun i j=>decide (i < j)) (tVar 4) (tCB kLen (tCons (tVar 3) tNil))))
  (tSeq (tFor (iList K (tCall (dq K) [] E0 (tCons (tVar 0) (tCons (tOp cIx (tVar 3) (tVar 4)) tNil)))) (gName 5)
  (tIfS (tAnd (tTest (tOp (cIn K false) (tVar 5) (tVar 1))) (tTest (tOp (cIn K true) (tVar 5) (tVar 3)))) (tDrop (tBM K "list" ck (tVar 3) (tCons (tVar 5) tNil))) tNext))
  (tAsg (tOp cAdd (tVar 4) (tC (.int 1))) (gName 4))))
  (tRet (tCB c8 (tCons (tVar 3) tNil)))))))
theorem ww {K:PySem.W.Frag} {vs:List V} {H:Hp} {Q:VK} {E:XK} (h:fZ K vs H Q E):j4 K { nx:=fun _ H'=>Q .non H',rt:=Q } (start ["floor","cells","start","found","place","cell"] vs) H:=by
 obtain ⟨a,l,h,w,g,st,cs,rfl,ha,w0,w1,hl,hn,k⟩:=h
 show j4 K _ [some (.ref a),some (.ref l),some (.int st),none,none,none] H
 unfold j4
 rw [aQ,aH]
 walk_at "w"
 rw [zd hl]
 walk_at "w"
 by_cases hs:st∈cs
 · rw [if_neg (by simpa using hs)]
   walk_at "w"
   refine ⟨aK (by show (1:Nat)≤1000; decide),fun f hf=>?_⟩
   refine ⟨fun m σ H'=>∃ (fs:List Int) (pl:Nat) (cv:Option V),σ=[some (.ref a),some (.ref l),some (.int st),some (.ref f),some (.int pl),cv]∧Same H H'∧H' f=some (.lst (fs.map V.int))∧BI h w cs st fs pl∧m=cs.length - pl,
    ⟨_,[st],0,none,rfl,(Same.refl H).laid hf,ag,BI.start hs,rfl⟩,?_⟩
   rintro m σ H1 ⟨fs,pl,cv,rfl,s1,e1,B,rfl⟩
   have hfl:=B.len
   walk_at "w"
   rw [cO e1,List.length_map]
   walk_at "w"
   by_cases hp:pl < fs.length
   · rw [if_pos (by simpa using hp)]
     obtain ⟨x,hx⟩:∃ x,fs[pl]? =some x:=⟨fs[pl],by simp [hp]⟩
     have rx:RC h w cs st x:=B.rc x (List.mem_of_getElem? hx)
     refine ⟨fun σ H'=>∃ (fs:List Int) (cv:Option V),σ=[some (.ref a),some (.ref l),some (.int st),some (.ref f),some (.int ((pl:Int)+1)),cv]∧Same H H'∧H' f=some (.lst (fs.map V.int))∧BI h w cs st fs (pl+1),
      fun σ' H' ⟨fs',cv',e,s',e',B'⟩=>⟨_,by omega,fs',pl+1,cv',by rw [e]; rfl,s',e',B',rfl⟩,?_⟩
     walk_at "w"
     rw [zc e1]
     refine aV (oh (by omega) (by omega)) ?_
     walk_at "w"
     rw [show ((pl:Int)).toNat=pl from Int.toNat_natCast _,i5 hx]
     refine ⟨a,h,w,g,x,rfl,s1 _ _ ha,w0,w1,fun b H2 s2 hb e2=>?_⟩
     have s12:=s1.trans s2
     refine ⟨b,rfl,⟨_,SqL.of e2⟩,gG (K:=K) (xs:=(besL h w x).map V.int) (fun i σ H'=>∃ (f2:List Int) (cv:Option V),σ=[some (.ref a),some (.ref l),some (.int st),some (.ref f),some (.int pl),cv]∧Same H H'∧H' b=some (.lst ((besL h w x).map V.int))∧H' f=some (.lst (f2.map V.int))∧BJ h w cs st fs pl ((besL h w x).take i) f2)
      ⟨fs,cv,rfl,s12,e2,s2 _ _ e1,BJ.zero B⟩ (fun i σ H' _ ⟨_,_,_,_,q,_⟩=>SqL.of q) ?_ ?_⟩
     · rintro i y σ H3 hy ⟨f2,cv2,rfl,s3,eb,ef,J⟩
       rw [List.getElem?_map] at hy
       cases hz:(besL h w x)[i]? with
       | none=>rw [hz] at hy; cases hy
       | some z=>
        rw [hz] at hy
        cases hy
        have hlen2:f2.length≤63:=Nat.le_trans (lM J.nd fun x hx=>(J.rc x hx).mem) hn
        have hmem:z∈besL h w x:=List.mem_of_getElem? hz
        have htake:(besL h w x).take (i+1)=(besL h w x).take i++[z]:=by rw [List.take_add_one,hz]; rfl
        have J2:=J.more rx hmem
        rw [← htake] at J2
        walk_at "w"
        rw [aH]
        walk_at "w"
        rw [qo (s3 _ _ hl)]
        walk_at "w"
        have fin:∀ H4:Hp,H4 f=some (.lst ((addC cs f2 z).map V.int))→(∀ c,c≠f→H4 c=H3 c)→∃ (f2:List Int) (cv:Option V),[some (V.ref a),some (.ref l),some (.int st),some (.ref f),some (.int pl),some (.int z)]=[some (.ref a),some (.ref l),some (.int st),some (.ref f),some (.int pl),cv]∧Same H H4∧H4 b=some (.lst ((besL h w x).map V.int))∧H4 f=some (.lst (f2.map V.int))∧BJ h w cs st fs pl ((besL h w x).take (i+1)) f2:=fun H4 q1 q2=>
         ⟨_,_,rfl,fun c o e=>by rw [q2 c (az e hf)]; exact s3 c o e,by rw [q2 b (fun e=>by rw [e] at hb; rw [e1] at hb; cases hb)]; exact eb,q1,J2⟩
        by_cases c1:z∈cs
        · rw [if_pos (by simpa using c1)]
          rw [zd ef]
          by_cases c2:z∈f2
          · simp only [c2,decide_true,Bool.not_true,if_neg Bool.false_ne_true,V.bl.injEq,exists_eq_left']
            refine fin H3 ?_ fun _ _=>rfl
            rw [ef,addC,if_neg (fun q=>q.2 c2)]
          · simp only [c2,decide_false,Bool.not_false,if_true,V.bl.injEq,exists_eq_left']
            walk_at "w"
            refine ⟨dv ef,?_⟩
            rw [kf ef]
            refine ⟨by rw [List.length_map]; exact aE (by omega),fin _ ?_ fun c hc=>aj hc⟩
            rw [ag,addC,if_pos ⟨c1,c2⟩]
            simp
        · rw [if_neg (by simpa using c1)]
          try simp only [if_neg Bool.false_ne_true]
          refine fin H3 ?_ fun _ _=>rfl
          rw [ef,addC,if_neg (fun q=>c1 q.1)]
     · rintro σ H3 ⟨f2,cv2,rfl,s3,eb,ef,J⟩
       rw [List.length_map,List.take_length] at J
       walk_at "w"
       exact ⟨f2,cv2,rfl,s3,ef,J.done B hx⟩
   · rw [if_neg (by simpa using hp)]
     walk_at "w"
     unfold c8
     dsimp only
     rw [e1]
     refine ⟨fs,rfl,by omega,fun rs p hpn pm ps=>?_⟩
     refine k p _ rs (s1.laid hpn) (s1.free hpn) ag (xC pm ps B.nd) fun x=>?_
     rw [pm.mem_iff]
     exact B.done hp x
 · rw [if_pos (by simpa using hs)]
   walk_at "w"
   refine ⟨Nat.zero_le _,fun p hp=>k p _ [] ((Same.refl H).laid hp) hp ag .nil fun x=>⟨(fun q=>nomatch q),fun r=>absurd (RC.st r) hs⟩⟩
theorem joinB_iff {h w:Int} {ms:List Int}:joinB h w ms=true↔(ms=[]∨(ms.Pairwise (· < ·)∧∀ x∈ms,RC h w ms (ms.headD 0) x)):=by
 unfold joinB
 exact @decide_eq_true_iff _ (Classical.propDecidable _)
def bH (K:PySem.W.Frag) (c:RCl RK):Sp:=fun vs H Q E=>∃ k,cz K c k vs H Q E
theorem mx {K:PySem.W.Frag} {c:RCl RK} {vs:List V} {H:Hp} {Q:VK} {E:XK} (h:bH K c vs H Q E):vs.length=2:=by
 obtain ⟨_,_,_,_,_,_,_,_,_,_,_,_,rfl,_⟩:=h; rfl
def cA (K:PySem.W.Frag) (c:RCl RK):TS:=
 (tRet (tOrV (tOp (cEq K) (tVar 1) (tLst tNil)) (tOp (cEq K) (tCall (fZ K) [] E0 (tCons (tFldK c (tVar 0) "floor") (tCons (tVar 1) (tCons (tOp cIx (tVar 1) (tC (.int 0))) tNil)))) (tVar 1))))
theorem my {K:PySem.W.Frag} {c:RCl RK} {vs:List V} {H:Hp} {Q:VK} {E:XK} (h:bH K c vs H Q E):cA K c { nx:=fun _ H'=>Q .non H',rt:=Q } (start ["self","cells"] vs) H:=by
 obtain ⟨k,r,p,C,ws,cs,ms,n,m,h,w,g,rfl,x,ha,F,hC,hn,q⟩:=h
 obtain ⟨h0,h1',w0,w1,m16,g0,g1⟩:=id F
 obtain ⟨dx,W,C',h1,h2,h3⟩:=x.ex
 show cA K c _ [some (.ref r),some (.ref C)] H
 unfold cA
 walk_at "w"
 refine ⟨aK (by show (0:Nat)≤1000; decide),fun l hl=>?_⟩
 have s1:Same H (upd H l (.lst [])):=(Same.refl H).laid hl
 have el:(upd H l (.lst [])) l=some (.lst (([]:List Int).map V.int)):=ag
 generalize upd H l (.lst [])=H1 at*
 refine vT (s1 _ _ hC) el ?_
 walk_at "w"
 cases ms with
 | nil=>
  have e:joinB h w []=true:=joinB_iff.mpr (.inl rfl)
  have:=q _ s1
  rw [e] at this
  rw [decide_eq_true rfl,if_pos rfl]
  exact this
 | cons z zs=>
  rw [decide_eq_false (by simp),if_neg (by decide)]
  refine fldE rfl x.ok (s1 _ _ h1) (v:=.ref p) (by rfl) ?_
  walk_at "w"
  refine ixL (s1 _ _ hC) (v:=V.int z) (fL (j:=0) rfl) ?_
  walk_at "w"
  refine ⟨p,C,h,w,g,z,z::zs,rfl,s1 _ _ ha,by omega,by omega,s1 _ _ hC,hn,fun u H2 rs s2 hu eu rise mem=>?_⟩
  refine vT eu (s2 _ _ (s1 _ _ hC)) ?_
  have e:decide (rs=z::zs)=joinB h w (z::zs):=by
   rw [Bool.eq_iff_iff,decide_eq_true_eq,joinB_iff]
   constructor
   · intro e
     subst e
     exact .inr ⟨rise,fun x hx=>(mem x).mp hx⟩
   · rintro (e | ⟨rise2,all⟩)
     · cases e
     · exact pb rise rise2 fun y=>⟨fun hy=>((mem y).mp hy).mem,fun hy=>(mem y).mpr (all y hy)⟩
  rw [e]
  exact q _ (s1.trans s2)
def eK (K:PySem.W.Frag) (c:RCl RK):Sp:=cy K c .Joined
theorem pO {K:PySem.W.Frag} {c:RCl RK} {vs:List V} {H:Hp} {Q:VK} {E:XK} (h:eK K c vs H Q E):vs.length=2:=by
 obtain ⟨_,_,_,_,_,_,_,_,_,_,_,rfl,_⟩:=h; rfl
def eP (K:PySem.W.Frag) (c:RCl RK):TS:=
 (tRet (aL c c.ok "is_joined" (cz K c) (tVar 0) (tCons (aL c c.ok "marked" (bG K c) (tVar 0) (tCons (tVar 1) tNil)) tNil)))
theorem yc {xs cs:List Int} {m:Int} (hn:cs.length≤63):(mkAt xs cs m).length≤63:=by
 unfold mkAt
 exact Nat.le_trans (List.length_filter_le _ _) hn
theorem pP {K:PySem.W.Frag} {c:RCl RK} {vs:List V} {H:Hp} {Q:VK} {E:XK} (h:eK K c vs H Q E):eP K c { nx:=fun _ H'=>Q .non H',rt:=Q } (start ["self","filling"] vs) H:=by
 obtain ⟨r,p,f,ws,cs,xs,n,m,h,w,g,rfl,x,ha,F,hf,hC,hx,q⟩:=h
 obtain ⟨dx,W,C,h1,h2,h3⟩:=x.ex
 show eP K c _ [some (.ref r),some (.ref f)] H
 unfold eP
 walk_at "w"
 refine methE rfl x.ok h1 (by rfl) ?_
 walk_at "w"
 refine methE rfl x.ok h1 (by rfl) ?_
 walk_at "w"
 refine ⟨r,p,f,ws,cs,xs,n,m,rfl,x,hf,hC,fun l H1 s1 hl el=>?_⟩
 exact ⟨r,p,l,ws,cs,_,n,m,h,w,g,rfl,x.same s1,s1 _ _ ha,F,el,yc hC.1,fun H2 s2=>q _ (s1.trans s2)⟩
def bO (K:PySem.W.Frag) (c:RCl RK):Sp:=cV K c .Ring
theorem kX {K:PySem.W.Frag} {c:RCl RK} {vs:List V} {H:Hp} {Q:VK} {E:XK} (h:bO K c vs H Q E):vs.length=3:=by
 obtain ⟨_,_,_,_,_,_,_,_,_,_,_,_,rfl,_⟩:=h; rfl
def bP (K:PySem.W.Frag) (c:RCl RK):TS:=
 (tRet (tOp (cEq K) (tCB kLen (tCons (tComp [none,none,some 1] (iList K (tCall (dq K) [] E0 (tCons (tFldK c (tVar 0) "floor") (tCons (tVar 2) tNil)))) (gName 1) (tTest (tOp (cIn K false) (tVar 1) (tVar 2))) (tVar 1)) tNil)) (tC (.int 2))))
theorem zS (h w c:Int):(besL h w c).length≤4:=by
 unfold besL
 repeat rw [List.length_append]
 split <;> split <;> split <;> split <;> simp
theorem kY {K:PySem.W.Frag} {c:RCl RK} {vs:List V} {H:Hp} {Q:VK} {E:XK} (h:bO K c vs H Q E):bP K c { nx:=fun _ H'=>Q .non H',rt:=Q } (start ["self","cells","cell"] vs) H:=by
 obtain ⟨r,p,C,ws,cs,ms,n,m,h,w,g,z,rfl,x,ha,F,hC,hn,q⟩:=h
 obtain ⟨h0,h1',w0,w1,m16,g0,g1⟩:=id F
 obtain ⟨dx,W,C',h1,h2,h3⟩:=x.ex
 show bP K c _ [some (.ref r),some (.ref C),some (.int z)] H
 unfold bP
 walk_at "w"
 refine fldE rfl x.ok h1 (v:=.ref p) (by rfl) ?_
 walk_at "w"
 refine ⟨p,h,w,g,z,rfl,ha,by omega,by omega,fun b H2 s2 hb e2=>?_⟩
 have bl:=zS h w z
 refine ⟨b,rfl,⟨_,SqL.of e2⟩,?_⟩
 refine dz (xs:=besL h w z) (fun y=>decide (y∈ms)) (fun y=>y) (by omega) (SqL.of e2) ?_ ?_ ?_
 · intro y H3 R hy s3 k3
   show tTest _ [none,some (.int y),some (.ref C)] H3 R
   walk_at "w"
   rw [qo (s3 _ _ (s2 _ _ hC))]
   exact ⟨_,rfl,k3 _ (Same.refl _)⟩
 · intro y H3 Q3 hy hb s3 k3
   exact ⟨_,rfl,k3 _ (Same.refl _)⟩
 · intro l H3 hl s3 el
   rw [List.map_id'] at el
   walk_at "w"
   rw [cO el,List.length_map]
   walk_at "w"
   have:=q _ (s2.trans s3)
   unfold twoB at this
   have e:decide ((((besL h w z).filter fun y=>decide (y∈ms)).length:Int)=2)=decide (((besL h w z).filter fun y=>decide (y∈ms)).length=2):=by
    rw [Bool.eq_iff_iff,decide_eq_true_eq,decide_eq_true_eq]
    omega
   rw [e]
   exact this
def gA (K:PySem.W.Frag) (c:RCl RK):Sp:=cy K c .Ring
theorem rP {K:PySem.W.Frag} {c:RCl RK} {vs:List V} {H:Hp} {Q:VK} {E:XK} (h:gA K c vs H Q E):vs.length=2:=by
 obtain ⟨_,_,_,_,_,_,_,_,_,_,_,rfl,_⟩:=h; rfl
def gB (K:PySem.W.Frag) (c:RCl RK):TS:=
 (tSeq (tAsg (aL c c.ok "marked" (bG K c) (tVar 0) (tCons (tVar 1) tNil)) (gName 2))
  (tRet (tAndV (aL c c.ok "is_joined" (cz K c) (tVar 0) (tCons (tVar 2) tNil)) (tCB kAll (tCons (tComp [none,none,some 2,some 0] (iList K (tVar 2)) (gName 1) tTrue (aL c c.ok "has_two_beside" (cV K c) (tVar 3) (tCons (tVar 2) (tCons (tVar 1) tNil)))) tNil)))))
theorem rQ {K:PySem.W.Frag} {c:RCl RK} {vs:List V} {H:Hp} {Q:VK} {E:XK} (h:gA K c vs H Q E):gB K c { nx:=fun _ H'=>Q .non H',rt:=Q } (start ["self","filling","cells"] vs) H:=by
 obtain ⟨r,p,f,ws,cs,xs,n,m,h,w,g,rfl,x,ha,F,hf,hC,hx,q⟩:=h
 obtain ⟨dx,W,C,h1,h2,h3⟩:=x.ex
 show gB K c _ [some (.ref r),some (.ref f),none] H
 unfold gB
 walk_at "w"
 refine methE rfl x.ok h1 (by rfl) ?_
 walk_at "w"
 refine ⟨r,p,f,ws,cs,xs,n,m,rfl,x,hf,hC,fun l H1 s1 hl el=>?_⟩
 have hml:=yc (xs:=xs) (m:=m) hC.1
 have q1:∀ H',Same H H'→Q (.bl (joinB h w (mkAt xs cs m)&&(mkAt xs cs m).all (twoB h w (mkAt xs cs m)))) H':=q
 generalize mkAt xs cs m=ms at*
 walk_at "w"
 refine methE rfl x.ok (s1 _ _ h1) (by rfl) ?_
 walk_at "w"
 refine ⟨r,p,l,ws,cs,ms,n,m,h,w,g,rfl,x.same s1,s1 _ _ ha,F,el,hml,fun H2 s2=>?_⟩
 have s12:=s1.trans s2
 walk_at "w"
 cases hj:joinB h w ms with
 | false=>
  rw [hj] at q1
  first | exact iteF (q1 _ s12) | exact q1 _ s12
 | true=>
  rw [hj] at q1
  refine iteT ?_
  refine ⟨⟨_,SqL.of (s2 _ _ el)⟩,?_⟩
  refine b9 (xs:=ms.map V.int) (fun _=>true) (fun i=>.bl (twoB h w ms (ms.getD i 0))) (by rw [List.length_map]; omega) (SqL.of (s2 _ _ el)) ?_ ?_ ?_
  · intro i y H3 R hy s3 k3
    exact k3 _ (Same.refl _)
  · intro i y H3 Q3 hy hb s3 k3
    rw [List.getElem?_map] at hy
    cases e:ms[i]? with
    | none=>rw [e] at hy; cases hy
    | some z=>
     rw [e] at hy
     cases hy
     have s13:=s12.trans s3
     have eg:ms.getD i 0=z:=by rw [List.getD,e]; rfl
     show aL _ _ _ _ _ _ [none,some (.int z),some (.ref l),some (.ref r)] H3 Q3
     refine methE rfl x.ok (s13 _ _ h1) (by rfl) ?_
     walk_at "w"
     refine ⟨r,p,l,ws,cs,ms,n,m,h,w,g,z,rfl,x.same s13,s13 _ _ ha,F,s3 _ _ (s2 _ _ el),hml,fun H4 s4=>?_⟩
     have:=k3 H4 s4
     rw [eg] at this
     exact this
  · intro l2 H3 hl2 s3 el2
    rw [bf,List.length_map] at el2
    refine kG (bs:=(List.range ms.length).map fun i=>twoB h w ms (ms.getD i 0)) (by rw [el2,List.map_map]; rfl) ?_
    have e:((List.range ms.length).map fun i=>twoB h w ms (ms.getD i 0)).all id=ms.all (twoB h w ms):=by
     have em:(List.range ms.length).map (fun i=>ms.getD i 0)=ms:=by
      refine List.ext_getElem (by simp) fun i h1 h2=>?_
      simp at h1
      simp [List.getD,List.getElem?_eq_getElem h1]
     have e2:(List.range ms.length).map (fun i=>twoB h w ms (ms.getD i 0))=ms.map (twoB h w ms):=by
      rw [← em,List.map_map,em]
      rfl
     rw [e2,List.all_map]
     rfl
    rw [e]
    exact q1 _ (s12.trans s3)
theorem yT {α:Type} (F:Int→α) (ss:List Int):(List.range ss.length).map (fun i=>F (ss.getD i 0))=ss.map F:=by
 refine List.ext_getElem? fun i=>?_
 rw [List.getElem?_map,List.getElem?_map]
 by_cases h:i < ss.length
 · rw [List.getElem?_range h,List.getElem?_eq_getElem h]
   simp [List.getD,h]
 · rw [List.getElem?_eq_none (by simpa using h),List.getElem?_eq_none (by omega)]; rfl
theorem rf {α:Type} {l:List α} {i:Nat} {x:α} (h:l[i]? =some x):l.take (i+1)=l.take i++[x]:=by
 rw [List.take_succ,h]; rfl
theorem IsLL.app {H:Hp} {l:Addr} {as bs:List Addr} {xss yss:List (List Int)} (x:IsLL H l as xss) (nl:l∉as) (nb:l∉bs) (len:bs.length=yss.length) (at2:∀ (j:Nat) (a:Addr) (ys:List Int),bs[j]? =some a→yss[j]? =some ys→H a=some (.lst (ys.map V.int))):
  IsLL (upd H l (.lst (as.map V.ref++bs.map V.ref))) l (as++bs) (xss++yss):=by
 have hx:=x.len
 refine ⟨by rw [ag,List.map_append],by rw [List.length_append,List.length_append,x.len,len],fun j a ys h1 h2=>?_⟩
 by_cases hj:j < as.length
 · rw [List.getElem?_append_left hj] at h1
   rw [List.getElem?_append_left (by omega)] at h2
   have ne:a≠l:=fun z=>nl (z ▸ List.mem_of_getElem? h1)
   rw [aj ne]
   exact x.at_ j a ys h1 h2
 · rw [List.getElem?_append_right (by omega)] at h1
   rw [List.getElem?_append_right (by omega)] at h2
   have ne:a≠l:=fun z=>nb (z ▸ List.mem_of_getElem? h1)
   rw [aj ne]
   exact at2 _ a ys h1 (by rw [hx]; exact h2)
theorem IsLL.get {H:Hp} {l:Addr} {as:List Addr} {xss:List (List Int)} {i:Nat} {a:Addr} (x:IsLL H l as xss) (h:as[i]? =some a):∃ xs,xss[i]? =some xs∧H a=some (.lst (xs.map V.int)):=by
 have hi:=(List.getElem?_eq_some_iff.mp h).1
 have e:xss[i]? =some (xss[i]'(by have:=x.len; omega)):=List.getElem?_eq_getElem _
 exact ⟨_,e,x.at_ i a _ h e⟩
theorem yd {n:Nat} (h:n≤1100):n < sizeLine:=Nat.lt_of_le_of_lt h (by decide)
theorem ye {p q:Addr} {xs ys:List V} {H:Hp} {Q:VK} (hp:H p=some (.lst xs)) (hq:H q=some (.lst ys)) (hn:xs.length+ys.length≤1100) (h:Q .non (upd H p (.lst (xs++ys)))):nA (.ref p) [.ref q] H Q:=by
 show bnd (unM (H p)) _
 rw [hp]
 show bnd (unM (H q)) _
 rw [hq]
 exact ⟨Nat.le_of_lt (yd hn),h⟩
theorem vB (m:Int):(sgL m).length≤Builtin.Int.intBits m:=by
 unfold sgL
 rw [List.length_map]
 refine Nat.le_trans (List.length_filter_le _ _) ?_
 rw [List.length_range]
 exact Nat.le_refl _
def prodW (ms:List Int):Nat:=ms.foldl (fun p m=>p*(sgL m).length) 1
theorem pQ {α:Type} {xs:List Int} {i:Nat} {x:Int} (f:α→Int→α) (a:α) (h:xs[i]? =some x):(xs.take (i+1)).foldl f a=f ((xs.take i).foldl f a) x:=by
 rw [List.take_succ,h,List.foldl_append]
 rfl
def j7 (K:PySem.W.Frag):Sp:=fun vs H Q _=>∃ (p:Addr) (ms:List Int),vs=[.ref p]∧H p=some (.lst (ms.map V.int))∧(∀ m∈ms,Builtin.Int.intBits m≤900)∧∀ H',Same H H'→Q (.int ((prodW ms:Nat):Int)) H'
theorem zT {K:PySem.W.Frag} {vs:List V} {H:Hp} {Q:VK} {E:XK} (h:j7 K vs H Q E):vs.length=1:=by
 obtain ⟨_,_,rfl,_⟩:=h; rfl
def nF (K:PySem.W.Frag):TS:=
 (tSeq (tAsg (tC (.int 1)) (gName 1))
  (tSeq (tFor (iList K (tVar 0)) (gName 2)
  (tAsg (tOp cMul (tVar 1) (tCB kLen (tCons (tCall (aT K) [] E0 (tCons (tVar 2) tNil)) tNil))) (gName 1)))
  (tRet (tVar 1))))
theorem zU {K:PySem.W.Frag} {vs:List V} {H:Hp} {Q:VK} {E:XK} (h:j7 K vs H Q E):nF K { nx:=fun _ H'=>Q .non H',rt:=Q } (start ["masks","product","mask"] vs) H:=by
 obtain ⟨p,ms,rfl,hp,hb,k⟩:=h
 show nF K _ [some (.ref p),none,none] H
 unfold nF
 walk_at "w"
 refine ⟨⟨_,SqL.of hp⟩,gG (K:=K) (xs:=ms.map V.int) (fun i σ H'=>∃ mv:Option V,σ=[some (.ref p),some (.int ((prodW (ms.take i):Nat):Int)),mv]∧Same H H') ⟨none,rfl,Same.refl H⟩ (fun i σ H' _ ⟨_,_,s⟩=>SqL.of (s _ _ hp)) ?_ ?_⟩
 · rintro i x σ H1 hx ⟨mv,rfl,s1⟩
   obtain ⟨m,hm,rfl⟩:=bz hx
   have hbm:=hb m (List.mem_of_getElem? hm)
   walk_at "w"
   refine ⟨m,rfl,hbm,fun l H2 s2 hl el=>?_⟩
   walk_at "w"
   rw [cO el]
   walk_at "w"
   have h1:=vB m
   rw [List.length_map]
   refine ⟨.inr ⟨by omega,by omega⟩,some (.int m),?_,s1.trans s2⟩
   unfold prodW
   rw [pQ _ _ hm,Int.natCast_mul]
 · rintro σ H1 ⟨mv,rfl,s1⟩
   walk_at "w"
   rw [List.take_of_length_le (by rw [List.length_map]; exact Nat.le_refl _)] at*
   exact k _ s1
def setL (xs:List Int) (z s:Int):List Int:=(List.range xs.length).map fun (i:Nat)=>if (i:Int)=z then s else xs.getD i 0
theorem tX {xs:List Int} {z s:Int}:(setL xs z s).length=xs.length:=by unfold setL; simp
theorem vC {xs:List Int} {z s:Int} (s0:0≤s) (s6:s≤6) (hx:∀ x∈xs,0≤x∧x≤6):∀ x∈setL xs z s,0≤x∧x≤6:=fun x h=>by
 unfold setL at h
 obtain ⟨i,hi,rfl⟩:=List.mem_map.mp h
 have hlt:=List.mem_range.mp hi
 have hb:=hx _ (List.getElem_mem hlt)
 have eg:xs.getD i 0=xs[i]:=by rw [List.getD,List.getElem?_eq_getElem hlt]; rfl
 rw [eg]
 split
 · exact ⟨s0,s6⟩
 · exact hb
def bU (K:PySem.W.Frag):Sp:=fun vs H Q _=>∃ (F:Addr) (xs:List Int) (z s:Int),vs=[.ref F,.int z,.int s]∧H F=some (.lst (xs.map V.int))∧xs.length≤100∧∀ l H',Same H H'→H l=none→H' l=some (.lst ((setL xs z s).map V.int))→Q (.ref l) H'
theorem tY {K:PySem.W.Frag} {vs:List V} {H:Hp} {Q:VK} {E:XK} (h:bU K vs H Q E):vs.length=3:=by
 obtain ⟨_,_,_,_,rfl,_⟩:=h; rfl
def iK (K:PySem.W.Frag):TS:=
 (tRet (tComp [none,none,none,some 1,some 2] (iEnum K (tCons (tVar 0) tNil)) (gTup K 2 (gCons (gName 1) (gCons (gName 2) gNil))) tTrue (tIf (tTest (tOp (cEq K) (tVar 1) (tVar 3))) (tVar 4) (tVar 2))))
theorem tZ {K:PySem.W.Frag} {vs:List V} {H:Hp} {Q:VK} {E:XK} (h:bU K vs H Q E):iK K { nx:=fun _ H'=>Q .non H',rt:=Q } (start ["filling","cell","sign"] vs) H:=by
 obtain ⟨F,xs,z,s,rfl,hF,hl,q⟩:=h
 show iK K _ [some (.ref F),some (.int z),some (.int s)] H
 unfold iK
 walk_at "w"
 refine ⟨F,rfl,⟨_,SqL.of hF⟩,?_⟩
 refine vV (xs:=xs.map V.int) (fun _=>true) (fun i=>.int (if (i:Int)=z then s else xs.getD i 0)) (by rw [List.length_map]; omega) (by decide) (SqL.of hF) ?_ ?_ ?_
 · intro i x H1 R hx s1 k1
   exact k1 _ (Same.refl _)
 · intro i x H1 Q1 hx hb s1 k1
   obtain ⟨y,hy,rfl⟩:=bz hx
   have q1:=k1 _ (Same.refl H1)
   rw [i5 hy] at q1
   show tIf _ _ _ [none,some (.int (i:Int)),some (.int y),some (.int z),some (.int s)] H1 Q1
   unfold tIf
   walk_at "w"
   by_cases h0:(i:Int)=z
   · rw [decide_eq_true h0]
     rw [if_pos h0] at q1
     exact iteT q1
   · rw [decide_eq_false h0]
     rw [if_neg h0] at q1
     exact iteF q1
 · intro l H1 hl1 s1 el
   rw [bf,List.length_map] at el
   refine q l H1 s1 hl1 ?_
   rw [el]
   unfold setL
   rw [List.map_map]
   rfl
def extS (fss:List (List Int)) (z:Int) (ss:List Int):List (List Int):=fss.flatMap fun f=>ss.map fun s=>setL f z s
theorem oG (z:Int) (ss:List Int):∀ fss:List (List Int),(extS fss z ss).length=fss.length*ss.length
 | []=>by simp [extS]
 | f::r=>by
  have ih:=oG z ss r
  unfold extS at ih ⊢
  rw [List.flatMap_cons,List.length_append,ih,List.length_map,List.length_cons,Nat.succ_mul,Nat.add_comm]
theorem yU (fs gs:List (List Int)) (z:Int) (ss:List Int):extS (fs++gs) z ss=extS fs z ss++extS gs z ss:=by
 unfold extS; rw [List.flatMap_append]
theorem yV (f:List Int) (z:Int) (ss:List Int):extS [f] z ss=ss.map fun s=>setL f z s:=by
 unfold extS; simp
theorem mem_extS {f:List Int} {fs:List (List Int)} {z:Int} {ss:List Int}:f∈extS fs z ss↔∃ a∈fs,∃ s∈ss,f=setL a z s:=by
 unfold extS
 rw [List.mem_flatMap]
 constructor
 · rintro ⟨a,ha,h⟩
   obtain ⟨s,hs,rfl⟩:=List.mem_map.mp h
   exact ⟨a,ha,s,hs,rfl⟩
 · rintro ⟨a,ha,s,hs,rfl⟩
   exact ⟨a,ha,List.mem_map.mpr ⟨s,hs,rfl⟩⟩
theorem yf {H0 H1 H2:Hp} {l m:Addr} {as bs:List Addr} {xss yss:List (List Int)} (x:IsLL H1 l as xss) (nl:l∉as) (s0:Same H0 H1) (fr:∀ b∈as,H0 b=none) (s1:Same H1 H2) (nw:NewAt H1 H2 m bs (yss.map fun ys=>.lst (ys.map V.int))):
  IsLL (upd H2 l (.lst (as.map V.ref++bs.map V.ref))) l (as++bs) (xss++yss)∧l∉as++bs∧(∀ b∈as++bs,H0 b=none):=by
 have nb:l∉bs:=fun h=>by have:=nw.fr l h; rw [x.top] at this; cases this
 refine ⟨?_,?_,?_⟩
 · refine (x.same s1).app nl nb (by rw [nw.len,List.length_map]) fun j a ys h1 h2=>?_
   exact nw.at_ j a _ h1 (by rw [List.getElem?_map,h2]; rfl)
 · intro h
   rcases List.mem_append.mp h with h | h
   · exact nl h
   · exact nb h
 · intro b h
   rcases List.mem_append.mp h with h | h
   · exact fr b h
   · exact s0.free (nw.fr b h)
def bE (K:PySem.W.Frag):Sp:=fun vs H Q _=>∃ (F S:Addr) (as:List Addr) (fss:List (List Int)) (z:Int) (ss:List Int),vs=[.ref F,.int z,.ref S]∧IsLL H F as fss∧H S=some (.lst (ss.map V.int))∧fss.length*ss.length≤1100∧ss.length≤100∧(∀ f∈fss,f.length≤16)∧
 ∀ (l:Addr) (bs:List Addr) (H':Hp),Same H H'→H l=none→IsLL H' l bs (extS fss z ss)→Q (.ref l) H'
theorem nO {K:PySem.W.Frag} {vs:List V} {H:Hp} {Q:VK} {E:XK} (h:bE K vs H Q E):vs.length=3:=by
 obtain ⟨_,_,_,_,_,_,rfl,_⟩:=h; rfl
def cZ (K:PySem.W.Frag):TS:=
 (tSeq (tAsg (tLst tNil) (gName 3))
  (tSeq (tFor (iList K (tVar 0)) (gName 4)
  (tDrop (tBM K "list" nA (tVar 3) (tCons (tComp [none,none,some 1,some 4] (iList K (tVar 2)) (gName 1) tTrue (tCall (bU K) [] E0 (tCons (tVar 3) (tCons (tVar 2) (tCons (tVar 1) tNil))))) tNil))))
  (tRet (tVar 3))))
theorem nP {K:PySem.W.Frag} {vs:List V} {H:Hp} {Q:VK} {E:XK} (h:bE K vs H Q E):cZ K { nx:=fun _ H'=>Q .non H',rt:=Q } (start ["fillings","cell","signs","found","filling"] vs) H:=by
 obtain ⟨F,S,as,fss,z,ss,rfl,x,hS,hn,hs,hf,q⟩:=h
 show cZ K _ [some (.ref F),some (.int z),some (.ref S),none,none] H
 unfold cZ
 walk_at "w"
 refine ⟨aK (by show (0:Nat)≤1000; decide),fun l hl=>?_⟩
 have s1:Same H (upd H l (.lst [])):=(Same.refl H).laid hl
 have el:(upd H l (.lst [])) l=some (.lst []):=ag
 generalize upd H l (.lst [])=H1 at*
 refine ⟨⟨_,SqL.of (s1 _ _ x.top)⟩,?_⟩
 refine gG (K:=K) (xs:=as.map V.ref) (fun i σ H'=>∃ (v:Option V) (bs:List Addr),σ=[some (.ref F),some (.int z),some (.ref S),some (.ref l),v]∧Same H H'∧IsLL H' l bs (extS (fss.take i) z ss)∧l∉bs∧∀ b∈bs,H b=none)
  ⟨none,[],rfl,s1,⟨el,rfl,fun j a xs h1=>by simp at h1⟩,by simp,fun b hb=>nomatch hb⟩ (fun i σ H' _ ⟨_,_,_,s,_⟩=>s.seq (SqL.of x.top)) ?_ ?_
 · rintro i y σ H2 hy ⟨v,bs,rfl,s2,x2,nl,fr⟩
   obtain ⟨f,hfa,rfl⟩:=kU hy
   obtain ⟨xs,ex,ef⟩:=x.get hfa
   have hxl:=hf xs (List.mem_of_getElem? ex)
   walk_at "w"
   refine ⟨dv x2.top,⟨_,SqL.of (s2 _ _ hS)⟩,?_⟩
   refine vW (xs:=ss.map V.int) (fun _=>true) (fun i=>.lst ((setL xs z (ss.getD i 0)).map V.int)) (by rw [List.length_map]; omega) (SqL.of (s2 _ _ hS)) ?_ ?_ ?_
   · intro i x H R hx s1 k1
     exact k1 _ (Same.refl _)
   · intro i x H3 Q3 hi hb s3 k3
     obtain ⟨t,ht,rfl⟩:=bz hi
     rw [i5 ht] at k3
     show tCall _ _ _ _ [none,some (.int t),some (.int z),some (.ref f)] H3 Q3
     walk_at "w"
     exact ⟨f,xs,z,t,rfl,(s2.trans s3) _ _ ef,by omega,fun l H' s' hl el=>k3 l H' s' hl el⟩
   · intro m cs H3 hm s3 em nw
     rw [bf,List.length_map,yT (fun s=>HO.lst ((setL xs z s).map V.int))] at nw
     have nw2:NewAt H2 H3 m cs ((extS [xs] z ss).map fun ys=>.lst (ys.map V.int)):=by
      rw [yV,List.map_map]
      exact nw
     have hb:bs.length+cs.length≤1100:=by
      have l1:=x2.len
      rw [oG,List.length_take] at l1
      have l2:=nw.len
      rw [List.length_map] at l2
      have hi:=(List.getElem?_eq_some_iff.mp ex).1
      have e1:min i fss.length=i:=by omega
      rw [e1] at l1
      have:=Nat.mul_le_mul_right ss.length (show i+1≤fss.length by omega)
      rw [Nat.succ_mul] at this
      omega
     refine ye (s3 _ _ x2.top) em (by rw [List.length_map,List.length_map]; exact hb) ?_
     obtain ⟨z1,z2,z3⟩:=yf x2 nl s2 fr s3 nw2
     refine ⟨_,bs++cs,rfl,(s2.trans s3).own hl,?_,z2,z3⟩
     rw [rf ex,yU]
     exact z1
 · rintro σ H2 ⟨v,bs,rfl,s2,x2,nl,fr⟩
   walk_at "w"
   have e:fss.take (as.map V.ref).length=fss:=List.take_of_length_le (by rw [List.length_map,x.len]; exact Nat.le_refl _)
   rw [e] at x2
   exact q l bs H2 s2 hl x2
def wfold (masks:List Int) (rest:List Int) (fs:List (List Int)):List (List Int):=rest.foldl (fun fs o=>extS fs o (sgL (masks.getD o.toNat 0))) fs
def wfill (masks rest:List Int) (z s:Int):List (List Int):=wfold masks rest [setL (List.replicate masks.length 0) z s]
noncomputable def waysB (k:RK) (h w:Int) (cs:List Int) (n m:Int) (masks:List Int) (z s:Int) (ms:List Int):Bool:=
 decide (ms=[])&&(decide (prodW (sgAt masks (othL cs z))≤32)&&(decide (0∈sgAt masks (othL cs z))||!((wfill masks (othL cs z) z s).any fun f=>hoB k h w cs n m f)))
theorem rg (masks:List Int):∀ (rest:List Int) (fs:List (List Int)),(wfold masks rest fs).length=(sgAt masks rest).foldl (fun p m=>p*(sgL m).length) fs.length
 | [],_=>rfl
 | o::r,fs=>by
  unfold wfold sgAt
  rw [List.foldl_cons,List.map_cons,List.foldl_cons]
  have:=rg masks r (extS fs o (sgL (masks.getD o.toNat 0)))
  unfold wfold sgAt at this
  rw [this,oG]
theorem t4:∀ (ms:List Int) (n:Nat),(∀ m∈ms,1≤(sgL m).length)→n≤ms.foldl (fun p m=>p*(sgL m).length) n
 | [],_,_=>Nat.le_refl _
 | m::r,n,h=>by
  rw [List.foldl_cons]
  exact Nat.le_trans (Nat.le_mul_of_pos_right n (h m List.mem_cons_self)) (t4 r _ fun x hx=>h x (List.mem_cons_of_mem _ hx))
theorem wx {ms:List Int} (i:Nat) (h:∀ m∈ms,1≤(sgL m).length):prodW (ms.take i)≤prodW ms:=by
 have e:prodW ms=(ms.drop i).foldl (fun p m=>p*(sgL m).length) (prodW (ms.take i)):=by
  unfold prodW
  rw [← List.foldl_append,List.take_append_drop]
 rw [e]
 exact t4 _ _ fun x hx=>h x (List.mem_of_mem_drop hx)
theorem lV {n:Nat} {masks:List Int} (hm:∀ m∈masks,0≤m∧m < 64):∀ (rest:List Int) (fs:List (List Int)),(∀ f∈fs,f.length=n∧∀ x∈f,0≤x∧x≤6)→∀ f∈wfold masks rest fs,f.length=n∧∀ x∈f,0≤x∧x≤6
 | [],_,h,f,hf=>h f hf
 | o::r,fs,h,f,hf=>by
  refine lV hm r (extS fs o (sgL (masks.getD o.toNat 0))) (fun g hg=>?_) f hf
  obtain ⟨a,ha,s,hs,rfl⟩:=mem_extS.mp hg
  have h1:=h a ha
  have hs6:1≤s∧s≤6:=by
   by_cases hlt:o.toNat < masks.length
   · have e:masks.getD o.toNat 0=masks[o.toNat]:=by rw [List.getD,List.getElem?_eq_getElem hlt]; rfl
     rw [e] at hs
     have hb:=hm _ (List.getElem_mem hlt)
     rw [(fF hb.1 hb.2).2] at hs
     obtain ⟨j,hj,rfl⟩:=List.mem_map.mp hs
     have:=(List.mem_filter.mp hj).1
     simp at this
     omega
   · have e:masks.getD o.toNat 0=0:=by rw [List.getD,List.getElem?_eq_none (by omega)]; rfl
     rw [e,x9] at hs
     cases hs
  exact ⟨by rw [tX]; exact h1.1,vC (by omega) hs6.2 h1.2⟩
def b2 (K:PySem.W.Frag) (c:RCl RK):Sp:=fun vs H Q _=>∃ (k:RK) (r p A M:Addr) (ws:List (List Nat)) (cs masks ms:List Int) (n m z s h w g:Int),vs=[.ref r,.ref A,.int z,.int s,.ref M]∧IsRule H c k r p ws cs n m∧IsFl H p h w g∧FlOk h w g∧bj cs masks.length∧masks.length≤16∧(∀ m∈masks,0≤m∧m < 64)∧1≤s∧s≤6∧H A=some (.lst (masks.map V.int))∧H M=some (.lst (ms.map V.int))∧∀ H',Same H H'→Q (.bl (waysB k h w cs n m masks z s ms)) H'
theorem pR {K:PySem.W.Frag} {c:RCl RK} {vs:List V} {H:Hp} {Q:VK} {E:XK} (h:b2 K c vs H Q E):vs.length=5:=by
 obtain ⟨_,_,_,_,_,_,_,_,_,_,_,_,_,_,_,_,rfl,_⟩:=h; rfl
def fH (K:PySem.W.Frag) (c:RCl RK):TS:=
 (tSeq (tFor (iList K (tVar 7)) (gName 9)
  (tIfS (tB (aL c c.ok "holds" (cy K c) (tVar 0) (tCons (tVar 9) tNil))) (tRet (tC (.bl false))) tNext))
  (tRet (tC (.bl true))))
def fI (K:PySem.W.Frag) (c:RCl RK):TS:=
 (tSeq (tAsg (tLst (tCons (tCall (bU K) [] E0 (tCons (tOp cRepL (tLst (tCons (tC (.int 0)) tNil)) (tCB kLen (tCons (tVar 1) tNil))) (tCons (tVar 2) (tCons (tVar 3) tNil)))) tNil)) (gName 7))
  (tSeq (tFor (iList K (tVar 5)) (gName 8)
  (tAsg (tCall (bE K) [] E0 (tCons (tVar 7) (tCons (tVar 8) (tCons (tCall (aT K) [] E0 (tCons (tOp cIx (tVar 1) (tVar 8)) tNil)) tNil)))) (gName 7)))
  (fH K c)))
def eQ (K:PySem.W.Frag) (c:RCl RK):TS:=
 (tSeq (tAsg (tCall (br K c) [] E0 (tCons (tVar 0) (tCons (tVar 2) tNil))) (gName 5))
  (tSeq (tAsg (tCall (bB K) [] E0 (tCons (tVar 1) (tCons (tVar 5) tNil))) (gName 6))
  (tSeq (tIfS (tOr (tTest (tOp (cNe K) (tVar 4) (tLst tNil))) (tTest (tOp (cCmp fun i j=>decide (j < i)) (tCall (j7 K) [] E0 (tCons (tVar 6) tNil)) (tC (.int 32))))) (tRet (tC (.bl false))) tNext)
  (tSeq (tIfS (tB (tCall (cR K) [] E0 (tCons (tVar 6) tNil))) (tRet (tC (.bl true))) tNext)
  (fI K c)))))
structure Wys (H:Hp) (c:RCl RK) (k:RK) (r p A:Addr) (ws:List (List Nat)) (cs masks:List Int) (n m h w g:Int):Prop where
 R:IsRule H c k r p ws cs n m
 fl:IsFl H p h w g
 F:FlOk h w g
 ci:bj cs masks.length
 ml:masks.length≤16
 mo:∀ m∈masks,0≤m∧m < 64
 hA:H A=some (.lst (masks.map V.int))
theorem Wys.same {H H':Hp} {c:RCl RK} {k:RK} {r p A:Addr} {ws:List (List Nat)} {cs masks:List Int} {n m h w g:Int} (x:Wys H c k r p A ws cs masks n m h w g) (s:Same H H'):Wys H' c k r p A ws cs masks n m h w g:=⟨x.R.same s,s _ _ x.fl,x.F,x.ci,x.ml,x.mo,s _ _ x.hA⟩
theorem wy {K:PySem.W.Frag} {c:RCl RK} {H:Hp} {Q:VK} {k:RK} {r p A F:Addr} {ws:List (List Nat)} {cs masks:List Int} {n m h w g:Int} {v2 v3 v4 v5 v6 v8:Option V} {bs:List Addr} {fss:List (List Int)} (X:Wys H c k r p A ws cs masks n m h w g) (x:IsLL H F bs fss) (hf:∀ f∈fss,f.length=masks.length∧∀ x∈f,0≤x∧x≤6)
  (q:∀ H',Same H H'→Q (.bl (!(fss.any fun f=>hoB k h w cs n m f))) H'):
  fH K c { nx:=fun _ H'=>Q .non H',rt:=Q } [some (.ref r),some (.ref A),v2,v3,v4,v5,v6,some (.ref F),v8,none] H:=by
 obtain ⟨dx,W,C,h1,h2,h3⟩:=X.R.ex
 have hxl:=x.len
 unfold fH
 walk_at "w"
 refine ⟨⟨_,SqL.of x.top⟩,?_⟩
 refine gG (K:=K) (xs:=bs.map V.ref) (fun i σ H'=>∃ v9:Option V,σ=[some (.ref r),some (.ref A),v2,v3,v4,v5,v6,some (.ref F),v8,v9]∧Same H H'∧((fss.take i).any fun f=>hoB k h w cs n m f)=false) ⟨none,rfl,Same.refl _,rfl⟩ (fun i σ H' _ ⟨_,_,s,_⟩=>s.seq (SqL.of x.top)) ?_ ?_
 · rintro i y σ H1 hy ⟨v9,rfl,s1,hno⟩
   obtain ⟨b,hb,rfl⟩:=kU hy
   obtain ⟨f,ef,eb⟩:=x.get hb
   have hfm:=List.mem_of_getElem? ef
   obtain ⟨hfl,hfx⟩:=hf f hfm
   have X1:=X.same s1
   walk_at "w"
   rw [aH]
   walk_at "w"
   refine methE (k:=k) rfl X.R.ok (s1 _ _ h1) (by rfl) ?_
   walk_at "w"
   refine ⟨r,p,b,ws,cs,f,n,m,h,w,g,rfl,X1.R,X1.fl,X1.F,s1 _ _ eb,by rw [hfl]; exact X1.ci,fun y hy=>by have:=hfx y hy; omega,fun H2 s2=>?_⟩
   refine ⟨_,rfl,?_⟩
   cases hh:hoB k h w cs n m f with
   | true=>
    refine iteT ?_
    have e:(fss.any fun f=>hoB k h w cs n m f)=true:=List.any_eq_true.mpr ⟨f,hfm,hh⟩
    have q1:=q _ (s1.trans s2)
    rw [e] at q1
    exact q1
   | false=>
    refine iteF ⟨_,rfl,s1.trans s2,?_⟩
    rw [rf ef,List.any_append,hno,Bool.false_or]
    simpa using hh
 · rintro σ H1 ⟨v9,rfl,s1,hno⟩
   rw [List.take_of_length_le (by rw [List.length_map,hxl]; exact Nat.le_refl _)] at hno
   walk_at "w"
   rw [hno] at q
   exact q _ s1
theorem wz {K:PySem.W.Frag} {c:RCl RK} {H:Hp} {Q:VK} {k:RK} {r p A R:Addr} {ws:List (List Nat)} {cs masks:List Int} {n m z s h w g:Int} {v4 v6:Option V} (X:Wys H c k r p A ws cs masks n m h w g) (hR:H R=some (.lst ((othL cs z).map V.int))) (s0:1≤s) (s6:s≤6) (hw:prodW (sgAt masks (othL cs z))≤32) (h0:0∉sgAt masks (othL cs z))
  (q:∀ H',Same H H'→Q (.bl (!((wfill masks (othL cs z) z s).any fun f=>hoB k h w cs n m f))) H'):
  fI K c { nx:=fun _ H'=>Q .non H',rt:=Q } [some (.ref r),some (.ref A),some (.int z),some (.int s),v4,some (.ref R),v6,none,none,none] H:=by
 have hml:=X.ml
 unfold fI
 walk_at "w"
 refine ⟨aK (by show (1:Nat)≤1000; decide),fun Z hZ=>?_⟩
 have s1:Same H (upd H Z (.lst [V.int 0])):=(Same.refl H).laid hZ
 have eZ:(upd H Z (.lst [V.int 0])) Z=some (.lst [V.int 0]):=ag
 generalize upd H Z (.lst [V.int 0])=H1 at*
 rw [cO (s1 _ _ X.hA),List.length_map]
 refine Aw eZ (by omega) (by omega) (by show (1:Nat)≤1; decide) fun N hN=>?_
 have s2:Same H1 (upd H1 N (.lst (List.replicate ((masks.length:Nat):Int).toNat [V.int 0]).flatten)):=(Same.refl H1).laid hN
 have eN:(upd H1 N (.lst (List.replicate ((masks.length:Nat):Int).toNat [V.int 0]).flatten)) N=some (.lst ((List.replicate masks.length (0:Int)).map V.int)):=by
  rw [ag,List.map_replicate]
  simp
 generalize upd H1 N (.lst (List.replicate ((masks.length:Nat):Int).toNat [V.int 0]).flatten)=H2 at*
 have s12:=s1.trans s2
 refine ⟨N,_,z,s,rfl,eN,by simp; omega,fun b H3 s3 hb eb=>?_⟩
 have s13:=s12.trans s3
 walk_at "w"
 refine ⟨aK (by show (1:Nat)≤1000; decide),fun F hF=>?_⟩
 have s4:Same H3 (upd H3 F (.lst [V.ref b])):=(Same.refl H3).laid hF
 have xF:IsLL (upd H3 F (.lst [V.ref b])) F [b] [setL (List.replicate masks.length 0) z s]:=by
  refine ⟨ag,rfl,fun j a xs e1 e2=>?_⟩
  have hj:j=0:=by have:=(List.getElem?_eq_some_iff.mp e1).1; simp at this; omega
  subst hj
  cases e1
  cases e2
  exact s4 _ _ eb
 generalize upd H3 F (.lst [V.ref b])=H4 at*
 have s14:=s13.trans s4
 have base:∀ f∈([setL (List.replicate masks.length 0) z s]:List (List Int)),f.length=masks.length∧∀ x∈f,0≤x∧x≤6:=fun f hf=>by
  rw [List.mem_singleton.mp hf]
  exact ⟨by rw [tX]; simp,vC (by omega) s6 fun x hx=>by rw [(List.mem_replicate.mp hx).2]; omega⟩
 have pos:∀ mm∈sgAt masks (othL cs z),1≤(sgL mm).length:=fun mm hm=>by
  have hne:mm≠0:=fun e=>h0 (e ▸ hm)
  unfold sgAt at hm
  obtain ⟨o,ho,rfl⟩:=List.mem_map.mp hm
  have hoc:o∈cs:=(List.mem_filter.mp ho).1
  have hi:=X.ci.2 o hoc
  have hlt:o.toNat < masks.length:=by omega
  have e:masks.getD o.toNat 0=masks[o.toNat]:=by rw [List.getD,List.getElem?_eq_getElem hlt]; rfl
  rw [e] at hne ⊢
  have hb:=X.mo _ (List.getElem_mem hlt)
  exact (wq hb.1 hb.2 hne).1.1
 refine ⟨⟨_,SqL.of (s14 _ _ hR)⟩,?_⟩
 refine gG (K:=K) (xs:=(othL cs z).map V.int) (fun i σ H'=>∃ (F:Addr) (bs:List Addr) (v8:Option V),σ=[some (.ref r),some (.ref A),some (.int z),some (.int s),v4,some (.ref R),v6,some (.ref F),v8,none]∧Same H H'∧IsLL H' F bs (wfold masks ((othL cs z).take i) [setL (List.replicate masks.length 0) z s])) ⟨F,[b],none,rfl,s14,xF⟩ (fun i σ H' _ ⟨_,_,_,_,s,_⟩=>s.seq (SqL.of hR)) ?_ ?_
 · rintro i y σ H5 hy ⟨F,bs,v8,rfl,s5,x5⟩
   obtain ⟨o,ho,rfl⟩:=bz hy
   have hom:=List.mem_of_getElem? ho
   have hoc:o∈cs:=(List.mem_filter.mp hom).1
   have hi:=X.ci.2 o hoc
   have hlt:o.toNat < masks.length:=by omega
   have e:masks.getD o.toNat 0=masks[o.toNat]:=by rw [List.getD,List.getElem?_eq_getElem hlt]; rfl
   have hb:=X.mo _ (List.getElem_mem hlt)
   have sb:=fF hb.1 hb.2
   walk_at "w"
   refine ixI (s5 _ _ X.hA) (by omega) (by omega) ?_
   walk_at "w"
   rw [e]
   refine ⟨_,rfl,by omega,fun S H6 s6' hS eS=>?_⟩
   walk_at "w"
   have hsl:(sgL masks[o.toNat]).length≤6:=Nat.le_trans (vB _) sb.1
   refine ⟨F,S,bs,_,o,_,rfl,x5.same s6',eS,?_,by omega,fun f hf=>by have:=(lV X.mo _ _ base f hf).1; omega,fun l cs2 H7 s7 hl x7=>?_⟩
   · rw [rg]
     have h1:=wx i pos
     have e2:(sgAt masks ((othL cs z).take i)).foldl (fun p m=>p*(sgL m).length) ([setL (List.replicate masks.length 0) z s]:List (List Int)).length=prodW ((sgAt masks (othL cs z)).take i):=by
      unfold prodW sgAt
      rw [List.map_take]; rfl
     rw [e2]
     have h3:prodW ((sgAt masks (othL cs z)).take i)*(sgL masks[o.toNat]).length≤32*6:=Nat.mul_le_mul (by omega) hsl
     omega
   · refine ⟨l,cs2,_,rfl,(s5.trans s6').trans s7,?_⟩
     have e3:wfold masks ((othL cs z).take (i+1)) [setL (List.replicate masks.length 0) z s]=extS (wfold masks ((othL cs z).take i) [setL (List.replicate masks.length 0) z s]) o (sgL masks[o.toNat]):=by
      unfold wfold
      rw [pQ _ _ ho,e]
     rw [e3]
     exact x7
 · rintro σ H5 ⟨F,bs,v8,rfl,s5,x5⟩
   rw [List.take_of_length_le (by rw [List.length_map]; exact Nat.le_refl _)] at x5
   exact wy (X.same s5) x5 (lV X.mo _ _ base) fun H' s'=>q H' (s5.trans s')
theorem pS {K:PySem.W.Frag} {c:RCl RK} {vs:List V} {H:Hp} {Q:VK} {E:XK} (h:b2 K c vs H Q E):eQ K c { nx:=fun _ H'=>Q .non H',rt:=Q } (start ["rule","masks","cell","sign","more","rest","some","fillings","other","filling"] vs) H:=by
 obtain ⟨k,r,p,A,M,ws,cs,masks,ms,n,m,z,s,h,w,g,rfl,hR,hp,F,ci,ml,mk,s0,s6,hA,hM,q⟩:=h
 have X:Wys H c k r p A ws cs masks n m h w g:=⟨hR,hp,F,ci,ml,mk,hA⟩
 have hcl:cs.length≤63:=by have:=ci.1; omega
 show eQ K c _ [some (.ref r),some (.ref A),some (.int z),some (.int s),some (.ref M),none,none,none,none,none] H
 unfold eQ
 walk_at "w"
 refine ⟨k,r,p,ws,cs,n,m,z,rfl,hR,hcl,fun R H1 s1 hR1 eR=>?_⟩
 have eR2:H1 R=some (.lst ((othL cs z).map V.int)):=eR
 walk_at "w"
 refine ⟨A,R,masks,othL cs z,rfl,s1 _ _ hA,eR2,⟨Nat.le_trans (List.length_filter_le _ _) ci.1,fun x hx=>ci.2 x (List.mem_filter.mp hx).1⟩,fun S H2 s2 hS eS=>?_⟩
 have s12:=s1.trans s2
 dsimp only
 rw [aH]
 walk_at "w"
 refine ⟨aK (by show (0:Nat)≤1000; decide),fun e he=>?_⟩
 have s3:Same H2 (upd H2 e (.lst [])):=(Same.refl H2).laid he
 have ee:(upd H2 e (.lst [])) e=some (.lst (([]:List Int).map V.int)):=ag
 generalize upd H2 e (.lst [])=H3 at*
 have s13:=s12.trans s3
 refine su (s13 _ _ hM) ee ?_
 refine ⟨_,rfl,?_⟩
 unfold waysB at q
 by_cases hm:ms=[]
 · rw [decide_eq_true hm] at q ⊢
   rw [Bool.true_and] at q
   refine iteF ?_
   walk_at "w"
   refine ⟨S,_,rfl,s3 _ _ eS,fun x hx=>?_,fun H4 s4=>?_⟩
   · unfold sgAt at hx
     obtain ⟨o,ho,rfl⟩:=List.mem_map.mp hx
     have hi:=ci.2 o (List.mem_filter.mp ho).1
     have hlt:o.toNat < masks.length:=by omega
     have e:masks.getD o.toNat 0=masks[o.toNat]:=by rw [List.getD,List.getElem?_eq_getElem hlt]; rfl
     rw [e]
     have hb:=mk _ (List.getElem_mem hlt)
     have:=(fF hb.1 hb.2).1
     omega
   · have s14:=s13.trans s4
     walk_at "w"
     by_cases hw:prodW (sgAt masks (othL cs z))≤32
     · rw [decide_eq_true hw,Bool.true_and] at q
       rw [decide_eq_false (by omega)]
       refine iteF ?_
       rw [aH]
       walk_at "w"
       refine ⟨S,_,rfl,(s3.trans s4) _ _ eS,?_⟩
       refine ⟨_,rfl,?_⟩
       by_cases h0:0∈sgAt masks (othL cs z)
       · rw [decide_eq_true h0] at q ⊢
         rw [Bool.true_or] at q
         exact iteT (q _ s14)
       · rw [decide_eq_false h0] at q ⊢
         rw [Bool.false_or] at q
         refine iteF ?_
         exact wz (X.same s14) (((s2.trans s3).trans s4) _ _ eR2) s0 s6 hw h0 fun H' s'=>q H' (s14.trans s')
     · rw [decide_eq_false hw,Bool.false_and] at q
       rw [decide_eq_true (by omega)]
       exact iteT (q _ s14)
 · rw [decide_eq_false hm,Bool.false_and] at q
   rw [decide_eq_false hm]
   exact iteT (q _ s13)
structure Sub30 (a b:Int):Prop where
 a0:0≤a
 a1:a < 64
 b0:0≤b
 b1:b < 64
 st:∀ s,stB a s=true→stB b s=true
theorem AM:((List.range 64).all fun m=>(List.range 6).all fun s=>decide (decide (woI (m:Int) (1+(s:Int))=0)=(List.range 6).all fun j=>!stB (m:Int) (1+(j:Int))||decide (j=s)))=true:=by decide+kernel
theorem yg {m s:Int} (m0:0≤m) (m1:m < 64) (s0:1≤s) (s6:s≤6):woI m s=0↔∀ j:Nat,j < 6→stB m (1+(j:Int))=true→j=(s - 1).toNat:=by
 have t:=of_decide_eq_true (List.all_eq_true.mp (List.all_eq_true.mp AM m.toNat (List.mem_range.mpr (by omega))) (s - 1).toNat (List.mem_range.mpr (by omega)))
 rw [show ((m.toNat:Nat):Int)=m by omega,show 1+(((s - 1).toNat:Nat):Int)=s by omega] at t
 rw [← decide_eq_true_iff (p:=woI m s=0),t,List.all_eq_true]
 constructor
 · intro h j hj hs
   have:=h j (List.mem_range.mpr hj)
   rw [hs] at this
   simpa using this
 · intro h j hj
   cases hs:stB m (1+(j:Int)) with
   | false=>rfl
   | true=>simpa using h j (List.mem_range.mp hj) hs
theorem Sub30.wo {a b s:Int} (X:Sub30 a b) (s0:1≤s) (s6:s≤6) (h:woI b s=0):woI a s=0:=
 (yg X.a0 X.a1 s0 s6).mpr fun j hj hs=>(yg X.b0 X.b1 s0 s6).mp h j hj (X.st _ hs)
theorem oH {f g:Int→Int} {p q:Int→Bool}:∀ {cs:List Int},(∀ c∈cs,p (f c)=true→q (g c)=true)→((cs.map f).filter p).length≤((cs.map g).filter q).length
 | [],_=>Nat.le_refl _
 | c::r,h=>by
  have ih:=oH (cs:=r) fun x hx=>h x (List.mem_cons_of_mem _ hx)
  have hc:=h c List.mem_cons_self
  rw [List.map_cons,List.map_cons,List.filter_cons,List.filter_cons]
  cases hp:p (f c) with
  | false=>
   rw [if_neg Bool.false_ne_true]
   split
   · rw [List.length_cons]; omega
   · exact ih
  | true=>
   rw [if_pos rfl,if_pos (hc hp),List.length_cons,List.length_cons]
   omega
theorem yW:((List.range 64).all fun m=>decide (Builtin.Int.intBits (m:Int)≤6))=true:=by decide+kernel
theorem st6 {m x:Int} (m0:0≤m) (m1:m < 64) (h:stB m x=true):1≤x∧x≤6:=by
 have t:=of_decide_eq_true (List.all_eq_true.mp yW m.toNat (List.mem_range.mpr (by omega)))
 rw [show ((m.toNat:Nat):Int)=m by omega] at t
 unfold stB at h
 rw [Bool.and_eq_true,Bool.and_eq_true] at h
 have a:=of_decide_eq_true h.1
 have b:=of_decide_eq_true h.2.1
 omega
theorem rh:∀ (rs:List (List Nat)),(∀ r∈rs,r.length≤2)→(catL 32 rs).length≤3*rs.length
 | [],_=>by simp [catL]
 | [x],h=>by have:=h x List.mem_cons_self; simp [catL]; omega
 | x::y::r,h=>by
  rw [dE (by simp)]
  have h1:=h x List.mem_cons_self
  have h2:=rh (y::r) fun z hz=>h z (List.mem_cons_of_mem _ hz)
  simp only [List.length_append,List.length_cons] at*
  omega
theorem uU {cs:List Nat} (h:cs.length≤16):(catL 32 (cs.map numC)).length≤48:=by
 have:=rh (cs.map numC) fun r hr=>by obtain ⟨x,_,rfl⟩:=List.mem_map.mp hr; exact gW
 rw [List.length_map] at this
 omega
theorem j5 {k:RK} {h w g:Int} {n m:Nat} {ns:List Nat} (F:FlOk h w g) (ne:ns≠[]) (lt:∀ c∈ns,(c:Int) < h*w) (nd:ns.Nodup) (len:ns.length≤16) (hk:allK k=false) (k0:k≠.Rule) (n0:n≤99) (nz:numK k=false→n=0) (m0:sgnK k=true→1≤(m:Int)∧(m:Int)≤g) (mz:sgnK k=false→m=0):
  RR.Ok ⟨k,n,m,ns,ns.map fun (n:Nat)=>(n:Int)⟩ h w g:=by
 have m16:=F.m
 refine ⟨k0,n0,nz,m0,mz,⟨fun _=>⟨ne,len,lt,nd,rfl⟩,fun e=>?_⟩,fun x hx=>?_,len⟩
 · rw [show allK k=false from hk] at e; cases e
 · have:=lt x hx
   omega
theorem zV (t:TK):decide (tkC t=[112,97,105,114])=decide (t=.pair):=by cases t <;> decide
def RestP (Q:VK) (H:Hp) (rl:List Int):Prop:=∀ (l:Addr) (H':Hp) (xs:List Int),Same H H'→H l=none→H' l=some (.lst (xs.map V.int))→xs.Perm rl→xs.Pairwise (· ≤·)→Q (.ref l) H'
theorem ri {Q:VK} {H H1:Hp} {p:Addr} {ns rl:List Int} (s1:Same H H1) (hp:H1 p=some (.lst (ns.map V.int))) (hn:ns.length < 64) (pm:ns.Perm rl) (q:RestP Q H rl):c8 [.ref p] H1 Q:=
 yC hp hn fun ns' l hl pp sr=>q l _ ns' (s1.trans ((Same.refl H1).laid hl)) (s1.free hl) ag (pp.trans pm) sr
def K39 (t:TK):Prop:=t=.count∨t=.sum∨t=.step∨t=.ways
noncomputable def pT (h w:Int) (x:RR) (masks:List Int) (t:TK) (z s:Int) (ms:List Int):Bool:=match t with
 | .count=>cntB x.cs x.n x.m masks z s ms
 | .sum=>sumB x.cs x.n masks z s ms
 | .step=>stepB x.cs masks z s ms
 | _=>waysB x.k h w x.cs x.n x.m masks z s ms
noncomputable def kr (h w:Int) (rows:List RR) (masks:List Int) (t:TK) (r z s:Int) (ms:List Int):Bool:=match rows[r.toNat]? with
  | none=>false
  | some x=>pT h w x masks t z s ms
theorem A9 {t:TK} (ht:K39 t):t≠.clue:=by rcases ht with rfl | rfl | rfl | rfl <;> decide
def be (K:PySem.W.Frag) (c:RCl RK) (d:RCl PzK):Sp:=fun vs H Q _=>∃ (P L G A T M:Addr) (h w g:Int) (rows:List RR) (cl masks:List Int) (t:TK) (r z s:Int) (ms:List Int),vs=[.ref P,.ref A,.ref T]∧Asks H c d P L G A T M h w g rows cl masks t r z s ms∧(t=.count∨t=.sum∨t=.ways)∧(∀ m∈masks,0≤m∧m < 64)∧formB h w g rows t r z s=true∧∀ H',Same H H'→Q (.bl (kr h w rows masks t r z s ms)) H'
theorem kZ {K:PySem.W.Frag} {c:RCl RK} {d:RCl PzK} {vs:List V} {H:Hp} {Q:VK} {E:XK} (h:be K c d vs H Q E):vs.length=3:=by
 obtain ⟨_,_,_,_,_,_,_,_,_,_,_,_,_,_,_,_,_,rfl,_⟩:=h; rfl
def bQ (K:PySem.W.Frag) (c:RCl RK) (d:RCl PzK):TS:=
 (tSeq (tAsg (tOp cIx (aL d d.ok "rules" (b7 K c d) (tVar 0) tNil) (tOp cIx (tVar 2) (tC (.int 1)))) (gName 3))
  (tSeq (tIfS (tTest (tOp (cEq K) (tOp cIx (tVar 2) (tC (.int 0))) (tC (.str (tx [99,111,117,110,116]))))) (tRet (tCall (bK K c) [] E0 (tCons (tVar 3) (tCons (tVar 1) (tCons (tOp cIx (tVar 2) (tC (.int 2))) (tCons (tOp cIx (tVar 2) (tC (.int 3))) (tCons (tOp cIx (tVar 2) (tC (.int 4))) tNil))))))) tNext)
  (tSeq (tIfS (tTest (tOp (cEq K) (tOp cIx (tVar 2) (tC (.int 0))) (tC (.str (tx [115,117,109]))))) (tRet (tCall (cm K c) [] E0 (tCons (tVar 3) (tCons (tVar 1) (tCons (tOp cIx (tVar 2) (tC (.int 2))) (tCons (tOp cIx (tVar 2) (tC (.int 3))) (tCons (tOp cIx (tVar 2) (tC (.int 4))) tNil))))))) tNext)
  (tRet (tCall (b2 K c) [] E0 (tCons (tVar 3) (tCons (tVar 1) (tCons (tOp cIx (tVar 2) (tC (.int 2))) (tCons (tOp cIx (tVar 2) (tC (.int 3))) (tCons (tOp cIx (tVar 2) (tC (.int 4))) tNil))))))))))
theorem k6 {K:PySem.W.Frag} {c:RCl RK} {d:RCl PzK} {vs:List V} {H:Hp} {Q:VK} {E:XK} (h:be K c d vs H Q E):bQ K c d { nx:=fun _ H'=>Q .non H',rt:=Q } (start ["puzzle","masks","thought","rule"] vs) H:=by
 obtain ⟨P,L,G,A,T,M,h,w,g,rows,cl,masks,t,r,z,s,ms,rfl,X,ht,mo,f,q⟩:=h
 obtain ⟨dx,p,rs,h1,h2,h3⟩:=X.P.ex
 obtain ⟨z0,z1,s0,s1',hit⟩:=mV f
 have hg:=X.P.R.F.g1
 have hmm:=X.P.R.F.m
 obtain ⟨r0,y,ey,hgo,hz⟩:=qA (by rcases ht with rfl | rfl | rfl <;> decide) hit
 have O:=X.P.R.ok y (List.mem_of_getElem? ey)
 have hin:bj y.cs masks.length:=by rw [X.n]; exact RR.cin22 O X.P.R.F
 show bQ K c d _ [some (.ref P),some (.ref A),some (.ref T),none] H
 unfold bQ
 rw [aQ,dw,g8]
 refine methE (k:=.Puzzle) rfl X.P.ok h1 (by rfl) ?_
 walk_at "w"
 refine ⟨P,L,G,h,w,g,rows,cl,rfl,X.P,fun l p2 rs2 hl hp2 Y=>?_⟩
 have s2:Same H (upd H l (.lst (rs2.map V.ref))):=(Same.refl H).laid hl
 generalize upd H l (.lst (rs2.map V.ref))=H1 at*
 have hlt:=(List.getElem?_eq_some_iff.mp ey).1
 have hlen:=Y.len
 have ea:rs2[r.toNat]? =some rs2[r.toNat]:=List.getElem?_eq_getElem (by omega)
 have fin:∀ H',Same H1 H'→Q (.bl (pT h w y masks t z s ms)) H':=fun H' s3=>by
  have q1:=q H' (s2.trans s3)
  unfold kr at q1
  rw [ey] at q1
  exact q1
 dsimp only
 refine ixT (s2 _ _ X.T.T) (v:=V.int r) rfl ?_
 refine ixL Y.top (ki r0 ea) ?_
 walk_at "w"
 rw [aH]
 walk_at "w"
 refine ixT (s2 _ _ X.T.T) (v:=V.str (tx (tkC t))) rfl ?_
 walk_at "w"
 rw [bT,yR]
 rcases ht with rfl | rfl | rfl
 · rw [decide_eq_true rfl]
   refine iteT ?_
   walk_at "w"
   refine ixT (s2 _ _ X.T.T) (v:=V.int z) rfl ?_
   walk_at "w"
   refine ixT (s2 _ _ X.T.T) (v:=V.int s) rfl ?_
   walk_at "w"
   refine ixT (s2 _ _ X.T.T) (v:=V.ref M) rfl ?_
   walk_at "w"
   exact ⟨_,_,p2,A,M,_,y.cs,masks,ms,_,_,z,s,rfl,Y.at_ _ _ _ ea ey,hin,s2 _ _ X.A,s2 _ _ X.T.M,by omega,fin⟩
 · rw [decide_eq_false (by decide)]
   refine iteF ?_
   rw [aH]
   walk_at "w"
   refine ixT (s2 _ _ X.T.T) (v:=V.str (tx (tkC .sum))) rfl ?_
   walk_at "w"
   rw [bT,ya,decide_eq_true rfl]
   refine iteT ?_
   walk_at "w"
   refine ixT (s2 _ _ X.T.T) (v:=V.int z) rfl ?_
   walk_at "w"
   refine ixT (s2 _ _ X.T.T) (v:=V.int s) rfl ?_
   walk_at "w"
   refine ixT (s2 _ _ X.T.T) (v:=V.ref M) rfl ?_
   walk_at "w"
   exact ⟨_,_,p2,A,M,_,y.cs,masks,ms,_,_,z,s,rfl,Y.at_ _ _ _ ea ey,hin,mo,s2 _ _ X.A,s2 _ _ X.T.M,fin⟩
 · rw [decide_eq_false (by decide)]
   refine iteF ?_
   rw [aH]
   walk_at "w"
   refine ixT (s2 _ _ X.T.T) (v:=V.str (tx (tkC .ways))) rfl ?_
   walk_at "w"
   rw [bT,ya,decide_eq_false (by decide)]
   refine iteF ?_
   walk_at "w"
   refine ixT (s2 _ _ X.T.T) (v:=V.int z) rfl ?_
   walk_at "w"
   refine ixT (s2 _ _ X.T.T) (v:=V.int s) rfl ?_
   walk_at "w"
   refine ixT (s2 _ _ X.T.T) (v:=V.ref M) rfl ?_
   walk_at "w"
   exact ⟨_,_,p2,A,M,_,y.cs,masks,ms,_,_,z,s,h,w,g,rfl,Y.at_ _ _ _ ea ey,hp2,X.P.R.F,hin,by rw [X.n]; omega,mo,by omega,by omega,s2 _ _ X.A,s2 _ _ X.T.M,fin⟩
def bm (K:PySem.W.Frag) (c:RCl RK) (d:RCl PzK):Sp:=fun vs H Q _=>∃ (P L G A T M:Addr) (h w g:Int) (rows:List RR) (cl masks:List Int) (r z s:Int) (ms:List Int),vs=[.ref P,.ref A,.ref T]∧Asks H c d P L G A T M h w g rows cl masks .step r z s ms∧(∀ m∈masks,0≤m∧m < 64)∧formB h w g rows .step r z s=true∧∀ H',Same H H'→Q (.bl (kr h w rows masks .step r z s ms)) H'
theorem lW {K:PySem.W.Frag} {c:RCl RK} {d:RCl PzK} {vs:List V} {H:Hp} {Q:VK} {E:XK} (h:bm K c d vs H Q E):vs.length=3:=by
 obtain ⟨_,_,_,_,_,_,_,_,_,_,_,_,_,_,_,_,rfl,_⟩:=h; rfl
def ca (K:PySem.W.Frag) (c:RCl RK) (d:RCl PzK):TS:=
 (tSeq (tAsg (tOp cIx (tVar 2) (tC (.int 0))) (gName 3))
  (tSeq (tAsg (tOp cIx (tVar 2) (tC (.int 2))) (gName 4))
  (tSeq (tAsg (tOp cIx (tVar 2) (tC (.int 3))) (gName 5))
  (tSeq (tAsg (tOp cIx (tVar 2) (tC (.int 4))) (gName 6))
  (tSeq (tIfS (tTest (tOp (cEq K) (tVar 3) (tC (.str (tx [99,108,117,101]))))) (tRet i8) tNext)
  (tSeq (tAsg (tOp cIx (aL d d.ok "rules" (b7 K c d) (tVar 0) tNil) (tOp cIx (tVar 2) (tC (.int 1)))) (gName 7))
  (tSeq (tIfS (tTest (tOp (cEq K) (tVar 3) (tC (.str (tx [111,110,108,121]))))) (tRet i8) tNext)
  (tSeq (tIfS (tTest (tOp (cEq K) (tVar 3) (tC (.str (tx [112,108,97,99,101]))))) (tRet i8) tNext)
  (tSeq (tIfS (tTest (tOp (cEq K) (tVar 3) (tC (.str (tx [115,116,101,112]))))) (tRet (tCall (bZ K c) [] E0 (tCons (tVar 7) (tCons (tVar 1) (tCons (tVar 4) (tCons (tVar 5) (tCons (tVar 6) tNil))))))) tNext)
  (tRet i8))))))))))
theorem lX {K:PySem.W.Frag} {c:RCl RK} {d:RCl PzK} {vs:List V} {H:Hp} {Q:VK} {E:XK} (h:bm K c d vs H Q E):ca K c d { nx:=fun _ H'=>Q .non H',rt:=Q } (start ["puzzle","masks","thought","kind","cell","sign","more","rule"] vs) H:=by
 obtain ⟨P,L,G,A,T,M,h,w,g,rows,cl,masks,r,z,s,ms,rfl,X,mm,f,q⟩:=h
 obtain ⟨dx,p,rs,h1,h2,h3⟩:=X.P.ex
 obtain ⟨z0,z1,s0,s1',hit⟩:=mV f
 show ca K c d _ [some (.ref P),some (.ref A),some (.ref T),none,none,none,none,none] H
 unfold ca
 walk_at "w"
 refine ixT X.T.T (v:=V.str (tx (tkC .step))) rfl ?_
 walk_at "w"
 refine ixT X.T.T (v:=V.int z) rfl ?_
 walk_at "w"
 refine ixT X.T.T (v:=V.int s) rfl ?_
 walk_at "w"
 refine ixT X.T.T (v:=V.ref M) rfl ?_
 walk_at "w"
 rw [aH]
 walk_at "w"
 rw [bT,qz,decide_eq_false (show ¬ TK.step=TK.clue by decide)]
 obtain ⟨r0,y,ey,_,hz⟩:=qA (by decide) hit
 refine iteF ?_
 refine methE (k:=.Puzzle) rfl X.P.ok h1 (by rfl) ?_
 walk_at "w"
 refine ⟨P,L,G,h,w,g,rows,cl,rfl,X.P,fun l p2 rs2 hl hp2 Y=>?_⟩
 have s2:Same H (upd H l (.lst (rs2.map V.ref))):=(Same.refl H).laid hl
 generalize upd H l (.lst (rs2.map V.ref))=H1 at*
 have hlt:=(List.getElem?_eq_some_iff.mp ey).1
 have hlen:=Y.len
 have ea:rs2[r.toNat]? =some rs2[r.toNat]:=List.getElem?_eq_getElem (by omega)
 dsimp only
 refine ixT (s2 _ _ X.T.T) (v:=V.int r) rfl ?_
 refine ixL Y.top (ki r0 ea) ?_
 walk_at "w"
 rw [aH]
 walk_at "w"
 rw [bT,vw,decide_eq_false (show ¬ TK.step=TK.only by decide)]
 refine iteF ?_
 rw [aH]
 walk_at "w"
 rw [bT,pJ,decide_eq_false (show ¬ TK.step=TK.place by decide)]
 refine iteF ?_
 rw [aH]
 walk_at "w"
 rw [bT,zQ,decide_eq_true rfl]
 refine iteT ?_
 walk_at "w"
 have O:=X.P.R.ok y (List.mem_of_getElem? ey)
 have hin:bj y.cs masks.length:=by rw [X.n]; exact RR.cin22 O X.P.R.F
 refine ⟨_,_,p2,A,M,_,y.cs,masks,ms,_,_,z,s,rfl,Y.at_ _ _ _ ea ey,hin,hz,mm,s2 _ _ X.A,s2 _ _ X.T.M,fun H' s3=>?_⟩
 have q1:=q H' (s2.trans s3)
 unfold kr at q1
 rw [ey] at q1
 exact q1
def dk (K:PySem.W.Frag) (c:RCl RK) (d:RCl PzK):Sp:=fun vs H Q _=>∃ (P L G A T M:Addr) (h w g:Int) (rows:List RR) (cl masks:List Int) (t:TK) (r z s:Int) (ms:List Int),vs=[.ref P,.ref A,.ref T]∧Asks H c d P L G A T M h w g rows cl masks t r z s ms∧K39 t∧(∀ m∈masks,0≤m∧m < 64)∧formB h w g rows t r z s=true∧∀ H',Same H H'→Q (.bl (kr h w rows masks t r z s ms)) H'
theorem t5 {K:PySem.W.Frag} {c:RCl RK} {d:RCl PzK} {vs:List V} {H:Hp} {Q:VK} {E:XK} (h:dk K c d vs H Q E):vs.length=3:=by
 obtain ⟨_,_,_,_,_,_,_,_,_,_,_,_,_,_,_,_,_,rfl,_⟩:=h; rfl
def iL (K:PySem.W.Frag) (c:RCl RK) (d:RCl PzK):TS:=
 (tSeq (tIfS (tB (tInG cG false (tOp cIx (tVar 2) (tC (.int 0))))) (tRet (tCall (bm K c d) [] E0 (tCons (tVar 0) (tCons (tVar 1) (tCons (tVar 2) tNil))))) tNext)
  (tSeq (tIfS (tB (tInG bX false (tOp cIx (tVar 2) (tC (.int 0))))) (tRet (tCall (be K c d) [] E0 (tCons (tVar 0) (tCons (tVar 1) (tCons (tVar 2) tNil))))) tNext)
  (tRet i8)))
theorem t6 {K:PySem.W.Frag} {c:RCl RK} {d:RCl PzK} {vs:List V} {H:Hp} {Q:VK} {E:XK} (h:dk K c d vs H Q E):iL K c d { nx:=fun _ H'=>Q .non H',rt:=Q } (start ["puzzle","masks","thought"] vs) H:=by
 obtain ⟨P,L,G,A,T,M,h,w,g,rows,cl,masks,t,r,z,s,ms,rfl,X,ht,mo,f,q⟩:=h
 show iL K c d _ [some (.ref P),some (.ref A),some (.ref T)] H
 unfold iL
 rw [aQ,aH]
 walk_at "w"
 refine ixT X.T.T (v:=V.str (tx (tkC t))) rfl ?_
 walk_at "w"
 rw [vv]
 cases e1:lineK t with
 | true=>
  have e2:t=.step:=by rcases ht with rfl | rfl | rfl | rfl <;> first | rfl | cases e1
  subst e2
  refine iteT ?_
  exact ⟨P,L,G,A,T,M,h,w,g,rows,cl,masks,r,z,s,ms,rfl,X,mo,f,q⟩
 | false=>
  have e2:nbrK t=true:=by rcases ht with rfl | rfl | rfl | rfl <;> first | rfl | cases e1
  have e3:t=.count∨t=.sum∨t=.ways:=by rcases ht with rfl | rfl | rfl | rfl <;> first | exact .inl rfl | exact .inr (.inl rfl) | exact .inr (.inr rfl) | cases e1
  refine iteF ?_
  rw [aH]
  walk_at "w"
  refine ixT X.T.T (v:=V.str (tx (tkC t))) rfl ?_
  walk_at "w"
  rw [xY,e2]
  refine iteT ?_
  exact ⟨P,L,G,A,T,M,h,w,g,rows,cl,masks,t,r,z,s,ms,rfl,X,e3,mo,f,q⟩
noncomputable def gi (h w g:Int) (rows:List RR) (masks:List Int) (t:TK) (r z s:Int) (ms:List Int):Bool:=formB h w g rows t r z s&&kr h w rows masks t r z s ms
def bV (K:PySem.W.Frag) (c:RCl RK) (d:RCl PzK):Sp:=fun vs H Q _=>∃ (P L G A T M:Addr) (h w g:Int) (rows:List RR) (cl masks:List Int) (t:TK) (r z s:Int) (ms:List Int),vs=[.ref P,.ref A,.ref T]∧Asks H c d P L G A T M h w g rows cl masks t r z s ms∧K39 t∧(∀ m∈masks,0≤m∧m < 64)∧∀ H',Same H H'→Q (.bl (gi h w g rows masks t r z s ms)) H'
theorem t7 {K:PySem.W.Frag} {c:RCl RK} {d:RCl PzK} {vs:List V} {H:Hp} {Q:VK} {E:XK} (h:bV K c d vs H Q E):vs.length=3:=by
 obtain ⟨_,_,_,_,_,_,_,_,_,_,_,_,_,_,_,_,_,rfl,_⟩:=h; rfl
def iM (K:PySem.W.Frag) (c:RCl RK) (d:RCl PzK):TS:=
 (tRet (tAndV (tCall (dh K c d) [] E0 (tCons (tVar 0) (tCons (tVar 2) tNil))) (tCall (dk K c d) [] E0 (tCons (tVar 0) (tCons (tVar 1) (tCons (tVar 2) tNil))))))
theorem t8 {K:PySem.W.Frag} {c:RCl RK} {d:RCl PzK} {vs:List V} {H:Hp} {Q:VK} {E:XK} (h:bV K c d vs H Q E):iM K c d { nx:=fun _ H'=>Q .non H',rt:=Q } (start ["puzzle","masks","thought"] vs) H:=by
 obtain ⟨P,L,G,A,T,M,h,w,g,rows,cl,masks,t,r,z,s,ms,rfl,X,ht,mo,q⟩:=h
 show iM K c d _ [some (.ref P),some (.ref A),some (.ref T)] H
 unfold iM
 walk_at "w"
 refine ⟨t,P,L,G,T,M,h,w,g,r,z,s,rows,cl,ms,rfl,X.P,X.T,fun H1 s1=>?_⟩
 unfold gi at q
 cases hb:formB h w g rows t r z s with
 | false=>
  rw [hb,Bool.false_and] at q
  exact ⟨false,rfl,iteF (q _ s1)⟩
 | true=>
  rw [hb,Bool.true_and] at q
  refine ⟨true,rfl,iteT ?_⟩
  walk_at "w"
  exact ⟨P,L,G,A,T,M,h,w,g,rows,cl,masks,t,r,z,s,ms,rfl,X.same s1,ht,mo,hb,fun H' s2=>q H' (s1.trans s2)⟩
def lF (x:RR) (t:TK) (z:Int):List Int:=match t with
 | .step=>ahdL x.cs z++behL x.cs z
 | _=>othL x.cs z
def bn (K:PySem.W.Frag) (c:RCl RK) (d:RCl PzK):Sp:=fun vs H Q _=>∃ (P L G T M:Addr) (h w g:Int) (rows:List RR) (cl:List Int) (t:TK) (r z s:Int) (ms:List Int) (y:RR),vs=[.ref P,.ref T]∧IsPz H c d P L G h w g rows cl∧IsTh H T M t r z s ms∧0≤r∧rows[r.toNat]? =some y∧RestP Q H (othL y.cs z)
theorem lY {K:PySem.W.Frag} {c:RCl RK} {d:RCl PzK} {vs:List V} {H:Hp} {Q:VK} {E:XK} (h:bn K c d vs H Q E):vs.length=2:=by
 obtain ⟨_,_,_,_,_,_,_,_,_,_,_,_,_,_,_,_,rfl,_⟩:=h; rfl
def cb (K:PySem.W.Frag) (c:RCl RK) (d:RCl PzK):TS:=
 (tRet (tCB c8 (tCons (tCall (br K c) [] E0 (tCons (tOp cIx (aL d d.ok "rules" (b7 K c d) (tVar 0) tNil) (tOp cIx (tVar 1) (tC (.int 1)))) (tCons (tOp cIx (tVar 1) (tC (.int 2))) tNil))) tNil)))
theorem lZ {K:PySem.W.Frag} {c:RCl RK} {d:RCl PzK} {vs:List V} {H:Hp} {Q:VK} {E:XK} (h:bn K c d vs H Q E):cb K c d { nx:=fun _ H'=>Q .non H',rt:=Q } (start ["puzzle","thought"] vs) H:=by
 obtain ⟨P,L,G,T,M,h,w,g,rows,cl,t,r,z,s,ms,y,rfl,X,Th,r0,ey,q⟩:=h
 obtain ⟨dx,p,rs,h1,h2,h3⟩:=X.ex
 have O:=X.R.ok y (List.mem_of_getElem? ey)
 have hin:=RR.cin22 O X.R.F
 have hmm:=X.R.F.m
 have hcl:y.cs.length≤63:=by have:=hin.1; omega
 show cb K c d _ [some (.ref P),some (.ref T)] H
 unfold cb
 rw [dy,jK,cN,dP,cN,g8]
 refine methE (k:=.Puzzle) rfl X.ok h1 (by rfl) ?_
 walk_at "w"
 refine ⟨P,L,G,h,w,g,rows,cl,rfl,X,fun l p2 rs2 hl hp2 Y=>?_⟩
 have s2:Same H (upd H l (.lst (rs2.map V.ref))):=(Same.refl H).laid hl
 generalize upd H l (.lst (rs2.map V.ref))=H1 at*
 have hlt:=(List.getElem?_eq_some_iff.mp ey).1
 have hlen:=Y.len
 have ea:rs2[r.toNat]? =some rs2[r.toNat]:=List.getElem?_eq_getElem (by omega)
 dsimp only
 refine ixT (s2 _ _ Th.T) (v:=V.int r) rfl ?_
 refine ixL Y.top (ki r0 ea) ?_
 walk_at "w"
 refine ixT (s2 _ _ Th.T) (v:=V.int z) rfl ?_
 walk_at "w"
 refine ⟨_,_,p2,_,y.cs,_,_,z,rfl,Y.at_ _ _ _ ea ey,hcl,fun l2 H3 s3 hl2 e2=>?_⟩
 walk_at "w"
 exact ri (s2.trans s3) e2 (by have:=List.length_filter_le (fun x=>!decide (x=z)) y.cs; have:=hin.1; omega) (.refl _) q
def bw (K:PySem.W.Frag) (c:RCl RK) (d:RCl PzK):Sp:=fun vs H Q _=>∃ (P L G T M:Addr) (h w g:Int) (rows:List RR) (cl:List Int) (r z s:Int) (ms:List Int) (y:RR),vs=[.ref P,.ref T]∧IsPz H c d P L G h w g rows cl∧IsTh H T M .step r z s ms∧0≤r∧rows[r.toNat]? =some y∧z∈y.cs∧RestP Q H (ahdL y.cs z++behL y.cs z)
theorem mX {K:PySem.W.Frag} {c:RCl RK} {d:RCl PzK} {vs:List V} {H:Hp} {Q:VK} {E:XK} (h:bw K c d vs H Q E):vs.length=2:=by
 obtain ⟨_,_,_,_,_,_,_,_,_,_,_,_,_,_,_,rfl,_⟩:=h; rfl
def cS (K:PySem.W.Frag) (c:RCl RK) (d:RCl PzK):TS:=
 (tSeq (tAsg (tOp cIx (tVar 1) (tC (.int 0))) (gName 2))
  (tSeq (tIfS (tTest (tOp (cEq K) (tVar 2) (tC (.str (tx [99,108,117,101]))))) (tRet (tLst tNil)) tNext)
  (tSeq (tIfS (tOr (tTest (tOp (cEq K) (tVar 2) (tC (.str (tx [111,110,108,121]))))) (tTest (tOp (cEq K) (tVar 2) (tC (.str (tx [112,97,105,114])))))) (tRet (tCB c8 (tCons (tOp cIx (tVar 1) (tC (.int 4))) tNil))) tNext)
  (tSeq (tAsg (tOp cIx (aL d d.ok "rules" (b7 K c d) (tVar 0) tNil) (tOp cIx (tVar 1) (tC (.int 1)))) (gName 3))
  (tSeq (tIfS (tTest (tOp (cEq K) (tVar 2) (tC (.str (tx [112,108,97,99,101]))))) (tRet (tCB c8 (tCons (tCall (br K c) [] E0 (tCons (tVar 3) (tCons (tOp cIx (tVar 1) (tC (.int 2))) tNil))) tNil))) tNext)
  (tRet (tCB c8 (tCons (tOp cAdd (tCall (cf K c) [] E0 (tCons (tVar 3) (tCons (tOp cIx (tVar 1) (tC (.int 2))) tNil))) (tCall (du K c) [] E0 (tCons (tVar 3) (tCons (tOp cIx (tVar 1) (tC (.int 2))) tNil)))) tNil))))))))
theorem zW (cs:List Int) (z:Int):(ahdL cs z).length≤1∧(behL cs z).length≤1:=by
 unfold ahdL behL
 constructor <;> split <;> simp
theorem mY {K:PySem.W.Frag} {c:RCl RK} {d:RCl PzK} {vs:List V} {H:Hp} {Q:VK} {E:XK} (h:bw K c d vs H Q E):cS K c d { nx:=fun _ H'=>Q .non H',rt:=Q } (start ["puzzle","thought","kind","rule"] vs) H:=by
 obtain ⟨P,L,G,T,M,h,w,g,rows,cl,r,z,s,ms,y,rfl,X,Th,r0,ey,hz,q⟩:=h
 obtain ⟨dx,p,rs,h1,h2,h3⟩:=X.ex
 have O:=X.R.ok y (List.mem_of_getElem? ey)
 have hin:=RR.cin22 O X.R.F
 have hmm:=X.R.F.m
 have hcl:y.cs.length≤63:=by have:=hin.1; omega
 have ab:=zW y.cs z
 show cS K c d _ [some (.ref P),some (.ref T),none,none] H
 unfold cS
 walk_at "w"
 refine ixT Th.T (v:=V.str (tx (tkC .step))) rfl ?_
 walk_at "w"
 rw [aH]
 walk_at "w"
 rw [bT,qz,decide_eq_false (show ¬ TK.step=TK.clue by decide)]
 refine iteF ?_
 rw [aH]
 walk_at "w"
 rw [bT,vw,decide_eq_false (show ¬ TK.step=TK.only by decide)]
 refine iteF ?_
 rw [bT,zV,decide_eq_false (show ¬ TK.step=TK.pair by decide)]
 refine iteF ?_
 refine methE (k:=.Puzzle) rfl X.ok h1 (by rfl) ?_
 walk_at "w"
 refine ⟨P,L,G,h,w,g,rows,cl,rfl,X,fun l p2 rs2 hl hp2 Y=>?_⟩
 have s2:Same H (upd H l (.lst (rs2.map V.ref))):=(Same.refl H).laid hl
 generalize upd H l (.lst (rs2.map V.ref))=H1 at*
 have hlt:=(List.getElem?_eq_some_iff.mp ey).1
 have hlen:=Y.len
 have ea:rs2[r.toNat]? =some rs2[r.toNat]:=List.getElem?_eq_getElem (by omega)
 dsimp only
 refine ixT (s2 _ _ Th.T) (v:=V.int r) rfl ?_
 refine ixL Y.top (ki r0 ea) ?_
 walk_at "w"
 rw [aH]
 walk_at "w"
 rw [bT,pJ,decide_eq_false (show ¬ TK.step=TK.place by decide)]
 refine iteF ?_
 walk_at "w"
 refine ixT (s2 _ _ Th.T) (v:=V.int z) rfl ?_
 walk_at "w"
 refine ⟨_,_,p2,_,y.cs,_,_,z,rfl,Y.at_ _ _ _ ea ey,hcl,hz,fun l2 H3 s3 hl2 e2=>?_⟩
 walk_at "w"
 refine ixT ((s2.trans s3) _ _ Th.T) (v:=V.int z) rfl ?_
 walk_at "w"
 refine ⟨_,_,p2,_,y.cs,_,_,z,rfl,(Y.at_ _ _ _ ea ey).same s3,hcl,hz,fun l3 H4 s4 hl3 e3=>?_⟩
 walk_at "w"
 refine Ax (s4 _ _ e2) e3 (by rw [List.length_map,List.length_map]; omega) fun l4 hl4=>?_
 have s5:Same H4 (upd H4 l4 (.lst ((ahdL y.cs z).map V.int++(behL y.cs z).map V.int))):=(Same.refl H4).laid hl4
 have e4:(upd H4 l4 (.lst ((ahdL y.cs z).map V.int++(behL y.cs z).map V.int))) l4=some (.lst ((ahdL y.cs z++behL y.cs z).map V.int)):=by rw [ag,List.map_append]
 generalize upd H4 l4 (.lst ((ahdL y.cs z).map V.int++(behL y.cs z).map V.int))=H5 at*
 walk_at "w"
 exact ri (((s2.trans s3).trans s4).trans s5) e4 (by rw [List.length_append]; omega) (.refl _) q
def cI (K:PySem.W.Frag) (c:RCl RK) (d:RCl PzK):Sp:=fun vs H Q _=>∃ (P L G T M:Addr) (h w g:Int) (rows:List RR) (cl:List Int) (t:TK) (r z s:Int) (ms:List Int) (y:RR),vs=[.ref P,.ref T]∧IsPz H c d P L G h w g rows cl∧IsTh H T M t r z s ms∧K39 t∧0≤r∧rows[r.toNat]? =some y∧z∈y.cs∧RestP Q H (lF y t z)
theorem rR {K:PySem.W.Frag} {c:RCl RK} {d:RCl PzK} {vs:List V} {H:Hp} {Q:VK} {E:XK} (h:cI K c d vs H Q E):vs.length=2:=by
 obtain ⟨_,_,_,_,_,_,_,_,_,_,_,_,_,_,_,_,rfl,_⟩:=h; rfl
def gC (K:PySem.W.Frag) (c:RCl RK) (d:RCl PzK):TS:=
 (tSeq (tIfS (tB (tInG cG false (tOp cIx (tVar 1) (tC (.int 0))))) (tRet (tCall (bw K c d) [] E0 (tCons (tVar 0) (tCons (tVar 1) tNil)))) tNext)
  (tSeq (tIfS (tB (tInG bX false (tOp cIx (tVar 1) (tC (.int 0))))) (tRet (tCall (bn K c d) [] E0 (tCons (tVar 0) (tCons (tVar 1) tNil)))) tNext)
  (tRet i8)))
theorem rS {K:PySem.W.Frag} {c:RCl RK} {d:RCl PzK} {vs:List V} {H:Hp} {Q:VK} {E:XK} (h:cI K c d vs H Q E):gC K c d { nx:=fun _ H'=>Q .non H',rt:=Q } (start ["puzzle","thought"] vs) H:=by
 obtain ⟨P,L,G,T,M,h,w,g,rows,cl,t,r,z,s,ms,y,rfl,X,Th,ht,r0,ey,hz,q⟩:=h
 show gC K c d _ [some (.ref P),some (.ref T)] H
 unfold gC
 rw [aQ,aH]
 walk_at "w"
 refine ixT Th.T (v:=V.str (tx (tkC t))) rfl ?_
 walk_at "w"
 rw [vv]
 cases e1:lineK t with
 | true=>
  have e2:t=.step:=by rcases ht with rfl | rfl | rfl | rfl <;> first | rfl | cases e1
  subst e2
  refine iteT ?_
  exact ⟨P,L,G,T,M,h,w,g,rows,cl,r,z,s,ms,y,rfl,X,Th,r0,ey,hz,q⟩
 | false=>
  have e2:nbrK t=true:=by rcases ht with rfl | rfl | rfl | rfl <;> first | rfl | cases e1
  have e3:lF y t z=othL y.cs z:=by rcases ht with rfl | rfl | rfl | rfl <;> first | rfl | cases e1
  refine iteF ?_
  rw [aH]
  walk_at "w"
  refine ixT Th.T (v:=V.str (tx (tkC t))) rfl ?_
  walk_at "w"
  rw [xY,e2]
  refine iteT ?_
  rw [e3] at q
  exact ⟨P,L,G,T,M,h,w,g,rows,cl,t,r,z,s,ms,y,rfl,X,Th,r0,ey,q⟩
theorem t9 {m x:Int} (m0:0≤m) (m1:m < 64):x∈sgL m↔∃ j:Nat,j < 6∧stB m (1+(j:Int))=true∧x=1+(j:Int):=by
 rw [(fF m0 m1).2,List.mem_map]
 constructor
 · rintro ⟨j,hj,rfl⟩
   obtain ⟨h1,h2⟩:=List.mem_filter.mp hj
   exact ⟨j,by simp at h1; omega,h2,rfl⟩
 · rintro ⟨j,hj,h2,rfl⟩
   refine ⟨j,List.mem_filter.mpr ⟨?_,h2⟩,rfl⟩
   have:j=0∨j=1∨j=2∨j=3∨j=4∨j=5:=by omega
   rcases this with rfl | rfl | rfl | rfl | rfl | rfl <;> simp
theorem Sub30.sg {a b:Int} (X:Sub30 a b):∀ x∈sgL a,x∈sgL b:=fun x hx=>by
 obtain ⟨j,hj,h2,rfl⟩:=(t9 X.a0 X.a1).mp hx
 exact (t9 X.b0 X.b1).mpr ⟨j,hj,X.st _ h2,rfl⟩
theorem Sub30.len {a b:Int} (X:Sub30 a b):(sgL a).length≤(sgL b).length:=by
 rw [(fF X.a0 X.a1).2,(fF X.b0 X.b1).2,List.length_map,List.length_map,← List.countP_eq_length_filter,← List.countP_eq_length_filter]
 exact List.countP_mono_left fun j _ hj=>X.st _ hj
theorem Sub30.zero {a b:Int} (X:Sub30 a b) (hb:b=0):a=0:=by
 subst hb
 by_cases h:a=0
 · exact h
 · have h1:=(wq X.a0 X.a1 h).1.1
   have h2:=X.len
   rw [x9] at h2
   simp at h2
   rw [h2] at h1
   simp at h1
theorem AN:((List.range 64).all fun m=>decide (m=0)||((decide (loM (m:Int)∈sgL (m:Int))&&decide (hiM (m:Int)∈sgL (m:Int)))&&(sgL (m:Int)).all fun x=>decide (loM (m:Int)≤x)&&decide (x≤hiM (m:Int))))=true:=by decide+kernel
theorem zh {m:Int} (m0:0≤m) (m1:m < 64) (hm:m≠0):(loM m∈sgL m∧hiM m∈sgL m)∧∀ x∈sgL m,loM m≤x∧x≤hiM m:=by
 have t:=List.all_eq_true.mp AN m.toNat (List.mem_range.mpr (by omega))
 have e1:((m.toNat:Nat):Int)=m:=by omega
 rw [e1,Bool.or_eq_true,decide_eq_true_eq,Bool.and_eq_true,Bool.and_eq_true,decide_eq_true_eq,decide_eq_true_eq,List.all_eq_true] at t
 rcases t with t | ⟨t1,t2⟩
 · omega
 · refine ⟨t1,fun x hx=>?_⟩
   have:=t2 x hx
   rw [Bool.and_eq_true,decide_eq_true_eq,decide_eq_true_eq] at this
   exact this
theorem Sub30.lo {a b:Int} (X:Sub30 a b) (ha:a≠0):loM b≤loM a∧hiM a≤hiM b:=by
 have hb:b≠0:=fun e=>ha (X.zero e)
 have ka:=zh X.a0 X.a1 ha
 have kb:=zh X.b0 X.b1 hb
 exact ⟨(kb.2 _ (X.sg _ ka.1.1)).1,(kb.2 _ (X.sg _ ka.1.2)).2⟩
def dl (rest masks less:List Int):Prop:=∀ o∈rest,Sub30 (less.getD o.toNat 0) (masks.getD o.toNat 0)
theorem yX {cs masks less:List Int} {n m z s:Int} {ms:List Int} (X:dl (othL cs z) masks less) (s0:1≤s) (s6:s≤6) (h:cntB cs n m masks z s ms=true):cntB cs n m less z s ms=true:=by
 unfold cntB at h ⊢
 rw [Bool.and_eq_true] at h ⊢
 refine ⟨h.1,?_⟩
 have h2:=h.2
 split at h2
 · rename_i e
   rw [if_pos e]
   rw [decide_eq_true_eq] at h2 ⊢
   have:=oH (f:=fun c=>masks.getD c.toNat 0) (g:=fun c=>less.getD c.toNat 0) (p:=fun k=>decide (woI k s=0)) (q:=fun k=>decide (woI k s=0)) (cs:=othL cs z) fun c hc hp=>by
    rw [decide_eq_true_eq] at hp ⊢
    exact (X c hc).wo s0 s6 hp
   unfold sgAt at h2 ⊢
   omega
 · rename_i e
   rw [if_neg e]
   rw [decide_eq_true_eq] at h2 ⊢
   have:=oH (f:=fun c=>less.getD c.toNat 0) (g:=fun c=>masks.getD c.toNat 0) (p:=fun k=>stB k m) (q:=fun k=>stB k m) (cs:=othL cs z) fun c hc hp=>(X c hc).st _ hp
   unfold sgAt at h2 ⊢
   omega
theorem rj {rest masks less:List Int} (X:dl rest masks less) (h:0∈sgAt masks rest):0∈sgAt less rest:=by
 unfold sgAt at h ⊢
 obtain ⟨o,ho,e⟩:=List.mem_map.mp h
 exact List.mem_map.mpr ⟨o,ho,(X o ho).zero e⟩
theorem ua {masks less:List Int}:∀ {rest:List Int},dl rest masks less→0∉sgAt less rest→((sgAt masks rest).map loM).sum≤((sgAt less rest).map loM).sum∧((sgAt less rest).map hiM).sum≤((sgAt masks rest).map hiM).sum
 | [],_,_=>⟨Int.le_refl _,Int.le_refl _⟩
 | o::r,X,h=>by
  have X1:dl r masks less:=fun c hc=>X c (List.mem_cons_of_mem _ hc)
  have e:∀ l:List Int,sgAt l (o::r)=l.getD o.toNat 0::sgAt l r:=fun l=>rfl
  rw [e] at h
  have ih:=ua X1 fun hm=>h (List.mem_cons_of_mem _ hm)
  have h1:=(X o List.mem_cons_self).lo fun e0=>h (by rw [e0]; exact List.mem_cons_self)
  rw [e,e,List.map_cons,List.map_cons,List.map_cons,List.map_cons,List.sum_cons,List.sum_cons,List.sum_cons,List.sum_cons]
  omega
theorem yY {rest masks less:List Int} {n s:Int} (X:dl rest masks less) (h:smB (sgAt masks rest) n s=true):smB (sgAt less rest) n s=true:=by
 unfold smB at h ⊢
 by_cases h0:0∈sgAt less rest
 · rw [decide_eq_true h0,Bool.true_or]
 · have h1:0∉sgAt masks rest:=fun e=>h0 (rj X e)
   rw [decide_eq_false h0,Bool.false_or]
   rw [decide_eq_false h1,Bool.false_or] at h
   have sm:=ua X h0
   rw [Bool.or_eq_true,decide_eq_true_eq,decide_eq_true_eq] at h ⊢
   omega
theorem yZ {a b s:Int} (X:Sub30 a b) (h:nogB s b=true):nogB s a=true:=by
 unfold nogB at h ⊢
 rw [List.all_eq_true] at h ⊢
 exact fun x hx=>h x (X.sg x hx)
theorem y1 {a b s:Int} (X:Sub30 a b) (h:nolB s b=true):nolB s a=true:=by
 unfold nolB at h ⊢
 rw [List.all_eq_true] at h ⊢
 exact fun x hx=>h x (X.sg x hx)
theorem y2 {cs masks less:List Int} {z s:Int} (X:dl (ahdL cs z++behL cs z) masks less) (h:stpB cs masks z s=true):stpB cs less z s=true:=by
 unfold stpB at h ⊢
 rw [Bool.or_eq_true,List.any_eq_true,List.any_eq_true] at h ⊢
 rcases h with ⟨o,ho,hh⟩ | ⟨o,ho,hh⟩
 · exact .inl ⟨o,ho,yZ (X o (List.mem_append.mpr (.inl ho))) hh⟩
 · exact .inr ⟨o,ho,y1 (X o (List.mem_append.mpr (.inr ho))) hh⟩
theorem rk {masks less:List Int}:∀ {rest:List Int} {n n':Nat},dl rest masks less→n'≤n→(sgAt less rest).foldl (fun p m=>p*(sgL m).length) n'≤(sgAt masks rest).foldl (fun p m=>p*(sgL m).length) n
 | [],_,_,_,h=>h
 | o::r,n,n',X,h=>by
  have X1:dl r masks less:=fun c hc=>X c (List.mem_cons_of_mem _ hc)
  have e:∀ l:List Int,sgAt l (o::r)=l.getD o.toNat 0::sgAt l r:=fun l=>rfl
  rw [e,e,List.foldl_cons,List.foldl_cons]
  exact rk X1 (Nat.mul_le_mul h (X o List.mem_cons_self).len)
theorem pU {masks less:List Int}:∀ {rest:List Int} {fs fs':List (List Int)},dl rest masks less→(∀ f∈fs',f∈fs)→∀ f∈wfold less rest fs',f∈wfold masks rest fs
 | [],_,_,_,h,f,hf=>h f hf
 | o::r,fs,fs',X,h,f,hf=>by
  have X1:dl r masks less:=fun c hc=>X c (List.mem_cons_of_mem _ hc)
  refine pU (rest:=r) (fs:=extS fs o (sgL (masks.getD o.toNat 0))) (fs':=extS fs' o (sgL (less.getD o.toNat 0))) X1 (fun g hg=>?_) f hf
  obtain ⟨a,ha,s,hs,rfl⟩:=mem_extS.mp hg
  exact mem_extS.mpr ⟨a,h a ha,s,(X o List.mem_cons_self).sg s hs,rfl⟩
theorem yh {k:RK} {h w:Int} {cs masks less:List Int} {n m z s:Int} {ms:List Int} (X:dl (othL cs z) masks less) (el:less.length=masks.length) (hb:waysB k h w cs n m masks z s ms=true):waysB k h w cs n m less z s ms=true:=by
 unfold waysB at hb ⊢
 rw [Bool.and_eq_true,Bool.and_eq_true,Bool.or_eq_true] at hb ⊢
 refine ⟨hb.1,?_,?_⟩
 · have h1:=of_decide_eq_true hb.2.1
   have h2:prodW (sgAt less (othL cs z))≤prodW (sgAt masks (othL cs z)):=rk X (Nat.le_refl 1)
   exact decide_eq_true (by omega)
 · rcases hb.2.2 with h0 | h0
   · exact .inl (decide_eq_true (rj X (of_decide_eq_true h0)))
   · refine .inr ?_
     rw [Bool.not_eq_true',List.any_eq_false] at h0 ⊢
     intro f hf
     refine h0 f ?_
     unfold wfill at hf ⊢
     rw [el] at hf
     exact pU X (fun g hg=>hg) f hf
theorem AO {h w:Int} {x:RR} {t:TK} {masks less:List Int} {z s:Int} {ms:List Int} (ht:K39 t) (X:dl (lF x t z) masks less) (el:less.length=masks.length) (s0:1≤s) (s6:s≤6) (hb:pT h w x masks t z s ms=true):pT h w x less t z s ms=true:=by
 rcases ht with rfl | rfl | rfl | rfl
 · exact yX X s0 s6 hb
 · have hb:sumB x.cs x.n masks z s ms=true:=hb
   show sumB x.cs x.n less z s ms=true
   unfold sumB at hb ⊢
   rw [Bool.and_eq_true] at hb ⊢
   exact ⟨hb.1,yY X hb.2⟩
 · have hb:stepB x.cs masks z s ms=true:=hb
   show stepB x.cs less z s ms=true
   unfold stepB at hb ⊢
   rw [Bool.and_eq_true] at hb ⊢
   exact ⟨hb.1,y2 X hb.2⟩
 · exact yh X el hb
theorem rm {h w g:Int} {rows:List RR} {masks:List Int} {t:TK} {r z s:Int} {ms:List Int} (ht:K39 t) (hb:gi h w g rows masks t r z s ms=true):0≤r∧1≤s∧s≤g∧∃ y,rows[r.toNat]? =some y∧z∈y.cs:=by
 unfold gi at hb
 rw [Bool.and_eq_true] at hb
 obtain ⟨z0,z1,s0,s1,hit⟩:=mV hb.1
 obtain ⟨r0,y,ey,_,hz⟩:=qA (A9 ht) hit
 exact ⟨r0,s0,s1,y,ey,hz⟩
theorem pV {h w g:Int} {rows:List RR} {masks less:List Int} {t:TK} {r z s:Int} {ms:List Int} {y:RR} (ht:K39 t) (g1:g≤6) (ey:rows[r.toNat]? =some y) (X:dl (lF y t z) masks less) (el:less.length=masks.length) (hb:gi h w g rows masks t r z s ms=true):gi h w g rows less t r z s ms=true:=by
 obtain ⟨r0,s0,s1,_⟩:=rm ht hb
 unfold gi at hb ⊢
 rw [Bool.and_eq_true] at hb ⊢
 refine ⟨hb.1,?_⟩
 have h2:=hb.2
 unfold kr at h2 ⊢
 rw [ey] at h2 ⊢
 exact AO ht X el s0 (by omega) h2
def oI (ns:List Int) (k:Int):Int:=if k < (ns.length:Int) then ns.getD k.toNat 0 else 0
def bc (K:PySem.W.Frag):Sp:=fun vs H Q _=>∃ (a:Addr) (ns:List Int) (k:Int),vs=[.ref a,.int k]∧SqL K H a (ns.map V.int)∧ns.length≤63∧0≤k∧k≤1000∧Q (.int (oI ns k)) H
theorem ub {K:PySem.W.Frag} {vs:List V} {H:Hp} {Q:VK} {E:XK} (h:bc K vs H Q E):vs.length=2:=by
 obtain ⟨_,_,_,rfl,_⟩:=h; rfl
def iN (K:PySem.W.Frag):TS:=
 (tSeq (tIfS (tTest (tOp (cCmp fun i j=>decide (i < j)) (tVar 1) (tCB (kLenS K) (tCons (tVar 0) tNil)))) (tRet (tOp (rIxL K) (tVar 0) (tVar 1))) tNext)
  (tRet (tC (.int 0))))
theorem uc {K:PySem.W.Frag} {vs:List V} {H:Hp} {Q:VK} {E:XK} (h:bc K vs H Q E):iN K { nx:=fun _ H'=>Q .non H',rt:=Q } (start ["_law_script","_law_k"] vs) H:=by
 obtain ⟨a,ns,k,rfl,hS,hn,k0,k1,q⟩:=h
 show iN K _ [some (.ref a),some (.int k)] H
 unfold iN
 rw [aQ,aH]
 walk_at "w"
 refine ⟨a,_,rfl,.inl hS,?_⟩
 walk_at "w"
 rw [List.length_map]
 unfold oI at q
 by_cases hk:k < (ns.length:Int)
 · rw [if_pos hk] at q
   rw [if_pos (decide_eq_true hk)]
   exact ⟨a,_,k,_,rfl,rfl,hS,oh k0 hk,q⟩
 · rw [if_neg hk] at q
   rw [if_neg (by simpa using hk)]
   walk_at "w"
   exact q
def wA:List (Int × Int)→(St→Hp→(List V→Hp→Prop)→Prop)
 | []=>tNil
 | p::r=>tCons (tTup (tCons (tC (.int p.1)) (tCons (tC (.int p.2)) tNil))) (wA r)
theorem ud {σ:St}:∀ (ps:List (Int × Int)) (H:Hp) (Q:List V→Hp→Prop),(∀ (as:List Addr) (H':Hp),Same H H'→as.length=ps.length→(∀ (j:Nat) (a:Addr) (p:Int × Int),as[j]? =some a→ps[j]? =some p→H' a=some (.tup [.int p.1,.int p.2]))→Q (as.map V.ref) H')→wA ps σ H Q
 | [],H,Q,h=>h [] H (Same.refl H) rfl fun j a p e _=>by simp at e
 | p::r,H,Q,h=>by
  unfold wA
  walk_at "w"
  refine ⟨aK (by show (2:Nat)≤1000; decide),fun t ht=>?_⟩
  have s1:Same H (upd H t (.tup [V.int p.1,V.int p.2])):=(Same.refl H).laid ht
  have et:(upd H t (.tup [V.int p.1,V.int p.2])) t=some (.tup [V.int p.1,V.int p.2]):=ag
  generalize upd H t (.tup [V.int p.1,V.int p.2])=H1 at*
  refine ud r H1 _ fun as H2 s2 hl ha=>?_
  refine h (t::as) H2 (s1.trans s2) (by simp [hl]) fun j a q e1 e2=>?_
  match j,e1,e2 with
  | 0,e1,e2=>
   simp at e1 e2
   subst e1 e2
   exact s2 _ _ et
  | j+1,e1,e2=>exact ha j a q (by simpa using e1) (by simpa using e2)
def b3 (K:PySem.W.Frag):Sp:=fun vs H Q _=>∃ (num many:Int),vs=[.int num,.int many]∧0≤many∧many≤16∧
 ∀ (l:Addr) (H':Hp) (cs:List Nat),Same H H'→H l=none→H' l=some (.lst (nsV cs))→cs.Nodup→(∀ c∈cs,(c:Int) < many)→(cs.length:Int)=many→Q (.ref l) H'
theorem pW {K:PySem.W.Frag} {vs:List V} {H:Hp} {Q:VK} {E:XK} (h:b3 K vs H Q E):vs.length=2:=by
 obtain ⟨_,_,rfl,_⟩:=h; rfl
def eV (K:PySem.W.Frag):TS:=
 (tSeq (tAsg (kH (tCons (tVar 1) tNil)) (gName 2))
  (tSeq (tAsg (tLst tNil) (gName 3))
  (tSeq (tFor (cU (tCons (tVar 1) tNil)) (gName 4)
  (tDrop (tBM K "list" ck (tVar 3) (tCons (tBM K "list" pf (tVar 2) (tCons (tOp cMod (tOp cDiv (tVar 0) (tOp cAdd (tOp cMul (tVar 4) (tVar 4)) (tC (.int 2)))) (tCB kLen (tCons (tVar 2) tNil))) tNil)) tNil))))
  (tRet (tVar 3)))))
theorem pX {K:PySem.W.Frag} {vs:List V} {H:Hp} {Q:VK} {E:XK} (h:b3 K vs H Q E):eV K { nx:=fun _ H'=>Q .non H',rt:=Q } (start ["_law_number","_law_many","_law_left","_law_found","_law_k"] vs) H:=by
 obtain ⟨num,many,rfl,c0,m1,q⟩:=h
 show eV K _ [some (.int num),some (.int many),none,none,none] H
 unfold eV
 walk_at "w"
 refine ⟨many,rfl,by omega,by omega,fun L hL=>?_⟩
 have s1:Same H (upd H L (.lst ((rngL 0 many).map V.int))):=(Same.refl H).laid hL
 have eL:(upd H L (.lst ((rngL 0 many).map V.int))) L=some (.lst ((rngL 0 many).map V.int)):=ag
 generalize upd H L (.lst ((rngL 0 many).map V.int))=H1 at*
 walk_at "w"
 refine ⟨aK (by decide),fun R hR=>?_⟩
 have nRL:R≠L:=fun e=>by rw [e,eL] at hR; cases hR
 refine ⟨many,rfl,by omega,by omega,?_⟩
 refine gN (fun i σ H'=>∃ (kv:Option V) (fs ls:List Int),σ=[some (.int num),some (.int many),some (.ref L),some (.ref R),kv]∧Same H H'∧H' L=some (.lst (ls.map V.int))∧H' R=some (.lst (fs.map V.int))∧(fs++ls).Perm (rngL 0 many)∧fs.length=i)
  ⟨none,[],rngL 0 many,rfl,s1.laid hR,by rw [aj nRL.symm]; exact eL,by rw [ag]; rfl,List.Perm.refl _,rfl⟩ ?_ ?_
 · rintro i σ H2 hi ⟨kv,fs,ls,rfl,s2,e1,e2,hp,hl⟩
   have hlen:=hp.length_eq
   rw [List.length_append,lL] at hlen
   walk_at "w"
   have kk:0≤(0+(i:Int))*(0+(i:Int)):=Int.mul_nonneg (by omega) (by omega)
   have kk2:(0+(i:Int))*(0+(i:Int))≤16*16:=Int.mul_le_mul (by omega) (by omega) (by omega) (by omega)
   refine ⟨dv e2,dv e1,.inl ⟨by omega,by omega⟩,⟨by omega,by omega⟩,?_⟩
   rw [cO e1,List.length_map]
   have hpos:0 < (ls.length:Int):=by omega
   generalize num / ((0+(i:Int))*(0+(i:Int))+2)=y at*
   have j0:=Int.emod_nonneg y (Int.ne_of_gt hpos)
   have j1:=Int.emod_lt_of_pos y hpos
   refine ⟨hpos,?_⟩
   generalize y % (ls.length:Int)=j at*
   have hj:j.toNat < ls.length:=by omega
   refine zH e1 j0 (by rw [List.length_map]; omega) (y:=V.int ls[j.toNat]) (by rw [List.getElem?_map,List.getElem?_eq_getElem hj]; rfl) ?_
   have e2':(upd H2 L (.lst ((ls.map V.int).eraseIdx j.toNat))) R=some (.lst (fs.map V.int)):=by rw [aj nRL]; exact e2
   walk_at "w"
   rw [kf e2']
   refine ⟨by rw [List.length_map]; exact aE (by omega),_,fs++[ls[j.toNat]],ls.eraseIdx j.toNat,rfl,(s2.own hL).own (s1.free hR),?_,?_,?_,by simp [hl]⟩
   · rw [aj nRL.symm,ag,re]
   · rw [ag]; simp
   · have p1:=pw ls j.toNat hj
     have p2:=List.Perm.append_left fs p1
     refine List.Perm.trans ?_ hp
     rw [List.append_assoc]
     exact p2
 · rintro σ H2 ⟨kv,fs,ls,rfl,s2,e1,e2,hp,hl⟩
   walk_at "w"
   have hnd:(fs++ls).Nodup:=hp.nodup_iff.mpr (xS many)
   have hm:∀ x∈fs,0≤x∧x < many:=fun x hx=>vq (hp.mem_iff.mp (List.mem_append.mpr (.inl hx)))
   have ef:(fs.map Int.toNat).map (fun (n:Nat)=>(n:Int))=fs:=by
    rw [List.map_map]
    conv=>rhs; rw [← List.map_id fs]
    exact List.map_congr_left fun x hx=>by have:=hm x hx; show ((x.toNat:Nat):Int)=x; omega
   refine q R H2 (fs.map Int.toNat) s2 (s1.free hR) (by unfold nsV; rw [ef]; exact e2) ?_ ?_ ?_
   · have h1:=(List.nodup_append.mp hnd).1
     rw [← ef] at h1
     exact mR _ h1
   · intro c hc
     obtain ⟨x,hx,rfl⟩:=List.mem_map.mp hc
     have:=hm x hx
     omega
   · rw [List.length_map,hl]; omega
theorem yi:((List.range 64).all fun m=>(List.range 6).all fun s=>decide (stB (m:Int) (1+(s:Int))=Nat.testBit m s))=true:=by decide+kernel
theorem rn {m s:Int} (m0:0≤m) (m1:m < 64) (s0:1≤s) (s6:s≤6):stB m s=Nat.testBit m.toNat (s - 1).toNat:=by
 have t:=List.all_eq_true.mp (List.all_eq_true.mp yi m.toNat (List.mem_range.mpr (by omega))) (s - 1).toNat (List.mem_range.mpr (by omega))
 rw [show ((m.toNat:Nat):Int)=m by omega,show 1+(((s - 1).toNat:Nat):Int)=s by omega] at t
 exact of_decide_eq_true t
theorem ro {m y:Int} (m0:0≤m) (m1:m < 64) (y0:0≤y):Sub30 (Builtin.bitAnd m y) m:=by
 have e:Builtin.bitAnd m y=((m.toNat&&& y.toNat:Nat):Int):=by
  unfold Builtin.bitAnd
  rw [decide_eq_true m0,decide_eq_true y0]
 have le:m.toNat&&& y.toNat≤m.toNat:=Nat.and_le_left
 have tb:∀ j,Nat.testBit (m.toNat&&& y.toNat) j=true→Nat.testBit m.toNat j=true:=fun j h=>by
  rw [Nat.testBit_and,Bool.and_eq_true] at h
  exact h.1
 rw [e]
 generalize m.toNat&&& y.toNat=k at*
 have a1:((k:Nat):Int) < 64:=by omega
 refine ⟨by omega,a1,m0,m1,fun s h=>?_⟩
 obtain ⟨s0,s6⟩:=st6 (by omega) a1 h
 rw [rn (by omega) a1 s0 s6,Int.toNat_natCast] at h
 rw [rn m0 m1 s0 s6]
 exact tb _ h
theorem Sub30.self39 {m:Int} (m0:0≤m) (m1:m < 64):Sub30 m m:=⟨m0,m1,m0,m1,fun _ h=>h⟩
theorem yj {n:Nat} {cs:List Nat} (ne:cs≠[]):nmC .Sum++[32]++numC n++[32]++catL 32 (cs.map numC)=catL 32 (rowW .Sum n 0 cs):=by
 show _=catL 32 (nmC .Sum::numC n::cs.map numC)
 rw [dE (by simp),dE (by simpa using ne)]
 simp
theorem uV {n m:Nat} {cs:List Nat} (ne:cs≠[]):nmC .Count++[32]++numC n++[32]++numC m++[32]++catL 32 (cs.map numC)=catL 32 (rowW .Count n m cs):=by
 show _=catL 32 (nmC .Count::numC n::numC m::cs.map numC)
 rw [dE (by simp),dE (by simp),dE (by simpa using ne)]
 simp
theorem wB {n:Nat} {cs:List Nat} (ne:cs≠[]):nmC .Seen++[32]++numC n++[32]++catL 32 (cs.map numC)=catL 32 (rowW .Seen n 0 cs):=by
 show _=catL 32 (nmC .Seen::numC n::cs.map numC)
 rw [dE (by simp),dE (by simpa using ne)]
 simp
theorem ue {cs:List Nat} (ne:cs≠[]):nmC .Rising++[32]++catL 32 (cs.map numC)=catL 32 (rowW .Rising 0 0 cs):=by
 show _=catL 32 (nmC .Rising::cs.map numC)
 rw [dE (by simpa using ne)]
 simp
def cJ (K:PySem.W.Frag):Sp:=fun vs H Q _=>∃ (a:Addr) (ns:List Int) (k h w g:Int),vs=[.ref a,.int k,.int (h*w),.int g]∧SqL K H a (ns.map V.int)∧ns.length≤63∧0≤k∧k≤2∧FlOk h w g∧h*w≤9∧1≤h*w∧2≤g∧
 ∀ (r:RR) (H':Hp),Same H H'→r.Ok h w g→Q (.str r.txt) H'
theorem rT {K:PySem.W.Frag} {vs:List V} {H:Hp} {Q:VK} {E:XK} (h:cJ K vs H Q E):vs.length=4:=by
 obtain ⟨_,_,_,_,_,_,rfl,_⟩:=h; rfl
def gJ (K:PySem.W.Frag):TS:=
 (tSeq (tIfS (tTest (tOp (cEq K) (tVar 1) (tC (.int 0)))) (tSeq (tAsg (tOp cMod (tVar 4) (tOp cAdd (tCB kLen (tCons (tVar 5) tNil)) (tC (.int 1)))) (gName 7))
  (tRet (tOp cAdd (tOp cAdd (tOp cAdd (tOp cAdd (tOp cAdd (tC (.str (tx [99,111,117,110,116,32]))) (tCB kStr (tCons (tVar 7) tNil))) (tC (.str (tx [32])))) (tCB kStr (tCons (tOp cAdd (tC (.int 1)) (tOp cMod (tOp cDiv (tVar 4) (tC (.int 11))) (tVar 3))) tNil))) (tC (.str (tx [32])))) (tVar 6)))) tNext)
  (tSeq (tIfS (tTest (tOp (cEq K) (tVar 1) (tC (.int 1)))) (tSeq (tAsg (tOp cAdd (tCB kLen (tCons (tVar 5) tNil)) (tOp cMod (tOp cDiv (tVar 4) (tC (.int 13))) (tOp cAdd (tC (.int 1)) (tOp cMul (tCB kLen (tCons (tVar 5) tNil)) (tOp cSub (tVar 3) (tC (.int 1))))))) (gName 7))
  (tRet (tOp cAdd (tOp cAdd (tOp cAdd (tC (.str (tx [115,117,109,32]))) (tCB kStr (tCons (tVar 7) tNil))) (tC (.str (tx [32])))) (tVar 6)))) tNext)
  (tSeq (tIfS (tTest (tOp (cEq K) (tOp cMod (tVar 4) (tC (.int 3))) (tC (.int 0)))) (tRet (tOp cAdd (tOp cAdd (tOp cAdd (tC (.str (tx [115,101,101,110,32]))) (tCB kStr (tCons (tOp cAdd (tC (.int 1)) (tOp cMod (tOp cDiv (tVar 4) (tC (.int 3))) (tC (.int 3)))) tNil))) (tC (.str (tx [32])))) (tVar 6))) tNext)
  (tRet (tOp cAdd (tC (.str (tx [114,105,115,105,110,103,32]))) (tVar 6))))))
def gD (K:PySem.W.Frag):TS:=
 (tSeq (tAsg (tOp cMod (tOp cMul (tOp cAdd (tCall (bc K) [] E0 (tCons (tVar 0) (tCons (tOp cAdd (tC (.int 1)) (tVar 1)) tNil))) (tOp cMul (tC (.int 61)) (tVar 1))) (tC (.int 48271))) (tC (.int 1000003))) (gName 4))
  (tSeq (tAsg (tSl kT (tCall (b3 K) [] E0 (tCons (tOp cDiv (tVar 4) (tC (.int 7))) (tCons (tVar 2) tNil))) iY (tPart (tOp cAdd (tC (.int 1)) (tOp cMod (tOp cDiv (tVar 4) (tC (.int 50))) (tVar 2))))) (gName 5))
  (tSeq (tAsg (tBM K "str" mQ (tC (.str (tx [32]))) (tCons (tComp [none,none] (iList K (tVar 5)) (gName 1) tTrue (tCB kStr (tCons (tVar 1) tNil))) tNil)) (gName 6))
  (gJ K))))
theorem oJ {K:PySem.W.Frag} {H:Hp} {Q:VK} {a C:Addr} {y k h w g:Int} {cs:List Nat} (k0:0≤k) (k2:k≤2) (F:FlOk h w g) (m9:h*w≤9) (g2:2≤g) (eC:H C=some (.lst ((cs.map fun (n:Nat)=>(n:Int)).map V.int))) (c0:cs≠[]) (cn:cs.length≤9) (nd:cs.Nodup) (ci:∀ c∈cs,(c:Int) < h*w)
  (q:∀ (r:RR) (H':Hp),Same H H'→r.Ok h w g→Q (.str r.txt) H'):
  gJ K { nx:=fun _ H'=>Q .non H',rt:=Q } [some (.ref a),some (.int k),some (.int (h*w)),some (.int g),some (.int y),some (.ref C),some (.str (tx (catL 32 (cs.map numC)))),none] H:=by
 obtain ⟨h0,h1,w0,w1,m16,g0,g1⟩:=id F
 have hcl:=uU (show cs.length≤16 by omega)
 have clen:1≤cs.length:=by cases cs with
  | nil=>exact absurd rfl c0
  | cons _ _=>simp
 have sz:∀ x y:List Nat,x.length+y.length≤1000→(tx x).length+(tx y).length≤sizeLine:=fun x y h=>by rw [iq,iq]; exact aK h
 unfold gJ
 rw [aQ,aH]
 walk_at "w"
 by_cases e0:k=0
 · rw [decide_eq_true e0]
   refine iteT ?_
   walk_at "w"
   rw [cO eC,List.length_map,List.length_map]
   walk_at "w"
   refine ⟨by omega,?_⟩
   have b0:=Int.emod_nonneg y (show (cs.length:Int)+1≠0 by omega)
   have b1:=Int.emod_lt_of_pos y (show 0 < (cs.length:Int)+1 by omega)
   obtain ⟨n,hn⟩:=Int.eq_ofNat_of_zero_le b0
   rw [hn] at b1 ⊢
   have ln:(numC n).length≤2:=gW
   have d0:=Int.emod_nonneg (y / 11) (show g≠0 by omega)
   have d1:=Int.emod_lt_of_pos (y / 11) (show 0 < g by omega)
   obtain ⟨m,hm⟩:=Int.eq_ofNat_of_zero_le (show 0≤1+y / 11 % g by omega)
   have m0:1≤(m:Int):=by rw [← hm]; omega
   have m1:(m:Int)≤g:=by rw [← hm]; omega
   rw [hm]
   have lm:(numC m).length≤2:=gW
   rw [lB (show n < 100 by omega),lB (show m < 100 by omega)]
   simp only [lA]
   refine ⟨lD (by omega),sz _ _ (by simp; omega),sz _ _ (by simp; omega),⟨by decide,by decide⟩,by omega,lD (by omega),sz _ _ (by simp; omega),sz _ _ (by simp; omega),sz _ _ (by simp; omega),?_⟩
   have e:=uV (n:=n) (m:=m) c0
   rw [show nmC .Count=[99,111,117,110,116] from rfl] at e
   simp only [List.cons_append,List.nil_append,List.append_assoc] at e ⊢
   rw [e]
   exact q ⟨.Count,n,m,cs,cs.map fun (n:Nat)=>(n:Int)⟩ H (Same.refl H) (j5 F c0 ci nd (by omega) rfl (by decide) (by omega) (fun e=>by cases e) (fun _=>⟨m0,m1⟩) (fun e=>by cases e))
 rw [decide_eq_false e0]
 refine iteF ?_
 rw [aH]
 walk_at "w"
 by_cases e1:k=1
 · rw [decide_eq_true e1]
   refine iteT ?_
   walk_at "w"
   rw [cO eC,List.length_map,List.length_map]
   have p0:0≤(cs.length:Int)*(g - 1):=Int.mul_nonneg (by omega) (by omega)
   have p1:(cs.length:Int)*(g - 1)≤9*5:=Int.mul_le_mul (by omega) (by omega) (by omega) (by omega)
   walk_at "w"
   refine ⟨⟨by decide,by decide⟩,?_⟩
   rw [cO eC,List.length_map,List.length_map]
   walk_at "w"
   refine ⟨.inl ⟨by omega,by omega⟩,by omega,?_⟩
   have b0:=Int.emod_nonneg (y / 13) (show 1+(cs.length:Int)*(g - 1)≠0 by omega)
   have b1:=Int.emod_lt_of_pos (y / 13) (show 0 < 1+(cs.length:Int)*(g - 1) by omega)
   obtain ⟨n,hn⟩:=Int.eq_ofNat_of_zero_le (show 0≤(cs.length:Int)+y / 13 % (1+(cs.length:Int)*(g - 1)) by omega)
   have n9:n≤99:=by omega
   rw [hn]
   have ln:(numC n).length≤2:=gW
   rw [lB (show n < 100 by omega)]
   simp only [lA]
   refine ⟨lD (by omega),sz _ _ (by simp; omega),sz _ _ (by simp; omega),sz _ _ (by simp; omega),?_⟩
   have e:=yj (n:=n) c0
   rw [show nmC .Sum=[115,117,109] from rfl] at e
   simp only [List.cons_append,List.nil_append,List.append_assoc] at e ⊢
   rw [e]
   exact q ⟨.Sum,n,0,cs,cs.map fun (n:Nat)=>(n:Int)⟩ H (Same.refl H) (j5 F c0 ci nd (by omega) rfl (by decide) n9 (fun e=>by cases e) (fun e=>by cases e) (fun _=>rfl))
 rw [decide_eq_false e1]
 refine iteF ?_
 rw [aH]
 walk_at "w"
 refine ⟨by decide,?_⟩
 cases decide (y % 3=0) with
 | true=>
  refine iteT ?_
  walk_at "w"
  refine ⟨⟨by decide,by decide⟩,by decide,?_⟩
  have b0:=Int.emod_nonneg (y / 3) (show (3:Int)≠0 by decide)
  have b1:=Int.emod_lt_of_pos (y / 3) (show (0:Int) < 3 by decide)
  obtain ⟨n,hn⟩:=Int.eq_ofNat_of_zero_le (show 0≤1+y / 3 % 3 by omega)
  have n9:n≤99:=by omega
  rw [hn]
  have ln:(numC n).length≤2:=gW
  rw [lB (show n < 100 by omega)]
  simp only [lA]
  refine ⟨lD (by omega),sz _ _ (by simp; omega),sz _ _ (by simp; omega),sz _ _ (by simp; omega),?_⟩
  have e:=wB (n:=n) c0
  rw [show nmC .Seen=[115,101,101,110] from rfl] at e
  simp only [List.cons_append,List.nil_append,List.append_assoc] at e ⊢
  rw [e]
  exact q ⟨.Seen,n,0,cs,cs.map fun (n:Nat)=>(n:Int)⟩ H (Same.refl H) (j5 F c0 ci nd (by omega) rfl (by decide) n9 (fun e=>by cases e) (fun e=>by cases e) (fun _=>rfl))
 | false=>
  refine iteF ?_
  walk_at "w"
  simp only [lA]
  refine ⟨sz _ _ (by simp; omega),?_⟩
  have e:=ue c0
  rw [show nmC .Rising=[114,105,115,105,110,103] from rfl] at e
  simp only [List.cons_append,List.nil_append,List.append_assoc] at e ⊢
  rw [e]
  exact q ⟨.Rising,0,0,cs,cs.map fun (n:Nat)=>(n:Int)⟩ H (Same.refl H) (j5 F c0 ci nd (by omega) rfl (by decide) (by decide) (fun _=>rfl) (fun e=>by cases e) (fun _=>rfl))
theorem rV {K:PySem.W.Frag} {vs:List V} {H:Hp} {Q:VK} {E:XK} (h:cJ K vs H Q E):gD K { nx:=fun _ H'=>Q .non H',rt:=Q } (start ["_law_script","_law_k","_law_many","_law_signs","_law_cell","_law_order_here","_law_words","_law_number"] vs) H:=by
 obtain ⟨a,ns,k,h,w,g,rfl,hS,hn,k0,k2,F,m9,m1,g2,q⟩:=h
 show gD K _ [some (.ref a),some (.int k),some (.int (h*w)),some (.int g),none,none,none,none] H
 unfold gD
 walk_at "w"
 refine ⟨a,ns,_,rfl,hS,hn,by omega,by omega,?_⟩
 walk_at "w"
 refine ⟨.inl ⟨by decide,by decide⟩,.inr ⟨by decide,by decide⟩,by decide,?_⟩
 generalize (oI ns (1+k)+61*k)*48271 % 1000003=y at*
 refine ⟨⟨by decide,by decide⟩,?_⟩
 refine ⟨_,_,rfl,by omega,by omega,fun O H2 cs s2 hO eO nd ci cl=>?_⟩
 walk_at "w"
 refine ⟨⟨by decide,by decide⟩,by omega,?_⟩
 have b0:=Int.emod_nonneg (y / 50) (show h*w≠0 by omega)
 have b1:=Int.emod_lt_of_pos (y / 50) (show 0 < h*w by omega)
 generalize y / 50 % (h*w)=b at*
 refine sw eO fun C hC=>?_
 rw [yQ _ (by omega),zP]
 have s3:Same H2 (upd H2 C (.lst (nsV (cs.take (1+b).toNat)))):=(Same.refl H2).laid hC
 have eC:(upd H2 C (.lst (nsV (cs.take (1+b).toNat)))) C=some (.lst ((cs.take (1+b).toNat).map (fun (n:Nat)=>(n:Int)) |>.map V.int)):=ag
 generalize upd H2 C (.lst (nsV (cs.take (1+b).toNat)))=H3 at*
 have t0:cs.take (1+b).toNat≠[]:=fun e=>by
  have:=congrArg List.length e
  rw [List.length_take,List.length_nil] at this
  omega
 have t1:(cs.take (1+b).toNat).length≤9:=by rw [List.length_take]; omega
 have t2:(cs.take (1+b).toNat).Nodup:=nd.sublist (List.take_sublist _ _)
 have t3:∀ c∈cs.take (1+b).toNat,(c:Int) < h*w:=fun c hc=>ci c (List.mem_of_mem_take hc)
 generalize cs.take (1+b).toNat=ts at*
 have hc100:∀ c∈ts,c < 100:=fun c hc=>by have:=t3 c hc; omega
 have s23:=s2.trans s3
 walk_at "w"
 refine ⟨ze,⟨_,SqL.of eC⟩,?_⟩
 refine xT eC (by omega) hc100 fun l H4 hl s4 el=>?_
 walk_at "w"
 refine zJ el (sY (by simp; omega) (fun t ht=>by
  obtain ⟨z,hz,rfl⟩:=List.mem_map.mp ht
  obtain ⟨x,_,rfl⟩:=List.mem_map.mp hz
  rw [iq]; exact Nat.le_trans gW (by decide)) (by rw [iq]; decide)) ?_
 rw [yH,qr]
 exact oJ k0 k2 F m9 g2 (s4 _ _ eC) t0 t1 t2 t3 fun r H' s5 hr=>q r H' ((s23.trans s4).trans s5) hr
def bt (K:PySem.W.Frag):Sp:=fun vs H Q _=>∃ (a:Addr) (ns:List Int) (j many b:Int),vs=[.ref a,.int j,.int many,.int b]∧SqL K H a (ns.map V.int)∧ns.length≤63∧0≤j∧j≤100∧0≤many∧many≤16∧0 < b∧b≤64∧
 ∀ (l:Addr) (H':Hp) (ms:List Int),Same H H'→H' l=some (.lst (ms.map V.int))→ms.length=many.toNat→(∀ m∈ms,0≤m∧m < 64)→Q (.ref l) H'
theorem pY {K:PySem.W.Frag} {vs:List V} {H:Hp} {Q:VK} {E:XK} (h:bt K vs H Q E):vs.length=4:=by
 obtain ⟨_,_,_,_,_,rfl,_⟩:=h; rfl
def eX (K:PySem.W.Frag):TS:=
 (tSeq (tAsg (tLst tNil) (gName 4))
  (tSeq (tFor (cU (tCons (tVar 2) tNil)) (gName 5)
  (tSeq (tAsg (tOp cMod (tOp cMul (tOp cAdd (tOp cAdd (tCall (bc K) [] E0 (tCons (tVar 0) (tCons (tOp cAdd (tVar 1) (tVar 5)) tNil))) (tOp cMul (tOp cMul (tC (.int 67)) (tVar 5)) (tVar 5))) (tVar 1)) (tC (.int 16807))) (tC (.int 65521))) (gName 6))
  (tDrop (tBM K "list" ck (tVar 4) (tCons (tOp cMod (tOp cOr (tOp cDiv (tVar 6) (tC (.int 3))) (tOp cMul (tOp cDiv (tVar 6) (tC (.int 100))) (tCB kM (tCons (tOp (cEq K) (tOp cMod (tVar 6) (tC (.int 3))) (tC (.int 0))) tNil)))) (tVar 3)) tNil)))))
  (tRet (tVar 4))))
theorem pZ {K:PySem.W.Frag} {vs:List V} {H:Hp} {Q:VK} {E:XK} (h:bt K vs H Q E):eX K { nx:=fun _ H'=>Q .non H',rt:=Q } (start ["_law_script","_law_at","_law_many","_law_bound","_law_masks","_law_k","_law_cell"] vs) H:=by
 obtain ⟨a,ns,j,many,b,rfl,hS,hn,j0,j1,m0,m1,b0,b1,q⟩:=h
 show eX K _ [some (.ref a),some (.int j),some (.int many),some (.int b),none,none,none] H
 unfold eX
 walk_at "w"
 refine ⟨aK (by decide),fun L hL=>?_⟩
 refine ⟨_,rfl,by omega,by omega,?_⟩
 refine gN (fun i σ H'=>∃ (kv cv:Option V) (ms:List Int),σ=[some (.ref a),some (.int j),some (.int many),some (.int b),some (.ref L),kv,cv]∧Same H H'∧H' L=some (.lst (ms.map V.int))∧ms.length=i∧∀ m∈ms,0≤m∧m < 64)
  ⟨none,none,[],rfl,(Same.refl H).laid hL,by rw [ag]; rfl,rfl,fun m hm=>by cases hm⟩ ?_ ?_
 · rintro i σ H1 hi ⟨kv,cv,ms,rfl,s1,eL,hl,hm⟩
   rw [Int.zero_add]
   walk_at "w"
   refine ⟨a,ns,_,rfl,s1.seq hS,hn,by omega,by omega,?_⟩
   walk_at "w"
   refine ⟨.inl ⟨by decide,by decide⟩,.inr ⟨by omega,by omega⟩,.inr ⟨by decide,by decide⟩,by decide,?_⟩
   generalize (oI ns (j+(i:Int))+67*(i:Int)*(i:Int)+j)*16807 % 65521=y at*
   have hc:∀ c:Int,c=0∨c=1→CMul (y / 100) c:=fun c hc=>.inr ⟨by omega,by omega⟩
   refine ⟨dv eL,⟨by decide,by decide⟩,⟨by decide,by decide⟩,by decide,?_⟩
   generalize (Builtin.bitOr (y / 3))=f at*
   generalize hd:(if decide (y % 3=0)=true then (1:Int) else 0)=cc
   have c01:cc=0∨cc=1:=by rw [← hd]; split <;> simp
   refine ⟨hc _ c01,b0,?_⟩
   have x0:=Int.emod_nonneg (f (y / 100*cc)) (show b≠0 by omega)
   have x1:=Int.emod_lt_of_pos (f (y / 100*cc)) b0
   generalize f (y / 100*cc) % b=x at*
   rw [kf eL]
   refine ⟨by rw [List.length_map]; exact aE (by omega),_,_,ms++[x],rfl,s1.own hL,by rw [ag]; simp,by simp [hl],fun m hm'=>?_⟩
   rcases List.mem_append.mp hm' with hm' | hm'
   · exact hm m hm'
   · rw [List.mem_singleton.mp hm']; omega
 · rintro σ H1 ⟨kv,cv,ms,rfl,s1,eL,hl,hm⟩
   walk_at "w"
   exact q L H1 ms s1 eL hl hm
theorem wC {i j k:Nat} {x y z:V} {H:Hp} {σ:St} {q:St→Hp→Prop} (h:q (((σ.set i (some x)).set j (some y)).set k (some z)) H):gCons (gName i) (gCons (gName j) (gCons (gName k) gNil)) [x,y,z] σ H q:=⟨x,_,rfl,y,_,rfl,z,_,rfl,rfl,h⟩
theorem y3 {y:RR} {t:TK} {z o:Int} (ht:K39 t) (hz:z∈y.cs) (h:o∈lF y t z):o∈y.cs:=by
 rcases ht with rfl | rfl | rfl | rfl
 · exact (List.mem_filter.mp h).1
 · exact (List.mem_filter.mp h).1
 · rcases List.mem_append.mp h with h | h
   · exact vy hz h
   · exact vz h
 · exact (List.mem_filter.mp h).1
def gZ (n:Nat) (xs masks other:List Int):List Int:=(List.range n).map fun (i:Nat)=>if ((i:Int)∈xs) then masks.getD i 0 else other.getD i 0
theorem y4 {n:Nat} {xs masks other:List Int} {k:Nat} (hk:k < n):(gZ n xs masks other).getD k 0=if ((k:Int)∈xs) then masks.getD k 0 else other.getD k 0:=by
 unfold gZ
 rw [List.getD,List.getElem?_map,List.getElem?_range hk]
 rfl
theorem i9 {l:List Int} {k:Nat} (h:k < l.length):l.getD k 0∈l:=by
 rw [List.getD,List.getElem?_eq_getElem h]; exact List.getElem_mem h
theorem y7 {n:Nat} {xs masks other:List Int} (h1:masks.length=n) (h2:other.length=n) (m1:∀ m∈masks,0≤m∧m < 64) (m2:∀ m∈other,0≤m∧m < 64):∀ m∈gZ n xs masks other,0≤m∧m < 64:=fun m hm=>by
 unfold gZ at hm
 obtain ⟨i,hi,rfl⟩:=List.mem_map.mp hm
 have:=List.mem_range.mp hi
 split
 · exact m1 _ (i9 (by omega))
 · exact m2 _ (i9 (by omega))
structure Held39 (H:Hp) (c:RCl RK) (d:RCl PzK) (P L G A B C T M:Addr) (h w g:Int) (rows:List RR) (cl masks fewer other:List Int) (t:TK) (r z s:Int) (ms:List Int):Prop where
 P:IsPz H c d P L G h w g rows cl
 T:IsTh H T M t r z s ms
 K:K39 t
 A:H A=some (.lst (masks.map V.int))
 B:H B=some (.lst (fewer.map V.int))
 C:H C=some (.lst (other.map V.int))
 ml:masks.length=(h*w).toNat
 fl:fewer.length=masks.length
 ol:other.length=masks.length
 mm:∀ m∈masks,0≤m∧m < 64
 fm:∀ m∈fewer,0≤m∧m < 64
 om:∀ m∈other,0≤m∧m < 64
 le:∀ k,k < masks.length→Sub30 (fewer.getD k 0) (masks.getD k 0)
theorem Held39.same {H H':Hp} {c:RCl RK} {d:RCl PzK} {P L G A B C T M:Addr} {h w g:Int} {rows:List RR} {cl masks fewer other:List Int} {t:TK} {r z s:Int} {ms:List Int} (X:Held39 H c d P L G A B C T M h w g rows cl masks fewer other t r z s ms) (s1:Same H H'):Held39 H' c d P L G A B C T M h w g rows cl masks fewer other t r z s ms:=
 ⟨X.P.same s1,X.T.same s1,X.K,s1 _ _ X.A,s1 _ _ X.B,s1 _ _ X.C,X.ml,X.fl,X.ol,X.mm,X.fm,X.om,X.le⟩
def bM (K:PySem.W.Frag) (c:RCl RK) (d:RCl PzK):Sp:=fun vs H Q _=>∃ (P L G A B C T M U:Addr) (h w g:Int) (rows:List RR) (cl masks fewer other:List Int) (t:TK) (r z s:Int) (ms:List Int),vs=[.ref P,.ref U,.ref T,.int (h*w)]∧Held39 H c d P L G A B C T M h w g rows cl masks fewer other t r z s ms∧H U=some (.tup [.ref A,.ref B,.ref C])∧∀ H',Same H H'→Q (.bl true) H'
theorem qH {K:PySem.W.Frag} {c:RCl RK} {d:RCl PzK} {vs:List V} {H:Hp} {Q:VK} {E:XK} (h:bM K c d vs H Q E):vs.length=4:=by
 obtain ⟨_,_,_,_,_,_,_,_,_,_,_,_,_,_,_,_,_,_,_,_,_,_,rfl,_⟩:=h; rfl
def ga (K:PySem.W.Frag) (c:RCl RK) (d:RCl PzK):TS:=
 (tSeq (tAsg (tVar 1) (gTup K 3 (gCons (gName 4) (gCons (gName 5) (gCons (gName 6) gNil)))))
  (tSeq (tIfS (tNot (tB (tCall (bV K c d) [] E0 (tCons (tVar 0) (tCons (tVar 4) (tCons (tVar 2) tNil)))))) (tRet (tC (.bl true))) tNext)
  (tSeq (tIfS (tNot (tB (tCall (bV K c d) [] E0 (tCons (tVar 0) (tCons (tVar 5) (tCons (tVar 2) tNil)))))) (tRet (tC (.bl false))) tNext)
  (tSeq (tAsg (tCall (cI K c d) [] E0 (tCons (tVar 0) (tCons (tVar 2) tNil))) (gName 7))
  (tSeq (sComp 8 [none,none,some 4,some 6,some 7] (cU (tCons (tVar 3) tNil)) (gName 1) tTrue (tOp cIx (tLst (tCons (tOp cIx (tVar 3) (tVar 1)) (tCons (tOp cIx (tVar 2) (tVar 1)) tNil))) (tCB kM (tCons (tOp (cIn K false) (tVar 1) (tVar 4)) tNil))))
  (tRet (tCall (bV K c d) [] E0 (tCons (tVar 0) (tCons (tVar 8) (tCons (tVar 2) tNil))))))))))
theorem qI {K:PySem.W.Frag} {c:RCl RK} {d:RCl PzK} {vs:List V} {H:Hp} {Q:VK} {E:XK} (h:bM K c d vs H Q E):ga K c d { nx:=fun _ H'=>Q .non H',rt:=Q } (start ["_law_puzzle","_law_lists","_law_thought","_law_many","_law_masks","_law_fewer","_law_other","_law_rests","_law_third"] vs) H:=by
 obtain ⟨P,L,G,A,B,C,T,M,U,h,w,g,rows,cl,masks,fewer,other,t,r,z,s,ms,rfl,X,eU,q⟩:=h
 have hg:=X.P.R.F.g1
 have hmm:=X.P.R.F.m
 have mpos:0≤h*w:=Int.mul_nonneg (by have:=X.P.R.F.h0; omega) (by have:=X.P.R.F.w0; omega)
 have ml:=X.ml
 have fl:=X.fl
 have ol:=X.ol
 show ga K c d _ [some (.ref P),some (.ref U),some (.ref T),some (.int (h*w)),none,none,none,none,none] H
 unfold ga
 walk_at "w"
 refine xJ eU rfl (wC ?_)
 walk_at "w"
 rw [aH]
 walk_at "w"
 refine ⟨P,L,G,A,T,M,h,w,g,rows,cl,masks,t,r,z,s,ms,rfl,⟨X.P,X.T,X.A,X.ml⟩,X.K,X.mm,fun H1 s1=>?_⟩
 cases hb:gi h w g rows masks t r z s ms with
 | false=>
  exact ⟨false,rfl,iteT (q _ s1)⟩
 | true=>
  refine ⟨true,rfl,iteF ?_⟩
  obtain ⟨r0,s0,s6,y,ey,hz⟩:=rm X.K hb
  have O:=X.P.R.ok y (List.mem_of_getElem? ey)
  have hin:=RR.cin22 O X.P.R.F
  have X1:=X.same s1
  have inn:∀ o∈lF y t z,0≤o∧o.toNat < masks.length:=fun o ho=>by
   have:=hin.2 o (y3 X.K hz ho)
   omega
  have hb2:gi h w g rows fewer t r z s ms=true:=pV X.K hg ey (fun o ho=>X.le _ (inn o ho).2) fl hb
  rw [aH]
  walk_at "w"
  refine ⟨P,L,G,B,T,M,h,w,g,rows,cl,fewer,t,r,z,s,ms,rfl,⟨X1.P,X1.T,X1.B,by omega⟩,X.K,X.fm,fun H2 s2=>?_⟩
  rw [hb2]
  refine ⟨true,rfl,iteF ?_⟩
  have X2:=X1.same s2
  walk_at "w"
  refine ⟨P,L,G,T,M,h,w,g,rows,cl,t,r,z,s,ms,y,rfl,X2.P,X2.T,X.K,r0,ey,hz,fun R H3 xs s3 hR eR pm _=>?_⟩
  have X3:=X2.same s3
  walk_at "w"
  refine ⟨_,rfl,by omega,by omega,?_⟩
  refine kW (fun _=>true) (fun (i:Nat)=>if ((i:Int)∈xs) then masks.getD i 0 else other.getD i 0) (by omega) ?_ ?_ ?_
  · intro i H4 R4 hi s4 k4
    exact k4 _ (Same.refl _)
  · intro i H4 Q4 hi hb4 s4 k4
    show tOp cIx _ _ [none,some (.int (0+(i:Int))),some (.ref A),some (.ref C),some (.ref R)] H4 Q4
    rw [Int.zero_add]
    have X4:=X3.same s4
    walk_at "w"
    refine ixI X4.C (by omega) (by omega) ?_
    walk_at "w"
    refine ixI X4.A (by omega) (by omega) ?_
    rw [Int.toNat_natCast]
    walk_at "w"
    refine ⟨aK (by show (2:Nat)≤1000; decide),fun W hW=>?_⟩
    have s5:Same H4 (upd H4 W (.lst [V.int (other.getD i 0),V.int (masks.getD i 0)])):=(Same.refl H4).laid hW
    have eW:(upd H4 W (.lst [V.int (other.getD i 0),V.int (masks.getD i 0)])) W=some (.lst [V.int (other.getD i 0),V.int (masks.getD i 0)]):=ag
    generalize upd H4 W (.lst [V.int (other.getD i 0),V.int (masks.getD i 0)])=H5 at*
    have k5:=k4 H5 s5
    rw [qo ((s4.trans s5) _ _ eR)]
    walk_at "w"
    by_cases hx:(i:Int)∈xs
    · rw [if_pos hx] at k5
      rw [if_pos (decide_eq_true hx)]
      exact ixL eW rfl k5
    · rw [if_neg hx] at k5
      rw [if_neg (by simpa using hx)]
      exact ixL eW rfl k5
  · intro N H4 hN s4 eN
    have X4:=X3.same s4
    rw [bf] at eN
    have eN:H4 N=some (.lst ((gZ (h*w).toNat xs masks other).map V.int)):=eN
    have tl:(gZ (h*w).toNat xs masks other).length=masks.length:=by unfold gZ; rw [List.length_map,List.length_range]; omega
    have tm:=y7 (xs:=xs) ml (show other.length=(h*w).toNat by omega) X.mm X.om
    have hb3:gi h w g rows (gZ (h*w).toNat xs masks other) t r z s ms=true:=pV X.K hg ey (fun o ho=>by
     have i1:=inn o ho
     rw [y4 (by omega),if_pos (by rw [show ((o.toNat:Nat):Int)=o by omega]; exact pm.mem_iff.mpr ho)]
     have b:=X.mm _ (i9 i1.2)
     exact Sub30.self39 b.1 b.2) tl hb
    walk_at "w"
    refine ⟨P,L,G,N,T,M,h,w,g,rows,cl,_,t,r,z,s,ms,rfl,⟨X4.P,X4.T,eN,by omega⟩,X.K,tm,fun H5 s6=>?_⟩
    rw [hb3]
    exact q _ (((s1.trans s2).trans s3).trans (s4.trans s6))
def j6 (n:Nat) (a b:List Int):List Int:=(List.range n).map fun (i:Nat)=>Builtin.bitAnd (a.getD i 0) (b.getD i 0)
theorem y8 {n:Nat} {a b:List Int} {k:Nat} (hk:k < n):(j6 n a b).getD k 0=Builtin.bitAnd (a.getD k 0) (b.getD k 0):=by
 unfold j6
 rw [List.getD,List.getElem?_map,List.getElem?_range hk]
 rfl
theorem rp {n:Nat} {a b:List Int}:(j6 n a b).length=n:=by unfold j6; rw [List.length_map,List.length_range]
theorem uf {n:Nat} {a b:List Int} (ha:a.length=n) (hb:b.length=n) (ma:∀ m∈a,0≤m∧m < 64) (mb:∀ m∈b,0≤m∧m < 64):∀ k,k < a.length→Sub30 ((j6 n a b).getD k 0) (a.getD k 0):=fun k hk=>by
 have x:=ma _ (i9 hk)
 have y:=mb _ (i9 (show k < b.length by omega))
 rw [y8 (by omega)]
 exact ro x.1 x.2 y.1
theorem ug {n:Nat} {a b:List Int} (ha:a.length=n) (hb:b.length=n) (ma:∀ m∈a,0≤m∧m < 64) (mb:∀ m∈b,0≤m∧m < 64):∀ m∈j6 n a b,0≤m∧m < 64:=fun m hm=>by
 unfold j6 at hm
 obtain ⟨i,hi,rfl⟩:=List.mem_map.mp hm
 have:=List.mem_range.mp hi
 have x:=ma _ (i9 (show i < a.length by omega))
 have y:=mb _ (i9 (show i < b.length by omega))
 have s:=ro x.1 x.2 y.1
 exact ⟨s.a0,s.a1⟩
theorem p5 {H1:Hp} {A W:Addr} {a b:List Int} {n:Nat} {fin:Addr→Hp→Prop} (hn:n≤16) (ha:a.length=n) (hb:b.length=n) (eA:H1 A=some (.lst (a.map V.int))) (eW:H1 W=some (.lst (b.map V.int)))
  (hd:∀ l H,H1 l=none→Same H1 H→H l=some (.lst ((j6 n a b).map V.int))→fin l H):
  CompR (Itr 0 n) (gName 1) tTrue (tOp cAnd (tOp cIx (tVar 3) (tVar 1)) (tOp cIx (tVar 2) (tVar 1))) fin [none,none,some (.ref W),some (.ref A)] H1:=by
 refine kW (fun _=>true) (fun (i:Nat)=>Builtin.bitAnd (a.getD i 0) (b.getD i 0)) (by omega) ?_ ?_ ?_
 · intro i H4 R4 hi s4 k4
   exact k4 _ (Same.refl _)
 · intro i H4 Q4 hi hb4 s4 k4
   show tOp cAnd _ _ [none,some (.int (0+(i:Int))),some (.ref W),some (.ref A)] H4 Q4
   rw [Int.zero_add]
   walk_at "w"
   refine ixI (s4 _ _ eA) (by omega) (by omega) ?_
   walk_at "w"
   refine ixI (s4 _ _ eW) (by omega) (by omega) ?_
   rw [Int.toNat_natCast]
   exact k4 _ (Same.refl _)
 · intro N H4 hN s4 eN
   rw [bf] at eN
   exact hd N H4 hN s4 eN
def uh (K:PySem.W.Frag) (c:RCl RK) (d:RCl PzK):Sp:=fun vs H Q _=>∃ (a:Addr) (ns:List Int),vs=[.ref a]∧SqL K H a (ns.map V.int)∧ns.length≤63∧(∀ k,k≠.Rule→c.ok k=true)∧d.ok .Puzzle=true∧∀ H',Q (.bl true) H'
def qJ (K:PySem.W.Frag):Sp:=fun vs H Q _=>∃ (a:Addr) (ns:List Int),vs=[.ref a]∧SqL K H a (ns.map V.int)∧ns.length≤63∧∀ H',Q (.bl true) H'
theorem AQ {K:PySem.W.Frag} {c:RCl RK} {d:RCl PzK} {vs:List V} {H:Hp} {Q:VK} {E:XK} (h:uh K c d vs H Q E):vs.length=1:=by
 obtain ⟨_,_,rfl,_⟩:=h; rfl
def y9 (K:PySem.W.Frag) (c:RCl RK) (d:RCl PzK):TS:=
 (tSeq (tAsg (tTup (tCons (tVar 16) (tCons (tVar 15) (tCons (tVar 7) (tCons (tOp cAdd (tC (.int 1)) (tOp cMod (tVar 8) (tVar 4))) (tCons (tLst tNil) tNil)))))) (gName 17))
  (tSeq (tIfS (tNot (tB (tCall (bM K c d) [] E0 (tCons (tVar 9) (tCons (tTup (tCons (tVar 11) (tCons (tVar 13) (tCons (tVar 14) tNil)))) (tCons (tVar 17) (tCons (tVar 5) tNil))))))) (tRet (tC (.bl false))) tNext)
  (tIfS (tNot (tB (tCall (bM K c d) [] E0 (tCons (tVar 9) (tCons (tTup (tCons (tVar 14) (tCons (tComp [none,none,some 12,some 14] (cU (tCons (tVar 5) tNil)) (gName 1) tTrue (tOp cAnd (tOp cIx (tVar 3) (tVar 1)) (tOp cIx (tVar 2) (tVar 1)))) (tCons (tVar 11) tNil)))) (tCons (tVar 17) (tCons (tVar 5) tNil))))))) (tRet (tC (.bl false))) tNext)))
def l0 (K:PySem.W.Frag) (c:RCl RK) (d:RCl PzK):TS:=
 (tSeq (tFor (cU (tCons (tC (.int 3)) tNil)) (gName 15)
  (tFor (cU (tCons (tVar 5) tNil)) (gName 7)
  (tSeq (tAsg (tOp cMod (tOp cMul (tOp cAdd (tOp cAdd (tCall (bc K) [] E0 (tCons (tVar 0) (tCons (tOp cAdd (tC (.int 46)) (tVar 7)) tNil))) (tOp cMul (tOp cMul (tC (.int 71)) (tVar 7)) (tVar 7))) (tVar 15)) (tC (.int 30011))) (tC (.int 50021))) (gName 8))
  (tFor (iList K (tLst (tCons (tOp cIx (tLst (tCons (tC (.str (tx [99,111,117,110,116]))) (tCons (tC (.str (tx [115,117,109]))) (tCons (tC (.str (tx [115,116,101,112]))) tNil)))) (tVar 15)) (tCons (tC (.str (tx [119,97,121,115]))) tNil)))) (gName 16)
  (y9 K c d)))))
  (tRet (tC (.bl true))))
def mZ (K:PySem.W.Frag) (c:RCl RK) (d:RCl PzK):TS:=
 (tSeq (tAsg (tOp cIx (tLst (tCons (tC (.int 1)) (tCons (tC (.int 2)) (tCons (tC (.int 4)) (tCons (tC (.int 8)) (tCons (tC (.int 16)) (tCons (tC (.int 32)) tNil))))))) (tVar 4)) (gName 10))
  (tSeq (tAsg (tCall (bt K) [] E0 (tCons (tVar 0) (tCons (tC (.int 4)) (tCons (tVar 5) (tCons (tVar 10) tNil))))) (gName 11))
  (tSeq (tAsg (tCall (bt K) [] E0 (tCons (tVar 0) (tCons (tC (.int 20)) (tCons (tVar 5) (tCons (tVar 10) tNil))))) (gName 12))
  (tSeq (sComp 13 [none,none,some 12,some 11] (cU (tCons (tVar 5) tNil)) (gName 1) tTrue (tOp cAnd (tOp cIx (tVar 3) (tVar 1)) (tOp cIx (tVar 2) (tVar 1))))
  (tSeq (tAsg (tCall (bt K) [] E0 (tCons (tVar 0) (tCons (tC (.int 37)) (tCons (tVar 5) (tCons (tVar 10) tNil))))) (gName 14))
  (l0 K c d))))))
def m3 (K:PySem.W.Frag) (c:RCl RK) (d:RCl PzK):TS:=
 (tSeq (tAsg (tOp cAdd (tC (.int 2)) (tOp cMod (tOp cDiv (tVar 1) (tC (.int 6))) (tC (.int 4)))) (gName 4))
  (tSeq (tAsg (tOp cMul (tVar 2) (tVar 3)) (gName 5))
  (tSeq (tAsg (tLst tNil) (gName 6))
  (tSeq (tFor (cU (tCons (tVar 5) tNil)) (gName 7)
  (tSeq (tAsg (tOp cMod (tOp cMul (tOp cAdd (tCall (bc K) [] E0 (tCons (tVar 0) (tCons (tOp cAdd (tC (.int 55)) (tVar 7)) tNil))) (tOp cMul (tC (.int 7)) (tVar 7))) (tC (.int 69621))) (tC (.int 50021))) (gName 8))
  (tDrop (tBM K "list" ck (tVar 6) (tCons (tOp cIx (tLst (tCons (tC (.int 0)) (tCons (tC (.int 0)) (tCons (tOp cAdd (tC (.int 1)) (tOp cMod (tOp cDiv (tVar 8) (tC (.int 3))) (tVar 4))) tNil)))) (tOp cMod (tVar 8) (tC (.int 3)))) tNil)))))
  (tSeq (tAsg (tMake (d.A .Puzzle) (bb K c d) [] E0 (tCons (tTup (tCons (tVar 2) (tCons (tVar 3) (tCons (tVar 4) tNil)))) (tCons (tComp [none,none,some 5,some 0,some 4] (cU (tCons (tC (.int 3)) tNil)) (gName 1) tTrue (tCall (cJ K) [] E0 (tCons (tVar 3) (tCons (tVar 1) (tCons (tVar 2) (tCons (tVar 4) tNil)))))) (tCons (tVar 6) tNil)))) (gName 9))
  (mZ K c d))))))
def m4 (K:PySem.W.Frag) (c:RCl RK) (d:RCl PzK):TS:=
 (tSeq (tAsg (tOp cIx (tLst (tCons (tTup (tCons (tC (.int 1)) (tCons (tC (.int 2)) tNil))) (tCons (tTup (tCons (tC (.int 2)) (tCons (tC (.int 2)) tNil))) (tCons (tTup (tCons (tC (.int 5)) (tCons (tC (.int 1)) tNil))) (tCons (tTup (tCons (tC (.int 3)) (tCons (tC (.int 2)) tNil))) (tCons (tTup (tCons (tC (.int 3)) (tCons (tC (.int 3)) tNil))) (tCons (tTup (tCons (tC (.int 2)) (tCons (tC (.int 4)) tNil))) tNil))))))) (tOp cMod (tVar 1) (tC (.int 6)))) (gTup K 2 (gCons (gName 2) (gCons (gName 3) gNil))))
  (m3 K c d))
def p6 (K:PySem.W.Frag) (c:RCl RK) (d:RCl PzK):TS:=
 (tSeq (tAsg (tOp cMod (tOp cMul (tCall (bc K) [] E0 (tCons (tVar 0) (tCons (tC (.int 0)) tNil))) (tC (.int 69621))) (tC (.int 65537))) (gName 1))
  (m4 K c d))
structure L39 (K:PySem.W.Frag) (H:Hp) (c:RCl RK) (d:RCl PzK) (a P L G A W B C:Addr) (ns:List Int) (h w g:Int) (rows:List RR) (cl masks few other:List Int):Prop where
 S:SqL K H a (ns.map V.int)
 n:ns.length≤63
 P:IsPz H c d P L G h w g rows cl
 A:H A=some (.lst (masks.map V.int))
 W:H W=some (.lst (few.map V.int))
 B:H B=some (.lst ((j6 (h*w).toNat masks few).map V.int))
 C:H C=some (.lst (other.map V.int))
 ml:masks.length=(h*w).toNat
 fl:few.length=(h*w).toNat
 ol:other.length=(h*w).toNat
 mm:∀ m∈masks,0≤m∧m < 64
 fm:∀ m∈few,0≤m∧m < 64
 om:∀ m∈other,0≤m∧m < 64
theorem L39.same {K:PySem.W.Frag} {H H':Hp} {c:RCl RK} {d:RCl PzK} {a P L G A W B C:Addr} {ns:List Int} {h w g:Int} {rows:List RR} {cl masks few other:List Int} (X:L39 K H c d a P L G A W B C ns h w g rows cl masks few other) (s:Same H H'):L39 K H' c d a P L G A W B C ns h w g rows cl masks few other:=
 ⟨s.seq X.S,X.n,X.P.same s,s _ _ X.A,s _ _ X.W,s _ _ X.B,s _ _ X.C,X.ml,X.fl,X.ol,X.mm,X.fm,X.om⟩
theorem zX {K:PySem.W.Frag} {c:RCl RK} {d:RCl PzK} {H:Hp} {D:Ends} {a P L G A W B C:Addr} {ns:List Int} {h w g:Int} {rows:List RR} {cl masks few other:List Int} {v1 v2 v3 v6 v10 v17:Option V} {t:TK} {z r y:Int} (X:L39 K H c d a P L G A W B C ns h w g rows cl masks few other) (ht:K39 t)
  (q:∀ (v17:Option V) (H':Hp),Same H H'→D.nx [some (.ref a),v1,v2,v3,some (.int g),some (.int (h*w)),v6,some (.int z),some (.int y),some (.ref P),v10,some (.ref A),some (.ref W),some (.ref B),some (.ref C),some (.int r),some (.str (tx (tkC t))),v17] H'):
  y9 K c d D [some (.ref a),v1,v2,v3,some (.int g),some (.int (h*w)),v6,some (.int z),some (.int y),some (.ref P),v10,some (.ref A),some (.ref W),some (.ref B),some (.ref C),some (.int r),some (.str (tx (tkC t))),v17] H:=by
 have g0:=X.P.R.F.g0
 have hmm:=X.P.R.F.m
 have mpos:0≤h*w:=Int.mul_nonneg (by have:=X.P.R.F.h0; omega) (by have:=X.P.R.F.w0; omega)
 have ml:=X.ml
 have fl:=X.fl
 have ol:=X.ol
 unfold y9
 walk_at "w"
 refine ⟨by omega,aK (by decide),fun M hM=>?_⟩
 have s1:Same H (upd H M (.lst [])):=(Same.refl H).laid hM
 have eM:(upd H M (.lst [])) M=some (.lst (([]:List Int).map V.int)):=ag
 generalize upd H M (.lst [])=H1 at*
 generalize 1+y % g=s at*
 refine ⟨aK (by show (5:Nat)≤1000; decide),fun T hT=>?_⟩
 have s2:Same H1 (upd H1 T (.tup [V.str (tx (tkC t)),V.int r,V.int z,V.int s,V.ref M])):=(Same.refl H1).laid hT
 have Th:IsTh (upd H1 T (.tup [V.str (tx (tkC t)),V.int r,V.int z,V.int s,V.ref M])) T M t r z s []:=⟨ag,s2 _ _ eM,by simp⟩
 generalize upd H1 T (.tup [V.str (tx (tkC t)),V.int r,V.int z,V.int s,V.ref M])=H2 at*
 have X2:=X.same (s1.trans s2)
 rw [aH]
 walk_at "w"
 refine ⟨aK (by show (3:Nat)≤1000; decide),fun U hU=>?_⟩
 have s3:Same H2 (upd H2 U (.tup [V.ref A,V.ref B,V.ref C])):=(Same.refl H2).laid hU
 have eU:(upd H2 U (.tup [V.ref A,V.ref B,V.ref C])) U=some (.tup [V.ref A,V.ref B,V.ref C]):=ag
 generalize upd H2 U (.tup [V.ref A,V.ref B,V.ref C])=H3 at*
 have X3:=X2.same s3
 refine ⟨P,L,G,A,B,C,T,M,U,h,w,g,rows,cl,masks,_,other,t,r,z,s,[],rfl,⟨X3.P,Th.same s3,ht,X3.A,X3.B,X3.C,ml,by rw [rp]; omega,by omega,X.mm,ug ml fl X.mm X.fm,X.om,uf ml fl X.mm X.fm⟩,eU,fun H4 s4=>?_⟩
 refine ⟨true,rfl,iteF ?_⟩
 have X4:=X3.same s4
 rw [aH]
 walk_at "w"
 refine ⟨_,rfl,by omega,by omega,?_⟩
 refine p5 (n:=(h*w).toNat) (by omega) ol fl X4.C X4.W fun N H5 hN s5 eN=>?_
 have X5:=X4.same s5
 walk_at "w"
 refine ⟨aK (by show (3:Nat)≤1000; decide),fun U2 hU2=>?_⟩
 have s6:Same H5 (upd H5 U2 (.tup [V.ref C,V.ref N,V.ref A])):=(Same.refl H5).laid hU2
 have eU2:(upd H5 U2 (.tup [V.ref C,V.ref N,V.ref A])) U2=some (.tup [V.ref C,V.ref N,V.ref A]):=ag
 generalize upd H5 U2 (.tup [V.ref C,V.ref N,V.ref A])=H6 at*
 have X6:=X5.same s6
 have s36:=(s3.trans s4).trans (s5.trans s6)
 refine ⟨P,L,G,C,N,A,T,M,U2,h,w,g,rows,cl,other,_,masks,t,r,z,s,[],rfl,⟨X6.P,Th.same s36,ht,X6.C,s6 _ _ eN,X6.A,ol,by rw [rp]; omega,by omega,X.om,ug ol fl X.om X.fm,X.mm,uf ol fl X.om X.fm⟩,eU2,fun H7 s7=>?_⟩
 refine ⟨true,rfl,iteF ?_⟩
 walk_at "w"
 exact q _ H7 ((s1.trans s2).trans (s36.trans s7))
theorem Be {j:Nat} (hj:j < 3):∃ t:TK,K39 t∧atI [V.str (tx [99,111,117,110,116]),V.str (tx [115,117,109]),V.str (tx [115,116,101,112])] (j:Int)=some (V.str (tx (tkC t))):=by
 match j,hj with
 | 0,_=>exact ⟨.count,.inl rfl,rfl⟩
 | 1,_=>exact ⟨.sum,.inr (.inl rfl),rfl⟩
 | 2,_=>exact ⟨.step,.inr (.inr (.inl rfl)),rfl⟩
theorem wD {K:PySem.W.Frag} {c:RCl RK} {d:RCl PzK} {H:Hp} {Q:VK} {a P L G A W B C:Addr} {ns:List Int} {h w g:Int} {rows:List RR} {cl masks few other:List Int} {v1 v2 v3 v6 v7 v8 v10:Option V} (X:L39 K H c d a P L G A W B C ns h w g rows cl masks few other) (k:∀ H',Q (.bl true) H'):
  l0 K c d { nx:=fun _ H'=>Q .non H',rt:=Q } [some (.ref a),v1,v2,v3,some (.int g),some (.int (h*w)),v6,v7,v8,some (.ref P),v10,some (.ref A),some (.ref W),some (.ref B),some (.ref C),none,none,none] H:=by
 have g0:=X.P.R.F.g0
 have hmm:=X.P.R.F.m
 have mpos:0≤h*w:=Int.mul_nonneg (by have:=X.P.R.F.h0; omega) (by have:=X.P.R.F.w0; omega)
 unfold l0
 walk_at "w"
 refine ⟨3,rfl,by decide,by decide,?_⟩
 refine gN (fun i σ H'=>∃ v7 v8 v15 v16 v17:Option V,σ=[some (.ref a),v1,v2,v3,some (.int g),some (.int (h*w)),v6,v7,v8,some (.ref P),v10,some (.ref A),some (.ref W),some (.ref B),some (.ref C),v15,v16,v17]∧Same H H') ⟨_,_,_,_,_,rfl,Same.refl H⟩ ?_ ?_
 · rintro i σ H1 hi ⟨v7,v8,v15,v16,v17,rfl,s1⟩
   rw [Int.zero_add]
   walk_at "w"
   refine ⟨_,rfl,by omega,by omega,?_⟩
   refine gN (fun j σ H'=>∃ v7 v8 v16 v17:Option V,σ=[some (.ref a),v1,v2,v3,some (.int g),some (.int (h*w)),v6,v7,v8,some (.ref P),v10,some (.ref A),some (.ref W),some (.ref B),some (.ref C),some (.int (i:Int)),v16,v17]∧Same H H') ⟨_,_,_,_,rfl,s1⟩ ?_ ?_
   · rintro j σ H2 hj ⟨v7,v8,v16,v17,rfl,s2⟩
     have hj':j < (h*w).toNat:=hj
     have X2:=X.same s2
     rw [Int.zero_add]
     walk_at "w"
     refine ⟨a,ns,_,rfl,X2.S,X2.n,by omega,by omega,?_⟩
     walk_at "w"
     refine ⟨.inl ⟨by decide,by decide⟩,.inr ⟨by omega,by omega⟩,.inr ⟨by decide,by decide⟩,by decide,?_⟩
     generalize (oI ns (46+(j:Int))+71*(j:Int)*(j:Int)+(i:Int))*30011 % 50021=y at*
     refine ⟨aK (by show (3:Nat)≤1000; decide),fun U1 hU1=>?_⟩
     obtain ⟨t,ht,et⟩:=Be (show i < 3 from hi)
     have s3:Same H2 (upd H2 U1 (.lst [V.str (tx [99,111,117,110,116]),V.str (tx [115,117,109]),V.str (tx [115,116,101,112])])):=(Same.refl H2).laid hU1
     have e3:(upd H2 U1 (.lst [V.str (tx [99,111,117,110,116]),V.str (tx [115,117,109]),V.str (tx [115,116,101,112])])) U1=some (.lst [V.str (tx [99,111,117,110,116]),V.str (tx [115,117,109]),V.str (tx [115,116,101,112])]):=ag
     generalize upd H2 U1 (.lst [V.str (tx [99,111,117,110,116]),V.str (tx [115,117,109]),V.str (tx [115,116,101,112])])=H3 at*
     refine ixL e3 et ?_
     walk_at "w"
     refine ⟨aK (by show (2:Nat)≤1000; decide),fun U2 hU2=>?_⟩
     have s4:Same H3 (upd H3 U2 (.lst [V.str (tx (tkC t)),V.str (tx (tkC .ways))])):=(Same.refl H3).laid hU2
     have e4:(upd H3 U2 (.lst [V.str (tx (tkC t)),V.str (tx (tkC .ways))])) U2=some (.lst [V.str (tx (tkC t)),V.str (tx (tkC .ways))]):=ag
     have hz:upd H3 U2 (.lst [V.str (tx (tkC t)),V.str (tx [119,97,121,115])])=upd H3 U2 (.lst [V.str (tx (tkC t)),V.str (tx (tkC .ways))]):=rfl
     rw [hz]
     generalize upd H3 U2 (.lst [V.str (tx (tkC t)),V.str (tx (tkC .ways))])=H4 at*
     have s24:=(s2.trans s3).trans s4
     refine ⟨⟨_,SqL.of e4⟩,?_⟩
     refine gG (K:=K) (xs:=[V.str (tx (tkC t)),V.str (tx (tkC .ways))]) (fun _ σ H'=>∃ v16 v17:Option V,σ=[some (.ref a),v1,v2,v3,some (.int g),some (.int (h*w)),v6,some (.int (j:Int)),some (.int y),some (.ref P),v10,some (.ref A),some (.ref W),some (.ref B),some (.ref C),some (.int (i:Int)),v16,v17]∧Same H4 H') ⟨_,_,rfl,Same.refl H4⟩ (fun i' σ' H' _ ⟨_,_,_,s⟩=>SqL.of (s _ _ e4)) ?_ ?_
     · rintro i' x σ' H5 hx ⟨v16,v17,rfl,s5⟩
       obtain ⟨t2,ht2,rfl⟩:∃ t2:TK,K39 t2∧x=V.str (tx (tkC t2)):=by
        match i',hx with
        | 0,hx=>simp at hx; exact ⟨t,ht,hx.symm⟩
        | 1,hx=>simp at hx; exact ⟨.ways,.inr (.inr (.inr rfl)),hx.symm⟩
       walk_at "w"
       exact zX (X.same (s24.trans s5)) ht2 fun u17 H' s6=>⟨_,_,rfl,s5.trans s6⟩
     · rintro σ' H5 ⟨v16,v17,rfl,s5⟩
       exact ⟨_,_,_,_,rfl,s24.trans s5⟩
   · rintro σ H2 ⟨v7,v8,v16,v17,rfl,s2⟩
     exact ⟨_,_,_,_,_,rfl,s2⟩
 · rintro σ H1 ⟨v7,v8,v15,v16,v17,rfl,s1⟩
   walk_at "w"
   exact k _
theorem za {g:Int} (g0:2≤g) (g5:g≤5):∃ b:Int,0 < b∧b≤64∧atI [V.int 1,V.int 2,V.int 4,V.int 8,V.int 16,V.int 32] g=some (V.int b):=by
 have:g=2∨g=3∨g=4∨g=5:=by omega
 rcases this with rfl | rfl | rfl | rfl
 · exact ⟨4,by decide,by decide,rfl⟩
 · exact ⟨8,by decide,by decide,rfl⟩
 · exact ⟨16,by decide,by decide,rfl⟩
 · exact ⟨32,by decide,by decide,rfl⟩
theorem yk {K:PySem.W.Frag} {c:RCl RK} {d:RCl PzK} {H:Hp} {Q:VK} {a P L G:Addr} {ns:List Int} {h w g:Int} {rows:List RR} {cl:List Int} {v1 v2 v3 v6 v7 v8:Option V} (hS:SqL K H a (ns.map V.int)) (hn:ns.length≤63) (X:IsPz H c d P L G h w g rows cl) (g2:2≤g) (g5:g≤5) (k:∀ H',Q (.bl true) H'):
  mZ K c d { nx:=fun _ H'=>Q .non H',rt:=Q } [some (.ref a),v1,v2,v3,some (.int g),some (.int (h*w)),v6,v7,v8,some (.ref P),none,none,none,none,none,none,none,none] H:=by
 have hmm:=X.R.F.m
 have mpos:0≤h*w:=Int.mul_nonneg (by have:=X.R.F.h0; omega) (by have:=X.R.F.w0; omega)
 unfold mZ
 walk_at "w"
 refine ⟨aK (by show (6:Nat)≤1000; decide),fun U hU=>?_⟩
 have s1:Same H (upd H U (.lst [V.int 1,V.int 2,V.int 4,V.int 8,V.int 16,V.int 32])):=(Same.refl H).laid hU
 have e1:(upd H U (.lst [V.int 1,V.int 2,V.int 4,V.int 8,V.int 16,V.int 32])) U=some (.lst [V.int 1,V.int 2,V.int 4,V.int 8,V.int 16,V.int 32]):=ag
 generalize upd H U (.lst [V.int 1,V.int 2,V.int 4,V.int 8,V.int 16,V.int 32])=H1 at*
 obtain ⟨b,b0,b1,eb⟩:=za g2 g5
 refine ixL e1 eb ?_
 walk_at "w"
 refine ⟨a,ns,4,h*w,b,rfl,s1.seq hS,hn,by decide,by decide,mpos,hmm,b0,b1,fun A H2 masks s2 eA ml mm=>?_⟩
 have s12:=s1.trans s2
 walk_at "w"
 refine ⟨a,ns,20,h*w,b,rfl,s12.seq hS,hn,by decide,by decide,mpos,hmm,b0,b1,fun W H3 few s3 eW fl fm=>?_⟩
 have s13:=s12.trans s3
 walk_at "w"
 refine ⟨_,rfl,by omega,by omega,?_⟩
 refine p5 (n:=(h*w).toNat) (by omega) ml fl (s3 _ _ eA) eW fun B H4 hB s4 eB=>?_
 have s14:=s13.trans s4
 walk_at "w"
 refine ⟨a,ns,37,h*w,b,rfl,s14.seq hS,hn,by decide,by decide,mpos,hmm,b0,b1,fun C H5 other s5 eC ol om=>?_⟩
 have s15:=s14.trans s5
 have s45:=s4.trans s5
 exact wD ⟨s15.seq hS,hn,X.same s15,s45 _ _ (s3 _ _ eA),s45 _ _ eW,s5 _ _ eB,eC,ml,fl,ol,mm,fm,om⟩ k
theorem yl {K:PySem.W.Frag} {c:RCl RK} {d:RCl PzK} {H:Hp} {Q:VK} {a:Addr} {ns:List Int} {y h w:Int} (hS:SqL K H a (ns.map V.int)) (hn:ns.length≤63) (h0:1≤h) (h6:h≤6) (w0:1≤w) (w6:w≤6) (m1:1≤h*w) (m9:h*w≤9) (hk:∀ k,k≠.Rule→c.ok k=true) (ok:d.ok .Puzzle=true) (k:∀ H',Q (.bl true) H'):
  m3 K c d { nx:=fun _ H'=>Q .non H',rt:=Q } [some (.ref a),some (.int y),some (.int h),some (.int w),none,none,none,none,none,none,none,none,none,none,none,none,none,none] H:=by
 unfold m3
 walk_at "w"
 refine ⟨⟨by decide,by decide⟩,by decide,?_⟩
 have g0:=Int.emod_nonneg (y / 6) (show (4:Int)≠0 by decide)
 have g1:=Int.emod_lt_of_pos (y / 6) (show (0:Int) < 4 by decide)
 have g2:2≤2+y / 6 % 4:=by omega
 have g5:2+y / 6 % 4≤5:=by omega
 generalize 2+y / 6 % 4=g at*
 have F:FlOk h w g:=⟨h0,h6,w0,w6,by omega,by omega,by omega⟩
 refine ⟨mP h0 h6,aK (by decide),fun Cl hCl=>?_⟩
 refine ⟨_,rfl,by omega,by omega,?_⟩
 refine gN (fun i σ H'=>∃ (v7 v8:Option V) (cl:List Int),σ=[some (.ref a),some (.int y),some (.int h),some (.int w),some (.int g),some (.int (h*w)),some (.ref Cl),v7,v8,none,none,none,none,none,none,none,none,none]∧Same H H'∧H' Cl=some (.lst (cl.map V.int))∧cl.length=i∧∀ x∈cl,0≤x∧x≤g)
  ⟨none,none,[],rfl,(Same.refl H).laid hCl,by rw [ag]; rfl,rfl,fun m hm=>by cases hm⟩ ?_ ?_
 · rintro i σ H1 hi ⟨v7,v8,cl,rfl,s1,eL,hl,hm⟩
   have hi':i < (h*w).toNat:=hi
   rw [Int.zero_add]
   walk_at "w"
   refine ⟨a,ns,_,rfl,s1.seq hS,hn,by omega,by omega,?_⟩
   walk_at "w"
   refine ⟨.inl ⟨by decide,by decide⟩,.inr ⟨by decide,by decide⟩,by decide,?_⟩
   generalize (oI ns (55+(i:Int))+7*(i:Int))*69621 % 50021=e at*
   have d0:=Int.emod_nonneg (e / 3) (show g≠0 by omega)
   have d1:=Int.emod_lt_of_pos (e / 3) (show 0 < g by omega)
   refine ⟨dv eL,⟨by decide,by decide⟩,by omega,?_⟩
   generalize e / 3 % g=u at*
   refine ⟨aK (by show (3:Nat)≤1000; decide),fun U hU=>?_⟩
   have s2:Same H1 (upd H1 U (.lst [V.int 0,V.int 0,V.int (1+u)])):=(Same.refl H1).laid hU
   have e2:(upd H1 U (.lst [V.int 0,V.int 0,V.int (1+u)])) U=some (.lst [V.int 0,V.int 0,V.int (1+u)]):=ag
   generalize upd H1 U (.lst [V.int 0,V.int 0,V.int (1+u)])=H2 at*
   refine ⟨by decide,?_⟩
   obtain ⟨x,x0,x1,ex⟩:∃ x:Int,0≤x∧x≤g∧atI [V.int 0,V.int 0,V.int (1+u)] (e % 3)=some (V.int x):=by
    have:e % 3=0∨e % 3=1∨e % 3=2:=by omega
    rcases this with e | e | e
    · rw [e]; exact ⟨0,by decide,by omega,rfl⟩
    · rw [e]; exact ⟨0,by decide,by omega,rfl⟩
    · rw [e]; exact ⟨1+u,by omega,by omega,rfl⟩
   refine ixL e2 ex ?_
   walk_at "w"
   rw [kf (s2 _ _ eL)]
   refine ⟨by rw [List.length_map]; exact aE (by omega),_,_,cl++[x],rfl,(s1.trans s2).own hCl,by rw [ag]; simp,by simp [hl],fun m hm'=>?_⟩
   rcases List.mem_append.mp hm' with hm' | hm'
   · exact hm m hm'
   · rw [List.mem_singleton.mp hm']; exact ⟨x0,x1⟩
 · rintro σ H1 ⟨v7,v8,cl,rfl,s1,eL,hl,hm⟩
   have hl':cl.length=(h*w).toNat:=hl
   walk_at "w"
   refine ⟨aK (by show (3:Nat)≤1000; decide),fun p hp=>?_⟩
   have s2:Same H1 (upd H1 p (.tup [V.int h,V.int w,V.int g])):=(Same.refl H1).laid hp
   have ep:IsFl (upd H1 p (.tup [V.int h,V.int w,V.int g])) p h w g:=ag
   generalize upd H1 p (.tup [V.int h,V.int w,V.int g])=H2 at*
   refine ⟨3,rfl,by decide,by decide,?_⟩
   refine yb (h:=h) (w:=w) (g:=g) F (by decide) hk ?_ ?_
   · intro i H3 Q3 hi s3 k3
     have hi':i < 3:=hi
     show tCall _ _ _ _ [none,some (.int (0+(i:Int))),some (.int (h*w)),some (.ref a),some (.int g)] H3 Q3
     rw [Int.zero_add]
     walk_at "w"
     exact ⟨a,ns,_,h,w,g,rfl,((s1.trans s2).trans s3).seq hS,hn,by omega,by omega,F,m9,m1,g2,k3⟩
   · intro Ll rows H3 hL s3 eLl hrl R
     have s23:=s2.trans s3
     walk_at "w"
     refine AG ok (s3 _ _ ep) eLl (s23 _ _ eL) R ⟨hl',hm⟩ fun P L G H4 s4 hP hL2 hG X=>?_
     exact yk (((s1.trans s23).trans s4).seq hS) hn X g2 g5 k
def fl39:List (Int × Int):=[(1,2),(2,2),(5,1),(3,2),(3,3),(2,4)]
theorem zY:∀ p∈fl39,1≤p.1∧p.1≤6∧1≤p.2∧p.2≤6∧1≤p.1*p.2∧p.1*p.2≤9:=by decide
theorem ym {K:PySem.W.Frag} {c:RCl RK} {d:RCl PzK} {H:Hp} {Q:VK} {a:Addr} {ns:List Int} {n:Int} (hS:SqL K H a (ns.map V.int)) (hn:ns.length≤63) (hk:∀ k,k≠.Rule→c.ok k=true) (ok:d.ok .Puzzle=true) (k:∀ H',Q (.bl true) H'):
  m4 K c d { nx:=fun _ H'=>Q .non H',rt:=Q } [some (.ref a),some (.int n),none,none,none,none,none,none,none,none,none,none,none,none,none,none,none,none] H:=by
 unfold m4
 rw [aQ,dw,g8,gn]
 refine ud fl39 H _ fun as H1 s1 hl ha=>?_
 have hl6:as.length=6:=hl
 refine ⟨by rw [List.length_map]; exact aK (by omega),fun U hU=>?_⟩
 have s2:Same H1 (upd H1 U (.lst (as.map V.ref))):=(Same.refl H1).laid hU
 have eU:(upd H1 U (.lst (as.map V.ref))) U=some (.lst (as.map V.ref)):=ag
 generalize upd H1 U (.lst (as.map V.ref))=H2 at*
 walk_at "w"
 refine ⟨by decide,?_⟩
 have j0:=Int.emod_nonneg n (show (6:Int)≠0 by decide)
 have j1:=Int.emod_lt_of_pos n (show (0:Int) < 6 by decide)
 have ej:n % 6=(((n % 6).toNat:Nat):Int):=by omega
 have hj:(n % 6).toNat < fl39.length:=by show _ < 6; omega
 rw [ej]
 generalize (n % 6).toNat=j at*
 have ea:as[j]? =some (as[j]'(by omega)):=List.getElem?_eq_getElem (by omega)
 have ep:fl39[j]? =some fl39[j]:=List.getElem?_eq_getElem hj
 have et:=ha j _ _ ea ep
 have ok2:=zY _ (List.getElem_mem hj)
 generalize fl39[j]=pr at*
 refine ixL eU (v:=V.ref (as[j]'(by omega))) (fL (by rw [List.getElem?_map,ea]; rfl)) ?_
 refine xJ (s2 _ _ et) rfl ?_
 rw [yG]
 walk_at "w"
 exact yl ((s1.trans s2).seq hS) hn ok2.1 ok2.2.1 ok2.2.2.1 ok2.2.2.2.1 ok2.2.2.2.2.1 ok2.2.2.2.2.2 hk ok k
theorem AR {K:PySem.W.Frag} {c:RCl RK} {d:RCl PzK} {vs:List V} {H:Hp} {Q:VK} {E:XK} (h:uh K c d vs H Q E):p6 K c d { nx:=fun _ H'=>Q .non H',rt:=Q } (start ["_law_script","_law_cell","_law_high","_law_wide","_law_signs","_law_many","_law_clues","_law_k","_law_more","_law_puzzle","_law_bound","_law_masks","_law_few","_law_fewer","_law_other","_law_number","_law_word","_law_thought"] vs) H:=by
 obtain ⟨a,ns,rfl,hS,hn,hk,ok,k⟩:=h
 show p6 K c d _ [some (.ref a),none,none,none,none,none,none,none,none,none,none,none,none,none,none,none,none,none] H
 unfold p6
 walk_at "w"
 refine ⟨a,ns,0,rfl,hS,hn,by decide,by decide,?_⟩
 walk_at "w"
 refine ⟨.inr ⟨by decide,by decide⟩,by decide,?_⟩
 generalize oI ns 0*69621 % 65537=n at*
 exact ym hS hn hk ok k
end L2
namespace L2
open PySem PySem.Spec PyProof.Rows
end L2
namespace L2
open PySem PySem.Spec PyProof.Rows
end L2
namespace L2
open PySem PySem.Spec PyProof.Rows
section
variable {X:Cx} {e:Expr} {es rs:List Expr} {te:TE} {t:TA}
theorem ja {k} {p:Pos} (ha:PE X (.Tuple rs k p) te) (hr:PA X es t):PA X (.Tuple rs k p::es) (tCons te t):=aa ha hr
theorem b8 {c:Const} {k} {p:Pos} (ha:PE X (.Constant c k p) te) (hr:PA X es t):PA X (.Constant c k p::es) (tCons te t):=aa ha hr
end
end L2
namespace L2
open PySem PySem.Spec PyProof.Rows
section
variable {P:Program} {w:World} {K:PySem.W.Frag} {mg:Str→Option Value} {base:Heap} {k:Nat} {x qual y:Str} {st:Stmt} {f:Addr} {fd:FuncData} {sp:Sp}
theorem kS {a0:Str} (F:Fun K x qual st f fd) (h:∀ (kV doc pm:Value) (an:Option Addr) (cdv ct u0:Value),bindArgs (PySem.W.fnOf x qual (bD st) (bv st) (ah st) .none kV doc pm an cdv ct) ⟨[u0],[]⟩=pure (([a0]:List Str).zip [u0]):=by intros; rfl):Binds K fd [a0] []:=F.binds fun _ _ _ _ _ _ us hl=>match us,hl with | [u0],_=>h _ _ _ _ _ _ _
theorem l5 {a0:Str} (T:FnOk P w K mg base CX0 k f fd [a0] sp) (F:Fun K x qual st f fd) (hm:mg y=some (.ref f)) (h:∀ (kV doc pm:Value) (an:Option Addr) (cdv ct u0:Value),bindArgs (PySem.W.fnOf x qual (bD st) (bv st) (ah st) .none kV doc pm an cdv ct) ⟨[u0],[]⟩=pure (([a0]:List Str).zip [u0]):=by intros; rfl):Cal P w K mg base k y [a0] sp:=⟨f,fd,T,hm,F.kp,kS F h⟩
theorem gE {a0 a1:Str} (F:Fun K x qual st f fd) (h:∀ (kV doc pm:Value) (an:Option Addr) (cdv ct u0 u1:Value),bindArgs (PySem.W.fnOf x qual (bD st) (bv st) (ah st) .none kV doc pm an cdv ct) ⟨[u0,u1],[]⟩=pure (([a0,a1]:List Str).zip [u0,u1]):=by intros; rfl):Binds K fd [a0,a1] []:=F.binds fun _ _ _ _ _ _ us hl=>match us,hl with | [u0,u1],_=>h _ _ _ _ _ _ _ _
theorem bx {a0 a1:Str} (T:FnOk P w K mg base CX0 k f fd [a0,a1] sp) (F:Fun K x qual st f fd) (hm:mg y=some (.ref f)) (h:∀ (kV doc pm:Value) (an:Option Addr) (cdv ct u0 u1:Value),bindArgs (PySem.W.fnOf x qual (bD st) (bv st) (ah st) .none kV doc pm an cdv ct) ⟨[u0,u1],[]⟩=pure (([a0,a1]:List Str).zip [u0,u1]):=by intros; rfl):Cal P w K mg base k y [a0,a1] sp:=⟨f,fd,T,hm,F.kp,gE F h⟩
theorem zi {a0 a1 a2:Str} (F:Fun K x qual st f fd) (h:∀ (kV doc pm:Value) (an:Option Addr) (cdv ct u0 u1 u2:Value),bindArgs (PySem.W.fnOf x qual (bD st) (bv st) (ah st) .none kV doc pm an cdv ct) ⟨[u0,u1,u2],[]⟩=pure (([a0,a1,a2]:List Str).zip [u0,u1,u2]):=by intros; rfl):Binds K fd [a0,a1,a2] []:=F.binds fun _ _ _ _ _ _ us hl=>match us,hl with | [u0,u1,u2],_=>h _ _ _ _ _ _ _ _ _
theorem jM {a0 a1 a2:Str} (T:FnOk P w K mg base CX0 k f fd [a0,a1,a2] sp) (F:Fun K x qual st f fd) (hm:mg y=some (.ref f)) (h:∀ (kV doc pm:Value) (an:Option Addr) (cdv ct u0 u1 u2:Value),bindArgs (PySem.W.fnOf x qual (bD st) (bv st) (ah st) .none kV doc pm an cdv ct) ⟨[u0,u1,u2],[]⟩=pure (([a0,a1,a2]:List Str).zip [u0,u1,u2]):=by intros; rfl):Cal P w K mg base k y [a0,a1,a2] sp:=⟨f,fd,T,hm,F.kp,zi F h⟩
theorem zj {a0 a1 a2 a3:Str} (F:Fun K x qual st f fd) (h:∀ (kV doc pm:Value) (an:Option Addr) (cdv ct u0 u1 u2 u3:Value),bindArgs (PySem.W.fnOf x qual (bD st) (bv st) (ah st) .none kV doc pm an cdv ct) ⟨[u0,u1,u2,u3],[]⟩=pure (([a0,a1,a2,a3]:List Str).zip [u0,u1,u2,u3]):=by intros; rfl):Binds K fd [a0,a1,a2,a3] []:=F.binds fun _ _ _ _ _ _ us hl=>match us,hl with | [u0,u1,u2,u3],_=>h _ _ _ _ _ _ _ _ _ _
theorem wE {a0 a1 a2 a3:Str} (T:FnOk P w K mg base CX0 k f fd [a0,a1,a2,a3] sp) (F:Fun K x qual st f fd) (hm:mg y=some (.ref f)) (h:∀ (kV doc pm:Value) (an:Option Addr) (cdv ct u0 u1 u2 u3:Value),bindArgs (PySem.W.fnOf x qual (bD st) (bv st) (ah st) .none kV doc pm an cdv ct) ⟨[u0,u1,u2,u3],[]⟩=pure (([a0,a1,a2,a3]:List Str).zip [u0,u1,u2,u3]):=by intros; rfl):Cal P w K mg base k y [a0,a1,a2,a3] sp:=⟨f,fd,T,hm,F.kp,zj F h⟩
theorem Ba {a0 a1 a2 a3 a4:Str} (F:Fun K x qual st f fd) (h:∀ (kV doc pm:Value) (an:Option Addr) (cdv ct u0 u1 u2 u3 u4:Value),bindArgs (PySem.W.fnOf x qual (bD st) (bv st) (ah st) .none kV doc pm an cdv ct) ⟨[u0,u1,u2,u3,u4],[]⟩=pure (([a0,a1,a2,a3,a4]:List Str).zip [u0,u1,u2,u3,u4]):=by intros; rfl):Binds K fd [a0,a1,a2,a3,a4] []:=F.binds fun _ _ _ _ _ _ us hl=>match us,hl with | [u0,u1,u2,u3,u4],_=>h _ _ _ _ _ _ _ _ _ _ _
theorem ui {a0 a1 a2 a3 a4:Str} (T:FnOk P w K mg base CX0 k f fd [a0,a1,a2,a3,a4] sp) (F:Fun K x qual st f fd) (hm:mg y=some (.ref f)) (h:∀ (kV doc pm:Value) (an:Option Addr) (cdv ct u0 u1 u2 u3 u4:Value),bindArgs (PySem.W.fnOf x qual (bD st) (bv st) (ah st) .none kV doc pm an cdv ct) ⟨[u0,u1,u2,u3,u4],[]⟩=pure (([a0,a1,a2,a3,a4]:List Str).zip [u0,u1,u2,u3,u4]):=by intros; rfl):Cal P w K mg base k y [a0,a1,a2,a3,a4] sp:=⟨f,fd,T,hm,F.kp,Ba F h⟩
theorem Bb {a0 a1 a2 a3 a4 a5:Str} (F:Fun K x qual st f fd) (h:∀ (kV doc pm:Value) (an:Option Addr) (cdv ct u0 u1 u2 u3 u4 u5:Value),bindArgs (PySem.W.fnOf x qual (bD st) (bv st) (ah st) .none kV doc pm an cdv ct) ⟨[u0,u1,u2,u3,u4,u5],[]⟩=pure (([a0,a1,a2,a3,a4,a5]:List Str).zip [u0,u1,u2,u3,u4,u5]):=by intros; rfl):Binds K fd [a0,a1,a2,a3,a4,a5] []:=F.binds fun _ _ _ _ _ _ us hl=>match us,hl with | [u0,u1,u2,u3,u4,u5],_=>h _ _ _ _ _ _ _ _ _ _ _ _
end
end L2
namespace L2
open PySem PySem.Spec PyProof.Rows
def top (i:Nat):Stmt:=PySem.Challenge.pw_cluemaker_k39_whole_less_stands_more_is.main.body.getD i (.Pass ⟨0,0,0,0⟩)
def mtop (i j:Nat):Stmt:=match top i with
 | .ClassDef _ _ _ body _ _ _ _ _ _ _=>body.getD j (.Pass ⟨0,0,0,0⟩)
 | s=>s
abbrev l6:Stmt:=top 10
theorem sc_is_whole:am ["value"] ["value"] (ah l6):=⟨rfl,rfl,rfl,by decide+kernel,rfl,by decide+kernel,by decide+kernel⟩
set_option maxHeartbeats 4000000 in
theorem uW {P:Program} {w:World} {K:PySem.W.Frag} {mg:Str→Option Value} {base:Heap} (B:Bt2 mg) {f:Addr} {fd:FuncData} (F:Fun K "is_whole" "is_whole" l6 f fd):FnOk P w K mg base CX0 1 f fd ["value"] (aY K):=by
 refine F.ok sc_is_whole (fun vs H Q E h=>uG h) (fun cdv A outer s H vs Q E hr h=>?_)
 have hu:=hr.units
 have nd:=sc_is_whole.nd
 refine ⟨jq K,?_,uH h⟩
 exact (ae (ai (cK (ay e6 rfl B.isinstance_ b5 (aa (pv 0) (aa (iX (v:=.ty "int") rfl B.int_ o6 rfl) ac))) (c5 (wU (ay e6 rfl B.isinstance_ b5 (aa (pv 0) (aa (iX (v:=.ty "bool") rfl B.bool_ zA rfl) ac))))))))
abbrev kt:Stmt:=top 13
theorem sc_many_cells:am ["floor"] ["floor"] (ah kt):=⟨rfl,rfl,rfl,by decide+kernel,rfl,by decide+kernel,by decide+kernel⟩
set_option maxHeartbeats 4000000 in
theorem rW {P:Program} {w:World} {K:PySem.W.Frag} {mg:Str→Option Value} {base:Heap} (B:Bt2 mg) {f:Addr} {fd:FuncData} (F:Fun K "many_cells" "many_cells" kt f fd):FnOk P w K mg base CX0 1 f fd ["floor"] (aP K):=by
 refine F.ok sc_many_cells (fun vs H Q E h=>rA h) (fun cdv A outer s H vs Q E hr h=>?_)
 have hu:=hr.units
 have nd:=sc_many_cells.nd
 refine ⟨gp K,?_,rB h⟩
 exact (ae (ai (ao bh (aw (aA hu) (pv 0) af (fun _ _=>rfl)) (aw (aA hu) (pv 0) af (fun _ _=>rfl)))))
abbrev m5:Stmt:=top 14
theorem sc_spot_of:am ["floor","cell","wide"] ["floor","cell"] (ah m5):=⟨rfl,rfl,rfl,by decide+kernel,rfl,by decide+kernel,by decide+kernel⟩
set_option maxHeartbeats 4000000 in
theorem wF {P:Program} {w:World} {K:PySem.W.Frag} {mg:Str→Option Value} {base:Heap} (B:Bt2 mg) {f:Addr} {fd:FuncData} (F:Fun K "spot_of" "spot_of" m5 f fd):FnOk P w K mg base CX0 1 f fd ["floor","cell"] (cP K):=by
 refine F.ok sc_spot_of (fun vs H Q E h=>vX h) (fun cdv A outer s H vs Q E hr h=>?_)
 have hu:=hr.units
 have nd:=sc_spot_of.nd
 refine ⟨jT K,?_,vY h⟩
 exact (ad (av (i:=2) nd rfl (Or.inl rfl) (aw (aA hu) (pv 0) af (fun _ _=>rfl)))
   (ae (ai (dJ (aa (ao c7 (pv 1) (pv 2)) (aa (ao bd (pv 1) (pv 2)) ac))))))
abbrev k7:Stmt:=top 17
theorem sc_square_at:am ["floor","corner","below"] ["floor","corner"] (ah k7):=⟨rfl,rfl,rfl,by decide+kernel,rfl,by decide+kernel,by decide+kernel⟩
set_option maxHeartbeats 4000000 in
theorem uj {P:Program} {w:World} {K:PySem.W.Frag} {mg:Str→Option Value} {base:Heap} (B:Bt2 mg) {f:Addr} {fd:FuncData} (F:Fun K "square_at" "square_at" k7 f fd):FnOk P w K mg base CX0 1 f fd ["floor","corner"] (de K):=by
 refine F.ok sc_square_at (fun vs H Q E h=>tw h) (fun cdv A outer s H vs Q E hr h=>?_)
 have hu:=hr.units
 have nd:=sc_square_at.nd
 refine ⟨iv K,?_,tz h⟩
 exact (ad (av (i:=2) nd rfl (Or.inl rfl) (ao aD (pv 1) (aw (aA hu) (pv 0) af (fun _ _=>rfl))))
   (ae (ai (aW (aa (pv 1) (aa (ao aD (pv 1) af) (aa (pv 2) (aa (ao aD (pv 2) af) ac))))))))
abbrev oK:Stmt:=top 21
theorem sc_bit_of:am ["sign","bit","step"] ["sign"] (ah oK):=⟨rfl,rfl,rfl,by decide+kernel,rfl,by decide+kernel,by decide+kernel⟩
set_option maxHeartbeats 4000000 in
theorem yn {P:Program} {w:World} {K:PySem.W.Frag} {mg:Str→Option Value} {base:Heap} (B:Bt2 mg) {f:Addr} {fd:FuncData} (F:Fun K "bit_of" "bit_of" oK f fd):FnOk P w K mg base CX0 1 f fd ["sign"] (gX K):=by
 refine F.ok sc_bit_of (fun vs H Q E h=>xW h) (fun cdv A outer s H vs Q E hr h=>?_)
 have hu:=hr.units
 have nd:=sc_bit_of.nd
 refine ⟨kP K,?_,xX h⟩
 exact (ad (av (i:=1) nd rfl (Or.inl rfl) af)
   (ad (c6 PassesOwn.never rfl (bF rfl B.range_ (aa (ao cj (pv 0) af) ac)) (aB (i:=2) nd rfl (Or.inl rfl))
   (ae (av (i:=1) nd rfl (Or.inl rfl) (ao bh (pv 1) af))))
   (ae (ai (pv 1)))))
abbrev oM:Stmt:=top 22
theorem sc_stands:am ["mask","sign"] ["mask","sign"] (ah oM):=⟨rfl,rfl,rfl,by decide+kernel,rfl,by decide+kernel,by decide+kernel⟩
set_option maxHeartbeats 4000000 in
theorem yo {P:Program} {w:World} {K:PySem.W.Frag} {mg:Str→Option Value} {base:Heap} (B:Bt2 mg) {f:Addr} {fd:FuncData} (F:Fun K "stands" "stands" oM f fd):FnOk P w K mg base CX0 1 f fd ["mask","sign"] (ce K):=by
 refine F.ok sc_stands (fun vs H Q E h=>xU h) (fun cdv A outer s H vs Q E hr h=>?_)
 have hu:=hr.units
 have nd:=sc_stands.nd
 refine ⟨kO K,?_,xV h⟩
 exact (ae (ai (cK (aF jy af (pv 1) (ap _)) (cK (aF jy (pv 1) (xj PySem.F.plainAttrs_int PySem.F.slot_int_bit_length PySem.F.type_int_bit_length o9 (pv 0)) (ap _)) (c5 (aF (aG hu) (ao bd (ao zC (pv 0) (ao cj (pv 1) af)) af) af (ap _)))))))
abbrev m6:Stmt:=top 26
theorem sc_clashes:am ["masks"] ["masks"] (ah m6):=⟨rfl,rfl,rfl,by decide+kernel,rfl,by decide+kernel,by decide+kernel⟩
set_option maxHeartbeats 4000000 in
theorem wG {P:Program} {w:World} {K:PySem.W.Frag} {mg:Str→Option Value} {base:Heap} (B:Bt2 mg) {f:Addr} {fd:FuncData} (F:Fun K "clashes" "clashes" m6 f fd):FnOk P w K mg base CX0 1 f fd ["masks"] (cR K):=by
 refine F.ok sc_clashes (fun vs H Q E h=>wt h) (fun cdv A outer s H vs Q E hr h=>?_)
 have hu:=hr.units
 have nd:=sc_clashes.nd
 refine ⟨j3 K,?_,wu h⟩
 exact (ae (ai (aF (kc hu) af (pv 0) (by with_unfolding_all rfl))))
abbrev l7:Stmt:=top 37
theorem sc_masks_at:am ["masks","cells"] ["masks","cells"] (ah l7):=⟨rfl,rfl,rfl,by decide+kernel,rfl,by decide+kernel,by decide+kernel⟩
set_option maxHeartbeats 4000000 in
theorem uX {P:Program} {w:World} {K:PySem.W.Frag} {mg:Str→Option Value} {base:Heap} (B:Bt2 mg) {f:Addr} {fd:FuncData} (F:Fun K "masks_at" "masks_at" l7 f fd):FnOk P w K mg base CX0 1 f fd ["masks","cells"] (bB K):=by
 refine F.ok sc_masks_at (fun vs H Q E h=>uO h) (fun cdv A outer s H vs Q E hr h=>?_)
 have hu:=hr.units
 have nd:=sc_masks_at.nd
 refine ⟨ju K,?_,uP h⟩
 exact (ae (ai (aM (ix:=[none,none,some 0]) [".0","cell","masks"] (aJ rfl (by decide+kernel) rfl rfl rfl) rfl (aO (pv 1)) (fun cl s H fp=>(aB (i:=1) (show ([".0","cell","masks"]:List Str).Nodup by decide+kernel) rfl (Or.inl rfl))) (fun cl s H fp=>aU) (fun cl s H fp=>(aw (aA hu) (pv 2) (pv 1) (fun _ _=>rfl))))))
abbrev k8:Stmt:=top 59
theorem sc_with_sign:am ["filling","cell","sign"] ["filling","cell","sign"] (ah k8):=⟨rfl,rfl,rfl,by decide+kernel,rfl,by decide+kernel,by decide+kernel⟩
set_option maxHeartbeats 4000000 in
theorem uk {P:Program} {w:World} {K:PySem.W.Frag} {mg:Str→Option Value} {base:Heap} (B:Bt2 mg) {f:Addr} {fd:FuncData} (F:Fun K "with_sign" "with_sign" k8 f fd):FnOk P w K mg base CX0 1 f fd ["filling","cell","sign"] (bU K):=by
 refine F.ok sc_with_sign (fun vs H Q E h=>tY h) (fun cdv A outer s H vs Q E hr h=>?_)
 have hu:=hr.units
 have nd:=sc_with_sign.nd
 refine ⟨iK K,?_,tZ h⟩
 exact (ae (ai (aM (ix:=[none,none,none,some 1,some 2]) [".0","place","other","cell","sign"] (aJ rfl (by decide+kernel) rfl rfl rfl) rfl (zD rfl B.enumerate_ (aa (pv 0) ac)) (fun cl s H fp=>(sB rfl (gF (aB (i:=1) (show ([".0","place","other","cell","sign"]:List Str).Nodup by decide+kernel) rfl (Or.inl rfl)) (gF (aB (i:=2) (show ([".0","place","other","cell","sign"]:List Str).Nodup by decide+kernel) rfl (Or.inl rfl)) qk)))) (fun cl s H fp=>aU) (fun cl s H fp=>(n6 (ax (aG hu) (pv 1) (pv 3) (ap _)) (pv 4) (pv 2))))))
abbrev k9:Stmt:=top 78
theorem sc_is_within:am ["some","cells"] ["some","cells"] (ah k9):=⟨rfl,rfl,rfl,by decide+kernel,rfl,by decide+kernel,by decide+kernel⟩
set_option maxHeartbeats 4000000 in
theorem ul {P:Program} {w:World} {K:PySem.W.Frag} {mg:Str→Option Value} {base:Heap} (B:Bt2 mg) {f:Addr} {fd:FuncData} (F:Fun K "is_within" "is_within" k9 f fd):FnOk P w K mg base CX0 1 f fd ["some","cells"] (dj K):=by
 refine F.ok sc_is_within (fun vs H Q E h=>tV h) (fun cdv A outer s H vs Q E hr h=>?_)
 have hu:=hr.units
 have nd:=sc_is_within.nd
 refine ⟨iJ K,?_,tW h⟩
 exact (ae (ai (ay (dn rfl) rfl B.all_ jB (aa (aM (ix:=[none,none,some 1]) [".0","cell","cells"] (aJ rfl (by decide+kernel) rfl rfl rfl) rfl (aO (pv 0)) (fun cl s H fp=>(aB (i:=1) (show ([".0","cell","cells"]:List Str).Nodup by decide+kernel) rfl (Or.inl rfl))) (fun cl s H fp=>aU) (fun cl s H fp=>(aF (kc hu) (pv 1) (pv 2) (by with_unfolding_all rfl)))) ac))))
abbrev iO:Stmt:=mtop 79 0
theorem sc_Rule___init__:am ["self","floor","words","cells","amount","mark"] ["self","floor","words","cells","amount","mark"] (ah iO):=⟨rfl,rfl,rfl,by decide+kernel,rfl,by decide+kernel,by decide+kernel⟩
set_option maxHeartbeats 4000000 in
theorem oN {P:Program} {w:World} {K:PySem.W.Frag} {mg:Str→Option Value} {base:Heap} (B:Bt2 mg) {c:RCl RK} (FK_c_amount:FldK K c "amount") (FK_c_cells:FldK K c "cells") (FK_c_floor:FldK K c "floor") (FK_c_mark:FldK K c "mark") (FK_c_words:FldK K c "words") {f:Addr} {fd:FuncData} (F:Fun K "__init__" "Rule.__init__" iO f fd):FnOk P w K mg base CX0 1 f fd ["self","floor","words","cells","amount","mark"] (au K c):=by
 refine F.ok sc_Rule___init__ (fun vs H Q E h=>oj h) (fun cdv A outer s H vs Q E hr h=>?_)
 have hu:=hr.units
 have nd:=sc_Rule___init__.nd
 refine ⟨dA K c,?_,oo h⟩
 exact (ad (gU (pv 0) (pv 1) FK_c_floor)
   (ad (gU (pv 0) (bp n4 rfl B.tuple_ lJ (aa (pv 2) ac)) FK_c_words)
   (ad (gU (pv 0) (bp n4 rfl B.tuple_ lJ (aa (pv 3) ac)) FK_c_cells)
   (ad (gU (pv 0) (pv 4) FK_c_amount)
   (ae (gU (pv 0) (pv 5) FK_c_mark))))))
abbrev lc:Stmt:=mtop 79 1
theorem sc_Rule_name:am ["self"] ["self"] (ah lc):=⟨rfl,rfl,rfl,by decide+kernel,rfl,by decide+kernel,by decide+kernel⟩
set_option maxHeartbeats 4000000 in
theorem um {P:Program} {w:World} {K:PySem.W.Frag} {mg:Str→Option Value} {base:Heap} (B:Bt2 mg) {c:RCl RK} (FK_c_words:FldK K c "words") {f:Addr} {fd:FuncData} (F:Fun K "name" "Rule.name" lc f fd):FnOk P w K mg base CX0 1 f fd ["self"] (iw K c):=by
 refine F.ok sc_Rule_name (fun vs H Q E h=>tD h) (fun cdv A outer s H vs Q E hr h=>?_)
 have hu:=hr.units
 have nd:=sc_Rule_name.nd
 refine ⟨iy K c,?_,tE h⟩
 exact (ae (ai (aw (aA hu) (bu (pv 0) FK_c_words) af (fun _ _=>rfl))))
abbrev ku:Stmt:=mtop 79 2
theorem sc_Rule_spots:am ["self"] ["self"] (ah ku):=⟨rfl,rfl,rfl,by decide+kernel,rfl,by decide+kernel,by decide+kernel⟩
set_option maxHeartbeats 4000000 in
theorem rX {P:Program} {w:World} {K:PySem.W.Frag} {mg:Str→Option Value} {base:Heap} (B:Bt2 mg) {c:RCl RK} (FK_c_cells:FldK K c "cells") {f:Addr} {fd:FuncData} (F:Fun K "spots" "Rule.spots" ku f fd):FnOk P w K mg base CX0 1 f fd ["self"] (gq K c):=by
 refine F.ok sc_Rule_spots (fun vs H Q E h=>rC h) (fun cdv A outer s H vs Q E hr h=>?_)
 have hu:=hr.units
 have nd:=sc_Rule_spots.nd
 refine ⟨gr K c,?_,rD h⟩
 exact (ae (ai (bp jS rfl B.list_ i4 (aa (bu (pv 0) FK_c_cells) ac))))
abbrev jN:Stmt:=mtop 79 3
theorem sc_Rule_number:am ["self"] ["self"] (ah jN):=⟨rfl,rfl,rfl,by decide+kernel,rfl,by decide+kernel,by decide+kernel⟩
set_option maxHeartbeats 4000000 in
theorem qK {P:Program} {w:World} {K:PySem.W.Frag} {mg:Str→Option Value} {base:Heap} (B:Bt2 mg) {c:RCl RK} (FK_c_amount:FldK K c "amount") {f:Addr} {fd:FuncData} (F:Fun K "number" "Rule.number" jN f fd):FnOk P w K mg base CX0 1 f fd ["self"] (fO K c):=by
 refine F.ok sc_Rule_number (fun vs H Q E h=>qt h) (fun cdv A outer s H vs Q E hr h=>?_)
 have hu:=hr.units
 have nd:=sc_Rule_number.nd
 refine ⟨fP K c,?_,qu h⟩
 exact (ae (ai (bu (pv 0) FK_c_amount)))
abbrev ld:Stmt:=mtop 79 4
theorem sc_Rule_sign:am ["self"] ["self"] (ah ld):=⟨rfl,rfl,rfl,by decide+kernel,rfl,by decide+kernel,by decide+kernel⟩
set_option maxHeartbeats 4000000 in
theorem uo {P:Program} {w:World} {K:PySem.W.Frag} {mg:Str→Option Value} {base:Heap} (B:Bt2 mg) {c:RCl RK} (FK_c_mark:FldK K c "mark") {f:Addr} {fd:FuncData} (F:Fun K "sign" "Rule.sign" ld f fd):FnOk P w K mg base CX0 1 f fd ["self"] (iz K c):=by
 refine F.ok sc_Rule_sign (fun vs H Q E h=>tF h) (fun cdv A outer s H vs Q E hr h=>?_)
 have hu:=hr.units
 have nd:=sc_Rule_sign.nd
 refine ⟨iA K c,?_,tG h⟩
 exact (ae (ai (bu (pv 0) FK_c_mark)))
abbrev iP:Stmt:=mtop 79 8
theorem sc_Rule_signs_at:am ["self","filling"] ["self","filling"] (ah iP):=⟨rfl,rfl,rfl,by decide+kernel,rfl,by decide+kernel,by decide+kernel⟩
set_option maxHeartbeats 4000000 in
theorem oO {P:Program} {w:World} {K:PySem.W.Frag} {mg:Str→Option Value} {base:Heap} (B:Bt2 mg) {c:RCl RK} (FK_c_cells:FldK K c "cells") {f:Addr} {fd:FuncData} (F:Fun K "signs_at" "Rule.signs_at" iP f fd):FnOk P w K mg base CX0 1 f fd ["self","filling"] (dB K c):=by
 refine F.ok sc_Rule_signs_at (fun vs H Q E h=>oq h) (fun cdv A outer s H vs Q E hr h=>?_)
 have hu:=hr.units
 have nd:=sc_Rule_signs_at.nd
 refine ⟨dC K c,?_,or h⟩
 exact (ae (ai (aM (ix:=[none,none,some 1]) [".0","cell","filling"] (aJ rfl (by decide+kernel) rfl rfl rfl) rfl (wY (bu (pv 0) FK_c_cells)) (fun cl s H fp=>(aB (i:=1) (show ([".0","cell","filling"]:List Str).Nodup by decide+kernel) rfl (Or.inl rfl))) (fun cl s H fp=>aU) (fun cl s H fp=>(aw (aA hu) (pv 2) (pv 1) (fun _ _=>rfl))))))
abbrev jO:Stmt:=mtop 79 9
theorem sc_Rule_marked:am ["self","filling"] ["self","filling"] (ah jO):=⟨rfl,rfl,rfl,by decide+kernel,rfl,by decide+kernel,by decide+kernel⟩
set_option maxHeartbeats 4000000 in
theorem jb {P:Program} {w:World} {K:PySem.W.Frag} {mg:Str→Option Value} {base:Heap} (B:Bt2 mg) {c:RCl RK} (FK_c_cells:FldK K c "cells") (FK_c_mark:FldK K c "mark") {f:Addr} {fd:FuncData} (F:Fun K "marked" "Rule.marked" jO f fd):FnOk P w K mg base CX0 1 f fd ["self","filling"] (cp K c):=by
 refine F.ok sc_Rule_marked (fun vs H Q E h=>qD h) (fun cdv A outer s H vs Q E hr h=>?_)
 have hu:=hr.units
 have nd:=sc_Rule_marked.nd
 refine ⟨fW K c,?_,qE h⟩
 exact (ae (ai (aM (ix:=[none,none,some 1,some 0]) [".0","cell","filling","self"] (aJ rfl (by decide+kernel) rfl rfl rfl) rfl (wY (bu (pv 0) FK_c_cells)) (fun cl s H fp=>(aB (i:=1) (show ([".0","cell","filling","self"]:List Str).Nodup by decide+kernel) rfl (Or.inl rfl))) (fun cl s H fp=>(i3 (ax (aG hu) (aw (aA hu) (pv 2) (pv 1) (fun _ _=>rfl)) (bu (pv 3) FK_c_mark) (ap _)))) (fun cl s H fp=>(pv 1)))))
abbrev lf:Stmt:=top 95
theorem sc_number_in:am ["word"] ["word"] (ah lf):=⟨rfl,rfl,rfl,by decide+kernel,rfl,by decide+kernel,by decide+kernel⟩
set_option maxHeartbeats 4000000 in
theorem up {P:Program} {w:World} {K:PySem.W.Frag} {mg:Str→Option Value} {base:Heap} (B:Bt2 mg) {t_FIGURES:Tok} (Fb:mg "FIGURES"=some (.str (tx [48,49,50,51,52,53,54,55,56,57]) t_FIGURES)) {t_MOST_FIGURES:Tok} (C9:mg "MOST_FIGURES"=some (.int 9 t_MOST_FIGURES)) {f:Addr} {fd:FuncData} (F:Fun K "number_in" "number_in" lf f fd):FnOk P w K mg base CX0 1 f fd ["word"] (df K):=by
 refine F.ok sc_number_in (fun vs H Q E h=>tH h) (fun cdv A outer s H vs Q E hr h=>?_)
 have hu:=hr.units
 have nd:=sc_number_in.nd
 refine ⟨iB K,?_,tI h⟩
 exact (ad (aC (PW.pt (gj (ax (aG hu) (pv 0) aI (ap _)) (gj (ax gh (ay aR rfl B.len_ bo (aa (pv 0) ac)) (cB rfl C9 ⟨t_MOST_FIGURES,rfl⟩) (ap _)) (g6 (PW.pt (wT (ax (aG hu) (aw (aA hu) (pv 0) af (fun _ _=>rfl)) aI (ap _)) (vc (ax (eY hu) (pv 0) aI (ap _))))))))) (ae (ai sA)) ar)
   (ad (aC (bR (aZ (ay (dn rfl) rfl B.all_ jB (aa (aM (ix:=[none,none]) [".0","figure"] (aJ rfl (by decide+kernel) rfl rfl rfl) rfl (Au (pv 0)) (fun cl s H fp=>(aB (i:=1) (show ([".0","figure"]:List Str).Nodup by decide+kernel) rfl (Or.inl rfl))) (fun cl s H fp=>aU) (fun cl s H fp=>(aF (kc hu) (pv 1) (cB rfl Fb ⟨t_FIGURES,rfl⟩) (by with_unfolding_all rfl)))) ac)))) (ae (ai sA)) ar)
   (ae (ai (bp lS rfl B.int_ o6 (aa (pv 0) ac))))))
abbrev jc:Stmt:=mtop 108 1
theorem sc_Puzzle_place:am ["self"] ["self"] (ah jc):=⟨rfl,rfl,rfl,by decide+kernel,rfl,by decide+kernel,by decide+kernel⟩
set_option maxHeartbeats 4000000 in
theorem p7 {P:Program} {w:World} {K:PySem.W.Frag} {mg:Str→Option Value} {base:Heap} (B:Bt2 mg) {c:RCl RK} {d:RCl PzK} (FK_d_floor:FldK K d "floor") {f:Addr} {fd:FuncData} (F:Fun K "place" "Puzzle.place" jc f fd):FnOk P w K mg base CX0 1 f fd ["self"] (d8 K c d):=by
 refine F.ok sc_Puzzle_place (fun vs H Q E h=>pA h) (fun cdv A outer s H vs Q E hr h=>?_)
 have hu:=hr.units
 have nd:=sc_Puzzle_place.nd
 refine ⟨d9 K c d,?_,pB h⟩
 exact (ae (ai (bu (pv 0) FK_d_floor)))
abbrev jd:Stmt:=mtop 108 3
theorem sc_Puzzle_clues:am ["self"] ["self"] (ah jd):=⟨rfl,rfl,rfl,by decide+kernel,rfl,by decide+kernel,by decide+kernel⟩
set_option maxHeartbeats 4000000 in
theorem p8 {P:Program} {w:World} {K:PySem.W.Frag} {mg:Str→Option Value} {base:Heap} (B:Bt2 mg) {c:RCl RK} {d:RCl PzK} (FK_d_given:FldK K d "given") {f:Addr} {fd:FuncData} (F:Fun K "clues" "Puzzle.clues" jd f fd):FnOk P w K mg base CX0 1 f fd ["self"] (ed K c d):=by
 refine F.ok sc_Puzzle_clues (fun vs H Q E h=>pC h) (fun cdv A outer s H vs Q E hr h=>?_)
 have hu:=hr.units
 have nd:=sc_Puzzle_clues.nd
 refine ⟨eh K c d,?_,pD h⟩
 exact (ae (ai (bp jS rfl B.list_ i4 (aa (bu (pv 0) FK_d_given) ac))))
abbrev je:Stmt:=mtop 108 4
theorem sc_Puzzle_rules:am ["self"] ["self"] (ah je):=⟨rfl,rfl,rfl,by decide+kernel,rfl,by decide+kernel,by decide+kernel⟩
set_option maxHeartbeats 4000000 in
theorem p9 {P:Program} {w:World} {K:PySem.W.Frag} {mg:Str→Option Value} {base:Heap} (B:Bt2 mg) {c:RCl RK} {d:RCl PzK} (FK_d_laws:FldK K d "laws") {f:Addr} {fd:FuncData} (F:Fun K "rules" "Puzzle.rules" je f fd):FnOk P w K mg base CX0 1 f fd ["self"] (eo K c d):=by
 refine F.ok sc_Puzzle_rules (fun vs H Q E h=>pE h) (fun cdv A outer s H vs Q E hr h=>?_)
 have hu:=hr.units
 have nd:=sc_Puzzle_rules.nd
 refine ⟨eE K c d,?_,pF h⟩
 exact (ae (ai (bp jS rfl B.list_ i4 (aa (bu (pv 0) FK_d_laws) ac))))
abbrev jf:Stmt:=top 110
theorem sc__law_cell_at:am ["_law_script","_law_k"] ["_law_script","_law_k"] (ah jf):=⟨rfl,rfl,rfl,by decide+kernel,rfl,by decide+kernel,by decide+kernel⟩
set_option maxHeartbeats 4000000 in
theorem qb {P:Program} {w:World} {K:PySem.W.Frag} {mg:Str→Option Value} {base:Heap} (B:Bt2 mg) {f:Addr} {fd:FuncData} (F:Fun K "_law_cell_at" "_law_cell_at" jf f fd):FnOk P w K mg base CX0 1 f fd ["_law_script","_law_k"] (bc K):=by
 refine F.ok sc__law_cell_at (fun vs H Q E h=>ub h) (fun cdv A outer s H vs Q E hr h=>?_)
 have hu:=hr.units
 have nd:=sc__law_cell_at.nd
 refine ⟨iN K,?_,uc h⟩
 exact (ad (aC (ax dM (pv 1) (ay mH rfl B.len_ bo (aa (pv 0) ac)) (ap _)) (ae (ai (aw vh (pv 0) (pv 1) (fun _ _=>rfl)))) ar)
   (ae (ai af)))
abbrev kx:Stmt:=top 111
theorem sc__law_order:am ["_law_number","_law_many","_law_left","_law_found","_law_k"] ["_law_number","_law_many"] (ah kx):=⟨rfl,rfl,rfl,by decide+kernel,rfl,by decide+kernel,by decide+kernel⟩
set_option maxHeartbeats 4000000 in
theorem rY {P:Program} {w:World} {K:PySem.W.Frag} {mg:Str→Option Value} {base:Heap} (B:Bt2 mg) {f:Addr} {fd:FuncData} (F:Fun K "_law_order" "_law_order" kx f fd):FnOk P w K mg base CX0 1 f fd ["_law_number","_law_many"] (b3 K):=by
 refine F.ok sc__law_order (fun vs H Q E h=>pW h) (fun cdv A outer s H vs Q E hr h=>?_)
 have hu:=hr.units
 have nd:=sc__law_order.nd
 refine ⟨eV K,?_,pX h⟩
 exact (ad (av (i:=2) nd rfl (Or.inl rfl) (nY rfl rfl rfl B.list_ B.range_ (aa (pv 1) ac)))
   (ad (av (i:=3) nd rfl (Or.inl rfl) (aW ac))
   (ad (c6 PassesOwn.never rfl (bF rfl B.range_ (aa (pv 1) ac)) (aB (i:=4) nd rfl (Or.inl rfl))
   (ae (fK (d2 PySem.F.plainAttrs_list PySem.F.slot_list_append PySem.F.type_list_append cM (pv 3) (aa (d2 PySem.F.plainAttrs_list PySem.F.slot_list_pop PySem.F.type_list_pop xO (pv 2) (aa (ao bd (ao c7 (pv 0) (ao aD (ao bh (pv 4) (pv 4)) af)) (ay aR rfl B.len_ bo (aa (pv 2) ac))) ac)) ac)))))
   (ae (ai (pv 3))))))
abbrev gK:Stmt:=top 11
theorem sc_is_from_one_to:am ["value","most"] ["value","most"] (ah gK):=⟨rfl,rfl,rfl,by decide+kernel,rfl,by decide+kernel,by decide+kernel⟩
set_option maxHeartbeats 4000000 in
theorem nQ {P:Program} {w:World} {K:PySem.W.Frag} {mg:Str→Option Value} {base:Heap} (B:Bt2 mg) (Br:Cal P w K mg base 1 "is_whole" ["value"] (aY K)) {f:Addr} {fd:FuncData} (F:Fun K "is_from_one_to" "is_from_one_to" gK f fd):FnOk P w K mg base CX0 2 f fd ["value","most"] (aS K):=by
 refine F.ok sc_is_from_one_to (fun vs H Q E h=>nI h) (fun cdv A outer s H vs Q E hr h=>?_)
 have hu:=hr.units
 have nd:=sc_is_from_one_to.nd
 refine ⟨cW K,?_,nJ h⟩
 exact (ae (ai (cK (ak Br hr (by decide) rfl (aa (pv 0) ac)) (cK (aF jy af (pv 0) (ap _)) (c5 (aF jy (pv 0) (pv 1) (ap _)))))))
abbrev oP:Stmt:=top 15
theorem sc_beside:am ["floor","cell","high","wide","spot","found"] ["floor","cell"] (ah oP):=⟨rfl,rfl,rfl,by decide+kernel,rfl,by decide+kernel,by decide+kernel⟩
set_option maxHeartbeats 4000000 in
theorem yp {P:Program} {w:World} {K:PySem.W.Frag} {mg:Str→Option Value} {base:Heap} (B:Bt2 mg) (CM:Cal P w K mg base 1 "spot_of" ["floor","cell"] (cP K)) {f:Addr} {fd:FuncData} (F:Fun K "beside" "beside" oP f fd):FnOk P w K mg base CX0 2 f fd ["floor","cell"] (dq K):=by
 refine F.ok sc_beside (fun vs H Q E h=>xE h) (fun cdv A outer s H vs Q E hr h=>?_)
 have hu:=hr.units
 have nd:=sc_beside.nd
 refine ⟨kI K,?_,xG h⟩
 exact (ad (av (i:=2) nd rfl (Or.inl rfl) (aw (aA hu) (pv 0) af (fun _ _=>rfl)))
   (ad (av (i:=3) nd rfl (Or.inl rfl) (aw (aA hu) (pv 0) af (fun _ _=>rfl)))
   (ad (av (i:=4) nd rfl (Or.inl rfl) (ak CM hr (by decide) rfl (aa (pv 0) (aa (pv 1) ac))))
   (ad (av (i:=5) nd rfl (Or.inl rfl) (aW ac))
   (ad (aC (ax gh (aw (aA hu) (pv 4) af (fun _ _=>rfl)) af (ap _)) (ae (fK (d2 PySem.F.plainAttrs_list PySem.F.slot_list_append PySem.F.type_list_append cM (pv 5) (aa (ao cj (pv 1) (pv 3)) ac)))) ar)
   (ad (aC (ax gh (aw (aA hu) (pv 4) af (fun _ _=>rfl)) af (ap _)) (ae (fK (d2 PySem.F.plainAttrs_list PySem.F.slot_list_append PySem.F.type_list_append cM (pv 5) (aa (ao cj (pv 1) af) ac)))) ar)
   (ad (aC (ax dM (aw (aA hu) (pv 4) af (fun _ _=>rfl)) (ao cj (pv 3) af) (ap _)) (ae (fK (d2 PySem.F.plainAttrs_list PySem.F.slot_list_append PySem.F.type_list_append cM (pv 5) (aa (ao aD (pv 1) af) ac)))) ar)
   (ad (aC (ax dM (aw (aA hu) (pv 4) af (fun _ _=>rfl)) (ao cj (pv 2) af) (ap _)) (ae (fK (d2 PySem.F.plainAttrs_list PySem.F.slot_list_append PySem.F.type_list_append cM (pv 5) (aa (ao aD (pv 1) (pv 3)) ac)))) ar)
   (ae (ai (pv 5)))))))))))
abbrev lg:Stmt:=top 16
theorem sc_is_corner:am ["floor","cell","spot"] ["floor","cell"] (ah lg):=⟨rfl,rfl,rfl,by decide+kernel,rfl,by decide+kernel,by decide+kernel⟩
set_option maxHeartbeats 4000000 in
theorem uq {P:Program} {w:World} {K:PySem.W.Frag} {mg:Str→Option Value} {base:Heap} (B:Bt2 mg) (CM:Cal P w K mg base 1 "spot_of" ["floor","cell"] (cP K)) {f:Addr} {fd:FuncData} (F:Fun K "is_corner" "is_corner" lg f fd):FnOk P w K mg base CX0 2 f fd ["floor","cell"] (dc K):=by
 refine F.ok sc_is_corner (fun vs H Q E h=>tq h) (fun cdv A outer s H vs Q E hr h=>?_)
 have hu:=hr.units
 have nd:=sc_is_corner.nd
 refine ⟨iu K,?_,tu h⟩
 exact (ad (av (i:=2) nd rfl (Or.inl rfl) (ak CM hr (by decide) rfl (aa (pv 0) (aa (pv 1) ac))))
   (ae (ai (cK (aF dM (aw (aA hu) (pv 2) af (fun _ _=>rfl)) (ao cj (aw (aA hu) (pv 0) af (fun _ _=>rfl)) af) (ap _)) (c5 (aF dM (aw (aA hu) (pv 2) af (fun _ _=>rfl)) (ao cj (aw (aA hu) (pv 0) af (fun _ _=>rfl)) af) (ap _)))))))
abbrev m7:Stmt:=top 23
theorem sc_without:am ["mask","sign"] ["mask","sign"] (ah m7):=⟨rfl,rfl,rfl,by decide+kernel,rfl,by decide+kernel,by decide+kernel⟩
set_option maxHeartbeats 4000000 in
theorem wH {P:Program} {w:World} {K:PySem.W.Frag} {mg:Str→Option Value} {base:Heap} (B:Bt2 mg) (Gd:Cal P w K mg base 1 "bit_of" ["sign"] (gX K)) (BE:Cal P w K mg base 1 "stands" ["mask","sign"] (ce K)) {f:Addr} {fd:FuncData} (F:Fun K "without" "without" m7 f fd):FnOk P w K mg base CX0 2 f fd ["mask","sign"] (fR K):=by
 refine F.ok sc_without (fun vs H Q E h=>we h) (fun cdv A outer s H vs Q E hr h=>?_)
 have hu:=hr.units
 have nd:=sc_without.nd
 refine ⟨jX K,?_,wf h⟩
 exact (ae (ai (n6 (aZ (ak BE hr (by decide) rfl (aa (pv 0) (aa (pv 1) ac)))) (ao cj (pv 0) (ak Gd hr (by decide) rfl (aa (pv 1) ac))) (pv 0))))
abbrev l8:Stmt:=top 25
theorem sc_signs_in:am ["mask"] ["mask"] (ah l8):=⟨rfl,rfl,rfl,by decide+kernel,rfl,by decide+kernel,by decide+kernel⟩
set_option maxHeartbeats 4000000 in
theorem uY {P:Program} {w:World} {K:PySem.W.Frag} {mg:Str→Option Value} {base:Heap} (B:Bt2 mg) (BE:Cal P w K mg base 1 "stands" ["mask","sign"] (ce K)) {f:Addr} {fd:FuncData} (F:Fun K "signs_in" "signs_in" l8 f fd):FnOk P w K mg base CX0 2 f fd ["mask"] (aT K):=by
 refine F.ok sc_signs_in (fun vs H Q E h=>uM h) (fun cdv A outer s H vs Q E hr h=>?_)
 have hu:=hr.units
 have nd:=sc_signs_in.nd
 refine ⟨jt K,?_,uN h⟩
 exact (ae (ai (aM (ix:=[none,none,some 0]) [".0","sign","mask"] (aJ rfl (by decide+kernel) rfl rfl rfl) rfl (wZ rfl B.range_ (aa af (aa (ao aD (xj PySem.F.plainAttrs_int PySem.F.slot_int_bit_length PySem.F.type_int_bit_length o9 (pv 0)) af) ac))) (fun cl s H fp=>(aB (i:=1) (show ([".0","sign","mask"]:List Str).Nodup by decide+kernel) rfl (Or.inl rfl))) (fun cl s H fp=>(i3 (aZ (ak BE hr (by decide) rfl (aa (pv 2) (aa (pv 1) ac)))))) (fun cl s H fp=>(pv 1)))))
abbrev m8:Stmt:=top 31
theorem sc_is_cell:am ["floor","value"] ["floor","value"] (ah m8):=⟨rfl,rfl,rfl,by decide+kernel,rfl,by decide+kernel,by decide+kernel⟩
set_option maxHeartbeats 4000000 in
theorem wI {P:Program} {w:World} {K:PySem.W.Frag} {mg:Str→Option Value} {base:Heap} (B:Bt2 mg) (Br:Cal P w K mg base 1 "is_whole" ["value"] (aY K)) (Bl:Cal P w K mg base 1 "many_cells" ["floor"] (aP K)) {f:Addr} {fd:FuncData} (F:Fun K "is_cell" "is_cell" m8 f fd):FnOk P w K mg base CX0 2 f fd ["floor","value"] (fS K):=by
 refine F.ok sc_is_cell (fun vs H Q E h=>wg h) (fun cdv A outer s H vs Q E hr h=>?_)
 have hu:=hr.units
 have nd:=sc_is_cell.nd
 refine ⟨jY K,?_,wj h⟩
 exact (ae (ai (cK (ak Br hr (by decide) rfl (aa (pv 1) ac)) (cK (aF jy af (pv 1) (ap _)) (c5 (aF dM (pv 1) (ak Bl hr (by decide) rfl (aa (pv 0) ac)) (ap _)))))))
abbrev nc:Stmt:=top 33
theorem sc_goes_by:am ["kind","rule"] ["kind","rule"] (ah nc):=⟨rfl,rfl,rfl,by decide+kernel,rfl,by decide+kernel,by decide+kernel⟩
set_option maxHeartbeats 4000000 in
theorem wJ {P:Program} {w:World} {K:PySem.W.Frag} {mg:Str→Option Value} {base:Heap} (B:Bt2 mg) {c:RCl RK} (Hj:MCal P w K mg base c c.ok 1 "name" ["self"] (nE K c)) (CO:GDict w K mg "RULES_OF_KIND" gd_RULES_OF_KIND) {f:Addr} {fd:FuncData} (F:Fun K "goes_by" "goes_by" nc f fd):FnOk P w K mg base CX0 2 f fd ["kind","rule"] (fU K c):=by
 refine F.ok sc_goes_by (fun vs H Q E h=>wm h) (fun cdv A outer s H vs Q E hr h=>?_)
 have hu:=hr.units
 have nd:=sc_goes_by.nd
 refine ⟨j2 K c,?_,wn h⟩
 exact (ae (ai (vD (aF (aG hu) (pv 0) aI (ap _)) (c5 (aF AI (ba Hj hr (by decide) (pv 1)) (AH CO (pv 0) rfl (fun _ _=>rfl)) (by with_unfolding_all rfl))))))
abbrev oQ:Stmt:=top 36
theorem sc_others:am ["rule","cell"] ["rule","cell"] (ah oQ):=⟨rfl,rfl,rfl,by decide+kernel,rfl,by decide+kernel,by decide+kernel⟩
set_option maxHeartbeats 4000000 in
theorem yq {P:Program} {w:World} {K:PySem.W.Frag} {mg:Str→Option Value} {base:Heap} (B:Bt2 mg) {c:RCl RK} (BA:MCal P w K mg base c c.ok 1 "spots" ["self"] (cT K c)) {f:Addr} {fd:FuncData} (F:Fun K "others" "others" oQ f fd):FnOk P w K mg base CX0 2 f fd ["rule","cell"] (br K c):=by
 refine F.ok sc_others (fun vs H Q E h=>xZ h) (fun cdv A outer s H vs Q E hr h=>?_)
 have hu:=hr.units
 have nd:=sc_others.nd
 refine ⟨kQ K c,?_,x4 h⟩
 exact (ae (ai (aM (ix:=[none,none,some 1]) [".0","spot","cell"] (aJ rfl (by decide+kernel) rfl rfl rfl) rfl (aO (ba BA hr (by decide) (pv 0))) (fun cl s H fp=>(aB (i:=1) (show ([".0","spot","cell"]:List Str).Nodup by decide+kernel) rfl (Or.inl rfl))) (fun cl s H fp=>(i3 (ax (eY hu) (pv 1) (pv 2) (ap _)))) (fun cl s H fp=>(pv 1)))))
abbrev l9:Stmt:=top 39
theorem sc_many_may:am ["some","sign"] ["some","sign"] (ah l9):=⟨rfl,rfl,rfl,by decide+kernel,rfl,by decide+kernel,by decide+kernel⟩
set_option maxHeartbeats 4000000 in
theorem uZ {P:Program} {w:World} {K:PySem.W.Frag} {mg:Str→Option Value} {base:Heap} (B:Bt2 mg) (BE:Cal P w K mg base 1 "stands" ["mask","sign"] (ce K)) {f:Addr} {fd:FuncData} (F:Fun K "many_may" "many_may" l9 f fd):FnOk P w K mg base CX0 2 f fd ["some","sign"] (dX K):=by
 refine F.ok sc_many_may (fun vs H Q E h=>uQ h) (fun cdv A outer s H vs Q E hr h=>?_)
 have hu:=hr.units
 have nd:=sc_many_may.nd
 refine ⟨jv K,?_,uR h⟩
 exact (ae (ai (ay aR rfl B.len_ bo (aa (aM (ix:=[none,none,some 1]) [".0","mask","sign"] (aJ rfl (by decide+kernel) rfl rfl rfl) rfl (aO (pv 0)) (fun cl s H fp=>(aB (i:=1) (show ([".0","mask","sign"]:List Str).Nodup by decide+kernel) rfl (Or.inl rfl))) (fun cl s H fp=>(i3 (aZ (ak BE hr (by decide) rfl (aa (pv 1) (aa (pv 2) ac)))))) (fun cl s H fp=>(pv 1))) ac))))
abbrev md:Stmt:=top 45
theorem sc_ahead_of:am ["rule","cell","spots","place"] ["rule","cell"] (ah md):=⟨rfl,rfl,rfl,by decide+kernel,rfl,by decide+kernel,by decide+kernel⟩
set_option maxHeartbeats 4000000 in
theorem u6 {P:Program} {w:World} {K:PySem.W.Frag} {mg:Str→Option Value} {base:Heap} (B:Bt2 mg) {c:RCl RK} (BA:MCal P w K mg base c c.ok 1 "spots" ["self"] (cT K c)) {f:Addr} {fd:FuncData} (F:Fun K "ahead_of" "ahead_of" md f fd):FnOk P w K mg base CX0 2 f fd ["rule","cell"] (cf K c):=by
 refine F.ok sc_ahead_of (fun vs H Q E h=>uS h) (fun cdv A outer s H vs Q E hr h=>?_)
 have hu:=hr.units
 have nd:=sc_ahead_of.nd
 refine ⟨jx K c,?_,uT h⟩
 exact (ad (av (i:=2) nd rfl (Or.inl rfl) (ba BA hr (by decide) (pv 0)))
   (ad (av (i:=3) nd rfl (Or.inl rfl) (d2 PySem.F.plainAttrs_list PySem.F.slot_list_index PySem.F.type_list_index (qY hu) (pv 2) (aa (pv 1) ac)))
   (ae (ai (n6 (ax gh (pv 3) af (ap _)) (iZ nB (pv 2) (gO (ao cj (pv 3) af)) (gO (pv 3))) (aW ac))))))
abbrev oR:Stmt:=top 46
theorem sc_behind:am ["rule","cell","spots","place"] ["rule","cell"] (ah oR):=⟨rfl,rfl,rfl,by decide+kernel,rfl,by decide+kernel,by decide+kernel⟩
set_option maxHeartbeats 4000000 in
theorem yr {P:Program} {w:World} {K:PySem.W.Frag} {mg:Str→Option Value} {base:Heap} (B:Bt2 mg) {c:RCl RK} (BA:MCal P w K mg base c c.ok 1 "spots" ["self"] (cT K c)) {f:Addr} {fd:FuncData} (F:Fun K "behind" "behind" oR f fd):FnOk P w K mg base CX0 2 f fd ["rule","cell"] (du K c):=by
 refine F.ok sc_behind (fun vs H Q E h=>x6 h) (fun cdv A outer s H vs Q E hr h=>?_)
 have hu:=hr.units
 have nd:=sc_behind.nd
 refine ⟨kR K c,?_,x8 h⟩
 exact (ad (av (i:=2) nd rfl (Or.inl rfl) (ba BA hr (by decide) (pv 0)))
   (ad (av (i:=3) nd rfl (Or.inl rfl) (d2 PySem.F.plainAttrs_list PySem.F.slot_list_index PySem.F.type_list_index (qY hu) (pv 2) (aa (pv 1) ac)))
   (ae (ai (iZ nB (pv 2) (gO (ao aD (pv 3) af)) (gO (ao aD (pv 3) af)))))))
abbrev gL:Stmt:=top 60
theorem sc_with_each_sign:am ["fillings","cell","signs","found","filling"] ["fillings","cell","signs"] (ah gL):=⟨rfl,rfl,rfl,by decide+kernel,rfl,by decide+kernel,by decide+kernel⟩
set_option maxHeartbeats 4000000 in
theorem nR {P:Program} {w:World} {K:PySem.W.Frag} {mg:Str→Option Value} {base:Heap} (B:Bt2 mg) (BH:Cal P w K mg base 1 "with_sign" ["filling","cell","sign"] (bU K)) {f:Addr} {fd:FuncData} (F:Fun K "with_each_sign" "with_each_sign" gL f fd):FnOk P w K mg base CX0 2 f fd ["fillings","cell","signs"] (bE K):=by
 refine F.ok sc_with_each_sign (fun vs H Q E h=>nO h) (fun cdv A outer s H vs Q E hr h=>?_)
 have hu:=hr.units
 have nd:=sc_with_each_sign.nd
 refine ⟨cZ K,?_,nP h⟩
 exact (ad (av (i:=3) nd rfl (Or.inl rfl) (aW ac))
   (ad (c6 PassesOwn.never rfl (aO (pv 0)) (aB (i:=4) nd rfl (Or.inr rfl))
   (ae (fK (d2 PySem.F.plainAttrs_list PySem.F.slot_list_extend PySem.F.type_list_extend vS (pv 3) (aa (aM (ix:=[none,none,some 1,some 4]) [".0","sign","cell","filling"] (aJ rfl (by decide+kernel) rfl rfl rfl) rfl (aO (pv 2)) (fun cl s H fp=>(aB (i:=1) (show ([".0","sign","cell","filling"]:List Str).Nodup by decide+kernel) rfl (Or.inl rfl))) (fun cl s H fp=>aU) (fun cl s H fp=>(ak BH hr (by decide) rfl (aa (pv 3) (aa (pv 2) (aa (pv 1) ac)))))) ac)))))
   (ae (ai (pv 3)))))
abbrev jg:Stmt:=mtop 80 0
theorem sc_Unlike_holds:am ["self","filling","signs"] ["self","filling"] (ah jg):=⟨rfl,rfl,rfl,by decide+kernel,rfl,by decide+kernel,by decide+kernel⟩
set_option maxHeartbeats 4000000 in
theorem qc {P:Program} {w:World} {K:PySem.W.Frag} {mg:Str→Option Value} {base:Heap} (B:Bt2 mg) {c:RCl RK} (Bv:MCal P w K mg base c c.ok 1 "signs_at" ["self","filling"] (bA K c)) {f:Addr} {fd:FuncData} (F:Fun K "holds" "Unlike.holds" jg f fd):FnOk P w K mg base CX0 2 f fd ["self","filling"] (d6 K c):=by
 refine F.ok sc_Unlike_holds (fun vs H Q E h=>px h) (fun cdv A outer s H vs Q E hr h=>?_)
 have hu:=hr.units
 have nd:=sc_Unlike_holds.nd
 refine ⟨d7 K c,?_,pz h⟩
 exact (ad (av (i:=2) nd rfl (Or.inl rfl) (b6 Bv hr (by decide) (pv 0) (aa (pv 1) ac)))
   (ae (ai (aF (aG hu) (ra rfl rfl rfl B.len_ B.set_ (pv 2)) (ay aR rfl B.len_ bo (aa (pv 2) ac)) (ap _)))))
abbrev li:Stmt:=mtop 81 1
theorem sc_Sum_holds:am ["self","filling"] ["self","filling"] (ah li):=⟨rfl,rfl,rfl,by decide+kernel,rfl,by decide+kernel,by decide+kernel⟩
set_option maxHeartbeats 4000000 in
theorem ur {P:Program} {w:World} {K:PySem.W.Frag} {mg:Str→Option Value} {base:Heap} (B:Bt2 mg) {c:RCl RK} (FK_c_amount:FldK K c "amount") (Bv:MCal P w K mg base c c.ok 1 "signs_at" ["self","filling"] (bA K c)) {f:Addr} {fd:FuncData} (F:Fun K "holds" "Sum.holds" li f fd):FnOk P w K mg base CX0 2 f fd ["self","filling"] (iH K c):=by
 refine F.ok sc_Sum_holds (fun vs H Q E h=>tT h) (fun cdv A outer s H vs Q E hr h=>?_)
 have hu:=hr.units
 have nd:=sc_Sum_holds.nd
 refine ⟨iI K c,?_,tU h⟩
 exact (ae (ai (aF (aG hu) (ay (mO rfl) rfl B.sum_ sU (aa (b6 Bv hr (by decide) (pv 0) (aa (pv 1) ac)) ac)) (bu (pv 0) FK_c_amount) (ap _))))
abbrev jh:Stmt:=mtop 82 1
theorem sc_Rising_holds:am ["self","filling","signs"] ["self","filling"] (ah jh):=⟨rfl,rfl,rfl,by decide+kernel,rfl,by decide+kernel,by decide+kernel⟩
set_option maxHeartbeats 4000000 in
theorem qd {P:Program} {w:World} {K:PySem.W.Frag} {mg:Str→Option Value} {base:Heap} (B:Bt2 mg) {c:RCl RK} (Bv:MCal P w K mg base c c.ok 1 "signs_at" ["self","filling"] (bA K c)) {f:Addr} {fd:FuncData} (F:Fun K "holds" "Rising.holds" jh f fd):FnOk P w K mg base CX0 2 f fd ["self","filling"] (eI K c):=by
 refine F.ok sc_Rising_holds (fun vs H Q E h=>pM h) (fun cdv A outer s H vs Q E hr h=>?_)
 have hu:=hr.units
 have nd:=sc_Rising_holds.nd
 refine ⟨eJ K c,?_,pN h⟩
 exact (ad (av (i:=2) nd rfl (Or.inr rfl) (b6 Bv hr (by decide) (pv 0) (aa (pv 1) ac)))
   (ae (ai (ay (dn rfl) rfl B.all_ jB (aa (aM (ix:=[none,none,some 2]) [".0","place","signs"] (aJ rfl (by decide+kernel) rfl rfl rfl) rfl (bF rfl B.range_ (aa (ao cj (ay aR rfl B.len_ bo (aa (pv 2) ac)) af) ac)) (fun cl s H fp=>(aB (i:=1) (show ([".0","place","signs"]:List Str).Nodup by decide+kernel) rfl (Or.inl rfl))) (fun cl s H fp=>aU) (fun cl s H fp=>(aF dM (aw (aA hu) (pv 2) (pv 1) (fun _ _=>rfl)) (aw (aA hu) (pv 2) (ao aD (pv 1) af) (fun _ _=>rfl)) (ap _)))) ac)))))
abbrev ky:Stmt:=mtop 83 1
theorem sc_Seen_holds:am ["self","filling","greatest","seen","sign"] ["self","filling"] (ah ky):=⟨rfl,rfl,rfl,by decide+kernel,rfl,by decide+kernel,by decide+kernel⟩
set_option maxHeartbeats 4000000 in
theorem rZ {P:Program} {w:World} {K:PySem.W.Frag} {mg:Str→Option Value} {base:Heap} (B:Bt2 mg) {c:RCl RK} (FK_c_amount:FldK K c "amount") (Bv:MCal P w K mg base c c.ok 1 "signs_at" ["self","filling"] (bA K c)) {f:Addr} {fd:FuncData} (F:Fun K "holds" "Seen.holds" ky f fd):FnOk P w K mg base CX0 2 f fd ["self","filling"] (gy K c):=by
 refine F.ok sc_Seen_holds (fun vs H Q E h=>rN h) (fun cdv A outer s H vs Q E hr h=>?_)
 have hu:=hr.units
 have nd:=sc_Seen_holds.nd
 refine ⟨gz K c,?_,rO h⟩
 exact (ad (av (i:=2) nd rfl (Or.inl rfl) af)
   (ad (av (i:=3) nd rfl (Or.inl rfl) af)
   (ad (c6 PassesOwn.never rfl (aO (b6 Bv hr (by decide) (pv 0) (aa (pv 1) ac))) (aB (i:=4) nd rfl (Or.inl rfl))
   (ae (aC (ax gh (pv 4) (pv 2) (ap _)) (ad (av (i:=2) nd rfl (Or.inl rfl) (pv 4))
   (ae (av (i:=3) nd rfl (Or.inl rfl) (ao aD (pv 3) af)))) ar)))
   (ae (ai (aF (aG hu) (pv 3) (bu (pv 0) FK_c_amount) (ap _)))))))
abbrev jP:Stmt:=mtop 84 0
theorem sc_Count_holds:am ["self","filling"] ["self","filling"] (ah jP):=⟨rfl,rfl,rfl,by decide+kernel,rfl,by decide+kernel,by decide+kernel⟩
set_option maxHeartbeats 4000000 in
theorem qL {P:Program} {w:World} {K:PySem.W.Frag} {mg:Str→Option Value} {base:Heap} (B:Bt2 mg) {c:RCl RK} (FK_c_amount:FldK K c "amount") (BB:MCal P w K mg base c c.ok 1 "marked" ["self","filling"] (bG K c)) {f:Addr} {fd:FuncData} (F:Fun K "holds" "Count.holds" jP f fd):FnOk P w K mg base CX0 2 f fd ["self","filling"] (fX K c):=by
 refine F.ok sc_Count_holds (fun vs H Q E h=>qF h) (fun cdv A outer s H vs Q E hr h=>?_)
 have hu:=hr.units
 have nd:=sc_Count_holds.nd
 refine ⟨fY K c,?_,qG h⟩
 exact (ae (ai (aF (aG hu) (ay aR rfl B.len_ bo (aa (b6 BB hr (by decide) (pv 0) (aa (pv 1) ac)) ac)) (bu (pv 0) FK_c_amount) (ap _))))
abbrev iQ:Stmt:=top 96
theorem sc_number_within:am ["word","least","most","number"] ["word","least","most"] (ah iQ):=⟨rfl,rfl,rfl,by decide+kernel,rfl,by decide+kernel,by decide+kernel⟩
set_option maxHeartbeats 4000000 in
theorem oS {P:Program} {w:World} {K:PySem.W.Frag} {mg:Str→Option Value} {base:Heap} (B:Bt2 mg) (Eb:Cal P w K mg base 1 "number_in" ["word"] (df K)) {f:Addr} {fd:FuncData} (F:Fun K "number_within" "number_within" iQ f fd):FnOk P w K mg base CX0 2 f fd ["word","least","most"] (bg K):=by
 refine F.ok sc_number_within (fun vs H Q E h=>ot h) (fun cdv A outer s H vs Q E hr h=>?_)
 have hu:=hr.units
 have nd:=sc_number_within.nd
 refine ⟨dD K,?_,ou h⟩
 exact (ad (av (i:=3) nd rfl (Or.inl rfl) (ak Eb hr (by decide) rfl (aa (pv 0) ac)))
   (ad (aC (PW.pt (gj (ax Ag (pv 3) sA (ap _)) (gj (ax dM (pv 3) (pv 1) (ap _)) (g6 (ax gh (pv 3) (pv 2) (ap _)))))) (ae bC) ar)
   (ae (ai (pv 3)))))
abbrev kz:Stmt:=top 106
theorem sc_is_filling:am ["floor","filling","least"] ["floor","filling","least"] (ah kz):=⟨rfl,rfl,rfl,by decide+kernel,rfl,by decide+kernel,by decide+kernel⟩
set_option maxHeartbeats 4000000 in
theorem r8 {P:Program} {w:World} {K:PySem.W.Frag} {mg:Str→Option Value} {base:Heap} (B:Bt2 mg) (Br:Cal P w K mg base 1 "is_whole" ["value"] (aY K)) (Bl:Cal P w K mg base 1 "many_cells" ["floor"] (aP K)) {f:Addr} {fd:FuncData} (F:Fun K "is_filling" "is_filling" kz f fd):FnOk P w K mg base CX0 2 f fd ["floor","filling","least"] (cF K):=by
 refine F.ok sc_is_filling (fun vs H Q E h=>rJ h) (fun cdv A outer s H vs Q E hr h=>?_)
 have hu:=hr.units
 have nd:=sc_is_filling.nd
 refine ⟨gw K,?_,rK h⟩
 exact (ad (aC (PW.pt (gj (bR (aZ (ay e6 rfl B.isinstance_ b5 (aa (pv 1) (aa (iX (v:=.ty "list") rfl B.list_ i4 rfl) ac))))) (g6 (ax (eY hu) (ay aR rfl B.len_ bo (aa (pv 1) ac)) (ak Bl hr (by decide) rfl (aa (pv 0) ac)) (ap _))))) (ae (ai bW)) ar)
   (ae (ai (ay (dn rfl) rfl B.all_ jB (aa (aM (ix:=[none,none,some 0,some 2]) [".0","sign","floor","least"] (aJ rfl (by decide+kernel) rfl rfl rfl) rfl (aO (pv 1)) (fun cl s H fp=>(aB (i:=1) (show ([".0","sign","floor","least"]:List Str).Nodup by decide+kernel) rfl (Or.inl rfl))) (fun cl s H fp=>aU) (fun cl s H fp=>(cK (ak Br hr (by decide) rfl (aa (pv 1) ac)) (cK (aF jy (pv 3) (pv 1) (ap _)) (c5 (aF jy (pv 1) (aw (aA hu) (pv 2) af (fun _ _=>rfl)) (ap _))))))) ac)))))
abbrev me:Stmt:=top 112
theorem sc__law_row:am ["_law_script","_law_k","_law_many","_law_signs","_law_cell","_law_order_here","_law_words","_law_number"] ["_law_script","_law_k","_law_many","_law_signs"] (ah me):=⟨rfl,rfl,rfl,by decide+kernel,rfl,by decide+kernel,by decide+kernel⟩
set_option maxHeartbeats 4000000 in
theorem u7 {P:Program} {w:World} {K:PySem.W.Frag} {mg:Str→Option Value} {base:Heap} (B:Bt2 mg) (Bq:Cal P w K mg base 1 "_law_cell_at" ["_law_script","_law_k"] (bc K)) (DR:Cal P w K mg base 1 "_law_order" ["_law_number","_law_many"] (b3 K)) {f:Addr} {fd:FuncData} (F:Fun K "_law_row" "_law_row" me f fd):FnOk P w K mg base CX0 2 f fd ["_law_script","_law_k","_law_many","_law_signs"] (cJ K):=by
 refine F.ok sc__law_row (fun vs H Q E h=>rT h) (fun cdv A outer s H vs Q E hr h=>?_)
 have hu:=hr.units
 have nd:=sc__law_row.nd
 refine ⟨gD K,?_,rV h⟩
 exact (ad (av (i:=4) nd rfl (Or.inl rfl) (ao bd (ao bh (ao aD (ak Bq hr (by decide) rfl (aa (pv 0) (aa (ao aD af (pv 1)) ac))) (ao bh af (pv 1))) af) af))
   (ad (av (i:=5) nd rfl (Or.inl rfl) (iZ nB (ak DR hr (by decide) rfl (aa (ao c7 (pv 4) af) (aa (pv 2) ac))) nt (gO (ao aD af (ao bd (ao c7 (pv 4) af) (pv 2))))))
   (ad (av (i:=6) nd rfl (Or.inl rfl) (d2 PySem.F.plainAttrs_str PySem.F.slot_str_join PySem.F.type_str_join xN aI (aa (aM (ix:=[none,none]) [".0","_law_spot"] (aJ rfl (by decide+kernel) rfl rfl rfl) rfl (aO (pv 5)) (fun cl s H fp=>(aB (i:=1) (show ([".0","_law_spot"]:List Str).Nodup by decide+kernel) rfl (Or.inl rfl))) (fun cl s H fp=>aU) (fun cl s H fp=>(bp jF rfl B.str_ ly (aa (pv 1) ac)))) ac)))
   (ad (aC (ax (aG hu) (pv 1) af (ap _)) (ad (av (i:=7) nd rfl (Or.inl rfl) (ao bd (pv 4) (ao aD (ay aR rfl B.len_ bo (aa (pv 5) ac)) af)))
   (ae (ai (ao aD (ao aD (ao aD (ao aD (ao aD aI (bp jF rfl B.str_ ly (aa (pv 7) ac))) aI) (bp jF rfl B.str_ ly (aa (ao aD af (ao bd (ao c7 (pv 4) af) (pv 3))) ac))) aI) (pv 6))))) ar)
   (ad (aC (ax (aG hu) (pv 1) af (ap _)) (ad (av (i:=7) nd rfl (Or.inl rfl) (ao aD (ay aR rfl B.len_ bo (aa (pv 5) ac)) (ao bd (ao c7 (pv 4) af) (ao aD af (ao bh (ay aR rfl B.len_ bo (aa (pv 5) ac)) (ao cj (pv 3) af))))))
   (ae (ai (ao aD (ao aD (ao aD aI (bp jF rfl B.str_ ly (aa (pv 7) ac))) aI) (pv 6))))) ar)
   (ad (aC (ax (aG hu) (ao bd (pv 4) af) af (ap _)) (ae (ai (ao aD (ao aD (ao aD aI (bp jF rfl B.str_ ly (aa (ao aD af (ao bd (ao c7 (pv 4) af) af)) ac))) aI) (pv 6)))) ar)
   (ae (ai (ao aD aI (pv 6))))))))))
abbrev kA:Stmt:=top 113
theorem sc__law_drawn:am ["_law_script","_law_at","_law_many","_law_bound","_law_masks","_law_k","_law_cell"] ["_law_script","_law_at","_law_many","_law_bound"] (ah kA):=⟨rfl,rfl,rfl,by decide+kernel,rfl,by decide+kernel,by decide+kernel⟩
set_option maxHeartbeats 4000000 in
theorem sd {P:Program} {w:World} {K:PySem.W.Frag} {mg:Str→Option Value} {base:Heap} (B:Bt2 mg) (Bq:Cal P w K mg base 1 "_law_cell_at" ["_law_script","_law_k"] (bc K)) {f:Addr} {fd:FuncData} (F:Fun K "_law_drawn" "_law_drawn" kA f fd):FnOk P w K mg base CX0 2 f fd ["_law_script","_law_at","_law_many","_law_bound"] (bt K):=by
 refine F.ok sc__law_drawn (fun vs H Q E h=>pY h) (fun cdv A outer s H vs Q E hr h=>?_)
 have hu:=hr.units
 have nd:=sc__law_drawn.nd
 refine ⟨eX K,?_,pZ h⟩
 exact (ad (av (i:=4) nd rfl (Or.inl rfl) (aW ac))
   (ad (c6 PassesOwn.never rfl (bF rfl B.range_ (aa (pv 2) ac)) (aB (i:=5) nd rfl (Or.inl rfl))
   (ad (av (i:=6) nd rfl (Or.inl rfl) (ao bd (ao bh (ao aD (ao aD (ak Bq hr (by decide) rfl (aa (pv 0) (aa (ao aD (pv 1) (pv 5)) ac))) (ao bh (ao bh af (pv 5)) (pv 5))) (pv 1)) af) af))
   (ae (fK (d2 PySem.F.plainAttrs_list PySem.F.slot_list_append PySem.F.type_list_append cM (pv 4) (aa (ao bd (ao Av (ao c7 (pv 6) af) (ao bh (ao c7 (pv 6) af) (bp lS rfl B.int_ o6 (aa (aF (aG hu) (ao bd (pv 6) af) af (ap _)) ac)))) (pv 3)) ac))))))
   (ae (ai (pv 4)))))
abbrev mf:Stmt:=top 12
theorem sc_floor_of:am ["high","wide","signs"] ["high","wide","signs"] (ah mf):=⟨rfl,rfl,rfl,by decide+kernel,rfl,by decide+kernel,by decide+kernel⟩
set_option maxHeartbeats 4000000 in
theorem u8 {P:Program} {w:World} {K:PySem.W.Frag} {mg:Str→Option Value} {base:Heap} (B:Bt2 mg) (Bu:Cal P w K mg base 2 "is_from_one_to" ["value","most"] (aS K)) {t_MOST_CELLS:Tok} (DS:mg "MOST_CELLS"=some (.int 16 t_MOST_CELLS)) {t_MOST_SIDE:Tok} (Dn:mg "MOST_SIDE"=some (.int 6 t_MOST_SIDE)) {t_MOST_SIGNS:Tok} (DT:mg "MOST_SIGNS"=some (.int 6 t_MOST_SIGNS)) {f:Addr} {fd:FuncData} (F:Fun K "floor_of" "floor_of" mf f fd):FnOk P w K mg base CX0 3 f fd ["high","wide","signs"] (dU K):=by
 refine F.ok sc_floor_of (fun vs H Q E h=>uI h) (fun cdv A outer s H vs Q E hr h=>?_)
 have hu:=hr.units
 have nd:=sc_floor_of.nd
 refine ⟨jr K,?_,uJ h⟩
 exact (ad (aC (bR (aZ (ak Bu hr (by decide) rfl (aa (pv 0) (aa (cB rfl Dn ⟨t_MOST_SIDE,rfl⟩) ac))))) (ae bC) ar)
   (ad (aC (bR (aZ (ak Bu hr (by decide) rfl (aa (pv 1) (aa (cB rfl Dn ⟨t_MOST_SIDE,rfl⟩) ac))))) (ae bC) ar)
   (ad (aC (ax gh (ao bh (pv 0) (pv 1)) (cB rfl DS ⟨t_MOST_CELLS,rfl⟩) (ap _)) (ae bC) ar)
   (ad (aC (bR (aZ (ak Bu hr (by decide) rfl (aa (pv 2) (aa (cB rfl DT ⟨t_MOST_SIGNS,rfl⟩) ac))))) (ae bC) ar)
   (ae (ai (dJ (aa (pv 0) (aa (pv 1) (aa (pv 2) ac))))))))))
abbrev ng:Stmt:=top 18
theorem sc_squares:am ["floor"] ["floor"] (ah ng):=⟨rfl,rfl,rfl,by decide+kernel,rfl,by decide+kernel,by decide+kernel⟩
set_option maxHeartbeats 4000000 in
theorem wK {P:Program} {w:World} {K:PySem.W.Frag} {mg:Str→Option Value} {base:Heap} (B:Bt2 mg) (Ec:Cal P w K mg base 2 "is_corner" ["floor","cell"] (dc K)) (Bl:Cal P w K mg base 1 "many_cells" ["floor"] (aP K)) (Ed:Cal P w K mg base 1 "square_at" ["floor","corner"] (de K)) {f:Addr} {fd:FuncData} (F:Fun K "squares" "squares" ng f fd):FnOk P w K mg base CX0 3 f fd ["floor"] (fM K):=by
 refine F.ok sc_squares (fun vs H Q E h=>wa h) (fun cdv A outer s H vs Q E hr h=>?_)
 have hu:=hr.units
 have nd:=sc_squares.nd
 refine ⟨jV K,?_,wb h⟩
 exact (ae (ai (aM (ix:=[none,none,some 0]) [".0","cell","floor"] (aJ rfl (by decide+kernel) rfl rfl rfl) rfl (bF rfl B.range_ (aa (ak Bl hr (by decide) rfl (aa (pv 0) ac)) ac)) (fun cl s H fp=>(aB (i:=1) (show ([".0","cell","floor"]:List Str).Nodup by decide+kernel) rfl (Or.inl rfl))) (fun cl s H fp=>(i3 (aZ (ak Ec hr (by decide) rfl (aa (pv 2) (aa (pv 1) ac)))))) (fun cl s H fp=>(ak Ed hr (by decide) rfl (aa (pv 2) (aa (pv 1) ac)))))))
abbrev nh:Stmt:=top 19
theorem sc_reached:am ["floor","cells","start","found","place","cell"] ["floor","cells","start"] (ah nh):=⟨rfl,rfl,rfl,by decide+kernel,rfl,by decide+kernel,by decide+kernel⟩
set_option maxHeartbeats 4000000 in
theorem wL {P:Program} {w:World} {K:PySem.W.Frag} {mg:Str→Option Value} {base:Heap} (B:Bt2 mg) (Da:Cal P w K mg base 2 "beside" ["floor","cell"] (dq K)) {f:Addr} {fd:FuncData} (F:Fun K "reached" "reached" nh f fd):FnOk P w K mg base CX0 3 f fd ["floor","cells","start"] (fZ K):=by
 refine F.ok sc_reached (fun vs H Q E h=>wv h) (fun cdv A outer s H vs Q E hr h=>?_)
 have hu:=hr.units
 have nd:=sc_reached.nd
 refine ⟨j4 K,?_,ww h⟩
 exact (ad (aC (ax (qX hu) (pv 2) (pv 1) (by with_unfolding_all rfl)) (ae (ai (aW ac))) ar)
   (ad (av (i:=3) nd rfl (Or.inl rfl) (aW (aa (pv 2) ac)))
   (ad (av (i:=4) nd rfl (Or.inl rfl) af)
   (ad (yu PassesOwn.never (ax dM (pv 4) (ay aR rfl B.len_ bo (aa (pv 3) ac)) (ap _))
   (ad (c6 PassesOwn.never rfl (aO (ak Da hr (by decide) rfl (aa (pv 0) (aa (aw (aA hu) (pv 3) (pv 4) (fun _ _=>rfl)) ac)))) (aB (i:=5) nd rfl (Or.inl rfl))
   (ae (aC (PW.pt (wT (ax (kc hu) (pv 5) (pv 1) (by with_unfolding_all rfl)) (vc (ax (qX hu) (pv 5) (pv 3) (by with_unfolding_all rfl))))) (ae (fK (d2 PySem.F.plainAttrs_list PySem.F.slot_list_append PySem.F.type_list_append cM (pv 3) (aa (pv 5) ac)))) ar)))
   (ae (av (i:=4) nd rfl (Or.inl rfl) (ao aD (pv 4) af)))))
   (ae (ai (ay e5 rfl B.sorted_ jz (aa (pv 3) ac))))))))
abbrev mh:Stmt:=top 24
theorem sc_has_only:am ["mask","sign"] ["mask","sign"] (ah mh):=⟨rfl,rfl,rfl,by decide+kernel,rfl,by decide+kernel,by decide+kernel⟩
set_option maxHeartbeats 4000000 in
theorem u9 {P:Program} {w:World} {K:PySem.W.Frag} {mg:Str→Option Value} {base:Heap} (B:Bt2 mg) (Fc:Cal P w K mg base 2 "without" ["mask","sign"] (fR K)) {f:Addr} {fd:FuncData} (F:Fun K "has_only" "has_only" mh f fd):FnOk P w K mg base CX0 3 f fd ["mask","sign"] (dW K):=by
 refine F.ok sc_has_only (fun vs H Q E h=>uK h) (fun cdv A outer s H vs Q E hr h=>?_)
 have hu:=hr.units
 have nd:=sc_has_only.nd
 refine ⟨js K,?_,uL h⟩
 exact (ae (ai (aF (aG hu) (ak Fc hr (by decide) rfl (aa (pv 0) (aa (pv 1) ac))) af (ap _))))
abbrev ut:Stmt:=top 27
theorem sc_ways:am ["masks","product","mask"] ["masks"] (ah ut):=⟨rfl,rfl,rfl,by decide+kernel,rfl,by decide+kernel,by decide+kernel⟩
set_option maxHeartbeats 4000000 in
theorem zZ {P:Program} {w:World} {K:PySem.W.Frag} {mg:Str→Option Value} {base:Heap} (B:Bt2 mg) (Bp:Cal P w K mg base 2 "signs_in" ["mask"] (aT K)) {f:Addr} {fd:FuncData} (F:Fun K "ways" "ways" ut f fd):FnOk P w K mg base CX0 3 f fd ["masks"] (j7 K):=by
 refine F.ok sc_ways (fun vs H Q E h=>zT h) (fun cdv A outer s H vs Q E hr h=>?_)
 have hu:=hr.units
 have nd:=sc_ways.nd
 refine ⟨nF K,?_,zU h⟩
 exact (ad (av (i:=1) nd rfl (Or.inl rfl) af)
   (ad (c6 PassesOwn.never rfl (aO (pv 0)) (aB (i:=2) nd rfl (Or.inl rfl))
   (ae (av (i:=1) nd rfl (Or.inl rfl) (ao bh (pv 1) (ay aR rfl B.len_ bo (aa (ak Bp hr (by decide) rfl (aa (pv 2) ac)) ac))))))
   (ae (ai (pv 1)))))
abbrev ni:Stmt:=top 32
theorem sc_is_sign:am ["floor","value"] ["floor","value"] (ah ni):=⟨rfl,rfl,rfl,by decide+kernel,rfl,by decide+kernel,by decide+kernel⟩
set_option maxHeartbeats 4000000 in
theorem wM {P:Program} {w:World} {K:PySem.W.Frag} {mg:Str→Option Value} {base:Heap} (B:Bt2 mg) (Bu:Cal P w K mg base 2 "is_from_one_to" ["value","most"] (aS K)) {f:Addr} {fd:FuncData} (F:Fun K "is_sign" "is_sign" ni f fd):FnOk P w K mg base CX0 3 f fd ["floor","value"] (fT K):=by
 refine F.ok sc_is_sign (fun vs H Q E h=>wk h) (fun cdv A outer s H vs Q E hr h=>?_)
 have hu:=hr.units
 have nd:=sc_is_sign.nd
 refine ⟨jZ K,?_,wl h⟩
 exact (ae (ai (ak Bu hr (by decide) rfl (aa (pv 1) (aa (aw (aA hu) (pv 0) af (fun _ _=>rfl)) ac)))))
abbrev ji:Stmt:=top 34
theorem sc_has_its_rule:am ["puzzle","kind","number","cell","rules"] ["puzzle","kind","number","cell"] (ah ji):=⟨rfl,rfl,rfl,by decide+kernel,rfl,by decide+kernel,by decide+kernel⟩
set_option maxHeartbeats 4000000 in
theorem qe {P:Program} {w:World} {K:PySem.W.Frag} {mg:Str→Option Value} {base:Heap} (B:Bt2 mg) {c:RCl RK} {d:RCl PzK} (Fd:Cal P w K mg base 2 "goes_by" ["kind","rule"] (fU K c)) (Br:Cal P w K mg base 1 "is_whole" ["value"] (aY K)) (Bx:MCal P w K mg base d d.ok 1 "rules" ["self"] (b7 K c d)) (BA:MCal P w K mg base c c.ok 1 "spots" ["self"] (cT K c)) {f:Addr} {fd:FuncData} (F:Fun K "has_its_rule" "has_its_rule" ji f fd):FnOk P w K mg base CX0 3 f fd ["puzzle","kind","number","cell"] (bY K c d):=by
 refine F.ok sc_has_its_rule (fun vs H Q E h=>pG h) (fun cdv A outer s H vs Q E hr h=>?_)
 have hu:=hr.units
 have nd:=sc_has_its_rule.nd
 refine ⟨eF K c d,?_,pH h⟩
 exact (ad (aC (PW.pt (gj (bR (aZ (ak Br hr (by decide) rfl (aa (pv 2) ac)))) (g6 (ax dM (pv 2) af (ap _))))) (ae (ai bW)) ar)
   (ad (aC (ax (aG hu) (pv 1) aI (ap _)) (ae (ai (aF (aG hu) (pv 2) af (ap _)))) ar)
   (ad (av (i:=4) nd rfl (Or.inl rfl) (ba Bx hr (by decide) (pv 0)))
   (ad (aC (ax sO (pv 2) (ay aR rfl B.len_ bo (aa (pv 4) ac)) (ap _)) (ae (ai bW)) ar)
   (ae (ai (cK (ak Fd hr (by decide) rfl (aa (pv 1) (aa (aw (aA hu) (pv 4) (pv 2) (fun _ _=>rfl)) ac))) (c5 (aF (kc hu) (pv 3) (ba BA hr (by decide) (aw (aA hu) (pv 4) (pv 2) (fun _ _=>rfl))) (by with_unfolding_all rfl))))))))))
abbrev iR:Stmt:=top 47
theorem sc_is_no_greater:am ["sign","mask"] ["sign","mask"] (ah iR):=⟨rfl,rfl,rfl,by decide+kernel,rfl,by decide+kernel,by decide+kernel⟩
set_option maxHeartbeats 4000000 in
theorem oT {P:Program} {w:World} {K:PySem.W.Frag} {mg:Str→Option Value} {base:Heap} (B:Bt2 mg) (Bp:Cal P w K mg base 2 "signs_in" ["mask"] (aT K)) {f:Addr} {fd:FuncData} (F:Fun K "is_no_greater" "is_no_greater" iR f fd):FnOk P w K mg base CX0 3 f fd ["sign","mask"] (bL K):=by
 refine F.ok sc_is_no_greater (fun vs H Q E h=>oE h) (fun cdv A outer s H vs Q E hr h=>?_)
 have hu:=hr.units
 have nd:=sc_is_no_greater.nd
 refine ⟨dI K,?_,oF h⟩
 exact (ae (ai (ay (dn rfl) rfl B.all_ jB (aa (aM (ix:=[none,none,some 0]) [".0","other","sign"] (aJ rfl (by decide+kernel) rfl rfl rfl) rfl (aO (ak Bp hr (by decide) rfl (aa (pv 1) ac))) (fun cl s H fp=>(aB (i:=1) (show ([".0","other","sign"]:List Str).Nodup by decide+kernel) rfl (Or.inl rfl))) (fun cl s H fp=>aU) (fun cl s H fp=>(aF jy (pv 2) (pv 1) (ap _)))) ac))))
abbrev kB:Stmt:=top 48
theorem sc_is_no_less:am ["sign","mask"] ["sign","mask"] (ah kB):=⟨rfl,rfl,rfl,by decide+kernel,rfl,by decide+kernel,by decide+kernel⟩
set_option maxHeartbeats 4000000 in
theorem se {P:Program} {w:World} {K:PySem.W.Frag} {mg:Str→Option Value} {base:Heap} (B:Bt2 mg) (Bp:Cal P w K mg base 2 "signs_in" ["mask"] (aT K)) {f:Addr} {fd:FuncData} (F:Fun K "is_no_less" "is_no_less" kB f fd):FnOk P w K mg base CX0 3 f fd ["sign","mask"] (cH K):=by
 refine F.ok sc_is_no_less (fun vs H Q E h=>rL h) (fun cdv A outer s H vs Q E hr h=>?_)
 have hu:=hr.units
 have nd:=sc_is_no_less.nd
 refine ⟨gx K,?_,rM h⟩
 exact (ae (ai (ay (dn rfl) rfl B.all_ jB (aa (aM (ix:=[none,none,some 0]) [".0","other","sign"] (aJ rfl (by decide+kernel) rfl rfl rfl) rfl (aO (ak Bp hr (by decide) rfl (aa (pv 1) ac))) (fun cl s H fp=>(aB (i:=1) (show ([".0","other","sign"]:List Str).Nodup by decide+kernel) rfl (Or.inl rfl))) (fun cl s H fp=>aU) (fun cl s H fp=>(aF sO (pv 2) (pv 1) (ap _)))) ac))))
abbrev iS:Stmt:=top 53
theorem sc_rests_by_line:am ["puzzle","thought","kind","rule"] ["puzzle","thought"] (ah iS):=⟨rfl,rfl,rfl,by decide+kernel,rfl,by decide+kernel,by decide+kernel⟩
set_option maxHeartbeats 4000000 in
theorem oU {P:Program} {w:World} {K:PySem.W.Frag} {mg:Str→Option Value} {base:Heap} (B:Bt2 mg) {c:RCl RK} {d:RCl PzK} (Ce:Cal P w K mg base 2 "ahead_of" ["rule","cell"] (cf K c)) (Db:Cal P w K mg base 2 "behind" ["rule","cell"] (du K c)) (Bw:Cal P w K mg base 2 "others" ["rule","cell"] (br K c)) (Bx:MCal P w K mg base d d.ok 1 "rules" ["self"] (b7 K c d)) {f:Addr} {fd:FuncData} (F:Fun K "rests_by_line" "rests_by_line" iS f fd):FnOk P w K mg base CX0 3 f fd ["puzzle","thought"] (bw K c d):=by
 refine F.ok sc_rests_by_line (fun vs H Q E h=>mX h) (fun cdv A outer s H vs Q E hr h=>?_)
 have hu:=hr.units
 have nd:=sc_rests_by_line.nd
 refine ⟨cS K c d,?_,mY h⟩
 exact (ad (av (i:=2) nd rfl (Or.inl rfl) (aw (aA hu) (pv 1) af (fun _ _=>rfl)))
   (ad (aC (ax (aG hu) (pv 2) aI (ap _)) (ae (ai (aW ac))) ar)
   (ad (aC (PW.pt (gj (ax (aG hu) (pv 2) aI (ap _)) (g6 (ax (aG hu) (pv 2) aI (ap _))))) (ae (ai (ay e5 rfl B.sorted_ jz (aa (aw (aA hu) (pv 1) af (fun _ _=>rfl)) ac)))) ar)
   (ad (av (i:=3) nd rfl (Or.inl rfl) (aw (aA hu) (ba Bx hr (by decide) (pv 0)) (aw (aA hu) (pv 1) af (fun _ _=>rfl)) (fun _ _=>rfl)))
   (ad (aC (ax (aG hu) (pv 2) aI (ap _)) (ae (ai (ay e5 rfl B.sorted_ jz (aa (ak Bw hr (by decide) rfl (aa (pv 3) (aa (aw (aA hu) (pv 1) af (fun _ _=>rfl)) ac))) ac)))) ar)
   (ae (ai (ay e5 rfl B.sorted_ jz (aa (ao aD (ak Ce hr (by decide) rfl (aa (pv 3) (aa (aw (aA hu) (pv 1) af (fun _ _=>rfl)) ac))) (ak Db hr (by decide) rfl (aa (pv 3) (aa (aw (aA hu) (pv 1) af (fun _ _=>rfl)) ac)))) ac)))))))))
abbrev jQ:Stmt:=top 58
theorem sc_sum_strikes:am ["rule","masks","cell","sign","more","some","least","greatest"] ["rule","masks","cell","sign","more"] (ah jQ):=⟨rfl,rfl,rfl,by decide+kernel,rfl,by decide+kernel,by decide+kernel⟩
set_option maxHeartbeats 4000000 in
theorem qM {P:Program} {w:World} {K:PySem.W.Frag} {mg:Str→Option Value} {base:Heap} (B:Bt2 mg) {c:RCl RK} (CN:Cal P w K mg base 1 "clashes" ["masks"] (cR K)) (Bz:Cal P w K mg base 1 "masks_at" ["masks","cells"] (bB K)) (Bw:Cal P w K mg base 2 "others" ["rule","cell"] (br K c)) (Bp:Cal P w K mg base 2 "signs_in" ["mask"] (aT K)) (B8:MCal P w K mg base c c.ok 1 "number" ["self"] (dt K c)) {f:Addr} {fd:FuncData} (F:Fun K "sum_strikes" "sum_strikes" jQ f fd):FnOk P w K mg base CX0 3 f fd ["rule","masks","cell","sign","more"] (cm K c):=by
 refine F.ok sc_sum_strikes (fun vs H Q E h=>qB h) (fun cdv A outer s H vs Q E hr h=>?_)
 have hu:=hr.units
 have nd:=sc_sum_strikes.nd
 refine ⟨fV K c,?_,qC h⟩
 exact (ad (aC (ax (eY hu) (pv 4) (aW ac) (ap _)) (ae (ai bW)) ar)
   (ad (av (i:=5) nd rfl (Or.inl rfl) (ak Bz hr (by decide) rfl (aa (pv 1) (aa (ak Bw hr (by decide) rfl (aa (pv 0) (aa (pv 2) ac))) ac))))
   (ad (aC (aZ (ak CN hr (by decide) rfl (aa (pv 5) ac))) (ae (ai bW)) ar)
   (ad (av (i:=6) nd rfl (Or.inl rfl) (ao aD (pv 3) (ay (mO rfl) rfl B.sum_ sU (aa (aM (ix:=[none,none]) [".0","mask"] (aJ rfl (by decide+kernel) rfl rfl rfl) rfl (aO (pv 5)) (fun cl s H fp=>(aB (i:=1) (show ([".0","mask"]:List Str).Nodup by decide+kernel) rfl (Or.inl rfl))) (fun cl s H fp=>aU) (fun cl s H fp=>(aw (aA hu) (ak Bp hr (by decide) rfl (aa (pv 1) ac)) af (fun _ _=>rfl)))) ac))))
   (ad (av (i:=7) nd rfl (Or.inl rfl) (ao aD (pv 3) (ay (mO rfl) rfl B.sum_ sU (aa (aM (ix:=[none,none]) [".0","mask"] (aJ rfl (by decide+kernel) rfl rfl rfl) rfl (aO (pv 5)) (fun cl s H fp=>(aB (i:=1) (show ([".0","mask"]:List Str).Nodup by decide+kernel) rfl (Or.inl rfl))) (fun cl s H fp=>aU) (fun cl s H fp=>(aw (aA hu) (ak Bp hr (by decide) rfl (aa (pv 1) ac)) (AU Af af) (fun _ _=>rfl)))) ac))))
   (ae (ai (vD (aF gh (pv 6) (ba B8 hr (by decide) (pv 0)) (ap _)) (c5 (aF dM (pv 7) (ba B8 hr (by decide) (pv 0)) (ap _)))))))))))
abbrev gd:Stmt:=top 63
theorem sc_rests_by_number:am ["puzzle","thought"] ["puzzle","thought"] (ah gd):=⟨rfl,rfl,rfl,by decide+kernel,rfl,by decide+kernel,by decide+kernel⟩
set_option maxHeartbeats 4000000 in
theorem nj {P:Program} {w:World} {K:PySem.W.Frag} {mg:Str→Option Value} {base:Heap} (B:Bt2 mg) {c:RCl RK} {d:RCl PzK} (Bw:Cal P w K mg base 2 "others" ["rule","cell"] (br K c)) (Bx:MCal P w K mg base d d.ok 1 "rules" ["self"] (b7 K c d)) {f:Addr} {fd:FuncData} (F:Fun K "rests_by_number" "rests_by_number" gd f fd):FnOk P w K mg base CX0 3 f fd ["puzzle","thought"] (bn K c d):=by
 refine F.ok sc_rests_by_number (fun vs H Q E h=>lY h) (fun cdv A outer s H vs Q E hr h=>?_)
 have hu:=hr.units
 have nd:=sc_rests_by_number.nd
 refine ⟨cb K c d,?_,lZ h⟩
 exact (ae (ai (ay e5 rfl B.sorted_ jz (aa (ak Bw hr (by decide) rfl (aa (aw (aA hu) (ba Bx hr (by decide) (pv 0)) (aw (aA hu) (pv 1) af (fun _ _=>rfl)) (fun _ _=>rfl)) (aa (aw (aA hu) (pv 1) af (fun _ _=>rfl)) ac))) ac))))
abbrev dm:Stmt:=mtop 87 1
theorem sc_Ring_has_two_beside:am ["self","cells","cell"] ["self","cells","cell"] (ah dm):=⟨rfl,rfl,rfl,by decide+kernel,rfl,by decide+kernel,by decide+kernel⟩
set_option maxHeartbeats 4000000 in
theorem lj {P:Program} {w:World} {K:PySem.W.Frag} {mg:Str→Option Value} {base:Heap} (B:Bt2 mg) {c:RCl RK} (Da:Cal P w K mg base 2 "beside" ["floor","cell"] (dq K)) (FK_c_floor:FldK K c "floor") {f:Addr} {fd:FuncData} (F:Fun K "has_two_beside" "Ring.has_two_beside" dm f fd):FnOk P w K mg base CX0 3 f fd ["self","cells","cell"] (bO K c):=by
 refine F.ok sc_Ring_has_two_beside (fun vs H Q E h=>kX h) (fun cdv A outer s H vs Q E hr h=>?_)
 have hu:=hr.units
 have nd:=sc_Ring_has_two_beside.nd
 refine ⟨bP K c,?_,kY h⟩
 exact (ae (ai (aF (aG hu) (ay aR rfl B.len_ bo (aa (aM (ix:=[none,none,some 1]) [".0","other","cells"] (aJ rfl (by decide+kernel) rfl rfl rfl) rfl (aO (ak Da hr (by decide) rfl (aa (bu (pv 0) FK_c_floor) (aa (pv 2) ac)))) (fun cl s H fp=>(aB (i:=1) (show ([".0","other","cells"]:List Str).Nodup by decide+kernel) rfl (Or.inl rfl))) (fun cl s H fp=>(i3 (ax (kc hu) (pv 1) (pv 2) (by with_unfolding_all rfl)))) (fun cl s H fp=>(pv 1))) ac)) af (ap _))))
abbrev jj:Stmt:=top 97
theorem sc_first_within:am ["words","least","most"] ["words","least","most"] (ah jj):=⟨rfl,rfl,rfl,by decide+kernel,rfl,by decide+kernel,by decide+kernel⟩
set_option maxHeartbeats 4000000 in
theorem qf {P:Program} {w:World} {K:PySem.W.Frag} {mg:Str→Option Value} {base:Heap} (B:Bt2 mg) (By:Cal P w K mg base 2 "number_within" ["word","least","most"] (bg K)) {f:Addr} {fd:FuncData} (F:Fun K "first_within" "first_within" jj f fd):FnOk P w K mg base CX0 3 f fd ["words","least","most"] (bq K):=by
 refine F.ok sc_first_within (fun vs H Q E h=>ph h) (fun cdv A outer s H vs Q E hr h=>?_)
 have hu:=hr.units
 have nd:=sc_first_within.nd
 refine ⟨d4 K,?_,pi h⟩
 exact (ad (aC (ax (aG hu) (pv 0) (aW ac) (ap _)) (ae bC) ar)
   (ae (ai (ak By hr (by decide) rfl (aa (aw (aA hu) (pv 0) af (fun _ _=>rfl)) (aa (pv 1) (aa (pv 2) ac)))))))
abbrev kC:Stmt:=top 98
theorem sc_told_cells:am ["floor","words","cells"] ["floor","words"] (ah kC):=⟨rfl,rfl,rfl,by decide+kernel,rfl,by decide+kernel,by decide+kernel⟩
set_option maxHeartbeats 4000000 in
theorem sf {P:Program} {w:World} {K:PySem.W.Frag} {mg:Str→Option Value} {base:Heap} (B:Bt2 mg) (Bl:Cal P w K mg base 1 "many_cells" ["floor"] (aP K)) (By:Cal P w K mg base 2 "number_within" ["word","least","most"] (bg K)) {f:Addr} {fd:FuncData} (F:Fun K "told_cells" "told_cells" kC f fd):FnOk P w K mg base CX0 3 f fd ["floor","words"] (cD K):=by
 refine F.ok sc_told_cells (fun vs H Q E h=>rE h) (fun cdv A outer s H vs Q E hr h=>?_)
 have hu:=hr.units
 have nd:=sc_told_cells.nd
 refine ⟨gt K,?_,rF h⟩
 exact (ad (qm (k:=2) nd rfl (Or.inl rfl) rfl (ix:=[none,none,some 0]) [".0","word","floor"] (aJ rfl (by decide+kernel) rfl rfl rfl) rfl (aO (pv 1)) (fun cl s H fp=>(aB (i:=1) (show ([".0","word","floor"]:List Str).Nodup by decide+kernel) rfl (Or.inl rfl))) (fun cl s H fp=>aU) (fun cl s H fp=>(ak By hr (by decide) rfl (aa (pv 1) (aa af (aa (ao cj (ak Bl hr (by decide) rfl (aa (pv 2) ac)) af) ac))))))
   (ad (aC (ax (aG hu) (pv 2) (aW ac) (ap _)) (ae bC) ar)
   (ad (aC (ax (eY hu) (ra rfl rfl rfl B.len_ B.set_ (pv 2)) (ay aR rfl B.len_ bo (aa (pv 2) ac)) (ap _)) (ae bC) ar)
   (ae (ai (pv 2))))))
abbrev nk:Stmt:=top 100
theorem sc_rule_by:am ["floor","words","cells","amount","mark","name"] ["floor","words","cells","amount","mark"] (ah nk):=⟨rfl,rfl,rfl,by decide+kernel,rfl,by decide+kernel,by decide+kernel⟩
set_option maxHeartbeats 4000000 in
theorem wN {P:Program} {w:World} {K:PySem.W.Frag} {mg:Str→Option Value} {base:Heap} (B:Bt2 mg) {c:RCl RK} (GU:KCal P w K mg base 1 "Count" (c.A .Count) ["self","floor","words","cells","amount","mark"] (au K c)) (Ge:KCal P w K mg base 1 "Joined" (c.A .Joined) ["self","floor","words","cells","amount","mark"] (au K c)) (Em:KCal P w K mg base 1 "NoSquare" (c.A .NoSquare) ["self","floor","words","cells","amount","mark"] (au K c)) (Hk:KCal P w K mg base 1 "Ring" (c.A .Ring) ["self","floor","words","cells","amount","mark"] (au K c)) (Gf:KCal P w K mg base 1 "Rising" (c.A .Rising) ["self","floor","words","cells","amount","mark"] (au K c)) (Hl:KCal P w K mg base 1 "Seen" (c.A .Seen) ["self","floor","words","cells","amount","mark"] (au K c)) (K_Sum:KCal P w K mg base 1 "Sum" (c.A .Sum) ["self","floor","words","cells","amount","mark"] (au K c)) (Gg:KCal P w K mg base 1 "Unlike" (c.A .Unlike) ["self","floor","words","cells","amount","mark"] (au K c)) {f:Addr} {fd:FuncData} (F:Fun K "rule_by" "rule_by" nk f fd):FnOk P w K mg base CX0 3 f fd ["floor","words","cells","amount","mark"] (fQ K c):=by
 refine F.ok sc_rule_by (fun vs H Q E h=>wc h) (fun cdv A outer s H vs Q E hr h=>?_)
 have hu:=hr.units
 have nd:=sc_rule_by.nd
 refine ⟨jW K c,?_,wd h⟩
 exact (ad (av (i:=5) nd rfl (Or.inl rfl) (aw (aA hu) (pv 1) af (fun _ _=>rfl)))
   (ad (aC (ax (aG hu) (pv 5) aI (ap _)) (ae (ai (jU Gg hr (by decide) rfl (aa (pv 0) (aa (pv 1) (aa (pv 2) (aa (pv 3) (aa (pv 4) ac)))))))) ar)
   (ad (aC (ax (aG hu) (pv 5) aI (ap _)) (ae (ai (jU K_Sum hr (by decide) rfl (aa (pv 0) (aa (pv 1) (aa (pv 2) (aa (pv 3) (aa (pv 4) ac)))))))) ar)
   (ad (aC (ax (aG hu) (pv 5) aI (ap _)) (ae (ai (jU Gf hr (by decide) rfl (aa (pv 0) (aa (pv 1) (aa (pv 2) (aa (pv 3) (aa (pv 4) ac)))))))) ar)
   (ad (aC (ax (aG hu) (pv 5) aI (ap _)) (ae (ai (jU Hl hr (by decide) rfl (aa (pv 0) (aa (pv 1) (aa (pv 2) (aa (pv 3) (aa (pv 4) ac)))))))) ar)
   (ad (aC (ax (aG hu) (pv 5) aI (ap _)) (ae (ai (jU GU hr (by decide) rfl (aa (pv 0) (aa (pv 1) (aa (pv 2) (aa (pv 3) (aa (pv 4) ac)))))))) ar)
   (ad (aC (ax (aG hu) (pv 5) aI (ap _)) (ae (ai (jU Ge hr (by decide) rfl (aa (pv 0) (aa (pv 1) (aa (pv 2) (aa (pv 3) (aa (pv 4) ac)))))))) ar)
   (ad (aC (ax (aG hu) (pv 5) aI (ap _)) (ae (ai (jU Em hr (by decide) rfl (aa (pv 0) (aa (pv 1) (aa (pv 2) (aa (pv 3) (aa (pv 4) ac)))))))) ar)
   (ad (aC (ax (aG hu) (pv 5) aI (ap _)) (ae (ai (jU Hk hr (by decide) rfl (aa (pv 0) (aa (pv 1) (aa (pv 2) (aa (pv 3) (aa (pv 4) ac)))))))) ar)
   (ae bC))))))))))
abbrev iT:Stmt:=top 107
theorem sc_checked_clues:am ["floor","clues"] ["floor","clues"] (ah iT):=⟨rfl,rfl,rfl,by decide+kernel,rfl,by decide+kernel,by decide+kernel⟩
set_option maxHeartbeats 4000000 in
theorem oV {P:Program} {w:World} {K:PySem.W.Frag} {mg:Str→Option Value} {base:Heap} (B:Bt2 mg) (DU:Cal P w K mg base 2 "is_filling" ["floor","filling","least"] (cF K)) {f:Addr} {fd:FuncData} (F:Fun K "checked_clues" "checked_clues" iT f fd):FnOk P w K mg base CX0 3 f fd ["floor","clues"] (bJ K):=by
 refine F.ok sc_checked_clues (fun vs H Q E h=>oy h) (fun cdv A outer s H vs Q E hr h=>?_)
 have hu:=hr.units
 have nd:=sc_checked_clues.nd
 refine ⟨dG K,?_,oz h⟩
 exact (ad (aC (bR (aZ (ak DU hr (by decide) rfl (aa (pv 0) (aa (pv 1) (aa af ac)))))) (ae bC) ar)
   (ae (ai (bp jS rfl B.list_ i4 (aa (pv 1) ac)))))
abbrev lp:Stmt:=top 35
theorem sc_is_formed:am ["puzzle","thought","floor"] ["puzzle","thought"] (ah lp):=⟨rfl,rfl,rfl,by decide+kernel,rfl,by decide+kernel,by decide+kernel⟩
set_option maxHeartbeats 4000000 in
theorem uu {P:Program} {w:World} {K:PySem.W.Frag} {mg:Str→Option Value} {base:Heap} (B:Bt2 mg) {c:RCl RK} {d:RCl PzK} (Dc:Cal P w K mg base 3 "has_its_rule" ["puzzle","kind","number","cell"] (bY K c d)) (Fe:Cal P w K mg base 2 "is_cell" ["floor","value"] (fS K)) (Ff:Cal P w K mg base 3 "is_sign" ["floor","value"] (fT K)) (Br:Cal P w K mg base 1 "is_whole" ["value"] (aY K)) (Ek:MCal P w K mg base d d.ok 1 "place" ["self"] (kq K c d)) (G_KINDS:GTup K mg "KINDS" lT) {f:Addr} {fd:FuncData} (F:Fun K "is_formed" "is_formed" lp f fd):FnOk P w K mg base CX0 4 f fd ["puzzle","thought"] (dh K c d):=by
 refine F.ok sc_is_formed (fun vs H Q E h=>tN h) (fun cdv A outer s H vs Q E hr h=>?_)
 have hu:=hr.units
 have nd:=sc_is_formed.nd
 refine ⟨iF K c d,?_,tO h⟩
 exact (ad (aC (PW.pt (gj (bR (aZ (ay e6 rfl B.isinstance_ b5 (aa (pv 1) (aa (iX (v:=.ty "tuple") rfl B.tuple_ lJ rfl) ac))))) (gj (ax (eY hu) (ay aR rfl B.len_ bo (aa (pv 1) ac)) af (ap _)) (g6 (vt G_KINDS (aw (aA hu) (pv 1) af (fun _ _=>rfl)) rfl))))) (ae (ai bW)) ar)
   (ad (av (i:=2) nd rfl (Or.inl rfl) (ba Ek hr (by decide) (pv 0)))
   (ad (aC (PW.pt (gj (bR (aZ (ak Fe hr (by decide) rfl (aa (pv 2) (aa (aw (aA hu) (pv 1) af (fun _ _=>rfl)) ac))))) (g6 (bR (aZ (ak Ff hr (by decide) rfl (aa (pv 2) (aa (aw (aA hu) (pv 1) af (fun _ _=>rfl)) ac)))))))) (ae (ai bW)) ar)
   (ad (aC (bR (aZ (ak Dc hr (by decide) rfl (aa (pv 0) (aa (aw (aA hu) (pv 1) af (fun _ _=>rfl)) (aa (aw (aA hu) (pv 1) af (fun _ _=>rfl)) (aa (aw (aA hu) (pv 1) af (fun _ _=>rfl)) ac))))))) (ae (ai bW)) ar)
   (ae (ai (cK (ay e6 rfl B.isinstance_ b5 (aa (aw (aA hu) (pv 1) af (fun _ _=>rfl)) (aa (iX (v:=.ty "list") rfl B.list_ i4 rfl) ac))) (c5 (ay (dn rfl) rfl B.all_ jB (aa (aM (ix:=[none,none]) [".0","part"] (aJ rfl (by decide+kernel) rfl rfl rfl) rfl (aO (aw (aA hu) (pv 1) af (fun _ _=>rfl))) (fun cl s H fp=>(aB (i:=1) (show ([".0","part"]:List Str).Nodup by decide+kernel) rfl (Or.inl rfl))) (fun cl s H fp=>aU) (fun cl s H fp=>(ak Br hr (by decide) rfl (aa (pv 1) ac)))) ac))))))))))
abbrev lq:Stmt:=top 38
theorem sc_many_only:am ["some","sign"] ["some","sign"] (ah lq):=⟨rfl,rfl,rfl,by decide+kernel,rfl,by decide+kernel,by decide+kernel⟩
set_option maxHeartbeats 4000000 in
theorem uv {P:Program} {w:World} {K:PySem.W.Frag} {mg:Str→Option Value} {base:Heap} (B:Bt2 mg) (En:Cal P w K mg base 3 "has_only" ["mask","sign"] (dW K)) {f:Addr} {fd:FuncData} (F:Fun K "many_only" "many_only" lq f fd):FnOk P w K mg base CX0 4 f fd ["some","sign"] (di K):=by
 refine F.ok sc_many_only (fun vs H Q E h=>tP h) (fun cdv A outer s H vs Q E hr h=>?_)
 have hu:=hr.units
 have nd:=sc_many_only.nd
 refine ⟨iG K,?_,tQ h⟩
 exact (ae (ai (ay aR rfl B.len_ bo (aa (aM (ix:=[none,none,some 1]) [".0","mask","sign"] (aJ rfl (by decide+kernel) rfl rfl rfl) rfl (aO (pv 0)) (fun cl s H fp=>(aB (i:=1) (show ([".0","mask","sign"]:List Str).Nodup by decide+kernel) rfl (Or.inl rfl))) (fun cl s H fp=>(i3 (aZ (ak En hr (by decide) rfl (aa (pv 1) (aa (pv 2) ac)))))) (fun cl s H fp=>(pv 1))) ac))))
abbrev jk:Stmt:=top 49
theorem sc_step_strikes:am ["rule","masks","cell","sign","more"] ["rule","masks","cell","sign","more"] (ah jk):=⟨rfl,rfl,rfl,by decide+kernel,rfl,by decide+kernel,by decide+kernel⟩
set_option maxHeartbeats 4000000 in
theorem qg {P:Program} {w:World} {K:PySem.W.Frag} {mg:Str→Option Value} {base:Heap} (B:Bt2 mg) {c:RCl RK} (Ce:Cal P w K mg base 2 "ahead_of" ["rule","cell"] (cf K c)) (Db:Cal P w K mg base 2 "behind" ["rule","cell"] (du K c)) (CP:Cal P w K mg base 3 "is_no_greater" ["sign","mask"] (bL K)) (DW:Cal P w K mg base 3 "is_no_less" ["sign","mask"] (cH K)) {f:Addr} {fd:FuncData} (F:Fun K "step_strikes" "step_strikes" jk f fd):FnOk P w K mg base CX0 4 f fd ["rule","masks","cell","sign","more"] (bZ K c):=by
 refine F.ok sc_step_strikes (fun vs H Q E h=>pK h) (fun cdv A outer s H vs Q E hr h=>?_)
 have hu:=hr.units
 have nd:=sc_step_strikes.nd
 refine ⟨eH K c,?_,pL h⟩
 exact (ad (aC (ax (eY hu) (pv 4) (aW ac) (ap _)) (ae (ai bW)) ar)
   (ad (aC (aZ (ay (mM rfl) rfl B.any_ sP (aa (aM (ix:=[none,none,some 1,some 3]) [".0","other","masks","sign"] (aJ rfl (by decide+kernel) rfl rfl rfl) rfl (aO (ak Ce hr (by decide) rfl (aa (pv 0) (aa (pv 2) ac)))) (fun cl s H fp=>(aB (i:=1) (show ([".0","other","masks","sign"]:List Str).Nodup by decide+kernel) rfl (Or.inl rfl))) (fun cl s H fp=>aU) (fun cl s H fp=>(ak CP hr (by decide) rfl (aa (pv 3) (aa (aw (aA hu) (pv 2) (pv 1) (fun _ _=>rfl)) ac))))) ac))) (ae (ai bW)) ar)
   (ae (ai (ay (mM rfl) rfl B.any_ sP (aa (aM (ix:=[none,none,some 1,some 3]) [".0","other","masks","sign"] (aJ rfl (by decide+kernel) rfl rfl rfl) rfl (aO (ak Db hr (by decide) rfl (aa (pv 0) (aa (pv 2) ac)))) (fun cl s H fp=>(aB (i:=1) (show ([".0","other","masks","sign"]:List Str).Nodup by decide+kernel) rfl (Or.inl rfl))) (fun cl s H fp=>aU) (fun cl s H fp=>(ak DW hr (by decide) rfl (aa (pv 3) (aa (aw (aA hu) (pv 2) (pv 1) (fun _ _=>rfl)) ac))))) ac))))))
abbrev mj:Stmt:=top 76
theorem sc_rests_on:am ["puzzle","thought"] ["puzzle","thought"] (ah mj):=⟨rfl,rfl,rfl,by decide+kernel,rfl,by decide+kernel,by decide+kernel⟩
set_option maxHeartbeats 4000000 in
theorem va {P:Program} {w:World} {K:PySem.W.Frag} {mg:Str→Option Value} {base:Heap} (B:Bt2 mg) {c:RCl RK} {d:RCl PzK} (CQ:Cal P w K mg base 3 "rests_by_line" ["puzzle","thought"] (bw K c d)) (Ch:Cal P w K mg base 3 "rests_by_number" ["puzzle","thought"] (bn K c d)) (G_LINE_KINDS:GTup K mg "LINE_KINDS" cG) (G_NUMBER_KINDS:GTup K mg "NUMBER_KINDS" bX) {f:Addr} {fd:FuncData} (F:Fun K "rests_on" "rests_on" mj f fd):FnOk P w K mg base CX0 4 f fd ["puzzle","thought"] (cI K c d):=by
 refine F.ok sc_rests_on (fun vs H Q E h=>rR h) (fun cdv A outer s H vs Q E hr h=>?_)
 have hu:=hr.units
 have nd:=sc_rests_on.nd
 refine ⟨gC K c d,?_,rS h⟩
 exact (ad (aC (lE G_LINE_KINDS (aw (aA hu) (pv 1) af (fun _ _=>rfl)) rfl) (ae (ai (ak CQ hr (by decide) rfl (aa (pv 0) (aa (pv 1) ac))))) ar)
   (ad (aC (lE G_NUMBER_KINDS (aw (aA hu) (pv 1) af (fun _ _=>rfl)) rfl) (ae (ai (ak Ch hr (by decide) rfl (aa (pv 0) (aa (pv 1) ac))))) ar)
   (ae (ai gY))))
abbrev fJ:Stmt:=mtop 85 1
theorem sc_Joined_is_joined:am ["self","cells"] ["self","cells"] (ah fJ):=⟨rfl,rfl,rfl,by decide+kernel,rfl,by decide+kernel,by decide+kernel⟩
set_option maxHeartbeats 4000000 in
theorem iW {P:Program} {w:World} {K:PySem.W.Frag} {mg:Str→Option Value} {base:Heap} (B:Bt2 mg) {c:RCl RK} (Ea:Cal P w K mg base 3 "reached" ["floor","cells","start"] (fZ K)) (FK_c_floor:FldK K c "floor") {f:Addr} {fd:FuncData} (F:Fun K "is_joined" "Joined.is_joined" fJ f fd):FnOk P w K mg base CX0 4 f fd ["self","cells"] (bH K c):=by
 refine F.ok sc_Joined_is_joined (fun vs H Q E h=>mx h) (fun cdv A outer s H vs Q E hr h=>?_)
 have hu:=hr.units
 have nd:=sc_Joined_is_joined.nd
 refine ⟨cA K c,?_,my h⟩
 exact (ae (ai (vD (aF (aG hu) (pv 1) (aW ac) (ap _)) (c5 (aF (aG hu) (ak Ea hr (by decide) rfl (aa (bu (pv 0) FK_c_floor) (aa (pv 1) (aa (aw (aA hu) (pv 1) af (fun _ _=>rfl)) ac)))) (pv 1) (ap _))))))
abbrev gM:Stmt:=mtop 86 0
theorem sc_NoSquare_holds:am ["self","filling","cells"] ["self","filling"] (ah gM):=⟨rfl,rfl,rfl,by decide+kernel,rfl,by decide+kernel,by decide+kernel⟩
set_option maxHeartbeats 4000000 in
theorem nS {P:Program} {w:World} {K:PySem.W.Frag} {mg:Str→Option Value} {base:Heap} (B:Bt2 mg) {c:RCl RK} (Ee:Cal P w K mg base 1 "is_within" ["some","cells"] (dj K)) (Fg:Cal P w K mg base 3 "squares" ["floor"] (fM K)) (FK_c_floor:FldK K c "floor") (BB:MCal P w K mg base c c.ok 1 "marked" ["self","filling"] (bG K c)) {f:Addr} {fd:FuncData} (F:Fun K "holds" "NoSquare.holds" gM f fd):FnOk P w K mg base CX0 4 f fd ["self","filling"] (cX K c):=by
 refine F.ok sc_NoSquare_holds (fun vs H Q E h=>nM h) (fun cdv A outer s H vs Q E hr h=>?_)
 have hu:=hr.units
 have nd:=sc_NoSquare_holds.nd
 refine ⟨cY K c,?_,nN h⟩
 exact (ad (av (i:=2) nd rfl (Or.inr rfl) (b6 BB hr (by decide) (pv 0) (aa (pv 1) ac)))
   (ae (ai (wU (ay (mM rfl) rfl B.any_ sP (aa (aM (ix:=[none,none,some 2]) [".0","square","cells"] (aJ rfl (by decide+kernel) rfl rfl rfl) rfl (aO (ak Fg hr (by decide) rfl (aa (bu (pv 0) FK_c_floor) ac))) (fun cl s H fp=>(aB (i:=1) (show ([".0","square","cells"]:List Str).Nodup by decide+kernel) rfl (Or.inl rfl))) (fun cl s H fp=>aU) (fun cl s H fp=>(ak Ee hr (by decide) rfl (aa (pv 1) (aa (pv 2) ac))))) ac))))))
abbrev mn:Stmt:=top 99
theorem sc_cells_of:am ["floor","name","words"] ["floor","name","words"] (ah mn):=⟨rfl,rfl,rfl,by decide+kernel,rfl,by decide+kernel,by decide+kernel⟩
set_option maxHeartbeats 4000000 in
theorem vb {P:Program} {w:World} {K:PySem.W.Frag} {mg:Str→Option Value} {base:Heap} (B:Bt2 mg) (Bl:Cal P w K mg base 1 "many_cells" ["floor"] (aP K)) (DX:Cal P w K mg base 3 "told_cells" ["floor","words"] (cD K)) (G_OF_ALL_CELLS:GTup K mg "OF_ALL_CELLS" d3) {f:Addr} {fd:FuncData} (F:Fun K "cells_of" "cells_of" mn f fd):FnOk P w K mg base CX0 4 f fd ["floor","name","words"] (dS K):=by
 refine F.ok sc_cells_of (fun vs H Q E h=>uD h) (fun cdv A outer s H vs Q E hr h=>?_)
 have hu:=hr.units
 have nd:=sc_cells_of.nd
 refine ⟨jp K,?_,uE h⟩
 exact (ad (aC (vt G_OF_ALL_CELLS (pv 1) rfl) (ae (ai (ak DX hr (by decide) rfl (aa (pv 0) (aa (pv 2) ac))))) ar)
   (ad (aC (ax (eY hu) (pv 2) (aW ac) (ap _)) (ae bC) ar)
   (ae (ai (nY rfl rfl rfl B.list_ B.range_ (aa (ak Bl hr (by decide) rfl (aa (pv 0) ac)) ac))))))
abbrev iU:Stmt:=top 104
theorem sc_checked_floor:am ["floor"] ["floor"] (ah iU):=⟨rfl,rfl,rfl,by decide+kernel,rfl,by decide+kernel,by decide+kernel⟩
set_option maxHeartbeats 4000000 in
theorem oW {P:Program} {w:World} {K:PySem.W.Frag} {mg:Str→Option Value} {base:Heap} (B:Bt2 mg) (Eo:Cal P w K mg base 3 "floor_of" ["high","wide","signs"] (dU K)) {f:Addr} {fd:FuncData} (F:Fun K "checked_floor" "checked_floor" iU f fd):FnOk P w K mg base CX0 4 f fd ["floor"] (bI K):=by
 refine F.ok sc_checked_floor (fun vs H Q E h=>ow h) (fun cdv A outer s H vs Q E hr h=>?_)
 have hu:=hr.units
 have nd:=sc_checked_floor.nd
 refine ⟨dF K,?_,ox h⟩
 exact (ad (aC (PW.pt (gj (bR (aZ (ay e6 rfl B.isinstance_ b5 (aa (pv 0) (aa (iX (v:=.ty "tuple") rfl B.tuple_ lJ rfl) ac))))) (g6 (ax (eY hu) (ay aR rfl B.len_ bo (aa (pv 0) ac)) af (ap _))))) (ae bC) ar)
   (ae (ai (ak Eo hr (by decide) rfl (aa (aw (aA hu) (pv 0) af (fun _ _=>rfl)) (aa (aw (aA hu) (pv 0) af (fun _ _=>rfl)) (aa (aw (aA hu) (pv 0) af (fun _ _=>rfl)) ac)))))))
abbrev ge:Stmt:=top 52
theorem sc_strikes_by_line:am ["puzzle","masks","thought","kind","cell","sign","more","rule"] ["puzzle","masks","thought"] (ah ge):=⟨rfl,rfl,rfl,by decide+kernel,rfl,by decide+kernel,by decide+kernel⟩
set_option maxHeartbeats 4000000 in
theorem nn {P:Program} {w:World} {K:PySem.W.Frag} {mg:Str→Option Value} {base:Heap} (B:Bt2 mg) {c:RCl RK} {d:RCl PzK} (Dd:Cal P w K mg base 4 "step_strikes" ["rule","masks","cell","sign","more"] (bZ K c)) (Hx:MCal P w K mg base d d.ok 1 "clues" ["self"] (oA K c d)) (Ek:MCal P w K mg base d d.ok 1 "place" ["self"] (kq K c d)) (Bx:MCal P w K mg base d d.ok 1 "rules" ["self"] (b7 K c d)) {f:Addr} {fd:FuncData} (F:Fun K "strikes_by_line" "strikes_by_line" ge f fd):FnOk P w K mg base CX0 5 f fd ["puzzle","masks","thought"] (bm K c d):=by
 refine F.ok sc_strikes_by_line (fun vs H Q E h=>lW h) (fun cdv A outer s H vs Q E hr h=>?_)
 have hu:=hr.units
 have nd:=sc_strikes_by_line.nd
 refine ⟨ca K c d,?_,lX h⟩
 exact (ad (av (i:=3) nd rfl (Or.inl rfl) (aw (aA hu) (pv 2) af (fun _ _=>rfl)))
   (ad (av (i:=4) nd rfl (Or.inl rfl) (aw (aA hu) (pv 2) af (fun _ _=>rfl)))
   (ad (av (i:=5) nd rfl (Or.inl rfl) (aw (aA hu) (pv 2) af (fun _ _=>rfl)))
   (ad (av (i:=6) nd rfl (Or.inl rfl) (aw (aA hu) (pv 2) af (fun _ _=>rfl)))
   (ad (aC (ax (aG hu) (pv 3) aI (ap _)) (ae (ai gY)) ar)
   (ad (av (i:=7) nd rfl (Or.inl rfl) (aw (aA hu) (ba Bx hr (by decide) (pv 0)) (aw (aA hu) (pv 2) af (fun _ _=>rfl)) (fun _ _=>rfl)))
   (ad (aC (ax (aG hu) (pv 3) aI (ap _)) (ae (ai gY)) ar)
   (ad (aC (ax (aG hu) (pv 3) aI (ap _)) (ae (ai gY)) ar)
   (ad (aC (ax (aG hu) (pv 3) aI (ap _)) (ae (ai (ak Dd hr (by decide) rfl (aa (pv 7) (aa (pv 1) (aa (pv 4) (aa (pv 5) (aa (pv 6) ac)))))))) ar)
   (ae (ai gY)))))))))))
abbrev iV:Stmt:=top 57
theorem sc_count_strikes:am ["rule","masks","cell","sign","more","some"] ["rule","masks","cell","sign","more"] (ah iV):=⟨rfl,rfl,rfl,by decide+kernel,rfl,by decide+kernel,by decide+kernel⟩
set_option maxHeartbeats 4000000 in
theorem oX {P:Program} {w:World} {K:PySem.W.Frag} {mg:Str→Option Value} {base:Heap} (B:Bt2 mg) {c:RCl RK} (Ep:Cal P w K mg base 2 "many_may" ["some","sign"] (dX K)) (Ef:Cal P w K mg base 4 "many_only" ["some","sign"] (di K)) (Bz:Cal P w K mg base 1 "masks_at" ["masks","cells"] (bB K)) (Bw:Cal P w K mg base 2 "others" ["rule","cell"] (br K c)) (B8:MCal P w K mg base c c.ok 1 "number" ["self"] (dt K c)) (GG:MCal P w K mg base c c.ok 1 "sign" ["self"] (lC K c)) {f:Addr} {fd:FuncData} (F:Fun K "count_strikes" "count_strikes" iV f fd):FnOk P w K mg base CX0 5 f fd ["rule","masks","cell","sign","more"] (bK K c):=by
 refine F.ok sc_count_strikes (fun vs H Q E h=>oB h) (fun cdv A outer s H vs Q E hr h=>?_)
 have hu:=hr.units
 have nd:=sc_count_strikes.nd
 refine ⟨dH K c,?_,oC h⟩
 exact (ad (aC (ax (eY hu) (pv 4) (aW ac) (ap _)) (ae (ai bW)) ar)
   (ad (av (i:=5) nd rfl (Or.inl rfl) (ak Bz hr (by decide) rfl (aa (pv 1) (aa (ak Bw hr (by decide) rfl (aa (pv 0) (aa (pv 2) ac))) ac))))
   (ad (aC (ax (aG hu) (pv 3) (ba GG hr (by decide) (pv 0)) (ap _)) (ae (ai (aF sO (ak Ef hr (by decide) rfl (aa (pv 5) (aa (pv 3) ac))) (ba B8 hr (by decide) (pv 0)) (ap _)))) ar)
   (ae (ai (aF dM (ak Ep hr (by decide) rfl (aa (pv 5) (aa (ba GG hr (by decide) (pv 0)) ac))) (ba B8 hr (by decide) (pv 0)) (ap _)))))))
abbrev jl:Stmt:=mtop 85 0
theorem sc_Joined_holds:am ["self","filling"] ["self","filling"] (ah jl):=⟨rfl,rfl,rfl,by decide+kernel,rfl,by decide+kernel,by decide+kernel⟩
set_option maxHeartbeats 4000000 in
theorem qh {P:Program} {w:World} {K:PySem.W.Frag} {mg:Str→Option Value} {base:Heap} (B:Bt2 mg) {c:RCl RK} (Eg:MCal P w K mg base c c.ok 4 "is_joined" ["self","cells"] (cz K c)) (BB:MCal P w K mg base c c.ok 1 "marked" ["self","filling"] (bG K c)) {f:Addr} {fd:FuncData} (F:Fun K "holds" "Joined.holds" jl f fd):FnOk P w K mg base CX0 5 f fd ["self","filling"] (eK K c):=by
 refine F.ok sc_Joined_holds (fun vs H Q E h=>pO h) (fun cdv A outer s H vs Q E hr h=>?_)
 have hu:=hr.units
 have nd:=sc_Joined_holds.nd
 refine ⟨eP K c,?_,pP h⟩
 exact (ae (ai (b6 Eg hr (by decide) (pv 0) (aa (b6 BB hr (by decide) (pv 0) (aa (pv 1) ac)) ac))))
abbrev kD:Stmt:=mtop 87 0
theorem sc_Ring_holds:am ["self","filling","cells"] ["self","filling"] (ah kD):=⟨rfl,rfl,rfl,by decide+kernel,rfl,by decide+kernel,by decide+kernel⟩
set_option maxHeartbeats 4000000 in
theorem sh {P:Program} {w:World} {K:PySem.W.Frag} {mg:Str→Option Value} {base:Heap} (B:Bt2 mg) {c:RCl RK} (Gh:MCal P w K mg base c c.ok 3 "has_two_beside" ["self","cells","cell"] (cV K c)) (Eg:MCal P w K mg base c c.ok 4 "is_joined" ["self","cells"] (cz K c)) (BB:MCal P w K mg base c c.ok 1 "marked" ["self","filling"] (bG K c)) {f:Addr} {fd:FuncData} (F:Fun K "holds" "Ring.holds" kD f fd):FnOk P w K mg base CX0 5 f fd ["self","filling"] (gA K c):=by
 refine F.ok sc_Ring_holds (fun vs H Q E h=>rP h) (fun cdv A outer s H vs Q E hr h=>?_)
 have hu:=hr.units
 have nd:=sc_Ring_holds.nd
 refine ⟨gB K c,?_,rQ h⟩
 exact (ad (av (i:=2) nd rfl (Or.inr rfl) (b6 BB hr (by decide) (pv 0) (aa (pv 1) ac)))
   (ae (ai (cK (b6 Eg hr (by decide) (pv 0) (aa (pv 2) ac)) (c5 (ay (dn rfl) rfl B.all_ jB (aa (aM (ix:=[none,none,some 2,some 0]) [".0","cell","cells","self"] (aJ rfl (by decide+kernel) rfl rfl rfl) rfl (aO (pv 2)) (fun cl s H fp=>(aB (i:=1) (show ([".0","cell","cells","self"]:List Str).Nodup by decide+kernel) rfl (Or.inl rfl))) (fun cl s H fp=>aU) (fun cl s H fp=>(b6 Gh hr (by decide) (pv 3) (aa (pv 2) (aa (pv 1) ac))))) ac)))))))
abbrev lr:Stmt:=top 101
theorem sc_read_rule:am ["floor","line","words","name","rest","amount","mark"] ["floor","line"] (ah lr):=⟨rfl,rfl,rfl,by decide+kernel,rfl,by decide+kernel,by decide+kernel⟩
set_option maxHeartbeats 4000000 in
theorem uw {P:Program} {w:World} {K:PySem.W.Frag} {mg:Str→Option Value} {base:Heap} (B:Bt2 mg) {c:RCl RK} (Er:Cal P w K mg base 4 "cells_of" ["floor","name","words"] (dS K)) (Cf:Cal P w K mg base 3 "first_within" ["words","least","most"] (bq K)) (Fh:Cal P w K mg base 3 "rule_by" ["floor","words","cells","amount","mark"] (fQ K c)) {t_MOST_NUMBER:Tok} (Dq:mg "MOST_NUMBER"=some (.int 99 t_MOST_NUMBER)) (G_WITH_NUMBER:GTup K mg "WITH_NUMBER" fN) (G_WITH_SIGN:GTup K mg "WITH_SIGN" fE) {f:Addr} {fd:FuncData} (F:Fun K "read_rule" "read_rule" lr f fd):FnOk P w K mg base CX0 5 f fd ["floor","line"] (dg K c):=by
 refine F.ok sc_read_rule (fun vs H Q E h=>tL h) (fun cdv A outer s H vs Q E hr h=>?_)
 have hu:=hr.units
 have nd:=sc_read_rule.nd
 refine ⟨iD K c,?_,tM h⟩
 exact (ad (aC (bR (aZ (ay e6 rfl B.isinstance_ b5 (aa (pv 1) (aa (iX (v:=.ty "str") rfl B.str_ ly rfl) ac))))) (ae bC) ar)
   (ad (av (i:=2) nd rfl (Or.inl rfl) (d2 PySem.F.plainAttrs_str PySem.F.slot_str_split PySem.F.type_str_split xw (pv 1) (aa aI ac)))
   (ad (av (i:=3) nd rfl (Or.inl rfl) (aw (aA hu) (pv 2) af (fun _ _=>rfl)))
   (ad (av (i:=4) nd rfl (Or.inl rfl) (iZ nB (pv 2) (gO af) nt))
   (ad (av (i:=5) nd rfl (Or.inl rfl) af)
   (ad (av (i:=6) nd rfl (Or.inl rfl) af)
   (ad (aC (lE G_WITH_NUMBER (pv 3) rfl) (ad (av (i:=5) nd rfl (Or.inl rfl) (ak Cf hr (by decide) rfl (aa (pv 4) (aa af (aa (cB rfl Dq ⟨t_MOST_NUMBER,rfl⟩) ac)))))
   (ae (av (i:=4) nd rfl (Or.inl rfl) (iZ nB (pv 4) (gO af) nt)))) ar)
   (ad (aC (lE G_WITH_SIGN (pv 3) rfl) (ad (av (i:=6) nd rfl (Or.inl rfl) (ak Cf hr (by decide) rfl (aa (pv 4) (aa af (aa (aw (aA hu) (pv 0) af (fun _ _=>rfl)) ac)))))
   (ae (av (i:=4) nd rfl (Or.inl rfl) (iZ nB (pv 4) (gO af) nt)))) ar)
   (ae (ai (ak Fh hr (by decide) rfl (aa (pv 0) (aa (pv 2) (aa (ak Er hr (by decide) rfl (aa (pv 0) (aa (pv 3) (aa (pv 4) ac)))) (aa (pv 5) (aa (pv 6) ac))))))))))))))))
abbrev jm:Stmt:=top 61
theorem sc_ways_strikes:am ["rule","masks","cell","sign","more","rest","some","fillings","other","filling"] ["rule","masks","cell","sign","more"] (ah jm):=⟨rfl,rfl,rfl,by decide+kernel,rfl,by decide+kernel,by decide+kernel⟩
set_option maxHeartbeats 4000000 in
theorem qi {P:Program} {w:World} {K:PySem.W.Frag} {mg:Str→Option Value} {base:Heap} (B:Bt2 mg) {c:RCl RK} (CN:Cal P w K mg base 1 "clashes" ["masks"] (cR K)) (Bz:Cal P w K mg base 1 "masks_at" ["masks","cells"] (bB K)) (Bw:Cal P w K mg base 2 "others" ["rule","cell"] (br K c)) (Bp:Cal P w K mg base 2 "signs_in" ["mask"] (aT K)) (Hm:Cal P w K mg base 3 "ways" ["masks"] (j7 K)) (Cw:Cal P w K mg base 2 "with_each_sign" ["fillings","cell","signs"] (bE K)) (BH:Cal P w K mg base 1 "with_sign" ["filling","cell","sign"] (bU K)) {t_MOST_WAYS:Tok} (Eh:mg "MOST_WAYS"=some (.int 32 t_MOST_WAYS)) (GV:MCal P w K mg base c c.ok 5 "holds" ["self","filling"] (cy K c)) {f:Addr} {fd:FuncData} (F:Fun K "ways_strikes" "ways_strikes" jm f fd):FnOk P w K mg base CX0 6 f fd ["rule","masks","cell","sign","more"] (b2 K c):=by
 refine F.ok sc_ways_strikes (fun vs H Q E h=>pR h) (fun cdv A outer s H vs Q E hr h=>?_)
 have hu:=hr.units
 have nd:=sc_ways_strikes.nd
 refine ⟨eQ K c,?_,pS h⟩
 exact (ad (av (i:=5) nd rfl (Or.inl rfl) (ak Bw hr (by decide) rfl (aa (pv 0) (aa (pv 2) ac))))
   (ad (av (i:=6) nd rfl (Or.inl rfl) (ak Bz hr (by decide) rfl (aa (pv 1) (aa (pv 5) ac))))
   (ad (aC (PW.pt (gj (ax (eY hu) (pv 4) (aW ac) (ap _)) (g6 (ax gh (ak Hm hr (by decide) rfl (aa (pv 6) ac)) (cB rfl Eh ⟨t_MOST_WAYS,rfl⟩) (ap _))))) (ae (ai bW)) ar)
   (ad (aC (aZ (ak CN hr (by decide) rfl (aa (pv 6) ac))) (ae (ai bW)) ar)
   (ad (av (i:=7) nd rfl (Or.inl rfl) (aW (aa (ak BH hr (by decide) rfl (aa (ao yD (aW (aa af ac)) (ay aR rfl B.len_ bo (aa (pv 1) ac))) (aa (pv 2) (aa (pv 3) ac)))) ac)))
   (ad (c6 PassesOwn.never rfl (aO (pv 5)) (aB (i:=8) nd rfl (Or.inl rfl))
   (ae (av (i:=7) nd rfl (Or.inl rfl) (ak Cw hr (by decide) rfl (aa (pv 7) (aa (pv 8) (aa (ak Bp hr (by decide) rfl (aa (aw (aA hu) (pv 1) (pv 8) (fun _ _=>rfl)) ac)) ac)))))))
   (ad (c6 PassesOwn.never rfl (aO (pv 7)) (aB (i:=9) nd rfl (Or.inl rfl))
   (ae (aC (aZ (b6 GV hr (by decide) (pv 0) (aa (pv 9) ac))) (ae (ai bW)) ar)))
   (ae (ai bW)))))))))
abbrev kE:Stmt:=top 105
theorem sc_read_rules:am ["floor","lines"] ["floor","lines"] (ah kE):=⟨rfl,rfl,rfl,by decide+kernel,rfl,by decide+kernel,by decide+kernel⟩
set_option maxHeartbeats 4000000 in
theorem si {P:Program} {w:World} {K:PySem.W.Frag} {mg:Str→Option Value} {base:Heap} (B:Bt2 mg) {c:RCl RK} (Ei:Cal P w K mg base 5 "read_rule" ["floor","line"] (dg K c)) {t_MOST_RULES:Tok} (DY:mg "MOST_RULES"=some (.int 12 t_MOST_RULES)) {f:Addr} {fd:FuncData} (F:Fun K "read_rules" "read_rules" kE f fd):FnOk P w K mg base CX0 6 f fd ["floor","lines"] (cE K c):=by
 refine F.ok sc_read_rules (fun vs H Q E h=>rG h) (fun cdv A outer s H vs Q E hr h=>?_)
 have hu:=hr.units
 have nd:=sc_read_rules.nd
 refine ⟨gu K c,?_,rH h⟩
 exact (ad (aC (ax gh (ay aR rfl B.len_ bo (aa (pv 1) ac)) (cB rfl DY ⟨t_MOST_RULES,rfl⟩) (ap _)) (ae bC) ar)
   (ae (ai (aM (ix:=[none,none,some 0]) [".0","line","floor"] (aJ rfl (by decide+kernel) rfl rfl rfl) rfl (aO (pv 1)) (fun cl s H fp=>(aB (i:=1) (show ([".0","line","floor"]:List Str).Nodup by decide+kernel) rfl (Or.inl rfl))) (fun cl s H fp=>aU) (fun cl s H fp=>(ak Ei hr (by decide) rfl (aa (pv 2) (aa (pv 1) ac))))))))
abbrev dZ:Stmt:=top 62
theorem sc_strikes_by_number:am ["puzzle","masks","thought","rule"] ["puzzle","masks","thought"] (ah dZ):=⟨rfl,rfl,rfl,by decide+kernel,rfl,by decide+kernel,by decide+kernel⟩
set_option maxHeartbeats 4000000 in
theorem mq {P:Program} {w:World} {K:PySem.W.Frag} {mg:Str→Option Value} {base:Heap} (B:Bt2 mg) {c:RCl RK} {d:RCl PzK} (CS:Cal P w K mg base 5 "count_strikes" ["rule","masks","cell","sign","more"] (bK K c)) (Dr:Cal P w K mg base 3 "sum_strikes" ["rule","masks","cell","sign","more"] (cm K c)) (De:Cal P w K mg base 6 "ways_strikes" ["rule","masks","cell","sign","more"] (b2 K c)) (Bx:MCal P w K mg base d d.ok 1 "rules" ["self"] (b7 K c d)) {f:Addr} {fd:FuncData} (F:Fun K "strikes_by_number" "strikes_by_number" dZ f fd):FnOk P w K mg base CX0 7 f fd ["puzzle","masks","thought"] (be K c d):=by
 refine F.ok sc_strikes_by_number (fun vs H Q E h=>kZ h) (fun cdv A outer s H vs Q E hr h=>?_)
 have hu:=hr.units
 have nd:=sc_strikes_by_number.nd
 refine ⟨bQ K c d,?_,k6 h⟩
 exact (ad (av (i:=3) nd rfl (Or.inl rfl) (aw (aA hu) (ba Bx hr (by decide) (pv 0)) (aw (aA hu) (pv 2) af (fun _ _=>rfl)) (fun _ _=>rfl)))
   (ad (aC (ax (aG hu) (aw (aA hu) (pv 2) af (fun _ _=>rfl)) aI (ap _)) (ae (ai (ak CS hr (by decide) rfl (aa (pv 3) (aa (pv 1) (aa (aw (aA hu) (pv 2) af (fun _ _=>rfl)) (aa (aw (aA hu) (pv 2) af (fun _ _=>rfl)) (aa (aw (aA hu) (pv 2) af (fun _ _=>rfl)) ac)))))))) ar)
   (ad (aC (ax (aG hu) (aw (aA hu) (pv 2) af (fun _ _=>rfl)) aI (ap _)) (ae (ai (ak Dr hr (by decide) rfl (aa (pv 3) (aa (pv 1) (aa (aw (aA hu) (pv 2) af (fun _ _=>rfl)) (aa (aw (aA hu) (pv 2) af (fun _ _=>rfl)) (aa (aw (aA hu) (pv 2) af (fun _ _=>rfl)) ac)))))))) ar)
   (ae (ai (ak De hr (by decide) rfl (aa (pv 3) (aa (pv 1) (aa (aw (aA hu) (pv 2) af (fun _ _=>rfl)) (aa (aw (aA hu) (pv 2) af (fun _ _=>rfl)) (aa (aw (aA hu) (pv 2) af (fun _ _=>rfl)) ac)))))))))))
abbrev gf:Stmt:=mtop 108 0
theorem sc_Puzzle___init__:am ["self","floor","lines","clues"] ["self","floor","lines","clues"] (ah gf):=⟨rfl,rfl,rfl,by decide+kernel,rfl,by decide+kernel,by decide+kernel⟩
set_option maxHeartbeats 4000000 in
theorem no {P:Program} {w:World} {K:PySem.W.Frag} {mg:Str→Option Value} {base:Heap} (B:Bt2 mg) {c:RCl RK} {d:RCl PzK} (CT:Cal P w K mg base 3 "checked_clues" ["floor","clues"] (bJ K)) (CU:Cal P w K mg base 4 "checked_floor" ["floor"] (bI K)) (DZ:Cal P w K mg base 6 "read_rules" ["floor","lines"] (cE K c)) (FK_d_floor:FldK K d "floor") (FK_d_given:FldK K d "given") (FK_d_laws:FldK K d "laws") {f:Addr} {fd:FuncData} (F:Fun K "__init__" "Puzzle.__init__" gf f fd):FnOk P w K mg base CX0 7 f fd ["self","floor","lines","clues"] (bb K c d):=by
 refine F.ok sc_Puzzle___init__ (fun vs H Q E h=>mT h) (fun cdv A outer s H vs Q E hr h=>?_)
 have hu:=hr.units
 have nd:=sc_Puzzle___init__.nd
 refine ⟨cQ K c d,?_,mU h⟩
 exact (ad (gU (pv 0) (ak CU hr (by decide) rfl (aa (pv 1) ac)) FK_d_floor)
   (ad (gU (pv 0) (ak DZ hr (by decide) rfl (aa (bu (pv 0) FK_d_floor) (aa (pv 2) ac))) FK_d_laws)
   (ae (gU (pv 0) (ak CT hr (by decide) rfl (aa (bu (pv 0) FK_d_floor) (aa (pv 3) ac))) FK_d_given))))
abbrev np:Stmt:=top 74
theorem sc_strikes:am ["puzzle","masks","thought"] ["puzzle","masks","thought"] (ah np):=⟨rfl,rfl,rfl,by decide+kernel,rfl,by decide+kernel,by decide+kernel⟩
set_option maxHeartbeats 4000000 in
theorem wO {P:Program} {w:World} {K:PySem.W.Frag} {mg:Str→Option Value} {base:Heap} (B:Bt2 mg) {c:RCl RK} {d:RCl PzK} (Ci:Cal P w K mg base 5 "strikes_by_line" ["puzzle","masks","thought"] (bm K c d)) (BK:Cal P w K mg base 7 "strikes_by_number" ["puzzle","masks","thought"] (be K c d)) (G_LINE_KINDS:GTup K mg "LINE_KINDS" cG) (G_NUMBER_KINDS:GTup K mg "NUMBER_KINDS" bX) {f:Addr} {fd:FuncData} (F:Fun K "strikes" "strikes" np f fd):FnOk P w K mg base CX0 8 f fd ["puzzle","masks","thought"] (dk K c d):=by
 refine F.ok sc_strikes (fun vs H Q E h=>t5 h) (fun cdv A outer s H vs Q E hr h=>?_)
 have hu:=hr.units
 have nd:=sc_strikes.nd
 refine ⟨iL K c d,?_,t6 h⟩
 exact (ad (aC (lE G_LINE_KINDS (aw (aA hu) (pv 2) af (fun _ _=>rfl)) rfl) (ae (ai (ak Ci hr (by decide) rfl (aa (pv 0) (aa (pv 1) (aa (pv 2) ac)))))) ar)
   (ad (aC (lE G_NUMBER_KINDS (aw (aA hu) (pv 2) af (fun _ _=>rfl)) rfl) (ae (ai (ak BK hr (by decide) rfl (aa (pv 0) (aa (pv 1) (aa (pv 2) ac)))))) ar)
   (ae (ai gY))))
abbrev nq:Stmt:=top 75
theorem sc_allowed:am ["puzzle","masks","thought"] ["puzzle","masks","thought"] (ah nq):=⟨rfl,rfl,rfl,by decide+kernel,rfl,by decide+kernel,by decide+kernel⟩
set_option maxHeartbeats 4000000 in
theorem wP {P:Program} {w:World} {K:PySem.W.Frag} {mg:Str→Option Value} {base:Heap} (B:Bt2 mg) {c:RCl RK} {d:RCl PzK} (Ej:Cal P w K mg base 4 "is_formed" ["puzzle","thought"] (dh K c d)) (Fi:Cal P w K mg base 8 "strikes" ["puzzle","masks","thought"] (dk K c d)) {f:Addr} {fd:FuncData} (F:Fun K "allowed" "allowed" nq f fd):FnOk P w K mg base CX0 9 f fd ["puzzle","masks","thought"] (bV K c d):=by
 refine F.ok sc_allowed (fun vs H Q E h=>t7 h) (fun cdv A outer s H vs Q E hr h=>?_)
 have hu:=hr.units
 have nd:=sc_allowed.nd
 refine ⟨iM K c d,?_,t8 h⟩
 exact (ae (ai (cK (ak Ej hr (by decide) rfl (aa (pv 0) (aa (pv 2) ac))) (c5 (ak Fi hr (by decide) rfl (aa (pv 0) (aa (pv 1) (aa (pv 2) ac))))))))
abbrev lu:Stmt:=top 114
theorem sc__law_held:am ["_law_puzzle","_law_lists","_law_thought","_law_many","_law_masks","_law_fewer","_law_other","_law_rests","_law_third"] ["_law_puzzle","_law_lists","_law_thought","_law_many"] (ah lu):=⟨rfl,rfl,rfl,by decide+kernel,rfl,by decide+kernel,by decide+kernel⟩
set_option maxHeartbeats 4000000 in
theorem ux {P:Program} {w:World} {K:PySem.W.Frag} {mg:Str→Option Value} {base:Heap} (B:Bt2 mg) {c:RCl RK} {d:RCl PzK} (Dp:Cal P w K mg base 9 "allowed" ["puzzle","masks","thought"] (bV K c d)) (Es:Cal P w K mg base 4 "rests_on" ["puzzle","thought"] (cI K c d)) {f:Addr} {fd:FuncData} (F:Fun K "_law_held" "_law_held" lu f fd):FnOk P w K mg base CX0 10 f fd ["_law_puzzle","_law_lists","_law_thought","_law_many"] (bM K c d):=by
 refine F.ok sc__law_held (fun vs H Q E h=>qH h) (fun cdv A outer s H vs Q E hr h=>?_)
 have hu:=hr.units
 have nd:=sc__law_held.nd
 refine ⟨ga K c d,?_,qI h⟩
 exact (ad (wV (pv 1) (sB rfl (gF (aB (i:=4) nd rfl (Or.inr rfl)) (gF (aB (i:=5) nd rfl (Or.inl rfl)) (gF (aB (i:=6) nd rfl (Or.inr rfl)) qk)))))
   (ad (aC (bR (aZ (ak Dp hr (by decide) rfl (aa (pv 0) (aa (pv 4) (aa (pv 2) ac)))))) (ae (ai bW)) ar)
   (ad (aC (bR (aZ (ak Dp hr (by decide) rfl (aa (pv 0) (aa (pv 5) (aa (pv 2) ac)))))) (ae (ai bW)) ar)
   (ad (av (i:=7) nd rfl (Or.inr rfl) (ak Es hr (by decide) rfl (aa (pv 0) (aa (pv 2) ac))))
   (ad (qm (k:=8) nd rfl (Or.inl rfl) rfl (ix:=[none,none,some 4,some 6,some 7]) [".0","_law_k","_law_masks","_law_other","_law_rests"] (aJ rfl (by decide+kernel) rfl rfl rfl) rfl (bF rfl B.range_ (aa (pv 3) ac)) (fun cl s H fp=>(aB (i:=1) (show ([".0","_law_k","_law_masks","_law_other","_law_rests"]:List Str).Nodup by decide+kernel) rfl (Or.inl rfl))) (fun cl s H fp=>aU) (fun cl s H fp=>(aw (aA hu) (aW (aa (aw (aA hu) (pv 3) (pv 1) (fun _ _=>rfl)) (aa (aw (aA hu) (pv 2) (pv 1) (fun _ _=>rfl)) ac))) (bp lS rfl B.int_ o6 (aa (aF (kc hu) (pv 1) (pv 4) (by with_unfolding_all rfl)) ac)) (fun _ _=>rfl))))
   (ae (ai (ak Dp hr (by decide) rfl (aa (pv 0) (aa (pv 8) (aa (pv 2) ac)))))))))))
abbrev nG:Stmt:=top 115
theorem sc_law:am ["_law_script","_law_cell","_law_high","_law_wide","_law_signs","_law_many","_law_clues","_law_k","_law_more","_law_puzzle","_law_bound","_law_masks","_law_few","_law_fewer","_law_other","_law_number","_law_word","_law_thought"] ["_law_script"] (ah nG):=⟨rfl,rfl,rfl,by decide+kernel,rfl,by decide+kernel,by decide+kernel⟩
set_option maxHeartbeats 4000000 in
theorem AS {P:Program} {w:World} {K:PySem.W.Frag} {mg:Str→Option Value} {base:Heap} (B:Bt2 mg) {c:RCl RK} {d:RCl PzK} (Bq:Cal P w K mg base 1 "_law_cell_at" ["_law_script","_law_k"] (bc K)) (B9:Cal P w K mg base 2 "_law_drawn" ["_law_script","_law_at","_law_many","_law_bound"] (bt K)) (Do:Cal P w K mg base 10 "_law_held" ["_law_puzzle","_law_lists","_law_thought","_law_many"] (bM K c d)) (Et:Cal P w K mg base 2 "_law_row" ["_law_script","_law_k","_law_many","_law_signs"] (cJ K)) (Gi:KCal P w K mg base 7 "Puzzle" (d.A .Puzzle) ["self","floor","lines","clues"] (bb K c d)) {f:Addr} {fd:FuncData} (F:Fun K "law" "law" nG f fd):FnOk P w K mg base CX0 11 f fd ["_law_script"] (uh K c d):=by
 refine F.ok sc_law (fun vs H Q E h=>AQ h) (fun cdv A outer s H vs Q E hr h=>?_)
 have hu:=hr.units
 have nd:=sc_law.nd
 refine ⟨p6 K c d,?_,AR h⟩
 refine ad ?s0 ?r0
 case s0=>exact (av (i:=1) nd rfl (Or.inl rfl) (ao bd (ao bh (ak Bq hr (by decide) rfl (aa (pv 0) (aa af ac))) af) af))
 case r0=>
  refine ad ?s1 ?r1
  case s1=>
   refine wV (te:=?te) (g:=gTup K 2 (gCons (gName 2) (gCons (gName 3) gNil))) ?h1 ?h2 ?h4 ?h5 ?h6
   case h2=>exact (sB rfl (gF (aB (i:=2) nd rfl (Or.inl rfl)) (gF (aB (i:=3) nd rfl (Or.inl rfl)) qk)))
   case h4=>rfl
   case h5=>rfl
   case h6=>rfl
   case h1=>
    refine aw ?x ?l ?j ?p
    case x=>exact (aA hu)
    case p=>exact (fun _ _=>rfl)
    case j=>exact (ao bd (pv 1) af)
    case l=>
     refine aW ?_
     refine ja ?_ ?_
     · exact dJ (b8 af (b8 af ac))
     refine ja ?_ ?_
     · exact dJ (b8 af (b8 af ac))
     refine ja ?_ ?_
     · exact dJ (b8 af (b8 af ac))
     refine ja ?_ ?_
     · exact dJ (b8 af (b8 af ac))
     refine ja ?_ ?_
     · exact dJ (b8 af (b8 af ac))
     refine ja ?_ ?_
     · exact dJ (b8 af (b8 af ac))
     exact ac
  case r1=>
   exact (ad (av (i:=4) nd rfl (Or.inr rfl) (ao aD af (ao bd (ao c7 (pv 1) af) af)))
   (ad (av (i:=5) nd rfl (Or.inr rfl) (ao bh (pv 2) (pv 3)))
   (ad (av (i:=6) nd rfl (Or.inl rfl) (aW ac))
   (ad (c6 PassesOwn.never rfl (bF rfl B.range_ (aa (pv 5) ac)) (aB (i:=7) nd rfl (Or.inl rfl))
   (ad (av (i:=8) nd rfl (Or.inl rfl) (ao bd (ao bh (ao aD (ak Bq hr (by decide) rfl (aa (pv 0) (aa (ao aD af (pv 7)) ac))) (ao bh af (pv 7))) af) af))
   (ae (fK (d2 PySem.F.plainAttrs_list PySem.F.slot_list_append PySem.F.type_list_append cM (pv 6) (aa (aw (aA hu) (aW (aa af (aa af (aa (ao aD af (ao bd (ao c7 (pv 8) af) (pv 4))) ac)))) (ao bd (pv 8) af) (fun _ _=>rfl)) ac))))))
   (ad (av (i:=9) nd rfl (Or.inl rfl) (jU Gi hr (by decide) rfl (aa (dJ (aa (pv 2) (aa (pv 3) (aa (pv 4) ac)))) (aa (aM (ix:=[none,none,some 5,some 0,some 4]) [".0","_law_k","_law_many","_law_script","_law_signs"] (aJ rfl (by decide+kernel) rfl rfl rfl) rfl (bF rfl B.range_ (aa af ac)) (fun cl s H fp=>(aB (i:=1) (show ([".0","_law_k","_law_many","_law_script","_law_signs"]:List Str).Nodup by decide+kernel) rfl (Or.inl rfl))) (fun cl s H fp=>aU) (fun cl s H fp=>(ak Et hr (by decide) rfl (aa (pv 3) (aa (pv 1) (aa (pv 2) (aa (pv 4) ac))))))) (aa (pv 6) ac)))))
   (ad (av (i:=10) nd rfl (Or.inl rfl) (aw (aA hu) (aW (aa af (aa af (aa af (aa af (aa af (aa af ac))))))) (pv 4) (fun _ _=>rfl)))
   (ad (av (i:=11) nd rfl (Or.inr rfl) (ak B9 hr (by decide) rfl (aa (pv 0) (aa af (aa (pv 5) (aa (pv 10) ac))))))
   (ad (av (i:=12) nd rfl (Or.inr rfl) (ak B9 hr (by decide) rfl (aa (pv 0) (aa af (aa (pv 5) (aa (pv 10) ac))))))
   (ad (qm (k:=13) nd rfl (Or.inl rfl) rfl (ix:=[none,none,some 12,some 11]) [".0","_law_k","_law_few","_law_masks"] (aJ rfl (by decide+kernel) rfl rfl rfl) rfl (bF rfl B.range_ (aa (pv 5) ac)) (fun cl s H fp=>(aB (i:=1) (show ([".0","_law_k","_law_few","_law_masks"]:List Str).Nodup by decide+kernel) rfl (Or.inl rfl))) (fun cl s H fp=>aU) (fun cl s H fp=>(ao vk (aw (aA hu) (pv 3) (pv 1) (fun _ _=>rfl)) (aw (aA hu) (pv 2) (pv 1) (fun _ _=>rfl)))))
   (ad (av (i:=14) nd rfl (Or.inr rfl) (ak B9 hr (by decide) rfl (aa (pv 0) (aa af (aa (pv 5) (aa (pv 10) ac))))))
   (ad (c6 PassesOwn.never rfl (bF rfl B.range_ (aa af ac)) (aB (i:=15) nd rfl (Or.inl rfl))
   (ae (c6 PassesOwn.never rfl (bF rfl B.range_ (aa (pv 5) ac)) (aB (i:=7) nd rfl (Or.inl rfl))
   (ad (av (i:=8) nd rfl (Or.inl rfl) (ao bd (ao bh (ao aD (ao aD (ak Bq hr (by decide) rfl (aa (pv 0) (aa (ao aD af (pv 7)) ac))) (ao bh (ao bh af (pv 7)) (pv 7))) (pv 15)) af) af))
   (ae (c6 PassesOwn.never rfl (aO (aW (aa (aw (aA hu) (aW (aa aI (aa aI (aa aI ac)))) (pv 15) (fun _ _=>rfl)) (aa aI ac)))) (aB (i:=16) nd rfl (Or.inl rfl))
   (ad (av (i:=17) nd rfl (Or.inl rfl) (dJ (aa (pv 16) (aa (pv 15) (aa (pv 7) (aa (ao aD af (ao bd (pv 8) (pv 4))) (aa (aW ac) ac)))))))
   (ad (aC (bR (aZ (ak Do hr (by decide) rfl (aa (pv 9) (aa (dJ (aa (pv 11) (aa (pv 13) (aa (pv 14) ac)))) (aa (pv 17) (aa (pv 5) ac))))))) (ae (ai bW)) ar)
   (ae (aC (bR (aZ (ak Do hr (by decide) rfl (aa (pv 9) (aa (dJ (aa (pv 14) (aa (aM (ix:=[none,none,some 12,some 14]) [".0","_law_j","_law_few","_law_other"] (aJ rfl (by decide+kernel) rfl rfl rfl) rfl (bF rfl B.range_ (aa (pv 5) ac)) (fun cl s H fp=>(aB (i:=1) (show ([".0","_law_j","_law_few","_law_other"]:List Str).Nodup by decide+kernel) rfl (Or.inl rfl))) (fun cl s H fp=>aU) (fun cl s H fp=>(ao vk (aw (aA hu) (pv 3) (pv 1) (fun _ _=>rfl)) (aw (aA hu) (pv 2) (pv 1) (fun _ _=>rfl))))) (aa (pv 11) ac)))) (aa (pv 17) (aa (pv 5) ac))))))) (ae (ai bW)) ar))))))))))
   (ae (ai bW)))))))))))))
def mkC (Bh Bs Bj Bn Bk Bi Bg Bm:Addr):RCl RK:=⟨fun k=>match k with | .Rule=>Bh | .Unlike=>Bh | .Sum=>Bs | .Rising=>Bj | .Seen=>Bn | .Count=>Bk | .Joined=>Bi | .NoSquare=>Bg | .Ring=>Bm,fun k=>match k with | .Rule=>false | _=>true⟩
def mk1 (c:RCl RK) (k:RK):RCl RK:=⟨c.A,match k with | .Joined=>(fun i=>match i with | .Joined=>true | _=>false) | .Ring=>(fun i=>match i with | .Ring=>true | _=>false) | _=>fun _=>false⟩
def mkD (Bo:Addr):RCl PzK:=⟨fun _=>Bo,fun _=>true⟩
set_option maxHeartbeats 40000000 in
theorem AT {l:PySem.W.OpenLaw} {w:World} {K:PySem.W.Frag} {h:Heap} {mg:Str→Option Value} {fa:Addr} (X:K.In h) (G:h.Ns mainGlobals mg) (hfa:mg "law"=some (.ref fa))
  {f0 f1 f2 f3 f4 f5 f6 f7 f8 f9 f10 f11 f12 f13 f14 f15 f16 f17 f18 f19 f20 f21 f22 f23 f24 f25 f26 f27 f28 f29 f30 f31 f32 f33 f34 f35 f36 f37 f38 f39 f40 f41 f42 f43 f44 f45 f46 f47 f48 f49 f50 f51 f52 f53 f54 f55 f56 f57 f58 f59 f60 f61 f62 f63 f64 f65 f66 f67 f68 f69 f70 f71 f72 f73 f74 f75 f76 f77 f78 f79 f80 f81:Addr} {fd0 fd1 fd2 fd3 fd4 fd5 fd6 fd7 fd8 fd9 fd10 fd11 fd12 fd13 fd14 fd15 fd16 fd17 fd18 fd19 fd20 fd21 fd22 fd23 fd24 fd25 fd26 fd27 fd28 fd29 fd30 fd31 fd32 fd33 fd34 fd35 fd36 fd37 fd38 fd39 fd40 fd41 fd42 fd43 fd44 fd45 fd46 fd47 fd48 fd49 fd50 fd51 fd52 fd53 fd54 fd55 fd56 fd57 fd58 fd59 fd60 fd61 fd62 fd63 fd64 fd65 fd66 fd67 fd68 fd69 fd70 fd71 fd72 fd73 fd74 fd75 fd76 fd77 fd78 fd79 fd80 fd81:FuncData} {Bh Bs Bj Bn Bk Bi Bg Bm Bo:Addr} {Gj:Addr} {Hy:Option Addr} {Hz:Nat} {HA:Array (Option Value)} {HB HC HD HE HF HG t6_KINDS t7_KINDS t8_KINDS t9_KINDS t10_KINDS:Tok} {Ds:Addr} {Ha:Option Addr} {Hb:Nat} {Hc:Array (Option Value)} {Hd He Hf Hg Hh:Tok} {CV:Addr} {GH:Option Addr} {GI:Nat} {GJ:Array (Option Value)} {GK GL GM:Tok} {CW:Addr} {GN:Option Addr} {GO:Nat} {GP:Array (Option Value)} {GQ GR GS:Tok} {Df:Addr} {GW:Option Addr} {GX:Nat} {GY:Array (Option Value)} {GZ G0 G1:Tok} {D0:Addr} {Hn:Option Addr} {Ho:Nat} {Hq:Array (Option Value)} {Hr Hs Ht Hu:Tok} {Cy:Addr} {Gk:Nat} {Dz:Int} {FL:Tok} {DA:Addr} {Fj:Option Addr} {FM:Nat} {Fk:Array (Option Value)} {EZ:Tok} {DB:Int} {FN:Tok} {DC:Addr} {Fl:Option Addr} {FO:Nat} {Fm:Array (Option Value)} {E2:Tok} {DD:Int} {FP:Tok} {DE:Addr} {Fn:Option Addr} {FQ:Nat} {Fo:Array (Option Value)} {E3:Tok} {DF:Int} {FR:Tok} {DG:Addr} {Fp:Option Addr} {FS:Nat} {Fq:Array (Option Value)} {E4:Tok} {DH:Int} {FT:Tok} {DI:Addr} {Fr:Option Addr} {FU:Nat} {Fs:Array (Option Value)} {E5:Tok} {DJ:Int} {FV:Tok} {DK:Addr} {Ft:Option Addr} {FW:Nat} {Fu:Array (Option Value)} {E6:Tok} {DL:Int} {FX:Tok} {DM:Addr} {Fv:Option Addr} {FY:Nat} {Fw:Array (Option Value)} {E7 E8:Tok} {DN:Int} {FZ:Tok} {DO:Addr} {Fx:Option Addr} {Ga:Nat} {Fy:Array (Option Value)} {E9:Tok} {DP:Int} {Gb:Tok} {DQ:Addr} {Fz:Option Addr} {Gc:Nat} {FA:Array (Option Value)} {Fa:Tok} {tk_FIGURES:Tok} {tk_MOST_CELLS:Tok} {tk_MOST_FIGURES:Tok} {tk_MOST_NUMBER:Tok} {tk_MOST_RULES:Tok} {tk_MOST_SIDE:Tok} {tk_MOST_SIGNS:Tok} {tk_MOST_WAYS:Tok}
  (Gm:PySem.W.nsIn K mainGlobals "Unlike"=some (some (.ref Bh))) (q_Sum:PySem.W.nsIn K mainGlobals "Sum"=some (some (.ref Bs))) (Gn:PySem.W.nsIn K mainGlobals "Rising"=some (some (.ref Bj))) (Hv:PySem.W.nsIn K mainGlobals "Seen"=some (some (.ref Bn))) (G2:PySem.W.nsIn K mainGlobals "Count"=some (some (.ref Bk))) (Go:PySem.W.nsIn K mainGlobals "Joined"=some (some (.ref Bi))) (Eu:PySem.W.nsIn K mainGlobals "NoSquare"=some (some (.ref Bg))) (Hw:PySem.W.nsIn K mainGlobals "Ring"=some (some (.ref Bm))) (Gp:PySem.W.nsIn K mainGlobals "Puzzle"=some (some (.ref Bo))) (a0:PySem.W.nsIn K mainGlobals "is_whole"=some (some (.ref f0))) (a1:PySem.W.nsIn K mainGlobals "many_cells"=some (some (.ref f1))) (a2:PySem.W.nsIn K mainGlobals "spot_of"=some (some (.ref f2))) (a3:PySem.W.nsIn K mainGlobals "square_at"=some (some (.ref f3))) (a4:PySem.W.nsIn K mainGlobals "bit_of"=some (some (.ref f4))) (a5:PySem.W.nsIn K mainGlobals "stands"=some (some (.ref f5))) (a6:PySem.W.nsIn K mainGlobals "clashes"=some (some (.ref f6))) (a7:PySem.W.nsIn K mainGlobals "masks_at"=some (some (.ref f7))) (a8:PySem.W.nsIn K mainGlobals "with_sign"=some (some (.ref f8))) (a9:PySem.W.nsIn K mainGlobals "is_within"=some (some (.ref f9))) (Ev:PySem.W.findIn K (.ref Bh) "__init__"=some (some (.ref f10))) (G3:PySem.W.findIn K (.ref Bs) "__init__"=some (some (.ref f10))) (Ew:PySem.W.findIn K (.ref Bj) "__init__"=some (some (.ref f10))) (Gq:PySem.W.findIn K (.ref Bn) "__init__"=some (some (.ref f10))) (FB:PySem.W.findIn K (.ref Bk) "__init__"=some (some (.ref f10))) (Ex:PySem.W.findIn K (.ref Bi) "__init__"=some (some (.ref f10))) (D1:PySem.W.findIn K (.ref Bg) "__init__"=some (some (.ref f10))) (Gr:PySem.W.findIn K (.ref Bm) "__init__"=some (some (.ref f10))) (a11_Unlike:PySem.W.findIn K (.ref Bh) "name"=some (some (.ref f11))) (a11_Sum:PySem.W.findIn K (.ref Bs) "name"=some (some (.ref f11))) (a11_Rising:PySem.W.findIn K (.ref Bj) "name"=some (some (.ref f11))) (a11_Seen:PySem.W.findIn K (.ref Bn) "name"=some (some (.ref f11))) (a11_Count:PySem.W.findIn K (.ref Bk) "name"=some (some (.ref f11))) (a11_Joined:PySem.W.findIn K (.ref Bi) "name"=some (some (.ref f11))) (a11_NoSquare:PySem.W.findIn K (.ref Bg) "name"=some (some (.ref f11))) (a11_Ring:PySem.W.findIn K (.ref Bm) "name"=some (some (.ref f11))) (a12_Unlike:PySem.W.findIn K (.ref Bh) "spots"=some (some (.ref f12))) (a12_Sum:PySem.W.findIn K (.ref Bs) "spots"=some (some (.ref f12))) (a12_Rising:PySem.W.findIn K (.ref Bj) "spots"=some (some (.ref f12))) (a12_Seen:PySem.W.findIn K (.ref Bn) "spots"=some (some (.ref f12))) (a12_Count:PySem.W.findIn K (.ref Bk) "spots"=some (some (.ref f12))) (a12_Joined:PySem.W.findIn K (.ref Bi) "spots"=some (some (.ref f12))) (a12_NoSquare:PySem.W.findIn K (.ref Bg) "spots"=some (some (.ref f12))) (a12_Ring:PySem.W.findIn K (.ref Bm) "spots"=some (some (.ref f12))) (a13_Unlike:PySem.W.findIn K (.ref Bh) "number"=some (some (.ref f13))) (a13_Sum:PySem.W.findIn K (.ref Bs) "number"=some (some (.ref f13))) (a13_Rising:PySem.W.findIn K (.ref Bj) "number"=some (some (.ref f13))) (a13_Seen:PySem.W.findIn K (.ref Bn) "number"=some (some (.ref f13))) (a13_Count:PySem.W.findIn K (.ref Bk) "number"=some (some (.ref f13))) (a13_Joined:PySem.W.findIn K (.ref Bi) "number"=some (some (.ref f13))) (a13_NoSquare:PySem.W.findIn K (.ref Bg) "number"=some (some (.ref f13))) (a13_Ring:PySem.W.findIn K (.ref Bm) "number"=some (some (.ref f13))) (a14_Unlike:PySem.W.findIn K (.ref Bh) "sign"=some (some (.ref f14))) (a14_Sum:PySem.W.findIn K (.ref Bs) "sign"=some (some (.ref f14))) (a14_Rising:PySem.W.findIn K (.ref Bj) "sign"=some (some (.ref f14))) (a14_Seen:PySem.W.findIn K (.ref Bn) "sign"=some (some (.ref f14))) (a14_Count:PySem.W.findIn K (.ref Bk) "sign"=some (some (.ref f14))) (a14_Joined:PySem.W.findIn K (.ref Bi) "sign"=some (some (.ref f14))) (a14_NoSquare:PySem.W.findIn K (.ref Bg) "sign"=some (some (.ref f14))) (a14_Ring:PySem.W.findIn K (.ref Bm) "sign"=some (some (.ref f14))) (a15_Unlike:PySem.W.findIn K (.ref Bh) "signs_at"=some (some (.ref f15))) (a15_Sum:PySem.W.findIn K (.ref Bs) "signs_at"=some (some (.ref f15))) (a15_Rising:PySem.W.findIn K (.ref Bj) "signs_at"=some (some (.ref f15))) (a15_Seen:PySem.W.findIn K (.ref Bn) "signs_at"=some (some (.ref f15))) (a15_Count:PySem.W.findIn K (.ref Bk) "signs_at"=some (some (.ref f15))) (a15_Joined:PySem.W.findIn K (.ref Bi) "signs_at"=some (some (.ref f15))) (a15_NoSquare:PySem.W.findIn K (.ref Bg) "signs_at"=some (some (.ref f15))) (a15_Ring:PySem.W.findIn K (.ref Bm) "signs_at"=some (some (.ref f15))) (a16_Unlike:PySem.W.findIn K (.ref Bh) "marked"=some (some (.ref f16))) (a16_Sum:PySem.W.findIn K (.ref Bs) "marked"=some (some (.ref f16))) (a16_Rising:PySem.W.findIn K (.ref Bj) "marked"=some (some (.ref f16))) (a16_Seen:PySem.W.findIn K (.ref Bn) "marked"=some (some (.ref f16))) (a16_Count:PySem.W.findIn K (.ref Bk) "marked"=some (some (.ref f16))) (a16_Joined:PySem.W.findIn K (.ref Bi) "marked"=some (some (.ref f16))) (a16_NoSquare:PySem.W.findIn K (.ref Bg) "marked"=some (some (.ref f16))) (a16_Ring:PySem.W.findIn K (.ref Bm) "marked"=some (some (.ref f16))) (a17:PySem.W.nsIn K mainGlobals "number_in"=some (some (.ref f17))) (a18_Puzzle:PySem.W.findIn K (.ref Bo) "place"=some (some (.ref f18))) (a19_Puzzle:PySem.W.findIn K (.ref Bo) "clues"=some (some (.ref f19))) (a20_Puzzle:PySem.W.findIn K (.ref Bo) "rules"=some (some (.ref f20))) (a21:PySem.W.nsIn K mainGlobals "_law_cell_at"=some (some (.ref f21))) (a22:PySem.W.nsIn K mainGlobals "_law_order"=some (some (.ref f22))) (a23:PySem.W.nsIn K mainGlobals "is_from_one_to"=some (some (.ref f23))) (a24:PySem.W.nsIn K mainGlobals "beside"=some (some (.ref f24))) (a25:PySem.W.nsIn K mainGlobals "is_corner"=some (some (.ref f25))) (a26:PySem.W.nsIn K mainGlobals "without"=some (some (.ref f26))) (a27:PySem.W.nsIn K mainGlobals "signs_in"=some (some (.ref f27))) (a28:PySem.W.nsIn K mainGlobals "is_cell"=some (some (.ref f28))) (a29:PySem.W.nsIn K mainGlobals "goes_by"=some (some (.ref f29))) (a30:PySem.W.nsIn K mainGlobals "others"=some (some (.ref f30))) (a31:PySem.W.nsIn K mainGlobals "many_may"=some (some (.ref f31))) (a32:PySem.W.nsIn K mainGlobals "ahead_of"=some (some (.ref f32))) (a33:PySem.W.nsIn K mainGlobals "behind"=some (some (.ref f33))) (a34:PySem.W.nsIn K mainGlobals "with_each_sign"=some (some (.ref f34))) (a35_Unlike:PySem.W.findIn K (.ref Bh) "holds"=some (some (.ref f35))) (a36_Sum:PySem.W.findIn K (.ref Bs) "holds"=some (some (.ref f36))) (a37_Rising:PySem.W.findIn K (.ref Bj) "holds"=some (some (.ref f37))) (a38_Seen:PySem.W.findIn K (.ref Bn) "holds"=some (some (.ref f38))) (a39_Count:PySem.W.findIn K (.ref Bk) "holds"=some (some (.ref f39))) (a40:PySem.W.nsIn K mainGlobals "number_within"=some (some (.ref f40))) (a41:PySem.W.nsIn K mainGlobals "is_filling"=some (some (.ref f41))) (a42:PySem.W.nsIn K mainGlobals "_law_row"=some (some (.ref f42))) (a43:PySem.W.nsIn K mainGlobals "_law_drawn"=some (some (.ref f43))) (a44:PySem.W.nsIn K mainGlobals "floor_of"=some (some (.ref f44))) (a45:PySem.W.nsIn K mainGlobals "squares"=some (some (.ref f45))) (a46:PySem.W.nsIn K mainGlobals "reached"=some (some (.ref f46))) (a47:PySem.W.nsIn K mainGlobals "has_only"=some (some (.ref f47))) (a48:PySem.W.nsIn K mainGlobals "ways"=some (some (.ref f48))) (a49:PySem.W.nsIn K mainGlobals "is_sign"=some (some (.ref f49))) (a50:PySem.W.nsIn K mainGlobals "has_its_rule"=some (some (.ref f50))) (a51:PySem.W.nsIn K mainGlobals "is_no_greater"=some (some (.ref f51))) (a52:PySem.W.nsIn K mainGlobals "is_no_less"=some (some (.ref f52))) (a53:PySem.W.nsIn K mainGlobals "rests_by_line"=some (some (.ref f53))) (a54:PySem.W.nsIn K mainGlobals "sum_strikes"=some (some (.ref f54))) (a55:PySem.W.nsIn K mainGlobals "rests_by_number"=some (some (.ref f55))) (a56_Ring:PySem.W.findIn K (.ref Bm) "has_two_beside"=some (some (.ref f56))) (a57:PySem.W.nsIn K mainGlobals "first_within"=some (some (.ref f57))) (a58:PySem.W.nsIn K mainGlobals "told_cells"=some (some (.ref f58))) (a59:PySem.W.nsIn K mainGlobals "rule_by"=some (some (.ref f59))) (a60:PySem.W.nsIn K mainGlobals "checked_clues"=some (some (.ref f60))) (a61:PySem.W.nsIn K mainGlobals "is_formed"=some (some (.ref f61))) (a62:PySem.W.nsIn K mainGlobals "many_only"=some (some (.ref f62))) (a63:PySem.W.nsIn K mainGlobals "step_strikes"=some (some (.ref f63))) (a64:PySem.W.nsIn K mainGlobals "rests_on"=some (some (.ref f64))) (a65_Joined:PySem.W.findIn K (.ref Bi) "is_joined"=some (some (.ref f65))) (a65_Ring:PySem.W.findIn K (.ref Bm) "is_joined"=some (some (.ref f65))) (a66_NoSquare:PySem.W.findIn K (.ref Bg) "holds"=some (some (.ref f66))) (a67:PySem.W.nsIn K mainGlobals "cells_of"=some (some (.ref f67))) (a68:PySem.W.nsIn K mainGlobals "checked_floor"=some (some (.ref f68))) (a69:PySem.W.nsIn K mainGlobals "strikes_by_line"=some (some (.ref f69))) (a70:PySem.W.nsIn K mainGlobals "count_strikes"=some (some (.ref f70))) (a71_Joined:PySem.W.findIn K (.ref Bi) "holds"=some (some (.ref f71))) (a72_Ring:PySem.W.findIn K (.ref Bm) "holds"=some (some (.ref f72))) (a73:PySem.W.nsIn K mainGlobals "read_rule"=some (some (.ref f73))) (a74:PySem.W.nsIn K mainGlobals "ways_strikes"=some (some (.ref f74))) (a75:PySem.W.nsIn K mainGlobals "read_rules"=some (some (.ref f75))) (a76:PySem.W.nsIn K mainGlobals "strikes_by_number"=some (some (.ref f76))) (Ey:PySem.W.findIn K (.ref Bo) "__init__"=some (some (.ref f77))) (a78:PySem.W.nsIn K mainGlobals "strikes"=some (some (.ref f78))) (a79:PySem.W.nsIn K mainGlobals "allowed"=some (some (.ref f79))) (a80:PySem.W.nsIn K mainGlobals "_law_held"=some (some (.ref f80))) (a81:PySem.W.nsIn K mainGlobals "law"=some (some (.ref f81))) (F0:Fun K "is_whole" "is_whole" l6 f0 fd0) (F1:Fun K "many_cells" "many_cells" kt f1 fd1) (F2:Fun K "spot_of" "spot_of" m5 f2 fd2) (F3:Fun K "square_at" "square_at" k7 f3 fd3) (F4:Fun K "bit_of" "bit_of" oK f4 fd4) (F5:Fun K "stands" "stands" oM f5 fd5) (F6:Fun K "clashes" "clashes" m6 f6 fd6) (F7:Fun K "masks_at" "masks_at" l7 f7 fd7) (F8:Fun K "with_sign" "with_sign" k8 f8 fd8) (F9:Fun K "is_within" "is_within" k9 f9 fd9) (F10:Fun K "__init__" "Rule.__init__" iO f10 fd10) (fn10:PySem.W.isFn K (.ref f10)=true) (F11:Fun K "name" "Rule.name" lc f11 fd11) (fn11:PySem.W.isFn K (.ref f11)=true) (F12:Fun K "spots" "Rule.spots" ku f12 fd12) (fn12:PySem.W.isFn K (.ref f12)=true) (F13:Fun K "number" "Rule.number" jN f13 fd13) (fn13:PySem.W.isFn K (.ref f13)=true) (F14:Fun K "sign" "Rule.sign" ld f14 fd14) (fn14:PySem.W.isFn K (.ref f14)=true) (F15:Fun K "signs_at" "Rule.signs_at" iP f15 fd15) (fn15:PySem.W.isFn K (.ref f15)=true) (F16:Fun K "marked" "Rule.marked" jO f16 fd16) (fn16:PySem.W.isFn K (.ref f16)=true) (F17:Fun K "number_in" "number_in" lf f17 fd17) (F18:Fun K "place" "Puzzle.place" jc f18 fd18) (fn18:PySem.W.isFn K (.ref f18)=true) (F19:Fun K "clues" "Puzzle.clues" jd f19 fd19) (fn19:PySem.W.isFn K (.ref f19)=true) (F20:Fun K "rules" "Puzzle.rules" je f20 fd20) (fn20:PySem.W.isFn K (.ref f20)=true) (F21:Fun K "_law_cell_at" "_law_cell_at" jf f21 fd21) (F22:Fun K "_law_order" "_law_order" kx f22 fd22) (F23:Fun K "is_from_one_to" "is_from_one_to" gK f23 fd23) (F24:Fun K "beside" "beside" oP f24 fd24) (F25:Fun K "is_corner" "is_corner" lg f25 fd25) (F26:Fun K "without" "without" m7 f26 fd26) (F27:Fun K "signs_in" "signs_in" l8 f27 fd27) (F28:Fun K "is_cell" "is_cell" m8 f28 fd28) (F29:Fun K "goes_by" "goes_by" nc f29 fd29) (F30:Fun K "others" "others" oQ f30 fd30) (F31:Fun K "many_may" "many_may" l9 f31 fd31) (F32:Fun K "ahead_of" "ahead_of" md f32 fd32) (F33:Fun K "behind" "behind" oR f33 fd33) (F34:Fun K "with_each_sign" "with_each_sign" gL f34 fd34) (F35:Fun K "holds" "Unlike.holds" jg f35 fd35) (fn35:PySem.W.isFn K (.ref f35)=true) (F36:Fun K "holds" "Sum.holds" li f36 fd36) (fn36:PySem.W.isFn K (.ref f36)=true) (F37:Fun K "holds" "Rising.holds" jh f37 fd37) (fn37:PySem.W.isFn K (.ref f37)=true) (F38:Fun K "holds" "Seen.holds" ky f38 fd38) (fn38:PySem.W.isFn K (.ref f38)=true) (F39:Fun K "holds" "Count.holds" jP f39 fd39) (fn39:PySem.W.isFn K (.ref f39)=true) (F40:Fun K "number_within" "number_within" iQ f40 fd40) (F41:Fun K "is_filling" "is_filling" kz f41 fd41) (F42:Fun K "_law_row" "_law_row" me f42 fd42) (F43:Fun K "_law_drawn" "_law_drawn" kA f43 fd43) (F44:Fun K "floor_of" "floor_of" mf f44 fd44) (F45:Fun K "squares" "squares" ng f45 fd45) (F46:Fun K "reached" "reached" nh f46 fd46) (F47:Fun K "has_only" "has_only" mh f47 fd47) (F48:Fun K "ways" "ways" ut f48 fd48) (F49:Fun K "is_sign" "is_sign" ni f49 fd49) (F50:Fun K "has_its_rule" "has_its_rule" ji f50 fd50) (F51:Fun K "is_no_greater" "is_no_greater" iR f51 fd51) (F52:Fun K "is_no_less" "is_no_less" kB f52 fd52) (F53:Fun K "rests_by_line" "rests_by_line" iS f53 fd53) (F54:Fun K "sum_strikes" "sum_strikes" jQ f54 fd54) (F55:Fun K "rests_by_number" "rests_by_number" gd f55 fd55) (F56:Fun K "has_two_beside" "Ring.has_two_beside" dm f56 fd56) (fn56:PySem.W.isFn K (.ref f56)=true) (F57:Fun K "first_within" "first_within" jj f57 fd57) (F58:Fun K "told_cells" "told_cells" kC f58 fd58) (F59:Fun K "rule_by" "rule_by" nk f59 fd59) (F60:Fun K "checked_clues" "checked_clues" iT f60 fd60) (F61:Fun K "is_formed" "is_formed" lp f61 fd61) (F62:Fun K "many_only" "many_only" lq f62 fd62) (F63:Fun K "step_strikes" "step_strikes" jk f63 fd63) (F64:Fun K "rests_on" "rests_on" mj f64 fd64) (F65:Fun K "is_joined" "Joined.is_joined" fJ f65 fd65) (fn65:PySem.W.isFn K (.ref f65)=true) (F66:Fun K "holds" "NoSquare.holds" gM f66 fd66) (fn66:PySem.W.isFn K (.ref f66)=true) (F67:Fun K "cells_of" "cells_of" mn f67 fd67) (F68:Fun K "checked_floor" "checked_floor" iU f68 fd68) (F69:Fun K "strikes_by_line" "strikes_by_line" ge f69 fd69) (F70:Fun K "count_strikes" "count_strikes" iV f70 fd70) (F71:Fun K "holds" "Joined.holds" jl f71 fd71) (fn71:PySem.W.isFn K (.ref f71)=true) (F72:Fun K "holds" "Ring.holds" kD f72 fd72) (fn72:PySem.W.isFn K (.ref f72)=true) (F73:Fun K "read_rule" "read_rule" lr f73 fd73) (F74:Fun K "ways_strikes" "ways_strikes" jm f74 fd74) (F75:Fun K "read_rules" "read_rules" kE f75 fd75) (F76:Fun K "strikes_by_number" "strikes_by_number" dZ f76 fd76) (F77:Fun K "__init__" "Puzzle.__init__" gf f77 fd77) (fn77:PySem.W.isFn K (.ref f77)=true) (F78:Fun K "strikes" "strikes" np f78 fd78) (F79:Fun K "allowed" "allowed" nq f79 fd79) (F80:Fun K "_law_held" "_law_held" lu f80 fd80) (F81:Fun K "law" "law" nG f81 fd81) (Ez:PySem.W.makesIn K Bh=true) (EA:PySem.W.keepIn K (.ref Bh)=true) (EB:PySem.W.plainGet K Bh Str.empty=true) (EC:PySem.W.hasDictIn K Bh=true) (ED:PySem.W.plainOver K Bh=true) (EE:PySem.W.findIn K (.ref Bh) "__setattr__"=some (some (.builtin "object.__setattr__"))) (G4:PySem.W.makesIn K Bs=true) (G5:PySem.W.keepIn K (.ref Bs)=true) (G6:PySem.W.plainGet K Bs Str.empty=true) (G7:PySem.W.hasDictIn K Bs=true) (G8:PySem.W.plainOver K Bs=true) (G9:PySem.W.findIn K (.ref Bs) "__setattr__"=some (some (.builtin "object.__setattr__"))) (EF:PySem.W.makesIn K Bj=true) (EG:PySem.W.keepIn K (.ref Bj)=true) (EH:PySem.W.plainGet K Bj Str.empty=true) (EI:PySem.W.hasDictIn K Bj=true) (EJ:PySem.W.plainOver K Bj=true) (EK:PySem.W.findIn K (.ref Bj) "__setattr__"=some (some (.builtin "object.__setattr__"))) (Gs:PySem.W.makesIn K Bn=true) (Gu:PySem.W.keepIn K (.ref Bn)=true) (Gv:PySem.W.plainGet K Bn Str.empty=true) (Gw:PySem.W.hasDictIn K Bn=true) (Gx:PySem.W.plainOver K Bn=true) (Gy:PySem.W.findIn K (.ref Bn) "__setattr__"=some (some (.builtin "object.__setattr__"))) (FC:PySem.W.makesIn K Bk=true) (FD:PySem.W.keepIn K (.ref Bk)=true) (FE:PySem.W.plainGet K Bk Str.empty=true) (FF:PySem.W.hasDictIn K Bk=true) (FG:PySem.W.plainOver K Bk=true) (FH:PySem.W.findIn K (.ref Bk) "__setattr__"=some (some (.builtin "object.__setattr__"))) (EL:PySem.W.makesIn K Bi=true) (EM:PySem.W.keepIn K (.ref Bi)=true) (EN:PySem.W.plainGet K Bi Str.empty=true) (EO:PySem.W.hasDictIn K Bi=true) (EQ:PySem.W.plainOver K Bi=true) (ER:PySem.W.findIn K (.ref Bi) "__setattr__"=some (some (.builtin "object.__setattr__"))) (D2:PySem.W.makesIn K Bg=true) (D3:PySem.W.keepIn K (.ref Bg)=true) (D4:PySem.W.plainGet K Bg Str.empty=true) (D5:PySem.W.hasDictIn K Bg=true) (D6:PySem.W.plainOver K Bg=true) (D7:PySem.W.findIn K (.ref Bg) "__setattr__"=some (some (.builtin "object.__setattr__"))) (Gz:PySem.W.makesIn K Bm=true) (GA:PySem.W.keepIn K (.ref Bm)=true) (GB:PySem.W.plainGet K Bm Str.empty=true) (GC:PySem.W.hasDictIn K Bm=true) (GD:PySem.W.plainOver K Bm=true) (GE:PySem.W.findIn K (.ref Bm) "__setattr__"=some (some (.builtin "object.__setattr__"))) (ES:PySem.W.makesIn K Bo=true) (ET:PySem.W.keepIn K (.ref Bo)=true) (EU:PySem.W.plainGet K Bo Str.empty=true) (EV:PySem.W.hasDictIn K Bo=true) (EW:PySem.W.plainOver K Bo=true) (EX:PySem.W.findIn K (.ref Bo) "__setattr__"=some (some (.builtin "object.__setattr__"))) (Ca:PySem.W.findIn K (.ref Bh) "amount"=some none) (CY:PySem.W.findIn K (.ref Bs) "amount"=some none) (Cb:PySem.W.findIn K (.ref Bj) "amount"=some none) (Cz:PySem.W.findIn K (.ref Bn) "amount"=some none) (Cj:PySem.W.findIn K (.ref Bk) "amount"=some none) (Cc:PySem.W.findIn K (.ref Bi) "amount"=some none) (BF:PySem.W.findIn K (.ref Bg) "amount"=some none) (CA:PySem.W.findIn K (.ref Bm) "amount"=some none) (Ck:PySem.W.findIn K (.ref Bh) "cells"=some none) (Dg:PySem.W.findIn K (.ref Bs) "cells"=some none) (Cm:PySem.W.findIn K (.ref Bj) "cells"=some none) (CZ:PySem.W.findIn K (.ref Bn) "cells"=some none) (CB:PySem.W.findIn K (.ref Bk) "cells"=some none) (BC:PySem.W.findIn K (.ref Bi) "cells"=some none) (BL:PySem.W.findIn K (.ref Bg) "cells"=some none) (B6:PySem.W.findIn K (.ref Bm) "cells"=some none) (Cn:PySem.W.findIn K (.ref Bh) "floor"=some none) (Dh:PySem.W.findIn K (.ref Bs) "floor"=some none) (Co:PySem.W.findIn K (.ref Bj) "floor"=some none) (C0:PySem.W.findIn K (.ref Bn) "floor"=some none) (CC:PySem.W.findIn K (.ref Bk) "floor"=some none) (BD:PySem.W.findIn K (.ref Bi) "floor"=some none) (BM:PySem.W.findIn K (.ref Bg) "floor"=some none) (B7:PySem.W.findIn K (.ref Bm) "floor"=some none) (CD:PySem.W.findIn K (.ref Bh) "mark"=some none) (Dt:PySem.W.findIn K (.ref Bs) "mark"=some none) (CF:PySem.W.findIn K (.ref Bj) "mark"=some none) (Di:PySem.W.findIn K (.ref Bn) "mark"=some none) (C2:PySem.W.findIn K (.ref Bk) "mark"=some none) (BG:PySem.W.findIn K (.ref Bi) "mark"=some none) (Cd:PySem.W.findIn K (.ref Bg) "mark"=some none) (Cg:PySem.W.findIn K (.ref Bm) "mark"=some none) (Cp:PySem.W.findIn K (.ref Bh) "words"=some none) (Dj:PySem.W.findIn K (.ref Bs) "words"=some none) (Cq:PySem.W.findIn K (.ref Bj) "words"=some none) (C4:PySem.W.findIn K (.ref Bn) "words"=some none) (CG:PySem.W.findIn K (.ref Bk) "words"=some none) (Cr:PySem.W.findIn K (.ref Bi) "words"=some none) (BN:PySem.W.findIn K (.ref Bg) "words"=some none) (C5:PySem.W.findIn K (.ref Bm) "words"=some none) (Cs:PySem.W.findIn K (.ref Bo) "floor"=some none) (Ct:PySem.W.findIn K (.ref Bo) "given"=some none) (CH:PySem.W.findIn K (.ref Bo) "laws"=some none) (FI:PySem.W.nsIn K mainGlobals "KINDS"=some (some (.ref Gj))) (FJ:K.lookup Gj=some ⟨.type "tuple",Hy,.seq #[.str (tx [99,108,117,101]) HB,.str (tx [111,110,108,121]) HC,.str (tx [112,108,97,99,101]) HD,.str (tx [99,111,117,110,116]) HE,.str (tx [115,116,101,112]) HF,.str (tx [115,117,109]) HG,.str (tx [115,113,117,97,114,101]) t6_KINDS,.str (tx [114,101,97,99,104]) t7_KINDS,.str (tx [116,117,114,110]) t8_KINDS,.str (tx [112,97,105,114]) t9_KINDS,.str (tx [119,97,121,115]) t10_KINDS] Hz,HA⟩) (Dk:PySem.W.nsIn K mainGlobals "LINE_KINDS"=some (some (.ref Ds))) (Dl:K.lookup Ds=some ⟨.type "tuple",Ha,.seq #[.str (tx [99,108,117,101]) Hd,.str (tx [111,110,108,121]) He,.str (tx [112,108,97,99,101]) Hf,.str (tx [115,116,101,112]) Hg,.str (tx [112,97,105,114]) Hh] Hb,Hc⟩) (CI:PySem.W.nsIn K mainGlobals "NUMBER_KINDS"=some (some (.ref CV))) (CJ:K.lookup CV=some ⟨.type "tuple",GH,.seq #[.str (tx [99,111,117,110,116]) GK,.str (tx [115,117,109]) GL,.str (tx [119,97,121,115]) GM] GI,GJ⟩) (CK:PySem.W.nsIn K mainGlobals "OF_ALL_CELLS"=some (some (.ref CW))) (CL:K.lookup CW=some ⟨.type "tuple",GN,.seq #[.str (tx [106,111,105,110,101,100]) GQ,.str (tx [110,111,115,113,117,97,114,101]) GR,.str (tx [114,105,110,103]) GS] GO,GP⟩) (C6:PySem.W.nsIn K mainGlobals "WITH_NUMBER"=some (some (.ref Df))) (C7:K.lookup Df=some ⟨.type "tuple",GW,.seq #[.str (tx [115,117,109]) GZ,.str (tx [115,101,101,110]) G0,.str (tx [99,111,117,110,116]) G1] GX,GY⟩) (Du:PySem.W.nsIn K mainGlobals "WITH_SIGN"=some (some (.ref D0))) (Dv:K.lookup D0=some ⟨.type "tuple",Hn,.seq #[.str (tx [99,111,117,110,116]) Hr,.str (tx [106,111,105,110,101,100]) Hs,.str (tx [110,111,115,113,117,97,114,101]) Ht,.str (tx [114,105,110,103]) Hu] Ho,Hq⟩) (Cu:PySem.W.nsIn K mainGlobals "RULES_OF_KIND"=some (some (.ref Cy))) (Cv:K.lookup Cy=some ⟨.type "dict",none,.dict #[⟨Dz,.str (tx [111,110,108,121]) FL,.ref DA⟩,⟨DB,.str (tx [112,108,97,99,101]) FN,.ref DC⟩,⟨DD,.str (tx [99,111,117,110,116]) FP,.ref DE⟩,⟨DF,.str (tx [115,116,101,112]) FR,.ref DG⟩,⟨DH,.str (tx [115,117,109]) FT,.ref DI⟩,⟨DJ,.str (tx [115,113,117,97,114,101]) FV,.ref DK⟩,⟨DL,.str (tx [114,101,97,99,104]) FX,.ref DM⟩,⟨DN,.str (tx [116,117,114,110]) FZ,.ref DO⟩,⟨DP,.str (tx [112,97,105,114]) Gb,.ref DQ⟩] Gk,#[]⟩) (BO:K.lookup DA=some ⟨.type "tuple",Fj,.seq #[.str (tx [117,110,108,105,107,101]) EZ] FM,Fk⟩) (BP:Dz=hashStr w (tx [111,110,108,121])) (BQ:K.lookup DC=some ⟨.type "tuple",Fl,.seq #[.str (tx [117,110,108,105,107,101]) E2] FO,Fm⟩) (BR:DB=hashStr w (tx [112,108,97,99,101])) (BS:K.lookup DE=some ⟨.type "tuple",Fn,.seq #[.str (tx [99,111,117,110,116]) E3] FQ,Fo⟩) (BT:DD=hashStr w (tx [99,111,117,110,116])) (BU:K.lookup DG=some ⟨.type "tuple",Fp,.seq #[.str (tx [114,105,115,105,110,103]) E4] FS,Fq⟩) (BV:DF=hashStr w (tx [115,116,101,112])) (BW:K.lookup DI=some ⟨.type "tuple",Fr,.seq #[.str (tx [115,117,109]) E5] FU,Fs⟩) (BX:DH=hashStr w (tx [115,117,109])) (BY:K.lookup DK=some ⟨.type "tuple",Ft,.seq #[.str (tx [110,111,115,113,117,97,114,101]) E6] FW,Fu⟩) (BZ:DJ=hashStr w (tx [115,113,117,97,114,101])) (B0:K.lookup DM=some ⟨.type "tuple",Fv,.seq #[.str (tx [106,111,105,110,101,100]) E7,.str (tx [114,105,110,103]) E8] FY,Fw⟩) (B1:DL=hashStr w (tx [114,101,97,99,104])) (B2:K.lookup DO=some ⟨.type "tuple",Fx,.seq #[.str (tx [114,105,110,103]) E9] Ga,Fy⟩) (B3:DN=hashStr w (tx [116,117,114,110])) (B4:K.lookup DQ=some ⟨.type "tuple",Fz,.seq #[.str (tx [117,110,108,105,107,101]) Fa] Gc,FA⟩) (B5:DP=hashStr w (tx [112,97,105,114])) (EY:PySem.W.nsIn K mainGlobals "FIGURES"=some (some (.str (tx [48,49,50,51,52,53,54,55,56,57]) tk_FIGURES))) (Dw:PySem.W.nsIn K mainGlobals "MOST_CELLS"=some (some (.int 16 tk_MOST_CELLS))) (C8:PySem.W.nsIn K mainGlobals "MOST_FIGURES"=some (some (.int 9 tk_MOST_FIGURES))) (Dm:PySem.W.nsIn K mainGlobals "MOST_NUMBER"=some (some (.int 99 tk_MOST_NUMBER))) (Dx:PySem.W.nsIn K mainGlobals "MOST_RULES"=some (some (.int 12 tk_MOST_RULES))) (D8:PySem.W.nsIn K mainGlobals "MOST_SIDE"=some (some (.int 6 tk_MOST_SIDE))) (Dy:PySem.W.nsIn K mainGlobals "MOST_SIGNS"=some (some (.int 6 tk_MOST_SIGNS))) (D9:PySem.W.nsIn K mainGlobals "MOST_WAYS"=some (some (.int 32 tk_MOST_WAYS))) (z_len:PySem.W.nsIn K mainGlobals "len"=some none) (z_abs:PySem.W.nsIn K mainGlobals "abs"=some none) (z_min:PySem.W.nsIn K mainGlobals "min"=some none) (z_max:PySem.W.nsIn K mainGlobals "max"=some none) (z_sorted:PySem.W.nsIn K mainGlobals "sorted"=some none) (z_any:PySem.W.nsIn K mainGlobals "any"=some none) (z_isinstance:PySem.W.nsIn K mainGlobals "isinstance"=some none) (z_list:PySem.W.nsIn K mainGlobals "list"=some none) (z_int:PySem.W.nsIn K mainGlobals "int"=some none) (z_bool:PySem.W.nsIn K mainGlobals "bool"=some none) (z_str:PySem.W.nsIn K mainGlobals "str"=some none) (z_tuple:PySem.W.nsIn K mainGlobals "tuple"=some none) (z_reversed:PySem.W.nsIn K mainGlobals "reversed"=some none) (z_set:PySem.W.nsIn K mainGlobals "set"=some none) (z_range:PySem.W.nsIn K mainGlobals "range"=some none) (z_zip:PySem.W.nsIn K mainGlobals "zip"=some none) (z_all:PySem.W.nsIn K mainGlobals "all"=some none) (z_sum:PySem.W.nsIn K mainGlobals "sum"=some none) (z_enumerate:PySem.W.nsIn K mainGlobals "enumerate"=some none):
  ∃ fd:FuncData,(∀ (s:Shared) (v:Value),BindsTo s fd ⟨[v],[]⟩ [("_law_script",v)])∧∀ base:Heap,K.In base→base.Ns mainGlobals mg→FnOk l.prog w K mg base CX0 11 fa fd ["_law_script"] (qJ K):=by
 have e:=hfa.symm.trans (PySem.W.mg_of X G a81)
 cases e
 have B:Bt2 mg:=⟨⟨PySem.W.mg_none_of X G z_len,PySem.W.mg_none_of X G z_abs,PySem.W.mg_none_of X G z_min,PySem.W.mg_none_of X G z_max,PySem.W.mg_none_of X G z_sorted,PySem.W.mg_none_of X G z_any,PySem.W.mg_none_of X G z_isinstance,PySem.W.mg_none_of X G z_list,PySem.W.mg_none_of X G z_int,PySem.W.mg_none_of X G z_bool,PySem.W.mg_none_of X G z_str,PySem.W.mg_none_of X G z_tuple,PySem.W.mg_none_of X G z_reversed,PySem.W.mg_none_of X G z_set,PySem.W.mg_none_of X G z_range,PySem.W.mg_none_of X G z_zip⟩,PySem.W.mg_none_of X G z_all,PySem.W.mg_none_of X G z_sum,PySem.W.mg_none_of X G z_enumerate⟩
 obtain ⟨oc,od,kV,doc,pm,an,cdv,ct,osl,rfl,lk,hcd⟩:=F81.ex
 refine ⟨PySem.W.fnOf "law" "law" (bD nG) (bv nG) (ah nG) .none kV doc pm an cdv ct,fun s v=>.of_eq rfl,fun base _ _=>?_⟩
 let c:RCl RK:=mkC Bh Bs Bj Bn Bk Bi Bg Bm
 let d:RCl PzK:=mkD Bo
 have Fb:=PySem.W.mg_of X G EY
 have DS:=PySem.W.mg_of X G Dw
 have C9:=PySem.W.mg_of X G C8
 have Dq:=PySem.W.mg_of X G Dm
 have DY:=PySem.W.mg_of X G Dx
 have Dn:=PySem.W.mg_of X G D8
 have DT:=PySem.W.mg_of X G Dy
 have Eh:=PySem.W.mg_of X G D9
 have cls_Unlike:Cls K Bh:=⟨EB,EC,ED,EE⟩
 have cls_Sum:Cls K Bs:=⟨G6,G7,G8,G9⟩
 have cls_Rising:Cls K Bj:=⟨EH,EI,EJ,EK⟩
 have cls_Seen:Cls K Bn:=⟨Gv,Gw,Gx,Gy⟩
 have cls_Count:Cls K Bk:=⟨FE,FF,FG,FH⟩
 have cls_Joined:Cls K Bi:=⟨EN,EO,EQ,ER⟩
 have cls_NoSquare:Cls K Bg:=⟨D4,D5,D6,D7⟩
 have cls_Ring:Cls K Bm:=⟨GB,GC,GD,GE⟩
 have cls_Puzzle:Cls K Bo:=⟨EU,EV,EW,EX⟩
 have FK_c_amount:FldK K c "amount":=⟨fun i hi=>by cases i with | Rule=>exact (Bool.false_ne_true hi).elim | Unlike=>exact ⟨cls_Unlike,Ca⟩ | Sum=>exact ⟨cls_Sum,CY⟩ | Rising=>exact ⟨cls_Rising,Cb⟩ | Seen=>exact ⟨cls_Seen,Cz⟩ | Count=>exact ⟨cls_Count,Cj⟩ | Joined=>exact ⟨cls_Joined,Cc⟩ | NoSquare=>exact ⟨cls_NoSquare,BF⟩ | Ring=>exact ⟨cls_Ring,CA⟩⟩
 have FK_c_cells:FldK K c "cells":=⟨fun i hi=>by cases i with | Rule=>exact (Bool.false_ne_true hi).elim | Unlike=>exact ⟨cls_Unlike,Ck⟩ | Sum=>exact ⟨cls_Sum,Dg⟩ | Rising=>exact ⟨cls_Rising,Cm⟩ | Seen=>exact ⟨cls_Seen,CZ⟩ | Count=>exact ⟨cls_Count,CB⟩ | Joined=>exact ⟨cls_Joined,BC⟩ | NoSquare=>exact ⟨cls_NoSquare,BL⟩ | Ring=>exact ⟨cls_Ring,B6⟩⟩
 have FK_c_floor:FldK K c "floor":=⟨fun i hi=>by cases i with | Rule=>exact (Bool.false_ne_true hi).elim | Unlike=>exact ⟨cls_Unlike,Cn⟩ | Sum=>exact ⟨cls_Sum,Dh⟩ | Rising=>exact ⟨cls_Rising,Co⟩ | Seen=>exact ⟨cls_Seen,C0⟩ | Count=>exact ⟨cls_Count,CC⟩ | Joined=>exact ⟨cls_Joined,BD⟩ | NoSquare=>exact ⟨cls_NoSquare,BM⟩ | Ring=>exact ⟨cls_Ring,B7⟩⟩
 have FK_c_mark:FldK K c "mark":=⟨fun i hi=>by cases i with | Rule=>exact (Bool.false_ne_true hi).elim | Unlike=>exact ⟨cls_Unlike,CD⟩ | Sum=>exact ⟨cls_Sum,Dt⟩ | Rising=>exact ⟨cls_Rising,CF⟩ | Seen=>exact ⟨cls_Seen,Di⟩ | Count=>exact ⟨cls_Count,C2⟩ | Joined=>exact ⟨cls_Joined,BG⟩ | NoSquare=>exact ⟨cls_NoSquare,Cd⟩ | Ring=>exact ⟨cls_Ring,Cg⟩⟩
 have FK_c_words:FldK K c "words":=⟨fun i hi=>by cases i with | Rule=>exact (Bool.false_ne_true hi).elim | Unlike=>exact ⟨cls_Unlike,Cp⟩ | Sum=>exact ⟨cls_Sum,Dj⟩ | Rising=>exact ⟨cls_Rising,Cq⟩ | Seen=>exact ⟨cls_Seen,C4⟩ | Count=>exact ⟨cls_Count,CG⟩ | Joined=>exact ⟨cls_Joined,Cr⟩ | NoSquare=>exact ⟨cls_NoSquare,BN⟩ | Ring=>exact ⟨cls_Ring,C5⟩⟩
 have FK_d_floor:FldK K d "floor":=⟨fun i hi=>by cases i; exact ⟨cls_Puzzle,Cs⟩⟩
 have FK_d_given:FldK K d "given":=⟨fun i hi=>by cases i; exact ⟨cls_Puzzle,Ct⟩⟩
 have FK_d_laws:FldK K d "laws":=⟨fun i hi=>by cases i; exact ⟨cls_Puzzle,CH⟩⟩
 have G_KINDS:GTup K mg "KINDS" lT:=⟨Gj,_,_,_,PySem.W.mg_of X G FI,FJ,rfl,rfl,Nat.le_of_lt (aE (by show (11:Nat)≤1000; decide)),(.cons ⟨_,rfl⟩ (.cons ⟨_,rfl⟩ (.cons ⟨_,rfl⟩ (.cons ⟨_,rfl⟩ (.cons ⟨_,rfl⟩ (.cons ⟨_,rfl⟩ (.cons ⟨_,rfl⟩ (.cons ⟨_,rfl⟩ (.cons ⟨_,rfl⟩ (.cons ⟨_,rfl⟩ (.cons ⟨_,rfl⟩ .nil)))))))))))⟩
 have G_LINE_KINDS:GTup K mg "LINE_KINDS" cG:=⟨Ds,_,_,_,PySem.W.mg_of X G Dk,Dl,rfl,rfl,Nat.le_of_lt (aE (by show (5:Nat)≤1000; decide)),(.cons ⟨_,rfl⟩ (.cons ⟨_,rfl⟩ (.cons ⟨_,rfl⟩ (.cons ⟨_,rfl⟩ (.cons ⟨_,rfl⟩ .nil)))))⟩
 have G_NUMBER_KINDS:GTup K mg "NUMBER_KINDS" bX:=⟨CV,_,_,_,PySem.W.mg_of X G CI,CJ,rfl,rfl,Nat.le_of_lt (aE (by show (3:Nat)≤1000; decide)),(.cons ⟨_,rfl⟩ (.cons ⟨_,rfl⟩ (.cons ⟨_,rfl⟩ .nil)))⟩
 have G_OF_ALL_CELLS:GTup K mg "OF_ALL_CELLS" d3:=⟨CW,_,_,_,PySem.W.mg_of X G CK,CL,rfl,rfl,Nat.le_of_lt (aE (by show (3:Nat)≤1000; decide)),(.cons ⟨_,rfl⟩ (.cons ⟨_,rfl⟩ (.cons ⟨_,rfl⟩ .nil)))⟩
 have G_WITH_NUMBER:GTup K mg "WITH_NUMBER" fN:=⟨Df,_,_,_,PySem.W.mg_of X G C6,C7,rfl,rfl,Nat.le_of_lt (aE (by show (3:Nat)≤1000; decide)),(.cons ⟨_,rfl⟩ (.cons ⟨_,rfl⟩ (.cons ⟨_,rfl⟩ .nil)))⟩
 have G_WITH_SIGN:GTup K mg "WITH_SIGN" fE:=⟨D0,_,_,_,PySem.W.mg_of X G Du,Dv,rfl,rfl,Nat.le_of_lt (aE (by show (4:Nat)≤1000; decide)),(.cons ⟨_,rfl⟩ (.cons ⟨_,rfl⟩ (.cons ⟨_,rfl⟩ (.cons ⟨_,rfl⟩ .nil))))⟩
 have CO:GDict w K mg "RULES_OF_KIND" gd_RULES_OF_KIND:=⟨Cy,_,_,_,PySem.W.mg_of X G Cu,Cv,⟨rfl,rfl,rfl⟩,rfl,(.cons BP BO rfl rfl (Nat.le_of_lt (aE (by show (1:Nat)≤1000; decide))) (.cons ⟨_,rfl⟩ .nil) (.cons BR BQ rfl rfl (Nat.le_of_lt (aE (by show (1:Nat)≤1000; decide))) (.cons ⟨_,rfl⟩ .nil) (.cons BT BS rfl rfl (Nat.le_of_lt (aE (by show (1:Nat)≤1000; decide))) (.cons ⟨_,rfl⟩ .nil) (.cons BV BU rfl rfl (Nat.le_of_lt (aE (by show (1:Nat)≤1000; decide))) (.cons ⟨_,rfl⟩ .nil) (.cons BX BW rfl rfl (Nat.le_of_lt (aE (by show (1:Nat)≤1000; decide))) (.cons ⟨_,rfl⟩ .nil) (.cons BZ BY rfl rfl (Nat.le_of_lt (aE (by show (1:Nat)≤1000; decide))) (.cons ⟨_,rfl⟩ .nil) (.cons B1 B0 rfl rfl (Nat.le_of_lt (aE (by show (2:Nat)≤1000; decide))) (.cons ⟨_,rfl⟩ (.cons ⟨_,rfl⟩ .nil)) (.cons B3 B2 rfl rfl (Nat.le_of_lt (aE (by show (1:Nat)≤1000; decide))) (.cons ⟨_,rfl⟩ .nil) (.cons B5 B4 rfl rfl (Nat.le_of_lt (aE (by show (1:Nat)≤1000; decide))) (.cons ⟨_,rfl⟩ .nil) .nil))))))))),by decide+kernel⟩
 have Br:Cal l.prog w K mg base _ _ _ (aY K):=l5 (uW B F0) F0 (PySem.W.mg_of X G a0)
 have Bl:Cal l.prog w K mg base _ _ _ (aP K):=l5 (rW B F1) F1 (PySem.W.mg_of X G a1)
 have CM:Cal l.prog w K mg base _ _ _ (cP K):=bx (wF B F2) F2 (PySem.W.mg_of X G a2)
 have Ed:Cal l.prog w K mg base _ _ _ (de K):=bx (uj B F3) F3 (PySem.W.mg_of X G a3)
 have Gd:Cal l.prog w K mg base _ _ _ (gX K):=l5 (yn B F4) F4 (PySem.W.mg_of X G a4)
 have BE:Cal l.prog w K mg base _ _ _ (ce K):=bx (yo B F5) F5 (PySem.W.mg_of X G a5)
 have CN:Cal l.prog w K mg base _ _ _ (cR K):=l5 (wG B F6) F6 (PySem.W.mg_of X G a6)
 have Bz:Cal l.prog w K mg base _ _ _ (bB K):=bx (uX B F7) F7 (PySem.W.mg_of X G a7)
 have BH:Cal l.prog w K mg base _ _ _ (bU K):=jM (uk B F8) F8 (PySem.W.mg_of X G a8)
 have Ee:Cal l.prog w K mg base _ _ _ (dj K):=bx (ul B F9) F9 (PySem.W.mg_of X G a9)
 have bd10:Binds K fd10 ["self","floor","words","cells","amount","mark"] []:=Bb F10
 have T10:FnOk l.prog w K mg base CX0 1 f10 fd10 _ (au K c):=oN (c:=c) B FK_c_amount FK_c_cells FK_c_floor FK_c_mark FK_c_words F10
 have Gg:KCal l.prog w K mg base _ "Unlike" (c.A .Unlike) _ (au K c):=⟨f10,_,⟨Ez,Ev,fn10,EA⟩,T10,PySem.W.mg_of X G Gm,bd10⟩
 have K_Sum:KCal l.prog w K mg base _ "Sum" (c.A .Sum) _ (au K c):=⟨f10,_,⟨G4,G3,fn10,G5⟩,T10,PySem.W.mg_of X G q_Sum,bd10⟩
 have Gf:KCal l.prog w K mg base _ "Rising" (c.A .Rising) _ (au K c):=⟨f10,_,⟨EF,Ew,fn10,EG⟩,T10,PySem.W.mg_of X G Gn,bd10⟩
 have Hl:KCal l.prog w K mg base _ "Seen" (c.A .Seen) _ (au K c):=⟨f10,_,⟨Gs,Gq,fn10,Gu⟩,T10,PySem.W.mg_of X G Hv,bd10⟩
 have GU:KCal l.prog w K mg base _ "Count" (c.A .Count) _ (au K c):=⟨f10,_,⟨FC,FB,fn10,FD⟩,T10,PySem.W.mg_of X G G2,bd10⟩
 have Ge:KCal l.prog w K mg base _ "Joined" (c.A .Joined) _ (au K c):=⟨f10,_,⟨EL,Ex,fn10,EM⟩,T10,PySem.W.mg_of X G Go,bd10⟩
 have Em:KCal l.prog w K mg base _ "NoSquare" (c.A .NoSquare) _ (au K c):=⟨f10,_,⟨D2,D1,fn10,D3⟩,T10,PySem.W.mg_of X G Eu,bd10⟩
 have Hk:KCal l.prog w K mg base _ "Ring" (c.A .Ring) _ (au K c):=⟨f10,_,⟨Gz,Gr,fn10,GA⟩,T10,PySem.W.mg_of X G Hw,bd10⟩
 have bd11:Binds K fd11 ["self"] []:=kS F11
 have T11:FnOk l.prog w K mg base CX0 1 f11 fd11 _ (iw K c):=um (c:=c) B FK_c_words F11
 have Hj:MCal l.prog w K mg base c c.ok 1 "name" ["self"] (nE K c):=⟨fun i hi=>by cases i with | Rule=>exact (Bool.false_ne_true hi).elim | Unlike=>exact ⟨f11,_,cls_Unlike,⟨a11_Unlike,fn11,F11.kp⟩,(T11.mono (by decide)).imp (fun vs H Q E h=>⟨.Unlike,h⟩),bd11⟩ | Sum=>exact ⟨f11,_,cls_Sum,⟨a11_Sum,fn11,F11.kp⟩,(T11.mono (by decide)).imp (fun vs H Q E h=>⟨.Sum,h⟩),bd11⟩ | Rising=>exact ⟨f11,_,cls_Rising,⟨a11_Rising,fn11,F11.kp⟩,(T11.mono (by decide)).imp (fun vs H Q E h=>⟨.Rising,h⟩),bd11⟩ | Seen=>exact ⟨f11,_,cls_Seen,⟨a11_Seen,fn11,F11.kp⟩,(T11.mono (by decide)).imp (fun vs H Q E h=>⟨.Seen,h⟩),bd11⟩ | Count=>exact ⟨f11,_,cls_Count,⟨a11_Count,fn11,F11.kp⟩,(T11.mono (by decide)).imp (fun vs H Q E h=>⟨.Count,h⟩),bd11⟩ | Joined=>exact ⟨f11,_,cls_Joined,⟨a11_Joined,fn11,F11.kp⟩,(T11.mono (by decide)).imp (fun vs H Q E h=>⟨.Joined,h⟩),bd11⟩ | NoSquare=>exact ⟨f11,_,cls_NoSquare,⟨a11_NoSquare,fn11,F11.kp⟩,(T11.mono (by decide)).imp (fun vs H Q E h=>⟨.NoSquare,h⟩),bd11⟩ | Ring=>exact ⟨f11,_,cls_Ring,⟨a11_Ring,fn11,F11.kp⟩,(T11.mono (by decide)).imp (fun vs H Q E h=>⟨.Ring,h⟩),bd11⟩⟩
 have bd12:Binds K fd12 ["self"] []:=kS F12
 have T12:FnOk l.prog w K mg base CX0 1 f12 fd12 _ (gq K c):=rX (c:=c) B FK_c_cells F12
 have BA:MCal l.prog w K mg base c c.ok 1 "spots" ["self"] (cT K c):=⟨fun i hi=>by cases i with | Rule=>exact (Bool.false_ne_true hi).elim | Unlike=>exact ⟨f12,_,cls_Unlike,⟨a12_Unlike,fn12,F12.kp⟩,(T12.mono (by decide)).imp (fun vs H Q E h=>⟨.Unlike,h⟩),bd12⟩ | Sum=>exact ⟨f12,_,cls_Sum,⟨a12_Sum,fn12,F12.kp⟩,(T12.mono (by decide)).imp (fun vs H Q E h=>⟨.Sum,h⟩),bd12⟩ | Rising=>exact ⟨f12,_,cls_Rising,⟨a12_Rising,fn12,F12.kp⟩,(T12.mono (by decide)).imp (fun vs H Q E h=>⟨.Rising,h⟩),bd12⟩ | Seen=>exact ⟨f12,_,cls_Seen,⟨a12_Seen,fn12,F12.kp⟩,(T12.mono (by decide)).imp (fun vs H Q E h=>⟨.Seen,h⟩),bd12⟩ | Count=>exact ⟨f12,_,cls_Count,⟨a12_Count,fn12,F12.kp⟩,(T12.mono (by decide)).imp (fun vs H Q E h=>⟨.Count,h⟩),bd12⟩ | Joined=>exact ⟨f12,_,cls_Joined,⟨a12_Joined,fn12,F12.kp⟩,(T12.mono (by decide)).imp (fun vs H Q E h=>⟨.Joined,h⟩),bd12⟩ | NoSquare=>exact ⟨f12,_,cls_NoSquare,⟨a12_NoSquare,fn12,F12.kp⟩,(T12.mono (by decide)).imp (fun vs H Q E h=>⟨.NoSquare,h⟩),bd12⟩ | Ring=>exact ⟨f12,_,cls_Ring,⟨a12_Ring,fn12,F12.kp⟩,(T12.mono (by decide)).imp (fun vs H Q E h=>⟨.Ring,h⟩),bd12⟩⟩
 have bd13:Binds K fd13 ["self"] []:=kS F13
 have T13:FnOk l.prog w K mg base CX0 1 f13 fd13 _ (fO K c):=qK (c:=c) B FK_c_amount F13
 have B8:MCal l.prog w K mg base c c.ok 1 "number" ["self"] (dt K c):=⟨fun i hi=>by cases i with | Rule=>exact (Bool.false_ne_true hi).elim | Unlike=>exact ⟨f13,_,cls_Unlike,⟨a13_Unlike,fn13,F13.kp⟩,(T13.mono (by decide)).imp (fun vs H Q E h=>⟨.Unlike,h⟩),bd13⟩ | Sum=>exact ⟨f13,_,cls_Sum,⟨a13_Sum,fn13,F13.kp⟩,(T13.mono (by decide)).imp (fun vs H Q E h=>⟨.Sum,h⟩),bd13⟩ | Rising=>exact ⟨f13,_,cls_Rising,⟨a13_Rising,fn13,F13.kp⟩,(T13.mono (by decide)).imp (fun vs H Q E h=>⟨.Rising,h⟩),bd13⟩ | Seen=>exact ⟨f13,_,cls_Seen,⟨a13_Seen,fn13,F13.kp⟩,(T13.mono (by decide)).imp (fun vs H Q E h=>⟨.Seen,h⟩),bd13⟩ | Count=>exact ⟨f13,_,cls_Count,⟨a13_Count,fn13,F13.kp⟩,(T13.mono (by decide)).imp (fun vs H Q E h=>⟨.Count,h⟩),bd13⟩ | Joined=>exact ⟨f13,_,cls_Joined,⟨a13_Joined,fn13,F13.kp⟩,(T13.mono (by decide)).imp (fun vs H Q E h=>⟨.Joined,h⟩),bd13⟩ | NoSquare=>exact ⟨f13,_,cls_NoSquare,⟨a13_NoSquare,fn13,F13.kp⟩,(T13.mono (by decide)).imp (fun vs H Q E h=>⟨.NoSquare,h⟩),bd13⟩ | Ring=>exact ⟨f13,_,cls_Ring,⟨a13_Ring,fn13,F13.kp⟩,(T13.mono (by decide)).imp (fun vs H Q E h=>⟨.Ring,h⟩),bd13⟩⟩
 have bd14:Binds K fd14 ["self"] []:=kS F14
 have T14:FnOk l.prog w K mg base CX0 1 f14 fd14 _ (iz K c):=uo (c:=c) B FK_c_mark F14
 have GG:MCal l.prog w K mg base c c.ok 1 "sign" ["self"] (lC K c):=⟨fun i hi=>by cases i with | Rule=>exact (Bool.false_ne_true hi).elim | Unlike=>exact ⟨f14,_,cls_Unlike,⟨a14_Unlike,fn14,F14.kp⟩,(T14.mono (by decide)).imp (fun vs H Q E h=>⟨.Unlike,h⟩),bd14⟩ | Sum=>exact ⟨f14,_,cls_Sum,⟨a14_Sum,fn14,F14.kp⟩,(T14.mono (by decide)).imp (fun vs H Q E h=>⟨.Sum,h⟩),bd14⟩ | Rising=>exact ⟨f14,_,cls_Rising,⟨a14_Rising,fn14,F14.kp⟩,(T14.mono (by decide)).imp (fun vs H Q E h=>⟨.Rising,h⟩),bd14⟩ | Seen=>exact ⟨f14,_,cls_Seen,⟨a14_Seen,fn14,F14.kp⟩,(T14.mono (by decide)).imp (fun vs H Q E h=>⟨.Seen,h⟩),bd14⟩ | Count=>exact ⟨f14,_,cls_Count,⟨a14_Count,fn14,F14.kp⟩,(T14.mono (by decide)).imp (fun vs H Q E h=>⟨.Count,h⟩),bd14⟩ | Joined=>exact ⟨f14,_,cls_Joined,⟨a14_Joined,fn14,F14.kp⟩,(T14.mono (by decide)).imp (fun vs H Q E h=>⟨.Joined,h⟩),bd14⟩ | NoSquare=>exact ⟨f14,_,cls_NoSquare,⟨a14_NoSquare,fn14,F14.kp⟩,(T14.mono (by decide)).imp (fun vs H Q E h=>⟨.NoSquare,h⟩),bd14⟩ | Ring=>exact ⟨f14,_,cls_Ring,⟨a14_Ring,fn14,F14.kp⟩,(T14.mono (by decide)).imp (fun vs H Q E h=>⟨.Ring,h⟩),bd14⟩⟩
 have bd15:Binds K fd15 ["self","filling"] []:=gE F15
 have T15:FnOk l.prog w K mg base CX0 1 f15 fd15 _ (dB K c):=oO (c:=c) B FK_c_cells F15
 have Bv:MCal l.prog w K mg base c c.ok 1 "signs_at" ["self","filling"] (bA K c):=⟨fun i hi=>by cases i with | Rule=>exact (Bool.false_ne_true hi).elim | Unlike=>exact ⟨f15,_,cls_Unlike,⟨a15_Unlike,fn15,F15.kp⟩,(T15.mono (by decide)).imp (fun vs H Q E h=>⟨.Unlike,h⟩),bd15⟩ | Sum=>exact ⟨f15,_,cls_Sum,⟨a15_Sum,fn15,F15.kp⟩,(T15.mono (by decide)).imp (fun vs H Q E h=>⟨.Sum,h⟩),bd15⟩ | Rising=>exact ⟨f15,_,cls_Rising,⟨a15_Rising,fn15,F15.kp⟩,(T15.mono (by decide)).imp (fun vs H Q E h=>⟨.Rising,h⟩),bd15⟩ | Seen=>exact ⟨f15,_,cls_Seen,⟨a15_Seen,fn15,F15.kp⟩,(T15.mono (by decide)).imp (fun vs H Q E h=>⟨.Seen,h⟩),bd15⟩ | Count=>exact ⟨f15,_,cls_Count,⟨a15_Count,fn15,F15.kp⟩,(T15.mono (by decide)).imp (fun vs H Q E h=>⟨.Count,h⟩),bd15⟩ | Joined=>exact ⟨f15,_,cls_Joined,⟨a15_Joined,fn15,F15.kp⟩,(T15.mono (by decide)).imp (fun vs H Q E h=>⟨.Joined,h⟩),bd15⟩ | NoSquare=>exact ⟨f15,_,cls_NoSquare,⟨a15_NoSquare,fn15,F15.kp⟩,(T15.mono (by decide)).imp (fun vs H Q E h=>⟨.NoSquare,h⟩),bd15⟩ | Ring=>exact ⟨f15,_,cls_Ring,⟨a15_Ring,fn15,F15.kp⟩,(T15.mono (by decide)).imp (fun vs H Q E h=>⟨.Ring,h⟩),bd15⟩⟩
 have bd16:Binds K fd16 ["self","filling"] []:=gE F16
 have FK_c_cells_Joined:FldK K (mk1 c .Joined) "cells":=⟨fun i hi=>by cases i with | Rule=>exact (Bool.false_ne_true hi).elim | Unlike=>exact (Bool.false_ne_true hi).elim | Sum=>exact (Bool.false_ne_true hi).elim | Rising=>exact (Bool.false_ne_true hi).elim | Seen=>exact (Bool.false_ne_true hi).elim | Count=>exact (Bool.false_ne_true hi).elim | Joined=>exact ⟨cls_Joined,BC⟩ | NoSquare=>exact (Bool.false_ne_true hi).elim | Ring=>exact (Bool.false_ne_true hi).elim⟩
 have FK_c_mark_Joined:FldK K (mk1 c .Joined) "mark":=⟨fun i hi=>by cases i with | Rule=>exact (Bool.false_ne_true hi).elim | Unlike=>exact (Bool.false_ne_true hi).elim | Sum=>exact (Bool.false_ne_true hi).elim | Rising=>exact (Bool.false_ne_true hi).elim | Seen=>exact (Bool.false_ne_true hi).elim | Count=>exact (Bool.false_ne_true hi).elim | Joined=>exact ⟨cls_Joined,BG⟩ | NoSquare=>exact (Bool.false_ne_true hi).elim | Ring=>exact (Bool.false_ne_true hi).elim⟩
 have T16_Joined:FnOk l.prog w K mg base CX0 1 f16 _ ["self","filling"] (cp K (mk1 c .Joined)):=jb (c:=(mk1 c .Joined)) B FK_c_cells_Joined FK_c_mark_Joined F16
 have GT:MCal l.prog w K mg base (mk1 c .Joined) (mk1 c .Joined).ok 1 "marked" ["self","filling"] (bG K (mk1 c .Joined)):=⟨fun i hi=>by cases i with | Rule=>exact (Bool.false_ne_true hi).elim | Unlike=>exact (Bool.false_ne_true hi).elim | Sum=>exact (Bool.false_ne_true hi).elim | Rising=>exact (Bool.false_ne_true hi).elim | Seen=>exact (Bool.false_ne_true hi).elim | Count=>exact (Bool.false_ne_true hi).elim | Joined=>exact ⟨f16,_,cls_Joined,⟨a16_Joined,fn16,F16.kp⟩,(T16_Joined.mono (by decide)).imp (fun vs H Q E h=>⟨.Joined,h⟩),bd16⟩ | NoSquare=>exact (Bool.false_ne_true hi).elim | Ring=>exact (Bool.false_ne_true hi).elim⟩
 have FK_c_cells_Ring:FldK K (mk1 c .Ring) "cells":=⟨fun i hi=>by cases i with | Rule=>exact (Bool.false_ne_true hi).elim | Unlike=>exact (Bool.false_ne_true hi).elim | Sum=>exact (Bool.false_ne_true hi).elim | Rising=>exact (Bool.false_ne_true hi).elim | Seen=>exact (Bool.false_ne_true hi).elim | Count=>exact (Bool.false_ne_true hi).elim | Joined=>exact (Bool.false_ne_true hi).elim | NoSquare=>exact (Bool.false_ne_true hi).elim | Ring=>exact ⟨cls_Ring,B6⟩⟩
 have FK_c_mark_Ring:FldK K (mk1 c .Ring) "mark":=⟨fun i hi=>by cases i with | Rule=>exact (Bool.false_ne_true hi).elim | Unlike=>exact (Bool.false_ne_true hi).elim | Sum=>exact (Bool.false_ne_true hi).elim | Rising=>exact (Bool.false_ne_true hi).elim | Seen=>exact (Bool.false_ne_true hi).elim | Count=>exact (Bool.false_ne_true hi).elim | Joined=>exact (Bool.false_ne_true hi).elim | NoSquare=>exact (Bool.false_ne_true hi).elim | Ring=>exact ⟨cls_Ring,Cg⟩⟩
 have T16_Ring:FnOk l.prog w K mg base CX0 1 f16 _ ["self","filling"] (cp K (mk1 c .Ring)):=jb (c:=(mk1 c .Ring)) B FK_c_cells_Ring FK_c_mark_Ring F16
 have Hi:MCal l.prog w K mg base (mk1 c .Ring) (mk1 c .Ring).ok 1 "marked" ["self","filling"] (bG K (mk1 c .Ring)):=⟨fun i hi=>by cases i with | Rule=>exact (Bool.false_ne_true hi).elim | Unlike=>exact (Bool.false_ne_true hi).elim | Sum=>exact (Bool.false_ne_true hi).elim | Rising=>exact (Bool.false_ne_true hi).elim | Seen=>exact (Bool.false_ne_true hi).elim | Count=>exact (Bool.false_ne_true hi).elim | Joined=>exact (Bool.false_ne_true hi).elim | NoSquare=>exact (Bool.false_ne_true hi).elim | Ring=>exact ⟨f16,_,cls_Ring,⟨a16_Ring,fn16,F16.kp⟩,(T16_Ring.mono (by decide)).imp (fun vs H Q E h=>⟨.Ring,h⟩),bd16⟩⟩
 have T16:FnOk l.prog w K mg base CX0 1 f16 fd16 _ (cp K c):=jb (c:=c) B FK_c_cells FK_c_mark F16
 have BB:MCal l.prog w K mg base c c.ok 1 "marked" ["self","filling"] (bG K c):=⟨fun i hi=>by cases i with | Rule=>exact (Bool.false_ne_true hi).elim | Unlike=>exact ⟨f16,_,cls_Unlike,⟨a16_Unlike,fn16,F16.kp⟩,(T16.mono (by decide)).imp (fun vs H Q E h=>⟨.Unlike,h⟩),bd16⟩ | Sum=>exact ⟨f16,_,cls_Sum,⟨a16_Sum,fn16,F16.kp⟩,(T16.mono (by decide)).imp (fun vs H Q E h=>⟨.Sum,h⟩),bd16⟩ | Rising=>exact ⟨f16,_,cls_Rising,⟨a16_Rising,fn16,F16.kp⟩,(T16.mono (by decide)).imp (fun vs H Q E h=>⟨.Rising,h⟩),bd16⟩ | Seen=>exact ⟨f16,_,cls_Seen,⟨a16_Seen,fn16,F16.kp⟩,(T16.mono (by decide)).imp (fun vs H Q E h=>⟨.Seen,h⟩),bd16⟩ | Count=>exact ⟨f16,_,cls_Count,⟨a16_Count,fn16,F16.kp⟩,(T16.mono (by decide)).imp (fun vs H Q E h=>⟨.Count,h⟩),bd16⟩ | Joined=>exact ⟨f16,_,cls_Joined,⟨a16_Joined,fn16,F16.kp⟩,(T16.mono (by decide)).imp (fun vs H Q E h=>⟨.Joined,h⟩),bd16⟩ | NoSquare=>exact ⟨f16,_,cls_NoSquare,⟨a16_NoSquare,fn16,F16.kp⟩,(T16.mono (by decide)).imp (fun vs H Q E h=>⟨.NoSquare,h⟩),bd16⟩ | Ring=>exact ⟨f16,_,cls_Ring,⟨a16_Ring,fn16,F16.kp⟩,(T16.mono (by decide)).imp (fun vs H Q E h=>⟨.Ring,h⟩),bd16⟩⟩
 have Eb:Cal l.prog w K mg base _ _ _ (df K):=l5 (up B Fb C9 F17) F17 (PySem.W.mg_of X G a17)
 have bd18:Binds K fd18 ["self"] []:=kS F18
 have T18:FnOk l.prog w K mg base CX0 1 f18 fd18 _ (d8 K c d):=p7 (c:=c) (d:=d) B FK_d_floor F18
 have Ek:MCal l.prog w K mg base d d.ok 1 "place" ["self"] (kq K c d):=⟨fun i hi=>by cases i; exact ⟨f18,_,cls_Puzzle,⟨a18_Puzzle,fn18,F18.kp⟩,(T18.mono (by decide)).imp (fun vs H Q E h=>h),bd18⟩⟩
 have bd19:Binds K fd19 ["self"] []:=kS F19
 have T19:FnOk l.prog w K mg base CX0 1 f19 fd19 _ (ed K c d):=p8 (c:=c) (d:=d) B FK_d_given F19
 have Hx:MCal l.prog w K mg base d d.ok 1 "clues" ["self"] (oA K c d):=⟨fun i hi=>by cases i; exact ⟨f19,_,cls_Puzzle,⟨a19_Puzzle,fn19,F19.kp⟩,(T19.mono (by decide)).imp (fun vs H Q E h=>h),bd19⟩⟩
 have bd20:Binds K fd20 ["self"] []:=kS F20
 have T20:FnOk l.prog w K mg base CX0 1 f20 fd20 _ (eo K c d):=p9 (c:=c) (d:=d) B FK_d_laws F20
 have Bx:MCal l.prog w K mg base d d.ok 1 "rules" ["self"] (b7 K c d):=⟨fun i hi=>by cases i; exact ⟨f20,_,cls_Puzzle,⟨a20_Puzzle,fn20,F20.kp⟩,(T20.mono (by decide)).imp (fun vs H Q E h=>h),bd20⟩⟩
 have Bq:Cal l.prog w K mg base _ _ _ (bc K):=bx (qb B F21) F21 (PySem.W.mg_of X G a21)
 have DR:Cal l.prog w K mg base _ _ _ (b3 K):=bx (rY B F22) F22 (PySem.W.mg_of X G a22)
 have Bu:Cal l.prog w K mg base _ _ _ (aS K):=bx (nQ B Br F23) F23 (PySem.W.mg_of X G a23)
 have Da:Cal l.prog w K mg base _ _ _ (dq K):=bx (yp B CM F24) F24 (PySem.W.mg_of X G a24)
 have Ec:Cal l.prog w K mg base _ _ _ (dc K):=bx (uq B CM F25) F25 (PySem.W.mg_of X G a25)
 have Fc:Cal l.prog w K mg base _ _ _ (fR K):=bx (wH B Gd BE F26) F26 (PySem.W.mg_of X G a26)
 have Bp:Cal l.prog w K mg base _ _ _ (aT K):=l5 (uY B BE F27) F27 (PySem.W.mg_of X G a27)
 have Fe:Cal l.prog w K mg base _ _ _ (fS K):=bx (wI B Br Bl F28) F28 (PySem.W.mg_of X G a28)
 have Fd:Cal l.prog w K mg base _ _ _ (fU K c):=bx (wJ (c:=c) B Hj CO F29) F29 (PySem.W.mg_of X G a29)
 have Bw:Cal l.prog w K mg base _ _ _ (br K c):=bx (yq (c:=c) B BA F30) F30 (PySem.W.mg_of X G a30)
 have Ep:Cal l.prog w K mg base _ _ _ (dX K):=bx (uZ B BE F31) F31 (PySem.W.mg_of X G a31)
 have Ce:Cal l.prog w K mg base _ _ _ (cf K c):=bx (u6 (c:=c) B BA F32) F32 (PySem.W.mg_of X G a32)
 have Db:Cal l.prog w K mg base _ _ _ (du K c):=bx (yr (c:=c) B BA F33) F33 (PySem.W.mg_of X G a33)
 have Cw:Cal l.prog w K mg base _ _ _ (bE K):=jM (nR B BH F34) F34 (PySem.W.mg_of X G a34)
 have bd35:Binds K fd35 ["self","filling"] []:=gE F35
 have T35:FnOk l.prog w K mg base CX0 2 f35 fd35 _ (d6 K c):=qc (c:=c) B Bv F35
 have bd36:Binds K fd36 ["self","filling"] []:=gE F36
 have T36:FnOk l.prog w K mg base CX0 2 f36 fd36 _ (iH K c):=ur (c:=c) B FK_c_amount Bv F36
 have bd37:Binds K fd37 ["self","filling"] []:=gE F37
 have T37:FnOk l.prog w K mg base CX0 2 f37 fd37 _ (eI K c):=qd (c:=c) B Bv F37
 have bd38:Binds K fd38 ["self","filling"] []:=gE F38
 have T38:FnOk l.prog w K mg base CX0 2 f38 fd38 _ (gy K c):=rZ (c:=c) B FK_c_amount Bv F38
 have za:Binds K fd39 ["self","filling"] []:=gE F39
 have T39:FnOk l.prog w K mg base CX0 2 f39 fd39 _ (fX K c):=qL (c:=c) B FK_c_amount BB F39
 have By:Cal l.prog w K mg base _ _ _ (bg K):=jM (oS B Eb F40) F40 (PySem.W.mg_of X G a40)
 have DU:Cal l.prog w K mg base _ _ _ (cF K):=jM (r8 B Br Bl F41) F41 (PySem.W.mg_of X G a41)
 have Et:Cal l.prog w K mg base _ _ _ (cJ K):=wE (u7 B Bq DR F42) F42 (PySem.W.mg_of X G a42)
 have B9:Cal l.prog w K mg base _ _ _ (bt K):=wE (sd B Bq F43) F43 (PySem.W.mg_of X G a43)
 have Eo:Cal l.prog w K mg base _ _ _ (dU K):=jM (u8 B Bu DS Dn DT F44) F44 (PySem.W.mg_of X G a44)
 have Fg:Cal l.prog w K mg base _ _ _ (fM K):=l5 (wK B Ec Bl Ed F45) F45 (PySem.W.mg_of X G a45)
 have Ea:Cal l.prog w K mg base _ _ _ (fZ K):=jM (wL B Da F46) F46 (PySem.W.mg_of X G a46)
 have En:Cal l.prog w K mg base _ _ _ (dW K):=bx (u9 B Fc F47) F47 (PySem.W.mg_of X G a47)
 have Hm:Cal l.prog w K mg base _ _ _ (j7 K):=l5 (zZ B Bp F48) F48 (PySem.W.mg_of X G a48)
 have Ff:Cal l.prog w K mg base _ _ _ (fT K):=bx (wM B Bu F49) F49 (PySem.W.mg_of X G a49)
 have Dc:Cal l.prog w K mg base _ _ _ (bY K c d):=wE (qe (c:=c) (d:=d) B Fd Br Bx BA F50) F50 (PySem.W.mg_of X G a50)
 have CP:Cal l.prog w K mg base _ _ _ (bL K):=bx (oT B Bp F51) F51 (PySem.W.mg_of X G a51)
 have DW:Cal l.prog w K mg base _ _ _ (cH K):=bx (se B Bp F52) F52 (PySem.W.mg_of X G a52)
 have CQ:Cal l.prog w K mg base _ _ _ (bw K c d):=bx (oU (c:=c) (d:=d) B Ce Db Bw Bx F53) F53 (PySem.W.mg_of X G a53)
 have Dr:Cal l.prog w K mg base _ _ _ (cm K c):=ui (qM (c:=c) B CN Bz Bw Bp B8 F54) F54 (PySem.W.mg_of X G a54)
 have Ch:Cal l.prog w K mg base _ _ _ (bn K c d):=bx (nj (c:=c) (d:=d) B Bw Bx F55) F55 (PySem.W.mg_of X G a55)
 have bd56:Binds K fd56 ["self","cells","cell"] []:=zi F56
 have FK_c_floor_Ring:FldK K (mk1 c .Ring) "floor":=⟨fun i hi=>by cases i with | Rule=>exact (Bool.false_ne_true hi).elim | Unlike=>exact (Bool.false_ne_true hi).elim | Sum=>exact (Bool.false_ne_true hi).elim | Rising=>exact (Bool.false_ne_true hi).elim | Seen=>exact (Bool.false_ne_true hi).elim | Count=>exact (Bool.false_ne_true hi).elim | Joined=>exact (Bool.false_ne_true hi).elim | NoSquare=>exact (Bool.false_ne_true hi).elim | Ring=>exact ⟨cls_Ring,B7⟩⟩
 have T56_Ring:FnOk l.prog w K mg base CX0 3 f56 _ ["self","cells","cell"] (bO K (mk1 c .Ring)):=lj (c:=(mk1 c .Ring)) B Da FK_c_floor_Ring F56
 have El:MCal l.prog w K mg base (mk1 c .Ring) (mk1 c .Ring).ok 3 "has_two_beside" ["self","cells","cell"] (cV K (mk1 c .Ring)):=⟨fun i hi=>by cases i with | Rule=>exact (Bool.false_ne_true hi).elim | Unlike=>exact (Bool.false_ne_true hi).elim | Sum=>exact (Bool.false_ne_true hi).elim | Rising=>exact (Bool.false_ne_true hi).elim | Seen=>exact (Bool.false_ne_true hi).elim | Count=>exact (Bool.false_ne_true hi).elim | Joined=>exact (Bool.false_ne_true hi).elim | NoSquare=>exact (Bool.false_ne_true hi).elim | Ring=>exact ⟨f56,_,cls_Ring,⟨a56_Ring,fn56,F56.kp⟩,(T56_Ring.mono (by decide)).imp (fun vs H Q E h=>h),bd56⟩⟩
 have Cf:Cal l.prog w K mg base _ _ _ (bq K):=jM (qf B By F57) F57 (PySem.W.mg_of X G a57)
 have DX:Cal l.prog w K mg base _ _ _ (cD K):=bx (sf B Bl By F58) F58 (PySem.W.mg_of X G a58)
 have Fh:Cal l.prog w K mg base _ _ _ (fQ K c):=ui (wN (c:=c) B GU Ge Em Hk Gf Hl K_Sum Gg F59) F59 (PySem.W.mg_of X G a59)
 have CT:Cal l.prog w K mg base _ _ _ (bJ K):=bx (oV B DU F60) F60 (PySem.W.mg_of X G a60)
 have Ej:Cal l.prog w K mg base _ _ _ (dh K c d):=bx (uu (c:=c) (d:=d) B Dc Fe Ff Br Ek G_KINDS F61) F61 (PySem.W.mg_of X G a61)
 have Ef:Cal l.prog w K mg base _ _ _ (di K):=bx (uv B En F62) F62 (PySem.W.mg_of X G a62)
 have Dd:Cal l.prog w K mg base _ _ _ (bZ K c):=ui (qg (c:=c) B Ce Db CP DW F63) F63 (PySem.W.mg_of X G a63)
 have Es:Cal l.prog w K mg base _ _ _ (cI K c d):=bx (va (c:=c) (d:=d) B CQ Ch G_LINE_KINDS G_NUMBER_KINDS F64) F64 (PySem.W.mg_of X G a64)
 have bd65:Binds K fd65 ["self","cells"] []:=gE F65
 have FK_c_floor_Joined:FldK K (mk1 c .Joined) "floor":=⟨fun i hi=>by cases i with | Rule=>exact (Bool.false_ne_true hi).elim | Unlike=>exact (Bool.false_ne_true hi).elim | Sum=>exact (Bool.false_ne_true hi).elim | Rising=>exact (Bool.false_ne_true hi).elim | Seen=>exact (Bool.false_ne_true hi).elim | Count=>exact (Bool.false_ne_true hi).elim | Joined=>exact ⟨cls_Joined,BD⟩ | NoSquare=>exact (Bool.false_ne_true hi).elim | Ring=>exact (Bool.false_ne_true hi).elim⟩
 have T65_Joined:FnOk l.prog w K mg base CX0 4 f65 _ ["self","cells"] (bH K (mk1 c .Joined)):=iW (c:=(mk1 c .Joined)) B Ea FK_c_floor_Joined F65
 have FK:MCal l.prog w K mg base (mk1 c .Joined) (mk1 c .Joined).ok 4 "is_joined" ["self","cells"] (cz K (mk1 c .Joined)):=⟨fun i hi=>by cases i with | Rule=>exact (Bool.false_ne_true hi).elim | Unlike=>exact (Bool.false_ne_true hi).elim | Sum=>exact (Bool.false_ne_true hi).elim | Rising=>exact (Bool.false_ne_true hi).elim | Seen=>exact (Bool.false_ne_true hi).elim | Count=>exact (Bool.false_ne_true hi).elim | Joined=>exact ⟨f65,_,cls_Joined,⟨a65_Joined,fn65,F65.kp⟩,(T65_Joined.mono (by decide)).imp (fun vs H Q E h=>⟨.Joined,h⟩),bd65⟩ | NoSquare=>exact (Bool.false_ne_true hi).elim | Ring=>exact (Bool.false_ne_true hi).elim⟩
 have T65_Ring:FnOk l.prog w K mg base CX0 4 f65 _ ["self","cells"] (bH K (mk1 c .Ring)):=iW (c:=(mk1 c .Ring)) B Ea FK_c_floor_Ring F65
 have GF:MCal l.prog w K mg base (mk1 c .Ring) (mk1 c .Ring).ok 4 "is_joined" ["self","cells"] (cz K (mk1 c .Ring)):=⟨fun i hi=>by cases i with | Rule=>exact (Bool.false_ne_true hi).elim | Unlike=>exact (Bool.false_ne_true hi).elim | Sum=>exact (Bool.false_ne_true hi).elim | Rising=>exact (Bool.false_ne_true hi).elim | Seen=>exact (Bool.false_ne_true hi).elim | Count=>exact (Bool.false_ne_true hi).elim | Joined=>exact (Bool.false_ne_true hi).elim | NoSquare=>exact (Bool.false_ne_true hi).elim | Ring=>exact ⟨f65,_,cls_Ring,⟨a65_Ring,fn65,F65.kp⟩,(T65_Ring.mono (by decide)).imp (fun vs H Q E h=>⟨.Ring,h⟩),bd65⟩⟩
 have bd66:Binds K fd66 ["self","filling"] []:=gE F66
 have T66:FnOk l.prog w K mg base CX0 4 f66 fd66 _ (cX K c):=nS (c:=c) B Ee Fg FK_c_floor BB F66
 have Er:Cal l.prog w K mg base _ _ _ (dS K):=jM (vb B Bl DX G_OF_ALL_CELLS F67) F67 (PySem.W.mg_of X G a67)
 have CU:Cal l.prog w K mg base _ _ _ (bI K):=l5 (oW B Eo F68) F68 (PySem.W.mg_of X G a68)
 have Ci:Cal l.prog w K mg base _ _ _ (bm K c d):=jM (nn (c:=c) (d:=d) B Dd Hx Ek Bx F69) F69 (PySem.W.mg_of X G a69)
 have CS:Cal l.prog w K mg base _ _ _ (bK K c):=ui (oX (c:=c) B Ep Ef Bz Bw B8 GG F70) F70 (PySem.W.mg_of X G a70)
 have bd71:Binds K fd71 ["self","filling"] []:=gE F71
 have T71_Joined:FnOk l.prog w K mg base CX0 5 f71 _ ["self","filling"] (eK K (mk1 c .Joined)):=qh (c:=(mk1 c .Joined)) B FK GT F71
 have bd72:Binds K fd72 ["self","filling"] []:=gE F72
 have T72_Ring:FnOk l.prog w K mg base CX0 5 f72 _ ["self","filling"] (gA K (mk1 c .Ring)):=sh (c:=(mk1 c .Ring)) B El GF Hi F72
 have GV:MCal l.prog w K mg base c c.ok 5 "holds" ["self","filling"] (cy K c):=⟨fun i hi=>by cases i with | Rule=>exact (Bool.false_ne_true hi).elim | Unlike=>exact ⟨f35,_,cls_Unlike,⟨a35_Unlike,fn35,F35.kp⟩,(T35.mono (by decide)).imp (fun vs H Q E h=>h),bd35⟩ | Sum=>exact ⟨f36,_,cls_Sum,⟨a36_Sum,fn36,F36.kp⟩,(T36.mono (by decide)).imp (fun vs H Q E h=>h),bd36⟩ | Rising=>exact ⟨f37,_,cls_Rising,⟨a37_Rising,fn37,F37.kp⟩,(T37.mono (by decide)).imp (fun vs H Q E h=>h),bd37⟩ | Seen=>exact ⟨f38,_,cls_Seen,⟨a38_Seen,fn38,F38.kp⟩,(T38.mono (by decide)).imp (fun vs H Q E h=>h),bd38⟩ | Count=>exact ⟨f39,_,cls_Count,⟨a39_Count,fn39,F39.kp⟩,(T39.mono (by decide)).imp (fun vs H Q E h=>h),za⟩ | Joined=>exact ⟨f71,_,cls_Joined,⟨a71_Joined,fn71,F71.kp⟩,(T71_Joined.mono (by decide)).imp (fun vs H Q E h=>by obtain ⟨r,p,f,ws,cs,xs,n,m,h,w,g,e,x,y⟩:=h; exact ⟨r,p,f,ws,cs,xs,n,m,h,w,g,e,⟨rfl,x.ex⟩,y⟩),bd71⟩ | NoSquare=>exact ⟨f66,_,cls_NoSquare,⟨a66_NoSquare,fn66,F66.kp⟩,(T66.mono (by decide)).imp (fun vs H Q E h=>h),bd66⟩ | Ring=>exact ⟨f72,_,cls_Ring,⟨a72_Ring,fn72,F72.kp⟩,(T72_Ring.mono (by decide)).imp (fun vs H Q E h=>by obtain ⟨r,p,f,ws,cs,xs,n,m,h,w,g,e,x,y⟩:=h; exact ⟨r,p,f,ws,cs,xs,n,m,h,w,g,e,⟨rfl,x.ex⟩,y⟩),bd72⟩⟩
 have Ei:Cal l.prog w K mg base _ _ _ (dg K c):=bx (uw (c:=c) B Er Cf Fh Dq G_WITH_NUMBER G_WITH_SIGN F73) F73 (PySem.W.mg_of X G a73)
 have De:Cal l.prog w K mg base _ _ _ (b2 K c):=ui (qi (c:=c) B CN Bz Bw Bp Hm Cw BH Eh GV F74) F74 (PySem.W.mg_of X G a74)
 have DZ:Cal l.prog w K mg base _ _ _ (cE K c):=bx (si (c:=c) B Ei DY F75) F75 (PySem.W.mg_of X G a75)
 have BK:Cal l.prog w K mg base _ _ _ (be K c d):=jM (mq (c:=c) (d:=d) B CS Dr De Bx F76) F76 (PySem.W.mg_of X G a76)
 have bd77:Binds K fd77 ["self","floor","lines","clues"] []:=zj F77
 have T77:FnOk l.prog w K mg base CX0 7 f77 fd77 _ (bb K c d):=no (c:=c) (d:=d) B CT CU DZ FK_d_floor FK_d_given FK_d_laws F77
 have Gi:KCal l.prog w K mg base _ "Puzzle" (d.A .Puzzle) _ (bb K c d):=⟨f77,_,⟨ES,Ey,fn77,ET⟩,T77,PySem.W.mg_of X G Gp,bd77⟩
 have Fi:Cal l.prog w K mg base _ _ _ (dk K c d):=jM (wO (c:=c) (d:=d) B Ci BK G_LINE_KINDS G_NUMBER_KINDS F78) F78 (PySem.W.mg_of X G a78)
 have Dp:Cal l.prog w K mg base _ _ _ (bV K c d):=jM (wP (c:=c) (d:=d) B Ej Fi F79) F79 (PySem.W.mg_of X G a79)
 have Do:Cal l.prog w K mg base _ _ _ (bM K c d):=wE (ux (c:=c) (d:=d) B Dp Es F80) F80 (PySem.W.mg_of X G a80)
 exact (AS (c:=c) (d:=d) B Bq B9 Do Et Gi F81).imp fun vs H Q E h=>by obtain ⟨a,ns,e,hS,hn,k⟩:=h; exact ⟨a,ns,e,hS,hn,fun k hk=>by cases k <;> first | rfl | exact absurd rfl hk,rfl,k⟩
theorem walk {l:PySem.W.OpenLaw} {q:Program} {loose:List Str} {XP:(Str→Option Value)→Heap→Prop} {YP:World→Heap→Prop} {d:DefRec} {K:Params→PySem.W.Frag} (hn:l.most=some 63) (hdf:d.params.defaults=[])
  (hY:∀ (w:World) (h:Heap),YP w h→(K w.params).In h)
  (F:∀ (w:World) (mg:Str→Option Value) (fa:Addr) (h:Heap),(K w.params).In h→h.Ns mainGlobals mg→mg d.name=some (.ref fa)→
   ∃ fd:FuncData,(∀ (s:Shared) (u:Value),BindsTo s fd ⟨[u],[]⟩ [("_law_script",u)])∧∀ base:Heap,(K w.params).In base→base.Ns mainGlobals mg→FnOk l.prog w (K w.params) mg base CX0 11 fa fd ["_law_script"] (qJ (K w.params))):
  PySem.W.WalkO q loose XP YP l.row.toRowW d [] (fun f vs=>PySem.call f vs):=
 L2.zx (n:=63) (k:=11) (x:="_law_script") (CX:=fun _=>CX0) (sp:=fun w=>qJ (K w.params)) hn (by decide) hdf ⟨rfl,by decide,by decide⟩ hY F (fun _ _ a ns hl _ hS=>⟨a,ns,rfl,hS,hl,fun _=>rfl⟩) fun _ _ _ _ _ z=>z
end L2
open PySem PySem.W PyProof.Rows
set_option maxRecDepth 100000 in
def PySem.W.Fast.tw15779010405048500884:Unit:=()
def PySem.W.Fast.tw9902375332925811993:Unit:=()
def PySem.W.Fast.tw18002517870633551180:Unit:=()
def PySem.W.Fast.tw4695649161763754398:Unit:=()
def PySem.W.Fast.tw10636255580498859488:Unit:=()
def PySem.W.Fast.tw5521077207549312405:Unit:=()
def PySem.W.Fast.tw16861151028910707662:Unit:=()
def PySem.W.Fast.tw6341927574892781204:Unit:=()
def PySem.W.Fast.tw2878831360750841446:Unit:=()
def PySem.W.Fast.tw16598648899845834897:Unit:=()
def PySem.W.Fast.tw86197979874715387:Unit:=()
def PySem.W.Fast.tw3451936878433334826:Unit:=()
def PySem.W.Fast.tw9212394055398318995:Unit:=()
def PySem.W.Fast.tw13153862445130884815:Unit:=()
def PySem.W.Fast.tw7063420442166036715:Unit:=()
def PySem.W.Fast.tw3892826631638971293:Unit:=()
def PySem.W.Fast.tw1124895233040577280:Unit:=()
def PySem.W.Fast.tw17712406386865673529:Unit:=()
def PySem.W.Fast.tw10965430562296511723:Unit:=()
def PySem.W.Fast.tw15924570256283659407:Unit:=()
def PySem.W.Fast.tw1212833981055438603:Unit:=()
def PySem.W.Fast.tw14284475556672165340:Unit:=()
def PySem.W.Fast.tw4270639417912259902:Unit:=()
def PySem.W.Fast.tw13715094793950849997:Unit:=()
def PySem.W.Fast.tw17661366931906451918:Unit:=()
def PySem.W.Fast.tw8589438607701824156:Unit:=()
def PySem.W.Fast.tw13920003700888292442:Unit:=()
def PySem.W.Fast.tw15974069299916254760:Unit:=()
def PySem.W.Fast.tw8180363888955157909:Unit:=()
def PySem.W.Fast.tw8236985288599707476:Unit:=()
def PySem.W.Fast.tw1523496375650292282:Unit:=()
def PySem.W.Fast.tw3349566116767836164:Unit:=()
def PySem.W.Fast.tw8117809555230714846:Unit:=()
def PySem.W.Fast.tw13730399453365986006:Unit:=()
def PySem.W.Fast.tw3644550738444116550:Unit:=()
def PySem.W.Fast.tw4549002956282976892:Unit:=()
def PySem.W.Fast.tw13812963735551064489:Unit:=()
def PySem.W.Fast.tw4489010201616120550:Unit:=()
def PySem.W.Fast.tw8468565521772772902:Unit:=()
def PySem.W.Fast.tw12728468372835333152:Unit:=()
def PySem.W.Fast.tw15509736281244736858:Unit:=()
def PySem.W.Fast.tw6228960020772701916:Unit:=()
def PySem.W.Fast.tw2656525819500723528:Unit:=()
def PySem.W.Fast.tw8426806790949154365:Unit:=()
def PySem.W.Fast.tw10404136295301172611:Unit:=()
def PySem.W.Fast.tw3688942232182447359:Unit:=()
def PySem.W.Fast.tw10993835491878692040:Unit:=()
def PySem.W.Fast.tw14907492327385059098:Unit:=()
def PySem.W.Fast.tw2371609905342978169:Unit:=()
def PySem.W.Fast.tw1044302613518956881:Unit:=()
def PySem.W.Fast.tw1852498932608947469:Unit:=()
def PySem.W.Fast.tw5983269747885690161:Unit:=()
def PySem.W.Fast.tw11854785676596806883:Unit:=()
def PySem.W.Fast.tw16242950795725360476:Unit:=()
def PySem.W.Fast.tw7222289065676154988:Unit:=()
def PySem.W.Fast.tw13932411256963263367:Unit:=()
def PySem.W.Fast.tw18300482365358055853:Unit:=()
def PySem.W.Fast.tw14607012415240402384:Unit:=()
def PySem.W.Fast.tw2893276222015749057:Unit:=()
def PySem.W.Fast.tw1597014916883712281:Unit:=()
def PySem.W.Fast.tw12292219893151730630:Unit:=()
def PySem.W.Fast.tw17509791088326564904:Unit:=()
def PySem.W.Fast.tw14543512402414783168:Unit:=()
def PySem.W.Fast.tw4081353824713035839:Unit:=()
def PySem.W.Fast.tw12444040535040296426:Unit:=()
def PySem.W.Fast.tw11384051413742476376:Unit:=()
def PySem.W.Fast.tw12547763834782891705:Unit:=()
def PySem.W.Fast.tw4154543298532972165:Unit:=()
def PySem.W.Fast.tw17235487948774662249:Unit:=()
def PySem.W.Fast.tw13747903919495048503:Unit:=()
def PySem.W.Fast.tw3204739928365424201:Unit:=()
def PySem.W.Fast.tw890767883214799320:Unit:=()
def PySem.W.Fast.tw5443878896156140446:Unit:=()
def PySem.W.Fast.tw10050050466754524192:Unit:=()
def PySem.W.Fast.tw10834224576003004339:Unit:=()
def PySem.W.Fast.tw5321054962353511660:Unit:=()
def PySem.W.Fast.tw133648965239763357:Unit:=()
def PySem.W.Fast.tw1509415833312610675:Unit:=()
def PySem.W.Fast.tw14439836511805872219:Unit:=()
def PySem.W.Fast.tw11163348628917833155:Unit:=()
def PySem.W.Fast.tw4202232720997573007:Unit:=()
def PySem.W.Fast.tw2142362099833732580:Unit:=()
def PySem.W.Fast.tw10410924562935055891:Unit:=()
def PySem.W.Fast.tw5900288289085988050:Unit:=()
def PySem.W.Fast.tw4082657610327651023:Unit:=()
def PySem.W.Fast.tw998214772090765890:Unit:=()
def PySem.W.Fast.tw7265254172061254281:Unit:=()
def PySem.W.Fast.tw8790639900753119188:Unit:=()
def PySem.W.Fast.tw11737016745787728531:Unit:=()
def PySem.W.Fast.tw18341817640887854275:Unit:=()
def PySem.W.Fast.tw17864703642545501880:Unit:=()
def PySem.W.Fast.tw16824276352742727456:Unit:=()
def PySem.W.Fast.tw2097460241387424527:Unit:=()
def PySem.W.Fast.tw2384506088486353463:Unit:=()
def PySem.W.Fast.tw9245657472263409445:Unit:=()
def PySem.W.Fast.tw3831009370972003921:Unit:=()
def PySem.W.Fast.tw15324012262399652074:Unit:=()
def PySem.W.Fast.tw13060944346993616884:Unit:=()
def PySem.W.Fast.tw14592739503906535726:Unit:=()
def PySem.W.Fast.tw17387860130716339512:Unit:=()
def PySem.W.Fast.tw8275035186722026911:Unit:=()
def PySem.W.Fast.tw1082663205505618177:Unit:=()
def PySem.W.Fast.tw15636091695907455704:Unit:=()
def PySem.W.Fast.tw7620174777178317972:Unit:=()
def PySem.W.Fast.tw12740593688541651144:Unit:=()
def PySem.W.Fast.tw10494262561251976783:Unit:=()
def PySem.W.Fast.tw9966989773018561005:Unit:=()
def PySem.W.Fast.tw10723903656413867113:Unit:=()
def PySem.W.Fast.tw9211234952066128252:Unit:=()
def PySem.W.Fast.tw14641993096239257145:Unit:=()
def PySem.W.Fast.tw11689823776440450742:Unit:=()
def PySem.W.Fast.tw3397576223322158021:Unit:=()
def PySem.W.Fast.tw8999058683123321907:Unit:=()
def PySem.W.Fast.tw14017801574584530868:Unit:=()
def PySem.W.Fast.tw18149797915531838845:Unit:=()
def PySem.W.Fast.tw2567712502048430340:Unit:=()
def PySem.W.Fast.tw12097768303183834273:Unit:=()
def PySem.W.Fast.tw4164268717640304258:Unit:=()
def PySem.W.Fast.tw6286436711606572311:Unit:=()
def PySem.W.Fast.tw5546558135860929812:Unit:=()
def PySem.W.Fast.tw10633989790431169011:Unit:=()
def PySem.W.Fast.tw5318944225780839694:Unit:=()
def PySem.W.Fast.tw10228656283022580834:Unit:=()
def PySem.W.Fast.tw1142595522094047794:Unit:=()
def PySem.W.Fast.tw7462192616755636928:Unit:=()
def PySem.W.Fast.tw5850804037628867721:Unit:=()
def PySem.W.Fast.tw680044574955487821:Unit:=()
def PySem.W.Fast.tw3633379098633984390:Unit:=()
def PySem.W.Fast.tw3690848128728635760:Unit:=()
def PySem.W.Fast.tw10894300197467369573:Unit:=()
def PySem.W.Fast.tw10637226301149126164:Unit:=()
def PySem.W.Fast.tw7174675890240268244:Unit:=()
def PySem.W.Fast.tw1541300906036794531:Unit:=()
def PySem.W.Fast.tw7708202595825320797:Unit:=()
def PySem.W.Fast.tw568855379484373927:Unit:=()
def PySem.W.Fast.tw15106417691498787268:Unit:=()
def PySem.W.Fast.tw6073278898397748493:Unit:=()
def PySem.W.Fast.tw1065744665099574786:Unit:=()
def PySem.W.Fast.tw16103149231786401077:Unit:=()
def PySem.W.Fast.tw3080220225483701104:Unit:=()
def PySem.W.Fast.tw10226624253738028005:Unit:=()
def PySem.W.Fast.tw10325470595288291676:Unit:=()
def PySem.W.Fast.tw664789030251574773:Unit:=()
def PySem.W.Fast.tw14394613598585010688:Unit:=()
def PySem.W.Fast.tw11735147851046567630:Unit:=()
def PySem.W.Fast.tw4432141980988864580:Unit:=()
def PySem.W.Fast.tw16877501801250289613:Unit:=()
def PySem.W.Fast.tw5080617891114799252:Unit:=()
def PySem.W.Fast.tw11829499610622696983:Unit:=()
def PySem.W.Fast.tw4413915662750008176:Unit:=()
def PySem.W.Fast.tw16496392713534227328:Unit:=()
def PySem.W.Fast.tw6659125781901968714:Unit:=()
def PySem.W.Fast.tw1436368037606012260:Unit:=()
def PySem.W.Fast.tw9239632403704706663:Unit:=()
def PySem.W.Fast.tw876793731677202767:Unit:=()
def PySem.W.Fast.tw16966824204717310772:Unit:=()
def PySem.W.Fast.tw12891789503189460130:Unit:=()
def PySem.W.Fast.tw1840595964371467257:Unit:=()
def PySem.W.Fast.tw2595324800610380585:Unit:=()
def PySem.W.Fast.tw17353514160930309405:Unit:=()
def PySem.W.Fast.tw3870962339996203957:Unit:=()
def PySem.W.Fast.tw2270907812706333413:Unit:=()
def PySem.W.Fast.tw2057829007738618969:Unit:=()
def PySem.W.Fast.tw13420818746271345063:Unit:=()
def PySem.W.Fast.tw10080210538222494404:Unit:=()
def PySem.W.Fast.tw15056114736485573014:Unit:=()
def PySem.W.Fast.tw15432964508879764602:Unit:=()
def PySem.W.Fast.tw15645601096254885387:Unit:=()
def PySem.W.Fast.tw1910543273615299291:Unit:=()
def PySem.W.Fast.tw12381619446020035216:Unit:=()
def PySem.W.Fast.tw11037346819092881794:Unit:=()
def PySem.W.Fast.tw878779927527749431:Unit:=()
def PySem.W.Fast.tw16914461530484158224:Unit:=()
def PySem.W.Fast.tw5586884757898140905:Unit:=()
def PySem.W.Fast.tw5242990705394596496:Unit:=()
def PySem.W.Fast.tw1992806847449814101:Unit:=()
def PySem.W.Fast.tw9557624649762184010:Unit:=()
def PySem.W.Fast.tw15109126083402251518:Unit:=()
def PySem.W.Fast.tw13062342726990530030:Unit:=()
def PySem.W.Fast.tw7899739022222625240:Unit:=()
def PySem.W.Fast.tw10450687086460591184:Unit:=()
def PySem.W.Fast.tw5783761152561455224:Unit:=()
def PySem.W.Fast.tw12780370614971276499:Unit:=()
def PySem.W.Fast.tw1020467645475349340:Unit:=()
def PySem.W.Fast.tw3936890032289638900:Unit:=()
def PySem.W.Fast.tw13352416098212668821:Unit:=()
def PySem.W.Fast.tw9073634662334120783:Unit:=()
def PySem.W.Fast.tw3693955110731042774:Unit:=()
def PySem.W.Fast.tw17406852956226956113:Unit:=()
def PySem.W.Fast.tw11289847855644581786:Unit:=()
def PySem.W.Fast.tw4604126624939017561:Unit:=()
def PySem.W.Fast.tw4352957231561389652:Unit:=()
def PySem.W.Fast.tw13563251716177344784:Unit:=()
def PySem.W.Fast.tw17355883326886902284:Unit:=()
def PySem.W.Fast.tw6415875004555705895:Unit:=()
def PySem.W.Fast.tw1613039798302923593:Unit:=()
def PySem.W.Fast.tw9047930899399153104:Unit:=()
def PySem.W.Fast.tw17625365664848812498:Unit:=()
def PySem.W.Fast.tw3933076997083281985:Unit:=()
def PySem.W.Fast.tw10070241011371960168:Unit:=()
def PySem.W.Fast.tw18160799940431040041:Unit:=()
def PySem.W.Fast.tw16438878517326184894:Unit:=()
def PySem.W.Fast.tw856894988125419023:Unit:=()
def PySem.W.Fast.tw15282088454975477901:Unit:=()
def PySem.W.Fast.tw13268633805835310244:Unit:=()
def PySem.W.Fast.tw12886462814762435298:Unit:=()
def PySem.W.Fast.tw12021287363003940194:Unit:=()
def PySem.W.Fast.tw12656534535985782848:Unit:=()
def PySem.W.Fast.tw15792843667041393252:Unit:=()
def PySem.W.Fast.tw4683081567801336283:Unit:=()
def PySem.W.Fast.tw8925135328958666322:Unit:=()
def PySem.W.Fast.tw6058092825132476828:Unit:=()
def PySem.W.Fast.tw4179144986868401834:Unit:=()
def PySem.W.Fast.tw5866466137026889585:Unit:=()
def PySem.W.Fast.tw14427774587000542586:Unit:=()
def PySem.W.Fast.tw13643366041410015489:Unit:=()
def PySem.W.Fast.tw13277781526364921888:Unit:=()
def PySem.W.Fast.tw14610775194682251709:Unit:=()
def PySem.W.Fast.tw10122116011972452463:Unit:=()
def PySem.W.Fast.tw7762158707345428442:Unit:=()
def PySem.W.Fast.tw5616749199685974048:Unit:=()
def PySem.W.Fast.tw12216259400798454020:Unit:=()
def PySem.W.Fast.tw12913117807469828020:Unit:=()
def PySem.W.Fast.tw9987622345445695029:Unit:=()
def PySem.W.Fast.tw8332285314762019790:Unit:=()
def PySem.W.Fast.tw1857810692358564599:Unit:=()
def PySem.W.Fast.tw17179177982469061777:Unit:=()
def PySem.W.Fast.tw16566201615052020906:Unit:=()
def PySem.W.Fast.tw17655437816798262011:Unit:=()
def PySem.W.Fast.tw9300708080276272009:Unit:=()
def PySem.W.Fast.tw15615303420867275522:Unit:=()
def PySem.W.Fast.tw6274241417203997596:Unit:=()
def PySem.W.Fast.tw4525093055846470019:Unit:=()
def PySem.W.Fast.tw13861732089353219596:Unit:=()
def PySem.W.Fast.tw16700346750338894150:Unit:=()
def PySem.W.Fast.tw12801214515404512155:Unit:=()
def PySem.W.Fast.tw18379293111503125866:Unit:=()
def PySem.W.Fast.tw1314937853202969595:Unit:=()
def PySem.W.Fast.tw12099693226028806247:Unit:=()
def PySem.W.Fast.tw8561463684183598931:Unit:=()
def PySem.W.Fast.tw16192310193852865873:Unit:=()
def PySem.W.Fast.tw17655486056590751672:Unit:=()
def PySem.W.Fast.tw11391660117569569043:Unit:=()
def PySem.W.Fast.tw3723955920003068809:Unit:=()
def PySem.W.Fast.tw16929297642657169960:Unit:=()
def PySem.W.Fast.tw4243704198719154094:Unit:=()
def PySem.W.Fast.tw5039710869830247393:Unit:=()
def PySem.W.Fast.tw7672881339048636514:Unit:=()
def PySem.W.Fast.tw206813666465375534:Unit:=()
def PySem.W.Fast.tw3018340300499833844:Unit:=()
def PySem.W.Fast.tw9976092888183934185:Unit:=()
def PySem.W.Fast.tw10216391982499078522:Unit:=()
def PySem.W.Fast.tw1130670233270325373:Unit:=()
def PySem.W.Fast.tw1817502924236385258:Unit:=()
def PySem.W.Fast.tw2522911018391015295:Unit:=()
def PySem.W.Fast.tw2648844935936755371:Unit:=()
def PySem.W.Fast.tw15565366964765358737:Unit:=()
def PySem.W.Fast.tw389603812546900609:Unit:=()
def PySem.W.Fast.tw9394801304979088075:Unit:=()
def PySem.W.Fast.tw7305798077596113849:Unit:=()
def PySem.W.Fast.tw7933875677489375588:Unit:=()
def PySem.W.Fast.tw46104966631093038:Unit:=()
def PySem.W.Fast.tw1020230217954967962:Unit:=()
def PySem.W.Fast.tw10703179813177872717:Unit:=()
def PySem.W.Fast.tw15596048254570282906:Unit:=()
def PySem.W.Fast.tw7744038905283360824:Unit:=()
def PySem.W.Fast.tw5217585094922164439:Unit:=()
def PySem.W.Fast.tw14032235626996041763:Unit:=()
def PySem.W.Fast.tw9140549026600322461:Unit:=()
def PySem.W.Fast.tw7126224188057667957:Unit:=()
def PySem.W.Fast.tw13929982899097465701:Unit:=()
def PySem.W.Fast.tw7828329308219448421:Unit:=()
def PySem.W.Fast.tw4446510986478275652:Unit:=()
def PySem.W.Fast.tw14753357700949358900:Unit:=()
def PySem.W.Fast.tw5951286015711861973:Unit:=()
set_option maxHeartbeats 0 in
theorem PySem.Challenge.cw_cluemaker_k39_whole_less_stands_more_is_holds : PySem.Challenge.rw_cluemaker_k39_whole_less_stands_more_is.Holds := by
  w_on; o_law; k_head; (case hw => w_witness2)
  k_fill
  refine L2.walk (l := PySem.Challenge.rw_cluemaker_k39_whole_less_stands_more_is) rfl rfl (fun w h Y => PySem.W.kIn_of Y) ?F
  case F =>
    intro w mg fa h KX G hmg
    refine' L2.AT KX G hmg ?Gm ?q_Sum ?Gn ?Hv ?G2 ?Go ?Eu ?Hw ?Gp ?a0 ?a1 ?a2 ?a3 ?a4 ?a5 ?a6 ?a7 ?a8 ?a9 ?Ev ?G3 ?Ew ?Gq ?FB ?Ex ?D1 ?Gr ?a11_Unlike ?a11_Sum ?a11_Rising ?a11_Seen ?a11_Count ?a11_Joined ?a11_NoSquare ?a11_Ring ?a12_Unlike ?a12_Sum ?a12_Rising ?a12_Seen ?a12_Count ?a12_Joined ?a12_NoSquare ?a12_Ring ?a13_Unlike ?a13_Sum ?a13_Rising ?a13_Seen ?a13_Count ?a13_Joined ?a13_NoSquare ?a13_Ring ?a14_Unlike ?a14_Sum ?a14_Rising ?a14_Seen ?a14_Count ?a14_Joined ?a14_NoSquare ?a14_Ring ?a15_Unlike ?a15_Sum ?a15_Rising ?a15_Seen ?a15_Count ?a15_Joined ?a15_NoSquare ?a15_Ring ?a16_Unlike ?a16_Sum ?a16_Rising ?a16_Seen ?a16_Count ?a16_Joined ?a16_NoSquare ?a16_Ring ?a17 ?a18_Puzzle ?a19_Puzzle ?a20_Puzzle ?a21 ?a22 ?a23 ?a24 ?a25 ?a26 ?a27 ?a28 ?a29 ?a30 ?a31 ?a32 ?a33 ?a34 ?a35_Unlike ?a36_Sum ?a37_Rising ?a38_Seen ?a39_Count ?a40 ?a41 ?a42 ?a43 ?a44 ?a45 ?a46 ?a47 ?a48 ?a49 ?a50 ?a51 ?a52 ?a53 ?a54 ?a55 ?a56_Ring ?a57 ?a58 ?a59 ?a60 ?a61 ?a62 ?a63 ?a64 ?a65_Joined ?a65_Ring ?a66_NoSquare ?a67 ?a68 ?a69 ?a70 ?a71_Joined ?a72_Ring ?a73 ?a74 ?a75 ?a76 ?Ey ?a78 ?a79 ?a80 ?a81 ?F0 ?F1 ?F2 ?F3 ?F4 ?F5 ?F6 ?F7 ?F8 ?F9 ?F10 ?fn10 ?F11 ?fn11 ?F12 ?fn12 ?F13 ?fn13 ?F14 ?fn14 ?F15 ?fn15 ?F16 ?fn16 ?F17 ?F18 ?fn18 ?F19 ?fn19 ?F20 ?fn20 ?F21 ?F22 ?F23 ?F24 ?F25 ?F26 ?F27 ?F28 ?F29 ?F30 ?F31 ?F32 ?F33 ?F34 ?F35 ?fn35 ?F36 ?fn36 ?F37 ?fn37 ?F38 ?fn38 ?F39 ?fn39 ?F40 ?F41 ?F42 ?F43 ?F44 ?F45 ?F46 ?F47 ?F48 ?F49 ?F50 ?F51 ?F52 ?F53 ?F54 ?F55 ?F56 ?fn56 ?F57 ?F58 ?F59 ?F60 ?F61 ?F62 ?F63 ?F64 ?F65 ?fn65 ?F66 ?fn66 ?F67 ?F68 ?F69 ?F70 ?F71 ?fn71 ?F72 ?fn72 ?F73 ?F74 ?F75 ?F76 ?F77 ?fn77 ?F78 ?F79 ?F80 ?F81 ?Ez ?EA ?EB ?EC ?ED ?EE ?G4 ?G5 ?G6 ?G7 ?G8 ?G9 ?EF ?EG ?EH ?EI ?EJ ?EK ?Gs ?Gu ?Gv ?Gw ?Gx ?Gy ?FC ?FD ?FE ?FF ?FG ?FH ?EL ?EM ?EN ?EO ?EQ ?ER ?D2 ?D3 ?D4 ?D5 ?D6 ?D7 ?Gz ?GA ?GB ?GC ?GD ?GE ?ES ?ET ?EU ?EV ?EW ?EX ?Ca ?CY ?Cb ?Cz ?Cj ?Cc ?BF ?CA ?Ck ?Dg ?Cm ?CZ ?CB ?BC ?BL ?B6 ?Cn ?Dh ?Co ?C0 ?CC ?BD ?BM ?B7 ?CD ?Dt ?CF ?Di ?C2 ?BG ?Cd ?Cg ?Cp ?Dj ?Cq ?C4 ?CG ?Cr ?BN ?C5 ?Cs ?Ct ?CH ?FI ?FJ ?Dk ?Dl ?CI ?CJ ?CK ?CL ?C6 ?C7 ?Du ?Dv ?Cu ?Cv ?BO ?BP ?BQ ?BR ?BS ?BT ?BU ?BV ?BW ?BX ?BY ?BZ ?B0 ?B1 ?B2 ?B3 ?B4 ?B5 ?EY ?Dw ?C8 ?Dm ?Dx ?D8 ?Dy ?D9 ?z_len ?z_abs ?z_min ?z_max ?z_sorted ?z_any ?z_isinstance ?z_list ?z_int ?z_bool ?z_str ?z_tuple ?z_reversed ?z_set ?z_range ?z_zip ?z_all ?z_sum ?z_enumerate
    (case Gm => k_is)
    (case q_Sum => k_is)
    (case Gn => k_is)
    (case Hv => k_is)
    (case G2 => k_is)
    (case Go => k_is)
    (case Eu => k_is)
    (case Hw => k_is)
    (case Gp => k_is)
    (case a0 => k_is)
    (case a1 => k_is)
    (case a2 => k_is)
    (case a3 => k_is)
    (case a4 => k_is)
    (case a5 => k_is)
    (case a6 => k_is)
    (case a7 => k_is)
    (case a8 => k_is)
    (case a9 => k_is)
    (case Ev => k_is)
    (case G3 => k_is)
    (case Ew => k_is)
    (case Gq => k_is)
    (case FB => k_is)
    (case Ex => k_is)
    (case D1 => k_is)
    (case Gr => k_is)
    (case a11_Unlike => k_is)
    (case a11_Sum => k_is)
    (case a11_Rising => k_is)
    (case a11_Seen => k_is)
    (case a11_Count => k_is)
    (case a11_Joined => k_is)
    (case a11_NoSquare => k_is)
    (case a11_Ring => k_is)
    (case a12_Unlike => k_is)
    (case a12_Sum => k_is)
    (case a12_Rising => k_is)
    (case a12_Seen => k_is)
    (case a12_Count => k_is)
    (case a12_Joined => k_is)
    (case a12_NoSquare => k_is)
    (case a12_Ring => k_is)
    (case a13_Unlike => k_is)
    (case a13_Sum => k_is)
    (case a13_Rising => k_is)
    (case a13_Seen => k_is)
    (case a13_Count => k_is)
    (case a13_Joined => k_is)
    (case a13_NoSquare => k_is)
    (case a13_Ring => k_is)
    (case a14_Unlike => k_is)
    (case a14_Sum => k_is)
    (case a14_Rising => k_is)
    (case a14_Seen => k_is)
    (case a14_Count => k_is)
    (case a14_Joined => k_is)
    (case a14_NoSquare => k_is)
    (case a14_Ring => k_is)
    (case a15_Unlike => k_is)
    (case a15_Sum => k_is)
    (case a15_Rising => k_is)
    (case a15_Seen => k_is)
    (case a15_Count => k_is)
    (case a15_Joined => k_is)
    (case a15_NoSquare => k_is)
    (case a15_Ring => k_is)
    (case a16_Unlike => k_is)
    (case a16_Sum => k_is)
    (case a16_Rising => k_is)
    (case a16_Seen => k_is)
    (case a16_Count => k_is)
    (case a16_Joined => k_is)
    (case a16_NoSquare => k_is)
    (case a16_Ring => k_is)
    (case a17 => k_is)
    (case a18_Puzzle => k_is)
    (case a19_Puzzle => k_is)
    (case a20_Puzzle => k_is)
    (case a21 => k_is)
    (case a22 => k_is)
    (case a23 => k_is)
    (case a24 => k_is)
    (case a25 => k_is)
    (case a26 => k_is)
    (case a27 => k_is)
    (case a28 => k_is)
    (case a29 => k_is)
    (case a30 => k_is)
    (case a31 => k_is)
    (case a32 => k_is)
    (case a33 => k_is)
    (case a34 => k_is)
    (case a35_Unlike => k_is)
    (case a36_Sum => k_is)
    (case a37_Rising => k_is)
    (case a38_Seen => k_is)
    (case a39_Count => k_is)
    (case a40 => k_is)
    (case a41 => k_is)
    (case a42 => k_is)
    (case a43 => k_is)
    (case a44 => k_is)
    (case a45 => k_is)
    (case a46 => k_is)
    (case a47 => k_is)
    (case a48 => k_is)
    (case a49 => k_is)
    (case a50 => k_is)
    (case a51 => k_is)
    (case a52 => k_is)
    (case a53 => k_is)
    (case a54 => k_is)
    (case a55 => k_is)
    (case a56_Ring => k_is)
    (case a57 => k_is)
    (case a58 => k_is)
    (case a59 => k_is)
    (case a60 => k_is)
    (case a61 => k_is)
    (case a62 => k_is)
    (case a63 => k_is)
    (case a64 => k_is)
    (case a65_Joined => k_is)
    (case a65_Ring => k_is)
    (case a66_NoSquare => k_is)
    (case a67 => k_is)
    (case a68 => k_is)
    (case a69 => k_is)
    (case a70 => k_is)
    (case a71_Joined => k_is)
    (case a72_Ring => k_is)
    (case a73 => k_is)
    (case a74 => k_is)
    (case a75 => k_is)
    (case a76 => k_is)
    (case Ey => k_is)
    (case a78 => k_is)
    (case a79 => k_is)
    (case a80 => k_is)
    (case a81 => k_is)
    (case F0 => (refine' L2.aq ?l ?c ?k; (case l => k_is); (case c => k_is); case k => k_is))
    (case F1 => (refine' L2.aq ?l ?c ?k; (case l => k_is); (case c => k_is); case k => k_is))
    (case F2 => (refine' L2.aq ?l ?c ?k; (case l => k_is); (case c => k_is); case k => k_is))
    (case F3 => (refine' L2.aq ?l ?c ?k; (case l => k_is); (case c => k_is); case k => k_is))
    (case F4 => (refine' L2.aq ?l ?c ?k; (case l => k_is); (case c => k_is); case k => k_is))
    (case F5 => (refine' L2.aq ?l ?c ?k; (case l => k_is); (case c => k_is); case k => k_is))
    (case F6 => (refine' L2.aq ?l ?c ?k; (case l => k_is); (case c => k_is); case k => k_is))
    (case F7 => (refine' L2.aq ?l ?c ?k; (case l => k_is); (case c => k_is); case k => k_is))
    (case F8 => (refine' L2.aq ?l ?c ?k; (case l => k_is); (case c => k_is); case k => k_is))
    (case F9 => (refine' L2.aq ?l ?c ?k; (case l => k_is); (case c => k_is); case k => k_is))
    (case F10 => (refine' L2.aq ?l ?c ?k; (case l => k_is); (case c => k_is); case k => k_is))
    (case fn10 => k_is)
    (case F11 => (refine' L2.aq ?l ?c ?k; (case l => k_is); (case c => k_is); case k => k_is))
    (case fn11 => k_is)
    (case F12 => (refine' L2.aq ?l ?c ?k; (case l => k_is); (case c => k_is); case k => k_is))
    (case fn12 => k_is)
    (case F13 => (refine' L2.aq ?l ?c ?k; (case l => k_is); (case c => k_is); case k => k_is))
    (case fn13 => k_is)
    (case F14 => (refine' L2.aq ?l ?c ?k; (case l => k_is); (case c => k_is); case k => k_is))
    (case fn14 => k_is)
    (case F15 => (refine' L2.aq ?l ?c ?k; (case l => k_is); (case c => k_is); case k => k_is))
    (case fn15 => k_is)
    (case F16 => (refine' L2.aq ?l ?c ?k; (case l => k_is); (case c => k_is); case k => k_is))
    (case fn16 => k_is)
    (case F17 => (refine' L2.aq ?l ?c ?k; (case l => k_is); (case c => k_is); case k => k_is))
    (case F18 => (refine' L2.aq ?l ?c ?k; (case l => k_is); (case c => k_is); case k => k_is))
    (case fn18 => k_is)
    (case F19 => (refine' L2.aq ?l ?c ?k; (case l => k_is); (case c => k_is); case k => k_is))
    (case fn19 => k_is)
    (case F20 => (refine' L2.aq ?l ?c ?k; (case l => k_is); (case c => k_is); case k => k_is))
    (case fn20 => k_is)
    (case F21 => (refine' L2.aq ?l ?c ?k; (case l => k_is); (case c => k_is); case k => k_is))
    (case F22 => (refine' L2.aq ?l ?c ?k; (case l => k_is); (case c => k_is); case k => k_is))
    (case F23 => (refine' L2.aq ?l ?c ?k; (case l => k_is); (case c => k_is); case k => k_is))
    (case F24 => (refine' L2.aq ?l ?c ?k; (case l => k_is); (case c => k_is); case k => k_is))
    (case F25 => (refine' L2.aq ?l ?c ?k; (case l => k_is); (case c => k_is); case k => k_is))
    (case F26 => (refine' L2.aq ?l ?c ?k; (case l => k_is); (case c => k_is); case k => k_is))
    (case F27 => (refine' L2.aq ?l ?c ?k; (case l => k_is); (case c => k_is); case k => k_is))
    (case F28 => (refine' L2.aq ?l ?c ?k; (case l => k_is); (case c => k_is); case k => k_is))
    (case F29 => (refine' L2.aq ?l ?c ?k; (case l => k_is); (case c => k_is); case k => k_is))
    (case F30 => (refine' L2.aq ?l ?c ?k; (case l => k_is); (case c => k_is); case k => k_is))
    (case F31 => (refine' L2.aq ?l ?c ?k; (case l => k_is); (case c => k_is); case k => k_is))
    (case F32 => (refine' L2.aq ?l ?c ?k; (case l => k_is); (case c => k_is); case k => k_is))
    (case F33 => (refine' L2.aq ?l ?c ?k; (case l => k_is); (case c => k_is); case k => k_is))
    (case F34 => (refine' L2.aq ?l ?c ?k; (case l => k_is); (case c => k_is); case k => k_is))
    (case F35 => (refine' L2.aq ?l ?c ?k; (case l => k_is); (case c => k_is); case k => k_is))
    (case fn35 => k_is)
    (case F36 => (refine' L2.aq ?l ?c ?k; (case l => k_is); (case c => k_is); case k => k_is))
    (case fn36 => k_is)
    (case F37 => (refine' L2.aq ?l ?c ?k; (case l => k_is); (case c => k_is); case k => k_is))
    (case fn37 => k_is)
    (case F38 => (refine' L2.aq ?l ?c ?k; (case l => k_is); (case c => k_is); case k => k_is))
    (case fn38 => k_is)
    (case F39 => (refine' L2.aq ?l ?c ?k; (case l => k_is); (case c => k_is); case k => k_is))
    (case fn39 => k_is)
    (case F40 => (refine' L2.aq ?l ?c ?k; (case l => k_is); (case c => k_is); case k => k_is))
    (case F41 => (refine' L2.aq ?l ?c ?k; (case l => k_is); (case c => k_is); case k => k_is))
    (case F42 => (refine' L2.aq ?l ?c ?k; (case l => k_is); (case c => k_is); case k => k_is))
    (case F43 => (refine' L2.aq ?l ?c ?k; (case l => k_is); (case c => k_is); case k => k_is))
    (case F44 => (refine' L2.aq ?l ?c ?k; (case l => k_is); (case c => k_is); case k => k_is))
    (case F45 => (refine' L2.aq ?l ?c ?k; (case l => k_is); (case c => k_is); case k => k_is))
    (case F46 => (refine' L2.aq ?l ?c ?k; (case l => k_is); (case c => k_is); case k => k_is))
    (case F47 => (refine' L2.aq ?l ?c ?k; (case l => k_is); (case c => k_is); case k => k_is))
    (case F48 => (refine' L2.aq ?l ?c ?k; (case l => k_is); (case c => k_is); case k => k_is))
    (case F49 => (refine' L2.aq ?l ?c ?k; (case l => k_is); (case c => k_is); case k => k_is))
    (case F50 => (refine' L2.aq ?l ?c ?k; (case l => k_is); (case c => k_is); case k => k_is))
    (case F51 => (refine' L2.aq ?l ?c ?k; (case l => k_is); (case c => k_is); case k => k_is))
    (case F52 => (refine' L2.aq ?l ?c ?k; (case l => k_is); (case c => k_is); case k => k_is))
    (case F53 => (refine' L2.aq ?l ?c ?k; (case l => k_is); (case c => k_is); case k => k_is))
    (case F54 => (refine' L2.aq ?l ?c ?k; (case l => k_is); (case c => k_is); case k => k_is))
    (case F55 => (refine' L2.aq ?l ?c ?k; (case l => k_is); (case c => k_is); case k => k_is))
    (case F56 => (refine' L2.aq ?l ?c ?k; (case l => k_is); (case c => k_is); case k => k_is))
    (case fn56 => k_is)
    (case F57 => (refine' L2.aq ?l ?c ?k; (case l => k_is); (case c => k_is); case k => k_is))
    (case F58 => (refine' L2.aq ?l ?c ?k; (case l => k_is); (case c => k_is); case k => k_is))
    (case F59 => (refine' L2.aq ?l ?c ?k; (case l => k_is); (case c => k_is); case k => k_is))
    (case F60 => (refine' L2.aq ?l ?c ?k; (case l => k_is); (case c => k_is); case k => k_is))
    (case F61 => (refine' L2.aq ?l ?c ?k; (case l => k_is); (case c => k_is); case k => k_is))
    (case F62 => (refine' L2.aq ?l ?c ?k; (case l => k_is); (case c => k_is); case k => k_is))
    (case F63 => (refine' L2.aq ?l ?c ?k; (case l => k_is); (case c => k_is); case k => k_is))
    (case F64 => (refine' L2.aq ?l ?c ?k; (case l => k_is); (case c => k_is); case k => k_is))
    (case F65 => (refine' L2.aq ?l ?c ?k; (case l => k_is); (case c => k_is); case k => k_is))
    (case fn65 => k_is)
    (case F66 => (refine' L2.aq ?l ?c ?k; (case l => k_is); (case c => k_is); case k => k_is))
    (case fn66 => k_is)
    (case F67 => (refine' L2.aq ?l ?c ?k; (case l => k_is); (case c => k_is); case k => k_is))
    (case F68 => (refine' L2.aq ?l ?c ?k; (case l => k_is); (case c => k_is); case k => k_is))
    (case F69 => (refine' L2.aq ?l ?c ?k; (case l => k_is); (case c => k_is); case k => k_is))
    (case F70 => (refine' L2.aq ?l ?c ?k; (case l => k_is); (case c => k_is); case k => k_is))
    (case F71 => (refine' L2.aq ?l ?c ?k; (case l => k_is); (case c => k_is); case k => k_is))
    (case fn71 => k_is)
    (case F72 => (refine' L2.aq ?l ?c ?k; (case l => k_is); (case c => k_is); case k => k_is))
    (case fn72 => k_is)
    (case F73 => (refine' L2.aq ?l ?c ?k; (case l => k_is); (case c => k_is); case k => k_is))
    (case F74 => (refine' L2.aq ?l ?c ?k; (case l => k_is); (case c => k_is); case k => k_is))
    (case F75 => (refine' L2.aq ?l ?c ?k; (case l => k_is); (case c => k_is); case k => k_is))
    (case F76 => (refine' L2.aq ?l ?c ?k; (case l => k_is); (case c => k_is); case k => k_is))
    (case F77 => (refine' L2.aq ?l ?c ?k; (case l => k_is); (case c => k_is); case k => k_is))
    (case fn77 => k_is)
    (case F78 => (refine' L2.aq ?l ?c ?k; (case l => k_is); (case c => k_is); case k => k_is))
    (case F79 => (refine' L2.aq ?l ?c ?k; (case l => k_is); (case c => k_is); case k => k_is))
    (case F80 => (refine' L2.aq ?l ?c ?k; (case l => k_is); (case c => k_is); case k => k_is))
    (case F81 => (refine' L2.aq ?l ?c ?k; (case l => k_is); (case c => k_is); case k => k_is))
    (case Ez => k_is)
    (case EA => k_is)
    (case EB => k_is)
    (case EC => k_is)
    (case ED => k_is)
    (case EE => k_is)
    (case G4 => k_is)
    (case G5 => k_is)
    (case G6 => k_is)
    (case G7 => k_is)
    (case G8 => k_is)
    (case G9 => k_is)
    (case EF => k_is)
    (case EG => k_is)
    (case EH => k_is)
    (case EI => k_is)
    (case EJ => k_is)
    (case EK => k_is)
    (case Gs => k_is)
    (case Gu => k_is)
    (case Gv => k_is)
    (case Gw => k_is)
    (case Gx => k_is)
    (case Gy => k_is)
    (case FC => k_is)
    (case FD => k_is)
    (case FE => k_is)
    (case FF => k_is)
    (case FG => k_is)
    (case FH => k_is)
    (case EL => k_is)
    (case EM => k_is)
    (case EN => k_is)
    (case EO => k_is)
    (case EQ => k_is)
    (case ER => k_is)
    (case D2 => k_is)
    (case D3 => k_is)
    (case D4 => k_is)
    (case D5 => k_is)
    (case D6 => k_is)
    (case D7 => k_is)
    (case Gz => k_is)
    (case GA => k_is)
    (case GB => k_is)
    (case GC => k_is)
    (case GD => k_is)
    (case GE => k_is)
    (case ES => k_is)
    (case ET => k_is)
    (case EU => k_is)
    (case EV => k_is)
    (case EW => k_is)
    (case EX => k_is)
    (case Ca => k_is)
    (case CY => k_is)
    (case Cb => k_is)
    (case Cz => k_is)
    (case Cj => k_is)
    (case Cc => k_is)
    (case BF => k_is)
    (case CA => k_is)
    (case Ck => k_is)
    (case Dg => k_is)
    (case Cm => k_is)
    (case CZ => k_is)
    (case CB => k_is)
    (case BC => k_is)
    (case BL => k_is)
    (case B6 => k_is)
    (case Cn => k_is)
    (case Dh => k_is)
    (case Co => k_is)
    (case C0 => k_is)
    (case CC => k_is)
    (case BD => k_is)
    (case BM => k_is)
    (case B7 => k_is)
    (case CD => k_is)
    (case Dt => k_is)
    (case CF => k_is)
    (case Di => k_is)
    (case C2 => k_is)
    (case BG => k_is)
    (case Cd => k_is)
    (case Cg => k_is)
    (case Cp => k_is)
    (case Dj => k_is)
    (case Cq => k_is)
    (case C4 => k_is)
    (case CG => k_is)
    (case Cr => k_is)
    (case BN => k_is)
    (case C5 => k_is)
    (case Cs => k_is)
    (case Ct => k_is)
    (case CH => k_is)
    (case FI => k_is)
    (case FJ => k_is)
    (case Dk => k_is)
    (case Dl => k_is)
    (case CI => k_is)
    (case CJ => k_is)
    (case CK => k_is)
    (case CL => k_is)
    (case C6 => k_is)
    (case C7 => k_is)
    (case Du => k_is)
    (case Dv => k_is)
    (case Cu => k_is)
    (case Cv => k_is)
    (case BO => k_is)
    (case BP => first | exact rfl | with_unfolding_all rfl)
    (case BQ => k_is)
    (case BR => first | exact rfl | with_unfolding_all rfl)
    (case BS => k_is)
    (case BT => first | exact rfl | with_unfolding_all rfl)
    (case BU => k_is)
    (case BV => first | exact rfl | with_unfolding_all rfl)
    (case BW => k_is)
    (case BX => first | exact rfl | with_unfolding_all rfl)
    (case BY => k_is)
    (case BZ => first | exact rfl | with_unfolding_all rfl)
    (case B0 => k_is)
    (case B1 => first | exact rfl | with_unfolding_all rfl)
    (case B2 => k_is)
    (case B3 => first | exact rfl | with_unfolding_all rfl)
    (case B4 => k_is)
    (case B5 => first | exact rfl | with_unfolding_all rfl)
    (case EY => k_is)
    (case Dw => k_is)
    (case C8 => k_is)
    (case Dm => k_is)
    (case Dx => k_is)
    (case D8 => k_is)
    (case Dy => k_is)
    (case D9 => k_is)
    (case z_len => k_is)
    (case z_abs => k_is)
    (case z_min => k_is)
    (case z_max => k_is)
    (case z_sorted => k_is)
    (case z_any => k_is)
    (case z_isinstance => k_is)
    (case z_list => k_is)
    (case z_int => k_is)
    (case z_bool => k_is)
    (case z_str => k_is)
    (case z_tuple => k_is)
    (case z_reversed => k_is)
    (case z_set => k_is)
    (case z_range => k_is)
    (case z_zip => k_is)
    (case z_all => k_is)
    (case z_sum => k_is)
    (case z_enumerate => k_is)
