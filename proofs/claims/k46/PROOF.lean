import PyProof.Rows.All
import Wide.All
import OpenK.AllK
import Wide.FinOn
import Lean
import PyProof.EqAt
import PyProof.EqKinds
import PyProof.TupleCall
import PyProof.ZipIter
import PyProof.ConsumeS
import PyProof.StrCalls2
import PyProof.StrWalks
import PyProof.SliceStr2
import PyProof.StrBlock
import PyProof.StrBlockL
import PyProof.ListIndex
import PyProof.StrLawsTight
import PyProof.StrLawsChain
import PyProof.StrLaws
import PyProof.StrLawsFirst
import PyProof.StationsW
import PyProof.ExcClass3
import PyProof.NsDelKeeps
import PyProof.RulesAs
import PyProof.ExcBaseAll.ValueError
import PyProof.ExcArgsOwn
import PyProof.ExcAttrAll.ValueError
import KE.KTryMore
import KE.RegKTryMore
import KE.RegKIsAll
import PyProof.Rows.Range3
import PyProof.Rows.SumGenD
import PyProof.Rows.RuleM_int
import PyProof.EnumMake
import PyProof.EnumFor
import PyProof.EnumStmt
import PyProof.Rows.EnumRows
import KE.KRevIter
import PyProof.ListNew
import PyProof.CollectIter
import PyProof.ListRange
import PyProof.CallStr
import PyProof.StrBlock2
import PyProof.Rows.StrMadeLen
import PyProof.Rows.SetFrom
import PyProof.SetRoads
import PyProof.MeetsStr2
import KE.KRevSl
import PyProof.Conv_int
import PyProof.Rows.SeqMore
import PySem.Challenge.RW_cluemaker_k46_all_answers
set_option Elab.async false
set_option linter.all false
set_option maxRecDepth 100000
namespace L2
open PySem PySem.Spec PyProof.Rows
abbrev Key:=Sum Int Str
def keyIs:Key→Value→Bool
 | .inl k,v=>Value.isInt k v
 | .inr x,v=>Value.isStrOf x v
def keyH (w:World):Key→Int
 | .inl k=>hashInt k
 | .inr x=>hashStr w x
theorem bK:∀ {k:Key} {v:Value},keyIs k v=true→(∃ i t,k=Sum.inl i∧v=Value.int i t)∨(∃ x t,k=Sum.inr x∧v=Value.str x t)
 | .inl i,v,h=>by
  obtain ⟨t,e⟩:=Value.isInt_shape (k:=i) (v:=v) h
  exact .inl ⟨i,t,rfl,e⟩
 | .inr x,v,h=>by
  obtain ⟨t,e⟩:=Value.isStrOf_shape (x:=x) (v:=v) h
  exact .inr ⟨x,t,rfl,e⟩
theorem ue (i:Int) (t:Tok):keyIs (.inl i) (.int i t)=true:=by simp [keyIs,Value.isInt]
theorem uf (x:Str) (t:Tok):keyIs (.inr x) (.str x t)=true:=by simp [keyIs,Value.isStrOf]
theorem wM (a b:Int):decide ((Sum.inl a:Key)=Sum.inl b)=(a==b):=by
 by_cases e:a=b
 · subst e; simp
 · have h:¬ (Sum.inl a:Key)=Sum.inl b:=fun q=>e (Sum.inl.inj q)
   rw [decide_eq_false h]
   exact (beq_eq_false_iff_ne.mpr e).symm
theorem wN (a b:Str):decide ((Sum.inr a:Key)=Sum.inr b)=decide (a=b):=by
 by_cases e:a=b
 · subst e; simp
 · have h:¬ (Sum.inr a:Key)=Sum.inr b:=fun q=>e (Sum.inr.inj q)
   rw [decide_eq_false h,decide_eq_false e]
theorem wO (a:Int) (b:Str):decide ((Sum.inl a:Key)=Sum.inr b)=false:=decide_eq_false (fun q=>nomatch q)
theorem wP (a:Str) (b:Int):decide ((Sum.inr a:Key)=Sum.inl b)=false:=decide_eq_false (fun q=>nomatch q)
def dh (prog:Program) (w:World):PySem.KeyKind prog w Key where
 is:=keyIs
 hash:=keyH w
 inj:=fun v a b ha hb=>by
  rcases bK ha with ⟨i,t,rfl,rfl⟩ | ⟨x,t,rfl,rfl⟩
  · rcases bK hb with ⟨j,u,rfl,e⟩ | ⟨y,u,rfl,e⟩
    · injection e with e1 _; rw [e1]
    · exact nomatch e
  · rcases bK hb with ⟨j,u,rfl,e⟩ | ⟨y,u,rfl,e⟩
    · exact nomatch e
    · injection e with e1 _; rw [e1]
 byValue:=fun k v h=>by
  rcases bK h with ⟨i,t,rfl,rfl⟩ | ⟨x,t,rfl,rfl⟩ <;> rfl
 pyHash:=fun hv h=>by
  rcases bK hv with ⟨i,t,rfl,rfl⟩ | ⟨x,t,rfl,rfl⟩
  · exact wpAny_pyHash_int h
  · exact wpAny_pyHash_str h
 eqBool:=fun hu hv h=>by
  rcases bK hu with ⟨i,t,rfl,rfl⟩ | ⟨x,t,rfl,rfl⟩
  · rcases bK hv with ⟨j,u,rfl,rfl⟩ | ⟨y,u,rfl,rfl⟩
    · rw [wM] at h; exact wpAny_eqBool_int h
    · rw [wO] at h; exact SeqAt.EqAt.int_str i t y u _ _ _ _ h
  · rcases bK hv with ⟨j,u,rfl,rfl⟩ | ⟨y,u,rfl,rfl⟩
    · rw [wP] at h; exact SeqAt.EqAt.str_int x t j u _ _ _ _ h
    · rw [wN] at h; exact wpAny_eqBool_str h
 «strs»:=fun k x t v h=>by
  rcases bK h with ⟨i,u,rfl,e⟩ | ⟨y,u,rfl,e⟩
  · exact nomatch e
  · injection e with e1 _
    subst e1
    cases v <;> rfl
theorem rY (prog:Program) (w:World) (i:Int) (t:Tok):(dh prog w).is (.inl i) (.int i t)=true:=ue i t
theorem rZ (prog:Program) (w:World) (x:Str) (t:Tok):(dh prog w).is (.inr x) (.str x t)=true:=uf x t
end L2
namespace L2
open PySem PySem.Spec PyProof.Rows
inductive V where
 | non | bl (b:Bool) | int (i:Int) | str (x:Str) | byt (b:Array UInt8) | flt (b:UInt64) | ref (a:Addr) | ty (n:String)
 deriving DecidableEq
def RelV:V→Value→Prop
 | .non,u=>u=Value.none
 | .bl b,u=>u=Value.bool b
 | .int i,u=>∃ t,u=Value.int i t
 | .str x,u=>∃ t,u=Value.str x t
 | .byt b,u=>∃ t,u=Value.bytes b t
 | .flt b,u=>∃ t,u=Value.float b t
 | .ref a,u=>u=Value.ref a
 | .ty n,u=>u=Value.type n
abbrev Vals:List V→List Value→Prop:=Paired RelV
theorem Vals.length {xs:List V} {us:List Value} (r:Vals xs us):xs.length=us.length:=Paired.length r
theorem Vals.get:∀ {xs:List V} {us:List Value} {i:Nat} {x:V},Vals xs us→xs[i]? =some x→∃ u,us[i]? =some u∧RelV x u
 | _,_,_,_,.nil,e=>by simp at e
 | _,_,0,_,.cons r _,e=>by simp at e; subst e; exact ⟨_,rfl,r⟩
 | _,_,i+1,x,.cons _ t,e=>by
  obtain ⟨u,h1,h2⟩:=Vals.get (i:=i) (x:=x) t (by simpa using e)
  exact ⟨u,by simpa using h1,h2⟩
theorem Vals.append:∀ {xs ys:List V} {us ws:List Value},Vals xs us→Vals ys ws→Vals (xs++ys) (us++ws)
 | _,_,_,_,.nil,s=>s
 | _,_,_,_,.cons r t,s=>.cons r (Vals.append t s)
theorem Vals.take:∀ {xs:List V} {us:List Value} (n:Nat),Vals xs us→Vals (xs.take n) (us.take n)
 | _,_,0,_=>.nil
 | _,_,_+1,.nil=>.nil
 | _,_,n+1,.cons r t=>.cons r (Vals.take n t)
theorem Vals.drop:∀ {xs:List V} {us:List Value} (n:Nat),Vals xs us→Vals (xs.drop n) (us.drop n)
 | _,_,0,r=>r
 | _,_,_+1,.nil=>.nil
 | _,_,n+1,.cons _ t=>Vals.drop n t
def RelO:Option V→Option Value→Prop
 | some v,some u=>RelV v u
 | none,none=>True
 | _,_=>False
def KV {κ:Type}:List (κ × V)→List (κ × Value)→Prop:=Paired fun (p:κ × V) (q:κ × Value)=>p.1=q.1∧RelV p.2 q.2
def kV:Key→V
 | .inl i=>.int i
 | .inr x=>.str x
inductive HO where
  | lst (xs:List V)
  | tup (xs:List V)
  | dK (kvs:List (Key × V)) | dT (kvs:List (List Key × V))
  | set (S:Int→Bool) (n:Nat)
  | ins (C dx:Addr) (fs:List (Str × V))
  | own (x:Addr)
  | xd (fs:List (Str × V))
  | met (f x:Addr)
  | rng (lo hi:Int)
  | frz (o:Obj) (u:HO)
  | tbl (ps:Array Value)
  | ext (φ:Heap→Prop)
abbrev Hp:=Addr→Option HO
def upd (H:Hp) (a:Addr) (o:HO):Hp:=fun b=>if b=a then some o else H b
theorem ae {H:Hp} {a:Addr} {o:HO}:upd H a o a=some o:=by unfold upd; rw [if_pos rfl]
theorem ah {H:Hp} {a b:Addr} {o:HO} (h:b≠a):upd H a o b=H b:=by unfold upd; rw [if_neg h]
theorem ar {H:Hp} {a b:Addr} {o:HO} (h:H a=some o) (h':H b=none):a≠b:=by
 intro e; subst e; rw [h] at h'; cases h'
section
variable (P:Program) (w:World)
def ObjOk (H:Hp) (h:Heap) (a:Addr):HO→Prop
 | .lst xs=>xs.length≤sizeLine∧∃ (its:List Value) (n:Nat),Vals xs its∧h.get? a=some { cls:=.type "list",data:=.seq its.toArray n }
 | .tup xs=>xs.length≤sizeLine∧∃ its:List Value,Vals xs its∧IsTup h a its.toArray
 | .dK kvs=>kvs.length≤sizeLine∧(a==sysModules)=false∧∃ vs,KV kvs vs∧h.DictOf (dh P w) a vs
 | .dT kvs=>kvs.length≤sizeLine∧(a==sysModules)=false∧∃ xs:List (List Key × Addr × Value),
   Paired (fun (p:List Key × V) (q:List Key × Addr × Value)=>p.1=q.1∧H q.2.1=some (.tup (p.1.map kV))∧RelV p.2 q.2.2) kvs xs∧
   ∃ o es ep,h.get? a=some o∧o.ExactDict∧o.data=.dict es ep∧es.toList=xs.map (entryOfKey (tupleKind (dh P w)))∧(xs.map (·.1)).Nodup
 | .set S n=>h.SetOf (intKind P w) a S n
 | .ins C dx fs=>H dx=some (.own a)∧fs.length≤1000∧dx≠a∧h.get? a=some (PySem.W.instObj C dx)∧
   ∃ mA,h.Ns1 dx mA∧(∀ f,RelO (fs.lookup f) (mA f))∧PySem.Within mA (fs.map (·.1))
 | .own _=>∃ o,h.get? a=some o
 | .xd fs=>∃ mA,h.Ns1 a mA∧∀ f,RelO (fs.lookup f) (mA f)
 | .rng lo hi=>∃ t u v,h.get? a=some { cls:=.type "range",data:=.fields #[.int lo t,.int hi u,.int 1 v] }
 | .frz o u=>h.get? a=some o∧ObjOk H h a u
 | .tbl ps=>h.get? a=some { cls:=.none,data:=.fields ps }
 | .met f x=>h.get? a=some (PySem.W.methodObj (.ref f) (.ref x))
 | .ext φ=>φ h∧(∃ o,h.get? a=some o)∧∀ h1 h2:Heap,φ h1→(∀ o,h1.get? a=some o→h2.get? a=some o)→φ h2
def HOk (H:Hp) (h:Heap):Prop:=∀ a o,H a=some o→ObjOk P w H h a o
end
section
variable {P:Program} {w:World} {H H':Hp} {h h':Heap} {a:Addr} {o:HO}
theorem ObjOk.lt (x:ObjOk P w H h a o):a < h.objs.size:=by
 cases o with
 | lst xs=>obtain ⟨_,_,_,_,e⟩:=x; exact Heap.lt_size e
 | tup xs=>obtain ⟨_,_,_,p⟩:=x; exact p.lt
 | dK kvs=>obtain ⟨_,_,_,_,o,_,_,e,_⟩:=x; exact Heap.lt_size e
 | dT kvs=>obtain ⟨_,_,_,_,o,_,_,e,_⟩:=x; exact Heap.lt_size e
 | set S n=>obtain ⟨o,_,_,_,e,_⟩:=x; exact Heap.lt_size e
 | ins C dx fs=>obtain ⟨_,_,_,e,_⟩:=x; exact Heap.lt_size e
 | own y=>obtain ⟨_,e⟩:=x; exact Heap.lt_size e
 | xd fs=>obtain ⟨_,⟨_,_,_,e,_⟩,_⟩:=x; exact Heap.lt_size e
 | rng lo hi=>obtain ⟨_,_,_,e⟩:=x; exact Heap.lt_size e
 | frz ob u=>obtain ⟨e,_⟩:=x; exact Heap.lt_size e
 | tbl ps=>exact Heap.lt_size (show h.get? a=some _ from x)
 | met f y=>exact Heap.lt_size (show h.get? a=some _ from x)
 | ext φ=>obtain ⟨_,⟨_,e⟩,_⟩:=x; exact Heap.lt_size e
theorem Paired.mapP {α β:Type} {F G:α→β→Prop}:∀ {l₁:List α} {l₂:List β},Paired F l₁ l₂→(∀ a b,F a b→G a b)→Paired G l₁ l₂
 | _,_,.nil,_=>.nil
 | _,_,.cons r t,f=>.cons (f _ _ r) (Paired.mapP t f)
theorem ObjOk.stay (x:ObjOk P w H h a o) (k:∀ b u,(b=a∨H b=some (.own a))→h.get? b=some u→h'.get? b=some u)
  (ho:∀ b,H b=some (.own a)→H' b=some (.own a)) (ht:∀ b xs,H b=some (.tup xs)→H' b=some (.tup xs)):ObjOk P w H' h' a o:=by
 induction o with
 | lst xs=>obtain ⟨z,its,n,r,e⟩:=x; exact ⟨z,its,n,r,k _ _ (.inl rfl) e⟩
 | tup xs=>obtain ⟨z,its,r,ob,e,c⟩:=x; exact ⟨z,its,r,ob,k _ _ (.inl rfl) e,c⟩
 | dK kvs=>obtain ⟨z,y,vs,r,ob,es,ep,e,c⟩:=x; exact ⟨z,y,vs,r,ob,es,ep,k _ _ (.inl rfl) e,c⟩
 | dT kvs=>
  obtain ⟨z,y,xs,r,ob,es,ep,e,c⟩:=x
  exact ⟨z,y,xs,Paired.mapP r fun p q z=>⟨z.1,ht _ _ z.2.1,z.2.2⟩,ob,es,ep,k _ _ (.inl rfl) e,c⟩
 | set S n=>obtain ⟨ob,es,ep,t,e,c⟩:=x; exact ⟨ob,es,ep,t,k _ _ (.inl rfl) e,c⟩
 | ins C dx fs=>
  obtain ⟨d,z,ne,e,mA,⟨od,es,ep,e2,c⟩,r⟩:=x
  exact ⟨ho _ d,z,ne,k _ _ (.inl rfl) e,mA,⟨od,es,ep,k _ _ (.inr d) e2,c⟩,r⟩
 | own y=>obtain ⟨ob,e⟩:=x; exact ⟨ob,k _ _ (.inl rfl) e⟩
 | xd fs=>obtain ⟨mA,⟨od,es,ep,e,c⟩,r⟩:=x; exact ⟨mA,⟨od,es,ep,k _ _ (.inl rfl) e,c⟩,r⟩
 | rng lo hi=>obtain ⟨t,u,v,e⟩:=x; exact ⟨t,u,v,k _ _ (.inl rfl) e⟩
 | frz ob u ih=>obtain ⟨e,q⟩:=x; exact ⟨k _ _ (.inl rfl) e,ih q⟩
 | tbl ps=>
  have e:h.get? a=some { cls:=.none,data:=.fields ps }:=x
  show h'.get? a=some { cls:=.none,data:=.fields ps }
  exact k a _ (.inl rfl) e
 | met f y=>
  have e:h.get? a=some (PySem.W.methodObj (.ref f) (.ref y)):=x
  show h'.get? a=some (PySem.W.methodObj (.ref f) (.ref y))
  exact k a _ (.inl rfl) e
 | ext φ=>obtain ⟨p,⟨o,e⟩,st⟩:=x; exact ⟨st _ _ p fun o q=>k _ _ (.inl rfl) q,⟨o,k _ _ (.inl rfl) e⟩,st⟩
theorem HOk.lt (x:HOk P w H h) (e:H a=some o):a < h.objs.size:=(x a o e).lt
theorem HOk.fresh (x:HOk P w H h) (e:h.objs.size≤a):H a=none:=by
 cases q:H a with
 | none=>rfl
 | some u=>exact absurd (Nat.lt_of_lt_of_le (x.lt q) e) (Nat.lt_irrefl _)
theorem HOk.kept (x:HOk P w H h) (k:∀ b u,h.get? b=some u→h'.get? b=some u):HOk P w H h':=fun a o e=>
 (x a o e).stay (fun b u _ q=>k b u q) (fun _ q=>q) fun _ _ q=>q
theorem HOk.laid (x:HOk P w H h) (k:∀ b u,h.get? b=some u→h'.get? b=some u) (hp:h.objs.size≤a) (new:ObjOk P w (upd H a o) h' a o):HOk P w (upd H a o) h':=fun b u e=>by
 have hn:=x.fresh hp
 by_cases hb:b=a
 · subst hb; rw [ae] at e; cases e; exact new
 · rw [ah hb] at e
   exact (x b u e).stay (fun c v _ q=>k c v q) (fun c q=>by rw [ah (ar q hn)]; exact q) fun c xs q=>by rw [ah (ar q hn)]; exact q
end
def Rd (H:Hp) (a:Addr) (u:HO):Prop:=H a=some u∨∃ o,H a=some (.frz o u)
theorem Rd.ok {P:Program} {w:World} {H:Hp} {h:Heap} {a:Addr} {u:HO} (r:Rd H a u) (x:HOk P w H h):ObjOk P w H h a u:=by
 rcases r with r | ⟨o,r⟩
 · exact x a u r
 · obtain ⟨_,q⟩:=x a _ r
   exact q
def Mut:Option HO→Prop
 | some (.lst _)=>True
 | some (.dK _)=>True
 | some (.dT _)=>True
 | some (.set _ _)=>True
 | some (.ins _ _ _)=>True
 | some (.ext _)=>True
 | _=>False
section
variable {P:Program} {w:World} {H:Hp} {h h':Heap} {x e:Addr} {o':HO}
theorem HOk.write (ok:HOk P w H h) (mu:Mut (H x)) (he:e=x∨H e=some (.own x)) (k:∀ b u,b≠e→h.get? b=some u→h'.get? b=some u) (heo:∃ u,h'.get? e=some u)
  (new:ObjOk P w (upd H x o') h' x o'):HOk P w (upd H x o') h':=fun b u q=>by
 have nown:∀ c y,H c=some (.own y)→c≠x:=fun c y r z=>by subst z; rw [r] at mu; exact mu
 have ntup:∀ c xs,H c=some (.tup xs)→c≠x:=fun c xs r z=>by subst z; rw [r] at mu; exact mu
 by_cases hb:b=x
 · subst hb; rw [ae] at q; cases q; exact new
 · rw [ah hb] at q
   by_cases hbe:b=e
   · have q':H b=some (.own x):=by
      rcases he with z | z
      · exact absurd (hbe.trans z) hb
      · rw [hbe]; exact z
     rw [q] at q'; cases q'
     obtain ⟨v,hv⟩:=heo
     exact ⟨v,by rw [hbe]; exact hv⟩
   · refine (ok b u q).stay (fun c v hc r=>k c v ?_ r) (fun c r=>by rw [ah (nown c b r)]; exact r) fun c xs r=>by rw [ah (ntup c xs r)]; exact r
     rcases hc with rfl | hc
     · exact hbe
     · rintro rfl
       rcases he with z | z
       · exact nown c b hc z
       · rw [hc] at z; cases z; exact hb rfl
end
structure Un (fs ex:List Addr) (H H':Hp) (h h':Heap):Prop where
 keep:∀ b o,h.get? b=some o→H b=none→b∉fs→b∉ex→h'.get? b=some o
 slot:∀ b o,h.get? b=some o→H b=none→b∈fs→b∉ex→∃ sl,h'.get? b=some { o with slots:=sl }
 free:∀ b o,h.get? b=some o→H b=none→b∉ex→H' b=none
 there:∀ b o,h.get? b=some o→b∉ex→∃ o',h'.get? b=some o'
 tups:∀ b xs,H b=some (.tup xs)→H' b=some (.tup xs)
 frzs:∀ b o u,H b=some (.frz o u)→H' b=some (.frz o u)
 tbls:∀ b ps,H b=some (.tbl ps)→∃ more,H' b=some (.tbl (ps++more))
section
variable {fs fs' ex ex':List Addr} {H H1 H2:Hp} {h h1 h2 h':Heap} {a x e:Addr} {o:HO}
theorem Un.any (u:Un fs ex H H1 h h1) {b:Addr} {ob:Obj} (q:h.get? b=some ob) (n:H b=none) (hx:b∉ex):∃ sl,h1.get? b=some { ob with slots:=sl }:=by
 by_cases hb:b∈fs
 · exact u.slot b ob q n hb hx
 · exact ⟨ob.slots,u.keep b ob q n hb hx⟩
theorem Un.kept (k:∀ b u,h.get? b=some u→h'.get? b=some u):Un fs ex H H h h':=
 ⟨fun b ob q _ _ _=>k b ob q,fun b ob q _ _ _=>⟨ob.slots,k b ob q⟩,fun _ _ _ n _=>n,fun b ob q _=>⟨ob,k b ob q⟩,fun _ _ q=>q,fun _ _ _ q=>q,fun _ ps q=>⟨#[],by rw [q]; simp⟩⟩
theorem Un.refl:Un fs ex H H h h:=Un.kept fun _ _ q=>q
theorem Un.laid (k:∀ b u,h.get? b=some u→h'.get? b=some u) (hp:h.objs.size≤a) (hn:H a=none):Un fs ex H (upd H a o) h h' where
 keep:=fun b u q _ _ _=>k b u q
 slot:=fun b u q _ _ _=>⟨u.slots,k b u q⟩
 free:=fun b u q n _=>by rw [ah (Nat.ne_of_lt (Nat.lt_of_lt_of_le (Heap.lt_size q) hp))]; exact n
 there:=fun b u q _=>⟨u,k b u q⟩
 tups:=fun b xs q=>by rw [ah (ar q hn)]; exact q
 frzs:=fun b u xs q=>by rw [ah (ar q hn)]; exact q
 tbls:=fun b ps q=>⟨#[],by rw [ah (ar q hn),q]; simp⟩
theorem Un.write (mu:Mut (H x)) (he:e=x∨H e=some (.own x)) (k:∀ b u,b≠e→h.get? b=some u→h'.get? b=some u) (heo:∃ u,h'.get? e=some u):Un fs ex H (upd H x o) h h':=by
 have hx:∀ b,H b=none→b≠x:=fun b n z=>by subst z; rw [n] at mu; exact mu
 have hb:∀ b,H b=none→b≠e:=fun b n z=>by
  subst z
  rcases he with r | r
  · exact hx b n r
  · rw [n] at r; cases r
 have hm:∀ b u,H b=some u→¬ Mut (some u)→b≠x:=fun b u q nm z=>by subst z; rw [q] at mu; exact nm mu
 refine ⟨fun b u q n _ _=>k b u (hb b n) q,fun b u q n _ _=>⟨u.slots,k b u (hb b n) q⟩,fun b u q n _=>by rw [ah (hx b n)]; exact n,fun b u q _=>?_,
  fun b xs q=>by rw [ah (hm b _ q fun z=>z)]; exact q,fun b u xs q=>by rw [ah (hm b _ q fun z=>z)]; exact q,fun b ps q=>⟨#[],by rw [ah (hm b _ q fun z=>z),q]; simp⟩⟩
 by_cases hbe:b=e
 · subst hbe; exact heo
 · exact ⟨u,k b u hbe q⟩
end
def trk (h:Heap) (H:Hp):List Addr:=(List.range h.objs.size).filter fun a=>(H a).isSome
def hidT (h:Heap) (H:Hp):Heap:=PySem.W.hideAll h (trk h H)
theorem ug (h:Heap) (H:Hp):(hidT h H).objs.size=h.objs.size:=PySem.W.hideAll_size _ _
theorem vo {h:Heap} {H:Hp} {b:Addr} {o:Obj} (e:h.get? b=some o) (n:H b=none):(hidT h H).get? b=some o:=
 PySem.W.hideAll_get _ e fun hm=>by
  have q:(H b).isSome=true:=(List.mem_filter.mp hm).2
  rw [n] at q; simp at q
theorem wb {h:Heap} {H:Hp} {b:Addr} {o:Obj} (e:(hidT h H).get? b=some o):h.get? b=some o∧H b=none:=by
 have e':h.get? b=some o:=PySem.W.of_hideAll (trk h H) e
 refine ⟨e',?_⟩
 cases q:H b with
 | none=>rfl
 | some x=>
  have hm:b∈trk h H:=List.mem_filter.mpr ⟨List.mem_range.mpr (Heap.lt_size e'),by simp [q]⟩
  have z:(hidT h H).get? b=none:=PySem.W.hideAll_none (trk h H) hm
  rw [z] at e; cases e
end L2
namespace L2
open PySem PySem.Spec PyProof.Rows
structure Mod (K:PySem.W.Frag) (mg:Str→Option Value) (base:Heap):Prop where
 kin:K.In base
 glob:base.Ns mainGlobals mg
 blt:∃ mb,base.Ns builtinsNs mb∧∀ x:Str,x≠"__name__"→mb x=bootBuiltins x
 nolimit:base.NoLimit
structure Cx where
 prog:Program
 w:World
 K:PySem.W.Frag
 mg:Str→Option Value
 base:Heap
 A:Around
 N:List Str
 s₀:Shared
 H₀:Hp
 env:Env
 outer:List Env
 stack:List Env
 ex:List Addr
 fn:Str→Bool
 calm:Bool
 pn:List (Addr × Obj)
 xe:Value→Shared→Prop
def frs (l:List Env):List Addr:=l.filterMap (·.frame)
abbrev Cx.fs (X:Cx):List Addr:=frs X.outer
def Vis (sc:Scope) (x:Str):Prop:=sc.names.lookup x=some .local∨sc.names.lookup x=some .cell∨sc.names.lookup x=some .free
def Loc (sc:Scope) (x:Str):Prop:=sc.names.lookup x=some .local∨sc.names.lookup x=some .cell
def Look (env:Env) (h:Heap) (m:Str→Option Value) (x:Str) (u:Value):Prop:=
 (env.kindOf x=some .local∧m x=some u)∨((env.kindOf x=some .cell∨env.kindOf x=some .free)∧∃ c,env.cells.lookup x=some c∧h.IsCell c (some u))
structure Cx.Ok (X:Cx):Prop where
 mod:Mod X.K X.mg X.base
 kind:X.env.scope.kind=.function
 glob:X.env.globals=mainGlobals
 blt:X.env.builtins=builtinsNs
 above:X.s₀.heap.objs.size≤X.env.locals
 inj:∀ x y c,X.env.cells.lookup x=some c→X.env.cells.lookup y=some c→x=y
 has:∀ x,(X.env.kindOf x=some .cell∨X.env.kindOf x=some .free)→∃ c,X.env.cells.lookup x=some c
 cab:∀ x c,X.fn x=true→X.env.cells.lookup x=some c→X.s₀.heap.objs.size≤c
 hd:X.calm=true→X.A.handled=none
 frames:X.A.frames=some X.stack
 stk:X.stack=X.outer∨(X.stack=X.env::X.outer∧X.env.frame=some X.env.locals)
 exf:∀ b∈X.ex,b≠X.env.locals∧∀ x c,X.env.cells.lookup x=some c→c≠b
 bs:∀ b o,X.base.get? b=some o→X.s₀.heap.get? b=some o∧X.H₀ b=none
 bsz:X.base.objs.size≤X.s₀.heap.objs.size
 noex:∀ b o,X.base.get? b=some o→b∉X.ex
 exfs:∀ b∈X.ex,b∉X.fs
 funs:X.s₀.heap.FunFrames X.base X.outer
 frf:∀ b∈X.fs,X.H₀ b=none
structure Inv (X:Cx) (pins:List (Addr × Obj)) (σ:List (Option V)) (H:Hp) (s:Shared):Prop where
 ok:X.Ok
 os:s.os=X.s₀.os
 bare:AllBare s.gens
 base:Un X.fs X.ex X.H₀ H X.s₀.heap s.heap
 loc:∃ m,s.heap.Ns X.env.locals m∧∀ (i:Nat) (x:Str) (v:V),X.N[i]? =some x→σ[i]? =some (some v)→Vis X.env.scope x→∃ u,RelV v u∧Look X.env s.heap m x u
 cell:∀ x c,X.env.cells.lookup x=some c→∃ v,s.heap.IsCell c v
 free:H X.env.locals=none
 freeC:∀ x c,X.env.cells.lookup x=some c→H c=none
 pin:∀ p∈X.pn++pins,s.heap.get? p.1=some p.2∧H p.1=none∧p.1≠X.env.locals∧p.1∉X.fs∧∀ v,p.2.data≠.cell v
 hok:HOk X.prog X.w H s.heap
 len:σ.length=X.N.length
section
variable {X:Cx} {pins:List (Addr × Obj)} {σ:List (Option V)} {H H':Hp} {s:Shared} {h':Heap}
theorem Cx.Ok.nofr (ok:X.Ok) {b:Addr} {o:Obj} (e:X.base.get? b=some o):b∉X.fs:=fun hb=>by
 have:=(ok.funs.mem hb).1
 rw [e] at this; cases this
theorem Inv.bs (I:Inv X pins σ H s):∀ b o,X.base.get? b=some o→s.heap.get? b=some o∧H b=none:=fun b o e=>
 ⟨I.base.keep b o (I.ok.bs b o e).1 (I.ok.bs b o e).2 (I.ok.nofr e) (I.ok.noex b o e),I.base.free b o (I.ok.bs b o e).1 (I.ok.bs b o e).2 (I.ok.noex b o e)⟩
theorem Inv.bk (I:Inv X pins σ H s):∀ b o,X.base.get? b=some o→s.heap.get? b=some o:=fun b o e=>(I.bs b o e).1
theorem Inv.mod (I:Inv X pins σ H s):Mod X.K X.mg X.base:=I.ok.mod
theorem Inv.kIn (I:Inv X pins σ H s):X.K.In s.heap:=I.ok.mod.kin.keeps I.bk
theorem Inv.lt (I:Inv X pins σ H s):X.env.locals < s.heap.objs.size:=let ⟨_,hn,_⟩:=I.loc; hn.lt
theorem Inv.sz (I:Inv X pins σ H s):X.s₀.heap.objs.size≤s.heap.objs.size:=Nat.le_trans I.ok.above (Nat.le_of_lt I.lt)
theorem Inv.nofs (I:Inv X pins σ H s) {a:Addr} (h:s.heap.objs.size≤a):a∉X.fs:=fun hb=>by
 obtain ⟨_,o,ho,_⟩:=I.ok.funs.mem hb
 exact absurd (Nat.lt_of_lt_of_le (Heap.lt_size ho) (Nat.le_trans I.sz h)) (Nat.lt_irrefl _)
theorem Inv.cne (I:Inv X pins σ H s):∀ x c,X.env.cells.lookup x=some c→c≠X.env.locals:=fun x c e z=>by
 obtain ⟨v,o,ho,hd⟩:=I.cell x c e
 obtain ⟨m,⟨o',es,ep,ho',hd',_⟩,_⟩:=I.loc
 rw [z,ho'] at ho; cases ho; rw [hd'] at hd; cases hd
theorem Inv.funs (I:Inv X pins σ H s):s.heap.FunFrames X.base X.outer:=by
 have all:∀ (l:List Env),(∀ b∈frs l,b∈X.fs)→X.s₀.heap.FunFrames X.base l→s.heap.FunFrames X.base l:=by
  intro l
  induction l with
  | nil=>intro _ _; trivial
  | cons env r ih=>
   intro hs hl
   obtain ⟨hk,⟨L,o,hf,hn,ho,hd⟩,hr⟩:=hl
   have hL:L∈X.fs:=hs L (by unfold frs; rw [List.filterMap_cons,hf]; exact List.mem_cons_self)
   obtain ⟨sl,e⟩:=I.base.slot L o ho (I.ok.frf L hL) hL fun z=>I.ok.exfs L z hL
   exact ⟨hk,⟨L,_,hf,hn,e,hd⟩,ih (fun b hb=>hs b (by unfold frs; rw [List.filterMap_cons,hf]; exact List.mem_cons_of_mem _ hb)) hr⟩
 exact all X.outer (fun _ hb=>hb) I.ok.funs
theorem Inv.stack (I:Inv X pins σ H s):s.heap.FunFrames X.base X.stack:=by
 rcases I.ok.stk with e | ⟨e,hf⟩
 · rw [e]; exact I.funs
 · rw [e]
   obtain ⟨m,hn,_⟩:=I.loc
   refine .cons (by rw [I.ok.kind]; decide) hf hn ?_ I.funs
   exact Heap.get?_none_of_le (Nat.le_trans I.ok.bsz I.ok.above)
theorem Inv.stkSub (I:Inv X pins σ H s):∀ b∈frs X.stack,b∈X.env.locals::X.fs:=fun b hb=>by
 rcases I.ok.stk with e | ⟨e,hf⟩
 · rw [e] at hb; exact List.mem_cons_of_mem _ hb
 · rw [e] at hb
   unfold frs at hb
   rw [List.filterMap_cons,hf] at hb
   exact hb
theorem Inv.stkFree (I:Inv X pins σ H s):∀ b∈frs X.stack,H b=none:=fun b hb=>by
 rcases List.mem_cons.mp (I.stkSub b hb) with e | hb
 · rw [e]; exact I.free
 · obtain ⟨_,o,ho,_⟩:=I.ok.funs.mem hb
   exact I.base.free b o ho (I.ok.frf b hb) fun z=>I.ok.exfs b z hb
theorem Inv.step {g':Array GenState} {t':Nat} {d':Drawn} {ch:List Addr} (I:Inv X pins σ H s)
  (hch:∀ b∈ch,(b∈X.ex∨X.s₀.heap.objs.size≤b)∧b≠X.env.locals∧(∀ x c,X.env.cells.lookup x=some c→c≠b)∧∀ p∈X.pn++pins,p.1≠b)
  (keep:∀ b o,b≠X.env.locals→b∉X.fs→b∉ch→s.heap.get? b=some o→H b=none→h'.get? b=some o)
  (slot:∀ b o,b≠X.env.locals→b∈X.fs→b∉ch→s.heap.get? b=some o→H b=none→∃ sl,h'.get? b=some { o with slots:=sl }) (free:∀ b o,b∉ch→s.heap.get? b=some o→H b=none→H' b=none)
  (there:∀ b o,b∉ch→s.heap.get? b=some o→∃ o',h'.get? b=some o')
  (tups:∀ b xs,H b=some (.tup xs)→H' b=some (.tup xs)) (frzs:∀ b o u,H b=some (.frz o u)→H' b=some (.frz o u)) (tbls:∀ b ps,H b=some (.tbl ps)→∃ more,H' b=some (.tbl (ps++more)))
  (ns:∀ m,s.heap.Ns X.env.locals m→h'.Ns X.env.locals m) (hok:HOk X.prog X.w H' h') (hg:AllBare g'):
  Inv X pins σ H' { s with heap:=h',gens:=g',drawn:=d',toks:=t' }:=by
 have neL:∀ b o,X.s₀.heap.get? b=some o→b≠X.env.locals:=fun b o e=>Nat.ne_of_lt (Nat.lt_of_lt_of_le (Heap.lt_size e) I.ok.above)
 have neC:∀ b o,X.s₀.heap.get? b=some o→b∉X.ex→b∉ch:=fun b o e hx hb=>by
  rcases (hch b hb).1 with z | z
  · exact hx z
  · exact absurd (Nat.lt_of_lt_of_le (Heap.lt_size e) z) (Nat.lt_irrefl _)
 have cellK:∀ x c,X.env.cells.lookup x=some c→∀ v,s.heap.IsCell c v→h'.IsCell c v:=fun x c e v ⟨o,ho,hd⟩=>by
  have nch:c∉ch:=fun z=>(hch c z).2.2.1 x c e rfl
  by_cases hc:c∈X.fs
  · obtain ⟨sl,q⟩:=slot c o (I.cne x c e) hc nch ho (I.freeC x c e)
    exact ⟨_,q,hd⟩
  · exact ⟨o,keep c o (I.cne x c e) hc nch ho (I.freeC x c e),hd⟩
 refine ⟨I.ok,I.os,hg,⟨fun b o e n hb hx=>?_,fun b o e n hb hx=>?_,fun b o e n hx=>?_,fun b o e hx=>?_,fun b xs e=>tups b xs (I.base.tups b xs e),fun b o xs e=>frzs b o xs (I.base.frzs b o xs e),fun b ps e=>?_⟩,?_,fun x c e=>?_,?_,fun x c e=>?_,fun p hp=>?_,hok,I.len⟩
 · exact keep b o (neL b o e) hb (neC b o e hx) (I.base.keep b o e n hb hx) (I.base.free b o e n hx)
 · obtain ⟨sl,e1⟩:=I.base.slot b o e n hb hx
   obtain ⟨sl',e2⟩:=slot b _ (neL b o e) hb (neC b o e hx) e1 (I.base.free b o e n hx)
   exact ⟨sl',e2⟩
 · obtain ⟨o',e1⟩:=I.base.there b o e hx
   exact free b o' (neC b o e hx) e1 (I.base.free b o e n hx)
 · obtain ⟨o',e1⟩:=I.base.there b o e hx
   exact there b o' (neC b o e hx) e1
 · obtain ⟨m1,e1⟩:=I.base.tbls b ps e
   obtain ⟨m2,e2⟩:=tbls b _ e1
   exact ⟨m1++m2,by rw [e2,Array.append_assoc]⟩
 · obtain ⟨m,hn,hl⟩:=I.loc
   refine ⟨m,ns m hn,fun i x v e1 e2 e3=>?_⟩
   obtain ⟨u,r,l⟩:=hl i x v e1 e2 e3
   refine ⟨u,r,?_⟩
   rcases l with l | ⟨k,c,e,z⟩
   · exact .inl l
   · exact .inr ⟨k,c,e,cellK x c e _ z⟩
 · obtain ⟨v,z⟩:=I.cell x c e
   exact ⟨v,cellK x c e v z⟩
 · obtain ⟨m,⟨o,_,_,ho,_⟩,_⟩:=I.loc
   exact free _ o (fun z=>(hch _ z).2.1 rfl) ho I.free
 · obtain ⟨v,o,ho,hd⟩:=I.cell x c e
   exact free c o (fun z=>(hch c z).2.2.1 x c e rfl) ho (I.freeC x c e)
 · obtain ⟨e,n,ne,nf,d⟩:=I.pin p hp
   have nch:p.1∉ch:=fun z=>(hch p.1 z).2.2.2 p hp rfl
   exact ⟨keep p.1 p.2 ne nf nch e n,free p.1 p.2 nch e n,ne,nf,d⟩
theorem Inv.un {t':Nat} (I:Inv X pins σ H s) (u:Un X.fs [] H H' s.heap h') (hok:HOk X.prog X.w H' h'):Inv X pins σ H' { s with heap:=h',toks:=t' }:=by
 obtain ⟨m,⟨o,es,ep,ho,r⟩,_⟩:=id I.loc
 obtain ⟨sl,hL⟩:=u.any ho I.free (by simp)
 exact I.step (g':=s.gens) (d':=s.drawn) (ch:=[]) (fun _ z=>nomatch z) (fun b o _ hb _ e n=>u.keep b o e n hb (by simp)) (fun b o _ hb _ e n=>u.slot b o e n hb (by simp)) (fun b o _ e n=>u.free b o e n (by simp)) (fun b o _ e=>u.there b o e (by simp)) u.tups u.frzs u.tbls (fun m' hm=>by
  obtain ⟨o',es',ep',ho',r'⟩:=hm
  rw [ho] at ho'; cases ho'
  exact ⟨_,es',ep',hL,r'⟩) hok I.bare
theorem Inv.call {g':Array GenState} {t':Nat} {d':Drawn} {ch:List Addr} (I:Inv X pins σ H s) (u:Un (frs X.stack) ch H H' s.heap h') (hok:HOk X.prog X.w H' h') (hg:AllBare g')
  (hch:∀ b∈ch,(b∈X.ex∨X.s₀.heap.objs.size≤b)∧b≠X.env.locals∧(∀ x c,X.env.cells.lookup x=some c→c≠b)∧∀ p∈X.pn++pins,p.1≠b):
  Inv X pins σ H' { s with heap:=h',gens:=g',drawn:=d',toks:=t' }:=by
 obtain ⟨m,⟨o,es,ep,ho,r⟩,_⟩:=id I.loc
 obtain ⟨sl,hL⟩:=u.any ho I.free fun z=>(hch _ z).2.1 rfl
 exact I.step (ch:=ch) hch (fun b o hL hb hc e n=>u.keep b o e n (fun z=>(List.mem_cons.mp (I.stkSub b z)).elim hL hb) hc) (fun b o _ _ hc e n=>u.any e n hc) (fun b o hc e n=>u.free b o e n hc) (fun b o hc e=>u.there b o e hc) u.tups u.frzs u.tbls (fun m' hm=>by
  obtain ⟨o',es',ep',ho',r'⟩:=hm
  rw [ho] at ho'; cases ho'
  exact ⟨_,es',ep',hL,r'⟩) hok hg
theorem Inv.turned {t':Nat} {it:Addr} (I:Inv X pins σ H s) (k:∀ b o,b≠it→s.heap.get? b=some o→h'.get? b=some o) (hn:H it=none) (hL:it≠X.env.locals)
  (h1:it∈X.ex∨X.s₀.heap.objs.size≤it) (h2:∀ x c,X.env.cells.lookup x=some c→c≠it) (h3:∀ p∈X.pn++pins,p.1≠it):Inv X pins σ H { s with heap:=h',toks:=t' }:=by
 have nit:∀ b u,H b=some u→b≠it:=fun b u e z=>by rw [z,hn] at e; cases e
 refine I.step (g':=s.gens) (d':=s.drawn) (ch:=[it]) (fun b hb=>?_) (fun b o _ _ hc e _=>k b o (fun z=>hc (by simp [z])) e) (fun b o _ _ hc e _=>⟨o.slots,k b o (fun z=>hc (by simp [z])) e⟩) (fun _ _ _ _ n=>n)
  (fun b o hc e=>⟨o,k b o (fun z=>hc (by simp [z])) e⟩) (fun _ _ e=>e) (fun _ _ _ e=>e) (fun b ps e=>⟨#[],by rw [e]; simp⟩) (fun m hm=>?_) (fun b u e=>?_) I.bare
 · have e:b=it:=by simpa using hb
   subst e
   exact ⟨h1,hL,h2,h3⟩
 · obtain ⟨o,es,ep,ho,r⟩:=hm
   exact ⟨o,es,ep,k _ o (Ne.symm hL) ho,r⟩
 · refine (I.hok b u e).stay (fun c v hc q=>k c v ?_ q) (fun _ q=>q) fun _ _ q=>q
   rcases hc with z | z
   · rw [z]; exact nit b u e
   · exact nit c _ z
theorem Inv.tok (I:Inv X pins σ H s) (t:Nat):Inv X pins σ H { s with toks:=t }:=I.un (h':=s.heap) (t':=t) Un.refl I.hok
theorem Inv.kept {t':Nat} (I:Inv X pins σ H s) (k:∀ b u,s.heap.get? b=some u→h'.get? b=some u):Inv X pins σ H { s with heap:=h',toks:=t' }:=I.un (Un.kept k) (I.hok.kept k)
theorem Inv.laid {a:Addr} {o:HO} {t':Nat} (I:Inv X pins σ H s) (k:∀ b u,s.heap.get? b=some u→h'.get? b=some u) (hp:s.heap.objs.size≤a) (new:ObjOk X.prog X.w (upd H a o) h' a o):
  Inv X pins σ (upd H a o) { s with heap:=h',toks:=t' }:=I.un (Un.laid k hp (I.hok.fresh hp)) (I.hok.laid k hp new)
theorem Inv.write {x e:Addr} {o:HO} {t':Nat} (I:Inv X pins σ H s) (mu:Mut (H x)) (he:e=x∨H e=some (.own x)) (k:∀ b u,b≠e→s.heap.get? b=some u→h'.get? b=some u) (heo:∃ u,h'.get? e=some u)
  (new:ObjOk X.prog X.w (upd H x o) h' x o):Inv X pins σ (upd H x o) { s with heap:=h',toks:=t' }:=I.un (Un.write mu he k heo) (I.hok.write mu he k heo new)
theorem Inv.pins_of {pins':List (Addr × Obj)} (I:Inv X pins σ H s) (h:∀ p∈pins',s.heap.get? p.1=some p.2∧H p.1=none∧p.1≠X.env.locals∧p.1∉X.fs∧∀ v,p.2.data≠.cell v):Inv X pins' σ H s:=
 ⟨I.ok,I.os,I.bare,I.base,I.loc,I.cell,I.free,I.freeC,fun p hp=>(List.mem_append.mp hp).elim (fun z=>I.pin p (List.mem_append_left _ z)) (h p),I.hok,I.len⟩
theorem qm {N:List Str} (hN:N.Nodup) {i j:Nat} {x:Str} (a:N[i]? =some x) (b:N[j]? =some x):i=j:=by
 obtain ⟨h1,e1⟩:=List.getElem?_eq_some_iff.mp a
 obtain ⟨h2,e2⟩:=List.getElem?_eq_some_iff.mp b
 exact (List.getElem_inj hN).mp (e1.trans e2.symm)
theorem oT {M:Model} {A:Around} {E:Value→Shared→Prop} {i:Nat} {x:Str} {v:V} {u:Value} {Q:Unit→Shared→Prop} (I:Inv X pins σ H s) (hN:X.N.Nodup) (hi:X.N[i]? =some x) (hx:Loc X.env.scope x) (r:RelV v u)
  (h:∀ s',Inv X pins (σ.set i (some v)) H s'→(∃ a,Heap.SameBut a s.heap s'.heap∧(a=X.env.locals∨X.env.cells.lookup x=some a))→Q () s') (hf:X.fn x=true∨X.env.scope.names.lookup x=some .local:=by first | exact .inl rfl | exact .inr rfl | assumption):wpAny M A (storeName X.env x u) Q E s:=by
 obtain ⟨m,hn,hl⟩:=id I.loc
 have hcls:(X.env.scope.kind==.class||(X.env.scope.kind==.module&&X.env.locals != X.env.globals))=false:=by rw [I.ok.kind]; rfl
 have hiσ:i < σ.length:=by rw [I.len]; exact (List.getElem?_eq_some_iff.mp hi).1
 have cne:=I.cne
 have tracked:∀ {a:Addr} {h':Heap},(∃ o,s.heap.get? a=some o∧H a=none)→Heap.SameBut a s.heap h'→HOk X.prog X.w H h':=fun {a h'} ha hs b ob e=>by
  obtain ⟨_,_,hfree⟩:=ha
  refine (I.hok b ob e).stay (fun c w' hc q=>(hs.2 c ?_).trans q) (fun _ q=>q) fun _ _ q=>q
  rintro rfl
  rcases hc with rfl | hc
  · rw [hfree] at e; cases e
  · rw [hfree] at hc; cases hc
 rcases hx with hk | hk
 · refine wpAny_storeName_local hk hn (fun h' hn' hs=>?_) hcls
   obtain ⟨oL,_,_,hoL,_⟩:=id hn
   refine h _ ⟨I.ok,I.os,I.bare,⟨fun b o e n hb hx=>?_,fun b o e n hb hx=>?_,I.base.free,fun b o e hx=>?_,I.base.tups,I.base.frzs,I.base.tbls⟩,⟨_,hn',fun j y v' e1 e2 e3=>?_⟩,fun y c e=>?_,I.free,I.freeC,fun p hp=>?_,tracked ⟨oL,hoL,I.free⟩ hs,by simpa using I.len⟩ ⟨_,hs,.inl rfl⟩
   · exact (hs.2 b (Nat.ne_of_lt (Nat.lt_of_lt_of_le (Heap.lt_size e) I.ok.above))).trans (I.base.keep b o e n hb hx)
   · obtain ⟨sl,e1⟩:=I.base.slot b o e n hb hx
     exact ⟨sl,(hs.2 b (Nat.ne_of_lt (Nat.lt_of_lt_of_le (Heap.lt_size e) I.ok.above))).trans e1⟩
   · obtain ⟨o',e1⟩:=I.base.there b o e hx
     exact ⟨o',(hs.2 b (Nat.ne_of_lt (Nat.lt_of_lt_of_le (Heap.lt_size e) I.ok.above))).trans e1⟩
   · by_cases hj:j=i
     · subst hj
       rw [hi] at e1; cases e1
       rw [List.getElem?_set_self hiσ] at e2
       cases e2
       exact ⟨u,r,.inl ⟨hk,by simp⟩⟩
     · rw [List.getElem?_set_ne (Ne.symm hj)] at e2
       obtain ⟨u',r',q⟩:=hl j y v' e1 e2 e3
       refine ⟨u',r',?_⟩
       rcases q with ⟨k,e⟩ | ⟨k,c,e,z⟩
       · refine .inl ⟨k,?_⟩
         have:y≠x:=fun e=>hj (qm hN e1 (e ▸ hi))
         simp [this,e]
       · exact .inr ⟨k,c,e,z.sameBut hs (cne y c e)⟩
   · obtain ⟨w',z⟩:=I.cell y c e
     exact ⟨w',z.sameBut hs (cne y c e)⟩
   · obtain ⟨e,n,ne,nf,d⟩:=I.pin p hp
     exact ⟨(hs.2 p.1 ne).trans e,n,ne,nf,d⟩
 · have hfn:X.fn x=true:=by
    rcases hf with z | z
    · exact z
    · rw [z] at hk; cases hk
   obtain ⟨c,hc⟩:=I.ok.has x (.inl hk)
   obtain ⟨w',z⟩:=I.cell x c hc
   refine wpAny_storeName_cell I.ok.kind hk hc z (fun h' hc' hs=>?_)
   obtain ⟨oc,hoc,hocd⟩:=id z
   refine h { s with heap:=h' } ⟨I.ok,I.os,I.bare,⟨fun b o e n hb hx=>?_,fun b o e n hb hx=>?_,I.base.free,fun b o e hx=>?_,I.base.tups,I.base.frzs,I.base.tbls⟩,⟨m,hn.sameBut hs (Ne.symm (cne x c hc)),fun j y v' e1 e2 e3=>?_⟩,fun y c' e=>?_,I.free,I.freeC,fun p hp=>?_,tracked ⟨oc,hoc,I.freeC x c hc⟩ hs,by simpa using I.len⟩ ⟨c,hs,.inr hc⟩
   · exact (hs.2 b (Nat.ne_of_lt (Nat.lt_of_lt_of_le (Heap.lt_size e) (I.ok.cab x c hfn hc)))).trans (I.base.keep b o e n hb hx)
   · obtain ⟨sl,e1⟩:=I.base.slot b o e n hb hx
     exact ⟨sl,(hs.2 b (Nat.ne_of_lt (Nat.lt_of_lt_of_le (Heap.lt_size e) (I.ok.cab x c hfn hc)))).trans e1⟩
   · obtain ⟨o',e1⟩:=I.base.there b o e hx
     exact ⟨o',(hs.2 b (Nat.ne_of_lt (Nat.lt_of_lt_of_le (Heap.lt_size e) (I.ok.cab x c hfn hc)))).trans e1⟩
   · by_cases hj:j=i
     · subst hj
       rw [hi] at e1; cases e1
       rw [List.getElem?_set_self hiσ] at e2
       cases e2
       exact ⟨u,r,.inr ⟨.inl hk,c,hc,hc'⟩⟩
     · rw [List.getElem?_set_ne (Ne.symm hj)] at e2
       obtain ⟨u',r',q⟩:=hl j y v' e1 e2 e3
       refine ⟨u',r',?_⟩
       rcases q with q | ⟨k,c',e,z'⟩
       · exact .inl q
       · refine .inr ⟨k,c',e,z'.sameBut hs ?_⟩
         rintro rfl
         exact hj (qm hN e1 (I.ok.inj _ _ _ e hc ▸ hi))
   · by_cases hcc:c'=c
     · subst hcc; exact ⟨_,hc'⟩
     · obtain ⟨w2,z2⟩:=I.cell y c' e
       exact ⟨w2,z2.sameBut hs hcc⟩
   · obtain ⟨e,n,ne,nf,d⟩:=I.pin p hp
     refine ⟨(hs.2 p.1 ?_).trans e,n,ne,nf,d⟩
     intro q
     rw [q,hoc] at e
     have q':oc=p.2:=Option.some.inj e
     exact d w' (by rw [← q']; exact hocd)
theorem qo {M:Model} {A:Around} {E:Value→Shared→Prop} {i:Nat} {x:Str} {v:V} {u:Value} {Q:Unit→Shared→Prop} (I:Inv X pins σ H s) (hN:X.N.Nodup) (hi:X.N[i]? =some x) (hx:Loc X.env.scope x) (r:RelV v u)
  (h:∀ s',Inv X pins (σ.set i (some v)) H s'→Q () s') (hf:X.fn x=true∨X.env.scope.names.lookup x=some .local:=by first | exact .inl rfl | exact .inr rfl | assumption):wpAny M A (storeName X.env x u) Q E s:=
 oT I hN hi hx r (fun s' I' _=>h s' I') hf
theorem Inv.call' {s':Shared} {ch:List Addr} (I:Inv X pins σ H s) (ho:s'.os=s.os) (u:Un (frs X.stack) ch H H' s.heap s'.heap) (hok:HOk X.prog X.w H' s'.heap) (hg:AllBare s'.gens)
  (hch:∀ b∈ch,(b∈X.ex∨X.s₀.heap.objs.size≤b)∧b≠X.env.locals∧(∀ x c,X.env.cells.lookup x=some c→c≠b)∧∀ p∈X.pn++pins,p.1≠b):Inv X pins σ H' s':=by
 obtain ⟨h',g',d',t',o'⟩:=s'
 have e:o'=s.os:=ho
 subst e
 exact I.call (g':=g') (t':=t') (d':=d') u hok hg hch
end
abbrev XK:=Value→Option Addr→Hp→Prop
abbrev St:=List (Option V)
abbrev VK:=V→Hp→Prop
abbrev TE:=St→Hp→VK→Prop
abbrev TT:=St→Hp→(Bool→Hp→Prop)→Prop
abbrev TA:=St→Hp→(List V→Hp→Prop)→Prop
structure Ends where
 nx:St→Hp→Prop
 rt:VK
 bk:St→Hp→Prop:=fun _ _=>False
 ct:St→Hp→Prop:=fun _ _=>False
abbrev TS:=Ends→St→Hp→Prop
def EP (X:Cx) (pins:List (Addr × Obj)) (σ:St) (Q:VK) (u:Value) (s':Shared):Prop:=∃ v H',Inv X pins σ H' s'∧RelV v u∧Q v H'
def TP (X:Cx) (pins:List (Addr × Obj)) (σ:St) (Q:Bool→Hp→Prop) (b:Bool) (s':Shared):Prop:=∃ H',Inv X pins σ H' s'∧Q b H'
def AP (X:Cx) (pins:List (Addr × Obj)) (σ:St) (Q:List V→Hp→Prop) (us:List Value) (s':Shared):Prop:=∃ vs H',Inv X pins σ H' s'∧Vals vs us∧Q vs H'
def SP (X:Cx) (pins:List (Addr × Obj)) (D:Ends) (f:Flow) (s':Shared):Prop:=
 match f with
 | .next=>∃ σ' H',Inv X pins σ' H' s'∧D.nx σ' H'
 | .brk=>∃ σ' H',Inv X pins σ' H' s'∧D.bk σ' H'
 | .cont=>∃ σ' H',Inv X pins σ' H' s'∧D.ct σ' H'
 | .ret u=>∃ v σ' H',Inv X pins σ' H' s'∧RelV v u∧D.rt v H'
def PE (X:Cx) (e:Expr) (t:TE):Prop:=
 ∀ (pins:List (Addr × Obj)) (s:Shared) (σ:St) (H:Hp) (Q:VK),Inv X pins σ H s→t σ H Q→wpAny (model X.prog X.w) X.A (eval e X.env) (EP X pins σ Q) X.xe s
def PT (X:Cx) (e:Expr) (t:TT):Prop:=
 ∀ (pins:List (Addr × Obj)) (s:Shared) (σ:St) (H:Hp) (Q:Bool→Hp→Prop),Inv X pins σ H s→t σ H Q→wpAny (model X.prog X.w) X.A (isTrue e X.env (eval e X.env)) (TP X pins σ Q) X.xe s
def PW (X:Cx) (e:Expr) (t:TT):Prop:=
 ∀ (whole:Sem Value) (pins:List (Addr × Obj)) (s:Shared) (σ:St) (H:Hp) (Q:Bool→Hp→Prop),Inv X pins σ H s→t σ H Q→wpAny (model X.prog X.w) X.A (isTrue e X.env whole) (TP X pins σ Q) X.xe s
theorem PW.pt {X:Cx} {e:Expr} {t:TT} (h:PW X e t):PT X e t:=h _
def PA (X:Cx) (es:List Expr) (t:TA):Prop:=
 ∀ (pos:Pos) (pins:List (Addr × Obj)) (s:Shared) (σ:St) (H:Hp) (Q:List V→Hp→Prop),Inv X pins σ H s→t σ H Q→wpAny (model X.prog X.w) X.A (spliced (backTo pos (starEach es X.env))) (AP X pins σ Q) X.xe s
def PS (X:Cx) (st:Stmt) (t:TS):Prop:=
 ∀ (pins:List (Addr × Obj)) (s:Shared) (σ:St) (H:Hp) (D:Ends),Inv X pins σ H s→t D σ H→wpAny (model X.prog X.w) X.A (exec st X.env) (SP X pins D) X.xe s
def PSs (X:Cx) (st:List Stmt) (t:TS):Prop:=
 ∀ (pins:List (Addr × Obj)) (s:Shared) (σ:St) (H:Hp) (D:Ends),Inv X pins σ H s→t D σ H→wpAny (model X.prog X.w) X.A (execs st X.env) (SP X pins D) X.xe s
theorem thn {α:Type} {t:Sem α} {Q Q':α→Shared→Prop} {M:Model} {A:Around} {E:Value→Shared→Prop} {s:Shared} (h:wpAny M A t Q E s) (hQ:∀ a s,Q a s→Q' a s):wpAny M A t Q' E s:=wpAny_mono h hQ fun _ _ x=>x
end L2
namespace L2
open PySem PySem.Spec PyProof.Rows
section
variable {X:Cx}
def tVar (i:Nat):TE:=fun σ H Q=>∃ v,σ[i]? =some (some v)∧Q v H
def tC (v:V):TE:=fun _ H Q=>Q v H
theorem wQ {i:Nat} {x:Str} {pos:Pos} (hN:X.N[i]? =some x) (hv:Vis X.env.scope x) (hd:(x==("__debug__":Str))=false:=by decide) (hcd:(x==("__classdict__":Str))=false:=by decide):PE X (.Name x pos) (tVar i):=by
 intro pins s σ H Q I h
 obtain ⟨v,e,h⟩:=h
 obtain ⟨m,hn,hl⟩:=I.loc
 obtain ⟨u,r,l⟩:=hl i x v hN e hv
 have fin:EP X pins σ Q u s:=⟨v,H,I,r,h⟩
 rcases l with ⟨hk,hm⟩ | ⟨hk,c,hc,hcell⟩
 · exact wpAny_Name (wpAny_loadName_local I.ok.kind hk hn hm fin) hd
 · rcases hk with hk | hk
   · exact wpAny_Name (wpAny_loadName_cell I.ok.kind hk hc hcell fin) hd
   · exact wpAny_Name (wpAny_loadName_free I.ok.kind hk hc hcell fin hcd) hd
theorem ad {i j pos}:PE X (.Constant (.int i) j pos) (tC (.int i)):=fun _ _ _ H _ I h=>wpAny_Constant_int ⟨.int i,H,I.tok _,⟨_,rfl⟩,h⟩
theorem jE {b j pos}:PE X (.Constant (.bool b) j pos) (tC (.bl b)):=fun _ _ _ H _ I h=>Constant_bool ⟨.bl b,H,I,rfl,h⟩
theorem qp {j pos}:PE X (.Constant .none j pos) (tC .non):=fun _ _ _ H _ I h=>Constant_none ⟨.non,H,I,rfl,h⟩
theorem bc {x j pos}:PE X (.Constant (.str x) j pos) (tC (.str x)):=fun _ _ _ H _ I h=>Calls.Constant_str ⟨.str x,H,I.tok _,⟨_,rfl⟩,h⟩
def Gl (X:Cx) (x:Str):Prop:=X.env.kindOf x=some .globalImplicit
theorem oo {E:Value→Shared→Prop} {pins:List (Addr × Obj)} {s:Shared} {σ:St} {H:Hp} {x:Str} {u:Value} {pos:Pos} {Q:Value→Shared→Prop} (I:Inv X pins σ H s) (hg:Gl X x) (hm:X.mg x=some u) (h:Q u s)
  (hd:(x==("__debug__":Str))=false:=by decide):wpAny (model X.prog X.w) X.A (eval (.Name x pos) X.env) Q E s:=
 Calls.Name_function_global I.ok.kind hg (Calls.loadGlobal_global (by rw [I.ok.glob]; exact I.mod.glob.keeps I.bk) hm h) hd
theorem cK {E:Value→Shared→Prop} {pins:List (Addr × Obj)} {s:Shared} {σ:St} {H:Hp} {x:Str} {u:Value} {pos:Pos} {Q:Value→Shared→Prop} (I:Inv X pins σ H s) (hg:Gl X x) (hm:X.mg x=none) (hv:bootBuiltins x=some u) (h:Q u s)
  (hn:x≠"__name__":=by decide) (hd:(x==("__debug__":Str))=false:=by decide):wpAny (model X.prog X.w) X.A (eval (.Name x pos) X.env) Q E s:=by
 obtain ⟨mb,h1,h2⟩:=I.mod.blt
 exact Calls.Name_function_global I.ok.kind hg (Calls.loadGlobal_builtin (by rw [I.ok.glob]; exact I.mod.glob.keeps I.bk) hm (by rw [I.ok.blt]; exact h1.keeps I.bk) ((h2 x hn).trans hv) h) hd
theorem cL {x:Str} {v:V} {u:Value} {pos:Pos} (hg:Gl X x) (hm:X.mg x=some u) (r:RelV v u) (hd:(x==("__debug__":Str))=false:=by decide):PE X (.Name x pos) (tC v):=
 fun _ _ _ H _ I h=>oo I hg hm ⟨v,H,I,r,h⟩ hd
theorem d4 {x:Str} {v:V} {u:Value} {pos:Pos} (hg:Gl X x) (hm:X.mg x=none) (hv:bootBuiltins x=some u) (r:RelV v u) (hn:x≠"__name__":=by decide) (hd:(x==("__debug__":Str))=false:=by decide):PE X (.Name x pos) (tC v):=
 fun _ _ _ H _ I h=>cK I hg hm hv ⟨v,H,I,r,h⟩ hn hd
variable {a b:Expr} {ta tb:TE} {pos:Pos}
def tB (t:TE):TT:=fun σ H Q=>t σ H fun x H1=>∃ c,x=.bl c∧Q c H1
theorem bB {e:Expr} {t:TE} (h:PE X e t) (he:∀ whole,isTrue e X.env whole=(do let v ← whole; standAt e.pos; holding [v] (truthy v)):=by intro _; rfl):PT X e (tB t):=by
 intro pins s σ H Q I hw
 refine isTrue_plain (thn (h pins s σ H _ I hw) fun v s1 ⟨x,H1,I1,r1,q1⟩=>?_) (he _)
 obtain ⟨d,rfl,q⟩:=q1
 cases r1
 exact wpAny_truthy_bool ⟨H1,I1,q⟩
variable {tA tB':TT} {rest:List Expr}
def tAnd (t u:TT):TT:=fun σ H Q=>t σ H fun c H1=>if c=true then u σ H1 Q else Q false H1
def tOr (t u:TT):TT:=fun σ H Q=>t σ H fun c H1=>if c=true then Q true H1 else u σ H1 Q
def tNot (t:TT):TT:=fun σ H Q=>t σ H fun c H1=>Q (!c) H1
theorem lm (ha:PT X a tA):PW X (.BoolOp .And [a] pos) tA:=by
 intro wh pins s σ H Q I h
 refine isTrue_and (thn (ha pins s σ H Q I h) fun c s1 e=>?_)
 cases c with
 | true=>exact isTrue_and_nil e
 | false=>exact e
theorem gQ (ha:PT X a tA):PW X (.BoolOp .Or [a] pos) tA:=by
 intro wh pins s σ H Q I h
 refine isTrue_or (thn (ha pins s σ H Q I h) fun c s1 e=>?_)
 cases c with
 | false=>exact isTrue_or_nil e
 | true=>exact e
theorem mH (ha:PT X a tA) (hb:PW X (.BoolOp .And (b::rest) pos) tB'):PW X (.BoolOp .And (a::b::rest) pos) (tAnd tA tB'):=by
 intro wh pins s σ H Q I h
 refine isTrue_and (thn (ha pins s σ H _ I h) fun c s1 ⟨H1,I1,q1⟩=>?_)
 cases c with
 | true=>exact hb wh pins s1 σ H1 Q I1 q1
 | false=>exact ⟨H1,I1,q1⟩
theorem fJ (ha:PT X a tA) (hb:PW X (.BoolOp .Or (b::rest) pos) tB'):PW X (.BoolOp .Or (a::b::rest) pos) (tOr tA tB'):=by
 intro wh pins s σ H Q I h
 refine isTrue_or (thn (ha pins s σ H _ I h) fun c s1 ⟨H1,I1,q1⟩=>?_)
 cases c with
 | true=>exact ⟨H1,I1,q1⟩
 | false=>exact hb wh pins s1 σ H1 Q I1 q1
theorem cM (ha:PT X a tA):PT X (.UnaryOp .Not a pos) (tNot tA):=by
 intro pins s σ H Q I h
 exact isTrue_not (ha pins s σ H (fun c H1=>Q (!c) H1) I h)
def tAndV (ta tb:TE):TE:=fun σ H Q=>ta σ H fun x H1=>∃ c,x=.bl c∧if c=true then tb σ H1 Q else Q (.bl false) H1
def tOrV (ta tb:TE):TE:=fun σ H Q=>ta σ H fun x H1=>∃ c,x=.bl c∧if c=true then Q (.bl true) H1 else tb σ H1 Q
def tNotV (ta:TE):TE:=fun σ H Q=>ta σ H fun x H1=>∃ c,x=.bl c∧Q (.bl (!c)) H1
theorem fK {op} {t:TE} (h:PE X a t):PE X (.BoolOp op [a] pos) t:=fun pins s σ H Q I hw=>BoolOp_one (h pins s σ H Q I hw)
theorem fL (ha:PE X a ta) (hb:PE X (.BoolOp .And (b::rest) pos) tb):PE X (.BoolOp .And (a::b::rest) pos) (tAndV ta tb):=by
 intro pins s σ H Q I h
 refine BoolOp_and (thn (ha pins s σ H _ I h) fun v s1 ⟨x,H1,I1,r1,q1⟩=>?_)
 obtain ⟨c,rfl,q1⟩:=q1
 cases r1
 refine wpAny_truthy_bool ?_
 cases c with
 | true=>exact hb pins s1 σ H1 Q I1 q1
 | false=>exact ⟨.bl false,H1,I1,rfl,q1⟩
theorem vR (ha:PE X a ta) (hb:PE X (.BoolOp .Or (b::rest) pos) tb):PE X (.BoolOp .Or (a::b::rest) pos) (tOrV ta tb):=by
 intro pins s σ H Q I h
 refine BoolOp_or (thn (ha pins s σ H _ I h) fun v s1 ⟨x,H1,I1,r1,q1⟩=>?_)
 obtain ⟨c,rfl,q1⟩:=q1
 cases r1
 refine wpAny_truthy_bool ?_
 cases c with
 | false=>exact hb pins s1 σ H1 Q I1 q1
 | true=>exact ⟨.bl true,H1,I1,rfl,q1⟩
theorem qq (ha:PE X a ta):PE X (.UnaryOp .Not a pos) (tNotV ta):=by
 intro pins s σ H Q I h
 refine UnaryOp_ (thn (ha pins s σ H _ I h) fun v s1 ⟨x,H1,I1,r1,q1⟩=>?_)
 obtain ⟨c,rfl,q1⟩:=q1
 cases r1
 exact not_of (wpAny_truthy_bool ⟨.bl (!c),H1,I1,rfl,q1⟩)
def tIf (t:TT) (ta tb:TE):TE:=fun σ H Q=>t σ H fun c H1=>if c=true then ta σ H1 Q else tb σ H1 Q
theorem vp {c:Expr} (hc:PT X c tA) (ha:PE X a ta) (hb:PE X b tb):PE X (.IfExp c a b pos) (tIf tA ta tb):=by
 intro pins s σ H Q I h
 refine wpAny_IfExp (thn (hc pins s σ H _ I h) fun d s1 ⟨H1,I1,q1⟩=>?_)
 cases d with
 | true=>exact ha pins s1 σ H1 Q I1 q1
 | false=>exact hb pins s1 σ H1 Q I1 q1
end
end L2
namespace L2
open PySem PySem.Spec PyProof.Rows
def SqL (K:PySem.W.Frag) (H:Hp) (a:Addr) (xs:List V):Prop:=
 Rd H a (.lst xs)∨
  ∃ (o:Obj) (its:Array Value) (n:Nat),K.lookup a=some o∧o.cls=.type "list"∧o.dict=none∧o.data=.seq its n∧its.size≤sizeLine∧Vals xs its.toList
def SqT (K:PySem.W.Frag) (H:Hp) (a:Addr) (xs:List V):Prop:=
 Rd H a (.tup xs)∨
  ∃ (o:Obj) (its:Array Value) (n:Nat),K.lookup a=some o∧o.cls=.type "tuple"∧o.data=.seq its n∧its.size≤sizeLine∧Vals xs its.toList
def absV:Value→Option V
 | .none=>some .non
 | .bool b=>some (.bl b)
 | .int i _=>some (.int i)
 | .str x _=>some (.str x)
 | .bytes b _=>some (.byt b)
 | .float b _=>some (.flt b)
 | .ref a=>some (.ref a)
 | .type n=>some (.ty n)
 | _=>none
theorem RelV.abs {x:V} {u:Value} (r:RelV x u):absV u=some x:=by
 cases x with
 | non=>cases r; rfl
 | bl _=>cases r; rfl
 | int _=>obtain ⟨t,rfl⟩:=r; rfl
 | str _=>obtain ⟨t,rfl⟩:=r; rfl
 | byt _=>obtain ⟨t,rfl⟩:=r; rfl
 | flt _=>obtain ⟨t,rfl⟩:=r; rfl
 | ref _=>cases r; rfl
 | ty _=>cases r; rfl
theorem RelV.inj {x y:V} {u:Value} (r:RelV x u) (q:RelV y u):x=y:=Option.some.inj (r.abs.symm.trans q.abs)
theorem Vals.inj:∀ {xs ys:List V} {us:List Value},Vals xs us→Vals ys us→xs=ys
 | _,_,_,.nil,.nil=>rfl
 | _,_,_,.cons r t,.cons r' t'=>by rw [r.inj r',Vals.inj t t']
section
variable {X:Cx} {pins:List (Addr × Obj)} {σ:St} {H:Hp} {s:Shared} {a:Addr} {xs ys:List V}
theorem SqL.of {K:PySem.W.Frag} (h:H a=some (.lst xs)):SqL K H a xs:=.inl (.inl h)
theorem SqT.of {K:PySem.W.Frag} (h:H a=some (.tup xs)):SqT K H a xs:=.inl (.inl h)
theorem Inv.list (I:Inv X pins σ H s) (h:SqL X.K H a xs):∃ its:List Value,Vals xs its∧PlainL s.heap a its.toArray∧xs.length≤sizeLine:=by
 rcases h with h | ⟨o,its,n,hk,hc,hd,hs,hz,r⟩
 · obtain ⟨z,its,n,r,e⟩:=h.ok I.hok
   exact ⟨its,r,⟨_,n,e,rfl,rfl,rfl⟩,z⟩
 · refine ⟨its.toList,r,⟨o,n,I.kIn a o hk,hc,hd,by simpa using hs⟩,?_⟩
   have e:=r.length
   simp only [Array.length_toList] at e
   omega
theorem Inv.tuple (I:Inv X pins σ H s) (h:SqT X.K H a xs):∃ its:List Value,Vals xs its∧IsTup s.heap a its.toArray∧xs.length≤sizeLine:=by
 rcases h with h | ⟨o,its,n,hk,hc,hs,hz,r⟩
 · obtain ⟨z,its,r,p⟩:=h.ok I.hok
   exact ⟨its,r,p,z⟩
 · refine ⟨its.toList,r,⟨o,I.kIn a o hk,hc,n,by simpa using hs⟩,?_⟩
   have e:=r.length
   simp only [Array.length_toList] at e
   omega
theorem Inv.list_inj (I:Inv X pins σ H s) (h:SqL X.K H a xs) (h':SqL X.K H a ys):xs=ys:=by
 obtain ⟨its,r,⟨o,n,e,_,_,d⟩,_⟩:=I.list h
 obtain ⟨its',r',⟨o',n',e',_,_,d'⟩,_⟩:=I.list h'
 rw [e] at e'; cases e'
 rw [d] at d'
 injection d' with d1 _
 have:its=its':=by simpa using congrArg Array.toList d1
 subst this
 exact r.inj r'
theorem Inv.tuple_inj (I:Inv X pins σ H s) (h:SqT X.K H a xs) (h':SqT X.K H a ys):xs=ys:=by
 obtain ⟨its,r,⟨o,e,_,n,d⟩,_⟩:=I.tuple h
 obtain ⟨its',r',⟨o',e',_,n',d'⟩,_⟩:=I.tuple h'
 rw [e] at e'; cases e'
 rw [d] at d'
 injection d' with d1 _
 have:its=its':=by simpa using congrArg Array.toList d1
 subst this
 exact r.inj r'
end
abbrev Cx.wish (X:Cx) (E:Value→Shared→Prop):Cx:={ X with xe:=E }
abbrev Cx.nox (X:Cx):Cx:=X.wish fun _ _=>False
theorem Cx.Ok.wish {X:Cx} (ok:X.Ok) (E:Value→Shared→Prop):(X.wish E).Ok:=
 ⟨ok.mod,ok.kind,ok.glob,ok.blt,ok.above,ok.inj,ok.has,ok.cab,ok.hd,ok.frames,ok.stk,ok.exf,ok.bs,ok.bsz,ok.noex,ok.exfs,ok.funs,ok.frf⟩
theorem Cx.Ok.unwish {X:Cx} {E:Value→Shared→Prop} (ok:(X.wish E).Ok):X.Ok:=
 ⟨ok.mod,ok.kind,ok.glob,ok.blt,ok.above,ok.inj,ok.has,ok.cab,ok.hd,ok.frames,ok.stk,ok.exf,ok.bs,ok.bsz,ok.noex,ok.exfs,ok.funs,ok.frf⟩
section
variable {X:Cx} {pins:List (Addr × Obj)} {σ:St} {H:Hp} {s:Shared} {E:Value→Shared→Prop}
theorem Inv.wish (I:Inv X pins σ H s) (E:Value→Shared→Prop):Inv (X.wish E) pins σ H s:=⟨I.ok.wish E,I.os,I.bare,I.base,I.loc,I.cell,I.free,I.freeC,I.pin,I.hok,I.len⟩
theorem Inv.unwish (I:Inv (X.wish E) pins σ H s):Inv X pins σ H s:=⟨I.ok.unwish,I.os,I.bare,I.base,I.loc,I.cell,I.free,I.freeC,I.pin,I.hok,I.len⟩
theorem SP.unwish {D:Ends} {f:Flow} {s':Shared} (h:SP (X.wish E) pins D f s'):SP X pins D f s':=by
 cases f with
 | next=>obtain ⟨σ',H',I,q⟩:=h; exact ⟨σ',H',I.unwish,q⟩
 | brk=>obtain ⟨σ',H',I,q⟩:=h; exact ⟨σ',H',I.unwish,q⟩
 | cont=>obtain ⟨σ',H',I,q⟩:=h; exact ⟨σ',H',I.unwish,q⟩
 | ret u=>obtain ⟨v,σ',H',I,r,q⟩:=h; exact ⟨v,σ',H',I.unwish,r,q⟩
theorem PSs.nox {st:List Stmt} {t:TS} (h:PSs X.nox st t):PSs X st t:=fun pins s σ H D I hw=>
 wpAny_mono (h pins s σ H D (I.wish _) hw) (fun _ _ q=>q.unwish) fun _ _ z=>False.elim z
end
section
variable {X:Cx} {st:Stmt} {rest:List Stmt} {t u:TS} {e:Expr} {te:TE} {pos:Pos}
def tNext:TS:=fun D σ H=>D.nx σ H
def tSeq (t u:TS):TS:=fun D σ H=>t { D with nx:=u D } σ H
theorem av:PSs X [] tNext:=fun _ _ σ H _ I h=>wpAny_execs_nil ⟨σ,H,I,h⟩
theorem ac (h1:PS X st t) (h2:PSs X rest u):PSs X (st::rest) (tSeq t u):=by
 intro pins s σ H D I h
 refine wpAny_execs_cons (thn (h1 pins s σ H { D with nx:=u D } I h) fun f s1 q=>?_)
 cases f with
 | next=>
  obtain ⟨σ',H',I',q⟩:=q
  exact h2 pins s1 σ' H' D I' q
 | ret v=>exact q
 | brk=>exact q
 | cont=>exact q
theorem af (h1:PS X st t):PSs X [st] t:=by
 intro pins s σ H D I h
 refine wpAny_execs_cons (thn (h1 pins s σ H D I h) fun f s1 q=>?_)
 cases f with
 | next=>exact wpAny_execs_nil q
 | ret v=>exact q
 | brk=>exact q
 | cont=>exact q
theorem Inv.quiet {pins:List (Addr × Obj)} {σ:St} {H:Hp} {s:Shared} (I:Inv X pins σ H s):interactive X.env=false:=by simp [interactive,I.ok.kind]
def tDrop (te:TE):TS:=fun D σ H=>te σ H fun _ H1=>D.nx σ H1
theorem bZ (he:PE X e te) (hs:swapsWith e none pos.line X.env=pure false:=by rfl):PS X (.Expr e pos) (tDrop te):=by
 intro pins s σ H D I h
 exact wpAny_Expr_any (thn (he pins s σ H _ I h) fun v s1 ⟨x,H1,I1,r1,q1⟩=>⟨σ,H1,I1,q1⟩) I.quiet hs
def tRet (te:TE):TS:=fun D σ H=>te σ H D.rt
theorem ai (he:PE X e te):PS X (.Return (some e) pos) (tRet te):=by
 intro pins s σ H D I h
 exact wpAny_Return_some (thn (he pins s σ H _ I h) fun v s1 ⟨x,H1,I1,r1,q1⟩=>⟨x,σ,H1,I1,r1,q1⟩)
def tRetN:TS:=fun D _ H=>D.rt .non H
def tIfS (c:TT) (t u:TS):TS:=fun D σ H=>c σ H fun b H1=>if b=true then t D σ H1 else u D σ H1
theorem aB {c:Expr} {a b:List Stmt} {tc:TT} (hc:PT X c tc) (ha:PSs X a t) (hb:PSs X b u):PS X (.If c a b pos) (tIfS tc t u):=by
 intro pins s σ H D I h
 refine wpAny_If (thn (hc pins s σ H _ I h) fun d s1 ⟨H1,I1,q1⟩=>?_)
 cases d with
 | true=>exact ha pins s1 σ H1 D I1 q1
 | false=>exact hb pins s1 σ H1 D I1 q1
def bW:TS:=fun _ _ _=>False
theorem bo:PS X st bW:=fun _ _ _ _ _ _ h=>h.elim
end
abbrev TG:=V→St→Hp→(St→Hp→Prop)→Prop
abbrev TGs:=List V→St→Hp→(St→Hp→Prop)→Prop
def PG (X:Cx) (target:Expr) (t:TG):Prop:=
 ∀ (pins:List (Addr × Obj)) (s:Shared) (σ:St) (H:Hp) (v:V) (u:Value) (Q:St→Hp→Prop),Inv X pins σ H s→RelV v u→t v σ H Q→
  wpAny (model X.prog X.w) X.A (assign target X.env u) (fun _ s'=>∃ σ' H',Inv X pins σ' H' s'∧Q σ' H') X.xe s
def PGs (X:Cx) (ts:List Expr) (t:TGs):Prop:=
 ∀ (pins:List (Addr × Obj)) (s:Shared) (σ:St) (H:Hp) (vs:List V) (us:List Value) (Q:St→Hp→Prop),Inv X pins σ H s→Vals vs us→t vs σ H Q→
  wpAny (model X.prog X.w) X.A (assignInOrder ((assignEach ts X.env).map (·.2)) us) (fun _ s'=>∃ σ' H',Inv X pins σ' H' s'∧Q σ' H') X.xe s
abbrev TSet:=V→V→V→Hp→(Hp→Prop)→Prop
section
variable {X:Cx} {pos:Pos}
def gName (i:Nat):TG:=fun v σ H Q=>Q (σ.set i (some v)) H
theorem ax {i:Nat} {x:Str} (hN:X.N.Nodup) (hi:X.N[i]? =some x) (hx:Loc X.env.scope x) (hf:X.fn x=true∨X.env.scope.names.lookup x=some .local:=by first | exact .inl rfl | exact .inr rfl | assumption):PG X (.Name x pos) (gName i):=by
 intro pins s σ H v u Q I r h
 exact wpAny_assign_Name (qo I hN hi hx r (fun s' I'=>⟨_,H,I',h⟩) hf)
def gNil:TGs:=fun vs σ H Q=>vs=[]∧Q σ H
def gCons (t:TG) (u:TGs):TGs:=fun vs σ H Q=>∃ v r,vs=v::r∧t v σ H fun σ' H'=>u r σ' H' Q
theorem ij:PGs X [] gNil:=by
 intro pins s σ H vs us Q I r h
 obtain ⟨e,h⟩:=h
 subst e
 cases r
 exact assignInOrder_nil ⟨σ,H,I,h⟩
theorem bD {e:Expr} {es:List Expr} {t:TG} {u:TGs} (h1:PG X e t) (h2:PGs X es u)
  (hs:(assignEach (e::es) X.env).map (·.2)=assign e X.env::(assignEach es X.env).map (·.2):=by rfl):PGs X (e::es) (gCons t u):=by
 intro pins s σ H vs us Q I r h
 obtain ⟨v,vr,e1,h⟩:=h
 subst e1
 cases r with
 | cons r rr=>
  rw [hs]
  refine assignInOrder_cons (thn (h1 pins s σ H _ _ _ I r h) fun _ s1 ⟨σ1,H1,I1,q1⟩=>?_)
  exact h2 pins s1 σ1 H1 _ _ Q I1 rr q1
def gTup (K:PySem.W.Frag) (n:Nat) (t:TGs):TG:=fun v σ H Q=>∃ a xs,v=.ref a∧SqT K H a xs∧xs.length=n∧t xs σ H Q
theorem jp {es:List Expr} {k:Nat} {t:TGs} {n:Nat} (hc:X.calm=true) (h:PGs X es t)
  (hn:(assignEach es X.env).length=n:=by rfl) (hst:(assignEach es X.env).findIdx? (·.1)=none:=by rfl):PG X (.Tuple es k pos) (gTup X.K n t):=by
 intro pins s σ H v u Q I r hw
 obtain ⟨a,xs,e1,hq,hl,hw⟩:=hw
 subst e1
 cases r
 obtain ⟨its,rv,ht,hz⟩:=I.tuple hq
 refine assign_Tuple_tuple (I.ok.hd hc) ht (by simp [hn,← hl,rv.length]) hst fun h' hx=>?_
 have I1:Inv X pins σ H { s with heap:=h' }:=I.kept (t':=s.toks) fun b o e=>hx b o (Nat.ne_of_lt (Heap.lt_size e)) e
 exact h pins _ σ H xs _ Q I1 (by simpa using rv) hw
def gSub (to ti:TE) (t:TSet):TG:=fun v σ H Q=>to σ H fun o H1=>ti σ H1 fun i H2=>t o i v H2 fun H3=>Q σ H3
def tAsg (te:TE) (g:TG):TS:=fun D σ H=>te σ H fun x H1=>g x σ H1 D.nx
theorem qr {tg e:Expr} {te:TE} {g:TG} (he:PE X e te) (hg:PG X tg g) (hs:swapsWithSole [tg] e pos.line X.env=pure false:=by rfl) (hw:swappedStores [tg] e X.env=pure none:=by rfl)
  (h1:(assignEach [tg] X.env).map (·.2)=[assign tg X.env]:=by rfl):PS X (.Assign [tg] e pos) (tAsg te g):=by
 intro pins s σ H D I h
 refine wpAny_Assign_stores (thn (he pins s σ H _ I h) fun v s1 ⟨x,H1,I1,r1,q1⟩=>?_) hs hw
 rw [h1]
 exact thn (hg pins s1 σ H1 x v _ I1 r1 q1) fun _ s2 q=>q
theorem ak {i:Nat} {x:Str} {e:Expr} {te:TE} {pos':Pos} (hN:X.N.Nodup) (hi:X.N[i]? =some x) (hx:Loc X.env.scope x) (he:PE X e te) (hs:swapsWith e (some (.Name x pos')) pos.line X.env=pure false:=by rfl) (hf:X.fn x=true∨X.env.scope.names.lookup x=some .local:=by first | exact .inl rfl | exact .inr rfl | assumption):
  PS X (.Assign [.Name x pos'] e pos) (tAsg te (gName i)):=by
 intro pins s σ H D I h
 refine wpAny_Assign_Name (thn (he pins s σ H _ I h) fun v s1 ⟨y,H1,I1,r1,q1⟩=>?_) hs
 exact qo I1 hN hi hx r1 (fun s2 I2=>⟨_,H1,I2,q1⟩) hf
end
section
variable {X:Cx} {pos:Pos}
def qt (c:TT) (tb:TS):TS:=fun D σ H=>∃ W:Nat→St→Hp→Prop,(∃ m,W m σ H)∧∀ m σ H,W m σ H→
 c σ H fun b H1=>if b=true then ∃ N:St→Hp→Prop,(∀ σ' H',N σ' H'→∃ m',m' < m∧W m' σ' H')∧tb { D with nx:=N,ct:=N,bk:=D.nx } σ H1 else D.nx σ H1
theorem qu {c:Expr} {body:List Stmt} {tc:TT} {tb:TS} (hp:PassesOwn (model X.prog X.w) X.A X.env X.xe) (hc:PT X c tc) (hb:PSs X body tb):PS X (.While c body [] pos) (qt tc tb):=by
 intro pins s σ H D I h
 obtain ⟨W,⟨m0,w0⟩,turn⟩:=h
 refine wpAny_While (codeAny_whileLoop (fun n s'=>∃ σ' H',Inv X pins σ' H' s'∧W n σ' H') ?_ m0 ⟨σ,H,I,w0⟩)
 rintro n s1 ⟨σ1,H1,I1,w1⟩
 refine wpAny_passesOwn hp (thn (hc pins s1 σ1 H1 _ I1 (turn n σ1 H1 w1)) fun b s2 ⟨H2,I2,q2⟩=>?_)
 cases b with
 | true=>
  obtain ⟨N,hN,q2⟩:=q2
  rw [if_pos rfl]
  refine wpAny_passesOwn hp (thn (hb pins s2 σ1 H2 _ I2 q2) fun f s3 q3=>?_)
  cases f with
  | next=>
   obtain ⟨σ3,H3,I3,n3⟩:=q3
   obtain ⟨m',hm,w3⟩:=hN σ3 H3 n3
   exact ⟨m',hm,σ3,H3,I3,w3⟩
  | cont=>
   obtain ⟨σ3,H3,I3,n3⟩:=q3
   obtain ⟨m',hm,w3⟩:=hN σ3 H3 n3
   exact ⟨m',hm,σ3,H3,I3,w3⟩
  | brk=>exact q3
  | ret v=>exact q3
 | false=>
  rw [if_neg Bool.false_ne_true]
  exact wpAny_execs_nil ⟨σ1,H2,I2,q2⟩
end
structure It where
 go:Nat→Hp→Prop
 yld:Nat→Hp→V→Hp→Prop
 stop:Nat→Hp→Prop
def FpOk (X:Cx) (pins:List (Addr × Obj)) (H:Hp) (b:Addr):Prop:=
 H b=none∧b≠X.env.locals∧b∉X.fs∧(b∈X.ex∨X.s₀.heap.objs.size≤b)∧(∀ x c,X.env.cells.lookup x=some c→c≠b)∧∀ p∈X.pn++pins,p.1≠b
theorem Inv.fpOk {X:Cx} {pins:List (Addr × Obj)} {σ:St} {H H':Hp} {s:Shared} {b:Addr} (I:Inv X pins σ H s) (hb:s.heap.objs.size≤b) (hn:H' b=none):FpOk X pins H' b:=by
 refine ⟨hn,Nat.ne_of_gt (Nat.lt_of_lt_of_le I.lt hb),I.nofs hb,.inr (Nat.le_trans I.sz hb),fun x c e z=>?_,fun p hp z=>?_⟩
 · obtain ⟨v,q⟩:=I.cell x c e
   exact absurd (Nat.lt_of_lt_of_le q.lt (by rw [z]; exact hb)) (Nat.lt_irrefl _)
 · exact absurd (Nat.lt_of_lt_of_le (Heap.lt_size (I.pin p hp).1) (by rw [z]; exact hb)) (Nat.lt_irrefl _)
structure Turn (P:Program) (w:World) (K:PySem.W.Frag) (tg:Expr) (J:It) (fp:List Addr) (it:Addr) (tn:Nat→Heap→Prop):Prop where
 mem:it∈fp
 obj:∀ i h,tn i h→∀ b∈fp,∃ o,h.get? b=some o∧∀ v,o.data≠.cell v
 keep:∀ i h h',tn i h→(∀ b∈fp,∀ o,h.get? b=some o→h'.get? b=some o)→tn i h'
 item:∀ (X:Cx),X.prog=P→X.w=w→X.K=K→X.calm=true→∀ (i:Nat) (pins:List (Addr × Obj)) (s:Shared) (σ:St) (H:Hp) (E:Value→Shared→Prop),Inv X pins σ H s→(∀ b∈fp,FpOk X pins H b)→tn i s.heap→J.go i H→
  wpAny (model P w) X.A (pyNext (.ref it)) (fun r s1=>∃ u,r=some u∧
   wpAny (model P w) X.A (letOwnedTupleGo tg (.ref it) u) (fun _ s2=>∃ x H',Inv X pins σ H' s2∧RelV x u∧J.yld i H x H'∧tn (i+1) s2.heap∧∀ b∈fp,H' b=none) E s1) E s
 done:∀ (X:Cx),X.prog=P→X.w=w→X.K=K→X.calm=true→∀ (i:Nat) (pins:List (Addr × Obj)) (s:Shared) (σ:St) (H:Hp) (E:Value→Shared→Prop),Inv X pins σ H s→(∀ b∈fp,FpOk X pins H b)→tn i s.heap→J.stop i H→
  wpAny (model P w) X.A (pyNext (.ref it)) (fun r s1=>r=none∧Inv X pins σ H s1) E s
 self:∀ (A:Around) (i:Nat) (s:Shared) (Q:Value→Shared→Prop) (E:Value→Shared→Prop),tn i s.heap→Q (.ref it) s→wpAny (model P w) A (pyIter (.ref it)) Q E s
abbrev TI:=St→Hp→(It→Hp→Prop)→Prop
def PIE (X:Cx) (pins:List (Addr × Obj)) (σ:St) (tg:Expr) (R:It→Hp→Prop) (itv:Value) (s2:Shared):Prop:=
 ∃ (it:Addr) (fp:List Addr) (tn:Nat→Heap→Prop) (J:It) (H':Hp),itv=.ref it∧Inv X pins σ H' s2∧Turn X.prog X.w X.K tg J fp it tn∧tn 0 s2.heap∧(∀ b∈fp,FpOk X pins H' b)∧R J H'
def PI (X:Cx) (tg iter:Expr) (wi:TI):Prop:=
 ∀ (pins:List (Addr × Obj)) (s:Shared) (σ:St) (H:Hp) (R:It→Hp→Prop),Inv X pins σ H s→wi σ H R→
  wpAny (model X.prog X.w) X.A (eval iter X.env) (fun v s1=>wpAny (model X.prog X.w) X.A (pyIter v) (PIE X pins σ tg R) X.xe s1) X.xe s
theorem qc {M:Model} {A:Around} {E:Value→Shared→Prop} {s:Shared} {tg:Expr} {it:Addr} {u:Value} {o:Obj} {n:String} {vs:Array Value} {Q:Unit→Shared→Prop} (ho:s.heap.get? it=some o) (hc:o.cls=.type n) (hd:o.data=.fields vs)
  (hn:["enumerate","zip","dict_itemiterator","dict_reverseitemiterator","odict_iterator","itertools.zip_longest","itertools.pairwise"].contains n=false) (hQ:Q () s):wpAny M A (letOwnedTupleGo tg (.ref it) u) Q E s:=by
 unfold letOwnedTupleGo
 cases tg <;> first
  | exact wpAny_pure hQ
  | (cases u <;> first
    | exact wpAny_pure hQ
    | (refine wpAny_bind (wpAny_load ho ?_)
       rw [hc,hd]
       show wpAny M A (if (["enumerate","zip","dict_itemiterator","dict_reverseitemiterator","odict_iterator","itertools.zip_longest","itertools.pairwise"].contains n&&vs[0]? ==some (rawInt _))=true then _ else _) Q E s
       rw [if_neg (by intro h; rw [hn,Bool.false_and] at h; cases h)]
       exact wpAny_pure hQ))
def Itl (K:PySem.W.Frag) (a:Addr):It:=
 ⟨fun i H=>∃ xs x,SqL K H a xs∧xs[i]? =some x,fun i H x H'=>H'=H∧∀ xs,SqL K H a xs→xs[i]? =some x,fun i H=>∃ xs,SqL K H a xs∧xs.length≤i⟩
def Itt (K:PySem.W.Frag) (a:Addr):It:=
 ⟨fun i H=>∃ xs x,SqT K H a xs∧xs[i]? =some x,fun i H x H'=>H'=H∧∀ xs,SqT K H a xs→xs[i]? =some x,fun i H=>∃ xs,SqT K H a xs∧xs.length≤i⟩
def Itr (lo:Int) (n:Nat):It:=⟨fun i _=>i < n,fun i H x H'=>H'=H∧x=.int (lo+i),fun i _=>n≤i⟩
theorem uh {P:Program} {w:World} {K:PySem.W.Frag} {tg:Expr} (a it:Addr):Turn P w K tg (Itl K a) [it] it (fun i h=>h.IsListIter it a i) where
 mem:=by simp
 obj:=fun i h st b hb=>by
  have e:b=it:=by simpa using hb
  subst e
  obtain ⟨o,e,c,d⟩:=st
  exact ⟨o,e,fun v z=>by rw [d] at z; cases z⟩
 keep:=fun i h h' st k=>st.at fun o e=>k it (by simp) o e
 item:=by
  intro X hP hw hK hc i pins s σ H E I hf st hg
  subst hP hw hK
  obtain ⟨xs,x,hq,hx⟩:=hg
  obtain ⟨its,rv,p,hz⟩:=I.list hq
  obtain ⟨u,hu,ru⟩:=rv.get hx
  obtain ⟨f0,f1,f2,f3,f4,f5⟩:=hf it (by simp)
  refine wpAny_pyNext_list_item st p.isList (x:=u) (by simpa using hu) fun h' st' sb=>?_
  have I1:Inv X pins σ H { s with heap:=h' }:=I.turned (t':=s.toks) (fun b o hb e=>(sb.2 b hb).trans e) f0 f1 f3 f4 f5
  obtain ⟨o,e,c,d⟩:=id st'
  exact ⟨u,rfl,qc (s:={ s with heap:=h' }) e c d (by decide) ⟨x,H,I1,ru,⟨rfl,fun ys hy=>by rw [I.list_inj hy hq]; exact hx⟩,st',fun b hb=>(hf b hb).1⟩⟩
 done:=by
  intro X hP hw hK hc i pins s σ H E I hf st hg
  subst hP hw hK
  obtain ⟨xs,hq,hx⟩:=hg
  obtain ⟨its,rv,p,hz⟩:=I.list hq
  obtain ⟨f0,f1,f2,f3,f4,f5⟩:=hf it (by simp)
  have hl:=rv.length
  exact wpAny_pyNext_list_end (I.ok.hd hc) st p.isList (by simp; omega) fun h' eb=>⟨rfl,I.turned (t':=s.toks) (fun b o hb e=>eb b o hb e) f0 f1 f3 f4 f5⟩
 self:=fun _ _ _ _ _ st h=>wpAny_pyIter_listiter st h
theorem sZ {P:Program} {w:World} {K:PySem.W.Frag} {tg:Expr} (a it:Addr):Turn P w K tg (Itt K a) [it] it (fun i h=>h.IsTupleIter it a i) where
 mem:=by simp
 obj:=fun i h st b hb=>by
  have e:b=it:=by simpa using hb
  subst e
  obtain ⟨o,e,c,d⟩:=st
  exact ⟨o,e,fun v z=>by rw [d] at z; cases z⟩
 keep:=fun i h h' st k=>st.at fun o e=>k it (by simp) o e
 item:=by
  intro X hP hw hK hc i pins s σ H E I hf st hg
  subst hP hw hK
  obtain ⟨xs,x,hq,hx⟩:=hg
  obtain ⟨its,rv,p,hz⟩:=I.tuple hq
  obtain ⟨u,hu,ru⟩:=rv.get hx
  obtain ⟨f0,f1,f2,f3,f4,f5⟩:=hf it (by simp)
  refine wpAny_pyNext_tuple_item st (show s.heap.IsTuple a its.toArray from p) (x:=u) (by simpa using hu) fun h' st' sb=>?_
  have I1:Inv X pins σ H { s with heap:=h' }:=I.turned (t':=s.toks) (fun b o hb e=>(sb.2 b hb).trans e) f0 f1 f3 f4 f5
  obtain ⟨o,e,c,d⟩:=id st'
  exact ⟨u,rfl,qc (s:={ s with heap:=h' }) e c d (by decide) ⟨x,H,I1,ru,⟨rfl,fun ys hy=>by rw [I.tuple_inj hy hq]; exact hx⟩,st',fun b hb=>(hf b hb).1⟩⟩
 done:=by
  intro X hP hw hK hc i pins s σ H E I hf st hg
  subst hP hw hK
  obtain ⟨xs,hq,hx⟩:=hg
  obtain ⟨its,rv,p,hz⟩:=I.tuple hq
  obtain ⟨f0,f1,f2,f3,f4,f5⟩:=hf it (by simp)
  have hl:=rv.length
  exact wpAny_pyNext_tuple_end (I.ok.hd hc) st (show s.heap.IsTuple a its.toArray from p) (by simp; omega) fun h' eb=>⟨rfl,I.turned (t':=s.toks) (fun b o hb e=>eb b o hb e) f0 f1 f3 f4 f5⟩
 self:=fun _ _ _ _ _ st h=>wpAny_pyIter_tupleiter st h
theorem tm {P:Program} {w:World} {K:PySem.W.Frag} {tg:Expr} (it:Addr) (lo:Int) (n:Nat):Turn P w K tg (Itr lo n) [it] it (fun i h=>IsRangeIter h it (lo+(i:Nat)*1) ((n:Int) - (i:Nat)) 1) where
 mem:=by simp
 obj:=fun i h st b hb=>by
  have e:b=it:=by simpa using hb
  subst e
  exact ⟨_,st,fun v z=>by
   have z':Data.fields _=Data.cell v:=z
   cases z'⟩
 keep:=fun i h h' st k=>k it (by simp) _ st
 item:=by
  intro X hP hw hK hc i pins s σ H E I hf st hg
  subst hP hw hK
  obtain ⟨f0,f1,f2,f3,f4,f5⟩:=hf it (by simp)
  have W:=Walks.range (prog:=X.prog) (w:=X.w) (I.ok.hd hc) it lo 1 n
  refine W.item i s _ _ hg st fun v h' tk hv st' kk=>?_
  obtain ⟨t,rfl⟩:=hv
  have I1:Inv X pins σ H { s with heap:=h',toks:=tk }:=I.turned (fun b o hb e=>kk b o (by simpa using hb) e) f0 f1 f3 f4 f5
  refine ⟨_,rfl,qc (s:={ s with heap:=h',toks:=tk }) (n:="range_iterator") st' rfl rfl (by decide) ⟨.int (lo+i),H,I1,⟨t,?_⟩,⟨rfl,rfl⟩,st',fun b hb=>(hf b hb).1⟩⟩
  rw [Int.mul_one]
 done:=by
  intro X hP hw hK hc i pins s σ H E I hf st hg
  subst hP hw hK
  obtain ⟨f0,f1,f2,f3,f4,f5⟩:=hf it (by simp)
  exact wpAny_pyNext_range_end (I.ok.hd hc) st (by have:n≤i:=hg; omega) fun h' eb=>⟨rfl,I.turned (t':=s.toks) (fun b o hb e=>eb b o hb e) f0 f1 f3 f4 f5⟩
 self:=fun _ _ _ _ _ st h=>wpAny_pyIter_rangeiter st h
end L2
namespace L2
open PySem PySem.Spec PyProof.Rows
section
variable {X:Cx} {tg:Expr}
def iList (K:PySem.W.Frag) (tl:TE):TI:=fun σ H R=>tl σ H fun x H1=>∃ a,x=.ref a∧(∃ xs,SqL K H1 a xs)∧R (Itl K a) H1
def iTup (K:PySem.W.Frag) (tl:TE):TI:=fun σ H R=>tl σ H fun x H1=>∃ a,x=.ref a∧(∃ xs,SqT K H1 a xs)∧R (Itt K a) H1
theorem aK {l:Expr} {tl:TE} (hl:PE X l tl):PI X tg l (iList X.K tl):=by
 intro pins s σ H R I h
 refine thn (hl pins s σ H _ I h) fun v s1 ⟨x,H1,I1,r1,q1⟩=>?_
 obtain ⟨a,e,⟨xs,hq⟩,q⟩:=q1
 subst e
 cases r1
 obtain ⟨its,rv,p,hz⟩:=I1.list hq
 refine wpAny_pyIter_list p.isList ?_
 refine ⟨s1.heap.objs.size,[s1.heap.objs.size],_,_,H1,rfl,I1.kept (t':=s1.toks) fun b o e=>Heap.get?_push_of_some _ e,uh a _,⟨_,Heap.get?_push_size _ rfl,rfl,rfl⟩,fun b hb=>?_,q⟩
 have e:b=s1.heap.objs.size:=by simpa using hb
 subst e
 exact I1.fpOk (Nat.le_refl _) (I1.hok.fresh (Nat.le_refl _))
theorem ui {l:Expr} {tl:TE} (hl:PE X l tl):PI X tg l (iTup X.K tl):=by
 intro pins s σ H R I h
 refine thn (hl pins s σ H _ I h) fun v s1 ⟨x,H1,I1,r1,q1⟩=>?_
 obtain ⟨a,e,⟨xs,hq⟩,q⟩:=q1
 subst e
 cases r1
 obtain ⟨its,rv,p,hz⟩:=I1.tuple hq
 refine wpAny_pyIter_tuple (show s1.heap.IsTuple a its.toArray from p) ?_
 refine ⟨s1.heap.objs.size,[s1.heap.objs.size],_,_,H1,rfl,I1.kept (t':=s1.toks) fun b o e=>Heap.get?_push_of_some _ e,sZ a _,⟨_,Heap.get?_push_size _ rfl,rfl,rfl⟩,fun b hb=>?_,q⟩
 have e:b=s1.heap.objs.size:=by simpa using hb
 subst e
 exact I1.fpOk (Nat.le_refl _) (I1.hok.fresh (Nat.le_refl _))
theorem qv {pins:List (Addr × Obj)} {σ:St} {H:Hp} {s:Shared} {R:It→Hp→Prop} {E:Value→Shared→Prop} {lo hi:Int} {t u v:Tok} {tk:Nat} (I:Inv X pins σ H s) (h1: -(2^62)≤lo) (h2:lo < 2^62) (h3: -(2^62)≤hi) (h4:hi < 2^62)
  (q:R (Itr lo (hi - lo).toNat) H):wpAny (model X.prog X.w) X.A (pyIter (.ref s.heap.objs.size)) (PIE X pins σ tg R) E { s with heap:=s.heap.push { cls:=.type "range",data:=.fields #[.int lo t,.int hi u,.int 1 v] },toks:=tk }:=by
 refine wpAny_pyIter_range (IsRange.new ..) (small_one h1 h2 h3 h4) ?_
 have I1:Inv X pins σ H { s with heap:=s.heap.push { cls:=.type "range",data:=.fields #[.int lo t,.int hi u,.int 1 v] },toks:=tk }:=I.kept fun b o e=>Heap.get?_push_of_some _ e
 refine ⟨(s.heap.push { cls:=.type "range",data:=.fields #[.int lo t,.int hi u,.int 1 v] }).objs.size,[(s.heap.push { cls:=.type "range",data:=.fields #[.int lo t,.int hi u,.int 1 v] }).objs.size],_,_,H,rfl,
  I1.kept (t':=tk) fun b o e=>Heap.get?_push_of_some _ e,tm _ lo (hi - lo).toNat,?_,fun b hb=>?_,q⟩
 · have e1:lo+((0:Nat):Int)*1=lo:=by simp
   have e2:(((hi - lo).toNat:Nat):Int) - ((0:Nat):Int)=Builtin.Range.rangeSize lo hi 1:=by rw [rangeSize_one]; split <;> omega
   show IsRangeIter _ _ (lo+((0:Nat):Int)*1) ((((hi - lo).toNat:Nat):Int) - ((0:Nat):Int)) 1
   rw [e1,e2]
   exact Heap.get?_push_size _ rfl
 · have e:b=(s.heap.push { cls:=.type "range",data:=.fields #[.int lo t,.int hi u,.int 1 v] }).objs.size:=by simpa using hb
   subst e
   exact I1.fpOk (Nat.le_refl _) (I1.hok.fresh (Nat.le_refl _))
def fM (ta:TA):TI:=fun σ H R=>ta σ H fun vs H1=>∃ j:Int,vs=[.int j]∧ -(2^62)≤j∧j < 2^62∧R (Itr 0 j.toNat) H1
def mI (ta:TA):TI:=fun σ H R=>ta σ H fun vs H1=>∃ i j:Int,vs=[.int i,.int j]∧(-(2^62)≤i∧i < 2^62∧ -(2^62)≤j∧j < 2^62)∧R (Itr i (j - i).toNat) H1
theorem dM {a:Expr} {ta:TA} {p pos:Pos} (hg:Gl X "range") (hm:X.mg "range"=none) (ha:PA X [a] ta) (hs:starEach [a] X.env=[(false,eval a X.env)]:=by rfl):PI X tg (.Call (.Name "range" p) [a] [] pos) (fM ta):=by
 intro pins s σ H R I h
 refine Call_ (cK I hg hm boot_range (PyProof.Rows.callWith_type1 (thn (ha pos pins s σ H _ I h) fun us s1 ⟨vs,H1,I1,r1,q1⟩=>?_) hs rfl))
 obtain ⟨j,e,q1,q2,q⟩:=q1
 subst e
 cases r1 with
 | cons r rr=>
  cases rr
  obtain ⟨t,rfl⟩:=r
  exact call_range_1 (qv I1 (by omega) (by omega) q1 q2 (by simpa using q))
theorem uj {a b:Expr} {ta:TA} {p pos:Pos} (hg:Gl X "range") (hm:X.mg "range"=none) (ha:PA X [a,b] ta) (hs:starEach [a,b] X.env=[(false,eval a X.env),(false,eval b X.env)]:=by rfl) (hs2:starEach [b] X.env=[(false,eval b X.env)]:=by rfl):
  PI X tg (.Call (.Name "range" p) [a,b] [] pos) (mI ta):=by
 intro pins s σ H R I h
 refine Call_ (cK I hg hm boot_range (PyProof.Rows.callWith_type1 (thn (ha pos pins s σ H _ I h) fun us s1 ⟨vs,H1,I1,r1,q1⟩=>?_) (by rw [hs,hs2]) (by rw [hs2]; rfl)))
 obtain ⟨i,j,e,⟨q1,q2,q3,q4⟩,q⟩:=q1
 subst e
 cases r1 with
 | cons r rr=>
  cases rr with
  | cons r' rr=>
   cases rr
   obtain ⟨t,rfl⟩:=r
   obtain ⟨t',rfl⟩:=r'
   exact call_range_2 (qv I1 q1 q2 q3 q4 q)
def tFor (wi:TI) (g:TG) (tb:TS):TS:=fun D σ H=>wi σ H fun J H1=>∃ W:Nat→Nat→St→Hp→Prop,(∃ m,W 0 m σ H1)∧∀ i m σ H,W i m σ H→
 (J.stop i H∧D.nx σ H)∨(J.go i H∧∃ N:St→Hp→Prop,(∀ σ' H',N σ' H'→∃ m',m' < m∧W (i+1) m' σ' H')∧∀ x H',J.yld i H x H'→g x σ H' fun σ2 H2=>tb { D with nx:=N,ct:=N,bk:=D.nx } σ2 H2)
def kB (fp:List Addr) (h:Heap):List (Addr × Obj):=fp.filterMap fun b=>(h.get? b).map fun o=>(b,o)
theorem hE {fp:List Addr} {h:Heap} {b:Addr} {o:Obj} (hb:b∈fp) (e:h.get? b=some o):(b,o)∈kB fp h:=List.mem_filterMap.mpr ⟨b,hb,by rw [e]; rfl⟩
theorem uk {fp:List Addr} {h:Heap} {p:Addr × Obj} (hp:p∈kB fp h):p.1∈fp∧h.get? p.1=some p.2:=by
 obtain ⟨b,hb,e⟩:=List.mem_filterMap.mp hp
 cases q:h.get? b with
 | none=>rw [q] at e; cases e
 | some o=>
  rw [q] at e
  have e':(b,o)=p:=Option.some.inj e
  subst e'
  exact ⟨hb,q⟩
theorem Inv.pinned {pins:List (Addr × Obj)} {σ:St} {H:Hp} {s:Shared} {fp:List Addr} (I:Inv X pins σ H s) (hf:∀ b∈fp,FpOk X pins H b) (ho:∀ b∈fp,∃ o,s.heap.get? b=some o∧∀ v,o.data≠.cell v):Inv X (pins++kB fp s.heap) σ H s:=
 I.pins_of fun p hp=>(List.mem_append.mp hp).elim (fun z=>I.pin p (List.mem_append_right _ z)) fun z=>by
  obtain ⟨hb,e⟩:=uk z
  obtain ⟨f0,f1,f2,_⟩:=hf p.1 hb
  obtain ⟨o,e',d⟩:=ho p.1 hb
  rw [e] at e'; cases e'
  exact ⟨e,f0,f1,f2,d⟩
theorem Inv.unpinned {pins pl:List (Addr × Obj)} {σ:St} {H:Hp} {s:Shared} (I:Inv X (pins++pl) σ H s):Inv X pins σ H s:=I.pins_of fun p hp=>I.pin p (List.mem_append_right _ (List.mem_append_left _ hp))
theorem cr {iter:Expr} {body:List Stmt} {wi:TI} {g:TG} {tb:TS} {pos:Pos} (hp:PassesOwn (model X.prog X.w) X.A X.env X.xe) (hc:X.calm=true) (hi:PI X tg iter wi) (hg:PG X tg g) (hb:PSs X body tb)
  (hs:∀ x,foldedSetIterable iter X.env x=pure x:=by intro _; rfl):PS X (.For tg iter body [] pos) (tFor wi g tb):=by
 intro pins s σ H D I h
 refine wpAny_For (thn (hi pins s σ H _ I h) fun v s1 h1=>thn h1 fun itv s2 h2=>?_) hs
 obtain ⟨it,fp,tn,J,H2,e,I2,T,st2,f2,W,⟨m0,w0⟩,turn⟩:=h2
 subst e
 have stat:∀ {H':Hp},(∀ b∈fp,H' b=none)→∀ b∈fp,FpOk X pins H' b:=fun hn b hb=>⟨hn b hb,(f2 b hb).2⟩
 refine codeAny_forLoop_any (fun n s'=>∃ i σ' H',Inv X pins σ' H' s'∧tn i s'.heap∧(∀ b∈fp,H' b=none)∧W i n σ' H') ?_ m0 ⟨0,σ,H2,I2,st2,fun b hb=>(f2 b hb).1,w0⟩
 rintro n s3 ⟨i,σ3,H3,I3,st3,fr3,w3⟩
 rcases turn i n σ3 H3 w3 with ⟨stop,qn⟩ | ⟨go,N,hN,step⟩
 · refine wpAny_passesOwn hp (thn (T.done X rfl rfl rfl hc i pins s3 σ3 H3 X.xe I3 (stat fr3) st3 stop) fun r s4 ⟨hr,I4⟩=>?_)
   subst hr
   exact wpAny_execs_nil ⟨σ3,H3,I4,qn⟩
 · refine wpAny_passesOwn hp (thn (T.item X rfl rfl rfl hc i pins s3 σ3 H3 X.xe I3 (stat fr3) st3 go) fun r s4 ⟨u,hr,h4⟩=>?_)
   subst hr
   refine wpAny_passesOwn hp (thn h4 fun _ s5 ⟨x,H5,I5,r5,y5,st5,fr5⟩=>?_)
   have I5':=I5.pinned (stat fr5) (T.obj _ _ st5)
   refine wpAny_passesOwn hp (thn (hg _ s5 σ3 H5 x u _ I5' r5 (step x H5 y5)) fun _ s6 ⟨σ6,H6,I6,q6⟩=>?_)
   refine wpAny_passesOwn hp (thn (hb _ s6 σ6 H6 _ I6 q6) fun f s7 q7=>?_)
   have again:∀ {σ7:St} {H7:Hp},Inv X (pins++kB fp s5.heap) σ7 H7 s7→N σ7 H7→∃ m,m < n∧∃ i σ' H',Inv X pins σ' H' s7∧tn i s7.heap∧(∀ b∈fp,H' b=none)∧W i m σ' H':=fun {σ7 H7} I7 n7=>by
    obtain ⟨m',hm,w7⟩:=hN σ7 H7 n7
    refine ⟨m',hm,i+1,σ7,H7,I7.unpinned,T.keep _ _ _ st5 fun b hb o e=>(I7.pin (b,o) (List.mem_append_right _ (List.mem_append_right _ (hE hb e)))).1,fun b hb=>?_,w7⟩
    obtain ⟨o,e,d⟩:=T.obj _ _ st5 b hb
    exact (I7.pin (b,o) (List.mem_append_right _ (List.mem_append_right _ (hE hb e)))).2.1
   cases f with
   | next=>obtain ⟨σ7,H7,I7,n7⟩:=q7; exact again I7 n7
   | cont=>obtain ⟨σ7,H7,I7,n7⟩:=q7; exact again I7 n7
   | brk=>obtain ⟨σ7,H7,I7,q7⟩:=q7; exact ⟨σ7,H7,I7.unpinned,q7⟩
   | ret v=>obtain ⟨x7,σ7,H7,I7,r7,q7⟩:=q7; exact ⟨x7,σ7,H7,I7.unpinned,r7,q7⟩
end
theorem cB {K:PySem.W.Frag} {a:Addr} {xs:List V} {g:TG} {tb:TS} {D:Ends} {σ:St} {H:Hp} (Pv:Nat→St→Hp→Prop) (h0:Pv 0 σ H) (hl:∀ i σ H,i≤xs.length→Pv i σ H→SqL K H a xs)
  (hs:∀ i x σ H,xs[i]? =some x→Pv i σ H→g x σ H fun σ2 H2=>tb { D with nx:=Pv (i+1),ct:=Pv (i+1),bk:=D.nx } σ2 H2) (hd:∀ σ H,Pv xs.length σ H→D.nx σ H):
  ∃ W:Nat→Nat→St→Hp→Prop,(∃ m,W 0 m σ H)∧∀ i m σ H,W i m σ H→
   ((Itl K a).stop i H∧D.nx σ H)∨((Itl K a).go i H∧∃ N:St→Hp→Prop,(∀ σ' H',N σ' H'→∃ m',m' < m∧W (i+1) m' σ' H')∧∀ x H',(Itl K a).yld i H x H'→g x σ H' fun σ2 H2=>tb { D with nx:=N,ct:=N,bk:=D.nx } σ2 H2):=by
 refine ⟨fun i m σ H=>m=xs.length - i∧i≤xs.length∧Pv i σ H,⟨xs.length,by simp,Nat.zero_le _,h0⟩,?_⟩
 rintro i m σ H ⟨rfl,hi,p⟩
 have q:=hl i σ H hi p
 by_cases hlt:i < xs.length
 · refine .inr ⟨⟨xs,xs[i],q,by simp [hlt]⟩,Pv (i+1),fun σ' H' p'=>⟨xs.length - (i+1),by omega,rfl,hlt,p'⟩,fun x H' y=>?_⟩
   obtain ⟨e,y⟩:=y
   subst e
   exact hs i x σ _ (y xs q) p
 · have e:i=xs.length:=by omega
   subst e
   exact .inl ⟨⟨xs,q,Nat.le_refl _⟩,hd σ H p⟩
theorem kC {lo:Int} {n:Nat} {g:TG} {tb:TS} {D:Ends} {σ:St} {H:Hp} (Pv:Nat→St→Hp→Prop) (h0:Pv 0 σ H)
  (hs:∀ i σ H,i < n→Pv i σ H→g (.int (lo+i)) σ H fun σ2 H2=>tb { D with nx:=Pv (i+1),ct:=Pv (i+1),bk:=D.nx } σ2 H2) (hd:∀ σ H,Pv n σ H→D.nx σ H):
  ∃ W:Nat→Nat→St→Hp→Prop,(∃ m,W 0 m σ H)∧∀ i m σ H,W i m σ H→
   ((Itr lo n).stop i H∧D.nx σ H)∨((Itr lo n).go i H∧∃ N:St→Hp→Prop,(∀ σ' H',N σ' H'→∃ m',m' < m∧W (i+1) m' σ' H')∧∀ x H',(Itr lo n).yld i H x H'→g x σ H' fun σ2 H2=>tb { D with nx:=N,ct:=N,bk:=D.nx } σ2 H2):=by
 refine ⟨fun i m σ H=>m=n - i∧i≤n∧Pv i σ H,⟨n,by simp,Nat.zero_le _,h0⟩,?_⟩
 rintro i m σ H ⟨rfl,hi,p⟩
 by_cases hlt:i < n
 · refine .inr ⟨hlt,Pv (i+1),fun σ' H' p'=>⟨n - (i+1),by omega,rfl,hlt,p'⟩,fun x H' y=>?_⟩
   obtain ⟨e,y⟩:=y
   subst e y
   exact hs i σ _ hlt p
 · have e:i=n:=by omega
   subst e
   exact .inl ⟨Nat.le_refl _,hd σ H p⟩
end L2
namespace L2
open PySem PySem.Spec PyProof.Rows
abbrev R2:=V→V→Hp→VK→Prop
def OpR (X:Cx) (f:Value→Value→Sem Value) (r:R2):Prop:=
 ∀ (pins:List (Addr × Obj)) (s:Shared) (σ:St) (H:Hp) (x y:V) (v u:Value) (Q:VK),Inv X pins σ H s→RelV x v→RelV y u→r x y H Q→
  wpAny (model X.prog X.w) X.A (f v u) (EP X pins σ Q) X.xe s
def CallR (X:Cx) (f:Value) (r:List V→Hp→VK→Prop):Prop:=
 ∀ (pins:List (Addr × Obj)) (s:Shared) (σ:St) (H:Hp) (xs:List V) (us:List Value) (Q:VK),Inv X pins σ H s→Vals xs us→r xs H Q→
  wpAny (model X.prog X.w) X.A (call f us) (EP X pins σ Q) X.xe s
def tOp (r:R2) (ta tb:TE):TE:=fun σ H Q=>ta σ H fun x H1=>tb σ H1 fun y H2=>r x y H2 Q
def tUn (r:V→Hp→VK→Prop) (ta:TE):TE:=fun σ H Q=>ta σ H fun x H1=>r x H1 Q
def rI (C:Int→Int→Prop) (g:Int→Int→V):R2:=fun x y H Q=>∃ i j,x=.int i∧y=.int j∧C i j∧Q (g i j) H
def rI0 (g:Int→Int→V):R2:=fun x y H Q=>∃ i j,x=.int i∧y=.int j∧Q (g i j) H
def rU (g:Int→V):V→Hp→VK→Prop:=fun x H Q=>∃ i,x=.int i∧Q (g i) H
section
variable {X:Cx} {a b c:Expr} {ta tb tc:TE} {pos:Pos}
theorem binT (ha:PE X a ta) (hb:PE X b tb) {pins:List (Addr × Obj)} {s:Shared} {σ:St} {H:Hp} {R:V→V→Hp→Prop} (I:Inv X pins σ H s)
  (h:ta σ H fun x H1=>tb σ H1 fun y H2=>R x y H2) {Q:Value→Shared→Prop} {f:Value→Value→Sem Value}
  (hf:∀ v u s2 x y H2,Inv X pins σ H2 s2→RelV x v→RelV y u→R x y H2→wpAny (model X.prog X.w) X.A (f v u) Q X.xe s2):
  wpAny (model X.prog X.w) X.A (eval a X.env) (fun v s₁=>wpAny (model X.prog X.w) X.A (eval b X.env) (fun u s₂=>wpAny (model X.prog X.w) X.A (f v u) Q X.xe s₂) X.xe s₁) X.xe s:=by
 refine thn (ha pins s σ H _ I h) fun v s1 ⟨x,H1,I1,r1,q1⟩=>?_
 refine thn (hb pins s1 σ H1 _ I1 q1) fun u s2 ⟨y,H2,I2,r2,q2⟩=>?_
 exact hf v u s2 x y H2 I2 r1 r2 q2
theorem ao {op:Operator} {r:R2} (ho:OpR X (binaryOp op) r) (ha:PE X a ta) (hb:PE X b tb):PE X (.BinOp a op b pos) (tOp r ta tb):=by
 intro pins s σ H Q I h
 exact wpAny_BinOp (binT ha hb I h fun v u s2 x y H2 I2 rx ry q=>ho pins s2 σ H2 x y v u Q I2 rx ry q)
theorem opI {f:Value→Value→Sem Value} {C:Int→Int→Prop} {g:Int→Int→Int}
  (rule:∀ (i j:Int) (t u:Tok) (s:Shared) (Q:Value→Shared→Prop) (E:Value→Shared→Prop),C i j→Q (.int (g i j) s.toks) { s with toks:=s.toks+1 }→wpAny (model X.prog X.w) X.A (f (.int i t) (.int j u)) Q E s):
  OpR X f (rI C fun i j=>.int (g i j)):=by
 intro pins s σ H x y v u Q I rx ry h
 obtain ⟨i,j,rfl,rfl,hc,q⟩:=h
 obtain ⟨t,rfl⟩:=rx
 obtain ⟨t',rfl⟩:=ry
 exact rule i j t t' s _ _ hc ⟨.int (g i j),H,I.tok _,⟨_,rfl⟩,q⟩
theorem wR {f:Value→Value→Sem Value} {g:Int→Int→Int}
  (rule:∀ (i j:Int) (t u:Tok) (s:Shared) (Q:Value→Shared→Prop) (E:Value→Shared→Prop),Q (.int (g i j) s.toks) { s with toks:=s.toks+1 }→wpAny (model X.prog X.w) X.A (f (.int i t) (.int j u)) Q E s):
  OpR X f (rI0 fun i j=>.int (g i j)):=by
 intro pins s σ H x y v u Q I rx ry h
 obtain ⟨i,j,rfl,rfl,q⟩:=h
 obtain ⟨t,rfl⟩:=rx
 obtain ⟨t',rfl⟩:=ry
 exact rule i j t t' s _ _ ⟨.int (g i j),H,I.tok _,⟨_,rfl⟩,q⟩
theorem vq {f:Value→Value→Sem Value} {g:Int→Int→Bool}
  (rule:∀ (i j:Int) (t u:Tok) (s:Shared) (Q:Value→Shared→Prop) (E:Value→Shared→Prop),Q (.bool (g i j)) s→wpAny (model X.prog X.w) X.A (f (.int i t) (.int j u)) Q E s):
  OpR X f (rI0 fun i j=>.bl (g i j)):=by
 intro pins s σ H x y v u Q I rx ry h
 obtain ⟨i,j,rfl,rfl,q⟩:=h
 obtain ⟨t,rfl⟩:=rx
 obtain ⟨t',rfl⟩:=ry
 exact rule i j t t' s _ _ ⟨.bl (g i j),H,I,rfl,q⟩
def CDiv (i j:Int):Prop:=0 < j∧j < 1073741824
def CPow (i j:Int):Prop:=0≤j∧j≤1000000∧i.natAbs < 2^64
def CMul (i j:Int):Prop:=(-(2^64) < i∧i < 2^64)∨(-(2^64) < j∧j < 2^64)
theorem CMul.ok {i j:Int} (h:CMul i j):IntMulOk i j:=by
 rcases h with ⟨h1,h2⟩ | ⟨h1,h2⟩
 · exact .of_left (intBits_le_64 h1 h2)
 · exact .of_right (intBits_le_64 h1 h2)
theorem wS:OpR X (binaryOp .Add) (rI0 fun i j=>.int (i+j)):=wR fun _ _ _ _ _ _ _ q=>add_int q
theorem wT:OpR X (binaryOp .Sub) (rI0 fun i j=>.int (i - j)):=wR fun _ _ _ _ _ _ _ q=>sub_int q
theorem wU:OpR X (binaryOp .Mult) (rI CMul fun i j=>.int (i*j)):=opI fun _ _ _ _ _ _ _ hc q=>mul_int q hc.ok
theorem wc:OpR X (binaryOp .FloorDiv) (rI CDiv fun i j=>.int (i / j)):=opI fun i j _ _ _ _ _ hc q=>by
 have h1:(0:Int) < j:=hc.1
 have h2:j < 1073741824:=hc.2
 exact floordiv_int (by omega) (by rw [Int.fdiv_eq_ediv_of_nonneg i (by omega)]; exact q) (.inl (PyProof.noPylong_small (by omega)))
theorem wV:OpR X (binaryOp .Mod) (rI (fun _ j=>0 < j) fun i j=>.int (i % j)):=opI fun i j _ _ _ _ _ hc q=>by
 have h1:(0:Int) < j:=hc
 exact mod_int' (by omega) (by rw [Int.fmod_eq_emod_of_nonneg i (by omega)]; exact q)
theorem wW:OpR X (binaryOp .Pow) (rI CPow fun i j=>.int (i^j.toNat)):=opI fun _ _ _ _ _ _ _ hc q=>pow_int_small hc.1 hc.2.1 hc.2.2 q
end
def scal:V→V→Bool
 | .non,.non=>true | .non,.int _=>true | .int _,.non=>true | .non,.bl _=>true | .bl _,.non=>true | .non,.str _=>true | .str _,.non=>true
 | .int _,.int _=>true | .bl _,.bl _=>true | .str _,.str _=>true | .byt _,.byt _=>true
 | .int _,.str _=>true | .str _,.int _=>true | .bl _,.str _=>true | .str _,.bl _=>true
 | _,_=>false
def rEq:R2:=fun x y H Q=>scal x y=true∧Q (.bl (decide (x=y))) H
def rNe:R2:=fun x y H Q=>scal x y=true∧Q (.bl (!decide (x=y))) H
theorem sD {i j:Int}:decide (V.int i=V.int j)=(i==j):=by
 rw [Bool.eq_iff_iff]
 simp
theorem ul {i j:Bool}:decide (V.bl i=V.bl j)=(i==j):=by
 rw [Bool.eq_iff_iff]
 simp
theorem sE {i j:Str}:decide (V.str i=V.str j)=(i==j):=by
 rw [Bool.eq_iff_iff]
 simp
theorem sF {i j:Array UInt8}:decide (V.byt i=V.byt j)=(i.toList==j.toList):=by
 rw [Bool.eq_iff_iff]
 cases i
 cases j
 simp
section
variable {X:Cx} {a b c:Expr} {ta tb tc:TE} {pos:Pos}
theorem aM {pins:List (Addr × Obj)} {σ:St} {H:Hp} {s:Shared} {Q:VK} {k k':Bool} (I:Inv X pins σ H s) (q:Q (.bl k) H) (e:k=k'):EP X pins σ Q (.bool k') s:=by
 subst e
 exact ⟨.bl k,H,I,rfl,q⟩
theorem tp:OpR X (compareOp .Eq) rEq:=by
 intro pins s σ H x y v u Q I rx ry h
 obtain ⟨hs,q⟩:=h
 cases x with
 | non=>
  cases rx
  cases y with
  | non=>cases ry; exact PySem.EqNone.eq_none_none (aM I q (by simp))
  | bl j=>cases ry; exact PySem.EqNone.eq_none_bool (aM I q (by simp))
  | int j=>obtain ⟨t',rfl⟩:=ry; exact PySem.EqNone.eq_none_int (aM I q (by simp))
  | str j=>obtain ⟨t',rfl⟩:=ry; exact PySem.EqNone.eq_none_str (aM I q (by simp))
  | _=>exact absurd (show false=true from hs) Bool.false_ne_true
 | bl i=>
  cases rx
  cases y with
  | non=>cases ry; exact PySem.EqNone.eq_bool_none (aM I q (by simp))
  | bl j=>cases ry; exact eq_bool (aM I q ul)
  | str j=>obtain ⟨t',rfl⟩:=ry; exact PySem.EqMixed.eq_bool_str (aM I q (by simp))
  | _=>exact absurd (show false=true from hs) Bool.false_ne_true
 | int i=>
  obtain ⟨t,rfl⟩:=rx
  cases y with
  | non=>cases ry; exact PySem.EqNone.eq_int_none (aM I q (by simp))
  | int j=>obtain ⟨t',rfl⟩:=ry; exact eq_int (aM I q sD)
  | str j=>obtain ⟨t',rfl⟩:=ry; exact PySem.EqMixed.eq_int_str (aM I q (by simp))
  | _=>exact absurd (show false=true from hs) Bool.false_ne_true
 | str i=>
  obtain ⟨t,rfl⟩:=rx
  cases y with
  | non=>cases ry; exact PySem.EqNone.eq_str_none (aM I q (by simp))
  | bl j=>cases ry; exact PySem.EqMixed.eq_str_bool (aM I q (by simp))
  | int j=>obtain ⟨t',rfl⟩:=ry; exact PySem.EqMixed.eq_str_int (aM I q (by simp))
  | str j=>obtain ⟨t',rfl⟩:=ry; exact eq_str (aM I q sE)
  | _=>exact absurd (show false=true from hs) Bool.false_ne_true
 | byt i=>
  obtain ⟨t,rfl⟩:=rx
  cases y with
  | byt j=>obtain ⟨t',rfl⟩:=ry; exact PySem.W.eq_bytes (aM I q sF)
  | _=>exact absurd (show false=true from hs) Bool.false_ne_true
 | _=>cases y <;> exact absurd (show false=true from hs) Bool.false_ne_true
theorem tq:OpR X (compareOp .NotEq) rNe:=by
 intro pins s σ H x y v u Q I rx ry h
 obtain ⟨hs,q⟩:=h
 cases x with
 | non=>
  cases rx
  cases y with
  | non=>cases ry; exact PySem.EqNone.ne_none_none (aM I q (by simp))
  | bl j=>cases ry; exact PySem.EqNone.ne_none_bool (aM I q (by simp))
  | int j=>obtain ⟨t',rfl⟩:=ry; exact PySem.EqNone.ne_none_int (aM I q (by simp))
  | str j=>obtain ⟨t',rfl⟩:=ry; exact PySem.EqNone.ne_none_str (aM I q (by simp))
  | _=>exact absurd (show false=true from hs) Bool.false_ne_true
 | bl i=>
  cases rx
  cases y with
  | non=>cases ry; exact PySem.EqNone.ne_bool_none (aM I q (by simp))
  | bl j=>cases ry; exact ne_bool (aM I q (congrArg not ul))
  | str j=>obtain ⟨t',rfl⟩:=ry; exact PySem.EqMixed.ne_bool_str (aM I q (by simp))
  | _=>exact absurd (show false=true from hs) Bool.false_ne_true
 | int i=>
  obtain ⟨t,rfl⟩:=rx
  cases y with
  | non=>cases ry; exact PySem.EqNone.ne_int_none (aM I q (by simp))
  | int j=>obtain ⟨t',rfl⟩:=ry; exact ne_int (aM I q (congrArg not sD))
  | str j=>obtain ⟨t',rfl⟩:=ry; exact PySem.EqMixed.ne_int_str (aM I q (by simp))
  | _=>exact absurd (show false=true from hs) Bool.false_ne_true
 | str i=>
  obtain ⟨t,rfl⟩:=rx
  cases y with
  | non=>cases ry; exact PySem.EqNone.ne_str_none (aM I q (by simp))
  | bl j=>cases ry; exact PySem.EqMixed.ne_str_bool (aM I q (by simp))
  | int j=>obtain ⟨t',rfl⟩:=ry; exact PySem.EqMixed.ne_str_int (aM I q (by simp))
  | str j=>obtain ⟨t',rfl⟩:=ry; exact ne_str (aM I q (congrArg not sE))
  | _=>exact absurd (show false=true from hs) Bool.false_ne_true
 | byt i=>
  obtain ⟨t,rfl⟩:=rx
  cases y with
  | byt j=>obtain ⟨t',rfl⟩:=ry; exact PySem.W.ne_bytes (aM I q (congrArg not sF))
  | _=>exact absurd (show false=true from hs) Bool.false_ne_true
 | _=>cases y <;> exact absurd (show false=true from hs) Bool.false_ne_true
theorem xS:OpR X (compareOp .Lt) (rI0 fun i j=>.bl (decide (i < j))):=vq fun _ _ _ _ _ _ _ q=>lt_int q
theorem xT:OpR X (compareOp .LtE) (rI0 fun i j=>.bl (decide (i≤j))):=vq fun _ _ _ _ _ _ _ q=>le_int q
theorem xU:OpR X (compareOp .Gt) (rI0 fun i j=>.bl (decide (j < i))):=vq fun _ _ _ _ _ _ _ q=>gt_int q
theorem um:OpR X (compareOp .In) (fun x y H Q=>∃ i j,x=.str i∧y=.str j∧Q (.bl (!(Builtin.Str.occurrences j i 0 j.length 1).isEmpty)) H):=by
 intro pins s σ H x y v u Q I rx ry h
 obtain ⟨i,j,rfl,rfl,q⟩:=h
 obtain ⟨t,rfl⟩:=rx
 obtain ⟨t',rfl⟩:=ry
 exact in_str (aM I q rfl)
theorem wX:OpR X (compareOp .Is) (fun x y H Q=>y=.non∧Q (.bl (decide (x=.non))) H):=by
 intro pins s σ H x y v u Q I rx ry h
 obtain ⟨rfl,q⟩:=h
 cases ry
 refine is_none_gen (aM I q ?_)
 cases x <;> first
  | (cases rx; rfl)
  | (obtain ⟨t,rfl⟩:=rx; rfl)
theorem aq (b:Expr) {op:CmpOp} (h:op≠.In:=by decide) (h2:op≠.NotIn:=by decide):behindInMarks op b=false:=by
 have e1:(op==CmpOp.In)=false:=by cases op <;> first | rfl | exact absurd rfl h
 have e2:(op==CmpOp.NotIn)=false:=by cases op <;> first | rfl | exact absurd rfl h2
 cases b <;> simp [behindInMarks,e1,e2]
theorem a8 {op:CmpOp} {r:R2} (ho:OpR X (compareOp op) r) (ha:PE X a ta) (hb:PE X b tb) (hm:behindInMarks op b=false):PE X (.Compare a [op] [b] pos) (tOp r ta tb):=by
 intro pins s σ H Q I h
 exact wpAny_Compare1 (binT ha hb I h fun v u s2 x y H2 I2 rx ry q=>ho pins s2 σ H2 x y v u Q I2 rx ry q) hm
def tTest (t:TE):TT:=fun σ H Q=>t σ H fun x H'=>∃ k,x=.bl k∧Q k H'
theorem ap {op:CmpOp} {r:R2} (ho:OpR X (compareOp op) r) (ha:PE X a ta) (hb:PE X b tb) (hm:behindInMarks op b=false):PT X (.Compare a [op] [b] pos) (tTest (tOp r ta tb)):=by
 intro pins s σ H Q I h
 refine wpAny_isTrue_Compare1 (thn (ha pins s σ H _ I h) fun v s1 ⟨x,H1,I1,r1,q1⟩=>thn (hb pins s1 σ H1 _ I1 q1) fun u s2 ⟨y,H2,I2,r2,q2⟩=>
  thn (ho pins s2 σ H2 x y v u _ I2 r1 r2 q2) fun c s3 ⟨z,H3,I3,r3,k,e,q3⟩=>?_) hm
 subst e
 cases r3
 exact wpAny_truthy_bool ⟨H3,I3,q3⟩
theorem kD:(sizeLine:Nat) < 2^63:=by rw [sizeLine_eq]; decide
theorem tu:OpR X (binaryOp .Add) (fun x y H Q=>∃ i j,x=.str i∧y=.str j∧i.length+j.length≤sizeLine∧Q (.str (i++j)) H):=by
 intro pins s σ H x y v u Q I rx ry h
 obtain ⟨i,j,rfl,rfl,hz,q⟩:=h
 obtain ⟨t,rfl⟩:=rx
 obtain ⟨t',rfl⟩:=ry
 exact add_str (fun t' tk=>⟨.str (i++j),H,I.tok _,⟨_,rfl⟩,q⟩) hz
theorem cD {x:V} {us:List Value} (r:Vals [x] us):∃ u,us=[u]∧RelV x u:=by
 cases r with
 | cons r1 r2=>cases r2; exact ⟨_,rfl,r1⟩
theorem vS {x y:V} {us:List Value} (r:Vals [x,y] us):∃ u w',us=[u,w']∧RelV x u∧RelV y w':=by
 cases r with
 | cons r1 r2=>
  cases r2 with
  | cons r3 r4=>cases r4; exact ⟨_,_,rfl,r1,r3⟩
theorem oU:CallR X (.type "int") (fun xs H Q=>(∃ i,xs=[.int i]∧Q (.int i) H)∨∃ k,xs=[.bl k]∧Q (.int (if k then 1 else 0)) H):=by
 intro pins s σ H xs us Q I r h
 rcases h with ⟨i,rfl,q⟩ | ⟨k,rfl,q⟩
 · obtain ⟨u,rfl,t,rfl⟩:=cD r
   exact call_int_int ⟨.int i,H,I,⟨_,rfl⟩,q⟩
 · obtain ⟨u,rfl,r1⟩:=cD r
   cases r1
   exact call_int_bool ⟨.int (if k then 1 else 0),H,I.tok _,⟨_,rfl⟩,q⟩
end
end L2
namespace L2
open PySem PySem.Spec PyProof.Rows
structure ObjM (h:Heap) (x dx C:Addr) (mA:Str→Option Value):Prop where
 obj:h.get? x=some (PySem.W.instObj C dx)
 ns:h.Ns1 dx mA
 ne:dx≠x
theorem uo {h:Heap} {dx:Addr} {mA:Str→Option Value} (n:h.Ns1 dx mA):∃ od,h.get? dx=some od∧∀ name,PySem.W.lookIn name od=some (mA name):=by
 obtain ⟨o,es,ep,ho,hd,hk,_,hm⟩:=n
 refine ⟨o,ho,fun name=>?_⟩
 have e:=hm name
 unfold nsFind findBy at e
 rw [← Array.find?_toList] at e
 unfold PySem.W.lookIn
 rw [hd]
 dsimp only
 split
 · rename_i y q
   rw [q] at e
   exact congrArg some e
 · rename_i q
   rw [q] at e
   have a:es.toList.any (·.refKey)=false:=by
    rw [List.any_eq_false]
    intro y hy
    obtain ⟨z,t,hkey⟩:=hk y (Array.mem_toList_iff.mp hy)
    simp [DictEntry.refKey,hkey]
   have a':¬ es.toList.any (·.refKey)=true:=by rw [a]; exact Bool.false_ne_true
   rw [if_neg a']
   exact congrArg some e
theorem ObjM.look {h:Heap} {x dx C:Addr} {mA:Str→Option Value} (I:ObjM h x dx C mA):∃ od,PySem.W.InstAt h x (PySem.W.instObj C dx) C (some od)∧∀ name,PySem.W.lookIn name od=some (mA name):=
 let ⟨od,ho,hl⟩:=uo I.ns
 ⟨od,⟨I.obj,rfl,rfl,ho⟩,hl⟩
section
variable {prog:Program} {w:World} {A:Around} {E:Value→Shared→Prop} {s:Shared} {K:PySem.W.Frag} {x dx C f:Addr} {mA:Str→Option Value} {name:Str} {v:Value}
theorem wd {expr:Bool} {Q:Value→Shared→Prop} (X:K.In s.heap) (I:ObjM s.heap x dx C mA) (hg:PySem.W.plainGet K C name=true) (hh:PySem.W.hasDictIn K C=true)
  (ha:PySem.W.findIn K (.ref C) name=some none) (hv:mA name=some v) (hv':PySem.W.handedIn v=true) (h:Q v { s with toks:=s.toks+1 }):
  wpAny (model prog w) A (getAttr (.ref x) name expr) Q E s:=by
 obtain ⟨od,J,hl⟩:=I.look
 exact PySem.W.get_value X J (PySem.W.plainGet_of hg).1 (PySem.W.findObj_own hh ha rfl (by rw [hl,hv])) hv' h
theorem vt {pl:Sem Bool} {Q:Value × List Value→Shared→Prop} (X:K.In s.heap) (I:ObjM s.heap x dx C mA) (hg:PySem.W.plainGet K C name=true)
  (hf:PySem.W.findIn K (.ref C) name=some (some (.ref f))) (ht:PySem.W.isFn K (.ref f)=true) (hv:mA name=none) (h:Q (.ref f,[.ref x]) s):
  wpAny (model prog w) A (getMethod (.ref x) name pl) Q E s:=by
 obtain ⟨od,J,hl⟩:=I.look
 exact PySem.W.method_fn X J (PySem.W.plainGet_of hg).1 (PySem.W.plainGet_of hg).2 hf (beq_iff_eq.mp ht) (by show (PySem.W.lookIn name od).map (·.isSome)=some false; rw [hl,hv]; rfl) h
theorem we {ns:List Str} {Q:Unit→Shared→Prop} (X:K.In s.heap) (I:ObjM s.heap x dx C mA)
  (hs:PySem.W.findIn K (.ref C) "__setattr__"=some (some (.builtin "object.__setattr__"))) (hp:PySem.W.plainOver K C=true) (ht:PySem.W.takerIn K C name=some none) (hh:PySem.W.hasDictIn K C=true)
  (hw:PySem.Within mA ns) (hsz:ns.length≤sizeLine)
  (h:∀ h',ObjM h' x dx C (fun y=>if y=name then some v else mA y)→Heap.SameBut dx s.heap h'→Q () { s with heap:=h',toks:=s.toks+2 }):
  wpAny (model prog w) A (setAttr (.ref x) name v) Q E s:=by
 obtain ⟨od,J,hl⟩:=I.look
 refine PySem.W.set_plain X J hs (PySem.W.osa_open (s:={ s with toks:=s.toks+1 }) (r:=none) X J hp ht fun b=>?_)
 obtain ⟨cd,hc,hd'⟩:=PySem.W.any_some hh
 have hx:s.heap.get? x=some ⟨.ref C,some dx,.plain,#[]⟩:=I.obj
 refine wpAny_bind (wpAny_pure (wpAny_bind (wpAny_bind (wpAny_loadPart hx (wpAny_bind (PySem.W.Looks.here (s:={ s with toks:=s.toks+1 }) (PySem.W.looks_clsIn X hc) ?_))))))
 rw [hd']
 refine wpAny_pure (a:=some dx) (wpAny_bind (wpAny_pure (wpAny_bind ?_)))
 refine wpAny_nsSet1 (s:={ s with toks:=s.toks+1 }) I.ns fun h' hn2 hs2=>?_
 obtain ⟨oD,esD,epD,hoD,hdD,hcD⟩:=hn2.count (PySem.Within.cons name v hw)
 refine wpAny_bind (wpAny_lookBehind hoD (by rw [hdD]; exact pastItsLine_dict (Nat.le_trans hcD (by rw [List.length_cons]; omega))) ?_)
 exact wpAny_pure (h _ ⟨(hs2.2 _ (Ne.symm I.ne)).trans I.obj,hn2,I.ne⟩ hs2)
theorem vv {R:Result→Shared→Prop} {vs:List Value} {kw:List (Str × Value)} (X:K.In s.heap) (hm:PySem.W.makesIn K C=true)
  (hi:PySem.W.findIn K (.ref C) "__init__"=some (some (.ref f))) (hf:PySem.W.typeIn K (.ref f)=some (.type "function"))
  (h:codeAny (model prog w) (A.under (.builtin "type.__call__" ⟨.ref C::vs,kw⟩)) (.call (.ref f) ⟨.ref (s.heap.objs.size+1)::vs,kw⟩) (PySem.W.InitBack (s.heap.objs.size+1) R)
   { s with heap:=(s.heap.push PySem.W.emptyDict).push (PySem.W.instObj C s.heap.objs.size) }):
  codeAny (model prog w) A (.call (.ref C) ⟨vs,kw⟩) R s:=by
 obtain ⟨hh,g,d,t,os⟩:=s
 exact PySem.W.make_core (PySem.W.makes_of X hm) (PySem.W.looks_findIn X hi) (fun self=>PySem.W.bind_fn X self hf) (.inl rfl) h
end
def putF (f:Str) (v:V):List (Str × V)→List (Str × V)
 | []=>[(f,v)]
 | (g,x)::r=>if g=f then (g,v)::r else (g,x)::putF f v r
theorem lM (f g:Str) (v:V):∀ fs:List (Str × V),(putF f v fs).lookup g=if g=f then some v else fs.lookup g
 | []=>by
  show List.lookup g [(f,v)]=_
  by_cases h:g=f
  · have hb:(g==f)=true:=beq_iff_eq.mpr h
    simp only [List.lookup,hb,if_pos h]
  · have hb:(g==f)=false:=beq_eq_false_iff_ne.mpr h
    simp only [List.lookup,hb,if_neg h]
 | (k,x)::r=>by
  have ih:=lM f g v r
  rw [show putF f v ((k,x)::r)=(if k=f then (k,v)::r else (k,x)::putF f v r) from rfl]
  by_cases hk:k=f
  · rw [if_pos hk]
    by_cases h:g=k
    · have hb:(g==k)=true:=beq_iff_eq.mpr h
      simp only [List.lookup,hb,if_pos (h.trans hk)]
    · have hb:(g==k)=false:=beq_eq_false_iff_ne.mpr h
      simp only [List.lookup,hb,if_neg (fun e:g=f=>h (e.trans hk.symm))]
  · rw [if_neg hk]
    by_cases h:g=k
    · have hb:(g==k)=true:=beq_iff_eq.mpr h
      simp only [List.lookup,hb,if_neg (fun e:g=f=>hk (h.symm.trans e))]
    · have hb:(g==k)=false:=beq_eq_false_iff_ne.mpr h
      simp only [List.lookup,hb]
      exact ih
theorem kE (f:Str) (v:V):∀ fs:List (Str × V),f∈(putF f v fs).map (·.1)∧∀ g,g∈fs.map (·.1)→g∈(putF f v fs).map (·.1)
 | []=>⟨by simp [putF],fun g h=>by simp at h⟩
 | (k,x)::r=>by
  obtain ⟨i1,i2⟩:=kE f v r
  rw [show putF f v ((k,x)::r)=(if k=f then (k,v)::r else (k,x)::putF f v r) from rfl]
  by_cases hk:k=f
  · rw [if_pos hk]
    subst hk
    exact ⟨by simp,fun g h=>by simpa using h⟩
  · rw [if_neg hk]
    refine ⟨?_,fun g h=>?_⟩
    · rw [List.map_cons]
      exact List.mem_cons_of_mem _ i1
    · rw [List.map_cons] at h ⊢
      rcases List.mem_cons.mp h with e | e
      · exact List.mem_cons.mpr (.inl e)
      · exact List.mem_cons_of_mem _ (i2 g e)
theorem lN (f:Str) (v:V):∀ fs:List (Str × V),(putF f v fs).length≤fs.length+1
 | []=>by simp [putF]
 | (k,x)::r=>by
  have ih:=lN f v r
  rw [show putF f v ((k,x)::r)=(if k=f then (k,v)::r else (k,x)::putF f v r) from rfl]
  by_cases hk:k=f
  · rw [if_pos hk,List.length_cons,List.length_cons]; omega
  · rw [if_neg hk,List.length_cons,List.length_cons]; omega
theorem RelO.some_of {v:V} {o:Option Value} (r:RelO (some v) o):∃ u,o=some u∧RelV v u:=by
 cases o with
 | none=>exact (show False from r).elim
 | some u=>exact ⟨u,rfl,r⟩
theorem RelO.none_of {o:Option Value} (r:RelO none o):o=none:=by
 cases o with
 | none=>rfl
 | some u=>exact (show False from r).elim
theorem up {v:V} {u:Value} (r:RelV v u):PySem.W.handedIn u=true:=by
 cases v with
 | non=>cases (show u=Value.none from r); rfl
 | bl b=>cases (show u=Value.bool b from r); rfl
 | int i=>obtain ⟨t,e⟩:=(show ∃ t,u=Value.int i t from r); cases e; rfl
 | str x=>obtain ⟨t,e⟩:=(show ∃ t,u=Value.str x t from r); cases e; rfl
 | byt b=>obtain ⟨t,e⟩:=(show ∃ t,u=Value.bytes b t from r); cases e; rfl
 | flt b=>obtain ⟨t,e⟩:=(show ∃ t,u=Value.float b t from r); cases e; rfl
 | ref a=>cases (show u=Value.ref a from r); rfl
 | ty n=>cases (show u=Value.type n from r); rfl
section
variable {P:Program} {w:World} {H H':Hp} {h h':Heap} {a C dx:Addr} {fs fs':List (Str × V)}
theorem lp (hok:HOk P w H h) (e:H a=some (.ins C dx fs)):∃ mA,ObjM h a dx C mA∧(∀ f,RelO (fs.lookup f) (mA f))∧PySem.Within mA (fs.map (·.1))∧fs.length≤1000∧H dx=some (.own a):=by
 obtain ⟨d,z,ne,ob,mA,n,r,q⟩:=(show ObjOk P w H h a (.ins C dx fs) from hok a _ e)
 exact ⟨mA,⟨ob,n,ne⟩,r,q,z,d⟩
end
structure Cls (K:PySem.W.Frag) (C:Addr):Prop where
 pg:PySem.W.plainGet K C Str.empty=true
 hd:PySem.W.hasDictIn K C=true
 po:PySem.W.plainOver K C=true
 sa:PySem.W.findIn K (.ref C) "__setattr__"=some (some (.builtin "object.__setattr__"))
theorem Cls.get {K:PySem.W.Frag} {C:Addr} (c:Cls K C) (f:Str):PySem.W.plainGet K C f=true:=c.pg
def NoAttr (K:PySem.W.Frag) (C:Addr) (f:Str):Prop:=PySem.W.findIn K (.ref C) f=some none
theorem NoAttr.taker {K:PySem.W.Frag} {C:Addr} {f:Str} (n:NoAttr K C f):PySem.W.takerIn K C f=some none:=by
 unfold PySem.W.takerIn
 rw [show PySem.W.findIn K (.ref C) f=some none from n]
 rfl
structure Meth (K:PySem.W.Frag) (C:Addr) (m:Str) (f:Addr):Prop where
 at_:PySem.W.findIn K (.ref C) m=some (some (.ref f))
 fn:PySem.W.isFn K (.ref f)=true
 kp:PySem.W.keepIn K (.ref f)=true
section
variable {X:Cx} {pins:List (Addr × Obj)} {σ:St} {H:Hp} {s:Shared} {a C dx:Addr} {fs:List (Str × V)} {f:Str} {v:V} {A:Around} {E:Value→Shared→Prop}
theorem tw {b:Bool} {Q:Value→Shared→Prop} (I:Inv X pins σ H s) (e:H a=some (.ins C dx fs)) (c:Cls X.K C) (n:NoAttr X.K C f) (l:fs.lookup f=some v)
  (h:∀ u s',Inv X pins σ H s'→RelV v u→Q u s'):wpAny (model X.prog X.w) A (getAttr (.ref a) f b) Q E s:=by
 obtain ⟨mA,O,r,_,_,_⟩:=lp I.hok e
 obtain ⟨u,hu,ru⟩:=RelO.some_of (v:=v) (o:=mA f) (by rw [← l]; exact r f)
 exact wd I.kIn O (c.get f) c.hd n hu (up ru) (h u _ (I.tok _) ru)
theorem mJ {m:Str} {g:Addr} {pl:Sem Bool} {Q:Value × List Value→Shared→Prop} (I:Inv X pins σ H s) (e:H a=some (.ins C dx fs)) (c:Cls X.K C) (k:Meth X.K C m g) (l:fs.lookup m=none)
  (h:Q (.ref g,[.ref a]) s):wpAny (model X.prog X.w) A (getMethod (.ref a) m pl) Q E s:=by
 obtain ⟨mA,O,r,_,_,_⟩:=lp I.hok e
 have hn:mA m=none:=RelO.none_of (by rw [← l]; exact r m)
 exact vt I.kIn O (c.get m) k.at_ k.fn hn h
theorem tz {y:V} {u:Value} {Q:Unit→Shared→Prop} (I:Inv X pins σ H s) (e:H a=some (.ins C dx fs)) (c:Cls X.K C) (n:NoAttr X.K C f) (hl:fs.length < 1000) (ry:RelV y u)
  (h:∀ s',Inv X pins σ (upd H a (.ins C dx (putF f y fs))) s'→Q () s'):wpAny (model X.prog X.w) A (setAttr (.ref a) f u) Q E s:=by
 obtain ⟨mA,O,r,wi,_,ho⟩:=lp I.hok e
 have hz:(fs.map (·.1)).length≤sizeLine:=by rw [List.length_map,sizeLine_eq]; omega
 refine we I.kIn O c.sa c.po n.taker c.hd wi hz fun h' O' sb=>h _ ?_
 have hd:∃ o,h'.get? dx=some o:=let ⟨o,_,_,e',_⟩:=O'.ns; ⟨o,e'⟩
 refine I.write (x:=a) (e:=dx) (by rw [e]; exact True.intro) (.inr ho) (fun b q hb z=>(sb.2 b hb).trans z) hd ?_
 refine ⟨by rw [ah O.ne]; exact ho,?_,O.ne,O'.obj,_,O'.ns,fun g=>?_,fun g hg=>?_⟩
 · have:=lN f y fs; omega
 · show RelO ((putF f y fs).lookup g) (if g=f then some u else mA g)
   rw [lM]
   by_cases q:g=f
   · rw [if_pos q,if_pos q]; exact ry
   · rw [if_neg q,if_neg q]; exact r g
 · by_cases q:g=f
   · rw [q]; exact (kE f y fs).1
   · refine (kE f y fs).2 g (wi g fun z=>hg ?_)
     show (if g=f then some u else mA g)=none
     rw [if_neg q]; exact z
theorem Inv.made (I:Inv X pins σ H s):Inv X pins σ (upd (upd H s.heap.objs.size (.own (s.heap.objs.size+1))) (s.heap.objs.size+1) (.ins C s.heap.objs.size []))
  { s with heap:=(s.heap.push PySem.W.emptyDict).push (PySem.W.instObj C s.heap.objs.size) }:=by
 have e1:(s.heap.push PySem.W.emptyDict).get? s.heap.objs.size=some PySem.W.emptyDict:=Heap.get?_push_size s.heap rfl
 have e2:((s.heap.push PySem.W.emptyDict).push (PySem.W.instObj C s.heap.objs.size)).get? (s.heap.objs.size+1)=some (PySem.W.instObj C s.heap.objs.size):=by
  have:=Heap.get?_push_size (s.heap.push PySem.W.emptyDict) (o:=PySem.W.instObj C s.heap.objs.size) rfl
  rwa [Heap.size_push] at this
 have e3:(s.heap.push PySem.W.emptyDict).Ns s.heap.objs.size (fun _=>none):=⟨PySem.W.emptyDict,#[],_,e1,rfl,(fun e he=>absurd he (by simp)),fun _=>rfl⟩
 have I1:=I.laid (a:=s.heap.objs.size) (o:=.own (s.heap.objs.size+1)) (h':=s.heap.push PySem.W.emptyDict) (t':=s.toks) (fun b u q=>Heap.get?_push_of_some _ q) (Nat.le_refl _) ⟨_,e1⟩
 refine I1.laid (a:=s.heap.objs.size+1) (o:=.ins C s.heap.objs.size []) (t':=s.toks) (fun b u q=>Heap.get?_push_of_some _ q) (Nat.le_of_eq (Heap.size_push _ _)) ?_
 have ne:s.heap.objs.size≠s.heap.objs.size+1:=Nat.ne_of_lt (Nat.lt_succ_self _)
 refine ⟨by rw [ah ne,ae],Nat.zero_le _,ne,e2,fun _=>none,(Heap.Ns1.of_empty e3).at fun o q=>Heap.get?_push_of_some _ q,fun _=>True.intro,fun y hy=>absurd rfl hy⟩
theorem wf {prog:Program} {w:World} {env:Env} {e:Expr} {f:Str} {pos:Pos} {s:Shared} {Q:Value→Shared→Prop} (hb:attributeBase e f env (eval e env)=eval e env)
  (h:wpAny (model prog w) A (eval e env) (fun o s₁=>wpAny (model prog w) A (getAttr o f true) Q E s₁) E s):wpAny (model prog w) A (eval (.Attribute e f pos) env) Q E s:=
 Attribute_any_ h (by rw [arm_eval_Attribute,hb])
end
section
variable {X:Cx} {o e value:Expr} {f:Str} {pos pos' tpos:Pos} {ta tv:TE}
end
section
variable {X:Cx} {pins:List (Addr × Obj)} {σ:St} {H:Hp} {s:Shared} {A:Around} {E:Value→Shared→Prop} {Q:Value→Shared→Prop} {c:Value} {b:Bool}
inductive TyOf (K:PySem.W.Frag) (H:Hp):V→Value→Prop where
 | non:TyOf K H .non (.type "NoneType")
 | bl (x:Bool):TyOf K H (.bl x) (.type "bool")
 | int (i:Int):TyOf K H (.int i) (.type "int")
 | str (x:Str):TyOf K H (.str x) (.type "str")
 | flt (x:UInt64):TyOf K H (.flt x) (.type "float")
 | lst {a:Addr} {xs:List V} (e:H a=some (.lst xs)):TyOf K H (.ref a) (.type "list")
 | frz {a:Addr} {o:Obj} {xs:List V} (e:H a=some (.frz o (.lst xs))):TyOf K H (.ref a) (.type "list")
 | tup {a:Addr} {xs:List V} (e:H a=some (.tup xs)):TyOf K H (.ref a) (.type "tuple")
 | dK {a:Addr} {kvs:List (Key × V)} (e:H a=some (.dK kvs)):TyOf K H (.ref a) (.type "dict")
 | dT {a:Addr} {kvs:List (List Key × V)} (e:H a=some (.dT kvs)):TyOf K H (.ref a) (.type "dict")
 | ins {a C dx:Addr} {fs:List (Str × V)} (e:H a=some (.ins C dx fs)) (cl:Cls K C) (ha:PySem.W.findIn K (.ref C) "__class__"=some (some (.builtin "object.__class__")))
   (hn:PySem.W.specialIn K (.builtin "object.__class__") "__get__"=some (some (.builtin "getset_descriptor.__get__"))) (htk:PySem.W.takesIn K (.builtin "object.__class__")=some true)
   (hm:PySem.W.mroIn K C (.type "object")=some true):TyOf K H (.ref a) (.ref C)
theorem uq {x:V} {u t:Value} (I:Inv X pins σ H s) (rx:RelV x u) (ty:TyOf X.K H x t) (e:PySem.W.kitOne X.K t c=some b) (h:∀ tk,Q (.bool b) { s with toks:=tk }):
  wpAny (model X.prog X.w) A (call (.builtin "isinstance") [u,c]) Q E s:=by
 cases ty with
 | non=>cases (show u=Value.none from rx); exact PySem.W.kia_one PySem.W.kitx_none I.kIn True.intro e (fun z=>nomatch z) h
 | bl y=>cases (show u=Value.bool y from rx); exact PySem.W.kia_one PySem.W.kitx_bool I.kIn True.intro e (fun z=>nomatch z) h
 | int i=>obtain ⟨t,q⟩:=(show ∃ t,u=Value.int i t from rx); cases q; exact PySem.W.kia_one PySem.W.kitx_int I.kIn True.intro e (fun z=>nomatch z) h
 | str y=>obtain ⟨t,q⟩:=(show ∃ t,u=Value.str y t from rx); cases q; exact PySem.W.kia_one PySem.W.kitx_str I.kIn True.intro e (fun z=>nomatch z) h
 | flt y=>obtain ⟨t,q⟩:=(show ∃ t,u=Value.float y t from rx); cases q; exact PySem.W.kia_one PySem.W.kitx_float I.kIn True.intro e (fun z=>nomatch z) h
 | @lst a xs ea=>
  cases (show u=Value.ref a from rx)
  obtain ⟨_,_,n,_,h1⟩:=(show ObjOk X.prog X.w H s.heap a (.lst xs) from I.hok a _ ea)
  exact PySem.W.kia_one PySem.W.kitx_list I.kIn ⟨_,h1,rfl⟩ e (fun z=>nomatch z) h
 | @frz a ob xs ea=>
  cases (show u=Value.ref a from rx)
  obtain ⟨_,_,_,n,_,h1⟩:=(show ObjOk X.prog X.w H s.heap a (.frz ob (.lst xs)) from I.hok a _ ea)
  exact PySem.W.kia_one PySem.W.kitx_list I.kIn ⟨_,h1,rfl⟩ e (fun z=>nomatch z) h
 | @tup a xs ea=>
  cases (show u=Value.ref a from rx)
  obtain ⟨_,_,_,p⟩:=(show ObjOk X.prog X.w H s.heap a (.tup xs) from I.hok a _ ea)
  obtain ⟨o,h1,h2,_⟩:=p
  exact PySem.W.kia_one PySem.W.kitx_tuple I.kIn ⟨o,h1,h2⟩ e (fun z=>nomatch z) h
 | @dK a kvs ea=>
  cases (show u=Value.ref a from rx)
  obtain ⟨_,_,vs,_,p⟩:=(show ObjOk X.prog X.w H s.heap a (.dK kvs) from I.hok a _ ea)
  obtain ⟨o,es,ep,h1,h2,_⟩:=p
  exact PySem.W.kia_one PySem.W.kitx_dict I.kIn ⟨o,h1,h2.1⟩ e (fun z=>nomatch z) h
 | @dT a kvs ea=>
  cases (show u=Value.ref a from rx)
  obtain ⟨_,_,xs,_,o,es,ep,h1,h2,_⟩:=(show ObjOk X.prog X.w H s.heap a (.dT kvs) from I.hok a _ ea)
  exact PySem.W.kia_one PySem.W.kitx_dict I.kIn ⟨o,h1,h2.1⟩ e (fun z=>nomatch z) h
 | @ins a C dx fs ea cl ha hn htk hm=>
  cases (show u=Value.ref a from rx)
  obtain ⟨mA,O,_⟩:=lp I.hok ea
  obtain ⟨od,J,_⟩:=O.look
  exact PySem.W.kia_one (PySem.W.kitx_own (cl.get _) cl.hd ha hn htk hm) I.kIn J e (fun z=>nomatch z) h
end
end L2
namespace L2
open PySem PySem.Spec PyProof.Rows
structure Room (k:Nat) (A:Around):Prop where
 hd:A.handled=none
 dp:A.depth+3*k+5 < recursionLimit
 un:A.units+16*k+200 < cLine
theorem Room.mono {j k:Nat} {A:Around} (r:Room k A) (h:j≤k):Room j A:=⟨r.hd,by have:=r.dp; omega,by have:=r.un; omega⟩
theorem Room.deeper {k:Nat} {A:Around} (r:Room (k+1) A) (env:Env):Room k (A.deeper env):=
 ⟨r.hd,by have:=r.dp; show A.depth+1+3*k+5 < _; omega,by have:=r.un; show A.units+3+16*k+200 < _; omega⟩
theorem tD {A:Around} {C:Addr} {us:List Value} {kw:List (Str × Value)}:(A.under (.builtin "type.__call__" ⟨.ref C::us,kw⟩)).depth=A.depth+1:=by
 first | rfl | simp [Around.under,Code.weight,Code.isCreation,Code.isGuard,Code.isCaller,Code.frames,Code.isFrame,guardIds]
theorem tE {A:Around} {C:Addr} {us:List Value} {kw:List (Str × Value)}:(A.under (.builtin "type.__call__" ⟨.ref C::us,kw⟩)).units=A.units+1:=by
 first | rfl | simp [Around.under,Code.cUnits,Code.frames,Code.isFrame]
theorem Room.make {k:Nat} {A:Around} (r:Room (k+1) A) (C:Addr) (us:List Value) (kw:List (Str × Value)):Room k (A.under (.builtin "type.__call__" ⟨.ref C::us,kw⟩)):=
 ⟨r.hd,by have:=r.dp; rw [tD]; omega,by have:=r.un; rw [tE]; omega⟩
theorem Room.depth {k:Nat} {A:Around} (r:Room k A):A.depth < recursionLimit:=by have:=r.dp; omega
theorem Room.units {k:Nat} {A:Around} (r:Room k A):A.units+64 < cLine:=by have:=r.un; omega
def tNil:TA:=fun _ H Q=>Q [] H
def tCons (ta:TE) (tr:TA):TA:=fun σ H Q=>ta σ H fun x H1=>tr σ H1 fun xs H2=>Q (x::xs) H2
section
variable {X:Cx} {e:Expr} {es:List Expr} {te:TE} {t:TA} {pos:Pos}
theorem ab:PA X [] tNil:=fun _ _ _ _ H Q I h=>Calls.spliced_nil ⟨[],H,I,.nil,h⟩
theorem aa (ha:PE X e te) (hr:PA X es t) (hs:starEach (e::es) X.env=(false,eval e X.env)::starEach es X.env:=by rfl):PA X (e::es) (tCons te t):=by
 intro pos pins s σ H Q I h
 rw [hs]
 show wpAny _ _ (spliced ((false,eval e X.env)::backTo pos (starEach es X.env))) _ _ s
 refine Calls.spliced_cons (thn (ha pins s σ H _ I h) fun u s1 ⟨x,H1,I1,r1,q1⟩=>?_)
 exact thn (hr pos pins s1 σ H1 _ I1 q1) fun us s2 ⟨xs,H2,I2,r2,q2⟩=>⟨x::xs,H2,I2,.cons r1 r2,q2⟩
def tTup (t:TA):TE:=fun σ H Q=>t σ H fun xs H1=>xs.length≤sizeLine∧∀ p,H1 p=none→Q (.ref p) (upd H1 p (.tup xs))
def tLst (t:TA):TE:=fun σ H Q=>t σ H fun xs H1=>xs.length≤sizeLine∧∀ p,H1 p=none→Q (.ref p) (upd H1 p (.lst xs))
theorem bO {x1} (h:PA X es t):PE X (.Tuple es x1 pos) (tTup t):=by
 intro pins s σ H Q I hq
 refine wpAny_Tuple_spliced (thn (h pos pins s σ H _ I hq) fun us s1 ⟨xs,H1,I1,r,z,q⟩=>⟨by rw [← r.length]; exact z,?_⟩)
 have hf:H1 s1.heap.objs.size=none:=I1.hok.fresh (Nat.le_refl _)
 refine ⟨.ref s1.heap.objs.size,upd H1 s1.heap.objs.size (.tup xs),I1.laid (t':=s1.toks) (fun b u e=>Heap.get?_push_of_some _ e) (Nat.le_refl _) ?_,rfl,q _ hf⟩
 exact ⟨z,us,r,⟨_,Heap.get?_push_size _ rfl,rfl,_,rfl⟩⟩
theorem aI (h:PA X es t):PE X (.List es pos) (tLst t):=by
 intro pins s σ H Q I hq
 refine wpAny_List_spliced (thn (h pos pins s σ H _ I hq) fun us s1 ⟨xs,H1,I1,r,z,q⟩=>⟨by rw [← r.length]; exact z,?_⟩)
 have hf:H1 s1.heap.objs.size=none:=I1.hok.fresh (Nat.le_refl _)
 refine ⟨.ref s1.heap.objs.size,upd H1 s1.heap.objs.size (.lst xs),I1.laid (t':=s1.toks) (fun b u e=>Heap.get?_push_of_some _ e) (Nat.le_refl _) ?_,rfl,q _ hf⟩
 exact ⟨z,us,0,r,Heap.get?_push_size _ rfl⟩
end
abbrev Sp:=List V→Hp→VK→XK→Prop
abbrev CXT:=List Env→Hp→Shared→XK→Value→Shared→Prop
structure Env0 (P:Program) (w:World) (K:PySem.W.Frag) (mg:Str→Option Value) (base:Heap) (A:Around) (outer:List Env) (s:Shared) (H:Hp):Prop where
 frames:A.frames=some outer
 mod:Mod K mg base
 bs:∀ b o,base.get? b=some o→s.heap.get? b=some o∧H b=none
 bsz:base.objs.size≤s.heap.objs.size
 funs:s.heap.FunFrames base outer
 frf:∀ b∈frs outer,H b=none
 hok:HOk P w H s.heap
 bare:AllBare s.gens
def CE (outer:List Env) (P:Program) (w:World) (H:Hp) (s:Shared) (Q:VK) (u:Value) (s':Shared):Prop:=
 ∃ v H',s'.os=s.os∧AllBare s'.gens∧Un (frs outer) [] H H' s.heap s'.heap∧HOk P w H' s'.heap∧RelV v u∧Q v H'
def CR (CX:CXT) (outer:List Env) (P:Program) (w:World) (H:Hp) (s:Shared) (Q:VK) (E:XK) (r:Result) (s':Shared):Prop:=
 match r with
 | .ok (.ret u)=>CE outer P w H s Q u s'
 | .ok _=>False
 | .error e=>CX outer H s E e s'
structure FnOk (P:Program) (w:World) (K:PySem.W.Frag) (mg:Str→Option Value) (base:Heap) (CX:CXT) (k:Nat) (f:Addr) (fd:FuncData) (ps:List Str) (sp:Sp):Prop where
 len:∀ vs H Q E,sp vs H Q E→vs.length=ps.length
 run:∀ (A:Around) (outer:List Env) (s:Shared) (H:Hp) (args:Args) (us:List Value) (vs:List V) (Q:VK) (E:XK),Room k A→Env0 P w K mg base A outer s H→BindsTo s fd args (ps.zip us)→Vals vs us→sp vs H Q E→
  codeAny (model P w) A (.call (.ref f) args) (CR CX outer P w H s Q E) s
theorem FnOk.mono {P:Program} {w:World} {K:PySem.W.Frag} {mg:Str→Option Value} {base:Heap} {CX:CXT} {j k:Nat} {f:Addr} {fd:FuncData} {ps:List Str} {sp:Sp} (F:FnOk P w K mg base CX j f fd ps sp) (h:j≤k):
  FnOk P w K mg base CX k f fd ps sp:=⟨F.len,fun A outer s H args us vs Q E hr=>F.run A outer s H args us vs Q E (hr.mono h)⟩
theorem FnOk.imp {P:Program} {w:World} {K:PySem.W.Frag} {mg:Str→Option Value} {base:Heap} {CX:CXT} {k:Nat} {f:Addr} {fd:FuncData} {ps:List Str} {sp sp':Sp} (F:FnOk P w K mg base CX k f fd ps sp)
  (h:∀ vs H Q E,sp' vs H Q E→sp vs H Q E):FnOk P w K mg base CX k f fd ps sp':=
 ⟨fun vs H Q E q=>F.len vs H Q E (h _ _ _ _ q),fun A outer s H args us vs Q E hr he hb hv hs=>F.run A outer s H args us vs Q E hr he hb hv (h _ _ _ _ hs)⟩
theorem Env0.make {P:Program} {w:World} {K:PySem.W.Frag} {mg:Str→Option Value} {base:Heap} {A:Around} {outer:List Env} {s:Shared} {H:Hp} (e:Env0 P w K mg base A outer s H) (C:Addr) (us:List Value) (kw:List (Str × Value)):
  Env0 P w K mg base (A.under (.builtin "type.__call__" ⟨.ref C::us,kw⟩)) outer s H:=⟨by first | exact e.frames | (simpa [Around.under,Code.envs,Code.isFrame,pushEnvs] using e.frames),e.mod,e.bs,e.bsz,e.funs,e.frf,e.hok,e.bare⟩
section
variable {X:Cx} {pins:List (Addr × Obj)} {σ:St} {H:Hp} {s s':Shared}
theorem Inv.env0 (I:Inv X pins σ H s):Env0 X.prog X.w X.K X.mg X.base X.A X.stack s H:=
 ⟨I.ok.frames,I.ok.mod,I.bs,Nat.le_trans I.ok.bsz I.sz,I.stack,I.stkFree,I.hok,I.bare⟩
theorem Inv.after {Q:VK} {u:Value} (I:Inv X pins σ H s) (h:CE X.stack X.prog X.w H s Q u s'):EP X pins σ Q u s':=by
 obtain ⟨v,H',os,bare,un,hok,r,q⟩:=h
 obtain ⟨hh,g,d,t,os'⟩:=s'
 obtain rfl:os'=s.os:=os
 exact ⟨v,H',I.call (h':=hh) (g':=g) (d':=d) (t':=t) (ch:=[]) un hok bare (fun b z=>absurd z (by simp)),r,q⟩
end
def tCall (sp:Sp) (dvs:List V) (E:XK) (t:TA):TE:=fun σ H Q=>t σ H fun vs H1=>sp (vs++dvs) H1 Q E
def tMake (C:Addr) (sp:Sp) (dvs:List V) (E:XK) (t:TA):TE:=fun σ H Q=>t σ H fun vs H1=>∀ x dx,H1 x=none→H1 dx=none→dx≠x→
 sp (.ref x::(vs++dvs)) (upd (upd H1 dx (.own x)) x (.ins C dx [])) (fun v H2=>v=.non∧Q (.ref x) H2) E
def Binds (K:PySem.W.Frag) (fd:FuncData) (ps:List Str) (ds:List Value):Prop:=
 ∀ (s:Shared) (us:List Value),K.In s.heap→(us++ds).length=ps.length→BindsTo s fd ⟨us,[]⟩ (ps.zip (us++ds))
theorem Binds.all {K:PySem.W.Frag} {fd:FuncData} {ps:List Str} (h:∀ us:List Value,us.length=ps.length→bindArgs fd ⟨us,[]⟩=pure (ps.zip us)):Binds K fd ps []:=fun s us _ hl=>by
 rw [List.append_nil] at hl ⊢
 exact .of_eq (h us hl)
def kF (CX:CXT) (X:Cx) (E:XK):Prop:=∀ (pins:List (Addr × Obj)) (σ:St) (H:Hp) (s:Shared) (e:Value) (s':Shared),Inv X pins σ H s→CX X.stack H s E e s'→X.xe e s'
section
variable {X:Cx} {CX:CXT} {k:Nat} {f C:Addr} {fd:FuncData} {ps:List Str} {sp:Sp} {dvs:List V} {ds:List Value} {E:XK} {x m:Str} {p pos apos:Pos} {e o:Expr} {es:List Expr} {ta:TE} {t:TA}
theorem qw {pins:List (Addr × Obj)} {σ:St} {H:Hp} {s:Shared} {Q:VK} {us:List Value} {vs:List V} (F:FnOk X.prog X.w X.K X.mg X.base CX k f fd ps sp) (hr:Room k X.A) (hb:Binds X.K fd ps ds) (hd:Vals dvs ds) (hx:kF CX X E)
  (I:Inv X pins σ H s) (r:Vals vs us) (h:sp (vs++dvs) H Q E):wpAny (model X.prog X.w) X.A (call (.ref f) us) (EP X pins σ Q) X.xe s:=by
 have r2:Vals (vs++dvs) (us++ds):=r.append hd
 have hl:(us++ds).length=ps.length:=by rw [← r2.length]; exact F.len _ _ _ _ h
 refine wpAny_call (codeAny_mono (F.run X.A X.stack s H ⟨us,[]⟩ (us++ds) (vs++dvs) Q E hr I.env0 (hb s us I.kIn hl) r2 h) fun r s' hq=>?_)
 cases r with
 | error e=>exact hx pins σ H s e s' I hq
 | ok fl=>
  cases fl with
  | ret u=>exact I.after hq
  | next=>exact False.elim hq
  | brk=>exact False.elim hq
  | cont=>exact False.elim hq
theorem sG (F:FnOk X.prog X.w X.K X.mg X.base CX k f fd ps sp) (hr:Room k X.A) (hg:Gl X x) (hm:X.mg x=some (.ref f)) (hk:PySem.W.keepIn X.K (.ref f)=true) (hb:Binds X.K fd ps ds) (hd:Vals dvs ds) (hx:kF CX X E)
  (ha:PA X (e::es) t) (hdb:(x==("__debug__":Str))=false:=by decide) (he:starEach (e::es) X.env=(false,eval e X.env)::starEach es X.env:=by rfl) (hpl:(backTo pos (starEach es X.env)).any (·.1)=false:=by rfl):
  PE X (.Call (.Name x p) (e::es) [] pos) (tCall sp dvs E t):=by
 intro pins s σ H Q I h
 refine wpAny_Call_Name_kw (oo I hg hm ?_ hdb)
 refine PySem.W.callWith_K (h₀:=X.base) I.ok.mod.kin hk (thn (ha pos pins s σ H _ I h) fun us s1 ⟨vs,H1,I1,r,q⟩=>⟨I1.kIn,?_⟩) he hpl
 exact qw F hr hb hd hx I1 r q
structure Mk (K:PySem.W.Frag) (C f:Addr):Prop where
 makes:PySem.W.makesIn K C=true
 init:PySem.W.findIn K (.ref C) "__init__"=some (some (.ref f))
 fn:PySem.W.isFn K (.ref f)=true
 kp:PySem.W.keepIn K (.ref C)=true
theorem vw {pins:List (Addr × Obj)} {σ:St} {H:Hp} {s:Shared} {Q:VK} {us:List Value} {vs:List V} (M:Mk X.K C f) (F:FnOk X.prog X.w X.K X.mg X.base CX k f fd ps sp) (hr:Room (k+1) X.A) (hb:Binds X.K fd ps ds) (hd:Vals dvs ds)
  (hx:kF CX X E) (I:Inv X pins σ H s) (r:Vals vs us)
  (h:∀ x dx,H x=none→H dx=none→dx≠x→sp (.ref x::(vs++dvs)) (upd (upd H dx (.own x)) x (.ins C dx [])) (fun v H2=>v=.non∧Q (.ref x) H2) E):
  wpAny (model X.prog X.w) X.A (call (.ref C) us) (EP X pins σ Q) X.xe s:=by
 have hq:=h (s.heap.objs.size+1) s.heap.objs.size (I.hok.fresh (Nat.le_succ _)) (I.hok.fresh (Nat.le_refl _)) (Nat.ne_of_lt (Nat.lt_succ_self _))
 have I2:=Inv.made (C:=C) I
 have r2:Vals (V.ref (s.heap.objs.size+1)::(vs++dvs)) (Value.ref (s.heap.objs.size+1)::(us++ds)):=.cons rfl (r.append hd)
 have hl:(Value.ref (s.heap.objs.size+1)::us++ds).length=ps.length:=by
  have e:=r2.length
  rw [F.len _ _ _ _ hq] at e
  exact e.symm
 refine wpAny_call (vv (f:=f) I.kIn M.makes M.init (beq_iff_eq.mp M.fn) (codeAny_mono (F.run _ X.stack _ _ ⟨Value.ref (s.heap.objs.size+1)::us,[]⟩ (Value.ref (s.heap.objs.size+1)::(us++ds)) _ _ E (hr.make C us [])
  (I2.env0.make C us []) (hb _ (Value.ref (s.heap.objs.size+1)::us) I2.kIn hl) r2 hq) fun r s' hq'=>?_))
 cases r with
 | error e=>exact hx pins σ _ _ e s' I2 hq'
 | ok fl=>
  cases fl with
  | ret u=>
   obtain ⟨v,H',I3,rv,ev,q3⟩:=I2.after hq'
   subst ev
   exact ⟨rv,⟨V.ref (s.heap.objs.size+1),H',I3,rfl,q3⟩⟩
  | next=>exact False.elim hq'
  | brk=>exact False.elim hq'
  | cont=>exact False.elim hq'
theorem wg (M:Mk X.K C f) (F:FnOk X.prog X.w X.K X.mg X.base CX k f fd ps sp) (hr:Room (k+1) X.A) (hg:Gl X x) (hm:X.mg x=some (.ref C)) (hb:Binds X.K fd ps ds) (hd:Vals dvs ds) (hx:kF CX X E)
  (ha:PA X (e::es) t) (hdb:(x==("__debug__":Str))=false:=by decide) (he:starEach (e::es) X.env=(false,eval e X.env)::starEach es X.env:=by rfl) (hpl:(backTo pos (starEach es X.env)).any (·.1)=false:=by rfl):
  PE X (.Call (.Name x p) (e::es) [] pos) (tMake C sp dvs E t):=by
 intro pins s σ H Q I h
 refine wpAny_Call_Name_kw (oo I hg hm ?_ hdb)
 refine PySem.W.callWith_K (h₀:=X.base) I.ok.mod.kin M.kp (thn (ha pos pins s σ H _ I h) fun us s1 ⟨vs,H1,I1,r,q⟩=>⟨I1.kIn,?_⟩) he hpl
 exact vw M F hr hb hd hx I1 r q
end
section
variable {X:Cx} {CX:CXT} {k:Nat} {f C:Addr} {fd:FuncData} {ps ks:List Str} {sp:Sp} {E:XK} {x m:Str} {p pos apos kpos:Pos} {e o:Expr} {es:List Expr} {kws:List Keyword} {te ta:TE} {t tk:TA} {nm:Option Str}
variable {g:List Value→List Value→List Value} {gV:List V→List V→List V}
end
structure am (N P:List Str) (sc:Scope):Prop where
 kind:sc.kind=.function
 co:sc.isCoroutine=false
 gen:sc.isGenerator=false
 nd:N.Nodup
 pre:N.take P.length=P
 par:∀ x∈P,sc.names.lookup x=some .local∨sc.names.lookup x=some .cell
 nofree:∀ y∈sc.names,y.2≠.free
theorem oV {kindOf:Str→Option NameKind} {x:Str}:∀ {binds:List (Str × Value)} {m:Str→Option Value},(∀ v,(x,v)∉binds)→bindL kindOf binds m x=m x
 | [],_,_=>rfl
 | (n,v)::r,m,h=>by
  unfold bindL
  rw [oV fun w hw=>h w (List.mem_cons_of_mem _ hw)]
  split
  · have:x≠n:=by rintro rfl; exact h v List.mem_cons_self
    simp [this]
  · rfl
theorem oW {kindOf:Str→Option NameKind} {x:Str}:∀ {binds:List (Str × Value)} {m:Str→Option Value},(∀ v,(x,v)∉binds)→bindC kindOf binds m x=m x
 | [],_,_=>rfl
 | (n,v)::r,m,h=>by
  unfold bindC
  rw [oW fun w hw=>h w (List.mem_cons_of_mem _ hw)]
  split
  · rfl
  · have:x≠n:=by rintro rfl; exact h v List.mem_cons_self
    simp [this]
theorem oX {kindOf:Str→Option NameKind} {x:Str} {v:Value}:∀ {P:List Str} {vs:List Value} {i:Nat} {m:Str→Option Value},P.Nodup→P[i]? =some x→vs[i]? =some v→kindOf x=some .local→
  bindL kindOf (P.zip vs) m x=some v
 | [],_,_,_,_,h,_,_=>by simp at h
 | _::_,[],_,_,_,_,h,_=>by simp at h
 | p::P,w::vs,0,m,nd,h1,h2,hk=>by
  simp at h1 h2; subst h1; subst h2
  show bindL kindOf ((p,w)::P.zip vs) m p=_
  unfold bindL
  rw [oV fun v hv=>(List.nodup_cons.mp nd).1 (List.of_mem_zip hv).1,if_pos hk]
  simp
 | p::P,w::vs,i+1,m,nd,h1,h2,hk=>by
  show bindL kindOf ((p,w)::P.zip vs) m x=_
  unfold bindL
  exact oX (i:=i) (List.nodup_cons.mp nd).2 (by simpa using h1) (by simpa using h2) hk
theorem oY {kindOf:Str→Option NameKind} {x:Str} {v:Value}:∀ {P:List Str} {vs:List Value} {i:Nat} {m:Str→Option Value},P.Nodup→P[i]? =some x→vs[i]? =some v→kindOf x≠some .local→
  bindC kindOf (P.zip vs) m x=some v
 | [],_,_,_,_,h,_,_=>by simp at h
 | _::_,[],_,_,_,_,h,_=>by simp at h
 | p::P,w::vs,0,m,nd,h1,h2,hk=>by
  simp at h1 h2; subst h1; subst h2
  show bindC kindOf ((p,w)::P.zip vs) m p=_
  unfold bindC
  rw [oW fun v hv=>(List.nodup_cons.mp nd).1 (List.of_mem_zip hv).1,if_neg hk]
  simp
 | p::P,w::vs,i+1,m,nd,h1,h2,hk=>by
  show bindC kindOf ((p,w)::P.zip vs) m x=_
  unfold bindC
  exact oY (i:=i) (List.nodup_cons.mp nd).2 (by simpa using h1) (by simpa using h2) hk
def start (N:List Str) (vs:List V):St:=vs.map some++List.replicate (N.length - vs.length) none
def cxOf (CX:CXT) (P:Program) (w:World) (K:PySem.W.Frag) (mg:Str→Option Value) (base:Heap) (N:List Str) (qual:Str) (scope:Scope) (f:Addr) (cd:Value) (A:Around) (outer:List Env) (s:Shared) (H:Hp) (E:XK):Cx where
 prog:=P
 w:=w
 K:=K
 mg:=mg
 base:=base
 A:=A.deeper (envOfC qual scope s.heap.objs.size f cd)
 N:=N
 s₀:=s
 H₀:=H
 env:=envOfC qual scope s.heap.objs.size f cd
 outer:=outer
 stack:=envOfC qual scope s.heap.objs.size f cd::outer
 ex:=[]
 calm:=true
 fn:=fun _=>true
 pn:=[]
 xe:=fun e s'=>wpAny (model P w) (A.deeper (envOfC qual scope s.heap.objs.size f cd)) (leaving (envOfC qual scope s.heap.objs.size f cd) e) (fun _ s''=>CX outer H s E e s'') (fun e' s''=>CX outer H s E e' s'') s'
theorem jF {sc:Scope} {n:Nat} {x:Str} (h:sc.names.lookup x=some .cell):∃ c,(cellsFrom n sc.names []).lookup x=some c:=by
 have q:=PySem.W.cellsFrom_some sc.names n [] (.inl h)
 exact Option.isSome_iff_exists.mp q
theorem ur {CX:CXT} {P:Program} {w:World} {K:PySem.W.Frag} {mg:Str→Option Value} {base:Heap} {N ps:List Str} {qual:Str} {scope:Scope} {f:Addr} {cd:Value} {A:Around} {outer:List Env} {s s1:Shared} {H:Hp} {E:XK} {us:List Value} {vs:List V}
  (S:am N ps scope) (hd:A.handled=none) (e0:Env0 P w K mg base A outer s H) (hl:vs.length=ps.length) (r:Vals vs us)
  (x:InCallC s s.heap.objs.size (bindL (envOfC qual scope s.heap.objs.size f cd).kindOf (ps.zip us) fun _=>none) (cellsFrom (s.heap.objs.size+1) scope.names []) (bindC (envOfC qual scope s.heap.objs.size f cd).kindOf (ps.zip us) fun _=>none) s1):
  Inv (cxOf CX P w K mg base N qual scope f cd A outer s H E) [] (start N vs) H s1:=by
 have hpl:ps.length≤N.length:=by have:=congrArg List.length S.pre; rw [List.length_take] at this; omega
 obtain ⟨h1,tk,rfl,hk⟩:=x.done
 have noA:∀ b:Addr,b∉(cxOf CX P w K mg base N qual scope f cd A outer s H E).ex:=fun b z=>absurd (show b∈([]:List Addr) from z) (by simp)
 refine ⟨⟨e0.mod,S.kind,rfl,rfl,Nat.le_refl _,fun y z c h1 h2=>?_,fun y hy=>?_,fun y c _ h=>?_,fun _=>hd,Around.frames_deeper e0.frames,.inr ⟨rfl,rfl⟩,fun b z=>absurd z (noA b),e0.bs,e0.bsz,fun b _ _=>noA b,fun b z=>absurd z (noA b),e0.funs,e0.frf⟩,
  rfl,e0.bare,Un.kept hk,⟨_,x.toInCall.ns,fun i y v h1 h2 h3=>?_⟩,fun y c h=>⟨_,x.cell y c h⟩,e0.hok.fresh (Nat.le_refl _),fun y c h=>?_,fun p hp=>absurd (show p∈([]:List (Addr × Obj)) from hp) (by simp),e0.hok.kept hk,?_⟩
 · exact name_of_addr x.apart (PySem.mem_of_lookup h1) (PySem.mem_of_lookup h2)
 · have hy:scope.names.lookup y=some .cell∨scope.names.lookup y=some .free:=hy
   rcases hy with hy | hy
   · exact jF hy
   · exact absurd rfl (S.nofree _ (PySem.mem_of_lookup hy))
 · exact Nat.le_of_lt (x.above y c (PySem.mem_of_lookup h))
 · have hi:i < vs.length:=by
    unfold start at h2
    by_cases hi:i < vs.length
    · exact hi
    · rw [List.getElem?_append_right (by simpa using hi)] at h2
      rw [List.getElem?_replicate] at h2
      split at h2 <;> cases h2
   have ha:vs[i]? =some v:=by
    unfold start at h2
    rw [List.getElem?_append_left (by simpa using hi),List.getElem?_map] at h2
    cases e:vs[i]? with
    | none=>rw [e] at h2; cases h2
    | some a=>rw [e] at h2; cases h2; rfl
   obtain ⟨u,hu,rv⟩:=r.get ha
   have hp:ps[i]? =some y:=by
    rw [← S.pre,List.getElem?_take_of_lt (by omega)]; exact h1
   have ndP:ps.Nodup:=by rw [← S.pre]; exact S.nd.sublist (List.take_sublist _ _)
   refine ⟨u,rv,?_⟩
   rcases S.par y (List.mem_of_getElem? hp) with k | k
   · exact .inl ⟨k,oX ndP hp hu k⟩
   · obtain ⟨c,e⟩:=jF (n:=s.heap.objs.size+1) k
     refine .inr ⟨.inl k,c,e,?_⟩
     have q:=x.cell y c e
     rw [oY ndP hp hu (by show scope.names.lookup y≠_; rw [k]; decide)] at q
     exact q
 · exact e0.hok.fresh (Nat.le_of_lt (x.above y c (PySem.mem_of_lookup h)))
 · unfold start
   show _=N.length
   rw [List.length_append,List.length_map,List.length_replicate]
   omega
theorem vT {CX:CXT} {P:Program} {w:World} {K:PySem.W.Frag} {mg:Str→Option Value} {base:Heap} {k:Nat} {f:Addr} {name qual:Str} {params:Arguments} {body:List Stmt} {scope:Scope} {dV kV doc pm cdv ct oc:Value} {an od:Option Addr}
  {osl:Array (Option Value)} {N ps:List Str} {sp:Sp} (lk:K.lookup f=some ⟨oc,od,.func (PySem.W.fnOf name qual params body scope dV kV doc pm an cdv ct),osl⟩) (hcd:PySem.W.codeIn K cdv qual=true) (S:am N ps scope)
  (len:∀ vs H Q E,sp vs H Q E→vs.length=ps.length)
  (hbody:∀ (A:Around) (outer:List Env) (s:Shared) (H:Hp) (vs:List V) (Q:VK) (E:XK),Room k (A.deeper (envOfC qual scope s.heap.objs.size f cdv))→sp vs H Q E→
   ∃ t,PSs (cxOf CX P w K mg base N qual scope f cdv A outer s H E) body t∧t { nx:=fun _ H'=>Q .non H',rt:=Q } (start N vs) H):
  FnOk P w K mg base CX (k+1) f (PySem.W.fnOf name qual params body scope dV kV doc pm an cdv ct) ps sp:=by
 refine ⟨len,fun A outer s H args us vs Q E hr e0 hb r hsp=>?_⟩
 have hl:=len _ _ _ _ hsp
 have KX:K.In s.heap:=e0.mod.kin.keeps fun b o e=>(e0.bs b o e).1
 have lim:s.heap.NoLimit:=e0.mod.nolimit.keeps fun b o e=>(e0.bs b o e).1
 have hkind:∀ y∈ps.zip us,scope.names.lookup y.1=some .local∨(scope.names.lookup y.1=some .cell∧((cellsFrom (s.heap.objs.size+1) scope.names []).lookup y.1).isSome=true):=fun ⟨n,v⟩ hy=>by
  rcases S.par n (List.of_mem_zip hy).1 with q | q
  · exact .inl q
  · exact .inr ⟨q,PySem.W.cellsFrom_some _ _ _ (.inl q)⟩
 refine codeAny_call_function hr.depth (KX _ _ lk) rfl S.co S.gen rfl (PySem.W.codeRec_of KX hcd) (hb _ _ _ _ ?_)
 refine wpAny_newFunctionEnv_cells S.kind hkind fun env he s1 x=>?_
 subst he
 refine ⟨lim.keeps x.toInCall.keep,codeAny_func ?_⟩
 obtain ⟨t,ht,hq⟩:=hbody A outer s H vs Q E (hr.deeper _) hsp
 have I:Inv (cxOf CX P w K mg base N qual scope f cdv A outer s H E) [] (start N vs) H s1:=ur S hr.hd e0 hl r x
 refine wpAny_mono (ht [] s1 (start N vs) H _ I hq) (fun fl s' hs=>?_) fun e s' hs=>hs
 have fin:∀ {σ':St} {H':Hp} {v:V} {u:Value},Inv (cxOf CX P w K mg base N qual scope f cdv A outer s H E) [] σ' H' s'→RelV v u→Q v H'→CE outer P w H s Q u s':=
  fun {σ' H' v u} J rv q=>⟨v,H',J.os,J.bare,J.base,J.hok,rv,q⟩
 cases fl with
 | ret u=>
  obtain ⟨v,σ',H',J,rv,q⟩:=hs
  exact fin J rv q
 | next=>
  obtain ⟨σ',H',J,q⟩:=hs
  exact fin (v:=V.non) (u:=Value.none) J rfl q
 | brk=>
  obtain ⟨_,_,_,q⟩:=hs
  exact False.elim q
 | cont=>
  obtain ⟨_,_,_,q⟩:=hs
  exact False.elim q
end L2
namespace L2
open PySem PySem.Spec PyProof.Rows
section
variable {X:Cx} {x:Str} {p pos:Pos} {e:Expr} {es:List Expr} {t:TA} {id T:String} {r:List V→Hp→VK→Prop}
def tCB (r:List V→Hp→VK→Prop) (t:TA):TE:=fun σ H Q=>t σ H fun vs H1=>r vs H1 Q
theorem ay (hc:CallR X (.builtin id) r) (hg:Gl X x) (hm:X.mg x=none) (hv:bootBuiltins x=some (.builtin id)) (ha:PA X (e::es) t) (hn:x≠"__name__":=by decide) (hdb:(x==("__debug__":Str))=false:=by decide)
  (he:starEach (e::es) X.env=(false,eval e X.env)::starEach es X.env:=by rfl) (hpl:(backTo pos (starEach es X.env)).any (·.1)=false:=by rfl):PE X (.Call (.Name x p) (e::es) [] pos) (tCB r t):=by
 intro pins s σ H Q I h
 refine wpAny_Call_Name_kw (cK I hg hm hv ?_ hn hdb)
 exact PyProof.Rows.callWith_builtin1 (thn (ha pos pins s σ H _ I h) fun us s1 ⟨vs,H1,I1,r1,q1⟩=>hc pins s1 σ H1 vs us Q I1 r1 q1) he hpl
theorem bd (hc:CallR X (.type T) r) (hg:Gl X x) (hm:X.mg x=none) (hv:bootBuiltins x=some (.type T)) (ha:PA X (e::es) t) (hn:x≠"__name__":=by decide) (hdb:(x==("__debug__":Str))=false:=by decide)
  (he:starEach (e::es) X.env=(false,eval e X.env)::starEach es X.env:=by rfl) (hpl:(backTo pos (starEach es X.env)).any (·.1)=false:=by rfl):PE X (.Call (.Name x p) (e::es) [] pos) (tCB r t):=by
 intro pins s σ H Q I h
 refine wpAny_Call_Name_kw (cK I hg hm hv ?_ hn hdb)
 exact PyProof.Rows.callWith_type1 (thn (ha pos pins s σ H _ I h) fun us s1 ⟨vs,H1,I1,r1,q1⟩=>hc pins s1 σ H1 vs us Q I1 r1 q1) he hpl
end
end L2
namespace HT
open PySem PyProof.Rows
section
open PySem.SeqAt
open PySem.AutoSeq1 (wpAny_loadPart')
open PySem.MeetsSeq PySem.MeetsSeq2 PySem.MeetsSeq3
end
section
variable {prog:Program} {w:World} {A:Around} {E:Value→Shared→Prop} {s:Shared}
def sIx (n d:Nat):Option Int→Nat
 | none=>d
 | some v=>if v < 0 then (v+(n:Int)).toNat else min v.toNat n
theorem sIx_none (n d:Nat):sIx n d none=d:=rfl
theorem sIx_nat (n d k:Nat):sIx n d (some (k:Int))=min k n:=by
 show (if (k:Int) < 0 then ((k:Int)+(n:Int)).toNat else min (k:Int).toNat n)=min k n
 rw [if_neg (by omega),Int.toNat_natCast]
end
end HT
namespace L2
open PySem PySem.Spec PyProof.Rows
abbrev TO:=St→Hp→(Option Int→Hp→Prop)→Prop
def PO (X:Cx) (e:Option Expr) (t:TO):Prop:=
 ∀ (pins:List (Addr × Obj)) (s:Shared) (σ:St) (H:Hp) (Q:Option Int→Hp→Prop),Inv X pins σ H s→t σ H Q→
  wpAny (model X.prog X.w) X.A (evalPart e X.env) (fun u s'=>∃ o H',Inv X pins σ H' s'∧IsPart u o∧Q o H') X.xe s
def bE:TO:=fun _ H Q=>Q none H
def tPart (t:TE):TO:=fun σ H Q=>t σ H fun x H1=>∃ i,x=.int i∧Q (some i) H1
theorem mK {ns:List Int}:∀ {us:List Value},Vals (ns.map V.int) us→IntsAre us ns:=by
 induction ns with
 | nil=>intro us r; rw [List.map_nil] at r; cases r; exact .nil
 | cons n ns ih=>
  intro us r
  rw [List.map_cons] at r
  cases r with
  | cons r1 r2=>
   obtain ⟨t,e⟩:=r1
   subst e
   exact .cons n t (ih r2)
section
variable {X:Cx} {e:Expr} {te:TE} {lo hi:Option Expr} {tl th:TO} {pos p2:Pos}
theorem cj:PO X none bE:=by
 intro pins s σ H Q I h
 rw [evalPart_none]
 exact wpAny_pure ⟨none,H,I,.none,h⟩
theorem ck (h:PE X e te):PO X (some e) (tPart te):=by
 intro pins s σ H Q I hw
 rw [evalPart_some]
 refine thn (h pins s σ H _ I hw) fun u s1 ⟨x,H1,I1,r1,q1⟩=>?_
 obtain ⟨i,rfl,q⟩:=q1
 obtain ⟨t,rfl⟩:=r1
 exact ⟨some i,H1,I1,.int i t,q⟩
def SlR (X:Cx) (r:V→Option Int→Option Int→Hp→VK→Prop):Prop:=
 ∀ (pins:List (Addr × Obj)) (s:Shared) (σ:St) (H:Hp) (x:V) (v vl vu:Value) (lo hi:Option Int) (sl:Addr) (Q:VK),Inv X pins σ H s→RelV x v→s.heap.IsSliceOf sl vl vu .none→IsPart vl lo→IsPart vu hi→r x lo hi H Q→
  ∃ T id,typeLookup (.type T) "__getitem__"=pure (some (.builtin id))∧s.TypeIs v T∧wpAny (model X.prog X.w) X.A (getItem v (.ref sl)) (EP X pins σ Q) X.xe s
def tSl (r:V→Option Int→Option Int→Hp→VK→Prop) (te:TE) (tl th:TO):TE:=fun σ H Q=>te σ H fun x H1=>tl σ H1 fun l H2=>th σ H2 fun u H3=>r x l u H3 Q
theorem bT {r:V→Option Int→Option Int→Hp→VK→Prop} (hr:SlR X r) (he:PE X e te) (hl:PO X lo tl) (hu:PO X hi th):PE X (.Subscript e (.Slice lo hi none p2) pos) (tSl r te tl th):=by
 intro pins s σ H Q I h
 refine Subscript_ (thn (he pins s σ H _ I h) fun v s1 ⟨x,H1,I1,r1,q1⟩=>?_)
 refine wpAny_Slice (thn (hl pins s1 σ H1 _ I1 q1) fun vl s2 ⟨l,H2,I2,pl,q2⟩=>thn (hu pins s2 σ H2 _ I2 q2) fun vu s3 ⟨u,H3,I3,pu,q3⟩=>?_)
 rw [evalPart_none]
 refine wpAny_pure ?_
 have I4:Inv X pins σ H3 { s3 with heap:=s3.heap.push { cls:=.type "slice",data:=.fields #[vl,vu,.none] } }:=I3.kept (t':=s3.toks) fun b ob q=>Heap.get?_push_of_some _ q
 obtain ⟨T,id,hT,ht,hg⟩:=hr pins { s3 with heap:=s3.heap.push { cls:=.type "slice",data:=.fields #[vl,vu,.none] } } σ H3 x v vl vu l u s3.heap.objs.size Q I4 r1 (Heap.IsSliceOf.new ..) pl pu q3
 show wpAny (model X.prog X.w) X.A (subscriptTail e (.Slice lo hi none p2) v (.ref s3.heap.objs.size)) (EP X pins σ Q) X.xe { s3 with heap:=s3.heap.push { cls:=.type "slice",data:=.fields #[vl,vu,.none] } }
 exact tail_any (ops:=[.ref s3.heap.objs.size,v]) ht hT hg (by with_unfolding_all rfl)
def cutV (xs:List V) (lo hi:Option Int):List V:=(xs.drop (HT.sIx xs.length 0 lo)).take (HT.sIx xs.length xs.length hi - HT.sIx xs.length 0 lo)
theorem r8 (xs:List V) (lo hi:Option Int):(cutV xs lo hi).length≤xs.length:=by
 unfold cutV
 rw [List.length_take,List.length_drop]
 omega
end
end L2
namespace L2
open PySem PySem.Spec PyProof.Rows
def ixN (n:Nat) (i:Int):Option Nat:=if 0≤i then (if i < n then some i.toNat else none) else if -(n:Int)≤i then some (i+n).toNat else none
def atI {α:Type} (xs:List α) (i:Int):Option α:=(ixN xs.length i).bind fun j=>xs[j]?
theorem wj {n:Nat} {i:Int} {j:Nat} (h:ixN n i=some j):seqIndex? i n=some j∧j < n∧ -(n:Int)≤i∧i < n:=by
 unfold ixN at h
 by_cases h0:0≤i
 · rw [if_pos h0] at h
   by_cases h1:i < n
   · rw [if_pos h1] at h
     have e:i.toNat=j:=Option.some.inj h
     exact ⟨by rw [seqIndex_of h0 h1,e],by omega,by omega,h1⟩
   · rw [if_neg h1] at h; cases h
 · rw [if_neg h0] at h
   by_cases h1: -(n:Int)≤i
   · rw [if_pos h1] at h
     have e:(i+n).toNat=j:=Option.some.inj h
     exact ⟨by rw [seqIndex_neg (by omega) h1,e],by omega,h1,by omega⟩
   · rw [if_neg h1] at h; cases h
theorem oq {α:Type} {xs:List α} {i:Int} {v:α} (h:atI xs i=some v):∃ j,seqIndex? i xs.length=some j∧xs[j]? =some v∧j < xs.length∧ -(xs.length:Int)≤i∧i < xs.length:=by
 unfold atI at h
 cases e:ixN xs.length i with
 | none=>rw [e] at h; cases h
 | some j=>
  rw [e] at h
  obtain ⟨h1,h2,h3,h4⟩:=wj e
  exact ⟨j,h1,h,h2,h3,h4⟩
theorem gp {α:Type} {xs:List α} {j:Nat} {v:α} (h:xs[j]? =some v):atI xs (j:Int)=some v:=by
 have hj:j < xs.length:=(List.getElem?_eq_some_iff.mp h).1
 have e:ixN xs.length (j:Int)=some j:=by
  unfold ixN
  rw [if_pos (by omega),if_pos (by omega)]; simp
 unfold atI; rw [e]; exact h
def wk (b:Expr):Prop:=∀ o i,subscripted b false o i=operate [o,i] (getItem o i)
def IxR (X:Cx) (r:R2):Prop:=
 ∀ (value slice:Expr) (pins:List (Addr × Obj)) (s:Shared) (σ:St) (H:Hp) (x y:V) (v u:Value) (Q:VK),Inv X pins σ H s→RelV x v→RelV y u→r x y H Q→
  subscripted slice false v u=operate [v,u] (getItem v u)→wpAny (model X.prog X.w) X.A (subscriptTail value slice v u) (EP X pins σ Q) X.xe s
def MtR (X:Cx) (id:String) (r:V→List V→Hp→VK→Prop):Prop:=
 ∀ (pins:List (Addr × Obj)) (s:Shared) (σ:St) (H:Hp) (x:V) (xs:List V) (v:Value) (us:List Value) (Q:VK),Inv X pins σ H s→RelV x v→Vals xs us→r x xs H Q→
  wpAny (model X.prog X.w) X.A (call (.builtin id) (v::us)) (EP X pins σ Q) X.xe s
section
variable {X:Cx} {a b:Expr} {ta tb:TE} {pos:Pos}
theorem az {r:R2} (hr:IxR X r) (ha:PE X a ta) (hb:PE X b tb) (hs:wk b):PE X (.Subscript a b pos) (tOp r ta tb):=by
 intro pins s σ H Q I h
 exact Subscript_ (binT ha hb I h fun v u s2 x y H2 I2 rx ry q=>hr a b pins s2 σ H2 x y v u Q I2 rx ry q (hs _ _))
def rIxL (K:PySem.W.Frag):R2:=fun x y H Q=>∃ p xs i v,x=.ref p∧y=.int i∧SqL K H p xs∧atI xs i=some v∧Q v H
def rIxT (K:PySem.W.Frag):R2:=fun x y H Q=>∃ p xs i v,x=.ref p∧y=.int i∧SqT K H p xs∧atI xs i=some v∧Q v H
def rIxS:R2:=fun x y H Q=>∃ z i c,x=.str z∧y=.int i∧z.length≤sizeLine∧atI z.cps.toList i=some c∧Q (.str ⟨#[c]⟩) H
theorem or:IxR X (rIxL X.K):=by
 intro value slice pins s σ H x y v u Q I rx ry h hs
 obtain ⟨p,xs,i,z,rfl,rfl,hq,he,q⟩:=h
 cases rx
 obtain ⟨t,rfl⟩:=ry
 obtain ⟨its,r,pl,hz⟩:=I.list hq
 obtain ⟨j,h1,h2,h3,h4,h5⟩:=oq he
 obtain ⟨w,ew,rw'⟩:=r.get h2
 have hl:=r.length
 have hn:=kD
 have fin:EP X pins σ Q w s:=⟨z,H,I,rw',q⟩
 by_cases h0:0≤i
 · have hj:i.toNat=j:=by
    rw [seqIndex_of h0 h5] at h1
    exact Option.some.inj h1
   exact item_listR pl.isList h0 (by omega) (by rw [hj]; simpa using ew) fin hs
 · have hj:(i+(its.toArray.size:Int)).toNat=j:=by
    rw [seqIndex_neg (by omega) h4] at h1
    rw [List.size_toArray,← hl]
    exact Option.some.inj h1
   exact subscriptTail_builtinR (x:=w) pl.isList.typeIs slot_list_getitem.lookup
    (wpAny_getItem_list_neg (Q:=fun r s'=>r=w∧EP X pins σ Q r s') pl.isList (by omega) (by rw [List.size_toArray] <;> omega) (by omega) (by rw [hj]; simpa using ew) ⟨rfl,fin⟩) hs
theorem wY:IxR X (rIxT X.K):=by
 intro value slice pins s σ H x y v u Q I rx ry h hs
 obtain ⟨p,xs,i,z,rfl,rfl,hq,he,q⟩:=h
 cases rx
 obtain ⟨t,rfl⟩:=ry
 obtain ⟨its,r,pl,hz⟩:=I.tuple hq
 obtain ⟨j,h1,h2,h3,h4,h5⟩:=oq he
 obtain ⟨w,ew,rw'⟩:=r.get h2
 have hl:=r.length
 have hn:=kD
 have fin:EP X pins σ Q w s:=⟨z,H,I,rw',q⟩
 exact subscriptTail_builtinR (x:=w) pl.typeIs slot_tuple_getitem.lookup
  (getItem_tuple (j:=j) (Q:=fun r s'=>r=w∧EP X pins σ Q r s') pl (by omega) (by omega) (by rw [List.size_toArray,← hl]; exact h1) (by simpa using ew) ⟨rfl,fin⟩) hs
theorem wZ:IxR X rIxS:=by
 intro value slice pins s σ H x y v u Q I rx ry h hs
 obtain ⟨z,i,c,rfl,rfl,hz,he,q⟩:=h
 obtain ⟨t,rfl⟩:=rx
 obtain ⟨t',rfl⟩:=ry
 obtain ⟨j,h1,h2,h3,h4,h5⟩:=oq he
 have hl:z.cps.toList.length=z.length:=by simp [Str.length]
 rw [hl] at h1 h4 h5
 have hn:=kD
 exact tail_any (typeIs_str s z t) slot_str_getitem.lookup (getItem_str (c:=c) (by
  have e1:decide (i < -(2^63:Int))=false:=decide_eq_false (by omega)
  have e2:decide (i ≥ 2^63)=false:=decide_eq_false (by omega)
  rw [e1,e2,Bool.or_false]) (by rw [h1]; simpa using h2) ⟨.str ⟨#[c]⟩,H,I.tok _,⟨_,rfl⟩,q⟩) hs
theorem Inv.lst {pins:List (Addr × Obj)} {σ:St} {H:Hp} {s:Shared} {p:Addr} {xs:List V} (I:Inv X pins σ H s) (h:H p=some (.lst xs)):
  ∃ (its:List Value) (n:Nat),Vals xs its∧s.heap.get? p=some { cls:=.type "list",data:=.seq its.toArray n }∧xs.length≤sizeLine:=by
 obtain ⟨z,its,n,r,e⟩:=I.hok p _ h
 exact ⟨its,n,r,e,z⟩
theorem qx (lo hi:Option Int) (n:Nat):(sliceBounds lo hi none n).1=((HT.sIx n 0 lo:Nat):Int)∧(sliceBounds lo hi none n).2.1=((HT.sIx n n hi:Nat):Int)∧(sliceBounds lo hi none n).2.2=1:=by
 refine ⟨?_,?_,rfl⟩
 · cases lo with
   | none=>simp [sliceBounds,HT.sIx]
   | some i=>
    simp only [sliceBounds,HT.sIx,Option.getD_none,show (1:Int) > 0 by decide,if_true]
    by_cases h:i < 0
    · simp only [h,if_true] <;> omega
    · simp only [h,if_false] <;> omega
 · cases hi with
   | none=>simp [sliceBounds,HT.sIx]
   | some i=>
    simp only [sliceBounds,HT.sIx,Option.getD_none,show (1:Int) > 0 by decide,if_true]
    by_cases h:i < 0
    · simp only [h,if_true] <;> omega
    · simp only [h,if_false] <;> omega
theorem pA (its:List Value) (lo hi:Option Int):slicePick its.toArray lo hi none=((its.drop (HT.sIx its.length 0 lo)).take (HT.sIx its.length its.length hi - HT.sIx its.length 0 lo)).toArray:=by
 obtain ⟨h1,h2,h3⟩:=qx lo hi its.toArray.size
 unfold slicePick
 rw [h1,h2,h3]
 simp only [sliceRange_one,pick_run,List.size_toArray] <;> rfl
def rSlL (K:PySem.W.Frag):V→Option Int→Option Int→Hp→VK→Prop:=fun x lo hi H Q=>∃ a xs,x=.ref a∧SqL K H a xs∧∀ p,H p=none→Q (.ref p) (upd H p (.lst (cutV xs lo hi)))
theorem wl:SlR X (rSlL X.K):=by
 intro pins s σ H x v vl vu lo hi sl Q I rx hs pl pu h
 obtain ⟨a,xs,rfl,hx,q⟩:=h
 cases rx
 obtain ⟨its,r,ht,hz⟩:=I.list hx
 have hlen:=r.length
 refine ⟨"list",_,slot_list_getitem.lookup,ht.isList.typeIs,?_⟩
 refine wpAny_getItem_list_slice ht.isList hs pl pu .none (by simp) ?_ (by rw [List.size_toArray] <;> omega)
 rw [pA,← hlen]
 refine ⟨.ref s.heap.objs.size,_,I.laid (t':=s.toks) (o:=.lst (cutV xs lo hi)) (fun b ob q=>Heap.get?_push_of_some _ q) (Nat.le_refl _) ?_,rfl,q _ (I.hok.fresh (Nat.le_refl _))⟩
 exact ⟨Nat.le_trans (r8 xs lo hi) hz,_,0,(r.drop (HT.sIx xs.length 0 lo)).take (HT.sIx xs.length xs.length hi - HT.sIx xs.length 0 lo),Heap.get?_push_size _ rfl⟩
def flatV:V→Bool
 | .non=>true
 | .bl _=>true
 | .int _=>true
 | .str _=>true
 | _=>false
def eqV:V→V→Bool
 | .non,.non=>true
 | .bl a,.bl b=>a==b
 | .bl a,.int b=>(if a then 1 else 0)==b
 | .int a,.bl b=>a==(if b then 1 else 0)
 | .int a,.int b=>a==b
 | .str a,.str b=>a==b
 | _,_=>false
theorem w5 {A:Around} {s:Shared} {y x:V} {u v:Value} (ry:RelV y u) (rx:RelV x v) (fy:flatV y=true) (fx:flatV x=true):SeqAt.EqAt A s u v (eqV y x):=by
 cases y with
 | non=>
  cases ry
  cases x with
  | non=>cases rx; exact SeqAt.EqAt.same _
  | bl b=>cases rx; exact SeqAt.EqAt.none_bool b
  | int b=>obtain ⟨t,rfl⟩:=rx; exact SeqAt.EqAt.none_int b t
  | str b=>obtain ⟨t,rfl⟩:=rx; exact SeqAt.EqAt.none_str b t
  | _=>exact absurd (show false=true from fx) Bool.false_ne_true
 | bl a=>
  cases ry
  cases x with
  | non=>cases rx; exact SeqAt.EqAt.bool_none a
  | bl b=>cases rx; exact SeqAt.EqAt.bool_bool a b
  | int b=>obtain ⟨t,rfl⟩:=rx; exact SeqAt.EqAt.bool_int a b t
  | str b=>obtain ⟨t,rfl⟩:=rx; exact SeqAt.EqAt.bool_str a b t
  | _=>exact absurd (show false=true from fx) Bool.false_ne_true
 | int a=>
  obtain ⟨t',rfl⟩:=ry
  cases x with
  | non=>cases rx; exact SeqAt.EqAt.int_none a t'
  | bl b=>cases rx; exact SeqAt.EqAt.int_bool a t' b
  | int b=>obtain ⟨t,rfl⟩:=rx; exact SeqAt.EqAt.int_int a t' b t
  | str b=>obtain ⟨t,rfl⟩:=rx; exact SeqAt.EqAt.int_str a t' b t
  | _=>exact absurd (show false=true from fx) Bool.false_ne_true
 | str a=>
  obtain ⟨t',rfl⟩:=ry
  cases x with
  | non=>cases rx; exact SeqAt.EqAt.str_none a t'
  | bl b=>cases rx; exact SeqAt.EqAt.str_bool a t' b
  | int b=>obtain ⟨t,rfl⟩:=rx; exact SeqAt.EqAt.str_int a t' b t
  | str b=>obtain ⟨t,rfl⟩:=rx; exact SeqAt.EqAt.str_str a t' b t
  | _=>exact absurd (show false=true from fx) Bool.false_ne_true
 | _=>exact absurd (show false=true from fy) Bool.false_ne_true
def eqU (x:V) (u:Value):Bool:=match u with
 | .none=>eqV .non x
 | .bool b=>eqV (.bl b) x
 | .int i _=>eqV (.int i) x
 | .str z _=>eqV (.str z) x
 | _=>false
theorem ut {x y:V} {u:Value} (r:RelV y u) (f:flatV y=true):eqU x u=eqV y x:=by
 cases y with
 | non=>cases r; rfl
 | bl b=>cases r; rfl
 | int i=>obtain ⟨t,rfl⟩:=r; rfl
 | str z=>obtain ⟨t,rfl⟩:=r; rfl
 | _=>exact absurd (show false=true from f) Bool.false_ne_true
theorem jq {x:V}:∀ {xs:List V} {us:List Value},Vals xs us→xs.all flatV=true→us.any (eqU x)=xs.any fun y=>eqV y x
 | _,_,.nil,_=>rfl
 | y::xs,u::us,.cons r t,f=>by
  rw [List.all_cons,Bool.and_eq_true] at f
  rw [List.any_cons,List.any_cons,ut r f.1,jq t f.2]
theorem il {A:Around} {s:Shared} {x:V} {v:Value} (rx:RelV x v) (fx:flatV x=true):∀ {xs:List V} {us:List Value},Vals xs us→xs.all flatV=true→∀ u∈us,SeqAt.EqAt A s u v (eqU x u)
 | _,_,.nil,_=>fun u hu=>by cases hu
 | y::xs,u::us,.cons r t,f=>fun u' hu=>by
  rw [List.all_cons,Bool.and_eq_true] at f
  rcases List.mem_cons.mp hu with rfl | hu
  · rw [ut r f.1]; exact w5 r rx f.1 fx
  · exact il rx fx t f.2 u' hu
def inV (x:V) (xs:List V):Bool:=xs.any fun y=>eqV y x
def rIn (K:PySem.W.Frag) (neg:Bool):R2:=fun x y H Q=>∃ p xs,y=.ref p∧(SqL K H p xs∨SqT K H p xs)∧flatV x=true∧xs.all flatV=true∧Q (.bl (if neg then !inV x xs else inV x xs)) H
theorem oZ:OpR X (compareOp .In) (rIn X.K false):=by
 intro pins s σ H x y v u Q I rx ry h
 obtain ⟨p,xs,rfl,hq,fx,fs,q⟩:=h
 cases ry
 rcases hq with hq | hq
 · obtain ⟨its,r,pl,hz⟩:=I.list hq
   refine SeqAt.in_listAt (eqU x) pl.isList (fun w hw=>il rx fx r fs w (by simpa using hw)) ⟨.bl _,H,I,rfl,?_⟩
   rw [show its.toArray.any (eqU x)=its.any (eqU x) by simp,jq r fs]
   exact q
 · obtain ⟨its,r,pl,hz⟩:=I.tuple hq
   refine SeqAt.in_tupleAt (eqU x) pl (fun w hw=>il rx fx r fs w (by simpa using hw)) ⟨.bl _,H,I,rfl,?_⟩
   rw [show its.toArray.any (eqU x)=its.any (eqU x) by simp,jq r fs]
   exact q
theorem kG:OpR X (compareOp .NotIn) (rIn X.K true):=by
 intro pins s σ H x y v u Q I rx ry h
 obtain ⟨p,xs,rfl,hq,fx,fs,q⟩:=h
 cases ry
 rcases hq with hq | hq
 · obtain ⟨its,r,pl,hz⟩:=I.list hq
   refine SeqAt.notIn_listAt (eqU x) pl.isList (fun w hw=>il rx fx r fs w (by simpa using hw)) ⟨.bl _,H,I,rfl,?_⟩
   rw [show its.toArray.any (eqU x)=its.any (eqU x) by simp,jq r fs]
   exact q
 · obtain ⟨its,r,pl,hz⟩:=I.tuple hq
   refine SeqAt.notIn_tupleAt (eqU x) pl (fun w hw=>il rx fx r fs w (by simpa using hw)) ⟨.bl _,H,I,rfl,?_⟩
   rw [show its.toArray.any (eqU x)=its.any (eqU x) by simp,jq r fs]
   exact q
theorem qy:OpR X (compareOp .NotIn) (fun x y H Q=>∃ i j,x=.str i∧y=.str j∧Q (.bl (!(!(Builtin.Str.occurrences j i 0 j.length 1).isEmpty))) H):=by
 intro pins s σ H x y v u Q I rx ry h
 obtain ⟨i,j,rfl,rfl,q⟩:=h
 obtain ⟨t,rfl⟩:=rx
 obtain ⟨t',rfl⟩:=ry
 exact notIn_str ⟨.bl _,H,I,rfl,q⟩
theorem fN:CallR X (.builtin "len") (fun xs H Q=>∃ p ys,xs=[.ref p]∧(SqL X.K H p ys∨SqT X.K H p ys)∧Q (.int ys.length) H):=by
 intro pins s σ H xs us Q I r h
 obtain ⟨p,ys,rfl,hq,q⟩:=h
 obtain ⟨u,rfl,rx⟩:=cD r
 cases rx
 have hn:=kD
 rcases hq with hq | hq
 · obtain ⟨its,r',pl,hz⟩:=I.list hq
   have hlen:=r'.length
   exact Calls.call_len_list pl.isList (by simp only [List.size_toArray] <;> omega) ⟨.int ys.length,H,I.tok _,⟨s.toks+1,by rw [List.size_toArray,hlen]⟩,q⟩
 · obtain ⟨its,r',pl,hz⟩:=I.tuple hq
   have hlen:=r'.length
   exact len_tuple pl (by simp only [List.size_toArray] <;> omega) ⟨.int ys.length,H,I.tok _,⟨s.toks+1,by rw [List.size_toArray,hlen]⟩,q⟩
theorem qz:CallR X (.builtin "len") (fun xs H Q=>∃ z,xs=[.str z]∧z.length≤sizeLine∧Q (.int z.length) H):=by
 intro pins s σ H xs us Q I r h
 obtain ⟨z,rfl,hz,q⟩:=h
 obtain ⟨u,rfl,t,rfl⟩:=cD r
 have hn:=kD
 exact len_str (by omega) ⟨.int z.length,H,I.tok _,⟨_,rfl⟩,q⟩
theorem qA:CallR X (.type "list") (fun xs H Q=>∃ p ys,xs=[.ref p]∧(SqL X.K H p ys∨SqT X.K H p ys)∧∀ l,H l=none→Q (.ref l) (upd H l (.lst ys))):=by
 intro pins s σ H xs us Q I r h
 obtain ⟨p,ys,rfl,hq,q⟩:=h
 obtain ⟨u,rfl,rx⟩:=cD r
 cases rx
 have fin:∀ (its:List Value),Vals ys its→ys.length≤sizeLine→∀ (h':Heap) (c':Nat),(∀ b o',s.heap.get? b=some o'→h'.get? b=some o')→
   h'.get? s.heap.objs.size=some { cls:=.type "list",dict:=none,data:=.seq its.toArray c',slots:=#[] }→EP X pins σ Q (.ref s.heap.objs.size) { s with heap:=h' }:=fun its r' hz h' c' kp e=>
  ⟨.ref s.heap.objs.size,_,I.laid (t':=s.toks) kp (Nat.le_refl _) (show ObjOk X.prog X.w _ h' _ (.lst ys) from ⟨hz,its,c',r',e⟩),rfl,q _ (I.hok.fresh (Nat.le_refl _))⟩
 rcases hq with hq | hq
 · obtain ⟨its,r',pl,hz⟩:=I.list hq
   have hlen:=r'.length
   obtain ⟨o,ho,hc,n,hd⟩:=pl.isList
   exact call_list_seq p (.inl rfl) ho hc hd (fun h' c' kp e=>fin its r' hz h' c' kp e) (by simp only [List.size_toArray] <;> omega)
 · obtain ⟨its,r',pl,hz⟩:=I.tuple hq
   have hlen:=r'.length
   obtain ⟨o,ho,hc,n,hd⟩:=pl
   exact call_list_seq p (.inr rfl) ho hc hd (fun h' c' kp e=>fin its r' hz h' c' kp e) (by simp only [List.size_toArray] <;> omega)
theorem pB:CallR X (.type "tuple") (fun xs H Q=>∃ p ys,xs=[.ref p]∧((SqL X.K H p ys∧∀ l,H l=none→Q (.ref l) (upd H l (.tup ys)))∨(SqT X.K H p ys∧Q (.ref p) H))):=by
 intro pins s σ H xs us Q I r h
 obtain ⟨p,ys,rfl,h⟩:=h
 obtain ⟨u,rfl,rx⟩:=cD r
 cases rx
 rcases h with ⟨hq,q⟩ | ⟨hq,q⟩
 · obtain ⟨its,r',pl,hz⟩:=I.list hq
   have hlen:=r'.length
   refine call_tuple_list pl.isList (fun h' kp=>?_) (by simp only [List.size_toArray] <;> omega)
   have I1:Inv X pins σ H { s with heap:=h' }:=I.kept (t':=s.toks) kp
   have I2:Inv X pins σ (upd H h'.objs.size (.tup ys)) { s with heap:=h'.push { cls:=.type "tuple",data:=.seq its.toArray } }:=
    I1.laid (t':=s.toks) (fun b o e=>Heap.get?_push_of_some _ e) (Nat.le_refl _) (show ObjOk X.prog X.w _ _ _ (.tup ys) from ⟨hz,its,r',IsTup.new _ _⟩)
   exact ⟨.ref h'.objs.size,_,I2,rfl,q _ (I1.hok.fresh (Nat.le_refl _))⟩
 · obtain ⟨its,r',pl,hz⟩:=I.tuple hq
   exact call_tuple_same pl ⟨.ref p,H,I,rfl,q⟩
def tyV (K:PySem.W.Frag) (T:String) (x:V) (H:Hp):Prop:=match x with
 | .str _=>T="str"
 | .int _=>T="int"
 | .ref p=>(T="list"∧∃ xs,SqL K H p xs)∨(T="tuple"∧∃ o,K.lookup p=some o∧o.cls=.type "tuple"∧o.dict=none)∨
   (T="dict"∧((∃ kvs,H p=some (.dK kvs))∨∃ kvs,H p=some (.dT kvs)))∨(T="set"∧∃ S n,H p=some (.set S n))
 | _=>False
theorem uu {pins:List (Addr × Obj)} {σ:St} {H:Hp} {s:Shared} {T:String} {x:V} {v:Value} (I:Inv X pins σ H s) (r:RelV x v) (ty:tyV X.K T x H):
  s.TypeIs v T∧∀ a,v=.ref a→∃ ob,s.heap.get? a=some ob∧ob.dict=none:=by
 cases x with
 | str z=>
  obtain ⟨t,rfl⟩:=r
  cases (show T="str" from ty)
  exact ⟨typeIs_str s z t,fun _ e=>nomatch e⟩
 | int i=>
  obtain ⟨t,rfl⟩:=r
  cases (show T="int" from ty)
  exact ⟨typeIs_int s i t,fun _ e=>nomatch e⟩
 | ref p=>
  cases r
  rcases ty with ⟨rfl,xs,hq⟩ | ⟨rfl,o,hk,hc,hd⟩ | ⟨rfl,hk⟩ | ⟨rfl,S,n,hk⟩
  · obtain ⟨its,_,pl,_⟩:=I.list hq
    refine ⟨pl.isList.typeIs,fun a e=>?_⟩
    cases e
    obtain ⟨o,n,e,c,hd,_⟩:=pl
    exact ⟨o,e,hd⟩
  · refine ⟨⟨o,I.kIn p o hk,hc⟩,fun a e=>?_⟩
    cases e
    exact ⟨o,I.kIn _ o hk,hd⟩
  · have z:∃ o,s.heap.get? p=some o∧o.ExactDict:=by
     rcases hk with ⟨kvs,hk⟩ | ⟨kvs,hk⟩
     · obtain ⟨_,_,_,_,o,_,_,e,ex,_⟩:=I.hok p _ hk
       exact ⟨o,e,ex⟩
     · obtain ⟨_,_,_,_,o,_,_,e,ex,_⟩:=I.hok p _ hk
       exact ⟨o,e,ex⟩
    obtain ⟨o,e,ex⟩:=z
    refine ⟨⟨o,e,ex.1⟩,fun a e2=>?_⟩
    cases e2
    exact ⟨o,e,ex.2.1⟩
  · obtain ⟨o,_,_,_,e,ex,_⟩:=I.hok p _ hk
    refine ⟨⟨o,e,ex.1⟩,fun a e2=>?_⟩
    cases e2
    exact ⟨o,e,ex.2.1⟩
 | _=>exact False.elim ty
def tF (K:PySem.W.Frag) (T:String) (r:V→List V→Hp→VK→Prop) (to:TE):TE:=fun σ H Q=>to σ H fun x H1=>tyV K T x H1∧r x [] H1 Q
def tBM (K:PySem.W.Frag) (T:String) (r:V→List V→Hp→VK→Prop) (to:TE) (t:TA):TE:=fun σ H Q=>to σ H fun x H1=>tyV K T x H1∧t σ H1 fun xs H2=>r x xs H2 Q
variable {o e:Expr} {es:List Expr} {to:TE} {t:TA} {name:Str} {apos cpos:Pos} {T id:String} {r:V→List V→Hp→VK→Prop}
theorem uv (pa:PlainAttrs T) (slot:Slot T name id) (hty:typeOf (.builtin id)=pure (.type "method_descriptor")) (hm:MtR X id r) (ho:PE X o to)
  (hbase:attributeBase o name X.env (eval o X.env)=eval o X.env:=by rfl) (hline:(apos.endLine==cpos.line)=true:=by rfl):PE X (.Call (.Attribute o name apos) [] [] cpos) (tF X.K T r to):=by
 intro pins s σ H Q I h
 refine wpAny_Call_method0_late hbase hline (thn (ho pins s σ H _ I h) fun v s1 ⟨x,H1,I1,r1,ty,q1⟩=>?_)
 obtain ⟨h1,h2⟩:=uu I1 r1 ty
 exact ⟨T,id,pa,slot,hty,h1,h2,Calls.callWith_builtin rfl (PySem.evalArgs_none (hm pins s1 σ H1 x [] v [] Q I1 r1 .nil q1))⟩
theorem dm (pa:PlainAttrs T) (slot:Slot T name id) (hty:typeOf (.builtin id)=pure (.type "method_descriptor")) (hm:MtR X id r) (ho:PE X o to) (ha:PA X (e::es) t)
  (hbase:attributeBase o name X.env (eval o X.env)=eval o X.env:=by rfl)
  (hfew:((backTo cpos (starEach (e::es) X.env)).all (fun x=>!x.1)&&(backToKw cpos (keywordEach [] X.env)).all (fun x=>x.1.isSome)
   &&decide ((e::es).length+([]:List Keyword).length+(if ([]:List Keyword).isEmpty then 0 else 1) < 30))=true:=by rfl)
  (hline:(apos.endLine==cpos.line)=true:=by rfl) (hs:starEach (e::es) X.env=(false,eval e X.env)::starEach es X.env:=by rfl) (hplain:(backTo cpos (starEach es X.env)).any (·.1)=false:=by rfl):
  PE X (.Call (.Attribute o name apos) (e::es) [] cpos) (tBM X.K T r to t):=by
 intro pins s σ H Q I h
 refine wpAny_Call_method_late hbase hfew hline rfl (thn (ho pins s σ H _ I h) fun v s1 ⟨x,H1,I1,r1,ty,q1⟩=>?_)
 obtain ⟨h1,h2⟩:=uu I1 r1 ty
 refine ⟨T,id,pa,slot,hty,h1,h2,?_⟩
 have hA:=ha cpos pins s1 σ H1 _ I1 q1
 rw [hs] at hA ⊢
 refine Calls.callWith_builtin (by show (false||(backTo cpos (starEach es X.env)).any (·.1))=false; rw [hplain] <;> rfl) (Calls.evalArgs_plain ?_)
 exact thn hA fun us s2 ⟨vs,H2,I2,r2,q2⟩=>hm pins s2 σ H2 x vs v us Q I2 r1 r2 q2
end
end L2
namespace L2
open PySem PySem.Spec PyProof.Rows
def MtM (X:Cx) (id:String) (r:V→List V→Hp→VK→Prop):Prop:=
 ∀ (pins:List (Addr × Obj)) (s:Shared) (σ:St) (H:Hp) (x:V) (xs:List V) (v:Value) (us:List Value) (Q:VK),Inv X pins σ H s→RelV x v→Vals xs us→r x xs H Q→
  wpAny (model X.prog X.w) X.A (call (.builtin id) (v::us)) (EP X pins σ Q) X.xe s
theorem Vals.one:∀ {x:V} {us:List Value},Vals [x] us→∃ u,us=[u]∧RelV x u
 | _,_,.cons r .nil=>⟨_,rfl,r⟩
theorem Vals.zero:∀ {us:List Value},Vals [] us→us=[]
 | _,.nil=>rfl
theorem Vals.eraseIdx:∀ {xs:List V} {us:List Value} (i:Nat),Vals xs us→Vals (xs.eraseIdx i) (us.eraseIdx i)
 | _,_,_,.nil=>.nil
 | _,_,0,.cons _ t=>t
 | _,_,i+1,.cons r t=>.cons r (Vals.eraseIdx i t)
theorem Vals.rep {xs:List V} {us:List Value} (h:Vals xs us):∀ k:Nat,Vals (List.replicate k xs).flatten (List.replicate k us).flatten
 | 0=>.nil
 | k+1=>by
  rw [List.replicate_succ,List.replicate_succ,List.flatten_cons,List.flatten_cons]
  exact Vals.append h (Vals.rep h k)
theorem o3 {α:Type}:∀ (l:List α) (i:Nat),(l.eraseIdx i).length≤l.length
 | [],_=>Nat.le_refl _
 | _::_,0=>Nat.le_succ _
 | _::r,i+1=>Nat.succ_le_succ (o3 r i)
theorem o4 (its:List Value):∀ (k:Nat) (acc:List Value),
  List.foldl (fun x1 x2=>x1++x2) acc.toArray (List.replicate k its.toArray)=(acc++(List.replicate k its).flatten).toArray
 | 0,acc=>by simp
 | k+1,acc=>by
  have e:acc.toArray++its.toArray=(acc++its).toArray:=by simp
  have e2:(acc++its)++(List.replicate k its).flatten=acc++(List.replicate (k+1) its).flatten:=by
   rw [List.replicate_succ,List.flatten_cons,List.append_assoc]
  rw [← e2,← o4 its k (acc++its),← e,List.replicate_succ,List.foldl_cons]
section
variable {X:Cx} {pins:List (Addr × Obj)} {σ:St} {H:Hp} {s:Shared} {l b:Addr} {xs ys zs:List V}
theorem Inv.lset {its its':List Value} {n:Nat} {f:Array Value→Array Value} {t':Nat} (I:Inv X pins σ H s) (hH:H l=some (.lst xs))
  (e:s.heap.get? l=some { cls:=.type "list",data:=.seq its.toArray n }) (hf:f its.toArray=its'.toArray) (hv:Vals ys its') (hz:ys.length≤sizeLine):
  Inv X pins σ (upd H l (.lst ys)) { s with heap:=s.heap.update l (Obj.mapSeq f),toks:=t' }:=by
 have q:=PySem.IsL.update e f
 rw [hf] at q
 refine I.write (x:=l) (e:=l) (by rw [hH]; exact trivial) (.inl rfl) (fun b' u hb hu=>(Heap.get?_update_other s.heap (Obj.mapSeq f) (Ne.symm hb)).trans hu) ⟨_,q⟩ ?_
 exact ⟨hz,its',_,hv,q⟩
theorem Inv.lnew {its:List Value} {t':Nat} (I:Inv X pins σ H s) (hv:Vals ys its) (hz:ys.length≤sizeLine):
  Inv X pins σ (upd H s.heap.objs.size (.lst ys)) { s with heap:=s.heap.push { cls:=.type "list",data:=.seq its.toArray },toks:=t' }:=
 I.laid (fun _ _ q=>Heap.get?_push_of_some _ q) (Nat.le_refl _) ⟨hz,its,0,hv,Heap.get?_push_size _ rfl⟩
theorem Inv.fresh (I:Inv X pins σ H s):H s.heap.objs.size=none:=I.hok.fresh (Nat.le_refl _)
theorem Inv.lstM (I:Inv X pins σ H s) (hH:H l=some (.lst xs)):xs.length≤sizeLine∧∃ (its:List Value) (n:Nat),Vals xs its∧xs.length=its.length∧s.heap.get? l=some { cls:=.type "list",data:=.seq its.toArray n }:=by
 obtain ⟨z,its,n,r,e⟩:=I.hok l _ hH
 exact ⟨z,its,n,r,r.length,e⟩
theorem qB {n:Nat} (h:n≤sizeLine):Builtin.List.listTooLong n=false:=by
 unfold Builtin.List.listTooLong
 exact decide_eq_false (by omega)
end
section
variable {X:Cx}
def wm:V→List V→Hp→VK→Prop:=fun x vs H Q=>∃ l xs y,x=.ref l∧vs=[y]∧H l=some (.lst xs)∧xs.length < sizeLine∧Q .non (upd H l (.lst (xs++[y])))
theorem o5:MtM X "list.append" wm:=by
 intro pins s σ H x vs v us Q I rx rv h
 obtain ⟨l,xs,y,rfl,rfl,hH,hz,q⟩:=h
 cases rx
 obtain ⟨u,rfl,ru⟩:=rv.one
 obtain ⟨z,its,n,r,hl,e⟩:=I.lstM hH
 refine call_meets F.slot_list_append ⟨_,e,rfl⟩ F.entry_list_append (F.args_list_append_2 _ _) (PySem.list_append l its.toArray n u (by rw [List.size_toArray]; omega)) ⟨e,?_⟩
 refine ⟨.non,_,I.lset (its':=its++[u]) hH e (by simp) (r.append (.cons ru .nil)) ?_,rfl,q⟩
 rw [List.length_append,List.length_singleton]
 omega
def wn:V→List V→Hp→VK→Prop:=fun x vs H Q=>∃ l b xs zs,x=.ref l∧vs=[.ref b]∧H l=some (.lst xs)∧H b=some (.lst zs)∧xs.length+zs.length≤sizeLine∧Q .non (upd H l (.lst (xs++zs)))
theorem uw:MtM X "list.extend" wn:=by
 intro pins s σ H x vs v us Q I rx rv h
 obtain ⟨l,b,xs,zs,rfl,rfl,hH,hB,hz,q⟩:=h
 cases rx
 obtain ⟨u,rfl,ru⟩:=rv.one
 cases ru
 obtain ⟨z,its,n,r,hl,e⟩:=I.lstM hH
 obtain ⟨z2,its2,n2,r2,hl2,e2⟩:=I.lstM hB
 have hsz:its.toArray.size+its2.toArray.size≤sizeLine:=by rw [List.size_toArray,List.size_toArray]; omega
 have hlong:¬ (!its.toArray.isEmpty&&Builtin.List.listTooLong (its.toArray.size+its2.toArray.size))=true:=by
  rw [qB hsz,Bool.and_false]
  exact Bool.false_ne_true
 refine call_meets F.slot_list_extend ⟨_,e,rfl⟩ F.entry_list_extend (F.args_list_extend_2 _ _)
  (AutoSeq1.list_extend_list_list_0 l its.toArray n b its2.toArray n2 hlong (by rw [List.size_toArray]; omega) (by omega)) ⟨e,e2,?_⟩
 refine ⟨.non,_,I.lset (its':=its++its2) hH e (by simp) (r.append r2) ?_,rfl,q⟩
 rw [List.length_append]
 omega
def w6:V→List V→Hp→VK→Prop:=fun x vs H Q=>∃ l xs i k y,x=.ref l∧vs=[.int i]∧H l=some (.lst xs)∧ -(2^63)≤i∧i < 2^63∧seqIndex? i xs.length=some k∧xs[k]? =some y∧Q y (upd H l (.lst (xs.eraseIdx k)))
theorem vx:MtM X "list.pop" w6:=by
 intro pins s σ H x vs v us Q I rx rv h
 obtain ⟨l,xs,i,k,y,rfl,rfl,hH,h1,h2,hk,hy,q⟩:=h
 cases rx
 obtain ⟨u,rfl,ru⟩:=rv.one
 obtain ⟨t,rfl⟩:=ru
 obtain ⟨z,its,n,r,hl,e⟩:=I.lstM hH
 obtain ⟨w,hw,rw'⟩:=r.get hy
 refine call_meets F.slot_list_pop ⟨_,e,rfl⟩ F.entry_list_pop (F.args_list_pop_2 _ _)
  (MeetsSeq.list_pop_at l its.toArray n i t k w (fitsIndex_both h1 h2) (by rw [List.size_toArray,← hl]; exact hk) (by rw [← Array.getElem?_toList]; exact hw) (by rw [List.size_toArray]; omega)) ⟨e,?_⟩
 refine ⟨y,_,I.lset (its':=its.eraseIdx k) hH e ?_ (r.eraseIdx k) ?_,rw',q⟩
 · show its.toArray.eraseIdxIfInBounds k=(its.eraseIdx k).toArray
   rw [List.eraseIdxIfInBounds_toArray]
 · have:=o3 xs k
   omega
def w9:V→List V→Hp→VK→Prop:=fun x vs H Q=>∃ l xs,x=.ref l∧vs=[]∧H l=some (.lst xs)∧Q .non (upd H l (.lst []))
theorem vy:MtM X "list.clear" w9:=by
 intro pins s σ H x vs v us Q I rx rv h
 obtain ⟨l,xs,rfl,rfl,hH,q⟩:=h
 cases rx
 have hus:=rv.zero
 subst hus
 obtain ⟨z,its,n,r,hl,e⟩:=I.lstM hH
 refine call_meets F.slot_list_clear ⟨_,e,rfl⟩ F.entry_list_clear (F.args_list_clear_1 _) (AutoSeq1.list_clear_list_0 l its.toArray n (by rw [List.size_toArray]; omega)) ⟨e,?_⟩
 exact ⟨.non,_,I.lset (its':=[]) (ys:=[]) hH e rfl .nil (Nat.zero_le _),rfl,q⟩
def rCat:R2:=fun x y H Q=>∃ l b xs zs,x=.ref l∧y=.ref b∧H l=some (.lst xs)∧H b=some (.lst zs)∧xs.length+zs.length≤sizeLine∧∀ p,H p=none→Q (.ref p) (upd H p (.lst (xs++zs)))
theorem xa:OpR X (binaryOp .Add) rCat:=by
 intro pins s σ H x y v u Q I rx ry h
 obtain ⟨l,b,xs,zs,rfl,rfl,hH,hB,hz,q⟩:=h
 cases rx
 cases ry
 obtain ⟨z,its,n,r,hl,e⟩:=I.lstM hH
 obtain ⟨z2,its2,n2,r2,hl2,e2⟩:=I.lstM hB
 refine PySem.P.add_list e e2 ?_ (by rw [List.size_toArray,List.size_toArray]; omega)
 have ea:its.toArray++its2.toArray=(its++its2).toArray:=by simp
 rw [ea]
 exact ⟨.ref _,_,I.lnew (t':=s.toks) (r.append r2) (by rw [List.length_append]; omega),rfl,q _ I.fresh⟩
def rRep:R2:=fun x y H Q=>∃ l k xs,x=.ref l∧y=.int k∧H l=some (.lst xs)∧ -(2^63)≤k∧k < 2^63∧xs.length*k.toNat≤sizeLine∧
 ∀ p,H p=none→Q (.ref p) (upd H p (.lst (List.replicate k.toNat xs).flatten))
theorem wo {α:Type} (xs:List α) (k:Nat):(List.replicate k xs).flatten.length=k*xs.length:=by
 induction k with
 | zero=>simp
 | succ k ih=>rw [List.replicate_succ,List.flatten_cons,List.length_append,ih,Nat.succ_mul,Nat.add_comm]
theorem xb:OpR X (binaryOp .Mult) rRep:=by
 intro pins s σ H x y v u Q I rx ry h
 obtain ⟨l,k,xs,rfl,rfl,hH,h1,h2,hz,q⟩:=h
 cases rx
 obtain ⟨t,rfl⟩:=ry
 obtain ⟨z,its,n,r,hl,e⟩:=I.lstM hH
 have hlen:its.toArray.size*k.toNat≤sizeLine:=by rw [List.size_toArray,← hl]; exact hz
 have hcap:¬ its.toArray.size*k.toNat > (2^63 - 1) / 8:=by
  have:(sizeLine:Nat)≤(2^63 - 1) / 8:=by decide
  omega
 have hfit:¬ (!Builtin.List.listFitsIndex k)=true:=by
  rw [fitsIndex_both h1 h2]
  exact Bool.false_ne_true
 have hlong:¬ Builtin.List.listTooLong (its.toArray.size*k.toNat)=true:=by
  rw [qB hlen]
  exact Bool.false_ne_true
 have hnew:List.foldl (fun x1 x2=>x1++x2) #[] (List.replicate (if its.toArray.isEmpty=true then 0 else k.toNat) its.toArray)=(List.replicate k.toNat its).flatten.toArray:=by
  have f0:∀ m:Nat,List.foldl (fun x1 x2=>x1++x2) #[] (List.replicate m its.toArray)=(List.replicate m its).flatten.toArray:=fun m=>by
   have:=o4 its m []
   rw [List.nil_append] at this
   exact this
  rw [f0]
  cases its with
  | nil=>simp
  | cons a r'=>rw [if_neg (by simp)]
 refine wpAny_binaryOp_repeat_ref (T:="list") (U:="int") (by decide) ⟨_,e,rfl⟩ (fun s'=>typeIs_int s' k t) noFill_list_mul F.fills_int_mul F.slot_int_rmul repeat_list F.slot_int_index.lookup
  (call_meets F.slot_int_rmul (typeIs_int s k t) F.entry_int_rmul (F.args_int_rmul_2 _ _) (int___rmul___int_list k t l its.toArray n)
   ⟨e,rfl,⟨_,e,rfl⟩,call_meets F.slot_list_mul ⟨_,e,rfl⟩ F.entry_list_mul (F.args_list_mul_2 _ _) (AutoListH.list___mul___list_int_3 l its.toArray n k t hfit hcap hlong) ⟨e,?_⟩⟩)
 rw [hnew]
 exact ⟨.ref _,_,I.lnew (t':=s.toks) (r.rep k.toNat) (by rw [wo,Nat.mul_comm]; exact hz),rfl,q _ I.fresh⟩
end
end L2
namespace Att
open PySem PySem.W PySem.Calls PyProof.Rows
theorem ints_of_wellAll {P:Params} {h:Heap}:∀ (ns:List Int) (vs:List Value),WellAll P h vs (ns.map WData.int)→IntsAre vs ns:=by
 intro ns
 induction ns with
 | nil=>
  intro vs w
  rw [List.map_nil] at w
  cases w
  exact .nil
 | cons n ns ih=>
  intro vs w
  rw [List.map_cons] at w
  cases w with
  | cons a b=>
   cases a
   exact .cons _ _ (ih _ b)
theorem script_of {l:OpenLaw} {n:Nat} (hn:l.most=some n) {P:Params} {h:Heap} {args:List WData} {vals:List Value}
  (hpre:l.row.toRowW.claim.pre args=true) (hwl:WellAll P h vals args):
  ∃ a vs ns,vals=[Value.ref a]∧args=[WData.list (ns.map WData.int)]∧h.get? a=some { cls:=.type "list",data:=.seq vs.toArray }∧IntsAre vs ns∧ns.length≤n:=by
 have hsh:WShape.hasAll [] args [.list .int]=true:=(pre_splitW hpre).1
 have hc:l.pre.holds [] { args:=args }=true:=(pre_splitW hpre).2
 obtain ⟨d,r,rfl,h1,h2⟩:=hasAllW_cons hsh
 obtain rfl:=hasAllW_nil h2
 obtain ⟨xs,rfl,h3⟩:=hasW_list h1
 obtain ⟨ns,rfl⟩:=items_int h3
 have hlen:ns.length≤n:=by
  unfold OpenLaw.pre at hc
  have h4:(WTm.not (.lt (.lit (.int (n:Int))) (.len (.arg 0)))).holds [] { args:=[.list (ns.map .int)] }=true:=by
   have h4:=(holds_andW hc).1
   rw [hn] at h4
   exact h4
  have h5:=condW_of h4 (w_not (w_lt w_lit (w_len_list (w_arg rfl))))
  rw [List.length_map] at h5
  refine Nat.le_of_not_lt fun q=>?_
  have q':(n:Int) < ((ns.length:Nat):Int):=by omega
  first
   | (rw [decide_eq_true q'] at h5; exact absurd h5 (by decide))
   | (simp at h5; omega)
 cases hwl with
 | cons w1 w2=>
  cases w2
  cases w1 with
  | list ho hall=>exact ⟨_,_,ns,rfl,rfl,ho,ints_of_wellAll ns _ hall,hlen⟩
theorem post_true (l:OpenLaw) (args:List WData):l.row.toRowW.claim.post args (.bool true) args=true:=
 postW_of (r:=l.row.toRowW) (X:=(true==true))
  (show WShape.has [] (.bool true) .bool=true by first | rfl | decide | simp [WShape.has,WShape.arms,WShape.armsAll])
  (show (WTm.eq .res (.lit (.bool true))).value [] { args:=args,res:=some (.bool true),after:=args }=some (.bool (true==true)) from w_eq_bool (w_res rfl) w_lit) rfl
theorem attach_call {l:OpenLaw} {n:Nat} {q:Program} {loose:List Str} {XP:(Str→Option Value)→Heap→Prop} {YP:World→Heap→Prop} {d:DefRec}
  (hn:l.most=some n) (hdf:d.params.defaults=[])
  (call:∀ (w:World) (s₀ s₁:Shared) (mg mb:Str→Option Value) (fa:Addr) (o:Obj) (pm cd doc:Value) (a:Addr) (vs:List Value) (ns:List Int),
   Ground q loose [] XP w s₀ mg mb s₁.heap→YP w s₁.heap→
   s₁.heap.get? fa=some o→o.data=.func (docDef d.name d.params d.body d.scope pm cd doc)→s₁.heap.CodeRec cd d.name→mg d.name=some (.ref fa)→
   s₁.heap.get? a=some { cls:=.type "list",data:=.seq vs.toArray }→IntsAre vs ns→ns.length≤n→s₁.gens=#[]→
   codeAny (model l.prog w) callerA (.call (.ref fa) ⟨[.ref a],[]⟩) (fun r s'=>r=.ok (.ret (.bool true))∧OldK s₁.heap s'.heap∧s'.os=s₁.os∧AllBare s'.gens) s₁):
  WalkO q loose XP YP l.row.toRowW d [] (fun f vs=>PySem.call f vs):=by
 intro w s₀ s₁ mg mb G Y fa o pm cd doc dV kV ho hd hcd hD hmg hg args vals as hpre hlay hrd hwl hlo
 obtain rfl:dV=.none:=Dflts.none hD hdf
 obtain rfl:kV=.none:=Dflts.noKw hD
 obtain ⟨a,vs,ns,rfl,rfl,hobj,hints,hlen⟩:=script_of hn hpre hwl
 refine enter_call (codeAny_mono (call w s₀ s₁ mg mb fa o pm cd doc a vs ns G Y ho (fd_plain hd) hcd hmg hobj hints hlen hg) fun r s' hq=>?_)
 obtain ⟨rfl,h2,h3,h4⟩:=hq
 exact ⟨.inl ⟨.bool true,.bool true,[],rfl,fun _=>rfl,.bool true,post_true l _,fun _=>⟨List.Pairwise.nil,fun _ hm=>(nomatch hm)⟩⟩,h2,h3,h4⟩
section
variable {prog:Program} {w:World} {A:Around} {E:Value→Shared→Prop} {s:Shared} {K:Frag}
end
end Att
namespace L2
open PySem PySem.Spec PyProof.Rows
theorem kH:∀ {vs:List Value} {ns:List Int},IntsAre vs ns→Vals (ns.map V.int) vs
 | _,_,.nil=>.nil
 | _,_,.cons n t h=>.cons ⟨t,rfl⟩ (kH h)
def Only (H:Hp):Prop:=∀ b,H b=none∨∃ o xs,H b=some (.frz o (.lst xs))
theorem vz {P:Program} {w:World} {K:PySem.W.Frag} {mg mb:Str→Option Value} {CX:CXT} {k:Nat} {fa a:Addr} {fd:FuncData} {x:Str} {sp:Sp} {s₁:Shared} {vs:List Value} {ns:List Int}
  (KX:K.In s₁.heap) (hns:s₁.heap.Ns mainGlobals mg) (hb:s₁.heap.Ns builtinsNs mb) (hbb:∀ x:Str,x≠"__name__"→mb x=bootBuiltins x) (hlim:s₁.heap.NoLimit) (hg:s₁.gens=#[])
  (ha:s₁.heap.get? a=some { cls:=.type "list",data:=.seq vs.toArray }) (hi:IntsAre vs ns) (hl:ns.length≤sizeLine) (hr:Room k callerA)
  (F:∀ base:Heap,K.In base→base.Ns mainGlobals mg→FnOk P w K mg base CX k fa fd [x] sp) (hbind:∀ (s:Shared) (u:Value),BindsTo s fd ⟨[u],[]⟩ [(x,u)])
  (hsp:∀ H:Hp,Only H→SqL K H a (ns.map V.int)→sp [.ref a] H (fun v _=>v=.bl true) fun _ _ _=>False)
  (hCX:∀ H e s',CX [] H s₁ (fun _ _ _=>False) e s'→False):
  codeAny (model P w) callerA (.call (.ref fa) ⟨[.ref a],[]⟩) (fun r s'=>r=.ok (.ret (.bool true))∧OldK s₁.heap s'.heap∧s'.os=s₁.os∧AllBare s'.gens) s₁:=by
 have rv:=kH hi
 have lenV:=hi.length
 have core:∀ H:Hp,Only H→SqL K H a (ns.map V.int)→HOk P w H s₁.heap→(∀ b,H b≠none→b=a)→(H a≠none→K.lookup a=none)→
   codeAny (model P w) callerA (.call (.ref fa) ⟨[.ref a],[]⟩) (fun r s'=>r=.ok (.ret (.bool true))∧OldK s₁.heap s'.heap∧s'.os=s₁.os∧AllBare s'.gens) s₁:=by
  intro H hO hS hok hA hK
  have base_of:∀ {b:Addr} {o:Obj},s₁.heap.get? b=some o→H b=none→(hidT s₁.heap H).get? b=some o:=fun e n=>vo e n
  have noA:∀ {b:Addr} {o:Obj} {es:Array DictEntry} {ep:Nat},s₁.heap.get? b=some o→o.data=.dict es ep→H b=none:=fun {b o es ep} e d=>by
   cases q:H b with
   | none=>rfl
   | some u=>
    have e':b=a:=hA b (by rw [q]; simp)
    subst e'
    rw [ha] at e; cases e
    have d':Data.seq vs.toArray _=Data.dict es ep:=d
    cases d'
  have nsK:∀ {b:Addr} {m:Str→Option Value},s₁.heap.Ns b m→(hidT s₁.heap H).Ns b m:=fun {b m} ⟨o,es,ep,e,d,r⟩=>⟨o,es,ep,base_of e (noA e d),d,r⟩
  have hKb:K.In (hidT s₁.heap H):=fun b o e=>base_of (KX b o e) (by
   cases q:H b with
   | none=>rfl
   | some u=>
    have e':b=a:=hA b (by rw [q]; simp)
    subst e'
    rw [hK (by rw [q]; simp)] at e; cases e)
  have hM:Mod K mg (hidT s₁.heap H):=⟨hKb,nsK hns,⟨mb,nsK hb,hbb⟩,let ⟨mc,h1,h2⟩:=hlim; ⟨mc,nsK h1,h2⟩⟩
  have e0:Env0 P w K mg (hidT s₁.heap H) callerA [] s₁ H:=⟨rfl,hM,fun b o e=>wb e,Nat.le_of_eq (ug _ _),trivial,fun b hb=>absurd (show b∈([]:List Addr) from hb) (by simp),hok,.of_eq hg⟩
  refine codeAny_mono ((F _ hKb (nsK hns)).run callerA [] s₁ H ⟨[.ref a],[]⟩ [.ref a] [.ref a] _ _ hr e0 (hbind s₁ (.ref a)) (.cons rfl .nil) (hsp H hO hS)) fun r s' h=>?_
  cases r with
  | error e=>exact (hCX H e s' h).elim
  | ok fl=>
   cases fl with
   | next=>exact False.elim h
   | brk=>exact False.elim h
   | cont=>exact False.elim h
   | ret u=>
    obtain ⟨v,H',os,bare,un,hok',r',q⟩:=h
    have q':v=.bl true:=q
    subst q'
    obtain rfl:u=Value.bool true:=r'
    refine ⟨rfl,OldK.of_keep fun b o e=>?_,os,bare⟩
    cases q:H b with
    | none=>exact un.keep b o e q (by intro z; exact absurd (show b∈([]:List Addr) from z) (by simp)) (by simp)
    | some u=>
     rcases hO b with z | ⟨ob,xs,z⟩
     · rw [q] at z; cases z
     · have z2:=un.frzs b ob _ z
       obtain ⟨e1,_⟩:=hok b _ z
       obtain ⟨e2,_⟩:=hok' b _ z2
       rw [e] at e1; cases e1
       exact e2
 cases hk:K.lookup a with
 | some o=>
  have e:=KX a o hk
  rw [ha] at e
  cases e
  refine core (fun _=>none) (fun _=>.inl rfl) (.inr ⟨_,vs.toArray,_,hk,rfl,rfl,rfl,by rw [List.size_toArray,lenV]; exact hl,by simpa using rv⟩) (fun b u z=>by have z':(none:Option HO)=some u:=z; cases z') (fun b z=>absurd rfl z) fun z=>absurd rfl z
 | none=>
  refine core (fun b=>if b=a then some (.frz { cls:=.type "list",data:=.seq vs.toArray } (.lst (ns.map V.int))) else none) (fun b=>?_) (.inl (.inr ⟨{ cls:=.type "list",data:=.seq vs.toArray },if_pos rfl⟩)) (fun b u z=>?_) (fun b z=>?_) fun _=>hk
  · by_cases hb:b=a
    · exact .inr ⟨_,_,if_pos hb⟩
    · exact .inl (if_neg hb)
  · by_cases hb:b=a
    · have z':=(if_pos hb).symm.trans z
      cases z'
      subst hb
      exact ⟨ha,by rw [List.length_map]; exact hl,vs,_,rv,ha⟩
    · have z':=(if_neg hb).symm.trans z
      cases z'
  · by_cases hb:b=a
    · exact hb
    · exact absurd (if_neg hb) z
end L2
namespace L2
open PySem PySem.Spec PyProof.Rows
theorem wp {l:PySem.W.OpenLaw} {n k:Nat} {q:Program} {loose:List Str} {XP:(Str→Option Value)→Heap→Prop} {YP:World→Heap→Prop} {d:DefRec} {K:Params→PySem.W.Frag} {CX:World→CXT} {sp:World→Sp} {x:Str}
  (hn:l.most=some n) (hn2:n≤sizeLine) (hdf:d.params.defaults=[]) (hr:Room k callerA)
  (hY:∀ (w:World) (h:Heap),YP w h→(K w.params).In h)
  (F:∀ (w:World) (mg:Str→Option Value) (fa:Addr) (h:Heap),(K w.params).In h→h.Ns mainGlobals mg→mg d.name=some (.ref fa)→
   ∃ fd:FuncData,(∀ (s:Shared) (u:Value),BindsTo s fd ⟨[u],[]⟩ [(x,u)])∧
    ∀ base:Heap,(K w.params).In base→base.Ns mainGlobals mg→FnOk l.prog w (K w.params) mg base (CX w) k fa fd [x] (sp w))
  (hsp:∀ (w:World) (H:Hp) (a:Addr) (ns:List Int),ns.length≤n→Only H→SqL (K w.params) H a (ns.map V.int)→sp w [.ref a] H (fun v _=>v=.bl true) fun _ _ _=>False)
  (hCX:∀ (w:World) (H:Hp) (s:Shared) (e:Value) (s':Shared),CX w [] H s (fun _ _ _=>False) e s'→False):
  PySem.W.WalkO q loose XP YP l.row.toRowW d [] (fun f vs=>PySem.call f vs):=by
 refine Att.attach_call hn hdf fun w s₀ s₁ mg mb fa o pm cd doc a vs ns G Y ho hd hcd hmg hobj hints hlen hg=>?_
 have KX:=hY w _ Y
 obtain ⟨fd,hb,hF⟩:=F w mg fa _ KX G.T.g hmg
 exact vz KX G.T.g G.T.b G.T.builtins G.T.nolimit hg hobj hints (Nat.le_trans hlen hn2) hr hF hb (fun H hO hS=>hsp w H a ns hlen hO hS) fun H e s'=>hCX w H s₁ e s'
end L2
namespace L2
open PySem PySem.Spec PyProof.Rows
def a9 (s:Stmt):Arguments:=match s with
 | .FunctionDef _ a _ _ _ _ _ _ _ _=>a
 | _=>{ posonlyargs:=[],args:=[],vararg:=none,kwonlyargs:=[],kw_defaults:=[],kwarg:=none,defaults:=[] }
def aX (s:Stmt):List Stmt:=match s with
 | .FunctionDef _ _ b _ _ _ _ _ _ _=>b
 | _=>[]
def ag (s:Stmt):Scope:=match s with
 | .FunctionDef _ _ _ _ _ _ sc _ _ _=>sc
 | _=>{ kind:=.function,names:=[],isGenerator:=false,isCoroutine:=false }
abbrev CX0:CXT:=fun _ _ _ _ _ _=>False
abbrev E0:XK:=fun _ _ _=>False
theorem mL {X:Cx}:kF CX0 X E0:=fun _ _ _ _ _ _ _ h=>h.elim
structure Fun (K:PySem.W.Frag) (x qual:Str) (st:Stmt) (f:Addr) (fd:FuncData):Prop where
 ex:∃ (oc:Value) (od:Option Addr) (kV doc pm:Value) (an:Option Addr) (cdv ct:Value) (osl:Array (Option Value)),
  fd=PySem.W.fnOf x qual (a9 st) (aX st) (ag st) .none kV doc pm an cdv ct∧K.lookup f=some ⟨oc,od,.func fd,osl⟩∧PySem.W.codeIn K cdv qual=true
 kp:PySem.W.keepIn K (.ref f)=true
section
variable {P:Program} {w:World} {K:PySem.W.Frag} {mg:Str→Option Value} {base:Heap}
theorem Fun.ok {x qual:Str} {st:Stmt} {f:Addr} {fd:FuncData} {N ps:List Str} {k:Nat} {sp:Sp} (F:Fun K x qual st f fd) (S:am N ps (ag st)) (len:∀ vs H Q E,sp vs H Q E→vs.length=ps.length)
  (hbody:∀ (cdv:Value) (A:Around) (outer:List Env) (s:Shared) (H:Hp) (vs:List V) (Q:VK) (E:XK),Room k (A.deeper (envOfC qual (ag st) s.heap.objs.size f cdv))→sp vs H Q E→
   ∃ t,PSs (cxOf CX0 P w K mg base N qual (ag st) f cdv A outer s H E).nox (aX st) t∧t { nx:=fun _ H'=>Q .non H',rt:=Q } (start N vs) H):FnOk P w K mg base CX0 (k+1) f fd ps sp:=by
 obtain ⟨oc,od,kV,doc,pm,an,cdv,ct,osl,rfl,lk,hcd⟩:=F.ex
 refine vT lk hcd S len fun A outer s H vs Q E hr hsp=>?_
 obtain ⟨t,h,q⟩:=hbody cdv A outer s H vs Q E hr hsp
 exact ⟨t,h.nox,q⟩
theorem Fun.binds {x qual:Str} {st:Stmt} {f:Addr} {fd:FuncData} {ps:List Str} (F:Fun K x qual st f fd)
  (h:∀ (kV doc pm:Value) (an:Option Addr) (cdv ct:Value) (us:List Value),us.length=ps.length→bindArgs (PySem.W.fnOf x qual (a9 st) (aX st) (ag st) .none kV doc pm an cdv ct) ⟨us,[]⟩=pure (ps.zip us)):Binds K fd ps []:=by
 obtain ⟨oc,od,kV,doc,pm,an,cdv,ct,osl,rfl,lk,hcd⟩:=F.ex
 exact .all (h kV doc pm an cdv ct)
theorem aw {x qual:Str} {st:Stmt} {f:Addr} {oc:Value} {od an:Option Addr} {osl:Array (Option Value)} {kV doc pm cdv ct:Value} (l:K.lookup f=some ⟨oc,od,.func (PySem.W.fnOf x qual (a9 st) (aX st) (ag st) .none kV doc pm an cdv ct),osl⟩)
  (c:PySem.W.codeIn K cdv qual=true) (k:PySem.W.keepIn K (.ref f)=true):Fun K x qual st f (PySem.W.fnOf x qual (a9 st) (aX st) (ag st) .none kV doc pm an cdv ct):=⟨⟨oc,od,kV,doc,pm,an,cdv,ct,osl,rfl,l,c⟩,k⟩
end
theorem aE {n:Nat} (h:n≤1000):n < sizeLine:=Nat.lt_of_le_of_lt h (by decide)
section
variable {X:Cx}
theorem pv (i:Nat) {x:Str} {pos:Pos} (hN:X.N[i]? =some x:=by rfl) (hv:Vis X.env.scope x:=by first | exact Or.inl rfl | exact Or.inr (Or.inl rfl) | exact Or.inr (Or.inr rfl)) (hd:(x==("__debug__":Str))=false:=by decide)
  (hcd:(x==("__classdict__":Str))=false:=by decide):PE X (.Name x pos) (tVar i):=wQ hN hv hd hcd
end
theorem iteF {A B:Prop} (h:B):if false=true then A else B:=by
 rw [if_neg Bool.false_ne_true]
 exact h
theorem iteT {A B:Prop} (h:A):if true=true then A else B:=by
 rw [if_pos rfl]
 exact h
def Same (H H':Hp):Prop:=∀ b o,H b=some o→H' b=some o
theorem Same.refl (H:Hp):Same H H:=fun _ _ h=>h
theorem Same.trans {H H1 H2:Hp} (a:Same H H1) (b:Same H1 H2):Same H H2:=fun c o h=>b c o (a c o h)
theorem Same.free {H H':Hp} (e:Same H H') {l:Addr} (h:H' l=Option.none):H l=Option.none:=by
 cases q:H l with
 | none=>rfl
 | some o=>
  rw [e l o q] at h
  cases h
theorem Same.seq {K:PySem.W.Frag} {H H':Hp} {a:Addr} {xs:List V} (e:Same H H') (h:SqL K H a xs):SqL K H' a xs:=by
 rcases h with (h | ⟨o,h⟩) | h
 · exact .inl (.inl (e _ _ h))
 · exact .inl (.inr ⟨o,e _ _ h⟩)
 · exact .inr h
end L2
namespace L2
open PySem PySem.Spec PyProof.Rows
section
variable {κ:Type} [DecidableEq κ]
def valV (kvs:List (κ × V)) (k:κ):Option V:=(kvs.find? fun kv=>decide (kv.1=k)).map (·.2)
def putK (kvs:List (κ × V)) (k:κ) (v:V):List (κ × V):=
 if (kvs.any fun kv=>decide (kv.1=k))=true then kvs.map (fun kv=>if kv.1=k then (kv.1,v) else kv) else kvs++[(k,v)]
theorem qC {p:κ × V} {r:List (κ × V)} {k:κ} (e:p.1=k):valV (p::r) k=some p.2:=by simp [valV,List.find?_cons,e]
theorem qD {p:κ × V} {r:List (κ × V)} {k:κ} (e:¬ p.1=k):valV (p::r) k=valV r k:=by simp [valV,List.find?_cons,e]
theorem RelO.isSome_eq {o:Option V} {u:Option Value} (r:RelO o u):o.isSome=u.isSome:=by
 cases o with
 | none=>cases u with
  | none=>rfl
  | some _=>exact (show False from r).elim
 | some _=>cases u with
  | none=>exact (show False from r).elim
  | some _=>rfl
theorem KV.val {kvs:List (κ × V)} {vs:List (κ × Value)} (r:KV kvs vs) (k:κ):RelO (valV kvs k) (valueAt vs k):=by
 unfold KV at r
 induction r with
 | nil=>exact True.intro
 | @cons p q ps qs h t ih=>
  obtain ⟨h1,h2⟩:=h
  by_cases e:p.1=k
  · have e':q.1=k:=h1.symm.trans e
    have b:valueAt (q::qs) k=some q.2:=by simp [valueAt,List.find?_cons,e']
    rw [qC e,b]; exact h2
  · have e':¬ q.1=k:=fun z=>e (h1.trans z)
    have b:valueAt (q::qs) k=valueAt qs k:=by simp [valueAt,List.find?_cons,e']
    rw [qD e,b]; exact ih
theorem KV.length {kvs:List (κ × V)} {vs:List (κ × Value)} (r:KV kvs vs):kvs.length=vs.length:=Paired.length r
end
theorem qd {P:Program} {w:World} {k:Key} {u:Value} (r:RelV (kV k) u):(dh P w).is k u=true:=by
 cases k with
 | inl i=>obtain ⟨t,e⟩:=(show ∃ t,u=Value.int i t from r); subst e; exact rY P w i t
 | inr x=>obtain ⟨t,e⟩:=(show ∃ t,u=Value.str x t from r); subst e; exact rZ P w x t
theorem o6 {P:Program} {w:World}:∀ {ks:List Key} {us:List Value},Vals (ks.map kV) us→ItemsAre (dh P w) ks us
 | [],_,r=>by rw [List.map_nil] at r; cases r; exact .nil
 | k::ks,_,r=>by
  rw [List.map_cons] at r
  cases r with
  | cons h t=>exact .cons (qd h) (o6 t)
abbrev KT (H:Hp):List (List Key × V)→List (List Key × Addr × Value)→Prop:=Paired fun p q=>p.1=q.1∧H q.2.1=some (.tup (p.1.map kV))∧RelV p.2 q.2.2
theorem KT.val {H:Hp} {kvs:List (List Key × V)} {xs:List (List Key × Addr × Value)} (r:KT H kvs xs) (k:List Key):RelO (valV kvs k) ((atKey xs k).map (·.2)):=by
 induction r with
 | nil=>exact True.intro
 | @cons p q ps qs h t ih=>
  obtain ⟨h1,_,h2⟩:=h
  by_cases e:p.1=k
  · have e':q.1=k:=h1.symm.trans e
    have b:atKey (q::qs) k=some q.2:=by simp [atKey,List.find?_cons,e']
    rw [qC e,b]; exact h2
  · have e':¬ q.1=k:=fun z=>e (h1.trans z)
    have b:atKey (q::qs) k=atKey qs k:=by simp [atKey,List.find?_cons,e']
    rw [qD e,b]; exact ih
section
variable {P:Program} {w:World} {H:Hp} {h:Heap} {a:Addr}
theorem vU {u:HO} (ok:HOk P w H h) (e:Rd H a u):ObjOk P w H h a u:=e.ok ok
theorem mM {kvs:List (Key × V)} (ok:HOk P w H h) (e:Rd H a (.dK kvs)):kvs.length≤sizeLine∧(a==sysModules)=false∧∃ vs,KV kvs vs∧h.DictOf (dh P w) a vs:=
 show ObjOk P w H h a (.dK kvs) from vU ok e
theorem mN {ks:List Key} (ok:HOk P w H h) (e:H a=some (.tup (ks.map kV))):(tupleKind (dh P w)).is h ks a:=by
 obtain ⟨_,its,r,o,h1,h2,n,h3⟩:=(show ObjOk P w H h a (.tup (ks.map kV)) from ok a _ e)
 exact ⟨o,its.toArray,n,h1,h2,h3,by simpa using o6 r⟩
theorem qe {kvs:List (List Key × V)} (ok:HOk P w H h) (e:Rd H a (.dT kvs)):kvs.length≤sizeLine∧(a==sysModules)=false∧
  ∃ xs,KT H kvs xs∧h.DictOfH (tupleKind (dh P w)) a xs:=by
 obtain ⟨z,y,xs,r,o,es,ep,h1,h2,h3,h4,h5⟩:=(show ObjOk P w H h a (.dT kvs) from vU ok e)
 refine ⟨z,y,xs,r,o,es,ep,h1,h2,h3,h4,fun x hx=>?_,h5⟩
 have all:∀ {l:List (List Key × V)} {m:List (List Key × Addr × Value)},KT H l m→∀ x∈m,(tupleKind (dh P w)).is h x.1 x.2.1:=by
  intro l m q
  induction q with
  | nil=>intro x hx; exact nomatch hx
  | @cons p q ps qs hq t ih=>
   intro x hx
   rcases List.mem_cons.mp hx with e | hx
   · subst e
     exact mN ok (by rw [← hq.1]; exact hq.2.1)
   · exact ih x hx
 exact all r x hx
end
def DGet (H:Hp) (a:Addr) (y:V) (r:Option V):Prop:=
 (∃ kvs k,Rd H a (.dK kvs)∧y=kV k∧r=valV kvs k)∨∃ kvs k b,Rd H a (.dT kvs)∧y=.ref b∧H b=some (.tup (k.map kV))∧r=valV kvs k
def DPut (H:Hp) (a:Addr) (y v:V) (H':Hp):Prop:=
 (∃ kvs k,H a=some (.dK kvs)∧y=kV k∧kvs.length < sizeLine∧H'=upd H a (.dK (putK kvs k v)))∨
 ∃ kvs k b,H a=some (.dT kvs)∧y=.ref b∧H b=some (.tup (k.map kV))∧kvs.length < sizeLine∧H'=upd H a (.dT (putK kvs k v))
theorem DGet.k {H:Hp} {a:Addr} {kvs:List (Key × V)} {k:Key} (e:H a=some (.dK kvs)):DGet H a (kV k) (valV kvs k):=.inl ⟨kvs,k,.inl e,rfl,rfl⟩
section
variable {X:Cx} {pins:List (Addr × Obj)} {σ:St} {H:Hp} {s:Shared} {a:Addr} {y v:V} {u r:Value} {o:Option V} {A:Around} {E:Value→Shared→Prop}
theorem ux {Q:Value→Shared→Prop} (hu:A.units+1 < cLine) (I:Inv X pins σ H s) (g:DGet H a y (some v)) (ry:RelV y u) (h:∀ w' s',Inv X pins σ H s'→RelV v w'→Q w' s'):
  wpAny (model X.prog X.w) A (getItem (.ref a) u) Q E s:=by
 rcases g with ⟨kvs,k,e,ey,l⟩ | ⟨kvs,k,b,e,ey,eb,l⟩
 · subst ey
   obtain ⟨z,hd,vs,rel,dd⟩:=mM I.hok e
   obtain ⟨w',hw,rw'⟩:=RelO.some_of (v:=v) (o:=valueAt vs k) (by rw [l]; exact rel.val k)
   exact wpAny_getItem_of (qd ry) dd.mapOf hw (h w' _ (I.tok _) rw')
 · subst ey
   cases (show u=Value.ref b from ry)
   obtain ⟨z,hd,xs,rel,dd⟩:=qe I.hok e
   obtain ⟨w',hw,rw'⟩:=RelO.some_of (v:=v) (o:=(atKey xs k).map (·.2)) (by rw [l]; exact rel.val k)
   obtain ⟨p,hp,hp2⟩:=Option.map_eq_some_iff.mp hw
   refine wpAny_getItem_heap (tupleKind_room_in1 hu) (mN I.hok eb) dd hp ?_
   rw [hp2]
   exact h w' _ (I.tok _) rw'
theorem x9 {Q:Value→Shared→Prop} (hu:A.units+1 < cLine) (I:Inv X pins σ H s) (g:DGet H a y o) (ry:RelV y u) (h:∀ s',Inv X pins σ H s'→Q (.bool o.isSome) s'):
  wpAny (model X.prog X.w) A (compareOp .In u (.ref a)) Q E s:=by
 rcases g with ⟨kvs,k,e,ey,l⟩ | ⟨kvs,k,b,e,ey,eb,l⟩
 · subst ey
   obtain ⟨z,hd,vs,rel,dd⟩:=mM I.hok e
   refine wpAny_in_of (qd ry) hd dd.mapOf ?_
   rw [← (rel.val k).isSome_eq,← l]
   exact h _ (I.tok _)
 · subst ey
   cases (show u=Value.ref b from ry)
   obtain ⟨z,hd,xs,rel,dd⟩:=qe I.hok e
   refine wpAny_in_heap (tupleKind_room_in1 hu) (mN I.hok eb) hd dd ?_
   have q:=(rel.val k).isSome_eq
   rw [Option.isSome_map] at q
   rw [← q,← l]
   exact h _ (I.tok _)
theorem wq {Q:Value→Shared→Prop} (hu:A.units+1 < cLine) (I:Inv X pins σ H s) (g:DGet H a y o) (ry:RelV y u) (h:∀ s',Inv X pins σ H s'→Q (.bool (!o.isSome)) s'):
  wpAny (model X.prog X.w) A (compareOp .NotIn u (.ref a)) Q E s:=by
 rcases g with ⟨kvs,k,e,ey,l⟩ | ⟨kvs,k,b,e,ey,eb,l⟩
 · subst ey
   obtain ⟨z,hd,vs,rel,dd⟩:=mM I.hok e
   refine wpAny_notIn_of (qd ry) hd dd.mapOf ?_
   rw [← (rel.val k).isSome_eq,← l]
   exact h _ (I.tok _)
 · subst ey
   cases (show u=Value.ref b from ry)
   obtain ⟨z,hd,xs,rel,dd⟩:=qe I.hok e
   refine wpAny_notIn_heap (tupleKind_room_in1 hu) (mN I.hok eb) hd dd ?_
   have q:=(rel.val k).isSome_eq
   rw [Option.isSome_map] at q
   rw [← q,← l]
   exact h _ (I.tok _)
end
section
variable {X:Cx} {pins:List (Addr × Obj)} {σ:St} {H:Hp} {s:Shared} {a:Addr} {kvs:List (Key × V)} {k:Key} {u:Value} {A:Around} {E:Value→Shared→Prop}
theorem xV {Q:Value→Shared→Prop} (I:Inv X pins σ H s) (e:Rd H a (.dK kvs)) (h:∀ t s',Inv X pins σ H s'→Q (.int kvs.length t) s'):wpAny (model X.prog X.w) A (call (.builtin "len") [.ref a]) Q E s:=by
 obtain ⟨z,hd,vs,rel,dd⟩:=mM I.hok e
 refine call_len_dict hd dd (by rw [← rel.length]; rw [sizeLine_eq] at z; omega) ?_
 rw [← rel.length]
 exact h _ _ (I.tok _)
end
theorem sd {X:Cx} {pins:List (Addr × Obj)} {σ:St} {H:Hp} {s:Shared} {a:Addr} {y:V} {o:Option V} (I:Inv X pins σ H s) (g:DGet H a y o):s.TypeIs (.ref a) "dict":=by
 rcases g with ⟨kvs,k,e,_,_⟩ | ⟨kvs,k,b,e,_,_,_⟩
 · obtain ⟨_,_,vs,_,dd⟩:=mM I.hok e
   exact dd.typeIs
 · obtain ⟨_,_,xs,_,dd⟩:=qe I.hok e
   exact dd.typeIs
def sDPut (td ty tv:TE):TS:=fun D σ H=>tv σ H fun v H1=>td σ H1 fun x H2=>ty σ H2 fun y H3=>∃ a H4,x=.ref a∧DPut H3 a y v H4∧D.nx σ H4
def xc:TE:=fun _ H Q=>∀ p,H p=none→Q (.ref p) (upd H p (.dK []))
end L2
namespace L2
open PySem PySem.Spec PyProof.Rows
section
variable {X:Cx}
theorem uy:CallR X (.builtin "len") (fun xs H Q=>∃ a kvs,xs=[V.ref a]∧H a=some (.dK kvs)∧Q (.int kvs.length) H):=by
 intro pins s σ H xs us Q I r h
 obtain ⟨a,kvs,rfl,ha,q⟩:=h
 obtain ⟨u,rfl,ru⟩:=cD r
 cases ru
 exact xV I (.inl ha) fun t s' I'=>⟨.int kvs.length,H,I',⟨t,rfl⟩,q⟩
end
end L2
namespace L2
open PySem PySem.Spec PyProof.Rows
theorem b3 {α:Type} (x:Str):∀ (a b:List (Str × α)),(a++b).lookup x=match a.lookup x with | some c=>some c | none=>b.lookup x
 | [],b=>rfl
 | (k,v)::r,b=>by
  rw [List.cons_append,List.lookup_cons,List.lookup_cons]
  cases x==k with
  | true=>rfl
  | false=>exact b3 x r b
theorem g3:∀ (names:List (Str × NameKind)) (n:Nat) (acc cl:List (Str × Addr)),cellsFrom n names (acc++cl)=cellsFrom n names acc++cl
 | [],_,_,_=>rfl
 | (y,k)::r,n,acc,cl=>by
  unfold cellsFrom
  split
  · rw [← List.cons_append]; exact g3 r _ _ cl
  · exact g3 r _ _ cl
theorem e8 {x:Str} {c:Addr}:∀ (names:List (Str × NameKind)) (n:Nat) (acc:List (Str × Addr)),(x,c)∈cellsFrom n names acc→(x,NameKind.cell)∈names∨(x,c)∈acc
 | [],_,_,h=>.inr h
 | (y,k)::r,n,acc,h=>by
  unfold cellsFrom at h
  split at h
  · rename_i hk
    have hk:k=.cell:=by simpa using hk
    subst hk
    rcases e8 r _ _ h with z | z
    · exact .inl (List.mem_cons_of_mem _ z)
    · rcases List.mem_cons.mp z with z | z
      · cases z; exact .inl List.mem_cons_self
      · exact .inr z
  · rcases e8 r _ _ h with z | z
    · exact .inl (List.mem_cons_of_mem _ z)
    · exact .inr z
theorem jG {env:Env} (f:Str × NameKind→List (Str × Addr)→Sem (ForInStep (List (Str × Addr))))
  (hf:∀ name kind cs,f (name,kind) cs=if kind==.free then (do let a ← cellOf env name; pure (.yield ((name,a)::cs))) else pure (.yield cs)):
  ∀ (names:List (Str × NameKind)) (acc:List (Str × Addr)),(∀ x,(x,NameKind.free)∈names→∃ c,env.cells.lookup x=some c)→(∀ x c,acc.lookup x=some c→env.cells.lookup x=some c)→
   ∃ cl,forIn names acc f=(pure cl:Sem _)∧(∀ x c,cl.lookup x=some c→env.cells.lookup x=some c)∧(∀ x,((x,NameKind.free)∈names∨∃ c,acc.lookup x=some c)→∃ c,cl.lookup x=some c)
 | [],acc,_,h2=>⟨acc,rfl,h2,fun x h=>h.elim (fun z=>nomatch z) id⟩
 | (y,k)::r,acc,h1,h2=>by
  rw [List.forIn_cons,hf]
  by_cases hk:(k==NameKind.free)=true
  · rw [if_pos hk]
    have hk':k=.free:=by simpa using hk
    subst hk'
    obtain ⟨c,hc⟩:=h1 y List.mem_cons_self
    have e:(cellOf env y:Sem Addr)=pure c:=by unfold cellOf; rw [hc]
    rw [e]
    obtain ⟨cl,e1,e2,e3⟩:=jG f hf r ((y,c)::acc) (fun x hx=>h1 x (List.mem_cons_of_mem _ hx)) (fun x c' hx=>by
     rw [List.lookup_cons] at hx
     cases hb:x==y with
     | true=>rw [hb] at hx; cases hx; rw [beq_iff_eq.mp hb]; exact hc
     | false=>rw [hb] at hx; exact h2 x c' hx)
    refine ⟨cl,?_,e2,fun x hx=>e3 x ?_⟩
    · exact e1
    · rcases hx with hx | ⟨c',hx⟩
      · rcases List.mem_cons.mp hx with z | z
        · cases z; exact .inr ⟨c,by rw [List.lookup_cons]; simp⟩
        · exact .inl z
      · cases hb:x==y with
        | true=>exact .inr ⟨c,by rw [List.lookup_cons,hb]⟩
        | false=>exact .inr ⟨c',by rw [List.lookup_cons,hb]; exact hx⟩
  · rw [if_neg hk]
    obtain ⟨cl,e1,e2,e3⟩:=jG f hf r acc (fun x hx=>h1 x (List.mem_cons_of_mem _ hx)) h2
    refine ⟨cl,e1,e2,fun x hx=>e3 x ?_⟩
    rcases hx with hx | hx
    · rcases List.mem_cons.mp hx with z | z
      · cases z; exact absurd rfl hk
      · exact .inl z
    · exact .inr hx
theorem tG {scope:Scope} {env:Env} (h:∀ x,(x,NameKind.free)∈scope.names→∃ c,env.cells.lookup x=some c):
  ∃ cl,closureFor scope env=pure cl∧(∀ x c,cl.lookup x=some c→env.cells.lookup x=some c)∧∀ x,(x,NameKind.free)∈scope.names→∃ c,cl.lookup x=some c:=by
 obtain ⟨cl,e1,e2,e3⟩:=jG (env:=env) (fun x cs=>match x with | (name,kind)=>if kind==.free then (do let a ← cellOf env name; pure (.yield ((name,a)::cs))) else pure (.yield cs)) (fun _ _ _=>rfl) scope.names [] h (fun x c hx=>nomatch hx)
 refine ⟨cl,?_,e2,fun x hx=>e3 x (.inl hx)⟩
 have:closureFor scope env=(forIn scope.names [] (fun x cs=>match x with | (name,kind)=>if kind==.free then (do let a ← cellOf env name; pure (.yield ((name,a)::cs))) else pure (.yield cs)) >>= fun cs=>pure cs):=by
  simp only [closureFor]
 rw [this,e1]
 rfl
def uz (scope:Scope) (cl:List (Str × Addr)) (C:Addr) (env:Env):Env:=
 { newEnv scope C env.globals (cellsFrom (C+1) scope.names cl) env.qual none .none (some env) builtinsNs with scope:=relabel scope env }
theorem vA {M:Model} {A:Around} {E:Value→Shared→Prop} {s:Shared} {scope:Scope} {cl:List (Str × Addr)} {env:Env} {Q:Env→Shared→Prop}
  (hQ:Q (newEnv scope s.heap.objs.size env.globals (cellsFrom (s.heap.objs.size+1) scope.names cl) env.qual none .none (some env) builtinsNs) { s with heap:=pushCells (s.heap.push { cls:=.type "dict",data:=.dict #[] }) scope.names }):
  wpAny M A (newFunctionEnv scope env.globals cl [] env.qual none .none (some env)) Q E s:=by
 simp only [newFunctionEnv,Option.isSome_some,if_true]
 refine wpAny_bind (wpAny_alloc ?_)
 refine wpAny_bind (wpAny_layCells _ (fun name kind cells=>by cases hkc:kind==NameKind.cell <;> simp [hkc]) _ _ _ _ ?_)
 rw [show ({ s with heap:=s.heap.push { cls:=.type "dict",data:=.dict #[] } }:Shared).heap.objs.size=s.heap.objs.size+1 from Heap.size_push ..]
 refine wpAny_bind ?_
 rw [List.forIn_nil]
 exact wpAny_pure (wpAny_pure hQ)
section
variable {prog:Program} {w:World} {A:Around} {E:Value→Shared→Prop} {R:Result→Shared→Prop} {s:Shared}
theorem uA {elt target iter:Expr} {ifs:List Expr} {scope:Scope} {pos:Pos} {it acc:Value} {env:Env} (I:Nat→Shared→Prop)
  (turn:∀ n s,I n s→wpAny (model prog w) A (pyNext it) (fun r s₁=>match r with
   | none=>R (.ok .next) s₁
   | some v=>wpAny (model prog w) A (letOwnedTupleGo target it v) (fun _ s₁'=>wpAny (model prog w) A (assign target env v) (fun _ s₂=>
     wpAny (model prog w) A (forIn ifs true fun c r=>if r=true then do let ok ← isTrue c env (eval c env); pure (ForInStep.yield ok) else pure (ForInStep.yield r)) (fun ok s₃=>
      if ok=true then wpAny (model prog w) A (eval elt env) (fun x s₄=>
       wpAny (model prog w) A (call (.builtin "list.append") [acc,x]) (fun _ s₅=>∃ m,m < n∧I m s₅) (notedBy (model prog w) A env fun e s'=>R (.error e) s') s₄) (notedBy (model prog w) A env fun e s'=>R (.error e) s') s₃
      else ∃ m,m < n∧I m s₃) (notedBy (model prog w) A env fun e s'=>R (.error e) s') s₂) (notedBy (model prog w) A env fun e s'=>R (.error e) s') s₁') (notedBy (model prog w) A env fun e s'=>R (.error e) s') s₁) (notedBy (model prog w) A env fun e s'=>R (.error e) s') s)
  (n:Nat) (h:I n s):
  codeAny (model prog w) A (.compLoop (.ListComp elt [⟨target,iter,ifs,0⟩] scope pos) 0 it acc env) R s:=by
 refine codeAny_loop rfl I (fun n s hI=>?_) n h
 show wpAny _ A ((compTurn (.ListComp elt [⟨target,iter,ifs,0⟩] scope pos) 0 it acc env).onRaise (fun x=>do noteFrame x env; theTreesLotGoes x)) _ _ s
 refine wpAny_noted ?_
 rw [compTurn_list]
 refine wpAny_bind (wpAny_standAt (wpAny_bind (wpAny_mono (turn n s hI) (fun r s₁ h₁=>?_) fun _ _ h'=>h')))
 cases r with
 | none=>exact wpAny_pure h₁
 | some v=>
  refine wpAny_bind (wpAny_mono h₁ (fun _ s₁' h₁'=>?_) fun _ _ h'=>h')
  refine wpAny_bind (wpAny_mono h₁' (fun _ s₂ h₂=>wpAny_bind (wpAny_mono h₂ (fun ok s₃ h₃=>?_) fun _ _ h'=>h')) fun _ _ h'=>h')
  cases ok with
  | false=>exact wpAny_pure ⟨rfl,h₃⟩
  | true=>
   exact wpAny_bind (wpAny_bind (wpAny_mono h₃ (fun x s₄ h₄=>wpAny_bind (wpAny_mono h₄ (fun _ s₅ h₅=>wpAny_pure (wpAny_pure ⟨rfl,h₅⟩)) fun _ _ h'=>h')) fun _ _ h'=>h'))
end
end L2
namespace L2
open PySem PySem.Spec PyProof.Rows
theorem im {scope:Scope} {env:Env} {x:Str} {k:NameKind} (h:(relabel scope env).names.lookup x=some k):∃ k',scope.names.lookup x=some k'∧(k=k'∨(k'=.free∧k=.cell)):=by
 unfold relabel at h
 dsimp only at h
 generalize scope.names=names at h ⊢
 induction names with
 | nil=>cases h
 | cons p r ih=>
  obtain ⟨n,k0⟩:=p
  rw [List.map_cons] at h
  rw [List.lookup_cons]
  cases hb:x==n with
  | true=>
   refine ⟨k0,rfl,?_⟩
   dsimp only at h
   split at h
   · rename_i hc
     rw [List.lookup_cons,hb] at h
     cases h
     simp only [Bool.and_eq_true,beq_iff_eq] at hc
     exact .inr ⟨hc.1.1,rfl⟩
   · rw [List.lookup_cons,hb] at h
     cases h
     exact .inl rfl
  | false=>
   dsimp only at h
   refine ih ?_
   split at h
   · rw [List.lookup_cons,hb] at h; exact h
   · rw [List.lookup_cons,hb] at h; exact h
def blkCx (X:Cx) (N:List Str) (scope:Scope) (cl:List (Str × Addr)) (s:Shared) (H:Hp) (fp:List Addr):Cx where
 prog:=X.prog
 w:=X.w
 K:=X.K
 mg:=X.mg
 base:=X.base
 A:=X.A
 N:=N
 s₀:=s
 H₀:=H
 env:=uz scope cl (s.heap.objs.size+1) X.env
 outer:=X.stack
 stack:=X.stack
 ex:=fp
 fn:=fun x=>scope.names.lookup x==some .cell
 calm:=X.calm
 pn:=[]
 xe:=fun e₀ s₁=>(∃ (pins:List (Addr × Obj)) (σ:St),Inv X pins σ H s∧∀ b∈fp,FpOk X pins H b)→notedBy (model X.prog X.w) X.A (uz scope cl (s.heap.objs.size+1) X.env) (fun x s'=>∃ m,s'.heap.Ns (s.heap.objs.size+1) m∧∀ h',Heap.SameBut (s.heap.objs.size+1) s'.heap h'→∀ cenv:Env,cenv.locals=s.heap.objs.size+1→
  wpAny (model X.prog X.w) X.A (passOn "comprehension.variables-let-go" x cenv:Sem Value) (fun _ _=>False) X.xe { s' with heap:=h' }) e₀ s₁
def subσ (ix:List (Option Nat)) (σ:St):St:=ix.map fun o=>match o with | none=>none | some i=>match σ[i]? with | some v=>v | none=>none
structure BlkOk (X:Cx) (N:List Str) (ix:List (Option Nat)) (scope:Scope):Prop where
 kind:scope.kind=.function
 nd:N.Nodup
 len:ix.length=N.length
 names:(scope.names.map (·.1)).Nodup
 free:∀ x,(x,NameKind.free)∈scope.names→X.env.kindOf x=some .cell∨X.env.kindOf x=some .free
 at_:∀ (j i:Nat) (x:Str),N[j]? =some x→ix[j]? =some (some i)→X.N[i]? =some x∧(x,NameKind.free)∈scope.names
theorem dg {α:Type}:∀ {l:List (Str × α)} {x:Str} {k:α},(l.map (·.1)).Nodup→(x,k)∈l→l.lookup x=some k
 | (y,k0)::r,x,k,nd,h=>by
  rw [List.map_cons,List.nodup_cons] at nd
  rw [List.lookup_cons]
  rcases List.mem_cons.mp h with e | e
  · cases e; simp
  · have:x≠y:=by
     rintro rfl
     exact nd.1 (List.mem_map.mpr ⟨(x,k),e,rfl⟩)
    have hb:(x==y)=false:=by simpa using this
    rw [hb]
    exact dg nd.2 e
theorem uB {X:Cx} {pins:List (Addr × Obj)} {σ:St} {H:Hp} {s:Shared} {N:List Str} {ix:List (Option Nat)} {scope:Scope} {cl:List (Str × Addr)} {fp:List Addr} (B:BlkOk X N ix scope)
  (I:Inv X pins σ H s) (hcl:∀ x c,cl.lookup x=some c→X.env.cells.lookup x=some c) (hcf:∀ x,(x,NameKind.free)∈scope.names→∃ c,cl.lookup x=some c)
  (hfp:∀ b∈fp,FpOk X pins H b) (hob:∀ b∈fp,∃ o,s.heap.get? b=some o∧∀ v,o.data≠.cell v):
  Inv (blkCx X N scope cl s H fp) [] (subσ ix σ) (upd H s.heap.objs.size (.lst []))
   { s with heap:=pushCells ((s.heap.push { cls:=.type "list",data:=.seq #[] }).push { cls:=.type "dict",data:=.dict #[] }) scope.names }:=by
 have hs2:(s.heap.push { cls:=.type "list",data:=.seq #[] }).objs.size=s.heap.objs.size+1:=Heap.size_push ..
 have hs3:((s.heap.push { cls:=.type "list",data:=.seq #[] }).push { cls:=.type "dict",data:=.dict #[] }).objs.size=s.heap.objs.size+2:=by rw [Heap.size_push,hs2]
 have hk:∀ b o,s.heap.get? b=some o→(pushCells ((s.heap.push { cls:=.type "list",data:=.seq #[] }).push { cls:=.type "dict",data:=.dict #[] }) scope.names).get? b=some o:=
  fun b o e=>pushCells_keeps _ _ b o (Heap.get?_push_of_some _ (Heap.get?_push_of_some _ e))
 have hl:(pushCells ((s.heap.push { cls:=.type "list",data:=.seq #[] }).push { cls:=.type "dict",data:=.dict #[] }) scope.names).get? s.heap.objs.size=some { cls:=.type "list",data:=.seq #[] }:=
  pushCells_keeps _ _ _ _ (Heap.get?_push_of_some _ (Heap.get?_push_size _ rfl))
 have ok0:=cellsFrom_ok scope.names ((s.heap.push { cls:=.type "list",data:=.seq #[] }).push { cls:=.type "dict",data:=.dict #[] }) (s.heap.objs.size+2) [] ⟨fun _ _ hm=>(nomatch hm),List.Pairwise.nil⟩ (by rw [hs3]; exact Nat.le_refl _)
 rw [hs3] at ok0
 have hcells:(blkCx X N scope cl s H fp).env.cells=cellsFrom (s.heap.objs.size+2) scope.names []++cl:=by
  show cellsFrom (s.heap.objs.size+1+1) scope.names cl=_
  rw [← List.nil_append cl,g3]
  simp
 have cases_:∀ x c,(blkCx X N scope cl s H fp).env.cells.lookup x=some c→((x,c)∈cellsFrom (s.heap.objs.size+2) scope.names []∧(x,NameKind.cell)∈scope.names)∨((cellsFrom (s.heap.objs.size+2) scope.names []).lookup x=none∧cl.lookup x=some c):=fun x c e=>by
  rw [hcells,b3] at e
  cases q:(cellsFrom (s.heap.objs.size+2) scope.names []).lookup x with
  | none=>rw [q] at e; exact .inr ⟨rfl,e⟩
  | some c'=>
   rw [q] at e
   cases e
   have m:=PySem.mem_of_lookup q
   refine .inl ⟨m,?_⟩
   rcases e8 _ _ _ m with z | z
   · exact z
   · exact nomatch z
 have oldc:∀ x c,cl.lookup x=some c→c < s.heap.objs.size:=fun x c e=>by
  obtain ⟨v,q⟩:=I.cell x c (hcl x c e)
  exact q.lt
 have hfree:H s.heap.objs.size=none:=I.hok.fresh (Nat.le_refl _)
 have hfix:∀ b,s.heap.objs.size < b→(upd H s.heap.objs.size (.lst [])) b=none:=fun b hb=>by
  rw [ah (Nat.ne_of_gt hb)]
  exact I.hok.fresh (Nat.le_of_lt hb)
 have hlt:∀ b∈fp,b < s.heap.objs.size:=fun b hb=>by
  obtain ⟨o,e,_⟩:=hob b hb
  exact Heap.lt_size e
 have e0:=I.env0
 have isnew:∀ x c,(x,c)∈cellsFrom (s.heap.objs.size+2) scope.names []→s.heap.objs.size+2≤c:=fun x c m=>(ok0.empty x c m).2
 refine ⟨⟨I.ok.mod,B.kind,I.ok.glob,I.ok.blt,Nat.le_succ _,fun x y c e1 e2=>?_,fun x hx=>?_,fun x c hx e=>?_,I.ok.hd,I.ok.frames,.inl rfl,fun b hb=>⟨?_,fun x c e=>?_⟩,e0.bs,e0.bsz,fun b o e hb=>?_,fun b hb hb2=>?_,e0.funs,e0.frf⟩,
  rfl,I.bare,Un.laid hk (Nat.le_refl _) hfree,⟨fun _=>none,?_,fun j x v e1 e2 e3=>?_⟩,fun x c e=>?_,hfix _ (Nat.lt_succ_self _),fun x c e=>?_,fun p hp=>absurd (show p∈([]:List (Addr × Obj)) from hp) (by simp),?_,?_⟩
 · rcases cases_ x c e1 with ⟨m1,k1⟩ | ⟨n1,q1⟩ <;> rcases cases_ y c e2 with ⟨m2,k2⟩ | ⟨n2,q2⟩
   · exact name_of_addr ok0.apart m1 m2
   · exact absurd (Nat.lt_of_lt_of_le (oldc _ _ q2) (Nat.le_trans (Nat.le_add_right _ _) (isnew _ _ m1))) (Nat.lt_irrefl _)
   · exact absurd (Nat.lt_of_lt_of_le (oldc _ _ q1) (Nat.le_trans (Nat.le_add_right _ _) (isnew _ _ m2))) (Nat.lt_irrefl _)
   · exact I.ok.inj x y c (hcl _ _ q1) (hcl _ _ q2)
 · have hx':(relabel scope X.env).names.lookup x=some .cell∨(relabel scope X.env).names.lookup x=some .free:=hx
   have key:scope.names.lookup x=some .cell∨scope.names.lookup x=some .free:=by
    rcases hx' with z | z
    · obtain ⟨k',e,r | r⟩:=im z
      · rw [← r] at e; exact .inl e
      · rw [r.1] at e; exact .inr e
    · obtain ⟨k',e,r | r⟩:=im z
      · rw [← r] at e; exact .inr e
      · cases r.2
   rw [hcells]
   rcases key with z | z
   · obtain ⟨c,q⟩:=jF (n:=s.heap.objs.size+2) z
     exact ⟨c,by rw [b3,q]⟩
   · obtain ⟨c,q⟩:=hcf x (PySem.mem_of_lookup z)
     cases q2:(cellsFrom (s.heap.objs.size+2) scope.names []).lookup x with
     | none=>exact ⟨c,by rw [b3,q2]; exact q⟩
     | some c'=>exact ⟨c',by rw [b3,q2]⟩
 · have hx':scope.names.lookup x=some .cell:=by simpa [blkCx] using hx
   rcases cases_ x c e with ⟨m1,k1⟩ | ⟨n1,q1⟩
   · exact Nat.le_trans (Nat.le_add_right _ _) (isnew _ _ m1)
   · obtain ⟨c',q⟩:=jF (n:=s.heap.objs.size+2) hx'
     rw [q] at n1; cases n1
 · exact Nat.ne_of_lt (Nat.lt_succ_of_lt (hlt b hb))
 · rcases cases_ x c e with ⟨m1,k1⟩ | ⟨n1,q1⟩
   · exact Nat.ne_of_gt (Nat.lt_of_lt_of_le (hlt b hb) (Nat.le_trans (Nat.le_add_right _ _) (isnew _ _ m1)))
   · exact (hfp b hb).2.2.2.2.1 x c (hcl _ _ q1)
 · rcases (hfp b hb).2.2.2.1 with z | z
   · exact I.ok.noex b o e z
   · exact absurd (Nat.lt_of_lt_of_le (Heap.lt_size e) (Nat.le_trans I.ok.bsz z)) (Nat.lt_irrefl _)
 · rcases List.mem_cons.mp (I.stkSub b hb2) with z | z
   · exact (hfp b hb).2.1 z
   · exact (hfp b hb).2.2.1 z
 · show Heap.Ns _ (s.heap.objs.size+1) _
   rw [← hs2]
   exact (Heap.Ns.new _ (.type "dict")).keeps (pushCells_keeps _ _)
 ·
   unfold subσ at e2
   rw [List.getElem?_map] at e2
   cases q:ix[j]? with
   | none=>rw [q] at e2; cases e2
   | some o=>
    rw [q] at e2
    cases o with
    | none=>cases e2
    | some i=>
     simp only [Option.map_some,Option.some.injEq] at e2
     obtain ⟨hN,hm⟩:=B.at_ j i x e1 q
     have hσ:σ[i]? =some (some v):=by
      cases q2:σ[i]? with
      | none=>rw [q2] at e2; cases e2
      | some z=>rw [q2] at e2; exact congrArg some e2
     obtain ⟨m,hn,hl'⟩:=I.loc
     have hkind:=B.free x hm
     have hvis:Vis X.env.scope x:=hkind.elim (fun z=>.inr (.inl z)) fun z=>.inr (.inr z)
     obtain ⟨u,ru,lk⟩:=hl' i x v hN hσ hvis
     refine ⟨u,ru,?_⟩
     obtain ⟨c,hc⟩:=hcf x hm
     have hnone:(cellsFrom (s.heap.objs.size+2) scope.names []).lookup x=none:=by
      cases q2:(cellsFrom (s.heap.objs.size+2) scope.names []).lookup x with
      | none=>rfl
      | some c'=>
       rcases e8 _ _ _ (PySem.mem_of_lookup q2) with z | z
       · have a1:=dg B.names z
         have a2:=dg B.names hm
         rw [a1] at a2; cases a2
       · exact nomatch z
     have hcell:(blkCx X N scope cl s H fp).env.cells.lookup x=some c:=by rw [hcells,b3,hnone]; exact hc
     have hkk:(blkCx X N scope cl s H fp).env.kindOf x=some .cell∨(blkCx X N scope cl s H fp).env.kindOf x=some .free:=by
      rcases e3 with z | z | z
      · obtain ⟨k',e,r | r⟩:=im (show (relabel scope X.env).names.lookup x=some .local from z)
        · rw [dg B.names hm] at e; cases e; cases r
        · cases r.2
      · exact .inl z
      · exact .inr z
     refine .inr ⟨hkk,c,hcell,?_⟩
     rcases lk with ⟨k1,_⟩ | ⟨_,c2,e4,z⟩
     · rcases hkind with z | z <;> rw [k1] at z <;> cases z
     · rw [hcl x c hc] at e4; cases e4
       exact z.keeps hk
 · rcases cases_ x c e with ⟨m1,k1⟩ | ⟨n1,q1⟩
   · exact ⟨none,(ok0.empty x c m1).1⟩
   · obtain ⟨v,z⟩:=I.cell x c (hcl _ _ q1)
     exact ⟨v,z.keeps hk⟩
 · rcases cases_ x c e with ⟨m1,k1⟩ | ⟨n1,q1⟩
   · exact hfix c (Nat.lt_of_lt_of_le (Nat.lt_add_of_pos_right (by decide)) (isnew _ _ m1))
   · rw [ah (Nat.ne_of_lt (oldc _ _ q1))]
     exact I.freeC x c (hcl _ _ q1)
 · exact I.hok.laid hk (Nat.le_refl _) ⟨Nat.zero_le _,[],0,.nil,hl⟩
 · show (subσ ix σ).length=N.length
   unfold subσ
   rw [List.length_map]
   exact B.len
end L2
namespace L2
open PySem PySem.Spec PyProof.Rows
def PTs (X:Cx) (ifs:List Expr) (t:TT):Prop:=
 ∀ (pins:List (Addr × Obj)) (s:Shared) (σ:St) (H:Hp) (Q:Bool→Hp→Prop),Inv X pins σ H s→t σ H Q→
  wpAny (model X.prog X.w) X.A (forIn ifs true fun c r=>if r=true then do let ok ← isTrue c X.env (eval c X.env); pure (ForInStep.yield ok) else pure (ForInStep.yield r)) (TP X pins σ Q) X.xe s
def tTrue:TT:=fun _ H Q=>Q true H
theorem aY {X:Cx}:PTs X [] tTrue:=fun _ _ _ H _ I h=>wpAny_tests_nil ⟨H,I,h⟩
theorem fF {X:Cx} {c:Expr} {t:TT} (h:PT X c t):PTs X [c] t:=fun pins s σ H Q I q=>wpAny_tests_one (h pins s σ H Q I q)
def qE (ix:List (Option Nat)) (wi:TI) (g:TG) (tt:TT) (te:TE) (fin:Addr→Hp→Prop):St→Hp→Prop:=fun σ H=>wi σ H fun J H1=>∀ l,H1 l=none→
 ∃ W:Nat→Nat→St→Hp→Prop,(∃ m,W 0 m (subσ ix σ) (upd H1 l (.lst [])))∧∀ i m σ' H',W i m σ' H'→
  (J.stop i H'∧fin l H')∨(J.go i H'∧∃ N:St→Hp→Prop,(∀ σ'' H'',N σ'' H''→∃ m',m' < m∧W (i+1) m' σ'' H'')∧∀ x H2,J.yld i H' x H2→g x σ' H2 fun σ2 H3=>tt σ2 H3 fun b H4=>
   if b=true then te σ2 H4 fun y H5=>∃ ys,H5 l=some (.lst ys)∧ys.length < sizeLine∧N σ2 (upd H5 l (.lst (ys++[y]))) else N σ2 H4)
section
variable {X:Cx} {pins:List (Addr × Obj)} {σ σ':St} {H H':Hp} {s s':Shared} {N:List Str} {scope:Scope} {cl:List (Str × Addr)} {fp:List Addr}
theorem sH {h':Heap} (I:Inv X pins σ H s) (J:Inv (blkCx X N scope cl s H fp) [] σ' H' s') (hfp:∀ b∈fp,FpOk X pins H b) (sb:Heap.SameBut (s.heap.objs.size+1) s'.heap h'):Inv X pins σ H' { s' with heap:=h' }:=by
 have u:Un (frs X.stack) fp H H' s.heap s'.heap:=J.base
 have hC:H' (s.heap.objs.size+1)=none:=J.free
 have ne:∀ b o,s.heap.get? b=some o→b≠s.heap.objs.size+1:=fun b o e=>Nat.ne_of_lt (Nat.lt_succ_of_lt (Heap.lt_size e))
 refine I.call' (s':={ s' with heap:=h' }) (ch:=fp) J.os ⟨fun b o e n hb hx=>?_,fun b o e n hb hx=>?_,u.free,fun b o e hx=>?_,u.tups,u.frzs,u.tbls⟩ (fun b ob e=>?_) J.bare fun b hb=>?_
 · exact (sb.2 b (ne b o e)).trans (u.keep b o e n hb hx)
 · obtain ⟨sl,q⟩:=u.slot b o e n hb hx
   exact ⟨sl,(sb.2 b (ne b o e)).trans q⟩
 · obtain ⟨o',q⟩:=u.there b o e hx
   exact ⟨o',(sb.2 b (ne b o e)).trans q⟩
 · refine (J.hok b ob e).stay (fun c w' hc q=>(sb.2 c ?_).trans q) (fun _ q=>q) fun _ _ q=>q
   rintro rfl
   rcases hc with rfl | hc
   · rw [hC] at e; cases e
   · rw [hC] at hc; cases hc
 · obtain ⟨f0,f1,f2,f3,f4,f5⟩:=hfp b hb
   exact ⟨f3,f1,f4,f5⟩
theorem qF {tg iter elt:Expr} {ifs:List Expr} {pos:Pos} {ix:List (Option Nat)} {wi:TI} {g:TG} {tt:TT} {te:TE} {fin:Addr→Hp→Prop} {RR:Value→Addr→Result→Shared→Prop} (B:BlkOk X N ix scope) (hc:X.calm=true)
  (hi:PI X tg iter wi) (hg:∀ cl s H fp,PG (blkCx X N scope cl s H fp) tg g) (ht:∀ cl s H fp,PTs (blkCx X N scope cl s H fp) ifs tt) (he:∀ cl s H fp,PE (blkCx X N scope cl s H fp) elt te)
  (hcl:∀ x c,cl.lookup x=some c→X.env.cells.lookup x=some c) (hcf:∀ x,(x,NameKind.free)∈scope.names→∃ c,cl.lookup x=some c)
  (I:Inv X pins σ H s) (h:qE ix wi g tt te fin σ H)
  (ok:∀ (s2:Shared) (H2:Hp) (fp:List Addr) (σ3:St) (H3:Hp) (s3:Shared),Inv X pins σ H2 s2→(∀ b∈fp,FpOk X pins H2 b)→Inv (blkCx X N scope cl s2 H2 fp) [] σ3 H3 s3→fin s2.heap.objs.size H3→RR (.ref s2.heap.objs.size) (s2.heap.objs.size+1) (.ok .next) s3)
  (bad:∀ (a C:Addr) (x:Value) (s':Shared),(∃ m,s'.heap.Ns C m∧∀ h',Heap.SameBut C s'.heap h'→∀ cenv:Env,cenv.locals=C→wpAny (model X.prog X.w) X.A (passOn "comprehension.variables-let-go" x cenv:Sem Value) (fun _ _=>False) X.xe { s' with heap:=h' })→RR (.ref a) C (.error x) s'):
  wpAny (model X.prog X.w) X.A (eval iter X.env) (fun x s₁=>wpAny (model X.prog X.w) X.A (pyIter x) (fun it s₂=>wpAny (model X.prog X.w) X.A (newList []) (fun acc s₃=>
   wpAny (model X.prog X.w) X.A (newFunctionEnv scope X.env.globals cl [] X.env.qual none .none (some X.env)) (fun cenv s₄=>
    codeAny (model X.prog X.w) X.A (.compStart (.ListComp elt [⟨tg,iter,ifs,0⟩] scope pos) 0 it acc { cenv with scope:=relabel scope X.env }) (RR acc cenv.locals) s₄) X.xe s₃) X.xe s₂) X.xe s₁) X.xe s:=by
 refine thn (hi pins s σ H _ I h) fun v s1 h1=>thn h1 fun itv s2 h2=>?_
 obtain ⟨it,fp,tn,J,H2,e,I2,T,st2,f2,h2⟩:=h2
 subst e
 refine wpAny_newList (vA ?_) (Nat.zero_le _)
 have hs2:(s2.heap.push { cls:=.type "list",data:=.seq (([]:List Value)).toArray }).objs.size=s2.heap.objs.size+1:=Heap.size_push ..
 dsimp only
 rw [hs2]
 have I3:=uB (fp:=fp) B I2 hcl hcf f2 (T.obj _ _ st2)
 obtain ⟨W,⟨m0,w0⟩,turn⟩:=h2 s2.heap.objs.size I2.fresh
 have hk:∀ b o,s2.heap.get? b=some o→(pushCells ((s2.heap.push { cls:=.type "list",data:=.seq #[] }).push { cls:=.type "dict",data:=.dict #[] }) scope.names).get? b=some o:=
  fun b o e=>pushCells_keeps _ _ b o (Heap.get?_push_of_some _ (Heap.get?_push_of_some _ e))
 have st3:=T.keep _ _ _ st2 fun b _ o e=>hk b o e
 have fr3:∀ b∈fp,(upd H2 s2.heap.objs.size (.lst [])) b=none:=fun b hb=>by
  obtain ⟨o,e,_⟩:=T.obj _ _ st2 b hb
  rw [ah (Nat.ne_of_lt (Heap.lt_size e))]
  exact (f2 b hb).1
 have stat:∀ {σ5:St} {H5:Hp} {s5:Shared},Inv (blkCx X N scope cl s2 H2 fp) [] σ5 H5 s5→(∀ b∈fp,H5 b=none)→∀ b∈fp,FpOk (blkCx X N scope cl s2 H2 fp) [] H5 b:=fun I5 hn b hb=>
  ⟨hn b hb,(I5.ok.exf b hb).1,I5.ok.exfs b hb,.inl hb,(I5.ok.exf b hb).2,fun p hp=>absurd (show p∈([]:List (Addr × Obj)) from hp) (by simp)⟩
 have loop:∀ s₃:Shared,s₃={ s2 with heap:=pushCells ((s2.heap.push { cls:=.type "list",data:=.seq #[] }).push { cls:=.type "dict",data:=.dict #[] }) scope.names }→
   codeAny (model X.prog X.w) X.A (.compLoop (.ListComp elt [⟨tg,iter,ifs,0⟩] scope pos) 0 (.ref it) (.ref s2.heap.objs.size) (blkCx X N scope cl s2 H2 fp).env) (RR (.ref s2.heap.objs.size) (s2.heap.objs.size+1)) s₃:=by
  rintro s₃ rfl
  refine uA (fun n s'=>∃ i σ' H',Inv (blkCx X N scope cl s2 H2 fp) [] σ' H' s'∧tn i s'.heap∧(∀ b∈fp,H' b=none)∧W i n σ' H') ?_ m0 ⟨0,_,_,I3,st3,fr3,w0⟩
  rintro n s4 ⟨i,σ4,H4,I4,st4,fr4,w4⟩
  have xe_:∀ x s',(blkCx X N scope cl s2 H2 fp).xe x s'→notedBy (model X.prog X.w) X.A (blkCx X N scope cl s2 H2 fp).env (fun e s'=>RR (.ref s2.heap.objs.size) (s2.heap.objs.size+1) (.error e) s') x s':=fun x s' hx=>
   wpAny_mono (hx ⟨pins,σ,I2,f2⟩) (fun _ s'' q=>bad _ _ _ _ q) fun e s'' q=>bad _ _ _ _ q
  rcases turn i n σ4 H4 w4 with ⟨stop,qn⟩ | ⟨go,Nx,hN,step⟩
  · refine wpAny_mono (T.done (blkCx X N scope cl s2 H2 fp) rfl rfl rfl hc i [] s4 σ4 H4 _ I4 (stat I4 fr4) st4 stop) (fun r s5 ⟨hr,I5⟩=>?_) xe_
    subst hr
    exact ok s2 H2 fp σ4 H4 s5 I2 f2 I5 qn
  · refine wpAny_mono (T.item (blkCx X N scope cl s2 H2 fp) rfl rfl rfl hc i [] s4 σ4 H4 _ I4 (stat I4 fr4) st4 go) (fun r s5 ⟨u,hr,h5⟩=>?_) xe_
    subst hr
    refine wpAny_mono h5 (fun _ s6 ⟨x,H6,I6,r6,y6,st6,fr6⟩=>?_) xe_
    have I6':=I6.pinned (stat I6 fr6) (T.obj _ _ st6)
    refine wpAny_mono (hg cl s2 H2 fp _ s6 σ4 H6 x u _ I6' r6 (step x H6 y6)) (fun _ s7 ⟨σ7,H7,I7,q7⟩=>?_) xe_
    have again:∀ {σ8:St} {H8:Hp} {s8:Shared},Inv (blkCx X N scope cl s2 H2 fp) ([]++kB fp s6.heap) σ8 H8 s8→Nx σ8 H8→∃ m,m < n∧∃ i σ' H',Inv (blkCx X N scope cl s2 H2 fp) [] σ' H' s8∧tn i s8.heap∧(∀ b∈fp,H' b=none)∧W i m σ' H':=fun {σ8 H8 s8} I8 n8=>by
     obtain ⟨m',hm,w8⟩:=hN σ8 H8 n8
     refine ⟨m',hm,i+1,σ8,H8,I8.unpinned,T.keep _ _ _ st6 fun b hb o e=>(I8.pin (b,o) (List.mem_append_right _ (List.mem_append_right _ (hE hb e)))).1,fun b hb=>?_,w8⟩
     obtain ⟨o,e,d⟩:=T.obj _ _ st6 b hb
     exact (I8.pin (b,o) (List.mem_append_right _ (List.mem_append_right _ (hE hb e)))).2.1
    refine wpAny_mono (ht cl s2 H2 fp _ s7 σ7 H7 _ I7 q7) (fun okb s8 ⟨H8,I8,q8⟩=>?_) xe_
    cases okb with
    | false=>exact again I8 q8
    | true=>
     refine wpAny_mono (he cl s2 H2 fp _ s8 σ7 H8 _ I8 q8) (fun y s9 ⟨yv,H9,I9,r9,ys,hl,hz,q9⟩=>?_) xe_
     refine wpAny_mono (o5 (X:=blkCx X N scope cl s2 H2 fp) _ s9 σ7 H9 (.ref s2.heap.objs.size) [yv] (.ref s2.heap.objs.size) [y] (fun _ H10=>Nx σ7 H10) I9 rfl (.cons r9 .nil) ⟨_,ys,yv,rfl,rfl,hl,hz,q9⟩) (fun _ s10 ⟨_,H10,I10,_,q10⟩=>?_) xe_
     exact again I10 q10
 exact codeAny_compStart_list (loop _ rfl) (T.self _ 0 _ _ _ st3 (loop _ rfl))
def tComp (ix:List (Option Nat)) (wi:TI) (g:TG) (tt:TT) (te:TE):TE:=fun σ H Q=>qE ix wi g tt te (fun l H'=>Q (.ref l) H') σ H
def sComp (k:Nat) (ix:List (Option Nat)) (wi:TI) (g:TG) (tt:TT) (te:TE):TS:=fun D σ H=>qE ix wi g tt te (fun l H'=>D.nx (σ.set k (some (.ref l))) H') σ H
theorem sI (I:Inv X pins σ H s) {ix:List (Option Nat)} (B:BlkOk X N ix scope):∃ cl,closureFor scope X.env=pure cl∧(∀ x c,cl.lookup x=some c→X.env.cells.lookup x=some c)∧∀ x,(x,NameKind.free)∈scope.names→∃ c,cl.lookup x=some c:=
 tG fun x hx=>I.ok.has x (B.free x hx)
theorem lO {ix:List (Option Nat)} (B:BlkOk X N ix scope):∀ x∈scope.names,x.2=NameKind.local→scope.names.lookup x.1=some .local:=fun x hx e=>by
 obtain ⟨n,k⟩:=x
 cases e
 exact dg B.names hx
theorem aR {tg iter elt:Expr} {ifs:List Expr} {pos:Pos} {ix:List (Option Nat)} {wi:TI} {g:TG} {tt:TT} {te:TE} (N:List Str) (B:BlkOk X N ix scope) (hc:X.calm=true)
  (hi:PI X tg iter wi) (hg:∀ cl s H fp,PG (blkCx X N scope cl s H fp) tg g) (ht:∀ cl s H fp,PTs (blkCx X N scope cl s H fp) ifs tt) (he:∀ cl s H fp,PE (blkCx X N scope cl s H fp) elt te)
  (hs:∀ x,foldedSetIterable iter X.env x=pure x:=by intro _; rfl):PE X (.ListComp elt [⟨tg,iter,ifs,0⟩] scope pos) (tComp ix wi g tt te):=by
 intro pins s σ H Q I h
 obtain ⟨cl,e1,e2,e3⟩:=sI I B
 rw [eval_ListComp]
 refine wpAny_comprehension_free (use:=none) rfl hs e1 B.kind (lO B) ?_
 refine qF (RR:=fun acc C=>compPost (model X.prog X.w) X.A X.xe none (EP X pins σ Q) acc C) B hc hi hg ht he e2 e3 I h (fun s2 H2 fp σ3 H3 s3 I2 f2 J q=>?_) (fun a C x s' q=>q)
 obtain ⟨m,hn,_⟩:=J.loc
 exact ⟨m,hn,fun h' sb=>⟨.ref _,H3,sH I2 J f2 sb,rfl,q⟩⟩
theorem jr {y:Str} {py spos:Pos} {k:Nat} {tg iter elt:Expr} {ifs:List Expr} {pos:Pos} {ix:List (Option Nat)} {wi:TI} {g:TG} {tt:TT} {te:TE} (hN:X.N.Nodup) (hy:X.N[k]? =some y) (hx:Loc X.env.scope y)
  (hsw:swapsWith (.ListComp elt [⟨tg,iter,ifs,0⟩] scope pos) (some (.Name y py)) spos.line X.env=pure true) (N:List Str) (B:BlkOk X N ix scope) (hc:X.calm=true)
  (hi:PI X tg iter wi) (hg:∀ cl s H fp,PG (blkCx X N scope cl s H fp) tg g) (ht:∀ cl s H fp,PTs (blkCx X N scope cl s H fp) ifs tt) (he:∀ cl s H fp,PE (blkCx X N scope cl s H fp) elt te)
  (hs:∀ x,foldedSetIterable iter X.env x=pure x:=by intro _; rfl) (hf:X.fn y=true∨X.env.scope.names.lookup y=some .local:=by first | exact .inl rfl | exact .inr rfl | assumption):
  PS X (.Assign [.Name y py] (.ListComp elt [⟨tg,iter,ifs,0⟩] scope pos) spos) (sComp k ix wi g tt te):=by
 intro pins s σ H D I h
 obtain ⟨cl,e1,e2,e3⟩:=sI I B
 rw [exec_Assign_Name_used _ _ _ _ hsw]
 refine wpAny_bind (wpAny_standAt (wpAny_bind ?_))
 show wpAny _ X.A (do let _ ← comprehension (.ListComp elt [⟨tg,iter,ifs,0⟩] scope pos) scope X.env _ (newList []) false (eval iter X.env) (some (assign (.Name y py) X.env))) _ _ s
 refine wpAny_bind (wpAny_mono (wpAny_comprehension_free (use:=some (assign (.Name y py) X.env)) (Q:=fun _ s'=>SP X pins D .next s') rfl hs e1 B.kind (lO B) ?_) (fun _ s' hq=>wpAny_pure (wpAny_pure hq)) fun _ _ e=>e)
 refine qF (RR:=fun acc C=>compPost (model X.prog X.w) X.A X.xe (some (assign (.Name y py) X.env)) (fun _ s'=>SP X pins D .next s') acc C) B hc hi hg ht he e2 e3 I h (fun s2 H2 fp σ3 H3 s3 I2 f2 J q=>?_) (fun a C x s' q=>q)
 obtain ⟨m,hn,_⟩:=J.loc
 have I3:Inv X pins σ H3 { s3 with heap:=s3.heap }:=sH I2 J f2 (Heap.SameBut.refl _ _)
 show wpAny _ X.A (assign (.Name y py) X.env (.ref _)) _ _ _
 refine wpAny_assign_Name (oT (v:=.ref _) I3 hN hy hx rfl (fun s4 I4 ⟨a,sb4,ha⟩=>?_) hf)
 have hlt:a < s2.heap.objs.size:=by
  rcases ha with rfl | ha
  · exact I2.lt
  · obtain ⟨v,z⟩:=I2.cell _ _ ha
    exact z.lt
 have hCa:s2.heap.objs.size+1≠a:=Nat.ne_of_gt (Nat.lt_succ_of_lt hlt)
 refine ⟨m,hn.sameBut sb4 hCa,fun h' sb=>?_⟩
 refine ⟨_,H3,I4.turned (t':=s4.toks) (it:=s2.heap.objs.size+1) (fun b o hb e=>(sb.2 b hb).trans e) J.free (Nat.ne_of_gt (Nat.lt_succ_of_lt I2.lt)) (.inr (Nat.le_trans I2.sz (Nat.le_succ _))) (fun x c e=>?_) (fun p hp=>?_),q⟩
 · obtain ⟨v,z⟩:=I2.cell x c e
   exact Nat.ne_of_lt (Nat.lt_succ_of_lt z.lt)
 · exact Nat.ne_of_lt (Nat.lt_succ_of_lt (Heap.lt_size (I2.pin p hp).1))
end
end L2
namespace L2
open PySem PySem.Spec PyProof.Rows
def bnd {α:Type}:Option α→(α→Prop)→Prop
 | some a,k=>k a
 | none,_=>False
theorem aQ {α:Type} {o:Option α} {a:α} {k:α→Prop} (h:o=some a) (q:k a):bnd o k:=by subst h; exact q
theorem aS {α:Type} {o:Option α} {k:α→Prop} (h:bnd o k):∃ a,o=some a∧k a:=by
 cases o with
 | none=>exact h.elim
 | some a=>exact ⟨a,rfl,h⟩
theorem dN {α:Type} {a:α} {k:α→Prop}:bnd (some a) k=k a:=rfl
def unM:Option HO→Option (List V)
 | some (.lst xs)=>some xs
 | _=>none
def unL:Option HO→Option (List V)
 | some (.lst xs)=>some xs
 | some (.frz _ (.lst xs))=>some xs
 | _=>none
def unS:Option HO→Option (List V)
 | some (.lst xs)=>some xs
 | some (.frz _ (.lst xs))=>some xs
 | some (.tup xs)=>some xs
 | _=>none
theorem eQ {o:Option HO} {xs:List V} (h:unM o=some xs):o=some (.lst xs):=by
 unfold unM at h; split at h
 · cases h; rfl
 · cases h
theorem kI {K:PySem.W.Frag} {H:Hp} {p:Addr} {xs:List V} (h:unL (H p)=some xs):SqL K H p xs:=by
 unfold unL at h; split at h
 · rename_i e; cases h; exact .inl (.inl e)
 · rename_i o _ e; cases h; exact .inl (.inr ⟨_,e⟩)
 · cases h
theorem js {K:PySem.W.Frag} {H:Hp} {p:Addr} {xs:List V} (h:unS (H p)=some xs):SqL K H p xs∨SqT K H p xs:=by
 unfold unS at h; split at h
 · rename_i e; cases h; exact .inl (.inl (.inl e))
 · rename_i o _ e; cases h; exact .inl (.inl (.inr ⟨_,e⟩))
 · rename_i e; cases h; exact .inr (.inl (.inl e))
 · cases h
mutual
inductive DV (K:PySem.W.Frag) (H:Hp):V→PyData→Prop
 | non:DV K H .non .none
 | bl (b:Bool):DV K H (.bl b) (.bool b)
 | int (i:Int):DV K H (.int i) (.int i)
 | str (x:Str):DV K H (.str x) (.str x)
 | lst {a:Addr} {xs:List V} {ds:List PyData}:SqL K H a xs→DVs K H xs ds→DV K H (.ref a) (.list ds)
 | tup {a:Addr} {xs:List V} {ds:List PyData}:SqT K H a xs→DVs K H xs ds→DV K H (.ref a) (.tuple ds)
inductive DVs (K:PySem.W.Frag) (H:Hp):List V→List PyData→Prop
 | nil:DVs K H [] []
 | cons {x:V} {d:PyData} {xs:List V} {ds:List PyData}:DV K H x d→DVs K H xs ds→DVs K H (x::xs) (d::ds)
end
section
variable {X:Cx} {pins:List (Addr × Obj)} {σ:St} {H:Hp} {s:Shared}
mutual
theorem DV.reads (I:Inv X pins σ H s):∀ {x:V} {d:PyData} {v:Value},DV X.K H x d→RelV x v→∃ as,Reads s.heap v d as
 | _,_,_,.non,r=>by cases r; exact ⟨_,.none⟩
 | _,_,_,.bl b,r=>by cases r; exact ⟨_,.bool b⟩
 | _,_,_,.int i,r=>by obtain ⟨t,rfl⟩:=r; exact ⟨_,.int i t⟩
 | _,_,_,.str x,r=>by obtain ⟨t,rfl⟩:=r; exact ⟨_,.str x t⟩
 | _,_,_,.lst (a:=a) h hs,r=>by
  cases r
  obtain ⟨its,rv,p,_⟩:=I.list h
  obtain ⟨as,q⟩:=DVs.reads I hs rv
  obtain ⟨o,h1,h2,n,h3⟩:=p.isList
  exact ⟨_,.list h1 h2 h3 q⟩
 | _,_,_,.tup (a:=a) h hs,r=>by
  cases r
  obtain ⟨its,rv,p,_⟩:=I.tuple h
  obtain ⟨as,q⟩:=DVs.reads I hs rv
  obtain ⟨o,h1,h2,n,h3⟩:=p
  exact ⟨_,.tuple h1 h2 h3 q⟩
theorem DVs.reads (I:Inv X pins σ H s):∀ {xs:List V} {ds:List PyData} {us:List Value},DVs X.K H xs ds→Vals xs us→∃ as,ReadsAll s.heap us ds as
 | _,_,_,.nil,.nil=>⟨_,.nil⟩
 | _,_,_,.cons h hs,.cons r rs=>by
  obtain ⟨as,q⟩:=DV.reads I h r
  obtain ⟨bs,q2⟩:=DVs.reads I hs rs
  exact ⟨_,.cons q q2⟩
end
end
theorem DVs.ints {K:PySem.W.Frag} {H:Hp}:∀ ns:List Int,DVs K H (ns.map V.int) (ns.map PyData.int)
 | []=>.nil
 | n::r=>.cons (.int n) (DVs.ints r)
theorem qG:∀ ns ms:List Int,PyData.eqvAll (ns.map PyData.int) (ms.map PyData.int)=decide (ns=ms):=PySem.W.ked_eqvAll
theorem qH:∀ ns:List Int,PyData.canLayAll0 (ns.map PyData.int)=true
 | []=>rfl
 | n::r=>by rw [List.map_cons,PyData.canLayAll0,qH r]; rfl
theorem mO:∀ ns:List Int,PyData.depthAll (ns.map PyData.int)=0
 | []=>rfl
 | n::r=>by rw [List.map_cons,PyData.depthAll,mO r]; rfl
theorem gI (ns:List Int):SeqAt.shaped (.list (ns.map PyData.int))=true:=by
 simp [SeqAt.shaped,PyData.canLay0,qH,PyData.depth,mO]
def cAdd:R2
 | .int i,.int j,H,Q=>Q (.int (i+j)) H
 | .str i,.str j,H,Q=>i.length+j.length≤sizeLine∧Q (.str (i++j)) H
 | .ref l,.ref b,H,Q=>bnd (unM (H l)) fun xs=>bnd (unM (H b)) fun zs=>xs.length+zs.length≤sizeLine∧∀ p,H p=none→Q (.ref p) (upd H p (.lst (xs++zs)))
 | _,_,_,_=>False
def cSub:R2
 | .int i,.int j,H,Q=>Q (.int (i - j)) H
 | _,_,_,_=>False
def cMul:R2
 | .int i,.int j,H,Q=>CMul i j∧Q (.int (i*j)) H
 | _,_,_,_=>False
def cDiv:R2
 | .int i,.int j,H,Q=>CDiv i j∧Q (.int (i / j)) H
 | _,_,_,_=>False
def cMod:R2
 | .int i,.int j,H,Q=>0 < j∧Q (.int (i % j)) H
 | _,_,_,_=>False
def cPow:R2
 | .int i,.int j,H,Q=>CPow i j∧Q (.int (i^j.toNat)) H
 | _,_,_,_=>False
def cCmp (g:Int→Int→Bool):R2
 | .int i,.int j,H,Q=>Q (.bl (g i j)) H
 | _,_,_,_=>False
def rEqD (K:PySem.W.Frag):R2:=fun x y H Q=>∃ d e,DV K H x d∧DV K H y e∧SeqAt.shaped d=true∧SeqAt.shaped e=true∧Q (.bl (PyData.eqv d e)) H
def rNeD (K:PySem.W.Frag):R2:=fun x y H Q=>∃ d e,DV K H x d∧DV K H y e∧SeqAt.shaped d=true∧SeqAt.shaped e=true∧Q (.bl (!PyData.eqv d e)) H
def cEq (K:PySem.W.Frag):R2
 | .int i,.int j,H,Q=>Q (.bl (decide (i=j))) H
 | .bl i,.bl j,H,Q=>Q (.bl (decide (i=j))) H
 | .str i,.str j,H,Q=>Q (.bl (decide (i=j))) H
 | x,y,H,Q=>rEqD K x y H Q
def cNe (K:PySem.W.Frag):R2
 | .int i,.int j,H,Q=>Q (.bl (!decide (i=j))) H
 | .bl i,.bl j,H,Q=>Q (.bl (!decide (i=j))) H
 | .str i,.str j,H,Q=>Q (.bl (!decide (i=j))) H
 | x,y,H,Q=>rNeD K x y H Q
def rInD (K:PySem.W.Frag) (neg:Bool):R2:=fun x y H Q=>∃ d ds,DV K H x d∧(DV K H y (.list ds)∨DV K H y (.tuple ds))∧PyData.canLayAll0 ds=true∧PyData.canLay0 d=true∧min (PyData.depthAll ds) d.depth≤62∧
 Q (.bl (if neg then !ds.any (fun y=>PyData.eqv y d) else ds.any fun y=>PyData.eqv y d)) H
def keyOf:V→Option Key
 | .int i=>some (.inl i)
 | .str x=>some (.inr x)
 | _=>none
def unD:Option HO→Option (List (Key × V))
 | some (.dK kvs)=>some kvs
 | _=>none
def cIn (K:PySem.W.Frag) (neg:Bool):R2
 | .ref a,y,H,Q=>rInD K neg (.ref a) y H Q
 | x,.ref p,H,Q=>(match unD (H p) with
  | some kvs=>bnd (keyOf x) fun k=>Q (.bl (if neg then !(valV kvs k).isSome else (valV kvs k).isSome)) H
  | none=>bnd (unS (H p)) fun xs=>flatV x=true∧xs.all flatV=true∧Q (.bl (if neg then !inV x xs else inV x xs)) H)
 | .str i,.str j,H,Q=>Q (.bl (if neg then !(!(Builtin.Str.occurrences j i 0 j.length 1).isEmpty) else !(Builtin.Str.occurrences j i 0 j.length 1).isEmpty)) H
 | _,_,_,_=>False
def cIx:R2
 | .ref p,y,H,Q=>(match unD (H p) with
  | some kvs=>bnd (keyOf y) fun k=>bnd (valV kvs k) fun v=>Q v H
  | none=>match y with
   | .int i=>bnd (unS (H p)) fun xs=>bnd (atI xs i) fun v=>Q v H
   | _=>False)
 | .str z,.int i,H,Q=>z.length≤sizeLine∧bnd (atI z.cps.toList i) fun c=>Q (.str ⟨#[c]⟩) H
 | _,_,_,_=>False
theorem mP {o:Option HO} {kvs:List (Key × V)} (h:unD o=some kvs):o=some (.dK kvs):=by
 unfold unD at h; split at h
 · cases h; rfl
 · cases h
theorem lX {x:V} {k:Key} (h:keyOf x=some k):x=kV k:=by
 unfold keyOf at h; split at h
 · cases h; rfl
 · cases h; rfl
 · cases h
section
variable {X:Cx} {a b c:Expr} {ta tb tc:TE} {pos:Pos}
theorem aA:OpR X (binaryOp .Add) cAdd:=by
 intro pins s σ H x y v u Q I rx ry h
 unfold cAdd at h
 split at h
 · exact wS pins s σ H _ _ v u Q I rx ry ⟨_,_,rfl,rfl,h⟩
 · exact tu pins s σ H _ _ v u Q I rx ry ⟨_,_,rfl,rfl,h.1,h.2⟩
 · obtain ⟨xs,e1,h⟩:=aS h
   obtain ⟨zs,e2,h⟩:=aS h
   exact xa pins s σ H _ _ v u Q I rx ry ⟨_,_,xs,zs,rfl,rfl,eQ e1,eQ e2,h.1,h.2⟩
 · exact h.elim
theorem d5:OpR X (binaryOp .Sub) cSub:=by
 intro pins s σ H x y v u Q I rx ry h
 unfold cSub at h
 split at h
 · exact wT pins s σ H _ _ v u Q I rx ry ⟨_,_,rfl,rfl,h⟩
 · exact h.elim
theorem bQ:OpR X (binaryOp .Mult) cMul:=by
 intro pins s σ H x y v u Q I rx ry h
 unfold cMul at h
 split at h
 · exact wU pins s σ H _ _ v u Q I rx ry ⟨_,_,rfl,rfl,h.1,h.2⟩
 · exact h.elim
theorem sJ:OpR X (binaryOp .FloorDiv) cDiv:=by
 intro pins s σ H x y v u Q I rx ry h
 unfold cDiv at h
 split at h
 · exact wc pins s σ H _ _ v u Q I rx ry ⟨_,_,rfl,rfl,h.1,h.2⟩
 · exact h.elim
theorem ba:OpR X (binaryOp .Mod) cMod:=by
 intro pins s σ H x y v u Q I rx ry h
 unfold cMod at h
 split at h
 · exact wV pins s σ H _ _ v u Q I rx ry ⟨_,_,rfl,rfl,h.1,h.2⟩
 · exact h.elim
theorem wr:OpR X (binaryOp .Pow) cPow:=by
 intro pins s σ H x y v u Q I rx ry h
 unfold cPow at h
 split at h
 · exact wW pins s σ H _ _ v u Q I rx ry ⟨_,_,rfl,rfl,h.1,h.2⟩
 · exact h.elim
theorem ot {op:CmpOp} {g:Int→Int→Bool} (o:OpR X (compareOp op) (rI0 fun i j=>.bl (g i j))):OpR X (compareOp op) (cCmp g):=by
 intro pins s σ H x y v u Q I rx ry h
 unfold cCmp at h
 split at h
 · exact o pins s σ H _ _ v u Q I rx ry ⟨_,_,rfl,rfl,h⟩
 · exact h.elim
theorem fO:OpR X (compareOp .Lt) (cCmp fun i j=>decide (i < j)):=ot xS
theorem kJ:OpR X (compareOp .LtE) (cCmp fun i j=>decide (i≤j)):=ot xT
theorem dO:OpR X (compareOp .Gt) (cCmp fun i j=>decide (j < i)):=ot xU
theorem xf (hu:X.A.units+64 < cLine):OpR X (compareOp .Eq) (rEqD X.K):=by
 intro pins s σ H x y v u Q I rx ry h
 obtain ⟨d,e,h1,h2,h3,h4,q⟩:=h
 obtain ⟨as,r1⟩:=h1.reads I rx
 obtain ⟨bs,r2⟩:=h2.reads I ry
 exact eq_dataH r1 r2 h3 h4 hu ⟨.bl _,H,I,rfl,q⟩
theorem xg (hu:X.A.units+64 < cLine):OpR X (compareOp .NotEq) (rNeD X.K):=by
 intro pins s σ H x y v u Q I rx ry h
 obtain ⟨d,e,h1,h2,h3,h4,q⟩:=h
 obtain ⟨as,r1⟩:=h1.reads I rx
 obtain ⟨bs,r2⟩:=h2.reads I ry
 exact ne_dataH r1 r2 h3 h4 hu ⟨.bl _,H,I,rfl,q⟩
theorem aG (hu:X.A.units+64 < cLine):OpR X (compareOp .Eq) (cEq X.K):=by
 intro pins s σ H x y v u Q I rx ry h
 unfold cEq at h
 split at h
 · refine tp pins s σ H _ _ v u Q I rx ry ⟨rfl,?_⟩
   simpa using h
 · refine tp pins s σ H _ _ v u Q I rx ry ⟨rfl,?_⟩
   simpa using h
 · refine tp pins s σ H _ _ v u Q I rx ry ⟨rfl,?_⟩
   simpa using h
 · exact xf hu pins s σ H _ _ v u Q I rx ry h
theorem eW (hu:X.A.units+64 < cLine):OpR X (compareOp .NotEq) (cNe X.K):=by
 intro pins s σ H x y v u Q I rx ry h
 unfold cNe at h
 split at h
 · refine tq pins s σ H _ _ v u Q I rx ry ⟨rfl,?_⟩
   simpa using h
 · refine tq pins s σ H _ _ v u Q I rx ry ⟨rfl,?_⟩
   simpa using h
 · refine tq pins s σ H _ _ v u Q I rx ry ⟨rfl,?_⟩
   simpa using h
 · exact xg hu pins s σ H _ _ v u Q I rx ry h
theorem xh (hu:X.A.units+64 < cLine):OpR X (compareOp .In) (rInD X.K false):=by
 intro pins s σ H x y v u Q I rx ry h
 obtain ⟨d,ds,h1,h2,h3,h4,h5,q⟩:=h
 obtain ⟨as,r1⟩:=h1.reads I rx
 rcases h2 with h2 | h2
 · obtain ⟨bs,r2⟩:=h2.reads I ry
   exact SeqAt.in_list_reads r2 r1 h3 h4 (by omega) ⟨.bl _,H,I,rfl,q⟩
 · obtain ⟨bs,r2⟩:=h2.reads I ry
   exact SeqAt.in_tuple_reads r2 r1 h3 h4 (by omega) ⟨.bl _,H,I,rfl,q⟩
theorem uC (hu:X.A.units+64 < cLine):OpR X (compareOp .NotIn) (rInD X.K true):=by
 intro pins s σ H x y v u Q I rx ry h
 obtain ⟨d,ds,h1,h2,h3,h4,h5,q⟩:=h
 obtain ⟨as,r1⟩:=h1.reads I rx
 rcases h2 with h2 | h2
 · obtain ⟨bs,r2⟩:=h2.reads I ry
   exact SeqAt.notIn_list_reads r2 r1 h3 h4 (by omega) ⟨.bl _,H,I,rfl,q⟩
 · obtain ⟨bs,r2⟩:=h2.reads I ry
   exact SeqAt.notIn_tuple_reads r2 r1 h3 h4 (by omega) ⟨.bl _,H,I,rfl,q⟩
theorem jt (hu:X.A.units+64 < cLine):OpR X (compareOp .In) (cIn X.K false):=by
 intro pins s σ H x y v u Q I rx ry h
 unfold cIn at h
 split at h
 · exact xh hu pins s σ H _ _ v u Q I rx ry h
 · rename_i p hx
   split at h
   · rename_i kvs e
     obtain ⟨k,ek,q⟩:=aS h
     cases (show u=Value.ref p from ry)
     have g:DGet H p x (valV kvs k):=by rw [lX ek]; exact DGet.k (mP e)
     exact x9 (Nat.lt_of_le_of_lt (Nat.add_le_add_left (by decide:1≤64) _) hu) I g rx fun s' I'=>⟨.bl _,H,I',rfl,q⟩
   · obtain ⟨xs,e,f1,f2,q⟩:=aS h
     exact oZ pins s σ H _ _ v u Q I rx ry ⟨p,xs,rfl,js e,f1,f2,q⟩
 · exact um pins s σ H _ _ v u Q I rx ry ⟨_,_,rfl,rfl,h⟩
 · exact h.elim
theorem kK (hu:X.A.units+64 < cLine):OpR X (compareOp .NotIn) (cIn X.K true):=by
 intro pins s σ H x y v u Q I rx ry h
 unfold cIn at h
 split at h
 · exact uC hu pins s σ H _ _ v u Q I rx ry h
 · rename_i p hx
   split at h
   · rename_i kvs e
     obtain ⟨k,ek,q⟩:=aS h
     cases (show u=Value.ref p from ry)
     have g:DGet H p x (valV kvs k):=by rw [lX ek]; exact DGet.k (mP e)
     exact wq (Nat.lt_of_le_of_lt (Nat.add_le_add_left (by decide:1≤64) _) hu) I g rx fun s' I'=>⟨.bl _,H,I',rfl,q⟩
   · obtain ⟨xs,e,f1,f2,q⟩:=aS h
     exact kG pins s σ H _ _ v u Q I rx ry ⟨p,xs,rfl,js e,f1,f2,q⟩
 · exact qy pins s σ H _ _ v u Q I rx ry ⟨_,_,rfl,rfl,h⟩
 · exact h.elim
end
end L2
namespace L2
open PySem PySem.Spec PyProof.Rows
section
variable {X:Cx} {a b c:Expr} {ta tb tc:TE} {pos:Pos}
theorem aD (hu:X.A.units+64 < cLine):IxR X cIx:=by
 intro value slice pins s σ H x y v u Q I rx ry h hs
 cases x with
 | ref p=>
  unfold cIx at h
  dsimp only at h
  split at h
  · rename_i kvs e
    obtain ⟨k,ek,h⟩:=aS h
    obtain ⟨z,ez,q⟩:=aS h
    cases (show v=Value.ref p from rx)
    have g:DGet H p y (some z):=by rw [lX ek,← ez]; exact DGet.k (mP e)
    exact tail_any (sd I g) PySem.F.slot_dict_getitem.lookup (ux (Nat.lt_of_le_of_lt (Nat.add_le_add_left (by decide:1≤64) _) hu) I g ry fun w' s3 I3 rw'=>⟨z,H,I3,rw',q⟩) hs
  · split at h
    · obtain ⟨xs,e,h⟩:=aS h
      obtain ⟨z,ez,q⟩:=aS h
      rcases js (K:=X.K) e with r | r
      · exact or value slice pins s σ H _ _ v u Q I rx ry ⟨p,xs,_,z,rfl,rfl,r,ez,q⟩ hs
      · exact wY value slice pins s σ H _ _ v u Q I rx ry ⟨p,xs,_,z,rfl,rfl,r,ez,q⟩ hs
    · exact h.elim
 | str zz=>
  cases y with
  | int i=>
   obtain ⟨hz,h⟩:=(show zz.length≤sizeLine∧bnd (atI zz.cps.toList i) fun c=>Q (.str ⟨#[c]⟩) H from h)
   obtain ⟨z,ez,q⟩:=aS h
   exact wZ value slice pins s σ H _ _ v u Q I rx ry ⟨_,_,z,rfl,rfl,hz,ez,q⟩ hs
  | _=>exact False.elim h
 | _=>exact False.elim h
def kLen:List V→Hp→VK→Prop
 | [.ref p],H,Q=>(match unD (H p) with
  | some kvs=>Q (.int kvs.length) H
  | none=>bnd (unS (H p)) fun xs=>Q (.int xs.length) H)
 | [.str z],H,Q=>z.length≤sizeLine∧Q (.int z.length) H
 | _,_,_=>False
theorem aU:CallR X (.builtin "len") kLen:=by
 intro pins s σ H xs us Q I r h
 unfold kLen at h
 split at h
 · split at h
   · rename_i kvs e
     exact uy pins s σ H _ us Q I r ⟨_,kvs,rfl,mP e,h⟩
   · obtain ⟨ys,e,q⟩:=aS h
     exact fN pins s σ H _ us Q I r ⟨_,ys,rfl,js e,q⟩
 · exact qz pins s σ H _ us Q I r ⟨_,rfl,h.1,h.2⟩
 · exact h.elim
def kAbs:List V→Hp→VK→Prop
 | [.int i],H,Q=>Q (.int (if i < 0 then -i else i)) H
 | _,_,_=>False
def kMin:List V→Hp→VK→Prop
 | [.int i,.int j],H,Q=>Q (.int (if j < i then j else i)) H
 | _,_,_=>False
def kMax:List V→Hp→VK→Prop
 | [.int i,.int j],H,Q=>Q (.int (if j > i then j else i)) H
 | _,_,_=>False
def kList:List V→Hp→VK→Prop
 | [.ref p],H,Q=>bnd (unS (H p)) fun ys=>∀ l,H l=none→Q (.ref l) (upd H l (.lst ys))
 | _,_,_=>False
theorem fP:CallR X (.type "list") kList:=by
 intro pins s σ H xs us Q I r h
 unfold kList at h
 split at h
 · obtain ⟨ys,e,q⟩:=aS h
   exact qA pins s σ H _ us Q I r ⟨_,ys,rfl,js e,q⟩
 · exact h.elim
def lq:List V→Hp→VK→Prop
 | [.ref p],H,Q=>bnd (unL (H p)) fun ys=>∃ ns:List Int,ys=ns.map V.int∧ns.length < 64∧∀ (ns':List Int) l,H l=none→ns'.Perm ns→ns'.Pairwise (· ≤·)→Q (.ref l) (upd H l (.lst (ns'.map V.int)))
 | _,_,_=>False
theorem qI:CallR X (.builtin "sorted") lq:=by
 intro pins s σ H xs us Q I r h
 unfold lq at h
 split at h
 · rename_i p
   obtain ⟨ys,e,ns,rfl,hlen,q⟩:=aS h
   obtain ⟨u,rfl,ru⟩:=cD r
   cases ru
   obtain ⟨its,rv,pl,hz⟩:=I.list (kI e)
   have hI:IntsAre its ns:=mK rv
   have hl:=rv.length
   rw [List.length_map] at hl
   refine sorted_ints pl.isList hI (by omega) fun out ns' hI' hp hs=>?_
   have old:∀ b o,s.heap.get? b=some o→(sortedAll s.heap its out).get? b=some o:=fun b o e=>sortedAll_old e
   obtain ⟨n,at_⟩:=sortedAll_at s.heap its out
   have hfresh:H (s.heap.objs.size+1)=none:=I.hok.fresh (Nat.le_succ _)
   have hlen':(ns'.map V.int).length≤sizeLine:=by
    rw [List.length_map,hp.length_eq]
    exact Nat.le_of_lt (Nat.lt_trans hlen (by decide))
   refine ⟨.ref (s.heap.objs.size+1),_,I.laid (t':=s.toks) (a:=s.heap.objs.size+1) (o:=.lst (ns'.map V.int)) old (Nat.le_succ _) ⟨hlen',out.toList,n,kH hI',?_⟩,rfl,q ns' _ hfresh hp hs⟩
   rw [at_]
 · exact h.elim
def io (H:Hp):V→Option String
 | .non=>some "NoneType"
 | .bl _=>some "bool"
 | .int _=>some "int"
 | .str _=>some "str"
 | .ref p=>match H p with
  | some (.lst _)=>some "list"
  | some (.frz _ (.lst _))=>some "list"
  | some (.tup _)=>some "tuple"
  | some (.dK _)=>some "dict"
  | _=>none
 | _=>none
def isTy (t n:String):Bool:=t==n||(t=="bool"&&n=="int")
def lr (n:String):Bool:=["int","bool","str","list","tuple","dict"].contains n
theorem uD {K:PySem.W.Frag} {H:Hp} {x:V} {t:String} (h:io H x=some t):TyOf K H x (.type t)∧["NoneType","int","bool","str","list","tuple","dict"].contains t=true:=by
 cases x with
 | non=>cases h; exact ⟨.non,by decide⟩
 | bl b=>cases h; exact ⟨.bl b,by decide⟩
 | int i=>cases h; exact ⟨.int i,by decide⟩
 | str i=>cases h; exact ⟨.str i,by decide⟩
 | byt _=>cases h
 | flt _=>cases h
 | ty _=>cases h
 | ref p=>
  unfold io at h
  dsimp only at h
  split at h
  · rename_i e; cases h; exact ⟨.lst e,by decide⟩
  · rename_i e; cases h; exact ⟨.frz e,by decide⟩
  · rename_i e; cases h; exact ⟨.tup e,by decide⟩
  · rename_i e; cases h; exact ⟨.dK e,by decide⟩
  · cases h
theorem xi (K:PySem.W.Frag):∀ t∈["NoneType","int","bool","str","list","tuple","dict"],∀ n∈["int","bool","str","list","tuple","dict"],PySem.W.kitOne K (.type t) (.type n)=some (isTy t n):=by
 intro t ht n hn
 simp only [List.mem_cons,List.not_mem_nil,or_false] at ht hn
 rcases ht with rfl | rfl | rfl | rfl | rfl | rfl | rfl <;> rcases hn with rfl | rfl | rfl | rfl | rfl | rfl <;> rfl
def kIsi:List V→Hp→VK→Prop
 | [x,.ty n],H,Q=>lr n=true∧bnd (io H x) fun t=>Q (.bl (isTy t n)) H
 | _,_,_=>False
theorem cu:CallR X (.builtin "isinstance") kIsi:=by
 intro pins s σ H xs us Q I r h
 unfold kIsi at h
 split at h
 · obtain ⟨hn,h⟩:=h
   obtain ⟨t,et,q⟩:=aS h
   obtain ⟨u,w,rfl,ru,rw'⟩:=vS r
   cases rw'
   obtain ⟨ty,ht⟩:=uD (K:=X.K) et
   exact uq I ru ty (xi X.K t (by simpa using ht) _ (by simpa [lr] using hn)) fun tk=>⟨.bl _,H,I.tok tk,rfl,q⟩
 · exact h.elim
def b4:V→List V→Hp→VK→Prop
 | .ref l,[y],H,Q=>bnd (unM (H l)) fun xs=>xs.length < sizeLine∧Q .non (upd H l (.lst (xs++[y])))
 | _,_,_,_=>False
theorem cw:MtR X "list.append" b4:=by
 intro pins s σ H x vs v us Q I rx rv h
 unfold b4 at h
 split at h
 · obtain ⟨xs,e,h1,q⟩:=aS h
   exact o5 pins s σ H _ _ v us Q I rx rv ⟨_,xs,_,rfl,rfl,eQ e,h1,q⟩
 · exact h.elim
def ju:V→List V→Hp→VK→Prop
 | .ref l,[.ref b],H,Q=>bnd (unM (H l)) fun xs=>bnd (unM (H b)) fun zs=>xs.length+zs.length≤sizeLine∧Q .non (upd H l (.lst (xs++zs)))
 | _,_,_,_=>False
theorem mQ:MtR X "list.extend" ju:=by
 intro pins s σ H x vs v us Q I rx rv h
 unfold ju at h
 split at h
 · obtain ⟨xs,e,h⟩:=aS h
   obtain ⟨zs,e2,h1,q⟩:=aS h
   exact uw pins s σ H _ _ v us Q I rx rv ⟨_,_,xs,zs,rfl,rfl,eQ e,eQ e2,h1,q⟩
 · exact h.elim
def kL:V→List V→Hp→VK→Prop
 | .ref l,[],H,Q=>bnd (unM (H l)) fun _=>Q .non (upd H l (.lst []))
 | _,_,_,_=>False
theorem o7:MtR X "list.clear" kL:=by
 intro pins s σ H x vs v us Q I rx rv h
 unfold kL at h
 split at h
 · obtain ⟨xs,e,q⟩:=aS h
   exact vy pins s σ H _ _ v us Q I rx rv ⟨_,xs,rfl,rfl,eQ e,q⟩
 · exact h.elim
theorem cC {K:PySem.W.Frag} {H:Hp} {p:Addr} {xs:List V} (h:H p=some (.lst xs)):tyV K "list" (.ref p) H:=.inl ⟨rfl,_,SqL.of h⟩
def cSl:V→Option Int→Option Int→Hp→VK→Prop
 | .ref p,lo,hi,H,Q=>bnd (unL (H p)) fun xs=>∀ l,H l=none→Q (.ref l) (upd H l (.lst (cutV xs lo hi)))
 | _,_,_,_,_=>False
theorem ya:SlR X cSl:=by
 intro pins s σ H x v vl vu lo hi sl Q I rx hs pl pu h
 unfold cSl at h
 split at h
 · obtain ⟨xs,e,q⟩:=aS h
   exact wl pins s σ H _ v vl vu lo hi sl Q I rx hs pl pu ⟨_,xs,rfl,kI e,q⟩
 · exact h.elim
end
structure Cal (P:Program) (w:World) (K:PySem.W.Frag) (mg:Str→Option Value) (base:Heap) (k:Nat) (x:Str) (ps:List Str) (sp:Sp):Prop where
 ex:∃ (f:Addr) (fd:FuncData),FnOk P w K mg base CX0 k f fd ps sp∧mg x=some (.ref f)∧PySem.W.keepIn K (.ref f)=true∧Binds K fd ps []
theorem au {X:Cx} {k n:Nat} {x:Str} {ps:List Str} {sp:Sp} {p pos:Pos} {e:Expr} {es:List Expr} {t:TA} (C:Cal X.prog X.w X.K X.mg X.base k x ps sp) (hr:Room n X.A) (hk:k≤n) (hg:Gl X x) (ha:PA X (e::es) t)
  (hdb:(x==("__debug__":Str))=false:=by decide) (he:starEach (e::es) X.env=(false,eval e X.env)::starEach es X.env:=by rfl) (hpl:(backTo pos (starEach es X.env)).any (·.1)=false:=by rfl):
  PE X (.Call (.Name x p) (e::es) [] pos) (tCall sp [] E0 t):=by
 obtain ⟨f,fd,F,hm,hkp,hb⟩:=C.ex
 exact sG F (hr.mono hk) hg hm hkp hb .nil mL ha hdb he hpl
end L2
namespace L2
open PySem PySem.Spec PyProof.Rows
theorem bh:bootBuiltins "len"=some (.builtin "len"):=by decide+kernel
theorem uE:bootBuiltins "sorted"=some (.builtin "sorted"):=by decide+kernel
theorem xj:bootBuiltins "any"=some (.builtin "any"):=by decide+kernel
theorem bm:bootBuiltins "isinstance"=some (.builtin "isinstance"):=by decide+kernel
theorem di:bootBuiltins "list"=some (.type "list"):=by decide+kernel
theorem mR:bootBuiltins "int"=some (.type "int"):=by decide+kernel
theorem sK:bootBuiltins "bool"=some (.type "bool"):=by decide+kernel
theorem ip:bootBuiltins "str"=some (.type "str"):=by decide+kernel
theorem lY:bootBuiltins "tuple"=some (.type "tuple"):=by decide+kernel
def compN (scope:Scope):List Str:=(scope.names.filter fun p=>p.2==.local||p.2==.cell||p.2==.free).map (·.1)
def mS (N:List Str) (scope:Scope):List (Option Nat):=(compN scope).map fun x=>if scope.names.lookup x==some .free then N.findIdx? (· ==x) else none
def isCF:Option NameKind→Bool
 | some .cell=>true
 | some .free=>true
 | _=>false
theorem xk {X:Cx} {scope:Scope} (h1:scope.kind=.function) (h2:(scope.names.map (·.1)).Nodup) (h3:(scope.names.all fun p=>p.2 != .free||isCF (X.env.kindOf p.1))=true):BlkOk X (compN scope) (mS X.N scope) scope where
 kind:=h1
 nd:=h2.sublist (List.Sublist.map _ (List.filter_sublist ..))
 len:=by unfold mS; rw [List.length_map]
 names:=h2
 free:=fun x hx=>by
  have:=List.all_eq_true.mp h3 (x,.free) hx
  simp only [bne_self_eq_false,Bool.false_or] at this
  unfold isCF at this
  split at this
  · rename_i e; exact .inl e
  · rename_i e; exact .inr e
  · cases this
 at_:=fun j i x e1 e2=>by
  unfold mS at e2
  rw [List.getElem?_map,e1] at e2
  simp only [Option.map_some,Option.some.injEq] at e2
  split at e2
  · rename_i hf
    obtain ⟨hlt,hp,_⟩:=List.findIdx?_eq_some_iff_getElem.mp e2
    have hx:X.N[i]? =some x:=by
     rw [List.getElem?_eq_getElem hlt]
     have:X.N[i]=x:=by simpa using hp
     rw [this]
    refine ⟨hx,PySem.mem_of_lookup (by simpa using hf)⟩
  · cases e2
end L2
namespace L2
open PySem PySem.Spec PyProof.Rows
section
variable {t u:TS} {D:Ends} {σ:St} {H:Hp} {Q:VK} {ta tb:TE} {R:Bool→Hp→Prop} {c d:TT}
theorem aF:tSeq t u D σ H=t { D with nx:=u D } σ H:=rfl
theorem a7:tNext D σ H=D.nx σ H:=rfl
theorem iV {g:TG}:tAsg ta g D σ H=ta σ H fun x H1=>g x σ H1 D.nx:=rfl
theorem bv {i:Nat} {v:V} {k:St→Hp→Prop}:gName i v σ H k=k (σ.set i (some v)) H:=rfl
theorem gJ {i:Nat}:tVar i σ H Q=∃ v,σ[i]? =some (some v)∧Q v H:=rfl
theorem w_c {v:V}:tC v σ H Q=Q v H:=rfl
theorem kM {r:R2}:tOp r ta tb σ H Q=ta σ H fun x H1=>tb σ H1 fun y H2=>r x y H2 Q:=rfl
theorem gK:tRet ta D σ H=ta σ H D.rt:=rfl
theorem iq:tRetN D σ H=D.rt .non H:=rfl
theorem gR:tDrop ta D σ H=ta σ H fun _ H1=>D.nx σ H1:=rfl
theorem aT:tIfS c t u D σ H=c σ H fun b H1=>if b=true then t D σ H1 else u D σ H1:=rfl
theorem gS:tTest ta σ H R=ta σ H fun x H'=>∃ k,x=.bl k∧R k H':=rfl
theorem w_b:tB ta σ H R=ta σ H fun x H'=>∃ k,x=.bl k∧R k H':=rfl
theorem w_not:tNot c σ H R=c σ H fun k H1=>R (!k) H1:=rfl
theorem jH:tAnd c d σ H R=c σ H fun k H1=>if k=true then d σ H1 R else R false H1:=rfl
theorem lZ:tOr c d σ H R=c σ H fun k H1=>if k=true then R true H1 else d σ H1 R:=rfl
theorem ir:tNotV ta σ H Q=ta σ H fun x H1=>∃ c,x=.bl c∧Q (.bl (!c)) H1:=rfl
theorem iu:tAndV ta tb σ H Q=ta σ H fun x H1=>∃ c,x=.bl c∧if c=true then tb σ H1 Q else Q (.bl false) H1:=rfl
theorem jI:tOrV ta tb σ H Q=ta σ H fun x H1=>∃ c,x=.bl c∧if c=true then Q (.bl true) H1 else tb σ H1 Q:=rfl
theorem iW {k:List V→Hp→Prop}:tNil σ H k=k [] H:=rfl
theorem eY {tr:TA} {k:List V→Hp→Prop}:tCons ta tr σ H k=ta σ H fun x H1=>tr σ H1 fun xs H2=>k (x::xs) H2:=rfl
theorem l0 {r:List V→Hp→VK→Prop} {tr:TA}:tCB r tr σ H Q=tr σ H fun vs H1=>r vs H1 Q:=rfl
theorem iv {sp:Sp} {dvs:List V} {E:XK} {tr:TA}:tCall sp dvs E tr σ H Q=tr σ H fun vs H1=>sp (vs++dvs) H1 Q E:=rfl
theorem jJ {tr:TA}:tTup tr σ H Q=tr σ H fun xs H1=>xs.length≤sizeLine∧∀ p,H1 p=none→Q (.ref p) (upd H1 p (.tup xs)):=rfl
theorem iX {tr:TA}:tLst tr σ H Q=tr σ H fun xs H1=>xs.length≤sizeLine∧∀ p,H1 p=none→Q (.ref p) (upd H1 p (.lst xs)):=rfl
theorem kN {K:PySem.W.Frag} {T:String} {r:V→List V→Hp→VK→Prop} {tr:TA}:tBM K T r ta tr σ H Q=ta σ H fun x H1=>tyV K T x H1∧tr σ H1 fun xs H2=>r x xs H2 Q:=rfl
theorem jK {K:PySem.W.Frag} {T:String} {r:V→List V→Hp→VK→Prop}:tF K T r ta σ H Q=ta σ H fun x H1=>tyV K T x H1∧r x [] H1 Q:=rfl
theorem e5:tTrue σ H R=R true H:=rfl
theorem iw:xc σ H Q=∀ p,H p=none→Q (.ref p) (upd H p (.dK [])):=rfl
theorem iy {td ty tv:TE}:sDPut td ty tv D σ H=tv σ H fun v H1=>td σ H1 fun x H2=>ty σ H2 fun y H3=>∃ a H4,x=.ref a∧DPut H3 a y v H4∧D.nx σ H4:=rfl
theorem jL {i j:Int}:cAdd (.int i) (.int j) H Q=Q (.int (i+j)) H:=rfl
theorem jM {i j:Int}:cSub (.int i) (.int j) H Q=Q (.int (i - j)) H:=rfl
theorem jN {i j:Int}:cMul (.int i) (.int j) H Q=(CMul i j∧Q (.int (i*j)) H):=rfl
theorem jO {i j:Int}:cDiv (.int i) (.int j) H Q=(CDiv i j∧Q (.int (i / j)) H):=rfl
theorem jP {i j:Int}:cMod (.int i) (.int j) H Q=(0 < j∧Q (.int (i % j)) H):=rfl
theorem jQ {g:Int→Int→Bool} {i j:Int}:cCmp g (.int i) (.int j) H Q=Q (.bl (g i j)) H:=rfl
theorem jR {K:PySem.W.Frag} {i j:Int}:cEq K (.int i) (.int j) H Q=Q (.bl (decide (i=j))) H:=rfl
theorem jS {K:PySem.W.Frag} {i j:Int}:cNe K (.int i) (.int j) H Q=Q (.bl (!decide (i=j))) H:=rfl
theorem jT {K:PySem.W.Frag} {i j:Bool}:cEq K (.bl i) (.bl j) H Q=Q (.bl (decide (i=j))) H:=rfl
theorem jU {K:PySem.W.Frag} {i j:Bool}:cNe K (.bl i) (.bl j) H Q=Q (.bl (!decide (i=j))) H:=rfl
theorem fv {p:Addr} {i:Int} {xs:List V} (h:H p=some (.tup xs)):cIx (.ref p) (.int i) H Q=bnd (atI xs i) fun v=>Q v H:=by
 unfold cIx; dsimp only; rw [h]; rfl
theorem vV {p:Addr} {i:Int} {xs:List V} (h:H p=some (.lst xs)):cIx (.ref p) (.int i) H Q=bnd (atI xs i) fun v=>Q v H:=by
 unfold cIx; dsimp only; rw [h]; rfl
theorem jV {i:Int}:kAbs [.int i] H Q=Q (.int (if i < 0 then -i else i)) H:=rfl
theorem jW {i j:Int}:kMin [.int i,.int j] H Q=Q (.int (if j < i then j else i)) H:=rfl
theorem cE {p:Addr} {xs:List V} (h:H p=some (.lst xs)):kLen [.ref p] H Q=Q (.int xs.length) H:=by
 unfold kLen; dsimp only; rw [h]; rfl
theorem xm {p:Addr} {xs:List V} (h:H p=some (.tup xs)):kLen [.ref p] H Q=Q (.int xs.length) H:=by
 unfold kLen; dsimp only; rw [h]; rfl
theorem iz {p:Addr} {xs:List V} {y:V} (h:H p=some (.lst xs)):b4 (.ref p) [y] H Q=(xs.length < sizeLine∧Q .non (upd H p (.lst (xs++[y])))):=by
 unfold b4; dsimp only; rw [h]; rfl
theorem iY:∀ ns:List Int,(ns.map V.int).all flatV=true
 | []=>rfl
 | n::r=>by rw [List.map_cons,List.all_cons,iY r]; rfl
theorem jX (i:Int):∀ ns:List Int,inV (.int i) (ns.map V.int)=decide (i∈ns)
 | []=>by simp [inV]
 | n::r=>by
  have ih:=jX i r
  unfold inV at ih ⊢
  rw [List.map_cons,List.any_cons,ih]
  show ((n==i)||decide (i∈r))=decide (i∈n::r)
  rw [Bool.eq_iff_iff,Bool.or_eq_true,beq_iff_eq,decide_eq_true_eq,decide_eq_true_eq,List.mem_cons]
  exact ⟨fun h=>h.elim (fun e=>.inl e.symm) .inr,fun h=>h.elim (fun e=>.inl e.symm) .inr⟩
theorem tH {K:PySem.W.Frag} {p:Addr} {i:Int} {ns:List Int} (h:H p=some (.lst (ns.map V.int))):cIn K false (.int i) (.ref p) H Q=Q (.bl (decide (i∈ns))) H:=by
 unfold cIn; dsimp only; rw [h]; dsimp only [unD,unS,bnd]
 rw [jX,iY]
 simp [flatV]
theorem tI {K:PySem.W.Frag} {p:Addr} {i:Int} {ns:List Int} (h:H p=some (.lst (ns.map V.int))):cIn K true (.int i) (.ref p) H Q=Q (.bl (!decide (i∈ns))) H:=by
 unfold cIn; dsimp only; rw [h]; dsimp only [unD,unS,bnd]
 rw [jX,iY]
 simp [flatV]
end
def LoopR (J:It) (g:TG) (tb:TS) (D:Ends) (σ:St) (H1:Hp):Prop:=∃ W:Nat→Nat→St→Hp→Prop,(∃ m,W 0 m σ H1)∧∀ i m σ H,W i m σ H→
 (J.stop i H∧D.nx σ H)∨(J.go i H∧∃ N:St→Hp→Prop,(∀ σ' H',N σ' H'→∃ m',m' < m∧W (i+1) m' σ' H')∧∀ x H',J.yld i H x H'→g x σ H' fun σ2 H2=>tb { D with nx:=N,ct:=N,bk:=D.nx } σ2 H2)
def CompR (J:It) (g:TG) (tt:TT) (te:TE) (fin:Addr→Hp→Prop) (σ0:St) (H1:Hp):Prop:=∀ l,H1 l=none→
 ∃ W:Nat→Nat→St→Hp→Prop,(∃ m,W 0 m σ0 (upd H1 l (.lst [])))∧∀ i m σ' H',W i m σ' H'→
  (J.stop i H'∧fin l H')∨(J.go i H'∧∃ N:St→Hp→Prop,(∀ σ'' H'',N σ'' H''→∃ m',m' < m∧W (i+1) m' σ'' H'')∧∀ x H2,J.yld i H' x H2→g x σ' H2 fun σ2 H3=>tt σ2 H3 fun b H4=>
   if b=true then te σ2 H4 fun y H5=>∃ ys,H5 l=some (.lst ys)∧ys.length < sizeLine∧N σ2 (upd H5 l (.lst (ys++[y]))) else N σ2 H4)
section
variable {K:PySem.W.Frag} {g:TG} {tb:TS} {D:Ends} {σ:St} {H:Hp} {tl:TE} {ta:TA} {ix:List (Option Nat)} {tt:TT} {te:TE} {k:Nat} {Q:VK}
theorem iA:tFor (iList K tl) g tb D σ H=tl σ H fun x H1=>∃ a,x=.ref a∧(∃ xs,SqL K H1 a xs)∧LoopR (Itl K a) g tb D σ H1:=rfl
theorem gq:tFor (fM ta) g tb D σ H=ta σ H fun vs H1=>∃ j:Int,vs=[.int j]∧ -(2^62)≤j∧j < 2^62∧LoopR (Itr 0 j.toNat) g tb D σ H1:=rfl
theorem gr:tFor (mI ta) g tb D σ H=ta σ H fun vs H1=>∃ i j:Int,vs=[.int i,.int j]∧(-(2^62)≤i∧i < 2^62∧ -(2^62)≤j∧j < 2^62)∧LoopR (Itr i (j - i).toNat) g tb D σ H1:=rfl
theorem fG:tComp ix (iList K tl) g tt te σ H Q=tl σ H fun x H1=>∃ a,x=.ref a∧(∃ xs,SqL K H1 a xs)∧CompR (Itl K a) g tt te (fun l H'=>Q (.ref l) H') (subσ ix σ) H1:=rfl
theorem fw:tComp ix (fM ta) g tt te σ H Q=ta σ H fun vs H1=>∃ j:Int,vs=[.int j]∧ -(2^62)≤j∧j < 2^62∧CompR (Itr 0 j.toNat) g tt te (fun l H'=>Q (.ref l) H') (subσ ix σ) H1:=rfl
theorem fz:sComp k ix (iList K tl) g tt te D σ H=tl σ H fun x H1=>∃ a,x=.ref a∧(∃ xs,SqL K H1 a xs)∧CompR (Itl K a) g tt te (fun l H'=>D.nx (σ.set k (some (.ref l))) H') (subσ ix σ) H1:=rfl
theorem dP:sComp k ix (fM ta) g tt te D σ H=ta σ H fun vs H1=>∃ j:Int,vs=[.int j]∧ -(2^62)≤j∧j < 2^62∧CompR (Itr 0 j.toNat) g tt te (fun l H'=>D.nx (σ.set k (some (.ref l))) H') (subσ ix σ) H1:=rfl
theorem jY {lo:Int} {n:Nat} {fin:Addr→Hp→Prop} {σ0:St} {H1:Hp} (Pv:Addr→Nat→St→Hp→Prop) (h0:∀ l,H1 l=none→Pv l 0 σ0 (upd H1 l (.lst [])))
  (hs:∀ l i σ H,H1 l=none→i < n→Pv l i σ H→g (.int (lo+i)) σ H fun σ2 H3=>tt σ2 H3 fun b H4=>if b=true then te σ2 H4 fun y H5=>∃ ys,H5 l=some (.lst ys)∧ys.length < sizeLine∧Pv l (i+1) σ2 (upd H5 l (.lst (ys++[y]))) else Pv l (i+1) σ2 H4)
  (hd:∀ l σ H,H1 l=none→Pv l n σ H→fin l H):CompR (Itr lo n) g tt te fin σ0 H1:=by
 intro l hl0
 refine ⟨fun i m σ H=>m=n - i∧i≤n∧Pv l i σ H,⟨n,by simp,Nat.zero_le _,h0 l hl0⟩,?_⟩
 rintro i m σ H ⟨rfl,hi,p⟩
 by_cases hlt:i < n
 · refine .inr ⟨hlt,Pv l (i+1),fun σ' H' p'=>⟨n - (i+1),by omega,rfl,hlt,p'⟩,fun x H' y=>?_⟩
   obtain ⟨e,y⟩:=y
   subst e y
   exact hs l i σ _ hl0 hlt p
 · have e:i=n:=by omega
   subst e
   exact .inl ⟨Nat.le_refl _,hd l σ H hl0 p⟩
theorem iZ {a:Addr} {xs:List V} {fin:Addr→Hp→Prop} {σ0:St} {H1:Hp} (Pv:Addr→Nat→St→Hp→Prop) (h0:∀ l,H1 l=none→Pv l 0 σ0 (upd H1 l (.lst []))) (hq:∀ l i σ H,H1 l=none→i≤xs.length→Pv l i σ H→SqL K H a xs)
  (hs:∀ l i x σ H,H1 l=none→xs[i]? =some x→Pv l i σ H→g x σ H fun σ2 H3=>tt σ2 H3 fun b H4=>if b=true then te σ2 H4 fun y H5=>∃ ys,H5 l=some (.lst ys)∧ys.length < sizeLine∧Pv l (i+1) σ2 (upd H5 l (.lst (ys++[y]))) else Pv l (i+1) σ2 H4)
  (hd:∀ l σ H,H1 l=none→Pv l xs.length σ H→fin l H):CompR (Itl K a) g tt te fin σ0 H1:=by
 intro l hl0
 refine ⟨fun i m σ H=>m=xs.length - i∧i≤xs.length∧Pv l i σ H,⟨xs.length,by simp,Nat.zero_le _,h0 l hl0⟩,?_⟩
 rintro i m σ H ⟨rfl,hi,p⟩
 have q:=hq l i σ H hl0 hi p
 by_cases hlt:i < xs.length
 · refine .inr ⟨⟨xs,xs[i],q,by simp [hlt]⟩,Pv l (i+1),fun σ' H' p'=>⟨xs.length - (i+1),by omega,rfl,hlt,p'⟩,fun x H' y=>?_⟩
   obtain ⟨e,y⟩:=y
   subst e
   exact hs l i x σ _ hl0 (y xs q) p
 · have e:i=xs.length:=by omega
   subst e
   exact .inl ⟨⟨xs,q,Nat.le_refl _⟩,hd l σ H hl0 p⟩
theorem tJ {p q:Addr} {xs ys:List Int} (hp:H p=some (.lst (xs.map V.int))) (hq:H q=some (.lst (ys.map V.int))) (h:Q (.bl (decide (xs=ys))) H):cEq K (.ref p) (.ref q) H Q:=by
 show rEqD K (.ref p) (.ref q) H Q
 refine ⟨.list (xs.map PyData.int),.list (ys.map PyData.int),.lst (SqL.of hp) (.ints xs),.lst (SqL.of hq) (.ints ys),gI xs,gI ys,?_⟩
 rw [PyData.eqv,qG]
 exact h
theorem vW {p q:Addr} {xs ys:List Int} (hp:H p=some (.lst (xs.map V.int))) (hq:H q=some (.lst (ys.map V.int))) (h:Q (.bl (!decide (xs=ys))) H):cNe K (.ref p) (.ref q) H Q:=by
 show rNeD K (.ref p) (.ref q) H Q
 refine ⟨.list (xs.map PyData.int),.list (ys.map PyData.int),.lst (SqL.of hp) (.ints xs),.lst (SqL.of hq) (.ints ys),gI xs,gI ys,?_⟩
 rw [PyData.eqv,qG]
 exact h
theorem kO {p:Addr} {xs:List V} (hp:H p=some (.lst xs)) (h:∀ l,H l=none→Q (.ref l) (upd H l (.lst xs))):kList [.ref p] H Q:=by
 unfold kList
 dsimp only
 rw [hp]
 exact h
end
theorem aH {X:Cx} {N:List Str} {ix:List (Option Nat)} {scope:Scope} (h1:scope.kind=.function) (h2:(scope.names.map (·.1)).Nodup) (h3:(scope.names.all fun p=>p.2 != .free||isCF (X.env.kindOf p.1))=true) (h4:N=compN scope) (h5:ix=mS X.N scope):BlkOk X N ix scope:=by
 subst h4 h5
 exact xk h1 h2 h3
def kLenS (K:PySem.W.Frag):List V→Hp→VK→Prop:=fun xs H Q=>∃ p ys,xs=[.ref p]∧(SqL K H p ys∨SqT K H p ys)∧Q (.int ys.length) H
structure Bt (mg:Str→Option Value):Prop where
 len_:mg "len"=none
 abs_:mg "abs"=none
 min_:mg "min"=none
 max_:mg "max"=none
 sorted_:mg "sorted"=none
 any_:mg "any"=none
 isinstance_:mg "isinstance"=none
 list_:mg "list"=none
 int_:mg "int"=none
 bool_:mg "bool"=none
 str_:mg "str"=none
 tuple_:mg "tuple"=none
 reversed_:mg "reversed"=none
 set_:mg "set"=none
 range_:mg "range"=none
 zip_:mg "zip"=none
end L2
namespace L2
open PySem PySem.Spec PyProof.Rows
theorem Vals.get':∀ {xs:List V} {us:List Value} {i:Nat} {u:Value},Vals xs us→us[i]? =some u→∃ x,xs[i]? =some x∧RelV x u
 | _,_,_,_,.nil,h=>by simp at h
 | _,_,0,_,.cons r _,h=>by simp at h; subst h; exact ⟨_,rfl,r⟩
 | _,_,i+1,_,.cons _ t,h=>by
  obtain ⟨x,hx,r⟩:=Vals.get' (i:=i) t (by simpa using h)
  exact ⟨x,by simpa using hx,r⟩
section
variable {X:Cx} {pins:List (Addr × Obj)} {σ:St} {H:Hp} {s s':Shared}
theorem Inv.kept' (I:Inv X pins σ H s) (k:∀ b u,s.heap.get? b=some u→s'.heap.get? b=some u) (ho:s'.os=s.os) (hg:AllBare s'.gens):Inv X pins σ H s':=
 I.call' (ch:=[]) ho (Un.kept k) (I.hok.kept k) hg fun b z=>absurd z (by simp)
theorem Inv.walked {l:Addr} {o:Obj} (I:Inv X pins σ H s) (hm:Moved [s.heap.objs.size] (fun a b=>b=a) { s with heap:=s.heap.push o } s'):Inv X pins σ H s':=by
 refine I.kept' (fun b u e=>hm.heap b u (fun z=>?_) (Heap.get?_push_of_some _ e)) hm.os (by rw [show s'.gens=s.gens from hm.gens]; exact I.bare)
 have:b=s.heap.objs.size:=by simpa using z
 exact absurd (Heap.lt_size e) (by rw [this]; exact Nat.lt_irrefl _)
def kAny:List V→Hp→VK→Prop
 | [.ref p],H,Q=>bnd (unL (H p)) fun ys=>∃ bs:List Bool,ys=bs.map V.bl∧Q (.bl (bs.any id)) H
 | _,_,_=>False
theorem uF (bs:List Bool):(List.range bs.length).any (fun i=>bs.getD i false)=bs.any id:=by
 rw [Bool.eq_iff_iff,List.any_eq_true,List.any_eq_true]
 constructor
 · rintro ⟨i,hi,h⟩
   have hi':i < bs.length:=List.mem_range.mp hi
   exact ⟨bs[i],List.getElem_mem hi',by simpa [List.getD,hi'] using h⟩
 · rintro ⟨b,hb,h⟩
   obtain ⟨i,hi,e⟩:=List.mem_iff_getElem.mp hb
   refine ⟨i,List.mem_range.mpr hi,?_⟩
   have h':b=true:=h
   rw [List.getD,List.getElem?_eq_getElem hi,e]
   exact h'
theorem uG (hc:X.calm=true):CallR X (.builtin "any") kAny:=by
 intro pins s σ H xs us Q I r h
 unfold kAny at h
 split at h
 · rename_i p
   obtain ⟨ys,e,bs,rfl,q⟩:=aS h
   obtain ⟨u,rfl,ru⟩:=cD r
   cases ru
   obtain ⟨its,rv,pl,hz⟩:=I.list (kI e)
   have hl:=rv.length
   rw [List.length_map] at hl
   have hlt:p < s.heap.objs.size:=by
    obtain ⟨o,h1,_⟩:=pl.isList
    exact Heap.lt_size h1
   refine call_any_walkS (wpAny_pyIter_list pl.isList ?_)
   refine ⟨s.heap.objs.size,_,_,_,its.toArray.size,_,_,fun i=>bs.getD i false,rfl,(Walks.list (A:=X.A.in1) (I.ok.hd hc) s.heap.objs.size p (Nat.ne_of_lt hlt) its.toArray).toS,⟨⟨_,Heap.get?_push_size _ rfl,rfl,rfl⟩,pl.isList.push _⟩,?_,fun s' hm=>?_⟩
   · intro i v s1 Q1 E1 hP hQ
     have hv:its[i]? =some v:=by simpa using hP
     obtain ⟨x,hx,rx⟩:=rv.get' hv
     obtain ⟨b,hb,rfl⟩:∃ b,bs[i]? =some b∧V.bl b=x:=by simpa using hx
     cases rx
     refine wpAny_truthy_bool ?_
     have e3:bs.getD i false=b:=by simp [List.getD,hb]
     rw [← e3]
     exact hQ
   · refine ⟨.bl _,H,I.walked (l:=p) hm,?_,q⟩
     have e2:its.toArray.size=bs.length:=by rw [List.size_toArray]; exact hl.symm
     rw [e2,uF]
     rfl
 · exact h.elim
def Itz (K:PySem.W.Frag) (a b:Addr):It:=
 ⟨fun i H=>∃ xs ys x y,SqL K H a xs∧SqL K H b ys∧xs[i]? =some x∧ys[i]? =some y,
  fun i H v H'=>∃ T x y,v=.ref T∧H T=none∧H'=upd H T (.tup [x,y])∧(∀ xs,SqL K H a xs→xs[i]? =some x)∧∀ ys,SqL K H b ys→ys[i]? =some y,
  fun i H=>∃ xs ys,SqL K H a xs∧SqL K H b ys∧(xs.length≤i∨ys.length≤i)⟩
theorem aJ {h:Heap} {a b:Addr} {o u:Obj} {c d:String} (ha:h.get? a=some o) (hb:h.get? b=some u) (hc:o.cls=.type c) (hd:u.cls=.type d) (ne:c≠d):a≠b:=by
 rintro rfl; rw [ha] at hb; cases hb; rw [hc] at hd; cases hd; exact ne rfl
def ZSt (a b z TI TO i1 i2:Addr) (i:Nat) (h:Heap):Prop:=IsZip h z TI TO .none∧IsPair h TI (.ref i1) (.ref i2)∧(∃ u v,IsPair h TO u v)∧h.IsListIter i1 a i∧h.IsListIter i2 b i
theorem vB {P:Program} {w:World} {K:PySem.W.Frag} {es:List Expr} {x1:Nat} {pos:Pos} (a b z TI TO i1 i2:Addr) (dT:TI≠TO) (d1:i1≠i2):
  Turn P w K (.Tuple es x1 pos) (Itz K a b) [z,TI,TO,i1,i2] z (ZSt a b z TI TO i1 i2) where
 mem:=by simp
 obj:=fun i h st c hc=>by
  obtain ⟨hz,hTI,⟨u,v,hTO⟩,⟨o1,e1,c1,f1⟩,⟨o2,e2,c2,f2⟩⟩:=st
  simp only [List.mem_cons,List.not_mem_nil,or_false] at hc
  rcases hc with rfl | rfl | rfl | rfl | rfl
  · exact ⟨_,hz,fun v z=>by have z':Data.fields _=Data.cell v:=z; cases z'⟩
  · exact ⟨_,hTI,fun v z=>by have z':Data.seq _ _=Data.cell v:=z; cases z'⟩
  · exact ⟨_,hTO,fun v z=>by have z':Data.seq _ _=Data.cell v:=z; cases z'⟩
  · exact ⟨_,e1,fun v z=>by rw [f1] at z; cases z⟩
  · exact ⟨_,e2,fun v z=>by rw [f2] at z; cases z⟩
 keep:=fun i h h' st k=>by
  obtain ⟨hz,hTI,⟨u,v,hTO⟩,h1,h2⟩:=st
  exact ⟨k z (by simp) _ hz,k TI (by simp) _ hTI,⟨u,v,k TO (by simp) _ hTO⟩,h1.at fun o e=>k i1 (by simp) o e,h2.at fun o e=>k i2 (by simp) o e⟩
 item:=by
  intro X hP hw hK hc i pins s σ H E I hf st hg
  subst hP hw hK
  obtain ⟨xs,ys,x,y,hq1,hq2,hx,hy⟩:=hg
  obtain ⟨its1,rv1,p1,hz1⟩:=I.list hq1
  obtain ⟨its2,rv2,p2,hz2⟩:=I.list hq2
  obtain ⟨u1,hu1,ru1⟩:=rv1.get hx
  obtain ⟨u2,hu2,ru2⟩:=rv2.get hy
  obtain ⟨hz,hTI,⟨u,v,hTO⟩,⟨o1,e1,c1,f1⟩,⟨o2,e2,c2,f2⟩⟩:=id st
  obtain ⟨oa,ea,ca,_⟩:=p1.isList
  obtain ⟨ob,eb,cb,_⟩:=p2.isList
  have D:ZipApart z TI TO i1 i2 a b:=⟨aJ hTI hz rfl rfl (by decide),aJ hTO hz rfl rfl (by decide),aJ e1 hz c1 rfl (by decide),aJ e2 hz c2 rfl (by decide),dT,aJ hTI e1 rfl c1 (by decide),aJ hTI e2 rfl c2 (by decide),aJ hTO e1 rfl c1 (by decide),aJ hTO e2 rfl c2 (by decide),d1,
   aJ ea hz ca rfl (by decide),aJ ea hTO ca rfl (by decide),aJ ea e1 ca c1 (by decide),aJ ea e2 ca c2 (by decide),aJ eb hz cb rfl (by decide),aJ eb hTO cb rfl (by decide),aJ eb e1 cb c1 (by decide),aJ eb e2 cb c2 (by decide)⟩
  refine wpAny_pyNext_zip_item D hz hTI hTO ⟨o1,e1,c1,f1⟩ ⟨o2,e2,c2,f2⟩ p1.isList p2.isList (x:=u1) (y:=u2) (by simpa using hu1) (by simpa using hu2) fun h' a1 a2 a3 a4 a5 a6 hk=>?_
  refine ⟨_,rfl,wpAny_letOwnedTupleGo_zip a1 fun h2 hz2 sb=>?_⟩
  have hT:H s.heap.objs.size=none:=I.fresh
  have lt:∀ {c o},s.heap.get? c=some o→c≠s.heap.objs.size:=fun e=>Nat.ne_of_lt (Heap.lt_size e)
  have kp:∀ c o,c∉[z,TO,i1,i2]→s.heap.get? c=some o→h2.get? c=some o:=fun c o hc e=>by
   simp only [List.mem_cons,List.not_mem_nil,or_false,not_or] at hc
   exact sb.extBut _ _ hc.1 (hk c o hc.1 hc.2.1 hc.2.2.1 hc.2.2.2 e)
  have hTz:s.heap.objs.size≠z:=(lt hz).symm
  have gT:h2.get? s.heap.objs.size=some { cls:=.type "tuple",data:=.seq #[u1,u2] }:=sb.extBut _ _ hTz a5
  have nH:∀ c∈[z,TO,i1,i2],H c=none:=fun c hc=>(hf c (by simp only [List.mem_cons,List.not_mem_nil,or_false] at hc ⊢; rcases hc with h | h | h | h <;> simp [h])).1
  refine ⟨.ref s.heap.objs.size,upd H s.heap.objs.size (.tup [x,y]),I.call' (s':={ s with heap:=h2 }) (ch:=[z,TO,i1,i2]) rfl ⟨fun c o e n _ hx=>kp c o hx e,fun c o e n _ hx=>⟨o.slots,kp c o hx e⟩,fun c o e n _=>by rw [ah (lt e)]; exact n,fun c o e hx=>⟨o,kp c o hx e⟩,fun c xs e=>by rw [ah (ar e hT)]; exact e,fun c o u e=>by rw [ah (ar e hT)]; exact e,fun c ps e=>⟨#[],by rw [ah (ar e hT),e]; simp⟩⟩ ?_ I.bare ?_,rfl,⟨_,x,y,rfl,hT,rfl,fun zs hz'=>by rw [I.list_inj hz' hq1]; exact hx,fun zs hz'=>by rw [I.list_inj hz' hq2]; exact hy⟩,?_,?_⟩
  · intro c ob e
    by_cases hb:c=s.heap.objs.size
    · subst hb
      rw [ae] at e
      cases e
      exact ⟨by show (2:Nat)≤sizeLine; exact Nat.le_of_lt (aE (by decide)),[u1,u2],.cons ru1 (.cons ru2 .nil),⟨_,gT,rfl,_,rfl⟩⟩
    · rw [ah hb] at e
      refine (I.hok c ob e).stay (fun d w' hd g=>kp d w' ?_ g) (fun d g=>by rw [ah (ar g hT)]; exact g) fun d xs g=>by rw [ah (ar g hT)]; exact g
      intro hm
      rcases hd with rfl | hd
      · rw [nH _ hm] at e; cases e
      · rw [nH _ hm] at hd; cases hd
  · intro c hc
    obtain ⟨f0,f1,f2,f3,f4,f5⟩:=hf c (by simp only [List.mem_cons,List.not_mem_nil,or_false] at hc ⊢; rcases hc with h | h | h | h <;> simp [h])
    exact ⟨f3,f1,f4,f5⟩
  · exact ⟨hz2,sb.extBut _ _ D.TIz (hk _ _ D.TIz D.TITO D.TIi1 D.TIi2 hTI),⟨_,_,sb.extBut _ _ D.TOz a2⟩,a3.extBut sb.extBut D.i1z,a4.extBut sb.extBut D.i2z⟩
  · intro c hc
    obtain ⟨o,e,_⟩:∃ o,s.heap.get? c=some o∧True:=by
     simp only [List.mem_cons,List.not_mem_nil,or_false] at hc
     rcases hc with rfl | rfl | rfl | rfl | rfl
     · exact ⟨_,hz,trivial⟩
     · exact ⟨_,hTI,trivial⟩
     · exact ⟨_,hTO,trivial⟩
     · exact ⟨_,e1,trivial⟩
     · exact ⟨_,e2,trivial⟩
    rw [ah (lt e)]
    exact (hf c hc).1
 done:=by
  intro X hP hw hK hc i pins s σ H E I hf st hg
  subst hP hw hK
  obtain ⟨xs,ys,hq1,hq2,hx⟩:=hg
  obtain ⟨its1,rv1,p1,hz1⟩:=I.list hq1
  obtain ⟨its2,rv2,p2,hz2⟩:=I.list hq2
  have hl1:=rv1.length
  have hl2:=rv2.length
  obtain ⟨hz,hTI,⟨u,v,hTO⟩,⟨o1,e1,c1,f1⟩,⟨o2,e2,c2,f2⟩⟩:=id st
  obtain ⟨oa,ea,ca,_⟩:=p1.isList
  obtain ⟨ob,eb,cb,_⟩:=p2.isList
  have D:ZipApart z TI TO i1 i2 a b:=⟨aJ hTI hz rfl rfl (by decide),aJ hTO hz rfl rfl (by decide),aJ e1 hz c1 rfl (by decide),aJ e2 hz c2 rfl (by decide),dT,aJ hTI e1 rfl c1 (by decide),aJ hTI e2 rfl c2 (by decide),aJ hTO e1 rfl c1 (by decide),aJ hTO e2 rfl c2 (by decide),d1,
   aJ ea hz ca rfl (by decide),aJ ea hTO ca rfl (by decide),aJ ea e1 ca c1 (by decide),aJ ea e2 ca c2 (by decide),aJ eb hz cb rfl (by decide),aJ eb hTO cb rfl (by decide),aJ eb e1 cb c1 (by decide),aJ eb e2 cb c2 (by decide)⟩
  have hend:its1.toArray[i]? =none∨its2.toArray[i]? =none:=by
   rcases hx with h | h
   · exact .inl (by simp; omega)
   · exact .inr (by simp; omega)
  refine wpAny_pyNext_zip_end (I.ok.hd hc) D hz hTI hTO ⟨o1,e1,c1,f1⟩ ⟨o2,e2,c2,f2⟩ p1.isList p2.isList hend fun h' hk=>⟨rfl,?_⟩
  have kp:∀ c o,c∉[z,TO,i1,i2]→s.heap.get? c=some o→h'.get? c=some o:=fun c o hc e=>by
   simp only [List.mem_cons,List.not_mem_nil,or_false,not_or] at hc
   exact hk c o hc.1 hc.2.1 hc.2.2.1 hc.2.2.2 e
  have nH:∀ c∈[z,TO,i1,i2],H c=none:=fun c hc=>(hf c (by simp only [List.mem_cons,List.not_mem_nil,or_false] at hc ⊢; rcases hc with h | h | h | h <;> simp [h])).1
  refine I.call' (s':={ s with heap:=h' }) (ch:=[z,TO,i1,i2]) rfl ⟨fun c o e n _ hx=>kp c o hx e,fun c o e n _ hx=>⟨o.slots,kp c o hx e⟩,fun c o e n _=>n,fun c o e hx=>⟨o,kp c o hx e⟩,fun c xs e=>e,fun c o u e=>e,fun c ps e=>⟨#[],by rw [e]; simp⟩⟩ ?_ I.bare ?_
  · intro c ob e
    refine (I.hok c ob e).stay (fun d w' hd g=>kp d w' ?_ g) (fun d g=>g) fun d xs g=>g
    intro hm
    rcases hd with rfl | hd
    · rw [nH _ hm] at e; cases e
    · rw [nH _ hm] at hd; cases hd
  · intro c hc
    obtain ⟨f0,f1,f2,f3,f4,f5⟩:=hf c (by simp only [List.mem_cons,List.not_mem_nil,or_false] at hc ⊢; rcases hc with h | h | h | h <;> simp [h])
    exact ⟨f3,f1,f4,f5⟩
 self:=fun _ _ _ _ _ st h=>wpAny_pyIter_zip st.1 h
def iZip (K:PySem.W.Frag) (ta:TA):TI:=fun σ H R=>ta σ H fun vs H1=>∃ a b,vs=[.ref a,.ref b]∧(∃ xs,SqL K H1 a xs)∧(∃ ys,SqL K H1 b ys)∧R (Itz K a b) H1
theorem xn:bootBuiltins "zip"=some (.type "zip"):=by decide+kernel
theorem qJ {es:List Expr} {x1:Nat} {tpos:Pos} {e1 e2:Expr} {ta:TA} {p pos:Pos} (hg:Gl X "zip") (hm:X.mg "zip"=none) (ha:PA X [e1,e2] ta) (hs:starEach [e1,e2] X.env=[(false,eval e1 X.env),(false,eval e2 X.env)]:=by rfl) (hs2:starEach [e2] X.env=[(false,eval e2 X.env)]:=by rfl):
  PI X (.Tuple es x1 tpos) (.Call (.Name "zip" p) [e1,e2] [] pos) (iZip X.K ta):=by
 intro pins s σ H R I h
 refine Call_ (cK I hg hm xn (PyProof.Rows.callWith_type1 (thn (ha pos pins s σ H _ I h) fun us s1 ⟨vs,H1,I1,r1,q1⟩=>?_) (by rw [hs,hs2]) (by rw [hs2]; rfl)))
 obtain ⟨a,b,rfl,⟨xs,hq1⟩,⟨ys,hq2⟩,q⟩:=q1
 obtain ⟨u1,u2,rfl,ru1,ru2⟩:=vS r1
 cases ru1
 cases ru2
 obtain ⟨its1,rv1,p1,hz1⟩:=I1.list hq1
 obtain ⟨its2,rv2,p2,hz2⟩:=I1.list hq2
 refine call_zip_2 p1.isList p2.isList fun h' a1 a2 a3 a4 a5 a6 hk=>?_
 refine wpAny_pyIter_zip a1 ?_
 have I2:Inv X pins σ H1 { s1 with heap:=h',toks:=s1.toks }:=I1.kept hk
 refine ⟨s1.heap.objs.size+4,[s1.heap.objs.size+4,s1.heap.objs.size+2,s1.heap.objs.size+3,s1.heap.objs.size,s1.heap.objs.size+1],ZSt a b (s1.heap.objs.size+4) (s1.heap.objs.size+2) (s1.heap.objs.size+3) s1.heap.objs.size (s1.heap.objs.size+1),Itz X.K a b,H1,rfl,I2,vB a b (s1.heap.objs.size+4) (s1.heap.objs.size+2) (s1.heap.objs.size+3) s1.heap.objs.size (s1.heap.objs.size+1) (fun z=>by have:s1.heap.objs.size+2=s1.heap.objs.size+3:=z; omega) (fun z=>by have:s1.heap.objs.size=s1.heap.objs.size+1:=z; omega),⟨a1,a2,⟨_,_,a3⟩,a4,a5⟩,fun c hc=>?_,q⟩
 have hge:s1.heap.objs.size≤c:=by
  simp only [List.mem_cons,List.not_mem_nil,or_false] at hc
  rcases hc with rfl | rfl | rfl | rfl | rfl <;> omega
 exact I1.fpOk hge (I1.hok.fresh hge)
end
end L2
namespace L2
open PySem PySem.Spec PyProof.Rows
open Builtin Builtin.Str
theorem ou:∀ {ts:List Str} {us:List Value},Vals (ts.map V.str) us→∃ l:List (Str × Tok),us=strValues l∧l.map (·.1)=ts
 | [],_,.nil=>⟨[],rfl,rfl⟩
 | t::ts,_,.cons r rs=>by
  obtain ⟨l,rfl,e⟩:=ou (ts:=ts) rs
  obtain ⟨u,rfl⟩:=r
  exact ⟨(t,u)::l,rfl,by rw [List.map_cons,e]⟩
theorem o8:∀ (l:List (Str × Tok)),Vals ((l.map (·.1)).map V.str) (strValues l)
 | []=>.nil
 | (t,u)::l=>.cons ⟨u,rfl⟩ (o8 l)
section
variable {X:Cx}
def kFind:V→List V→Hp→VK→Prop
 | .str x,[.str y],H,Q=>Q (.int (Txt.find x y)) H
 | _,_,_,_=>False
def mT:V→List V→Hp→VK→Prop
 | .str x,[.str y],H,Q=>(y.length==0)=false∧x.length≤sizeLine∧(Txt.split x y).length≤sizeLine∧∀ l,H l=none→Q (.ref l) (upd H l (.lst ((Txt.split x y).map V.str)))
 | _,_,_,_=>False
theorem uH:MtR X "str.split" mT:=by
 intro pins s σ H x vs v us Q I rx rv h
 unfold mT at h
 split at h
 · rename_i x y
   obtain ⟨t,rfl⟩:=rx
   obtain ⟨u,rfl,ru⟩:=cD rv
   obtain ⟨t2,rfl⟩:=ru
   obtain ⟨hy,hx,hn,q⟩:=h
   have fin:∀ (l:List (Str × Tok)) (k:Nat),l.map (·.1)=Txt.split x y→EP X pins σ Q (.ref s.heap.objs.size) { s with heap:=s.heap.push { cls:=.type "list",data:=.seq (strValues l).toArray },toks:=k }:=fun l k e=>by
    refine ⟨.ref s.heap.objs.size,_,I.lnew (t':=k) (ys:=(Txt.split x y).map V.str) (its:=strValues l) ?_ (by rw [List.length_map]; exact hn),rfl,q _ I.fresh⟩
    rw [← e]
    exact o8 l
   cases h1:(decide (x.length < y.length)||decide (strKind x < strKind y))
   · cases hf:(occurrences x y 0 x.length (x.length+1)).isEmpty
     · have e3:Txt.split x y=partsBetween x (occurrences x y 0 x.length (x.length+1)) y.length:=(if_neg (ne_true_of_eq_false h1)).trans (if_neg (ne_true_of_eq_false hf))
       refine call_meets F.slot_str_split (typeIs_str _ _ _) F.entry_str_split (F.args_str_split_2 _ _) (meets_str_split_sep x y t t2 h1 hy hf hx (by rw [← e3]; exact hn)) ?_
       show wants _ _ _ { s with toks:=_,heap:=s.heap.push { cls:=.type "list",data:=.seq (strsFrom s.toks (partsBetween x (occurrences x y 0 x.length (x.length+1)) y.length)).toArray } }
       rw [strsFrom_eq]
       exact fin (numbered s.toks _) _ ((numbered_texts _ _).trans e3.symm)
     · exact call_meets F.slot_str_split (typeIs_str _ _ _) F.entry_str_split (F.args_str_split_2 _ _) (meets_str_split_not_found x y t t2 h1 hy hf)
        (fin [(x,t)] s.toks ((if_neg (ne_true_of_eq_false h1)).trans (if_pos hf)).symm)
   · exact call_meets F.slot_str_split (typeIs_str _ _ _) F.entry_str_split (F.args_str_split_2 _ _) (meets_str_split_cannot_occur x y t t2 h1)
      (fin [(x,t)] s.toks (if_pos h1).symm)
 · exact h.elim
def dQ:V→Option Int→Option Int→Hp→VK→Prop
 | .ref p,lo,hi,H,Q=>cSl (.ref p) lo hi H Q
 | .str z,lo,hi,H,Q=>z.length≤sizeLine∧Q (.str (Txt.slice z lo hi)) H
 | _,_,_,_,_=>False
theorem e9:SlR X dQ:=by
 intro pins s σ H x v vl vu lo hi sl Q I rx hs pl pu h
 cases x with
 | ref p=>exact ya pins s σ H _ v vl vu lo hi sl Q I rx hs pl pu h
 | str z=>
  obtain ⟨hz,q⟩:=(show z.length≤sizeLine∧Q (.str (Txt.slice z lo hi)) H from h)
  obtain ⟨t,rfl⟩:=rx
  have fin:∀ t' k,EP X pins σ Q (.str (Txt.slice z lo hi) t') { s with toks:=k }:=fun t' k=>⟨.str _,H,I.tok k,⟨t',rfl⟩,q⟩
  refine ⟨"str",_,F.slot_str_getitem.lookup,typeIs_str _ _ _,?_⟩
  cases pl with
  | none=>
   cases pu with
   | none=>exact wpAny_getItem_str_slice (l:=none) (u:=none) (st:=none) hs rfl (post_val_or_str ⟨Nat.le_trans (Txt.slice_le z _ _) hz,fin⟩)
   | int j tj=>exact wpAny_getItem_str_slice (l:=none) (u:=some (j,tj)) (st:=none) hs rfl (post_val_or_str ⟨Nat.le_trans (Txt.slice_le z _ _) hz,fin⟩)
  | int i ti=>
   cases pu with
   | none=>exact wpAny_getItem_str_slice (l:=some (i,ti)) (u:=none) (st:=none) hs rfl (post_val_or_str ⟨Nat.le_trans (Txt.slice_le z _ _) hz,fin⟩)
   | int j tj=>exact wpAny_getItem_str_slice (l:=some (i,ti)) (u:=some (j,tj)) (st:=none) hs rfl (post_val_or_str ⟨Nat.le_trans (Txt.slice_le z _ _) hz,fin⟩)
 | _=>exact False.elim h
def Its (x:Str):It:=⟨fun i _=>i < x.cps.size,fun i H v H'=>H'=H∧∃ c,x.cps[i]? =some c∧v=.str ⟨#[c]⟩,fun i _=>x.cps.size≤i⟩
theorem qK {P:Program} {w:World} {K:PySem.W.Frag} {tg:Expr} {x:Str} {t:Tok} (it:Addr) (ty:String) (hty:["enumerate","zip","dict_itemiterator","dict_reverseitemiterator","odict_iterator","itertools.zip_longest","itertools.pairwise"].contains ty=false)
  (W:∀ A:Around,A.handled=none→Walks P w A it [it] [it] x.cps.size (SignAt x) (fun i h=>h.IsStrIter it ty x t i))
  (slf:∀ (A:Around) (i:Nat) (s:Shared) (Q:Value→Shared→Prop) (E:Value→Shared→Prop),s.heap.IsStrIter it ty x t i→Q (.ref it) s→wpAny (model P w) A (pyIter (.ref it)) Q E s):
  Turn P w K tg (Its x) [it] it (fun i h=>i≤x.cps.size∧h.IsStrIter it ty x t i) where
 mem:=by simp
 obj:=fun i h st b hb=>by
  have e:b=it:=by simpa using hb
  subst e
  obtain ⟨_,o,e,c,d⟩:=st
  exact ⟨o,e,fun v z=>by rw [d] at z; cases z⟩
 keep:=fun i h h' st k=>by
  obtain ⟨hi,o,e,c,d⟩:=st
  exact ⟨hi,o,k it (by simp) o e,c,d⟩
 item:=by
  intro X hP hw hK hc i pins s σ H E I hf st hg
  subst hP hw hK
  obtain ⟨f0,f1,f2,f3,f4,f5⟩:=hf it (by simp)
  have hlt:i < x.cps.size:=hg
  refine (W X.A (I.ok.hd hc)).item i s _ _ hlt st.2 fun v h' tk hv st' kk=>?_
  obtain ⟨c,u,hcu,rfl⟩:=hv
  have I1:Inv X pins σ H { s with heap:=h',toks:=tk }:=I.turned (fun b o hb e=>kk b o (by simpa using hb) e) f0 f1 f3 f4 f5
  obtain ⟨o,e,c',d⟩:=id st'
  exact ⟨_,rfl,qc (s:={ s with heap:=h',toks:=tk }) e c' d hty ⟨.str ⟨#[c]⟩,H,I1,⟨u,rfl⟩,⟨rfl,c,hcu,rfl⟩,⟨hlt,st'⟩,fun b hb=>(hf b hb).1⟩⟩
 done:=by
  intro X hP hw hK hc i pins s σ H E I hf st hg
  subst hP hw hK
  obtain ⟨f0,f1,f2,f3,f4,f5⟩:=hf it (by simp)
  have hle:x.cps.size≤i:=hg
  have e:i=x.cps.size:=Nat.le_antisymm st.1 hle
  subst e
  exact (W X.A (I.ok.hd hc)).done s _ _ st.2 fun h' tk kk=>⟨rfl,I.turned (fun b o hb e=>kk b o (by simpa using hb) e) f0 f1 f3 f4 f5⟩
 self:=fun A i s Q E st h=>slf A i s Q E st.2 h
def iStr (tl:TE):TI:=fun σ H R=>tl σ H fun x H1=>∃ z,x=.str z∧R (Its z) H1
theorem xo {tg l:Expr} {tl:TE} (hl:PE X l tl):PI X tg l (iStr tl):=by
 intro pins s σ H R I h
 refine thn (hl pins s σ H _ I h) fun v s1 ⟨x,H1,I1,r1,q1⟩=>?_
 obtain ⟨z,rfl,q⟩:=q1
 obtain ⟨t,rfl⟩:=r1
 have fin:∀ b∈[s1.heap.objs.size],FpOk X pins H1 b:=fun b hb=>by
  have e:b=s1.heap.objs.size:=by simpa using hb
  subst e
  exact I1.fpOk (Nat.le_refl _) (I1.hok.fresh (Nat.le_refl _))
 cases ha:z.cps.all (· < 128)
 · refine wpAny_pyIter_wide ha ⟨s1.heap.objs.size,[s1.heap.objs.size],_,Its z,H1,rfl,I1.kept (t':=s1.toks) fun b o e=>Heap.get?_push_of_some _ e,qK (t:=t) _ "str_iterator" (by decide) (fun A' hA=>Walks.strWide hA _ z t) (fun A i s Q E st hq=>wpAny_pyIter_striter_wide st hq),⟨Nat.zero_le _,_,Heap.get?_push_size _ rfl,rfl,rfl⟩,fin,q⟩
 · refine wpAny_pyIter_ascii ha ⟨s1.heap.objs.size,[s1.heap.objs.size],_,Its z,H1,rfl,I1.kept (t':=s1.toks) fun b o e=>Heap.get?_push_of_some _ e,qK (t:=t) _ "str_ascii_iterator" (by decide) (fun A' hA=>Walks.strAscii hA _ z t) (fun A i s Q E st hq=>wpAny_pyIter_striter_ascii st hq),⟨Nat.zero_le _,_,Heap.get?_push_size _ rfl,rfl,rfl⟩,fin,q⟩
end
section
variable {K:PySem.W.Frag} {g:TG} {tb:TS} {D:Ends} {σ:St} {H:Hp} {tl:TE} {ix:List (Option Nat)} {tt:TT} {te ta:TE} {k:Nat} {Q:VK}
theorem l3 {r:V→Option Int→Option Int→Hp→VK→Prop} {a b:TO}:tSl r te a b σ H Q=te σ H fun x H1=>a σ H1 fun l H2=>b σ H2 fun u H3=>r x l u H3 Q:=rfl
theorem iB {R:Option Int→Hp→Prop}:tPart te σ H R=te σ H fun x H1=>∃ i,x=.int i∧R (some i) H1:=rfl
theorem fA {R:Option Int→Hp→Prop}:bE σ H R=R none H:=rfl
theorem iC {to ti:TE} {t:TSet} {v:V} {R:St→Hp→Prop}:gSub to ti t v σ H R=to σ H fun o H1=>ti σ H1 fun i H2=>t o i v H2 fun H3=>R σ H3:=rfl
theorem l4 {r:V→Hp→VK→Prop}:tUn r te σ H Q=te σ H fun x H1=>r x H1 Q:=rfl
theorem iD:tFor (iStr tl) g tb D σ H=tl σ H fun x H1=>∃ z,x=.str z∧LoopR (Its z) g tb D σ H1:=rfl
theorem gt:tComp ix (iStr tl) g tt te σ H Q=tl σ H fun x H1=>∃ z,x=.str z∧CompR (Its z) g tt te (fun l H'=>Q (.ref l) H') (subσ ix σ) H1:=rfl
theorem fB:sComp k ix (iStr tl) g tt te D σ H=tl σ H fun x H1=>∃ z,x=.str z∧CompR (Its z) g tt te (fun l H'=>D.nx (σ.set k (some (.ref l))) H') (subσ ix σ) H1:=rfl
theorem tK {x:Str}:tyV K "str" (.str x) H:=rfl
theorem jZ {i j:Str}:cEq K (.str i) (.str j) H Q=Q (.bl (decide (i=j))) H:=rfl
theorem j2 {i j:Str}:cNe K (.str i) (.str j) H Q=Q (.bl (!decide (i=j))) H:=rfl
theorem iE {z:Str}:kLen [.str z] H Q=(z.length≤sizeLine∧Q (.int z.length) H):=rfl
theorem gU {i j:Str}:cAdd (.str i) (.str j) H Q=(i.length+j.length≤sizeLine∧Q (.str (i++j)) H):=rfl
theorem xW {z:Str} {i:Int}:cIx (.str z) (.int i) H Q=(z.length≤sizeLine∧bnd (atI z.cps.toList i) fun c=>Q (.str ⟨#[c]⟩) H):=rfl
theorem iF {x y:Str}:kFind (.str x) [.str y] H Q=Q (.int (Txt.find x y)) H:=rfl
theorem wt {x y:Str}:mT (.str x) [.str y] H Q=((y.length==0)=false∧x.length≤sizeLine∧(Txt.split x y).length≤sizeLine∧∀ l,H l=none→Q (.ref l) (upd H l (.lst ((Txt.split x y).map V.str)))):=rfl
theorem i0 {p:Addr} {lo hi:Option Int} {xs:List V} (hp:H p=some (.lst xs)) (h:∀ l,H l=none→Q (.ref l) (upd H l (.lst (cutV xs lo hi)))):dQ (.ref p) lo hi H Q:=by
 show bnd (unL (H p)) _
 rw [hp]
 exact h
end
end L2
namespace L2
open PySem PySem.Spec PyProof.Rows
def cBitI (g:Int→Int→Int):R2
 | .int i,.int j,H,Q=>Q (.int (g i j)) H
 | _,_,_,_=>False
def cShr:R2
 | .int i,.int j,H,Q=>0≤j∧Q (.int (i / 2^j.toNat)) H
 | _,_,_,_=>False
section
variable {H:Hp} {Q:VK} {i j:Int}
theorem mU {g:Int→Int→Int}:cBitI g (.int i) (.int j) H Q=Q (.int (g i j)) H:=rfl
theorem qf:cShr (.int i) (.int j) H Q=(0≤j∧Q (.int (i / 2^j.toNat)) H):=rfl
end
end L2
namespace L2
open PySem PySem.Spec PyProof.Rows
section
variable {X:Cx}
def kInt:List V→Hp→VK→Prop
 | [.int i],H,Q=>Q (.int i) H
 | [.bl k],H,Q=>Q (.int (if k then 1 else 0)) H
 | _,_,_=>False
def wu:V→List V→Hp→VK→Prop
 | .int i,[],H,Q=>Q (.int (Builtin.Int.intBits i:Nat)) H
 | _,_,_,_=>False
def cRepL:R2
 | .ref l,.int k,H,Q=>bnd (unM (H l)) fun xs=> -(2^63)≤k∧k < 2^63∧xs.length*k.toNat≤sizeLine∧∀ p,H p=none→Q (.ref p) (upd H p (.lst (List.replicate k.toNat xs).flatten))
 | _,_,_,_=>False
theorem vC:OpR X (binaryOp .Mult) cRepL:=by
 intro pins s σ H x y v u Q I rx ry h
 unfold cRepL at h
 split at h
 · obtain ⟨xs,e,h1,h2,h3,q⟩:=aS h
   exact xb pins s σ H _ _ v u Q I rx ry ⟨_,_,xs,rfl,rfl,eQ e,h1,h2,h3,q⟩
 · exact h.elim
def kAll:List V→Hp→VK→Prop
 | [.ref p],H,Q=>bnd (unL (H p)) fun ys=>∃ bs:List Bool,ys=bs.map V.bl∧Q (.bl (bs.all id)) H
 | _,_,_=>False
theorem uI (bs:List Bool):(List.range bs.length).all (fun i=>bs.getD i false)=bs.all id:=by
 rw [Bool.eq_iff_iff,List.all_eq_true,List.all_eq_true]
 constructor
 · intro h b hb
   obtain ⟨i,hi,e⟩:=List.mem_iff_getElem.mp hb
   have:=h i (List.mem_range.mpr hi)
   rw [List.getD,List.getElem?_eq_getElem hi,e] at this
   exact this
 · intro h i hi
   have hi':i < bs.length:=List.mem_range.mp hi
   have:=h bs[i] (List.getElem_mem hi')
   simpa [List.getD,hi'] using this
theorem iG:bootBuiltins "all"=some (.builtin "all"):=by decide+kernel
theorem uJ:bootBuiltins "sum"=some (.builtin "sum"):=by decide+kernel
theorem dR (hc:X.calm=true):CallR X (.builtin "all") kAll:=by
 intro pins s σ H xs us Q I r h
 unfold kAll at h
 split at h
 · rename_i p
   obtain ⟨ys,e,bs,rfl,q⟩:=aS h
   obtain ⟨u,rfl,ru⟩:=cD r
   cases ru
   obtain ⟨its,rv,pl,hz⟩:=I.list (kI e)
   have hl:=rv.length
   rw [List.length_map] at hl
   have hlt:p < s.heap.objs.size:=by
    obtain ⟨o,h1,_⟩:=pl.isList
    exact Heap.lt_size h1
   refine call_all_walkS (wpAny_pyIter_list pl.isList ?_)
   refine ⟨s.heap.objs.size,_,_,_,its.toArray.size,_,_,fun i=>bs.getD i false,rfl,(Walks.list (A:=X.A.in1) (I.ok.hd hc) s.heap.objs.size p (Nat.ne_of_lt hlt) its.toArray).toS,⟨⟨_,Heap.get?_push_size _ rfl,rfl,rfl⟩,pl.isList.push _⟩,?_,fun s' hm=>?_⟩
   · intro i v s1 Q1 E1 hP hQ
     have hv:its[i]? =some v:=by simpa using hP
     obtain ⟨x,hx,rx⟩:=rv.get' hv
     obtain ⟨b,hb,rfl⟩:∃ b,bs[i]? =some b∧V.bl b=x:=by simpa using hx
     cases rx
     refine wpAny_truthy_bool ?_
     have e3:bs.getD i false=b:=by simp [List.getD,hb]
     rw [← e3]
     exact hQ
   · refine ⟨.bl _,H,I.walked (l:=p) hm,?_,q⟩
     have e2:its.toArray.size=bs.length:=by rw [List.size_toArray]; exact hl.symm
     rw [e2,uI]
     rfl
 · exact h.elim
def kSum:List V→Hp→VK→Prop
 | [.ref p],H,Q=>bnd (unL (H p)) fun ys=>∃ ns:List Int,ys=ns.map V.int∧(∀ x∈ns,0≤x∧x≤1000000)∧ns.length≤1000000∧Q (.int ns.sum) H
 | _,_,_=>False
theorem uK:∀ (ns:List Int),(∀ x∈ns,0≤x∧x≤1000000)→0≤ns.sum∧ns.sum≤1000000*ns.length
 | [],_=>by simp
 | n::r,h=>by
  have ih:=uK r fun x hx=>h x (List.mem_cons_of_mem _ hx)
  have h1:=h n List.mem_cons_self
  rw [List.sum_cons,List.length_cons]
  omega
theorem o9 (hc:X.calm=true):CallR X (.builtin "sum") kSum:=by
 intro pins s σ H xs us Q I r h
 unfold kSum at h
 split at h
 · rename_i p
   obtain ⟨ys,e,ns,rfl,hb,hn,q⟩:=aS h
   obtain ⟨u,rfl,ru⟩:=cD r
   cases ru
   obtain ⟨its,rv,pl,hz⟩:=I.list (kI e)
   have hl:=rv.length
   rw [List.length_map] at hl
   have hlt:p < s.heap.objs.size:=by
    obtain ⟨o,h1,_⟩:=pl.isList
    exact Heap.lt_size h1
   have e2:its.toArray.size=ns.length:=by rw [List.size_toArray]; exact hl.symm
   refine call_sum_walkS (wpAny_pyIter_list pl.isList ?_)
   refine ⟨s.heap.objs.size,_,_,_,its.toArray.size,_,_,fun i=>ns.getD i 0,rfl,(Walks.list (A:=X.A.in1) (I.ok.hd hc) s.heap.objs.size p (Nat.ne_of_lt hlt) its.toArray).toS,⟨⟨_,Heap.get?_push_size _ rfl,rfl,rfl⟩,pl.isList.push _⟩,?_,?_,?_,fun s' t' hm=>?_⟩
   · intro b hb'
     show b < (s.heap.push _).objs.size
     rw [Heap.size_push]
     simp only [List.mem_cons,List.not_mem_nil,or_false] at hb'
     rcases hb' with rfl | rfl
     · exact Nat.lt_succ_self _
     · exact Nat.lt_succ_of_lt hlt
   · intro i v hP
     have hv:its[i]? =some v:=by simpa using hP
     obtain ⟨x,hx,rx⟩:=rv.get' hv
     obtain ⟨b,hb',rfl⟩:∃ b,ns[i]? =some b∧V.int b=x:=by simpa using hx
     obtain ⟨t,rfl⟩:=rx
     exact ⟨t,by simp [List.getD,hb']⟩
   · intro j hj
     rw [e2] at hj
     refine ⟨?_,?_⟩
     · have:=hb ns[j] (List.getElem_mem hj)
       have e3:ns.getD j 0=ns[j]:=by simp [List.getD,hj]
       show InLong (ns.getD j 0)
       rw [e3]
       exact ⟨by omega,by omega⟩
     · rw [preSum_getD]
       have h1:=uK (ns.take (j+1)) fun x hx=>hb x (List.mem_of_mem_take hx)
       have h2:(ns.take (j+1)).length≤ns.length:=by rw [List.length_take]; omega
       exact ⟨by omega,by omega⟩
   · refine ⟨.int ns.sum,H,I.walked (l:=p) hm,⟨t',?_⟩,q⟩
     rw [e2,preSum_getD,List.take_length]
 · exact h.elim
def Itd (hi:Int) (n:Nat):It:=⟨fun i _=>i < n,fun i H x H'=>H'=H∧x=.int (hi - i),fun i _=>n≤i⟩
def iRngD (ta:TA):TI:=fun σ H R=>ta σ H fun vs H1=>∃ i j:Int,vs=[.int i,.int j,.int (-1)]∧(-(2^60)≤i∧i < 2^60∧ -(2^60)≤j∧j < 2^60)∧R (Itd i (i - j).toNat) H1
end
section
variable {K:PySem.W.Frag} {g:TG} {tb:TS} {D:Ends} {σ:St} {H:Hp} {ta:TA} {Q:VK}
theorem mV {k:Bool}:kInt [.bl k] H Q=Q (.int (if k then 1 else 0)) H:=rfl
theorem mW {i:Int}:kInt [.int i] H Q=Q (.int i) H:=rfl
theorem j3 {i:Int}:wu (.int i) [] H Q=Q (.int (Builtin.Int.intBits i:Nat)) H:=rfl
theorem j4 {p:Addr} {bs:List Bool} (hp:H p=some (.lst (bs.map V.bl))) (h:Q (.bl (bs.all id)) H):kAll [.ref p] H Q:=by
 show bnd (unL (H p)) _
 rw [hp]
 exact aQ (a:=bs.map V.bl) rfl ⟨bs,rfl,h⟩
theorem vX {p:Addr} {ns:List Int} (hp:H p=some (.lst (ns.map V.int))) (hb:∀ x∈ns,0≤x∧x≤1000000) (hn:ns.length≤1000000) (h:Q (.int ns.sum) H):kSum [.ref p] H Q:=by
 show bnd (unL (H p)) _
 rw [hp]
 exact aQ (a:=ns.map V.int) rfl ⟨ns,rfl,hb,hn,h⟩
theorem xp {p:Addr} {xs:List V} {k:Int} (hp:H p=some (.lst xs)) (h0:0≤k) (h1:k≤1000) (hn:xs.length≤1) (h:∀ l,H l=none→Q (.ref l) (upd H l (.lst (List.replicate k.toNat xs).flatten))):cRepL (.ref p) (.int k) H Q:=by
 show bnd (unM (H p)) _
 rw [hp]
 refine aQ (a:=xs) rfl ⟨by omega,by omega,?_,h⟩
 refine Nat.le_of_lt (aE (Nat.le_trans (Nat.mul_le_mul_right _ hn) ?_))
 omega
theorem lu:tFor (iRngD ta) g tb D σ H=ta σ H fun vs H1=>∃ i j:Int,vs=[.int i,.int j,.int (-1)]∧(-(2^60)≤i∧i < 2^60∧ -(2^60)≤j∧j < 2^60)∧LoopR (Itd i (i - j).toNat) g tb D σ H1:=rfl
end
end L2
namespace L2
open PySem PySem.Spec PyProof.Rows
section
variable {X:Cx}
def Ite (K:PySem.W.Frag) (a:Addr):It:=
 ⟨fun i H=>∃ xs x,SqL K H a xs∧xs[i]? =some x,
  fun i H v H'=>∃ T x,v=.ref T∧H T=none∧H'=upd H T (.tup [.int i,x])∧∀ xs,SqL K H a xs→xs[i]? =some x,
  fun i H=>∃ xs,SqL K H a xs∧xs.length≤i⟩
def ESt (a e it:Addr) (i:Nat) (h:Heap):Prop:=(∃ old,IsEnum h e it i old)∧h.IsListIter it a i
theorem uL {P:Program} {w:World} {K:PySem.W.Frag} {es:List Expr} {x1:Nat} {pos:Pos} (a e it:Addr):
  Turn P w K (.Tuple es x1 pos) (Ite K a) [e,it] e (ESt a e it) where
 mem:=by simp
 obj:=fun i h st c hc=>by
  obtain ⟨⟨old,he⟩,⟨o1,e1,c1,f1⟩⟩:=st
  simp only [List.mem_cons,List.not_mem_nil,or_false] at hc
  rcases hc with rfl | rfl
  · exact ⟨_,he,fun v z=>by have z':Data.fields _=Data.cell v:=z; cases z'⟩
  · exact ⟨_,e1,fun v z=>by rw [f1] at z; cases z⟩
 keep:=fun i h h' st k=>by
  obtain ⟨⟨old,he⟩,h1⟩:=st
  exact ⟨⟨old,k e (by simp) _ he⟩,h1.at fun o q=>k it (by simp) o q⟩
 item:=by
  intro X hP hw hK hc i pins s σ H E I hf st hg
  subst hP hw hK
  obtain ⟨xs,x,hq1,hx⟩:=hg
  obtain ⟨its1,rv1,p1,hz1⟩:=I.list hq1
  obtain ⟨u1,hu1,ru1⟩:=rv1.get hx
  obtain ⟨⟨old,he⟩,⟨o1,e1,c1,f1⟩⟩:=id st
  have hne:e≠it:=aJ he e1 rfl c1 (by decide)
  refine wpAny_pyNext_enum_item he ⟨o1,e1,c1,f1⟩ p1.isList (x:=u1) (by simpa using hu1) hne fun h' a1 a2 a3 a4 hk=>?_
  refine ⟨_,rfl,wpAny_letOwnedTupleGo_enum a1 fun h2 hz2 sb=>?_⟩
  have hT:H s.heap.objs.size=none:=I.fresh
  have lt:∀ {c o},s.heap.get? c=some o→c≠s.heap.objs.size:=fun e=>Nat.ne_of_lt (Heap.lt_size e)
  have kp:∀ c o,c∉[e,it]→s.heap.get? c=some o→h2.get? c=some o:=fun c o hc q=>by
   simp only [List.mem_cons,List.not_mem_nil,or_false,not_or] at hc
   exact sb.extBut _ _ hc.1 (hk c o hc.1 hc.2 q)
  have hTe:s.heap.objs.size≠e:=(lt he).symm
  have gT:h2.get? s.heap.objs.size=some { cls:=.type "tuple",data:=.seq #[.int i s.toks,u1] }:=sb.extBut _ _ hTe a3
  have nH:∀ c∈[e,it],H c=none:=fun c hc=>(hf c hc).1
  refine ⟨.ref s.heap.objs.size,upd H s.heap.objs.size (.tup [.int i,x]),I.call' (s':={ s with heap:=h2,toks:=s.toks+1 }) (ch:=[e,it]) rfl ⟨fun c o e n _ hx=>kp c o hx e,fun c o e n _ hx=>⟨o.slots,kp c o hx e⟩,fun c o e n _=>by rw [ah (lt e)]; exact n,fun c o e hx=>⟨o,kp c o hx e⟩,fun c xs e=>by rw [ah (ar e hT)]; exact e,fun c o u e=>by rw [ah (ar e hT)]; exact e,fun c ps e=>⟨#[],by rw [ah (ar e hT),e]; simp⟩⟩ ?_ I.bare ?_,rfl,⟨_,x,rfl,hT,rfl,fun zs hz'=>by rw [I.list_inj hz' hq1]; exact hx⟩,?_,?_⟩
  · intro c ob e
    by_cases hb:c=s.heap.objs.size
    · subst hb
      rw [ae] at e
      cases e
      exact ⟨by show (2:Nat)≤sizeLine; exact Nat.le_of_lt (aE (by decide)),[.int i s.toks,u1],.cons ⟨_,rfl⟩ (.cons ru1 .nil),⟨_,gT,rfl,_,rfl⟩⟩
    · rw [ah hb] at e
      refine (I.hok c ob e).stay (fun d w' hd g=>kp d w' ?_ g) (fun d g=>by rw [ah (ar g hT)]; exact g) fun d xs g=>by rw [ah (ar g hT)]; exact g
      intro hm
      rcases hd with rfl | hd
      · rw [nH _ hm] at e; cases e
      · rw [nH _ hm] at hd; cases hd
  · intro c hc
    obtain ⟨f0,f1,f2,f3,f4,f5⟩:=hf c hc
    exact ⟨f3,f1,f4,f5⟩
  · exact ⟨⟨_,hz2⟩,a2.extBut sb.extBut hne.symm⟩
  · intro c hc
    obtain ⟨o,q⟩:∃ o,s.heap.get? c=some o:=by
     simp only [List.mem_cons,List.not_mem_nil,or_false] at hc
     rcases hc with rfl | rfl
     · exact ⟨_,he⟩
     · exact ⟨_,e1⟩
    rw [ah (lt q)]
    exact (hf c hc).1
 done:=by
  intro X hP hw hK hc i pins s σ H E I hf st hg
  subst hP hw hK
  obtain ⟨xs,hq1,hx⟩:=hg
  obtain ⟨its1,rv1,p1,hz1⟩:=I.list hq1
  have hl1:=rv1.length
  obtain ⟨⟨old,he⟩,⟨o1,e1,c1,f1⟩⟩:=id st
  have hend:its1.toArray[i]? =none:=by simp; omega
  obtain ⟨f0,f1',f2,f3,f4,f5⟩:=hf it (by simp)
  exact wpAny_pyNext_enum_end (I.ok.hd hc) he ⟨o1,e1,c1,f1⟩ p1.isList hend fun h' eb=>⟨rfl,I.turned (t':=s.toks) (fun b o hb e=>eb b o hb e) f0 f1' f3 f4 f5⟩
 self:=fun _ _ _ _ _ st h=>by
  obtain ⟨⟨old,he⟩,_⟩:=st
  exact wpAny_pyIter_enum he h
def iEnum (K:PySem.W.Frag) (ta:TA):TI:=fun σ H R=>ta σ H fun vs H1=>∃ a,vs=[.ref a]∧(∃ xs,SqL K H1 a xs)∧R (Ite K a) H1
theorem qL:bootBuiltins "enumerate"=some (.type "enumerate"):=by decide+kernel
theorem wv {es:List Expr} {x1:Nat} {tpos:Pos} {e1:Expr} {ta:TA} {p pos:Pos} (hg:Gl X "enumerate") (hm:X.mg "enumerate"=none) (ha:PA X [e1] ta) (hs:starEach [e1] X.env=[(false,eval e1 X.env)]:=by rfl):
  PI X (.Tuple es x1 tpos) (.Call (.Name "enumerate" p) [e1] [] pos) (iEnum X.K ta):=by
 intro pins s σ H R I h
 refine Call_ (cK I hg hm qL (PyProof.Rows.callWith_type1 (thn (ha pos pins s σ H _ I h) fun us s1 ⟨vs,H1,I1,r1,q1⟩=>?_) hs rfl))
 obtain ⟨a,rfl,⟨xs,hq1⟩,q⟩:=q1
 obtain ⟨u1,rfl,ru1⟩:=cD r1
 cases ru1
 obtain ⟨its1,rv1,p1,hz1⟩:=I1.list hq1
 refine call_enumerate_list p1.isList fun h' a1 a2 a3 hk=>?_
 refine wpAny_pyIter_enum a1 ?_
 have I2:Inv X pins σ H1 { s1 with heap:=h',toks:=s1.toks }:=I1.kept hk
 refine ⟨s1.heap.objs.size+1,[s1.heap.objs.size+1,s1.heap.objs.size],ESt a (s1.heap.objs.size+1) s1.heap.objs.size,Ite X.K a,H1,rfl,I2,uL a (s1.heap.objs.size+1) s1.heap.objs.size,⟨⟨_,a1⟩,a2⟩,fun c hc=>?_,q⟩
 have hge:s1.heap.objs.size≤c:=by
  simp only [List.mem_cons,List.not_mem_nil,or_false] at hc
  rcases hc with rfl | rfl <;> omega
 exact I1.fpOk hge (I1.hok.fresh hge)
end
section
variable {K:PySem.W.Frag} {g:TG} {tb:TS} {D:Ends} {σ:St} {H:Hp} {ta:TA} {Q:VK} {ix:List (Option Nat)} {tt:TT} {te:TE} {k:Nat}
theorem mX:tFor (iEnum K ta) g tb D σ H=ta σ H fun vs H1=>∃ a,vs=[.ref a]∧(∃ xs,SqL K H1 a xs)∧LoopR (Ite K a) g tb D σ H1:=rfl
theorem lw:tComp ix (iEnum K ta) g tt te σ H Q=ta σ H fun vs H1=>∃ a,vs=[.ref a]∧(∃ xs,SqL K H1 a xs)∧CompR (Ite K a) g tt te (fun l H'=>Q (.ref l) H') (subσ ix σ) H1:=rfl
theorem j5:sComp k ix (iEnum K ta) g tt te D σ H=ta σ H fun vs H1=>∃ a,vs=[.ref a]∧(∃ xs,SqL K H1 a xs)∧CompR (Ite K a) g tt te (fun l H'=>D.nx (σ.set k (some (.ref l))) H') (subσ ix σ) H1:=rfl
theorem uM {a:Addr} {xs:List V} {fin:Addr→Hp→Prop} {σ0:St} {H1:Hp} (Pv:Addr→Nat→St→Hp→Prop) (h0:∀ l,H1 l=none→Pv l 0 σ0 (upd H1 l (.lst []))) (hq:∀ l i σ H,H1 l=none→i≤xs.length→Pv l i σ H→SqL K H a xs)
  (hs:∀ l i x T σ H,H1 l=none→xs[i]? =some x→Pv l i σ H→H T=none→g (.ref T) σ (upd H T (.tup [.int i,x])) fun σ2 H3=>tt σ2 H3 fun b H4=>if b=true then te σ2 H4 fun y H5=>∃ ys,H5 l=some (.lst ys)∧ys.length < sizeLine∧Pv l (i+1) σ2 (upd H5 l (.lst (ys++[y]))) else Pv l (i+1) σ2 H4)
  (hd:∀ l σ H,H1 l=none→Pv l xs.length σ H→fin l H):CompR (Ite K a) g tt te fin σ0 H1:=by
 intro l hl0
 refine ⟨fun i m σ H=>m=xs.length - i∧i≤xs.length∧Pv l i σ H,⟨xs.length,by simp,Nat.zero_le _,h0 l hl0⟩,?_⟩
 rintro i m σ H ⟨rfl,hi,p⟩
 have q:=hq l i σ H hl0 hi p
 by_cases hlt:i < xs.length
 · refine .inr ⟨⟨xs,xs[i],q,by simp [hlt]⟩,Pv l (i+1),fun σ' H' p'=>⟨xs.length - (i+1),by omega,rfl,hlt,p'⟩,fun v H' y=>?_⟩
   obtain ⟨T,x,rfl,hT,rfl,e⟩:=y
   exact hs l i x T σ _ hl0 (e xs q) p hT
 · have e:i=xs.length:=by omega
   subst e
   exact .inl ⟨⟨xs,q,Nat.le_refl _⟩,hd l σ H hl0 p⟩
theorem tL {a:Addr} {xs:List V} {fin:Addr→Hp→Prop} {σ0:St} {H1:Hp} {k1 k2:Nat} (b:Nat→Bool) (f:Nat→V) (hn:xs.length≤900) (hne:k1≠k2) (hq:SqL K H1 a xs)
  (ht:∀ (i:Nat) x H R,xs[i]? =some x→Same H1 H→(∀ H',Same H H'→R (b i) H')→tt ((σ0.set k1 (some (.int (i:Int)))).set k2 (some x)) H R)
  (he:∀ (i:Nat) x H Q,xs[i]? =some x→b i=true→Same H1 H→(∀ H',Same H H'→Q (f i) H')→te ((σ0.set k1 (some (.int (i:Int)))).set k2 (some x)) H Q)
  (hd:∀ l H,H1 l=none→Same H1 H→H l=some (.lst (((List.range xs.length).filter b).map f))→fin l H):
  CompR (Ite K a) (gTup K 2 (gCons (gName k1) (gCons (gName k2) gNil))) tt te fin σ0 H1:=by
 refine uM (xs:=xs) (fun l i σ H=>(σ=σ0∨∃ c1 c2,σ=(σ0.set k1 c1).set k2 c2)∧Same H1 H∧H l=some (.lst (((List.range i).filter b).map f))) (fun l hl=>⟨.inl rfl,fun b u e=>by rw [ah (ar e hl)]; exact e,by rw [ae]; rfl⟩) (fun l i σ H _ _ p=>p.2.1.seq hq) ?_ (fun l σ H hl p=>hd l H hl p.2.1 p.2.2)
 rintro l i x T σ H hl hx ⟨hσ,s1,el⟩ hT
 have hi:i < xs.length:=(List.getElem?_eq_some_iff.mp hx).1
 have sT:Same H (upd H T (.tup [.int i,x])):=fun b u e=>by rw [ah (ar e hT)]; exact e
 refine ⟨T,_,rfl,SqT.of ae,rfl,_,_,rfl,_,_,rfl,rfl,?_⟩
 have e:(σ.set k1 (some (.int i))).set k2 (some x)=(σ0.set k1 (some (.int i))).set k2 (some x):=by
  rcases hσ with rfl | ⟨c1,c2,rfl⟩
  · rfl
  · rw [List.set_comm _ _ (Ne.symm hne),List.set_set,List.set_set,List.set_comm _ _ hne]
 show tt ((σ.set k1 (some (.int i))).set k2 (some x)) _ _
 rw [e]
 refine ht i x _ _ hx (s1.trans sT) fun H2 s2=>?_
 have el2:=s2 _ _ (sT _ _ el)
 have s12:=(s1.trans sT).trans s2
 have own:∀ {H3:Hp} {o:HO},Same H1 H3→Same H1 (upd H3 l o):=fun s b u e=>by rw [ah (ar e hl)]; exact s b u e
 have hlen:∀ i,i≤900→(((List.range i).filter b).map f).length < sizeLine:=fun i hi=>by
  rw [List.length_map]
  refine aE (Nat.le_trans (List.length_filter_le b _) ?_)
  rw [List.length_range]
  omega
 cases hb:b i with
 | false=>
  rw [if_neg Bool.false_ne_true]
  refine ⟨.inr ⟨_,_,rfl⟩,s12,?_⟩
  rw [List.range_succ,List.filter_append,List.filter_cons,hb]
  simpa using el2
 | true=>
  rw [if_pos rfl]
  refine he i x H2 _ hx hb s12 fun H3 s3=>⟨_,s3 _ _ el2,hlen i (by omega),.inr ⟨_,_,rfl⟩,own (s12.trans s3),?_⟩
  rw [ae,List.range_succ,List.filter_append,List.filter_cons,hb]
  simp
end
end L2
namespace L2
open PySem PySem.Spec PyProof.Rows
end L2
namespace L2
open PySem PySem.Spec PyProof.Rows
end L2
namespace L2
open PySem PySem.Spec PyProof.Rows
def rngL (i j:Int):List Int:=(List.range (j - i).toNat).map fun (k:Nat)=>i+(k:Int)
theorem fC (i j:Int):(rngL i j).length=(j - i).toNat:=by unfold rngL; simp
theorem lP:∀ {xs:List V} {us:List Value},xs.length=us.length→(∀ (i:Nat) x u,xs[i]? =some x→us[i]? =some u→RelV x u)→Vals xs us
 | [],[],_,_=>.nil
 | [],_::_,h,_=>by simp at h
 | _::_,[],h,_=>by simp at h
 | x::xs,u::us,h,f=>.cons (f 0 x u rfl rfl) (lP (by simpa using h) fun i y e h1 h2=>f (i+1) y e (by simpa using h1) (by simpa using h2))
theorem vD {i j:Int} {acc:Array Value} (h:ItemsOf (fun k v=>∃ t,v=.int (i+k*1) t) acc (j - i).toNat):Vals ((rngL i j).map V.int) acc.toList:=by
 refine lP (by rw [List.length_map,fC,Array.length_toList]; exact h.1.symm) fun k x u hx hu=>?_
 obtain ⟨t,rfl⟩:=h.2 k u (by simpa using hu)
 unfold rngL at hx
 rw [List.map_map,List.getElem?_map] at hx
 by_cases hk:k < (j - i).toNat
 · rw [List.getElem?_range hk] at hx
   cases hx
   exact ⟨t,by rw [Int.mul_one]⟩
 · rw [List.getElem?_eq_none (by simpa using hk)] at hx
   cases hx
section
variable {X:Cx}
def i3 (ta:TA):TE:=fun σ H Q=>ta σ H fun vs H1=>∃ j:Int,vs=[.int j]∧ -(2^60)≤j∧j≤1000∧∀ l,H1 l=none→Q (.ref l) (upd H1 l (.lst ((rngL 0 j).map V.int)))
def i4 (ta:TA):TE:=fun σ H Q=>ta σ H fun vs H1=>∃ i j:Int,vs=[.int i,.int j]∧(0≤i∧i≤1000∧ -(2^60)≤j∧j≤1000)∧∀ l,H1 l=none→Q (.ref l) (upd H1 l (.lst ((rngL i j).map V.int)))
theorem qM {pins:List (Addr × Obj)} {σ:St} {H1:Hp} {s1:Shared} {Q:VK} {i j:Int} {t u v:Tok} {tk:Nat} {A:Around} {E:Value→Shared→Prop} (hh:A.handled=none) (I1:Inv X pins σ H1 s1) (h1:0≤i) (h2:i≤1000) (h3: -(2^60)≤j) (h4:j≤1000)
  (q:∀ l,H1 l=none→Q (.ref l) (upd H1 l (.lst ((rngL i j).map V.int)))):
  wpAny (model X.prog X.w) A (call (.type "list") [.ref s1.heap.objs.size]) (EP X pins σ Q) E { s1 with heap:=s1.heap.push { cls:=.type "range",data:=.fields #[.int i t,.int j u,.int 1 v] },toks:=tk }:=by
 have I2:Inv X pins σ H1 { s1 with heap:=s1.heap.push { cls:=.type "range",data:=.fields #[.int i t,.int j u,.int 1 v] },toks:=tk }:=I1.kept fun b o e=>Heap.get?_push_of_some _ e
 refine call_list_range (n:=(j - i).toNat) hh (IsRange.new ..) (small_one (by omega) (by omega) (by omega) (by omega)) (by rw [rangeSize_one]; split <;> omega) (by omega) fun h' tk' acc' c' old hS' hacc=>?_
 have hlen:((rngL i j).map V.int).length≤sizeLine:=by rw [List.length_map,fC]; exact Nat.le_of_lt (aE (by omega))
 exact ⟨.ref _,_,I2.laid (t':=tk') (o:=.lst ((rngL i j).map V.int)) old (Nat.le_refl _) ⟨hlen,acc'.toList,c',vD hacc,hS'⟩,rfl,q _ (I2.hok.fresh (Nat.le_refl _))⟩
theorem lQ {a:Expr} {ta:TA} {p p2 pos pos2:Pos} (hc:X.calm=true) (hgl:Gl X "list") (hgr:Gl X "range") (hl:X.mg "list"=none) (hr:X.mg "range"=none) (ha:PA X [a] ta)
  (hs1:starEach [.Call (.Name "range" p2) [a] [] pos2] X.env=[(false,eval (.Call (.Name "range" p2) [a] [] pos2) X.env)]:=by rfl) (hs:starEach [a] X.env=[(false,eval a X.env)]:=by rfl):
  PE X (.Call (.Name "list" p) [.Call (.Name "range" p2) [a] [] pos2] [] pos) (i3 ta):=by
 intro pins s σ H Q I h
 refine wpAny_Call_Name_kw (cK I hgl hl di ?_ (by decide) (by decide))
 refine PyProof.Rows.callWith_type1 ?_ hs1 rfl
 rw [hs1]
 show wpAny _ _ (spliced [(false,eval (.Call (.Name "range" p2) [a] [] pos2) X.env)]) _ _ s
 refine Calls.spliced_cons ?_
 refine Call_ (cK I hgr hr boot_range (PyProof.Rows.callWith_type1 (thn (ha pos2 pins s σ H _ I h) fun us s1 ⟨vs,H1,I1,r1,q1⟩=>?_) hs rfl))
 obtain ⟨j,e,q1,q2,q⟩:=q1
 subst e
 cases r1 with
 | cons r rr=>
  cases rr
  obtain ⟨t,rfl⟩:=r
  refine call_range_1 ?_
  refine Calls.spliced_nil ?_
  exact qM (I.ok.hd hc) I1 (by omega) (by omega) q1 q2 q
theorem lR {a b:Expr} {ta:TA} {p p2 pos pos2:Pos} (hc:X.calm=true) (hgl:Gl X "list") (hgr:Gl X "range") (hl:X.mg "list"=none) (hr:X.mg "range"=none) (ha:PA X [a,b] ta)
  (hs1:starEach [.Call (.Name "range" p2) [a,b] [] pos2] X.env=[(false,eval (.Call (.Name "range" p2) [a,b] [] pos2) X.env)]:=by rfl) (hs:starEach [a,b] X.env=[(false,eval a X.env),(false,eval b X.env)]:=by rfl) (hs2:starEach [b] X.env=[(false,eval b X.env)]:=by rfl):
  PE X (.Call (.Name "list" p) [.Call (.Name "range" p2) [a,b] [] pos2] [] pos) (i4 ta):=by
 intro pins s σ H Q I h
 refine wpAny_Call_Name_kw (cK I hgl hl di ?_ (by decide) (by decide))
 refine PyProof.Rows.callWith_type1 ?_ hs1 rfl
 rw [hs1]
 show wpAny _ _ (spliced [(false,eval (.Call (.Name "range" p2) [a,b] [] pos2) X.env)]) _ _ s
 refine Calls.spliced_cons ?_
 refine Call_ (cK I hgr hr boot_range (PyProof.Rows.callWith_type1 (thn (ha pos2 pins s σ H _ I h) fun us s1 ⟨vs,H1,I1,r1,q1⟩=>?_) (by rw [hs,hs2]) (by rw [hs2]; rfl)))
 obtain ⟨i,j,e,⟨q1,q2,q3,q4⟩,q⟩:=q1
 subst e
 cases r1 with
 | cons r rr=>
  cases rr with
  | cons r' rr=>
   cases rr
   obtain ⟨t,rfl⟩:=r
   obtain ⟨t',rfl⟩:=r'
   refine call_range_2 ?_
   refine Calls.spliced_nil ?_
   exact qM (I.ok.hd hc) I1 q1 q2 q3 q4 q
end
section
variable {σ:St} {H:Hp} {Q:VK} {ta:TA}
theorem lx:i3 ta σ H Q=ta σ H fun vs H1=>∃ j:Int,vs=[.int j]∧ -(2^60)≤j∧j≤1000∧∀ l,H1 l=none→Q (.ref l) (upd H1 l (.lst ((rngL 0 j).map V.int))):=rfl
theorem ly:i4 ta σ H Q=ta σ H fun vs H1=>∃ i j:Int,vs=[.int i,.int j]∧(0≤i∧i≤1000∧ -(2^60)≤j∧j≤1000)∧∀ l,H1 l=none→Q (.ref l) (upd H1 l (.lst ((rngL i j).map V.int))):=rfl
end
end L2
namespace L2
def besL (h w c:Int):List Int:=(if 0 < c / w then [c - w] else [])++(if 0 < c % w then [c - 1] else [])++(if c % w < w - 1 then [c+1] else [])++(if c / w < h - 1 then [c+w] else [])
inductive RC (h w:Int) (cs:List Int) (st:Int):Int→Prop
 | start:st∈cs→RC h w cs st st
 | step {x y:Int}:RC h w cs st x→y∈besL h w x→y∈cs→RC h w cs st y
theorem RC.mem {h w:Int} {cs:List Int} {st x:Int} (r:RC h w cs st x):x∈cs:=by cases r <;> assumption
theorem RC.st {h w:Int} {cs:List Int} {st x:Int} (r:RC h w cs st x):st∈cs:=by
 induction r with
 | start h=>exact h
 | step _ _ _ ih=>exact ih
theorem hJ:∀ {xs ys:List Int},xs.Nodup→(∀ x∈xs,x∈ys)→xs.length≤ys.length
 | [],_,_,_=>Nat.zero_le _
 | x::xs,ys,nd,h=>by
  have hx:=h x List.mem_cons_self
  have nd':=List.nodup_cons.mp nd
  have ih:=hJ (xs:=xs) (ys:=ys.erase x) nd'.2 fun y hy=>by
   have ne:y≠x:=fun e=>nd'.1 (e ▸ hy)
   exact (List.mem_erase_of_ne ne).mpr (h y (List.mem_cons_of_mem _ hy))
  rw [List.length_erase_of_mem hx] at ih
  have:0 < ys.length:=List.length_pos_of_mem hx
  simp only [List.length_cons]
  omega
structure BI (h w:Int) (cs:List Int) (st:Int) (fs:List Int) (pl:Nat):Prop where
 nd:fs.Nodup
 rc:∀ x∈fs,RC h w cs st x
 hst:st∈fs
 le:pl≤fs.length
 cl:∀ (i:Nat) (x y:Int),i < pl→fs[i]? =some x→y∈besL h w x→y∈cs→y∈fs
theorem BI.len {h w:Int} {cs:List Int} {st:Int} {fs:List Int} {pl:Nat} (b:BI h w cs st fs pl):fs.length≤cs.length:=hJ b.nd fun x hx=>(b.rc x hx).mem
theorem BI.start {h w:Int} {cs:List Int} {st:Int} (hs:st∈cs):BI h w cs st [st] 0:=
 ⟨by simp,fun x hx=>by rw [List.mem_singleton.mp hx]; exact .start hs,by simp,Nat.zero_le _,fun i x y hi=>absurd hi (Nat.not_lt_zero _)⟩
theorem BI.done {h w:Int} {cs:List Int} {st:Int} {fs:List Int} {pl:Nat} (b:BI h w cs st fs pl) (e:¬ pl < fs.length) (x:Int):x∈fs↔RC h w cs st x:=by
 refine ⟨b.rc x,fun r=>?_⟩
 induction r with
 | start _=>exact b.hst
 | step r hy hc ih=>
  obtain ⟨i,hi⟩:=List.getElem?_of_mem ih
  have hlt:i < fs.length:=(List.getElem?_eq_some_iff.mp hi).1
  exact b.cl i _ _ (by omega) hi hy hc
def addC (cs fs:List Int) (y:Int):List Int:=if y∈cs∧¬ y∈fs then fs++[y] else fs
structure BJ (h w:Int) (cs:List Int) (st:Int) (f0:List Int) (pl:Nat) (bs:List Int) (fs:List Int):Prop where
 nd:fs.Nodup
 rc:∀ x∈fs,RC h w cs st x
 pre:f0 <+:fs
 al:∀ y∈bs,y∈cs→y∈fs
theorem BJ.zero {h w:Int} {cs:List Int} {st:Int} {fs:List Int} {pl:Nat} (b:BI h w cs st fs pl):BJ h w cs st fs pl [] fs:=⟨b.nd,b.rc,List.prefix_refl _,fun y hy=>nomatch hy⟩
theorem BJ.more {h w:Int} {cs:List Int} {st:Int} {f0 fs bs:List Int} {pl:Nat} {x y:Int} (j:BJ h w cs st f0 pl bs fs) (hx:RC h w cs st x) (hy:y∈besL h w x):BJ h w cs st f0 pl (bs++[y]) (addC cs fs y):=by
 unfold addC
 split
 · rename_i hc
   refine ⟨?_,fun z hz=>?_,j.pre.trans (List.prefix_append _ _),fun z hz hzc=>?_⟩
   · refine List.nodup_append.mpr ⟨j.nd,by simp,fun a ha b hb=>?_⟩
     rw [List.mem_singleton.mp hb]
     intro e
     exact hc.2 (e ▸ ha)
   · rcases List.mem_append.mp hz with hz | hz
     · exact j.rc z hz
     · rw [List.mem_singleton.mp hz]
       exact .step hx hy hc.1
   · rcases List.mem_append.mp hz with hz | hz
     · exact List.mem_append_left _ (j.al z hz hzc)
     · rw [List.mem_singleton.mp hz]
       simp
 · rename_i hc
   refine ⟨j.nd,j.rc,j.pre,fun z hz hzc=>?_⟩
   rcases List.mem_append.mp hz with hz | hz
   · exact j.al z hz hzc
   · rw [List.mem_singleton.mp hz] at hzc ⊢
     exact Decidable.byContradiction fun n=>hc ⟨hzc,n⟩
theorem BJ.done {h w:Int} {cs:List Int} {st:Int} {f0 fs:List Int} {pl:Nat} {x:Int} (b:BI h w cs st f0 pl) (hx:f0[pl]? =some x) (j:BJ h w cs st f0 pl (besL h w x) fs):BI h w cs st fs (pl+1):=by
 have hlt:pl < f0.length:=(List.getElem?_eq_some_iff.mp hx).1
 have hle:=j.pre.length_le
 have get:∀ i,i < f0.length→fs[i]? =f0[i]? :=fun i hi=>by
  obtain ⟨t,e⟩:=j.pre
  rw [← e,List.getElem?_append_left hi]
 refine ⟨j.nd,j.rc,j.pre.subset b.hst,by omega,fun i z y hi hz hy hc=>?_⟩
 rw [get i (by omega)] at hz
 by_cases e:i < pl
 · exact j.pre.subset (b.cl i z y e hz hy hc)
 · have:i=pl:=by omega
   subst this
   rw [hx] at hz
   cases hz
   exact j.al y hy hc
theorem uN {rs fs:List Int} (p:rs.Perm fs) (s:rs.Pairwise (· ≤·)) (nd:fs.Nodup):rs.Pairwise (· < ·):=by
 have nd':rs.Nodup:=p.nodup_iff.mpr nd
 refine (s.and nd').imp ?_
 intro a b h
 have:=h.1
 have:=h.2
 omega
theorem mY:∀ {xs ys:List Int},xs.Pairwise (· < ·)→ys.Pairwise (· < ·)→(∀ z,z∈xs↔z∈ys)→xs=ys
 | [],[],_,_,_=>rfl
 | [],y::ys,_,_,h=>absurd ((h y).mpr List.mem_cons_self) (fun q=>nomatch q)
 | x::xs,[],_,_,h=>absurd ((h x).mp List.mem_cons_self) (fun q=>nomatch q)
 | x::xs,y::ys,hx,hy,h=>by
  have hx':=List.pairwise_cons.mp hx
  have hy':=List.pairwise_cons.mp hy
  have e:x=y:=by
   rcases List.mem_cons.mp ((h x).mp List.mem_cons_self) with e | m1
   · exact e
   · rcases List.mem_cons.mp ((h y).mpr List.mem_cons_self) with e | m2
     · exact e.symm
     · have:=hy'.1 x m1
       have:=hx'.1 y m2
       omega
  subst e
  refine congrArg (x::·) (mY hx'.2 hy'.2 fun z=>⟨fun m=>?_,fun m=>?_⟩)
  · rcases List.mem_cons.mp ((h z).mp (List.mem_cons_of_mem _ m)) with e | q
    · have:=hx'.1 z m; omega
    · exact q
  · rcases List.mem_cons.mp ((h z).mpr (List.mem_cons_of_mem _ m)) with e | q
    · have:=hy'.1 z m; omega
    · exact q
end L2
namespace L2
open PySem PySem.Spec PyProof.Rows
local macro_rules | `(tactic| walk_at "w")=>`(tactic| (first | simp only [aF,a7,iV,bv,gJ,w_c,kM,gK,iq,gR,gS,w_b,w_not,jH,lZ,ir,iu,jI,iW,eY,l0,iv,jJ,iX,kN,jK,e5,iw,iy,iA,gq,gr,fG,fw,fz,dP,jL,jM,jN,jO,jP,jQ,jR,jS,jT,jU,jV,jW,l3,iB,fA,iC,l4,iD,gt,fB,jZ,j2,iE,gU,iF,
 List.getElem?_cons_zero,List.getElem?_cons_succ,Option.some.injEq,exists_eq_left',exists_eq_left,List.set_cons_zero,List.set_cons_succ,dN,V.int.injEq,V.bl.injEq,V.ref.injEq,V.str.injEq,List.append_nil,List.nil_append,List.cons_append] | dsimp only | skip))
theorem aC {n:Nat} (h:n≤1000):n≤sizeLine:=Nat.le_of_lt (aE h)
def IsFl (H:Hp) (a:Addr) (h w g:Int):Prop:=H a=some (.tup [.int h,.int w,.int g])
theorem Same.laid {H H':Hp} {p:Addr} {o:HO} (s:Same H H') (h:H' p=none):Same H (upd H' p o):=fun b u e=>by
 rw [ah (ar (s b u e) h)]
 exact s b u e
theorem Same.own {H H':Hp} {p:Addr} {o:HO} (s:Same H H') (h:H p=none):Same H (upd H' p o):=fun b u e=>by
 rw [ah (ar e h)]
 exact s b u e
theorem cN {l:List Int} {i:Nat} {x:Int} (h:l[i]? =some x):l.getD i 0=x:=by
 rw [List.getD,h]; rfl
theorem j6 {ns:List Int} {k:Int} (h0:0≤k) (h1:k < ns.length):atI (ns.map V.int) k=some (.int (ns.getD k.toNat 0)):=by
 have e:((k.toNat:Nat):Int)=k:=Int.toNat_of_nonneg h0
 have hlt:k.toNat < ns.length:=by omega
 have:(ns.map V.int)[k.toNat]? =some (.int (ns.getD k.toNat 0)):=by
  rw [List.getElem?_map,List.getElem?_eq_getElem hlt]
  simp [List.getD,hlt]
 have q:=gp this
 rw [e] at q
 exact q
theorem aV {α:Type} (l:List α):l.filter (fun _=>true)=l:=List.filter_eq_self.mpr fun _ _=>rfl
theorem bf {l:List Int} {i:Nat} {y:V} (h:(l.map V.int)[i]? =some y):∃ z,l[i]? =some z∧y=.int z:=by
 rw [List.getElem?_map] at h
 cases e:l[i]? with
 | none=>rw [e] at h; cases h
 | some z=>rw [e] at h; cases h; exact ⟨z,rfl,rfl⟩
theorem bL {l:List Addr} {i:Nat} {y:V} (h:(l.map V.ref)[i]? =some y):∃ z,l[i]? =some z∧y=.ref z:=by
 rw [List.getElem?_map] at h
 cases e:l[i]? with
 | none=>rw [e] at h; cases h
 | some z=>rw [e] at h; cases h; exact ⟨z,rfl,rfl⟩
theorem gW {h w:Int} (h0:1≤h) (h1:h≤6):CMul h w:=.inl ⟨by omega,by omega⟩
section
variable {k:Nat} {lo:Int} {n:Nat} {tt:TT} {te:TE} {fin:Addr→Hp→Prop} {σ0:St} {H1:Hp} {K:PySem.W.Frag} {a:Addr}
theorem iH {n i:Nat} (b:Nat→Bool) (h:i < n) (hn:n≤900):((List.range i).filter b).length≤900:=by
 have:=List.length_filter_le b (List.range i)
 rw [List.length_range] at this
 omega
theorem lS (b:Nat→Bool) (f:Nat→V) (hn:n≤900)
  (ht:∀ i H R,i < n→Same H1 H→(∀ H',Same H H'→R (b i) H')→tt (σ0.set k (some (.int (lo+i)))) H R)
  (he:∀ i H Q,i < n→b i=true→Same H1 H→(∀ H',Same H H'→Q (f i) H')→te (σ0.set k (some (.int (lo+i)))) H Q)
  (hd:∀ l H,H1 l=none→Same H1 H→H l=some (.lst (((List.range n).filter b).map f))→fin l H):
  CompR (Itr lo n) (gName k) tt te fin σ0 H1:=by
 refine jY (fun l i σ H=>(σ=σ0∨∃ cv,σ=σ0.set k cv)∧Same H1 H∧H l=some (.lst (((List.range i).filter b).map f))) (fun l hl=>⟨.inl rfl,(Same.refl H1).laid hl,by rw [ae]; rfl⟩) ?_ (fun l σ H hl p=>hd l H hl p.2.1 p.2.2)
 rintro l i σ H hl hi ⟨hσ,s1,el⟩
 rw [bv]
 have e:σ.set k (some (.int (lo+i)))=σ0.set k (some (.int (lo+i))):=by
  rcases hσ with rfl | ⟨cv,rfl⟩
  · rfl
  · exact List.set_set ..
 rw [e]
 refine ht i H _ hi s1 fun H2 s2=>?_
 have el2:=s2 _ _ el
 cases hb:b i with
 | false=>
  rw [if_neg Bool.false_ne_true]
  refine ⟨.inr ⟨_,rfl⟩,s1.trans s2,?_⟩
  rw [List.range_succ,List.filter_append,List.filter_cons,hb]
  simpa using el2
 | true=>
  rw [if_pos rfl]
  refine he i H2 _ hi hb (s1.trans s2) fun H3 s3=>⟨_,s3 _ _ el2,by rw [List.length_map]; exact aE (Nat.le_trans (iH b hi hn) (by decide)),.inr ⟨_,rfl⟩,((s1.trans s2).trans s3).own hl,?_⟩
  rw [ae,List.range_succ,List.filter_append,List.filter_cons,hb]
  simp
theorem bX {xs:List V} (b:Nat→Bool) (f:Nat→V) (hn:xs.length≤900) (hq:SqL K H1 a xs)
  (ht:∀ i x H R,xs[i]? =some x→Same H1 H→(∀ H',Same H H'→R (b i) H')→tt (σ0.set k (some x)) H R)
  (he:∀ i x H Q,xs[i]? =some x→b i=true→Same H1 H→(∀ H',Same H H'→Q (f i) H')→te (σ0.set k (some x)) H Q)
  (hd:∀ l H,H1 l=none→Same H1 H→H l=some (.lst (((List.range xs.length).filter b).map f))→fin l H):
  CompR (Itl K a) (gName k) tt te fin σ0 H1:=by
 refine iZ (xs:=xs) (fun l i σ H=>(σ=σ0∨∃ cv,σ=σ0.set k cv)∧Same H1 H∧H l=some (.lst (((List.range i).filter b).map f))) (fun l hl=>⟨.inl rfl,(Same.refl H1).laid hl,by rw [ae]; rfl⟩) (fun l i σ H _ _ p=>p.2.1.seq hq) ?_ (fun l σ H hl p=>hd l H hl p.2.1 p.2.2)
 rintro l i x σ H hl hx ⟨hσ,s1,el⟩
 have hi:i < xs.length:=(List.getElem?_eq_some_iff.mp hx).1
 rw [bv]
 have e:σ.set k (some x)=σ0.set k (some x):=by
  rcases hσ with rfl | ⟨cv,rfl⟩
  · rfl
  · exact List.set_set ..
 rw [e]
 refine ht i x H _ hx s1 fun H2 s2=>?_
 have el2:=s2 _ _ el
 cases hb:b i with
 | false=>
  rw [if_neg Bool.false_ne_true]
  refine ⟨.inr ⟨_,rfl⟩,s1.trans s2,?_⟩
  rw [List.range_succ,List.filter_append,List.filter_cons,hb]
  simpa using el2
 | true=>
  rw [if_pos rfl]
  refine he i x H2 _ hx hb (s1.trans s2) fun H3 s3=>⟨_,s3 _ _ el2,by rw [List.length_map]; exact aE (Nat.le_trans (iH b hi hn) (by decide)),.inr ⟨_,rfl⟩,((s1.trans s2).trans s3).own hl,?_⟩
  rw [ae,List.range_succ,List.filter_append,List.filter_cons,hb]
  simp
theorem lT (b:Nat→Bool) (f:Nat→Int) (hn:n≤900)
  (ht:∀ i H R,i < n→Same H1 H→(∀ H',Same H H'→R (b i) H')→tt (σ0.set k (some (.int (lo+i)))) H R)
  (he:∀ i H Q,i < n→b i=true→Same H1 H→(∀ H',Same H H'→Q (.int (f i)) H')→te (σ0.set k (some (.int (lo+i)))) H Q)
  (hd:∀ l H,H1 l=none→Same H1 H→H l=some (.lst ((((List.range n).filter b).map f).map V.int))→fin l H):
  CompR (Itr lo n) (gName k) tt te fin σ0 H1:=
 lS b (fun i=>.int (f i)) hn ht he fun l H hl s1 el=>hd l H hl s1 (by rw [List.map_map]; exact el)
theorem uO (b:Int→Bool) (f:Int→Int) (xs:List Int):((List.range xs.length).filter fun i=>b (xs.getD i 0)).map (fun i=>V.int (f (xs.getD i 0)))=((xs.filter b).map f).map V.int:=by
 have e:xs=(List.range xs.length).map fun i=>xs.getD i 0:=by
  refine List.ext_getElem? fun i=>?_
  rw [List.getElem?_map]
  by_cases h:i < xs.length
  · rw [List.getElem?_range h,List.getElem?_eq_getElem h]
    simp [List.getD,h]
  · rw [List.getElem?_eq_none (by omega),List.getElem?_eq_none (by simpa using h)]; rfl
 conv=>rhs; rw [e]
 rw [List.filter_map,List.map_map,List.map_map]
 rfl
theorem d6 {xs:List Int} (b:Int→Bool) (f:Int→Int) (hn:xs.length≤900) (hq:SqL K H1 a (xs.map V.int))
  (ht:∀ x H R,x∈xs→Same H1 H→(∀ H',Same H H'→R (b x) H')→tt (σ0.set k (some (.int x))) H R)
  (he:∀ x H Q,x∈xs→b x=true→Same H1 H→(∀ H',Same H H'→Q (.int (f x)) H')→te (σ0.set k (some (.int x))) H Q)
  (hd:∀ l H,H1 l=none→Same H1 H→H l=some (.lst (((xs.filter b).map f).map V.int))→fin l H):
  CompR (Itl K a) (gName k) tt te fin σ0 H1:=by
 refine bX (xs:=xs.map V.int) (fun i=>b (xs.getD i 0)) (fun i=>.int (f (xs.getD i 0))) (by rw [List.length_map]; exact hn) hq ?_ ?_ ?_
 · intro i x H R hx s1 h
   obtain ⟨z,hz,rfl⟩:=bf hx
   rw [cN hz] at h
   exact ht z H R (List.mem_of_getElem? hz) s1 h
 · intro i x H Q hx hb s1 h
   obtain ⟨z,hz,rfl⟩:=bf hx
   rw [cN hz] at h hb
   exact he z H Q (List.mem_of_getElem? hz) hb s1 h
 · intro l H hl s1 el
   refine hd l H hl s1 ?_
   rw [List.length_map] at el
   rw [el,uO]
structure NewAt (H1 H:Hp) (l:Addr) (as:List Addr) (os:List HO):Prop where
 len:as.length=os.length
 nd:as.Nodup
 nl:l∉as
 fr:∀ a∈as,H1 a=none
 at_:∀ (j:Nat) (a:Addr) (o:HO),as[j]? =some a→os[j]? =some o→H a=some o
theorem NewAt.nil {H1 H:Hp} {l:Addr}:NewAt H1 H l [] [] where
 len:=rfl
 nd:=List.nodup_nil
 nl:=by simp
 fr:=fun a h=>nomatch h
 at_:=fun j a o h=>by simp at h
theorem NewAt.same {H1 H H':Hp} {l:Addr} {as:List Addr} {os:List HO} (x:NewAt H1 H l as os) (s:Same H H'):NewAt H1 H' l as os:=
 ⟨x.len,x.nd,x.nl,x.fr,fun j a o h1 h2=>s _ _ (x.at_ j a o h1 h2)⟩
theorem NewAt.mem {H1 H:Hp} {l:Addr} {as:List Addr} {os:List HO} (x:NewAt H1 H l as os) {a:Addr} (h:a∈as):∃ o,H a=some o:=by
 obtain ⟨j,hj,e⟩:=List.mem_iff_getElem.mp h
 have hj2:j < os.length:=by rw [← x.len]; exact hj
 exact ⟨os[j],x.at_ j a os[j] (by rw [List.getElem?_eq_getElem hj,e]) (List.getElem?_eq_getElem hj2)⟩
theorem NewAt.more {H1 H H2:Hp} {l p:Addr} {as:List Addr} {os:List HO} {o u:HO} (x:NewAt H1 H l as os) (s1:Same H1 H) (s:Same H H2) (hp:H p=none) (e:H2 p=some o) (hl:H l=some u) (o':HO):NewAt H1 (upd H2 l o') l (as++[p]) (os++[o]):=by
 have npl:p≠l:=fun z=>by rw [z,hl] at hp; cases hp
 refine ⟨by simp [x.len],?_,?_,?_,?_⟩
 · refine List.nodup_append.mpr ⟨x.nd,by simp,fun a ha b hb z=>?_⟩
   rw [List.mem_singleton.mp hb] at z
   obtain ⟨o2,e2⟩:=x.mem ha
   rw [z,hp] at e2; cases e2
 · intro hm
   rcases List.mem_append.mp hm with hm | hm
   · exact x.nl hm
   · exact npl (List.mem_singleton.mp hm).symm
 · intro a ha
   rcases List.mem_append.mp ha with ha | ha
   · exact x.fr a ha
   · rw [List.mem_singleton.mp ha]
     cases q:H1 p with
     | none=>rfl
     | some v=>rw [s1 _ _ q] at hp; cases hp
 · intro j a o2 h1 h2
   have hlen:=x.len
   by_cases hj:j < as.length
   · rw [List.getElem?_append_left hj] at h1
     rw [List.getElem?_append_left (by omega)] at h2
     have nal:a≠l:=fun z=>x.nl (z ▸ List.mem_of_getElem? h1)
     rw [ah nal]
     exact s _ _ (x.at_ j a o2 h1 h2)
   · rw [List.getElem?_append_right (by omega)] at h1
     rw [List.getElem?_append_right (by omega)] at h2
     have e0:j - as.length=0:=by
      have:=(List.getElem?_eq_some_iff.mp h1).1
      simp at this
      omega
     rw [e0] at h1
     rw [show j - os.length=0 by omega] at h2
     simp at h1 h2
     subst h1 h2
     rw [ah npl]
     exact e
theorem se (b:Nat→Bool) (o:Nat→HO) (hn:n≤900)
  (ht:∀ i H R,i < n→Same H1 H→(∀ H',Same H H'→R (b i) H')→tt (σ0.set k (some (.int (lo+i)))) H R)
  (he:∀ i H Q,i < n→b i=true→Same H1 H→(∀ a H',Same H H'→H a=none→H' a=some (o i)→Q (.ref a) H')→te (σ0.set k (some (.int (lo+i)))) H Q)
  (hd:∀ l as H,H1 l=none→Same H1 H→H l=some (.lst (as.map V.ref))→NewAt H1 H l as (((List.range n).filter b).map o)→fin l H):
  CompR (Itr lo n) (gName k) tt te fin σ0 H1:=by
 refine jY (fun l i σ H=>(σ=σ0∨∃ cv,σ=σ0.set k cv)∧Same H1 H∧∃ as:List Addr,H l=some (.lst (as.map V.ref))∧NewAt H1 H l as (((List.range i).filter b).map o)) (fun l hl=>⟨.inl rfl,(Same.refl H1).laid hl,[],by rw [ae]; rfl,NewAt.nil⟩) ?_ (fun l σ H hl ⟨_,s1,as,el,x⟩=>hd l as H hl s1 el x)
 rintro l i σ H hl hi ⟨hσ,s1,as,el,x⟩
 rw [bv]
 have e:σ.set k (some (.int (lo+i)))=σ0.set k (some (.int (lo+i))):=by
  rcases hσ with rfl | ⟨cv,rfl⟩
  · rfl
  · exact List.set_set ..
 rw [e]
 refine ht i H _ hi s1 fun H2 s2=>?_
 have el2:=s2 _ _ el
 have x2:=x.same s2
 have s12:=s1.trans s2
 cases hb:b i with
 | false=>
  rw [if_neg Bool.false_ne_true]
  refine ⟨.inr ⟨_,rfl⟩,s12,as,el2,?_⟩
  rw [List.range_succ,List.filter_append,List.filter_cons,hb]
  simpa using x2
 | true=>
  rw [if_pos rfl]
  refine he i H2 _ hi hb s12 fun p H3 s3 hp ep=>⟨_,s3 _ _ el2,?_,.inr ⟨_,rfl⟩,(s12.trans s3).own hl,as++[p],?_,?_⟩
  · rw [List.length_map,x2.len,List.length_map]; exact aE (Nat.le_trans (iH b hi hn) (by decide))
  · rw [ae]; simp
  · have y:=x2.more s12 s3 hp ep el2 (.lst (as.map V.ref++[V.ref p]))
    rw [List.range_succ,List.filter_append,List.filter_cons,hb]
    simpa using y
theorem tM {xs:List V} (b:Nat→Bool) (o:Nat→HO) (hn:xs.length≤900) (hq:SqL K H1 a xs)
  (ht:∀ i x H R,xs[i]? =some x→Same H1 H→(∀ H',Same H H'→R (b i) H')→tt (σ0.set k (some x)) H R)
  (he:∀ i x H Q,xs[i]? =some x→b i=true→Same H1 H→(∀ a H',Same H H'→H a=none→H' a=some (o i)→Q (.ref a) H')→te (σ0.set k (some x)) H Q)
  (hd:∀ l as H,H1 l=none→Same H1 H→H l=some (.lst (as.map V.ref))→NewAt H1 H l as (((List.range xs.length).filter b).map o)→fin l H):
  CompR (Itl K a) (gName k) tt te fin σ0 H1:=by
 refine iZ (xs:=xs) (fun l i σ H=>(σ=σ0∨∃ cv,σ=σ0.set k cv)∧Same H1 H∧∃ as:List Addr,H l=some (.lst (as.map V.ref))∧NewAt H1 H l as (((List.range i).filter b).map o)) (fun l hl=>⟨.inl rfl,(Same.refl H1).laid hl,[],by rw [ae]; rfl,NewAt.nil⟩) (fun l i σ H _ _ p=>p.2.1.seq hq) ?_ (fun l σ H hl ⟨_,s1,as,el,x⟩=>hd l as H hl s1 el x)
 rintro l i y σ H hl hy ⟨hσ,s1,as,el,x⟩
 have hi:i < xs.length:=(List.getElem?_eq_some_iff.mp hy).1
 rw [bv]
 have e:σ.set k (some y)=σ0.set k (some y):=by
  rcases hσ with rfl | ⟨cv,rfl⟩
  · rfl
  · exact List.set_set ..
 rw [e]
 refine ht i y H _ hy s1 fun H2 s2=>?_
 have el2:=s2 _ _ el
 have x2:=x.same s2
 have s12:=s1.trans s2
 cases hb:b i with
 | false=>
  rw [if_neg Bool.false_ne_true]
  refine ⟨.inr ⟨_,rfl⟩,s12,as,el2,?_⟩
  rw [List.range_succ,List.filter_append,List.filter_cons,hb]
  simpa using x2
 | true=>
  rw [if_pos rfl]
  refine he i y H2 _ hy hb s12 fun p H3 s3 hp ep=>⟨_,s3 _ _ el2,?_,.inr ⟨_,rfl⟩,(s12.trans s3).own hl,as++[p],?_,?_⟩
  · rw [List.length_map,x2.len,List.length_map]; exact aE (Nat.le_trans (iH b hi hn) (by decide))
  · rw [ae]; simp
  · have z:=x2.more s12 s3 hp ep el2 (.lst (as.map V.ref++[V.ref p]))
    rw [List.range_succ,List.filter_append,List.filter_cons,hb]
    simpa using z
end
theorem sL:∀ {ds:List PyData},(∀ d∈ds,PyData.canLay0 d=true)→PyData.canLayAll0 ds=true
 | [],_=>rfl
 | d::r,h=>by rw [PyData.canLayAll0,h d List.mem_cons_self,sL fun e he=>h e (List.mem_cons_of_mem _ he)]; rfl
theorem pb {n:Nat}:∀ {ds:List PyData},(∀ d∈ds,PyData.depth d≤n)→PyData.depthAll ds≤n
 | [],_=>Nat.zero_le _
 | d::r,h=>by rw [PyData.depthAll]; exact Nat.max_le.mpr ⟨h d List.mem_cons_self,pb fun e he=>h e (List.mem_cons_of_mem _ he)⟩
theorem ow {α:Type} [DecidableEq α] (g:α→PyData) (hg:∀ a b,PyData.eqv (g a) (g b)=decide (a=b)):∀ xs ys:List α,PyData.eqvAll (xs.map g) (ys.map g)=decide (xs=ys)
 | [],[]=>rfl
 | [],_::_=>rfl
 | _::_,[]=>rfl
 | x::xs,y::ys=>by
  rw [List.map_cons,List.map_cons,PyData.eqvAll,hg,ow g hg xs ys,Bool.eq_iff_iff]
  simp
structure IsLL (H:Hp) (l:Addr) (as:List Addr) (xss:List (List Int)):Prop where
 top:H l=some (.lst (as.map V.ref))
 len:as.length=xss.length
 at_:∀ (j:Nat) (a:Addr) (xs:List Int),as[j]? =some a→xss[j]? =some xs→H a=some (.lst (xs.map V.int))
theorem IsLL.same {H H':Hp} {l:Addr} {as:List Addr} {xss:List (List Int)} (x:IsLL H l as xss) (s:Same H H'):IsLL H' l as xss:=
 ⟨s _ _ x.top,x.len,fun j a xs h1 h2=>s _ _ (x.at_ j a xs h1 h2)⟩
def cx (K:PySem.W.Frag):Sp:=fun vs H Q _=>∃ (a:Addr) (h w g c:Int),vs=[.ref a,.int c]∧IsFl H a h w g∧0 < w∧w < 100∧∀ p,H p=none→Q (.ref p) (upd H p (.tup [.int (c / w),.int (c % w)]))
theorem tN {K:PySem.W.Frag} {vs:List V} {H:Hp} {Q:VK} {E:XK} (h:cx K vs H Q E):vs.length=2:=by
 obtain ⟨_,_,_,_,_,rfl,_⟩:=h; rfl
def hV (K:PySem.W.Frag):TS:=
 (tSeq (tAsg (tOp cIx (tVar 0) (tC (.int 1))) (gName 2))
  (tRet (tTup (tCons (tOp cDiv (tVar 1) (tVar 2)) (tCons (tOp cMod (tVar 1) (tVar 2)) tNil)))))
theorem tO {K:PySem.W.Frag} {vs:List V} {H:Hp} {Q:VK} {E:XK} (h:cx K vs H Q E):hV K { nx:=fun _ H'=>Q .non H',rt:=Q } (start ["floor","cell","wide"] vs) H:=by
 obtain ⟨a,h,w,g,c,rfl,ha,w0,w1,k⟩:=h
 show hV K _ [some (.ref a),some (.int c),none] H
 unfold hV
 walk_at "w"
 rw [fv ha]
 refine aQ (a:=V.int w) rfl ?_
 walk_at "w"
 refine ⟨⟨w0,by omega⟩,w0,aC (by show (2:Nat)≤1000; decide),k⟩
def cY (K:PySem.W.Frag):Sp:=fun vs H Q _=>∃ (a:Addr) (h w g c:Int),vs=[.ref a,.int c]∧IsFl H a h w g∧0 < w∧w < 100∧∀ l H',Same H H'→H l=none→H' l=some (.lst ((besL h w c).map V.int))→Q (.ref l) H'
theorem uP {K:PySem.W.Frag} {vs:List V} {H:Hp} {Q:VK} {E:XK} (h:cY K vs H Q E):vs.length=2:=by
 obtain ⟨_,_,_,_,_,rfl,_⟩:=h; rfl
def i5 (K:PySem.W.Frag):TS:=
 (tSeq (tAsg (tOp cIx (tVar 0) (tC (.int 0))) (gName 2))
  (tSeq (tAsg (tOp cIx (tVar 0) (tC (.int 1))) (gName 3))
  (tSeq (tAsg (tCall (cx K) [] E0 (tCons (tVar 0) (tCons (tVar 1) tNil))) (gName 4))
  (tSeq (tAsg (tLst tNil) (gName 5))
  (tSeq (tIfS (tTest (tOp (cCmp fun i j=>decide (j < i)) (tOp cIx (tVar 4) (tC (.int 0))) (tC (.int 0)))) (tDrop (tBM K "list" b4 (tVar 5) (tCons (tOp cSub (tVar 1) (tVar 3)) tNil))) tNext)
  (tSeq (tIfS (tTest (tOp (cCmp fun i j=>decide (j < i)) (tOp cIx (tVar 4) (tC (.int 1))) (tC (.int 0)))) (tDrop (tBM K "list" b4 (tVar 5) (tCons (tOp cSub (tVar 1) (tC (.int 1))) tNil))) tNext)
  (tSeq (tIfS (tTest (tOp (cCmp fun i j=>decide (i < j)) (tOp cIx (tVar 4) (tC (.int 1))) (tOp cSub (tVar 3) (tC (.int 1))))) (tDrop (tBM K "list" b4 (tVar 5) (tCons (tOp cAdd (tVar 1) (tC (.int 1))) tNil))) tNext)
  (tSeq (tIfS (tTest (tOp (cCmp fun i j=>decide (i < j)) (tOp cIx (tVar 4) (tC (.int 0))) (tOp cSub (tVar 2) (tC (.int 1))))) (tDrop (tBM K "list" b4 (tVar 5) (tCons (tOp cAdd (tVar 1) (tVar 3)) tNil))) tNext)
  (tRet (tVar 5))))))))))
theorem mZ {K:PySem.W.Frag} {D:Ends} {σ:St} {H:Hp} {t:TT} {e:TE} {b:Bool} {v:Int} {l:Addr} {i:Nat} {ns:List Int} (hσ:σ[i]? =some (some (.ref l))) (ht:∀ R,R b H→t σ H R) (hl:H l=some (.lst (ns.map V.int))) (hn:ns.length≤900)
  (he:∀ Q,Q (.int v) H→e σ H Q) (k:∀ H',(H' l=some (.lst ((ns++if b=true then [v] else []).map V.int)))→(∀ c,c≠l→H' c=H c)→D.nx σ H'):
  tIfS t (tDrop (tBM K "list" b4 (tVar i) (tCons e tNil))) tNext D σ H:=by
 rw [aT]
 refine ht _ ?_
 cases b with
 | false=>
  refine iteF ?_
  rw [a7]
  exact k H (by simpa using hl) fun _ _=>rfl
 | true=>
  refine iteT ?_
  rw [gR,kN,gJ]
  refine ⟨_,hσ,cC hl,?_⟩
  rw [eY]
  refine he _ ?_
  rw [iW,iz hl]
  refine ⟨by rw [List.length_map]; exact aE (by omega),k _ ?_ fun c hc=>ah hc⟩
  rw [ae]
  simp
theorem uQ {K:PySem.W.Frag} {vs:List V} {H:Hp} {Q:VK} {E:XK} (h:cY K vs H Q E):i5 K { nx:=fun _ H'=>Q .non H',rt:=Q } (start ["floor","cell","high","wide","spot","found"] vs) H:=by
 obtain ⟨a,h,w,g,c,rfl,ha,w0,w1,k⟩:=h
 show i5 K _ [some (.ref a),some (.int c),none,none,none,none] H
 unfold i5
 walk_at "w"
 rw [fv ha]
 refine aQ (a:=V.int h) rfl ?_
 walk_at "w"
 rw [fv ha]
 refine aQ (a:=V.int w) rfl ?_
 walk_at "w"
 refine ⟨a,h,w,g,c,rfl,ha,w0,w1,fun p hp=>?_⟩
 walk_at "w"
 refine ⟨aC (by decide),fun l hl=>?_⟩
 have npl:p≠l:=fun e=>by rw [e,ae] at hl; cases hl
 have hl0:H l=none:=by rw [ah npl.symm] at hl; exact hl
 have hpS:∀ H':Hp,(∀ d,d≠l→H' d=upd H p (.tup [.int (c / w),.int (c % w)]) d)→H' p=some (.tup [.int (c / w),.int (c % w)]):=fun H' e=>by rw [e p npl,ae]
 refine mZ (ns:=[]) (l:=l) (i:=5) (b:=decide (0 < c / w)) (v:=c - w) rfl (fun R q=>?_) ae (by decide) (fun Q q=>?_) fun H1 e1 f1=>?_
 · walk_at "w"
   rw [fv (hpS _ fun d hd=>ah hd)]
   refine aQ rfl ?_
   walk_at "w"
   exact q
 · walk_at "w"
   exact q
 walk_at "w"
 refine mZ (l:=l) (i:=5) (b:=decide (0 < c % w)) (v:=c - 1) rfl (fun R q=>?_) e1 (by simp; split <;> simp) (fun Q q=>?_) fun H2 e2 f2=>?_
 · walk_at "w"
   rw [fv (hpS _ fun d hd=>by rw [f1 d hd,ah hd])]
   refine aQ rfl ?_
   walk_at "w"
   exact q
 · walk_at "w"
   exact q
 walk_at "w"
 refine mZ (l:=l) (i:=5) (b:=decide (c % w < w - 1)) (v:=c+1) rfl (fun R q=>?_) e2 (by simp; split <;> split <;> simp) (fun Q q=>?_) fun H3 e3 f3=>?_
 · walk_at "w"
   rw [fv (hpS _ fun d hd=>by rw [f2 d hd,f1 d hd,ah hd])]
   refine aQ rfl ?_
   walk_at "w"
   exact q
 · walk_at "w"
   exact q
 walk_at "w"
 refine mZ (l:=l) (i:=5) (b:=decide (c / w < h - 1)) (v:=c+w) rfl (fun R q=>?_) e3 (by simp; split <;> split <;> split <;> simp) (fun Q q=>?_) fun H4 e4 f4=>?_
 · walk_at "w"
   rw [fv (hpS _ fun d hd=>by rw [f3 d hd,f2 d hd,f1 d hd,ah hd])]
   refine aQ rfl ?_
   walk_at "w"
   exact q
 · walk_at "w"
   exact q
 walk_at "w"
 refine k l H4 (fun b o e=>?_) hl0 ?_
 · have nb:b≠l:=ar e hl0
   have nbp:b≠p:=ar e hp
   rw [f4 b nb,f3 b nb,f2 b nb,f1 b nb,ah nb,ah nbp]
   exact e
 · rw [e4]
   unfold besL
   simp [decide_eq_true_eq]
def lawAt (ns:List Int) (k:Int):Int:=
 if k < (ns.length:Int) then ns.getD k.toNat 0 else
  (if 0 < (ns.length:Int) then 7*k+3+ns.getD (k % ns.length).toNat 0 % 1000003*(k+1) else 7*k+3)*(if 0 < (ns.length:Int) then 7*k+3+ns.getD (k % ns.length).toNat 0 % 1000003*(k+1) else 7*k+3) % 999979+
  (if 0 < (ns.length:Int) then 7*k+3+ns.getD (k % ns.length).toNat 0 % 1000003*(k+1) else 7*k+3) % 101
def aP (K:PySem.W.Frag):Sp:=fun vs H Q _=>∃ (a:Addr) (ns:List Int) (k:Int),vs=[.ref a,.int k]∧SqL K H a (ns.map V.int)∧ns.length≤63∧0≤k∧k≤1000∧Q (.int (lawAt ns k)) H
theorem tP {K:PySem.W.Frag} {vs:List V} {H:Hp} {Q:VK} {E:XK} (h:aP K vs H Q E):vs.length=2:=by
 obtain ⟨_,_,_,rfl,_⟩:=h; rfl
def h9 (K:PySem.W.Frag):TS:=
 (tSeq (tIfS (tTest (tOp (cCmp fun i j=>decide (i < j)) (tVar 1) (tCB (kLenS K) (tCons (tVar 0) tNil)))) (tRet (tOp (rIxL K) (tVar 0) (tVar 1))) tNext)
  (tSeq (tAsg (tOp cAdd (tOp cMul (tC (.int 7)) (tVar 1)) (tC (.int 3))) (gName 2))
  (tSeq (tIfS (tTest (tOp (cCmp fun i j=>decide (j < i)) (tCB (kLenS K) (tCons (tVar 0) tNil)) (tC (.int 0)))) (tAsg (tOp cAdd (tVar 2) (tOp cMul (tOp cMod (tOp (rIxL K) (tVar 0) (tOp cMod (tVar 1) (tCB (kLenS K) (tCons (tVar 0) tNil)))) (tC (.int 1000003))) (tOp cAdd (tVar 1) (tC (.int 1))))) (gName 2)) tNext)
  (tRet (tOp cAdd (tOp cMod (tOp cMul (tVar 2) (tVar 2)) (tC (.int 999979))) (tOp cMod (tVar 2) (tC (.int 101))))))))
theorem tQ {K:PySem.W.Frag} {vs:List V} {H:Hp} {Q:VK} {E:XK} (h:aP K vs H Q E):h9 K { nx:=fun _ H'=>Q .non H',rt:=Q } (start ["_law_script","_law_k","_law_mixed"] vs) H:=by
 obtain ⟨a,ns,k,rfl,hS,hn,k0,k1,q⟩:=h
 show h9 K _ [some (.ref a),some (.int k),none] H
 unfold h9
 rw [aF,aT]
 walk_at "w"
 refine ⟨a,_,rfl,.inl hS,?_⟩
 walk_at "w"
 rw [List.length_map]
 unfold lawAt at q
 by_cases hk:k < (ns.length:Int)
 · rw [if_pos hk] at q
   rw [if_pos (decide_eq_true hk)]
   exact ⟨a,_,k,_,rfl,rfl,hS,j6 k0 hk,q⟩
 · rw [if_neg hk] at q
   rw [if_neg (by simpa using hk)]
   refine ⟨.inl (by omega),?_⟩
   rw [aT]
   walk_at "w"
   refine ⟨a,_,rfl,.inl hS,?_⟩
   walk_at "w"
   rw [List.length_map]
   by_cases hl:0 < (ns.length:Int)
   · simp only [if_pos hl] at q
     rw [if_pos (decide_eq_true hl)]
     refine ⟨a,_,rfl,.inl hS,?_⟩
     walk_at "w"
     rw [List.length_map]
     have m0:=Int.emod_nonneg k (Int.ne_of_gt hl)
     have m1:=Int.emod_lt_of_pos k hl
     refine ⟨hl,a,_,_,_,rfl,rfl,hS,j6 m0 m1,?_⟩
     walk_at "w"
     generalize ns.getD (k % ns.length).toNat 0=z at q ⊢
     have z0:=Int.emod_nonneg z (by decide:(1000003:Int)≠0)
     have z1:=Int.emod_lt_of_pos z (by decide:(0:Int) < 1000003)
     have b0:0≤z % 1000003*(k+1):=Int.mul_nonneg z0 (by omega)
     have b1:z % 1000003*(k+1)≤1000003*1001:=Int.mul_le_mul (by omega) (by omega) (by omega) (by decide)
     refine ⟨by decide,.inl ⟨by omega,by omega⟩,?_⟩
     walk_at "w"
     generalize z % 1000003*(k+1)=y at*
     exact ⟨.inl ⟨by omega,by omega⟩,by decide,by decide,q⟩
   · simp only [if_neg hl] at q
     rw [if_neg (by simpa using hl)]
     walk_at "w"
     exact ⟨.inl ⟨by omega,by omega⟩,by decide,by decide,q⟩
structure FlOk (h w g:Int):Prop where
 h0:1≤h
 h1:h≤6
 w0:1≤w
 w1:w≤6
 m:h*w≤16
 g0:1≤g
 g1:g≤6
section
variable {K:PySem.W.Frag} {H:Hp} {Q:VK}
theorem qN {p:Addr} {xs:List V} (hp:H p=some (.lst xs)) (h:Q (.bl true) H):kIsi [.ref p,.ty "list"] H Q:=by
 refine ⟨by decide,aQ (a:="list") (by unfold io; dsimp only; rw [hp]) ?_⟩
 rw [show isTy "list" "list"=true by decide]
 exact h
theorem xq {p:Addr} {xs:List V} (hp:H p=some (.tup xs)) (h:Q (.bl true) H):kIsi [.ref p,.ty "tuple"] H Q:=by
 refine ⟨by decide,aQ (a:="tuple") (by unfold io; dsimp only; rw [hp]) ?_⟩
 rw [show isTy "tuple" "tuple"=true by decide]
 exact h
theorem xt {i:Int} (h:Q (.bl true) H):kIsi [.int i,.ty "int"] H Q:=by
 refine ⟨by decide,aQ (a:="int") rfl ?_⟩
 rw [show isTy "int" "int"=true by decide]
 exact h
theorem ww {i:Int} (h:Q (.bl false) H):kIsi [.int i,.ty "bool"] H Q:=by
 refine ⟨by decide,aQ (a:="int") rfl ?_⟩
 rw [show isTy "int" "bool"=false by decide]
 exact h
theorem sM {p:Addr} {xs:List V} (hp:H p=some (.lst xs)) (h:Q .non (upd H p (.lst []))):kL (.ref p) [] H Q:=by
 show bnd (unM (H p)) _
 rw [hp]
 exact h
theorem xu {g:TG} {tb:TS} {D:Ends} {σ:St} {ta:TA}:tFor (iZip K ta) g tb D σ H=ta σ H fun vs H1=>∃ a b,vs=[.ref a,.ref b]∧(∃ xs,SqL K H1 a xs)∧(∃ ys,SqL K H1 b ys)∧LoopR (Itz K a b) g tb D σ H1:=rfl
theorem qO {n:Nat} {t:TGs} {σ:St} {k:St→Hp→Prop} {p:Addr} {xs:List V} (hp:H p=some (.tup xs)) (hn:xs.length=n) (h:t xs σ H k):gTup K n t (.ref p) σ H k:=⟨p,xs,rfl,SqT.of hp,hn,h⟩
theorem qP {i j:Nat} {x y:V} {σ:St} {k:St→Hp→Prop}:gCons (gName i) (gCons (gName j) gNil) [x,y] σ H k=k ((σ.set i (some x)).set j (some y)) H:=by
 refine propext ⟨?_,fun h=>⟨x,[y],rfl,y,[],rfl,rfl,h⟩⟩
 rintro ⟨v,r,e,v2,r2,e2,e3,h⟩
 cases e
 cases e2
 exact h
theorem wx {a b:Addr} {xs ys:List V} {g:TG} {tb:TS} {D:Ends} {σ:St} (Pv:Nat→St→Hp→Prop) (hlen:xs.length=ys.length) (h0:Pv 0 σ H) (hl:∀ i σ H,i≤xs.length→Pv i σ H→SqL K H a xs∧SqL K H b ys)
  (hs:∀ i x y T σ H,xs[i]? =some x→ys[i]? =some y→Pv i σ H→H T=none→g (.ref T) σ (upd H T (.tup [x,y])) fun σ2 H2=>tb { D with nx:=Pv (i+1),ct:=Pv (i+1),bk:=D.nx } σ2 H2) (hd:∀ σ H,Pv xs.length σ H→D.nx σ H):
  LoopR (Itz K a b) g tb D σ H:=by
 refine ⟨fun i m σ H=>m=xs.length - i∧i≤xs.length∧Pv i σ H,⟨xs.length,by simp,Nat.zero_le _,h0⟩,?_⟩
 rintro i m σ H ⟨rfl,hi,p⟩
 obtain ⟨q1,q2⟩:=hl i σ H hi p
 by_cases hlt:i < xs.length
 · have hlt2:i < ys.length:=by omega
   refine .inr ⟨⟨xs,ys,xs[i],ys[i],q1,q2,by simp [hlt],by simp [hlt2]⟩,Pv (i+1),fun σ' H' p'=>⟨xs.length - (i+1),by omega,rfl,hlt,p'⟩,fun v H' y=>?_⟩
   obtain ⟨T,x,y,rfl,hT,rfl,e1,e2⟩:=y
   exact hs i x y T σ H (e1 xs q1) (e2 ys q2) p hT
 · have e:i=xs.length:=by omega
   subst e
   exact .inl ⟨⟨xs,ys,q1,q2,.inl (Nat.le_refl _)⟩,hd σ H p⟩
end
def cm (K:PySem.W.Frag):Sp:=fun vs H Q _=>∃ i:Int,vs=[.int i]∧Q (.bl true) H
theorem pC {K:PySem.W.Frag} {vs:List V} {H:Hp} {Q:VK} {E:XK} (h:cm K vs H Q E):vs.length=1:=by
 obtain ⟨_,rfl,_⟩:=h; rfl
def fb (K:PySem.W.Frag):TS:=
 (tRet (tAndV (tCB kIsi (tCons (tVar 0) (tCons (tC (.ty "int")) tNil))) (tNotV (tCB kIsi (tCons (tVar 0) (tCons (tC (.ty "bool")) tNil))))))
theorem pD {K:PySem.W.Frag} {vs:List V} {H:Hp} {Q:VK} {E:XK} (h:cm K vs H Q E):fb K { nx:=fun _ H'=>Q .non H',rt:=Q } (start ["_law_found"] vs) H:=by
 obtain ⟨i,rfl,q⟩:=h
 show fb K _ [some (.int i)] H
 unfold fb
 walk_at "w"
 refine xt ?_
 walk_at "w"
 rw [if_pos trivial]
 refine ww ?_
 walk_at "w"
 exact q
end L2
namespace L2
open PySem PySem.Builtin PySem.Builtin.Str
def tx (l:List Nat):Str:=⟨l.toArray⟩
theorem m3 (l:List Nat):(tx l).cps.toList=l:=by simp [tx]
theorem xX (x:Str):tx x.cps.toList=x:=by cases x; simp [tx]
theorem uR {a b:List Nat} (h:tx a=tx b):a=b:=by rw [← m3 a,h,m3]
theorem dS (l:List Nat):(tx l).length=l.length:=by simp [tx,Str.length]
theorem qQ (a b:List Nat):tx a++tx b=tx (a++b):=by
 refine Str.ext' ?_
 rw [Str.cps_append]
 simp [tx]
theorem m4 (a b:List Nat):decide (tx a=tx b)=decide (a=b):=by
 by_cases h:a=b
 · subst h; simp
 · have:¬ tx a=tx b:=fun e=>h (uR e)
   rw [decide_eq_false h,decide_eq_false this]
def catL (c:Nat):List (List Nat)→List Nat
 | []=>[]
 | [x]=>x
 | x::y::r=>x++c::catL c (y::r)
theorem lz (c:Nat):∀ ts:List (List Nat),Str.join (tx [c]) (ts.map tx)=tx (catL c ts)
 | []=>rfl
 | [x]=>rfl
 | x::y::r=>by
  show tx x++tx [c]++Str.join (tx [c]) ((y::r).map tx)=_
  rw [lz c (y::r),qQ,qQ]
  show tx _=tx (x++c::catL c (y::r))
  rw [List.append_assoc]; rfl
theorem qR (sep:Str) (ts:List Str):Txt.join sep ts=Str.join sep ts:=StrLaws.glued_eq_join sep ts
theorem sN {c:Nat}:∀ {a b x y:List Nat},c∉a→c∉b→a++c::x=b++c::y→a=b∧x=y
 | [],[],_,_,_,_,h=>⟨rfl,by simpa using h⟩
 | [],b::bs,_,_,_,hb,h=>by
  simp at h
  exact absurd (List.mem_cons.mpr (.inl h.1)) hb
 | a::as,[],_,_,ha,_,h=>by
  simp at h
  exact absurd (List.mem_cons.mpr (.inl h.1.symm)) ha
 | a::as,b::bs,x,y,ha,hb,h=>by
  simp at h
  have:=sN (fun z=>ha (List.mem_cons_of_mem _ z)) (fun z=>hb (List.mem_cons_of_mem _ z)) h.2
  exact ⟨by rw [h.1,this.1],this.2⟩
theorem qS {c:Nat}:∀ {x:List Nat} {r:List (List Nat)} {y:List Nat},c∈catL c (x::y::r):=by
 intro x r y
 show c∈x++c::_
 simp
theorem qT {c:Nat}:∀ {xs ys:List (List Nat)},xs≠[]→ys≠[]→(∀ x∈xs,c∉x)→(∀ y∈ys,c∉y)→catL c xs=catL c ys→xs=ys
 | [],_,h,_,_,_,_=>absurd rfl h
 | _,[],_,h,_,_,_=>absurd rfl h
 | [x],[y],_,_,_,_,h=>by
  have h':x=y:=h
  rw [h']
 | [x],y::z::r,_,_,hx,_,h=>by
  have h':x=catL c (y::z::r):=h
  exact absurd (h' ▸ qS) (hx x List.mem_cons_self)
 | x::z::r,[y],_,_,_,hy,h=>by
  have h':catL c (x::z::r)=y:=h
  exact absurd (h' ▸ qS) (hy y List.mem_cons_self)
 | x::z::r,y::u::s,_,_,hx,hy,h=>by
  obtain ⟨e1,e2⟩:=sN (hx x List.mem_cons_self) (hy y List.mem_cons_self) (show x++c::catL c (z::r)=y++c::catL c (u::s) from h)
  rw [e1,qT (by simp) (by simp) (fun w hw=>hx w (List.mem_cons_of_mem _ hw)) (fun w hw=>hy w (List.mem_cons_of_mem _ hw)) e2]
theorem vE (x y:Str):Txt.split x y≠[]:=by
 intro h
 unfold Txt.split at h
 split at h
 · cases h
 · split at h
   · cases h
   · rw [StrLaws.partsBetween_eq] at h
     obtain ⟨p,r,e⟩:=StrLaws.partsFrom_ne x y.length 0 (occurrences x y 0 x.length (x.length+1))
     rw [e] at h; cases h
theorem vF {c:Nat} {rows:List (List Nat)} (hne:rows≠[]) (hf:∀ r∈rows,c∉r):Txt.split (tx (catL c rows)) (tx [c])=rows.map tx:=by
 have h1:=StrLaws.join_split (tx (catL c rows)) (tx [c])
 have h2:∀ p∈Txt.split (tx (catL c rows)) (tx [c]),c∉p.cps.toList:=StrLaws.split_free _ c
 have h3:=vE (tx (catL c rows)) (tx [c])
 generalize Txt.split (tx (catL c rows)) (tx [c])=S at*
 have e:S=(S.map (·.cps.toList)).map tx:=by
  rw [List.map_map]
  conv=>lhs; rw [← List.map_id S]
  exact List.map_congr_left fun x _=>(xX x).symm
 rw [e,lz] at h1
 have h4:=uR h1
 have h5:=qT (c:=c) (xs:=S.map (·.cps.toList)) (ys:=rows) (by simpa using h3) hne (fun x hx=>by obtain ⟨p,hp,rfl⟩:=List.mem_map.mp hx; exact h2 p hp) hf h4
 rw [e,h5]
end L2
namespace L2
end L2
namespace L2
open PySem PySem.Spec PyProof.Rows
local macro_rules | `(tactic| walk_at "w")=>`(tactic| (first | simp only [aF,a7,iV,bv,gJ,w_c,kM,gK,iq,gR,gS,w_b,w_not,jH,lZ,ir,iu,jI,iW,eY,l0,iv,jJ,iX,kN,jK,e5,iw,iy,iA,gq,gr,fG,fw,fz,dP,jL,jM,jN,jO,jP,jQ,jR,jS,jT,jU,jV,jW,l3,iB,fA,iC,l4,iD,gt,fB,jZ,j2,iE,gU,iF,
 List.getElem?_cons_zero,List.getElem?_cons_succ,Option.some.injEq,exists_eq_left',exists_eq_left,List.set_cons_zero,List.set_cons_succ,dN,V.int.injEq,V.bl.injEq,V.ref.injEq,V.str.injEq,List.append_nil,List.nil_append,List.cons_append] | dsimp only | skip))
section
variable {k:Nat} {tt:TT} {te:TE} {fin:Addr→Hp→Prop} {σ0:St} {H1:Hp}
theorem uS {cs:List Nat} (b:Nat→Bool) (f:Nat→V) (hn:cs.length≤900)
  (ht:∀ i c H R,cs[i]? =some c→Same H1 H→(∀ H',Same H H'→R (b i) H')→tt (σ0.set k (some (.str (tx [c])))) H R)
  (he:∀ i c H Q,cs[i]? =some c→b i=true→Same H1 H→(∀ H',Same H H'→Q (f i) H')→te (σ0.set k (some (.str (tx [c])))) H Q)
  (hd:∀ l H,H1 l=none→Same H1 H→H l=some (.lst (((List.range cs.length).filter b).map f))→fin l H):
  CompR (Its (tx cs)) (gName k) tt te fin σ0 H1:=by
 intro l hl
 have hsz:(tx cs).cps.size=cs.length:=by simp [tx]
 refine ⟨fun i m σ H=>m=cs.length - i∧i≤cs.length∧(σ=σ0∨∃ cv,σ=σ0.set k cv)∧Same H1 H∧H l=some (.lst (((List.range i).filter b).map f)),⟨cs.length,by simp,Nat.zero_le _,.inl rfl,(Same.refl H1).laid hl,by rw [ae]; rfl⟩,?_⟩
 rintro i m σ H ⟨rfl,hi,hσ,s1,el⟩
 by_cases hlt:i < cs.length
 · refine .inr ⟨by show i < (tx cs).cps.size; rw [hsz]; exact hlt,fun σ H=>(σ=σ0∨∃ cv,σ=σ0.set k cv)∧Same H1 H∧H l=some (.lst (((List.range (i+1)).filter b).map f)),fun σ' H' p'=>⟨cs.length - (i+1),by omega,rfl,hlt,p'⟩,?_⟩
   rintro x H' ⟨rfl,c,hc,rfl⟩
   have hc':cs[i]? =some c:=by simpa [tx] using hc
   show gName k (.str (tx [c])) σ H' _
   rw [bv]
   have e:σ.set k (some (.str (tx [c])))=σ0.set k (some (.str (tx [c]))):=by
    rcases hσ with rfl | ⟨cv,rfl⟩
    · rfl
    · exact List.set_set ..
   rw [e]
   refine ht i c H' _ hc' s1 fun H2 s2=>?_
   have el2:=s2 _ _ el
   cases hb:b i with
   | false=>
    rw [if_neg Bool.false_ne_true]
    refine ⟨.inr ⟨_,rfl⟩,s1.trans s2,?_⟩
    rw [List.range_succ,List.filter_append,List.filter_cons,hb]
    simpa using el2
   | true=>
    rw [if_pos rfl]
    refine he i c H2 _ hc' hb (s1.trans s2) fun H3 s3=>⟨_,s3 _ _ el2,by rw [List.length_map]; exact aE (Nat.le_trans (iH b hlt hn) (by decide)),.inr ⟨_,rfl⟩,((s1.trans s2).trans s3).own hl,?_⟩
    rw [ae,List.range_succ,List.filter_append,List.filter_cons,hb]
    simp
 · have e:i=cs.length:=by omega
   subst e
   exact .inl ⟨by show (tx cs).cps.size≤_; rw [hsz]; exact Nat.le_refl _,hd l H hl s1 el⟩
end
theorem pE {α:Type} (xs:List Int) (g:Int→α):(List.range xs.length).map (fun i=>g (xs.getD i 0))=xs.map g:=by
 have e:xs=(List.range xs.length).map fun i=>xs.getD i 0:=by
  refine List.ext_getElem? fun i=>?_
  rw [List.getElem?_map]
  by_cases h:i < xs.length
  · rw [List.getElem?_range h,List.getElem?_eq_getElem h]
    simp [List.getD,h]
  · rw [List.getElem?_eq_none (by omega),List.getElem?_eq_none (by simpa using h)]; rfl
 conv=>rhs; rw [e]
 rw [List.map_map]
 rfl
theorem kP {sep:Str} {ts:List Str} (h1:ts.length≤1000) (h2:∀ t∈ts,t.length≤1000) (h3:sep.length≤10):JoinOk sep ts=true:=by
 unfold JoinOk
 rw [Bool.not_eq_true']
 refine StrLaws.joinFits (B:=1000) h2 ?_
 have a1:ts.length*1000≤1000*1000:=Nat.mul_le_mul_right _ h1
 have a2:ts.length*sep.length≤1000*10:=Nat.mul_le_mul h1 h3
 omega
end L2
namespace L2
open PySem PySem.Spec PyProof.Rows
abbrev rIsN:R2:=fun x y H Q=>y=.non∧Q (.bl (decide (x=.non))) H
abbrev rNotN:R2:=fun x y H Q=>y=.non∧Q (.bl (!decide (x=.non))) H
def kStr:List V→Hp→VK→Prop
 | [.int i],H,Q=>i.natAbs.log2 < 1920∧Q (.str (Str.ofString (toString i))) H
 | _,_,_=>False
section
variable {X:Cx}
theorem fH:CallR X (.type "str") kStr:=by
 intro pins s σ H xs us Q I r h
 unfold kStr at h
 split at h
 · obtain ⟨hi,q⟩:=h
   cases r with
   | cons r0 rr=>
    cases rr
    obtain ⟨t,rfl⟩:=r0
    exact PySem.P.str_of_int hi ⟨.str _,H,I.tok _,⟨_,rfl⟩,q⟩
 · exact h.elim
end
section
variable {K:PySem.W.Frag} {H:Hp} {Q:VK}
theorem qg {x:V}:rIsN x .non H Q=Q (.bl (decide (x=.non))) H:=by simp [rIsN]
theorem m5 {x:V}:rNotN x .non H Q=Q (.bl (!decide (x=.non))) H:=by simp [rNotN]
theorem qh {i:Int}:kStr [.int i] H Q=(i.natAbs.log2 < 1920∧Q (.str (Str.ofString (toString i))) H):=rfl
end
end L2
namespace L2
open PySem PySem.Spec PyProof.Rows
structure Bt2 (mg:Str→Option Value):Prop extends Bt mg where
 all_:mg "all"=none
 sum_:mg "sum"=none
 enumerate_:mg "enumerate"=none
section
variable {K:PySem.W.Frag} {H:Hp} {Q:VK} {D:Ends} {σ:St} {g:TG} {tb:TS} {ta:TA} {ix:List (Option Nat)} {tt:TT} {te tf:TE} {k:Nat}
theorem qi:tIf tt te tf σ H Q=tt σ H fun c H1=>if c=true then te σ H1 Q else tf σ H1 Q:=rfl
theorem j7:tComp ix (mI ta) g tt te σ H Q=ta σ H fun vs H1=>∃ i j:Int,vs=[.int i,.int j]∧(-(2^62)≤i∧i < 2^62∧ -(2^62)≤j∧j < 2^62)∧CompR (Itr i (j - i).toNat) g tt te (fun l H'=>Q (.ref l) H') (subσ ix σ) H1:=rfl
theorem i6:sComp k ix (mI ta) g tt te D σ H=ta σ H fun vs H1=>∃ i j:Int,vs=[.int i,.int j]∧(-(2^62)≤i∧i < 2^62∧ -(2^62)≤j∧j < 2^62)∧CompR (Itr i (j - i).toNat) g tt te (fun l H'=>D.nx (σ.set k (some (.ref l))) H') (subσ ix σ) H1:=rfl
theorem isiE {x:V} {n t:String} {b:Bool} (hx:io H x=some t) (hn:lr n=true) (hb:isTy t n=b):kIsi [x,.ty n] H Q=Q (.bl b) H:=by
 subst hb
 show (lr n=true∧bnd (io H x) fun t=>Q (.bl (isTy t n)) H)=_
 rw [hx]
 simp only [hn,true_and,dN]
theorem j8 {i:Int}:kIsi [.int i,.ty "int"] H Q=Q (.bl true) H:=isiE (t:="int") rfl (by decide) (by decide)
theorem j9 {i:Int}:kIsi [.int i,.ty "bool"] H Q=Q (.bl false) H:=isiE (t:="int") rfl (by decide) (by decide)
theorem ka {i:Int}:kIsi [.int i,.ty "str"] H Q=Q (.bl false) H:=isiE (t:="int") rfl (by decide) (by decide)
theorem kb {i:Bool}:kIsi [.bl i,.ty "bool"] H Q=Q (.bl true) H:=isiE (t:="bool") rfl (by decide) (by decide)
theorem kc {i:Bool}:kIsi [.bl i,.ty "int"] H Q=Q (.bl true) H:=isiE (t:="bool") rfl (by decide) (by decide)
theorem kd {i:Str}:kIsi [.str i,.ty "str"] H Q=Q (.bl true) H:=isiE (t:="str") rfl (by decide) (by decide)
theorem ke {i:Bool}:kIsi [.bl i,.ty "str"] H Q=Q (.bl false) H:=isiE (t:="bool") rfl (by decide) (by decide)
theorem m6 {A B:Prop}:(if true=true then A else B)=A:=if_pos rfl
theorem m7 {A B:Prop}:(if false=true then A else B)=B:=if_neg Bool.false_ne_true
theorem m8 {i:Int}:rU (fun i=>.int (-i)) (.int i) H Q=Q (.int (-i)) H:=by
 refine propext ⟨?_,fun h=>⟨i,rfl,h⟩⟩
 rintro ⟨j,e,h⟩
 cases e
 exact h
theorem ixT {p:Addr} {i:Int} {xs:List V} {v:V} (h:H p=some (.tup xs)) (e:atI xs i=some v) (q:Q v H):cIx (.ref p) (.int i) H Q:=by
 rw [fv h]; exact aQ e q
theorem ixL {p:Addr} {i:Int} {xs:List V} {v:V} (h:H p=some (.lst xs)) (e:atI xs i=some v) (q:Q v H):cIx (.ref p) (.int i) H Q:=by
 rw [vV h]; exact aQ e q
theorem ixI {p:Addr} {i:Int} {ns:List Int} (h:H p=some (.lst (ns.map V.int))) (h0:0≤i) (h1:i < ns.length) (q:Q (.int (ns.getD i.toNat 0)) H):cIx (.ref p) (.int i) H Q:=ixL h (j6 h0 h1) q
end
end L2
namespace L2
open PySem PySem.Spec PyProof.Rows
end L2
namespace L2
open PySem PySem.Spec PyProof.Rows
end L2
namespace L2
open PySem PySem.Spec PyProof.Rows
end L2
namespace L2
open PySem PySem.Spec PyProof.Rows
end L2
namespace L2
open PySem PySem.Spec PyProof.Rows
end L2
namespace L2
open PySem PySem.Spec PyProof.Rows
def cMulB:R2
 | .int i,.int j,H,Q=>IntMulOk i j∧Q (.int (i*j)) H
 | _,_,_,_=>False
end L2
namespace Att
open PySem PySem.W PySem.Calls PyProof.Rows
end Att
namespace L2
open PySem PySem.Spec PyProof.Rows
section
variable {K:PySem.W.Frag} {H:Hp} {Q:VK} {D:Ends} {σ:St}
theorem yc {i j:Int}:cMulB (.int i) (.int j) H Q=(IntMulOk i j∧Q (.int (i*j)) H):=rfl
theorem qj {i j:Int}:cPow (.int i) (.int j) H Q=(CPow i j∧Q (.int (i^j.toNat)) H):=rfl
theorem sO {ix:List (Option Nat)} {tl:TE} {g:TG} {tt:TT} {te:TE}:tComp ix (iTup K tl) g tt te σ H Q=tl σ H fun x H1=>∃ a,x=.ref a∧(∃ xs,SqT K H1 a xs)∧CompR (Itt K a) g tt te (fun l H'=>Q (.ref l) H') (subσ ix σ) H1:=rfl
theorem xY {p:Addr} {bs:List Bool} (hp:H p=some (.lst (bs.map V.bl))) (h:Q (.bl (bs.any id)) H):kAny [.ref p] H Q:=by
 show bnd (unL (H p)) _
 rw [hp]
 exact aQ (a:=bs.map V.bl) rfl ⟨bs,rfl,h⟩
theorem m9 {p q:Addr} {xs ys:List V} (hp:H p=some (.lst xs)) (hq:H q=some (.lst ys)) (hn:xs.length+ys.length≤1000) (h:∀ r,H r=none→Q (.ref r) (upd H r (.lst (xs++ys)))):cAdd (.ref p) (.ref q) H Q:=by
 show bnd (unM (H p)) _
 rw [hp]
 refine aQ (a:=xs) rfl ?_
 rw [hq]
 exact aQ (a:=ys) rfl ⟨Nat.le_of_lt (aE hn),h⟩
theorem vG {g:TG} {tt:TT} {te:TE} {a:Addr} {xs:List V} {fin:Addr→Hp→Prop} {σ0:St} {H1:Hp} (Pv:Addr→Nat→St→Hp→Prop) (h0:∀ l,H1 l=none→Pv l 0 σ0 (upd H1 l (.lst []))) (hq:∀ l i σ H,H1 l=none→i≤xs.length→Pv l i σ H→SqT K H a xs)
  (hs:∀ l i x σ H,H1 l=none→xs[i]? =some x→Pv l i σ H→g x σ H fun σ2 H3=>tt σ2 H3 fun b H4=>if b=true then te σ2 H4 fun y H5=>∃ ys,H5 l=some (.lst ys)∧ys.length < sizeLine∧Pv l (i+1) σ2 (upd H5 l (.lst (ys++[y]))) else Pv l (i+1) σ2 H4)
  (hd:∀ l σ H,H1 l=none→Pv l xs.length σ H→fin l H):CompR (Itt K a) g tt te fin σ0 H1:=by
 intro l hl0
 refine ⟨fun i m σ H=>m=xs.length - i∧i≤xs.length∧Pv l i σ H,⟨xs.length,by simp,Nat.zero_le _,h0 l hl0⟩,?_⟩
 rintro i m σ H ⟨rfl,hi,p⟩
 have q:=hq l i σ H hl0 hi p
 by_cases hlt:i < xs.length
 · refine .inr ⟨⟨xs,xs[i],q,by simp [hlt]⟩,Pv l (i+1),fun σ' H' p'=>⟨xs.length - (i+1),by omega,rfl,hlt,p'⟩,fun x H' y=>?_⟩
   obtain ⟨e,y⟩:=y
   subst e
   exact hs l i x σ _ hl0 (y xs q) p
 · have e:i=xs.length:=by omega
   subst e
   exact .inl ⟨⟨xs,q,Nat.le_refl _⟩,hd l σ H hl0 p⟩
end
end L2
namespace L2
open PySem PySem.Spec PyProof.Rows
inductive RK where
 | Rule | Unlike | Sum | Rising | Seen | Count | Joined | NoSquare | Ring
 deriving DecidableEq
structure RCl (ι:Type) where
 A:ι→Addr
 ok:ι→Bool
section
variable {ι:Type}
def tFldK (c:RCl ι) (ta:TE) (f:Str):TE:=fun σ H Q=>ta σ H fun x H1=>∃ a k dx fs v,x=.ref a∧c.ok k=true∧H1 a=some (.ins (c.A k) dx fs)∧fs.lookup f=some v∧Q v H1
def sFldK (c:RCl ι) (ta tv:TE) (f:Str):TS:=fun D σ H=>tv σ H fun y H1=>ta σ H1 fun x H2=>∃ a k dx fs,x=.ref a∧c.ok k=true∧H2 a=some (.ins (c.A k) dx fs)∧fs.length < 1000∧
 D.nx σ (upd H2 a (.ins (c.A k) dx (putF f y fs)))
def aO (c:RCl ι) (okm:ι→Bool) (m:Str) (sp:ι→Sp) (ta:TE) (t:TA):TE:=fun σ H Q=>ta σ H fun x H1=>∃ a k dx fs,x=.ref a∧okm k=true∧H1 a=some (.ins (c.A k) dx fs)∧fs.lookup m=none∧
 t σ H1 fun vs H2=>sp k (x::vs) H2 Q E0
structure FldK (K:PySem.W.Frag) (c:RCl ι) (f:Str):Prop where
 ex:∀ k,c.ok k=true→Cls K (c.A k)∧NoAttr K (c.A k) f
structure MCal (P:Program) (w:World) (K:PySem.W.Frag) (mg:Str→Option Value) (base:Heap) (c:RCl ι) (okm:ι→Bool) (k:Nat) (m:Str) (ps:List Str) (sp:ι→Sp):Prop where
 ex:∀ i,okm i=true→∃ (f:Addr) (fd:FuncData),Cls K (c.A i)∧Meth K (c.A i) m f∧FnOk P w K mg base CX0 k f fd ps (sp i)∧Binds K fd ps []
structure KCal (P:Program) (w:World) (K:PySem.W.Frag) (mg:Str→Option Value) (base:Heap) (k:Nat) (x:Str) (C:Addr) (ps:List Str) (sp:Sp):Prop where
 ex:∃ (f:Addr) (fd:FuncData),Mk K C f∧FnOk P w K mg base CX0 k f fd ps sp∧mg x=some (.ref C)∧Binds K fd ps []
end
section
variable {ι:Type} {X:Cx} {c:RCl ι} {o e value:Expr} {es:List Expr} {f x m:Str} {p pos pos' apos:Pos} {ta tv:TE} {t:TA} {okm:ι→Bool} {k n:Nat} {ps:List Str} {sp:ι→Sp} {sp1:Sp} {C:Addr}
theorem bj (he:PE X e ta) (F:FldK X.K c f) (hb:attributeBase e f X.env (eval e X.env)=eval e X.env:=by rfl):PE X (.Attribute e f pos) (tFldK c ta f):=by
 intro pins s σ H Q I h
 refine wf hb (thn (he pins s σ H _ I h) fun u s1 ⟨x,H1,I1,rx,a,k,dx,fs,v,ex,hk,ea,l,q⟩=>?_)
 subst ex
 obtain rfl:u=Value.ref a:=rx
 obtain ⟨cl,na⟩:=F.ex k hk
 exact tw I1 ea cl na l fun u' s2 I2 ru=>⟨v,H1,I2,ru,q⟩
theorem fI (ha:PE X o ta) (hv:PE X value tv) (F:FldK X.K c f) (hs:swapsWith value (some (.Attribute o f pos')) pos.line X.env=pure false:=by rfl):PS X (.Assign [.Attribute o f pos'] value pos) (sFldK c ta tv f):=by
 intro pins s σ H D I h
 refine plainObj_wpAny_Assign_Attribute (thn (hv pins s σ H _ I h) fun u s1 ⟨y,H1,I1,ry,q⟩=>thn (ha pins s1 σ H1 _ I1 q) fun ov s2 ⟨x,H2,I2,rx,a,k,dx,fs,ex,hk,ea,l,q2⟩=>?_) hs
 subst ex
 obtain rfl:ov=Value.ref a:=rx
 obtain ⟨cl,na⟩:=F.ex k hk
 exact tz I2 ea cl na l ry fun s3 I3=>⟨σ,_,I3,q2⟩
theorem bp {pl:Sem Bool} (M:MCal X.prog X.w X.K X.mg X.base c okm k m ps sp) (hr:Room n X.A) (hk:k≤n) (he:PE X o ta) (ha:PA X (e::es) t)
  (hst:starEach (e::es) X.env=(false,eval e X.env)::starEach es X.env:=by rfl) (hpl:(backTo pos (starEach es X.env)).any (·.1)=false:=by rfl)
  (ht:eval (.Call (.Attribute o m apos) (e::es) [] pos) X.env=(do
   let ov ← eval o X.env
   standAt apos.atName
   let (f,first) ← holding [ov] (getMethod ov m pl)
   callWith pos f first (backTo pos (starEach (e::es) X.env)) (backToKw pos (keywordEach [] X.env))):=by rfl):
  PE X (.Call (.Attribute o m apos) (e::es) [] pos) (aO c okm m sp ta t):=by
 intro pins s σ H Q I h
 refine PySem.W.methodCall_KW (pl:=pl) (thn (he pins s σ H _ I h) fun u s1 ⟨x,H1,I1,rx,a,i,dx,fs,ex,hi,ea,l,q⟩=>?_) ht
 subst ex
 obtain rfl:u=Value.ref a:=rx
 obtain ⟨f,fd,cl,hm,F,hb⟩:=M.ex i hi
 refine mJ I1 ea cl hm l ?_
 refine PySem.W.callWith_K (first:=[.ref a]) (h₀:=X.base) I.ok.mod.kin hm.kp (thn (ha pos pins s1 σ H1 _ I1 q) fun us s2 ⟨vs,H2,I2,r,q2⟩=>⟨I2.kIn,?_⟩) hst hpl
 exact qw (us:=.ref a::us) (vs:=.ref a::vs) F (hr.mono hk) hb .nil mL I2 (.cons rfl r) (by rw [List.append_nil]; exact q2)
theorem cZ {pl:Sem Bool} (M:MCal X.prog X.w X.K X.mg X.base c okm k m ps sp) (hr:Room n X.A) (hk:k≤n) (he:PE X o ta)
  (ht:eval (.Call (.Attribute o m apos) [] [] pos) X.env=(do
   let ov ← eval o X.env
   standAt apos.atName
   let (f,first) ← holding [ov] (getMethod ov m pl)
   callWith pos f first (backTo pos (starEach [] X.env)) (backToKw pos (keywordEach [] X.env))):=by rfl):
  PE X (.Call (.Attribute o m apos) [] [] pos) (aO c okm m sp ta tNil):=by
 intro pins s σ H Q I h
 refine PySem.W.methodCall_KW (pl:=pl) (thn (he pins s σ H _ I h) fun u s1 ⟨x,H1,I1,rx,a,i,dx,fs,ex,hi,ea,l,q⟩=>?_) ht
 subst ex
 obtain rfl:u=Value.ref a:=rx
 obtain ⟨f,fd,cl,hm,F,hb⟩:=M.ex i hi
 refine mJ I1 ea cl hm l ?_
 exact PySem.W.callWith_K0 (first:=[.ref a]) I1.kIn hm.kp (qw (us:=[.ref a]) (vs:=[.ref a]) F (hr.mono hk) hb .nil mL I1 (.cons rfl .nil) q)
theorem ia (M:KCal X.prog X.w X.K X.mg X.base k x C ps sp1) (hr:Room n X.A) (hk:k+1≤n) (hg:Gl X x) (ha:PA X (e::es) t)
  (hdb:(x==("__debug__":Str))=false:=by decide) (he:starEach (e::es) X.env=(false,eval e X.env)::starEach es X.env:=by rfl) (hpl:(backTo pos (starEach es X.env)).any (·.1)=false:=by rfl):
  PE X (.Call (.Name x p) (e::es) [] pos) (tMake C sp1 [] E0 t):=by
 obtain ⟨f,fd,mk,F,hm,hb⟩:=M.ex
 exact wg mk F (hr.mono hk) hg hm hb .nil mL ha hdb he hpl
end
def iI (K:PySem.W.Frag):List V→Hp→VK→Prop
 | [.ref p],H,Q=>bnd (unM (H p)) fun ys=>∀ l,H l=none→Q (.ref l) (upd H l (.tup ys))
 | _,_,_=>False
def tInG (ws:List Str) (neg:Bool) (te:TE):TE:=fun σ H Q=>te σ H fun x H1=>∃ z,x=.str z∧Q (.bl (if neg then !decide (z∈ws) else decide (z∈ws))) H1
structure GTup (K:PySem.W.Frag) (mg:Str→Option Value) (x:Str) (ws:List Str):Prop where
 ex:∃ (p:Addr) (o:Obj) (its:Array Value) (n:Nat),mg x=some (.ref p)∧K.lookup p=some o∧o.cls=.type "tuple"∧o.data=.seq its n∧its.size≤sizeLine∧Vals (ws.map V.str) its.toList
theorem kQ:∀ ns:List Str,(ns.map V.str).all flatV=true
 | []=>rfl
 | n::r=>by rw [List.map_cons,List.all_cons,kQ r]; rfl
theorem l5 (i:Str):∀ ns:List Str,inV (.str i) (ns.map V.str)=decide (i∈ns)
 | []=>by simp [inV]
 | n::r=>by
  have ih:=l5 i r
  unfold inV at ih ⊢
  rw [List.map_cons,List.any_cons,ih]
  show ((n==i)||decide (i∈r))=decide (i∈n::r)
  rw [Bool.eq_iff_iff,Bool.or_eq_true,beq_iff_eq,decide_eq_true_eq,decide_eq_true_eq,List.mem_cons]
  exact ⟨fun h=>h.elim (fun e=>.inl e.symm) .inr,fun h=>h.elim (fun e=>.inl e.symm) .inr⟩
section
variable {X:Cx} {a:Expr} {ta:TE} {pos p:Pos} {x:Str} {ws:List Str}
theorem lU:CallR X (.type "tuple") (iI X.K):=by
 intro pins s σ H xs us Q I r h
 unfold iI at h
 split at h
 · obtain ⟨ys,e,q⟩:=aS h
   exact pB pins s σ H _ us Q I r ⟨_,ys,rfl,.inl ⟨SqL.of (eQ e),q⟩⟩
 · exact h.elim
theorem xv {ws:List Str} {q:Addr} (hq:∃ (o:Obj) (its:Array Value) (n:Nat),X.K.lookup q=some o∧o.cls=.type "tuple"∧o.data=.seq its n∧its.size≤sizeLine∧Vals (ws.map V.str) its.toList):
  OpR X (compareOp .In) (fun x y H Q=>∃ z,x=.str z∧y=.ref q∧Q (.bl (decide (z∈ws))) H):=by
 intro pins s σ H x y v u Q I rx ry h
 obtain ⟨z,rfl,rfl,h⟩:=h
 refine oZ pins s σ H _ _ v u Q I rx ry ⟨q,ws.map V.str,rfl,.inr (.inr hq),rfl,kQ ws,?_⟩
 rw [l5]
 exact h
theorem wy {ws:List Str} {q:Addr} (hq:∃ (o:Obj) (its:Array Value) (n:Nat),X.K.lookup q=some o∧o.cls=.type "tuple"∧o.data=.seq its n∧its.size≤sizeLine∧Vals (ws.map V.str) its.toList):
  OpR X (compareOp .NotIn) (fun x y H Q=>∃ z,x=.str z∧y=.ref q∧Q (.bl (!decide (z∈ws))) H):=by
 intro pins s σ H x y v u Q I rx ry h
 obtain ⟨z,rfl,rfl,h⟩:=h
 refine kG pins s σ H _ _ v u Q I rx ry ⟨q,ws.map V.str,rfl,.inr (.inr hq),rfl,kQ ws,?_⟩
 rw [l5]
 exact h
end
section
variable {ι:Type} {c:RCl ι} {ta tv:TE} {t:TA} {f m:Str} {σ:St} {H:Hp} {Q:VK} {D:Ends} {okm:ι→Bool} {sp:ι→Sp} {sp1:Sp} {C:Addr} {K:PySem.W.Frag}
theorem nc:tMake C sp1 [] E0 t σ H Q=t σ H fun vs H1=>∀ x dx,H1 x=none→H1 dx=none→dx≠x→sp1 (.ref x::(vs++[])) (upd (upd H1 dx (.own x)) x (.ins C dx [])) (fun v H2=>v=.non∧Q (.ref x) H2) E0:=rfl
theorem qk {ws:List Str} {neg:Bool} {te:TE}:tInG ws neg te σ H Q=te σ H fun x H1=>∃ z,x=.str z∧Q (.bl (if neg then !decide (z∈ws) else decide (z∈ws))) H1:=rfl
theorem wz {p:Addr} {xs:List V} (hp:H p=some (.lst xs)) (h:∀ l,H l=none→Q (.ref l) (upd H l (.tup xs))):iI K [.ref p] H Q:=by
 unfold iI
 dsimp only
 rw [hp]
 exact h
end
end L2
namespace L2
open PySem PySem.Spec PyProof.Rows
def cntD (ns:List Int):Nat:=(firstMet (fun i=>ns.getD i 0) ns.length).length
def lA (te:TE):TE:=fun σ H Q=>te σ H fun x H1=>∃ p ns,x=.ref p∧H1 p=some (.lst (ns.map V.int))∧ns.length≤900∧Q (.int (cntD ns:Nat)) H1
theorem kf {te:TE} {σ:St} {H:Hp} {Q:VK}:lA te σ H Q=te σ H fun x H1=>∃ p ns,x=.ref p∧H1 p=some (.lst (ns.map V.int))∧ns.length≤900∧Q (.int (cntD ns:Nat)) H1:=rfl
theorem wA:bootBuiltins "set"=some (.type "set"):=by decide+kernel
theorem pc {X:Cx} {e:Expr} {te:TE} {p p2 pos pos2:Pos} (hc:X.calm=true) (hgl:Gl X "len") (hgs:Gl X "set") (hl:X.mg "len"=none) (hs:X.mg "set"=none) (he:PE X e te)
  (hs1:starEach [.Call (.Name "set" p2) [e] [] pos2] X.env=[(false,eval (.Call (.Name "set" p2) [e] [] pos2) X.env)]:=by rfl) (hs2:starEach [e] X.env=[(false,eval e X.env)]:=by rfl):
  PE X (.Call (.Name "len" p) [.Call (.Name "set" p2) [e] [] pos2] [] pos) (lA te):=by
 intro pins s σ H Q I h
 refine wpAny_Call_Name_kw (cK I hgl hl bh ?_ (by decide) (by decide))
 refine PyProof.Rows.callWith_builtin1 ?_ hs1 rfl
 rw [hs1]
 show wpAny _ _ (spliced [(false,eval (.Call (.Name "set" p2) [e] [] pos2) X.env)]) _ _ s
 refine Calls.spliced_cons ?_
 refine wpAny_Call_Name_kw (cK I hgs hs wA ?_ (by decide) (by decide))
 refine PyProof.Rows.callWith_type1 ?_ hs2 rfl
 rw [hs2]
 show wpAny _ _ (spliced [(false,eval e X.env)]) _ _ s
 refine Calls.spliced_cons (thn (he pins s σ H _ I h) fun u s1 ⟨x,H1,I1,r1,q1⟩=>?_)
 refine Calls.spliced_nil ?_
 obtain ⟨l,ns,rfl,hys,hn,q⟩:=q1
 cases r1
 obtain ⟨its,n,rv,ho,hz⟩:=I1.lst hys
 have hL:s1.heap.IsList l its.toArray:=⟨_,ho,rfl,n,rfl⟩
 have hI:IntsAre its ns:=mK rv
 have hlen:=rv.length
 rw [List.length_map] at hlen
 refine call_set_list (ns:=ns) (I.ok.hd hc) hL (by simpa using hI) (by rw [List.size_toArray,← hlen]; exact Nat.lt_of_le_of_lt (Nat.succ_le_succ hn) (by decide)) fun h' tk hS old=>?_
 refine Calls.spliced_nil ?_
 obtain ⟨o,es,ep,t,h1,h2,h3,h4,h5,h6,h7,h8⟩:=hS
 have hb:(firstMet (fun i=>ns.getD i 0) its.toArray.size).length≤900:=Nat.le_trans (firstMet_length_le _ _) (by rw [List.size_toArray,← hlen]; exact hn)
 refine call_len_set h1 h2 h3 h7 (by omega) ?_
 have I2:Inv X pins σ H1 { s1 with heap:=h',toks:=tk }:=I1.kept fun b o' e=>old b o' (Heap.lt_size e) e
 refine ⟨.int _,H1,I2.tok _,⟨_,rfl⟩,?_⟩
 rw [h8,List.size_toArray,← hlen]
 exact q
def gX:V→List V→Hp→VK→Prop
 | .str sep,[.ref p],H,Q=>bnd (unS (H p)) fun ys=>∃ ts:List Str,ys=ts.map V.str∧JoinOk sep ts=true∧Q (.str (Txt.join sep ts)) H
 | _,_,_,_=>False
theorem pd {X:Cx}:MtR X "str.join" gX:=by
 intro pins s σ H x vs v us Q I rx rv h
 unfold gX at h
 split at h
 · rename_i sep p
   obtain ⟨ys,e,ts,rfl,hok,q⟩:=aS h
   rcases js (K:=X.K) e with hq | hq
   · obtain ⟨t,rfl⟩:=rx
     obtain ⟨u,rfl,ru⟩:=cD rv
     cases ru
     obtain ⟨its,rvv,pl,hz⟩:=I.list hq
     obtain ⟨l,rfl,hl⟩:=ou rvv
     exact SC.join pl.isList hl hok fun t' k=>⟨.str _,H,I.tok k,⟨t',rfl⟩,q⟩
   · obtain ⟨t,rfl⟩:=rx
     obtain ⟨u,rfl,ru⟩:=cD rv
     cases ru
     obtain ⟨its,rvv,pl,hz⟩:=I.tuple hq
     obtain ⟨l,rfl,hl⟩:=ou rvv
     subst hl
     obtain ⟨o,h1,h2,n,h3⟩:=pl
     have hok':=hok
     unfold JoinOk at hok'
     rw [Bool.not_eq_true'] at hok'
     exact call_meets F.slot_str_join (typeIs_str _ _ _) F.entry_str_join (F.args_str_join_2 _ _) (meets_str_join_tuple sep t p l hok') ⟨⟨o,n,h1,h2,h3⟩,post_join l ⟨joinFit_length hok',fun t' k=>⟨.str _,H,I.tok k,⟨t',rfl⟩,q⟩⟩⟩
 · exact h.elim
end L2
namespace L2
open PySem PySem.Spec PyProof.Rows
section
variable {X:Cx} {e:Expr} {te:TE} {p2 p3 p4 pos:Pos} {z0:Nat}
def ng:V→List V→Hp→VK→Prop
 | .ref l,[.int i],H,Q=>bnd (unM (H l)) fun xs=>0≤i∧i < xs.length∧bnd (xs[i.toNat]?) fun y=>Q y (upd H l (.lst (xs.eraseIdx i.toNat)))
 | _,_,_,_=>False
theorem seqIx {i:Int} {n:Nat} (h0:0≤i) (h1:i < n):seqIndex? i n=some i.toNat:=by
 obtain ⟨k,rfl⟩:=Int.eq_ofNat_of_zero_le h0
 have hk:k < n:=by omega
 unfold seqIndex?
 have hn:¬ ((k:Int) < 0):=by omega
 simp [hk,hn]
theorem uT:MtR X "list.pop" ng:=by
 intro pins s σ H x vs v us Q I rx rv h
 unfold ng at h
 split at h
 · obtain ⟨xs,e,h0,h1,h⟩:=aS h
   obtain ⟨y,ey,q⟩:=aS h
   have hz:xs.length≤sizeLine:=(I.lstM (eQ e)).1
   have hs:(sizeLine:Int) < 2^63:=by decide
   exact vx pins s σ H _ _ v us Q I rx rv ⟨_,xs,_,_,y,rfl,rfl,eQ e,by omega,by omega,seqIx h0 h1,ey,q⟩
 · exact h.elim
def tRevL (te:TE):TE:=fun σ H Q=>te σ H fun x H1=>∃ p xs,x=.ref p∧H1 p=some (.lst xs)∧∀ l,H1 l=none→Q (.ref l) (upd H1 l (.lst xs.reverse))
end
section
variable {σ:St} {H:Hp} {Q:VK} {te:TE}
theorem ql {i j:Int} {H:Hp} {Q:VK}:kMax [.int i,.int j] H Q=Q (.int (if j > i then j else i)) H:=rfl
theorem nh:tRevL te σ H Q=te σ H fun x H1=>∃ p xs,x=.ref p∧H1 p=some (.lst xs)∧∀ l,H1 l=none→Q (.ref l) (upd H1 l (.lst xs.reverse)):=rfl
theorem wB {l:Addr} {i:Int} {xs:List V} {y:V} (hl:H l=some (.lst xs)) (h0:0≤i) (h1:i < xs.length) (ey:xs[i.toNat]? =some y) (q:Q y (upd H l (.lst (xs.eraseIdx i.toNat)))):ng (.ref l) [.int i] H Q:=by
 show bnd (unM (H l)) _
 rw [hl]
 exact aQ (a:=xs) rfl ⟨h0,h1,aQ ey q⟩
end
end L2
namespace L2
open PySem PySem.Spec PyProof.Rows
theorem tR:typeLookup (.type "str") (Str.ofString "__int__")=pure none:=by rw [typeLookup_type,builtinLookup_eq_fast]; kernel_rfl
theorem qU:typeLookup (.type "str") (Str.ofString "__index__")=pure none:=by rw [typeLookup_type,builtinLookup_eq_fast]; kernel_rfl
theorem qV:typeLookup (.type "str") (Str.ofString "__trunc__")=pure none:=by rw [typeLookup_type,builtinLookup_eq_fast]; kernel_rfl
def numC (n:Nat):List Nat:=if n < 10 then [48+n] else [48+n / 10,48+n % 10]
theorem uU {n:Nat} (h:n < 100):((tx (numC n)).cps.all fun x=>decide (x < 128))=true:=by
 have t:((List.range 100).all fun n=>(tx (numC n)).cps.all fun x=>decide (x < 128))=true:=by decide+kernel
 exact List.all_eq_true.mp t n (List.mem_range.mpr h)
theorem uV {α:Type} {M:Model} {A:Around} {E:Value→Shared→Prop} {s:Shared} {Q:α→Shared→Prop} {m m':Sem α} (e:m=m') (h:wpAny M A m' Q E s):wpAny M A m Q E s:=e ▸ h
set_option maxHeartbeats 4000000 in
theorem gis (n:Nat) (hn:n < 100) (u:Tok):Gives (Builtin.«int.__new__» ⟨[.type "int",.str (tx (numC n)) u],[]⟩) (.int n):=
 .of_wp fun M A E s Q h=>by
  obtain ⟨hp,g,d,tk,os⟩:=s
  have f1:=PySem.F.conv_sub_int
  have f2:=PySem.F.madeHere_int
  have f3:=tR
  have f4:=qU
  have f5:=qV
  iterate 44 (any_goals (first | assumption | wp_step))
  refine wpAny_bind (wpAny_of_eq (a:=some (tx (numC n))) rfl ?_)
  refine wpAny_of_eq (a:=some (numC n)) ?e1 ?_
  case e1=>
   show (pure (some (if ((tx (numC n)).cps.all fun x=>decide (x < 128))=true then (tx (numC n)).cps.toList else _)):Sem _)=_
   rw [if_pos (uU hn),m3]
  refine uV (m':=mkInt (n:Int)) ?e2 ?_
  case e2=>
   clear h f1 f2 f3 f4 f5
   match n,hn with | 0,_=>kernel_rfl | 1,_=>kernel_rfl | 2,_=>kernel_rfl | 3,_=>kernel_rfl | 4,_=>kernel_rfl | 5,_=>kernel_rfl | 6,_=>kernel_rfl | 7,_=>kernel_rfl | 8,_=>kernel_rfl | 9,_=>kernel_rfl | 10,_=>kernel_rfl | 11,_=>kernel_rfl | 12,_=>kernel_rfl | 13,_=>kernel_rfl | 14,_=>kernel_rfl | 15,_=>kernel_rfl | 16,_=>kernel_rfl | 17,_=>kernel_rfl | 18,_=>kernel_rfl | 19,_=>kernel_rfl | 20,_=>kernel_rfl | 21,_=>kernel_rfl | 22,_=>kernel_rfl | 23,_=>kernel_rfl | 24,_=>kernel_rfl | 25,_=>kernel_rfl | 26,_=>kernel_rfl | 27,_=>kernel_rfl | 28,_=>kernel_rfl | 29,_=>kernel_rfl | 30,_=>kernel_rfl | 31,_=>kernel_rfl | 32,_=>kernel_rfl | 33,_=>kernel_rfl | 34,_=>kernel_rfl | 35,_=>kernel_rfl | 36,_=>kernel_rfl | 37,_=>kernel_rfl | 38,_=>kernel_rfl | 39,_=>kernel_rfl | 40,_=>kernel_rfl | 41,_=>kernel_rfl | 42,_=>kernel_rfl | 43,_=>kernel_rfl | 44,_=>kernel_rfl | 45,_=>kernel_rfl | 46,_=>kernel_rfl | 47,_=>kernel_rfl | 48,_=>kernel_rfl | 49,_=>kernel_rfl | 50,_=>kernel_rfl | 51,_=>kernel_rfl | 52,_=>kernel_rfl | 53,_=>kernel_rfl | 54,_=>kernel_rfl | 55,_=>kernel_rfl | 56,_=>kernel_rfl | 57,_=>kernel_rfl | 58,_=>kernel_rfl | 59,_=>kernel_rfl | 60,_=>kernel_rfl | 61,_=>kernel_rfl | 62,_=>kernel_rfl | 63,_=>kernel_rfl | 64,_=>kernel_rfl | 65,_=>kernel_rfl | 66,_=>kernel_rfl | 67,_=>kernel_rfl | 68,_=>kernel_rfl | 69,_=>kernel_rfl | 70,_=>kernel_rfl | 71,_=>kernel_rfl | 72,_=>kernel_rfl | 73,_=>kernel_rfl | 74,_=>kernel_rfl | 75,_=>kernel_rfl | 76,_=>kernel_rfl | 77,_=>kernel_rfl | 78,_=>kernel_rfl | 79,_=>kernel_rfl | 80,_=>kernel_rfl | 81,_=>kernel_rfl | 82,_=>kernel_rfl | 83,_=>kernel_rfl | 84,_=>kernel_rfl | 85,_=>kernel_rfl | 86,_=>kernel_rfl | 87,_=>kernel_rfl | 88,_=>kernel_rfl | 89,_=>kernel_rfl | 90,_=>kernel_rfl | 91,_=>kernel_rfl | 92,_=>kernel_rfl | 93,_=>kernel_rfl | 94,_=>kernel_rfl | 95,_=>kernel_rfl | 96,_=>kernel_rfl | 97,_=>kernel_rfl | 98,_=>kernel_rfl | 99,_=>kernel_rfl | (m+100),hm=>exact absurd hm (by omega)
  repeat (any_goals (first | assumption | wp_step))
  all_goals first | exact ⟨_,rfl,h⟩ | skip
def kg:List V→Hp→VK→Prop
 | [.int i],H,Q=>Q (.int i) H
 | [.bl k],H,Q=>Q (.int (if k then 1 else 0)) H
 | [.str z],H,Q=>∃ n:Nat,n < 100∧z=tx (numC n)∧Q (.int n) H
 | _,_,_=>False
theorem ni {X:Cx}:CallR X (.type "int") kg:=by
 intro pins s σ H xs us Q I r h
 unfold kg at h
 split at h
 · exact oU pins s σ H _ us Q I r (.inl ⟨_,rfl,h⟩)
 · exact oU pins s σ H _ us Q I r (.inr ⟨_,rfl,h⟩)
 · obtain ⟨n,hn,rfl,q⟩:=h
   obtain ⟨u,rfl,ru⟩:=cD r
   obtain ⟨t,rfl⟩:=ru
   exact call_int_1 (gis n hn t).meets (show (Made.int (n:Int)).post _ s from ⟨rfl,⟨.int n,H,I.tok _,⟨_,rfl⟩,q⟩⟩)
 · exact h.elim
theorem jv {k:Bool} {H:Hp} {Q:VK}:kg [.bl k] H Q=Q (.int (if k then 1 else 0)) H:=rfl
theorem lB {i:Int} {H:Hp} {Q:VK}:kg [.int i] H Q=Q (.int i) H:=rfl
theorem jw {n:Nat} (h:n < 100):Str.ofString (toString (n:Int))=tx (numC n):=by
 have t:((List.range 100).all fun (n:Nat)=>decide (Str.ofString (toString (n:Int))=tx (numC n)))=true:=by decide+kernel
 simpa using List.all_eq_true.mp t n (List.mem_range.mpr h)
theorem l6 {n:Nat} (h:n < 100):32∉numC n:=by
 have t:((List.range 100).all fun (n:Nat)=>decide (32∉numC n))=true:=by decide+kernel
 simpa using List.all_eq_true.mp t n (List.mem_range.mpr h)
theorem xw {n:Nat} (h:n < 100):numC n≠[]:=by unfold numC; split <;> simp
theorem jx {n:Nat}:(numC n).length≤2:=by unfold numC; split <;> simp
theorem vH {n:Nat} (h:n < 100):((numC n).head? =some 48→n=0)∧numC 0=[48]:=by
 have t:((List.range 100).all fun (n:Nat)=>decide ((numC n).head? =some 48→n=0))=true:=by decide+kernel
 exact ⟨of_decide_eq_true (List.all_eq_true.mp t n (List.mem_range.mpr h)),rfl⟩
theorem sP {n:Nat} (h:n < 100):∀ c∈numC n,48≤c∧c≤57:=by
 have t:((List.range 100).all fun (n:Nat)=>(numC n).all fun c=>decide (48≤c∧c≤57))=true:=by decide+kernel
 intro c hc
 simpa using List.all_eq_true.mp (List.all_eq_true.mp t n (List.mem_range.mpr h)) c hc
end L2
namespace L2
open PySem PySem.Spec PyProof.Rows
local macro_rules | `(tactic| walk_at "w")=>`(tactic| (first | simp only [aF,a7,iV,bv,gJ,w_c,kM,gK,iq,gR,gS,w_b,w_not,jH,lZ,ir,iu,jI,iW,eY,l0,iv,jJ,iX,kN,jK,e5,iw,iy,iA,gq,gr,fG,fw,fz,dP,jL,jM,jN,jO,jP,jQ,jR,jS,jT,jU,jV,jW,l3,iB,fA,iC,l4,iD,gt,fB,jZ,j2,iE,gU,iF,
 List.getElem?_cons_zero,List.getElem?_cons_succ,Option.some.injEq,exists_eq_left',exists_eq_left,List.set_cons_zero,List.set_cons_succ,dN,V.int.injEq,V.bl.injEq,V.ref.injEq,V.str.injEq,List.append_nil,List.nil_append,List.cons_append] | dsimp only | skip))
def aN (K:PySem.W.Frag):Sp:=fun vs H Q _=>∃ (a:Addr) (h w g:Int),vs=[.ref a]∧IsFl H a h w g∧1≤h∧h≤6∧Q (.int (h*w)) H
theorem pF {K:PySem.W.Frag} {vs:List V} {H:Hp} {Q:VK} {E:XK} (h:aN K vs H Q E):vs.length=1:=by
 obtain ⟨_,_,_,_,rfl,_⟩:=h; rfl
def fc (K:PySem.W.Frag):TS:=
 (tRet (tOp cMul (tOp cIx (tVar 0) (tC (.int 0))) (tOp cIx (tVar 0) (tC (.int 1)))))
theorem pG {K:PySem.W.Frag} {vs:List V} {H:Hp} {Q:VK} {E:XK} (h:aN K vs H Q E):fc K { nx:=fun _ H'=>Q .non H',rt:=Q } (start ["floor"] vs) H:=by
 obtain ⟨a,h,w,g,rfl,ha,h0,h1,q⟩:=h
 show fc K _ [some (.ref a)] H
 unfold fc
 walk_at "w"
 rw [fv ha]
 refine aQ (a:=V.int h) rfl ?_
 walk_at "w"
 rw [fv ha]
 refine aQ (a:=V.int w) rfl ?_
 walk_at "w"
 exact ⟨gW h0 h1,q⟩
def cornB (h w c:Int):Bool:=decide (c / w < h - 1)&&decide (c % w < w - 1)
def cO (K:PySem.W.Frag):Sp:=fun vs H Q _=>∃ (a:Addr) (h w g c:Int),vs=[.ref a,.int c]∧IsFl H a h w g∧0 < w∧w < 100∧∀ H',Same H H'→Q (.bl (cornB h w c)) H'
theorem qW {K:PySem.W.Frag} {vs:List V} {H:Hp} {Q:VK} {E:XK} (h:cO K vs H Q E):vs.length=2:=by
 obtain ⟨_,_,_,_,_,rfl,_⟩:=h; rfl
def fQ (K:PySem.W.Frag):TS:=
 (tSeq (tAsg (tCall (cx K) [] E0 (tCons (tVar 0) (tCons (tVar 1) tNil))) (gName 2))
  (tRet (tAndV (tOp (cCmp fun i j=>decide (i < j)) (tOp cIx (tVar 2) (tC (.int 0))) (tOp cSub (tOp cIx (tVar 0) (tC (.int 0))) (tC (.int 1)))) (tOp (cCmp fun i j=>decide (i < j)) (tOp cIx (tVar 2) (tC (.int 1))) (tOp cSub (tOp cIx (tVar 0) (tC (.int 1))) (tC (.int 1)))))))
theorem qX {K:PySem.W.Frag} {vs:List V} {H:Hp} {Q:VK} {E:XK} (h:cO K vs H Q E):fQ K { nx:=fun _ H'=>Q .non H',rt:=Q } (start ["floor","cell","spot"] vs) H:=by
 obtain ⟨a,h,w,g,c,rfl,ha,w0,w1,k⟩:=h
 show fQ K _ [some (.ref a),some (.int c),none] H
 unfold fQ
 walk_at "w"
 refine ⟨a,h,w,g,c,rfl,ha,w0,w1,fun p hp=>?_⟩
 have s1:Same H (upd H p (.tup [.int (c / w),.int (c % w)])):=(Same.refl H).laid hp
 have k1:=k _ s1
 have ha1:=s1 _ _ ha
 have hp1:(upd H p (.tup [.int (c / w),.int (c % w)])) p=some (.tup [.int (c / w),.int (c % w)]):=ae
 generalize upd H p (.tup [.int (c / w),.int (c % w)])=H1 at*
 walk_at "w"
 rw [fv hp1]
 refine aQ (a:=V.int (c / w)) rfl ?_
 walk_at "w"
 rw [fv ha1]
 refine aQ (a:=V.int h) rfl ?_
 walk_at "w"
 unfold cornB at k1
 cases hb:decide (c / w < h - 1) with
 | false=>
  rw [hb,Bool.false_and] at k1
  exact iteF k1
 | true=>
  rw [hb,Bool.true_and] at k1
  refine iteT ?_
  rw [fv hp1]
  refine aQ (a:=V.int (c % w)) rfl ?_
  walk_at "w"
  rw [fv ha1]
  refine aQ (a:=V.int w) rfl ?_
  walk_at "w"
  exact k1
def sqL (w c:Int):List Int:=[c,c+1,c+w,c+w+1]
def cP (K:PySem.W.Frag):Sp:=fun vs H Q _=>∃ (a:Addr) (h w g c:Int),vs=[.ref a,.int c]∧IsFl H a h w g∧∀ p,H p=none→Q (.ref p) (upd H p (.lst ((sqL w c).map V.int)))
theorem qY {K:PySem.W.Frag} {vs:List V} {H:Hp} {Q:VK} {E:XK} (h:cP K vs H Q E):vs.length=2:=by
 obtain ⟨_,_,_,_,_,rfl,_⟩:=h; rfl
def fR (K:PySem.W.Frag):TS:=
 (tSeq (tAsg (tOp cAdd (tVar 1) (tOp cIx (tVar 0) (tC (.int 1)))) (gName 2))
  (tRet (tLst (tCons (tVar 1) (tCons (tOp cAdd (tVar 1) (tC (.int 1))) (tCons (tVar 2) (tCons (tOp cAdd (tVar 2) (tC (.int 1))) tNil)))))))
theorem qZ {K:PySem.W.Frag} {vs:List V} {H:Hp} {Q:VK} {E:XK} (h:cP K vs H Q E):fR K { nx:=fun _ H'=>Q .non H',rt:=Q } (start ["floor","corner","below"] vs) H:=by
 obtain ⟨a,h,w,g,c,rfl,ha,k⟩:=h
 show fR K _ [some (.ref a),some (.int c),none] H
 unfold fR
 walk_at "w"
 rw [fv ha]
 refine aQ (a:=V.int w) rfl ?_
 walk_at "w"
 exact ⟨aC (by show (4:Nat)≤1000; decide),k⟩
def squL (h w:Int):List (List Int):=((List.range (h*w).toNat).filter fun (i:Nat)=>cornB h w i).map fun (i:Nat)=>sqL w i
def d7 (K:PySem.W.Frag):Sp:=fun vs H Q _=>∃ (a:Addr) (h w g:Int),vs=[.ref a]∧IsFl H a h w g∧FlOk h w g∧
 ∀ l as H',Same H H'→H l=none→IsLL H' l as (squL h w)→as.Nodup→l∉as→(∀ a∈as,H a=none)→Q (.ref l) H'
theorem tS {K:PySem.W.Frag} {vs:List V} {H:Hp} {Q:VK} {E:XK} (h:d7 K vs H Q E):vs.length=1:=by
 obtain ⟨_,_,_,_,rfl,_⟩:=h; rfl
def ib (K:PySem.W.Frag):TS:=
 (tRet (tComp [none,none,some 0] (fM (tCons (tCall (aN K) [] E0 (tCons (tVar 0) tNil)) tNil)) (gName 1) (tB (tCall (cO K) [] E0 (tCons (tVar 2) (tCons (tVar 1) tNil)))) (tCall (cP K) [] E0 (tCons (tVar 2) (tCons (tVar 1) tNil)))))
theorem NewAt.ll {H1 H:Hp} {l:Addr} {as:List Addr} {xss:List (List Int)} (x:NewAt H1 H l as (xss.map fun xs=>.lst (xs.map V.int))) (e:H l=some (.lst (as.map V.ref))):IsLL H l as xss:=
 ⟨e,by rw [x.len,List.length_map],fun j a xs h1 h2=>x.at_ j a _ h1 (by rw [List.getElem?_map,h2]; rfl)⟩
theorem tT {K:PySem.W.Frag} {vs:List V} {H:Hp} {Q:VK} {E:XK} (h:d7 K vs H Q E):ib K { nx:=fun _ H'=>Q .non H',rt:=Q } (start ["floor"] vs) H:=by
 obtain ⟨a,h,w,g,rfl,ha,F,k⟩:=h
 obtain ⟨h0,h1,w0,w1,m16,g0,g1⟩:=F
 have mpos:0≤h*w:=Int.mul_nonneg (by omega) (by omega)
 show ib K _ [some (.ref a)] H
 unfold ib
 walk_at "w"
 refine ⟨a,h,w,g,rfl,ha,h0,h1,?_⟩
 walk_at "w"
 refine ⟨h*w,rfl,by omega,by omega,?_⟩
 refine se (fun (i:Nat)=>cornB h w i) (fun (i:Nat)=>.lst ((sqL w i).map V.int)) (by omega) ?_ ?_ ?_
 · intro i H1 R hi s1 k1
   show tB _ [none,some (.int (0+(i:Int))),some (.ref a)] H1 R
   walk_at "w"
   rw [Int.zero_add]
   exact ⟨a,h,w,g,_,rfl,s1 _ _ ha,by omega,by omega,fun H2 s2=>⟨_,rfl,k1 H2 s2⟩⟩
 · intro i H1 Q1 hi hb s1 k1
   show tCall _ _ _ _ [none,some (.int (0+(i:Int))),some (.ref a)] H1 Q1
   walk_at "w"
   rw [Int.zero_add]
   exact ⟨a,h,w,g,_,rfl,s1 _ _ ha,fun p hp=>k1 p _ ((Same.refl H1).laid hp) hp ae⟩
 · intro l as H2 hl s2 el x
   have x':NewAt H H2 l as ((squL h w).map fun xs=>.lst (xs.map V.int)):=by
    unfold squL
    rw [List.map_map]
    exact x
   exact k l as H2 s2 hl (x'.ll el) x.nd x.nl x.fr
end L2
namespace L2
open PySem PySem.Spec PyProof.Rows
local macro_rules | `(tactic| walk_at "w")=>`(tactic| (first | simp only [aF,nc,qk,kf,nh,jv,lB,ql,qg,m5,qj,if_true,if_false,Bool.false_eq_true,decide_true,decide_false,lx,ly,qi,j7,i6,lu,mX,lw,j5,mV,mW,j3,qf,j8,j9,kb,kc,kd,ke,ka,m6,m7,m8,mU,qh,Bool.not_true,Bool.not_false,a7,iV,bv,gJ,w_c,kM,gK,iq,gR,gS,w_b,w_not,jH,lZ,ir,iu,jI,iW,eY,l0,iv,jJ,iX,kN,jK,e5,iw,iy,iA,gq,gr,fG,fw,fz,dP,jL,jM,jN,jO,jP,jQ,jR,jS,jT,jU,jV,jW,l3,iB,fA,iC,l4,iD,gt,fB,jZ,j2,iE,gU,iF,
 List.getElem?_cons_zero,List.getElem?_cons_succ,Option.some.injEq,exists_eq_left',exists_eq_left,List.set_cons_zero,List.set_cons_succ,dN,V.int.injEq,V.bl.injEq,V.ref.injEq,V.str.injEq,List.append_nil,List.nil_append,List.cons_append] | dsimp only | skip))
def nmC:RK→List Nat
 | .Rule=>[]
 | .Unlike=>[117,110,108,105,107,101]
 | .Sum=>[115,117,109]
 | .Rising=>[114,105,115,105,110,103]
 | .Seen=>[115,101,101,110]
 | .Count=>[99,111,117,110,116]
 | .Joined=>[106,111,105,110,101,100]
 | .NoSquare=>[110,111,115,113,117,97,114,101]
 | .Ring=>[114,105,110,103]
def d8:List Str:=[tx [115,117,109],tx [115,101,101,110],tx [99,111,117,110,116]]
def dU:List Str:=[tx [99,111,117,110,116],tx [106,111,105,110,101,100],tx [110,111,115,113,117,97,114,101],tx [114,105,110,103]]
def dn:List Str:=[tx [106,111,105,110,101,100],tx [110,111,115,113,117,97,114,101],tx [114,105,110,103]]
def rFs (p W C:Addr) (n m:Int):List (Str × V):=[("floor",.ref p),("words",.ref W),("cells",.ref C),("amount",.int n),("mark",.int m)]
structure IsRule (H:Hp) (c:RCl RK) (k:RK) (r p:Addr) (ws:List (List Nat)) (cs:List Int) (n m:Int):Prop where
 ok:c.ok k=true
 ex:∃ dx W C,H r=some (.ins (c.A k) dx (rFs p W C n m))∧H W=some (.tup ((ws.map tx).map V.str))∧H C=some (.tup (cs.map V.int))
theorem IsRule.same {H H':Hp} {c:RCl RK} {k:RK} {r p:Addr} {ws:List (List Nat)} {cs:List Int} {n m:Int} (x:IsRule H c k r p ws cs n m) (s:Same H H'):IsRule H' c k r p ws cs n m:=by
 obtain ⟨dx,W,C,h1,h2,h3⟩:=x.ex
 exact ⟨x.ok,dx,W,C,s _ _ h1,s _ _ h2,s _ _ h3⟩
section
variable {ι:Type} {c:RCl ι} {σ:St} {H:Hp} {Q:VK} {i:Nat} {r dx:Addr} {k:ι} {fs:List (Str × V)} {f m:Str} {v:V} {okm:ι→Bool} {sp:ι→Sp} {t:TA} {D:Ends} {tv:TE} {y:V} {H1:Hp}
theorem fldE (hσ:σ[i]? =some (some (.ref r))) (ok:c.ok k=true) (hr:H r=some (.ins (c.A k) dx fs)) (hl:fs.lookup f=some v) (q:Q v H):tFldK c (tVar i) f σ H Q:=⟨_,hσ,r,k,dx,fs,v,rfl,ok,hr,hl,q⟩
theorem methE (hσ:σ[i]? =some (some (.ref r))) (ok:okm k=true) (hr:H r=some (.ins (c.A k) dx fs)) (hl:fs.lookup m=none) (q:t σ H fun vs H2=>sp k (.ref r::vs) H2 Q E0):aO c okm m sp (tVar i) t σ H Q:=⟨_,hσ,r,k,dx,fs,rfl,ok,hr,hl,q⟩
theorem sfldV {j:Nat} {x:V} (hj:σ[j]? =some (some x)) (hσ:σ[i]? =some (some (.ref r))) (ok:c.ok k=true) (hr:H r=some (.ins (c.A k) dx fs)) (hn:fs.length < 1000) (q:D.nx σ (upd H r (.ins (c.A k) dx (putF f x fs)))):sFldK c (tVar i) (tVar j) f D σ H:=
 ⟨x,hj,_,hσ,r,k,dx,fs,rfl,ok,hr,hn,q⟩
theorem sfldT {K:PySem.W.Frag} {j:Nat} {p:Addr} {xs:List V} (hj:σ[j]? =some (some (.ref p))) (hp:H p=some (.lst xs)) (hσ:σ[i]? =some (some (.ref r))) (ok:c.ok k=true) (hr:H r=some (.ins (c.A k) dx fs)) (hn:fs.length < 1000)
  (q:∀ l,H l=none→D.nx σ (upd (upd H l (.tup xs)) r (.ins (c.A k) dx (putF f (.ref l) fs)))):sFldK c (tVar i) (tCB (iI K) (tCons (tVar j) tNil)) f D σ H:=by
 unfold sFldK
 walk_at "w"
 refine ⟨_,hj,wz hp fun l hl=>?_⟩
 exact ⟨_,hσ,r,k,dx,fs,rfl,ok,by rw [ah (ar hr hl)]; exact hr,hn,q l hl⟩
end
theorem wC {H:Hp} {Q:VK} {sep:Str} {p:Addr} {ts:List Str} (hp:H p=some (.tup (ts.map V.str))) (hok:JoinOk sep ts=true) (h:Q (.str (Txt.join sep ts)) H):gX (.str sep) [.ref p] H Q:=by
 unfold gX
 dsimp only
 rw [hp]
 exact ⟨ts,rfl,hok,h⟩
theorem wD {H:Hp} {Q:VK} {sep:Str} {p:Addr} {ts:List Str} (hp:H p=some (.lst (ts.map V.str))) (hok:JoinOk sep ts=true) (h:Q (.str (Txt.join sep ts)) H):gX (.str sep) [.ref p] H Q:=by
 unfold gX
 dsimp only
 rw [hp]
 exact ⟨ts,rfl,hok,h⟩
theorem pe {K:PySem.W.Frag} {a:Addr} {k:Nat} {tt:TT} {te:TE} {fin:Addr→Hp→Prop} {σ0:St} {H1:Hp} {xs:List Int} (b:Int→Bool) (f:Int→Int) (hn:xs.length≤900) (hq:H1 a=some (.tup (xs.map V.int)))
  (ht:∀ x H R,x∈xs→Same H1 H→(∀ H',Same H H'→R (b x) H')→tt (σ0.set k (some (.int x))) H R)
  (he:∀ x H Q,x∈xs→b x=true→Same H1 H→(∀ H',Same H H'→Q (.int (f x)) H')→te (σ0.set k (some (.int x))) H Q)
  (hd:∀ l H,H1 l=none→Same H1 H→H l=some (.lst (((xs.filter b).map f).map V.int))→fin l H):CompR (Itt K a) (gName k) tt te fin σ0 H1:=by
 refine vG (xs:=xs.map V.int) (fun l i σ H=>(σ=σ0∨∃ cv,σ=σ0.set k cv)∧Same H1 H∧H l=some (.lst ((((xs.take i).filter b).map f).map V.int))) (fun l hl=>⟨.inl rfl,(Same.refl H1).laid hl,by rw [ae]; rfl⟩) (fun l i σ H _ _ p=>SqT.of (p.2.1 _ _ hq)) ?_ (fun l σ H hl p=>hd l H hl p.2.1 (by have:=p.2.2; rw [List.length_map,List.take_length] at this; exact this))
 rintro l i x σ H hl hx ⟨hσ,s1,el⟩
 obtain ⟨z,hz,rfl⟩:=bf hx
 have hi:i < xs.length:=(List.getElem?_eq_some_iff.mp hz).1
 have et:xs.take (i+1)=xs.take i++[z]:=by rw [List.take_succ,hz]; rfl
 rw [bv]
 have e:σ.set k (some (.int z))=σ0.set k (some (.int z)):=by
  rcases hσ with rfl | ⟨cv,rfl⟩
  · rfl
  · exact List.set_set ..
 rw [e]
 refine ht z H _ (List.mem_of_getElem? hz) s1 fun H2 s2=>?_
 have el2:=s2 _ _ el
 have hlen:((((xs.take i).filter b).map f).map V.int).length < sizeLine:=by
  rw [List.length_map,List.length_map]
  refine aE (Nat.le_trans (List.length_filter_le b _) ?_)
  rw [List.length_take]
  omega
 cases hb:b z with
 | false=>
  rw [if_neg Bool.false_ne_true]
  refine ⟨.inr ⟨_,rfl⟩,s1.trans s2,?_⟩
  rw [et,List.filter_append,List.filter_cons,hb]
  simpa using el2
 | true=>
  rw [if_pos rfl]
  refine he z H2 _ (List.mem_of_getElem? hz) hb (s1.trans s2) fun H3 s3=>⟨_,s3 _ _ el2,hlen,.inr ⟨_,rfl⟩,((s1.trans s2).trans s3).own hl,?_⟩
  rw [ae,et,List.filter_append,List.filter_cons,hb]
  simp
def jy (K:PySem.W.Frag) (c:RCl RK) (k:RK):Sp:=fun vs H Q _=>∃ (r p:Addr) (ws:List (List Nat)) (cs:List Int) (n m:Int),vs=[.ref r]∧IsRule H c k r p ws cs n m∧ws.length≤100∧(∀ w∈ws,w.length≤100)∧Q (.str (tx (catL 32 ws))) H
def sgAt (xs cs:List Int):List Int:=cs.map fun c=>xs.getD c.toNat 0
def mkAt (xs cs:List Int) (m:Int):List Int:=cs.filter fun c=>decide (xs.getD c.toNat 0=m)
def jz (cs:List Int) (n:Nat):Prop:=cs.length≤63∧∀ c∈cs,0≤c∧c < n
def br (K:PySem.W.Frag) (c:RCl RK) (k:RK):Sp:=fun vs H Q _=>∃ (r p f:Addr) (ws:List (List Nat)) (cs xs:List Int) (n m:Int),vs=[.ref r,.ref f]∧IsRule H c k r p ws cs n m∧H f=some (.lst (xs.map V.int))∧jz cs xs.length∧
 ∀ l H',Same H H'→H l=none→H' l=some (.lst ((sgAt xs cs).map V.int))→Q (.ref l) H'
def bx (K:PySem.W.Frag) (c:RCl RK) (k:RK):Sp:=fun vs H Q _=>∃ (r p f:Addr) (ws:List (List Nat)) (cs xs:List Int) (n m:Int),vs=[.ref r,.ref f]∧IsRule H c k r p ws cs n m∧H f=some (.lst (xs.map V.int))∧jz cs xs.length∧
 ∀ l H',Same H H'→H l=none→H' l=some (.lst ((mkAt xs cs m).map V.int))→Q (.ref l) H'
def risB:List Int→Bool
 | x::y::r=>decide (x < y)&&risB (y::r)
 | _=>true
def seenN (xs:List Int):Int × Int:=xs.foldl (fun a x=>if a.1 < x then (x,a.2+1) else a) (0,0)
noncomputable def joinB (h w:Int) (ms:List Int):Bool:=@decide (ms=[]∨(ms.Pairwise (· < ·)∧∀ x∈ms,RC h w ms (ms.headD 0) x)) (Classical.propDecidable _)
def twoB (h w:Int) (ms:List Int) (c:Int):Bool:=decide (((besL h w c).filter fun y=>decide (y∈ms)).length=2)
noncomputable def hoB (k:RK) (h w:Int) (cs:List Int) (n m:Int) (xs:List Int):Bool:=match k with
 | .Unlike=>decide (cntD (sgAt xs cs)=(sgAt xs cs).length)
 | .Sum=>decide ((sgAt xs cs).sum=n)
 | .Rising=>risB (sgAt xs cs)
 | .Seen=>decide ((seenN (sgAt xs cs)).2=n)
 | .Count=>decide (((mkAt xs cs m).length:Int)=n)
 | .NoSquare=>!((squL h w).any fun sq=>sq.all fun c=>decide (c∈mkAt xs cs m))
 | .Joined=>joinB h w (mkAt xs cs m)
 | .Ring=>joinB h w (mkAt xs cs m)&&(mkAt xs cs m).all (twoB h w (mkAt xs cs m))
 | _=>true
def bU (K:PySem.W.Frag) (c:RCl RK) (k:RK):Sp:=fun vs H Q _=>∃ (r p f:Addr) (ws:List (List Nat)) (cs xs:List Int) (n m h w g:Int),vs=[.ref r,.ref f]∧IsRule H c k r p ws cs n m∧IsFl H p h w g∧FlOk h w g∧H f=some (.lst (xs.map V.int))∧jz cs xs.length∧(∀ x∈xs,0≤x∧x≤1000)∧
 ∀ H',Same H H'→Q (.bl (hoB k h w cs n m xs)) H'
def b9 (K:PySem.W.Frag) (c:RCl RK) (k:RK):Sp:=fun vs H Q _=>∃ (r p C:Addr) (ws:List (List Nat)) (cs ms:List Int) (n m h w g:Int),vs=[.ref r,.ref C]∧IsRule H c k r p ws cs n m∧IsFl H p h w g∧FlOk h w g∧H C=some (.lst (ms.map V.int))∧ms.length≤63∧
 ∀ H',Same H H'→Q (.bl (joinB h w ms)) H'
def cF (K:PySem.W.Frag) (c:RCl RK) (k:RK):Sp:=fun vs H Q _=>∃ (r p C:Addr) (ws:List (List Nat)) (cs ms:List Int) (n m h w g z:Int),vs=[.ref r,.ref C,.int z]∧IsRule H c k r p ws cs n m∧IsFl H p h w g∧FlOk h w g∧H C=some (.lst (ms.map V.int))∧ms.length≤63∧
 ∀ H',Same H H'→Q (.bl (twoB h w ms z)) H'
def aj (K:PySem.W.Frag) (c:RCl RK):Sp:=fun vs H Q _=>∃ (k:RK) (x dx p W C:Addr) (ws:List (List Nat)) (cs:List Int) (n m:Int),vs=[.ref x,.ref p,.ref W,.ref C,.int n,.int m]∧c.ok k=true∧H x=some (.ins (c.A k) dx [])∧W≠x∧C≠x∧
 H W=some (.lst ((ws.map tx).map V.str))∧H C=some (.lst (cs.map V.int))∧∀ H',(∀ b o,b≠x→H b=some o→H' b=some o)→IsRule H' c k x p ws cs n m→Q .non H'
theorem l7 {K:PySem.W.Frag} {c:RCl RK} {vs:List V} {H:Hp} {Q:VK} {E:XK} (h:aj K c vs H Q E):vs.length=6:=by
 obtain ⟨_,_,_,_,_,_,_,_,_,_,rfl,_⟩:=h; rfl
def c5 (K:PySem.W.Frag) (c:RCl RK):TS:=
 (tSeq (sFldK c (tVar 0) (tVar 1) "floor")
  (tSeq (sFldK c (tVar 0) (tCB (iI K) (tCons (tVar 2) tNil)) "words")
  (tSeq (sFldK c (tVar 0) (tCB (iI K) (tCons (tVar 3) tNil)) "cells")
  (tSeq (sFldK c (tVar 0) (tVar 4) "amount")
  (sFldK c (tVar 0) (tVar 5) "mark")))))
theorem l8 {K:PySem.W.Frag} {c:RCl RK} {vs:List V} {H:Hp} {Q:VK} {E:XK} (h:aj K c vs H Q E):c5 K c { nx:=fun _ H'=>Q .non H',rt:=Q } (start ["self","floor","words","cells","amount","mark"] vs) H:=by
 obtain ⟨k,x,dx,p,W,C,ws,cs,n,m,rfl,ok,hx,nW,nC,hW,hC,q⟩:=h
 show c5 K c _ [some (.ref x),some (.ref p),some (.ref W),some (.ref C),some (.int n),some (.int m)] H
 unfold c5
 walk_at "w"
 refine sfldV (k:=k) (j:=1) rfl rfl ok hx (by decide) ?_
 walk_at "w"
 refine sfldT (k:=k) (j:=2) (p:=W) rfl (by rw [ah nW]; exact hW) rfl ok ae (by show (1:Nat) < 1000; decide) fun l1 h1=>?_
 have n1:l1≠x:=fun e=>by rw [e,ae] at h1; cases h1
 have g1:H l1=none:=by rw [ah n1] at h1; exact h1
 walk_at "w"
 refine sfldT (k:=k) (j:=3) (p:=C) rfl (by rw [ah nC,ah (ar hC g1),ah nC]; exact hC) rfl ok ae (by show (2:Nat) < 1000; decide) fun l2 h2=>?_
 have n2:l2≠x:=fun e=>by rw [e,ae] at h2; cases h2
 have n21:l2≠l1:=fun e=>by rw [e,ah n1,ae] at h2; cases h2
 have g2:H l2=none:=by rw [ah n2,ah n21,ah n2] at h2; exact h2
 walk_at "w"
 refine sfldV (k:=k) (j:=4) rfl rfl ok ae (by show (3:Nat) < 1000; decide) ?_
 refine sfldV (k:=k) (j:=5) rfl rfl ok ae (by show (4:Nat) < 1000; decide) ?_
 refine q _ (fun b o hb e=>?_) ⟨ok,dx,l1,l2,by rw [ae]; rfl,?_,?_⟩
 · rw [ah hb,ah hb,ah hb,ah (ar e g2),ah hb,ah (ar e g1),ah hb]
   exact e
 · rw [ah n1,ah n1,ah n1,ah n21.symm,ah n1,ae]
 · rw [ah n2,ah n2,ah n2,ae]
def fS (K:PySem.W.Frag) (c:RCl RK):Sp:=fun vs H Q E=>∃ k,jy K c k vs H Q E
theorem q0 {K:PySem.W.Frag} {c:RCl RK} {vs:List V} {H:Hp} {Q:VK} {E:XK} (h:fS K c vs H Q E):vs.length=1:=by
 obtain ⟨_,_,_,_,_,_,_,rfl,_⟩:=h; rfl
def fT (K:PySem.W.Frag) (c:RCl RK):TS:=
 (tRet (tBM K "str" gX (tC (.str (tx [32]))) (tCons (tFldK c (tVar 0) "words") tNil)))
theorem q5 {K:PySem.W.Frag} {c:RCl RK} {vs:List V} {H:Hp} {Q:VK} {E:XK} (h:fS K c vs H Q E):fT K c { nx:=fun _ H'=>Q .non H',rt:=Q } (start ["self"] vs) H:=by
 obtain ⟨k,r,p,ws,cs,n,m,rfl,x,hn,hw,q⟩:=h
 obtain ⟨dx,W,C,h1,h2,h3⟩:=x.ex
 show fT K c _ [some (.ref r)] H
 unfold fT
 walk_at "w"
 refine ⟨tK,fldE rfl x.ok h1 (v:=.ref W) (by rfl) ?_⟩
 walk_at "w"
 refine wC h2 (kP (by rw [List.length_map]; omega) (fun t ht=>by obtain ⟨y,hy,rfl⟩:=List.mem_map.mp ht; rw [dS]; have:=hw y hy; omega) (by rw [dS]; decide)) ?_
 rw [qR,lz]
 exact q
def c6 (K:PySem.W.Frag) (c:RCl RK):Sp:=fun vs H Q E=>∃ k,br K c k vs H Q E
theorem l9 {K:PySem.W.Frag} {c:RCl RK} {vs:List V} {H:Hp} {Q:VK} {E:XK} (h:c6 K c vs H Q E):vs.length=2:=by
 obtain ⟨_,_,_,_,_,_,_,_,_,rfl,_⟩:=h; rfl
def c7 (K:PySem.W.Frag) (c:RCl RK):TS:=
 (tRet (tComp [none,none,some 1] (iTup K (tFldK c (tVar 0) "cells")) (gName 1) tTrue (tOp cIx (tVar 2) (tVar 1))))
theorem ma {K:PySem.W.Frag} {c:RCl RK} {vs:List V} {H:Hp} {Q:VK} {E:XK} (h:c6 K c vs H Q E):c7 K c { nx:=fun _ H'=>Q .non H',rt:=Q } (start ["self","filling"] vs) H:=by
 obtain ⟨k,r,p,f,ws,cs,xs,n,m,rfl,x,hf,⟨hn,hc⟩,q⟩:=h
 obtain ⟨dx,W,C,h1,h2,h3⟩:=x.ex
 show c7 K c _ [some (.ref r),some (.ref f)] H
 unfold c7
 rw [gK,sO]
 refine fldE rfl x.ok h1 (v:=.ref C) (by rfl) ?_
 refine ⟨C,rfl,⟨_,SqT.of h3⟩,?_⟩
 refine pe (xs:=cs) (fun _=>true) (fun c=>xs.getD c.toNat 0) (by omega) h3 ?_ ?_ ?_
 · intro x H1 R hx s1 k1
   exact k1 _ (Same.refl _)
 · intro z H1 Q1 hz hb s1 k1
   show tOp cIx _ _ [none,some (.int z),some (.ref f)] H1 Q1
   walk_at "w"
   have:=hc z hz
   exact ixI (s1 _ _ hf) this.1 (by omega) (k1 _ (Same.refl _))
 · intro l H1 hl s1 el
   rw [aV] at el
   exact q l H1 s1 hl el
def cQ (K:PySem.W.Frag):Sp:=fun vs H Q _=>∃ n:Nat,vs=[.str (tx (numC n))]∧n < 100∧∀ H',Same H H'→Q (.int n) H'
theorem ra {K:PySem.W.Frag} {vs:List V} {H:Hp} {Q:VK} {E:XK} (h:cQ K vs H Q E):vs.length=1:=by
 obtain ⟨_,rfl,_⟩:=h; rfl
def fU (K:PySem.W.Frag):TS:=
 (tSeq (tIfS (tOr (tTest (tOp (cEq K) (tVar 0) (tC (.str (tx []))))) (tOr (tTest (tOp (cCmp fun i j=>decide (j < i)) (tCB kLen (tCons (tVar 0) tNil)) (tC (.int 9)))) (tAnd (tTest (tOp (cEq K) (tOp cIx (tVar 0) (tC (.int 0))) (tC (.str (tx [48]))))) (tTest (tOp (cNe K) (tVar 0) (tC (.str (tx [48])))))))) (tRet (tC .non)) tNext)
  (tSeq (tIfS (tNot (tB (tCB kAll (tCons (tComp [none,none] (iStr (tVar 0)) (gName 1) tTrue (tOp (cIn K false) (tVar 1) (tC (.str (tx [48,49,50,51,52,53,54,55,56,57]))))) tNil)))) (tRet (tC .non)) tNext)
  (tRet (tCB kg (tCons (tVar 0) tNil)))))
theorem xx {c:Nat} (h0:48≤c) (h1:c≤57):(!(Builtin.Str.occurrences (tx [48,49,50,51,52,53,54,55,56,57]) ⟨#[c]⟩ 0 (tx [48,49,50,51,52,53,54,55,56,57]).length 1).isEmpty)=true:=by
 have t:((List.range 58).all fun c=>!decide (48≤c)||!(Builtin.Str.occurrences (tx [48,49,50,51,52,53,54,55,56,57]) ⟨#[c]⟩ 0 (tx [48,49,50,51,52,53,54,55,56,57]).length 1).isEmpty)=true:=by decide+kernel
 have:=List.all_eq_true.mp t c (List.mem_range.mpr (by omega))
 simpa [h0] using this
theorem rb {K:PySem.W.Frag} {vs:List V} {H:Hp} {Q:VK} {E:XK} (h:cQ K vs H Q E):fU K { nx:=fun _ H'=>Q .non H',rt:=Q } (start ["word"] vs) H:=by
 obtain ⟨n,rfl,hn,q⟩:=h
 have hne:=xw hn
 have hl:=jx (n:=n)
 show fU K _ [some (.str (tx (numC n)))] H
 unfold fU
 rw [aF,aT]
 walk_at "w"
 rw [m4,decide_eq_false hne]
 refine iteF ⟨by rw [dS]; exact aC (by omega),?_⟩
 walk_at "w"
 rw [dS,decide_eq_false (show ¬ (9:Int) < ((numC n).length:Nat) by omega)]
 refine iteF ?_
 rw [xW,dS,m3]
 obtain ⟨c,r,ec⟩:∃ c r,numC n=c::r:=by
  cases e:numC n with
  | nil=>exact absurd e hne
  | cons c r=>exact ⟨c,r,rfl⟩
 refine ⟨aC (by omega),aQ (a:=c) (by rw [ec]; exact gp (j:=0) rfl) ?_⟩
 walk_at "w"
 have e1:decide ((⟨#[c]⟩:Str)=tx [48])=decide (c=48):=by
  have:(⟨#[c]⟩:Str)=tx [c]:=rfl
  rw [this,m4]
  simp
 rw [e1,m4]
 have e2:(decide (c=48)=true→decide (numC n=[48])=true):=by
  intro h
  rw [decide_eq_true_eq] at h
  have:=(vH hn).1 (by rw [ec,h]; rfl)
  subst this
  decide
 have goal2:tSeq (tIfS (tNot (tB (tCB kAll (tCons (tComp [none,none] (iStr (tVar 0)) (gName 1) tTrue (tOp (cIn K false) (tVar 1) (tC (.str (tx [48,49,50,51,52,53,54,55,56,57]))))) tNil)))) (tRet (tC .non)) tNext) (tRet (tCB kg (tCons (tVar 0) tNil)))
   { nx:=fun _ H'=>Q .non H',rt:=Q } [some (.str (tx (numC n)))] H:=by
  rw [aF,aT]
  walk_at "w"
  refine uS (cs:=numC n) (fun _=>true) (fun _=>.bl true) (by omega) ?_ ?_ ?_
  · intro i c H1 R hc s1 k1
    exact k1 _ (Same.refl _)
  · intro i c H1 Q1 hc hb s1 k1
    have hd:=sP hn c (List.mem_of_getElem? hc)
    show tOp (cIn K false) _ _ [none,some (.str (tx [c]))] H1 Q1
    walk_at "w"
    have q1:=k1 _ (Same.refl H1)
    show Q1 (.bl (if false=true then _ else !(Builtin.Str.occurrences (tx [48,49,50,51,52,53,54,55,56,57]) (tx [c]) 0 (tx [48,49,50,51,52,53,54,55,56,57]).length 1).isEmpty)) H1
    rw [if_neg Bool.false_ne_true,show tx [c]=⟨#[c]⟩ from rfl,xx hd.1 hd.2]
    exact q1
  · intro l H1 hl1 s1 el
    have eb:((List.range (numC n).length).filter fun _=>true).map (fun _=>V.bl true)=(List.replicate (numC n).length true).map V.bl:=by
     rw [aV,List.map_const',List.length_range,List.map_replicate]
    rw [eb] at el
    refine j4 el ?_
    have ea:(List.replicate (numC n).length true).all id=true:=by
     rw [List.all_eq_true]
     intro b hb
     exact (List.mem_replicate.mp hb).2
    rw [ea]
    walk_at "w"
    exact ⟨n,hn,rfl,q _ s1⟩
 cases hc:decide (c=48) with
 | false=>
  refine iteF ?_
  exact goal2
 | true=>
  refine iteT ?_
  rw [e2 hc]
  exact goal2
def be (K:PySem.W.Frag):Sp:=fun vs H Q _=>∃ (n:Nat) (lo hi:Int),vs=[.str (tx (numC n)),.int lo,.int hi]∧n < 100∧lo≤n∧n≤hi∧∀ H',Same H H'→Q (.int n) H'
theorem md {K:PySem.W.Frag} {vs:List V} {H:Hp} {Q:VK} {E:XK} (h:be K vs H Q E):vs.length=3:=by
 obtain ⟨_,_,_,rfl,_⟩:=h; rfl
def c8 (K:PySem.W.Frag):TS:=
 (tSeq (tAsg (tCall (cQ K) [] E0 (tCons (tVar 0) tNil)) (gName 3))
  (tSeq (tIfS (tOr (tTest (tOp rIsN (tVar 3) (tC .non))) (tOr (tTest (tOp (cCmp fun i j=>decide (i < j)) (tVar 3) (tVar 1))) (tTest (tOp (cCmp fun i j=>decide (j < i)) (tVar 3) (tVar 2))))) bW tNext)
  (tRet (tVar 3))))
theorem me {K:PySem.W.Frag} {vs:List V} {H:Hp} {Q:VK} {E:XK} (h:be K vs H Q E):c8 K { nx:=fun _ H'=>Q .non H',rt:=Q } (start ["word","least","most","number"] vs) H:=by
 obtain ⟨n,lo,hi,rfl,hn,h0,h1,q⟩:=h
 show c8 K _ [some (.str (tx (numC n))),some (.int lo),some (.int hi),none] H
 unfold c8
 walk_at "w"
 refine ⟨n,rfl,hn,fun H1 s1=>?_⟩
 walk_at "w"
 rw [aT]
 walk_at "w"
 rw [decide_eq_false (show ¬ V.int n=V.non from fun e=>nomatch e)]
 refine iteF ?_
 rw [decide_eq_false (show ¬ (n:Int) < lo by omega)]
 refine iteF ?_
 rw [decide_eq_false (show ¬ hi < (n:Int) by omega)]
 refine iteF ?_
 walk_at "w"
 exact q _ s1
def WOk (ws:List (List Nat)):Prop:=∀ w∈ws,∀ c∈w,c < 128
theorem WOk.cons {w:List Nat} {ws:List (List Nat)} (h:∀ c∈w,c < 128) (hs:WOk ws):WOk (w::ws):=fun v hv=>by
 rcases List.mem_cons.mp hv with rfl | hv
 · exact h
 · exact hs v hv
theorem ik {n:Nat} (h:n < 100):∀ c∈numC n,c < 128:=fun c hc=>by have:=sP h c hc; omega
theorem vY {w:List Nat} (h:∀ c∈w,c < 128):PyData.strOk (tx w)=true:=by
 unfold PyData.strOk
 simp [tx]
 intro c hc
 have:=h c hc
 omega
theorem WOk.strs {ws:List (List Nat)} (h:WOk ws):∀ x∈ws.map tx,PyData.strOk x=true:=fun x hx=>by
 obtain ⟨w,hw,rfl⟩:=List.mem_map.mp hx
 exact vY (h w hw)
def bi (K:PySem.W.Frag):Sp:=fun vs H Q _=>∃ (p:Addr) (n:Nat) (ws:List (List Nat)) (lo hi:Int),vs=[.ref p,.int lo,.int hi]∧H p=some (.lst (((numC n::ws).map tx).map V.str))∧n < 100∧WOk ws∧lo≤n∧n≤hi∧∀ H',Same H H'→Q (.int n) H'
theorem nj {K:PySem.W.Frag} {vs:List V} {H:Hp} {Q:VK} {E:XK} (h:bi K vs H Q E):vs.length=3:=by
 obtain ⟨_,_,_,_,_,rfl,_⟩:=h; rfl
def dq (K:PySem.W.Frag):TS:=
 (tSeq (tIfS (tTest (tOp (cEq K) (tVar 0) (tLst tNil))) bW tNext)
  (tRet (tCall (be K) [] E0 (tCons (tOp cIx (tVar 0) (tC (.int 0))) (tCons (tVar 1) (tCons (tVar 2) tNil))))))
theorem DVs.strs {K:PySem.W.Frag} {H:Hp}:∀ ns:List Str,DVs K H (ns.map V.str) (ns.map PyData.str)
 | []=>.nil
 | n::r=>.cons (.str n) (DVs.strs r)
theorem pf (a b:Str):PyData.eqv (.str a) (.str b)=decide (a=b):=by
 rw [PyData.eqv]
 by_cases h:a=b
 · subst h; simp
 · simp [h]
theorem gL (ns:List Str) (hs:∀ x∈ns,PyData.strOk x=true):SeqAt.shaped (.list (ns.map PyData.str))=true:=by
 have h1:PyData.canLayAll0 (ns.map PyData.str)=true:=sL fun d hd=>by obtain ⟨x,hx,rfl⟩:=List.mem_map.mp hd; rw [PyData.canLay0]; exact hs x hx
 have h2:PyData.depthAll (ns.map PyData.str)≤0:=pb fun d hd=>by obtain ⟨x,_,rfl⟩:=List.mem_map.mp hd; exact Nat.le_refl _
 simp [SeqAt.shaped,PyData.canLay0,h1,PyData.depth]
 omega
theorem xy {K:PySem.W.Frag} {H:Hp} {Q:VK} {p q:Addr} {xs ys:List Str} (hp:H p=some (.lst (xs.map V.str))) (hq:H q=some (.lst (ys.map V.str))) (h1:∀ x∈xs,PyData.strOk x=true) (h2:∀ x∈ys,PyData.strOk x=true) (h:Q (.bl (decide (xs=ys))) H):cEq K (.ref p) (.ref q) H Q:=by
 show rEqD K (.ref p) (.ref q) H Q
 refine ⟨.list (xs.map PyData.str),.list (ys.map PyData.str),.lst (SqL.of hp) (.strs xs),.lst (SqL.of hq) (.strs ys),gL xs h1,gL ys h2,?_⟩
 rw [PyData.eqv,ow PyData.str pf]
 exact h
theorem uW {K:PySem.W.Frag} {H:Hp} {Q:VK} {p q:Addr} {xs ys:List Str} (hp:H p=some (.lst (xs.map V.str))) (hq:H q=some (.lst (ys.map V.str))) (h1:∀ x∈xs,PyData.strOk x=true) (h2:∀ x∈ys,PyData.strOk x=true) (h:Q (.bl (!decide (xs=ys))) H):cNe K (.ref p) (.ref q) H Q:=by
 show rNeD K (.ref p) (.ref q) H Q
 refine ⟨.list (xs.map PyData.str),.list (ys.map PyData.str),.lst (SqL.of hp) (.strs xs),.lst (SqL.of hq) (.strs ys),gL xs h1,gL ys h2,?_⟩
 rw [PyData.eqv,ow PyData.str pf]
 exact h
theorem nk {K:PySem.W.Frag} {vs:List V} {H:Hp} {Q:VK} {E:XK} (h:bi K vs H Q E):dq K { nx:=fun _ H'=>Q .non H',rt:=Q } (start ["words","least","most"] vs) H:=by
 obtain ⟨p,n,ws,lo,hi,rfl,hp,hn,hw,h0,h1,q⟩:=h
 show dq K _ [some (.ref p),some (.int lo),some (.int hi)] H
 unfold dq
 rw [aF,aT]
 walk_at "w"
 refine ⟨aC (by decide),fun l hl=>?_⟩
 have s1:Same H (upd H l (.lst [])):=(Same.refl H).laid hl
 refine xy (s1 _ _ hp) (ys:=[]) ae (WOk.strs (WOk.cons (ik hn) hw)) (fun x hx=>nomatch hx) ?_
 generalize upd H l (.lst [])=H1 at*
 walk_at "w"
 rw [decide_eq_false (by simp)]
 refine iteF ?_
 walk_at "w"
 have e0:atI (((numC n::ws).map tx).map V.str) 0=some (V.str (tx (numC n))):=gp (j:=0) rfl
 refine ixL (s1 _ _ hp) e0 ?_
 walk_at "w"
 exact ⟨n,lo,hi,rfl,hn,h0,h1,fun H2 s2=>q _ (s1.trans s2)⟩
theorem vI (acc:List Int) (v:Int):(step_dedup acc v).length≤acc.length+1:=by
 unfold step_dedup
 split <;> simp
theorem rd:∀ (l acc:List Int),(l.foldl step_dedup acc).length≤acc.length+l.length
 | [],acc=>by simp
 | x::r,acc=>by
  have h1:=rd r (step_dedup acc x)
  have h2:=vI acc x
  rw [List.foldl_cons,List.length_cons]
  omega
theorem lV:∀ (l acc:List Int),acc.Nodup→((l.foldl step_dedup acc).length=acc.length+l.length↔(acc++l).Nodup)
 | [],acc,h=>by simpa using h
 | x::r,acc,h=>by
  rw [List.foldl_cons]
  by_cases hx:x∈acc
  · have e:step_dedup acc x=acc:=by
     unfold step_dedup
     rw [if_pos (by simpa using hx)]
    rw [e]
    have:=rd r acc
    constructor
    · intro z
      rw [List.length_cons] at z
      omega
    · intro z
      have:=(List.nodup_append.mp z).2.2 x hx x List.mem_cons_self
      exact absurd rfl this
  · have e:step_dedup acc x=acc++[x]:=by
     unfold step_dedup
     rw [if_neg (by simpa using hx)]
    rw [e]
    have hn:(acc++[x]).Nodup:=List.nodup_append.mpr ⟨h,by simp,fun a ha b hb z=>hx (by rw [List.mem_singleton.mp hb] at z; exact z ▸ ha)⟩
    have ih:=lV r (acc++[x]) hn
    rw [List.length_append,List.length_singleton] at ih
    rw [List.length_cons,show acc.length+(r.length+1)=acc.length+1+r.length by omega,show acc++x::r=acc++[x]++r by simp]
    exact ih
theorem ox (ns:List Int):(List.range ns.length).map (fun i=>ns.getD i 0)=ns:=by
 have:=pE ns (fun x=>x)
 simpa using this
theorem vJ (ns:List Int):cntD ns=ns.length↔ns.Nodup:=by
 unfold cntD firstMet
 rw [ox]
 have:=lV ns [] List.nodup_nil
 simpa using this
def cn (K:PySem.W.Frag):Sp:=fun vs H Q _=>∃ (a p:Addr) (h w g:Int) (ns:List Nat),vs=[.ref a,.ref p]∧IsFl H a h w g∧FlOk h w g∧H p=some (.lst (((ns.map numC).map tx).map V.str))∧ns≠[]∧ns.length≤16∧(∀ n∈ns,(n:Int) < h*w)∧ns.Nodup∧
 ∀ l H',Same H H'→H l=none→H' l=some (.lst ((ns.map fun (n:Nat)=>(n:Int)).map V.int))→Q (.ref l) H'
theorem pH {K:PySem.W.Frag} {vs:List V} {H:Hp} {Q:VK} {E:XK} (h:cn K vs H Q E):vs.length=2:=by
 obtain ⟨_,_,_,_,_,_,rfl,_⟩:=h; rfl
def fe (K:PySem.W.Frag):TS:=
 (tSeq (sComp 2 [none,none,some 0] (iList K (tVar 1)) (gName 1) tTrue (tCall (be K) [] E0 (tCons (tVar 1) (tCons (tC (.int 0)) (tCons (tOp cSub (tCall (aN K) [] E0 (tCons (tVar 2) tNil)) (tC (.int 1))) tNil)))))
  (tSeq (tIfS (tTest (tOp (cEq K) (tVar 2) (tLst tNil))) bW tNext)
  (tSeq (tIfS (tTest (tOp (cNe K) (lA (tVar 2)) (tCB kLen (tCons (tVar 2) tNil)))) bW tNext)
  (tRet (tVar 2)))))
theorem kh {ns:List Nat} (h:ns.Nodup):(ns.map fun (n:Nat)=>(n:Int)).Nodup:=by
 induction ns with
 | nil=>exact List.nodup_nil
 | cons a r ih=>
  rw [List.nodup_cons] at h
  rw [List.map_cons,List.nodup_cons]
  refine ⟨fun z=>?_,ih h.2⟩
  obtain ⟨b,hb,e⟩:=List.mem_map.mp z
  exact h.1 (by have:b=a:=by omega
                exact this ▸ hb)
theorem pI {K:PySem.W.Frag} {vs:List V} {H:Hp} {Q:VK} {E:XK} (h:cn K vs H Q E):fe K { nx:=fun _ H'=>Q .non H',rt:=Q } (start ["floor","words","cells"] vs) H:=by
 obtain ⟨a,p,h,w,g,ns,rfl,ha,F,hp,hne,hn16,hlt,hnd,q⟩:=h
 obtain ⟨h0,h1,w0,w1,m16,g0,g1⟩:=F
 show fe K _ [some (.ref a),some (.ref p),none] H
 unfold fe
 walk_at "w"
 refine ⟨⟨_,SqL.of hp⟩,?_⟩
 refine bX (xs:=((ns.map numC).map tx).map V.str) (fun _=>true) (fun i=>.int (ns.getD i 0:Nat)) (by simp; omega) (SqL.of hp) ?_ ?_ ?_
 · intro i x H1 R hx s1 k1
   exact k1 _ (Same.refl _)
 · intro i x H1 Q1 hx hb s1 k1
   rw [List.getElem?_map,List.getElem?_map,List.getElem?_map] at hx
   cases e:ns[i]? with
   | none=>rw [e] at hx; cases hx
   | some n=>
    rw [e] at hx
    cases hx
    have hm:=hlt n (List.mem_of_getElem? e)
    show tCall _ _ _ _ [none,some (.str (tx (numC n))),some (.ref a)] H1 Q1
    walk_at "w"
    refine ⟨a,h,w,g,rfl,s1 _ _ ha,h0,h1,?_⟩
    walk_at "w"
    refine ⟨n,0,_,rfl,by omega,by omega,by omega,fun H2 s2=>?_⟩
    have q1:=k1 _ s2
    have eg:ns.getD i 0=n:=by rw [List.getD,e]; rfl
    rw [eg] at q1
    exact q1
 · intro l H1 hl s1 el
   have ec:((List.range (((ns.map numC).map tx).map V.str).length).filter fun _=>true).map (fun i=>V.int (ns.getD i 0:Nat))=(ns.map fun (n:Nat)=>(n:Int)).map V.int:=by
    rw [aV,List.length_map,List.length_map,List.length_map,List.map_map]
    refine List.ext_getElem? fun i=>?_
    rw [List.getElem?_map,List.getElem?_map]
    by_cases h:i < ns.length
    · rw [List.getElem?_range h,List.getElem?_eq_getElem h]
      simp [List.getD,h]
    · rw [List.getElem?_eq_none (by simpa using h),List.getElem?_eq_none (by omega)]; rfl
   rw [ec] at el
   walk_at "w"
   rw [aT]
   walk_at "w"
   refine ⟨aC (by decide),fun z hz=>?_⟩
   have s2:Same H1 (upd H1 z (.lst [])):=(Same.refl H1).laid hz
   refine tJ (s2 _ _ el) (ys:=[]) ae ?_
   generalize upd H1 z (.lst [])=H2 at*
   walk_at "w"
   rw [decide_eq_false (by simpa using hne)]
   refine iteF ?_
   walk_at "w"
   rw [aT]
   walk_at "w"
   refine ⟨l,_,rfl,s2 _ _ el,by rw [List.length_map]; omega,?_⟩
   rw [cE (s2 _ _ el),List.length_map]
   walk_at "w"
   rw [decide_eq_true (by rw [(vJ _).mpr (kh hnd)])]
   refine iteF ?_
   walk_at "w"
   exact q l _ (s1.trans s2) hl (s2 _ _ el)
def allK:RK→Bool
 | .Joined=>true
 | .NoSquare=>true
 | .Ring=>true
 | _=>false
def numK:RK→Bool
 | .Sum=>true
 | .Seen=>true
 | .Count=>true
 | _=>false
def sgnK:RK→Bool
 | .Count=>true
 | .Joined=>true
 | .NoSquare=>true
 | .Ring=>true
 | _=>false
theorem xz (k:RK):decide (tx (nmC k)∈dn)=allK k:=by cases k <;> decide+kernel
theorem xC (k:RK):decide (tx (nmC k)∈d8)=numK k:=by cases k <;> decide+kernel
theorem xE (k:RK):decide (tx (nmC k)∈dU)=sgnK k:=by cases k <;> decide+kernel
structure oy (k:RK) (h w:Int) (ns:List Nat) (cs:List Int):Prop where
 told:allK k=false→ns≠[]∧ns.length≤16∧(∀ n∈ns,(n:Int) < h*w)∧ns.Nodup∧cs=ns.map fun (n:Nat)=>(n:Int)
 all:allK k=true→ns=[]∧cs=rngL 0 (h*w)
def dj (K:PySem.W.Frag):Sp:=fun vs H Q _=>∃ (k:RK) (a p:Addr) (h w g:Int) (ns:List Nat) (cs:List Int),vs=[.ref a,.str (tx (nmC k)),.ref p]∧IsFl H a h w g∧FlOk h w g∧H p=some (.lst (((ns.map numC).map tx).map V.str))∧oy k h w ns cs∧(∀ n∈ns,n < 100)∧
 ∀ l H',Same H H'→H l=none→H' l=some (.lst (cs.map V.int))→Q (.ref l) H'
theorem sf {K:PySem.W.Frag} {vs:List V} {H:Hp} {Q:VK} {E:XK} (h:dj K vs H Q E):vs.length=3:=by
 obtain ⟨_,_,_,_,_,_,_,_,rfl,_⟩:=h; rfl
def gM (K:PySem.W.Frag):TS:=
 (tSeq (tIfS (tB (tInG dn true (tVar 1))) (tRet (tCall (cn K) [] E0 (tCons (tVar 0) (tCons (tVar 2) tNil)))) tNext)
  (tSeq (tIfS (tTest (tOp (cNe K) (tVar 2) (tLst tNil))) bW tNext)
  (tRet (i3 (tCons (tCall (aN K) [] E0 (tCons (tVar 0) tNil)) tNil)))))
theorem sh {K:PySem.W.Frag} {vs:List V} {H:Hp} {Q:VK} {E:XK} (h:dj K vs H Q E):gM K { nx:=fun _ H'=>Q .non H',rt:=Q } (start ["floor","name","words"] vs) H:=by
 obtain ⟨k,a,p,h,w,g,ns,cs,rfl,ha,F,hp,hc,hn,q⟩:=h
 obtain ⟨h0,h1,w0,w1,m16,g0,g1⟩:=id F
 have mpos:0≤h*w:=Int.mul_nonneg (by omega) (by omega)
 show gM K _ [some (.ref a),some (.str (tx (nmC k))),some (.ref p)] H
 unfold gM
 rw [aF,aT]
 walk_at "w"
 rw [xz]
 cases hk:allK k with
 | false=>
  obtain ⟨c1,c2,c3,c4,rfl⟩:=hc.told hk
  walk_at "w"
  exact ⟨a,p,h,w,g,ns,rfl,ha,F,hp,c1,c2,c3,c4,q⟩
 | true=>
  obtain ⟨rfl,rfl⟩:=hc.all hk
  walk_at "w"
  rw [aT]
  walk_at "w"
  refine ⟨aC (by decide),fun z hz=>?_⟩
  have s1:Same H (upd H z (.lst [])):=(Same.refl H).laid hz
  refine uW (xs:=[]) (ys:=[]) (s1 _ _ hp) ae (fun x hx=>nomatch hx) (fun x hx=>nomatch hx) ?_
  generalize upd H z (.lst [])=H1 at*
  walk_at "w"
  refine ⟨a,h,w,g,rfl,s1 _ _ ha,h0,h1,?_⟩
  walk_at "w"
  refine ⟨h*w,rfl,by omega,by omega,fun l hl=>?_⟩
  exact q l _ (s1.laid hl) (s1.free hl) ae
def d9 (K:PySem.W.Frag) (c:RCl RK):Sp:=fun vs H Q _=>∃ (k:RK) (p W C:Addr) (ws:List (List Nat)) (cs:List Int) (n m:Int),vs=[.ref p,.ref W,.ref C,.int n,.int m]∧k≠.Rule∧c.ok k=true∧H W=some (.lst (((nmC k::ws).map tx).map V.str))∧H C=some (.lst (cs.map V.int))∧
 ∀ r H',Same H H'→H r=none→IsRule H' c k r p (nmC k::ws) cs n m→Q (.ref r) H'
theorem tU {K:PySem.W.Frag} {c:RCl RK} {vs:List V} {H:Hp} {Q:VK} {E:XK} (h:d9 K c vs H Q E):vs.length=5:=by
 obtain ⟨_,_,_,_,_,_,_,_,rfl,_⟩:=h; rfl
def ic (K:PySem.W.Frag) (c:RCl RK):TS:=
 (tSeq (tAsg (tOp cIx (tVar 1) (tC (.int 0))) (gName 5))
  (tSeq (tIfS (tTest (tOp (cEq K) (tVar 5) (tC (.str (tx [117,110,108,105,107,101]))))) (tRet (tMake (c.A .Unlike) (aj K c) [] E0 (tCons (tVar 0) (tCons (tVar 1) (tCons (tVar 2) (tCons (tVar 3) (tCons (tVar 4) tNil))))))) tNext)
  (tSeq (tIfS (tTest (tOp (cEq K) (tVar 5) (tC (.str (tx [115,117,109]))))) (tRet (tMake (c.A .Sum) (aj K c) [] E0 (tCons (tVar 0) (tCons (tVar 1) (tCons (tVar 2) (tCons (tVar 3) (tCons (tVar 4) tNil))))))) tNext)
  (tSeq (tIfS (tTest (tOp (cEq K) (tVar 5) (tC (.str (tx [114,105,115,105,110,103]))))) (tRet (tMake (c.A .Rising) (aj K c) [] E0 (tCons (tVar 0) (tCons (tVar 1) (tCons (tVar 2) (tCons (tVar 3) (tCons (tVar 4) tNil))))))) tNext)
  (tSeq (tIfS (tTest (tOp (cEq K) (tVar 5) (tC (.str (tx [115,101,101,110]))))) (tRet (tMake (c.A .Seen) (aj K c) [] E0 (tCons (tVar 0) (tCons (tVar 1) (tCons (tVar 2) (tCons (tVar 3) (tCons (tVar 4) tNil))))))) tNext)
  (tSeq (tIfS (tTest (tOp (cEq K) (tVar 5) (tC (.str (tx [99,111,117,110,116]))))) (tRet (tMake (c.A .Count) (aj K c) [] E0 (tCons (tVar 0) (tCons (tVar 1) (tCons (tVar 2) (tCons (tVar 3) (tCons (tVar 4) tNil))))))) tNext)
  (tSeq (tIfS (tTest (tOp (cEq K) (tVar 5) (tC (.str (tx [106,111,105,110,101,100]))))) (tRet (tMake (c.A .Joined) (aj K c) [] E0 (tCons (tVar 0) (tCons (tVar 1) (tCons (tVar 2) (tCons (tVar 3) (tCons (tVar 4) tNil))))))) tNext)
  (tSeq (tIfS (tTest (tOp (cEq K) (tVar 5) (tC (.str (tx [110,111,115,113,117,97,114,101]))))) (tRet (tMake (c.A .NoSquare) (aj K c) [] E0 (tCons (tVar 0) (tCons (tVar 1) (tCons (tVar 2) (tCons (tVar 3) (tCons (tVar 4) tNil))))))) tNext)
  (tSeq (tIfS (tTest (tOp (cEq K) (tVar 5) (tC (.str (tx [114,105,110,103]))))) (tRet (tMake (c.A .Ring) (aj K c) [] E0 (tCons (tVar 0) (tCons (tVar 1) (tCons (tVar 2) (tCons (tVar 3) (tCons (tVar 4) tNil))))))) tNext)
  bW)))))))))
theorem wE {K:PySem.W.Frag} {c:RCl RK} {H:Hp} {Q:VK} {k:RK} {p W C:Addr} {ws:List (List Nat)} {cs:List Int} {n m:Int} (ok:c.ok k=true) (hW:H W=some (.lst ((ws.map tx).map V.str))) (hC:H C=some (.lst (cs.map V.int))) (q:∀ r H',Same H H'→H r=none→IsRule H' c k r p ws cs n m→Q (.ref r) H'):
  ∀ x dx,H x=none→H dx=none→dx≠x→aj K c (.ref x::([.ref p,.ref W,.ref C,.int n,.int m]++[])) (upd (upd H dx (.own x)) x (.ins (c.A k) dx [])) (fun v H2=>v=.non∧Q (.ref x) H2) E0:=by
 intro x dx hx hd ne
 refine ⟨k,x,dx,p,W,C,ws,cs,n,m,rfl,ok,ae,ar hW hx,ar hC hx,?_,?_,fun H' hs hr=>⟨rfl,q x H' (fun b o e=>hs b o (ar e hx) ?_) hx hr⟩⟩
 · rw [ah (ar hW hx),ah (ar hW hd)]; exact hW
 · rw [ah (ar hC hx),ah (ar hC hd)]; exact hC
 · rw [ah (ar e hx),ah (ar e hd)]; exact e
theorem tV {K:PySem.W.Frag} {c:RCl RK} {vs:List V} {H:Hp} {Q:VK} {E:XK} (h:d9 K c vs H Q E):ic K c { nx:=fun _ H'=>Q .non H',rt:=Q } (start ["floor","words","cells","amount","mark","name"] vs) H:=by
 obtain ⟨k,p,W,C,ws,cs,n,m,rfl,hk,ok,hW,hC,q⟩:=h
 have mk:=wE (K:=K) ok hW hC q
 have e0:atI (((nmC k::ws).map tx).map V.str) 0=some (V.str (tx (nmC k))):=gp (j:=0) rfl
 show ic K c _ [some (.ref p),some (.ref W),some (.ref C),some (.int n),some (.int m),none] H
 unfold ic
 walk_at "w"
 refine ixL hW e0 ?_
 have D:∀ (l:List Nat) (t:TS) (u:TS) (D:Ends) (b:Bool),decide (nmC k=l)=b→(if b=true then t D [some (.ref p),some (.ref W),some (.ref C),some (.int n),some (.int m),some (.str (tx (nmC k)))] H else u D [some (.ref p),some (.ref W),some (.ref C),some (.int n),some (.int m),some (.str (tx (nmC k)))] H)→
   tIfS (tTest (tOp (cEq K) (tVar 5) (tC (.str (tx l))))) t u D [some (.ref p),some (.ref W),some (.ref C),some (.int n),some (.int m),some (.str (tx (nmC k)))] H:=fun l t u D b hb hq=>by
  rw [aT]
  walk_at "w"
  rw [m4,hb]
  exact hq
 have R:∀ (D:Ends),D.rt=Q→tRet (tMake (c.A k) (aj K c) [] E0 (tCons (tVar 0) (tCons (tVar 1) (tCons (tVar 2) (tCons (tVar 3) (tCons (tVar 4) tNil)))))) D [some (.ref p),some (.ref W),some (.ref C),some (.int n),some (.int m),some (.str (tx (nmC k)))] H:=fun D hD=>by
  walk_at "w"
  rw [hD]
  exact mk
 cases k with
 | Rule=>exact absurd rfl hk
 | Unlike=>exact D _ _ _ _ true (by decide) (iteT (R _ rfl))
 | Sum=>exact D _ _ _ _ false (by decide) (iteF (D _ _ _ _ true (by decide) (iteT (R _ rfl))))
 | Rising=>exact D _ _ _ _ false (by decide) (iteF (D _ _ _ _ false (by decide) (iteF (D _ _ _ _ true (by decide) (iteT (R _ rfl))))))
 | Seen=>exact D _ _ _ _ false (by decide) (iteF (D _ _ _ _ false (by decide) (iteF (D _ _ _ _ false (by decide) (iteF (D _ _ _ _ true (by decide) (iteT (R _ rfl))))))))
 | Count=>exact D _ _ _ _ false (by decide) (iteF (D _ _ _ _ false (by decide) (iteF (D _ _ _ _ false (by decide) (iteF (D _ _ _ _ false (by decide) (iteF (D _ _ _ _ true (by decide) (iteT (R _ rfl))))))))))
 | Joined=>exact D _ _ _ _ false (by decide) (iteF (D _ _ _ _ false (by decide) (iteF (D _ _ _ _ false (by decide) (iteF (D _ _ _ _ false (by decide) (iteF (D _ _ _ _ false (by decide) (iteF (D _ _ _ _ true (by decide) (iteT (R _ rfl))))))))))))
 | NoSquare=>exact D _ _ _ _ false (by decide) (iteF (D _ _ _ _ false (by decide) (iteF (D _ _ _ _ false (by decide) (iteF (D _ _ _ _ false (by decide) (iteF (D _ _ _ _ false (by decide) (iteF (D _ _ _ _ false (by decide) (iteF (D _ _ _ _ true (by decide) (iteT (R _ rfl))))))))))))))
 | Ring=>exact D _ _ _ _ false (by decide) (iteF (D _ _ _ _ false (by decide) (iteF (D _ _ _ _ false (by decide) (iteF (D _ _ _ _ false (by decide) (iteF (D _ _ _ _ false (by decide) (iteF (D _ _ _ _ false (by decide) (iteF (D _ _ _ _ false (by decide) (iteF (D _ _ _ _ true (by decide) (iteT (R _ rfl))))))))))))))))
def rowW (k:RK) (n m:Nat) (ns:List Nat):List (List Nat):=nmC k::((if numK k then [numC n] else [])++(if sgnK k then [numC m] else [])++ns.map numC)
structure re (k:RK) (h w g:Int) (n m:Nat) (ns:List Nat) (cs:List Int):Prop where
 k0:k≠.Rule
 n0:n≤99
 nz:numK k=false→n=0
 m0:sgnK k=true→1≤(m:Int)∧(m:Int)≤g
 mz:sgnK k=false→m=0
 cl:oy k h w ns cs
 ns0:∀ x∈ns,x < 100
 len:ns.length≤16
def cR (K:PySem.W.Frag) (c:RCl RK):Sp:=fun vs H Q _=>∃ (k:RK) (p:Addr) (h w g:Int) (n m:Nat) (ns:List Nat) (cs:List Int),vs=[.ref p,.str (tx (catL 32 (rowW k n m ns)))]∧IsFl H p h w g∧FlOk h w g∧re k h w g n m ns cs∧c.ok k=true∧
 ∀ r H',Same H H'→H r=none→IsRule H' c k r p (rowW k n m ns) cs n m→Q (.ref r) H'
theorem rf {K:PySem.W.Frag} {c:RCl RK} {vs:List V} {H:Hp} {Q:VK} {E:XK} (h:cR K c vs H Q E):vs.length=2:=by
 obtain ⟨_,_,_,_,_,_,_,_,_,rfl,_⟩:=h; rfl
def dr (K:PySem.W.Frag) (c:RCl RK):TS:=
 (tRet (tCall (d9 K c) [] E0 (tCons (tVar 0) (tCons (tVar 2) (tCons (tCall (dj K) [] E0 (tCons (tVar 0) (tCons (tVar 3) (tCons (tVar 4) tNil)))) (tCons (tVar 5) (tCons (tVar 6) tNil)))))))
def fV (K:PySem.W.Frag) (c:RCl RK):TS:=
 (tSeq (tAsg (tOp cIx (tVar 2) (tC (.int 0))) (gName 3))
  (tSeq (tAsg (tSl dQ (tVar 2) (tPart (tC (.int 1))) bE) (gName 4))
  (tSeq (tAsg (tC (.int 0)) (gName 5))
  (tSeq (tAsg (tC (.int 0)) (gName 6))
  (tSeq (tIfS (tB (tInG d8 false (tVar 3))) (tSeq (tAsg (tCall (bi K) [] E0 (tCons (tVar 4) (tCons (tC (.int 0)) (tCons (tC (.int 99)) tNil)))) (gName 5))
  (tAsg (tSl dQ (tVar 4) (tPart (tC (.int 1))) bE) (gName 4))) tNext)
  (tSeq (tIfS (tB (tInG dU false (tVar 3))) (tSeq (tAsg (tCall (bi K) [] E0 (tCons (tVar 4) (tCons (tC (.int 1)) (tCons (tOp cIx (tVar 0) (tC (.int 2))) tNil)))) (gName 6))
  (tAsg (tSl dQ (tVar 4) (tPart (tC (.int 1))) bE) (gName 4))) tNext)
  (dr K c)))))))
def fW (K:PySem.W.Frag) (c:RCl RK):TS:=
 (tSeq (tIfS (tNot (tB (tCB kIsi (tCons (tVar 1) (tCons (tC (.ty "str")) tNil))))) bW tNext)
  (tSeq (tAsg (tBM K "str" mT (tVar 1) (tCons (tC (.str (tx [32]))) tNil)) (gName 2))
  (fV K c)))
theorem wF (k:RK):32∉nmC k:=by cases k <;> decide
theorem xZ (k:RK):∀ c∈nmC k,c < 128:=by cases k <;> decide
theorem uX {k:RK} {n m:Nat} {ns:List Nat} (hn:n < 100) (hm:m < 100) (hs:∀ x∈ns,x < 100):∀ r∈rowW k n m ns,32∉r:=by
 intro r hr
 unfold rowW at hr
 rcases List.mem_cons.mp hr with rfl | hr
 · exact wF k
 rcases List.mem_append.mp hr with hr | hr
 · rcases List.mem_append.mp hr with hr | hr
   · split at hr
     · rw [List.mem_singleton.mp hr]; exact l6 hn
     · cases hr
   · split at hr
     · rw [List.mem_singleton.mp hr]; exact l6 hm
     · cases hr
 · obtain ⟨x,hx,rfl⟩:=List.mem_map.mp hr
   exact l6 (hs x hx)
theorem vK (xs:List V):cutV xs (some 1) none=xs.drop 1:=by
 unfold cutV
 have h1:HT.sIx xs.length 0 (some 1)=min 1 xs.length:=HT.sIx_nat ..
 have h2:HT.sIx xs.length xs.length none=xs.length:=rfl
 rw [h1,h2]
 cases xs with
 | nil=>rfl
 | cons x r=>
  have:min 1 (x::r).length=1:=by simp
  rw [this]
  show (r).take _=r
  rw [List.take_of_length_le (by simp)]
theorem i7 {K:PySem.W.Frag} {c:RCl RK} {H:Hp} {Q:VK} {k:RK} {p W R:Addr} {h w g:Int} {n m:Nat} {ws:List (List Nat)} {ns:List Nat} {cs:List Int} {lv:V} (F:FlOk h w g) (ha:IsFl H p h w g) (hW:H W=some (.lst (((nmC k::ws).map tx).map V.str))) (hR:H R=some (.lst (((ns.map numC).map tx).map V.str))) (hc:oy k h w ns cs) (hn:∀ x∈ns,x < 100) (k0:k≠.Rule) (ok:c.ok k=true)
  (q:∀ r H',Same H H'→H r=none→IsRule H' c k r p (nmC k::ws) cs n m→Q (.ref r) H'):
  dr K c { nx:=fun _ H'=>Q .non H',rt:=Q } [some (.ref p),some lv,some (.ref W),some (.str (tx (nmC k))),some (.ref R),some (.int n),some (.int m)] H:=by
 unfold dr
 walk_at "w"
 refine ⟨k,p,R,h,w,g,ns,cs,rfl,ha,F,hR,hc,hn,fun l H1 s1 hl el=>?_⟩
 walk_at "w"
 exact ⟨k,p,W,l,ws,cs,n,m,rfl,k0,ok,s1 _ _ hW,el,fun r H2 s2 hr x=>q r H2 (s1.trans s2) (s1.free hr) x⟩
theorem lW {k:RK} {n m:Nat} {ns:List Nat} (h:ns.length≤16):(rowW k n m ns).length≤100∧∀ w∈rowW k n m ns,w.length≤100:=by
 unfold rowW
 refine ⟨?_,fun w hw=>?_⟩
 · simp only [List.length_cons,List.length_append,List.length_map]
   split <;> split <;> simp <;> omega
 · rcases List.mem_cons.mp hw with rfl | hw
   · cases k <;> decide
   have h2:∀ x,(numC x).length≤100:=fun x=>Nat.le_trans jx (by decide)
   rcases List.mem_append.mp hw with hw | hw
   · rcases List.mem_append.mp hw with hw | hw
     · split at hw
       · rw [List.mem_singleton.mp hw]; exact h2 _
       · cases hw
     · split at hw
       · rw [List.mem_singleton.mp hw]; exact h2 _
       · cases hw
   · obtain ⟨x,hx,rfl⟩:=List.mem_map.mp hw
     exact h2 _
theorem nn:∀ (rows:List (List Nat)),(∀ r∈rows,r.length≤100)→(catL 32 rows).length≤101*rows.length
 | [],_=>Nat.zero_le _
 | [x],h=>by
  have:=h x List.mem_cons_self
  show x.length≤101*1
  omega
 | x::y::r,h=>by
  have h1:=h x List.mem_cons_self
  have ih:=nn (y::r) fun z hz=>h z (List.mem_cons_of_mem _ hz)
  have e:catL 32 (x::y::r)=x++32::catL 32 (y::r):=by first | rfl | simp [catL]
  rw [e,List.length_append,List.length_cons,List.length_cons]
  omega
theorem oz {H:Hp} {Q:VK} {p:Addr} {x:Str} {xs:List Str} (hp:H p=some (.lst ((x::xs).map V.str))) (q:∀ l,H l=none→Q (.ref l) (upd H l (.lst (xs.map V.str)))):dQ (.ref p) (some 1) none H Q:=by
 refine i0 hp fun l hl=>?_
 rw [vK]
 exact q l hl
theorem no {K:PySem.W.Frag} {c:RCl RK} {H:Hp} {Q:VK} {k:RK} {p W:Addr} {h w g:Int} {n m:Nat} {ns:List Nat} {cs:List Int} {lv:V} (F:FlOk h w g) (ha:IsFl H p h w g) (hW:H W=some (.lst (((rowW k n m ns).map tx).map V.str))) (O:re k h w g n m ns cs) (ok:c.ok k=true)
  (q:∀ r H',Same H H'→H r=none→IsRule H' c k r p (rowW k n m ns) cs n m→Q (.ref r) H'):
  fV K c { nx:=fun _ H'=>Q .non H',rt:=Q } [some (.ref p),some lv,some (.ref W),none,none,none,none] H:=by
 obtain ⟨k0,n0,nz,m0,mz,cl,ns0,len⟩:=O
 obtain ⟨h0,h1,w0,w1,m16,g0,g1⟩:=id F
 have e0:atI (((rowW k n m ns).map tx).map V.str) 0=some (V.str (tx (nmC k))):=gp (j:=0) rfl
 have hns:WOk (ns.map numC):=fun v hv=>by obtain ⟨x,hx,rfl⟩:=List.mem_map.mp hv; exact ik (ns0 x hx)
 unfold fV
 walk_at "w"
 refine ixL hW e0 ?_
 walk_at "w"
 refine oz hW fun R hR=>?_
 have s1:Same H (upd H R (.lst ((((if numK k then [numC n] else [])++(if sgnK k then [numC m] else [])++ns.map numC).map tx).map V.str))):=(Same.refl H).laid hR
 have eR:(upd H R (.lst ((((if numK k then [numC n] else [])++(if sgnK k then [numC m] else [])++ns.map numC).map tx).map V.str))) R=some (.lst ((((if numK k then [numC n] else [])++(if sgnK k then [numC m] else [])++ns.map numC).map tx).map V.str)):=ae
 generalize upd H R (.lst ((((if numK k then [numC n] else [])++(if sgnK k then [numC m] else [])++ns.map numC).map tx).map V.str))=H1 at*
 walk_at "w"
 have two:∀ {H2:Hp} {R2:Addr},Same H H2→H2 R2=some (.lst ((((if sgnK k then [numC m] else [])++ns.map numC).map tx).map V.str))→
   tSeq (tIfS (tB (tInG dU false (tVar 3))) (tSeq (tAsg (tCall (bi K) [] E0 (tCons (tVar 4) (tCons (tC (.int 1)) (tCons (tOp cIx (tVar 0) (tC (.int 2))) tNil)))) (gName 6)) (tAsg (tSl dQ (tVar 4) (tPart (tC (.int 1))) bE) (gName 4))) tNext) (dr K c) { nx:=fun _ H'=>Q .non H',rt:=Q }
    [some (.ref p),some lv,some (.ref W),some (.str (tx (nmC k))),some (.ref R2),some (.int n),some (.int 0)] H2:=by
  intro H2 R2 s2 eR2
  rw [aF,aT]
  walk_at "w"
  rw [xE]
  cases hs:sgnK k with
  | false=>
   rw [hs] at eR2
   have:=mz hs
   subst this
   walk_at "w"
   exact i7 F (s2 _ _ ha) (s2 _ _ hW) eR2 cl ns0 k0 ok fun r H3 s3 hr x=>q r H3 (s2.trans s3) (s2.free hr) x
  | true=>
   rw [hs] at eR2
   have hm:=m0 hs
   walk_at "w"
   refine ixT (s2 _ _ ha) (v:=V.int g) rfl ?_
   walk_at "w"
   refine ⟨R2,m,ns.map numC,1,g,rfl,eR2,by omega,hns,hm.1,hm.2,fun H3 s3=>?_⟩
   walk_at "w"
   refine oz (s3 _ _ eR2) fun R3 hR3=>?_
   have s4:Same H3 (upd H3 R3 (.lst (((ns.map numC).map tx).map V.str))):=(Same.refl H3).laid hR3
   have s24:=(s2.trans s3).trans s4
   exact i7 F (s24 _ _ ha) (s24 _ _ hW) ae cl ns0 k0 ok fun r H5 s5 hr x=>q r H5 (s24.trans s5) (s24.free hr) x
 rw [aT]
 walk_at "w"
 rw [xC]
 cases hn:numK k with
 | false=>
  rw [hn] at eR
  have:=nz hn
  subst this
  walk_at "w"
  exact two s1 eR
 | true=>
  rw [hn] at eR
  walk_at "w"
  refine ⟨R,n,(if sgnK k then [numC m] else [])++ns.map numC,0,99,rfl,eR,by omega,?_,by omega,by omega,fun H3 s3=>?_⟩
  · intro v hv
    rcases List.mem_append.mp hv with hv | hv
    · split at hv
      · rename_i hs
        have:=m0 hs
        rw [List.mem_singleton.mp hv]; exact ik (by omega)
      · cases hv
    · exact hns v hv
  walk_at "w"
  refine oz (s3 _ _ eR) fun R3 hR3=>?_
  have s4:Same H3 (upd H3 R3 (.lst ((((if sgnK k then [numC m] else [])++ns.map numC).map tx).map V.str))):=(Same.refl H3).laid hR3
  walk_at "w"
  exact two ((s1.trans s3).trans s4) ae
theorem rg {K:PySem.W.Frag} {c:RCl RK} {vs:List V} {H:Hp} {Q:VK} {E:XK} (h:cR K c vs H Q E):fW K c { nx:=fun _ H'=>Q .non H',rt:=Q } (start ["floor","line","words","name","rest","amount","mark"] vs) H:=by
 obtain ⟨k,p,h,w,g,n,m,ns,cs,rfl,ha,F,O,ok,q⟩:=h
 have hm:m < 100:=by
  by_cases hs:sgnK k=true
  · have:=(O.m0 hs).2
    have:=F.g1
    omega
  · have:=O.mz (by simpa using hs)
    omega
 have hsp:Txt.split (tx (catL 32 (rowW k n m ns))) (tx [32])=(rowW k n m ns).map tx:=vF (by simp [rowW]) (uX (by have:=O.n0; omega) hm O.ns0)
 have hl:=lW (k:=k) (n:=n) (m:=m) O.len
 have hl2:=nn _ hl.2
 show fW K c _ [some (.ref p),some (.str (tx (catL 32 (rowW k n m ns)))),none,none,none,none,none] H
 unfold fW
 rw [aF,aT]
 walk_at "w"
 refine ⟨tK,?_⟩
 rw [wt,hsp]
 refine ⟨by rw [dS]; decide,by rw [dS]; exact Nat.le_of_lt (Nat.lt_of_le_of_lt hl2 (Nat.lt_of_le_of_lt (Nat.mul_le_mul_left 101 hl.1) (by decide))),by rw [List.length_map]; exact aC (by omega),fun W hW=>?_⟩
 have s1:Same H (upd H W (.lst (((rowW k n m ns).map tx).map V.str))):=(Same.refl H).laid hW
 exact no F (s1 _ _ ha) ae O ok fun r H2 s2 hr x=>q r H2 (s1.trans s2) (s1.free hr) x
theorem ph {α β:Type} (f:α→β):∀ (l:List α) (j:Nat),(l.map f).eraseIdx j=(l.eraseIdx j).map f
 | [],_=>rfl
 | _::_,0=>rfl
 | x::r,j+1=>by
  show f x::(r.map f).eraseIdx j=f x::(r.eraseIdx j).map f
  rw [ph f r j]
theorem np {α:Type}:∀ (l:List α) (j:Nat) (h:j < l.length),(l[j]::l.eraseIdx j).Perm l
 | [],_,h=>absurd h (by simp)
 | x::r,0,_=>List.Perm.refl _
 | x::r,j+1,h=>by
  have hj:j < r.length:=by simpa using h
  have ih:=np r j hj
  show (r[j]::x::r.eraseIdx j).Perm (x::r)
  exact (List.Perm.swap x r[j] (r.eraseIdx j)).trans (List.Perm.cons x ih)
theorem kR {α β:Type} (f:α→β):∀ {l:List α},(l.map f).Nodup→l.Nodup
 | [],_=>List.nodup_nil
 | a::r,h=>by
  rw [List.map_cons,List.nodup_cons] at h
  rw [List.nodup_cons]
  exact ⟨fun z=>h.1 (List.mem_map.mpr ⟨a,z,rfl⟩),kR f h.2⟩
theorem uY (n:Int):(rngL 0 n).Nodup:=by
 unfold rngL
 have e:(List.range (n - 0).toNat).map (fun (k:Nat)=>0+(k:Int))=(List.range (n - 0).toNat).map fun (k:Nat)=>(k:Int):=List.map_congr_left fun k _=>by omega
 rw [e]
 exact kh List.nodup_range
theorem sQ {n x:Int} (h:x∈rngL 0 n):0≤x∧x < n:=by
 unfold rngL at h
 obtain ⟨k,hk,rfl⟩:=List.mem_map.mp h
 have:=List.mem_range.mp hk
 omega
def dt (K:PySem.W.Frag) (c:RCl RK):Sp:=bU K c .Unlike
theorem nq {K:PySem.W.Frag} {c:RCl RK} {vs:List V} {H:Hp} {Q:VK} {E:XK} (h:dt K c vs H Q E):vs.length=2:=by
 obtain ⟨_,_,_,_,_,_,_,_,_,_,_,rfl,_⟩:=h; rfl
def du (K:PySem.W.Frag) (c:RCl RK):TS:=
 (tSeq (tAsg (aO c c.ok "signs_at" (br K c) (tVar 0) (tCons (tVar 1) tNil)) (gName 2))
  (tRet (tOp (cEq K) (lA (tVar 2)) (tCB kLen (tCons (tVar 2) tNil)))))
theorem nt {K:PySem.W.Frag} {c:RCl RK} {vs:List V} {H:Hp} {Q:VK} {E:XK} (h:dt K c vs H Q E):du K c { nx:=fun _ H'=>Q .non H',rt:=Q } (start ["self","filling","signs"] vs) H:=by
 obtain ⟨r,p,f,ws,cs,xs,n,m,h,w,g,rfl,x,ha,F,hf,hC,hx,q⟩:=h
 obtain ⟨dx,W,C,h1,h2,h3⟩:=x.ex
 show du K c _ [some (.ref r),some (.ref f),none] H
 unfold du
 walk_at "w"
 refine methE rfl x.ok h1 (by rfl) ?_
 walk_at "w"
 refine ⟨r,p,f,ws,cs,xs,n,m,rfl,x,hf,hC,fun l H1 s1 hl el=>?_⟩
 have hlen:(sgAt xs cs).length≤100:=by unfold sgAt; rw [List.length_map]; exact Nat.le_trans hC.1 (by decide)
 walk_at "w"
 refine ⟨l,_,rfl,el,by omega,?_⟩
 walk_at "w"
 rw [cE el,List.length_map]
 walk_at "w"
 have q1:=q _ s1
 unfold hoB at q1
 dsimp only at q1
 have e:decide (((cntD (sgAt xs cs):Nat):Int)=((sgAt xs cs).length:Nat))=decide (cntD (sgAt xs cs)=(sgAt xs cs).length):=by
  rw [Bool.eq_iff_iff,decide_eq_true_eq,decide_eq_true_eq]
  omega
 rw [e]
 exact q1
theorem jA {n:Nat} (h:n < 100):((n:Int)).natAbs.log2 < 1920:=by
 have t:((List.range 100).all fun n=>decide (n.log2 < 1920))=true:=by decide+kernel
 have:=List.all_eq_true.mp t n (List.mem_range.mpr h)
 simpa using this
theorem sR {H:Hp} {Q:VK} {n:Nat} (h:n < 100) (q:Q (.str (tx (numC n))) H):kStr [.int (n:Int)] H Q:=by
 refine ⟨jA h,?_⟩
 rw [jw h]
 exact q
theorem uZ {K:PySem.W.Frag} {H:Hp} {C:Addr} {cs:List Nat} {fin:Addr→Hp→Prop} (hC:H C=some (.lst ((cs.map fun (n:Nat)=>(n:Int)).map V.int))) (hl:cs.length≤100) (hc:∀ c∈cs,c < 100)
  (hd:∀ l H',H l=none→Same H H'→H' l=some (.lst (((cs.map numC).map tx).map V.str))→fin l H'):CompR (Itl K C) (gName 1) tTrue (tCB kStr (tCons (tVar 1) tNil)) fin [none,none] H:=by
 refine bX (xs:=(cs.map fun (n:Nat)=>(n:Int)).map V.int) (fun _=>true) (fun i=>.str (tx (numC (cs.getD i 0)))) (by simp; omega) (SqL.of hC) ?_ ?_ ?_
 · intro i x H1 R hx s1 k1
   exact k1 _ (Same.refl _)
 · intro i x H1 Q1 hx hb s1 k1
   rw [List.getElem?_map,List.getElem?_map] at hx
   cases e:cs[i]? with
   | none=>rw [e] at hx; cases hx
   | some n=>
    rw [e] at hx
    cases hx
    show tCB kStr _ [none,some (.int (n:Int))] H1 Q1
    walk_at "w"
    have q1:=k1 _ (Same.refl H1)
    have eg:cs.getD i 0=n:=by rw [List.getD,e]; rfl
    rw [eg] at q1
    have:=sR (H:=H1) (Q:=Q1) (hc n (List.mem_of_getElem? e)) q1
    exact this
 · intro l H1 hl1 s1 el
   refine hd l H1 hl1 s1 ?_
   rw [el,aV,List.length_map,List.length_map,List.map_map,List.map_map]
   congr 2
   refine List.ext_getElem? fun i=>?_
   rw [List.getElem?_map,List.getElem?_map]
   by_cases h:i < cs.length
   · rw [List.getElem?_range h,List.getElem?_eq_getElem h]
     simp [List.getD,h]
   · rw [List.getElem?_eq_none (by simpa using h),List.getElem?_eq_none (by omega)]; rfl
theorem vL {c:Nat} {x:List Nat}:∀ {rs:List (List Nat)},rs≠[]→catL c (x::rs)=x++c::catL c rs
 | [],h=>absurd rfl h
 | y::r,_=>by first | rfl | simp [catL]
end L2
namespace L2
open PySem PySem.Spec PyProof.Rows
section
variable {X:Cx} {a:Expr} {ta:TE} {pos p:Pos} {x:Str} {ws:List Str}
theorem u6 (G:GTup X.K X.mg x ws) (ha:PE X a ta) (hg:Gl X x) (hdb:(x==("__debug__":Str))=false:=by decide) (hm:behindInMarks .In (.Name x p)=false:=by with_unfolding_all rfl):PT X (.Compare a [.In] [.Name x p] pos) (tB (tInG ws false ta)):=by
 obtain ⟨q,o,its,n,h1,h2⟩:=G.ex
 have h0:=ap (pos:=pos) (xv ⟨o,its,n,h2⟩) ha (cL (v:=V.ref q) hg h1 rfl hdb) hm
 intro pins s σ H Q I h
 refine h0 pins s σ H Q I ?_
 have e:(fun (x:V) (H1:Hp)=>∃ z,x=.str z∧∃ k,V.bl (if false=true then !decide (z∈ws) else decide (z∈ws))=.bl k∧Q k H1)=fun x H1=>∃ z,x=.str z∧(V.ref q=V.ref q)∧∃ k,V.bl (decide (z∈ws))=.bl k∧Q k H1:=by
  funext x H1; simp
 have h':ta σ H (fun (x:V) (H1:Hp)=>∃ z,x=.str z∧∃ k,V.bl (if false=true then !decide (z∈ws) else decide (z∈ws))=.bl k∧Q k H1):=h
 rw [e] at h'
 exact h'
theorem wG (G:GTup X.K X.mg x ws) (ha:PE X a ta) (hg:Gl X x) (hdb:(x==("__debug__":Str))=false:=by decide) (hm:behindInMarks .NotIn (.Name x p)=false:=by with_unfolding_all rfl):PT X (.Compare a [.NotIn] [.Name x p] pos) (tB (tInG ws true ta)):=by
 obtain ⟨q,o,its,n,h1,h2⟩:=G.ex
 have h0:=ap (pos:=pos) (wy ⟨o,its,n,h2⟩) ha (cL (v:=V.ref q) hg h1 rfl hdb) hm
 intro pins s σ H Q I h
 refine h0 pins s σ H Q I ?_
 have e:(fun (x:V) (H1:Hp)=>∃ z,x=.str z∧∃ k,V.bl (if true=true then !decide (z∈ws) else decide (z∈ws))=.bl k∧Q k H1)=fun x H1=>∃ z,x=.str z∧(V.ref q=V.ref q)∧∃ k,V.bl (!decide (z∈ws))=.bl k∧Q k H1:=by
  funext x H1; simp
 have h':ta σ H (fun (x:V) (H1:Hp)=>∃ z,x=.str z∧∃ k,V.bl (if true=true then !decide (z∈ws) else decide (z∈ws))=.bl k∧Q k H1):=h
 rw [e] at h'
 exact h'
end
end L2
namespace L2
open PySem PySem.Spec PyProof.Rows
local macro_rules | `(tactic| walk_at "w")=>`(tactic| (first | simp only [aF,nc,qk,kf,nh,jv,lB,ql,qg,m5,qj,if_true,if_false,Bool.false_eq_true,decide_true,decide_false,lx,ly,qi,j7,i6,lu,mX,lw,j5,mV,mW,j3,qf,j8,j9,kb,kc,kd,ke,ka,m6,m7,m8,mU,qh,Bool.not_true,Bool.not_false,a7,iV,bv,gJ,w_c,kM,gK,iq,gR,gS,w_b,w_not,jH,lZ,ir,iu,jI,iW,eY,l0,iv,jJ,iX,kN,jK,e5,iw,iy,iA,gq,gr,fG,fw,fz,dP,jL,jM,jN,jO,jP,jQ,jR,jS,jT,jU,jV,jW,l3,iB,fA,iC,l4,iD,gt,fB,jZ,j2,iE,gU,iF,
 List.getElem?_cons_zero,List.getElem?_cons_succ,Option.some.injEq,exists_eq_left',exists_eq_left,List.set_cons_zero,List.set_cons_succ,dN,V.int.injEq,V.bl.injEq,V.ref.injEq,V.str.injEq,List.append_nil,List.nil_append,List.cons_append] | dsimp only | skip))
inductive PzK where
 | Puzzle
 deriving DecidableEq
structure RR where
 k:RK
 n:Nat
 m:Nat
 ns:List Nat
 cs:List Int
def RR.ws (r:RR):List (List Nat):=rowW r.k r.n r.m r.ns
def RR.txt (r:RR):Str:=tx (catL 32 r.ws)
def RR.Ok (r:RR) (h w g:Int):Prop:=re r.k h w g r.n r.m r.ns r.cs
theorem u7:∀ {rs:List (List Nat)},(∀ r∈rs,∀ c∈r,c < 128)→∀ c∈catL 32 rs,c < 128
 | [],_,c,hc=>by simp [catL] at hc
 | [x],h,c,hc=>h x List.mem_cons_self c (by first | exact hc | simpa [catL] using hc)
 | x::y::r,h,c,hc=>by
  rw [vL (by simp)] at hc
  rcases List.mem_append.mp hc with hc | hc
  · exact h x List.mem_cons_self c hc
  rcases List.mem_cons.mp hc with rfl | hc
  · decide
  · exact u7 (fun z hz=>h z (List.mem_cons_of_mem _ hz)) c hc
theorem RR.wok {r:RR} {h w g:Int} (F:FlOk h w g) (O:r.Ok h w g):∀ x∈r.ws,∀ c∈x,c < 128:=by
 intro x hx
 unfold RR.ws rowW at hx
 have hm:r.m < 100:=by
  by_cases hs:sgnK r.k=true
  · have:=(O.m0 hs).2
    have:=F.g1
    omega
  · have:=O.mz (by simpa using hs)
    omega
 have hn:=O.n0
 rcases List.mem_cons.mp hx with rfl | hx
 · exact xZ r.k
 rcases List.mem_append.mp hx with hx | hx
 · rcases List.mem_append.mp hx with hx | hx
   · split at hx
     · rw [List.mem_singleton.mp hx]; exact ik (by omega)
     · cases hx
   · split at hx
     · rw [List.mem_singleton.mp hx]; exact ik hm
     · cases hx
 · obtain ⟨y,hy,rfl⟩:=List.mem_map.mp hx
   exact ik (O.ns0 y hy)
theorem RR.sok {r:RR} {h w g:Int} (F:FlOk h w g) (O:r.Ok h w g):PyData.strOk r.txt=true:=vY (u7 (RR.wok F O))
structure IsRules (H:Hp) (c:RCl RK) (p L:Addr) (rs:List Addr) (rows:List RR):Prop where
 top:H L=some (.lst (rs.map V.ref))
 len:rs.length=rows.length
 at_:∀ (i:Nat) (r:Addr) (x:RR),rs[i]? =some r→rows[i]? =some x→IsRule H c x.k r p x.ws x.cs x.n x.m
theorem IsRules.same {H H':Hp} {c:RCl RK} {p L:Addr} {rs:List Addr} {rows:List RR} (x:IsRules H c p L rs rows) (s:Same H H'):IsRules H' c p L rs rows:=
 ⟨s _ _ x.top,x.len,fun i r y h1 h2=>(x.at_ i r y h1 h2).same s⟩
theorem IsRule.lst {H:Hp} {c:RCl RK} {k:RK} {r p a:Addr} {ws:List (List Nat)} {cs:List Int} {n m:Int} {xs:List V} {o:HO} (x:IsRule H c k r p ws cs n m) (ha:H a=some (.lst xs)):IsRule (upd H a o) c k r p ws cs n m:=by
 obtain ⟨dx,W,C,h1,h2,h3⟩:=x.ex
 refine ⟨x.ok,dx,W,C,?_,?_,?_⟩
 · rw [ah (fun e=>by rw [e,ha] at h1; cases h1)]; exact h1
 · rw [ah (fun e=>by rw [e,ha] at h2; cases h2)]; exact h2
 · rw [ah (fun e=>by rw [e,ha] at h3; cases h3)]; exact h3
def pFs (p L G:Addr):List (Str × V):=[("floor",.ref p),("laws",.ref L),("given",.ref G)]
structure gY (c:RCl RK) (h w g:Int) (rows:List RR):Prop where
 F:FlOk h w g
 n:rows.length≤12
 ok:∀ r∈rows,r.Ok h w g
 c:∀ r∈rows,c.ok r.k=true
structure CluesOk (h w g:Int) (cl:List Int):Prop where
 len:cl.length=(h*w).toNat
 ok:∀ x∈cl,0≤x∧x≤g
structure IsPz (H:Hp) (c:RCl RK) (d:RCl PzK) (P L G:Addr) (h w g:Int) (rows:List RR) (cl:List Int):Prop where
 ok:d.ok .Puzzle=true
 R:gY c h w g rows
 C:CluesOk h w g cl
 gv:H G=some (.lst (cl.map V.int))
 ex:∃ dx p rs,H P=some (.ins (d.A .Puzzle) dx (pFs p L G))∧IsFl H p h w g∧IsRules H c p L rs rows
theorem IsPz.same {H H':Hp} {c:RCl RK} {d:RCl PzK} {P L G:Addr} {h w g:Int} {rows:List RR} {cl:List Int} (x:IsPz H c d P L G h w g rows cl) (s:Same H H'):IsPz H' c d P L G h w g rows cl:=by
 obtain ⟨dx,p,rs,h1,h2,h3⟩:=x.ex
 exact ⟨x.ok,x.R,x.C,s _ _ x.gv,dx,p,rs,s _ _ h1,s _ _ h2,h3.same s⟩
def bY (K:PySem.W.Frag):Sp:=fun vs H Q _=>∃ i:Int,vs=[.int i]∧Q (.bl true) H
theorem si {K:PySem.W.Frag} {vs:List V} {H:Hp} {Q:VK} {E:XK} (h:bY K vs H Q E):vs.length=1:=by
 obtain ⟨_,rfl,_⟩:=h; rfl
def gN (K:PySem.W.Frag):TS:=
 (tRet (tAndV (tCB kIsi (tCons (tVar 0) (tCons (tC (.ty "int")) tNil))) (tNotV (tCB kIsi (tCons (tVar 0) (tCons (tC (.ty "bool")) tNil))))))
theorem sj {K:PySem.W.Frag} {vs:List V} {H:Hp} {Q:VK} {E:XK} (h:bY K vs H Q E):gN K { nx:=fun _ H'=>Q .non H',rt:=Q } (start ["value"] vs) H:=by
 obtain ⟨i,rfl,q⟩:=h
 show gN K _ [some (.int i)] H
 unfold gN
 walk_at "w"
 exact q
def aZ (K:PySem.W.Frag):Sp:=fun vs H Q _=>∃ i m:Int,vs=[.int i,.int m]∧Q (.bl (decide (1≤i)&&decide (i≤m))) H
theorem lE {K:PySem.W.Frag} {vs:List V} {H:Hp} {Q:VK} {E:XK} (h:aZ K vs H Q E):vs.length=2:=by
 obtain ⟨_,_,rfl,_⟩:=h; rfl
def cG (K:PySem.W.Frag):TS:=
 (tRet (tAndV (tCall (bY K) [] E0 (tCons (tVar 0) tNil)) (tAndV (tOp (cCmp fun i j=>decide (i≤j)) (tC (.int 1)) (tVar 0)) (tOp (cCmp fun i j=>decide (i≤j)) (tVar 0) (tVar 1)))))
theorem lF {K:PySem.W.Frag} {vs:List V} {H:Hp} {Q:VK} {E:XK} (h:aZ K vs H Q E):cG K { nx:=fun _ H'=>Q .non H',rt:=Q } (start ["value","most"] vs) H:=by
 obtain ⟨i,m,rfl,q⟩:=h
 show cG K _ [some (.int i),some (.int m)] H
 unfold cG
 walk_at "w"
 refine ⟨i,rfl,⟨true,rfl,iteT ?_⟩⟩
 walk_at "w"
 cases hb:decide (1≤i) with
 | false=>
  rw [hb,Bool.false_and] at q
  exact iteF q
 | true=>
  rw [hb,Bool.true_and] at q
  exact iteT q
def dk (K:PySem.W.Frag):Sp:=fun vs H Q _=>∃ h w g:Int,vs=[.int h,.int w,.int g]∧FlOk h w g∧∀ p,H p=none→Q (.ref p) (upd H p (.tup [.int h,.int w,.int g]))
theorem sk {K:PySem.W.Frag} {vs:List V} {H:Hp} {Q:VK} {E:XK} (h:dk K vs H Q E):vs.length=3:=by
 obtain ⟨_,_,_,rfl,_⟩:=h; rfl
def gO (K:PySem.W.Frag):TS:=
 (tSeq (tIfS (tNot (tB (tCall (aZ K) [] E0 (tCons (tVar 0) (tCons (tC (.int 6)) tNil))))) bW tNext)
  (tSeq (tIfS (tNot (tB (tCall (aZ K) [] E0 (tCons (tVar 1) (tCons (tC (.int 6)) tNil))))) bW tNext)
  (tSeq (tIfS (tTest (tOp (cCmp fun i j=>decide (j < i)) (tOp cMul (tVar 0) (tVar 1)) (tC (.int 16)))) bW tNext)
  (tSeq (tIfS (tNot (tB (tCall (aZ K) [] E0 (tCons (tVar 2) (tCons (tC (.int 6)) tNil))))) bW tNext)
  (tRet (tTup (tCons (tVar 0) (tCons (tVar 1) (tCons (tVar 2) tNil)))))))))
theorem so {K:PySem.W.Frag} {vs:List V} {H:Hp} {Q:VK} {E:XK} (h:dk K vs H Q E):gO K { nx:=fun _ H'=>Q .non H',rt:=Q } (start ["high","wide","signs"] vs) H:=by
 obtain ⟨h,w,g,rfl,F,q⟩:=h
 obtain ⟨h0,h1,w0,w1,m16,g0,g1⟩:=id F
 show gO K _ [some (.int h),some (.int w),some (.int g)] H
 unfold gO
 rw [aF,aT]
 walk_at "w"
 refine ⟨h,6,rfl,⟨_,rfl,?_⟩⟩
 rw [decide_eq_true h0,decide_eq_true h1,Bool.and_self]
 refine iteF ?_
 rw [aT]
 walk_at "w"
 refine ⟨w,6,rfl,⟨_,rfl,?_⟩⟩
 rw [decide_eq_true w0,decide_eq_true w1,Bool.and_self]
 refine iteF ?_
 rw [aT]
 walk_at "w"
 refine ⟨gW h0 h1,?_⟩
 rw [decide_eq_false (show ¬ (16:Int) < h*w by omega)]
 refine iteF ?_
 rw [aT]
 walk_at "w"
 refine ⟨g,6,rfl,⟨_,rfl,?_⟩⟩
 rw [decide_eq_true g0,decide_eq_true g1,Bool.and_self]
 refine iteF ?_
 walk_at "w"
 exact ⟨aC (by show (3:Nat)≤1000; decide),q⟩
def bF (K:PySem.W.Frag):Sp:=fun vs H Q _=>∃ (p:Addr) (h w g:Int),vs=[.ref p]∧IsFl H p h w g∧FlOk h w g∧∀ p,H p=none→Q (.ref p) (upd H p (.tup [.int h,.int w,.int g]))
theorem mf {K:PySem.W.Frag} {vs:List V} {H:Hp} {Q:VK} {E:XK} (h:bF K vs H Q E):vs.length=1:=by
 obtain ⟨_,_,_,_,rfl,_⟩:=h; rfl
def c9 (K:PySem.W.Frag):TS:=
 (tSeq (tIfS (tOr (tNot (tB (tCB kIsi (tCons (tVar 0) (tCons (tC (.ty "tuple")) tNil))))) (tTest (tOp (cNe K) (tCB kLen (tCons (tVar 0) tNil)) (tC (.int 3))))) bW tNext)
  (tRet (tCall (dk K) [] E0 (tCons (tOp cIx (tVar 0) (tC (.int 0))) (tCons (tOp cIx (tVar 0) (tC (.int 1))) (tCons (tOp cIx (tVar 0) (tC (.int 2))) tNil))))))
theorem mh {K:PySem.W.Frag} {vs:List V} {H:Hp} {Q:VK} {E:XK} (h:bF K vs H Q E):c9 K { nx:=fun _ H'=>Q .non H',rt:=Q } (start ["floor"] vs) H:=by
 obtain ⟨p,h,w,g,rfl,hp,F,q⟩:=h
 show c9 K _ [some (.ref p)] H
 unfold c9
 rw [aF,aT]
 walk_at "w"
 refine xq hp ?_
 walk_at "w"
 rw [xm hp,show (([V.int h,V.int w,V.int g]:List V).length:Int)=3 from rfl]
 walk_at "w"
 refine ixT hp (v:=V.int h) rfl ?_
 walk_at "w"
 refine ixT hp (v:=V.int w) rfl ?_
 walk_at "w"
 refine ixT hp (v:=V.int g) rfl ?_
 walk_at "w"
 exact ⟨h,w,g,rfl,F,q⟩
def cp (K:PySem.W.Frag) (c:RCl RK):Sp:=fun vs H Q _=>∃ (p a:Addr) (h w g:Int) (rows:List RR),vs=[.ref p,.ref a]∧IsFl H p h w g∧H a=some (.lst ((rows.map RR.txt).map V.str))∧gY c h w g rows∧
 ∀ l rs H',Same H H'→H l=none→IsRules H' c p l rs rows→Q (.ref l) H'
theorem pJ {K:PySem.W.Frag} {c:RCl RK} {vs:List V} {H:Hp} {Q:VK} {E:XK} (h:cp K c vs H Q E):vs.length=2:=by
 obtain ⟨_,_,_,_,_,_,rfl,_⟩:=h; rfl
def ff (K:PySem.W.Frag) (c:RCl RK):TS:=
 (tSeq (tIfS (tTest (tOp (cCmp fun i j=>decide (j < i)) (tCB kLen (tCons (tVar 1) tNil)) (tC (.int 12)))) bW tNext)
  (tRet (tComp [none,none,some 0] (iList K (tVar 1)) (gName 1) tTrue (tCall (cR K c) [] E0 (tCons (tVar 2) (tCons (tVar 1) tNil))))))
theorem pK {K:PySem.W.Frag} {c:RCl RK} {vs:List V} {H:Hp} {Q:VK} {E:XK} (h:cp K c vs H Q E):ff K c { nx:=fun _ H'=>Q .non H',rt:=Q } (start ["floor","lines"] vs) H:=by
 obtain ⟨p,a,h,w,g,rows,rfl,hp,ha,O,q⟩:=h
 have hn:=O.n
 show ff K c _ [some (.ref p),some (.ref a)] H
 unfold ff
 rw [aF,aT]
 walk_at "w"
 rw [cE ha,List.length_map,List.length_map]
 walk_at "w"
 rw [decide_eq_false (show ¬ (12:Int) < (rows.length:Nat) by omega)]
 refine iteF ?_
 walk_at "w"
 refine ⟨⟨_,SqL.of ha⟩,?_⟩
 refine iZ (xs:=(rows.map RR.txt).map V.str) (fun l i σ H'=>(∃ cv,σ=[none,cv,some (.ref p)])∧Same H H'∧∃ rs:List Addr,H' l=some (.lst (rs.map V.ref))∧rs.length=i∧∀ (j:Nat) (r:Addr) (x:RR),rs[j]? =some r→rows[j]? =some x→IsRule H' c x.k r p x.ws x.cs x.n x.m)
  (fun l hl=>⟨⟨none,rfl⟩,(Same.refl H).laid hl,[],by rw [ae]; rfl,rfl,fun j r x e=>by simp at e⟩) (fun l i σ H' _ _ x=>x.2.1.seq (SqL.of ha)) ?_ ?_
 · rintro l i x σ H1 hl hx ⟨⟨cv,rfl⟩,s1,rs,el,hlen,hat⟩
   rw [List.getElem?_map,List.getElem?_map] at hx
   cases e:rows[i]? with
   | none=>rw [e] at hx; cases hx
   | some y=>
    rw [e] at hx
    cases hx
    have hi:=(List.getElem?_eq_some_iff.mp e).1
    have hm:=List.mem_of_getElem? e
    rw [bv]
    show tTrue [none,some (.str y.txt),some (.ref p)] H1 _
    walk_at "w"
    refine ⟨y.k,p,h,w,g,y.n,y.m,y.ns,y.cs,rfl,s1 _ _ hp,O.F,O.ok y hm,O.c y hm,fun r H2 s2 hr xr=>?_⟩
    have nrl:r≠l:=fun z=>by rw [z,el] at hr; cases hr
    refine ⟨_,s2 _ _ el,by rw [List.length_map]; exact aE (by omega),⟨_,rfl⟩,(s1.trans s2).own hl,rs++[r],by rw [ae]; simp,by simp [hlen],fun j r' x' h1 h2=>?_⟩
    by_cases hj:j < rs.length
    · rw [List.getElem?_append_left hj] at h1
      exact ((hat j r' x' h1 h2).same s2).lst (s2 _ _ el)
    · rw [List.getElem?_append_right (by omega)] at h1
      have hj0:j - rs.length=0:=by
       have:=(List.getElem?_eq_some_iff.mp h1).1
       simp at this
       omega
      rw [hj0] at h1
      have:j=i:=by omega
      subst this
      rw [e] at h2
      simp at h1
      cases h2
      subst h1
      exact xr.lst (s2 _ _ el)
 · rintro l σ H1 hl ⟨_,s1,rs,el,hlen,hat⟩
   exact q l rs H1 s1 hl ⟨el,by rw [hlen]; simp,hat⟩
def filB (least g:Int) (n:Nat) (xs:List Int):Bool:=decide (xs.length=n)&&xs.all fun x=>decide (least≤x)&&decide (x≤g)
def bz (K:PySem.W.Frag):Sp:=fun vs H Q _=>∃ (p a:Addr) (h w g least:Int) (xs:List Int),vs=[.ref p,.ref a,.int least]∧IsFl H p h w g∧FlOk h w g∧H a=some (.lst (xs.map V.int))∧xs.length≤100∧∀ H',Same H H'→Q (.bl (filB least g (h*w).toNat xs)) H'
theorem pL {K:PySem.W.Frag} {vs:List V} {H:Hp} {Q:VK} {E:XK} (h:bz K vs H Q E):vs.length=3:=by
 obtain ⟨_,_,_,_,_,_,_,rfl,_⟩:=h; rfl
def fg (K:PySem.W.Frag):TS:=
 (tSeq (tIfS (tOr (tNot (tB (tCB kIsi (tCons (tVar 1) (tCons (tC (.ty "list")) tNil))))) (tTest (tOp (cNe K) (tCB kLen (tCons (tVar 1) tNil)) (tCall (aN K) [] E0 (tCons (tVar 0) tNil))))) (tRet (tC (.bl false))) tNext)
  (tRet (tCB kAll (tCons (tComp [none,none,some 0,some 2] (iList K (tVar 1)) (gName 1) tTrue (tAndV (tCall (bY K) [] E0 (tCons (tVar 1) tNil)) (tAndV (tOp (cCmp fun i j=>decide (i≤j)) (tVar 3) (tVar 1)) (tOp (cCmp fun i j=>decide (i≤j)) (tVar 1) (tOp cIx (tVar 2) (tC (.int 2))))))) tNil))))
theorem pM {K:PySem.W.Frag} {vs:List V} {H:Hp} {Q:VK} {E:XK} (h:bz K vs H Q E):fg K { nx:=fun _ H'=>Q .non H',rt:=Q } (start ["floor","filling","least"] vs) H:=by
 obtain ⟨p,a,h,w,g,least,xs,rfl,hp,F,ha,hn,q⟩:=h
 obtain ⟨h0,h1,w0,w1,m16,g0,g1⟩:=id F
 have mpos:0≤h*w:=Int.mul_nonneg (by omega) (by omega)
 show fg K _ [some (.ref p),some (.ref a),some (.int least)] H
 unfold fg
 rw [aF,aT]
 walk_at "w"
 refine qN ha ?_
 walk_at "w"
 rw [cE ha,List.length_map]
 walk_at "w"
 refine ⟨p,h,w,g,rfl,hp,h0,h1,?_⟩
 walk_at "w"
 unfold filB at q
 by_cases hl:xs.length=(h*w).toNat
 · rw [decide_eq_true (show (xs.length:Int)=h*w by omega)]
   rw [decide_eq_true hl] at q
   walk_at "w"
   refine ⟨⟨_,SqL.of ha⟩,?_⟩
   refine bX (xs:=xs.map V.int) (fun _=>true) (fun i=>.bl (decide (least≤xs.getD i 0)&&decide (xs.getD i 0≤g))) (by rw [List.length_map]; omega) (SqL.of ha) ?_ ?_ ?_
   · intro i x H1 R hx s1 k1
     exact k1 _ (Same.refl _)
   · intro i x H1 Q1 hx hb s1 k1
     obtain ⟨z,hz,rfl⟩:=bf hx
     have q1:=k1 _ (Same.refl H1)
     rw [cN hz] at q1
     show tAndV _ _ [none,some (.int z),some (.ref p),some (.int least)] H1 Q1
     walk_at "w"
     refine ⟨z,rfl,⟨true,rfl,iteT ?_⟩⟩
     walk_at "w"
     cases hb:decide (least≤z) with
     | false=>
      rw [hb,Bool.false_and] at q1
      exact iteF q1
     | true=>
      rw [hb,Bool.true_and] at q1
      refine iteT ?_
      walk_at "w"
      refine ixT (s1 _ _ hp) (v:=V.int g) rfl ?_
      walk_at "w"
      exact q1
   · intro l H1 hl1 s1 el
     have eb:((List.range (xs.map V.int).length).filter fun _=>true).map (fun i=>V.bl (decide (least≤xs.getD i 0)&&decide (xs.getD i 0≤g)))=(xs.map fun x=>decide (least≤x)&&decide (x≤g)).map V.bl:=by
      rw [aV,List.length_map]
      refine List.ext_getElem? fun i=>?_
      rw [List.getElem?_map,List.getElem?_map,List.getElem?_map]
      by_cases h:i < xs.length
      · rw [List.getElem?_range h,List.getElem?_eq_getElem h]
        simp [List.getD,h]
      · rw [List.getElem?_eq_none (by simpa using h),List.getElem?_eq_none (by omega)]; rfl
     rw [eb] at el
     refine j4 el ?_
     have ea:(xs.map fun x=>decide (least≤x)&&decide (x≤g)).all id=xs.all fun x=>decide (least≤x)&&decide (x≤g):=by rw [List.all_map]; rfl
     rw [ea]
     exact q _ s1
 · rw [decide_eq_false (show ¬ (xs.length:Int)=h*w by omega)]
   rw [decide_eq_false hl] at q
   walk_at "w"
   exact q _ (Same.refl _)
def bG (K:PySem.W.Frag):Sp:=fun vs H Q _=>∃ (p a:Addr) (h w g:Int) (xs:List Int),vs=[.ref p,.ref a]∧IsFl H p h w g∧FlOk h w g∧H a=some (.lst (xs.map V.int))∧CluesOk h w g xs∧∀ l H',Same H H'→H l=none→H' l=some (.lst (xs.map V.int))→Q (.ref l) H'
theorem mi {K:PySem.W.Frag} {vs:List V} {H:Hp} {Q:VK} {E:XK} (h:bG K vs H Q E):vs.length=2:=by
 obtain ⟨_,_,_,_,_,_,rfl,_⟩:=h; rfl
def da (K:PySem.W.Frag):TS:=
 (tSeq (tIfS (tNot (tB (tCall (bz K) [] E0 (tCons (tVar 0) (tCons (tVar 1) (tCons (tC (.int 0)) tNil)))))) bW tNext)
  (tRet (tCB kList (tCons (tVar 1) tNil))))
theorem CluesOk.fil {h w g:Int} {xs:List Int} (C:CluesOk h w g xs):filB 0 g (h*w).toNat xs=true:=by
 unfold filB
 rw [decide_eq_true C.len,Bool.true_and,List.all_eq_true]
 intro x hx
 have:=C.ok x hx
 simp [this.1,this.2]
theorem mj {K:PySem.W.Frag} {vs:List V} {H:Hp} {Q:VK} {E:XK} (h:bG K vs H Q E):da K { nx:=fun _ H'=>Q .non H',rt:=Q } (start ["floor","clues"] vs) H:=by
 obtain ⟨p,a,h,w,g,xs,rfl,hp,F,ha,C,q⟩:=h
 obtain ⟨h0,h1,w0,w1,m16,g0,g1⟩:=id F
 show da K _ [some (.ref p),some (.ref a)] H
 unfold da
 rw [aF,aT]
 walk_at "w"
 refine ⟨p,a,h,w,g,0,xs,rfl,hp,F,ha,by have:=C.len; omega,fun H1 s1=>?_⟩
 rw [C.fil]
 refine ⟨true,rfl,iteF ?_⟩
 walk_at "w"
 refine kO (s1 _ _ ha) fun l hl=>?_
 exact q l _ (s1.laid hl) (s1.free hl) ae
theorem IsRule.ins {H:Hp} {c:RCl RK} {k:RK} {r p a:Addr} {ws:List (List Nat)} {cs:List Int} {n m:Int} {C dx:Addr} {fs:List (Str × V)} {o:HO} (x:IsRule H c k r p ws cs n m) (ha:H a=some (.ins C dx fs)) (hf:fs.length≠5):IsRule (upd H a o) c k r p ws cs n m:=by
 obtain ⟨dx',W,C',h1,h2,h3⟩:=x.ex
 refine ⟨x.ok,dx',W,C',?_,?_,?_⟩
 · rw [ah (fun e=>by rw [e,ha] at h1; cases h1; exact hf rfl)]; exact h1
 · rw [ah (fun e=>by rw [e,ha] at h2; cases h2)]; exact h2
 · rw [ah (fun e=>by rw [e,ha] at h3; cases h3)]; exact h3
theorem IsRules.ins {H:Hp} {c:RCl RK} {p L a:Addr} {rs:List Addr} {rows:List RR} {C dx:Addr} {fs:List (Str × V)} {o:HO} (x:IsRules H c p L rs rows) (ha:H a=some (.ins C dx fs)) (hf:fs.length≠5):IsRules (upd H a o) c p L rs rows:=
 ⟨by rw [ah (fun e=>by have:=x.top; rw [e,ha] at this; cases this)]; exact x.top,x.len,fun i r y h1 h2=>(x.at_ i r y h1 h2).ins ha hf⟩
def aW (K:PySem.W.Frag) (c:RCl RK) (d:RCl PzK):Sp:=fun vs H Q _=>∃ (x dx p a b:Addr) (h w g:Int) (rows:List RR) (cl:List Int),vs=[.ref x,.ref p,.ref a,.ref b]∧d.ok .Puzzle=true∧H x=some (.ins (d.A .Puzzle) dx [])∧IsFl H p h w g∧H a=some (.lst ((rows.map RR.txt).map V.str))∧H b=some (.lst (cl.map V.int))∧gY c h w g rows∧CluesOk h w g cl∧
 ∀ L G H',(∀ y o,y≠x→H y=some o→H' y=some o)→H L=none→H G=none→IsPz H' c d x L G h w g rows cl→Q .non H'
theorem kS {K:PySem.W.Frag} {c:RCl RK} {d:RCl PzK} {vs:List V} {H:Hp} {Q:VK} {E:XK} (h:aW K c d vs H Q E):vs.length=4:=by
 obtain ⟨_,_,_,_,_,_,_,_,_,_,rfl,_⟩:=h; rfl
def cy (K:PySem.W.Frag) (c:RCl RK) (d:RCl PzK):TS:=
 (tSeq (sFldK d (tVar 0) (tCall (bF K) [] E0 (tCons (tVar 1) tNil)) "floor")
  (tSeq (sFldK d (tVar 0) (tCall (cp K c) [] E0 (tCons (tFldK d (tVar 0) "floor") (tCons (tVar 2) tNil))) "laws")
  (sFldK d (tVar 0) (tCall (bG K) [] E0 (tCons (tFldK d (tVar 0) "floor") (tCons (tVar 3) tNil))) "given")))
theorem kT {K:PySem.W.Frag} {c:RCl RK} {d:RCl PzK} {vs:List V} {H:Hp} {Q:VK} {E:XK} (h:aW K c d vs H Q E):cy K c d { nx:=fun _ H'=>Q .non H',rt:=Q } (start ["self","floor","lines","clues"] vs) H:=by
 obtain ⟨x,dx,p,a,b,h,w,g,rows,cl,rfl,ok,hx,hp,ha,hb,R,C,q⟩:=h
 show cy K c d _ [some (.ref x),some (.ref p),some (.ref a),some (.ref b)] H
 unfold cy sFldK
 walk_at "w"
 refine ⟨p,h,w,g,rfl,hp,R.F,fun p1 hp1=>?_⟩
 have nxp:x≠p1:=ar hx hp1
 refine ⟨x,.Puzzle,dx,[],rfl,ok,by rw [ah nxp]; exact hx,by show (0:Nat) < 1000; decide,?_⟩
 have f1:∀ y o,y≠x→H y=some o→(upd (upd H p1 (.tup [.int h,.int w,.int g])) x (.ins (d.A .Puzzle) dx (putF "floor" (.ref p1) []))) y=some o:=fun y o ny e=>by
  rw [ah ny,ah (ar e hp1)]; exact e
 have hx1:(upd (upd H p1 (.tup [.int h,.int w,.int g])) x (.ins (d.A .Puzzle) dx (putF "floor" (.ref p1) []))) x=some (.ins (d.A .Puzzle) dx [("floor",.ref p1)]):=ae
 have hp1':IsFl (upd (upd H p1 (.tup [.int h,.int w,.int g])) x (.ins (d.A .Puzzle) dx (putF "floor" (.ref p1) []))) p1 h w g:=by
  show (upd (upd H p1 (.tup [.int h,.int w,.int g])) x _) p1=_
  rw [ah nxp.symm,ae]
 have fr1:∀ l,(upd (upd H p1 (.tup [.int h,.int w,.int g])) x (.ins (d.A .Puzzle) dx (putF "floor" (.ref p1) []))) l=none→H l=none:=fun l e=>by
  have n1:l≠x:=fun z=>by rw [z,ae] at e; cases e
  rw [ah n1] at e
  have n2:l≠p1:=fun z=>by rw [z,ae] at e; cases e
  rw [ah n2] at e
  exact e
 have nax:a≠x:=fun z=>by rw [z,hx] at ha; cases ha
 have nbx:b≠x:=fun z=>by rw [z,hx] at hb; cases hb
 generalize upd (upd H p1 (.tup [.int h,.int w,.int g])) x (.ins (d.A .Puzzle) dx (putF "floor" (.ref p1) []))=H1 at*
 refine fldE (c:=d) (k:=.Puzzle) rfl ok hx1 (v:=.ref p1) (by rfl) ?_
 walk_at "w"
 refine ⟨p1,a,h,w,g,rows,rfl,hp1',f1 a _ nax ha,R,fun L rs H2 s2 hL X=>?_⟩
 refine ⟨x,.Puzzle,dx,_,rfl,ok,s2 _ _ hx1,by show (1:Nat) < 1000; decide,?_⟩
 have nxL:L≠x:=fun z=>by rw [z,hx1] at hL; cases hL
 have X3:=X.ins (o:=.ins (d.A .Puzzle) dx (putF "laws" (.ref L) [("floor",.ref p1)])) (s2 _ _ hx1) (by show (1:Nat)≠5; decide)
 have f2:∀ y o,y≠x→H y=some o→(upd H2 x (.ins (d.A .Puzzle) dx (putF "laws" (.ref L) [("floor",.ref p1)]))) y=some o:=fun y o ny e=>by
  rw [ah ny]; exact s2 _ _ (f1 y o ny e)
 have hx3:(upd H2 x (.ins (d.A .Puzzle) dx (putF "laws" (.ref L) [("floor",.ref p1)]))) x=some (.ins (d.A .Puzzle) dx [("floor",.ref p1),("laws",.ref L)]):=ae
 have hp3:IsFl (upd H2 x (.ins (d.A .Puzzle) dx (putF "laws" (.ref L) [("floor",.ref p1)]))) p1 h w g:=by
  show (upd H2 x _) p1=_
  rw [ah nxp.symm]; exact s2 _ _ hp1'
 have fr3:∀ l,(upd H2 x (.ins (d.A .Puzzle) dx (putF "laws" (.ref L) [("floor",.ref p1)]))) l=none→H1 l=none:=fun l e=>by
  have n1:l≠x:=fun z=>by rw [z,ae] at e; cases e
  rw [ah n1] at e
  exact s2.free e
 generalize upd H2 x (.ins (d.A .Puzzle) dx (putF "laws" (.ref L) [("floor",.ref p1)]))=H3 at*
 refine fldE (c:=d) (k:=.Puzzle) rfl ok hx3 (v:=.ref p1) (by rfl) ?_
 walk_at "w"
 refine ⟨p1,b,h,w,g,cl,rfl,hp3,R.F,f2 b _ nbx hb,C,fun G H4 s4 hG eG=>?_⟩
 refine ⟨x,.Puzzle,dx,_,rfl,ok,s4 _ _ hx3,by show (2:Nat) < 1000; decide,?_⟩
 have nxG:G≠x:=fun z=>by rw [z,hx3] at hG; cases hG
 refine q L G _ (fun y o ny e=>?_) (fr1 L hL) (fr1 G (fr3 G hG)) ⟨ok,R,C,?_,dx,p1,rs,?_,?_,?_⟩
 · rw [ah ny]; exact s4 _ _ (f2 y o ny e)
 · rw [ah nxG]; exact eG
 · rw [ae]; rfl
 · show (upd H4 x _) p1=_
   rw [ah nxp.symm]; exact s4 _ _ hp3
 · exact (X3.same s4).ins (s4 _ _ hx3) (by show (2:Nat)≠5; decide)
theorem xG {K:PySem.W.Frag} {c:RCl RK} {d:RCl PzK} {H:Hp} {Z:Addr→Hp→Prop} {p a b:Addr} {h w g:Int} {rows:List RR} {cl:List Int} (ok:d.ok .Puzzle=true) (hp:IsFl H p h w g) (ha:H a=some (.lst ((rows.map RR.txt).map V.str))) (hb:H b=some (.lst (cl.map V.int))) (R:gY c h w g rows) (C:CluesOk h w g cl)
  (q:∀ P L G H',Same H H'→H P=none→H L=none→H G=none→IsPz H' c d P L G h w g rows cl→Z P H'):
  ∀ x dx,H x=none→H dx=none→dx≠x→aW K c d (.ref x::([.ref p,.ref a,.ref b]++[])) (upd (upd H dx (.own x)) x (.ins (d.A .Puzzle) dx [])) (fun v H2=>v=.non∧Z x H2) E0:=by
 intro x dx hx hd ne
 have k:∀ y o,H y=some o→(upd (upd H dx (.own x)) x (.ins (d.A .Puzzle) dx [])) y=some o:=fun y o e=>by rw [ah (ar e hx),ah (ar e hd)]; exact e
 have fr:∀ y,(upd (upd H dx (.own x)) x (.ins (d.A .Puzzle) dx [])) y=none→H y=none:=fun y e=>by
  have n1:y≠x:=fun z=>by rw [z,ae] at e; cases e
  rw [ah n1] at e
  have n2:y≠dx:=fun z=>by rw [z,ae] at e; cases e
  rw [ah n2] at e
  exact e
 exact ⟨x,dx,p,a,b,h,w,g,rows,cl,rfl,ok,ae,k _ _ hp,k _ _ ha,k _ _ hb,R,C,fun L G H' hs hL hG X=>⟨rfl,q x L G H' (fun y o e=>hs y o (ar e hx) (k _ _ e)) hx (fr L hL) (fr G hG) X⟩⟩
def dW (K:PySem.W.Frag) (c:RCl RK) (d:RCl PzK) (_:PzK):Sp:=fun vs H Q _=>∃ (P L G:Addr) (h w g:Int) (rows:List RR) (cl:List Int),vs=[.ref P]∧IsPz H c d P L G h w g rows cl∧∀ p,IsFl H p h w g→Q (.ref p) H
def dv (K:PySem.W.Frag) (c:RCl RK) (d:RCl PzK):Sp:=dW K c d .Puzzle
theorem nu {K:PySem.W.Frag} {c:RCl RK} {d:RCl PzK} {vs:List V} {H:Hp} {Q:VK} {E:XK} (h:dv K c d vs H Q E):vs.length=1:=by
 obtain ⟨_,_,_,_,_,_,_,_,rfl,_⟩:=h; rfl
def dw (K:PySem.W.Frag) (c:RCl RK) (d:RCl PzK):TS:=
 (tRet (tFldK d (tVar 0) "floor"))
theorem nv {K:PySem.W.Frag} {c:RCl RK} {d:RCl PzK} {vs:List V} {H:Hp} {Q:VK} {E:XK} (h:dv K c d vs H Q E):dw K c d { nx:=fun _ H'=>Q .non H',rt:=Q } (start ["self"] vs) H:=by
 obtain ⟨P,L,G,h,w,g,rows,cl,rfl,x,q⟩:=h
 obtain ⟨dx,p,rs,h1,h2,h3⟩:=x.ex
 show dw K c d _ [some (.ref P)] H
 unfold dw
 walk_at "w"
 exact fldE (k:=.Puzzle) rfl x.ok h1 (v:=.ref p) (by rfl) (q p h2)
def dX (K:PySem.W.Frag) (c:RCl RK) (d:RCl PzK) (_:PzK):Sp:=fun vs H Q _=>∃ (P L G:Addr) (h w g:Int) (rows:List RR) (cl:List Int),vs=[.ref P]∧IsPz H c d P L G h w g rows cl∧∀ l,H l=none→Q (.ref l) (upd H l (.lst (cl.map V.int)))
def dy (K:PySem.W.Frag) (c:RCl RK) (d:RCl PzK):Sp:=dX K c d .Puzzle
theorem nA {K:PySem.W.Frag} {c:RCl RK} {d:RCl PzK} {vs:List V} {H:Hp} {Q:VK} {E:XK} (h:dy K c d vs H Q E):vs.length=1:=by
 obtain ⟨_,_,_,_,_,_,_,_,rfl,_⟩:=h; rfl
def dz (K:PySem.W.Frag) (c:RCl RK) (d:RCl PzK):TS:=
 (tRet (tCB kList (tCons (tFldK d (tVar 0) "given") tNil)))
theorem nE {K:PySem.W.Frag} {c:RCl RK} {d:RCl PzK} {vs:List V} {H:Hp} {Q:VK} {E:XK} (h:dy K c d vs H Q E):dz K c d { nx:=fun _ H'=>Q .non H',rt:=Q } (start ["self"] vs) H:=by
 obtain ⟨P,L,G,h,w,g,rows,cl,rfl,x,q⟩:=h
 obtain ⟨dx,p,rs,h1,h2,h3⟩:=x.ex
 show dz K c d _ [some (.ref P)] H
 unfold dz
 walk_at "w"
 refine fldE (k:=.Puzzle) rfl x.ok h1 (v:=.ref G) (by rfl) ?_
 walk_at "w"
 exact kO x.gv q
theorem tW {K:PySem.W.Frag} {c:RCl RK} {H:Hp} {p L:Addr} {rs:List Addr} {rows:List RR} {h w g:Int} {fin:Addr→Hp→Prop} (X:IsRules H c p L rs rows) (R:gY c h w g rows)
  (hd:∀ l H',H l=none→Same H H'→H' l=some (.lst ((rows.map RR.txt).map V.str))→fin l H'):CompR (Itl K L) (gName 1) tTrue (aO c c.ok "line" (jy K c) (tVar 1) tNil) fin [none,none] H:=by
 have hn:=R.n
 have hlen:=X.len
 refine bX (xs:=rs.map V.ref) (fun _=>true) (fun i=>.str ((rows.map RR.txt).getD i (tx []))) (by rw [List.length_map]; omega) (SqL.of X.top) ?_ ?_ ?_
 · intro i x H1 R hx s1 k1
   exact k1 _ (Same.refl _)
 · intro i x H1 Q1 hx hb s1 k1
   rw [List.getElem?_map] at hx
   cases e:rs[i]? with
   | none=>rw [e] at hx; cases hx
   | some r=>
    rw [e] at hx
    cases hx
    have hi:=(List.getElem?_eq_some_iff.mp e).1
    have er:rows[i]? =some rows[i]:=List.getElem?_eq_getElem (by omega)
    have X1:=X.at_ i r _ e er
    obtain ⟨dx,W,C,h1,h2,h3⟩:=X1.ex
    have q1:=k1 _ (Same.refl H1)
    have eg:(rows.map RR.txt).getD i (tx [])=rows[i].txt:=by rw [List.getD,List.getElem?_map,er]; rfl
    rw [eg] at q1
    have O:=R.ok _ (List.mem_of_getElem? er)
    have ln:=lW (k:=rows[i].k) (n:=rows[i].n) (m:=rows[i].m) O.len
    show aO c c.ok "line" _ _ _ [none,some (.ref r)] H1 Q1
    refine methE (k:=rows[i].k) rfl X1.ok (s1 _ _ h1) (by rfl) ?_
    walk_at "w"
    exact ⟨r,p,_,_,_,_,rfl,X1.same s1,ln.1,ln.2,q1⟩
 · intro l H1 hl s1 el
   refine hd l H1 hl s1 ?_
   rw [el,aV,List.length_map,hlen]
   congr 2
   refine List.ext_getElem? fun i=>?_
   rw [List.getElem?_map,List.getElem?_map,List.getElem?_map]
   by_cases h:i < rows.length
   · rw [List.getElem?_range h,List.getElem?_eq_getElem h]
     simp [List.getD,h]
   · rw [List.getElem?_eq_none (by simpa using h),List.getElem?_eq_none (by omega)]; rfl
def ki (K:PySem.W.Frag) (c:RCl RK) (d:RCl PzK) (_:PzK):Sp:=fun vs H Q _=>∃ (P L G:Addr) (h w g:Int) (rows:List RR) (cl:List Int),vs=[.ref P]∧IsPz H c d P L G h w g rows cl∧∀ l H',Same H H'→H l=none→H' l=some (.lst ((rows.map RR.txt).map V.str))→Q (.ref l) H'
def dA (K:PySem.W.Frag) (c:RCl RK) (d:RCl PzK):Sp:=ki K c d .Puzzle
theorem nG {K:PySem.W.Frag} {c:RCl RK} {d:RCl PzK} {vs:List V} {H:Hp} {Q:VK} {E:XK} (h:dA K c d vs H Q E):vs.length=1:=by
 obtain ⟨_,_,_,_,_,_,_,_,rfl,_⟩:=h; rfl
def dB (K:PySem.W.Frag) (c:RCl RK) (d:RCl PzK):TS:=
 (tRet (tComp [none,none] (iList K (tFldK d (tVar 0) "laws")) (gName 1) tTrue (aO c c.ok "line" (jy K c) (tVar 1) tNil)))
theorem nI {K:PySem.W.Frag} {c:RCl RK} {d:RCl PzK} {vs:List V} {H:Hp} {Q:VK} {E:XK} (h:dA K c d vs H Q E):dB K c d { nx:=fun _ H'=>Q .non H',rt:=Q } (start ["self"] vs) H:=by
 obtain ⟨P,L,G,h,w,g,rows,cl,rfl,x,q⟩:=h
 obtain ⟨dx,p,rs,h1,h2,h3⟩:=x.ex
 show dB K c d _ [some (.ref P)] H
 unfold dB
 rw [gK,fG]
 refine fldE (k:=.Puzzle) rfl x.ok h1 (v:=.ref L) (by rfl) ?_
 refine ⟨L,rfl,⟨_,SqL.of h3.top⟩,?_⟩
 exact tW h3 x.R fun l H1 hl s1 el=>q l H1 s1 hl el
abbrev nsV (cs:List Nat):List V:=(cs.map fun (n:Nat)=>(n:Int)).map V.int
theorem jB (cs:List Nat):(nsV cs).length=cs.length:=by simp [nsV]
def b5 (K:PySem.W.Frag):Sp:=fun vs H Q _=>∃ z m:Int,vs=[.int z,.int m]∧0≤m∧m≤100∧∀ (l:Addr) (H':Hp) (ys:List Int),Same H H'→H l=none→H' l=some (.lst (ys.map V.int))→(ys.length:Int)=m→(∀ y∈ys,0≤y)→Q (.ref l) H'
theorem oA {K:PySem.W.Frag} {vs:List V} {H:Hp} {Q:VK} {E:XK} (h:b5 K vs H Q E):vs.length=2:=by
 obtain ⟨_,_,rfl,_⟩:=h; rfl
def ed (K:PySem.W.Frag):TS:=
 (tSeq (tAsg (tOp cAdd (tOp cMod (tVar 0) (tC (.int 1000003))) (tC (.int 11))) (gName 2))
  (tSeq (tAsg (tLst tNil) (gName 3))
  (tSeq (tFor (fM (tCons (tVar 1) tNil)) (gName 4)
  (tSeq (tAsg (tOp cMod (tOp cAdd (tOp cAdd (tOp cMul (tVar 2) (tVar 2)) (tOp cMul (tC (.int 3)) (tVar 2))) (tVar 4)) (tC (.int 1000003))) (gName 2))
  (tDrop (tBM K "list" b4 (tVar 3) (tCons (tVar 2) tNil)))))
  (tRet (tVar 3)))))
theorem oB {K:PySem.W.Frag} {vs:List V} {H:Hp} {Q:VK} {E:XK} (h:b5 K vs H Q E):ed K { nx:=fun _ H'=>Q .non H',rt:=Q } (start ["_law_cell","_law_many","_law_number","_law_found","_law_k"] vs) H:=by
 obtain ⟨z,m,rfl,m0,m1,q⟩:=h
 show ed K _ [some (.int z),some (.int m),none,none,none] H
 unfold ed
 walk_at "w"
 refine ⟨by decide,aC (by decide),fun L hL=>?_⟩
 have e0:=Int.emod_nonneg z (show (1000003:Int)≠0 by decide)
 have e1:=Int.emod_lt_of_pos z (show (0:Int) < 1000003 by decide)
 refine ⟨m,rfl,by omega,by omega,?_⟩
 refine kC (fun i σ H'=>∃ (n:Int) (kv:Option V) (ys:List Int),σ=[some (.int z),some (.int m),some (.int n),some (.ref L),kv]∧0≤n∧n < 2000000∧Same H H'∧H' L=some (.lst (ys.map V.int))∧ys.length=i∧∀ y∈ys,0≤y)
  ⟨_,none,[],rfl,by omega,by omega,(Same.refl H).laid hL,by rw [ae]; rfl,rfl,fun y hy=>nomatch hy⟩ ?_ ?_
 · rintro i σ H1 hi ⟨n,kv,ys,rfl,n0,n1,s1,el,hl,hy⟩
   walk_at "w"
   refine ⟨.inl ⟨by omega,by omega⟩,.inl ⟨by decide,by decide⟩,by decide,cC el,?_⟩
   have c0:=Int.emod_nonneg (n*n+3*n+(0+(i:Int))) (show (1000003:Int)≠0 by decide)
   have c1:=Int.emod_lt_of_pos (n*n+3*n+(0+(i:Int))) (show (0:Int) < 1000003 by decide)
   generalize (n*n+3*n+(0+(i:Int))) % 1000003=y at*
   rw [iz el]
   refine ⟨by rw [List.length_map]; exact aE (by omega),y,_,ys++[y],rfl,c0,by omega,s1.own hL,by rw [ae]; simp,by simp [hl],fun x hx=>?_⟩
   rcases List.mem_append.mp hx with hx | hx
   · exact hy x hx
   · rw [List.mem_singleton.mp hx]; exact c0
 · rintro σ H1 ⟨n,kv,ys,rfl,n0,n1,s1,el,hl,hy⟩
   walk_at "w"
   exact q L H1 ys s1 hL el (by rw [hl]; omega) hy
def bA (K:PySem.W.Frag):Sp:=fun vs H Q _=>∃ (X:Addr) (many:Int) (ys:List Int),vs=[.ref X,.int many]∧H X=some (.lst (ys.map V.int))∧0≤many∧many≤16∧many≤ys.length∧
 ∀ (l:Addr) (H':Hp) (cs:List Nat),Same H H'→H l=none→H' l=some (.lst (nsV cs))→cs.Nodup→(∀ c∈cs,(c:Int) < many)→(cs.length:Int)=many→Q (.ref l) H'
theorem pN {K:PySem.W.Frag} {vs:List V} {H:Hp} {Q:VK} {E:XK} (h:bA K vs H Q E):vs.length=2:=by
 obtain ⟨_,_,_,rfl,_⟩:=h; rfl
def fh (K:PySem.W.Frag):TS:=
 (tSeq (tAsg (i3 (tCons (tVar 1) tNil)) (gName 2))
  (tSeq (tAsg (tLst tNil) (gName 3))
  (tSeq (tFor (fM (tCons (tVar 1) tNil)) (gName 4)
  (tDrop (tBM K "list" b4 (tVar 3) (tCons (tBM K "list" ng (tVar 2) (tCons (tOp cMod (tOp cIx (tVar 0) (tVar 4)) (tCB kLen (tCons (tVar 2) tNil))) tNil)) tNil))))
  (tRet (tVar 3)))))
theorem pO {K:PySem.W.Frag} {vs:List V} {H:Hp} {Q:VK} {E:XK} (h:bA K vs H Q E):fh K { nx:=fun _ H'=>Q .non H',rt:=Q } (start ["_law_xs","_law_many","_law_left","_law_order_here","_law_k"] vs) H:=by
 obtain ⟨X,many,ys,rfl,hX,m0,m1,m2,q⟩:=h
 show fh K _ [some (.ref X),some (.int many),none,none,none] H
 unfold fh
 walk_at "w"
 refine ⟨many,rfl,by omega,by omega,fun L hL=>?_⟩
 have s1:Same H (upd H L (.lst ((rngL 0 many).map V.int))):=(Same.refl H).laid hL
 have eL:(upd H L (.lst ((rngL 0 many).map V.int))) L=some (.lst ((rngL 0 many).map V.int)):=ae
 generalize upd H L (.lst ((rngL 0 many).map V.int))=H1 at*
 walk_at "w"
 refine ⟨aC (by decide),fun R hR=>?_⟩
 have nRL:R≠L:=fun e=>by rw [e,eL] at hR; cases hR
 refine ⟨many,rfl,by omega,by omega,?_⟩
 refine kC (fun i σ H'=>∃ (kv:Option V) (fs ls:List Int),σ=[some (.ref X),some (.int many),some (.ref L),some (.ref R),kv]∧Same H H'∧H' L=some (.lst (ls.map V.int))∧H' R=some (.lst (fs.map V.int))∧(fs++ls).Perm (rngL 0 many)∧fs.length=i)
  ⟨none,[],rngL 0 many,rfl,s1.laid hR,by rw [ah nRL.symm]; exact eL,by rw [ae]; rfl,List.Perm.refl _,rfl⟩ ?_ ?_
 · rintro i σ H2 hi ⟨kv,fs,ls,rfl,s2,e1,e2,hp,hl⟩
   have hlen:=hp.length_eq
   rw [List.length_append,fC] at hlen
   walk_at "w"
   refine ⟨cC e2,cC e1,?_⟩
   refine ixI (s2 _ _ hX) (by omega) (by omega) ?_
   walk_at "w"
   rw [cE e1,List.length_map]
   have hpos:0 < (ls.length:Int):=by omega
   generalize ys.getD (0+(i:Int)).toNat 0=y at*
   have j0:=Int.emod_nonneg y (Int.ne_of_gt hpos)
   have j1:=Int.emod_lt_of_pos y hpos
   refine ⟨hpos,?_⟩
   generalize y % (ls.length:Int)=j at*
   have hj:j.toNat < ls.length:=by omega
   refine wB e1 j0 (by rw [List.length_map]; omega) (y:=V.int ls[j.toNat]) (by rw [List.getElem?_map,List.getElem?_eq_getElem hj]; rfl) ?_
   have e2':(upd H2 L (.lst ((ls.map V.int).eraseIdx j.toNat))) R=some (.lst (fs.map V.int)):=by rw [ah nRL]; exact e2
   walk_at "w"
   rw [iz e2']
   refine ⟨by rw [List.length_map]; exact aE (by omega),_,fs++[ls[j.toNat]],ls.eraseIdx j.toNat,rfl,(s2.own hL).own (s1.free hR),?_,?_,?_,by simp [hl]⟩
   · rw [ah nRL.symm,ae,ph]
   · rw [ae]; simp
   · have p1:=np ls j.toNat hj
     have p2:=List.Perm.append_left fs p1
     refine List.Perm.trans ?_ hp
     rw [List.append_assoc]
     exact p2
 · rintro σ H2 ⟨kv,fs,ls,rfl,s2,e1,e2,hp,hl⟩
   walk_at "w"
   have hnd:(fs++ls).Nodup:=hp.nodup_iff.mpr (uY many)
   have hm:∀ x∈fs,0≤x∧x < many:=fun x hx=>sQ (hp.mem_iff.mp (List.mem_append.mpr (.inl hx)))
   have ef:(fs.map Int.toNat).map (fun (n:Nat)=>(n:Int))=fs:=by
    rw [List.map_map]
    conv=>rhs; rw [← List.map_id fs]
    exact List.map_congr_left fun x hx=>by have:=hm x hx; show ((x.toNat:Nat):Int)=x; omega
   refine q R H2 (fs.map Int.toNat) s2 (s1.free hR) (by unfold nsV; rw [ef]; exact e2) ?_ ?_ ?_
   · have h1:=(List.nodup_append.mp hnd).1
     rw [← ef] at h1
     exact kR _ h1
   · intro c hc
     obtain ⟨x,hx,rfl⟩:=List.mem_map.mp hc
     have:=hm x hx
     omega
   · rw [List.length_map,hl]; omega
theorem kU (cs:List Nat) (b:Int→Bool):((cs.map fun (n:Nat)=>(n:Int)).filter b).map (fun x=>x)=(cs.filter fun (n:Nat)=>b (n:Int)).map fun (n:Nat)=>(n:Int):=by
 rw [List.map_id',List.filter_map]
 rfl
theorem ml (xs:List V) {k:Int} (h:0≤k):cutV xs none (some k)=xs.take k.toNat:=by
 unfold cutV
 have e:k=((k.toNat:Nat):Int):=by omega
 have h1:HT.sIx xs.length 0 none=0:=rfl
 have h2:HT.sIx xs.length xs.length (some k)=min k.toNat xs.length:=by
  conv=>lhs; rw [e]
  exact HT.sIx_nat ..
 rw [h1,h2]
 show (xs.drop 0).take _=_
 rw [List.drop_zero]
 by_cases hk:k.toNat≤xs.length
 · rw [Nat.min_eq_left hk]; rfl
 · rw [Nat.min_eq_right (by omega),List.take_of_length_le (by omega),List.take_of_length_le (by omega)]
theorem oC (cs:List Nat) (k:Nat):(nsV cs).take k=nsV (cs.take k):=by
 unfold nsV
 rw [List.map_take,List.map_take]
theorem xH (cs ds:List Nat):nsV cs++nsV ds=nsV (cs++ds):=by
 unfold nsV
 rw [List.map_append,List.map_append]
theorem nJ {cs:List Nat} {x:Int} (h:x∈cs.map fun (n:Nat)=>(n:Int)):∃ c∈cs,(c:Int)=x:=List.mem_map.mp h
def sgN (xs:List Int) (c:Nat):Int:=xs.getD c 0
theorem sS {H:Hp} {Q:VK} {f:Addr} {xs:List Int} {c:Nat} (hf:H f=some (.lst (xs.map V.int))) (hc:c < xs.length) (q:Q (.int (sgN xs c)) H):cIx (.ref f) (.int (c:Int)) H Q:=by
 refine ixI hf (by omega) (by omega) ?_
 rw [Int.toNat_natCast]
 exact q
theorem tX {xs:List Int} {c:Nat} {lo hi:Int} (hx:∀ x∈xs,lo≤x∧x≤hi) (hc:c < xs.length):lo≤sgN xs c∧sgN xs c≤hi:=by
 unfold sgN
 rw [List.getD,List.getElem?_eq_getElem hc]
 exact hx _ (List.getElem_mem hc)
structure KeepS (H:Hp) (O f:Addr) (cs:List Nat) (xs:List Int):Prop where
 O:H O=some (.lst (nsV cs))
 f:H f=some (.lst (xs.map V.int))
 nd:cs.Nodup
 ne:cs≠[]
 n:cs.length≤16
 lt:∀ c∈cs,c < xs.length
 sg:∀ x∈xs,1≤x∧x≤6
def cS (K:PySem.W.Frag):Sp:=fun vs H Q _=>∃ (O f:Addr) (b:Bool) (cs:List Nat) (xs:List Int),vs=[.ref O,.ref f,.bl b]∧KeepS H O f cs xs∧
 ∀ (l:Addr) (H':Hp) (ks:List Nat),Same H H'→H l=none→H' l=some (.lst (nsV ks))→ks.Nodup→(∀ k∈ks,k∈cs)→ks≠[]→ks.length≤16→Q (.ref l) H'
theorem rh {K:PySem.W.Frag} {vs:List V} {H:Hp} {Q:VK} {E:XK} (h:cS K vs H Q E):vs.length=3:=by
 obtain ⟨_,_,_,_,_,rfl,_⟩:=h; rfl
def fX (K:PySem.W.Frag):TS:=
 (tSeq (tAsg (tLst tNil) (gName 3))
  (tSeq (tFor (mI (tCons (tC (.int 1)) (tCons (tC (.int 7)) tNil))) (gName 4)
  (tSeq (sComp 5 [none,none,some 1,some 4] (iList K (tVar 0)) (gName 1) (tTest (tOp (cEq K) (tOp cIx (tVar 2) (tVar 1)) (tVar 3))) (tVar 1))
  (tAsg (tOp cAdd (tVar 3) (tSl dQ (tVar 5) bE (tPart (tC (.int 1))))) (gName 3))))
  (tSeq (tIfS (tB (tVar 2)) (tRet (tVar 3)) tNext)
  (tRet (tComp [none,none,some 3] (iList K (tVar 0)) (gName 1) (tTest (tOp (cIn K false) (tVar 1) (tVar 2))) (tVar 1))))))
theorem nK {ks cs:List Nat} (h1:ks.Nodup) (h2:∀ k∈ks,k∈cs):ks.length≤cs.length:=by
 have h:=hJ (xs:=ks.map fun (n:Nat)=>(n:Int)) (ys:=cs.map fun (n:Nat)=>(n:Int)) (kh h1) fun x hx=>by
  obtain ⟨k,hk,rfl⟩:=List.mem_map.mp hx
  exact List.mem_map.mpr ⟨k,h2 k hk,rfl⟩
 simpa using h
theorem ri {K:PySem.W.Frag} {vs:List V} {H:Hp} {Q:VK} {E:XK} (h:cS K vs H Q E):fX K { nx:=fun _ H'=>Q .non H',rt:=Q } (start ["_law_order_here","_law_filling_here","_law_rising","_law_kept_here","_law_sign","_law_some"] vs) H:=by
 obtain ⟨O,f,b,cs,xs,rfl,X,q⟩:=h
 have hn:=X.n
 show fX K _ [some (.ref O),some (.ref f),some (.bl b),none,none,none] H
 unfold fX
 walk_at "w"
 refine ⟨aC (by decide),fun L hL=>?_⟩
 refine ⟨1,7,rfl,by omega,?_⟩
 refine kC (fun i σ H'=>∃ (R:Addr) (sv mv:Option V) (ks:List Nat),σ=[some (.ref O),some (.ref f),some (.bl b),some (.ref R),sv,mv]∧Same H H'∧H R=none∧H' R=some (.lst (nsV ks))∧ks.Nodup∧(∀ k∈ks,k∈cs∧sgN xs k≤i)∧(∀ c∈cs,sgN xs c≤i→ks≠[]))
  ⟨L,none,none,[],rfl,(Same.refl H).laid hL,hL,by rw [ae]; rfl,List.nodup_nil,(fun k hk=>by cases hk),fun c hc h=>by have:=(tX X.sg (X.lt c hc)).1; omega⟩ ?_ ?_
 · rintro i σ H1 hi ⟨R,sv,mv,ks,rfl,s1,hR,eR,nd,hk,hne⟩
   walk_at "w"
   refine ⟨⟨_,s1.seq (SqL.of X.O)⟩,?_⟩
   refine d6 (xs:=cs.map fun (n:Nat)=>(n:Int)) (fun x=>decide (xs.getD x.toNat 0=1+(i:Int))) (fun x=>x) (by simp; omega) (s1.seq (SqL.of X.O)) ?_ ?_ ?_
   · intro x H2 R2 hx s2 k2
     obtain ⟨c,hc,rfl⟩:=nJ hx
     have hl:=X.lt c hc
     show tTest _ [none,some (.int (c:Int)),some (.ref f),some (.int (1+(i:Int)))] H2 R2
     walk_at "w"
     refine ixI ((s1.trans s2) _ _ X.f) (by omega) (by omega) ?_
     walk_at "w"
     exact k2 _ (Same.refl _)
   · intro x H2 Q2 hx hb s2 k2
     show tVar 1 [none,some (.int x),some (.ref f),some (.int (1+(i:Int)))] H2 Q2
     walk_at "w"
     exact k2 _ (Same.refl _)
   · intro S H2 hS s2 eS
     rw [kU] at eS
     have hS':H2 S=some (.lst (nsV (cs.filter fun (n:Nat)=>decide (xs.getD (n:Int).toNat 0=1+(i:Int))))):=eS
     have efil:(cs.filter fun (n:Nat)=>decide (xs.getD (n:Int).toNat 0=1+(i:Int)))=cs.filter fun (n:Nat)=>decide (sgN xs n=1+(i:Int)):=rfl
     rw [efil] at hS'
     generalize hfs:(cs.filter fun (n:Nat)=>decide (sgN xs n=1+(i:Int)))=fs at hS'
     walk_at "w"
     refine i0 hS' fun T hT=>?_
     rw [ml _ (by decide),oC]
     have s3:Same H2 (upd H2 T (.lst (nsV (fs.take (1:Int).toNat)))):=(Same.refl H2).laid hT
     have eT:(upd H2 T (.lst (nsV (fs.take (1:Int).toNat)))) T=some (.lst (nsV (fs.take (1:Int).toNat))):=ae
     generalize upd H2 T (.lst (nsV (fs.take (1:Int).toNat)))=H3 at*
     have s13:=(s1.trans s2).trans s3
     walk_at "w"
     have hkl:=nK nd fun k hk'=>(hk k hk').1
     refine m9 (s3 _ _ (s2 _ _ eR)) eT (by rw [jB,jB,List.length_take]; have:(1:Int).toNat=1:=rfl; omega) fun U hU=>?_
     rw [xH]
     have hU0:H U=none:=s13.free hU
     have memf:∀ k∈fs.take (1:Int).toNat,k∈cs∧sgN xs k=1+(i:Int):=fun k hk'=>by
      have:=List.mem_of_mem_take hk'
      rw [← hfs] at this
      have:=List.mem_filter.mp this
      exact ⟨this.1,of_decide_eq_true this.2⟩
     refine ⟨U,_,_,ks++fs.take (1:Int).toNat,rfl,s13.laid hU,hU0,ae,?_,?_,?_⟩
     · rw [List.nodup_append]
       refine ⟨nd,?_,fun a ha b hb e=>?_⟩
       · match fs with
         | []=>exact List.nodup_nil
         | x::r=>show ([x]:List Nat).Nodup; exact List.nodup_cons.mpr ⟨by simp,List.nodup_nil⟩
       · have h1:=(hk a ha).2
         have h2:=(memf b hb).2
         rw [e] at h1
         omega
     · intro k hk'
       rcases List.mem_append.mp hk' with hk' | hk'
       · have:=hk k hk'
         exact ⟨this.1,by have:=this.2; omega⟩
       · have:=memf k hk'
         exact ⟨this.1,by rw [this.2]; omega⟩
     · intro c hc hle e0
       obtain ⟨e1,e2⟩:=List.append_eq_nil_iff.mp e0
       by_cases hlt:sgN xs c≤(i:Int)
       · exact hne c hc hlt e1
       · have hm:c∈fs:=by rw [← hfs]; exact List.mem_filter.mpr ⟨hc,decide_eq_true (by omega)⟩
         match fs,hm,e2 with
         | x::r,_,e2=>cases e2
 · rintro σ H1 ⟨R,sv,mv,ks,rfl,s1,hR,eR,nd,hk,hne⟩
   have hsub:∀ k∈ks,k∈cs:=fun k hk'=>(hk k hk').1
   have hkl:=nK nd hsub
   have hks:ks≠[]:=by
    match ec:cs,X.ne with
    | c::r,_=>
     have hc:c∈cs:=by rw [ec]; exact List.mem_cons_self
     refine hne c (by rw [← ec]; exact hc) ?_
     have:=(tX X.sg (X.lt c (by rw [← ec]; exact hc))).2
     have:((7 - 1:Int).toNat:Int)=6:=rfl
     omega
   walk_at "w"
   rw [aT]
   walk_at "w"
   cases b with
   | true=>exact q R H1 ks s1 hR eR nd hsub hks (by omega)
   | false=>
    refine ⟨⟨_,s1.seq (SqL.of X.O)⟩,?_⟩
    refine d6 (xs:=cs.map fun (n:Nat)=>(n:Int)) (fun x=>decide (x∈ks.map fun (n:Nat)=>(n:Int))) (fun x=>x) (by simp; omega) (s1.seq (SqL.of X.O)) ?_ ?_ ?_
    · intro x H2 R2 hx s2 k2
      show tTest _ [none,some (.int x),some (.ref R)] H2 R2
      walk_at "w"
      rw [tH (s2 _ _ eR)]
      exact ⟨_,rfl,k2 _ (Same.refl _)⟩
    · intro x H2 Q2 hx hb s2 k2
      show tVar 1 [none,some (.int x),some (.ref R)] H2 Q2
      walk_at "w"
      exact k2 _ (Same.refl _)
    · intro S H2 hS s2 eS
      rw [kU] at eS
      refine q S H2 (cs.filter fun (n:Nat)=>decide ((n:Int)∈ks.map fun (n:Nat)=>(n:Int))) (s1.trans s2) (s1.free hS) eS (X.nd.filter _) (fun k hk'=>(List.mem_filter.mp hk').1) ?_ (Nat.le_trans (List.length_filter_le _ _) (by omega))
      match ks,hks,hsub with
      | k::r,_,hsub=>
       intro e
       have:k∈cs.filter fun (n:Nat)=>decide ((n:Int)∈(k::r).map fun (n:Nat)=>(n:Int)):=List.mem_filter.mpr ⟨hsub k List.mem_cons_self,by simp⟩
       rw [e] at this
       cases this
def cT (K:PySem.W.Frag):Sp:=fun vs H Q _=>∃ (f C:Addr) (cs:List Nat) (xs:List Int),vs=[.ref f,.ref C]∧H f=some (.lst (xs.map V.int))∧H C=some (.lst (nsV cs))∧(∀ c∈cs,c < xs.length)∧∀ n:Nat,n≤cs.length→Q (.int n) H
theorem rj {K:PySem.W.Frag} {vs:List V} {H:Hp} {Q:VK} {E:XK} (h:cT K vs H Q E):vs.length=2:=by
 obtain ⟨_,_,_,_,rfl,_⟩:=h; rfl
def fY (K:PySem.W.Frag):TS:=
 (tSeq (tAsg (tC (.int 0)) (gName 2))
  (tSeq (tAsg (tC (.int 0)) (gName 3))
  (tSeq (tFor (iList K (tVar 1)) (gName 4)
  (tIfS (tTest (tOp (cCmp fun i j=>decide (j < i)) (tOp cIx (tVar 0) (tVar 4)) (tVar 2))) (tSeq (tAsg (tOp cIx (tVar 0) (tVar 4)) (gName 2))
  (tAsg (tOp cAdd (tVar 3) (tC (.int 1))) (gName 3))) tNext))
  (tRet (tVar 3)))))
theorem rk {K:PySem.W.Frag} {vs:List V} {H:Hp} {Q:VK} {E:XK} (h:cT K vs H Q E):fY K { nx:=fun _ H'=>Q .non H',rt:=Q } (start ["_law_filling_here","_law_cells","_law_greatest","_law_many","_law_cell"] vs) H:=by
 obtain ⟨f,C,cs,xs,rfl,hf,hC,hlt,q⟩:=h
 show fY K _ [some (.ref f),some (.ref C),none,none,none] H
 unfold fY
 walk_at "w"
 refine ⟨⟨_,SqL.of hC⟩,cB (K:=K) (xs:=nsV cs) (fun i σ H'=>∃ (cv:Option V) (g:Int) (n:Nat),σ=[some (.ref f),some (.ref C),some (.int g),some (.int n),cv]∧H'=H∧n≤i) ⟨none,0,0,rfl,rfl,Nat.zero_le _⟩ (fun i σ H' _ ⟨_,_,_,_,e,_⟩=>by rw [e]; exact SqL.of hC) ?_ ?_⟩
 · rintro i y σ H2 hy ⟨cv,g,n,rfl,rfl,hn⟩
   rw [List.getElem?_map,List.getElem?_map] at hy
   cases e:cs[i]? with
   | none=>rw [e] at hy; cases hy
   | some c=>
    rw [e] at hy
    cases hy
    have hl:=hlt c (List.mem_of_getElem? e)
    walk_at "w"
    rw [aT]
    walk_at "w"
    refine sS hf hl ?_
    walk_at "w"
    cases decide (g < sgN xs c) with
    | true=>
     refine iteT ?_
     refine sS hf hl ?_
     exact ⟨_,_,n+1,rfl,by first | trivial | rfl,by omega⟩
    | false=>exact iteF ⟨_,g,n,rfl,by first | trivial | rfl,by omega⟩
 · rintro σ H2 ⟨cv,g,n,rfl,rfl,hn⟩
   walk_at "w"
   exact q n (by rw [jB] at hn; exact hn)
structure LineS (H:Hp) (p f:Addr) (h w g:Int) (xs:List Int):Prop where
 fl:IsFl H p h w g
 F:FlOk h w g
 f:H f=some (.lst (xs.map V.int))
 n:xs.length=(h*w).toNat
 sg:∀ x∈xs,1≤x∧x≤6
theorem LineS.same {H H':Hp} {p f:Addr} {h w g:Int} {xs:List Int} (x:LineS H p f h w g xs) (s:Same H H'):LineS H' p f h w g xs:=⟨s _ _ x.fl,x.F,s _ _ x.f,x.n,x.sg⟩
def b6 (K:PySem.W.Frag):Sp:=fun vs H Q _=>∃ (p f:Addr) (h w g z:Int) (xs:List Int),vs=[.ref p,.ref f,.int z]∧LineS H p f h w g xs∧∀ (r:RR) (H':Hp),Same H H'→r.Ok h w g→Q (.str r.txt) H'
theorem oE {K:PySem.W.Frag} {vs:List V} {H:Hp} {Q:VK} {E:XK} (h:b6 K vs H Q E):vs.length=3:=by
 obtain ⟨_,_,_,_,_,_,_,rfl,_⟩:=h; rfl
def dY (K:PySem.W.Frag):TS:=
 (tRet (tBM K "str" gX (tC (.str (tx [32]))) (tCons (tOp cAdd (tVar 10) (tComp [none,none] (iList K (tVar 6)) (gName 1) tTrue (tCB kStr (tCons (tVar 1) tNil)))) tNil)))
def dZ (K:PySem.W.Frag):TS:=
 (tSeq (tIfS (tTest (tOp (cEq K) (tVar 9) (tC (.int 1)))) (tAsg (tLst (tCons (tC (.str (tx [115,117,109]))) (tCons (tCB kStr (tCons (tOp cAdd (tCB kSum (tCons (tComp [none,none,some 1] (iList K (tVar 6)) (gName 1) tTrue (tOp cIx (tVar 2) (tVar 1))) tNil)) (tVar 8)) tNil)) tNil))) (gName 10)) tNext)
  (tSeq (tIfS (tTest (tOp (cEq K) (tVar 9) (tC (.int 2)))) (tAsg (tLst (tCons (tC (.str (tx [114,105,115,105,110,103]))) tNil)) (gName 10)) tNext)
  (tSeq (tIfS (tTest (tOp (cEq K) (tVar 9) (tC (.int 3)))) (tAsg (tLst (tCons (tC (.str (tx [115,101,101,110]))) (tCons (tCB kStr (tCons (tOp cAdd (tCall (cT K) [] E0 (tCons (tVar 1) (tCons (tVar 6) tNil))) (tVar 8)) tNil)) tNil))) (gName 10)) tNext)
  (tSeq (tIfS (tTest (tOp (cEq K) (tVar 9) (tC (.int 4)))) (tAsg (tLst (tCons (tC (.str (tx [99,111,117,110,116]))) (tCons (tCB kStr (tCons (tOp cAdd (tCB kLen (tCons (tComp [none,none,some 1,some 7] (iList K (tVar 6)) (gName 1) (tTest (tOp (cEq K) (tOp cIx (tVar 2) (tVar 1)) (tVar 3))) (tVar 1)) tNil)) (tVar 8)) tNil)) (tCons (tCB kStr (tCons (tVar 7) tNil)) tNil)))) (gName 10)) tNext)
  (dY K)))))
def eH (K:PySem.W.Frag):TS:=
 (tSeq (tAsg (tLst (tCons (tC (.str (tx [117,110,108,105,107,101]))) tNil)) (gName 10))
  (dZ K))
def eI (K:PySem.W.Frag):TS:=
 (tSeq (tIfS (tAnd (tTest (tOp (cIn K false) (tVar 9) (tTup (tCons (tC (.int 0)) (tCons (tC (.int 2)) tNil))))) (tTest (tOp (cEq K) (tVar 8) (tC (.int 0))))) (tAsg (tSl dQ (tCall (cS K) [] E0 (tCons (tVar 5) (tCons (tVar 1) (tCons (tOp (cEq K) (tVar 9) (tC (.int 2))) tNil)))) bE (tPart (tCB kLen (tCons (tVar 6) tNil)))) (gName 6)) tNext)
  (eH K))
def eJ (K:PySem.W.Frag):TS:=
 (tSeq (tIfS (tTest (tOp (cCmp fun i j=>decide (j < i)) (tVar 9) (tC (.int 4)))) (tRet (tOp cAdd (tOp cAdd (tOp cIx (tLst (tCons (tC (.str (tx [106,111,105,110,101,100]))) (tCons (tC (.str (tx [110,111,115,113,117,97,114,101]))) (tCons (tC (.str (tx [114,105,110,103]))) tNil)))) (tOp cSub (tVar 9) (tC (.int 5)))) (tC (.str (tx [32])))) (tCB kStr (tCons (tVar 7) tNil)))) tNext)
  (eI K))
def eh (K:PySem.W.Frag):TS:=
 (tSeq (tAsg (tOp cMul (tOp cIx (tVar 0) (tC (.int 0))) (tOp cIx (tVar 0) (tC (.int 1)))) (gName 3))
  (tSeq (tAsg (tCall (b5 K) [] E0 (tCons (tOp cDiv (tVar 2) (tC (.int 8))) (tCons (tOp cAdd (tVar 3) (tC (.int 3))) tNil))) (gName 4))
  (tSeq (tAsg (tCall (bA K) [] E0 (tCons (tVar 4) (tCons (tVar 3) tNil))) (gName 5))
  (tSeq (tAsg (tSl dQ (tVar 5) bE (tPart (tOp cAdd (tC (.int 1)) (tOp cMod (tOp cIx (tVar 4) (tVar 3)) (tVar 3))))) (gName 6))
  (tSeq (tAsg (tOp cAdd (tC (.int 1)) (tOp cMod (tOp cIx (tVar 4) (tOp cAdd (tVar 3) (tC (.int 1)))) (tOp cIx (tVar 0) (tC (.int 2))))) (gName 7))
  (tSeq (tAsg (tOp cIx (tLst (tCons (tC (.int 0)) (tCons (tC (.int 0)) (tCons (tC (.int 0)) (tCons (tC (.int 1)) tNil))))) (tOp cMod (tOp cIx (tVar 4) (tOp cAdd (tVar 3) (tC (.int 2)))) (tC (.int 4)))) (gName 8))
  (tSeq (tAsg (tOp cMod (tVar 2) (tC (.int 8))) (gName 9))
  (eJ K))))))))
structure SomeS (H:Hp) (S:Addr) (n:Nat) (ns:List Nat):Prop where
 S:H S=some (.lst (nsV ns))
 nd:ns.Nodup
 ne:ns≠[]
 len:ns.length≤16
 lt:∀ c∈ns,c < n
theorem SomeS.same {H H':Hp} {S:Addr} {n:Nat} {ns:List Nat} (x:SomeS H S n ns) (s:Same H H'):SomeS H' S n ns:=⟨s _ _ x.S,x.nd,x.ne,x.len,x.lt⟩
theorem SomeS.lt100 {H:Hp} {S:Addr} {h w g:Int} {ns:List Nat} (F:FlOk h w g) (x:SomeS H S (h*w).toNat ns):∀ c∈ns,c < 100:=fun c hc=>by
 have:=x.lt c hc
 have:=F.m
 omega
theorem ce {K:PySem.W.Frag} {H:Hp} {Q:VK} {v0 v1 v2 v3 v4 v5 v7 v8 v9:Option V} {S W:Addr} {n:Nat} {ns:List Nat} {pre:List (List Nat)} (X:SomeS H S n ns) (h100:∀ c∈ns,c < 100) (hW:H W=some (.lst ((pre.map tx).map V.str))) (h1:pre.length≤10) (h2:∀ x∈pre,x.length≤100)
  (q:∀ H',Same H H'→Q (.str (tx (catL 32 (pre++ns.map numC)))) H'):
  dY K { nx:=fun _ H'=>Q .non H',rt:=Q } [v0,v1,v2,v3,v4,v5,some (.ref S),v7,v8,v9,some (.ref W)] H:=by
 have hn:=X.len
 unfold dY
 walk_at "w"
 refine ⟨tK,⟨_,SqL.of X.S⟩,?_⟩
 refine uZ X.S (by omega) h100 fun l H1 hl s1 el=>?_
 walk_at "w"
 refine m9 (s1 _ _ hW) el (by simp; omega) fun r hr=>?_
 have er:(upd H1 r (.lst ((pre.map tx).map V.str++((ns.map numC).map tx).map V.str))) r=some (.lst (((pre++ns.map numC).map tx).map V.str)):=by rw [ae]; simp
 have s2:Same H (upd H1 r (.lst ((pre.map tx).map V.str++((ns.map numC).map tx).map V.str))):=s1.laid hr
 generalize upd H1 r (.lst ((pre.map tx).map V.str++((ns.map numC).map tx).map V.str))=H2 at*
 walk_at "w"
 have hw:∀ t∈pre++ns.map numC,t.length≤100:=fun t ht=>by
  rcases List.mem_append.mp ht with ht | ht
  · exact h2 t ht
  · obtain ⟨x,_,rfl⟩:=List.mem_map.mp ht
    exact Nat.le_trans jx (by decide)
 have er2:H2 r=some (.lst (((pre++ns.map numC).map tx).map V.str)):=er
 refine wD er2 (kP (by simp; omega) (fun t ht=>by obtain ⟨y,hy,rfl⟩:=List.mem_map.mp ht; rw [dS]; have:=hw y hy; omega) (by rw [dS]; decide)) ?_
 rw [qR,lz]
 exact q _ s2
theorem e6 {k:RK} {h w g:Int} {n m:Nat} {ns:List Nat} {H:Hp} {S:Addr} (F:FlOk h w g) (X:SomeS H S (h*w).toNat ns) (hk:allK k=false) (k0:k≠.Rule) (n0:n≤99) (nz:numK k=false→n=0) (m0:sgnK k=true→1≤(m:Int)∧(m:Int)≤g) (mz:sgnK k=false→m=0):
  RR.Ok ⟨k,n,m,ns,ns.map fun (n:Nat)=>(n:Int)⟩ h w g:=by
 refine ⟨k0,n0,nz,m0,mz,⟨fun _=>⟨X.ne,X.len,fun n hn=>?_,X.nd,rfl⟩,fun e=>?_⟩,X.lt100 F,X.len⟩
 · have:=X.lt n hn
   omega
 · rw [hk] at e; cases e
theorem u8 {k:RK} {h w g:Int} {m:Nat} (hk:allK k=true) (k0:k≠.Rule) (hn:numK k=false) (hs:sgnK k=true) (m0:1≤(m:Int)) (m1:(m:Int)≤g):RR.Ok ⟨k,0,m,[],rngL 0 (h*w)⟩ h w g:=by
 refine ⟨k0,Nat.zero_le _,fun _=>rfl,fun _=>⟨m0,m1⟩,fun e=>?_,⟨fun e=>?_,fun _=>⟨rfl,rfl⟩⟩,fun x hx=>(by cases hx),Nat.zero_le _⟩
 · rw [show sgnK k=false from e] at hs; cases hs
 · rw [show allK k=false from e] at hk; cases hk
theorem ifEqI {K:PySem.W.Frag} {σ:St} {H:Hp} {D:Ends} {t u:TS} {i j:Int} {b:Bool} {x:Nat} (hσ:σ[x]? =some (some (.int i))) (hb:decide (i=j)=b) (q:if b=true then t D σ H else u D σ H):tIfS (tTest (tOp (cEq K) (tVar x) (tC (.int j)))) t u D σ H:=by
 rw [aT,gS,kM,gJ]
 refine ⟨_,hσ,?_⟩
 walk_at "w"
 rw [hb]
 exact q
theorem pi:∀ {ys:List Int},(∀ y∈ys,1≤y∧y≤6)→0≤ys.sum∧ys.sum≤6*(ys.length:Int)
 | [],_=>⟨by simp,by simp⟩
 | y::r,h=>by
  have h1:=h y List.mem_cons_self
  have h2:=pi (ys:=r) fun z hz=>h z (List.mem_cons_of_mem _ hz)
  rw [List.sum_cons,List.length_cons]
  constructor <;> omega
theorem mn {K:PySem.W.Frag} {H:Hp} {Q:VK} {p f X O S W:Addr} {h w g z off way:Int} {xs:List Int} {ns:List Nat} {m:Nat} {many:V} (L:LineS H p f h w g xs) (M:SomeS H S (h*w).toNat ns) (o0:0≤off) (o1:off≤1) (m0:1≤(m:Int)) (m1:(m:Int)≤g) (w0:0≤way) (w1:way≤4) (hW:H W=some (.lst [V.str (tx (nmC .Unlike))]))
  (q:∀ (r:RR) (H':Hp),Same H H'→r.Ok h w g→Q (.str r.txt) H'):
  dZ K { nx:=fun _ H'=>Q .non H',rt:=Q } [some (.ref p),some (.ref f),some (.int z),some many,some (.ref X),some (.ref O),some (.ref S),some (.int (m:Int)),some (.int off),some (.int way),some (.ref W)] H:=by
 have h100:=M.lt100 L.F
 have hlen:=M.len
 have hg:=L.F.g1
 have hlt:∀ c∈ns,c < xs.length:=fun c hc=>by rw [L.n]; exact M.lt c hc
 have W1:∀ k:RK,(nmC k).length≤100:=fun k=>by cases k <;> decide
 have hN:∀ x,(numC x).length≤100:=fun x=>Nat.le_trans jx (by decide)
 unfold dZ
 have hw:way=0∨way=1∨way=2∨way=3∨way=4:=by omega
 rcases hw with rfl | rfl | rfl | rfl | rfl
 · rw [aF]
   refine ifEqI rfl (b:=false) (by decide) (iteF ?_)
   rw [a7]
   dsimp only
   rw [aF]
   refine ifEqI rfl (b:=false) (by decide) (iteF ?_)
   rw [a7]
   dsimp only
   rw [aF]
   refine ifEqI rfl (b:=false) (by decide) (iteF ?_)
   rw [a7]
   dsimp only
   rw [aF]
   refine ifEqI rfl (b:=false) (by decide) (iteF ?_)
   rw [a7]
   dsimp only
   exact ce (pre:=[nmC .Unlike]) M h100 hW (by decide) (fun x hx=>by rw [List.mem_singleton.mp hx]; exact W1 _) fun H1 s1=>q ⟨.Unlike,0,0,ns,_⟩ H1 s1 (e6 L.F M rfl (by decide) (by decide) (fun _=>rfl) (fun e=>by cases e) (fun _=>rfl))
 · rw [aF]
   refine ifEqI rfl (b:=true) (by decide) (iteT ?_)
   walk_at "w"
   refine ⟨⟨_,SqL.of M.S⟩,?_⟩
   refine d6 (xs:=ns.map fun (n:Nat)=>(n:Int)) (fun _=>true) (fun x=>xs.getD x.toNat 0) (by simp; omega) (SqL.of M.S) ?_ ?_ ?_
   · intro x H1 R hx s1 k1
     exact k1 _ (Same.refl _)
   · intro x H1 Q1 hx hb s1 k1
     obtain ⟨c,hc,rfl⟩:=nJ hx
     have:=hlt c hc
     show tOp cIx _ _ [none,some (.int (c:Int)),some (.ref f)] H1 Q1
     walk_at "w"
     exact ixI (s1 _ _ L.f) (by omega) (by omega) (k1 _ (Same.refl _))
   · intro T H1 hT s1 eT
     rw [aV] at eT
     have hb:∀ y∈(ns.map fun (n:Nat)=>(n:Int)).map (fun x=>xs.getD x.toNat 0),1≤y∧y≤6:=fun y hy=>by
      obtain ⟨x,hx,rfl⟩:=List.mem_map.mp hy
      obtain ⟨c,hc,rfl⟩:=nJ hx
      exact tX L.sg (hlt c hc)
     have hs:=pi hb
     rw [List.length_map,List.length_map] at hs
     walk_at "w"
     refine vX eT (fun y hy=>by have:=hb y hy; omega) (by rw [List.length_map,List.length_map]; omega) ?_
     generalize ((ns.map fun (n:Nat)=>(n:Int)).map (fun x=>xs.getD x.toNat 0)).sum=sm at*
     walk_at "w"
     have en:sm+off=(((sm+off).toNat:Nat):Int):=by omega
     have hn:(sm+off).toNat≤97:=by omega
     rw [en]
     generalize (sm+off).toNat=n at*
     refine ⟨jA (n:=n) (by omega),?_⟩
     rw [jw (n:=n) (by omega)]
     refine ⟨aC (by show (2:Nat)≤1000; decide),fun V1 hV1=>?_⟩
     have s2:Same H (upd H1 V1 (.lst [V.str (tx [115,117,109]),V.str (tx (numC n))])):=s1.laid hV1
     have eV:(upd H1 V1 (.lst [V.str (tx [115,117,109]),V.str (tx (numC n))])) V1=some (.lst ((([nmC .Sum,numC n]:List (List Nat)).map tx).map V.str)):=ae
     generalize upd H1 V1 (.lst [V.str (tx [115,117,109]),V.str (tx (numC n))])=H2 at*
     refine ifEqI rfl (b:=false) (by decide) (iteF ?_)
     rw [a7]
     dsimp only
     rw [aF]
     refine ifEqI rfl (b:=false) (by decide) (iteF ?_)
     rw [a7]
     dsimp only
     rw [aF]
     refine ifEqI rfl (b:=false) (by decide) (iteF ?_)
     rw [a7]
     dsimp only
     exact ce (pre:=[nmC .Sum,numC n]) (M.same s2) h100 eV (by show (2:Nat)≤10; decide) (fun x hx=>by rcases List.mem_cons.mp hx with rfl | hx; exact W1 _; rw [List.mem_singleton.mp hx]; exact hN _) fun H3 s3=>q ⟨.Sum,n,0,ns,_⟩ H3 (s2.trans s3) (e6 L.F M rfl (by decide) (by omega) (fun e=>by cases e) (fun e=>by cases e) (fun _=>rfl))
 · rw [aF]
   refine ifEqI rfl (b:=false) (by decide) (iteF ?_)
   rw [a7]
   dsimp only
   rw [aF]
   refine ifEqI rfl (b:=true) (by decide) (iteT ?_)
   walk_at "w"
   refine ⟨aC (by show (1:Nat)≤1000; decide),fun V1 hV1=>?_⟩
   have s2:Same H (upd H V1 (.lst [V.str (tx [114,105,115,105,110,103])])):=(Same.refl H).laid hV1
   have eV:(upd H V1 (.lst [V.str (tx [114,105,115,105,110,103])])) V1=some (.lst ((([nmC .Rising]:List (List Nat)).map tx).map V.str)):=ae
   generalize upd H V1 (.lst [V.str (tx [114,105,115,105,110,103])])=H2 at*
   refine ifEqI rfl (b:=false) (by decide) (iteF ?_)
   rw [a7]
   dsimp only
   rw [aF]
   refine ifEqI rfl (b:=false) (by decide) (iteF ?_)
   rw [a7]
   dsimp only
   exact ce (pre:=[nmC .Rising]) (M.same s2) h100 eV (by show (1:Nat)≤10; decide) (fun x hx=>by rw [List.mem_singleton.mp hx]; exact W1 _) fun H3 s3=>q ⟨.Rising,0,0,ns,_⟩ H3 (s2.trans s3) (e6 L.F M rfl (by decide) (by omega) (fun _=>rfl) (fun e=>by cases e) (fun _=>rfl))
 · rw [aF]
   refine ifEqI rfl (b:=false) (by decide) (iteF ?_)
   rw [a7]
   dsimp only
   rw [aF]
   refine ifEqI rfl (b:=false) (by decide) (iteF ?_)
   rw [a7]
   dsimp only
   rw [aF]
   refine ifEqI rfl (b:=true) (by decide) (iteT ?_)
   walk_at "w"
   refine ⟨f,S,ns,xs,rfl,L.f,M.S,hlt,fun sn hsn=>?_⟩
   walk_at "w"
   have en:(sn:Int)+off=(((sn:Int)+off).toNat:Nat):=by omega
   have hn:((sn:Int)+off).toNat≤97:=by omega
   rw [en]
   generalize ((sn:Int)+off).toNat=n at*
   refine ⟨jA (n:=n) (by omega),?_⟩
   rw [jw (n:=n) (by omega)]
   refine ⟨aC (by show (2:Nat)≤1000; decide),fun V1 hV1=>?_⟩
   have s2:Same H (upd H V1 (.lst [V.str (tx [115,101,101,110]),V.str (tx (numC n))])):=(Same.refl H).laid hV1
   have eV:(upd H V1 (.lst [V.str (tx [115,101,101,110]),V.str (tx (numC n))])) V1=some (.lst ((([nmC .Seen,numC n]:List (List Nat)).map tx).map V.str)):=ae
   generalize upd H V1 (.lst [V.str (tx [115,101,101,110]),V.str (tx (numC n))])=H2 at*
   refine ifEqI rfl (b:=false) (by decide) (iteF ?_)
   rw [a7]
   dsimp only
   exact ce (pre:=[nmC .Seen,numC n]) (M.same s2) h100 eV (by show (2:Nat)≤10; decide) (fun x hx=>by rcases List.mem_cons.mp hx with rfl | hx; exact W1 _; rw [List.mem_singleton.mp hx]; exact hN _) fun H3 s3=>q ⟨.Seen,n,0,ns,_⟩ H3 (s2.trans s3) (e6 L.F M rfl (by decide) (by omega) (fun e=>by cases e) (fun e=>by cases e) (fun _=>rfl))
 · rw [aF]
   refine ifEqI rfl (b:=false) (by decide) (iteF ?_)
   rw [a7]
   dsimp only
   rw [aF]
   refine ifEqI rfl (b:=false) (by decide) (iteF ?_)
   rw [a7]
   dsimp only
   rw [aF]
   refine ifEqI rfl (b:=false) (by decide) (iteF ?_)
   rw [a7]
   dsimp only
   rw [aF]
   refine ifEqI rfl (b:=true) (by decide) (iteT ?_)
   walk_at "w"
   refine ⟨⟨_,SqL.of M.S⟩,?_⟩
   refine d6 (xs:=ns.map fun (n:Nat)=>(n:Int)) (fun x=>decide (xs.getD x.toNat 0=(m:Int))) (fun x=>x) (by simp; omega) (SqL.of M.S) ?_ ?_ ?_
   · intro x H1 R hx s1 k1
     obtain ⟨c,hc,rfl⟩:=nJ hx
     have:=hlt c hc
     show tTest _ [none,some (.int (c:Int)),some (.ref f),some (.int (m:Int))] H1 R
     walk_at "w"
     refine ixI (s1 _ _ L.f) (by omega) (by omega) ?_
     walk_at "w"
     exact k1 _ (Same.refl _)
   · intro x H1 Q1 hx hb s1 k1
     show tVar 1 [none,some (.int x),some (.ref f),some (.int (m:Int))] H1 Q1
     walk_at "w"
     exact k1 _ (Same.refl _)
   · intro T H1 hT s1 eT
     rw [kU] at eT
     have eT':H1 T=some (.lst (nsV (ns.filter fun (n:Nat)=>decide (xs.getD (n:Int).toNat 0=(m:Int))))):=eT
     have hfl:=List.length_filter_le (fun n:Nat=>decide (xs.getD (n:Int).toNat 0=(m:Int))) ns
     generalize (ns.filter fun (n:Nat)=>decide (xs.getD (n:Int).toNat 0=(m:Int)))=fs at*
     walk_at "w"
     rw [cE eT',jB]
     walk_at "w"
     have en:(fs.length:Int)+off=(((fs.length:Int)+off).toNat:Nat):=by omega
     have hn:((fs.length:Int)+off).toNat≤97:=by omega
     rw [en]
     generalize ((fs.length:Int)+off).toNat=n at*
     refine ⟨jA (n:=n) (by omega),jA (n:=m) (by omega),?_⟩
     rw [jw (n:=n) (by omega),jw (n:=m) (by omega)]
     refine ⟨aC (by show (3:Nat)≤1000; decide),fun V1 hV1=>?_⟩
     have s2:Same H (upd H1 V1 (.lst [V.str (tx [99,111,117,110,116]),V.str (tx (numC n)),V.str (tx (numC m))])):=s1.laid hV1
     have eV:(upd H1 V1 (.lst [V.str (tx [99,111,117,110,116]),V.str (tx (numC n)),V.str (tx (numC m))])) V1=some (.lst ((([nmC .Count,numC n,numC m]:List (List Nat)).map tx).map V.str)):=ae
     generalize upd H1 V1 (.lst [V.str (tx [99,111,117,110,116]),V.str (tx (numC n)),V.str (tx (numC m))])=H2 at*
     exact ce (pre:=[nmC .Count,numC n,numC m]) (M.same s2) h100 eV (by show (3:Nat)≤10; decide) (fun x hx=>by rcases List.mem_cons.mp hx with rfl | hx; exact W1 _; rcases List.mem_cons.mp hx with rfl | hx; exact hN _; rw [List.mem_singleton.mp hx]; exact hN _) fun H3 s3=>q ⟨.Count,n,m,ns,_⟩ H3 (s2.trans s3) (e6 L.F M rfl (by decide) (by omega) (fun e=>by cases e) (fun _=>⟨m0,m1⟩) (fun e=>by cases e))
theorem fZ {K:PySem.W.Frag} {H:Hp} {Q:VK} {p f X O S:Addr} {h w g z off way:Int} {xs:List Int} {ns:List Nat} {m:Nat} {many:V} (L:LineS H p f h w g xs) (M:SomeS H S (h*w).toNat ns) (o0:0≤off) (o1:off≤1) (m0:1≤(m:Int)) (m1:(m:Int)≤g) (w0:0≤way) (w1:way≤4)
  (q:∀ (r:RR) (H':Hp),Same H H'→r.Ok h w g→Q (.str r.txt) H'):
  eH K { nx:=fun _ H'=>Q .non H',rt:=Q } [some (.ref p),some (.ref f),some (.int z),some many,some (.ref X),some (.ref O),some (.ref S),some (.int (m:Int)),some (.int off),some (.int way),none] H:=by
 unfold eH
 walk_at "w"
 refine ⟨aC (by show (1:Nat)≤1000; decide),fun W hW=>?_⟩
 have s1:Same H (upd H W (.lst [V.str (tx (nmC .Unlike))])):=(Same.refl H).laid hW
 exact mn (L.same s1) (M.same s1) o0 o1 m0 m1 w0 w1 ae fun r H' s2 O=>q r H' (s1.trans s2) O
theorem xI {K:PySem.W.Frag} {H:Hp} {Q:VK} {p:Addr} {i:Int} {ns:List Int} (h:H p=some (.tup (ns.map V.int))):cIn K false (.int i) (.ref p) H Q=Q (.bl (decide (i∈ns))) H:=by
 unfold cIn; dsimp only; rw [h]; dsimp only [unD,unS,bnd]
 rw [jX,iY]
 simp [flatV]
theorem nL {K:PySem.W.Frag} {H:Hp} {Q:VK} {p f X O S:Addr} {h w g z off way:Int} {xs:List Int} {cs ns:List Nat} {m:Nat} {many:V} (L:LineS H p f h w g xs) (M:SomeS H S (h*w).toNat ns) (hO:H O=some (.lst (nsV cs))) (c1:cs.Nodup) (c2:cs≠[]) (c3:cs.length≤16) (c4:∀ c∈cs,c < (h*w).toNat) (o0:0≤off) (o1:off≤1) (m0:1≤(m:Int)) (m1:(m:Int)≤g) (w0:0≤way) (w1:way≤4)
  (q:∀ (r:RR) (H':Hp),Same H H'→r.Ok h w g→Q (.str r.txt) H'):
  eI K { nx:=fun _ H'=>Q .non H',rt:=Q } [some (.ref p),some (.ref f),some (.int z),some many,some (.ref X),some (.ref O),some (.ref S),some (.int (m:Int)),some (.int off),some (.int way),none] H:=by
 unfold eI
 rw [aF,aT]
 walk_at "w"
 refine ⟨aC (by show (2:Nat)≤1000; decide),fun T hT=>?_⟩
 have s1:Same H (upd H T (.tup [V.int 0,V.int 2])):=(Same.refl H).laid hT
 have eT:(upd H T (.tup [V.int 0,V.int 2])) T=some (.tup (([0,2]:List Int).map V.int)):=ae
 generalize upd H T (.tup [V.int 0,V.int 2])=H1 at*
 rw [xI eT]
 refine ⟨_,rfl,?_⟩
 cases decide (way∈([0,2]:List Int)) with
 | false=>
  refine iteF ?_
  exact fZ (L.same s1) (M.same s1) o0 o1 m0 m1 w0 w1 fun r H' s2 O=>q r H' (s1.trans s2) O
 | true=>
  refine iteT ?_
  walk_at "w"
  cases decide (off=0) with
  | false=>
   refine iteF ?_
   exact fZ (L.same s1) (M.same s1) o0 o1 m0 m1 w0 w1 fun r H' s2 O=>q r H' (s1.trans s2) O
  | true=>
   refine iteT ?_
   walk_at "w"
   refine ⟨O,f,_,cs,xs,rfl,⟨s1 _ _ hO,s1 _ _ L.f,c1,c2,c3,fun c hc=>by rw [L.n]; exact c4 c hc,L.sg⟩,fun R H2 ks s2 hR eR k1 k2 k3 k4=>?_⟩
   walk_at "w"
   rw [cE (s2 _ _ (s1 _ _ M.S)),jB]
   refine ⟨_,rfl,?_⟩
   refine i0 eR fun U hU=>?_
   rw [ml _ (by omega),oC,Int.toNat_natCast]
   have s3:Same H (upd H2 U (.lst (nsV (ks.take ns.length)))):=(s1.trans s2).laid hU
   have eU:(upd H2 U (.lst (nsV (ks.take ns.length)))) U=some (.lst (nsV (ks.take ns.length))):=ae
   generalize upd H2 U (.lst (nsV (ks.take ns.length)))=H3 at*
   refine fZ (ns:=ks.take ns.length) (L.same s3) ⟨eU,k1.sublist (List.take_sublist _ _),?_,?_,fun c hc=>c4 c (k2 c (List.mem_of_mem_take hc))⟩ o0 o1 m0 m1 w0 w1 fun r H' s4 O=>q r H' (s3.trans s4) O
   · match ks,k3,ns,M.ne with
     | k::r,_,n::r',_=>simp
   · rw [List.length_take]
     have:=M.len
     omega
theorem xJ {Q:VK} {H:Hp} {a b:List Nat} (h1:a.length≤100) (h2:b.length≤100) (q:Q (.str (tx (a++b))) H):cAdd (.str (tx a)) (.str (tx b)) H Q:=by
 rw [gU,qQ]
 exact ⟨by rw [dS,dS]; exact aC (by omega),q⟩
theorem nM {K:PySem.W.Frag} {H:Hp} {Q:VK} {p f X O S:Addr} {h w g z off way:Int} {xs:List Int} {cs ns:List Nat} {m:Nat} {many:V} (L:LineS H p f h w g xs) (M:SomeS H S (h*w).toNat ns) (hO:H O=some (.lst (nsV cs))) (c1:cs.Nodup) (c2:cs≠[]) (c3:cs.length≤16) (c4:∀ c∈cs,c < (h*w).toNat) (o0:0≤off) (o1:off≤1) (m0:1≤(m:Int)) (m1:(m:Int)≤g) (w0:0≤way) (w1:way < 8)
  (q:∀ (r:RR) (H':Hp),Same H H'→r.Ok h w g→Q (.str r.txt) H'):
  eJ K { nx:=fun _ H'=>Q .non H',rt:=Q } [some (.ref p),some (.ref f),some (.int z),some many,some (.ref X),some (.ref O),some (.ref S),some (.int (m:Int)),some (.int off),some (.int way),none] H:=by
 have hg:=L.F.g1
 have hN:∀ x,(numC x).length≤50:=fun x=>Nat.le_trans jx (by decide)
 unfold eJ
 rw [aF,aT]
 walk_at "w"
 by_cases hw:(4:Int) < way
 · rw [decide_eq_true hw]
   refine iteT ⟨aC (by show (3:Nat)≤1000; decide),fun T hT=>?_⟩
   have s1:Same H (upd H T (.lst [V.str (tx (nmC .Joined)),V.str (tx (nmC .NoSquare)),V.str (tx (nmC .Ring))])):=(Same.refl H).laid hT
   have eT:(upd H T (.lst [V.str (tx (nmC .Joined)),V.str (tx (nmC .NoSquare)),V.str (tx (nmC .Ring))])) T=some (.lst [V.str (tx (nmC .Joined)),V.str (tx (nmC .NoSquare)),V.str (tx (nmC .Ring))]):=ae
   have fin:∀ k:RK,allK k=true→k≠.Rule→numK k=false→sgnK k=true→(nmC k).length≤20→∀ (H1:Hp),Same H H1→cAdd (.str (tx (nmC k))) (.str (tx [32])) H1 fun x H2=>kStr [.int (m:Int)] H2 fun y H3=>cAdd x y H3 Q:=fun k a1 a2 a3 a4 a5 H1 s=>by
    refine xJ (by omega) (by decide) ?_
    refine sR (by omega) ?_
    refine xJ (by simp; omega) (by have:=hN m; omega) ?_
    have e:nmC k++[32]++numC m=catL 32 (rowW k 0 m []):=by
     unfold rowW
     rw [a3,a4]
     show nmC k++[32]++numC m=nmC k++32::numC m
     simp
    rw [e]
    exact q ⟨k,0,m,[],rngL 0 (h*w)⟩ H1 s (u8 a1 a2 a3 a4 m0 m1)
   have hw3:way=5∨way=6∨way=7:=by omega
   rcases hw3 with rfl | rfl | rfl
   · refine ixL eT (v:=V.str (tx (nmC .Joined))) rfl ?_
     walk_at "w"
     exact fin .Joined rfl (by decide) rfl rfl (by decide) _ s1
   · refine ixL eT (v:=V.str (tx (nmC .NoSquare))) rfl ?_
     walk_at "w"
     exact fin .NoSquare rfl (by decide) rfl rfl (by decide) _ s1
   · refine ixL eT (v:=V.str (tx (nmC .Ring))) rfl ?_
     walk_at "w"
     exact fin .Ring rfl (by decide) rfl rfl (by decide) _ s1
 · rw [decide_eq_false hw]
   refine iteF ?_
   exact nL L M hO c1 c2 c3 c4 o0 o1 m0 m1 w0 (by omega) q
theorem oF {K:PySem.W.Frag} {vs:List V} {H:Hp} {Q:VK} {E:XK} (h:b6 K vs H Q E):eh K { nx:=fun _ H'=>Q .non H',rt:=Q } (start ["_law_floor_here","_law_filling_here","_law_cell","_law_many","_law_xs","_law_order_here","_law_some","_law_sign","_law_off","_law_way","_law_words"] vs) H:=by
 obtain ⟨p,f,h,w,g,z,xs,rfl,L,q⟩:=h
 obtain ⟨h0,h1,w0,w1,m16,g0,g1⟩:=id L.F
 have mpos:1≤h*w:=Int.le_trans (by omega) (Int.mul_le_mul h0 w0 (by omega) (by omega))
 show eh K _ [some (.ref p),some (.ref f),some (.int z),none,none,none,none,none,none,none,none] H
 unfold eh
 walk_at "w"
 refine ixT L.fl (v:=V.int h) rfl ?_
 walk_at "w"
 refine ixT L.fl (v:=V.int w) rfl ?_
 walk_at "w"
 refine ⟨gW h0 h1,⟨by decide,by decide⟩,?_⟩
 walk_at "w"
 refine ⟨_,_,rfl,by omega,by omega,fun X H1 ys s1 hX eX hl hy=>?_⟩
 walk_at "w"
 refine ⟨X,h*w,ys,rfl,eX,by omega,by omega,by omega,fun O H2 cs s2 hO eO nd lt len=>?_⟩
 have s12:=s1.trans s2
 have eX2:=s2 _ _ eX
 walk_at "w"
 refine ixI eX2 (by omega) (by omega) ?_
 have y1:0≤ys.getD (h*w).toNat 0 % (h*w)∧ys.getD (h*w).toNat 0 % (h*w) < h*w:=⟨Int.emod_nonneg _ (by omega),Int.emod_lt_of_pos _ (by omega)⟩
 walk_at "w"
 refine ⟨by omega,?_⟩
 generalize ys.getD (h*w).toNat 0 % (h*w)=r1 at*
 refine i0 eO fun S hS=>?_
 rw [ml _ (by omega),oC]
 have s3:Same H (upd H2 S (.lst (nsV (cs.take (1+r1).toNat)))):=s12.laid hS
 have s23:Same H2 (upd H2 S (.lst (nsV (cs.take (1+r1).toNat)))):=(Same.refl H2).laid hS
 have eS:(upd H2 S (.lst (nsV (cs.take (1+r1).toNat)))) S=some (.lst (nsV (cs.take (1+r1).toNat))):=ae
 generalize upd H2 S (.lst (nsV (cs.take (1+r1).toNat)))=H3 at*
 walk_at "w"
 refine ixI (s23 _ _ eX2) (by omega) (by omega) ?_
 walk_at "w"
 refine ixT (s3 _ _ L.fl) (v:=V.int g) rfl ?_
 walk_at "w"
 refine ⟨by omega,?_⟩
 have y2:0≤ys.getD (h*w+1).toNat 0 % g∧ys.getD (h*w+1).toNat 0 % g < g:=⟨Int.emod_nonneg _ (by omega),Int.emod_lt_of_pos _ (by omega)⟩
 generalize ys.getD (h*w+1).toNat 0 % g=r2 at*
 refine ⟨aC (by show (4:Nat)≤1000; decide),fun T hT=>?_⟩
 have s4:Same H3 (upd H3 T (.lst [V.int 0,V.int 0,V.int 0,V.int 1])):=(Same.refl H3).laid hT
 have eT:(upd H3 T (.lst [V.int 0,V.int 0,V.int 0,V.int 1])) T=some (.lst (([0,0,0,1]:List Int).map V.int)):=ae
 generalize upd H3 T (.lst [V.int 0,V.int 0,V.int 0,V.int 1])=H4 at*
 have s34:=s3.trans s4
 refine ixI (s4 _ _ (s23 _ _ eX2)) (by omega) (by omega) ?_
 walk_at "w"
 refine ⟨by decide,?_⟩
 have y3:0≤ys.getD (h*w+2).toNat 0 % 4∧ys.getD (h*w+2).toNat 0 % 4 < 4:=⟨Int.emod_nonneg _ (by omega),Int.emod_lt_of_pos _ (by omega)⟩
 generalize ys.getD (h*w+2).toNat 0 % 4=r3 at*
 refine ixI eT y3.1 (by show r3 < 4; omega) ?_
 have y4:0≤([0,0,0,1]:List Int).getD r3.toNat 0∧([0,0,0,1]:List Int).getD r3.toNat 0≤1:=by
  have:r3=0∨r3=1∨r3=2∨r3=3:=by omega
  rcases this with rfl | rfl | rfl | rfl <;> decide
 generalize ([0,0,0,1]:List Int).getD r3.toNat 0=off at*
 walk_at "w"
 refine ⟨by decide,?_⟩
 have em:1+r2=(((1+r2).toNat:Nat):Int):=by omega
 have em1:1≤(((1+r2).toNat:Nat):Int)∧(((1+r2).toNat:Nat):Int)≤g:=by omega
 rw [em]
 generalize (1+r2).toNat=m at*
 have y5:=Int.emod_nonneg z (show (8:Int)≠0 by decide)
 have y6:=Int.emod_lt_of_pos z (show (0:Int) < 8 by decide)
 refine nM (cs:=cs) (ns:=cs.take (1+r1).toNat) (L.same s34) ⟨s4 _ _ eS,nd.sublist (List.take_sublist _ _),?_,?_,fun c hc=>?_⟩ ((s23.trans s4) _ _ eO) nd ?_ (by omega) (fun c hc=>?_) y4.1 y4.2 em1.1 em1.2 y5 y6 fun r H' s5 O=>q r H' (s34.trans s5) O
 · intro e
   have:=congrArg List.length e
   rw [List.length_take,List.length_nil] at this
   omega
 · rw [List.length_take]; omega
 · have:=lt c (List.mem_of_mem_take hc)
   omega
 · intro e
   rw [e] at len
   simp at len
   omega
 · have:=lt c hc
   omega
def bw (K:PySem.W.Frag):Sp:=fun vs H Q _=>∃ (a p:Addr) (ns:List Int) (at_ h w g:Int),vs=[.ref a,.ref p,.int at_]∧SqL K H a (ns.map V.int)∧ns.length≤63∧0≤at_∧at_≤500∧IsFl H p h w g∧FlOk h w g∧
 ∀ (l:Addr) (H':Hp) (xs:List Int),Same H H'→H l=none→H' l=some (.lst (xs.map V.int))→xs.length=(h*w).toNat→(∀ x∈xs,1≤x∧x≤g)→Q (.ref l) H'
theorem lG {K:PySem.W.Frag} {vs:List V} {H:Hp} {Q:VK} {E:XK} (h:bw K vs H Q E):vs.length=3:=by
 obtain ⟨_,_,_,_,_,_,_,rfl,_⟩:=h; rfl
def cH (K:PySem.W.Frag):TS:=
 (tRet (tComp [none,none,some 2,some 1,some 0] (fM (tCons (tOp cMul (tOp cIx (tVar 1) (tC (.int 0))) (tOp cIx (tVar 1) (tC (.int 1)))) tNil)) (gName 1) tTrue (tOp cAdd (tC (.int 1)) (tOp cMod (tCall (aP K) [] E0 (tCons (tVar 4) (tCons (tOp cAdd (tVar 2) (tVar 1)) tNil))) (tOp cIx (tVar 3) (tC (.int 2)))))))
theorem lH {K:PySem.W.Frag} {vs:List V} {H:Hp} {Q:VK} {E:XK} (h:bw K vs H Q E):cH K { nx:=fun _ H'=>Q .non H',rt:=Q } (start ["_law_script","_law_floor_here","_law_at_here"] vs) H:=by
 obtain ⟨a,p,ns,at_,h,w,g,rfl,hS,hn,a0,a1,hp,F,q⟩:=h
 obtain ⟨h0,h1,w0,w1,m16,g0,g1⟩:=id F
 have mpos:0≤h*w:=Int.mul_nonneg (by omega) (by omega)
 show cH K _ [some (.ref a),some (.ref p),some (.int at_)] H
 unfold cH
 walk_at "w"
 refine ixT hp (v:=V.int h) rfl ?_
 walk_at "w"
 refine ixT hp (v:=V.int w) rfl ?_
 walk_at "w"
 refine ⟨gW h0 h1,h*w,rfl,by omega,by omega,?_⟩
 refine lT (fun _=>true) (fun i=>1+lawAt ns (at_+(i:Int)) % g) (by omega) ?_ ?_ ?_
 · intro i H1 R hi s1 k1
   exact k1 _ (Same.refl _)
 · intro i H1 Q1 hi hb s1 k1
   show tOp cAdd _ _ [none,some (.int (0+(i:Int))),some (.int at_),some (.ref p),some (.ref a)] H1 Q1
   rw [Int.zero_add]
   walk_at "w"
   refine ⟨a,ns,_,rfl,s1.seq hS,hn,by omega,by omega,?_⟩
   walk_at "w"
   refine ixT (s1 _ _ hp) (v:=V.int g) rfl ?_
   walk_at "w"
   exact ⟨by omega,k1 _ (Same.refl _)⟩
 · intro l H1 hl s1 el
   rw [aV] at el
   refine q l H1 _ s1 hl el (by simp) fun x hx=>?_
   obtain ⟨i,_,rfl⟩:=List.mem_map.mp hx
   have e0:=Int.emod_nonneg (lawAt ns (at_+(i:Int))) (show g≠0 by omega)
   have e1:=Int.emod_lt_of_pos (lawAt ns (at_+(i:Int))) (show 0 < g by omega)
   omega
theorem u9 {c:RCl RK} {H1:Hp} {n:Nat} {σ0:St} {te:TE} {fin:Addr→Hp→Prop} {h w g:Int} (F:FlOk h w g) (hn:n≤12) (hk:∀ k,k≠.Rule→c.ok k=true)
  (he:∀ i H Q,i < n→Same H1 H→(∀ (r:RR) (H':Hp),Same H H'→r.Ok h w g→Q (.str r.txt) H')→te (σ0.set 1 (some (.int (0+(i:Int))))) H Q)
  (hd:∀ l rows H,H1 l=none→Same H1 H→H l=some (.lst ((rows.map RR.txt).map V.str))→rows.length=n→gY c h w g rows→fin l H):
  CompR (Itr 0 n) (gName 1) tTrue te fin σ0 H1:=by
 refine jY (fun l i σ H=>(σ=σ0∨∃ cv,σ=σ0.set 1 cv)∧Same H1 H∧∃ rows:List RR,H l=some (.lst ((rows.map RR.txt).map V.str))∧rows.length=i∧∀ r∈rows,r.Ok h w g) (fun l hl=>⟨.inl rfl,(Same.refl H1).laid hl,[],by rw [ae]; rfl,rfl,fun _ h=>nomatch h⟩) ?_ (fun l σ H hl ⟨_,s1,rows,el,hl2,hP⟩=>hd l rows H hl s1 el hl2 ⟨F,by omega,hP,fun r hr=>hk _ (hP r hr).k0⟩)
 rintro l i σ H hl hi ⟨hσ,s1,rows,el,hl2,hP⟩
 rw [bv]
 have e:σ.set 1 (some (.int (0+(i:Int))))=σ0.set 1 (some (.int (0+(i:Int)))):=by
  rcases hσ with rfl | ⟨cv,rfl⟩
  · rfl
  · exact List.set_set ..
 rw [e,e5,if_pos rfl]
 refine he i H _ hi s1 fun r H2 s2 hr=>⟨_,s2 _ _ el,by simp; exact aE (by omega),.inr ⟨_,rfl⟩,(s1.trans s2).own hl,rows++[r],by rw [ae]; simp,by simp [hl2],fun z hz=>?_⟩
 rcases List.mem_append.mp hz with hz | hz
 · exact hP z hz
 · rw [List.mem_singleton.mp hz]; exact hr
def ga (K:PySem.W.Frag) (c:RCl RK):Sp:=bU K c .Sum
theorem rl {K:PySem.W.Frag} {c:RCl RK} {vs:List V} {H:Hp} {Q:VK} {E:XK} (h:ga K c vs H Q E):vs.length=2:=by
 obtain ⟨_,_,_,_,_,_,_,_,_,_,_,rfl,_⟩:=h; rfl
def gb (K:PySem.W.Frag) (c:RCl RK):TS:=
 (tRet (tOp (cEq K) (tCB kSum (tCons (aO c c.ok "signs_at" (br K c) (tVar 0) (tCons (tVar 1) tNil)) tNil)) (tFldK c (tVar 0) "amount")))
theorem xK {xs cs:List Int} {n:Nat} (hC:jz cs n) (hn:n=xs.length) (hx:∀ x∈xs,0≤x∧x≤1000):∀ x∈sgAt xs cs,0≤x∧x≤1000:=fun x hm=>by
 unfold sgAt at hm
 obtain ⟨c,hc,rfl⟩:=List.mem_map.mp hm
 have:=hC.2 c hc
 have hl:c.toNat < xs.length:=by omega
 rw [List.getD,List.getElem?_eq_getElem hl]
 exact hx _ (List.getElem_mem hl)
theorem rm {K:PySem.W.Frag} {c:RCl RK} {vs:List V} {H:Hp} {Q:VK} {E:XK} (h:ga K c vs H Q E):gb K c { nx:=fun _ H'=>Q .non H',rt:=Q } (start ["self","filling"] vs) H:=by
 obtain ⟨r,p,f,ws,cs,xs,n,m,h,w,g,rfl,x,ha,F,hf,hC,hx,q⟩:=h
 obtain ⟨dx,W,C,h1,h2,h3⟩:=x.ex
 show gb K c _ [some (.ref r),some (.ref f)] H
 unfold gb
 walk_at "w"
 refine methE rfl x.ok h1 (by rfl) ?_
 walk_at "w"
 refine ⟨r,p,f,ws,cs,xs,n,m,rfl,x,hf,hC,fun l H1 s1 hl el=>?_⟩
 have hlen:(sgAt xs cs).length≤100:=by unfold sgAt; rw [List.length_map]; exact Nat.le_trans hC.1 (by decide)
 walk_at "w"
 refine vX el (fun y hy=>by have:=xK hC rfl hx y hy; omega) (by omega) ?_
 refine fldE rfl x.ok (s1 _ _ h1) (v:=.int n) (by rfl) ?_
 walk_at "w"
 exact q _ s1
theorem sU:∀ l:List Int,risB l=(List.range (l.length - 1)).all fun i=>decide (l.getD i 0 < l.getD (i+1) 0)
 | []=>rfl
 | [x]=>rfl
 | x::y::r=>by
  have ih:=sU (y::r)
  show (decide (x < y)&&risB (y::r))=(List.range (r.length+1)).all fun i=>decide ((x::y::r).getD i 0 < (x::y::r).getD (i+1) 0)
  rw [ih,List.range_succ_eq_map,List.all_cons,List.all_map]
  rfl
def dC (K:PySem.W.Frag) (c:RCl RK):Sp:=bU K c .Rising
theorem nN {K:PySem.W.Frag} {c:RCl RK} {vs:List V} {H:Hp} {Q:VK} {E:XK} (h:dC K c vs H Q E):vs.length=2:=by
 obtain ⟨_,_,_,_,_,_,_,_,_,_,_,rfl,_⟩:=h; rfl
def dD (K:PySem.W.Frag) (c:RCl RK):TS:=
 (tSeq (tAsg (aO c c.ok "signs_at" (br K c) (tVar 0) (tCons (tVar 1) tNil)) (gName 2))
  (tRet (tCB kAll (tCons (tComp [none,none,some 2] (fM (tCons (tOp cSub (tCB kLen (tCons (tVar 2) tNil)) (tC (.int 1))) tNil)) (gName 1) tTrue (tOp (cCmp fun i j=>decide (i < j)) (tOp cIx (tVar 2) (tVar 1)) (tOp cIx (tVar 2) (tOp cAdd (tVar 1) (tC (.int 1)))))) tNil))))
theorem nO {K:PySem.W.Frag} {c:RCl RK} {vs:List V} {H:Hp} {Q:VK} {E:XK} (h:dC K c vs H Q E):dD K c { nx:=fun _ H'=>Q .non H',rt:=Q } (start ["self","filling","signs"] vs) H:=by
 obtain ⟨r,p,f,ws,cs,xs,n,m,h,w,g,rfl,x,ha,F,hf,hC,hx,q⟩:=h
 obtain ⟨dx,W,C,h1,h2,h3⟩:=x.ex
 show dD K c _ [some (.ref r),some (.ref f),none] H
 unfold dD
 walk_at "w"
 refine methE rfl x.ok h1 (by rfl) ?_
 walk_at "w"
 refine ⟨r,p,f,ws,cs,xs,n,m,rfl,x,hf,hC,fun l H1 s1 hl el=>?_⟩
 have hlen:(sgAt xs cs).length≤100:=by unfold sgAt; rw [List.length_map]; exact Nat.le_trans hC.1 (by decide)
 have q1:∀ H',Same H H'→Q (.bl (risB (sgAt xs cs))) H':=q
 generalize sgAt xs cs=sg at*
 walk_at "w"
 rw [cE el,List.length_map]
 walk_at "w"
 refine ⟨_,rfl,by omega,by omega,?_⟩
 have en:((sg.length:Int) - 1).toNat=sg.length - 1:=by omega
 rw [en]
 refine lS (fun _=>true) (fun i=>.bl (decide (sg.getD i 0 < sg.getD (i+1) 0))) (by omega) ?_ ?_ ?_
 · intro i H2 R hi s2 k2
   exact k2 _ (Same.refl _)
 · intro i H2 Q2 hi hb s2 k2
   show tOp _ _ _ [none,some (.int (0+(i:Int))),some (.ref l)] H2 Q2
   rw [Int.zero_add]
   walk_at "w"
   refine ixI (s2 _ _ el) (by omega) (by omega) ?_
   refine ixI (s2 _ _ el) (by omega) (by omega) ?_
   walk_at "w"
   have e1:(i:Int).toNat=i:=by omega
   have e2:((i:Int)+1).toNat=i+1:=by omega
   rw [e1,e2]
   exact k2 _ (Same.refl _)
 · intro l2 H2 hl2 s2 el2
   rw [aV] at el2
   refine j4 (bs:=(List.range (sg.length - 1)).map fun i=>decide (sg.getD i 0 < sg.getD (i+1) 0)) (by rw [el2,List.map_map]; rfl) ?_
   have e:((List.range (sg.length - 1)).map fun i=>decide (sg.getD i 0 < sg.getD (i+1) 0)).all id=risB sg:=by
    rw [sU,List.all_map]
    rfl
   rw [e]
   exact q1 _ (s1.trans s2)
theorem vM (l:List Int) (x:Int):seenN (l++[x])=if (seenN l).1 < x then (x,(seenN l).2+1) else seenN l:=by
 unfold seenN
 rw [List.foldl_append]
 rfl
def fi (K:PySem.W.Frag) (c:RCl RK):Sp:=bU K c .Seen
theorem pP {K:PySem.W.Frag} {c:RCl RK} {vs:List V} {H:Hp} {Q:VK} {E:XK} (h:fi K c vs H Q E):vs.length=2:=by
 obtain ⟨_,_,_,_,_,_,_,_,_,_,_,rfl,_⟩:=h; rfl
def fj (K:PySem.W.Frag) (c:RCl RK):TS:=
 (tSeq (tAsg (tC (.int 0)) (gName 2))
  (tSeq (tAsg (tC (.int 0)) (gName 3))
  (tSeq (tFor (iList K (aO c c.ok "signs_at" (br K c) (tVar 0) (tCons (tVar 1) tNil))) (gName 4)
  (tIfS (tTest (tOp (cCmp fun i j=>decide (j < i)) (tVar 4) (tVar 2))) (tSeq (tAsg (tVar 4) (gName 2))
  (tAsg (tOp cAdd (tVar 3) (tC (.int 1))) (gName 3))) tNext))
  (tRet (tOp (cEq K) (tVar 3) (tFldK c (tVar 0) "amount"))))))
theorem pQ {K:PySem.W.Frag} {c:RCl RK} {vs:List V} {H:Hp} {Q:VK} {E:XK} (h:fi K c vs H Q E):fj K c { nx:=fun _ H'=>Q .non H',rt:=Q } (start ["self","filling","greatest","seen","sign"] vs) H:=by
 obtain ⟨r,p,f,ws,cs,xs,n,m,h,w,g,rfl,x,ha,F,hf,hC,hx,q⟩:=h
 obtain ⟨dx,W,C,h1,h2,h3⟩:=x.ex
 show fj K c _ [some (.ref r),some (.ref f),none,none,none] H
 unfold fj
 walk_at "w"
 refine methE rfl x.ok h1 (by rfl) ?_
 walk_at "w"
 refine ⟨r,p,f,ws,cs,xs,n,m,rfl,x,hf,hC,fun l H1 s1 hl el=>?_⟩
 have q1:∀ H',Same H H'→Q (.bl (decide ((seenN (sgAt xs cs)).2=n))) H':=q
 generalize sgAt xs cs=sg at*
 walk_at "w"
 refine ⟨⟨_,SqL.of el⟩,cB (K:=K) (xs:=sg.map V.int) (fun i σ H'=>∃ cv:Option V,σ=[some (.ref r),some (.ref f),some (.int (seenN (sg.take i)).1),some (.int (seenN (sg.take i)).2),cv]∧H'=H1) ⟨none,rfl,rfl⟩ (fun i σ H' _ ⟨_,_,e⟩=>by rw [e]; exact SqL.of el) ?_ ?_⟩
 · rintro i y σ H2 hy ⟨cv,rfl,rfl⟩
   rw [List.getElem?_map] at hy
   cases e:sg[i]? with
   | none=>rw [e] at hy; cases hy
   | some z=>
    rw [e] at hy
    cases hy
    have et:sg.take (i+1)=sg.take i++[z]:=by rw [List.take_succ,e]; rfl
    have ea:=vM (sg.take i) z
    rw [← et] at ea
    walk_at "w"
    rw [aT]
    walk_at "w"
    by_cases hz:(seenN (sg.take i)).1 < z
    · rw [decide_eq_true hz]
      rw [if_pos hz] at ea
      refine iteT ?_
      rw [ea]
      exact ⟨_,rfl,by first | trivial | rfl⟩
    · rw [decide_eq_false hz]
      rw [if_neg hz] at ea
      refine iteF ?_
      rw [ea]
      exact ⟨_,rfl,by first | trivial | rfl⟩
 · rintro σ H2 ⟨cv,rfl,rfl⟩
   rw [List.length_map,List.take_length]
   walk_at "w"
   refine fldE rfl x.ok (s1 _ _ h1) (v:=.int n) (by rfl) ?_
   walk_at "w"
   exact q1 _ s1
def b7 (K:PySem.W.Frag) (c:RCl RK):Sp:=fun vs H Q E=>∃ k,bx K c k vs H Q E
theorem oG {K:PySem.W.Frag} {c:RCl RK} {vs:List V} {H:Hp} {Q:VK} {E:XK} (h:b7 K c vs H Q E):vs.length=2:=by
 obtain ⟨_,_,_,_,_,_,_,_,_,rfl,_⟩:=h; rfl
def ei (K:PySem.W.Frag) (c:RCl RK):TS:=
 (tRet (tComp [none,none,some 1,some 0] (iTup K (tFldK c (tVar 0) "cells")) (gName 1) (tTest (tOp (cEq K) (tOp cIx (tVar 2) (tVar 1)) (tFldK c (tVar 3) "mark"))) (tVar 1)))
theorem oH {K:PySem.W.Frag} {c:RCl RK} {vs:List V} {H:Hp} {Q:VK} {E:XK} (h:b7 K c vs H Q E):ei K c { nx:=fun _ H'=>Q .non H',rt:=Q } (start ["self","filling"] vs) H:=by
 obtain ⟨k,r,p,f,ws,cs,xs,n,m,rfl,x,hf,⟨hn,hc⟩,q⟩:=h
 obtain ⟨dx,W,C,h1,h2,h3⟩:=x.ex
 show ei K c _ [some (.ref r),some (.ref f)] H
 unfold ei
 rw [gK,sO]
 refine fldE rfl x.ok h1 (v:=.ref C) (by rfl) ?_
 refine ⟨C,rfl,⟨_,SqT.of h3⟩,?_⟩
 refine pe (xs:=cs) (fun c=>decide (xs.getD c.toNat 0=m)) (fun c=>c) (by omega) h3 ?_ ?_ ?_
 · intro z H1 R hz s1 k1
   show tTest _ [none,some (.int z),some (.ref f),some (.ref r)] H1 R
   walk_at "w"
   have:=hc z hz
   refine ixI (s1 _ _ hf) this.1 (by omega) ?_
   refine fldE rfl x.ok (s1 _ _ h1) (v:=.int m) (by rfl) ?_
   walk_at "w"
   exact k1 _ (Same.refl _)
 · intro z H1 Q1 hz hb s1 k1
   show tVar 1 [none,some (.int z),some (.ref f),some (.ref r)] H1 Q1
   exact ⟨_,rfl,k1 _ (Same.refl _)⟩
 · intro l H1 hl s1 el
   rw [List.map_id'] at el
   exact q l H1 s1 hl el
def eo (K:PySem.W.Frag) (c:RCl RK):Sp:=bU K c .Count
theorem oI {K:PySem.W.Frag} {c:RCl RK} {vs:List V} {H:Hp} {Q:VK} {E:XK} (h:eo K c vs H Q E):vs.length=2:=by
 obtain ⟨_,_,_,_,_,_,_,_,_,_,_,rfl,_⟩:=h; rfl
def eA (K:PySem.W.Frag) (c:RCl RK):TS:=
 (tRet (tOp (cEq K) (tCB kLen (tCons (aO c c.ok "marked" (bx K c) (tVar 0) (tCons (tVar 1) tNil)) tNil)) (tFldK c (tVar 0) "amount")))
theorem oJ {K:PySem.W.Frag} {c:RCl RK} {vs:List V} {H:Hp} {Q:VK} {E:XK} (h:eo K c vs H Q E):eA K c { nx:=fun _ H'=>Q .non H',rt:=Q } (start ["self","filling"] vs) H:=by
 obtain ⟨r,p,f,ws,cs,xs,n,m,h,w,g,rfl,x,ha,F,hf,hC,hx,q⟩:=h
 obtain ⟨dx,W,C,h1,h2,h3⟩:=x.ex
 show eA K c _ [some (.ref r),some (.ref f)] H
 unfold eA
 walk_at "w"
 refine methE rfl x.ok h1 (by rfl) ?_
 walk_at "w"
 refine ⟨r,p,f,ws,cs,xs,n,m,rfl,x,hf,hC,fun l H1 s1 hl el=>?_⟩
 walk_at "w"
 rw [cE el,List.length_map]
 refine fldE rfl x.ok (s1 _ _ h1) (v:=.int n) (by rfl) ?_
 walk_at "w"
 exact q _ s1
end L2
namespace L2
open PySem PySem.Spec PyProof.Rows
end L2
namespace L2
open PySem PySem.Spec PyProof.Rows
local macro_rules | `(tactic| walk_at "w")=>`(tactic| (first | simp only [aF,nc,qk,kf,nh,jv,lB,ql,qg,m5,qj,if_true,if_false,Bool.false_eq_true,decide_true,decide_false,lx,ly,qi,j7,i6,lu,mX,lw,j5,mV,mW,j3,qf,j8,j9,kb,kc,kd,ke,ka,m6,m7,m8,mU,qh,Bool.not_true,Bool.not_false,a7,iV,bv,gJ,w_c,kM,gK,iq,gR,gS,w_b,w_not,jH,lZ,ir,iu,jI,iW,eY,l0,iv,jJ,iX,kN,jK,e5,iw,iy,iA,gq,gr,fG,fw,fz,dP,jL,jM,jN,jO,jP,jQ,jR,jS,jT,jU,jV,jW,l3,iB,fA,iC,l4,iD,gt,fB,jZ,j2,iE,gU,iF,
 List.getElem?_cons_zero,List.getElem?_cons_succ,Option.some.injEq,exists_eq_left',exists_eq_left,List.set_cons_zero,List.set_cons_succ,dN,V.int.injEq,V.bl.injEq,V.ref.injEq,V.str.injEq,List.append_nil,List.nil_append,List.cons_append] | dsimp only | skip))
def cU (K:PySem.W.Frag):Sp:=fun vs H Q _=>∃ (S M:Addr) (sq ms:List Int),vs=[.ref S,.ref M]∧H S=some (.lst (sq.map V.int))∧H M=some (.lst (ms.map V.int))∧sq.length≤100∧∀ H',Same H H'→Q (.bl (sq.all fun c=>decide (c∈ms))) H'
theorem rn {K:PySem.W.Frag} {vs:List V} {H:Hp} {Q:VK} {E:XK} (h:cU K vs H Q E):vs.length=2:=by
 obtain ⟨_,_,_,_,rfl,_⟩:=h; rfl
def gc (K:PySem.W.Frag):TS:=
 (tRet (tCB kAll (tCons (tComp [none,none,some 1] (iList K (tVar 0)) (gName 1) tTrue (tOp (cIn K false) (tVar 1) (tVar 2))) tNil)))
theorem ro {K:PySem.W.Frag} {vs:List V} {H:Hp} {Q:VK} {E:XK} (h:cU K vs H Q E):gc K { nx:=fun _ H'=>Q .non H',rt:=Q } (start ["some","cells"] vs) H:=by
 obtain ⟨S,M,sq,ms,rfl,hS,hM,hn,q⟩:=h
 show gc K _ [some (.ref S),some (.ref M)] H
 unfold gc
 walk_at "w"
 refine ⟨⟨_,SqL.of hS⟩,?_⟩
 refine bX (xs:=sq.map V.int) (fun _=>true) (fun i=>.bl (decide (sq.getD i 0∈ms))) (by rw [List.length_map]; omega) (SqL.of hS) ?_ ?_ ?_
 · intro i x H1 R hx s1 k1
   exact k1 _ (Same.refl _)
 · intro i x H1 Q1 hx hb s1 k1
   rw [List.getElem?_map] at hx
   cases e:sq[i]? with
   | none=>rw [e] at hx; cases hx
   | some z=>
    rw [e] at hx
    cases hx
    have k2:=k1 _ (Same.refl H1)
    rw [List.getD,e] at k2
    show tOp (cIn K false) _ _ [none,some (.int z),some (.ref M)] H1 Q1
    walk_at "w"
    rw [tH (s1 _ _ hM)]
    exact k2
 · intro l H1 hl s1 el
   rw [aV,List.length_map] at el
   refine j4 (bs:=(List.range sq.length).map fun i=>decide (sq.getD i 0∈ms)) (by rw [el,List.map_map]; rfl) ?_
   have e:((List.range sq.length).map fun i=>decide (sq.getD i 0∈ms)).all id=sq.all fun c=>decide (c∈ms):=by
    rw [List.all_map,Bool.eq_iff_iff,List.all_eq_true,List.all_eq_true]
    constructor
    · intro h c hc
      obtain ⟨i,hi,rfl⟩:=List.mem_iff_getElem.mp hc
      have:=h i (List.mem_range.mpr hi)
      dsimp only [Function.comp,id] at this
      rw [List.getD,List.getElem?_eq_getElem hi] at this
      exact this
    · intro h i hi
      have hi:=List.mem_range.mp hi
      have:=h _ (List.getElem_mem hi)
      dsimp only [Function.comp,id]
      rw [List.getD,List.getElem?_eq_getElem hi]
      exact this
   rw [e]
   exact q _ s1
def cI (K:PySem.W.Frag) (c:RCl RK):Sp:=bU K c .NoSquare
theorem lI {K:PySem.W.Frag} {c:RCl RK} {vs:List V} {H:Hp} {Q:VK} {E:XK} (h:cI K c vs H Q E):vs.length=2:=by
 obtain ⟨_,_,_,_,_,_,_,_,_,_,_,rfl,_⟩:=h; rfl
theorem wH {h w g:Int} (F:FlOk h w g):(squL h w).length≤16:=by
 obtain ⟨h0,h1,w0,w1,m16,g0,g1⟩:=F
 unfold squL
 rw [List.length_map]
 refine Nat.le_trans (List.length_filter_le _ _) ?_
 rw [List.length_range]
 omega
def cJ (K:PySem.W.Frag) (c:RCl RK):TS:=
 (tSeq (tAsg (aO c c.ok "marked" (bx K c) (tVar 0) (tCons (tVar 1) tNil)) (gName 2))
  (tRet (tNotV (tCB kAny (tCons (tComp [none,none,some 2] (iList K (tCall (d7 K) [] E0 (tCons (tFldK c (tVar 0) "floor") tNil))) (gName 1) tTrue (tCall (cU K) [] E0 (tCons (tVar 1) (tCons (tVar 2) tNil)))) tNil)))))
theorem lJ {K:PySem.W.Frag} {c:RCl RK} {vs:List V} {H:Hp} {Q:VK} {E:XK} (h:cI K c vs H Q E):cJ K c { nx:=fun _ H'=>Q .non H',rt:=Q } (start ["self","filling","cells"] vs) H:=by
 obtain ⟨r,p,f,ws,cs,xs,n,m,h,w,g,rfl,x,ha,F,hf,hC,hx,q⟩:=h
 obtain ⟨dx,W,C,h1,h2,h3⟩:=x.ex
 show cJ K c _ [some (.ref r),some (.ref f),none] H
 unfold cJ
 walk_at "w"
 refine methE rfl x.ok h1 (by rfl) ?_
 walk_at "w"
 refine ⟨r,p,f,ws,cs,xs,n,m,rfl,x,hf,hC,fun l H1 s1 hl el=>?_⟩
 walk_at "w"
 refine fldE rfl x.ok (s1 _ _ h1) (v:=.ref p) (by rfl) ?_
 walk_at "w"
 refine ⟨p,h,w,g,rfl,s1 _ _ ha,F,fun L as H2 s2 hL xL _ _ _=>?_⟩
 have sl:=wH F
 refine ⟨L,rfl,⟨_,SqL.of xL.top⟩,?_⟩
 refine bX (xs:=as.map V.ref) (fun _=>true) (fun i=>.bl (((squL h w).getD i []).all fun c=>decide (c∈mkAt xs cs m))) (by rw [List.length_map,xL.len]; omega) (SqL.of xL.top) ?_ ?_ ?_
 · intro i x H3 R hx s3 k3
   exact k3 _ (Same.refl _)
 · intro i y H3 Q3 hi hb s3 k3
   obtain ⟨b,hb,rfl⟩:=bL hi
   have hlt:i < (squL h w).length:=by rw [← xL.len]; exact (List.getElem?_eq_some_iff.mp hb).1
   have e:=List.getElem?_eq_getElem hlt
   have eg:(squL h w).getD i []=(squL h w)[i]:=by rw [List.getD,e]; rfl
   have hq4:((squL h w)[i]).length≤100:=by
    have hm:=List.getElem_mem hlt
    generalize (squL h w)[i]=z at hm
    unfold squL at hm
    obtain ⟨j,_,rfl⟩:=List.mem_map.mp hm
    show 4≤100
    decide
   show tCall _ _ _ _ [none,some (.ref b),some (.ref l)] H3 Q3
   walk_at "w"
   refine ⟨b,l,_,_,rfl,s3 _ _ (xL.at_ i b _ hb e),s3 _ _ (s2 _ _ el),hq4,fun H4 s4=>?_⟩
   have:=k3 H4 s4
   rw [eg] at this
   exact this
 · intro D H3 hD s3 eD
   rw [aV,List.length_map,xL.len] at eD
   refine xY (bs:=(List.range (squL h w).length).map fun i=>((squL h w).getD i []).all fun c=>decide (c∈mkAt xs cs m)) (by rw [eD,List.map_map]; rfl) ?_
   have e:((List.range (squL h w).length).map fun i=>((squL h w).getD i []).all fun c=>decide (c∈mkAt xs cs m)).any id=(squL h w).any fun sq=>sq.all fun c=>decide (c∈mkAt xs cs m):=by
    rw [List.any_map,Bool.eq_iff_iff,List.any_eq_true,List.any_eq_true]
    constructor
    · rintro ⟨i,hi,hh⟩
      have hi:=List.mem_range.mp hi
      dsimp only [Function.comp,id] at hh
      have eg:(squL h w).getD i []=(squL h w)[i]:=by rw [List.getD,List.getElem?_eq_getElem hi]; rfl
      rw [eg] at hh
      exact ⟨_,List.getElem_mem hi,hh⟩
    · rintro ⟨sq,hs,hh⟩
      obtain ⟨i,hi,rfl⟩:=List.mem_iff_getElem.mp hs
      refine ⟨i,List.mem_range.mpr hi,?_⟩
      dsimp only [Function.comp,id]
      have eg:(squL h w).getD i []=(squL h w)[i]:=by rw [List.getD,List.getElem?_eq_getElem hi]; rfl
      rw [eg]
      exact hh
   rw [e]
   walk_at "w"
   exact q _ ((s1.trans s2).trans s3)
end L2
namespace L2
open PySem PySem.Spec PyProof.Rows
end L2
namespace L2
open PySem PySem.Spec PyProof.Rows
local macro_rules | `(tactic| walk_at "w")=>`(tactic| (first | simp only [aF,nc,qk,kf,nh,jv,lB,ql,qg,m5,qj,if_true,if_false,Bool.false_eq_true,decide_true,decide_false,lx,ly,qi,j7,i6,lu,mX,lw,j5,mV,mW,j3,qf,j8,j9,kb,kc,kd,ke,ka,m6,m7,m8,mU,qh,Bool.not_true,Bool.not_false,a7,iV,bv,gJ,w_c,kM,gK,iq,gR,gS,w_b,w_not,jH,lZ,ir,iu,jI,iW,eY,l0,iv,jJ,iX,kN,jK,e5,iw,iy,iA,gq,gr,fG,fw,fz,dP,jL,jM,jN,jO,jP,jQ,jR,jS,jT,jU,jV,jW,l3,iB,fA,iC,l4,iD,gt,fB,jZ,j2,iE,gU,iF,
 List.getElem?_cons_zero,List.getElem?_cons_succ,Option.some.injEq,exists_eq_left',exists_eq_left,List.set_cons_zero,List.set_cons_succ,dN,V.int.injEq,V.bl.injEq,V.ref.injEq,V.str.injEq,List.append_nil,List.nil_append,List.cons_append] | dsimp only | skip))
def eB (K:PySem.W.Frag):Sp:=fun vs H Q _=>∃ (a l:Addr) (h w g st:Int) (cs:List Int),vs=[.ref a,.ref l,.int st]∧IsFl H a h w g∧0 < w∧w < 100∧H l=some (.lst (cs.map V.int))∧cs.length≤63∧
 ∀ (p:Addr) (H':Hp) (rs:List Int),Same H H'→H p=none→H' p=some (.lst (rs.map V.int))→rs.Pairwise (· < ·)→(∀ x,x∈rs↔RC h w cs st x)→Q (.ref p) H'
theorem tY {K:PySem.W.Frag} {vs:List V} {H:Hp} {Q:VK} {E:XK} (h:eB K vs H Q E):vs.length=3:=by
 obtain ⟨_,_,_,_,_,_,_,rfl,_⟩:=h; rfl
def ie (K:PySem.W.Frag):TS:=
 (tSeq (tIfS (tTest (tOp (cIn K true) (tVar 2) (tVar 1))) (tRet (tLst tNil)) tNext)
  (tSeq (tAsg (tLst (tCons (tVar 2) tNil)) (gName 3))
  (tSeq (tAsg (tC (.int 0)) (gName 4))
  (tSeq (qt (tTest (tOp (cCmp fun i j=>decide (i < j)) (tVar 4) (tCB kLen (tCons (tVar 3) tNil))))
  (tSeq (tFor (iList K (tCall (cY K) [] E0 (tCons (tVar 0) (tCons (tOp cIx (tVar 3) (tVar 4)) tNil)))) (gName 5)
  (tIfS (tAnd (tTest (tOp (cIn K false) (tVar 5) (tVar 1))) (tTest (tOp (cIn K true) (tVar 5) (tVar 3)))) (tDrop (tBM K "list" b4 (tVar 3) (tCons (tVar 5) tNil))) tNext))
  (tAsg (tOp cAdd (tVar 4) (tC (.int 1))) (gName 4))))
  (tRet (tCB lq (tCons (tVar 3) tNil)))))))
theorem tZ {K:PySem.W.Frag} {vs:List V} {H:Hp} {Q:VK} {E:XK} (h:eB K vs H Q E):ie K { nx:=fun _ H'=>Q .non H',rt:=Q } (start ["floor","cells","start","found","place","cell"] vs) H:=by
 obtain ⟨a,l,h,w,g,st,cs,rfl,ha,w0,w1,hl,hn,k⟩:=h
 show ie K _ [some (.ref a),some (.ref l),some (.int st),none,none,none] H
 unfold ie
 rw [aF,aT]
 walk_at "w"
 rw [tI hl]
 walk_at "w"
 by_cases hs:st∈cs
 · rw [if_neg (by simpa using hs)]
   walk_at "w"
   refine ⟨aC (by show (1:Nat)≤1000; decide),fun f hf=>?_⟩
   refine ⟨fun m σ H'=>∃ (fs:List Int) (pl:Nat) (cv:Option V),σ=[some (.ref a),some (.ref l),some (.int st),some (.ref f),some (.int pl),cv]∧Same H H'∧H' f=some (.lst (fs.map V.int))∧BI h w cs st fs pl∧m=cs.length - pl,
    ⟨_,[st],0,none,rfl,(Same.refl H).laid hf,ae,BI.start hs,rfl⟩,?_⟩
   rintro m σ H1 ⟨fs,pl,cv,rfl,s1,e1,B,rfl⟩
   have hfl:=B.len
   walk_at "w"
   rw [cE e1,List.length_map]
   walk_at "w"
   by_cases hp:pl < fs.length
   · rw [if_pos (by simpa using hp)]
     obtain ⟨x,hx⟩:∃ x,fs[pl]? =some x:=⟨fs[pl],by simp [hp]⟩
     have rx:RC h w cs st x:=B.rc x (List.mem_of_getElem? hx)
     refine ⟨fun σ H'=>∃ (fs:List Int) (cv:Option V),σ=[some (.ref a),some (.ref l),some (.int st),some (.ref f),some (.int ((pl:Int)+1)),cv]∧Same H H'∧H' f=some (.lst (fs.map V.int))∧BI h w cs st fs (pl+1),
      fun σ' H' ⟨fs',cv',e,s',e',B'⟩=>⟨_,by omega,fs',pl+1,cv',by rw [e]; rfl,s',e',B',rfl⟩,?_⟩
     walk_at "w"
     rw [vV e1]
     refine aQ (j6 (by omega) (by omega)) ?_
     walk_at "w"
     rw [show ((pl:Int)).toNat=pl from Int.toNat_natCast _,cN hx]
     refine ⟨a,h,w,g,x,rfl,s1 _ _ ha,w0,w1,fun b H2 s2 hb e2=>?_⟩
     have s12:=s1.trans s2
     refine ⟨b,rfl,⟨_,SqL.of e2⟩,cB (K:=K) (xs:=(besL h w x).map V.int) (fun i σ H'=>∃ (f2:List Int) (cv:Option V),σ=[some (.ref a),some (.ref l),some (.int st),some (.ref f),some (.int pl),cv]∧Same H H'∧H' b=some (.lst ((besL h w x).map V.int))∧H' f=some (.lst (f2.map V.int))∧BJ h w cs st fs pl ((besL h w x).take i) f2)
      ⟨fs,cv,rfl,s12,e2,s2 _ _ e1,BJ.zero B⟩ (fun i σ H' _ ⟨_,_,_,_,q,_⟩=>SqL.of q) ?_ ?_⟩
     · rintro i y σ H3 hy ⟨f2,cv2,rfl,s3,eb,ef,J⟩
       rw [List.getElem?_map] at hy
       cases hz:(besL h w x)[i]? with
       | none=>rw [hz] at hy; cases hy
       | some z=>
        rw [hz] at hy
        cases hy
        have hlen2:f2.length≤63:=Nat.le_trans (hJ J.nd fun x hx=>(J.rc x hx).mem) hn
        have hmem:z∈besL h w x:=List.mem_of_getElem? hz
        have htake:(besL h w x).take (i+1)=(besL h w x).take i++[z]:=by rw [List.take_add_one,hz]; rfl
        have J2:=J.more rx hmem
        rw [← htake] at J2
        walk_at "w"
        rw [aT]
        walk_at "w"
        rw [tH (s3 _ _ hl)]
        walk_at "w"
        have fin:∀ H4:Hp,H4 f=some (.lst ((addC cs f2 z).map V.int))→(∀ c,c≠f→H4 c=H3 c)→∃ (f2:List Int) (cv:Option V),[some (V.ref a),some (.ref l),some (.int st),some (.ref f),some (.int pl),some (.int z)]=[some (.ref a),some (.ref l),some (.int st),some (.ref f),some (.int pl),cv]∧Same H H4∧H4 b=some (.lst ((besL h w x).map V.int))∧H4 f=some (.lst (f2.map V.int))∧BJ h w cs st fs pl ((besL h w x).take (i+1)) f2:=fun H4 q1 q2=>
         ⟨_,_,rfl,fun c o e=>by rw [q2 c (ar e hf)]; exact s3 c o e,by rw [q2 b (fun e=>by rw [e] at hb; rw [e1] at hb; cases hb)]; exact eb,q1,J2⟩
        by_cases c1:z∈cs
        · rw [if_pos (by simpa using c1)]
          rw [tI ef]
          by_cases c2:z∈f2
          · simp only [c2,decide_true,Bool.not_true,if_neg Bool.false_ne_true,V.bl.injEq,exists_eq_left']
            refine fin H3 ?_ fun _ _=>rfl
            rw [ef,addC,if_neg (fun q=>q.2 c2)]
          · simp only [c2,decide_false,Bool.not_false,if_true,V.bl.injEq,exists_eq_left']
            walk_at "w"
            refine ⟨cC ef,?_⟩
            rw [iz ef]
            refine ⟨by rw [List.length_map]; exact aE (by omega),fin _ ?_ fun c hc=>ah hc⟩
            rw [ae,addC,if_pos ⟨c1,c2⟩]
            simp
        · rw [if_neg (by simpa using c1)]
          try simp only [if_neg Bool.false_ne_true]
          refine fin H3 ?_ fun _ _=>rfl
          rw [ef,addC,if_neg (fun q=>c1 q.1)]
     · rintro σ H3 ⟨f2,cv2,rfl,s3,eb,ef,J⟩
       rw [List.length_map,List.take_length] at J
       walk_at "w"
       exact ⟨f2,cv2,rfl,s3,ef,J.done B hx⟩
   · rw [if_neg (by simpa using hp)]
     walk_at "w"
     unfold lq
     dsimp only
     rw [e1]
     refine ⟨fs,rfl,by omega,fun rs p hpn pm ps=>?_⟩
     refine k p _ rs (s1.laid hpn) (s1.free hpn) ae (uN pm ps B.nd) fun x=>?_
     rw [pm.mem_iff]
     exact B.done hp x
 · rw [if_pos (by simpa using hs)]
   walk_at "w"
   refine ⟨Nat.zero_le _,fun p hp=>k p _ [] ((Same.refl H).laid hp) hp ae .nil fun x=>⟨(fun q=>nomatch q),fun r=>absurd (RC.st r) hs⟩⟩
theorem joinB_iff {h w:Int} {ms:List Int}:joinB h w ms=true↔(ms=[]∨(ms.Pairwise (· < ·)∧∀ x∈ms,RC h w ms (ms.headD 0) x)):=by
 unfold joinB
 exact @decide_eq_true_iff _ (Classical.propDecidable _)
def bC (K:PySem.W.Frag) (c:RCl RK):Sp:=fun vs H Q E=>∃ k,b9 K c k vs H Q E
theorem kt {K:PySem.W.Frag} {c:RCl RK} {vs:List V} {H:Hp} {Q:VK} {E:XK} (h:bC K c vs H Q E):vs.length=2:=by
 obtain ⟨_,_,_,_,_,_,_,_,_,_,_,_,rfl,_⟩:=h; rfl
def cf (K:PySem.W.Frag) (c:RCl RK):TS:=
 (tRet (tOrV (tOp (cEq K) (tVar 1) (tLst tNil)) (tOp (cEq K) (tCall (eB K) [] E0 (tCons (tFldK c (tVar 0) "floor") (tCons (tVar 1) (tCons (tOp cIx (tVar 1) (tC (.int 0))) tNil)))) (tVar 1))))
theorem ku {K:PySem.W.Frag} {c:RCl RK} {vs:List V} {H:Hp} {Q:VK} {E:XK} (h:bC K c vs H Q E):cf K c { nx:=fun _ H'=>Q .non H',rt:=Q } (start ["self","cells"] vs) H:=by
 obtain ⟨k,r,p,C,ws,cs,ms,n,m,h,w,g,rfl,x,ha,F,hC,hn,q⟩:=h
 obtain ⟨h0,h1',w0,w1,m16,g0,g1⟩:=id F
 obtain ⟨dx,W,C',h1,h2,h3⟩:=x.ex
 show cf K c _ [some (.ref r),some (.ref C)] H
 unfold cf
 walk_at "w"
 refine ⟨aC (by show (0:Nat)≤1000; decide),fun l hl=>?_⟩
 have s1:Same H (upd H l (.lst [])):=(Same.refl H).laid hl
 have el:(upd H l (.lst [])) l=some (.lst (([]:List Int).map V.int)):=ae
 generalize upd H l (.lst [])=H1 at*
 refine tJ (s1 _ _ hC) el ?_
 walk_at "w"
 cases ms with
 | nil=>
  have e:joinB h w []=true:=joinB_iff.mpr (.inl rfl)
  have:=q _ s1
  rw [e] at this
  rw [decide_eq_true rfl,if_pos rfl]
  exact this
 | cons z zs=>
  rw [decide_eq_false (by simp),if_neg (by decide)]
  refine fldE rfl x.ok (s1 _ _ h1) (v:=.ref p) (by rfl) ?_
  walk_at "w"
  refine ixL (s1 _ _ hC) (v:=V.int z) (gp (j:=0) rfl) ?_
  walk_at "w"
  refine ⟨p,C,h,w,g,z,z::zs,rfl,s1 _ _ ha,by omega,by omega,s1 _ _ hC,hn,fun u H2 rs s2 hu eu rise mem=>?_⟩
  refine tJ eu (s2 _ _ (s1 _ _ hC)) ?_
  have e:decide (rs=z::zs)=joinB h w (z::zs):=by
   rw [Bool.eq_iff_iff,decide_eq_true_eq,joinB_iff]
   constructor
   · intro e
     subst e
     exact .inr ⟨rise,fun x hx=>(mem x).mp hx⟩
   · rintro (e | ⟨rise2,all⟩)
     · cases e
     · exact mY rise rise2 fun y=>⟨fun hy=>((mem y).mp hy).mem,fun hy=>(mem y).mpr (all y hy)⟩
  rw [e]
  exact q _ (s1.trans s2)
def dE (K:PySem.W.Frag) (c:RCl RK):Sp:=bU K c .Joined
theorem nP {K:PySem.W.Frag} {c:RCl RK} {vs:List V} {H:Hp} {Q:VK} {E:XK} (h:dE K c vs H Q E):vs.length=2:=by
 obtain ⟨_,_,_,_,_,_,_,_,_,_,_,rfl,_⟩:=h; rfl
def dF (K:PySem.W.Frag) (c:RCl RK):TS:=
 (tRet (aO c c.ok "is_joined" (b9 K c) (tVar 0) (tCons (aO c c.ok "marked" (bx K c) (tVar 0) (tCons (tVar 1) tNil)) tNil)))
theorem va {xs cs:List Int} {m:Int} (hn:cs.length≤63):(mkAt xs cs m).length≤63:=by
 unfold mkAt
 exact Nat.le_trans (List.length_filter_le _ _) hn
theorem nQ {K:PySem.W.Frag} {c:RCl RK} {vs:List V} {H:Hp} {Q:VK} {E:XK} (h:dE K c vs H Q E):dF K c { nx:=fun _ H'=>Q .non H',rt:=Q } (start ["self","filling"] vs) H:=by
 obtain ⟨r,p,f,ws,cs,xs,n,m,h,w,g,rfl,x,ha,F,hf,hC,hx,q⟩:=h
 obtain ⟨dx,W,C,h1,h2,h3⟩:=x.ex
 show dF K c _ [some (.ref r),some (.ref f)] H
 unfold dF
 walk_at "w"
 refine methE rfl x.ok h1 (by rfl) ?_
 walk_at "w"
 refine methE rfl x.ok h1 (by rfl) ?_
 walk_at "w"
 refine ⟨r,p,f,ws,cs,xs,n,m,rfl,x,hf,hC,fun l H1 s1 hl el=>?_⟩
 exact ⟨r,p,l,ws,cs,_,n,m,h,w,g,rfl,x.same s1,s1 _ _ ha,F,el,va hC.1,fun H2 s2=>q _ (s1.trans s2)⟩
theorem vN {H:Hp} {i j l:Nat} {x y z:V} {σ:St} {k:St→Hp→Prop}:gCons (gName i) (gCons (gName j) (gCons (gName l) gNil)) [x,y,z] σ H k=k (((σ.set i (some x)).set j (some y)).set l (some z)) H:=by
 refine propext ⟨fun h=>?_,fun h=>⟨x,_,rfl,y,_,rfl,z,_,rfl,rfl,h⟩⟩
 obtain ⟨x',_,e1,y',_,e2,z',_,e3,e4,h⟩:=h
 cases e1; cases e2; cases e3
 exact h
def bM (K:PySem.W.Frag) (c:RCl RK):Sp:=cF K c .Ring
theorem i9 {K:PySem.W.Frag} {c:RCl RK} {vs:List V} {H:Hp} {Q:VK} {E:XK} (h:bM K c vs H Q E):vs.length=3:=by
 obtain ⟨_,_,_,_,_,_,_,_,_,_,_,_,rfl,_⟩:=h; rfl
def bN (K:PySem.W.Frag) (c:RCl RK):TS:=
 (tRet (tOp (cEq K) (tCB kLen (tCons (tComp [none,none,some 1] (iList K (tCall (cY K) [] E0 (tCons (tFldK c (tVar 0) "floor") (tCons (tVar 2) tNil)))) (gName 1) (tTest (tOp (cIn K false) (tVar 1) (tVar 2))) (tVar 1)) tNil)) (tC (.int 2))))
theorem wI (h w c:Int):(besL h w c).length≤4:=by
 unfold besL
 repeat rw [List.length_append]
 split <;> split <;> split <;> split <;> simp
theorem ja {K:PySem.W.Frag} {c:RCl RK} {vs:List V} {H:Hp} {Q:VK} {E:XK} (h:bM K c vs H Q E):bN K c { nx:=fun _ H'=>Q .non H',rt:=Q } (start ["self","cells","cell"] vs) H:=by
 obtain ⟨r,p,C,ws,cs,ms,n,m,h,w,g,z,rfl,x,ha,F,hC,hn,q⟩:=h
 obtain ⟨h0,h1',w0,w1,m16,g0,g1⟩:=id F
 obtain ⟨dx,W,C',h1,h2,h3⟩:=x.ex
 show bN K c _ [some (.ref r),some (.ref C),some (.int z)] H
 unfold bN
 walk_at "w"
 refine fldE rfl x.ok h1 (v:=.ref p) (by rfl) ?_
 walk_at "w"
 refine ⟨p,h,w,g,z,rfl,ha,by omega,by omega,fun b H2 s2 hb e2=>?_⟩
 have bl:=wI h w z
 refine ⟨b,rfl,⟨_,SqL.of e2⟩,?_⟩
 refine d6 (xs:=besL h w z) (fun y=>decide (y∈ms)) (fun y=>y) (by omega) (SqL.of e2) ?_ ?_ ?_
 · intro y H3 R hy s3 k3
   show tTest _ [none,some (.int y),some (.ref C)] H3 R
   walk_at "w"
   rw [tH (s3 _ _ (s2 _ _ hC))]
   exact ⟨_,rfl,k3 _ (Same.refl _)⟩
 · intro y H3 Q3 hy hb s3 k3
   exact ⟨_,rfl,k3 _ (Same.refl _)⟩
 · intro l H3 hl s3 el
   rw [List.map_id'] at el
   walk_at "w"
   rw [cE el,List.length_map]
   walk_at "w"
   have:=q _ (s2.trans s3)
   unfold twoB at this
   have e:decide ((((besL h w z).filter fun y=>decide (y∈ms)).length:Int)=2)=decide (((besL h w z).filter fun y=>decide (y∈ms)).length=2):=by
    rw [Bool.eq_iff_iff,decide_eq_true_eq,decide_eq_true_eq]
    omega
   rw [e]
   exact this
def fk (K:PySem.W.Frag) (c:RCl RK):Sp:=bU K c .Ring
theorem pR {K:PySem.W.Frag} {c:RCl RK} {vs:List V} {H:Hp} {Q:VK} {E:XK} (h:fk K c vs H Q E):vs.length=2:=by
 obtain ⟨_,_,_,_,_,_,_,_,_,_,_,rfl,_⟩:=h; rfl
def fm (K:PySem.W.Frag) (c:RCl RK):TS:=
 (tSeq (tAsg (aO c c.ok "marked" (bx K c) (tVar 0) (tCons (tVar 1) tNil)) (gName 2))
  (tRet (tAndV (aO c c.ok "is_joined" (b9 K c) (tVar 0) (tCons (tVar 2) tNil)) (tCB kAll (tCons (tComp [none,none,some 2,some 0] (iList K (tVar 2)) (gName 1) tTrue (aO c c.ok "has_two_beside" (cF K c) (tVar 3) (tCons (tVar 2) (tCons (tVar 1) tNil)))) tNil)))))
theorem pS {K:PySem.W.Frag} {c:RCl RK} {vs:List V} {H:Hp} {Q:VK} {E:XK} (h:fk K c vs H Q E):fm K c { nx:=fun _ H'=>Q .non H',rt:=Q } (start ["self","filling","cells"] vs) H:=by
 obtain ⟨r,p,f,ws,cs,xs,n,m,h,w,g,rfl,x,ha,F,hf,hC,hx,q⟩:=h
 obtain ⟨dx,W,C,h1,h2,h3⟩:=x.ex
 show fm K c _ [some (.ref r),some (.ref f),none] H
 unfold fm
 walk_at "w"
 refine methE rfl x.ok h1 (by rfl) ?_
 walk_at "w"
 refine ⟨r,p,f,ws,cs,xs,n,m,rfl,x,hf,hC,fun l H1 s1 hl el=>?_⟩
 have hml:=va (xs:=xs) (m:=m) hC.1
 have q1:∀ H',Same H H'→Q (.bl (joinB h w (mkAt xs cs m)&&(mkAt xs cs m).all (twoB h w (mkAt xs cs m)))) H':=q
 generalize mkAt xs cs m=ms at*
 walk_at "w"
 refine methE rfl x.ok (s1 _ _ h1) (by rfl) ?_
 walk_at "w"
 refine ⟨r,p,l,ws,cs,ms,n,m,h,w,g,rfl,x.same s1,s1 _ _ ha,F,el,hml,fun H2 s2=>?_⟩
 have s12:=s1.trans s2
 walk_at "w"
 cases hj:joinB h w ms with
 | false=>
  rw [hj] at q1
  first | exact iteF (q1 _ s12) | exact q1 _ s12
 | true=>
  rw [hj] at q1
  refine iteT ?_
  refine ⟨⟨_,SqL.of (s2 _ _ el)⟩,?_⟩
  refine bX (xs:=ms.map V.int) (fun _=>true) (fun i=>.bl (twoB h w ms (ms.getD i 0))) (by rw [List.length_map]; omega) (SqL.of (s2 _ _ el)) ?_ ?_ ?_
  · intro i y H3 R hy s3 k3
    exact k3 _ (Same.refl _)
  · intro i y H3 Q3 hy hb s3 k3
    rw [List.getElem?_map] at hy
    cases e:ms[i]? with
    | none=>rw [e] at hy; cases hy
    | some z=>
     rw [e] at hy
     cases hy
     have s13:=s12.trans s3
     have eg:ms.getD i 0=z:=by rw [List.getD,e]; rfl
     show aO _ _ _ _ _ _ [none,some (.int z),some (.ref l),some (.ref r)] H3 Q3
     refine methE rfl x.ok (s13 _ _ h1) (by rfl) ?_
     walk_at "w"
     refine ⟨r,p,l,ws,cs,ms,n,m,h,w,g,z,rfl,x.same s13,s13 _ _ ha,F,s3 _ _ (s2 _ _ el),hml,fun H4 s4=>?_⟩
     have:=k3 H4 s4
     rw [eg] at this
     exact this
  · intro l2 H3 hl2 s3 el2
    rw [aV,List.length_map] at el2
    refine j4 (bs:=(List.range ms.length).map fun i=>twoB h w ms (ms.getD i 0)) (by rw [el2,List.map_map]; rfl) ?_
    have e:((List.range ms.length).map fun i=>twoB h w ms (ms.getD i 0)).all id=ms.all (twoB h w ms):=by
     have em:(List.range ms.length).map (fun i=>ms.getD i 0)=ms:=by
      refine List.ext_getElem (by simp) fun i h1 h2=>?_
      simp at h1
      simp [List.getD,List.getElem?_eq_getElem h1]
     have e2:(List.range ms.length).map (fun i=>twoB h w ms (ms.getD i 0))=ms.map (twoB h w ms):=by
      rw [← em,List.map_map,em]
      rfl
     rw [e2,List.all_map]
     rfl
    rw [e]
    exact q1 _ (s12.trans s3)
section
variable {K:PySem.W.Frag} {g:TG} {σ:St} {H:Hp} {ta:TA} {Q:VK} {ix:List (Option Nat)} {tt:TT} {te:TE}
theorem sV:tComp ix (iZip K ta) g tt te σ H Q=ta σ H fun vs H1=>∃ a b,vs=[.ref a,.ref b]∧(∃ xs,SqL K H1 a xs)∧(∃ ys,SqL K H1 b ys)∧CompR (Itz K a b) g tt te (fun l H'=>Q (.ref l) H') (subσ ix σ) H1:=rfl
theorem vb {a b:Addr} {xs ys:List V} {fin:Addr→Hp→Prop} {σ0:St} {H1:Hp} {k1 k2:Nat} (f:Nat→V) (hn:xs.length≤900) (hlen:xs.length=ys.length) (hne:k1≠k2) (hq1:SqL K H1 a xs) (hq2:SqL K H1 b ys)
  (he:∀ (i:Nat) x y H Q,xs[i]? =some x→ys[i]? =some y→Same H1 H→(∀ H',Same H H'→Q (f i) H')→te ((σ0.set k1 (some x)).set k2 (some y)) H Q)
  (hd:∀ l H,H1 l=none→Same H1 H→H l=some (.lst ((List.range xs.length).map f))→fin l H):
  CompR (Itz K a b) (gTup K 2 (gCons (gName k1) (gCons (gName k2) gNil))) tTrue te fin σ0 H1:=by
 intro l hl
 have hP0:(upd H1 l (.lst [])) l=some (.lst ((List.range 0).map f)):=by rw [ae]; rfl
 refine ⟨fun i m σ H=>m=xs.length - i∧i≤xs.length∧(σ=σ0∨∃ c1 c2,σ=(σ0.set k1 c1).set k2 c2)∧Same H1 H∧H l=some (.lst ((List.range i).map f)),⟨xs.length,by simp,Nat.zero_le _,.inl rfl,(Same.refl H1).laid hl,hP0⟩,?_⟩
 rintro i m σ H ⟨rfl,hi,hσ,s1,el⟩
 by_cases hlt:i < xs.length
 · have hlt2:i < ys.length:=by omega
   refine .inr ⟨⟨xs,ys,xs[i],ys[i],s1.seq hq1,s1.seq hq2,by simp [hlt],by simp [hlt2]⟩,fun σ' H'=>(σ'=σ0∨∃ c1 c2,σ'=(σ0.set k1 c1).set k2 c2)∧Same H1 H'∧H' l=some (.lst ((List.range (i+1)).map f)),fun σ' H' p'=>⟨xs.length - (i+1),by omega,rfl,hlt,p'⟩,fun v H' y=>?_⟩
   obtain ⟨T,x,y,rfl,hT,rfl,e1,e2⟩:=y
   have hx:=e1 xs (s1.seq hq1)
   have hy:=e2 ys (s1.seq hq2)
   have sT:Same H (upd H T (.tup [x,y])):=(Same.refl H).laid hT
   refine ⟨T,_,rfl,SqT.of ae,rfl,_,_,rfl,_,_,rfl,rfl,?_⟩
   have e:(σ.set k1 (some x)).set k2 (some y)=(σ0.set k1 (some x)).set k2 (some y):=by
    rcases hσ with rfl | ⟨c1,c2,rfl⟩
    · rfl
    · rw [List.set_comm _ _ (Ne.symm hne),List.set_set,List.set_set,List.set_comm _ _ hne]
   show tTrue ((σ.set k1 (some x)).set k2 (some y)) _ _
   rw [e,e5,if_pos rfl]
   have s12:=s1.trans sT
   refine he i x y _ _ hx hy s12 fun H3 s3=>⟨_,s3 _ _ (sT _ _ el),by rw [List.length_map,List.length_range]; exact aE (by omega),.inr ⟨_,_,rfl⟩,(s12.trans s3).own hl,?_⟩
   rw [ae,List.range_succ,List.map_append]
   rfl
 · have e:i=xs.length:=by omega
   subst e
   exact .inl ⟨⟨xs,ys,s1.seq hq1,s1.seq hq2,.inl (Nat.le_refl _)⟩,hd l H hl s1 el⟩
end
theorem sr {n:Nat} {b:Nat→Bool}:(List.range n).map (fun i=>V.bl (b i))=((List.range n).map b).map V.bl:=by rw [List.map_map]; rfl
theorem vc {n:Nat} {b:Nat→Bool}:((List.range n).map b).all id=(List.range n).all b:=by rw [List.all_map]; rfl
def cluB (cl xs:List Int):Bool:=(List.range cl.length).all fun i=>decide (cl.getD i 0=0)||decide (cl.getD i 0=xs.getD i 0)
noncomputable def rowsB (h w:Int) (rows:List RR) (xs:List Int):Bool:=rows.all fun r=>hoB r.k h w r.cs r.n r.m xs
noncomputable def metB (h w g:Int) (rows:List RR) (cl xs:List Int):Bool:=filB 1 g (h*w).toNat xs&&(cluB cl xs&&rowsB h w rows xs)
def gd (K:PySem.W.Frag) (c:RCl RK) (d:RCl PzK) (_:PzK):Sp:=fun vs H Q _=>∃ (P L G f:Addr) (h w g:Int) (rows:List RR) (cl xs:List Int),vs=[.ref P,.ref f]∧IsPz H c d P L G h w g rows cl∧H f=some (.lst (xs.map V.int))∧xs.length=cl.length∧∀ H',Same H H'→Q (.bl (cluB cl xs)) H'
def cg (K:PySem.W.Frag) (c:RCl RK) (d:RCl PzK):Sp:=gd K c d .Puzzle
theorem kx {K:PySem.W.Frag} {c:RCl RK} {d:RCl PzK} {vs:List V} {H:Hp} {Q:VK} {E:XK} (h:cg K c d vs H Q E):vs.length=2:=by
 obtain ⟨_,_,_,_,_,_,_,_,_,_,rfl,_⟩:=h; rfl
def ci (K:PySem.W.Frag) (c:RCl RK) (d:RCl PzK):TS:=
 (tRet (tCB kAll (tCons (tComp [none,none,none] (iZip K (tCons (tFldK d (tVar 0) "given") (tCons (tVar 1) tNil))) (gTup K 2 (gCons (gName 1) (gCons (gName 2) gNil))) tTrue (tOrV (tOp (cEq K) (tVar 1) (tC (.int 0))) (tOp (cEq K) (tVar 1) (tVar 2)))) tNil)))
theorem ky {K:PySem.W.Frag} {c:RCl RK} {d:RCl PzK} {vs:List V} {H:Hp} {Q:VK} {E:XK} (h:cg K c d vs H Q E):ci K c d { nx:=fun _ H'=>Q .non H',rt:=Q } (start ["self","filling"] vs) H:=by
 obtain ⟨P,L,G,f,h,w,g,rows,cl,xs,rfl,x,hf,hl,q⟩:=h
 obtain ⟨dx,p,rs,h1,h2,h3⟩:=x.ex
 have hcl:cl.length≤16:=by have:=x.C.len; have:=x.R.F.m; omega
 show ci K c d _ [some (.ref P),some (.ref f)] H
 unfold ci
 walk_at "w"
 rw [sV,eY]
 refine fldE (k:=.Puzzle) rfl x.ok h1 (v:=.ref G) (by rfl) ?_
 walk_at "w"
 refine ⟨G,f,rfl,⟨_,SqL.of x.gv⟩,⟨_,SqL.of hf⟩,?_⟩
 refine vb (xs:=cl.map V.int) (ys:=xs.map V.int) (fun i=>.bl (decide (cl.getD i 0=0)||decide (cl.getD i 0=xs.getD i 0))) (by rw [List.length_map]; omega) (by simp [hl]) (by decide) (SqL.of x.gv) (SqL.of hf) ?_ ?_
 · intro i u v H1 Q1 hu hv s1 k1
   obtain ⟨cz,hcz,rfl⟩:=bf hu
   obtain ⟨z,hz,rfl⟩:=bf hv
   have q1:=k1 _ (Same.refl H1)
   rw [cN hcz,cN hz] at q1
   show tOrV _ _ [none,some (.int cz),some (.int z)] H1 Q1
   walk_at "w"
   cases hb:decide (cz=0) with
   | true=>
    rw [hb,Bool.true_or] at q1
    exact iteT q1
   | false=>
    rw [hb,Bool.false_or] at q1
    exact iteF q1
 · intro l H1 hl1 s1 el
   rw [sr] at el
   refine j4 el ?_
   rw [vc,List.length_map]
   exact q _ s1
theorem vO {least g:Int} {n:Nat} {xs:List Int} (h:filB least g n xs=true):xs.length=n∧∀ x∈xs,least≤x∧x≤g:=by
 unfold filB at h
 rw [Bool.and_eq_true,decide_eq_true_eq,List.all_eq_true] at h
 refine ⟨h.1,fun x hx=>?_⟩
 have:=h.2 x hx
 rw [Bool.and_eq_true,decide_eq_true_eq,decide_eq_true_eq] at this
 exact this
theorem RR.cin {r:RR} {h w g:Int} (O:r.Ok h w g) (F:FlOk h w g):jz r.cs (h*w).toNat:=by
 obtain ⟨h0,h1,w0,w1,m16,g0,g1⟩:=id F
 have mpos:0≤h*w:=Int.mul_nonneg (by omega) (by omega)
 cases hk:allK r.k with
 | false=>
  obtain ⟨c1,c2,c3,c4,e⟩:=O.cl.told hk
  rw [e]
  refine ⟨by rw [List.length_map]; omega,fun c hc=>?_⟩
  obtain ⟨n,hn,rfl⟩:=List.mem_map.mp hc
  have:=c3 n hn
  omega
 | true=>
  obtain ⟨_,e⟩:=O.cl.all hk
  rw [e]
  refine ⟨by rw [fC]; omega,fun c hc=>?_⟩
  have:=sQ hc
  omega
def gu (K:PySem.W.Frag) (c:RCl RK) (d:RCl PzK) (_:PzK):Sp:=fun vs H Q _=>∃ (P L G f:Addr) (h w g:Int) (rows:List RR) (cl xs:List Int),vs=[.ref P,.ref f]∧IsPz H c d P L G h w g rows cl∧H f=some (.lst (xs.map V.int))∧xs.length≤100∧∀ H',Same H H'→Q (.bl (metB h w g rows cl xs)) H'
def dG (K:PySem.W.Frag) (c:RCl RK) (d:RCl PzK):Sp:=gu K c d .Puzzle
theorem nR {K:PySem.W.Frag} {c:RCl RK} {d:RCl PzK} {vs:List V} {H:Hp} {Q:VK} {E:XK} (h:dG K c d vs H Q E):vs.length=2:=by
 obtain ⟨_,_,_,_,_,_,_,_,_,_,rfl,_⟩:=h; rfl
def gZ (K:PySem.W.Frag) (c:RCl RK) (d:RCl PzK):TS:=
 (tRet (tCB kAll (tCons (tComp [none,none,some 1] (iList K (tFldK d (tVar 0) "laws")) (gName 1) tTrue (aO c c.ok "holds" (bU K c) (tVar 1) (tCons (tVar 2) tNil))) tNil)))
def dH (K:PySem.W.Frag) (c:RCl RK) (d:RCl PzK):TS:=
 (tSeq (tIfS (tOr (tNot (tB (tCall (bz K) [] E0 (tCons (tFldK d (tVar 0) "floor") (tCons (tVar 1) (tCons (tC (.int 1)) tNil)))))) (tNot (tB (aO d d.ok "has_clues" (gd K c d) (tVar 0) (tCons (tVar 1) tNil))))) (tRet (tC (.bl false))) tNext)
  (gZ K c d))
theorem t3 {K:PySem.W.Frag} {c:RCl RK} {H:Hp} {p L f:Addr} {rs:List Addr} {rows:List RR} {h w g:Int} {xs:List Int} {fin:Addr→Hp→Prop} (X:IsRules H c p L rs rows) (R:gY c h w g rows) (hp:IsFl H p h w g) (hf:H f=some (.lst (xs.map V.int))) (hl:xs.length=(h*w).toNat) (hx:∀ x∈xs,0≤x∧x≤1000)
  (hd:∀ l H',H l=none→Same H H'→H' l=some (.lst ((rows.map fun r=>hoB r.k h w r.cs r.n r.m xs).map V.bl))→fin l H'):CompR (Itl K L) (gName 1) tTrue (aO c c.ok "holds" (bU K c) (tVar 1) (tCons (tVar 2) tNil)) fin [none,none,some (.ref f)] H:=by
 have hn:=R.n
 have hlen:=X.len
 refine bX (xs:=rs.map V.ref) (fun _=>true) (fun i=>.bl ((rows.map fun r=>hoB r.k h w r.cs r.n r.m xs).getD i true)) (by rw [List.length_map]; omega) (SqL.of X.top) ?_ ?_ ?_
 · intro i x H1 R hx s1 k1
   exact k1 _ (Same.refl _)
 · intro i x H1 Q1 hi hb s1 k1
   rw [List.getElem?_map] at hi
   cases e:rs[i]? with
   | none=>rw [e] at hi; cases hi
   | some r=>
    rw [e] at hi
    cases hi
    have hi:=(List.getElem?_eq_some_iff.mp e).1
    have er:rows[i]? =some rows[i]:=List.getElem?_eq_getElem (by omega)
    have X1:=X.at_ i r _ e er
    obtain ⟨dx,W,C,h1,h2,h3⟩:=X1.ex
    have eg:(rows.map fun r=>hoB r.k h w r.cs r.n r.m xs).getD i true=hoB rows[i].k h w rows[i].cs rows[i].n rows[i].m xs:=by rw [List.getD,List.getElem?_map,er]; rfl
    rw [eg] at k1
    have O:=R.ok _ (List.mem_of_getElem? er)
    show aO c c.ok "holds" _ _ _ [none,some (.ref r),some (.ref f)] H1 Q1
    refine methE (k:=rows[i].k) rfl X1.ok (s1 _ _ h1) (by rfl) ?_
    walk_at "w"
    exact ⟨r,p,f,_,_,xs,_,_,h,w,g,rfl,X1.same s1,s1 _ _ hp,R.F,s1 _ _ hf,by rw [hl]; exact RR.cin O R.F,hx,k1⟩
 · intro l H1 hl1 s1 el
   refine hd l H1 hl1 s1 ?_
   rw [el,aV,List.length_map,hlen]
   congr 2
   refine List.ext_getElem? fun i=>?_
   rw [List.getElem?_map,List.getElem?_map,List.getElem?_map]
   by_cases h:i < rows.length
   · rw [List.getElem?_range h,List.getElem?_eq_getElem h]
     simp [List.getD,h]
   · rw [List.getElem?_eq_none (by simpa using h),List.getElem?_eq_none (by omega)]; rfl
theorem nS {K:PySem.W.Frag} {c:RCl RK} {d:RCl PzK} {vs:List V} {H:Hp} {Q:VK} {E:XK} (h:dG K c d vs H Q E):dH K c d { nx:=fun _ H'=>Q .non H',rt:=Q } (start ["self","filling"] vs) H:=by
 obtain ⟨P,L,G,f,h,w,g,rows,cl,xs,rfl,x,hf,hl,q⟩:=h
 obtain ⟨dx,p,rs,h1,h2,h3⟩:=x.ex
 have hg:=x.R.F.g1
 show dH K c d _ [some (.ref P),some (.ref f)] H
 unfold dH
 rw [aF,aT]
 walk_at "w"
 refine fldE (k:=.Puzzle) rfl x.ok h1 (v:=.ref p) (by rfl) ?_
 walk_at "w"
 refine ⟨p,f,h,w,g,1,xs,rfl,h2,x.R.F,hf,hl,fun H1 s1=>?_⟩
 unfold metB at q
 cases hb:filB 1 g (h*w).toNat xs with
 | false=>
  rw [hb,Bool.false_and] at q
  refine ⟨false,rfl,iteT ?_⟩
  walk_at "w"
  exact q _ s1
 | true=>
  rw [hb,Bool.true_and] at q
  obtain ⟨b1,b2⟩:=vO hb
  refine ⟨true,rfl,iteF ?_⟩
  walk_at "w"
  refine methE (k:=.Puzzle) rfl x.ok (s1 _ _ h1) (by rfl) ?_
  walk_at "w"
  refine ⟨P,L,G,f,h,w,g,rows,cl,xs,rfl,x.same s1,s1 _ _ hf,by rw [b1,x.C.len],fun H2 s2=>?_⟩
  have s12:=s1.trans s2
  cases hc:cluB cl xs with
  | false=>
   rw [hc,Bool.false_and] at q
   refine ⟨false,rfl,iteT ?_⟩
   walk_at "w"
   exact q _ s12
  | true=>
   rw [hc,Bool.true_and] at q
   refine ⟨true,rfl,iteF ?_⟩
   unfold gZ
   walk_at "w"
   refine fldE (k:=.Puzzle) rfl x.ok (s12 _ _ h1) (v:=.ref L) (by rfl) ?_
   refine ⟨L,rfl,⟨_,SqL.of (s12 _ _ h3.top)⟩,?_⟩
   refine t3 (h3.same s12) x.R (s12 _ _ h2) (s12 _ _ hf) b1 (fun y hy=>by have:=b2 y hy; omega) fun l H3 hl3 s3 el=>?_
   refine j4 el ?_
   have ea:(rows.map fun r=>hoB r.k h w r.cs r.n r.m xs).all id=rowsB h w rows xs:=by unfold rowsB; rw [List.all_map]; rfl
   rw [ea]
   exact q _ (s12.trans s3)
theorem rp {α:Type} (F:Int→α) (ss:List Int):(List.range ss.length).map (fun i=>F (ss.getD i 0))=ss.map F:=by
 refine List.ext_getElem? fun i=>?_
 rw [List.getElem?_map,List.getElem?_map]
 by_cases h:i < ss.length
 · rw [List.getElem?_range h,List.getElem?_eq_getElem h]
   simp [List.getD,h]
 · rw [List.getElem?_eq_none (by simpa using h),List.getElem?_eq_none (by omega)]; rfl
def extL (fs:List (List Int)) (ss:List Int):List (List Int):=fs.flatMap fun f=>ss.map fun s=>f++[s]
def bt (sss:List (List Int)):List (List Int):=sss.foldl extL [[]]
def prodL (sss:List (List Int)):Nat:=sss.foldl (fun n ss=>n*ss.length) 1
theorem kj (ss:List Int):∀ fs:List (List Int),(extL fs ss).length=fs.length*ss.length
 | []=>by simp [extL]
 | f::r=>by
  have ih:=kj ss r
  unfold extL at ih ⊢
  rw [List.flatMap_cons,List.length_append,ih,List.length_map,List.length_cons,Nat.succ_mul,Nat.add_comm]
theorem rq (fs gs:List (List Int)) (ss:List Int):extL (fs++gs) ss=extL fs ss++extL gs ss:=by
 unfold extL; rw [List.flatMap_append]
theorem rz (f:List Int) (ss:List Int):extL [f] ss=ss.map fun s=>f++[s]:=by
 unfold extL; simp
theorem rA:∀ (sss fs:List (List Int)),(sss.foldl extL fs).length=sss.foldl (fun n ss=>n*ss.length) fs.length
 | [],_=>rfl
 | ss::r,fs=>by
  rw [List.foldl_cons,rA r,List.foldl_cons,kj]
theorem ig (sss:List (List Int)):(bt sss).length=prodL sss:=rA sss [[]]
theorem sW:∀ (sss:List (List Int)) (n:Nat),(∀ ss∈sss,1≤ss.length)→n≤sss.foldl (fun n ss=>n*ss.length) n
 | [],_,_=>Nat.le_refl _
 | ss::r,n,h=>by
  rw [List.foldl_cons]
  exact Nat.le_trans (Nat.le_mul_of_pos_right n (h ss List.mem_cons_self)) (sW r _ fun x hx=>h x (List.mem_cons_of_mem _ hx))
theorem pj {sss:List (List Int)} (i:Nat) (h:∀ ss∈sss,1≤ss.length):prodL (sss.take i)≤prodL sss:=by
 have e:prodL sss=(sss.drop i).foldl (fun n ss=>n*ss.length) (prodL (sss.take i)):=by
  unfold prodL
  rw [← List.foldl_append,List.take_append_drop]
 rw [e]
 exact sW _ _ fun x hx=>h x (List.mem_of_mem_drop hx)
theorem db {α:Type} {l:List α} {i:Nat} {x:α} (h:l[i]? =some x):l.take (i+1)=l.take i++[x]:=by
 rw [List.take_succ,h]; rfl
theorem pk {sss:List (List Int)} {i:Nat} {ss:List Int} (h:sss[i]? =some ss):bt (sss.take (i+1))=extL (bt (sss.take i)) ss:=by
 unfold bt
 rw [db h,List.foldl_append]; rfl
theorem rB {sss:List (List Int)} {i:Nat} {ss:List Int} (h:sss[i]? =some ss):prodL (sss.take (i+1))=prodL (sss.take i)*ss.length:=by
 unfold prodL
 rw [db h,List.foldl_append]; rfl
theorem pp:∀ (sss fs:List (List Int)) (n:Nat),(∀ f∈fs,f.length=n)→∀ f∈sss.foldl extL fs,f.length=n+sss.length
 | [],_,_,h,f,hf=>h f hf
 | ss::r,fs,n,h,f,hf=>by
  have:=pp r (extL fs ss) (n+1) (fun f hf=>by
   unfold extL at hf
   obtain ⟨g,hg,hf⟩:=List.mem_flatMap.mp hf
   obtain ⟨s,_,rfl⟩:=List.mem_map.mp hf
   rw [List.length_append,h g hg]; rfl) f hf
  rw [this,List.length_cons]; omega
theorem ge {sss:List (List Int)} {f:List Int} (h:f∈bt sss):f.length=sss.length:=by
 have:=pp sss [[]] 0 (fun f hf=>by rw [List.mem_singleton.mp hf]; rfl) f h
 omega
theorem IsLL.app {H:Hp} {l:Addr} {as bs:List Addr} {xss yss:List (List Int)} (x:IsLL H l as xss) (nl:l∉as) (nb:l∉bs) (len:bs.length=yss.length) (at2:∀ (j:Nat) (a:Addr) (ys:List Int),bs[j]? =some a→yss[j]? =some ys→H a=some (.lst (ys.map V.int))):
  IsLL (upd H l (.lst (as.map V.ref++bs.map V.ref))) l (as++bs) (xss++yss):=by
 have hx:=x.len
 refine ⟨by rw [ae,List.map_append],by rw [List.length_append,List.length_append,x.len,len],fun j a ys h1 h2=>?_⟩
 by_cases hj:j < as.length
 · rw [List.getElem?_append_left hj] at h1
   rw [List.getElem?_append_left (by omega)] at h2
   have ne:a≠l:=fun z=>nl (z ▸ List.mem_of_getElem? h1)
   rw [ah ne]
   exact x.at_ j a ys h1 h2
 · rw [List.getElem?_append_right (by omega)] at h1
   rw [List.getElem?_append_right (by omega)] at h2
   have ne:a≠l:=fun z=>nb (z ▸ List.mem_of_getElem? h1)
   rw [ah ne]
   exact at2 _ a ys h1 (by rw [hx]; exact h2)
theorem IsLL.get {H:Hp} {l:Addr} {as:List Addr} {xss:List (List Int)} {i:Nat} {a:Addr} (x:IsLL H l as xss) (h:as[i]? =some a):∃ xs,xss[i]? =some xs∧H a=some (.lst (xs.map V.int)):=by
 have hi:=(List.getElem?_eq_some_iff.mp h).1
 have e:xss[i]? =some (xss[i]'(by have:=x.len; omega)):=List.getElem?_eq_getElem _
 exact ⟨_,e,x.at_ i a _ h e⟩
theorem kW {n:Nat} (h:n≤1100):n < sizeLine:=Nat.lt_of_le_of_lt h (by decide)
theorem pq {p q:Addr} {xs ys:List V} {H:Hp} {Q:VK} (hp:H p=some (.lst xs)) (hq:H q=some (.lst ys)) (hn:xs.length+ys.length≤1100) (h:Q .non (upd H p (.lst (xs++ys)))):ju (.ref p) [.ref q] H Q:=by
 show bnd (unM (H p)) _
 rw [hp]
 show bnd (unM (H q)) _
 rw [hq]
 exact ⟨Nat.le_of_lt (kW hn),h⟩
theorem rC {K:PySem.W.Frag} {H1:Hp} {S f:Addr} {ss xs:List Int} {fin:Addr→Hp→Prop} (hS:H1 S=some (.lst (ss.map V.int))) (hf:H1 f=some (.lst (xs.map V.int))) (hs:ss.length≤100) (hx:xs.length≤16)
  (hd:∀ m as H',H1 m=none→Same H1 H'→H' m=some (.lst (as.map V.ref))→NewAt H1 H' m as (ss.map fun s=>.lst ((xs++[s]).map V.int))→fin m H'):
  CompR (Itl K S) (gName 1) tTrue (tOp cAdd (tVar 2) (tLst (tCons (tVar 1) tNil))) fin [none,none,some (.ref f)] H1:=by
 refine tM (xs:=ss.map V.int) (fun _=>true) (fun i=>.lst ((xs++[ss.getD i 0]).map V.int)) (by rw [List.length_map]; omega) (SqL.of hS) ?_ ?_ ?_
 · intro i x H R hx s1 k1
   exact k1 _ (Same.refl _)
 · intro i x H Q hi hb s1 k1
   obtain ⟨z,hz,rfl⟩:=bf hi
   rw [cN hz] at k1
   show tOp cAdd _ _ [none,some (.int z),some (.ref f)] H Q
   walk_at "w"
   refine ⟨aC (by show (1:Nat)≤1000; decide),fun t ht=>?_⟩
   have s2:Same H (upd H t (.lst [V.int z])):=(Same.refl H).laid ht
   refine m9 (s2 _ _ (s1 _ _ hf)) ae (by simp; omega) fun r hr=>?_
   exact k1 r _ (s2.trans ((Same.refl _).laid hr)) (s2.free hr) (by rw [ae]; simp)
 · intro m as H hm s1 e nw
   refine hd m as H hm s1 e ?_
   rw [aV,List.length_map,rp (fun s=>HO.lst ((xs++[s]).map V.int))] at nw
   exact nw
theorem rD {H0 H1 H2:Hp} {l m:Addr} {as bs:List Addr} {xss:List (List Int)} {xs ss:List Int} (x:IsLL H1 l as xss) (nl:l∉as) (s0:Same H0 H1) (hl:H0 l=none) (fr:∀ b∈as,H0 b=none) (s1:Same H1 H2) (nw:NewAt H1 H2 m bs (ss.map fun s=>.lst ((xs++[s]).map V.int))):
  IsLL (upd H2 l (.lst (as.map V.ref++bs.map V.ref))) l (as++bs) (xss++extL [xs] ss)∧l∉as++bs∧(∀ b∈as++bs,H0 b=none):=by
 have nb:l∉bs:=fun h=>by have:=nw.fr l h; rw [x.top] at this; cases this
 refine ⟨?_,?_,?_⟩
 · refine (x.same s1).app nl nb (by rw [nw.len,rz,List.length_map,List.length_map]) fun j a ys h1 h2=>?_
   refine nw.at_ j a _ h1 ?_
   rw [rz,List.getElem?_map] at h2
   rw [List.getElem?_map]
   cases e:ss[j]? with
   | none=>rw [e] at h2; cases h2
   | some s=>rw [e] at h2; cases h2; rfl
 · intro h
   rcases List.mem_append.mp h with h | h
   · exact nl h
   · exact nb h
 · intro b h
   rcases List.mem_append.mp h with h | h
   · exact fr b h
   · exact s0.free (nw.fr b h)
def cV (K:PySem.W.Frag):Sp:=fun vs H Q _=>∃ (F S:Addr) (as:List Addr) (fss:List (List Int)) (ss:List Int),vs=[.ref F,.ref S]∧IsLL H F as fss∧H S=some (.lst (ss.map V.int))∧fss.length*ss.length≤1100∧ss.length≤100∧(∀ f∈fss,f.length≤16)∧
 ∀ (l:Addr) (bs:List Addr) (H':Hp),Same H H'→H l=none→IsLL H' l bs (extL fss ss)→l∉bs→(∀ b∈bs,H b=none)→Q (.ref l) H'
theorem rE {K:PySem.W.Frag} {vs:List V} {H:Hp} {Q:VK} {E:XK} (h:cV K vs H Q E):vs.length=2:=by
 obtain ⟨_,_,_,_,_,rfl,_⟩:=h; rfl
def gf (K:PySem.W.Frag):TS:=
 (tSeq (tAsg (tLst tNil) (gName 2))
  (tSeq (tFor (iList K (tVar 0)) (gName 3)
  (tDrop (tBM K "list" ju (tVar 2) (tCons (tComp [none,none,some 3] (iList K (tVar 1)) (gName 1) tTrue (tOp cAdd (tVar 2) (tLst (tCons (tVar 1) tNil)))) tNil))))
  (tRet (tVar 2))))
theorem rF {K:PySem.W.Frag} {vs:List V} {H:Hp} {Q:VK} {E:XK} (h:cV K vs H Q E):gf K { nx:=fun _ H'=>Q .non H',rt:=Q } (start ["fillings","signs","found","filling"] vs) H:=by
 obtain ⟨F,S,as,fss,ss,rfl,x,hS,hn,hs,hf,q⟩:=h
 show gf K _ [some (.ref F),some (.ref S),none,none] H
 unfold gf
 walk_at "w"
 refine ⟨aC (by show (0:Nat)≤1000; decide),fun l hl=>?_⟩
 have s1:Same H (upd H l (.lst [])):=(Same.refl H).laid hl
 have el:(upd H l (.lst [])) l=some (.lst []):=ae
 generalize upd H l (.lst [])=H1 at*
 refine ⟨⟨_,SqL.of (s1 _ _ x.top)⟩,?_⟩
 refine cB (K:=K) (xs:=as.map V.ref) (fun i σ H'=>∃ (v:Option V) (bs:List Addr),σ=[some (.ref F),some (.ref S),some (.ref l),v]∧Same H H'∧IsLL H' l bs (extL (fss.take i) ss)∧l∉bs∧∀ b∈bs,H b=none)
  ⟨none,[],rfl,s1,⟨el,rfl,fun j a xs h1=>by simp at h1⟩,by simp,fun b hb=>nomatch hb⟩ (fun i σ H' _ ⟨_,_,_,s,_⟩=>s.seq (SqL.of x.top)) ?_ ?_
 · rintro i y σ H2 hy ⟨v,bs,rfl,s2,x2,nl,fr⟩
   obtain ⟨f,hfa,rfl⟩:=bL hy
   obtain ⟨xs,ex,ef⟩:=x.get hfa
   walk_at "w"
   refine ⟨cC x2.top,⟨_,SqL.of (s2 _ _ hS)⟩,?_⟩
   refine rC (ss:=ss) (xs:=xs) (s2 _ _ hS) (s2 _ _ ef) hs (hf xs (List.mem_of_getElem? ex)) fun m cs H3 hm s3 em nw=>?_
   have hb:bs.length+cs.length≤1100:=by
    have l1:=x2.len
    rw [kj,List.length_take] at l1
    have l2:=nw.len
    rw [List.length_map] at l2
    have hi:=(List.getElem?_eq_some_iff.mp ex).1
    have e1:min i fss.length=i:=by omega
    rw [e1] at l1
    have:=Nat.mul_le_mul_right ss.length (show i+1≤fss.length by omega)
    rw [Nat.succ_mul] at this
    omega
   refine pq (s3 _ _ x2.top) em (by rw [List.length_map,List.length_map]; exact hb) ?_
   obtain ⟨z1,z2,z3⟩:=rD x2 nl s2 hl fr s3 nw
   refine ⟨_,bs++cs,rfl,(s2.trans s3).own hl,?_,z2,z3⟩
   rw [db ex,rq]
   exact z1
 · rintro σ H2 ⟨v,bs,rfl,s2,x2,nl,fr⟩
   walk_at "w"
   have e:fss.take (as.map V.ref).length=fss:=List.take_of_length_le (by rw [List.length_map,x.len]; exact Nat.le_refl _)
   rw [e] at x2
   exact q l bs H2 s2 hl x2 nl fr
def bH (K:PySem.W.Frag):Sp:=fun vs H Q _=>∃ (A:Addr) (as:List Addr) (sss:List (List Int)),vs=[.ref A]∧IsLL H A as sss∧sss.length≤16∧(∀ ss∈sss,1≤ss.length∧ss.length≤100)∧prodL sss≤1100∧
 ∀ (l:Addr) (bs:List Addr) (H':Hp),Same H H'→H l=none→IsLL H' l bs (bt sss)→l∉bs→(∀ b∈bs,H b=none)→Q (.ref l) H'
theorem mo {K:PySem.W.Frag} {vs:List V} {H:Hp} {Q:VK} {E:XK} (h:bH K vs H Q E):vs.length=1:=by
 obtain ⟨_,_,_,rfl,_⟩:=h; rfl
def dc (K:PySem.W.Frag):TS:=
 (tSeq (tAsg (tLst (tCons (tLst tNil) tNil)) (gName 1))
  (tSeq (tFor (iList K (tVar 0)) (gName 2)
  (tAsg (tCall (cV K) [] E0 (tCons (tVar 1) (tCons (tVar 2) tNil))) (gName 1)))
  (tRet (tVar 1))))
theorem mq {K:PySem.W.Frag} {vs:List V} {H:Hp} {Q:VK} {E:XK} (h:bH K vs H Q E):dc K { nx:=fun _ H'=>Q .non H',rt:=Q } (start ["signs_by_cell","fillings","signs"] vs) H:=by
 obtain ⟨A,as,sss,rfl,x,h16,hs,hp,q⟩:=h
 show dc K _ [some (.ref A),none,none] H
 unfold dc
 walk_at "w"
 refine ⟨aC (by show (0:Nat)≤1000; decide),fun e he=>?_⟩
 have s1:Same H (upd H e (.lst [])):=(Same.refl H).laid he
 have ee:(upd H e (.lst [])) e=some (.lst []):=ae
 generalize upd H e (.lst [])=H1 at*
 refine ⟨aC (by show (1:Nat)≤1000; decide),fun l hl=>?_⟩
 have s2:Same H1 (upd H1 l (.lst [V.ref e])):=(Same.refl H1).laid hl
 have el:(upd H1 l (.lst [V.ref e])) l=some (.lst [V.ref e]):=ae
 have nle:l≠e:=fun z=>by rw [z,ee] at hl; cases hl
 generalize upd H1 l (.lst [V.ref e])=H2 at*
 have s12:=s1.trans s2
 refine ⟨⟨_,SqL.of (s12 _ _ x.top)⟩,?_⟩
 refine cB (K:=K) (xs:=as.map V.ref) (fun i σ H'=>∃ (l:Addr) (v:Option V) (bs:List Addr),σ=[some (.ref A),some (.ref l),v]∧Same H H'∧H l=none∧IsLL H' l bs (bt (sss.take i))∧l∉bs∧∀ b∈bs,H b=none)
  ⟨l,none,[e],rfl,s12,s1.free hl,⟨el,rfl,fun j a xs h1 h2=>?_⟩,by simpa using nle,fun b hb=>by rw [List.mem_singleton.mp hb]; exact he⟩ (fun i σ H' _ ⟨_,_,_,_,s,_⟩=>s.seq (SqL.of x.top)) ?_ ?_
 · have hj:j=0:=by have:=(List.getElem?_eq_some_iff.mp h1).1; simp at this; omega
   subst hj
   cases h1
   cases h2
   exact s2 _ _ ee
 · rintro i y σ H3 hy ⟨l,v,bs,rfl,s3,hl,x3,nl,fr⟩
   obtain ⟨S,hSa,rfl⟩:=bL hy
   obtain ⟨ss,es,eS⟩:=x.get hSa
   have hss:=hs ss (List.mem_of_getElem? es)
   walk_at "w"
   refine ⟨l,S,bs,_,ss,rfl,x3,s3 _ _ eS,?_,hss.2,?_,fun l' cs H4 s4 hl4 x4 nl4 fr4=>?_⟩
   · rw [ig,← rB es]
     exact Nat.le_trans (pj _ fun z hz=>(hs z hz).1) hp
   · intro f hf
     rw [ge hf,List.length_take]
     omega
   · rw [← pk es] at x4
     exact ⟨l',_,cs,rfl,s3.trans s4,s3.free hl4,x4,nl4,fun b hb=>s3.free (fr4 b hb)⟩
 · rintro σ H3 ⟨l,v,bs,rfl,s3,hl,x3,nl,fr⟩
   walk_at "w"
   have e:sss.take (as.map V.ref).length=sss:=List.take_of_length_le (by rw [List.length_map,x.len]; exact Nat.le_refl _)
   rw [e] at x3
   exact q l bs H3 s3 hl x3 nl fr
section
variable {K:PySem.W.Frag} {te:TE}
theorem vd {a b:Addr} {xs ys:List V} {fin:Addr→Hp→Prop} {σ0:St} {H1:Hp} {k1 k2:Nat} (o:Nat→HO) (hn:xs.length≤900) (hlen:xs.length=ys.length) (hne:k1≠k2) (hq1:SqL K H1 a xs) (hq2:SqL K H1 b ys)
  (he:∀ (i:Nat) x y H Q,xs[i]? =some x→ys[i]? =some y→Same H1 H→(∀ a H',Same H H'→H a=none→H' a=some (o i)→Q (.ref a) H')→te ((σ0.set k1 (some x)).set k2 (some y)) H Q)
  (hd:∀ l as H,H1 l=none→Same H1 H→H l=some (.lst (as.map V.ref))→NewAt H1 H l as ((List.range xs.length).map o)→fin l H):
  CompR (Itz K a b) (gTup K 2 (gCons (gName k1) (gCons (gName k2) gNil))) tTrue te fin σ0 H1:=by
 intro l hl
 have hP0:∃ as:List Addr,(upd H1 l (.lst [])) l=some (.lst (as.map V.ref))∧NewAt H1 (upd H1 l (.lst [])) l as ((List.range 0).map o):=⟨[],by rw [ae]; rfl,NewAt.nil⟩
 refine ⟨fun i m σ H=>m=xs.length - i∧i≤xs.length∧(σ=σ0∨∃ c1 c2,σ=(σ0.set k1 c1).set k2 c2)∧Same H1 H∧∃ as:List Addr,H l=some (.lst (as.map V.ref))∧NewAt H1 H l as ((List.range i).map o),⟨xs.length,by simp,Nat.zero_le _,.inl rfl,(Same.refl H1).laid hl,hP0⟩,?_⟩
 rintro i m σ H ⟨rfl,hi,hσ,s1,as,el,nw⟩
 by_cases hlt:i < xs.length
 · have hlt2:i < ys.length:=by omega
   refine .inr ⟨⟨xs,ys,xs[i],ys[i],s1.seq hq1,s1.seq hq2,by simp [hlt],by simp [hlt2]⟩,fun σ' H'=>(σ'=σ0∨∃ c1 c2,σ'=(σ0.set k1 c1).set k2 c2)∧Same H1 H'∧∃ as:List Addr,H' l=some (.lst (as.map V.ref))∧NewAt H1 H' l as ((List.range (i+1)).map o),fun σ' H' p'=>⟨xs.length - (i+1),by omega,rfl,hlt,p'⟩,fun v H' y=>?_⟩
   obtain ⟨T,x,y,rfl,hT,rfl,e1,e2⟩:=y
   have hx:=e1 xs (s1.seq hq1)
   have hy:=e2 ys (s1.seq hq2)
   have sT:Same H (upd H T (.tup [x,y])):=(Same.refl H).laid hT
   refine ⟨T,_,rfl,SqT.of ae,rfl,_,_,rfl,_,_,rfl,rfl,?_⟩
   have e:(σ.set k1 (some x)).set k2 (some y)=(σ0.set k1 (some x)).set k2 (some y):=by
    rcases hσ with rfl | ⟨c1,c2,rfl⟩
    · rfl
    · rw [List.set_comm _ _ (Ne.symm hne),List.set_set,List.set_set,List.set_comm _ _ hne]
   show tTrue ((σ.set k1 (some x)).set k2 (some y)) _ _
   rw [e,e5,if_pos rfl]
   have s12:=s1.trans sT
   have el2:=sT _ _ el
   have nw2:=nw.same sT
   refine he i x y _ _ hx hy s12 fun p H3 s3 hp ep=>⟨_,s3 _ _ el2,?_,.inr ⟨_,_,rfl⟩,(s12.trans s3).own hl,as++[p],?_,?_⟩
   · rw [List.length_map,nw2.len,List.length_map,List.length_range]; exact aE (by omega)
   · rw [ae]; simp
   · have z:=nw2.more s12 s3 hp ep el2 (.lst (as.map V.ref++[V.ref p]))
     rw [List.range_succ,List.map_append]
     exact z
 · have e:i=xs.length:=by omega
   subst e
   exact .inl ⟨⟨xs,ys,s1.seq hq1,s1.seq hq2,.inl (Nat.le_refl _)⟩,hd l as H hl s1 el nw⟩
end
theorem rG {α:Type} (f:α→V) (xs:List α) (k:Nat):cutV (xs.map f) none (some (k:Int))=(xs.take k).map f:=by
 unfold cutV
 rw [HT.sIx_nat,HT.sIx_none,List.length_map,List.drop_zero,Nat.sub_zero,List.map_take]
 by_cases h:k≤xs.length
 · rw [Nat.min_eq_left h]
 · rw [Nat.min_eq_right (by omega),List.take_of_length_le (by rw [List.length_map]; exact Nat.le_refl _),List.take_of_length_le (by rw [List.length_map]; omega)]
theorem xM {α:Type} (f:α→V) (xs:List α) {k:Nat} (h:k≤xs.length):cutV (xs.map f) (some (k:Int)) none=(xs.drop k).map f:=by
 unfold cutV
 rw [HT.sIx_nat,HT.sIx_none,List.length_map,Nat.min_eq_left h,List.map_drop,List.take_of_length_le (by rw [List.length_drop,List.length_map]; exact Nat.le_refl _)]
def bP (g n:Int):List Int:=(rngL 1 (g+1)).drop (n % g).toNat++(rngL 1 (g+1)).take (n % g).toNat
theorem kr {g n:Int} (g0:1≤g):(bP g n).length=g.toNat:=by
 have e0:=Int.emod_nonneg n (show g≠0 by omega)
 have e1:=Int.emod_lt_of_pos n (show 0 < g by omega)
 unfold bP
 rw [List.length_append,List.length_drop,List.length_take,fC]
 omega
def cq (K:PySem.W.Frag):Sp:=fun vs H Q _=>∃ (p:Addr) (h w g n:Int),vs=[.ref p,.int n]∧IsFl H p h w g∧FlOk h w g∧∀ (l:Addr) (H':Hp),Same H H'→H l=none→H' l=some (.lst ((bP g n).map V.int))→Q (.ref l) H'
theorem pT {K:PySem.W.Frag} {vs:List V} {H:Hp} {Q:VK} {E:XK} (h:cq K vs H Q E):vs.length=2:=by
 obtain ⟨_,_,_,_,_,rfl,_⟩:=h; rfl
def fq (K:PySem.W.Frag):TS:=
 (tSeq (tAsg (i4 (tCons (tC (.int 1)) (tCons (tOp cAdd (tOp cIx (tVar 0) (tC (.int 2))) (tC (.int 1))) tNil))) (gName 2))
  (tSeq (tAsg (tOp cMod (tVar 1) (tOp cIx (tVar 0) (tC (.int 2)))) (gName 3))
  (tRet (tOp cAdd (tSl dQ (tVar 2) (tPart (tVar 3)) bE) (tSl dQ (tVar 2) bE (tPart (tVar 3)))))))
theorem pU {K:PySem.W.Frag} {vs:List V} {H:Hp} {Q:VK} {E:XK} (h:cq K vs H Q E):fq K { nx:=fun _ H'=>Q .non H',rt:=Q } (start ["floor","number","signs","first"] vs) H:=by
 obtain ⟨p,h,w,g,n,rfl,hp,F,q⟩:=h
 have g0:=F.g0
 have g1:=F.g1
 have e0:=Int.emod_nonneg n (show g≠0 by omega)
 have e1:=Int.emod_lt_of_pos n (show 0 < g by omega)
 have ek:n % g=(((n % g).toNat:Nat):Int):=by omega
 show fq K _ [some (.ref p),some (.int n),none,none] H
 unfold fq
 walk_at "w"
 refine ixT hp (v:=V.int g) rfl ?_
 walk_at "w"
 refine ⟨1,g+1,rfl,⟨by omega,by omega,by omega,by omega⟩,fun l hl=>?_⟩
 have s1:Same H (upd H l (.lst ((rngL 1 (g+1)).map V.int))):=(Same.refl H).laid hl
 have el:(upd H l (.lst ((rngL 1 (g+1)).map V.int))) l=some (.lst ((rngL 1 (g+1)).map V.int)):=ae
 generalize upd H l (.lst ((rngL 1 (g+1)).map V.int))=H1 at*
 refine ixT (s1 _ _ hp) (v:=V.int g) rfl ?_
 walk_at "w"
 refine ⟨by omega,?_⟩
 rw [ek]
 refine i0 el fun a ha=>?_
 rw [xM V.int _ (by rw [fC]; omega)]
 have s2:Same H1 (upd H1 a (.lst (((rngL 1 (g+1)).drop (n % g).toNat).map V.int))):=(Same.refl H1).laid ha
 have ea:(upd H1 a (.lst (((rngL 1 (g+1)).drop (n % g).toNat).map V.int))) a=some (.lst (((rngL 1 (g+1)).drop (n % g).toNat).map V.int)):=ae
 generalize upd H1 a (.lst (((rngL 1 (g+1)).drop (n % g).toNat).map V.int))=H2 at*
 refine i0 (s2 _ _ el) fun b hb=>?_
 rw [rG V.int]
 have s3:Same H2 (upd H2 b (.lst (((rngL 1 (g+1)).take (n % g).toNat).map V.int))):=(Same.refl H2).laid hb
 have eb:(upd H2 b (.lst (((rngL 1 (g+1)).take (n % g).toNat).map V.int))) b=some (.lst (((rngL 1 (g+1)).take (n % g).toNat).map V.int)):=ae
 generalize upd H2 b (.lst (((rngL 1 (g+1)).take (n % g).toNat).map V.int))=H3 at*
 refine m9 (s3 _ _ ea) eb (by rw [List.length_map,List.length_map,List.length_drop,List.length_take,fC]; omega) fun r hr=>?_
 have s13:=(s1.trans s2).trans s3
 exact q r _ (s13.trans ((Same.refl H3).laid hr)) (s13.free hr) (by rw [ae]; unfold bP; rw [List.map_append])
def freeP (g:Int) (cl:List Int):Int:=cl.foldl (fun n c=>if c=0 then n*g else n) 1
theorem lC {g:Int} (g0:1≤g):∀ (cl:List Int) (n:Int),1≤n→n≤cl.foldl (fun n c=>if c=0 then n*g else n) n
 | [],n,_=>Int.le_refl _
 | c::r,n,hn=>by
  rw [List.foldl_cons]
  by_cases h:c=0
  · rw [if_pos h]
    have h1:n*1≤n*g:=Int.mul_le_mul_of_nonneg_left g0 (by omega)
    rw [Int.mul_one] at h1
    exact Int.le_trans h1 (lC g0 r _ (by omega))
  · rw [if_neg h]
    exact lC g0 r n hn
theorem ve {g:Int} (g0:1≤g) (cl:List Int) (i:Nat):1≤freeP g (cl.take i)∧freeP g (cl.take i)≤freeP g cl:=by
 have h1:1≤freeP g (cl.take i):=lC g0 _ 1 (by omega)
 refine ⟨h1,?_⟩
 have e:freeP g cl=(cl.drop i).foldl (fun n c=>if c=0 then n*g else n) (freeP g (cl.take i)):=by
  unfold freeP
  rw [← List.foldl_append,List.take_append_drop]
 rw [e]
 exact lC g0 _ _ h1
theorem vP {g:Int} {cl:List Int} {i:Nat} {c:Int} (h:cl[i]? =some c):freeP g (cl.take (i+1))=if c=0 then freeP g (cl.take i)*g else freeP g (cl.take i):=by
 unfold freeP
 rw [db h,List.foldl_append]; rfl
def bq (K:PySem.W.Frag) (c:RCl RK) (d:RCl PzK):Sp:=fun vs H Q _=>∃ (P L G:Addr) (h w g:Int) (rows:List RR) (cl:List Int),vs=[.ref P]∧IsPz H c d P L G h w g rows cl∧freeP g cl≤1024∧∀ H',Same H H'→Q .non H'
theorem kX {K:PySem.W.Frag} {c:RCl RK} {d:RCl PzK} {vs:List V} {H:Hp} {Q:VK} {E:XK} (h:bq K c d vs H Q E):vs.length=1:=by
 obtain ⟨_,_,_,_,_,_,_,_,rfl,_⟩:=h; rfl
def cA (K:PySem.W.Frag) (c:RCl RK) (d:RCl PzK):TS:=
 (tSeq (tAsg (tC (.int 1)) (gName 1))
  (tSeq (tFor (iList K (aO d d.ok "clues" (dX K c d) (tVar 0) tNil)) (gName 2)
  (tIfS (tTest (tOp (cEq K) (tVar 2) (tC (.int 0)))) (tAsg (tOp cMul (tVar 1) (tOp cIx (aO d d.ok "place" (dW K c d) (tVar 0) tNil) (tC (.int 2)))) (gName 1)) tNext))
  (tIfS (tTest (tOp (cCmp fun i j=>decide (j < i)) (tVar 1) (tC (.int 1024)))) bW tNext)))
theorem kY {K:PySem.W.Frag} {c:RCl RK} {d:RCl PzK} {vs:List V} {H:Hp} {Q:VK} {E:XK} (h:bq K c d vs H Q E):cA K c d { nx:=fun _ H'=>Q .non H',rt:=Q } (start ["puzzle","floors","clue"] vs) H:=by
 obtain ⟨P,L,G,h,w,g,rows,cl,rfl,x,hm,q⟩:=h
 obtain ⟨dx,p,rs,h1,h2,h3⟩:=x.ex
 have g0:=x.R.F.g0
 have g1:=x.R.F.g1
 show cA K c d _ [some (.ref P),none,none] H
 unfold cA
 walk_at "w"
 refine methE (k:=.Puzzle) rfl x.ok h1 (by rfl) ?_
 walk_at "w"
 refine ⟨P,L,G,h,w,g,rows,cl,rfl,x,fun l hl=>?_⟩
 have s1:Same H (upd H l (.lst (cl.map V.int))):=(Same.refl H).laid hl
 have el:(upd H l (.lst (cl.map V.int))) l=some (.lst (cl.map V.int)):=ae
 generalize upd H l (.lst (cl.map V.int))=H1 at*
 refine ⟨l,rfl,⟨_,SqL.of el⟩,?_⟩
 refine cB (K:=K) (xs:=cl.map V.int) (fun i σ H'=>∃ v:Option V,σ=[some (.ref P),some (.int (freeP g (cl.take i))),v]∧Same H1 H') ⟨none,rfl,Same.refl _⟩ (fun i σ H' _ ⟨_,_,s⟩=>s.seq (SqL.of el)) ?_ ?_
 · rintro i y σ H2 hy ⟨v,rfl,s2⟩
   obtain ⟨z,hz,rfl⟩:=bf hy
   have s12:=s1.trans s2
   have ft:=ve g0 cl i
   have fo:=vP (g:=g) hz
   walk_at "w"
   rw [aT]
   walk_at "w"
   by_cases h0:z=0
   · rw [decide_eq_true h0]
     rw [if_pos h0] at fo
     refine iteT ?_
     refine methE (k:=.Puzzle) rfl x.ok (s12 _ _ h1) (by rfl) ?_
     walk_at "w"
     refine ⟨P,L,G,h,w,g,rows,cl,rfl,x.same s12,fun p' hp'=>?_⟩
     walk_at "w"
     refine ixT hp' (v:=V.int g) rfl ?_
     walk_at "w"
     refine ⟨.inl ⟨by omega,by omega⟩,some (.int z),?_,s2⟩
     rw [fo]
   · rw [decide_eq_false h0]
     rw [if_neg h0] at fo
     refine iteF ⟨some (.int z),?_,s2⟩
     rw [fo]
 · rintro σ H2 ⟨v,rfl,s2⟩
   have e:cl.take (cl.map V.int).length=cl:=List.take_of_length_le (by rw [List.length_map]; exact Nat.le_refl _)
   rw [e]
   walk_at "w"
   rw [aT]
   walk_at "w"
   rw [decide_eq_false (by omega)]
   exact iteF (q _ (s1.trans s2))
def trysL (g:Int) (cl ns:List Int):List (List Int):=(List.range cl.length).map fun i=>if cl.getD i 0=0 then bP g (ns.getD i 0) else [cl.getD i 0]
theorem gw {g:Int} {cl ns:List Int}:(trysL g cl ns).length=cl.length:=by unfold trysL; simp
theorem kZ {g:Int} {cl ns:List Int} (g0:1≤g) (g1:g≤6) {ss:List Int} (h:ss∈trysL g cl ns):1≤ss.length∧ss.length≤100:=by
 unfold trysL at h
 obtain ⟨i,_,rfl⟩:=List.mem_map.mp h
 split
 · rw [kr g0]; omega
 · exact ⟨Nat.le_refl 1,(by decide:(1:Nat)≤100)⟩
theorem pw {g:Int} (g0:1≤g) (f:Nat→Int) (s:Nat→List Int) (hs:∀ i,(s i).length=if f i=0 then g.toNat else 1):∀ (is:List Nat) (n:Nat) (m:Int),(n:Int)=m→(((is.map s).foldl (fun n ss=>n*ss.length) n:Nat):Int)=(is.map f).foldl (fun n c=>if c=0 then n*g else n) m
 | [],n,m,h=>h
 | i::r,n,m,h=>by
  rw [List.map_cons,List.map_cons,List.foldl_cons,List.foldl_cons]
  refine pw g0 f s hs r _ _ ?_
  rw [hs]
  by_cases h0:f i=0
  · rw [if_pos h0,if_pos h0,Int.natCast_mul,h,Int.toNat_of_nonneg (by omega)]
  · rw [if_neg h0,if_neg h0,Nat.mul_one,h]
theorem i8 {g:Int} {cl ns:List Int} (g0:1≤g):((prodL (trysL g cl ns):Nat):Int)=freeP g cl:=by
 have e:=pw g0 (fun i=>cl.getD i 0) (fun i=>if cl.getD i 0=0 then bP g (ns.getD i 0) else [cl.getD i 0]) (fun i=>by
  split
  · exact kr g0
  · rfl) (List.range cl.length) 1 1 rfl
 have e2:=rp (fun x=>x) cl
 rw [List.map_id'] at e2
 rw [e2] at e
 exact e
def bR (K:PySem.W.Frag) (c:RCl RK) (d:RCl PzK):Sp:=fun vs H Q _=>∃ (P L G N:Addr) (h w g:Int) (rows:List RR) (cl ns:List Int),vs=[.ref P,.ref N]∧IsPz H c d P L G h w g rows cl∧H N=some (.lst (ns.map V.int))∧ns.length=cl.length∧
 ∀ (l:Addr) (bs:List Addr) (H':Hp),Same H H'→H l=none→IsLL H' l bs (trysL g cl ns)→Q (.ref l) H'
theorem nT {K:PySem.W.Frag} {c:RCl RK} {d:RCl PzK} {vs:List V} {H:Hp} {Q:VK} {E:XK} (h:bR K c d vs H Q E):vs.length=2:=by
 obtain ⟨_,_,_,_,_,_,_,_,_,_,rfl,_⟩:=h; rfl
def dI (K:PySem.W.Frag) (c:RCl RK) (d:RCl PzK):TS:=
 (tSeq (tAsg (aO d d.ok "place" (dW K c d) (tVar 0) tNil) (gName 2))
  (tRet (tComp [none,none,none,some 2] (iZip K (tCons (aO d d.ok "clues" (dX K c d) (tVar 0) tNil) (tCons (tVar 1) tNil))) (gTup K 2 (gCons (gName 1) (gCons (gName 2) gNil))) tTrue (tIf (tTest (tOp (cEq K) (tVar 1) (tC (.int 0)))) (tCall (cq K) [] E0 (tCons (tVar 3) (tCons (tVar 2) tNil))) (tLst (tCons (tVar 1) tNil))))))
theorem nU {K:PySem.W.Frag} {c:RCl RK} {d:RCl PzK} {vs:List V} {H:Hp} {Q:VK} {E:XK} (h:bR K c d vs H Q E):dI K c d { nx:=fun _ H'=>Q .non H',rt:=Q } (start ["puzzle","numbers","floor"] vs) H:=by
 obtain ⟨P,L,G,N,h,w,g,rows,cl,ns,rfl,x,hN,hlen,q⟩:=h
 obtain ⟨dx,p0,rs,h1,h2,h3⟩:=x.ex
 have hcl:cl.length≤16:=by have:=x.C.len; have:=x.R.F.m; omega
 show dI K c d _ [some (.ref P),some (.ref N),none] H
 unfold dI
 walk_at "w"
 refine methE (k:=.Puzzle) rfl x.ok h1 (by rfl) ?_
 walk_at "w"
 refine ⟨P,L,G,h,w,g,rows,cl,rfl,x,fun p hp=>?_⟩
 walk_at "w"
 rw [sV,eY]
 refine methE (k:=.Puzzle) rfl x.ok h1 (by rfl) ?_
 walk_at "w"
 refine ⟨P,L,G,h,w,g,rows,cl,rfl,x,fun C hC=>?_⟩
 have s1:Same H (upd H C (.lst (cl.map V.int))):=(Same.refl H).laid hC
 have eC:(upd H C (.lst (cl.map V.int))) C=some (.lst (cl.map V.int)):=ae
 generalize upd H C (.lst (cl.map V.int))=H1 at*
 walk_at "w"
 refine ⟨C,N,rfl,⟨_,SqL.of eC⟩,⟨_,SqL.of (s1 _ _ hN)⟩,?_⟩
 refine vd (xs:=cl.map V.int) (ys:=ns.map V.int) (fun i=>.lst ((if cl.getD i 0=0 then bP g (ns.getD i 0) else [cl.getD i 0]).map V.int)) (by rw [List.length_map]; omega) (by simp [hlen]) (by decide) (SqL.of eC) (SqL.of (s1 _ _ hN)) ?_ ?_
 · intro i u v H2 Q2 hu hv s2 k2
   obtain ⟨z,hz,rfl⟩:=bf hu
   obtain ⟨n,hn,rfl⟩:=bf hv
   rw [cN hz,cN hn] at k2
   show tIf _ _ _ [none,some (.int z),some (.int n),some (.ref p)] H2 Q2
   unfold tIf
   walk_at "w"
   by_cases h0:z=0
   · rw [decide_eq_true h0]
     rw [if_pos h0] at k2
     refine iteT ?_
     exact ⟨p,h,w,g,n,rfl,s2 _ _ (s1 _ _ hp),x.R.F,fun l H3 s3 hl el=>k2 l H3 s3 hl el⟩
   · rw [decide_eq_false h0]
     rw [if_neg h0] at k2
     refine iteF ⟨aC (by show (1:Nat)≤1000; decide),fun l hl=>?_⟩
     exact k2 l _ ((Same.refl H2).laid hl) hl (by rw [ae]; rfl)
 · intro l as H2 hl s2 el nw
   rw [List.length_map] at nw
   have e:(List.range cl.length).map (fun i=>HO.lst ((if cl.getD i 0=0 then bP g (ns.getD i 0) else [cl.getD i 0]).map V.int))=(trysL g cl ns).map fun xs=>.lst (xs.map V.int):=by
    unfold trysL
    rw [List.map_map]; rfl
   rw [e] at nw
   exact q l as H2 (s1.trans s2) (s1.free hl) (nw.ll el)
theorem IsLL.other {H:Hp} {l r:Addr} {as:List Addr} {xss:List (List Int)} {o:HO} (x:IsLL H l as xss) (h:r≠l) (hr:r∉as):IsLL (upd H r o) l as xss:=by
 refine ⟨by rw [ah (Ne.symm h)]; exact x.top,x.len,fun j a xs h1 h2=>?_⟩
 have ne:a≠r:=fun z=>hr (z ▸ List.mem_of_getElem? h1)
 rw [ah ne]
 exact x.at_ j a xs h1 h2
noncomputable def iJ (h w g:Int) (rows:List RR) (cl ns:List Int) (n:Nat):List (List Int):=((bt (trysL g cl ns)).filter (metB h w g rows cl)).take n
def dl (K:PySem.W.Frag) (c:RCl RK) (d:RCl PzK):Sp:=fun vs H Q _=>∃ (P L G N:Addr) (h w g most:Int) (rows:List RR) (cl ns:List Int),vs=[.ref P,.ref N,.int most]∧IsPz H c d P L G h w g rows cl∧H N=some (.lst (ns.map V.int))∧ns.length=cl.length∧freeP g cl≤1024∧0≤most∧
 ∀ (l:Addr) (bs:List Addr) (H':Hp),Same H H'→H l=none→IsLL H' l bs (iJ h w g rows cl ns most.toNat)→l∉bs→(∀ b∈bs,H b=none)→Q (.ref l) H'
theorem su {K:PySem.W.Frag} {c:RCl RK} {d:RCl PzK} {vs:List V} {H:Hp} {Q:VK} {E:XK} (h:dl K c d vs H Q E):vs.length=3:=by
 obtain ⟨_,_,_,_,_,_,_,_,_,_,_,rfl,_⟩:=h; rfl
def gP (K:PySem.W.Frag) (c:RCl RK) (d:RCl PzK):TS:=
 (tSeq (tDrop (tCall (bq K c d) [] E0 (tCons (tVar 0) tNil)))
  (tSeq (tAsg (tLst tNil) (gName 3))
  (tSeq (tFor (iList K (tCall (bH K) [] E0 (tCons (tCall (bR K c d) [] E0 (tCons (tVar 0) (tCons (tVar 1) tNil))) tNil))) (gName 4)
  (tSeq (tIfS (tTest (tOp (cEq K) (tCB kLen (tCons (tVar 3) tNil)) (tVar 2))) (tRet (tVar 3)) tNext)
  (tIfS (tB (aO d d.ok "meets" (gu K c d) (tVar 0) (tCons (tVar 4) tNil))) (tDrop (tBM K "list" b4 (tVar 3) (tCons (tVar 4) tNil))) tNext)))
  (tRet (tVar 3)))))
theorem sw {K:PySem.W.Frag} {c:RCl RK} {d:RCl PzK} {vs:List V} {H:Hp} {Q:VK} {E:XK} (h:dl K c d vs H Q E):gP K c d { nx:=fun _ H'=>Q .non H',rt:=Q } (start ["puzzle","numbers","most","found","filling"] vs) H:=by
 obtain ⟨P,L,G,N,h,w,g,most,rows,cl,ns,rfl,x,hN,hlen,hfree,m0,q⟩:=h
 obtain ⟨dx,p0,rs,h1,h2,h3⟩:=x.ex
 have hcl:cl.length≤16:=by have:=x.C.len; have:=x.R.F.m; omega
 have g0:=x.R.F.g0
 have g1:=x.R.F.g1
 show gP K c d _ [some (.ref P),some (.ref N),some (.int most),none,none] H
 unfold gP
 walk_at "w"
 refine ⟨P,L,G,h,w,g,rows,cl,rfl,x,hfree,fun H1 s1=>?_⟩
 walk_at "w"
 refine ⟨aC (by show (0:Nat)≤1000; decide),fun r hr=>?_⟩
 have s2:Same H1 (upd H1 r (.lst [])):=(Same.refl H1).laid hr
 have er:(upd H1 r (.lst [])) r=some (.lst []):=ae
 have hr0:H r=none:=s1.free hr
 generalize upd H1 r (.lst [])=H2 at*
 have s02:=s1.trans s2
 refine ⟨P,L,G,N,h,w,g,rows,cl,ns,rfl,x.same s02,s02 _ _ hN,hlen,fun A as H3 s3 hA xA=>?_⟩
 walk_at "w"
 refine ⟨A,as,_,rfl,xA,by rw [gw]; omega,fun ss hss=>kZ g0 g1 hss,by have:=i8 (cl:=cl) (ns:=ns) g0; omega,fun l bs H4 s4 hl xl nl fr=>?_⟩
 have s04:=(s02.trans s3).trans s4
 have er4:=(s3.trans s4) _ _ er
 have nrl:r≠l:=fun z=>by rw [← z,s3 _ _ er] at hl; cases hl
 have nrb:r∉bs:=fun z=>by have:=fr r z; rw [s3 _ _ er] at this; cases this
 have fr0:∀ b∈bs,H b=none:=fun b hb=>(s02.trans s3).free (fr b hb)
 have eL:bt (trysL g cl ns)=bt (trysL g cl ns):=rfl
 have hq:=q
 unfold iJ at hq
 have hlenL:∀ f∈bt (trysL g cl ns),f.length≤16:=fun f hf=>by rw [ge hf,gw]; omega
 have hbig:(bt (trysL g cl ns)).length≤1024:=by rw [ig]; have:=i8 (cl:=cl) (ns:=ns) g0; omega
 generalize bt (trysL g cl ns)=LL at*
 have hxl:=xl.len
 refine ⟨l,rfl,⟨_,SqL.of xl.top⟩,?_⟩
 refine cB (K:=K) (xs:=bs.map V.ref) (fun i σ H'=>∃ (v:Option V) (cs:List Addr),σ=[some (.ref P),some (.ref N),some (.int most),some (.ref r),v]∧Same H H'∧IsLL H' l bs LL∧IsLL H' r cs ((LL.take i).filter (metB h w g rows cl))∧r∉cs∧(∀ b∈cs,b∈bs)∧(cs.length:Int)≤most)
  ⟨none,[],rfl,s04,xl,⟨er4,rfl,fun j a xs h1=>by simp at h1⟩,by simp,(fun b hb=>nomatch hb),by simpa using m0⟩ (fun i σ H' _ ⟨_,_,_,_,z,_⟩=>SqL.of z.top) ?_ ?_
 · rintro i y σ H5 hy ⟨v,cs,rfl,s5,xl5,xr,nr,sub,hcs⟩
   obtain ⟨b,hb,rfl⟩:=bL hy
   obtain ⟨f,ef,eb⟩:=xl5.get hb
   have hbm:=List.mem_of_getElem? hb
   have hf16:=hlenL f (List.mem_of_getElem? ef)
   have hcl5:=xr.len
   walk_at "w"
   rw [aT]
   walk_at "w"
   rw [cE xr.top,List.length_map]
   walk_at "w"
   by_cases hm:(cs.length:Int)=most
   · rw [decide_eq_true hm]
     refine iteT ?_
     refine hq r cs H5 s5 hr0 ?_ nr fun b hb=>fr0 b (sub b hb)
     have e:(LL.filter (metB h w g rows cl)).take most.toNat=(LL.take i).filter (metB h w g rows cl):=by
      have e1:LL.filter (metB h w g rows cl)=(LL.take i).filter (metB h w g rows cl)++(LL.drop i).filter (metB h w g rows cl):=by rw [← List.filter_append,List.take_append_drop]
      rw [e1,List.take_append_of_le_length (by omega),List.take_of_length_le (by omega)]
     rw [e]
     exact xr
   · rw [decide_eq_false hm]
     refine iteF ?_
     rw [aT]
     walk_at "w"
     refine methE (k:=.Puzzle) rfl x.ok (s5 _ _ h1) (by rfl) ?_
     walk_at "w"
     refine ⟨P,L,G,b,h,w,g,rows,cl,f,rfl,x.same s5,eb,by omega,fun H6 s6=>?_⟩
     have s56:=s5.trans s6
     cases hmet:metB h w g rows cl f with
     | false=>
      refine ⟨_,rfl,?_⟩
      refine iteF ⟨_,cs,rfl,s56,xl5.same s6,?_,nr,sub,hcs⟩
      rw [db ef,List.filter_append,List.filter_cons,hmet]
      simpa using xr.same s6
     | true=>
      refine ⟨_,rfl,?_⟩
      refine iteT ⟨cC (s6 _ _ xr.top),?_⟩
      have nbr:r≠b:=fun z=>nrb (z ▸ hbm)
      have xr6:=xr.same s6
      have z:=xr6.app (bs:=[b]) (yss:=[f]) nr (by simpa using nbr) rfl fun j a ys h1 h2=>by
       have hj:j=0:=by have:=(List.getElem?_eq_some_iff.mp h1).1; simp at this; omega
       subst hj
       cases h1
       cases h2
       exact s6 _ _ eb
      have hsm:cs.length < sizeLine:=by
       have h4:=List.length_filter_le (metB h w g rows cl) (LL.take i)
       have h5:(LL.take i).length≤LL.length:=by rw [List.length_take]; exact Nat.min_le_right _ _
       exact kW (by omega)
      rw [iz xr6.top]
      refine ⟨by rw [List.length_map]; exact hsm,_,cs++[b],rfl,s56.own hr0,(xl5.same s6).other nrl nrb,?_,?_,?_,?_⟩
      · rw [db ef,List.filter_append,List.filter_cons,hmet]
        simpa using z
      · intro hm2
        rcases List.mem_append.mp hm2 with hm2 | hm2
        · exact nr hm2
        · exact nbr (List.mem_singleton.mp hm2)
      · intro a ha
        rcases List.mem_append.mp ha with ha | ha
        · exact sub a ha
        · rw [List.mem_singleton.mp ha]; exact hbm
      · rw [List.length_append]
        show ((cs.length+1:Nat):Int)≤most
        omega
 · rintro σ H5 ⟨v,cs,rfl,s5,xl5,xr,nr,sub,hcs⟩
   walk_at "w"
   have e:LL.take (bs.map V.ref).length=LL:=List.take_of_length_le (by rw [List.length_map,hxl]; exact Nat.le_refl _)
   rw [e] at xr
   have hcl5:=xr.len
   refine hq r cs H5 s5 hr0 ?_ nr fun b hb=>fr0 b (sub b hb)
   rw [List.take_of_length_le (by omega)]
   exact xr
def t4:List (Int × Int)→(St→Hp→(List V→Hp→Prop)→Prop)
 | []=>tNil
 | p::r=>tCons (tTup (tCons (tC (.int p.1)) (tCons (tC (.int p.2)) tNil))) (t4 r)
theorem rH {σ:St}:∀ (ps:List (Int × Int)) (H:Hp) (Q:List V→Hp→Prop),(∀ (as:List Addr) (H':Hp),Same H H'→as.length=ps.length→(∀ (j:Nat) (a:Addr) (p:Int × Int),as[j]? =some a→ps[j]? =some p→H' a=some (.tup [.int p.1,.int p.2]))→Q (as.map V.ref) H')→t4 ps σ H Q
 | [],H,Q,h=>h [] H (Same.refl H) rfl fun j a p e _=>by simp at e
 | p::r,H,Q,h=>by
  unfold t4
  walk_at "w"
  refine ⟨aC (by show (2:Nat)≤1000; decide),fun t ht=>?_⟩
  have s1:Same H (upd H t (.tup [V.int p.1,V.int p.2])):=(Same.refl H).laid ht
  have et:(upd H t (.tup [V.int p.1,V.int p.2])) t=some (.tup [V.int p.1,V.int p.2]):=ae
  generalize upd H t (.tup [V.int p.1,V.int p.2])=H1 at*
  refine rH r H1 _ fun as H2 s2 hl ha=>?_
  refine h (t::as) H2 (s1.trans s2) (by simp [hl]) fun j a q e1 e2=>?_
  match j,e1,e2 with
  | 0,e1,e2=>
   simp at e1 e2
   subst e1 e2
   exact s2 _ _ et
  | j+1,e1,e2=>exact ha j a q (by simpa using e1) (by simpa using e2)
def fl46:List (Int × Int):=[(1,1),(2,2),(1,4),(3,2),(2,3),(3,3),(4,1),(2,4),(1,6),(2,2),(5,1),(3,1)]
theorem wJ:∀ p∈fl46,1≤p.1∧p.1≤6∧1≤p.2∧p.2≤6∧p.1*p.2≤16:=by decide
def bb (K:PySem.W.Frag):Sp:=fun vs H Q _=>∃ (a:Addr) (ns:List Int),vs=[.ref a]∧SqL K H a (ns.map V.int)∧ns.length≤63∧∀ (p:Addr) (H':Hp) (h w g:Int),Same H H'→H p=none→IsFl H' p h w g→FlOk h w g→Q (.ref p) H'
theorem jC {K:PySem.W.Frag} {vs:List V} {H:Hp} {Q:VK} {E:XK} (h:bb K vs H Q E):vs.length=1:=by
 obtain ⟨_,_,rfl,_⟩:=h; rfl
def bS (K:PySem.W.Frag):TS:=
 (tSeq (tAsg (tLst (tCons (tTup (tCons (tC (.int 1)) (tCons (tC (.int 1)) tNil))) (tCons (tTup (tCons (tC (.int 2)) (tCons (tC (.int 2)) tNil))) (tCons (tTup (tCons (tC (.int 1)) (tCons (tC (.int 4)) tNil))) (tCons (tTup (tCons (tC (.int 3)) (tCons (tC (.int 2)) tNil))) (tCons (tTup (tCons (tC (.int 2)) (tCons (tC (.int 3)) tNil))) (tCons (tTup (tCons (tC (.int 3)) (tCons (tC (.int 3)) tNil))) (tCons (tTup (tCons (tC (.int 4)) (tCons (tC (.int 1)) tNil))) (tCons (tTup (tCons (tC (.int 2)) (tCons (tC (.int 4)) tNil))) (tCons (tTup (tCons (tC (.int 1)) (tCons (tC (.int 6)) tNil))) (tCons (tTup (tCons (tC (.int 2)) (tCons (tC (.int 2)) tNil))) (tCons (tTup (tCons (tC (.int 5)) (tCons (tC (.int 1)) tNil))) (tCons (tTup (tCons (tC (.int 3)) (tCons (tC (.int 1)) tNil))) tNil))))))))))))) (gName 1))
  (tSeq (tAsg (tOp cIx (tVar 1) (tOp cMod (tCall (aP K) [] E0 (tCons (tVar 0) (tCons (tC (.int 0)) tNil))) (tC (.int 12)))) (gTup K 2 (gCons (gName 2) (gCons (gName 3) gNil))))
  (tRet (tTup (tCons (tVar 2) (tCons (tVar 3) (tCons (tOp cAdd (tC (.int 1)) (tOp cMod (tCall (aP K) [] E0 (tCons (tVar 0) (tCons (tC (.int 1)) tNil))) (tOp cIx (tLst (tCons (tC (.int 3)) (tCons (tC (.int 4)) (tCons (tC (.int 6)) (tCons (tC (.int 2)) tNil))))) (tOp cMod (tCall (aP K) [] E0 (tCons (tVar 0) (tCons (tC (.int 2)) tNil))) (tC (.int 4)))))) tNil)))))))
theorem jD {K:PySem.W.Frag} {vs:List V} {H:Hp} {Q:VK} {E:XK} (h:bb K vs H Q E):bS K { nx:=fun _ H'=>Q .non H',rt:=Q } (start ["_law_script","_law_sizes","_law_high","_law_wide"] vs) H:=by
 obtain ⟨a,ns,rfl,hS,hn,q⟩:=h
 show bS K _ [some (.ref a),none,none,none] H
 unfold bS
 rw [aF,iV,iX]
 refine rH fl46 H _ fun as H1 s1 hl ha=>?_
 have hl12:as.length=12:=hl
 refine ⟨by rw [List.length_map]; exact aC (by omega),fun U hU=>?_⟩
 have s2:Same H1 (upd H1 U (.lst (as.map V.ref))):=(Same.refl H1).laid hU
 have eU:(upd H1 U (.lst (as.map V.ref))) U=some (.lst (as.map V.ref)):=ae
 generalize upd H1 U (.lst (as.map V.ref))=H2 at*
 have s12:=s1.trans s2
 walk_at "w"
 refine ⟨a,ns,0,rfl,s12.seq hS,hn,by decide,by decide,?_⟩
 walk_at "w"
 refine ⟨by decide,?_⟩
 generalize lawAt ns 0=n
 have j0:=Int.emod_nonneg n (show (12:Int)≠0 by decide)
 have j1:=Int.emod_lt_of_pos n (show (0:Int) < 12 by decide)
 have ej:n % 12=(((n % 12).toNat:Nat):Int):=by omega
 have hj:(n % 12).toNat < fl46.length:=by show _ < 12; omega
 rw [ej]
 generalize (n % 12).toNat=j at*
 have ea:as[j]? =some (as[j]'(by omega)):=List.getElem?_eq_getElem (by omega)
 have ep:fl46[j]? =some fl46[j]:=List.getElem?_eq_getElem hj
 have et:=ha j _ _ ea ep
 have ok:=wJ _ (List.getElem_mem hj)
 generalize fl46[j]=pr at*
 refine ixL eU (v:=V.ref (as[j]'(by omega))) (gp (by rw [List.getElem?_map,ea]; rfl)) ?_
 refine qO (s2 _ _ et) rfl ?_
 rw [qP]
 walk_at "w"
 refine ⟨a,ns,1,rfl,s12.seq hS,hn,by decide,by decide,?_⟩
 walk_at "w"
 refine ⟨aC (by show (4:Nat)≤1000; decide),fun T hT=>?_⟩
 have s3:Same H2 (upd H2 T (.lst [V.int 3,V.int 4,V.int 6,V.int 2])):=(Same.refl H2).laid hT
 have eT:(upd H2 T (.lst [V.int 3,V.int 4,V.int 6,V.int 2])) T=some (.lst (([3,4,6,2]:List Int).map V.int)):=ae
 generalize upd H2 T (.lst [V.int 3,V.int 4,V.int 6,V.int 2])=H3 at*
 have s13:=s12.trans s3
 refine ⟨a,ns,2,rfl,s13.seq hS,hn,by decide,by decide,?_⟩
 walk_at "w"
 refine ⟨by decide,?_⟩
 have t0:=Int.emod_nonneg (lawAt ns 2) (show (4:Int)≠0 by decide)
 have t1:=Int.emod_lt_of_pos (lawAt ns 2) (show (0:Int) < 4 by decide)
 generalize lawAt ns 2 % 4=r at*
 refine ixI eT t0 (by show r < 4; omega) ?_
 have hm:1≤([3,4,6,2]:List Int).getD r.toNat 0∧([3,4,6,2]:List Int).getD r.toNat 0≤6:=by
  have:r=0∨r=1∨r=2∨r=3:=by omega
  rcases this with rfl | rfl | rfl | rfl <;> decide
 generalize ([3,4,6,2]:List Int).getD r.toNat 0=mm at*
 walk_at "w"
 refine ⟨by omega,?_⟩
 have g0:=Int.emod_nonneg (lawAt ns 1) (show mm≠0 by omega)
 have g1:=Int.emod_lt_of_pos (lawAt ns 1) (show 0 < mm by omega)
 refine ⟨aC (by show (3:Nat)≤1000; decide),fun p hp=>?_⟩
 exact q p _ pr.1 pr.2 _ (s13.trans ((Same.refl H3).laid hp)) (s13.free hp) ae ⟨ok.1,ok.2.1,ok.2.2.1,ok.2.2.2.1,ok.2.2.2.2,by omega,by omega⟩
theorem oK {g:Int} (g0:1≤g) (a:Nat):∀ k:Nat,1≤g^a∧g^a≤g^(a+k)
 | 0=>by
  refine ⟨?_,Int.le_refl _⟩
  induction a with
  | zero=>rw [Int.pow_zero]; exact Int.le_refl _
  | succ n ih=>rw [Int.pow_succ]; exact Int.le_trans g0 (by have:=Int.mul_le_mul_of_nonneg_right ih (show 0≤g by omega); rw [Int.one_mul] at this; exact this)
 | k+1=>by
  obtain ⟨h1,h2⟩:=oK g0 a k
  refine ⟨h1,?_⟩
  rw [show a+(k+1)=(a+k)+1 from rfl,Int.pow_succ]
  have:=Int.mul_le_mul_of_nonneg_left g0 (show 0≤g^(a+k) by omega)
  rw [Int.mul_one] at this
  omega
theorem px {g:Int} (g0:1≤g) {a b:Nat} (h:a≤b):g^a≤g^b:=by
 have:=(oK g0 a (b - a)).2
 rw [show a+(b - a)=b by omega] at this
 exact this
def b8 (K:PySem.W.Frag):Sp:=fun vs H Q _=>∃ (a p:Addr) (ns:List Int) (at_ h w g:Int),vs=[.ref a,.ref p,.int at_]∧SqL K H a (ns.map V.int)∧ns.length≤63∧0≤at_∧at_≤500∧IsFl H p h w g∧FlOk h w g∧
 ∀ (l:Addr) (H':Hp) (cs:List Nat),Same H H'→H l=none→H' l=some (.lst (nsV cs))→cs.Nodup→g^cs.length≤128→Q (.ref l) H'
theorem oM {K:PySem.W.Frag} {vs:List V} {H:Hp} {Q:VK} {E:XK} (h:b8 K vs H Q E):vs.length=3:=by
 obtain ⟨_,_,_,_,_,_,_,rfl,_⟩:=h; rfl
def eK (K:PySem.W.Frag):TS:=
 (tSeq (tAsg (tCall (bA K) [] E0 (tCons (tComp [none,none,some 2,some 0] (fM (tCons (tVar 3) tNil)) (gName 1) tTrue (tCall (aP K) [] E0 (tCons (tVar 3) (tCons (tOp cAdd (tVar 2) (tVar 1)) tNil)))) (tCons (tVar 3) tNil))) (gName 6))
  (tRet (tSl dQ (tVar 6) bE (tPart (tOp cMod (tCall (aP K) [] E0 (tCons (tVar 0) (tCons (tOp cAdd (tVar 2) (tVar 3)) tNil))) (tOp cAdd (tVar 4) (tC (.int 1))))))))
def eE (K:PySem.W.Frag):TS:=
 (tSeq (tAsg (tOp cMul (tOp cIx (tVar 1) (tC (.int 0))) (tOp cIx (tVar 1) (tC (.int 1)))) (gName 3))
  (tSeq (tAsg (tC (.int 0)) (gName 4))
  (tSeq (tAsg (tC (.int 1)) (gName 5))
  (tSeq (qt (tAnd (tTest (tOp (cCmp fun i j=>decide (i < j)) (tVar 4) (tVar 3))) (tTest (tOp (cCmp fun i j=>decide (i≤j)) (tOp cMul (tVar 5) (tOp cIx (tVar 1) (tC (.int 2)))) (tC (.int 128)))))
  (tSeq (tAsg (tOp cMul (tVar 5) (tOp cIx (tVar 1) (tC (.int 2)))) (gName 5))
  (tAsg (tOp cAdd (tVar 4) (tC (.int 1))) (gName 4))))
  (eK K)))))
theorem g9 {K:PySem.W.Frag} {H:Hp} {Q:VK} {a p:Addr} {ns:List Int} {at_ h w g:Int} {r:Nat} {v5:Option V} (hS:SqL K H a (ns.map V.int)) (hn:ns.length≤63) (a0:0≤at_) (a1:at_≤500) (F:FlOk h w g) (hr:r≤(h*w).toNat) (hg:g^r≤128)
  (q:∀ (l:Addr) (H':Hp) (cs:List Nat),Same H H'→H l=none→H' l=some (.lst (nsV cs))→cs.Nodup→g^cs.length≤128→Q (.ref l) H'):
  eK K { nx:=fun _ H'=>Q .non H',rt:=Q } [some (.ref a),some (.ref p),some (.int at_),some (.int (h*w)),some (.int (r:Int)),v5,none] H:=by
 obtain ⟨h0,h1,w0,w1,m16,g0,g1⟩:=id F
 have mpos:0≤h*w:=Int.mul_nonneg (by omega) (by omega)
 unfold eK
 walk_at "w"
 refine ⟨h*w,rfl,by omega,by omega,?_⟩
 refine lT (fun _=>true) (fun i=>lawAt ns (at_+(i:Int))) (by omega) ?_ ?_ ?_
 · intro i H1 R hi s1 k1
   exact k1 _ (Same.refl _)
 · intro i H1 Q1 hi hb s1 k1
   show tCall _ _ _ _ [none,some (.int (0+(i:Int))),some (.int at_),some (.ref a)] H1 Q1
   rw [Int.zero_add]
   walk_at "w"
   exact ⟨a,ns,_,rfl,s1.seq hS,hn,by omega,by omega,k1 _ (Same.refl _)⟩
 · intro X H1 hX s1 eX
   rw [aV] at eX
   walk_at "w"
   refine ⟨X,h*w,_,rfl,eX,mpos,m16,by simp; omega,fun l H2 cs s2 hl el nd lt len=>?_⟩
   have s12:=s1.trans s2
   walk_at "w"
   refine ⟨a,ns,_,rfl,s12.seq hS,hn,by omega,by omega,?_⟩
   walk_at "w"
   refine ⟨by omega,?_⟩
   have e0:=Int.emod_nonneg (lawAt ns (at_+h*w)) (show (r:Int)+1≠0 by omega)
   have e1:=Int.emod_lt_of_pos (lawAt ns (at_+h*w)) (show (0:Int) < (r:Int)+1 by omega)
   have ek:lawAt ns (at_+h*w) % ((r:Int)+1)=(((lawAt ns (at_+h*w) % ((r:Int)+1)).toNat:Nat):Int):=by omega
   rw [ek]
   generalize hk:(lawAt ns (at_+h*w) % ((r:Int)+1)).toNat=k at*
   refine i0 el fun b hb=>?_
   have ec:cutV (nsV cs) none (some (k:Int))=nsV (cs.take k):=by
    unfold nsV
    rw [rG V.int,← List.map_take]
   rw [ec]
   refine q b _ _ (s12.trans ((Same.refl H2).laid hb)) (s12.free hb) ae (List.Nodup.sublist (List.take_sublist k cs) nd) ?_
   refine Int.le_trans (px g0 (b:=r) ?_) hg
   rw [List.length_take]
   omega
theorem oN {K:PySem.W.Frag} {vs:List V} {H:Hp} {Q:VK} {E:XK} (h:b8 K vs H Q E):eE K { nx:=fun _ H'=>Q .non H',rt:=Q } (start ["_law_script","_law_floor","_law_at_here","_law_many","_law_room","_law_product","_law_order_here"] vs) H:=by
 obtain ⟨a,p,ns,at_,h,w,g,rfl,hS,hn,a0,a1,hp,F,q⟩:=h
 obtain ⟨h0,h1,w0,w1,m16,g0,g1⟩:=id F
 have mpos:0≤h*w:=Int.mul_nonneg (by omega) (by omega)
 show eE K _ [some (.ref a),some (.ref p),some (.int at_),none,none,none,none] H
 unfold eE
 walk_at "w"
 refine ixT hp (v:=V.int h) rfl ?_
 walk_at "w"
 refine ixT hp (v:=V.int w) rfl ?_
 walk_at "w"
 refine ⟨gW h0 h1,?_⟩
 refine ⟨fun m σ H'=>H'=H∧∃ r:Nat,σ=[some (.ref a),some (.ref p),some (.int at_),some (.int (h*w)),some (.int (r:Int)),some (.int (g^r)),none]∧r≤(h*w).toNat∧g^r≤128∧m=(h*w).toNat - r,⟨_,rfl,0,by rw [Int.pow_zero]; rfl,Nat.zero_le _,by rw [Int.pow_zero]; decide,rfl⟩,?_⟩
 rintro m σ H1 ⟨rfl,r,rfl,hr,hg,rfl⟩
 have hp1:=(oK g0 r 0).1
 walk_at "w"
 by_cases c1:(r:Int) < h*w
 · rw [decide_eq_true c1,if_pos rfl]
   refine ixT hp (v:=V.int g) rfl ?_
   walk_at "w"
   refine ⟨.inl ⟨by omega,by omega⟩,?_⟩
   by_cases c2:g^r*g≤128
   · rw [decide_eq_true c2,if_pos rfl]
     refine ⟨fun σ H'=>H'=H1∧σ=[some (.ref a),some (.ref p),some (.int at_),some (.int (h*w)),some (.int ((r+1:Nat):Int)),some (.int (g^(r+1))),none],fun σ' H' ⟨e1,e2⟩=>⟨(h*w).toNat - (r+1),by omega,e1,r+1,e2,by omega,by rw [Int.pow_succ]; exact c2,rfl⟩,?_⟩
     walk_at "w"
     refine ixT hp (v:=V.int g) rfl ?_
     walk_at "w"
     exact ⟨.inl ⟨by omega,by omega⟩,trivial,by rw [Int.pow_succ]; rfl⟩
   · rw [decide_eq_false c2,if_neg Bool.false_ne_true]
     exact g9 hS hn a0 a1 F hr hg q
 · rw [decide_eq_false c1,if_neg Bool.false_ne_true]
   exact g9 hS hn a0 a1 F hr hg q
theorem rJ {g:Int}:∀ (cl:List Int) (n:Int),cl.foldl (fun n c=>if c=0 then n*g else n) n=n*g^(cl.filter fun c=>decide (c=0)).length
 | [],n=>by simp
 | c::r,n=>by
  rw [List.foldl_cons,rJ r]
  by_cases h:c=0
  · rw [if_pos h,List.filter_cons,if_pos (by simpa using h),List.length_cons,Int.pow_succ,Int.mul_assoc,Int.mul_comm g]
  · rw [if_neg h,List.filter_cons,if_neg (by simpa using h)]
theorem sX {α:Type} [DecidableEq α]:∀ {xs ys:List α},xs.Nodup→(∀ x∈xs,x∈ys)→xs.length≤ys.length
 | [],_,_,_=>Nat.zero_le _
 | x::xs,ys,nd,h=>by
  have hx:=h x List.mem_cons_self
  have nd':=List.nodup_cons.mp nd
  have ih:=sX (xs:=xs) (ys:=ys.erase x) nd'.2 fun y hy=>by
   have ne:y≠x:=fun e=>nd'.1 (e ▸ hy)
   exact (List.mem_erase_of_ne ne).mpr (h y (List.mem_cons_of_mem _ hy))
  rw [List.length_erase_of_mem hx] at ih
  have:0 < ys.length:=List.length_pos_of_mem hx
  simp
  omega
def e7 (xs:List Int) (cs:List Nat) (i:Nat):Int:=xs.getD i 0*(if (!decide ((i:Int)∈cs.map fun (n:Nat)=>(n:Int)))=true then 1 else 0)
theorem xN {g:Int} {xs:List Int} {cs:List Nat} (g0:1≤g) (hx:∀ x∈xs,1≤x∧x≤g) (nd:cs.Nodup) (hc:g^cs.length≤128):freeP g ((List.range xs.length).map (e7 xs cs))≤128:=by
 unfold freeP
 rw [rJ,Int.one_mul]
 refine Int.le_trans (px g0 ?_) hc
 rw [List.filter_map,List.length_map]
 refine sX (List.Nodup.sublist List.filter_sublist List.nodup_range) fun i hi=>?_
 obtain ⟨hi,h0⟩:=List.mem_filter.mp hi
 have hlt:=List.mem_range.mp hi
 have h0:e7 xs cs i=0:=by simpa using h0
 have hb:=hx _ (List.getElem_mem hlt)
 have eg:xs.getD i 0=xs[i]:=by rw [List.getD,List.getElem?_eq_getElem hlt]; rfl
 unfold e7 at h0
 rw [eg] at h0
 by_cases hm:((i:Int)∈cs.map fun (n:Nat)=>(n:Int))
 · obtain ⟨n,hn,e⟩:=List.mem_map.mp hm
   have:n=i:=by omega
   rw [← this]; exact hn
 · rw [decide_eq_false hm] at h0
   simp at h0
   omega
structure Pz46 (H:Hp) (p Ll Cl:Addr) (h w g:Int) (rows:List RR) (cl:List Int):Prop where
 fl:IsFl H p h w g
 F:FlOk h w g
 n:rows.length≤12
 ok:∀ r∈rows,r.Ok h w g
 C:CluesOk h w g cl
 hL:H Ll=some (.lst ((rows.map RR.txt).map V.str))
 hC:H Cl=some (.lst (cl.map V.int))
 free:freeP g cl≤128
theorem Pz46.same {H H':Hp} {p Ll Cl:Addr} {h w g:Int} {rows:List RR} {cl:List Int} (x:Pz46 H p Ll Cl h w g rows cl) (s:Same H H'):Pz46 H' p Ll Cl h w g rows cl:=
 ⟨s _ _ x.fl,x.F,x.n,x.ok,x.C,s _ _ x.hL,s _ _ x.hC,x.free⟩
theorem Pz46.R {H:Hp} {p Ll Cl:Addr} {h w g:Int} {rows:List RR} {cl:List Int} {c:RCl RK} (x:Pz46 H p Ll Cl h w g rows cl) (hk:∀ k,k≠.Rule→c.ok k=true):gY c h w g rows:=⟨x.F,x.n,x.ok,fun r hr=>hk r.k (x.ok r hr).k0⟩
def bI (K:PySem.W.Frag):Sp:=fun vs H Q _=>∃ (a:Addr) (ns:List Int),vs=[.ref a]∧SqL K H a (ns.map V.int)∧ns.length≤63∧∀ (T p Ll Cl:Addr) (H':Hp) (h w g:Int) (rows:List RR) (cl:List Int),Same H H'→H' T=some (.tup [.ref p,.ref Ll,.ref Cl])→Pz46 H' p Ll Cl h w g rows cl→Q (.ref T) H'
theorem mr {K:PySem.W.Frag} {vs:List V} {H:Hp} {Q:VK} {E:XK} (h:bI K vs H Q E):vs.length=1:=by
 obtain ⟨_,_,rfl,_⟩:=h; rfl
def gm (K:PySem.W.Frag):TS:=
 (tSeq (tAsg (tCall (b8 K) [] E0 (tCons (tVar 0) (tCons (tVar 1) (tCons (tC (.int 20)) tNil)))) (gName 4))
  (tSeq (sComp 5 [none,none,none,some 4] (iEnum K (tCons (tVar 2) tNil)) (gTup K 2 (gCons (gName 1) (gCons (gName 2) gNil))) tTrue (tOp cMul (tVar 2) (tCB kg (tCons (tOp (cIn K true) (tVar 1) (tVar 3)) tNil))))
  (tRet (tTup (tCons (tVar 1) (tCons (tVar 3) (tCons (tVar 5) tNil)))))))
def de (K:PySem.W.Frag):TS:=
 (tSeq (tAsg (tCall (bb K) [] E0 (tCons (tVar 0) tNil)) (gName 1))
  (tSeq (tAsg (tCall (bw K) [] E0 (tCons (tVar 0) (tCons (tVar 1) (tCons (tC (.int 10)) tNil)))) (gName 2))
  (tSeq (sComp 3 [none,none,some 2,some 1,some 0] (fM (tCons (tOp cMod (tCall (aP K) [] E0 (tCons (tVar 0) (tCons (tC (.int 3)) tNil))) (tC (.int 6))) tNil)) (gName 1) tTrue (tCall (b6 K) [] E0 (tCons (tVar 3) (tCons (tVar 2) (tCons (tCall (aP K) [] E0 (tCons (tVar 4) (tCons (tOp cAdd (tC (.int 4)) (tVar 1)) tNil))) tNil)))))
  (gm K))))
theorem mt {K:PySem.W.Frag} {vs:List V} {H:Hp} {Q:VK} {E:XK} (h:bI K vs H Q E):de K { nx:=fun _ H'=>Q .non H',rt:=Q } (start ["_law_script","_law_floor","_law_filling_here","_law_lines","_law_empty","_law_clues"] vs) H:=by
 obtain ⟨a,ns,rfl,hS,hn,q⟩:=h
 show de K _ [some (.ref a),none,none,none,none,none] H
 unfold de
 walk_at "w"
 refine ⟨a,ns,rfl,hS,hn,fun p H1 h w g s1 hp ep F=>?_⟩
 obtain ⟨h0,h1,w0,w1,m16,g0,g1⟩:=id F
 have mpos:0≤h*w:=Int.mul_nonneg (by omega) (by omega)
 walk_at "w"
 refine ⟨a,p,ns,10,h,w,g,rfl,s1.seq hS,hn,by decide,by decide,ep,F,fun f H2 xs s2 hf ef hl hx=>?_⟩
 have s12:=s1.trans s2
 walk_at "w"
 refine ⟨a,ns,3,rfl,s12.seq hS,hn,by decide,by decide,?_⟩
 walk_at "w"
 have c0:=Int.emod_nonneg (lawAt ns 3) (show (6:Int)≠0 by decide)
 have c1:=Int.emod_lt_of_pos (lawAt ns 3) (show (0:Int) < 6 by decide)
 refine ⟨by decide,?_⟩
 generalize lawAt ns 3 % 6=many at*
 refine ⟨many,rfl,by omega,by omega,?_⟩
 refine u9 (c:=⟨fun _=>a,fun _=>true⟩) (h:=h) (w:=w) (g:=g) F (by omega) (fun _ _=>rfl) ?_ ?_
 · intro i H4 Q4 hi s4 k4
   show tCall _ _ _ _ [none,some (.int (0+(i:Int))),some (.ref f),some (.ref p),some (.ref a)] H4 Q4
   walk_at "w"
   refine ⟨a,ns,_,rfl,(s12.trans s4).seq hS,hn,by omega,by omega,?_⟩
   walk_at "w"
   exact ⟨p,f,h,w,g,_,xs,rfl,⟨s4 _ _ (s2 _ _ ep),F,s4 _ _ ef,hl,fun x hm=>by have:=hx x hm; omega⟩,k4⟩
 · intro Ll rows H4 hLl s4 eLl hlen R
   have s14:=s12.trans s4
   have ef4:=s4 _ _ ef
   unfold gm
   walk_at "w"
   refine ⟨a,p,ns,20,h,w,g,rfl,s14.seq hS,hn,by decide,by decide,s4 _ _ (s2 _ _ ep),F,fun O H5 cs s5 hO eO nd hg=>?_⟩
   have ef5:=s5 _ _ ef4
   have s15:=s14.trans s5
   walk_at "w"
   refine ⟨f,rfl,⟨_,SqL.of ef5⟩,?_⟩
   refine tL (xs:=xs.map V.int) (fun _=>true) (fun i=>.int (e7 xs cs i)) (by rw [List.length_map]; omega) (by decide) (SqL.of ef5) ?_ ?_ ?_
   · intro i x H6 R6 hi s6 k6
     exact k6 _ (Same.refl _)
   · intro i x H6 Q6 hi hb s6 k6
     obtain ⟨z,hz,rfl⟩:=bf hi
     have q1:=k6 _ (Same.refl H6)
     unfold e7 at q1
     rw [cN hz] at q1
     have hzb:=hx z (List.mem_of_getElem? hz)
     show tOp cMul _ _ [none,some (.int (i:Int)),some (.int z),some (.ref O)] H6 Q6
     walk_at "w"
     rw [tI (ns:=cs.map fun (n:Nat)=>(n:Int)) (s6 _ _ eO),jv]
     exact ⟨.inl ⟨by omega,by omega⟩,q1⟩
   · intro Cl H6 hCl s6 eCl
     have e2:((List.range (xs.map V.int).length).filter fun _=>true).map (fun i=>V.int (e7 xs cs i))=((List.range xs.length).map (e7 xs cs)).map V.int:=by
      rw [aV,List.length_map,List.map_map]; rfl
     rw [e2] at eCl
     have fr:=xN g0 hx nd hg
     have C:CluesOk h w g ((List.range xs.length).map (e7 xs cs)):=by
      refine ⟨by simp [hl],fun y hy=>?_⟩
      obtain ⟨i,hi,rfl⟩:=List.mem_map.mp hy
      have hlt:=List.mem_range.mp hi
      have hb:=hx _ (List.getElem_mem hlt)
      have eg:xs.getD i 0=xs[i]:=by rw [List.getD,List.getElem?_eq_getElem hlt]; rfl
      unfold e7
      rw [eg]
      split <;> omega
     generalize (List.range xs.length).map (e7 xs cs)=cl at*
     have s16:=s15.trans s6
     walk_at "w"
     refine ⟨aC (by show (3:Nat)≤1000; decide),fun T hT=>?_⟩
     have s7:Same H6 (upd H6 T (.tup [.ref p,.ref Ll,.ref Cl])):=(Same.refl H6).laid hT
     have s26:=(s4.trans s5).trans s6
     exact q T p Ll Cl _ h w g rows cl (s16.trans s7) ae (Pz46.same ⟨s26 _ _ (s2 _ _ ep),F,R.n,R.ok,C,(s5.trans s6) _ _ eLl,eCl,fr⟩ s7)
theorem vf {K:PySem.W.Frag} {H1:Hp} {B:Addr} {bs:List Addr} {LL:List (List Int)} {tt:TT} {σ0:St} {fin:Addr→Hp→Prop} (p:List Int→Bool) (x:IsLL H1 B bs LL) (hn:LL.length≤1100) (hσ:1 < σ0.length)
  (ht:∀ (b:Addr) (f:List Int) H R,f∈LL→H1 b=some (.lst (f.map V.int))→Same H1 H→(∀ H',Same H H'→R (p f) H')→tt (σ0.set 1 (some (.ref b))) H R)
  (hd:∀ l cs H,H1 l=none→Same H1 H→IsLL H l cs (LL.filter p)→l∉cs→(∀ c∈cs,c∈bs)→fin l H):CompR (Itl K B) (gName 1) tt (tVar 1) fin σ0 H1:=by
 have hxl:=x.len
 refine iZ (xs:=bs.map V.ref) (fun l i σ H=>(σ=σ0∨∃ cv,σ=σ0.set 1 cv)∧Same H1 H∧∃ cs,IsLL H l cs ((LL.take i).filter p)∧l∉cs∧∀ c∈cs,c∈bs) (fun l hl=>⟨.inl rfl,(Same.refl H1).laid hl,[],⟨by rw [ae]; rfl,rfl,fun j a xs h1=>by simp at h1⟩,by simp,(fun c hc=>nomatch hc)⟩) (fun l i σ H _ _ p=>p.2.1.seq (SqL.of x.top)) ?_ ?_
 · rintro l i y σ H hl hy ⟨hσ2,s1,cs,xl,nl,sub⟩
   obtain ⟨b,hb,rfl⟩:=bL hy
   obtain ⟨f,ef,eb⟩:=x.get hb
   rw [bv]
   have e:σ.set 1 (some (.ref b))=σ0.set 1 (some (.ref b)):=by
    rcases hσ2 with rfl | ⟨cv,rfl⟩
    · rfl
    · exact List.set_set ..
   rw [e]
   refine ht b f H _ (List.mem_of_getElem? ef) eb s1 fun H2 s2=>?_
   have xl2:=xl.same s2
   have s12:=s1.trans s2
   cases hp:p f with
   | false=>
    rw [if_neg Bool.false_ne_true]
    refine ⟨.inr ⟨_,rfl⟩,s12,cs,?_,nl,sub⟩
    rw [db ef,List.filter_append,List.filter_cons,hp]
    simpa using xl2
   | true=>
    rw [if_pos rfl,gJ]
    refine ⟨.ref b,by rw [List.getElem?_set_self hσ],cs.map V.ref,xl2.top,?_,.inr ⟨_,rfl⟩,s12.own hl,cs++[b],?_,?_,?_⟩
    · rw [List.length_map,xl2.len]
      have h4:=List.length_filter_le p (LL.take i)
      have h5:(LL.take i).length≤LL.length:=by rw [List.length_take]; exact Nat.min_le_right _ _
      exact kW (by omega)
    · have nb:l≠b:=fun z=>by rw [← z,hl] at eb; cases eb
      have z:=xl2.app (bs:=[b]) (yss:=[f]) nl (by simpa using nb) rfl fun j a ys h1 h2=>by
       have hj:j=0:=by have:=(List.getElem?_eq_some_iff.mp h1).1; simp at this; omega
       subst hj
       cases h1
       cases h2
       exact s12 _ _ eb
      rw [db ef,List.filter_append,List.filter_cons,hp]
      simpa using z
    · intro h
      rcases List.mem_append.mp h with h | h
      · exact nl h
      · rw [List.mem_singleton.mp h,eb] at hl; cases hl
    · intro c hc
      rcases List.mem_append.mp hc with hc | hc
      · exact sub c hc
      · rw [List.mem_singleton.mp hc]; exact List.mem_of_getElem? hb
 · rintro l σ H hl ⟨_,s1,cs,xl,nl,sub⟩
   have e:LL.take (bs.map V.ref).length=LL:=List.take_of_length_le (by rw [List.length_map,hxl]; exact Nat.le_refl _)
   rw [e] at xl
   exact hd l cs H hl s1 xl nl sub
theorem IsLL.cut {H H':Hp} {l m:Addr} {as:List Addr} {xss:List (List Int)} (x:IsLL H l as xss) (s:Same H H') (k:Nat) (e:H' m=some (.lst ((as.take k).map V.ref))):IsLL H' m (as.take k) (xss.take k):=by
 refine ⟨e,by rw [List.length_take,List.length_take,x.len],fun j a xs h1 h2=>?_⟩
 rw [List.getElem?_take] at h1 h2
 split at h1
 · rename_i h
   rw [if_pos h] at h2
   exact s _ _ (x.at_ j a xs h1 h2)
 · cases h1
theorem vg {h w g:Int} {rows:List RR} {cl ns f:List Int} {k:Nat} (hf:f∈iJ h w g rows cl ns k):f∈bt (trysL g cl ns)∧metB h w g rows cl f=true:=by
 unfold iJ at hf
 exact List.mem_filter.mp (List.mem_of_mem_take hf)
def zer (cl:List Int):List Int:=List.replicate cl.length 0
theorem vQ (cl:List Int) (i:Nat):(zer cl).getD i 0=0:=by
 unfold zer
 rw [List.getD,List.getElem?_replicate]
 split <;> rfl
theorem t5 (g:Int):bP g 0=rngL 1 (g+1):=by
 unfold bP
 rw [Int.zero_emod]
 simp
theorem vh {g:Int} {cl:List Int} {i:Nat} {z:Int} (hz:cl[i]? =some z):(trysL g cl (zer cl))[i]? =some (if z=0 then rngL 1 (g+1) else [z]):=by
 have hi:=(List.getElem?_eq_some_iff.mp hz).1
 unfold trysL
 rw [List.getElem?_map,List.getElem?_range hi]
 show some (if cl.getD i 0=0 then bP g ((zer cl).getD i 0) else [cl.getD i 0])=_
 rw [cN hz,vQ,t5]
def bg (K:PySem.W.Frag) (c:RCl RK) (d:RCl PzK):Sp:=fun vs H Q _=>∃ (P L G:Addr) (h w g most:Int) (rows:List RR) (cl:List Int),vs=[.ref P,.int most]∧IsPz H c d P L G h w g rows cl∧freeP g cl≤1024∧0≤most∧
 ∀ (l:Addr) (bs:List Addr) (H':Hp),Same H H'→H l=none→IsLL H' l bs (iJ h w g rows cl (zer cl) most.toNat)→l∉bs→(∀ b∈bs,H b=none)→Q (.ref l) H'
theorem nV {K:PySem.W.Frag} {c:RCl RK} {d:RCl PzK} {vs:List V} {H:Hp} {Q:VK} {E:XK} (h:bg K c d vs H Q E):vs.length=2:=by
 obtain ⟨_,_,_,_,_,_,_,_,_,rfl,_⟩:=h; rfl
def ii (K:PySem.W.Frag) (c:RCl RK) (d:RCl PzK):TS:=
 (tRet (tCall (dl K c d) [] E0 (tCons (tVar 0) (tCons (tOp cRepL (tLst (tCons (tC (.int 0)) tNil)) (tCall (aN K) [] E0 (tCons (aO d d.ok "place" (dW K c d) (tVar 0) tNil) tNil))) (tCons (tVar 1) tNil)))))
theorem t6 {K:PySem.W.Frag} {c:RCl RK} {d:RCl PzK} {vs:List V} {H:Hp} {Q:VK} {E:XK} (h:bg K c d vs H Q E):ii K c d { nx:=fun _ H'=>Q .non H',rt:=Q } (start ["puzzle","most"] vs) H:=by
 obtain ⟨P,L,G,h,w,g,most,rows,cl,rfl,x,hfree,m0,q⟩:=h
 obtain ⟨dx,p0,rs,h1,h2,h3⟩:=x.ex
 obtain ⟨f0,f1,w0,w1,m16,g0,g1⟩:=id x.R.F
 have mpos:0≤h*w:=Int.mul_nonneg (by omega) (by omega)
 show ii K c d _ [some (.ref P),some (.int most)] H
 unfold ii
 walk_at "w"
 refine ⟨aC (by show (1:Nat)≤1000; decide),fun Z hZ=>?_⟩
 have s1:Same H (upd H Z (.lst [V.int 0])):=(Same.refl H).laid hZ
 have eZ:(upd H Z (.lst [V.int 0])) Z=some (.lst [V.int 0]):=ae
 generalize upd H Z (.lst [V.int 0])=H1 at*
 refine methE (k:=.Puzzle) rfl x.ok (s1 _ _ h1) (by rfl) ?_
 walk_at "w"
 refine ⟨P,L,G,h,w,g,rows,cl,rfl,x.same s1,fun p hp=>?_⟩
 walk_at "w"
 refine ⟨p,h,w,g,rfl,hp,f0,f1,?_⟩
 walk_at "w"
 refine xp eZ (by omega) (by omega) (by show (1:Nat)≤1; decide) fun N hN=>?_
 have s2:Same H1 (upd H1 N (.lst (List.replicate (h*w).toNat [V.int 0]).flatten)):=(Same.refl H1).laid hN
 have eN:(upd H1 N (.lst (List.replicate (h*w).toNat [V.int 0]).flatten)) N=some (.lst ((zer cl).map V.int)):=by
  rw [ae]
  unfold zer
  rw [x.C.len,List.map_replicate]
  simp
 generalize upd H1 N (.lst (List.replicate (h*w).toNat [V.int 0]).flatten)=H2 at*
 have s12:=s1.trans s2
 refine ⟨P,L,G,N,h,w,g,most,rows,cl,zer cl,rfl,x.same s12,eN,by unfold zer; simp,hfree,m0,fun l bs H3 s3 hl xl nl fr=>?_⟩
 exact q l bs H3 (s12.trans s3) (s12.free hl) xl nl fun b hb=>s12.free (fr b hb)
def bJ (K:PySem.W.Frag):Sp:=fun vs H Q _=>∃ (p Cl:Addr) (h w g:Int) (cl:List Int),vs=[.ref p,.ref Cl]∧IsFl H p h w g∧FlOk h w g∧H Cl=some (.lst (cl.map V.int))∧cl.length≤16∧freeP g cl≤1024∧
 ∀ (l:Addr) (bs:List Addr) (H':Hp),Same H H'→H l=none→IsLL H' l bs (bt (trysL g cl (zer cl)))→l∉bs→(∀ b∈bs,H b=none)→Q (.ref l) H'
theorem mw {K:PySem.W.Frag} {vs:List V} {H:Hp} {Q:VK} {E:XK} (h:bJ K vs H Q E):vs.length=2:=by
 obtain ⟨_,_,_,_,_,_,rfl,_⟩:=h; rfl
def t7 (K:PySem.W.Frag):TS:=
 (tSeq (tAsg (tLst tNil) (gName 5))
  (tSeq (tFor (iList K (tVar 2)) (gName 6)
  (tDrop (tBM K "list" ju (tVar 5) (tCons (tComp [none,none,some 6] (iList K (tVar 4)) (gName 1) tTrue (tOp cAdd (tVar 2) (tLst (tCons (tVar 1) tNil)))) tNil))))
  (tAsg (tVar 5) (gName 2))))
def df (K:PySem.W.Frag):TS:=
 (tSeq (tAsg (tLst (tCons (tLst tNil) tNil)) (gName 2))
  (tSeq (tFor (iList K (tVar 1)) (gName 3)
  (tSeq (tAsg (tLst (tCons (tVar 3) tNil)) (gName 4))
  (tSeq (tIfS (tTest (tOp (cEq K) (tVar 3) (tC (.int 0)))) (tAsg (i4 (tCons (tC (.int 1)) (tCons (tOp cAdd (tOp cIx (tVar 0) (tC (.int 2))) (tC (.int 1))) tNil))) (gName 4)) tNext)
  (t7 K))))
  (tRet (tVar 2))))
theorem wK {K:PySem.W.Frag} {D:Ends} {H:Hp} {v0 v1 v3 v5 v6:Option V} {F S:Addr} {as:List Addr} {fss:List (List Int)} {ss:List Int} (x:IsLL H F as fss) (hS:H S=some (.lst (ss.map V.int))) (hn:fss.length*ss.length≤1100) (hs:ss.length≤100) (hf:∀ f∈fss,f.length≤16)
  (q:∀ (l:Addr) (bs:List Addr) (H':Hp) (v6:Option V),Same H H'→H l=none→IsLL H' l bs (extL fss ss)→l∉bs→(∀ b∈bs,H b=none)→D.nx [v0,v1,some (.ref l),v3,some (.ref S),some (.ref l),v6] H'):
  t7 K D [v0,v1,some (.ref F),v3,some (.ref S),v5,v6] H:=by
 unfold t7
 walk_at "w"
 refine ⟨aC (by show (0:Nat)≤1000; decide),fun l hl=>?_⟩
 have s1:Same H (upd H l (.lst [])):=(Same.refl H).laid hl
 have el:(upd H l (.lst [])) l=some (.lst []):=ae
 generalize upd H l (.lst [])=H1 at*
 refine ⟨⟨_,SqL.of (s1 _ _ x.top)⟩,?_⟩
 refine cB (K:=K) (xs:=as.map V.ref) (fun i σ H'=>∃ (v:Option V) (bs:List Addr),σ=[v0,v1,some (.ref F),v3,some (.ref S),some (.ref l),v]∧Same H H'∧IsLL H' l bs (extL (fss.take i) ss)∧l∉bs∧∀ b∈bs,H b=none)
  ⟨_,[],rfl,s1,⟨el,rfl,fun j a xs h1=>by simp at h1⟩,by simp,fun b hb=>nomatch hb⟩ (fun i σ H' _ ⟨_,_,_,s,_⟩=>s.seq (SqL.of x.top)) ?_ ?_
 · rintro i y σ H2 hy ⟨v,bs,rfl,s2,x2,nl,fr⟩
   obtain ⟨f,hfa,rfl⟩:=bL hy
   obtain ⟨xs,ex,ef⟩:=x.get hfa
   walk_at "w"
   refine ⟨cC x2.top,⟨_,SqL.of (s2 _ _ hS)⟩,?_⟩
   refine rC (ss:=ss) (xs:=xs) (s2 _ _ hS) (s2 _ _ ef) hs (hf xs (List.mem_of_getElem? ex)) fun m cs H3 hm s3 em nw=>?_
   have hb:bs.length+cs.length≤1100:=by
    have l1:=x2.len
    rw [kj,List.length_take] at l1
    have l2:=nw.len
    rw [List.length_map] at l2
    have hi:=(List.getElem?_eq_some_iff.mp ex).1
    have e1:min i fss.length=i:=by omega
    rw [e1] at l1
    have:=Nat.mul_le_mul_right ss.length (show i+1≤fss.length by omega)
    rw [Nat.succ_mul] at this
    omega
   refine pq (s3 _ _ x2.top) em (by rw [List.length_map,List.length_map]; exact hb) ?_
   obtain ⟨z1,z2,z3⟩:=rD x2 nl s2 hl fr s3 nw
   refine ⟨_,bs++cs,rfl,(s2.trans s3).own hl,?_,z2,z3⟩
   rw [db ex,rq]
   exact z1
 · rintro σ H2 ⟨v,bs,rfl,s2,x2,nl,fr⟩
   walk_at "w"
   have e:fss.take (as.map V.ref).length=fss:=List.take_of_length_le (by rw [List.length_map,x.len]; exact Nat.le_refl _)
   rw [e] at x2
   exact q l bs H2 v s2 hl x2 nl fr
def vZ (H:Hp) (p Cl:Addr) (g:Int) (cl:List Int) (i:Nat) (σ:St) (H':Hp):Prop:=∃ (l:Addr) (v3 v4 v5 v6:Option V) (bs:List Addr),σ=[some (.ref p),some (.ref Cl),some (.ref l),v3,v4,v5,v6]∧Same H H'∧H l=none∧IsLL H' l bs (bt ((trysL g cl (zer cl)).take i))∧l∉bs∧∀ b∈bs,H b=none
theorem mx {K:PySem.W.Frag} {vs:List V} {H:Hp} {Q:VK} {E:XK} (h:bJ K vs H Q E):df K { nx:=fun _ H'=>Q .non H',rt:=Q } (start ["_law_floor","_law_clues","_law_found","_law_clue","_law_signs","_law_longer","_law_one"] vs) H:=by
 obtain ⟨p,Cl,h,w,g,cl,rfl,hp,F,hC,h16,hfree,q⟩:=h
 obtain ⟨h0,h1,w0,w1,m16,g0,g1⟩:=id F
 show df K _ [some (.ref p),some (.ref Cl),none,none,none,none,none] H
 unfold df
 walk_at "w"
 refine ⟨aC (by show (0:Nat)≤1000; decide),fun e he=>?_⟩
 have s1:Same H (upd H e (.lst [])):=(Same.refl H).laid he
 have ee:(upd H e (.lst [])) e=some (.lst []):=ae
 generalize upd H e (.lst [])=H1 at*
 refine ⟨aC (by show (1:Nat)≤1000; decide),fun l hl=>?_⟩
 have s2:Same H1 (upd H1 l (.lst [V.ref e])):=(Same.refl H1).laid hl
 have el:(upd H1 l (.lst [V.ref e])) l=some (.lst [V.ref e]):=ae
 have nle:l≠e:=fun z=>by rw [z,ee] at hl; cases hl
 generalize upd H1 l (.lst [V.ref e])=H2 at*
 have s12:=s1.trans s2
 refine ⟨⟨_,SqL.of (s12 _ _ hC)⟩,?_⟩
 refine cB (K:=K) (xs:=cl.map V.int) (vZ H p Cl g cl)
  ⟨l,none,none,none,none,[e],rfl,s12,s1.free hl,⟨el,rfl,fun j a xs h1 h2=>?_⟩,by simpa using nle,fun b hb=>by rw [List.mem_singleton.mp hb]; exact he⟩ (fun i σ H' _ ⟨_,_,_,_,_,_,_,s,_⟩=>s.seq (SqL.of hC)) ?_ ?_
 · have hj:j=0:=by have:=(List.getElem?_eq_some_iff.mp h1).1; simp at this; omega
   subst hj
   cases h1
   cases h2
   exact s2 _ _ ee
 · rintro i u σ H4 hu ⟨l,v3,v4,v5,v6,bs,rfl,s34,hl,x4,nl,fr⟩
   obtain ⟨z,hz,rfl⟩:=bf hu
   have hg:=vh (g:=g) hz
   have fin:∀ (D:Ends) (S:Addr) (ss:List Int) (H5:Hp),D.nx=vZ H p Cl g cl (i+1)→ss=(if z=0 then rngL 1 (g+1) else [z])→Same H4 H5→H5 S=some (.lst (ss.map V.int))→
     t7 K D [some (.ref p),some (.ref Cl),some (.ref l),some (.int z),some (.ref S),v5,v6] H5:=fun D S ss H5 hD ess s5 eS=>by
    rw [← ess] at hg
    have s05:=s34.trans s5
    have hme:=kZ g0 g1 (List.mem_of_getElem? hg)
    refine wK (x4.same s5) eS ?_ hme.2 ?_ fun l' cs H6 w8 s6 hl6 x6 nl6 fr6=>?_
    · rw [ig,← rB hg]
      have h1:=pj (i+1) fun ss hss=>(kZ (cl:=cl) (ns:=zer cl) g0 g1 hss).1
      have h2:=i8 (cl:=cl) (ns:=zer cl) g0
      omega
    · intro f hf
      rw [ge hf,List.length_take,gw]
      omega
    · rw [← pk hg] at x6
      rw [hD]
      exact ⟨l',_,_,_,_,cs,rfl,s05.trans s6,s05.free hl6,x6,nl6,fun b hb=>s05.free (fr6 b hb)⟩
   walk_at "w"
   refine ⟨aC (by show (1:Nat)≤1000; decide),fun S hS=>?_⟩
   have s5:Same H4 (upd H4 S (.lst [V.int z])):=(Same.refl H4).laid hS
   have eS:(upd H4 S (.lst [V.int z])) S=some (.lst (([z]:List Int).map V.int)):=ae
   generalize upd H4 S (.lst [V.int z])=H5 at*
   rw [aT]
   walk_at "w"
   by_cases hz0:z=0
   · rw [decide_eq_true hz0]
     refine iteT ?_
     refine ixT ((s34.trans s5) _ _ hp) (v:=V.int g) rfl ?_
     walk_at "w"
     refine ⟨1,g+1,rfl,⟨by omega,by omega,by omega,by omega⟩,fun S2 hS2=>?_⟩
     exact fin _ S2 _ _ rfl (by rw [if_pos hz0]) (s5.trans ((Same.refl H5).laid hS2)) ae
   · rw [decide_eq_false hz0]
     refine iteF ?_
     exact fin _ S [z] H5 rfl (by rw [if_neg hz0]) s5 eS
 · rintro σ H3 ⟨l,v3,v4,v5,v6,bs,rfl,s3,hl,x3,nl,fr⟩
   walk_at "w"
   have e:(trysL g cl (zer cl)).take (cl.map V.int).length=trysL g cl (zer cl):=List.take_of_length_le (by rw [List.length_map,gw]; exact Nat.le_refl _)
   rw [e] at x3
   exact q l bs H3 s3 hl x3 nl fr
def bn (K:PySem.W.Frag):Sp:=fun vs H Q _=>∃ (F D:Addr) (as bs:List Addr) (xss:List (List Int)),vs=[.ref F,.ref D]∧IsLL H F as xss∧IsLL H D bs xss∧(∀ xs∈xss,xs.length≤100)∧∀ H',Same H H'→Q (.bl true) H'
theorem pV {K:PySem.W.Frag} {vs:List V} {H:Hp} {Q:VK} {E:XK} (h:bn K vs H Q E):vs.length=2:=by
 obtain ⟨_,_,_,_,_,rfl,_⟩:=h; rfl
def fu (K:PySem.W.Frag):TS:=
 (tSeq (tIfS (tOr (tNot (tB (tCB kIsi (tCons (tVar 0) (tCons (tC (.ty "list")) tNil))))) (tTest (tOp (cNe K) (tCB kLen (tCons (tVar 0) tNil)) (tCB kLen (tCons (tVar 1) tNil))))) (tRet (tC (.bl false))) tNext)
  (tSeq (tFor (iZip K (tCons (tVar 0) (tCons (tVar 1) tNil))) (gTup K 2 (gCons (gName 2) (gCons (gName 3) gNil)))
  (tIfS (tOr (tNot (tB (tCB kIsi (tCons (tVar 2) (tCons (tC (.ty "list")) tNil))))) (tOr (tTest (tOp (cNe K) (tVar 2) (tVar 3))) (tTest (tOp (cNe K) (tCB kLen (tCons (tComp [none,none] (iList K (tVar 2)) (gName 1) (tB (tCall (cm K) [] E0 (tCons (tVar 1) tNil))) (tVar 1)) tNil)) (tCB kLen (tCons (tVar 3) tNil)))))) (tRet (tC (.bl false))) tNext))
  (tRet (tC (.bl true)))))
theorem pW {K:PySem.W.Frag} {vs:List V} {H:Hp} {Q:VK} {E:XK} (h:bn K vs H Q E):fu K { nx:=fun _ H'=>Q .non H',rt:=Q } (start ["_law_found","_law_due","_law_one","_law_other"] vs) H:=by
 obtain ⟨F,D,as,bs,xss,rfl,xF,xD,hx,q⟩:=h
 have l1:=xF.len
 have l2:=xD.len
 show fu K _ [some (.ref F),some (.ref D),none,none] H
 unfold fu
 rw [aF,aT]
 walk_at "w"
 refine qN xF.top ?_
 walk_at "w"
 rw [cE xF.top]
 walk_at "w"
 rw [cE xD.top,List.length_map,List.length_map,l1,l2]
 walk_at "w"
 rw [xu]
 walk_at "w"
 refine ⟨F,D,rfl,⟨_,SqL.of xF.top⟩,⟨_,SqL.of xD.top⟩,?_⟩
 refine wx (xs:=as.map V.ref) (ys:=bs.map V.ref) (fun i σ H'=>∃ v2 v3:Option V,σ=[some (.ref F),some (.ref D),v2,v3]∧Same H H') (by simp [l1,l2]) ⟨none,none,rfl,Same.refl _⟩ (fun i σ H' _ ⟨_,_,_,s⟩=>⟨s.seq (SqL.of xF.top),s.seq (SqL.of xD.top)⟩) ?_ ?_
 · rintro i u v T σ H1 hu hv ⟨v2,v3,rfl,s1⟩ hT
   obtain ⟨a,ha,rfl⟩:=bL hu
   obtain ⟨b,hb,rfl⟩:=bL hv
   obtain ⟨xs,ex,ea⟩:=xF.get ha
   have eb:=xD.at_ i b xs hb ex
   have hxs:=hx xs (List.mem_of_getElem? ex)
   have sT:Same H1 (upd H1 T (.tup [.ref a,.ref b])):=(Same.refl H1).laid hT
   refine qO ae rfl ?_
   rw [qP]
   generalize upd H1 T (.tup [.ref a,.ref b])=H2 at*
   have s2:=s1.trans sT
   have ea2:=s2 _ _ ea
   have eb2:=s2 _ _ eb
   show tIfS _ _ _ _ [some (.ref F),some (.ref D),some (.ref a),some (.ref b)] H2
   rw [aT]
   walk_at "w"
   refine qN ea2 ?_
   walk_at "w"
   refine vW ea2 eb2 ?_
   walk_at "w"
   refine ⟨⟨_,SqL.of ea2⟩,?_⟩
   refine d6 (xs:=xs) (fun _=>true) (fun x=>x) (by omega) (SqL.of ea2) ?_ ?_ ?_
   · intro y H3 R hy s3 k3
     show tB _ [none,some (.int y)] H3 R
     walk_at "w"
     exact ⟨y,rfl,⟨_,rfl,k3 _ (Same.refl _)⟩⟩
   · intro y H3 Q3 hy hb3 s3 k3
     exact ⟨_,rfl,k3 _ (Same.refl _)⟩
   · intro l H3 hl s3 el
     rw [aV,List.map_id'] at el
     walk_at "w"
     rw [cE el]
     walk_at "w"
     rw [cE (s3 _ _ eb2)]
     walk_at "w"
     exact ⟨_,_,rfl,s2.trans s3⟩
 · rintro σ H1 ⟨v2,v3,rfl,s1⟩
   walk_at "w"
   exact q _ s1
def bu (K:PySem.W.Frag) (c:RCl RK) (d:RCl PzK):Sp:=bg K c d
theorem nX {K:PySem.W.Frag} {c:RCl RK} {d:RCl PzK} {vs:List V} {H:Hp} {Q:VK} {E:XK} (h:bu K c d vs H Q E):vs.length=2:=nV h
def dJ (K:PySem.W.Frag) (c:RCl RK) (d:RCl PzK):TS:=
 (tSeq (tIfS (tTest (tOp (cEq K) (tVar 1) (tC (.int 2)))) (tRet (tCall (bg K c d) [.int 2] E0 (tCons (tVar 0) tNil))) tNext)
  (tRet (tCall (bg K c d) [] E0 (tCons (tVar 0) (tCons (tVar 1) tNil)))))
theorem nY {K:PySem.W.Frag} {c:RCl RK} {d:RCl PzK} {vs:List V} {H:Hp} {Q:VK} {E:XK} (h:bu K c d vs H Q E):dJ K c d { nx:=fun _ H'=>Q .non H',rt:=Q } (start ["_law_puzzle_here","_law_most"] vs) H:=by
 obtain ⟨P,L,G,h,w,g,most,rows,cl,rfl,x,hfree,m0,q⟩:=h
 show dJ K c d _ [some (.ref P),some (.int most)] H
 unfold dJ
 rw [aF,aT]
 walk_at "w"
 by_cases h2:most=2
 · rw [decide_eq_true h2]
   subst h2
   refine iteT ?_
   exact ⟨P,L,G,h,w,g,2,rows,cl,rfl,x,hfree,m0,q⟩
 · rw [decide_eq_false h2]
   refine iteF ?_
   exact ⟨P,L,G,h,w,g,most,rows,cl,rfl,x,hfree,m0,q⟩
def rK (K:PySem.W.Frag) (c:RCl RK) (d:RCl PzK):Sp:=fun vs H Q _=>∃ (a:Addr) (ns:List Int),vs=[.ref a]∧SqL K H a (ns.map V.int)∧ns.length≤63∧(∀ k,k≠.Rule→c.ok k=true)∧d.ok .Puzzle=true∧∀ H',Q (.bl true) H'
def oO (K:PySem.W.Frag):Sp:=fun vs H Q _=>∃ (a:Addr) (ns:List Int),vs=[.ref a]∧SqL K H a (ns.map V.int)∧ns.length≤63∧∀ H',Q (.bl true) H'
theorem xO {K:PySem.W.Frag} {c:RCl RK} {d:RCl PzK} {vs:List V} {H:Hp} {Q:VK} {E:XK} (h:rK K c d vs H Q E):vs.length=1:=by
 obtain ⟨_,_,rfl,_⟩:=h; rfl
def k5 (K:PySem.W.Frag) (c:RCl RK) (d:RCl PzK):TS:=
 (tSeq (tIfS (tOr (tTest (tOp (cNe K) (aO d d.ok "lines" (ki K c d) (tVar 4) tNil) (tVar 2))) (tTest (tOp (cNe K) (aO d d.ok "clues" (dX K c d) (tVar 4) tNil) (tVar 3)))) (tRet (tC (.bl false))) tNext)
  (tRet (tAndV (tCall (bn K) [] E0 (tCons (tCall (bg K c d) [.int 2] E0 (tCons (tVar 4) tNil)) (tCons (tSl dQ (tVar 6) bE (tPart (tC (.int 2)))) tNil))) (tCall (bn K) [] E0 (tCons (tCall (bu K c d) [] E0 (tCons (tVar 4) (tCons (tVar 7) tNil))) (tCons (tSl dQ (tVar 6) bE (tPart (tVar 7))) tNil))))))
def pz (K:PySem.W.Frag) (c:RCl RK) (d:RCl PzK):TS:=
 (tSeq (tFor (iList K (tVar 8)) (gName 5)
  (tDrop (tF K "list" kL (tVar 5))))
  (tSeq (tDrop (tF K "list" kL (tVar 8)))
  (k5 K c d)))
def k7 (K:PySem.W.Frag) (c:RCl RK) (d:RCl PzK):TS:=
 (tSeq (tAsg (tCall (bu K c d) [] E0 (tCons (tVar 4) (tCons (tVar 7) tNil))) (gName 8))
  (tSeq (tIfS (tNot (tB (tCall (bn K) [] E0 (tCons (tVar 8) (tCons (tSl dQ (tVar 6) bE (tPart (tVar 7))) tNil))))) (tRet (tC (.bl false))) tNext)
  (pz K c d)))
def k8 (K:PySem.W.Frag) (c:RCl RK) (d:RCl PzK):TS:=
 (tSeq (tAsg (tOp cIx (tLst (tCons (tC (.int 1)) (tCons (tC (.int 2)) (tCons (tC (.int 3)) (tCons (tC (.int 4)) (tCons (tC (.int 129)) (tCons (tOp cPow (tC (.int 10)) (tC (.int 30))) tNil))))))) (tOp cMod (tCall (aP K) [] E0 (tCons (tVar 0) (tCons (tC (.int 40)) tNil))) (tC (.int 6)))) (gName 7))
  (k7 K c d))
def k9 (K:PySem.W.Frag) (c:RCl RK) (d:RCl PzK):TS:=
 (tSeq (sComp 6 [none,none,some 4] (iList K (tCall (bJ K) [] E0 (tCons (tVar 1) (tCons (tVar 3) tNil)))) (gName 1) (tB (aO d d.ok "meets" (gu K c d) (tVar 2) (tCons (tCB kList (tCons (tVar 1) tNil)) tNil))) (tVar 1))
  (k8 K c d))
def nZ (K:PySem.W.Frag) (c:RCl RK) (d:RCl PzK):TS:=
 (tSeq (tAsg (tCall (bI K) [] E0 (tCons (tVar 0) tNil)) (gTup K 3 (gCons (gName 1) (gCons (gName 2) (gCons (gName 3) gNil)))))
  (tSeq (tAsg (tMake (d.A .Puzzle) (aW K c d) [] E0 (tCons (tVar 1) (tCons (tCB kList (tCons (tVar 2) tNil)) (tCons (tCB kList (tCons (tVar 3) tNil)) tNil)))) (gName 4))
  (k9 K c d)))
structure L46 (H:Hp) (c:RCl RK) (d:RCl PzK) (p Ll Cl P L G M:Addr) (h w g:Int) (rows:List RR) (cl:List Int) (ms:List Addr):Prop where
 X:Pz46 H p Ll Cl h w g rows cl
 x:IsPz H c d P L G h w g rows cl
 met:IsLL H M ms ((bt (trysL g cl (zer cl))).filter (metB h w g rows cl))
theorem L46.same {H H':Hp} {c:RCl RK} {d:RCl PzK} {p Ll Cl P L G M:Addr} {h w g:Int} {rows:List RR} {cl:List Int} {ms:List Addr} (X:L46 H c d p Ll Cl P L G M h w g rows cl ms) (s:Same H H'):L46 H' c d p Ll Cl P L G M h w g rows cl ms:=
 ⟨X.X.same s,X.x.same s,X.met.same s⟩
theorem L46.short {H:Hp} {c:RCl RK} {d:RCl PzK} {p Ll Cl P L G M:Addr} {h w g:Int} {rows:List RR} {cl:List Int} {ms:List Addr} (X:L46 H c d p Ll Cl P L G M h w g rows cl ms) {k:Nat}:∀ xs∈iJ h w g rows cl (zer cl) k,xs.length≤100:=fun xs hx=>by
 have:=(vg hx).1
 rw [ge this,gw]
 have:=X.x.C.len
 have:=X.x.R.F.m
 omega
theorem t8 {K:PySem.W.Frag} {c:RCl RK} {d:RCl PzK} {H:Hp} {Q:VK} {p Ll Cl P L G M F:Addr} {h w g m:Int} {rows:List RR} {cl:List Int} {ms bs:List Addr} (X:L46 H c d p Ll Cl P L G M h w g rows cl ms) (m0:0≤m) (xF:IsLL H F bs (iJ h w g rows cl (zer cl) m.toNat)) (q:∀ H',Same H H'→Q (.bl true) H'):
  dQ (.ref M) none (some m) H fun x H1=>bn K [.ref F,x] H1 Q E0:=by
 refine i0 X.met.top fun D hD=>?_
 have em:m=((m.toNat:Nat):Int):=by omega
 have ec:cutV (ms.map V.ref) none (some m)=(ms.take m.toNat).map V.ref:=by
  rw [em]; exact rG V.ref ms _
 rw [ec]
 have s1:Same H (upd H D (.lst ((ms.take m.toNat).map V.ref))):=(Same.refl H).laid hD
 have xD:=X.met.cut s1 m.toNat ae
 exact ⟨F,D,bs,_,_,rfl,xF.same s1,xD,X.short,fun H' s'=>q H' (s1.trans s')⟩
theorem vi {K:PySem.W.Frag} {c:RCl RK} {d:RCl PzK} {H:Hp} {Q:VK} {a p Ll Cl P L G M:Addr} {h w g m:Int} {rows:List RR} {cl:List Int} {ms:List Addr} {v5 v8:Option V} (X:L46 H c d p Ll Cl P L G M h w g rows cl ms) (m0:0≤m) (k:∀ H',Q (.bl true) H'):
  k5 K c d { nx:=fun _ H'=>Q .non H',rt:=Q } [some (.ref a),some (.ref p),some (.ref Ll),some (.ref Cl),some (.ref P),v5,some (.ref M),some (.int m),v8] H:=by
 obtain ⟨dx,p0,rs,h1,h2,h3⟩:=X.x.ex
 have hfr:=X.X.free
 have sok:∀ t∈rows.map RR.txt,PyData.strOk t=true:=fun t ht=>by
  obtain ⟨r,hr,rfl⟩:=List.mem_map.mp ht
  exact RR.sok X.x.R.F (X.X.ok r hr)
 unfold k5
 rw [aF,aT]
 walk_at "w"
 refine methE (k:=.Puzzle) rfl X.x.ok h1 (by rfl) ?_
 walk_at "w"
 refine ⟨P,L,G,h,w,g,rows,cl,rfl,X.x,fun l H1 s1 hl el=>?_⟩
 walk_at "w"
 refine uW el (s1 _ _ X.X.hL) sok sok ?_
 walk_at "w"
 refine methE (k:=.Puzzle) rfl X.x.ok (s1 _ _ h1) (by rfl) ?_
 walk_at "w"
 refine ⟨P,L,G,h,w,g,rows,cl,rfl,X.x.same s1,fun l2 hl2=>?_⟩
 have s2:Same H1 (upd H1 l2 (.lst (cl.map V.int))):=(Same.refl H1).laid hl2
 have el2:(upd H1 l2 (.lst (cl.map V.int))) l2=some (.lst (cl.map V.int)):=ae
 generalize upd H1 l2 (.lst (cl.map V.int))=H2 at*
 have s12:=s1.trans s2
 have X2:=X.same s12
 walk_at "w"
 refine vW el2 X2.X.hC ?_
 walk_at "w"
 refine ⟨P,L,G,h,w,g,2,rows,cl,rfl,X2.x,by omega,by decide,fun F bs H3 s3 hF xF nF fr=>?_⟩
 walk_at "w"
 refine t8 (X2.same s3) (by decide) xF fun H4 s4=>?_
 refine ⟨_,rfl,iteT ?_⟩
 have X4:=(X2.same s3).same s4
 refine ⟨P,L,G,h,w,g,m,rows,cl,rfl,X4.x,by omega,m0,fun F2 bs2 H5 s5 hF2 xF2 nF2 fr2=>?_⟩
 walk_at "w"
 exact t8 (X4.same s5) m0 xF2 fun H6 _=>k H6
theorem vj {K:PySem.W.Frag} {c:RCl RK} {d:RCl PzK} {H:Hp} {Q:VK} {a p Ll Cl P L G M:Addr} {h w g m:Int} {rows:List RR} {cl:List Int} {ms:List Addr} (X:L46 H c d p Ll Cl P L G M h w g rows cl ms) (m0:0≤m) (k:∀ H',Q (.bl true) H'):
  k7 K c d { nx:=fun _ H'=>Q .non H',rt:=Q } [some (.ref a),some (.ref p),some (.ref Ll),some (.ref Cl),some (.ref P),none,some (.ref M),some (.int m),none] H:=by
 have hfr:=X.X.free
 unfold k7
 walk_at "w"
 refine ⟨P,L,G,h,w,g,m,rows,cl,rfl,X.x,by omega,m0,fun F bs H1 s1 hF xF nF fr=>?_⟩
 walk_at "w"
 rw [aT]
 walk_at "w"
 refine t8 (X.same s1) m0 xF fun H2 s2=>?_
 refine ⟨_,rfl,?_⟩
 refine iteF ?_
 have s12:=s1.trans s2
 have xF2:=xF.same s2
 unfold pz
 walk_at "w"
 refine ⟨⟨_,SqL.of xF2.top⟩,?_⟩
 refine cB (K:=K) (xs:=bs.map V.ref) (fun i σ H'=>∃ v5:Option V,σ=[some (.ref a),some (.ref p),some (.ref Ll),some (.ref Cl),some (.ref P),v5,some (.ref M),some (.int m),some (.ref F)]∧Same H H'∧H' F=some (.lst (bs.map V.ref))∧∀ b∈bs,∃ ys,H' b=some (.lst ys)) ⟨none,rfl,s12,xF2.top,fun b hb=>?_⟩ (fun i σ H' _ ⟨_,_,_,e,_⟩=>SqL.of e) ?_ ?_
 · obtain ⟨j,hj,e⟩:=List.mem_iff_getElem.mp hb
   obtain ⟨xs,_,eb⟩:=xF2.get (i:=j) (a:=b) (by rw [List.getElem?_eq_getElem hj,e])
   exact ⟨_,eb⟩
 · rintro i y σ H3 hy ⟨v5,rfl,s3,eF,hb⟩
   obtain ⟨b,hba,rfl⟩:=bL hy
   have hbm:=List.mem_of_getElem? hba
   obtain ⟨ys,eb⟩:=hb b hbm
   have nFb:F≠b:=fun z=>nF (z ▸ hbm)
   walk_at "w"
   refine ⟨cC eb,sM eb ⟨_,rfl,s3.own (fr b hbm),by rw [ah nFb]; exact eF,fun b2 hb2=>?_⟩⟩
   by_cases e:b2=b
   · rw [e,ae]; exact ⟨_,rfl⟩
   · rw [ah e]; exact hb b2 hb2
 · rintro σ H3 ⟨v5,rfl,s3,eF,hb⟩
   walk_at "w"
   refine ⟨cC eF,sM eF ?_⟩
   exact vi (X.same (s3.own hF)) m0 k
theorem vk {K:PySem.W.Frag} {c:RCl RK} {d:RCl PzK} {H:Hp} {Q:VK} {a p Ll Cl P L G M:Addr} {ns:List Int} {h w g:Int} {rows:List RR} {cl:List Int} {ms:List Addr} (hS:SqL K H a (ns.map V.int)) (hn:ns.length≤63) (X:L46 H c d p Ll Cl P L G M h w g rows cl ms) (k:∀ H',Q (.bl true) H'):
  k8 K c d { nx:=fun _ H'=>Q .non H',rt:=Q } [some (.ref a),some (.ref p),some (.ref Ll),some (.ref Cl),some (.ref P),none,some (.ref M),none,none] H:=by
 unfold k8
 walk_at "w"
 refine ⟨⟨by decide,by decide,by decide⟩,aC (by show (6:Nat)≤1000; decide),fun T hT=>?_⟩
 have s1:Same H (upd H T (.lst [V.int 1,V.int 2,V.int 3,V.int 4,V.int 129,V.int (10^Int.toNat 30)])):=(Same.refl H).laid hT
 have eT:(upd H T (.lst [V.int 1,V.int 2,V.int 3,V.int 4,V.int 129,V.int (10^Int.toNat 30)])) T=some (.lst (([1,2,3,4,129,10^Int.toNat 30]:List Int).map V.int)):=ae
 generalize upd H T (.lst [V.int 1,V.int 2,V.int 3,V.int 4,V.int 129,V.int (10^Int.toNat 30)])=H1 at*
 refine ⟨a,ns,40,rfl,s1.seq hS,hn,by decide,by decide,?_⟩
 walk_at "w"
 refine ⟨by decide,?_⟩
 have t0:=Int.emod_nonneg (lawAt ns 40) (show (6:Int)≠0 by decide)
 have t1:=Int.emod_lt_of_pos (lawAt ns 40) (show (0:Int) < 6 by decide)
 generalize lawAt ns 40 % 6=r at*
 refine ixI eT t0 (by show r < 6; omega) ?_
 have hm:0≤([1,2,3,4,129,10^Int.toNat 30]:List Int).getD r.toNat 0:=by
  have:r=0∨r=1∨r=2∨r=3∨r=4∨r=5:=by omega
  rcases this with rfl | rfl | rfl | rfl | rfl | rfl <;> decide
 generalize ([1,2,3,4,129,10^Int.toNat 30]:List Int).getD r.toNat 0=m at*
 exact vj (X.same s1) hm k
theorem vm {K:PySem.W.Frag} {c:RCl RK} {d:RCl PzK} {H:Hp} {Q:VK} {a p Ll Cl P L G:Addr} {ns:List Int} {h w g:Int} {rows:List RR} {cl:List Int} (hS:SqL K H a (ns.map V.int)) (hn:ns.length≤63) (X:Pz46 H p Ll Cl h w g rows cl) (x:IsPz H c d P L G h w g rows cl) (k:∀ H',Q (.bl true) H'):
  k9 K c d { nx:=fun _ H'=>Q .non H',rt:=Q } [some (.ref a),some (.ref p),some (.ref Ll),some (.ref Cl),some (.ref P),none,none,none,none] H:=by
 obtain ⟨dx,p0,rs,e1,_,_⟩:=x.ex
 have hcl:cl.length≤16:=by have:=x.C.len; have:=x.R.F.m; omega
 have g0:=X.F.g0
 have hfr:=X.free
 unfold k9
 walk_at "w"
 refine ⟨p,Cl,h,w,g,cl,rfl,X.fl,X.F,X.hC,hcl,by omega,fun B bs H2 s12 hB xB nB frB=>?_⟩
 refine ⟨B,rfl,⟨_,SqL.of xB.top⟩,?_⟩
 have hbig:(bt (trysL g cl (zer cl))).length≤1024:=by rw [ig]; have:=i8 (cl:=cl) (ns:=zer cl) g0; omega
 have hlenL:∀ f∈bt (trysL g cl (zer cl)),f.length≤16:=fun f hf=>by rw [ge hf,gw]; omega
 refine vf (metB h w g rows cl) xB (by omega) (by show (1:Nat) < 3; decide) ?_ ?_
 · intro b f H3 R hf hb3 s3 k3
   have s13:=s12.trans s3
   show tB _ [none,some (.ref b),some (.ref P)] H3 R
   walk_at "w"
   refine methE (k:=.Puzzle) rfl x.ok (s13 _ _ e1) (by rfl) ?_
   walk_at "w"
   refine kO (s3 _ _ hb3) fun l hl=>?_
   have s4:Same H3 (upd H3 l (.lst (f.map V.int))):=(Same.refl H3).laid hl
   refine ⟨P,L,G,l,h,w,g,rows,cl,f,rfl,x.same (s13.trans s4),ae,by have:=hlenL f hf; omega,fun H5 s5=>⟨_,rfl,k3 _ (s4.trans s5)⟩⟩
 · intro D cs H3 hD s3 xD nD sub
   have s13:=s12.trans s3
   exact vk (s13.seq hS) hn ⟨X.same s13,x.same s13,xD⟩ k
theorem xP {K:PySem.W.Frag} {c:RCl RK} {d:RCl PzK} {vs:List V} {H:Hp} {Q:VK} {E:XK} (h:rK K c d vs H Q E):nZ K c d { nx:=fun _ H'=>Q .non H',rt:=Q } (start ["_law_script","_law_floor","_law_lines","_law_clues","_law_puzzle_here","_law_one","_law_met","_law_most","_law_found"] vs) H:=by
 obtain ⟨a,ns,rfl,hS,hn,hk,ok,k⟩:=h
 show nZ K c d _ [some (.ref a),none,none,none,none,none,none,none,none] H
 unfold nZ
 walk_at "w"
 refine ⟨a,ns,rfl,hS,hn,fun T p Ll Cl H1 h w g rows cl s1 eT X=>?_⟩
 refine qO eT rfl ?_
 rw [vN]
 walk_at "w"
 refine kO X.hL fun A0 hA0=>?_
 have s6:Same H1 (upd H1 A0 (.lst ((rows.map RR.txt).map V.str))):=(Same.refl H1).laid hA0
 have e0:(upd H1 A0 (.lst ((rows.map RR.txt).map V.str))) A0=some (.lst ((rows.map RR.txt).map V.str)):=ae
 generalize upd H1 A0 (.lst ((rows.map RR.txt).map V.str))=H6 at*
 refine kO (s6 _ _ X.hC) fun A1 hA1=>?_
 have s7:Same H6 (upd H6 A1 (.lst (cl.map V.int))):=(Same.refl H6).laid hA1
 have e1:(upd H6 A1 (.lst (cl.map V.int))) A1=some (.lst (cl.map V.int)):=ae
 generalize upd H6 A1 (.lst (cl.map V.int))=H7 at*
 have s57:=s6.trans s7
 walk_at "w"
 refine xG ok ((X.same s57).fl) (s7 _ _ e0) e1 (X.R hk) X.C fun P L G H8 s8 hP hL hG x=>?_
 have s58:=s57.trans s8
 exact vm ((s1.trans s58).seq hS) hn (X.same s58) x k
end L2
namespace L2
open PySem PySem.Spec PyProof.Rows
end L2
namespace L2
open PySem PySem.Spec PyProof.Rows
end L2
namespace L2
open PySem PySem.Spec PyProof.Rows
end L2
namespace L2
open PySem PySem.Spec PyProof.Rows
structure FunD (K:PySem.W.Frag) (x qual:Str) (st:Stmt) (f:Addr) (fd:FuncData) (ds:List Value):Prop where
 ex:∃ (oc:Value) (od:Option Addr) (dT:Addr) (kV doc pm:Value) (an:Option Addr) (cdv ct:Value) (osl:Array (Option Value)),
  fd=PySem.W.fnOf x qual (a9 st) (aX st) (ag st) (.ref dT) kV doc pm an cdv ct∧K.lookup f=some ⟨oc,od,.func fd,osl⟩∧PySem.W.codeIn K cdv qual=true∧
  ∃ (c:Value) (d:Option Addr) (n:Nat) (sl:Array (Option Value)),K.lookup dT=some ⟨c,d,.seq ds.toArray n,sl⟩
 kp:PySem.W.keepIn K (.ref f)=true
section
variable {P:Program} {w:World} {K:PySem.W.Frag} {mg:Str→Option Value} {base:Heap}
theorem FunD.ok {x qual:Str} {st:Stmt} {f:Addr} {fd:FuncData} {ds:List Value} {N ps:List Str} {k:Nat} {sp:Sp} (F:FunD K x qual st f fd ds) (S:am N ps (ag st)) (len:∀ vs H Q E,sp vs H Q E→vs.length=ps.length)
  (hbody:∀ (cdv:Value) (A:Around) (outer:List Env) (s:Shared) (H:Hp) (vs:List V) (Q:VK) (E:XK),Room k (A.deeper (envOfC qual (ag st) s.heap.objs.size f cdv))→sp vs H Q E→
   ∃ t,PSs (cxOf CX0 P w K mg base N qual (ag st) f cdv A outer s H E).nox (aX st) t∧t { nx:=fun _ H'=>Q .non H',rt:=Q } (start N vs) H):FnOk P w K mg base CX0 (k+1) f fd ps sp:=by
 obtain ⟨oc,od,dT,kV,doc,pm,an,cdv,ct,osl,rfl,lk,hcd,_⟩:=F.ex
 refine vT lk hcd S len fun A outer s H vs Q E hr hsp=>?_
 obtain ⟨t,h,q⟩:=hbody cdv A outer s H vs Q E hr hsp
 exact ⟨t,h.nox,q⟩
theorem FunD.binds {x qual:Str} {st:Stmt} {f:Addr} {fd:FuncData} {ds:List Value} {ps:List Str} (F:FunD K x qual st f fd ds)
  (h:∀ (dT:Addr) (kV doc pm:Value) (an:Option Addr) (cdv ct:Value) (us:List Value),us.length=ps.length→∃ k,bindArgs (PySem.W.fnOf x qual (a9 st) (aX st) (ag st) (.ref dT) kV doc pm an cdv ct) ⟨us,[]⟩=seqItems? (.ref dT) >>= k∧k (some ds.toArray)=pure (ps.zip us)):Binds K fd ps []:=by
 obtain ⟨oc,od,dT,kV,doc,pm,an,cdv,ct,osl,rfl,lk,hcd,c,d,n,sl,ld⟩:=F.ex
 intro s us X hl
 rw [List.append_nil] at hl ⊢
 obtain ⟨k,h1,h2⟩:=h dT kV doc pm an cdv ct us hl
 exact BindsTo.of_defaults (T:=dT) rfl (X _ _ ld) rfl h1 h2
theorem FunD.bindsD {x qual:Str} {st:Stmt} {f:Addr} {fd:FuncData} {ds:List Value} {ps:List Str} (m:Nat) (hm:m+ds.length=ps.length) (F:FunD K x qual st f fd ds)
  (h:∀ (dT:Addr) (kV doc pm:Value) (an:Option Addr) (cdv ct:Value) (us:List Value),us.length=m→∃ k,bindArgs (PySem.W.fnOf x qual (a9 st) (aX st) (ag st) (.ref dT) kV doc pm an cdv ct) ⟨us,[]⟩=seqItems? (.ref dT) >>= k∧k (some ds.toArray)=pure (ps.zip (us++ds))):Binds K fd ps ds:=by
 obtain ⟨oc,od,dT,kV,doc,pm,an,cdv,ct,osl,rfl,lk,hcd,c,d,n,sl,ld⟩:=F.ex
 intro s us X hl
 rw [List.length_append] at hl
 obtain ⟨k,h1,h2⟩:=h dT kV doc pm an cdv ct us (by omega)
 exact BindsTo.of_defaults (T:=dT) rfl (X _ _ ld) rfl h1 h2
theorem wL {x qual:Str} {st:Stmt} {f dT:Addr} {oc:Value} {od an:Option Addr} {osl:Array (Option Value)} {kV doc pm cdv ct:Value} {c:Value} {d:Option Addr} {n:Nat} {sl:Array (Option Value)} {ds:List Value} (l:K.lookup f=some ⟨oc,od,.func (PySem.W.fnOf x qual (a9 st) (aX st) (ag st) (.ref dT) kV doc pm an cdv ct),osl⟩)
  (cc:PySem.W.codeIn K cdv qual=true) (k:PySem.W.keepIn K (.ref f)=true) (ld:K.lookup dT=some ⟨c,d,.seq ds.toArray n,sl⟩):FunD K x qual st f (PySem.W.fnOf x qual (a9 st) (aX st) (ag st) (.ref dT) kV doc pm an cdv ct) ds:=⟨⟨oc,od,dT,kV,doc,pm,an,cdv,ct,osl,rfl,l,cc,c,d,n,sl,ld⟩,k⟩
end
structure CalD (P:Program) (w:World) (K:PySem.W.Frag) (mg:Str→Option Value) (base:Heap) (k:Nat) (x:Str) (ps:List Str) (sp:Sp) (ds:List Value):Prop where
 ex:∃ (f:Addr) (fd:FuncData),FnOk P w K mg base CX0 k f fd ps sp∧mg x=some (.ref f)∧PySem.W.keepIn K (.ref f)=true∧Binds K fd ps ds
theorem sY {X:Cx} {k n:Nat} {x:Str} {ps:List Str} {sp:Sp} {ds:List Value} {dvs:List V} {p pos:Pos} {e:Expr} {es:List Expr} {t:TA} (C:CalD X.prog X.w X.K X.mg X.base k x ps sp ds) (hd:Vals dvs ds) (hr:Room n X.A) (hk:k≤n) (hg:Gl X x) (ha:PA X (e::es) t)
  (hdb:(x==("__debug__":Str))=false:=by decide) (he:starEach (e::es) X.env=(false,eval e X.env)::starEach es X.env:=by rfl) (hpl:(backTo pos (starEach es X.env)).any (·.1)=false:=by rfl):
  PE X (.Call (.Name x p) (e::es) [] pos) (tCall sp dvs E0 t):=by
 obtain ⟨f,fd,F,hm,hkp,hb⟩:=C.ex
 exact sG F (hr.mono hk) hg hm hkp hb hd mL ha hdb he hpl
end L2
namespace L2
open PySem PySem.Spec PyProof.Rows
section
variable {X:Cx} {e:Expr} {es rs:List Expr} {te:TE} {t:TA}
theorem bV {k} {p:Pos} (ha:PE X (.Tuple rs k p) te) (hr:PA X es t):PA X (.Tuple rs k p::es) (tCons te t):=aa ha hr
theorem aL {c:Const} {k} {p:Pos} (ha:PE X (.Constant c k p) te) (hr:PA X es t):PA X (.Constant c k p::es) (tCons te t):=aa ha hr
end
end L2
namespace L2
open PySem PySem.Spec PyProof.Rows
section
variable {P:Program} {w:World} {K:PySem.W.Frag} {mg:Str→Option Value} {base:Heap} {k:Nat} {x qual y:Str} {st:Stmt} {f:Addr} {fd:FuncData} {sp:Sp}
theorem n4 {a0:Str} (F:Fun K x qual st f fd) (h:∀ (kV doc pm:Value) (an:Option Addr) (cdv ct u0:Value),bindArgs (PySem.W.fnOf x qual (a9 st) (aX st) (ag st) .none kV doc pm an cdv ct) ⟨[u0],[]⟩=pure (([a0]:List Str).zip [u0]):=by intros; rfl):Binds K fd [a0] []:=F.binds fun _ _ _ _ _ _ us hl=>match us,hl with | [u0],_=>h _ _ _ _ _ _ _
theorem jb {a0:Str} (T:FnOk P w K mg base CX0 k f fd [a0] sp) (F:Fun K x qual st f fd) (hm:mg y=some (.ref f)) (h:∀ (kV doc pm:Value) (an:Option Addr) (cdv ct u0:Value),bindArgs (PySem.W.fnOf x qual (a9 st) (aX st) (ag st) .none kV doc pm an cdv ct) ⟨[u0],[]⟩=pure (([a0]:List Str).zip [u0]):=by intros; rfl):Cal P w K mg base k y [a0] sp:=⟨f,fd,T,hm,F.kp,n4 F h⟩
theorem dL {a0 a1:Str} (F:Fun K x qual st f fd) (h:∀ (kV doc pm:Value) (an:Option Addr) (cdv ct u0 u1:Value),bindArgs (PySem.W.fnOf x qual (a9 st) (aX st) (ag st) .none kV doc pm an cdv ct) ⟨[u0,u1],[]⟩=pure (([a0,a1]:List Str).zip [u0,u1]):=by intros; rfl):Binds K fd [a0,a1] []:=F.binds fun _ _ _ _ _ _ us hl=>match us,hl with | [u0,u1],_=>h _ _ _ _ _ _ _ _
theorem cW {a0 a1:Str} (T:FnOk P w K mg base CX0 k f fd [a0,a1] sp) (F:Fun K x qual st f fd) (hm:mg y=some (.ref f)) (h:∀ (kV doc pm:Value) (an:Option Addr) (cdv ct u0 u1:Value),bindArgs (PySem.W.fnOf x qual (a9 st) (aX st) (ag st) .none kV doc pm an cdv ct) ⟨[u0,u1],[]⟩=pure (([a0,a1]:List Str).zip [u0,u1]):=by intros; rfl):Cal P w K mg base k y [a0,a1] sp:=⟨f,fd,T,hm,F.kp,dL F h⟩
theorem wa {a0 a1 a2:Str} (F:Fun K x qual st f fd) (h:∀ (kV doc pm:Value) (an:Option Addr) (cdv ct u0 u1 u2:Value),bindArgs (PySem.W.fnOf x qual (a9 st) (aX st) (ag st) .none kV doc pm an cdv ct) ⟨[u0,u1,u2],[]⟩=pure (([a0,a1,a2]:List Str).zip [u0,u1,u2]):=by intros; rfl):Binds K fd [a0,a1,a2] []:=F.binds fun _ _ _ _ _ _ us hl=>match us,hl with | [u0,u1,u2],_=>h _ _ _ _ _ _ _ _ _
theorem iK {a0 a1 a2:Str} (T:FnOk P w K mg base CX0 k f fd [a0,a1,a2] sp) (F:Fun K x qual st f fd) (hm:mg y=some (.ref f)) (h:∀ (kV doc pm:Value) (an:Option Addr) (cdv ct u0 u1 u2:Value),bindArgs (PySem.W.fnOf x qual (a9 st) (aX st) (ag st) .none kV doc pm an cdv ct) ⟨[u0,u1,u2],[]⟩=pure (([a0,a1,a2]:List Str).zip [u0,u1,u2]):=by intros; rfl):Cal P w K mg base k y [a0,a1,a2] sp:=⟨f,fd,T,hm,F.kp,wa F h⟩
theorem x0 {a0 a1 a2 a3:Str} (F:Fun K x qual st f fd) (h:∀ (kV doc pm:Value) (an:Option Addr) (cdv ct u0 u1 u2 u3:Value),bindArgs (PySem.W.fnOf x qual (a9 st) (aX st) (ag st) .none kV doc pm an cdv ct) ⟨[u0,u1,u2,u3],[]⟩=pure (([a0,a1,a2,a3]:List Str).zip [u0,u1,u2,u3]):=by intros; rfl):Binds K fd [a0,a1,a2,a3] []:=F.binds fun _ _ _ _ _ _ us hl=>match us,hl with | [u0,u1,u2,u3],_=>h _ _ _ _ _ _ _ _ _ _
theorem x5 {a0 a1 a2 a3 a4:Str} (F:Fun K x qual st f fd) (h:∀ (kV doc pm:Value) (an:Option Addr) (cdv ct u0 u1 u2 u3 u4:Value),bindArgs (PySem.W.fnOf x qual (a9 st) (aX st) (ag st) .none kV doc pm an cdv ct) ⟨[u0,u1,u2,u3,u4],[]⟩=pure (([a0,a1,a2,a3,a4]:List Str).zip [u0,u1,u2,u3,u4]):=by intros; rfl):Binds K fd [a0,a1,a2,a3,a4] []:=F.binds fun _ _ _ _ _ _ us hl=>match us,hl with | [u0,u1,u2,u3,u4],_=>h _ _ _ _ _ _ _ _ _ _ _
theorem yb {a0 a1 a2 a3 a4:Str} (T:FnOk P w K mg base CX0 k f fd [a0,a1,a2,a3,a4] sp) (F:Fun K x qual st f fd) (hm:mg y=some (.ref f)) (h:∀ (kV doc pm:Value) (an:Option Addr) (cdv ct u0 u1 u2 u3 u4:Value),bindArgs (PySem.W.fnOf x qual (a9 st) (aX st) (ag st) .none kV doc pm an cdv ct) ⟨[u0,u1,u2,u3,u4],[]⟩=pure (([a0,a1,a2,a3,a4]:List Str).zip [u0,u1,u2,u3,u4]):=by intros; rfl):Cal P w K mg base k y [a0,a1,a2,a3,a4] sp:=⟨f,fd,T,hm,F.kp,x5 F h⟩
theorem x8 {a0 a1 a2 a3 a4 a5:Str} (F:Fun K x qual st f fd) (h:∀ (kV doc pm:Value) (an:Option Addr) (cdv ct u0 u1 u2 u3 u4 u5:Value),bindArgs (PySem.W.fnOf x qual (a9 st) (aX st) (ag st) .none kV doc pm an cdv ct) ⟨[u0,u1,u2,u3,u4,u5],[]⟩=pure (([a0,a1,a2,a3,a4,a5]:List Str).zip [u0,u1,u2,u3,u4,u5]):=by intros; rfl):Binds K fd [a0,a1,a2,a3,a4,a5] []:=F.binds fun _ _ _ _ _ _ us hl=>match us,hl with | [u0,u1,u2,u3,u4,u5],_=>h _ _ _ _ _ _ _ _ _ _ _ _
end
end L2
namespace L2
open PySem PySem.Spec PyProof.Rows
def top (i:Nat):Stmt:=PySem.Challenge.pw_cluemaker_k46_all_answers.main.body.getD i (.Pass ⟨0,0,0,0⟩)
def mtop (i j:Nat):Stmt:=match top i with
 | .ClassDef _ _ _ body _ _ _ _ _ _ _=>body.getD j (.Pass ⟨0,0,0,0⟩)
 | s=>s
abbrev kl:Stmt:=top 11
theorem sc_is_whole:am ["value"] ["value"] (ag kl):=⟨rfl,rfl,rfl,by decide+kernel,rfl,by decide+kernel,by decide+kernel⟩
set_option maxHeartbeats 4000000 in
theorem sx {P:Program} {w:World} {K:PySem.W.Frag} {mg:Str→Option Value} {base:Heap} (B:Bt2 mg) {f:Addr} {fd:FuncData} (F:Fun K "is_whole" "is_whole" kl f fd):FnOk P w K mg base CX0 1 f fd ["value"] (bY K):=by
 refine F.ok sc_is_whole (fun vs H Q E h=>si h) (fun cdv A outer s H vs Q E hr h=>?_)
 have hu:=hr.units
 have nd:=sc_is_whole.nd
 refine ⟨gN K,?_,sj h⟩
 exact (af (ai (fL (ay cu rfl B.isinstance_ bm (aa (pv 0) (aa (d4 (v:=.ty "int") rfl B.int_ mR rfl) ab))) (fK (qq (ay cu rfl B.isinstance_ bm (aa (pv 0) (aa (d4 (v:=.ty "bool") rfl B.bool_ sK rfl) ab))))))))
abbrev iL:Stmt:=top 14
theorem sc_many_cells:am ["floor"] ["floor"] (ag iL):=⟨rfl,rfl,rfl,by decide+kernel,rfl,by decide+kernel,by decide+kernel⟩
set_option maxHeartbeats 4000000 in
theorem pX {P:Program} {w:World} {K:PySem.W.Frag} {mg:Str→Option Value} {base:Heap} (B:Bt2 mg) {f:Addr} {fd:FuncData} (F:Fun K "many_cells" "many_cells" iL f fd):FnOk P w K mg base CX0 1 f fd ["floor"] (aN K):=by
 refine F.ok sc_many_cells (fun vs H Q E h=>pF h) (fun cdv A outer s H vs Q E hr h=>?_)
 have hu:=hr.units
 have nd:=sc_many_cells.nd
 refine ⟨fc K,?_,pG h⟩
 exact (af (ai (ao bQ (az (aD hu) (pv 0) ad (fun _ _=>rfl)) (az (aD hu) (pv 0) ad (fun _ _=>rfl)))))
abbrev la:Stmt:=top 15
theorem sc_spot_of:am ["floor","cell","wide"] ["floor","cell"] (ag la):=⟨rfl,rfl,rfl,by decide+kernel,rfl,by decide+kernel,by decide+kernel⟩
set_option maxHeartbeats 4000000 in
theorem t9 {P:Program} {w:World} {K:PySem.W.Frag} {mg:Str→Option Value} {base:Heap} (B:Bt2 mg) {f:Addr} {fd:FuncData} (F:Fun K "spot_of" "spot_of" la f fd):FnOk P w K mg base CX0 1 f fd ["floor","cell"] (cx K):=by
 refine F.ok sc_spot_of (fun vs H Q E h=>tN h) (fun cdv A outer s H vs Q E hr h=>?_)
 have hu:=hr.units
 have nd:=sc_spot_of.nd
 refine ⟨hV K,?_,tO h⟩
 exact (ac (ak (i:=2) nd rfl (Or.inl rfl) (az (aD hu) (pv 0) ad (fun _ _=>rfl)))
   (af (ai (bO (aa (ao sJ (pv 1) (pv 2)) (aa (ao ba (pv 1) (pv 2)) ab))))))
abbrev jc:Stmt:=top 18
theorem sc_square_at:am ["floor","corner","below"] ["floor","corner"] (ag jc):=⟨rfl,rfl,rfl,by decide+kernel,rfl,by decide+kernel,by decide+kernel⟩
set_option maxHeartbeats 4000000 in
theorem rL {P:Program} {w:World} {K:PySem.W.Frag} {mg:Str→Option Value} {base:Heap} (B:Bt2 mg) {f:Addr} {fd:FuncData} (F:Fun K "square_at" "square_at" jc f fd):FnOk P w K mg base CX0 1 f fd ["floor","corner"] (cP K):=by
 refine F.ok sc_square_at (fun vs H Q E h=>qY h) (fun cdv A outer s H vs Q E hr h=>?_)
 have hu:=hr.units
 have nd:=sc_square_at.nd
 refine ⟨fR K,?_,qZ h⟩
 exact (ac (ak (i:=2) nd rfl (Or.inl rfl) (ao aA (pv 1) (az (aD hu) (pv 0) ad (fun _ _=>rfl))))
   (af (ai (aI (aa (pv 1) (aa (ao aA (pv 1) ad) (aa (pv 2) (aa (ao aA (pv 2) ad) ab))))))))
abbrev jd:Stmt:=top 24
theorem sc_with_each:am ["fillings","signs","found","filling"] ["fillings","signs"] (ag jd):=⟨rfl,rfl,rfl,by decide+kernel,rfl,by decide+kernel,by decide+kernel⟩
set_option maxHeartbeats 4000000 in
theorem rM {P:Program} {w:World} {K:PySem.W.Frag} {mg:Str→Option Value} {base:Heap} (B:Bt2 mg) {f:Addr} {fd:FuncData} (F:Fun K "with_each" "with_each" jd f fd):FnOk P w K mg base CX0 1 f fd ["fillings","signs"] (cV K):=by
 refine F.ok sc_with_each (fun vs H Q E h=>rE h) (fun cdv A outer s H vs Q E hr h=>?_)
 have hu:=hr.units
 have nd:=sc_with_each.nd
 refine ⟨gf K,?_,rF h⟩
 exact (ac (ak (i:=2) nd rfl (Or.inl rfl) (aI ab))
   (ac (cr PassesOwn.never rfl (aK (pv 0)) (ax (i:=3) nd rfl (Or.inr rfl))
   (af (bZ (dm PySem.F.plainAttrs_list PySem.F.slot_list_extend PySem.F.type_list_extend mQ (pv 2) (aa (aR (ix:=[none,none,some 3]) [".0","sign","filling"] (aH rfl (by decide+kernel) rfl rfl rfl) rfl (aK (pv 1)) (fun cl s H fp=>(ax (i:=1) (show ([".0","sign","filling"]:List Str).Nodup by decide+kernel) rfl (Or.inl rfl))) (fun cl s H fp=>aY) (fun cl s H fp=>(ao aA (pv 2) (aI (aa (pv 1) ab))))) ab)))))
   (af (ai (pv 2)))))
abbrev iM:Stmt:=top 26
theorem sc_signs_from:am ["floor","number","signs","first"] ["floor","number"] (ag iM):=⟨rfl,rfl,rfl,by decide+kernel,rfl,by decide+kernel,by decide+kernel⟩
set_option maxHeartbeats 4000000 in
theorem pY {P:Program} {w:World} {K:PySem.W.Frag} {mg:Str→Option Value} {base:Heap} (B:Bt2 mg) {f:Addr} {fd:FuncData} (F:Fun K "signs_from" "signs_from" iM f fd):FnOk P w K mg base CX0 1 f fd ["floor","number"] (cq K):=by
 refine F.ok sc_signs_from (fun vs H Q E h=>pT h) (fun cdv A outer s H vs Q E hr h=>?_)
 have hu:=hr.units
 have nd:=sc_signs_from.nd
 refine ⟨fq K,?_,pU h⟩
 exact (ac (ak (i:=2) nd rfl (Or.inl rfl) (lR rfl rfl rfl B.list_ B.range_ (aa ad (aa (ao aA (az (aD hu) (pv 0) ad (fun _ _=>rfl)) ad) ab))))
   (ac (ak (i:=3) nd rfl (Or.inl rfl) (ao ba (pv 1) (az (aD hu) (pv 0) ad (fun _ _=>rfl))))
   (af (ai (ao aA (bT e9 (pv 2) (ck (pv 3)) cj) (bT e9 (pv 2) cj (ck (pv 3))))))))
abbrev je:Stmt:=top 31
theorem sc_is_within:am ["some","cells"] ["some","cells"] (ag je):=⟨rfl,rfl,rfl,by decide+kernel,rfl,by decide+kernel,by decide+kernel⟩
set_option maxHeartbeats 4000000 in
theorem rN {P:Program} {w:World} {K:PySem.W.Frag} {mg:Str→Option Value} {base:Heap} (B:Bt2 mg) {f:Addr} {fd:FuncData} (F:Fun K "is_within" "is_within" je f fd):FnOk P w K mg base CX0 1 f fd ["some","cells"] (cU K):=by
 refine F.ok sc_is_within (fun vs H Q E h=>rn h) (fun cdv A outer s H vs Q E hr h=>?_)
 have hu:=hr.units
 have nd:=sc_is_within.nd
 refine ⟨gc K,?_,ro h⟩
 exact (af (ai (ay (dR rfl) rfl B.all_ iG (aa (aR (ix:=[none,none,some 1]) [".0","cell","cells"] (aH rfl (by decide+kernel) rfl rfl rfl) rfl (aK (pv 0)) (fun cl s H fp=>(ax (i:=1) (show ([".0","cell","cells"]:List Str).Nodup by decide+kernel) rfl (Or.inl rfl))) (fun cl s H fp=>aY) (fun cl s H fp=>(a8 (jt hu) (pv 1) (pv 2) (by with_unfolding_all rfl)))) ab))))
abbrev gg:Stmt:=mtop 32 0
theorem sc_Rule___init__:am ["self","floor","words","cells","amount","mark"] ["self","floor","words","cells","amount","mark"] (ag gg):=⟨rfl,rfl,rfl,by decide+kernel,rfl,by decide+kernel,by decide+kernel⟩
set_option maxHeartbeats 4000000 in
theorem my {P:Program} {w:World} {K:PySem.W.Frag} {mg:Str→Option Value} {base:Heap} (B:Bt2 mg) {c:RCl RK} (FK_c_amount:FldK K c "amount") (FK_c_cells:FldK K c "cells") (FK_c_floor:FldK K c "floor") (FK_c_mark:FldK K c "mark") (FK_c_words:FldK K c "words") {f:Addr} {fd:FuncData} (F:Fun K "__init__" "Rule.__init__" gg f fd):FnOk P w K mg base CX0 1 f fd ["self","floor","words","cells","amount","mark"] (aj K c):=by
 refine F.ok sc_Rule___init__ (fun vs H Q E h=>l7 h) (fun cdv A outer s H vs Q E hr h=>?_)
 have hu:=hr.units
 have nd:=sc_Rule___init__.nd
 refine ⟨c5 K c,?_,l8 h⟩
 exact (ac (fI (pv 0) (pv 1) FK_c_floor)
   (ac (fI (pv 0) (bd lU rfl B.tuple_ lY (aa (pv 2) ab)) FK_c_words)
   (ac (fI (pv 0) (bd lU rfl B.tuple_ lY (aa (pv 3) ab)) FK_c_cells)
   (ac (fI (pv 0) (pv 4) FK_c_amount)
   (af (fI (pv 0) (pv 5) FK_c_mark))))))
abbrev jf:Stmt:=mtop 32 5
theorem sc_Rule_line:am ["self"] ["self"] (ag jf):=⟨rfl,rfl,rfl,by decide+kernel,rfl,by decide+kernel,by decide+kernel⟩
set_option maxHeartbeats 4000000 in
theorem rO {P:Program} {w:World} {K:PySem.W.Frag} {mg:Str→Option Value} {base:Heap} (B:Bt2 mg) {c:RCl RK} (FK_c_words:FldK K c "words") {f:Addr} {fd:FuncData} (F:Fun K "line" "Rule.line" jf f fd):FnOk P w K mg base CX0 1 f fd ["self"] (fS K c):=by
 refine F.ok sc_Rule_line (fun vs H Q E h=>q0 h) (fun cdv A outer s H vs Q E hr h=>?_)
 have hu:=hr.units
 have nd:=sc_Rule_line.nd
 refine ⟨fT K c,?_,q5 h⟩
 exact (af (ai (dm PySem.F.plainAttrs_str PySem.F.slot_str_join PySem.F.type_str_join pd bc (aa (bj (pv 0) FK_c_words) ab))))
abbrev gh:Stmt:=mtop 32 8
theorem sc_Rule_signs_at:am ["self","filling"] ["self","filling"] (ag gh):=⟨rfl,rfl,rfl,by decide+kernel,rfl,by decide+kernel,by decide+kernel⟩
set_option maxHeartbeats 4000000 in
theorem mB {P:Program} {w:World} {K:PySem.W.Frag} {mg:Str→Option Value} {base:Heap} (B:Bt2 mg) {c:RCl RK} (FK_c_cells:FldK K c "cells") {f:Addr} {fd:FuncData} (F:Fun K "signs_at" "Rule.signs_at" gh f fd):FnOk P w K mg base CX0 1 f fd ["self","filling"] (c6 K c):=by
 refine F.ok sc_Rule_signs_at (fun vs H Q E h=>l9 h) (fun cdv A outer s H vs Q E hr h=>?_)
 have hu:=hr.units
 have nd:=sc_Rule_signs_at.nd
 refine ⟨c7 K c,?_,ma h⟩
 exact (af (ai (aR (ix:=[none,none,some 1]) [".0","cell","filling"] (aH rfl (by decide+kernel) rfl rfl rfl) rfl (ui (bj (pv 0) FK_c_cells)) (fun cl s H fp=>(ax (i:=1) (show ([".0","cell","filling"]:List Str).Nodup by decide+kernel) rfl (Or.inl rfl))) (fun cl s H fp=>aY) (fun cl s H fp=>(az (aD hu) (pv 2) (pv 1) (fun _ _=>rfl))))))
abbrev g4:Stmt:=mtop 32 9
theorem sc_Rule_marked:am ["self","filling"] ["self","filling"] (ag g4):=⟨rfl,rfl,rfl,by decide+kernel,rfl,by decide+kernel,by decide+kernel⟩
set_option maxHeartbeats 4000000 in
theorem gx {P:Program} {w:World} {K:PySem.W.Frag} {mg:Str→Option Value} {base:Heap} (B:Bt2 mg) {c:RCl RK} (FK_c_cells:FldK K c "cells") (FK_c_mark:FldK K c "mark") {f:Addr} {fd:FuncData} (F:Fun K "marked" "Rule.marked" g4 f fd):FnOk P w K mg base CX0 1 f fd ["self","filling"] (b7 K c):=by
 refine F.ok sc_Rule_marked (fun vs H Q E h=>oG h) (fun cdv A outer s H vs Q E hr h=>?_)
 have hu:=hr.units
 have nd:=sc_Rule_marked.nd
 refine ⟨ei K c,?_,oH h⟩
 exact (af (ai (aR (ix:=[none,none,some 1,some 0]) [".0","cell","filling","self"] (aH rfl (by decide+kernel) rfl rfl rfl) rfl (ui (bj (pv 0) FK_c_cells)) (fun cl s H fp=>(ax (i:=1) (show ([".0","cell","filling","self"]:List Str).Nodup by decide+kernel) rfl (Or.inl rfl))) (fun cl s H fp=>(fF (ap (aG hu) (az (aD hu) (pv 2) (pv 1) (fun _ _=>rfl)) (bj (pv 3) FK_c_mark) (aq _)))) (fun cl s H fp=>(pv 1)))))
abbrev jg:Stmt:=top 48
theorem sc_number_in:am ["word"] ["word"] (ag jg):=⟨rfl,rfl,rfl,by decide+kernel,rfl,by decide+kernel,by decide+kernel⟩
set_option maxHeartbeats 4000000 in
theorem rP {P:Program} {w:World} {K:PySem.W.Frag} {mg:Str→Option Value} {base:Heap} (B:Bt2 mg) {t_FIGURES:Tok} (A6:mg "FIGURES"=some (.str (tx [48,49,50,51,52,53,54,55,56,57]) t_FIGURES)) {t_MOST_FIGURES:Tok} (zx:mg "MOST_FIGURES"=some (.int 9 t_MOST_FIGURES)) {f:Addr} {fd:FuncData} (F:Fun K "number_in" "number_in" jg f fd):FnOk P w K mg base CX0 1 f fd ["word"] (cQ K):=by
 refine F.ok sc_number_in (fun vs H Q E h=>ra h) (fun cdv A outer s H vs Q E hr h=>?_)
 have hu:=hr.units
 have nd:=sc_number_in.nd
 refine ⟨fU K,?_,rb h⟩
 exact (ac (aB (PW.pt (fJ (ap (aG hu) (pv 0) bc (aq _)) (fJ (ap dO (ay aU rfl B.len_ bh (aa (pv 0) ab)) (cL rfl zx ⟨t_MOST_FIGURES,rfl⟩) (aq _)) (gQ (PW.pt (mH (ap (aG hu) (az (aD hu) (pv 0) ad (fun _ _=>rfl)) bc (aq _)) (lm (ap (eW hu) (pv 0) bc (aq _))))))))) (af (ai qp)) av)
   (ac (aB (cM (bB (ay (dR rfl) rfl B.all_ iG (aa (aR (ix:=[none,none]) [".0","figure"] (aH rfl (by decide+kernel) rfl rfl rfl) rfl (xo (pv 0)) (fun cl s H fp=>(ax (i:=1) (show ([".0","figure"]:List Str).Nodup by decide+kernel) rfl (Or.inl rfl))) (fun cl s H fp=>aY) (fun cl s H fp=>(a8 (jt hu) (pv 1) (cL rfl A6 ⟨t_FIGURES,rfl⟩) (by with_unfolding_all rfl)))) ab)))) (af (ai qp)) av)
   (af (ai (bd ni rfl B.int_ mR (aa (pv 0) ab))))))
abbrev gy:Stmt:=mtop 61 1
theorem sc_Puzzle_place:am ["self"] ["self"] (ag gy):=⟨rfl,rfl,rfl,by decide+kernel,rfl,by decide+kernel,by decide+kernel⟩
set_option maxHeartbeats 4000000 in
theorem n5 {P:Program} {w:World} {K:PySem.W.Frag} {mg:Str→Option Value} {base:Heap} (B:Bt2 mg) {c:RCl RK} {d:RCl PzK} (FK_d_floor:FldK K d "floor") {f:Addr} {fd:FuncData} (F:Fun K "place" "Puzzle.place" gy f fd):FnOk P w K mg base CX0 1 f fd ["self"] (dv K c d):=by
 refine F.ok sc_Puzzle_place (fun vs H Q E h=>nu h) (fun cdv A outer s H vs Q E hr h=>?_)
 have hu:=hr.units
 have nd:=sc_Puzzle_place.nd
 refine ⟨dw K c d,?_,nv h⟩
 exact (af (ai (bj (pv 0) FK_d_floor)))
abbrev gz:Stmt:=mtop 61 3
theorem sc_Puzzle_clues:am ["self"] ["self"] (ag gz):=⟨rfl,rfl,rfl,by decide+kernel,rfl,by decide+kernel,by decide+kernel⟩
set_option maxHeartbeats 4000000 in
theorem n6 {P:Program} {w:World} {K:PySem.W.Frag} {mg:Str→Option Value} {base:Heap} (B:Bt2 mg) {c:RCl RK} {d:RCl PzK} (FK_d_given:FldK K d "given") {f:Addr} {fd:FuncData} (F:Fun K "clues" "Puzzle.clues" gz f fd):FnOk P w K mg base CX0 1 f fd ["self"] (dy K c d):=by
 refine F.ok sc_Puzzle_clues (fun vs H Q E h=>nA h) (fun cdv A outer s H vs Q E hr h=>?_)
 have hu:=hr.units
 have nd:=sc_Puzzle_clues.nd
 refine ⟨dz K c d,?_,nE h⟩
 exact (af (ai (bd fP rfl B.list_ di (aa (bj (pv 0) FK_d_given) ab))))
abbrev d0:Stmt:=mtop 61 5
theorem sc_Puzzle_has_clues:am ["self","filling"] ["self","filling"] (ag d0):=⟨rfl,rfl,rfl,by decide+kernel,rfl,by decide+kernel,by decide+kernel⟩
set_option maxHeartbeats 4000000 in
theorem kz {P:Program} {w:World} {K:PySem.W.Frag} {mg:Str→Option Value} {base:Heap} (B:Bt2 mg) {c:RCl RK} {d:RCl PzK} (FK_d_given:FldK K d "given") {f:Addr} {fd:FuncData} (F:Fun K "has_clues" "Puzzle.has_clues" d0 f fd):FnOk P w K mg base CX0 1 f fd ["self","filling"] (cg K c d):=by
 refine F.ok sc_Puzzle_has_clues (fun vs H Q E h=>kx h) (fun cdv A outer s H vs Q E hr h=>?_)
 have hu:=hr.units
 have nd:=sc_Puzzle_has_clues.nd
 refine ⟨ci K c d,?_,ky h⟩
 exact (af (ai (ay (dR rfl) rfl B.all_ iG (aa (aR (ix:=[none,none,none]) [".0","clue","sign"] (aH rfl (by decide+kernel) rfl rfl rfl) rfl (qJ rfl B.zip_ (aa (bj (pv 0) FK_d_given) (aa (pv 1) ab))) (fun cl s H fp=>(jp rfl (bD (ax (i:=1) (show ([".0","clue","sign"]:List Str).Nodup by decide+kernel) rfl (Or.inl rfl)) (bD (ax (i:=2) (show ([".0","clue","sign"]:List Str).Nodup by decide+kernel) rfl (Or.inl rfl)) ij)))) (fun cl s H fp=>aY) (fun cl s H fp=>(vR (a8 (aG hu) (pv 1) ad (aq _)) (fK (a8 (aG hu) (pv 1) (pv 2) (aq _)))))) ab))))
abbrev lb:Stmt:=top 63
theorem sc__law_at:am ["_law_script","_law_k","_law_mixed"] ["_law_script","_law_k"] (ag lb):=⟨rfl,rfl,rfl,by decide+kernel,rfl,by decide+kernel,by decide+kernel⟩
set_option maxHeartbeats 4000000 in
theorem ua {P:Program} {w:World} {K:PySem.W.Frag} {mg:Str→Option Value} {base:Heap} (B:Bt2 mg) {f:Addr} {fd:FuncData} (F:Fun K "_law_at" "_law_at" lb f fd):FnOk P w K mg base CX0 1 f fd ["_law_script","_law_k"] (aP K):=by
 refine F.ok sc__law_at (fun vs H Q E h=>tP h) (fun cdv A outer s H vs Q E hr h=>?_)
 have hu:=hr.units
 have nd:=sc__law_at.nd
 refine ⟨h9 K,?_,tQ h⟩
 exact (ac (aB (ap fO (pv 1) (ay fN rfl B.len_ bh (aa (pv 0) ab)) (aq _)) (af (ai (az or (pv 0) (pv 1) (fun _ _=>rfl)))) av)
   (ac (ak (i:=2) nd rfl (Or.inl rfl) (ao aA (ao bQ ad (pv 1)) ad))
   (ac (aB (ap dO (ay fN rfl B.len_ bh (aa (pv 0) ab)) ad (aq _)) (af (ak (i:=2) nd rfl (Or.inl rfl) (ao aA (pv 2) (ao bQ (ao ba (az or (pv 0) (ao ba (pv 1) (ay fN rfl B.len_ bh (aa (pv 0) ab))) (fun _ _=>rfl)) ad) (ao aA (pv 1) ad))))) av)
   (af (ai (ao aA (ao ba (ao bQ (pv 2) (pv 2)) ad) (ao ba (pv 2) ad)))))))
abbrev iN:Stmt:=top 64
theorem sc__law_whole:am ["_law_found"] ["_law_found"] (ag iN):=⟨rfl,rfl,rfl,by decide+kernel,rfl,by decide+kernel,by decide+kernel⟩
set_option maxHeartbeats 4000000 in
theorem pZ {P:Program} {w:World} {K:PySem.W.Frag} {mg:Str→Option Value} {base:Heap} (B:Bt2 mg) {f:Addr} {fd:FuncData} (F:Fun K "_law_whole" "_law_whole" iN f fd):FnOk P w K mg base CX0 1 f fd ["_law_found"] (cm K):=by
 refine F.ok sc__law_whole (fun vs H Q E h=>pC h) (fun cdv A outer s H vs Q E hr h=>?_)
 have hu:=hr.units
 have nd:=sc__law_whole.nd
 refine ⟨fb K,?_,pD h⟩
 exact (af (ai (fL (ay cu rfl B.isinstance_ bm (aa (pv 0) (aa (d4 (v:=.ty "int") rfl B.int_ mR rfl) ab))) (fK (qq (ay cu rfl B.isinstance_ bm (aa (pv 0) (aa (d4 (v:=.ty "bool") rfl B.bool_ sK rfl) ab))))))))
abbrev g5:Stmt:=top 66
theorem sc__law_stream:am ["_law_cell","_law_many","_law_number","_law_found","_law_k"] ["_law_cell","_law_many"] (ag g5):=⟨rfl,rfl,rfl,by decide+kernel,rfl,by decide+kernel,by decide+kernel⟩
set_option maxHeartbeats 4000000 in
theorem oP {P:Program} {w:World} {K:PySem.W.Frag} {mg:Str→Option Value} {base:Heap} (B:Bt2 mg) {f:Addr} {fd:FuncData} (F:Fun K "_law_stream" "_law_stream" g5 f fd):FnOk P w K mg base CX0 1 f fd ["_law_cell","_law_many"] (b5 K):=by
 refine F.ok sc__law_stream (fun vs H Q E h=>oA h) (fun cdv A outer s H vs Q E hr h=>?_)
 have hu:=hr.units
 have nd:=sc__law_stream.nd
 refine ⟨ed K,?_,oB h⟩
 exact (ac (ak (i:=2) nd rfl (Or.inl rfl) (ao aA (ao ba (pv 0) ad) ad))
   (ac (ak (i:=3) nd rfl (Or.inl rfl) (aI ab))
   (ac (cr PassesOwn.never rfl (dM rfl B.range_ (aa (pv 1) ab)) (ax (i:=4) nd rfl (Or.inl rfl))
   (ac (ak (i:=2) nd rfl (Or.inl rfl) (ao ba (ao aA (ao aA (ao bQ (pv 2) (pv 2)) (ao bQ ad (pv 2))) (pv 4)) ad))
   (af (bZ (dm PySem.F.plainAttrs_list PySem.F.slot_list_append PySem.F.type_list_append cw (pv 3) (aa (pv 2) ab))))))
   (af (ai (pv 3))))))
abbrev iO:Stmt:=top 67
theorem sc__law_order:am ["_law_xs","_law_many","_law_left","_law_order_here","_law_k"] ["_law_xs","_law_many"] (ag iO):=⟨rfl,rfl,rfl,by decide+kernel,rfl,by decide+kernel,by decide+kernel⟩
set_option maxHeartbeats 4000000 in
theorem p5 {P:Program} {w:World} {K:PySem.W.Frag} {mg:Str→Option Value} {base:Heap} (B:Bt2 mg) {f:Addr} {fd:FuncData} (F:Fun K "_law_order" "_law_order" iO f fd):FnOk P w K mg base CX0 1 f fd ["_law_xs","_law_many"] (bA K):=by
 refine F.ok sc__law_order (fun vs H Q E h=>pN h) (fun cdv A outer s H vs Q E hr h=>?_)
 have hu:=hr.units
 have nd:=sc__law_order.nd
 refine ⟨fh K,?_,pO h⟩
 exact (ac (ak (i:=2) nd rfl (Or.inl rfl) (lQ rfl rfl rfl B.list_ B.range_ (aa (pv 1) ab)))
   (ac (ak (i:=3) nd rfl (Or.inl rfl) (aI ab))
   (ac (cr PassesOwn.never rfl (dM rfl B.range_ (aa (pv 1) ab)) (ax (i:=4) nd rfl (Or.inl rfl))
   (af (bZ (dm PySem.F.plainAttrs_list PySem.F.slot_list_append PySem.F.type_list_append cw (pv 3) (aa (dm PySem.F.plainAttrs_list PySem.F.slot_list_pop PySem.F.type_list_pop uT (pv 2) (aa (ao ba (az (aD hu) (pv 0) (pv 4) (fun _ _=>rfl)) (ay aU rfl B.len_ bh (aa (pv 2) ab))) ab)) ab)))))
   (af (ai (pv 3))))))
abbrev jh:Stmt:=top 68
theorem sc__law_kept:am ["_law_order_here","_law_filling_here","_law_rising","_law_kept_here","_law_sign","_law_some"] ["_law_order_here","_law_filling_here","_law_rising"] (ag jh):=⟨rfl,rfl,rfl,by decide+kernel,rfl,by decide+kernel,by decide+kernel⟩
set_option maxHeartbeats 4000000 in
theorem rQ {P:Program} {w:World} {K:PySem.W.Frag} {mg:Str→Option Value} {base:Heap} (B:Bt2 mg) {f:Addr} {fd:FuncData} (F:Fun K "_law_kept" "_law_kept" jh f fd):FnOk P w K mg base CX0 1 f fd ["_law_order_here","_law_filling_here","_law_rising"] (cS K):=by
 refine F.ok sc__law_kept (fun vs H Q E h=>rh h) (fun cdv A outer s H vs Q E hr h=>?_)
 have hu:=hr.units
 have nd:=sc__law_kept.nd
 refine ⟨fX K,?_,ri h⟩
 exact (ac (ak (i:=3) nd rfl (Or.inr rfl) (aI ab))
   (ac (cr PassesOwn.never rfl (uj rfl B.range_ (aa ad (aa ad ab))) (ax (i:=4) nd rfl (Or.inr rfl))
   (ac (jr (k:=5) nd rfl (Or.inl rfl) rfl (ix:=[none,none,some 1,some 4]) [".0","_law_cell","_law_filling_here","_law_sign"] (aH rfl (by decide+kernel) rfl rfl rfl) rfl (aK (pv 0)) (fun cl s H fp=>(ax (i:=1) (show ([".0","_law_cell","_law_filling_here","_law_sign"]:List Str).Nodup by decide+kernel) rfl (Or.inl rfl))) (fun cl s H fp=>(fF (ap (aG hu) (az (aD hu) (pv 2) (pv 1) (fun _ _=>rfl)) (pv 3) (aq _)))) (fun cl s H fp=>(pv 1)))
   (af (ak (i:=3) nd rfl (Or.inr rfl) (ao aA (pv 3) (bT e9 (pv 5) cj (ck ad)))))))
   (ac (aB (bB (pv 2)) (af (ai (pv 3))) av)
   (af (ai (aR (ix:=[none,none,some 3]) [".0","_law_cell","_law_kept_here"] (aH rfl (by decide+kernel) rfl rfl rfl) rfl (aK (pv 0)) (fun cl s H fp=>(ax (i:=1) (show ([".0","_law_cell","_law_kept_here"]:List Str).Nodup by decide+kernel) rfl (Or.inl rfl))) (fun cl s H fp=>(fF (ap (jt hu) (pv 1) (pv 2) (by with_unfolding_all rfl)))) (fun cl s H fp=>(pv 1))))))))
abbrev ji:Stmt:=top 69
theorem sc__law_seen:am ["_law_filling_here","_law_cells","_law_greatest","_law_many","_law_cell"] ["_law_filling_here","_law_cells"] (ag ji):=⟨rfl,rfl,rfl,by decide+kernel,rfl,by decide+kernel,by decide+kernel⟩
set_option maxHeartbeats 4000000 in
theorem rR {P:Program} {w:World} {K:PySem.W.Frag} {mg:Str→Option Value} {base:Heap} (B:Bt2 mg) {f:Addr} {fd:FuncData} (F:Fun K "_law_seen" "_law_seen" ji f fd):FnOk P w K mg base CX0 1 f fd ["_law_filling_here","_law_cells"] (cT K):=by
 refine F.ok sc__law_seen (fun vs H Q E h=>rj h) (fun cdv A outer s H vs Q E hr h=>?_)
 have hu:=hr.units
 have nd:=sc__law_seen.nd
 refine ⟨fY K,?_,rk h⟩
 exact (ac (ak (i:=2) nd rfl (Or.inl rfl) ad)
   (ac (ak (i:=3) nd rfl (Or.inl rfl) ad)
   (ac (cr PassesOwn.never rfl (aK (pv 1)) (ax (i:=4) nd rfl (Or.inl rfl))
   (af (aB (ap dO (az (aD hu) (pv 0) (pv 4) (fun _ _=>rfl)) (pv 2) (aq _)) (ac (ak (i:=2) nd rfl (Or.inl rfl) (az (aD hu) (pv 0) (pv 4) (fun _ _=>rfl)))
   (af (ak (i:=3) nd rfl (Or.inl rfl) (ao aA (pv 3) ad)))) av)))
   (af (ai (pv 3))))))
abbrev g6:Stmt:=top 74
theorem sc__law_floors:am ["_law_floor","_law_clues","_law_found","_law_clue","_law_signs","_law_longer","_law_one"] ["_law_floor","_law_clues"] (ag g6):=⟨rfl,rfl,rfl,by decide+kernel,rfl,by decide+kernel,by decide+kernel⟩
set_option maxHeartbeats 4000000 in
theorem oQ {P:Program} {w:World} {K:PySem.W.Frag} {mg:Str→Option Value} {base:Heap} (B:Bt2 mg) {f:Addr} {fd:FuncData} (F:Fun K "_law_floors" "_law_floors" g6 f fd):FnOk P w K mg base CX0 1 f fd ["_law_floor","_law_clues"] (bJ K):=by
 refine F.ok sc__law_floors (fun vs H Q E h=>mw h) (fun cdv A outer s H vs Q E hr h=>?_)
 have hu:=hr.units
 have nd:=sc__law_floors.nd
 refine ⟨df K,?_,mx h⟩
 exact (ac (ak (i:=2) nd rfl (Or.inl rfl) (aI (aa (aI ab) ab)))
   (ac (cr PassesOwn.never rfl (aK (pv 1)) (ax (i:=3) nd rfl (Or.inl rfl))
   (ac (ak (i:=4) nd rfl (Or.inl rfl) (aI (aa (pv 3) ab)))
   (ac (aB (ap (aG hu) (pv 3) ad (aq _)) (af (ak (i:=4) nd rfl (Or.inl rfl) (lR rfl rfl rfl B.list_ B.range_ (aa ad (aa (ao aA (az (aD hu) (pv 0) ad (fun _ _=>rfl)) ad) ab))))) av)
   (ac (ak (i:=5) nd rfl (Or.inl rfl) (aI ab))
   (ac (cr PassesOwn.never rfl (aK (pv 2)) (ax (i:=6) nd rfl (Or.inr rfl))
   (af (bZ (dm PySem.F.plainAttrs_list PySem.F.slot_list_extend PySem.F.type_list_extend mQ (pv 5) (aa (aR (ix:=[none,none,some 6]) [".0","_law_sign","_law_one"] (aH rfl (by decide+kernel) rfl rfl rfl) rfl (aK (pv 4)) (fun cl s H fp=>(ax (i:=1) (show ([".0","_law_sign","_law_one"]:List Str).Nodup by decide+kernel) rfl (Or.inl rfl))) (fun cl s H fp=>aY) (fun cl s H fp=>(ao aA (pv 2) (aI (aa (pv 1) ab))))) ab)))))
   (af (ak (i:=2) nd rfl (Or.inl rfl) (pv 5))))))))
   (af (ai (pv 2)))))
abbrev fD:Stmt:=top 12
theorem sc_is_from_one_to:am ["value","most"] ["value","most"] (ag fD):=⟨rfl,rfl,rfl,by decide+kernel,rfl,by decide+kernel,by decide+kernel⟩
set_option maxHeartbeats 4000000 in
theorem lK {P:Program} {w:World} {K:PySem.W.Frag} {mg:Str→Option Value} {base:Heap} (B:Bt2 mg) (yL:Cal P w K mg base 1 "is_whole" ["value"] (bY K)) {f:Addr} {fd:FuncData} (F:Fun K "is_from_one_to" "is_from_one_to" fD f fd):FnOk P w K mg base CX0 2 f fd ["value","most"] (aZ K):=by
 refine F.ok sc_is_from_one_to (fun vs H Q E h=>lE h) (fun cdv A outer s H vs Q E hr h=>?_)
 have hu:=hr.units
 have nd:=sc_is_from_one_to.nd
 refine ⟨cG K,?_,lF h⟩
 exact (af (ai (fL (au yL hr (by decide) rfl (aa (pv 0) ab)) (fL (a8 kJ ad (pv 0) (aq _)) (fK (a8 kJ (pv 0) (pv 1) (aq _)))))))
abbrev mC:Stmt:=top 16
theorem sc_beside:am ["floor","cell","high","wide","spot","found"] ["floor","cell"] (ag mC):=⟨rfl,rfl,rfl,by decide+kernel,rfl,by decide+kernel,by decide+kernel⟩
set_option maxHeartbeats 4000000 in
theorem vn {P:Program} {w:World} {K:PySem.W.Frag} {mg:Str→Option Value} {base:Heap} (B:Bt2 mg) (zg:Cal P w K mg base 1 "spot_of" ["floor","cell"] (cx K)) {f:Addr} {fd:FuncData} (F:Fun K "beside" "beside" mC f fd):FnOk P w K mg base CX0 2 f fd ["floor","cell"] (cY K):=by
 refine F.ok sc_beside (fun vs H Q E h=>uP h) (fun cdv A outer s H vs Q E hr h=>?_)
 have hu:=hr.units
 have nd:=sc_beside.nd
 refine ⟨i5 K,?_,uQ h⟩
 exact (ac (ak (i:=2) nd rfl (Or.inl rfl) (az (aD hu) (pv 0) ad (fun _ _=>rfl)))
   (ac (ak (i:=3) nd rfl (Or.inl rfl) (az (aD hu) (pv 0) ad (fun _ _=>rfl)))
   (ac (ak (i:=4) nd rfl (Or.inl rfl) (au zg hr (by decide) rfl (aa (pv 0) (aa (pv 1) ab))))
   (ac (ak (i:=5) nd rfl (Or.inl rfl) (aI ab))
   (ac (aB (ap dO (az (aD hu) (pv 4) ad (fun _ _=>rfl)) ad (aq _)) (af (bZ (dm PySem.F.plainAttrs_list PySem.F.slot_list_append PySem.F.type_list_append cw (pv 5) (aa (ao d5 (pv 1) (pv 3)) ab)))) av)
   (ac (aB (ap dO (az (aD hu) (pv 4) ad (fun _ _=>rfl)) ad (aq _)) (af (bZ (dm PySem.F.plainAttrs_list PySem.F.slot_list_append PySem.F.type_list_append cw (pv 5) (aa (ao d5 (pv 1) ad) ab)))) av)
   (ac (aB (ap fO (az (aD hu) (pv 4) ad (fun _ _=>rfl)) (ao d5 (pv 3) ad) (aq _)) (af (bZ (dm PySem.F.plainAttrs_list PySem.F.slot_list_append PySem.F.type_list_append cw (pv 5) (aa (ao aA (pv 1) ad) ab)))) av)
   (ac (aB (ap fO (az (aD hu) (pv 4) ad (fun _ _=>rfl)) (ao d5 (pv 2) ad) (aq _)) (af (bZ (dm PySem.F.plainAttrs_list PySem.F.slot_list_append PySem.F.type_list_append cw (pv 5) (aa (ao aA (pv 1) (pv 3)) ab)))) av)
   (af (ai (pv 5)))))))))))
abbrev jj:Stmt:=top 17
theorem sc_is_corner:am ["floor","cell","spot"] ["floor","cell"] (ag jj):=⟨rfl,rfl,rfl,by decide+kernel,rfl,by decide+kernel,by decide+kernel⟩
set_option maxHeartbeats 4000000 in
theorem rS {P:Program} {w:World} {K:PySem.W.Frag} {mg:Str→Option Value} {base:Heap} (B:Bt2 mg) (zg:Cal P w K mg base 1 "spot_of" ["floor","cell"] (cx K)) {f:Addr} {fd:FuncData} (F:Fun K "is_corner" "is_corner" jj f fd):FnOk P w K mg base CX0 2 f fd ["floor","cell"] (cO K):=by
 refine F.ok sc_is_corner (fun vs H Q E h=>qW h) (fun cdv A outer s H vs Q E hr h=>?_)
 have hu:=hr.units
 have nd:=sc_is_corner.nd
 refine ⟨fQ K,?_,qX h⟩
 exact (ac (ak (i:=2) nd rfl (Or.inl rfl) (au zg hr (by decide) rfl (aa (pv 0) (aa (pv 1) ab))))
   (af (ai (fL (a8 fO (az (aD hu) (pv 2) ad (fun _ _=>rfl)) (ao d5 (az (aD hu) (pv 0) ad (fun _ _=>rfl)) ad) (aq _)) (fK (a8 fO (az (aD hu) (pv 2) ad (fun _ _=>rfl)) (ao d5 (az (aD hu) (pv 0) ad (fun _ _=>rfl)) ad) (aq _)))))))
abbrev eM:Stmt:=top 23
theorem sc_refuse_too_many:am ["puzzle","floors","clue"] ["puzzle"] (ag eM):=⟨rfl,rfl,rfl,by decide+kernel,rfl,by decide+kernel,by decide+kernel⟩
set_option maxHeartbeats 4000000 in
theorem lc {P:Program} {w:World} {K:PySem.W.Frag} {mg:Str→Option Value} {base:Heap} (B:Bt2 mg) {c:RCl RK} {d:RCl PzK} {t_MOST_FLOORS:Tok} (zL:mg "MOST_FLOORS"=some (.int 1024 t_MOST_FLOORS)) (yM:MCal P w K mg base d d.ok 1 "clues" ["self"] (dX K c d)) (yA:MCal P w K mg base d d.ok 1 "place" ["self"] (dW K c d)) {f:Addr} {fd:FuncData} (F:Fun K "refuse_too_many" "refuse_too_many" eM f fd):FnOk P w K mg base CX0 2 f fd ["puzzle"] (bq K c d):=by
 refine F.ok sc_refuse_too_many (fun vs H Q E h=>kX h) (fun cdv A outer s H vs Q E hr h=>?_)
 have hu:=hr.units
 have nd:=sc_refuse_too_many.nd
 refine ⟨cA K c d,?_,kY h⟩
 exact (ac (ak (i:=1) nd rfl (Or.inl rfl) ad)
   (ac (cr PassesOwn.never rfl (aK (cZ yM hr (by decide) (pv 0))) (ax (i:=2) nd rfl (Or.inl rfl))
   (af (aB (ap (aG hu) (pv 2) ad (aq _)) (af (ak (i:=1) nd rfl (Or.inl rfl) (ao bQ (pv 1) (az (aD hu) (cZ yA hr (by decide) (pv 0)) ad (fun _ _=>rfl))))) av)))
   (af (aB (ap dO (pv 1) (cL rfl zL ⟨t_MOST_FLOORS,rfl⟩) (aq _)) (af bo) av))))
abbrev gi:Stmt:=top 25
theorem sc_every_filling:am ["signs_by_cell","fillings","signs"] ["signs_by_cell"] (ag gi):=⟨rfl,rfl,rfl,by decide+kernel,rfl,by decide+kernel,by decide+kernel⟩
set_option maxHeartbeats 4000000 in
theorem mD {P:Program} {w:World} {K:PySem.W.Frag} {mg:Str→Option Value} {base:Heap} (B:Bt2 mg) (Aj:Cal P w K mg base 1 "with_each" ["fillings","signs"] (cV K)) {f:Addr} {fd:FuncData} (F:Fun K "every_filling" "every_filling" gi f fd):FnOk P w K mg base CX0 2 f fd ["signs_by_cell"] (bH K):=by
 refine F.ok sc_every_filling (fun vs H Q E h=>mo h) (fun cdv A outer s H vs Q E hr h=>?_)
 have hu:=hr.units
 have nd:=sc_every_filling.nd
 refine ⟨dc K,?_,mq h⟩
 exact (ac (ak (i:=1) nd rfl (Or.inl rfl) (aI (aa (aI ab) ab)))
   (ac (cr PassesOwn.never rfl (aK (pv 0)) (ax (i:=2) nd rfl (Or.inl rfl))
   (af (ak (i:=1) nd rfl (Or.inl rfl) (au Aj hr (by decide) rfl (aa (pv 1) (aa (pv 2) ab))))))
   (af (ai (pv 1)))))
abbrev gA:Stmt:=top 27
theorem sc_signs_to_try:am ["puzzle","numbers","floor"] ["puzzle","numbers"] (ag gA):=⟨rfl,rfl,rfl,by decide+kernel,rfl,by decide+kernel,by decide+kernel⟩
set_option maxHeartbeats 4000000 in
theorem n9 {P:Program} {w:World} {K:PySem.W.Frag} {mg:Str→Option Value} {base:Heap} (B:Bt2 mg) {c:RCl RK} {d:RCl PzK} (zY:Cal P w K mg base 1 "signs_from" ["floor","number"] (cq K)) (yM:MCal P w K mg base d d.ok 1 "clues" ["self"] (dX K c d)) (yA:MCal P w K mg base d d.ok 1 "place" ["self"] (dW K c d)) {f:Addr} {fd:FuncData} (F:Fun K "signs_to_try" "signs_to_try" gA f fd):FnOk P w K mg base CX0 2 f fd ["puzzle","numbers"] (bR K c d):=by
 refine F.ok sc_signs_to_try (fun vs H Q E h=>nT h) (fun cdv A outer s H vs Q E hr h=>?_)
 have hu:=hr.units
 have nd:=sc_signs_to_try.nd
 refine ⟨dI K c d,?_,nU h⟩
 exact (ac (ak (i:=2) nd rfl (Or.inr rfl) (cZ yA hr (by decide) (pv 0)))
   (af (ai (aR (ix:=[none,none,none,some 2]) [".0","clue","number","floor"] (aH rfl (by decide+kernel) rfl rfl rfl) rfl (qJ rfl B.zip_ (aa (cZ yM hr (by decide) (pv 0)) (aa (pv 1) ab))) (fun cl s H fp=>(jp rfl (bD (ax (i:=1) (show ([".0","clue","number","floor"]:List Str).Nodup by decide+kernel) rfl (Or.inl rfl)) (bD (ax (i:=2) (show ([".0","clue","number","floor"]:List Str).Nodup by decide+kernel) rfl (Or.inl rfl)) ij)))) (fun cl s H fp=>aY) (fun cl s H fp=>(vp (ap (aG hu) (pv 1) ad (aq _)) (au zY hr (by decide) rfl (aa (pv 3) (aa (pv 2) ab))) (aI (aa (pv 1) ab))))))))
abbrev gB:Stmt:=mtop 33 0
theorem sc_Unlike_holds:am ["self","filling","signs"] ["self","filling"] (ag gB):=⟨rfl,rfl,rfl,by decide+kernel,rfl,by decide+kernel,by decide+kernel⟩
set_option maxHeartbeats 4000000 in
theorem oe {P:Program} {w:World} {K:PySem.W.Frag} {mg:Str→Option Value} {base:Heap} (B:Bt2 mg) {c:RCl RK} (yo:MCal P w K mg base c c.ok 1 "signs_at" ["self","filling"] (br K c)) {f:Addr} {fd:FuncData} (F:Fun K "holds" "Unlike.holds" gB f fd):FnOk P w K mg base CX0 2 f fd ["self","filling"] (dt K c):=by
 refine F.ok sc_Unlike_holds (fun vs H Q E h=>nq h) (fun cdv A outer s H vs Q E hr h=>?_)
 have hu:=hr.units
 have nd:=sc_Unlike_holds.nd
 refine ⟨du K c,?_,nt h⟩
 exact (ac (ak (i:=2) nd rfl (Or.inl rfl) (bp yo hr (by decide) (pv 0) (aa (pv 1) ab)))
   (af (ai (a8 (aG hu) (pc rfl rfl rfl B.len_ B.set_ (pv 2)) (ay aU rfl B.len_ bh (aa (pv 2) ab)) (aq _)))))
abbrev jk:Stmt:=mtop 34 1
theorem sc_Sum_holds:am ["self","filling"] ["self","filling"] (ag jk):=⟨rfl,rfl,rfl,by decide+kernel,rfl,by decide+kernel,by decide+kernel⟩
set_option maxHeartbeats 4000000 in
theorem rT {P:Program} {w:World} {K:PySem.W.Frag} {mg:Str→Option Value} {base:Heap} (B:Bt2 mg) {c:RCl RK} (FK_c_amount:FldK K c "amount") (yo:MCal P w K mg base c c.ok 1 "signs_at" ["self","filling"] (br K c)) {f:Addr} {fd:FuncData} (F:Fun K "holds" "Sum.holds" jk f fd):FnOk P w K mg base CX0 2 f fd ["self","filling"] (ga K c):=by
 refine F.ok sc_Sum_holds (fun vs H Q E h=>rl h) (fun cdv A outer s H vs Q E hr h=>?_)
 have hu:=hr.units
 have nd:=sc_Sum_holds.nd
 refine ⟨gb K c,?_,rm h⟩
 exact (af (ai (a8 (aG hu) (ay (o9 rfl) rfl B.sum_ uJ (aa (bp yo hr (by decide) (pv 0) (aa (pv 1) ab)) ab)) (bj (pv 0) FK_c_amount) (aq _))))
abbrev gC:Stmt:=mtop 35 1
theorem sc_Rising_holds:am ["self","filling","signs"] ["self","filling"] (ag gC):=⟨rfl,rfl,rfl,by decide+kernel,rfl,by decide+kernel,by decide+kernel⟩
set_option maxHeartbeats 4000000 in
theorem og {P:Program} {w:World} {K:PySem.W.Frag} {mg:Str→Option Value} {base:Heap} (B:Bt2 mg) {c:RCl RK} (yo:MCal P w K mg base c c.ok 1 "signs_at" ["self","filling"] (br K c)) {f:Addr} {fd:FuncData} (F:Fun K "holds" "Rising.holds" gC f fd):FnOk P w K mg base CX0 2 f fd ["self","filling"] (dC K c):=by
 refine F.ok sc_Rising_holds (fun vs H Q E h=>nN h) (fun cdv A outer s H vs Q E hr h=>?_)
 have hu:=hr.units
 have nd:=sc_Rising_holds.nd
 refine ⟨dD K c,?_,nO h⟩
 exact (ac (ak (i:=2) nd rfl (Or.inr rfl) (bp yo hr (by decide) (pv 0) (aa (pv 1) ab)))
   (af (ai (ay (dR rfl) rfl B.all_ iG (aa (aR (ix:=[none,none,some 2]) [".0","place","signs"] (aH rfl (by decide+kernel) rfl rfl rfl) rfl (dM rfl B.range_ (aa (ao d5 (ay aU rfl B.len_ bh (aa (pv 2) ab)) ad) ab)) (fun cl s H fp=>(ax (i:=1) (show ([".0","place","signs"]:List Str).Nodup by decide+kernel) rfl (Or.inl rfl))) (fun cl s H fp=>aY) (fun cl s H fp=>(a8 fO (az (aD hu) (pv 2) (pv 1) (fun _ _=>rfl)) (az (aD hu) (pv 2) (ao aA (pv 1) ad) (fun _ _=>rfl)) (aq _)))) ab)))))
abbrev iP:Stmt:=mtop 36 1
theorem sc_Seen_holds:am ["self","filling","greatest","seen","sign"] ["self","filling"] (ag iP):=⟨rfl,rfl,rfl,by decide+kernel,rfl,by decide+kernel,by decide+kernel⟩
set_option maxHeartbeats 4000000 in
theorem p6 {P:Program} {w:World} {K:PySem.W.Frag} {mg:Str→Option Value} {base:Heap} (B:Bt2 mg) {c:RCl RK} (FK_c_amount:FldK K c "amount") (yo:MCal P w K mg base c c.ok 1 "signs_at" ["self","filling"] (br K c)) {f:Addr} {fd:FuncData} (F:Fun K "holds" "Seen.holds" iP f fd):FnOk P w K mg base CX0 2 f fd ["self","filling"] (fi K c):=by
 refine F.ok sc_Seen_holds (fun vs H Q E h=>pP h) (fun cdv A outer s H vs Q E hr h=>?_)
 have hu:=hr.units
 have nd:=sc_Seen_holds.nd
 refine ⟨fj K c,?_,pQ h⟩
 exact (ac (ak (i:=2) nd rfl (Or.inl rfl) ad)
   (ac (ak (i:=3) nd rfl (Or.inl rfl) ad)
   (ac (cr PassesOwn.never rfl (aK (bp yo hr (by decide) (pv 0) (aa (pv 1) ab))) (ax (i:=4) nd rfl (Or.inl rfl))
   (af (aB (ap dO (pv 4) (pv 2) (aq _)) (ac (ak (i:=2) nd rfl (Or.inl rfl) (pv 4))
   (af (ak (i:=3) nd rfl (Or.inl rfl) (ao aA (pv 3) ad)))) av)))
   (af (ai (a8 (aG hu) (pv 3) (bj (pv 0) FK_c_amount) (aq _)))))))
abbrev g7:Stmt:=mtop 37 0
theorem sc_Count_holds:am ["self","filling"] ["self","filling"] (ag g7):=⟨rfl,rfl,rfl,by decide+kernel,rfl,by decide+kernel,by decide+kernel⟩
set_option maxHeartbeats 4000000 in
theorem oR {P:Program} {w:World} {K:PySem.W.Frag} {mg:Str→Option Value} {base:Heap} (B:Bt2 mg) {c:RCl RK} (FK_c_amount:FldK K c "amount") (yr:MCal P w K mg base c c.ok 1 "marked" ["self","filling"] (bx K c)) {f:Addr} {fd:FuncData} (F:Fun K "holds" "Count.holds" g7 f fd):FnOk P w K mg base CX0 2 f fd ["self","filling"] (eo K c):=by
 refine F.ok sc_Count_holds (fun vs H Q E h=>oI h) (fun cdv A outer s H vs Q E hr h=>?_)
 have hu:=hr.units
 have nd:=sc_Count_holds.nd
 refine ⟨eA K c,?_,oJ h⟩
 exact (af (ai (a8 (aG hu) (ay aU rfl B.len_ bh (aa (bp yr hr (by decide) (pv 0) (aa (pv 1) ab)) ab)) (bj (pv 0) FK_c_amount) (aq _))))
abbrev gj:Stmt:=top 49
theorem sc_number_within:am ["word","least","most","number"] ["word","least","most"] (ag gj):=⟨rfl,rfl,rfl,by decide+kernel,rfl,by decide+kernel,by decide+kernel⟩
set_option maxHeartbeats 4000000 in
theorem mE {P:Program} {w:World} {K:PySem.W.Frag} {mg:Str→Option Value} {base:Heap} (B:Bt2 mg) (Ak:Cal P w K mg base 1 "number_in" ["word"] (cQ K)) {f:Addr} {fd:FuncData} (F:Fun K "number_within" "number_within" gj f fd):FnOk P w K mg base CX0 2 f fd ["word","least","most"] (be K):=by
 refine F.ok sc_number_within (fun vs H Q E h=>md h) (fun cdv A outer s H vs Q E hr h=>?_)
 have hu:=hr.units
 have nd:=sc_number_within.nd
 refine ⟨c8 K,?_,me h⟩
 exact (ac (ak (i:=3) nd rfl (Or.inl rfl) (au Ak hr (by decide) rfl (aa (pv 0) ab)))
   (ac (aB (PW.pt (fJ (ap wX (pv 3) qp (aq _)) (fJ (ap fO (pv 3) (pv 1) (aq _)) (gQ (ap dO (pv 3) (pv 2) (aq _)))))) (af bo) av)
   (af (ai (pv 3)))))
abbrev iQ:Stmt:=top 59
theorem sc_is_filling:am ["floor","filling","least"] ["floor","filling","least"] (ag iQ):=⟨rfl,rfl,rfl,by decide+kernel,rfl,by decide+kernel,by decide+kernel⟩
set_option maxHeartbeats 4000000 in
theorem p7 {P:Program} {w:World} {K:PySem.W.Frag} {mg:Str→Option Value} {base:Heap} (B:Bt2 mg) (yL:Cal P w K mg base 1 "is_whole" ["value"] (bY K)) (yg:Cal P w K mg base 1 "many_cells" ["floor"] (aN K)) {f:Addr} {fd:FuncData} (F:Fun K "is_filling" "is_filling" iQ f fd):FnOk P w K mg base CX0 2 f fd ["floor","filling","least"] (bz K):=by
 refine F.ok sc_is_filling (fun vs H Q E h=>pL h) (fun cdv A outer s H vs Q E hr h=>?_)
 have hu:=hr.units
 have nd:=sc_is_filling.nd
 refine ⟨fg K,?_,pM h⟩
 exact (ac (aB (PW.pt (fJ (cM (bB (ay cu rfl B.isinstance_ bm (aa (pv 1) (aa (d4 (v:=.ty "list") rfl B.list_ di rfl) ab))))) (gQ (ap (eW hu) (ay aU rfl B.len_ bh (aa (pv 1) ab)) (au yg hr (by decide) rfl (aa (pv 0) ab)) (aq _))))) (af (ai jE)) av)
   (af (ai (ay (dR rfl) rfl B.all_ iG (aa (aR (ix:=[none,none,some 0,some 2]) [".0","sign","floor","least"] (aH rfl (by decide+kernel) rfl rfl rfl) rfl (aK (pv 1)) (fun cl s H fp=>(ax (i:=1) (show ([".0","sign","floor","least"]:List Str).Nodup by decide+kernel) rfl (Or.inl rfl))) (fun cl s H fp=>aY) (fun cl s H fp=>(fL (au yL hr (by decide) rfl (aa (pv 1) ab)) (fL (a8 kJ (pv 3) (pv 1) (aq _)) (fK (a8 kJ (pv 1) (az (aD hu) (pv 2) ad (fun _ _=>rfl)) (aq _))))))) ab)))))
abbrev gD:Stmt:=mtop 61 2
theorem sc_Puzzle_lines:am ["self"] ["self"] (ag gD):=⟨rfl,rfl,rfl,by decide+kernel,rfl,by decide+kernel,by decide+kernel⟩
set_option maxHeartbeats 4000000 in
theorem oh {P:Program} {w:World} {K:PySem.W.Frag} {mg:Str→Option Value} {base:Heap} (B:Bt2 mg) {c:RCl RK} {d:RCl PzK} (FK_d_laws:FldK K d "laws") (B7:MCal P w K mg base c c.ok 1 "line" ["self"] (jy K c)) {f:Addr} {fd:FuncData} (F:Fun K "lines" "Puzzle.lines" gD f fd):FnOk P w K mg base CX0 2 f fd ["self"] (dA K c d):=by
 refine F.ok sc_Puzzle_lines (fun vs H Q E h=>nG h) (fun cdv A outer s H vs Q E hr h=>?_)
 have hu:=hr.units
 have nd:=sc_Puzzle_lines.nd
 refine ⟨dB K c d,?_,nI h⟩
 exact (af (ai (aR (ix:=[none,none]) [".0","rule"] (aH rfl (by decide+kernel) rfl rfl rfl) rfl (aK (bj (pv 0) FK_d_laws)) (fun cl s H fp=>(ax (i:=1) (show ([".0","rule"]:List Str).Nodup by decide+kernel) rfl (Or.inl rfl))) (fun cl s H fp=>aY) (fun cl s H fp=>(cZ B7 hr (by decide) (pv 1))))))
abbrev d2:Stmt:=top 65
theorem sc__law_small_floor:am ["_law_script","_law_sizes","_law_high","_law_wide"] ["_law_script"] (ag d2):=⟨rfl,rfl,rfl,by decide+kernel,rfl,by decide+kernel,by decide+kernel⟩
set_option maxHeartbeats 4000000 in
theorem kA {P:Program} {w:World} {K:PySem.W.Frag} {mg:Str→Option Value} {base:Heap} (B:Bt2 mg) (yj:Cal P w K mg base 1 "_law_at" ["_law_script","_law_k"] (aP K)) {f:Addr} {fd:FuncData} (F:Fun K "_law_small_floor" "_law_small_floor" d2 f fd):FnOk P w K mg base CX0 2 f fd ["_law_script"] (bb K):=by
 refine F.ok sc__law_small_floor (fun vs H Q E h=>jC h) (fun cdv A outer s H vs Q E hr h=>?_)
 have hu:=hr.units
 have nd:=sc__law_small_floor.nd
 refine ⟨bS K,?_,jD h⟩
 refine ac ?s0 ?r0
 case s0=>
  refine qr (te:=?te) (g:=gName 1) ?h1 ?h2 ?h4 ?h5 ?h6
  case h2=>exact ax (i:=1) nd rfl (Or.inl rfl)
  case h4=>rfl
  case h5=>rfl
  case h6=>rfl
  case h1=>
   refine aI ?_
   refine bV ?_ ?_
   · exact bO (aL ad (aL ad ab))
   refine bV ?_ ?_
   · exact bO (aL ad (aL ad ab))
   refine bV ?_ ?_
   · exact bO (aL ad (aL ad ab))
   refine bV ?_ ?_
   · exact bO (aL ad (aL ad ab))
   refine bV ?_ ?_
   · exact bO (aL ad (aL ad ab))
   refine bV ?_ ?_
   · exact bO (aL ad (aL ad ab))
   refine bV ?_ ?_
   · exact bO (aL ad (aL ad ab))
   refine bV ?_ ?_
   · exact bO (aL ad (aL ad ab))
   refine bV ?_ ?_
   · exact bO (aL ad (aL ad ab))
   refine bV ?_ ?_
   · exact bO (aL ad (aL ad ab))
   refine bV ?_ ?_
   · exact bO (aL ad (aL ad ab))
   refine bV ?_ ?_
   · exact bO (aL ad (aL ad ab))
   exact ab
 case r0=>
  exact (ac (qr (az (aD hu) (pv 1) (ao ba (au yj hr (by decide) rfl (aa (pv 0) (aa ad ab))) ad) (fun _ _=>rfl)) (jp rfl (bD (ax (i:=2) nd rfl (Or.inl rfl)) (bD (ax (i:=3) nd rfl (Or.inl rfl)) ij))))
   (af (ai (bO (aa (pv 2) (aa (pv 3) (aa (ao aA ad (ao ba (au yj hr (by decide) rfl (aa (pv 0) (aa ad ab))) (az (aD hu) (aI (aa ad (aa ad (aa ad (aa ad ab))))) (ao ba (au yj hr (by decide) rfl (aa (pv 0) (aa ad ab))) ad) (fun _ _=>rfl)))) ab)))))))
abbrev jl:Stmt:=top 70
theorem sc__law_line:am ["_law_floor","_law_filling_here","_law_cell","_law_many","_law_xs","_law_order_here","_law_some","_law_sign","_law_off","_law_way","_law_words"] ["_law_floor","_law_filling_here","_law_cell"] (ag jl):=⟨rfl,rfl,rfl,by decide+kernel,rfl,by decide+kernel,by decide+kernel⟩
set_option maxHeartbeats 4000000 in
theorem rV {P:Program} {w:World} {K:PySem.W.Frag} {mg:Str→Option Value} {base:Heap} (B:Bt2 mg) (Al:Cal P w K mg base 1 "_law_kept" ["_law_order_here","_law_filling_here","_law_rising"] (cS K)) (yw:Cal P w K mg base 1 "_law_order" ["_law_xs","_law_many"] (bA K)) (Am:Cal P w K mg base 1 "_law_seen" ["_law_filling_here","_law_cells"] (cT K)) (zM:Cal P w K mg base 1 "_law_stream" ["_law_cell","_law_many"] (b5 K)) {f:Addr} {fd:FuncData} (F:Fun K "_law_line" "_law_line" jl f fd):FnOk P w K mg base CX0 2 f fd ["_law_floor","_law_filling_here","_law_cell"] (b6 K):=by
 refine F.ok sc__law_line (fun vs H Q E h=>oE h) (fun cdv A outer s H vs Q E hr h=>?_)
 have hu:=hr.units
 have nd:=sc__law_line.nd
 refine ⟨eh K,?_,oF h⟩
 exact (ac (ak (i:=3) nd rfl (Or.inl rfl) (ao bQ (az (aD hu) (pv 0) ad (fun _ _=>rfl)) (az (aD hu) (pv 0) ad (fun _ _=>rfl))))
   (ac (ak (i:=4) nd rfl (Or.inl rfl) (au zM hr (by decide) rfl (aa (ao sJ (pv 2) ad) (aa (ao aA (pv 3) ad) ab))))
   (ac (ak (i:=5) nd rfl (Or.inl rfl) (au yw hr (by decide) rfl (aa (pv 4) (aa (pv 3) ab))))
   (ac (ak (i:=6) nd rfl (Or.inl rfl) (bT e9 (pv 5) cj (ck (ao aA ad (ao ba (az (aD hu) (pv 4) (pv 3) (fun _ _=>rfl)) (pv 3))))))
   (ac (ak (i:=7) nd rfl (Or.inr rfl) (ao aA ad (ao ba (az (aD hu) (pv 4) (ao aA (pv 3) ad) (fun _ _=>rfl)) (az (aD hu) (pv 0) ad (fun _ _=>rfl)))))
   (ac (ak (i:=8) nd rfl (Or.inl rfl) (az (aD hu) (aI (aa ad (aa ad (aa ad (aa ad ab))))) (ao ba (az (aD hu) (pv 4) (ao aA (pv 3) ad) (fun _ _=>rfl)) ad) (fun _ _=>rfl)))
   (ac (ak (i:=9) nd rfl (Or.inl rfl) (ao ba (pv 2) ad))
   (ac (aB (ap dO (pv 9) ad (aq _)) (af (ai (ao aA (ao aA (az (aD hu) (aI (aa bc (aa bc (aa bc ab)))) (ao d5 (pv 9) ad) (fun _ _=>rfl)) bc) (bd fH rfl B.str_ ip (aa (pv 7) ab))))) av)
   (ac (aB (PW.pt (mH (ap (jt hu) (pv 9) (bO (aa ad (aa ad ab))) (by with_unfolding_all rfl)) (lm (ap (aG hu) (pv 8) ad (aq _))))) (af (ak (i:=6) nd rfl (Or.inl rfl) (bT e9 (au Al hr (by decide) rfl (aa (pv 5) (aa (pv 1) (aa (a8 (aG hu) (pv 9) ad (aq _)) ab)))) cj (ck (ay aU rfl B.len_ bh (aa (pv 6) ab)))))) av)
   (ac (ak (i:=10) nd rfl (Or.inl rfl) (aI (aa bc ab)))
   (ac (aB (ap (aG hu) (pv 9) ad (aq _)) (af (ak (i:=10) nd rfl (Or.inl rfl) (aI (aa bc (aa (bd fH rfl B.str_ ip (aa (ao aA (ay (o9 rfl) rfl B.sum_ uJ (aa (aR (ix:=[none,none,some 1]) [".0","_law_one","_law_filling_here"] (aH rfl (by decide+kernel) rfl rfl rfl) rfl (aK (pv 6)) (fun cl s H fp=>(ax (i:=1) (show ([".0","_law_one","_law_filling_here"]:List Str).Nodup by decide+kernel) rfl (Or.inl rfl))) (fun cl s H fp=>aY) (fun cl s H fp=>(az (aD hu) (pv 2) (pv 1) (fun _ _=>rfl)))) ab)) (pv 8)) ab)) ab))))) av)
   (ac (aB (ap (aG hu) (pv 9) ad (aq _)) (af (ak (i:=10) nd rfl (Or.inl rfl) (aI (aa bc ab)))) av)
   (ac (aB (ap (aG hu) (pv 9) ad (aq _)) (af (ak (i:=10) nd rfl (Or.inl rfl) (aI (aa bc (aa (bd fH rfl B.str_ ip (aa (ao aA (au Am hr (by decide) rfl (aa (pv 1) (aa (pv 6) ab))) (pv 8)) ab)) ab))))) av)
   (ac (aB (ap (aG hu) (pv 9) ad (aq _)) (af (ak (i:=10) nd rfl (Or.inl rfl) (aI (aa bc (aa (bd fH rfl B.str_ ip (aa (ao aA (ay aU rfl B.len_ bh (aa (aR (ix:=[none,none,some 1,some 7]) [".0","_law_one","_law_filling_here","_law_sign"] (aH rfl (by decide+kernel) rfl rfl rfl) rfl (aK (pv 6)) (fun cl s H fp=>(ax (i:=1) (show ([".0","_law_one","_law_filling_here","_law_sign"]:List Str).Nodup by decide+kernel) rfl (Or.inl rfl))) (fun cl s H fp=>(fF (ap (aG hu) (az (aD hu) (pv 2) (pv 1) (fun _ _=>rfl)) (pv 3) (aq _)))) (fun cl s H fp=>(pv 1))) ab)) (pv 8)) ab)) (aa (bd fH rfl B.str_ ip (aa (pv 7) ab)) ab)))))) av)
   (af (ai (dm PySem.F.plainAttrs_str PySem.F.slot_str_join PySem.F.type_str_join pd bc (aa (ao aA (pv 10) (aR (ix:=[none,none]) [".0","_law_one"] (aH rfl (by decide+kernel) rfl rfl rfl) rfl (aK (pv 6)) (fun cl s H fp=>(ax (i:=1) (show ([".0","_law_one"]:List Str).Nodup by decide+kernel) rfl (Or.inl rfl))) (fun cl s H fp=>aY) (fun cl s H fp=>(bd fH rfl B.str_ ip (aa (pv 1) ab))))) ab))))))))))))))))))
abbrev gE:Stmt:=top 71
theorem sc__law_filling:am ["_law_script","_law_floor","_law_at_here"] ["_law_script","_law_floor","_law_at_here"] (ag gE):=⟨rfl,rfl,rfl,by decide+kernel,rfl,by decide+kernel,by decide+kernel⟩
set_option maxHeartbeats 4000000 in
theorem oi {P:Program} {w:World} {K:PySem.W.Frag} {mg:Str→Option Value} {base:Heap} (B:Bt2 mg) (yj:Cal P w K mg base 1 "_law_at" ["_law_script","_law_k"] (aP K)) {f:Addr} {fd:FuncData} (F:Fun K "_law_filling" "_law_filling" gE f fd):FnOk P w K mg base CX0 2 f fd ["_law_script","_law_floor","_law_at_here"] (bw K):=by
 refine F.ok sc__law_filling (fun vs H Q E h=>lG h) (fun cdv A outer s H vs Q E hr h=>?_)
 have hu:=hr.units
 have nd:=sc__law_filling.nd
 refine ⟨cH K,?_,lH h⟩
 exact (af (ai (aR (ix:=[none,none,some 2,some 1,some 0]) [".0","_law_k","_law_at_here","_law_floor","_law_script"] (aH rfl (by decide+kernel) rfl rfl rfl) rfl (dM rfl B.range_ (aa (ao bQ (az (aD hu) (pv 1) ad (fun _ _=>rfl)) (az (aD hu) (pv 1) ad (fun _ _=>rfl))) ab)) (fun cl s H fp=>(ax (i:=1) (show ([".0","_law_k","_law_at_here","_law_floor","_law_script"]:List Str).Nodup by decide+kernel) rfl (Or.inl rfl))) (fun cl s H fp=>aY) (fun cl s H fp=>(ao aA ad (ao ba (au yj hr (by decide) rfl (aa (pv 4) (aa (ao aA (pv 2) (pv 1)) ab))) (az (aD hu) (pv 3) ad (fun _ _=>rfl))))))))
abbrev jm:Stmt:=top 72
theorem sc__law_open:am ["_law_script","_law_floor","_law_at_here","_law_many","_law_room","_law_product","_law_order_here"] ["_law_script","_law_floor","_law_at_here"] (ag jm):=⟨rfl,rfl,rfl,by decide+kernel,rfl,by decide+kernel,by decide+kernel⟩
set_option maxHeartbeats 4000000 in
theorem rW {P:Program} {w:World} {K:PySem.W.Frag} {mg:Str→Option Value} {base:Heap} (B:Bt2 mg) (yj:Cal P w K mg base 1 "_law_at" ["_law_script","_law_k"] (aP K)) (yw:Cal P w K mg base 1 "_law_order" ["_law_xs","_law_many"] (bA K)) {f:Addr} {fd:FuncData} (F:Fun K "_law_open" "_law_open" jm f fd):FnOk P w K mg base CX0 2 f fd ["_law_script","_law_floor","_law_at_here"] (b8 K):=by
 refine F.ok sc__law_open (fun vs H Q E h=>oM h) (fun cdv A outer s H vs Q E hr h=>?_)
 have hu:=hr.units
 have nd:=sc__law_open.nd
 refine ⟨eE K,?_,oN h⟩
 exact (ac (ak (i:=3) nd rfl (Or.inl rfl) (ao bQ (az (aD hu) (pv 1) ad (fun _ _=>rfl)) (az (aD hu) (pv 1) ad (fun _ _=>rfl))))
   (ac (ak (i:=4) nd rfl (Or.inl rfl) ad)
   (ac (ak (i:=5) nd rfl (Or.inl rfl) ad)
   (ac (qu PassesOwn.never (PW.pt (mH (ap fO (pv 4) (pv 3) (aq _)) (lm (ap kJ (ao bQ (pv 5) (az (aD hu) (pv 1) ad (fun _ _=>rfl))) ad (aq _)))))
   (ac (ak (i:=5) nd rfl (Or.inl rfl) (ao bQ (pv 5) (az (aD hu) (pv 1) ad (fun _ _=>rfl))))
   (af (ak (i:=4) nd rfl (Or.inl rfl) (ao aA (pv 4) ad)))))
   (ac (ak (i:=6) nd rfl (Or.inl rfl) (au yw hr (by decide) rfl (aa (aR (ix:=[none,none,some 2,some 0]) [".0","_law_k","_law_at_here","_law_script"] (aH rfl (by decide+kernel) rfl rfl rfl) rfl (dM rfl B.range_ (aa (pv 3) ab)) (fun cl s H fp=>(ax (i:=1) (show ([".0","_law_k","_law_at_here","_law_script"]:List Str).Nodup by decide+kernel) rfl (Or.inl rfl))) (fun cl s H fp=>aY) (fun cl s H fp=>(au yj hr (by decide) rfl (aa (pv 3) (aa (ao aA (pv 2) (pv 1)) ab))))) (aa (pv 3) ab))))
   (af (ai (bT e9 (pv 6) cj (ck (ao ba (au yj hr (by decide) rfl (aa (pv 0) (aa (ao aA (pv 2) (pv 3)) ab))) (ao aA (pv 4) ad)))))))))))
abbrev km:Stmt:=top 75
theorem sc__law_are:am ["_law_found","_law_due","_law_one","_law_other"] ["_law_found","_law_due"] (ag km):=⟨rfl,rfl,rfl,by decide+kernel,rfl,by decide+kernel,by decide+kernel⟩
set_option maxHeartbeats 4000000 in
theorem sy {P:Program} {w:World} {K:PySem.W.Frag} {mg:Str→Option Value} {base:Heap} (B:Bt2 mg) (zZ:Cal P w K mg base 1 "_law_whole" ["_law_found"] (cm K)) {f:Addr} {fd:FuncData} (F:Fun K "_law_are" "_law_are" km f fd):FnOk P w K mg base CX0 2 f fd ["_law_found","_law_due"] (bn K):=by
 refine F.ok sc__law_are (fun vs H Q E h=>pV h) (fun cdv A outer s H vs Q E hr h=>?_)
 have hu:=hr.units
 have nd:=sc__law_are.nd
 refine ⟨fu K,?_,pW h⟩
 exact (ac (aB (PW.pt (fJ (cM (bB (ay cu rfl B.isinstance_ bm (aa (pv 0) (aa (d4 (v:=.ty "list") rfl B.list_ di rfl) ab))))) (gQ (ap (eW hu) (ay aU rfl B.len_ bh (aa (pv 0) ab)) (ay aU rfl B.len_ bh (aa (pv 1) ab)) (aq _))))) (af (ai jE)) av)
   (ac (cr PassesOwn.never rfl (qJ rfl B.zip_ (aa (pv 0) (aa (pv 1) ab))) (jp rfl (bD (ax (i:=2) nd rfl (Or.inl rfl)) (bD (ax (i:=3) nd rfl (Or.inl rfl)) ij)))
   (af (aB (PW.pt (fJ (cM (bB (ay cu rfl B.isinstance_ bm (aa (pv 2) (aa (d4 (v:=.ty "list") rfl B.list_ di rfl) ab))))) (fJ (ap (eW hu) (pv 2) (pv 3) (aq _)) (gQ (ap (eW hu) (ay aU rfl B.len_ bh (aa (aR (ix:=[none,none]) [".0","_law_sign"] (aH rfl (by decide+kernel) rfl rfl rfl) rfl (aK (pv 2)) (fun cl s H fp=>(ax (i:=1) (show ([".0","_law_sign"]:List Str).Nodup by decide+kernel) rfl (Or.inl rfl))) (fun cl s H fp=>(fF (bB (au zZ hr (by decide) rfl (aa (pv 1) ab))))) (fun cl s H fp=>(pv 1))) ab)) (ay aU rfl B.len_ bh (aa (pv 3) ab)) (aq _)))))) (af (ai jE)) av)))
   (af (ai jE))))
abbrev kn:Stmt:=top 13
theorem sc_floor_of:am ["high","wide","signs"] ["high","wide","signs"] (ag kn):=⟨rfl,rfl,rfl,by decide+kernel,rfl,by decide+kernel,by decide+kernel⟩
set_option maxHeartbeats 4000000 in
theorem sA {P:Program} {w:World} {K:PySem.W.Frag} {mg:Str→Option Value} {base:Heap} (B:Bt2 mg) (yq:Cal P w K mg base 2 "is_from_one_to" ["value","most"] (aZ K)) {t_MOST_CELLS:Tok} (z4:mg "MOST_CELLS"=some (.int 16 t_MOST_CELLS)) {t_MOST_SIDE:Tok} (zJ:mg "MOST_SIDE"=some (.int 6 t_MOST_SIDE)) {t_MOST_SIGNS:Tok} (z5:mg "MOST_SIGNS"=some (.int 6 t_MOST_SIGNS)) {f:Addr} {fd:FuncData} (F:Fun K "floor_of" "floor_of" kn f fd):FnOk P w K mg base CX0 3 f fd ["high","wide","signs"] (dk K):=by
 refine F.ok sc_floor_of (fun vs H Q E h=>sk h) (fun cdv A outer s H vs Q E hr h=>?_)
 have hu:=hr.units
 have nd:=sc_floor_of.nd
 refine ⟨gO K,?_,so h⟩
 exact (ac (aB (cM (bB (au yq hr (by decide) rfl (aa (pv 0) (aa (cL rfl zJ ⟨t_MOST_SIDE,rfl⟩) ab))))) (af bo) av)
   (ac (aB (cM (bB (au yq hr (by decide) rfl (aa (pv 1) (aa (cL rfl zJ ⟨t_MOST_SIDE,rfl⟩) ab))))) (af bo) av)
   (ac (aB (ap dO (ao bQ (pv 0) (pv 1)) (cL rfl z4 ⟨t_MOST_CELLS,rfl⟩) (aq _)) (af bo) av)
   (ac (aB (cM (bB (au yq hr (by decide) rfl (aa (pv 2) (aa (cL rfl z5 ⟨t_MOST_SIGNS,rfl⟩) ab))))) (af bo) av)
   (af (ai (bO (aa (pv 0) (aa (pv 1) (aa (pv 2) ab))))))))))
abbrev lf:Stmt:=top 19
theorem sc_squares:am ["floor"] ["floor"] (ag lf):=⟨rfl,rfl,rfl,by decide+kernel,rfl,by decide+kernel,by decide+kernel⟩
set_option maxHeartbeats 4000000 in
theorem ub {P:Program} {w:World} {K:PySem.W.Frag} {mg:Str→Option Value} {base:Heap} (B:Bt2 mg) (An:Cal P w K mg base 2 "is_corner" ["floor","cell"] (cO K)) (yg:Cal P w K mg base 1 "many_cells" ["floor"] (aN K)) (Ao:Cal P w K mg base 1 "square_at" ["floor","corner"] (cP K)) {f:Addr} {fd:FuncData} (F:Fun K "squares" "squares" lf f fd):FnOk P w K mg base CX0 3 f fd ["floor"] (d7 K):=by
 refine F.ok sc_squares (fun vs H Q E h=>tS h) (fun cdv A outer s H vs Q E hr h=>?_)
 have hu:=hr.units
 have nd:=sc_squares.nd
 refine ⟨ib K,?_,tT h⟩
 exact (af (ai (aR (ix:=[none,none,some 0]) [".0","cell","floor"] (aH rfl (by decide+kernel) rfl rfl rfl) rfl (dM rfl B.range_ (aa (au yg hr (by decide) rfl (aa (pv 0) ab)) ab)) (fun cl s H fp=>(ax (i:=1) (show ([".0","cell","floor"]:List Str).Nodup by decide+kernel) rfl (Or.inl rfl))) (fun cl s H fp=>(fF (bB (au An hr (by decide) rfl (aa (pv 2) (aa (pv 1) ab)))))) (fun cl s H fp=>(au Ao hr (by decide) rfl (aa (pv 2) (aa (pv 1) ab)))))))
abbrev lg:Stmt:=top 20
theorem sc_reached:am ["floor","cells","start","found","place","cell"] ["floor","cells","start"] (ag lg):=⟨rfl,rfl,rfl,by decide+kernel,rfl,by decide+kernel,by decide+kernel⟩
set_option maxHeartbeats 4000000 in
theorem uc {P:Program} {w:World} {K:PySem.W.Frag} {mg:Str→Option Value} {base:Heap} (B:Bt2 mg) (zy:Cal P w K mg base 2 "beside" ["floor","cell"] (cY K)) {f:Addr} {fd:FuncData} (F:Fun K "reached" "reached" lg f fd):FnOk P w K mg base CX0 3 f fd ["floor","cells","start"] (eB K):=by
 refine F.ok sc_reached (fun vs H Q E h=>tY h) (fun cdv A outer s H vs Q E hr h=>?_)
 have hu:=hr.units
 have nd:=sc_reached.nd
 refine ⟨ie K,?_,tZ h⟩
 exact (ac (aB (ap (kK hu) (pv 2) (pv 1) (by with_unfolding_all rfl)) (af (ai (aI ab))) av)
   (ac (ak (i:=3) nd rfl (Or.inl rfl) (aI (aa (pv 2) ab)))
   (ac (ak (i:=4) nd rfl (Or.inl rfl) ad)
   (ac (qu PassesOwn.never (ap fO (pv 4) (ay aU rfl B.len_ bh (aa (pv 3) ab)) (aq _))
   (ac (cr PassesOwn.never rfl (aK (au zy hr (by decide) rfl (aa (pv 0) (aa (az (aD hu) (pv 3) (pv 4) (fun _ _=>rfl)) ab)))) (ax (i:=5) nd rfl (Or.inl rfl))
   (af (aB (PW.pt (mH (ap (jt hu) (pv 5) (pv 1) (by with_unfolding_all rfl)) (lm (ap (kK hu) (pv 5) (pv 3) (by with_unfolding_all rfl))))) (af (bZ (dm PySem.F.plainAttrs_list PySem.F.slot_list_append PySem.F.type_list_append cw (pv 3) (aa (pv 5) ab)))) av)))
   (af (ak (i:=4) nd rfl (Or.inl rfl) (ao aA (pv 4) ad)))))
   (af (ai (ay qI rfl B.sorted_ uE (aa (pv 3) ab))))))))
abbrev cX:Stmt:=mtop 40 1
theorem sc_Ring_has_two_beside:am ["self","cells","cell"] ["self","cells","cell"] (ag cX):=⟨rfl,rfl,rfl,by decide+kernel,rfl,by decide+kernel,by decide+kernel⟩
set_option maxHeartbeats 4000000 in
theorem jn {P:Program} {w:World} {K:PySem.W.Frag} {mg:Str→Option Value} {base:Heap} (B:Bt2 mg) {c:RCl RK} (zy:Cal P w K mg base 2 "beside" ["floor","cell"] (cY K)) (FK_c_floor:FldK K c "floor") {f:Addr} {fd:FuncData} (F:Fun K "has_two_beside" "Ring.has_two_beside" cX f fd):FnOk P w K mg base CX0 3 f fd ["self","cells","cell"] (bM K c):=by
 refine F.ok sc_Ring_has_two_beside (fun vs H Q E h=>i9 h) (fun cdv A outer s H vs Q E hr h=>?_)
 have hu:=hr.units
 have nd:=sc_Ring_has_two_beside.nd
 refine ⟨bN K c,?_,ja h⟩
 exact (af (ai (a8 (aG hu) (ay aU rfl B.len_ bh (aa (aR (ix:=[none,none,some 1]) [".0","other","cells"] (aH rfl (by decide+kernel) rfl rfl rfl) rfl (aK (au zy hr (by decide) rfl (aa (bj (pv 0) FK_c_floor) (aa (pv 2) ab)))) (fun cl s H fp=>(ax (i:=1) (show ([".0","other","cells"]:List Str).Nodup by decide+kernel) rfl (Or.inl rfl))) (fun cl s H fp=>(fF (ap (jt hu) (pv 1) (pv 2) (by with_unfolding_all rfl)))) (fun cl s H fp=>(pv 1))) ab)) ad (aq _))))
abbrev gF:Stmt:=top 50
theorem sc_first_within:am ["words","least","most"] ["words","least","most"] (ag gF):=⟨rfl,rfl,rfl,by decide+kernel,rfl,by decide+kernel,by decide+kernel⟩
set_option maxHeartbeats 4000000 in
theorem oj {P:Program} {w:World} {K:PySem.W.Frag} {mg:Str→Option Value} {base:Heap} (B:Bt2 mg) (yp:Cal P w K mg base 2 "number_within" ["word","least","most"] (be K)) {f:Addr} {fd:FuncData} (F:Fun K "first_within" "first_within" gF f fd):FnOk P w K mg base CX0 3 f fd ["words","least","most"] (bi K):=by
 refine F.ok sc_first_within (fun vs H Q E h=>nj h) (fun cdv A outer s H vs Q E hr h=>?_)
 have hu:=hr.units
 have nd:=sc_first_within.nd
 refine ⟨dq K,?_,nk h⟩
 exact (ac (aB (ap (aG hu) (pv 0) (aI ab) (aq _)) (af bo) av)
   (af (ai (au yp hr (by decide) rfl (aa (az (aD hu) (pv 0) ad (fun _ _=>rfl)) (aa (pv 1) (aa (pv 2) ab)))))))
abbrev iR:Stmt:=top 51
theorem sc_told_cells:am ["floor","words","cells"] ["floor","words"] (ag iR):=⟨rfl,rfl,rfl,by decide+kernel,rfl,by decide+kernel,by decide+kernel⟩
set_option maxHeartbeats 4000000 in
theorem p8 {P:Program} {w:World} {K:PySem.W.Frag} {mg:Str→Option Value} {base:Heap} (B:Bt2 mg) (yg:Cal P w K mg base 1 "many_cells" ["floor"] (aN K)) (yp:Cal P w K mg base 2 "number_within" ["word","least","most"] (be K)) {f:Addr} {fd:FuncData} (F:Fun K "told_cells" "told_cells" iR f fd):FnOk P w K mg base CX0 3 f fd ["floor","words"] (cn K):=by
 refine F.ok sc_told_cells (fun vs H Q E h=>pH h) (fun cdv A outer s H vs Q E hr h=>?_)
 have hu:=hr.units
 have nd:=sc_told_cells.nd
 refine ⟨fe K,?_,pI h⟩
 exact (ac (jr (k:=2) nd rfl (Or.inl rfl) rfl (ix:=[none,none,some 0]) [".0","word","floor"] (aH rfl (by decide+kernel) rfl rfl rfl) rfl (aK (pv 1)) (fun cl s H fp=>(ax (i:=1) (show ([".0","word","floor"]:List Str).Nodup by decide+kernel) rfl (Or.inl rfl))) (fun cl s H fp=>aY) (fun cl s H fp=>(au yp hr (by decide) rfl (aa (pv 1) (aa ad (aa (ao d5 (au yg hr (by decide) rfl (aa (pv 2) ab)) ad) ab))))))
   (ac (aB (ap (aG hu) (pv 2) (aI ab) (aq _)) (af bo) av)
   (ac (aB (ap (eW hu) (pc rfl rfl rfl B.len_ B.set_ (pv 2)) (ay aU rfl B.len_ bh (aa (pv 2) ab)) (aq _)) (af bo) av)
   (af (ai (pv 2))))))
abbrev lh:Stmt:=top 53
theorem sc_rule_by:am ["floor","words","cells","amount","mark","name"] ["floor","words","cells","amount","mark"] (ag lh):=⟨rfl,rfl,rfl,by decide+kernel,rfl,by decide+kernel,by decide+kernel⟩
set_option maxHeartbeats 4000000 in
theorem ud {P:Program} {w:World} {K:PySem.W.Frag} {mg:Str→Option Value} {base:Heap} (B:Bt2 mg) {c:RCl RK} (BP:KCal P w K mg base 1 "Count" (c.A .Count) ["self","floor","words","cells","amount","mark"] (aj K c)) (Bh:KCal P w K mg base 1 "Joined" (c.A .Joined) ["self","floor","words","cells","amount","mark"] (aj K c)) (Aw:KCal P w K mg base 1 "NoSquare" (c.A .NoSquare) ["self","floor","words","cells","amount","mark"] (aj K c)) (B8:KCal P w K mg base 1 "Ring" (c.A .Ring) ["self","floor","words","cells","amount","mark"] (aj K c)) (Bi:KCal P w K mg base 1 "Rising" (c.A .Rising) ["self","floor","words","cells","amount","mark"] (aj K c)) (B9:KCal P w K mg base 1 "Seen" (c.A .Seen) ["self","floor","words","cells","amount","mark"] (aj K c)) (K_Sum:KCal P w K mg base 1 "Sum" (c.A .Sum) ["self","floor","words","cells","amount","mark"] (aj K c)) (Bj:KCal P w K mg base 1 "Unlike" (c.A .Unlike) ["self","floor","words","cells","amount","mark"] (aj K c)) {f:Addr} {fd:FuncData} (F:Fun K "rule_by" "rule_by" lh f fd):FnOk P w K mg base CX0 3 f fd ["floor","words","cells","amount","mark"] (d9 K c):=by
 refine F.ok sc_rule_by (fun vs H Q E h=>tU h) (fun cdv A outer s H vs Q E hr h=>?_)
 have hu:=hr.units
 have nd:=sc_rule_by.nd
 refine ⟨ic K c,?_,tV h⟩
 exact (ac (ak (i:=5) nd rfl (Or.inl rfl) (az (aD hu) (pv 1) ad (fun _ _=>rfl)))
   (ac (aB (ap (aG hu) (pv 5) bc (aq _)) (af (ai (ia Bj hr (by decide) rfl (aa (pv 0) (aa (pv 1) (aa (pv 2) (aa (pv 3) (aa (pv 4) ab)))))))) av)
   (ac (aB (ap (aG hu) (pv 5) bc (aq _)) (af (ai (ia K_Sum hr (by decide) rfl (aa (pv 0) (aa (pv 1) (aa (pv 2) (aa (pv 3) (aa (pv 4) ab)))))))) av)
   (ac (aB (ap (aG hu) (pv 5) bc (aq _)) (af (ai (ia Bi hr (by decide) rfl (aa (pv 0) (aa (pv 1) (aa (pv 2) (aa (pv 3) (aa (pv 4) ab)))))))) av)
   (ac (aB (ap (aG hu) (pv 5) bc (aq _)) (af (ai (ia B9 hr (by decide) rfl (aa (pv 0) (aa (pv 1) (aa (pv 2) (aa (pv 3) (aa (pv 4) ab)))))))) av)
   (ac (aB (ap (aG hu) (pv 5) bc (aq _)) (af (ai (ia BP hr (by decide) rfl (aa (pv 0) (aa (pv 1) (aa (pv 2) (aa (pv 3) (aa (pv 4) ab)))))))) av)
   (ac (aB (ap (aG hu) (pv 5) bc (aq _)) (af (ai (ia Bh hr (by decide) rfl (aa (pv 0) (aa (pv 1) (aa (pv 2) (aa (pv 3) (aa (pv 4) ab)))))))) av)
   (ac (aB (ap (aG hu) (pv 5) bc (aq _)) (af (ai (ia Aw hr (by decide) rfl (aa (pv 0) (aa (pv 1) (aa (pv 2) (aa (pv 3) (aa (pv 4) ab)))))))) av)
   (ac (aB (ap (aG hu) (pv 5) bc (aq _)) (af (ai (ia B8 hr (by decide) rfl (aa (pv 0) (aa (pv 1) (aa (pv 2) (aa (pv 3) (aa (pv 4) ab)))))))) av)
   (af bo))))))))))
abbrev gk:Stmt:=top 60
theorem sc_checked_clues:am ["floor","clues"] ["floor","clues"] (ag gk):=⟨rfl,rfl,rfl,by decide+kernel,rfl,by decide+kernel,by decide+kernel⟩
set_option maxHeartbeats 4000000 in
theorem mF {P:Program} {w:World} {K:PySem.W.Frag} {mg:Str→Option Value} {base:Heap} (B:Bt2 mg) (yx:Cal P w K mg base 2 "is_filling" ["floor","filling","least"] (bz K)) {f:Addr} {fd:FuncData} (F:Fun K "checked_clues" "checked_clues" gk f fd):FnOk P w K mg base CX0 3 f fd ["floor","clues"] (bG K):=by
 refine F.ok sc_checked_clues (fun vs H Q E h=>mi h) (fun cdv A outer s H vs Q E hr h=>?_)
 have hu:=hr.units
 have nd:=sc_checked_clues.nd
 refine ⟨da K,?_,mj h⟩
 exact (ac (aB (cM (bB (au yx hr (by decide) rfl (aa (pv 0) (aa (pv 1) (aa ad ab)))))) (af bo) av)
   (af (ai (bd fP rfl B.list_ di (aa (pv 1) ab)))))
abbrev g8:Stmt:=top 73
theorem sc__law_puzzle:am ["_law_script","_law_floor","_law_filling_here","_law_lines","_law_empty","_law_clues"] ["_law_script"] (ag g8):=⟨rfl,rfl,rfl,by decide+kernel,rfl,by decide+kernel,by decide+kernel⟩
set_option maxHeartbeats 4000000 in
theorem oS {P:Program} {w:World} {K:PySem.W.Frag} {mg:Str→Option Value} {base:Heap} (B:Bt2 mg) (yj:Cal P w K mg base 1 "_law_at" ["_law_script","_law_k"] (aP K)) (zA:Cal P w K mg base 2 "_law_filling" ["_law_script","_law_floor","_law_at_here"] (bw K)) (Ap:Cal P w K mg base 2 "_law_line" ["_law_floor","_law_filling_here","_law_cell"] (b6 K)) (Aq:Cal P w K mg base 2 "_law_open" ["_law_script","_law_floor","_law_at_here"] (b8 K)) (yG:Cal P w K mg base 2 "_law_small_floor" ["_law_script"] (bb K)) {f:Addr} {fd:FuncData} (F:Fun K "_law_puzzle" "_law_puzzle" g8 f fd):FnOk P w K mg base CX0 3 f fd ["_law_script"] (bI K):=by
 refine F.ok sc__law_puzzle (fun vs H Q E h=>mr h) (fun cdv A outer s H vs Q E hr h=>?_)
 have hu:=hr.units
 have nd:=sc__law_puzzle.nd
 refine ⟨de K,?_,mt h⟩
 exact (ac (ak (i:=1) nd rfl (Or.inr rfl) (au yG hr (by decide) rfl (aa (pv 0) ab)))
   (ac (ak (i:=2) nd rfl (Or.inr rfl) (au zA hr (by decide) rfl (aa (pv 0) (aa (pv 1) (aa ad ab)))))
   (ac (jr (k:=3) nd rfl (Or.inl rfl) rfl (ix:=[none,none,some 2,some 1,some 0]) [".0","_law_k","_law_filling_here","_law_floor","_law_script"] (aH rfl (by decide+kernel) rfl rfl rfl) rfl (dM rfl B.range_ (aa (ao ba (au yj hr (by decide) rfl (aa (pv 0) (aa ad ab))) ad) ab)) (fun cl s H fp=>(ax (i:=1) (show ([".0","_law_k","_law_filling_here","_law_floor","_law_script"]:List Str).Nodup by decide+kernel) rfl (Or.inl rfl))) (fun cl s H fp=>aY) (fun cl s H fp=>(au Ap hr (by decide) rfl (aa (pv 3) (aa (pv 2) (aa (au yj hr (by decide) rfl (aa (pv 4) (aa (ao aA ad (pv 1)) ab))) ab))))))
   (ac (ak (i:=4) nd rfl (Or.inr rfl) (au Aq hr (by decide) rfl (aa (pv 0) (aa (pv 1) (aa ad ab)))))
   (ac (jr (k:=5) nd rfl (Or.inl rfl) rfl (ix:=[none,none,none,some 4]) [".0","_law_cell","_law_sign","_law_empty"] (aH rfl (by decide+kernel) rfl rfl rfl) rfl (wv rfl B.enumerate_ (aa (pv 2) ab)) (fun cl s H fp=>(jp rfl (bD (ax (i:=1) (show ([".0","_law_cell","_law_sign","_law_empty"]:List Str).Nodup by decide+kernel) rfl (Or.inl rfl)) (bD (ax (i:=2) (show ([".0","_law_cell","_law_sign","_law_empty"]:List Str).Nodup by decide+kernel) rfl (Or.inl rfl)) ij)))) (fun cl s H fp=>aY) (fun cl s H fp=>(ao bQ (pv 2) (bd ni rfl B.int_ mR (aa (a8 (kK hu) (pv 1) (pv 3) (by with_unfolding_all rfl)) ab)))))
   (af (ai (bO (aa (pv 1) (aa (pv 3) (aa (pv 5) ab)))))))))))
abbrev d3:Stmt:=mtop 38 1
theorem sc_Joined_is_joined:am ["self","cells"] ["self","cells"] (ag d3):=⟨rfl,rfl,rfl,by decide+kernel,rfl,by decide+kernel,by decide+kernel⟩
set_option maxHeartbeats 4000000 in
theorem gn {P:Program} {w:World} {K:PySem.W.Frag} {mg:Str→Option Value} {base:Heap} (B:Bt2 mg) {c:RCl RK} (Ai:Cal P w K mg base 3 "reached" ["floor","cells","start"] (eB K)) (FK_c_floor:FldK K c "floor") {f:Addr} {fd:FuncData} (F:Fun K "is_joined" "Joined.is_joined" d3 f fd):FnOk P w K mg base CX0 4 f fd ["self","cells"] (bC K c):=by
 refine F.ok sc_Joined_is_joined (fun vs H Q E h=>kt h) (fun cdv A outer s H vs Q E hr h=>?_)
 have hu:=hr.units
 have nd:=sc_Joined_is_joined.nd
 refine ⟨cf K c,?_,ku h⟩
 exact (af (ai (vR (a8 (aG hu) (pv 1) (aI ab) (aq _)) (fK (a8 (aG hu) (au Ai hr (by decide) rfl (aa (bj (pv 0) FK_c_floor) (aa (pv 1) (aa (az (aD hu) (pv 1) ad (fun _ _=>rfl)) ab)))) (pv 1) (aq _))))))
abbrev fE:Stmt:=mtop 39 0
theorem sc_NoSquare_holds:am ["self","filling","cells"] ["self","filling"] (ag fE):=⟨rfl,rfl,rfl,by decide+kernel,rfl,by decide+kernel,by decide+kernel⟩
set_option maxHeartbeats 4000000 in
theorem lL {P:Program} {w:World} {K:PySem.W.Frag} {mg:Str→Option Value} {base:Heap} (B:Bt2 mg) {c:RCl RK} (Ar:Cal P w K mg base 1 "is_within" ["some","cells"] (cU K)) (A7:Cal P w K mg base 3 "squares" ["floor"] (d7 K)) (FK_c_floor:FldK K c "floor") (yr:MCal P w K mg base c c.ok 1 "marked" ["self","filling"] (bx K c)) {f:Addr} {fd:FuncData} (F:Fun K "holds" "NoSquare.holds" fE f fd):FnOk P w K mg base CX0 4 f fd ["self","filling"] (cI K c):=by
 refine F.ok sc_NoSquare_holds (fun vs H Q E h=>lI h) (fun cdv A outer s H vs Q E hr h=>?_)
 have hu:=hr.units
 have nd:=sc_NoSquare_holds.nd
 refine ⟨cJ K c,?_,lJ h⟩
 exact (ac (ak (i:=2) nd rfl (Or.inr rfl) (bp yr hr (by decide) (pv 0) (aa (pv 1) ab)))
   (af (ai (qq (ay (uG rfl) rfl B.any_ xj (aa (aR (ix:=[none,none,some 2]) [".0","square","cells"] (aH rfl (by decide+kernel) rfl rfl rfl) rfl (aK (au A7 hr (by decide) rfl (aa (bj (pv 0) FK_c_floor) ab))) (fun cl s H fp=>(ax (i:=1) (show ([".0","square","cells"]:List Str).Nodup by decide+kernel) rfl (Or.inl rfl))) (fun cl s H fp=>aY) (fun cl s H fp=>(au Ar hr (by decide) rfl (aa (pv 1) (aa (pv 2) ab))))) ab))))))
abbrev ko:Stmt:=top 52
theorem sc_cells_of:am ["floor","name","words"] ["floor","name","words"] (ag ko):=⟨rfl,rfl,rfl,by decide+kernel,rfl,by decide+kernel,by decide+kernel⟩
set_option maxHeartbeats 4000000 in
theorem sB {P:Program} {w:World} {K:PySem.W.Frag} {mg:Str→Option Value} {base:Heap} (B:Bt2 mg) (yg:Cal P w K mg base 1 "many_cells" ["floor"] (aN K)) (z6:Cal P w K mg base 3 "told_cells" ["floor","words"] (cn K)) (G_OF_ALL_CELLS:GTup K mg "OF_ALL_CELLS" dn) {f:Addr} {fd:FuncData} (F:Fun K "cells_of" "cells_of" ko f fd):FnOk P w K mg base CX0 4 f fd ["floor","name","words"] (dj K):=by
 refine F.ok sc_cells_of (fun vs H Q E h=>sf h) (fun cdv A outer s H vs Q E hr h=>?_)
 have hu:=hr.units
 have nd:=sc_cells_of.nd
 refine ⟨gM K,?_,sh h⟩
 exact (ac (aB (wG G_OF_ALL_CELLS (pv 1) rfl) (af (ai (au z6 hr (by decide) rfl (aa (pv 0) (aa (pv 2) ab))))) av)
   (ac (aB (ap (eW hu) (pv 2) (aI ab) (aq _)) (af bo) av)
   (af (ai (lQ rfl rfl rfl B.list_ B.range_ (aa (au yg hr (by decide) rfl (aa (pv 0) ab)) ab))))))
abbrev gl:Stmt:=top 57
theorem sc_checked_floor:am ["floor"] ["floor"] (ag gl):=⟨rfl,rfl,rfl,by decide+kernel,rfl,by decide+kernel,by decide+kernel⟩
set_option maxHeartbeats 4000000 in
theorem mG {P:Program} {w:World} {K:PySem.W.Frag} {mg:Str→Option Value} {base:Heap} (B:Bt2 mg) (Ax:Cal P w K mg base 3 "floor_of" ["high","wide","signs"] (dk K)) {f:Addr} {fd:FuncData} (F:Fun K "checked_floor" "checked_floor" gl f fd):FnOk P w K mg base CX0 4 f fd ["floor"] (bF K):=by
 refine F.ok sc_checked_floor (fun vs H Q E h=>mf h) (fun cdv A outer s H vs Q E hr h=>?_)
 have hu:=hr.units
 have nd:=sc_checked_floor.nd
 refine ⟨c9 K,?_,mh h⟩
 exact (ac (aB (PW.pt (fJ (cM (bB (ay cu rfl B.isinstance_ bm (aa (pv 0) (aa (d4 (v:=.ty "tuple") rfl B.tuple_ lY rfl) ab))))) (gQ (ap (eW hu) (ay aU rfl B.len_ bh (aa (pv 0) ab)) ad (aq _))))) (af bo) av)
   (af (ai (au Ax hr (by decide) rfl (aa (az (aD hu) (pv 0) ad (fun _ _=>rfl)) (aa (az (aD hu) (pv 0) ad (fun _ _=>rfl)) (aa (az (aD hu) (pv 0) ad (fun _ _=>rfl)) ab)))))))
abbrev gG:Stmt:=mtop 38 0
theorem sc_Joined_holds:am ["self","filling"] ["self","filling"] (ag gG):=⟨rfl,rfl,rfl,by decide+kernel,rfl,by decide+kernel,by decide+kernel⟩
set_option maxHeartbeats 4000000 in
theorem ol {P:Program} {w:World} {K:PySem.W.Frag} {mg:Str→Option Value} {base:Heap} (B:Bt2 mg) {c:RCl RK} (As:MCal P w K mg base c c.ok 4 "is_joined" ["self","cells"] (b9 K c)) (yr:MCal P w K mg base c c.ok 1 "marked" ["self","filling"] (bx K c)) {f:Addr} {fd:FuncData} (F:Fun K "holds" "Joined.holds" gG f fd):FnOk P w K mg base CX0 5 f fd ["self","filling"] (dE K c):=by
 refine F.ok sc_Joined_holds (fun vs H Q E h=>nP h) (fun cdv A outer s H vs Q E hr h=>?_)
 have hu:=hr.units
 have nd:=sc_Joined_holds.nd
 refine ⟨dF K c,?_,nQ h⟩
 exact (af (ai (bp As hr (by decide) (pv 0) (aa (bp yr hr (by decide) (pv 0) (aa (pv 1) ab)) ab))))
abbrev iS:Stmt:=mtop 40 0
theorem sc_Ring_holds:am ["self","filling","cells"] ["self","filling"] (ag iS):=⟨rfl,rfl,rfl,by decide+kernel,rfl,by decide+kernel,by decide+kernel⟩
set_option maxHeartbeats 4000000 in
theorem p9 {P:Program} {w:World} {K:PySem.W.Frag} {mg:Str→Option Value} {base:Heap} (B:Bt2 mg) {c:RCl RK} (Bk:MCal P w K mg base c c.ok 3 "has_two_beside" ["self","cells","cell"] (cF K c)) (As:MCal P w K mg base c c.ok 4 "is_joined" ["self","cells"] (b9 K c)) (yr:MCal P w K mg base c c.ok 1 "marked" ["self","filling"] (bx K c)) {f:Addr} {fd:FuncData} (F:Fun K "holds" "Ring.holds" iS f fd):FnOk P w K mg base CX0 5 f fd ["self","filling"] (fk K c):=by
 refine F.ok sc_Ring_holds (fun vs H Q E h=>pR h) (fun cdv A outer s H vs Q E hr h=>?_)
 have hu:=hr.units
 have nd:=sc_Ring_holds.nd
 refine ⟨fm K c,?_,pS h⟩
 exact (ac (ak (i:=2) nd rfl (Or.inr rfl) (bp yr hr (by decide) (pv 0) (aa (pv 1) ab)))
   (af (ai (fL (bp As hr (by decide) (pv 0) (aa (pv 2) ab)) (fK (ay (dR rfl) rfl B.all_ iG (aa (aR (ix:=[none,none,some 2,some 0]) [".0","cell","cells","self"] (aH rfl (by decide+kernel) rfl rfl rfl) rfl (aK (pv 2)) (fun cl s H fp=>(ax (i:=1) (show ([".0","cell","cells","self"]:List Str).Nodup by decide+kernel) rfl (Or.inl rfl))) (fun cl s H fp=>aY) (fun cl s H fp=>(bp Bk hr (by decide) (pv 3) (aa (pv 2) (aa (pv 1) ab))))) ab)))))))
abbrev jo:Stmt:=top 54
theorem sc_read_rule:am ["floor","line","words","name","rest","amount","mark"] ["floor","line"] (ag jo):=⟨rfl,rfl,rfl,by decide+kernel,rfl,by decide+kernel,by decide+kernel⟩
set_option maxHeartbeats 4000000 in
theorem rX {P:Program} {w:World} {K:PySem.W.Frag} {mg:Str→Option Value} {base:Heap} (B:Bt2 mg) {c:RCl RK} (Ay:Cal P w K mg base 4 "cells_of" ["floor","name","words"] (dj K)) (yN:Cal P w K mg base 3 "first_within" ["words","least","most"] (bi K)) (A8:Cal P w K mg base 3 "rule_by" ["floor","words","cells","amount","mark"] (d9 K c)) {t_MOST_NUMBER:Tok} (zN:mg "MOST_NUMBER"=some (.int 99 t_MOST_NUMBER)) (G_WITH_NUMBER:GTup K mg "WITH_NUMBER" d8) (G_WITH_SIGN:GTup K mg "WITH_SIGN" dU) {f:Addr} {fd:FuncData} (F:Fun K "read_rule" "read_rule" jo f fd):FnOk P w K mg base CX0 5 f fd ["floor","line"] (cR K c):=by
 refine F.ok sc_read_rule (fun vs H Q E h=>rf h) (fun cdv A outer s H vs Q E hr h=>?_)
 have hu:=hr.units
 have nd:=sc_read_rule.nd
 refine ⟨fW K c,?_,rg h⟩
 exact (ac (aB (cM (bB (ay cu rfl B.isinstance_ bm (aa (pv 1) (aa (d4 (v:=.ty "str") rfl B.str_ ip rfl) ab))))) (af bo) av)
   (ac (ak (i:=2) nd rfl (Or.inl rfl) (dm PySem.F.plainAttrs_str PySem.F.slot_str_split PySem.F.type_str_split uH (pv 1) (aa bc ab)))
   (ac (ak (i:=3) nd rfl (Or.inl rfl) (az (aD hu) (pv 2) ad (fun _ _=>rfl)))
   (ac (ak (i:=4) nd rfl (Or.inl rfl) (bT e9 (pv 2) (ck ad) cj))
   (ac (ak (i:=5) nd rfl (Or.inl rfl) ad)
   (ac (ak (i:=6) nd rfl (Or.inl rfl) ad)
   (ac (aB (u6 G_WITH_NUMBER (pv 3) rfl) (ac (ak (i:=5) nd rfl (Or.inl rfl) (au yN hr (by decide) rfl (aa (pv 4) (aa ad (aa (cL rfl zN ⟨t_MOST_NUMBER,rfl⟩) ab)))))
   (af (ak (i:=4) nd rfl (Or.inl rfl) (bT e9 (pv 4) (ck ad) cj)))) av)
   (ac (aB (u6 G_WITH_SIGN (pv 3) rfl) (ac (ak (i:=6) nd rfl (Or.inl rfl) (au yN hr (by decide) rfl (aa (pv 4) (aa ad (aa (az (aD hu) (pv 0) ad (fun _ _=>rfl)) ab)))))
   (af (ak (i:=4) nd rfl (Or.inl rfl) (bT e9 (pv 4) (ck ad) cj)))) av)
   (af (ai (au A8 hr (by decide) rfl (aa (pv 0) (aa (pv 2) (aa (au Ay hr (by decide) rfl (aa (pv 0) (aa (pv 3) (aa (pv 4) ab)))) (aa (pv 5) (aa (pv 6) ab))))))))))))))))
abbrev iT:Stmt:=top 58
theorem sc_read_rules:am ["floor","lines"] ["floor","lines"] (ag iT):=⟨rfl,rfl,rfl,by decide+kernel,rfl,by decide+kernel,by decide+kernel⟩
set_option maxHeartbeats 4000000 in
theorem qa {P:Program} {w:World} {K:PySem.W.Frag} {mg:Str→Option Value} {base:Heap} (B:Bt2 mg) {c:RCl RK} (At:Cal P w K mg base 5 "read_rule" ["floor","line"] (cR K c)) {t_MOST_RULES:Tok} (z7:mg "MOST_RULES"=some (.int 12 t_MOST_RULES)) {f:Addr} {fd:FuncData} (F:Fun K "read_rules" "read_rules" iT f fd):FnOk P w K mg base CX0 6 f fd ["floor","lines"] (cp K c):=by
 refine F.ok sc_read_rules (fun vs H Q E h=>pJ h) (fun cdv A outer s H vs Q E hr h=>?_)
 have hu:=hr.units
 have nd:=sc_read_rules.nd
 refine ⟨ff K c,?_,pK h⟩
 exact (ac (aB (ap dO (ay aU rfl B.len_ bh (aa (pv 1) ab)) (cL rfl z7 ⟨t_MOST_RULES,rfl⟩) (aq _)) (af bo) av)
   (af (ai (aR (ix:=[none,none,some 0]) [".0","line","floor"] (aH rfl (by decide+kernel) rfl rfl rfl) rfl (aK (pv 1)) (fun cl s H fp=>(ax (i:=1) (show ([".0","line","floor"]:List Str).Nodup by decide+kernel) rfl (Or.inl rfl))) (fun cl s H fp=>aY) (fun cl s H fp=>(au At hr (by decide) rfl (aa (pv 2) (aa (pv 1) ab))))))))
abbrev gH:Stmt:=mtop 61 6
theorem sc_Puzzle_meets:am ["self","filling"] ["self","filling"] (ag gH):=⟨rfl,rfl,rfl,by decide+kernel,rfl,by decide+kernel,by decide+kernel⟩
set_option maxHeartbeats 4000000 in
theorem om {P:Program} {w:World} {K:PySem.W.Frag} {mg:Str→Option Value} {base:Heap} (B:Bt2 mg) {c:RCl RK} {d:RCl PzK} (yx:Cal P w K mg base 2 "is_filling" ["floor","filling","least"] (bz K)) (FK_d_floor:FldK K d "floor") (FK_d_laws:FldK K d "laws") (Au:MCal P w K mg base d d.ok 1 "has_clues" ["self","filling"] (gd K c d)) (BQ:MCal P w K mg base c c.ok 5 "holds" ["self","filling"] (bU K c)) {f:Addr} {fd:FuncData} (F:Fun K "meets" "Puzzle.meets" gH f fd):FnOk P w K mg base CX0 6 f fd ["self","filling"] (dG K c d):=by
 refine F.ok sc_Puzzle_meets (fun vs H Q E h=>nR h) (fun cdv A outer s H vs Q E hr h=>?_)
 have hu:=hr.units
 have nd:=sc_Puzzle_meets.nd
 refine ⟨dH K c d,?_,nS h⟩
 exact (ac (aB (PW.pt (fJ (cM (bB (au yx hr (by decide) rfl (aa (bj (pv 0) FK_d_floor) (aa (pv 1) (aa ad ab)))))) (gQ (cM (bB (bp Au hr (by decide) (pv 0) (aa (pv 1) ab))))))) (af (ai jE)) av)
   (af (ai (ay (dR rfl) rfl B.all_ iG (aa (aR (ix:=[none,none,some 1]) [".0","rule","filling"] (aH rfl (by decide+kernel) rfl rfl rfl) rfl (aK (bj (pv 0) FK_d_laws)) (fun cl s H fp=>(ax (i:=1) (show ([".0","rule","filling"]:List Str).Nodup by decide+kernel) rfl (Or.inl rfl))) (fun cl s H fp=>aY) (fun cl s H fp=>(bp BQ hr (by decide) (pv 1) (aa (pv 2) ab)))) ab)))))
abbrev kq:Stmt:=top 28
theorem sc_found_by:am ["puzzle","numbers","most","found","filling"] ["puzzle","numbers","most"] (ag kq):=⟨rfl,rfl,rfl,by decide+kernel,rfl,by decide+kernel,by decide+kernel⟩
set_option maxHeartbeats 4000000 in
theorem sC {P:Program} {w:World} {K:PySem.W.Frag} {mg:Str→Option Value} {base:Heap} (B:Bt2 mg) {c:RCl RK} {d:RCl PzK} (zh:Cal P w K mg base 2 "every_filling" ["signs_by_cell"] (bH K)) (yP:Cal P w K mg base 2 "refuse_too_many" ["puzzle"] (bq K c d)) (zB:Cal P w K mg base 2 "signs_to_try" ["puzzle","numbers"] (bR K c d)) (zX:MCal P w K mg base d d.ok 6 "meets" ["self","filling"] (gu K c d)) {f:Addr} {fd:FuncData} (F:Fun K "found_by" "found_by" kq f fd):FnOk P w K mg base CX0 7 f fd ["puzzle","numbers","most"] (dl K c d):=by
 refine F.ok sc_found_by (fun vs H Q E h=>su h) (fun cdv A outer s H vs Q E hr h=>?_)
 have hu:=hr.units
 have nd:=sc_found_by.nd
 refine ⟨gP K c d,?_,sw h⟩
 exact (ac (bZ (au yP hr (by decide) rfl (aa (pv 0) ab)))
   (ac (ak (i:=3) nd rfl (Or.inl rfl) (aI ab))
   (ac (cr PassesOwn.never rfl (aK (au zh hr (by decide) rfl (aa (au zB hr (by decide) rfl (aa (pv 0) (aa (pv 1) ab))) ab))) (ax (i:=4) nd rfl (Or.inl rfl))
   (ac (aB (ap (aG hu) (ay aU rfl B.len_ bh (aa (pv 3) ab)) (pv 2) (aq _)) (af (ai (pv 3))) av)
   (af (aB (bB (bp zX hr (by decide) (pv 0) (aa (pv 4) ab))) (af (bZ (dm PySem.F.plainAttrs_list PySem.F.slot_list_append PySem.F.type_list_append cw (pv 3) (aa (pv 4) ab)))) av))))
   (af (ai (pv 3))))))
abbrev eP:Stmt:=mtop 61 0
theorem sc_Puzzle___init__:am ["self","floor","lines","clues"] ["self","floor","lines","clues"] (ag eP):=⟨rfl,rfl,rfl,by decide+kernel,rfl,by decide+kernel,by decide+kernel⟩
set_option maxHeartbeats 4000000 in
theorem li {P:Program} {w:World} {K:PySem.W.Frag} {mg:Str→Option Value} {base:Heap} (B:Bt2 mg) {c:RCl RK} {d:RCl PzK} (zi:Cal P w K mg base 3 "checked_clues" ["floor","clues"] (bG K)) (zj:Cal P w K mg base 4 "checked_floor" ["floor"] (bF K)) (z8:Cal P w K mg base 6 "read_rules" ["floor","lines"] (cp K c)) (FK_d_floor:FldK K d "floor") (FK_d_given:FldK K d "given") (FK_d_laws:FldK K d "laws") {f:Addr} {fd:FuncData} (F:Fun K "__init__" "Puzzle.__init__" eP f fd):FnOk P w K mg base CX0 7 f fd ["self","floor","lines","clues"] (aW K c d):=by
 refine F.ok sc_Puzzle___init__ (fun vs H Q E h=>kS h) (fun cdv A outer s H vs Q E hr h=>?_)
 have hu:=hr.units
 have nd:=sc_Puzzle___init__.nd
 refine ⟨cy K c d,?_,kT h⟩
 exact (ac (fI (pv 0) (au zj hr (by decide) rfl (aa (pv 1) ab)) FK_d_floor)
   (ac (fI (pv 0) (au z8 hr (by decide) rfl (aa (bj (pv 0) FK_d_floor) (aa (pv 2) ab))) FK_d_laws)
   (af (fI (pv 0) (au zi hr (by decide) rfl (aa (bj (pv 0) FK_d_floor) (aa (pv 3) ab))) FK_d_given))))
abbrev lj:Stmt:=top 29
theorem sc_answers:am ["puzzle","most"] ["puzzle","most"] (ag lj):=⟨rfl,rfl,rfl,by decide+kernel,rfl,by decide+kernel,by decide+kernel⟩
set_option maxHeartbeats 4000000 in
theorem on {P:Program} {w:World} {K:PySem.W.Frag} {mg:Str→Option Value} {base:Heap} (B:Bt2 mg) {td:Tok} {c:RCl RK} {d:RCl PzK} (zW:Cal P w K mg base 7 "found_by" ["puzzle","numbers","most"] (dl K c d)) (yg:Cal P w K mg base 1 "many_cells" ["floor"] (aN K)) (yA:MCal P w K mg base d d.ok 1 "place" ["self"] (dW K c d)) {f:Addr} {fd:FuncData} (F:FunD K "answers" "answers" lj f fd [Value.int 2 td]):FnOk P w K mg base CX0 8 f fd ["puzzle","most"] (bg K c d):=by
 refine F.ok sc_answers (fun vs H Q E h=>nV h) (fun cdv A outer s H vs Q E hr h=>?_)
 have hu:=hr.units
 have nd:=sc_answers.nd
 refine ⟨ii K c d,?_,t6 h⟩
 exact (af (ai (au zW hr (by decide) rfl (aa (pv 0) (aa (ao vC (aI (aa ad ab)) (au yg hr (by decide) rfl (aa (cZ yA hr (by decide) (pv 0)) ab))) (aa (pv 1) ab))))))
abbrev iU:Stmt:=top 76
theorem sc__law_asked:am ["_law_puzzle_here","_law_most"] ["_law_puzzle_here","_law_most"] (ag iU):=⟨rfl,rfl,rfl,by decide+kernel,rfl,by decide+kernel,by decide+kernel⟩
set_option maxHeartbeats 4000000 in
theorem qb {P:Program} {w:World} {K:PySem.W.Frag} {mg:Str→Option Value} {base:Heap} (B:Bt2 mg) {td:Tok} {c:RCl RK} {d:RCl PzK} (zK:Cal P w K mg base 8 "answers" ["puzzle","most"] (bg K c d)) (CD_answers:CalD P w K mg base 8 "answers" ["puzzle","most"] (bg K c d) [Value.int 2 td]) {f:Addr} {fd:FuncData} (F:Fun K "_law_asked" "_law_asked" iU f fd):FnOk P w K mg base CX0 9 f fd ["_law_puzzle_here","_law_most"] (bu K c d):=by
 refine F.ok sc__law_asked (fun vs H Q E h=>nX h) (fun cdv A outer s H vs Q E hr h=>?_)
 have hu:=hr.units
 have nd:=sc__law_asked.nd
 refine ⟨dJ K c d,?_,nY h⟩
 exact (ac (aB (ap (aG hu) (pv 1) ad (aq _)) (af (ai (sY CD_answers (.cons ⟨_,rfl⟩ .nil) hr (by decide) rfl (aa (pv 0) ab)))) av)
   (af (ai (au zK hr (by decide) rfl (aa (pv 0) (aa (pv 1) ab))))))
abbrev lD:Stmt:=top 77
theorem sc_law:am ["_law_script","_law_floor","_law_lines","_law_clues","_law_puzzle_here","_law_one","_law_met","_law_most","_law_found"] ["_law_script"] (ag lD):=⟨rfl,rfl,rfl,by decide+kernel,rfl,by decide+kernel,by decide+kernel⟩
set_option maxHeartbeats 4000000 in
theorem xQ {P:Program} {w:World} {K:PySem.W.Frag} {mg:Str→Option Value} {base:Heap} (B:Bt2 mg) {td:Tok} {c:RCl RK} {d:RCl PzK} (zk:Cal P w K mg base 2 "_law_are" ["_law_found","_law_due"] (bn K)) (zl:Cal P w K mg base 9 "_law_asked" ["_law_puzzle_here","_law_most"] (bu K c d)) (yj:Cal P w K mg base 1 "_law_at" ["_law_script","_law_k"] (aP K)) (zO:Cal P w K mg base 1 "_law_floors" ["_law_floor","_law_clues"] (bJ K)) (zP:Cal P w K mg base 3 "_law_puzzle" ["_law_script"] (bI K)) (zK:Cal P w K mg base 8 "answers" ["puzzle","most"] (bg K c d)) (yM:MCal P w K mg base d d.ok 1 "clues" ["self"] (dX K c d)) (BR:MCal P w K mg base d d.ok 2 "lines" ["self"] (ki K c d)) (zX:MCal P w K mg base d d.ok 6 "meets" ["self","filling"] (gu K c d)) (Bl:KCal P w K mg base 7 "Puzzle" (d.A .Puzzle) ["self","floor","lines","clues"] (aW K c d)) (CD_answers:CalD P w K mg base 8 "answers" ["puzzle","most"] (bg K c d) [Value.int 2 td]) {f:Addr} {fd:FuncData} (F:Fun K "law" "law" lD f fd):FnOk P w K mg base CX0 10 f fd ["_law_script"] (rK K c d):=by
 refine F.ok sc_law (fun vs H Q E h=>xO h) (fun cdv A outer s H vs Q E hr h=>?_)
 have hu:=hr.units
 have nd:=sc_law.nd
 refine ⟨nZ K c d,?_,xP h⟩
 exact (ac (qr (au zP hr (by decide) rfl (aa (pv 0) ab)) (jp rfl (bD (ax (i:=1) nd rfl (Or.inl rfl)) (bD (ax (i:=2) nd rfl (Or.inl rfl)) (bD (ax (i:=3) nd rfl (Or.inl rfl)) ij)))))
   (ac (ak (i:=4) nd rfl (Or.inr rfl) (ia Bl hr (by decide) rfl (aa (pv 1) (aa (bd fP rfl B.list_ di (aa (pv 2) ab)) (aa (bd fP rfl B.list_ di (aa (pv 3) ab)) ab)))))
   (ac (jr (k:=6) nd rfl (Or.inl rfl) rfl (ix:=[none,none,some 4]) [".0","_law_one","_law_puzzle_here"] (aH rfl (by decide+kernel) rfl rfl rfl) rfl (aK (au zO hr (by decide) rfl (aa (pv 1) (aa (pv 3) ab)))) (fun cl s H fp=>(ax (i:=1) (show ([".0","_law_one","_law_puzzle_here"]:List Str).Nodup by decide+kernel) rfl (Or.inl rfl))) (fun cl s H fp=>(fF (bB (bp zX hr (by decide) (pv 2) (aa (bd fP rfl B.list_ di (aa (pv 1) ab)) ab))))) (fun cl s H fp=>(pv 1)))
   (ac (ak (i:=7) nd rfl (Or.inl rfl) (az (aD hu) (aI (aa ad (aa ad (aa ad (aa ad (aa ad (aa (ao wr ad ad) ab))))))) (ao ba (au yj hr (by decide) rfl (aa (pv 0) (aa ad ab))) ad) (fun _ _=>rfl)))
   (ac (ak (i:=8) nd rfl (Or.inl rfl) (au zl hr (by decide) rfl (aa (pv 4) (aa (pv 7) ab))))
   (ac (aB (cM (bB (au zk hr (by decide) rfl (aa (pv 8) (aa (bT e9 (pv 6) cj (ck (pv 7))) ab))))) (af (ai jE)) av)
   (ac (cr PassesOwn.never rfl (aK (pv 8)) (ax (i:=5) nd rfl (Or.inl rfl))
   (af (bZ (uv PySem.F.plainAttrs_list PySem.F.slot_list_clear PySem.F.type_list_clear o7 (pv 5)))))
   (ac (bZ (uv PySem.F.plainAttrs_list PySem.F.slot_list_clear PySem.F.type_list_clear o7 (pv 8)))
   (ac (aB (PW.pt (fJ (ap (eW hu) (cZ BR hr (by decide) (pv 4)) (pv 2) (aq _)) (gQ (ap (eW hu) (cZ yM hr (by decide) (pv 4)) (pv 3) (aq _))))) (af (ai jE)) av)
   (af (ai (fL (au zk hr (by decide) rfl (aa (sY CD_answers (.cons ⟨_,rfl⟩ .nil) hr (by decide) rfl (aa (pv 4) ab)) (aa (bT e9 (pv 6) cj (ck ad)) ab))) (fK (au zk hr (by decide) rfl (aa (au zl hr (by decide) rfl (aa (pv 4) (aa (pv 7) ab))) (aa (bT e9 (pv 6) cj (ck (pv 7))) ab))))))))))))))))
def mkC (ye yn yh ym yk yf yd yl:Addr):RCl RK:=⟨fun k=>match k with | .Rule=>ye | .Unlike=>ye | .Sum=>yn | .Rising=>yh | .Seen=>ym | .Count=>yk | .Joined=>yf | .NoSquare=>yd | .Ring=>yl,fun k=>match k with | .Rule=>false | _=>true⟩
def mk1 (c:RCl RK) (k:RK):RCl RK:=⟨c.A,match k with | .Joined=>(fun i=>match i with | .Joined=>true | _=>false) | .Ring=>(fun i=>match i with | .Ring=>true | _=>false) | _=>fun _=>false⟩
def mkD (yi:Addr):RCl PzK:=⟨fun _=>yi,fun _=>true⟩
set_option maxHeartbeats 40000000 in
theorem xR {l:PySem.W.OpenLaw} {w:World} {K:PySem.W.Frag} {h:Heap} {mg:Str→Option Value} {fa:Addr} (X:K.In h) (G:h.Ns mainGlobals mg) (hfa:mg "law"=some (.ref fa))
  {f0 f1 f2 f3 f4 f5 f6 f7 f8 f9 f10 f11 f12 f13 f14 f15 f16 f17 f18 f19 f20 f21 f22 f23 f24 f25 f26 f27 f28 f29 f30 f31 f32 f33 f34 f35 f36 f37 f38 f39 f40 f41 f42 f43 f44 f45 f46 f47 f48 f49 f50 f51 f52 f53 f54 f55 f56 f57 f58 f59 f60 f61 f62 f63:Addr} {fd0 fd1 fd2 fd3 fd4 fd5 fd6 fd7 fd8 fd9 fd10 fd11 fd12 fd13 fd14 fd15 fd16 fd17 fd18 fd19 fd20 fd21 fd22 fd23 fd24 fd25 fd26 fd27 fd28 fd29 fd30 fd31 fd32 fd33 fd34 fd35 fd36 fd37 fd38 fd39 fd40 fd41 fd42 fd43 fd44 fd45 fd46 fd47 fd48 fd49 fd50 fd51 fd52 fd53 fd54 fd55 fd56 fd57 fd58 fd59 fd60 fd61 fd62 fd63:FuncData} {ye yn yh ym yk yf yd yl yi:Addr} {td:Tok} {zm:Addr} {BG:Option Addr} {BH:Nat} {BK:Array (Option Value)} {BL BM BN:Tok} {zC:Addr} {BS:Option Addr} {BT:Nat} {BU:Array (Option Value)} {BV BW BX:Tok} {z9:Addr} {Ca:Option Addr} {Cb:Nat} {Cc:Array (Option Value)} {Cd Ce Cf Cg:Tok} {tk_FIGURES:Tok} {tk_MOST_CELLS:Tok} {tk_MOST_FIGURES:Tok} {tk_MOST_FLOORS:Tok} {tk_MOST_NUMBER:Tok} {tk_MOST_RULES:Tok} {tk_MOST_SIDE:Tok} {tk_MOST_SIGNS:Tok}
  (Bm:PySem.W.nsIn K mainGlobals "Unlike"=some (some (.ref ye))) (q_Sum:PySem.W.nsIn K mainGlobals "Sum"=some (some (.ref yn))) (Bn:PySem.W.nsIn K mainGlobals "Rising"=some (some (.ref yh))) (Ch:PySem.W.nsIn K mainGlobals "Seen"=some (some (.ref ym))) (BY:PySem.W.nsIn K mainGlobals "Count"=some (some (.ref yk))) (Bo:PySem.W.nsIn K mainGlobals "Joined"=some (some (.ref yf))) (Az:PySem.W.nsIn K mainGlobals "NoSquare"=some (some (.ref yd))) (Ci:PySem.W.nsIn K mainGlobals "Ring"=some (some (.ref yl))) (Bp:PySem.W.nsIn K mainGlobals "Puzzle"=some (some (.ref yi))) (a0:PySem.W.nsIn K mainGlobals "is_whole"=some (some (.ref f0))) (a1:PySem.W.nsIn K mainGlobals "many_cells"=some (some (.ref f1))) (a2:PySem.W.nsIn K mainGlobals "spot_of"=some (some (.ref f2))) (a3:PySem.W.nsIn K mainGlobals "square_at"=some (some (.ref f3))) (a4:PySem.W.nsIn K mainGlobals "with_each"=some (some (.ref f4))) (a5:PySem.W.nsIn K mainGlobals "signs_from"=some (some (.ref f5))) (a6:PySem.W.nsIn K mainGlobals "is_within"=some (some (.ref f6))) (AA:PySem.W.findIn K (.ref ye) "__init__"=some (some (.ref f7))) (BZ:PySem.W.findIn K (.ref yn) "__init__"=some (some (.ref f7))) (AB:PySem.W.findIn K (.ref yh) "__init__"=some (some (.ref f7))) (Bq:PySem.W.findIn K (.ref ym) "__init__"=some (some (.ref f7))) (A9:PySem.W.findIn K (.ref yk) "__init__"=some (some (.ref f7))) (AC:PySem.W.findIn K (.ref yf) "__init__"=some (some (.ref f7))) (Aa:PySem.W.findIn K (.ref yd) "__init__"=some (some (.ref f7))) (Br:PySem.W.findIn K (.ref yl) "__init__"=some (some (.ref f7))) (a8_Unlike:PySem.W.findIn K (.ref ye) "line"=some (some (.ref f8))) (a8_Sum:PySem.W.findIn K (.ref yn) "line"=some (some (.ref f8))) (a8_Rising:PySem.W.findIn K (.ref yh) "line"=some (some (.ref f8))) (a8_Seen:PySem.W.findIn K (.ref ym) "line"=some (some (.ref f8))) (a8_Count:PySem.W.findIn K (.ref yk) "line"=some (some (.ref f8))) (a8_Joined:PySem.W.findIn K (.ref yf) "line"=some (some (.ref f8))) (a8_NoSquare:PySem.W.findIn K (.ref yd) "line"=some (some (.ref f8))) (a8_Ring:PySem.W.findIn K (.ref yl) "line"=some (some (.ref f8))) (a9_Unlike:PySem.W.findIn K (.ref ye) "signs_at"=some (some (.ref f9))) (a9_Sum:PySem.W.findIn K (.ref yn) "signs_at"=some (some (.ref f9))) (a9_Rising:PySem.W.findIn K (.ref yh) "signs_at"=some (some (.ref f9))) (a9_Seen:PySem.W.findIn K (.ref ym) "signs_at"=some (some (.ref f9))) (a9_Count:PySem.W.findIn K (.ref yk) "signs_at"=some (some (.ref f9))) (a9_Joined:PySem.W.findIn K (.ref yf) "signs_at"=some (some (.ref f9))) (a9_NoSquare:PySem.W.findIn K (.ref yd) "signs_at"=some (some (.ref f9))) (a9_Ring:PySem.W.findIn K (.ref yl) "signs_at"=some (some (.ref f9))) (a10_Unlike:PySem.W.findIn K (.ref ye) "marked"=some (some (.ref f10))) (a10_Sum:PySem.W.findIn K (.ref yn) "marked"=some (some (.ref f10))) (a10_Rising:PySem.W.findIn K (.ref yh) "marked"=some (some (.ref f10))) (a10_Seen:PySem.W.findIn K (.ref ym) "marked"=some (some (.ref f10))) (a10_Count:PySem.W.findIn K (.ref yk) "marked"=some (some (.ref f10))) (a10_Joined:PySem.W.findIn K (.ref yf) "marked"=some (some (.ref f10))) (a10_NoSquare:PySem.W.findIn K (.ref yd) "marked"=some (some (.ref f10))) (a10_Ring:PySem.W.findIn K (.ref yl) "marked"=some (some (.ref f10))) (a11:PySem.W.nsIn K mainGlobals "number_in"=some (some (.ref f11))) (a12_Puzzle:PySem.W.findIn K (.ref yi) "place"=some (some (.ref f12))) (a13_Puzzle:PySem.W.findIn K (.ref yi) "clues"=some (some (.ref f13))) (a14_Puzzle:PySem.W.findIn K (.ref yi) "has_clues"=some (some (.ref f14))) (a15:PySem.W.nsIn K mainGlobals "_law_at"=some (some (.ref f15))) (a16:PySem.W.nsIn K mainGlobals "_law_whole"=some (some (.ref f16))) (a17:PySem.W.nsIn K mainGlobals "_law_stream"=some (some (.ref f17))) (a18:PySem.W.nsIn K mainGlobals "_law_order"=some (some (.ref f18))) (a19:PySem.W.nsIn K mainGlobals "_law_kept"=some (some (.ref f19))) (a20:PySem.W.nsIn K mainGlobals "_law_seen"=some (some (.ref f20))) (a21:PySem.W.nsIn K mainGlobals "_law_floors"=some (some (.ref f21))) (a22:PySem.W.nsIn K mainGlobals "is_from_one_to"=some (some (.ref f22))) (a23:PySem.W.nsIn K mainGlobals "beside"=some (some (.ref f23))) (a24:PySem.W.nsIn K mainGlobals "is_corner"=some (some (.ref f24))) (a25:PySem.W.nsIn K mainGlobals "refuse_too_many"=some (some (.ref f25))) (a26:PySem.W.nsIn K mainGlobals "every_filling"=some (some (.ref f26))) (a27:PySem.W.nsIn K mainGlobals "signs_to_try"=some (some (.ref f27))) (a28_Unlike:PySem.W.findIn K (.ref ye) "holds"=some (some (.ref f28))) (a29_Sum:PySem.W.findIn K (.ref yn) "holds"=some (some (.ref f29))) (a30_Rising:PySem.W.findIn K (.ref yh) "holds"=some (some (.ref f30))) (a31_Seen:PySem.W.findIn K (.ref ym) "holds"=some (some (.ref f31))) (a32_Count:PySem.W.findIn K (.ref yk) "holds"=some (some (.ref f32))) (a33:PySem.W.nsIn K mainGlobals "number_within"=some (some (.ref f33))) (a34:PySem.W.nsIn K mainGlobals "is_filling"=some (some (.ref f34))) (a35_Puzzle:PySem.W.findIn K (.ref yi) "lines"=some (some (.ref f35))) (a36:PySem.W.nsIn K mainGlobals "_law_small_floor"=some (some (.ref f36))) (a37:PySem.W.nsIn K mainGlobals "_law_line"=some (some (.ref f37))) (a38:PySem.W.nsIn K mainGlobals "_law_filling"=some (some (.ref f38))) (a39:PySem.W.nsIn K mainGlobals "_law_open"=some (some (.ref f39))) (a40:PySem.W.nsIn K mainGlobals "_law_are"=some (some (.ref f40))) (a41:PySem.W.nsIn K mainGlobals "floor_of"=some (some (.ref f41))) (a42:PySem.W.nsIn K mainGlobals "squares"=some (some (.ref f42))) (a43:PySem.W.nsIn K mainGlobals "reached"=some (some (.ref f43))) (a44_Ring:PySem.W.findIn K (.ref yl) "has_two_beside"=some (some (.ref f44))) (a45:PySem.W.nsIn K mainGlobals "first_within"=some (some (.ref f45))) (a46:PySem.W.nsIn K mainGlobals "told_cells"=some (some (.ref f46))) (a47:PySem.W.nsIn K mainGlobals "rule_by"=some (some (.ref f47))) (a48:PySem.W.nsIn K mainGlobals "checked_clues"=some (some (.ref f48))) (a49:PySem.W.nsIn K mainGlobals "_law_puzzle"=some (some (.ref f49))) (a50_Joined:PySem.W.findIn K (.ref yf) "is_joined"=some (some (.ref f50))) (a50_Ring:PySem.W.findIn K (.ref yl) "is_joined"=some (some (.ref f50))) (a51_NoSquare:PySem.W.findIn K (.ref yd) "holds"=some (some (.ref f51))) (a52:PySem.W.nsIn K mainGlobals "cells_of"=some (some (.ref f52))) (a53:PySem.W.nsIn K mainGlobals "checked_floor"=some (some (.ref f53))) (a54_Joined:PySem.W.findIn K (.ref yf) "holds"=some (some (.ref f54))) (a55_Ring:PySem.W.findIn K (.ref yl) "holds"=some (some (.ref f55))) (a56:PySem.W.nsIn K mainGlobals "read_rule"=some (some (.ref f56))) (a57:PySem.W.nsIn K mainGlobals "read_rules"=some (some (.ref f57))) (a58_Puzzle:PySem.W.findIn K (.ref yi) "meets"=some (some (.ref f58))) (a59:PySem.W.nsIn K mainGlobals "found_by"=some (some (.ref f59))) (AD:PySem.W.findIn K (.ref yi) "__init__"=some (some (.ref f60))) (a61:PySem.W.nsIn K mainGlobals "answers"=some (some (.ref f61))) (a62:PySem.W.nsIn K mainGlobals "_law_asked"=some (some (.ref f62))) (a63:PySem.W.nsIn K mainGlobals "law"=some (some (.ref f63))) (F0:Fun K "is_whole" "is_whole" kl f0 fd0) (F1:Fun K "many_cells" "many_cells" iL f1 fd1) (F2:Fun K "spot_of" "spot_of" la f2 fd2) (F3:Fun K "square_at" "square_at" jc f3 fd3) (F4:Fun K "with_each" "with_each" jd f4 fd4) (F5:Fun K "signs_from" "signs_from" iM f5 fd5) (F6:Fun K "is_within" "is_within" je f6 fd6) (F7:Fun K "__init__" "Rule.__init__" gg f7 fd7) (fn7:PySem.W.isFn K (.ref f7)=true) (F8:Fun K "line" "Rule.line" jf f8 fd8) (fn8:PySem.W.isFn K (.ref f8)=true) (F9:Fun K "signs_at" "Rule.signs_at" gh f9 fd9) (fn9:PySem.W.isFn K (.ref f9)=true) (F10:Fun K "marked" "Rule.marked" g4 f10 fd10) (fn10:PySem.W.isFn K (.ref f10)=true) (F11:Fun K "number_in" "number_in" jg f11 fd11) (F12:Fun K "place" "Puzzle.place" gy f12 fd12) (fn12:PySem.W.isFn K (.ref f12)=true) (F13:Fun K "clues" "Puzzle.clues" gz f13 fd13) (fn13:PySem.W.isFn K (.ref f13)=true) (F14:Fun K "has_clues" "Puzzle.has_clues" d0 f14 fd14) (fn14:PySem.W.isFn K (.ref f14)=true) (F15:Fun K "_law_at" "_law_at" lb f15 fd15) (F16:Fun K "_law_whole" "_law_whole" iN f16 fd16) (F17:Fun K "_law_stream" "_law_stream" g5 f17 fd17) (F18:Fun K "_law_order" "_law_order" iO f18 fd18) (F19:Fun K "_law_kept" "_law_kept" jh f19 fd19) (F20:Fun K "_law_seen" "_law_seen" ji f20 fd20) (F21:Fun K "_law_floors" "_law_floors" g6 f21 fd21) (F22:Fun K "is_from_one_to" "is_from_one_to" fD f22 fd22) (F23:Fun K "beside" "beside" mC f23 fd23) (F24:Fun K "is_corner" "is_corner" jj f24 fd24) (F25:Fun K "refuse_too_many" "refuse_too_many" eM f25 fd25) (F26:Fun K "every_filling" "every_filling" gi f26 fd26) (F27:Fun K "signs_to_try" "signs_to_try" gA f27 fd27) (F28:Fun K "holds" "Unlike.holds" gB f28 fd28) (fn28:PySem.W.isFn K (.ref f28)=true) (F29:Fun K "holds" "Sum.holds" jk f29 fd29) (fn29:PySem.W.isFn K (.ref f29)=true) (F30:Fun K "holds" "Rising.holds" gC f30 fd30) (fn30:PySem.W.isFn K (.ref f30)=true) (F31:Fun K "holds" "Seen.holds" iP f31 fd31) (fn31:PySem.W.isFn K (.ref f31)=true) (F32:Fun K "holds" "Count.holds" g7 f32 fd32) (fn32:PySem.W.isFn K (.ref f32)=true) (F33:Fun K "number_within" "number_within" gj f33 fd33) (F34:Fun K "is_filling" "is_filling" iQ f34 fd34) (F35:Fun K "lines" "Puzzle.lines" gD f35 fd35) (fn35:PySem.W.isFn K (.ref f35)=true) (F36:Fun K "_law_small_floor" "_law_small_floor" d2 f36 fd36) (F37:Fun K "_law_line" "_law_line" jl f37 fd37) (F38:Fun K "_law_filling" "_law_filling" gE f38 fd38) (F39:Fun K "_law_open" "_law_open" jm f39 fd39) (F40:Fun K "_law_are" "_law_are" km f40 fd40) (F41:Fun K "floor_of" "floor_of" kn f41 fd41) (F42:Fun K "squares" "squares" lf f42 fd42) (F43:Fun K "reached" "reached" lg f43 fd43) (F44:Fun K "has_two_beside" "Ring.has_two_beside" cX f44 fd44) (fn44:PySem.W.isFn K (.ref f44)=true) (F45:Fun K "first_within" "first_within" gF f45 fd45) (F46:Fun K "told_cells" "told_cells" iR f46 fd46) (F47:Fun K "rule_by" "rule_by" lh f47 fd47) (F48:Fun K "checked_clues" "checked_clues" gk f48 fd48) (F49:Fun K "_law_puzzle" "_law_puzzle" g8 f49 fd49) (F50:Fun K "is_joined" "Joined.is_joined" d3 f50 fd50) (fn50:PySem.W.isFn K (.ref f50)=true) (F51:Fun K "holds" "NoSquare.holds" fE f51 fd51) (fn51:PySem.W.isFn K (.ref f51)=true) (F52:Fun K "cells_of" "cells_of" ko f52 fd52) (F53:Fun K "checked_floor" "checked_floor" gl f53 fd53) (F54:Fun K "holds" "Joined.holds" gG f54 fd54) (fn54:PySem.W.isFn K (.ref f54)=true) (F55:Fun K "holds" "Ring.holds" iS f55 fd55) (fn55:PySem.W.isFn K (.ref f55)=true) (F56:Fun K "read_rule" "read_rule" jo f56 fd56) (F57:Fun K "read_rules" "read_rules" iT f57 fd57) (F58:Fun K "meets" "Puzzle.meets" gH f58 fd58) (fn58:PySem.W.isFn K (.ref f58)=true) (F59:Fun K "found_by" "found_by" kq f59 fd59) (F60:Fun K "__init__" "Puzzle.__init__" eP f60 fd60) (fn60:PySem.W.isFn K (.ref f60)=true) (F61:FunD K "answers" "answers" lj f61 fd61 [Value.int 2 td]) (F62:Fun K "_law_asked" "_law_asked" iU f62 fd62) (F63:Fun K "law" "law" lD f63 fd63) (AE:PySem.W.makesIn K ye=true) (AF:PySem.W.keepIn K (.ref ye)=true) (AG:PySem.W.plainGet K ye Str.empty=true) (AH:PySem.W.hasDictIn K ye=true) (AI:PySem.W.plainOver K ye=true) (AJ:PySem.W.findIn K (.ref ye) "__setattr__"=some (some (.builtin "object.__setattr__"))) (B0:PySem.W.makesIn K yn=true) (B1:PySem.W.keepIn K (.ref yn)=true) (B2:PySem.W.plainGet K yn Str.empty=true) (B3:PySem.W.hasDictIn K yn=true) (B4:PySem.W.plainOver K yn=true) (B5:PySem.W.findIn K (.ref yn) "__setattr__"=some (some (.builtin "object.__setattr__"))) (AK:PySem.W.makesIn K yh=true) (AL:PySem.W.keepIn K (.ref yh)=true) (AM:PySem.W.plainGet K yh Str.empty=true) (AN:PySem.W.hasDictIn K yh=true) (AO:PySem.W.plainOver K yh=true) (AQ:PySem.W.findIn K (.ref yh) "__setattr__"=some (some (.builtin "object.__setattr__"))) (Bs:PySem.W.makesIn K ym=true) (Bu:PySem.W.keepIn K (.ref ym)=true) (Bv:PySem.W.plainGet K ym Str.empty=true) (Bw:PySem.W.hasDictIn K ym=true) (Bx:PySem.W.plainOver K ym=true) (By:PySem.W.findIn K (.ref ym) "__setattr__"=some (some (.builtin "object.__setattr__"))) (Ba:PySem.W.makesIn K yk=true) (Bb:PySem.W.keepIn K (.ref yk)=true) (Bc:PySem.W.plainGet K yk Str.empty=true) (Bd:PySem.W.hasDictIn K yk=true) (Be:PySem.W.plainOver K yk=true) (Bf:PySem.W.findIn K (.ref yk) "__setattr__"=some (some (.builtin "object.__setattr__"))) (AR:PySem.W.makesIn K yf=true) (AS:PySem.W.keepIn K (.ref yf)=true) (AT:PySem.W.plainGet K yf Str.empty=true) (AU:PySem.W.hasDictIn K yf=true) (AV:PySem.W.plainOver K yf=true) (AW:PySem.W.findIn K (.ref yf) "__setattr__"=some (some (.builtin "object.__setattr__"))) (Ab:PySem.W.makesIn K yd=true) (Ac:PySem.W.keepIn K (.ref yd)=true) (Ad:PySem.W.plainGet K yd Str.empty=true) (Ae:PySem.W.hasDictIn K yd=true) (Af:PySem.W.plainOver K yd=true) (Ag:PySem.W.findIn K (.ref yd) "__setattr__"=some (some (.builtin "object.__setattr__"))) (Bz:PySem.W.makesIn K yl=true) (BA:PySem.W.keepIn K (.ref yl)=true) (BB:PySem.W.plainGet K yl Str.empty=true) (BC:PySem.W.hasDictIn K yl=true) (BD:PySem.W.plainOver K yl=true) (BE:PySem.W.findIn K (.ref yl) "__setattr__"=some (some (.builtin "object.__setattr__"))) (AX:PySem.W.makesIn K yi=true) (AY:PySem.W.keepIn K (.ref yi)=true) (AZ:PySem.W.plainGet K yi Str.empty=true) (A2:PySem.W.hasDictIn K yi=true) (A3:PySem.W.plainOver K yi=true) (A4:PySem.W.findIn K (.ref yi) "__setattr__"=some (some (.builtin "object.__setattr__"))) (yH:PySem.W.findIn K (.ref ye) "amount"=some none) (zn:PySem.W.findIn K (.ref yn) "amount"=some none) (yI:PySem.W.findIn K (.ref yh) "amount"=some none) (y0:PySem.W.findIn K (.ref ym) "amount"=some none) (yQ:PySem.W.findIn K (.ref yk) "amount"=some none) (yJ:PySem.W.findIn K (.ref yf) "amount"=some none) (yy:PySem.W.findIn K (.ref yd) "amount"=some none) (y7:PySem.W.findIn K (.ref yl) "amount"=some none) (yR:PySem.W.findIn K (.ref ye) "cells"=some none) (zD:PySem.W.findIn K (.ref yn) "cells"=some none) (yS:PySem.W.findIn K (.ref yh) "cells"=some none) (zo:PySem.W.findIn K (.ref ym) "cells"=some none) (y8:PySem.W.findIn K (.ref yk) "cells"=some none) (yt:PySem.W.findIn K (.ref yf) "cells"=some none) (yB:PySem.W.findIn K (.ref yd) "cells"=some none) (yE:PySem.W.findIn K (.ref yl) "cells"=some none) (yT:PySem.W.findIn K (.ref ye) "floor"=some none) (zE:PySem.W.findIn K (.ref yn) "floor"=some none) (yU:PySem.W.findIn K (.ref yh) "floor"=some none) (zp:PySem.W.findIn K (.ref ym) "floor"=some none) (y9:PySem.W.findIn K (.ref yk) "floor"=some none) (yu:PySem.W.findIn K (.ref yf) "floor"=some none) (yC:PySem.W.findIn K (.ref yd) "floor"=some none) (yF:PySem.W.findIn K (.ref yl) "floor"=some none) (za:PySem.W.findIn K (.ref ye) "mark"=some none) (zQ:PySem.W.findIn K (.ref yn) "mark"=some none) (zb:PySem.W.findIn K (.ref yh) "mark"=some none) (zF:PySem.W.findIn K (.ref ym) "mark"=some none) (zq:PySem.W.findIn K (.ref yk) "mark"=some none) (yz:PySem.W.findIn K (.ref yf) "mark"=some none) (yK:PySem.W.findIn K (.ref yd) "mark"=some none) (yO:PySem.W.findIn K (.ref yl) "mark"=some none) (yV:PySem.W.findIn K (.ref ye) "words"=some none) (zG:PySem.W.findIn K (.ref yn) "words"=some none) (yW:PySem.W.findIn K (.ref yh) "words"=some none) (zr:PySem.W.findIn K (.ref ym) "words"=some none) (zc:PySem.W.findIn K (.ref yk) "words"=some none) (yX:PySem.W.findIn K (.ref yf) "words"=some none) (yD:PySem.W.findIn K (.ref yd) "words"=some none) (zt:PySem.W.findIn K (.ref yl) "words"=some none) (yY:PySem.W.findIn K (.ref yi) "floor"=some none) (yZ:PySem.W.findIn K (.ref yi) "given"=some none) (zd:PySem.W.findIn K (.ref yi) "laws"=some none) (ze:PySem.W.nsIn K mainGlobals "OF_ALL_CELLS"=some (some (.ref zm))) (zf:K.lookup zm=some ⟨.type "tuple",BG,.seq #[.str (tx [106,111,105,110,101,100]) BL,.str (tx [110,111,115,113,117,97,114,101]) BM,.str (tx [114,105,110,103]) BN] BH,BK⟩) (zu:PySem.W.nsIn K mainGlobals "WITH_NUMBER"=some (some (.ref zC))) (zv:K.lookup zC=some ⟨.type "tuple",BS,.seq #[.str (tx [115,117,109]) BV,.str (tx [115,101,101,110]) BW,.str (tx [99,111,117,110,116]) BX] BT,BU⟩) (zR:PySem.W.nsIn K mainGlobals "WITH_SIGN"=some (some (.ref z9))) (zS:K.lookup z9=some ⟨.type "tuple",Ca,.seq #[.str (tx [99,111,117,110,116]) Cd,.str (tx [106,111,105,110,101,100]) Ce,.str (tx [110,111,115,113,117,97,114,101]) Cf,.str (tx [114,105,110,103]) Cg] Cb,Cc⟩) (A5:PySem.W.nsIn K mainGlobals "FIGURES"=some (some (.str (tx [48,49,50,51,52,53,54,55,56,57]) tk_FIGURES))) (zT:PySem.W.nsIn K mainGlobals "MOST_CELLS"=some (some (.int 16 tk_MOST_CELLS))) (zw:PySem.W.nsIn K mainGlobals "MOST_FIGURES"=some (some (.int 9 tk_MOST_FIGURES))) (zH:PySem.W.nsIn K mainGlobals "MOST_FLOORS"=some (some (.int 1024 tk_MOST_FLOORS))) (zI:PySem.W.nsIn K mainGlobals "MOST_NUMBER"=some (some (.int 99 tk_MOST_NUMBER))) (zU:PySem.W.nsIn K mainGlobals "MOST_RULES"=some (some (.int 12 tk_MOST_RULES))) (Ah:PySem.W.nsIn K mainGlobals "MOST_SIDE"=some (some (.int 6 tk_MOST_SIDE))) (zV:PySem.W.nsIn K mainGlobals "MOST_SIGNS"=some (some (.int 6 tk_MOST_SIGNS))) (z_len:PySem.W.nsIn K mainGlobals "len"=some none) (z_abs:PySem.W.nsIn K mainGlobals "abs"=some none) (z_min:PySem.W.nsIn K mainGlobals "min"=some none) (z_max:PySem.W.nsIn K mainGlobals "max"=some none) (z_sorted:PySem.W.nsIn K mainGlobals "sorted"=some none) (z_any:PySem.W.nsIn K mainGlobals "any"=some none) (z_isinstance:PySem.W.nsIn K mainGlobals "isinstance"=some none) (z_list:PySem.W.nsIn K mainGlobals "list"=some none) (z_int:PySem.W.nsIn K mainGlobals "int"=some none) (z_bool:PySem.W.nsIn K mainGlobals "bool"=some none) (z_str:PySem.W.nsIn K mainGlobals "str"=some none) (z_tuple:PySem.W.nsIn K mainGlobals "tuple"=some none) (z_reversed:PySem.W.nsIn K mainGlobals "reversed"=some none) (z_set:PySem.W.nsIn K mainGlobals "set"=some none) (z_range:PySem.W.nsIn K mainGlobals "range"=some none) (z_zip:PySem.W.nsIn K mainGlobals "zip"=some none) (z_all:PySem.W.nsIn K mainGlobals "all"=some none) (z_sum:PySem.W.nsIn K mainGlobals "sum"=some none) (z_enumerate:PySem.W.nsIn K mainGlobals "enumerate"=some none):
  ∃ fd:FuncData,(∀ (s:Shared) (v:Value),BindsTo s fd ⟨[v],[]⟩ [("_law_script",v)])∧∀ base:Heap,K.In base→base.Ns mainGlobals mg→FnOk l.prog w K mg base CX0 10 fa fd ["_law_script"] (oO K):=by
 have e:=hfa.symm.trans (PySem.W.mg_of X G a63)
 cases e
 have B:Bt2 mg:=⟨⟨PySem.W.mg_none_of X G z_len,PySem.W.mg_none_of X G z_abs,PySem.W.mg_none_of X G z_min,PySem.W.mg_none_of X G z_max,PySem.W.mg_none_of X G z_sorted,PySem.W.mg_none_of X G z_any,PySem.W.mg_none_of X G z_isinstance,PySem.W.mg_none_of X G z_list,PySem.W.mg_none_of X G z_int,PySem.W.mg_none_of X G z_bool,PySem.W.mg_none_of X G z_str,PySem.W.mg_none_of X G z_tuple,PySem.W.mg_none_of X G z_reversed,PySem.W.mg_none_of X G z_set,PySem.W.mg_none_of X G z_range,PySem.W.mg_none_of X G z_zip⟩,PySem.W.mg_none_of X G z_all,PySem.W.mg_none_of X G z_sum,PySem.W.mg_none_of X G z_enumerate⟩
 obtain ⟨oc,od,kV,doc,pm,an,cdv,ct,osl,rfl,lk,hcd⟩:=F63.ex
 refine ⟨PySem.W.fnOf "law" "law" (a9 lD) (aX lD) (ag lD) .none kV doc pm an cdv ct,fun s v=>.of_eq rfl,fun base _ _=>?_⟩
 let c:RCl RK:=mkC ye yn yh ym yk yf yd yl
 let d:RCl PzK:=mkD yi
 have A6:=PySem.W.mg_of X G A5
 have z4:=PySem.W.mg_of X G zT
 have zx:=PySem.W.mg_of X G zw
 have zL:=PySem.W.mg_of X G zH
 have zN:=PySem.W.mg_of X G zI
 have z7:=PySem.W.mg_of X G zU
 have zJ:=PySem.W.mg_of X G Ah
 have z5:=PySem.W.mg_of X G zV
 have cls_Unlike:Cls K ye:=⟨AG,AH,AI,AJ⟩
 have cls_Sum:Cls K yn:=⟨B2,B3,B4,B5⟩
 have cls_Rising:Cls K yh:=⟨AM,AN,AO,AQ⟩
 have cls_Seen:Cls K ym:=⟨Bv,Bw,Bx,By⟩
 have cls_Count:Cls K yk:=⟨Bc,Bd,Be,Bf⟩
 have cls_Joined:Cls K yf:=⟨AT,AU,AV,AW⟩
 have cls_NoSquare:Cls K yd:=⟨Ad,Ae,Af,Ag⟩
 have cls_Ring:Cls K yl:=⟨BB,BC,BD,BE⟩
 have cls_Puzzle:Cls K yi:=⟨AZ,A2,A3,A4⟩
 have FK_c_amount:FldK K c "amount":=⟨fun i hi=>by cases i with | Rule=>exact (Bool.false_ne_true hi).elim | Unlike=>exact ⟨cls_Unlike,yH⟩ | Sum=>exact ⟨cls_Sum,zn⟩ | Rising=>exact ⟨cls_Rising,yI⟩ | Seen=>exact ⟨cls_Seen,y0⟩ | Count=>exact ⟨cls_Count,yQ⟩ | Joined=>exact ⟨cls_Joined,yJ⟩ | NoSquare=>exact ⟨cls_NoSquare,yy⟩ | Ring=>exact ⟨cls_Ring,y7⟩⟩
 have FK_c_cells:FldK K c "cells":=⟨fun i hi=>by cases i with | Rule=>exact (Bool.false_ne_true hi).elim | Unlike=>exact ⟨cls_Unlike,yR⟩ | Sum=>exact ⟨cls_Sum,zD⟩ | Rising=>exact ⟨cls_Rising,yS⟩ | Seen=>exact ⟨cls_Seen,zo⟩ | Count=>exact ⟨cls_Count,y8⟩ | Joined=>exact ⟨cls_Joined,yt⟩ | NoSquare=>exact ⟨cls_NoSquare,yB⟩ | Ring=>exact ⟨cls_Ring,yE⟩⟩
 have FK_c_floor:FldK K c "floor":=⟨fun i hi=>by cases i with | Rule=>exact (Bool.false_ne_true hi).elim | Unlike=>exact ⟨cls_Unlike,yT⟩ | Sum=>exact ⟨cls_Sum,zE⟩ | Rising=>exact ⟨cls_Rising,yU⟩ | Seen=>exact ⟨cls_Seen,zp⟩ | Count=>exact ⟨cls_Count,y9⟩ | Joined=>exact ⟨cls_Joined,yu⟩ | NoSquare=>exact ⟨cls_NoSquare,yC⟩ | Ring=>exact ⟨cls_Ring,yF⟩⟩
 have FK_c_mark:FldK K c "mark":=⟨fun i hi=>by cases i with | Rule=>exact (Bool.false_ne_true hi).elim | Unlike=>exact ⟨cls_Unlike,za⟩ | Sum=>exact ⟨cls_Sum,zQ⟩ | Rising=>exact ⟨cls_Rising,zb⟩ | Seen=>exact ⟨cls_Seen,zF⟩ | Count=>exact ⟨cls_Count,zq⟩ | Joined=>exact ⟨cls_Joined,yz⟩ | NoSquare=>exact ⟨cls_NoSquare,yK⟩ | Ring=>exact ⟨cls_Ring,yO⟩⟩
 have FK_c_words:FldK K c "words":=⟨fun i hi=>by cases i with | Rule=>exact (Bool.false_ne_true hi).elim | Unlike=>exact ⟨cls_Unlike,yV⟩ | Sum=>exact ⟨cls_Sum,zG⟩ | Rising=>exact ⟨cls_Rising,yW⟩ | Seen=>exact ⟨cls_Seen,zr⟩ | Count=>exact ⟨cls_Count,zc⟩ | Joined=>exact ⟨cls_Joined,yX⟩ | NoSquare=>exact ⟨cls_NoSquare,yD⟩ | Ring=>exact ⟨cls_Ring,zt⟩⟩
 have FK_d_floor:FldK K d "floor":=⟨fun i hi=>by cases i; exact ⟨cls_Puzzle,yY⟩⟩
 have FK_d_given:FldK K d "given":=⟨fun i hi=>by cases i; exact ⟨cls_Puzzle,yZ⟩⟩
 have FK_d_laws:FldK K d "laws":=⟨fun i hi=>by cases i; exact ⟨cls_Puzzle,zd⟩⟩
 have G_OF_ALL_CELLS:GTup K mg "OF_ALL_CELLS" dn:=⟨zm,_,_,_,PySem.W.mg_of X G ze,zf,rfl,rfl,Nat.le_of_lt (aE (by show (3:Nat)≤1000; decide)),(.cons ⟨_,rfl⟩ (.cons ⟨_,rfl⟩ (.cons ⟨_,rfl⟩ .nil)))⟩
 have G_WITH_NUMBER:GTup K mg "WITH_NUMBER" d8:=⟨zC,_,_,_,PySem.W.mg_of X G zu,zv,rfl,rfl,Nat.le_of_lt (aE (by show (3:Nat)≤1000; decide)),(.cons ⟨_,rfl⟩ (.cons ⟨_,rfl⟩ (.cons ⟨_,rfl⟩ .nil)))⟩
 have G_WITH_SIGN:GTup K mg "WITH_SIGN" dU:=⟨z9,_,_,_,PySem.W.mg_of X G zR,zS,rfl,rfl,Nat.le_of_lt (aE (by show (4:Nat)≤1000; decide)),(.cons ⟨_,rfl⟩ (.cons ⟨_,rfl⟩ (.cons ⟨_,rfl⟩ (.cons ⟨_,rfl⟩ .nil))))⟩
 have yL:Cal l.prog w K mg base _ _ _ (bY K):=jb (sx B F0) F0 (PySem.W.mg_of X G a0)
 have yg:Cal l.prog w K mg base _ _ _ (aN K):=jb (pX B F1) F1 (PySem.W.mg_of X G a1)
 have zg:Cal l.prog w K mg base _ _ _ (cx K):=cW (t9 B F2) F2 (PySem.W.mg_of X G a2)
 have Ao:Cal l.prog w K mg base _ _ _ (cP K):=cW (rL B F3) F3 (PySem.W.mg_of X G a3)
 have Aj:Cal l.prog w K mg base _ _ _ (cV K):=cW (rM B F4) F4 (PySem.W.mg_of X G a4)
 have zY:Cal l.prog w K mg base _ _ _ (cq K):=cW (pY B F5) F5 (PySem.W.mg_of X G a5)
 have Ar:Cal l.prog w K mg base _ _ _ (cU K):=cW (rN B F6) F6 (PySem.W.mg_of X G a6)
 have bd7:Binds K fd7 ["self","floor","words","cells","amount","mark"] []:=x8 F7
 have T7:FnOk l.prog w K mg base CX0 1 f7 fd7 _ (aj K c):=my (c:=c) B FK_c_amount FK_c_cells FK_c_floor FK_c_mark FK_c_words F7
 have Bj:KCal l.prog w K mg base _ "Unlike" (c.A .Unlike) _ (aj K c):=⟨f7,_,⟨AE,AA,fn7,AF⟩,T7,PySem.W.mg_of X G Bm,bd7⟩
 have K_Sum:KCal l.prog w K mg base _ "Sum" (c.A .Sum) _ (aj K c):=⟨f7,_,⟨B0,BZ,fn7,B1⟩,T7,PySem.W.mg_of X G q_Sum,bd7⟩
 have Bi:KCal l.prog w K mg base _ "Rising" (c.A .Rising) _ (aj K c):=⟨f7,_,⟨AK,AB,fn7,AL⟩,T7,PySem.W.mg_of X G Bn,bd7⟩
 have B9:KCal l.prog w K mg base _ "Seen" (c.A .Seen) _ (aj K c):=⟨f7,_,⟨Bs,Bq,fn7,Bu⟩,T7,PySem.W.mg_of X G Ch,bd7⟩
 have BP:KCal l.prog w K mg base _ "Count" (c.A .Count) _ (aj K c):=⟨f7,_,⟨Ba,A9,fn7,Bb⟩,T7,PySem.W.mg_of X G BY,bd7⟩
 have Bh:KCal l.prog w K mg base _ "Joined" (c.A .Joined) _ (aj K c):=⟨f7,_,⟨AR,AC,fn7,AS⟩,T7,PySem.W.mg_of X G Bo,bd7⟩
 have Aw:KCal l.prog w K mg base _ "NoSquare" (c.A .NoSquare) _ (aj K c):=⟨f7,_,⟨Ab,Aa,fn7,Ac⟩,T7,PySem.W.mg_of X G Az,bd7⟩
 have B8:KCal l.prog w K mg base _ "Ring" (c.A .Ring) _ (aj K c):=⟨f7,_,⟨Bz,Br,fn7,BA⟩,T7,PySem.W.mg_of X G Ci,bd7⟩
 have bd8:Binds K fd8 ["self"] []:=n4 F8
 have T8:FnOk l.prog w K mg base CX0 1 f8 fd8 _ (fS K c):=rO (c:=c) B FK_c_words F8
 have B7:MCal l.prog w K mg base c c.ok 1 "line" ["self"] (jy K c):=⟨fun i hi=>by cases i with | Rule=>exact (Bool.false_ne_true hi).elim | Unlike=>exact ⟨f8,_,cls_Unlike,⟨a8_Unlike,fn8,F8.kp⟩,(T8.mono (by decide)).imp (fun vs H Q E h=>⟨.Unlike,h⟩),bd8⟩ | Sum=>exact ⟨f8,_,cls_Sum,⟨a8_Sum,fn8,F8.kp⟩,(T8.mono (by decide)).imp (fun vs H Q E h=>⟨.Sum,h⟩),bd8⟩ | Rising=>exact ⟨f8,_,cls_Rising,⟨a8_Rising,fn8,F8.kp⟩,(T8.mono (by decide)).imp (fun vs H Q E h=>⟨.Rising,h⟩),bd8⟩ | Seen=>exact ⟨f8,_,cls_Seen,⟨a8_Seen,fn8,F8.kp⟩,(T8.mono (by decide)).imp (fun vs H Q E h=>⟨.Seen,h⟩),bd8⟩ | Count=>exact ⟨f8,_,cls_Count,⟨a8_Count,fn8,F8.kp⟩,(T8.mono (by decide)).imp (fun vs H Q E h=>⟨.Count,h⟩),bd8⟩ | Joined=>exact ⟨f8,_,cls_Joined,⟨a8_Joined,fn8,F8.kp⟩,(T8.mono (by decide)).imp (fun vs H Q E h=>⟨.Joined,h⟩),bd8⟩ | NoSquare=>exact ⟨f8,_,cls_NoSquare,⟨a8_NoSquare,fn8,F8.kp⟩,(T8.mono (by decide)).imp (fun vs H Q E h=>⟨.NoSquare,h⟩),bd8⟩ | Ring=>exact ⟨f8,_,cls_Ring,⟨a8_Ring,fn8,F8.kp⟩,(T8.mono (by decide)).imp (fun vs H Q E h=>⟨.Ring,h⟩),bd8⟩⟩
 have bd9:Binds K fd9 ["self","filling"] []:=dL F9
 have T9:FnOk l.prog w K mg base CX0 1 f9 fd9 _ (c6 K c):=mB (c:=c) B FK_c_cells F9
 have yo:MCal l.prog w K mg base c c.ok 1 "signs_at" ["self","filling"] (br K c):=⟨fun i hi=>by cases i with | Rule=>exact (Bool.false_ne_true hi).elim | Unlike=>exact ⟨f9,_,cls_Unlike,⟨a9_Unlike,fn9,F9.kp⟩,(T9.mono (by decide)).imp (fun vs H Q E h=>⟨.Unlike,h⟩),bd9⟩ | Sum=>exact ⟨f9,_,cls_Sum,⟨a9_Sum,fn9,F9.kp⟩,(T9.mono (by decide)).imp (fun vs H Q E h=>⟨.Sum,h⟩),bd9⟩ | Rising=>exact ⟨f9,_,cls_Rising,⟨a9_Rising,fn9,F9.kp⟩,(T9.mono (by decide)).imp (fun vs H Q E h=>⟨.Rising,h⟩),bd9⟩ | Seen=>exact ⟨f9,_,cls_Seen,⟨a9_Seen,fn9,F9.kp⟩,(T9.mono (by decide)).imp (fun vs H Q E h=>⟨.Seen,h⟩),bd9⟩ | Count=>exact ⟨f9,_,cls_Count,⟨a9_Count,fn9,F9.kp⟩,(T9.mono (by decide)).imp (fun vs H Q E h=>⟨.Count,h⟩),bd9⟩ | Joined=>exact ⟨f9,_,cls_Joined,⟨a9_Joined,fn9,F9.kp⟩,(T9.mono (by decide)).imp (fun vs H Q E h=>⟨.Joined,h⟩),bd9⟩ | NoSquare=>exact ⟨f9,_,cls_NoSquare,⟨a9_NoSquare,fn9,F9.kp⟩,(T9.mono (by decide)).imp (fun vs H Q E h=>⟨.NoSquare,h⟩),bd9⟩ | Ring=>exact ⟨f9,_,cls_Ring,⟨a9_Ring,fn9,F9.kp⟩,(T9.mono (by decide)).imp (fun vs H Q E h=>⟨.Ring,h⟩),bd9⟩⟩
 have bd10:Binds K fd10 ["self","filling"] []:=dL F10
 have FK_c_cells_Joined:FldK K (mk1 c .Joined) "cells":=⟨fun i hi=>by cases i with | Rule=>exact (Bool.false_ne_true hi).elim | Unlike=>exact (Bool.false_ne_true hi).elim | Sum=>exact (Bool.false_ne_true hi).elim | Rising=>exact (Bool.false_ne_true hi).elim | Seen=>exact (Bool.false_ne_true hi).elim | Count=>exact (Bool.false_ne_true hi).elim | Joined=>exact ⟨cls_Joined,yt⟩ | NoSquare=>exact (Bool.false_ne_true hi).elim | Ring=>exact (Bool.false_ne_true hi).elim⟩
 have FK_c_mark_Joined:FldK K (mk1 c .Joined) "mark":=⟨fun i hi=>by cases i with | Rule=>exact (Bool.false_ne_true hi).elim | Unlike=>exact (Bool.false_ne_true hi).elim | Sum=>exact (Bool.false_ne_true hi).elim | Rising=>exact (Bool.false_ne_true hi).elim | Seen=>exact (Bool.false_ne_true hi).elim | Count=>exact (Bool.false_ne_true hi).elim | Joined=>exact ⟨cls_Joined,yz⟩ | NoSquare=>exact (Bool.false_ne_true hi).elim | Ring=>exact (Bool.false_ne_true hi).elim⟩
 have T10_Joined:FnOk l.prog w K mg base CX0 1 f10 _ ["self","filling"] (b7 K (mk1 c .Joined)):=gx (c:=(mk1 c .Joined)) B FK_c_cells_Joined FK_c_mark_Joined F10
 have BO:MCal l.prog w K mg base (mk1 c .Joined) (mk1 c .Joined).ok 1 "marked" ["self","filling"] (bx K (mk1 c .Joined)):=⟨fun i hi=>by cases i with | Rule=>exact (Bool.false_ne_true hi).elim | Unlike=>exact (Bool.false_ne_true hi).elim | Sum=>exact (Bool.false_ne_true hi).elim | Rising=>exact (Bool.false_ne_true hi).elim | Seen=>exact (Bool.false_ne_true hi).elim | Count=>exact (Bool.false_ne_true hi).elim | Joined=>exact ⟨f10,_,cls_Joined,⟨a10_Joined,fn10,F10.kp⟩,(T10_Joined.mono (by decide)).imp (fun vs H Q E h=>⟨.Joined,h⟩),bd10⟩ | NoSquare=>exact (Bool.false_ne_true hi).elim | Ring=>exact (Bool.false_ne_true hi).elim⟩
 have FK_c_cells_Ring:FldK K (mk1 c .Ring) "cells":=⟨fun i hi=>by cases i with | Rule=>exact (Bool.false_ne_true hi).elim | Unlike=>exact (Bool.false_ne_true hi).elim | Sum=>exact (Bool.false_ne_true hi).elim | Rising=>exact (Bool.false_ne_true hi).elim | Seen=>exact (Bool.false_ne_true hi).elim | Count=>exact (Bool.false_ne_true hi).elim | Joined=>exact (Bool.false_ne_true hi).elim | NoSquare=>exact (Bool.false_ne_true hi).elim | Ring=>exact ⟨cls_Ring,yE⟩⟩
 have FK_c_mark_Ring:FldK K (mk1 c .Ring) "mark":=⟨fun i hi=>by cases i with | Rule=>exact (Bool.false_ne_true hi).elim | Unlike=>exact (Bool.false_ne_true hi).elim | Sum=>exact (Bool.false_ne_true hi).elim | Rising=>exact (Bool.false_ne_true hi).elim | Seen=>exact (Bool.false_ne_true hi).elim | Count=>exact (Bool.false_ne_true hi).elim | Joined=>exact (Bool.false_ne_true hi).elim | NoSquare=>exact (Bool.false_ne_true hi).elim | Ring=>exact ⟨cls_Ring,yO⟩⟩
 have T10_Ring:FnOk l.prog w K mg base CX0 1 f10 _ ["self","filling"] (b7 K (mk1 c .Ring)):=gx (c:=(mk1 c .Ring)) B FK_c_cells_Ring FK_c_mark_Ring F10
 have B6:MCal l.prog w K mg base (mk1 c .Ring) (mk1 c .Ring).ok 1 "marked" ["self","filling"] (bx K (mk1 c .Ring)):=⟨fun i hi=>by cases i with | Rule=>exact (Bool.false_ne_true hi).elim | Unlike=>exact (Bool.false_ne_true hi).elim | Sum=>exact (Bool.false_ne_true hi).elim | Rising=>exact (Bool.false_ne_true hi).elim | Seen=>exact (Bool.false_ne_true hi).elim | Count=>exact (Bool.false_ne_true hi).elim | Joined=>exact (Bool.false_ne_true hi).elim | NoSquare=>exact (Bool.false_ne_true hi).elim | Ring=>exact ⟨f10,_,cls_Ring,⟨a10_Ring,fn10,F10.kp⟩,(T10_Ring.mono (by decide)).imp (fun vs H Q E h=>⟨.Ring,h⟩),bd10⟩⟩
 have T10:FnOk l.prog w K mg base CX0 1 f10 fd10 _ (b7 K c):=gx (c:=c) B FK_c_cells FK_c_mark F10
 have yr:MCal l.prog w K mg base c c.ok 1 "marked" ["self","filling"] (bx K c):=⟨fun i hi=>by cases i with | Rule=>exact (Bool.false_ne_true hi).elim | Unlike=>exact ⟨f10,_,cls_Unlike,⟨a10_Unlike,fn10,F10.kp⟩,(T10.mono (by decide)).imp (fun vs H Q E h=>⟨.Unlike,h⟩),bd10⟩ | Sum=>exact ⟨f10,_,cls_Sum,⟨a10_Sum,fn10,F10.kp⟩,(T10.mono (by decide)).imp (fun vs H Q E h=>⟨.Sum,h⟩),bd10⟩ | Rising=>exact ⟨f10,_,cls_Rising,⟨a10_Rising,fn10,F10.kp⟩,(T10.mono (by decide)).imp (fun vs H Q E h=>⟨.Rising,h⟩),bd10⟩ | Seen=>exact ⟨f10,_,cls_Seen,⟨a10_Seen,fn10,F10.kp⟩,(T10.mono (by decide)).imp (fun vs H Q E h=>⟨.Seen,h⟩),bd10⟩ | Count=>exact ⟨f10,_,cls_Count,⟨a10_Count,fn10,F10.kp⟩,(T10.mono (by decide)).imp (fun vs H Q E h=>⟨.Count,h⟩),bd10⟩ | Joined=>exact ⟨f10,_,cls_Joined,⟨a10_Joined,fn10,F10.kp⟩,(T10.mono (by decide)).imp (fun vs H Q E h=>⟨.Joined,h⟩),bd10⟩ | NoSquare=>exact ⟨f10,_,cls_NoSquare,⟨a10_NoSquare,fn10,F10.kp⟩,(T10.mono (by decide)).imp (fun vs H Q E h=>⟨.NoSquare,h⟩),bd10⟩ | Ring=>exact ⟨f10,_,cls_Ring,⟨a10_Ring,fn10,F10.kp⟩,(T10.mono (by decide)).imp (fun vs H Q E h=>⟨.Ring,h⟩),bd10⟩⟩
 have Ak:Cal l.prog w K mg base _ _ _ (cQ K):=jb (rP B A6 zx F11) F11 (PySem.W.mg_of X G a11)
 have bd12:Binds K fd12 ["self"] []:=n4 F12
 have T12:FnOk l.prog w K mg base CX0 1 f12 fd12 _ (dv K c d):=n5 (c:=c) (d:=d) B FK_d_floor F12
 have yA:MCal l.prog w K mg base d d.ok 1 "place" ["self"] (dW K c d):=⟨fun i hi=>by cases i; exact ⟨f12,_,cls_Puzzle,⟨a12_Puzzle,fn12,F12.kp⟩,(T12.mono (by decide)).imp (fun vs H Q E h=>h),bd12⟩⟩
 have bd13:Binds K fd13 ["self"] []:=n4 F13
 have T13:FnOk l.prog w K mg base CX0 1 f13 fd13 _ (dy K c d):=n6 (c:=c) (d:=d) B FK_d_given F13
 have yM:MCal l.prog w K mg base d d.ok 1 "clues" ["self"] (dX K c d):=⟨fun i hi=>by cases i; exact ⟨f13,_,cls_Puzzle,⟨a13_Puzzle,fn13,F13.kp⟩,(T13.mono (by decide)).imp (fun vs H Q E h=>h),bd13⟩⟩
 have bd14:Binds K fd14 ["self","filling"] []:=dL F14
 have T14:FnOk l.prog w K mg base CX0 1 f14 fd14 _ (cg K c d):=kz (c:=c) (d:=d) B FK_d_given F14
 have Au:MCal l.prog w K mg base d d.ok 1 "has_clues" ["self","filling"] (gd K c d):=⟨fun i hi=>by cases i; exact ⟨f14,_,cls_Puzzle,⟨a14_Puzzle,fn14,F14.kp⟩,(T14.mono (by decide)).imp (fun vs H Q E h=>h),bd14⟩⟩
 have yj:Cal l.prog w K mg base _ _ _ (aP K):=cW (ua B F15) F15 (PySem.W.mg_of X G a15)
 have zZ:Cal l.prog w K mg base _ _ _ (cm K):=jb (pZ B F16) F16 (PySem.W.mg_of X G a16)
 have zM:Cal l.prog w K mg base _ _ _ (b5 K):=cW (oP B F17) F17 (PySem.W.mg_of X G a17)
 have yw:Cal l.prog w K mg base _ _ _ (bA K):=cW (p5 B F18) F18 (PySem.W.mg_of X G a18)
 have Al:Cal l.prog w K mg base _ _ _ (cS K):=iK (rQ B F19) F19 (PySem.W.mg_of X G a19)
 have Am:Cal l.prog w K mg base _ _ _ (cT K):=cW (rR B F20) F20 (PySem.W.mg_of X G a20)
 have zO:Cal l.prog w K mg base _ _ _ (bJ K):=cW (oQ B F21) F21 (PySem.W.mg_of X G a21)
 have yq:Cal l.prog w K mg base _ _ _ (aZ K):=cW (lK B yL F22) F22 (PySem.W.mg_of X G a22)
 have zy:Cal l.prog w K mg base _ _ _ (cY K):=cW (vn B zg F23) F23 (PySem.W.mg_of X G a23)
 have An:Cal l.prog w K mg base _ _ _ (cO K):=cW (rS B zg F24) F24 (PySem.W.mg_of X G a24)
 have yP:Cal l.prog w K mg base _ _ _ (bq K c d):=jb (lc (c:=c) (d:=d) B zL yM yA F25) F25 (PySem.W.mg_of X G a25)
 have zh:Cal l.prog w K mg base _ _ _ (bH K):=jb (mD B Aj F26) F26 (PySem.W.mg_of X G a26)
 have zB:Cal l.prog w K mg base _ _ _ (bR K c d):=cW (n9 (c:=c) (d:=d) B zY yM yA F27) F27 (PySem.W.mg_of X G a27)
 have bd28:Binds K fd28 ["self","filling"] []:=dL F28
 have T28:FnOk l.prog w K mg base CX0 2 f28 fd28 _ (dt K c):=oe (c:=c) B yo F28
 have bd29:Binds K fd29 ["self","filling"] []:=dL F29
 have T29:FnOk l.prog w K mg base CX0 2 f29 fd29 _ (ga K c):=rT (c:=c) B FK_c_amount yo F29
 have bd30:Binds K fd30 ["self","filling"] []:=dL F30
 have T30:FnOk l.prog w K mg base CX0 2 f30 fd30 _ (dC K c):=og (c:=c) B yo F30
 have bd31:Binds K fd31 ["self","filling"] []:=dL F31
 have T31:FnOk l.prog w K mg base CX0 2 f31 fd31 _ (fi K c):=p6 (c:=c) B FK_c_amount yo F31
 have bd32:Binds K fd32 ["self","filling"] []:=dL F32
 have T32:FnOk l.prog w K mg base CX0 2 f32 fd32 _ (eo K c):=oR (c:=c) B FK_c_amount yr F32
 have yp:Cal l.prog w K mg base _ _ _ (be K):=iK (mE B Ak F33) F33 (PySem.W.mg_of X G a33)
 have yx:Cal l.prog w K mg base _ _ _ (bz K):=iK (p7 B yL yg F34) F34 (PySem.W.mg_of X G a34)
 have bd35:Binds K fd35 ["self"] []:=n4 F35
 have T35:FnOk l.prog w K mg base CX0 2 f35 fd35 _ (dA K c d):=oh (c:=c) (d:=d) B FK_d_laws B7 F35
 have BR:MCal l.prog w K mg base d d.ok 2 "lines" ["self"] (ki K c d):=⟨fun i hi=>by cases i; exact ⟨f35,_,cls_Puzzle,⟨a35_Puzzle,fn35,F35.kp⟩,(T35.mono (by decide)).imp (fun vs H Q E h=>h),bd35⟩⟩
 have yG:Cal l.prog w K mg base _ _ _ (bb K):=jb (kA B yj F36) F36 (PySem.W.mg_of X G a36)
 have Ap:Cal l.prog w K mg base _ _ _ (b6 K):=iK (rV B Al yw Am zM F37) F37 (PySem.W.mg_of X G a37)
 have zA:Cal l.prog w K mg base _ _ _ (bw K):=iK (oi B yj F38) F38 (PySem.W.mg_of X G a38)
 have Aq:Cal l.prog w K mg base _ _ _ (b8 K):=iK (rW B yj yw F39) F39 (PySem.W.mg_of X G a39)
 have zk:Cal l.prog w K mg base _ _ _ (bn K):=cW (sy B zZ F40) F40 (PySem.W.mg_of X G a40)
 have Ax:Cal l.prog w K mg base _ _ _ (dk K):=iK (sA B yq z4 zJ z5 F41) F41 (PySem.W.mg_of X G a41)
 have A7:Cal l.prog w K mg base _ _ _ (d7 K):=jb (ub B An yg Ao F42) F42 (PySem.W.mg_of X G a42)
 have Ai:Cal l.prog w K mg base _ _ _ (eB K):=iK (uc B zy F43) F43 (PySem.W.mg_of X G a43)
 have bd44:Binds K fd44 ["self","cells","cell"] []:=wa F44
 have FK_c_floor_Ring:FldK K (mk1 c .Ring) "floor":=⟨fun i hi=>by cases i with | Rule=>exact (Bool.false_ne_true hi).elim | Unlike=>exact (Bool.false_ne_true hi).elim | Sum=>exact (Bool.false_ne_true hi).elim | Rising=>exact (Bool.false_ne_true hi).elim | Seen=>exact (Bool.false_ne_true hi).elim | Count=>exact (Bool.false_ne_true hi).elim | Joined=>exact (Bool.false_ne_true hi).elim | NoSquare=>exact (Bool.false_ne_true hi).elim | Ring=>exact ⟨cls_Ring,yF⟩⟩
 have T44_Ring:FnOk l.prog w K mg base CX0 3 f44 _ ["self","cells","cell"] (bM K (mk1 c .Ring)):=jn (c:=(mk1 c .Ring)) B zy FK_c_floor_Ring F44
 have Av:MCal l.prog w K mg base (mk1 c .Ring) (mk1 c .Ring).ok 3 "has_two_beside" ["self","cells","cell"] (cF K (mk1 c .Ring)):=⟨fun i hi=>by cases i with | Rule=>exact (Bool.false_ne_true hi).elim | Unlike=>exact (Bool.false_ne_true hi).elim | Sum=>exact (Bool.false_ne_true hi).elim | Rising=>exact (Bool.false_ne_true hi).elim | Seen=>exact (Bool.false_ne_true hi).elim | Count=>exact (Bool.false_ne_true hi).elim | Joined=>exact (Bool.false_ne_true hi).elim | NoSquare=>exact (Bool.false_ne_true hi).elim | Ring=>exact ⟨f44,_,cls_Ring,⟨a44_Ring,fn44,F44.kp⟩,(T44_Ring.mono (by decide)).imp (fun vs H Q E h=>h),bd44⟩⟩
 have yN:Cal l.prog w K mg base _ _ _ (bi K):=iK (oj B yp F45) F45 (PySem.W.mg_of X G a45)
 have z6:Cal l.prog w K mg base _ _ _ (cn K):=cW (p8 B yg yp F46) F46 (PySem.W.mg_of X G a46)
 have A8:Cal l.prog w K mg base _ _ _ (d9 K c):=yb (ud (c:=c) B BP Bh Aw B8 Bi B9 K_Sum Bj F47) F47 (PySem.W.mg_of X G a47)
 have zi:Cal l.prog w K mg base _ _ _ (bG K):=cW (mF B yx F48) F48 (PySem.W.mg_of X G a48)
 have zP:Cal l.prog w K mg base _ _ _ (bI K):=jb (oS B yj zA Ap Aq yG F49) F49 (PySem.W.mg_of X G a49)
 have bd50:Binds K fd50 ["self","cells"] []:=dL F50
 have FK_c_floor_Joined:FldK K (mk1 c .Joined) "floor":=⟨fun i hi=>by cases i with | Rule=>exact (Bool.false_ne_true hi).elim | Unlike=>exact (Bool.false_ne_true hi).elim | Sum=>exact (Bool.false_ne_true hi).elim | Rising=>exact (Bool.false_ne_true hi).elim | Seen=>exact (Bool.false_ne_true hi).elim | Count=>exact (Bool.false_ne_true hi).elim | Joined=>exact ⟨cls_Joined,yu⟩ | NoSquare=>exact (Bool.false_ne_true hi).elim | Ring=>exact (Bool.false_ne_true hi).elim⟩
 have T50_Joined:FnOk l.prog w K mg base CX0 4 f50 _ ["self","cells"] (bC K (mk1 c .Joined)):=gn (c:=(mk1 c .Joined)) B Ai FK_c_floor_Joined F50
 have Bg:MCal l.prog w K mg base (mk1 c .Joined) (mk1 c .Joined).ok 4 "is_joined" ["self","cells"] (b9 K (mk1 c .Joined)):=⟨fun i hi=>by cases i with | Rule=>exact (Bool.false_ne_true hi).elim | Unlike=>exact (Bool.false_ne_true hi).elim | Sum=>exact (Bool.false_ne_true hi).elim | Rising=>exact (Bool.false_ne_true hi).elim | Seen=>exact (Bool.false_ne_true hi).elim | Count=>exact (Bool.false_ne_true hi).elim | Joined=>exact ⟨f50,_,cls_Joined,⟨a50_Joined,fn50,F50.kp⟩,(T50_Joined.mono (by decide)).imp (fun vs H Q E h=>⟨.Joined,h⟩),bd50⟩ | NoSquare=>exact (Bool.false_ne_true hi).elim | Ring=>exact (Bool.false_ne_true hi).elim⟩
 have T50_Ring:FnOk l.prog w K mg base CX0 4 f50 _ ["self","cells"] (bC K (mk1 c .Ring)):=gn (c:=(mk1 c .Ring)) B Ai FK_c_floor_Ring F50
 have BF:MCal l.prog w K mg base (mk1 c .Ring) (mk1 c .Ring).ok 4 "is_joined" ["self","cells"] (b9 K (mk1 c .Ring)):=⟨fun i hi=>by cases i with | Rule=>exact (Bool.false_ne_true hi).elim | Unlike=>exact (Bool.false_ne_true hi).elim | Sum=>exact (Bool.false_ne_true hi).elim | Rising=>exact (Bool.false_ne_true hi).elim | Seen=>exact (Bool.false_ne_true hi).elim | Count=>exact (Bool.false_ne_true hi).elim | Joined=>exact (Bool.false_ne_true hi).elim | NoSquare=>exact (Bool.false_ne_true hi).elim | Ring=>exact ⟨f50,_,cls_Ring,⟨a50_Ring,fn50,F50.kp⟩,(T50_Ring.mono (by decide)).imp (fun vs H Q E h=>⟨.Ring,h⟩),bd50⟩⟩
 have bd51:Binds K fd51 ["self","filling"] []:=dL F51
 have T51:FnOk l.prog w K mg base CX0 4 f51 fd51 _ (cI K c):=lL (c:=c) B Ar A7 FK_c_floor yr F51
 have Ay:Cal l.prog w K mg base _ _ _ (dj K):=iK (sB B yg z6 G_OF_ALL_CELLS F52) F52 (PySem.W.mg_of X G a52)
 have zj:Cal l.prog w K mg base _ _ _ (bF K):=jb (mG B Ax F53) F53 (PySem.W.mg_of X G a53)
 have bd54:Binds K fd54 ["self","filling"] []:=dL F54
 have T54_Joined:FnOk l.prog w K mg base CX0 5 f54 _ ["self","filling"] (dE K (mk1 c .Joined)):=ol (c:=(mk1 c .Joined)) B Bg BO F54
 have bd55:Binds K fd55 ["self","filling"] []:=dL F55
 have T55_Ring:FnOk l.prog w K mg base CX0 5 f55 _ ["self","filling"] (fk K (mk1 c .Ring)):=p9 (c:=(mk1 c .Ring)) B Av BF B6 F55
 have BQ:MCal l.prog w K mg base c c.ok 5 "holds" ["self","filling"] (bU K c):=⟨fun i hi=>by cases i with | Rule=>exact (Bool.false_ne_true hi).elim | Unlike=>exact ⟨f28,_,cls_Unlike,⟨a28_Unlike,fn28,F28.kp⟩,(T28.mono (by decide)).imp (fun vs H Q E h=>h),bd28⟩ | Sum=>exact ⟨f29,_,cls_Sum,⟨a29_Sum,fn29,F29.kp⟩,(T29.mono (by decide)).imp (fun vs H Q E h=>h),bd29⟩ | Rising=>exact ⟨f30,_,cls_Rising,⟨a30_Rising,fn30,F30.kp⟩,(T30.mono (by decide)).imp (fun vs H Q E h=>h),bd30⟩ | Seen=>exact ⟨f31,_,cls_Seen,⟨a31_Seen,fn31,F31.kp⟩,(T31.mono (by decide)).imp (fun vs H Q E h=>h),bd31⟩ | Count=>exact ⟨f32,_,cls_Count,⟨a32_Count,fn32,F32.kp⟩,(T32.mono (by decide)).imp (fun vs H Q E h=>h),bd32⟩ | Joined=>exact ⟨f54,_,cls_Joined,⟨a54_Joined,fn54,F54.kp⟩,(T54_Joined.mono (by decide)).imp (fun vs H Q E h=>by obtain ⟨r,p,f,ws,cs,xs,n,m,h,w,g,e,x,y⟩:=h; exact ⟨r,p,f,ws,cs,xs,n,m,h,w,g,e,⟨rfl,x.ex⟩,y⟩),bd54⟩ | NoSquare=>exact ⟨f51,_,cls_NoSquare,⟨a51_NoSquare,fn51,F51.kp⟩,(T51.mono (by decide)).imp (fun vs H Q E h=>h),bd51⟩ | Ring=>exact ⟨f55,_,cls_Ring,⟨a55_Ring,fn55,F55.kp⟩,(T55_Ring.mono (by decide)).imp (fun vs H Q E h=>by obtain ⟨r,p,f,ws,cs,xs,n,m,h,w,g,e,x,y⟩:=h; exact ⟨r,p,f,ws,cs,xs,n,m,h,w,g,e,⟨rfl,x.ex⟩,y⟩),bd55⟩⟩
 have At:Cal l.prog w K mg base _ _ _ (cR K c):=cW (rX (c:=c) B Ay yN A8 zN G_WITH_NUMBER G_WITH_SIGN F56) F56 (PySem.W.mg_of X G a56)
 have z8:Cal l.prog w K mg base _ _ _ (cp K c):=cW (qa (c:=c) B At z7 F57) F57 (PySem.W.mg_of X G a57)
 have bd58:Binds K fd58 ["self","filling"] []:=dL F58
 have T58:FnOk l.prog w K mg base CX0 6 f58 fd58 _ (dG K c d):=om (c:=c) (d:=d) B yx FK_d_floor FK_d_laws Au BQ F58
 have zX:MCal l.prog w K mg base d d.ok 6 "meets" ["self","filling"] (gu K c d):=⟨fun i hi=>by cases i; exact ⟨f58,_,cls_Puzzle,⟨a58_Puzzle,fn58,F58.kp⟩,(T58.mono (by decide)).imp (fun vs H Q E h=>h),bd58⟩⟩
 have zW:Cal l.prog w K mg base _ _ _ (dl K c d):=iK (sC (c:=c) (d:=d) B zh yP zB zX F59) F59 (PySem.W.mg_of X G a59)
 have bd60:Binds K fd60 ["self","floor","lines","clues"] []:=x0 F60
 have T60:FnOk l.prog w K mg base CX0 7 f60 fd60 _ (aW K c d):=li (c:=c) (d:=d) B zi zj z8 FK_d_floor FK_d_given FK_d_laws F60
 have Bl:KCal l.prog w K mg base _ "Puzzle" (d.A .Puzzle) _ (aW K c d):=⟨f60,_,⟨AX,AD,fn60,AY⟩,T60,PySem.W.mg_of X G Bp,bd60⟩
 have zK:Cal l.prog w K mg base 8 "answers" ["puzzle","most"] (bg K c d):=⟨f61,fd61,on (c:=c) (d:=d) B zW yg yA F61,PySem.W.mg_of X G a61,F61.kp,F61.binds (ps:=["puzzle","most"]) fun _ _ _ _ _ _ _ us hl=>match us,hl with | [_,_],_=>⟨_,rfl,rfl⟩⟩
 have CD_answers:CalD l.prog w K mg base 8 "answers" ["puzzle","most"] (bg K c d) [Value.int 2 td]:=⟨f61,fd61,on (c:=c) (d:=d) B zW yg yA F61,PySem.W.mg_of X G a61,F61.kp,FunD.bindsD (ps:=["puzzle","most"]) 1 rfl F61 fun _ _ _ _ _ _ _ us hl=>match us,hl with | [_],_=>⟨_,rfl,rfl⟩⟩
 have zl:Cal l.prog w K mg base _ _ _ (bu K c d):=cW (qb (c:=c) (d:=d) B zK CD_answers F62) F62 (PySem.W.mg_of X G a62)
 exact (xQ (c:=c) (d:=d) B zk zl yj zO zP zK yM BR zX Bl CD_answers F63).imp fun vs H Q E h=>by obtain ⟨a,ns,e,hS,hn,k⟩:=h; exact ⟨a,ns,e,hS,hn,fun k hk=>by cases k <;> first | rfl | exact absurd rfl hk,rfl,k⟩
theorem walk {l:PySem.W.OpenLaw} {q:Program} {loose:List Str} {XP:(Str→Option Value)→Heap→Prop} {YP:World→Heap→Prop} {d:DefRec} {K:Params→PySem.W.Frag} (hn:l.most=some 63) (hdf:d.params.defaults=[])
  (hY:∀ (w:World) (h:Heap),YP w h→(K w.params).In h)
  (F:∀ (w:World) (mg:Str→Option Value) (fa:Addr) (h:Heap),(K w.params).In h→h.Ns mainGlobals mg→mg d.name=some (.ref fa)→
   ∃ fd:FuncData,(∀ (s:Shared) (u:Value),BindsTo s fd ⟨[u],[]⟩ [("_law_script",u)])∧∀ base:Heap,(K w.params).In base→base.Ns mainGlobals mg→FnOk l.prog w (K w.params) mg base CX0 10 fa fd ["_law_script"] (oO (K w.params))):
  PySem.W.WalkO q loose XP YP l.row.toRowW d [] (fun f vs=>PySem.call f vs):=
 L2.wp (n:=63) (k:=10) (x:="_law_script") (CX:=fun _=>CX0) (sp:=fun w=>oO (K w.params)) hn (by decide) hdf ⟨rfl,by decide,by decide⟩ hY F (fun _ _ a ns hl _ hS=>⟨a,ns,rfl,hS,hl,fun _=>rfl⟩) fun _ _ _ _ _ z=>z
end L2
namespace PySem.W.Fast
def tw4796973977409274223:=()
def tw6579946311400041706:=()
def tw852883684561764258:=()
def tw17880522033362886816:=()
def tw16557326724014368478:=()
def tw4904005576052461203:=()
def tw13874938633182517200:=()
def tw11511843572701944075:=()
def tw17391971021995875340:=()
def tw8858648569112124490:=()
def tw2044473152926451512:=()
def tw16339784689248761068:=()
def tw15001565911707606217:=()
def tw9037988222274765339:=()
def tw14948399554719784185:=()
def tw12658975072766460512:=()
def tw6785832124922029971:=()
def tw11868091473019159138:=()
def tw5618075972569994182:=()
def tw4496865571820787436:=()
def tw14069376995448960361:=()
def tw10611975046876648528:=()
def tw16473215984583610031:=()
def tw8788811654819223269:=()
def tw5031494158748176429:=()
def tw16837026259575775109:=()
def tw557856979392808686:=()
def tw14818731061977881332:=()
def tw10560941738451077028:=()
def tw14311644887675119275:=()
def tw11007922175747493254:=()
def tw7508395719108994617:=()
def tw1236623030619427363:=()
def tw18092195729585105950:=()
def tw17906916092464735487:=()
def tw9997311976591292351:=()
def tw18314684272249656506:=()
def tw4667942566441809855:=()
def tw9454879288711480457:=()
def tw696157640606973480:=()
def tw16161361255497501356:=()
def tw13406725388283685751:=()
def tw15671122290359461355:=()
def tw4728573047509262495:=()
def tw13217260836068622557:=()
def tw5851190689585211580:=()
def tw1910656625564496434:=()
def tw17431049648827167614:=()
def tw2906657918707501244:=()
def tw6047100458890064301:=()
def tw3328083279562812567:=()
def tw3963939077932923544:=()
def tw5523229310298931576:=()
def tw9561190480023341743:=()
def tw7971137705438420801:=()
def tw552691408945277901:=()
def tw11955966098264488269:=()
def tw478800717199613146:=()
def tw2484040676663178205:=()
def tw7607080587809423688:=()
def tw1937452468848870100:=()
def tw16603371518359520896:=()
def tw14714807625452021095:=()
def tw6359381504698135341:=()
def tw15711839843075491600:=()
def tw8226565754006077813:=()
def tw16038554179882499439:=()
def tw5125099380205817077:=()
def tw16985579717613834246:=()
def tw6007977858654586852:=()
def tw7426354127819737122:=()
def tw2251508837391003990:=()
def tw16360112335616747230:=()
def tw14584912703481822693:=()
def tw5762369689690565811:=()
def tw13670036156048444731:=()
def tw17344540228360013879:=()
def tw2446304091938502655:=()
def tw317892189421792365:=()
def tw9279281118957924845:=()
def tw17180536966131155572:=()
def tw6940476707855978990:=()
def tw11351637660115221409:=()
def tw11701756193654054252:=()
def tw2708734268387300216:=()
def tw13419497756360981948:=()
def tw8239499824802153783:=()
def tw16772999539260972564:=()
def tw3346797392897358801:=()
def tw16990706087970674259:=()
def tw16945509529205754316:=()
def tw8714030057210178600:=()
def tw17463182729031322346:=()
def tw14534653639281971962:=()
def tw9887556719495788166:=()
def tw17723048714202199431:=()
def tw11234573361977263935:=()
def tw16519983187759741652:=()
def tw4064891190470987315:=()
def tw15124090942921351693:=()
def tw502983317064816316:=()
def tw17401497891319426000:=()
def tw2808171620217933778:=()
def tw4783591738616711010:=()
def tw1558029100018798636:=()
def tw14264909543274757428:=()
def tw6277052760548259707:=()
def tw4055456973952210426:=()
def tw13229033263148897728:=()
def tw16158216558673633699:=()
def tw14216466553945038454:=()
def tw2977472978531129845:=()
def tw4481955187751124786:=()
def tw4540539242848243068:=()
def tw13922345112362898507:=()
def tw9367573272516523771:=()
def tw7001794907937897466:=()
def tw9952641264491805455:=()
def tw9585071128223314080:=()
def tw4807263887757473168:=()
def tw5523710446023006860:=()
def tw6237283603146778147:=()
def tw7366664761901382772:=()
def tw16731902474857501823:=()
def tw4366720286792882961:=()
def tw13357935202803135870:=()
def tw8272071609623573499:=()
def tw7212555027681119367:=()
def tw5125393615924025005:=()
def tw1255571648389250799:=()
def tw730134768336464151:=()
def tw18127463797179482192:=()
def tw17287903887919038335:=()
def tw14486741356966001164:=()
def tw8057825865776297721:=()
def tw890793703200940305:=()
def tw13619922339670186964:=()
def tw17249920830581034306:=()
def tw13624565853882572435:=()
def tw15701878347058392218:=()
def tw9958682458056471412:=()
def tw6161658032992975917:=()
def tw11742766203751945086:=()
def tw8824967299205208846:=()
def tw1917818869447263452:=()
def tw3445428692347367662:=()
def tw1472349304175395785:=()
def tw3002460665102927022:=()
def tw13279476452697713236:=()
def tw7660321193889937973:=()
def tw14699718366648734350:=()
def tw1533059569947304990:=()
def tw16373775162347484284:=()
def tw10941463920641672134:=()
def tw7800976521033809375:=()
def tw4597865804817212229:=()
def tw11876885191001486198:=()
def tw4286825130891797:=()
def tw4401662956134078854:=()
def tw7974148573909531662:=()
def tw10807313918783737409:=()
def tw9777155604062322878:=()
def tw17855503036213751126:=()
def tw18229816644762800681:=()
def tw11671799220916277972:=()
def tw12286359646096639516:=()
def tw3431288878372964052:=()
def tw11017120237204488979:=()
def tw10834257716410033009:=()
def tw15461465212113498227:=()
def tw185387312651076992:=()
def tw16975350983655392094:=()
def tw6662495948685323336:=()
def tw10958888054943340726:=()
def tw9751064003905729329:=()
def tw1073750150547276934:=()
def tw3431670263700440237:=()
def tw6253644804825909168:=()
def tw1263055950768017628:=()
def tw17274071341323920465:=()
def tw7409972534718470788:=()
def tw1434538657222010264:=()
def tw13571470733114970162:=()
def tw14641633496304344149:=()
def tw11318542687703563738:=()
def tw14670919219733226395:=()
def tw11437899240942755627:=()
def tw11658102898811418682:=()
def tw9405158139109141254:=()
def tw16458905485638462238:=()
def tw7890495763420168584:=()
def tw3851208075196262623:=()
def tw10571019898544676608:=()
def tw3169620138483377298:=()
def tw11904878894631344723:=()
def tw13976029617029426557:=()
def tw10484300235586924282:=()
def tw4820885848079574015:=()
def tw14239067490402702034:=()
def tw10841287589078034832:=()
def tw4466973060218743510:=()
def tw1799864631542462664:=()
def tw2092021606337692186:=()
def tw3776030024653470884:=()
def tw5795346183847380573:=()
def tw10610367514927089645:=()
def tw16203885123016396212:=()
def tw13608406401966947690:=()
def tw14970073249788079717:=()
def tw13750461886131248633:=()
def tw5043681264272182462:=()
def tw2925299624776666579:=()
end PySem.W.Fast
open PySem PySem.W PyProof.Rows
set_option maxRecDepth 100000 in
set_option maxHeartbeats 0 in
theorem PySem.Challenge.cw_cluemaker_k46_all_answers_holds : PySem.Challenge.rw_cluemaker_k46_all_answers.Holds := by
  w_on; o_law; k_head; (case hw => w_witness2)
  k_fill
  refine L2.walk (l := PySem.Challenge.rw_cluemaker_k46_all_answers) rfl rfl (fun w h Y => PySem.W.kIn_of Y) ?F
  case F =>
    intro w mg fa h KX G hmg
    refine' L2.xR KX G hmg ?Bm ?q_Sum ?Bn ?Ch ?BY ?Bo ?Az ?Ci ?Bp ?a0 ?a1 ?a2 ?a3 ?a4 ?a5 ?a6 ?AA ?BZ ?AB ?Bq ?A9 ?AC ?Aa ?Br ?a8_Unlike ?a8_Sum ?a8_Rising ?a8_Seen ?a8_Count ?a8_Joined ?a8_NoSquare ?a8_Ring ?a9_Unlike ?a9_Sum ?a9_Rising ?a9_Seen ?a9_Count ?a9_Joined ?a9_NoSquare ?a9_Ring ?a10_Unlike ?a10_Sum ?a10_Rising ?a10_Seen ?a10_Count ?a10_Joined ?a10_NoSquare ?a10_Ring ?a11 ?a12_Puzzle ?a13_Puzzle ?a14_Puzzle ?a15 ?a16 ?a17 ?a18 ?a19 ?a20 ?a21 ?a22 ?a23 ?a24 ?a25 ?a26 ?a27 ?a28_Unlike ?a29_Sum ?a30_Rising ?a31_Seen ?a32_Count ?a33 ?a34 ?a35_Puzzle ?a36 ?a37 ?a38 ?a39 ?a40 ?a41 ?a42 ?a43 ?a44_Ring ?a45 ?a46 ?a47 ?a48 ?a49 ?a50_Joined ?a50_Ring ?a51_NoSquare ?a52 ?a53 ?a54_Joined ?a55_Ring ?a56 ?a57 ?a58_Puzzle ?a59 ?AD ?a61 ?a62 ?a63 ?F0 ?F1 ?F2 ?F3 ?F4 ?F5 ?F6 ?F7 ?fn7 ?F8 ?fn8 ?F9 ?fn9 ?F10 ?fn10 ?F11 ?F12 ?fn12 ?F13 ?fn13 ?F14 ?fn14 ?F15 ?F16 ?F17 ?F18 ?F19 ?F20 ?F21 ?F22 ?F23 ?F24 ?F25 ?F26 ?F27 ?F28 ?fn28 ?F29 ?fn29 ?F30 ?fn30 ?F31 ?fn31 ?F32 ?fn32 ?F33 ?F34 ?F35 ?fn35 ?F36 ?F37 ?F38 ?F39 ?F40 ?F41 ?F42 ?F43 ?F44 ?fn44 ?F45 ?F46 ?F47 ?F48 ?F49 ?F50 ?fn50 ?F51 ?fn51 ?F52 ?F53 ?F54 ?fn54 ?F55 ?fn55 ?F56 ?F57 ?F58 ?fn58 ?F59 ?F60 ?fn60 ?F61 ?F62 ?F63 ?AE ?AF ?AG ?AH ?AI ?AJ ?B0 ?B1 ?B2 ?B3 ?B4 ?B5 ?AK ?AL ?AM ?AN ?AO ?AQ ?Bs ?Bu ?Bv ?Bw ?Bx ?By ?Ba ?Bb ?Bc ?Bd ?Be ?Bf ?AR ?AS ?AT ?AU ?AV ?AW ?Ab ?Ac ?Ad ?Ae ?Af ?Ag ?Bz ?BA ?BB ?BC ?BD ?BE ?AX ?AY ?AZ ?A2 ?A3 ?A4 ?yH ?zn ?yI ?y0 ?yQ ?yJ ?yy ?y7 ?yR ?zD ?yS ?zo ?y8 ?yt ?yB ?yE ?yT ?zE ?yU ?zp ?y9 ?yu ?yC ?yF ?za ?zQ ?zb ?zF ?zq ?yz ?yK ?yO ?yV ?zG ?yW ?zr ?zc ?yX ?yD ?zt ?yY ?yZ ?zd ?ze ?zf ?zu ?zv ?zR ?zS ?A5 ?zT ?zw ?zH ?zI ?zU ?Ah ?zV ?z_len ?z_abs ?z_min ?z_max ?z_sorted ?z_any ?z_isinstance ?z_list ?z_int ?z_bool ?z_str ?z_tuple ?z_reversed ?z_set ?z_range ?z_zip ?z_all ?z_sum ?z_enumerate
    (case Bm => k_is)
    (case q_Sum => k_is)
    (case Bn => k_is)
    (case Ch => k_is)
    (case BY => k_is)
    (case Bo => k_is)
    (case Az => k_is)
    (case Ci => k_is)
    (case Bp => k_is)
    (case a0 => k_is)
    (case a1 => k_is)
    (case a2 => k_is)
    (case a3 => k_is)
    (case a4 => k_is)
    (case a5 => k_is)
    (case a6 => k_is)
    (case AA => k_is)
    (case BZ => k_is)
    (case AB => k_is)
    (case Bq => k_is)
    (case A9 => k_is)
    (case AC => k_is)
    (case Aa => k_is)
    (case Br => k_is)
    (case a8_Unlike => k_is)
    (case a8_Sum => k_is)
    (case a8_Rising => k_is)
    (case a8_Seen => k_is)
    (case a8_Count => k_is)
    (case a8_Joined => k_is)
    (case a8_NoSquare => k_is)
    (case a8_Ring => k_is)
    (case a9_Unlike => k_is)
    (case a9_Sum => k_is)
    (case a9_Rising => k_is)
    (case a9_Seen => k_is)
    (case a9_Count => k_is)
    (case a9_Joined => k_is)
    (case a9_NoSquare => k_is)
    (case a9_Ring => k_is)
    (case a10_Unlike => k_is)
    (case a10_Sum => k_is)
    (case a10_Rising => k_is)
    (case a10_Seen => k_is)
    (case a10_Count => k_is)
    (case a10_Joined => k_is)
    (case a10_NoSquare => k_is)
    (case a10_Ring => k_is)
    (case a11 => k_is)
    (case a12_Puzzle => k_is)
    (case a13_Puzzle => k_is)
    (case a14_Puzzle => k_is)
    (case a15 => k_is)
    (case a16 => k_is)
    (case a17 => k_is)
    (case a18 => k_is)
    (case a19 => k_is)
    (case a20 => k_is)
    (case a21 => k_is)
    (case a22 => k_is)
    (case a23 => k_is)
    (case a24 => k_is)
    (case a25 => k_is)
    (case a26 => k_is)
    (case a27 => k_is)
    (case a28_Unlike => k_is)
    (case a29_Sum => k_is)
    (case a30_Rising => k_is)
    (case a31_Seen => k_is)
    (case a32_Count => k_is)
    (case a33 => k_is)
    (case a34 => k_is)
    (case a35_Puzzle => k_is)
    (case a36 => k_is)
    (case a37 => k_is)
    (case a38 => k_is)
    (case a39 => k_is)
    (case a40 => k_is)
    (case a41 => k_is)
    (case a42 => k_is)
    (case a43 => k_is)
    (case a44_Ring => k_is)
    (case a45 => k_is)
    (case a46 => k_is)
    (case a47 => k_is)
    (case a48 => k_is)
    (case a49 => k_is)
    (case a50_Joined => k_is)
    (case a50_Ring => k_is)
    (case a51_NoSquare => k_is)
    (case a52 => k_is)
    (case a53 => k_is)
    (case a54_Joined => k_is)
    (case a55_Ring => k_is)
    (case a56 => k_is)
    (case a57 => k_is)
    (case a58_Puzzle => k_is)
    (case a59 => k_is)
    (case AD => k_is)
    (case a61 => k_is)
    (case a62 => k_is)
    (case a63 => k_is)
    (case F0 => (refine' L2.aw ?l ?c ?k; (case l => k_is); (case c => k_is); case k => k_is))
    (case F1 => (refine' L2.aw ?l ?c ?k; (case l => k_is); (case c => k_is); case k => k_is))
    (case F2 => (refine' L2.aw ?l ?c ?k; (case l => k_is); (case c => k_is); case k => k_is))
    (case F3 => (refine' L2.aw ?l ?c ?k; (case l => k_is); (case c => k_is); case k => k_is))
    (case F4 => (refine' L2.aw ?l ?c ?k; (case l => k_is); (case c => k_is); case k => k_is))
    (case F5 => (refine' L2.aw ?l ?c ?k; (case l => k_is); (case c => k_is); case k => k_is))
    (case F6 => (refine' L2.aw ?l ?c ?k; (case l => k_is); (case c => k_is); case k => k_is))
    (case F7 => (refine' L2.aw ?l ?c ?k; (case l => k_is); (case c => k_is); case k => k_is))
    (case fn7 => k_is)
    (case F8 => (refine' L2.aw ?l ?c ?k; (case l => k_is); (case c => k_is); case k => k_is))
    (case fn8 => k_is)
    (case F9 => (refine' L2.aw ?l ?c ?k; (case l => k_is); (case c => k_is); case k => k_is))
    (case fn9 => k_is)
    (case F10 => (refine' L2.aw ?l ?c ?k; (case l => k_is); (case c => k_is); case k => k_is))
    (case fn10 => k_is)
    (case F11 => (refine' L2.aw ?l ?c ?k; (case l => k_is); (case c => k_is); case k => k_is))
    (case F12 => (refine' L2.aw ?l ?c ?k; (case l => k_is); (case c => k_is); case k => k_is))
    (case fn12 => k_is)
    (case F13 => (refine' L2.aw ?l ?c ?k; (case l => k_is); (case c => k_is); case k => k_is))
    (case fn13 => k_is)
    (case F14 => (refine' L2.aw ?l ?c ?k; (case l => k_is); (case c => k_is); case k => k_is))
    (case fn14 => k_is)
    (case F15 => (refine' L2.aw ?l ?c ?k; (case l => k_is); (case c => k_is); case k => k_is))
    (case F16 => (refine' L2.aw ?l ?c ?k; (case l => k_is); (case c => k_is); case k => k_is))
    (case F17 => (refine' L2.aw ?l ?c ?k; (case l => k_is); (case c => k_is); case k => k_is))
    (case F18 => (refine' L2.aw ?l ?c ?k; (case l => k_is); (case c => k_is); case k => k_is))
    (case F19 => (refine' L2.aw ?l ?c ?k; (case l => k_is); (case c => k_is); case k => k_is))
    (case F20 => (refine' L2.aw ?l ?c ?k; (case l => k_is); (case c => k_is); case k => k_is))
    (case F21 => (refine' L2.aw ?l ?c ?k; (case l => k_is); (case c => k_is); case k => k_is))
    (case F22 => (refine' L2.aw ?l ?c ?k; (case l => k_is); (case c => k_is); case k => k_is))
    (case F23 => (refine' L2.aw ?l ?c ?k; (case l => k_is); (case c => k_is); case k => k_is))
    (case F24 => (refine' L2.aw ?l ?c ?k; (case l => k_is); (case c => k_is); case k => k_is))
    (case F25 => (refine' L2.aw ?l ?c ?k; (case l => k_is); (case c => k_is); case k => k_is))
    (case F26 => (refine' L2.aw ?l ?c ?k; (case l => k_is); (case c => k_is); case k => k_is))
    (case F27 => (refine' L2.aw ?l ?c ?k; (case l => k_is); (case c => k_is); case k => k_is))
    (case F28 => (refine' L2.aw ?l ?c ?k; (case l => k_is); (case c => k_is); case k => k_is))
    (case fn28 => k_is)
    (case F29 => (refine' L2.aw ?l ?c ?k; (case l => k_is); (case c => k_is); case k => k_is))
    (case fn29 => k_is)
    (case F30 => (refine' L2.aw ?l ?c ?k; (case l => k_is); (case c => k_is); case k => k_is))
    (case fn30 => k_is)
    (case F31 => (refine' L2.aw ?l ?c ?k; (case l => k_is); (case c => k_is); case k => k_is))
    (case fn31 => k_is)
    (case F32 => (refine' L2.aw ?l ?c ?k; (case l => k_is); (case c => k_is); case k => k_is))
    (case fn32 => k_is)
    (case F33 => (refine' L2.aw ?l ?c ?k; (case l => k_is); (case c => k_is); case k => k_is))
    (case F34 => (refine' L2.aw ?l ?c ?k; (case l => k_is); (case c => k_is); case k => k_is))
    (case F35 => (refine' L2.aw ?l ?c ?k; (case l => k_is); (case c => k_is); case k => k_is))
    (case fn35 => k_is)
    (case F36 => (refine' L2.aw ?l ?c ?k; (case l => k_is); (case c => k_is); case k => k_is))
    (case F37 => (refine' L2.aw ?l ?c ?k; (case l => k_is); (case c => k_is); case k => k_is))
    (case F38 => (refine' L2.aw ?l ?c ?k; (case l => k_is); (case c => k_is); case k => k_is))
    (case F39 => (refine' L2.aw ?l ?c ?k; (case l => k_is); (case c => k_is); case k => k_is))
    (case F40 => (refine' L2.aw ?l ?c ?k; (case l => k_is); (case c => k_is); case k => k_is))
    (case F41 => (refine' L2.aw ?l ?c ?k; (case l => k_is); (case c => k_is); case k => k_is))
    (case F42 => (refine' L2.aw ?l ?c ?k; (case l => k_is); (case c => k_is); case k => k_is))
    (case F43 => (refine' L2.aw ?l ?c ?k; (case l => k_is); (case c => k_is); case k => k_is))
    (case F44 => (refine' L2.aw ?l ?c ?k; (case l => k_is); (case c => k_is); case k => k_is))
    (case fn44 => k_is)
    (case F45 => (refine' L2.aw ?l ?c ?k; (case l => k_is); (case c => k_is); case k => k_is))
    (case F46 => (refine' L2.aw ?l ?c ?k; (case l => k_is); (case c => k_is); case k => k_is))
    (case F47 => (refine' L2.aw ?l ?c ?k; (case l => k_is); (case c => k_is); case k => k_is))
    (case F48 => (refine' L2.aw ?l ?c ?k; (case l => k_is); (case c => k_is); case k => k_is))
    (case F49 => (refine' L2.aw ?l ?c ?k; (case l => k_is); (case c => k_is); case k => k_is))
    (case F50 => (refine' L2.aw ?l ?c ?k; (case l => k_is); (case c => k_is); case k => k_is))
    (case fn50 => k_is)
    (case F51 => (refine' L2.aw ?l ?c ?k; (case l => k_is); (case c => k_is); case k => k_is))
    (case fn51 => k_is)
    (case F52 => (refine' L2.aw ?l ?c ?k; (case l => k_is); (case c => k_is); case k => k_is))
    (case F53 => (refine' L2.aw ?l ?c ?k; (case l => k_is); (case c => k_is); case k => k_is))
    (case F54 => (refine' L2.aw ?l ?c ?k; (case l => k_is); (case c => k_is); case k => k_is))
    (case fn54 => k_is)
    (case F55 => (refine' L2.aw ?l ?c ?k; (case l => k_is); (case c => k_is); case k => k_is))
    (case fn55 => k_is)
    (case F56 => (refine' L2.aw ?l ?c ?k; (case l => k_is); (case c => k_is); case k => k_is))
    (case F57 => (refine' L2.aw ?l ?c ?k; (case l => k_is); (case c => k_is); case k => k_is))
    (case F58 => (refine' L2.aw ?l ?c ?k; (case l => k_is); (case c => k_is); case k => k_is))
    (case fn58 => k_is)
    (case F59 => (refine' L2.aw ?l ?c ?k; (case l => k_is); (case c => k_is); case k => k_is))
    (case F60 => (refine' L2.aw ?l ?c ?k; (case l => k_is); (case c => k_is); case k => k_is))
    (case fn60 => k_is)
    (case F61 => (refine' L2.wL ?l ?c ?k ?d; (case l => k_is); (case c => k_is); (case k => k_is); case d => k_is))
    (case F62 => (refine' L2.aw ?l ?c ?k; (case l => k_is); (case c => k_is); case k => k_is))
    (case F63 => (refine' L2.aw ?l ?c ?k; (case l => k_is); (case c => k_is); case k => k_is))
    (case AE => k_is)
    (case AF => k_is)
    (case AG => k_is)
    (case AH => k_is)
    (case AI => k_is)
    (case AJ => k_is)
    (case B0 => k_is)
    (case B1 => k_is)
    (case B2 => k_is)
    (case B3 => k_is)
    (case B4 => k_is)
    (case B5 => k_is)
    (case AK => k_is)
    (case AL => k_is)
    (case AM => k_is)
    (case AN => k_is)
    (case AO => k_is)
    (case AQ => k_is)
    (case Bs => k_is)
    (case Bu => k_is)
    (case Bv => k_is)
    (case Bw => k_is)
    (case Bx => k_is)
    (case By => k_is)
    (case Ba => k_is)
    (case Bb => k_is)
    (case Bc => k_is)
    (case Bd => k_is)
    (case Be => k_is)
    (case Bf => k_is)
    (case AR => k_is)
    (case AS => k_is)
    (case AT => k_is)
    (case AU => k_is)
    (case AV => k_is)
    (case AW => k_is)
    (case Ab => k_is)
    (case Ac => k_is)
    (case Ad => k_is)
    (case Ae => k_is)
    (case Af => k_is)
    (case Ag => k_is)
    (case Bz => k_is)
    (case BA => k_is)
    (case BB => k_is)
    (case BC => k_is)
    (case BD => k_is)
    (case BE => k_is)
    (case AX => k_is)
    (case AY => k_is)
    (case AZ => k_is)
    (case A2 => k_is)
    (case A3 => k_is)
    (case A4 => k_is)
    (case yH => k_is)
    (case zn => k_is)
    (case yI => k_is)
    (case y0 => k_is)
    (case yQ => k_is)
    (case yJ => k_is)
    (case yy => k_is)
    (case y7 => k_is)
    (case yR => k_is)
    (case zD => k_is)
    (case yS => k_is)
    (case zo => k_is)
    (case y8 => k_is)
    (case yt => k_is)
    (case yB => k_is)
    (case yE => k_is)
    (case yT => k_is)
    (case zE => k_is)
    (case yU => k_is)
    (case zp => k_is)
    (case y9 => k_is)
    (case yu => k_is)
    (case yC => k_is)
    (case yF => k_is)
    (case za => k_is)
    (case zQ => k_is)
    (case zb => k_is)
    (case zF => k_is)
    (case zq => k_is)
    (case yz => k_is)
    (case yK => k_is)
    (case yO => k_is)
    (case yV => k_is)
    (case zG => k_is)
    (case yW => k_is)
    (case zr => k_is)
    (case zc => k_is)
    (case yX => k_is)
    (case yD => k_is)
    (case zt => k_is)
    (case yY => k_is)
    (case yZ => k_is)
    (case zd => k_is)
    (case ze => k_is)
    (case zf => k_is)
    (case zu => k_is)
    (case zv => k_is)
    (case zR => k_is)
    (case zS => k_is)
    (case A5 => k_is)
    (case zT => k_is)
    (case zw => k_is)
    (case zH => k_is)
    (case zI => k_is)
    (case zU => k_is)
    (case Ah => k_is)
    (case zV => k_is)
    (case z_len => k_is)
    (case z_abs => k_is)
    (case z_min => k_is)
    (case z_max => k_is)
    (case z_sorted => k_is)
    (case z_any => k_is)
    (case z_isinstance => k_is)
    (case z_list => k_is)
    (case z_int => k_is)
    (case z_bool => k_is)
    (case z_str => k_is)
    (case z_tuple => k_is)
    (case z_reversed => k_is)
    (case z_set => k_is)
    (case z_range => k_is)
    (case z_zip => k_is)
    (case z_all => k_is)
    (case z_sum => k_is)
    (case z_enumerate => k_is)
