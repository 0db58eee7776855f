import PyProof.Rows.All
import Wide.All
import OpenK.AllK
import Wide.FinOn
import Lean
import PyProof.EqAt
import PyProof.EqKinds
import PyProof.TupleCall
import PyProof.ZipIter
import PyProof.ConsumeS
import PyProof.StrCalls2
import PyProof.StrWalks
import PyProof.SliceStr2
import PyProof.StrBlock
import PyProof.StrBlockL
import PyProof.ListIndex
import PyProof.StrLawsTight
import PyProof.StrLawsChain
import PyProof.StrLaws
import PyProof.StrLawsFirst
import PyProof.StationsW
import PyProof.ExcClass3
import PyProof.NsDelKeeps
import PyProof.RulesAs
import PyProof.ExcBaseAll.ValueError
import PyProof.ExcArgsOwn
import PyProof.ExcAttrAll.ValueError
import KE.KTryMore
import KE.RegKTryMore
import KE.RegKIsAll
import PyProof.Rows.Range3
import PyProof.Rows.SumGenD
import PyProof.Rows.RuleM_int
import PyProof.EnumMake
import PyProof.EnumFor
import PyProof.EnumStmt
import PyProof.Rows.EnumRows
import KE.KRevIter
import PyProof.ListNew
import PyProof.CollectIter
import PyProof.ListRange
import PyProof.CallStr
import PyProof.StrBlock2
import PyProof.Rows.StrMadeLen
import PyProof.Rows.SetFrom
import PyProof.SetRoads
import PyProof.MeetsStr2
import KE.KRevSl
import PyProof.Conv_int
import PyProof.Rows.SeqMore
import PySem.Challenge.RW_cluemaker_k47_too_many_floors
set_option Elab.async false
set_option linter.all false
set_option maxRecDepth 100000
namespace L2
open PySem PySem.Spec PyProof.Rows
abbrev Key:=Sum Int Str
def keyIs:Key→Value→Bool
 | .inl k,v=>Value.isInt k v
 | .inr x,v=>Value.isStrOf x v
def keyH (w:World):Key→Int
 | .inl k=>hashInt k
 | .inr x=>hashStr w x
theorem bC:∀ {k:Key} {v:Value},keyIs k v=true→(∃ i t,k=Sum.inl i∧v=Value.int i t)∨(∃ x t,k=Sum.inr x∧v=Value.str x t)
 | .inl i,v,h=>by
  obtain ⟨t,e⟩:=Value.isInt_shape (k:=i) (v:=v) h
  exact .inl ⟨i,t,rfl,e⟩
 | .inr x,v,h=>by
  obtain ⟨t,e⟩:=Value.isStrOf_shape (x:=x) (v:=v) h
  exact .inr ⟨x,t,rfl,e⟩
theorem sy (i:Int) (t:Tok):keyIs (.inl i) (.int i t)=true:=by simp [keyIs,Value.isInt]
theorem sB (x:Str) (t:Tok):keyIs (.inr x) (.str x t)=true:=by simp [keyIs,Value.isStrOf]
theorem vR (a b:Int):decide ((Sum.inl a:Key)=Sum.inl b)=(a==b):=by
 by_cases e:a=b
 · subst e; simp
 · have h:¬ (Sum.inl a:Key)=Sum.inl b:=fun q=>e (Sum.inl.inj q)
   rw [decide_eq_false h]
   exact (beq_eq_false_iff_ne.mpr e).symm
theorem vS (a b:Str):decide ((Sum.inr a:Key)=Sum.inr b)=decide (a=b):=by
 by_cases e:a=b
 · subst e; simp
 · have h:¬ (Sum.inr a:Key)=Sum.inr b:=fun q=>e (Sum.inr.inj q)
   rw [decide_eq_false h,decide_eq_false e]
theorem vT (a:Int) (b:Str):decide ((Sum.inl a:Key)=Sum.inr b)=false:=decide_eq_false (fun q=>nomatch q)
theorem vU (a:Str) (b:Int):decide ((Sum.inr a:Key)=Sum.inl b)=false:=decide_eq_false (fun q=>nomatch q)
def cR (prog:Program) (w:World):PySem.KeyKind prog w Key where
 is:=keyIs
 hash:=keyH w
 inj:=fun v a b ha hb=>by
  rcases bC ha with ⟨i,t,rfl,rfl⟩ | ⟨x,t,rfl,rfl⟩
  · rcases bC hb with ⟨j,u,rfl,e⟩ | ⟨y,u,rfl,e⟩
    · injection e with e1 _; rw [e1]
    · exact nomatch e
  · rcases bC hb with ⟨j,u,rfl,e⟩ | ⟨y,u,rfl,e⟩
    · exact nomatch e
    · injection e with e1 _; rw [e1]
 byValue:=fun k v h=>by
  rcases bC h with ⟨i,t,rfl,rfl⟩ | ⟨x,t,rfl,rfl⟩ <;> rfl
 pyHash:=fun hv h=>by
  rcases bC hv with ⟨i,t,rfl,rfl⟩ | ⟨x,t,rfl,rfl⟩
  · exact wpAny_pyHash_int h
  · exact wpAny_pyHash_str h
 eqBool:=fun hu hv h=>by
  rcases bC hu with ⟨i,t,rfl,rfl⟩ | ⟨x,t,rfl,rfl⟩
  · rcases bC hv with ⟨j,u,rfl,rfl⟩ | ⟨y,u,rfl,rfl⟩
    · rw [vR] at h; exact wpAny_eqBool_int h
    · rw [vT] at h; exact SeqAt.EqAt.int_str i t y u _ _ _ _ h
  · rcases bC hv with ⟨j,u,rfl,rfl⟩ | ⟨y,u,rfl,rfl⟩
    · rw [vU] at h; exact SeqAt.EqAt.str_int x t j u _ _ _ _ h
    · rw [vS] at h; exact wpAny_eqBool_str h
 «strs»:=fun k x t v h=>by
  rcases bC h with ⟨i,u,rfl,e⟩ | ⟨y,u,rfl,e⟩
  · exact nomatch e
  · injection e with e1 _
    subst e1
    cases v <;> rfl
theorem qH (prog:Program) (w:World) (i:Int) (t:Tok):(cR prog w).is (.inl i) (.int i t)=true:=sy i t
theorem qI (prog:Program) (w:World) (x:Str) (t:Tok):(cR prog w).is (.inr x) (.str x t)=true:=sB x t
end L2
namespace L2
open PySem PySem.Spec PyProof.Rows
inductive V where
 | non | bl (b:Bool) | int (i:Int) | str (x:Str) | byt (b:Array UInt8) | flt (b:UInt64) | ref (a:Addr) | ty (n:String)
 deriving DecidableEq
def RelV:V→Value→Prop
 | .non,u=>u=Value.none
 | .bl b,u=>u=Value.bool b
 | .int i,u=>∃ t,u=Value.int i t
 | .str x,u=>∃ t,u=Value.str x t
 | .byt b,u=>∃ t,u=Value.bytes b t
 | .flt b,u=>∃ t,u=Value.float b t
 | .ref a,u=>u=Value.ref a
 | .ty n,u=>u=Value.type n
abbrev Vals:List V→List Value→Prop:=Paired RelV
theorem Vals.length {xs:List V} {us:List Value} (r:Vals xs us):xs.length=us.length:=Paired.length r
theorem Vals.get:∀ {xs:List V} {us:List Value} {i:Nat} {x:V},Vals xs us→xs[i]? =some x→∃ u,us[i]? =some u∧RelV x u
 | _,_,_,_,.nil,e=>by simp at e
 | _,_,0,_,.cons r _,e=>by simp at e; subst e; exact ⟨_,rfl,r⟩
 | _,_,i+1,x,.cons _ t,e=>by
  obtain ⟨u,h1,h2⟩:=Vals.get (i:=i) (x:=x) t (by simpa using e)
  exact ⟨u,by simpa using h1,h2⟩
theorem Vals.append:∀ {xs ys:List V} {us ws:List Value},Vals xs us→Vals ys ws→Vals (xs++ys) (us++ws)
 | _,_,_,_,.nil,s=>s
 | _,_,_,_,.cons r t,s=>.cons r (Vals.append t s)
theorem Vals.take:∀ {xs:List V} {us:List Value} (n:Nat),Vals xs us→Vals (xs.take n) (us.take n)
 | _,_,0,_=>.nil
 | _,_,_+1,.nil=>.nil
 | _,_,n+1,.cons r t=>.cons r (Vals.take n t)
theorem Vals.drop:∀ {xs:List V} {us:List Value} (n:Nat),Vals xs us→Vals (xs.drop n) (us.drop n)
 | _,_,0,r=>r
 | _,_,_+1,.nil=>.nil
 | _,_,n+1,.cons _ t=>Vals.drop n t
def RelO:Option V→Option Value→Prop
 | some v,some u=>RelV v u
 | none,none=>True
 | _,_=>False
def KV {κ:Type}:List (κ × V)→List (κ × Value)→Prop:=Paired fun (p:κ × V) (q:κ × Value)=>p.1=q.1∧RelV p.2 q.2
def kV:Key→V
 | .inl i=>.int i
 | .inr x=>.str x
inductive HO where
  | lst (xs:List V)
  | tup (xs:List V)
  | dK (kvs:List (Key × V)) | dT (kvs:List (List Key × V))
  | set (S:Int→Bool) (n:Nat)
  | ins (C dx:Addr) (fs:List (Str × V))
  | own (x:Addr)
  | xd (fs:List (Str × V))
  | met (f x:Addr)
  | rng (lo hi:Int)
  | frz (o:Obj) (u:HO)
  | tbl (ps:Array Value)
  | ext (φ:Heap→Prop)
abbrev Hp:=Addr→Option HO
def upd (H:Hp) (a:Addr) (o:HO):Hp:=fun b=>if b=a then some o else H b
theorem ae {H:Hp} {a:Addr} {o:HO}:upd H a o a=some o:=by unfold upd; rw [if_pos rfl]
theorem ai {H:Hp} {a b:Addr} {o:HO} (h:b≠a):upd H a o b=H b:=by unfold upd; rw [if_neg h]
theorem au {H:Hp} {a b:Addr} {o:HO} (h:H a=some o) (h':H b=none):a≠b:=by
 intro e; subst e; rw [h] at h'; cases h'
section
variable (P:Program) (w:World)
def ObjOk (H:Hp) (h:Heap) (a:Addr):HO→Prop
 | .lst xs=>xs.length≤sizeLine∧∃ (its:List Value) (n:Nat),Vals xs its∧h.get? a=some { cls:=.type "list",data:=.seq its.toArray n }
 | .tup xs=>xs.length≤sizeLine∧∃ its:List Value,Vals xs its∧IsTup h a its.toArray
 | .dK kvs=>kvs.length≤sizeLine∧(a==sysModules)=false∧∃ vs,KV kvs vs∧h.DictOf (cR P w) a vs
 | .dT kvs=>kvs.length≤sizeLine∧(a==sysModules)=false∧∃ xs:List (List Key × Addr × Value),
   Paired (fun (p:List Key × V) (q:List Key × Addr × Value)=>p.1=q.1∧H q.2.1=some (.tup (p.1.map kV))∧RelV p.2 q.2.2) kvs xs∧
   ∃ o es ep,h.get? a=some o∧o.ExactDict∧o.data=.dict es ep∧es.toList=xs.map (entryOfKey (tupleKind (cR P w)))∧(xs.map (·.1)).Nodup
 | .set S n=>h.SetOf (intKind P w) a S n
 | .ins C dx fs=>H dx=some (.own a)∧fs.length≤1000∧dx≠a∧h.get? a=some (PySem.W.instObj C dx)∧
   ∃ mA,h.Ns1 dx mA∧(∀ f,RelO (fs.lookup f) (mA f))∧PySem.Within mA (fs.map (·.1))
 | .own _=>∃ o,h.get? a=some o
 | .xd fs=>∃ mA,h.Ns1 a mA∧∀ f,RelO (fs.lookup f) (mA f)
 | .rng lo hi=>∃ t u v,h.get? a=some { cls:=.type "range",data:=.fields #[.int lo t,.int hi u,.int 1 v] }
 | .frz o u=>h.get? a=some o∧ObjOk H h a u
 | .tbl ps=>h.get? a=some { cls:=.none,data:=.fields ps }
 | .met f x=>h.get? a=some (PySem.W.methodObj (.ref f) (.ref x))
 | .ext φ=>φ h∧(∃ o,h.get? a=some o)∧∀ h1 h2:Heap,φ h1→(∀ o,h1.get? a=some o→h2.get? a=some o)→φ h2
def HOk (H:Hp) (h:Heap):Prop:=∀ a o,H a=some o→ObjOk P w H h a o
end
section
variable {P:Program} {w:World} {H H':Hp} {h h':Heap} {a:Addr} {o:HO}
theorem ObjOk.lt (x:ObjOk P w H h a o):a < h.objs.size:=by
 cases o with
 | lst xs=>obtain ⟨_,_,_,_,e⟩:=x; exact Heap.lt_size e
 | tup xs=>obtain ⟨_,_,_,p⟩:=x; exact p.lt
 | dK kvs=>obtain ⟨_,_,_,_,o,_,_,e,_⟩:=x; exact Heap.lt_size e
 | dT kvs=>obtain ⟨_,_,_,_,o,_,_,e,_⟩:=x; exact Heap.lt_size e
 | set S n=>obtain ⟨o,_,_,_,e,_⟩:=x; exact Heap.lt_size e
 | ins C dx fs=>obtain ⟨_,_,_,e,_⟩:=x; exact Heap.lt_size e
 | own y=>obtain ⟨_,e⟩:=x; exact Heap.lt_size e
 | xd fs=>obtain ⟨_,⟨_,_,_,e,_⟩,_⟩:=x; exact Heap.lt_size e
 | rng lo hi=>obtain ⟨_,_,_,e⟩:=x; exact Heap.lt_size e
 | frz ob u=>obtain ⟨e,_⟩:=x; exact Heap.lt_size e
 | tbl ps=>exact Heap.lt_size (show h.get? a=some _ from x)
 | met f y=>exact Heap.lt_size (show h.get? a=some _ from x)
 | ext φ=>obtain ⟨_,⟨_,e⟩,_⟩:=x; exact Heap.lt_size e
theorem Paired.mapP {α β:Type} {F G:α→β→Prop}:∀ {l₁:List α} {l₂:List β},Paired F l₁ l₂→(∀ a b,F a b→G a b)→Paired G l₁ l₂
 | _,_,.nil,_=>.nil
 | _,_,.cons r t,f=>.cons (f _ _ r) (Paired.mapP t f)
theorem ObjOk.stay (x:ObjOk P w H h a o) (k:∀ b u,(b=a∨H b=some (.own a))→h.get? b=some u→h'.get? b=some u)
  (ho:∀ b,H b=some (.own a)→H' b=some (.own a)) (ht:∀ b xs,H b=some (.tup xs)→H' b=some (.tup xs)):ObjOk P w H' h' a o:=by
 induction o with
 | lst xs=>obtain ⟨z,its,n,r,e⟩:=x; exact ⟨z,its,n,r,k _ _ (.inl rfl) e⟩
 | tup xs=>obtain ⟨z,its,r,ob,e,c⟩:=x; exact ⟨z,its,r,ob,k _ _ (.inl rfl) e,c⟩
 | dK kvs=>obtain ⟨z,y,vs,r,ob,es,ep,e,c⟩:=x; exact ⟨z,y,vs,r,ob,es,ep,k _ _ (.inl rfl) e,c⟩
 | dT kvs=>
  obtain ⟨z,y,xs,r,ob,es,ep,e,c⟩:=x
  exact ⟨z,y,xs,Paired.mapP r fun p q z=>⟨z.1,ht _ _ z.2.1,z.2.2⟩,ob,es,ep,k _ _ (.inl rfl) e,c⟩
 | set S n=>obtain ⟨ob,es,ep,t,e,c⟩:=x; exact ⟨ob,es,ep,t,k _ _ (.inl rfl) e,c⟩
 | ins C dx fs=>
  obtain ⟨d,z,ne,e,mA,⟨od,es,ep,e2,c⟩,r⟩:=x
  exact ⟨ho _ d,z,ne,k _ _ (.inl rfl) e,mA,⟨od,es,ep,k _ _ (.inr d) e2,c⟩,r⟩
 | own y=>obtain ⟨ob,e⟩:=x; exact ⟨ob,k _ _ (.inl rfl) e⟩
 | xd fs=>obtain ⟨mA,⟨od,es,ep,e,c⟩,r⟩:=x; exact ⟨mA,⟨od,es,ep,k _ _ (.inl rfl) e,c⟩,r⟩
 | rng lo hi=>obtain ⟨t,u,v,e⟩:=x; exact ⟨t,u,v,k _ _ (.inl rfl) e⟩
 | frz ob u ih=>obtain ⟨e,q⟩:=x; exact ⟨k _ _ (.inl rfl) e,ih q⟩
 | tbl ps=>
  have e:h.get? a=some { cls:=.none,data:=.fields ps }:=x
  show h'.get? a=some { cls:=.none,data:=.fields ps }
  exact k a _ (.inl rfl) e
 | met f y=>
  have e:h.get? a=some (PySem.W.methodObj (.ref f) (.ref y)):=x
  show h'.get? a=some (PySem.W.methodObj (.ref f) (.ref y))
  exact k a _ (.inl rfl) e
 | ext φ=>obtain ⟨p,⟨o,e⟩,st⟩:=x; exact ⟨st _ _ p fun o q=>k _ _ (.inl rfl) q,⟨o,k _ _ (.inl rfl) e⟩,st⟩
theorem HOk.lt (x:HOk P w H h) (e:H a=some o):a < h.objs.size:=(x a o e).lt
theorem HOk.fresh (x:HOk P w H h) (e:h.objs.size≤a):H a=none:=by
 cases q:H a with
 | none=>rfl
 | some u=>exact absurd (Nat.lt_of_lt_of_le (x.lt q) e) (Nat.lt_irrefl _)
theorem HOk.kept (x:HOk P w H h) (k:∀ b u,h.get? b=some u→h'.get? b=some u):HOk P w H h':=fun a o e=>
 (x a o e).stay (fun b u _ q=>k b u q) (fun _ q=>q) fun _ _ q=>q
theorem HOk.laid (x:HOk P w H h) (k:∀ b u,h.get? b=some u→h'.get? b=some u) (hp:h.objs.size≤a) (new:ObjOk P w (upd H a o) h' a o):HOk P w (upd H a o) h':=fun b u e=>by
 have hn:=x.fresh hp
 by_cases hb:b=a
 · subst hb; rw [ae] at e; cases e; exact new
 · rw [ai hb] at e
   exact (x b u e).stay (fun c v _ q=>k c v q) (fun c q=>by rw [ai (au q hn)]; exact q) fun c xs q=>by rw [ai (au q hn)]; exact q
end
def Rd (H:Hp) (a:Addr) (u:HO):Prop:=H a=some u∨∃ o,H a=some (.frz o u)
theorem Rd.ok {P:Program} {w:World} {H:Hp} {h:Heap} {a:Addr} {u:HO} (r:Rd H a u) (x:HOk P w H h):ObjOk P w H h a u:=by
 rcases r with r | ⟨o,r⟩
 · exact x a u r
 · obtain ⟨_,q⟩:=x a _ r
   exact q
def Mut:Option HO→Prop
 | some (.lst _)=>True
 | some (.dK _)=>True
 | some (.dT _)=>True
 | some (.set _ _)=>True
 | some (.ins _ _ _)=>True
 | some (.ext _)=>True
 | _=>False
section
variable {P:Program} {w:World} {H:Hp} {h h':Heap} {x e:Addr} {o':HO}
theorem HOk.write (ok:HOk P w H h) (mu:Mut (H x)) (he:e=x∨H e=some (.own x)) (k:∀ b u,b≠e→h.get? b=some u→h'.get? b=some u) (heo:∃ u,h'.get? e=some u)
  (new:ObjOk P w (upd H x o') h' x o'):HOk P w (upd H x o') h':=fun b u q=>by
 have nown:∀ c y,H c=some (.own y)→c≠x:=fun c y r z=>by subst z; rw [r] at mu; exact mu
 have ntup:∀ c xs,H c=some (.tup xs)→c≠x:=fun c xs r z=>by subst z; rw [r] at mu; exact mu
 by_cases hb:b=x
 · subst hb; rw [ae] at q; cases q; exact new
 · rw [ai hb] at q
   by_cases hbe:b=e
   · have q':H b=some (.own x):=by
      rcases he with z | z
      · exact absurd (hbe.trans z) hb
      · rw [hbe]; exact z
     rw [q] at q'; cases q'
     obtain ⟨v,hv⟩:=heo
     exact ⟨v,by rw [hbe]; exact hv⟩
   · refine (ok b u q).stay (fun c v hc r=>k c v ?_ r) (fun c r=>by rw [ai (nown c b r)]; exact r) fun c xs r=>by rw [ai (ntup c xs r)]; exact r
     rcases hc with rfl | hc
     · exact hbe
     · rintro rfl
       rcases he with z | z
       · exact nown c b hc z
       · rw [hc] at z; cases z; exact hb rfl
end
structure Un (fs ex:List Addr) (H H':Hp) (h h':Heap):Prop where
 keep:∀ b o,h.get? b=some o→H b=none→b∉fs→b∉ex→h'.get? b=some o
 slot:∀ b o,h.get? b=some o→H b=none→b∈fs→b∉ex→∃ sl,h'.get? b=some { o with slots:=sl }
 free:∀ b o,h.get? b=some o→H b=none→b∉ex→H' b=none
 there:∀ b o,h.get? b=some o→b∉ex→∃ o',h'.get? b=some o'
 tups:∀ b xs,H b=some (.tup xs)→H' b=some (.tup xs)
 frzs:∀ b o u,H b=some (.frz o u)→H' b=some (.frz o u)
 tbls:∀ b ps,H b=some (.tbl ps)→∃ more,H' b=some (.tbl (ps++more))
section
variable {fs fs' ex ex':List Addr} {H H1 H2:Hp} {h h1 h2 h':Heap} {a x e:Addr} {o:HO}
theorem Un.any (u:Un fs ex H H1 h h1) {b:Addr} {ob:Obj} (q:h.get? b=some ob) (n:H b=none) (hx:b∉ex):∃ sl,h1.get? b=some { ob with slots:=sl }:=by
 by_cases hb:b∈fs
 · exact u.slot b ob q n hb hx
 · exact ⟨ob.slots,u.keep b ob q n hb hx⟩
theorem Un.kept (k:∀ b u,h.get? b=some u→h'.get? b=some u):Un fs ex H H h h':=
 ⟨fun b ob q _ _ _=>k b ob q,fun b ob q _ _ _=>⟨ob.slots,k b ob q⟩,fun _ _ _ n _=>n,fun b ob q _=>⟨ob,k b ob q⟩,fun _ _ q=>q,fun _ _ _ q=>q,fun _ ps q=>⟨#[],by rw [q]; simp⟩⟩
theorem Un.refl:Un fs ex H H h h:=Un.kept fun _ _ q=>q
theorem Un.laid (k:∀ b u,h.get? b=some u→h'.get? b=some u) (hp:h.objs.size≤a) (hn:H a=none):Un fs ex H (upd H a o) h h' where
 keep:=fun b u q _ _ _=>k b u q
 slot:=fun b u q _ _ _=>⟨u.slots,k b u q⟩
 free:=fun b u q n _=>by rw [ai (Nat.ne_of_lt (Nat.lt_of_lt_of_le (Heap.lt_size q) hp))]; exact n
 there:=fun b u q _=>⟨u,k b u q⟩
 tups:=fun b xs q=>by rw [ai (au q hn)]; exact q
 frzs:=fun b u xs q=>by rw [ai (au q hn)]; exact q
 tbls:=fun b ps q=>⟨#[],by rw [ai (au q hn),q]; simp⟩
theorem Un.write (mu:Mut (H x)) (he:e=x∨H e=some (.own x)) (k:∀ b u,b≠e→h.get? b=some u→h'.get? b=some u) (heo:∃ u,h'.get? e=some u):Un fs ex H (upd H x o) h h':=by
 have hx:∀ b,H b=none→b≠x:=fun b n z=>by subst z; rw [n] at mu; exact mu
 have hb:∀ b,H b=none→b≠e:=fun b n z=>by
  subst z
  rcases he with r | r
  · exact hx b n r
  · rw [n] at r; cases r
 have hm:∀ b u,H b=some u→¬ Mut (some u)→b≠x:=fun b u q nm z=>by subst z; rw [q] at mu; exact nm mu
 refine ⟨fun b u q n _ _=>k b u (hb b n) q,fun b u q n _ _=>⟨u.slots,k b u (hb b n) q⟩,fun b u q n _=>by rw [ai (hx b n)]; exact n,fun b u q _=>?_,
  fun b xs q=>by rw [ai (hm b _ q fun z=>z)]; exact q,fun b u xs q=>by rw [ai (hm b _ q fun z=>z)]; exact q,fun b ps q=>⟨#[],by rw [ai (hm b _ q fun z=>z),q]; simp⟩⟩
 by_cases hbe:b=e
 · subst hbe; exact heo
 · exact ⟨u,k b u hbe q⟩
end
def trk (h:Heap) (H:Hp):List Addr:=(List.range h.objs.size).filter fun a=>(H a).isSome
def hidT (h:Heap) (H:Hp):Heap:=PySem.W.hideAll h (trk h H)
theorem sC (h:Heap) (H:Hp):(hidT h H).objs.size=h.objs.size:=PySem.W.hideAll_size _ _
theorem uk {h:Heap} {H:Hp} {b:Addr} {o:Obj} (e:h.get? b=some o) (n:H b=none):(hidT h H).get? b=some o:=
 PySem.W.hideAll_get _ e fun hm=>by
  have q:(H b).isSome=true:=(List.mem_filter.mp hm).2
  rw [n] at q; simp at q
theorem u7 {h:Heap} {H:Hp} {b:Addr} {o:Obj} (e:(hidT h H).get? b=some o):h.get? b=some o∧H b=none:=by
 have e':h.get? b=some o:=PySem.W.of_hideAll (trk h H) e
 refine ⟨e',?_⟩
 cases q:H b with
 | none=>rfl
 | some x=>
  have hm:b∈trk h H:=List.mem_filter.mpr ⟨List.mem_range.mpr (Heap.lt_size e'),by simp [q]⟩
  have z:(hidT h H).get? b=none:=PySem.W.hideAll_none (trk h H) hm
  rw [z] at e; cases e
end L2
namespace L2
open PySem PySem.Spec PyProof.Rows
structure Mod (K:PySem.W.Frag) (mg:Str→Option Value) (base:Heap):Prop where
 kin:K.In base
 glob:base.Ns mainGlobals mg
 blt:∃ mb,base.Ns builtinsNs mb∧∀ x:Str,x≠"__name__"→mb x=bootBuiltins x
 nolimit:base.NoLimit
structure Cx where
 prog:Program
 w:World
 K:PySem.W.Frag
 mg:Str→Option Value
 base:Heap
 A:Around
 N:List Str
 s₀:Shared
 H₀:Hp
 env:Env
 outer:List Env
 stack:List Env
 ex:List Addr
 fn:Str→Bool
 calm:Bool
 pn:List (Addr × Obj)
 xe:Value→Shared→Prop
def frs (l:List Env):List Addr:=l.filterMap (·.frame)
abbrev Cx.fs (X:Cx):List Addr:=frs X.outer
def Vis (sc:Scope) (x:Str):Prop:=sc.names.lookup x=some .local∨sc.names.lookup x=some .cell∨sc.names.lookup x=some .free
def Loc (sc:Scope) (x:Str):Prop:=sc.names.lookup x=some .local∨sc.names.lookup x=some .cell
def Look (env:Env) (h:Heap) (m:Str→Option Value) (x:Str) (u:Value):Prop:=
 (env.kindOf x=some .local∧m x=some u)∨((env.kindOf x=some .cell∨env.kindOf x=some .free)∧∃ c,env.cells.lookup x=some c∧h.IsCell c (some u))
structure Cx.Ok (X:Cx):Prop where
 mod:Mod X.K X.mg X.base
 kind:X.env.scope.kind=.function
 glob:X.env.globals=mainGlobals
 blt:X.env.builtins=builtinsNs
 above:X.s₀.heap.objs.size≤X.env.locals
 inj:∀ x y c,X.env.cells.lookup x=some c→X.env.cells.lookup y=some c→x=y
 has:∀ x,(X.env.kindOf x=some .cell∨X.env.kindOf x=some .free)→∃ c,X.env.cells.lookup x=some c
 cab:∀ x c,X.fn x=true→X.env.cells.lookup x=some c→X.s₀.heap.objs.size≤c
 hd:X.calm=true→X.A.handled=none
 frames:X.A.frames=some X.stack
 stk:X.stack=X.outer∨(X.stack=X.env::X.outer∧X.env.frame=some X.env.locals)
 exf:∀ b∈X.ex,b≠X.env.locals∧∀ x c,X.env.cells.lookup x=some c→c≠b
 bs:∀ b o,X.base.get? b=some o→X.s₀.heap.get? b=some o∧X.H₀ b=none
 bsz:X.base.objs.size≤X.s₀.heap.objs.size
 noex:∀ b o,X.base.get? b=some o→b∉X.ex
 exfs:∀ b∈X.ex,b∉X.fs
 funs:X.s₀.heap.FunFrames X.base X.outer
 frf:∀ b∈X.fs,X.H₀ b=none
structure Inv (X:Cx) (pins:List (Addr × Obj)) (σ:List (Option V)) (H:Hp) (s:Shared):Prop where
 ok:X.Ok
 os:s.os=X.s₀.os
 bare:AllBare s.gens
 base:Un X.fs X.ex X.H₀ H X.s₀.heap s.heap
 loc:∃ m,s.heap.Ns X.env.locals m∧∀ (i:Nat) (x:Str) (v:V),X.N[i]? =some x→σ[i]? =some (some v)→Vis X.env.scope x→∃ u,RelV v u∧Look X.env s.heap m x u
 cell:∀ x c,X.env.cells.lookup x=some c→∃ v,s.heap.IsCell c v
 free:H X.env.locals=none
 freeC:∀ x c,X.env.cells.lookup x=some c→H c=none
 pin:∀ p∈X.pn++pins,s.heap.get? p.1=some p.2∧H p.1=none∧p.1≠X.env.locals∧p.1∉X.fs∧∀ v,p.2.data≠.cell v
 hok:HOk X.prog X.w H s.heap
 len:σ.length=X.N.length
section
variable {X:Cx} {pins:List (Addr × Obj)} {σ:List (Option V)} {H H':Hp} {s:Shared} {h':Heap}
theorem Cx.Ok.nofr (ok:X.Ok) {b:Addr} {o:Obj} (e:X.base.get? b=some o):b∉X.fs:=fun hb=>by
 have:=(ok.funs.mem hb).1
 rw [e] at this; cases this
theorem Inv.bs (I:Inv X pins σ H s):∀ b o,X.base.get? b=some o→s.heap.get? b=some o∧H b=none:=fun b o e=>
 ⟨I.base.keep b o (I.ok.bs b o e).1 (I.ok.bs b o e).2 (I.ok.nofr e) (I.ok.noex b o e),I.base.free b o (I.ok.bs b o e).1 (I.ok.bs b o e).2 (I.ok.noex b o e)⟩
theorem Inv.bk (I:Inv X pins σ H s):∀ b o,X.base.get? b=some o→s.heap.get? b=some o:=fun b o e=>(I.bs b o e).1
theorem Inv.mod (I:Inv X pins σ H s):Mod X.K X.mg X.base:=I.ok.mod
theorem Inv.kIn (I:Inv X pins σ H s):X.K.In s.heap:=I.ok.mod.kin.keeps I.bk
theorem Inv.lt (I:Inv X pins σ H s):X.env.locals < s.heap.objs.size:=let ⟨_,hn,_⟩:=I.loc; hn.lt
theorem Inv.sz (I:Inv X pins σ H s):X.s₀.heap.objs.size≤s.heap.objs.size:=Nat.le_trans I.ok.above (Nat.le_of_lt I.lt)
theorem Inv.nofs (I:Inv X pins σ H s) {a:Addr} (h:s.heap.objs.size≤a):a∉X.fs:=fun hb=>by
 obtain ⟨_,o,ho,_⟩:=I.ok.funs.mem hb
 exact absurd (Nat.lt_of_lt_of_le (Heap.lt_size ho) (Nat.le_trans I.sz h)) (Nat.lt_irrefl _)
theorem Inv.cne (I:Inv X pins σ H s):∀ x c,X.env.cells.lookup x=some c→c≠X.env.locals:=fun x c e z=>by
 obtain ⟨v,o,ho,hd⟩:=I.cell x c e
 obtain ⟨m,⟨o',es,ep,ho',hd',_⟩,_⟩:=I.loc
 rw [z,ho'] at ho; cases ho; rw [hd'] at hd; cases hd
theorem Inv.funs (I:Inv X pins σ H s):s.heap.FunFrames X.base X.outer:=by
 have all:∀ (l:List Env),(∀ b∈frs l,b∈X.fs)→X.s₀.heap.FunFrames X.base l→s.heap.FunFrames X.base l:=by
  intro l
  induction l with
  | nil=>intro _ _; trivial
  | cons env r ih=>
   intro hs hl
   obtain ⟨hk,⟨L,o,hf,hn,ho,hd⟩,hr⟩:=hl
   have hL:L∈X.fs:=hs L (by unfold frs; rw [List.filterMap_cons,hf]; exact List.mem_cons_self)
   obtain ⟨sl,e⟩:=I.base.slot L o ho (I.ok.frf L hL) hL fun z=>I.ok.exfs L z hL
   exact ⟨hk,⟨L,_,hf,hn,e,hd⟩,ih (fun b hb=>hs b (by unfold frs; rw [List.filterMap_cons,hf]; exact List.mem_cons_of_mem _ hb)) hr⟩
 exact all X.outer (fun _ hb=>hb) I.ok.funs
theorem Inv.stack (I:Inv X pins σ H s):s.heap.FunFrames X.base X.stack:=by
 rcases I.ok.stk with e | ⟨e,hf⟩
 · rw [e]; exact I.funs
 · rw [e]
   obtain ⟨m,hn,_⟩:=I.loc
   refine .cons (by rw [I.ok.kind]; decide) hf hn ?_ I.funs
   exact Heap.get?_none_of_le (Nat.le_trans I.ok.bsz I.ok.above)
theorem Inv.stkSub (I:Inv X pins σ H s):∀ b∈frs X.stack,b∈X.env.locals::X.fs:=fun b hb=>by
 rcases I.ok.stk with e | ⟨e,hf⟩
 · rw [e] at hb; exact List.mem_cons_of_mem _ hb
 · rw [e] at hb
   unfold frs at hb
   rw [List.filterMap_cons,hf] at hb
   exact hb
theorem Inv.stkFree (I:Inv X pins σ H s):∀ b∈frs X.stack,H b=none:=fun b hb=>by
 rcases List.mem_cons.mp (I.stkSub b hb) with e | hb
 · rw [e]; exact I.free
 · obtain ⟨_,o,ho,_⟩:=I.ok.funs.mem hb
   exact I.base.free b o ho (I.ok.frf b hb) fun z=>I.ok.exfs b z hb
theorem Inv.step {g':Array GenState} {t':Nat} {d':Drawn} {ch:List Addr} (I:Inv X pins σ H s)
  (hch:∀ b∈ch,(b∈X.ex∨X.s₀.heap.objs.size≤b)∧b≠X.env.locals∧(∀ x c,X.env.cells.lookup x=some c→c≠b)∧∀ p∈X.pn++pins,p.1≠b)
  (keep:∀ b o,b≠X.env.locals→b∉X.fs→b∉ch→s.heap.get? b=some o→H b=none→h'.get? b=some o)
  (slot:∀ b o,b≠X.env.locals→b∈X.fs→b∉ch→s.heap.get? b=some o→H b=none→∃ sl,h'.get? b=some { o with slots:=sl }) (free:∀ b o,b∉ch→s.heap.get? b=some o→H b=none→H' b=none)
  (there:∀ b o,b∉ch→s.heap.get? b=some o→∃ o',h'.get? b=some o')
  (tups:∀ b xs,H b=some (.tup xs)→H' b=some (.tup xs)) (frzs:∀ b o u,H b=some (.frz o u)→H' b=some (.frz o u)) (tbls:∀ b ps,H b=some (.tbl ps)→∃ more,H' b=some (.tbl (ps++more)))
  (ns:∀ m,s.heap.Ns X.env.locals m→h'.Ns X.env.locals m) (hok:HOk X.prog X.w H' h') (hg:AllBare g'):
  Inv X pins σ H' { s with heap:=h',gens:=g',drawn:=d',toks:=t' }:=by
 have neL:∀ b o,X.s₀.heap.get? b=some o→b≠X.env.locals:=fun b o e=>Nat.ne_of_lt (Nat.lt_of_lt_of_le (Heap.lt_size e) I.ok.above)
 have neC:∀ b o,X.s₀.heap.get? b=some o→b∉X.ex→b∉ch:=fun b o e hx hb=>by
  rcases (hch b hb).1 with z | z
  · exact hx z
  · exact absurd (Nat.lt_of_lt_of_le (Heap.lt_size e) z) (Nat.lt_irrefl _)
 have cellK:∀ x c,X.env.cells.lookup x=some c→∀ v,s.heap.IsCell c v→h'.IsCell c v:=fun x c e v ⟨o,ho,hd⟩=>by
  have nch:c∉ch:=fun z=>(hch c z).2.2.1 x c e rfl
  by_cases hc:c∈X.fs
  · obtain ⟨sl,q⟩:=slot c o (I.cne x c e) hc nch ho (I.freeC x c e)
    exact ⟨_,q,hd⟩
  · exact ⟨o,keep c o (I.cne x c e) hc nch ho (I.freeC x c e),hd⟩
 refine ⟨I.ok,I.os,hg,⟨fun b o e n hb hx=>?_,fun b o e n hb hx=>?_,fun b o e n hx=>?_,fun b o e hx=>?_,fun b xs e=>tups b xs (I.base.tups b xs e),fun b o xs e=>frzs b o xs (I.base.frzs b o xs e),fun b ps e=>?_⟩,?_,fun x c e=>?_,?_,fun x c e=>?_,fun p hp=>?_,hok,I.len⟩
 · exact keep b o (neL b o e) hb (neC b o e hx) (I.base.keep b o e n hb hx) (I.base.free b o e n hx)
 · obtain ⟨sl,e1⟩:=I.base.slot b o e n hb hx
   obtain ⟨sl',e2⟩:=slot b _ (neL b o e) hb (neC b o e hx) e1 (I.base.free b o e n hx)
   exact ⟨sl',e2⟩
 · obtain ⟨o',e1⟩:=I.base.there b o e hx
   exact free b o' (neC b o e hx) e1 (I.base.free b o e n hx)
 · obtain ⟨o',e1⟩:=I.base.there b o e hx
   exact there b o' (neC b o e hx) e1
 · obtain ⟨m1,e1⟩:=I.base.tbls b ps e
   obtain ⟨m2,e2⟩:=tbls b _ e1
   exact ⟨m1++m2,by rw [e2,Array.append_assoc]⟩
 · obtain ⟨m,hn,hl⟩:=I.loc
   refine ⟨m,ns m hn,fun i x v e1 e2 e3=>?_⟩
   obtain ⟨u,r,l⟩:=hl i x v e1 e2 e3
   refine ⟨u,r,?_⟩
   rcases l with l | ⟨k,c,e,z⟩
   · exact .inl l
   · exact .inr ⟨k,c,e,cellK x c e _ z⟩
 · obtain ⟨v,z⟩:=I.cell x c e
   exact ⟨v,cellK x c e v z⟩
 · obtain ⟨m,⟨o,_,_,ho,_⟩,_⟩:=I.loc
   exact free _ o (fun z=>(hch _ z).2.1 rfl) ho I.free
 · obtain ⟨v,o,ho,hd⟩:=I.cell x c e
   exact free c o (fun z=>(hch c z).2.2.1 x c e rfl) ho (I.freeC x c e)
 · obtain ⟨e,n,ne,nf,d⟩:=I.pin p hp
   have nch:p.1∉ch:=fun z=>(hch p.1 z).2.2.2 p hp rfl
   exact ⟨keep p.1 p.2 ne nf nch e n,free p.1 p.2 nch e n,ne,nf,d⟩
theorem Inv.un {t':Nat} (I:Inv X pins σ H s) (u:Un X.fs [] H H' s.heap h') (hok:HOk X.prog X.w H' h'):Inv X pins σ H' { s with heap:=h',toks:=t' }:=by
 obtain ⟨m,⟨o,es,ep,ho,r⟩,_⟩:=id I.loc
 obtain ⟨sl,hL⟩:=u.any ho I.free (by simp)
 exact I.step (g':=s.gens) (d':=s.drawn) (ch:=[]) (fun _ z=>nomatch z) (fun b o _ hb _ e n=>u.keep b o e n hb (by simp)) (fun b o _ hb _ e n=>u.slot b o e n hb (by simp)) (fun b o _ e n=>u.free b o e n (by simp)) (fun b o _ e=>u.there b o e (by simp)) u.tups u.frzs u.tbls (fun m' hm=>by
  obtain ⟨o',es',ep',ho',r'⟩:=hm
  rw [ho] at ho'; cases ho'
  exact ⟨_,es',ep',hL,r'⟩) hok I.bare
theorem Inv.call {g':Array GenState} {t':Nat} {d':Drawn} {ch:List Addr} (I:Inv X pins σ H s) (u:Un (frs X.stack) ch H H' s.heap h') (hok:HOk X.prog X.w H' h') (hg:AllBare g')
  (hch:∀ b∈ch,(b∈X.ex∨X.s₀.heap.objs.size≤b)∧b≠X.env.locals∧(∀ x c,X.env.cells.lookup x=some c→c≠b)∧∀ p∈X.pn++pins,p.1≠b):
  Inv X pins σ H' { s with heap:=h',gens:=g',drawn:=d',toks:=t' }:=by
 obtain ⟨m,⟨o,es,ep,ho,r⟩,_⟩:=id I.loc
 obtain ⟨sl,hL⟩:=u.any ho I.free fun z=>(hch _ z).2.1 rfl
 exact I.step (ch:=ch) hch (fun b o hL hb hc e n=>u.keep b o e n (fun z=>(List.mem_cons.mp (I.stkSub b z)).elim hL hb) hc) (fun b o _ _ hc e n=>u.any e n hc) (fun b o hc e n=>u.free b o e n hc) (fun b o hc e=>u.there b o e hc) u.tups u.frzs u.tbls (fun m' hm=>by
  obtain ⟨o',es',ep',ho',r'⟩:=hm
  rw [ho] at ho'; cases ho'
  exact ⟨_,es',ep',hL,r'⟩) hok hg
theorem Inv.turned {t':Nat} {it:Addr} (I:Inv X pins σ H s) (k:∀ b o,b≠it→s.heap.get? b=some o→h'.get? b=some o) (hn:H it=none) (hL:it≠X.env.locals)
  (h1:it∈X.ex∨X.s₀.heap.objs.size≤it) (h2:∀ x c,X.env.cells.lookup x=some c→c≠it) (h3:∀ p∈X.pn++pins,p.1≠it):Inv X pins σ H { s with heap:=h',toks:=t' }:=by
 have nit:∀ b u,H b=some u→b≠it:=fun b u e z=>by rw [z,hn] at e; cases e
 refine I.step (g':=s.gens) (d':=s.drawn) (ch:=[it]) (fun b hb=>?_) (fun b o _ _ hc e _=>k b o (fun z=>hc (by simp [z])) e) (fun b o _ _ hc e _=>⟨o.slots,k b o (fun z=>hc (by simp [z])) e⟩) (fun _ _ _ _ n=>n)
  (fun b o hc e=>⟨o,k b o (fun z=>hc (by simp [z])) e⟩) (fun _ _ e=>e) (fun _ _ _ e=>e) (fun b ps e=>⟨#[],by rw [e]; simp⟩) (fun m hm=>?_) (fun b u e=>?_) I.bare
 · have e:b=it:=by simpa using hb
   subst e
   exact ⟨h1,hL,h2,h3⟩
 · obtain ⟨o,es,ep,ho,r⟩:=hm
   exact ⟨o,es,ep,k _ o (Ne.symm hL) ho,r⟩
 · refine (I.hok b u e).stay (fun c v hc q=>k c v ?_ q) (fun _ q=>q) fun _ _ q=>q
   rcases hc with z | z
   · rw [z]; exact nit b u e
   · exact nit c _ z
theorem Inv.tok (I:Inv X pins σ H s) (t:Nat):Inv X pins σ H { s with toks:=t }:=I.un (h':=s.heap) (t':=t) Un.refl I.hok
theorem Inv.kept {t':Nat} (I:Inv X pins σ H s) (k:∀ b u,s.heap.get? b=some u→h'.get? b=some u):Inv X pins σ H { s with heap:=h',toks:=t' }:=I.un (Un.kept k) (I.hok.kept k)
theorem Inv.laid {a:Addr} {o:HO} {t':Nat} (I:Inv X pins σ H s) (k:∀ b u,s.heap.get? b=some u→h'.get? b=some u) (hp:s.heap.objs.size≤a) (new:ObjOk X.prog X.w (upd H a o) h' a o):
  Inv X pins σ (upd H a o) { s with heap:=h',toks:=t' }:=I.un (Un.laid k hp (I.hok.fresh hp)) (I.hok.laid k hp new)
theorem Inv.write {x e:Addr} {o:HO} {t':Nat} (I:Inv X pins σ H s) (mu:Mut (H x)) (he:e=x∨H e=some (.own x)) (k:∀ b u,b≠e→s.heap.get? b=some u→h'.get? b=some u) (heo:∃ u,h'.get? e=some u)
  (new:ObjOk X.prog X.w (upd H x o) h' x o):Inv X pins σ (upd H x o) { s with heap:=h',toks:=t' }:=I.un (Un.write mu he k heo) (I.hok.write mu he k heo new)
theorem Inv.pins_of {pins':List (Addr × Obj)} (I:Inv X pins σ H s) (h:∀ p∈pins',s.heap.get? p.1=some p.2∧H p.1=none∧p.1≠X.env.locals∧p.1∉X.fs∧∀ v,p.2.data≠.cell v):Inv X pins' σ H s:=
 ⟨I.ok,I.os,I.bare,I.base,I.loc,I.cell,I.free,I.freeC,fun p hp=>(List.mem_append.mp hp).elim (fun z=>I.pin p (List.mem_append_left _ z)) (h p),I.hok,I.len⟩
theorem lc {N:List Str} (hN:N.Nodup) {i j:Nat} {x:Str} (a:N[i]? =some x) (b:N[j]? =some x):i=j:=by
 obtain ⟨h1,e1⟩:=List.getElem?_eq_some_iff.mp a
 obtain ⟨h2,e2⟩:=List.getElem?_eq_some_iff.mp b
 exact (List.getElem_inj hN).mp (e1.trans e2.symm)
theorem nV {M:Model} {A:Around} {E:Value→Shared→Prop} {i:Nat} {x:Str} {v:V} {u:Value} {Q:Unit→Shared→Prop} (I:Inv X pins σ H s) (hN:X.N.Nodup) (hi:X.N[i]? =some x) (hx:Loc X.env.scope x) (r:RelV v u)
  (h:∀ s',Inv X pins (σ.set i (some v)) H s'→(∃ a,Heap.SameBut a s.heap s'.heap∧(a=X.env.locals∨X.env.cells.lookup x=some a))→Q () s') (hf:X.fn x=true∨X.env.scope.names.lookup x=some .local:=by first | exact .inl rfl | exact .inr rfl | assumption):wpAny M A (storeName X.env x u) Q E s:=by
 obtain ⟨m,hn,hl⟩:=id I.loc
 have hcls:(X.env.scope.kind==.class||(X.env.scope.kind==.module&&X.env.locals != X.env.globals))=false:=by rw [I.ok.kind]; rfl
 have hiσ:i < σ.length:=by rw [I.len]; exact (List.getElem?_eq_some_iff.mp hi).1
 have cne:=I.cne
 have tracked:∀ {a:Addr} {h':Heap},(∃ o,s.heap.get? a=some o∧H a=none)→Heap.SameBut a s.heap h'→HOk X.prog X.w H h':=fun {a h'} ha hs b ob e=>by
  obtain ⟨_,_,hfree⟩:=ha
  refine (I.hok b ob e).stay (fun c w' hc q=>(hs.2 c ?_).trans q) (fun _ q=>q) fun _ _ q=>q
  rintro rfl
  rcases hc with rfl | hc
  · rw [hfree] at e; cases e
  · rw [hfree] at hc; cases hc
 rcases hx with hk | hk
 · refine wpAny_storeName_local hk hn (fun h' hn' hs=>?_) hcls
   obtain ⟨oL,_,_,hoL,_⟩:=id hn
   refine h _ ⟨I.ok,I.os,I.bare,⟨fun b o e n hb hx=>?_,fun b o e n hb hx=>?_,I.base.free,fun b o e hx=>?_,I.base.tups,I.base.frzs,I.base.tbls⟩,⟨_,hn',fun j y v' e1 e2 e3=>?_⟩,fun y c e=>?_,I.free,I.freeC,fun p hp=>?_,tracked ⟨oL,hoL,I.free⟩ hs,by simpa using I.len⟩ ⟨_,hs,.inl rfl⟩
   · exact (hs.2 b (Nat.ne_of_lt (Nat.lt_of_lt_of_le (Heap.lt_size e) I.ok.above))).trans (I.base.keep b o e n hb hx)
   · obtain ⟨sl,e1⟩:=I.base.slot b o e n hb hx
     exact ⟨sl,(hs.2 b (Nat.ne_of_lt (Nat.lt_of_lt_of_le (Heap.lt_size e) I.ok.above))).trans e1⟩
   · obtain ⟨o',e1⟩:=I.base.there b o e hx
     exact ⟨o',(hs.2 b (Nat.ne_of_lt (Nat.lt_of_lt_of_le (Heap.lt_size e) I.ok.above))).trans e1⟩
   · by_cases hj:j=i
     · subst hj
       rw [hi] at e1; cases e1
       rw [List.getElem?_set_self hiσ] at e2
       cases e2
       exact ⟨u,r,.inl ⟨hk,by simp⟩⟩
     · rw [List.getElem?_set_ne (Ne.symm hj)] at e2
       obtain ⟨u',r',q⟩:=hl j y v' e1 e2 e3
       refine ⟨u',r',?_⟩
       rcases q with ⟨k,e⟩ | ⟨k,c,e,z⟩
       · refine .inl ⟨k,?_⟩
         have:y≠x:=fun e=>hj (lc hN e1 (e ▸ hi))
         simp [this,e]
       · exact .inr ⟨k,c,e,z.sameBut hs (cne y c e)⟩
   · obtain ⟨w',z⟩:=I.cell y c e
     exact ⟨w',z.sameBut hs (cne y c e)⟩
   · obtain ⟨e,n,ne,nf,d⟩:=I.pin p hp
     exact ⟨(hs.2 p.1 ne).trans e,n,ne,nf,d⟩
 · have hfn:X.fn x=true:=by
    rcases hf with z | z
    · exact z
    · rw [z] at hk; cases hk
   obtain ⟨c,hc⟩:=I.ok.has x (.inl hk)
   obtain ⟨w',z⟩:=I.cell x c hc
   refine wpAny_storeName_cell I.ok.kind hk hc z (fun h' hc' hs=>?_)
   obtain ⟨oc,hoc,hocd⟩:=id z
   refine h { s with heap:=h' } ⟨I.ok,I.os,I.bare,⟨fun b o e n hb hx=>?_,fun b o e n hb hx=>?_,I.base.free,fun b o e hx=>?_,I.base.tups,I.base.frzs,I.base.tbls⟩,⟨m,hn.sameBut hs (Ne.symm (cne x c hc)),fun j y v' e1 e2 e3=>?_⟩,fun y c' e=>?_,I.free,I.freeC,fun p hp=>?_,tracked ⟨oc,hoc,I.freeC x c hc⟩ hs,by simpa using I.len⟩ ⟨c,hs,.inr hc⟩
   · exact (hs.2 b (Nat.ne_of_lt (Nat.lt_of_lt_of_le (Heap.lt_size e) (I.ok.cab x c hfn hc)))).trans (I.base.keep b o e n hb hx)
   · obtain ⟨sl,e1⟩:=I.base.slot b o e n hb hx
     exact ⟨sl,(hs.2 b (Nat.ne_of_lt (Nat.lt_of_lt_of_le (Heap.lt_size e) (I.ok.cab x c hfn hc)))).trans e1⟩
   · obtain ⟨o',e1⟩:=I.base.there b o e hx
     exact ⟨o',(hs.2 b (Nat.ne_of_lt (Nat.lt_of_lt_of_le (Heap.lt_size e) (I.ok.cab x c hfn hc)))).trans e1⟩
   · by_cases hj:j=i
     · subst hj
       rw [hi] at e1; cases e1
       rw [List.getElem?_set_self hiσ] at e2
       cases e2
       exact ⟨u,r,.inr ⟨.inl hk,c,hc,hc'⟩⟩
     · rw [List.getElem?_set_ne (Ne.symm hj)] at e2
       obtain ⟨u',r',q⟩:=hl j y v' e1 e2 e3
       refine ⟨u',r',?_⟩
       rcases q with q | ⟨k,c',e,z'⟩
       · exact .inl q
       · refine .inr ⟨k,c',e,z'.sameBut hs ?_⟩
         rintro rfl
         exact hj (lc hN e1 (I.ok.inj _ _ _ e hc ▸ hi))
   · by_cases hcc:c'=c
     · subst hcc; exact ⟨_,hc'⟩
     · obtain ⟨w2,z2⟩:=I.cell y c' e
       exact ⟨w2,z2.sameBut hs hcc⟩
   · obtain ⟨e,n,ne,nf,d⟩:=I.pin p hp
     refine ⟨(hs.2 p.1 ?_).trans e,n,ne,nf,d⟩
     intro q
     rw [q,hoc] at e
     have q':oc=p.2:=Option.some.inj e
     exact d w' (by rw [← q']; exact hocd)
theorem gW {M:Model} {A:Around} {E:Value→Shared→Prop} {i:Nat} {x:Str} {v:V} {u:Value} {Q:Unit→Shared→Prop} (I:Inv X pins σ H s) (hN:X.N.Nodup) (hi:X.N[i]? =some x) (hx:Loc X.env.scope x) (r:RelV v u)
  (h:∀ s',Inv X pins (σ.set i (some v)) H s'→Q () s') (hf:X.fn x=true∨X.env.scope.names.lookup x=some .local:=by first | exact .inl rfl | exact .inr rfl | assumption):wpAny M A (storeName X.env x u) Q E s:=
 nV I hN hi hx r (fun s' I' _=>h s' I') hf
theorem Inv.call' {s':Shared} {ch:List Addr} (I:Inv X pins σ H s) (ho:s'.os=s.os) (u:Un (frs X.stack) ch H H' s.heap s'.heap) (hok:HOk X.prog X.w H' s'.heap) (hg:AllBare s'.gens)
  (hch:∀ b∈ch,(b∈X.ex∨X.s₀.heap.objs.size≤b)∧b≠X.env.locals∧(∀ x c,X.env.cells.lookup x=some c→c≠b)∧∀ p∈X.pn++pins,p.1≠b):Inv X pins σ H' s':=by
 obtain ⟨h',g',d',t',o'⟩:=s'
 have e:o'=s.os:=ho
 subst e
 exact I.call (g':=g') (t':=t') (d':=d') u hok hg hch
end
abbrev XK:=Value→Option Addr→Hp→Prop
abbrev St:=List (Option V)
abbrev VK:=V→Hp→Prop
abbrev TE:=St→Hp→VK→Prop
abbrev TT:=St→Hp→(Bool→Hp→Prop)→Prop
abbrev TA:=St→Hp→(List V→Hp→Prop)→Prop
structure Ends where
 nx:St→Hp→Prop
 rt:VK
 bk:St→Hp→Prop:=fun _ _=>False
 ct:St→Hp→Prop:=fun _ _=>False
abbrev TS:=Ends→St→Hp→Prop
def EP (X:Cx) (pins:List (Addr × Obj)) (σ:St) (Q:VK) (u:Value) (s':Shared):Prop:=∃ v H',Inv X pins σ H' s'∧RelV v u∧Q v H'
def TP (X:Cx) (pins:List (Addr × Obj)) (σ:St) (Q:Bool→Hp→Prop) (b:Bool) (s':Shared):Prop:=∃ H',Inv X pins σ H' s'∧Q b H'
def AP (X:Cx) (pins:List (Addr × Obj)) (σ:St) (Q:List V→Hp→Prop) (us:List Value) (s':Shared):Prop:=∃ vs H',Inv X pins σ H' s'∧Vals vs us∧Q vs H'
def SP (X:Cx) (pins:List (Addr × Obj)) (D:Ends) (f:Flow) (s':Shared):Prop:=
 match f with
 | .next=>∃ σ' H',Inv X pins σ' H' s'∧D.nx σ' H'
 | .brk=>∃ σ' H',Inv X pins σ' H' s'∧D.bk σ' H'
 | .cont=>∃ σ' H',Inv X pins σ' H' s'∧D.ct σ' H'
 | .ret u=>∃ v σ' H',Inv X pins σ' H' s'∧RelV v u∧D.rt v H'
def PE (X:Cx) (e:Expr) (t:TE):Prop:=
 ∀ (pins:List (Addr × Obj)) (s:Shared) (σ:St) (H:Hp) (Q:VK),Inv X pins σ H s→t σ H Q→wpAny (model X.prog X.w) X.A (eval e X.env) (EP X pins σ Q) X.xe s
def PT (X:Cx) (e:Expr) (t:TT):Prop:=
 ∀ (pins:List (Addr × Obj)) (s:Shared) (σ:St) (H:Hp) (Q:Bool→Hp→Prop),Inv X pins σ H s→t σ H Q→wpAny (model X.prog X.w) X.A (isTrue e X.env (eval e X.env)) (TP X pins σ Q) X.xe s
def PW (X:Cx) (e:Expr) (t:TT):Prop:=
 ∀ (whole:Sem Value) (pins:List (Addr × Obj)) (s:Shared) (σ:St) (H:Hp) (Q:Bool→Hp→Prop),Inv X pins σ H s→t σ H Q→wpAny (model X.prog X.w) X.A (isTrue e X.env whole) (TP X pins σ Q) X.xe s
theorem PW.pt {X:Cx} {e:Expr} {t:TT} (h:PW X e t):PT X e t:=h _
def PA (X:Cx) (es:List Expr) (t:TA):Prop:=
 ∀ (pos:Pos) (pins:List (Addr × Obj)) (s:Shared) (σ:St) (H:Hp) (Q:List V→Hp→Prop),Inv X pins σ H s→t σ H Q→wpAny (model X.prog X.w) X.A (spliced (backTo pos (starEach es X.env))) (AP X pins σ Q) X.xe s
def PS (X:Cx) (st:Stmt) (t:TS):Prop:=
 ∀ (pins:List (Addr × Obj)) (s:Shared) (σ:St) (H:Hp) (D:Ends),Inv X pins σ H s→t D σ H→wpAny (model X.prog X.w) X.A (exec st X.env) (SP X pins D) X.xe s
def PSs (X:Cx) (st:List Stmt) (t:TS):Prop:=
 ∀ (pins:List (Addr × Obj)) (s:Shared) (σ:St) (H:Hp) (D:Ends),Inv X pins σ H s→t D σ H→wpAny (model X.prog X.w) X.A (execs st X.env) (SP X pins D) X.xe s
theorem thn {α:Type} {t:Sem α} {Q Q':α→Shared→Prop} {M:Model} {A:Around} {E:Value→Shared→Prop} {s:Shared} (h:wpAny M A t Q E s) (hQ:∀ a s,Q a s→Q' a s):wpAny M A t Q' E s:=wpAny_mono h hQ fun _ _ x=>x
end L2
namespace L2
open PySem PySem.Spec PyProof.Rows
section
variable {X:Cx}
def tVar (i:Nat):TE:=fun σ H Q=>∃ v,σ[i]? =some (some v)∧Q v H
def tC (v:V):TE:=fun _ H Q=>Q v H
theorem vV {i:Nat} {x:Str} {pos:Pos} (hN:X.N[i]? =some x) (hv:Vis X.env.scope x) (hd:(x==("__debug__":Str))=false:=by decide) (hcd:(x==("__classdict__":Str))=false:=by decide):PE X (.Name x pos) (tVar i):=by
 intro pins s σ H Q I h
 obtain ⟨v,e,h⟩:=h
 obtain ⟨m,hn,hl⟩:=I.loc
 obtain ⟨u,r,l⟩:=hl i x v hN e hv
 have fin:EP X pins σ Q u s:=⟨v,H,I,r,h⟩
 rcases l with ⟨hk,hm⟩ | ⟨hk,c,hc,hcell⟩
 · exact wpAny_Name (wpAny_loadName_local I.ok.kind hk hn hm fin) hd
 · rcases hk with hk | hk
   · exact wpAny_Name (wpAny_loadName_cell I.ok.kind hk hc hcell fin) hd
   · exact wpAny_Name (wpAny_loadName_free I.ok.kind hk hc hcell fin hcd) hd
theorem ag {i j pos}:PE X (.Constant (.int i) j pos) (tC (.int i)):=fun _ _ _ H _ I h=>wpAny_Constant_int ⟨.int i,H,I.tok _,⟨_,rfl⟩,h⟩
theorem rC {b j pos}:PE X (.Constant (.bool b) j pos) (tC (.bl b)):=fun _ _ _ H _ I h=>Constant_bool ⟨.bl b,H,I,rfl,h⟩
theorem gX {j pos}:PE X (.Constant .none j pos) (tC .non):=fun _ _ _ H _ I h=>Constant_none ⟨.non,H,I,rfl,h⟩
theorem bF {x j pos}:PE X (.Constant (.str x) j pos) (tC (.str x)):=fun _ _ _ H _ I h=>Calls.Constant_str ⟨.str x,H,I.tok _,⟨_,rfl⟩,h⟩
def Gl (X:Cx) (x:Str):Prop:=X.env.kindOf x=some .globalImplicit
theorem gP {E:Value→Shared→Prop} {pins:List (Addr × Obj)} {s:Shared} {σ:St} {H:Hp} {x:Str} {u:Value} {pos:Pos} {Q:Value→Shared→Prop} (I:Inv X pins σ H s) (hg:Gl X x) (hm:X.mg x=some u) (h:Q u s)
  (hd:(x==("__debug__":Str))=false:=by decide):wpAny (model X.prog X.w) X.A (eval (.Name x pos) X.env) Q E s:=
 Calls.Name_function_global I.ok.kind hg (Calls.loadGlobal_global (by rw [I.ok.glob]; exact I.mod.glob.keeps I.bk) hm h) hd
theorem di {E:Value→Shared→Prop} {pins:List (Addr × Obj)} {s:Shared} {σ:St} {H:Hp} {x:Str} {u:Value} {pos:Pos} {Q:Value→Shared→Prop} (I:Inv X pins σ H s) (hg:Gl X x) (hm:X.mg x=none) (hv:bootBuiltins x=some u) (h:Q u s)
  (hn:x≠"__name__":=by decide) (hd:(x==("__debug__":Str))=false:=by decide):wpAny (model X.prog X.w) X.A (eval (.Name x pos) X.env) Q E s:=by
 obtain ⟨mb,h1,h2⟩:=I.mod.blt
 exact Calls.Name_function_global I.ok.kind hg (Calls.loadGlobal_builtin (by rw [I.ok.glob]; exact I.mod.glob.keeps I.bk) hm (by rw [I.ok.blt]; exact h1.keeps I.bk) ((h2 x hn).trans hv) h) hd
theorem aS {x:Str} {v:V} {u:Value} {pos:Pos} (hg:Gl X x) (hm:X.mg x=some u) (r:RelV v u) (hd:(x==("__debug__":Str))=false:=by decide):PE X (.Name x pos) (tC v):=
 fun _ _ _ H _ I h=>gP I hg hm ⟨v,H,I,r,h⟩ hd
theorem gQ {x:Str} {v:V} {u:Value} {pos:Pos} (hg:Gl X x) (hm:X.mg x=none) (hv:bootBuiltins x=some u) (r:RelV v u) (hn:x≠"__name__":=by decide) (hd:(x==("__debug__":Str))=false:=by decide):PE X (.Name x pos) (tC v):=
 fun _ _ _ H _ I h=>di I hg hm hv ⟨v,H,I,r,h⟩ hn hd
variable {a b:Expr} {ta tb:TE} {pos:Pos}
def tB (t:TE):TT:=fun σ H Q=>t σ H fun x H1=>∃ c,x=.bl c∧Q c H1
theorem cP {e:Expr} {t:TE} (h:PE X e t) (he:∀ whole,isTrue e X.env whole=(do let v ← whole; standAt e.pos; holding [v] (truthy v)):=by intro _; rfl):PT X e (tB t):=by
 intro pins s σ H Q I hw
 refine isTrue_plain (thn (h pins s σ H _ I hw) fun v s1 ⟨x,H1,I1,r1,q1⟩=>?_) (he _)
 obtain ⟨d,rfl,q⟩:=q1
 cases r1
 exact wpAny_truthy_bool ⟨H1,I1,q⟩
variable {tA tB':TT} {rest:List Expr}
def tAnd (t u:TT):TT:=fun σ H Q=>t σ H fun c H1=>if c=true then u σ H1 Q else Q false H1
def tOr (t u:TT):TT:=fun σ H Q=>t σ H fun c H1=>if c=true then Q true H1 else u σ H1 Q
def tNot (t:TT):TT:=fun σ H Q=>t σ H fun c H1=>Q (!c) H1
theorem m8 (ha:PT X a tA):PW X (.BoolOp .And [a] pos) tA:=by
 intro wh pins s σ H Q I h
 refine isTrue_and (thn (ha pins s σ H Q I h) fun c s1 e=>?_)
 cases c with
 | true=>exact isTrue_and_nil e
 | false=>exact e
theorem jR (ha:PT X a tA):PW X (.BoolOp .Or [a] pos) tA:=by
 intro wh pins s σ H Q I h
 refine isTrue_or (thn (ha pins s σ H Q I h) fun c s1 e=>?_)
 cases c with
 | false=>exact isTrue_or_nil e
 | true=>exact e
theorem pB (ha:PT X a tA) (hb:PW X (.BoolOp .And (b::rest) pos) tB'):PW X (.BoolOp .And (a::b::rest) pos) (tAnd tA tB'):=by
 intro wh pins s σ H Q I h
 refine isTrue_and (thn (ha pins s σ H _ I h) fun c s1 ⟨H1,I1,q1⟩=>?_)
 cases c with
 | true=>exact hb wh pins s1 σ H1 Q I1 q1
 | false=>exact ⟨H1,I1,q1⟩
theorem jq (ha:PT X a tA) (hb:PW X (.BoolOp .Or (b::rest) pos) tB'):PW X (.BoolOp .Or (a::b::rest) pos) (tOr tA tB'):=by
 intro wh pins s σ H Q I h
 refine isTrue_or (thn (ha pins s σ H _ I h) fun c s1 ⟨H1,I1,q1⟩=>?_)
 cases c with
 | true=>exact ⟨H1,I1,q1⟩
 | false=>exact hb wh pins s1 σ H1 Q I1 q1
theorem dW (ha:PT X a tA):PT X (.UnaryOp .Not a pos) (tNot tA):=by
 intro pins s σ H Q I h
 exact isTrue_not (ha pins s σ H (fun c H1=>Q (!c) H1) I h)
def tAndV (ta tb:TE):TE:=fun σ H Q=>ta σ H fun x H1=>∃ c,x=.bl c∧if c=true then tb σ H1 Q else Q (.bl false) H1
def tOrV (ta tb:TE):TE:=fun σ H Q=>ta σ H fun x H1=>∃ c,x=.bl c∧if c=true then Q (.bl true) H1 else tb σ H1 Q
def tNotV (ta:TE):TE:=fun σ H Q=>ta σ H fun x H1=>∃ c,x=.bl c∧Q (.bl (!c)) H1
theorem e9 {op} {t:TE} (h:PE X a t):PE X (.BoolOp op [a] pos) t:=fun pins s σ H Q I hw=>BoolOp_one (h pins s σ H Q I hw)
theorem dX (ha:PE X a ta) (hb:PE X (.BoolOp .And (b::rest) pos) tb):PE X (.BoolOp .And (a::b::rest) pos) (tAndV ta tb):=by
 intro pins s σ H Q I h
 refine BoolOp_and (thn (ha pins s σ H _ I h) fun v s1 ⟨x,H1,I1,r1,q1⟩=>?_)
 obtain ⟨c,rfl,q1⟩:=q1
 cases r1
 refine wpAny_truthy_bool ?_
 cases c with
 | true=>exact hb pins s1 σ H1 Q I1 q1
 | false=>exact ⟨.bl false,H1,I1,rfl,q1⟩
theorem uU (ha:PE X a ta) (hb:PE X (.BoolOp .Or (b::rest) pos) tb):PE X (.BoolOp .Or (a::b::rest) pos) (tOrV ta tb):=by
 intro pins s σ H Q I h
 refine BoolOp_or (thn (ha pins s σ H _ I h) fun v s1 ⟨x,H1,I1,r1,q1⟩=>?_)
 obtain ⟨c,rfl,q1⟩:=q1
 cases r1
 refine wpAny_truthy_bool ?_
 cases c with
 | false=>exact hb pins s1 σ H1 Q I1 q1
 | true=>exact ⟨.bl true,H1,I1,rfl,q1⟩
theorem lR (ha:PE X a ta):PE X (.UnaryOp .Not a pos) (tNotV ta):=by
 intro pins s σ H Q I h
 refine UnaryOp_ (thn (ha pins s σ H _ I h) fun v s1 ⟨x,H1,I1,r1,q1⟩=>?_)
 obtain ⟨c,rfl,q1⟩:=q1
 cases r1
 exact not_of (wpAny_truthy_bool ⟨.bl (!c),H1,I1,rfl,q1⟩)
def tIf (t:TT) (ta tb:TE):TE:=fun σ H Q=>t σ H fun c H1=>if c=true then ta σ H1 Q else tb σ H1 Q
theorem pC {c:Expr} (hc:PT X c tA) (ha:PE X a ta) (hb:PE X b tb):PE X (.IfExp c a b pos) (tIf tA ta tb):=by
 intro pins s σ H Q I h
 refine wpAny_IfExp (thn (hc pins s σ H _ I h) fun d s1 ⟨H1,I1,q1⟩=>?_)
 cases d with
 | true=>exact ha pins s1 σ H1 Q I1 q1
 | false=>exact hb pins s1 σ H1 Q I1 q1
end
end L2
namespace L2
open PySem PySem.Spec PyProof.Rows
def SqL (K:PySem.W.Frag) (H:Hp) (a:Addr) (xs:List V):Prop:=
 Rd H a (.lst xs)∨
  ∃ (o:Obj) (its:Array Value) (n:Nat),K.lookup a=some o∧o.cls=.type "list"∧o.dict=none∧o.data=.seq its n∧its.size≤sizeLine∧Vals xs its.toList
def SqT (K:PySem.W.Frag) (H:Hp) (a:Addr) (xs:List V):Prop:=
 Rd H a (.tup xs)∨
  ∃ (o:Obj) (its:Array Value) (n:Nat),K.lookup a=some o∧o.cls=.type "tuple"∧o.data=.seq its n∧its.size≤sizeLine∧Vals xs its.toList
def absV:Value→Option V
 | .none=>some .non
 | .bool b=>some (.bl b)
 | .int i _=>some (.int i)
 | .str x _=>some (.str x)
 | .bytes b _=>some (.byt b)
 | .float b _=>some (.flt b)
 | .ref a=>some (.ref a)
 | .type n=>some (.ty n)
 | _=>none
theorem RelV.abs {x:V} {u:Value} (r:RelV x u):absV u=some x:=by
 cases x with
 | non=>cases r; rfl
 | bl _=>cases r; rfl
 | int _=>obtain ⟨t,rfl⟩:=r; rfl
 | str _=>obtain ⟨t,rfl⟩:=r; rfl
 | byt _=>obtain ⟨t,rfl⟩:=r; rfl
 | flt _=>obtain ⟨t,rfl⟩:=r; rfl
 | ref _=>cases r; rfl
 | ty _=>cases r; rfl
theorem RelV.inj {x y:V} {u:Value} (r:RelV x u) (q:RelV y u):x=y:=Option.some.inj (r.abs.symm.trans q.abs)
theorem Vals.inj:∀ {xs ys:List V} {us:List Value},Vals xs us→Vals ys us→xs=ys
 | _,_,_,.nil,.nil=>rfl
 | _,_,_,.cons r t,.cons r' t'=>by rw [r.inj r',Vals.inj t t']
section
variable {X:Cx} {pins:List (Addr × Obj)} {σ:St} {H:Hp} {s:Shared} {a:Addr} {xs ys:List V}
theorem SqL.of {K:PySem.W.Frag} (h:H a=some (.lst xs)):SqL K H a xs:=.inl (.inl h)
theorem SqT.of {K:PySem.W.Frag} (h:H a=some (.tup xs)):SqT K H a xs:=.inl (.inl h)
theorem Inv.list (I:Inv X pins σ H s) (h:SqL X.K H a xs):∃ its:List Value,Vals xs its∧PlainL s.heap a its.toArray∧xs.length≤sizeLine:=by
 rcases h with h | ⟨o,its,n,hk,hc,hd,hs,hz,r⟩
 · obtain ⟨z,its,n,r,e⟩:=h.ok I.hok
   exact ⟨its,r,⟨_,n,e,rfl,rfl,rfl⟩,z⟩
 · refine ⟨its.toList,r,⟨o,n,I.kIn a o hk,hc,hd,by simpa using hs⟩,?_⟩
   have e:=r.length
   simp only [Array.length_toList] at e
   omega
theorem Inv.tuple (I:Inv X pins σ H s) (h:SqT X.K H a xs):∃ its:List Value,Vals xs its∧IsTup s.heap a its.toArray∧xs.length≤sizeLine:=by
 rcases h with h | ⟨o,its,n,hk,hc,hs,hz,r⟩
 · obtain ⟨z,its,r,p⟩:=h.ok I.hok
   exact ⟨its,r,p,z⟩
 · refine ⟨its.toList,r,⟨o,I.kIn a o hk,hc,n,by simpa using hs⟩,?_⟩
   have e:=r.length
   simp only [Array.length_toList] at e
   omega
theorem Inv.list_inj (I:Inv X pins σ H s) (h:SqL X.K H a xs) (h':SqL X.K H a ys):xs=ys:=by
 obtain ⟨its,r,⟨o,n,e,_,_,d⟩,_⟩:=I.list h
 obtain ⟨its',r',⟨o',n',e',_,_,d'⟩,_⟩:=I.list h'
 rw [e] at e'; cases e'
 rw [d] at d'
 injection d' with d1 _
 have:its=its':=by simpa using congrArg Array.toList d1
 subst this
 exact r.inj r'
theorem Inv.tuple_inj (I:Inv X pins σ H s) (h:SqT X.K H a xs) (h':SqT X.K H a ys):xs=ys:=by
 obtain ⟨its,r,⟨o,e,_,n,d⟩,_⟩:=I.tuple h
 obtain ⟨its',r',⟨o',e',_,n',d'⟩,_⟩:=I.tuple h'
 rw [e] at e'; cases e'
 rw [d] at d'
 injection d' with d1 _
 have:its=its':=by simpa using congrArg Array.toList d1
 subst this
 exact r.inj r'
end
abbrev Cx.wish (X:Cx) (E:Value→Shared→Prop):Cx:={ X with xe:=E }
abbrev Cx.nox (X:Cx):Cx:=X.wish fun _ _=>False
theorem Cx.Ok.wish {X:Cx} (ok:X.Ok) (E:Value→Shared→Prop):(X.wish E).Ok:=
 ⟨ok.mod,ok.kind,ok.glob,ok.blt,ok.above,ok.inj,ok.has,ok.cab,ok.hd,ok.frames,ok.stk,ok.exf,ok.bs,ok.bsz,ok.noex,ok.exfs,ok.funs,ok.frf⟩
theorem Cx.Ok.unwish {X:Cx} {E:Value→Shared→Prop} (ok:(X.wish E).Ok):X.Ok:=
 ⟨ok.mod,ok.kind,ok.glob,ok.blt,ok.above,ok.inj,ok.has,ok.cab,ok.hd,ok.frames,ok.stk,ok.exf,ok.bs,ok.bsz,ok.noex,ok.exfs,ok.funs,ok.frf⟩
section
variable {X:Cx} {pins:List (Addr × Obj)} {σ:St} {H:Hp} {s:Shared} {E:Value→Shared→Prop}
theorem Inv.wish (I:Inv X pins σ H s) (E:Value→Shared→Prop):Inv (X.wish E) pins σ H s:=⟨I.ok.wish E,I.os,I.bare,I.base,I.loc,I.cell,I.free,I.freeC,I.pin,I.hok,I.len⟩
theorem Inv.unwish (I:Inv (X.wish E) pins σ H s):Inv X pins σ H s:=⟨I.ok.unwish,I.os,I.bare,I.base,I.loc,I.cell,I.free,I.freeC,I.pin,I.hok,I.len⟩
theorem SP.unwish {D:Ends} {f:Flow} {s':Shared} (h:SP (X.wish E) pins D f s'):SP X pins D f s':=by
 cases f with
 | next=>obtain ⟨σ',H',I,q⟩:=h; exact ⟨σ',H',I.unwish,q⟩
 | brk=>obtain ⟨σ',H',I,q⟩:=h; exact ⟨σ',H',I.unwish,q⟩
 | cont=>obtain ⟨σ',H',I,q⟩:=h; exact ⟨σ',H',I.unwish,q⟩
 | ret u=>obtain ⟨v,σ',H',I,r,q⟩:=h; exact ⟨v,σ',H',I.unwish,r,q⟩
theorem PSs.nox {st:List Stmt} {t:TS} (h:PSs X.nox st t):PSs X st t:=fun pins s σ H D I hw=>
 wpAny_mono (h pins s σ H D (I.wish _) hw) (fun _ _ q=>q.unwish) fun _ _ z=>False.elim z
end
section
variable {X:Cx} {st:Stmt} {rest:List Stmt} {t u:TS} {e:Expr} {te:TE} {pos:Pos}
def tNext:TS:=fun D σ H=>D.nx σ H
def tSeq (t u:TS):TS:=fun D σ H=>t { D with nx:=u D } σ H
theorem aw:PSs X [] tNext:=fun _ _ σ H _ I h=>wpAny_execs_nil ⟨σ,H,I,h⟩
theorem ad (h1:PS X st t) (h2:PSs X rest u):PSs X (st::rest) (tSeq t u):=by
 intro pins s σ H D I h
 refine wpAny_execs_cons (thn (h1 pins s σ H { D with nx:=u D } I h) fun f s1 q=>?_)
 cases f with
 | next=>
  obtain ⟨σ',H',I',q⟩:=q
  exact h2 pins s1 σ' H' D I' q
 | ret v=>exact q
 | brk=>exact q
 | cont=>exact q
theorem af (h1:PS X st t):PSs X [st] t:=by
 intro pins s σ H D I h
 refine wpAny_execs_cons (thn (h1 pins s σ H D I h) fun f s1 q=>?_)
 cases f with
 | next=>exact wpAny_execs_nil q
 | ret v=>exact q
 | brk=>exact q
 | cont=>exact q
theorem Inv.quiet {pins:List (Addr × Obj)} {σ:St} {H:Hp} {s:Shared} (I:Inv X pins σ H s):interactive X.env=false:=by simp [interactive,I.ok.kind]
def tDrop (te:TE):TS:=fun D σ H=>te σ H fun _ H1=>D.nx σ H1
theorem ck (he:PE X e te) (hs:swapsWith e none pos.line X.env=pure false:=by rfl):PS X (.Expr e pos) (tDrop te):=by
 intro pins s σ H D I h
 exact wpAny_Expr_any (thn (he pins s σ H _ I h) fun v s1 ⟨x,H1,I1,r1,q1⟩=>⟨σ,H1,I1,q1⟩) I.quiet hs
def tRet (te:TE):TS:=fun D σ H=>te σ H D.rt
theorem ao (he:PE X e te):PS X (.Return (some e) pos) (tRet te):=by
 intro pins s σ H D I h
 exact wpAny_Return_some (thn (he pins s σ H _ I h) fun v s1 ⟨x,H1,I1,r1,q1⟩=>⟨x,σ,H1,I1,r1,q1⟩)
def tRetN:TS:=fun D _ H=>D.rt .non H
def tIfS (c:TT) (t u:TS):TS:=fun D σ H=>c σ H fun b H1=>if b=true then t D σ H1 else u D σ H1
theorem az {c:Expr} {a b:List Stmt} {tc:TT} (hc:PT X c tc) (ha:PSs X a t) (hb:PSs X b u):PS X (.If c a b pos) (tIfS tc t u):=by
 intro pins s σ H D I h
 refine wpAny_If (thn (hc pins s σ H _ I h) fun d s1 ⟨H1,I1,q1⟩=>?_)
 cases d with
 | true=>exact ha pins s1 σ H1 D I1 q1
 | false=>exact hb pins s1 σ H1 D I1 q1
def bQ:TS:=fun _ _ _=>False
theorem bo:PS X st bQ:=fun _ _ _ _ _ _ h=>h.elim
end
abbrev TG:=V→St→Hp→(St→Hp→Prop)→Prop
abbrev TGs:=List V→St→Hp→(St→Hp→Prop)→Prop
def PG (X:Cx) (target:Expr) (t:TG):Prop:=
 ∀ (pins:List (Addr × Obj)) (s:Shared) (σ:St) (H:Hp) (v:V) (u:Value) (Q:St→Hp→Prop),Inv X pins σ H s→RelV v u→t v σ H Q→
  wpAny (model X.prog X.w) X.A (assign target X.env u) (fun _ s'=>∃ σ' H',Inv X pins σ' H' s'∧Q σ' H') X.xe s
def PGs (X:Cx) (ts:List Expr) (t:TGs):Prop:=
 ∀ (pins:List (Addr × Obj)) (s:Shared) (σ:St) (H:Hp) (vs:List V) (us:List Value) (Q:St→Hp→Prop),Inv X pins σ H s→Vals vs us→t vs σ H Q→
  wpAny (model X.prog X.w) X.A (assignInOrder ((assignEach ts X.env).map (·.2)) us) (fun _ s'=>∃ σ' H',Inv X pins σ' H' s'∧Q σ' H') X.xe s
abbrev TSet:=V→V→V→Hp→(Hp→Prop)→Prop
section
variable {X:Cx} {pos:Pos}
def gName (i:Nat):TG:=fun v σ H Q=>Q (σ.set i (some v)) H
theorem aC {i:Nat} {x:Str} (hN:X.N.Nodup) (hi:X.N[i]? =some x) (hx:Loc X.env.scope x) (hf:X.fn x=true∨X.env.scope.names.lookup x=some .local:=by first | exact .inl rfl | exact .inr rfl | assumption):PG X (.Name x pos) (gName i):=by
 intro pins s σ H v u Q I r h
 exact wpAny_assign_Name (gW I hN hi hx r (fun s' I'=>⟨_,H,I',h⟩) hf)
def gNil:TGs:=fun vs σ H Q=>vs=[]∧Q σ H
def gCons (t:TG) (u:TGs):TGs:=fun vs σ H Q=>∃ v r,vs=v::r∧t v σ H fun σ' H'=>u r σ' H' Q
theorem ra:PGs X [] gNil:=by
 intro pins s σ H vs us Q I r h
 obtain ⟨e,h⟩:=h
 subst e
 cases r
 exact assignInOrder_nil ⟨σ,H,I,h⟩
theorem jr {e:Expr} {es:List Expr} {t:TG} {u:TGs} (h1:PG X e t) (h2:PGs X es u)
  (hs:(assignEach (e::es) X.env).map (·.2)=assign e X.env::(assignEach es X.env).map (·.2):=by rfl):PGs X (e::es) (gCons t u):=by
 intro pins s σ H vs us Q I r h
 obtain ⟨v,vr,e1,h⟩:=h
 subst e1
 cases r with
 | cons r rr=>
  rw [hs]
  refine assignInOrder_cons (thn (h1 pins s σ H _ _ _ I r h) fun _ s1 ⟨σ1,H1,I1,q1⟩=>?_)
  exact h2 pins s1 σ1 H1 _ _ Q I1 rr q1
def gTup (K:PySem.W.Frag) (n:Nat) (t:TGs):TG:=fun v σ H Q=>∃ a xs,v=.ref a∧SqT K H a xs∧xs.length=n∧t xs σ H Q
theorem sD {es:List Expr} {k:Nat} {t:TGs} {n:Nat} (hc:X.calm=true) (h:PGs X es t)
  (hn:(assignEach es X.env).length=n:=by rfl) (hst:(assignEach es X.env).findIdx? (·.1)=none:=by rfl):PG X (.Tuple es k pos) (gTup X.K n t):=by
 intro pins s σ H v u Q I r hw
 obtain ⟨a,xs,e1,hq,hl,hw⟩:=hw
 subst e1
 cases r
 obtain ⟨its,rv,ht,hz⟩:=I.tuple hq
 refine assign_Tuple_tuple (I.ok.hd hc) ht (by simp [hn,← hl,rv.length]) hst fun h' hx=>?_
 have I1:Inv X pins σ H { s with heap:=h' }:=I.kept (t':=s.toks) fun b o e=>hx b o (Nat.ne_of_lt (Heap.lt_size e)) e
 exact h pins _ σ H xs _ Q I1 (by simpa using rv) hw
def gSub (to ti:TE) (t:TSet):TG:=fun v σ H Q=>to σ H fun o H1=>ti σ H1 fun i H2=>t o i v H2 fun H3=>Q σ H3
def tAsg (te:TE) (g:TG):TS:=fun D σ H=>te σ H fun x H1=>g x σ H1 D.nx
theorem ak {i:Nat} {x:Str} {e:Expr} {te:TE} {pos':Pos} (hN:X.N.Nodup) (hi:X.N[i]? =some x) (hx:Loc X.env.scope x) (he:PE X e te) (hs:swapsWith e (some (.Name x pos')) pos.line X.env=pure false:=by rfl) (hf:X.fn x=true∨X.env.scope.names.lookup x=some .local:=by first | exact .inl rfl | exact .inr rfl | assumption):
  PS X (.Assign [.Name x pos'] e pos) (tAsg te (gName i)):=by
 intro pins s σ H D I h
 refine wpAny_Assign_Name (thn (he pins s σ H _ I h) fun v s1 ⟨y,H1,I1,r1,q1⟩=>?_) hs
 exact gW I1 hN hi hx r1 (fun s2 I2=>⟨_,H1,I2,q1⟩) hf
end
section
variable {X:Cx} {pos:Pos}
def pD (c:TT) (tb:TS):TS:=fun D σ H=>∃ W:Nat→St→Hp→Prop,(∃ m,W m σ H)∧∀ m σ H,W m σ H→
 c σ H fun b H1=>if b=true then ∃ N:St→Hp→Prop,(∀ σ' H',N σ' H'→∃ m',m' < m∧W m' σ' H')∧tb { D with nx:=N,ct:=N,bk:=D.nx } σ H1 else D.nx σ H1
theorem pE {c:Expr} {body:List Stmt} {tc:TT} {tb:TS} (hp:PassesOwn (model X.prog X.w) X.A X.env X.xe) (hc:PT X c tc) (hb:PSs X body tb):PS X (.While c body [] pos) (pD tc tb):=by
 intro pins s σ H D I h
 obtain ⟨W,⟨m0,w0⟩,turn⟩:=h
 refine wpAny_While (codeAny_whileLoop (fun n s'=>∃ σ' H',Inv X pins σ' H' s'∧W n σ' H') ?_ m0 ⟨σ,H,I,w0⟩)
 rintro n s1 ⟨σ1,H1,I1,w1⟩
 refine wpAny_passesOwn hp (thn (hc pins s1 σ1 H1 _ I1 (turn n σ1 H1 w1)) fun b s2 ⟨H2,I2,q2⟩=>?_)
 cases b with
 | true=>
  obtain ⟨N,hN,q2⟩:=q2
  rw [if_pos rfl]
  refine wpAny_passesOwn hp (thn (hb pins s2 σ1 H2 _ I2 q2) fun f s3 q3=>?_)
  cases f with
  | next=>
   obtain ⟨σ3,H3,I3,n3⟩:=q3
   obtain ⟨m',hm,w3⟩:=hN σ3 H3 n3
   exact ⟨m',hm,σ3,H3,I3,w3⟩
  | cont=>
   obtain ⟨σ3,H3,I3,n3⟩:=q3
   obtain ⟨m',hm,w3⟩:=hN σ3 H3 n3
   exact ⟨m',hm,σ3,H3,I3,w3⟩
  | brk=>exact q3
  | ret v=>exact q3
 | false=>
  rw [if_neg Bool.false_ne_true]
  exact wpAny_execs_nil ⟨σ1,H2,I2,q2⟩
end
structure It where
 go:Nat→Hp→Prop
 yld:Nat→Hp→V→Hp→Prop
 stop:Nat→Hp→Prop
def FpOk (X:Cx) (pins:List (Addr × Obj)) (H:Hp) (b:Addr):Prop:=
 H b=none∧b≠X.env.locals∧b∉X.fs∧(b∈X.ex∨X.s₀.heap.objs.size≤b)∧(∀ x c,X.env.cells.lookup x=some c→c≠b)∧∀ p∈X.pn++pins,p.1≠b
theorem Inv.fpOk {X:Cx} {pins:List (Addr × Obj)} {σ:St} {H H':Hp} {s:Shared} {b:Addr} (I:Inv X pins σ H s) (hb:s.heap.objs.size≤b) (hn:H' b=none):FpOk X pins H' b:=by
 refine ⟨hn,Nat.ne_of_gt (Nat.lt_of_lt_of_le I.lt hb),I.nofs hb,.inr (Nat.le_trans I.sz hb),fun x c e z=>?_,fun p hp z=>?_⟩
 · obtain ⟨v,q⟩:=I.cell x c e
   exact absurd (Nat.lt_of_lt_of_le q.lt (by rw [z]; exact hb)) (Nat.lt_irrefl _)
 · exact absurd (Nat.lt_of_lt_of_le (Heap.lt_size (I.pin p hp).1) (by rw [z]; exact hb)) (Nat.lt_irrefl _)
structure Turn (P:Program) (w:World) (K:PySem.W.Frag) (tg:Expr) (J:It) (fp:List Addr) (it:Addr) (tn:Nat→Heap→Prop):Prop where
 mem:it∈fp
 obj:∀ i h,tn i h→∀ b∈fp,∃ o,h.get? b=some o∧∀ v,o.data≠.cell v
 keep:∀ i h h',tn i h→(∀ b∈fp,∀ o,h.get? b=some o→h'.get? b=some o)→tn i h'
 item:∀ (X:Cx),X.prog=P→X.w=w→X.K=K→X.calm=true→∀ (i:Nat) (pins:List (Addr × Obj)) (s:Shared) (σ:St) (H:Hp) (E:Value→Shared→Prop),Inv X pins σ H s→(∀ b∈fp,FpOk X pins H b)→tn i s.heap→J.go i H→
  wpAny (model P w) X.A (pyNext (.ref it)) (fun r s1=>∃ u,r=some u∧
   wpAny (model P w) X.A (letOwnedTupleGo tg (.ref it) u) (fun _ s2=>∃ x H',Inv X pins σ H' s2∧RelV x u∧J.yld i H x H'∧tn (i+1) s2.heap∧∀ b∈fp,H' b=none) E s1) E s
 done:∀ (X:Cx),X.prog=P→X.w=w→X.K=K→X.calm=true→∀ (i:Nat) (pins:List (Addr × Obj)) (s:Shared) (σ:St) (H:Hp) (E:Value→Shared→Prop),Inv X pins σ H s→(∀ b∈fp,FpOk X pins H b)→tn i s.heap→J.stop i H→
  wpAny (model P w) X.A (pyNext (.ref it)) (fun r s1=>r=none∧Inv X pins σ H s1) E s
 self:∀ (A:Around) (i:Nat) (s:Shared) (Q:Value→Shared→Prop) (E:Value→Shared→Prop),tn i s.heap→Q (.ref it) s→wpAny (model P w) A (pyIter (.ref it)) Q E s
abbrev TI:=St→Hp→(It→Hp→Prop)→Prop
def PIE (X:Cx) (pins:List (Addr × Obj)) (σ:St) (tg:Expr) (R:It→Hp→Prop) (itv:Value) (s2:Shared):Prop:=
 ∃ (it:Addr) (fp:List Addr) (tn:Nat→Heap→Prop) (J:It) (H':Hp),itv=.ref it∧Inv X pins σ H' s2∧Turn X.prog X.w X.K tg J fp it tn∧tn 0 s2.heap∧(∀ b∈fp,FpOk X pins H' b)∧R J H'
def PI (X:Cx) (tg iter:Expr) (wi:TI):Prop:=
 ∀ (pins:List (Addr × Obj)) (s:Shared) (σ:St) (H:Hp) (R:It→Hp→Prop),Inv X pins σ H s→wi σ H R→
  wpAny (model X.prog X.w) X.A (eval iter X.env) (fun v s1=>wpAny (model X.prog X.w) X.A (pyIter v) (PIE X pins σ tg R) X.xe s1) X.xe s
theorem pp {M:Model} {A:Around} {E:Value→Shared→Prop} {s:Shared} {tg:Expr} {it:Addr} {u:Value} {o:Obj} {n:String} {vs:Array Value} {Q:Unit→Shared→Prop} (ho:s.heap.get? it=some o) (hc:o.cls=.type n) (hd:o.data=.fields vs)
  (hn:["enumerate","zip","dict_itemiterator","dict_reverseitemiterator","odict_iterator","itertools.zip_longest","itertools.pairwise"].contains n=false) (hQ:Q () s):wpAny M A (letOwnedTupleGo tg (.ref it) u) Q E s:=by
 unfold letOwnedTupleGo
 cases tg <;> first
  | exact wpAny_pure hQ
  | (cases u <;> first
    | exact wpAny_pure hQ
    | (refine wpAny_bind (wpAny_load ho ?_)
       rw [hc,hd]
       show wpAny M A (if (["enumerate","zip","dict_itemiterator","dict_reverseitemiterator","odict_iterator","itertools.zip_longest","itertools.pairwise"].contains n&&vs[0]? ==some (rawInt _))=true then _ else _) Q E s
       rw [if_neg (by intro h; rw [hn,Bool.false_and] at h; cases h)]
       exact wpAny_pure hQ))
def Itl (K:PySem.W.Frag) (a:Addr):It:=
 ⟨fun i H=>∃ xs x,SqL K H a xs∧xs[i]? =some x,fun i H x H'=>H'=H∧∀ xs,SqL K H a xs→xs[i]? =some x,fun i H=>∃ xs,SqL K H a xs∧xs.length≤i⟩
def Itt (K:PySem.W.Frag) (a:Addr):It:=
 ⟨fun i H=>∃ xs x,SqT K H a xs∧xs[i]? =some x,fun i H x H'=>H'=H∧∀ xs,SqT K H a xs→xs[i]? =some x,fun i H=>∃ xs,SqT K H a xs∧xs.length≤i⟩
def Itr (lo:Int) (n:Nat):It:=⟨fun i _=>i < n,fun i H x H'=>H'=H∧x=.int (lo+i),fun i _=>n≤i⟩
theorem sF {P:Program} {w:World} {K:PySem.W.Frag} {tg:Expr} (a it:Addr):Turn P w K tg (Itl K a) [it] it (fun i h=>h.IsListIter it a i) where
 mem:=by simp
 obj:=fun i h st b hb=>by
  have e:b=it:=by simpa using hb
  subst e
  obtain ⟨o,e,c,d⟩:=st
  exact ⟨o,e,fun v z=>by rw [d] at z; cases z⟩
 keep:=fun i h h' st k=>st.at fun o e=>k it (by simp) o e
 item:=by
  intro X hP hw hK hc i pins s σ H E I hf st hg
  subst hP hw hK
  obtain ⟨xs,x,hq,hx⟩:=hg
  obtain ⟨its,rv,p,hz⟩:=I.list hq
  obtain ⟨u,hu,ru⟩:=rv.get hx
  obtain ⟨f0,f1,f2,f3,f4,f5⟩:=hf it (by simp)
  refine wpAny_pyNext_list_item st p.isList (x:=u) (by simpa using hu) fun h' st' sb=>?_
  have I1:Inv X pins σ H { s with heap:=h' }:=I.turned (t':=s.toks) (fun b o hb e=>(sb.2 b hb).trans e) f0 f1 f3 f4 f5
  obtain ⟨o,e,c,d⟩:=id st'
  exact ⟨u,rfl,pp (s:={ s with heap:=h' }) e c d (by decide) ⟨x,H,I1,ru,⟨rfl,fun ys hy=>by rw [I.list_inj hy hq]; exact hx⟩,st',fun b hb=>(hf b hb).1⟩⟩
 done:=by
  intro X hP hw hK hc i pins s σ H E I hf st hg
  subst hP hw hK
  obtain ⟨xs,hq,hx⟩:=hg
  obtain ⟨its,rv,p,hz⟩:=I.list hq
  obtain ⟨f0,f1,f2,f3,f4,f5⟩:=hf it (by simp)
  have hl:=rv.length
  exact wpAny_pyNext_list_end (I.ok.hd hc) st p.isList (by simp; omega) fun h' eb=>⟨rfl,I.turned (t':=s.toks) (fun b o hb e=>eb b o hb e) f0 f1 f3 f4 f5⟩
 self:=fun _ _ _ _ _ st h=>wpAny_pyIter_listiter st h
theorem rD {P:Program} {w:World} {K:PySem.W.Frag} {tg:Expr} (a it:Addr):Turn P w K tg (Itt K a) [it] it (fun i h=>h.IsTupleIter it a i) where
 mem:=by simp
 obj:=fun i h st b hb=>by
  have e:b=it:=by simpa using hb
  subst e
  obtain ⟨o,e,c,d⟩:=st
  exact ⟨o,e,fun v z=>by rw [d] at z; cases z⟩
 keep:=fun i h h' st k=>st.at fun o e=>k it (by simp) o e
 item:=by
  intro X hP hw hK hc i pins s σ H E I hf st hg
  subst hP hw hK
  obtain ⟨xs,x,hq,hx⟩:=hg
  obtain ⟨its,rv,p,hz⟩:=I.tuple hq
  obtain ⟨u,hu,ru⟩:=rv.get hx
  obtain ⟨f0,f1,f2,f3,f4,f5⟩:=hf it (by simp)
  refine wpAny_pyNext_tuple_item st (show s.heap.IsTuple a its.toArray from p) (x:=u) (by simpa using hu) fun h' st' sb=>?_
  have I1:Inv X pins σ H { s with heap:=h' }:=I.turned (t':=s.toks) (fun b o hb e=>(sb.2 b hb).trans e) f0 f1 f3 f4 f5
  obtain ⟨o,e,c,d⟩:=id st'
  exact ⟨u,rfl,pp (s:={ s with heap:=h' }) e c d (by decide) ⟨x,H,I1,ru,⟨rfl,fun ys hy=>by rw [I.tuple_inj hy hq]; exact hx⟩,st',fun b hb=>(hf b hb).1⟩⟩
 done:=by
  intro X hP hw hK hc i pins s σ H E I hf st hg
  subst hP hw hK
  obtain ⟨xs,hq,hx⟩:=hg
  obtain ⟨its,rv,p,hz⟩:=I.tuple hq
  obtain ⟨f0,f1,f2,f3,f4,f5⟩:=hf it (by simp)
  have hl:=rv.length
  exact wpAny_pyNext_tuple_end (I.ok.hd hc) st (show s.heap.IsTuple a its.toArray from p) (by simp; omega) fun h' eb=>⟨rfl,I.turned (t':=s.toks) (fun b o hb e=>eb b o hb e) f0 f1 f3 f4 f5⟩
 self:=fun _ _ _ _ _ st h=>wpAny_pyIter_tupleiter st h
theorem rE {P:Program} {w:World} {K:PySem.W.Frag} {tg:Expr} (it:Addr) (lo:Int) (n:Nat):Turn P w K tg (Itr lo n) [it] it (fun i h=>IsRangeIter h it (lo+(i:Nat)*1) ((n:Int) - (i:Nat)) 1) where
 mem:=by simp
 obj:=fun i h st b hb=>by
  have e:b=it:=by simpa using hb
  subst e
  exact ⟨_,st,fun v z=>by
   have z':Data.fields _=Data.cell v:=z
   cases z'⟩
 keep:=fun i h h' st k=>k it (by simp) _ st
 item:=by
  intro X hP hw hK hc i pins s σ H E I hf st hg
  subst hP hw hK
  obtain ⟨f0,f1,f2,f3,f4,f5⟩:=hf it (by simp)
  have W:=Walks.range (prog:=X.prog) (w:=X.w) (I.ok.hd hc) it lo 1 n
  refine W.item i s _ _ hg st fun v h' tk hv st' kk=>?_
  obtain ⟨t,rfl⟩:=hv
  have I1:Inv X pins σ H { s with heap:=h',toks:=tk }:=I.turned (fun b o hb e=>kk b o (by simpa using hb) e) f0 f1 f3 f4 f5
  refine ⟨_,rfl,pp (s:={ s with heap:=h',toks:=tk }) (n:="range_iterator") st' rfl rfl (by decide) ⟨.int (lo+i),H,I1,⟨t,?_⟩,⟨rfl,rfl⟩,st',fun b hb=>(hf b hb).1⟩⟩
  rw [Int.mul_one]
 done:=by
  intro X hP hw hK hc i pins s σ H E I hf st hg
  subst hP hw hK
  obtain ⟨f0,f1,f2,f3,f4,f5⟩:=hf it (by simp)
  exact wpAny_pyNext_range_end (I.ok.hd hc) st (by have:n≤i:=hg; omega) fun h' eb=>⟨rfl,I.turned (t':=s.toks) (fun b o hb e=>eb b o hb e) f0 f1 f3 f4 f5⟩
 self:=fun _ _ _ _ _ st h=>wpAny_pyIter_rangeiter st h
end L2
namespace L2
open PySem PySem.Spec PyProof.Rows
section
variable {X:Cx} {tg:Expr}
def iList (K:PySem.W.Frag) (tl:TE):TI:=fun σ H R=>tl σ H fun x H1=>∃ a,x=.ref a∧(∃ xs,SqL K H1 a xs)∧R (Itl K a) H1
def iTup (K:PySem.W.Frag) (tl:TE):TI:=fun σ H R=>tl σ H fun x H1=>∃ a,x=.ref a∧(∃ xs,SqT K H1 a xs)∧R (Itt K a) H1
theorem be {l:Expr} {tl:TE} (hl:PE X l tl):PI X tg l (iList X.K tl):=by
 intro pins s σ H R I h
 refine thn (hl pins s σ H _ I h) fun v s1 ⟨x,H1,I1,r1,q1⟩=>?_
 obtain ⟨a,e,⟨xs,hq⟩,q⟩:=q1
 subst e
 cases r1
 obtain ⟨its,rv,p,hz⟩:=I1.list hq
 refine wpAny_pyIter_list p.isList ?_
 refine ⟨s1.heap.objs.size,[s1.heap.objs.size],_,_,H1,rfl,I1.kept (t':=s1.toks) fun b o e=>Heap.get?_push_of_some _ e,sF a _,⟨_,Heap.get?_push_size _ rfl,rfl,rfl⟩,fun b hb=>?_,q⟩
 have e:b=s1.heap.objs.size:=by simpa using hb
 subst e
 exact I1.fpOk (Nat.le_refl _) (I1.hok.fresh (Nat.le_refl _))
theorem sG {l:Expr} {tl:TE} (hl:PE X l tl):PI X tg l (iTup X.K tl):=by
 intro pins s σ H R I h
 refine thn (hl pins s σ H _ I h) fun v s1 ⟨x,H1,I1,r1,q1⟩=>?_
 obtain ⟨a,e,⟨xs,hq⟩,q⟩:=q1
 subst e
 cases r1
 obtain ⟨its,rv,p,hz⟩:=I1.tuple hq
 refine wpAny_pyIter_tuple (show s1.heap.IsTuple a its.toArray from p) ?_
 refine ⟨s1.heap.objs.size,[s1.heap.objs.size],_,_,H1,rfl,I1.kept (t':=s1.toks) fun b o e=>Heap.get?_push_of_some _ e,rD a _,⟨_,Heap.get?_push_size _ rfl,rfl,rfl⟩,fun b hb=>?_,q⟩
 have e:b=s1.heap.objs.size:=by simpa using hb
 subst e
 exact I1.fpOk (Nat.le_refl _) (I1.hok.fresh (Nat.le_refl _))
theorem ul {pins:List (Addr × Obj)} {σ:St} {H:Hp} {s:Shared} {R:It→Hp→Prop} {E:Value→Shared→Prop} {lo hi:Int} {t u v:Tok} {tk:Nat} (I:Inv X pins σ H s) (h1: -(2^62)≤lo) (h2:lo < 2^62) (h3: -(2^62)≤hi) (h4:hi < 2^62)
  (q:R (Itr lo (hi - lo).toNat) H):wpAny (model X.prog X.w) X.A (pyIter (.ref s.heap.objs.size)) (PIE X pins σ tg R) E { s with heap:=s.heap.push { cls:=.type "range",data:=.fields #[.int lo t,.int hi u,.int 1 v] },toks:=tk }:=by
 refine wpAny_pyIter_range (IsRange.new ..) (small_one h1 h2 h3 h4) ?_
 have I1:Inv X pins σ H { s with heap:=s.heap.push { cls:=.type "range",data:=.fields #[.int lo t,.int hi u,.int 1 v] },toks:=tk }:=I.kept fun b o e=>Heap.get?_push_of_some _ e
 refine ⟨(s.heap.push { cls:=.type "range",data:=.fields #[.int lo t,.int hi u,.int 1 v] }).objs.size,[(s.heap.push { cls:=.type "range",data:=.fields #[.int lo t,.int hi u,.int 1 v] }).objs.size],_,_,H,rfl,
  I1.kept (t':=tk) fun b o e=>Heap.get?_push_of_some _ e,rE _ lo (hi - lo).toNat,?_,fun b hb=>?_,q⟩
 · have e1:lo+((0:Nat):Int)*1=lo:=by simp
   have e2:(((hi - lo).toNat:Nat):Int) - ((0:Nat):Int)=Builtin.Range.rangeSize lo hi 1:=by rw [rangeSize_one]; split <;> omega
   show IsRangeIter _ _ (lo+((0:Nat):Int)*1) ((((hi - lo).toNat:Nat):Int) - ((0:Nat):Int)) 1
   rw [e1,e2]
   exact Heap.get?_push_size _ rfl
 · have e:b=(s.heap.push { cls:=.type "range",data:=.fields #[.int lo t,.int hi u,.int 1 v] }).objs.size:=by simpa using hb
   subst e
   exact I1.fpOk (Nat.le_refl _) (I1.hok.fresh (Nat.le_refl _))
def fZ (ta:TA):TI:=fun σ H R=>ta σ H fun vs H1=>∃ j:Int,vs=[.int j]∧ -(2^62)≤j∧j < 2^62∧R (Itr 0 j.toNat) H1
def rF (ta:TA):TI:=fun σ H R=>ta σ H fun vs H1=>∃ i j:Int,vs=[.int i,.int j]∧(-(2^62)≤i∧i < 2^62∧ -(2^62)≤j∧j < 2^62)∧R (Itr i (j - i).toNat) H1
theorem eK {a:Expr} {ta:TA} {p pos:Pos} (hg:Gl X "range") (hm:X.mg "range"=none) (ha:PA X [a] ta) (hs:starEach [a] X.env=[(false,eval a X.env)]:=by rfl):PI X tg (.Call (.Name "range" p) [a] [] pos) (fZ ta):=by
 intro pins s σ H R I h
 refine Call_ (di I hg hm boot_range (PyProof.Rows.callWith_type1 (thn (ha pos pins s σ H _ I h) fun us s1 ⟨vs,H1,I1,r1,q1⟩=>?_) hs rfl))
 obtain ⟨j,e,q1,q2,q⟩:=q1
 subst e
 cases r1 with
 | cons r rr=>
  cases rr
  obtain ⟨t,rfl⟩:=r
  exact call_range_1 (ul I1 (by omega) (by omega) q1 q2 (by simpa using q))
def tFor (wi:TI) (g:TG) (tb:TS):TS:=fun D σ H=>wi σ H fun J H1=>∃ W:Nat→Nat→St→Hp→Prop,(∃ m,W 0 m σ H1)∧∀ i m σ H,W i m σ H→
 (J.stop i H∧D.nx σ H)∨(J.go i H∧∃ N:St→Hp→Prop,(∀ σ' H',N σ' H'→∃ m',m' < m∧W (i+1) m' σ' H')∧∀ x H',J.yld i H x H'→g x σ H' fun σ2 H2=>tb { D with nx:=N,ct:=N,bk:=D.nx } σ2 H2)
def jS (fp:List Addr) (h:Heap):List (Addr × Obj):=fp.filterMap fun b=>(h.get? b).map fun o=>(b,o)
theorem gG {fp:List Addr} {h:Heap} {b:Addr} {o:Obj} (hb:b∈fp) (e:h.get? b=some o):(b,o)∈jS fp h:=List.mem_filterMap.mpr ⟨b,hb,by rw [e]; rfl⟩
theorem sH {fp:List Addr} {h:Heap} {p:Addr × Obj} (hp:p∈jS fp h):p.1∈fp∧h.get? p.1=some p.2:=by
 obtain ⟨b,hb,e⟩:=List.mem_filterMap.mp hp
 cases q:h.get? b with
 | none=>rw [q] at e; cases e
 | some o=>
  rw [q] at e
  have e':(b,o)=p:=Option.some.inj e
  subst e'
  exact ⟨hb,q⟩
theorem Inv.pinned {pins:List (Addr × Obj)} {σ:St} {H:Hp} {s:Shared} {fp:List Addr} (I:Inv X pins σ H s) (hf:∀ b∈fp,FpOk X pins H b) (ho:∀ b∈fp,∃ o,s.heap.get? b=some o∧∀ v,o.data≠.cell v):Inv X (pins++jS fp s.heap) σ H s:=
 I.pins_of fun p hp=>(List.mem_append.mp hp).elim (fun z=>I.pin p (List.mem_append_right _ z)) fun z=>by
  obtain ⟨hb,e⟩:=sH z
  obtain ⟨f0,f1,f2,_⟩:=hf p.1 hb
  obtain ⟨o,e',d⟩:=ho p.1 hb
  rw [e] at e'; cases e'
  exact ⟨e,f0,f1,f2,d⟩
theorem Inv.unpinned {pins pl:List (Addr × Obj)} {σ:St} {H:Hp} {s:Shared} (I:Inv X (pins++pl) σ H s):Inv X pins σ H s:=I.pins_of fun p hp=>I.pin p (List.mem_append_right _ (List.mem_append_left _ hp))
theorem gh {iter:Expr} {body:List Stmt} {wi:TI} {g:TG} {tb:TS} {pos:Pos} (hp:PassesOwn (model X.prog X.w) X.A X.env X.xe) (hc:X.calm=true) (hi:PI X tg iter wi) (hg:PG X tg g) (hb:PSs X body tb)
  (hs:∀ x,foldedSetIterable iter X.env x=pure x:=by intro _; rfl):PS X (.For tg iter body [] pos) (tFor wi g tb):=by
 intro pins s σ H D I h
 refine wpAny_For (thn (hi pins s σ H _ I h) fun v s1 h1=>thn h1 fun itv s2 h2=>?_) hs
 obtain ⟨it,fp,tn,J,H2,e,I2,T,st2,f2,W,⟨m0,w0⟩,turn⟩:=h2
 subst e
 have stat:∀ {H':Hp},(∀ b∈fp,H' b=none)→∀ b∈fp,FpOk X pins H' b:=fun hn b hb=>⟨hn b hb,(f2 b hb).2⟩
 refine codeAny_forLoop_any (fun n s'=>∃ i σ' H',Inv X pins σ' H' s'∧tn i s'.heap∧(∀ b∈fp,H' b=none)∧W i n σ' H') ?_ m0 ⟨0,σ,H2,I2,st2,fun b hb=>(f2 b hb).1,w0⟩
 rintro n s3 ⟨i,σ3,H3,I3,st3,fr3,w3⟩
 rcases turn i n σ3 H3 w3 with ⟨stop,qn⟩ | ⟨go,N,hN,step⟩
 · refine wpAny_passesOwn hp (thn (T.done X rfl rfl rfl hc i pins s3 σ3 H3 X.xe I3 (stat fr3) st3 stop) fun r s4 ⟨hr,I4⟩=>?_)
   subst hr
   exact wpAny_execs_nil ⟨σ3,H3,I4,qn⟩
 · refine wpAny_passesOwn hp (thn (T.item X rfl rfl rfl hc i pins s3 σ3 H3 X.xe I3 (stat fr3) st3 go) fun r s4 ⟨u,hr,h4⟩=>?_)
   subst hr
   refine wpAny_passesOwn hp (thn h4 fun _ s5 ⟨x,H5,I5,r5,y5,st5,fr5⟩=>?_)
   have I5':=I5.pinned (stat fr5) (T.obj _ _ st5)
   refine wpAny_passesOwn hp (thn (hg _ s5 σ3 H5 x u _ I5' r5 (step x H5 y5)) fun _ s6 ⟨σ6,H6,I6,q6⟩=>?_)
   refine wpAny_passesOwn hp (thn (hb _ s6 σ6 H6 _ I6 q6) fun f s7 q7=>?_)
   have again:∀ {σ7:St} {H7:Hp},Inv X (pins++jS fp s5.heap) σ7 H7 s7→N σ7 H7→∃ m,m < n∧∃ i σ' H',Inv X pins σ' H' s7∧tn i s7.heap∧(∀ b∈fp,H' b=none)∧W i m σ' H':=fun {σ7 H7} I7 n7=>by
    obtain ⟨m',hm,w7⟩:=hN σ7 H7 n7
    refine ⟨m',hm,i+1,σ7,H7,I7.unpinned,T.keep _ _ _ st5 fun b hb o e=>(I7.pin (b,o) (List.mem_append_right _ (List.mem_append_right _ (gG hb e)))).1,fun b hb=>?_,w7⟩
    obtain ⟨o,e,d⟩:=T.obj _ _ st5 b hb
    exact (I7.pin (b,o) (List.mem_append_right _ (List.mem_append_right _ (gG hb e)))).2.1
   cases f with
   | next=>obtain ⟨σ7,H7,I7,n7⟩:=q7; exact again I7 n7
   | cont=>obtain ⟨σ7,H7,I7,n7⟩:=q7; exact again I7 n7
   | brk=>obtain ⟨σ7,H7,I7,q7⟩:=q7; exact ⟨σ7,H7,I7.unpinned,q7⟩
   | ret v=>obtain ⟨x7,σ7,H7,I7,r7,q7⟩:=q7; exact ⟨x7,σ7,H7,I7.unpinned,r7,q7⟩
end
theorem fM {K:PySem.W.Frag} {a:Addr} {xs:List V} {g:TG} {tb:TS} {D:Ends} {σ:St} {H:Hp} (Pv:Nat→St→Hp→Prop) (h0:Pv 0 σ H) (hl:∀ i σ H,i≤xs.length→Pv i σ H→SqL K H a xs)
  (hs:∀ i x σ H,xs[i]? =some x→Pv i σ H→g x σ H fun σ2 H2=>tb { D with nx:=Pv (i+1),ct:=Pv (i+1),bk:=D.nx } σ2 H2) (hd:∀ σ H,Pv xs.length σ H→D.nx σ H):
  ∃ W:Nat→Nat→St→Hp→Prop,(∃ m,W 0 m σ H)∧∀ i m σ H,W i m σ H→
   ((Itl K a).stop i H∧D.nx σ H)∨((Itl K a).go i H∧∃ N:St→Hp→Prop,(∀ σ' H',N σ' H'→∃ m',m' < m∧W (i+1) m' σ' H')∧∀ x H',(Itl K a).yld i H x H'→g x σ H' fun σ2 H2=>tb { D with nx:=N,ct:=N,bk:=D.nx } σ2 H2):=by
 refine ⟨fun i m σ H=>m=xs.length - i∧i≤xs.length∧Pv i σ H,⟨xs.length,by simp,Nat.zero_le _,h0⟩,?_⟩
 rintro i m σ H ⟨rfl,hi,p⟩
 have q:=hl i σ H hi p
 by_cases hlt:i < xs.length
 · refine .inr ⟨⟨xs,xs[i],q,by simp [hlt]⟩,Pv (i+1),fun σ' H' p'=>⟨xs.length - (i+1),by omega,rfl,hlt,p'⟩,fun x H' y=>?_⟩
   obtain ⟨e,y⟩:=y
   subst e
   exact hs i x σ _ (y xs q) p
 · have e:i=xs.length:=by omega
   subst e
   exact .inl ⟨⟨xs,q,Nat.le_refl _⟩,hd σ H p⟩
theorem nX {lo:Int} {n:Nat} {g:TG} {tb:TS} {D:Ends} {σ:St} {H:Hp} (Pv:Nat→St→Hp→Prop) (h0:Pv 0 σ H)
  (hs:∀ i σ H,i < n→Pv i σ H→g (.int (lo+i)) σ H fun σ2 H2=>tb { D with nx:=Pv (i+1),ct:=Pv (i+1),bk:=D.nx } σ2 H2) (hd:∀ σ H,Pv n σ H→D.nx σ H):
  ∃ W:Nat→Nat→St→Hp→Prop,(∃ m,W 0 m σ H)∧∀ i m σ H,W i m σ H→
   ((Itr lo n).stop i H∧D.nx σ H)∨((Itr lo n).go i H∧∃ N:St→Hp→Prop,(∀ σ' H',N σ' H'→∃ m',m' < m∧W (i+1) m' σ' H')∧∀ x H',(Itr lo n).yld i H x H'→g x σ H' fun σ2 H2=>tb { D with nx:=N,ct:=N,bk:=D.nx } σ2 H2):=by
 refine ⟨fun i m σ H=>m=n - i∧i≤n∧Pv i σ H,⟨n,by simp,Nat.zero_le _,h0⟩,?_⟩
 rintro i m σ H ⟨rfl,hi,p⟩
 by_cases hlt:i < n
 · refine .inr ⟨hlt,Pv (i+1),fun σ' H' p'=>⟨n - (i+1),by omega,rfl,hlt,p'⟩,fun x H' y=>?_⟩
   obtain ⟨e,y⟩:=y
   subst e y
   exact hs i σ _ hlt p
 · have e:i=n:=by omega
   subst e
   exact .inl ⟨Nat.le_refl _,hd σ H p⟩
end L2
namespace L2
open PySem PySem.Spec PyProof.Rows
abbrev R2:=V→V→Hp→VK→Prop
def OpR (X:Cx) (f:Value→Value→Sem Value) (r:R2):Prop:=
 ∀ (pins:List (Addr × Obj)) (s:Shared) (σ:St) (H:Hp) (x y:V) (v u:Value) (Q:VK),Inv X pins σ H s→RelV x v→RelV y u→r x y H Q→
  wpAny (model X.prog X.w) X.A (f v u) (EP X pins σ Q) X.xe s
def CallR (X:Cx) (f:Value) (r:List V→Hp→VK→Prop):Prop:=
 ∀ (pins:List (Addr × Obj)) (s:Shared) (σ:St) (H:Hp) (xs:List V) (us:List Value) (Q:VK),Inv X pins σ H s→Vals xs us→r xs H Q→
  wpAny (model X.prog X.w) X.A (call f us) (EP X pins σ Q) X.xe s
def tOp (r:R2) (ta tb:TE):TE:=fun σ H Q=>ta σ H fun x H1=>tb σ H1 fun y H2=>r x y H2 Q
def tUn (r:V→Hp→VK→Prop) (ta:TE):TE:=fun σ H Q=>ta σ H fun x H1=>r x H1 Q
def rI (C:Int→Int→Prop) (g:Int→Int→V):R2:=fun x y H Q=>∃ i j,x=.int i∧y=.int j∧C i j∧Q (g i j) H
def rI0 (g:Int→Int→V):R2:=fun x y H Q=>∃ i j,x=.int i∧y=.int j∧Q (g i j) H
def rU (g:Int→V):V→Hp→VK→Prop:=fun x H Q=>∃ i,x=.int i∧Q (g i) H
section
variable {X:Cx} {a b c:Expr} {ta tb tc:TE} {pos:Pos}
theorem binT (ha:PE X a ta) (hb:PE X b tb) {pins:List (Addr × Obj)} {s:Shared} {σ:St} {H:Hp} {R:V→V→Hp→Prop} (I:Inv X pins σ H s)
  (h:ta σ H fun x H1=>tb σ H1 fun y H2=>R x y H2) {Q:Value→Shared→Prop} {f:Value→Value→Sem Value}
  (hf:∀ v u s2 x y H2,Inv X pins σ H2 s2→RelV x v→RelV y u→R x y H2→wpAny (model X.prog X.w) X.A (f v u) Q X.xe s2):
  wpAny (model X.prog X.w) X.A (eval a X.env) (fun v s₁=>wpAny (model X.prog X.w) X.A (eval b X.env) (fun u s₂=>wpAny (model X.prog X.w) X.A (f v u) Q X.xe s₂) X.xe s₁) X.xe s:=by
 refine thn (ha pins s σ H _ I h) fun v s1 ⟨x,H1,I1,r1,q1⟩=>?_
 refine thn (hb pins s1 σ H1 _ I1 q1) fun u s2 ⟨y,H2,I2,r2,q2⟩=>?_
 exact hf v u s2 x y H2 I2 r1 r2 q2
theorem av {op:Operator} {r:R2} (ho:OpR X (binaryOp op) r) (ha:PE X a ta) (hb:PE X b tb):PE X (.BinOp a op b pos) (tOp r ta tb):=by
 intro pins s σ H Q I h
 exact wpAny_BinOp (binT ha hb I h fun v u s2 x y H2 I2 rx ry q=>ho pins s2 σ H2 x y v u Q I2 rx ry q)
theorem opI {f:Value→Value→Sem Value} {C:Int→Int→Prop} {g:Int→Int→Int}
  (rule:∀ (i j:Int) (t u:Tok) (s:Shared) (Q:Value→Shared→Prop) (E:Value→Shared→Prop),C i j→Q (.int (g i j) s.toks) { s with toks:=s.toks+1 }→wpAny (model X.prog X.w) X.A (f (.int i t) (.int j u)) Q E s):
  OpR X f (rI C fun i j=>.int (g i j)):=by
 intro pins s σ H x y v u Q I rx ry h
 obtain ⟨i,j,rfl,rfl,hc,q⟩:=h
 obtain ⟨t,rfl⟩:=rx
 obtain ⟨t',rfl⟩:=ry
 exact rule i j t t' s _ _ hc ⟨.int (g i j),H,I.tok _,⟨_,rfl⟩,q⟩
theorem vW {f:Value→Value→Sem Value} {g:Int→Int→Int}
  (rule:∀ (i j:Int) (t u:Tok) (s:Shared) (Q:Value→Shared→Prop) (E:Value→Shared→Prop),Q (.int (g i j) s.toks) { s with toks:=s.toks+1 }→wpAny (model X.prog X.w) X.A (f (.int i t) (.int j u)) Q E s):
  OpR X f (rI0 fun i j=>.int (g i j)):=by
 intro pins s σ H x y v u Q I rx ry h
 obtain ⟨i,j,rfl,rfl,q⟩:=h
 obtain ⟨t,rfl⟩:=rx
 obtain ⟨t',rfl⟩:=ry
 exact rule i j t t' s _ _ ⟨.int (g i j),H,I.tok _,⟨_,rfl⟩,q⟩
theorem um {f:Value→Value→Sem Value} {g:Int→Int→Bool}
  (rule:∀ (i j:Int) (t u:Tok) (s:Shared) (Q:Value→Shared→Prop) (E:Value→Shared→Prop),Q (.bool (g i j)) s→wpAny (model X.prog X.w) X.A (f (.int i t) (.int j u)) Q E s):
  OpR X f (rI0 fun i j=>.bl (g i j)):=by
 intro pins s σ H x y v u Q I rx ry h
 obtain ⟨i,j,rfl,rfl,q⟩:=h
 obtain ⟨t,rfl⟩:=rx
 obtain ⟨t',rfl⟩:=ry
 exact rule i j t t' s _ _ ⟨.bl (g i j),H,I,rfl,q⟩
def CDiv (i j:Int):Prop:=0 < j∧j < 1073741824
def CPow (i j:Int):Prop:=0≤j∧j≤1000000∧i.natAbs < 2^64
def CMul (i j:Int):Prop:=(-(2^64) < i∧i < 2^64)∨(-(2^64) < j∧j < 2^64)
theorem CMul.ok {i j:Int} (h:CMul i j):IntMulOk i j:=by
 rcases h with ⟨h1,h2⟩ | ⟨h1,h2⟩
 · exact .of_left (intBits_le_64 h1 h2)
 · exact .of_right (intBits_le_64 h1 h2)
theorem vX:OpR X (binaryOp .Add) (rI0 fun i j=>.int (i+j)):=vW fun _ _ _ _ _ _ _ q=>add_int q
theorem vY:OpR X (binaryOp .Sub) (rI0 fun i j=>.int (i - j)):=vW fun _ _ _ _ _ _ _ q=>sub_int q
theorem vZ:OpR X (binaryOp .Mult) (rI CMul fun i j=>.int (i*j)):=opI fun _ _ _ _ _ _ _ hc q=>mul_int q hc.ok
theorem u8:OpR X (binaryOp .FloorDiv) (rI CDiv fun i j=>.int (i / j)):=opI fun i j _ _ _ _ _ hc q=>by
 have h1:(0:Int) < j:=hc.1
 have h2:j < 1073741824:=hc.2
 exact floordiv_int (by omega) (by rw [Int.fdiv_eq_ediv_of_nonneg i (by omega)]; exact q) (.inl (PyProof.noPylong_small (by omega)))
theorem v1:OpR X (binaryOp .Mod) (rI (fun _ j=>0 < j) fun i j=>.int (i % j)):=opI fun i j _ _ _ _ _ hc q=>by
 have h1:(0:Int) < j:=hc
 exact mod_int' (by omega) (by rw [Int.fmod_eq_emod_of_nonneg i (by omega)]; exact q)
end
def scal:V→V→Bool
 | .non,.non=>true | .non,.int _=>true | .int _,.non=>true | .non,.bl _=>true | .bl _,.non=>true | .non,.str _=>true | .str _,.non=>true
 | .int _,.int _=>true | .bl _,.bl _=>true | .str _,.str _=>true | .byt _,.byt _=>true
 | .int _,.str _=>true | .str _,.int _=>true | .bl _,.str _=>true | .str _,.bl _=>true
 | _,_=>false
def rEq:R2:=fun x y H Q=>scal x y=true∧Q (.bl (decide (x=y))) H
def rNe:R2:=fun x y H Q=>scal x y=true∧Q (.bl (!decide (x=y))) H
theorem rb {i j:Int}:decide (V.int i=V.int j)=(i==j):=by
 rw [Bool.eq_iff_iff]
 simp
theorem sI {i j:Bool}:decide (V.bl i=V.bl j)=(i==j):=by
 rw [Bool.eq_iff_iff]
 simp
theorem rd {i j:Str}:decide (V.str i=V.str j)=(i==j):=by
 rw [Bool.eq_iff_iff]
 simp
theorem re {i j:Array UInt8}:decide (V.byt i=V.byt j)=(i.toList==j.toList):=by
 rw [Bool.eq_iff_iff]
 cases i
 cases j
 simp
section
variable {X:Cx} {a b c:Expr} {ta tb tc:TE} {pos:Pos}
theorem aF {pins:List (Addr × Obj)} {σ:St} {H:Hp} {s:Shared} {Q:VK} {k k':Bool} (I:Inv X pins σ H s) (q:Q (.bl k) H) (e:k=k'):EP X pins σ Q (.bool k') s:=by
 subst e
 exact ⟨.bl k,H,I,rfl,q⟩
theorem rG:OpR X (compareOp .Eq) rEq:=by
 intro pins s σ H x y v u Q I rx ry h
 obtain ⟨hs,q⟩:=h
 cases x with
 | non=>
  cases rx
  cases y with
  | non=>cases ry; exact PySem.EqNone.eq_none_none (aF I q (by simp))
  | bl j=>cases ry; exact PySem.EqNone.eq_none_bool (aF I q (by simp))
  | int j=>obtain ⟨t',rfl⟩:=ry; exact PySem.EqNone.eq_none_int (aF I q (by simp))
  | str j=>obtain ⟨t',rfl⟩:=ry; exact PySem.EqNone.eq_none_str (aF I q (by simp))
  | _=>exact absurd (show false=true from hs) Bool.false_ne_true
 | bl i=>
  cases rx
  cases y with
  | non=>cases ry; exact PySem.EqNone.eq_bool_none (aF I q (by simp))
  | bl j=>cases ry; exact eq_bool (aF I q sI)
  | str j=>obtain ⟨t',rfl⟩:=ry; exact PySem.EqMixed.eq_bool_str (aF I q (by simp))
  | _=>exact absurd (show false=true from hs) Bool.false_ne_true
 | int i=>
  obtain ⟨t,rfl⟩:=rx
  cases y with
  | non=>cases ry; exact PySem.EqNone.eq_int_none (aF I q (by simp))
  | int j=>obtain ⟨t',rfl⟩:=ry; exact eq_int (aF I q rb)
  | str j=>obtain ⟨t',rfl⟩:=ry; exact PySem.EqMixed.eq_int_str (aF I q (by simp))
  | _=>exact absurd (show false=true from hs) Bool.false_ne_true
 | str i=>
  obtain ⟨t,rfl⟩:=rx
  cases y with
  | non=>cases ry; exact PySem.EqNone.eq_str_none (aF I q (by simp))
  | bl j=>cases ry; exact PySem.EqMixed.eq_str_bool (aF I q (by simp))
  | int j=>obtain ⟨t',rfl⟩:=ry; exact PySem.EqMixed.eq_str_int (aF I q (by simp))
  | str j=>obtain ⟨t',rfl⟩:=ry; exact eq_str (aF I q rd)
  | _=>exact absurd (show false=true from hs) Bool.false_ne_true
 | byt i=>
  obtain ⟨t,rfl⟩:=rx
  cases y with
  | byt j=>obtain ⟨t',rfl⟩:=ry; exact PySem.W.eq_bytes (aF I q re)
  | _=>exact absurd (show false=true from hs) Bool.false_ne_true
 | _=>cases y <;> exact absurd (show false=true from hs) Bool.false_ne_true
theorem rH:OpR X (compareOp .NotEq) rNe:=by
 intro pins s σ H x y v u Q I rx ry h
 obtain ⟨hs,q⟩:=h
 cases x with
 | non=>
  cases rx
  cases y with
  | non=>cases ry; exact PySem.EqNone.ne_none_none (aF I q (by simp))
  | bl j=>cases ry; exact PySem.EqNone.ne_none_bool (aF I q (by simp))
  | int j=>obtain ⟨t',rfl⟩:=ry; exact PySem.EqNone.ne_none_int (aF I q (by simp))
  | str j=>obtain ⟨t',rfl⟩:=ry; exact PySem.EqNone.ne_none_str (aF I q (by simp))
  | _=>exact absurd (show false=true from hs) Bool.false_ne_true
 | bl i=>
  cases rx
  cases y with
  | non=>cases ry; exact PySem.EqNone.ne_bool_none (aF I q (by simp))
  | bl j=>cases ry; exact ne_bool (aF I q (congrArg not sI))
  | str j=>obtain ⟨t',rfl⟩:=ry; exact PySem.EqMixed.ne_bool_str (aF I q (by simp))
  | _=>exact absurd (show false=true from hs) Bool.false_ne_true
 | int i=>
  obtain ⟨t,rfl⟩:=rx
  cases y with
  | non=>cases ry; exact PySem.EqNone.ne_int_none (aF I q (by simp))
  | int j=>obtain ⟨t',rfl⟩:=ry; exact ne_int (aF I q (congrArg not rb))
  | str j=>obtain ⟨t',rfl⟩:=ry; exact PySem.EqMixed.ne_int_str (aF I q (by simp))
  | _=>exact absurd (show false=true from hs) Bool.false_ne_true
 | str i=>
  obtain ⟨t,rfl⟩:=rx
  cases y with
  | non=>cases ry; exact PySem.EqNone.ne_str_none (aF I q (by simp))
  | bl j=>cases ry; exact PySem.EqMixed.ne_str_bool (aF I q (by simp))
  | int j=>obtain ⟨t',rfl⟩:=ry; exact PySem.EqMixed.ne_str_int (aF I q (by simp))
  | str j=>obtain ⟨t',rfl⟩:=ry; exact ne_str (aF I q (congrArg not rd))
  | _=>exact absurd (show false=true from hs) Bool.false_ne_true
 | byt i=>
  obtain ⟨t,rfl⟩:=rx
  cases y with
  | byt j=>obtain ⟨t',rfl⟩:=ry; exact PySem.W.ne_bytes (aF I q (congrArg not re))
  | _=>exact absurd (show false=true from hs) Bool.false_ne_true
 | _=>cases y <;> exact absurd (show false=true from hs) Bool.false_ne_true
theorem wO:OpR X (compareOp .Lt) (rI0 fun i j=>.bl (decide (i < j))):=um fun _ _ _ _ _ _ _ q=>lt_int q
theorem wP:OpR X (compareOp .LtE) (rI0 fun i j=>.bl (decide (i≤j))):=um fun _ _ _ _ _ _ _ q=>le_int q
theorem wQ:OpR X (compareOp .Gt) (rI0 fun i j=>.bl (decide (j < i))):=um fun _ _ _ _ _ _ _ q=>gt_int q
theorem sJ:OpR X (compareOp .In) (fun x y H Q=>∃ i j,x=.str i∧y=.str j∧Q (.bl (!(Builtin.Str.occurrences j i 0 j.length 1).isEmpty)) H):=by
 intro pins s σ H x y v u Q I rx ry h
 obtain ⟨i,j,rfl,rfl,q⟩:=h
 obtain ⟨t,rfl⟩:=rx
 obtain ⟨t',rfl⟩:=ry
 exact in_str (aF I q rfl)
theorem sK:OpR X (compareOp .Is) (fun x y H Q=>y=.non∧Q (.bl (decide (x=.non))) H):=by
 intro pins s σ H x y v u Q I rx ry h
 obtain ⟨rfl,q⟩:=h
 cases ry
 refine is_none_gen (aF I q ?_)
 cases x <;> first
  | (cases rx; rfl)
  | (obtain ⟨t,rfl⟩:=rx; rfl)
theorem ap (b:Expr) {op:CmpOp} (h:op≠.In:=by decide) (h2:op≠.NotIn:=by decide):behindInMarks op b=false:=by
 have e1:(op==CmpOp.In)=false:=by cases op <;> first | rfl | exact absurd rfl h
 have e2:(op==CmpOp.NotIn)=false:=by cases op <;> first | rfl | exact absurd rfl h2
 cases b <;> simp [behindInMarks,e1,e2]
theorem aU {op:CmpOp} {r:R2} (ho:OpR X (compareOp op) r) (ha:PE X a ta) (hb:PE X b tb) (hm:behindInMarks op b=false):PE X (.Compare a [op] [b] pos) (tOp r ta tb):=by
 intro pins s σ H Q I h
 exact wpAny_Compare1 (binT ha hb I h fun v u s2 x y H2 I2 rx ry q=>ho pins s2 σ H2 x y v u Q I2 rx ry q) hm
def tTest (t:TE):TT:=fun σ H Q=>t σ H fun x H'=>∃ k,x=.bl k∧Q k H'
theorem ar {op:CmpOp} {r:R2} (ho:OpR X (compareOp op) r) (ha:PE X a ta) (hb:PE X b tb) (hm:behindInMarks op b=false):PT X (.Compare a [op] [b] pos) (tTest (tOp r ta tb)):=by
 intro pins s σ H Q I h
 refine wpAny_isTrue_Compare1 (thn (ha pins s σ H _ I h) fun v s1 ⟨x,H1,I1,r1,q1⟩=>thn (hb pins s1 σ H1 _ I1 q1) fun u s2 ⟨y,H2,I2,r2,q2⟩=>
  thn (ho pins s2 σ H2 x y v u _ I2 r1 r2 q2) fun c s3 ⟨z,H3,I3,r3,k,e,q3⟩=>?_) hm
 subst e
 cases r3
 exact wpAny_truthy_bool ⟨H3,I3,q3⟩
theorem jT:(sizeLine:Nat) < 2^63:=by rw [sizeLine_eq]; decide
theorem rJ:OpR X (binaryOp .Add) (fun x y H Q=>∃ i j,x=.str i∧y=.str j∧i.length+j.length≤sizeLine∧Q (.str (i++j)) H):=by
 intro pins s σ H x y v u Q I rx ry h
 obtain ⟨i,j,rfl,rfl,hz,q⟩:=h
 obtain ⟨t,rfl⟩:=rx
 obtain ⟨t',rfl⟩:=ry
 exact add_str (fun t' tk=>⟨.str (i++j),H,I.tok _,⟨_,rfl⟩,q⟩) hz
theorem cC {x:V} {us:List Value} (r:Vals [x] us):∃ u,us=[u]∧RelV x u:=by
 cases r with
 | cons r1 r2=>cases r2; exact ⟨_,rfl,r1⟩
theorem lS {x y:V} {us:List Value} (r:Vals [x,y] us):∃ u w',us=[u,w']∧RelV x u∧RelV y w':=by
 cases r with
 | cons r1 r2=>
  cases r2 with
  | cons r3 r4=>cases r4; exact ⟨_,_,rfl,r1,r3⟩
theorem sL (hc:X.calm=true):CallR X (.builtin "max") (fun xs H Q=>∃ i j,xs=[.int i,.int j]∧Q (.int (if j > i then j else i)) H):=by
 intro pins s σ H xs us Q I r h
 obtain ⟨i,j,rfl,q⟩:=h
 obtain ⟨u,w',rfl,⟨t,rfl⟩,⟨t',rfl⟩⟩:=lS r
 refine max_two_ints (I.ok.hd hc) fun h' tk k=>⟨_,H,I.kept k,?_,q⟩
 by_cases hj:j > i
 · rw [if_pos hj,if_pos hj]; exact ⟨_,rfl⟩
 · rw [if_neg hj,if_neg hj]; exact ⟨_,rfl⟩
theorem sM (hc:X.calm=true):CallR X (.builtin "min") (fun xs H Q=>∃ i j,xs=[.int i,.int j]∧Q (.int (if j < i then j else i)) H):=by
 intro pins s σ H xs us Q I r h
 obtain ⟨i,j,rfl,q⟩:=h
 obtain ⟨u,w',rfl,⟨t,rfl⟩,⟨t',rfl⟩⟩:=lS r
 refine min_two_ints (I.ok.hd hc) fun h' tk k=>⟨_,H,I.kept k,?_,q⟩
 by_cases hj:j < i
 · rw [if_pos hj,if_pos hj]; exact ⟨_,rfl⟩
 · rw [if_neg hj,if_neg hj]; exact ⟨_,rfl⟩
theorem nY:CallR X (.type "int") (fun xs H Q=>(∃ i,xs=[.int i]∧Q (.int i) H)∨∃ k,xs=[.bl k]∧Q (.int (if k then 1 else 0)) H):=by
 intro pins s σ H xs us Q I r h
 rcases h with ⟨i,rfl,q⟩ | ⟨k,rfl,q⟩
 · obtain ⟨u,rfl,t,rfl⟩:=cC r
   exact call_int_int ⟨.int i,H,I,⟨_,rfl⟩,q⟩
 · obtain ⟨u,rfl,r1⟩:=cC r
   cases r1
   exact call_int_bool ⟨.int (if k then 1 else 0),H,I.tok _,⟨_,rfl⟩,q⟩
end
end L2
namespace L2
open PySem PySem.Spec PyProof.Rows
structure ObjM (h:Heap) (x dx C:Addr) (mA:Str→Option Value):Prop where
 obj:h.get? x=some (PySem.W.instObj C dx)
 ns:h.Ns1 dx mA
 ne:dx≠x
theorem sO {h:Heap} {dx:Addr} {mA:Str→Option Value} (n:h.Ns1 dx mA):∃ od,h.get? dx=some od∧∀ name,PySem.W.lookIn name od=some (mA name):=by
 obtain ⟨o,es,ep,ho,hd,hk,_,hm⟩:=n
 refine ⟨o,ho,fun name=>?_⟩
 have e:=hm name
 unfold nsFind findBy at e
 rw [← Array.find?_toList] at e
 unfold PySem.W.lookIn
 rw [hd]
 dsimp only
 split
 · rename_i y q
   rw [q] at e
   exact congrArg some e
 · rename_i q
   rw [q] at e
   have a:es.toList.any (·.refKey)=false:=by
    rw [List.any_eq_false]
    intro y hy
    obtain ⟨z,t,hkey⟩:=hk y (Array.mem_toList_iff.mp hy)
    simp [DictEntry.refKey,hkey]
   have a':¬ es.toList.any (·.refKey)=true:=by rw [a]; exact Bool.false_ne_true
   rw [if_neg a']
   exact congrArg some e
theorem ObjM.look {h:Heap} {x dx C:Addr} {mA:Str→Option Value} (I:ObjM h x dx C mA):∃ od,PySem.W.InstAt h x (PySem.W.instObj C dx) C (some od)∧∀ name,PySem.W.lookIn name od=some (mA name):=
 let ⟨od,ho,hl⟩:=sO I.ns
 ⟨od,⟨I.obj,rfl,rfl,ho⟩,hl⟩
section
variable {prog:Program} {w:World} {A:Around} {E:Value→Shared→Prop} {s:Shared} {K:PySem.W.Frag} {x dx C f:Addr} {mA:Str→Option Value} {name:Str} {v:Value}
theorem u9 {expr:Bool} {Q:Value→Shared→Prop} (X:K.In s.heap) (I:ObjM s.heap x dx C mA) (hg:PySem.W.plainGet K C name=true) (hh:PySem.W.hasDictIn K C=true)
  (ha:PySem.W.findIn K (.ref C) name=some none) (hv:mA name=some v) (hv':PySem.W.handedIn v=true) (h:Q v { s with toks:=s.toks+1 }):
  wpAny (model prog w) A (getAttr (.ref x) name expr) Q E s:=by
 obtain ⟨od,J,hl⟩:=I.look
 exact PySem.W.get_value X J (PySem.W.plainGet_of hg).1 (PySem.W.findObj_own hh ha rfl (by rw [hl,hv])) hv' h
theorem uo {pl:Sem Bool} {Q:Value × List Value→Shared→Prop} (X:K.In s.heap) (I:ObjM s.heap x dx C mA) (hg:PySem.W.plainGet K C name=true)
  (hf:PySem.W.findIn K (.ref C) name=some (some (.ref f))) (ht:PySem.W.isFn K (.ref f)=true) (hv:mA name=none) (h:Q (.ref f,[.ref x]) s):
  wpAny (model prog w) A (getMethod (.ref x) name pl) Q E s:=by
 obtain ⟨od,J,hl⟩:=I.look
 exact PySem.W.method_fn X J (PySem.W.plainGet_of hg).1 (PySem.W.plainGet_of hg).2 hf (beq_iff_eq.mp ht) (by show (PySem.W.lookIn name od).map (·.isSome)=some false; rw [hl,hv]; rfl) h
theorem va {ns:List Str} {Q:Unit→Shared→Prop} (X:K.In s.heap) (I:ObjM s.heap x dx C mA)
  (hs:PySem.W.findIn K (.ref C) "__setattr__"=some (some (.builtin "object.__setattr__"))) (hp:PySem.W.plainOver K C=true) (ht:PySem.W.takerIn K C name=some none) (hh:PySem.W.hasDictIn K C=true)
  (hw:PySem.Within mA ns) (hsz:ns.length≤sizeLine)
  (h:∀ h',ObjM h' x dx C (fun y=>if y=name then some v else mA y)→Heap.SameBut dx s.heap h'→Q () { s with heap:=h',toks:=s.toks+2 }):
  wpAny (model prog w) A (setAttr (.ref x) name v) Q E s:=by
 obtain ⟨od,J,hl⟩:=I.look
 refine PySem.W.set_plain X J hs (PySem.W.osa_open (s:={ s with toks:=s.toks+1 }) (r:=none) X J hp ht fun b=>?_)
 obtain ⟨cd,hc,hd'⟩:=PySem.W.any_some hh
 have hx:s.heap.get? x=some ⟨.ref C,some dx,.plain,#[]⟩:=I.obj
 refine wpAny_bind (wpAny_pure (wpAny_bind (wpAny_bind (wpAny_loadPart hx (wpAny_bind (PySem.W.Looks.here (s:={ s with toks:=s.toks+1 }) (PySem.W.looks_clsIn X hc) ?_))))))
 rw [hd']
 refine wpAny_pure (a:=some dx) (wpAny_bind (wpAny_pure (wpAny_bind ?_)))
 refine wpAny_nsSet1 (s:={ s with toks:=s.toks+1 }) I.ns fun h' hn2 hs2=>?_
 obtain ⟨oD,esD,epD,hoD,hdD,hcD⟩:=hn2.count (PySem.Within.cons name v hw)
 refine wpAny_bind (wpAny_lookBehind hoD (by rw [hdD]; exact pastItsLine_dict (Nat.le_trans hcD (by rw [List.length_cons]; omega))) ?_)
 exact wpAny_pure (h _ ⟨(hs2.2 _ (Ne.symm I.ne)).trans I.obj,hn2,I.ne⟩ hs2)
theorem uq {R:Result→Shared→Prop} {vs:List Value} {kw:List (Str × Value)} (X:K.In s.heap) (hm:PySem.W.makesIn K C=true)
  (hi:PySem.W.findIn K (.ref C) "__init__"=some (some (.ref f))) (hf:PySem.W.typeIn K (.ref f)=some (.type "function"))
  (h:codeAny (model prog w) (A.under (.builtin "type.__call__" ⟨.ref C::vs,kw⟩)) (.call (.ref f) ⟨.ref (s.heap.objs.size+1)::vs,kw⟩) (PySem.W.InitBack (s.heap.objs.size+1) R)
   { s with heap:=(s.heap.push PySem.W.emptyDict).push (PySem.W.instObj C s.heap.objs.size) }):
  codeAny (model prog w) A (.call (.ref C) ⟨vs,kw⟩) R s:=by
 obtain ⟨hh,g,d,t,os⟩:=s
 exact PySem.W.make_core (PySem.W.makes_of X hm) (PySem.W.looks_findIn X hi) (fun self=>PySem.W.bind_fn X self hf) (.inl rfl) h
end
def putF (f:Str) (v:V):List (Str × V)→List (Str × V)
 | []=>[(f,v)]
 | (g,x)::r=>if g=f then (g,v)::r else (g,x)::putF f v r
theorem kX (f g:Str) (v:V):∀ fs:List (Str × V),(putF f v fs).lookup g=if g=f then some v else fs.lookup g
 | []=>by
  show List.lookup g [(f,v)]=_
  by_cases h:g=f
  · have hb:(g==f)=true:=beq_iff_eq.mpr h
    simp only [List.lookup,hb,if_pos h]
  · have hb:(g==f)=false:=beq_eq_false_iff_ne.mpr h
    simp only [List.lookup,hb,if_neg h]
 | (k,x)::r=>by
  have ih:=kX f g v r
  rw [show putF f v ((k,x)::r)=(if k=f then (k,v)::r else (k,x)::putF f v r) from rfl]
  by_cases hk:k=f
  · rw [if_pos hk]
    by_cases h:g=k
    · have hb:(g==k)=true:=beq_iff_eq.mpr h
      simp only [List.lookup,hb,if_pos (h.trans hk)]
    · have hb:(g==k)=false:=beq_eq_false_iff_ne.mpr h
      simp only [List.lookup,hb,if_neg (fun e:g=f=>h (e.trans hk.symm))]
  · rw [if_neg hk]
    by_cases h:g=k
    · have hb:(g==k)=true:=beq_iff_eq.mpr h
      simp only [List.lookup,hb,if_neg (fun e:g=f=>hk (h.symm.trans e))]
    · have hb:(g==k)=false:=beq_eq_false_iff_ne.mpr h
      simp only [List.lookup,hb]
      exact ih
theorem jU (f:Str) (v:V):∀ fs:List (Str × V),f∈(putF f v fs).map (·.1)∧∀ g,g∈fs.map (·.1)→g∈(putF f v fs).map (·.1)
 | []=>⟨by simp [putF],fun g h=>by simp at h⟩
 | (k,x)::r=>by
  obtain ⟨i1,i2⟩:=jU f v r
  rw [show putF f v ((k,x)::r)=(if k=f then (k,v)::r else (k,x)::putF f v r) from rfl]
  by_cases hk:k=f
  · rw [if_pos hk]
    subst hk
    exact ⟨by simp,fun g h=>by simpa using h⟩
  · rw [if_neg hk]
    refine ⟨?_,fun g h=>?_⟩
    · rw [List.map_cons]
      exact List.mem_cons_of_mem _ i1
    · rw [List.map_cons] at h ⊢
      rcases List.mem_cons.mp h with e | e
      · exact List.mem_cons.mpr (.inl e)
      · exact List.mem_cons_of_mem _ (i2 g e)
theorem kY (f:Str) (v:V):∀ fs:List (Str × V),(putF f v fs).length≤fs.length+1
 | []=>by simp [putF]
 | (k,x)::r=>by
  have ih:=kY f v r
  rw [show putF f v ((k,x)::r)=(if k=f then (k,v)::r else (k,x)::putF f v r) from rfl]
  by_cases hk:k=f
  · rw [if_pos hk,List.length_cons,List.length_cons]; omega
  · rw [if_neg hk,List.length_cons,List.length_cons]; omega
theorem RelO.some_of {v:V} {o:Option Value} (r:RelO (some v) o):∃ u,o=some u∧RelV v u:=by
 cases o with
 | none=>exact (show False from r).elim
 | some u=>exact ⟨u,rfl,r⟩
theorem RelO.none_of {o:Option Value} (r:RelO none o):o=none:=by
 cases o with
 | none=>rfl
 | some u=>exact (show False from r).elim
theorem sP {v:V} {u:Value} (r:RelV v u):PySem.W.handedIn u=true:=by
 cases v with
 | non=>cases (show u=Value.none from r); rfl
 | bl b=>cases (show u=Value.bool b from r); rfl
 | int i=>obtain ⟨t,e⟩:=(show ∃ t,u=Value.int i t from r); cases e; rfl
 | str x=>obtain ⟨t,e⟩:=(show ∃ t,u=Value.str x t from r); cases e; rfl
 | byt b=>obtain ⟨t,e⟩:=(show ∃ t,u=Value.bytes b t from r); cases e; rfl
 | flt b=>obtain ⟨t,e⟩:=(show ∃ t,u=Value.float b t from r); cases e; rfl
 | ref a=>cases (show u=Value.ref a from r); rfl
 | ty n=>cases (show u=Value.type n from r); rfl
section
variable {P:Program} {w:World} {H H':Hp} {h h':Heap} {a C dx:Addr} {fs fs':List (Str × V)}
theorem kG (hok:HOk P w H h) (e:H a=some (.ins C dx fs)):∃ mA,ObjM h a dx C mA∧(∀ f,RelO (fs.lookup f) (mA f))∧PySem.Within mA (fs.map (·.1))∧fs.length≤1000∧H dx=some (.own a):=by
 obtain ⟨d,z,ne,ob,mA,n,r,q⟩:=(show ObjOk P w H h a (.ins C dx fs) from hok a _ e)
 exact ⟨mA,⟨ob,n,ne⟩,r,q,z,d⟩
end
structure Cls (K:PySem.W.Frag) (C:Addr):Prop where
 pg:PySem.W.plainGet K C Str.empty=true
 hd:PySem.W.hasDictIn K C=true
 po:PySem.W.plainOver K C=true
 sa:PySem.W.findIn K (.ref C) "__setattr__"=some (some (.builtin "object.__setattr__"))
theorem Cls.get {K:PySem.W.Frag} {C:Addr} (c:Cls K C) (f:Str):PySem.W.plainGet K C f=true:=c.pg
def NoAttr (K:PySem.W.Frag) (C:Addr) (f:Str):Prop:=PySem.W.findIn K (.ref C) f=some none
theorem NoAttr.taker {K:PySem.W.Frag} {C:Addr} {f:Str} (n:NoAttr K C f):PySem.W.takerIn K C f=some none:=by
 unfold PySem.W.takerIn
 rw [show PySem.W.findIn K (.ref C) f=some none from n]
 rfl
structure Meth (K:PySem.W.Frag) (C:Addr) (m:Str) (f:Addr):Prop where
 at_:PySem.W.findIn K (.ref C) m=some (some (.ref f))
 fn:PySem.W.isFn K (.ref f)=true
 kp:PySem.W.keepIn K (.ref f)=true
section
variable {X:Cx} {pins:List (Addr × Obj)} {σ:St} {H:Hp} {s:Shared} {a C dx:Addr} {fs:List (Str × V)} {f:Str} {v:V} {A:Around} {E:Value→Shared→Prop}
theorem rK {b:Bool} {Q:Value→Shared→Prop} (I:Inv X pins σ H s) (e:H a=some (.ins C dx fs)) (c:Cls X.K C) (n:NoAttr X.K C f) (l:fs.lookup f=some v)
  (h:∀ u s',Inv X pins σ H s'→RelV v u→Q u s'):wpAny (model X.prog X.w) A (getAttr (.ref a) f b) Q E s:=by
 obtain ⟨mA,O,r,_,_,_⟩:=kG I.hok e
 obtain ⟨u,hu,ru⟩:=RelO.some_of (v:=v) (o:=mA f) (by rw [← l]; exact r f)
 exact u9 I.kIn O (c.get f) c.hd n hu (sP ru) (h u _ (I.tok _) ru)
theorem lT {m:Str} {g:Addr} {pl:Sem Bool} {Q:Value × List Value→Shared→Prop} (I:Inv X pins σ H s) (e:H a=some (.ins C dx fs)) (c:Cls X.K C) (k:Meth X.K C m g) (l:fs.lookup m=none)
  (h:Q (.ref g,[.ref a]) s):wpAny (model X.prog X.w) A (getMethod (.ref a) m pl) Q E s:=by
 obtain ⟨mA,O,r,_,_,_⟩:=kG I.hok e
 have hn:mA m=none:=RelO.none_of (by rw [← l]; exact r m)
 exact uo I.kIn O (c.get m) k.at_ k.fn hn h
theorem rL {y:V} {u:Value} {Q:Unit→Shared→Prop} (I:Inv X pins σ H s) (e:H a=some (.ins C dx fs)) (c:Cls X.K C) (n:NoAttr X.K C f) (hl:fs.length < 1000) (ry:RelV y u)
  (h:∀ s',Inv X pins σ (upd H a (.ins C dx (putF f y fs))) s'→Q () s'):wpAny (model X.prog X.w) A (setAttr (.ref a) f u) Q E s:=by
 obtain ⟨mA,O,r,wi,_,ho⟩:=kG I.hok e
 have hz:(fs.map (·.1)).length≤sizeLine:=by rw [List.length_map,sizeLine_eq]; omega
 refine va I.kIn O c.sa c.po n.taker c.hd wi hz fun h' O' sb=>h _ ?_
 have hd:∃ o,h'.get? dx=some o:=let ⟨o,_,_,e',_⟩:=O'.ns; ⟨o,e'⟩
 refine I.write (x:=a) (e:=dx) (by rw [e]; exact True.intro) (.inr ho) (fun b q hb z=>(sb.2 b hb).trans z) hd ?_
 refine ⟨by rw [ai O.ne]; exact ho,?_,O.ne,O'.obj,_,O'.ns,fun g=>?_,fun g hg=>?_⟩
 · have:=kY f y fs; omega
 · show RelO ((putF f y fs).lookup g) (if g=f then some u else mA g)
   rw [kX]
   by_cases q:g=f
   · rw [if_pos q,if_pos q]; exact ry
   · rw [if_neg q,if_neg q]; exact r g
 · by_cases q:g=f
   · rw [q]; exact (jU f y fs).1
   · refine (jU f y fs).2 g (wi g fun z=>hg ?_)
     show (if g=f then some u else mA g)=none
     rw [if_neg q]; exact z
theorem Inv.made (I:Inv X pins σ H s):Inv X pins σ (upd (upd H s.heap.objs.size (.own (s.heap.objs.size+1))) (s.heap.objs.size+1) (.ins C s.heap.objs.size []))
  { s with heap:=(s.heap.push PySem.W.emptyDict).push (PySem.W.instObj C s.heap.objs.size) }:=by
 have e1:(s.heap.push PySem.W.emptyDict).get? s.heap.objs.size=some PySem.W.emptyDict:=Heap.get?_push_size s.heap rfl
 have e2:((s.heap.push PySem.W.emptyDict).push (PySem.W.instObj C s.heap.objs.size)).get? (s.heap.objs.size+1)=some (PySem.W.instObj C s.heap.objs.size):=by
  have:=Heap.get?_push_size (s.heap.push PySem.W.emptyDict) (o:=PySem.W.instObj C s.heap.objs.size) rfl
  rwa [Heap.size_push] at this
 have e3:(s.heap.push PySem.W.emptyDict).Ns s.heap.objs.size (fun _=>none):=⟨PySem.W.emptyDict,#[],_,e1,rfl,(fun e he=>absurd he (by simp)),fun _=>rfl⟩
 have I1:=I.laid (a:=s.heap.objs.size) (o:=.own (s.heap.objs.size+1)) (h':=s.heap.push PySem.W.emptyDict) (t':=s.toks) (fun b u q=>Heap.get?_push_of_some _ q) (Nat.le_refl _) ⟨_,e1⟩
 refine I1.laid (a:=s.heap.objs.size+1) (o:=.ins C s.heap.objs.size []) (t':=s.toks) (fun b u q=>Heap.get?_push_of_some _ q) (Nat.le_of_eq (Heap.size_push _ _)) ?_
 have ne:s.heap.objs.size≠s.heap.objs.size+1:=Nat.ne_of_lt (Nat.lt_succ_self _)
 refine ⟨by rw [ai ne,ae],Nat.zero_le _,ne,e2,fun _=>none,(Heap.Ns1.of_empty e3).at fun o q=>Heap.get?_push_of_some _ q,fun _=>True.intro,fun y hy=>absurd rfl hy⟩
theorem vb {prog:Program} {w:World} {env:Env} {e:Expr} {f:Str} {pos:Pos} {s:Shared} {Q:Value→Shared→Prop} (hb:attributeBase e f env (eval e env)=eval e env)
  (h:wpAny (model prog w) A (eval e env) (fun o s₁=>wpAny (model prog w) A (getAttr o f true) Q E s₁) E s):wpAny (model prog w) A (eval (.Attribute e f pos) env) Q E s:=
 Attribute_any_ h (by rw [arm_eval_Attribute,hb])
end
section
variable {X:Cx} {o e value:Expr} {f:Str} {pos pos' tpos:Pos} {ta tv:TE}
end
section
variable {X:Cx} {pins:List (Addr × Obj)} {σ:St} {H:Hp} {s:Shared} {A:Around} {E:Value→Shared→Prop} {Q:Value→Shared→Prop} {c:Value} {b:Bool}
inductive TyOf (K:PySem.W.Frag) (H:Hp):V→Value→Prop where
 | non:TyOf K H .non (.type "NoneType")
 | bl (x:Bool):TyOf K H (.bl x) (.type "bool")
 | int (i:Int):TyOf K H (.int i) (.type "int")
 | str (x:Str):TyOf K H (.str x) (.type "str")
 | flt (x:UInt64):TyOf K H (.flt x) (.type "float")
 | lst {a:Addr} {xs:List V} (e:H a=some (.lst xs)):TyOf K H (.ref a) (.type "list")
 | frz {a:Addr} {o:Obj} {xs:List V} (e:H a=some (.frz o (.lst xs))):TyOf K H (.ref a) (.type "list")
 | tup {a:Addr} {xs:List V} (e:H a=some (.tup xs)):TyOf K H (.ref a) (.type "tuple")
 | dK {a:Addr} {kvs:List (Key × V)} (e:H a=some (.dK kvs)):TyOf K H (.ref a) (.type "dict")
 | dT {a:Addr} {kvs:List (List Key × V)} (e:H a=some (.dT kvs)):TyOf K H (.ref a) (.type "dict")
 | ins {a C dx:Addr} {fs:List (Str × V)} (e:H a=some (.ins C dx fs)) (cl:Cls K C) (ha:PySem.W.findIn K (.ref C) "__class__"=some (some (.builtin "object.__class__")))
   (hn:PySem.W.specialIn K (.builtin "object.__class__") "__get__"=some (some (.builtin "getset_descriptor.__get__"))) (htk:PySem.W.takesIn K (.builtin "object.__class__")=some true)
   (hm:PySem.W.mroIn K C (.type "object")=some true):TyOf K H (.ref a) (.ref C)
theorem sQ {x:V} {u t:Value} (I:Inv X pins σ H s) (rx:RelV x u) (ty:TyOf X.K H x t) (e:PySem.W.kitOne X.K t c=some b) (h:∀ tk,Q (.bool b) { s with toks:=tk }):
  wpAny (model X.prog X.w) A (call (.builtin "isinstance") [u,c]) Q E s:=by
 cases ty with
 | non=>cases (show u=Value.none from rx); exact PySem.W.kia_one PySem.W.kitx_none I.kIn True.intro e (fun z=>nomatch z) h
 | bl y=>cases (show u=Value.bool y from rx); exact PySem.W.kia_one PySem.W.kitx_bool I.kIn True.intro e (fun z=>nomatch z) h
 | int i=>obtain ⟨t,q⟩:=(show ∃ t,u=Value.int i t from rx); cases q; exact PySem.W.kia_one PySem.W.kitx_int I.kIn True.intro e (fun z=>nomatch z) h
 | str y=>obtain ⟨t,q⟩:=(show ∃ t,u=Value.str y t from rx); cases q; exact PySem.W.kia_one PySem.W.kitx_str I.kIn True.intro e (fun z=>nomatch z) h
 | flt y=>obtain ⟨t,q⟩:=(show ∃ t,u=Value.float y t from rx); cases q; exact PySem.W.kia_one PySem.W.kitx_float I.kIn True.intro e (fun z=>nomatch z) h
 | @lst a xs ea=>
  cases (show u=Value.ref a from rx)
  obtain ⟨_,_,n,_,h1⟩:=(show ObjOk X.prog X.w H s.heap a (.lst xs) from I.hok a _ ea)
  exact PySem.W.kia_one PySem.W.kitx_list I.kIn ⟨_,h1,rfl⟩ e (fun z=>nomatch z) h
 | @frz a ob xs ea=>
  cases (show u=Value.ref a from rx)
  obtain ⟨_,_,_,n,_,h1⟩:=(show ObjOk X.prog X.w H s.heap a (.frz ob (.lst xs)) from I.hok a _ ea)
  exact PySem.W.kia_one PySem.W.kitx_list I.kIn ⟨_,h1,rfl⟩ e (fun z=>nomatch z) h
 | @tup a xs ea=>
  cases (show u=Value.ref a from rx)
  obtain ⟨_,_,_,p⟩:=(show ObjOk X.prog X.w H s.heap a (.tup xs) from I.hok a _ ea)
  obtain ⟨o,h1,h2,_⟩:=p
  exact PySem.W.kia_one PySem.W.kitx_tuple I.kIn ⟨o,h1,h2⟩ e (fun z=>nomatch z) h
 | @dK a kvs ea=>
  cases (show u=Value.ref a from rx)
  obtain ⟨_,_,vs,_,p⟩:=(show ObjOk X.prog X.w H s.heap a (.dK kvs) from I.hok a _ ea)
  obtain ⟨o,es,ep,h1,h2,_⟩:=p
  exact PySem.W.kia_one PySem.W.kitx_dict I.kIn ⟨o,h1,h2.1⟩ e (fun z=>nomatch z) h
 | @dT a kvs ea=>
  cases (show u=Value.ref a from rx)
  obtain ⟨_,_,xs,_,o,es,ep,h1,h2,_⟩:=(show ObjOk X.prog X.w H s.heap a (.dT kvs) from I.hok a _ ea)
  exact PySem.W.kia_one PySem.W.kitx_dict I.kIn ⟨o,h1,h2.1⟩ e (fun z=>nomatch z) h
 | @ins a C dx fs ea cl ha hn htk hm=>
  cases (show u=Value.ref a from rx)
  obtain ⟨mA,O,_⟩:=kG I.hok ea
  obtain ⟨od,J,_⟩:=O.look
  exact PySem.W.kia_one (PySem.W.kitx_own (cl.get _) cl.hd ha hn htk hm) I.kIn J e (fun z=>nomatch z) h
end
end L2
namespace L2
open PySem PySem.Spec PyProof.Rows
structure Room (k:Nat) (A:Around):Prop where
 hd:A.handled=none
 dp:A.depth+3*k+5 < recursionLimit
 un:A.units+16*k+200 < cLine
theorem Room.mono {j k:Nat} {A:Around} (r:Room k A) (h:j≤k):Room j A:=⟨r.hd,by have:=r.dp; omega,by have:=r.un; omega⟩
theorem Room.deeper {k:Nat} {A:Around} (r:Room (k+1) A) (env:Env):Room k (A.deeper env):=
 ⟨r.hd,by have:=r.dp; show A.depth+1+3*k+5 < _; omega,by have:=r.un; show A.units+3+16*k+200 < _; omega⟩
theorem rM {A:Around} {C:Addr} {us:List Value} {kw:List (Str × Value)}:(A.under (.builtin "type.__call__" ⟨.ref C::us,kw⟩)).depth=A.depth+1:=by
 first | rfl | simp [Around.under,Code.weight,Code.isCreation,Code.isGuard,Code.isCaller,Code.frames,Code.isFrame,guardIds]
theorem rN {A:Around} {C:Addr} {us:List Value} {kw:List (Str × Value)}:(A.under (.builtin "type.__call__" ⟨.ref C::us,kw⟩)).units=A.units+1:=by
 first | rfl | simp [Around.under,Code.cUnits,Code.frames,Code.isFrame]
theorem Room.make {k:Nat} {A:Around} (r:Room (k+1) A) (C:Addr) (us:List Value) (kw:List (Str × Value)):Room k (A.under (.builtin "type.__call__" ⟨.ref C::us,kw⟩)):=
 ⟨r.hd,by have:=r.dp; rw [rM]; omega,by have:=r.un; rw [rN]; omega⟩
theorem Room.depth {k:Nat} {A:Around} (r:Room k A):A.depth < recursionLimit:=by have:=r.dp; omega
theorem Room.units {k:Nat} {A:Around} (r:Room k A):A.units+64 < cLine:=by have:=r.un; omega
def tNil:TA:=fun _ H Q=>Q [] H
def tCons (ta:TE) (tr:TA):TA:=fun σ H Q=>ta σ H fun x H1=>tr σ H1 fun xs H2=>Q (x::xs) H2
section
variable {X:Cx} {e:Expr} {es:List Expr} {te:TE} {t:TA} {pos:Pos}
theorem ac:PA X [] tNil:=fun _ _ _ _ H Q I h=>Calls.spliced_nil ⟨[],H,I,.nil,h⟩
theorem aa (ha:PE X e te) (hr:PA X es t) (hs:starEach (e::es) X.env=(false,eval e X.env)::starEach es X.env:=by rfl):PA X (e::es) (tCons te t):=by
 intro pos pins s σ H Q I h
 rw [hs]
 show wpAny _ _ (spliced ((false,eval e X.env)::backTo pos (starEach es X.env))) _ _ s
 refine Calls.spliced_cons (thn (ha pins s σ H _ I h) fun u s1 ⟨x,H1,I1,r1,q1⟩=>?_)
 exact thn (hr pos pins s1 σ H1 _ I1 q1) fun us s2 ⟨xs,H2,I2,r2,q2⟩=>⟨x::xs,H2,I2,.cons r1 r2,q2⟩
def tTup (t:TA):TE:=fun σ H Q=>t σ H fun xs H1=>xs.length≤sizeLine∧∀ p,H1 p=none→Q (.ref p) (upd H1 p (.tup xs))
def tLst (t:TA):TE:=fun σ H Q=>t σ H fun xs H1=>xs.length≤sizeLine∧∀ p,H1 p=none→Q (.ref p) (upd H1 p (.lst xs))
theorem jV {x1} (h:PA X es t):PE X (.Tuple es x1 pos) (tTup t):=by
 intro pins s σ H Q I hq
 refine wpAny_Tuple_spliced (thn (h pos pins s σ H _ I hq) fun us s1 ⟨xs,H1,I1,r,z,q⟩=>⟨by rw [← r.length]; exact z,?_⟩)
 have hf:H1 s1.heap.objs.size=none:=I1.hok.fresh (Nat.le_refl _)
 refine ⟨.ref s1.heap.objs.size,upd H1 s1.heap.objs.size (.tup xs),I1.laid (t':=s1.toks) (fun b u e=>Heap.get?_push_of_some _ e) (Nat.le_refl _) ?_,rfl,q _ hf⟩
 exact ⟨z,us,r,⟨_,Heap.get?_push_size _ rfl,rfl,_,rfl⟩⟩
theorem aW (h:PA X es t):PE X (.List es pos) (tLst t):=by
 intro pins s σ H Q I hq
 refine wpAny_List_spliced (thn (h pos pins s σ H _ I hq) fun us s1 ⟨xs,H1,I1,r,z,q⟩=>⟨by rw [← r.length]; exact z,?_⟩)
 have hf:H1 s1.heap.objs.size=none:=I1.hok.fresh (Nat.le_refl _)
 refine ⟨.ref s1.heap.objs.size,upd H1 s1.heap.objs.size (.lst xs),I1.laid (t':=s1.toks) (fun b u e=>Heap.get?_push_of_some _ e) (Nat.le_refl _) ?_,rfl,q _ hf⟩
 exact ⟨z,us,0,r,Heap.get?_push_size _ rfl⟩
end
abbrev Sp:=List V→Hp→VK→XK→Prop
abbrev CXT:=List Env→Hp→Shared→XK→Value→Shared→Prop
structure Env0 (P:Program) (w:World) (K:PySem.W.Frag) (mg:Str→Option Value) (base:Heap) (A:Around) (outer:List Env) (s:Shared) (H:Hp):Prop where
 frames:A.frames=some outer
 mod:Mod K mg base
 bs:∀ b o,base.get? b=some o→s.heap.get? b=some o∧H b=none
 bsz:base.objs.size≤s.heap.objs.size
 funs:s.heap.FunFrames base outer
 frf:∀ b∈frs outer,H b=none
 hok:HOk P w H s.heap
 bare:AllBare s.gens
def CE (outer:List Env) (P:Program) (w:World) (H:Hp) (s:Shared) (Q:VK) (u:Value) (s':Shared):Prop:=
 ∃ v H',s'.os=s.os∧AllBare s'.gens∧Un (frs outer) [] H H' s.heap s'.heap∧HOk P w H' s'.heap∧RelV v u∧Q v H'
def CR (CX:CXT) (outer:List Env) (P:Program) (w:World) (H:Hp) (s:Shared) (Q:VK) (E:XK) (r:Result) (s':Shared):Prop:=
 match r with
 | .ok (.ret u)=>CE outer P w H s Q u s'
 | .ok _=>False
 | .error e=>CX outer H s E e s'
structure FnOk (P:Program) (w:World) (K:PySem.W.Frag) (mg:Str→Option Value) (base:Heap) (CX:CXT) (k:Nat) (f:Addr) (fd:FuncData) (ps:List Str) (sp:Sp):Prop where
 len:∀ vs H Q E,sp vs H Q E→vs.length=ps.length
 run:∀ (A:Around) (outer:List Env) (s:Shared) (H:Hp) (args:Args) (us:List Value) (vs:List V) (Q:VK) (E:XK),Room k A→Env0 P w K mg base A outer s H→BindsTo s fd args (ps.zip us)→Vals vs us→sp vs H Q E→
  codeAny (model P w) A (.call (.ref f) args) (CR CX outer P w H s Q E) s
theorem FnOk.mono {P:Program} {w:World} {K:PySem.W.Frag} {mg:Str→Option Value} {base:Heap} {CX:CXT} {j k:Nat} {f:Addr} {fd:FuncData} {ps:List Str} {sp:Sp} (F:FnOk P w K mg base CX j f fd ps sp) (h:j≤k):
  FnOk P w K mg base CX k f fd ps sp:=⟨F.len,fun A outer s H args us vs Q E hr=>F.run A outer s H args us vs Q E (hr.mono h)⟩
theorem FnOk.imp {P:Program} {w:World} {K:PySem.W.Frag} {mg:Str→Option Value} {base:Heap} {CX:CXT} {k:Nat} {f:Addr} {fd:FuncData} {ps:List Str} {sp sp':Sp} (F:FnOk P w K mg base CX k f fd ps sp)
  (h:∀ vs H Q E,sp' vs H Q E→sp vs H Q E):FnOk P w K mg base CX k f fd ps sp':=
 ⟨fun vs H Q E q=>F.len vs H Q E (h _ _ _ _ q),fun A outer s H args us vs Q E hr he hb hv hs=>F.run A outer s H args us vs Q E hr he hb hv (h _ _ _ _ hs)⟩
theorem Env0.make {P:Program} {w:World} {K:PySem.W.Frag} {mg:Str→Option Value} {base:Heap} {A:Around} {outer:List Env} {s:Shared} {H:Hp} (e:Env0 P w K mg base A outer s H) (C:Addr) (us:List Value) (kw:List (Str × Value)):
  Env0 P w K mg base (A.under (.builtin "type.__call__" ⟨.ref C::us,kw⟩)) outer s H:=⟨by first | exact e.frames | (simpa [Around.under,Code.envs,Code.isFrame,pushEnvs] using e.frames),e.mod,e.bs,e.bsz,e.funs,e.frf,e.hok,e.bare⟩
section
variable {X:Cx} {pins:List (Addr × Obj)} {σ:St} {H:Hp} {s s':Shared}
theorem Inv.env0 (I:Inv X pins σ H s):Env0 X.prog X.w X.K X.mg X.base X.A X.stack s H:=
 ⟨I.ok.frames,I.ok.mod,I.bs,Nat.le_trans I.ok.bsz I.sz,I.stack,I.stkFree,I.hok,I.bare⟩
theorem Inv.after {Q:VK} {u:Value} (I:Inv X pins σ H s) (h:CE X.stack X.prog X.w H s Q u s'):EP X pins σ Q u s':=by
 obtain ⟨v,H',os,bare,un,hok,r,q⟩:=h
 obtain ⟨hh,g,d,t,os'⟩:=s'
 obtain rfl:os'=s.os:=os
 exact ⟨v,H',I.call (h':=hh) (g':=g) (d':=d) (t':=t) (ch:=[]) un hok bare (fun b z=>absurd z (by simp)),r,q⟩
end
def tCall (sp:Sp) (dvs:List V) (E:XK) (t:TA):TE:=fun σ H Q=>t σ H fun vs H1=>sp (vs++dvs) H1 Q E
def tMake (C:Addr) (sp:Sp) (dvs:List V) (E:XK) (t:TA):TE:=fun σ H Q=>t σ H fun vs H1=>∀ x dx,H1 x=none→H1 dx=none→dx≠x→
 sp (.ref x::(vs++dvs)) (upd (upd H1 dx (.own x)) x (.ins C dx [])) (fun v H2=>v=.non∧Q (.ref x) H2) E
def Binds (K:PySem.W.Frag) (fd:FuncData) (ps:List Str) (ds:List Value):Prop:=
 ∀ (s:Shared) (us:List Value),K.In s.heap→(us++ds).length=ps.length→BindsTo s fd ⟨us,[]⟩ (ps.zip (us++ds))
theorem Binds.all {K:PySem.W.Frag} {fd:FuncData} {ps:List Str} (h:∀ us:List Value,us.length=ps.length→bindArgs fd ⟨us,[]⟩=pure (ps.zip us)):Binds K fd ps []:=fun s us _ hl=>by
 rw [List.append_nil] at hl ⊢
 exact .of_eq (h us hl)
def gY (CX:CXT) (X:Cx) (E:XK):Prop:=∀ (pins:List (Addr × Obj)) (σ:St) (H:Hp) (s:Shared) (e:Value) (s':Shared),Inv X pins σ H s→CX X.stack H s E e s'→X.xe e s'
section
variable {X:Cx} {CX:CXT} {k:Nat} {f C:Addr} {fd:FuncData} {ps:List Str} {sp:Sp} {dvs:List V} {ds:List Value} {E:XK} {x m:Str} {p pos apos:Pos} {e o:Expr} {es:List Expr} {ta:TE} {t:TA}
theorem pF {pins:List (Addr × Obj)} {σ:St} {H:Hp} {s:Shared} {Q:VK} {us:List Value} {vs:List V} (F:FnOk X.prog X.w X.K X.mg X.base CX k f fd ps sp) (hr:Room k X.A) (hb:Binds X.K fd ps ds) (hd:Vals dvs ds) (hx:gY CX X E)
  (I:Inv X pins σ H s) (r:Vals vs us) (h:sp (vs++dvs) H Q E):wpAny (model X.prog X.w) X.A (call (.ref f) us) (EP X pins σ Q) X.xe s:=by
 have r2:Vals (vs++dvs) (us++ds):=r.append hd
 have hl:(us++ds).length=ps.length:=by rw [← r2.length]; exact F.len _ _ _ _ h
 refine wpAny_call (codeAny_mono (F.run X.A X.stack s H ⟨us,[]⟩ (us++ds) (vs++dvs) Q E hr I.env0 (hb s us I.kIn hl) r2 h) fun r s' hq=>?_)
 cases r with
 | error e=>exact hx pins σ H s e s' I hq
 | ok fl=>
  cases fl with
  | ret u=>exact I.after hq
  | next=>exact False.elim hq
  | brk=>exact False.elim hq
  | cont=>exact False.elim hq
theorem rf (F:FnOk X.prog X.w X.K X.mg X.base CX k f fd ps sp) (hr:Room k X.A) (hg:Gl X x) (hm:X.mg x=some (.ref f)) (hk:PySem.W.keepIn X.K (.ref f)=true) (hb:Binds X.K fd ps ds) (hd:Vals dvs ds) (hx:gY CX X E)
  (ha:PA X (e::es) t) (hdb:(x==("__debug__":Str))=false:=by decide) (he:starEach (e::es) X.env=(false,eval e X.env)::starEach es X.env:=by rfl) (hpl:(backTo pos (starEach es X.env)).any (·.1)=false:=by rfl):
  PE X (.Call (.Name x p) (e::es) [] pos) (tCall sp dvs E t):=by
 intro pins s σ H Q I h
 refine wpAny_Call_Name_kw (gP I hg hm ?_ hdb)
 refine PySem.W.callWith_K (h₀:=X.base) I.ok.mod.kin hk (thn (ha pos pins s σ H _ I h) fun us s1 ⟨vs,H1,I1,r,q⟩=>⟨I1.kIn,?_⟩) he hpl
 exact pF F hr hb hd hx I1 r q
structure Mk (K:PySem.W.Frag) (C f:Addr):Prop where
 makes:PySem.W.makesIn K C=true
 init:PySem.W.findIn K (.ref C) "__init__"=some (some (.ref f))
 fn:PySem.W.isFn K (.ref f)=true
 kp:PySem.W.keepIn K (.ref C)=true
theorem ur {pins:List (Addr × Obj)} {σ:St} {H:Hp} {s:Shared} {Q:VK} {us:List Value} {vs:List V} (M:Mk X.K C f) (F:FnOk X.prog X.w X.K X.mg X.base CX k f fd ps sp) (hr:Room (k+1) X.A) (hb:Binds X.K fd ps ds) (hd:Vals dvs ds)
  (hx:gY CX X E) (I:Inv X pins σ H s) (r:Vals vs us)
  (h:∀ x dx,H x=none→H dx=none→dx≠x→sp (.ref x::(vs++dvs)) (upd (upd H dx (.own x)) x (.ins C dx [])) (fun v H2=>v=.non∧Q (.ref x) H2) E):
  wpAny (model X.prog X.w) X.A (call (.ref C) us) (EP X pins σ Q) X.xe s:=by
 have hq:=h (s.heap.objs.size+1) s.heap.objs.size (I.hok.fresh (Nat.le_succ _)) (I.hok.fresh (Nat.le_refl _)) (Nat.ne_of_lt (Nat.lt_succ_self _))
 have I2:=Inv.made (C:=C) I
 have r2:Vals (V.ref (s.heap.objs.size+1)::(vs++dvs)) (Value.ref (s.heap.objs.size+1)::(us++ds)):=.cons rfl (r.append hd)
 have hl:(Value.ref (s.heap.objs.size+1)::us++ds).length=ps.length:=by
  have e:=r2.length
  rw [F.len _ _ _ _ hq] at e
  exact e.symm
 refine wpAny_call (uq (f:=f) I.kIn M.makes M.init (beq_iff_eq.mp M.fn) (codeAny_mono (F.run _ X.stack _ _ ⟨Value.ref (s.heap.objs.size+1)::us,[]⟩ (Value.ref (s.heap.objs.size+1)::(us++ds)) _ _ E (hr.make C us [])
  (I2.env0.make C us []) (hb _ (Value.ref (s.heap.objs.size+1)::us) I2.kIn hl) r2 hq) fun r s' hq'=>?_))
 cases r with
 | error e=>exact hx pins σ _ _ e s' I2 hq'
 | ok fl=>
  cases fl with
  | ret u=>
   obtain ⟨v,H',I3,rv,ev,q3⟩:=I2.after hq'
   subst ev
   exact ⟨rv,⟨V.ref (s.heap.objs.size+1),H',I3,rfl,q3⟩⟩
  | next=>exact False.elim hq'
  | brk=>exact False.elim hq'
  | cont=>exact False.elim hq'
theorem vc (M:Mk X.K C f) (F:FnOk X.prog X.w X.K X.mg X.base CX k f fd ps sp) (hr:Room (k+1) X.A) (hg:Gl X x) (hm:X.mg x=some (.ref C)) (hb:Binds X.K fd ps ds) (hd:Vals dvs ds) (hx:gY CX X E)
  (ha:PA X (e::es) t) (hdb:(x==("__debug__":Str))=false:=by decide) (he:starEach (e::es) X.env=(false,eval e X.env)::starEach es X.env:=by rfl) (hpl:(backTo pos (starEach es X.env)).any (·.1)=false:=by rfl):
  PE X (.Call (.Name x p) (e::es) [] pos) (tMake C sp dvs E t):=by
 intro pins s σ H Q I h
 refine wpAny_Call_Name_kw (gP I hg hm ?_ hdb)
 refine PySem.W.callWith_K (h₀:=X.base) I.ok.mod.kin M.kp (thn (ha pos pins s σ H _ I h) fun us s1 ⟨vs,H1,I1,r,q⟩=>⟨I1.kIn,?_⟩) he hpl
 exact ur M F hr hb hd hx I1 r q
end
section
variable {X:Cx} {CX:CXT} {k:Nat} {f C:Addr} {fd:FuncData} {ps ks:List Str} {sp:Sp} {E:XK} {x m:Str} {p pos apos kpos:Pos} {e o:Expr} {es:List Expr} {kws:List Keyword} {te ta:TE} {t tk:TA} {nm:Option Str}
variable {g:List Value→List Value→List Value} {gV:List V→List V→List V}
end
structure am (N P:List Str) (sc:Scope):Prop where
 kind:sc.kind=.function
 co:sc.isCoroutine=false
 gen:sc.isGenerator=false
 nd:N.Nodup
 pre:N.take P.length=P
 par:∀ x∈P,sc.names.lookup x=some .local∨sc.names.lookup x=some .cell
 nofree:∀ y∈sc.names,y.2≠.free
theorem nZ {kindOf:Str→Option NameKind} {x:Str}:∀ {binds:List (Str × Value)} {m:Str→Option Value},(∀ v,(x,v)∉binds)→bindL kindOf binds m x=m x
 | [],_,_=>rfl
 | (n,v)::r,m,h=>by
  unfold bindL
  rw [nZ fun w hw=>h w (List.mem_cons_of_mem _ hw)]
  split
  · have:x≠n:=by rintro rfl; exact h v List.mem_cons_self
    simp [this]
  · rfl
theorem n9 {kindOf:Str→Option NameKind} {x:Str}:∀ {binds:List (Str × Value)} {m:Str→Option Value},(∀ v,(x,v)∉binds)→bindC kindOf binds m x=m x
 | [],_,_=>rfl
 | (n,v)::r,m,h=>by
  unfold bindC
  rw [n9 fun w hw=>h w (List.mem_cons_of_mem _ hw)]
  split
  · rfl
  · have:x≠n:=by rintro rfl; exact h v List.mem_cons_self
    simp [this]
theorem og {kindOf:Str→Option NameKind} {x:Str} {v:Value}:∀ {P:List Str} {vs:List Value} {i:Nat} {m:Str→Option Value},P.Nodup→P[i]? =some x→vs[i]? =some v→kindOf x=some .local→
  bindL kindOf (P.zip vs) m x=some v
 | [],_,_,_,_,h,_,_=>by simp at h
 | _::_,[],_,_,_,_,h,_=>by simp at h
 | p::P,w::vs,0,m,nd,h1,h2,hk=>by
  simp at h1 h2; subst h1; subst h2
  show bindL kindOf ((p,w)::P.zip vs) m p=_
  unfold bindL
  rw [nZ fun v hv=>(List.nodup_cons.mp nd).1 (List.of_mem_zip hv).1,if_pos hk]
  simp
 | p::P,w::vs,i+1,m,nd,h1,h2,hk=>by
  show bindL kindOf ((p,w)::P.zip vs) m x=_
  unfold bindL
  exact og (i:=i) (List.nodup_cons.mp nd).2 (by simpa using h1) (by simpa using h2) hk
theorem oh {kindOf:Str→Option NameKind} {x:Str} {v:Value}:∀ {P:List Str} {vs:List Value} {i:Nat} {m:Str→Option Value},P.Nodup→P[i]? =some x→vs[i]? =some v→kindOf x≠some .local→
  bindC kindOf (P.zip vs) m x=some v
 | [],_,_,_,_,h,_,_=>by simp at h
 | _::_,[],_,_,_,_,h,_=>by simp at h
 | p::P,w::vs,0,m,nd,h1,h2,hk=>by
  simp at h1 h2; subst h1; subst h2
  show bindC kindOf ((p,w)::P.zip vs) m p=_
  unfold bindC
  rw [n9 fun v hv=>(List.nodup_cons.mp nd).1 (List.of_mem_zip hv).1,if_neg hk]
  simp
 | p::P,w::vs,i+1,m,nd,h1,h2,hk=>by
  show bindC kindOf ((p,w)::P.zip vs) m x=_
  unfold bindC
  exact oh (i:=i) (List.nodup_cons.mp nd).2 (by simpa using h1) (by simpa using h2) hk
def start (N:List Str) (vs:List V):St:=vs.map some++List.replicate (N.length - vs.length) none
def cxOf (CX:CXT) (P:Program) (w:World) (K:PySem.W.Frag) (mg:Str→Option Value) (base:Heap) (N:List Str) (qual:Str) (scope:Scope) (f:Addr) (cd:Value) (A:Around) (outer:List Env) (s:Shared) (H:Hp) (E:XK):Cx where
 prog:=P
 w:=w
 K:=K
 mg:=mg
 base:=base
 A:=A.deeper (envOfC qual scope s.heap.objs.size f cd)
 N:=N
 s₀:=s
 H₀:=H
 env:=envOfC qual scope s.heap.objs.size f cd
 outer:=outer
 stack:=envOfC qual scope s.heap.objs.size f cd::outer
 ex:=[]
 calm:=true
 fn:=fun _=>true
 pn:=[]
 xe:=fun e s'=>wpAny (model P w) (A.deeper (envOfC qual scope s.heap.objs.size f cd)) (leaving (envOfC qual scope s.heap.objs.size f cd) e) (fun _ s''=>CX outer H s E e s'') (fun e' s''=>CX outer H s E e' s'') s'
theorem js {sc:Scope} {n:Nat} {x:Str} (h:sc.names.lookup x=some .cell):∃ c,(cellsFrom n sc.names []).lookup x=some c:=by
 have q:=PySem.W.cellsFrom_some sc.names n [] (.inl h)
 exact Option.isSome_iff_exists.mp q
theorem sR {CX:CXT} {P:Program} {w:World} {K:PySem.W.Frag} {mg:Str→Option Value} {base:Heap} {N ps:List Str} {qual:Str} {scope:Scope} {f:Addr} {cd:Value} {A:Around} {outer:List Env} {s s1:Shared} {H:Hp} {E:XK} {us:List Value} {vs:List V}
  (S:am N ps scope) (hd:A.handled=none) (e0:Env0 P w K mg base A outer s H) (hl:vs.length=ps.length) (r:Vals vs us)
  (x:InCallC s s.heap.objs.size (bindL (envOfC qual scope s.heap.objs.size f cd).kindOf (ps.zip us) fun _=>none) (cellsFrom (s.heap.objs.size+1) scope.names []) (bindC (envOfC qual scope s.heap.objs.size f cd).kindOf (ps.zip us) fun _=>none) s1):
  Inv (cxOf CX P w K mg base N qual scope f cd A outer s H E) [] (start N vs) H s1:=by
 have hpl:ps.length≤N.length:=by have:=congrArg List.length S.pre; rw [List.length_take] at this; omega
 obtain ⟨h1,tk,rfl,hk⟩:=x.done
 have noA:∀ b:Addr,b∉(cxOf CX P w K mg base N qual scope f cd A outer s H E).ex:=fun b z=>absurd (show b∈([]:List Addr) from z) (by simp)
 refine ⟨⟨e0.mod,S.kind,rfl,rfl,Nat.le_refl _,fun y z c h1 h2=>?_,fun y hy=>?_,fun y c _ h=>?_,fun _=>hd,Around.frames_deeper e0.frames,.inr ⟨rfl,rfl⟩,fun b z=>absurd z (noA b),e0.bs,e0.bsz,fun b _ _=>noA b,fun b z=>absurd z (noA b),e0.funs,e0.frf⟩,
  rfl,e0.bare,Un.kept hk,⟨_,x.toInCall.ns,fun i y v h1 h2 h3=>?_⟩,fun y c h=>⟨_,x.cell y c h⟩,e0.hok.fresh (Nat.le_refl _),fun y c h=>?_,fun p hp=>absurd (show p∈([]:List (Addr × Obj)) from hp) (by simp),e0.hok.kept hk,?_⟩
 · exact name_of_addr x.apart (PySem.mem_of_lookup h1) (PySem.mem_of_lookup h2)
 · have hy:scope.names.lookup y=some .cell∨scope.names.lookup y=some .free:=hy
   rcases hy with hy | hy
   · exact js hy
   · exact absurd rfl (S.nofree _ (PySem.mem_of_lookup hy))
 · exact Nat.le_of_lt (x.above y c (PySem.mem_of_lookup h))
 · have hi:i < vs.length:=by
    unfold start at h2
    by_cases hi:i < vs.length
    · exact hi
    · rw [List.getElem?_append_right (by simpa using hi)] at h2
      rw [List.getElem?_replicate] at h2
      split at h2 <;> cases h2
   have ha:vs[i]? =some v:=by
    unfold start at h2
    rw [List.getElem?_append_left (by simpa using hi),List.getElem?_map] at h2
    cases e:vs[i]? with
    | none=>rw [e] at h2; cases h2
    | some a=>rw [e] at h2; cases h2; rfl
   obtain ⟨u,hu,rv⟩:=r.get ha
   have hp:ps[i]? =some y:=by
    rw [← S.pre,List.getElem?_take_of_lt (by omega)]; exact h1
   have ndP:ps.Nodup:=by rw [← S.pre]; exact S.nd.sublist (List.take_sublist _ _)
   refine ⟨u,rv,?_⟩
   rcases S.par y (List.mem_of_getElem? hp) with k | k
   · exact .inl ⟨k,og ndP hp hu k⟩
   · obtain ⟨c,e⟩:=js (n:=s.heap.objs.size+1) k
     refine .inr ⟨.inl k,c,e,?_⟩
     have q:=x.cell y c e
     rw [oh ndP hp hu (by show scope.names.lookup y≠_; rw [k]; decide)] at q
     exact q
 · exact e0.hok.fresh (Nat.le_of_lt (x.above y c (PySem.mem_of_lookup h)))
 · unfold start
   show _=N.length
   rw [List.length_append,List.length_map,List.length_replicate]
   omega
theorem rO {CX:CXT} {P:Program} {w:World} {K:PySem.W.Frag} {mg:Str→Option Value} {base:Heap} {k:Nat} {f:Addr} {name qual:Str} {params:Arguments} {body:List Stmt} {scope:Scope} {dV kV doc pm cdv ct oc:Value} {an od:Option Addr}
  {osl:Array (Option Value)} {N ps:List Str} {sp:Sp} (lk:K.lookup f=some ⟨oc,od,.func (PySem.W.fnOf name qual params body scope dV kV doc pm an cdv ct),osl⟩) (hcd:PySem.W.codeIn K cdv qual=true) (S:am N ps scope)
  (len:∀ vs H Q E,sp vs H Q E→vs.length=ps.length)
  (hbody:∀ (A:Around) (outer:List Env) (s:Shared) (H:Hp) (vs:List V) (Q:VK) (E:XK),Room k (A.deeper (envOfC qual scope s.heap.objs.size f cdv))→sp vs H Q E→
   ∃ t,PSs (cxOf CX P w K mg base N qual scope f cdv A outer s H E) body t∧t { nx:=fun _ H'=>Q .non H',rt:=Q } (start N vs) H):
  FnOk P w K mg base CX (k+1) f (PySem.W.fnOf name qual params body scope dV kV doc pm an cdv ct) ps sp:=by
 refine ⟨len,fun A outer s H args us vs Q E hr e0 hb r hsp=>?_⟩
 have hl:=len _ _ _ _ hsp
 have KX:K.In s.heap:=e0.mod.kin.keeps fun b o e=>(e0.bs b o e).1
 have lim:s.heap.NoLimit:=e0.mod.nolimit.keeps fun b o e=>(e0.bs b o e).1
 have hkind:∀ y∈ps.zip us,scope.names.lookup y.1=some .local∨(scope.names.lookup y.1=some .cell∧((cellsFrom (s.heap.objs.size+1) scope.names []).lookup y.1).isSome=true):=fun ⟨n,v⟩ hy=>by
  rcases S.par n (List.of_mem_zip hy).1 with q | q
  · exact .inl q
  · exact .inr ⟨q,PySem.W.cellsFrom_some _ _ _ (.inl q)⟩
 refine codeAny_call_function hr.depth (KX _ _ lk) rfl S.co S.gen rfl (PySem.W.codeRec_of KX hcd) (hb _ _ _ _ ?_)
 refine wpAny_newFunctionEnv_cells S.kind hkind fun env he s1 x=>?_
 subst he
 refine ⟨lim.keeps x.toInCall.keep,codeAny_func ?_⟩
 obtain ⟨t,ht,hq⟩:=hbody A outer s H vs Q E (hr.deeper _) hsp
 have I:Inv (cxOf CX P w K mg base N qual scope f cdv A outer s H E) [] (start N vs) H s1:=sR S hr.hd e0 hl r x
 refine wpAny_mono (ht [] s1 (start N vs) H _ I hq) (fun fl s' hs=>?_) fun e s' hs=>hs
 have fin:∀ {σ':St} {H':Hp} {v:V} {u:Value},Inv (cxOf CX P w K mg base N qual scope f cdv A outer s H E) [] σ' H' s'→RelV v u→Q v H'→CE outer P w H s Q u s':=
  fun {σ' H' v u} J rv q=>⟨v,H',J.os,J.bare,J.base,J.hok,rv,q⟩
 cases fl with
 | ret u=>
  obtain ⟨v,σ',H',J,rv,q⟩:=hs
  exact fin J rv q
 | next=>
  obtain ⟨σ',H',J,q⟩:=hs
  exact fin (v:=V.non) (u:=Value.none) J rfl q
 | brk=>
  obtain ⟨_,_,_,q⟩:=hs
  exact False.elim q
 | cont=>
  obtain ⟨_,_,_,q⟩:=hs
  exact False.elim q
end L2
namespace L2
open PySem PySem.Spec PyProof.Rows
section
variable {X:Cx} {x:Str} {p pos:Pos} {e:Expr} {es:List Expr} {t:TA} {id T:String} {r:List V→Hp→VK→Prop}
def tCB (r:List V→Hp→VK→Prop) (t:TA):TE:=fun σ H Q=>t σ H fun vs H1=>r vs H1 Q
theorem aq (hc:CallR X (.builtin id) r) (hg:Gl X x) (hm:X.mg x=none) (hv:bootBuiltins x=some (.builtin id)) (ha:PA X (e::es) t) (hn:x≠"__name__":=by decide) (hdb:(x==("__debug__":Str))=false:=by decide)
  (he:starEach (e::es) X.env=(false,eval e X.env)::starEach es X.env:=by rfl) (hpl:(backTo pos (starEach es X.env)).any (·.1)=false:=by rfl):PE X (.Call (.Name x p) (e::es) [] pos) (tCB r t):=by
 intro pins s σ H Q I h
 refine wpAny_Call_Name_kw (di I hg hm hv ?_ hn hdb)
 exact PyProof.Rows.callWith_builtin1 (thn (ha pos pins s σ H _ I h) fun us s1 ⟨vs,H1,I1,r1,q1⟩=>hc pins s1 σ H1 vs us Q I1 r1 q1) he hpl
theorem eO (hc:CallR X (.type T) r) (hg:Gl X x) (hm:X.mg x=none) (hv:bootBuiltins x=some (.type T)) (ha:PA X (e::es) t) (hn:x≠"__name__":=by decide) (hdb:(x==("__debug__":Str))=false:=by decide)
  (he:starEach (e::es) X.env=(false,eval e X.env)::starEach es X.env:=by rfl) (hpl:(backTo pos (starEach es X.env)).any (·.1)=false:=by rfl):PE X (.Call (.Name x p) (e::es) [] pos) (tCB r t):=by
 intro pins s σ H Q I h
 refine wpAny_Call_Name_kw (di I hg hm hv ?_ hn hdb)
 exact PyProof.Rows.callWith_type1 (thn (ha pos pins s σ H _ I h) fun us s1 ⟨vs,H1,I1,r1,q1⟩=>hc pins s1 σ H1 vs us Q I1 r1 q1) he hpl
end
end L2
namespace HT
open PySem PyProof.Rows
section
open PySem.SeqAt
open PySem.AutoSeq1 (wpAny_loadPart')
open PySem.MeetsSeq PySem.MeetsSeq2 PySem.MeetsSeq3
end
section
variable {prog:Program} {w:World} {A:Around} {E:Value→Shared→Prop} {s:Shared}
def sIx (n d:Nat):Option Int→Nat
 | none=>d
 | some v=>if v < 0 then (v+(n:Int)).toNat else min v.toNat n
theorem sIx_none (n d:Nat):sIx n d none=d:=rfl
theorem sIx_nat (n d k:Nat):sIx n d (some (k:Int))=min k n:=by
 show (if (k:Int) < 0 then ((k:Int)+(n:Int)).toNat else min (k:Int).toNat n)=min k n
 rw [if_neg (by omega),Int.toNat_natCast]
end
end HT
namespace L2
open PySem PySem.Spec PyProof.Rows
abbrev TO:=St→Hp→(Option Int→Hp→Prop)→Prop
def PO (X:Cx) (e:Option Expr) (t:TO):Prop:=
 ∀ (pins:List (Addr × Obj)) (s:Shared) (σ:St) (H:Hp) (Q:Option Int→Hp→Prop),Inv X pins σ H s→t σ H Q→
  wpAny (model X.prog X.w) X.A (evalPart e X.env) (fun u s'=>∃ o H',Inv X pins σ H' s'∧IsPart u o∧Q o H') X.xe s
def dC:TO:=fun _ H Q=>Q none H
def tPart (t:TE):TO:=fun σ H Q=>t σ H fun x H1=>∃ i,x=.int i∧Q (some i) H1
theorem lU {ns:List Int}:∀ {us:List Value},Vals (ns.map V.int) us→IntsAre us ns:=by
 induction ns with
 | nil=>intro us r; rw [List.map_nil] at r; cases r; exact .nil
 | cons n ns ih=>
  intro us r
  rw [List.map_cons] at r
  cases r with
  | cons r1 r2=>
   obtain ⟨t,e⟩:=r1
   subst e
   exact .cons n t (ih r2)
section
variable {X:Cx} {e:Expr} {te:TE} {lo hi:Option Expr} {tl th:TO} {pos p2:Pos}
theorem gR:PO X none dC:=by
 intro pins s σ H Q I h
 rw [evalPart_none]
 exact wpAny_pure ⟨none,H,I,.none,h⟩
theorem gS (h:PE X e te):PO X (some e) (tPart te):=by
 intro pins s σ H Q I hw
 rw [evalPart_some]
 refine thn (h pins s σ H _ I hw) fun u s1 ⟨x,H1,I1,r1,q1⟩=>?_
 obtain ⟨i,rfl,q⟩:=q1
 obtain ⟨t,rfl⟩:=r1
 exact ⟨some i,H1,I1,.int i t,q⟩
def SlR (X:Cx) (r:V→Option Int→Option Int→Hp→VK→Prop):Prop:=
 ∀ (pins:List (Addr × Obj)) (s:Shared) (σ:St) (H:Hp) (x:V) (v vl vu:Value) (lo hi:Option Int) (sl:Addr) (Q:VK),Inv X pins σ H s→RelV x v→s.heap.IsSliceOf sl vl vu .none→IsPart vl lo→IsPart vu hi→r x lo hi H Q→
  ∃ T id,typeLookup (.type T) "__getitem__"=pure (some (.builtin id))∧s.TypeIs v T∧wpAny (model X.prog X.w) X.A (getItem v (.ref sl)) (EP X pins σ Q) X.xe s
def tSl (r:V→Option Int→Option Int→Hp→VK→Prop) (te:TE) (tl th:TO):TE:=fun σ H Q=>te σ H fun x H1=>tl σ H1 fun l H2=>th σ H2 fun u H3=>r x l u H3 Q
theorem fN {r:V→Option Int→Option Int→Hp→VK→Prop} (hr:SlR X r) (he:PE X e te) (hl:PO X lo tl) (hu:PO X hi th):PE X (.Subscript e (.Slice lo hi none p2) pos) (tSl r te tl th):=by
 intro pins s σ H Q I h
 refine Subscript_ (thn (he pins s σ H _ I h) fun v s1 ⟨x,H1,I1,r1,q1⟩=>?_)
 refine wpAny_Slice (thn (hl pins s1 σ H1 _ I1 q1) fun vl s2 ⟨l,H2,I2,pl,q2⟩=>thn (hu pins s2 σ H2 _ I2 q2) fun vu s3 ⟨u,H3,I3,pu,q3⟩=>?_)
 rw [evalPart_none]
 refine wpAny_pure ?_
 have I4:Inv X pins σ H3 { s3 with heap:=s3.heap.push { cls:=.type "slice",data:=.fields #[vl,vu,.none] } }:=I3.kept (t':=s3.toks) fun b ob q=>Heap.get?_push_of_some _ q
 obtain ⟨T,id,hT,ht,hg⟩:=hr pins { s3 with heap:=s3.heap.push { cls:=.type "slice",data:=.fields #[vl,vu,.none] } } σ H3 x v vl vu l u s3.heap.objs.size Q I4 r1 (Heap.IsSliceOf.new ..) pl pu q3
 show wpAny (model X.prog X.w) X.A (subscriptTail e (.Slice lo hi none p2) v (.ref s3.heap.objs.size)) (EP X pins σ Q) X.xe { s3 with heap:=s3.heap.push { cls:=.type "slice",data:=.fields #[vl,vu,.none] } }
 exact tail_any (ops:=[.ref s3.heap.objs.size,v]) ht hT hg (by with_unfolding_all rfl)
def cutV (xs:List V) (lo hi:Option Int):List V:=(xs.drop (HT.sIx xs.length 0 lo)).take (HT.sIx xs.length xs.length hi - HT.sIx xs.length 0 lo)
theorem qJ (xs:List V) (lo hi:Option Int):(cutV xs lo hi).length≤xs.length:=by
 unfold cutV
 rw [List.length_take,List.length_drop]
 omega
end
end L2
namespace L2
open PySem PySem.Spec PyProof.Rows
def ixN (n:Nat) (i:Int):Option Nat:=if 0≤i then (if i < n then some i.toNat else none) else if -(n:Int)≤i then some (i+n).toNat else none
def atI {α:Type} (xs:List α) (i:Int):Option α:=(ixN xs.length i).bind fun j=>xs[j]?
theorem vd {n:Nat} {i:Int} {j:Nat} (h:ixN n i=some j):seqIndex? i n=some j∧j < n∧ -(n:Int)≤i∧i < n:=by
 unfold ixN at h
 by_cases h0:0≤i
 · rw [if_pos h0] at h
   by_cases h1:i < n
   · rw [if_pos h1] at h
     have e:i.toNat=j:=Option.some.inj h
     exact ⟨by rw [seqIndex_of h0 h1,e],by omega,by omega,h1⟩
   · rw [if_neg h1] at h; cases h
 · rw [if_neg h0] at h
   by_cases h1: -(n:Int)≤i
   · rw [if_pos h1] at h
     have e:(i+n).toNat=j:=Option.some.inj h
     exact ⟨by rw [seqIndex_neg (by omega) h1,e],by omega,h1,by omega⟩
   · rw [if_neg h1] at h; cases h
theorem m9 {α:Type} {xs:List α} {i:Int} {v:α} (h:atI xs i=some v):∃ j,seqIndex? i xs.length=some j∧xs[j]? =some v∧j < xs.length∧ -(xs.length:Int)≤i∧i < xs.length:=by
 unfold atI at h
 cases e:ixN xs.length i with
 | none=>rw [e] at h; cases h
 | some j=>
  rw [e] at h
  obtain ⟨h1,h2,h3,h4⟩:=vd e
  exact ⟨j,h1,h,h2,h3,h4⟩
theorem gU {α:Type} {xs:List α} {j:Nat} {v:α} (h:xs[j]? =some v):atI xs (j:Int)=some v:=by
 have hj:j < xs.length:=(List.getElem?_eq_some_iff.mp h).1
 have e:ixN xs.length (j:Int)=some j:=by
  unfold ixN
  rw [if_pos (by omega),if_pos (by omega)]; simp
 unfold atI; rw [e]; exact h
def vf (b:Expr):Prop:=∀ o i,subscripted b false o i=operate [o,i] (getItem o i)
def IxR (X:Cx) (r:R2):Prop:=
 ∀ (value slice:Expr) (pins:List (Addr × Obj)) (s:Shared) (σ:St) (H:Hp) (x y:V) (v u:Value) (Q:VK),Inv X pins σ H s→RelV x v→RelV y u→r x y H Q→
  subscripted slice false v u=operate [v,u] (getItem v u)→wpAny (model X.prog X.w) X.A (subscriptTail value slice v u) (EP X pins σ Q) X.xe s
def MtR (X:Cx) (id:String) (r:V→List V→Hp→VK→Prop):Prop:=
 ∀ (pins:List (Addr × Obj)) (s:Shared) (σ:St) (H:Hp) (x:V) (xs:List V) (v:Value) (us:List Value) (Q:VK),Inv X pins σ H s→RelV x v→Vals xs us→r x xs H Q→
  wpAny (model X.prog X.w) X.A (call (.builtin id) (v::us)) (EP X pins σ Q) X.xe s
section
variable {X:Cx} {a b:Expr} {ta tb:TE} {pos:Pos}
theorem aB {r:R2} (hr:IxR X r) (ha:PE X a ta) (hb:PE X b tb) (hs:vf b):PE X (.Subscript a b pos) (tOp r ta tb):=by
 intro pins s σ H Q I h
 exact Subscript_ (binT ha hb I h fun v u s2 x y H2 I2 rx ry q=>hr a b pins s2 σ H2 x y v u Q I2 rx ry q (hs _ _))
def rIxL (K:PySem.W.Frag):R2:=fun x y H Q=>∃ p xs i v,x=.ref p∧y=.int i∧SqL K H p xs∧atI xs i=some v∧Q v H
def rIxT (K:PySem.W.Frag):R2:=fun x y H Q=>∃ p xs i v,x=.ref p∧y=.int i∧SqT K H p xs∧atI xs i=some v∧Q v H
def rIxS:R2:=fun x y H Q=>∃ z i c,x=.str z∧y=.int i∧z.length≤sizeLine∧atI z.cps.toList i=some c∧Q (.str ⟨#[c]⟩) H
theorem nc:IxR X (rIxL X.K):=by
 intro value slice pins s σ H x y v u Q I rx ry h hs
 obtain ⟨p,xs,i,z,rfl,rfl,hq,he,q⟩:=h
 cases rx
 obtain ⟨t,rfl⟩:=ry
 obtain ⟨its,r,pl,hz⟩:=I.list hq
 obtain ⟨j,h1,h2,h3,h4,h5⟩:=m9 he
 obtain ⟨w,ew,rw'⟩:=r.get h2
 have hl:=r.length
 have hn:=jT
 have fin:EP X pins σ Q w s:=⟨z,H,I,rw',q⟩
 by_cases h0:0≤i
 · have hj:i.toNat=j:=by
    rw [seqIndex_of h0 h5] at h1
    exact Option.some.inj h1
   exact item_listR pl.isList h0 (by omega) (by rw [hj]; simpa using ew) fin hs
 · have hj:(i+(its.toArray.size:Int)).toNat=j:=by
    rw [seqIndex_neg (by omega) h4] at h1
    rw [List.size_toArray,← hl]
    exact Option.some.inj h1
   exact subscriptTail_builtinR (x:=w) pl.isList.typeIs slot_list_getitem.lookup
    (wpAny_getItem_list_neg (Q:=fun r s'=>r=w∧EP X pins σ Q r s') pl.isList (by omega) (by rw [List.size_toArray] <;> omega) (by omega) (by rw [hj]; simpa using ew) ⟨rfl,fin⟩) hs
theorem v6:IxR X (rIxT X.K):=by
 intro value slice pins s σ H x y v u Q I rx ry h hs
 obtain ⟨p,xs,i,z,rfl,rfl,hq,he,q⟩:=h
 cases rx
 obtain ⟨t,rfl⟩:=ry
 obtain ⟨its,r,pl,hz⟩:=I.tuple hq
 obtain ⟨j,h1,h2,h3,h4,h5⟩:=m9 he
 obtain ⟨w,ew,rw'⟩:=r.get h2
 have hl:=r.length
 have hn:=jT
 have fin:EP X pins σ Q w s:=⟨z,H,I,rw',q⟩
 exact subscriptTail_builtinR (x:=w) pl.typeIs slot_tuple_getitem.lookup
  (getItem_tuple (j:=j) (Q:=fun r s'=>r=w∧EP X pins σ Q r s') pl (by omega) (by omega) (by rw [List.size_toArray,← hl]; exact h1) (by simpa using ew) ⟨rfl,fin⟩) hs
theorem v7:IxR X rIxS:=by
 intro value slice pins s σ H x y v u Q I rx ry h hs
 obtain ⟨z,i,c,rfl,rfl,hz,he,q⟩:=h
 obtain ⟨t,rfl⟩:=rx
 obtain ⟨t',rfl⟩:=ry
 obtain ⟨j,h1,h2,h3,h4,h5⟩:=m9 he
 have hl:z.cps.toList.length=z.length:=by simp [Str.length]
 rw [hl] at h1 h4 h5
 have hn:=jT
 exact tail_any (typeIs_str s z t) slot_str_getitem.lookup (getItem_str (c:=c) (by
  have e1:decide (i < -(2^63:Int))=false:=decide_eq_false (by omega)
  have e2:decide (i ≥ 2^63)=false:=decide_eq_false (by omega)
  rw [e1,e2,Bool.or_false]) (by rw [h1]; simpa using h2) ⟨.str ⟨#[c]⟩,H,I.tok _,⟨_,rfl⟩,q⟩) hs
theorem Inv.lst {pins:List (Addr × Obj)} {σ:St} {H:Hp} {s:Shared} {p:Addr} {xs:List V} (I:Inv X pins σ H s) (h:H p=some (.lst xs)):
  ∃ (its:List Value) (n:Nat),Vals xs its∧s.heap.get? p=some { cls:=.type "list",data:=.seq its.toArray n }∧xs.length≤sizeLine:=by
 obtain ⟨z,its,n,r,e⟩:=I.hok p _ h
 exact ⟨its,n,r,e,z⟩
theorem pG (lo hi:Option Int) (n:Nat):(sliceBounds lo hi none n).1=((HT.sIx n 0 lo:Nat):Int)∧(sliceBounds lo hi none n).2.1=((HT.sIx n n hi:Nat):Int)∧(sliceBounds lo hi none n).2.2=1:=by
 refine ⟨?_,?_,rfl⟩
 · cases lo with
   | none=>simp [sliceBounds,HT.sIx]
   | some i=>
    simp only [sliceBounds,HT.sIx,Option.getD_none,show (1:Int) > 0 by decide,if_true]
    by_cases h:i < 0
    · simp only [h,if_true] <;> omega
    · simp only [h,if_false] <;> omega
 · cases hi with
   | none=>simp [sliceBounds,HT.sIx]
   | some i=>
    simp only [sliceBounds,HT.sIx,Option.getD_none,show (1:Int) > 0 by decide,if_true]
    by_cases h:i < 0
    · simp only [h,if_true] <;> omega
    · simp only [h,if_false] <;> omega
theorem oJ (its:List Value) (lo hi:Option Int):slicePick its.toArray lo hi none=((its.drop (HT.sIx its.length 0 lo)).take (HT.sIx its.length its.length hi - HT.sIx its.length 0 lo)).toArray:=by
 obtain ⟨h1,h2,h3⟩:=pG lo hi its.toArray.size
 unfold slicePick
 rw [h1,h2,h3]
 simp only [sliceRange_one,pick_run,List.size_toArray] <;> rfl
def rSlL (K:PySem.W.Frag):V→Option Int→Option Int→Hp→VK→Prop:=fun x lo hi H Q=>∃ a xs,x=.ref a∧SqL K H a xs∧∀ p,H p=none→Q (.ref p) (upd H p (.lst (cutV xs lo hi)))
theorem vg:SlR X (rSlL X.K):=by
 intro pins s σ H x v vl vu lo hi sl Q I rx hs pl pu h
 obtain ⟨a,xs,rfl,hx,q⟩:=h
 cases rx
 obtain ⟨its,r,ht,hz⟩:=I.list hx
 have hlen:=r.length
 refine ⟨"list",_,slot_list_getitem.lookup,ht.isList.typeIs,?_⟩
 refine wpAny_getItem_list_slice ht.isList hs pl pu .none (by simp) ?_ (by rw [List.size_toArray] <;> omega)
 rw [oJ,← hlen]
 refine ⟨.ref s.heap.objs.size,_,I.laid (t':=s.toks) (o:=.lst (cutV xs lo hi)) (fun b ob q=>Heap.get?_push_of_some _ q) (Nat.le_refl _) ?_,rfl,q _ (I.hok.fresh (Nat.le_refl _))⟩
 exact ⟨Nat.le_trans (qJ xs lo hi) hz,_,0,(r.drop (HT.sIx xs.length 0 lo)).take (HT.sIx xs.length xs.length hi - HT.sIx xs.length 0 lo),Heap.get?_push_size _ rfl⟩
def flatV:V→Bool
 | .non=>true
 | .bl _=>true
 | .int _=>true
 | .str _=>true
 | _=>false
def eqV:V→V→Bool
 | .non,.non=>true
 | .bl a,.bl b=>a==b
 | .bl a,.int b=>(if a then 1 else 0)==b
 | .int a,.bl b=>a==(if b then 1 else 0)
 | .int a,.int b=>a==b
 | .str a,.str b=>a==b
 | _,_=>false
theorem v9 {A:Around} {s:Shared} {y x:V} {u v:Value} (ry:RelV y u) (rx:RelV x v) (fy:flatV y=true) (fx:flatV x=true):SeqAt.EqAt A s u v (eqV y x):=by
 cases y with
 | non=>
  cases ry
  cases x with
  | non=>cases rx; exact SeqAt.EqAt.same _
  | bl b=>cases rx; exact SeqAt.EqAt.none_bool b
  | int b=>obtain ⟨t,rfl⟩:=rx; exact SeqAt.EqAt.none_int b t
  | str b=>obtain ⟨t,rfl⟩:=rx; exact SeqAt.EqAt.none_str b t
  | _=>exact absurd (show false=true from fx) Bool.false_ne_true
 | bl a=>
  cases ry
  cases x with
  | non=>cases rx; exact SeqAt.EqAt.bool_none a
  | bl b=>cases rx; exact SeqAt.EqAt.bool_bool a b
  | int b=>obtain ⟨t,rfl⟩:=rx; exact SeqAt.EqAt.bool_int a b t
  | str b=>obtain ⟨t,rfl⟩:=rx; exact SeqAt.EqAt.bool_str a b t
  | _=>exact absurd (show false=true from fx) Bool.false_ne_true
 | int a=>
  obtain ⟨t',rfl⟩:=ry
  cases x with
  | non=>cases rx; exact SeqAt.EqAt.int_none a t'
  | bl b=>cases rx; exact SeqAt.EqAt.int_bool a t' b
  | int b=>obtain ⟨t,rfl⟩:=rx; exact SeqAt.EqAt.int_int a t' b t
  | str b=>obtain ⟨t,rfl⟩:=rx; exact SeqAt.EqAt.int_str a t' b t
  | _=>exact absurd (show false=true from fx) Bool.false_ne_true
 | str a=>
  obtain ⟨t',rfl⟩:=ry
  cases x with
  | non=>cases rx; exact SeqAt.EqAt.str_none a t'
  | bl b=>cases rx; exact SeqAt.EqAt.str_bool a t' b
  | int b=>obtain ⟨t,rfl⟩:=rx; exact SeqAt.EqAt.str_int a t' b t
  | str b=>obtain ⟨t,rfl⟩:=rx; exact SeqAt.EqAt.str_str a t' b t
  | _=>exact absurd (show false=true from fx) Bool.false_ne_true
 | _=>exact absurd (show false=true from fy) Bool.false_ne_true
def eqU (x:V) (u:Value):Bool:=match u with
 | .none=>eqV .non x
 | .bool b=>eqV (.bl b) x
 | .int i _=>eqV (.int i) x
 | .str z _=>eqV (.str z) x
 | _=>false
theorem sS {x y:V} {u:Value} (r:RelV y u) (f:flatV y=true):eqU x u=eqV y x:=by
 cases y with
 | non=>cases r; rfl
 | bl b=>cases r; rfl
 | int i=>obtain ⟨t,rfl⟩:=r; rfl
 | str z=>obtain ⟨t,rfl⟩:=r; rfl
 | _=>exact absurd (show false=true from f) Bool.false_ne_true
theorem jc {x:V}:∀ {xs:List V} {us:List Value},Vals xs us→xs.all flatV=true→us.any (eqU x)=xs.any fun y=>eqV y x
 | _,_,.nil,_=>rfl
 | y::xs,u::us,.cons r t,f=>by
  rw [List.all_cons,Bool.and_eq_true] at f
  rw [List.any_cons,List.any_cons,sS r f.1,jc t f.2]
theorem gZ {A:Around} {s:Shared} {x:V} {v:Value} (rx:RelV x v) (fx:flatV x=true):∀ {xs:List V} {us:List Value},Vals xs us→xs.all flatV=true→∀ u∈us,SeqAt.EqAt A s u v (eqU x u)
 | _,_,.nil,_=>fun u hu=>by cases hu
 | y::xs,u::us,.cons r t,f=>fun u' hu=>by
  rw [List.all_cons,Bool.and_eq_true] at f
  rcases List.mem_cons.mp hu with rfl | hu
  · rw [sS r f.1]; exact v9 r rx f.1 fx
  · exact gZ rx fx t f.2 u' hu
def inV (x:V) (xs:List V):Bool:=xs.any fun y=>eqV y x
def rIn (K:PySem.W.Frag) (neg:Bool):R2:=fun x y H Q=>∃ p xs,y=.ref p∧(SqL K H p xs∨SqT K H p xs)∧flatV x=true∧xs.all flatV=true∧Q (.bl (if neg then !inV x xs else inV x xs)) H
theorem oi:OpR X (compareOp .In) (rIn X.K false):=by
 intro pins s σ H x y v u Q I rx ry h
 obtain ⟨p,xs,rfl,hq,fx,fs,q⟩:=h
 cases ry
 rcases hq with hq | hq
 · obtain ⟨its,r,pl,hz⟩:=I.list hq
   refine SeqAt.in_listAt (eqU x) pl.isList (fun w hw=>gZ rx fx r fs w (by simpa using hw)) ⟨.bl _,H,I,rfl,?_⟩
   rw [show its.toArray.any (eqU x)=its.any (eqU x) by simp,jc r fs]
   exact q
 · obtain ⟨its,r,pl,hz⟩:=I.tuple hq
   refine SeqAt.in_tupleAt (eqU x) pl (fun w hw=>gZ rx fx r fs w (by simpa using hw)) ⟨.bl _,H,I,rfl,?_⟩
   rw [show its.toArray.any (eqU x)=its.any (eqU x) by simp,jc r fs]
   exact q
theorem jW:OpR X (compareOp .NotIn) (rIn X.K true):=by
 intro pins s σ H x y v u Q I rx ry h
 obtain ⟨p,xs,rfl,hq,fx,fs,q⟩:=h
 cases ry
 rcases hq with hq | hq
 · obtain ⟨its,r,pl,hz⟩:=I.list hq
   refine SeqAt.notIn_listAt (eqU x) pl.isList (fun w hw=>gZ rx fx r fs w (by simpa using hw)) ⟨.bl _,H,I,rfl,?_⟩
   rw [show its.toArray.any (eqU x)=its.any (eqU x) by simp,jc r fs]
   exact q
 · obtain ⟨its,r,pl,hz⟩:=I.tuple hq
   refine SeqAt.notIn_tupleAt (eqU x) pl (fun w hw=>gZ rx fx r fs w (by simpa using hw)) ⟨.bl _,H,I,rfl,?_⟩
   rw [show its.toArray.any (eqU x)=its.any (eqU x) by simp,jc r fs]
   exact q
theorem pH:OpR X (compareOp .NotIn) (fun x y H Q=>∃ i j,x=.str i∧y=.str j∧Q (.bl (!(!(Builtin.Str.occurrences j i 0 j.length 1).isEmpty))) H):=by
 intro pins s σ H x y v u Q I rx ry h
 obtain ⟨i,j,rfl,rfl,q⟩:=h
 obtain ⟨t,rfl⟩:=rx
 obtain ⟨t',rfl⟩:=ry
 exact notIn_str ⟨.bl _,H,I,rfl,q⟩
theorem fb:CallR X (.builtin "len") (fun xs H Q=>∃ p ys,xs=[.ref p]∧(SqL X.K H p ys∨SqT X.K H p ys)∧Q (.int ys.length) H):=by
 intro pins s σ H xs us Q I r h
 obtain ⟨p,ys,rfl,hq,q⟩:=h
 obtain ⟨u,rfl,rx⟩:=cC r
 cases rx
 have hn:=jT
 rcases hq with hq | hq
 · obtain ⟨its,r',pl,hz⟩:=I.list hq
   have hlen:=r'.length
   exact Calls.call_len_list pl.isList (by simp only [List.size_toArray] <;> omega) ⟨.int ys.length,H,I.tok _,⟨s.toks+1,by rw [List.size_toArray,hlen]⟩,q⟩
 · obtain ⟨its,r',pl,hz⟩:=I.tuple hq
   have hlen:=r'.length
   exact len_tuple pl (by simp only [List.size_toArray] <;> omega) ⟨.int ys.length,H,I.tok _,⟨s.toks+1,by rw [List.size_toArray,hlen]⟩,q⟩
theorem pI:CallR X (.builtin "len") (fun xs H Q=>∃ z,xs=[.str z]∧z.length≤sizeLine∧Q (.int z.length) H):=by
 intro pins s σ H xs us Q I r h
 obtain ⟨z,rfl,hz,q⟩:=h
 obtain ⟨u,rfl,t,rfl⟩:=cC r
 have hn:=jT
 exact len_str (by omega) ⟨.int z.length,H,I.tok _,⟨_,rfl⟩,q⟩
theorem pJ:CallR X (.type "list") (fun xs H Q=>∃ p ys,xs=[.ref p]∧(SqL X.K H p ys∨SqT X.K H p ys)∧∀ l,H l=none→Q (.ref l) (upd H l (.lst ys))):=by
 intro pins s σ H xs us Q I r h
 obtain ⟨p,ys,rfl,hq,q⟩:=h
 obtain ⟨u,rfl,rx⟩:=cC r
 cases rx
 have fin:∀ (its:List Value),Vals ys its→ys.length≤sizeLine→∀ (h':Heap) (c':Nat),(∀ b o',s.heap.get? b=some o'→h'.get? b=some o')→
   h'.get? s.heap.objs.size=some { cls:=.type "list",dict:=none,data:=.seq its.toArray c',slots:=#[] }→EP X pins σ Q (.ref s.heap.objs.size) { s with heap:=h' }:=fun its r' hz h' c' kp e=>
  ⟨.ref s.heap.objs.size,_,I.laid (t':=s.toks) kp (Nat.le_refl _) (show ObjOk X.prog X.w _ h' _ (.lst ys) from ⟨hz,its,c',r',e⟩),rfl,q _ (I.hok.fresh (Nat.le_refl _))⟩
 rcases hq with hq | hq
 · obtain ⟨its,r',pl,hz⟩:=I.list hq
   have hlen:=r'.length
   obtain ⟨o,ho,hc,n,hd⟩:=pl.isList
   exact call_list_seq p (.inl rfl) ho hc hd (fun h' c' kp e=>fin its r' hz h' c' kp e) (by simp only [List.size_toArray] <;> omega)
 · obtain ⟨its,r',pl,hz⟩:=I.tuple hq
   have hlen:=r'.length
   obtain ⟨o,ho,hc,n,hd⟩:=pl
   exact call_list_seq p (.inr rfl) ho hc hd (fun h' c' kp e=>fin its r' hz h' c' kp e) (by simp only [List.size_toArray] <;> omega)
theorem oK:CallR X (.type "tuple") (fun xs H Q=>∃ p ys,xs=[.ref p]∧((SqL X.K H p ys∧∀ l,H l=none→Q (.ref l) (upd H l (.tup ys)))∨(SqT X.K H p ys∧Q (.ref p) H))):=by
 intro pins s σ H xs us Q I r h
 obtain ⟨p,ys,rfl,h⟩:=h
 obtain ⟨u,rfl,rx⟩:=cC r
 cases rx
 rcases h with ⟨hq,q⟩ | ⟨hq,q⟩
 · obtain ⟨its,r',pl,hz⟩:=I.list hq
   have hlen:=r'.length
   refine call_tuple_list pl.isList (fun h' kp=>?_) (by simp only [List.size_toArray] <;> omega)
   have I1:Inv X pins σ H { s with heap:=h' }:=I.kept (t':=s.toks) kp
   have I2:Inv X pins σ (upd H h'.objs.size (.tup ys)) { s with heap:=h'.push { cls:=.type "tuple",data:=.seq its.toArray } }:=
    I1.laid (t':=s.toks) (fun b o e=>Heap.get?_push_of_some _ e) (Nat.le_refl _) (show ObjOk X.prog X.w _ _ _ (.tup ys) from ⟨hz,its,r',IsTup.new _ _⟩)
   exact ⟨.ref h'.objs.size,_,I2,rfl,q _ (I1.hok.fresh (Nat.le_refl _))⟩
 · obtain ⟨its,r',pl,hz⟩:=I.tuple hq
   exact call_tuple_same pl ⟨.ref p,H,I,rfl,q⟩
def tyV (K:PySem.W.Frag) (T:String) (x:V) (H:Hp):Prop:=match x with
 | .str _=>T="str"
 | .int _=>T="int"
 | .ref p=>(T="list"∧∃ xs,SqL K H p xs)∨(T="tuple"∧∃ o,K.lookup p=some o∧o.cls=.type "tuple"∧o.dict=none)∨
   (T="dict"∧((∃ kvs,H p=some (.dK kvs))∨∃ kvs,H p=some (.dT kvs)))∨(T="set"∧∃ S n,H p=some (.set S n))
 | _=>False
theorem wa {pins:List (Addr × Obj)} {σ:St} {H:Hp} {s:Shared} {T:String} {x:V} {v:Value} (I:Inv X pins σ H s) (r:RelV x v) (ty:tyV X.K T x H):
  s.TypeIs v T∧∀ a,v=.ref a→∃ ob,s.heap.get? a=some ob∧ob.dict=none:=by
 cases x with
 | str z=>
  obtain ⟨t,rfl⟩:=r
  cases (show T="str" from ty)
  exact ⟨typeIs_str s z t,fun _ e=>nomatch e⟩
 | int i=>
  obtain ⟨t,rfl⟩:=r
  cases (show T="int" from ty)
  exact ⟨typeIs_int s i t,fun _ e=>nomatch e⟩
 | ref p=>
  cases r
  rcases ty with ⟨rfl,xs,hq⟩ | ⟨rfl,o,hk,hc,hd⟩ | ⟨rfl,hk⟩ | ⟨rfl,S,n,hk⟩
  · obtain ⟨its,_,pl,_⟩:=I.list hq
    refine ⟨pl.isList.typeIs,fun a e=>?_⟩
    cases e
    obtain ⟨o,n,e,c,hd,_⟩:=pl
    exact ⟨o,e,hd⟩
  · refine ⟨⟨o,I.kIn p o hk,hc⟩,fun a e=>?_⟩
    cases e
    exact ⟨o,I.kIn _ o hk,hd⟩
  · have z:∃ o,s.heap.get? p=some o∧o.ExactDict:=by
     rcases hk with ⟨kvs,hk⟩ | ⟨kvs,hk⟩
     · obtain ⟨_,_,_,_,o,_,_,e,ex,_⟩:=I.hok p _ hk
       exact ⟨o,e,ex⟩
     · obtain ⟨_,_,_,_,o,_,_,e,ex,_⟩:=I.hok p _ hk
       exact ⟨o,e,ex⟩
    obtain ⟨o,e,ex⟩:=z
    refine ⟨⟨o,e,ex.1⟩,fun a e2=>?_⟩
    cases e2
    exact ⟨o,e,ex.2.1⟩
  · obtain ⟨o,_,_,_,e,ex,_⟩:=I.hok p _ hk
    refine ⟨⟨o,e,ex.1⟩,fun a e2=>?_⟩
    cases e2
    exact ⟨o,e,ex.2.1⟩
 | _=>exact False.elim ty
def xf (K:PySem.W.Frag) (T:String) (r:V→List V→Hp→VK→Prop) (to:TE):TE:=fun σ H Q=>to σ H fun x H1=>tyV K T x H1∧r x [] H1 Q
def tBM (K:PySem.W.Frag) (T:String) (r:V→List V→Hp→VK→Prop) (to:TE) (t:TA):TE:=fun σ H Q=>to σ H fun x H1=>tyV K T x H1∧t σ H1 fun xs H2=>r x xs H2 Q
variable {o e:Expr} {es:List Expr} {to:TE} {t:TA} {name:Str} {apos cpos:Pos} {T id:String} {r:V→List V→Hp→VK→Prop}
theorem d0 (pa:PlainAttrs T) (slot:Slot T name id) (hty:typeOf (.builtin id)=pure (.type "method_descriptor")) (hm:MtR X id r) (ho:PE X o to) (ha:PA X (e::es) t)
  (hbase:attributeBase o name X.env (eval o X.env)=eval o X.env:=by rfl)
  (hfew:((backTo cpos (starEach (e::es) X.env)).all (fun x=>!x.1)&&(backToKw cpos (keywordEach [] X.env)).all (fun x=>x.1.isSome)
   &&decide ((e::es).length+([]:List Keyword).length+(if ([]:List Keyword).isEmpty then 0 else 1) < 30))=true:=by rfl)
  (hline:(apos.endLine==cpos.line)=true:=by rfl) (hs:starEach (e::es) X.env=(false,eval e X.env)::starEach es X.env:=by rfl) (hplain:(backTo cpos (starEach es X.env)).any (·.1)=false:=by rfl):
  PE X (.Call (.Attribute o name apos) (e::es) [] cpos) (tBM X.K T r to t):=by
 intro pins s σ H Q I h
 refine wpAny_Call_method_late hbase hfew hline rfl (thn (ho pins s σ H _ I h) fun v s1 ⟨x,H1,I1,r1,ty,q1⟩=>?_)
 obtain ⟨h1,h2⟩:=wa I1 r1 ty
 refine ⟨T,id,pa,slot,hty,h1,h2,?_⟩
 have hA:=ha cpos pins s1 σ H1 _ I1 q1
 rw [hs] at hA ⊢
 refine Calls.callWith_builtin (by show (false||(backTo cpos (starEach es X.env)).any (·.1))=false; rw [hplain] <;> rfl) (Calls.evalArgs_plain ?_)
 exact thn hA fun us s2 ⟨vs,H2,I2,r2,q2⟩=>hm pins s2 σ H2 x vs v us Q I2 r1 r2 q2
end
end L2
namespace L2
open PySem PySem.Spec PyProof.Rows
def MtM (X:Cx) (id:String) (r:V→List V→Hp→VK→Prop):Prop:=
 ∀ (pins:List (Addr × Obj)) (s:Shared) (σ:St) (H:Hp) (x:V) (xs:List V) (v:Value) (us:List Value) (Q:VK),Inv X pins σ H s→RelV x v→Vals xs us→r x xs H Q→
  wpAny (model X.prog X.w) X.A (call (.builtin id) (v::us)) (EP X pins σ Q) X.xe s
theorem Vals.one:∀ {x:V} {us:List Value},Vals [x] us→∃ u,us=[u]∧RelV x u
 | _,_,.cons r .nil=>⟨_,rfl,r⟩
theorem Vals.eraseIdx:∀ {xs:List V} {us:List Value} (i:Nat),Vals xs us→Vals (xs.eraseIdx i) (us.eraseIdx i)
 | _,_,_,.nil=>.nil
 | _,_,0,.cons _ t=>t
 | _,_,i+1,.cons r t=>.cons r (Vals.eraseIdx i t)
theorem Vals.rep {xs:List V} {us:List Value} (h:Vals xs us):∀ k:Nat,Vals (List.replicate k xs).flatten (List.replicate k us).flatten
 | 0=>.nil
 | k+1=>by
  rw [List.replicate_succ,List.replicate_succ,List.flatten_cons,List.flatten_cons]
  exact Vals.append h (Vals.rep h k)
theorem oj {α:Type}:∀ (l:List α) (i:Nat),(l.eraseIdx i).length≤l.length
 | [],_=>Nat.le_refl _
 | _::_,0=>Nat.le_succ _
 | _::r,i+1=>Nat.succ_le_succ (oj r i)
theorem ol (its:List Value):∀ (k:Nat) (acc:List Value),
  List.foldl (fun x1 x2=>x1++x2) acc.toArray (List.replicate k its.toArray)=(acc++(List.replicate k its).flatten).toArray
 | 0,acc=>by simp
 | k+1,acc=>by
  have e:acc.toArray++its.toArray=(acc++its).toArray:=by simp
  have e2:(acc++its)++(List.replicate k its).flatten=acc++(List.replicate (k+1) its).flatten:=by
   rw [List.replicate_succ,List.flatten_cons,List.append_assoc]
  rw [← e2,← ol its k (acc++its),← e,List.replicate_succ,List.foldl_cons]
section
variable {X:Cx} {pins:List (Addr × Obj)} {σ:St} {H:Hp} {s:Shared} {l b:Addr} {xs ys zs:List V}
theorem Inv.lset {its its':List Value} {n:Nat} {f:Array Value→Array Value} {t':Nat} (I:Inv X pins σ H s) (hH:H l=some (.lst xs))
  (e:s.heap.get? l=some { cls:=.type "list",data:=.seq its.toArray n }) (hf:f its.toArray=its'.toArray) (hv:Vals ys its') (hz:ys.length≤sizeLine):
  Inv X pins σ (upd H l (.lst ys)) { s with heap:=s.heap.update l (Obj.mapSeq f),toks:=t' }:=by
 have q:=PySem.IsL.update e f
 rw [hf] at q
 refine I.write (x:=l) (e:=l) (by rw [hH]; exact trivial) (.inl rfl) (fun b' u hb hu=>(Heap.get?_update_other s.heap (Obj.mapSeq f) (Ne.symm hb)).trans hu) ⟨_,q⟩ ?_
 exact ⟨hz,its',_,hv,q⟩
theorem Inv.lnew {its:List Value} {t':Nat} (I:Inv X pins σ H s) (hv:Vals ys its) (hz:ys.length≤sizeLine):
  Inv X pins σ (upd H s.heap.objs.size (.lst ys)) { s with heap:=s.heap.push { cls:=.type "list",data:=.seq its.toArray },toks:=t' }:=
 I.laid (fun _ _ q=>Heap.get?_push_of_some _ q) (Nat.le_refl _) ⟨hz,its,0,hv,Heap.get?_push_size _ rfl⟩
theorem Inv.fresh (I:Inv X pins σ H s):H s.heap.objs.size=none:=I.hok.fresh (Nat.le_refl _)
theorem Inv.lstM (I:Inv X pins σ H s) (hH:H l=some (.lst xs)):xs.length≤sizeLine∧∃ (its:List Value) (n:Nat),Vals xs its∧xs.length=its.length∧s.heap.get? l=some { cls:=.type "list",data:=.seq its.toArray n }:=by
 obtain ⟨z,its,n,r,e⟩:=I.hok l _ hH
 exact ⟨z,its,n,r,r.length,e⟩
theorem pK {n:Nat} (h:n≤sizeLine):Builtin.List.listTooLong n=false:=by
 unfold Builtin.List.listTooLong
 exact decide_eq_false (by omega)
end
section
variable {X:Cx}
def vh:V→List V→Hp→VK→Prop:=fun x vs H Q=>∃ l xs y,x=.ref l∧vs=[y]∧H l=some (.lst xs)∧xs.length < sizeLine∧Q .non (upd H l (.lst (xs++[y])))
theorem om:MtM X "list.append" vh:=by
 intro pins s σ H x vs v us Q I rx rv h
 obtain ⟨l,xs,y,rfl,rfl,hH,hz,q⟩:=h
 cases rx
 obtain ⟨u,rfl,ru⟩:=rv.one
 obtain ⟨z,its,n,r,hl,e⟩:=I.lstM hH
 refine call_meets F.slot_list_append ⟨_,e,rfl⟩ F.entry_list_append (F.args_list_append_2 _ _) (PySem.list_append l its.toArray n u (by rw [List.size_toArray]; omega)) ⟨e,?_⟩
 refine ⟨.non,_,I.lset (its':=its++[u]) hH e (by simp) (r.append (.cons ru .nil)) ?_,rfl,q⟩
 rw [List.length_append,List.length_singleton]
 omega
def vi:V→List V→Hp→VK→Prop:=fun x vs H Q=>∃ l b xs zs,x=.ref l∧vs=[.ref b]∧H l=some (.lst xs)∧H b=some (.lst zs)∧xs.length+zs.length≤sizeLine∧Q .non (upd H l (.lst (xs++zs)))
theorem sU:MtM X "list.extend" vi:=by
 intro pins s σ H x vs v us Q I rx rv h
 obtain ⟨l,b,xs,zs,rfl,rfl,hH,hB,hz,q⟩:=h
 cases rx
 obtain ⟨u,rfl,ru⟩:=rv.one
 cases ru
 obtain ⟨z,its,n,r,hl,e⟩:=I.lstM hH
 obtain ⟨z2,its2,n2,r2,hl2,e2⟩:=I.lstM hB
 have hsz:its.toArray.size+its2.toArray.size≤sizeLine:=by rw [List.size_toArray,List.size_toArray]; omega
 have hlong:¬ (!its.toArray.isEmpty&&Builtin.List.listTooLong (its.toArray.size+its2.toArray.size))=true:=by
  rw [pK hsz,Bool.and_false]
  exact Bool.false_ne_true
 refine call_meets F.slot_list_extend ⟨_,e,rfl⟩ F.entry_list_extend (F.args_list_extend_2 _ _)
  (AutoSeq1.list_extend_list_list_0 l its.toArray n b its2.toArray n2 hlong (by rw [List.size_toArray]; omega) (by omega)) ⟨e,e2,?_⟩
 refine ⟨.non,_,I.lset (its':=its++its2) hH e (by simp) (r.append r2) ?_,rfl,q⟩
 rw [List.length_append]
 omega
def wb:V→List V→Hp→VK→Prop:=fun x vs H Q=>∃ l xs i k y,x=.ref l∧vs=[.int i]∧H l=some (.lst xs)∧ -(2^63)≤i∧i < 2^63∧seqIndex? i xs.length=some k∧xs[k]? =some y∧Q y (upd H l (.lst (xs.eraseIdx k)))
theorem ut:MtM X "list.pop" wb:=by
 intro pins s σ H x vs v us Q I rx rv h
 obtain ⟨l,xs,i,k,y,rfl,rfl,hH,h1,h2,hk,hy,q⟩:=h
 cases rx
 obtain ⟨u,rfl,ru⟩:=rv.one
 obtain ⟨t,rfl⟩:=ru
 obtain ⟨z,its,n,r,hl,e⟩:=I.lstM hH
 obtain ⟨w,hw,rw'⟩:=r.get hy
 refine call_meets F.slot_list_pop ⟨_,e,rfl⟩ F.entry_list_pop (F.args_list_pop_2 _ _)
  (MeetsSeq.list_pop_at l its.toArray n i t k w (fitsIndex_both h1 h2) (by rw [List.size_toArray,← hl]; exact hk) (by rw [← Array.getElem?_toList]; exact hw) (by rw [List.size_toArray]; omega)) ⟨e,?_⟩
 refine ⟨y,_,I.lset (its':=its.eraseIdx k) hH e ?_ (r.eraseIdx k) ?_,rw',q⟩
 · show its.toArray.eraseIdxIfInBounds k=(its.eraseIdx k).toArray
   rw [List.eraseIdxIfInBounds_toArray]
 · have:=oj xs k
   omega
def rCat:R2:=fun x y H Q=>∃ l b xs zs,x=.ref l∧y=.ref b∧H l=some (.lst xs)∧H b=some (.lst zs)∧xs.length+zs.length≤sizeLine∧∀ p,H p=none→Q (.ref p) (upd H p (.lst (xs++zs)))
theorem wc:OpR X (binaryOp .Add) rCat:=by
 intro pins s σ H x y v u Q I rx ry h
 obtain ⟨l,b,xs,zs,rfl,rfl,hH,hB,hz,q⟩:=h
 cases rx
 cases ry
 obtain ⟨z,its,n,r,hl,e⟩:=I.lstM hH
 obtain ⟨z2,its2,n2,r2,hl2,e2⟩:=I.lstM hB
 refine PySem.P.add_list e e2 ?_ (by rw [List.size_toArray,List.size_toArray]; omega)
 have ea:its.toArray++its2.toArray=(its++its2).toArray:=by simp
 rw [ea]
 exact ⟨.ref _,_,I.lnew (t':=s.toks) (r.append r2) (by rw [List.length_append]; omega),rfl,q _ I.fresh⟩
def rRep:R2:=fun x y H Q=>∃ l k xs,x=.ref l∧y=.int k∧H l=some (.lst xs)∧ -(2^63)≤k∧k < 2^63∧xs.length*k.toNat≤sizeLine∧
 ∀ p,H p=none→Q (.ref p) (upd H p (.lst (List.replicate k.toNat xs).flatten))
theorem vj {α:Type} (xs:List α) (k:Nat):(List.replicate k xs).flatten.length=k*xs.length:=by
 induction k with
 | zero=>simp
 | succ k ih=>rw [List.replicate_succ,List.flatten_cons,List.length_append,ih,Nat.succ_mul,Nat.add_comm]
theorem wd:OpR X (binaryOp .Mult) rRep:=by
 intro pins s σ H x y v u Q I rx ry h
 obtain ⟨l,k,xs,rfl,rfl,hH,h1,h2,hz,q⟩:=h
 cases rx
 obtain ⟨t,rfl⟩:=ry
 obtain ⟨z,its,n,r,hl,e⟩:=I.lstM hH
 have hlen:its.toArray.size*k.toNat≤sizeLine:=by rw [List.size_toArray,← hl]; exact hz
 have hcap:¬ its.toArray.size*k.toNat > (2^63 - 1) / 8:=by
  have:(sizeLine:Nat)≤(2^63 - 1) / 8:=by decide
  omega
 have hfit:¬ (!Builtin.List.listFitsIndex k)=true:=by
  rw [fitsIndex_both h1 h2]
  exact Bool.false_ne_true
 have hlong:¬ Builtin.List.listTooLong (its.toArray.size*k.toNat)=true:=by
  rw [pK hlen]
  exact Bool.false_ne_true
 have hnew:List.foldl (fun x1 x2=>x1++x2) #[] (List.replicate (if its.toArray.isEmpty=true then 0 else k.toNat) its.toArray)=(List.replicate k.toNat its).flatten.toArray:=by
  have f0:∀ m:Nat,List.foldl (fun x1 x2=>x1++x2) #[] (List.replicate m its.toArray)=(List.replicate m its).flatten.toArray:=fun m=>by
   have:=ol its m []
   rw [List.nil_append] at this
   exact this
  rw [f0]
  cases its with
  | nil=>simp
  | cons a r'=>rw [if_neg (by simp)]
 refine wpAny_binaryOp_repeat_ref (T:="list") (U:="int") (by decide) ⟨_,e,rfl⟩ (fun s'=>typeIs_int s' k t) noFill_list_mul F.fills_int_mul F.slot_int_rmul repeat_list F.slot_int_index.lookup
  (call_meets F.slot_int_rmul (typeIs_int s k t) F.entry_int_rmul (F.args_int_rmul_2 _ _) (int___rmul___int_list k t l its.toArray n)
   ⟨e,rfl,⟨_,e,rfl⟩,call_meets F.slot_list_mul ⟨_,e,rfl⟩ F.entry_list_mul (F.args_list_mul_2 _ _) (AutoListH.list___mul___list_int_3 l its.toArray n k t hfit hcap hlong) ⟨e,?_⟩⟩)
 rw [hnew]
 exact ⟨.ref _,_,I.lnew (t':=s.toks) (r.rep k.toNat) (by rw [vj,Nat.mul_comm]; exact hz),rfl,q _ I.fresh⟩
end
end L2
namespace Att
open PySem PySem.W PySem.Calls PyProof.Rows
theorem ints_of_wellAll {P:Params} {h:Heap}:∀ (ns:List Int) (vs:List Value),WellAll P h vs (ns.map WData.int)→IntsAre vs ns:=by
 intro ns
 induction ns with
 | nil=>
  intro vs w
  rw [List.map_nil] at w
  cases w
  exact .nil
 | cons n ns ih=>
  intro vs w
  rw [List.map_cons] at w
  cases w with
  | cons a b=>
   cases a
   exact .cons _ _ (ih _ b)
theorem script_of {l:OpenLaw} {n:Nat} (hn:l.most=some n) {P:Params} {h:Heap} {args:List WData} {vals:List Value}
  (hpre:l.row.toRowW.claim.pre args=true) (hwl:WellAll P h vals args):
  ∃ a vs ns,vals=[Value.ref a]∧args=[WData.list (ns.map WData.int)]∧h.get? a=some { cls:=.type "list",data:=.seq vs.toArray }∧IntsAre vs ns∧ns.length≤n:=by
 have hsh:WShape.hasAll [] args [.list .int]=true:=(pre_splitW hpre).1
 have hc:l.pre.holds [] { args:=args }=true:=(pre_splitW hpre).2
 obtain ⟨d,r,rfl,h1,h2⟩:=hasAllW_cons hsh
 obtain rfl:=hasAllW_nil h2
 obtain ⟨xs,rfl,h3⟩:=hasW_list h1
 obtain ⟨ns,rfl⟩:=items_int h3
 have hlen:ns.length≤n:=by
  unfold OpenLaw.pre at hc
  have h4:(WTm.not (.lt (.lit (.int (n:Int))) (.len (.arg 0)))).holds [] { args:=[.list (ns.map .int)] }=true:=by
   have h4:=(holds_andW hc).1
   rw [hn] at h4
   exact h4
  have h5:=condW_of h4 (w_not (w_lt w_lit (w_len_list (w_arg rfl))))
  rw [List.length_map] at h5
  refine Nat.le_of_not_lt fun q=>?_
  have q':(n:Int) < ((ns.length:Nat):Int):=by omega
  first
   | (rw [decide_eq_true q'] at h5; exact absurd h5 (by decide))
   | (simp at h5; omega)
 cases hwl with
 | cons w1 w2=>
  cases w2
  cases w1 with
  | list ho hall=>exact ⟨_,_,ns,rfl,rfl,ho,ints_of_wellAll ns _ hall,hlen⟩
theorem post_true (l:OpenLaw) (args:List WData):l.row.toRowW.claim.post args (.bool true) args=true:=
 postW_of (r:=l.row.toRowW) (X:=(true==true))
  (show WShape.has [] (.bool true) .bool=true by first | rfl | decide | simp [WShape.has,WShape.arms,WShape.armsAll])
  (show (WTm.eq .res (.lit (.bool true))).value [] { args:=args,res:=some (.bool true),after:=args }=some (.bool (true==true)) from w_eq_bool (w_res rfl) w_lit) rfl
theorem attach_call {l:OpenLaw} {n:Nat} {q:Program} {loose:List Str} {XP:(Str→Option Value)→Heap→Prop} {YP:World→Heap→Prop} {d:DefRec}
  (hn:l.most=some n) (hdf:d.params.defaults=[])
  (call:∀ (w:World) (s₀ s₁:Shared) (mg mb:Str→Option Value) (fa:Addr) (o:Obj) (pm cd doc:Value) (a:Addr) (vs:List Value) (ns:List Int),
   Ground q loose [] XP w s₀ mg mb s₁.heap→YP w s₁.heap→
   s₁.heap.get? fa=some o→o.data=.func (docDef d.name d.params d.body d.scope pm cd doc)→s₁.heap.CodeRec cd d.name→mg d.name=some (.ref fa)→
   s₁.heap.get? a=some { cls:=.type "list",data:=.seq vs.toArray }→IntsAre vs ns→ns.length≤n→s₁.gens=#[]→
   codeAny (model l.prog w) callerA (.call (.ref fa) ⟨[.ref a],[]⟩) (fun r s'=>r=.ok (.ret (.bool true))∧OldK s₁.heap s'.heap∧s'.os=s₁.os∧AllBare s'.gens) s₁):
  WalkO q loose XP YP l.row.toRowW d [] (fun f vs=>PySem.call f vs):=by
 intro w s₀ s₁ mg mb G Y fa o pm cd doc dV kV ho hd hcd hD hmg hg args vals as hpre hlay hrd hwl hlo
 obtain rfl:dV=.none:=Dflts.none hD hdf
 obtain rfl:kV=.none:=Dflts.noKw hD
 obtain ⟨a,vs,ns,rfl,rfl,hobj,hints,hlen⟩:=script_of hn hpre hwl
 refine enter_call (codeAny_mono (call w s₀ s₁ mg mb fa o pm cd doc a vs ns G Y ho (fd_plain hd) hcd hmg hobj hints hlen hg) fun r s' hq=>?_)
 obtain ⟨rfl,h2,h3,h4⟩:=hq
 exact ⟨.inl ⟨.bool true,.bool true,[],rfl,fun _=>rfl,.bool true,post_true l _,fun _=>⟨List.Pairwise.nil,fun _ hm=>(nomatch hm)⟩⟩,h2,h3,h4⟩
section
variable {prog:Program} {w:World} {A:Around} {E:Value→Shared→Prop} {s:Shared} {K:Frag}
end
end Att
namespace L2
open PySem PySem.Spec PyProof.Rows
theorem jX:∀ {vs:List Value} {ns:List Int},IntsAre vs ns→Vals (ns.map V.int) vs
 | _,_,.nil=>.nil
 | _,_,.cons n t h=>.cons ⟨t,rfl⟩ (jX h)
def Only (H:Hp):Prop:=∀ b,H b=none∨∃ o xs,H b=some (.frz o (.lst xs))
theorem uu {P:Program} {w:World} {K:PySem.W.Frag} {mg mb:Str→Option Value} {CX:CXT} {k:Nat} {fa a:Addr} {fd:FuncData} {x:Str} {sp:Sp} {s₁:Shared} {vs:List Value} {ns:List Int}
  (KX:K.In s₁.heap) (hns:s₁.heap.Ns mainGlobals mg) (hb:s₁.heap.Ns builtinsNs mb) (hbb:∀ x:Str,x≠"__name__"→mb x=bootBuiltins x) (hlim:s₁.heap.NoLimit) (hg:s₁.gens=#[])
  (ha:s₁.heap.get? a=some { cls:=.type "list",data:=.seq vs.toArray }) (hi:IntsAre vs ns) (hl:ns.length≤sizeLine) (hr:Room k callerA)
  (F:∀ base:Heap,K.In base→base.Ns mainGlobals mg→FnOk P w K mg base CX k fa fd [x] sp) (hbind:∀ (s:Shared) (u:Value),BindsTo s fd ⟨[u],[]⟩ [(x,u)])
  (hsp:∀ H:Hp,Only H→SqL K H a (ns.map V.int)→sp [.ref a] H (fun v _=>v=.bl true) fun _ _ _=>False)
  (hCX:∀ H e s',CX [] H s₁ (fun _ _ _=>False) e s'→False):
  codeAny (model P w) callerA (.call (.ref fa) ⟨[.ref a],[]⟩) (fun r s'=>r=.ok (.ret (.bool true))∧OldK s₁.heap s'.heap∧s'.os=s₁.os∧AllBare s'.gens) s₁:=by
 have rv:=jX hi
 have lenV:=hi.length
 have core:∀ H:Hp,Only H→SqL K H a (ns.map V.int)→HOk P w H s₁.heap→(∀ b,H b≠none→b=a)→(H a≠none→K.lookup a=none)→
   codeAny (model P w) callerA (.call (.ref fa) ⟨[.ref a],[]⟩) (fun r s'=>r=.ok (.ret (.bool true))∧OldK s₁.heap s'.heap∧s'.os=s₁.os∧AllBare s'.gens) s₁:=by
  intro H hO hS hok hA hK
  have base_of:∀ {b:Addr} {o:Obj},s₁.heap.get? b=some o→H b=none→(hidT s₁.heap H).get? b=some o:=fun e n=>uk e n
  have noA:∀ {b:Addr} {o:Obj} {es:Array DictEntry} {ep:Nat},s₁.heap.get? b=some o→o.data=.dict es ep→H b=none:=fun {b o es ep} e d=>by
   cases q:H b with
   | none=>rfl
   | some u=>
    have e':b=a:=hA b (by rw [q]; simp)
    subst e'
    rw [ha] at e; cases e
    have d':Data.seq vs.toArray _=Data.dict es ep:=d
    cases d'
  have nsK:∀ {b:Addr} {m:Str→Option Value},s₁.heap.Ns b m→(hidT s₁.heap H).Ns b m:=fun {b m} ⟨o,es,ep,e,d,r⟩=>⟨o,es,ep,base_of e (noA e d),d,r⟩
  have hKb:K.In (hidT s₁.heap H):=fun b o e=>base_of (KX b o e) (by
   cases q:H b with
   | none=>rfl
   | some u=>
    have e':b=a:=hA b (by rw [q]; simp)
    subst e'
    rw [hK (by rw [q]; simp)] at e; cases e)
  have hM:Mod K mg (hidT s₁.heap H):=⟨hKb,nsK hns,⟨mb,nsK hb,hbb⟩,let ⟨mc,h1,h2⟩:=hlim; ⟨mc,nsK h1,h2⟩⟩
  have e0:Env0 P w K mg (hidT s₁.heap H) callerA [] s₁ H:=⟨rfl,hM,fun b o e=>u7 e,Nat.le_of_eq (sC _ _),trivial,fun b hb=>absurd (show b∈([]:List Addr) from hb) (by simp),hok,.of_eq hg⟩
  refine codeAny_mono ((F _ hKb (nsK hns)).run callerA [] s₁ H ⟨[.ref a],[]⟩ [.ref a] [.ref a] _ _ hr e0 (hbind s₁ (.ref a)) (.cons rfl .nil) (hsp H hO hS)) fun r s' h=>?_
  cases r with
  | error e=>exact (hCX H e s' h).elim
  | ok fl=>
   cases fl with
   | next=>exact False.elim h
   | brk=>exact False.elim h
   | cont=>exact False.elim h
   | ret u=>
    obtain ⟨v,H',os,bare,un,hok',r',q⟩:=h
    have q':v=.bl true:=q
    subst q'
    obtain rfl:u=Value.bool true:=r'
    refine ⟨rfl,OldK.of_keep fun b o e=>?_,os,bare⟩
    cases q:H b with
    | none=>exact un.keep b o e q (by intro z; exact absurd (show b∈([]:List Addr) from z) (by simp)) (by simp)
    | some u=>
     rcases hO b with z | ⟨ob,xs,z⟩
     · rw [q] at z; cases z
     · have z2:=un.frzs b ob _ z
       obtain ⟨e1,_⟩:=hok b _ z
       obtain ⟨e2,_⟩:=hok' b _ z2
       rw [e] at e1; cases e1
       exact e2
 cases hk:K.lookup a with
 | some o=>
  have e:=KX a o hk
  rw [ha] at e
  cases e
  refine core (fun _=>none) (fun _=>.inl rfl) (.inr ⟨_,vs.toArray,_,hk,rfl,rfl,rfl,by rw [List.size_toArray,lenV]; exact hl,by simpa using rv⟩) (fun b u z=>by have z':(none:Option HO)=some u:=z; cases z') (fun b z=>absurd rfl z) fun z=>absurd rfl z
 | none=>
  refine core (fun b=>if b=a then some (.frz { cls:=.type "list",data:=.seq vs.toArray } (.lst (ns.map V.int))) else none) (fun b=>?_) (.inl (.inr ⟨{ cls:=.type "list",data:=.seq vs.toArray },if_pos rfl⟩)) (fun b u z=>?_) (fun b z=>?_) fun _=>hk
  · by_cases hb:b=a
    · exact .inr ⟨_,_,if_pos hb⟩
    · exact .inl (if_neg hb)
  · by_cases hb:b=a
    · have z':=(if_pos hb).symm.trans z
      cases z'
      subst hb
      exact ⟨ha,by rw [List.length_map]; exact hl,vs,_,rv,ha⟩
    · have z':=(if_neg hb).symm.trans z
      cases z'
  · by_cases hb:b=a
    · exact hb
    · exact absurd (if_neg hb) z
end L2
namespace L2
open PySem PySem.Spec PyProof.Rows
theorem vk {l:PySem.W.OpenLaw} {n k:Nat} {q:Program} {loose:List Str} {XP:(Str→Option Value)→Heap→Prop} {YP:World→Heap→Prop} {d:DefRec} {K:Params→PySem.W.Frag} {CX:World→CXT} {sp:World→Sp} {x:Str}
  (hn:l.most=some n) (hn2:n≤sizeLine) (hdf:d.params.defaults=[]) (hr:Room k callerA)
  (hY:∀ (w:World) (h:Heap),YP w h→(K w.params).In h)
  (F:∀ (w:World) (mg:Str→Option Value) (fa:Addr) (h:Heap),(K w.params).In h→h.Ns mainGlobals mg→mg d.name=some (.ref fa)→
   ∃ fd:FuncData,(∀ (s:Shared) (u:Value),BindsTo s fd ⟨[u],[]⟩ [(x,u)])∧
    ∀ base:Heap,(K w.params).In base→base.Ns mainGlobals mg→FnOk l.prog w (K w.params) mg base (CX w) k fa fd [x] (sp w))
  (hsp:∀ (w:World) (H:Hp) (a:Addr) (ns:List Int),ns.length≤n→Only H→SqL (K w.params) H a (ns.map V.int)→sp w [.ref a] H (fun v _=>v=.bl true) fun _ _ _=>False)
  (hCX:∀ (w:World) (H:Hp) (s:Shared) (e:Value) (s':Shared),CX w [] H s (fun _ _ _=>False) e s'→False):
  PySem.W.WalkO q loose XP YP l.row.toRowW d [] (fun f vs=>PySem.call f vs):=by
 refine Att.attach_call hn hdf fun w s₀ s₁ mg mb fa o pm cd doc a vs ns G Y ho hd hcd hmg hobj hints hlen hg=>?_
 have KX:=hY w _ Y
 obtain ⟨fd,hb,hF⟩:=F w mg fa _ KX G.T.g hmg
 exact uu KX G.T.g G.T.b G.T.builtins G.T.nolimit hg hobj hints (Nat.le_trans hlen hn2) hr hF hb (fun H hO hS=>hsp w H a ns hlen hO hS) fun H e s'=>hCX w H s₁ e s'
end L2
namespace L2
open PySem PySem.Spec PyProof.Rows
def aN (s:Stmt):Arguments:=match s with
 | .FunctionDef _ a _ _ _ _ _ _ _ _=>a
 | _=>{ posonlyargs:=[],args:=[],vararg:=none,kwonlyargs:=[],kw_defaults:=[],kwarg:=none,defaults:=[] }
def aK (s:Stmt):List Stmt:=match s with
 | .FunctionDef _ _ b _ _ _ _ _ _ _=>b
 | _=>[]
def ah (s:Stmt):Scope:=match s with
 | .FunctionDef _ _ _ _ _ _ sc _ _ _=>sc
 | _=>{ kind:=.function,names:=[],isGenerator:=false,isCoroutine:=false }
abbrev CX0:CXT:=fun _ _ _ _ _ _=>False
abbrev E0:XK:=fun _ _ _=>False
theorem pq {X:Cx}:gY CX0 X E0:=fun _ _ _ _ _ _ _ h=>h.elim
structure Fun (K:PySem.W.Frag) (x qual:Str) (st:Stmt) (f:Addr) (fd:FuncData):Prop where
 ex:∃ (oc:Value) (od:Option Addr) (kV doc pm:Value) (an:Option Addr) (cdv ct:Value) (osl:Array (Option Value)),
  fd=PySem.W.fnOf x qual (aN st) (aK st) (ah st) .none kV doc pm an cdv ct∧K.lookup f=some ⟨oc,od,.func fd,osl⟩∧PySem.W.codeIn K cdv qual=true
 kp:PySem.W.keepIn K (.ref f)=true
section
variable {P:Program} {w:World} {K:PySem.W.Frag} {mg:Str→Option Value} {base:Heap}
theorem Fun.ok {x qual:Str} {st:Stmt} {f:Addr} {fd:FuncData} {N ps:List Str} {k:Nat} {sp:Sp} (F:Fun K x qual st f fd) (S:am N ps (ah st)) (len:∀ vs H Q E,sp vs H Q E→vs.length=ps.length)
  (hbody:∀ (cdv:Value) (A:Around) (outer:List Env) (s:Shared) (H:Hp) (vs:List V) (Q:VK) (E:XK),Room k (A.deeper (envOfC qual (ah st) s.heap.objs.size f cdv))→sp vs H Q E→
   ∃ t,PSs (cxOf CX0 P w K mg base N qual (ah st) f cdv A outer s H E).nox (aK st) t∧t { nx:=fun _ H'=>Q .non H',rt:=Q } (start N vs) H):FnOk P w K mg base CX0 (k+1) f fd ps sp:=by
 obtain ⟨oc,od,kV,doc,pm,an,cdv,ct,osl,rfl,lk,hcd⟩:=F.ex
 refine rO lk hcd S len fun A outer s H vs Q E hr hsp=>?_
 obtain ⟨t,h,q⟩:=hbody cdv A outer s H vs Q E hr hsp
 exact ⟨t,h.nox,q⟩
theorem Fun.binds {x qual:Str} {st:Stmt} {f:Addr} {fd:FuncData} {ps:List Str} (F:Fun K x qual st f fd)
  (h:∀ (kV doc pm:Value) (an:Option Addr) (cdv ct:Value) (us:List Value),us.length=ps.length→bindArgs (PySem.W.fnOf x qual (aN st) (aK st) (ah st) .none kV doc pm an cdv ct) ⟨us,[]⟩=pure (ps.zip us)):Binds K fd ps []:=by
 obtain ⟨oc,od,kV,doc,pm,an,cdv,ct,osl,rfl,lk,hcd⟩:=F.ex
 exact .all (h kV doc pm an cdv ct)
theorem ax {x qual:Str} {st:Stmt} {f:Addr} {oc:Value} {od an:Option Addr} {osl:Array (Option Value)} {kV doc pm cdv ct:Value} (l:K.lookup f=some ⟨oc,od,.func (PySem.W.fnOf x qual (aN st) (aK st) (ah st) .none kV doc pm an cdv ct),osl⟩)
  (c:PySem.W.codeIn K cdv qual=true) (k:PySem.W.keepIn K (.ref f)=true):Fun K x qual st f (PySem.W.fnOf x qual (aN st) (aK st) (ah st) .none kV doc pm an cdv ct):=⟨⟨oc,od,kV,doc,pm,an,cdv,ct,osl,rfl,l,c⟩,k⟩
end
theorem aD {n:Nat} (h:n≤1000):n < sizeLine:=Nat.lt_of_le_of_lt h (by decide)
section
variable {X:Cx}
theorem pv (i:Nat) {x:Str} {pos:Pos} (hN:X.N[i]? =some x:=by rfl) (hv:Vis X.env.scope x:=by first | exact Or.inl rfl | exact Or.inr (Or.inl rfl) | exact Or.inr (Or.inr rfl)) (hd:(x==("__debug__":Str))=false:=by decide)
  (hcd:(x==("__classdict__":Str))=false:=by decide):PE X (.Name x pos) (tVar i):=vV hN hv hd hcd
end
theorem iteF {A B:Prop} (h:B):if false=true then A else B:=by
 rw [if_neg Bool.false_ne_true]
 exact h
theorem iteT {A B:Prop} (h:A):if true=true then A else B:=by
 rw [if_pos rfl]
 exact h
def Same (H H':Hp):Prop:=∀ b o,H b=some o→H' b=some o
theorem Same.refl (H:Hp):Same H H:=fun _ _ h=>h
theorem Same.trans {H H1 H2:Hp} (a:Same H H1) (b:Same H1 H2):Same H H2:=fun c o h=>b c o (a c o h)
theorem Same.free {H H':Hp} (e:Same H H') {l:Addr} (h:H' l=Option.none):H l=Option.none:=by
 cases q:H l with
 | none=>rfl
 | some o=>
  rw [e l o q] at h
  cases h
theorem Same.seq {K:PySem.W.Frag} {H H':Hp} {a:Addr} {xs:List V} (e:Same H H') (h:SqL K H a xs):SqL K H' a xs:=by
 rcases h with (h | ⟨o,h⟩) | h
 · exact .inl (.inl (e _ _ h))
 · exact .inl (.inr ⟨o,e _ _ h⟩)
 · exact .inr h
end L2
namespace L2
open PySem PySem.Spec PyProof.Rows
section
variable {κ:Type} [DecidableEq κ]
def valV (kvs:List (κ × V)) (k:κ):Option V:=(kvs.find? fun kv=>decide (kv.1=k)).map (·.2)
def putK (kvs:List (κ × V)) (k:κ) (v:V):List (κ × V):=
 if (kvs.any fun kv=>decide (kv.1=k))=true then kvs.map (fun kv=>if kv.1=k then (kv.1,v) else kv) else kvs++[(k,v)]
theorem pL {p:κ × V} {r:List (κ × V)} {k:κ} (e:p.1=k):valV (p::r) k=some p.2:=by simp [valV,List.find?_cons,e]
theorem pM {p:κ × V} {r:List (κ × V)} {k:κ} (e:¬ p.1=k):valV (p::r) k=valV r k:=by simp [valV,List.find?_cons,e]
theorem RelO.isSome_eq {o:Option V} {u:Option Value} (r:RelO o u):o.isSome=u.isSome:=by
 cases o with
 | none=>cases u with
  | none=>rfl
  | some _=>exact (show False from r).elim
 | some _=>cases u with
  | none=>exact (show False from r).elim
  | some _=>rfl
theorem KV.val {kvs:List (κ × V)} {vs:List (κ × Value)} (r:KV kvs vs) (k:κ):RelO (valV kvs k) (valueAt vs k):=by
 unfold KV at r
 induction r with
 | nil=>exact True.intro
 | @cons p q ps qs h t ih=>
  obtain ⟨h1,h2⟩:=h
  by_cases e:p.1=k
  · have e':q.1=k:=h1.symm.trans e
    have b:valueAt (q::qs) k=some q.2:=by simp [valueAt,List.find?_cons,e']
    rw [pL e,b]; exact h2
  · have e':¬ q.1=k:=fun z=>e (h1.trans z)
    have b:valueAt (q::qs) k=valueAt qs k:=by simp [valueAt,List.find?_cons,e']
    rw [pM e,b]; exact ih
theorem KV.length {kvs:List (κ × V)} {vs:List (κ × Value)} (r:KV kvs vs):kvs.length=vs.length:=Paired.length r
end
theorem pw {P:Program} {w:World} {k:Key} {u:Value} (r:RelV (kV k) u):(cR P w).is k u=true:=by
 cases k with
 | inl i=>obtain ⟨t,e⟩:=(show ∃ t,u=Value.int i t from r); subst e; exact qH P w i t
 | inr x=>obtain ⟨t,e⟩:=(show ∃ t,u=Value.str x t from r); subst e; exact qI P w x t
theorem on {P:Program} {w:World}:∀ {ks:List Key} {us:List Value},Vals (ks.map kV) us→ItemsAre (cR P w) ks us
 | [],_,r=>by rw [List.map_nil] at r; cases r; exact .nil
 | k::ks,_,r=>by
  rw [List.map_cons] at r
  cases r with
  | cons h t=>exact .cons (pw h) (on t)
abbrev KT (H:Hp):List (List Key × V)→List (List Key × Addr × Value)→Prop:=Paired fun p q=>p.1=q.1∧H q.2.1=some (.tup (p.1.map kV))∧RelV p.2 q.2.2
theorem KT.val {H:Hp} {kvs:List (List Key × V)} {xs:List (List Key × Addr × Value)} (r:KT H kvs xs) (k:List Key):RelO (valV kvs k) ((atKey xs k).map (·.2)):=by
 induction r with
 | nil=>exact True.intro
 | @cons p q ps qs h t ih=>
  obtain ⟨h1,_,h2⟩:=h
  by_cases e:p.1=k
  · have e':q.1=k:=h1.symm.trans e
    have b:atKey (q::qs) k=some q.2:=by simp [atKey,List.find?_cons,e']
    rw [pL e,b]; exact h2
  · have e':¬ q.1=k:=fun z=>e (h1.trans z)
    have b:atKey (q::qs) k=atKey qs k:=by simp [atKey,List.find?_cons,e']
    rw [pM e,b]; exact ih
section
variable {P:Program} {w:World} {H:Hp} {h:Heap} {a:Addr}
theorem uV {u:HO} (ok:HOk P w H h) (e:Rd H a u):ObjOk P w H h a u:=e.ok ok
theorem lV {kvs:List (Key × V)} (ok:HOk P w H h) (e:Rd H a (.dK kvs)):kvs.length≤sizeLine∧(a==sysModules)=false∧∃ vs,KV kvs vs∧h.DictOf (cR P w) a vs:=
 show ObjOk P w H h a (.dK kvs) from uV ok e
theorem lW {ks:List Key} (ok:HOk P w H h) (e:H a=some (.tup (ks.map kV))):(tupleKind (cR P w)).is h ks a:=by
 obtain ⟨_,its,r,o,h1,h2,n,h3⟩:=(show ObjOk P w H h a (.tup (ks.map kV)) from ok a _ e)
 exact ⟨o,its.toArray,n,h1,h2,h3,by simpa using on r⟩
theorem px {kvs:List (List Key × V)} (ok:HOk P w H h) (e:Rd H a (.dT kvs)):kvs.length≤sizeLine∧(a==sysModules)=false∧
  ∃ xs,KT H kvs xs∧h.DictOfH (tupleKind (cR P w)) a xs:=by
 obtain ⟨z,y,xs,r,o,es,ep,h1,h2,h3,h4,h5⟩:=(show ObjOk P w H h a (.dT kvs) from uV ok e)
 refine ⟨z,y,xs,r,o,es,ep,h1,h2,h3,h4,fun x hx=>?_,h5⟩
 have all:∀ {l:List (List Key × V)} {m:List (List Key × Addr × Value)},KT H l m→∀ x∈m,(tupleKind (cR P w)).is h x.1 x.2.1:=by
  intro l m q
  induction q with
  | nil=>intro x hx; exact nomatch hx
  | @cons p q ps qs hq t ih=>
   intro x hx
   rcases List.mem_cons.mp hx with e | hx
   · subst e
     exact lW ok (by rw [← hq.1]; exact hq.2.1)
   · exact ih x hx
 exact all r x hx
end
def DGet (H:Hp) (a:Addr) (y:V) (r:Option V):Prop:=
 (∃ kvs k,Rd H a (.dK kvs)∧y=kV k∧r=valV kvs k)∨∃ kvs k b,Rd H a (.dT kvs)∧y=.ref b∧H b=some (.tup (k.map kV))∧r=valV kvs k
def DPut (H:Hp) (a:Addr) (y v:V) (H':Hp):Prop:=
 (∃ kvs k,H a=some (.dK kvs)∧y=kV k∧kvs.length < sizeLine∧H'=upd H a (.dK (putK kvs k v)))∨
 ∃ kvs k b,H a=some (.dT kvs)∧y=.ref b∧H b=some (.tup (k.map kV))∧kvs.length < sizeLine∧H'=upd H a (.dT (putK kvs k v))
theorem DGet.k {H:Hp} {a:Addr} {kvs:List (Key × V)} {k:Key} (e:H a=some (.dK kvs)):DGet H a (kV k) (valV kvs k):=.inl ⟨kvs,k,.inl e,rfl,rfl⟩
section
variable {X:Cx} {pins:List (Addr × Obj)} {σ:St} {H:Hp} {s:Shared} {a:Addr} {y v:V} {u r:Value} {o:Option V} {A:Around} {E:Value→Shared→Prop}
theorem sV {Q:Value→Shared→Prop} (hu:A.units+1 < cLine) (I:Inv X pins σ H s) (g:DGet H a y (some v)) (ry:RelV y u) (h:∀ w' s',Inv X pins σ H s'→RelV v w'→Q w' s'):
  wpAny (model X.prog X.w) A (getItem (.ref a) u) Q E s:=by
 rcases g with ⟨kvs,k,e,ey,l⟩ | ⟨kvs,k,b,e,ey,eb,l⟩
 · subst ey
   obtain ⟨z,hd,vs,rel,dd⟩:=lV I.hok e
   obtain ⟨w',hw,rw'⟩:=RelO.some_of (v:=v) (o:=valueAt vs k) (by rw [l]; exact rel.val k)
   exact wpAny_getItem_of (pw ry) dd.mapOf hw (h w' _ (I.tok _) rw')
 · subst ey
   cases (show u=Value.ref b from ry)
   obtain ⟨z,hd,xs,rel,dd⟩:=px I.hok e
   obtain ⟨w',hw,rw'⟩:=RelO.some_of (v:=v) (o:=(atKey xs k).map (·.2)) (by rw [l]; exact rel.val k)
   obtain ⟨p,hp,hp2⟩:=Option.map_eq_some_iff.mp hw
   refine wpAny_getItem_heap (tupleKind_room_in1 hu) (lW I.hok eb) dd hp ?_
   rw [hp2]
   exact h w' _ (I.tok _) rw'
theorem xg {Q:Value→Shared→Prop} (hu:A.units+1 < cLine) (I:Inv X pins σ H s) (g:DGet H a y o) (ry:RelV y u) (h:∀ s',Inv X pins σ H s'→Q (.bool o.isSome) s'):
  wpAny (model X.prog X.w) A (compareOp .In u (.ref a)) Q E s:=by
 rcases g with ⟨kvs,k,e,ey,l⟩ | ⟨kvs,k,b,e,ey,eb,l⟩
 · subst ey
   obtain ⟨z,hd,vs,rel,dd⟩:=lV I.hok e
   refine wpAny_in_of (pw ry) hd dd.mapOf ?_
   rw [← (rel.val k).isSome_eq,← l]
   exact h _ (I.tok _)
 · subst ey
   cases (show u=Value.ref b from ry)
   obtain ⟨z,hd,xs,rel,dd⟩:=px I.hok e
   refine wpAny_in_heap (tupleKind_room_in1 hu) (lW I.hok eb) hd dd ?_
   have q:=(rel.val k).isSome_eq
   rw [Option.isSome_map] at q
   rw [← q,← l]
   exact h _ (I.tok _)
theorem vm {Q:Value→Shared→Prop} (hu:A.units+1 < cLine) (I:Inv X pins σ H s) (g:DGet H a y o) (ry:RelV y u) (h:∀ s',Inv X pins σ H s'→Q (.bool (!o.isSome)) s'):
  wpAny (model X.prog X.w) A (compareOp .NotIn u (.ref a)) Q E s:=by
 rcases g with ⟨kvs,k,e,ey,l⟩ | ⟨kvs,k,b,e,ey,eb,l⟩
 · subst ey
   obtain ⟨z,hd,vs,rel,dd⟩:=lV I.hok e
   refine wpAny_notIn_of (pw ry) hd dd.mapOf ?_
   rw [← (rel.val k).isSome_eq,← l]
   exact h _ (I.tok _)
 · subst ey
   cases (show u=Value.ref b from ry)
   obtain ⟨z,hd,xs,rel,dd⟩:=px I.hok e
   refine wpAny_notIn_heap (tupleKind_room_in1 hu) (lW I.hok eb) hd dd ?_
   have q:=(rel.val k).isSome_eq
   rw [Option.isSome_map] at q
   rw [← q,← l]
   exact h _ (I.tok _)
end
section
variable {X:Cx} {pins:List (Addr × Obj)} {σ:St} {H:Hp} {s:Shared} {a:Addr} {kvs:List (Key × V)} {k:Key} {u:Value} {A:Around} {E:Value→Shared→Prop}
theorem wR {Q:Value→Shared→Prop} (I:Inv X pins σ H s) (e:Rd H a (.dK kvs)) (h:∀ t s',Inv X pins σ H s'→Q (.int kvs.length t) s'):wpAny (model X.prog X.w) A (call (.builtin "len") [.ref a]) Q E s:=by
 obtain ⟨z,hd,vs,rel,dd⟩:=lV I.hok e
 refine call_len_dict hd dd (by rw [← rel.length]; rw [sizeLine_eq] at z; omega) ?_
 rw [← rel.length]
 exact h _ _ (I.tok _)
end
theorem qK {X:Cx} {pins:List (Addr × Obj)} {σ:St} {H:Hp} {s:Shared} {a:Addr} {y:V} {o:Option V} (I:Inv X pins σ H s) (g:DGet H a y o):s.TypeIs (.ref a) "dict":=by
 rcases g with ⟨kvs,k,e,_,_⟩ | ⟨kvs,k,b,e,_,_,_⟩
 · obtain ⟨_,_,vs,_,dd⟩:=lV I.hok e
   exact dd.typeIs
 · obtain ⟨_,_,xs,_,dd⟩:=px I.hok e
   exact dd.typeIs
def sDPut (td ty tv:TE):TS:=fun D σ H=>tv σ H fun v H1=>td σ H1 fun x H2=>ty σ H2 fun y H3=>∃ a H4,x=.ref a∧DPut H3 a y v H4∧D.nx σ H4
def we:TE:=fun _ H Q=>∀ p,H p=none→Q (.ref p) (upd H p (.dK []))
end L2
namespace L2
open PySem PySem.Spec PyProof.Rows
section
variable {X:Cx}
theorem sW:CallR X (.builtin "len") (fun xs H Q=>∃ a kvs,xs=[V.ref a]∧H a=some (.dK kvs)∧Q (.int kvs.length) H):=by
 intro pins s σ H xs us Q I r h
 obtain ⟨a,kvs,rfl,ha,q⟩:=h
 obtain ⟨u,rfl,ru⟩:=cC r
 cases ru
 exact wR I (.inl ha) fun t s' I'=>⟨.int kvs.length,H,I',⟨t,rfl⟩,q⟩
end
end L2
namespace L2
open PySem PySem.Spec PyProof.Rows
theorem bN {α:Type} (x:Str):∀ (a b:List (Str × α)),(a++b).lookup x=match a.lookup x with | some c=>some c | none=>b.lookup x
 | [],b=>rfl
 | (k,v)::r,b=>by
  rw [List.cons_append,List.lookup_cons,List.lookup_cons]
  cases x==k with
  | true=>rfl
  | false=>exact bN x r b
theorem gD:∀ (names:List (Str × NameKind)) (n:Nat) (acc cl:List (Str × Addr)),cellsFrom n names (acc++cl)=cellsFrom n names acc++cl
 | [],_,_,_=>rfl
 | (y,k)::r,n,acc,cl=>by
  unfold cellsFrom
  split
  · rw [← List.cons_append]; exact gD r _ _ cl
  · exact gD r _ _ cl
theorem d4 {x:Str} {c:Addr}:∀ (names:List (Str × NameKind)) (n:Nat) (acc:List (Str × Addr)),(x,c)∈cellsFrom n names acc→(x,NameKind.cell)∈names∨(x,c)∈acc
 | [],_,_,h=>.inr h
 | (y,k)::r,n,acc,h=>by
  unfold cellsFrom at h
  split at h
  · rename_i hk
    have hk:k=.cell:=by simpa using hk
    subst hk
    rcases d4 r _ _ h with z | z
    · exact .inl (List.mem_cons_of_mem _ z)
    · rcases List.mem_cons.mp z with z | z
      · cases z; exact .inl List.mem_cons_self
      · exact .inr z
  · rcases d4 r _ _ h with z | z
    · exact .inl (List.mem_cons_of_mem _ z)
    · exact .inr z
theorem jt {env:Env} (f:Str × NameKind→List (Str × Addr)→Sem (ForInStep (List (Str × Addr))))
  (hf:∀ name kind cs,f (name,kind) cs=if kind==.free then (do let a ← cellOf env name; pure (.yield ((name,a)::cs))) else pure (.yield cs)):
  ∀ (names:List (Str × NameKind)) (acc:List (Str × Addr)),(∀ x,(x,NameKind.free)∈names→∃ c,env.cells.lookup x=some c)→(∀ x c,acc.lookup x=some c→env.cells.lookup x=some c)→
   ∃ cl,forIn names acc f=(pure cl:Sem _)∧(∀ x c,cl.lookup x=some c→env.cells.lookup x=some c)∧(∀ x,((x,NameKind.free)∈names∨∃ c,acc.lookup x=some c)→∃ c,cl.lookup x=some c)
 | [],acc,_,h2=>⟨acc,rfl,h2,fun x h=>h.elim (fun z=>nomatch z) id⟩
 | (y,k)::r,acc,h1,h2=>by
  rw [List.forIn_cons,hf]
  by_cases hk:(k==NameKind.free)=true
  · rw [if_pos hk]
    have hk':k=.free:=by simpa using hk
    subst hk'
    obtain ⟨c,hc⟩:=h1 y List.mem_cons_self
    have e:(cellOf env y:Sem Addr)=pure c:=by unfold cellOf; rw [hc]
    rw [e]
    obtain ⟨cl,e1,e2,e3⟩:=jt f hf r ((y,c)::acc) (fun x hx=>h1 x (List.mem_cons_of_mem _ hx)) (fun x c' hx=>by
     rw [List.lookup_cons] at hx
     cases hb:x==y with
     | true=>rw [hb] at hx; cases hx; rw [beq_iff_eq.mp hb]; exact hc
     | false=>rw [hb] at hx; exact h2 x c' hx)
    refine ⟨cl,?_,e2,fun x hx=>e3 x ?_⟩
    · exact e1
    · rcases hx with hx | ⟨c',hx⟩
      · rcases List.mem_cons.mp hx with z | z
        · cases z; exact .inr ⟨c,by rw [List.lookup_cons]; simp⟩
        · exact .inl z
      · cases hb:x==y with
        | true=>exact .inr ⟨c,by rw [List.lookup_cons,hb]⟩
        | false=>exact .inr ⟨c',by rw [List.lookup_cons,hb]; exact hx⟩
  · rw [if_neg hk]
    obtain ⟨cl,e1,e2,e3⟩:=jt f hf r acc (fun x hx=>h1 x (List.mem_cons_of_mem _ hx)) h2
    refine ⟨cl,e1,e2,fun x hx=>e3 x ?_⟩
    rcases hx with hx | hx
    · rcases List.mem_cons.mp hx with z | z
      · cases z; exact absurd rfl hk
      · exact .inl z
    · exact .inr hx
theorem rP {scope:Scope} {env:Env} (h:∀ x,(x,NameKind.free)∈scope.names→∃ c,env.cells.lookup x=some c):
  ∃ cl,closureFor scope env=pure cl∧(∀ x c,cl.lookup x=some c→env.cells.lookup x=some c)∧∀ x,(x,NameKind.free)∈scope.names→∃ c,cl.lookup x=some c:=by
 obtain ⟨cl,e1,e2,e3⟩:=jt (env:=env) (fun x cs=>match x with | (name,kind)=>if kind==.free then (do let a ← cellOf env name; pure (.yield ((name,a)::cs))) else pure (.yield cs)) (fun _ _ _=>rfl) scope.names [] h (fun x c hx=>nomatch hx)
 refine ⟨cl,?_,e2,fun x hx=>e3 x (.inl hx)⟩
 have:closureFor scope env=(forIn scope.names [] (fun x cs=>match x with | (name,kind)=>if kind==.free then (do let a ← cellOf env name; pure (.yield ((name,a)::cs))) else pure (.yield cs)) >>= fun cs=>pure cs):=by
  simp only [closureFor]
 rw [this,e1]
 rfl
def sX (scope:Scope) (cl:List (Str × Addr)) (C:Addr) (env:Env):Env:=
 { newEnv scope C env.globals (cellsFrom (C+1) scope.names cl) env.qual none .none (some env) builtinsNs with scope:=relabel scope env }
theorem uv {M:Model} {A:Around} {E:Value→Shared→Prop} {s:Shared} {scope:Scope} {cl:List (Str × Addr)} {env:Env} {Q:Env→Shared→Prop}
  (hQ:Q (newEnv scope s.heap.objs.size env.globals (cellsFrom (s.heap.objs.size+1) scope.names cl) env.qual none .none (some env) builtinsNs) { s with heap:=pushCells (s.heap.push { cls:=.type "dict",data:=.dict #[] }) scope.names }):
  wpAny M A (newFunctionEnv scope env.globals cl [] env.qual none .none (some env)) Q E s:=by
 simp only [newFunctionEnv,Option.isSome_some,if_true]
 refine wpAny_bind (wpAny_alloc ?_)
 refine wpAny_bind (wpAny_layCells _ (fun name kind cells=>by cases hkc:kind==NameKind.cell <;> simp [hkc]) _ _ _ _ ?_)
 rw [show ({ s with heap:=s.heap.push { cls:=.type "dict",data:=.dict #[] } }:Shared).heap.objs.size=s.heap.objs.size+1 from Heap.size_push ..]
 refine wpAny_bind ?_
 rw [List.forIn_nil]
 exact wpAny_pure (wpAny_pure hQ)
section
variable {prog:Program} {w:World} {A:Around} {E:Value→Shared→Prop} {R:Result→Shared→Prop} {s:Shared}
theorem sY {elt target iter:Expr} {ifs:List Expr} {scope:Scope} {pos:Pos} {it acc:Value} {env:Env} (I:Nat→Shared→Prop)
  (turn:∀ n s,I n s→wpAny (model prog w) A (pyNext it) (fun r s₁=>match r with
   | none=>R (.ok .next) s₁
   | some v=>wpAny (model prog w) A (letOwnedTupleGo target it v) (fun _ s₁'=>wpAny (model prog w) A (assign target env v) (fun _ s₂=>
     wpAny (model prog w) A (forIn ifs true fun c r=>if r=true then do let ok ← isTrue c env (eval c env); pure (ForInStep.yield ok) else pure (ForInStep.yield r)) (fun ok s₃=>
      if ok=true then wpAny (model prog w) A (eval elt env) (fun x s₄=>
       wpAny (model prog w) A (call (.builtin "list.append") [acc,x]) (fun _ s₅=>∃ m,m < n∧I m s₅) (notedBy (model prog w) A env fun e s'=>R (.error e) s') s₄) (notedBy (model prog w) A env fun e s'=>R (.error e) s') s₃
      else ∃ m,m < n∧I m s₃) (notedBy (model prog w) A env fun e s'=>R (.error e) s') s₂) (notedBy (model prog w) A env fun e s'=>R (.error e) s') s₁') (notedBy (model prog w) A env fun e s'=>R (.error e) s') s₁) (notedBy (model prog w) A env fun e s'=>R (.error e) s') s)
  (n:Nat) (h:I n s):
  codeAny (model prog w) A (.compLoop (.ListComp elt [⟨target,iter,ifs,0⟩] scope pos) 0 it acc env) R s:=by
 refine codeAny_loop rfl I (fun n s hI=>?_) n h
 show wpAny _ A ((compTurn (.ListComp elt [⟨target,iter,ifs,0⟩] scope pos) 0 it acc env).onRaise (fun x=>do noteFrame x env; theTreesLotGoes x)) _ _ s
 refine wpAny_noted ?_
 rw [compTurn_list]
 refine wpAny_bind (wpAny_standAt (wpAny_bind (wpAny_mono (turn n s hI) (fun r s₁ h₁=>?_) fun _ _ h'=>h')))
 cases r with
 | none=>exact wpAny_pure h₁
 | some v=>
  refine wpAny_bind (wpAny_mono h₁ (fun _ s₁' h₁'=>?_) fun _ _ h'=>h')
  refine wpAny_bind (wpAny_mono h₁' (fun _ s₂ h₂=>wpAny_bind (wpAny_mono h₂ (fun ok s₃ h₃=>?_) fun _ _ h'=>h')) fun _ _ h'=>h')
  cases ok with
  | false=>exact wpAny_pure ⟨rfl,h₃⟩
  | true=>
   exact wpAny_bind (wpAny_bind (wpAny_mono h₃ (fun x s₄ h₄=>wpAny_bind (wpAny_mono h₄ (fun _ s₅ h₅=>wpAny_pure (wpAny_pure ⟨rfl,h₅⟩)) fun _ _ h'=>h')) fun _ _ h'=>h'))
end
end L2
namespace L2
open PySem PySem.Spec PyProof.Rows
theorem g3 {scope:Scope} {env:Env} {x:Str} {k:NameKind} (h:(relabel scope env).names.lookup x=some k):∃ k',scope.names.lookup x=some k'∧(k=k'∨(k'=.free∧k=.cell)):=by
 unfold relabel at h
 dsimp only at h
 generalize scope.names=names at h ⊢
 induction names with
 | nil=>cases h
 | cons p r ih=>
  obtain ⟨n,k0⟩:=p
  rw [List.map_cons] at h
  rw [List.lookup_cons]
  cases hb:x==n with
  | true=>
   refine ⟨k0,rfl,?_⟩
   dsimp only at h
   split at h
   · rename_i hc
     rw [List.lookup_cons,hb] at h
     cases h
     simp only [Bool.and_eq_true,beq_iff_eq] at hc
     exact .inr ⟨hc.1.1,rfl⟩
   · rw [List.lookup_cons,hb] at h
     cases h
     exact .inl rfl
  | false=>
   dsimp only at h
   refine ih ?_
   split at h
   · rw [List.lookup_cons,hb] at h; exact h
   · rw [List.lookup_cons,hb] at h; exact h
def blkCx (X:Cx) (N:List Str) (scope:Scope) (cl:List (Str × Addr)) (s:Shared) (H:Hp) (fp:List Addr):Cx where
 prog:=X.prog
 w:=X.w
 K:=X.K
 mg:=X.mg
 base:=X.base
 A:=X.A
 N:=N
 s₀:=s
 H₀:=H
 env:=sX scope cl (s.heap.objs.size+1) X.env
 outer:=X.stack
 stack:=X.stack
 ex:=fp
 fn:=fun x=>scope.names.lookup x==some .cell
 calm:=X.calm
 pn:=[]
 xe:=fun e₀ s₁=>(∃ (pins:List (Addr × Obj)) (σ:St),Inv X pins σ H s∧∀ b∈fp,FpOk X pins H b)→notedBy (model X.prog X.w) X.A (sX scope cl (s.heap.objs.size+1) X.env) (fun x s'=>∃ m,s'.heap.Ns (s.heap.objs.size+1) m∧∀ h',Heap.SameBut (s.heap.objs.size+1) s'.heap h'→∀ cenv:Env,cenv.locals=s.heap.objs.size+1→
  wpAny (model X.prog X.w) X.A (passOn "comprehension.variables-let-go" x cenv:Sem Value) (fun _ _=>False) X.xe { s' with heap:=h' }) e₀ s₁
def subσ (ix:List (Option Nat)) (σ:St):St:=ix.map fun o=>match o with | none=>none | some i=>match σ[i]? with | some v=>v | none=>none
structure BlkOk (X:Cx) (N:List Str) (ix:List (Option Nat)) (scope:Scope):Prop where
 kind:scope.kind=.function
 nd:N.Nodup
 len:ix.length=N.length
 names:(scope.names.map (·.1)).Nodup
 free:∀ x,(x,NameKind.free)∈scope.names→X.env.kindOf x=some .cell∨X.env.kindOf x=some .free
 at_:∀ (j i:Nat) (x:Str),N[j]? =some x→ix[j]? =some (some i)→X.N[i]? =some x∧(x,NameKind.free)∈scope.names
theorem cQ {α:Type}:∀ {l:List (Str × α)} {x:Str} {k:α},(l.map (·.1)).Nodup→(x,k)∈l→l.lookup x=some k
 | (y,k0)::r,x,k,nd,h=>by
  rw [List.map_cons,List.nodup_cons] at nd
  rw [List.lookup_cons]
  rcases List.mem_cons.mp h with e | e
  · cases e; simp
  · have:x≠y:=by
     rintro rfl
     exact nd.1 (List.mem_map.mpr ⟨(x,k),e,rfl⟩)
    have hb:(x==y)=false:=by simpa using this
    rw [hb]
    exact cQ nd.2 e
theorem sZ {X:Cx} {pins:List (Addr × Obj)} {σ:St} {H:Hp} {s:Shared} {N:List Str} {ix:List (Option Nat)} {scope:Scope} {cl:List (Str × Addr)} {fp:List Addr} (B:BlkOk X N ix scope)
  (I:Inv X pins σ H s) (hcl:∀ x c,cl.lookup x=some c→X.env.cells.lookup x=some c) (hcf:∀ x,(x,NameKind.free)∈scope.names→∃ c,cl.lookup x=some c)
  (hfp:∀ b∈fp,FpOk X pins H b) (hob:∀ b∈fp,∃ o,s.heap.get? b=some o∧∀ v,o.data≠.cell v):
  Inv (blkCx X N scope cl s H fp) [] (subσ ix σ) (upd H s.heap.objs.size (.lst []))
   { s with heap:=pushCells ((s.heap.push { cls:=.type "list",data:=.seq #[] }).push { cls:=.type "dict",data:=.dict #[] }) scope.names }:=by
 have hs2:(s.heap.push { cls:=.type "list",data:=.seq #[] }).objs.size=s.heap.objs.size+1:=Heap.size_push ..
 have hs3:((s.heap.push { cls:=.type "list",data:=.seq #[] }).push { cls:=.type "dict",data:=.dict #[] }).objs.size=s.heap.objs.size+2:=by rw [Heap.size_push,hs2]
 have hk:∀ b o,s.heap.get? b=some o→(pushCells ((s.heap.push { cls:=.type "list",data:=.seq #[] }).push { cls:=.type "dict",data:=.dict #[] }) scope.names).get? b=some o:=
  fun b o e=>pushCells_keeps _ _ b o (Heap.get?_push_of_some _ (Heap.get?_push_of_some _ e))
 have hl:(pushCells ((s.heap.push { cls:=.type "list",data:=.seq #[] }).push { cls:=.type "dict",data:=.dict #[] }) scope.names).get? s.heap.objs.size=some { cls:=.type "list",data:=.seq #[] }:=
  pushCells_keeps _ _ _ _ (Heap.get?_push_of_some _ (Heap.get?_push_size _ rfl))
 have ok0:=cellsFrom_ok scope.names ((s.heap.push { cls:=.type "list",data:=.seq #[] }).push { cls:=.type "dict",data:=.dict #[] }) (s.heap.objs.size+2) [] ⟨fun _ _ hm=>(nomatch hm),List.Pairwise.nil⟩ (by rw [hs3]; exact Nat.le_refl _)
 rw [hs3] at ok0
 have hcells:(blkCx X N scope cl s H fp).env.cells=cellsFrom (s.heap.objs.size+2) scope.names []++cl:=by
  show cellsFrom (s.heap.objs.size+1+1) scope.names cl=_
  rw [← List.nil_append cl,gD]
  simp
 have cases_:∀ x c,(blkCx X N scope cl s H fp).env.cells.lookup x=some c→((x,c)∈cellsFrom (s.heap.objs.size+2) scope.names []∧(x,NameKind.cell)∈scope.names)∨((cellsFrom (s.heap.objs.size+2) scope.names []).lookup x=none∧cl.lookup x=some c):=fun x c e=>by
  rw [hcells,bN] at e
  cases q:(cellsFrom (s.heap.objs.size+2) scope.names []).lookup x with
  | none=>rw [q] at e; exact .inr ⟨rfl,e⟩
  | some c'=>
   rw [q] at e
   cases e
   have m:=PySem.mem_of_lookup q
   refine .inl ⟨m,?_⟩
   rcases d4 _ _ _ m with z | z
   · exact z
   · exact nomatch z
 have oldc:∀ x c,cl.lookup x=some c→c < s.heap.objs.size:=fun x c e=>by
  obtain ⟨v,q⟩:=I.cell x c (hcl x c e)
  exact q.lt
 have hfree:H s.heap.objs.size=none:=I.hok.fresh (Nat.le_refl _)
 have hfix:∀ b,s.heap.objs.size < b→(upd H s.heap.objs.size (.lst [])) b=none:=fun b hb=>by
  rw [ai (Nat.ne_of_gt hb)]
  exact I.hok.fresh (Nat.le_of_lt hb)
 have hlt:∀ b∈fp,b < s.heap.objs.size:=fun b hb=>by
  obtain ⟨o,e,_⟩:=hob b hb
  exact Heap.lt_size e
 have e0:=I.env0
 have isnew:∀ x c,(x,c)∈cellsFrom (s.heap.objs.size+2) scope.names []→s.heap.objs.size+2≤c:=fun x c m=>(ok0.empty x c m).2
 refine ⟨⟨I.ok.mod,B.kind,I.ok.glob,I.ok.blt,Nat.le_succ _,fun x y c e1 e2=>?_,fun x hx=>?_,fun x c hx e=>?_,I.ok.hd,I.ok.frames,.inl rfl,fun b hb=>⟨?_,fun x c e=>?_⟩,e0.bs,e0.bsz,fun b o e hb=>?_,fun b hb hb2=>?_,e0.funs,e0.frf⟩,
  rfl,I.bare,Un.laid hk (Nat.le_refl _) hfree,⟨fun _=>none,?_,fun j x v e1 e2 e3=>?_⟩,fun x c e=>?_,hfix _ (Nat.lt_succ_self _),fun x c e=>?_,fun p hp=>absurd (show p∈([]:List (Addr × Obj)) from hp) (by simp),?_,?_⟩
 · rcases cases_ x c e1 with ⟨m1,k1⟩ | ⟨n1,q1⟩ <;> rcases cases_ y c e2 with ⟨m2,k2⟩ | ⟨n2,q2⟩
   · exact name_of_addr ok0.apart m1 m2
   · exact absurd (Nat.lt_of_lt_of_le (oldc _ _ q2) (Nat.le_trans (Nat.le_add_right _ _) (isnew _ _ m1))) (Nat.lt_irrefl _)
   · exact absurd (Nat.lt_of_lt_of_le (oldc _ _ q1) (Nat.le_trans (Nat.le_add_right _ _) (isnew _ _ m2))) (Nat.lt_irrefl _)
   · exact I.ok.inj x y c (hcl _ _ q1) (hcl _ _ q2)
 · have hx':(relabel scope X.env).names.lookup x=some .cell∨(relabel scope X.env).names.lookup x=some .free:=hx
   have key:scope.names.lookup x=some .cell∨scope.names.lookup x=some .free:=by
    rcases hx' with z | z
    · obtain ⟨k',e,r | r⟩:=g3 z
      · rw [← r] at e; exact .inl e
      · rw [r.1] at e; exact .inr e
    · obtain ⟨k',e,r | r⟩:=g3 z
      · rw [← r] at e; exact .inr e
      · cases r.2
   rw [hcells]
   rcases key with z | z
   · obtain ⟨c,q⟩:=js (n:=s.heap.objs.size+2) z
     exact ⟨c,by rw [bN,q]⟩
   · obtain ⟨c,q⟩:=hcf x (PySem.mem_of_lookup z)
     cases q2:(cellsFrom (s.heap.objs.size+2) scope.names []).lookup x with
     | none=>exact ⟨c,by rw [bN,q2]; exact q⟩
     | some c'=>exact ⟨c',by rw [bN,q2]⟩
 · have hx':scope.names.lookup x=some .cell:=by simpa [blkCx] using hx
   rcases cases_ x c e with ⟨m1,k1⟩ | ⟨n1,q1⟩
   · exact Nat.le_trans (Nat.le_add_right _ _) (isnew _ _ m1)
   · obtain ⟨c',q⟩:=js (n:=s.heap.objs.size+2) hx'
     rw [q] at n1; cases n1
 · exact Nat.ne_of_lt (Nat.lt_succ_of_lt (hlt b hb))
 · rcases cases_ x c e with ⟨m1,k1⟩ | ⟨n1,q1⟩
   · exact Nat.ne_of_gt (Nat.lt_of_lt_of_le (hlt b hb) (Nat.le_trans (Nat.le_add_right _ _) (isnew _ _ m1)))
   · exact (hfp b hb).2.2.2.2.1 x c (hcl _ _ q1)
 · rcases (hfp b hb).2.2.2.1 with z | z
   · exact I.ok.noex b o e z
   · exact absurd (Nat.lt_of_lt_of_le (Heap.lt_size e) (Nat.le_trans I.ok.bsz z)) (Nat.lt_irrefl _)
 · rcases List.mem_cons.mp (I.stkSub b hb2) with z | z
   · exact (hfp b hb).2.1 z
   · exact (hfp b hb).2.2.1 z
 · show Heap.Ns _ (s.heap.objs.size+1) _
   rw [← hs2]
   exact (Heap.Ns.new _ (.type "dict")).keeps (pushCells_keeps _ _)
 ·
   unfold subσ at e2
   rw [List.getElem?_map] at e2
   cases q:ix[j]? with
   | none=>rw [q] at e2; cases e2
   | some o=>
    rw [q] at e2
    cases o with
    | none=>cases e2
    | some i=>
     simp only [Option.map_some,Option.some.injEq] at e2
     obtain ⟨hN,hm⟩:=B.at_ j i x e1 q
     have hσ:σ[i]? =some (some v):=by
      cases q2:σ[i]? with
      | none=>rw [q2] at e2; cases e2
      | some z=>rw [q2] at e2; exact congrArg some e2
     obtain ⟨m,hn,hl'⟩:=I.loc
     have hkind:=B.free x hm
     have hvis:Vis X.env.scope x:=hkind.elim (fun z=>.inr (.inl z)) fun z=>.inr (.inr z)
     obtain ⟨u,ru,lk⟩:=hl' i x v hN hσ hvis
     refine ⟨u,ru,?_⟩
     obtain ⟨c,hc⟩:=hcf x hm
     have hnone:(cellsFrom (s.heap.objs.size+2) scope.names []).lookup x=none:=by
      cases q2:(cellsFrom (s.heap.objs.size+2) scope.names []).lookup x with
      | none=>rfl
      | some c'=>
       rcases d4 _ _ _ (PySem.mem_of_lookup q2) with z | z
       · have a1:=cQ B.names z
         have a2:=cQ B.names hm
         rw [a1] at a2; cases a2
       · exact nomatch z
     have hcell:(blkCx X N scope cl s H fp).env.cells.lookup x=some c:=by rw [hcells,bN,hnone]; exact hc
     have hkk:(blkCx X N scope cl s H fp).env.kindOf x=some .cell∨(blkCx X N scope cl s H fp).env.kindOf x=some .free:=by
      rcases e3 with z | z | z
      · obtain ⟨k',e,r | r⟩:=g3 (show (relabel scope X.env).names.lookup x=some .local from z)
        · rw [cQ B.names hm] at e; cases e; cases r
        · cases r.2
      · exact .inl z
      · exact .inr z
     refine .inr ⟨hkk,c,hcell,?_⟩
     rcases lk with ⟨k1,_⟩ | ⟨_,c2,e4,z⟩
     · rcases hkind with z | z <;> rw [k1] at z <;> cases z
     · rw [hcl x c hc] at e4; cases e4
       exact z.keeps hk
 · rcases cases_ x c e with ⟨m1,k1⟩ | ⟨n1,q1⟩
   · exact ⟨none,(ok0.empty x c m1).1⟩
   · obtain ⟨v,z⟩:=I.cell x c (hcl _ _ q1)
     exact ⟨v,z.keeps hk⟩
 · rcases cases_ x c e with ⟨m1,k1⟩ | ⟨n1,q1⟩
   · exact hfix c (Nat.lt_of_lt_of_le (Nat.lt_add_of_pos_right (by decide)) (isnew _ _ m1))
   · rw [ai (Nat.ne_of_lt (oldc _ _ q1))]
     exact I.freeC x c (hcl _ _ q1)
 · exact I.hok.laid hk (Nat.le_refl _) ⟨Nat.zero_le _,[],0,.nil,hl⟩
 · show (subσ ix σ).length=N.length
   unfold subσ
   rw [List.length_map]
   exact B.len
end L2
namespace L2
open PySem PySem.Spec PyProof.Rows
def PTs (X:Cx) (ifs:List Expr) (t:TT):Prop:=
 ∀ (pins:List (Addr × Obj)) (s:Shared) (σ:St) (H:Hp) (Q:Bool→Hp→Prop),Inv X pins σ H s→t σ H Q→
  wpAny (model X.prog X.w) X.A (forIn ifs true fun c r=>if r=true then do let ok ← isTrue c X.env (eval c X.env); pure (ForInStep.yield ok) else pure (ForInStep.yield r)) (TP X pins σ Q) X.xe s
def tTrue:TT:=fun _ H Q=>Q true H
theorem bf {X:Cx}:PTs X [] tTrue:=fun _ _ _ H _ I h=>wpAny_tests_nil ⟨H,I,h⟩
theorem ng {X:Cx} {c:Expr} {t:TT} (h:PT X c t):PTs X [c] t:=fun pins s σ H Q I q=>wpAny_tests_one (h pins s σ H Q I q)
def pN (ix:List (Option Nat)) (wi:TI) (g:TG) (tt:TT) (te:TE) (fin:Addr→Hp→Prop):St→Hp→Prop:=fun σ H=>wi σ H fun J H1=>∀ l,H1 l=none→
 ∃ W:Nat→Nat→St→Hp→Prop,(∃ m,W 0 m (subσ ix σ) (upd H1 l (.lst [])))∧∀ i m σ' H',W i m σ' H'→
  (J.stop i H'∧fin l H')∨(J.go i H'∧∃ N:St→Hp→Prop,(∀ σ'' H'',N σ'' H''→∃ m',m' < m∧W (i+1) m' σ'' H'')∧∀ x H2,J.yld i H' x H2→g x σ' H2 fun σ2 H3=>tt σ2 H3 fun b H4=>
   if b=true then te σ2 H4 fun y H5=>∃ ys,H5 l=some (.lst ys)∧ys.length < sizeLine∧N σ2 (upd H5 l (.lst (ys++[y]))) else N σ2 H4)
section
variable {X:Cx} {pins:List (Addr × Obj)} {σ σ':St} {H H':Hp} {s s':Shared} {N:List Str} {scope:Scope} {cl:List (Str × Addr)} {fp:List Addr}
theorem rg {h':Heap} (I:Inv X pins σ H s) (J:Inv (blkCx X N scope cl s H fp) [] σ' H' s') (hfp:∀ b∈fp,FpOk X pins H b) (sb:Heap.SameBut (s.heap.objs.size+1) s'.heap h'):Inv X pins σ H' { s' with heap:=h' }:=by
 have u:Un (frs X.stack) fp H H' s.heap s'.heap:=J.base
 have hC:H' (s.heap.objs.size+1)=none:=J.free
 have ne:∀ b o,s.heap.get? b=some o→b≠s.heap.objs.size+1:=fun b o e=>Nat.ne_of_lt (Nat.lt_succ_of_lt (Heap.lt_size e))
 refine I.call' (s':={ s' with heap:=h' }) (ch:=fp) J.os ⟨fun b o e n hb hx=>?_,fun b o e n hb hx=>?_,u.free,fun b o e hx=>?_,u.tups,u.frzs,u.tbls⟩ (fun b ob e=>?_) J.bare fun b hb=>?_
 · exact (sb.2 b (ne b o e)).trans (u.keep b o e n hb hx)
 · obtain ⟨sl,q⟩:=u.slot b o e n hb hx
   exact ⟨sl,(sb.2 b (ne b o e)).trans q⟩
 · obtain ⟨o',q⟩:=u.there b o e hx
   exact ⟨o',(sb.2 b (ne b o e)).trans q⟩
 · refine (J.hok b ob e).stay (fun c w' hc q=>(sb.2 c ?_).trans q) (fun _ q=>q) fun _ _ q=>q
   rintro rfl
   rcases hc with rfl | hc
   · rw [hC] at e; cases e
   · rw [hC] at hc; cases hc
 · obtain ⟨f0,f1,f2,f3,f4,f5⟩:=hfp b hb
   exact ⟨f3,f1,f4,f5⟩
theorem pO {tg iter elt:Expr} {ifs:List Expr} {pos:Pos} {ix:List (Option Nat)} {wi:TI} {g:TG} {tt:TT} {te:TE} {fin:Addr→Hp→Prop} {RR:Value→Addr→Result→Shared→Prop} (B:BlkOk X N ix scope) (hc:X.calm=true)
  (hi:PI X tg iter wi) (hg:∀ cl s H fp,PG (blkCx X N scope cl s H fp) tg g) (ht:∀ cl s H fp,PTs (blkCx X N scope cl s H fp) ifs tt) (he:∀ cl s H fp,PE (blkCx X N scope cl s H fp) elt te)
  (hcl:∀ x c,cl.lookup x=some c→X.env.cells.lookup x=some c) (hcf:∀ x,(x,NameKind.free)∈scope.names→∃ c,cl.lookup x=some c)
  (I:Inv X pins σ H s) (h:pN ix wi g tt te fin σ H)
  (ok:∀ (s2:Shared) (H2:Hp) (fp:List Addr) (σ3:St) (H3:Hp) (s3:Shared),Inv X pins σ H2 s2→(∀ b∈fp,FpOk X pins H2 b)→Inv (blkCx X N scope cl s2 H2 fp) [] σ3 H3 s3→fin s2.heap.objs.size H3→RR (.ref s2.heap.objs.size) (s2.heap.objs.size+1) (.ok .next) s3)
  (bad:∀ (a C:Addr) (x:Value) (s':Shared),(∃ m,s'.heap.Ns C m∧∀ h',Heap.SameBut C s'.heap h'→∀ cenv:Env,cenv.locals=C→wpAny (model X.prog X.w) X.A (passOn "comprehension.variables-let-go" x cenv:Sem Value) (fun _ _=>False) X.xe { s' with heap:=h' })→RR (.ref a) C (.error x) s'):
  wpAny (model X.prog X.w) X.A (eval iter X.env) (fun x s₁=>wpAny (model X.prog X.w) X.A (pyIter x) (fun it s₂=>wpAny (model X.prog X.w) X.A (newList []) (fun acc s₃=>
   wpAny (model X.prog X.w) X.A (newFunctionEnv scope X.env.globals cl [] X.env.qual none .none (some X.env)) (fun cenv s₄=>
    codeAny (model X.prog X.w) X.A (.compStart (.ListComp elt [⟨tg,iter,ifs,0⟩] scope pos) 0 it acc { cenv with scope:=relabel scope X.env }) (RR acc cenv.locals) s₄) X.xe s₃) X.xe s₂) X.xe s₁) X.xe s:=by
 refine thn (hi pins s σ H _ I h) fun v s1 h1=>thn h1 fun itv s2 h2=>?_
 obtain ⟨it,fp,tn,J,H2,e,I2,T,st2,f2,h2⟩:=h2
 subst e
 refine wpAny_newList (uv ?_) (Nat.zero_le _)
 have hs2:(s2.heap.push { cls:=.type "list",data:=.seq (([]:List Value)).toArray }).objs.size=s2.heap.objs.size+1:=Heap.size_push ..
 dsimp only
 rw [hs2]
 have I3:=sZ (fp:=fp) B I2 hcl hcf f2 (T.obj _ _ st2)
 obtain ⟨W,⟨m0,w0⟩,turn⟩:=h2 s2.heap.objs.size I2.fresh
 have hk:∀ b o,s2.heap.get? b=some o→(pushCells ((s2.heap.push { cls:=.type "list",data:=.seq #[] }).push { cls:=.type "dict",data:=.dict #[] }) scope.names).get? b=some o:=
  fun b o e=>pushCells_keeps _ _ b o (Heap.get?_push_of_some _ (Heap.get?_push_of_some _ e))
 have st3:=T.keep _ _ _ st2 fun b _ o e=>hk b o e
 have fr3:∀ b∈fp,(upd H2 s2.heap.objs.size (.lst [])) b=none:=fun b hb=>by
  obtain ⟨o,e,_⟩:=T.obj _ _ st2 b hb
  rw [ai (Nat.ne_of_lt (Heap.lt_size e))]
  exact (f2 b hb).1
 have stat:∀ {σ5:St} {H5:Hp} {s5:Shared},Inv (blkCx X N scope cl s2 H2 fp) [] σ5 H5 s5→(∀ b∈fp,H5 b=none)→∀ b∈fp,FpOk (blkCx X N scope cl s2 H2 fp) [] H5 b:=fun I5 hn b hb=>
  ⟨hn b hb,(I5.ok.exf b hb).1,I5.ok.exfs b hb,.inl hb,(I5.ok.exf b hb).2,fun p hp=>absurd (show p∈([]:List (Addr × Obj)) from hp) (by simp)⟩
 have loop:∀ s₃:Shared,s₃={ s2 with heap:=pushCells ((s2.heap.push { cls:=.type "list",data:=.seq #[] }).push { cls:=.type "dict",data:=.dict #[] }) scope.names }→
   codeAny (model X.prog X.w) X.A (.compLoop (.ListComp elt [⟨tg,iter,ifs,0⟩] scope pos) 0 (.ref it) (.ref s2.heap.objs.size) (blkCx X N scope cl s2 H2 fp).env) (RR (.ref s2.heap.objs.size) (s2.heap.objs.size+1)) s₃:=by
  rintro s₃ rfl
  refine sY (fun n s'=>∃ i σ' H',Inv (blkCx X N scope cl s2 H2 fp) [] σ' H' s'∧tn i s'.heap∧(∀ b∈fp,H' b=none)∧W i n σ' H') ?_ m0 ⟨0,_,_,I3,st3,fr3,w0⟩
  rintro n s4 ⟨i,σ4,H4,I4,st4,fr4,w4⟩
  have xe_:∀ x s',(blkCx X N scope cl s2 H2 fp).xe x s'→notedBy (model X.prog X.w) X.A (blkCx X N scope cl s2 H2 fp).env (fun e s'=>RR (.ref s2.heap.objs.size) (s2.heap.objs.size+1) (.error e) s') x s':=fun x s' hx=>
   wpAny_mono (hx ⟨pins,σ,I2,f2⟩) (fun _ s'' q=>bad _ _ _ _ q) fun e s'' q=>bad _ _ _ _ q
  rcases turn i n σ4 H4 w4 with ⟨stop,qn⟩ | ⟨go,Nx,hN,step⟩
  · refine wpAny_mono (T.done (blkCx X N scope cl s2 H2 fp) rfl rfl rfl hc i [] s4 σ4 H4 _ I4 (stat I4 fr4) st4 stop) (fun r s5 ⟨hr,I5⟩=>?_) xe_
    subst hr
    exact ok s2 H2 fp σ4 H4 s5 I2 f2 I5 qn
  · refine wpAny_mono (T.item (blkCx X N scope cl s2 H2 fp) rfl rfl rfl hc i [] s4 σ4 H4 _ I4 (stat I4 fr4) st4 go) (fun r s5 ⟨u,hr,h5⟩=>?_) xe_
    subst hr
    refine wpAny_mono h5 (fun _ s6 ⟨x,H6,I6,r6,y6,st6,fr6⟩=>?_) xe_
    have I6':=I6.pinned (stat I6 fr6) (T.obj _ _ st6)
    refine wpAny_mono (hg cl s2 H2 fp _ s6 σ4 H6 x u _ I6' r6 (step x H6 y6)) (fun _ s7 ⟨σ7,H7,I7,q7⟩=>?_) xe_
    have again:∀ {σ8:St} {H8:Hp} {s8:Shared},Inv (blkCx X N scope cl s2 H2 fp) ([]++jS fp s6.heap) σ8 H8 s8→Nx σ8 H8→∃ m,m < n∧∃ i σ' H',Inv (blkCx X N scope cl s2 H2 fp) [] σ' H' s8∧tn i s8.heap∧(∀ b∈fp,H' b=none)∧W i m σ' H':=fun {σ8 H8 s8} I8 n8=>by
     obtain ⟨m',hm,w8⟩:=hN σ8 H8 n8
     refine ⟨m',hm,i+1,σ8,H8,I8.unpinned,T.keep _ _ _ st6 fun b hb o e=>(I8.pin (b,o) (List.mem_append_right _ (List.mem_append_right _ (gG hb e)))).1,fun b hb=>?_,w8⟩
     obtain ⟨o,e,d⟩:=T.obj _ _ st6 b hb
     exact (I8.pin (b,o) (List.mem_append_right _ (List.mem_append_right _ (gG hb e)))).2.1
    refine wpAny_mono (ht cl s2 H2 fp _ s7 σ7 H7 _ I7 q7) (fun okb s8 ⟨H8,I8,q8⟩=>?_) xe_
    cases okb with
    | false=>exact again I8 q8
    | true=>
     refine wpAny_mono (he cl s2 H2 fp _ s8 σ7 H8 _ I8 q8) (fun y s9 ⟨yv,H9,I9,r9,ys,hl,hz,q9⟩=>?_) xe_
     refine wpAny_mono (om (X:=blkCx X N scope cl s2 H2 fp) _ s9 σ7 H9 (.ref s2.heap.objs.size) [yv] (.ref s2.heap.objs.size) [y] (fun _ H10=>Nx σ7 H10) I9 rfl (.cons r9 .nil) ⟨_,ys,yv,rfl,rfl,hl,hz,q9⟩) (fun _ s10 ⟨_,H10,I10,_,q10⟩=>?_) xe_
     exact again I10 q10
 exact codeAny_compStart_list (loop _ rfl) (T.self _ 0 _ _ _ st3 (loop _ rfl))
def tComp (ix:List (Option Nat)) (wi:TI) (g:TG) (tt:TT) (te:TE):TE:=fun σ H Q=>pN ix wi g tt te (fun l H'=>Q (.ref l) H') σ H
def sComp (k:Nat) (ix:List (Option Nat)) (wi:TI) (g:TG) (tt:TT) (te:TE):TS:=fun D σ H=>pN ix wi g tt te (fun l H'=>D.nx (σ.set k (some (.ref l))) H') σ H
theorem rh (I:Inv X pins σ H s) {ix:List (Option Nat)} (B:BlkOk X N ix scope):∃ cl,closureFor scope X.env=pure cl∧(∀ x c,cl.lookup x=some c→X.env.cells.lookup x=some c)∧∀ x,(x,NameKind.free)∈scope.names→∃ c,cl.lookup x=some c:=
 rP fun x hx=>I.ok.has x (B.free x hx)
theorem kZ {ix:List (Option Nat)} (B:BlkOk X N ix scope):∀ x∈scope.names,x.2=NameKind.local→scope.names.lookup x.1=some .local:=fun x hx e=>by
 obtain ⟨n,k⟩:=x
 cases e
 exact cQ B.names hx
theorem bc {tg iter elt:Expr} {ifs:List Expr} {pos:Pos} {ix:List (Option Nat)} {wi:TI} {g:TG} {tt:TT} {te:TE} (N:List Str) (B:BlkOk X N ix scope) (hc:X.calm=true)
  (hi:PI X tg iter wi) (hg:∀ cl s H fp,PG (blkCx X N scope cl s H fp) tg g) (ht:∀ cl s H fp,PTs (blkCx X N scope cl s H fp) ifs tt) (he:∀ cl s H fp,PE (blkCx X N scope cl s H fp) elt te)
  (hs:∀ x,foldedSetIterable iter X.env x=pure x:=by intro _; rfl):PE X (.ListComp elt [⟨tg,iter,ifs,0⟩] scope pos) (tComp ix wi g tt te):=by
 intro pins s σ H Q I h
 obtain ⟨cl,e1,e2,e3⟩:=rh I B
 rw [eval_ListComp]
 refine wpAny_comprehension_free (use:=none) rfl hs e1 B.kind (kZ B) ?_
 refine pO (RR:=fun acc C=>compPost (model X.prog X.w) X.A X.xe none (EP X pins σ Q) acc C) B hc hi hg ht he e2 e3 I h (fun s2 H2 fp σ3 H3 s3 I2 f2 J q=>?_) (fun a C x s' q=>q)
 obtain ⟨m,hn,_⟩:=J.loc
 exact ⟨m,hn,fun h' sb=>⟨.ref _,H3,rg I2 J f2 sb,rfl,q⟩⟩
theorem ri {y:Str} {py spos:Pos} {k:Nat} {tg iter elt:Expr} {ifs:List Expr} {pos:Pos} {ix:List (Option Nat)} {wi:TI} {g:TG} {tt:TT} {te:TE} (hN:X.N.Nodup) (hy:X.N[k]? =some y) (hx:Loc X.env.scope y)
  (hsw:swapsWith (.ListComp elt [⟨tg,iter,ifs,0⟩] scope pos) (some (.Name y py)) spos.line X.env=pure true) (N:List Str) (B:BlkOk X N ix scope) (hc:X.calm=true)
  (hi:PI X tg iter wi) (hg:∀ cl s H fp,PG (blkCx X N scope cl s H fp) tg g) (ht:∀ cl s H fp,PTs (blkCx X N scope cl s H fp) ifs tt) (he:∀ cl s H fp,PE (blkCx X N scope cl s H fp) elt te)
  (hs:∀ x,foldedSetIterable iter X.env x=pure x:=by intro _; rfl) (hf:X.fn y=true∨X.env.scope.names.lookup y=some .local:=by first | exact .inl rfl | exact .inr rfl | assumption):
  PS X (.Assign [.Name y py] (.ListComp elt [⟨tg,iter,ifs,0⟩] scope pos) spos) (sComp k ix wi g tt te):=by
 intro pins s σ H D I h
 obtain ⟨cl,e1,e2,e3⟩:=rh I B
 rw [exec_Assign_Name_used _ _ _ _ hsw]
 refine wpAny_bind (wpAny_standAt (wpAny_bind ?_))
 show wpAny _ X.A (do let _ ← comprehension (.ListComp elt [⟨tg,iter,ifs,0⟩] scope pos) scope X.env _ (newList []) false (eval iter X.env) (some (assign (.Name y py) X.env))) _ _ s
 refine wpAny_bind (wpAny_mono (wpAny_comprehension_free (use:=some (assign (.Name y py) X.env)) (Q:=fun _ s'=>SP X pins D .next s') rfl hs e1 B.kind (kZ B) ?_) (fun _ s' hq=>wpAny_pure (wpAny_pure hq)) fun _ _ e=>e)
 refine pO (RR:=fun acc C=>compPost (model X.prog X.w) X.A X.xe (some (assign (.Name y py) X.env)) (fun _ s'=>SP X pins D .next s') acc C) B hc hi hg ht he e2 e3 I h (fun s2 H2 fp σ3 H3 s3 I2 f2 J q=>?_) (fun a C x s' q=>q)
 obtain ⟨m,hn,_⟩:=J.loc
 have I3:Inv X pins σ H3 { s3 with heap:=s3.heap }:=rg I2 J f2 (Heap.SameBut.refl _ _)
 show wpAny _ X.A (assign (.Name y py) X.env (.ref _)) _ _ _
 refine wpAny_assign_Name (nV (v:=.ref _) I3 hN hy hx rfl (fun s4 I4 ⟨a,sb4,ha⟩=>?_) hf)
 have hlt:a < s2.heap.objs.size:=by
  rcases ha with rfl | ha
  · exact I2.lt
  · obtain ⟨v,z⟩:=I2.cell _ _ ha
    exact z.lt
 have hCa:s2.heap.objs.size+1≠a:=Nat.ne_of_gt (Nat.lt_succ_of_lt hlt)
 refine ⟨m,hn.sameBut sb4 hCa,fun h' sb=>?_⟩
 refine ⟨_,H3,I4.turned (t':=s4.toks) (it:=s2.heap.objs.size+1) (fun b o hb e=>(sb.2 b hb).trans e) J.free (Nat.ne_of_gt (Nat.lt_succ_of_lt I2.lt)) (.inr (Nat.le_trans I2.sz (Nat.le_succ _))) (fun x c e=>?_) (fun p hp=>?_),q⟩
 · obtain ⟨v,z⟩:=I2.cell x c e
   exact Nat.ne_of_lt (Nat.lt_succ_of_lt z.lt)
 · exact Nat.ne_of_lt (Nat.lt_succ_of_lt (Heap.lt_size (I2.pin p hp).1))
end
end L2
namespace L2
open PySem PySem.Spec PyProof.Rows
def bnd {α:Type}:Option α→(α→Prop)→Prop
 | some a,k=>k a
 | none,_=>False
theorem aL {α:Type} {o:Option α} {a:α} {k:α→Prop} (h:o=some a) (q:k a):bnd o k:=by subst h; exact q
theorem aO {α:Type} {o:Option α} {k:α→Prop} (h:bnd o k):∃ a,o=some a∧k a:=by
 cases o with
 | none=>exact h.elim
 | some a=>exact ⟨a,rfl,h⟩
theorem cD {α:Type} {a:α} {k:α→Prop}:bnd (some a) k=k a:=rfl
def unM:Option HO→Option (List V)
 | some (.lst xs)=>some xs
 | _=>none
def unL:Option HO→Option (List V)
 | some (.lst xs)=>some xs
 | some (.frz _ (.lst xs))=>some xs
 | _=>none
def unS:Option HO→Option (List V)
 | some (.lst xs)=>some xs
 | some (.frz _ (.lst xs))=>some xs
 | some (.tup xs)=>some xs
 | _=>none
theorem fc {o:Option HO} {xs:List V} (h:unM o=some xs):o=some (.lst xs):=by
 unfold unM at h; split at h
 · cases h; rfl
 · cases h
theorem jY {K:PySem.W.Frag} {H:Hp} {p:Addr} {xs:List V} (h:unL (H p)=some xs):SqL K H p xs:=by
 unfold unL at h; split at h
 · rename_i e; cases h; exact .inl (.inl e)
 · rename_i o _ e; cases h; exact .inl (.inr ⟨_,e⟩)
 · cases h
theorem jd {K:PySem.W.Frag} {H:Hp} {p:Addr} {xs:List V} (h:unS (H p)=some xs):SqL K H p xs∨SqT K H p xs:=by
 unfold unS at h; split at h
 · rename_i e; cases h; exact .inl (.inl (.inl e))
 · rename_i o _ e; cases h; exact .inl (.inl (.inr ⟨_,e⟩))
 · rename_i e; cases h; exact .inr (.inl (.inl e))
 · cases h
mutual
inductive DV (K:PySem.W.Frag) (H:Hp):V→PyData→Prop
 | non:DV K H .non .none
 | bl (b:Bool):DV K H (.bl b) (.bool b)
 | int (i:Int):DV K H (.int i) (.int i)
 | str (x:Str):DV K H (.str x) (.str x)
 | lst {a:Addr} {xs:List V} {ds:List PyData}:SqL K H a xs→DVs K H xs ds→DV K H (.ref a) (.list ds)
 | tup {a:Addr} {xs:List V} {ds:List PyData}:SqT K H a xs→DVs K H xs ds→DV K H (.ref a) (.tuple ds)
inductive DVs (K:PySem.W.Frag) (H:Hp):List V→List PyData→Prop
 | nil:DVs K H [] []
 | cons {x:V} {d:PyData} {xs:List V} {ds:List PyData}:DV K H x d→DVs K H xs ds→DVs K H (x::xs) (d::ds)
end
section
variable {X:Cx} {pins:List (Addr × Obj)} {σ:St} {H:Hp} {s:Shared}
mutual
theorem DV.reads (I:Inv X pins σ H s):∀ {x:V} {d:PyData} {v:Value},DV X.K H x d→RelV x v→∃ as,Reads s.heap v d as
 | _,_,_,.non,r=>by cases r; exact ⟨_,.none⟩
 | _,_,_,.bl b,r=>by cases r; exact ⟨_,.bool b⟩
 | _,_,_,.int i,r=>by obtain ⟨t,rfl⟩:=r; exact ⟨_,.int i t⟩
 | _,_,_,.str x,r=>by obtain ⟨t,rfl⟩:=r; exact ⟨_,.str x t⟩
 | _,_,_,.lst (a:=a) h hs,r=>by
  cases r
  obtain ⟨its,rv,p,_⟩:=I.list h
  obtain ⟨as,q⟩:=DVs.reads I hs rv
  obtain ⟨o,h1,h2,n,h3⟩:=p.isList
  exact ⟨_,.list h1 h2 h3 q⟩
 | _,_,_,.tup (a:=a) h hs,r=>by
  cases r
  obtain ⟨its,rv,p,_⟩:=I.tuple h
  obtain ⟨as,q⟩:=DVs.reads I hs rv
  obtain ⟨o,h1,h2,n,h3⟩:=p
  exact ⟨_,.tuple h1 h2 h3 q⟩
theorem DVs.reads (I:Inv X pins σ H s):∀ {xs:List V} {ds:List PyData} {us:List Value},DVs X.K H xs ds→Vals xs us→∃ as,ReadsAll s.heap us ds as
 | _,_,_,.nil,.nil=>⟨_,.nil⟩
 | _,_,_,.cons h hs,.cons r rs=>by
  obtain ⟨as,q⟩:=DV.reads I h r
  obtain ⟨bs,q2⟩:=DVs.reads I hs rs
  exact ⟨_,.cons q q2⟩
end
end
theorem DVs.ints {K:PySem.W.Frag} {H:Hp}:∀ ns:List Int,DVs K H (ns.map V.int) (ns.map PyData.int)
 | []=>.nil
 | n::r=>.cons (.int n) (DVs.ints r)
theorem pP:∀ ns ms:List Int,PyData.eqvAll (ns.map PyData.int) (ms.map PyData.int)=decide (ns=ms):=PySem.W.ked_eqvAll
theorem lf:∀ ns:List Int,PyData.canLayAll0 (ns.map PyData.int)=true
 | []=>rfl
 | n::r=>by rw [List.map_cons,PyData.canLayAll0,lf r]; rfl
theorem ju:∀ ns:List Int,PyData.depthAll (ns.map PyData.int)=0
 | []=>rfl
 | n::r=>by rw [List.map_cons,PyData.depthAll,ju r]; rfl
theorem k4 (ns:List Int):SeqAt.shaped (.list (ns.map PyData.int))=true:=by
 simp [SeqAt.shaped,PyData.canLay0,lf,PyData.depth,ju]
def cAdd:R2
 | .int i,.int j,H,Q=>Q (.int (i+j)) H
 | .str i,.str j,H,Q=>i.length+j.length≤sizeLine∧Q (.str (i++j)) H
 | .ref l,.ref b,H,Q=>bnd (unM (H l)) fun xs=>bnd (unM (H b)) fun zs=>xs.length+zs.length≤sizeLine∧∀ p,H p=none→Q (.ref p) (upd H p (.lst (xs++zs)))
 | _,_,_,_=>False
def cSub:R2
 | .int i,.int j,H,Q=>Q (.int (i - j)) H
 | _,_,_,_=>False
def cMul:R2
 | .int i,.int j,H,Q=>CMul i j∧Q (.int (i*j)) H
 | _,_,_,_=>False
def cDiv:R2
 | .int i,.int j,H,Q=>CDiv i j∧Q (.int (i / j)) H
 | _,_,_,_=>False
def cMod:R2
 | .int i,.int j,H,Q=>0 < j∧Q (.int (i % j)) H
 | _,_,_,_=>False
def cPow:R2
 | .int i,.int j,H,Q=>CPow i j∧Q (.int (i^j.toNat)) H
 | _,_,_,_=>False
def cCmp (g:Int→Int→Bool):R2
 | .int i,.int j,H,Q=>Q (.bl (g i j)) H
 | _,_,_,_=>False
def rEqD (K:PySem.W.Frag):R2:=fun x y H Q=>∃ d e,DV K H x d∧DV K H y e∧SeqAt.shaped d=true∧SeqAt.shaped e=true∧Q (.bl (PyData.eqv d e)) H
def rNeD (K:PySem.W.Frag):R2:=fun x y H Q=>∃ d e,DV K H x d∧DV K H y e∧SeqAt.shaped d=true∧SeqAt.shaped e=true∧Q (.bl (!PyData.eqv d e)) H
def cEq (K:PySem.W.Frag):R2
 | .int i,.int j,H,Q=>Q (.bl (decide (i=j))) H
 | .bl i,.bl j,H,Q=>Q (.bl (decide (i=j))) H
 | .str i,.str j,H,Q=>Q (.bl (decide (i=j))) H
 | x,y,H,Q=>rEqD K x y H Q
def cNe (K:PySem.W.Frag):R2
 | .int i,.int j,H,Q=>Q (.bl (!decide (i=j))) H
 | .bl i,.bl j,H,Q=>Q (.bl (!decide (i=j))) H
 | .str i,.str j,H,Q=>Q (.bl (!decide (i=j))) H
 | x,y,H,Q=>rNeD K x y H Q
def rInD (K:PySem.W.Frag) (neg:Bool):R2:=fun x y H Q=>∃ d ds,DV K H x d∧(DV K H y (.list ds)∨DV K H y (.tuple ds))∧PyData.canLayAll0 ds=true∧PyData.canLay0 d=true∧min (PyData.depthAll ds) d.depth≤62∧
 Q (.bl (if neg then !ds.any (fun y=>PyData.eqv y d) else ds.any fun y=>PyData.eqv y d)) H
def keyOf:V→Option Key
 | .int i=>some (.inl i)
 | .str x=>some (.inr x)
 | _=>none
def unD:Option HO→Option (List (Key × V))
 | some (.dK kvs)=>some kvs
 | _=>none
def cIn (K:PySem.W.Frag) (neg:Bool):R2
 | .ref a,y,H,Q=>rInD K neg (.ref a) y H Q
 | x,.ref p,H,Q=>(match unD (H p) with
  | some kvs=>bnd (keyOf x) fun k=>Q (.bl (if neg then !(valV kvs k).isSome else (valV kvs k).isSome)) H
  | none=>bnd (unS (H p)) fun xs=>flatV x=true∧xs.all flatV=true∧Q (.bl (if neg then !inV x xs else inV x xs)) H)
 | .str i,.str j,H,Q=>Q (.bl (if neg then !(!(Builtin.Str.occurrences j i 0 j.length 1).isEmpty) else !(Builtin.Str.occurrences j i 0 j.length 1).isEmpty)) H
 | _,_,_,_=>False
def cIx:R2
 | .ref p,y,H,Q=>(match unD (H p) with
  | some kvs=>bnd (keyOf y) fun k=>bnd (valV kvs k) fun v=>Q v H
  | none=>match y with
   | .int i=>bnd (unS (H p)) fun xs=>bnd (atI xs i) fun v=>Q v H
   | _=>False)
 | .str z,.int i,H,Q=>z.length≤sizeLine∧bnd (atI z.cps.toList i) fun c=>Q (.str ⟨#[c]⟩) H
 | _,_,_,_=>False
theorem lX {o:Option HO} {kvs:List (Key × V)} (h:unD o=some kvs):o=some (.dK kvs):=by
 unfold unD at h; split at h
 · cases h; rfl
 · cases h
theorem lg {x:V} {k:Key} (h:keyOf x=some k):x=kV k:=by
 unfold keyOf at h; split at h
 · cases h; rfl
 · cases h; rfl
 · cases h
section
variable {X:Cx} {a b c:Expr} {ta tb tc:TE} {pos:Pos}
theorem aE:OpR X (binaryOp .Add) cAdd:=by
 intro pins s σ H x y v u Q I rx ry h
 unfold cAdd at h
 split at h
 · exact vX pins s σ H _ _ v u Q I rx ry ⟨_,_,rfl,rfl,h⟩
 · exact rJ pins s σ H _ _ v u Q I rx ry ⟨_,_,rfl,rfl,h.1,h.2⟩
 · obtain ⟨xs,e1,h⟩:=aO h
   obtain ⟨zs,e2,h⟩:=aO h
   exact wc pins s σ H _ _ v u Q I rx ry ⟨_,_,xs,zs,rfl,rfl,fc e1,fc e2,h.1,h.2⟩
 · exact h.elim
theorem dF:OpR X (binaryOp .Sub) cSub:=by
 intro pins s σ H x y v u Q I rx ry h
 unfold cSub at h
 split at h
 · exact vY pins s σ H _ _ v u Q I rx ry ⟨_,_,rfl,rfl,h⟩
 · exact h.elim
theorem cm:OpR X (binaryOp .Mult) cMul:=by
 intro pins s σ H x y v u Q I rx ry h
 unfold cMul at h
 split at h
 · exact vZ pins s σ H _ _ v u Q I rx ry ⟨_,_,rfl,rfl,h.1,h.2⟩
 · exact h.elim
theorem nh:OpR X (binaryOp .FloorDiv) cDiv:=by
 intro pins s σ H x y v u Q I rx ry h
 unfold cDiv at h
 split at h
 · exact u8 pins s σ H _ _ v u Q I rx ry ⟨_,_,rfl,rfl,h.1,h.2⟩
 · exact h.elim
theorem bH:OpR X (binaryOp .Mod) cMod:=by
 intro pins s σ H x y v u Q I rx ry h
 unfold cMod at h
 split at h
 · exact v1 pins s σ H _ _ v u Q I rx ry ⟨_,_,rfl,rfl,h.1,h.2⟩
 · exact h.elim
theorem ni {op:CmpOp} {g:Int→Int→Bool} (o:OpR X (compareOp op) (rI0 fun i j=>.bl (g i j))):OpR X (compareOp op) (cCmp g):=by
 intro pins s σ H x y v u Q I rx ry h
 unfold cCmp at h
 split at h
 · exact o pins s σ H _ _ v u Q I rx ry ⟨_,_,rfl,rfl,h⟩
 · exact h.elim
theorem fe:OpR X (compareOp .Lt) (cCmp fun i j=>decide (i < j)):=ni wO
theorem jZ:OpR X (compareOp .LtE) (cCmp fun i j=>decide (i≤j)):=ni wP
theorem dY:OpR X (compareOp .Gt) (cCmp fun i j=>decide (j < i)):=ni wQ
theorem wf (hu:X.A.units+64 < cLine):OpR X (compareOp .Eq) (rEqD X.K):=by
 intro pins s σ H x y v u Q I rx ry h
 obtain ⟨d,e,h1,h2,h3,h4,q⟩:=h
 obtain ⟨as,r1⟩:=h1.reads I rx
 obtain ⟨bs,r2⟩:=h2.reads I ry
 exact eq_dataH r1 r2 h3 h4 hu ⟨.bl _,H,I,rfl,q⟩
theorem wg (hu:X.A.units+64 < cLine):OpR X (compareOp .NotEq) (rNeD X.K):=by
 intro pins s σ H x y v u Q I rx ry h
 obtain ⟨d,e,h1,h2,h3,h4,q⟩:=h
 obtain ⟨as,r1⟩:=h1.reads I rx
 obtain ⟨bs,r2⟩:=h2.reads I ry
 exact ne_dataH r1 r2 h3 h4 hu ⟨.bl _,H,I,rfl,q⟩
theorem aJ (hu:X.A.units+64 < cLine):OpR X (compareOp .Eq) (cEq X.K):=by
 intro pins s σ H x y v u Q I rx ry h
 unfold cEq at h
 split at h
 · refine rG pins s σ H _ _ v u Q I rx ry ⟨rfl,?_⟩
   simpa using h
 · refine rG pins s σ H _ _ v u Q I rx ry ⟨rfl,?_⟩
   simpa using h
 · refine rG pins s σ H _ _ v u Q I rx ry ⟨rfl,?_⟩
   simpa using h
 · exact wf hu pins s σ H _ _ v u Q I rx ry h
theorem je (hu:X.A.units+64 < cLine):OpR X (compareOp .NotEq) (cNe X.K):=by
 intro pins s σ H x y v u Q I rx ry h
 unfold cNe at h
 split at h
 · refine rH pins s σ H _ _ v u Q I rx ry ⟨rfl,?_⟩
   simpa using h
 · refine rH pins s σ H _ _ v u Q I rx ry ⟨rfl,?_⟩
   simpa using h
 · refine rH pins s σ H _ _ v u Q I rx ry ⟨rfl,?_⟩
   simpa using h
 · exact wg hu pins s σ H _ _ v u Q I rx ry h
theorem wj (hu:X.A.units+64 < cLine):OpR X (compareOp .In) (rInD X.K false):=by
 intro pins s σ H x y v u Q I rx ry h
 obtain ⟨d,ds,h1,h2,h3,h4,h5,q⟩:=h
 obtain ⟨as,r1⟩:=h1.reads I rx
 rcases h2 with h2 | h2
 · obtain ⟨bs,r2⟩:=h2.reads I ry
   exact SeqAt.in_list_reads r2 r1 h3 h4 (by omega) ⟨.bl _,H,I,rfl,q⟩
 · obtain ⟨bs,r2⟩:=h2.reads I ry
   exact SeqAt.in_tuple_reads r2 r1 h3 h4 (by omega) ⟨.bl _,H,I,rfl,q⟩
theorem tm (hu:X.A.units+64 < cLine):OpR X (compareOp .NotIn) (rInD X.K true):=by
 intro pins s σ H x y v u Q I rx ry h
 obtain ⟨d,ds,h1,h2,h3,h4,h5,q⟩:=h
 obtain ⟨as,r1⟩:=h1.reads I rx
 rcases h2 with h2 | h2
 · obtain ⟨bs,r2⟩:=h2.reads I ry
   exact SeqAt.notIn_list_reads r2 r1 h3 h4 (by omega) ⟨.bl _,H,I,rfl,q⟩
 · obtain ⟨bs,r2⟩:=h2.reads I ry
   exact SeqAt.notIn_tuple_reads r2 r1 h3 h4 (by omega) ⟨.bl _,H,I,rfl,q⟩
theorem j2 (hu:X.A.units+64 < cLine):OpR X (compareOp .In) (cIn X.K false):=by
 intro pins s σ H x y v u Q I rx ry h
 unfold cIn at h
 split at h
 · exact wj hu pins s σ H _ _ v u Q I rx ry h
 · rename_i p hx
   split at h
   · rename_i kvs e
     obtain ⟨k,ek,q⟩:=aO h
     cases (show u=Value.ref p from ry)
     have g:DGet H p x (valV kvs k):=by rw [lg ek]; exact DGet.k (lX e)
     exact xg (Nat.lt_of_le_of_lt (Nat.add_le_add_left (by decide:1≤64) _) hu) I g rx fun s' I'=>⟨.bl _,H,I',rfl,q⟩
   · obtain ⟨xs,e,f1,f2,q⟩:=aO h
     exact oi pins s σ H _ _ v u Q I rx ry ⟨p,xs,rfl,jd e,f1,f2,q⟩
 · exact sJ pins s σ H _ _ v u Q I rx ry ⟨_,_,rfl,rfl,h⟩
 · exact h.elim
theorem oo (hu:X.A.units+64 < cLine):OpR X (compareOp .NotIn) (cIn X.K true):=by
 intro pins s σ H x y v u Q I rx ry h
 unfold cIn at h
 split at h
 · exact tm hu pins s σ H _ _ v u Q I rx ry h
 · rename_i p hx
   split at h
   · rename_i kvs e
     obtain ⟨k,ek,q⟩:=aO h
     cases (show u=Value.ref p from ry)
     have g:DGet H p x (valV kvs k):=by rw [lg ek]; exact DGet.k (lX e)
     exact vm (Nat.lt_of_le_of_lt (Nat.add_le_add_left (by decide:1≤64) _) hu) I g rx fun s' I'=>⟨.bl _,H,I',rfl,q⟩
   · obtain ⟨xs,e,f1,f2,q⟩:=aO h
     exact jW pins s σ H _ _ v u Q I rx ry ⟨p,xs,rfl,jd e,f1,f2,q⟩
 · exact pH pins s σ H _ _ v u Q I rx ry ⟨_,_,rfl,rfl,h⟩
 · exact h.elim
end
end L2
namespace L2
open PySem PySem.Spec PyProof.Rows
section
variable {X:Cx} {a b c:Expr} {ta tb tc:TE} {pos:Pos}
theorem aP (hu:X.A.units+64 < cLine):IxR X cIx:=by
 intro value slice pins s σ H x y v u Q I rx ry h hs
 cases x with
 | ref p=>
  unfold cIx at h
  dsimp only at h
  split at h
  · rename_i kvs e
    obtain ⟨k,ek,h⟩:=aO h
    obtain ⟨z,ez,q⟩:=aO h
    cases (show v=Value.ref p from rx)
    have g:DGet H p y (some z):=by rw [lg ek,← ez]; exact DGet.k (lX e)
    exact tail_any (qK I g) PySem.F.slot_dict_getitem.lookup (sV (Nat.lt_of_le_of_lt (Nat.add_le_add_left (by decide:1≤64) _) hu) I g ry fun w' s3 I3 rw'=>⟨z,H,I3,rw',q⟩) hs
  · split at h
    · obtain ⟨xs,e,h⟩:=aO h
      obtain ⟨z,ez,q⟩:=aO h
      rcases jd (K:=X.K) e with r | r
      · exact nc value slice pins s σ H _ _ v u Q I rx ry ⟨p,xs,_,z,rfl,rfl,r,ez,q⟩ hs
      · exact v6 value slice pins s σ H _ _ v u Q I rx ry ⟨p,xs,_,z,rfl,rfl,r,ez,q⟩ hs
    · exact h.elim
 | str zz=>
  cases y with
  | int i=>
   obtain ⟨hz,h⟩:=(show zz.length≤sizeLine∧bnd (atI zz.cps.toList i) fun c=>Q (.str ⟨#[c]⟩) H from h)
   obtain ⟨z,ez,q⟩:=aO h
   exact v7 value slice pins s σ H _ _ v u Q I rx ry ⟨_,_,z,rfl,rfl,hz,ez,q⟩ hs
  | _=>exact False.elim h
 | _=>exact False.elim h
def kLen:List V→Hp→VK→Prop
 | [.ref p],H,Q=>(match unD (H p) with
  | some kvs=>Q (.int kvs.length) H
  | none=>bnd (unS (H p)) fun xs=>Q (.int xs.length) H)
 | [.str z],H,Q=>z.length≤sizeLine∧Q (.int z.length) H
 | _,_,_=>False
theorem bg:CallR X (.builtin "len") kLen:=by
 intro pins s σ H xs us Q I r h
 unfold kLen at h
 split at h
 · split at h
   · rename_i kvs e
     exact sW pins s σ H _ us Q I r ⟨_,kvs,rfl,lX e,h⟩
   · obtain ⟨ys,e,q⟩:=aO h
     exact fb pins s σ H _ us Q I r ⟨_,ys,rfl,jd e,q⟩
 · exact pI pins s σ H _ us Q I r ⟨_,rfl,h.1,h.2⟩
 · exact h.elim
def kAbs:List V→Hp→VK→Prop
 | [.int i],H,Q=>Q (.int (if i < 0 then -i else i)) H
 | _,_,_=>False
def kMin:List V→Hp→VK→Prop
 | [.int i,.int j],H,Q=>Q (.int (if j < i then j else i)) H
 | _,_,_=>False
theorem oq (hc:X.calm=true):CallR X (.builtin "min") kMin:=by
 intro pins s σ H xs us Q I r h
 unfold kMin at h
 split at h
 · exact sM hc pins s σ H _ us Q I r ⟨_,_,rfl,h⟩
 · exact h.elim
def kMax:List V→Hp→VK→Prop
 | [.int i,.int j],H,Q=>Q (.int (if j > i then j else i)) H
 | _,_,_=>False
theorem tq (hc:X.calm=true):CallR X (.builtin "max") kMax:=by
 intro pins s σ H xs us Q I r h
 unfold kMax at h
 split at h
 · exact sL hc pins s σ H _ us Q I r ⟨_,_,rfl,h⟩
 · exact h.elim
def kList:List V→Hp→VK→Prop
 | [.ref p],H,Q=>bnd (unS (H p)) fun ys=>∀ l,H l=none→Q (.ref l) (upd H l (.lst ys))
 | _,_,_=>False
theorem lY:CallR X (.type "list") kList:=by
 intro pins s σ H xs us Q I r h
 unfold kList at h
 split at h
 · obtain ⟨ys,e,q⟩:=aO h
   exact pJ pins s σ H _ us Q I r ⟨_,ys,rfl,jd e,q⟩
 · exact h.elim
def kH:List V→Hp→VK→Prop
 | [.ref p],H,Q=>bnd (unL (H p)) fun ys=>∃ ns:List Int,ys=ns.map V.int∧ns.length < 64∧∀ (ns':List Int) l,H l=none→ns'.Perm ns→ns'.Pairwise (· ≤·)→Q (.ref l) (upd H l (.lst (ns'.map V.int)))
 | _,_,_=>False
theorem pQ:CallR X (.builtin "sorted") kH:=by
 intro pins s σ H xs us Q I r h
 unfold kH at h
 split at h
 · rename_i p
   obtain ⟨ys,e,ns,rfl,hlen,q⟩:=aO h
   obtain ⟨u,rfl,ru⟩:=cC r
   cases ru
   obtain ⟨its,rv,pl,hz⟩:=I.list (jY e)
   have hI:IntsAre its ns:=lU rv
   have hl:=rv.length
   rw [List.length_map] at hl
   refine sorted_ints pl.isList hI (by omega) fun out ns' hI' hp hs=>?_
   have old:∀ b o,s.heap.get? b=some o→(sortedAll s.heap its out).get? b=some o:=fun b o e=>sortedAll_old e
   obtain ⟨n,at_⟩:=sortedAll_at s.heap its out
   have hfresh:H (s.heap.objs.size+1)=none:=I.hok.fresh (Nat.le_succ _)
   have hlen':(ns'.map V.int).length≤sizeLine:=by
    rw [List.length_map,hp.length_eq]
    exact Nat.le_of_lt (Nat.lt_trans hlen (by decide))
   refine ⟨.ref (s.heap.objs.size+1),_,I.laid (t':=s.toks) (a:=s.heap.objs.size+1) (o:=.lst (ns'.map V.int)) old (Nat.le_succ _) ⟨hlen',out.toList,n,jX hI',?_⟩,rfl,q ns' _ hfresh hp hs⟩
   rw [at_]
 · exact h.elim
def g4 (H:Hp):V→Option String
 | .non=>some "NoneType"
 | .bl _=>some "bool"
 | .int _=>some "int"
 | .str _=>some "str"
 | .ref p=>match H p with
  | some (.lst _)=>some "list"
  | some (.frz _ (.lst _))=>some "list"
  | some (.tup _)=>some "tuple"
  | some (.dK _)=>some "dict"
  | _=>none
 | _=>none
def isTy (t n:String):Bool:=t==n||(t=="bool"&&n=="int")
def kI (n:String):Bool:=["int","bool","str","list","tuple","dict"].contains n
theorem tu {K:PySem.W.Frag} {H:Hp} {x:V} {t:String} (h:g4 H x=some t):TyOf K H x (.type t)∧["NoneType","int","bool","str","list","tuple","dict"].contains t=true:=by
 cases x with
 | non=>cases h; exact ⟨.non,by decide⟩
 | bl b=>cases h; exact ⟨.bl b,by decide⟩
 | int i=>cases h; exact ⟨.int i,by decide⟩
 | str i=>cases h; exact ⟨.str i,by decide⟩
 | byt _=>cases h
 | flt _=>cases h
 | ty _=>cases h
 | ref p=>
  unfold g4 at h
  dsimp only at h
  split at h
  · rename_i e; cases h; exact ⟨.lst e,by decide⟩
  · rename_i e; cases h; exact ⟨.frz e,by decide⟩
  · rename_i e; cases h; exact ⟨.tup e,by decide⟩
  · rename_i e; cases h; exact ⟨.dK e,by decide⟩
  · cases h
theorem wk (K:PySem.W.Frag):∀ t∈["NoneType","int","bool","str","list","tuple","dict"],∀ n∈["int","bool","str","list","tuple","dict"],PySem.W.kitOne K (.type t) (.type n)=some (isTy t n):=by
 intro t ht n hn
 simp only [List.mem_cons,List.not_mem_nil,or_false] at ht hn
 rcases ht with rfl | rfl | rfl | rfl | rfl | rfl | rfl <;> rcases hn with rfl | rfl | rfl | rfl | rfl | rfl <;> rfl
def kIsi:List V→Hp→VK→Prop
 | [x,.ty n],H,Q=>kI n=true∧bnd (g4 H x) fun t=>Q (.bl (isTy t n)) H
 | _,_,_=>False
theorem gi:CallR X (.builtin "isinstance") kIsi:=by
 intro pins s σ H xs us Q I r h
 unfold kIsi at h
 split at h
 · obtain ⟨hn,h⟩:=h
   obtain ⟨t,et,q⟩:=aO h
   obtain ⟨u,w,rfl,ru,rw'⟩:=lS r
   cases rw'
   obtain ⟨ty,ht⟩:=tu (K:=X.K) et
   exact sQ I ru ty (wk X.K t (by simpa using ht) _ (by simpa [kI] using hn)) fun tk=>⟨.bl _,H,I.tok tk,rfl,q⟩
 · exact h.elim
def bO:V→List V→Hp→VK→Prop
 | .ref l,[y],H,Q=>bnd (unM (H l)) fun xs=>xs.length < sizeLine∧Q .non (upd H l (.lst (xs++[y])))
 | _,_,_,_=>False
theorem b4:MtR X "list.append" bO:=by
 intro pins s σ H x vs v us Q I rx rv h
 unfold bO at h
 split at h
 · obtain ⟨xs,e,h1,q⟩:=aO h
   exact om pins s σ H _ _ v us Q I rx rv ⟨_,xs,_,rfl,rfl,fc e,h1,q⟩
 · exact h.elim
def kJ:V→List V→Hp→VK→Prop
 | .ref l,[.ref b],H,Q=>bnd (unM (H l)) fun xs=>bnd (unM (H b)) fun zs=>xs.length+zs.length≤sizeLine∧Q .non (upd H l (.lst (xs++zs)))
 | _,_,_,_=>False
theorem rQ:MtR X "list.extend" kJ:=by
 intro pins s σ H x vs v us Q I rx rv h
 unfold kJ at h
 split at h
 · obtain ⟨xs,e,h⟩:=aO h
   obtain ⟨zs,e2,h1,q⟩:=aO h
   exact sU pins s σ H _ _ v us Q I rx rv ⟨_,_,xs,zs,rfl,rfl,fc e,fc e2,h1,q⟩
 · exact h.elim
theorem eE {K:PySem.W.Frag} {H:Hp} {p:Addr} {xs:List V} (h:H p=some (.lst xs)):tyV K "list" (.ref p) H:=.inl ⟨rfl,_,SqL.of h⟩
def cSl:V→Option Int→Option Int→Hp→VK→Prop
 | .ref p,lo,hi,H,Q=>bnd (unL (H p)) fun xs=>∀ l,H l=none→Q (.ref l) (upd H l (.lst (cutV xs lo hi)))
 | _,_,_,_,_=>False
theorem xh:SlR X cSl:=by
 intro pins s σ H x v vl vu lo hi sl Q I rx hs pl pu h
 unfold cSl at h
 split at h
 · obtain ⟨xs,e,q⟩:=aO h
   exact vg pins s σ H _ v vl vu lo hi sl Q I rx hs pl pu ⟨_,xs,rfl,jY e,q⟩
 · exact h.elim
end
structure Cal (P:Program) (w:World) (K:PySem.W.Frag) (mg:Str→Option Value) (base:Heap) (k:Nat) (x:Str) (ps:List Str) (sp:Sp):Prop where
 ex:∃ (f:Addr) (fd:FuncData),FnOk P w K mg base CX0 k f fd ps sp∧mg x=some (.ref f)∧PySem.W.keepIn K (.ref f)=true∧Binds K fd ps []
theorem ay {X:Cx} {k n:Nat} {x:Str} {ps:List Str} {sp:Sp} {p pos:Pos} {e:Expr} {es:List Expr} {t:TA} (C:Cal X.prog X.w X.K X.mg X.base k x ps sp) (hr:Room n X.A) (hk:k≤n) (hg:Gl X x) (ha:PA X (e::es) t)
  (hdb:(x==("__debug__":Str))=false:=by decide) (he:starEach (e::es) X.env=(false,eval e X.env)::starEach es X.env:=by rfl) (hpl:(backTo pos (starEach es X.env)).any (·.1)=false:=by rfl):
  PE X (.Call (.Name x p) (e::es) [] pos) (tCall sp [] E0 t):=by
 obtain ⟨f,fd,F,hm,hkp,hb⟩:=C.ex
 exact rf F (hr.mono hk) hg hm hkp hb .nil pq ha hdb he hpl
end L2
namespace L2
open PySem PySem.Spec PyProof.Rows
theorem bG:bootBuiltins "len"=some (.builtin "len"):=by decide+kernel
theorem tw:bootBuiltins "min"=some (.builtin "min"):=by decide+kernel
theorem wl:bootBuiltins "max"=some (.builtin "max"):=by decide+kernel
theorem tz:bootBuiltins "sorted"=some (.builtin "sorted"):=by decide+kernel
theorem tD:bootBuiltins "any"=some (.builtin "any"):=by decide+kernel
theorem aA:bootBuiltins "isinstance"=some (.builtin "isinstance"):=by decide+kernel
theorem jf:bootBuiltins "list"=some (.type "list"):=by decide+kernel
theorem tE:bootBuiltins "int"=some (.type "int"):=by decide+kernel
theorem vn:bootBuiltins "bool"=some (.type "bool"):=by decide+kernel
theorem tF:bootBuiltins "str"=some (.type "str"):=by decide+kernel
theorem lh:bootBuiltins "tuple"=some (.type "tuple"):=by decide+kernel
def compN (scope:Scope):List Str:=(scope.names.filter fun p=>p.2==.local||p.2==.cell||p.2==.free).map (·.1)
def lZ (N:List Str) (scope:Scope):List (Option Nat):=(compN scope).map fun x=>if scope.names.lookup x==some .free then N.findIdx? (· ==x) else none
def isCF:Option NameKind→Bool
 | some .cell=>true
 | some .free=>true
 | _=>false
theorem wm {X:Cx} {scope:Scope} (h1:scope.kind=.function) (h2:(scope.names.map (·.1)).Nodup) (h3:(scope.names.all fun p=>p.2 != .free||isCF (X.env.kindOf p.1))=true):BlkOk X (compN scope) (lZ X.N scope) scope where
 kind:=h1
 nd:=h2.sublist (List.Sublist.map _ (List.filter_sublist ..))
 len:=by unfold lZ; rw [List.length_map]
 names:=h2
 free:=fun x hx=>by
  have:=List.all_eq_true.mp h3 (x,.free) hx
  simp only [bne_self_eq_false,Bool.false_or] at this
  unfold isCF at this
  split at this
  · rename_i e; exact .inl e
  · rename_i e; exact .inr e
  · cases this
 at_:=fun j i x e1 e2=>by
  unfold lZ at e2
  rw [List.getElem?_map,e1] at e2
  simp only [Option.map_some,Option.some.injEq] at e2
  split at e2
  · rename_i hf
    obtain ⟨hlt,hp,_⟩:=List.findIdx?_eq_some_iff_getElem.mp e2
    have hx:X.N[i]? =some x:=by
     rw [List.getElem?_eq_getElem hlt]
     have:X.N[i]=x:=by simpa using hp
     rw [this]
    refine ⟨hx,PySem.mem_of_lookup (by simpa using hf)⟩
  · cases e2
end L2
namespace L2
open PySem PySem.Spec PyProof.Rows
section
variable {t u:TS} {D:Ends} {σ:St} {H:Hp} {Q:VK} {ta tb:TE} {R:Bool→Hp→Prop} {c d:TT}
theorem bd:tSeq t u D σ H=t { D with nx:=u D } σ H:=rfl
theorem fg:tNext D σ H=D.nx σ H:=rfl
theorem iy {g:TG}:tAsg ta g D σ H=ta σ H fun x H1=>g x σ H1 D.nx:=rfl
theorem bh {i:Nat} {v:V} {k:St→Hp→Prop}:gName i v σ H k=k (σ.set i (some v)) H:=rfl
theorem gH {i:Nat}:tVar i σ H Q=∃ v,σ[i]? =some (some v)∧Q v H:=rfl
theorem w_c {v:V}:tC v σ H Q=Q v H:=rfl
theorem j3 {r:R2}:tOp r ta tb σ H Q=ta σ H fun x H1=>tb σ H1 fun y H2=>r x y H2 Q:=rfl
theorem gb:tRet ta D σ H=ta σ H D.rt:=rfl
theorem gj:tRetN D σ H=D.rt .non H:=rfl
theorem fh:tDrop ta D σ H=ta σ H fun _ H1=>D.nx σ H1:=rfl
theorem aT:tIfS c t u D σ H=c σ H fun b H1=>if b=true then t D σ H1 else u D σ H1:=rfl
theorem gk:tTest ta σ H R=ta σ H fun x H'=>∃ k,x=.bl k∧R k H':=rfl
theorem w_b:tB ta σ H R=ta σ H fun x H'=>∃ k,x=.bl k∧R k H':=rfl
theorem w_not:tNot c σ H R=c σ H fun k H1=>R (!k) H1:=rfl
theorem iz:tAnd c d σ H R=c σ H fun k H1=>if k=true then d σ H1 R else R false H1:=rfl
theorem j4:tOr c d σ H R=c σ H fun k H1=>if k=true then R true H1 else d σ H1 R:=rfl
theorem gl:tNotV ta σ H Q=ta σ H fun x H1=>∃ c,x=.bl c∧Q (.bl (!c)) H1:=rfl
theorem gm:tAndV ta tb σ H Q=ta σ H fun x H1=>∃ c,x=.bl c∧if c=true then tb σ H1 Q else Q (.bl false) H1:=rfl
theorem iA:tOrV ta tb σ H Q=ta σ H fun x H1=>∃ c,x=.bl c∧if c=true then Q (.bl true) H1 else tb σ H1 Q:=rfl
theorem gI {k:List V→Hp→Prop}:tNil σ H k=k [] H:=rfl
theorem dj {tr:TA} {k:List V→Hp→Prop}:tCons ta tr σ H k=ta σ H fun x H1=>tr σ H1 fun xs H2=>k (x::xs) H2:=rfl
theorem j5 {r:List V→Hp→VK→Prop} {tr:TA}:tCB r tr σ H Q=tr σ H fun vs H1=>r vs H1 Q:=rfl
theorem gn {sp:Sp} {dvs:List V} {E:XK} {tr:TA}:tCall sp dvs E tr σ H Q=tr σ H fun vs H1=>sp (vs++dvs) H1 Q E:=rfl
theorem iB {tr:TA}:tTup tr σ H Q=tr σ H fun xs H1=>xs.length≤sizeLine∧∀ p,H1 p=none→Q (.ref p) (upd H1 p (.tup xs)):=rfl
theorem iC {tr:TA}:tLst tr σ H Q=tr σ H fun xs H1=>xs.length≤sizeLine∧∀ p,H1 p=none→Q (.ref p) (upd H1 p (.lst xs)):=rfl
theorem jv {K:PySem.W.Frag} {T:String} {r:V→List V→Hp→VK→Prop} {tr:TA}:tBM K T r ta tr σ H Q=ta σ H fun x H1=>tyV K T x H1∧tr σ H1 fun xs H2=>r x xs H2 Q:=rfl
theorem iD {K:PySem.W.Frag} {T:String} {r:V→List V→Hp→VK→Prop}:xf K T r ta σ H Q=ta σ H fun x H1=>tyV K T x H1∧r x [] H1 Q:=rfl
theorem dk:tTrue σ H R=R true H:=rfl
theorem gp:we σ H Q=∀ p,H p=none→Q (.ref p) (upd H p (.dK [])):=rfl
theorem gq {td ty tv:TE}:sDPut td ty tv D σ H=tv σ H fun v H1=>td σ H1 fun x H2=>ty σ H2 fun y H3=>∃ a H4,x=.ref a∧DPut H3 a y v H4∧D.nx σ H4:=rfl
theorem iE {i j:Int}:cAdd (.int i) (.int j) H Q=Q (.int (i+j)) H:=rfl
theorem iF {i j:Int}:cSub (.int i) (.int j) H Q=Q (.int (i - j)) H:=rfl
theorem iG {i j:Int}:cMul (.int i) (.int j) H Q=(CMul i j∧Q (.int (i*j)) H):=rfl
theorem iH {i j:Int}:cDiv (.int i) (.int j) H Q=(CDiv i j∧Q (.int (i / j)) H):=rfl
theorem iI {i j:Int}:cMod (.int i) (.int j) H Q=(0 < j∧Q (.int (i % j)) H):=rfl
theorem iJ {g:Int→Int→Bool} {i j:Int}:cCmp g (.int i) (.int j) H Q=Q (.bl (g i j)) H:=rfl
theorem iK {K:PySem.W.Frag} {i j:Int}:cEq K (.int i) (.int j) H Q=Q (.bl (decide (i=j))) H:=rfl
theorem iL {K:PySem.W.Frag} {i j:Int}:cNe K (.int i) (.int j) H Q=Q (.bl (!decide (i=j))) H:=rfl
theorem iM {K:PySem.W.Frag} {i j:Bool}:cEq K (.bl i) (.bl j) H Q=Q (.bl (decide (i=j))) H:=rfl
theorem iN {K:PySem.W.Frag} {i j:Bool}:cNe K (.bl i) (.bl j) H Q=Q (.bl (!decide (i=j))) H:=rfl
theorem eF {p:Addr} {i:Int} {xs:List V} (h:H p=some (.tup xs)):cIx (.ref p) (.int i) H Q=bnd (atI xs i) fun v=>Q v H:=by
 unfold cIx; dsimp only; rw [h]; rfl
theorem uW {p:Addr} {i:Int} {xs:List V} (h:H p=some (.lst xs)):cIx (.ref p) (.int i) H Q=bnd (atI xs i) fun v=>Q v H:=by
 unfold cIx; dsimp only; rw [h]; rfl
theorem iO {i:Int}:kAbs [.int i] H Q=Q (.int (if i < 0 then -i else i)) H:=rfl
theorem iP {i j:Int}:kMin [.int i,.int j] H Q=Q (.int (if j < i then j else i)) H:=rfl
theorem fi {p:Addr} {xs:List V} (h:H p=some (.lst xs)):kLen [.ref p] H Q=Q (.int xs.length) H:=by
 unfold kLen; dsimp only; rw [h]; rfl
theorem wn {p:Addr} {xs:List V} (h:H p=some (.tup xs)):kLen [.ref p] H Q=Q (.int xs.length) H:=by
 unfold kLen; dsimp only; rw [h]; rfl
theorem g5 {p:Addr} {xs:List V} {y:V} (h:H p=some (.lst xs)):bO (.ref p) [y] H Q=(xs.length < sizeLine∧Q .non (upd H p (.lst (xs++[y])))):=by
 unfold bO; dsimp only; rw [h]; rfl
theorem j6:∀ ns:List Int,(ns.map V.int).all flatV=true
 | []=>rfl
 | n::r=>by rw [List.map_cons,List.all_cons,j6 r]; rfl
theorem li (i:Int):∀ ns:List Int,inV (.int i) (ns.map V.int)=decide (i∈ns)
 | []=>by simp [inV]
 | n::r=>by
  have ih:=li i r
  unfold inV at ih ⊢
  rw [List.map_cons,List.any_cons,ih]
  show ((n==i)||decide (i∈r))=decide (i∈n::r)
  rw [Bool.eq_iff_iff,Bool.or_eq_true,beq_iff_eq,decide_eq_true_eq,decide_eq_true_eq,List.mem_cons]
  exact ⟨fun h=>h.elim (fun e=>.inl e.symm) .inr,fun h=>h.elim (fun e=>.inl e.symm) .inr⟩
theorem rR {K:PySem.W.Frag} {p:Addr} {i:Int} {ns:List Int} (h:H p=some (.lst (ns.map V.int))):cIn K false (.int i) (.ref p) H Q=Q (.bl (decide (i∈ns))) H:=by
 unfold cIn; dsimp only; rw [h]; dsimp only [unD,unS,bnd]
 rw [li,j6]
 simp [flatV]
theorem uX {K:PySem.W.Frag} {p:Addr} {i:Int} {ns:List Int} (h:H p=some (.lst (ns.map V.int))):cIn K true (.int i) (.ref p) H Q=Q (.bl (!decide (i∈ns))) H:=by
 unfold cIn; dsimp only; rw [h]; dsimp only [unD,unS,bnd]
 rw [li,j6]
 simp [flatV]
end
def LoopR (J:It) (g:TG) (tb:TS) (D:Ends) (σ:St) (H1:Hp):Prop:=∃ W:Nat→Nat→St→Hp→Prop,(∃ m,W 0 m σ H1)∧∀ i m σ H,W i m σ H→
 (J.stop i H∧D.nx σ H)∨(J.go i H∧∃ N:St→Hp→Prop,(∀ σ' H',N σ' H'→∃ m',m' < m∧W (i+1) m' σ' H')∧∀ x H',J.yld i H x H'→g x σ H' fun σ2 H2=>tb { D with nx:=N,ct:=N,bk:=D.nx } σ2 H2)
def CompR (J:It) (g:TG) (tt:TT) (te:TE) (fin:Addr→Hp→Prop) (σ0:St) (H1:Hp):Prop:=∀ l,H1 l=none→
 ∃ W:Nat→Nat→St→Hp→Prop,(∃ m,W 0 m σ0 (upd H1 l (.lst [])))∧∀ i m σ' H',W i m σ' H'→
  (J.stop i H'∧fin l H')∨(J.go i H'∧∃ N:St→Hp→Prop,(∀ σ'' H'',N σ'' H''→∃ m',m' < m∧W (i+1) m' σ'' H'')∧∀ x H2,J.yld i H' x H2→g x σ' H2 fun σ2 H3=>tt σ2 H3 fun b H4=>
   if b=true then te σ2 H4 fun y H5=>∃ ys,H5 l=some (.lst ys)∧ys.length < sizeLine∧N σ2 (upd H5 l (.lst (ys++[y]))) else N σ2 H4)
section
variable {K:PySem.W.Frag} {g:TG} {tb:TS} {D:Ends} {σ:St} {H:Hp} {tl:TE} {ta:TA} {ix:List (Option Nat)} {tt:TT} {te:TE} {k:Nat} {Q:VK}
theorem gr:tFor (iList K tl) g tb D σ H=tl σ H fun x H1=>∃ a,x=.ref a∧(∃ xs,SqL K H1 a xs)∧LoopR (Itl K a) g tb D σ H1:=rfl
theorem eP:tFor (fZ ta) g tb D σ H=ta σ H fun vs H1=>∃ j:Int,vs=[.int j]∧ -(2^62)≤j∧j < 2^62∧LoopR (Itr 0 j.toNat) g tb D σ H1:=rfl
theorem eQ:tFor (rF ta) g tb D σ H=ta σ H fun vs H1=>∃ i j:Int,vs=[.int i,.int j]∧(-(2^62)≤i∧i < 2^62∧ -(2^62)≤j∧j < 2^62)∧LoopR (Itr i (j - i).toNat) g tb D σ H1:=rfl
theorem eV:tComp ix (iList K tl) g tt te σ H Q=tl σ H fun x H1=>∃ a,x=.ref a∧(∃ xs,SqL K H1 a xs)∧CompR (Itl K a) g tt te (fun l H'=>Q (.ref l) H') (subσ ix σ) H1:=rfl
theorem dl:tComp ix (fZ ta) g tt te σ H Q=ta σ H fun vs H1=>∃ j:Int,vs=[.int j]∧ -(2^62)≤j∧j < 2^62∧CompR (Itr 0 j.toNat) g tt te (fun l H'=>Q (.ref l) H') (subσ ix σ) H1:=rfl
theorem dm:sComp k ix (iList K tl) g tt te D σ H=tl σ H fun x H1=>∃ a,x=.ref a∧(∃ xs,SqL K H1 a xs)∧CompR (Itl K a) g tt te (fun l H'=>D.nx (σ.set k (some (.ref l))) H') (subσ ix σ) H1:=rfl
theorem cA:sComp k ix (fZ ta) g tt te D σ H=ta σ H fun vs H1=>∃ j:Int,vs=[.int j]∧ -(2^62)≤j∧j < 2^62∧CompR (Itr 0 j.toNat) g tt te (fun l H'=>D.nx (σ.set k (some (.ref l))) H') (subσ ix σ) H1:=rfl
theorem jw {lo:Int} {n:Nat} {fin:Addr→Hp→Prop} {σ0:St} {H1:Hp} (Pv:Addr→Nat→St→Hp→Prop) (h0:∀ l,H1 l=none→Pv l 0 σ0 (upd H1 l (.lst [])))
  (hs:∀ l i σ H,H1 l=none→i < n→Pv l i σ H→g (.int (lo+i)) σ H fun σ2 H3=>tt σ2 H3 fun b H4=>if b=true then te σ2 H4 fun y H5=>∃ ys,H5 l=some (.lst ys)∧ys.length < sizeLine∧Pv l (i+1) σ2 (upd H5 l (.lst (ys++[y]))) else Pv l (i+1) σ2 H4)
  (hd:∀ l σ H,H1 l=none→Pv l n σ H→fin l H):CompR (Itr lo n) g tt te fin σ0 H1:=by
 intro l hl0
 refine ⟨fun i m σ H=>m=n - i∧i≤n∧Pv l i σ H,⟨n,by simp,Nat.zero_le _,h0 l hl0⟩,?_⟩
 rintro i m σ H ⟨rfl,hi,p⟩
 by_cases hlt:i < n
 · refine .inr ⟨hlt,Pv l (i+1),fun σ' H' p'=>⟨n - (i+1),by omega,rfl,hlt,p'⟩,fun x H' y=>?_⟩
   obtain ⟨e,y⟩:=y
   subst e y
   exact hs l i σ _ hl0 hlt p
 · have e:i=n:=by omega
   subst e
   exact .inl ⟨Nat.le_refl _,hd l σ H hl0 p⟩
theorem j7 {a:Addr} {xs:List V} {fin:Addr→Hp→Prop} {σ0:St} {H1:Hp} (Pv:Addr→Nat→St→Hp→Prop) (h0:∀ l,H1 l=none→Pv l 0 σ0 (upd H1 l (.lst []))) (hq:∀ l i σ H,H1 l=none→i≤xs.length→Pv l i σ H→SqL K H a xs)
  (hs:∀ l i x σ H,H1 l=none→xs[i]? =some x→Pv l i σ H→g x σ H fun σ2 H3=>tt σ2 H3 fun b H4=>if b=true then te σ2 H4 fun y H5=>∃ ys,H5 l=some (.lst ys)∧ys.length < sizeLine∧Pv l (i+1) σ2 (upd H5 l (.lst (ys++[y]))) else Pv l (i+1) σ2 H4)
  (hd:∀ l σ H,H1 l=none→Pv l xs.length σ H→fin l H):CompR (Itl K a) g tt te fin σ0 H1:=by
 intro l hl0
 refine ⟨fun i m σ H=>m=xs.length - i∧i≤xs.length∧Pv l i σ H,⟨xs.length,by simp,Nat.zero_le _,h0 l hl0⟩,?_⟩
 rintro i m σ H ⟨rfl,hi,p⟩
 have q:=hq l i σ H hl0 hi p
 by_cases hlt:i < xs.length
 · refine .inr ⟨⟨xs,xs[i],q,by simp [hlt]⟩,Pv l (i+1),fun σ' H' p'=>⟨xs.length - (i+1),by omega,rfl,hlt,p'⟩,fun x H' y=>?_⟩
   obtain ⟨e,y⟩:=y
   subst e
   exact hs l i x σ _ hl0 (y xs q) p
 · have e:i=xs.length:=by omega
   subst e
   exact .inl ⟨⟨xs,q,Nat.le_refl _⟩,hd l σ H hl0 p⟩
theorem rS {p q:Addr} {xs ys:List Int} (hp:H p=some (.lst (xs.map V.int))) (hq:H q=some (.lst (ys.map V.int))) (h:Q (.bl (decide (xs=ys))) H):cEq K (.ref p) (.ref q) H Q:=by
 show rEqD K (.ref p) (.ref q) H Q
 refine ⟨.list (xs.map PyData.int),.list (ys.map PyData.int),.lst (SqL.of hp) (.ints xs),.lst (SqL.of hq) (.ints ys),k4 xs,k4 ys,?_⟩
 rw [PyData.eqv,pP]
 exact h
theorem tG {p:Addr} {xs:List V} (hp:H p=some (.lst xs)) (h:∀ l,H l=none→Q (.ref l) (upd H l (.lst xs))):kList [.ref p] H Q:=by
 unfold kList
 dsimp only
 rw [hp]
 exact h
end
theorem aX {X:Cx} {N:List Str} {ix:List (Option Nat)} {scope:Scope} (h1:scope.kind=.function) (h2:(scope.names.map (·.1)).Nodup) (h3:(scope.names.all fun p=>p.2 != .free||isCF (X.env.kindOf p.1))=true) (h4:N=compN scope) (h5:ix=lZ X.N scope):BlkOk X N ix scope:=by
 subst h4 h5
 exact wm h1 h2 h3
def kLenS (K:PySem.W.Frag):List V→Hp→VK→Prop:=fun xs H Q=>∃ p ys,xs=[.ref p]∧(SqL K H p ys∨SqT K H p ys)∧Q (.int ys.length) H
structure Bt (mg:Str→Option Value):Prop where
 len_:mg "len"=none
 abs_:mg "abs"=none
 min_:mg "min"=none
 max_:mg "max"=none
 sorted_:mg "sorted"=none
 any_:mg "any"=none
 isinstance_:mg "isinstance"=none
 list_:mg "list"=none
 int_:mg "int"=none
 bool_:mg "bool"=none
 str_:mg "str"=none
 tuple_:mg "tuple"=none
 reversed_:mg "reversed"=none
 set_:mg "set"=none
 range_:mg "range"=none
 zip_:mg "zip"=none
end L2
namespace L2
open PySem PySem.Spec PyProof.Rows
theorem Vals.get':∀ {xs:List V} {us:List Value} {i:Nat} {u:Value},Vals xs us→us[i]? =some u→∃ x,xs[i]? =some x∧RelV x u
 | _,_,_,_,.nil,h=>by simp at h
 | _,_,0,_,.cons r _,h=>by simp at h; subst h; exact ⟨_,rfl,r⟩
 | _,_,i+1,_,.cons _ t,h=>by
  obtain ⟨x,hx,r⟩:=Vals.get' (i:=i) t (by simpa using h)
  exact ⟨x,by simpa using hx,r⟩
section
variable {X:Cx} {pins:List (Addr × Obj)} {σ:St} {H:Hp} {s s':Shared}
theorem Inv.kept' (I:Inv X pins σ H s) (k:∀ b u,s.heap.get? b=some u→s'.heap.get? b=some u) (ho:s'.os=s.os) (hg:AllBare s'.gens):Inv X pins σ H s':=
 I.call' (ch:=[]) ho (Un.kept k) (I.hok.kept k) hg fun b z=>absurd z (by simp)
theorem Inv.walked {l:Addr} {o:Obj} (I:Inv X pins σ H s) (hm:Moved [s.heap.objs.size] (fun a b=>b=a) { s with heap:=s.heap.push o } s'):Inv X pins σ H s':=by
 refine I.kept' (fun b u e=>hm.heap b u (fun z=>?_) (Heap.get?_push_of_some _ e)) hm.os (by rw [show s'.gens=s.gens from hm.gens]; exact I.bare)
 have:b=s.heap.objs.size:=by simpa using z
 exact absurd (Heap.lt_size e) (by rw [this]; exact Nat.lt_irrefl _)
def kAny:List V→Hp→VK→Prop
 | [.ref p],H,Q=>bnd (unL (H p)) fun ys=>∃ bs:List Bool,ys=bs.map V.bl∧Q (.bl (bs.any id)) H
 | _,_,_=>False
theorem tH (bs:List Bool):(List.range bs.length).any (fun i=>bs.getD i false)=bs.any id:=by
 rw [Bool.eq_iff_iff,List.any_eq_true,List.any_eq_true]
 constructor
 · rintro ⟨i,hi,h⟩
   have hi':i < bs.length:=List.mem_range.mp hi
   exact ⟨bs[i],List.getElem_mem hi',by simpa [List.getD,hi'] using h⟩
 · rintro ⟨b,hb,h⟩
   obtain ⟨i,hi,e⟩:=List.mem_iff_getElem.mp hb
   refine ⟨i,List.mem_range.mpr hi,?_⟩
   have h':b=true:=h
   rw [List.getD,List.getElem?_eq_getElem hi,e]
   exact h'
theorem or (hc:X.calm=true):CallR X (.builtin "any") kAny:=by
 intro pins s σ H xs us Q I r h
 unfold kAny at h
 split at h
 · rename_i p
   obtain ⟨ys,e,bs,rfl,q⟩:=aO h
   obtain ⟨u,rfl,ru⟩:=cC r
   cases ru
   obtain ⟨its,rv,pl,hz⟩:=I.list (jY e)
   have hl:=rv.length
   rw [List.length_map] at hl
   have hlt:p < s.heap.objs.size:=by
    obtain ⟨o,h1,_⟩:=pl.isList
    exact Heap.lt_size h1
   refine call_any_walkS (wpAny_pyIter_list pl.isList ?_)
   refine ⟨s.heap.objs.size,_,_,_,its.toArray.size,_,_,fun i=>bs.getD i false,rfl,(Walks.list (A:=X.A.in1) (I.ok.hd hc) s.heap.objs.size p (Nat.ne_of_lt hlt) its.toArray).toS,⟨⟨_,Heap.get?_push_size _ rfl,rfl,rfl⟩,pl.isList.push _⟩,?_,fun s' hm=>?_⟩
   · intro i v s1 Q1 E1 hP hQ
     have hv:its[i]? =some v:=by simpa using hP
     obtain ⟨x,hx,rx⟩:=rv.get' hv
     obtain ⟨b,hb,rfl⟩:∃ b,bs[i]? =some b∧V.bl b=x:=by simpa using hx
     cases rx
     refine wpAny_truthy_bool ?_
     have e3:bs.getD i false=b:=by simp [List.getD,hb]
     rw [← e3]
     exact hQ
   · refine ⟨.bl _,H,I.walked (l:=p) hm,?_,q⟩
     have e2:its.toArray.size=bs.length:=by rw [List.size_toArray]; exact hl.symm
     rw [e2,tH]
     rfl
 · exact h.elim
def Itz (K:PySem.W.Frag) (a b:Addr):It:=
 ⟨fun i H=>∃ xs ys x y,SqL K H a xs∧SqL K H b ys∧xs[i]? =some x∧ys[i]? =some y,
  fun i H v H'=>∃ T x y,v=.ref T∧H T=none∧H'=upd H T (.tup [x,y])∧(∀ xs,SqL K H a xs→xs[i]? =some x)∧∀ ys,SqL K H b ys→ys[i]? =some y,
  fun i H=>∃ xs ys,SqL K H a xs∧SqL K H b ys∧(xs.length≤i∨ys.length≤i)⟩
theorem aG {h:Heap} {a b:Addr} {o u:Obj} {c d:String} (ha:h.get? a=some o) (hb:h.get? b=some u) (hc:o.cls=.type c) (hd:u.cls=.type d) (ne:c≠d):a≠b:=by
 rintro rfl; rw [ha] at hb; cases hb; rw [hc] at hd; cases hd; exact ne rfl
def ZSt (a b z TI TO i1 i2:Addr) (i:Nat) (h:Heap):Prop:=IsZip h z TI TO .none∧IsPair h TI (.ref i1) (.ref i2)∧(∃ u v,IsPair h TO u v)∧h.IsListIter i1 a i∧h.IsListIter i2 b i
theorem uw {P:Program} {w:World} {K:PySem.W.Frag} {es:List Expr} {x1:Nat} {pos:Pos} (a b z TI TO i1 i2:Addr) (dT:TI≠TO) (d1:i1≠i2):
  Turn P w K (.Tuple es x1 pos) (Itz K a b) [z,TI,TO,i1,i2] z (ZSt a b z TI TO i1 i2) where
 mem:=by simp
 obj:=fun i h st c hc=>by
  obtain ⟨hz,hTI,⟨u,v,hTO⟩,⟨o1,e1,c1,f1⟩,⟨o2,e2,c2,f2⟩⟩:=st
  simp only [List.mem_cons,List.not_mem_nil,or_false] at hc
  rcases hc with rfl | rfl | rfl | rfl | rfl
  · exact ⟨_,hz,fun v z=>by have z':Data.fields _=Data.cell v:=z; cases z'⟩
  · exact ⟨_,hTI,fun v z=>by have z':Data.seq _ _=Data.cell v:=z; cases z'⟩
  · exact ⟨_,hTO,fun v z=>by have z':Data.seq _ _=Data.cell v:=z; cases z'⟩
  · exact ⟨_,e1,fun v z=>by rw [f1] at z; cases z⟩
  · exact ⟨_,e2,fun v z=>by rw [f2] at z; cases z⟩
 keep:=fun i h h' st k=>by
  obtain ⟨hz,hTI,⟨u,v,hTO⟩,h1,h2⟩:=st
  exact ⟨k z (by simp) _ hz,k TI (by simp) _ hTI,⟨u,v,k TO (by simp) _ hTO⟩,h1.at fun o e=>k i1 (by simp) o e,h2.at fun o e=>k i2 (by simp) o e⟩
 item:=by
  intro X hP hw hK hc i pins s σ H E I hf st hg
  subst hP hw hK
  obtain ⟨xs,ys,x,y,hq1,hq2,hx,hy⟩:=hg
  obtain ⟨its1,rv1,p1,hz1⟩:=I.list hq1
  obtain ⟨its2,rv2,p2,hz2⟩:=I.list hq2
  obtain ⟨u1,hu1,ru1⟩:=rv1.get hx
  obtain ⟨u2,hu2,ru2⟩:=rv2.get hy
  obtain ⟨hz,hTI,⟨u,v,hTO⟩,⟨o1,e1,c1,f1⟩,⟨o2,e2,c2,f2⟩⟩:=id st
  obtain ⟨oa,ea,ca,_⟩:=p1.isList
  obtain ⟨ob,eb,cb,_⟩:=p2.isList
  have D:ZipApart z TI TO i1 i2 a b:=⟨aG hTI hz rfl rfl (by decide),aG hTO hz rfl rfl (by decide),aG e1 hz c1 rfl (by decide),aG e2 hz c2 rfl (by decide),dT,aG hTI e1 rfl c1 (by decide),aG hTI e2 rfl c2 (by decide),aG hTO e1 rfl c1 (by decide),aG hTO e2 rfl c2 (by decide),d1,
   aG ea hz ca rfl (by decide),aG ea hTO ca rfl (by decide),aG ea e1 ca c1 (by decide),aG ea e2 ca c2 (by decide),aG eb hz cb rfl (by decide),aG eb hTO cb rfl (by decide),aG eb e1 cb c1 (by decide),aG eb e2 cb c2 (by decide)⟩
  refine wpAny_pyNext_zip_item D hz hTI hTO ⟨o1,e1,c1,f1⟩ ⟨o2,e2,c2,f2⟩ p1.isList p2.isList (x:=u1) (y:=u2) (by simpa using hu1) (by simpa using hu2) fun h' a1 a2 a3 a4 a5 a6 hk=>?_
  refine ⟨_,rfl,wpAny_letOwnedTupleGo_zip a1 fun h2 hz2 sb=>?_⟩
  have hT:H s.heap.objs.size=none:=I.fresh
  have lt:∀ {c o},s.heap.get? c=some o→c≠s.heap.objs.size:=fun e=>Nat.ne_of_lt (Heap.lt_size e)
  have kp:∀ c o,c∉[z,TO,i1,i2]→s.heap.get? c=some o→h2.get? c=some o:=fun c o hc e=>by
   simp only [List.mem_cons,List.not_mem_nil,or_false,not_or] at hc
   exact sb.extBut _ _ hc.1 (hk c o hc.1 hc.2.1 hc.2.2.1 hc.2.2.2 e)
  have hTz:s.heap.objs.size≠z:=(lt hz).symm
  have gT:h2.get? s.heap.objs.size=some { cls:=.type "tuple",data:=.seq #[u1,u2] }:=sb.extBut _ _ hTz a5
  have nH:∀ c∈[z,TO,i1,i2],H c=none:=fun c hc=>(hf c (by simp only [List.mem_cons,List.not_mem_nil,or_false] at hc ⊢; rcases hc with h | h | h | h <;> simp [h])).1
  refine ⟨.ref s.heap.objs.size,upd H s.heap.objs.size (.tup [x,y]),I.call' (s':={ s with heap:=h2 }) (ch:=[z,TO,i1,i2]) rfl ⟨fun c o e n _ hx=>kp c o hx e,fun c o e n _ hx=>⟨o.slots,kp c o hx e⟩,fun c o e n _=>by rw [ai (lt e)]; exact n,fun c o e hx=>⟨o,kp c o hx e⟩,fun c xs e=>by rw [ai (au e hT)]; exact e,fun c o u e=>by rw [ai (au e hT)]; exact e,fun c ps e=>⟨#[],by rw [ai (au e hT),e]; simp⟩⟩ ?_ I.bare ?_,rfl,⟨_,x,y,rfl,hT,rfl,fun zs hz'=>by rw [I.list_inj hz' hq1]; exact hx,fun zs hz'=>by rw [I.list_inj hz' hq2]; exact hy⟩,?_,?_⟩
  · intro c ob e
    by_cases hb:c=s.heap.objs.size
    · subst hb
      rw [ae] at e
      cases e
      exact ⟨by show (2:Nat)≤sizeLine; exact Nat.le_of_lt (aD (by decide)),[u1,u2],.cons ru1 (.cons ru2 .nil),⟨_,gT,rfl,_,rfl⟩⟩
    · rw [ai hb] at e
      refine (I.hok c ob e).stay (fun d w' hd g=>kp d w' ?_ g) (fun d g=>by rw [ai (au g hT)]; exact g) fun d xs g=>by rw [ai (au g hT)]; exact g
      intro hm
      rcases hd with rfl | hd
      · rw [nH _ hm] at e; cases e
      · rw [nH _ hm] at hd; cases hd
  · intro c hc
    obtain ⟨f0,f1,f2,f3,f4,f5⟩:=hf c (by simp only [List.mem_cons,List.not_mem_nil,or_false] at hc ⊢; rcases hc with h | h | h | h <;> simp [h])
    exact ⟨f3,f1,f4,f5⟩
  · exact ⟨hz2,sb.extBut _ _ D.TIz (hk _ _ D.TIz D.TITO D.TIi1 D.TIi2 hTI),⟨_,_,sb.extBut _ _ D.TOz a2⟩,a3.extBut sb.extBut D.i1z,a4.extBut sb.extBut D.i2z⟩
  · intro c hc
    obtain ⟨o,e,_⟩:∃ o,s.heap.get? c=some o∧True:=by
     simp only [List.mem_cons,List.not_mem_nil,or_false] at hc
     rcases hc with rfl | rfl | rfl | rfl | rfl
     · exact ⟨_,hz,trivial⟩
     · exact ⟨_,hTI,trivial⟩
     · exact ⟨_,hTO,trivial⟩
     · exact ⟨_,e1,trivial⟩
     · exact ⟨_,e2,trivial⟩
    rw [ai (lt e)]
    exact (hf c hc).1
 done:=by
  intro X hP hw hK hc i pins s σ H E I hf st hg
  subst hP hw hK
  obtain ⟨xs,ys,hq1,hq2,hx⟩:=hg
  obtain ⟨its1,rv1,p1,hz1⟩:=I.list hq1
  obtain ⟨its2,rv2,p2,hz2⟩:=I.list hq2
  have hl1:=rv1.length
  have hl2:=rv2.length
  obtain ⟨hz,hTI,⟨u,v,hTO⟩,⟨o1,e1,c1,f1⟩,⟨o2,e2,c2,f2⟩⟩:=id st
  obtain ⟨oa,ea,ca,_⟩:=p1.isList
  obtain ⟨ob,eb,cb,_⟩:=p2.isList
  have D:ZipApart z TI TO i1 i2 a b:=⟨aG hTI hz rfl rfl (by decide),aG hTO hz rfl rfl (by decide),aG e1 hz c1 rfl (by decide),aG e2 hz c2 rfl (by decide),dT,aG hTI e1 rfl c1 (by decide),aG hTI e2 rfl c2 (by decide),aG hTO e1 rfl c1 (by decide),aG hTO e2 rfl c2 (by decide),d1,
   aG ea hz ca rfl (by decide),aG ea hTO ca rfl (by decide),aG ea e1 ca c1 (by decide),aG ea e2 ca c2 (by decide),aG eb hz cb rfl (by decide),aG eb hTO cb rfl (by decide),aG eb e1 cb c1 (by decide),aG eb e2 cb c2 (by decide)⟩
  have hend:its1.toArray[i]? =none∨its2.toArray[i]? =none:=by
   rcases hx with h | h
   · exact .inl (by simp; omega)
   · exact .inr (by simp; omega)
  refine wpAny_pyNext_zip_end (I.ok.hd hc) D hz hTI hTO ⟨o1,e1,c1,f1⟩ ⟨o2,e2,c2,f2⟩ p1.isList p2.isList hend fun h' hk=>⟨rfl,?_⟩
  have kp:∀ c o,c∉[z,TO,i1,i2]→s.heap.get? c=some o→h'.get? c=some o:=fun c o hc e=>by
   simp only [List.mem_cons,List.not_mem_nil,or_false,not_or] at hc
   exact hk c o hc.1 hc.2.1 hc.2.2.1 hc.2.2.2 e
  have nH:∀ c∈[z,TO,i1,i2],H c=none:=fun c hc=>(hf c (by simp only [List.mem_cons,List.not_mem_nil,or_false] at hc ⊢; rcases hc with h | h | h | h <;> simp [h])).1
  refine I.call' (s':={ s with heap:=h' }) (ch:=[z,TO,i1,i2]) rfl ⟨fun c o e n _ hx=>kp c o hx e,fun c o e n _ hx=>⟨o.slots,kp c o hx e⟩,fun c o e n _=>n,fun c o e hx=>⟨o,kp c o hx e⟩,fun c xs e=>e,fun c o u e=>e,fun c ps e=>⟨#[],by rw [e]; simp⟩⟩ ?_ I.bare ?_
  · intro c ob e
    refine (I.hok c ob e).stay (fun d w' hd g=>kp d w' ?_ g) (fun d g=>g) fun d xs g=>g
    intro hm
    rcases hd with rfl | hd
    · rw [nH _ hm] at e; cases e
    · rw [nH _ hm] at hd; cases hd
  · intro c hc
    obtain ⟨f0,f1,f2,f3,f4,f5⟩:=hf c (by simp only [List.mem_cons,List.not_mem_nil,or_false] at hc ⊢; rcases hc with h | h | h | h <;> simp [h])
    exact ⟨f3,f1,f4,f5⟩
 self:=fun _ _ _ _ _ st h=>wpAny_pyIter_zip st.1 h
def iZip (K:PySem.W.Frag) (ta:TA):TI:=fun σ H R=>ta σ H fun vs H1=>∃ a b,vs=[.ref a,.ref b]∧(∃ xs,SqL K H1 a xs)∧(∃ ys,SqL K H1 b ys)∧R (Itz K a b) H1
theorem wo:bootBuiltins "zip"=some (.type "zip"):=by decide+kernel
theorem tI {es:List Expr} {x1:Nat} {tpos:Pos} {e1 e2:Expr} {ta:TA} {p pos:Pos} (hg:Gl X "zip") (hm:X.mg "zip"=none) (ha:PA X [e1,e2] ta) (hs:starEach [e1,e2] X.env=[(false,eval e1 X.env),(false,eval e2 X.env)]:=by rfl) (hs2:starEach [e2] X.env=[(false,eval e2 X.env)]:=by rfl):
  PI X (.Tuple es x1 tpos) (.Call (.Name "zip" p) [e1,e2] [] pos) (iZip X.K ta):=by
 intro pins s σ H R I h
 refine Call_ (di I hg hm wo (PyProof.Rows.callWith_type1 (thn (ha pos pins s σ H _ I h) fun us s1 ⟨vs,H1,I1,r1,q1⟩=>?_) (by rw [hs,hs2]) (by rw [hs2]; rfl)))
 obtain ⟨a,b,rfl,⟨xs,hq1⟩,⟨ys,hq2⟩,q⟩:=q1
 obtain ⟨u1,u2,rfl,ru1,ru2⟩:=lS r1
 cases ru1
 cases ru2
 obtain ⟨its1,rv1,p1,hz1⟩:=I1.list hq1
 obtain ⟨its2,rv2,p2,hz2⟩:=I1.list hq2
 refine call_zip_2 p1.isList p2.isList fun h' a1 a2 a3 a4 a5 a6 hk=>?_
 refine wpAny_pyIter_zip a1 ?_
 have I2:Inv X pins σ H1 { s1 with heap:=h',toks:=s1.toks }:=I1.kept hk
 refine ⟨s1.heap.objs.size+4,[s1.heap.objs.size+4,s1.heap.objs.size+2,s1.heap.objs.size+3,s1.heap.objs.size,s1.heap.objs.size+1],ZSt a b (s1.heap.objs.size+4) (s1.heap.objs.size+2) (s1.heap.objs.size+3) s1.heap.objs.size (s1.heap.objs.size+1),Itz X.K a b,H1,rfl,I2,uw a b (s1.heap.objs.size+4) (s1.heap.objs.size+2) (s1.heap.objs.size+3) s1.heap.objs.size (s1.heap.objs.size+1) (fun z=>by have:s1.heap.objs.size+2=s1.heap.objs.size+3:=z; omega) (fun z=>by have:s1.heap.objs.size=s1.heap.objs.size+1:=z; omega),⟨a1,a2,⟨_,_,a3⟩,a4,a5⟩,fun c hc=>?_,q⟩
 have hge:s1.heap.objs.size≤c:=by
  simp only [List.mem_cons,List.not_mem_nil,or_false] at hc
  rcases hc with rfl | rfl | rfl | rfl | rfl <;> omega
 exact I1.fpOk hge (I1.hok.fresh hge)
end
end L2
namespace L2
open PySem PySem.Spec PyProof.Rows
open Builtin Builtin.Str
theorem nj:∀ {ts:List Str} {us:List Value},Vals (ts.map V.str) us→∃ l:List (Str × Tok),us=strValues l∧l.map (·.1)=ts
 | [],_,.nil=>⟨[],rfl,rfl⟩
 | t::ts,_,.cons r rs=>by
  obtain ⟨l,rfl,e⟩:=nj (ts:=ts) rs
  obtain ⟨u,rfl⟩:=r
  exact ⟨(t,u)::l,rfl,by rw [List.map_cons,e]⟩
theorem ot:∀ (l:List (Str × Tok)),Vals ((l.map (·.1)).map V.str) (strValues l)
 | []=>.nil
 | (t,u)::l=>.cons ⟨u,rfl⟩ (ot l)
section
variable {X:Cx}
def kFind:V→List V→Hp→VK→Prop
 | .str x,[.str y],H,Q=>Q (.int (Txt.find x y)) H
 | _,_,_,_=>False
def l0:V→List V→Hp→VK→Prop
 | .str x,[.str y],H,Q=>(y.length==0)=false∧x.length≤sizeLine∧(Txt.split x y).length≤sizeLine∧∀ l,H l=none→Q (.ref l) (upd H l (.lst ((Txt.split x y).map V.str)))
 | _,_,_,_=>False
theorem tJ:MtR X "str.split" l0:=by
 intro pins s σ H x vs v us Q I rx rv h
 unfold l0 at h
 split at h
 · rename_i x y
   obtain ⟨t,rfl⟩:=rx
   obtain ⟨u,rfl,ru⟩:=cC rv
   obtain ⟨t2,rfl⟩:=ru
   obtain ⟨hy,hx,hn,q⟩:=h
   have fin:∀ (l:List (Str × Tok)) (k:Nat),l.map (·.1)=Txt.split x y→EP X pins σ Q (.ref s.heap.objs.size) { s with heap:=s.heap.push { cls:=.type "list",data:=.seq (strValues l).toArray },toks:=k }:=fun l k e=>by
    refine ⟨.ref s.heap.objs.size,_,I.lnew (t':=k) (ys:=(Txt.split x y).map V.str) (its:=strValues l) ?_ (by rw [List.length_map]; exact hn),rfl,q _ I.fresh⟩
    rw [← e]
    exact ot l
   cases h1:(decide (x.length < y.length)||decide (strKind x < strKind y))
   · cases hf:(occurrences x y 0 x.length (x.length+1)).isEmpty
     · have e3:Txt.split x y=partsBetween x (occurrences x y 0 x.length (x.length+1)) y.length:=(if_neg (ne_true_of_eq_false h1)).trans (if_neg (ne_true_of_eq_false hf))
       refine call_meets F.slot_str_split (typeIs_str _ _ _) F.entry_str_split (F.args_str_split_2 _ _) (meets_str_split_sep x y t t2 h1 hy hf hx (by rw [← e3]; exact hn)) ?_
       show wants _ _ _ { s with toks:=_,heap:=s.heap.push { cls:=.type "list",data:=.seq (strsFrom s.toks (partsBetween x (occurrences x y 0 x.length (x.length+1)) y.length)).toArray } }
       rw [strsFrom_eq]
       exact fin (numbered s.toks _) _ ((numbered_texts _ _).trans e3.symm)
     · exact call_meets F.slot_str_split (typeIs_str _ _ _) F.entry_str_split (F.args_str_split_2 _ _) (meets_str_split_not_found x y t t2 h1 hy hf)
        (fin [(x,t)] s.toks ((if_neg (ne_true_of_eq_false h1)).trans (if_pos hf)).symm)
   · exact call_meets F.slot_str_split (typeIs_str _ _ _) F.entry_str_split (F.args_str_split_2 _ _) (meets_str_split_cannot_occur x y t t2 h1)
      (fin [(x,t)] s.toks (if_pos h1).symm)
 · exact h.elim
def iY:V→Option Int→Option Int→Hp→VK→Prop
 | .ref p,lo,hi,H,Q=>cSl (.ref p) lo hi H Q
 | .str z,lo,hi,H,Q=>z.length≤sizeLine∧Q (.str (Txt.slice z lo hi)) H
 | _,_,_,_,_=>False
theorem kK:SlR X iY:=by
 intro pins s σ H x v vl vu lo hi sl Q I rx hs pl pu h
 cases x with
 | ref p=>exact xh pins s σ H _ v vl vu lo hi sl Q I rx hs pl pu h
 | str z=>
  obtain ⟨hz,q⟩:=(show z.length≤sizeLine∧Q (.str (Txt.slice z lo hi)) H from h)
  obtain ⟨t,rfl⟩:=rx
  have fin:∀ t' k,EP X pins σ Q (.str (Txt.slice z lo hi) t') { s with toks:=k }:=fun t' k=>⟨.str _,H,I.tok k,⟨t',rfl⟩,q⟩
  refine ⟨"str",_,F.slot_str_getitem.lookup,typeIs_str _ _ _,?_⟩
  cases pl with
  | none=>
   cases pu with
   | none=>exact wpAny_getItem_str_slice (l:=none) (u:=none) (st:=none) hs rfl (post_val_or_str ⟨Nat.le_trans (Txt.slice_le z _ _) hz,fin⟩)
   | int j tj=>exact wpAny_getItem_str_slice (l:=none) (u:=some (j,tj)) (st:=none) hs rfl (post_val_or_str ⟨Nat.le_trans (Txt.slice_le z _ _) hz,fin⟩)
  | int i ti=>
   cases pu with
   | none=>exact wpAny_getItem_str_slice (l:=some (i,ti)) (u:=none) (st:=none) hs rfl (post_val_or_str ⟨Nat.le_trans (Txt.slice_le z _ _) hz,fin⟩)
   | int j tj=>exact wpAny_getItem_str_slice (l:=some (i,ti)) (u:=some (j,tj)) (st:=none) hs rfl (post_val_or_str ⟨Nat.le_trans (Txt.slice_le z _ _) hz,fin⟩)
 | _=>exact False.elim h
def Its (x:Str):It:=⟨fun i _=>i < x.cps.size,fun i H v H'=>H'=H∧∃ c,x.cps[i]? =some c∧v=.str ⟨#[c]⟩,fun i _=>x.cps.size≤i⟩
theorem pR {P:Program} {w:World} {K:PySem.W.Frag} {tg:Expr} {x:Str} {t:Tok} (it:Addr) (ty:String) (hty:["enumerate","zip","dict_itemiterator","dict_reverseitemiterator","odict_iterator","itertools.zip_longest","itertools.pairwise"].contains ty=false)
  (W:∀ A:Around,A.handled=none→Walks P w A it [it] [it] x.cps.size (SignAt x) (fun i h=>h.IsStrIter it ty x t i))
  (slf:∀ (A:Around) (i:Nat) (s:Shared) (Q:Value→Shared→Prop) (E:Value→Shared→Prop),s.heap.IsStrIter it ty x t i→Q (.ref it) s→wpAny (model P w) A (pyIter (.ref it)) Q E s):
  Turn P w K tg (Its x) [it] it (fun i h=>i≤x.cps.size∧h.IsStrIter it ty x t i) where
 mem:=by simp
 obj:=fun i h st b hb=>by
  have e:b=it:=by simpa using hb
  subst e
  obtain ⟨_,o,e,c,d⟩:=st
  exact ⟨o,e,fun v z=>by rw [d] at z; cases z⟩
 keep:=fun i h h' st k=>by
  obtain ⟨hi,o,e,c,d⟩:=st
  exact ⟨hi,o,k it (by simp) o e,c,d⟩
 item:=by
  intro X hP hw hK hc i pins s σ H E I hf st hg
  subst hP hw hK
  obtain ⟨f0,f1,f2,f3,f4,f5⟩:=hf it (by simp)
  have hlt:i < x.cps.size:=hg
  refine (W X.A (I.ok.hd hc)).item i s _ _ hlt st.2 fun v h' tk hv st' kk=>?_
  obtain ⟨c,u,hcu,rfl⟩:=hv
  have I1:Inv X pins σ H { s with heap:=h',toks:=tk }:=I.turned (fun b o hb e=>kk b o (by simpa using hb) e) f0 f1 f3 f4 f5
  obtain ⟨o,e,c',d⟩:=id st'
  exact ⟨_,rfl,pp (s:={ s with heap:=h',toks:=tk }) e c' d hty ⟨.str ⟨#[c]⟩,H,I1,⟨u,rfl⟩,⟨rfl,c,hcu,rfl⟩,⟨hlt,st'⟩,fun b hb=>(hf b hb).1⟩⟩
 done:=by
  intro X hP hw hK hc i pins s σ H E I hf st hg
  subst hP hw hK
  obtain ⟨f0,f1,f2,f3,f4,f5⟩:=hf it (by simp)
  have hle:x.cps.size≤i:=hg
  have e:i=x.cps.size:=Nat.le_antisymm st.1 hle
  subst e
  exact (W X.A (I.ok.hd hc)).done s _ _ st.2 fun h' tk kk=>⟨rfl,I.turned (fun b o hb e=>kk b o (by simpa using hb) e) f0 f1 f3 f4 f5⟩
 self:=fun A i s Q E st h=>slf A i s Q E st.2 h
def iStr (tl:TE):TI:=fun σ H R=>tl σ H fun x H1=>∃ z,x=.str z∧R (Its z) H1
theorem wp {tg l:Expr} {tl:TE} (hl:PE X l tl):PI X tg l (iStr tl):=by
 intro pins s σ H R I h
 refine thn (hl pins s σ H _ I h) fun v s1 ⟨x,H1,I1,r1,q1⟩=>?_
 obtain ⟨z,rfl,q⟩:=q1
 obtain ⟨t,rfl⟩:=r1
 have fin:∀ b∈[s1.heap.objs.size],FpOk X pins H1 b:=fun b hb=>by
  have e:b=s1.heap.objs.size:=by simpa using hb
  subst e
  exact I1.fpOk (Nat.le_refl _) (I1.hok.fresh (Nat.le_refl _))
 cases ha:z.cps.all (· < 128)
 · refine wpAny_pyIter_wide ha ⟨s1.heap.objs.size,[s1.heap.objs.size],_,Its z,H1,rfl,I1.kept (t':=s1.toks) fun b o e=>Heap.get?_push_of_some _ e,pR (t:=t) _ "str_iterator" (by decide) (fun A' hA=>Walks.strWide hA _ z t) (fun A i s Q E st hq=>wpAny_pyIter_striter_wide st hq),⟨Nat.zero_le _,_,Heap.get?_push_size _ rfl,rfl,rfl⟩,fin,q⟩
 · refine wpAny_pyIter_ascii ha ⟨s1.heap.objs.size,[s1.heap.objs.size],_,Its z,H1,rfl,I1.kept (t':=s1.toks) fun b o e=>Heap.get?_push_of_some _ e,pR (t:=t) _ "str_ascii_iterator" (by decide) (fun A' hA=>Walks.strAscii hA _ z t) (fun A i s Q E st hq=>wpAny_pyIter_striter_ascii st hq),⟨Nat.zero_le _,_,Heap.get?_push_size _ rfl,rfl,rfl⟩,fin,q⟩
end
section
variable {K:PySem.W.Frag} {g:TG} {tb:TS} {D:Ends} {σ:St} {H:Hp} {tl:TE} {ix:List (Option Nat)} {tt:TT} {te ta:TE} {k:Nat} {Q:VK}
theorem j8 {r:V→Option Int→Option Int→Hp→VK→Prop} {a b:TO}:tSl r te a b σ H Q=te σ H fun x H1=>a σ H1 fun l H2=>b σ H2 fun u H3=>r x l u H3 Q:=rfl
theorem gt {R:Option Int→Hp→Prop}:tPart te σ H R=te σ H fun x H1=>∃ i,x=.int i∧R (some i) H1:=rfl
theorem dn {R:Option Int→Hp→Prop}:dC σ H R=R none H:=rfl
theorem gu {to ti:TE} {t:TSet} {v:V} {R:St→Hp→Prop}:gSub to ti t v σ H R=to σ H fun o H1=>ti σ H1 fun i H2=>t o i v H2 fun H3=>R σ H3:=rfl
theorem j9 {r:V→Hp→VK→Prop}:tUn r te σ H Q=te σ H fun x H1=>r x H1 Q:=rfl
theorem gw:tFor (iStr tl) g tb D σ H=tl σ H fun x H1=>∃ z,x=.str z∧LoopR (Its z) g tb D σ H1:=rfl
theorem eX:tComp ix (iStr tl) g tt te σ H Q=tl σ H fun x H1=>∃ z,x=.str z∧CompR (Its z) g tt te (fun l H'=>Q (.ref l) H') (subσ ix σ) H1:=rfl
theorem dq:sComp k ix (iStr tl) g tt te D σ H=tl σ H fun x H1=>∃ z,x=.str z∧CompR (Its z) g tt te (fun l H'=>D.nx (σ.set k (some (.ref l))) H') (subσ ix σ) H1:=rfl
theorem uY {x:Str}:tyV K "str" (.str x) H:=rfl
theorem iQ {i j:Str}:cEq K (.str i) (.str j) H Q=Q (.bl (decide (i=j))) H:=rfl
theorem iR {i j:Str}:cNe K (.str i) (.str j) H Q=Q (.bl (!decide (i=j))) H:=rfl
theorem gy {z:Str}:kLen [.str z] H Q=(z.length≤sizeLine∧Q (.int z.length) H):=rfl
theorem gz {i j:Str}:cAdd (.str i) (.str j) H Q=(i.length+j.length≤sizeLine∧Q (.str (i++j)) H):=rfl
theorem wS {z:Str} {i:Int}:cIx (.str z) (.int i) H Q=(z.length≤sizeLine∧bnd (atI z.cps.toList i) fun c=>Q (.str ⟨#[c]⟩) H):=rfl
theorem gA {x y:Str}:kFind (.str x) [.str y] H Q=Q (.int (Txt.find x y)) H:=rfl
theorem vo {x y:Str}:l0 (.str x) [.str y] H Q=((y.length==0)=false∧x.length≤sizeLine∧(Txt.split x y).length≤sizeLine∧∀ l,H l=none→Q (.ref l) (upd H l (.lst ((Txt.split x y).map V.str)))):=rfl
theorem pz {p:Addr} {lo hi:Option Int} {xs:List V} (hp:H p=some (.lst xs)) (h:∀ l,H l=none→Q (.ref l) (upd H l (.lst (cutV xs lo hi)))):iY (.ref p) lo hi H Q:=by
 show bnd (unL (H p)) _
 rw [hp]
 exact h
end
end L2
namespace L2
open PySem PySem.Spec PyProof.Rows
def cBitI (g:Int→Int→Int):R2
 | .int i,.int j,H,Q=>Q (.int (g i j)) H
 | _,_,_,_=>False
def cShr:R2
 | .int i,.int j,H,Q=>0≤j∧Q (.int (i / 2^j.toNat)) H
 | _,_,_,_=>False
section
variable {H:Hp} {Q:VK} {i j:Int}
theorem ka {g:Int→Int→Int}:cBitI g (.int i) (.int j) H Q=Q (.int (g i j)) H:=rfl
theorem l8:cShr (.int i) (.int j) H Q=(0≤j∧Q (.int (i / 2^j.toNat)) H):=rfl
end
end L2
namespace L2
open PySem PySem.Spec PyProof.Rows
section
variable {X:Cx}
def kInt:List V→Hp→VK→Prop
 | [.int i],H,Q=>Q (.int i) H
 | [.bl k],H,Q=>Q (.int (if k then 1 else 0)) H
 | _,_,_=>False
def vp:V→List V→Hp→VK→Prop
 | .int i,[],H,Q=>Q (.int (Builtin.Int.intBits i:Nat)) H
 | _,_,_,_=>False
def cRepL:R2
 | .ref l,.int k,H,Q=>bnd (unM (H l)) fun xs=> -(2^63)≤k∧k < 2^63∧xs.length*k.toNat≤sizeLine∧∀ p,H p=none→Q (.ref p) (upd H p (.lst (List.replicate k.toNat xs).flatten))
 | _,_,_,_=>False
theorem ux:OpR X (binaryOp .Mult) cRepL:=by
 intro pins s σ H x y v u Q I rx ry h
 unfold cRepL at h
 split at h
 · obtain ⟨xs,e,h1,h2,h3,q⟩:=aO h
   exact wd pins s σ H _ _ v u Q I rx ry ⟨_,_,xs,rfl,rfl,fc e,h1,h2,h3,q⟩
 · exact h.elim
def kAll:List V→Hp→VK→Prop
 | [.ref p],H,Q=>bnd (unL (H p)) fun ys=>∃ bs:List Bool,ys=bs.map V.bl∧Q (.bl (bs.all id)) H
 | _,_,_=>False
theorem tK (bs:List Bool):(List.range bs.length).all (fun i=>bs.getD i false)=bs.all id:=by
 rw [Bool.eq_iff_iff,List.all_eq_true,List.all_eq_true]
 constructor
 · intro h b hb
   obtain ⟨i,hi,e⟩:=List.mem_iff_getElem.mp hb
   have:=h i (List.mem_range.mpr hi)
   rw [List.getD,List.getElem?_eq_getElem hi,e] at this
   exact this
 · intro h i hi
   have hi':i < bs.length:=List.mem_range.mp hi
   have:=h bs[i] (List.getElem_mem hi')
   simpa [List.getD,hi'] using this
theorem g6:bootBuiltins "all"=some (.builtin "all"):=by decide+kernel
theorem wq:bootBuiltins "sum"=some (.builtin "sum"):=by decide+kernel
theorem dr (hc:X.calm=true):CallR X (.builtin "all") kAll:=by
 intro pins s σ H xs us Q I r h
 unfold kAll at h
 split at h
 · rename_i p
   obtain ⟨ys,e,bs,rfl,q⟩:=aO h
   obtain ⟨u,rfl,ru⟩:=cC r
   cases ru
   obtain ⟨its,rv,pl,hz⟩:=I.list (jY e)
   have hl:=rv.length
   rw [List.length_map] at hl
   have hlt:p < s.heap.objs.size:=by
    obtain ⟨o,h1,_⟩:=pl.isList
    exact Heap.lt_size h1
   refine call_all_walkS (wpAny_pyIter_list pl.isList ?_)
   refine ⟨s.heap.objs.size,_,_,_,its.toArray.size,_,_,fun i=>bs.getD i false,rfl,(Walks.list (A:=X.A.in1) (I.ok.hd hc) s.heap.objs.size p (Nat.ne_of_lt hlt) its.toArray).toS,⟨⟨_,Heap.get?_push_size _ rfl,rfl,rfl⟩,pl.isList.push _⟩,?_,fun s' hm=>?_⟩
   · intro i v s1 Q1 E1 hP hQ
     have hv:its[i]? =some v:=by simpa using hP
     obtain ⟨x,hx,rx⟩:=rv.get' hv
     obtain ⟨b,hb,rfl⟩:∃ b,bs[i]? =some b∧V.bl b=x:=by simpa using hx
     cases rx
     refine wpAny_truthy_bool ?_
     have e3:bs.getD i false=b:=by simp [List.getD,hb]
     rw [← e3]
     exact hQ
   · refine ⟨.bl _,H,I.walked (l:=p) hm,?_,q⟩
     have e2:its.toArray.size=bs.length:=by rw [List.size_toArray]; exact hl.symm
     rw [e2,tK]
     rfl
 · exact h.elim
def kSum:List V→Hp→VK→Prop
 | [.ref p],H,Q=>bnd (unL (H p)) fun ys=>∃ ns:List Int,ys=ns.map V.int∧(∀ x∈ns,0≤x∧x≤1000000)∧ns.length≤1000000∧Q (.int ns.sum) H
 | _,_,_=>False
theorem tL:∀ (ns:List Int),(∀ x∈ns,0≤x∧x≤1000000)→0≤ns.sum∧ns.sum≤1000000*ns.length
 | [],_=>by simp
 | n::r,h=>by
  have ih:=tL r fun x hx=>h x (List.mem_cons_of_mem _ hx)
  have h1:=h n List.mem_cons_self
  rw [List.sum_cons,List.length_cons]
  omega
theorem tM (hc:X.calm=true):CallR X (.builtin "sum") kSum:=by
 intro pins s σ H xs us Q I r h
 unfold kSum at h
 split at h
 · rename_i p
   obtain ⟨ys,e,ns,rfl,hb,hn,q⟩:=aO h
   obtain ⟨u,rfl,ru⟩:=cC r
   cases ru
   obtain ⟨its,rv,pl,hz⟩:=I.list (jY e)
   have hl:=rv.length
   rw [List.length_map] at hl
   have hlt:p < s.heap.objs.size:=by
    obtain ⟨o,h1,_⟩:=pl.isList
    exact Heap.lt_size h1
   have e2:its.toArray.size=ns.length:=by rw [List.size_toArray]; exact hl.symm
   refine call_sum_walkS (wpAny_pyIter_list pl.isList ?_)
   refine ⟨s.heap.objs.size,_,_,_,its.toArray.size,_,_,fun i=>ns.getD i 0,rfl,(Walks.list (A:=X.A.in1) (I.ok.hd hc) s.heap.objs.size p (Nat.ne_of_lt hlt) its.toArray).toS,⟨⟨_,Heap.get?_push_size _ rfl,rfl,rfl⟩,pl.isList.push _⟩,?_,?_,?_,fun s' t' hm=>?_⟩
   · intro b hb'
     show b < (s.heap.push _).objs.size
     rw [Heap.size_push]
     simp only [List.mem_cons,List.not_mem_nil,or_false] at hb'
     rcases hb' with rfl | rfl
     · exact Nat.lt_succ_self _
     · exact Nat.lt_succ_of_lt hlt
   · intro i v hP
     have hv:its[i]? =some v:=by simpa using hP
     obtain ⟨x,hx,rx⟩:=rv.get' hv
     obtain ⟨b,hb',rfl⟩:∃ b,ns[i]? =some b∧V.int b=x:=by simpa using hx
     obtain ⟨t,rfl⟩:=rx
     exact ⟨t,by simp [List.getD,hb']⟩
   · intro j hj
     rw [e2] at hj
     refine ⟨?_,?_⟩
     · have:=hb ns[j] (List.getElem_mem hj)
       have e3:ns.getD j 0=ns[j]:=by simp [List.getD,hj]
       show InLong (ns.getD j 0)
       rw [e3]
       exact ⟨by omega,by omega⟩
     · rw [preSum_getD]
       have h1:=tL (ns.take (j+1)) fun x hx=>hb x (List.mem_of_mem_take hx)
       have h2:(ns.take (j+1)).length≤ns.length:=by rw [List.length_take]; omega
       exact ⟨by omega,by omega⟩
   · refine ⟨.int ns.sum,H,I.walked (l:=p) hm,⟨t',?_⟩,q⟩
     rw [e2,preSum_getD,List.take_length]
 · exact h.elim
def Itd (hi:Int) (n:Nat):It:=⟨fun i _=>i < n,fun i H x H'=>H'=H∧x=.int (hi - i),fun i _=>n≤i⟩
def iRngD (ta:TA):TI:=fun σ H R=>ta σ H fun vs H1=>∃ i j:Int,vs=[.int i,.int j,.int (-1)]∧(-(2^60)≤i∧i < 2^60∧ -(2^60)≤j∧j < 2^60)∧R (Itd i (i - j).toNat) H1
end
section
variable {K:PySem.W.Frag} {g:TG} {tb:TS} {D:Ends} {σ:St} {H:Hp} {ta:TA} {Q:VK}
theorem kb {k:Bool}:kInt [.bl k] H Q=Q (.int (if k then 1 else 0)) H:=rfl
theorem kc {i:Int}:kInt [.int i] H Q=Q (.int i) H:=rfl
theorem g7 {i:Int}:vp (.int i) [] H Q=Q (.int (Builtin.Int.intBits i:Nat)) H:=rfl
theorem jx {p:Addr} {bs:List Bool} (hp:H p=some (.lst (bs.map V.bl))) (h:Q (.bl (bs.all id)) H):kAll [.ref p] H Q:=by
 show bnd (unL (H p)) _
 rw [hp]
 exact aL (a:=bs.map V.bl) rfl ⟨bs,rfl,h⟩
theorem wT {p:Addr} {ns:List Int} (hp:H p=some (.lst (ns.map V.int))) (hb:∀ x∈ns,0≤x∧x≤1000000) (hn:ns.length≤1000000) (h:Q (.int ns.sum) H):kSum [.ref p] H Q:=by
 show bnd (unL (H p)) _
 rw [hp]
 exact aL (a:=ns.map V.int) rfl ⟨ns,rfl,hb,hn,h⟩
theorem wr {p:Addr} {xs:List V} {k:Int} (hp:H p=some (.lst xs)) (h0:0≤k) (h1:k≤1000) (hn:xs.length≤1) (h:∀ l,H l=none→Q (.ref l) (upd H l (.lst (List.replicate k.toNat xs).flatten))):cRepL (.ref p) (.int k) H Q:=by
 show bnd (unM (H p)) _
 rw [hp]
 refine aL (a:=xs) rfl ⟨by omega,by omega,?_,h⟩
 refine Nat.le_of_lt (aD (Nat.le_trans (Nat.mul_le_mul_right _ hn) ?_))
 omega
theorem jg:tFor (iRngD ta) g tb D σ H=ta σ H fun vs H1=>∃ i j:Int,vs=[.int i,.int j,.int (-1)]∧(-(2^60)≤i∧i < 2^60∧ -(2^60)≤j∧j < 2^60)∧LoopR (Itd i (i - j).toNat) g tb D σ H1:=rfl
end
end L2
namespace L2
open PySem PySem.Spec PyProof.Rows
section
variable {X:Cx}
def Ite (K:PySem.W.Frag) (a:Addr):It:=
 ⟨fun i H=>∃ xs x,SqL K H a xs∧xs[i]? =some x,
  fun i H v H'=>∃ T x,v=.ref T∧H T=none∧H'=upd H T (.tup [.int i,x])∧∀ xs,SqL K H a xs→xs[i]? =some x,
  fun i H=>∃ xs,SqL K H a xs∧xs.length≤i⟩
def iEnum (K:PySem.W.Frag) (ta:TA):TI:=fun σ H R=>ta σ H fun vs H1=>∃ a,vs=[.ref a]∧(∃ xs,SqL K H1 a xs)∧R (Ite K a) H1
end
section
variable {K:PySem.W.Frag} {g:TG} {tb:TS} {D:Ends} {σ:St} {H:Hp} {ta:TA} {Q:VK} {ix:List (Option Nat)} {tt:TT} {te:TE} {k:Nat}
theorem kd:tFor (iEnum K ta) g tb D σ H=ta σ H fun vs H1=>∃ a,vs=[.ref a]∧(∃ xs,SqL K H1 a xs)∧LoopR (Ite K a) g tb D σ H1:=rfl
theorem jh:tComp ix (iEnum K ta) g tt te σ H Q=ta σ H fun vs H1=>∃ a,vs=[.ref a]∧(∃ xs,SqL K H1 a xs)∧CompR (Ite K a) g tt te (fun l H'=>Q (.ref l) H') (subσ ix σ) H1:=rfl
theorem g8:sComp k ix (iEnum K ta) g tt te D σ H=ta σ H fun vs H1=>∃ a,vs=[.ref a]∧(∃ xs,SqL K H1 a xs)∧CompR (Ite K a) g tt te (fun l H'=>D.nx (σ.set k (some (.ref l))) H') (subσ ix σ) H1:=rfl
end
end L2
namespace L2
open PySem PySem.Spec PyProof.Rows
end L2
namespace L2
open PySem PySem.Spec PyProof.Rows
end L2
namespace L2
open PySem PySem.Spec PyProof.Rows
def rngL (i j:Int):List Int:=(List.range (j - i).toNat).map fun (k:Nat)=>i+(k:Int)
theorem dt (i j:Int):(rngL i j).length=(j - i).toNat:=by unfold rngL; simp
theorem k7:∀ {xs:List V} {us:List Value},xs.length=us.length→(∀ (i:Nat) x u,xs[i]? =some x→us[i]? =some u→RelV x u)→Vals xs us
 | [],[],_,_=>.nil
 | [],_::_,h,_=>by simp at h
 | _::_,[],h,_=>by simp at h
 | x::xs,u::us,h,f=>.cons (f 0 x u rfl rfl) (k7 (by simpa using h) fun i y e h1 h2=>f (i+1) y e (by simpa using h1) (by simpa using h2))
theorem uy {i j:Int} {acc:Array Value} (h:ItemsOf (fun k v=>∃ t,v=.int (i+k*1) t) acc (j - i).toNat):Vals ((rngL i j).map V.int) acc.toList:=by
 refine k7 (by rw [List.length_map,dt,Array.length_toList]; exact h.1.symm) fun k x u hx hu=>?_
 obtain ⟨t,rfl⟩:=h.2 k u (by simpa using hu)
 unfold rngL at hx
 rw [List.map_map,List.getElem?_map] at hx
 by_cases hk:k < (j - i).toNat
 · rw [List.getElem?_range hk] at hx
   cases hx
   exact ⟨t,by rw [Int.mul_one]⟩
 · rw [List.getElem?_eq_none (by simpa using hk)] at hx
   cases hx
section
variable {X:Cx}
def iS (ta:TA):TE:=fun σ H Q=>ta σ H fun vs H1=>∃ j:Int,vs=[.int j]∧ -(2^60)≤j∧j≤1000∧∀ l,H1 l=none→Q (.ref l) (upd H1 l (.lst ((rngL 0 j).map V.int)))
def ke (ta:TA):TE:=fun σ H Q=>ta σ H fun vs H1=>∃ i j:Int,vs=[.int i,.int j]∧(0≤i∧i≤1000∧ -(2^60)≤j∧j≤1000)∧∀ l,H1 l=none→Q (.ref l) (upd H1 l (.lst ((rngL i j).map V.int)))
theorem pS {pins:List (Addr × Obj)} {σ:St} {H1:Hp} {s1:Shared} {Q:VK} {i j:Int} {t u v:Tok} {tk:Nat} {A:Around} {E:Value→Shared→Prop} (hh:A.handled=none) (I1:Inv X pins σ H1 s1) (h1:0≤i) (h2:i≤1000) (h3: -(2^60)≤j) (h4:j≤1000)
  (q:∀ l,H1 l=none→Q (.ref l) (upd H1 l (.lst ((rngL i j).map V.int)))):
  wpAny (model X.prog X.w) A (call (.type "list") [.ref s1.heap.objs.size]) (EP X pins σ Q) E { s1 with heap:=s1.heap.push { cls:=.type "range",data:=.fields #[.int i t,.int j u,.int 1 v] },toks:=tk }:=by
 have I2:Inv X pins σ H1 { s1 with heap:=s1.heap.push { cls:=.type "range",data:=.fields #[.int i t,.int j u,.int 1 v] },toks:=tk }:=I1.kept fun b o e=>Heap.get?_push_of_some _ e
 refine call_list_range (n:=(j - i).toNat) hh (IsRange.new ..) (small_one (by omega) (by omega) (by omega) (by omega)) (by rw [rangeSize_one]; split <;> omega) (by omega) fun h' tk' acc' c' old hS' hacc=>?_
 have hlen:((rngL i j).map V.int).length≤sizeLine:=by rw [List.length_map,dt]; exact Nat.le_of_lt (aD (by omega))
 exact ⟨.ref _,_,I2.laid (t':=tk') (o:=.lst ((rngL i j).map V.int)) old (Nat.le_refl _) ⟨hlen,acc'.toList,c',uy hacc,hS'⟩,rfl,q _ (I2.hok.fresh (Nat.le_refl _))⟩
theorem k8 {a:Expr} {ta:TA} {p p2 pos pos2:Pos} (hc:X.calm=true) (hgl:Gl X "list") (hgr:Gl X "range") (hl:X.mg "list"=none) (hr:X.mg "range"=none) (ha:PA X [a] ta)
  (hs1:starEach [.Call (.Name "range" p2) [a] [] pos2] X.env=[(false,eval (.Call (.Name "range" p2) [a] [] pos2) X.env)]:=by rfl) (hs:starEach [a] X.env=[(false,eval a X.env)]:=by rfl):
  PE X (.Call (.Name "list" p) [.Call (.Name "range" p2) [a] [] pos2] [] pos) (iS ta):=by
 intro pins s σ H Q I h
 refine wpAny_Call_Name_kw (di I hgl hl jf ?_ (by decide) (by decide))
 refine PyProof.Rows.callWith_type1 ?_ hs1 rfl
 rw [hs1]
 show wpAny _ _ (spliced [(false,eval (.Call (.Name "range" p2) [a] [] pos2) X.env)]) _ _ s
 refine Calls.spliced_cons ?_
 refine Call_ (di I hgr hr boot_range (PyProof.Rows.callWith_type1 (thn (ha pos2 pins s σ H _ I h) fun us s1 ⟨vs,H1,I1,r1,q1⟩=>?_) hs rfl))
 obtain ⟨j,e,q1,q2,q⟩:=q1
 subst e
 cases r1 with
 | cons r rr=>
  cases rr
  obtain ⟨t,rfl⟩:=r
  refine call_range_1 ?_
  refine Calls.spliced_nil ?_
  exact pS (I.ok.hd hc) I1 (by omega) (by omega) q1 q2 q
theorem qL {a b:Expr} {ta:TA} {p p2 pos pos2:Pos} (hc:X.calm=true) (hgl:Gl X "list") (hgr:Gl X "range") (hl:X.mg "list"=none) (hr:X.mg "range"=none) (ha:PA X [a,b] ta)
  (hs1:starEach [.Call (.Name "range" p2) [a,b] [] pos2] X.env=[(false,eval (.Call (.Name "range" p2) [a,b] [] pos2) X.env)]:=by rfl) (hs:starEach [a,b] X.env=[(false,eval a X.env),(false,eval b X.env)]:=by rfl) (hs2:starEach [b] X.env=[(false,eval b X.env)]:=by rfl):
  PE X (.Call (.Name "list" p) [.Call (.Name "range" p2) [a,b] [] pos2] [] pos) (ke ta):=by
 intro pins s σ H Q I h
 refine wpAny_Call_Name_kw (di I hgl hl jf ?_ (by decide) (by decide))
 refine PyProof.Rows.callWith_type1 ?_ hs1 rfl
 rw [hs1]
 show wpAny _ _ (spliced [(false,eval (.Call (.Name "range" p2) [a,b] [] pos2) X.env)]) _ _ s
 refine Calls.spliced_cons ?_
 refine Call_ (di I hgr hr boot_range (PyProof.Rows.callWith_type1 (thn (ha pos2 pins s σ H _ I h) fun us s1 ⟨vs,H1,I1,r1,q1⟩=>?_) (by rw [hs,hs2]) (by rw [hs2]; rfl)))
 obtain ⟨i,j,e,⟨q1,q2,q3,q4⟩,q⟩:=q1
 subst e
 cases r1 with
 | cons r rr=>
  cases rr with
  | cons r' rr=>
   cases rr
   obtain ⟨t,rfl⟩:=r
   obtain ⟨t',rfl⟩:=r'
   refine call_range_2 ?_
   refine Calls.spliced_nil ?_
   exact pS (I.ok.hd hc) I1 q1 q2 q3 q4 q
end
section
variable {σ:St} {H:Hp} {Q:VK} {ta:TA}
theorem ji:iS ta σ H Q=ta σ H fun vs H1=>∃ j:Int,vs=[.int j]∧ -(2^60)≤j∧j≤1000∧∀ l,H1 l=none→Q (.ref l) (upd H1 l (.lst ((rngL 0 j).map V.int))):=rfl
theorem jj:ke ta σ H Q=ta σ H fun vs H1=>∃ i j:Int,vs=[.int i,.int j]∧(0≤i∧i≤1000∧ -(2^60)≤j∧j≤1000)∧∀ l,H1 l=none→Q (.ref l) (upd H1 l (.lst ((rngL i j).map V.int))):=rfl
end
end L2
namespace L2
def besL (h w c:Int):List Int:=(if 0 < c / w then [c - w] else [])++(if 0 < c % w then [c - 1] else [])++(if c % w < w - 1 then [c+1] else [])++(if c / w < h - 1 then [c+w] else [])
inductive RC (h w:Int) (cs:List Int) (st:Int):Int→Prop
 | start:st∈cs→RC h w cs st st
 | step {x y:Int}:RC h w cs st x→y∈besL h w x→y∈cs→RC h w cs st y
theorem RC.mem {h w:Int} {cs:List Int} {st x:Int} (r:RC h w cs st x):x∈cs:=by cases r <;> assumption
theorem RC.st {h w:Int} {cs:List Int} {st x:Int} (r:RC h w cs st x):st∈cs:=by
 induction r with
 | start h=>exact h
 | step _ _ _ ih=>exact ih
theorem jy:∀ {xs ys:List Int},xs.Nodup→(∀ x∈xs,x∈ys)→xs.length≤ys.length
 | [],_,_,_=>Nat.zero_le _
 | x::xs,ys,nd,h=>by
  have hx:=h x List.mem_cons_self
  have nd':=List.nodup_cons.mp nd
  have ih:=jy (xs:=xs) (ys:=ys.erase x) nd'.2 fun y hy=>by
   have ne:y≠x:=fun e=>nd'.1 (e ▸ hy)
   exact (List.mem_erase_of_ne ne).mpr (h y (List.mem_cons_of_mem _ hy))
  rw [List.length_erase_of_mem hx] at ih
  have:0 < ys.length:=List.length_pos_of_mem hx
  simp only [List.length_cons]
  omega
structure BI (h w:Int) (cs:List Int) (st:Int) (fs:List Int) (pl:Nat):Prop where
 nd:fs.Nodup
 rc:∀ x∈fs,RC h w cs st x
 hst:st∈fs
 le:pl≤fs.length
 cl:∀ (i:Nat) (x y:Int),i < pl→fs[i]? =some x→y∈besL h w x→y∈cs→y∈fs
theorem BI.len {h w:Int} {cs:List Int} {st:Int} {fs:List Int} {pl:Nat} (b:BI h w cs st fs pl):fs.length≤cs.length:=jy b.nd fun x hx=>(b.rc x hx).mem
theorem BI.start {h w:Int} {cs:List Int} {st:Int} (hs:st∈cs):BI h w cs st [st] 0:=
 ⟨by simp,fun x hx=>by rw [List.mem_singleton.mp hx]; exact .start hs,by simp,Nat.zero_le _,fun i x y hi=>absurd hi (Nat.not_lt_zero _)⟩
theorem BI.done {h w:Int} {cs:List Int} {st:Int} {fs:List Int} {pl:Nat} (b:BI h w cs st fs pl) (e:¬ pl < fs.length) (x:Int):x∈fs↔RC h w cs st x:=by
 refine ⟨b.rc x,fun r=>?_⟩
 induction r with
 | start _=>exact b.hst
 | step r hy hc ih=>
  obtain ⟨i,hi⟩:=List.getElem?_of_mem ih
  have hlt:i < fs.length:=(List.getElem?_eq_some_iff.mp hi).1
  exact b.cl i _ _ (by omega) hi hy hc
def addC (cs fs:List Int) (y:Int):List Int:=if y∈cs∧¬ y∈fs then fs++[y] else fs
structure BJ (h w:Int) (cs:List Int) (st:Int) (f0:List Int) (pl:Nat) (bs:List Int) (fs:List Int):Prop where
 nd:fs.Nodup
 rc:∀ x∈fs,RC h w cs st x
 pre:f0 <+:fs
 al:∀ y∈bs,y∈cs→y∈fs
theorem BJ.zero {h w:Int} {cs:List Int} {st:Int} {fs:List Int} {pl:Nat} (b:BI h w cs st fs pl):BJ h w cs st fs pl [] fs:=⟨b.nd,b.rc,List.prefix_refl _,fun y hy=>nomatch hy⟩
theorem BJ.more {h w:Int} {cs:List Int} {st:Int} {f0 fs bs:List Int} {pl:Nat} {x y:Int} (j:BJ h w cs st f0 pl bs fs) (hx:RC h w cs st x) (hy:y∈besL h w x):BJ h w cs st f0 pl (bs++[y]) (addC cs fs y):=by
 unfold addC
 split
 · rename_i hc
   refine ⟨?_,fun z hz=>?_,j.pre.trans (List.prefix_append _ _),fun z hz hzc=>?_⟩
   · refine List.nodup_append.mpr ⟨j.nd,by simp,fun a ha b hb=>?_⟩
     rw [List.mem_singleton.mp hb]
     intro e
     exact hc.2 (e ▸ ha)
   · rcases List.mem_append.mp hz with hz | hz
     · exact j.rc z hz
     · rw [List.mem_singleton.mp hz]
       exact .step hx hy hc.1
   · rcases List.mem_append.mp hz with hz | hz
     · exact List.mem_append_left _ (j.al z hz hzc)
     · rw [List.mem_singleton.mp hz]
       simp
 · rename_i hc
   refine ⟨j.nd,j.rc,j.pre,fun z hz hzc=>?_⟩
   rcases List.mem_append.mp hz with hz | hz
   · exact j.al z hz hzc
   · rw [List.mem_singleton.mp hz] at hzc ⊢
     exact Decidable.byContradiction fun n=>hc ⟨hzc,n⟩
theorem BJ.done {h w:Int} {cs:List Int} {st:Int} {f0 fs:List Int} {pl:Nat} {x:Int} (b:BI h w cs st f0 pl) (hx:f0[pl]? =some x) (j:BJ h w cs st f0 pl (besL h w x) fs):BI h w cs st fs (pl+1):=by
 have hlt:pl < f0.length:=(List.getElem?_eq_some_iff.mp hx).1
 have hle:=j.pre.length_le
 have get:∀ i,i < f0.length→fs[i]? =f0[i]? :=fun i hi=>by
  obtain ⟨t,e⟩:=j.pre
  rw [← e,List.getElem?_append_left hi]
 refine ⟨j.nd,j.rc,j.pre.subset b.hst,by omega,fun i z y hi hz hy hc=>?_⟩
 rw [get i (by omega)] at hz
 by_cases e:i < pl
 · exact j.pre.subset (b.cl i z y e hz hy hc)
 · have:i=pl:=by omega
   subst this
   rw [hx] at hz
   cases hz
   exact j.al y hy hc
theorem tN {rs fs:List Int} (p:rs.Perm fs) (s:rs.Pairwise (· ≤·)) (nd:fs.Nodup):rs.Pairwise (· < ·):=by
 have nd':rs.Nodup:=p.nodup_iff.mpr nd
 refine (s.and nd').imp ?_
 intro a b h
 have:=h.1
 have:=h.2
 omega
theorem l9:∀ {xs ys:List Int},xs.Pairwise (· < ·)→ys.Pairwise (· < ·)→(∀ z,z∈xs↔z∈ys)→xs=ys
 | [],[],_,_,_=>rfl
 | [],y::ys,_,_,h=>absurd ((h y).mpr List.mem_cons_self) (fun q=>nomatch q)
 | x::xs,[],_,_,h=>absurd ((h x).mp List.mem_cons_self) (fun q=>nomatch q)
 | x::xs,y::ys,hx,hy,h=>by
  have hx':=List.pairwise_cons.mp hx
  have hy':=List.pairwise_cons.mp hy
  have e:x=y:=by
   rcases List.mem_cons.mp ((h x).mp List.mem_cons_self) with e | m1
   · exact e
   · rcases List.mem_cons.mp ((h y).mpr List.mem_cons_self) with e | m2
     · exact e.symm
     · have:=hy'.1 x m1
       have:=hx'.1 y m2
       omega
  subst e
  refine congrArg (x::·) (l9 hx'.2 hy'.2 fun z=>⟨fun m=>?_,fun m=>?_⟩)
  · rcases List.mem_cons.mp ((h z).mp (List.mem_cons_of_mem _ m)) with e | q
    · have:=hx'.1 z m; omega
    · exact q
  · rcases List.mem_cons.mp ((h z).mpr (List.mem_cons_of_mem _ m)) with e | q
    · have:=hy'.1 z m; omega
    · exact q
end L2
namespace L2
open PySem PySem.Spec PyProof.Rows
local macro_rules | `(tactic| walk_at "w")=>`(tactic| (first | simp only [bd,fg,iy,bh,gH,w_c,j3,gb,gj,fh,gk,w_b,w_not,iz,j4,gl,gm,iA,gI,dj,j5,gn,iB,iC,jv,iD,dk,gp,gq,gr,eP,eQ,eV,dl,dm,cA,iE,iF,iG,iH,iI,iJ,iK,iL,iM,iN,iO,iP,j8,gt,dn,gu,j9,gw,eX,dq,iQ,iR,gy,gz,gA,
 List.getElem?_cons_zero,List.getElem?_cons_succ,Option.some.injEq,exists_eq_left',exists_eq_left,List.set_cons_zero,List.set_cons_succ,cD,V.int.injEq,V.bl.injEq,V.ref.injEq,V.str.injEq,List.append_nil,List.nil_append,List.cons_append] | dsimp only | skip))
theorem aH {n:Nat} (h:n≤1000):n≤sizeLine:=Nat.le_of_lt (aD h)
def IsFl (H:Hp) (a:Addr) (h w g:Int):Prop:=H a=some (.tup [.int h,.int w,.int g])
theorem Same.laid {H H':Hp} {p:Addr} {o:HO} (s:Same H H') (h:H' p=none):Same H (upd H' p o):=fun b u e=>by
 rw [ai (au (s b u e) h)]
 exact s b u e
theorem Same.own {H H':Hp} {p:Addr} {o:HO} (s:Same H H') (h:H p=none):Same H (upd H' p o):=fun b u e=>by
 rw [ai (au e h)]
 exact s b u e
theorem bW {l:List Int} {i:Nat} {x:Int} (h:l[i]? =some x):l.getD i 0=x:=by
 rw [List.getD,h]; rfl
theorem jz {ns:List Int} {k:Int} (h0:0≤k) (h1:k < ns.length):atI (ns.map V.int) k=some (.int (ns.getD k.toNat 0)):=by
 have e:((k.toNat:Nat):Int)=k:=Int.toNat_of_nonneg h0
 have hlt:k.toNat < ns.length:=by omega
 have:(ns.map V.int)[k.toNat]? =some (.int (ns.getD k.toNat 0)):=by
  rw [List.getElem?_map,List.getElem?_eq_getElem hlt]
  simp [List.getD,hlt]
 have q:=gU this
 rw [e] at q
 exact q
theorem bi {α:Type} (l:List α):l.filter (fun _=>true)=l:=List.filter_eq_self.mpr fun _ _=>rfl
theorem bj {l:List Int} {i:Nat} {y:V} (h:(l.map V.int)[i]? =some y):∃ z,l[i]? =some z∧y=.int z:=by
 rw [List.getElem?_map] at h
 cases e:l[i]? with
 | none=>rw [e] at h; cases h
 | some z=>rw [e] at h; cases h; exact ⟨z,rfl,rfl⟩
theorem dZ {l:List Addr} {i:Nat} {y:V} (h:(l.map V.ref)[i]? =some y):∃ z,l[i]? =some z∧y=.ref z:=by
 rw [List.getElem?_map] at h
 cases e:l[i]? with
 | none=>rw [e] at h; cases h
 | some z=>rw [e] at h; cases h; exact ⟨z,rfl,rfl⟩
theorem iT {h w:Int} (h0:1≤h) (h1:h≤6):CMul h w:=.inl ⟨by omega,by omega⟩
section
variable {k:Nat} {lo:Int} {n:Nat} {tt:TT} {te:TE} {fin:Addr→Hp→Prop} {σ0:St} {H1:Hp} {K:PySem.W.Frag} {a:Addr}
theorem g9 {n i:Nat} (b:Nat→Bool) (h:i < n) (hn:n≤900):((List.range i).filter b).length≤900:=by
 have:=List.length_filter_le b (List.range i)
 rw [List.length_range] at this
 omega
theorem k9 (b:Nat→Bool) (f:Nat→V) (hn:n≤900)
  (ht:∀ i H R,i < n→Same H1 H→(∀ H',Same H H'→R (b i) H')→tt (σ0.set k (some (.int (lo+i)))) H R)
  (he:∀ i H Q,i < n→b i=true→Same H1 H→(∀ H',Same H H'→Q (f i) H')→te (σ0.set k (some (.int (lo+i)))) H Q)
  (hd:∀ l H,H1 l=none→Same H1 H→H l=some (.lst (((List.range n).filter b).map f))→fin l H):
  CompR (Itr lo n) (gName k) tt te fin σ0 H1:=by
 refine jw (fun l i σ H=>(σ=σ0∨∃ cv,σ=σ0.set k cv)∧Same H1 H∧H l=some (.lst (((List.range i).filter b).map f))) (fun l hl=>⟨.inl rfl,(Same.refl H1).laid hl,by rw [ae]; rfl⟩) ?_ (fun l σ H hl p=>hd l H hl p.2.1 p.2.2)
 rintro l i σ H hl hi ⟨hσ,s1,el⟩
 rw [bh]
 have e:σ.set k (some (.int (lo+i)))=σ0.set k (some (.int (lo+i))):=by
  rcases hσ with rfl | ⟨cv,rfl⟩
  · rfl
  · exact List.set_set ..
 rw [e]
 refine ht i H _ hi s1 fun H2 s2=>?_
 have el2:=s2 _ _ el
 cases hb:b i with
 | false=>
  rw [if_neg Bool.false_ne_true]
  refine ⟨.inr ⟨_,rfl⟩,s1.trans s2,?_⟩
  rw [List.range_succ,List.filter_append,List.filter_cons,hb]
  simpa using el2
 | true=>
  rw [if_pos rfl]
  refine he i H2 _ hi hb (s1.trans s2) fun H3 s3=>⟨_,s3 _ _ el2,by rw [List.length_map]; exact aD (Nat.le_trans (g9 b hi hn) (by decide)),.inr ⟨_,rfl⟩,((s1.trans s2).trans s3).own hl,?_⟩
  rw [ae,List.range_succ,List.filter_append,List.filter_cons,hb]
  simp
theorem cF {xs:List V} (b:Nat→Bool) (f:Nat→V) (hn:xs.length≤900) (hq:SqL K H1 a xs)
  (ht:∀ i x H R,xs[i]? =some x→Same H1 H→(∀ H',Same H H'→R (b i) H')→tt (σ0.set k (some x)) H R)
  (he:∀ i x H Q,xs[i]? =some x→b i=true→Same H1 H→(∀ H',Same H H'→Q (f i) H')→te (σ0.set k (some x)) H Q)
  (hd:∀ l H,H1 l=none→Same H1 H→H l=some (.lst (((List.range xs.length).filter b).map f))→fin l H):
  CompR (Itl K a) (gName k) tt te fin σ0 H1:=by
 refine j7 (xs:=xs) (fun l i σ H=>(σ=σ0∨∃ cv,σ=σ0.set k cv)∧Same H1 H∧H l=some (.lst (((List.range i).filter b).map f))) (fun l hl=>⟨.inl rfl,(Same.refl H1).laid hl,by rw [ae]; rfl⟩) (fun l i σ H _ _ p=>p.2.1.seq hq) ?_ (fun l σ H hl p=>hd l H hl p.2.1 p.2.2)
 rintro l i x σ H hl hx ⟨hσ,s1,el⟩
 have hi:i < xs.length:=(List.getElem?_eq_some_iff.mp hx).1
 rw [bh]
 have e:σ.set k (some x)=σ0.set k (some x):=by
  rcases hσ with rfl | ⟨cv,rfl⟩
  · rfl
  · exact List.set_set ..
 rw [e]
 refine ht i x H _ hx s1 fun H2 s2=>?_
 have el2:=s2 _ _ el
 cases hb:b i with
 | false=>
  rw [if_neg Bool.false_ne_true]
  refine ⟨.inr ⟨_,rfl⟩,s1.trans s2,?_⟩
  rw [List.range_succ,List.filter_append,List.filter_cons,hb]
  simpa using el2
 | true=>
  rw [if_pos rfl]
  refine he i x H2 _ hx hb (s1.trans s2) fun H3 s3=>⟨_,s3 _ _ el2,by rw [List.length_map]; exact aD (Nat.le_trans (g9 b hi hn) (by decide)),.inr ⟨_,rfl⟩,((s1.trans s2).trans s3).own hl,?_⟩
  rw [ae,List.range_succ,List.filter_append,List.filter_cons,hb]
  simp
theorem tO (b:Int→Bool) (f:Int→Int) (xs:List Int):((List.range xs.length).filter fun i=>b (xs.getD i 0)).map (fun i=>V.int (f (xs.getD i 0)))=((xs.filter b).map f).map V.int:=by
 have e:xs=(List.range xs.length).map fun i=>xs.getD i 0:=by
  refine List.ext_getElem? fun i=>?_
  rw [List.getElem?_map]
  by_cases h:i < xs.length
  · rw [List.getElem?_range h,List.getElem?_eq_getElem h]
    simp [List.getD,h]
  · rw [List.getElem?_eq_none (by omega),List.getElem?_eq_none (by simpa using h)]; rfl
 conv=>rhs; rw [e]
 rw [List.filter_map,List.map_map,List.map_map]
 rfl
theorem jA {xs:List Int} (b:Int→Bool) (f:Int→Int) (hn:xs.length≤900) (hq:SqL K H1 a (xs.map V.int))
  (ht:∀ x H R,x∈xs→Same H1 H→(∀ H',Same H H'→R (b x) H')→tt (σ0.set k (some (.int x))) H R)
  (he:∀ x H Q,x∈xs→b x=true→Same H1 H→(∀ H',Same H H'→Q (.int (f x)) H')→te (σ0.set k (some (.int x))) H Q)
  (hd:∀ l H,H1 l=none→Same H1 H→H l=some (.lst (((xs.filter b).map f).map V.int))→fin l H):
  CompR (Itl K a) (gName k) tt te fin σ0 H1:=by
 refine cF (xs:=xs.map V.int) (fun i=>b (xs.getD i 0)) (fun i=>.int (f (xs.getD i 0))) (by rw [List.length_map]; exact hn) hq ?_ ?_ ?_
 · intro i x H R hx s1 h
   obtain ⟨z,hz,rfl⟩:=bj hx
   rw [bW hz] at h
   exact ht z H R (List.mem_of_getElem? hz) s1 h
 · intro i x H Q hx hb s1 h
   obtain ⟨z,hz,rfl⟩:=bj hx
   rw [bW hz] at h hb
   exact he z H Q (List.mem_of_getElem? hz) hb s1 h
 · intro l H hl s1 el
   refine hd l H hl s1 ?_
   rw [List.length_map] at el
   rw [el,tO]
structure NewAt (H1 H:Hp) (l:Addr) (as:List Addr) (os:List HO):Prop where
 len:as.length=os.length
 nd:as.Nodup
 nl:l∉as
 fr:∀ a∈as,H1 a=none
 at_:∀ (j:Nat) (a:Addr) (o:HO),as[j]? =some a→os[j]? =some o→H a=some o
theorem NewAt.nil {H1 H:Hp} {l:Addr}:NewAt H1 H l [] [] where
 len:=rfl
 nd:=List.nodup_nil
 nl:=by simp
 fr:=fun a h=>nomatch h
 at_:=fun j a o h=>by simp at h
theorem NewAt.same {H1 H H':Hp} {l:Addr} {as:List Addr} {os:List HO} (x:NewAt H1 H l as os) (s:Same H H'):NewAt H1 H' l as os:=
 ⟨x.len,x.nd,x.nl,x.fr,fun j a o h1 h2=>s _ _ (x.at_ j a o h1 h2)⟩
theorem NewAt.mem {H1 H:Hp} {l:Addr} {as:List Addr} {os:List HO} (x:NewAt H1 H l as os) {a:Addr} (h:a∈as):∃ o,H a=some o:=by
 obtain ⟨j,hj,e⟩:=List.mem_iff_getElem.mp h
 have hj2:j < os.length:=by rw [← x.len]; exact hj
 exact ⟨os[j],x.at_ j a os[j] (by rw [List.getElem?_eq_getElem hj,e]) (List.getElem?_eq_getElem hj2)⟩
theorem NewAt.more {H1 H H2:Hp} {l p:Addr} {as:List Addr} {os:List HO} {o u:HO} (x:NewAt H1 H l as os) (s1:Same H1 H) (s:Same H H2) (hp:H p=none) (e:H2 p=some o) (hl:H l=some u) (o':HO):NewAt H1 (upd H2 l o') l (as++[p]) (os++[o]):=by
 have npl:p≠l:=fun z=>by rw [z,hl] at hp; cases hp
 refine ⟨by simp [x.len],?_,?_,?_,?_⟩
 · refine List.nodup_append.mpr ⟨x.nd,by simp,fun a ha b hb z=>?_⟩
   rw [List.mem_singleton.mp hb] at z
   obtain ⟨o2,e2⟩:=x.mem ha
   rw [z,hp] at e2; cases e2
 · intro hm
   rcases List.mem_append.mp hm with hm | hm
   · exact x.nl hm
   · exact npl (List.mem_singleton.mp hm).symm
 · intro a ha
   rcases List.mem_append.mp ha with ha | ha
   · exact x.fr a ha
   · rw [List.mem_singleton.mp ha]
     cases q:H1 p with
     | none=>rfl
     | some v=>rw [s1 _ _ q] at hp; cases hp
 · intro j a o2 h1 h2
   have hlen:=x.len
   by_cases hj:j < as.length
   · rw [List.getElem?_append_left hj] at h1
     rw [List.getElem?_append_left (by omega)] at h2
     have nal:a≠l:=fun z=>x.nl (z ▸ List.mem_of_getElem? h1)
     rw [ai nal]
     exact s _ _ (x.at_ j a o2 h1 h2)
   · rw [List.getElem?_append_right (by omega)] at h1
     rw [List.getElem?_append_right (by omega)] at h2
     have e0:j - as.length=0:=by
      have:=(List.getElem?_eq_some_iff.mp h1).1
      simp at this
      omega
     rw [e0] at h1
     rw [show j - os.length=0 by omega] at h2
     simp at h1 h2
     subst h1 h2
     rw [ai npl]
     exact e
theorem qM (b:Nat→Bool) (o:Nat→HO) (hn:n≤900)
  (ht:∀ i H R,i < n→Same H1 H→(∀ H',Same H H'→R (b i) H')→tt (σ0.set k (some (.int (lo+i)))) H R)
  (he:∀ i H Q,i < n→b i=true→Same H1 H→(∀ a H',Same H H'→H a=none→H' a=some (o i)→Q (.ref a) H')→te (σ0.set k (some (.int (lo+i)))) H Q)
  (hd:∀ l as H,H1 l=none→Same H1 H→H l=some (.lst (as.map V.ref))→NewAt H1 H l as (((List.range n).filter b).map o)→fin l H):
  CompR (Itr lo n) (gName k) tt te fin σ0 H1:=by
 refine jw (fun l i σ H=>(σ=σ0∨∃ cv,σ=σ0.set k cv)∧Same H1 H∧∃ as:List Addr,H l=some (.lst (as.map V.ref))∧NewAt H1 H l as (((List.range i).filter b).map o)) (fun l hl=>⟨.inl rfl,(Same.refl H1).laid hl,[],by rw [ae]; rfl,NewAt.nil⟩) ?_ (fun l σ H hl ⟨_,s1,as,el,x⟩=>hd l as H hl s1 el x)
 rintro l i σ H hl hi ⟨hσ,s1,as,el,x⟩
 rw [bh]
 have e:σ.set k (some (.int (lo+i)))=σ0.set k (some (.int (lo+i))):=by
  rcases hσ with rfl | ⟨cv,rfl⟩
  · rfl
  · exact List.set_set ..
 rw [e]
 refine ht i H _ hi s1 fun H2 s2=>?_
 have el2:=s2 _ _ el
 have x2:=x.same s2
 have s12:=s1.trans s2
 cases hb:b i with
 | false=>
  rw [if_neg Bool.false_ne_true]
  refine ⟨.inr ⟨_,rfl⟩,s12,as,el2,?_⟩
  rw [List.range_succ,List.filter_append,List.filter_cons,hb]
  simpa using x2
 | true=>
  rw [if_pos rfl]
  refine he i H2 _ hi hb s12 fun p H3 s3 hp ep=>⟨_,s3 _ _ el2,?_,.inr ⟨_,rfl⟩,(s12.trans s3).own hl,as++[p],?_,?_⟩
  · rw [List.length_map,x2.len,List.length_map]; exact aD (Nat.le_trans (g9 b hi hn) (by decide))
  · rw [ae]; simp
  · have y:=x2.more s12 s3 hp ep el2 (.lst (as.map V.ref++[V.ref p]))
    rw [List.range_succ,List.filter_append,List.filter_cons,hb]
    simpa using y
theorem rT {xs:List V} (b:Nat→Bool) (o:Nat→HO) (hn:xs.length≤900) (hq:SqL K H1 a xs)
  (ht:∀ i x H R,xs[i]? =some x→Same H1 H→(∀ H',Same H H'→R (b i) H')→tt (σ0.set k (some x)) H R)
  (he:∀ i x H Q,xs[i]? =some x→b i=true→Same H1 H→(∀ a H',Same H H'→H a=none→H' a=some (o i)→Q (.ref a) H')→te (σ0.set k (some x)) H Q)
  (hd:∀ l as H,H1 l=none→Same H1 H→H l=some (.lst (as.map V.ref))→NewAt H1 H l as (((List.range xs.length).filter b).map o)→fin l H):
  CompR (Itl K a) (gName k) tt te fin σ0 H1:=by
 refine j7 (xs:=xs) (fun l i σ H=>(σ=σ0∨∃ cv,σ=σ0.set k cv)∧Same H1 H∧∃ as:List Addr,H l=some (.lst (as.map V.ref))∧NewAt H1 H l as (((List.range i).filter b).map o)) (fun l hl=>⟨.inl rfl,(Same.refl H1).laid hl,[],by rw [ae]; rfl,NewAt.nil⟩) (fun l i σ H _ _ p=>p.2.1.seq hq) ?_ (fun l σ H hl ⟨_,s1,as,el,x⟩=>hd l as H hl s1 el x)
 rintro l i y σ H hl hy ⟨hσ,s1,as,el,x⟩
 have hi:i < xs.length:=(List.getElem?_eq_some_iff.mp hy).1
 rw [bh]
 have e:σ.set k (some y)=σ0.set k (some y):=by
  rcases hσ with rfl | ⟨cv,rfl⟩
  · rfl
  · exact List.set_set ..
 rw [e]
 refine ht i y H _ hy s1 fun H2 s2=>?_
 have el2:=s2 _ _ el
 have x2:=x.same s2
 have s12:=s1.trans s2
 cases hb:b i with
 | false=>
  rw [if_neg Bool.false_ne_true]
  refine ⟨.inr ⟨_,rfl⟩,s12,as,el2,?_⟩
  rw [List.range_succ,List.filter_append,List.filter_cons,hb]
  simpa using x2
 | true=>
  rw [if_pos rfl]
  refine he i y H2 _ hy hb s12 fun p H3 s3 hp ep=>⟨_,s3 _ _ el2,?_,.inr ⟨_,rfl⟩,(s12.trans s3).own hl,as++[p],?_,?_⟩
  · rw [List.length_map,x2.len,List.length_map]; exact aD (Nat.le_trans (g9 b hi hn) (by decide))
  · rw [ae]; simp
  · have z:=x2.more s12 s3 hp ep el2 (.lst (as.map V.ref++[V.ref p]))
    rw [List.range_succ,List.filter_append,List.filter_cons,hb]
    simpa using z
end
theorem DVs.of_get {K:PySem.W.Frag} {H:Hp}:∀ {xs:List V} {ds:List PyData},xs.length=ds.length→(∀ (i:Nat) x d,xs[i]? =some x→ds[i]? =some d→DV K H x d)→DVs K H xs ds
 | [],[],_,_=>.nil
 | [],_::_,h,_=>by simp at h
 | _::_,[],h,_=>by simp at h
 | x::xs,d::ds,h,f=>.cons (f 0 x d rfl rfl) (DVs.of_get (by simpa using h) fun i y e h1 h2=>f (i+1) y e (by simpa using h1) (by simpa using h2))
theorem nk:∀ {ds:List PyData},(∀ d∈ds,PyData.canLay0 d=true)→PyData.canLayAll0 ds=true
 | [],_=>rfl
 | d::r,h=>by rw [PyData.canLayAll0,h d List.mem_cons_self,nk fun e he=>h e (List.mem_cons_of_mem _ he)]; rfl
theorem kf {n:Nat}:∀ {ds:List PyData},(∀ d∈ds,PyData.depth d≤n)→PyData.depthAll ds≤n
 | [],_=>Nat.zero_le _
 | d::r,h=>by rw [PyData.depthAll]; exact Nat.max_le.mpr ⟨h d List.mem_cons_self,kf fun e he=>h e (List.mem_cons_of_mem _ he)⟩
def dLI (xs:List Int):PyData:=.list (xs.map PyData.int)
theorem vq (xs:List Int):PyData.canLay0 (dLI xs)=true:=by unfold dLI; rw [PyData.canLay0]; exact lf xs
theorem tP (xs:List Int):PyData.depth (dLI xs)=1:=by unfold dLI; rw [PyData.depth,ju]
theorem rj (xs ys:List Int):PyData.eqv (dLI xs) (dLI ys)=decide (xs=ys):=by unfold dLI; rw [PyData.eqv,pP]
theorem jk {α:Type} [DecidableEq α] (g:α→PyData) (hg:∀ a b,PyData.eqv (g a) (g b)=decide (a=b)):∀ xs ys:List α,PyData.eqvAll (xs.map g) (ys.map g)=decide (xs=ys)
 | [],[]=>rfl
 | [],_::_=>rfl
 | _::_,[]=>rfl
 | x::xs,y::ys=>by
  rw [List.map_cons,List.map_cons,PyData.eqvAll,hg,jk g hg xs ys,Bool.eq_iff_iff]
  simp
structure IsLL (H:Hp) (l:Addr) (as:List Addr) (xss:List (List Int)):Prop where
 top:H l=some (.lst (as.map V.ref))
 len:as.length=xss.length
 at_:∀ (j:Nat) (a:Addr) (xs:List Int),as[j]? =some a→xss[j]? =some xs→H a=some (.lst (xs.map V.int))
theorem IsLL.same {H H':Hp} {l:Addr} {as:List Addr} {xss:List (List Int)} (x:IsLL H l as xss) (s:Same H H'):IsLL H' l as xss:=
 ⟨s _ _ x.top,x.len,fun j a xs h1 h2=>s _ _ (x.at_ j a xs h1 h2)⟩
theorem IsLL.dv {K:PySem.W.Frag} {H:Hp} {l:Addr} {as:List Addr} {xss:List (List Int)} (x:IsLL H l as xss):DV K H (.ref l) (.list (xss.map dLI)):=by
 refine .lst (SqL.of x.top) (DVs.of_get (by simp [x.len]) fun i y d h1 h2=>?_)
 obtain ⟨a,ha,rfl⟩:=dZ h1
 rw [List.getElem?_map] at h2
 cases e:xss[i]? with
 | none=>rw [e] at h2; cases h2
 | some xs=>
  rw [e] at h2
  cases h2
  exact .lst (SqL.of (x.at_ i a xs ha e)) (.ints xs)
theorem iU (xss:List (List Int)):SeqAt.shaped (.list (xss.map dLI))=true:=by
 have h1:PyData.canLayAll0 (xss.map dLI)=true:=nk fun d hd=>by obtain ⟨x,_,rfl⟩:=List.mem_map.mp hd; exact vq x
 have h2:PyData.depthAll (xss.map dLI)≤1:=kf fun d hd=>by obtain ⟨x,_,rfl⟩:=List.mem_map.mp hd; rw [tP]; exact Nat.le_refl _
 simp [SeqAt.shaped,PyData.canLay0,h1,PyData.depth]
 omega
theorem wt {K:PySem.W.Frag} {H:Hp} {Q:VK} {p q:Addr} {as bs:List Addr} {xss yss:List (List Int)} (hp:IsLL H p as xss) (hq:IsLL H q bs yss) (h:Q (.bl (decide (xss=yss))) H):cEq K (.ref p) (.ref q) H Q:=by
 show rEqD K (.ref p) (.ref q) H Q
 refine ⟨_,_,hp.dv,hq.dv,iU xss,iU yss,?_⟩
 rw [PyData.eqv,jk dLI rj]
 exact h
def b5 (K:PySem.W.Frag):Sp:=fun vs H Q _=>∃ (a:Addr) (h w g c:Int),vs=[.ref a,.int c]∧IsFl H a h w g∧0 < w∧w < 100∧∀ p,H p=none→Q (.ref p) (upd H p (.tup [.int (c / w),.int (c % w)]))
theorem rV {K:PySem.W.Frag} {vs:List V} {H:Hp} {Q:VK} {E:XK} (h:b5 K vs H Q E):vs.length=2:=by
 obtain ⟨_,_,_,_,_,rfl,_⟩:=h; rfl
def gJ (K:PySem.W.Frag):TS:=
 (tSeq (tAsg (tOp cIx (tVar 0) (tC (.int 1))) (gName 2))
  (tRet (tTup (tCons (tOp cDiv (tVar 1) (tVar 2)) (tCons (tOp cMod (tVar 1) (tVar 2)) tNil)))))
theorem rW {K:PySem.W.Frag} {vs:List V} {H:Hp} {Q:VK} {E:XK} (h:b5 K vs H Q E):gJ K { nx:=fun _ H'=>Q .non H',rt:=Q } (start ["floor","cell","wide"] vs) H:=by
 obtain ⟨a,h,w,g,c,rfl,ha,w0,w1,k⟩:=h
 show gJ K _ [some (.ref a),some (.int c),none] H
 unfold gJ
 walk_at "w"
 rw [eF ha]
 refine aL (a:=V.int w) rfl ?_
 walk_at "w"
 refine ⟨⟨w0,by omega⟩,w0,aH (by show (2:Nat)≤1000; decide),k⟩
def cB (K:PySem.W.Frag):Sp:=fun vs H Q _=>∃ (a:Addr) (h w g c:Int),vs=[.ref a,.int c]∧IsFl H a h w g∧0 < w∧w < 100∧∀ l H',Same H H'→H l=none→H' l=some (.lst ((besL h w c).map V.int))→Q (.ref l) H'
theorem tQ {K:PySem.W.Frag} {vs:List V} {H:Hp} {Q:VK} {E:XK} (h:cB K vs H Q E):vs.length=2:=by
 obtain ⟨_,_,_,_,_,rfl,_⟩:=h; rfl
def iV (K:PySem.W.Frag):TS:=
 (tSeq (tAsg (tOp cIx (tVar 0) (tC (.int 0))) (gName 2))
  (tSeq (tAsg (tOp cIx (tVar 0) (tC (.int 1))) (gName 3))
  (tSeq (tAsg (tCall (b5 K) [] E0 (tCons (tVar 0) (tCons (tVar 1) tNil))) (gName 4))
  (tSeq (tAsg (tLst tNil) (gName 5))
  (tSeq (tIfS (tTest (tOp (cCmp fun i j=>decide (j < i)) (tOp cIx (tVar 4) (tC (.int 0))) (tC (.int 0)))) (tDrop (tBM K "list" bO (tVar 5) (tCons (tOp cSub (tVar 1) (tVar 3)) tNil))) tNext)
  (tSeq (tIfS (tTest (tOp (cCmp fun i j=>decide (j < i)) (tOp cIx (tVar 4) (tC (.int 1))) (tC (.int 0)))) (tDrop (tBM K "list" bO (tVar 5) (tCons (tOp cSub (tVar 1) (tC (.int 1))) tNil))) tNext)
  (tSeq (tIfS (tTest (tOp (cCmp fun i j=>decide (i < j)) (tOp cIx (tVar 4) (tC (.int 1))) (tOp cSub (tVar 3) (tC (.int 1))))) (tDrop (tBM K "list" bO (tVar 5) (tCons (tOp cAdd (tVar 1) (tC (.int 1))) tNil))) tNext)
  (tSeq (tIfS (tTest (tOp (cCmp fun i j=>decide (i < j)) (tOp cIx (tVar 4) (tC (.int 0))) (tOp cSub (tVar 2) (tC (.int 1))))) (tDrop (tBM K "list" bO (tVar 5) (tCons (tOp cAdd (tVar 1) (tVar 3)) tNil))) tNext)
  (tRet (tVar 5))))))))))
theorem ma {K:PySem.W.Frag} {D:Ends} {σ:St} {H:Hp} {t:TT} {e:TE} {b:Bool} {v:Int} {l:Addr} {i:Nat} {ns:List Int} (hσ:σ[i]? =some (some (.ref l))) (ht:∀ R,R b H→t σ H R) (hl:H l=some (.lst (ns.map V.int))) (hn:ns.length≤900)
  (he:∀ Q,Q (.int v) H→e σ H Q) (k:∀ H',(H' l=some (.lst ((ns++if b=true then [v] else []).map V.int)))→(∀ c,c≠l→H' c=H c)→D.nx σ H'):
  tIfS t (tDrop (tBM K "list" bO (tVar i) (tCons e tNil))) tNext D σ H:=by
 rw [aT]
 refine ht _ ?_
 cases b with
 | false=>
  refine iteF ?_
  rw [fg]
  exact k H (by simpa using hl) fun _ _=>rfl
 | true=>
  refine iteT ?_
  rw [fh,jv,gH]
  refine ⟨_,hσ,eE hl,?_⟩
  rw [dj]
  refine he _ ?_
  rw [gI,g5 hl]
  refine ⟨by rw [List.length_map]; exact aD (by omega),k _ ?_ fun c hc=>ai hc⟩
  rw [ae]
  simp
theorem tR {K:PySem.W.Frag} {vs:List V} {H:Hp} {Q:VK} {E:XK} (h:cB K vs H Q E):iV K { nx:=fun _ H'=>Q .non H',rt:=Q } (start ["floor","cell","high","wide","spot","found"] vs) H:=by
 obtain ⟨a,h,w,g,c,rfl,ha,w0,w1,k⟩:=h
 show iV K _ [some (.ref a),some (.int c),none,none,none,none] H
 unfold iV
 walk_at "w"
 rw [eF ha]
 refine aL (a:=V.int h) rfl ?_
 walk_at "w"
 rw [eF ha]
 refine aL (a:=V.int w) rfl ?_
 walk_at "w"
 refine ⟨a,h,w,g,c,rfl,ha,w0,w1,fun p hp=>?_⟩
 walk_at "w"
 refine ⟨aH (by decide),fun l hl=>?_⟩
 have npl:p≠l:=fun e=>by rw [e,ae] at hl; cases hl
 have hl0:H l=none:=by rw [ai npl.symm] at hl; exact hl
 have hpS:∀ H':Hp,(∀ d,d≠l→H' d=upd H p (.tup [.int (c / w),.int (c % w)]) d)→H' p=some (.tup [.int (c / w),.int (c % w)]):=fun H' e=>by rw [e p npl,ae]
 refine ma (ns:=[]) (l:=l) (i:=5) (b:=decide (0 < c / w)) (v:=c - w) rfl (fun R q=>?_) ae (by decide) (fun Q q=>?_) fun H1 e1 f1=>?_
 · walk_at "w"
   rw [eF (hpS _ fun d hd=>ai hd)]
   refine aL rfl ?_
   walk_at "w"
   exact q
 · walk_at "w"
   exact q
 walk_at "w"
 refine ma (l:=l) (i:=5) (b:=decide (0 < c % w)) (v:=c - 1) rfl (fun R q=>?_) e1 (by simp; split <;> simp) (fun Q q=>?_) fun H2 e2 f2=>?_
 · walk_at "w"
   rw [eF (hpS _ fun d hd=>by rw [f1 d hd,ai hd])]
   refine aL rfl ?_
   walk_at "w"
   exact q
 · walk_at "w"
   exact q
 walk_at "w"
 refine ma (l:=l) (i:=5) (b:=decide (c % w < w - 1)) (v:=c+1) rfl (fun R q=>?_) e2 (by simp; split <;> split <;> simp) (fun Q q=>?_) fun H3 e3 f3=>?_
 · walk_at "w"
   rw [eF (hpS _ fun d hd=>by rw [f2 d hd,f1 d hd,ai hd])]
   refine aL rfl ?_
   walk_at "w"
   exact q
 · walk_at "w"
   exact q
 walk_at "w"
 refine ma (l:=l) (i:=5) (b:=decide (c / w < h - 1)) (v:=c+w) rfl (fun R q=>?_) e3 (by simp; split <;> split <;> split <;> simp) (fun Q q=>?_) fun H4 e4 f4=>?_
 · walk_at "w"
   rw [eF (hpS _ fun d hd=>by rw [f3 d hd,f2 d hd,f1 d hd,ai hd])]
   refine aL rfl ?_
   walk_at "w"
   exact q
 · walk_at "w"
   exact q
 walk_at "w"
 refine k l H4 (fun b o e=>?_) hl0 ?_
 · have nb:b≠l:=au e hl0
   have nbp:b≠p:=au e hp
   rw [f4 b nb,f3 b nb,f2 b nb,f1 b nb,ai nb,ai nbp]
   exact e
 · rw [e4]
   unfold besL
   simp [decide_eq_true_eq]
def lawAt (ns:List Int) (k:Int):Int:=
 if k < (ns.length:Int) then ns.getD k.toNat 0 else
  (if 0 < (ns.length:Int) then 7*k+3+ns.getD (k % ns.length).toNat 0 % 1000003*(k+1) else 7*k+3)*(if 0 < (ns.length:Int) then 7*k+3+ns.getD (k % ns.length).toNat 0 % 1000003*(k+1) else 7*k+3) % 999979+
  (if 0 < (ns.length:Int) then 7*k+3+ns.getD (k % ns.length).toNat 0 % 1000003*(k+1) else 7*k+3) % 101
def aM (K:PySem.W.Frag):Sp:=fun vs H Q _=>∃ (a:Addr) (ns:List Int) (k:Int),vs=[.ref a,.int k]∧SqL K H a (ns.map V.int)∧ns.length≤63∧0≤k∧k≤1000∧Q (.int (lawAt ns k)) H
theorem rX {K:PySem.W.Frag} {vs:List V} {H:Hp} {Q:VK} {E:XK} (h:aM K vs H Q E):vs.length=2:=by
 obtain ⟨_,_,_,rfl,_⟩:=h; rfl
def gK (K:PySem.W.Frag):TS:=
 (tSeq (tIfS (tTest (tOp (cCmp fun i j=>decide (i < j)) (tVar 1) (tCB (kLenS K) (tCons (tVar 0) tNil)))) (tRet (tOp (rIxL K) (tVar 0) (tVar 1))) tNext)
  (tSeq (tAsg (tOp cAdd (tOp cMul (tC (.int 7)) (tVar 1)) (tC (.int 3))) (gName 2))
  (tSeq (tIfS (tTest (tOp (cCmp fun i j=>decide (j < i)) (tCB (kLenS K) (tCons (tVar 0) tNil)) (tC (.int 0)))) (tAsg (tOp cAdd (tVar 2) (tOp cMul (tOp cMod (tOp (rIxL K) (tVar 0) (tOp cMod (tVar 1) (tCB (kLenS K) (tCons (tVar 0) tNil)))) (tC (.int 1000003))) (tOp cAdd (tVar 1) (tC (.int 1))))) (gName 2)) tNext)
  (tRet (tOp cAdd (tOp cMod (tOp cMul (tVar 2) (tVar 2)) (tC (.int 999979))) (tOp cMod (tVar 2) (tC (.int 101))))))))
theorem rY {K:PySem.W.Frag} {vs:List V} {H:Hp} {Q:VK} {E:XK} (h:aM K vs H Q E):gK K { nx:=fun _ H'=>Q .non H',rt:=Q } (start ["_law_script","_law_k","_law_mixed"] vs) H:=by
 obtain ⟨a,ns,k,rfl,hS,hn,k0,k1,q⟩:=h
 show gK K _ [some (.ref a),some (.int k),none] H
 unfold gK
 rw [bd,aT]
 walk_at "w"
 refine ⟨a,_,rfl,.inl hS,?_⟩
 walk_at "w"
 rw [List.length_map]
 unfold lawAt at q
 by_cases hk:k < (ns.length:Int)
 · rw [if_pos hk] at q
   rw [if_pos (decide_eq_true hk)]
   exact ⟨a,_,k,_,rfl,rfl,hS,jz k0 hk,q⟩
 · rw [if_neg hk] at q
   rw [if_neg (by simpa using hk)]
   refine ⟨.inl (by omega),?_⟩
   rw [aT]
   walk_at "w"
   refine ⟨a,_,rfl,.inl hS,?_⟩
   walk_at "w"
   rw [List.length_map]
   by_cases hl:0 < (ns.length:Int)
   · simp only [if_pos hl] at q
     rw [if_pos (decide_eq_true hl)]
     refine ⟨a,_,rfl,.inl hS,?_⟩
     walk_at "w"
     rw [List.length_map]
     have m0:=Int.emod_nonneg k (Int.ne_of_gt hl)
     have m1:=Int.emod_lt_of_pos k hl
     refine ⟨hl,a,_,_,_,rfl,rfl,hS,jz m0 m1,?_⟩
     walk_at "w"
     generalize ns.getD (k % ns.length).toNat 0=z at q ⊢
     have z0:=Int.emod_nonneg z (by decide:(1000003:Int)≠0)
     have z1:=Int.emod_lt_of_pos z (by decide:(0:Int) < 1000003)
     have b0:0≤z % 1000003*(k+1):=Int.mul_nonneg z0 (by omega)
     have b1:z % 1000003*(k+1)≤1000003*1001:=Int.mul_le_mul (by omega) (by omega) (by omega) (by decide)
     refine ⟨by decide,.inl ⟨by omega,by omega⟩,?_⟩
     walk_at "w"
     generalize z % 1000003*(k+1)=y at*
     exact ⟨.inl ⟨by omega,by omega⟩,by decide,by decide,q⟩
   · simp only [if_neg hl] at q
     rw [if_neg (by simpa using hl)]
     walk_at "w"
     exact ⟨.inl ⟨by omega,by omega⟩,by decide,by decide,q⟩
structure FlOk (h w g:Int):Prop where
 h0:1≤h
 h1:h≤6
 w0:1≤w
 w1:w≤6
 m:h*w≤16
 g0:1≤g
 g1:g≤6
def lawH (ns:List Int):Int:=1+lawAt ns 0 % 6
def lawW (ns:List Int):Int:=1+lawAt ns 1 % (if 16 / lawH ns < 6 then 16 / lawH ns else 6)
def lawG (ns:List Int):Int:=1+lawAt ns 2 % 6
theorem lawFl (ns:List Int):FlOk (lawH ns) (lawW ns) (lawG ns):=by
 have a0:=Int.emod_nonneg (lawAt ns 0) (by decide:(6:Int)≠0)
 have a1:=Int.emod_lt_of_pos (lawAt ns 0) (by decide:(0:Int) < 6)
 have c0:=Int.emod_nonneg (lawAt ns 2) (by decide:(6:Int)≠0)
 have c1:=Int.emod_lt_of_pos (lawAt ns 2) (by decide:(0:Int) < 6)
 have hh:lawH ns=1∨lawH ns=2∨lawH ns=3∨lawH ns=4∨lawH ns=5∨lawH ns=6:=by unfold lawH; omega
 have g0:1≤lawG ns∧lawG ns≤6:=by unfold lawG; omega
 have key:∀ m:Int,1≤m→m≤6→lawH ns*m≤16→(if 16 / lawH ns < 6 then 16 / lawH ns else 6)=m→FlOk (lawH ns) (lawW ns) (lawG ns):=fun m m0 m1 m2 e=>by
  have b0:=Int.emod_nonneg (lawAt ns 1) (by omega:m≠0)
  have b1:=Int.emod_lt_of_pos (lawAt ns 1) (by omega:0 < m)
  have ew:lawW ns=1+lawAt ns 1 % m:=by unfold lawW; rw [e]
  refine ⟨by omega,by omega,by omega,by omega,?_,g0.1,g0.2⟩
  refine Int.le_trans (Int.mul_le_mul_of_nonneg_left (show lawW ns≤m by omega) (by omega)) m2
 rcases hh with e | e | e | e | e | e <;> rw [e] at key ⊢
 · exact key 6 (by decide) (by decide) (by decide) rfl
 · exact key 6 (by decide) (by decide) (by decide) rfl
 · exact key 5 (by decide) (by decide) (by decide) rfl
 · exact key 4 (by decide) (by decide) (by decide) rfl
 · exact key 3 (by decide) (by decide) (by decide) rfl
 · exact key 2 (by decide) (by decide) (by decide) rfl
theorem lawM (ns:List Int):0 < (if 16 / lawH ns < 6 then 16 / lawH ns else (6:Int)):=by
 have a0:=Int.emod_nonneg (lawAt ns 0) (by decide:(6:Int)≠0)
 have a1:=Int.emod_lt_of_pos (lawAt ns 0) (by decide:(0:Int) < 6)
 have hh:lawH ns=1∨lawH ns=2∨lawH ns=3∨lawH ns=4∨lawH ns=5∨lawH ns=6:=by unfold lawH; omega
 rcases hh with e | e | e | e | e | e <;> rw [e] <;> decide
def bX (K:PySem.W.Frag):Sp:=fun vs H Q _=>∃ (a:Addr) (ns:List Int),vs=[.ref a]∧SqL K H a (ns.map V.int)∧ns.length≤63∧∀ p,H p=none→Q (.ref p) (upd H p (.tup [.int (lawH ns),.int (lawW ns),.int (lawG ns)]))
theorem oM {K:PySem.W.Frag} {vs:List V} {H:Hp} {Q:VK} {E:XK} (h:bX K vs H Q E):vs.length=1:=by
 obtain ⟨_,_,rfl,_⟩:=h; rfl
def d5 (K:PySem.W.Frag):TS:=
 (tSeq (tAsg (tOp cAdd (tC (.int 1)) (tOp cMod (tCall (aM K) [] E0 (tCons (tVar 0) (tCons (tC (.int 0)) tNil))) (tC (.int 6)))) (gName 1))
  (tSeq (tAsg (tOp cAdd (tC (.int 1)) (tOp cMod (tCall (aM K) [] E0 (tCons (tVar 0) (tCons (tC (.int 1)) tNil))) (tCB kMin (tCons (tC (.int 6)) (tCons (tOp cDiv (tC (.int 16)) (tVar 1)) tNil))))) (gName 2))
  (tRet (tTup (tCons (tVar 1) (tCons (tVar 2) (tCons (tOp cAdd (tC (.int 1)) (tOp cMod (tCall (aM K) [] E0 (tCons (tVar 0) (tCons (tC (.int 2)) tNil))) (tC (.int 6)))) tNil)))))))
theorem oN {K:PySem.W.Frag} {vs:List V} {H:Hp} {Q:VK} {E:XK} (h:bX K vs H Q E):d5 K { nx:=fun _ H'=>Q .non H',rt:=Q } (start ["_law_script","_law_high","_law_wide"] vs) H:=by
 obtain ⟨a,ns,rfl,hS,hn,q⟩:=h
 have F:=lawFl ns
 have:=F.h0
 have:=F.h1
 show d5 K _ [some (.ref a),none,none] H
 unfold d5
 walk_at "w"
 refine ⟨a,ns,0,rfl,hS,hn,by decide,by decide,?_⟩
 walk_at "w"
 refine ⟨by decide,?_⟩
 walk_at "w"
 refine ⟨a,ns,1,rfl,hS,hn,by decide,by decide,?_⟩
 walk_at "w"
 have hH:1+lawAt ns 0 % 6=lawH ns:=rfl
 rw [hH]
 refine ⟨⟨by omega,by omega⟩,lawM ns,?_⟩
 walk_at "w"
 refine ⟨a,ns,2,rfl,hS,hn,by decide,by decide,?_⟩
 walk_at "w"
 exact ⟨by decide,aH (by show (3:Nat)≤1000; decide),q⟩
section
variable {K:PySem.W.Frag} {H:Hp} {Q:VK}
theorem wu {p:Addr} {xs:List V} (hp:H p=some (.lst xs)) (h:Q (.bl true) H):kIsi [.ref p,.ty "list"] H Q:=by
 refine ⟨by decide,aL (a:="list") (by unfold g4; dsimp only; rw [hp]) ?_⟩
 rw [show isTy "list" "list"=true by decide]
 exact h
theorem wv {p:Addr} {xs:List V} (hp:H p=some (.tup xs)) (h:Q (.bl true) H):kIsi [.ref p,.ty "tuple"] H Q:=by
 refine ⟨by decide,aL (a:="tuple") (by unfold g4; dsimp only; rw [hp]) ?_⟩
 rw [show isTy "tuple" "tuple"=true by decide]
 exact h
end
end L2
namespace L2
open PySem PySem.Builtin PySem.Builtin.Str
def tx (l:List Nat):Str:=⟨l.toArray⟩
theorem md (l:List Nat):(tx l).cps.toList=l:=by simp [tx]
theorem wU (x:Str):tx x.cps.toList=x:=by cases x; simp [tx]
theorem tS {a b:List Nat} (h:tx a=tx b):a=b:=by rw [← md a,h,md]
theorem hJ (l:List Nat):(tx l).length=l.length:=by simp [tx,Str.length]
theorem tT (a b:List Nat):tx a++tx b=tx (a++b):=by
 refine Str.ext' ?_
 rw [Str.cps_append]
 simp [tx]
theorem me (a b:List Nat):decide (tx a=tx b)=decide (a=b):=by
 by_cases h:a=b
 · subst h; simp
 · have:¬ tx a=tx b:=fun e=>h (tS e)
   rw [decide_eq_false h,decide_eq_false this]
def catL (c:Nat):List (List Nat)→List Nat
 | []=>[]
 | [x]=>x
 | x::y::r=>x++c::catL c (y::r)
theorem nq (c:Nat):∀ ts:List (List Nat),Str.join (tx [c]) (ts.map tx)=tx (catL c ts)
 | []=>rfl
 | [x]=>rfl
 | x::y::r=>by
  show tx x++tx [c]++Str.join (tx [c]) ((y::r).map tx)=_
  rw [nq c (y::r),tT,tT]
  show tx _=tx (x++c::catL c (y::r))
  rw [List.append_assoc]; rfl
theorem uz (sep:Str) (ts:List Str):Txt.join sep ts=Str.join sep ts:=StrLaws.glued_eq_join sep ts
theorem rk {c:Nat}:∀ {a b x y:List Nat},c∉a→c∉b→a++c::x=b++c::y→a=b∧x=y
 | [],[],_,_,_,_,h=>⟨rfl,by simpa using h⟩
 | [],b::bs,_,_,_,hb,h=>by
  simp at h
  exact absurd (List.mem_cons.mpr (.inl h.1)) hb
 | a::as,[],_,_,ha,_,h=>by
  simp at h
  exact absurd (List.mem_cons.mpr (.inl h.1.symm)) ha
 | a::as,b::bs,x,y,ha,hb,h=>by
  simp at h
  have:=rk (fun z=>ha (List.mem_cons_of_mem _ z)) (fun z=>hb (List.mem_cons_of_mem _ z)) h.2
  exact ⟨by rw [h.1,this.1],this.2⟩
theorem pT {c:Nat}:∀ {x:List Nat} {r:List (List Nat)} {y:List Nat},c∈catL c (x::y::r):=by
 intro x r y
 show c∈x++c::_
 simp
theorem pU {c:Nat}:∀ {xs ys:List (List Nat)},xs≠[]→ys≠[]→(∀ x∈xs,c∉x)→(∀ y∈ys,c∉y)→catL c xs=catL c ys→xs=ys
 | [],_,h,_,_,_,_=>absurd rfl h
 | _,[],_,h,_,_,_=>absurd rfl h
 | [x],[y],_,_,_,_,h=>by
  have h':x=y:=h
  rw [h']
 | [x],y::z::r,_,_,hx,_,h=>by
  have h':x=catL c (y::z::r):=h
  exact absurd (h' ▸ pT) (hx x List.mem_cons_self)
 | x::z::r,[y],_,_,_,hy,h=>by
  have h':catL c (x::z::r)=y:=h
  exact absurd (h' ▸ pT) (hy y List.mem_cons_self)
 | x::z::r,y::u::s,_,_,hx,hy,h=>by
  obtain ⟨e1,e2⟩:=rk (hx x List.mem_cons_self) (hy y List.mem_cons_self) (show x++c::catL c (z::r)=y++c::catL c (u::s) from h)
  rw [e1,pU (by simp) (by simp) (fun w hw=>hx w (List.mem_cons_of_mem _ hw)) (fun w hw=>hy w (List.mem_cons_of_mem _ hw)) e2]
theorem uA (x y:Str):Txt.split x y≠[]:=by
 intro h
 unfold Txt.split at h
 split at h
 · cases h
 · split at h
   · cases h
   · rw [StrLaws.partsBetween_eq] at h
     obtain ⟨p,r,e⟩:=StrLaws.partsFrom_ne x y.length 0 (occurrences x y 0 x.length (x.length+1))
     rw [e] at h; cases h
theorem uB {c:Nat} {rows:List (List Nat)} (hne:rows≠[]) (hf:∀ r∈rows,c∉r):Txt.split (tx (catL c rows)) (tx [c])=rows.map tx:=by
 have h1:=StrLaws.join_split (tx (catL c rows)) (tx [c])
 have h2:∀ p∈Txt.split (tx (catL c rows)) (tx [c]),c∉p.cps.toList:=StrLaws.split_free _ c
 have h3:=uA (tx (catL c rows)) (tx [c])
 generalize Txt.split (tx (catL c rows)) (tx [c])=S at*
 have e:S=(S.map (·.cps.toList)).map tx:=by
  rw [List.map_map]
  conv=>lhs; rw [← List.map_id S]
  exact List.map_congr_left fun x _=>(wU x).symm
 rw [e,nq] at h1
 have h4:=tS h1
 have h5:=pU (c:=c) (xs:=S.map (·.cps.toList)) (ys:=rows) (by simpa using h3) hne (fun x hx=>by obtain ⟨p,hp,rfl⟩:=List.mem_map.mp hx; exact h2 p hp) hf h4
 rw [e,h5]
end L2
namespace L2
end L2
namespace L2
open PySem PySem.Spec PyProof.Rows
local macro_rules | `(tactic| walk_at "w")=>`(tactic| (first | simp only [bd,fg,iy,bh,gH,w_c,j3,gb,gj,fh,gk,w_b,w_not,iz,j4,gl,gm,iA,gI,dj,j5,gn,iB,iC,jv,iD,dk,gp,gq,gr,eP,eQ,eV,dl,dm,cA,iE,iF,iG,iH,iI,iJ,iK,iL,iM,iN,iO,iP,j8,gt,dn,gu,j9,gw,eX,dq,iQ,iR,gy,gz,gA,
 List.getElem?_cons_zero,List.getElem?_cons_succ,Option.some.injEq,exists_eq_left',exists_eq_left,List.set_cons_zero,List.set_cons_succ,cD,V.int.injEq,V.bl.injEq,V.ref.injEq,V.str.injEq,List.append_nil,List.nil_append,List.cons_append] | dsimp only | skip))
section
variable {k:Nat} {tt:TT} {te:TE} {fin:Addr→Hp→Prop} {σ0:St} {H1:Hp}
theorem tU {cs:List Nat} (b:Nat→Bool) (f:Nat→V) (hn:cs.length≤900)
  (ht:∀ i c H R,cs[i]? =some c→Same H1 H→(∀ H',Same H H'→R (b i) H')→tt (σ0.set k (some (.str (tx [c])))) H R)
  (he:∀ i c H Q,cs[i]? =some c→b i=true→Same H1 H→(∀ H',Same H H'→Q (f i) H')→te (σ0.set k (some (.str (tx [c])))) H Q)
  (hd:∀ l H,H1 l=none→Same H1 H→H l=some (.lst (((List.range cs.length).filter b).map f))→fin l H):
  CompR (Its (tx cs)) (gName k) tt te fin σ0 H1:=by
 intro l hl
 have hsz:(tx cs).cps.size=cs.length:=by simp [tx]
 refine ⟨fun i m σ H=>m=cs.length - i∧i≤cs.length∧(σ=σ0∨∃ cv,σ=σ0.set k cv)∧Same H1 H∧H l=some (.lst (((List.range i).filter b).map f)),⟨cs.length,by simp,Nat.zero_le _,.inl rfl,(Same.refl H1).laid hl,by rw [ae]; rfl⟩,?_⟩
 rintro i m σ H ⟨rfl,hi,hσ,s1,el⟩
 by_cases hlt:i < cs.length
 · refine .inr ⟨by show i < (tx cs).cps.size; rw [hsz]; exact hlt,fun σ H=>(σ=σ0∨∃ cv,σ=σ0.set k cv)∧Same H1 H∧H l=some (.lst (((List.range (i+1)).filter b).map f)),fun σ' H' p'=>⟨cs.length - (i+1),by omega,rfl,hlt,p'⟩,?_⟩
   rintro x H' ⟨rfl,c,hc,rfl⟩
   have hc':cs[i]? =some c:=by simpa [tx] using hc
   show gName k (.str (tx [c])) σ H' _
   rw [bh]
   have e:σ.set k (some (.str (tx [c])))=σ0.set k (some (.str (tx [c]))):=by
    rcases hσ with rfl | ⟨cv,rfl⟩
    · rfl
    · exact List.set_set ..
   rw [e]
   refine ht i c H' _ hc' s1 fun H2 s2=>?_
   have el2:=s2 _ _ el
   cases hb:b i with
   | false=>
    rw [if_neg Bool.false_ne_true]
    refine ⟨.inr ⟨_,rfl⟩,s1.trans s2,?_⟩
    rw [List.range_succ,List.filter_append,List.filter_cons,hb]
    simpa using el2
   | true=>
    rw [if_pos rfl]
    refine he i c H2 _ hc' hb (s1.trans s2) fun H3 s3=>⟨_,s3 _ _ el2,by rw [List.length_map]; exact aD (Nat.le_trans (g9 b hlt hn) (by decide)),.inr ⟨_,rfl⟩,((s1.trans s2).trans s3).own hl,?_⟩
    rw [ae,List.range_succ,List.filter_append,List.filter_cons,hb]
    simp
 · have e:i=cs.length:=by omega
   subst e
   exact .inl ⟨by show (tx cs).cps.size≤_; rw [hsz]; exact Nat.le_refl _,hd l H hl s1 el⟩
end
theorem oO {α:Type} (xs:List Int) (g:Int→α):(List.range xs.length).map (fun i=>g (xs.getD i 0))=xs.map g:=by
 have e:xs=(List.range xs.length).map fun i=>xs.getD i 0:=by
  refine List.ext_getElem? fun i=>?_
  rw [List.getElem?_map]
  by_cases h:i < xs.length
  · rw [List.getElem?_range h,List.getElem?_eq_getElem h]
    simp [List.getD,h]
  · rw [List.getElem?_eq_none (by omega),List.getElem?_eq_none (by simpa using h)]; rfl
 conv=>rhs; rw [e]
 rw [List.map_map]
 rfl
theorem pV {sep:Str} {ts:List Str} (h1:ts.length≤1000) (h2:∀ t∈ts,t.length≤1000) (h3:sep.length≤10):JoinOk sep ts=true:=by
 unfold JoinOk
 rw [Bool.not_eq_true']
 refine StrLaws.joinFits (B:=1000) h2 ?_
 have a1:ts.length*1000≤1000*1000:=Nat.mul_le_mul_right _ h1
 have a2:ts.length*sep.length≤1000*10:=Nat.mul_le_mul h1 h3
 omega
end L2
namespace L2
open PySem PySem.Spec PyProof.Rows
abbrev rIsN:R2:=fun x y H Q=>y=.non∧Q (.bl (decide (x=.non))) H
abbrev rNotN:R2:=fun x y H Q=>y=.non∧Q (.bl (!decide (x=.non))) H
def kStr:List V→Hp→VK→Prop
 | [.int i],H,Q=>i.natAbs.log2 < 1920∧Q (.str (Str.ofString (toString i))) H
 | _,_,_=>False
section
variable {X:Cx}
theorem tV:CallR X (.type "str") kStr:=by
 intro pins s σ H xs us Q I r h
 unfold kStr at h
 split at h
 · obtain ⟨hi,q⟩:=h
   cases r with
   | cons r0 rr=>
    cases rr
    obtain ⟨t,rfl⟩:=r0
    exact PySem.P.str_of_int hi ⟨.str _,H,I.tok _,⟨_,rfl⟩,q⟩
 · exact h.elim
end
section
variable {K:PySem.W.Frag} {H:Hp} {Q:VK}
theorem mf {x:V}:rIsN x .non H Q=Q (.bl (decide (x=.non))) H:=by simp [rIsN]
theorem kg {x:V}:rNotN x .non H Q=Q (.bl (!decide (x=.non))) H:=by simp [rNotN]
theorem mh {i:Int}:kStr [.int i] H Q=(i.natAbs.log2 < 1920∧Q (.str (Str.ofString (toString i))) H):=rfl
end
end L2
namespace L2
open PySem PySem.Spec PyProof.Rows
structure Bt2 (mg:Str→Option Value):Prop extends Bt mg where
 all_:mg "all"=none
 sum_:mg "sum"=none
 enumerate_:mg "enumerate"=none
section
variable {K:PySem.W.Frag} {H:Hp} {Q:VK} {D:Ends} {σ:St} {g:TG} {tb:TS} {ta:TA} {ix:List (Option Nat)} {tt:TT} {te tf:TE} {k:Nat}
theorem mi:tIf tt te tf σ H Q=tt σ H fun c H1=>if c=true then te σ H1 Q else tf σ H1 Q:=rfl
theorem hV:tComp ix (rF ta) g tt te σ H Q=ta σ H fun vs H1=>∃ i j:Int,vs=[.int i,.int j]∧(-(2^62)≤i∧i < 2^62∧ -(2^62)≤j∧j < 2^62)∧CompR (Itr i (j - i).toNat) g tt te (fun l H'=>Q (.ref l) H') (subσ ix σ) H1:=rfl
theorem gB:sComp k ix (rF ta) g tt te D σ H=ta σ H fun vs H1=>∃ i j:Int,vs=[.int i,.int j]∧(-(2^62)≤i∧i < 2^62∧ -(2^62)≤j∧j < 2^62)∧CompR (Itr i (j - i).toNat) g tt te (fun l H'=>D.nx (σ.set k (some (.ref l))) H') (subσ ix σ) H1:=rfl
theorem isiE {x:V} {n t:String} {b:Bool} (hx:g4 H x=some t) (hn:kI n=true) (hb:isTy t n=b):kIsi [x,.ty n] H Q=Q (.bl b) H:=by
 subst hb
 show (kI n=true∧bnd (g4 H x) fun t=>Q (.bl (isTy t n)) H)=_
 rw [hx]
 simp only [hn,true_and,cD]
theorem hX {i:Int}:kIsi [.int i,.ty "int"] H Q=Q (.bl true) H:=isiE (t:="int") rfl (by decide) (by decide)
theorem h9 {i:Int}:kIsi [.int i,.ty "bool"] H Q=Q (.bl false) H:=isiE (t:="int") rfl (by decide) (by decide)
theorem ia {i:Int}:kIsi [.int i,.ty "str"] H Q=Q (.bl false) H:=isiE (t:="int") rfl (by decide) (by decide)
theorem ib {i:Bool}:kIsi [.bl i,.ty "bool"] H Q=Q (.bl true) H:=isiE (t:="bool") rfl (by decide) (by decide)
theorem ic {i:Bool}:kIsi [.bl i,.ty "int"] H Q=Q (.bl true) H:=isiE (t:="bool") rfl (by decide) (by decide)
theorem ie {i:Str}:kIsi [.str i,.ty "str"] H Q=Q (.bl true) H:=isiE (t:="str") rfl (by decide) (by decide)
theorem ig {i:Bool}:kIsi [.bl i,.ty "str"] H Q=Q (.bl false) H:=isiE (t:="bool") rfl (by decide) (by decide)
theorem kh {A B:Prop}:(if true=true then A else B)=A:=if_pos rfl
theorem ki {A B:Prop}:(if false=true then A else B)=B:=if_neg Bool.false_ne_true
theorem kj {i:Int}:rU (fun i=>.int (-i)) (.int i) H Q=Q (.int (-i)) H:=by
 refine propext ⟨?_,fun h=>⟨i,rfl,h⟩⟩
 rintro ⟨j,e,h⟩
 cases e
 exact h
theorem ixT {p:Addr} {i:Int} {xs:List V} {v:V} (h:H p=some (.tup xs)) (e:atI xs i=some v) (q:Q v H):cIx (.ref p) (.int i) H Q:=by
 rw [eF h]; exact aL e q
theorem ixL {p:Addr} {i:Int} {xs:List V} {v:V} (h:H p=some (.lst xs)) (e:atI xs i=some v) (q:Q v H):cIx (.ref p) (.int i) H Q:=by
 rw [uW h]; exact aL e q
theorem ixI {p:Addr} {i:Int} {ns:List Int} (h:H p=some (.lst (ns.map V.int))) (h0:0≤i) (h1:i < ns.length) (q:Q (.int (ns.getD i.toNat 0)) H):cIx (.ref p) (.int i) H Q:=ixL h (jz h0 h1) q
end
end L2
namespace L2
open PySem PySem.Spec PyProof.Rows
theorem ObjOk.ob {P:Program} {w:World} {H:Hp} {h:Heap} {a:Addr} {o:HO} (x:ObjOk P w H h a o):∃ u,h.get? a=some u:=by
 cases o with
 | lst xs=>obtain ⟨_,_,_,_,e⟩:=x; exact ⟨_,e⟩
 | tup xs=>obtain ⟨_,_,_,ob,e,_⟩:=x; exact ⟨_,e⟩
 | dK kvs=>obtain ⟨_,_,_,_,o,_,_,e,_⟩:=x; exact ⟨_,e⟩
 | dT kvs=>obtain ⟨_,_,_,_,o,_,_,e,_⟩:=x; exact ⟨_,e⟩
 | set S n=>obtain ⟨o,_,_,_,e,_⟩:=x; exact ⟨_,e⟩
 | ins C dx fs=>obtain ⟨_,_,_,e,_⟩:=x; exact ⟨_,e⟩
 | own y=>exact x
 | xd fs=>obtain ⟨_,⟨_,_,_,e,_⟩,_⟩:=x; exact ⟨_,e⟩
 | rng lo hi=>obtain ⟨_,_,_,e⟩:=x; exact ⟨_,e⟩
 | frz ob u=>obtain ⟨e,_⟩:=x; exact ⟨_,e⟩
 | tbl ps=>exact ⟨_,(show h.get? a=some _ from x)⟩
 | met f y=>exact ⟨_,(show h.get? a=some _ from x)⟩
 | ext φ=>obtain ⟨_,e,_⟩:=x; exact e
def Tr (h:Heap) (x T C:Addr) (fl:Value):Prop:=∃ oe vs oT ts a0,h.get? x=some oe∧oe.cls=.ref C∧vs[0]? =some a0∧oe.data=.fields vs∧vs[1]? =some (.ref T)∧T≠x∧h.get? T=some oT∧oT.data=.fields ts∧ts[3]? =some fl
structure Fly (P:Program) (w:World) (outer:List Env) (H:Hp) (s:Shared) (x T C:Addr) (H':Hp) (s':Shared):Prop where
 os:s'.os=s.os
 bare:AllBare s'.gens
 un:Un (frs outer) [] H H' s.heap s'.heap
 hok:HOk P w H' s'.heap
 fx:H' x=none
 fT:H' T=none
 nx:s.heap.get? x=none
 nT:s.heap.get? T=none
 tr:Tr s'.heap x T C .none
def CX1 (P:Program) (w:World):CXT:=fun outer H s E e s'=>∃ x T C H',e=.ref x∧Fly P w outer H s x T C H' s'∧E (.ref C) none H'
theorem pW {P:Program} {w:World} {env:Env} {outer:List Env} {base:Heap} {H₀ H H':Hp} {s₀ s sA:Shared} {x T' C L:Addr} {h':Heap} {ex:List Addr}
  (hos:sA.os=s₀.os) (hbare:AllBare sA.gens) (hL:env.frame=some L) (nL:s₀.heap.get? L=none)
  (U0:Un (frs outer) [] H₀ H s₀.heap s.heap) (fun0:s.heap.FunFrames base (env::outer)) (hfr:∀ b∈frs (env::outer),H b=none)
  (UA:Un (frs (env::outer)) [] H H' s.heap sA.heap) (okA:HOk P w H' sA.heap)
  (exn:∀ b∈ex,s.heap.get? b=none∧H' b=none)
  (keepAll:∀ b o,sA.heap.get? b=some o→b∉frs (env::outer)→b∉ex→h'.get? b=some o) (up:sA.heap.UpToSlots h')
  (nx:s.heap.get? x=none) (fx:H' x=none) (hT:∀ o,sA.heap.get? T'=some o→T'∈frs (env::outer)∨T'∈ex)
  (tr:Tr h' x T' C .none):Fly P w outer H₀ s₀ x T' C H' { sA with heap:=h' }:=by
 have frD:∀ b∈frs (env::outer),∃ o,s.heap.get? b=some o∧∀ vs,o.data≠.fields vs:=fun b hb=>(fun0.mem hb).2
 have frA:∀ b∈frs (env::outer),∃ o,sA.heap.get? b=some o∧∀ vs,o.data≠.fields vs:=fun b hb=>by
  obtain ⟨o,e,d⟩:=frD b hb
  obtain ⟨sl,e2⟩:=UA.slot b o e (hfr b hb) hb (by simp)
  exact ⟨_,e2,d⟩
 have frH:∀ b∈frs (env::outer),H' b=none:=fun b hb=>by
  obtain ⟨o,e,d⟩:=frD b hb
  exact UA.free b o e (hfr b hb) (by simp)
 have Tfr:T'∉frs (env::outer):=fun hb=>by
  obtain ⟨o,e,d⟩:=frA T' hb
  obtain ⟨sl,e2⟩:=up T' o e d
  obtain ⟨_,_,oT,ts,_,_,_,_,_,_,_,e3,d3,_⟩:=tr
  rw [e2] at e3
  cases e3
  exact d _ d3
 have sub:∀ b,b∈frs outer→b∈frs (env::outer):=fun b hb=>by
  unfold frs at hb ⊢
  rw [List.filterMap_cons,hL]
  exact List.mem_cons_of_mem _ hb
 have isL:∀ b,b∈frs (env::outer)→b=L∨b∈frs outer:=fun b hb=>by
  unfold frs at hb ⊢
  rw [List.filterMap_cons,hL] at hb
  exact List.mem_cons.mp hb
 have thereA:∀ b o,sA.heap.get? b=some o→b∉ex→∃ o',h'.get? b=some o':=fun b o e hx=>by
  by_cases hb:b∈frs (env::outer)
  · obtain ⟨o1,e1,d1⟩:=frA b hb
    rw [e] at e1; cases e1
    obtain ⟨sl,e2⟩:=up b o e d1
    exact ⟨_,e2⟩
  · exact ⟨o,keepAll b o e hb hx⟩
 have nex:∀ b o,s.heap.get? b=some o→b∉ex:=fun b o e hx=>by rw [(exn b hx).1] at e; cases e
 refine ⟨hos,hbare,⟨fun b o e n hb _=>?_,fun b o e n hb _=>?_,fun b o e n _=>?_,fun b o e _=>?_,fun b xs e=>UA.tups b xs (U0.tups b xs e),fun b o u e=>UA.frzs b o u (U0.frzs b o u e),fun b ps e=>?_⟩,?_,fx,?_,?_,?_,tr⟩
 · have e1:=U0.keep b o e n hb (by simp)
   have n1:=U0.free b o e n (by simp)
   have nb:b∉frs (env::outer):=fun z=>by
    rcases isL b z with z | z
    · rw [z,nL] at e; cases e
    · exact hb z
   exact keepAll b o (UA.keep b o e1 n1 nb (by simp)) nb (nex b o e1)
 · obtain ⟨sl,e1⟩:=U0.slot b o e n hb (by simp)
   have n1:=U0.free b o e n (by simp)
   obtain ⟨sl2,e2⟩:=UA.slot b _ e1 n1 (sub b hb) (by simp)
   obtain ⟨o3,e3,d3⟩:=frA b (sub b hb)
   rw [e2] at e3; cases e3
   obtain ⟨sl4,e4⟩:=up b _ e2 d3
   exact ⟨sl4,e4⟩
 · have n1:=U0.free b o e n (by simp)
   obtain ⟨o1,e1⟩:=U0.there b o e (by simp)
   exact UA.free b o1 e1 n1 (by simp)
 · obtain ⟨o1,e1⟩:=U0.there b o e (by simp)
   obtain ⟨o2,e2⟩:=UA.there b o1 e1 (by simp)
   exact thereA b o2 e2 (nex b o1 e1)
 · obtain ⟨m1,e1⟩:=U0.tbls b ps e
   obtain ⟨m2,e2⟩:=UA.tbls b _ e1
   exact ⟨m1++m2,by rw [e2,Array.append_assoc]⟩
 · intro a o e
   have key:∀ b,H' b≠none→b∉frs (env::outer)∧b∉ex:=fun b hb=>⟨fun z=>hb (frH b z),fun z=>hb (exn b z).2⟩
   refine (okA a o e).stay (fun b u hb q=>?_) (fun _ q=>q) fun _ _ q=>q
   have hb':H' b≠none:=by
    rcases hb with rfl | hb
    · rw [e]; simp
    · rw [hb]; simp
   exact keepAll b u q (key b hb').1 (key b hb').2
 · cases q:H' T' with
   | none=>rfl
   | some o=>
    obtain ⟨u,e⟩:=(okA T' o q).ob
    rcases hT u e with z | z
    · exact absurd z Tfr
    · rw [(exn T' z).2] at q; cases q
 · cases q:s₀.heap.get? x with
   | none=>rfl
   | some o=>
    obtain ⟨o1,e1⟩:=U0.there x o q (by simp)
    rw [nx] at e1; cases e1
 · cases q:s₀.heap.get? T' with
   | none=>rfl
   | some o=>
    obtain ⟨o1,e1⟩:=U0.there T' o q (by simp)
    obtain ⟨o2,e2⟩:=UA.there T' o1 e1 (by simp)
    rcases hT o2 e2 with z | z
    · exact absurd z Tfr
    · rw [(exn T' z).1] at e1; cases e1
theorem jB {h base:Heap} {as:List Addr}:∀ {l:List Env},h.FunFrames base l→(∀ b∈frs l,b∈as)→h.FunFrames (PySem.W.hideAll h as) l
 | [],_,_=>trivial
 | env::r,⟨hk,⟨L,o,hf,_,ho,hd⟩,hr⟩,hin=>⟨hk,⟨L,o,hf,PySem.W.hideAll_none as (hin L (by unfold frs; rw [List.filterMap_cons,hf]; exact List.mem_cons_self)),ho,hd⟩,jB hr fun b hb=>hin b (by
   unfold frs at hb ⊢; rw [List.filterMap_cons,hf]; exact List.mem_cons_of_mem _ hb)⟩
theorem nt {h h1 base:Heap} {H H':Hp} {fs:List Addr}:∀ {l:List Env},h.FunFrames base l→(∀ b∈frs l,b∈fs∧H b=none)→Un fs [] H H' h h1→h1.FunFrames base l
 | [],_,_,_=>trivial
 | env::r,⟨hk,⟨L,o,hf,hn,ho,hd⟩,hr⟩,hin,u=>by
  obtain ⟨h1,h2⟩:=hin L (by unfold frs; rw [List.filterMap_cons,hf]; exact List.mem_cons_self)
  obtain ⟨sl,e⟩:=u.slot L o ho h2 h1 (by simp)
  exact ⟨hk,⟨L,_,hf,hn,e,hd⟩,nt hr (fun b hb=>hin b (by unfold frs at hb ⊢; rw [List.filterMap_cons,hf]; exact List.mem_cons_of_mem _ hb)) u⟩
section
variable {P:Program} {w:World} {K:PySem.W.Frag} {mg:Str→Option Value} {base:Heap} {N:List Str} {qual:Str} {scope:Scope} {f:Addr} {cd:Value} {A:Around} {outer:List Env} {s₀:Shared} {H₀:Hp} {E:XK}
abbrev cx1 (P:Program) (w:World) (K:PySem.W.Frag) (mg:Str→Option Value) (base:Heap) (N:List Str) (qual:Str) (scope:Scope) (f:Addr) (cd:Value) (A:Around) (outer:List Env) (s:Shared) (H:Hp) (E:XK):Cx:=
 cxOf (CX1 P w) P w K mg base N qual scope f cd A outer s H E
theorem nu {E':XK} (himp:∀ c d H,E' c d H→E c d H):gY (CX1 P w) (cx1 P w K mg base N qual scope f cd A outer s₀ H₀ E) E':=by
 intro pins σ H s e s' I h
 obtain ⟨x,T,C,H',rfl,F,q⟩:=h
 obtain ⟨oe,vs,oT,ts,a0,he,hc,h0,hd,h1,hTx,hT,hdT,h3⟩:=F.tr
 have hstk:∀ b∈frs (envOfC qual scope s₀.heap.objs.size f cd::outer),H b=none:=I.stkFree
 have ff:s'.heap.FunFrames base (envOfC qual scope s₀.heap.objs.size f cd::outer):=nt I.stack (fun b hb=>⟨hb,hstk b hb⟩) F.un
 show wpAny (model P w) (A.deeper (envOfC qual scope s₀.heap.objs.size f cd)) (leaving (envOfC qual scope s₀.heap.objs.size f cd) (.ref x)) _ _ s'
 have hin:∀ b∈frs (envOfC qual scope s₀.heap.objs.size f cd::outer),b∈frs (envOfC qual scope s₀.heap.objs.size f cd::outer)++[x,T]:=fun b hb=>List.mem_append_left _ hb
 refine wpAny_leaves_onW (base:=PySem.W.hideAll s'.heap (frs (envOfC qual scope s₀.heap.objs.size f cd::outer)++[x,T])) (cls:=.ref C) (a0:=a0) (L:=s₀.heap.objs.size) I.ok.frames rfl
  ⟨fun b o e=>PySem.W.of_hideAll _ e,PySem.W.hideAll_none _ (by simp),jB ff hin,oe,vs,T,oT,ts,he,⟨hc,h0⟩,hd,h1,PySem.W.hideAll_none _ (by simp),hTx,hT,hdT,h3⟩ fun h' fl up=>?_
 obtain ⟨k1,k2,k3,oe',vs',T',oT',ts',a1,a2,a3,a4,a5,a6,a7,a8,a9⟩:=fl
 have keepAll:∀ b o,s'.heap.get? b=some o→b∉frs (envOfC qual scope s₀.heap.objs.size f cd::outer)→b∉[x,T]→h'.get? b=some o:=fun b o e hb hx=>k1 b o (PySem.W.hideAll_get _ e fun z=>(List.mem_append.mp z).elim hb hx)
 refine ⟨x,T',C,H',rfl,pW (env:=envOfC qual scope s₀.heap.objs.size f cd) (base:=base) (s:=s) (sA:=s') (L:=s₀.heap.objs.size) (ex:=[x,T]) (F.os.trans I.os) F.bare rfl (Heap.get?_none_of_le (Nat.le_refl _)) I.base I.stack hstk F.un F.hok (fun b hb=>?_) keepAll up F.nx F.fx (fun o e=>?_) ⟨oe',vs',oT',ts',a0,a1,a2.1,a2.2,a3,a4,a6,a7,a8,a9⟩,himp _ _ _ q⟩
 · simp only [List.mem_cons,List.not_mem_nil,or_false] at hb
   rcases hb with rfl | rfl
   · exact ⟨F.nx,F.fx⟩
   · exact ⟨F.nT,F.fT⟩
 · by_cases z:T'∈frs (envOfC qual scope s₀.heap.objs.size f cd::outer)++[x,T]
   · exact List.mem_append.mp z
   · rw [PySem.W.hideAll_get _ e z] at a5; cases a5
theorem uC {pins:List (Addr × Obj)} {σ:St} {H:Hp} {s:Shared} {h1:Heap} {x C:Addr} {args:List Value} (I:Inv (cx1 P w K mg base N qual scope f cd A outer s₀ H₀ E) pins σ H s) (hm:Heap.MadeExcOf s.heap h1 x (.ref C) args) (q:E (.ref C) none H):
  (cx1 P w K mg base N qual scope f cd A outer s₀ H₀ E).xe (.ref x) { s with heap:=h1 }:=by
 have hstk:∀ b∈frs (envOfC qual scope s₀.heap.objs.size f cd::outer),H b=none:=I.stkFree
 have ff:s.heap.FunFrames base (envOfC qual scope s₀.heap.objs.size f cd::outer):=I.stack
 show wpAny (model P w) (A.deeper (envOfC qual scope s₀.heap.objs.size f cd)) (leaving (envOfC qual scope s₀.heap.objs.size f cd) (.ref x)) _ _ { s with heap:=h1 }
 refine wpAny_leaves_madeW (s:={ s with heap:=h1 }) (base:=PySem.W.hideAll s.heap (frs (envOfC qual scope s₀.heap.objs.size f cd::outer))) (h:=s.heap) (L:=s₀.heap.objs.size) I.ok.frames rfl (fun b o e=>PySem.W.of_hideAll _ e) (jB ff fun b hb=>hb) hm fun h' t fl _ _ up=>?_
 obtain ⟨k1,k2,k3,oe',vs',T',oT',ts',a1,a2,a3,a4,a5,a6,a7,a8,a9⟩:=fl
 have keepAll:∀ b o,s.heap.get? b=some o→b∉frs (envOfC qual scope s₀.heap.objs.size f cd::outer)→b∉([]:List Addr)→h'.get? b=some o:=fun b o e hb _=>k1 b o (PySem.W.hideAll_get _ e hb)
 refine ⟨x,T',C,H,rfl,pW (env:=envOfC qual scope s₀.heap.objs.size f cd) (base:=base) (s:=s) (sA:=s) (L:=s₀.heap.objs.size) (ex:=[]) I.os I.bare rfl (Heap.get?_none_of_le (Nat.le_refl _)) I.base ff hstk Un.refl I.hok (fun b hb=>nomatch hb) keepAll ((Heap.UpToSlots.of_keeps hm.keeps).trans up) hm.new ?_ (fun o e=>?_) ⟨oe',vs',oT',ts',_,a1,a2.1,a2.2,a3,a4,a6,a7,a8,a9⟩,q⟩
 · cases z:H x with
   | none=>rfl
   | some o=>
    obtain ⟨u,e⟩:=(I.hok x o z).ob
    rw [hm.new] at e; cases e
 · by_cases z:T'∈frs (envOfC qual scope s₀.heap.objs.size f cd::outer)
   · exact .inl z
   · rw [PySem.W.hideAll_get _ e z] at a5; cases a5
end
end L2
namespace L2
open PySem PySem.Spec PyProof.Rows
section
variable {prog:Program} {w:World} {A:Around} {E:Value→Shared→Prop} {h:Heap} {g:Array GenState} {d:Drawn} {t:Nat} {os:OsState} {K:PySem.W.Frag} {a C:Addr} {o:Obj}
structure XIs (K:PySem.W.Frag) (C:Addr):Prop where
 ga:PySem.W.findIn K (.ref C) "__getattribute__"=some (some (.builtin "BaseException.__getattribute__"))
 gx:PySem.W.findIn K (.ref C) "__getattr__"=some none
 cl:PySem.W.findIn K (.ref C) "__class__"=some (some (.builtin "object.__class__"))
 mo:PySem.W.mroIn K C (.type "object")=some true
 mb:PySem.W.mroIn K C (.type "BaseException")=some true
theorem rl {M:Model} {T:Value} {v:Bool} (X:K.In h) (hm:PySem.W.mroIn K C T=some v):PySem.W.Looks M h (isSubtype (.ref C) T) v:=PySem.W.looks_mroIn X hm
theorem wV {R:Result→Shared→Prop} (X:K.In h) (Z:XIs K C) (hx:h.get? a=some o) (hc:o.cls=.ref C) (hq:R (.ok (.ret (.ref C))) ⟨h,g,d,t,os⟩):
  codeAny (model prog w) A (.call (.builtin "getset_descriptor.__get__") ⟨[.builtin "object.__class__",.ref a,.ref C],[]⟩) R ⟨h,g,d,t,os⟩:=by
 have hT5:(⟨h,g,d,t,os⟩:Shared).TypeIs (.builtin "object.__class__") "getset_descriptor":=F.typeOf_object_class
 have L1:PySem.W.Looks (model prog w) h (isSubtype (.ref C) (.type (".".intercalate ("object.__class__".cutAt '.').dropLast))) true:=by rw [F.owner_object_class]; exact rl X Z.mo
 refine codeAny_call_builtin F.slot_gs_get.plain F.entry_gs_get (F.slot_gs_get.check _ _ _ _ _ _ _ _ hT5 (F.args_gs_get _ _ _) ?_)
 repeat (any_goals (first | assumption | (with_reducible refine wpAny_loadPart_at hx ?_; rw [hc]) | with_reducible refine L1.at ?_ | wp_step))
 refine ⟨Code.quiet_builtin _ (by decide+kernel),codeAny_builtin F.entry_object_class ?_⟩
 repeat (any_goals (first | assumption | (with_reducible refine wpAny_loadPart_at hx ?_; rw [hc]) | wp_step))
theorem vt {tk:Tok} {Q:Fin→Shared→Prop} (X:K.In h) (Z:XIs K C) (hx:h.get? a=some o) (hc:o.cls=.ref C) (hq:Q (.done (.ret (.ref C))) ⟨h,g,d,t,os⟩):
  wpAny (model prog w) A (Builtin.«object.__getattribute__» ⟨[.ref a,.str "__class__" tk],[]⟩) Q E ⟨h,g,d,t,os⟩:=by
 have hT5:(⟨h,g,d,t,os⟩:Shared).TypeIs (.builtin "object.__class__") "getset_descriptor":=F.typeOf_object_class
 have f5:=F.typeOf_object_class
 have f6:=F.slot_gs_get.lookup
 have f7:=F.slot_gs_set.lookup
 have L1:=PySem.W.looks_findIn (M:=model prog w) X Z.cl
 repeat (any_goals (first | assumption | (with_reducible refine wpAny_loadPart_at hx ?_; rw [hc]) | with_reducible refine L1.at ?_ | wp_step))
 refine wV X Z hx hc ?_
 repeat (any_goals (first | assumption | wp_step))
theorem vv {M:Model} {nameV:Value} {Q:Unit→Shared→Prop} (X:K.In h) (Z:XIs K C) (hx:h.get? a=some o) (hc:o.cls=.ref C) (hq:Q () ⟨h,g,d,t,os⟩):wpAny M A (checkBuiltinCall "BaseException.__getattribute__" ⟨[.ref a,nameV],[]⟩) Q E ⟨h,g,d,t,os⟩:=by
 have hk:builtinKind "BaseException.__getattribute__"=some .slot:=by decide+kernel
 have hsplit:splitId "BaseException.__getattribute__"=some ("BaseException","__getattribute__"):=by decide+kernel
 have L1:=rl (M:=M) X Z.mb
 have ha:=F.args_bexc_ga (.ref a) nameV
 simp only [checkBuiltinCall,hk,hsplit]
 refine wpAny_bind ?_
 · unfold isInstance
   repeat (first | (with_reducible refine wpAny_loadPart_at hx ?_; rw [hc]) | with_reducible refine L1.at ?_ | wp_step)
   exact hq
theorem ww {tk:Tok} {R:Result→Shared→Prop} (X:K.In h) (Z:XIs K C) (hx:h.get? a=some o) (hc:o.cls=.ref C) (hq:R (.ok (.ret (.ref C))) ⟨h,g,d,t,os⟩):
  codeAny (model prog w) A (.call (.builtin "BaseException.__getattribute__") ⟨[.ref a,.str "__class__" tk],[]⟩) R ⟨h,g,d,t,os⟩:=
 codeAny_call_builtin F.attr_ValueError.ga.plain F.entry_bexc_ga (vv X Z hx hc (vt X Z hx hc hq))
theorem xi {tk:Tok} {fill expr:Bool} {Q:Value→Shared→Prop} (X:K.In h) (Z:XIs K C) (hx:h.get? a=some o) (hc:o.cls=.ref C) (hq:Q (.ref C) ⟨h,g,d,t,os⟩):
  wpAny (model prog w) A (getAttrBy (.ref a) (.str "__class__" tk) fill expr) Q E ⟨h,g,d,t,os⟩:=by
 have f3:=F.attr_ValueError.ga.bind (.ref a)
 have hx0:(expr&&onTheHeap (Value.builtin "BaseException.__getattribute__"))=false:=by cases expr <;> rfl
 have hx2:(Value.builtin "BaseException.__getattribute__"==Value.builtin "object.__getattribute__")=false:=by decide+kernel
 have hx1:(onTheHeap (Value.ref C)&&Value.builtin "BaseException.__getattribute__"==Value.builtin "object.__getattribute__")=false:=by rw [hx2]; rfl
 have L1:=PySem.W.looks_findIn (M:=model prog w) X Z.ga
 have L2:=PySem.W.looks_findIn (M:=model prog w) X Z.gx
 repeat (any_goals (first | assumption | (with_reducible refine wpAny_loadPart_at hx ?_; rw [hc]) | with_reducible refine L1.at ?_ | with_reducible refine L2.at ?_ | wp_step))
 refine ww X Z hx hc ?_
 repeat (any_goals (first | assumption | wp_step))
theorem wx {Q:Option Value→Shared→Prop} (X:K.In h) (Z:XIs K C) (hx:h.get? a=some o) (hc:o.cls=.ref C) (hq:Q (some (.ref C)) ⟨h,g,d,t+1,os⟩):
  wpAny (model prog w) A (getAttr? (.ref a) "__class__") Q E ⟨h,g,d,t,os⟩:=by
 unfold getAttr? getAttrBy?
 repeat (any_goals (first | assumption | with_reducible apply xi X Z hx hc | wp_step))
def XO (a C:Addr):Heap→Prop:=fun h=>∃ o vs,h.get? a=some o∧o.cls=.ref C∧o.data=.fields vs
theorem rm (Z:XIs K C):∃ c' d' cd sl,K.lookup C=some ⟨c',d',.cls cd,sl⟩:=by
 have:=Z.mo
 unfold PySem.W.mroIn PySem.W.clsIn at this
 split at this
 · rename_i c' d' cd' sl' ho
   exact ⟨_,_,_,_,ho⟩
 · cases this
theorem uD (Z:XIs K C):PySem.W.KitX K (.ref a) (.ref C) (XO a C) where
 ty:=fun M h _ ⟨o,vs,hx,hc,_⟩=>by
  intro A Q E s k q
  unfold typeOf
  refine wpAny_bind (wpAny_loadPart (k _ _ hx) ?_)
  rw [hc]
  exact wpAny_pure q
 it:=fun M h X _=>by
  obtain ⟨c',d',cd,sl,ho⟩:=rm Z
  intro A Q E s k q
  unfold isType loadHead
  exact wpAny_bind (wpAny_loadPart (k _ _ (X _ _ ho)) (wpAny_pure q))
 ne:=fun h tp dd its n sl X htp=>by
  obtain ⟨c',d',cd,sl',ho⟩:=rm Z
  refine Bool.eq_false_iff.mpr fun q=>?_
  have e:C=tp:=Value.ref.inj (beq_iff_eq.mp q)
  subst e
  have z:=(X _ _ ho).symm.trans htp
  cases z
 ca:=fun {prog w A E Q s} X ⟨o,vs,hx,hc,_⟩ hq=>by
  obtain ⟨h,g,d,t,os⟩:=s
  exact wx X Z hx hc hq
end
def cvOf:V→Option Value
 | .ref p=>some (.ref p)
 | .ty n=>some (.type n)
 | _=>none
theorem uE {c:V} {cv u:Value} (h:cvOf c=some cv) (r:RelV c u):u=cv:=by
 cases c with
 | ref p=>cases h; cases r; rfl
 | ty n=>cases h; cases r; rfl
 | _=>cases h
def kIsX (K:PySem.W.Frag):List V→Hp→VK→Prop:=fun vs H Q=>∃ a C c cv b,vs=[.ref a,c]∧H a=some (.ext (XO a C))∧XIs K C∧cvOf c=some cv∧PySem.W.kitOne K (.ref C) cv=some b∧Q (.bl b) H
theorem br {X:Cx}:CallR X (.builtin "isinstance") (kIsX X.K):=by
 intro pins s σ H xs us Q I r h
 obtain ⟨a,C,c,cv,b,rfl,hH,Z,rc,hk,q⟩:=h
 obtain ⟨u,w',rfl,ru,rw'⟩:=lS r
 cases ru
 have e:w'=cv:=uE rc rw'
 subst e
 obtain ⟨p,_⟩:=I.hok a _ hH
 exact PySem.W.kia_one (uD Z) I.kIn p hk (fun z=>nomatch z) fun tk=>⟨.bl b,H,I.tok tk,rfl,q⟩
end L2
namespace L2
open PySem PySem.Spec PyProof.Rows
abbrev VE:List Value:=[.type "ValueError",.type "Exception",.type "BaseException",.type "object"]
def lj (e:DictEntry):Bool:=match e.key with | .str _ _=>true | _=>false
def fj (K:PySem.W.Frag) (N:Addr):Bool:=match K.lookup N with
 | some ⟨_,_,.dict es _,_⟩=>es.toList.all lj&&(nsFind es "__init__").isNone
 | _=>false
theorem iW {K:PySem.W.Frag} {N:Addr} {h:Heap} (X:K.In h) (e:fj K N=true):∃ mN,h.Ns N mN∧mN "__init__"=none:=by
 unfold fj at e
 split at e
 · rename_i c d es ep sl ho
   simp only [Bool.and_eq_true] at e
   refine ⟨nsFind es,⟨_,es,ep,X _ _ ho,rfl,fun en hm=>?_,fun _=>rfl⟩,Option.isNone_iff_eq_none.mp e.2⟩
   have:=List.all_eq_true.mp e.1 en (Array.mem_def.mp hm)
   unfold lj at this
   split at this
   · rename_i n t q; exact ⟨n,t,q⟩
   · cases this
 · cases e
structure XC (K:PySem.W.Frag) (C D:Addr):Prop where
 oC:∃ nm q N bs hdct sn sub ab col dd k0 k1 k2 k3 k5,K.lookup C=some (excClassObj nm q C N bs (.ref D::VE) hdct sn sub ab col dd k0 k1 k2 k3 k5 "ValueError.__new__")∧fj K N=true
 oD:∃ c0 dd cd sl,K.lookup D=some ⟨c0,dd,.cls cd,sl⟩∧fj K cd.ns=true
theorem XC.mk' {K:PySem.W.Frag} {C D:Addr} {nm q:Str} {N:Addr} {bs:List Value} {hdct:Bool} {sn:List Str} {sub:List Value} {ab:Bool} {col:Option Bool} {dd:Option Addr} {k0 k1 k2 k3 k5:Option Value} {c0:Value} {dD:Option Addr} {cd:ClassData} {sl:Array (Option Value)}
  (l1:K.lookup C=some (excClassObj nm q C N bs (.ref D::VE) hdct sn sub ab col dd k0 k1 k2 k3 k5 "ValueError.__new__")) (n1:fj K N=true) (l2:K.lookup D=some ⟨c0,dD,.cls cd,sl⟩) (n2:fj K cd.ns=true):XC K C D:=
 ⟨⟨_,_,_,_,_,_,_,_,_,_,_,_,_,_,_,l1,n1⟩,⟨_,_,_,_,l2,n2⟩⟩
def pX (E:XK) (C:Addr) (t:TA):TS:=fun _ σ H=>t σ H fun vs H1=>vs.length≤sizeLine∧E (.ref C) none H1
section
variable {P:Program} {w:World} {K:PySem.W.Frag} {mg:Str→Option Value} {base:Heap} {N:List Str} {qual:Str} {scope:Scope} {f:Addr} {cd:Value} {A:Around} {outer:List Env} {s₀:Shared} {H₀:Hp} {E:XK}
theorem uF {C D:Addr} {x:Str} {np cpos pos:Pos} {e₀:Expr} {rest:List Expr} {t:TA} (Z:XC K C D) (hg:Gl (cx1 P w K mg base N qual scope f cd A outer s₀ H₀ E) x) (hm:mg x=some (.ref C))
  (ha:PA (cx1 P w K mg base N qual scope f cd A outer s₀ H₀ E) (e₀::rest) t) (hdb:(x==("__debug__":Str))=false:=by decide)
  (he:starEach (e₀::rest) (envOfC qual scope s₀.heap.objs.size f cd)=(false,eval e₀ (envOfC qual scope s₀.heap.objs.size f cd))::starEach rest (envOfC qual scope s₀.heap.objs.size f cd):=by rfl)
  (hplain:(backTo cpos (starEach rest (envOfC qual scope s₀.heap.objs.size f cd))).any (·.1)=false:=by rfl):
  PS (cx1 P w K mg base N qual scope f cd A outer s₀ H₀ E) (.Raise (some (.Call (.Name x np) (e₀::rest) [] cpos)) none pos) (pX E C t):=by
 intro pins s σ H D' I h
 obtain ⟨⟨nm,q,Nc,bs,hdct,sn,sub,ab,col,dd,k0,k1,k2,k3,k5,l1,n1⟩,⟨c0,dD,cdD,sl,l2,n2⟩⟩:=Z
 obtain ⟨mN,hN,hni⟩:=iW I.kIn n1
 obtain ⟨mD,hD,hnd⟩:=iW I.kIn n2
 have hb:=I.ok.hd rfl
 refine wpAny_Raise_call_subU (C:=C) (nm:=nm) (q:=q) (N:=Nc) (bs:=bs) (bm:=.ref D::VE) (bmB:=VE) (hdct:=hdct) (sn:=sn) (sub:=sub) (ab:=ab) (col:=col) (dd:=dd) (k0:=k0) (k1:=k1) (k2:=k2) (k3:=k3) (k5:=k5)
  F.excBase_ValueError (by decide+kernel) F.excBase_ValueError (mN:=mN) (by rw [List.contains_cons,show VE.contains (.type "BaseException")=true by decide+kernel,Bool.or_true]) hb (by rw [show starEach (e₀::rest) (cx1 P w K mg base N qual scope f cd A outer s₀ H₀ E).env=_ from he]; show (false||(backTo cpos (starEach rest (envOfC qual scope s₀.heap.objs.size f cd))).any (·.1))=false; rw [hplain]; rfl) hni (gP I hg hm ⟨rfl,?_⟩ hdb)
 have h1:=ha cpos pins s σ H _ I h
 rw [show starEach (e₀::rest) (cx1 P w K mg base N qual scope f cd A outer s₀ H₀ E).env=_ from he] at h1 ⊢
 refine Calls.evalArgs_plain (wpAny_mono h1 (fun vs s₂ h₂=>?_) fun _ _ y=>y)
 obtain ⟨xs,H2,I2,rv,hl,hE⟩:=h₂
 obtain ⟨mN2,hN2,hni2⟩:=iW I2.kIn n1
 obtain ⟨mD2,hD2,hnd2⟩:=iW I2.kIn n2
 have kk:s.heap.Ns Nc mN→s₂.heap.Ns Nc mN:=fun ⟨o,es,ep,a1,a2⟩=>by
  obtain ⟨o2,es2,ep2,b1,b2⟩:=hN2
  unfold fj at n1
  split at n1
  · rename_i c d es' ep' sl' ho
    have e1:=I.kIn _ _ ho
    have e2:=I2.kIn _ _ ho
    rw [a1] at e1; cases e1
    exact ⟨_,es,ep,e2,a2⟩
  · cases n1
 refine ⟨rfl,by rw [← rv.length]; exact hl,I2.kIn _ _ l1,kk hN,.own (I2.kIn _ _ l2) hD2 hnd2 .base,fun h' e hm'=>?_⟩
 exact uC I2 hm' hE
end
end L2
namespace L2
open PySem PySem.Spec PyProof.Rows
section
variable {P:Program} {w:World} {K:PySem.W.Frag} {mg:Str→Option Value} {base:Heap}
theorem Fun.ok1 {x qual:Str} {st:Stmt} {f:Addr} {fd:FuncData} {N ps:List Str} {k:Nat} {sp:Sp} (F:Fun K x qual st f fd) (S:am N ps (ah st)) (len:∀ vs H Q E,sp vs H Q E→vs.length=ps.length)
  (hbody:∀ (cdv:Value) (A:Around) (outer:List Env) (s:Shared) (H:Hp) (vs:List V) (Q:VK) (E:XK),Room k (A.deeper (envOfC qual (ah st) s.heap.objs.size f cdv))→sp vs H Q E→
   ∃ t,PSs (cx1 P w K mg base N qual (ah st) f cdv A outer s H E) (aK st) t∧t { nx:=fun _ H'=>Q .non H',rt:=Q } (start N vs) H):FnOk P w K mg base (CX1 P w) (k+1) f fd ps sp:=by
 obtain ⟨oc,od,kV,doc,pm,an,cdv,ct,osl,rfl,lk,hcd⟩:=F.ex
 exact rO lk hcd S len fun A outer s H vs Q E hr hsp=>hbody cdv A outer s H vs Q E hr hsp
end
section
variable {X:Cx} {pins:List (Addr × Obj)} {σ:St} {H:Hp} {s s':Shared}
theorem tW {H':Hp} {x T C:Addr} {a0:Value} {h5:Heap} (I:Inv X pins σ H s) (F:Fly X.prog X.w X.stack H s x T C H' s') (fl:Heap.FlyingW (PySem.W.hideAll s'.heap (frs X.stack++[x,T])) X.stack x (.ref C) a0 h5) (up:s'.heap.UpToSlots h5):
  Inv X pins σ (upd H' x (.ext (XO x C))) { s' with heap:=h5 }:=by
 obtain ⟨k1,_,_,oe,vs,T',oT,ts,he,hc,hd,_⟩:=fl
 have keepAll:∀ b o,s'.heap.get? b=some o→b∉frs X.stack→b∉[x,T]→h5.get? b=some o:=fun b o e hb hx=>k1 b o (PySem.W.hideAll_get _ e fun z=>(List.mem_append.mp z).elim hb hx)
 have frD:∀ b∈frs X.stack,∃ o,s.heap.get? b=some o∧∀ vs,o.data≠.fields vs:=fun b hb=>(I.stack.mem hb).2
 have hstk:=I.stkFree
 have nxT:∀ b o,s.heap.get? b=some o→b∉[x,T]:=fun b o e z=>by
  simp only [List.mem_cons,List.not_mem_nil,or_false] at z
  rcases z with rfl | rfl
  · rw [F.nx] at e; cases e
  · rw [F.nT] at e; cases e
 have slots:∀ b o,s.heap.get? b=some o→H b=none→b∈frs X.stack→∃ sl,h5.get? b=some { o with slots:=sl }:=fun b o e n hb=>by
  obtain ⟨sl,e1⟩:=F.un.slot b o e n hb (by simp)
  obtain ⟨o2,e2,d2⟩:=frD b hb
  rw [e] at e2; cases e2
  obtain ⟨sl2,e3⟩:=up b _ e1 d2
  exact ⟨sl2,e3⟩
 have frH:∀ b∈frs X.stack,H' b=none:=fun b hb=>by
  obtain ⟨o,e,d⟩:=frD b hb
  exact F.un.free b o e (hstk b hb) (by simp)
 have ne:∀ b o,H' b=some o→b≠x:=fun b o e z=>by rw [z,F.fx] at e; cases e
 have okx:ObjOk X.prog X.w (upd H' x (.ext (XO x C))) h5 x (.ext (XO x C)):=⟨⟨oe,vs,he,hc.1,hd⟩,⟨oe,he⟩,fun h1 h2 ⟨o,vs,q,r⟩ k=>⟨o,vs,k o q,r⟩⟩
 refine I.call' (ch:=[]) F.os ⟨fun b o e n hb _=>?_,fun b o e n hb _=>?_,fun b o e n _=>?_,fun b o e _=>?_,fun b xs e=>?_,fun b o u e=>?_,fun b ps e=>?_⟩ (fun a o e=>?_) F.bare fun b z=>absurd z (by simp)
 · exact keepAll b o (F.un.keep b o e n hb (by simp)) hb (nxT b o e)
 · exact slots b o e n hb
 · have n1:=F.un.free b o e n (by simp)
   rw [ai fun z=>nxT b o e (by rw [z]; simp)]
   exact n1
 · by_cases hb:b∈frs X.stack
   · obtain ⟨sl,e1⟩:=slots b o e (hstk b hb) hb
     exact ⟨_,e1⟩
   · obtain ⟨o',e1⟩:=F.un.there b o e (by simp)
     exact ⟨o',keepAll b o' e1 hb (nxT b o e)⟩
 · have q:=F.un.tups b xs e
   rw [ai (ne b _ q)]; exact q
 · have q:=F.un.frzs b o u e
   rw [ai (ne b _ q)]; exact q
 · obtain ⟨m,q⟩:=F.un.tbls b ps e
   exact ⟨m,by rw [ai (ne b _ q)]; exact q⟩
 · by_cases ha:a=x
   · subst ha
     rw [ae] at e; cases e
     exact okx
   · rw [ai ha] at e
     refine (F.hok a o e).stay (fun b u hb q=>?_) (fun b q=>?_) fun b xs q=>?_
     · have hb':H' b≠none:=by
        rcases hb with rfl | hb
        · rw [e]; simp
        · rw [hb]; simp
       refine keepAll b u q (fun z=>hb' (frH b z)) fun z=>?_
       simp only [List.mem_cons,List.not_mem_nil,or_false] at z
       rcases z with rfl | rfl
       · exact hb' F.fx
       · exact hb' F.fT
     · rw [ai (ne b _ q)]; exact q
     · rw [ai (ne b _ q)]; exact q
theorem kL {M:Model} {A:Around} {E:Value→Shared→Prop} {i:Nat} {x:Str} {pos:Pos} {Q:Unit→Shared→Prop} (I:Inv X pins σ H s) (hN:X.N.Nodup) (hi:X.N[i]? =some x) (hk:X.env.kindOf x=some .local)
  (h:∀ s',Inv X pins (σ.set i none) H s'→Q () s'):wpAny M A (do bindName X.env x .none; unbindBehindTheSuite X.env x pos) Q E s:=by
 obtain ⟨m,hn,hl⟩:=id I.loc
 have hcls:(X.env.scope.kind==.class||(X.env.scope.kind==.module&&X.env.locals != X.env.globals))=false:=by rw [I.ok.kind]; rfl
 have hiσ:i < σ.length:=by rw [I.len]; exact (List.getElem?_eq_some_iff.mp hi).1
 have cne:=I.cne
 refine wpAny_nameGoes_keeps hk hn hcls fun h' v hn' hs=>?_
 obtain ⟨oL,_,_,hoL,_⟩:=id hn
 have tracked:HOk X.prog X.w H h':=fun b ob e=>by
  refine (I.hok b ob e).stay (fun c w' hc q=>(hs.2 c ?_).trans q) (fun _ q=>q) fun _ _ q=>q
  rintro rfl
  rcases hc with rfl | hc
  · rw [I.free] at e; cases e
  · rw [I.free] at hc; cases hc
 refine h _ ⟨I.ok,I.os,I.bare,⟨fun b o e n hb hx=>?_,fun b o e n hb hx=>?_,I.base.free,fun b o e hx=>?_,I.base.tups,I.base.frzs,I.base.tbls⟩,⟨_,hn',fun j y v' e1 e2 e3=>?_⟩,fun y c e=>?_,I.free,I.freeC,fun p hp=>?_,tracked,by simpa using I.len⟩
 · exact (hs.2 b (Nat.ne_of_lt (Nat.lt_of_lt_of_le (Heap.lt_size e) I.ok.above))).trans (I.base.keep b o e n hb hx)
 · obtain ⟨sl,e1⟩:=I.base.slot b o e n hb hx
   exact ⟨sl,(hs.2 b (Nat.ne_of_lt (Nat.lt_of_lt_of_le (Heap.lt_size e) I.ok.above))).trans e1⟩
 · obtain ⟨o',e1⟩:=I.base.there b o e hx
   exact ⟨o',(hs.2 b (Nat.ne_of_lt (Nat.lt_of_lt_of_le (Heap.lt_size e) I.ok.above))).trans e1⟩
 · by_cases hj:j=i
   · subst hj
     rw [List.getElem?_set_self hiσ] at e2
     cases e2
   · rw [List.getElem?_set_ne (Ne.symm hj)] at e2
     obtain ⟨u',r',q⟩:=hl j y v' e1 e2 e3
     refine ⟨u',r',?_⟩
     rcases q with ⟨k,e⟩ | ⟨k,c,e,z⟩
     · refine .inl ⟨k,?_⟩
       have:y≠x:=fun e=>hj (lc hN e1 (e ▸ hi))
       simp [this,e]
     · exact .inr ⟨k,c,e,z.sameBut hs (cne y c e)⟩
 · obtain ⟨w',z⟩:=I.cell y c e
   exact ⟨w',z.sameBut hs (cne y c e)⟩
 · obtain ⟨e,n,ne,nf,d⟩:=I.pin p hp
   exact ⟨(hs.2 p.1 ne).trans e,n,ne,nf,d⟩
end
abbrev Cx.caught (X:Cx) (x:Addr):Cx:={ X with A:=X.A.mark (some (.ref x)),calm:=false,xe:=fun _ _=>False }
section
variable {X:Cx} {pins:List (Addr × Obj)} {σ:St} {H:Hp} {s:Shared} {x:Addr}
theorem Cx.Ok.caught (ok:X.Ok):(X.caught x).Ok:=
 ⟨ok.mod,ok.kind,ok.glob,ok.blt,ok.above,ok.inj,ok.has,ok.cab,(fun z=>nomatch z),ok.frames,ok.stk,ok.exf,ok.bs,ok.bsz,ok.noex,ok.exfs,ok.funs,ok.frf⟩
theorem Inv.caught (I:Inv X pins σ H s):Inv (X.caught x) pins σ H s:=⟨I.ok.caught,I.os,I.bare,I.base,I.loc,I.cell,I.free,I.freeC,I.pin,I.hok,I.len⟩
theorem Inv.uncaught (ok:X.Ok) (I:Inv (X.caught x) pins σ H s):Inv X pins σ H s:=⟨ok,I.os,I.bare,I.base,I.loc,I.cell,I.free,I.freeC,I.pin,I.hok,I.len⟩
end
def Came (X:Cx) (pins:List (Addr × Obj)) (σ:St) (E:XK) (e:Value) (s':Shared):Prop:=∃ H1 s1,Inv X pins σ H1 s1∧CX1 X.prog X.w X.stack H1 s1 E e s'
section
variable {X:Cx} {k:Nat} {f:Addr} {fd:FuncData} {ps:List Str} {sp:Sp} {x:Str} {p pos:Pos} {e:Expr} {es:List Expr} {t:TA}
theorem rn {pins:List (Addr × Obj)} {s:Shared} {σ:St} {H:Hp} {Q:VK} (E:XK) (hnx:∀ e s,X.xe e s→False) (F:FnOk X.prog X.w X.K X.mg X.base (CX1 X.prog X.w) k f fd ps sp) (hr:Room k X.A) (hg:Gl X x) (hm:X.mg x=some (.ref f)) (hk:PySem.W.keepIn X.K (.ref f)=true) (hb:Binds X.K fd ps [])
  (ha:PA X (e::es) t) (I:Inv X pins σ H s) (h:t σ H fun vs H1=>sp vs H1 Q E) (hdb:(x==("__debug__":Str))=false:=by decide) (he:starEach (e::es) X.env=(false,eval e X.env)::starEach es X.env:=by rfl) (hpl:(backTo pos (starEach es X.env)).any (·.1)=false:=by rfl):
  wpAny (model X.prog X.w) X.A (eval (.Call (.Name x p) (e::es) [] pos) X.env) (EP X pins σ Q) (Came X pins σ E) s:=by
 refine wpAny_Call_Name_kw (gP I hg hm ?_ hdb)
 refine PySem.W.callWith_K (h₀:=X.base) I.ok.mod.kin hk (wpAny_mono (ha pos pins s σ H _ I h) (fun us s1 ⟨vs,H1,I1,r,q⟩=>⟨I1.kIn,?_⟩) fun e s z=>(hnx e s z).elim) he hpl
 have r2:Vals vs (us++[]):=by simpa using r
 have hl:(us++[]).length=ps.length:=by rw [← r2.length]; exact F.len _ _ _ _ q
 refine wpAny_call (codeAny_mono (F.run X.A X.stack s1 H1 ⟨us,[]⟩ (us++[]) vs Q E hr I1.env0 (hb s1 us I1.kIn hl) r2 q) fun r s' hq=>?_)
 cases r with
 | error e=>exact ⟨H1,s1,I1,hq⟩
 | ok fl=>
  cases fl with
  | ret u=>exact I1.after hq
  | next=>exact False.elim hq
  | brk=>exact False.elim hq
  | cont=>exact False.elim hq
def tX (K:PySem.W.Frag) (cv:Value) (i:Nat) (E:XK) (th:TS):TS:=fun D σ _=>∀ C H2,E (.ref C) none H2→PySem.W.exmOne K (.ref C) cv=some true∧∀ x,H2 x=none→
 th { nx:=fun σ' H'=>D.nx (σ'.set i none) H',rt:=D.rt,bk:=fun σ' H'=>D.bk (σ'.set i none) H',ct:=fun σ' H'=>D.ct (σ'.set i none) H' } (σ.set i (some (.ref x))) (upd H2 x (.ext (XO x C)))
theorem vw {M:Model} {a C:Addr} {h:Heap} (z:XO a C h):PySem.W.Looks M h (typeOf (.ref a)) (.ref C):=by
 obtain ⟨o,vs,hx,hc,_⟩:=z
 intro A Q E s k q
 unfold typeOf
 refine wpAny_bind (wpAny_loadPart (k _ _ hx) ?_)
 rw [hc]
 exact wpAny_pure q
theorem pY {pins:List (Addr × Obj)} {s':Shared} {σ:St} {H:Hp} {D:Ends} {E:XK} {i:Nat} {n cn:Str} {cv e:Value} {np hpos:Pos} {b₀:Stmt} {suite:List Stmt} {th:TS} (hN:X.N.Nodup) (hi:X.N[i]? =some n) (hkn:X.env.kindOf n=some .local) (hg:Gl X cn) (hm:X.mg cn=some cv)
  (hst:X.stack=X.env::X.outer) (hf:X.env.frame=some X.env.locals) (hs:∀ x,PSs (X.caught x) (b₀::suite) th) (hc:Came X pins σ E e s') (h:tX X.K cv i E th D σ H) (hdb:(cn==("__debug__":Str))=false:=by decide):
  wpAny (model X.prog X.w) X.A (noteFrame e X.env) (fun _ s₂=>wpAny (model X.prog X.w) X.A (setFlight e none) (fun _ s₃=>wpAny (model X.prog X.w) X.A (handleBy e X.env [.ExceptHandler (some (.Name cn np)) (some n) (b₀::suite) hpos]) (SP X pins D) X.xe s₃) X.xe s₂) X.xe s':=by
 obtain ⟨H1,s1,I,x,T,C,H',rfl,F,q⟩:=hc
 obtain ⟨hC,hth⟩:=h C H' q
 obtain ⟨oe,vs,oT,ts,a0,he,hcl,h0,hd,h1,hTx,hT,hdT,h3⟩:=F.tr
 have ff:s'.heap.FunFrames X.base X.stack:=nt I.stack (fun b hb=>⟨hb,I.stkFree b hb⟩) F.un
 have fl:Heap.FlyingW (PySem.W.hideAll s'.heap (frs X.stack++[x,T])) X.stack x (.ref C) a0 s'.heap:=
  ⟨fun b o e=>PySem.W.of_hideAll _ e,PySem.W.hideAll_none _ (by simp),jB ff fun b hb=>List.mem_append_left _ hb,oe,vs,T,oT,ts,he,⟨hcl,h0⟩,hd,h1,PySem.W.hideAll_none _ (by simp),hTx,hT,hdT,h3⟩
 have fl':=fl
 rw [hst] at fl'
 have hfr:X.A.frames=some (X.env::X.outer):=by rw [I.ok.frames,hst]
 refine wpAny_looks_onW hfr hf fl' fun h4 held up4=>?_
 refine wpAny_landsW held fun h5 fl5 up5=>?_
 have I5:=tW (a0:=a0) (h5:=h5) I F (by rw [hst]; exact fl5) (up4.trans up5)
 refine wpAny_handleBy_cons (codeAny_handlers_test (gP (X:=X.caught x) I5.caught hg hm ?_ hdb)) (by intro q; cases q)
 have hx5:XO x C h5:=(I5.hok x _ ae).1
 refine (PySem.W.exm_one (M:=model X.prog X.w) (h:=h5) I5.kIn (vw hx5) hC).here ?_
 refine codeAny_handlers_suite_as ?_
 refine lands_againW fl5 fun h6 fl6 up6=>?_
 have I6:=tW (a0:=a0) (h5:=h6) I F (by rw [hst]; exact fl6) ((up4.trans up5).trans up6)
 refine gW (X:=X.caught x) (v:=.ref x) I6.caught hN hi (.inl hkn) rfl (fun s7 I7=>?_) (.inr hkn)
 refine wpAny_mono (hs x pins s7 _ _ _ I7 (hth x F.fx)) (fun fw s8 h8=>?_) fun _ _ z=>z.elim
 cases fw with
 | next=>obtain ⟨σ',H9,I9,q9⟩:=h8; exact kL (I9.uncaught I.ok) hN hi hkn fun s' I'=>⟨_,H9,I',q9⟩
 | brk=>obtain ⟨σ',H9,I9,q9⟩:=h8; exact kL (I9.uncaught I.ok) hN hi hkn fun s' I'=>⟨_,H9,I',q9⟩
 | cont=>obtain ⟨σ',H9,I9,q9⟩:=h8; exact kL (I9.uncaught I.ok) hN hi hkn fun s' I'=>⟨_,H9,I',q9⟩
 | ret u=>obtain ⟨v,σ',H9,I9,r9,q9⟩:=h8; exact kL (I9.uncaught I.ok) hN hi hkn fun s' I'=>⟨v,_,H9,I',r9,q9⟩
end
end L2
namespace L2
open PySem PySem.Spec PyProof.Rows
def jl (es:Array DictEntry):Bool:=es.toList.all lj&&(nsFind es "__init__").isNone
theorem ou {K:PySem.W.Frag} {N:Addr} {c:Value} {d:Option Addr} {es:Array DictEntry} {n:Nat} {sl:Array (Option Value)} (l:K.lookup N=some ⟨c,d,.dict es n,sl⟩) (h:jl es=true):fj K N=true:=by
 unfold fj
 rw [l]
 exact h
structure EA where
 ClueError:Addr
 NoFloor:Addr
 NoFilling:Addr
 NoRule:Addr
 NoPuzzle:Addr
 TooMany:Addr
 NotOne:Addr
 NoMove:Addr
 NoText:Addr
 NoName:Addr
 NoRow:Addr
 BadThought:Addr
structure ErrM (mg:Str→Option Value) (a:EA):Prop where
 ClueError:mg "ClueError"=some (.ref a.ClueError)
 NoFloor:mg "NoFloor"=some (.ref a.NoFloor)
 NoFilling:mg "NoFilling"=some (.ref a.NoFilling)
 NoRule:mg "NoRule"=some (.ref a.NoRule)
 NoPuzzle:mg "NoPuzzle"=some (.ref a.NoPuzzle)
 TooMany:mg "TooMany"=some (.ref a.TooMany)
 NotOne:mg "NotOne"=some (.ref a.NotOne)
 NoMove:mg "NoMove"=some (.ref a.NoMove)
 NoText:mg "NoText"=some (.ref a.NoText)
 NoName:mg "NoName"=some (.ref a.NoName)
 NoRow:mg "NoRow"=some (.ref a.NoRow)
 BadThought:mg "BadThought"=some (.ref a.BadThought)
abbrev Glb (K:PySem.W.Frag) (x:Str) (C:Addr):Prop:=PySem.W.nsIn K mainGlobals x=some (some (.ref C))
theorem Glb.eq {K:PySem.W.Frag} {x:Str} {C D:Addr} (h:Glb K x C) (h':Glb K x D):C=D:=by
 have:=h.symm.trans h'
 cases this
 rfl
structure nv (K:PySem.W.Frag) (a:EA) (x:Str) (C:Addr) (os:List Addr):Prop where
 g:Glb K x C
 xc:XC K C a.ClueError
 xis:XIs K C
 ve:PySem.W.kitOne K (.ref C) (.type "ValueError")=some true
 ex:PySem.W.exmOne K (.ref C) (.ref a.ClueError)=some true
 no:∀ y∈os,PySem.W.kitOne K (.ref C) (.ref y)=some false
theorem uG {K:PySem.W.Frag} {C:Addr}:PySem.W.kitOne K (.ref C) (.ref C)=some true:=by
 unfold PySem.W.kitOne
 rw [if_pos (by simp)]
theorem uZ {K:PySem.W.Frag} {x C y:Addr} {b:Bool} {H:Hp} {Q:VK} (Z:XIs K C) (hx:H x=some (.ext (XO x C))) (hk:PySem.W.kitOne K (.ref C) (.ref y)=some b) (h:Q (.bl b) H):kIsX K [.ref x,.ref y] H Q:=⟨x,C,_,_,b,rfl,hx,Z,rfl,hk,h⟩
theorem wy {K:PySem.W.Frag} {x C:Addr} {n:String} {b:Bool} {H:Hp} {Q:VK} (Z:XIs K C) (hx:H x=some (.ext (XO x C))) (hk:PySem.W.kitOne K (.ref C) (.type n)=some b) (h:Q (.bl b) H):kIsX K [.ref x,.ty n] H Q:=⟨x,C,_,_,b,rfl,hx,Z,rfl,hk,h⟩
theorem wW {K:PySem.W.Frag} {C D:Addr} {nm q:Str} {N ND:Addr} {bs:List Value} {hdct:Bool} {sn:List Str} {sub:List Value} {ab:Bool} {col:Option Bool} {dd:Option Addr} {k0 k1 k2 k3 k5:Option Value} {c0:Value} {dD:Option Addr} {cd:ClassData} {sl:Array (Option Value)}
  {cN cE:Value} {dN dE:Option Addr} {es es':Array DictEntry} {n n':Nat} {sN sE:Array (Option Value)}
  (l1:K.lookup C=some (excClassObj nm q C N bs (.ref D::VE) hdct sn sub ab col dd k0 k1 k2 k3 k5 "ValueError.__new__")) (m1:K.lookup N=some ⟨cN,dN,.dict es n,sN⟩) (n1:jl es=true)
  (l2:K.lookup D=some ⟨c0,dD,.cls cd,sl⟩) (e2:cd.ns=ND) (m2:K.lookup ND=some ⟨cE,dE,.dict es' n',sE⟩) (n2:jl es'=true):XC K C D:=.mk' l1 (ou m1 n1) l2 (ou (by rw [e2]; exact m2) n2)
theorem oP:bootBuiltins "ValueError"=some (.type "ValueError"):=by decide+kernel
structure eH (P:Program) (w:World) (K:PySem.W.Frag) (mg:Str→Option Value) (base:Heap) (k:Nat) (x:Str) (ps:List Str) (sp:Sp):Prop where
 ex:∃ (f:Addr) (fd:FuncData),FnOk P w K mg base (CX1 P w) k f fd ps sp∧mg x=some (.ref f)∧PySem.W.keepIn K (.ref f)=true∧Binds K fd ps []
theorem nA {X:Cx} {k n:Nat} {x:Str} {ps:List Str} {sp:Sp} {p pos:Pos} {e:Expr} {es:List Expr} {t:TA} {E:XK} (hE:gY (CX1 X.prog X.w) X E) (C:eH X.prog X.w X.K X.mg X.base k x ps sp) (hr:Room n X.A) (hk:k≤n) (hg:Gl X x) (ha:PA X (e::es) t)
  (hdb:(x==("__debug__":Str))=false:=by decide) (he:starEach (e::es) X.env=(false,eval e X.env)::starEach es X.env:=by rfl) (hpl:(backTo pos (starEach es X.env)).any (·.1)=false:=by rfl):
  PE X (.Call (.Name x p) (e::es) [] pos) (tCall sp [] E t):=by
 obtain ⟨f,fd,F,hm,hkp,hb⟩:=C.ex
 exact rf F (hr.mono hk) hg hm hkp hb .nil hE ha hdb he hpl
end L2
namespace L2
open PySem PySem.Spec PyProof.Rows
def cMulB:R2
 | .int i,.int j,H,Q=>IntMulOk i j∧Q (.int (i*j)) H
 | _,_,_,_=>False
end L2
namespace Att
open PySem PySem.W PySem.Calls PyProof.Rows
end Att
namespace L2
open PySem PySem.Spec PyProof.Rows
section
variable {K:PySem.W.Frag} {H:Hp} {Q:VK} {D:Ends} {σ:St}
theorem xk {i j:Int}:cMulB (.int i) (.int j) H Q=(IntMulOk i j∧Q (.int (i*j)) H):=rfl
theorem mj {i j:Int}:cPow (.int i) (.int j) H Q=(CPow i j∧Q (.int (i^j.toNat)) H):=rfl
theorem vx {E:XK} {C:Addr} {t:TA}:pX E C t D σ H=t σ H fun vs H1=>vs.length≤sizeLine∧E (.ref C) none H1:=rfl
theorem ro {ix:List (Option Nat)} {tl:TE} {g:TG} {tt:TT} {te:TE}:tComp ix (iTup K tl) g tt te σ H Q=tl σ H fun x H1=>∃ a,x=.ref a∧(∃ xs,SqT K H1 a xs)∧CompR (Itt K a) g tt te (fun l H'=>Q (.ref l) H') (subσ ix σ) H1:=rfl
theorem u6 {p:Addr} {bs:List Bool} (hp:H p=some (.lst (bs.map V.bl))) (h:Q (.bl (bs.any id)) H):kAny [.ref p] H Q:=by
 show bnd (unL (H p)) _
 rw [hp]
 exact aL (a:=bs.map V.bl) rfl ⟨bs,rfl,h⟩
theorem jm {p q:Addr} {xs ys:List V} (hp:H p=some (.lst xs)) (hq:H q=some (.lst ys)) (hn:xs.length+ys.length≤1000) (h:∀ r,H r=none→Q (.ref r) (upd H r (.lst (xs++ys)))):cAdd (.ref p) (.ref q) H Q:=by
 show bnd (unM (H p)) _
 rw [hp]
 refine aL (a:=xs) rfl ?_
 rw [hq]
 exact aL (a:=ys) rfl ⟨Nat.le_of_lt (aD hn),h⟩
theorem uH {g:TG} {tt:TT} {te:TE} {a:Addr} {xs:List V} {fin:Addr→Hp→Prop} {σ0:St} {H1:Hp} (Pv:Addr→Nat→St→Hp→Prop) (h0:∀ l,H1 l=none→Pv l 0 σ0 (upd H1 l (.lst []))) (hq:∀ l i σ H,H1 l=none→i≤xs.length→Pv l i σ H→SqT K H a xs)
  (hs:∀ l i x σ H,H1 l=none→xs[i]? =some x→Pv l i σ H→g x σ H fun σ2 H3=>tt σ2 H3 fun b H4=>if b=true then te σ2 H4 fun y H5=>∃ ys,H5 l=some (.lst ys)∧ys.length < sizeLine∧Pv l (i+1) σ2 (upd H5 l (.lst (ys++[y]))) else Pv l (i+1) σ2 H4)
  (hd:∀ l σ H,H1 l=none→Pv l xs.length σ H→fin l H):CompR (Itt K a) g tt te fin σ0 H1:=by
 intro l hl0
 refine ⟨fun i m σ H=>m=xs.length - i∧i≤xs.length∧Pv l i σ H,⟨xs.length,by simp,Nat.zero_le _,h0 l hl0⟩,?_⟩
 rintro i m σ H ⟨rfl,hi,p⟩
 have q:=hq l i σ H hl0 hi p
 by_cases hlt:i < xs.length
 · refine .inr ⟨⟨xs,xs[i],q,by simp [hlt]⟩,Pv l (i+1),fun σ' H' p'=>⟨xs.length - (i+1),by omega,rfl,hlt,p'⟩,fun x H' y=>?_⟩
   obtain ⟨e,y⟩:=y
   subst e
   exact hs l i x σ _ hl0 (y xs q) p
 · have e:i=xs.length:=by omega
   subst e
   exact .inl ⟨⟨xs,q,Nat.le_refl _⟩,hd l σ H hl0 p⟩
end
end L2
namespace L2
open PySem PySem.Spec PyProof.Rows
inductive RK where
 | Rule | Unlike | Sum | Rising | Seen | Count | Joined | NoSquare | Ring
 deriving DecidableEq
structure RCl (ι:Type) where
 A:ι→Addr
 ok:ι→Bool
section
variable {ι:Type}
def tFldK (c:RCl ι) (ta:TE) (f:Str):TE:=fun σ H Q=>ta σ H fun x H1=>∃ a k dx fs v,x=.ref a∧c.ok k=true∧H1 a=some (.ins (c.A k) dx fs)∧fs.lookup f=some v∧Q v H1
def sFldK (c:RCl ι) (ta tv:TE) (f:Str):TS:=fun D σ H=>tv σ H fun y H1=>ta σ H1 fun x H2=>∃ a k dx fs,x=.ref a∧c.ok k=true∧H2 a=some (.ins (c.A k) dx fs)∧fs.length < 1000∧
 D.nx σ (upd H2 a (.ins (c.A k) dx (putF f y fs)))
def aQ (c:RCl ι) (okm:ι→Bool) (m:Str) (sp:ι→Sp) (ta:TE) (t:TA):TE:=fun σ H Q=>ta σ H fun x H1=>∃ a k dx fs,x=.ref a∧okm k=true∧H1 a=some (.ins (c.A k) dx fs)∧fs.lookup m=none∧
 t σ H1 fun vs H2=>sp k (x::vs) H2 Q E0
structure FldK (K:PySem.W.Frag) (c:RCl ι) (f:Str):Prop where
 ex:∀ k,c.ok k=true→Cls K (c.A k)∧NoAttr K (c.A k) f
structure MCal (P:Program) (w:World) (K:PySem.W.Frag) (mg:Str→Option Value) (base:Heap) (c:RCl ι) (okm:ι→Bool) (k:Nat) (m:Str) (ps:List Str) (sp:ι→Sp):Prop where
 ex:∀ i,okm i=true→∃ (f:Addr) (fd:FuncData),Cls K (c.A i)∧Meth K (c.A i) m f∧FnOk P w K mg base CX0 k f fd ps (sp i)∧Binds K fd ps []
structure KCal (P:Program) (w:World) (K:PySem.W.Frag) (mg:Str→Option Value) (base:Heap) (k:Nat) (x:Str) (C:Addr) (ps:List Str) (sp:Sp):Prop where
 ex:∃ (f:Addr) (fd:FuncData),Mk K C f∧FnOk P w K mg base CX0 k f fd ps sp∧mg x=some (.ref C)∧Binds K fd ps []
end
section
variable {ι:Type} {X:Cx} {c:RCl ι} {o e value:Expr} {es:List Expr} {f x m:Str} {p pos pos' apos:Pos} {ta tv:TE} {t:TA} {okm:ι→Bool} {k n:Nat} {ps:List Str} {sp:ι→Sp} {sp1:Sp} {C:Addr}
theorem bq (he:PE X e ta) (F:FldK X.K c f) (hb:attributeBase e f X.env (eval e X.env)=eval e X.env:=by rfl):PE X (.Attribute e f pos) (tFldK c ta f):=by
 intro pins s σ H Q I h
 refine vb hb (thn (he pins s σ H _ I h) fun u s1 ⟨x,H1,I1,rx,a,k,dx,fs,v,ex,hk,ea,l,q⟩=>?_)
 subst ex
 obtain rfl:u=Value.ref a:=rx
 obtain ⟨cl,na⟩:=F.ex k hk
 exact rK I1 ea cl na l fun u' s2 I2 ru=>⟨v,H1,I2,ru,q⟩
theorem eY (ha:PE X o ta) (hv:PE X value tv) (F:FldK X.K c f) (hs:swapsWith value (some (.Attribute o f pos')) pos.line X.env=pure false:=by rfl):PS X (.Assign [.Attribute o f pos'] value pos) (sFldK c ta tv f):=by
 intro pins s σ H D I h
 refine plainObj_wpAny_Assign_Attribute (thn (hv pins s σ H _ I h) fun u s1 ⟨y,H1,I1,ry,q⟩=>thn (ha pins s1 σ H1 _ I1 q) fun ov s2 ⟨x,H2,I2,rx,a,k,dx,fs,ex,hk,ea,l,q2⟩=>?_) hs
 subst ex
 obtain rfl:ov=Value.ref a:=rx
 obtain ⟨cl,na⟩:=F.ex k hk
 exact rL I2 ea cl na l ry fun s3 I3=>⟨σ,_,I3,q2⟩
theorem bp {pl:Sem Bool} (M:MCal X.prog X.w X.K X.mg X.base c okm k m ps sp) (hr:Room n X.A) (hk:k≤n) (he:PE X o ta) (ha:PA X (e::es) t)
  (hst:starEach (e::es) X.env=(false,eval e X.env)::starEach es X.env:=by rfl) (hpl:(backTo pos (starEach es X.env)).any (·.1)=false:=by rfl)
  (ht:eval (.Call (.Attribute o m apos) (e::es) [] pos) X.env=(do
   let ov ← eval o X.env
   standAt apos.atName
   let (f,first) ← holding [ov] (getMethod ov m pl)
   callWith pos f first (backTo pos (starEach (e::es) X.env)) (backToKw pos (keywordEach [] X.env))):=by rfl):
  PE X (.Call (.Attribute o m apos) (e::es) [] pos) (aQ c okm m sp ta t):=by
 intro pins s σ H Q I h
 refine PySem.W.methodCall_KW (pl:=pl) (thn (he pins s σ H _ I h) fun u s1 ⟨x,H1,I1,rx,a,i,dx,fs,ex,hi,ea,l,q⟩=>?_) ht
 subst ex
 obtain rfl:u=Value.ref a:=rx
 obtain ⟨f,fd,cl,hm,F,hb⟩:=M.ex i hi
 refine lT I1 ea cl hm l ?_
 refine PySem.W.callWith_K (first:=[.ref a]) (h₀:=X.base) I.ok.mod.kin hm.kp (thn (ha pos pins s1 σ H1 _ I1 q) fun us s2 ⟨vs,H2,I2,r,q2⟩=>⟨I2.kIn,?_⟩) hst hpl
 exact pF (us:=.ref a::us) (vs:=.ref a::vs) F (hr.mono hk) hb .nil pq I2 (.cons rfl r) (by rw [List.append_nil]; exact q2)
theorem e8 {pl:Sem Bool} (M:MCal X.prog X.w X.K X.mg X.base c okm k m ps sp) (hr:Room n X.A) (hk:k≤n) (he:PE X o ta)
  (ht:eval (.Call (.Attribute o m apos) [] [] pos) X.env=(do
   let ov ← eval o X.env
   standAt apos.atName
   let (f,first) ← holding [ov] (getMethod ov m pl)
   callWith pos f first (backTo pos (starEach [] X.env)) (backToKw pos (keywordEach [] X.env))):=by rfl):
  PE X (.Call (.Attribute o m apos) [] [] pos) (aQ c okm m sp ta tNil):=by
 intro pins s σ H Q I h
 refine PySem.W.methodCall_KW (pl:=pl) (thn (he pins s σ H _ I h) fun u s1 ⟨x,H1,I1,rx,a,i,dx,fs,ex,hi,ea,l,q⟩=>?_) ht
 subst ex
 obtain rfl:u=Value.ref a:=rx
 obtain ⟨f,fd,cl,hm,F,hb⟩:=M.ex i hi
 refine lT I1 ea cl hm l ?_
 exact PySem.W.callWith_K0 (first:=[.ref a]) I1.kIn hm.kp (pF (us:=[.ref a]) (vs:=[.ref a]) F (hr.mono hk) hb .nil pq I1 (.cons rfl .nil) q)
theorem gL (M:KCal X.prog X.w X.K X.mg X.base k x C ps sp1) (hr:Room n X.A) (hk:k+1≤n) (hg:Gl X x) (ha:PA X (e::es) t)
  (hdb:(x==("__debug__":Str))=false:=by decide) (he:starEach (e::es) X.env=(false,eval e X.env)::starEach es X.env:=by rfl) (hpl:(backTo pos (starEach es X.env)).any (·.1)=false:=by rfl):
  PE X (.Call (.Name x p) (e::es) [] pos) (tMake C sp1 [] E0 t):=by
 obtain ⟨f,fd,mk,F,hm,hb⟩:=M.ex
 exact vc mk F (hr.mono hk) hg hm hb .nil pq ha hdb he hpl
end
def ii (K:PySem.W.Frag):List V→Hp→VK→Prop
 | [.ref p],H,Q=>bnd (unM (H p)) fun ys=>∀ l,H l=none→Q (.ref l) (upd H l (.tup ys))
 | _,_,_=>False
def tInG (ws:List Str) (neg:Bool) (te:TE):TE:=fun σ H Q=>te σ H fun x H1=>∃ z,x=.str z∧Q (.bl (if neg then !decide (z∈ws) else decide (z∈ws))) H1
structure GTup (K:PySem.W.Frag) (mg:Str→Option Value) (x:Str) (ws:List Str):Prop where
 ex:∃ (p:Addr) (o:Obj) (its:Array Value) (n:Nat),mg x=some (.ref p)∧K.lookup p=some o∧o.cls=.type "tuple"∧o.data=.seq its n∧its.size≤sizeLine∧Vals (ws.map V.str) its.toList
theorem kl:∀ ns:List Str,(ns.map V.str).all flatV=true
 | []=>rfl
 | n::r=>by rw [List.map_cons,List.all_cons,kl r]; rfl
theorem lm (i:Str):∀ ns:List Str,inV (.str i) (ns.map V.str)=decide (i∈ns)
 | []=>by simp [inV]
 | n::r=>by
  have ih:=lm i r
  unfold inV at ih ⊢
  rw [List.map_cons,List.any_cons,ih]
  show ((n==i)||decide (i∈r))=decide (i∈n::r)
  rw [Bool.eq_iff_iff,Bool.or_eq_true,beq_iff_eq,decide_eq_true_eq,decide_eq_true_eq,List.mem_cons]
  exact ⟨fun h=>h.elim (fun e=>.inl e.symm) .inr,fun h=>h.elim (fun e=>.inl e.symm) .inr⟩
section
variable {X:Cx} {a:Expr} {ta:TE} {pos p:Pos} {x:Str} {ws:List Str}
theorem la:CallR X (.type "tuple") (ii X.K):=by
 intro pins s σ H xs us Q I r h
 unfold ii at h
 split at h
 · obtain ⟨ys,e,q⟩:=aO h
   exact oK pins s σ H _ us Q I r ⟨_,ys,rfl,.inl ⟨SqL.of (fc e),q⟩⟩
 · exact h.elim
theorem wz {ws:List Str} {q:Addr} (hq:∃ (o:Obj) (its:Array Value) (n:Nat),X.K.lookup q=some o∧o.cls=.type "tuple"∧o.data=.seq its n∧its.size≤sizeLine∧Vals (ws.map V.str) its.toList):
  OpR X (compareOp .In) (fun x y H Q=>∃ z,x=.str z∧y=.ref q∧Q (.bl (decide (z∈ws))) H):=by
 intro pins s σ H x y v u Q I rx ry h
 obtain ⟨z,rfl,rfl,h⟩:=h
 refine oi pins s σ H _ _ v u Q I rx ry ⟨q,ws.map V.str,rfl,.inr (.inr hq),rfl,kl ws,?_⟩
 rw [lm]
 exact h
theorem vy {ws:List Str} {q:Addr} (hq:∃ (o:Obj) (its:Array Value) (n:Nat),X.K.lookup q=some o∧o.cls=.type "tuple"∧o.data=.seq its n∧its.size≤sizeLine∧Vals (ws.map V.str) its.toList):
  OpR X (compareOp .NotIn) (fun x y H Q=>∃ z,x=.str z∧y=.ref q∧Q (.bl (!decide (z∈ws))) H):=by
 intro pins s σ H x y v u Q I rx ry h
 obtain ⟨z,rfl,rfl,h⟩:=h
 refine jW pins s σ H _ _ v u Q I rx ry ⟨q,ws.map V.str,rfl,.inr (.inr hq),rfl,kl ws,?_⟩
 rw [lm]
 exact h
end
section
variable {ι:Type} {c:RCl ι} {ta tv:TE} {t:TA} {f m:Str} {σ:St} {H:Hp} {Q:VK} {D:Ends} {okm:ι→Bool} {sp:ι→Sp} {sp1:Sp} {C:Addr} {K:PySem.W.Frag}
theorem km:tMake C sp1 [] E0 t σ H Q=t σ H fun vs H1=>∀ x dx,H1 x=none→H1 dx=none→dx≠x→sp1 (.ref x::(vs++[])) (upd (upd H1 dx (.own x)) x (.ins C dx [])) (fun v H2=>v=.non∧Q (.ref x) H2) E0:=rfl
theorem ml {ws:List Str} {neg:Bool} {te:TE}:tInG ws neg te σ H Q=te σ H fun x H1=>∃ z,x=.str z∧Q (.bl (if neg then !decide (z∈ws) else decide (z∈ws))) H1:=rfl
theorem vz {p:Addr} {xs:List V} (hp:H p=some (.lst xs)) (h:∀ l,H l=none→Q (.ref l) (upd H l (.tup xs))):ii K [.ref p] H Q:=by
 unfold ii
 dsimp only
 rw [hp]
 exact h
end
end L2
namespace L2
open PySem PySem.Spec PyProof.Rows
def cntD (ns:List Int):Nat:=(firstMet (fun i=>ns.getD i 0) ns.length).length
def kM (te:TE):TE:=fun σ H Q=>te σ H fun x H1=>∃ p ns,x=.ref p∧H1 p=some (.lst (ns.map V.int))∧ns.length≤900∧Q (.int (cntD ns:Nat)) H1
theorem ij {te:TE} {σ:St} {H:Hp} {Q:VK}:kM te σ H Q=te σ H fun x H1=>∃ p ns,x=.ref p∧H1 p=some (.lst (ns.map V.int))∧ns.length≤900∧Q (.int (cntD ns:Nat)) H1:=rfl
theorem vA:bootBuiltins "set"=some (.type "set"):=by decide+kernel
theorem ow {X:Cx} {e:Expr} {te:TE} {p p2 pos pos2:Pos} (hc:X.calm=true) (hgl:Gl X "len") (hgs:Gl X "set") (hl:X.mg "len"=none) (hs:X.mg "set"=none) (he:PE X e te)
  (hs1:starEach [.Call (.Name "set" p2) [e] [] pos2] X.env=[(false,eval (.Call (.Name "set" p2) [e] [] pos2) X.env)]:=by rfl) (hs2:starEach [e] X.env=[(false,eval e X.env)]:=by rfl):
  PE X (.Call (.Name "len" p) [.Call (.Name "set" p2) [e] [] pos2] [] pos) (kM te):=by
 intro pins s σ H Q I h
 refine wpAny_Call_Name_kw (di I hgl hl bG ?_ (by decide) (by decide))
 refine PyProof.Rows.callWith_builtin1 ?_ hs1 rfl
 rw [hs1]
 show wpAny _ _ (spliced [(false,eval (.Call (.Name "set" p2) [e] [] pos2) X.env)]) _ _ s
 refine Calls.spliced_cons ?_
 refine wpAny_Call_Name_kw (di I hgs hs vA ?_ (by decide) (by decide))
 refine PyProof.Rows.callWith_type1 ?_ hs2 rfl
 rw [hs2]
 show wpAny _ _ (spliced [(false,eval e X.env)]) _ _ s
 refine Calls.spliced_cons (thn (he pins s σ H _ I h) fun u s1 ⟨x,H1,I1,r1,q1⟩=>?_)
 refine Calls.spliced_nil ?_
 obtain ⟨l,ns,rfl,hys,hn,q⟩:=q1
 cases r1
 obtain ⟨its,n,rv,ho,hz⟩:=I1.lst hys
 have hL:s1.heap.IsList l its.toArray:=⟨_,ho,rfl,n,rfl⟩
 have hI:IntsAre its ns:=lU rv
 have hlen:=rv.length
 rw [List.length_map] at hlen
 refine call_set_list (ns:=ns) (I.ok.hd hc) hL (by simpa using hI) (by rw [List.size_toArray,← hlen]; exact Nat.lt_of_le_of_lt (Nat.succ_le_succ hn) (by decide)) fun h' tk hS old=>?_
 refine Calls.spliced_nil ?_
 obtain ⟨o,es,ep,t,h1,h2,h3,h4,h5,h6,h7,h8⟩:=hS
 have hb:(firstMet (fun i=>ns.getD i 0) its.toArray.size).length≤900:=Nat.le_trans (firstMet_length_le _ _) (by rw [List.size_toArray,← hlen]; exact hn)
 refine call_len_set h1 h2 h3 h7 (by omega) ?_
 have I2:Inv X pins σ H1 { s1 with heap:=h',toks:=tk }:=I1.kept fun b o' e=>old b o' (Heap.lt_size e) e
 refine ⟨.int _,H1,I2.tok _,⟨_,rfl⟩,?_⟩
 rw [h8,List.size_toArray,← hlen]
 exact q
def kn:V→List V→Hp→VK→Prop
 | .str sep,[.ref p],H,Q=>bnd (unS (H p)) fun ys=>∃ ts:List Str,ys=ts.map V.str∧JoinOk sep ts=true∧Q (.str (Txt.join sep ts)) H
 | _,_,_,_=>False
theorem tY {X:Cx}:MtR X "str.join" kn:=by
 intro pins s σ H x vs v us Q I rx rv h
 unfold kn at h
 split at h
 · rename_i sep p
   obtain ⟨ys,e,ts,rfl,hok,q⟩:=aO h
   rcases jd (K:=X.K) e with hq | hq
   · obtain ⟨t,rfl⟩:=rx
     obtain ⟨u,rfl,ru⟩:=cC rv
     cases ru
     obtain ⟨its,rvv,pl,hz⟩:=I.list hq
     obtain ⟨l,rfl,hl⟩:=nj rvv
     exact SC.join pl.isList hl hok fun t' k=>⟨.str _,H,I.tok k,⟨t',rfl⟩,q⟩
   · obtain ⟨t,rfl⟩:=rx
     obtain ⟨u,rfl,ru⟩:=cC rv
     cases ru
     obtain ⟨its,rvv,pl,hz⟩:=I.tuple hq
     obtain ⟨l,rfl,hl⟩:=nj rvv
     subst hl
     obtain ⟨o,h1,h2,n,h3⟩:=pl
     have hok':=hok
     unfold JoinOk at hok'
     rw [Bool.not_eq_true'] at hok'
     exact call_meets F.slot_str_join (typeIs_str _ _ _) F.entry_str_join (F.args_str_join_2 _ _) (meets_str_join_tuple sep t p l hok') ⟨⟨o,n,h1,h2,h3⟩,post_join l ⟨joinFit_length hok',fun t' k=>⟨.str _,H,I.tok k,⟨t',rfl⟩,q⟩⟩⟩
 · exact h.elim
end L2
namespace L2
open PySem PySem.Spec PyProof.Rows
section
variable {X:Cx} {e:Expr} {te:TE} {p2 p3 p4 pos:Pos} {z0:Nat}
def mn:V→List V→Hp→VK→Prop
 | .ref l,[.int i],H,Q=>bnd (unM (H l)) fun xs=>0≤i∧i < xs.length∧bnd (xs[i.toNat]?) fun y=>Q y (upd H l (.lst (xs.eraseIdx i.toNat)))
 | _,_,_,_=>False
theorem seqIx {i:Int} {n:Nat} (h0:0≤i) (h1:i < n):seqIndex? i n=some i.toNat:=by
 obtain ⟨k,rfl⟩:=Int.eq_ofNat_of_zero_le h0
 have hk:k < n:=by omega
 unfold seqIndex?
 have hn:¬ ((k:Int) < 0):=by omega
 simp [hk,hn]
theorem tZ:MtR X "list.pop" mn:=by
 intro pins s σ H x vs v us Q I rx rv h
 unfold mn at h
 split at h
 · obtain ⟨xs,e,h0,h1,h⟩:=aO h
   obtain ⟨y,ey,q⟩:=aO h
   have hz:xs.length≤sizeLine:=(I.lstM (fc e)).1
   have hs:(sizeLine:Int) < 2^63:=by decide
   exact ut pins s σ H _ _ v us Q I rx rv ⟨_,xs,_,_,y,rfl,rfl,fc e,by omega,by omega,seqIx h0 h1,ey,q⟩
 · exact h.elim
def tRevL (te:TE):TE:=fun σ H Q=>te σ H fun x H1=>∃ p xs,x=.ref p∧H1 p=some (.lst xs)∧∀ l,H1 l=none→Q (.ref l) (upd H1 l (.lst xs.reverse))
end
section
variable {σ:St} {H:Hp} {Q:VK} {te:TE}
theorem mq {i j:Int} {H:Hp} {Q:VK}:kMax [.int i,.int j] H Q=Q (.int (if j > i then j else i)) H:=rfl
theorem ko:tRevL te σ H Q=te σ H fun x H1=>∃ p xs,x=.ref p∧H1 p=some (.lst xs)∧∀ l,H1 l=none→Q (.ref l) (upd H1 l (.lst xs.reverse)):=rfl
theorem vB {l:Addr} {i:Int} {xs:List V} {y:V} (hl:H l=some (.lst xs)) (h0:0≤i) (h1:i < xs.length) (ey:xs[i.toNat]? =some y) (q:Q y (upd H l (.lst (xs.eraseIdx i.toNat)))):mn (.ref l) [.int i] H Q:=by
 show bnd (unM (H l)) _
 rw [hl]
 exact aL (a:=xs) rfl ⟨h0,h1,aL ey q⟩
end
end L2
namespace L2
open PySem PySem.Spec PyProof.Rows
theorem rZ:typeLookup (.type "str") (Str.ofString "__int__")=pure none:=by rw [typeLookup_type,builtinLookup_eq_fast]; kernel_rfl
theorem pZ:typeLookup (.type "str") (Str.ofString "__index__")=pure none:=by rw [typeLookup_type,builtinLookup_eq_fast]; kernel_rfl
theorem p5:typeLookup (.type "str") (Str.ofString "__trunc__")=pure none:=by rw [typeLookup_type,builtinLookup_eq_fast]; kernel_rfl
def numC (n:Nat):List Nat:=if n < 10 then [48+n] else [48+n / 10,48+n % 10]
theorem t0 {n:Nat} (h:n < 100):((tx (numC n)).cps.all fun x=>decide (x < 128))=true:=by
 have t:((List.range 100).all fun n=>(tx (numC n)).cps.all fun x=>decide (x < 128))=true:=by decide+kernel
 exact List.all_eq_true.mp t n (List.mem_range.mpr h)
theorem t1 {α:Type} {M:Model} {A:Around} {E:Value→Shared→Prop} {s:Shared} {Q:α→Shared→Prop} {m m':Sem α} (e:m=m') (h:wpAny M A m' Q E s):wpAny M A m Q E s:=e ▸ h
set_option maxHeartbeats 4000000 in
theorem gis (n:Nat) (hn:n < 100) (u:Tok):Gives (Builtin.«int.__new__» ⟨[.type "int",.str (tx (numC n)) u],[]⟩) (.int n):=
 .of_wp fun M A E s Q h=>by
  obtain ⟨hp,g,d,tk,os⟩:=s
  have f1:=PySem.F.conv_sub_int
  have f2:=PySem.F.madeHere_int
  have f3:=rZ
  have f4:=pZ
  have f5:=p5
  iterate 44 (any_goals (first | assumption | wp_step))
  refine wpAny_bind (wpAny_of_eq (a:=some (tx (numC n))) rfl ?_)
  refine wpAny_of_eq (a:=some (numC n)) ?e1 ?_
  case e1=>
   show (pure (some (if ((tx (numC n)).cps.all fun x=>decide (x < 128))=true then (tx (numC n)).cps.toList else _)):Sem _)=_
   rw [if_pos (t0 hn),md]
  refine t1 (m':=mkInt (n:Int)) ?e2 ?_
  case e2=>
   clear h f1 f2 f3 f4 f5
   match n,hn with | 0,_=>kernel_rfl | 1,_=>kernel_rfl | 2,_=>kernel_rfl | 3,_=>kernel_rfl | 4,_=>kernel_rfl | 5,_=>kernel_rfl | 6,_=>kernel_rfl | 7,_=>kernel_rfl | 8,_=>kernel_rfl | 9,_=>kernel_rfl | 10,_=>kernel_rfl | 11,_=>kernel_rfl | 12,_=>kernel_rfl | 13,_=>kernel_rfl | 14,_=>kernel_rfl | 15,_=>kernel_rfl | 16,_=>kernel_rfl | 17,_=>kernel_rfl | 18,_=>kernel_rfl | 19,_=>kernel_rfl | 20,_=>kernel_rfl | 21,_=>kernel_rfl | 22,_=>kernel_rfl | 23,_=>kernel_rfl | 24,_=>kernel_rfl | 25,_=>kernel_rfl | 26,_=>kernel_rfl | 27,_=>kernel_rfl | 28,_=>kernel_rfl | 29,_=>kernel_rfl | 30,_=>kernel_rfl | 31,_=>kernel_rfl | 32,_=>kernel_rfl | 33,_=>kernel_rfl | 34,_=>kernel_rfl | 35,_=>kernel_rfl | 36,_=>kernel_rfl | 37,_=>kernel_rfl | 38,_=>kernel_rfl | 39,_=>kernel_rfl | 40,_=>kernel_rfl | 41,_=>kernel_rfl | 42,_=>kernel_rfl | 43,_=>kernel_rfl | 44,_=>kernel_rfl | 45,_=>kernel_rfl | 46,_=>kernel_rfl | 47,_=>kernel_rfl | 48,_=>kernel_rfl | 49,_=>kernel_rfl | 50,_=>kernel_rfl | 51,_=>kernel_rfl | 52,_=>kernel_rfl | 53,_=>kernel_rfl | 54,_=>kernel_rfl | 55,_=>kernel_rfl | 56,_=>kernel_rfl | 57,_=>kernel_rfl | 58,_=>kernel_rfl | 59,_=>kernel_rfl | 60,_=>kernel_rfl | 61,_=>kernel_rfl | 62,_=>kernel_rfl | 63,_=>kernel_rfl | 64,_=>kernel_rfl | 65,_=>kernel_rfl | 66,_=>kernel_rfl | 67,_=>kernel_rfl | 68,_=>kernel_rfl | 69,_=>kernel_rfl | 70,_=>kernel_rfl | 71,_=>kernel_rfl | 72,_=>kernel_rfl | 73,_=>kernel_rfl | 74,_=>kernel_rfl | 75,_=>kernel_rfl | 76,_=>kernel_rfl | 77,_=>kernel_rfl | 78,_=>kernel_rfl | 79,_=>kernel_rfl | 80,_=>kernel_rfl | 81,_=>kernel_rfl | 82,_=>kernel_rfl | 83,_=>kernel_rfl | 84,_=>kernel_rfl | 85,_=>kernel_rfl | 86,_=>kernel_rfl | 87,_=>kernel_rfl | 88,_=>kernel_rfl | 89,_=>kernel_rfl | 90,_=>kernel_rfl | 91,_=>kernel_rfl | 92,_=>kernel_rfl | 93,_=>kernel_rfl | 94,_=>kernel_rfl | 95,_=>kernel_rfl | 96,_=>kernel_rfl | 97,_=>kernel_rfl | 98,_=>kernel_rfl | 99,_=>kernel_rfl | (m+100),hm=>exact absurd hm (by omega)
  repeat (any_goals (first | assumption | wp_step))
  all_goals first | exact ⟨_,rfl,h⟩ | skip
def kN:List V→Hp→VK→Prop
 | [.int i],H,Q=>Q (.int i) H
 | [.bl k],H,Q=>Q (.int (if k then 1 else 0)) H
 | [.str z],H,Q=>∃ n:Nat,n < 100∧z=tx (numC n)∧Q (.int n) H
 | _,_,_=>False
theorem r8 {X:Cx}:CallR X (.type "int") kN:=by
 intro pins s σ H xs us Q I r h
 unfold kN at h
 split at h
 · exact nY pins s σ H _ us Q I r (.inl ⟨_,rfl,h⟩)
 · exact nY pins s σ H _ us Q I r (.inr ⟨_,rfl,h⟩)
 · obtain ⟨n,hn,rfl,q⟩:=h
   obtain ⟨u,rfl,ru⟩:=cC r
   obtain ⟨t,rfl⟩:=ru
   exact call_int_1 (gis n hn t).meets (show (Made.int (n:Int)).post _ s from ⟨rfl,⟨.int n,H,I.tok _,⟨_,rfl⟩,q⟩⟩)
 · exact h.elim
theorem jn {k:Bool} {H:Hp} {Q:VK}:kN [.bl k] H Q=Q (.int (if k then 1 else 0)) H:=rfl
theorem jo {i:Int} {H:Hp} {Q:VK}:kN [.int i] H Q=Q (.int i) H:=rfl
theorem vC {n:Nat} (h:n < 100):Str.ofString (toString (n:Int))=tx (numC n):=by
 have t:((List.range 100).all fun (n:Nat)=>decide (Str.ofString (toString (n:Int))=tx (numC n)))=true:=by decide+kernel
 simpa using List.all_eq_true.mp t n (List.mem_range.mpr h)
theorem ln {n:Nat} (h:n < 100):32∉numC n:=by
 have t:((List.range 100).all fun (n:Nat)=>decide (32∉numC n))=true:=by decide+kernel
 simpa using List.all_eq_true.mp t n (List.mem_range.mpr h)
theorem wA {n:Nat} (h:n < 100):numC n≠[]:=by unfold numC; split <;> simp
theorem nB {n:Nat}:(numC n).length≤2:=by unfold numC; split <;> simp
theorem uI {n:Nat} (h:n < 100):((numC n).head? =some 48→n=0)∧numC 0=[48]:=by
 have t:((List.range 100).all fun (n:Nat)=>decide ((numC n).head? =some 48→n=0))=true:=by decide+kernel
 exact ⟨of_decide_eq_true (List.all_eq_true.mp t n (List.mem_range.mpr h)),rfl⟩
theorem rp {n:Nat} (h:n < 100):∀ c∈numC n,48≤c∧c≤57:=by
 have t:((List.range 100).all fun (n:Nat)=>(numC n).all fun c=>decide (48≤c∧c≤57))=true:=by decide+kernel
 intro c hc
 simpa using List.all_eq_true.mp (List.all_eq_true.mp t n (List.mem_range.mpr h)) c hc
end L2
namespace L2
open PySem PySem.Spec PyProof.Rows
local macro_rules | `(tactic| walk_at "w")=>`(tactic| (first | simp only [bd,fg,iy,bh,gH,w_c,j3,gb,gj,fh,gk,w_b,w_not,iz,j4,gl,gm,iA,gI,dj,j5,gn,iB,iC,jv,iD,dk,gp,gq,gr,eP,eQ,eV,dl,dm,cA,iE,iF,iG,iH,iI,iJ,iK,iL,iM,iN,iO,iP,j8,gt,dn,gu,j9,gw,eX,dq,iQ,iR,gy,gz,gA,
 List.getElem?_cons_zero,List.getElem?_cons_succ,Option.some.injEq,exists_eq_left',exists_eq_left,List.set_cons_zero,List.set_cons_succ,cD,V.int.injEq,V.bl.injEq,V.ref.injEq,V.str.injEq,List.append_nil,List.nil_append,List.cons_append] | dsimp only | skip))
def aI (K:PySem.W.Frag):Sp:=fun vs H Q _=>∃ (a:Addr) (h w g:Int),vs=[.ref a]∧IsFl H a h w g∧1≤h∧h≤6∧Q (.int (h*w)) H
theorem oQ {K:PySem.W.Frag} {vs:List V} {H:Hp} {Q:VK} {E:XK} (h:aI K vs H Q E):vs.length=1:=by
 obtain ⟨_,_,_,_,rfl,_⟩:=h; rfl
def d6 (K:PySem.W.Frag):TS:=
 (tRet (tOp cMul (tOp cIx (tVar 0) (tC (.int 0))) (tOp cIx (tVar 0) (tC (.int 1)))))
theorem oR {K:PySem.W.Frag} {vs:List V} {H:Hp} {Q:VK} {E:XK} (h:aI K vs H Q E):d6 K { nx:=fun _ H'=>Q .non H',rt:=Q } (start ["floor"] vs) H:=by
 obtain ⟨a,h,w,g,rfl,ha,h0,h1,q⟩:=h
 show d6 K _ [some (.ref a)] H
 unfold d6
 walk_at "w"
 rw [eF ha]
 refine aL (a:=V.int h) rfl ?_
 walk_at "w"
 rw [eF ha]
 refine aL (a:=V.int w) rfl ?_
 walk_at "w"
 exact ⟨iT h0 h1,q⟩
def cornB (h w c:Int):Bool:=decide (c / w < h - 1)&&decide (c % w < w - 1)
def cp (K:PySem.W.Frag):Sp:=fun vs H Q _=>∃ (a:Addr) (h w g c:Int),vs=[.ref a,.int c]∧IsFl H a h w g∧0 < w∧w < 100∧∀ H',Same H H'→Q (.bl (cornB h w c)) H'
theorem p6 {K:PySem.W.Frag} {vs:List V} {H:Hp} {Q:VK} {E:XK} (h:cp K vs H Q E):vs.length=2:=by
 obtain ⟨_,_,_,_,_,rfl,_⟩:=h; rfl
def fk (K:PySem.W.Frag):TS:=
 (tSeq (tAsg (tCall (b5 K) [] E0 (tCons (tVar 0) (tCons (tVar 1) tNil))) (gName 2))
  (tRet (tAndV (tOp (cCmp fun i j=>decide (i < j)) (tOp cIx (tVar 2) (tC (.int 0))) (tOp cSub (tOp cIx (tVar 0) (tC (.int 0))) (tC (.int 1)))) (tOp (cCmp fun i j=>decide (i < j)) (tOp cIx (tVar 2) (tC (.int 1))) (tOp cSub (tOp cIx (tVar 0) (tC (.int 1))) (tC (.int 1)))))))
theorem p7 {K:PySem.W.Frag} {vs:List V} {H:Hp} {Q:VK} {E:XK} (h:cp K vs H Q E):fk K { nx:=fun _ H'=>Q .non H',rt:=Q } (start ["floor","cell","spot"] vs) H:=by
 obtain ⟨a,h,w,g,c,rfl,ha,w0,w1,k⟩:=h
 show fk K _ [some (.ref a),some (.int c),none] H
 unfold fk
 walk_at "w"
 refine ⟨a,h,w,g,c,rfl,ha,w0,w1,fun p hp=>?_⟩
 have s1:Same H (upd H p (.tup [.int (c / w),.int (c % w)])):=(Same.refl H).laid hp
 have k1:=k _ s1
 have ha1:=s1 _ _ ha
 have hp1:(upd H p (.tup [.int (c / w),.int (c % w)])) p=some (.tup [.int (c / w),.int (c % w)]):=ae
 generalize upd H p (.tup [.int (c / w),.int (c % w)])=H1 at*
 walk_at "w"
 rw [eF hp1]
 refine aL (a:=V.int (c / w)) rfl ?_
 walk_at "w"
 rw [eF ha1]
 refine aL (a:=V.int h) rfl ?_
 walk_at "w"
 unfold cornB at k1
 cases hb:decide (c / w < h - 1) with
 | false=>
  rw [hb,Bool.false_and] at k1
  exact iteF k1
 | true=>
  rw [hb,Bool.true_and] at k1
  refine iteT ?_
  rw [eF hp1]
  refine aL (a:=V.int (c % w)) rfl ?_
  walk_at "w"
  rw [eF ha1]
  refine aL (a:=V.int w) rfl ?_
  walk_at "w"
  exact k1
def sqL (w c:Int):List Int:=[c,c+1,c+w,c+w+1]
def cq (K:PySem.W.Frag):Sp:=fun vs H Q _=>∃ (a:Addr) (h w g c:Int),vs=[.ref a,.int c]∧IsFl H a h w g∧∀ p,H p=none→Q (.ref p) (upd H p (.lst ((sqL w c).map V.int)))
theorem p8 {K:PySem.W.Frag} {vs:List V} {H:Hp} {Q:VK} {E:XK} (h:cq K vs H Q E):vs.length=2:=by
 obtain ⟨_,_,_,_,_,rfl,_⟩:=h; rfl
def fm (K:PySem.W.Frag):TS:=
 (tSeq (tAsg (tOp cAdd (tVar 1) (tOp cIx (tVar 0) (tC (.int 1)))) (gName 2))
  (tRet (tLst (tCons (tVar 1) (tCons (tOp cAdd (tVar 1) (tC (.int 1))) (tCons (tVar 2) (tCons (tOp cAdd (tVar 2) (tC (.int 1))) tNil)))))))
theorem p9 {K:PySem.W.Frag} {vs:List V} {H:Hp} {Q:VK} {E:XK} (h:cq K vs H Q E):fm K { nx:=fun _ H'=>Q .non H',rt:=Q } (start ["floor","corner","below"] vs) H:=by
 obtain ⟨a,h,w,g,c,rfl,ha,k⟩:=h
 show fm K _ [some (.ref a),some (.int c),none] H
 unfold fm
 walk_at "w"
 rw [eF ha]
 refine aL (a:=V.int w) rfl ?_
 walk_at "w"
 exact ⟨aH (by show (4:Nat)≤1000; decide),k⟩
def squL (h w:Int):List (List Int):=((List.range (h*w).toNat).filter fun (i:Nat)=>cornB h w i).map fun (i:Nat)=>sqL w i
def dG (K:PySem.W.Frag):Sp:=fun vs H Q _=>∃ (a:Addr) (h w g:Int),vs=[.ref a]∧IsFl H a h w g∧FlOk h w g∧
 ∀ l as H',Same H H'→H l=none→IsLL H' l as (squL h w)→as.Nodup→l∉as→(∀ a∈as,H a=none)→Q (.ref l) H'
theorem sd {K:PySem.W.Frag} {vs:List V} {H:Hp} {Q:VK} {E:XK} (h:dG K vs H Q E):vs.length=1:=by
 obtain ⟨_,_,_,_,rfl,_⟩:=h; rfl
def gM (K:PySem.W.Frag):TS:=
 (tRet (tComp [none,none,some 0] (fZ (tCons (tCall (aI K) [] E0 (tCons (tVar 0) tNil)) tNil)) (gName 1) (tB (tCall (cp K) [] E0 (tCons (tVar 2) (tCons (tVar 1) tNil)))) (tCall (cq K) [] E0 (tCons (tVar 2) (tCons (tVar 1) tNil)))))
theorem NewAt.ll {H1 H:Hp} {l:Addr} {as:List Addr} {xss:List (List Int)} (x:NewAt H1 H l as (xss.map fun xs=>.lst (xs.map V.int))) (e:H l=some (.lst (as.map V.ref))):IsLL H l as xss:=
 ⟨e,by rw [x.len,List.length_map],fun j a xs h1 h2=>x.at_ j a _ h1 (by rw [List.getElem?_map,h2]; rfl)⟩
theorem se {K:PySem.W.Frag} {vs:List V} {H:Hp} {Q:VK} {E:XK} (h:dG K vs H Q E):gM K { nx:=fun _ H'=>Q .non H',rt:=Q } (start ["floor"] vs) H:=by
 obtain ⟨a,h,w,g,rfl,ha,F,k⟩:=h
 obtain ⟨h0,h1,w0,w1,m16,g0,g1⟩:=F
 have mpos:0≤h*w:=Int.mul_nonneg (by omega) (by omega)
 show gM K _ [some (.ref a)] H
 unfold gM
 walk_at "w"
 refine ⟨a,h,w,g,rfl,ha,h0,h1,?_⟩
 walk_at "w"
 refine ⟨h*w,rfl,by omega,by omega,?_⟩
 refine qM (fun (i:Nat)=>cornB h w i) (fun (i:Nat)=>.lst ((sqL w i).map V.int)) (by omega) ?_ ?_ ?_
 · intro i H1 R hi s1 k1
   show tB _ [none,some (.int (0+(i:Int))),some (.ref a)] H1 R
   walk_at "w"
   rw [Int.zero_add]
   exact ⟨a,h,w,g,_,rfl,s1 _ _ ha,by omega,by omega,fun H2 s2=>⟨_,rfl,k1 H2 s2⟩⟩
 · intro i H1 Q1 hi hb s1 k1
   show tCall _ _ _ _ [none,some (.int (0+(i:Int))),some (.ref a)] H1 Q1
   walk_at "w"
   rw [Int.zero_add]
   exact ⟨a,h,w,g,_,rfl,s1 _ _ ha,fun p hp=>k1 p _ ((Same.refl H1).laid hp) hp ae⟩
 · intro l as H2 hl s2 el x
   have x':NewAt H H2 l as ((squL h w).map fun xs=>.lst (xs.map V.int)):=by
    unfold squL
    rw [List.map_map]
    exact x
   exact k l as H2 s2 hl (x'.ll el) x.nd x.nl x.fr
end L2
namespace L2
open PySem PySem.Spec PyProof.Rows
local macro_rules | `(tactic| walk_at "w")=>`(tactic| (first | simp only [bd,km,ml,ij,ko,jn,jo,mq,mf,kg,mj,if_true,if_false,Bool.false_eq_true,decide_true,decide_false,ji,jj,mi,hV,gB,jg,kd,jh,g8,kb,kc,g7,l8,hX,h9,ib,ic,ie,ig,ia,kh,ki,kj,ka,mh,Bool.not_true,Bool.not_false,fg,iy,bh,gH,w_c,j3,gb,gj,fh,gk,w_b,w_not,iz,j4,gl,gm,iA,gI,dj,j5,gn,iB,iC,jv,iD,dk,gp,gq,gr,eP,eQ,eV,dl,dm,cA,iE,iF,iG,iH,iI,iJ,iK,iL,iM,iN,iO,iP,j8,gt,dn,gu,j9,gw,eX,dq,iQ,iR,gy,gz,gA,
 List.getElem?_cons_zero,List.getElem?_cons_succ,Option.some.injEq,exists_eq_left',exists_eq_left,List.set_cons_zero,List.set_cons_succ,cD,V.int.injEq,V.bl.injEq,V.ref.injEq,V.str.injEq,List.append_nil,List.nil_append,List.cons_append] | dsimp only | skip))
def nmC:RK→List Nat
 | .Rule=>[]
 | .Unlike=>[117,110,108,105,107,101]
 | .Sum=>[115,117,109]
 | .Rising=>[114,105,115,105,110,103]
 | .Seen=>[115,101,101,110]
 | .Count=>[99,111,117,110,116]
 | .Joined=>[106,111,105,110,101,100]
 | .NoSquare=>[110,111,115,113,117,97,114,101]
 | .Ring=>[114,105,110,103]
def dH:List Str:=[tx [115,117,109],tx [115,101,101,110],tx [99,111,117,110,116]]
def du:List Str:=[tx [99,111,117,110,116],tx [106,111,105,110,101,100],tx [110,111,115,113,117,97,114,101],tx [114,105,110,103]]
def cV:List Str:=[tx [106,111,105,110,101,100],tx [110,111,115,113,117,97,114,101],tx [114,105,110,103]]
def rFs (p W C:Addr) (n m:Int):List (Str × V):=[("floor",.ref p),("words",.ref W),("cells",.ref C),("amount",.int n),("mark",.int m)]
structure IsRule (H:Hp) (c:RCl RK) (k:RK) (r p:Addr) (ws:List (List Nat)) (cs:List Int) (n m:Int):Prop where
 ok:c.ok k=true
 ex:∃ dx W C,H r=some (.ins (c.A k) dx (rFs p W C n m))∧H W=some (.tup ((ws.map tx).map V.str))∧H C=some (.tup (cs.map V.int))
theorem IsRule.same {H H':Hp} {c:RCl RK} {k:RK} {r p:Addr} {ws:List (List Nat)} {cs:List Int} {n m:Int} (x:IsRule H c k r p ws cs n m) (s:Same H H'):IsRule H' c k r p ws cs n m:=by
 obtain ⟨dx,W,C,h1,h2,h3⟩:=x.ex
 exact ⟨x.ok,dx,W,C,s _ _ h1,s _ _ h2,s _ _ h3⟩
section
variable {ι:Type} {c:RCl ι} {σ:St} {H:Hp} {Q:VK} {i:Nat} {r dx:Addr} {k:ι} {fs:List (Str × V)} {f m:Str} {v:V} {okm:ι→Bool} {sp:ι→Sp} {t:TA} {D:Ends} {tv:TE} {y:V} {H1:Hp}
theorem fldE (hσ:σ[i]? =some (some (.ref r))) (ok:c.ok k=true) (hr:H r=some (.ins (c.A k) dx fs)) (hl:fs.lookup f=some v) (q:Q v H):tFldK c (tVar i) f σ H Q:=⟨_,hσ,r,k,dx,fs,v,rfl,ok,hr,hl,q⟩
theorem methE (hσ:σ[i]? =some (some (.ref r))) (ok:okm k=true) (hr:H r=some (.ins (c.A k) dx fs)) (hl:fs.lookup m=none) (q:t σ H fun vs H2=>sp k (.ref r::vs) H2 Q E0):aQ c okm m sp (tVar i) t σ H Q:=⟨_,hσ,r,k,dx,fs,rfl,ok,hr,hl,q⟩
theorem sfldV {j:Nat} {x:V} (hj:σ[j]? =some (some x)) (hσ:σ[i]? =some (some (.ref r))) (ok:c.ok k=true) (hr:H r=some (.ins (c.A k) dx fs)) (hn:fs.length < 1000) (q:D.nx σ (upd H r (.ins (c.A k) dx (putF f x fs)))):sFldK c (tVar i) (tVar j) f D σ H:=
 ⟨x,hj,_,hσ,r,k,dx,fs,rfl,ok,hr,hn,q⟩
theorem sfldT {K:PySem.W.Frag} {j:Nat} {p:Addr} {xs:List V} (hj:σ[j]? =some (some (.ref p))) (hp:H p=some (.lst xs)) (hσ:σ[i]? =some (some (.ref r))) (ok:c.ok k=true) (hr:H r=some (.ins (c.A k) dx fs)) (hn:fs.length < 1000)
  (q:∀ l,H l=none→D.nx σ (upd (upd H l (.tup xs)) r (.ins (c.A k) dx (putF f (.ref l) fs)))):sFldK c (tVar i) (tCB (ii K) (tCons (tVar j) tNil)) f D σ H:=by
 unfold sFldK
 walk_at "w"
 refine ⟨_,hj,vz hp fun l hl=>?_⟩
 exact ⟨_,hσ,r,k,dx,fs,rfl,ok,by rw [ai (au hr hl)]; exact hr,hn,q l hl⟩
end
theorem vD {H:Hp} {Q:VK} {sep:Str} {p:Addr} {ts:List Str} (hp:H p=some (.lst (ts.map V.str))) (hok:JoinOk sep ts=true) (h:Q (.str (Txt.join sep ts)) H):kn (.str sep) [.ref p] H Q:=by
 unfold kn
 dsimp only
 rw [hp]
 exact ⟨ts,rfl,hok,h⟩
theorem ox {K:PySem.W.Frag} {a:Addr} {k:Nat} {tt:TT} {te:TE} {fin:Addr→Hp→Prop} {σ0:St} {H1:Hp} {xs:List Int} (b:Int→Bool) (f:Int→Int) (hn:xs.length≤900) (hq:H1 a=some (.tup (xs.map V.int)))
  (ht:∀ x H R,x∈xs→Same H1 H→(∀ H',Same H H'→R (b x) H')→tt (σ0.set k (some (.int x))) H R)
  (he:∀ x H Q,x∈xs→b x=true→Same H1 H→(∀ H',Same H H'→Q (.int (f x)) H')→te (σ0.set k (some (.int x))) H Q)
  (hd:∀ l H,H1 l=none→Same H1 H→H l=some (.lst (((xs.filter b).map f).map V.int))→fin l H):CompR (Itt K a) (gName k) tt te fin σ0 H1:=by
 refine uH (xs:=xs.map V.int) (fun l i σ H=>(σ=σ0∨∃ cv,σ=σ0.set k cv)∧Same H1 H∧H l=some (.lst ((((xs.take i).filter b).map f).map V.int))) (fun l hl=>⟨.inl rfl,(Same.refl H1).laid hl,by rw [ae]; rfl⟩) (fun l i σ H _ _ p=>SqT.of (p.2.1 _ _ hq)) ?_ (fun l σ H hl p=>hd l H hl p.2.1 (by have:=p.2.2; rw [List.length_map,List.take_length] at this; exact this))
 rintro l i x σ H hl hx ⟨hσ,s1,el⟩
 obtain ⟨z,hz,rfl⟩:=bj hx
 have hi:i < xs.length:=(List.getElem?_eq_some_iff.mp hz).1
 have et:xs.take (i+1)=xs.take i++[z]:=by rw [List.take_succ,hz]; rfl
 rw [bh]
 have e:σ.set k (some (.int z))=σ0.set k (some (.int z)):=by
  rcases hσ with rfl | ⟨cv,rfl⟩
  · rfl
  · exact List.set_set ..
 rw [e]
 refine ht z H _ (List.mem_of_getElem? hz) s1 fun H2 s2=>?_
 have el2:=s2 _ _ el
 have hlen:((((xs.take i).filter b).map f).map V.int).length < sizeLine:=by
  rw [List.length_map,List.length_map]
  refine aD (Nat.le_trans (List.length_filter_le b _) ?_)
  rw [List.length_take]
  omega
 cases hb:b z with
 | false=>
  rw [if_neg Bool.false_ne_true]
  refine ⟨.inr ⟨_,rfl⟩,s1.trans s2,?_⟩
  rw [et,List.filter_append,List.filter_cons,hb]
  simpa using el2
 | true=>
  rw [if_pos rfl]
  refine he z H2 _ (List.mem_of_getElem? hz) hb (s1.trans s2) fun H3 s3=>⟨_,s3 _ _ el2,hlen,.inr ⟨_,rfl⟩,((s1.trans s2).trans s3).own hl,?_⟩
  rw [ae,et,List.filter_append,List.filter_cons,hb]
  simp
def sgAt (xs cs:List Int):List Int:=cs.map fun c=>xs.getD c.toNat 0
def mkAt (xs cs:List Int) (m:Int):List Int:=cs.filter fun c=>decide (xs.getD c.toNat 0=m)
def jp (cs:List Int) (n:Nat):Prop:=cs.length≤63∧∀ c∈cs,0≤c∧c < n
def bn (K:PySem.W.Frag) (c:RCl RK) (k:RK):Sp:=fun vs H Q _=>∃ (r p f:Addr) (ws:List (List Nat)) (cs xs:List Int) (n m:Int),vs=[.ref r,.ref f]∧IsRule H c k r p ws cs n m∧H f=some (.lst (xs.map V.int))∧jp cs xs.length∧
 ∀ l H',Same H H'→H l=none→H' l=some (.lst ((sgAt xs cs).map V.int))→Q (.ref l) H'
def bt (K:PySem.W.Frag) (c:RCl RK) (k:RK):Sp:=fun vs H Q _=>∃ (r p f:Addr) (ws:List (List Nat)) (cs xs:List Int) (n m:Int),vs=[.ref r,.ref f]∧IsRule H c k r p ws cs n m∧H f=some (.lst (xs.map V.int))∧jp cs xs.length∧
 ∀ l H',Same H H'→H l=none→H' l=some (.lst ((mkAt xs cs m).map V.int))→Q (.ref l) H'
def risB:List Int→Bool
 | x::y::r=>decide (x < y)&&risB (y::r)
 | _=>true
def seenN (xs:List Int):Int × Int:=xs.foldl (fun a x=>if a.1 < x then (x,a.2+1) else a) (0,0)
noncomputable def joinB (h w:Int) (ms:List Int):Bool:=@decide (ms=[]∨(ms.Pairwise (· < ·)∧∀ x∈ms,RC h w ms (ms.headD 0) x)) (Classical.propDecidable _)
def twoB (h w:Int) (ms:List Int) (c:Int):Bool:=decide (((besL h w c).filter fun y=>decide (y∈ms)).length=2)
noncomputable def hoB (k:RK) (h w:Int) (cs:List Int) (n m:Int) (xs:List Int):Bool:=match k with
 | .Unlike=>decide (cntD (sgAt xs cs)=(sgAt xs cs).length)
 | .Sum=>decide ((sgAt xs cs).sum=n)
 | .Rising=>risB (sgAt xs cs)
 | .Seen=>decide ((seenN (sgAt xs cs)).2=n)
 | .Count=>decide (((mkAt xs cs m).length:Int)=n)
 | .NoSquare=>!((squL h w).any fun sq=>sq.all fun c=>decide (c∈mkAt xs cs m))
 | .Joined=>joinB h w (mkAt xs cs m)
 | .Ring=>joinB h w (mkAt xs cs m)&&(mkAt xs cs m).all (twoB h w (mkAt xs cs m))
 | _=>true
def bK (K:PySem.W.Frag) (c:RCl RK) (k:RK):Sp:=fun vs H Q _=>∃ (r p f:Addr) (ws:List (List Nat)) (cs xs:List Int) (n m h w g:Int),vs=[.ref r,.ref f]∧IsRule H c k r p ws cs n m∧IsFl H p h w g∧FlOk h w g∧H f=some (.lst (xs.map V.int))∧jp cs xs.length∧(∀ x∈xs,0≤x∧x≤1000)∧
 ∀ H',Same H H'→Q (.bl (hoB k h w cs n m xs)) H'
def bR (K:PySem.W.Frag) (c:RCl RK) (k:RK):Sp:=fun vs H Q _=>∃ (r p C:Addr) (ws:List (List Nat)) (cs ms:List Int) (n m h w g:Int),vs=[.ref r,.ref C]∧IsRule H c k r p ws cs n m∧IsFl H p h w g∧FlOk h w g∧H C=some (.lst (ms.map V.int))∧ms.length≤63∧
 ∀ H',Same H H'→Q (.bl (joinB h w ms)) H'
def ce (K:PySem.W.Frag) (c:RCl RK) (k:RK):Sp:=fun vs H Q _=>∃ (r p C:Addr) (ws:List (List Nat)) (cs ms:List Int) (n m h w g z:Int),vs=[.ref r,.ref C,.int z]∧IsRule H c k r p ws cs n m∧IsFl H p h w g∧FlOk h w g∧H C=some (.lst (ms.map V.int))∧ms.length≤63∧
 ∀ H',Same H H'→Q (.bl (twoB h w ms z)) H'
def aj (K:PySem.W.Frag) (c:RCl RK):Sp:=fun vs H Q _=>∃ (k:RK) (x dx p W C:Addr) (ws:List (List Nat)) (cs:List Int) (n m:Int),vs=[.ref x,.ref p,.ref W,.ref C,.int n,.int m]∧c.ok k=true∧H x=some (.ins (c.A k) dx [])∧W≠x∧C≠x∧
 H W=some (.lst ((ws.map tx).map V.str))∧H C=some (.lst (cs.map V.int))∧∀ H',(∀ b o,b≠x→H b=some o→H' b=some o)→IsRule H' c k x p ws cs n m→Q .non H'
theorem lq {K:PySem.W.Frag} {c:RCl RK} {vs:List V} {H:Hp} {Q:VK} {E:XK} (h:aj K c vs H Q E):vs.length=6:=by
 obtain ⟨_,_,_,_,_,_,_,_,_,_,rfl,_⟩:=h; rfl
def cG (K:PySem.W.Frag) (c:RCl RK):TS:=
 (tSeq (sFldK c (tVar 0) (tVar 1) "floor")
  (tSeq (sFldK c (tVar 0) (tCB (ii K) (tCons (tVar 2) tNil)) "words")
  (tSeq (sFldK c (tVar 0) (tCB (ii K) (tCons (tVar 3) tNil)) "cells")
  (tSeq (sFldK c (tVar 0) (tVar 4) "amount")
  (sFldK c (tVar 0) (tVar 5) "mark")))))
theorem lr {K:PySem.W.Frag} {c:RCl RK} {vs:List V} {H:Hp} {Q:VK} {E:XK} (h:aj K c vs H Q E):cG K c { nx:=fun _ H'=>Q .non H',rt:=Q } (start ["self","floor","words","cells","amount","mark"] vs) H:=by
 obtain ⟨k,x,dx,p,W,C,ws,cs,n,m,rfl,ok,hx,nW,nC,hW,hC,q⟩:=h
 show cG K c _ [some (.ref x),some (.ref p),some (.ref W),some (.ref C),some (.int n),some (.int m)] H
 unfold cG
 walk_at "w"
 refine sfldV (k:=k) (j:=1) rfl rfl ok hx (by decide) ?_
 walk_at "w"
 refine sfldT (k:=k) (j:=2) (p:=W) rfl (by rw [ai nW]; exact hW) rfl ok ae (by show (1:Nat) < 1000; decide) fun l1 h1=>?_
 have n1:l1≠x:=fun e=>by rw [e,ae] at h1; cases h1
 have g1:H l1=none:=by rw [ai n1] at h1; exact h1
 walk_at "w"
 refine sfldT (k:=k) (j:=3) (p:=C) rfl (by rw [ai nC,ai (au hC g1),ai nC]; exact hC) rfl ok ae (by show (2:Nat) < 1000; decide) fun l2 h2=>?_
 have n2:l2≠x:=fun e=>by rw [e,ae] at h2; cases h2
 have n21:l2≠l1:=fun e=>by rw [e,ai n1,ae] at h2; cases h2
 have g2:H l2=none:=by rw [ai n2,ai n21,ai n2] at h2; exact h2
 walk_at "w"
 refine sfldV (k:=k) (j:=4) rfl rfl ok ae (by show (3:Nat) < 1000; decide) ?_
 refine sfldV (k:=k) (j:=5) rfl rfl ok ae (by show (4:Nat) < 1000; decide) ?_
 refine q _ (fun b o hb e=>?_) ⟨ok,dx,l1,l2,by rw [ae]; rfl,?_,?_⟩
 · rw [ai hb,ai hb,ai hb,ai (au e g2),ai hb,ai (au e g1),ai hb]
   exact e
 · rw [ai n1,ai n1,ai n1,ai n21.symm,ai n1,ae]
 · rw [ai n2,ai n2,ai n2,ae]
def cH (K:PySem.W.Frag) (c:RCl RK):Sp:=fun vs H Q E=>∃ k,bn K c k vs H Q E
theorem lu {K:PySem.W.Frag} {c:RCl RK} {vs:List V} {H:Hp} {Q:VK} {E:XK} (h:cH K c vs H Q E):vs.length=2:=by
 obtain ⟨_,_,_,_,_,_,_,_,_,rfl,_⟩:=h; rfl
def cI (K:PySem.W.Frag) (c:RCl RK):TS:=
 (tRet (tComp [none,none,some 1] (iTup K (tFldK c (tVar 0) "cells")) (gName 1) tTrue (tOp cIx (tVar 2) (tVar 1))))
theorem lw {K:PySem.W.Frag} {c:RCl RK} {vs:List V} {H:Hp} {Q:VK} {E:XK} (h:cH K c vs H Q E):cI K c { nx:=fun _ H'=>Q .non H',rt:=Q } (start ["self","filling"] vs) H:=by
 obtain ⟨k,r,p,f,ws,cs,xs,n,m,rfl,x,hf,⟨hn,hc⟩,q⟩:=h
 obtain ⟨dx,W,C,h1,h2,h3⟩:=x.ex
 show cI K c _ [some (.ref r),some (.ref f)] H
 unfold cI
 rw [gb,ro]
 refine fldE rfl x.ok h1 (v:=.ref C) (by rfl) ?_
 refine ⟨C,rfl,⟨_,SqT.of h3⟩,?_⟩
 refine ox (xs:=cs) (fun _=>true) (fun c=>xs.getD c.toNat 0) (by omega) h3 ?_ ?_ ?_
 · intro x H1 R hx s1 k1
   exact k1 _ (Same.refl _)
 · intro z H1 Q1 hz hb s1 k1
   show tOp cIx _ _ [none,some (.int z),some (.ref f)] H1 Q1
   walk_at "w"
   have:=hc z hz
   exact ixI (s1 _ _ hf) this.1 (by omega) (k1 _ (Same.refl _))
 · intro l H1 hl s1 el
   rw [bi] at el
   exact q l H1 s1 hl el
def cr (K:PySem.W.Frag):Sp:=fun vs H Q _=>∃ n:Nat,vs=[.str (tx (numC n))]∧n < 100∧∀ H',Same H H'→Q (.int n) H'
theorem qa {K:PySem.W.Frag} {vs:List V} {H:Hp} {Q:VK} {E:XK} (h:cr K vs H Q E):vs.length=1:=by
 obtain ⟨_,rfl,_⟩:=h; rfl
def fq (K:PySem.W.Frag):TS:=
 (tSeq (tIfS (tOr (tTest (tOp (cEq K) (tVar 0) (tC (.str (tx []))))) (tOr (tTest (tOp (cCmp fun i j=>decide (j < i)) (tCB kLen (tCons (tVar 0) tNil)) (tC (.int 9)))) (tAnd (tTest (tOp (cEq K) (tOp cIx (tVar 0) (tC (.int 0))) (tC (.str (tx [48]))))) (tTest (tOp (cNe K) (tVar 0) (tC (.str (tx [48])))))))) (tRet (tC .non)) tNext)
  (tSeq (tIfS (tNot (tB (tCB kAll (tCons (tComp [none,none] (iStr (tVar 0)) (gName 1) tTrue (tOp (cIn K false) (tVar 1) (tC (.str (tx [48,49,50,51,52,53,54,55,56,57]))))) tNil)))) (tRet (tC .non)) tNext)
  (tRet (tCB kN (tCons (tVar 0) tNil)))))
theorem wB {c:Nat} (h0:48≤c) (h1:c≤57):(!(Builtin.Str.occurrences (tx [48,49,50,51,52,53,54,55,56,57]) ⟨#[c]⟩ 0 (tx [48,49,50,51,52,53,54,55,56,57]).length 1).isEmpty)=true:=by
 have t:((List.range 58).all fun c=>!decide (48≤c)||!(Builtin.Str.occurrences (tx [48,49,50,51,52,53,54,55,56,57]) ⟨#[c]⟩ 0 (tx [48,49,50,51,52,53,54,55,56,57]).length 1).isEmpty)=true:=by decide+kernel
 have:=List.all_eq_true.mp t c (List.mem_range.mpr (by omega))
 simpa [h0] using this
theorem qb {K:PySem.W.Frag} {vs:List V} {H:Hp} {Q:VK} {E:XK} (h:cr K vs H Q E):fq K { nx:=fun _ H'=>Q .non H',rt:=Q } (start ["word"] vs) H:=by
 obtain ⟨n,rfl,hn,q⟩:=h
 have hne:=wA hn
 have hl:=nB (n:=n)
 show fq K _ [some (.str (tx (numC n)))] H
 unfold fq
 rw [bd,aT]
 walk_at "w"
 rw [me,decide_eq_false hne]
 refine iteF ⟨by rw [hJ]; exact aH (by omega),?_⟩
 walk_at "w"
 rw [hJ,decide_eq_false (show ¬ (9:Int) < ((numC n).length:Nat) by omega)]
 refine iteF ?_
 rw [wS,hJ,md]
 obtain ⟨c,r,ec⟩:∃ c r,numC n=c::r:=by
  cases e:numC n with
  | nil=>exact absurd e hne
  | cons c r=>exact ⟨c,r,rfl⟩
 refine ⟨aH (by omega),aL (a:=c) (by rw [ec]; exact gU (j:=0) rfl) ?_⟩
 walk_at "w"
 have e1:decide ((⟨#[c]⟩:Str)=tx [48])=decide (c=48):=by
  have:(⟨#[c]⟩:Str)=tx [c]:=rfl
  rw [this,me]
  simp
 rw [e1,me]
 have e2:(decide (c=48)=true→decide (numC n=[48])=true):=by
  intro h
  rw [decide_eq_true_eq] at h
  have:=(uI hn).1 (by rw [ec,h]; rfl)
  subst this
  decide
 have goal2:tSeq (tIfS (tNot (tB (tCB kAll (tCons (tComp [none,none] (iStr (tVar 0)) (gName 1) tTrue (tOp (cIn K false) (tVar 1) (tC (.str (tx [48,49,50,51,52,53,54,55,56,57]))))) tNil)))) (tRet (tC .non)) tNext) (tRet (tCB kN (tCons (tVar 0) tNil)))
   { nx:=fun _ H'=>Q .non H',rt:=Q } [some (.str (tx (numC n)))] H:=by
  rw [bd,aT]
  walk_at "w"
  refine tU (cs:=numC n) (fun _=>true) (fun _=>.bl true) (by omega) ?_ ?_ ?_
  · intro i c H1 R hc s1 k1
    exact k1 _ (Same.refl _)
  · intro i c H1 Q1 hc hb s1 k1
    have hd:=rp hn c (List.mem_of_getElem? hc)
    show tOp (cIn K false) _ _ [none,some (.str (tx [c]))] H1 Q1
    walk_at "w"
    have q1:=k1 _ (Same.refl H1)
    show Q1 (.bl (if false=true then _ else !(Builtin.Str.occurrences (tx [48,49,50,51,52,53,54,55,56,57]) (tx [c]) 0 (tx [48,49,50,51,52,53,54,55,56,57]).length 1).isEmpty)) H1
    rw [if_neg Bool.false_ne_true,show tx [c]=⟨#[c]⟩ from rfl,wB hd.1 hd.2]
    exact q1
  · intro l H1 hl1 s1 el
    have eb:((List.range (numC n).length).filter fun _=>true).map (fun _=>V.bl true)=(List.replicate (numC n).length true).map V.bl:=by
     rw [bi,List.map_const',List.length_range,List.map_replicate]
    rw [eb] at el
    refine jx el ?_
    have ea:(List.replicate (numC n).length true).all id=true:=by
     rw [List.all_eq_true]
     intro b hb
     exact (List.mem_replicate.mp hb).2
    rw [ea]
    walk_at "w"
    exact ⟨n,hn,rfl,q _ s1⟩
 cases hc:decide (c=48) with
 | false=>
  refine iteF ?_
  exact goal2
 | true=>
  refine iteT ?_
  rw [e2 hc]
  exact goal2
def aY (K:PySem.W.Frag):Sp:=fun vs H Q _=>∃ (n:Nat) (lo hi:Int),vs=[.str (tx (numC n)),.int lo,.int hi]∧n < 100∧lo≤n∧n≤hi∧∀ H',Same H H'→Q (.int n) H'
theorem lx {K:PySem.W.Frag} {vs:List V} {H:Hp} {Q:VK} {E:XK} (h:aY K vs H Q E):vs.length=3:=by
 obtain ⟨_,_,_,rfl,_⟩:=h; rfl
def cJ (K:PySem.W.Frag):TS:=
 (tSeq (tAsg (tCall (cr K) [] E0 (tCons (tVar 0) tNil)) (gName 3))
  (tSeq (tIfS (tOr (tTest (tOp rIsN (tVar 3) (tC .non))) (tOr (tTest (tOp (cCmp fun i j=>decide (i < j)) (tVar 3) (tVar 1))) (tTest (tOp (cCmp fun i j=>decide (j < i)) (tVar 3) (tVar 2))))) bQ tNext)
  (tRet (tVar 3))))
theorem ly {K:PySem.W.Frag} {vs:List V} {H:Hp} {Q:VK} {E:XK} (h:aY K vs H Q E):cJ K { nx:=fun _ H'=>Q .non H',rt:=Q } (start ["word","least","most","number"] vs) H:=by
 obtain ⟨n,lo,hi,rfl,hn,h0,h1,q⟩:=h
 show cJ K _ [some (.str (tx (numC n))),some (.int lo),some (.int hi),none] H
 unfold cJ
 walk_at "w"
 refine ⟨n,rfl,hn,fun H1 s1=>?_⟩
 walk_at "w"
 rw [aT]
 walk_at "w"
 rw [decide_eq_false (show ¬ V.int n=V.non from fun e=>nomatch e)]
 refine iteF ?_
 rw [decide_eq_false (show ¬ (n:Int) < lo by omega)]
 refine iteF ?_
 rw [decide_eq_false (show ¬ hi < (n:Int) by omega)]
 refine iteF ?_
 walk_at "w"
 exact q _ s1
def WOk (ws:List (List Nat)):Prop:=∀ w∈ws,∀ c∈w,c < 128
theorem WOk.cons {w:List Nat} {ws:List (List Nat)} (h:∀ c∈w,c < 128) (hs:WOk ws):WOk (w::ws):=fun v hv=>by
 rcases List.mem_cons.mp hv with rfl | hv
 · exact h
 · exact hs v hv
theorem nD {n:Nat} (h:n < 100):∀ c∈numC n,c < 128:=fun c hc=>by have:=rp h c hc; omega
theorem wX {w:List Nat} (h:∀ c∈w,c < 128):PyData.strOk (tx w)=true:=by
 unfold PyData.strOk
 simp [tx]
 intro c hc
 have:=h c hc
 omega
theorem WOk.strs {ws:List (List Nat)} (h:WOk ws):∀ x∈ws.map tx,PyData.strOk x=true:=fun x hx=>by
 obtain ⟨w,hw,rfl⟩:=List.mem_map.mp hx
 exact wX (h w hw)
def bb (K:PySem.W.Frag):Sp:=fun vs H Q _=>∃ (p:Addr) (n:Nat) (ws:List (List Nat)) (lo hi:Int),vs=[.ref p,.int lo,.int hi]∧H p=some (.lst (((numC n::ws).map tx).map V.str))∧n < 100∧WOk ws∧lo≤n∧n≤hi∧∀ H',Same H H'→Q (.int n) H'
theorem mr {K:PySem.W.Frag} {vs:List V} {H:Hp} {Q:VK} {E:XK} (h:bb K vs H Q E):vs.length=3:=by
 obtain ⟨_,_,_,_,_,rfl,_⟩:=h; rfl
def cW (K:PySem.W.Frag):TS:=
 (tSeq (tIfS (tTest (tOp (cEq K) (tVar 0) (tLst tNil))) bQ tNext)
  (tRet (tCall (aY K) [] E0 (tCons (tOp cIx (tVar 0) (tC (.int 0))) (tCons (tVar 1) (tCons (tVar 2) tNil))))))
theorem DVs.strs {K:PySem.W.Frag} {H:Hp}:∀ ns:List Str,DVs K H (ns.map V.str) (ns.map PyData.str)
 | []=>.nil
 | n::r=>.cons (.str n) (DVs.strs r)
theorem oy (a b:Str):PyData.eqv (.str a) (.str b)=decide (a=b):=by
 rw [PyData.eqv]
 by_cases h:a=b
 · subst h; simp
 · simp [h]
theorem gc (ns:List Str) (hs:∀ x∈ns,PyData.strOk x=true):SeqAt.shaped (.list (ns.map PyData.str))=true:=by
 have h1:PyData.canLayAll0 (ns.map PyData.str)=true:=nk fun d hd=>by obtain ⟨x,hx,rfl⟩:=List.mem_map.mp hd; rw [PyData.canLay0]; exact hs x hx
 have h2:PyData.depthAll (ns.map PyData.str)≤0:=kf fun d hd=>by obtain ⟨x,_,rfl⟩:=List.mem_map.mp hd; exact Nat.le_refl _
 simp [SeqAt.shaped,PyData.canLay0,h1,PyData.depth]
 omega
theorem wC {K:PySem.W.Frag} {H:Hp} {Q:VK} {p q:Addr} {xs ys:List Str} (hp:H p=some (.lst (xs.map V.str))) (hq:H q=some (.lst (ys.map V.str))) (h1:∀ x∈xs,PyData.strOk x=true) (h2:∀ x∈ys,PyData.strOk x=true) (h:Q (.bl (decide (xs=ys))) H):cEq K (.ref p) (.ref q) H Q:=by
 show rEqD K (.ref p) (.ref q) H Q
 refine ⟨.list (xs.map PyData.str),.list (ys.map PyData.str),.lst (SqL.of hp) (.strs xs),.lst (SqL.of hq) (.strs ys),gc xs h1,gc ys h2,?_⟩
 rw [PyData.eqv,jk PyData.str oy]
 exact h
theorem wD {K:PySem.W.Frag} {H:Hp} {Q:VK} {p q:Addr} {xs ys:List Str} (hp:H p=some (.lst (xs.map V.str))) (hq:H q=some (.lst (ys.map V.str))) (h1:∀ x∈xs,PyData.strOk x=true) (h2:∀ x∈ys,PyData.strOk x=true) (h:Q (.bl (!decide (xs=ys))) H):cNe K (.ref p) (.ref q) H Q:=by
 show rNeD K (.ref p) (.ref q) H Q
 refine ⟨.list (xs.map PyData.str),.list (ys.map PyData.str),.lst (SqL.of hp) (.strs xs),.lst (SqL.of hq) (.strs ys),gc xs h1,gc ys h2,?_⟩
 rw [PyData.eqv,jk PyData.str oy]
 exact h
theorem mt {K:PySem.W.Frag} {vs:List V} {H:Hp} {Q:VK} {E:XK} (h:bb K vs H Q E):cW K { nx:=fun _ H'=>Q .non H',rt:=Q } (start ["words","least","most"] vs) H:=by
 obtain ⟨p,n,ws,lo,hi,rfl,hp,hn,hw,h0,h1,q⟩:=h
 show cW K _ [some (.ref p),some (.int lo),some (.int hi)] H
 unfold cW
 rw [bd,aT]
 walk_at "w"
 refine ⟨aH (by decide),fun l hl=>?_⟩
 have s1:Same H (upd H l (.lst [])):=(Same.refl H).laid hl
 refine wC (s1 _ _ hp) (ys:=[]) ae (WOk.strs (WOk.cons (nD hn) hw)) (fun x hx=>nomatch hx) ?_
 generalize upd H l (.lst [])=H1 at*
 walk_at "w"
 rw [decide_eq_false (by simp)]
 refine iteF ?_
 walk_at "w"
 have e0:atI (((numC n::ws).map tx).map V.str) 0=some (V.str (tx (numC n))):=gU (j:=0) rfl
 refine ixL (s1 _ _ hp) e0 ?_
 walk_at "w"
 exact ⟨n,lo,hi,rfl,hn,h0,h1,fun H2 s2=>q _ (s1.trans s2)⟩
theorem uJ (acc:List Int) (v:Int):(step_dedup acc v).length≤acc.length+1:=by
 unfold step_dedup
 split <;> simp
theorem qc:∀ (l acc:List Int),(l.foldl step_dedup acc).length≤acc.length+l.length
 | [],acc=>by simp
 | x::r,acc=>by
  have h1:=qc r (step_dedup acc x)
  have h2:=uJ acc x
  rw [List.foldl_cons,List.length_cons]
  omega
theorem lb:∀ (l acc:List Int),acc.Nodup→((l.foldl step_dedup acc).length=acc.length+l.length↔(acc++l).Nodup)
 | [],acc,h=>by simpa using h
 | x::r,acc,h=>by
  rw [List.foldl_cons]
  by_cases hx:x∈acc
  · have e:step_dedup acc x=acc:=by
     unfold step_dedup
     rw [if_pos (by simpa using hx)]
    rw [e]
    have:=qc r acc
    constructor
    · intro z
      rw [List.length_cons] at z
      omega
    · intro z
      have:=(List.nodup_append.mp z).2.2 x hx x List.mem_cons_self
      exact absurd rfl this
  · have e:step_dedup acc x=acc++[x]:=by
     unfold step_dedup
     rw [if_neg (by simpa using hx)]
    rw [e]
    have hn:(acc++[x]).Nodup:=List.nodup_append.mpr ⟨h,by simp,fun a ha b hb z=>hx (by rw [List.mem_singleton.mp hb] at z; exact z ▸ ha)⟩
    have ih:=lb r (acc++[x]) hn
    rw [List.length_append,List.length_singleton] at ih
    rw [List.length_cons,show acc.length+(r.length+1)=acc.length+1+r.length by omega,show acc++x::r=acc++[x]++r by simp]
    exact ih
theorem nF (ns:List Int):(List.range ns.length).map (fun i=>ns.getD i 0)=ns:=by
 have:=oO ns (fun x=>x)
 simpa using this
theorem uK (ns:List Int):cntD ns=ns.length↔ns.Nodup:=by
 unfold cntD firstMet
 rw [nF]
 have:=lb ns [] List.nodup_nil
 simpa using this
def bY (K:PySem.W.Frag):Sp:=fun vs H Q _=>∃ (a p:Addr) (h w g:Int) (ns:List Nat),vs=[.ref a,.ref p]∧IsFl H a h w g∧FlOk h w g∧H p=some (.lst (((ns.map numC).map tx).map V.str))∧ns≠[]∧ns.length≤16∧(∀ n∈ns,(n:Int) < h*w)∧ns.Nodup∧
 ∀ l H',Same H H'→H l=none→H' l=some (.lst ((ns.map fun (n:Nat)=>(n:Int)).map V.int))→Q (.ref l) H'
theorem oS {K:PySem.W.Frag} {vs:List V} {H:Hp} {Q:VK} {E:XK} (h:bY K vs H Q E):vs.length=2:=by
 obtain ⟨_,_,_,_,_,_,rfl,_⟩:=h; rfl
def d7 (K:PySem.W.Frag):TS:=
 (tSeq (sComp 2 [none,none,some 0] (iList K (tVar 1)) (gName 1) tTrue (tCall (aY K) [] E0 (tCons (tVar 1) (tCons (tC (.int 0)) (tCons (tOp cSub (tCall (aI K) [] E0 (tCons (tVar 2) tNil)) (tC (.int 1))) tNil)))))
  (tSeq (tIfS (tTest (tOp (cEq K) (tVar 2) (tLst tNil))) bQ tNext)
  (tSeq (tIfS (tTest (tOp (cNe K) (kM (tVar 2)) (tCB kLen (tCons (tVar 2) tNil)))) bQ tNext)
  (tRet (tVar 2)))))
theorem sf {ns:List Nat} (h:ns.Nodup):(ns.map fun (n:Nat)=>(n:Int)).Nodup:=by
 induction ns with
 | nil=>exact List.nodup_nil
 | cons a r ih=>
  rw [List.nodup_cons] at h
  rw [List.map_cons,List.nodup_cons]
  refine ⟨fun z=>?_,ih h.2⟩
  obtain ⟨b,hb,e⟩:=List.mem_map.mp z
  exact h.1 (by have:b=a:=by omega
                exact this ▸ hb)
theorem oU {K:PySem.W.Frag} {vs:List V} {H:Hp} {Q:VK} {E:XK} (h:bY K vs H Q E):d7 K { nx:=fun _ H'=>Q .non H',rt:=Q } (start ["floor","words","cells"] vs) H:=by
 obtain ⟨a,p,h,w,g,ns,rfl,ha,F,hp,hne,hn16,hlt,hnd,q⟩:=h
 obtain ⟨h0,h1,w0,w1,m16,g0,g1⟩:=F
 show d7 K _ [some (.ref a),some (.ref p),none] H
 unfold d7
 walk_at "w"
 refine ⟨⟨_,SqL.of hp⟩,?_⟩
 refine cF (xs:=((ns.map numC).map tx).map V.str) (fun _=>true) (fun i=>.int (ns.getD i 0:Nat)) (by simp; omega) (SqL.of hp) ?_ ?_ ?_
 · intro i x H1 R hx s1 k1
   exact k1 _ (Same.refl _)
 · intro i x H1 Q1 hx hb s1 k1
   rw [List.getElem?_map,List.getElem?_map,List.getElem?_map] at hx
   cases e:ns[i]? with
   | none=>rw [e] at hx; cases hx
   | some n=>
    rw [e] at hx
    cases hx
    have hm:=hlt n (List.mem_of_getElem? e)
    show tCall _ _ _ _ [none,some (.str (tx (numC n))),some (.ref a)] H1 Q1
    walk_at "w"
    refine ⟨a,h,w,g,rfl,s1 _ _ ha,h0,h1,?_⟩
    walk_at "w"
    refine ⟨n,0,_,rfl,by omega,by omega,by omega,fun H2 s2=>?_⟩
    have q1:=k1 _ s2
    have eg:ns.getD i 0=n:=by rw [List.getD,e]; rfl
    rw [eg] at q1
    exact q1
 · intro l H1 hl s1 el
   have ec:((List.range (((ns.map numC).map tx).map V.str).length).filter fun _=>true).map (fun i=>V.int (ns.getD i 0:Nat))=(ns.map fun (n:Nat)=>(n:Int)).map V.int:=by
    rw [bi,List.length_map,List.length_map,List.length_map,List.map_map]
    refine List.ext_getElem? fun i=>?_
    rw [List.getElem?_map,List.getElem?_map]
    by_cases h:i < ns.length
    · rw [List.getElem?_range h,List.getElem?_eq_getElem h]
      simp [List.getD,h]
    · rw [List.getElem?_eq_none (by simpa using h),List.getElem?_eq_none (by omega)]; rfl
   rw [ec] at el
   walk_at "w"
   rw [aT]
   walk_at "w"
   refine ⟨aH (by decide),fun z hz=>?_⟩
   have s2:Same H1 (upd H1 z (.lst [])):=(Same.refl H1).laid hz
   refine rS (s2 _ _ el) (ys:=[]) ae ?_
   generalize upd H1 z (.lst [])=H2 at*
   walk_at "w"
   rw [decide_eq_false (by simpa using hne)]
   refine iteF ?_
   walk_at "w"
   rw [aT]
   walk_at "w"
   refine ⟨l,_,rfl,s2 _ _ el,by rw [List.length_map]; omega,?_⟩
   rw [fi (s2 _ _ el),List.length_map]
   walk_at "w"
   rw [decide_eq_true (by rw [(uK _).mpr (sf hnd)])]
   refine iteF ?_
   walk_at "w"
   exact q l _ (s1.trans s2) hl (s2 _ _ el)
def allK:RK→Bool
 | .Joined=>true
 | .NoSquare=>true
 | .Ring=>true
 | _=>false
def numK:RK→Bool
 | .Sum=>true
 | .Seen=>true
 | .Count=>true
 | _=>false
def sgnK:RK→Bool
 | .Count=>true
 | .Joined=>true
 | .NoSquare=>true
 | .Ring=>true
 | _=>false
theorem wE (k:RK):decide (tx (nmC k)∈cV)=allK k:=by cases k <;> decide+kernel
theorem wF (k:RK):decide (tx (nmC k)∈dH)=numK k:=by cases k <;> decide+kernel
theorem wG (k:RK):decide (tx (nmC k)∈du)=sgnK k:=by cases k <;> decide+kernel
structure nG (k:RK) (h w:Int) (ns:List Nat) (cs:List Int):Prop where
 told:allK k=false→ns≠[]∧ns.length≤16∧(∀ n∈ns,(n:Int) < h*w)∧ns.Nodup∧cs=ns.map fun (n:Nat)=>(n:Int)
 all:allK k=true→ns=[]∧cs=rngL 0 (h*w)
def cS (K:PySem.W.Frag):Sp:=fun vs H Q _=>∃ (k:RK) (a p:Addr) (h w g:Int) (ns:List Nat) (cs:List Int),vs=[.ref a,.str (tx (nmC k)),.ref p]∧IsFl H a h w g∧FlOk h w g∧H p=some (.lst (((ns.map numC).map tx).map V.str))∧nG k h w ns cs∧(∀ n∈ns,n < 100)∧
 ∀ l H',Same H H'→H l=none→H' l=some (.lst (cs.map V.int))→Q (.ref l) H'
theorem qN {K:PySem.W.Frag} {vs:List V} {H:Hp} {Q:VK} {E:XK} (h:cS K vs H Q E):vs.length=3:=by
 obtain ⟨_,_,_,_,_,_,_,_,rfl,_⟩:=h; rfl
def gd (K:PySem.W.Frag):TS:=
 (tSeq (tIfS (tB (tInG cV true (tVar 1))) (tRet (tCall (bY K) [] E0 (tCons (tVar 0) (tCons (tVar 2) tNil)))) tNext)
  (tSeq (tIfS (tTest (tOp (cNe K) (tVar 2) (tLst tNil))) bQ tNext)
  (tRet (iS (tCons (tCall (aI K) [] E0 (tCons (tVar 0) tNil)) tNil)))))
theorem qO {K:PySem.W.Frag} {vs:List V} {H:Hp} {Q:VK} {E:XK} (h:cS K vs H Q E):gd K { nx:=fun _ H'=>Q .non H',rt:=Q } (start ["floor","name","words"] vs) H:=by
 obtain ⟨k,a,p,h,w,g,ns,cs,rfl,ha,F,hp,hc,hn,q⟩:=h
 obtain ⟨h0,h1,w0,w1,m16,g0,g1⟩:=id F
 have mpos:0≤h*w:=Int.mul_nonneg (by omega) (by omega)
 show gd K _ [some (.ref a),some (.str (tx (nmC k))),some (.ref p)] H
 unfold gd
 rw [bd,aT]
 walk_at "w"
 rw [wE]
 cases hk:allK k with
 | false=>
  obtain ⟨c1,c2,c3,c4,rfl⟩:=hc.told hk
  walk_at "w"
  exact ⟨a,p,h,w,g,ns,rfl,ha,F,hp,c1,c2,c3,c4,q⟩
 | true=>
  obtain ⟨rfl,rfl⟩:=hc.all hk
  walk_at "w"
  rw [aT]
  walk_at "w"
  refine ⟨aH (by decide),fun z hz=>?_⟩
  have s1:Same H (upd H z (.lst [])):=(Same.refl H).laid hz
  refine wD (xs:=[]) (ys:=[]) (s1 _ _ hp) ae (fun x hx=>nomatch hx) (fun x hx=>nomatch hx) ?_
  generalize upd H z (.lst [])=H1 at*
  walk_at "w"
  refine ⟨a,h,w,g,rfl,s1 _ _ ha,h0,h1,?_⟩
  walk_at "w"
  refine ⟨h*w,rfl,by omega,by omega,fun l hl=>?_⟩
  exact q l _ (s1.laid hl) (s1.free hl) ae
def dI (K:PySem.W.Frag) (c:RCl RK):Sp:=fun vs H Q _=>∃ (k:RK) (p W C:Addr) (ws:List (List Nat)) (cs:List Int) (n m:Int),vs=[.ref p,.ref W,.ref C,.int n,.int m]∧k≠.Rule∧c.ok k=true∧H W=some (.lst (((nmC k::ws).map tx).map V.str))∧H C=some (.lst (cs.map V.int))∧
 ∀ r H',Same H H'→H r=none→IsRule H' c k r p (nmC k::ws) cs n m→Q (.ref r) H'
theorem sh {K:PySem.W.Frag} {c:RCl RK} {vs:List V} {H:Hp} {Q:VK} {E:XK} (h:dI K c vs H Q E):vs.length=5:=by
 obtain ⟨_,_,_,_,_,_,_,_,rfl,_⟩:=h; rfl
def gN (K:PySem.W.Frag) (c:RCl RK):TS:=
 (tSeq (tAsg (tOp cIx (tVar 1) (tC (.int 0))) (gName 5))
  (tSeq (tIfS (tTest (tOp (cEq K) (tVar 5) (tC (.str (tx [117,110,108,105,107,101]))))) (tRet (tMake (c.A .Unlike) (aj K c) [] E0 (tCons (tVar 0) (tCons (tVar 1) (tCons (tVar 2) (tCons (tVar 3) (tCons (tVar 4) tNil))))))) tNext)
  (tSeq (tIfS (tTest (tOp (cEq K) (tVar 5) (tC (.str (tx [115,117,109]))))) (tRet (tMake (c.A .Sum) (aj K c) [] E0 (tCons (tVar 0) (tCons (tVar 1) (tCons (tVar 2) (tCons (tVar 3) (tCons (tVar 4) tNil))))))) tNext)
  (tSeq (tIfS (tTest (tOp (cEq K) (tVar 5) (tC (.str (tx [114,105,115,105,110,103]))))) (tRet (tMake (c.A .Rising) (aj K c) [] E0 (tCons (tVar 0) (tCons (tVar 1) (tCons (tVar 2) (tCons (tVar 3) (tCons (tVar 4) tNil))))))) tNext)
  (tSeq (tIfS (tTest (tOp (cEq K) (tVar 5) (tC (.str (tx [115,101,101,110]))))) (tRet (tMake (c.A .Seen) (aj K c) [] E0 (tCons (tVar 0) (tCons (tVar 1) (tCons (tVar 2) (tCons (tVar 3) (tCons (tVar 4) tNil))))))) tNext)
  (tSeq (tIfS (tTest (tOp (cEq K) (tVar 5) (tC (.str (tx [99,111,117,110,116]))))) (tRet (tMake (c.A .Count) (aj K c) [] E0 (tCons (tVar 0) (tCons (tVar 1) (tCons (tVar 2) (tCons (tVar 3) (tCons (tVar 4) tNil))))))) tNext)
  (tSeq (tIfS (tTest (tOp (cEq K) (tVar 5) (tC (.str (tx [106,111,105,110,101,100]))))) (tRet (tMake (c.A .Joined) (aj K c) [] E0 (tCons (tVar 0) (tCons (tVar 1) (tCons (tVar 2) (tCons (tVar 3) (tCons (tVar 4) tNil))))))) tNext)
  (tSeq (tIfS (tTest (tOp (cEq K) (tVar 5) (tC (.str (tx [110,111,115,113,117,97,114,101]))))) (tRet (tMake (c.A .NoSquare) (aj K c) [] E0 (tCons (tVar 0) (tCons (tVar 1) (tCons (tVar 2) (tCons (tVar 3) (tCons (tVar 4) tNil))))))) tNext)
  (tSeq (tIfS (tTest (tOp (cEq K) (tVar 5) (tC (.str (tx [114,105,110,103]))))) (tRet (tMake (c.A .Ring) (aj K c) [] E0 (tCons (tVar 0) (tCons (tVar 1) (tCons (tVar 2) (tCons (tVar 3) (tCons (tVar 4) tNil))))))) tNext)
  bQ)))))))))
theorem vE {K:PySem.W.Frag} {c:RCl RK} {H:Hp} {Q:VK} {k:RK} {p W C:Addr} {ws:List (List Nat)} {cs:List Int} {n m:Int} (ok:c.ok k=true) (hW:H W=some (.lst ((ws.map tx).map V.str))) (hC:H C=some (.lst (cs.map V.int))) (q:∀ r H',Same H H'→H r=none→IsRule H' c k r p ws cs n m→Q (.ref r) H'):
  ∀ x dx,H x=none→H dx=none→dx≠x→aj K c (.ref x::([.ref p,.ref W,.ref C,.int n,.int m]++[])) (upd (upd H dx (.own x)) x (.ins (c.A k) dx [])) (fun v H2=>v=.non∧Q (.ref x) H2) E0:=by
 intro x dx hx hd ne
 refine ⟨k,x,dx,p,W,C,ws,cs,n,m,rfl,ok,ae,au hW hx,au hC hx,?_,?_,fun H' hs hr=>⟨rfl,q x H' (fun b o e=>hs b o (au e hx) ?_) hx hr⟩⟩
 · rw [ai (au hW hx),ai (au hW hd)]; exact hW
 · rw [ai (au hC hx),ai (au hC hd)]; exact hC
 · rw [ai (au e hx),ai (au e hd)]; exact e
theorem si {K:PySem.W.Frag} {c:RCl RK} {vs:List V} {H:Hp} {Q:VK} {E:XK} (h:dI K c vs H Q E):gN K c { nx:=fun _ H'=>Q .non H',rt:=Q } (start ["floor","words","cells","amount","mark","name"] vs) H:=by
 obtain ⟨k,p,W,C,ws,cs,n,m,rfl,hk,ok,hW,hC,q⟩:=h
 have mk:=vE (K:=K) ok hW hC q
 have e0:atI (((nmC k::ws).map tx).map V.str) 0=some (V.str (tx (nmC k))):=gU (j:=0) rfl
 show gN K c _ [some (.ref p),some (.ref W),some (.ref C),some (.int n),some (.int m),none] H
 unfold gN
 walk_at "w"
 refine ixL hW e0 ?_
 have D:∀ (l:List Nat) (t:TS) (u:TS) (D:Ends) (b:Bool),decide (nmC k=l)=b→(if b=true then t D [some (.ref p),some (.ref W),some (.ref C),some (.int n),some (.int m),some (.str (tx (nmC k)))] H else u D [some (.ref p),some (.ref W),some (.ref C),some (.int n),some (.int m),some (.str (tx (nmC k)))] H)→
   tIfS (tTest (tOp (cEq K) (tVar 5) (tC (.str (tx l))))) t u D [some (.ref p),some (.ref W),some (.ref C),some (.int n),some (.int m),some (.str (tx (nmC k)))] H:=fun l t u D b hb hq=>by
  rw [aT]
  walk_at "w"
  rw [me,hb]
  exact hq
 have R:∀ (D:Ends),D.rt=Q→tRet (tMake (c.A k) (aj K c) [] E0 (tCons (tVar 0) (tCons (tVar 1) (tCons (tVar 2) (tCons (tVar 3) (tCons (tVar 4) tNil)))))) D [some (.ref p),some (.ref W),some (.ref C),some (.int n),some (.int m),some (.str (tx (nmC k)))] H:=fun D hD=>by
  walk_at "w"
  rw [hD]
  exact mk
 cases k with
 | Rule=>exact absurd rfl hk
 | Unlike=>exact D _ _ _ _ true (by decide) (iteT (R _ rfl))
 | Sum=>exact D _ _ _ _ false (by decide) (iteF (D _ _ _ _ true (by decide) (iteT (R _ rfl))))
 | Rising=>exact D _ _ _ _ false (by decide) (iteF (D _ _ _ _ false (by decide) (iteF (D _ _ _ _ true (by decide) (iteT (R _ rfl))))))
 | Seen=>exact D _ _ _ _ false (by decide) (iteF (D _ _ _ _ false (by decide) (iteF (D _ _ _ _ false (by decide) (iteF (D _ _ _ _ true (by decide) (iteT (R _ rfl))))))))
 | Count=>exact D _ _ _ _ false (by decide) (iteF (D _ _ _ _ false (by decide) (iteF (D _ _ _ _ false (by decide) (iteF (D _ _ _ _ false (by decide) (iteF (D _ _ _ _ true (by decide) (iteT (R _ rfl))))))))))
 | Joined=>exact D _ _ _ _ false (by decide) (iteF (D _ _ _ _ false (by decide) (iteF (D _ _ _ _ false (by decide) (iteF (D _ _ _ _ false (by decide) (iteF (D _ _ _ _ false (by decide) (iteF (D _ _ _ _ true (by decide) (iteT (R _ rfl))))))))))))
 | NoSquare=>exact D _ _ _ _ false (by decide) (iteF (D _ _ _ _ false (by decide) (iteF (D _ _ _ _ false (by decide) (iteF (D _ _ _ _ false (by decide) (iteF (D _ _ _ _ false (by decide) (iteF (D _ _ _ _ false (by decide) (iteF (D _ _ _ _ true (by decide) (iteT (R _ rfl))))))))))))))
 | Ring=>exact D _ _ _ _ false (by decide) (iteF (D _ _ _ _ false (by decide) (iteF (D _ _ _ _ false (by decide) (iteF (D _ _ _ _ false (by decide) (iteF (D _ _ _ _ false (by decide) (iteF (D _ _ _ _ false (by decide) (iteF (D _ _ _ _ false (by decide) (iteF (D _ _ _ _ true (by decide) (iteT (R _ rfl))))))))))))))))
def rowW (k:RK) (n m:Nat) (ns:List Nat):List (List Nat):=nmC k::((if numK k then [numC n] else [])++(if sgnK k then [numC m] else [])++ns.map numC)
structure qd (k:RK) (h w g:Int) (n m:Nat) (ns:List Nat) (cs:List Int):Prop where
 k0:k≠.Rule
 n0:n≤99
 nz:numK k=false→n=0
 m0:sgnK k=true→1≤(m:Int)∧(m:Int)≤g
 mz:sgnK k=false→m=0
 cl:nG k h w ns cs
 ns0:∀ x∈ns,x < 100
 len:ns.length≤16
def cu (K:PySem.W.Frag) (c:RCl RK):Sp:=fun vs H Q _=>∃ (k:RK) (p:Addr) (h w g:Int) (n m:Nat) (ns:List Nat) (cs:List Int),vs=[.ref p,.str (tx (catL 32 (rowW k n m ns)))]∧IsFl H p h w g∧FlOk h w g∧qd k h w g n m ns cs∧c.ok k=true∧
 ∀ r H',Same H H'→H r=none→IsRule H' c k r p (rowW k n m ns) cs n m→Q (.ref r) H'
theorem qe {K:PySem.W.Frag} {c:RCl RK} {vs:List V} {H:Hp} {Q:VK} {E:XK} (h:cu K c vs H Q E):vs.length=2:=by
 obtain ⟨_,_,_,_,_,_,_,_,_,rfl,_⟩:=h; rfl
def cX (K:PySem.W.Frag) (c:RCl RK):TS:=
 (tRet (tCall (dI K c) [] E0 (tCons (tVar 0) (tCons (tVar 2) (tCons (tCall (cS K) [] E0 (tCons (tVar 0) (tCons (tVar 3) (tCons (tVar 4) tNil)))) (tCons (tVar 5) (tCons (tVar 6) tNil)))))))
def fu (K:PySem.W.Frag) (c:RCl RK):TS:=
 (tSeq (tAsg (tOp cIx (tVar 2) (tC (.int 0))) (gName 3))
  (tSeq (tAsg (tSl iY (tVar 2) (tPart (tC (.int 1))) dC) (gName 4))
  (tSeq (tAsg (tC (.int 0)) (gName 5))
  (tSeq (tAsg (tC (.int 0)) (gName 6))
  (tSeq (tIfS (tB (tInG dH false (tVar 3))) (tSeq (tAsg (tCall (bb K) [] E0 (tCons (tVar 4) (tCons (tC (.int 0)) (tCons (tC (.int 99)) tNil)))) (gName 5))
  (tAsg (tSl iY (tVar 4) (tPart (tC (.int 1))) dC) (gName 4))) tNext)
  (tSeq (tIfS (tB (tInG du false (tVar 3))) (tSeq (tAsg (tCall (bb K) [] E0 (tCons (tVar 4) (tCons (tC (.int 1)) (tCons (tOp cIx (tVar 0) (tC (.int 2))) tNil)))) (gName 6))
  (tAsg (tSl iY (tVar 4) (tPart (tC (.int 1))) dC) (gName 4))) tNext)
  (cX K c)))))))
def fv (K:PySem.W.Frag) (c:RCl RK):TS:=
 (tSeq (tIfS (tNot (tB (tCB kIsi (tCons (tVar 1) (tCons (tC (.ty "str")) tNil))))) bQ tNext)
  (tSeq (tAsg (tBM K "str" l0 (tVar 1) (tCons (tC (.str (tx [32]))) tNil)) (gName 2))
  (fu K c)))
theorem vF (k:RK):32∉nmC k:=by cases k <;> decide
theorem t3 {k:RK} {n m:Nat} {ns:List Nat} (hn:n < 100) (hm:m < 100) (hs:∀ x∈ns,x < 100):∀ r∈rowW k n m ns,32∉r:=by
 intro r hr
 unfold rowW at hr
 rcases List.mem_cons.mp hr with rfl | hr
 · exact vF k
 rcases List.mem_append.mp hr with hr | hr
 · rcases List.mem_append.mp hr with hr | hr
   · split at hr
     · rw [List.mem_singleton.mp hr]; exact ln hn
     · cases hr
   · split at hr
     · rw [List.mem_singleton.mp hr]; exact ln hm
     · cases hr
 · obtain ⟨x,hx,rfl⟩:=List.mem_map.mp hr
   exact ln (hs x hx)
theorem uL (xs:List V):cutV xs (some 1) none=xs.drop 1:=by
 unfold cutV
 have h1:HT.sIx xs.length 0 (some 1)=min 1 xs.length:=HT.sIx_nat ..
 have h2:HT.sIx xs.length xs.length none=xs.length:=rfl
 rw [h1,h2]
 cases xs with
 | nil=>rfl
 | cons x r=>
  have:min 1 (x::r).length=1:=by simp
  rw [this]
  show (r).take _=r
  rw [List.take_of_length_le (by simp)]
theorem iX {K:PySem.W.Frag} {c:RCl RK} {H:Hp} {Q:VK} {k:RK} {p W R:Addr} {h w g:Int} {n m:Nat} {ws:List (List Nat)} {ns:List Nat} {cs:List Int} {lv:V} (F:FlOk h w g) (ha:IsFl H p h w g) (hW:H W=some (.lst (((nmC k::ws).map tx).map V.str))) (hR:H R=some (.lst (((ns.map numC).map tx).map V.str))) (hc:nG k h w ns cs) (hn:∀ x∈ns,x < 100) (k0:k≠.Rule) (ok:c.ok k=true)
  (q:∀ r H',Same H H'→H r=none→IsRule H' c k r p (nmC k::ws) cs n m→Q (.ref r) H'):
  cX K c { nx:=fun _ H'=>Q .non H',rt:=Q } [some (.ref p),some lv,some (.ref W),some (.str (tx (nmC k))),some (.ref R),some (.int n),some (.int m)] H:=by
 unfold cX
 walk_at "w"
 refine ⟨k,p,R,h,w,g,ns,cs,rfl,ha,F,hR,hc,hn,fun l H1 s1 hl el=>?_⟩
 walk_at "w"
 exact ⟨k,p,W,l,ws,cs,n,m,rfl,k0,ok,s1 _ _ hW,el,fun r H2 s2 hr x=>q r H2 (s1.trans s2) (s1.free hr) x⟩
theorem qP {k:RK} {n m:Nat} {ns:List Nat} (h:ns.length≤16):(rowW k n m ns).length≤100∧∀ w∈rowW k n m ns,w.length≤100:=by
 unfold rowW
 refine ⟨?_,fun w hw=>?_⟩
 · simp only [List.length_cons,List.length_append,List.length_map]
   split <;> split <;> simp <;> omega
 · rcases List.mem_cons.mp hw with rfl | hw
   · cases k <;> decide
   have h2:∀ x,(numC x).length≤100:=fun x=>Nat.le_trans nB (by decide)
   rcases List.mem_append.mp hw with hw | hw
   · rcases List.mem_append.mp hw with hw | hw
     · split at hw
       · rw [List.mem_singleton.mp hw]; exact h2 _
       · cases hw
     · split at hw
       · rw [List.mem_singleton.mp hw]; exact h2 _
       · cases hw
   · obtain ⟨x,hx,rfl⟩:=List.mem_map.mp hw
     exact h2 _
theorem mv:∀ (rows:List (List Nat)),(∀ r∈rows,r.length≤100)→(catL 32 rows).length≤101*rows.length
 | [],_=>Nat.zero_le _
 | [x],h=>by
  have:=h x List.mem_cons_self
  show x.length≤101*1
  omega
 | x::y::r,h=>by
  have h1:=h x List.mem_cons_self
  have ih:=mv (y::r) fun z hz=>h z (List.mem_cons_of_mem _ hz)
  have e:catL 32 (x::y::r)=x++32::catL 32 (y::r):=by first | rfl | simp [catL]
  rw [e,List.length_append,List.length_cons,List.length_cons]
  omega
theorem nI {H:Hp} {Q:VK} {p:Addr} {x:Str} {xs:List Str} (hp:H p=some (.lst ((x::xs).map V.str))) (q:∀ l,H l=none→Q (.ref l) (upd H l (.lst (xs.map V.str)))):iY (.ref p) (some 1) none H Q:=by
 refine pz hp fun l hl=>?_
 rw [uL]
 exact q l hl
theorem mw {K:PySem.W.Frag} {c:RCl RK} {H:Hp} {Q:VK} {k:RK} {p W:Addr} {h w g:Int} {n m:Nat} {ns:List Nat} {cs:List Int} {lv:V} (F:FlOk h w g) (ha:IsFl H p h w g) (hW:H W=some (.lst (((rowW k n m ns).map tx).map V.str))) (O:qd k h w g n m ns cs) (ok:c.ok k=true)
  (q:∀ r H',Same H H'→H r=none→IsRule H' c k r p (rowW k n m ns) cs n m→Q (.ref r) H'):
  fu K c { nx:=fun _ H'=>Q .non H',rt:=Q } [some (.ref p),some lv,some (.ref W),none,none,none,none] H:=by
 obtain ⟨k0,n0,nz,m0,mz,cl,ns0,len⟩:=O
 obtain ⟨h0,h1,w0,w1,m16,g0,g1⟩:=id F
 have e0:atI (((rowW k n m ns).map tx).map V.str) 0=some (V.str (tx (nmC k))):=gU (j:=0) rfl
 have hns:WOk (ns.map numC):=fun v hv=>by obtain ⟨x,hx,rfl⟩:=List.mem_map.mp hv; exact nD (ns0 x hx)
 unfold fu
 walk_at "w"
 refine ixL hW e0 ?_
 walk_at "w"
 refine nI hW fun R hR=>?_
 have s1:Same H (upd H R (.lst ((((if numK k then [numC n] else [])++(if sgnK k then [numC m] else [])++ns.map numC).map tx).map V.str))):=(Same.refl H).laid hR
 have eR:(upd H R (.lst ((((if numK k then [numC n] else [])++(if sgnK k then [numC m] else [])++ns.map numC).map tx).map V.str))) R=some (.lst ((((if numK k then [numC n] else [])++(if sgnK k then [numC m] else [])++ns.map numC).map tx).map V.str)):=ae
 generalize upd H R (.lst ((((if numK k then [numC n] else [])++(if sgnK k then [numC m] else [])++ns.map numC).map tx).map V.str))=H1 at*
 walk_at "w"
 have two:∀ {H2:Hp} {R2:Addr},Same H H2→H2 R2=some (.lst ((((if sgnK k then [numC m] else [])++ns.map numC).map tx).map V.str))→
   tSeq (tIfS (tB (tInG du false (tVar 3))) (tSeq (tAsg (tCall (bb K) [] E0 (tCons (tVar 4) (tCons (tC (.int 1)) (tCons (tOp cIx (tVar 0) (tC (.int 2))) tNil)))) (gName 6)) (tAsg (tSl iY (tVar 4) (tPart (tC (.int 1))) dC) (gName 4))) tNext) (cX K c) { nx:=fun _ H'=>Q .non H',rt:=Q }
    [some (.ref p),some lv,some (.ref W),some (.str (tx (nmC k))),some (.ref R2),some (.int n),some (.int 0)] H2:=by
  intro H2 R2 s2 eR2
  rw [bd,aT]
  walk_at "w"
  rw [wG]
  cases hs:sgnK k with
  | false=>
   rw [hs] at eR2
   have:=mz hs
   subst this
   walk_at "w"
   exact iX F (s2 _ _ ha) (s2 _ _ hW) eR2 cl ns0 k0 ok fun r H3 s3 hr x=>q r H3 (s2.trans s3) (s2.free hr) x
  | true=>
   rw [hs] at eR2
   have hm:=m0 hs
   walk_at "w"
   refine ixT (s2 _ _ ha) (v:=V.int g) rfl ?_
   walk_at "w"
   refine ⟨R2,m,ns.map numC,1,g,rfl,eR2,by omega,hns,hm.1,hm.2,fun H3 s3=>?_⟩
   walk_at "w"
   refine nI (s3 _ _ eR2) fun R3 hR3=>?_
   have s4:Same H3 (upd H3 R3 (.lst (((ns.map numC).map tx).map V.str))):=(Same.refl H3).laid hR3
   have s24:=(s2.trans s3).trans s4
   exact iX F (s24 _ _ ha) (s24 _ _ hW) ae cl ns0 k0 ok fun r H5 s5 hr x=>q r H5 (s24.trans s5) (s24.free hr) x
 rw [aT]
 walk_at "w"
 rw [wF]
 cases hn:numK k with
 | false=>
  rw [hn] at eR
  have:=nz hn
  subst this
  walk_at "w"
  exact two s1 eR
 | true=>
  rw [hn] at eR
  walk_at "w"
  refine ⟨R,n,(if sgnK k then [numC m] else [])++ns.map numC,0,99,rfl,eR,by omega,?_,by omega,by omega,fun H3 s3=>?_⟩
  · intro v hv
    rcases List.mem_append.mp hv with hv | hv
    · split at hv
      · rename_i hs
        have:=m0 hs
        rw [List.mem_singleton.mp hv]; exact nD (by omega)
      · cases hv
    · exact hns v hv
  walk_at "w"
  refine nI (s3 _ _ eR) fun R3 hR3=>?_
  have s4:Same H3 (upd H3 R3 (.lst ((((if sgnK k then [numC m] else [])++ns.map numC).map tx).map V.str))):=(Same.refl H3).laid hR3
  walk_at "w"
  exact two ((s1.trans s3).trans s4) ae
theorem qf {K:PySem.W.Frag} {c:RCl RK} {vs:List V} {H:Hp} {Q:VK} {E:XK} (h:cu K c vs H Q E):fv K c { nx:=fun _ H'=>Q .non H',rt:=Q } (start ["floor","line","words","name","rest","amount","mark"] vs) H:=by
 obtain ⟨k,p,h,w,g,n,m,ns,cs,rfl,ha,F,O,ok,q⟩:=h
 have hm:m < 100:=by
  by_cases hs:sgnK k=true
  · have:=(O.m0 hs).2
    have:=F.g1
    omega
  · have:=O.mz (by simpa using hs)
    omega
 have hsp:Txt.split (tx (catL 32 (rowW k n m ns))) (tx [32])=(rowW k n m ns).map tx:=uB (by simp [rowW]) (t3 (by have:=O.n0; omega) hm O.ns0)
 have hl:=qP (k:=k) (n:=n) (m:=m) O.len
 have hl2:=mv _ hl.2
 show fv K c _ [some (.ref p),some (.str (tx (catL 32 (rowW k n m ns)))),none,none,none,none,none] H
 unfold fv
 rw [bd,aT]
 walk_at "w"
 refine ⟨uY,?_⟩
 rw [vo,hsp]
 refine ⟨by rw [hJ]; decide,by rw [hJ]; exact Nat.le_of_lt (Nat.lt_of_le_of_lt hl2 (Nat.lt_of_le_of_lt (Nat.mul_le_mul_left 101 hl.1) (by decide))),by rw [List.length_map]; exact aH (by omega),fun W hW=>?_⟩
 have s1:Same H (upd H W (.lst (((rowW k n m ns).map tx).map V.str))):=(Same.refl H).laid hW
 exact mw F (s1 _ _ ha) ae O ok fun r H2 s2 hr x=>q r H2 (s1.trans s2) (s1.free hr) x
theorem oz {α β:Type} (f:α→β):∀ (l:List α) (j:Nat),(l.map f).eraseIdx j=(l.eraseIdx j).map f
 | [],_=>rfl
 | _::_,0=>rfl
 | x::r,j+1=>by
  show f x::(r.map f).eraseIdx j=f x::(r.eraseIdx j).map f
  rw [oz f r j]
theorem vG {n x:Int} (h:x∈rngL 0 n):0≤x∧x < n:=by
 unfold rngL at h
 obtain ⟨k,hk,rfl⟩:=List.mem_map.mp h
 have:=List.mem_range.mp hk
 omega
def cY (K:PySem.W.Frag) (c:RCl RK):Sp:=bK K c .Unlike
theorem mx {K:PySem.W.Frag} {c:RCl RK} {vs:List V} {H:Hp} {Q:VK} {E:XK} (h:cY K c vs H Q E):vs.length=2:=by
 obtain ⟨_,_,_,_,_,_,_,_,_,_,_,rfl,_⟩:=h; rfl
def cZ (K:PySem.W.Frag) (c:RCl RK):TS:=
 (tSeq (tAsg (aQ c c.ok "signs_at" (bn K c) (tVar 0) (tCons (tVar 1) tNil)) (gName 2))
  (tRet (tOp (cEq K) (kM (tVar 2)) (tCB kLen (tCons (tVar 2) tNil)))))
theorem my {K:PySem.W.Frag} {c:RCl RK} {vs:List V} {H:Hp} {Q:VK} {E:XK} (h:cY K c vs H Q E):cZ K c { nx:=fun _ H'=>Q .non H',rt:=Q } (start ["self","filling","signs"] vs) H:=by
 obtain ⟨r,p,f,ws,cs,xs,n,m,h,w,g,rfl,x,ha,F,hf,hC,hx,q⟩:=h
 obtain ⟨dx,W,C,h1,h2,h3⟩:=x.ex
 show cZ K c _ [some (.ref r),some (.ref f),none] H
 unfold cZ
 walk_at "w"
 refine methE rfl x.ok h1 (by rfl) ?_
 walk_at "w"
 refine ⟨r,p,f,ws,cs,xs,n,m,rfl,x,hf,hC,fun l H1 s1 hl el=>?_⟩
 have hlen:(sgAt xs cs).length≤100:=by unfold sgAt; rw [List.length_map]; exact Nat.le_trans hC.1 (by decide)
 walk_at "w"
 refine ⟨l,_,rfl,el,by omega,?_⟩
 walk_at "w"
 rw [fi el,List.length_map]
 walk_at "w"
 have q1:=q _ s1
 unfold hoB at q1
 dsimp only at q1
 have e:decide (((cntD (sgAt xs cs):Nat):Int)=((sgAt xs cs).length:Nat))=decide (cntD (sgAt xs cs)=(sgAt xs cs).length):=by
  rw [Bool.eq_iff_iff,decide_eq_true_eq,decide_eq_true_eq]
  omega
 rw [e]
 exact q1
theorem vH {n:Nat} (h:n < 100):((n:Int)).natAbs.log2 < 1920:=by
 have t:((List.range 100).all fun n=>decide (n.log2 < 1920))=true:=by decide+kernel
 have:=List.all_eq_true.mp t n (List.mem_range.mpr h)
 simpa using this
theorem vI {H:Hp} {Q:VK} {n:Nat} (h:n < 100) (q:Q (.str (tx (numC n))) H):kStr [.int (n:Int)] H Q:=by
 refine ⟨vH h,?_⟩
 rw [vC h]
 exact q
end L2
namespace L2
open PySem PySem.Spec PyProof.Rows
section
variable {X:Cx} {a:Expr} {ta:TE} {pos p:Pos} {x:Str} {ws:List Str}
theorem t4 (G:GTup X.K X.mg x ws) (ha:PE X a ta) (hg:Gl X x) (hdb:(x==("__debug__":Str))=false:=by decide) (hm:behindInMarks .In (.Name x p)=false:=by with_unfolding_all rfl):PT X (.Compare a [.In] [.Name x p] pos) (tB (tInG ws false ta)):=by
 obtain ⟨q,o,its,n,h1,h2⟩:=G.ex
 have h0:=ar (pos:=pos) (wz ⟨o,its,n,h2⟩) ha (aS (v:=V.ref q) hg h1 rfl hdb) hm
 intro pins s σ H Q I h
 refine h0 pins s σ H Q I ?_
 have e:(fun (x:V) (H1:Hp)=>∃ z,x=.str z∧∃ k,V.bl (if false=true then !decide (z∈ws) else decide (z∈ws))=.bl k∧Q k H1)=fun x H1=>∃ z,x=.str z∧(V.ref q=V.ref q)∧∃ k,V.bl (decide (z∈ws))=.bl k∧Q k H1:=by
  funext x H1; simp
 have h':ta σ H (fun (x:V) (H1:Hp)=>∃ z,x=.str z∧∃ k,V.bl (if false=true then !decide (z∈ws) else decide (z∈ws))=.bl k∧Q k H1):=h
 rw [e] at h'
 exact h'
theorem vJ (G:GTup X.K X.mg x ws) (ha:PE X a ta) (hg:Gl X x) (hdb:(x==("__debug__":Str))=false:=by decide) (hm:behindInMarks .NotIn (.Name x p)=false:=by with_unfolding_all rfl):PT X (.Compare a [.NotIn] [.Name x p] pos) (tB (tInG ws true ta)):=by
 obtain ⟨q,o,its,n,h1,h2⟩:=G.ex
 have h0:=ar (pos:=pos) (vy ⟨o,its,n,h2⟩) ha (aS (v:=V.ref q) hg h1 rfl hdb) hm
 intro pins s σ H Q I h
 refine h0 pins s σ H Q I ?_
 have e:(fun (x:V) (H1:Hp)=>∃ z,x=.str z∧∃ k,V.bl (if true=true then !decide (z∈ws) else decide (z∈ws))=.bl k∧Q k H1)=fun x H1=>∃ z,x=.str z∧(V.ref q=V.ref q)∧∃ k,V.bl (!decide (z∈ws))=.bl k∧Q k H1:=by
  funext x H1; simp
 have h':ta σ H (fun (x:V) (H1:Hp)=>∃ z,x=.str z∧∃ k,V.bl (if true=true then !decide (z∈ws) else decide (z∈ws))=.bl k∧Q k H1):=h
 rw [e] at h'
 exact h'
end
end L2
namespace L2
open PySem PySem.Spec PyProof.Rows
local macro_rules | `(tactic| walk_at "w")=>`(tactic| (first | simp only [bd,km,ml,ij,ko,jn,jo,mq,mf,kg,mj,if_true,if_false,Bool.false_eq_true,decide_true,decide_false,ji,jj,mi,hV,gB,jg,kd,jh,g8,kb,kc,g7,l8,hX,h9,ib,ic,ie,ig,ia,kh,ki,kj,ka,mh,Bool.not_true,Bool.not_false,fg,iy,bh,gH,w_c,j3,gb,gj,fh,gk,w_b,w_not,iz,j4,gl,gm,iA,gI,dj,j5,gn,iB,iC,jv,iD,dk,gp,gq,gr,eP,eQ,eV,dl,dm,cA,iE,iF,iG,iH,iI,iJ,iK,iL,iM,iN,iO,iP,j8,gt,dn,gu,j9,gw,eX,dq,iQ,iR,gy,gz,gA,
 List.getElem?_cons_zero,List.getElem?_cons_succ,Option.some.injEq,exists_eq_left',exists_eq_left,List.set_cons_zero,List.set_cons_succ,cD,V.int.injEq,V.bl.injEq,V.ref.injEq,V.str.injEq,List.append_nil,List.nil_append,List.cons_append] | dsimp only | skip))
inductive PzK where
 | Puzzle
 deriving DecidableEq
structure RR where
 k:RK
 n:Nat
 m:Nat
 ns:List Nat
 cs:List Int
def RR.ws (r:RR):List (List Nat):=rowW r.k r.n r.m r.ns
def RR.txt (r:RR):Str:=tx (catL 32 r.ws)
def RR.Ok (r:RR) (h w g:Int):Prop:=qd r.k h w g r.n r.m r.ns r.cs
structure IsRules (H:Hp) (c:RCl RK) (p L:Addr) (rs:List Addr) (rows:List RR):Prop where
 top:H L=some (.lst (rs.map V.ref))
 len:rs.length=rows.length
 at_:∀ (i:Nat) (r:Addr) (x:RR),rs[i]? =some r→rows[i]? =some x→IsRule H c x.k r p x.ws x.cs x.n x.m
theorem IsRules.same {H H':Hp} {c:RCl RK} {p L:Addr} {rs:List Addr} {rows:List RR} (x:IsRules H c p L rs rows) (s:Same H H'):IsRules H' c p L rs rows:=
 ⟨s _ _ x.top,x.len,fun i r y h1 h2=>(x.at_ i r y h1 h2).same s⟩
theorem IsRule.lst {H:Hp} {c:RCl RK} {k:RK} {r p a:Addr} {ws:List (List Nat)} {cs:List Int} {n m:Int} {xs:List V} {o:HO} (x:IsRule H c k r p ws cs n m) (ha:H a=some (.lst xs)):IsRule (upd H a o) c k r p ws cs n m:=by
 obtain ⟨dx,W,C,h1,h2,h3⟩:=x.ex
 refine ⟨x.ok,dx,W,C,?_,?_,?_⟩
 · rw [ai (fun e=>by rw [e,ha] at h1; cases h1)]; exact h1
 · rw [ai (fun e=>by rw [e,ha] at h2; cases h2)]; exact h2
 · rw [ai (fun e=>by rw [e,ha] at h3; cases h3)]; exact h3
def pFs (p L G:Addr):List (Str × V):=[("floor",.ref p),("laws",.ref L),("given",.ref G)]
structure ik (c:RCl RK) (h w g:Int) (rows:List RR):Prop where
 F:FlOk h w g
 n:rows.length≤12
 ok:∀ r∈rows,r.Ok h w g
 c:∀ r∈rows,c.ok r.k=true
structure CluesOk (h w g:Int) (cl:List Int):Prop where
 len:cl.length=(h*w).toNat
 ok:∀ x∈cl,0≤x∧x≤g
structure IsPz (H:Hp) (c:RCl RK) (d:RCl PzK) (P L G:Addr) (h w g:Int) (rows:List RR) (cl:List Int):Prop where
 ok:d.ok .Puzzle=true
 R:ik c h w g rows
 C:CluesOk h w g cl
 gv:H G=some (.lst (cl.map V.int))
 ex:∃ dx p rs,H P=some (.ins (d.A .Puzzle) dx (pFs p L G))∧IsFl H p h w g∧IsRules H c p L rs rows
theorem IsPz.same {H H':Hp} {c:RCl RK} {d:RCl PzK} {P L G:Addr} {h w g:Int} {rows:List RR} {cl:List Int} (x:IsPz H c d P L G h w g rows cl) (s:Same H H'):IsPz H' c d P L G h w g rows cl:=by
 obtain ⟨dx,p,rs,h1,h2,h3⟩:=x.ex
 exact ⟨x.ok,x.R,x.C,s _ _ x.gv,dx,p,rs,s _ _ h1,s _ _ h2,h3.same s⟩
def bM (K:PySem.W.Frag):Sp:=fun vs H Q _=>∃ i:Int,vs=[.int i]∧Q (.bl true) H
theorem qQ {K:PySem.W.Frag} {vs:List V} {H:Hp} {Q:VK} {E:XK} (h:bM K vs H Q E):vs.length=1:=by
 obtain ⟨_,rfl,_⟩:=h; rfl
def ge (K:PySem.W.Frag):TS:=
 (tRet (tAndV (tCB kIsi (tCons (tVar 0) (tCons (tC (.ty "int")) tNil))) (tNotV (tCB kIsi (tCons (tVar 0) (tCons (tC (.ty "bool")) tNil))))))
theorem qR {K:PySem.W.Frag} {vs:List V} {H:Hp} {Q:VK} {E:XK} (h:bM K vs H Q E):ge K { nx:=fun _ H'=>Q .non H',rt:=Q } (start ["value"] vs) H:=by
 obtain ⟨i,rfl,q⟩:=h
 show ge K _ [some (.int i)] H
 unfold ge
 walk_at "w"
 exact q
def aV (K:PySem.W.Frag):Sp:=fun vs H Q _=>∃ i m:Int,vs=[.int i,.int m]∧Q (.bl (decide (1≤i)&&decide (i≤m))) H
theorem kQ {K:PySem.W.Frag} {vs:List V} {H:Hp} {Q:VK} {E:XK} (h:aV K vs H Q E):vs.length=2:=by
 obtain ⟨_,_,rfl,_⟩:=h; rfl
def cf (K:PySem.W.Frag):TS:=
 (tRet (tAndV (tCall (bM K) [] E0 (tCons (tVar 0) tNil)) (tAndV (tOp (cCmp fun i j=>decide (i≤j)) (tC (.int 1)) (tVar 0)) (tOp (cCmp fun i j=>decide (i≤j)) (tVar 0) (tVar 1)))))
theorem kR {K:PySem.W.Frag} {vs:List V} {H:Hp} {Q:VK} {E:XK} (h:aV K vs H Q E):cf K { nx:=fun _ H'=>Q .non H',rt:=Q } (start ["value","most"] vs) H:=by
 obtain ⟨i,m,rfl,q⟩:=h
 show cf K _ [some (.int i),some (.int m)] H
 unfold cf
 walk_at "w"
 refine ⟨i,rfl,⟨true,rfl,iteT ?_⟩⟩
 walk_at "w"
 cases hb:decide (1≤i) with
 | false=>
  rw [hb,Bool.false_and] at q
  exact iteF q
 | true=>
  rw [hb,Bool.true_and] at q
  exact iteT q
def cT (K:PySem.W.Frag):Sp:=fun vs H Q _=>∃ h w g:Int,vs=[.int h,.int w,.int g]∧FlOk h w g∧∀ p,H p=none→Q (.ref p) (upd H p (.tup [.int h,.int w,.int g]))
theorem qS {K:PySem.W.Frag} {vs:List V} {H:Hp} {Q:VK} {E:XK} (h:cT K vs H Q E):vs.length=3:=by
 obtain ⟨_,_,_,rfl,_⟩:=h; rfl
def gf (K:PySem.W.Frag):TS:=
 (tSeq (tIfS (tNot (tB (tCall (aV K) [] E0 (tCons (tVar 0) (tCons (tC (.int 6)) tNil))))) bQ tNext)
  (tSeq (tIfS (tNot (tB (tCall (aV K) [] E0 (tCons (tVar 1) (tCons (tC (.int 6)) tNil))))) bQ tNext)
  (tSeq (tIfS (tTest (tOp (cCmp fun i j=>decide (j < i)) (tOp cMul (tVar 0) (tVar 1)) (tC (.int 16)))) bQ tNext)
  (tSeq (tIfS (tNot (tB (tCall (aV K) [] E0 (tCons (tVar 2) (tCons (tC (.int 6)) tNil))))) bQ tNext)
  (tRet (tTup (tCons (tVar 0) (tCons (tVar 1) (tCons (tVar 2) tNil)))))))))
theorem qT {K:PySem.W.Frag} {vs:List V} {H:Hp} {Q:VK} {E:XK} (h:cT K vs H Q E):gf K { nx:=fun _ H'=>Q .non H',rt:=Q } (start ["high","wide","signs"] vs) H:=by
 obtain ⟨h,w,g,rfl,F,q⟩:=h
 obtain ⟨h0,h1,w0,w1,m16,g0,g1⟩:=id F
 show gf K _ [some (.int h),some (.int w),some (.int g)] H
 unfold gf
 rw [bd,aT]
 walk_at "w"
 refine ⟨h,6,rfl,⟨_,rfl,?_⟩⟩
 rw [decide_eq_true h0,decide_eq_true h1,Bool.and_self]
 refine iteF ?_
 rw [aT]
 walk_at "w"
 refine ⟨w,6,rfl,⟨_,rfl,?_⟩⟩
 rw [decide_eq_true w0,decide_eq_true w1,Bool.and_self]
 refine iteF ?_
 rw [aT]
 walk_at "w"
 refine ⟨iT h0 h1,?_⟩
 rw [decide_eq_false (show ¬ (16:Int) < h*w by omega)]
 refine iteF ?_
 rw [aT]
 walk_at "w"
 refine ⟨g,6,rfl,⟨_,rfl,?_⟩⟩
 rw [decide_eq_true g0,decide_eq_true g1,Bool.and_self]
 refine iteF ?_
 walk_at "w"
 exact ⟨aH (by show (3:Nat)≤1000; decide),q⟩
def bz (K:PySem.W.Frag):Sp:=fun vs H Q _=>∃ (p:Addr) (h w g:Int),vs=[.ref p]∧IsFl H p h w g∧FlOk h w g∧∀ p,H p=none→Q (.ref p) (upd H p (.tup [.int h,.int w,.int g]))
theorem lz {K:PySem.W.Frag} {vs:List V} {H:Hp} {Q:VK} {E:XK} (h:bz K vs H Q E):vs.length=1:=by
 obtain ⟨_,_,_,_,rfl,_⟩:=h; rfl
def cK (K:PySem.W.Frag):TS:=
 (tSeq (tIfS (tOr (tNot (tB (tCB kIsi (tCons (tVar 0) (tCons (tC (.ty "tuple")) tNil))))) (tTest (tOp (cNe K) (tCB kLen (tCons (tVar 0) tNil)) (tC (.int 3))))) bQ tNext)
  (tRet (tCall (cT K) [] E0 (tCons (tOp cIx (tVar 0) (tC (.int 0))) (tCons (tOp cIx (tVar 0) (tC (.int 1))) (tCons (tOp cIx (tVar 0) (tC (.int 2))) tNil))))))
theorem lA {K:PySem.W.Frag} {vs:List V} {H:Hp} {Q:VK} {E:XK} (h:bz K vs H Q E):cK K { nx:=fun _ H'=>Q .non H',rt:=Q } (start ["floor"] vs) H:=by
 obtain ⟨p,h,w,g,rfl,hp,F,q⟩:=h
 show cK K _ [some (.ref p)] H
 unfold cK
 rw [bd,aT]
 walk_at "w"
 refine wv hp ?_
 walk_at "w"
 rw [wn hp,show (([V.int h,V.int w,V.int g]:List V).length:Int)=3 from rfl]
 walk_at "w"
 refine ixT hp (v:=V.int h) rfl ?_
 walk_at "w"
 refine ixT hp (v:=V.int w) rfl ?_
 walk_at "w"
 refine ixT hp (v:=V.int g) rfl ?_
 walk_at "w"
 exact ⟨h,w,g,rfl,F,q⟩
def bZ (K:PySem.W.Frag) (c:RCl RK):Sp:=fun vs H Q _=>∃ (p a:Addr) (h w g:Int) (rows:List RR),vs=[.ref p,.ref a]∧IsFl H p h w g∧H a=some (.lst ((rows.map RR.txt).map V.str))∧ik c h w g rows∧
 ∀ l rs H',Same H H'→H l=none→IsRules H' c p l rs rows→Q (.ref l) H'
theorem oV {K:PySem.W.Frag} {c:RCl RK} {vs:List V} {H:Hp} {Q:VK} {E:XK} (h:bZ K c vs H Q E):vs.length=2:=by
 obtain ⟨_,_,_,_,_,_,rfl,_⟩:=h; rfl
def d8 (K:PySem.W.Frag) (c:RCl RK):TS:=
 (tSeq (tIfS (tTest (tOp (cCmp fun i j=>decide (j < i)) (tCB kLen (tCons (tVar 1) tNil)) (tC (.int 12)))) bQ tNext)
  (tRet (tComp [none,none,some 0] (iList K (tVar 1)) (gName 1) tTrue (tCall (cu K c) [] E0 (tCons (tVar 2) (tCons (tVar 1) tNil))))))
theorem oW {K:PySem.W.Frag} {c:RCl RK} {vs:List V} {H:Hp} {Q:VK} {E:XK} (h:bZ K c vs H Q E):d8 K c { nx:=fun _ H'=>Q .non H',rt:=Q } (start ["floor","lines"] vs) H:=by
 obtain ⟨p,a,h,w,g,rows,rfl,hp,ha,O,q⟩:=h
 have hn:=O.n
 show d8 K c _ [some (.ref p),some (.ref a)] H
 unfold d8
 rw [bd,aT]
 walk_at "w"
 rw [fi ha,List.length_map,List.length_map]
 walk_at "w"
 rw [decide_eq_false (show ¬ (12:Int) < (rows.length:Nat) by omega)]
 refine iteF ?_
 walk_at "w"
 refine ⟨⟨_,SqL.of ha⟩,?_⟩
 refine j7 (xs:=(rows.map RR.txt).map V.str) (fun l i σ H'=>(∃ cv,σ=[none,cv,some (.ref p)])∧Same H H'∧∃ rs:List Addr,H' l=some (.lst (rs.map V.ref))∧rs.length=i∧∀ (j:Nat) (r:Addr) (x:RR),rs[j]? =some r→rows[j]? =some x→IsRule H' c x.k r p x.ws x.cs x.n x.m)
  (fun l hl=>⟨⟨none,rfl⟩,(Same.refl H).laid hl,[],by rw [ae]; rfl,rfl,fun j r x e=>by simp at e⟩) (fun l i σ H' _ _ x=>x.2.1.seq (SqL.of ha)) ?_ ?_
 · rintro l i x σ H1 hl hx ⟨⟨cv,rfl⟩,s1,rs,el,hlen,hat⟩
   rw [List.getElem?_map,List.getElem?_map] at hx
   cases e:rows[i]? with
   | none=>rw [e] at hx; cases hx
   | some y=>
    rw [e] at hx
    cases hx
    have hi:=(List.getElem?_eq_some_iff.mp e).1
    have hm:=List.mem_of_getElem? e
    rw [bh]
    show tTrue [none,some (.str y.txt),some (.ref p)] H1 _
    walk_at "w"
    refine ⟨y.k,p,h,w,g,y.n,y.m,y.ns,y.cs,rfl,s1 _ _ hp,O.F,O.ok y hm,O.c y hm,fun r H2 s2 hr xr=>?_⟩
    have nrl:r≠l:=fun z=>by rw [z,el] at hr; cases hr
    refine ⟨_,s2 _ _ el,by rw [List.length_map]; exact aD (by omega),⟨_,rfl⟩,(s1.trans s2).own hl,rs++[r],by rw [ae]; simp,by simp [hlen],fun j r' x' h1 h2=>?_⟩
    by_cases hj:j < rs.length
    · rw [List.getElem?_append_left hj] at h1
      exact ((hat j r' x' h1 h2).same s2).lst (s2 _ _ el)
    · rw [List.getElem?_append_right (by omega)] at h1
      have hj0:j - rs.length=0:=by
       have:=(List.getElem?_eq_some_iff.mp h1).1
       simp at this
       omega
      rw [hj0] at h1
      have:j=i:=by omega
      subst this
      rw [e] at h2
      simp at h1
      cases h2
      subst h1
      exact xr.lst (s2 _ _ el)
 · rintro l σ H1 hl ⟨_,s1,rs,el,hlen,hat⟩
   exact q l rs H1 s1 hl ⟨el,by rw [hlen]; simp,hat⟩
def filB (least g:Int) (n:Nat) (xs:List Int):Bool:=decide (xs.length=n)&&xs.all fun x=>decide (least≤x)&&decide (x≤g)
def bu (K:PySem.W.Frag):Sp:=fun vs H Q _=>∃ (p a:Addr) (h w g least:Int) (xs:List Int),vs=[.ref p,.ref a,.int least]∧IsFl H p h w g∧FlOk h w g∧H a=some (.lst (xs.map V.int))∧xs.length≤100∧∀ H',Same H H'→Q (.bl (filB least g (h*w).toNat xs)) H'
theorem oX {K:PySem.W.Frag} {vs:List V} {H:Hp} {Q:VK} {E:XK} (h:bu K vs H Q E):vs.length=3:=by
 obtain ⟨_,_,_,_,_,_,_,rfl,_⟩:=h; rfl
def d9 (K:PySem.W.Frag):TS:=
 (tSeq (tIfS (tOr (tNot (tB (tCB kIsi (tCons (tVar 1) (tCons (tC (.ty "list")) tNil))))) (tTest (tOp (cNe K) (tCB kLen (tCons (tVar 1) tNil)) (tCall (aI K) [] E0 (tCons (tVar 0) tNil))))) (tRet (tC (.bl false))) tNext)
  (tRet (tCB kAll (tCons (tComp [none,none,some 0,some 2] (iList K (tVar 1)) (gName 1) tTrue (tAndV (tCall (bM K) [] E0 (tCons (tVar 1) tNil)) (tAndV (tOp (cCmp fun i j=>decide (i≤j)) (tVar 3) (tVar 1)) (tOp (cCmp fun i j=>decide (i≤j)) (tVar 1) (tOp cIx (tVar 2) (tC (.int 2))))))) tNil))))
theorem oY {K:PySem.W.Frag} {vs:List V} {H:Hp} {Q:VK} {E:XK} (h:bu K vs H Q E):d9 K { nx:=fun _ H'=>Q .non H',rt:=Q } (start ["floor","filling","least"] vs) H:=by
 obtain ⟨p,a,h,w,g,least,xs,rfl,hp,F,ha,hn,q⟩:=h
 obtain ⟨h0,h1,w0,w1,m16,g0,g1⟩:=id F
 have mpos:0≤h*w:=Int.mul_nonneg (by omega) (by omega)
 show d9 K _ [some (.ref p),some (.ref a),some (.int least)] H
 unfold d9
 rw [bd,aT]
 walk_at "w"
 refine wu ha ?_
 walk_at "w"
 rw [fi ha,List.length_map]
 walk_at "w"
 refine ⟨p,h,w,g,rfl,hp,h0,h1,?_⟩
 walk_at "w"
 unfold filB at q
 by_cases hl:xs.length=(h*w).toNat
 · rw [decide_eq_true (show (xs.length:Int)=h*w by omega)]
   rw [decide_eq_true hl] at q
   walk_at "w"
   refine ⟨⟨_,SqL.of ha⟩,?_⟩
   refine cF (xs:=xs.map V.int) (fun _=>true) (fun i=>.bl (decide (least≤xs.getD i 0)&&decide (xs.getD i 0≤g))) (by rw [List.length_map]; omega) (SqL.of ha) ?_ ?_ ?_
   · intro i x H1 R hx s1 k1
     exact k1 _ (Same.refl _)
   · intro i x H1 Q1 hx hb s1 k1
     obtain ⟨z,hz,rfl⟩:=bj hx
     have q1:=k1 _ (Same.refl H1)
     rw [bW hz] at q1
     show tAndV _ _ [none,some (.int z),some (.ref p),some (.int least)] H1 Q1
     walk_at "w"
     refine ⟨z,rfl,⟨true,rfl,iteT ?_⟩⟩
     walk_at "w"
     cases hb:decide (least≤z) with
     | false=>
      rw [hb,Bool.false_and] at q1
      exact iteF q1
     | true=>
      rw [hb,Bool.true_and] at q1
      refine iteT ?_
      walk_at "w"
      refine ixT (s1 _ _ hp) (v:=V.int g) rfl ?_
      walk_at "w"
      exact q1
   · intro l H1 hl1 s1 el
     have eb:((List.range (xs.map V.int).length).filter fun _=>true).map (fun i=>V.bl (decide (least≤xs.getD i 0)&&decide (xs.getD i 0≤g)))=(xs.map fun x=>decide (least≤x)&&decide (x≤g)).map V.bl:=by
      rw [bi,List.length_map]
      refine List.ext_getElem? fun i=>?_
      rw [List.getElem?_map,List.getElem?_map,List.getElem?_map]
      by_cases h:i < xs.length
      · rw [List.getElem?_range h,List.getElem?_eq_getElem h]
        simp [List.getD,h]
      · rw [List.getElem?_eq_none (by simpa using h),List.getElem?_eq_none (by omega)]; rfl
     rw [eb] at el
     refine jx el ?_
     have ea:(xs.map fun x=>decide (least≤x)&&decide (x≤g)).all id=xs.all fun x=>decide (least≤x)&&decide (x≤g):=by rw [List.all_map]; rfl
     rw [ea]
     exact q _ s1
 · rw [decide_eq_false (show ¬ (xs.length:Int)=h*w by omega)]
   rw [decide_eq_false hl] at q
   walk_at "w"
   exact q _ (Same.refl _)
def bA (K:PySem.W.Frag):Sp:=fun vs H Q _=>∃ (p a:Addr) (h w g:Int) (xs:List Int),vs=[.ref p,.ref a]∧IsFl H p h w g∧FlOk h w g∧H a=some (.lst (xs.map V.int))∧CluesOk h w g xs∧∀ l H',Same H H'→H l=none→H' l=some (.lst (xs.map V.int))→Q (.ref l) H'
theorem lB {K:PySem.W.Frag} {vs:List V} {H:Hp} {Q:VK} {E:XK} (h:bA K vs H Q E):vs.length=2:=by
 obtain ⟨_,_,_,_,_,_,rfl,_⟩:=h; rfl
def cL (K:PySem.W.Frag):TS:=
 (tSeq (tIfS (tNot (tB (tCall (bu K) [] E0 (tCons (tVar 0) (tCons (tVar 1) (tCons (tC (.int 0)) tNil)))))) bQ tNext)
  (tRet (tCB kList (tCons (tVar 1) tNil))))
theorem CluesOk.fil {h w g:Int} {xs:List Int} (C:CluesOk h w g xs):filB 0 g (h*w).toNat xs=true:=by
 unfold filB
 rw [decide_eq_true C.len,Bool.true_and,List.all_eq_true]
 intro x hx
 have:=C.ok x hx
 simp [this.1,this.2]
theorem lC {K:PySem.W.Frag} {vs:List V} {H:Hp} {Q:VK} {E:XK} (h:bA K vs H Q E):cL K { nx:=fun _ H'=>Q .non H',rt:=Q } (start ["floor","clues"] vs) H:=by
 obtain ⟨p,a,h,w,g,xs,rfl,hp,F,ha,C,q⟩:=h
 obtain ⟨h0,h1,w0,w1,m16,g0,g1⟩:=id F
 show cL K _ [some (.ref p),some (.ref a)] H
 unfold cL
 rw [bd,aT]
 walk_at "w"
 refine ⟨p,a,h,w,g,0,xs,rfl,hp,F,ha,by have:=C.len; omega,fun H1 s1=>?_⟩
 rw [C.fil]
 refine ⟨true,rfl,iteF ?_⟩
 walk_at "w"
 refine tG (s1 _ _ ha) fun l hl=>?_
 exact q l _ (s1.laid hl) (s1.free hl) ae
theorem IsRule.ins {H:Hp} {c:RCl RK} {k:RK} {r p a:Addr} {ws:List (List Nat)} {cs:List Int} {n m:Int} {C dx:Addr} {fs:List (Str × V)} {o:HO} (x:IsRule H c k r p ws cs n m) (ha:H a=some (.ins C dx fs)) (hf:fs.length≠5):IsRule (upd H a o) c k r p ws cs n m:=by
 obtain ⟨dx',W,C',h1,h2,h3⟩:=x.ex
 refine ⟨x.ok,dx',W,C',?_,?_,?_⟩
 · rw [ai (fun e=>by rw [e,ha] at h1; cases h1; exact hf rfl)]; exact h1
 · rw [ai (fun e=>by rw [e,ha] at h2; cases h2)]; exact h2
 · rw [ai (fun e=>by rw [e,ha] at h3; cases h3)]; exact h3
theorem IsRules.ins {H:Hp} {c:RCl RK} {p L a:Addr} {rs:List Addr} {rows:List RR} {C dx:Addr} {fs:List (Str × V)} {o:HO} (x:IsRules H c p L rs rows) (ha:H a=some (.ins C dx fs)) (hf:fs.length≠5):IsRules (upd H a o) c p L rs rows:=
 ⟨by rw [ai (fun e=>by have:=x.top; rw [e,ha] at this; cases this)]; exact x.top,x.len,fun i r y h1 h2=>(x.at_ i r y h1 h2).ins ha hf⟩
def aR (K:PySem.W.Frag) (c:RCl RK) (d:RCl PzK):Sp:=fun vs H Q _=>∃ (x dx p a b:Addr) (h w g:Int) (rows:List RR) (cl:List Int),vs=[.ref x,.ref p,.ref a,.ref b]∧d.ok .Puzzle=true∧H x=some (.ins (d.A .Puzzle) dx [])∧IsFl H p h w g∧H a=some (.lst ((rows.map RR.txt).map V.str))∧H b=some (.lst (cl.map V.int))∧ik c h w g rows∧CluesOk h w g cl∧
 ∀ L G H',(∀ y o,y≠x→H y=some o→H' y=some o)→H L=none→H G=none→IsPz H' c d x L G h w g rows cl→Q .non H'
theorem kq {K:PySem.W.Frag} {c:RCl RK} {d:RCl PzK} {vs:List V} {H:Hp} {Q:VK} {E:XK} (h:aR K c d vs H Q E):vs.length=4:=by
 obtain ⟨_,_,_,_,_,_,_,_,_,_,rfl,_⟩:=h; rfl
def b6 (K:PySem.W.Frag) (c:RCl RK) (d:RCl PzK):TS:=
 (tSeq (sFldK d (tVar 0) (tCall (bz K) [] E0 (tCons (tVar 1) tNil)) "floor")
  (tSeq (sFldK d (tVar 0) (tCall (bZ K c) [] E0 (tCons (tFldK d (tVar 0) "floor") (tCons (tVar 2) tNil))) "laws")
  (sFldK d (tVar 0) (tCall (bA K) [] E0 (tCons (tFldK d (tVar 0) "floor") (tCons (tVar 3) tNil))) "given")))
theorem kr {K:PySem.W.Frag} {c:RCl RK} {d:RCl PzK} {vs:List V} {H:Hp} {Q:VK} {E:XK} (h:aR K c d vs H Q E):b6 K c d { nx:=fun _ H'=>Q .non H',rt:=Q } (start ["self","floor","lines","clues"] vs) H:=by
 obtain ⟨x,dx,p,a,b,h,w,g,rows,cl,rfl,ok,hx,hp,ha,hb,R,C,q⟩:=h
 show b6 K c d _ [some (.ref x),some (.ref p),some (.ref a),some (.ref b)] H
 unfold b6 sFldK
 walk_at "w"
 refine ⟨p,h,w,g,rfl,hp,R.F,fun p1 hp1=>?_⟩
 have nxp:x≠p1:=au hx hp1
 refine ⟨x,.Puzzle,dx,[],rfl,ok,by rw [ai nxp]; exact hx,by show (0:Nat) < 1000; decide,?_⟩
 have f1:∀ y o,y≠x→H y=some o→(upd (upd H p1 (.tup [.int h,.int w,.int g])) x (.ins (d.A .Puzzle) dx (putF "floor" (.ref p1) []))) y=some o:=fun y o ny e=>by
  rw [ai ny,ai (au e hp1)]; exact e
 have hx1:(upd (upd H p1 (.tup [.int h,.int w,.int g])) x (.ins (d.A .Puzzle) dx (putF "floor" (.ref p1) []))) x=some (.ins (d.A .Puzzle) dx [("floor",.ref p1)]):=ae
 have hp1':IsFl (upd (upd H p1 (.tup [.int h,.int w,.int g])) x (.ins (d.A .Puzzle) dx (putF "floor" (.ref p1) []))) p1 h w g:=by
  show (upd (upd H p1 (.tup [.int h,.int w,.int g])) x _) p1=_
  rw [ai nxp.symm,ae]
 have fr1:∀ l,(upd (upd H p1 (.tup [.int h,.int w,.int g])) x (.ins (d.A .Puzzle) dx (putF "floor" (.ref p1) []))) l=none→H l=none:=fun l e=>by
  have n1:l≠x:=fun z=>by rw [z,ae] at e; cases e
  rw [ai n1] at e
  have n2:l≠p1:=fun z=>by rw [z,ae] at e; cases e
  rw [ai n2] at e
  exact e
 have nax:a≠x:=fun z=>by rw [z,hx] at ha; cases ha
 have nbx:b≠x:=fun z=>by rw [z,hx] at hb; cases hb
 generalize upd (upd H p1 (.tup [.int h,.int w,.int g])) x (.ins (d.A .Puzzle) dx (putF "floor" (.ref p1) []))=H1 at*
 refine fldE (c:=d) (k:=.Puzzle) rfl ok hx1 (v:=.ref p1) (by rfl) ?_
 walk_at "w"
 refine ⟨p1,a,h,w,g,rows,rfl,hp1',f1 a _ nax ha,R,fun L rs H2 s2 hL X=>?_⟩
 refine ⟨x,.Puzzle,dx,_,rfl,ok,s2 _ _ hx1,by show (1:Nat) < 1000; decide,?_⟩
 have nxL:L≠x:=fun z=>by rw [z,hx1] at hL; cases hL
 have X3:=X.ins (o:=.ins (d.A .Puzzle) dx (putF "laws" (.ref L) [("floor",.ref p1)])) (s2 _ _ hx1) (by show (1:Nat)≠5; decide)
 have f2:∀ y o,y≠x→H y=some o→(upd H2 x (.ins (d.A .Puzzle) dx (putF "laws" (.ref L) [("floor",.ref p1)]))) y=some o:=fun y o ny e=>by
  rw [ai ny]; exact s2 _ _ (f1 y o ny e)
 have hx3:(upd H2 x (.ins (d.A .Puzzle) dx (putF "laws" (.ref L) [("floor",.ref p1)]))) x=some (.ins (d.A .Puzzle) dx [("floor",.ref p1),("laws",.ref L)]):=ae
 have hp3:IsFl (upd H2 x (.ins (d.A .Puzzle) dx (putF "laws" (.ref L) [("floor",.ref p1)]))) p1 h w g:=by
  show (upd H2 x _) p1=_
  rw [ai nxp.symm]; exact s2 _ _ hp1'
 have fr3:∀ l,(upd H2 x (.ins (d.A .Puzzle) dx (putF "laws" (.ref L) [("floor",.ref p1)]))) l=none→H1 l=none:=fun l e=>by
  have n1:l≠x:=fun z=>by rw [z,ae] at e; cases e
  rw [ai n1] at e
  exact s2.free e
 generalize upd H2 x (.ins (d.A .Puzzle) dx (putF "laws" (.ref L) [("floor",.ref p1)]))=H3 at*
 refine fldE (c:=d) (k:=.Puzzle) rfl ok hx3 (v:=.ref p1) (by rfl) ?_
 walk_at "w"
 refine ⟨p1,b,h,w,g,cl,rfl,hp3,R.F,f2 b _ nbx hb,C,fun G H4 s4 hG eG=>?_⟩
 refine ⟨x,.Puzzle,dx,_,rfl,ok,s4 _ _ hx3,by show (2:Nat) < 1000; decide,?_⟩
 have nxG:G≠x:=fun z=>by rw [z,hx3] at hG; cases hG
 refine q L G _ (fun y o ny e=>?_) (fr1 L hL) (fr1 G (fr3 G hG)) ⟨ok,R,C,?_,dx,p1,rs,?_,?_,?_⟩
 · rw [ai ny]; exact s4 _ _ (f2 y o ny e)
 · rw [ai nxG]; exact eG
 · rw [ae]; rfl
 · show (upd H4 x _) p1=_
   rw [ai nxp.symm]; exact s4 _ _ hp3
 · exact (X3.same s4).ins (s4 _ _ hx3) (by show (2:Nat)≠5; decide)
theorem wH {K:PySem.W.Frag} {c:RCl RK} {d:RCl PzK} {H:Hp} {Z:Addr→Hp→Prop} {p a b:Addr} {h w g:Int} {rows:List RR} {cl:List Int} (ok:d.ok .Puzzle=true) (hp:IsFl H p h w g) (ha:H a=some (.lst ((rows.map RR.txt).map V.str))) (hb:H b=some (.lst (cl.map V.int))) (R:ik c h w g rows) (C:CluesOk h w g cl)
  (q:∀ P L G H',Same H H'→H P=none→H L=none→H G=none→IsPz H' c d P L G h w g rows cl→Z P H'):
  ∀ x dx,H x=none→H dx=none→dx≠x→aR K c d (.ref x::([.ref p,.ref a,.ref b]++[])) (upd (upd H dx (.own x)) x (.ins (d.A .Puzzle) dx [])) (fun v H2=>v=.non∧Z x H2) E0:=by
 intro x dx hx hd ne
 have k:∀ y o,H y=some o→(upd (upd H dx (.own x)) x (.ins (d.A .Puzzle) dx [])) y=some o:=fun y o e=>by rw [ai (au e hx),ai (au e hd)]; exact e
 have fr:∀ y,(upd (upd H dx (.own x)) x (.ins (d.A .Puzzle) dx [])) y=none→H y=none:=fun y e=>by
  have n1:y≠x:=fun z=>by rw [z,ae] at e; cases e
  rw [ai n1] at e
  have n2:y≠dx:=fun z=>by rw [z,ae] at e; cases e
  rw [ai n2] at e
  exact e
 exact ⟨x,dx,p,a,b,h,w,g,rows,cl,rfl,ok,ae,k _ _ hp,k _ _ ha,k _ _ hb,R,C,fun L G H' hs hL hG X=>⟨rfl,q x L G H' (fun y o e=>hs y o (au e hx) (k _ _ e)) hx (fr L hL) (fr G hG) X⟩⟩
def dw (K:PySem.W.Frag) (c:RCl RK) (d:RCl PzK) (_:PzK):Sp:=fun vs H Q _=>∃ (P L G:Addr) (h w g:Int) (rows:List RR) (cl:List Int),vs=[.ref P]∧IsPz H c d P L G h w g rows cl∧∀ p,IsFl H p h w g→Q (.ref p) H
def c5 (K:PySem.W.Frag) (c:RCl RK) (d:RCl PzK):Sp:=dw K c d .Puzzle
theorem mB {K:PySem.W.Frag} {c:RCl RK} {d:RCl PzK} {vs:List V} {H:Hp} {Q:VK} {E:XK} (h:c5 K c d vs H Q E):vs.length=1:=by
 obtain ⟨_,_,_,_,_,_,_,_,rfl,_⟩:=h; rfl
def c6 (K:PySem.W.Frag) (c:RCl RK) (d:RCl PzK):TS:=
 (tRet (tFldK d (tVar 0) "floor"))
theorem mC {K:PySem.W.Frag} {c:RCl RK} {d:RCl PzK} {vs:List V} {H:Hp} {Q:VK} {E:XK} (h:c5 K c d vs H Q E):c6 K c d { nx:=fun _ H'=>Q .non H',rt:=Q } (start ["self"] vs) H:=by
 obtain ⟨P,L,G,h,w,g,rows,cl,rfl,x,q⟩:=h
 obtain ⟨dx,p,rs,h1,h2,h3⟩:=x.ex
 show c6 K c d _ [some (.ref P)] H
 unfold c6
 walk_at "w"
 exact fldE (k:=.Puzzle) rfl x.ok h1 (v:=.ref p) (by rfl) (q p h2)
def dy (K:PySem.W.Frag) (c:RCl RK) (d:RCl PzK) (_:PzK):Sp:=fun vs H Q _=>∃ (P L G:Addr) (h w g:Int) (rows:List RR) (cl:List Int),vs=[.ref P]∧IsPz H c d P L G h w g rows cl∧∀ l,H l=none→Q (.ref l) (upd H l (.lst (cl.map V.int)))
def c7 (K:PySem.W.Frag) (c:RCl RK) (d:RCl PzK):Sp:=dy K c d .Puzzle
theorem mE {K:PySem.W.Frag} {c:RCl RK} {d:RCl PzK} {vs:List V} {H:Hp} {Q:VK} {E:XK} (h:c7 K c d vs H Q E):vs.length=1:=by
 obtain ⟨_,_,_,_,_,_,_,_,rfl,_⟩:=h; rfl
def c8 (K:PySem.W.Frag) (c:RCl RK) (d:RCl PzK):TS:=
 (tRet (tCB kList (tCons (tFldK d (tVar 0) "given") tNil)))
theorem mF {K:PySem.W.Frag} {c:RCl RK} {d:RCl PzK} {vs:List V} {H:Hp} {Q:VK} {E:XK} (h:c7 K c d vs H Q E):c8 K c d { nx:=fun _ H'=>Q .non H',rt:=Q } (start ["self"] vs) H:=by
 obtain ⟨P,L,G,h,w,g,rows,cl,rfl,x,q⟩:=h
 obtain ⟨dx,p,rs,h1,h2,h3⟩:=x.ex
 show c8 K c d _ [some (.ref P)] H
 unfold c8
 walk_at "w"
 refine fldE (k:=.Puzzle) rfl x.ok h1 (v:=.ref G) (by rfl) ?_
 walk_at "w"
 exact tG x.gv q
theorem t5 {c:RCl RK} {H1:Hp} {n:Nat} {σ0:St} {te:TE} {fin:Addr→Hp→Prop} {h w g:Int} (F:FlOk h w g) (hn:n≤12) (hk:∀ k,k≠.Rule→c.ok k=true)
  (he:∀ i H Q,i < n→Same H1 H→(∀ (r:RR) (H':Hp),Same H H'→r.Ok h w g→Q (.str r.txt) H')→te (σ0.set 1 (some (.int (0+(i:Int))))) H Q)
  (hd:∀ l rows H,H1 l=none→Same H1 H→H l=some (.lst ((rows.map RR.txt).map V.str))→rows.length=n→ik c h w g rows→fin l H):
  CompR (Itr 0 n) (gName 1) tTrue te fin σ0 H1:=by
 refine jw (fun l i σ H=>(σ=σ0∨∃ cv,σ=σ0.set 1 cv)∧Same H1 H∧∃ rows:List RR,H l=some (.lst ((rows.map RR.txt).map V.str))∧rows.length=i∧∀ r∈rows,r.Ok h w g) (fun l hl=>⟨.inl rfl,(Same.refl H1).laid hl,[],by rw [ae]; rfl,rfl,fun _ h=>nomatch h⟩) ?_ (fun l σ H hl ⟨_,s1,rows,el,hl2,hP⟩=>hd l rows H hl s1 el hl2 ⟨F,by omega,hP,fun r hr=>hk _ (hP r hr).k0⟩)
 rintro l i σ H hl hi ⟨hσ,s1,rows,el,hl2,hP⟩
 rw [bh]
 have e:σ.set 1 (some (.int (0+(i:Int))))=σ0.set 1 (some (.int (0+(i:Int)))):=by
  rcases hσ with rfl | ⟨cv,rfl⟩
  · rfl
  · exact List.set_set ..
 rw [e,dk,if_pos rfl]
 refine he i H _ hi s1 fun r H2 s2 hr=>⟨_,s2 _ _ el,by simp; exact aD (by omega),.inr ⟨_,rfl⟩,(s1.trans s2).own hl,rows++[r],by rw [ae]; simp,by simp [hl2],fun z hz=>?_⟩
 rcases List.mem_append.mp hz with hz | hz
 · exact hP z hz
 · rw [List.mem_singleton.mp hz]; exact hr
def fz (K:PySem.W.Frag) (c:RCl RK):Sp:=bK K c .Sum
theorem qg {K:PySem.W.Frag} {c:RCl RK} {vs:List V} {H:Hp} {Q:VK} {E:XK} (h:fz K c vs H Q E):vs.length=2:=by
 obtain ⟨_,_,_,_,_,_,_,_,_,_,_,rfl,_⟩:=h; rfl
def fA (K:PySem.W.Frag) (c:RCl RK):TS:=
 (tRet (tOp (cEq K) (tCB kSum (tCons (aQ c c.ok "signs_at" (bn K c) (tVar 0) (tCons (tVar 1) tNil)) tNil)) (tFldK c (tVar 0) "amount")))
theorem wI {xs cs:List Int} {n:Nat} (hC:jp cs n) (hn:n=xs.length) (hx:∀ x∈xs,0≤x∧x≤1000):∀ x∈sgAt xs cs,0≤x∧x≤1000:=fun x hm=>by
 unfold sgAt at hm
 obtain ⟨c,hc,rfl⟩:=List.mem_map.mp hm
 have:=hC.2 c hc
 have hl:c.toNat < xs.length:=by omega
 rw [List.getD,List.getElem?_eq_getElem hl]
 exact hx _ (List.getElem_mem hl)
theorem qh {K:PySem.W.Frag} {c:RCl RK} {vs:List V} {H:Hp} {Q:VK} {E:XK} (h:fz K c vs H Q E):fA K c { nx:=fun _ H'=>Q .non H',rt:=Q } (start ["self","filling"] vs) H:=by
 obtain ⟨r,p,f,ws,cs,xs,n,m,h,w,g,rfl,x,ha,F,hf,hC,hx,q⟩:=h
 obtain ⟨dx,W,C,h1,h2,h3⟩:=x.ex
 show fA K c _ [some (.ref r),some (.ref f)] H
 unfold fA
 walk_at "w"
 refine methE rfl x.ok h1 (by rfl) ?_
 walk_at "w"
 refine ⟨r,p,f,ws,cs,xs,n,m,rfl,x,hf,hC,fun l H1 s1 hl el=>?_⟩
 have hlen:(sgAt xs cs).length≤100:=by unfold sgAt; rw [List.length_map]; exact Nat.le_trans hC.1 (by decide)
 walk_at "w"
 refine wT el (fun y hy=>by have:=wI hC rfl hx y hy; omega) (by omega) ?_
 refine fldE rfl x.ok (s1 _ _ h1) (v:=.int n) (by rfl) ?_
 walk_at "w"
 exact q _ s1
theorem rq:∀ l:List Int,risB l=(List.range (l.length - 1)).all fun i=>decide (l.getD i 0 < l.getD (i+1) 0)
 | []=>rfl
 | [x]=>rfl
 | x::y::r=>by
  have ih:=rq (y::r)
  show (decide (x < y)&&risB (y::r))=(List.range (r.length+1)).all fun i=>decide ((x::y::r).getD i 0 < (x::y::r).getD (i+1) 0)
  rw [ih,List.range_succ_eq_map,List.all_cons,List.all_map]
  rfl
def c9 (K:PySem.W.Frag) (c:RCl RK):Sp:=bK K c .Rising
theorem mG {K:PySem.W.Frag} {c:RCl RK} {vs:List V} {H:Hp} {Q:VK} {E:XK} (h:c9 K c vs H Q E):vs.length=2:=by
 obtain ⟨_,_,_,_,_,_,_,_,_,_,_,rfl,_⟩:=h; rfl
def da (K:PySem.W.Frag) (c:RCl RK):TS:=
 (tSeq (tAsg (aQ c c.ok "signs_at" (bn K c) (tVar 0) (tCons (tVar 1) tNil)) (gName 2))
  (tRet (tCB kAll (tCons (tComp [none,none,some 2] (fZ (tCons (tOp cSub (tCB kLen (tCons (tVar 2) tNil)) (tC (.int 1))) tNil)) (gName 1) tTrue (tOp (cCmp fun i j=>decide (i < j)) (tOp cIx (tVar 2) (tVar 1)) (tOp cIx (tVar 2) (tOp cAdd (tVar 1) (tC (.int 1)))))) tNil))))
theorem mH {K:PySem.W.Frag} {c:RCl RK} {vs:List V} {H:Hp} {Q:VK} {E:XK} (h:c9 K c vs H Q E):da K c { nx:=fun _ H'=>Q .non H',rt:=Q } (start ["self","filling","signs"] vs) H:=by
 obtain ⟨r,p,f,ws,cs,xs,n,m,h,w,g,rfl,x,ha,F,hf,hC,hx,q⟩:=h
 obtain ⟨dx,W,C,h1,h2,h3⟩:=x.ex
 show da K c _ [some (.ref r),some (.ref f),none] H
 unfold da
 walk_at "w"
 refine methE rfl x.ok h1 (by rfl) ?_
 walk_at "w"
 refine ⟨r,p,f,ws,cs,xs,n,m,rfl,x,hf,hC,fun l H1 s1 hl el=>?_⟩
 have hlen:(sgAt xs cs).length≤100:=by unfold sgAt; rw [List.length_map]; exact Nat.le_trans hC.1 (by decide)
 have q1:∀ H',Same H H'→Q (.bl (risB (sgAt xs cs))) H':=q
 generalize sgAt xs cs=sg at*
 walk_at "w"
 rw [fi el,List.length_map]
 walk_at "w"
 refine ⟨_,rfl,by omega,by omega,?_⟩
 have en:((sg.length:Int) - 1).toNat=sg.length - 1:=by omega
 rw [en]
 refine k9 (fun _=>true) (fun i=>.bl (decide (sg.getD i 0 < sg.getD (i+1) 0))) (by omega) ?_ ?_ ?_
 · intro i H2 R hi s2 k2
   exact k2 _ (Same.refl _)
 · intro i H2 Q2 hi hb s2 k2
   show tOp _ _ _ [none,some (.int (0+(i:Int))),some (.ref l)] H2 Q2
   rw [Int.zero_add]
   walk_at "w"
   refine ixI (s2 _ _ el) (by omega) (by omega) ?_
   refine ixI (s2 _ _ el) (by omega) (by omega) ?_
   walk_at "w"
   have e1:(i:Int).toNat=i:=by omega
   have e2:((i:Int)+1).toNat=i+1:=by omega
   rw [e1,e2]
   exact k2 _ (Same.refl _)
 · intro l2 H2 hl2 s2 el2
   rw [bi] at el2
   refine jx (bs:=(List.range (sg.length - 1)).map fun i=>decide (sg.getD i 0 < sg.getD (i+1) 0)) (by rw [el2,List.map_map]; rfl) ?_
   have e:((List.range (sg.length - 1)).map fun i=>decide (sg.getD i 0 < sg.getD (i+1) 0)).all id=risB sg:=by
    rw [rq,List.all_map]
    rfl
   rw [e]
   exact q1 _ (s1.trans s2)
theorem uM (l:List Int) (x:Int):seenN (l++[x])=if (seenN l).1 < x then (x,(seenN l).2+1) else seenN l:=by
 unfold seenN
 rw [List.foldl_append]
 rfl
def ed (K:PySem.W.Frag) (c:RCl RK):Sp:=bK K c .Seen
theorem oZ {K:PySem.W.Frag} {c:RCl RK} {vs:List V} {H:Hp} {Q:VK} {E:XK} (h:ed K c vs H Q E):vs.length=2:=by
 obtain ⟨_,_,_,_,_,_,_,_,_,_,_,rfl,_⟩:=h; rfl
def eh (K:PySem.W.Frag) (c:RCl RK):TS:=
 (tSeq (tAsg (tC (.int 0)) (gName 2))
  (tSeq (tAsg (tC (.int 0)) (gName 3))
  (tSeq (tFor (iList K (aQ c c.ok "signs_at" (bn K c) (tVar 0) (tCons (tVar 1) tNil))) (gName 4)
  (tIfS (tTest (tOp (cCmp fun i j=>decide (j < i)) (tVar 4) (tVar 2))) (tSeq (tAsg (tVar 4) (gName 2))
  (tAsg (tOp cAdd (tVar 3) (tC (.int 1))) (gName 3))) tNext))
  (tRet (tOp (cEq K) (tVar 3) (tFldK c (tVar 0) "amount"))))))
theorem o0 {K:PySem.W.Frag} {c:RCl RK} {vs:List V} {H:Hp} {Q:VK} {E:XK} (h:ed K c vs H Q E):eh K c { nx:=fun _ H'=>Q .non H',rt:=Q } (start ["self","filling","greatest","seen","sign"] vs) H:=by
 obtain ⟨r,p,f,ws,cs,xs,n,m,h,w,g,rfl,x,ha,F,hf,hC,hx,q⟩:=h
 obtain ⟨dx,W,C,h1,h2,h3⟩:=x.ex
 show eh K c _ [some (.ref r),some (.ref f),none,none,none] H
 unfold eh
 walk_at "w"
 refine methE rfl x.ok h1 (by rfl) ?_
 walk_at "w"
 refine ⟨r,p,f,ws,cs,xs,n,m,rfl,x,hf,hC,fun l H1 s1 hl el=>?_⟩
 have q1:∀ H',Same H H'→Q (.bl (decide ((seenN (sgAt xs cs)).2=n))) H':=q
 generalize sgAt xs cs=sg at*
 walk_at "w"
 refine ⟨⟨_,SqL.of el⟩,fM (K:=K) (xs:=sg.map V.int) (fun i σ H'=>∃ cv:Option V,σ=[some (.ref r),some (.ref f),some (.int (seenN (sg.take i)).1),some (.int (seenN (sg.take i)).2),cv]∧H'=H1) ⟨none,rfl,rfl⟩ (fun i σ H' _ ⟨_,_,e⟩=>by rw [e]; exact SqL.of el) ?_ ?_⟩
 · rintro i y σ H2 hy ⟨cv,rfl,rfl⟩
   rw [List.getElem?_map] at hy
   cases e:sg[i]? with
   | none=>rw [e] at hy; cases hy
   | some z=>
    rw [e] at hy
    cases hy
    have et:sg.take (i+1)=sg.take i++[z]:=by rw [List.take_succ,e]; rfl
    have ea:=uM (sg.take i) z
    rw [← et] at ea
    walk_at "w"
    rw [aT]
    walk_at "w"
    by_cases hz:(seenN (sg.take i)).1 < z
    · rw [decide_eq_true hz]
      rw [if_pos hz] at ea
      refine iteT ?_
      rw [ea]
      exact ⟨_,rfl,by first | trivial | rfl⟩
    · rw [decide_eq_false hz]
      rw [if_neg hz] at ea
      refine iteF ?_
      rw [ea]
      exact ⟨_,rfl,by first | trivial | rfl⟩
 · rintro σ H2 ⟨cv,rfl,rfl⟩
   rw [List.length_map,List.take_length]
   walk_at "w"
   refine fldE rfl x.ok (s1 _ _ h1) (v:=.int n) (by rfl) ?_
   walk_at "w"
   exact q1 _ s1
def bP (K:PySem.W.Frag) (c:RCl RK):Sp:=fun vs H Q E=>∃ k,bt K c k vs H Q E
theorem nJ {K:PySem.W.Frag} {c:RCl RK} {vs:List V} {H:Hp} {Q:VK} {E:XK} (h:bP K c vs H Q E):vs.length=2:=by
 obtain ⟨_,_,_,_,_,_,_,_,_,rfl,_⟩:=h; rfl
def dJ (K:PySem.W.Frag) (c:RCl RK):TS:=
 (tRet (tComp [none,none,some 1,some 0] (iTup K (tFldK c (tVar 0) "cells")) (gName 1) (tTest (tOp (cEq K) (tOp cIx (tVar 2) (tVar 1)) (tFldK c (tVar 3) "mark"))) (tVar 1)))
theorem nK {K:PySem.W.Frag} {c:RCl RK} {vs:List V} {H:Hp} {Q:VK} {E:XK} (h:bP K c vs H Q E):dJ K c { nx:=fun _ H'=>Q .non H',rt:=Q } (start ["self","filling"] vs) H:=by
 obtain ⟨k,r,p,f,ws,cs,xs,n,m,rfl,x,hf,⟨hn,hc⟩,q⟩:=h
 obtain ⟨dx,W,C,h1,h2,h3⟩:=x.ex
 show dJ K c _ [some (.ref r),some (.ref f)] H
 unfold dJ
 rw [gb,ro]
 refine fldE rfl x.ok h1 (v:=.ref C) (by rfl) ?_
 refine ⟨C,rfl,⟨_,SqT.of h3⟩,?_⟩
 refine ox (xs:=cs) (fun c=>decide (xs.getD c.toNat 0=m)) (fun c=>c) (by omega) h3 ?_ ?_ ?_
 · intro z H1 R hz s1 k1
   show tTest _ [none,some (.int z),some (.ref f),some (.ref r)] H1 R
   walk_at "w"
   have:=hc z hz
   refine ixI (s1 _ _ hf) this.1 (by omega) ?_
   refine fldE rfl x.ok (s1 _ _ h1) (v:=.int m) (by rfl) ?_
   walk_at "w"
   exact k1 _ (Same.refl _)
 · intro z H1 Q1 hz hb s1 k1
   show tVar 1 [none,some (.int z),some (.ref f),some (.ref r)] H1 Q1
   exact ⟨_,rfl,k1 _ (Same.refl _)⟩
 · intro l H1 hl s1 el
   rw [List.map_id'] at el
   exact q l H1 s1 hl el
def dL (K:PySem.W.Frag) (c:RCl RK):Sp:=bK K c .Count
theorem nM {K:PySem.W.Frag} {c:RCl RK} {vs:List V} {H:Hp} {Q:VK} {E:XK} (h:dL K c vs H Q E):vs.length=2:=by
 obtain ⟨_,_,_,_,_,_,_,_,_,_,_,rfl,_⟩:=h; rfl
def dM (K:PySem.W.Frag) (c:RCl RK):TS:=
 (tRet (tOp (cEq K) (tCB kLen (tCons (aQ c c.ok "marked" (bt K c) (tVar 0) (tCons (tVar 1) tNil)) tNil)) (tFldK c (tVar 0) "amount")))
theorem nN {K:PySem.W.Frag} {c:RCl RK} {vs:List V} {H:Hp} {Q:VK} {E:XK} (h:dL K c vs H Q E):dM K c { nx:=fun _ H'=>Q .non H',rt:=Q } (start ["self","filling"] vs) H:=by
 obtain ⟨r,p,f,ws,cs,xs,n,m,h,w,g,rfl,x,ha,F,hf,hC,hx,q⟩:=h
 obtain ⟨dx,W,C,h1,h2,h3⟩:=x.ex
 show dM K c _ [some (.ref r),some (.ref f)] H
 unfold dM
 walk_at "w"
 refine methE rfl x.ok h1 (by rfl) ?_
 walk_at "w"
 refine ⟨r,p,f,ws,cs,xs,n,m,rfl,x,hf,hC,fun l H1 s1 hl el=>?_⟩
 walk_at "w"
 rw [fi el,List.length_map]
 refine fldE rfl x.ok (s1 _ _ h1) (v:=.int n) (by rfl) ?_
 walk_at "w"
 exact q _ s1
end L2
namespace L2
open PySem PySem.Spec PyProof.Rows
end L2
namespace L2
open PySem PySem.Spec PyProof.Rows
local macro_rules | `(tactic| walk_at "w")=>`(tactic| (first | simp only [bd,km,ml,ij,ko,jn,jo,mq,mf,kg,mj,if_true,if_false,Bool.false_eq_true,decide_true,decide_false,ji,jj,mi,hV,gB,jg,kd,jh,g8,kb,kc,g7,l8,hX,h9,ib,ic,ie,ig,ia,kh,ki,kj,ka,mh,Bool.not_true,Bool.not_false,fg,iy,bh,gH,w_c,j3,gb,gj,fh,gk,w_b,w_not,iz,j4,gl,gm,iA,gI,dj,j5,gn,iB,iC,jv,iD,dk,gp,gq,gr,eP,eQ,eV,dl,dm,cA,iE,iF,iG,iH,iI,iJ,iK,iL,iM,iN,iO,iP,j8,gt,dn,gu,j9,gw,eX,dq,iQ,iR,gy,gz,gA,
 List.getElem?_cons_zero,List.getElem?_cons_succ,Option.some.injEq,exists_eq_left',exists_eq_left,List.set_cons_zero,List.set_cons_succ,cD,V.int.injEq,V.bl.injEq,V.ref.injEq,V.str.injEq,List.append_nil,List.nil_append,List.cons_append] | dsimp only | skip))
def cw (K:PySem.W.Frag):Sp:=fun vs H Q _=>∃ (S M:Addr) (sq ms:List Int),vs=[.ref S,.ref M]∧H S=some (.lst (sq.map V.int))∧H M=some (.lst (ms.map V.int))∧sq.length≤100∧∀ H',Same H H'→Q (.bl (sq.all fun c=>decide (c∈ms))) H'
theorem qi {K:PySem.W.Frag} {vs:List V} {H:Hp} {Q:VK} {E:XK} (h:cw K vs H Q E):vs.length=2:=by
 obtain ⟨_,_,_,_,rfl,_⟩:=h; rfl
def fB (K:PySem.W.Frag):TS:=
 (tRet (tCB kAll (tCons (tComp [none,none,some 1] (iList K (tVar 0)) (gName 1) tTrue (tOp (cIn K false) (tVar 1) (tVar 2))) tNil)))
theorem qj {K:PySem.W.Frag} {vs:List V} {H:Hp} {Q:VK} {E:XK} (h:cw K vs H Q E):fB K { nx:=fun _ H'=>Q .non H',rt:=Q } (start ["some","cells"] vs) H:=by
 obtain ⟨S,M,sq,ms,rfl,hS,hM,hn,q⟩:=h
 show fB K _ [some (.ref S),some (.ref M)] H
 unfold fB
 walk_at "w"
 refine ⟨⟨_,SqL.of hS⟩,?_⟩
 refine cF (xs:=sq.map V.int) (fun _=>true) (fun i=>.bl (decide (sq.getD i 0∈ms))) (by rw [List.length_map]; omega) (SqL.of hS) ?_ ?_ ?_
 · intro i x H1 R hx s1 k1
   exact k1 _ (Same.refl _)
 · intro i x H1 Q1 hx hb s1 k1
   rw [List.getElem?_map] at hx
   cases e:sq[i]? with
   | none=>rw [e] at hx; cases hx
   | some z=>
    rw [e] at hx
    cases hx
    have k2:=k1 _ (Same.refl H1)
    rw [List.getD,e] at k2
    show tOp (cIn K false) _ _ [none,some (.int z),some (.ref M)] H1 Q1
    walk_at "w"
    rw [rR (s1 _ _ hM)]
    exact k2
 · intro l H1 hl s1 el
   rw [bi,List.length_map] at el
   refine jx (bs:=(List.range sq.length).map fun i=>decide (sq.getD i 0∈ms)) (by rw [el,List.map_map]; rfl) ?_
   have e:((List.range sq.length).map fun i=>decide (sq.getD i 0∈ms)).all id=sq.all fun c=>decide (c∈ms):=by
    rw [List.all_map,Bool.eq_iff_iff,List.all_eq_true,List.all_eq_true]
    constructor
    · intro h c hc
      obtain ⟨i,hi,rfl⟩:=List.mem_iff_getElem.mp hc
      have:=h i (List.mem_range.mpr hi)
      dsimp only [Function.comp,id] at this
      rw [List.getD,List.getElem?_eq_getElem hi] at this
      exact this
    · intro h i hi
      have hi:=List.mem_range.mp hi
      have:=h _ (List.getElem_mem hi)
      dsimp only [Function.comp,id]
      rw [List.getD,List.getElem?_eq_getElem hi]
      exact this
   rw [e]
   exact q _ s1
def cg (K:PySem.W.Frag) (c:RCl RK):Sp:=bK K c .NoSquare
theorem kS {K:PySem.W.Frag} {c:RCl RK} {vs:List V} {H:Hp} {Q:VK} {E:XK} (h:cg K c vs H Q E):vs.length=2:=by
 obtain ⟨_,_,_,_,_,_,_,_,_,_,_,rfl,_⟩:=h; rfl
theorem vK {h w g:Int} (F:FlOk h w g):(squL h w).length≤16:=by
 obtain ⟨h0,h1,w0,w1,m16,g0,g1⟩:=F
 unfold squL
 rw [List.length_map]
 refine Nat.le_trans (List.length_filter_le _ _) ?_
 rw [List.length_range]
 omega
def ci (K:PySem.W.Frag) (c:RCl RK):TS:=
 (tSeq (tAsg (aQ c c.ok "marked" (bt K c) (tVar 0) (tCons (tVar 1) tNil)) (gName 2))
  (tRet (tNotV (tCB kAny (tCons (tComp [none,none,some 2] (iList K (tCall (dG K) [] E0 (tCons (tFldK c (tVar 0) "floor") tNil))) (gName 1) tTrue (tCall (cw K) [] E0 (tCons (tVar 1) (tCons (tVar 2) tNil)))) tNil)))))
theorem kT {K:PySem.W.Frag} {c:RCl RK} {vs:List V} {H:Hp} {Q:VK} {E:XK} (h:cg K c vs H Q E):ci K c { nx:=fun _ H'=>Q .non H',rt:=Q } (start ["self","filling","cells"] vs) H:=by
 obtain ⟨r,p,f,ws,cs,xs,n,m,h,w,g,rfl,x,ha,F,hf,hC,hx,q⟩:=h
 obtain ⟨dx,W,C,h1,h2,h3⟩:=x.ex
 show ci K c _ [some (.ref r),some (.ref f),none] H
 unfold ci
 walk_at "w"
 refine methE rfl x.ok h1 (by rfl) ?_
 walk_at "w"
 refine ⟨r,p,f,ws,cs,xs,n,m,rfl,x,hf,hC,fun l H1 s1 hl el=>?_⟩
 walk_at "w"
 refine fldE rfl x.ok (s1 _ _ h1) (v:=.ref p) (by rfl) ?_
 walk_at "w"
 refine ⟨p,h,w,g,rfl,s1 _ _ ha,F,fun L as H2 s2 hL xL _ _ _=>?_⟩
 have sl:=vK F
 refine ⟨L,rfl,⟨_,SqL.of xL.top⟩,?_⟩
 refine cF (xs:=as.map V.ref) (fun _=>true) (fun i=>.bl (((squL h w).getD i []).all fun c=>decide (c∈mkAt xs cs m))) (by rw [List.length_map,xL.len]; omega) (SqL.of xL.top) ?_ ?_ ?_
 · intro i x H3 R hx s3 k3
   exact k3 _ (Same.refl _)
 · intro i y H3 Q3 hi hb s3 k3
   obtain ⟨b,hb,rfl⟩:=dZ hi
   have hlt:i < (squL h w).length:=by rw [← xL.len]; exact (List.getElem?_eq_some_iff.mp hb).1
   have e:=List.getElem?_eq_getElem hlt
   have eg:(squL h w).getD i []=(squL h w)[i]:=by rw [List.getD,e]; rfl
   have hq4:((squL h w)[i]).length≤100:=by
    have hm:=List.getElem_mem hlt
    generalize (squL h w)[i]=z at hm
    unfold squL at hm
    obtain ⟨j,_,rfl⟩:=List.mem_map.mp hm
    show 4≤100
    decide
   show tCall _ _ _ _ [none,some (.ref b),some (.ref l)] H3 Q3
   walk_at "w"
   refine ⟨b,l,_,_,rfl,s3 _ _ (xL.at_ i b _ hb e),s3 _ _ (s2 _ _ el),hq4,fun H4 s4=>?_⟩
   have:=k3 H4 s4
   rw [eg] at this
   exact this
 · intro D H3 hD s3 eD
   rw [bi,List.length_map,xL.len] at eD
   refine u6 (bs:=(List.range (squL h w).length).map fun i=>((squL h w).getD i []).all fun c=>decide (c∈mkAt xs cs m)) (by rw [eD,List.map_map]; rfl) ?_
   have e:((List.range (squL h w).length).map fun i=>((squL h w).getD i []).all fun c=>decide (c∈mkAt xs cs m)).any id=(squL h w).any fun sq=>sq.all fun c=>decide (c∈mkAt xs cs m):=by
    rw [List.any_map,Bool.eq_iff_iff,List.any_eq_true,List.any_eq_true]
    constructor
    · rintro ⟨i,hi,hh⟩
      have hi:=List.mem_range.mp hi
      dsimp only [Function.comp,id] at hh
      have eg:(squL h w).getD i []=(squL h w)[i]:=by rw [List.getD,List.getElem?_eq_getElem hi]; rfl
      rw [eg] at hh
      exact ⟨_,List.getElem_mem hi,hh⟩
    · rintro ⟨sq,hs,hh⟩
      obtain ⟨i,hi,rfl⟩:=List.mem_iff_getElem.mp hs
      refine ⟨i,List.mem_range.mpr hi,?_⟩
      dsimp only [Function.comp,id]
      have eg:(squL h w).getD i []=(squL h w)[i]:=by rw [List.getD,List.getElem?_eq_getElem hi]; rfl
      rw [eg]
      exact hh
   rw [e]
   walk_at "w"
   exact q _ ((s1.trans s2).trans s3)
end L2
namespace L2
open PySem PySem.Spec PyProof.Rows
end L2
namespace L2
open PySem PySem.Spec PyProof.Rows
local macro_rules | `(tactic| walk_at "w")=>`(tactic| (first | simp only [bd,km,ml,ij,ko,jn,jo,mq,mf,kg,mj,if_true,if_false,Bool.false_eq_true,decide_true,decide_false,ji,jj,mi,hV,gB,jg,kd,jh,g8,kb,kc,g7,l8,hX,h9,ib,ic,ie,ig,ia,kh,ki,kj,ka,mh,Bool.not_true,Bool.not_false,fg,iy,bh,gH,w_c,j3,gb,gj,fh,gk,w_b,w_not,iz,j4,gl,gm,iA,gI,dj,j5,gn,iB,iC,jv,iD,dk,gp,gq,gr,eP,eQ,eV,dl,dm,cA,iE,iF,iG,iH,iI,iJ,iK,iL,iM,iN,iO,iP,j8,gt,dn,gu,j9,gw,eX,dq,iQ,iR,gy,gz,gA,
 List.getElem?_cons_zero,List.getElem?_cons_succ,Option.some.injEq,exists_eq_left',exists_eq_left,List.set_cons_zero,List.set_cons_succ,cD,V.int.injEq,V.bl.injEq,V.ref.injEq,V.str.injEq,List.append_nil,List.nil_append,List.cons_append] | dsimp only | skip))
def dO (K:PySem.W.Frag):Sp:=fun vs H Q _=>∃ (a l:Addr) (h w g st:Int) (cs:List Int),vs=[.ref a,.ref l,.int st]∧IsFl H a h w g∧0 < w∧w < 100∧H l=some (.lst (cs.map V.int))∧cs.length≤63∧
 ∀ (p:Addr) (H':Hp) (rs:List Int),Same H H'→H p=none→H' p=some (.lst (rs.map V.int))→rs.Pairwise (· < ·)→(∀ x,x∈rs↔RC h w cs st x)→Q (.ref p) H'
theorem sj {K:PySem.W.Frag} {vs:List V} {H:Hp} {Q:VK} {E:XK} (h:dO K vs H Q E):vs.length=3:=by
 obtain ⟨_,_,_,_,_,_,_,rfl,_⟩:=h; rfl
def gO (K:PySem.W.Frag):TS:=
 (tSeq (tIfS (tTest (tOp (cIn K true) (tVar 2) (tVar 1))) (tRet (tLst tNil)) tNext)
  (tSeq (tAsg (tLst (tCons (tVar 2) tNil)) (gName 3))
  (tSeq (tAsg (tC (.int 0)) (gName 4))
  (tSeq (pD (tTest (tOp (cCmp fun i j=>decide (i < j)) (tVar 4) (tCB kLen (tCons (tVar 3) tNil))))
  (tSeq (tFor (iList K (tCall (cB K) [] E0 (tCons (tVar 0) (tCons (tOp cIx (tVar 3) (tVar 4)) tNil)))) (gName 5)
  (tIfS (tAnd (tTest (tOp (cIn K false) (tVar 5) (tVar 1))) (tTest (tOp (cIn K true) (tVar 5) (tVar 3)))) (tDrop (tBM K "list" bO (tVar 3) (tCons (tVar 5) tNil))) tNext))
  (tAsg (tOp cAdd (tVar 4) (tC (.int 1))) (gName 4))))
  (tRet (tCB kH (tCons (tVar 3) tNil)))))))
theorem sk {K:PySem.W.Frag} {vs:List V} {H:Hp} {Q:VK} {E:XK} (h:dO K vs H Q E):gO K { nx:=fun _ H'=>Q .non H',rt:=Q } (start ["floor","cells","start","found","place","cell"] vs) H:=by
 obtain ⟨a,l,h,w,g,st,cs,rfl,ha,w0,w1,hl,hn,k⟩:=h
 show gO K _ [some (.ref a),some (.ref l),some (.int st),none,none,none] H
 unfold gO
 rw [bd,aT]
 walk_at "w"
 rw [uX hl]
 walk_at "w"
 by_cases hs:st∈cs
 · rw [if_neg (by simpa using hs)]
   walk_at "w"
   refine ⟨aH (by show (1:Nat)≤1000; decide),fun f hf=>?_⟩
   refine ⟨fun m σ H'=>∃ (fs:List Int) (pl:Nat) (cv:Option V),σ=[some (.ref a),some (.ref l),some (.int st),some (.ref f),some (.int pl),cv]∧Same H H'∧H' f=some (.lst (fs.map V.int))∧BI h w cs st fs pl∧m=cs.length - pl,
    ⟨_,[st],0,none,rfl,(Same.refl H).laid hf,ae,BI.start hs,rfl⟩,?_⟩
   rintro m σ H1 ⟨fs,pl,cv,rfl,s1,e1,B,rfl⟩
   have hfl:=B.len
   walk_at "w"
   rw [fi e1,List.length_map]
   walk_at "w"
   by_cases hp:pl < fs.length
   · rw [if_pos (by simpa using hp)]
     obtain ⟨x,hx⟩:∃ x,fs[pl]? =some x:=⟨fs[pl],by simp [hp]⟩
     have rx:RC h w cs st x:=B.rc x (List.mem_of_getElem? hx)
     refine ⟨fun σ H'=>∃ (fs:List Int) (cv:Option V),σ=[some (.ref a),some (.ref l),some (.int st),some (.ref f),some (.int ((pl:Int)+1)),cv]∧Same H H'∧H' f=some (.lst (fs.map V.int))∧BI h w cs st fs (pl+1),
      fun σ' H' ⟨fs',cv',e,s',e',B'⟩=>⟨_,by omega,fs',pl+1,cv',by rw [e]; rfl,s',e',B',rfl⟩,?_⟩
     walk_at "w"
     rw [uW e1]
     refine aL (jz (by omega) (by omega)) ?_
     walk_at "w"
     rw [show ((pl:Int)).toNat=pl from Int.toNat_natCast _,bW hx]
     refine ⟨a,h,w,g,x,rfl,s1 _ _ ha,w0,w1,fun b H2 s2 hb e2=>?_⟩
     have s12:=s1.trans s2
     refine ⟨b,rfl,⟨_,SqL.of e2⟩,fM (K:=K) (xs:=(besL h w x).map V.int) (fun i σ H'=>∃ (f2:List Int) (cv:Option V),σ=[some (.ref a),some (.ref l),some (.int st),some (.ref f),some (.int pl),cv]∧Same H H'∧H' b=some (.lst ((besL h w x).map V.int))∧H' f=some (.lst (f2.map V.int))∧BJ h w cs st fs pl ((besL h w x).take i) f2)
      ⟨fs,cv,rfl,s12,e2,s2 _ _ e1,BJ.zero B⟩ (fun i σ H' _ ⟨_,_,_,_,q,_⟩=>SqL.of q) ?_ ?_⟩
     · rintro i y σ H3 hy ⟨f2,cv2,rfl,s3,eb,ef,J⟩
       rw [List.getElem?_map] at hy
       cases hz:(besL h w x)[i]? with
       | none=>rw [hz] at hy; cases hy
       | some z=>
        rw [hz] at hy
        cases hy
        have hlen2:f2.length≤63:=Nat.le_trans (jy J.nd fun x hx=>(J.rc x hx).mem) hn
        have hmem:z∈besL h w x:=List.mem_of_getElem? hz
        have htake:(besL h w x).take (i+1)=(besL h w x).take i++[z]:=by rw [List.take_add_one,hz]; rfl
        have J2:=J.more rx hmem
        rw [← htake] at J2
        walk_at "w"
        rw [aT]
        walk_at "w"
        rw [rR (s3 _ _ hl)]
        walk_at "w"
        have fin:∀ H4:Hp,H4 f=some (.lst ((addC cs f2 z).map V.int))→(∀ c,c≠f→H4 c=H3 c)→∃ (f2:List Int) (cv:Option V),[some (V.ref a),some (.ref l),some (.int st),some (.ref f),some (.int pl),some (.int z)]=[some (.ref a),some (.ref l),some (.int st),some (.ref f),some (.int pl),cv]∧Same H H4∧H4 b=some (.lst ((besL h w x).map V.int))∧H4 f=some (.lst (f2.map V.int))∧BJ h w cs st fs pl ((besL h w x).take (i+1)) f2:=fun H4 q1 q2=>
         ⟨_,_,rfl,fun c o e=>by rw [q2 c (au e hf)]; exact s3 c o e,by rw [q2 b (fun e=>by rw [e] at hb; rw [e1] at hb; cases hb)]; exact eb,q1,J2⟩
        by_cases c1:z∈cs
        · rw [if_pos (by simpa using c1)]
          rw [uX ef]
          by_cases c2:z∈f2
          · simp only [c2,decide_true,Bool.not_true,if_neg Bool.false_ne_true,V.bl.injEq,exists_eq_left']
            refine fin H3 ?_ fun _ _=>rfl
            rw [ef,addC,if_neg (fun q=>q.2 c2)]
          · simp only [c2,decide_false,Bool.not_false,if_true,V.bl.injEq,exists_eq_left']
            walk_at "w"
            refine ⟨eE ef,?_⟩
            rw [g5 ef]
            refine ⟨by rw [List.length_map]; exact aD (by omega),fin _ ?_ fun c hc=>ai hc⟩
            rw [ae,addC,if_pos ⟨c1,c2⟩]
            simp
        · rw [if_neg (by simpa using c1)]
          try simp only [if_neg Bool.false_ne_true]
          refine fin H3 ?_ fun _ _=>rfl
          rw [ef,addC,if_neg (fun q=>c1 q.1)]
     · rintro σ H3 ⟨f2,cv2,rfl,s3,eb,ef,J⟩
       rw [List.length_map,List.take_length] at J
       walk_at "w"
       exact ⟨f2,cv2,rfl,s3,ef,J.done B hx⟩
   · rw [if_neg (by simpa using hp)]
     walk_at "w"
     unfold kH
     dsimp only
     rw [e1]
     refine ⟨fs,rfl,by omega,fun rs p hpn pm ps=>?_⟩
     refine k p _ rs (s1.laid hpn) (s1.free hpn) ae (tN pm ps B.nd) fun x=>?_
     rw [pm.mem_iff]
     exact B.done hp x
 · rw [if_pos (by simpa using hs)]
   walk_at "w"
   refine ⟨Nat.zero_le _,fun p hp=>k p _ [] ((Same.refl H).laid hp) hp ae .nil fun x=>⟨(fun q=>nomatch q),fun r=>absurd (RC.st r) hs⟩⟩
theorem joinB_iff {h w:Int} {ms:List Int}:joinB h w ms=true↔(ms=[]∨(ms.Pairwise (· < ·)∧∀ x∈ms,RC h w ms (ms.headD 0) x)):=by
 unfold joinB
 exact @decide_eq_true_iff _ (Classical.propDecidable _)
def bx (K:PySem.W.Frag) (c:RCl RK):Sp:=fun vs H Q E=>∃ k,bR K c k vs H Q E
theorem jM {K:PySem.W.Frag} {c:RCl RK} {vs:List V} {H:Hp} {Q:VK} {E:XK} (h:bx K c vs H Q E):vs.length=2:=by
 obtain ⟨_,_,_,_,_,_,_,_,_,_,_,_,rfl,_⟩:=h; rfl
def bT (K:PySem.W.Frag) (c:RCl RK):TS:=
 (tRet (tOrV (tOp (cEq K) (tVar 1) (tLst tNil)) (tOp (cEq K) (tCall (dO K) [] E0 (tCons (tFldK c (tVar 0) "floor") (tCons (tVar 1) (tCons (tOp cIx (tVar 1) (tC (.int 0))) tNil)))) (tVar 1))))
theorem jN {K:PySem.W.Frag} {c:RCl RK} {vs:List V} {H:Hp} {Q:VK} {E:XK} (h:bx K c vs H Q E):bT K c { nx:=fun _ H'=>Q .non H',rt:=Q } (start ["self","cells"] vs) H:=by
 obtain ⟨k,r,p,C,ws,cs,ms,n,m,h,w,g,rfl,x,ha,F,hC,hn,q⟩:=h
 obtain ⟨h0,h1',w0,w1,m16,g0,g1⟩:=id F
 obtain ⟨dx,W,C',h1,h2,h3⟩:=x.ex
 show bT K c _ [some (.ref r),some (.ref C)] H
 unfold bT
 walk_at "w"
 refine ⟨aH (by show (0:Nat)≤1000; decide),fun l hl=>?_⟩
 have s1:Same H (upd H l (.lst [])):=(Same.refl H).laid hl
 have el:(upd H l (.lst [])) l=some (.lst (([]:List Int).map V.int)):=ae
 generalize upd H l (.lst [])=H1 at*
 refine rS (s1 _ _ hC) el ?_
 walk_at "w"
 cases ms with
 | nil=>
  have e:joinB h w []=true:=joinB_iff.mpr (.inl rfl)
  have:=q _ s1
  rw [e] at this
  rw [decide_eq_true rfl,if_pos rfl]
  exact this
 | cons z zs=>
  rw [decide_eq_false (by simp),if_neg (by decide)]
  refine fldE rfl x.ok (s1 _ _ h1) (v:=.ref p) (by rfl) ?_
  walk_at "w"
  refine ixL (s1 _ _ hC) (v:=V.int z) (gU (j:=0) rfl) ?_
  walk_at "w"
  refine ⟨p,C,h,w,g,z,z::zs,rfl,s1 _ _ ha,by omega,by omega,s1 _ _ hC,hn,fun u H2 rs s2 hu eu rise mem=>?_⟩
  refine rS eu (s2 _ _ (s1 _ _ hC)) ?_
  have e:decide (rs=z::zs)=joinB h w (z::zs):=by
   rw [Bool.eq_iff_iff,decide_eq_true_eq,joinB_iff]
   constructor
   · intro e
     subst e
     exact .inr ⟨rise,fun x hx=>(mem x).mp hx⟩
   · rintro (e | ⟨rise2,all⟩)
     · cases e
     · exact l9 rise rise2 fun y=>⟨fun hy=>((mem y).mp hy).mem,fun hy=>(mem y).mpr (all y hy)⟩
  rw [e]
  exact q _ (s1.trans s2)
def db (K:PySem.W.Frag) (c:RCl RK):Sp:=bK K c .Joined
theorem mI {K:PySem.W.Frag} {c:RCl RK} {vs:List V} {H:Hp} {Q:VK} {E:XK} (h:db K c vs H Q E):vs.length=2:=by
 obtain ⟨_,_,_,_,_,_,_,_,_,_,_,rfl,_⟩:=h; rfl
def dc (K:PySem.W.Frag) (c:RCl RK):TS:=
 (tRet (aQ c c.ok "is_joined" (bR K c) (tVar 0) (tCons (aQ c c.ok "marked" (bt K c) (tVar 0) (tCons (tVar 1) tNil)) tNil)))
theorem t6 {xs cs:List Int} {m:Int} (hn:cs.length≤63):(mkAt xs cs m).length≤63:=by
 unfold mkAt
 exact Nat.le_trans (List.length_filter_le _ _) hn
theorem mJ {K:PySem.W.Frag} {c:RCl RK} {vs:List V} {H:Hp} {Q:VK} {E:XK} (h:db K c vs H Q E):dc K c { nx:=fun _ H'=>Q .non H',rt:=Q } (start ["self","filling"] vs) H:=by
 obtain ⟨r,p,f,ws,cs,xs,n,m,h,w,g,rfl,x,ha,F,hf,hC,hx,q⟩:=h
 obtain ⟨dx,W,C,h1,h2,h3⟩:=x.ex
 show dc K c _ [some (.ref r),some (.ref f)] H
 unfold dc
 walk_at "w"
 refine methE rfl x.ok h1 (by rfl) ?_
 walk_at "w"
 refine methE rfl x.ok h1 (by rfl) ?_
 walk_at "w"
 refine ⟨r,p,f,ws,cs,xs,n,m,rfl,x,hf,hC,fun l H1 s1 hl el=>?_⟩
 exact ⟨r,p,l,ws,cs,_,n,m,h,w,g,rfl,x.same s1,s1 _ _ ha,F,el,t6 hC.1,fun H2 s2=>q _ (s1.trans s2)⟩
def bD (K:PySem.W.Frag) (c:RCl RK):Sp:=ce K c .Ring
theorem iZ {K:PySem.W.Frag} {c:RCl RK} {vs:List V} {H:Hp} {Q:VK} {E:XK} (h:bD K c vs H Q E):vs.length=3:=by
 obtain ⟨_,_,_,_,_,_,_,_,_,_,_,_,rfl,_⟩:=h; rfl
def bE (K:PySem.W.Frag) (c:RCl RK):TS:=
 (tRet (tOp (cEq K) (tCB kLen (tCons (tComp [none,none,some 1] (iList K (tCall (cB K) [] E0 (tCons (tFldK c (tVar 0) "floor") (tCons (tVar 2) tNil)))) (gName 1) (tTest (tOp (cIn K false) (tVar 1) (tVar 2))) (tVar 1)) tNil)) (tC (.int 2))))
theorem vL (h w c:Int):(besL h w c).length≤4:=by
 unfold besL
 repeat rw [List.length_append]
 split <;> split <;> split <;> split <;> simp
theorem i0 {K:PySem.W.Frag} {c:RCl RK} {vs:List V} {H:Hp} {Q:VK} {E:XK} (h:bD K c vs H Q E):bE K c { nx:=fun _ H'=>Q .non H',rt:=Q } (start ["self","cells","cell"] vs) H:=by
 obtain ⟨r,p,C,ws,cs,ms,n,m,h,w,g,z,rfl,x,ha,F,hC,hn,q⟩:=h
 obtain ⟨h0,h1',w0,w1,m16,g0,g1⟩:=id F
 obtain ⟨dx,W,C',h1,h2,h3⟩:=x.ex
 show bE K c _ [some (.ref r),some (.ref C),some (.int z)] H
 unfold bE
 walk_at "w"
 refine fldE rfl x.ok h1 (v:=.ref p) (by rfl) ?_
 walk_at "w"
 refine ⟨p,h,w,g,z,rfl,ha,by omega,by omega,fun b H2 s2 hb e2=>?_⟩
 have bl:=vL h w z
 refine ⟨b,rfl,⟨_,SqL.of e2⟩,?_⟩
 refine jA (xs:=besL h w z) (fun y=>decide (y∈ms)) (fun y=>y) (by omega) (SqL.of e2) ?_ ?_ ?_
 · intro y H3 R hy s3 k3
   show tTest _ [none,some (.int y),some (.ref C)] H3 R
   walk_at "w"
   rw [rR (s3 _ _ (s2 _ _ hC))]
   exact ⟨_,rfl,k3 _ (Same.refl _)⟩
 · intro y H3 Q3 hy hb s3 k3
   exact ⟨_,rfl,k3 _ (Same.refl _)⟩
 · intro l H3 hl s3 el
   rw [List.map_id'] at el
   walk_at "w"
   rw [fi el,List.length_map]
   walk_at "w"
   have:=q _ (s2.trans s3)
   unfold twoB at this
   have e:decide ((((besL h w z).filter fun y=>decide (y∈ms)).length:Int)=2)=decide (((besL h w z).filter fun y=>decide (y∈ms)).length=2):=by
    rw [Bool.eq_iff_iff,decide_eq_true_eq,decide_eq_true_eq]
    omega
   rw [e]
   exact this
def ei (K:PySem.W.Frag) (c:RCl RK):Sp:=bK K c .Ring
theorem o4 {K:PySem.W.Frag} {c:RCl RK} {vs:List V} {H:Hp} {Q:VK} {E:XK} (h:ei K c vs H Q E):vs.length=2:=by
 obtain ⟨_,_,_,_,_,_,_,_,_,_,_,rfl,_⟩:=h; rfl
def ej (K:PySem.W.Frag) (c:RCl RK):TS:=
 (tSeq (tAsg (aQ c c.ok "marked" (bt K c) (tVar 0) (tCons (tVar 1) tNil)) (gName 2))
  (tRet (tAndV (aQ c c.ok "is_joined" (bR K c) (tVar 0) (tCons (tVar 2) tNil)) (tCB kAll (tCons (tComp [none,none,some 2,some 0] (iList K (tVar 2)) (gName 1) tTrue (aQ c c.ok "has_two_beside" (ce K c) (tVar 3) (tCons (tVar 2) (tCons (tVar 1) tNil)))) tNil)))))
theorem o5 {K:PySem.W.Frag} {c:RCl RK} {vs:List V} {H:Hp} {Q:VK} {E:XK} (h:ei K c vs H Q E):ej K c { nx:=fun _ H'=>Q .non H',rt:=Q } (start ["self","filling","cells"] vs) H:=by
 obtain ⟨r,p,f,ws,cs,xs,n,m,h,w,g,rfl,x,ha,F,hf,hC,hx,q⟩:=h
 obtain ⟨dx,W,C,h1,h2,h3⟩:=x.ex
 show ej K c _ [some (.ref r),some (.ref f),none] H
 unfold ej
 walk_at "w"
 refine methE rfl x.ok h1 (by rfl) ?_
 walk_at "w"
 refine ⟨r,p,f,ws,cs,xs,n,m,rfl,x,hf,hC,fun l H1 s1 hl el=>?_⟩
 have hml:=t6 (xs:=xs) (m:=m) hC.1
 have q1:∀ H',Same H H'→Q (.bl (joinB h w (mkAt xs cs m)&&(mkAt xs cs m).all (twoB h w (mkAt xs cs m)))) H':=q
 generalize mkAt xs cs m=ms at*
 walk_at "w"
 refine methE rfl x.ok (s1 _ _ h1) (by rfl) ?_
 walk_at "w"
 refine ⟨r,p,l,ws,cs,ms,n,m,h,w,g,rfl,x.same s1,s1 _ _ ha,F,el,hml,fun H2 s2=>?_⟩
 have s12:=s1.trans s2
 walk_at "w"
 cases hj:joinB h w ms with
 | false=>
  rw [hj] at q1
  first | exact iteF (q1 _ s12) | exact q1 _ s12
 | true=>
  rw [hj] at q1
  refine iteT ?_
  refine ⟨⟨_,SqL.of (s2 _ _ el)⟩,?_⟩
  refine cF (xs:=ms.map V.int) (fun _=>true) (fun i=>.bl (twoB h w ms (ms.getD i 0))) (by rw [List.length_map]; omega) (SqL.of (s2 _ _ el)) ?_ ?_ ?_
  · intro i y H3 R hy s3 k3
    exact k3 _ (Same.refl _)
  · intro i y H3 Q3 hy hb s3 k3
    rw [List.getElem?_map] at hy
    cases e:ms[i]? with
    | none=>rw [e] at hy; cases hy
    | some z=>
     rw [e] at hy
     cases hy
     have s13:=s12.trans s3
     have eg:ms.getD i 0=z:=by rw [List.getD,e]; rfl
     show aQ _ _ _ _ _ _ [none,some (.int z),some (.ref l),some (.ref r)] H3 Q3
     refine methE rfl x.ok (s13 _ _ h1) (by rfl) ?_
     walk_at "w"
     refine ⟨r,p,l,ws,cs,ms,n,m,h,w,g,z,rfl,x.same s13,s13 _ _ ha,F,s3 _ _ (s2 _ _ el),hml,fun H4 s4=>?_⟩
     have:=k3 H4 s4
     rw [eg] at this
     exact this
  · intro l2 H3 hl2 s3 el2
    rw [bi,List.length_map] at el2
    refine jx (bs:=(List.range ms.length).map fun i=>twoB h w ms (ms.getD i 0)) (by rw [el2,List.map_map]; rfl) ?_
    have e:((List.range ms.length).map fun i=>twoB h w ms (ms.getD i 0)).all id=ms.all (twoB h w ms):=by
     have em:(List.range ms.length).map (fun i=>ms.getD i 0)=ms:=by
      refine List.ext_getElem (by simp) fun i h1 h2=>?_
      simp at h1
      simp [List.getD,List.getElem?_eq_getElem h1]
     have e2:(List.range ms.length).map (fun i=>twoB h w ms (ms.getD i 0))=ms.map (twoB h w ms):=by
      rw [← em,List.map_map,em]
      rfl
     rw [e2,List.all_map]
     rfl
    rw [e]
    exact q1 _ (s12.trans s3)
section
variable {K:PySem.W.Frag} {g:TG} {σ:St} {H:Hp} {ta:TA} {Q:VK} {ix:List (Option Nat)} {tt:TT} {te:TE}
theorem rz:tComp ix (iZip K ta) g tt te σ H Q=ta σ H fun vs H1=>∃ a b,vs=[.ref a,.ref b]∧(∃ xs,SqL K H1 a xs)∧(∃ ys,SqL K H1 b ys)∧CompR (Itz K a b) g tt te (fun l H'=>Q (.ref l) H') (subσ ix σ) H1:=rfl
theorem t7 {a b:Addr} {xs ys:List V} {fin:Addr→Hp→Prop} {σ0:St} {H1:Hp} {k1 k2:Nat} (f:Nat→V) (hn:xs.length≤900) (hlen:xs.length=ys.length) (hne:k1≠k2) (hq1:SqL K H1 a xs) (hq2:SqL K H1 b ys)
  (he:∀ (i:Nat) x y H Q,xs[i]? =some x→ys[i]? =some y→Same H1 H→(∀ H',Same H H'→Q (f i) H')→te ((σ0.set k1 (some x)).set k2 (some y)) H Q)
  (hd:∀ l H,H1 l=none→Same H1 H→H l=some (.lst ((List.range xs.length).map f))→fin l H):
  CompR (Itz K a b) (gTup K 2 (gCons (gName k1) (gCons (gName k2) gNil))) tTrue te fin σ0 H1:=by
 intro l hl
 have hP0:(upd H1 l (.lst [])) l=some (.lst ((List.range 0).map f)):=by rw [ae]; rfl
 refine ⟨fun i m σ H=>m=xs.length - i∧i≤xs.length∧(σ=σ0∨∃ c1 c2,σ=(σ0.set k1 c1).set k2 c2)∧Same H1 H∧H l=some (.lst ((List.range i).map f)),⟨xs.length,by simp,Nat.zero_le _,.inl rfl,(Same.refl H1).laid hl,hP0⟩,?_⟩
 rintro i m σ H ⟨rfl,hi,hσ,s1,el⟩
 by_cases hlt:i < xs.length
 · have hlt2:i < ys.length:=by omega
   refine .inr ⟨⟨xs,ys,xs[i],ys[i],s1.seq hq1,s1.seq hq2,by simp [hlt],by simp [hlt2]⟩,fun σ' H'=>(σ'=σ0∨∃ c1 c2,σ'=(σ0.set k1 c1).set k2 c2)∧Same H1 H'∧H' l=some (.lst ((List.range (i+1)).map f)),fun σ' H' p'=>⟨xs.length - (i+1),by omega,rfl,hlt,p'⟩,fun v H' y=>?_⟩
   obtain ⟨T,x,y,rfl,hT,rfl,e1,e2⟩:=y
   have hx:=e1 xs (s1.seq hq1)
   have hy:=e2 ys (s1.seq hq2)
   have sT:Same H (upd H T (.tup [x,y])):=(Same.refl H).laid hT
   refine ⟨T,_,rfl,SqT.of ae,rfl,_,_,rfl,_,_,rfl,rfl,?_⟩
   have e:(σ.set k1 (some x)).set k2 (some y)=(σ0.set k1 (some x)).set k2 (some y):=by
    rcases hσ with rfl | ⟨c1,c2,rfl⟩
    · rfl
    · rw [List.set_comm _ _ (Ne.symm hne),List.set_set,List.set_set,List.set_comm _ _ hne]
   show tTrue ((σ.set k1 (some x)).set k2 (some y)) _ _
   rw [e,dk,if_pos rfl]
   have s12:=s1.trans sT
   refine he i x y _ _ hx hy s12 fun H3 s3=>⟨_,s3 _ _ (sT _ _ el),by rw [List.length_map,List.length_range]; exact aD (by omega),.inr ⟨_,_,rfl⟩,(s12.trans s3).own hl,?_⟩
   rw [ae,List.range_succ,List.map_append]
   rfl
 · have e:i=xs.length:=by omega
   subst e
   exact .inl ⟨⟨xs,ys,s1.seq hq1,s1.seq hq2,.inl (Nat.le_refl _)⟩,hd l H hl s1 el⟩
end
theorem qU {n:Nat} {b:Nat→Bool}:(List.range n).map (fun i=>V.bl (b i))=((List.range n).map b).map V.bl:=by rw [List.map_map]; rfl
theorem t8 {n:Nat} {b:Nat→Bool}:((List.range n).map b).all id=(List.range n).all b:=by rw [List.all_map]; rfl
def cluB (cl xs:List Int):Bool:=(List.range cl.length).all fun i=>decide (cl.getD i 0=0)||decide (cl.getD i 0=xs.getD i 0)
noncomputable def rowsB (h w:Int) (rows:List RR) (xs:List Int):Bool:=rows.all fun r=>hoB r.k h w r.cs r.n r.m xs
noncomputable def metB (h w g:Int) (rows:List RR) (cl xs:List Int):Bool:=filB 1 g (h*w).toNat xs&&(cluB cl xs&&rowsB h w rows xs)
def fC (K:PySem.W.Frag) (c:RCl RK) (d:RCl PzK) (_:PzK):Sp:=fun vs H Q _=>∃ (P L G f:Addr) (h w g:Int) (rows:List RR) (cl xs:List Int),vs=[.ref P,.ref f]∧IsPz H c d P L G h w g rows cl∧H f=some (.lst (xs.map V.int))∧xs.length=cl.length∧∀ H',Same H H'→Q (.bl (cluB cl xs)) H'
def bU (K:PySem.W.Frag) (c:RCl RK) (d:RCl PzK):Sp:=fC K c d .Puzzle
theorem jO {K:PySem.W.Frag} {c:RCl RK} {d:RCl PzK} {vs:List V} {H:Hp} {Q:VK} {E:XK} (h:bU K c d vs H Q E):vs.length=2:=by
 obtain ⟨_,_,_,_,_,_,_,_,_,_,rfl,_⟩:=h; rfl
def bV (K:PySem.W.Frag) (c:RCl RK) (d:RCl PzK):TS:=
 (tRet (tCB kAll (tCons (tComp [none,none,none] (iZip K (tCons (tFldK d (tVar 0) "given") (tCons (tVar 1) tNil))) (gTup K 2 (gCons (gName 1) (gCons (gName 2) gNil))) tTrue (tOrV (tOp (cEq K) (tVar 1) (tC (.int 0))) (tOp (cEq K) (tVar 1) (tVar 2)))) tNil)))
theorem jP {K:PySem.W.Frag} {c:RCl RK} {d:RCl PzK} {vs:List V} {H:Hp} {Q:VK} {E:XK} (h:bU K c d vs H Q E):bV K c d { nx:=fun _ H'=>Q .non H',rt:=Q } (start ["self","filling"] vs) H:=by
 obtain ⟨P,L,G,f,h,w,g,rows,cl,xs,rfl,x,hf,hl,q⟩:=h
 obtain ⟨dx,p,rs,h1,h2,h3⟩:=x.ex
 have hcl:cl.length≤16:=by have:=x.C.len; have:=x.R.F.m; omega
 show bV K c d _ [some (.ref P),some (.ref f)] H
 unfold bV
 walk_at "w"
 rw [rz,dj]
 refine fldE (k:=.Puzzle) rfl x.ok h1 (v:=.ref G) (by rfl) ?_
 walk_at "w"
 refine ⟨G,f,rfl,⟨_,SqL.of x.gv⟩,⟨_,SqL.of hf⟩,?_⟩
 refine t7 (xs:=cl.map V.int) (ys:=xs.map V.int) (fun i=>.bl (decide (cl.getD i 0=0)||decide (cl.getD i 0=xs.getD i 0))) (by rw [List.length_map]; omega) (by simp [hl]) (by decide) (SqL.of x.gv) (SqL.of hf) ?_ ?_
 · intro i u v H1 Q1 hu hv s1 k1
   obtain ⟨cz,hcz,rfl⟩:=bj hu
   obtain ⟨z,hz,rfl⟩:=bj hv
   have q1:=k1 _ (Same.refl H1)
   rw [bW hcz,bW hz] at q1
   show tOrV _ _ [none,some (.int cz),some (.int z)] H1 Q1
   walk_at "w"
   cases hb:decide (cz=0) with
   | true=>
    rw [hb,Bool.true_or] at q1
    exact iteT q1
   | false=>
    rw [hb,Bool.false_or] at q1
    exact iteF q1
 · intro l H1 hl1 s1 el
   rw [qU] at el
   refine jx el ?_
   rw [t8,List.length_map]
   exact q _ s1
theorem uN {least g:Int} {n:Nat} {xs:List Int} (h:filB least g n xs=true):xs.length=n∧∀ x∈xs,least≤x∧x≤g:=by
 unfold filB at h
 rw [Bool.and_eq_true,decide_eq_true_eq,List.all_eq_true] at h
 refine ⟨h.1,fun x hx=>?_⟩
 have:=h.2 x hx
 rw [Bool.and_eq_true,decide_eq_true_eq,decide_eq_true_eq] at this
 exact this
theorem RR.cin {r:RR} {h w g:Int} (O:r.Ok h w g) (F:FlOk h w g):jp r.cs (h*w).toNat:=by
 obtain ⟨h0,h1,w0,w1,m16,g0,g1⟩:=id F
 have mpos:0≤h*w:=Int.mul_nonneg (by omega) (by omega)
 cases hk:allK r.k with
 | false=>
  obtain ⟨c1,c2,c3,c4,e⟩:=O.cl.told hk
  rw [e]
  refine ⟨by rw [List.length_map]; omega,fun c hc=>?_⟩
  obtain ⟨n,hn,rfl⟩:=List.mem_map.mp hc
  have:=c3 n hn
  omega
 | true=>
  obtain ⟨_,e⟩:=O.cl.all hk
  rw [e]
  refine ⟨by rw [dt]; omega,fun c hc=>?_⟩
  have:=vG hc
  omega
def jC (K:PySem.W.Frag) (c:RCl RK) (d:RCl PzK) (_:PzK):Sp:=fun vs H Q _=>∃ (P L G f:Addr) (h w g:Int) (rows:List RR) (cl xs:List Int),vs=[.ref P,.ref f]∧IsPz H c d P L G h w g rows cl∧H f=some (.lst (xs.map V.int))∧xs.length≤100∧∀ H',Same H H'→Q (.bl (metB h w g rows cl xs)) H'
def de (K:PySem.W.Frag) (c:RCl RK) (d:RCl PzK):Sp:=jC K c d .Puzzle
theorem mK {K:PySem.W.Frag} {c:RCl RK} {d:RCl PzK} {vs:List V} {H:Hp} {Q:VK} {E:XK} (h:de K c d vs H Q E):vs.length=2:=by
 obtain ⟨_,_,_,_,_,_,_,_,_,_,rfl,_⟩:=h; rfl
def gC (K:PySem.W.Frag) (c:RCl RK) (d:RCl PzK):TS:=
 (tRet (tCB kAll (tCons (tComp [none,none,some 1] (iList K (tFldK d (tVar 0) "laws")) (gName 1) tTrue (aQ c c.ok "holds" (bK K c) (tVar 1) (tCons (tVar 2) tNil))) tNil)))
def df (K:PySem.W.Frag) (c:RCl RK) (d:RCl PzK):TS:=
 (tSeq (tIfS (tOr (tNot (tB (tCall (bu K) [] E0 (tCons (tFldK d (tVar 0) "floor") (tCons (tVar 1) (tCons (tC (.int 1)) tNil)))))) (tNot (tB (aQ d d.ok "has_clues" (fC K c d) (tVar 0) (tCons (tVar 1) tNil))))) (tRet (tC (.bl false))) tNext)
  (gC K c d))
theorem sm {K:PySem.W.Frag} {c:RCl RK} {H:Hp} {p L f:Addr} {rs:List Addr} {rows:List RR} {h w g:Int} {xs:List Int} {fin:Addr→Hp→Prop} (X:IsRules H c p L rs rows) (R:ik c h w g rows) (hp:IsFl H p h w g) (hf:H f=some (.lst (xs.map V.int))) (hl:xs.length=(h*w).toNat) (hx:∀ x∈xs,0≤x∧x≤1000)
  (hd:∀ l H',H l=none→Same H H'→H' l=some (.lst ((rows.map fun r=>hoB r.k h w r.cs r.n r.m xs).map V.bl))→fin l H'):CompR (Itl K L) (gName 1) tTrue (aQ c c.ok "holds" (bK K c) (tVar 1) (tCons (tVar 2) tNil)) fin [none,none,some (.ref f)] H:=by
 have hn:=R.n
 have hlen:=X.len
 refine cF (xs:=rs.map V.ref) (fun _=>true) (fun i=>.bl ((rows.map fun r=>hoB r.k h w r.cs r.n r.m xs).getD i true)) (by rw [List.length_map]; omega) (SqL.of X.top) ?_ ?_ ?_
 · intro i x H1 R hx s1 k1
   exact k1 _ (Same.refl _)
 · intro i x H1 Q1 hi hb s1 k1
   rw [List.getElem?_map] at hi
   cases e:rs[i]? with
   | none=>rw [e] at hi; cases hi
   | some r=>
    rw [e] at hi
    cases hi
    have hi:=(List.getElem?_eq_some_iff.mp e).1
    have er:rows[i]? =some rows[i]:=List.getElem?_eq_getElem (by omega)
    have X1:=X.at_ i r _ e er
    obtain ⟨dx,W,C,h1,h2,h3⟩:=X1.ex
    have eg:(rows.map fun r=>hoB r.k h w r.cs r.n r.m xs).getD i true=hoB rows[i].k h w rows[i].cs rows[i].n rows[i].m xs:=by rw [List.getD,List.getElem?_map,er]; rfl
    rw [eg] at k1
    have O:=R.ok _ (List.mem_of_getElem? er)
    show aQ c c.ok "holds" _ _ _ [none,some (.ref r),some (.ref f)] H1 Q1
    refine methE (k:=rows[i].k) rfl X1.ok (s1 _ _ h1) (by rfl) ?_
    walk_at "w"
    exact ⟨r,p,f,_,_,xs,_,_,h,w,g,rfl,X1.same s1,s1 _ _ hp,R.F,s1 _ _ hf,by rw [hl]; exact RR.cin O R.F,hx,k1⟩
 · intro l H1 hl1 s1 el
   refine hd l H1 hl1 s1 ?_
   rw [el,bi,List.length_map,hlen]
   congr 2
   refine List.ext_getElem? fun i=>?_
   rw [List.getElem?_map,List.getElem?_map,List.getElem?_map]
   by_cases h:i < rows.length
   · rw [List.getElem?_range h,List.getElem?_eq_getElem h]
     simp [List.getD,h]
   · rw [List.getElem?_eq_none (by simpa using h),List.getElem?_eq_none (by omega)]; rfl
theorem mL {K:PySem.W.Frag} {c:RCl RK} {d:RCl PzK} {vs:List V} {H:Hp} {Q:VK} {E:XK} (h:de K c d vs H Q E):df K c d { nx:=fun _ H'=>Q .non H',rt:=Q } (start ["self","filling"] vs) H:=by
 obtain ⟨P,L,G,f,h,w,g,rows,cl,xs,rfl,x,hf,hl,q⟩:=h
 obtain ⟨dx,p,rs,h1,h2,h3⟩:=x.ex
 have hg:=x.R.F.g1
 show df K c d _ [some (.ref P),some (.ref f)] H
 unfold df
 rw [bd,aT]
 walk_at "w"
 refine fldE (k:=.Puzzle) rfl x.ok h1 (v:=.ref p) (by rfl) ?_
 walk_at "w"
 refine ⟨p,f,h,w,g,1,xs,rfl,h2,x.R.F,hf,hl,fun H1 s1=>?_⟩
 unfold metB at q
 cases hb:filB 1 g (h*w).toNat xs with
 | false=>
  rw [hb,Bool.false_and] at q
  refine ⟨false,rfl,iteT ?_⟩
  walk_at "w"
  exact q _ s1
 | true=>
  rw [hb,Bool.true_and] at q
  obtain ⟨b1,b2⟩:=uN hb
  refine ⟨true,rfl,iteF ?_⟩
  walk_at "w"
  refine methE (k:=.Puzzle) rfl x.ok (s1 _ _ h1) (by rfl) ?_
  walk_at "w"
  refine ⟨P,L,G,f,h,w,g,rows,cl,xs,rfl,x.same s1,s1 _ _ hf,by rw [b1,x.C.len],fun H2 s2=>?_⟩
  have s12:=s1.trans s2
  cases hc:cluB cl xs with
  | false=>
   rw [hc,Bool.false_and] at q
   refine ⟨false,rfl,iteT ?_⟩
   walk_at "w"
   exact q _ s12
  | true=>
   rw [hc,Bool.true_and] at q
   refine ⟨true,rfl,iteF ?_⟩
   unfold gC
   walk_at "w"
   refine fldE (k:=.Puzzle) rfl x.ok (s12 _ _ h1) (v:=.ref L) (by rfl) ?_
   refine ⟨L,rfl,⟨_,SqL.of (s12 _ _ h3.top)⟩,?_⟩
   refine sm (h3.same s12) x.R (s12 _ _ h2) (s12 _ _ hf) b1 (fun y hy=>by have:=b2 y hy; omega) fun l H3 hl3 s3 el=>?_
   refine jx el ?_
   have ea:(rows.map fun r=>hoB r.k h w r.cs r.n r.m xs).all id=rowsB h w rows xs:=by unfold rowsB; rw [List.all_map]; rfl
   rw [ea]
   exact q _ (s12.trans s3)
theorem qk {α:Type} (F:Int→α) (ss:List Int):(List.range ss.length).map (fun i=>F (ss.getD i 0))=ss.map F:=by
 refine List.ext_getElem? fun i=>?_
 rw [List.getElem?_map,List.getElem?_map]
 by_cases h:i < ss.length
 · rw [List.getElem?_range h,List.getElem?_eq_getElem h]
   simp [List.getD,h]
 · rw [List.getElem?_eq_none (by simpa using h),List.getElem?_eq_none (by omega)]; rfl
def extL (fs:List (List Int)) (ss:List Int):List (List Int):=fs.flatMap fun f=>ss.map fun s=>f++[s]
def b7 (sss:List (List Int)):List (List Int):=sss.foldl extL [[]]
def prodL (sss:List (List Int)):Nat:=sss.foldl (fun n ss=>n*ss.length) 1
theorem lD (ss:List Int):∀ fs:List (List Int),(extL fs ss).length=fs.length*ss.length
 | []=>by simp [extL]
 | f::r=>by
  have ih:=lD ss r
  unfold extL at ih ⊢
  rw [List.flatMap_cons,List.length_append,ih,List.length_map,List.length_cons,Nat.succ_mul,Nat.add_comm]
theorem uO (fs gs:List (List Int)) (ss:List Int):extL (fs++gs) ss=extL fs ss++extL gs ss:=by
 unfold extL; rw [List.flatMap_append]
theorem ql (f:List Int) (ss:List Int):extL [f] ss=ss.map fun s=>f++[s]:=by
 unfold extL; simp
theorem qm:∀ (sss fs:List (List Int)),(sss.foldl extL fs).length=sss.foldl (fun n ss=>n*ss.length) fs.length
 | [],_=>rfl
 | ss::r,fs=>by
  rw [List.foldl_cons,qm r,List.foldl_cons,lD]
theorem mM (sss:List (List Int)):(b7 sss).length=prodL sss:=qm sss [[]]
theorem rA:∀ (sss:List (List Int)) (n:Nat),(∀ ss∈sss,1≤ss.length)→n≤sss.foldl (fun n ss=>n*ss.length) n
 | [],_,_=>Nat.le_refl _
 | ss::r,n,h=>by
  rw [List.foldl_cons]
  exact Nat.le_trans (Nat.le_mul_of_pos_right n (h ss List.mem_cons_self)) (rA r _ fun x hx=>h x (List.mem_cons_of_mem _ hx))
theorem t9 {sss:List (List Int)} (i:Nat) (h:∀ ss∈sss,1≤ss.length):prodL (sss.take i)≤prodL sss:=by
 have e:prodL sss=(sss.drop i).foldl (fun n ss=>n*ss.length) (prodL (sss.take i)):=by
  unfold prodL
  rw [← List.foldl_append,List.take_append_drop]
 rw [e]
 exact rA _ _ fun x hx=>h x (List.mem_of_mem_drop hx)
theorem fO {α:Type} {l:List α} {i:Nat} {x:α} (h:l[i]? =some x):l.take (i+1)=l.take i++[x]:=by
 rw [List.take_succ,h]; rfl
theorem ua {sss:List (List Int)} {i:Nat} {ss:List Int} (h:sss[i]? =some ss):b7 (sss.take (i+1))=extL (b7 (sss.take i)) ss:=by
 unfold b7
 rw [fO h,List.foldl_append]; rfl
theorem uP {sss:List (List Int)} {i:Nat} {ss:List Int} (h:sss[i]? =some ss):prodL (sss.take (i+1))=prodL (sss.take i)*ss.length:=by
 unfold prodL
 rw [fO h,List.foldl_append]; rfl
theorem oA:∀ (sss fs:List (List Int)) (n:Nat),(∀ f∈fs,f.length=n)→∀ f∈sss.foldl extL fs,f.length=n+sss.length
 | [],_,_,h,f,hf=>h f hf
 | ss::r,fs,n,h,f,hf=>by
  have:=oA r (extL fs ss) (n+1) (fun f hf=>by
   unfold extL at hf
   obtain ⟨g,hg,hf⟩:=List.mem_flatMap.mp hf
   obtain ⟨s,_,rfl⟩:=List.mem_map.mp hf
   rw [List.length_append,h g hg]; rfl) f hf
  rw [this,List.length_cons]; omega
theorem mO {sss:List (List Int)} {f:List Int} (h:f∈b7 sss):f.length=sss.length:=by
 have:=oA sss [[]] 0 (fun f hf=>by rw [List.mem_singleton.mp hf]; rfl) f h
 omega
theorem IsLL.app {H:Hp} {l:Addr} {as bs:List Addr} {xss yss:List (List Int)} (x:IsLL H l as xss) (nl:l∉as) (nb:l∉bs) (len:bs.length=yss.length) (at2:∀ (j:Nat) (a:Addr) (ys:List Int),bs[j]? =some a→yss[j]? =some ys→H a=some (.lst (ys.map V.int))):
  IsLL (upd H l (.lst (as.map V.ref++bs.map V.ref))) l (as++bs) (xss++yss):=by
 have hx:=x.len
 refine ⟨by rw [ae,List.map_append],by rw [List.length_append,List.length_append,x.len,len],fun j a ys h1 h2=>?_⟩
 by_cases hj:j < as.length
 · rw [List.getElem?_append_left hj] at h1
   rw [List.getElem?_append_left (by omega)] at h2
   have ne:a≠l:=fun z=>nl (z ▸ List.mem_of_getElem? h1)
   rw [ai ne]
   exact x.at_ j a ys h1 h2
 · rw [List.getElem?_append_right (by omega)] at h1
   rw [List.getElem?_append_right (by omega)] at h2
   have ne:a≠l:=fun z=>nb (z ▸ List.mem_of_getElem? h1)
   rw [ai ne]
   exact at2 _ a ys h1 (by rw [hx]; exact h2)
theorem IsLL.get {H:Hp} {l:Addr} {as:List Addr} {xss:List (List Int)} {i:Nat} {a:Addr} (x:IsLL H l as xss) (h:as[i]? =some a):∃ xs,xss[i]? =some xs∧H a=some (.lst (xs.map V.int)):=by
 have hi:=(List.getElem?_eq_some_iff.mp h).1
 have e:xss[i]? =some (xss[i]'(by have:=x.len; omega)):=List.getElem?_eq_getElem _
 exact ⟨_,e,x.at_ i a _ h e⟩
theorem oB {n:Nat} (h:n≤1100):n < sizeLine:=Nat.lt_of_le_of_lt h (by decide)
theorem ub {p q:Addr} {xs ys:List V} {H:Hp} {Q:VK} (hp:H p=some (.lst xs)) (hq:H q=some (.lst ys)) (hn:xs.length+ys.length≤1100) (h:Q .non (upd H p (.lst (xs++ys)))):kJ (.ref p) [.ref q] H Q:=by
 show bnd (unM (H p)) _
 rw [hp]
 show bnd (unM (H q)) _
 rw [hq]
 exact ⟨Nat.le_of_lt (oB hn),h⟩
theorem uQ {K:PySem.W.Frag} {H1:Hp} {S f:Addr} {ss xs:List Int} {fin:Addr→Hp→Prop} (hS:H1 S=some (.lst (ss.map V.int))) (hf:H1 f=some (.lst (xs.map V.int))) (hs:ss.length≤100) (hx:xs.length≤16)
  (hd:∀ m as H',H1 m=none→Same H1 H'→H' m=some (.lst (as.map V.ref))→NewAt H1 H' m as (ss.map fun s=>.lst ((xs++[s]).map V.int))→fin m H'):
  CompR (Itl K S) (gName 1) tTrue (tOp cAdd (tVar 2) (tLst (tCons (tVar 1) tNil))) fin [none,none,some (.ref f)] H1:=by
 refine rT (xs:=ss.map V.int) (fun _=>true) (fun i=>.lst ((xs++[ss.getD i 0]).map V.int)) (by rw [List.length_map]; omega) (SqL.of hS) ?_ ?_ ?_
 · intro i x H R hx s1 k1
   exact k1 _ (Same.refl _)
 · intro i x H Q hi hb s1 k1
   obtain ⟨z,hz,rfl⟩:=bj hi
   rw [bW hz] at k1
   show tOp cAdd _ _ [none,some (.int z),some (.ref f)] H Q
   walk_at "w"
   refine ⟨aH (by show (1:Nat)≤1000; decide),fun t ht=>?_⟩
   have s2:Same H (upd H t (.lst [V.int z])):=(Same.refl H).laid ht
   refine jm (s2 _ _ (s1 _ _ hf)) ae (by simp; omega) fun r hr=>?_
   exact k1 r _ (s2.trans ((Same.refl _).laid hr)) (s2.free hr) (by rw [ae]; simp)
 · intro m as H hm s1 e nw
   refine hd m as H hm s1 e ?_
   rw [bi,List.length_map,qk (fun s=>HO.lst ((xs++[s]).map V.int))] at nw
   exact nw
theorem uR {H0 H1 H2:Hp} {l m:Addr} {as bs:List Addr} {xss:List (List Int)} {xs ss:List Int} (x:IsLL H1 l as xss) (nl:l∉as) (s0:Same H0 H1) (hl:H0 l=none) (fr:∀ b∈as,H0 b=none) (s1:Same H1 H2) (nw:NewAt H1 H2 m bs (ss.map fun s=>.lst ((xs++[s]).map V.int))):
  IsLL (upd H2 l (.lst (as.map V.ref++bs.map V.ref))) l (as++bs) (xss++extL [xs] ss)∧l∉as++bs∧(∀ b∈as++bs,H0 b=none):=by
 have nb:l∉bs:=fun h=>by have:=nw.fr l h; rw [x.top] at this; cases this
 refine ⟨?_,?_,?_⟩
 · refine (x.same s1).app nl nb (by rw [nw.len,ql,List.length_map,List.length_map]) fun j a ys h1 h2=>?_
   refine nw.at_ j a _ h1 ?_
   rw [ql,List.getElem?_map] at h2
   rw [List.getElem?_map]
   cases e:ss[j]? with
   | none=>rw [e] at h2; cases h2
   | some s=>rw [e] at h2; cases h2; rfl
 · intro h
   rcases List.mem_append.mp h with h | h
   · exact nl h
   · exact nb h
 · intro b h
   rcases List.mem_append.mp h with h | h
   · exact fr b h
   · exact s0.free (nw.fr b h)
def cx (K:PySem.W.Frag):Sp:=fun vs H Q _=>∃ (F S:Addr) (as:List Addr) (fss:List (List Int)) (ss:List Int),vs=[.ref F,.ref S]∧IsLL H F as fss∧H S=some (.lst (ss.map V.int))∧fss.length*ss.length≤1100∧ss.length≤100∧(∀ f∈fss,f.length≤16)∧
 ∀ (l:Addr) (bs:List Addr) (H':Hp),Same H H'→H l=none→IsLL H' l bs (extL fss ss)→l∉bs→(∀ b∈bs,H b=none)→Q (.ref l) H'
theorem qo {K:PySem.W.Frag} {vs:List V} {H:Hp} {Q:VK} {E:XK} (h:cx K vs H Q E):vs.length=2:=by
 obtain ⟨_,_,_,_,_,rfl,_⟩:=h; rfl
def fD (K:PySem.W.Frag):TS:=
 (tSeq (tAsg (tLst tNil) (gName 2))
  (tSeq (tFor (iList K (tVar 0)) (gName 3)
  (tDrop (tBM K "list" kJ (tVar 2) (tCons (tComp [none,none,some 3] (iList K (tVar 1)) (gName 1) tTrue (tOp cAdd (tVar 2) (tLst (tCons (tVar 1) tNil)))) tNil))))
  (tRet (tVar 2))))
theorem qp {K:PySem.W.Frag} {vs:List V} {H:Hp} {Q:VK} {E:XK} (h:cx K vs H Q E):fD K { nx:=fun _ H'=>Q .non H',rt:=Q } (start ["fillings","signs","found","filling"] vs) H:=by
 obtain ⟨F,S,as,fss,ss,rfl,x,hS,hn,hs,hf,q⟩:=h
 show fD K _ [some (.ref F),some (.ref S),none,none] H
 unfold fD
 walk_at "w"
 refine ⟨aH (by show (0:Nat)≤1000; decide),fun l hl=>?_⟩
 have s1:Same H (upd H l (.lst [])):=(Same.refl H).laid hl
 have el:(upd H l (.lst [])) l=some (.lst []):=ae
 generalize upd H l (.lst [])=H1 at*
 refine ⟨⟨_,SqL.of (s1 _ _ x.top)⟩,?_⟩
 refine fM (K:=K) (xs:=as.map V.ref) (fun i σ H'=>∃ (v:Option V) (bs:List Addr),σ=[some (.ref F),some (.ref S),some (.ref l),v]∧Same H H'∧IsLL H' l bs (extL (fss.take i) ss)∧l∉bs∧∀ b∈bs,H b=none)
  ⟨none,[],rfl,s1,⟨el,rfl,fun j a xs h1=>by simp at h1⟩,by simp,fun b hb=>nomatch hb⟩ (fun i σ H' _ ⟨_,_,_,s,_⟩=>s.seq (SqL.of x.top)) ?_ ?_
 · rintro i y σ H2 hy ⟨v,bs,rfl,s2,x2,nl,fr⟩
   obtain ⟨f,hfa,rfl⟩:=dZ hy
   obtain ⟨xs,ex,ef⟩:=x.get hfa
   walk_at "w"
   refine ⟨eE x2.top,⟨_,SqL.of (s2 _ _ hS)⟩,?_⟩
   refine uQ (ss:=ss) (xs:=xs) (s2 _ _ hS) (s2 _ _ ef) hs (hf xs (List.mem_of_getElem? ex)) fun m cs H3 hm s3 em nw=>?_
   have hb:bs.length+cs.length≤1100:=by
    have l1:=x2.len
    rw [lD,List.length_take] at l1
    have l2:=nw.len
    rw [List.length_map] at l2
    have hi:=(List.getElem?_eq_some_iff.mp ex).1
    have e1:min i fss.length=i:=by omega
    rw [e1] at l1
    have:=Nat.mul_le_mul_right ss.length (show i+1≤fss.length by omega)
    rw [Nat.succ_mul] at this
    omega
   refine ub (s3 _ _ x2.top) em (by rw [List.length_map,List.length_map]; exact hb) ?_
   obtain ⟨z1,z2,z3⟩:=uR x2 nl s2 hl fr s3 nw
   refine ⟨_,bs++cs,rfl,(s2.trans s3).own hl,?_,z2,z3⟩
   rw [fO ex,uO]
   exact z1
 · rintro σ H2 ⟨v,bs,rfl,s2,x2,nl,fr⟩
   walk_at "w"
   have e:fss.take (as.map V.ref).length=fss:=List.take_of_length_le (by rw [List.length_map,x.len]; exact Nat.le_refl _)
   rw [e] at x2
   exact q l bs H2 s2 hl x2 nl fr
def bB (K:PySem.W.Frag):Sp:=fun vs H Q _=>∃ (A:Addr) (as:List Addr) (sss:List (List Int)),vs=[.ref A]∧IsLL H A as sss∧sss.length≤16∧(∀ ss∈sss,1≤ss.length∧ss.length≤100)∧prodL sss≤1100∧
 ∀ (l:Addr) (bs:List Addr) (H':Hp),Same H H'→H l=none→IsLL H' l bs (b7 sss)→l∉bs→(∀ b∈bs,H b=none)→Q (.ref l) H'
theorem lE {K:PySem.W.Frag} {vs:List V} {H:Hp} {Q:VK} {E:XK} (h:bB K vs H Q E):vs.length=1:=by
 obtain ⟨_,_,_,rfl,_⟩:=h; rfl
def cM (K:PySem.W.Frag):TS:=
 (tSeq (tAsg (tLst (tCons (tLst tNil) tNil)) (gName 1))
  (tSeq (tFor (iList K (tVar 0)) (gName 2)
  (tAsg (tCall (cx K) [] E0 (tCons (tVar 1) (tCons (tVar 2) tNil))) (gName 1)))
  (tRet (tVar 1))))
theorem lF {K:PySem.W.Frag} {vs:List V} {H:Hp} {Q:VK} {E:XK} (h:bB K vs H Q E):cM K { nx:=fun _ H'=>Q .non H',rt:=Q } (start ["signs_by_cell","fillings","signs"] vs) H:=by
 obtain ⟨A,as,sss,rfl,x,h16,hs,hp,q⟩:=h
 show cM K _ [some (.ref A),none,none] H
 unfold cM
 walk_at "w"
 refine ⟨aH (by show (0:Nat)≤1000; decide),fun e he=>?_⟩
 have s1:Same H (upd H e (.lst [])):=(Same.refl H).laid he
 have ee:(upd H e (.lst [])) e=some (.lst []):=ae
 generalize upd H e (.lst [])=H1 at*
 refine ⟨aH (by show (1:Nat)≤1000; decide),fun l hl=>?_⟩
 have s2:Same H1 (upd H1 l (.lst [V.ref e])):=(Same.refl H1).laid hl
 have el:(upd H1 l (.lst [V.ref e])) l=some (.lst [V.ref e]):=ae
 have nle:l≠e:=fun z=>by rw [z,ee] at hl; cases hl
 generalize upd H1 l (.lst [V.ref e])=H2 at*
 have s12:=s1.trans s2
 refine ⟨⟨_,SqL.of (s12 _ _ x.top)⟩,?_⟩
 refine fM (K:=K) (xs:=as.map V.ref) (fun i σ H'=>∃ (l:Addr) (v:Option V) (bs:List Addr),σ=[some (.ref A),some (.ref l),v]∧Same H H'∧H l=none∧IsLL H' l bs (b7 (sss.take i))∧l∉bs∧∀ b∈bs,H b=none)
  ⟨l,none,[e],rfl,s12,s1.free hl,⟨el,rfl,fun j a xs h1 h2=>?_⟩,by simpa using nle,fun b hb=>by rw [List.mem_singleton.mp hb]; exact he⟩ (fun i σ H' _ ⟨_,_,_,_,s,_⟩=>s.seq (SqL.of x.top)) ?_ ?_
 · have hj:j=0:=by have:=(List.getElem?_eq_some_iff.mp h1).1; simp at this; omega
   subst hj
   cases h1
   cases h2
   exact s2 _ _ ee
 · rintro i y σ H3 hy ⟨l,v,bs,rfl,s3,hl,x3,nl,fr⟩
   obtain ⟨S,hSa,rfl⟩:=dZ hy
   obtain ⟨ss,es,eS⟩:=x.get hSa
   have hss:=hs ss (List.mem_of_getElem? es)
   walk_at "w"
   refine ⟨l,S,bs,_,ss,rfl,x3,s3 _ _ eS,?_,hss.2,?_,fun l' cs H4 s4 hl4 x4 nl4 fr4=>?_⟩
   · rw [mM,← uP es]
     exact Nat.le_trans (t9 _ fun z hz=>(hs z hz).1) hp
   · intro f hf
     rw [mO hf,List.length_take]
     omega
   · rw [← ua es] at x4
     exact ⟨l',_,cs,rfl,s3.trans s4,s3.free hl4,x4,nl4,fun b hb=>s3.free (fr4 b hb)⟩
 · rintro σ H3 ⟨l,v,bs,rfl,s3,hl,x3,nl,fr⟩
   walk_at "w"
   have e:sss.take (as.map V.ref).length=sss:=List.take_of_length_le (by rw [List.length_map,x.len]; exact Nat.le_refl _)
   rw [e] at x3
   exact q l bs H3 s3 hl x3 nl fr
section
variable {K:PySem.W.Frag} {te:TE}
theorem uc {a b:Addr} {xs ys:List V} {fin:Addr→Hp→Prop} {σ0:St} {H1:Hp} {k1 k2:Nat} (o:Nat→HO) (hn:xs.length≤900) (hlen:xs.length=ys.length) (hne:k1≠k2) (hq1:SqL K H1 a xs) (hq2:SqL K H1 b ys)
  (he:∀ (i:Nat) x y H Q,xs[i]? =some x→ys[i]? =some y→Same H1 H→(∀ a H',Same H H'→H a=none→H' a=some (o i)→Q (.ref a) H')→te ((σ0.set k1 (some x)).set k2 (some y)) H Q)
  (hd:∀ l as H,H1 l=none→Same H1 H→H l=some (.lst (as.map V.ref))→NewAt H1 H l as ((List.range xs.length).map o)→fin l H):
  CompR (Itz K a b) (gTup K 2 (gCons (gName k1) (gCons (gName k2) gNil))) tTrue te fin σ0 H1:=by
 intro l hl
 have hP0:∃ as:List Addr,(upd H1 l (.lst [])) l=some (.lst (as.map V.ref))∧NewAt H1 (upd H1 l (.lst [])) l as ((List.range 0).map o):=⟨[],by rw [ae]; rfl,NewAt.nil⟩
 refine ⟨fun i m σ H=>m=xs.length - i∧i≤xs.length∧(σ=σ0∨∃ c1 c2,σ=(σ0.set k1 c1).set k2 c2)∧Same H1 H∧∃ as:List Addr,H l=some (.lst (as.map V.ref))∧NewAt H1 H l as ((List.range i).map o),⟨xs.length,by simp,Nat.zero_le _,.inl rfl,(Same.refl H1).laid hl,hP0⟩,?_⟩
 rintro i m σ H ⟨rfl,hi,hσ,s1,as,el,nw⟩
 by_cases hlt:i < xs.length
 · have hlt2:i < ys.length:=by omega
   refine .inr ⟨⟨xs,ys,xs[i],ys[i],s1.seq hq1,s1.seq hq2,by simp [hlt],by simp [hlt2]⟩,fun σ' H'=>(σ'=σ0∨∃ c1 c2,σ'=(σ0.set k1 c1).set k2 c2)∧Same H1 H'∧∃ as:List Addr,H' l=some (.lst (as.map V.ref))∧NewAt H1 H' l as ((List.range (i+1)).map o),fun σ' H' p'=>⟨xs.length - (i+1),by omega,rfl,hlt,p'⟩,fun v H' y=>?_⟩
   obtain ⟨T,x,y,rfl,hT,rfl,e1,e2⟩:=y
   have hx:=e1 xs (s1.seq hq1)
   have hy:=e2 ys (s1.seq hq2)
   have sT:Same H (upd H T (.tup [x,y])):=(Same.refl H).laid hT
   refine ⟨T,_,rfl,SqT.of ae,rfl,_,_,rfl,_,_,rfl,rfl,?_⟩
   have e:(σ.set k1 (some x)).set k2 (some y)=(σ0.set k1 (some x)).set k2 (some y):=by
    rcases hσ with rfl | ⟨c1,c2,rfl⟩
    · rfl
    · rw [List.set_comm _ _ (Ne.symm hne),List.set_set,List.set_set,List.set_comm _ _ hne]
   show tTrue ((σ.set k1 (some x)).set k2 (some y)) _ _
   rw [e,dk,if_pos rfl]
   have s12:=s1.trans sT
   have el2:=sT _ _ el
   have nw2:=nw.same sT
   refine he i x y _ _ hx hy s12 fun p H3 s3 hp ep=>⟨_,s3 _ _ el2,?_,.inr ⟨_,_,rfl⟩,(s12.trans s3).own hl,as++[p],?_,?_⟩
   · rw [List.length_map,nw2.len,List.length_map,List.length_range]; exact aD (by omega)
   · rw [ae]; simp
   · have z:=nw2.more s12 s3 hp ep el2 (.lst (as.map V.ref++[V.ref p]))
     rw [List.range_succ,List.map_append]
     exact z
 · have e:i=xs.length:=by omega
   subst e
   exact .inl ⟨⟨xs,ys,s1.seq hq1,s1.seq hq2,.inl (Nat.le_refl _)⟩,hd l as H hl s1 el nw⟩
end
theorem wJ {α:Type} (f:α→V) (xs:List α) (k:Nat):cutV (xs.map f) none (some (k:Int))=(xs.take k).map f:=by
 unfold cutV
 rw [HT.sIx_nat,HT.sIx_none,List.length_map,List.drop_zero,Nat.sub_zero,List.map_take]
 by_cases h:k≤xs.length
 · rw [Nat.min_eq_left h]
 · rw [Nat.min_eq_right (by omega),List.take_of_length_le (by rw [List.length_map]; exact Nat.le_refl _),List.take_of_length_le (by rw [List.length_map]; omega)]
theorem ud {α:Type} (f:α→V) (xs:List α) {k:Nat} (h:k≤xs.length):cutV (xs.map f) (some (k:Int)) none=(xs.drop k).map f:=by
 unfold cutV
 rw [HT.sIx_nat,HT.sIx_none,List.length_map,Nat.min_eq_left h,List.map_drop,List.take_of_length_le (by rw [List.length_drop,List.length_map]; exact Nat.le_refl _)]
def bv (g n:Int):List Int:=(rngL 1 (g+1)).drop (n % g).toNat++(rngL 1 (g+1)).take (n % g).toNat
theorem jJ {g n:Int} (g0:1≤g):(bv g n).length=g.toNat:=by
 have e0:=Int.emod_nonneg n (show g≠0 by omega)
 have e1:=Int.emod_lt_of_pos n (show 0 < g by omega)
 unfold bv
 rw [List.length_append,List.length_drop,List.length_take,dt]
 omega
def b3 (K:PySem.W.Frag):Sp:=fun vs H Q _=>∃ (p:Addr) (h w g n:Int),vs=[.ref p,.int n]∧IsFl H p h w g∧FlOk h w g∧∀ (l:Addr) (H':Hp),Same H H'→H l=none→H' l=some (.lst ((bv g n).map V.int))→Q (.ref l) H'
theorem o6 {K:PySem.W.Frag} {vs:List V} {H:Hp} {Q:VK} {E:XK} (h:b3 K vs H Q E):vs.length=2:=by
 obtain ⟨_,_,_,_,_,rfl,_⟩:=h; rfl
def eA (K:PySem.W.Frag):TS:=
 (tSeq (tAsg (ke (tCons (tC (.int 1)) (tCons (tOp cAdd (tOp cIx (tVar 0) (tC (.int 2))) (tC (.int 1))) tNil))) (gName 2))
  (tSeq (tAsg (tOp cMod (tVar 1) (tOp cIx (tVar 0) (tC (.int 2)))) (gName 3))
  (tRet (tOp cAdd (tSl iY (tVar 2) (tPart (tVar 3)) dC) (tSl iY (tVar 2) dC (tPart (tVar 3)))))))
theorem o7 {K:PySem.W.Frag} {vs:List V} {H:Hp} {Q:VK} {E:XK} (h:b3 K vs H Q E):eA K { nx:=fun _ H'=>Q .non H',rt:=Q } (start ["floor","number","signs","first"] vs) H:=by
 obtain ⟨p,h,w,g,n,rfl,hp,F,q⟩:=h
 have g0:=F.g0
 have g1:=F.g1
 have e0:=Int.emod_nonneg n (show g≠0 by omega)
 have e1:=Int.emod_lt_of_pos n (show 0 < g by omega)
 have ek:n % g=(((n % g).toNat:Nat):Int):=by omega
 show eA K _ [some (.ref p),some (.int n),none,none] H
 unfold eA
 walk_at "w"
 refine ixT hp (v:=V.int g) rfl ?_
 walk_at "w"
 refine ⟨1,g+1,rfl,⟨by omega,by omega,by omega,by omega⟩,fun l hl=>?_⟩
 have s1:Same H (upd H l (.lst ((rngL 1 (g+1)).map V.int))):=(Same.refl H).laid hl
 have el:(upd H l (.lst ((rngL 1 (g+1)).map V.int))) l=some (.lst ((rngL 1 (g+1)).map V.int)):=ae
 generalize upd H l (.lst ((rngL 1 (g+1)).map V.int))=H1 at*
 refine ixT (s1 _ _ hp) (v:=V.int g) rfl ?_
 walk_at "w"
 refine ⟨by omega,?_⟩
 rw [ek]
 refine pz el fun a ha=>?_
 rw [ud V.int _ (by rw [dt]; omega)]
 have s2:Same H1 (upd H1 a (.lst (((rngL 1 (g+1)).drop (n % g).toNat).map V.int))):=(Same.refl H1).laid ha
 have ea:(upd H1 a (.lst (((rngL 1 (g+1)).drop (n % g).toNat).map V.int))) a=some (.lst (((rngL 1 (g+1)).drop (n % g).toNat).map V.int)):=ae
 generalize upd H1 a (.lst (((rngL 1 (g+1)).drop (n % g).toNat).map V.int))=H2 at*
 refine pz (s2 _ _ el) fun b hb=>?_
 rw [wJ V.int]
 have s3:Same H2 (upd H2 b (.lst (((rngL 1 (g+1)).take (n % g).toNat).map V.int))):=(Same.refl H2).laid hb
 have eb:(upd H2 b (.lst (((rngL 1 (g+1)).take (n % g).toNat).map V.int))) b=some (.lst (((rngL 1 (g+1)).take (n % g).toNat).map V.int)):=ae
 generalize upd H2 b (.lst (((rngL 1 (g+1)).take (n % g).toNat).map V.int))=H3 at*
 refine jm (s3 _ _ ea) eb (by rw [List.length_map,List.length_map,List.length_drop,List.length_take,dt]; omega) fun r hr=>?_
 have s13:=(s1.trans s2).trans s3
 exact q r _ (s13.trans ((Same.refl H3).laid hr)) (s13.free hr) (by rw [ae]; unfold bv; rw [List.map_append])
def freeP (g:Int) (cl:List Int):Int:=cl.foldl (fun n c=>if c=0 then n*g else n) 1
theorem kO {g:Int} (g0:1≤g):∀ (cl:List Int) (n:Int),1≤n→n≤cl.foldl (fun n c=>if c=0 then n*g else n) n
 | [],n,_=>Int.le_refl _
 | c::r,n,hn=>by
  rw [List.foldl_cons]
  by_cases h:c=0
  · rw [if_pos h]
    have h1:n*1≤n*g:=Int.mul_le_mul_of_nonneg_left g0 (by omega)
    rw [Int.mul_one] at h1
    exact Int.le_trans h1 (kO g0 r _ (by omega))
  · rw [if_neg h]
    exact kO g0 r n hn
theorem ue {g:Int} (g0:1≤g) (cl:List Int) (i:Nat):1≤freeP g (cl.take i)∧freeP g (cl.take i)≤freeP g cl:=by
 have h1:1≤freeP g (cl.take i):=kO g0 _ 1 (by omega)
 refine ⟨h1,?_⟩
 have e:freeP g cl=(cl.drop i).foldl (fun n c=>if c=0 then n*g else n) (freeP g (cl.take i)):=by
  unfold freeP
  rw [← List.foldl_append,List.take_append_drop]
 rw [e]
 exact kO g0 _ _ h1
theorem uS {g:Int} {cl:List Int} {i:Nat} {c:Int} (h:cl[i]? =some c):freeP g (cl.take (i+1))=if c=0 then freeP g (cl.take i)*g else freeP g (cl.take i):=by
 unfold freeP
 rw [fO h,List.foldl_append]; rfl
def trysL (g:Int) (cl ns:List Int):List (List Int):=(List.range cl.length).map fun i=>if cl.getD i 0=0 then bv g (ns.getD i 0) else [cl.getD i 0]
theorem lG {g:Int} {cl ns:List Int}:(trysL g cl ns).length=cl.length:=by unfold trysL; simp
theorem uf {g:Int} {cl ns:List Int} (g0:1≤g) (g1:g≤6) {ss:List Int} (h:ss∈trysL g cl ns):1≤ss.length∧ss.length≤100:=by
 unfold trysL at h
 obtain ⟨i,_,rfl⟩:=List.mem_map.mp h
 split
 · rw [jJ g0]; omega
 · exact ⟨Nat.le_refl 1,(by decide:(1:Nat)≤100)⟩
theorem oE {g:Int} (g0:1≤g) (f:Nat→Int) (s:Nat→List Int) (hs:∀ i,(s i).length=if f i=0 then g.toNat else 1):∀ (is:List Nat) (n:Nat) (m:Int),(n:Int)=m→(((is.map s).foldl (fun n ss=>n*ss.length) n:Nat):Int)=(is.map f).foldl (fun n c=>if c=0 then n*g else n) m
 | [],n,m,h=>h
 | i::r,n,m,h=>by
  rw [List.map_cons,List.map_cons,List.foldl_cons,List.foldl_cons]
  refine oE g0 f s hs r _ _ ?_
  rw [hs]
  by_cases h0:f i=0
  · rw [if_pos h0,if_pos h0,Int.natCast_mul,h,Int.toNat_of_nonneg (by omega)]
  · rw [if_neg h0,if_neg h0,Nat.mul_one,h]
theorem oF {g:Int} {cl ns:List Int} (g0:1≤g):((prodL (trysL g cl ns):Nat):Int)=freeP g cl:=by
 have e:=oE g0 (fun i=>cl.getD i 0) (fun i=>if cl.getD i 0=0 then bv g (ns.getD i 0) else [cl.getD i 0]) (fun i=>by
  split
  · exact jJ g0
  · rfl) (List.range cl.length) 1 1 rfl
 have e2:=qk (fun x=>x) cl
 rw [List.map_id'] at e2
 rw [e2] at e
 exact e
def bI (K:PySem.W.Frag) (c:RCl RK) (d:RCl PzK):Sp:=fun vs H Q _=>∃ (P L G N:Addr) (h w g:Int) (rows:List RR) (cl ns:List Int),vs=[.ref P,.ref N]∧IsPz H c d P L G h w g rows cl∧H N=some (.lst (ns.map V.int))∧ns.length=cl.length∧
 ∀ (l:Addr) (bs:List Addr) (H':Hp),Same H H'→H l=none→IsLL H' l bs (trysL g cl ns)→Q (.ref l) H'
theorem mP {K:PySem.W.Frag} {c:RCl RK} {d:RCl PzK} {vs:List V} {H:Hp} {Q:VK} {E:XK} (h:bI K c d vs H Q E):vs.length=2:=by
 obtain ⟨_,_,_,_,_,_,_,_,_,_,rfl,_⟩:=h; rfl
def dg (K:PySem.W.Frag) (c:RCl RK) (d:RCl PzK):TS:=
 (tSeq (tAsg (aQ d d.ok "place" (dw K c d) (tVar 0) tNil) (gName 2))
  (tRet (tComp [none,none,none,some 2] (iZip K (tCons (aQ d d.ok "clues" (dy K c d) (tVar 0) tNil) (tCons (tVar 1) tNil))) (gTup K 2 (gCons (gName 1) (gCons (gName 2) gNil))) tTrue (tIf (tTest (tOp (cEq K) (tVar 1) (tC (.int 0)))) (tCall (b3 K) [] E0 (tCons (tVar 3) (tCons (tVar 2) tNil))) (tLst (tCons (tVar 1) tNil))))))
theorem mQ {K:PySem.W.Frag} {c:RCl RK} {d:RCl PzK} {vs:List V} {H:Hp} {Q:VK} {E:XK} (h:bI K c d vs H Q E):dg K c d { nx:=fun _ H'=>Q .non H',rt:=Q } (start ["puzzle","numbers","floor"] vs) H:=by
 obtain ⟨P,L,G,N,h,w,g,rows,cl,ns,rfl,x,hN,hlen,q⟩:=h
 obtain ⟨dx,p0,rs,h1,h2,h3⟩:=x.ex
 have hcl:cl.length≤16:=by have:=x.C.len; have:=x.R.F.m; omega
 show dg K c d _ [some (.ref P),some (.ref N),none] H
 unfold dg
 walk_at "w"
 refine methE (k:=.Puzzle) rfl x.ok h1 (by rfl) ?_
 walk_at "w"
 refine ⟨P,L,G,h,w,g,rows,cl,rfl,x,fun p hp=>?_⟩
 walk_at "w"
 rw [rz,dj]
 refine methE (k:=.Puzzle) rfl x.ok h1 (by rfl) ?_
 walk_at "w"
 refine ⟨P,L,G,h,w,g,rows,cl,rfl,x,fun C hC=>?_⟩
 have s1:Same H (upd H C (.lst (cl.map V.int))):=(Same.refl H).laid hC
 have eC:(upd H C (.lst (cl.map V.int))) C=some (.lst (cl.map V.int)):=ae
 generalize upd H C (.lst (cl.map V.int))=H1 at*
 walk_at "w"
 refine ⟨C,N,rfl,⟨_,SqL.of eC⟩,⟨_,SqL.of (s1 _ _ hN)⟩,?_⟩
 refine uc (xs:=cl.map V.int) (ys:=ns.map V.int) (fun i=>.lst ((if cl.getD i 0=0 then bv g (ns.getD i 0) else [cl.getD i 0]).map V.int)) (by rw [List.length_map]; omega) (by simp [hlen]) (by decide) (SqL.of eC) (SqL.of (s1 _ _ hN)) ?_ ?_
 · intro i u v H2 Q2 hu hv s2 k2
   obtain ⟨z,hz,rfl⟩:=bj hu
   obtain ⟨n,hn,rfl⟩:=bj hv
   rw [bW hz,bW hn] at k2
   show tIf _ _ _ [none,some (.int z),some (.int n),some (.ref p)] H2 Q2
   unfold tIf
   walk_at "w"
   by_cases h0:z=0
   · rw [decide_eq_true h0]
     rw [if_pos h0] at k2
     refine iteT ?_
     exact ⟨p,h,w,g,n,rfl,s2 _ _ (s1 _ _ hp),x.R.F,fun l H3 s3 hl el=>k2 l H3 s3 hl el⟩
   · rw [decide_eq_false h0]
     rw [if_neg h0] at k2
     refine iteF ⟨aH (by show (1:Nat)≤1000; decide),fun l hl=>?_⟩
     exact k2 l _ ((Same.refl H2).laid hl) hl (by rw [ae]; rfl)
 · intro l as H2 hl s2 el nw
   rw [List.length_map] at nw
   have e:(List.range cl.length).map (fun i=>HO.lst ((if cl.getD i 0=0 then bv g (ns.getD i 0) else [cl.getD i 0]).map V.int))=(trysL g cl ns).map fun xs=>.lst (xs.map V.int):=by
    unfold trysL
    rw [List.map_map]; rfl
   rw [e] at nw
   exact q l as H2 (s1.trans s2) (s1.free hl) (nw.ll el)
theorem IsLL.other {H:Hp} {l r:Addr} {as:List Addr} {xss:List (List Int)} {o:HO} (x:IsLL H l as xss) (h:r≠l) (hr:r∉as):IsLL (upd H r o) l as xss:=by
 refine ⟨by rw [ai (Ne.symm h)]; exact x.top,x.len,fun j a xs h1 h2=>?_⟩
 have ne:a≠r:=fun z=>hr (z ▸ List.mem_of_getElem? h1)
 rw [ai ne]
 exact x.at_ j a xs h1 h2
noncomputable def b8 (h w g:Int) (rows:List RR) (cl ns:List Int) (n:Nat):List (List Int):=((b7 (trysL g cl ns)).filter (metB h w g rows cl)).take n
theorem vM {K:PySem.W.Frag} {H:Hp} {Q:VK} {p q:Addr} {as bs:List Addr} {xss yss:List (List Int)} (hp:IsLL H p as xss) (hq:IsLL H q bs yss) (h:Q (.bl (!decide (xss=yss))) H):cNe K (.ref p) (.ref q) H Q:=by
 show rNeD K (.ref p) (.ref q) H Q
 refine ⟨_,_,hp.dv,hq.dv,iU xss,iU yss,?_⟩
 rw [PyData.eqv,jk dLI rj]
 exact h
theorem IsLL.none {H:Hp} {l:Addr} (h:H l=some (.lst [])):IsLL H l [] []:=⟨h,rfl,fun j a xs h1=>by simp at h1⟩
theorem rB {g:Int} (g0:1≤g) (a:Nat):∀ k:Nat,1≤g^a∧g^a≤g^(a+k)
 | 0=>by
  refine ⟨?_,Int.le_refl _⟩
  induction a with
  | zero=>rw [Int.pow_zero]; exact Int.le_refl _
  | succ n ih=>rw [Int.pow_succ]; exact Int.le_trans g0 (by have:=Int.mul_le_mul_of_nonneg_right ih (show 0≤g by omega); rw [Int.one_mul] at this; exact this)
 | k+1=>by
  obtain ⟨h1,h2⟩:=rB g0 a k
  refine ⟨h1,?_⟩
  rw [show a+(k+1)=(a+k)+1 from rfl,Int.pow_succ]
  have:=Int.mul_le_mul_of_nonneg_left g0 (show 0≤g^(a+k) by omega)
  rw [Int.mul_one] at this
  omega
theorem ug {g:Int} (g0:1≤g) {a b:Nat} (h:a≤b):g^a≤g^b:=by
 have:=(rB g0 a (b - a)).2
 rw [show a+(b - a)=b by omega] at this
 exact this
theorem qq {g:Int}:∀ (cl:List Int) (n:Int),cl.foldl (fun n c=>if c=0 then n*g else n) n=n*g^(cl.filter fun c=>decide (c=0)).length
 | [],n=>by simp
 | c::r,n=>by
  rw [List.foldl_cons,qq r]
  by_cases h:c=0
  · rw [if_pos h,List.filter_cons,if_pos (by simpa using h),List.length_cons,Int.pow_succ,Int.mul_assoc,Int.mul_comm g]
  · rw [if_neg h,List.filter_cons,if_neg (by simpa using h)]
def zer (cl:List Int):List Int:=List.replicate cl.length 0
theorem qr (cl:List Int) (i:Nat):(zer cl).getD i 0=0:=by
 unfold zer
 rw [List.getD,List.getElem?_replicate]
 split <;> rfl
def kt (R:Int→List Int→Prop):List Int→List (List Int)→Prop
 | [],[]=>True
 | x::f,ss::r=>R x ss∧kt R f r
 | _,_=>False
theorem qt {R:Int→List Int→Prop}:∀ {f:List Int} {sss:List (List Int)},kt R f sss↔f.length=sss.length∧∀ (i:Nat) x ss,f[i]? =some x→sss[i]? =some ss→R x ss
 | [],[]=>by simp [kt]
 | [],_::_=>by simp [kt]
 | _::_,[]=>by simp [kt]
 | x::f,ss::r=>by
  rw [kt,qt (f:=f) (sss:=r)]
  constructor
  · rintro ⟨h1,h2,h3⟩
    refine ⟨by simp [h2],fun i y s e1 e2=>?_⟩
    match i,e1,e2 with
    | 0,e1,e2=>simp at e1 e2; subst e1 e2; exact h1
    | i+1,e1,e2=>exact h3 i y s (by simpa using e1) (by simpa using e2)
  · rintro ⟨h1,h2⟩
    exact ⟨h2 0 x ss rfl rfl,by simpa using h1,fun i y s e1 e2=>h2 (i+1) y s (by simpa using e1) (by simpa using e2)⟩
theorem oG:∀ (sss:List (List Int)) (a t:List Int) (fs:List (List Int)),kt (fun x ss=>∃ q,ss=x::q) t sss→∃ rest,sss.foldl extL (a::fs)=(a++t)::rest
 | [],a,t,fs,h=>by
  cases t with
  | nil=>exact ⟨fs,by simp⟩
  | cons x t=>exact h.elim
 | ss::r,a,t,fs,h=>by
  cases t with
  | nil=>exact h.elim
  | cons x t=>
   obtain ⟨⟨q,rfl⟩,h2⟩:=h
   rw [List.foldl_cons,show extL (a::fs) (x::q)=(a++[x])::((q.map fun s=>a++[s])++extL fs (x::q)) by unfold extL; simp]
   obtain ⟨rest,e⟩:=oG r (a++[x]) t ((q.map fun s=>a++[s])++extL fs (x::q)) h2
   exact ⟨rest,by rw [e]; simp⟩
theorem nO {g n:Int} (g0:1≤g):∃ q,bv g n=(1+n % g)::q:=by
 have e0:=Int.emod_nonneg n (show g≠0 by omega)
 have e1:=Int.emod_lt_of_pos n (show 0 < g by omega)
 unfold bv
 have hk:(n % g).toNat < (rngL 1 (g+1)).length:=by rw [dt]; omega
 rw [List.drop_eq_getElem_cons hk]
 have e3:(rngL 1 (g+1))[(n % g).toNat]? =some (1+n % g):=by
  unfold rngL
  rw [List.getElem?_map,List.getElem?_range (by omega)]
  show some (1+(((n % g).toNat:Nat):Int))=_
  rw [Int.toNat_of_nonneg e0]
 have e:(rngL 1 (g+1))[(n % g).toNat]=1+n % g:=(List.getElem?_eq_some_iff.mp e3).2
 rw [e]
 exact ⟨_,rfl⟩
theorem vN {g:Int} {cl ns:List Int} {i:Nat} {z:Int} (hz:cl[i]? =some z):(trysL g cl ns)[i]? =some (if z=0 then bv g (ns.getD i 0) else [z]):=by
 have hi:=(List.getElem?_eq_some_iff.mp hz).1
 unfold trysL
 rw [List.getElem?_map,List.getElem?_range hi]
 show some (if cl.getD i 0=0 then bv g (ns.getD i 0) else [cl.getD i 0])=_
 rw [bW hz]
end L2
namespace L2
open PySem PySem.Spec PyProof.Rows
end L2
namespace L2
open PySem PySem.Spec PyProof.Rows
section
variable {P:Program} {w:World} {K:PySem.W.Frag} {mg:Str→Option Value} {base:Heap} {k:Nat} {x qual y:Str} {st:Stmt} {f:Addr} {fd:FuncData} {sp:Sp}
theorem pA {a0:Str} (F:Fun K x qual st f fd) (h:∀ (kV doc pm:Value) (an:Option Addr) (cdv ct u0:Value),bindArgs (PySem.W.fnOf x qual (aN st) (aK st) (ah st) .none kV doc pm an cdv ct) ⟨[u0],[]⟩=pure (([a0]:List Str).zip [u0]):=by intros; rfl):Binds K fd [a0] []:=F.binds fun _ _ _ _ _ _ us hl=>match us,hl with | [u0],_=>h _ _ _ _ _ _ _
theorem lH {a0:Str} (T:FnOk P w K mg base CX0 k f fd [a0] sp) (F:Fun K x qual st f fd) (hm:mg y=some (.ref f)) (h:∀ (kV doc pm:Value) (an:Option Addr) (cdv ct u0:Value),bindArgs (PySem.W.fnOf x qual (aN st) (aK st) (ah st) .none kV doc pm an cdv ct) ⟨[u0],[]⟩=pure (([a0]:List Str).zip [u0]):=by intros; rfl):Cal P w K mg base k y [a0] sp:=⟨f,fd,T,hm,F.kp,pA F h⟩
theorem cO {a0 a1:Str} (F:Fun K x qual st f fd) (h:∀ (kV doc pm:Value) (an:Option Addr) (cdv ct u0 u1:Value),bindArgs (PySem.W.fnOf x qual (aN st) (aK st) (ah st) .none kV doc pm an cdv ct) ⟨[u0,u1],[]⟩=pure (([a0,a1]:List Str).zip [u0,u1]):=by intros; rfl):Binds K fd [a0,a1] []:=F.binds fun _ _ _ _ _ _ us hl=>match us,hl with | [u0,u1],_=>h _ _ _ _ _ _ _ _
theorem dQ {a0 a1:Str} (T:FnOk P w K mg base CX0 k f fd [a0,a1] sp) (F:Fun K x qual st f fd) (hm:mg y=some (.ref f)) (h:∀ (kV doc pm:Value) (an:Option Addr) (cdv ct u0 u1:Value),bindArgs (PySem.W.fnOf x qual (aN st) (aK st) (ah st) .none kV doc pm an cdv ct) ⟨[u0,u1],[]⟩=pure (([a0,a1]:List Str).zip [u0,u1]):=by intros; rfl):Cal P w K mg base k y [a0,a1] sp:=⟨f,fd,T,hm,F.kp,cO F h⟩
theorem so {a0 a1 a2:Str} (F:Fun K x qual st f fd) (h:∀ (kV doc pm:Value) (an:Option Addr) (cdv ct u0 u1 u2:Value),bindArgs (PySem.W.fnOf x qual (aN st) (aK st) (ah st) .none kV doc pm an cdv ct) ⟨[u0,u1,u2],[]⟩=pure (([a0,a1,a2]:List Str).zip [u0,u1,u2]):=by intros; rfl):Binds K fd [a0,a1,a2] []:=F.binds fun _ _ _ _ _ _ us hl=>match us,hl with | [u0,u1,u2],_=>h _ _ _ _ _ _ _ _ _
theorem nP {a0 a1 a2:Str} (T:FnOk P w K mg base CX0 k f fd [a0,a1,a2] sp) (F:Fun K x qual st f fd) (hm:mg y=some (.ref f)) (h:∀ (kV doc pm:Value) (an:Option Addr) (cdv ct u0 u1 u2:Value),bindArgs (PySem.W.fnOf x qual (aN st) (aK st) (ah st) .none kV doc pm an cdv ct) ⟨[u0,u1,u2],[]⟩=pure (([a0,a1,a2]:List Str).zip [u0,u1,u2]):=by intros; rfl):Cal P w K mg base k y [a0,a1,a2] sp:=⟨f,fd,T,hm,F.kp,so F h⟩
theorem wY {a0 a1 a2 a3:Str} (F:Fun K x qual st f fd) (h:∀ (kV doc pm:Value) (an:Option Addr) (cdv ct u0 u1 u2 u3:Value),bindArgs (PySem.W.fnOf x qual (aN st) (aK st) (ah st) .none kV doc pm an cdv ct) ⟨[u0,u1,u2,u3],[]⟩=pure (([a0,a1,a2,a3]:List Str).zip [u0,u1,u2,u3]):=by intros; rfl):Binds K fd [a0,a1,a2,a3] []:=F.binds fun _ _ _ _ _ _ us hl=>match us,hl with | [u0,u1,u2,u3],_=>h _ _ _ _ _ _ _ _ _ _
theorem wZ {a0 a1 a2 a3 a4:Str} (F:Fun K x qual st f fd) (h:∀ (kV doc pm:Value) (an:Option Addr) (cdv ct u0 u1 u2 u3 u4:Value),bindArgs (PySem.W.fnOf x qual (aN st) (aK st) (ah st) .none kV doc pm an cdv ct) ⟨[u0,u1,u2,u3,u4],[]⟩=pure (([a0,a1,a2,a3,a4]:List Str).zip [u0,u1,u2,u3,u4]):=by intros; rfl):Binds K fd [a0,a1,a2,a3,a4] []:=F.binds fun _ _ _ _ _ _ us hl=>match us,hl with | [u0,u1,u2,u3,u4],_=>h _ _ _ _ _ _ _ _ _ _ _
theorem xj {a0 a1 a2 a3 a4:Str} (T:FnOk P w K mg base CX0 k f fd [a0,a1,a2,a3,a4] sp) (F:Fun K x qual st f fd) (hm:mg y=some (.ref f)) (h:∀ (kV doc pm:Value) (an:Option Addr) (cdv ct u0 u1 u2 u3 u4:Value),bindArgs (PySem.W.fnOf x qual (aN st) (aK st) (ah st) .none kV doc pm an cdv ct) ⟨[u0,u1,u2,u3,u4],[]⟩=pure (([a0,a1,a2,a3,a4]:List Str).zip [u0,u1,u2,u3,u4]):=by intros; rfl):Cal P w K mg base k y [a0,a1,a2,a3,a4] sp:=⟨f,fd,T,hm,F.kp,wZ F h⟩
theorem w5 {a0 a1 a2 a3 a4 a5:Str} (F:Fun K x qual st f fd) (h:∀ (kV doc pm:Value) (an:Option Addr) (cdv ct u0 u1 u2 u3 u4 u5:Value),bindArgs (PySem.W.fnOf x qual (aN st) (aK st) (ah st) .none kV doc pm an cdv ct) ⟨[u0,u1,u2,u3,u4,u5],[]⟩=pure (([a0,a1,a2,a3,a4,a5]:List Str).zip [u0,u1,u2,u3,u4,u5]):=by intros; rfl):Binds K fd [a0,a1,a2,a3,a4,a5] []:=F.binds fun _ _ _ _ _ _ us hl=>match us,hl with | [u0,u1,u2,u3,u4,u5],_=>h _ _ _ _ _ _ _ _ _ _ _ _
end
end L2
namespace L2
open PySem PySem.Spec PyProof.Rows
def tTryJ (K:PySem.W.Frag) (tt:TT) (sp:Sp) (t:TA) (sp2:Sp) (t2:TA) (j:Nat) (cv:Value) (i:Nat) (th:TS):TS:=fun D σ H=>∃ E:XK,
 (tt σ H fun b H0=>if b=true then t σ H0 fun vs H1=>sp vs H1 (fun v H2=>D.nx (σ.set j (some v)) H2) E else t2 σ H0 fun vs H1=>sp2 vs H1 (fun v H2=>∀ p,H2 p=none→D.nx (σ.set j (some (.ref p))) (upd H2 p (.lst [v]))) E)∧tX K cv i E th D σ H
section
variable {X:Cx} {k k2 nn:Nat} {ps ps2:List Str} {sp sp2:Sp} {x x2:Str} {p pos p2 pos2 lp:Pos} {c e e2:Expr} {es es2:List Expr} {tt:TT} {t t2:TA}
theorem vO {i j:Nat} {m n cn:Str} {cv:Value} {mp mp2 np hpos epos epos2 ipos tpos:Pos} {b₀:Stmt} {suite:List Stmt} {th:TS} (hnx:∀ e s,X.xe e s→False) (C:eH X.prog X.w X.K X.mg X.base k x ps sp) (C2:eH X.prog X.w X.K X.mg X.base k2 x2 ps2 sp2) (hr:Room nn X.A) (hk:k≤nn) (hk2:k2≤nn) (hgf:Gl X x) (hgf2:Gl X x2)
  (ht:PT X c tt) (ha:PA X (e::es) t) (ha2:PA X (e2::es2) t2) (hN:X.N.Nodup) (hj:X.N[j]? =some m) (hlm:X.env.kindOf m=some .local) (hi:X.N[i]? =some n) (hkn:X.env.kindOf n=some .local) (hg:Gl X cn) (hm:X.mg cn=some cv)
  (hst:X.stack=X.env::X.outer) (hf:X.env.frame=some X.env.locals) (hs:∀ x,PSs (X.caught x) (b₀::suite) th) (hdb:(x==("__debug__":Str))=false:=by decide) (hdb2:(x2==("__debug__":Str))=false:=by decide) (hdc:(cn==("__debug__":Str))=false:=by decide)
  (he:starEach (e::es) X.env=(false,eval e X.env)::starEach es X.env:=by rfl) (hpl:(backTo pos (starEach es X.env)).any (·.1)=false:=by rfl) (hsw:swapsWith (.Call (.Name x p) (e::es) [] pos) (some (.Name m mp)) epos.line X.env=pure false:=by rfl)
  (he2:starEach (e2::es2) X.env=(false,eval e2 X.env)::starEach es2 X.env:=by rfl) (hpl2:(backTo pos2 (starEach es2 X.env)).any (·.1)=false:=by rfl) (hsw2:swapsWith (.List [.Call (.Name x2 p2) (e2::es2) [] pos2] lp) (some (.Name m mp2)) epos2.line X.env=pure false:=by rfl)
  (hsl:starEach [.Call (.Name x2 p2) (e2::es2) [] pos2] X.env=[(false,eval (.Call (.Name x2 p2) (e2::es2) [] pos2) X.env)]:=by rfl):
  PS X (.Try [.If c [.Assign [.Name m mp] (.Call (.Name x p) (e::es) [] pos) epos] [.Assign [.Name m mp2] (.List [.Call (.Name x2 p2) (e2::es2) [] pos2] lp) epos2] ipos] [.ExceptHandler (some (.Name cn np)) (some n) (b₀::suite) hpos] [] [] tpos) (tTryJ X.K tt sp t sp2 t2 j cv i th):=by
 obtain ⟨f,fd,F,hm',hkp,hb⟩:=C.ex
 obtain ⟨f2,fd2,F2,hm2',hkp2,hb2⟩:=C2.ex
 intro pins s σ H D I h
 obtain ⟨E,h1,h2⟩:=h
 refine wpAny_Try_except (wpAny_execs_cons (wpAny_If (wpAny_mono (ht pins s σ H _ I h1) (fun d s1 ⟨H1,I1,q1⟩=>?_) fun e s' hx=>(hnx e s' hx).elim)))
 cases d with
 | true=>
  refine wpAny_execs_cons (wpAny_Assign_Name (wpAny_mono (rn E hnx F (hr.mono hk) hgf hm' hkp hb ha I1 q1 hdb he hpl) (fun v s1 ⟨y,H1,I1,r1,q1⟩=>?_) fun e s' hc=>?_) hsw)
  · exact gW I1 hN hj (.inl hlm) r1 (fun s2 I2=>wpAny_execs_nil (wpAny_execs_nil (wpAny_execs_nil ⟨_,H1,I2,q1⟩))) (.inr hlm)
  · exact pY hN hi hkn hg hm hst hf hs hc h2 hdc
 | false=>
  refine wpAny_execs_cons (wpAny_Assign_Name (wpAny_List_spliced ?_) hsw2)
  rw [hsl]
  refine Calls.spliced_cons (wpAny_mono (rn E hnx F2 (hr.mono hk2) hgf2 hm2' hkp2 hb2 ha2 I1 q1 hdb2 he2 hpl2) (fun v s2 ⟨y,H2,I2,r2,q2⟩=>?_) fun e s' hc=>?_)
  · have hfr:H2 s2.heap.objs.size=none:=I2.hok.fresh (Nat.le_refl _)
    refine Calls.spliced_nil ⟨by show (1:Nat)≤sizeLine; decide,?_⟩
    have I3:=I2.laid (t':=s2.toks) (h':=s2.heap.push { cls:=.type "list",data:=.seq [v].toArray }) (o:=.lst [y]) (fun b u e=>Heap.get?_push_of_some _ e) (Nat.le_refl _) ⟨by show (1:Nat)≤sizeLine; decide,[v],0,.cons r2 .nil,Heap.get?_push_size _ rfl⟩
    exact gW I3 hN hj (.inl hlm) (v:=.ref s2.heap.objs.size) rfl (fun s3 I4=>wpAny_execs_nil (wpAny_execs_nil (wpAny_execs_nil ⟨_,_,I4,q2 _ hfr⟩))) (.inr hlm)
  · exact pY hN hi hkn hg hm hst hf hs hc h2 hdc
end
section
variable {P:Program} {w:World} {K:PySem.W.Frag} {mg:Str→Option Value} {base:Heap} {k:Nat} {x qual y:Str} {st:Stmt} {f:Addr} {fd:FuncData} {sp:Sp}
theorem w6 {a0:Str} (T:FnOk P w K mg base (CX1 P w) k f fd [a0] sp) (F:Fun K x qual st f fd) (hm:mg y=some (.ref f)) (h:∀ (kV doc pm:Value) (an:Option Addr) (cdv ct u0:Value),bindArgs (PySem.W.fnOf x qual (aN st) (aK st) (ah st) .none kV doc pm an cdv ct) ⟨[u0],[]⟩=pure (([a0]:List Str).zip [u0]):=by intros; rfl):eH P w K mg base k y [a0] sp:=⟨f,fd,T,hm,F.kp,pA F h⟩
theorem w9 {a0 a1:Str} (T:FnOk P w K mg base (CX1 P w) k f fd [a0,a1] sp) (F:Fun K x qual st f fd) (hm:mg y=some (.ref f)) (h:∀ (kV doc pm:Value) (an:Option Addr) (cdv ct u0 u1:Value),bindArgs (PySem.W.fnOf x qual (aN st) (aK st) (ah st) .none kV doc pm an cdv ct) ⟨[u0,u1],[]⟩=pure (([a0,a1]:List Str).zip [u0,u1]):=by intros; rfl):eH P w K mg base k y [a0,a1] sp:=⟨f,fd,T,hm,F.kp,cO F h⟩
theorem xa {a0 a1 a2:Str} (T:FnOk P w K mg base (CX1 P w) k f fd [a0,a1,a2] sp) (F:Fun K x qual st f fd) (hm:mg y=some (.ref f)) (h:∀ (kV doc pm:Value) (an:Option Addr) (cdv ct u0 u1 u2:Value),bindArgs (PySem.W.fnOf x qual (aN st) (aK st) (ah st) .none kV doc pm an cdv ct) ⟨[u0,u1,u2],[]⟩=pure (([a0,a1,a2]:List Str).zip [u0,u1,u2]):=by intros; rfl):eH P w K mg base k y [a0,a1,a2] sp:=⟨f,fd,T,hm,F.kp,so F h⟩
end
end L2
namespace L2
open PySem PySem.Spec PyProof.Rows
local macro_rules | `(tactic| walk_at "w")=>`(tactic| (first | simp only [bd,km,ml,ij,ko,jn,jo,mq,mf,kg,mj,if_true,if_false,Bool.false_eq_true,decide_true,decide_false,ji,jj,mi,hV,gB,jg,kd,jh,g8,kb,kc,g7,l8,hX,h9,ib,ic,ie,ig,ia,kh,ki,kj,ka,mh,Bool.not_true,Bool.not_false,fg,iy,bh,gH,w_c,j3,gb,gj,fh,gk,w_b,w_not,iz,j4,gl,gm,iA,gI,dj,j5,gn,iB,iC,jv,iD,dk,gp,gq,gr,eP,eQ,eV,dl,dm,cA,iE,iF,iG,iH,iI,iJ,iK,iL,iM,iN,iO,iP,j8,gt,dn,gu,j9,gw,eX,dq,iQ,iR,gy,gz,gA,
 List.getElem?_cons_zero,List.getElem?_cons_succ,Option.some.injEq,exists_eq_left',exists_eq_left,List.set_cons_zero,List.set_cons_succ,cD,V.int.injEq,V.bl.injEq,V.ref.injEq,V.str.injEq,List.append_nil,List.nil_append,List.cons_append] | dsimp only | skip))
abbrev lI (a:EA):List Addr:=[a.BadThought,a.NoFilling,a.NoMove,a.NoFloor,a.NoName,a.NoPuzzle,a.NoRow,a.NoRule,a.NoText,a.NotOne]
def aZ (K:PySem.W.Frag) (c:RCl RK) (d:RCl PzK):Sp:=fun vs H Q E=>∃ (P L G:Addr) (h w g:Int) (rows:List RR) (cl:List Int),vs=[.ref P]∧IsPz H c d P L G h w g rows cl∧(freeP g cl≤1024→∀ H',Same H H'→Q .non H')∧(1024 < freeP g cl→∀ C,Glb K "TooMany" C→∀ H',Same H H'→E (.ref C) none H')
theorem jD {K:PySem.W.Frag} {c:RCl RK} {d:RCl PzK} {vs:List V} {H:Hp} {Q:VK} {E:XK} (h:aZ K c d vs H Q E):vs.length=1:=by
 obtain ⟨_,_,_,_,_,_,_,_,rfl,_⟩:=h; rfl
def bL (K:PySem.W.Frag) (c:RCl RK) (d:RCl PzK) (a:EA) (E:XK):TS:=
 (tSeq (tAsg (tC (.int 1)) (gName 1))
  (tSeq (tFor (iList K (aQ d d.ok "clues" (dy K c d) (tVar 0) tNil)) (gName 2)
  (tIfS (tTest (tOp (cEq K) (tVar 2) (tC (.int 0)))) (tAsg (tOp cMul (tVar 1) (tOp cIx (aQ d d.ok "place" (dw K c d) (tVar 0) tNil) (tC (.int 2)))) (gName 1)) tNext))
  (tIfS (tTest (tOp (cCmp fun i j=>decide (j < i)) (tVar 1) (tC (.int 1024)))) (pX E a.TooMany (tCons (tC (.str (tx [116,104,101,32,112,117,122,122,108,101,32,104,97,115,32,109,111,114,101,32,116,104,97,110,32,49,44,48,50,52,32,102,108,111,111,114,115,32,116,111,32,103,111,32,116,104,114,111,117,103,104]))) tNil)) tNext)))
theorem jE {K:PySem.W.Frag} {c:RCl RK} {d:RCl PzK} {vs:List V} {H:Hp} {Q:VK} {E:XK} {a:EA} (R:nv K a "TooMany" a.TooMany (lI a)) (h:aZ K c d vs H Q E):bL K c d a E { nx:=fun _ H'=>Q .non H',rt:=Q } (start ["puzzle","floors","clue"] vs) H:=by
 obtain ⟨P,L,G,h,w,g,rows,cl,rfl,x,q,q2⟩:=h
 obtain ⟨dx,p,rs,h1,h2,h3⟩:=x.ex
 have g0:=x.R.F.g0
 have g1:=x.R.F.g1
 show bL K c d a E _ [some (.ref P),none,none] H
 unfold bL
 walk_at "w"
 refine methE (k:=.Puzzle) rfl x.ok h1 (by rfl) ?_
 walk_at "w"
 refine ⟨P,L,G,h,w,g,rows,cl,rfl,x,fun l hl=>?_⟩
 have s1:Same H (upd H l (.lst (cl.map V.int))):=(Same.refl H).laid hl
 have el:(upd H l (.lst (cl.map V.int))) l=some (.lst (cl.map V.int)):=ae
 generalize upd H l (.lst (cl.map V.int))=H1 at*
 refine ⟨l,rfl,⟨_,SqL.of el⟩,?_⟩
 refine fM (K:=K) (xs:=cl.map V.int) (fun i σ H'=>∃ v:Option V,σ=[some (.ref P),some (.int (freeP g (cl.take i))),v]∧Same H1 H') ⟨none,rfl,Same.refl _⟩ (fun i σ H' _ ⟨_,_,s⟩=>s.seq (SqL.of el)) ?_ ?_
 · rintro i y σ H2 hy ⟨v,rfl,s2⟩
   obtain ⟨z,hz,rfl⟩:=bj hy
   have s12:=s1.trans s2
   have ft:=ue g0 cl i
   have fo:=uS (g:=g) hz
   walk_at "w"
   rw [aT]
   walk_at "w"
   by_cases h0:z=0
   · rw [decide_eq_true h0]
     rw [if_pos h0] at fo
     refine iteT ?_
     refine methE (k:=.Puzzle) rfl x.ok (s12 _ _ h1) (by rfl) ?_
     walk_at "w"
     refine ⟨P,L,G,h,w,g,rows,cl,rfl,x.same s12,fun p' hp'=>?_⟩
     walk_at "w"
     refine ixT hp' (v:=V.int g) rfl ?_
     walk_at "w"
     refine ⟨.inr ⟨by omega,by omega⟩,some (.int z),?_,s2⟩
     rw [fo]
   · rw [decide_eq_false h0]
     rw [if_neg h0] at fo
     refine iteF ⟨some (.int z),?_,s2⟩
     rw [fo]
 · rintro σ H2 ⟨v,rfl,s2⟩
   have e:cl.take (cl.map V.int).length=cl:=List.take_of_length_le (by rw [List.length_map]; exact Nat.le_refl _)
   rw [e]
   walk_at "w"
   rw [aT]
   walk_at "w"
   by_cases hb:1024 < freeP g cl
   · rw [decide_eq_true hb]
     refine iteT ?_
     rw [vx]
     walk_at "w"
     exact ⟨aH (by show (1:Nat)≤1000; decide),q2 hb _ R.g _ (s1.trans s2)⟩
   · rw [decide_eq_false hb]
     exact iteF (q (by omega) _ (s1.trans s2))
def bw (K:PySem.W.Frag) (c:RCl RK) (d:RCl PzK):Sp:=fun vs H Q E=>∃ (P L G N:Addr) (h w g most:Int) (rows:List RR) (cl ns:List Int),vs=[.ref P,.ref N,.int most]∧IsPz H c d P L G h w g rows cl∧H N=some (.lst (ns.map V.int))∧ns.length=cl.length∧0≤most∧(1024 < freeP g cl→∀ C,Glb K "TooMany" C→∀ H',Same H H'→E (.ref C) none H')∧
 (freeP g cl≤1024→∀ (l:Addr) (bs:List Addr) (H':Hp),Same H H'→H l=none→IsLL H' l bs (b8 h w g rows cl ns most.toNat)→l∉bs→(∀ b∈bs,H b=none)→Q (.ref l) H')
theorem o8 {K:PySem.W.Frag} {c:RCl RK} {d:RCl PzK} {vs:List V} {H:Hp} {Q:VK} {E:XK} (h:bw K c d vs H Q E):vs.length=3:=by
 obtain ⟨_,_,_,_,_,_,_,_,_,_,_,rfl,_⟩:=h; rfl
def eB (K:PySem.W.Frag) (c:RCl RK) (d:RCl PzK) (E:XK):TS:=
 (tSeq (tDrop (tCall (aZ K c d) [] E (tCons (tVar 0) tNil)))
  (tSeq (tAsg (tLst tNil) (gName 3))
  (tSeq (tFor (iList K (tCall (bB K) [] E0 (tCons (tCall (bI K c d) [] E0 (tCons (tVar 0) (tCons (tVar 1) tNil))) tNil))) (gName 4)
  (tSeq (tIfS (tTest (tOp (cEq K) (tCB kLen (tCons (tVar 3) tNil)) (tVar 2))) (tRet (tVar 3)) tNext)
  (tIfS (tB (aQ d d.ok "meets" (jC K c d) (tVar 0) (tCons (tVar 4) tNil))) (tDrop (tBM K "list" bO (tVar 3) (tCons (tVar 4) tNil))) tNext)))
  (tRet (tVar 3)))))
theorem o9 {K:PySem.W.Frag} {c:RCl RK} {d:RCl PzK} {vs:List V} {H:Hp} {Q:VK} {E:XK} (h:bw K c d vs H Q E):eB K c d E { nx:=fun _ H'=>Q .non H',rt:=Q } (start ["puzzle","numbers","most","found","filling"] vs) H:=by
 obtain ⟨P,L,G,N,h,w,g,most,rows,cl,ns,rfl,x,hN,hlen,m0,q2,q⟩:=h
 obtain ⟨dx,p0,rs,h1,h2,h3⟩:=x.ex
 have hcl:cl.length≤16:=by have:=x.C.len; have:=x.R.F.m; omega
 have g0:=x.R.F.g0
 have g1:=x.R.F.g1
 show eB K c d E _ [some (.ref P),some (.ref N),some (.int most),none,none] H
 unfold eB
 walk_at "w"
 refine ⟨P,L,G,h,w,g,rows,cl,rfl,x,fun hfree H1 s1=>?_,q2⟩
 walk_at "w"
 refine ⟨aH (by show (0:Nat)≤1000; decide),fun r hr=>?_⟩
 have s2:Same H1 (upd H1 r (.lst [])):=(Same.refl H1).laid hr
 have er:(upd H1 r (.lst [])) r=some (.lst []):=ae
 have hr0:H r=none:=s1.free hr
 generalize upd H1 r (.lst [])=H2 at*
 have s02:=s1.trans s2
 refine ⟨P,L,G,N,h,w,g,rows,cl,ns,rfl,x.same s02,s02 _ _ hN,hlen,fun A as H3 s3 hA xA=>?_⟩
 walk_at "w"
 refine ⟨A,as,_,rfl,xA,by rw [lG]; omega,fun ss hss=>uf g0 g1 hss,by have:=oF (cl:=cl) (ns:=ns) g0; omega,fun l bs H4 s4 hl xl nl fr=>?_⟩
 have s04:=(s02.trans s3).trans s4
 have er4:=(s3.trans s4) _ _ er
 have nrl:r≠l:=fun z=>by rw [← z,s3 _ _ er] at hl; cases hl
 have nrb:r∉bs:=fun z=>by have:=fr r z; rw [s3 _ _ er] at this; cases this
 have fr0:∀ b∈bs,H b=none:=fun b hb=>(s02.trans s3).free (fr b hb)
 have eL:b7 (trysL g cl ns)=b7 (trysL g cl ns):=rfl
 have hq:=q hfree
 unfold b8 at hq
 have hlenL:∀ f∈b7 (trysL g cl ns),f.length≤16:=fun f hf=>by rw [mO hf,lG]; omega
 have hbig:(b7 (trysL g cl ns)).length≤1024:=by rw [mM]; have:=oF (cl:=cl) (ns:=ns) g0; omega
 generalize b7 (trysL g cl ns)=LL at*
 have hxl:=xl.len
 refine ⟨l,rfl,⟨_,SqL.of xl.top⟩,?_⟩
 refine fM (K:=K) (xs:=bs.map V.ref) (fun i σ H'=>∃ (v:Option V) (cs:List Addr),σ=[some (.ref P),some (.ref N),some (.int most),some (.ref r),v]∧Same H H'∧IsLL H' l bs LL∧IsLL H' r cs ((LL.take i).filter (metB h w g rows cl))∧r∉cs∧(∀ b∈cs,b∈bs)∧(cs.length:Int)≤most)
  ⟨none,[],rfl,s04,xl,⟨er4,rfl,fun j a xs h1=>by simp at h1⟩,by simp,(fun b hb=>nomatch hb),by simpa using m0⟩ (fun i σ H' _ ⟨_,_,_,_,z,_⟩=>SqL.of z.top) ?_ ?_
 · rintro i y σ H5 hy ⟨v,cs,rfl,s5,xl5,xr,nr,sub,hcs⟩
   obtain ⟨b,hb,rfl⟩:=dZ hy
   obtain ⟨f,ef,eb⟩:=xl5.get hb
   have hbm:=List.mem_of_getElem? hb
   have hf16:=hlenL f (List.mem_of_getElem? ef)
   have hcl5:=xr.len
   walk_at "w"
   rw [aT]
   walk_at "w"
   rw [fi xr.top,List.length_map]
   walk_at "w"
   by_cases hm:(cs.length:Int)=most
   · rw [decide_eq_true hm]
     refine iteT ?_
     refine hq r cs H5 s5 hr0 ?_ nr fun b hb=>fr0 b (sub b hb)
     have e:(LL.filter (metB h w g rows cl)).take most.toNat=(LL.take i).filter (metB h w g rows cl):=by
      have e1:LL.filter (metB h w g rows cl)=(LL.take i).filter (metB h w g rows cl)++(LL.drop i).filter (metB h w g rows cl):=by rw [← List.filter_append,List.take_append_drop]
      rw [e1,List.take_append_of_le_length (by omega),List.take_of_length_le (by omega)]
     rw [e]
     exact xr
   · rw [decide_eq_false hm]
     refine iteF ?_
     rw [aT]
     walk_at "w"
     refine methE (k:=.Puzzle) rfl x.ok (s5 _ _ h1) (by rfl) ?_
     walk_at "w"
     refine ⟨P,L,G,b,h,w,g,rows,cl,f,rfl,x.same s5,eb,by omega,fun H6 s6=>?_⟩
     have s56:=s5.trans s6
     cases hmet:metB h w g rows cl f with
     | false=>
      refine ⟨_,rfl,?_⟩
      refine iteF ⟨_,cs,rfl,s56,xl5.same s6,?_,nr,sub,hcs⟩
      rw [fO ef,List.filter_append,List.filter_cons,hmet]
      simpa using xr.same s6
     | true=>
      refine ⟨_,rfl,?_⟩
      refine iteT ⟨eE (s6 _ _ xr.top),?_⟩
      have nbr:r≠b:=fun z=>nrb (z ▸ hbm)
      have xr6:=xr.same s6
      have z:=xr6.app (bs:=[b]) (yss:=[f]) nr (by simpa using nbr) rfl fun j a ys h1 h2=>by
       have hj:j=0:=by have:=(List.getElem?_eq_some_iff.mp h1).1; simp at this; omega
       subst hj
       cases h1
       cases h2
       exact s6 _ _ eb
      have hsm:cs.length < sizeLine:=by
       have h4:=List.length_filter_le (metB h w g rows cl) (LL.take i)
       have h5:(LL.take i).length≤LL.length:=by rw [List.length_take]; exact Nat.min_le_right _ _
       exact oB (by omega)
      rw [g5 xr6.top]
      refine ⟨by rw [List.length_map]; exact hsm,_,cs++[b],rfl,s56.own hr0,(xl5.same s6).other nrl nrb,?_,?_,?_,?_⟩
      · rw [fO ef,List.filter_append,List.filter_cons,hmet]
        simpa using z
      · intro hm2
        rcases List.mem_append.mp hm2 with hm2 | hm2
        · exact nr hm2
        · exact nbr (List.mem_singleton.mp hm2)
      · intro a ha
        rcases List.mem_append.mp ha with ha | ha
        · exact sub a ha
        · rw [List.mem_singleton.mp ha]; exact hbm
      · rw [List.length_append]
        show ((cs.length+1:Nat):Int)≤most
        omega
 · rintro σ H5 ⟨v,cs,rfl,s5,xl5,xr,nr,sub,hcs⟩
   walk_at "w"
   have e:LL.take (bs.map V.ref).length=LL:=List.take_of_length_le (by rw [List.length_map,hxl]; exact Nat.le_refl _)
   rw [e] at xr
   have hcl5:=xr.len
   refine hq r cs H5 s5 hr0 ?_ nr fun b hb=>fr0 b (sub b hb)
   rw [List.take_of_length_le (by omega)]
   exact xr
def cU (K:PySem.W.Frag) (c:RCl RK) (d:RCl PzK):Sp:=fun vs H Q E=>∃ (P L G N:Addr) (h w g:Int) (rows:List RR) (cl ns:List Int),vs=[.ref P,.ref N]∧IsPz H c d P L G h w g rows cl∧H N=some (.lst (ns.map V.int))∧ns.length=cl.length∧(1024 < freeP g cl→∀ C,Glb K "TooMany" C→∀ H',Same H H'→E (.ref C) none H')∧
 (freeP g cl≤1024→(b8 h w g rows cl ns 1=[]→∀ H',Same H H'→Q .non H')∧∀ f,b8 h w g rows cl ns 1=[f]→∀ (b:Addr) (H':Hp),Same H H'→H b=none→H' b=some (.lst (f.map V.int))→Q (.ref b) H')
theorem qV {K:PySem.W.Frag} {c:RCl RK} {d:RCl PzK} {vs:List V} {H:Hp} {Q:VK} {E:XK} (h:cU K c d vs H Q E):vs.length=2:=by
 obtain ⟨_,_,_,_,_,_,_,_,_,_,rfl,_⟩:=h; rfl
def gg (K:PySem.W.Frag) (c:RCl RK) (d:RCl PzK) (E:XK):TS:=
 (tSeq (tAsg (tCall (bw K c d) [] E (tCons (tVar 0) (tCons (tVar 1) (tCons (tC (.int 1)) tNil)))) (gName 2))
  (tRet (tIf (tTest (tOp (cNe K) (tVar 2) (tLst tNil))) (tOp cIx (tVar 2) (tC (.int 0))) (tC .non))))
theorem qW {K:PySem.W.Frag} {c:RCl RK} {d:RCl PzK} {vs:List V} {H:Hp} {Q:VK} {E:XK} (h:cU K c d vs H Q E):gg K c d E { nx:=fun _ H'=>Q .non H',rt:=Q } (start ["puzzle","numbers","found"] vs) H:=by
 obtain ⟨P,L,G,N,h,w,g,rows,cl,ns,rfl,x,hN,hlen,q3,q0⟩:=h
 show gg K c d E _ [some (.ref P),some (.ref N),Option.none] H
 unfold gg
 walk_at "w"
 refine ⟨P,L,G,N,h,w,g,1,rows,cl,ns,rfl,x,hN,hlen,by decide,q3,fun hfree l bs H1 s1 hl xl nl fr=>?_⟩
 obtain ⟨q1,q2⟩:=q0 hfree
 walk_at "w"
 refine ⟨aH (by show (0:Nat)≤1000; decide),fun e he=>?_⟩
 have s2:Same H1 (upd H1 e (.lst [])):=(Same.refl H1).laid he
 have ee:(upd H1 e (.lst [])) e=some (.lst []):=ae
 generalize upd H1 e (.lst [])=H2 at*
 refine vM (xl.same s2) (IsLL.none ee) ?_
 have xl2:=xl.same s2
 have s12:=s1.trans s2
 have h1:(b8 h w g rows cl ns (1:Int).toNat).length≤1:=by unfold b8; exact List.length_take_le _ _
 have q1':b8 h w g rows cl ns (1:Int).toNat=[]→∀ H',Same H H'→Q .non H':=q1
 have q2':∀ f,b8 h w g rows cl ns (1:Int).toNat=[f]→∀ (b:Addr) (H':Hp),Same H H'→H b=none→H' b=some (.lst (f.map V.int))→Q (.ref b) H':=q2
 generalize b8 h w g rows cl ns (1:Int).toNat=FF at*
 match FF,h1,xl2,q1',q2' with
 | [],_,_,q1,_=>
  walk_at "w"
  exact q1 rfl _ s12
 | [f],_,xl2,_,q2=>
  walk_at "w"
  refine iteT ?_
  have hb:bs.length=1:=xl2.len
  obtain ⟨b,rfl⟩:∃ b,bs=[b]:=List.length_eq_one_iff.mp hb
  refine ixL xl2.top (v:=V.ref b) rfl ?_
  exact q2 f rfl b _ s12 (fr b (by simp)) (xl2.at_ 0 b f rfl rfl)
def bS (K:PySem.W.Frag) (c:RCl RK) (d:RCl PzK):Sp:=fun vs H Q E=>∃ (P L G:Addr) (h w g most:Int) (rows:List RR) (cl:List Int),vs=[.ref P,.int most]∧IsPz H c d P L G h w g rows cl∧0≤most∧(1024 < freeP g cl→∀ C,Glb K "TooMany" C→∀ H',Same H H'→E (.ref C) none H')∧
 (freeP g cl≤1024→∀ (l:Addr) (bs:List Addr) (H':Hp),Same H H'→H l=none→IsLL H' l bs (b8 h w g rows cl (zer cl) most.toNat)→l∉bs→(∀ b∈bs,H b=none)→Q (.ref l) H')
theorem qu {K:PySem.W.Frag} {c:RCl RK} {d:RCl PzK} {vs:List V} {H:Hp} {Q:VK} {E:XK} (h:bS K c d vs H Q E):vs.length=2:=by
 obtain ⟨_,_,_,_,_,_,_,_,_,rfl,_⟩:=h; rfl
def fE (K:PySem.W.Frag) (c:RCl RK) (d:RCl PzK) (E:XK):TS:=
 (tRet (tCall (bw K c d) [] E (tCons (tVar 0) (tCons (tOp cRepL (tLst (tCons (tC (.int 0)) tNil)) (tCall (aI K) [] E0 (tCons (aQ d d.ok "place" (dw K c d) (tVar 0) tNil) tNil))) (tCons (tVar 1) tNil)))))
theorem qv {K:PySem.W.Frag} {c:RCl RK} {d:RCl PzK} {vs:List V} {H:Hp} {Q:VK} {E:XK} (h:bS K c d vs H Q E):fE K c d E { nx:=fun _ H'=>Q .non H',rt:=Q } (start ["puzzle","most"] vs) H:=by
 obtain ⟨P,L,G,h,w,g,most,rows,cl,rfl,x,m0,q2,q⟩:=h
 obtain ⟨dx,p0,rs,h1,h2,h3⟩:=x.ex
 obtain ⟨f0,f1,w0,w1,m16,g0,g1⟩:=id x.R.F
 have mpos:0≤h*w:=Int.mul_nonneg (by omega) (by omega)
 show fE K c d E _ [some (.ref P),some (.int most)] H
 unfold fE
 walk_at "w"
 refine ⟨aH (by show (1:Nat)≤1000; decide),fun Z hZ=>?_⟩
 have s1:Same H (upd H Z (.lst [V.int 0])):=(Same.refl H).laid hZ
 have eZ:(upd H Z (.lst [V.int 0])) Z=some (.lst [V.int 0]):=ae
 generalize upd H Z (.lst [V.int 0])=H1 at*
 refine methE (k:=.Puzzle) rfl x.ok (s1 _ _ h1) (by rfl) ?_
 walk_at "w"
 refine ⟨P,L,G,h,w,g,rows,cl,rfl,x.same s1,fun p hp=>?_⟩
 walk_at "w"
 refine ⟨p,h,w,g,rfl,hp,f0,f1,?_⟩
 walk_at "w"
 refine wr eZ (by omega) (by omega) (by show (1:Nat)≤1; decide) fun N hN=>?_
 have s2:Same H1 (upd H1 N (.lst (List.replicate (h*w).toNat [V.int 0]).flatten)):=(Same.refl H1).laid hN
 have eN:(upd H1 N (.lst (List.replicate (h*w).toNat [V.int 0]).flatten)) N=some (.lst ((zer cl).map V.int)):=by
  rw [ae]
  unfold zer
  rw [x.C.len,List.map_replicate]
  simp
 generalize upd H1 N (.lst (List.replicate (h*w).toNat [V.int 0]).flatten)=H2 at*
 have s12:=s1.trans s2
 refine ⟨P,L,G,N,h,w,g,most,rows,cl,zer cl,rfl,x.same s12,eN,by unfold zer; simp,m0,fun hb C hC H3 s3=>q2 hb C hC H3 (s12.trans s3),fun hfree l bs H3 s3 hl xl nl fr=>?_⟩
 exact q hfree l bs H3 (s12.trans s3) (s12.free hl) xl nl fun b hb=>s12.free (fr b hb)
def ones (cl:List Int):List Int:=cl.map fun c=>if c > 1 then c else 1
theorem mR {h w g:Int} {cl:List Int} (C:CluesOk h w g cl) (F:FlOk h w g):b8 h w g [] cl (zer cl) 1=[ones cl]:=by
 have g0:=F.g0
 have el:(ones cl).length=cl.length:=by unfold ones; simp
 have eat:∀ {i:Nat} {x:Int},(ones cl)[i]? =some x→∃ z,cl[i]? =some z∧x=if z > 1 then z else 1:=fun {i x} hx=>by
  unfold ones at hx
  rw [List.getElem?_map] at hx
  cases e:cl[i]? with
  | none=>rw [e] at hx; cases hx
  | some z=>rw [e] at hx; cases hx; exact ⟨z,rfl,rfl⟩
 have ha:kt (fun x ss=>∃ q,ss=x::q) (ones cl) (trysL g cl (zer cl)):=by
  rw [qt,lG]
  refine ⟨el,fun i x ss hx hss=>?_⟩
  obtain ⟨z,hz,rfl⟩:=eat hx
  have hz0:=C.ok z (List.mem_of_getElem? hz)
  rw [vN hz] at hss
  cases hss
  by_cases h0:z=0
  · rw [if_pos h0,if_neg (by omega)]
    obtain ⟨q,e⟩:=nO (g:=g) (n:=(zer cl).getD i 0) g0
    rw [qr,Int.zero_emod,Int.add_zero] at e
    rw [qr]
    exact ⟨q,e⟩
  · rw [if_neg h0]
    refine ⟨[],?_⟩
    congr 1
    split <;> omega
 obtain ⟨rest,e⟩:=oG (trysL g cl (zer cl)) [] (ones cl) [] ha
 have e2:b7 (trysL g cl (zer cl))=ones cl::rest:=e
 have hm:metB h w g [] cl (ones cl)=true:=by
  unfold metB
  have h1:filB 1 g (h*w).toNat (ones cl)=true:=by
   unfold filB
   rw [decide_eq_true (by rw [el,C.len]),Bool.true_and,List.all_eq_true]
   intro x hx
   unfold ones at hx
   obtain ⟨z,hz,rfl⟩:=List.mem_map.mp hx
   have hz0:=C.ok z hz
   rw [Bool.and_eq_true,decide_eq_true_eq,decide_eq_true_eq]
   split <;> omega
  have h2:cluB cl (ones cl)=true:=by
   unfold cluB
   rw [List.all_eq_true]
   intro i hi
   have hlt:=List.mem_range.mp hi
   have ez:cl[i]? =some cl[i]:=List.getElem?_eq_getElem hlt
   have hz0:=C.ok _ (List.getElem_mem hlt)
   have eo:(ones cl)[i]? =some (if cl[i] > 1 then cl[i] else 1):=by unfold ones; rw [List.getElem?_map,ez]; rfl
   rw [Bool.or_eq_true,decide_eq_true_eq,decide_eq_true_eq,bW ez,bW eo]
   by_cases h0:cl[i]=0
   · exact .inl h0
   · refine .inr ?_
     split <;> omega
  rw [h1,h2]
  rfl
 unfold b8
 rw [e2,List.filter_cons,hm]
 rfl
abbrev refTx:List Nat:=[114,101,102,117,115,101,100]
def ba (K:PySem.W.Frag) (c:RCl RK) (d:RCl PzK):Sp:=fun vs H Q _=>∃ (P L G:Addr) (h w g way:Int) (rows:List RR) (cl:List Int),vs=[.ref P,.int way]∧IsPz H c d P L G h w g rows cl∧
 (freeP g cl≤1024→rows=[]∧∀ (l b:Addr) (H':Hp),Same H H'→IsLL H' l [b] [ones cl]→Q (.ref l) H')∧(1024 < freeP g cl→∀ (T:Addr) (H':Hp),Same H H'→H' T=some (.tup [.str (tx refTx),.bl true])→Q (.ref T) H')
theorem nQ {K:PySem.W.Frag} {c:RCl RK} {d:RCl PzK} {vs:List V} {H:Hp} {Q:VK} {E:XK} (h:ba K c d vs H Q E):vs.length=2:=by
 obtain ⟨_,_,_,_,_,_,_,_,_,rfl,_⟩:=h; rfl
def dR (K:PySem.W.Frag) (c:RCl RK) (d:RCl PzK) (a:EA):TS:=
 (tSeq (tAsg (tLst (tCons (tCB (kIsX K) (tCons (tVar 2) (tCons (tC (.ref a.BadThought)) tNil))) (tCons (tCB (kIsX K) (tCons (tVar 2) (tCons (tC (.ref a.NoFilling)) tNil))) (tCons (tCB (kIsX K) (tCons (tVar 2) (tCons (tC (.ref a.NoMove)) tNil))) tNil)))) (gName 5))
  (tSeq (tAsg (tOp cAdd (tVar 5) (tLst (tCons (tCB (kIsX K) (tCons (tVar 2) (tCons (tC (.ref a.NoFloor)) tNil))) (tCons (tCB (kIsX K) (tCons (tVar 2) (tCons (tC (.ref a.NoName)) tNil))) (tCons (tCB (kIsX K) (tCons (tVar 2) (tCons (tC (.ref a.NoPuzzle)) tNil))) tNil))))) (gName 5))
  (tSeq (tAsg (tOp cAdd (tVar 5) (tLst (tCons (tCB (kIsX K) (tCons (tVar 2) (tCons (tC (.ref a.NoRow)) tNil))) (tCons (tCB (kIsX K) (tCons (tVar 2) (tCons (tC (.ref a.NoRule)) tNil))) (tCons (tCB (kIsX K) (tCons (tVar 2) (tCons (tC (.ref a.NoText)) tNil))) tNil))))) (gName 5))
  (tSeq (tAsg (tOp cAdd (tVar 5) (tLst (tCons (tCB (kIsX K) (tCons (tVar 2) (tCons (tC (.ref a.NotOne)) tNil))) (tCons (tNotV (tCB (kIsX K) (tCons (tVar 2) (tCons (tC (.ty "ValueError")) tNil)))) tNil)))) (gName 5))
  (tRet (tTup (tCons (tC (.str (tx [114,101,102,117,115,101,100]))) (tCons (tAndV (tCB (kIsX K) (tCons (tVar 2) (tCons (tC (.ref a.TooMany)) tNil))) (tNotV (tCB kAny (tCons (tVar 5) tNil)))) tNil))))))))
def cj (K:PySem.W.Frag) (c:RCl RK) (d:RCl PzK) (a:EA):TS:=
 (tSeq (tIfS (tTest (tOp rIsN (tVar 2) (tC .non))) (tRet (tVar 3)) tNext)
  (dR K c d a))
def dP (K:PySem.W.Frag) (c:RCl RK) (d:RCl PzK) (a:EA):TS:=
 (tSeq (tAsg (tC .non) (gName 2))
  (tSeq (tAsg (tC .non) (gName 3))
  (tSeq (tTryJ K (tTest (tOp (cEq K) (tVar 1) (tC (.int 0)))) (bS K c d) (tCons (tVar 0) (tCons (tC (.int 1)) tNil)) (cU K c d) (tCons (tVar 0) (tCons (tComp [none,none] (iList K (aQ d d.ok "clues" (dy K c d) (tVar 0) tNil)) (gName 1) tTrue (tC (.int 0))) tNil)) 3 (.ref a.ClueError) 4 (tAsg (tVar 4) (gName 2)))
  (cj K c d a))))
theorem qw {K:PySem.W.Frag} {c:RCl RK} {d:RCl PzK} {a:EA} {H0 H:Hp} {Q:VK} {P x:Addr} {way:Int} {v3:Option V} (R:nv K a "TooMany" a.TooMany (lI a)) (s:Same H0 H) (ex:H x=some (.ext (XO x a.TooMany))) (q:∀ (T:Addr) (H':Hp),Same H0 H'→H' T=some (.tup [.str (tx refTx),.bl true])→Q (.ref T) H'):
  dR K c d a { nx:=fun _ H'=>Q .non H',rt:=Q } [some (.ref P),some (.int way),some (.ref x),v3,none,none] H:=by
 have Z:=R.xis
 have no:∀ {H':Hp} {y:Addr} {Q':VK},H' x=some (.ext (XO x a.TooMany))→y∈lI a→Q' (.bl false) H'→kIsX K [.ref x,.ref y] H' Q':=fun hx' hy q=>uZ Z hx' (R.no _ hy) q
 unfold dR
 walk_at "w"
 refine no ex (by simp) ?_
 refine no ex (by simp) ?_
 refine no ex (by simp) ?_
 refine ⟨aH (by show (3:Nat)≤1000; decide),fun l1 n1=>?_⟩
 have s1:Same H (upd H l1 (.lst [.bl false,.bl false,.bl false])):=(Same.refl H).laid n1
 have e1:(upd H l1 (.lst [.bl false,.bl false,.bl false])) l1=some (.lst (([false,false,false]:List Bool).map V.bl)):=ae
 generalize upd H l1 (.lst [.bl false,.bl false,.bl false])=H1 at*
 have ex1:=s1 _ _ ex
 refine no ex1 (by simp) ?_
 refine no ex1 (by simp) ?_
 refine no ex1 (by simp) ?_
 refine ⟨aH (by show (3:Nat)≤1000; decide),fun l2 n2=>?_⟩
 have s2:Same H1 (upd H1 l2 (.lst [.bl false,.bl false,.bl false])):=(Same.refl H1).laid n2
 have e2:(upd H1 l2 (.lst [.bl false,.bl false,.bl false])) l2=some (.lst (([false,false,false]:List Bool).map V.bl)):=ae
 generalize upd H1 l2 (.lst [.bl false,.bl false,.bl false])=H2 at*
 refine jm (s2 _ _ e1) e2 (by decide) fun l3 n3=>?_
 have s3:Same H2 (upd H2 l3 (.lst (([false,false,false]:List Bool).map V.bl++([false,false,false]:List Bool).map V.bl))):=(Same.refl H2).laid n3
 have e3:(upd H2 l3 (.lst (([false,false,false]:List Bool).map V.bl++([false,false,false]:List Bool).map V.bl))) l3=some (.lst (([false,false,false,false,false,false]:List Bool).map V.bl)):=ae
 generalize upd H2 l3 (.lst (([false,false,false]:List Bool).map V.bl++([false,false,false]:List Bool).map V.bl))=H3 at*
 have ex3:=(s2.trans s3) _ _ ex1
 walk_at "w"
 refine no ex3 (by simp) ?_
 refine no ex3 (by simp) ?_
 refine no ex3 (by simp) ?_
 refine ⟨aH (by show (3:Nat)≤1000; decide),fun l4 n4=>?_⟩
 have s4:Same H3 (upd H3 l4 (.lst [.bl false,.bl false,.bl false])):=(Same.refl H3).laid n4
 have e4:(upd H3 l4 (.lst [.bl false,.bl false,.bl false])) l4=some (.lst (([false,false,false]:List Bool).map V.bl)):=ae
 generalize upd H3 l4 (.lst [.bl false,.bl false,.bl false])=H4 at*
 refine jm (s4 _ _ e3) e4 (by decide) fun l5 n5=>?_
 have s5:Same H4 (upd H4 l5 (.lst (([false,false,false,false,false,false]:List Bool).map V.bl++([false,false,false]:List Bool).map V.bl))):=(Same.refl H4).laid n5
 have e5:(upd H4 l5 (.lst (([false,false,false,false,false,false]:List Bool).map V.bl++([false,false,false]:List Bool).map V.bl))) l5=some (.lst (([false,false,false,false,false,false,false,false,false]:List Bool).map V.bl)):=ae
 generalize upd H4 l5 (.lst (([false,false,false,false,false,false]:List Bool).map V.bl++([false,false,false]:List Bool).map V.bl))=H5 at*
 have ex5:=(s4.trans s5) _ _ ex3
 walk_at "w"
 refine no ex5 (by simp) ?_
 refine wy Z ex5 R.ve ?_
 refine ⟨_,rfl,aH (by show (2:Nat)≤1000; decide),fun l6 n6=>?_⟩
 have s6:Same H5 (upd H5 l6 (.lst [.bl false,.bl (!true)])):=(Same.refl H5).laid n6
 have e6:(upd H5 l6 (.lst [.bl false,.bl (!true)])) l6=some (.lst (([false,false]:List Bool).map V.bl)):=ae
 generalize upd H5 l6 (.lst [.bl false,.bl (!true)])=H6 at*
 refine jm (s6 _ _ e5) e6 (by decide) fun l7 n7=>?_
 have s7:Same H6 (upd H6 l7 (.lst (([false,false,false,false,false,false,false,false,false]:List Bool).map V.bl++([false,false]:List Bool).map V.bl))):=(Same.refl H6).laid n7
 have e7:(upd H6 l7 (.lst (([false,false,false,false,false,false,false,false,false]:List Bool).map V.bl++([false,false]:List Bool).map V.bl))) l7=some (.lst (([false,false,false,false,false,false,false,false,false,false,false]:List Bool).map V.bl)):=ae
 generalize upd H6 l7 (.lst (([false,false,false,false,false,false,false,false,false]:List Bool).map V.bl++([false,false]:List Bool).map V.bl))=H7 at*
 have ex7:=(s6.trans s7) _ _ ex5
 walk_at "w"
 refine uZ Z ex7 uG ?_
 refine ⟨_,rfl,iteT ?_⟩
 walk_at "w"
 refine u6 e7 ⟨_,rfl,?_⟩
 have s07:=((((((s.trans s1).trans s2).trans s3).trans s4).trans s5).trans s6).trans s7
 refine ⟨aH (by show (2:Nat)≤1000; decide),fun T hT=>?_⟩
 exact q T _ (s07.trans ((Same.refl H7).laid hT)) ae
theorem nR {K:PySem.W.Frag} {c:RCl RK} {d:RCl PzK} {a:EA} {vs:List V} {H:Hp} {Q:VK} {E:XK} (R:nv K a "TooMany" a.TooMany (lI a)) (h:ba K c d vs H Q E):dP K c d a { nx:=fun _ H'=>Q .non H',rt:=Q } (start ["_law_puzzle","_law_way","_law_caught","_law_found","error","_law_others"] vs) H:=by
 obtain ⟨P,L,G,h,w,g,way,rows,cl,rfl,x,q1,q2⟩:=h
 obtain ⟨dx,p0,rs,h1,h2,h3⟩:=x.ex
 have hcl:cl.length≤16:=by have:=x.C.len; have:=x.R.F.m; omega
 show dP K c d a _ [some (.ref P),some (.int way),none,none,none,none] H
 unfold dP
 walk_at "w"
 refine ⟨fun v _ H'=>v=.ref a.TooMany∧Same H H'∧1024 < freeP g cl,?_,?_⟩
 · walk_at "w"
   split
   · refine ⟨P,L,G,h,w,g,1,rows,cl,rfl,x,by decide,fun hb C hC H' s'=>⟨by rw [Glb.eq hC R.g],s',hb⟩,fun hfree l bs H1 s1 hl xl nl fr=>?_⟩
     obtain ⟨rfl,q1f⟩:=q1 hfree
     have ef:b8 h w g [] cl (zer cl) (1:Int).toNat=[ones cl]:=mR x.C x.R.F
     rw [ef] at xl
     obtain ⟨b,rfl⟩:∃ b,bs=[b]:=List.length_eq_one_iff.mp xl.len
     unfold cj
     rw [bd,aT]
     walk_at "w"
     exact q1f l b H1 s1 xl
   · refine methE (k:=.Puzzle) rfl x.ok h1 (by rfl) ?_
     walk_at "w"
     refine ⟨P,L,G,h,w,g,rows,cl,rfl,x,fun C hC=>?_⟩
     have s1:Same H (upd H C (.lst (cl.map V.int))):=(Same.refl H).laid hC
     have eC:(upd H C (.lst (cl.map V.int))) C=some (.lst (cl.map V.int)):=ae
     generalize upd H C (.lst (cl.map V.int))=H1 at*
     refine ⟨C,rfl,⟨_,SqL.of eC⟩,?_⟩
     refine jA (xs:=cl) (fun _=>true) (fun _=>0) (by omega) (SqL.of eC) ?_ ?_ ?_
     · intro y H2 R2 hy s2 k2
       exact k2 _ (Same.refl _)
     · intro y H2 Q2 hy hb s2 k2
       exact k2 _ (Same.refl _)
     · intro N H2 hN s2 eN
       rw [bi] at eN
       have ez:cl.map (fun _=>(0:Int))=zer cl:=by unfold zer; exact List.map_const' ..
       rw [ez] at eN
       have s12:=s1.trans s2
       refine ⟨P,L,G,N,h,w,g,rows,cl,zer cl,rfl,x.same s12,eN,by unfold zer; simp,fun hb C hC H' s'=>⟨by rw [Glb.eq hC R.g],s12.trans s',hb⟩,fun hfree=>?_⟩
       obtain ⟨rfl,q1f⟩:=q1 hfree
       have ef:b8 h w g [] cl (zer cl) 1=[ones cl]:=mR x.C x.R.F
       refine ⟨fun e=>(by rw [ef] at e; cases e),fun f e b H3 s3 hb eb=>?_⟩
       rw [ef] at e
       cases e
       intro p hp
       have s4:Same H3 (upd H3 p (.lst [.ref b])):=(Same.refl H3).laid hp
       have xl:IsLL (upd H3 p (.lst [.ref b])) p [b] [ones cl]:=by
        refine ⟨ae,rfl,fun j a xs e1 e2=>?_⟩
        have hj:j=0:=by have:=(List.getElem?_eq_some_iff.mp e1).1; simp at this; omega
        subst hj
        cases e1
        cases e2
        exact s4 _ _ eb
       unfold cj
       rw [bd,aT]
       walk_at "w"
       exact q1f p b _ ((s12.trans s3).trans s4) xl
 · rintro C H2 ⟨e1,s2,hb⟩
   cases e1
   refine ⟨R.ex,fun y hy=>?_⟩
   have s3:Same H2 (upd H2 y (.ext (XO y a.TooMany))):=(Same.refl H2).laid hy
   have ey:(upd H2 y (.ext (XO y a.TooMany))) y=some (.ext (XO y a.TooMany)):=ae
   generalize upd H2 y (.ext (XO y a.TooMany))=H3 at*
   walk_at "w"
   unfold cj
   rw [bd,aT]
   walk_at "w"
   rw [decide_eq_false (by intro h; cases h)]
   refine iteF ?_
   exact qw R (s2.trans s3) ey (q2 hb)
def bJ (K:PySem.W.Frag):Sp:=fun vs H Q _=>∃ (a p:Addr) (ns:List Int) (h w g:Int),vs=[.ref a,.ref p]∧SqL K H a (ns.map V.int)∧ns.length≤63∧IsFl H p h w g∧FlOk h w g∧
 ∀ (l:Addr) (H':Hp) (ys:List Int),Same H H'→H l=none→H' l=some (.lst (ys.map V.int))→Q (.ref l) H'
theorem mS {K:PySem.W.Frag} {vs:List V} {H:Hp} {Q:VK} {E:XK} (h:bJ K vs H Q E):vs.length=2:=by
 obtain ⟨_,_,_,_,_,_,rfl,_⟩:=h; rfl
def b9 (K:PySem.W.Frag):TS:=
 (tSeq (tAsg (iS (tCons (tVar 2) tNil)) (gName 6))
  (tSeq (tFor (fZ (tCons (tOp cSub (tVar 2) (tVar 3)) tNil)) (gName 7)
  (tDrop (tBM K "list" mn (tVar 6) (tCons (tOp cMod (tCall (aM K) [] E0 (tCons (tVar 0) (tCons (tOp cAdd (tC (.int 4)) (tVar 7)) tNil))) (tCB kLen (tCons (tVar 6) tNil))) tNil))))
  (tRet (tVar 6))))
def dz (K:PySem.W.Frag):TS:=
 (tSeq (tAsg (tOp cMod (tCall (aM K) [] E0 (tCons (tVar 0) (tCons (tC (.int 3)) tNil))) (tC (.int 3))) (gName 5))
  (tSeq (tIfS (tTest (tOp (cEq K) (tVar 5) (tC (.int 1)))) (tAsg (tCB kMin (tCons (tVar 2) (tCons (tOp cAdd (tVar 3) (tC (.int 1))) tNil))) (gName 3)) tNext)
  (tSeq (tIfS (tTest (tOp (cEq K) (tVar 5) (tC (.int 2)))) (tAsg (tOp cMod (tOp cDiv (tCall (aM K) [] E0 (tCons (tVar 0) (tCons (tC (.int 3)) tNil))) (tC (.int 3))) (tOp cAdd (tVar 2) (tC (.int 1)))) (gName 3)) tNext)
  (b9 K))))
def dh (K:PySem.W.Frag):TS:=
 (tSeq (tAsg (tOp cMul (tOp cIx (tVar 1) (tC (.int 0))) (tOp cIx (tVar 1) (tC (.int 1)))) (gName 2))
  (tSeq (tAsg (tC (.int 0)) (gName 3))
  (tSeq (tAsg (tC (.int 1)) (gName 4))
  (tSeq (pD (tAnd (tTest (tOp (cCmp fun i j=>decide (i < j)) (tVar 3) (tVar 2))) (tTest (tOp (cCmp fun i j=>decide (i≤j)) (tOp cMul (tVar 4) (tOp cIx (tVar 1) (tC (.int 2)))) (tC (.int 1024)))))
  (tSeq (tAsg (tOp cMul (tVar 4) (tOp cIx (tVar 1) (tC (.int 2)))) (gName 4))
  (tAsg (tOp cAdd (tVar 3) (tC (.int 1))) (gName 3))))
  (dz K)))))
theorem jK {K:PySem.W.Frag} {H:Hp} {Q:VK} {a p:Addr} {ns:List Int} {h w g r:Int} {v4 v5:Option V} (hS:SqL K H a (ns.map V.int)) (hn:ns.length≤63) (F:FlOk h w g) (r0:0≤r) (r1:r≤h*w)
  (q:∀ (l:Addr) (H':Hp) (ys:List Int),Same H H'→H l=none→H' l=some (.lst (ys.map V.int))→Q (.ref l) H'):
  b9 K { nx:=fun _ H'=>Q .non H',rt:=Q } [some (.ref a),some (.ref p),some (.int (h*w)),some (.int r),v4,v5,none,none] H:=by
 obtain ⟨h0,h1,w0,w1,m16,g0,g1⟩:=id F
 unfold b9
 walk_at "w"
 refine ⟨h*w,rfl,by omega,by omega,fun L hL=>?_⟩
 have s1:Same H (upd H L (.lst ((rngL 0 (h*w)).map V.int))):=(Same.refl H).laid hL
 have eL:(upd H L (.lst ((rngL 0 (h*w)).map V.int))) L=some (.lst ((rngL 0 (h*w)).map V.int)):=ae
 generalize upd H L (.lst ((rngL 0 (h*w)).map V.int))=H1 at*
 refine ⟨h*w - r,rfl,by omega,by omega,?_⟩
 refine nX (fun i σ H'=>∃ (kv:Option V) (ls:List Int),σ=[some (.ref a),some (.ref p),some (.int (h*w)),some (.int r),v4,v5,some (.ref L),kv]∧Same H H'∧H' L=some (.lst (ls.map V.int))∧ls.length+i=(h*w).toNat)
  ⟨none,rngL 0 (h*w),rfl,s1,eL,by rw [dt]; omega⟩ ?_ ?_
 · rintro i σ H2 hi ⟨kv,ls,rfl,s2,e1,hl⟩
   have hpos:0 < (ls.length:Int):=by omega
   walk_at "w"
   refine ⟨eE e1,a,ns,_,rfl,s2.seq hS,hn,by omega,by omega,?_⟩
   walk_at "w"
   rw [fi e1,List.length_map]
   refine ⟨hpos,?_⟩
   generalize lawAt ns (4+(0+(i:Int)))=y at*
   have j0:=Int.emod_nonneg y (Int.ne_of_gt hpos)
   have j1:=Int.emod_lt_of_pos y hpos
   generalize y % (ls.length:Int)=j at*
   have hj:j.toNat < ls.length:=by omega
   refine vB e1 j0 (by rw [List.length_map]; omega) (y:=V.int ls[j.toNat]) (by rw [List.getElem?_map,List.getElem?_eq_getElem hj]; rfl) ?_
   refine ⟨_,ls.eraseIdx j.toNat,rfl,s2.own hL,by rw [ae,oz],?_⟩
   rw [List.length_eraseIdx,if_pos hj]
   omega
 · rintro σ H2 ⟨kv,ls,rfl,s2,e1,hl⟩
   walk_at "w"
   exact q L H2 ls s2 hL e1
theorem jL {K:PySem.W.Frag} {H:Hp} {Q:VK} {a p:Addr} {ns:List Int} {h w g r:Int} {v4:Option V} (hS:SqL K H a (ns.map V.int)) (hn:ns.length≤63) (F:FlOk h w g) (r0:0≤r) (r1:r≤h*w)
  (q:∀ (l:Addr) (H':Hp) (ys:List Int),Same H H'→H l=none→H' l=some (.lst (ys.map V.int))→Q (.ref l) H'):
  dz K { nx:=fun _ H'=>Q .non H',rt:=Q } [some (.ref a),some (.ref p),some (.int (h*w)),some (.int r),v4,none,none,none] H:=by
 obtain ⟨h0,h1,w0,w1,m16,g0,g1⟩:=id F
 have mpos:1≤h*w:=Int.le_trans (by omega) (Int.mul_le_mul h0 w0 (by omega) (by omega))
 unfold dz
 walk_at "w"
 refine ⟨a,ns,3,rfl,hS,hn,by decide,by decide,?_⟩
 walk_at "w"
 refine ⟨by decide,?_⟩
 generalize hz:lawAt ns 3 % 3=z
 rw [aT]
 walk_at "w"
 have two:∀ r2:Int,0≤r2→r2≤h*w→tIfS (tTest (tOp (cEq K) (tVar 5) (tC (.int 2)))) (tAsg (tOp cMod (tOp cDiv (tCall (aM K) [] E0 (tCons (tVar 0) (tCons (tC (.int 3)) tNil))) (tC (.int 3))) (tOp cAdd (tVar 2) (tC (.int 1)))) (gName 3)) tNext { nx:=b9 K { nx:=fun _ H'=>Q .non H',rt:=Q },rt:=Q } [some (.ref a),some (.ref p),some (.int (h*w)),some (.int r2),v4,some (.int z),none,none] H:=fun r2 a0 a1=>by
  rw [aT]
  walk_at "w"
  by_cases h2:z=2
  · rw [decide_eq_true h2]
    refine iteT ⟨a,ns,3,rfl,hS,hn,by decide,by decide,?_⟩
    walk_at "w"
    refine ⟨⟨by decide,by decide⟩,by omega,?_⟩
    have b0:=Int.emod_nonneg (lawAt ns 3 / 3) (show h*w+1≠0 by omega)
    have b1:=Int.emod_lt_of_pos (lawAt ns 3 / 3) (show 0 < h*w+1 by omega)
    exact jK hS hn F b0 (by omega) q
  · rw [decide_eq_false h2]
    exact iteF (jK hS hn F a0 a1 q)
 by_cases h1:z=1
 · rw [decide_eq_true h1]
   refine iteT ?_
   by_cases hm:r+1 < h*w
   · rw [if_pos hm]; exact two _ (by omega) (by omega)
   · rw [if_neg hm]; exact two _ (by omega) (by omega)
 · rw [decide_eq_false h1]
   exact iteF (two r r0 r1)
theorem mT {K:PySem.W.Frag} {vs:List V} {H:Hp} {Q:VK} {E:XK} (h:bJ K vs H Q E):dh K { nx:=fun _ H'=>Q .non H',rt:=Q } (start ["_law_script","_law_floor_here","_law_many","_law_room","_law_product","_law_way","_law_left","_law_k"] vs) H:=by
 obtain ⟨a,p,ns,h,w,g,rfl,hS,hn,hp,F,q⟩:=h
 obtain ⟨h0,h1,w0,w1,m16,g0,g1⟩:=id F
 have mpos:0≤h*w:=Int.mul_nonneg (by omega) (by omega)
 show dh K _ [some (.ref a),some (.ref p),none,none,none,none,none,none] H
 unfold dh
 walk_at "w"
 refine ixT hp (v:=V.int h) rfl ?_
 walk_at "w"
 refine ixT hp (v:=V.int w) rfl ?_
 walk_at "w"
 refine ⟨iT h0 h1,?_⟩
 refine ⟨fun m σ H'=>H'=H∧∃ (r:Nat) (pr:Int),σ=[some (.ref a),some (.ref p),some (.int (h*w)),some (.int (r:Int)),some (.int pr),none,none,none]∧r≤(h*w).toNat∧m=(h*w).toNat - r,⟨_,rfl,0,1,rfl,Nat.zero_le _,rfl⟩,?_⟩
 rintro m σ H1 ⟨rfl,r,pr,rfl,hr,rfl⟩
 walk_at "w"
 by_cases c1:(r:Int) < h*w
 · rw [decide_eq_true c1,if_pos rfl]
   refine ixT hp (v:=V.int g) rfl ?_
   walk_at "w"
   refine ⟨.inr ⟨by omega,by omega⟩,?_⟩
   by_cases c2:pr*g≤1024
   · rw [decide_eq_true c2,if_pos rfl]
     refine ⟨fun σ H'=>H'=H1∧σ=[some (.ref a),some (.ref p),some (.int (h*w)),some (.int ((r+1:Nat):Int)),some (.int (pr*g)),none,none,none],fun σ' H' ⟨e1,e2⟩=>⟨(h*w).toNat - (r+1),by omega,e1,r+1,pr*g,e2,by omega,rfl⟩,?_⟩
     walk_at "w"
     refine ixT hp (v:=V.int g) rfl ?_
     walk_at "w"
     exact ⟨.inr ⟨by omega,by omega⟩,trivial,rfl⟩
   · rw [decide_eq_false c2,if_neg Bool.false_ne_true]
     exact jL hS hn F (by omega) (by omega) q
 · rw [decide_eq_false c1,if_neg Bool.false_ne_true]
   exact jL hS hn F (by omega) (by omega) q
theorem mU {K:PySem.W.Frag} {H:Hp} {T:Addr} (h:H T=some (.tup [.str (tx refTx),.bl true])):DV K H (.ref T) (.tuple [.str (tx refTx),.bool true]):=.tup (SqT.of h) (.cons (.str _) (.cons (.bl _) .nil))
theorem vP {K:PySem.W.Frag} {H:Hp} {Q:VK} {S T:Addr} (hS:H S=some (.tup [.str (tx refTx),.bl true])) (hT:H T=some (.tup [.str (tx refTx),.bl true])) (q:Q (.bl true) H):cEq K (.ref S) (.ref T) H Q:=by
 show rEqD K (.ref S) (.ref T) H Q
 refine ⟨_,_,mU hS,mU hT,by decide+kernel,by decide+kernel,?_⟩
 have e:PyData.eqv (.tuple [.str (tx refTx),.bool true]) (.tuple [.str (tx refTx),.bool true])=true:=by decide+kernel
 rw [e]
 exact q
theorem uT {h w g:Int} {cl:List Int} {i:Nat} (F:FlOk h w g) (C:CluesOk h w g cl) (hm:3≤cl.length) (hi:i < 3):RR.Ok ⟨.Unlike,0,0,(List.range cl.length).drop i,((List.range cl.length).drop i).map fun (n:Nat)=>(n:Int)⟩ h w g:=by
 have hcl:cl.length≤16:=by have:=C.len; have:=F.m; omega
 have mem:∀ x∈(List.range cl.length).drop i,x < cl.length:=fun x hx=>List.mem_range.mp (List.mem_of_mem_drop hx)
 refine ⟨(by decide:RK.Unlike≠RK.Rule),(by decide:(0:Nat)≤99),fun _=>rfl,fun e=>(by cases e),fun _=>rfl,⟨fun _=>⟨?_,by rw [List.length_drop,List.length_range]; omega,fun n hn=>?_,List.Nodup.sublist (List.drop_sublist _ _) List.nodup_range,rfl⟩,fun e=>(by cases e)⟩,fun x hx=>by have:=mem x hx; show x < 100; omega,by show ((List.range cl.length).drop i).length≤16; rw [List.length_drop,List.length_range]; omega⟩
 · intro e
   have:=congrArg List.length e
   rw [List.length_drop,List.length_range] at this
   simp at this
   omega
 · have:=mem n hn
   have:=C.len
   omega
def qx (K:PySem.W.Frag) (c:RCl RK) (d:RCl PzK):Sp:=fun vs H Q _=>∃ (a:Addr) (ns:List Int),vs=[.ref a]∧SqL K H a (ns.map V.int)∧ns.length≤63∧(∀ k,k≠.Rule→c.ok k=true)∧d.ok .Puzzle=true∧∀ H',Q (.bl true) H'
def nS (K:PySem.W.Frag):Sp:=fun vs H Q _=>∃ (a:Addr) (ns:List Int),vs=[.ref a]∧SqL K H a (ns.map V.int)∧ns.length≤63∧∀ H',Q (.bl true) H'
theorem wK {K:PySem.W.Frag} {c:RCl RK} {d:RCl PzK} {vs:List V} {H:Hp} {Q:VK} {E:XK} (h:qx K c d vs H Q E):vs.length=1:=by
 obtain ⟨_,_,rfl,_⟩:=h; rfl
def oH (K:PySem.W.Frag) (c:RCl RK) (d:RCl PzK):TS:=
 (tRet (tAndV (tOp (cEq K) (tCall (ba K c d) [] E0 (tCons (tVar 9) (tCons (tC (.int 0)) tNil))) (tVar 6)) (tAndV (tOp (cEq K) (tCall (ba K c d) [] E0 (tCons (tVar 9) (tCons (tC (.int 1)) tNil))) (tVar 6)) (tOp (cEq K) (tCall (ba K c d) [] E0 (tCons (tVar 9) (tCons (tC (.int 0)) tNil))) (tVar 6)))))
def ku (K:PySem.W.Frag) (c:RCl RK) (d:RCl PzK):TS:=
 (tSeq (tAsg (tMake (d.A .Puzzle) (aR K c d) [] E0 (tCons (tVar 1) (tCons (tVar 7) (tCons (tVar 3) tNil)))) (gName 9))
  (oH K c d))
def kx (K:PySem.W.Frag) (c:RCl RK) (d:RCl PzK):TS:=
 (tSeq (tAsg (tLst (tCons (tComp [none,none] (iList K (tVar 3)) (gName 1) tTrue (tCB kMax (tCons (tC (.int 1)) (tCons (tVar 1) tNil)))) tNil)) (gName 6))
  (tSeq (tAsg (tLst tNil) (gName 7))
  (tSeq (tIfS (tTest (tOp (cCmp fun i j=>decide (j < i)) (tVar 4) (tC (.int 1024)))) (tSeq (tAsg (tTup (tCons (tC (.str (tx [114,101,102,117,115,101,100]))) (tCons (tC (.bl true)) tNil))) (gName 6))
  (tSeq (tAsg (tComp [none,none] (fZ (tCons (tCB kLen (tCons (tVar 3) tNil)) tNil)) (gName 1) tTrue (tCB kStr (tCons (tVar 1) tNil))) (gName 8))
  (sComp 7 [none,none,some 8] (fZ (tCons (tOp cMod (tCall (aM K) [] E0 (tCons (tVar 0) (tCons (tC (.int 19)) tNil))) (tC (.int 3))) tNil)) (gName 1) tTrue (tBM K "str" kn (tC (.str (tx [32]))) (tCons (tOp cAdd (tLst (tCons (tC (.str (tx [117,110,108,105,107,101]))) tNil)) (tSl iY (tVar 2) (tPart (tVar 1)) dC)) tNil))))) tNext)
  (ku K c d))))
def mV (K:PySem.W.Frag) (c:RCl RK) (d:RCl PzK):TS:=
 (tSeq (tAsg (tCall (bX K) [] E0 (tCons (tVar 0) tNil)) (gName 1))
  (tSeq (tAsg (tCall (bJ K) [] E0 (tCons (tVar 0) (tCons (tVar 1) tNil))) (gName 2))
  (tSeq (tAsg (tLst tNil) (gName 3))
  (tSeq (tAsg (tC (.int 1)) (gName 4))
  (tSeq (tFor (fZ (tCons (tOp cMul (tOp cIx (tVar 1) (tC (.int 0))) (tOp cIx (tVar 1) (tC (.int 1)))) tNil)) (gName 5)
  (tIfS (tTest (tOp (cIn K false) (tVar 5) (tVar 2))) (tSeq (tDrop (tBM K "list" bO (tVar 3) (tCons (tC (.int 0)) tNil)))
  (tAsg (tOp cMul (tVar 4) (tOp cIx (tVar 1) (tC (.int 2)))) (gName 4))) (tDrop (tBM K "list" bO (tVar 3) (tCons (tOp cAdd (tC (.int 1)) (tOp cMod (tCall (aM K) [] E0 (tCons (tVar 0) (tCons (tOp cAdd (tC (.int 20)) (tVar 5)) tNil))) (tOp cIx (tVar 1) (tC (.int 2))))) tNil)))))
  (kx K c d))))))
def Due47 (H:Hp) (D:Addr) (g:Int) (rows:List RR) (cl:List Int):Prop:=(freeP g cl≤1024∧rows=[]∧∃ b,IsLL H D [b] [ones cl])∨(1024 < freeP g cl∧H D=some (.tup [.str (tx refTx),.bl true]))
theorem Due47.same {H H':Hp} {D:Addr} {g:Int} {rows:List RR} {cl:List Int} (x:Due47 H D g rows cl) (s:Same H H'):Due47 H' D g rows cl:=
 x.elim (fun ⟨h1,h2,b,h3⟩=>.inl ⟨h1,h2,b,h3.same s⟩) fun ⟨h1,h2⟩=>.inr ⟨h1,s _ _ h2⟩
theorem qy {K:PySem.W.Frag} {c:RCl RK} {d:RCl PzK} {H:Hp} {Q:VK} {P L G D:Addr} {h w g way:Int} {rows:List RR} {cl:List Int} (x:IsPz H c d P L G h w g rows cl) (Y:Due47 H D g rows cl) (q:∀ H',Same H H'→Q (.bl true) H'):ba K c d [.ref P,.int way] H (fun v H1=>cEq K v (.ref D) H1 Q) E0:=by
 refine ⟨P,L,G,h,w,g,way,rows,cl,rfl,x,fun hf=>?_,fun hf T H1 s1 eT=>?_⟩
 · rcases Y with ⟨_,er,b,xD⟩ | ⟨h2,_⟩
   · refine ⟨er,fun l b2 H1 s1 xl=>wt xl (xD.same s1) ?_⟩
     rw [decide_eq_true rfl]
     exact q _ s1
   · omega
 · rcases Y with ⟨h2,_⟩ | ⟨_,eD⟩
   · omega
   · exact vP eT (s1 _ _ eD) (q _ s1)
theorem oI {K:PySem.W.Frag} {c:RCl RK} {d:RCl PzK} {H:Hp} {Q:VK} {p Cl D Ll:Addr} {h w g:Int} {rows:List RR} {cl:List Int} {v0 v2 v4 v5 v8:Option V} (ok:d.ok .Puzzle=true) (hp:IsFl H p h w g) (R:ik c h w g rows) (C:CluesOk h w g cl) (hL:H Ll=some (.lst ((rows.map RR.txt).map V.str))) (hC:H Cl=some (.lst (cl.map V.int))) (Y:Due47 H D g rows cl) (k:∀ H',Q (.bl true) H'):
  ku K c d { nx:=fun _ H'=>Q .non H',rt:=Q } [v0,some (.ref p),v2,some (.ref Cl),v4,v5,some (.ref D),some (.ref Ll),v8,none] H:=by
 unfold ku
 walk_at "w"
 refine wH ok hp hL hC R C fun P L G H8 s8 hP hL hG x=>?_
 have Y8:=Y.same s8
 unfold oH
 walk_at "w"
 refine qy x Y8 fun H1 s1=>?_
 refine ⟨_,rfl,iteT ?_⟩
 walk_at "w"
 refine qy (x.same s1) (Y8.same s1) fun H2 s2=>?_
 have s12:=s1.trans s2
 refine ⟨_,rfl,iteT ?_⟩
 walk_at "w"
 exact qy (x.same s12) (Y8.same s12) fun H3 _=>k H3
theorem uh {K:PySem.W.Frag} {c:RCl RK} {d:RCl PzK} {H:Hp} {Q:VK} {a p Cl:Addr} {ns:List Int} {h w g:Int} {cl:List Int} {v2 v5:Option V} (hS:SqL K H a (ns.map V.int)) (hn:ns.length≤63) (hk:∀ k,k≠.Rule→c.ok k=true) (ok:d.ok .Puzzle=true) (hp:IsFl H p h w g) (F:FlOk h w g) (C:CluesOk h w g cl) (hC:H Cl=some (.lst (cl.map V.int))) (k:∀ H',Q (.bl true) H'):
  kx K c d { nx:=fun _ H'=>Q .non H',rt:=Q } [some (.ref a),some (.ref p),v2,some (.ref Cl),some (.int (freeP g cl)),v5,none,none,none,none] H:=by
 obtain ⟨h0,h1,w0,w1,m16,g0,g1⟩:=id F
 have mpos:0≤h*w:=Int.mul_nonneg (by omega) (by omega)
 have hcl:cl.length≤16:=by have:=C.len; omega
 unfold kx
 walk_at "w"
 refine ⟨⟨_,SqL.of hC⟩,?_⟩
 refine jA (xs:=cl) (fun _=>true) (fun c=>if c > 1 then c else 1) (by omega) (SqL.of hC) ?_ ?_ ?_
 · intro y H1 R1 hy s1 k1
   exact k1 _ (Same.refl _)
 · intro y H1 Q1 hy hb s1 k1
   show tCB kMax _ [none,some (.int y)] H1 Q1
   walk_at "w"
   exact k1 _ (Same.refl _)
 · intro b H1 hb s1 eb
   rw [bi] at eb
   walk_at "w"
   refine ⟨aH (by show (1:Nat)≤1000; decide),fun D hD=>?_⟩
   have s2:Same H1 (upd H1 D (.lst [V.ref b])):=(Same.refl H1).laid hD
   have xD:IsLL (upd H1 D (.lst [V.ref b])) D [b] [ones cl]:=by
    refine ⟨ae,rfl,fun j a xs e1 e2=>?_⟩
    have hj:j=0:=by have:=(List.getElem?_eq_some_iff.mp e1).1; simp at this; omega
    subst hj
    cases e1
    cases e2
    exact s2 _ _ eb
   generalize upd H1 D (.lst [V.ref b])=H2 at*
   refine ⟨aH (by show (0:Nat)≤1000; decide),fun Ll hLl=>?_⟩
   have s3:Same H2 (upd H2 Ll (.lst [])):=(Same.refl H2).laid hLl
   have eL:(upd H2 Ll (.lst [])) Ll=some (.lst ((([]:List RR).map RR.txt).map V.str)):=ae
   generalize upd H2 Ll (.lst [])=H3 at*
   have s13:=(s1.trans s2).trans s3
   have xD3:=xD.same s3
   rw [aT]
   walk_at "w"
   by_cases hf:1024 < freeP g cl
   · rw [decide_eq_true hf]
     have hmany:3≤cl.length:=by
      refine Nat.le_of_not_lt fun hlt=>?_
      have h1:freeP g cl≤216:=by
       unfold freeP
       rw [qq,Int.one_mul]
       have h2:(cl.filter fun c=>decide (c=0)).length≤3:=Nat.le_trans (List.length_filter_le _ _) (by omega)
       refine Int.le_trans (ug g0 h2) ?_
       have:g=1∨g=2∨g=3∨g=4∨g=5∨g=6:=by omega
       rcases this with rfl | rfl | rfl | rfl | rfl | rfl <;> decide
      omega
     refine iteT ⟨aH (by show (2:Nat)≤1000; decide),fun T hT=>?_⟩
     have s4:Same H3 (upd H3 T (.tup [.str (tx refTx),.bl true])):=(Same.refl H3).laid hT
     have eT:(upd H3 T (.tup [.str (tx refTx),.bl true])) T=some (.tup [.str (tx refTx),.bl true]):=ae
     generalize upd H3 T (.tup [.str (tx refTx),.bl true])=H4 at*
     have s14:=s13.trans s4
     rw [fi (s14 _ _ hC),List.length_map]
     refine ⟨_,rfl,by omega,by omega,?_⟩
     refine k9 (fun _=>true) (fun i=>.str (tx (numC i))) (by omega) ?_ ?_ ?_
     · intro i H5 R5 hi s5 k5
       exact k5 _ (Same.refl _)
     · intro i H5 Q5 hi hb5 s5 k5
       show tCB kStr _ [none,some (.int (0+(i:Int)))] H5 Q5
       rw [Int.zero_add]
       walk_at "w"
       exact vI (by omega) (k5 _ (Same.refl H5))
     · intro W H5 hW s5 eW
       have eW2:H5 W=some (.lst ((((List.range cl.length).map numC).map tx).map V.str)):=by
        rw [eW,bi,List.map_map,List.map_map,Int.toNat_natCast]; rfl
       walk_at "w"
       have s15:=s14.trans s5
       refine ⟨a,ns,19,rfl,s15.seq hS,hn,by decide,by decide,?_⟩
       walk_at "w"
       have b0:=Int.emod_nonneg (lawAt ns 19) (show (3:Int)≠0 by decide)
       have b1:=Int.emod_lt_of_pos (lawAt ns 19) (show (0:Int) < 3 by decide)
       refine ⟨by decide,?_⟩
       generalize lawAt ns 19 % 3=mm at*
       refine ⟨mm,rfl,by omega,by omega,?_⟩
       refine t5 (c:=c) (h:=h) (w:=w) (g:=g) F (by omega) hk ?_ ?_
       · intro i H6 Q6 hi s6 k6
         show tBM _ _ _ _ _ [none,some (.int (0+(i:Int))),some (.ref W)] H6 Q6
         rw [Int.zero_add]
         walk_at "w"
         refine ⟨uY,aH (by show (1:Nat)≤1000; decide),fun U hU=>?_⟩
         have s7:Same H6 (upd H6 U (.lst [V.str (tx [117,110,108,105,107,101])])):=(Same.refl H6).laid hU
         have eU:(upd H6 U (.lst [V.str (tx [117,110,108,105,107,101])])) U=some (.lst [V.str (tx [117,110,108,105,107,101])]):=ae
         generalize upd H6 U (.lst [V.str (tx [117,110,108,105,107,101])])=H7 at*
         refine pz ((s6.trans s7) _ _ eW2) fun U2 hU2=>?_
         have ec:cutV ((((List.range cl.length).map numC).map tx).map V.str) (some (i:Int)) none=(((((List.range cl.length).drop i).map numC).map tx).map V.str):=by
          rw [ud V.str _ (by simp; omega),← List.map_drop,← List.map_drop]
         rw [ec]
         have s8:Same H7 (upd H7 U2 (.lst (((((List.range cl.length).drop i).map numC).map tx).map V.str))):=(Same.refl H7).laid hU2
         have eU2:(upd H7 U2 (.lst (((((List.range cl.length).drop i).map numC).map tx).map V.str))) U2=some (.lst (((((List.range cl.length).drop i).map numC).map tx).map V.str)):=ae
         generalize upd H7 U2 (.lst (((((List.range cl.length).drop i).map numC).map tx).map V.str))=H8 at*
         refine jm (s8 _ _ eU) eU2 (by simp; omega) fun r hr=>?_
         have s9:Same H8 (upd H8 r (.lst ([V.str (tx [117,110,108,105,107,101])]++((((List.range cl.length).drop i).map numC).map tx).map V.str))):=(Same.refl H8).laid hr
         have er:(upd H8 r (.lst ([V.str (tx [117,110,108,105,107,101])]++((((List.range cl.length).drop i).map numC).map tx).map V.str))) r=some (.lst (((rowW .Unlike 0 0 ((List.range cl.length).drop i)).map tx).map V.str)):=by rw [ae]; rfl
         generalize upd H8 r (.lst ([V.str (tx [117,110,108,105,107,101])]++((((List.range cl.length).drop i).map numC).map tx).map V.str))=H9 at*
         have hw:∀ t∈rowW .Unlike 0 0 ((List.range cl.length).drop i),t.length≤100:=fun t ht=>by
          rcases List.mem_cons.mp ht with rfl | ht
          · decide
          · have ht:t∈((List.range cl.length).drop i).map numC:=ht
            obtain ⟨y,_,rfl⟩:=List.mem_map.mp ht
            exact Nat.le_trans nB (by decide)
         refine vD er (pV (by show ((List.drop i (List.range cl.length)).map numC |>.map tx).length+1≤1000; rw [List.length_map,List.length_map,List.length_drop,List.length_range]; omega) (fun t ht=>by obtain ⟨y,hy,rfl⟩:=List.mem_map.mp ht; rw [hJ]; have:=hw y hy; omega) (by rw [hJ]; decide)) ?_
         rw [uz,nq]
         exact k6 ⟨.Unlike,0,0,(List.range cl.length).drop i,((List.range cl.length).drop i).map fun (n:Nat)=>(n:Int)⟩ H9 ((s7.trans s8).trans s9) (uT F C hmany (by omega))
       · intro Ll2 rows H6 hLl2 s6 eLl hlen R
         have s16:=s15.trans s6
         exact oI ok (s16 _ _ hp) R C eLl (s16 _ _ hC) (.inr ⟨hf,(s5.trans s6) _ _ eT⟩) k
   · rw [decide_eq_false hf]
     refine iteF ?_
     exact oI ok (s13 _ _ hp) ⟨F,Nat.zero_le _,fun r hr=>absurd hr (by simp),fun r hr=>absurd hr (by simp)⟩ C eL (s13 _ _ hC) (.inl ⟨by omega,rfl,b,xD3⟩) k
theorem wL {K:PySem.W.Frag} {c:RCl RK} {d:RCl PzK} {vs:List V} {H:Hp} {Q:VK} {E:XK} (h:qx K c d vs H Q E):mV K c d { nx:=fun _ H'=>Q .non H',rt:=Q } (start ["_law_script","_law_floor_here","_law_empty_here","_law_clues","_law_product","_law_cell","_law_due","_law_lines","_law_cells","_law_puzzle"] vs) H:=by
 obtain ⟨a,ns,rfl,hS,hn,hk,ok,k⟩:=h
 show mV K c d _ [some (.ref a),none,none,none,none,none,none,none,none,none] H
 unfold mV
 walk_at "w"
 refine ⟨a,ns,rfl,hS,hn,fun p hp=>?_⟩
 have F:=lawFl ns
 generalize lawH ns=h at*
 generalize lawW ns=w at*
 generalize lawG ns=g at*
 obtain ⟨h0,h1,w0,w1,m16,g0,g1⟩:=id F
 have mpos:0≤h*w:=Int.mul_nonneg (by omega) (by omega)
 have s1:Same H (upd H p (.tup [.int h,.int w,.int g])):=(Same.refl H).laid hp
 have ep:IsFl (upd H p (.tup [.int h,.int w,.int g])) p h w g:=ae
 generalize upd H p (.tup [.int h,.int w,.int g])=H1 at*
 walk_at "w"
 refine ⟨a,p,ns,h,w,g,rfl,s1.seq hS,hn,ep,F,fun M H2 ys s2 hM eM=>?_⟩
 have s12:=s1.trans s2
 walk_at "w"
 refine ⟨aH (by show (0:Nat)≤1000; decide),fun Cl hCl=>?_⟩
 have s3:Same H2 (upd H2 Cl (.lst [])):=(Same.refl H2).laid hCl
 have eC:(upd H2 Cl (.lst [])) Cl=some (.lst (([]:List Int).map V.int)):=ae
 generalize upd H2 Cl (.lst [])=H3 at*
 have s13:=s12.trans s3
 have hCl1:H1 Cl=none:=s2.free hCl
 refine ixT ((s2.trans s3) _ _ ep) (v:=V.int h) rfl ?_
 walk_at "w"
 refine ixT ((s2.trans s3) _ _ ep) (v:=V.int w) rfl ?_
 walk_at "w"
 refine ⟨iT h0 h1,h*w,rfl,by omega,by omega,?_⟩
 refine nX (fun i σ H'=>∃ (v5:Option V) (cl:List Int),σ=[some (.ref a),some (.ref p),some (.ref M),some (.ref Cl),some (.int (freeP g cl)),v5,none,none,none,none]∧Same H2 H'∧H' Cl=some (.lst (cl.map V.int))∧cl.length=i∧∀ x∈cl,0≤x∧x≤g)
  ⟨none,[],rfl,s3,eC,rfl,fun x hx=>nomatch hx⟩ ?_ ?_
 · rintro i σ H4 hi ⟨v5,cl,rfl,s4,e4,hl,hx⟩
   have s24:=s2.trans s4
   rw [bh,Int.zero_add]
   have one:∀ z:Int,freeP g (cl++[z])=if z=0 then freeP g cl*g else freeP g cl:=fun z=>by unfold freeP; rw [List.foldl_append]; rfl
   have okz:∀ z:Int,0≤z→z≤g→∀ x∈cl++[z],0≤x∧x≤g:=fun z z0 z1 x hm=>by
    rcases List.mem_append.mp hm with hm | hm
    · exact hx x hm
    · rw [List.mem_singleton.mp hm]; exact ⟨z0,z1⟩
   rw [aT]
   walk_at "w"
   rw [rR (s4 _ _ eM)]
   refine ⟨_,rfl,?_⟩
   cases decide ((i:Int)∈ys) with
   | true=>
    refine iteT ⟨eE e4,?_⟩
    rw [g5 e4]
    refine ⟨by rw [List.length_map]; exact aD (by omega),?_⟩
    have s5:=s4.own (o:=.lst (cl.map V.int++[V.int 0])) hCl
    have ep5:=s5 _ _ (s2 _ _ ep)
    have e5:(upd H4 Cl (.lst (cl.map V.int++[V.int 0]))) Cl=some (.lst ((cl++[0]).map V.int)):=by rw [ae]; simp
    generalize upd H4 Cl (.lst (cl.map V.int++[V.int 0]))=H5 at*
    refine ixT ep5 (v:=V.int g) rfl ?_
    walk_at "w"
    refine ⟨.inr ⟨by omega,by omega⟩,some (.int (i:Int)),cl++[0],?_,s5,e5,by simp [hl],okz 0 (by omega) (by omega)⟩
    rw [one 0,if_pos rfl]
   | false=>
    refine iteF ⟨eE e4,a,ns,_,rfl,(s1.trans s24).seq hS,hn,by omega,by omega,?_⟩
    walk_at "w"
    refine ixT (s24 _ _ ep) (v:=V.int g) rfl ?_
    walk_at "w"
    have b0:=Int.emod_nonneg (lawAt ns (20+(i:Int))) (show g≠0 by omega)
    have b1:=Int.emod_lt_of_pos (lawAt ns (20+(i:Int))) (show 0 < g by omega)
    refine ⟨by omega,?_⟩
    generalize lawAt ns (20+(i:Int)) % g=z at*
    rw [g5 e4]
    refine ⟨by rw [List.length_map]; exact aD (by omega),some (.int (i:Int)),cl++[1+z],?_,s4.own hCl,by rw [ae]; simp,by simp [hl],okz _ (by omega) (by omega)⟩
    rw [one (1+z),if_neg (by omega)]
 · rintro σ H4 ⟨v5,cl,rfl,s4,e4,hl,hx⟩
   have s24:=s2.trans s4
   exact uh ((s1.trans s24).seq hS) hn hk ok (s24 _ _ ep) F ⟨hl,hx⟩ e4 k
end L2
namespace L2
open PySem PySem.Spec PyProof.Rows
end L2
namespace L2
open PySem PySem.Spec PyProof.Rows
end L2
namespace L2
open PySem PySem.Spec PyProof.Rows
structure FunD (K:PySem.W.Frag) (x qual:Str) (st:Stmt) (f:Addr) (fd:FuncData) (ds:List Value):Prop where
 ex:∃ (oc:Value) (od:Option Addr) (dT:Addr) (kV doc pm:Value) (an:Option Addr) (cdv ct:Value) (osl:Array (Option Value)),
  fd=PySem.W.fnOf x qual (aN st) (aK st) (ah st) (.ref dT) kV doc pm an cdv ct∧K.lookup f=some ⟨oc,od,.func fd,osl⟩∧PySem.W.codeIn K cdv qual=true∧
  ∃ (c:Value) (d:Option Addr) (n:Nat) (sl:Array (Option Value)),K.lookup dT=some ⟨c,d,.seq ds.toArray n,sl⟩
 kp:PySem.W.keepIn K (.ref f)=true
section
variable {P:Program} {w:World} {K:PySem.W.Frag} {mg:Str→Option Value} {base:Heap}
theorem FunD.ok1 {x qual:Str} {st:Stmt} {f:Addr} {fd:FuncData} {ds:List Value} {N ps:List Str} {k:Nat} {sp:Sp} (F:FunD K x qual st f fd ds) (S:am N ps (ah st)) (len:∀ vs H Q E,sp vs H Q E→vs.length=ps.length)
  (hbody:∀ (cdv:Value) (A:Around) (outer:List Env) (s:Shared) (H:Hp) (vs:List V) (Q:VK) (E:XK),Room k (A.deeper (envOfC qual (ah st) s.heap.objs.size f cdv))→sp vs H Q E→
   ∃ t,PSs (cx1 P w K mg base N qual (ah st) f cdv A outer s H E) (aK st) t∧t { nx:=fun _ H'=>Q .non H',rt:=Q } (start N vs) H):FnOk P w K mg base (CX1 P w) (k+1) f fd ps sp:=by
 obtain ⟨oc,od,dT,kV,doc,pm,an,cdv,ct,osl,rfl,lk,hcd,_⟩:=F.ex
 exact rO lk hcd S len fun A outer s H vs Q E hr hsp=>hbody cdv A outer s H vs Q E hr hsp
theorem FunD.binds {x qual:Str} {st:Stmt} {f:Addr} {fd:FuncData} {ds:List Value} {ps:List Str} (F:FunD K x qual st f fd ds)
  (h:∀ (dT:Addr) (kV doc pm:Value) (an:Option Addr) (cdv ct:Value) (us:List Value),us.length=ps.length→∃ k,bindArgs (PySem.W.fnOf x qual (aN st) (aK st) (ah st) (.ref dT) kV doc pm an cdv ct) ⟨us,[]⟩=seqItems? (.ref dT) >>= k∧k (some ds.toArray)=pure (ps.zip us)):Binds K fd ps []:=by
 obtain ⟨oc,od,dT,kV,doc,pm,an,cdv,ct,osl,rfl,lk,hcd,c,d,n,sl,ld⟩:=F.ex
 intro s us X hl
 rw [List.append_nil] at hl ⊢
 obtain ⟨k,h1,h2⟩:=h dT kV doc pm an cdv ct us hl
 exact BindsTo.of_defaults (T:=dT) rfl (X _ _ ld) rfl h1 h2
theorem FunD.bindsD {x qual:Str} {st:Stmt} {f:Addr} {fd:FuncData} {ds:List Value} {ps:List Str} (m:Nat) (hm:m+ds.length=ps.length) (F:FunD K x qual st f fd ds)
  (h:∀ (dT:Addr) (kV doc pm:Value) (an:Option Addr) (cdv ct:Value) (us:List Value),us.length=m→∃ k,bindArgs (PySem.W.fnOf x qual (aN st) (aK st) (ah st) (.ref dT) kV doc pm an cdv ct) ⟨us,[]⟩=seqItems? (.ref dT) >>= k∧k (some ds.toArray)=pure (ps.zip (us++ds))):Binds K fd ps ds:=by
 obtain ⟨oc,od,dT,kV,doc,pm,an,cdv,ct,osl,rfl,lk,hcd,c,d,n,sl,ld⟩:=F.ex
 intro s us X hl
 rw [List.length_append] at hl
 obtain ⟨k,h1,h2⟩:=h dT kV doc pm an cdv ct us (by omega)
 exact BindsTo.of_defaults (T:=dT) rfl (X _ _ ld) rfl h1 h2
theorem vQ {x qual:Str} {st:Stmt} {f dT:Addr} {oc:Value} {od an:Option Addr} {osl:Array (Option Value)} {kV doc pm cdv ct:Value} {c:Value} {d:Option Addr} {n:Nat} {sl:Array (Option Value)} {ds:List Value} (l:K.lookup f=some ⟨oc,od,.func (PySem.W.fnOf x qual (aN st) (aK st) (ah st) (.ref dT) kV doc pm an cdv ct),osl⟩)
  (cc:PySem.W.codeIn K cdv qual=true) (k:PySem.W.keepIn K (.ref f)=true) (ld:K.lookup dT=some ⟨c,d,.seq ds.toArray n,sl⟩):FunD K x qual st f (PySem.W.fnOf x qual (aN st) (aK st) (ah st) (.ref dT) kV doc pm an cdv ct) ds:=⟨⟨oc,od,dT,kV,doc,pm,an,cdv,ct,osl,rfl,l,cc,c,d,n,sl,ld⟩,k⟩
end
structure xb (P:Program) (w:World) (K:PySem.W.Frag) (mg:Str→Option Value) (base:Heap) (k:Nat) (x:Str) (ps:List Str) (sp:Sp) (ds:List Value):Prop where
 ex:∃ (f:Addr) (fd:FuncData),FnOk P w K mg base (CX1 P w) k f fd ps sp∧mg x=some (.ref f)∧PySem.W.keepIn K (.ref f)=true∧Binds K fd ps ds
end L2
namespace L2
open PySem PySem.Spec PyProof.Rows
end L2
namespace L2
open PySem PySem.Spec PyProof.Rows
def top (i:Nat):Stmt:=PySem.Challenge.pw_cluemaker_k47_too_many_floors.main.body.getD i (.Pass ⟨0,0,0,0⟩)
def mtop (i j:Nat):Stmt:=match top i with
 | .ClassDef _ _ _ body _ _ _ _ _ _ _=>body.getD j (.Pass ⟨0,0,0,0⟩)
 | s=>s
abbrev jF:Stmt:=top 18
theorem sc_is_whole:am ["value"] ["value"] (ah jF):=⟨rfl,rfl,rfl,by decide+kernel,rfl,by decide+kernel,by decide+kernel⟩
set_option maxHeartbeats 4000000 in
theorem qX {P:Program} {w:World} {K:PySem.W.Frag} {mg:Str→Option Value} {base:Heap} (B:Bt2 mg) {f:Addr} {fd:FuncData} (F:Fun K "is_whole" "is_whole" jF f fd):FnOk P w K mg base CX0 1 f fd ["value"] (bM K):=by
 refine F.ok sc_is_whole (fun vs H Q E h=>qQ h) (fun cdv A outer s H vs Q E hr h=>?_)
 have hu:=hr.units
 have nd:=sc_is_whole.nd
 refine ⟨ge K,?_,qR h⟩
 exact (af (ao (dX (aq gi rfl B.isinstance_ aA (aa (pv 0) (aa (gQ (v:=.ty "int") rfl B.int_ tE rfl) ac))) (e9 (lR (aq gi rfl B.isinstance_ aA (aa (pv 0) (aa (gQ (v:=.ty "bool") rfl B.bool_ vn rfl) ac))))))))
abbrev il:Stmt:=top 21
theorem sc_many_cells:am ["floor"] ["floor"] (ah il):=⟨rfl,rfl,rfl,by decide+kernel,rfl,by decide+kernel,by decide+kernel⟩
set_option maxHeartbeats 4000000 in
theorem pb {P:Program} {w:World} {K:PySem.W.Frag} {mg:Str→Option Value} {base:Heap} (B:Bt2 mg) {f:Addr} {fd:FuncData} (F:Fun K "many_cells" "many_cells" il f fd):FnOk P w K mg base CX0 1 f fd ["floor"] (aI K):=by
 refine F.ok sc_many_cells (fun vs H Q E h=>oQ h) (fun cdv A outer s H vs Q E hr h=>?_)
 have hu:=hr.units
 have nd:=sc_many_cells.nd
 refine ⟨d6 K,?_,oR h⟩
 exact (af (ao (av cm (aB (aP hu) (pv 0) ag (fun _ _=>rfl)) (aB (aP hu) (pv 0) ag (fun _ _=>rfl)))))
abbrev ky:Stmt:=top 22
theorem sc_spot_of:am ["floor","cell","wide"] ["floor","cell"] (ah ky):=⟨rfl,rfl,rfl,by decide+kernel,rfl,by decide+kernel,by decide+kernel⟩
set_option maxHeartbeats 4000000 in
theorem sr {P:Program} {w:World} {K:PySem.W.Frag} {mg:Str→Option Value} {base:Heap} (B:Bt2 mg) {f:Addr} {fd:FuncData} (F:Fun K "spot_of" "spot_of" ky f fd):FnOk P w K mg base CX0 1 f fd ["floor","cell"] (b5 K):=by
 refine F.ok sc_spot_of (fun vs H Q E h=>rV h) (fun cdv A outer s H vs Q E hr h=>?_)
 have hu:=hr.units
 have nd:=sc_spot_of.nd
 refine ⟨gJ K,?_,rW h⟩
 exact (ad (ak (i:=2) nd rfl (Or.inl rfl) (aB (aP hu) (pv 0) ag (fun _ _=>rfl)))
   (af (ao (jV (aa (av nh (pv 1) (pv 2)) (aa (av bH (pv 1) (pv 2)) ac))))))
abbrev i3:Stmt:=top 25
theorem sc_square_at:am ["floor","corner","below"] ["floor","corner"] (ah i3):=⟨rfl,rfl,rfl,by decide+kernel,rfl,by decide+kernel,by decide+kernel⟩
set_option maxHeartbeats 4000000 in
theorem qz {P:Program} {w:World} {K:PySem.W.Frag} {mg:Str→Option Value} {base:Heap} (B:Bt2 mg) {f:Addr} {fd:FuncData} (F:Fun K "square_at" "square_at" i3 f fd):FnOk P w K mg base CX0 1 f fd ["floor","corner"] (cq K):=by
 refine F.ok sc_square_at (fun vs H Q E h=>p8 h) (fun cdv A outer s H vs Q E hr h=>?_)
 have hu:=hr.units
 have nd:=sc_square_at.nd
 refine ⟨fm K,?_,p9 h⟩
 exact (ad (ak (i:=2) nd rfl (Or.inl rfl) (av aE (pv 1) (aB (aP hu) (pv 0) ag (fun _ _=>rfl))))
   (af (ao (aW (aa (pv 1) (aa (av aE (pv 1) ag) (aa (pv 2) (aa (av aE (pv 2) ag) ac))))))))
abbrev i4:Stmt:=top 31
theorem sc_with_each:am ["fillings","signs","found","filling"] ["fillings","signs"] (ah i4):=⟨rfl,rfl,rfl,by decide+kernel,rfl,by decide+kernel,by decide+kernel⟩
set_option maxHeartbeats 4000000 in
theorem qA {P:Program} {w:World} {K:PySem.W.Frag} {mg:Str→Option Value} {base:Heap} (B:Bt2 mg) {f:Addr} {fd:FuncData} (F:Fun K "with_each" "with_each" i4 f fd):FnOk P w K mg base CX0 1 f fd ["fillings","signs"] (cx K):=by
 refine F.ok sc_with_each (fun vs H Q E h=>qo h) (fun cdv A outer s H vs Q E hr h=>?_)
 have hu:=hr.units
 have nd:=sc_with_each.nd
 refine ⟨fD K,?_,qp h⟩
 exact (ad (ak (i:=2) nd rfl (Or.inl rfl) (aW ac))
   (ad (gh PassesOwn.never rfl (be (pv 0)) (aC (i:=3) nd rfl (Or.inr rfl))
   (af (ck (d0 PySem.F.plainAttrs_list PySem.F.slot_list_extend PySem.F.type_list_extend rQ (pv 2) (aa (bc (ix:=[none,none,some 3]) [".0","sign","filling"] (aX rfl (by decide+kernel) rfl rfl rfl) rfl (be (pv 1)) (fun cl s H fp=>(aC (i:=1) (show ([".0","sign","filling"]:List Str).Nodup by decide+kernel) rfl (Or.inl rfl))) (fun cl s H fp=>bf) (fun cl s H fp=>(av aE (pv 2) (aW (aa (pv 1) ac))))) ac)))))
   (af (ao (pv 2)))))
abbrev im:Stmt:=top 33
theorem sc_signs_from:am ["floor","number","signs","first"] ["floor","number"] (ah im):=⟨rfl,rfl,rfl,by decide+kernel,rfl,by decide+kernel,by decide+kernel⟩
set_option maxHeartbeats 4000000 in
theorem pc {P:Program} {w:World} {K:PySem.W.Frag} {mg:Str→Option Value} {base:Heap} (B:Bt2 mg) {f:Addr} {fd:FuncData} (F:Fun K "signs_from" "signs_from" im f fd):FnOk P w K mg base CX0 1 f fd ["floor","number"] (b3 K):=by
 refine F.ok sc_signs_from (fun vs H Q E h=>o6 h) (fun cdv A outer s H vs Q E hr h=>?_)
 have hu:=hr.units
 have nd:=sc_signs_from.nd
 refine ⟨eA K,?_,o7 h⟩
 exact (ad (ak (i:=2) nd rfl (Or.inl rfl) (qL rfl rfl rfl B.list_ B.range_ (aa ag (aa (av aE (aB (aP hu) (pv 0) ag (fun _ _=>rfl)) ag) ac))))
   (ad (ak (i:=3) nd rfl (Or.inl rfl) (av bH (pv 1) (aB (aP hu) (pv 0) ag (fun _ _=>rfl))))
   (af (ao (av aE (fN kK (pv 2) (gS (pv 3)) gR) (fN kK (pv 2) gR (gS (pv 3))))))))
abbrev i5:Stmt:=top 39
theorem sc_is_within:am ["some","cells"] ["some","cells"] (ah i5):=⟨rfl,rfl,rfl,by decide+kernel,rfl,by decide+kernel,by decide+kernel⟩
set_option maxHeartbeats 4000000 in
theorem qB {P:Program} {w:World} {K:PySem.W.Frag} {mg:Str→Option Value} {base:Heap} (B:Bt2 mg) {f:Addr} {fd:FuncData} (F:Fun K "is_within" "is_within" i5 f fd):FnOk P w K mg base CX0 1 f fd ["some","cells"] (cw K):=by
 refine F.ok sc_is_within (fun vs H Q E h=>qi h) (fun cdv A outer s H vs Q E hr h=>?_)
 have hu:=hr.units
 have nd:=sc_is_within.nd
 refine ⟨fB K,?_,qj h⟩
 exact (af (ao (aq (dr rfl) rfl B.all_ g6 (aa (bc (ix:=[none,none,some 1]) [".0","cell","cells"] (aX rfl (by decide+kernel) rfl rfl rfl) rfl (be (pv 0)) (fun cl s H fp=>(aC (i:=1) (show ([".0","cell","cells"]:List Str).Nodup by decide+kernel) rfl (Or.inl rfl))) (fun cl s H fp=>bf) (fun cl s H fp=>(aU (j2 hu) (pv 1) (pv 2) (by with_unfolding_all rfl)))) ac))))
abbrev fF:Stmt:=mtop 40 0
theorem sc_Rule___init__:am ["self","floor","words","cells","amount","mark"] ["self","floor","words","cells","amount","mark"] (ah fF):=⟨rfl,rfl,rfl,by decide+kernel,rfl,by decide+kernel,by decide+kernel⟩
set_option maxHeartbeats 4000000 in
theorem lJ {P:Program} {w:World} {K:PySem.W.Frag} {mg:Str→Option Value} {base:Heap} (B:Bt2 mg) {c:RCl RK} (FK_c_amount:FldK K c "amount") (FK_c_cells:FldK K c "cells") (FK_c_floor:FldK K c "floor") (FK_c_mark:FldK K c "mark") (FK_c_words:FldK K c "words") {f:Addr} {fd:FuncData} (F:Fun K "__init__" "Rule.__init__" fF f fd):FnOk P w K mg base CX0 1 f fd ["self","floor","words","cells","amount","mark"] (aj K c):=by
 refine F.ok sc_Rule___init__ (fun vs H Q E h=>lq h) (fun cdv A outer s H vs Q E hr h=>?_)
 have hu:=hr.units
 have nd:=sc_Rule___init__.nd
 refine ⟨cG K c,?_,lr h⟩
 exact (ad (eY (pv 0) (pv 1) FK_c_floor)
   (ad (eY (pv 0) (eO la rfl B.tuple_ lh (aa (pv 2) ac)) FK_c_words)
   (ad (eY (pv 0) (eO la rfl B.tuple_ lh (aa (pv 3) ac)) FK_c_cells)
   (ad (eY (pv 0) (pv 4) FK_c_amount)
   (af (eY (pv 0) (pv 5) FK_c_mark))))))
abbrev fG:Stmt:=mtop 40 8
theorem sc_Rule_signs_at:am ["self","filling"] ["self","filling"] (ah fG):=⟨rfl,rfl,rfl,by decide+kernel,rfl,by decide+kernel,by decide+kernel⟩
set_option maxHeartbeats 4000000 in
theorem lK {P:Program} {w:World} {K:PySem.W.Frag} {mg:Str→Option Value} {base:Heap} (B:Bt2 mg) {c:RCl RK} (FK_c_cells:FldK K c "cells") {f:Addr} {fd:FuncData} (F:Fun K "signs_at" "Rule.signs_at" fG f fd):FnOk P w K mg base CX0 1 f fd ["self","filling"] (cH K c):=by
 refine F.ok sc_Rule_signs_at (fun vs H Q E h=>lu h) (fun cdv A outer s H vs Q E hr h=>?_)
 have hu:=hr.units
 have nd:=sc_Rule_signs_at.nd
 refine ⟨cI K c,?_,lw h⟩
 exact (af (ao (bc (ix:=[none,none,some 1]) [".0","cell","filling"] (aX rfl (by decide+kernel) rfl rfl rfl) rfl (sG (bq (pv 0) FK_c_cells)) (fun cl s H fp=>(aC (i:=1) (show ([".0","cell","filling"]:List Str).Nodup by decide+kernel) rfl (Or.inl rfl))) (fun cl s H fp=>bf) (fun cl s H fp=>(aB (aP hu) (pv 2) (pv 1) (fun _ _=>rfl))))))
abbrev gE:Stmt:=mtop 40 9
theorem sc_Rule_marked:am ["self","filling"] ["self","filling"] (ah gE):=⟨rfl,rfl,rfl,by decide+kernel,rfl,by decide+kernel,by decide+kernel⟩
set_option maxHeartbeats 4000000 in
theorem fP {P:Program} {w:World} {K:PySem.W.Frag} {mg:Str→Option Value} {base:Heap} (B:Bt2 mg) {c:RCl RK} (FK_c_cells:FldK K c "cells") (FK_c_mark:FldK K c "mark") {f:Addr} {fd:FuncData} (F:Fun K "marked" "Rule.marked" gE f fd):FnOk P w K mg base CX0 1 f fd ["self","filling"] (bP K c):=by
 refine F.ok sc_Rule_marked (fun vs H Q E h=>nJ h) (fun cdv A outer s H vs Q E hr h=>?_)
 have hu:=hr.units
 have nd:=sc_Rule_marked.nd
 refine ⟨dJ K c,?_,nK h⟩
 exact (af (ao (bc (ix:=[none,none,some 1,some 0]) [".0","cell","filling","self"] (aX rfl (by decide+kernel) rfl rfl rfl) rfl (sG (bq (pv 0) FK_c_cells)) (fun cl s H fp=>(aC (i:=1) (show ([".0","cell","filling","self"]:List Str).Nodup by decide+kernel) rfl (Or.inl rfl))) (fun cl s H fp=>(ng (ar (aJ hu) (aB (aP hu) (pv 2) (pv 1) (fun _ _=>rfl)) (bq (pv 3) FK_c_mark) (ap _)))) (fun cl s H fp=>(pv 1)))))
abbrev i6:Stmt:=top 56
theorem sc_number_in:am ["word"] ["word"] (ah i6):=⟨rfl,rfl,rfl,by decide+kernel,rfl,by decide+kernel,by decide+kernel⟩
set_option maxHeartbeats 4000000 in
theorem qC {P:Program} {w:World} {K:PySem.W.Frag} {mg:Str→Option Value} {base:Heap} (B:Bt2 mg) {t_FIGURES:Tok} (z6:mg "FIGURES"=some (.str (tx [48,49,50,51,52,53,54,55,56,57]) t_FIGURES)) {t_MOST_FIGURES:Tok} (yH:mg "MOST_FIGURES"=some (.int 9 t_MOST_FIGURES)) {f:Addr} {fd:FuncData} (F:Fun K "number_in" "number_in" i6 f fd):FnOk P w K mg base CX0 1 f fd ["word"] (cr K):=by
 refine F.ok sc_number_in (fun vs H Q E h=>qa h) (fun cdv A outer s H vs Q E hr h=>?_)
 have hu:=hr.units
 have nd:=sc_number_in.nd
 refine ⟨fq K,?_,qb h⟩
 exact (ad (az (PW.pt (jq (ar (aJ hu) (pv 0) bF (ap _)) (jq (ar dY (aq bg rfl B.len_ bG (aa (pv 0) ac)) (aS rfl yH ⟨t_MOST_FIGURES,rfl⟩) (ap _)) (jR (PW.pt (pB (ar (aJ hu) (aB (aP hu) (pv 0) ag (fun _ _=>rfl)) bF (ap _)) (m8 (ar (je hu) (pv 0) bF (ap _))))))))) (af (ao gX)) aw)
   (ad (az (dW (cP (aq (dr rfl) rfl B.all_ g6 (aa (bc (ix:=[none,none]) [".0","figure"] (aX rfl (by decide+kernel) rfl rfl rfl) rfl (wp (pv 0)) (fun cl s H fp=>(aC (i:=1) (show ([".0","figure"]:List Str).Nodup by decide+kernel) rfl (Or.inl rfl))) (fun cl s H fp=>bf) (fun cl s H fp=>(aU (j2 hu) (pv 1) (aS rfl z6 ⟨t_FIGURES,rfl⟩) (by with_unfolding_all rfl)))) ac)))) (af (ao gX)) aw)
   (af (ao (eO r8 rfl B.int_ tE (aa (pv 0) ac))))))
abbrev fQ:Stmt:=mtop 69 1
theorem sc_Puzzle_place:am ["self"] ["self"] (ah fQ):=⟨rfl,rfl,rfl,by decide+kernel,rfl,by decide+kernel,by decide+kernel⟩
set_option maxHeartbeats 4000000 in
theorem mW {P:Program} {w:World} {K:PySem.W.Frag} {mg:Str→Option Value} {base:Heap} (B:Bt2 mg) {c:RCl RK} {d:RCl PzK} (FK_d_floor:FldK K d "floor") {f:Addr} {fd:FuncData} (F:Fun K "place" "Puzzle.place" fQ f fd):FnOk P w K mg base CX0 1 f fd ["self"] (c5 K c d):=by
 refine F.ok sc_Puzzle_place (fun vs H Q E h=>mB h) (fun cdv A outer s H vs Q E hr h=>?_)
 have hu:=hr.units
 have nd:=sc_Puzzle_place.nd
 refine ⟨c6 K c d,?_,mC h⟩
 exact (af (ao (bq (pv 0) FK_d_floor)))
abbrev fR:Stmt:=mtop 69 3
theorem sc_Puzzle_clues:am ["self"] ["self"] (ah fR):=⟨rfl,rfl,rfl,by decide+kernel,rfl,by decide+kernel,by decide+kernel⟩
set_option maxHeartbeats 4000000 in
theorem mX {P:Program} {w:World} {K:PySem.W.Frag} {mg:Str→Option Value} {base:Heap} (B:Bt2 mg) {c:RCl RK} {d:RCl PzK} (FK_d_given:FldK K d "given") {f:Addr} {fd:FuncData} (F:Fun K "clues" "Puzzle.clues" fR f fd):FnOk P w K mg base CX0 1 f fd ["self"] (c7 K c d):=by
 refine F.ok sc_Puzzle_clues (fun vs H Q E h=>mE h) (fun cdv A outer s H vs Q E hr h=>?_)
 have hu:=hr.units
 have nd:=sc_Puzzle_clues.nd
 refine ⟨c8 K c d,?_,mF h⟩
 exact (af (ao (eO lY rfl B.list_ jf (aa (bq (pv 0) FK_d_given) ac))))
abbrev dA:Stmt:=mtop 69 5
theorem sc_Puzzle_has_clues:am ["self","filling"] ["self","filling"] (ah dA):=⟨rfl,rfl,rfl,by decide+kernel,rfl,by decide+kernel,by decide+kernel⟩
set_option maxHeartbeats 4000000 in
theorem jQ {P:Program} {w:World} {K:PySem.W.Frag} {mg:Str→Option Value} {base:Heap} (B:Bt2 mg) {c:RCl RK} {d:RCl PzK} (FK_d_given:FldK K d "given") {f:Addr} {fd:FuncData} (F:Fun K "has_clues" "Puzzle.has_clues" dA f fd):FnOk P w K mg base CX0 1 f fd ["self","filling"] (bU K c d):=by
 refine F.ok sc_Puzzle_has_clues (fun vs H Q E h=>jO h) (fun cdv A outer s H vs Q E hr h=>?_)
 have hu:=hr.units
 have nd:=sc_Puzzle_has_clues.nd
 refine ⟨bV K c d,?_,jP h⟩
 exact (af (ao (aq (dr rfl) rfl B.all_ g6 (aa (bc (ix:=[none,none,none]) [".0","clue","sign"] (aX rfl (by decide+kernel) rfl rfl rfl) rfl (tI rfl B.zip_ (aa (bq (pv 0) FK_d_given) (aa (pv 1) ac))) (fun cl s H fp=>(sD rfl (jr (aC (i:=1) (show ([".0","clue","sign"]:List Str).Nodup by decide+kernel) rfl (Or.inl rfl)) (jr (aC (i:=2) (show ([".0","clue","sign"]:List Str).Nodup by decide+kernel) rfl (Or.inl rfl)) ra)))) (fun cl s H fp=>bf) (fun cl s H fp=>(uU (aU (aJ hu) (pv 1) ag (ap _)) (e9 (aU (aJ hu) (pv 1) (pv 2) (ap _)))))) ac))))
abbrev kz:Stmt:=top 71
theorem sc__law_at:am ["_law_script","_law_k","_law_mixed"] ["_law_script","_law_k"] (ah kz):=⟨rfl,rfl,rfl,by decide+kernel,rfl,by decide+kernel,by decide+kernel⟩
set_option maxHeartbeats 4000000 in
theorem su {P:Program} {w:World} {K:PySem.W.Frag} {mg:Str→Option Value} {base:Heap} (B:Bt2 mg) {f:Addr} {fd:FuncData} (F:Fun K "_law_at" "_law_at" kz f fd):FnOk P w K mg base CX0 1 f fd ["_law_script","_law_k"] (aM K):=by
 refine F.ok sc__law_at (fun vs H Q E h=>rX h) (fun cdv A outer s H vs Q E hr h=>?_)
 have hu:=hr.units
 have nd:=sc__law_at.nd
 refine ⟨gK K,?_,rY h⟩
 exact (ad (az (ar fe (pv 1) (aq fb rfl B.len_ bG (aa (pv 0) ac)) (ap _)) (af (ao (aB nc (pv 0) (pv 1) (fun _ _=>rfl)))) aw)
   (ad (ak (i:=2) nd rfl (Or.inl rfl) (av aE (av cm ag (pv 1)) ag))
   (ad (az (ar dY (aq fb rfl B.len_ bG (aa (pv 0) ac)) ag (ap _)) (af (ak (i:=2) nd rfl (Or.inl rfl) (av aE (pv 2) (av cm (av bH (aB nc (pv 0) (av bH (pv 1) (aq fb rfl B.len_ bG (aa (pv 0) ac))) (fun _ _=>rfl)) ag) (av aE (pv 1) ag))))) aw)
   (af (ao (av aE (av bH (av cm (pv 2) (pv 2)) ag) (av bH (pv 2) ag)))))))
abbrev eI:Stmt:=top 19
theorem sc_is_from_one_to:am ["value","most"] ["value","most"] (ah eI):=⟨rfl,rfl,rfl,by decide+kernel,rfl,by decide+kernel,by decide+kernel⟩
set_option maxHeartbeats 4000000 in
theorem kU {P:Program} {w:World} {K:PySem.W.Frag} {mg:Str→Option Value} {base:Heap} (B:Bt2 mg) (xW:Cal P w K mg base 1 "is_whole" ["value"] (bM K)) {f:Addr} {fd:FuncData} (F:Fun K "is_from_one_to" "is_from_one_to" eI f fd):FnOk P w K mg base CX0 2 f fd ["value","most"] (aV K):=by
 refine F.ok sc_is_from_one_to (fun vs H Q E h=>kQ h) (fun cdv A outer s H vs Q E hr h=>?_)
 have hu:=hr.units
 have nd:=sc_is_from_one_to.nd
 refine ⟨cf K,?_,kR h⟩
 exact (af (ao (dX (ay xW hr (by decide) rfl (aa (pv 0) ac)) (dX (aU jZ ag (pv 0) (ap _)) (e9 (aU jZ (pv 0) (pv 1) (ap _)))))))
abbrev lL:Stmt:=top 23
theorem sc_beside:am ["floor","cell","high","wide","spot","found"] ["floor","cell"] (ah lL):=⟨rfl,rfl,rfl,by decide+kernel,rfl,by decide+kernel,by decide+kernel⟩
set_option maxHeartbeats 4000000 in
theorem ui {P:Program} {w:World} {K:PySem.W.Frag} {mg:Str→Option Value} {base:Heap} (B:Bt2 mg) (yr:Cal P w K mg base 1 "spot_of" ["floor","cell"] (b5 K)) {f:Addr} {fd:FuncData} (F:Fun K "beside" "beside" lL f fd):FnOk P w K mg base CX0 2 f fd ["floor","cell"] (cB K):=by
 refine F.ok sc_beside (fun vs H Q E h=>tQ h) (fun cdv A outer s H vs Q E hr h=>?_)
 have hu:=hr.units
 have nd:=sc_beside.nd
 refine ⟨iV K,?_,tR h⟩
 exact (ad (ak (i:=2) nd rfl (Or.inl rfl) (aB (aP hu) (pv 0) ag (fun _ _=>rfl)))
   (ad (ak (i:=3) nd rfl (Or.inl rfl) (aB (aP hu) (pv 0) ag (fun _ _=>rfl)))
   (ad (ak (i:=4) nd rfl (Or.inl rfl) (ay yr hr (by decide) rfl (aa (pv 0) (aa (pv 1) ac))))
   (ad (ak (i:=5) nd rfl (Or.inl rfl) (aW ac))
   (ad (az (ar dY (aB (aP hu) (pv 4) ag (fun _ _=>rfl)) ag (ap _)) (af (ck (d0 PySem.F.plainAttrs_list PySem.F.slot_list_append PySem.F.type_list_append b4 (pv 5) (aa (av dF (pv 1) (pv 3)) ac)))) aw)
   (ad (az (ar dY (aB (aP hu) (pv 4) ag (fun _ _=>rfl)) ag (ap _)) (af (ck (d0 PySem.F.plainAttrs_list PySem.F.slot_list_append PySem.F.type_list_append b4 (pv 5) (aa (av dF (pv 1) ag) ac)))) aw)
   (ad (az (ar fe (aB (aP hu) (pv 4) ag (fun _ _=>rfl)) (av dF (pv 3) ag) (ap _)) (af (ck (d0 PySem.F.plainAttrs_list PySem.F.slot_list_append PySem.F.type_list_append b4 (pv 5) (aa (av aE (pv 1) ag) ac)))) aw)
   (ad (az (ar fe (aB (aP hu) (pv 4) ag (fun _ _=>rfl)) (av dF (pv 2) ag) (ap _)) (af (ck (d0 PySem.F.plainAttrs_list PySem.F.slot_list_append PySem.F.type_list_append b4 (pv 5) (aa (av aE (pv 1) (pv 3)) ac)))) aw)
   (af (ao (pv 5)))))))))))
abbrev i7:Stmt:=top 24
theorem sc_is_corner:am ["floor","cell","spot"] ["floor","cell"] (ah i7):=⟨rfl,rfl,rfl,by decide+kernel,rfl,by decide+kernel,by decide+kernel⟩
set_option maxHeartbeats 4000000 in
theorem qD {P:Program} {w:World} {K:PySem.W.Frag} {mg:Str→Option Value} {base:Heap} (B:Bt2 mg) (yr:Cal P w K mg base 1 "spot_of" ["floor","cell"] (b5 K)) {f:Addr} {fd:FuncData} (F:Fun K "is_corner" "is_corner" i7 f fd):FnOk P w K mg base CX0 2 f fd ["floor","cell"] (cp K):=by
 refine F.ok sc_is_corner (fun vs H Q E h=>p6 h) (fun cdv A outer s H vs Q E hr h=>?_)
 have hu:=hr.units
 have nd:=sc_is_corner.nd
 refine ⟨fk K,?_,p7 h⟩
 exact (ad (ak (i:=2) nd rfl (Or.inl rfl) (ay yr hr (by decide) rfl (aa (pv 0) (aa (pv 1) ac))))
   (af (ao (dX (aU fe (aB (aP hu) (pv 2) ag (fun _ _=>rfl)) (av dF (aB (aP hu) (pv 0) ag (fun _ _=>rfl)) ag) (ap _)) (e9 (aU fe (aB (aP hu) (pv 2) ag (fun _ _=>rfl)) (av dF (aB (aP hu) (pv 0) ag (fun _ _=>rfl)) ag) (ap _)))))))
abbrev dS:Stmt:=top 30
theorem sc_refuse_too_many:am ["puzzle","floors","clue"] ["puzzle"] (ah dS):=⟨rfl,rfl,rfl,by decide+kernel,rfl,by decide+kernel,by decide+kernel⟩
set_option maxHeartbeats 4000000 in
theorem kA {P:Program} {w:World} {K:PySem.W.Frag} {mg:Str→Option Value} {base:Heap} (B:Bt2 mg) {c:RCl RK} {d:RCl PzK} {t_MOST_FLOORS:Tok} (yS:mg "MOST_FLOORS"=some (.int 1024 t_MOST_FLOORS)) (xX:MCal P w K mg base d d.ok 1 "clues" ["self"] (dy K c d)) (xM:MCal P w K mg base d d.ok 1 "place" ["self"] (dw K c d)) {a:EA} (EM:ErrM mg a) (R_TooMany:nv K a "TooMany" a.TooMany (lI a)) {f:Addr} {fd:FuncData} (F:Fun K "refuse_too_many" "refuse_too_many" dS f fd):FnOk P w K mg base (CX1 P w) 2 f fd ["puzzle"] (aZ K c d):=by
 refine F.ok1 sc_refuse_too_many (fun vs H Q E h=>jD h) (fun cdv A outer s H vs Q E hr h=>?_)
 have hu:=hr.units
 have nd:=sc_refuse_too_many.nd
 refine ⟨bL K c d a E,?_,jE R_TooMany h⟩
 exact (ad (ak (i:=1) nd rfl (Or.inl rfl) ag)
   (ad (gh PassesOwn.leaving rfl (be (e8 xX hr (by decide) (pv 0))) (aC (i:=2) nd rfl (Or.inl rfl))
   (af (az (ar (aJ hu) (pv 2) ag (ap _)) (af (ak (i:=1) nd rfl (Or.inl rfl) (av cm (pv 1) (aB (aP hu) (e8 xM hr (by decide) (pv 0)) ag (fun _ _=>rfl))))) aw)))
   (af (az (ar dY (pv 1) (aS rfl yS ⟨t_MOST_FLOORS,rfl⟩) (ap _)) (af (uF R_TooMany.xc rfl EM.TooMany (aa bF ac))) aw))))
abbrev fH:Stmt:=top 32
theorem sc_every_filling:am ["signs_by_cell","fillings","signs"] ["signs_by_cell"] (ah fH):=⟨rfl,rfl,rfl,by decide+kernel,rfl,by decide+kernel,by decide+kernel⟩
set_option maxHeartbeats 4000000 in
theorem lM {P:Program} {w:World} {K:PySem.W.Frag} {mg:Str→Option Value} {base:Heap} (B:Bt2 mg) (zk:Cal P w K mg base 1 "with_each" ["fillings","signs"] (cx K)) {f:Addr} {fd:FuncData} (F:Fun K "every_filling" "every_filling" fH f fd):FnOk P w K mg base CX0 2 f fd ["signs_by_cell"] (bB K):=by
 refine F.ok sc_every_filling (fun vs H Q E h=>lE h) (fun cdv A outer s H vs Q E hr h=>?_)
 have hu:=hr.units
 have nd:=sc_every_filling.nd
 refine ⟨cM K,?_,lF h⟩
 exact (ad (ak (i:=1) nd rfl (Or.inl rfl) (aW (aa (aW ac) ac)))
   (ad (gh PassesOwn.never rfl (be (pv 0)) (aC (i:=2) nd rfl (Or.inl rfl))
   (af (ak (i:=1) nd rfl (Or.inl rfl) (ay zk hr (by decide) rfl (aa (pv 1) (aa (pv 2) ac))))))
   (af (ao (pv 1)))))
abbrev fS:Stmt:=top 34
theorem sc_signs_to_try:am ["puzzle","numbers","floor"] ["puzzle","numbers"] (ah fS):=⟨rfl,rfl,rfl,by decide+kernel,rfl,by decide+kernel,by decide+kernel⟩
set_option maxHeartbeats 4000000 in
theorem mY {P:Program} {w:World} {K:PySem.W.Frag} {mg:Str→Option Value} {base:Heap} (B:Bt2 mg) {c:RCl RK} {d:RCl PzK} (y0:Cal P w K mg base 1 "signs_from" ["floor","number"] (b3 K)) (xX:MCal P w K mg base d d.ok 1 "clues" ["self"] (dy K c d)) (xM:MCal P w K mg base d d.ok 1 "place" ["self"] (dw K c d)) {f:Addr} {fd:FuncData} (F:Fun K "signs_to_try" "signs_to_try" fS f fd):FnOk P w K mg base CX0 2 f fd ["puzzle","numbers"] (bI K c d):=by
 refine F.ok sc_signs_to_try (fun vs H Q E h=>mP h) (fun cdv A outer s H vs Q E hr h=>?_)
 have hu:=hr.units
 have nd:=sc_signs_to_try.nd
 refine ⟨dg K c d,?_,mQ h⟩
 exact (ad (ak (i:=2) nd rfl (Or.inr rfl) (e8 xM hr (by decide) (pv 0)))
   (af (ao (bc (ix:=[none,none,none,some 2]) [".0","clue","number","floor"] (aX rfl (by decide+kernel) rfl rfl rfl) rfl (tI rfl B.zip_ (aa (e8 xX hr (by decide) (pv 0)) (aa (pv 1) ac))) (fun cl s H fp=>(sD rfl (jr (aC (i:=1) (show ([".0","clue","number","floor"]:List Str).Nodup by decide+kernel) rfl (Or.inl rfl)) (jr (aC (i:=2) (show ([".0","clue","number","floor"]:List Str).Nodup by decide+kernel) rfl (Or.inl rfl)) ra)))) (fun cl s H fp=>bf) (fun cl s H fp=>(pC (ar (aJ hu) (pv 1) ag (ap _)) (ay y0 hr (by decide) rfl (aa (pv 3) (aa (pv 2) ac))) (aW (aa (pv 1) ac))))))))
abbrev fU:Stmt:=mtop 41 0
theorem sc_Unlike_holds:am ["self","filling","signs"] ["self","filling"] (ah fU):=⟨rfl,rfl,rfl,by decide+kernel,rfl,by decide+kernel,by decide+kernel⟩
set_option maxHeartbeats 4000000 in
theorem mZ {P:Program} {w:World} {K:PySem.W.Frag} {mg:Str→Option Value} {base:Heap} (B:Bt2 mg) {c:RCl RK} (xy:MCal P w K mg base c c.ok 1 "signs_at" ["self","filling"] (bn K c)) {f:Addr} {fd:FuncData} (F:Fun K "holds" "Unlike.holds" fU f fd):FnOk P w K mg base CX0 2 f fd ["self","filling"] (cY K c):=by
 refine F.ok sc_Unlike_holds (fun vs H Q E h=>mx h) (fun cdv A outer s H vs Q E hr h=>?_)
 have hu:=hr.units
 have nd:=sc_Unlike_holds.nd
 refine ⟨cZ K c,?_,my h⟩
 exact (ad (ak (i:=2) nd rfl (Or.inl rfl) (bp xy hr (by decide) (pv 0) (aa (pv 1) ac)))
   (af (ao (aU (aJ hu) (ow rfl rfl rfl B.len_ B.set_ (pv 2)) (aq bg rfl B.len_ bG (aa (pv 2) ac)) (ap _)))))
abbrev i8:Stmt:=mtop 42 1
theorem sc_Sum_holds:am ["self","filling"] ["self","filling"] (ah i8):=⟨rfl,rfl,rfl,by decide+kernel,rfl,by decide+kernel,by decide+kernel⟩
set_option maxHeartbeats 4000000 in
theorem qE {P:Program} {w:World} {K:PySem.W.Frag} {mg:Str→Option Value} {base:Heap} (B:Bt2 mg) {c:RCl RK} (FK_c_amount:FldK K c "amount") (xy:MCal P w K mg base c c.ok 1 "signs_at" ["self","filling"] (bn K c)) {f:Addr} {fd:FuncData} (F:Fun K "holds" "Sum.holds" i8 f fd):FnOk P w K mg base CX0 2 f fd ["self","filling"] (fz K c):=by
 refine F.ok sc_Sum_holds (fun vs H Q E h=>qg h) (fun cdv A outer s H vs Q E hr h=>?_)
 have hu:=hr.units
 have nd:=sc_Sum_holds.nd
 refine ⟨fA K c,?_,qh h⟩
 exact (af (ao (aU (aJ hu) (aq (tM rfl) rfl B.sum_ wq (aa (bp xy hr (by decide) (pv 0) (aa (pv 1) ac)) ac)) (bq (pv 0) FK_c_amount) (ap _))))
abbrev fV:Stmt:=mtop 43 1
theorem sc_Rising_holds:am ["self","filling","signs"] ["self","filling"] (ah fV):=⟨rfl,rfl,rfl,by decide+kernel,rfl,by decide+kernel,by decide+kernel⟩
set_option maxHeartbeats 4000000 in
theorem m3 {P:Program} {w:World} {K:PySem.W.Frag} {mg:Str→Option Value} {base:Heap} (B:Bt2 mg) {c:RCl RK} (xy:MCal P w K mg base c c.ok 1 "signs_at" ["self","filling"] (bn K c)) {f:Addr} {fd:FuncData} (F:Fun K "holds" "Rising.holds" fV f fd):FnOk P w K mg base CX0 2 f fd ["self","filling"] (c9 K c):=by
 refine F.ok sc_Rising_holds (fun vs H Q E h=>mG h) (fun cdv A outer s H vs Q E hr h=>?_)
 have hu:=hr.units
 have nd:=sc_Rising_holds.nd
 refine ⟨da K c,?_,mH h⟩
 exact (ad (ak (i:=2) nd rfl (Or.inr rfl) (bp xy hr (by decide) (pv 0) (aa (pv 1) ac)))
   (af (ao (aq (dr rfl) rfl B.all_ g6 (aa (bc (ix:=[none,none,some 2]) [".0","place","signs"] (aX rfl (by decide+kernel) rfl rfl rfl) rfl (eK rfl B.range_ (aa (av dF (aq bg rfl B.len_ bG (aa (pv 2) ac)) ag) ac)) (fun cl s H fp=>(aC (i:=1) (show ([".0","place","signs"]:List Str).Nodup by decide+kernel) rfl (Or.inl rfl))) (fun cl s H fp=>bf) (fun cl s H fp=>(aU fe (aB (aP hu) (pv 2) (pv 1) (fun _ _=>rfl)) (aB (aP hu) (pv 2) (av aE (pv 1) ag) (fun _ _=>rfl)) (ap _)))) ac)))))
abbrev io:Stmt:=mtop 44 1
theorem sc_Seen_holds:am ["self","filling","greatest","seen","sign"] ["self","filling"] (ah io):=⟨rfl,rfl,rfl,by decide+kernel,rfl,by decide+kernel,by decide+kernel⟩
set_option maxHeartbeats 4000000 in
theorem pd {P:Program} {w:World} {K:PySem.W.Frag} {mg:Str→Option Value} {base:Heap} (B:Bt2 mg) {c:RCl RK} (FK_c_amount:FldK K c "amount") (xy:MCal P w K mg base c c.ok 1 "signs_at" ["self","filling"] (bn K c)) {f:Addr} {fd:FuncData} (F:Fun K "holds" "Seen.holds" io f fd):FnOk P w K mg base CX0 2 f fd ["self","filling"] (ed K c):=by
 refine F.ok sc_Seen_holds (fun vs H Q E h=>oZ h) (fun cdv A outer s H vs Q E hr h=>?_)
 have hu:=hr.units
 have nd:=sc_Seen_holds.nd
 refine ⟨eh K c,?_,o0 h⟩
 exact (ad (ak (i:=2) nd rfl (Or.inl rfl) ag)
   (ad (ak (i:=3) nd rfl (Or.inl rfl) ag)
   (ad (gh PassesOwn.never rfl (be (bp xy hr (by decide) (pv 0) (aa (pv 1) ac))) (aC (i:=4) nd rfl (Or.inl rfl))
   (af (az (ar dY (pv 4) (pv 2) (ap _)) (ad (ak (i:=2) nd rfl (Or.inl rfl) (pv 4))
   (af (ak (i:=3) nd rfl (Or.inl rfl) (av aE (pv 3) ag)))) aw)))
   (af (ao (aU (aJ hu) (pv 3) (bq (pv 0) FK_c_amount) (ap _)))))))
abbrev gF:Stmt:=mtop 45 0
theorem sc_Count_holds:am ["self","filling"] ["self","filling"] (ah gF):=⟨rfl,rfl,rfl,by decide+kernel,rfl,by decide+kernel,by decide+kernel⟩
set_option maxHeartbeats 4000000 in
theorem nU {P:Program} {w:World} {K:PySem.W.Frag} {mg:Str→Option Value} {base:Heap} (B:Bt2 mg) {c:RCl RK} (FK_c_amount:FldK K c "amount") (xE:MCal P w K mg base c c.ok 1 "marked" ["self","filling"] (bt K c)) {f:Addr} {fd:FuncData} (F:Fun K "holds" "Count.holds" gF f fd):FnOk P w K mg base CX0 2 f fd ["self","filling"] (dL K c):=by
 refine F.ok sc_Count_holds (fun vs H Q E h=>nM h) (fun cdv A outer s H vs Q E hr h=>?_)
 have hu:=hr.units
 have nd:=sc_Count_holds.nd
 refine ⟨dM K c,?_,nN h⟩
 exact (af (ao (aU (aJ hu) (aq bg rfl B.len_ bG (aa (bp xE hr (by decide) (pv 0) (aa (pv 1) ac)) ac)) (bq (pv 0) FK_c_amount) (ap _))))
abbrev fI:Stmt:=top 57
theorem sc_number_within:am ["word","least","most","number"] ["word","least","most"] (ah fI):=⟨rfl,rfl,rfl,by decide+kernel,rfl,by decide+kernel,by decide+kernel⟩
set_option maxHeartbeats 4000000 in
theorem lN {P:Program} {w:World} {K:PySem.W.Frag} {mg:Str→Option Value} {base:Heap} (B:Bt2 mg) (zl:Cal P w K mg base 1 "number_in" ["word"] (cr K)) {f:Addr} {fd:FuncData} (F:Fun K "number_within" "number_within" fI f fd):FnOk P w K mg base CX0 2 f fd ["word","least","most"] (aY K):=by
 refine F.ok sc_number_within (fun vs H Q E h=>lx h) (fun cdv A outer s H vs Q E hr h=>?_)
 have hu:=hr.units
 have nd:=sc_number_within.nd
 refine ⟨cJ K,?_,ly h⟩
 exact (ad (ak (i:=3) nd rfl (Or.inl rfl) (ay zl hr (by decide) rfl (aa (pv 0) ac)))
   (ad (az (PW.pt (jq (ar sK (pv 3) gX (ap _)) (jq (ar fe (pv 3) (pv 1) (ap _)) (jR (ar dY (pv 3) (pv 2) (ap _)))))) (af bo) aw)
   (af (ao (pv 3)))))
abbrev ip:Stmt:=top 67
theorem sc_is_filling:am ["floor","filling","least"] ["floor","filling","least"] (ah ip):=⟨rfl,rfl,rfl,by decide+kernel,rfl,by decide+kernel,by decide+kernel⟩
set_option maxHeartbeats 4000000 in
theorem pe {P:Program} {w:World} {K:PySem.W.Frag} {mg:Str→Option Value} {base:Heap} (B:Bt2 mg) (xW:Cal P w K mg base 1 "is_whole" ["value"] (bM K)) (xn:Cal P w K mg base 1 "many_cells" ["floor"] (aI K)) {f:Addr} {fd:FuncData} (F:Fun K "is_filling" "is_filling" ip f fd):FnOk P w K mg base CX0 2 f fd ["floor","filling","least"] (bu K):=by
 refine F.ok sc_is_filling (fun vs H Q E h=>oX h) (fun cdv A outer s H vs Q E hr h=>?_)
 have hu:=hr.units
 have nd:=sc_is_filling.nd
 refine ⟨d9 K,?_,oY h⟩
 exact (ad (az (PW.pt (jq (dW (cP (aq gi rfl B.isinstance_ aA (aa (pv 1) (aa (gQ (v:=.ty "list") rfl B.list_ jf rfl) ac))))) (jR (ar (je hu) (aq bg rfl B.len_ bG (aa (pv 1) ac)) (ay xn hr (by decide) rfl (aa (pv 0) ac)) (ap _))))) (af (ao rC)) aw)
   (af (ao (aq (dr rfl) rfl B.all_ g6 (aa (bc (ix:=[none,none,some 0,some 2]) [".0","sign","floor","least"] (aX rfl (by decide+kernel) rfl rfl rfl) rfl (be (pv 1)) (fun cl s H fp=>(aC (i:=1) (show ([".0","sign","floor","least"]:List Str).Nodup by decide+kernel) rfl (Or.inl rfl))) (fun cl s H fp=>bf) (fun cl s H fp=>(dX (ay xW hr (by decide) rfl (aa (pv 1) ac)) (dX (aU jZ (pv 3) (pv 1) (ap _)) (e9 (aU jZ (pv 1) (aB (aP hu) (pv 2) ag (fun _ _=>rfl)) (ap _))))))) ac)))))
abbrev iq:Stmt:=top 72
theorem sc__law_floor:am ["_law_script","_law_high","_law_wide"] ["_law_script"] (ah iq):=⟨rfl,rfl,rfl,by decide+kernel,rfl,by decide+kernel,by decide+kernel⟩
set_option maxHeartbeats 4000000 in
theorem pf {P:Program} {w:World} {K:PySem.W.Frag} {mg:Str→Option Value} {base:Heap} (B:Bt2 mg) (xx:Cal P w K mg base 1 "_law_at" ["_law_script","_law_k"] (aM K)) {f:Addr} {fd:FuncData} (F:Fun K "_law_floor" "_law_floor" iq f fd):FnOk P w K mg base CX0 2 f fd ["_law_script"] (bX K):=by
 refine F.ok sc__law_floor (fun vs H Q E h=>oM h) (fun cdv A outer s H vs Q E hr h=>?_)
 have hu:=hr.units
 have nd:=sc__law_floor.nd
 refine ⟨d5 K,?_,oN h⟩
 exact (ad (ak (i:=1) nd rfl (Or.inl rfl) (av aE ag (av bH (ay xx hr (by decide) rfl (aa (pv 0) (aa ag ac))) ag)))
   (ad (ak (i:=2) nd rfl (Or.inl rfl) (av aE ag (av bH (ay xx hr (by decide) rfl (aa (pv 0) (aa ag ac))) (aq (oq rfl) rfl B.min_ tw (aa ag (aa (av nh ag (pv 1)) ac))))))
   (af (ao (jV (aa (pv 1) (aa (pv 2) (aa (av aE ag (av bH (ay xx hr (by decide) rfl (aa (pv 0) (aa ag ac))) ag)) ac))))))))
abbrev ir:Stmt:=top 73
theorem sc__law_empty:am ["_law_script","_law_floor_here","_law_many","_law_room","_law_product","_law_way","_law_left","_law_k"] ["_law_script","_law_floor_here"] (ah ir):=⟨rfl,rfl,rfl,by decide+kernel,rfl,by decide+kernel,by decide+kernel⟩
set_option maxHeartbeats 4000000 in
theorem ph {P:Program} {w:World} {K:PySem.W.Frag} {mg:Str→Option Value} {base:Heap} (B:Bt2 mg) (xx:Cal P w K mg base 1 "_law_at" ["_law_script","_law_k"] (aM K)) {f:Addr} {fd:FuncData} (F:Fun K "_law_empty" "_law_empty" ir f fd):FnOk P w K mg base CX0 2 f fd ["_law_script","_law_floor_here"] (bJ K):=by
 refine F.ok sc__law_empty (fun vs H Q E h=>mS h) (fun cdv A outer s H vs Q E hr h=>?_)
 have hu:=hr.units
 have nd:=sc__law_empty.nd
 refine ⟨dh K,?_,mT h⟩
 exact (ad (ak (i:=2) nd rfl (Or.inl rfl) (av cm (aB (aP hu) (pv 1) ag (fun _ _=>rfl)) (aB (aP hu) (pv 1) ag (fun _ _=>rfl))))
   (ad (ak (i:=3) nd rfl (Or.inl rfl) ag)
   (ad (ak (i:=4) nd rfl (Or.inl rfl) ag)
   (ad (pE PassesOwn.never (PW.pt (pB (ar fe (pv 3) (pv 2) (ap _)) (m8 (ar jZ (av cm (pv 4) (aB (aP hu) (pv 1) ag (fun _ _=>rfl))) ag (ap _)))))
   (ad (ak (i:=4) nd rfl (Or.inl rfl) (av cm (pv 4) (aB (aP hu) (pv 1) ag (fun _ _=>rfl))))
   (af (ak (i:=3) nd rfl (Or.inl rfl) (av aE (pv 3) ag)))))
   (ad (ak (i:=5) nd rfl (Or.inl rfl) (av bH (ay xx hr (by decide) rfl (aa (pv 0) (aa ag ac))) ag))
   (ad (az (ar (aJ hu) (pv 5) ag (ap _)) (af (ak (i:=3) nd rfl (Or.inl rfl) (aq (oq rfl) rfl B.min_ tw (aa (pv 2) (aa (av aE (pv 3) ag) ac))))) aw)
   (ad (az (ar (aJ hu) (pv 5) ag (ap _)) (af (ak (i:=3) nd rfl (Or.inl rfl) (av bH (av nh (ay xx hr (by decide) rfl (aa (pv 0) (aa ag ac))) ag) (av aE (pv 2) ag)))) aw)
   (ad (ak (i:=6) nd rfl (Or.inl rfl) (k8 rfl rfl rfl B.list_ B.range_ (aa (pv 2) ac)))
   (ad (gh PassesOwn.never rfl (eK rfl B.range_ (aa (av dF (pv 2) (pv 3)) ac)) (aC (i:=7) nd rfl (Or.inl rfl))
   (af (ck (d0 PySem.F.plainAttrs_list PySem.F.slot_list_pop PySem.F.type_list_pop tZ (pv 6) (aa (av bH (ay xx hr (by decide) rfl (aa (pv 0) (aa (av aE ag (pv 7)) ac))) (aq bg rfl B.len_ bG (aa (pv 6) ac))) ac)))))
   (af (ao (pv 6))))))))))))
abbrev jG:Stmt:=top 20
theorem sc_floor_of:am ["high","wide","signs"] ["high","wide","signs"] (ah jG):=⟨rfl,rfl,rfl,by decide+kernel,rfl,by decide+kernel,by decide+kernel⟩
set_option maxHeartbeats 4000000 in
theorem qY {P:Program} {w:World} {K:PySem.W.Frag} {mg:Str→Option Value} {base:Heap} (B:Bt2 mg) (xC:Cal P w K mg base 2 "is_from_one_to" ["value","most"] (aV K)) {t_MOST_CELLS:Tok} (y1:mg "MOST_CELLS"=some (.int 16 t_MOST_CELLS)) {t_MOST_SIDE:Tok} (yR:mg "MOST_SIDE"=some (.int 6 t_MOST_SIDE)) {t_MOST_SIGNS:Tok} (y2:mg "MOST_SIGNS"=some (.int 6 t_MOST_SIGNS)) {f:Addr} {fd:FuncData} (F:Fun K "floor_of" "floor_of" jG f fd):FnOk P w K mg base CX0 3 f fd ["high","wide","signs"] (cT K):=by
 refine F.ok sc_floor_of (fun vs H Q E h=>qS h) (fun cdv A outer s H vs Q E hr h=>?_)
 have hu:=hr.units
 have nd:=sc_floor_of.nd
 refine ⟨gf K,?_,qT h⟩
 exact (ad (az (dW (cP (ay xC hr (by decide) rfl (aa (pv 0) (aa (aS rfl yR ⟨t_MOST_SIDE,rfl⟩) ac))))) (af bo) aw)
   (ad (az (dW (cP (ay xC hr (by decide) rfl (aa (pv 1) (aa (aS rfl yR ⟨t_MOST_SIDE,rfl⟩) ac))))) (af bo) aw)
   (ad (az (ar dY (av cm (pv 0) (pv 1)) (aS rfl y1 ⟨t_MOST_CELLS,rfl⟩) (ap _)) (af bo) aw)
   (ad (az (dW (cP (ay xC hr (by decide) rfl (aa (pv 2) (aa (aS rfl y2 ⟨t_MOST_SIGNS,rfl⟩) ac))))) (af bo) aw)
   (af (ao (jV (aa (pv 0) (aa (pv 1) (aa (pv 2) ac))))))))))
abbrev kB:Stmt:=top 26
theorem sc_squares:am ["floor"] ["floor"] (ah kB):=⟨rfl,rfl,rfl,by decide+kernel,rfl,by decide+kernel,by decide+kernel⟩
set_option maxHeartbeats 4000000 in
theorem sv {P:Program} {w:World} {K:PySem.W.Frag} {mg:Str→Option Value} {base:Heap} (B:Bt2 mg) (zm:Cal P w K mg base 2 "is_corner" ["floor","cell"] (cp K)) (xn:Cal P w K mg base 1 "many_cells" ["floor"] (aI K)) (zn:Cal P w K mg base 1 "square_at" ["floor","corner"] (cq K)) {f:Addr} {fd:FuncData} (F:Fun K "squares" "squares" kB f fd):FnOk P w K mg base CX0 3 f fd ["floor"] (dG K):=by
 refine F.ok sc_squares (fun vs H Q E h=>sd h) (fun cdv A outer s H vs Q E hr h=>?_)
 have hu:=hr.units
 have nd:=sc_squares.nd
 refine ⟨gM K,?_,se h⟩
 exact (af (ao (bc (ix:=[none,none,some 0]) [".0","cell","floor"] (aX rfl (by decide+kernel) rfl rfl rfl) rfl (eK rfl B.range_ (aa (ay xn hr (by decide) rfl (aa (pv 0) ac)) ac)) (fun cl s H fp=>(aC (i:=1) (show ([".0","cell","floor"]:List Str).Nodup by decide+kernel) rfl (Or.inl rfl))) (fun cl s H fp=>(ng (cP (ay zm hr (by decide) rfl (aa (pv 2) (aa (pv 1) ac)))))) (fun cl s H fp=>(ay zn hr (by decide) rfl (aa (pv 2) (aa (pv 1) ac)))))))
abbrev kC:Stmt:=top 27
theorem sc_reached:am ["floor","cells","start","found","place","cell"] ["floor","cells","start"] (ah kC):=⟨rfl,rfl,rfl,by decide+kernel,rfl,by decide+kernel,by decide+kernel⟩
set_option maxHeartbeats 4000000 in
theorem sw {P:Program} {w:World} {K:PySem.W.Frag} {mg:Str→Option Value} {base:Heap} (B:Bt2 mg) (yI:Cal P w K mg base 2 "beside" ["floor","cell"] (cB K)) {f:Addr} {fd:FuncData} (F:Fun K "reached" "reached" kC f fd):FnOk P w K mg base CX0 3 f fd ["floor","cells","start"] (dO K):=by
 refine F.ok sc_reached (fun vs H Q E h=>sj h) (fun cdv A outer s H vs Q E hr h=>?_)
 have hu:=hr.units
 have nd:=sc_reached.nd
 refine ⟨gO K,?_,sk h⟩
 exact (ad (az (ar (oo hu) (pv 2) (pv 1) (by with_unfolding_all rfl)) (af (ao (aW ac))) aw)
   (ad (ak (i:=3) nd rfl (Or.inl rfl) (aW (aa (pv 2) ac)))
   (ad (ak (i:=4) nd rfl (Or.inl rfl) ag)
   (ad (pE PassesOwn.never (ar fe (pv 4) (aq bg rfl B.len_ bG (aa (pv 3) ac)) (ap _))
   (ad (gh PassesOwn.never rfl (be (ay yI hr (by decide) rfl (aa (pv 0) (aa (aB (aP hu) (pv 3) (pv 4) (fun _ _=>rfl)) ac)))) (aC (i:=5) nd rfl (Or.inl rfl))
   (af (az (PW.pt (pB (ar (j2 hu) (pv 5) (pv 1) (by with_unfolding_all rfl)) (m8 (ar (oo hu) (pv 5) (pv 3) (by with_unfolding_all rfl))))) (af (ck (d0 PySem.F.plainAttrs_list PySem.F.slot_list_append PySem.F.type_list_append b4 (pv 3) (aa (pv 5) ac)))) aw)))
   (af (ak (i:=4) nd rfl (Or.inl rfl) (av aE (pv 4) ag)))))
   (af (ao (aq pQ rfl B.sorted_ tz (aa (pv 3) ac))))))))
abbrev cy:Stmt:=mtop 48 1
theorem sc_Ring_has_two_beside:am ["self","cells","cell"] ["self","cells","cell"] (ah cy):=⟨rfl,rfl,rfl,by decide+kernel,rfl,by decide+kernel,by decide+kernel⟩
set_option maxHeartbeats 4000000 in
theorem i9 {P:Program} {w:World} {K:PySem.W.Frag} {mg:Str→Option Value} {base:Heap} (B:Bt2 mg) {c:RCl RK} (yI:Cal P w K mg base 2 "beside" ["floor","cell"] (cB K)) (FK_c_floor:FldK K c "floor") {f:Addr} {fd:FuncData} (F:Fun K "has_two_beside" "Ring.has_two_beside" cy f fd):FnOk P w K mg base CX0 3 f fd ["self","cells","cell"] (bD K c):=by
 refine F.ok sc_Ring_has_two_beside (fun vs H Q E h=>iZ h) (fun cdv A outer s H vs Q E hr h=>?_)
 have hu:=hr.units
 have nd:=sc_Ring_has_two_beside.nd
 refine ⟨bE K c,?_,i0 h⟩
 exact (af (ao (aU (aJ hu) (aq bg rfl B.len_ bG (aa (bc (ix:=[none,none,some 1]) [".0","other","cells"] (aX rfl (by decide+kernel) rfl rfl rfl) rfl (be (ay yI hr (by decide) rfl (aa (bq (pv 0) FK_c_floor) (aa (pv 2) ac)))) (fun cl s H fp=>(aC (i:=1) (show ([".0","other","cells"]:List Str).Nodup by decide+kernel) rfl (Or.inl rfl))) (fun cl s H fp=>(ng (ar (j2 hu) (pv 1) (pv 2) (by with_unfolding_all rfl)))) (fun cl s H fp=>(pv 1))) ac)) ag (ap _))))
abbrev fW:Stmt:=top 58
theorem sc_first_within:am ["words","least","most"] ["words","least","most"] (ah fW):=⟨rfl,rfl,rfl,by decide+kernel,rfl,by decide+kernel,by decide+kernel⟩
set_option maxHeartbeats 4000000 in
theorem m4 {P:Program} {w:World} {K:PySem.W.Frag} {mg:Str→Option Value} {base:Heap} (B:Bt2 mg) (xB:Cal P w K mg base 2 "number_within" ["word","least","most"] (aY K)) {f:Addr} {fd:FuncData} (F:Fun K "first_within" "first_within" fW f fd):FnOk P w K mg base CX0 3 f fd ["words","least","most"] (bb K):=by
 refine F.ok sc_first_within (fun vs H Q E h=>mr h) (fun cdv A outer s H vs Q E hr h=>?_)
 have hu:=hr.units
 have nd:=sc_first_within.nd
 refine ⟨cW K,?_,mt h⟩
 exact (ad (az (ar (aJ hu) (pv 0) (aW ac) (ap _)) (af bo) aw)
   (af (ao (ay xB hr (by decide) rfl (aa (aB (aP hu) (pv 0) ag (fun _ _=>rfl)) (aa (pv 1) (aa (pv 2) ac)))))))
abbrev iu:Stmt:=top 59
theorem sc_told_cells:am ["floor","words","cells"] ["floor","words"] (ah iu):=⟨rfl,rfl,rfl,by decide+kernel,rfl,by decide+kernel,by decide+kernel⟩
set_option maxHeartbeats 4000000 in
theorem pi {P:Program} {w:World} {K:PySem.W.Frag} {mg:Str→Option Value} {base:Heap} (B:Bt2 mg) (xn:Cal P w K mg base 1 "many_cells" ["floor"] (aI K)) (xB:Cal P w K mg base 2 "number_within" ["word","least","most"] (aY K)) {f:Addr} {fd:FuncData} (F:Fun K "told_cells" "told_cells" iu f fd):FnOk P w K mg base CX0 3 f fd ["floor","words"] (bY K):=by
 refine F.ok sc_told_cells (fun vs H Q E h=>oS h) (fun cdv A outer s H vs Q E hr h=>?_)
 have hu:=hr.units
 have nd:=sc_told_cells.nd
 refine ⟨d7 K,?_,oU h⟩
 exact (ad (ri (k:=2) nd rfl (Or.inl rfl) rfl (ix:=[none,none,some 0]) [".0","word","floor"] (aX rfl (by decide+kernel) rfl rfl rfl) rfl (be (pv 1)) (fun cl s H fp=>(aC (i:=1) (show ([".0","word","floor"]:List Str).Nodup by decide+kernel) rfl (Or.inl rfl))) (fun cl s H fp=>bf) (fun cl s H fp=>(ay xB hr (by decide) rfl (aa (pv 1) (aa ag (aa (av dF (ay xn hr (by decide) rfl (aa (pv 2) ac)) ag) ac))))))
   (ad (az (ar (aJ hu) (pv 2) (aW ac) (ap _)) (af bo) aw)
   (ad (az (ar (je hu) (ow rfl rfl rfl B.len_ B.set_ (pv 2)) (aq bg rfl B.len_ bG (aa (pv 2) ac)) (ap _)) (af bo) aw)
   (af (ao (pv 2))))))
abbrev kD:Stmt:=top 61
theorem sc_rule_by:am ["floor","words","cells","amount","mark","name"] ["floor","words","cells","amount","mark"] (ah kD):=⟨rfl,rfl,rfl,by decide+kernel,rfl,by decide+kernel,by decide+kernel⟩
set_option maxHeartbeats 4000000 in
theorem sx {P:Program} {w:World} {K:PySem.W.Frag} {mg:Str→Option Value} {base:Heap} (B:Bt2 mg) {c:RCl RK} (AO:KCal P w K mg base 1 "Count" (c.A .Count) ["self","floor","words","cells","amount","mark"] (aj K c)) (Ai:KCal P w K mg base 1 "Joined" (c.A .Joined) ["self","floor","words","cells","amount","mark"] (aj K c)) (zu:KCal P w K mg base 1 "NoSquare" (c.A .NoSquare) ["self","floor","words","cells","amount","mark"] (aj K c)) (A7:KCal P w K mg base 1 "Ring" (c.A .Ring) ["self","floor","words","cells","amount","mark"] (aj K c)) (Aj:KCal P w K mg base 1 "Rising" (c.A .Rising) ["self","floor","words","cells","amount","mark"] (aj K c)) (A8:KCal P w K mg base 1 "Seen" (c.A .Seen) ["self","floor","words","cells","amount","mark"] (aj K c)) (K_Sum:KCal P w K mg base 1 "Sum" (c.A .Sum) ["self","floor","words","cells","amount","mark"] (aj K c)) (Ak:KCal P w K mg base 1 "Unlike" (c.A .Unlike) ["self","floor","words","cells","amount","mark"] (aj K c)) {f:Addr} {fd:FuncData} (F:Fun K "rule_by" "rule_by" kD f fd):FnOk P w K mg base CX0 3 f fd ["floor","words","cells","amount","mark"] (dI K c):=by
 refine F.ok sc_rule_by (fun vs H Q E h=>sh h) (fun cdv A outer s H vs Q E hr h=>?_)
 have hu:=hr.units
 have nd:=sc_rule_by.nd
 refine ⟨gN K c,?_,si h⟩
 exact (ad (ak (i:=5) nd rfl (Or.inl rfl) (aB (aP hu) (pv 1) ag (fun _ _=>rfl)))
   (ad (az (ar (aJ hu) (pv 5) bF (ap _)) (af (ao (gL Ak hr (by decide) rfl (aa (pv 0) (aa (pv 1) (aa (pv 2) (aa (pv 3) (aa (pv 4) ac)))))))) aw)
   (ad (az (ar (aJ hu) (pv 5) bF (ap _)) (af (ao (gL K_Sum hr (by decide) rfl (aa (pv 0) (aa (pv 1) (aa (pv 2) (aa (pv 3) (aa (pv 4) ac)))))))) aw)
   (ad (az (ar (aJ hu) (pv 5) bF (ap _)) (af (ao (gL Aj hr (by decide) rfl (aa (pv 0) (aa (pv 1) (aa (pv 2) (aa (pv 3) (aa (pv 4) ac)))))))) aw)
   (ad (az (ar (aJ hu) (pv 5) bF (ap _)) (af (ao (gL A8 hr (by decide) rfl (aa (pv 0) (aa (pv 1) (aa (pv 2) (aa (pv 3) (aa (pv 4) ac)))))))) aw)
   (ad (az (ar (aJ hu) (pv 5) bF (ap _)) (af (ao (gL AO hr (by decide) rfl (aa (pv 0) (aa (pv 1) (aa (pv 2) (aa (pv 3) (aa (pv 4) ac)))))))) aw)
   (ad (az (ar (aJ hu) (pv 5) bF (ap _)) (af (ao (gL Ai hr (by decide) rfl (aa (pv 0) (aa (pv 1) (aa (pv 2) (aa (pv 3) (aa (pv 4) ac)))))))) aw)
   (ad (az (ar (aJ hu) (pv 5) bF (ap _)) (af (ao (gL zu hr (by decide) rfl (aa (pv 0) (aa (pv 1) (aa (pv 2) (aa (pv 3) (aa (pv 4) ac)))))))) aw)
   (ad (az (ar (aJ hu) (pv 5) bF (ap _)) (af (ao (gL A7 hr (by decide) rfl (aa (pv 0) (aa (pv 1) (aa (pv 2) (aa (pv 3) (aa (pv 4) ac)))))))) aw)
   (af bo))))))))))
abbrev fJ:Stmt:=top 68
theorem sc_checked_clues:am ["floor","clues"] ["floor","clues"] (ah fJ):=⟨rfl,rfl,rfl,by decide+kernel,rfl,by decide+kernel,by decide+kernel⟩
set_option maxHeartbeats 4000000 in
theorem lO {P:Program} {w:World} {K:PySem.W.Frag} {mg:Str→Option Value} {base:Heap} (B:Bt2 mg) (xH:Cal P w K mg base 2 "is_filling" ["floor","filling","least"] (bu K)) {f:Addr} {fd:FuncData} (F:Fun K "checked_clues" "checked_clues" fJ f fd):FnOk P w K mg base CX0 3 f fd ["floor","clues"] (bA K):=by
 refine F.ok sc_checked_clues (fun vs H Q E h=>lB h) (fun cdv A outer s H vs Q E hr h=>?_)
 have hu:=hr.units
 have nd:=sc_checked_clues.nd
 refine ⟨cL K,?_,lC h⟩
 exact (ad (az (dW (cP (ay xH hr (by decide) rfl (aa (pv 0) (aa (pv 1) (aa ag ac)))))) (af bo) aw)
   (af (ao (eO lY rfl B.list_ jf (aa (pv 1) ac)))))
abbrev dB:Stmt:=mtop 46 1
theorem sc_Joined_is_joined:am ["self","cells"] ["self","cells"] (ah dB):=⟨rfl,rfl,rfl,by decide+kernel,rfl,by decide+kernel,by decide+kernel⟩
set_option maxHeartbeats 4000000 in
theorem fL {P:Program} {w:World} {K:PySem.W.Frag} {mg:Str→Option Value} {base:Heap} (B:Bt2 mg) {c:RCl RK} (zj:Cal P w K mg base 3 "reached" ["floor","cells","start"] (dO K)) (FK_c_floor:FldK K c "floor") {f:Addr} {fd:FuncData} (F:Fun K "is_joined" "Joined.is_joined" dB f fd):FnOk P w K mg base CX0 4 f fd ["self","cells"] (bx K c):=by
 refine F.ok sc_Joined_is_joined (fun vs H Q E h=>jM h) (fun cdv A outer s H vs Q E hr h=>?_)
 have hu:=hr.units
 have nd:=sc_Joined_is_joined.nd
 refine ⟨bT K c,?_,jN h⟩
 exact (af (ao (uU (aU (aJ hu) (pv 1) (aW ac) (ap _)) (e9 (aU (aJ hu) (ay zj hr (by decide) rfl (aa (bq (pv 0) FK_c_floor) (aa (pv 1) (aa (aB (aP hu) (pv 1) ag (fun _ _=>rfl)) ac)))) (pv 1) (ap _))))))
abbrev eJ:Stmt:=mtop 47 0
theorem sc_NoSquare_holds:am ["self","filling","cells"] ["self","filling"] (ah eJ):=⟨rfl,rfl,rfl,by decide+kernel,rfl,by decide+kernel,by decide+kernel⟩
set_option maxHeartbeats 4000000 in
theorem kW {P:Program} {w:World} {K:PySem.W.Frag} {mg:Str→Option Value} {base:Heap} (B:Bt2 mg) {c:RCl RK} (zo:Cal P w K mg base 1 "is_within" ["some","cells"] (cw K)) (z7:Cal P w K mg base 3 "squares" ["floor"] (dG K)) (FK_c_floor:FldK K c "floor") (xE:MCal P w K mg base c c.ok 1 "marked" ["self","filling"] (bt K c)) {f:Addr} {fd:FuncData} (F:Fun K "holds" "NoSquare.holds" eJ f fd):FnOk P w K mg base CX0 4 f fd ["self","filling"] (cg K c):=by
 refine F.ok sc_NoSquare_holds (fun vs H Q E h=>kS h) (fun cdv A outer s H vs Q E hr h=>?_)
 have hu:=hr.units
 have nd:=sc_NoSquare_holds.nd
 refine ⟨ci K c,?_,kT h⟩
 exact (ad (ak (i:=2) nd rfl (Or.inr rfl) (bp xE hr (by decide) (pv 0) (aa (pv 1) ac)))
   (af (ao (lR (aq (or rfl) rfl B.any_ tD (aa (bc (ix:=[none,none,some 2]) [".0","square","cells"] (aX rfl (by decide+kernel) rfl rfl rfl) rfl (be (ay z7 hr (by decide) rfl (aa (bq (pv 0) FK_c_floor) ac))) (fun cl s H fp=>(aC (i:=1) (show ([".0","square","cells"]:List Str).Nodup by decide+kernel) rfl (Or.inl rfl))) (fun cl s H fp=>bf) (fun cl s H fp=>(ay zo hr (by decide) rfl (aa (pv 1) (aa (pv 2) ac))))) ac))))))
abbrev jH:Stmt:=top 60
theorem sc_cells_of:am ["floor","name","words"] ["floor","name","words"] (ah jH):=⟨rfl,rfl,rfl,by decide+kernel,rfl,by decide+kernel,by decide+kernel⟩
set_option maxHeartbeats 4000000 in
theorem qZ {P:Program} {w:World} {K:PySem.W.Frag} {mg:Str→Option Value} {base:Heap} (B:Bt2 mg) (xn:Cal P w K mg base 1 "many_cells" ["floor"] (aI K)) (y3:Cal P w K mg base 3 "told_cells" ["floor","words"] (bY K)) (G_OF_ALL_CELLS:GTup K mg "OF_ALL_CELLS" cV) {f:Addr} {fd:FuncData} (F:Fun K "cells_of" "cells_of" jH f fd):FnOk P w K mg base CX0 4 f fd ["floor","name","words"] (cS K):=by
 refine F.ok sc_cells_of (fun vs H Q E h=>qN h) (fun cdv A outer s H vs Q E hr h=>?_)
 have hu:=hr.units
 have nd:=sc_cells_of.nd
 refine ⟨gd K,?_,qO h⟩
 exact (ad (az (vJ G_OF_ALL_CELLS (pv 1) rfl) (af (ao (ay y3 hr (by decide) rfl (aa (pv 0) (aa (pv 2) ac))))) aw)
   (ad (az (ar (je hu) (pv 2) (aW ac) (ap _)) (af bo) aw)
   (af (ao (k8 rfl rfl rfl B.list_ B.range_ (aa (ay xn hr (by decide) rfl (aa (pv 0) ac)) ac))))))
abbrev fK:Stmt:=top 65
theorem sc_checked_floor:am ["floor"] ["floor"] (ah fK):=⟨rfl,rfl,rfl,by decide+kernel,rfl,by decide+kernel,by decide+kernel⟩
set_option maxHeartbeats 4000000 in
theorem lP {P:Program} {w:World} {K:PySem.W.Frag} {mg:Str→Option Value} {base:Heap} (B:Bt2 mg) (zv:Cal P w K mg base 3 "floor_of" ["high","wide","signs"] (cT K)) {f:Addr} {fd:FuncData} (F:Fun K "checked_floor" "checked_floor" fK f fd):FnOk P w K mg base CX0 4 f fd ["floor"] (bz K):=by
 refine F.ok sc_checked_floor (fun vs H Q E h=>lz h) (fun cdv A outer s H vs Q E hr h=>?_)
 have hu:=hr.units
 have nd:=sc_checked_floor.nd
 refine ⟨cK K,?_,lA h⟩
 exact (ad (az (PW.pt (jq (dW (cP (aq gi rfl B.isinstance_ aA (aa (pv 0) (aa (gQ (v:=.ty "tuple") rfl B.tuple_ lh rfl) ac))))) (jR (ar (je hu) (aq bg rfl B.len_ bG (aa (pv 0) ac)) ag (ap _))))) (af bo) aw)
   (af (ao (ay zv hr (by decide) rfl (aa (aB (aP hu) (pv 0) ag (fun _ _=>rfl)) (aa (aB (aP hu) (pv 0) ag (fun _ _=>rfl)) (aa (aB (aP hu) (pv 0) ag (fun _ _=>rfl)) ac)))))))
abbrev fX:Stmt:=mtop 46 0
theorem sc_Joined_holds:am ["self","filling"] ["self","filling"] (ah fX):=⟨rfl,rfl,rfl,by decide+kernel,rfl,by decide+kernel,by decide+kernel⟩
set_option maxHeartbeats 4000000 in
theorem m5 {P:Program} {w:World} {K:PySem.W.Frag} {mg:Str→Option Value} {base:Heap} (B:Bt2 mg) {c:RCl RK} (zp:MCal P w K mg base c c.ok 4 "is_joined" ["self","cells"] (bR K c)) (xE:MCal P w K mg base c c.ok 1 "marked" ["self","filling"] (bt K c)) {f:Addr} {fd:FuncData} (F:Fun K "holds" "Joined.holds" fX f fd):FnOk P w K mg base CX0 5 f fd ["self","filling"] (db K c):=by
 refine F.ok sc_Joined_holds (fun vs H Q E h=>mI h) (fun cdv A outer s H vs Q E hr h=>?_)
 have hu:=hr.units
 have nd:=sc_Joined_holds.nd
 refine ⟨dc K c,?_,mJ h⟩
 exact (af (ao (bp zp hr (by decide) (pv 0) (aa (bp xE hr (by decide) (pv 0) (aa (pv 1) ac)) ac))))
abbrev iv:Stmt:=mtop 48 0
theorem sc_Ring_holds:am ["self","filling","cells"] ["self","filling"] (ah iv):=⟨rfl,rfl,rfl,by decide+kernel,rfl,by decide+kernel,by decide+kernel⟩
set_option maxHeartbeats 4000000 in
theorem pj {P:Program} {w:World} {K:PySem.W.Frag} {mg:Str→Option Value} {base:Heap} (B:Bt2 mg) {c:RCl RK} (Al:MCal P w K mg base c c.ok 3 "has_two_beside" ["self","cells","cell"] (ce K c)) (zp:MCal P w K mg base c c.ok 4 "is_joined" ["self","cells"] (bR K c)) (xE:MCal P w K mg base c c.ok 1 "marked" ["self","filling"] (bt K c)) {f:Addr} {fd:FuncData} (F:Fun K "holds" "Ring.holds" iv f fd):FnOk P w K mg base CX0 5 f fd ["self","filling"] (ei K c):=by
 refine F.ok sc_Ring_holds (fun vs H Q E h=>o4 h) (fun cdv A outer s H vs Q E hr h=>?_)
 have hu:=hr.units
 have nd:=sc_Ring_holds.nd
 refine ⟨ej K c,?_,o5 h⟩
 exact (ad (ak (i:=2) nd rfl (Or.inr rfl) (bp xE hr (by decide) (pv 0) (aa (pv 1) ac)))
   (af (ao (dX (bp zp hr (by decide) (pv 0) (aa (pv 2) ac)) (e9 (aq (dr rfl) rfl B.all_ g6 (aa (bc (ix:=[none,none,some 2,some 0]) [".0","cell","cells","self"] (aX rfl (by decide+kernel) rfl rfl rfl) rfl (be (pv 2)) (fun cl s H fp=>(aC (i:=1) (show ([".0","cell","cells","self"]:List Str).Nodup by decide+kernel) rfl (Or.inl rfl))) (fun cl s H fp=>bf) (fun cl s H fp=>(bp Al hr (by decide) (pv 3) (aa (pv 2) (aa (pv 1) ac))))) ac)))))))
abbrev ja:Stmt:=top 62
theorem sc_read_rule:am ["floor","line","words","name","rest","amount","mark"] ["floor","line"] (ah ja):=⟨rfl,rfl,rfl,by decide+kernel,rfl,by decide+kernel,by decide+kernel⟩
set_option maxHeartbeats 4000000 in
theorem qF {P:Program} {w:World} {K:PySem.W.Frag} {mg:Str→Option Value} {base:Heap} (B:Bt2 mg) {c:RCl RK} (zw:Cal P w K mg base 4 "cells_of" ["floor","name","words"] (cS K)) (xY:Cal P w K mg base 3 "first_within" ["words","least","most"] (bb K)) (z8:Cal P w K mg base 3 "rule_by" ["floor","words","cells","amount","mark"] (dI K c)) {t_MOST_NUMBER:Tok} (yT:mg "MOST_NUMBER"=some (.int 99 t_MOST_NUMBER)) (G_WITH_NUMBER:GTup K mg "WITH_NUMBER" dH) (G_WITH_SIGN:GTup K mg "WITH_SIGN" du) {f:Addr} {fd:FuncData} (F:Fun K "read_rule" "read_rule" ja f fd):FnOk P w K mg base CX0 5 f fd ["floor","line"] (cu K c):=by
 refine F.ok sc_read_rule (fun vs H Q E h=>qe h) (fun cdv A outer s H vs Q E hr h=>?_)
 have hu:=hr.units
 have nd:=sc_read_rule.nd
 refine ⟨fv K c,?_,qf h⟩
 exact (ad (az (dW (cP (aq gi rfl B.isinstance_ aA (aa (pv 1) (aa (gQ (v:=.ty "str") rfl B.str_ tF rfl) ac))))) (af bo) aw)
   (ad (ak (i:=2) nd rfl (Or.inl rfl) (d0 PySem.F.plainAttrs_str PySem.F.slot_str_split PySem.F.type_str_split tJ (pv 1) (aa bF ac)))
   (ad (ak (i:=3) nd rfl (Or.inl rfl) (aB (aP hu) (pv 2) ag (fun _ _=>rfl)))
   (ad (ak (i:=4) nd rfl (Or.inl rfl) (fN kK (pv 2) (gS ag) gR))
   (ad (ak (i:=5) nd rfl (Or.inl rfl) ag)
   (ad (ak (i:=6) nd rfl (Or.inl rfl) ag)
   (ad (az (t4 G_WITH_NUMBER (pv 3) rfl) (ad (ak (i:=5) nd rfl (Or.inl rfl) (ay xY hr (by decide) rfl (aa (pv 4) (aa ag (aa (aS rfl yT ⟨t_MOST_NUMBER,rfl⟩) ac)))))
   (af (ak (i:=4) nd rfl (Or.inl rfl) (fN kK (pv 4) (gS ag) gR)))) aw)
   (ad (az (t4 G_WITH_SIGN (pv 3) rfl) (ad (ak (i:=6) nd rfl (Or.inl rfl) (ay xY hr (by decide) rfl (aa (pv 4) (aa ag (aa (aB (aP hu) (pv 0) ag (fun _ _=>rfl)) ac)))))
   (af (ak (i:=4) nd rfl (Or.inl rfl) (fN kK (pv 4) (gS ag) gR)))) aw)
   (af (ao (ay z8 hr (by decide) rfl (aa (pv 0) (aa (pv 2) (aa (ay zw hr (by decide) rfl (aa (pv 0) (aa (pv 3) (aa (pv 4) ac)))) (aa (pv 5) (aa (pv 6) ac))))))))))))))))
abbrev iw:Stmt:=top 66
theorem sc_read_rules:am ["floor","lines"] ["floor","lines"] (ah iw):=⟨rfl,rfl,rfl,by decide+kernel,rfl,by decide+kernel,by decide+kernel⟩
set_option maxHeartbeats 4000000 in
theorem pk {P:Program} {w:World} {K:PySem.W.Frag} {mg:Str→Option Value} {base:Heap} (B:Bt2 mg) {c:RCl RK} (zq:Cal P w K mg base 5 "read_rule" ["floor","line"] (cu K c)) {t_MOST_RULES:Tok} (y4:mg "MOST_RULES"=some (.int 12 t_MOST_RULES)) {f:Addr} {fd:FuncData} (F:Fun K "read_rules" "read_rules" iw f fd):FnOk P w K mg base CX0 6 f fd ["floor","lines"] (bZ K c):=by
 refine F.ok sc_read_rules (fun vs H Q E h=>oV h) (fun cdv A outer s H vs Q E hr h=>?_)
 have hu:=hr.units
 have nd:=sc_read_rules.nd
 refine ⟨d8 K c,?_,oW h⟩
 exact (ad (az (ar dY (aq bg rfl B.len_ bG (aa (pv 1) ac)) (aS rfl y4 ⟨t_MOST_RULES,rfl⟩) (ap _)) (af bo) aw)
   (af (ao (bc (ix:=[none,none,some 0]) [".0","line","floor"] (aX rfl (by decide+kernel) rfl rfl rfl) rfl (be (pv 1)) (fun cl s H fp=>(aC (i:=1) (show ([".0","line","floor"]:List Str).Nodup by decide+kernel) rfl (Or.inl rfl))) (fun cl s H fp=>bf) (fun cl s H fp=>(ay zq hr (by decide) rfl (aa (pv 2) (aa (pv 1) ac))))))))
abbrev fY:Stmt:=mtop 69 6
theorem sc_Puzzle_meets:am ["self","filling"] ["self","filling"] (ah fY):=⟨rfl,rfl,rfl,by decide+kernel,rfl,by decide+kernel,by decide+kernel⟩
set_option maxHeartbeats 4000000 in
theorem m6 {P:Program} {w:World} {K:PySem.W.Frag} {mg:Str→Option Value} {base:Heap} (B:Bt2 mg) {c:RCl RK} {d:RCl PzK} (xH:Cal P w K mg base 2 "is_filling" ["floor","filling","least"] (bu K)) (FK_d_floor:FldK K d "floor") (FK_d_laws:FldK K d "laws") (zr:MCal P w K mg base d d.ok 1 "has_clues" ["self","filling"] (fC K c d)) (AQ:MCal P w K mg base c c.ok 5 "holds" ["self","filling"] (bK K c)) {f:Addr} {fd:FuncData} (F:Fun K "meets" "Puzzle.meets" fY f fd):FnOk P w K mg base CX0 6 f fd ["self","filling"] (de K c d):=by
 refine F.ok sc_Puzzle_meets (fun vs H Q E h=>mK h) (fun cdv A outer s H vs Q E hr h=>?_)
 have hu:=hr.units
 have nd:=sc_Puzzle_meets.nd
 refine ⟨df K c d,?_,mL h⟩
 exact (ad (az (PW.pt (jq (dW (cP (ay xH hr (by decide) rfl (aa (bq (pv 0) FK_d_floor) (aa (pv 1) (aa ag ac)))))) (jR (dW (cP (bp zr hr (by decide) (pv 0) (aa (pv 1) ac))))))) (af (ao rC)) aw)
   (af (ao (aq (dr rfl) rfl B.all_ g6 (aa (bc (ix:=[none,none,some 1]) [".0","rule","filling"] (aX rfl (by decide+kernel) rfl rfl rfl) rfl (be (bq (pv 0) FK_d_laws)) (fun cl s H fp=>(aC (i:=1) (show ([".0","rule","filling"]:List Str).Nodup by decide+kernel) rfl (Or.inl rfl))) (fun cl s H fp=>bf) (fun cl s H fp=>(bp AQ hr (by decide) (pv 1) (aa (pv 2) ac)))) ac)))))
abbrev jI:Stmt:=top 35
theorem sc_found_by:am ["puzzle","numbers","most","found","filling"] ["puzzle","numbers","most"] (ah jI):=⟨rfl,rfl,rfl,by decide+kernel,rfl,by decide+kernel,by decide+kernel⟩
set_option maxHeartbeats 4000000 in
theorem q5 {P:Program} {w:World} {K:PySem.W.Frag} {mg:Str→Option Value} {base:Heap} (B:Bt2 mg) {c:RCl RK} {d:RCl PzK} (yt:Cal P w K mg base 2 "every_filling" ["signs_by_cell"] (bB K)) (x0:eH P w K mg base 2 "refuse_too_many" ["puzzle"] (aZ K c d)) (yJ:Cal P w K mg base 2 "signs_to_try" ["puzzle","numbers"] (bI K c d)) (AR:MCal P w K mg base d d.ok 6 "meets" ["self","filling"] (jC K c d)) {f:Addr} {fd:FuncData} (F:Fun K "found_by" "found_by" jI f fd):FnOk P w K mg base (CX1 P w) 7 f fd ["puzzle","numbers","most"] (bw K c d):=by
 refine F.ok1 sc_found_by (fun vs H Q E h=>o8 h) (fun cdv A outer s H vs Q E hr h=>?_)
 have hu:=hr.units
 have nd:=sc_found_by.nd
 refine ⟨eB K c d E,?_,o9 h⟩
 exact (ad (ck (nA (nu fun _ _ _ z=>z) x0 hr (by decide) rfl (aa (pv 0) ac)))
   (ad (ak (i:=3) nd rfl (Or.inl rfl) (aW ac))
   (ad (gh PassesOwn.leaving rfl (be (ay yt hr (by decide) rfl (aa (ay yJ hr (by decide) rfl (aa (pv 0) (aa (pv 1) ac))) ac))) (aC (i:=4) nd rfl (Or.inl rfl))
   (ad (az (ar (aJ hu) (aq bg rfl B.len_ bG (aa (pv 3) ac)) (pv 2) (ap _)) (af (ao (pv 3))) aw)
   (af (az (cP (bp AR hr (by decide) (pv 0) (aa (pv 4) ac))) (af (ck (d0 PySem.F.plainAttrs_list PySem.F.slot_list_append PySem.F.type_list_append b4 (pv 3) (aa (pv 4) ac)))) aw))))
   (af (ao (pv 3))))))
abbrev dU:Stmt:=mtop 69 0
theorem sc_Puzzle___init__:am ["self","floor","lines","clues"] ["self","floor","lines","clues"] (ah dU):=⟨rfl,rfl,rfl,by decide+kernel,rfl,by decide+kernel,by decide+kernel⟩
set_option maxHeartbeats 4000000 in
theorem kE {P:Program} {w:World} {K:PySem.W.Frag} {mg:Str→Option Value} {base:Heap} (B:Bt2 mg) {c:RCl RK} {d:RCl PzK} (yu:Cal P w K mg base 3 "checked_clues" ["floor","clues"] (bA K)) (yw:Cal P w K mg base 4 "checked_floor" ["floor"] (bz K)) (y7:Cal P w K mg base 6 "read_rules" ["floor","lines"] (bZ K c)) (FK_d_floor:FldK K d "floor") (FK_d_given:FldK K d "given") (FK_d_laws:FldK K d "laws") {f:Addr} {fd:FuncData} (F:Fun K "__init__" "Puzzle.__init__" dU f fd):FnOk P w K mg base CX0 7 f fd ["self","floor","lines","clues"] (aR K c d):=by
 refine F.ok sc_Puzzle___init__ (fun vs H Q E h=>kq h) (fun cdv A outer s H vs Q E hr h=>?_)
 have hu:=hr.units
 have nd:=sc_Puzzle___init__.nd
 refine ⟨b6 K c d,?_,kr h⟩
 exact (ad (eY (pv 0) (ay yw hr (by decide) rfl (aa (pv 1) ac)) FK_d_floor)
   (ad (eY (pv 0) (ay y7 hr (by decide) rfl (aa (bq (pv 0) FK_d_floor) (aa (pv 2) ac))) FK_d_laws)
   (af (eY (pv 0) (ay yu hr (by decide) rfl (aa (bq (pv 0) FK_d_floor) (aa (pv 3) ac))) FK_d_given))))
abbrev kF:Stmt:=top 36
theorem sc_answers:am ["puzzle","most"] ["puzzle","most"] (ah kF):=⟨rfl,rfl,rfl,by decide+kernel,rfl,by decide+kernel,by decide+kernel⟩
set_option maxHeartbeats 4000000 in
theorem m7 {P:Program} {w:World} {K:PySem.W.Frag} {mg:Str→Option Value} {base:Heap} (B:Bt2 mg) {td:Tok} {c:RCl RK} {d:RCl PzK} (xI:eH P w K mg base 7 "found_by" ["puzzle","numbers","most"] (bw K c d)) (xn:Cal P w K mg base 1 "many_cells" ["floor"] (aI K)) (xM:MCal P w K mg base d d.ok 1 "place" ["self"] (dw K c d)) {f:Addr} {fd:FuncData} (F:FunD K "answers" "answers" kF f fd [Value.int 2 td]):FnOk P w K mg base (CX1 P w) 8 f fd ["puzzle","most"] (bS K c d):=by
 refine F.ok1 sc_answers (fun vs H Q E h=>qu h) (fun cdv A outer s H vs Q E hr h=>?_)
 have hu:=hr.units
 have nd:=sc_answers.nd
 refine ⟨fE K c d E,?_,qv h⟩
 exact (af (ao (nA (nu fun _ _ _ z=>z) xI hr (by decide) rfl (aa (pv 0) (aa (av ux (aW (aa ag ac)) (ay xn hr (by decide) rfl (aa (e8 xM hr (by decide) (pv 0)) ac))) (aa (pv 1) ac))))))
abbrev lQ:Stmt:=top 37
theorem sc_filled:am ["puzzle","numbers","found"] ["puzzle","numbers"] (ah lQ):=⟨rfl,rfl,rfl,by decide+kernel,rfl,by decide+kernel,by decide+kernel⟩
set_option maxHeartbeats 4000000 in
theorem uj {P:Program} {w:World} {K:PySem.W.Frag} {mg:Str→Option Value} {base:Heap} (B:Bt2 mg) {c:RCl RK} {d:RCl PzK} (xI:eH P w K mg base 7 "found_by" ["puzzle","numbers","most"] (bw K c d)) {f:Addr} {fd:FuncData} (F:Fun K "filled" "filled" lQ f fd):FnOk P w K mg base (CX1 P w) 8 f fd ["puzzle","numbers"] (cU K c d):=by
 refine F.ok1 sc_filled (fun vs H Q E h=>qV h) (fun cdv A outer s H vs Q E hr h=>?_)
 have hu:=hr.units
 have nd:=sc_filled.nd
 refine ⟨gg K c d E,?_,qW h⟩
 exact (ad (ak (i:=2) nd rfl (Or.inl rfl) (nA (nu fun _ _ _ z=>z) xI hr (by decide) rfl (aa (pv 0) (aa (pv 1) (aa ag ac)))))
   (af (ao (pC (ar (je hu) (pv 2) (aW ac) (ap _)) (aB (aP hu) (pv 2) ag (fun _ _=>rfl)) gX))))
abbrev jb:Stmt:=top 74
theorem sc__law_said:am ["_law_puzzle","_law_way","_law_caught","_law_found","error","_law_others"] ["_law_puzzle","_law_way"] (ah jb):=⟨rfl,rfl,rfl,by decide+kernel,rfl,by decide+kernel,by decide+kernel⟩
set_option maxHeartbeats 4000000 in
theorem qG {P:Program} {w:World} {K:PySem.W.Frag} {mg:Str→Option Value} {base:Heap} (B:Bt2 mg) {c:RCl RK} {d:RCl PzK} (z9:eH P w K mg base 8 "answers" ["puzzle","most"] (bS K c d)) (Am:eH P w K mg base 8 "filled" ["puzzle","numbers"] (cU K c d)) (xX:MCal P w K mg base d d.ok 1 "clues" ["self"] (dy K c d)) {a:EA} (EM:ErrM mg a) (R_TooMany:nv K a "TooMany" a.TooMany (lI a)) (BV:mg "ValueError"=none) {f:Addr} {fd:FuncData} (F:Fun K "_law_said" "_law_said" jb f fd):FnOk P w K mg base CX0 9 f fd ["_law_puzzle","_law_way"] (ba K c d):=by
 refine F.ok sc__law_said (fun vs H Q E h=>nQ h) (fun cdv A outer s H vs Q E hr h=>?_)
 have hu:=hr.units
 have nd:=sc__law_said.nd
 refine ⟨dP K c d a,?_,nR R_TooMany h⟩
 exact (ad (ak (i:=2) nd rfl (Or.inl rfl) gX)
   (ad (ak (i:=3) nd rfl (Or.inl rfl) gX)
   (ad (vO (i:=4) (j:=3) (fun _ _ z=>z) z9 Am hr (by decide) (by decide) rfl rfl (ar (aJ hu) (pv 1) ag (ap _)) (aa (pv 0) (aa ag ac)) (aa (pv 0) (aa (bc (ix:=[none,none]) [".0","_law_clue"] (aX rfl (by decide+kernel) rfl rfl rfl) rfl (be (e8 xX hr (by decide) (pv 0))) (fun cl s H fp=>(aC (i:=1) (show ([".0","_law_clue"]:List Str).Nodup by decide+kernel) rfl (Or.inl rfl))) (fun cl s H fp=>bf) (fun cl s H fp=>ag)) ac)) nd rfl rfl rfl rfl rfl EM.ClueError rfl rfl (fun _=>(af (ak (i:=2) nd rfl (Or.inl rfl) (pv 4)))))
   (ad (az (ar sK (pv 2) gX (ap _)) (af (ao (pv 3))) aw)
   (ad (ak (i:=5) nd rfl (Or.inl rfl) (aW (aa (aq br rfl B.isinstance_ aA (aa (pv 2) (aa (aS rfl EM.BadThought rfl) ac))) (aa (aq br rfl B.isinstance_ aA (aa (pv 2) (aa (aS rfl EM.NoFilling rfl) ac))) (aa (aq br rfl B.isinstance_ aA (aa (pv 2) (aa (aS rfl EM.NoMove rfl) ac))) ac)))))
   (ad (ak (i:=5) nd rfl (Or.inl rfl) (av aE (pv 5) (aW (aa (aq br rfl B.isinstance_ aA (aa (pv 2) (aa (aS rfl EM.NoFloor rfl) ac))) (aa (aq br rfl B.isinstance_ aA (aa (pv 2) (aa (aS rfl EM.NoName rfl) ac))) (aa (aq br rfl B.isinstance_ aA (aa (pv 2) (aa (aS rfl EM.NoPuzzle rfl) ac))) ac))))))
   (ad (ak (i:=5) nd rfl (Or.inl rfl) (av aE (pv 5) (aW (aa (aq br rfl B.isinstance_ aA (aa (pv 2) (aa (aS rfl EM.NoRow rfl) ac))) (aa (aq br rfl B.isinstance_ aA (aa (pv 2) (aa (aS rfl EM.NoRule rfl) ac))) (aa (aq br rfl B.isinstance_ aA (aa (pv 2) (aa (aS rfl EM.NoText rfl) ac))) ac))))))
   (ad (ak (i:=5) nd rfl (Or.inl rfl) (av aE (pv 5) (aW (aa (aq br rfl B.isinstance_ aA (aa (pv 2) (aa (aS rfl EM.NotOne rfl) ac))) (aa (lR (aq br rfl B.isinstance_ aA (aa (pv 2) (aa (gQ (v:=.ty "ValueError") rfl BV oP rfl) ac)))) ac)))))
   (af (ao (jV (aa bF (aa (dX (aq br rfl B.isinstance_ aA (aa (pv 2) (aa (aS rfl EM.TooMany rfl) ac))) (e9 (lR (aq (or rfl) rfl B.any_ tD (aa (pv 5) ac))))) ac)))))))))))))
abbrev kP:Stmt:=top 75
theorem sc_law:am ["_law_script","_law_floor_here","_law_empty_here","_law_clues","_law_product","_law_cell","_law_due","_law_lines","_law_cells","_law_puzzle"] ["_law_script"] (ah kP):=⟨rfl,rfl,rfl,by decide+kernel,rfl,by decide+kernel,by decide+kernel⟩
set_option maxHeartbeats 4000000 in
theorem wM {P:Program} {w:World} {K:PySem.W.Frag} {mg:Str→Option Value} {base:Heap} (B:Bt2 mg) {c:RCl RK} {d:RCl PzK} (xx:Cal P w K mg base 1 "_law_at" ["_law_script","_law_k"] (aM K)) (y8:Cal P w K mg base 2 "_law_empty" ["_law_script","_law_floor_here"] (bJ K)) (y9:Cal P w K mg base 2 "_law_floor" ["_law_script"] (bX K)) (yg:Cal P w K mg base 9 "_law_said" ["_law_puzzle","_law_way"] (ba K c d)) (An:KCal P w K mg base 7 "Puzzle" (d.A .Puzzle) ["self","floor","lines","clues"] (aR K c d)) {f:Addr} {fd:FuncData} (F:Fun K "law" "law" kP f fd):FnOk P w K mg base CX0 10 f fd ["_law_script"] (qx K c d):=by
 refine F.ok sc_law (fun vs H Q E h=>wK h) (fun cdv A outer s H vs Q E hr h=>?_)
 have hu:=hr.units
 have nd:=sc_law.nd
 refine ⟨mV K c d,?_,wL h⟩
 exact (ad (ak (i:=1) nd rfl (Or.inl rfl) (ay y9 hr (by decide) rfl (aa (pv 0) ac)))
   (ad (ak (i:=2) nd rfl (Or.inl rfl) (ay y8 hr (by decide) rfl (aa (pv 0) (aa (pv 1) ac))))
   (ad (ak (i:=3) nd rfl (Or.inl rfl) (aW ac))
   (ad (ak (i:=4) nd rfl (Or.inl rfl) ag)
   (ad (gh PassesOwn.never rfl (eK rfl B.range_ (aa (av cm (aB (aP hu) (pv 1) ag (fun _ _=>rfl)) (aB (aP hu) (pv 1) ag (fun _ _=>rfl))) ac)) (aC (i:=5) nd rfl (Or.inl rfl))
   (af (az (ar (j2 hu) (pv 5) (pv 2) (by with_unfolding_all rfl)) (ad (ck (d0 PySem.F.plainAttrs_list PySem.F.slot_list_append PySem.F.type_list_append b4 (pv 3) (aa ag ac)))
   (af (ak (i:=4) nd rfl (Or.inl rfl) (av cm (pv 4) (aB (aP hu) (pv 1) ag (fun _ _=>rfl)))))) (af (ck (d0 PySem.F.plainAttrs_list PySem.F.slot_list_append PySem.F.type_list_append b4 (pv 3) (aa (av aE ag (av bH (ay xx hr (by decide) rfl (aa (pv 0) (aa (av aE ag (pv 5)) ac))) (aB (aP hu) (pv 1) ag (fun _ _=>rfl)))) ac)))))))
   (ad (ak (i:=6) nd rfl (Or.inl rfl) (aW (aa (bc (ix:=[none,none]) [".0","_law_clue"] (aX rfl (by decide+kernel) rfl rfl rfl) rfl (be (pv 3)) (fun cl s H fp=>(aC (i:=1) (show ([".0","_law_clue"]:List Str).Nodup by decide+kernel) rfl (Or.inl rfl))) (fun cl s H fp=>bf) (fun cl s H fp=>(aq (tq rfl) rfl B.max_ wl (aa ag (aa (pv 1) ac))))) ac)))
   (ad (ak (i:=7) nd rfl (Or.inl rfl) (aW ac))
   (ad (az (ar dY (pv 4) ag (ap _)) (ad (ak (i:=6) nd rfl (Or.inl rfl) (jV (aa bF (aa rC ac))))
   (ad (ak (i:=8) nd rfl (Or.inr rfl) (bc (ix:=[none,none]) [".0","_law_cell"] (aX rfl (by decide+kernel) rfl rfl rfl) rfl (eK rfl B.range_ (aa (aq bg rfl B.len_ bG (aa (pv 3) ac)) ac)) (fun cl s H fp=>(aC (i:=1) (show ([".0","_law_cell"]:List Str).Nodup by decide+kernel) rfl (Or.inl rfl))) (fun cl s H fp=>bf) (fun cl s H fp=>(eO tV rfl B.str_ tF (aa (pv 1) ac)))))
   (af (ri (k:=7) nd rfl (Or.inl rfl) rfl (ix:=[none,none,some 8]) [".0","_law_k","_law_cells"] (aX rfl (by decide+kernel) rfl rfl rfl) rfl (eK rfl B.range_ (aa (av bH (ay xx hr (by decide) rfl (aa (pv 0) (aa ag ac))) ag) ac)) (fun cl s H fp=>(aC (i:=1) (show ([".0","_law_k","_law_cells"]:List Str).Nodup by decide+kernel) rfl (Or.inl rfl))) (fun cl s H fp=>bf) (fun cl s H fp=>(d0 PySem.F.plainAttrs_str PySem.F.slot_str_join PySem.F.type_str_join tY bF (aa (av aE (aW (aa bF ac)) (fN kK (pv 2) (gS (pv 1)) gR)) ac))))))) aw)
   (ad (ak (i:=9) nd rfl (Or.inl rfl) (gL An hr (by decide) rfl (aa (pv 1) (aa (pv 7) (aa (pv 3) ac)))))
   (af (ao (dX (aU (aJ hu) (ay yg hr (by decide) rfl (aa (pv 9) (aa ag ac))) (pv 6) (ap _)) (dX (aU (aJ hu) (ay yg hr (by decide) rfl (aa (pv 9) (aa ag ac))) (pv 6) (ap _)) (e9 (aU (aJ hu) (ay yg hr (by decide) rfl (aa (pv 9) (aa ag ac))) (pv 6) (ap _))))))))))))))))
def mkC (xo xz xq xw xu xp xm xv:Addr):RCl RK:=⟨fun k=>match k with | .Rule=>xo | .Unlike=>xo | .Sum=>xz | .Rising=>xq | .Seen=>xw | .Count=>xu | .Joined=>xp | .NoSquare=>xm | .Ring=>xv,fun k=>match k with | .Rule=>false | _=>true⟩
def mk1 (c:RCl RK) (k:RK):RCl RK:=⟨c.A,match k with | .Joined=>(fun i=>match i with | .Joined=>true | _=>false) | .Ring=>(fun i=>match i with | .Ring=>true | _=>false) | _=>fun _=>false⟩
def mkD (xt:Addr):RCl PzK:=⟨fun _=>xt,fun _=>true⟩
set_option maxHeartbeats 40000000 in
theorem wN {l:PySem.W.OpenLaw} {w:World} {K:PySem.W.Frag} {h:Heap} {mg:Str→Option Value} {fa:Addr} (X:K.In h) (G:h.Ns mainGlobals mg) (hfa:mg "law"=some (.ref fa))
  {f0 f1 f2 f3 f4 f5 f6 f7 f8 f9 f10 f11 f12 f13 f14 f15 f16 f17 f18 f19 f20 f21 f22 f23 f24 f25 f26 f27 f28 f29 f30 f31 f32 f33 f34 f35 f36 f37 f38 f39 f40 f41 f42 f43 f44 f45 f46 f47 f48 f49 f50 f51 f52:Addr} {fd0 fd1 fd2 fd3 fd4 fd5 fd6 fd7 fd8 fd9 fd10 fd11 fd12 fd13 fd14 fd15 fd16 fd17 fd18 fd19 fd20 fd21 fd22 fd23 fd24 fd25 fd26 fd27 fd28 fd29 fd30 fd31 fd32 fd33 fd34 fd35 fd36 fd37 fd38 fd39 fd40 fd41 fd42 fd43 fd44 fd45 fd46 fd47 fd48 fd49 fd50 fd51 fd52:FuncData} {xo xz xq xw xu xp xm xv xt:Addr} {td:Tok} {yx:Addr} {AH:Option Addr} {AI:Nat} {AJ:Array (Option Value)} {AK AL AM:Tok} {yK:Addr} {AS:Option Addr} {AT:Nat} {AU:Array (Option Value)} {AV AW AX:Tok} {za:Addr} {A9:Option Addr} {Ba:Nat} {Bb:Array (Option Value)} {Bc Bd Be Bf:Tok} {tk_FIGURES:Tok} {tk_MOST_CELLS:Tok} {tk_MOST_FIGURES:Tok} {tk_MOST_FLOORS:Tok} {tk_MOST_NUMBER:Tok} {tk_MOST_RULES:Tok} {tk_MOST_SIDE:Tok} {tk_MOST_SIGNS:Tok} {x_ClueError x_NoFloor x_NoFilling x_NoRule x_NoPuzzle x_TooMany x_NotOne x_NoMove x_NoText x_NoName x_NoRow x_BadThought:Addr} {cE cC0:Value} {dE dD:Option Addr} {esE:Array DictEntry} {nE:Nat} {sE slD:Array (Option Value)} {ND:Addr} {cdD:ClassData} {nm_TooMany Bi:Str} {N_TooMany:Addr} {bs_TooMany:List Value} {hd_TooMany:Bool} {sn_TooMany:List Str} {sub_TooMany:List Value} {ab_TooMany:Bool} {col_TooMany:Option Bool} {dd_TooMany:Option Addr} {k0_TooMany k1_TooMany k2_TooMany k3_TooMany k5_TooMany:Option Value} {cN_TooMany:Value} {dN_TooMany:Option Addr} {es_TooMany:Array DictEntry} {n_TooMany:Nat} {sN_TooMany:Array (Option Value)}
  (Ao:PySem.W.nsIn K mainGlobals "Unlike"=some (some (.ref xo))) (q_Sum:PySem.W.nsIn K mainGlobals "Sum"=some (some (.ref xz))) (Ap:PySem.W.nsIn K mainGlobals "Rising"=some (some (.ref xq))) (Bg:PySem.W.nsIn K mainGlobals "Seen"=some (some (.ref xw))) (AY:PySem.W.nsIn K mainGlobals "Count"=some (some (.ref xu))) (Aq:PySem.W.nsIn K mainGlobals "Joined"=some (some (.ref xp))) (zx:PySem.W.nsIn K mainGlobals "NoSquare"=some (some (.ref xm))) (Bh:PySem.W.nsIn K mainGlobals "Ring"=some (some (.ref xv))) (Ar:PySem.W.nsIn K mainGlobals "Puzzle"=some (some (.ref xt))) (a0:PySem.W.nsIn K mainGlobals "is_whole"=some (some (.ref f0))) (a1:PySem.W.nsIn K mainGlobals "many_cells"=some (some (.ref f1))) (a2:PySem.W.nsIn K mainGlobals "spot_of"=some (some (.ref f2))) (a3:PySem.W.nsIn K mainGlobals "square_at"=some (some (.ref f3))) (a4:PySem.W.nsIn K mainGlobals "with_each"=some (some (.ref f4))) (a5:PySem.W.nsIn K mainGlobals "signs_from"=some (some (.ref f5))) (a6:PySem.W.nsIn K mainGlobals "is_within"=some (some (.ref f6))) (zy:PySem.W.findIn K (.ref xo) "__init__"=some (some (.ref f7))) (AZ:PySem.W.findIn K (.ref xz) "__init__"=some (some (.ref f7))) (zA:PySem.W.findIn K (.ref xq) "__init__"=some (some (.ref f7))) (As:PySem.W.findIn K (.ref xw) "__init__"=some (some (.ref f7))) (Aa:PySem.W.findIn K (.ref xu) "__init__"=some (some (.ref f7))) (zB:PySem.W.findIn K (.ref xp) "__init__"=some (some (.ref f7))) (zb:PySem.W.findIn K (.ref xm) "__init__"=some (some (.ref f7))) (At:PySem.W.findIn K (.ref xv) "__init__"=some (some (.ref f7))) (a8_Unlike:PySem.W.findIn K (.ref xo) "signs_at"=some (some (.ref f8))) (a8_Sum:PySem.W.findIn K (.ref xz) "signs_at"=some (some (.ref f8))) (a8_Rising:PySem.W.findIn K (.ref xq) "signs_at"=some (some (.ref f8))) (a8_Seen:PySem.W.findIn K (.ref xw) "signs_at"=some (some (.ref f8))) (a8_Count:PySem.W.findIn K (.ref xu) "signs_at"=some (some (.ref f8))) (a8_Joined:PySem.W.findIn K (.ref xp) "signs_at"=some (some (.ref f8))) (a8_NoSquare:PySem.W.findIn K (.ref xm) "signs_at"=some (some (.ref f8))) (a8_Ring:PySem.W.findIn K (.ref xv) "signs_at"=some (some (.ref f8))) (a9_Unlike:PySem.W.findIn K (.ref xo) "marked"=some (some (.ref f9))) (a9_Sum:PySem.W.findIn K (.ref xz) "marked"=some (some (.ref f9))) (a9_Rising:PySem.W.findIn K (.ref xq) "marked"=some (some (.ref f9))) (a9_Seen:PySem.W.findIn K (.ref xw) "marked"=some (some (.ref f9))) (a9_Count:PySem.W.findIn K (.ref xu) "marked"=some (some (.ref f9))) (a9_Joined:PySem.W.findIn K (.ref xp) "marked"=some (some (.ref f9))) (a9_NoSquare:PySem.W.findIn K (.ref xm) "marked"=some (some (.ref f9))) (a9_Ring:PySem.W.findIn K (.ref xv) "marked"=some (some (.ref f9))) (a10:PySem.W.nsIn K mainGlobals "number_in"=some (some (.ref f10))) (a11_Puzzle:PySem.W.findIn K (.ref xt) "place"=some (some (.ref f11))) (a12_Puzzle:PySem.W.findIn K (.ref xt) "clues"=some (some (.ref f12))) (a13_Puzzle:PySem.W.findIn K (.ref xt) "has_clues"=some (some (.ref f13))) (a14:PySem.W.nsIn K mainGlobals "_law_at"=some (some (.ref f14))) (a15:PySem.W.nsIn K mainGlobals "is_from_one_to"=some (some (.ref f15))) (a16:PySem.W.nsIn K mainGlobals "beside"=some (some (.ref f16))) (a17:PySem.W.nsIn K mainGlobals "is_corner"=some (some (.ref f17))) (a18:PySem.W.nsIn K mainGlobals "refuse_too_many"=some (some (.ref f18))) (a19:PySem.W.nsIn K mainGlobals "every_filling"=some (some (.ref f19))) (a20:PySem.W.nsIn K mainGlobals "signs_to_try"=some (some (.ref f20))) (a21_Unlike:PySem.W.findIn K (.ref xo) "holds"=some (some (.ref f21))) (a22_Sum:PySem.W.findIn K (.ref xz) "holds"=some (some (.ref f22))) (a23_Rising:PySem.W.findIn K (.ref xq) "holds"=some (some (.ref f23))) (a24_Seen:PySem.W.findIn K (.ref xw) "holds"=some (some (.ref f24))) (a25_Count:PySem.W.findIn K (.ref xu) "holds"=some (some (.ref f25))) (a26:PySem.W.nsIn K mainGlobals "number_within"=some (some (.ref f26))) (a27:PySem.W.nsIn K mainGlobals "is_filling"=some (some (.ref f27))) (a28:PySem.W.nsIn K mainGlobals "_law_floor"=some (some (.ref f28))) (a29:PySem.W.nsIn K mainGlobals "_law_empty"=some (some (.ref f29))) (a30:PySem.W.nsIn K mainGlobals "floor_of"=some (some (.ref f30))) (a31:PySem.W.nsIn K mainGlobals "squares"=some (some (.ref f31))) (a32:PySem.W.nsIn K mainGlobals "reached"=some (some (.ref f32))) (a33_Ring:PySem.W.findIn K (.ref xv) "has_two_beside"=some (some (.ref f33))) (a34:PySem.W.nsIn K mainGlobals "first_within"=some (some (.ref f34))) (a35:PySem.W.nsIn K mainGlobals "told_cells"=some (some (.ref f35))) (a36:PySem.W.nsIn K mainGlobals "rule_by"=some (some (.ref f36))) (a37:PySem.W.nsIn K mainGlobals "checked_clues"=some (some (.ref f37))) (a38_Joined:PySem.W.findIn K (.ref xp) "is_joined"=some (some (.ref f38))) (a38_Ring:PySem.W.findIn K (.ref xv) "is_joined"=some (some (.ref f38))) (a39_NoSquare:PySem.W.findIn K (.ref xm) "holds"=some (some (.ref f39))) (a40:PySem.W.nsIn K mainGlobals "cells_of"=some (some (.ref f40))) (a41:PySem.W.nsIn K mainGlobals "checked_floor"=some (some (.ref f41))) (a42_Joined:PySem.W.findIn K (.ref xp) "holds"=some (some (.ref f42))) (a43_Ring:PySem.W.findIn K (.ref xv) "holds"=some (some (.ref f43))) (a44:PySem.W.nsIn K mainGlobals "read_rule"=some (some (.ref f44))) (a45:PySem.W.nsIn K mainGlobals "read_rules"=some (some (.ref f45))) (a46_Puzzle:PySem.W.findIn K (.ref xt) "meets"=some (some (.ref f46))) (a47:PySem.W.nsIn K mainGlobals "found_by"=some (some (.ref f47))) (zC:PySem.W.findIn K (.ref xt) "__init__"=some (some (.ref f48))) (a49:PySem.W.nsIn K mainGlobals "answers"=some (some (.ref f49))) (a50:PySem.W.nsIn K mainGlobals "filled"=some (some (.ref f50))) (a51:PySem.W.nsIn K mainGlobals "_law_said"=some (some (.ref f51))) (a52:PySem.W.nsIn K mainGlobals "law"=some (some (.ref f52))) (F0:Fun K "is_whole" "is_whole" jF f0 fd0) (F1:Fun K "many_cells" "many_cells" il f1 fd1) (F2:Fun K "spot_of" "spot_of" ky f2 fd2) (F3:Fun K "square_at" "square_at" i3 f3 fd3) (F4:Fun K "with_each" "with_each" i4 f4 fd4) (F5:Fun K "signs_from" "signs_from" im f5 fd5) (F6:Fun K "is_within" "is_within" i5 f6 fd6) (F7:Fun K "__init__" "Rule.__init__" fF f7 fd7) (fn7:PySem.W.isFn K (.ref f7)=true) (F8:Fun K "signs_at" "Rule.signs_at" fG f8 fd8) (fn8:PySem.W.isFn K (.ref f8)=true) (F9:Fun K "marked" "Rule.marked" gE f9 fd9) (fn9:PySem.W.isFn K (.ref f9)=true) (F10:Fun K "number_in" "number_in" i6 f10 fd10) (F11:Fun K "place" "Puzzle.place" fQ f11 fd11) (fn11:PySem.W.isFn K (.ref f11)=true) (F12:Fun K "clues" "Puzzle.clues" fR f12 fd12) (fn12:PySem.W.isFn K (.ref f12)=true) (F13:Fun K "has_clues" "Puzzle.has_clues" dA f13 fd13) (fn13:PySem.W.isFn K (.ref f13)=true) (F14:Fun K "_law_at" "_law_at" kz f14 fd14) (F15:Fun K "is_from_one_to" "is_from_one_to" eI f15 fd15) (F16:Fun K "beside" "beside" lL f16 fd16) (F17:Fun K "is_corner" "is_corner" i7 f17 fd17) (F18:Fun K "refuse_too_many" "refuse_too_many" dS f18 fd18) (F19:Fun K "every_filling" "every_filling" fH f19 fd19) (F20:Fun K "signs_to_try" "signs_to_try" fS f20 fd20) (F21:Fun K "holds" "Unlike.holds" fU f21 fd21) (fn21:PySem.W.isFn K (.ref f21)=true) (F22:Fun K "holds" "Sum.holds" i8 f22 fd22) (fn22:PySem.W.isFn K (.ref f22)=true) (F23:Fun K "holds" "Rising.holds" fV f23 fd23) (fn23:PySem.W.isFn K (.ref f23)=true) (F24:Fun K "holds" "Seen.holds" io f24 fd24) (fn24:PySem.W.isFn K (.ref f24)=true) (F25:Fun K "holds" "Count.holds" gF f25 fd25) (fn25:PySem.W.isFn K (.ref f25)=true) (F26:Fun K "number_within" "number_within" fI f26 fd26) (F27:Fun K "is_filling" "is_filling" ip f27 fd27) (F28:Fun K "_law_floor" "_law_floor" iq f28 fd28) (F29:Fun K "_law_empty" "_law_empty" ir f29 fd29) (F30:Fun K "floor_of" "floor_of" jG f30 fd30) (F31:Fun K "squares" "squares" kB f31 fd31) (F32:Fun K "reached" "reached" kC f32 fd32) (F33:Fun K "has_two_beside" "Ring.has_two_beside" cy f33 fd33) (fn33:PySem.W.isFn K (.ref f33)=true) (F34:Fun K "first_within" "first_within" fW f34 fd34) (F35:Fun K "told_cells" "told_cells" iu f35 fd35) (F36:Fun K "rule_by" "rule_by" kD f36 fd36) (F37:Fun K "checked_clues" "checked_clues" fJ f37 fd37) (F38:Fun K "is_joined" "Joined.is_joined" dB f38 fd38) (fn38:PySem.W.isFn K (.ref f38)=true) (F39:Fun K "holds" "NoSquare.holds" eJ f39 fd39) (fn39:PySem.W.isFn K (.ref f39)=true) (F40:Fun K "cells_of" "cells_of" jH f40 fd40) (F41:Fun K "checked_floor" "checked_floor" fK f41 fd41) (F42:Fun K "holds" "Joined.holds" fX f42 fd42) (fn42:PySem.W.isFn K (.ref f42)=true) (F43:Fun K "holds" "Ring.holds" iv f43 fd43) (fn43:PySem.W.isFn K (.ref f43)=true) (F44:Fun K "read_rule" "read_rule" ja f44 fd44) (F45:Fun K "read_rules" "read_rules" iw f45 fd45) (F46:Fun K "meets" "Puzzle.meets" fY f46 fd46) (fn46:PySem.W.isFn K (.ref f46)=true) (F47:Fun K "found_by" "found_by" jI f47 fd47) (F48:Fun K "__init__" "Puzzle.__init__" dU f48 fd48) (fn48:PySem.W.isFn K (.ref f48)=true) (F49:FunD K "answers" "answers" kF f49 fd49 [Value.int 2 td]) (F50:Fun K "filled" "filled" lQ f50 fd50) (F51:Fun K "_law_said" "_law_said" jb f51 fd51) (F52:Fun K "law" "law" kP f52 fd52) (zD:PySem.W.makesIn K xo=true) (zE:PySem.W.keepIn K (.ref xo)=true) (zF:PySem.W.plainGet K xo Str.empty=true) (zG:PySem.W.hasDictIn K xo=true) (zH:PySem.W.plainOver K xo=true) (zI:PySem.W.findIn K (.ref xo) "__setattr__"=some (some (.builtin "object.__setattr__"))) (A0:PySem.W.makesIn K xz=true) (A1:PySem.W.keepIn K (.ref xz)=true) (A2:PySem.W.plainGet K xz Str.empty=true) (A3:PySem.W.hasDictIn K xz=true) (A4:PySem.W.plainOver K xz=true) (A5:PySem.W.findIn K (.ref xz) "__setattr__"=some (some (.builtin "object.__setattr__"))) (zJ:PySem.W.makesIn K xq=true) (zK:PySem.W.keepIn K (.ref xq)=true) (zL:PySem.W.plainGet K xq Str.empty=true) (zM:PySem.W.hasDictIn K xq=true) (zN:PySem.W.plainOver K xq=true) (zO:PySem.W.findIn K (.ref xq) "__setattr__"=some (some (.builtin "object.__setattr__"))) (Au:PySem.W.makesIn K xw=true) (Av:PySem.W.keepIn K (.ref xw)=true) (Aw:PySem.W.plainGet K xw Str.empty=true) (Ax:PySem.W.hasDictIn K xw=true) (Ay:PySem.W.plainOver K xw=true) (Az:PySem.W.findIn K (.ref xw) "__setattr__"=some (some (.builtin "object.__setattr__"))) (Ab:PySem.W.makesIn K xu=true) (Ac:PySem.W.keepIn K (.ref xu)=true) (Ad:PySem.W.plainGet K xu Str.empty=true) (Ae:PySem.W.hasDictIn K xu=true) (Af:PySem.W.plainOver K xu=true) (Ag:PySem.W.findIn K (.ref xu) "__setattr__"=some (some (.builtin "object.__setattr__"))) (zP:PySem.W.makesIn K xp=true) (zQ:PySem.W.keepIn K (.ref xp)=true) (zR:PySem.W.plainGet K xp Str.empty=true) (zS:PySem.W.hasDictIn K xp=true) (zT:PySem.W.plainOver K xp=true) (zU:PySem.W.findIn K (.ref xp) "__setattr__"=some (some (.builtin "object.__setattr__"))) (zc:PySem.W.makesIn K xm=true) (zd:PySem.W.keepIn K (.ref xm)=true) (ze:PySem.W.plainGet K xm Str.empty=true) (zf:PySem.W.hasDictIn K xm=true) (zg:PySem.W.plainOver K xm=true) (zh:PySem.W.findIn K (.ref xm) "__setattr__"=some (some (.builtin "object.__setattr__"))) (AA:PySem.W.makesIn K xv=true) (AB:PySem.W.keepIn K (.ref xv)=true) (AC:PySem.W.plainGet K xv Str.empty=true) (AD:PySem.W.hasDictIn K xv=true) (AE:PySem.W.plainOver K xv=true) (AF:PySem.W.findIn K (.ref xv) "__setattr__"=some (some (.builtin "object.__setattr__"))) (zV:PySem.W.makesIn K xt=true) (zW:PySem.W.keepIn K (.ref xt)=true) (zX:PySem.W.plainGet K xt Str.empty=true) (zY:PySem.W.hasDictIn K xt=true) (zZ:PySem.W.plainOver K xt=true) (z4:PySem.W.findIn K (.ref xt) "__setattr__"=some (some (.builtin "object.__setattr__"))) (xS:PySem.W.findIn K (.ref xo) "amount"=some none) (yy:PySem.W.findIn K (.ref xz) "amount"=some none) (xT:PySem.W.findIn K (.ref xq) "amount"=some none) (yh:PySem.W.findIn K (.ref xw) "amount"=some none) (x5:PySem.W.findIn K (.ref xu) "amount"=some none) (xU:PySem.W.findIn K (.ref xp) "amount"=some none) (xJ:PySem.W.findIn K (.ref xm) "amount"=some none) (yi:PySem.W.findIn K (.ref xv) "amount"=some none) (x6:PySem.W.findIn K (.ref xo) "cells"=some none) (yL:PySem.W.findIn K (.ref xz) "cells"=some none) (x8:PySem.W.findIn K (.ref xq) "cells"=some none) (yz:PySem.W.findIn K (.ref xw) "cells"=some none) (yj:PySem.W.findIn K (.ref xu) "cells"=some none) (xF:PySem.W.findIn K (.ref xp) "cells"=some none) (xN:PySem.W.findIn K (.ref xm) "cells"=some none) (xQ:PySem.W.findIn K (.ref xv) "cells"=some none) (x9:PySem.W.findIn K (.ref xo) "floor"=some none) (yM:PySem.W.findIn K (.ref xz) "floor"=some none) (ya:PySem.W.findIn K (.ref xq) "floor"=some none) (yA:PySem.W.findIn K (.ref xw) "floor"=some none) (yk:PySem.W.findIn K (.ref xu) "floor"=some none) (xG:PySem.W.findIn K (.ref xp) "floor"=some none) (xO:PySem.W.findIn K (.ref xm) "floor"=some none) (xR:PySem.W.findIn K (.ref xv) "floor"=some none) (yl:PySem.W.findIn K (.ref xo) "mark"=some none) (yU:PySem.W.findIn K (.ref xz) "mark"=some none) (ym:PySem.W.findIn K (.ref xq) "mark"=some none) (yN:PySem.W.findIn K (.ref xw) "mark"=some none) (yB:PySem.W.findIn K (.ref xu) "mark"=some none) (xK:PySem.W.findIn K (.ref xp) "mark"=some none) (xV:PySem.W.findIn K (.ref xm) "mark"=some none) (xZ:PySem.W.findIn K (.ref xv) "mark"=some none) (yb:PySem.W.findIn K (.ref xo) "words"=some none) (yO:PySem.W.findIn K (.ref xz) "words"=some none) (yc:PySem.W.findIn K (.ref xq) "words"=some none) (yC:PySem.W.findIn K (.ref xw) "words"=some none) (yn:PySem.W.findIn K (.ref xu) "words"=some none) (yd:PySem.W.findIn K (.ref xp) "words"=some none) (xP:PySem.W.findIn K (.ref xm) "words"=some none) (yD:PySem.W.findIn K (.ref xv) "words"=some none) (ye:PySem.W.findIn K (.ref xt) "floor"=some none) (yf:PySem.W.findIn K (.ref xt) "given"=some none) (yo:PySem.W.findIn K (.ref xt) "laws"=some none) (yp:PySem.W.nsIn K mainGlobals "OF_ALL_CELLS"=some (some (.ref yx))) (yq:K.lookup yx=some ⟨.type "tuple",AH,.seq #[.str (tx [106,111,105,110,101,100]) AK,.str (tx [110,111,115,113,117,97,114,101]) AL,.str (tx [114,105,110,103]) AM] AI,AJ⟩) (yE:PySem.W.nsIn K mainGlobals "WITH_NUMBER"=some (some (.ref yK))) (yF:K.lookup yK=some ⟨.type "tuple",AS,.seq #[.str (tx [115,117,109]) AV,.str (tx [115,101,101,110]) AW,.str (tx [99,111,117,110,116]) AX] AT,AU⟩) (yV:PySem.W.nsIn K mainGlobals "WITH_SIGN"=some (some (.ref za))) (yW:K.lookup za=some ⟨.type "tuple",A9,.seq #[.str (tx [99,111,117,110,116]) Bc,.str (tx [106,111,105,110,101,100]) Bd,.str (tx [110,111,115,113,117,97,114,101]) Be,.str (tx [114,105,110,103]) Bf] Ba,Bb⟩) (z5:PySem.W.nsIn K mainGlobals "FIGURES"=some (some (.str (tx [48,49,50,51,52,53,54,55,56,57]) tk_FIGURES))) (yX:PySem.W.nsIn K mainGlobals "MOST_CELLS"=some (some (.int 16 tk_MOST_CELLS))) (yG:PySem.W.nsIn K mainGlobals "MOST_FIGURES"=some (some (.int 9 tk_MOST_FIGURES))) (yP:PySem.W.nsIn K mainGlobals "MOST_FLOORS"=some (some (.int 1024 tk_MOST_FLOORS))) (yQ:PySem.W.nsIn K mainGlobals "MOST_NUMBER"=some (some (.int 99 tk_MOST_NUMBER))) (yY:PySem.W.nsIn K mainGlobals "MOST_RULES"=some (some (.int 12 tk_MOST_RULES))) (zi:PySem.W.nsIn K mainGlobals "MOST_SIDE"=some (some (.int 6 tk_MOST_SIDE))) (yZ:PySem.W.nsIn K mainGlobals "MOST_SIGNS"=some (some (.int 6 tk_MOST_SIGNS))) (z_len:PySem.W.nsIn K mainGlobals "len"=some none) (z_abs:PySem.W.nsIn K mainGlobals "abs"=some none) (z_min:PySem.W.nsIn K mainGlobals "min"=some none) (z_max:PySem.W.nsIn K mainGlobals "max"=some none) (z_sorted:PySem.W.nsIn K mainGlobals "sorted"=some none) (z_any:PySem.W.nsIn K mainGlobals "any"=some none) (z_isinstance:PySem.W.nsIn K mainGlobals "isinstance"=some none) (z_list:PySem.W.nsIn K mainGlobals "list"=some none) (z_int:PySem.W.nsIn K mainGlobals "int"=some none) (z_bool:PySem.W.nsIn K mainGlobals "bool"=some none) (z_str:PySem.W.nsIn K mainGlobals "str"=some none) (z_tuple:PySem.W.nsIn K mainGlobals "tuple"=some none) (z_reversed:PySem.W.nsIn K mainGlobals "reversed"=some none) (z_set:PySem.W.nsIn K mainGlobals "set"=some none) (z_range:PySem.W.nsIn K mainGlobals "range"=some none) (z_zip:PySem.W.nsIn K mainGlobals "zip"=some none) (z_all:PySem.W.nsIn K mainGlobals "all"=some none) (z_sum:PySem.W.nsIn K mainGlobals "sum"=some none) (z_enumerate:PySem.W.nsIn K mainGlobals "enumerate"=some none) (e_ClueError:PySem.W.nsIn K mainGlobals "ClueError"=some (some (.ref x_ClueError))) (e_NoFloor:PySem.W.nsIn K mainGlobals "NoFloor"=some (some (.ref x_NoFloor))) (e_NoFilling:PySem.W.nsIn K mainGlobals "NoFilling"=some (some (.ref x_NoFilling))) (e_NoRule:PySem.W.nsIn K mainGlobals "NoRule"=some (some (.ref x_NoRule))) (e_NoPuzzle:PySem.W.nsIn K mainGlobals "NoPuzzle"=some (some (.ref x_NoPuzzle))) (e_TooMany:PySem.W.nsIn K mainGlobals "TooMany"=some (some (.ref x_TooMany))) (e_NotOne:PySem.W.nsIn K mainGlobals "NotOne"=some (some (.ref x_NotOne))) (e_NoMove:PySem.W.nsIn K mainGlobals "NoMove"=some (some (.ref x_NoMove))) (e_NoText:PySem.W.nsIn K mainGlobals "NoText"=some (some (.ref x_NoText))) (e_NoName:PySem.W.nsIn K mainGlobals "NoName"=some (some (.ref x_NoName))) (e_NoRow:PySem.W.nsIn K mainGlobals "NoRow"=some (some (.ref x_NoRow))) (e_BadThought:PySem.W.nsIn K mainGlobals "BadThought"=some (some (.ref x_BadThought))) (z_ValueError:PySem.W.nsIn K mainGlobals "ValueError"=some none) (D1:K.lookup x_ClueError=some ⟨cC0,dD,.cls cdD,slD⟩) (D2:cdD.ns=ND) (D3:K.lookup ND=some ⟨cE,dE,.dict esE nE,sE⟩) (D4:jl esE=true) (r1_TooMany:K.lookup x_TooMany=some (excClassObj nm_TooMany Bi x_TooMany N_TooMany bs_TooMany (.ref x_ClueError::VE) hd_TooMany sn_TooMany sub_TooMany ab_TooMany col_TooMany dd_TooMany k0_TooMany k1_TooMany k2_TooMany k3_TooMany k5_TooMany "ValueError.__new__")) (r2_TooMany:K.lookup N_TooMany=some ⟨cN_TooMany,dN_TooMany,.dict es_TooMany n_TooMany,sN_TooMany⟩) (r3_TooMany:jl es_TooMany=true) (f1_TooMany:PySem.W.findIn K (.ref x_TooMany) "__getattribute__"=some (some (.builtin "BaseException.__getattribute__"))) (f2_TooMany:PySem.W.findIn K (.ref x_TooMany) "__getattr__"=some none) (f3_TooMany:PySem.W.findIn K (.ref x_TooMany) "__class__"=some (some (.builtin "object.__class__"))) (f4_TooMany:PySem.W.mroIn K x_TooMany (.type "object")=some true) (f5_TooMany:PySem.W.mroIn K x_TooMany (.type "BaseException")=some true) (f6_TooMany:PySem.W.kitOne K (.ref x_TooMany) (.type "ValueError")=some true) (f7_TooMany:PySem.W.exmOne K (.ref x_TooMany) (.ref x_ClueError)=some true) (g_TooMany_BadThought:PySem.W.kitOne K (.ref x_TooMany) (.ref x_BadThought)=some false) (g_TooMany_NoFilling:PySem.W.kitOne K (.ref x_TooMany) (.ref x_NoFilling)=some false) (g_TooMany_NoMove:PySem.W.kitOne K (.ref x_TooMany) (.ref x_NoMove)=some false) (g_TooMany_NoFloor:PySem.W.kitOne K (.ref x_TooMany) (.ref x_NoFloor)=some false) (g_TooMany_NoName:PySem.W.kitOne K (.ref x_TooMany) (.ref x_NoName)=some false) (g_TooMany_NoPuzzle:PySem.W.kitOne K (.ref x_TooMany) (.ref x_NoPuzzle)=some false) (g_TooMany_NoRow:PySem.W.kitOne K (.ref x_TooMany) (.ref x_NoRow)=some false) (g_TooMany_NoRule:PySem.W.kitOne K (.ref x_TooMany) (.ref x_NoRule)=some false) (g_TooMany_NoText:PySem.W.kitOne K (.ref x_TooMany) (.ref x_NoText)=some false) (g_TooMany_NotOne:PySem.W.kitOne K (.ref x_TooMany) (.ref x_NotOne)=some false):
  ∃ fd:FuncData,(∀ (s:Shared) (v:Value),BindsTo s fd ⟨[v],[]⟩ [("_law_script",v)])∧∀ base:Heap,K.In base→base.Ns mainGlobals mg→FnOk l.prog w K mg base CX0 10 fa fd ["_law_script"] (nS K):=by
 have e:=hfa.symm.trans (PySem.W.mg_of X G a52)
 cases e
 have B:Bt2 mg:=⟨⟨PySem.W.mg_none_of X G z_len,PySem.W.mg_none_of X G z_abs,PySem.W.mg_none_of X G z_min,PySem.W.mg_none_of X G z_max,PySem.W.mg_none_of X G z_sorted,PySem.W.mg_none_of X G z_any,PySem.W.mg_none_of X G z_isinstance,PySem.W.mg_none_of X G z_list,PySem.W.mg_none_of X G z_int,PySem.W.mg_none_of X G z_bool,PySem.W.mg_none_of X G z_str,PySem.W.mg_none_of X G z_tuple,PySem.W.mg_none_of X G z_reversed,PySem.W.mg_none_of X G z_set,PySem.W.mg_none_of X G z_range,PySem.W.mg_none_of X G z_zip⟩,PySem.W.mg_none_of X G z_all,PySem.W.mg_none_of X G z_sum,PySem.W.mg_none_of X G z_enumerate⟩
 obtain ⟨oc,od,kV,doc,pm,an,cdv,ct,osl,rfl,lk,hcd⟩:=F52.ex
 refine ⟨PySem.W.fnOf "law" "law" (aN kP) (aK kP) (ah kP) .none kV doc pm an cdv ct,fun s v=>.of_eq rfl,fun base _ _=>?_⟩
 let c:RCl RK:=mkC xo xz xq xw xu xp xm xv
 let d:RCl PzK:=mkD xt
 have z6:=PySem.W.mg_of X G z5
 have y1:=PySem.W.mg_of X G yX
 have yH:=PySem.W.mg_of X G yG
 have yS:=PySem.W.mg_of X G yP
 have yT:=PySem.W.mg_of X G yQ
 have y4:=PySem.W.mg_of X G yY
 have yR:=PySem.W.mg_of X G zi
 have y2:=PySem.W.mg_of X G yZ
 let a:EA:=(⟨x_ClueError,x_NoFloor,x_NoFilling,x_NoRule,x_NoPuzzle,x_TooMany,x_NotOne,x_NoMove,x_NoText,x_NoName,x_NoRow,x_BadThought⟩:EA)
 have EM:ErrM mg a:=⟨PySem.W.mg_of X G e_ClueError,PySem.W.mg_of X G e_NoFloor,PySem.W.mg_of X G e_NoFilling,PySem.W.mg_of X G e_NoRule,PySem.W.mg_of X G e_NoPuzzle,PySem.W.mg_of X G e_TooMany,PySem.W.mg_of X G e_NotOne,PySem.W.mg_of X G e_NoMove,PySem.W.mg_of X G e_NoText,PySem.W.mg_of X G e_NoName,PySem.W.mg_of X G e_NoRow,PySem.W.mg_of X G e_BadThought⟩
 have BV:=PySem.W.mg_none_of X G z_ValueError
 have R_TooMany:nv K a "TooMany" a.TooMany (lI a):=⟨e_TooMany,wW r1_TooMany r2_TooMany r3_TooMany D1 D2 D3 D4,⟨f1_TooMany,f2_TooMany,f3_TooMany,f4_TooMany,f5_TooMany⟩,f6_TooMany,f7_TooMany,(List.forall_mem_cons.mpr ⟨g_TooMany_BadThought,(List.forall_mem_cons.mpr ⟨g_TooMany_NoFilling,(List.forall_mem_cons.mpr ⟨g_TooMany_NoMove,(List.forall_mem_cons.mpr ⟨g_TooMany_NoFloor,(List.forall_mem_cons.mpr ⟨g_TooMany_NoName,(List.forall_mem_cons.mpr ⟨g_TooMany_NoPuzzle,(List.forall_mem_cons.mpr ⟨g_TooMany_NoRow,(List.forall_mem_cons.mpr ⟨g_TooMany_NoRule,(List.forall_mem_cons.mpr ⟨g_TooMany_NoText,(List.forall_mem_cons.mpr ⟨g_TooMany_NotOne,(fun _ z=>nomatch z)⟩)⟩)⟩)⟩)⟩)⟩)⟩)⟩)⟩)⟩)⟩
 have cls_Unlike:Cls K xo:=⟨zF,zG,zH,zI⟩
 have cls_Sum:Cls K xz:=⟨A2,A3,A4,A5⟩
 have cls_Rising:Cls K xq:=⟨zL,zM,zN,zO⟩
 have cls_Seen:Cls K xw:=⟨Aw,Ax,Ay,Az⟩
 have cls_Count:Cls K xu:=⟨Ad,Ae,Af,Ag⟩
 have cls_Joined:Cls K xp:=⟨zR,zS,zT,zU⟩
 have cls_NoSquare:Cls K xm:=⟨ze,zf,zg,zh⟩
 have cls_Ring:Cls K xv:=⟨AC,AD,AE,AF⟩
 have cls_Puzzle:Cls K xt:=⟨zX,zY,zZ,z4⟩
 have FK_c_amount:FldK K c "amount":=⟨fun i hi=>by cases i with | Rule=>exact (Bool.false_ne_true hi).elim | Unlike=>exact ⟨cls_Unlike,xS⟩ | Sum=>exact ⟨cls_Sum,yy⟩ | Rising=>exact ⟨cls_Rising,xT⟩ | Seen=>exact ⟨cls_Seen,yh⟩ | Count=>exact ⟨cls_Count,x5⟩ | Joined=>exact ⟨cls_Joined,xU⟩ | NoSquare=>exact ⟨cls_NoSquare,xJ⟩ | Ring=>exact ⟨cls_Ring,yi⟩⟩
 have FK_c_cells:FldK K c "cells":=⟨fun i hi=>by cases i with | Rule=>exact (Bool.false_ne_true hi).elim | Unlike=>exact ⟨cls_Unlike,x6⟩ | Sum=>exact ⟨cls_Sum,yL⟩ | Rising=>exact ⟨cls_Rising,x8⟩ | Seen=>exact ⟨cls_Seen,yz⟩ | Count=>exact ⟨cls_Count,yj⟩ | Joined=>exact ⟨cls_Joined,xF⟩ | NoSquare=>exact ⟨cls_NoSquare,xN⟩ | Ring=>exact ⟨cls_Ring,xQ⟩⟩
 have FK_c_floor:FldK K c "floor":=⟨fun i hi=>by cases i with | Rule=>exact (Bool.false_ne_true hi).elim | Unlike=>exact ⟨cls_Unlike,x9⟩ | Sum=>exact ⟨cls_Sum,yM⟩ | Rising=>exact ⟨cls_Rising,ya⟩ | Seen=>exact ⟨cls_Seen,yA⟩ | Count=>exact ⟨cls_Count,yk⟩ | Joined=>exact ⟨cls_Joined,xG⟩ | NoSquare=>exact ⟨cls_NoSquare,xO⟩ | Ring=>exact ⟨cls_Ring,xR⟩⟩
 have FK_c_mark:FldK K c "mark":=⟨fun i hi=>by cases i with | Rule=>exact (Bool.false_ne_true hi).elim | Unlike=>exact ⟨cls_Unlike,yl⟩ | Sum=>exact ⟨cls_Sum,yU⟩ | Rising=>exact ⟨cls_Rising,ym⟩ | Seen=>exact ⟨cls_Seen,yN⟩ | Count=>exact ⟨cls_Count,yB⟩ | Joined=>exact ⟨cls_Joined,xK⟩ | NoSquare=>exact ⟨cls_NoSquare,xV⟩ | Ring=>exact ⟨cls_Ring,xZ⟩⟩
 have FK_c_words:FldK K c "words":=⟨fun i hi=>by cases i with | Rule=>exact (Bool.false_ne_true hi).elim | Unlike=>exact ⟨cls_Unlike,yb⟩ | Sum=>exact ⟨cls_Sum,yO⟩ | Rising=>exact ⟨cls_Rising,yc⟩ | Seen=>exact ⟨cls_Seen,yC⟩ | Count=>exact ⟨cls_Count,yn⟩ | Joined=>exact ⟨cls_Joined,yd⟩ | NoSquare=>exact ⟨cls_NoSquare,xP⟩ | Ring=>exact ⟨cls_Ring,yD⟩⟩
 have FK_d_floor:FldK K d "floor":=⟨fun i hi=>by cases i; exact ⟨cls_Puzzle,ye⟩⟩
 have FK_d_given:FldK K d "given":=⟨fun i hi=>by cases i; exact ⟨cls_Puzzle,yf⟩⟩
 have FK_d_laws:FldK K d "laws":=⟨fun i hi=>by cases i; exact ⟨cls_Puzzle,yo⟩⟩
 have G_OF_ALL_CELLS:GTup K mg "OF_ALL_CELLS" cV:=⟨yx,_,_,_,PySem.W.mg_of X G yp,yq,rfl,rfl,Nat.le_of_lt (aD (by show (3:Nat)≤1000; decide)),(.cons ⟨_,rfl⟩ (.cons ⟨_,rfl⟩ (.cons ⟨_,rfl⟩ .nil)))⟩
 have G_WITH_NUMBER:GTup K mg "WITH_NUMBER" dH:=⟨yK,_,_,_,PySem.W.mg_of X G yE,yF,rfl,rfl,Nat.le_of_lt (aD (by show (3:Nat)≤1000; decide)),(.cons ⟨_,rfl⟩ (.cons ⟨_,rfl⟩ (.cons ⟨_,rfl⟩ .nil)))⟩
 have G_WITH_SIGN:GTup K mg "WITH_SIGN" du:=⟨za,_,_,_,PySem.W.mg_of X G yV,yW,rfl,rfl,Nat.le_of_lt (aD (by show (4:Nat)≤1000; decide)),(.cons ⟨_,rfl⟩ (.cons ⟨_,rfl⟩ (.cons ⟨_,rfl⟩ (.cons ⟨_,rfl⟩ .nil))))⟩
 have xW:Cal l.prog w K mg base _ _ _ (bM K):=lH (qX B F0) F0 (PySem.W.mg_of X G a0)
 have xn:Cal l.prog w K mg base _ _ _ (aI K):=lH (pb B F1) F1 (PySem.W.mg_of X G a1)
 have yr:Cal l.prog w K mg base _ _ _ (b5 K):=dQ (sr B F2) F2 (PySem.W.mg_of X G a2)
 have zn:Cal l.prog w K mg base _ _ _ (cq K):=dQ (qz B F3) F3 (PySem.W.mg_of X G a3)
 have zk:Cal l.prog w K mg base _ _ _ (cx K):=dQ (qA B F4) F4 (PySem.W.mg_of X G a4)
 have y0:Cal l.prog w K mg base _ _ _ (b3 K):=dQ (pc B F5) F5 (PySem.W.mg_of X G a5)
 have zo:Cal l.prog w K mg base _ _ _ (cw K):=dQ (qB B F6) F6 (PySem.W.mg_of X G a6)
 have bd7:Binds K fd7 ["self","floor","words","cells","amount","mark"] []:=w5 F7
 have T7:FnOk l.prog w K mg base CX0 1 f7 fd7 _ (aj K c):=lJ (c:=c) B FK_c_amount FK_c_cells FK_c_floor FK_c_mark FK_c_words F7
 have Ak:KCal l.prog w K mg base _ "Unlike" (c.A .Unlike) _ (aj K c):=⟨f7,_,⟨zD,zy,fn7,zE⟩,T7,PySem.W.mg_of X G Ao,bd7⟩
 have K_Sum:KCal l.prog w K mg base _ "Sum" (c.A .Sum) _ (aj K c):=⟨f7,_,⟨A0,AZ,fn7,A1⟩,T7,PySem.W.mg_of X G q_Sum,bd7⟩
 have Aj:KCal l.prog w K mg base _ "Rising" (c.A .Rising) _ (aj K c):=⟨f7,_,⟨zJ,zA,fn7,zK⟩,T7,PySem.W.mg_of X G Ap,bd7⟩
 have A8:KCal l.prog w K mg base _ "Seen" (c.A .Seen) _ (aj K c):=⟨f7,_,⟨Au,As,fn7,Av⟩,T7,PySem.W.mg_of X G Bg,bd7⟩
 have AO:KCal l.prog w K mg base _ "Count" (c.A .Count) _ (aj K c):=⟨f7,_,⟨Ab,Aa,fn7,Ac⟩,T7,PySem.W.mg_of X G AY,bd7⟩
 have Ai:KCal l.prog w K mg base _ "Joined" (c.A .Joined) _ (aj K c):=⟨f7,_,⟨zP,zB,fn7,zQ⟩,T7,PySem.W.mg_of X G Aq,bd7⟩
 have zu:KCal l.prog w K mg base _ "NoSquare" (c.A .NoSquare) _ (aj K c):=⟨f7,_,⟨zc,zb,fn7,zd⟩,T7,PySem.W.mg_of X G zx,bd7⟩
 have A7:KCal l.prog w K mg base _ "Ring" (c.A .Ring) _ (aj K c):=⟨f7,_,⟨AA,At,fn7,AB⟩,T7,PySem.W.mg_of X G Bh,bd7⟩
 have bd8:Binds K fd8 ["self","filling"] []:=cO F8
 have T8:FnOk l.prog w K mg base CX0 1 f8 fd8 _ (cH K c):=lK (c:=c) B FK_c_cells F8
 have xy:MCal l.prog w K mg base c c.ok 1 "signs_at" ["self","filling"] (bn K c):=⟨fun i hi=>by cases i with | Rule=>exact (Bool.false_ne_true hi).elim | Unlike=>exact ⟨f8,_,cls_Unlike,⟨a8_Unlike,fn8,F8.kp⟩,(T8.mono (by decide)).imp (fun vs H Q E h=>⟨.Unlike,h⟩),bd8⟩ | Sum=>exact ⟨f8,_,cls_Sum,⟨a8_Sum,fn8,F8.kp⟩,(T8.mono (by decide)).imp (fun vs H Q E h=>⟨.Sum,h⟩),bd8⟩ | Rising=>exact ⟨f8,_,cls_Rising,⟨a8_Rising,fn8,F8.kp⟩,(T8.mono (by decide)).imp (fun vs H Q E h=>⟨.Rising,h⟩),bd8⟩ | Seen=>exact ⟨f8,_,cls_Seen,⟨a8_Seen,fn8,F8.kp⟩,(T8.mono (by decide)).imp (fun vs H Q E h=>⟨.Seen,h⟩),bd8⟩ | Count=>exact ⟨f8,_,cls_Count,⟨a8_Count,fn8,F8.kp⟩,(T8.mono (by decide)).imp (fun vs H Q E h=>⟨.Count,h⟩),bd8⟩ | Joined=>exact ⟨f8,_,cls_Joined,⟨a8_Joined,fn8,F8.kp⟩,(T8.mono (by decide)).imp (fun vs H Q E h=>⟨.Joined,h⟩),bd8⟩ | NoSquare=>exact ⟨f8,_,cls_NoSquare,⟨a8_NoSquare,fn8,F8.kp⟩,(T8.mono (by decide)).imp (fun vs H Q E h=>⟨.NoSquare,h⟩),bd8⟩ | Ring=>exact ⟨f8,_,cls_Ring,⟨a8_Ring,fn8,F8.kp⟩,(T8.mono (by decide)).imp (fun vs H Q E h=>⟨.Ring,h⟩),bd8⟩⟩
 have bd9:Binds K fd9 ["self","filling"] []:=cO F9
 have FK_c_cells_Joined:FldK K (mk1 c .Joined) "cells":=⟨fun i hi=>by cases i with | Rule=>exact (Bool.false_ne_true hi).elim | Unlike=>exact (Bool.false_ne_true hi).elim | Sum=>exact (Bool.false_ne_true hi).elim | Rising=>exact (Bool.false_ne_true hi).elim | Seen=>exact (Bool.false_ne_true hi).elim | Count=>exact (Bool.false_ne_true hi).elim | Joined=>exact ⟨cls_Joined,xF⟩ | NoSquare=>exact (Bool.false_ne_true hi).elim | Ring=>exact (Bool.false_ne_true hi).elim⟩
 have FK_c_mark_Joined:FldK K (mk1 c .Joined) "mark":=⟨fun i hi=>by cases i with | Rule=>exact (Bool.false_ne_true hi).elim | Unlike=>exact (Bool.false_ne_true hi).elim | Sum=>exact (Bool.false_ne_true hi).elim | Rising=>exact (Bool.false_ne_true hi).elim | Seen=>exact (Bool.false_ne_true hi).elim | Count=>exact (Bool.false_ne_true hi).elim | Joined=>exact ⟨cls_Joined,xK⟩ | NoSquare=>exact (Bool.false_ne_true hi).elim | Ring=>exact (Bool.false_ne_true hi).elim⟩
 have T9_Joined:FnOk l.prog w K mg base CX0 1 f9 _ ["self","filling"] (bP K (mk1 c .Joined)):=fP (c:=(mk1 c .Joined)) B FK_c_cells_Joined FK_c_mark_Joined F9
 have AN:MCal l.prog w K mg base (mk1 c .Joined) (mk1 c .Joined).ok 1 "marked" ["self","filling"] (bt K (mk1 c .Joined)):=⟨fun i hi=>by cases i with | Rule=>exact (Bool.false_ne_true hi).elim | Unlike=>exact (Bool.false_ne_true hi).elim | Sum=>exact (Bool.false_ne_true hi).elim | Rising=>exact (Bool.false_ne_true hi).elim | Seen=>exact (Bool.false_ne_true hi).elim | Count=>exact (Bool.false_ne_true hi).elim | Joined=>exact ⟨f9,_,cls_Joined,⟨a9_Joined,fn9,F9.kp⟩,(T9_Joined.mono (by decide)).imp (fun vs H Q E h=>⟨.Joined,h⟩),bd9⟩ | NoSquare=>exact (Bool.false_ne_true hi).elim | Ring=>exact (Bool.false_ne_true hi).elim⟩
 have FK_c_cells_Ring:FldK K (mk1 c .Ring) "cells":=⟨fun i hi=>by cases i with | Rule=>exact (Bool.false_ne_true hi).elim | Unlike=>exact (Bool.false_ne_true hi).elim | Sum=>exact (Bool.false_ne_true hi).elim | Rising=>exact (Bool.false_ne_true hi).elim | Seen=>exact (Bool.false_ne_true hi).elim | Count=>exact (Bool.false_ne_true hi).elim | Joined=>exact (Bool.false_ne_true hi).elim | NoSquare=>exact (Bool.false_ne_true hi).elim | Ring=>exact ⟨cls_Ring,xQ⟩⟩
 have FK_c_mark_Ring:FldK K (mk1 c .Ring) "mark":=⟨fun i hi=>by cases i with | Rule=>exact (Bool.false_ne_true hi).elim | Unlike=>exact (Bool.false_ne_true hi).elim | Sum=>exact (Bool.false_ne_true hi).elim | Rising=>exact (Bool.false_ne_true hi).elim | Seen=>exact (Bool.false_ne_true hi).elim | Count=>exact (Bool.false_ne_true hi).elim | Joined=>exact (Bool.false_ne_true hi).elim | NoSquare=>exact (Bool.false_ne_true hi).elim | Ring=>exact ⟨cls_Ring,xZ⟩⟩
 have T9_Ring:FnOk l.prog w K mg base CX0 1 f9 _ ["self","filling"] (bP K (mk1 c .Ring)):=fP (c:=(mk1 c .Ring)) B FK_c_cells_Ring FK_c_mark_Ring F9
 have A6:MCal l.prog w K mg base (mk1 c .Ring) (mk1 c .Ring).ok 1 "marked" ["self","filling"] (bt K (mk1 c .Ring)):=⟨fun i hi=>by cases i with | Rule=>exact (Bool.false_ne_true hi).elim | Unlike=>exact (Bool.false_ne_true hi).elim | Sum=>exact (Bool.false_ne_true hi).elim | Rising=>exact (Bool.false_ne_true hi).elim | Seen=>exact (Bool.false_ne_true hi).elim | Count=>exact (Bool.false_ne_true hi).elim | Joined=>exact (Bool.false_ne_true hi).elim | NoSquare=>exact (Bool.false_ne_true hi).elim | Ring=>exact ⟨f9,_,cls_Ring,⟨a9_Ring,fn9,F9.kp⟩,(T9_Ring.mono (by decide)).imp (fun vs H Q E h=>⟨.Ring,h⟩),bd9⟩⟩
 have T9:FnOk l.prog w K mg base CX0 1 f9 fd9 _ (bP K c):=fP (c:=c) B FK_c_cells FK_c_mark F9
 have xE:MCal l.prog w K mg base c c.ok 1 "marked" ["self","filling"] (bt K c):=⟨fun i hi=>by cases i with | Rule=>exact (Bool.false_ne_true hi).elim | Unlike=>exact ⟨f9,_,cls_Unlike,⟨a9_Unlike,fn9,F9.kp⟩,(T9.mono (by decide)).imp (fun vs H Q E h=>⟨.Unlike,h⟩),bd9⟩ | Sum=>exact ⟨f9,_,cls_Sum,⟨a9_Sum,fn9,F9.kp⟩,(T9.mono (by decide)).imp (fun vs H Q E h=>⟨.Sum,h⟩),bd9⟩ | Rising=>exact ⟨f9,_,cls_Rising,⟨a9_Rising,fn9,F9.kp⟩,(T9.mono (by decide)).imp (fun vs H Q E h=>⟨.Rising,h⟩),bd9⟩ | Seen=>exact ⟨f9,_,cls_Seen,⟨a9_Seen,fn9,F9.kp⟩,(T9.mono (by decide)).imp (fun vs H Q E h=>⟨.Seen,h⟩),bd9⟩ | Count=>exact ⟨f9,_,cls_Count,⟨a9_Count,fn9,F9.kp⟩,(T9.mono (by decide)).imp (fun vs H Q E h=>⟨.Count,h⟩),bd9⟩ | Joined=>exact ⟨f9,_,cls_Joined,⟨a9_Joined,fn9,F9.kp⟩,(T9.mono (by decide)).imp (fun vs H Q E h=>⟨.Joined,h⟩),bd9⟩ | NoSquare=>exact ⟨f9,_,cls_NoSquare,⟨a9_NoSquare,fn9,F9.kp⟩,(T9.mono (by decide)).imp (fun vs H Q E h=>⟨.NoSquare,h⟩),bd9⟩ | Ring=>exact ⟨f9,_,cls_Ring,⟨a9_Ring,fn9,F9.kp⟩,(T9.mono (by decide)).imp (fun vs H Q E h=>⟨.Ring,h⟩),bd9⟩⟩
 have zl:Cal l.prog w K mg base _ _ _ (cr K):=lH (qC B z6 yH F10) F10 (PySem.W.mg_of X G a10)
 have bd11:Binds K fd11 ["self"] []:=pA F11
 have T11:FnOk l.prog w K mg base CX0 1 f11 fd11 _ (c5 K c d):=mW (c:=c) (d:=d) B FK_d_floor F11
 have xM:MCal l.prog w K mg base d d.ok 1 "place" ["self"] (dw K c d):=⟨fun i hi=>by cases i; exact ⟨f11,_,cls_Puzzle,⟨a11_Puzzle,fn11,F11.kp⟩,(T11.mono (by decide)).imp (fun vs H Q E h=>h),bd11⟩⟩
 have bd12:Binds K fd12 ["self"] []:=pA F12
 have T12:FnOk l.prog w K mg base CX0 1 f12 fd12 _ (c7 K c d):=mX (c:=c) (d:=d) B FK_d_given F12
 have xX:MCal l.prog w K mg base d d.ok 1 "clues" ["self"] (dy K c d):=⟨fun i hi=>by cases i; exact ⟨f12,_,cls_Puzzle,⟨a12_Puzzle,fn12,F12.kp⟩,(T12.mono (by decide)).imp (fun vs H Q E h=>h),bd12⟩⟩
 have bd13:Binds K fd13 ["self","filling"] []:=cO F13
 have T13:FnOk l.prog w K mg base CX0 1 f13 fd13 _ (bU K c d):=jQ (c:=c) (d:=d) B FK_d_given F13
 have zr:MCal l.prog w K mg base d d.ok 1 "has_clues" ["self","filling"] (fC K c d):=⟨fun i hi=>by cases i; exact ⟨f13,_,cls_Puzzle,⟨a13_Puzzle,fn13,F13.kp⟩,(T13.mono (by decide)).imp (fun vs H Q E h=>h),bd13⟩⟩
 have xx:Cal l.prog w K mg base _ _ _ (aM K):=dQ (su B F14) F14 (PySem.W.mg_of X G a14)
 have xC:Cal l.prog w K mg base _ _ _ (aV K):=dQ (kU B xW F15) F15 (PySem.W.mg_of X G a15)
 have yI:Cal l.prog w K mg base _ _ _ (cB K):=dQ (ui B yr F16) F16 (PySem.W.mg_of X G a16)
 have zm:Cal l.prog w K mg base _ _ _ (cp K):=dQ (qD B yr F17) F17 (PySem.W.mg_of X G a17)
 have x0:eH l.prog w K mg base _ _ _ (aZ K c d):=w6 (kA (c:=c) (d:=d) B yS xX xM EM R_TooMany F18) F18 (PySem.W.mg_of X G a18)
 have yt:Cal l.prog w K mg base _ _ _ (bB K):=lH (lM B zk F19) F19 (PySem.W.mg_of X G a19)
 have yJ:Cal l.prog w K mg base _ _ _ (bI K c d):=dQ (mY (c:=c) (d:=d) B y0 xX xM F20) F20 (PySem.W.mg_of X G a20)
 have bd21:Binds K fd21 ["self","filling"] []:=cO F21
 have T21:FnOk l.prog w K mg base CX0 2 f21 fd21 _ (cY K c):=mZ (c:=c) B xy F21
 have bd22:Binds K fd22 ["self","filling"] []:=cO F22
 have T22:FnOk l.prog w K mg base CX0 2 f22 fd22 _ (fz K c):=qE (c:=c) B FK_c_amount xy F22
 have bd23:Binds K fd23 ["self","filling"] []:=cO F23
 have T23:FnOk l.prog w K mg base CX0 2 f23 fd23 _ (c9 K c):=m3 (c:=c) B xy F23
 have bd24:Binds K fd24 ["self","filling"] []:=cO F24
 have T24:FnOk l.prog w K mg base CX0 2 f24 fd24 _ (ed K c):=pd (c:=c) B FK_c_amount xy F24
 have bd25:Binds K fd25 ["self","filling"] []:=cO F25
 have T25:FnOk l.prog w K mg base CX0 2 f25 fd25 _ (dL K c):=nU (c:=c) B FK_c_amount xE F25
 have xB:Cal l.prog w K mg base _ _ _ (aY K):=nP (lN B zl F26) F26 (PySem.W.mg_of X G a26)
 have xH:Cal l.prog w K mg base _ _ _ (bu K):=nP (pe B xW xn F27) F27 (PySem.W.mg_of X G a27)
 have y9:Cal l.prog w K mg base _ _ _ (bX K):=lH (pf B xx F28) F28 (PySem.W.mg_of X G a28)
 have y8:Cal l.prog w K mg base _ _ _ (bJ K):=dQ (ph B xx F29) F29 (PySem.W.mg_of X G a29)
 have zv:Cal l.prog w K mg base _ _ _ (cT K):=nP (qY B xC y1 yR y2 F30) F30 (PySem.W.mg_of X G a30)
 have z7:Cal l.prog w K mg base _ _ _ (dG K):=lH (sv B zm xn zn F31) F31 (PySem.W.mg_of X G a31)
 have zj:Cal l.prog w K mg base _ _ _ (dO K):=nP (sw B yI F32) F32 (PySem.W.mg_of X G a32)
 have bd33:Binds K fd33 ["self","cells","cell"] []:=so F33
 have FK_c_floor_Ring:FldK K (mk1 c .Ring) "floor":=⟨fun i hi=>by cases i with | Rule=>exact (Bool.false_ne_true hi).elim | Unlike=>exact (Bool.false_ne_true hi).elim | Sum=>exact (Bool.false_ne_true hi).elim | Rising=>exact (Bool.false_ne_true hi).elim | Seen=>exact (Bool.false_ne_true hi).elim | Count=>exact (Bool.false_ne_true hi).elim | Joined=>exact (Bool.false_ne_true hi).elim | NoSquare=>exact (Bool.false_ne_true hi).elim | Ring=>exact ⟨cls_Ring,xR⟩⟩
 have T33_Ring:FnOk l.prog w K mg base CX0 3 f33 _ ["self","cells","cell"] (bD K (mk1 c .Ring)):=i9 (c:=(mk1 c .Ring)) B yI FK_c_floor_Ring F33
 have zt:MCal l.prog w K mg base (mk1 c .Ring) (mk1 c .Ring).ok 3 "has_two_beside" ["self","cells","cell"] (ce K (mk1 c .Ring)):=⟨fun i hi=>by cases i with | Rule=>exact (Bool.false_ne_true hi).elim | Unlike=>exact (Bool.false_ne_true hi).elim | Sum=>exact (Bool.false_ne_true hi).elim | Rising=>exact (Bool.false_ne_true hi).elim | Seen=>exact (Bool.false_ne_true hi).elim | Count=>exact (Bool.false_ne_true hi).elim | Joined=>exact (Bool.false_ne_true hi).elim | NoSquare=>exact (Bool.false_ne_true hi).elim | Ring=>exact ⟨f33,_,cls_Ring,⟨a33_Ring,fn33,F33.kp⟩,(T33_Ring.mono (by decide)).imp (fun vs H Q E h=>h),bd33⟩⟩
 have xY:Cal l.prog w K mg base _ _ _ (bb K):=nP (m4 B xB F34) F34 (PySem.W.mg_of X G a34)
 have y3:Cal l.prog w K mg base _ _ _ (bY K):=dQ (pi B xn xB F35) F35 (PySem.W.mg_of X G a35)
 have z8:Cal l.prog w K mg base _ _ _ (dI K c):=xj (sx (c:=c) B AO Ai zu A7 Aj A8 K_Sum Ak F36) F36 (PySem.W.mg_of X G a36)
 have yu:Cal l.prog w K mg base _ _ _ (bA K):=dQ (lO B xH F37) F37 (PySem.W.mg_of X G a37)
 have bd38:Binds K fd38 ["self","cells"] []:=cO F38
 have FK_c_floor_Joined:FldK K (mk1 c .Joined) "floor":=⟨fun i hi=>by cases i with | Rule=>exact (Bool.false_ne_true hi).elim | Unlike=>exact (Bool.false_ne_true hi).elim | Sum=>exact (Bool.false_ne_true hi).elim | Rising=>exact (Bool.false_ne_true hi).elim | Seen=>exact (Bool.false_ne_true hi).elim | Count=>exact (Bool.false_ne_true hi).elim | Joined=>exact ⟨cls_Joined,xG⟩ | NoSquare=>exact (Bool.false_ne_true hi).elim | Ring=>exact (Bool.false_ne_true hi).elim⟩
 have T38_Joined:FnOk l.prog w K mg base CX0 4 f38 _ ["self","cells"] (bx K (mk1 c .Joined)):=fL (c:=(mk1 c .Joined)) B zj FK_c_floor_Joined F38
 have Ah:MCal l.prog w K mg base (mk1 c .Joined) (mk1 c .Joined).ok 4 "is_joined" ["self","cells"] (bR K (mk1 c .Joined)):=⟨fun i hi=>by cases i with | Rule=>exact (Bool.false_ne_true hi).elim | Unlike=>exact (Bool.false_ne_true hi).elim | Sum=>exact (Bool.false_ne_true hi).elim | Rising=>exact (Bool.false_ne_true hi).elim | Seen=>exact (Bool.false_ne_true hi).elim | Count=>exact (Bool.false_ne_true hi).elim | Joined=>exact ⟨f38,_,cls_Joined,⟨a38_Joined,fn38,F38.kp⟩,(T38_Joined.mono (by decide)).imp (fun vs H Q E h=>⟨.Joined,h⟩),bd38⟩ | NoSquare=>exact (Bool.false_ne_true hi).elim | Ring=>exact (Bool.false_ne_true hi).elim⟩
 have T38_Ring:FnOk l.prog w K mg base CX0 4 f38 _ ["self","cells"] (bx K (mk1 c .Ring)):=fL (c:=(mk1 c .Ring)) B zj FK_c_floor_Ring F38
 have AG:MCal l.prog w K mg base (mk1 c .Ring) (mk1 c .Ring).ok 4 "is_joined" ["self","cells"] (bR K (mk1 c .Ring)):=⟨fun i hi=>by cases i with | Rule=>exact (Bool.false_ne_true hi).elim | Unlike=>exact (Bool.false_ne_true hi).elim | Sum=>exact (Bool.false_ne_true hi).elim | Rising=>exact (Bool.false_ne_true hi).elim | Seen=>exact (Bool.false_ne_true hi).elim | Count=>exact (Bool.false_ne_true hi).elim | Joined=>exact (Bool.false_ne_true hi).elim | NoSquare=>exact (Bool.false_ne_true hi).elim | Ring=>exact ⟨f38,_,cls_Ring,⟨a38_Ring,fn38,F38.kp⟩,(T38_Ring.mono (by decide)).imp (fun vs H Q E h=>⟨.Ring,h⟩),bd38⟩⟩
 have bd39:Binds K fd39 ["self","filling"] []:=cO F39
 have T39:FnOk l.prog w K mg base CX0 4 f39 fd39 _ (cg K c):=kW (c:=c) B zo z7 FK_c_floor xE F39
 have zw:Cal l.prog w K mg base _ _ _ (cS K):=nP (qZ B xn y3 G_OF_ALL_CELLS F40) F40 (PySem.W.mg_of X G a40)
 have yw:Cal l.prog w K mg base _ _ _ (bz K):=lH (lP B zv F41) F41 (PySem.W.mg_of X G a41)
 have bd42:Binds K fd42 ["self","filling"] []:=cO F42
 have T42_Joined:FnOk l.prog w K mg base CX0 5 f42 _ ["self","filling"] (db K (mk1 c .Joined)):=m5 (c:=(mk1 c .Joined)) B Ah AN F42
 have bd43:Binds K fd43 ["self","filling"] []:=cO F43
 have T43_Ring:FnOk l.prog w K mg base CX0 5 f43 _ ["self","filling"] (ei K (mk1 c .Ring)):=pj (c:=(mk1 c .Ring)) B zt AG A6 F43
 have AQ:MCal l.prog w K mg base c c.ok 5 "holds" ["self","filling"] (bK K c):=⟨fun i hi=>by cases i with | Rule=>exact (Bool.false_ne_true hi).elim | Unlike=>exact ⟨f21,_,cls_Unlike,⟨a21_Unlike,fn21,F21.kp⟩,(T21.mono (by decide)).imp (fun vs H Q E h=>h),bd21⟩ | Sum=>exact ⟨f22,_,cls_Sum,⟨a22_Sum,fn22,F22.kp⟩,(T22.mono (by decide)).imp (fun vs H Q E h=>h),bd22⟩ | Rising=>exact ⟨f23,_,cls_Rising,⟨a23_Rising,fn23,F23.kp⟩,(T23.mono (by decide)).imp (fun vs H Q E h=>h),bd23⟩ | Seen=>exact ⟨f24,_,cls_Seen,⟨a24_Seen,fn24,F24.kp⟩,(T24.mono (by decide)).imp (fun vs H Q E h=>h),bd24⟩ | Count=>exact ⟨f25,_,cls_Count,⟨a25_Count,fn25,F25.kp⟩,(T25.mono (by decide)).imp (fun vs H Q E h=>h),bd25⟩ | Joined=>exact ⟨f42,_,cls_Joined,⟨a42_Joined,fn42,F42.kp⟩,(T42_Joined.mono (by decide)).imp (fun vs H Q E h=>by obtain ⟨r,p,f,ws,cs,xs,n,m,h,w,g,e,x,y⟩:=h; exact ⟨r,p,f,ws,cs,xs,n,m,h,w,g,e,⟨rfl,x.ex⟩,y⟩),bd42⟩ | NoSquare=>exact ⟨f39,_,cls_NoSquare,⟨a39_NoSquare,fn39,F39.kp⟩,(T39.mono (by decide)).imp (fun vs H Q E h=>h),bd39⟩ | Ring=>exact ⟨f43,_,cls_Ring,⟨a43_Ring,fn43,F43.kp⟩,(T43_Ring.mono (by decide)).imp (fun vs H Q E h=>by obtain ⟨r,p,f,ws,cs,xs,n,m,h,w,g,e,x,y⟩:=h; exact ⟨r,p,f,ws,cs,xs,n,m,h,w,g,e,⟨rfl,x.ex⟩,y⟩),bd43⟩⟩
 have zq:Cal l.prog w K mg base _ _ _ (cu K c):=dQ (qF (c:=c) B zw xY z8 yT G_WITH_NUMBER G_WITH_SIGN F44) F44 (PySem.W.mg_of X G a44)
 have y7:Cal l.prog w K mg base _ _ _ (bZ K c):=dQ (pk (c:=c) B zq y4 F45) F45 (PySem.W.mg_of X G a45)
 have bd46:Binds K fd46 ["self","filling"] []:=cO F46
 have T46:FnOk l.prog w K mg base CX0 6 f46 fd46 _ (de K c d):=m6 (c:=c) (d:=d) B xH FK_d_floor FK_d_laws zr AQ F46
 have AR:MCal l.prog w K mg base d d.ok 6 "meets" ["self","filling"] (jC K c d):=⟨fun i hi=>by cases i; exact ⟨f46,_,cls_Puzzle,⟨a46_Puzzle,fn46,F46.kp⟩,(T46.mono (by decide)).imp (fun vs H Q E h=>h),bd46⟩⟩
 have xI:eH l.prog w K mg base _ _ _ (bw K c d):=xa (q5 (c:=c) (d:=d) B yt x0 yJ AR F47) F47 (PySem.W.mg_of X G a47)
 have bd48:Binds K fd48 ["self","floor","lines","clues"] []:=wY F48
 have T48:FnOk l.prog w K mg base CX0 7 f48 fd48 _ (aR K c d):=kE (c:=c) (d:=d) B yu yw y7 FK_d_floor FK_d_given FK_d_laws F48
 have An:KCal l.prog w K mg base _ "Puzzle" (d.A .Puzzle) _ (aR K c d):=⟨f48,_,⟨zV,zC,fn48,zW⟩,T48,PySem.W.mg_of X G Ar,bd48⟩
 have z9:eH l.prog w K mg base 8 "answers" ["puzzle","most"] (bS K c d):=⟨f49,fd49,m7 (c:=c) (d:=d) B xI xn xM F49,PySem.W.mg_of X G a49,F49.kp,F49.binds (ps:=["puzzle","most"]) fun _ _ _ _ _ _ _ us hl=>match us,hl with | [_,_],_=>⟨_,rfl,rfl⟩⟩
 have CD_answers:xb l.prog w K mg base 8 "answers" ["puzzle","most"] (bS K c d) [Value.int 2 td]:=⟨f49,fd49,m7 (c:=c) (d:=d) B xI xn xM F49,PySem.W.mg_of X G a49,F49.kp,FunD.bindsD (ps:=["puzzle","most"]) 1 rfl F49 fun _ _ _ _ _ _ _ us hl=>match us,hl with | [_],_=>⟨_,rfl,rfl⟩⟩
 have Am:eH l.prog w K mg base _ _ _ (cU K c d):=w9 (uj (c:=c) (d:=d) B xI F50) F50 (PySem.W.mg_of X G a50)
 have yg:Cal l.prog w K mg base _ _ _ (ba K c d):=dQ (qG (c:=c) (d:=d) B z9 Am xX EM R_TooMany BV F51) F51 (PySem.W.mg_of X G a51)
 exact (wM (c:=c) (d:=d) B xx y8 y9 yg An F52).imp fun vs H Q E h=>by obtain ⟨a,ns,e,hS,hn,k⟩:=h; exact ⟨a,ns,e,hS,hn,fun k hk=>by cases k <;> first | rfl | exact absurd rfl hk,rfl,k⟩
theorem walk {l:PySem.W.OpenLaw} {q:Program} {loose:List Str} {XP:(Str→Option Value)→Heap→Prop} {YP:World→Heap→Prop} {d:DefRec} {K:Params→PySem.W.Frag} (hn:l.most=some 63) (hdf:d.params.defaults=[])
  (hY:∀ (w:World) (h:Heap),YP w h→(K w.params).In h)
  (F:∀ (w:World) (mg:Str→Option Value) (fa:Addr) (h:Heap),(K w.params).In h→h.Ns mainGlobals mg→mg d.name=some (.ref fa)→
   ∃ fd:FuncData,(∀ (s:Shared) (u:Value),BindsTo s fd ⟨[u],[]⟩ [("_law_script",u)])∧∀ base:Heap,(K w.params).In base→base.Ns mainGlobals mg→FnOk l.prog w (K w.params) mg base CX0 10 fa fd ["_law_script"] (nS (K w.params))):
  PySem.W.WalkO q loose XP YP l.row.toRowW d [] (fun f vs=>PySem.call f vs):=
 L2.vk (n:=63) (k:=10) (x:="_law_script") (CX:=fun _=>CX0) (sp:=fun w=>nS (K w.params)) hn (by decide) hdf ⟨rfl,by decide,by decide⟩ hY F (fun _ _ a ns hl _ hS=>⟨a,ns,rfl,hS,hl,fun _=>rfl⟩) fun _ _ _ _ _ z=>z
end L2
namespace PySem.W.Fast
def tw14763302885348107815:=()
def tw4801803416179839362:=()
def tw472072919711638415:=()
def tw12373382052052220381:=()
def tw14167949757441279515:=()
def tw18314303677736677030:=()
def tw5661209174394627341:=()
def tw7325393553433876942:=()
def tw2380964284305510199:=()
def tw1281642736112855378:=()
def tw14419164305862358070:=()
def tw14844637032410662281:=()
def tw776239148848423459:=()
def tw1761530473580645003:=()
def tw8075131952169146471:=()
def tw10031637531000480790:=()
def tw1748501569088730687:=()
def tw2014985590471511127:=()
def tw10116942264357582:=()
def tw16341345408657755838:=()
def tw2154884111201869587:=()
def tw18080911441299190622:=()
def tw8009882094360991619:=()
def tw10953400335866780812:=()
def tw6581158623366111612:=()
def tw2964120997644827476:=()
def tw14031073052692276839:=()
def tw7896191495627957672:=()
def tw11582486365717361464:=()
def tw16731327283371465916:=()
def tw2834467677212758781:=()
def tw4269438009198417991:=()
def tw17768851918900382150:=()
def tw10272371934639169190:=()
def tw11737483501853065017:=()
def tw4702297786654097682:=()
def tw15153167286204083579:=()
def tw6062572420266990394:=()
def tw2535849298440488289:=()
def tw13877124678906832460:=()
def tw8524015650899010847:=()
def tw8560491907702958320:=()
def tw10477271662983247946:=()
def tw14766049176080222247:=()
def tw9021594712596021010:=()
def tw11040380032226990246:=()
def tw2363945130574353482:=()
def tw8510638040100853580:=()
def tw10751943897197847906:=()
def tw5477719631407207972:=()
def tw15482868373754694312:=()
def tw15792755649619943920:=()
def tw6103542127444389942:=()
def tw13076497276172469831:=()
def tw15005921278026281045:=()
def tw16351613971779646434:=()
def tw12747572433770622417:=()
def tw6895086346655184601:=()
def tw5414948198801770766:=()
def tw3973563384172505427:=()
def tw17790581564457581933:=()
def tw6584283512507224923:=()
def tw14274664694666460856:=()
def tw16230414590081746428:=()
def tw395150450359516701:=()
def tw13324006384368682849:=()
def tw12195700151579969001:=()
def tw10257154867372721486:=()
def tw1563116636771473824:=()
def tw384562266091773106:=()
def tw5300783123121224465:=()
def tw8803584611638860844:=()
def tw9733814491489906610:=()
def tw15798298530044675008:=()
def tw11847560365130748196:=()
def tw16789774333358571651:=()
def tw2567364564997530614:=()
def tw9286457834751879499:=()
def tw8214307920882288403:=()
def tw11120769525686941112:=()
def tw1052757989539764080:=()
def tw6472417172877204065:=()
def tw1104837992396858951:=()
def tw771977028516950674:=()
def tw15788932703170765845:=()
def tw17393095404328208267:=()
def tw13295246729512922350:=()
def tw3590495955927282384:=()
def tw17532253339294717983:=()
def tw7284927062614963694:=()
def tw11876771549763177514:=()
def tw13670363264641204917:=()
def tw14372910269537750265:=()
def tw15847049101874714981:=()
def tw12397226965695771843:=()
def tw2499538117458013326:=()
def tw7840419631741413152:=()
def tw126490672803552186:=()
def tw9295641276703054012:=()
def tw15086208295571461643:=()
def tw18367727698028152432:=()
def tw16348264199343081956:=()
def tw12089381642165984912:=()
def tw13337111416585525744:=()
def tw5660844423610430738:=()
def tw17040938236398342851:=()
def tw7427801804120531732:=()
def tw6985732965061871100:=()
def tw8395362852908252443:=()
def tw11929698916823704089:=()
def tw13183719951535522492:=()
def tw4928696884853088617:=()
def tw16610374625912416396:=()
def tw10097040357008816530:=()
def tw15394693560844678755:=()
def tw14267400242890023609:=()
def tw17039865312067466775:=()
def tw3928894008246465240:=()
def tw7939391276948888349:=()
def tw10105554995858617959:=()
def tw7477771510362926064:=()
def tw9703403840949528033:=()
def tw1153398800588042939:=()
def tw5898711518151914861:=()
def tw2896234309608944551:=()
def tw2469755941989745430:=()
def tw13477098044212024780:=()
def tw9753724334209968075:=()
def tw9857866344233477815:=()
def tw7449492371723746194:=()
def tw694197833196943713:=()
def tw5552312478201038375:=()
def tw15716972048009217720:=()
def tw459780604137119142:=()
def tw16108204335556341223:=()
def tw11502683159648341550:=()
def tw14828918739926429963:=()
def tw9039264120353390593:=()
def tw5944524864979321602:=()
def tw6311631190634990155:=()
def tw13882570485600258711:=()
def tw12401737595596703678:=()
def tw8075017710786676069:=()
def tw3394212116573420765:=()
def tw6935460047594058247:=()
def tw1470545128939942467:=()
def tw9929296931384904246:=()
def tw16880030921112852846:=()
def tw15795627731961542099:=()
def tw13994383336468410784:=()
def tw7729419865466765003:=()
def tw12682279438680494937:=()
def tw12537253834999683265:=()
def tw15799170614246897742:=()
def tw16809876444569315018:=()
def tw17070922372750005335:=()
def tw3216151389329510391:=()
def tw17229790765160213535:=()
def tw1445734854943480990:=()
def tw10595905209975036036:=()
def tw3160417616222148262:=()
def tw17089267194280591394:=()
def tw6534766804626930328:=()
def tw6146340994086149933:=()
def tw5914309483366217258:=()
def tw15563580324144759758:=()
def tw7414854839032824146:=()
def tw2664180169288542898:=()
def tw12162783491296072761:=()
def tw2092033148231669829:=()
def tw13041509973766911777:=()
def tw2798505456869764653:=()
def tw1246713442952135148:=()
def tw1586469266032097132:=()
def tw5366242704062070410:=()
def tw4619390197612999129:=()
def tw5396073203905257081:=()
def tw3115311755309350653:=()
def tw832280214696148262:=()
def tw587214642936867461:=()
def tw4863807027189133409:=()
def tw1208593974462330377:=()
def tw13142778610137631361:=()
def tw2841824106353688827:=()
def tw14995096810485155405:=()
def tw1043887997366560341:=()
def tw8877808419786918496:=()
def tw14857023515539329981:=()
def tw16997115911582041631:=()
def tw9870687661485311218:=()
def tw8767948352123788966:=()
def tw6738947657750298688:=()
def tw8961435748008055859:=()
def tw2305513311302446133:=()
def tw11593936619483961669:=()
def tw5847065323189447075:=()
def tw327747514427166354:=()
def tw4192007088597397086:=()
def tw4520936276466363656:=()
def tw16896303146314097682:=()
def tw17891831764933876786:=()
def tw11095872927643977766:=()
def tw17774896526870766877:=()
def tw8722153063872228406:=()
def tw16869964885911518986:=()
def tw18074530568843280551:=()
def tw2096522253399506037:=()
def tw12141837635325440391:=()
def tw3624496227640244710:=()
end PySem.W.Fast
open PySem PySem.W PyProof.Rows
set_option maxRecDepth 100000 in
set_option maxHeartbeats 0 in
theorem PySem.Challenge.cw_cluemaker_k47_too_many_floors_holds : PySem.Challenge.rw_cluemaker_k47_too_many_floors.Holds := by
  w_on; o_law; k_head; (case hw => w_witness2)
  k_fill
  refine L2.walk (l := PySem.Challenge.rw_cluemaker_k47_too_many_floors) rfl rfl (fun w h Y => PySem.W.kIn_of Y) ?F
  case F =>
    intro w mg fa h KX G hmg
    refine' L2.wN KX G hmg ?Ao ?q_Sum ?Ap ?Bg ?AY ?Aq ?zx ?Bh ?Ar ?a0 ?a1 ?a2 ?a3 ?a4 ?a5 ?a6 ?zy ?AZ ?zA ?As ?Aa ?zB ?zb ?At ?a8_Unlike ?a8_Sum ?a8_Rising ?a8_Seen ?a8_Count ?a8_Joined ?a8_NoSquare ?a8_Ring ?a9_Unlike ?a9_Sum ?a9_Rising ?a9_Seen ?a9_Count ?a9_Joined ?a9_NoSquare ?a9_Ring ?a10 ?a11_Puzzle ?a12_Puzzle ?a13_Puzzle ?a14 ?a15 ?a16 ?a17 ?a18 ?a19 ?a20 ?a21_Unlike ?a22_Sum ?a23_Rising ?a24_Seen ?a25_Count ?a26 ?a27 ?a28 ?a29 ?a30 ?a31 ?a32 ?a33_Ring ?a34 ?a35 ?a36 ?a37 ?a38_Joined ?a38_Ring ?a39_NoSquare ?a40 ?a41 ?a42_Joined ?a43_Ring ?a44 ?a45 ?a46_Puzzle ?a47 ?zC ?a49 ?a50 ?a51 ?a52 ?F0 ?F1 ?F2 ?F3 ?F4 ?F5 ?F6 ?F7 ?fn7 ?F8 ?fn8 ?F9 ?fn9 ?F10 ?F11 ?fn11 ?F12 ?fn12 ?F13 ?fn13 ?F14 ?F15 ?F16 ?F17 ?F18 ?F19 ?F20 ?F21 ?fn21 ?F22 ?fn22 ?F23 ?fn23 ?F24 ?fn24 ?F25 ?fn25 ?F26 ?F27 ?F28 ?F29 ?F30 ?F31 ?F32 ?F33 ?fn33 ?F34 ?F35 ?F36 ?F37 ?F38 ?fn38 ?F39 ?fn39 ?F40 ?F41 ?F42 ?fn42 ?F43 ?fn43 ?F44 ?F45 ?F46 ?fn46 ?F47 ?F48 ?fn48 ?F49 ?F50 ?F51 ?F52 ?zD ?zE ?zF ?zG ?zH ?zI ?A0 ?A1 ?A2 ?A3 ?A4 ?A5 ?zJ ?zK ?zL ?zM ?zN ?zO ?Au ?Av ?Aw ?Ax ?Ay ?Az ?Ab ?Ac ?Ad ?Ae ?Af ?Ag ?zP ?zQ ?zR ?zS ?zT ?zU ?zc ?zd ?ze ?zf ?zg ?zh ?AA ?AB ?AC ?AD ?AE ?AF ?zV ?zW ?zX ?zY ?zZ ?z4 ?xS ?yy ?xT ?yh ?x5 ?xU ?xJ ?yi ?x6 ?yL ?x8 ?yz ?yj ?xF ?xN ?xQ ?x9 ?yM ?ya ?yA ?yk ?xG ?xO ?xR ?yl ?yU ?ym ?yN ?yB ?xK ?xV ?xZ ?yb ?yO ?yc ?yC ?yn ?yd ?xP ?yD ?ye ?yf ?yo ?yp ?yq ?yE ?yF ?yV ?yW ?z5 ?yX ?yG ?yP ?yQ ?yY ?zi ?yZ ?z_len ?z_abs ?z_min ?z_max ?z_sorted ?z_any ?z_isinstance ?z_list ?z_int ?z_bool ?z_str ?z_tuple ?z_reversed ?z_set ?z_range ?z_zip ?z_all ?z_sum ?z_enumerate ?e_ClueError ?e_NoFloor ?e_NoFilling ?e_NoRule ?e_NoPuzzle ?e_TooMany ?e_NotOne ?e_NoMove ?e_NoText ?e_NoName ?e_NoRow ?e_BadThought ?z_ValueError ?D1 ?D2 ?D3 ?D4 ?r1_TooMany ?r2_TooMany ?r3_TooMany ?f1_TooMany ?f2_TooMany ?f3_TooMany ?f4_TooMany ?f5_TooMany ?f6_TooMany ?f7_TooMany ?g_TooMany_BadThought ?g_TooMany_NoFilling ?g_TooMany_NoMove ?g_TooMany_NoFloor ?g_TooMany_NoName ?g_TooMany_NoPuzzle ?g_TooMany_NoRow ?g_TooMany_NoRule ?g_TooMany_NoText ?g_TooMany_NotOne
    (case Ao => k_is)
    (case q_Sum => k_is)
    (case Ap => k_is)
    (case Bg => k_is)
    (case AY => k_is)
    (case Aq => k_is)
    (case zx => k_is)
    (case Bh => k_is)
    (case Ar => k_is)
    (case a0 => k_is)
    (case a1 => k_is)
    (case a2 => k_is)
    (case a3 => k_is)
    (case a4 => k_is)
    (case a5 => k_is)
    (case a6 => k_is)
    (case zy => k_is)
    (case AZ => k_is)
    (case zA => k_is)
    (case As => k_is)
    (case Aa => k_is)
    (case zB => k_is)
    (case zb => k_is)
    (case At => k_is)
    (case a8_Unlike => k_is)
    (case a8_Sum => k_is)
    (case a8_Rising => k_is)
    (case a8_Seen => k_is)
    (case a8_Count => k_is)
    (case a8_Joined => k_is)
    (case a8_NoSquare => k_is)
    (case a8_Ring => k_is)
    (case a9_Unlike => k_is)
    (case a9_Sum => k_is)
    (case a9_Rising => k_is)
    (case a9_Seen => k_is)
    (case a9_Count => k_is)
    (case a9_Joined => k_is)
    (case a9_NoSquare => k_is)
    (case a9_Ring => k_is)
    (case a10 => k_is)
    (case a11_Puzzle => k_is)
    (case a12_Puzzle => k_is)
    (case a13_Puzzle => k_is)
    (case a14 => k_is)
    (case a15 => k_is)
    (case a16 => k_is)
    (case a17 => k_is)
    (case a18 => k_is)
    (case a19 => k_is)
    (case a20 => k_is)
    (case a21_Unlike => k_is)
    (case a22_Sum => k_is)
    (case a23_Rising => k_is)
    (case a24_Seen => k_is)
    (case a25_Count => k_is)
    (case a26 => k_is)
    (case a27 => k_is)
    (case a28 => k_is)
    (case a29 => k_is)
    (case a30 => k_is)
    (case a31 => k_is)
    (case a32 => k_is)
    (case a33_Ring => k_is)
    (case a34 => k_is)
    (case a35 => k_is)
    (case a36 => k_is)
    (case a37 => k_is)
    (case a38_Joined => k_is)
    (case a38_Ring => k_is)
    (case a39_NoSquare => k_is)
    (case a40 => k_is)
    (case a41 => k_is)
    (case a42_Joined => k_is)
    (case a43_Ring => k_is)
    (case a44 => k_is)
    (case a45 => k_is)
    (case a46_Puzzle => k_is)
    (case a47 => k_is)
    (case zC => k_is)
    (case a49 => k_is)
    (case a50 => k_is)
    (case a51 => k_is)
    (case a52 => k_is)
    (case F0 => (refine' L2.ax ?l ?c ?k; (case l => k_is); (case c => k_is); case k => k_is))
    (case F1 => (refine' L2.ax ?l ?c ?k; (case l => k_is); (case c => k_is); case k => k_is))
    (case F2 => (refine' L2.ax ?l ?c ?k; (case l => k_is); (case c => k_is); case k => k_is))
    (case F3 => (refine' L2.ax ?l ?c ?k; (case l => k_is); (case c => k_is); case k => k_is))
    (case F4 => (refine' L2.ax ?l ?c ?k; (case l => k_is); (case c => k_is); case k => k_is))
    (case F5 => (refine' L2.ax ?l ?c ?k; (case l => k_is); (case c => k_is); case k => k_is))
    (case F6 => (refine' L2.ax ?l ?c ?k; (case l => k_is); (case c => k_is); case k => k_is))
    (case F7 => (refine' L2.ax ?l ?c ?k; (case l => k_is); (case c => k_is); case k => k_is))
    (case fn7 => k_is)
    (case F8 => (refine' L2.ax ?l ?c ?k; (case l => k_is); (case c => k_is); case k => k_is))
    (case fn8 => k_is)
    (case F9 => (refine' L2.ax ?l ?c ?k; (case l => k_is); (case c => k_is); case k => k_is))
    (case fn9 => k_is)
    (case F10 => (refine' L2.ax ?l ?c ?k; (case l => k_is); (case c => k_is); case k => k_is))
    (case F11 => (refine' L2.ax ?l ?c ?k; (case l => k_is); (case c => k_is); case k => k_is))
    (case fn11 => k_is)
    (case F12 => (refine' L2.ax ?l ?c ?k; (case l => k_is); (case c => k_is); case k => k_is))
    (case fn12 => k_is)
    (case F13 => (refine' L2.ax ?l ?c ?k; (case l => k_is); (case c => k_is); case k => k_is))
    (case fn13 => k_is)
    (case F14 => (refine' L2.ax ?l ?c ?k; (case l => k_is); (case c => k_is); case k => k_is))
    (case F15 => (refine' L2.ax ?l ?c ?k; (case l => k_is); (case c => k_is); case k => k_is))
    (case F16 => (refine' L2.ax ?l ?c ?k; (case l => k_is); (case c => k_is); case k => k_is))
    (case F17 => (refine' L2.ax ?l ?c ?k; (case l => k_is); (case c => k_is); case k => k_is))
    (case F18 => (refine' L2.ax ?l ?c ?k; (case l => k_is); (case c => k_is); case k => k_is))
    (case F19 => (refine' L2.ax ?l ?c ?k; (case l => k_is); (case c => k_is); case k => k_is))
    (case F20 => (refine' L2.ax ?l ?c ?k; (case l => k_is); (case c => k_is); case k => k_is))
    (case F21 => (refine' L2.ax ?l ?c ?k; (case l => k_is); (case c => k_is); case k => k_is))
    (case fn21 => k_is)
    (case F22 => (refine' L2.ax ?l ?c ?k; (case l => k_is); (case c => k_is); case k => k_is))
    (case fn22 => k_is)
    (case F23 => (refine' L2.ax ?l ?c ?k; (case l => k_is); (case c => k_is); case k => k_is))
    (case fn23 => k_is)
    (case F24 => (refine' L2.ax ?l ?c ?k; (case l => k_is); (case c => k_is); case k => k_is))
    (case fn24 => k_is)
    (case F25 => (refine' L2.ax ?l ?c ?k; (case l => k_is); (case c => k_is); case k => k_is))
    (case fn25 => k_is)
    (case F26 => (refine' L2.ax ?l ?c ?k; (case l => k_is); (case c => k_is); case k => k_is))
    (case F27 => (refine' L2.ax ?l ?c ?k; (case l => k_is); (case c => k_is); case k => k_is))
    (case F28 => (refine' L2.ax ?l ?c ?k; (case l => k_is); (case c => k_is); case k => k_is))
    (case F29 => (refine' L2.ax ?l ?c ?k; (case l => k_is); (case c => k_is); case k => k_is))
    (case F30 => (refine' L2.ax ?l ?c ?k; (case l => k_is); (case c => k_is); case k => k_is))
    (case F31 => (refine' L2.ax ?l ?c ?k; (case l => k_is); (case c => k_is); case k => k_is))
    (case F32 => (refine' L2.ax ?l ?c ?k; (case l => k_is); (case c => k_is); case k => k_is))
    (case F33 => (refine' L2.ax ?l ?c ?k; (case l => k_is); (case c => k_is); case k => k_is))
    (case fn33 => k_is)
    (case F34 => (refine' L2.ax ?l ?c ?k; (case l => k_is); (case c => k_is); case k => k_is))
    (case F35 => (refine' L2.ax ?l ?c ?k; (case l => k_is); (case c => k_is); case k => k_is))
    (case F36 => (refine' L2.ax ?l ?c ?k; (case l => k_is); (case c => k_is); case k => k_is))
    (case F37 => (refine' L2.ax ?l ?c ?k; (case l => k_is); (case c => k_is); case k => k_is))
    (case F38 => (refine' L2.ax ?l ?c ?k; (case l => k_is); (case c => k_is); case k => k_is))
    (case fn38 => k_is)
    (case F39 => (refine' L2.ax ?l ?c ?k; (case l => k_is); (case c => k_is); case k => k_is))
    (case fn39 => k_is)
    (case F40 => (refine' L2.ax ?l ?c ?k; (case l => k_is); (case c => k_is); case k => k_is))
    (case F41 => (refine' L2.ax ?l ?c ?k; (case l => k_is); (case c => k_is); case k => k_is))
    (case F42 => (refine' L2.ax ?l ?c ?k; (case l => k_is); (case c => k_is); case k => k_is))
    (case fn42 => k_is)
    (case F43 => (refine' L2.ax ?l ?c ?k; (case l => k_is); (case c => k_is); case k => k_is))
    (case fn43 => k_is)
    (case F44 => (refine' L2.ax ?l ?c ?k; (case l => k_is); (case c => k_is); case k => k_is))
    (case F45 => (refine' L2.ax ?l ?c ?k; (case l => k_is); (case c => k_is); case k => k_is))
    (case F46 => (refine' L2.ax ?l ?c ?k; (case l => k_is); (case c => k_is); case k => k_is))
    (case fn46 => k_is)
    (case F47 => (refine' L2.ax ?l ?c ?k; (case l => k_is); (case c => k_is); case k => k_is))
    (case F48 => (refine' L2.ax ?l ?c ?k; (case l => k_is); (case c => k_is); case k => k_is))
    (case fn48 => k_is)
    (case F49 => (refine' L2.vQ ?l ?c ?k ?d; (case l => k_is); (case c => k_is); (case k => k_is); case d => k_is))
    (case F50 => (refine' L2.ax ?l ?c ?k; (case l => k_is); (case c => k_is); case k => k_is))
    (case F51 => (refine' L2.ax ?l ?c ?k; (case l => k_is); (case c => k_is); case k => k_is))
    (case F52 => (refine' L2.ax ?l ?c ?k; (case l => k_is); (case c => k_is); case k => k_is))
    (case zD => k_is)
    (case zE => k_is)
    (case zF => k_is)
    (case zG => k_is)
    (case zH => k_is)
    (case zI => k_is)
    (case A0 => k_is)
    (case A1 => k_is)
    (case A2 => k_is)
    (case A3 => k_is)
    (case A4 => k_is)
    (case A5 => k_is)
    (case zJ => k_is)
    (case zK => k_is)
    (case zL => k_is)
    (case zM => k_is)
    (case zN => k_is)
    (case zO => k_is)
    (case Au => k_is)
    (case Av => k_is)
    (case Aw => k_is)
    (case Ax => k_is)
    (case Ay => k_is)
    (case Az => k_is)
    (case Ab => k_is)
    (case Ac => k_is)
    (case Ad => k_is)
    (case Ae => k_is)
    (case Af => k_is)
    (case Ag => k_is)
    (case zP => k_is)
    (case zQ => k_is)
    (case zR => k_is)
    (case zS => k_is)
    (case zT => k_is)
    (case zU => k_is)
    (case zc => k_is)
    (case zd => k_is)
    (case ze => k_is)
    (case zf => k_is)
    (case zg => k_is)
    (case zh => k_is)
    (case AA => k_is)
    (case AB => k_is)
    (case AC => k_is)
    (case AD => k_is)
    (case AE => k_is)
    (case AF => k_is)
    (case zV => k_is)
    (case zW => k_is)
    (case zX => k_is)
    (case zY => k_is)
    (case zZ => k_is)
    (case z4 => k_is)
    (case xS => k_is)
    (case yy => k_is)
    (case xT => k_is)
    (case yh => k_is)
    (case x5 => k_is)
    (case xU => k_is)
    (case xJ => k_is)
    (case yi => k_is)
    (case x6 => k_is)
    (case yL => k_is)
    (case x8 => k_is)
    (case yz => k_is)
    (case yj => k_is)
    (case xF => k_is)
    (case xN => k_is)
    (case xQ => k_is)
    (case x9 => k_is)
    (case yM => k_is)
    (case ya => k_is)
    (case yA => k_is)
    (case yk => k_is)
    (case xG => k_is)
    (case xO => k_is)
    (case xR => k_is)
    (case yl => k_is)
    (case yU => k_is)
    (case ym => k_is)
    (case yN => k_is)
    (case yB => k_is)
    (case xK => k_is)
    (case xV => k_is)
    (case xZ => k_is)
    (case yb => k_is)
    (case yO => k_is)
    (case yc => k_is)
    (case yC => k_is)
    (case yn => k_is)
    (case yd => k_is)
    (case xP => k_is)
    (case yD => k_is)
    (case ye => k_is)
    (case yf => k_is)
    (case yo => k_is)
    (case yp => k_is)
    (case yq => k_is)
    (case yE => k_is)
    (case yF => k_is)
    (case yV => k_is)
    (case yW => k_is)
    (case z5 => k_is)
    (case yX => k_is)
    (case yG => k_is)
    (case yP => k_is)
    (case yQ => k_is)
    (case yY => k_is)
    (case zi => k_is)
    (case yZ => k_is)
    (case z_len => k_is)
    (case z_abs => k_is)
    (case z_min => k_is)
    (case z_max => k_is)
    (case z_sorted => k_is)
    (case z_any => k_is)
    (case z_isinstance => k_is)
    (case z_list => k_is)
    (case z_int => k_is)
    (case z_bool => k_is)
    (case z_str => k_is)
    (case z_tuple => k_is)
    (case z_reversed => k_is)
    (case z_set => k_is)
    (case z_range => k_is)
    (case z_zip => k_is)
    (case z_all => k_is)
    (case z_sum => k_is)
    (case z_enumerate => k_is)
    (case e_ClueError => k_is)
    (case e_NoFloor => k_is)
    (case e_NoFilling => k_is)
    (case e_NoRule => k_is)
    (case e_NoPuzzle => k_is)
    (case e_TooMany => k_is)
    (case e_NotOne => k_is)
    (case e_NoMove => k_is)
    (case e_NoText => k_is)
    (case e_NoName => k_is)
    (case e_NoRow => k_is)
    (case e_BadThought => k_is)
    (case z_ValueError => k_is)
    (case D1 => k_is)
    (case D2 => exact rfl)
    (case D3 => k_is)
    (case D4 => first | kernel_rfl | exact rfl)
    (case r1_TooMany => k_is)
    (case r2_TooMany => k_is)
    (case r3_TooMany => first | kernel_rfl | exact rfl)
    (case f1_TooMany => k_is)
    (case f2_TooMany => k_is)
    (case f3_TooMany => k_is)
    (case f4_TooMany => k_is)
    (case f5_TooMany => k_is)
    (case f6_TooMany => kit_is)
    (case f7_TooMany => kts_exm)
    (case g_TooMany_BadThought => kit_is)
    (case g_TooMany_NoFilling => kit_is)
    (case g_TooMany_NoMove => kit_is)
    (case g_TooMany_NoFloor => kit_is)
    (case g_TooMany_NoName => kit_is)
    (case g_TooMany_NoPuzzle => kit_is)
    (case g_TooMany_NoRow => kit_is)
    (case g_TooMany_NoRule => kit_is)
    (case g_TooMany_NoText => kit_is)
    (case g_TooMany_NotOne => kit_is)
