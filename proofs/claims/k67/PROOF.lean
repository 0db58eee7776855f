import PyProof.Rows.All
import Wide.All
import OpenK.AllK
import Wide.FinOn
import Lean
import PyProof.EqAt
import PyProof.EqKinds
import PyProof.TupleCall
import PyProof.ZipIter
import PyProof.ConsumeS
import PyProof.StrCalls2
import PyProof.StrWalks
import PyProof.SliceStr2
import PyProof.StrBlock
import PyProof.StrBlockL
import PyProof.ListIndex
import PyProof.StrLawsTight
import PyProof.StrLawsChain
import PyProof.StrLaws
import PyProof.StrLawsFirst
import PyProof.StationsW
import PyProof.ExcClass3
import PyProof.NsDelKeeps
import PyProof.RulesAs
import PyProof.ExcBaseAll.ValueError
import PyProof.ExcArgsOwn
import PyProof.ExcAttrAll.ValueError
import KE.KTryMore
import KE.RegKTryMore
import KE.RegKIsAll
import PyProof.Rows.Range3
import PyProof.Rows.SumGenD
import PyProof.Rows.RuleM_int
import PyProof.EnumMake
import PyProof.EnumFor
import PyProof.EnumStmt
import PyProof.Rows.EnumRows
import KE.KRevIter
import PyProof.ListNew
import PyProof.CollectIter
import PyProof.ListRange
import PyProof.CallStr
import PyProof.StrBlock2
import PyProof.Rows.StrMadeLen
import PyProof.Rows.SetFrom
import PyProof.SetRoads
import PyProof.MeetsStr2
import KE.KRevSl
import PyProof.Conv_int
import PySem.Challenge.RW_cluemaker_k67_puzzles_moved
set_option Elab.async false
set_option linter.all false
set_option maxRecDepth 100000
namespace L2
open PySem PySem.Spec PyProof.Rows
abbrev Key:=Sum Int Str
def keyIs:Key→Value→Bool
 | .inl k,v=>Value.isInt k v
 | .inr x,v=>Value.isStrOf x v
def keyH (w:World):Key→Int
 | .inl k=>hashInt k
 | .inr x=>hashStr w x
theorem bR:∀ {k:Key} {v:Value},keyIs k v=true→(∃ i t,k=Sum.inl i∧v=Value.int i t)∨(∃ x t,k=Sum.inr x∧v=Value.str x t)
 | .inl i,v,h=>by
  obtain ⟨t,e⟩:=Value.isInt_shape (k:=i) (v:=v) h
  exact .inl ⟨i,t,rfl,e⟩
 | .inr x,v,h=>by
  obtain ⟨t,e⟩:=Value.isStrOf_shape (x:=x) (v:=v) h
  exact .inr ⟨x,t,rfl,e⟩
theorem vW (i:Int) (t:Tok):keyIs (.inl i) (.int i t)=true:=by simp [keyIs,Value.isInt]
theorem vX (x:Str) (t:Tok):keyIs (.inr x) (.str x t)=true:=by simp [keyIs,Value.isStrOf]
theorem yL (a b:Int):decide ((Sum.inl a:Key)=Sum.inl b)=(a==b):=by
 by_cases e:a=b
 · subst e; simp
 · have h:¬ (Sum.inl a:Key)=Sum.inl b:=fun q=>e (Sum.inl.inj q)
   rw [decide_eq_false h]
   exact (beq_eq_false_iff_ne.mpr e).symm
theorem yM (a b:Str):decide ((Sum.inr a:Key)=Sum.inr b)=decide (a=b):=by
 by_cases e:a=b
 · subst e; simp
 · have h:¬ (Sum.inr a:Key)=Sum.inr b:=fun q=>e (Sum.inr.inj q)
   rw [decide_eq_false h,decide_eq_false e]
theorem yN (a:Int) (b:Str):decide ((Sum.inl a:Key)=Sum.inr b)=false:=decide_eq_false (fun q=>nomatch q)
theorem yO (a:Str) (b:Int):decide ((Sum.inr a:Key)=Sum.inl b)=false:=decide_eq_false (fun q=>nomatch q)
def b7 (prog:Program) (w:World):PySem.KeyKind prog w Key where
 is:=keyIs
 hash:=keyH w
 inj:=fun v a b ha hb=>by
  rcases bR ha with ⟨i,t,rfl,rfl⟩ | ⟨x,t,rfl,rfl⟩
  · rcases bR hb with ⟨j,u,rfl,e⟩ | ⟨y,u,rfl,e⟩
    · injection e with e1 _; rw [e1]
    · exact nomatch e
  · rcases bR hb with ⟨j,u,rfl,e⟩ | ⟨y,u,rfl,e⟩
    · exact nomatch e
    · injection e with e1 _; rw [e1]
 byValue:=fun k v h=>by
  rcases bR h with ⟨i,t,rfl,rfl⟩ | ⟨x,t,rfl,rfl⟩ <;> rfl
 pyHash:=fun hv h=>by
  rcases bR hv with ⟨i,t,rfl,rfl⟩ | ⟨x,t,rfl,rfl⟩
  · exact wpAny_pyHash_int h
  · exact wpAny_pyHash_str h
 eqBool:=fun hu hv h=>by
  rcases bR hu with ⟨i,t,rfl,rfl⟩ | ⟨x,t,rfl,rfl⟩
  · rcases bR hv with ⟨j,u,rfl,rfl⟩ | ⟨y,u,rfl,rfl⟩
    · rw [yL] at h; exact wpAny_eqBool_int h
    · rw [yN] at h; exact SeqAt.EqAt.int_str i t y u _ _ _ _ h
  · rcases bR hv with ⟨j,u,rfl,rfl⟩ | ⟨y,u,rfl,rfl⟩
    · rw [yO] at h; exact SeqAt.EqAt.str_int x t j u _ _ _ _ h
    · rw [yM] at h; exact wpAny_eqBool_str h
 «strs»:=fun k x t v h=>by
  rcases bR h with ⟨i,u,rfl,e⟩ | ⟨y,u,rfl,e⟩
  · exact nomatch e
  · injection e with e1 _
    subst e1
    cases v <;> rfl
theorem ul (prog:Program) (w:World) (i:Int) (t:Tok):(b7 prog w).is (.inl i) (.int i t)=true:=vW i t
theorem um (prog:Program) (w:World) (x:Str) (t:Tok):(b7 prog w).is (.inr x) (.str x t)=true:=vX x t
end L2
namespace L2
open PySem PySem.Spec PyProof.Rows
inductive V where
 | non | bl (b:Bool) | int (i:Int) | str (x:Str) | byt (b:Array UInt8) | flt (b:UInt64) | ref (a:Addr) | ty (n:String)
 deriving DecidableEq
def RelV:V→Value→Prop
 | .non,u=>u=Value.none
 | .bl b,u=>u=Value.bool b
 | .int i,u=>∃ t,u=Value.int i t
 | .str x,u=>∃ t,u=Value.str x t
 | .byt b,u=>∃ t,u=Value.bytes b t
 | .flt b,u=>∃ t,u=Value.float b t
 | .ref a,u=>u=Value.ref a
 | .ty n,u=>u=Value.type n
abbrev Vals:List V→List Value→Prop:=Paired RelV
theorem Vals.length {xs:List V} {us:List Value} (r:Vals xs us):xs.length=us.length:=Paired.length r
theorem Vals.get:∀ {xs:List V} {us:List Value} {i:Nat} {x:V},Vals xs us→xs[i]? =some x→∃ u,us[i]? =some u∧RelV x u
 | _,_,_,_,.nil,e=>by simp at e
 | _,_,0,_,.cons r _,e=>by simp at e; subst e; exact ⟨_,rfl,r⟩
 | _,_,i+1,x,.cons _ t,e=>by
  obtain ⟨u,h1,h2⟩:=Vals.get (i:=i) (x:=x) t (by simpa using e)
  exact ⟨u,by simpa using h1,h2⟩
theorem Vals.append:∀ {xs ys:List V} {us ws:List Value},Vals xs us→Vals ys ws→Vals (xs++ys) (us++ws)
 | _,_,_,_,.nil,s=>s
 | _,_,_,_,.cons r t,s=>.cons r (Vals.append t s)
theorem Vals.take:∀ {xs:List V} {us:List Value} (n:Nat),Vals xs us→Vals (xs.take n) (us.take n)
 | _,_,0,_=>.nil
 | _,_,_+1,.nil=>.nil
 | _,_,n+1,.cons r t=>.cons r (Vals.take n t)
theorem Vals.drop:∀ {xs:List V} {us:List Value} (n:Nat),Vals xs us→Vals (xs.drop n) (us.drop n)
 | _,_,0,r=>r
 | _,_,_+1,.nil=>.nil
 | _,_,n+1,.cons _ t=>Vals.drop n t
def RelO:Option V→Option Value→Prop
 | some v,some u=>RelV v u
 | none,none=>True
 | _,_=>False
def KV {κ:Type}:List (κ × V)→List (κ × Value)→Prop:=Paired fun (p:κ × V) (q:κ × Value)=>p.1=q.1∧RelV p.2 q.2
def kV:Key→V
 | .inl i=>.int i
 | .inr x=>.str x
inductive HO where
  | lst (xs:List V)
  | tup (xs:List V)
  | dK (kvs:List (Key × V)) | dT (kvs:List (List Key × V))
  | set (S:Int→Bool) (n:Nat)
  | ins (C dx:Addr) (fs:List (Str × V))
  | own (x:Addr)
  | xd (fs:List (Str × V))
  | met (f x:Addr)
  | rng (lo hi:Int)
  | frz (o:Obj) (u:HO)
  | tbl (ps:Array Value)
  | ext (φ:Heap→Prop)
abbrev Hp:=Addr→Option HO
def upd (H:Hp) (a:Addr) (o:HO):Hp:=fun b=>if b=a then some o else H b
theorem ae {H:Hp} {a:Addr} {o:HO}:upd H a o a=some o:=by unfold upd; rw [if_pos rfl]
theorem ai {H:Hp} {a b:Addr} {o:HO} (h:b≠a):upd H a o b=H b:=by unfold upd; rw [if_neg h]
theorem zL {H:Hp} {a b:Addr} {o u:HO} (h:H a=some o) (h':H b=some u) (d:o≠u):a≠b:=by
 intro e; subst e; rw [h] at h'; exact d (Option.some.inj h')
theorem au {H:Hp} {a b:Addr} {o:HO} (h:H a=some o) (h':H b=none):a≠b:=by
 intro e; subst e; rw [h] at h'; cases h'
section
variable (P:Program) (w:World)
def ObjOk (H:Hp) (h:Heap) (a:Addr):HO→Prop
 | .lst xs=>xs.length≤sizeLine∧∃ (its:List Value) (n:Nat),Vals xs its∧h.get? a=some { cls:=.type "list",data:=.seq its.toArray n }
 | .tup xs=>xs.length≤sizeLine∧∃ its:List Value,Vals xs its∧IsTup h a its.toArray
 | .dK kvs=>kvs.length≤sizeLine∧(a==sysModules)=false∧∃ vs,KV kvs vs∧h.DictOf (b7 P w) a vs
 | .dT kvs=>kvs.length≤sizeLine∧(a==sysModules)=false∧∃ xs:List (List Key × Addr × Value),
   Paired (fun (p:List Key × V) (q:List Key × Addr × Value)=>p.1=q.1∧H q.2.1=some (.tup (p.1.map kV))∧RelV p.2 q.2.2) kvs xs∧
   ∃ o es ep,h.get? a=some o∧o.ExactDict∧o.data=.dict es ep∧es.toList=xs.map (entryOfKey (tupleKind (b7 P w)))∧(xs.map (·.1)).Nodup
 | .set S n=>h.SetOf (intKind P w) a S n
 | .ins C dx fs=>H dx=some (.own a)∧fs.length≤1000∧dx≠a∧h.get? a=some (PySem.W.instObj C dx)∧
   ∃ mA,h.Ns1 dx mA∧(∀ f,RelO (fs.lookup f) (mA f))∧PySem.Within mA (fs.map (·.1))
 | .own _=>∃ o,h.get? a=some o
 | .xd fs=>∃ mA,h.Ns1 a mA∧∀ f,RelO (fs.lookup f) (mA f)
 | .rng lo hi=>∃ t u v,h.get? a=some { cls:=.type "range",data:=.fields #[.int lo t,.int hi u,.int 1 v] }
 | .frz o u=>h.get? a=some o∧ObjOk H h a u
 | .tbl ps=>h.get? a=some { cls:=.none,data:=.fields ps }
 | .met f x=>h.get? a=some (PySem.W.methodObj (.ref f) (.ref x))
 | .ext φ=>φ h∧(∃ o,h.get? a=some o)∧∀ h1 h2:Heap,φ h1→(∀ o,h1.get? a=some o→h2.get? a=some o)→φ h2
def HOk (H:Hp) (h:Heap):Prop:=∀ a o,H a=some o→ObjOk P w H h a o
end
section
variable {P:Program} {w:World} {H H':Hp} {h h':Heap} {a:Addr} {o:HO}
theorem ObjOk.lt (x:ObjOk P w H h a o):a < h.objs.size:=by
 cases o with
 | lst xs=>obtain ⟨_,_,_,_,e⟩:=x; exact Heap.lt_size e
 | tup xs=>obtain ⟨_,_,_,p⟩:=x; exact p.lt
 | dK kvs=>obtain ⟨_,_,_,_,o,_,_,e,_⟩:=x; exact Heap.lt_size e
 | dT kvs=>obtain ⟨_,_,_,_,o,_,_,e,_⟩:=x; exact Heap.lt_size e
 | set S n=>obtain ⟨o,_,_,_,e,_⟩:=x; exact Heap.lt_size e
 | ins C dx fs=>obtain ⟨_,_,_,e,_⟩:=x; exact Heap.lt_size e
 | own y=>obtain ⟨_,e⟩:=x; exact Heap.lt_size e
 | xd fs=>obtain ⟨_,⟨_,_,_,e,_⟩,_⟩:=x; exact Heap.lt_size e
 | rng lo hi=>obtain ⟨_,_,_,e⟩:=x; exact Heap.lt_size e
 | frz ob u=>obtain ⟨e,_⟩:=x; exact Heap.lt_size e
 | tbl ps=>exact Heap.lt_size (show h.get? a=some _ from x)
 | met f y=>exact Heap.lt_size (show h.get? a=some _ from x)
 | ext φ=>obtain ⟨_,⟨_,e⟩,_⟩:=x; exact Heap.lt_size e
theorem Paired.mapP {α β:Type} {F G:α→β→Prop}:∀ {l₁:List α} {l₂:List β},Paired F l₁ l₂→(∀ a b,F a b→G a b)→Paired G l₁ l₂
 | _,_,.nil,_=>.nil
 | _,_,.cons r t,f=>.cons (f _ _ r) (Paired.mapP t f)
theorem ObjOk.stay (x:ObjOk P w H h a o) (k:∀ b u,(b=a∨H b=some (.own a))→h.get? b=some u→h'.get? b=some u)
  (ho:∀ b,H b=some (.own a)→H' b=some (.own a)) (ht:∀ b xs,H b=some (.tup xs)→H' b=some (.tup xs)):ObjOk P w H' h' a o:=by
 induction o with
 | lst xs=>obtain ⟨z,its,n,r,e⟩:=x; exact ⟨z,its,n,r,k _ _ (.inl rfl) e⟩
 | tup xs=>obtain ⟨z,its,r,ob,e,c⟩:=x; exact ⟨z,its,r,ob,k _ _ (.inl rfl) e,c⟩
 | dK kvs=>obtain ⟨z,y,vs,r,ob,es,ep,e,c⟩:=x; exact ⟨z,y,vs,r,ob,es,ep,k _ _ (.inl rfl) e,c⟩
 | dT kvs=>
  obtain ⟨z,y,xs,r,ob,es,ep,e,c⟩:=x
  exact ⟨z,y,xs,Paired.mapP r fun p q z=>⟨z.1,ht _ _ z.2.1,z.2.2⟩,ob,es,ep,k _ _ (.inl rfl) e,c⟩
 | set S n=>obtain ⟨ob,es,ep,t,e,c⟩:=x; exact ⟨ob,es,ep,t,k _ _ (.inl rfl) e,c⟩
 | ins C dx fs=>
  obtain ⟨d,z,ne,e,mA,⟨od,es,ep,e2,c⟩,r⟩:=x
  exact ⟨ho _ d,z,ne,k _ _ (.inl rfl) e,mA,⟨od,es,ep,k _ _ (.inr d) e2,c⟩,r⟩
 | own y=>obtain ⟨ob,e⟩:=x; exact ⟨ob,k _ _ (.inl rfl) e⟩
 | xd fs=>obtain ⟨mA,⟨od,es,ep,e,c⟩,r⟩:=x; exact ⟨mA,⟨od,es,ep,k _ _ (.inl rfl) e,c⟩,r⟩
 | rng lo hi=>obtain ⟨t,u,v,e⟩:=x; exact ⟨t,u,v,k _ _ (.inl rfl) e⟩
 | frz ob u ih=>obtain ⟨e,q⟩:=x; exact ⟨k _ _ (.inl rfl) e,ih q⟩
 | tbl ps=>
  have e:h.get? a=some { cls:=.none,data:=.fields ps }:=x
  show h'.get? a=some { cls:=.none,data:=.fields ps }
  exact k a _ (.inl rfl) e
 | met f y=>
  have e:h.get? a=some (PySem.W.methodObj (.ref f) (.ref y)):=x
  show h'.get? a=some (PySem.W.methodObj (.ref f) (.ref y))
  exact k a _ (.inl rfl) e
 | ext φ=>obtain ⟨p,⟨o,e⟩,st⟩:=x; exact ⟨st _ _ p fun o q=>k _ _ (.inl rfl) q,⟨o,k _ _ (.inl rfl) e⟩,st⟩
theorem HOk.lt (x:HOk P w H h) (e:H a=some o):a < h.objs.size:=(x a o e).lt
theorem HOk.fresh (x:HOk P w H h) (e:h.objs.size≤a):H a=none:=by
 cases q:H a with
 | none=>rfl
 | some u=>exact absurd (Nat.lt_of_lt_of_le (x.lt q) e) (Nat.lt_irrefl _)
theorem HOk.kept (x:HOk P w H h) (k:∀ b u,h.get? b=some u→h'.get? b=some u):HOk P w H h':=fun a o e=>
 (x a o e).stay (fun b u _ q=>k b u q) (fun _ q=>q) fun _ _ q=>q
theorem HOk.laid (x:HOk P w H h) (k:∀ b u,h.get? b=some u→h'.get? b=some u) (hp:h.objs.size≤a) (new:ObjOk P w (upd H a o) h' a o):HOk P w (upd H a o) h':=fun b u e=>by
 have hn:=x.fresh hp
 by_cases hb:b=a
 · subst hb; rw [ae] at e; cases e; exact new
 · rw [ai hb] at e
   exact (x b u e).stay (fun c v _ q=>k c v q) (fun c q=>by rw [ai (au q hn)]; exact q) fun c xs q=>by rw [ai (au q hn)]; exact q
end
def Rd (H:Hp) (a:Addr) (u:HO):Prop:=H a=some u∨∃ o,H a=some (.frz o u)
theorem Rd.ok {P:Program} {w:World} {H:Hp} {h:Heap} {a:Addr} {u:HO} (r:Rd H a u) (x:HOk P w H h):ObjOk P w H h a u:=by
 rcases r with r | ⟨o,r⟩
 · exact x a u r
 · obtain ⟨_,q⟩:=x a _ r
   exact q
def Mut:Option HO→Prop
 | some (.lst _)=>True
 | some (.dK _)=>True
 | some (.dT _)=>True
 | some (.set _ _)=>True
 | some (.ins _ _ _)=>True
 | some (.ext _)=>True
 | _=>False
section
variable {P:Program} {w:World} {H:Hp} {h h':Heap} {x e:Addr} {o':HO}
theorem HOk.write (ok:HOk P w H h) (mu:Mut (H x)) (he:e=x∨H e=some (.own x)) (k:∀ b u,b≠e→h.get? b=some u→h'.get? b=some u) (heo:∃ u,h'.get? e=some u)
  (new:ObjOk P w (upd H x o') h' x o'):HOk P w (upd H x o') h':=fun b u q=>by
 have nown:∀ c y,H c=some (.own y)→c≠x:=fun c y r z=>by subst z; rw [r] at mu; exact mu
 have ntup:∀ c xs,H c=some (.tup xs)→c≠x:=fun c xs r z=>by subst z; rw [r] at mu; exact mu
 by_cases hb:b=x
 · subst hb; rw [ae] at q; cases q; exact new
 · rw [ai hb] at q
   by_cases hbe:b=e
   · have q':H b=some (.own x):=by
      rcases he with z | z
      · exact absurd (hbe.trans z) hb
      · rw [hbe]; exact z
     rw [q] at q'; cases q'
     obtain ⟨v,hv⟩:=heo
     exact ⟨v,by rw [hbe]; exact hv⟩
   · refine (ok b u q).stay (fun c v hc r=>k c v ?_ r) (fun c r=>by rw [ai (nown c b r)]; exact r) fun c xs r=>by rw [ai (ntup c xs r)]; exact r
     rcases hc with rfl | hc
     · exact hbe
     · rintro rfl
       rcases he with z | z
       · exact nown c b hc z
       · rw [hc] at z; cases z; exact hb rfl
end
structure Un (fs ex:List Addr) (H H':Hp) (h h':Heap):Prop where
 keep:∀ b o,h.get? b=some o→H b=none→b∉fs→b∉ex→h'.get? b=some o
 slot:∀ b o,h.get? b=some o→H b=none→b∈fs→b∉ex→∃ sl,h'.get? b=some { o with slots:=sl }
 free:∀ b o,h.get? b=some o→H b=none→b∉ex→H' b=none
 there:∀ b o,h.get? b=some o→b∉ex→∃ o',h'.get? b=some o'
 tups:∀ b xs,H b=some (.tup xs)→H' b=some (.tup xs)
 frzs:∀ b o u,H b=some (.frz o u)→H' b=some (.frz o u)
 tbls:∀ b ps,H b=some (.tbl ps)→∃ more,H' b=some (.tbl (ps++more))
section
variable {fs fs' ex ex':List Addr} {H H1 H2:Hp} {h h1 h2 h':Heap} {a x e:Addr} {o:HO}
theorem Un.any (u:Un fs ex H H1 h h1) {b:Addr} {ob:Obj} (q:h.get? b=some ob) (n:H b=none) (hx:b∉ex):∃ sl,h1.get? b=some { ob with slots:=sl }:=by
 by_cases hb:b∈fs
 · exact u.slot b ob q n hb hx
 · exact ⟨ob.slots,u.keep b ob q n hb hx⟩
theorem Un.kept (k:∀ b u,h.get? b=some u→h'.get? b=some u):Un fs ex H H h h':=
 ⟨fun b ob q _ _ _=>k b ob q,fun b ob q _ _ _=>⟨ob.slots,k b ob q⟩,fun _ _ _ n _=>n,fun b ob q _=>⟨ob,k b ob q⟩,fun _ _ q=>q,fun _ _ _ q=>q,fun _ ps q=>⟨#[],by rw [q]; simp⟩⟩
theorem Un.refl:Un fs ex H H h h:=Un.kept fun _ _ q=>q
theorem Un.laid (k:∀ b u,h.get? b=some u→h'.get? b=some u) (hp:h.objs.size≤a) (hn:H a=none):Un fs ex H (upd H a o) h h' where
 keep:=fun b u q _ _ _=>k b u q
 slot:=fun b u q _ _ _=>⟨u.slots,k b u q⟩
 free:=fun b u q n _=>by rw [ai (Nat.ne_of_lt (Nat.lt_of_lt_of_le (Heap.lt_size q) hp))]; exact n
 there:=fun b u q _=>⟨u,k b u q⟩
 tups:=fun b xs q=>by rw [ai (au q hn)]; exact q
 frzs:=fun b u xs q=>by rw [ai (au q hn)]; exact q
 tbls:=fun b ps q=>⟨#[],by rw [ai (au q hn),q]; simp⟩
theorem Un.write (mu:Mut (H x)) (he:e=x∨H e=some (.own x)) (k:∀ b u,b≠e→h.get? b=some u→h'.get? b=some u) (heo:∃ u,h'.get? e=some u):Un fs ex H (upd H x o) h h':=by
 have hx:∀ b,H b=none→b≠x:=fun b n z=>by subst z; rw [n] at mu; exact mu
 have hb:∀ b,H b=none→b≠e:=fun b n z=>by
  subst z
  rcases he with r | r
  · exact hx b n r
  · rw [n] at r; cases r
 have hm:∀ b u,H b=some u→¬ Mut (some u)→b≠x:=fun b u q nm z=>by subst z; rw [q] at mu; exact nm mu
 refine ⟨fun b u q n _ _=>k b u (hb b n) q,fun b u q n _ _=>⟨u.slots,k b u (hb b n) q⟩,fun b u q n _=>by rw [ai (hx b n)]; exact n,fun b u q _=>?_,
  fun b xs q=>by rw [ai (hm b _ q fun z=>z)]; exact q,fun b u xs q=>by rw [ai (hm b _ q fun z=>z)]; exact q,fun b ps q=>⟨#[],by rw [ai (hm b _ q fun z=>z),q]; simp⟩⟩
 by_cases hbe:b=e
 · subst hbe; exact heo
 · exact ⟨u,k b u hbe q⟩
end
def trk (h:Heap) (H:Hp):List Addr:=(List.range h.objs.size).filter fun a=>(H a).isSome
def hidT (h:Heap) (H:Hp):Heap:=PySem.W.hideAll h (trk h H)
theorem vY (h:Heap) (H:Hp):(hidT h H).objs.size=h.objs.size:=PySem.W.hideAll_size _ _
theorem xl {h:Heap} {H:Hp} {b:Addr} {o:Obj} (e:h.get? b=some o) (n:H b=none):(hidT h H).get? b=some o:=
 PySem.W.hideAll_get _ e fun hm=>by
  have q:(H b).isSome=true:=(List.mem_filter.mp hm).2
  rw [n] at q; simp at q
theorem ya {h:Heap} {H:Hp} {b:Addr} {o:Obj} (e:(hidT h H).get? b=some o):h.get? b=some o∧H b=none:=by
 have e':h.get? b=some o:=PySem.W.of_hideAll (trk h H) e
 refine ⟨e',?_⟩
 cases q:H b with
 | none=>rfl
 | some x=>
  have hm:b∈trk h H:=List.mem_filter.mpr ⟨List.mem_range.mpr (Heap.lt_size e'),by simp [q]⟩
  have z:(hidT h H).get? b=none:=PySem.W.hideAll_none (trk h H) hm
  rw [z] at e; cases e
end L2
namespace L2
open PySem PySem.Spec PyProof.Rows
structure Mod (K:PySem.W.Frag) (mg:Str→Option Value) (base:Heap):Prop where
 kin:K.In base
 glob:base.Ns mainGlobals mg
 blt:∃ mb,base.Ns builtinsNs mb∧∀ x:Str,x≠"__name__"→mb x=bootBuiltins x
 nolimit:base.NoLimit
structure Cx where
 prog:Program
 w:World
 K:PySem.W.Frag
 mg:Str→Option Value
 base:Heap
 A:Around
 N:List Str
 s₀:Shared
 H₀:Hp
 env:Env
 outer:List Env
 stack:List Env
 ex:List Addr
 fn:Str→Bool
 calm:Bool
 pn:List (Addr × Obj)
 xe:Value→Shared→Prop
def frs (l:List Env):List Addr:=l.filterMap (·.frame)
abbrev Cx.fs (X:Cx):List Addr:=frs X.outer
def Vis (sc:Scope) (x:Str):Prop:=sc.names.lookup x=some .local∨sc.names.lookup x=some .cell∨sc.names.lookup x=some .free
def Loc (sc:Scope) (x:Str):Prop:=sc.names.lookup x=some .local∨sc.names.lookup x=some .cell
def Look (env:Env) (h:Heap) (m:Str→Option Value) (x:Str) (u:Value):Prop:=
 (env.kindOf x=some .local∧m x=some u)∨((env.kindOf x=some .cell∨env.kindOf x=some .free)∧∃ c,env.cells.lookup x=some c∧h.IsCell c (some u))
structure Cx.Ok (X:Cx):Prop where
 mod:Mod X.K X.mg X.base
 kind:X.env.scope.kind=.function
 glob:X.env.globals=mainGlobals
 blt:X.env.builtins=builtinsNs
 above:X.s₀.heap.objs.size≤X.env.locals
 inj:∀ x y c,X.env.cells.lookup x=some c→X.env.cells.lookup y=some c→x=y
 has:∀ x,(X.env.kindOf x=some .cell∨X.env.kindOf x=some .free)→∃ c,X.env.cells.lookup x=some c
 cab:∀ x c,X.fn x=true→X.env.cells.lookup x=some c→X.s₀.heap.objs.size≤c
 hd:X.calm=true→X.A.handled=none
 frames:X.A.frames=some X.stack
 stk:X.stack=X.outer∨(X.stack=X.env::X.outer∧X.env.frame=some X.env.locals)
 exf:∀ b∈X.ex,b≠X.env.locals∧∀ x c,X.env.cells.lookup x=some c→c≠b
 bs:∀ b o,X.base.get? b=some o→X.s₀.heap.get? b=some o∧X.H₀ b=none
 bsz:X.base.objs.size≤X.s₀.heap.objs.size
 noex:∀ b o,X.base.get? b=some o→b∉X.ex
 exfs:∀ b∈X.ex,b∉X.fs
 funs:X.s₀.heap.FunFrames X.base X.outer
 frf:∀ b∈X.fs,X.H₀ b=none
structure Inv (X:Cx) (pins:List (Addr × Obj)) (σ:List (Option V)) (H:Hp) (s:Shared):Prop where
 ok:X.Ok
 os:s.os=X.s₀.os
 bare:AllBare s.gens
 base:Un X.fs X.ex X.H₀ H X.s₀.heap s.heap
 loc:∃ m,s.heap.Ns X.env.locals m∧∀ (i:Nat) (x:Str) (v:V),X.N[i]? =some x→σ[i]? =some (some v)→Vis X.env.scope x→∃ u,RelV v u∧Look X.env s.heap m x u
 cell:∀ x c,X.env.cells.lookup x=some c→∃ v,s.heap.IsCell c v
 free:H X.env.locals=none
 freeC:∀ x c,X.env.cells.lookup x=some c→H c=none
 pin:∀ p∈X.pn++pins,s.heap.get? p.1=some p.2∧H p.1=none∧p.1≠X.env.locals∧p.1∉X.fs∧∀ v,p.2.data≠.cell v
 hok:HOk X.prog X.w H s.heap
 len:σ.length=X.N.length
section
variable {X:Cx} {pins:List (Addr × Obj)} {σ:List (Option V)} {H H':Hp} {s:Shared} {h':Heap}
theorem Cx.Ok.nofr (ok:X.Ok) {b:Addr} {o:Obj} (e:X.base.get? b=some o):b∉X.fs:=fun hb=>by
 have:=(ok.funs.mem hb).1
 rw [e] at this; cases this
theorem Inv.bs (I:Inv X pins σ H s):∀ b o,X.base.get? b=some o→s.heap.get? b=some o∧H b=none:=fun b o e=>
 ⟨I.base.keep b o (I.ok.bs b o e).1 (I.ok.bs b o e).2 (I.ok.nofr e) (I.ok.noex b o e),I.base.free b o (I.ok.bs b o e).1 (I.ok.bs b o e).2 (I.ok.noex b o e)⟩
theorem Inv.bk (I:Inv X pins σ H s):∀ b o,X.base.get? b=some o→s.heap.get? b=some o:=fun b o e=>(I.bs b o e).1
theorem Inv.mod (I:Inv X pins σ H s):Mod X.K X.mg X.base:=I.ok.mod
theorem Inv.kIn (I:Inv X pins σ H s):X.K.In s.heap:=I.ok.mod.kin.keeps I.bk
theorem Inv.lt (I:Inv X pins σ H s):X.env.locals < s.heap.objs.size:=let ⟨_,hn,_⟩:=I.loc; hn.lt
theorem Inv.sz (I:Inv X pins σ H s):X.s₀.heap.objs.size≤s.heap.objs.size:=Nat.le_trans I.ok.above (Nat.le_of_lt I.lt)
theorem Inv.nofs (I:Inv X pins σ H s) {a:Addr} (h:s.heap.objs.size≤a):a∉X.fs:=fun hb=>by
 obtain ⟨_,o,ho,_⟩:=I.ok.funs.mem hb
 exact absurd (Nat.lt_of_lt_of_le (Heap.lt_size ho) (Nat.le_trans I.sz h)) (Nat.lt_irrefl _)
theorem Inv.cne (I:Inv X pins σ H s):∀ x c,X.env.cells.lookup x=some c→c≠X.env.locals:=fun x c e z=>by
 obtain ⟨v,o,ho,hd⟩:=I.cell x c e
 obtain ⟨m,⟨o',es,ep,ho',hd',_⟩,_⟩:=I.loc
 rw [z,ho'] at ho; cases ho; rw [hd'] at hd; cases hd
theorem Inv.funs (I:Inv X pins σ H s):s.heap.FunFrames X.base X.outer:=by
 have all:∀ (l:List Env),(∀ b∈frs l,b∈X.fs)→X.s₀.heap.FunFrames X.base l→s.heap.FunFrames X.base l:=by
  intro l
  induction l with
  | nil=>intro _ _; trivial
  | cons env r ih=>
   intro hs hl
   obtain ⟨hk,⟨L,o,hf,hn,ho,hd⟩,hr⟩:=hl
   have hL:L∈X.fs:=hs L (by unfold frs; rw [List.filterMap_cons,hf]; exact List.mem_cons_self)
   obtain ⟨sl,e⟩:=I.base.slot L o ho (I.ok.frf L hL) hL fun z=>I.ok.exfs L z hL
   exact ⟨hk,⟨L,_,hf,hn,e,hd⟩,ih (fun b hb=>hs b (by unfold frs; rw [List.filterMap_cons,hf]; exact List.mem_cons_of_mem _ hb)) hr⟩
 exact all X.outer (fun _ hb=>hb) I.ok.funs
theorem Inv.stack (I:Inv X pins σ H s):s.heap.FunFrames X.base X.stack:=by
 rcases I.ok.stk with e | ⟨e,hf⟩
 · rw [e]; exact I.funs
 · rw [e]
   obtain ⟨m,hn,_⟩:=I.loc
   refine .cons (by rw [I.ok.kind]; decide) hf hn ?_ I.funs
   exact Heap.get?_none_of_le (Nat.le_trans I.ok.bsz I.ok.above)
theorem Inv.stkSub (I:Inv X pins σ H s):∀ b∈frs X.stack,b∈X.env.locals::X.fs:=fun b hb=>by
 rcases I.ok.stk with e | ⟨e,hf⟩
 · rw [e] at hb; exact List.mem_cons_of_mem _ hb
 · rw [e] at hb
   unfold frs at hb
   rw [List.filterMap_cons,hf] at hb
   exact hb
theorem Inv.stkFree (I:Inv X pins σ H s):∀ b∈frs X.stack,H b=none:=fun b hb=>by
 rcases List.mem_cons.mp (I.stkSub b hb) with e | hb
 · rw [e]; exact I.free
 · obtain ⟨_,o,ho,_⟩:=I.ok.funs.mem hb
   exact I.base.free b o ho (I.ok.frf b hb) fun z=>I.ok.exfs b z hb
theorem Inv.step {g':Array GenState} {t':Nat} {d':Drawn} {ch:List Addr} (I:Inv X pins σ H s)
  (hch:∀ b∈ch,(b∈X.ex∨X.s₀.heap.objs.size≤b)∧b≠X.env.locals∧(∀ x c,X.env.cells.lookup x=some c→c≠b)∧∀ p∈X.pn++pins,p.1≠b)
  (keep:∀ b o,b≠X.env.locals→b∉X.fs→b∉ch→s.heap.get? b=some o→H b=none→h'.get? b=some o)
  (slot:∀ b o,b≠X.env.locals→b∈X.fs→b∉ch→s.heap.get? b=some o→H b=none→∃ sl,h'.get? b=some { o with slots:=sl }) (free:∀ b o,b∉ch→s.heap.get? b=some o→H b=none→H' b=none)
  (there:∀ b o,b∉ch→s.heap.get? b=some o→∃ o',h'.get? b=some o')
  (tups:∀ b xs,H b=some (.tup xs)→H' b=some (.tup xs)) (frzs:∀ b o u,H b=some (.frz o u)→H' b=some (.frz o u)) (tbls:∀ b ps,H b=some (.tbl ps)→∃ more,H' b=some (.tbl (ps++more)))
  (ns:∀ m,s.heap.Ns X.env.locals m→h'.Ns X.env.locals m) (hok:HOk X.prog X.w H' h') (hg:AllBare g'):
  Inv X pins σ H' { s with heap:=h',gens:=g',drawn:=d',toks:=t' }:=by
 have neL:∀ b o,X.s₀.heap.get? b=some o→b≠X.env.locals:=fun b o e=>Nat.ne_of_lt (Nat.lt_of_lt_of_le (Heap.lt_size e) I.ok.above)
 have neC:∀ b o,X.s₀.heap.get? b=some o→b∉X.ex→b∉ch:=fun b o e hx hb=>by
  rcases (hch b hb).1 with z | z
  · exact hx z
  · exact absurd (Nat.lt_of_lt_of_le (Heap.lt_size e) z) (Nat.lt_irrefl _)
 have cellK:∀ x c,X.env.cells.lookup x=some c→∀ v,s.heap.IsCell c v→h'.IsCell c v:=fun x c e v ⟨o,ho,hd⟩=>by
  have nch:c∉ch:=fun z=>(hch c z).2.2.1 x c e rfl
  by_cases hc:c∈X.fs
  · obtain ⟨sl,q⟩:=slot c o (I.cne x c e) hc nch ho (I.freeC x c e)
    exact ⟨_,q,hd⟩
  · exact ⟨o,keep c o (I.cne x c e) hc nch ho (I.freeC x c e),hd⟩
 refine ⟨I.ok,I.os,hg,⟨fun b o e n hb hx=>?_,fun b o e n hb hx=>?_,fun b o e n hx=>?_,fun b o e hx=>?_,fun b xs e=>tups b xs (I.base.tups b xs e),fun b o xs e=>frzs b o xs (I.base.frzs b o xs e),fun b ps e=>?_⟩,?_,fun x c e=>?_,?_,fun x c e=>?_,fun p hp=>?_,hok,I.len⟩
 · exact keep b o (neL b o e) hb (neC b o e hx) (I.base.keep b o e n hb hx) (I.base.free b o e n hx)
 · obtain ⟨sl,e1⟩:=I.base.slot b o e n hb hx
   obtain ⟨sl',e2⟩:=slot b _ (neL b o e) hb (neC b o e hx) e1 (I.base.free b o e n hx)
   exact ⟨sl',e2⟩
 · obtain ⟨o',e1⟩:=I.base.there b o e hx
   exact free b o' (neC b o e hx) e1 (I.base.free b o e n hx)
 · obtain ⟨o',e1⟩:=I.base.there b o e hx
   exact there b o' (neC b o e hx) e1
 · obtain ⟨m1,e1⟩:=I.base.tbls b ps e
   obtain ⟨m2,e2⟩:=tbls b _ e1
   exact ⟨m1++m2,by rw [e2,Array.append_assoc]⟩
 · obtain ⟨m,hn,hl⟩:=I.loc
   refine ⟨m,ns m hn,fun i x v e1 e2 e3=>?_⟩
   obtain ⟨u,r,l⟩:=hl i x v e1 e2 e3
   refine ⟨u,r,?_⟩
   rcases l with l | ⟨k,c,e,z⟩
   · exact .inl l
   · exact .inr ⟨k,c,e,cellK x c e _ z⟩
 · obtain ⟨v,z⟩:=I.cell x c e
   exact ⟨v,cellK x c e v z⟩
 · obtain ⟨m,⟨o,_,_,ho,_⟩,_⟩:=I.loc
   exact free _ o (fun z=>(hch _ z).2.1 rfl) ho I.free
 · obtain ⟨v,o,ho,hd⟩:=I.cell x c e
   exact free c o (fun z=>(hch c z).2.2.1 x c e rfl) ho (I.freeC x c e)
 · obtain ⟨e,n,ne,nf,d⟩:=I.pin p hp
   have nch:p.1∉ch:=fun z=>(hch p.1 z).2.2.2 p hp rfl
   exact ⟨keep p.1 p.2 ne nf nch e n,free p.1 p.2 nch e n,ne,nf,d⟩
theorem Inv.un {t':Nat} (I:Inv X pins σ H s) (u:Un X.fs [] H H' s.heap h') (hok:HOk X.prog X.w H' h'):Inv X pins σ H' { s with heap:=h',toks:=t' }:=by
 obtain ⟨m,⟨o,es,ep,ho,r⟩,_⟩:=id I.loc
 obtain ⟨sl,hL⟩:=u.any ho I.free (by simp)
 exact I.step (g':=s.gens) (d':=s.drawn) (ch:=[]) (fun _ z=>nomatch z) (fun b o _ hb _ e n=>u.keep b o e n hb (by simp)) (fun b o _ hb _ e n=>u.slot b o e n hb (by simp)) (fun b o _ e n=>u.free b o e n (by simp)) (fun b o _ e=>u.there b o e (by simp)) u.tups u.frzs u.tbls (fun m' hm=>by
  obtain ⟨o',es',ep',ho',r'⟩:=hm
  rw [ho] at ho'; cases ho'
  exact ⟨_,es',ep',hL,r'⟩) hok I.bare
theorem Inv.call {g':Array GenState} {t':Nat} {d':Drawn} {ch:List Addr} (I:Inv X pins σ H s) (u:Un (frs X.stack) ch H H' s.heap h') (hok:HOk X.prog X.w H' h') (hg:AllBare g')
  (hch:∀ b∈ch,(b∈X.ex∨X.s₀.heap.objs.size≤b)∧b≠X.env.locals∧(∀ x c,X.env.cells.lookup x=some c→c≠b)∧∀ p∈X.pn++pins,p.1≠b):
  Inv X pins σ H' { s with heap:=h',gens:=g',drawn:=d',toks:=t' }:=by
 obtain ⟨m,⟨o,es,ep,ho,r⟩,_⟩:=id I.loc
 obtain ⟨sl,hL⟩:=u.any ho I.free fun z=>(hch _ z).2.1 rfl
 exact I.step (ch:=ch) hch (fun b o hL hb hc e n=>u.keep b o e n (fun z=>(List.mem_cons.mp (I.stkSub b z)).elim hL hb) hc) (fun b o _ _ hc e n=>u.any e n hc) (fun b o hc e n=>u.free b o e n hc) (fun b o hc e=>u.there b o e hc) u.tups u.frzs u.tbls (fun m' hm=>by
  obtain ⟨o',es',ep',ho',r'⟩:=hm
  rw [ho] at ho'; cases ho'
  exact ⟨_,es',ep',hL,r'⟩) hok hg
theorem Inv.turned {t':Nat} {it:Addr} (I:Inv X pins σ H s) (k:∀ b o,b≠it→s.heap.get? b=some o→h'.get? b=some o) (hn:H it=none) (hL:it≠X.env.locals)
  (h1:it∈X.ex∨X.s₀.heap.objs.size≤it) (h2:∀ x c,X.env.cells.lookup x=some c→c≠it) (h3:∀ p∈X.pn++pins,p.1≠it):Inv X pins σ H { s with heap:=h',toks:=t' }:=by
 have nit:∀ b u,H b=some u→b≠it:=fun b u e z=>by rw [z,hn] at e; cases e
 refine I.step (g':=s.gens) (d':=s.drawn) (ch:=[it]) (fun b hb=>?_) (fun b o _ _ hc e _=>k b o (fun z=>hc (by simp [z])) e) (fun b o _ _ hc e _=>⟨o.slots,k b o (fun z=>hc (by simp [z])) e⟩) (fun _ _ _ _ n=>n)
  (fun b o hc e=>⟨o,k b o (fun z=>hc (by simp [z])) e⟩) (fun _ _ e=>e) (fun _ _ _ e=>e) (fun b ps e=>⟨#[],by rw [e]; simp⟩) (fun m hm=>?_) (fun b u e=>?_) I.bare
 · have e:b=it:=by simpa using hb
   subst e
   exact ⟨h1,hL,h2,h3⟩
 · obtain ⟨o,es,ep,ho,r⟩:=hm
   exact ⟨o,es,ep,k _ o (Ne.symm hL) ho,r⟩
 · refine (I.hok b u e).stay (fun c v hc q=>k c v ?_ q) (fun _ q=>q) fun _ _ q=>q
   rcases hc with z | z
   · rw [z]; exact nit b u e
   · exact nit c _ z
theorem Inv.tok (I:Inv X pins σ H s) (t:Nat):Inv X pins σ H { s with toks:=t }:=I.un (h':=s.heap) (t':=t) Un.refl I.hok
theorem Inv.kept {t':Nat} (I:Inv X pins σ H s) (k:∀ b u,s.heap.get? b=some u→h'.get? b=some u):Inv X pins σ H { s with heap:=h',toks:=t' }:=I.un (Un.kept k) (I.hok.kept k)
theorem Inv.laid {a:Addr} {o:HO} {t':Nat} (I:Inv X pins σ H s) (k:∀ b u,s.heap.get? b=some u→h'.get? b=some u) (hp:s.heap.objs.size≤a) (new:ObjOk X.prog X.w (upd H a o) h' a o):
  Inv X pins σ (upd H a o) { s with heap:=h',toks:=t' }:=I.un (Un.laid k hp (I.hok.fresh hp)) (I.hok.laid k hp new)
theorem Inv.write {x e:Addr} {o:HO} {t':Nat} (I:Inv X pins σ H s) (mu:Mut (H x)) (he:e=x∨H e=some (.own x)) (k:∀ b u,b≠e→s.heap.get? b=some u→h'.get? b=some u) (heo:∃ u,h'.get? e=some u)
  (new:ObjOk X.prog X.w (upd H x o) h' x o):Inv X pins σ (upd H x o) { s with heap:=h',toks:=t' }:=I.un (Un.write mu he k heo) (I.hok.write mu he k heo new)
theorem Inv.pins_of {pins':List (Addr × Obj)} (I:Inv X pins σ H s) (h:∀ p∈pins',s.heap.get? p.1=some p.2∧H p.1=none∧p.1≠X.env.locals∧p.1∉X.fs∧∀ v,p.2.data≠.cell v):Inv X pins' σ H s:=
 ⟨I.ok,I.os,I.bare,I.base,I.loc,I.cell,I.free,I.freeC,fun p hp=>(List.mem_append.mp hp).elim (fun z=>I.pin p (List.mem_append_left _ z)) (h p),I.hok,I.len⟩
theorem nU {N:List Str} (hN:N.Nodup) {i j:Nat} {x:Str} (a:N[i]? =some x) (b:N[j]? =some x):i=j:=by
 obtain ⟨h1,e1⟩:=List.getElem?_eq_some_iff.mp a
 obtain ⟨h2,e2⟩:=List.getElem?_eq_some_iff.mp b
 exact (List.getElem_inj hN).mp (e1.trans e2.symm)
theorem rb {M:Model} {A:Around} {E:Value→Shared→Prop} {i:Nat} {x:Str} {v:V} {u:Value} {Q:Unit→Shared→Prop} (I:Inv X pins σ H s) (hN:X.N.Nodup) (hi:X.N[i]? =some x) (hx:Loc X.env.scope x) (r:RelV v u)
  (h:∀ s',Inv X pins (σ.set i (some v)) H s'→(∃ a,Heap.SameBut a s.heap s'.heap∧(a=X.env.locals∨X.env.cells.lookup x=some a))→Q () s') (hf:X.fn x=true∨X.env.scope.names.lookup x=some .local:=by first | exact .inl rfl | exact .inr rfl | assumption):wpAny M A (storeName X.env x u) Q E s:=by
 obtain ⟨m,hn,hl⟩:=id I.loc
 have hcls:(X.env.scope.kind==.class||(X.env.scope.kind==.module&&X.env.locals != X.env.globals))=false:=by rw [I.ok.kind]; rfl
 have hiσ:i < σ.length:=by rw [I.len]; exact (List.getElem?_eq_some_iff.mp hi).1
 have cne:=I.cne
 have tracked:∀ {a:Addr} {h':Heap},(∃ o,s.heap.get? a=some o∧H a=none)→Heap.SameBut a s.heap h'→HOk X.prog X.w H h':=fun {a h'} ha hs b ob e=>by
  obtain ⟨_,_,hfree⟩:=ha
  refine (I.hok b ob e).stay (fun c w' hc q=>(hs.2 c ?_).trans q) (fun _ q=>q) fun _ _ q=>q
  rintro rfl
  rcases hc with rfl | hc
  · rw [hfree] at e; cases e
  · rw [hfree] at hc; cases hc
 rcases hx with hk | hk
 · refine wpAny_storeName_local hk hn (fun h' hn' hs=>?_) hcls
   obtain ⟨oL,_,_,hoL,_⟩:=id hn
   refine h _ ⟨I.ok,I.os,I.bare,⟨fun b o e n hb hx=>?_,fun b o e n hb hx=>?_,I.base.free,fun b o e hx=>?_,I.base.tups,I.base.frzs,I.base.tbls⟩,⟨_,hn',fun j y v' e1 e2 e3=>?_⟩,fun y c e=>?_,I.free,I.freeC,fun p hp=>?_,tracked ⟨oL,hoL,I.free⟩ hs,by simpa using I.len⟩ ⟨_,hs,.inl rfl⟩
   · exact (hs.2 b (Nat.ne_of_lt (Nat.lt_of_lt_of_le (Heap.lt_size e) I.ok.above))).trans (I.base.keep b o e n hb hx)
   · obtain ⟨sl,e1⟩:=I.base.slot b o e n hb hx
     exact ⟨sl,(hs.2 b (Nat.ne_of_lt (Nat.lt_of_lt_of_le (Heap.lt_size e) I.ok.above))).trans e1⟩
   · obtain ⟨o',e1⟩:=I.base.there b o e hx
     exact ⟨o',(hs.2 b (Nat.ne_of_lt (Nat.lt_of_lt_of_le (Heap.lt_size e) I.ok.above))).trans e1⟩
   · by_cases hj:j=i
     · subst hj
       rw [hi] at e1; cases e1
       rw [List.getElem?_set_self hiσ] at e2
       cases e2
       exact ⟨u,r,.inl ⟨hk,by simp⟩⟩
     · rw [List.getElem?_set_ne (Ne.symm hj)] at e2
       obtain ⟨u',r',q⟩:=hl j y v' e1 e2 e3
       refine ⟨u',r',?_⟩
       rcases q with ⟨k,e⟩ | ⟨k,c,e,z⟩
       · refine .inl ⟨k,?_⟩
         have:y≠x:=fun e=>hj (nU hN e1 (e ▸ hi))
         simp [this,e]
       · exact .inr ⟨k,c,e,z.sameBut hs (cne y c e)⟩
   · obtain ⟨w',z⟩:=I.cell y c e
     exact ⟨w',z.sameBut hs (cne y c e)⟩
   · obtain ⟨e,n,ne,nf,d⟩:=I.pin p hp
     exact ⟨(hs.2 p.1 ne).trans e,n,ne,nf,d⟩
 · have hfn:X.fn x=true:=by
    rcases hf with z | z
    · exact z
    · rw [z] at hk; cases hk
   obtain ⟨c,hc⟩:=I.ok.has x (.inl hk)
   obtain ⟨w',z⟩:=I.cell x c hc
   refine wpAny_storeName_cell I.ok.kind hk hc z (fun h' hc' hs=>?_)
   obtain ⟨oc,hoc,hocd⟩:=id z
   refine h { s with heap:=h' } ⟨I.ok,I.os,I.bare,⟨fun b o e n hb hx=>?_,fun b o e n hb hx=>?_,I.base.free,fun b o e hx=>?_,I.base.tups,I.base.frzs,I.base.tbls⟩,⟨m,hn.sameBut hs (Ne.symm (cne x c hc)),fun j y v' e1 e2 e3=>?_⟩,fun y c' e=>?_,I.free,I.freeC,fun p hp=>?_,tracked ⟨oc,hoc,I.freeC x c hc⟩ hs,by simpa using I.len⟩ ⟨c,hs,.inr hc⟩
   · exact (hs.2 b (Nat.ne_of_lt (Nat.lt_of_lt_of_le (Heap.lt_size e) (I.ok.cab x c hfn hc)))).trans (I.base.keep b o e n hb hx)
   · obtain ⟨sl,e1⟩:=I.base.slot b o e n hb hx
     exact ⟨sl,(hs.2 b (Nat.ne_of_lt (Nat.lt_of_lt_of_le (Heap.lt_size e) (I.ok.cab x c hfn hc)))).trans e1⟩
   · obtain ⟨o',e1⟩:=I.base.there b o e hx
     exact ⟨o',(hs.2 b (Nat.ne_of_lt (Nat.lt_of_lt_of_le (Heap.lt_size e) (I.ok.cab x c hfn hc)))).trans e1⟩
   · by_cases hj:j=i
     · subst hj
       rw [hi] at e1; cases e1
       rw [List.getElem?_set_self hiσ] at e2
       cases e2
       exact ⟨u,r,.inr ⟨.inl hk,c,hc,hc'⟩⟩
     · rw [List.getElem?_set_ne (Ne.symm hj)] at e2
       obtain ⟨u',r',q⟩:=hl j y v' e1 e2 e3
       refine ⟨u',r',?_⟩
       rcases q with q | ⟨k,c',e,z'⟩
       · exact .inl q
       · refine .inr ⟨k,c',e,z'.sameBut hs ?_⟩
         rintro rfl
         exact hj (nU hN e1 (I.ok.inj _ _ _ e hc ▸ hi))
   · by_cases hcc:c'=c
     · subst hcc; exact ⟨_,hc'⟩
     · obtain ⟨w2,z2⟩:=I.cell y c' e
       exact ⟨w2,z2.sameBut hs hcc⟩
   · obtain ⟨e,n,ne,nf,d⟩:=I.pin p hp
     refine ⟨(hs.2 p.1 ?_).trans e,n,ne,nf,d⟩
     intro q
     rw [q,hoc] at e
     have q':oc=p.2:=Option.some.inj e
     exact d w' (by rw [← q']; exact hocd)
theorem j3 {M:Model} {A:Around} {E:Value→Shared→Prop} {i:Nat} {x:Str} {v:V} {u:Value} {Q:Unit→Shared→Prop} (I:Inv X pins σ H s) (hN:X.N.Nodup) (hi:X.N[i]? =some x) (hx:Loc X.env.scope x) (r:RelV v u)
  (h:∀ s',Inv X pins (σ.set i (some v)) H s'→Q () s') (hf:X.fn x=true∨X.env.scope.names.lookup x=some .local:=by first | exact .inl rfl | exact .inr rfl | assumption):wpAny M A (storeName X.env x u) Q E s:=
 rb I hN hi hx r (fun s' I' _=>h s' I') hf
theorem Inv.call' {s':Shared} {ch:List Addr} (I:Inv X pins σ H s) (ho:s'.os=s.os) (u:Un (frs X.stack) ch H H' s.heap s'.heap) (hok:HOk X.prog X.w H' s'.heap) (hg:AllBare s'.gens)
  (hch:∀ b∈ch,(b∈X.ex∨X.s₀.heap.objs.size≤b)∧b≠X.env.locals∧(∀ x c,X.env.cells.lookup x=some c→c≠b)∧∀ p∈X.pn++pins,p.1≠b):Inv X pins σ H' s':=by
 obtain ⟨h',g',d',t',o'⟩:=s'
 have e:o'=s.os:=ho
 subst e
 exact I.call (g':=g') (t':=t') (d':=d') u hok hg hch
end
abbrev XK:=Value→Option Addr→Hp→Prop
abbrev St:=List (Option V)
abbrev VK:=V→Hp→Prop
abbrev TE:=St→Hp→VK→Prop
abbrev TT:=St→Hp→(Bool→Hp→Prop)→Prop
abbrev TA:=St→Hp→(List V→Hp→Prop)→Prop
structure Ends where
 nx:St→Hp→Prop
 rt:VK
 bk:St→Hp→Prop:=fun _ _=>False
 ct:St→Hp→Prop:=fun _ _=>False
abbrev TS:=Ends→St→Hp→Prop
def EP (X:Cx) (pins:List (Addr × Obj)) (σ:St) (Q:VK) (u:Value) (s':Shared):Prop:=∃ v H',Inv X pins σ H' s'∧RelV v u∧Q v H'
def TP (X:Cx) (pins:List (Addr × Obj)) (σ:St) (Q:Bool→Hp→Prop) (b:Bool) (s':Shared):Prop:=∃ H',Inv X pins σ H' s'∧Q b H'
def AP (X:Cx) (pins:List (Addr × Obj)) (σ:St) (Q:List V→Hp→Prop) (us:List Value) (s':Shared):Prop:=∃ vs H',Inv X pins σ H' s'∧Vals vs us∧Q vs H'
def SP (X:Cx) (pins:List (Addr × Obj)) (D:Ends) (f:Flow) (s':Shared):Prop:=
 match f with
 | .next=>∃ σ' H',Inv X pins σ' H' s'∧D.nx σ' H'
 | .brk=>∃ σ' H',Inv X pins σ' H' s'∧D.bk σ' H'
 | .cont=>∃ σ' H',Inv X pins σ' H' s'∧D.ct σ' H'
 | .ret u=>∃ v σ' H',Inv X pins σ' H' s'∧RelV v u∧D.rt v H'
def PE (X:Cx) (e:Expr) (t:TE):Prop:=
 ∀ (pins:List (Addr × Obj)) (s:Shared) (σ:St) (H:Hp) (Q:VK),Inv X pins σ H s→t σ H Q→wpAny (model X.prog X.w) X.A (eval e X.env) (EP X pins σ Q) X.xe s
def PT (X:Cx) (e:Expr) (t:TT):Prop:=
 ∀ (pins:List (Addr × Obj)) (s:Shared) (σ:St) (H:Hp) (Q:Bool→Hp→Prop),Inv X pins σ H s→t σ H Q→wpAny (model X.prog X.w) X.A (isTrue e X.env (eval e X.env)) (TP X pins σ Q) X.xe s
def PW (X:Cx) (e:Expr) (t:TT):Prop:=
 ∀ (whole:Sem Value) (pins:List (Addr × Obj)) (s:Shared) (σ:St) (H:Hp) (Q:Bool→Hp→Prop),Inv X pins σ H s→t σ H Q→wpAny (model X.prog X.w) X.A (isTrue e X.env whole) (TP X pins σ Q) X.xe s
theorem PW.pt {X:Cx} {e:Expr} {t:TT} (h:PW X e t):PT X e t:=h _
def PA (X:Cx) (es:List Expr) (t:TA):Prop:=
 ∀ (pos:Pos) (pins:List (Addr × Obj)) (s:Shared) (σ:St) (H:Hp) (Q:List V→Hp→Prop),Inv X pins σ H s→t σ H Q→wpAny (model X.prog X.w) X.A (spliced (backTo pos (starEach es X.env))) (AP X pins σ Q) X.xe s
def PS (X:Cx) (st:Stmt) (t:TS):Prop:=
 ∀ (pins:List (Addr × Obj)) (s:Shared) (σ:St) (H:Hp) (D:Ends),Inv X pins σ H s→t D σ H→wpAny (model X.prog X.w) X.A (exec st X.env) (SP X pins D) X.xe s
def PSs (X:Cx) (st:List Stmt) (t:TS):Prop:=
 ∀ (pins:List (Addr × Obj)) (s:Shared) (σ:St) (H:Hp) (D:Ends),Inv X pins σ H s→t D σ H→wpAny (model X.prog X.w) X.A (execs st X.env) (SP X pins D) X.xe s
theorem thn {α:Type} {t:Sem α} {Q Q':α→Shared→Prop} {M:Model} {A:Around} {E:Value→Shared→Prop} {s:Shared} (h:wpAny M A t Q E s) (hQ:∀ a s,Q a s→Q' a s):wpAny M A t Q' E s:=wpAny_mono h hQ fun _ _ x=>x
end L2
namespace L2
open PySem PySem.Spec PyProof.Rows
section
variable {X:Cx}
def tVar (i:Nat):TE:=fun σ H Q=>∃ v,σ[i]? =some (some v)∧Q v H
def tC (v:V):TE:=fun _ H Q=>Q v H
theorem yP {i:Nat} {x:Str} {pos:Pos} (hN:X.N[i]? =some x) (hv:Vis X.env.scope x) (hd:(x==("__debug__":Str))=false:=by decide) (hcd:(x==("__classdict__":Str))=false:=by decide):PE X (.Name x pos) (tVar i):=by
 intro pins s σ H Q I h
 obtain ⟨v,e,h⟩:=h
 obtain ⟨m,hn,hl⟩:=I.loc
 obtain ⟨u,r,l⟩:=hl i x v hN e hv
 have fin:EP X pins σ Q u s:=⟨v,H,I,r,h⟩
 rcases l with ⟨hk,hm⟩ | ⟨hk,c,hc,hcell⟩
 · exact wpAny_Name (wpAny_loadName_local I.ok.kind hk hn hm fin) hd
 · rcases hk with hk | hk
   · exact wpAny_Name (wpAny_loadName_cell I.ok.kind hk hc hcell fin) hd
   · exact wpAny_Name (wpAny_loadName_free I.ok.kind hk hc hcell fin hcd) hd
theorem af {i j pos}:PE X (.Constant (.int i) j pos) (tC (.int i)):=fun _ _ _ H _ I h=>wpAny_Constant_int ⟨.int i,H,I.tok _,⟨_,rfl⟩,h⟩
theorem fL {b j pos}:PE X (.Constant (.bool b) j pos) (tC (.bl b)):=fun _ _ _ H _ I h=>Constant_bool ⟨.bl b,H,I,rfl,h⟩
theorem kT {j pos}:PE X (.Constant .none j pos) (tC .non):=fun _ _ _ H _ I h=>Constant_none ⟨.non,H,I,rfl,h⟩
theorem aF {x j pos}:PE X (.Constant (.str x) j pos) (tC (.str x)):=fun _ _ _ H _ I h=>Calls.Constant_str ⟨.str x,H,I.tok _,⟨_,rfl⟩,h⟩
def Gl (X:Cx) (x:Str):Prop:=X.env.kindOf x=some .globalImplicit
theorem jO {E:Value→Shared→Prop} {pins:List (Addr × Obj)} {s:Shared} {σ:St} {H:Hp} {x:Str} {u:Value} {pos:Pos} {Q:Value→Shared→Prop} (I:Inv X pins σ H s) (hg:Gl X x) (hm:X.mg x=some u) (h:Q u s)
  (hd:(x==("__debug__":Str))=false:=by decide):wpAny (model X.prog X.w) X.A (eval (.Name x pos) X.env) Q E s:=
 Calls.Name_function_global I.ok.kind hg (Calls.loadGlobal_global (by rw [I.ok.glob]; exact I.mod.glob.keeps I.bk) hm h) hd
theorem cZ {E:Value→Shared→Prop} {pins:List (Addr × Obj)} {s:Shared} {σ:St} {H:Hp} {x:Str} {u:Value} {pos:Pos} {Q:Value→Shared→Prop} (I:Inv X pins σ H s) (hg:Gl X x) (hm:X.mg x=none) (hv:bootBuiltins x=some u) (h:Q u s)
  (hn:x≠"__name__":=by decide) (hd:(x==("__debug__":Str))=false:=by decide):wpAny (model X.prog X.w) X.A (eval (.Name x pos) X.env) Q E s:=by
 obtain ⟨mb,h1,h2⟩:=I.mod.blt
 exact Calls.Name_function_global I.ok.kind hg (Calls.loadGlobal_builtin (by rw [I.ok.glob]; exact I.mod.glob.keeps I.bk) hm (by rw [I.ok.blt]; exact h1.keeps I.bk) ((h2 x hn).trans hv) h) hd
theorem bc {x:Str} {v:V} {u:Value} {pos:Pos} (hg:Gl X x) (hm:X.mg x=some u) (r:RelV v u) (hd:(x==("__debug__":Str))=false:=by decide):PE X (.Name x pos) (tC v):=
 fun _ _ _ H _ I h=>jO I hg hm ⟨v,H,I,r,h⟩ hd
theorem io {x:Str} {v:V} {u:Value} {pos:Pos} (hg:Gl X x) (hm:X.mg x=none) (hv:bootBuiltins x=some u) (r:RelV v u) (hn:x≠"__name__":=by decide) (hd:(x==("__debug__":Str))=false:=by decide):PE X (.Name x pos) (tC v):=
 fun _ _ _ H _ I h=>cZ I hg hm hv ⟨v,H,I,r,h⟩ hn hd
variable {a b:Expr} {ta tb:TE} {pos:Pos}
def tB (t:TE):TT:=fun σ H Q=>t σ H fun x H1=>∃ c,x=.bl c∧Q c H1
theorem bi {e:Expr} {t:TE} (h:PE X e t) (he:∀ whole,isTrue e X.env whole=(do let v ← whole; standAt e.pos; holding [v] (truthy v)):=by intro _; rfl):PT X e (tB t):=by
 intro pins s σ H Q I hw
 refine isTrue_plain (thn (h pins s σ H _ I hw) fun v s1 ⟨x,H1,I1,r1,q1⟩=>?_) (he _)
 obtain ⟨d,rfl,q⟩:=q1
 cases r1
 exact wpAny_truthy_bool ⟨H1,I1,q⟩
variable {tA tB':TT} {rest:List Expr}
def tAnd (t u:TT):TT:=fun σ H Q=>t σ H fun c H1=>if c=true then u σ H1 Q else Q false H1
def tOr (t u:TT):TT:=fun σ H Q=>t σ H fun c H1=>if c=true then Q true H1 else u σ H1 Q
def tNot (t:TT):TT:=fun σ H Q=>t σ H fun c H1=>Q (!c) H1
theorem kU (ha:PT X a tA):PW X (.BoolOp .And [a] pos) tA:=by
 intro wh pins s σ H Q I h
 refine isTrue_and (thn (ha pins s σ H Q I h) fun c s1 e=>?_)
 cases c with
 | true=>exact isTrue_and_nil e
 | false=>exact e
theorem i3 (ha:PT X a tA):PW X (.BoolOp .Or [a] pos) tA:=by
 intro wh pins s σ H Q I h
 refine isTrue_or (thn (ha pins s σ H Q I h) fun c s1 e=>?_)
 cases c with
 | false=>exact isTrue_or_nil e
 | true=>exact e
theorem lZ (ha:PT X a tA) (hb:PW X (.BoolOp .And (b::rest) pos) tB'):PW X (.BoolOp .And (a::b::rest) pos) (tAnd tA tB'):=by
 intro wh pins s σ H Q I h
 refine isTrue_and (thn (ha pins s σ H _ I h) fun c s1 ⟨H1,I1,q1⟩=>?_)
 cases c with
 | true=>exact hb wh pins s1 σ H1 Q I1 q1
 | false=>exact ⟨H1,I1,q1⟩
theorem gn (ha:PT X a tA) (hb:PW X (.BoolOp .Or (b::rest) pos) tB'):PW X (.BoolOp .Or (a::b::rest) pos) (tOr tA tB'):=by
 intro wh pins s σ H Q I h
 refine isTrue_or (thn (ha pins s σ H _ I h) fun c s1 ⟨H1,I1,q1⟩=>?_)
 cases c with
 | true=>exact ⟨H1,I1,q1⟩
 | false=>exact hb wh pins s1 σ H1 Q I1 q1
theorem bz (ha:PT X a tA):PT X (.UnaryOp .Not a pos) (tNot tA):=by
 intro pins s σ H Q I h
 exact isTrue_not (ha pins s σ H (fun c H1=>Q (!c) H1) I h)
def tAndV (ta tb:TE):TE:=fun σ H Q=>ta σ H fun x H1=>∃ c,x=.bl c∧if c=true then tb σ H1 Q else Q (.bl false) H1
def tOrV (ta tb:TE):TE:=fun σ H Q=>ta σ H fun x H1=>∃ c,x=.bl c∧if c=true then Q (.bl true) H1 else tb σ H1 Q
def tNotV (ta:TE):TE:=fun σ H Q=>ta σ H fun x H1=>∃ c,x=.bl c∧Q (.bl (!c)) H1
theorem kW {op} {t:TE} (h:PE X a t):PE X (.BoolOp op [a] pos) t:=fun pins s σ H Q I hw=>BoolOp_one (h pins s σ H Q I hw)
theorem gp (ha:PE X a ta) (hb:PE X (.BoolOp .And (b::rest) pos) tb):PE X (.BoolOp .And (a::b::rest) pos) (tAndV ta tb):=by
 intro pins s σ H Q I h
 refine BoolOp_and (thn (ha pins s σ H _ I h) fun v s1 ⟨x,H1,I1,r1,q1⟩=>?_)
 obtain ⟨c,rfl,q1⟩:=q1
 cases r1
 refine wpAny_truthy_bool ?_
 cases c with
 | true=>exact hb pins s1 σ H1 Q I1 q1
 | false=>exact ⟨.bl false,H1,I1,rfl,q1⟩
theorem sH (ha:PE X a ta):PE X (.UnaryOp .Not a pos) (tNotV ta):=by
 intro pins s σ H Q I h
 refine UnaryOp_ (thn (ha pins s σ H _ I h) fun v s1 ⟨x,H1,I1,r1,q1⟩=>?_)
 obtain ⟨c,rfl,q1⟩:=q1
 cases r1
 exact not_of (wpAny_truthy_bool ⟨.bl (!c),H1,I1,rfl,q1⟩)
def tIf (t:TT) (ta tb:TE):TE:=fun σ H Q=>t σ H fun c H1=>if c=true then ta σ H1 Q else tb σ H1 Q
theorem xn {c:Expr} (hc:PT X c tA) (ha:PE X a ta) (hb:PE X b tb):PE X (.IfExp c a b pos) (tIf tA ta tb):=by
 intro pins s σ H Q I h
 refine wpAny_IfExp (thn (hc pins s σ H _ I h) fun d s1 ⟨H1,I1,q1⟩=>?_)
 cases d with
 | true=>exact ha pins s1 σ H1 Q I1 q1
 | false=>exact hb pins s1 σ H1 Q I1 q1
end
end L2
namespace L2
open PySem PySem.Spec PyProof.Rows
def SqL (K:PySem.W.Frag) (H:Hp) (a:Addr) (xs:List V):Prop:=
 Rd H a (.lst xs)∨
  ∃ (o:Obj) (its:Array Value) (n:Nat),K.lookup a=some o∧o.cls=.type "list"∧o.dict=none∧o.data=.seq its n∧its.size≤sizeLine∧Vals xs its.toList
def SqT (K:PySem.W.Frag) (H:Hp) (a:Addr) (xs:List V):Prop:=
 Rd H a (.tup xs)∨
  ∃ (o:Obj) (its:Array Value) (n:Nat),K.lookup a=some o∧o.cls=.type "tuple"∧o.data=.seq its n∧its.size≤sizeLine∧Vals xs its.toList
def absV:Value→Option V
 | .none=>some .non
 | .bool b=>some (.bl b)
 | .int i _=>some (.int i)
 | .str x _=>some (.str x)
 | .bytes b _=>some (.byt b)
 | .float b _=>some (.flt b)
 | .ref a=>some (.ref a)
 | .type n=>some (.ty n)
 | _=>none
theorem RelV.abs {x:V} {u:Value} (r:RelV x u):absV u=some x:=by
 cases x with
 | non=>cases r; rfl
 | bl _=>cases r; rfl
 | int _=>obtain ⟨t,rfl⟩:=r; rfl
 | str _=>obtain ⟨t,rfl⟩:=r; rfl
 | byt _=>obtain ⟨t,rfl⟩:=r; rfl
 | flt _=>obtain ⟨t,rfl⟩:=r; rfl
 | ref _=>cases r; rfl
 | ty _=>cases r; rfl
theorem RelV.inj {x y:V} {u:Value} (r:RelV x u) (q:RelV y u):x=y:=Option.some.inj (r.abs.symm.trans q.abs)
theorem Vals.inj:∀ {xs ys:List V} {us:List Value},Vals xs us→Vals ys us→xs=ys
 | _,_,_,.nil,.nil=>rfl
 | _,_,_,.cons r t,.cons r' t'=>by rw [r.inj r',Vals.inj t t']
section
variable {X:Cx} {pins:List (Addr × Obj)} {σ:St} {H:Hp} {s:Shared} {a:Addr} {xs ys:List V}
theorem SqL.of {K:PySem.W.Frag} (h:H a=some (.lst xs)):SqL K H a xs:=.inl (.inl h)
theorem SqT.of {K:PySem.W.Frag} (h:H a=some (.tup xs)):SqT K H a xs:=.inl (.inl h)
theorem Inv.list (I:Inv X pins σ H s) (h:SqL X.K H a xs):∃ its:List Value,Vals xs its∧PlainL s.heap a its.toArray∧xs.length≤sizeLine:=by
 rcases h with h | ⟨o,its,n,hk,hc,hd,hs,hz,r⟩
 · obtain ⟨z,its,n,r,e⟩:=h.ok I.hok
   exact ⟨its,r,⟨_,n,e,rfl,rfl,rfl⟩,z⟩
 · refine ⟨its.toList,r,⟨o,n,I.kIn a o hk,hc,hd,by simpa using hs⟩,?_⟩
   have e:=r.length
   simp only [Array.length_toList] at e
   omega
theorem Inv.tuple (I:Inv X pins σ H s) (h:SqT X.K H a xs):∃ its:List Value,Vals xs its∧IsTup s.heap a its.toArray∧xs.length≤sizeLine:=by
 rcases h with h | ⟨o,its,n,hk,hc,hs,hz,r⟩
 · obtain ⟨z,its,r,p⟩:=h.ok I.hok
   exact ⟨its,r,p,z⟩
 · refine ⟨its.toList,r,⟨o,I.kIn a o hk,hc,n,by simpa using hs⟩,?_⟩
   have e:=r.length
   simp only [Array.length_toList] at e
   omega
theorem Inv.list_inj (I:Inv X pins σ H s) (h:SqL X.K H a xs) (h':SqL X.K H a ys):xs=ys:=by
 obtain ⟨its,r,⟨o,n,e,_,_,d⟩,_⟩:=I.list h
 obtain ⟨its',r',⟨o',n',e',_,_,d'⟩,_⟩:=I.list h'
 rw [e] at e'; cases e'
 rw [d] at d'
 injection d' with d1 _
 have:its=its':=by simpa using congrArg Array.toList d1
 subst this
 exact r.inj r'
end
abbrev Cx.wish (X:Cx) (E:Value→Shared→Prop):Cx:={ X with xe:=E }
abbrev Cx.nox (X:Cx):Cx:=X.wish fun _ _=>False
theorem Cx.Ok.wish {X:Cx} (ok:X.Ok) (E:Value→Shared→Prop):(X.wish E).Ok:=
 ⟨ok.mod,ok.kind,ok.glob,ok.blt,ok.above,ok.inj,ok.has,ok.cab,ok.hd,ok.frames,ok.stk,ok.exf,ok.bs,ok.bsz,ok.noex,ok.exfs,ok.funs,ok.frf⟩
theorem Cx.Ok.unwish {X:Cx} {E:Value→Shared→Prop} (ok:(X.wish E).Ok):X.Ok:=
 ⟨ok.mod,ok.kind,ok.glob,ok.blt,ok.above,ok.inj,ok.has,ok.cab,ok.hd,ok.frames,ok.stk,ok.exf,ok.bs,ok.bsz,ok.noex,ok.exfs,ok.funs,ok.frf⟩
section
variable {X:Cx} {pins:List (Addr × Obj)} {σ:St} {H:Hp} {s:Shared} {E:Value→Shared→Prop}
theorem Inv.wish (I:Inv X pins σ H s) (E:Value→Shared→Prop):Inv (X.wish E) pins σ H s:=⟨I.ok.wish E,I.os,I.bare,I.base,I.loc,I.cell,I.free,I.freeC,I.pin,I.hok,I.len⟩
theorem Inv.unwish (I:Inv (X.wish E) pins σ H s):Inv X pins σ H s:=⟨I.ok.unwish,I.os,I.bare,I.base,I.loc,I.cell,I.free,I.freeC,I.pin,I.hok,I.len⟩
theorem SP.unwish {D:Ends} {f:Flow} {s':Shared} (h:SP (X.wish E) pins D f s'):SP X pins D f s':=by
 cases f with
 | next=>obtain ⟨σ',H',I,q⟩:=h; exact ⟨σ',H',I.unwish,q⟩
 | brk=>obtain ⟨σ',H',I,q⟩:=h; exact ⟨σ',H',I.unwish,q⟩
 | cont=>obtain ⟨σ',H',I,q⟩:=h; exact ⟨σ',H',I.unwish,q⟩
 | ret u=>obtain ⟨v,σ',H',I,r,q⟩:=h; exact ⟨v,σ',H',I.unwish,r,q⟩
theorem PSs.nox {st:List Stmt} {t:TS} (h:PSs X.nox st t):PSs X st t:=fun pins s σ H D I hw=>
 wpAny_mono (h pins s σ H D (I.wish _) hw) (fun _ _ q=>q.unwish) fun _ _ z=>False.elim z
end
section
variable {X:Cx} {st:Stmt} {rest:List Stmt} {t u:TS} {e:Expr} {te:TE} {pos:Pos}
def tNext:TS:=fun D σ H=>D.nx σ H
def tSeq (t u:TS):TS:=fun D σ H=>t { D with nx:=u D } σ H
theorem aq:PSs X [] tNext:=fun _ _ σ H _ I h=>wpAny_execs_nil ⟨σ,H,I,h⟩
theorem ad (h1:PS X st t) (h2:PSs X rest u):PSs X (st::rest) (tSeq t u):=by
 intro pins s σ H D I h
 refine wpAny_execs_cons (thn (h1 pins s σ H { D with nx:=u D } I h) fun f s1 q=>?_)
 cases f with
 | next=>
  obtain ⟨σ',H',I',q⟩:=q
  exact h2 pins s1 σ' H' D I' q
 | ret v=>exact q
 | brk=>exact q
 | cont=>exact q
theorem ag (h1:PS X st t):PSs X [st] t:=by
 intro pins s σ H D I h
 refine wpAny_execs_cons (thn (h1 pins s σ H D I h) fun f s1 q=>?_)
 cases f with
 | next=>exact wpAny_execs_nil q
 | ret v=>exact q
 | brk=>exact q
 | cont=>exact q
theorem Inv.quiet {pins:List (Addr × Obj)} {σ:St} {H:Hp} {s:Shared} (I:Inv X pins σ H s):interactive X.env=false:=by simp [interactive,I.ok.kind]
def tDrop (te:TE):TS:=fun D σ H=>te σ H fun _ H1=>D.nx σ H1
theorem gg (he:PE X e te) (hs:swapsWith e none pos.line X.env=pure false:=by rfl):PS X (.Expr e pos) (tDrop te):=by
 intro pins s σ H D I h
 exact wpAny_Expr_any (thn (he pins s σ H _ I h) fun v s1 ⟨x,H1,I1,r1,q1⟩=>⟨σ,H1,I1,q1⟩) I.quiet hs
def tRet (te:TE):TS:=fun D σ H=>te σ H D.rt
theorem ak (he:PE X e te):PS X (.Return (some e) pos) (tRet te):=by
 intro pins s σ H D I h
 exact wpAny_Return_some (thn (he pins s σ H _ I h) fun v s1 ⟨x,H1,I1,r1,q1⟩=>⟨x,σ,H1,I1,r1,q1⟩)
def tRetN:TS:=fun D _ H=>D.rt .non H
def tIfS (c:TT) (t u:TS):TS:=fun D σ H=>c σ H fun b H1=>if b=true then t D σ H1 else u D σ H1
theorem az {c:Expr} {a b:List Stmt} {tc:TT} (hc:PT X c tc) (ha:PSs X a t) (hb:PSs X b u):PS X (.If c a b pos) (tIfS tc t u):=by
 intro pins s σ H D I h
 refine wpAny_If (thn (hc pins s σ H _ I h) fun d s1 ⟨H1,I1,q1⟩=>?_)
 cases d with
 | true=>exact ha pins s1 σ H1 D I1 q1
 | false=>exact hb pins s1 σ H1 D I1 q1
def cu:TS:=fun _ _ _=>False
theorem bA:PS X st cu:=fun _ _ _ _ _ _ h=>h.elim
end
abbrev TG:=V→St→Hp→(St→Hp→Prop)→Prop
abbrev TGs:=List V→St→Hp→(St→Hp→Prop)→Prop
def PG (X:Cx) (target:Expr) (t:TG):Prop:=
 ∀ (pins:List (Addr × Obj)) (s:Shared) (σ:St) (H:Hp) (v:V) (u:Value) (Q:St→Hp→Prop),Inv X pins σ H s→RelV v u→t v σ H Q→
  wpAny (model X.prog X.w) X.A (assign target X.env u) (fun _ s'=>∃ σ' H',Inv X pins σ' H' s'∧Q σ' H') X.xe s
def PGs (X:Cx) (ts:List Expr) (t:TGs):Prop:=
 ∀ (pins:List (Addr × Obj)) (s:Shared) (σ:St) (H:Hp) (vs:List V) (us:List Value) (Q:St→Hp→Prop),Inv X pins σ H s→Vals vs us→t vs σ H Q→
  wpAny (model X.prog X.w) X.A (assignInOrder ((assignEach ts X.env).map (·.2)) us) (fun _ s'=>∃ σ' H',Inv X pins σ' H' s'∧Q σ' H') X.xe s
abbrev TSet:=V→V→V→Hp→(Hp→Prop)→Prop
def PSet (X:Cx) (t:TSet):Prop:=
 ∀ (pins:List (Addr × Obj)) (s:Shared) (σ:St) (H:Hp) (o i v:V) (ov iv u:Value) (Q:Hp→Prop),Inv X pins σ H s→RelV o ov→RelV i iv→RelV v u→t o i v H Q→
  wpAny (model X.prog X.w) X.A (setItem ov iv u) (fun _ s'=>∃ H',Inv X pins σ H' s'∧Q H') X.xe s
section
variable {X:Cx} {pos:Pos}
def gName (i:Nat):TG:=fun v σ H Q=>Q (σ.set i (some v)) H
theorem aC {i:Nat} {x:Str} (hN:X.N.Nodup) (hi:X.N[i]? =some x) (hx:Loc X.env.scope x) (hf:X.fn x=true∨X.env.scope.names.lookup x=some .local:=by first | exact .inl rfl | exact .inr rfl | assumption):PG X (.Name x pos) (gName i):=by
 intro pins s σ H v u Q I r h
 exact wpAny_assign_Name (j3 I hN hi hx r (fun s' I'=>⟨_,H,I',h⟩) hf)
def gNil:TGs:=fun vs σ H Q=>vs=[]∧Q σ H
def gCons (t:TG) (u:TGs):TGs:=fun vs σ H Q=>∃ v r,vs=v::r∧t v σ H fun σ' H'=>u r σ' H' Q
theorem mL:PGs X [] gNil:=by
 intro pins s σ H vs us Q I r h
 obtain ⟨e,h⟩:=h
 subst e
 cases r
 exact assignInOrder_nil ⟨σ,H,I,h⟩
theorem dc {e:Expr} {es:List Expr} {t:TG} {u:TGs} (h1:PG X e t) (h2:PGs X es u)
  (hs:(assignEach (e::es) X.env).map (·.2)=assign e X.env::(assignEach es X.env).map (·.2):=by rfl):PGs X (e::es) (gCons t u):=by
 intro pins s σ H vs us Q I r h
 obtain ⟨v,vr,e1,h⟩:=h
 subst e1
 cases r with
 | cons r rr=>
  rw [hs]
  refine assignInOrder_cons (thn (h1 pins s σ H _ _ _ I r h) fun _ s1 ⟨σ1,H1,I1,q1⟩=>?_)
  exact h2 pins s1 σ1 H1 _ _ Q I1 rr q1
def gTup (K:PySem.W.Frag) (n:Nat) (t:TGs):TG:=fun v σ H Q=>∃ a xs,v=.ref a∧SqT K H a xs∧xs.length=n∧t xs σ H Q
theorem o4 {es:List Expr} {k:Nat} {t:TGs} {n:Nat} (hc:X.calm=true) (h:PGs X es t)
  (hn:(assignEach es X.env).length=n:=by rfl) (hst:(assignEach es X.env).findIdx? (·.1)=none:=by rfl):PG X (.Tuple es k pos) (gTup X.K n t):=by
 intro pins s σ H v u Q I r hw
 obtain ⟨a,xs,e1,hq,hl,hw⟩:=hw
 subst e1
 cases r
 obtain ⟨its,rv,ht,hz⟩:=I.tuple hq
 refine assign_Tuple_tuple (I.ok.hd hc) ht (by simp [hn,← hl,rv.length]) hst fun h' hx=>?_
 have I1:Inv X pins σ H { s with heap:=h' }:=I.kept (t':=s.toks) fun b o e=>hx b o (Nat.ne_of_lt (Heap.lt_size e)) e
 exact h pins _ σ H xs _ Q I1 (by simpa using rv) hw
def gSub (to ti:TE) (t:TSet):TG:=fun v σ H Q=>to σ H fun o H1=>ti σ H1 fun i H2=>t o i v H2 fun H3=>Q σ H3
theorem sI {o i:Expr} {to ti:TE} {t:TSet} (ho:PE X o to) (hi:PE X i ti) (hs:PSet X t)
  (ha:∀ v,assign (.Subscript o i pos) X.env v=(do
   let ov ← holding [v] (eval o X.env)
   let iv ← holding [v,ov] (eval i X.env)
   standAt pos
   holding [v,ov,iv] (setItem ov iv v)
   release [v,ov,iv] []):=by intro _; rfl):PG X (.Subscript o i pos) (gSub to ti t):=by
 intro pins s σ H v u Q I r h
 rw [ha]
 refine wpAny_bind (wpAny_holding (thn (ho pins s σ H _ I h) fun ov s1 ⟨x,H1,I1,r1,q1⟩=>?_))
 refine wpAny_bind (wpAny_holding (thn (hi pins s1 σ H1 _ I1 q1) fun iv s2 ⟨y,H2,I2,r2,q2⟩=>?_))
 refine wpAny_bind (wpAny_standAt (wpAny_bind (wpAny_holding (thn (hs pins s2 σ H2 x y v ov iv u _ I2 r1 r2 r q2) fun _ s3 ⟨H3,I3,q3⟩=>?_))))
 exact wpAny_release ⟨σ,H3,I3,q3⟩
def tAsg (te:TE) (g:TG):TS:=fun D σ H=>te σ H fun x H1=>g x σ H1 D.nx
theorem o5 {tg e:Expr} {te:TE} {g:TG} (he:PE X e te) (hg:PG X tg g) (hs:swapsWithSole [tg] e pos.line X.env=pure false:=by rfl) (hw:swappedStores [tg] e X.env=pure none:=by rfl)
  (h1:(assignEach [tg] X.env).map (·.2)=[assign tg X.env]:=by rfl):PS X (.Assign [tg] e pos) (tAsg te g):=by
 intro pins s σ H D I h
 refine wpAny_Assign_stores (thn (he pins s σ H _ I h) fun v s1 ⟨x,H1,I1,r1,q1⟩=>?_) hs hw
 rw [h1]
 exact thn (hg pins s1 σ H1 x v _ I1 r1 q1) fun _ s2 q=>q
theorem ao {i:Nat} {x:Str} {e:Expr} {te:TE} {pos':Pos} (hN:X.N.Nodup) (hi:X.N[i]? =some x) (hx:Loc X.env.scope x) (he:PE X e te) (hs:swapsWith e (some (.Name x pos')) pos.line X.env=pure false:=by rfl) (hf:X.fn x=true∨X.env.scope.names.lookup x=some .local:=by first | exact .inl rfl | exact .inr rfl | assumption):
  PS X (.Assign [.Name x pos'] e pos) (tAsg te (gName i)):=by
 intro pins s σ H D I h
 refine wpAny_Assign_Name (thn (he pins s σ H _ I h) fun v s1 ⟨y,H1,I1,r1,q1⟩=>?_) hs
 exact j3 I1 hN hi hx r1 (fun s2 I2=>⟨_,H1,I2,q1⟩) hf
def tPar (i j:Nat) (ta:TA):TS:=fun D σ H=>ta σ H fun vs H1=>∃ v w,vs=[v,w]∧D.nx ((σ.set i (some v)).set j (some w)) H1
theorem vZ {i j:Nat} {x y:Str} {a b:Expr} {ta:TA} {px py pt:Pos} {kt k2 pt2} (hc:X.calm=true) (hN:X.N.Nodup) (hi:X.N[i]? =some x) (hj:X.N[j]? =some y) (hij:i≠j)
  (hx:X.env.scope.names.lookup x=some .local) (hy:X.env.scope.names.lookup y=some .local) (ha:PA X [a,b] ta)
  (hw:swappedStores [.Tuple [.Name x px,.Name y py] kt pt] (.Tuple [a,b] k2 pt2) X.env=pure (some [x,y]))
  (hs:swapsWithSole [.Tuple [.Name x px,.Name y py] kt pt] (.Tuple [a,b] k2 pt2) pos.line X.env=pure false:=by rfl):
  PS X (.Assign [.Tuple [.Name x px,.Name y py] kt pt] (.Tuple [a,b] k2 pt2) pos) (tPar i j ta):=by
 intro pins s σ H D I h
 rw [exec_Assign_arm]
 refine wpAny_bind (wpAny_standAt ?_)
 rw [hs]
 refine wpAny_bind (wpAny_pure ?_)
 rw [if_neg (by decide)]
 refine wpAny_bind (Tuple_ (thn (ha _ pins s σ H _ I h) fun us s1 ⟨vs,H1,I1,r1,q1⟩=>?_))
 obtain ⟨v,w,e1,q1⟩:=q1
 subst e1
 obtain ⟨u1,u2,rfl,rv,rw'⟩:∃ u1 u2,us=[u1,u2]∧RelV v u1∧RelV w u2:=by
  cases r1 with
  | cons p q=>
   cases q with
   | cons p' q'=>
    cases q'
    exact ⟨_,_,rfl,p,p'⟩
 refine wpAny_newObj_type ?_ (by show 2≤sizeLine; decide)
 have I2:Inv X pins σ H1 { s1 with heap:=s1.heap.push { cls:=.type "tuple",data:=.seq [u1,u2].toArray } }:=I1.kept (t':=s1.toks) fun b o e=>Heap.get?_push_of_some _ e
 rw [hw]
 refine wpAny_bind (wpAny_pure ?_)
 show wpAny (model X.prog X.w) X.A (do rule "assign.swapped-stores"; let items ← unpackItems (.ref s1.heap.objs.size) 2 none; assignInOrder [fun v=>bindName X.env y v,fun v=>bindName X.env x v] items.reverse; pure Flow.next) _ _ _
 refine wpAny_bind (wpAny_rule (wpAny_bind (unpackItems_tuple (items:=#[u1,u2]) (I.ok.hd hc) (IsTup.new s1.heap _) fun h' hx'=>?_)))
 have I3:=I2.kept (h':=h') (t':=s1.toks) fun b o e=>hx' b o (Nat.ne_of_lt (Heap.lt_size e)) e
 show wpAny _ _ (assignInOrder [fun v=>bindName X.env y v,fun v=>bindName X.env x v] [u2,u1] >>= fun _=>pure Flow.next) _ _ _
 refine wpAny_bind (assignInOrder_cons (wpAny_bindName (j3 I3 hN hj (.inl hy) rw' (fun s2 I4=>?_) (.inr hy))))
 refine assignInOrder_cons (wpAny_bindName (j3 I4 hN hi (.inl hx) rv (fun s3 I5=>assignInOrder_nil (wpAny_pure ?_)) (.inr hx)))
 rw [List.set_comm _ _ (Ne.symm hij)] at I5
 exact ⟨_,H1,I5,q1⟩
end
structure It where
 go:Nat→Hp→Prop
 yld:Nat→Hp→V→Hp→Prop
 stop:Nat→Hp→Prop
def FpOk (X:Cx) (pins:List (Addr × Obj)) (H:Hp) (b:Addr):Prop:=
 H b=none∧b≠X.env.locals∧b∉X.fs∧(b∈X.ex∨X.s₀.heap.objs.size≤b)∧(∀ x c,X.env.cells.lookup x=some c→c≠b)∧∀ p∈X.pn++pins,p.1≠b
theorem Inv.fpOk {X:Cx} {pins:List (Addr × Obj)} {σ:St} {H H':Hp} {s:Shared} {b:Addr} (I:Inv X pins σ H s) (hb:s.heap.objs.size≤b) (hn:H' b=none):FpOk X pins H' b:=by
 refine ⟨hn,Nat.ne_of_gt (Nat.lt_of_lt_of_le I.lt hb),I.nofs hb,.inr (Nat.le_trans I.sz hb),fun x c e z=>?_,fun p hp z=>?_⟩
 · obtain ⟨v,q⟩:=I.cell x c e
   exact absurd (Nat.lt_of_lt_of_le q.lt (by rw [z]; exact hb)) (Nat.lt_irrefl _)
 · exact absurd (Nat.lt_of_lt_of_le (Heap.lt_size (I.pin p hp).1) (by rw [z]; exact hb)) (Nat.lt_irrefl _)
structure Turn (P:Program) (w:World) (K:PySem.W.Frag) (tg:Expr) (J:It) (fp:List Addr) (it:Addr) (tn:Nat→Heap→Prop):Prop where
 mem:it∈fp
 obj:∀ i h,tn i h→∀ b∈fp,∃ o,h.get? b=some o∧∀ v,o.data≠.cell v
 keep:∀ i h h',tn i h→(∀ b∈fp,∀ o,h.get? b=some o→h'.get? b=some o)→tn i h'
 item:∀ (X:Cx),X.prog=P→X.w=w→X.K=K→X.calm=true→∀ (i:Nat) (pins:List (Addr × Obj)) (s:Shared) (σ:St) (H:Hp) (E:Value→Shared→Prop),Inv X pins σ H s→(∀ b∈fp,FpOk X pins H b)→tn i s.heap→J.go i H→
  wpAny (model P w) X.A (pyNext (.ref it)) (fun r s1=>∃ u,r=some u∧
   wpAny (model P w) X.A (letOwnedTupleGo tg (.ref it) u) (fun _ s2=>∃ x H',Inv X pins σ H' s2∧RelV x u∧J.yld i H x H'∧tn (i+1) s2.heap∧∀ b∈fp,H' b=none) E s1) E s
 done:∀ (X:Cx),X.prog=P→X.w=w→X.K=K→X.calm=true→∀ (i:Nat) (pins:List (Addr × Obj)) (s:Shared) (σ:St) (H:Hp) (E:Value→Shared→Prop),Inv X pins σ H s→(∀ b∈fp,FpOk X pins H b)→tn i s.heap→J.stop i H→
  wpAny (model P w) X.A (pyNext (.ref it)) (fun r s1=>r=none∧Inv X pins σ H s1) E s
 self:∀ (A:Around) (i:Nat) (s:Shared) (Q:Value→Shared→Prop) (E:Value→Shared→Prop),tn i s.heap→Q (.ref it) s→wpAny (model P w) A (pyIter (.ref it)) Q E s
abbrev TI:=St→Hp→(It→Hp→Prop)→Prop
def PIE (X:Cx) (pins:List (Addr × Obj)) (σ:St) (tg:Expr) (R:It→Hp→Prop) (itv:Value) (s2:Shared):Prop:=
 ∃ (it:Addr) (fp:List Addr) (tn:Nat→Heap→Prop) (J:It) (H':Hp),itv=.ref it∧Inv X pins σ H' s2∧Turn X.prog X.w X.K tg J fp it tn∧tn 0 s2.heap∧(∀ b∈fp,FpOk X pins H' b)∧R J H'
def PI (X:Cx) (tg iter:Expr) (wi:TI):Prop:=
 ∀ (pins:List (Addr × Obj)) (s:Shared) (σ:St) (H:Hp) (R:It→Hp→Prop),Inv X pins σ H s→wi σ H R→
  wpAny (model X.prog X.w) X.A (eval iter X.env) (fun v s1=>wpAny (model X.prog X.w) X.A (pyIter v) (PIE X pins σ tg R) X.xe s1) X.xe s
theorem uZ {M:Model} {A:Around} {E:Value→Shared→Prop} {s:Shared} {tg:Expr} {it:Addr} {u:Value} {o:Obj} {n:String} {vs:Array Value} {Q:Unit→Shared→Prop} (ho:s.heap.get? it=some o) (hc:o.cls=.type n) (hd:o.data=.fields vs)
  (hn:["enumerate","zip","dict_itemiterator","dict_reverseitemiterator","odict_iterator","itertools.zip_longest","itertools.pairwise"].contains n=false) (hQ:Q () s):wpAny M A (letOwnedTupleGo tg (.ref it) u) Q E s:=by
 unfold letOwnedTupleGo
 cases tg <;> first
  | exact wpAny_pure hQ
  | (cases u <;> first
    | exact wpAny_pure hQ
    | (refine wpAny_bind (wpAny_load ho ?_)
       rw [hc,hd]
       show wpAny M A (if (["enumerate","zip","dict_itemiterator","dict_reverseitemiterator","odict_iterator","itertools.zip_longest","itertools.pairwise"].contains n&&vs[0]? ==some (rawInt _))=true then _ else _) Q E s
       rw [if_neg (by intro h; rw [hn,Bool.false_and] at h; cases h)]
       exact wpAny_pure hQ))
def Itl (K:PySem.W.Frag) (a:Addr):It:=
 ⟨fun i H=>∃ xs x,SqL K H a xs∧xs[i]? =some x,fun i H x H'=>H'=H∧∀ xs,SqL K H a xs→xs[i]? =some x,fun i H=>∃ xs,SqL K H a xs∧xs.length≤i⟩
def Itr (lo:Int) (n:Nat):It:=⟨fun i _=>i < n,fun i H x H'=>H'=H∧x=.int (lo+i),fun i _=>n≤i⟩
theorem v6 {P:Program} {w:World} {K:PySem.W.Frag} {tg:Expr} (a it:Addr):Turn P w K tg (Itl K a) [it] it (fun i h=>h.IsListIter it a i) where
 mem:=by simp
 obj:=fun i h st b hb=>by
  have e:b=it:=by simpa using hb
  subst e
  obtain ⟨o,e,c,d⟩:=st
  exact ⟨o,e,fun v z=>by rw [d] at z; cases z⟩
 keep:=fun i h h' st k=>st.at fun o e=>k it (by simp) o e
 item:=by
  intro X hP hw hK hc i pins s σ H E I hf st hg
  subst hP hw hK
  obtain ⟨xs,x,hq,hx⟩:=hg
  obtain ⟨its,rv,p,hz⟩:=I.list hq
  obtain ⟨u,hu,ru⟩:=rv.get hx
  obtain ⟨f0,f1,f2,f3,f4,f5⟩:=hf it (by simp)
  refine wpAny_pyNext_list_item st p.isList (x:=u) (by simpa using hu) fun h' st' sb=>?_
  have I1:Inv X pins σ H { s with heap:=h' }:=I.turned (t':=s.toks) (fun b o hb e=>(sb.2 b hb).trans e) f0 f1 f3 f4 f5
  obtain ⟨o,e,c,d⟩:=id st'
  exact ⟨u,rfl,uZ (s:={ s with heap:=h' }) e c d (by decide) ⟨x,H,I1,ru,⟨rfl,fun ys hy=>by rw [I.list_inj hy hq]; exact hx⟩,st',fun b hb=>(hf b hb).1⟩⟩
 done:=by
  intro X hP hw hK hc i pins s σ H E I hf st hg
  subst hP hw hK
  obtain ⟨xs,hq,hx⟩:=hg
  obtain ⟨its,rv,p,hz⟩:=I.list hq
  obtain ⟨f0,f1,f2,f3,f4,f5⟩:=hf it (by simp)
  have hl:=rv.length
  exact wpAny_pyNext_list_end (I.ok.hd hc) st p.isList (by simp; omega) fun h' eb=>⟨rfl,I.turned (t':=s.toks) (fun b o hb e=>eb b o hb e) f0 f1 f3 f4 f5⟩
 self:=fun _ _ _ _ _ st h=>wpAny_pyIter_listiter st h
theorem u6 {P:Program} {w:World} {K:PySem.W.Frag} {tg:Expr} (it:Addr) (lo:Int) (n:Nat):Turn P w K tg (Itr lo n) [it] it (fun i h=>IsRangeIter h it (lo+(i:Nat)*1) ((n:Int) - (i:Nat)) 1) where
 mem:=by simp
 obj:=fun i h st b hb=>by
  have e:b=it:=by simpa using hb
  subst e
  exact ⟨_,st,fun v z=>by
   have z':Data.fields _=Data.cell v:=z
   cases z'⟩
 keep:=fun i h h' st k=>k it (by simp) _ st
 item:=by
  intro X hP hw hK hc i pins s σ H E I hf st hg
  subst hP hw hK
  obtain ⟨f0,f1,f2,f3,f4,f5⟩:=hf it (by simp)
  have W:=Walks.range (prog:=X.prog) (w:=X.w) (I.ok.hd hc) it lo 1 n
  refine W.item i s _ _ hg st fun v h' tk hv st' kk=>?_
  obtain ⟨t,rfl⟩:=hv
  have I1:Inv X pins σ H { s with heap:=h',toks:=tk }:=I.turned (fun b o hb e=>kk b o (by simpa using hb) e) f0 f1 f3 f4 f5
  refine ⟨_,rfl,uZ (s:={ s with heap:=h',toks:=tk }) (n:="range_iterator") st' rfl rfl (by decide) ⟨.int (lo+i),H,I1,⟨t,?_⟩,⟨rfl,rfl⟩,st',fun b hb=>(hf b hb).1⟩⟩
  rw [Int.mul_one]
 done:=by
  intro X hP hw hK hc i pins s σ H E I hf st hg
  subst hP hw hK
  obtain ⟨f0,f1,f2,f3,f4,f5⟩:=hf it (by simp)
  exact wpAny_pyNext_range_end (I.ok.hd hc) st (by have:n≤i:=hg; omega) fun h' eb=>⟨rfl,I.turned (t':=s.toks) (fun b o hb e=>eb b o hb e) f0 f1 f3 f4 f5⟩
 self:=fun _ _ _ _ _ st h=>wpAny_pyIter_rangeiter st h
end L2
namespace L2
open PySem PySem.Spec PyProof.Rows
section
variable {X:Cx} {tg:Expr}
def iList (K:PySem.W.Frag) (tl:TE):TI:=fun σ H R=>tl σ H fun x H1=>∃ a,x=.ref a∧(∃ xs,SqL K H1 a xs)∧R (Itl K a) H1
theorem bp {l:Expr} {tl:TE} (hl:PE X l tl):PI X tg l (iList X.K tl):=by
 intro pins s σ H R I h
 refine thn (hl pins s σ H _ I h) fun v s1 ⟨x,H1,I1,r1,q1⟩=>?_
 obtain ⟨a,e,⟨xs,hq⟩,q⟩:=q1
 subst e
 cases r1
 obtain ⟨its,rv,p,hz⟩:=I1.list hq
 refine wpAny_pyIter_list p.isList ?_
 refine ⟨s1.heap.objs.size,[s1.heap.objs.size],_,_,H1,rfl,I1.kept (t':=s1.toks) fun b o e=>Heap.get?_push_of_some _ e,v6 a _,⟨_,Heap.get?_push_size _ rfl,rfl,rfl⟩,fun b hb=>?_,q⟩
 have e:b=s1.heap.objs.size:=by simpa using hb
 subst e
 exact I1.fpOk (Nat.le_refl _) (I1.hok.fresh (Nat.le_refl _))
theorem sJ {pins:List (Addr × Obj)} {σ:St} {H:Hp} {s:Shared} {R:It→Hp→Prop} {E:Value→Shared→Prop} {lo hi:Int} {t u v:Tok} {tk:Nat} (I:Inv X pins σ H s) (h1: -(2^62)≤lo) (h2:lo < 2^62) (h3: -(2^62)≤hi) (h4:hi < 2^62)
  (q:R (Itr lo (hi - lo).toNat) H):wpAny (model X.prog X.w) X.A (pyIter (.ref s.heap.objs.size)) (PIE X pins σ tg R) E { s with heap:=s.heap.push { cls:=.type "range",data:=.fields #[.int lo t,.int hi u,.int 1 v] },toks:=tk }:=by
 refine wpAny_pyIter_range (IsRange.new ..) (small_one h1 h2 h3 h4) ?_
 have I1:Inv X pins σ H { s with heap:=s.heap.push { cls:=.type "range",data:=.fields #[.int lo t,.int hi u,.int 1 v] },toks:=tk }:=I.kept fun b o e=>Heap.get?_push_of_some _ e
 refine ⟨(s.heap.push { cls:=.type "range",data:=.fields #[.int lo t,.int hi u,.int 1 v] }).objs.size,[(s.heap.push { cls:=.type "range",data:=.fields #[.int lo t,.int hi u,.int 1 v] }).objs.size],_,_,H,rfl,
  I1.kept (t':=tk) fun b o e=>Heap.get?_push_of_some _ e,u6 _ lo (hi - lo).toNat,?_,fun b hb=>?_,q⟩
 · have e1:lo+((0:Nat):Int)*1=lo:=by simp
   have e2:(((hi - lo).toNat:Nat):Int) - ((0:Nat):Int)=Builtin.Range.rangeSize lo hi 1:=by rw [rangeSize_one]; split <;> omega
   show IsRangeIter _ _ (lo+((0:Nat):Int)*1) ((((hi - lo).toNat:Nat):Int) - ((0:Nat):Int)) 1
   rw [e1,e2]
   exact Heap.get?_push_size _ rfl
 · have e:b=(s.heap.push { cls:=.type "range",data:=.fields #[.int lo t,.int hi u,.int 1 v] }).objs.size:=by simpa using hb
   subst e
   exact I1.fpOk (Nat.le_refl _) (I1.hok.fresh (Nat.le_refl _))
def ee (ta:TA):TI:=fun σ H R=>ta σ H fun vs H1=>∃ j:Int,vs=[.int j]∧ -(2^62)≤j∧j < 2^62∧R (Itr 0 j.toNat) H1
def o6 (ta:TA):TI:=fun σ H R=>ta σ H fun vs H1=>∃ i j:Int,vs=[.int i,.int j]∧(-(2^62)≤i∧i < 2^62∧ -(2^62)≤j∧j < 2^62)∧R (Itr i (j - i).toNat) H1
theorem cJ {a:Expr} {ta:TA} {p pos:Pos} (hg:Gl X "range") (hm:X.mg "range"=none) (ha:PA X [a] ta) (hs:starEach [a] X.env=[(false,eval a X.env)]:=by rfl):PI X tg (.Call (.Name "range" p) [a] [] pos) (ee ta):=by
 intro pins s σ H R I h
 refine Call_ (cZ I hg hm boot_range (PyProof.Rows.callWith_type1 (thn (ha pos pins s σ H _ I h) fun us s1 ⟨vs,H1,I1,r1,q1⟩=>?_) hs rfl))
 obtain ⟨j,e,q1,q2,q⟩:=q1
 subst e
 cases r1 with
 | cons r rr=>
  cases rr
  obtain ⟨t,rfl⟩:=r
  exact call_range_1 (sJ I1 (by omega) (by omega) q1 q2 (by simpa using q))
theorem wa {a b:Expr} {ta:TA} {p pos:Pos} (hg:Gl X "range") (hm:X.mg "range"=none) (ha:PA X [a,b] ta) (hs:starEach [a,b] X.env=[(false,eval a X.env),(false,eval b X.env)]:=by rfl) (hs2:starEach [b] X.env=[(false,eval b X.env)]:=by rfl):
  PI X tg (.Call (.Name "range" p) [a,b] [] pos) (o6 ta):=by
 intro pins s σ H R I h
 refine Call_ (cZ I hg hm boot_range (PyProof.Rows.callWith_type1 (thn (ha pos pins s σ H _ I h) fun us s1 ⟨vs,H1,I1,r1,q1⟩=>?_) (by rw [hs,hs2]) (by rw [hs2]; rfl)))
 obtain ⟨i,j,e,⟨q1,q2,q3,q4⟩,q⟩:=q1
 subst e
 cases r1 with
 | cons r rr=>
  cases rr with
  | cons r' rr=>
   cases rr
   obtain ⟨t,rfl⟩:=r
   obtain ⟨t',rfl⟩:=r'
   exact call_range_2 (sJ I1 q1 q2 q3 q4 q)
def tFor (wi:TI) (g:TG) (tb:TS):TS:=fun D σ H=>wi σ H fun J H1=>∃ W:Nat→Nat→St→Hp→Prop,(∃ m,W 0 m σ H1)∧∀ i m σ H,W i m σ H→
 (J.stop i H∧D.nx σ H)∨(J.go i H∧∃ N:St→Hp→Prop,(∀ σ' H',N σ' H'→∃ m',m' < m∧W (i+1) m' σ' H')∧∀ x H',J.yld i H x H'→g x σ H' fun σ2 H2=>tb { D with nx:=N,ct:=N,bk:=D.nx } σ2 H2)
def l0 (fp:List Addr) (h:Heap):List (Addr × Obj):=fp.filterMap fun b=>(h.get? b).map fun o=>(b,o)
theorem jn {fp:List Addr} {h:Heap} {b:Addr} {o:Obj} (hb:b∈fp) (e:h.get? b=some o):(b,o)∈l0 fp h:=List.mem_filterMap.mpr ⟨b,hb,by rw [e]; rfl⟩
theorem wb {fp:List Addr} {h:Heap} {p:Addr × Obj} (hp:p∈l0 fp h):p.1∈fp∧h.get? p.1=some p.2:=by
 obtain ⟨b,hb,e⟩:=List.mem_filterMap.mp hp
 cases q:h.get? b with
 | none=>rw [q] at e; cases e
 | some o=>
  rw [q] at e
  have e':(b,o)=p:=Option.some.inj e
  subst e'
  exact ⟨hb,q⟩
theorem Inv.pinned {pins:List (Addr × Obj)} {σ:St} {H:Hp} {s:Shared} {fp:List Addr} (I:Inv X pins σ H s) (hf:∀ b∈fp,FpOk X pins H b) (ho:∀ b∈fp,∃ o,s.heap.get? b=some o∧∀ v,o.data≠.cell v):Inv X (pins++l0 fp s.heap) σ H s:=
 I.pins_of fun p hp=>(List.mem_append.mp hp).elim (fun z=>I.pin p (List.mem_append_right _ z)) fun z=>by
  obtain ⟨hb,e⟩:=wb z
  obtain ⟨f0,f1,f2,_⟩:=hf p.1 hb
  obtain ⟨o,e',d⟩:=ho p.1 hb
  rw [e] at e'; cases e'
  exact ⟨e,f0,f1,f2,d⟩
theorem Inv.unpinned {pins pl:List (Addr × Obj)} {σ:St} {H:Hp} {s:Shared} (I:Inv X (pins++pl) σ H s):Inv X pins σ H s:=I.pins_of fun p hp=>I.pin p (List.mem_append_right _ (List.mem_append_left _ hp))
theorem fB {iter:Expr} {body:List Stmt} {wi:TI} {g:TG} {tb:TS} {pos:Pos} (hp:PassesOwn (model X.prog X.w) X.A X.env X.xe) (hc:X.calm=true) (hi:PI X tg iter wi) (hg:PG X tg g) (hb:PSs X body tb)
  (hs:∀ x,foldedSetIterable iter X.env x=pure x:=by intro _; rfl):PS X (.For tg iter body [] pos) (tFor wi g tb):=by
 intro pins s σ H D I h
 refine wpAny_For (thn (hi pins s σ H _ I h) fun v s1 h1=>thn h1 fun itv s2 h2=>?_) hs
 obtain ⟨it,fp,tn,J,H2,e,I2,T,st2,f2,W,⟨m0,w0⟩,turn⟩:=h2
 subst e
 have stat:∀ {H':Hp},(∀ b∈fp,H' b=none)→∀ b∈fp,FpOk X pins H' b:=fun hn b hb=>⟨hn b hb,(f2 b hb).2⟩
 refine codeAny_forLoop_any (fun n s'=>∃ i σ' H',Inv X pins σ' H' s'∧tn i s'.heap∧(∀ b∈fp,H' b=none)∧W i n σ' H') ?_ m0 ⟨0,σ,H2,I2,st2,fun b hb=>(f2 b hb).1,w0⟩
 rintro n s3 ⟨i,σ3,H3,I3,st3,fr3,w3⟩
 rcases turn i n σ3 H3 w3 with ⟨stop,qn⟩ | ⟨go,N,hN,step⟩
 · refine wpAny_passesOwn hp (thn (T.done X rfl rfl rfl hc i pins s3 σ3 H3 X.xe I3 (stat fr3) st3 stop) fun r s4 ⟨hr,I4⟩=>?_)
   subst hr
   exact wpAny_execs_nil ⟨σ3,H3,I4,qn⟩
 · refine wpAny_passesOwn hp (thn (T.item X rfl rfl rfl hc i pins s3 σ3 H3 X.xe I3 (stat fr3) st3 go) fun r s4 ⟨u,hr,h4⟩=>?_)
   subst hr
   refine wpAny_passesOwn hp (thn h4 fun _ s5 ⟨x,H5,I5,r5,y5,st5,fr5⟩=>?_)
   have I5':=I5.pinned (stat fr5) (T.obj _ _ st5)
   refine wpAny_passesOwn hp (thn (hg _ s5 σ3 H5 x u _ I5' r5 (step x H5 y5)) fun _ s6 ⟨σ6,H6,I6,q6⟩=>?_)
   refine wpAny_passesOwn hp (thn (hb _ s6 σ6 H6 _ I6 q6) fun f s7 q7=>?_)
   have again:∀ {σ7:St} {H7:Hp},Inv X (pins++l0 fp s5.heap) σ7 H7 s7→N σ7 H7→∃ m,m < n∧∃ i σ' H',Inv X pins σ' H' s7∧tn i s7.heap∧(∀ b∈fp,H' b=none)∧W i m σ' H':=fun {σ7 H7} I7 n7=>by
    obtain ⟨m',hm,w7⟩:=hN σ7 H7 n7
    refine ⟨m',hm,i+1,σ7,H7,I7.unpinned,T.keep _ _ _ st5 fun b hb o e=>(I7.pin (b,o) (List.mem_append_right _ (List.mem_append_right _ (jn hb e)))).1,fun b hb=>?_,w7⟩
    obtain ⟨o,e,d⟩:=T.obj _ _ st5 b hb
    exact (I7.pin (b,o) (List.mem_append_right _ (List.mem_append_right _ (jn hb e)))).2.1
   cases f with
   | next=>obtain ⟨σ7,H7,I7,n7⟩:=q7; exact again I7 n7
   | cont=>obtain ⟨σ7,H7,I7,n7⟩:=q7; exact again I7 n7
   | brk=>obtain ⟨σ7,H7,I7,q7⟩:=q7; exact ⟨σ7,H7,I7.unpinned,q7⟩
   | ret v=>obtain ⟨x7,σ7,H7,I7,r7,q7⟩:=q7; exact ⟨x7,σ7,H7,I7.unpinned,r7,q7⟩
end
theorem xo {K:PySem.W.Frag} {a:Addr} {xs:List V} {g:TG} {tb:TS} {D:Ends} {σ:St} {H:Hp} (Pv:Nat→St→Hp→Prop) (h0:Pv 0 σ H) (hl:∀ i σ H,i≤xs.length→Pv i σ H→SqL K H a xs)
  (hs:∀ i x σ H,xs[i]? =some x→Pv i σ H→g x σ H fun σ2 H2=>tb { D with nx:=Pv (i+1),ct:=Pv (i+1),bk:=D.nx } σ2 H2) (hd:∀ σ H,Pv xs.length σ H→D.nx σ H):
  ∃ W:Nat→Nat→St→Hp→Prop,(∃ m,W 0 m σ H)∧∀ i m σ H,W i m σ H→
   ((Itl K a).stop i H∧D.nx σ H)∨((Itl K a).go i H∧∃ N:St→Hp→Prop,(∀ σ' H',N σ' H'→∃ m',m' < m∧W (i+1) m' σ' H')∧∀ x H',(Itl K a).yld i H x H'→g x σ H' fun σ2 H2=>tb { D with nx:=N,ct:=N,bk:=D.nx } σ2 H2):=by
 refine ⟨fun i m σ H=>m=xs.length - i∧i≤xs.length∧Pv i σ H,⟨xs.length,by simp,Nat.zero_le _,h0⟩,?_⟩
 rintro i m σ H ⟨rfl,hi,p⟩
 have q:=hl i σ H hi p
 by_cases hlt:i < xs.length
 · refine .inr ⟨⟨xs,xs[i],q,by simp [hlt]⟩,Pv (i+1),fun σ' H' p'=>⟨xs.length - (i+1),by omega,rfl,hlt,p'⟩,fun x H' y=>?_⟩
   obtain ⟨e,y⟩:=y
   subst e
   exact hs i x σ _ (y xs q) p
 · have e:i=xs.length:=by omega
   subst e
   exact .inl ⟨⟨xs,q,Nat.le_refl _⟩,hd σ H p⟩
theorem d6 {lo:Int} {n:Nat} {g:TG} {tb:TS} {D:Ends} {σ:St} {H:Hp} (Pv:Nat→St→Hp→Prop) (h0:Pv 0 σ H)
  (hs:∀ i σ H,i < n→Pv i σ H→g (.int (lo+i)) σ H fun σ2 H2=>tb { D with nx:=Pv (i+1),ct:=Pv (i+1),bk:=D.nx } σ2 H2) (hd:∀ σ H,Pv n σ H→D.nx σ H):
  ∃ W:Nat→Nat→St→Hp→Prop,(∃ m,W 0 m σ H)∧∀ i m σ H,W i m σ H→
   ((Itr lo n).stop i H∧D.nx σ H)∨((Itr lo n).go i H∧∃ N:St→Hp→Prop,(∀ σ' H',N σ' H'→∃ m',m' < m∧W (i+1) m' σ' H')∧∀ x H',(Itr lo n).yld i H x H'→g x σ H' fun σ2 H2=>tb { D with nx:=N,ct:=N,bk:=D.nx } σ2 H2):=by
 refine ⟨fun i m σ H=>m=n - i∧i≤n∧Pv i σ H,⟨n,by simp,Nat.zero_le _,h0⟩,?_⟩
 rintro i m σ H ⟨rfl,hi,p⟩
 by_cases hlt:i < n
 · refine .inr ⟨hlt,Pv (i+1),fun σ' H' p'=>⟨n - (i+1),by omega,rfl,hlt,p'⟩,fun x H' y=>?_⟩
   obtain ⟨e,y⟩:=y
   subst e y
   exact hs i σ _ hlt p
 · have e:i=n:=by omega
   subst e
   exact .inl ⟨Nat.le_refl _,hd σ H p⟩
end L2
namespace L2
open PySem PySem.Spec PyProof.Rows
abbrev R2:=V→V→Hp→VK→Prop
def OpR (X:Cx) (f:Value→Value→Sem Value) (r:R2):Prop:=
 ∀ (pins:List (Addr × Obj)) (s:Shared) (σ:St) (H:Hp) (x y:V) (v u:Value) (Q:VK),Inv X pins σ H s→RelV x v→RelV y u→r x y H Q→
  wpAny (model X.prog X.w) X.A (f v u) (EP X pins σ Q) X.xe s
def UnR (X:Cx) (f:Value→Sem Value) (r:V→Hp→VK→Prop):Prop:=
 ∀ (pins:List (Addr × Obj)) (s:Shared) (σ:St) (H:Hp) (x:V) (v:Value) (Q:VK),Inv X pins σ H s→RelV x v→r x H Q→
  wpAny (model X.prog X.w) X.A (f v) (EP X pins σ Q) X.xe s
def CallR (X:Cx) (f:Value) (r:List V→Hp→VK→Prop):Prop:=
 ∀ (pins:List (Addr × Obj)) (s:Shared) (σ:St) (H:Hp) (xs:List V) (us:List Value) (Q:VK),Inv X pins σ H s→Vals xs us→r xs H Q→
  wpAny (model X.prog X.w) X.A (call f us) (EP X pins σ Q) X.xe s
def tOp (r:R2) (ta tb:TE):TE:=fun σ H Q=>ta σ H fun x H1=>tb σ H1 fun y H2=>r x y H2 Q
def tUn (r:V→Hp→VK→Prop) (ta:TE):TE:=fun σ H Q=>ta σ H fun x H1=>r x H1 Q
def rI (C:Int→Int→Prop) (g:Int→Int→V):R2:=fun x y H Q=>∃ i j,x=.int i∧y=.int j∧C i j∧Q (g i j) H
def rI0 (g:Int→Int→V):R2:=fun x y H Q=>∃ i j,x=.int i∧y=.int j∧Q (g i j) H
def rU (g:Int→V):V→Hp→VK→Prop:=fun x H Q=>∃ i,x=.int i∧Q (g i) H
section
variable {X:Cx} {a b c:Expr} {ta tb tc:TE} {pos:Pos}
theorem binT (ha:PE X a ta) (hb:PE X b tb) {pins:List (Addr × Obj)} {s:Shared} {σ:St} {H:Hp} {R:V→V→Hp→Prop} (I:Inv X pins σ H s)
  (h:ta σ H fun x H1=>tb σ H1 fun y H2=>R x y H2) {Q:Value→Shared→Prop} {f:Value→Value→Sem Value}
  (hf:∀ v u s2 x y H2,Inv X pins σ H2 s2→RelV x v→RelV y u→R x y H2→wpAny (model X.prog X.w) X.A (f v u) Q X.xe s2):
  wpAny (model X.prog X.w) X.A (eval a X.env) (fun v s₁=>wpAny (model X.prog X.w) X.A (eval b X.env) (fun u s₂=>wpAny (model X.prog X.w) X.A (f v u) Q X.xe s₂) X.xe s₁) X.xe s:=by
 refine thn (ha pins s σ H _ I h) fun v s1 ⟨x,H1,I1,r1,q1⟩=>?_
 refine thn (hb pins s1 σ H1 _ I1 q1) fun u s2 ⟨y,H2,I2,r2,q2⟩=>?_
 exact hf v u s2 x y H2 I2 r1 r2 q2
theorem aj {op:Operator} {r:R2} (ho:OpR X (binaryOp op) r) (ha:PE X a ta) (hb:PE X b tb):PE X (.BinOp a op b pos) (tOp r ta tb):=by
 intro pins s σ H Q I h
 exact wpAny_BinOp (binT ha hb I h fun v u s2 x y H2 I2 rx ry q=>ho pins s2 σ H2 x y v u Q I2 rx ry q)
theorem zM {op:UnaryOp} {r:V→Hp→VK→Prop} (ho:UnR X (unaryOp op) r) (ha:PE X a ta):PE X (.UnaryOp op a pos) (tUn r ta):=by
 intro pins s σ H Q I h
 exact UnaryOp_ (thn (ha pins s σ H _ I h) fun v s1 ⟨x,H1,I1,r1,q1⟩=>ho pins s1 σ H1 x v Q I1 r1 q1)
theorem opI {f:Value→Value→Sem Value} {C:Int→Int→Prop} {g:Int→Int→Int}
  (rule:∀ (i j:Int) (t u:Tok) (s:Shared) (Q:Value→Shared→Prop) (E:Value→Shared→Prop),C i j→Q (.int (g i j) s.toks) { s with toks:=s.toks+1 }→wpAny (model X.prog X.w) X.A (f (.int i t) (.int j u)) Q E s):
  OpR X f (rI C fun i j=>.int (g i j)):=by
 intro pins s σ H x y v u Q I rx ry h
 obtain ⟨i,j,rfl,rfl,hc,q⟩:=h
 obtain ⟨t,rfl⟩:=rx
 obtain ⟨t',rfl⟩:=ry
 exact rule i j t t' s _ _ hc ⟨.int (g i j),H,I.tok _,⟨_,rfl⟩,q⟩
theorem yQ {f:Value→Value→Sem Value} {g:Int→Int→Int}
  (rule:∀ (i j:Int) (t u:Tok) (s:Shared) (Q:Value→Shared→Prop) (E:Value→Shared→Prop),Q (.int (g i j) s.toks) { s with toks:=s.toks+1 }→wpAny (model X.prog X.w) X.A (f (.int i t) (.int j u)) Q E s):
  OpR X f (rI0 fun i j=>.int (g i j)):=by
 intro pins s σ H x y v u Q I rx ry h
 obtain ⟨i,j,rfl,rfl,q⟩:=h
 obtain ⟨t,rfl⟩:=rx
 obtain ⟨t',rfl⟩:=ry
 exact rule i j t t' s _ _ ⟨.int (g i j),H,I.tok _,⟨_,rfl⟩,q⟩
theorem u7 {f:Value→Value→Sem Value} {g:Int→Int→Bool}
  (rule:∀ (i j:Int) (t u:Tok) (s:Shared) (Q:Value→Shared→Prop) (E:Value→Shared→Prop),Q (.bool (g i j)) s→wpAny (model X.prog X.w) X.A (f (.int i t) (.int j u)) Q E s):
  OpR X f (rI0 fun i j=>.bl (g i j)):=by
 intro pins s σ H x y v u Q I rx ry h
 obtain ⟨i,j,rfl,rfl,q⟩:=h
 obtain ⟨t,rfl⟩:=rx
 obtain ⟨t',rfl⟩:=ry
 exact rule i j t t' s _ _ ⟨.bl (g i j),H,I,rfl,q⟩
def CDiv (i j:Int):Prop:=0 < j∧j < 1073741824
def CPow (i j:Int):Prop:=0≤j∧j≤1000000∧i.natAbs < 2^64
def CMul (i j:Int):Prop:=(-(2^64) < i∧i < 2^64)∨(-(2^64) < j∧j < 2^64)
theorem CMul.ok {i j:Int} (h:CMul i j):IntMulOk i j:=by
 rcases h with ⟨h1,h2⟩ | ⟨h1,h2⟩
 · exact .of_left (intBits_le_64 h1 h2)
 · exact .of_right (intBits_le_64 h1 h2)
theorem yR:OpR X (binaryOp .Add) (rI0 fun i j=>.int (i+j)):=yQ fun _ _ _ _ _ _ _ q=>add_int q
theorem yS:OpR X (binaryOp .Sub) (rI0 fun i j=>.int (i - j)):=yQ fun _ _ _ _ _ _ _ q=>sub_int q
theorem yT:OpR X (binaryOp .Mult) (rI CMul fun i j=>.int (i*j)):=opI fun _ _ _ _ _ _ _ hc q=>mul_int q hc.ok
theorem yb:OpR X (binaryOp .FloorDiv) (rI CDiv fun i j=>.int (i / j)):=opI fun i j _ _ _ _ _ hc q=>by
 have h1:(0:Int) < j:=hc.1
 have h2:j < 1073741824:=hc.2
 exact floordiv_int (by omega) (by rw [Int.fdiv_eq_ediv_of_nonneg i (by omega)]; exact q) (.inl (PyProof.noPylong_small (by omega)))
theorem yU:OpR X (binaryOp .Mod) (rI (fun _ j=>0 < j) fun i j=>.int (i % j)):=opI fun i j _ _ _ _ _ hc q=>by
 have h1:(0:Int) < j:=hc
 exact mod_int' (by omega) (by rw [Int.fmod_eq_emod_of_nonneg i (by omega)]; exact q)
theorem yV:OpR X (binaryOp .Pow) (rI CPow fun i j=>.int (i^j.toNat)):=opI fun _ _ _ _ _ _ _ hc q=>pow_int_small hc.1 hc.2.1 hc.2.2 q
theorem unI {f:Value→Sem Value} {g:Int→Int}
  (rule:∀ (i:Int) (t:Tok) (s:Shared) (Q:Value→Shared→Prop) (E:Value→Shared→Prop),Q (.int (g i) s.toks) { s with toks:=s.toks+1 }→wpAny (model X.prog X.w) X.A (f (.int i t)) Q E s):
  UnR X f (rU fun i=>.int (g i)):=by
 intro pins s σ H x v Q I rx h
 obtain ⟨i,rfl,q⟩:=h
 obtain ⟨t,rfl⟩:=rx
 exact rule i t s _ _ ⟨.int (g i),H,I.tok _,⟨_,rfl⟩,q⟩
theorem yW:UnR X (unaryOp .USub) (rU fun i=>.int (-i)):=unI fun _ _ _ _ _ q=>neg_int q
end
def scal:V→V→Bool
 | .non,.non=>true | .non,.int _=>true | .int _,.non=>true | .non,.bl _=>true | .bl _,.non=>true | .non,.str _=>true | .str _,.non=>true
 | .int _,.int _=>true | .bl _,.bl _=>true | .str _,.str _=>true | .byt _,.byt _=>true
 | .int _,.str _=>true | .str _,.int _=>true | .bl _,.str _=>true | .str _,.bl _=>true
 | _,_=>false
def rEq:R2:=fun x y H Q=>scal x y=true∧Q (.bl (decide (x=y))) H
def rNe:R2:=fun x y H Q=>scal x y=true∧Q (.bl (!decide (x=y))) H
theorem uF {i j:Int}:decide (V.int i=V.int j)=(i==j):=by
 rw [Bool.eq_iff_iff]
 simp
theorem wc {i j:Bool}:decide (V.bl i=V.bl j)=(i==j):=by
 rw [Bool.eq_iff_iff]
 simp
theorem uG {i j:Str}:decide (V.str i=V.str j)=(i==j):=by
 rw [Bool.eq_iff_iff]
 simp
theorem uH {i j:Array UInt8}:decide (V.byt i=V.byt j)=(i.toList==j.toList):=by
 rw [Bool.eq_iff_iff]
 cases i
 cases j
 simp
section
variable {X:Cx} {a b c:Expr} {ta tb tc:TE} {pos:Pos}
theorem aL {pins:List (Addr × Obj)} {σ:St} {H:Hp} {s:Shared} {Q:VK} {k k':Bool} (I:Inv X pins σ H s) (q:Q (.bl k) H) (e:k=k'):EP X pins σ Q (.bool k') s:=by
 subst e
 exact ⟨.bl k,H,I,rfl,q⟩
theorem u8:OpR X (compareOp .Eq) rEq:=by
 intro pins s σ H x y v u Q I rx ry h
 obtain ⟨hs,q⟩:=h
 cases x with
 | non=>
  cases rx
  cases y with
  | non=>cases ry; exact PySem.EqNone.eq_none_none (aL I q (by simp))
  | bl j=>cases ry; exact PySem.EqNone.eq_none_bool (aL I q (by simp))
  | int j=>obtain ⟨t',rfl⟩:=ry; exact PySem.EqNone.eq_none_int (aL I q (by simp))
  | str j=>obtain ⟨t',rfl⟩:=ry; exact PySem.EqNone.eq_none_str (aL I q (by simp))
  | _=>exact absurd (show false=true from hs) Bool.false_ne_true
 | bl i=>
  cases rx
  cases y with
  | non=>cases ry; exact PySem.EqNone.eq_bool_none (aL I q (by simp))
  | bl j=>cases ry; exact eq_bool (aL I q wc)
  | str j=>obtain ⟨t',rfl⟩:=ry; exact PySem.EqMixed.eq_bool_str (aL I q (by simp))
  | _=>exact absurd (show false=true from hs) Bool.false_ne_true
 | int i=>
  obtain ⟨t,rfl⟩:=rx
  cases y with
  | non=>cases ry; exact PySem.EqNone.eq_int_none (aL I q (by simp))
  | int j=>obtain ⟨t',rfl⟩:=ry; exact eq_int (aL I q uF)
  | str j=>obtain ⟨t',rfl⟩:=ry; exact PySem.EqMixed.eq_int_str (aL I q (by simp))
  | _=>exact absurd (show false=true from hs) Bool.false_ne_true
 | str i=>
  obtain ⟨t,rfl⟩:=rx
  cases y with
  | non=>cases ry; exact PySem.EqNone.eq_str_none (aL I q (by simp))
  | bl j=>cases ry; exact PySem.EqMixed.eq_str_bool (aL I q (by simp))
  | int j=>obtain ⟨t',rfl⟩:=ry; exact PySem.EqMixed.eq_str_int (aL I q (by simp))
  | str j=>obtain ⟨t',rfl⟩:=ry; exact eq_str (aL I q uG)
  | _=>exact absurd (show false=true from hs) Bool.false_ne_true
 | byt i=>
  obtain ⟨t,rfl⟩:=rx
  cases y with
  | byt j=>obtain ⟨t',rfl⟩:=ry; exact PySem.W.eq_bytes (aL I q uH)
  | _=>exact absurd (show false=true from hs) Bool.false_ne_true
 | _=>cases y <;> exact absurd (show false=true from hs) Bool.false_ne_true
theorem u9:OpR X (compareOp .NotEq) rNe:=by
 intro pins s σ H x y v u Q I rx ry h
 obtain ⟨hs,q⟩:=h
 cases x with
 | non=>
  cases rx
  cases y with
  | non=>cases ry; exact PySem.EqNone.ne_none_none (aL I q (by simp))
  | bl j=>cases ry; exact PySem.EqNone.ne_none_bool (aL I q (by simp))
  | int j=>obtain ⟨t',rfl⟩:=ry; exact PySem.EqNone.ne_none_int (aL I q (by simp))
  | str j=>obtain ⟨t',rfl⟩:=ry; exact PySem.EqNone.ne_none_str (aL I q (by simp))
  | _=>exact absurd (show false=true from hs) Bool.false_ne_true
 | bl i=>
  cases rx
  cases y with
  | non=>cases ry; exact PySem.EqNone.ne_bool_none (aL I q (by simp))
  | bl j=>cases ry; exact ne_bool (aL I q (congrArg not wc))
  | str j=>obtain ⟨t',rfl⟩:=ry; exact PySem.EqMixed.ne_bool_str (aL I q (by simp))
  | _=>exact absurd (show false=true from hs) Bool.false_ne_true
 | int i=>
  obtain ⟨t,rfl⟩:=rx
  cases y with
  | non=>cases ry; exact PySem.EqNone.ne_int_none (aL I q (by simp))
  | int j=>obtain ⟨t',rfl⟩:=ry; exact ne_int (aL I q (congrArg not uF))
  | str j=>obtain ⟨t',rfl⟩:=ry; exact PySem.EqMixed.ne_int_str (aL I q (by simp))
  | _=>exact absurd (show false=true from hs) Bool.false_ne_true
 | str i=>
  obtain ⟨t,rfl⟩:=rx
  cases y with
  | non=>cases ry; exact PySem.EqNone.ne_str_none (aL I q (by simp))
  | bl j=>cases ry; exact PySem.EqMixed.ne_str_bool (aL I q (by simp))
  | int j=>obtain ⟨t',rfl⟩:=ry; exact PySem.EqMixed.ne_str_int (aL I q (by simp))
  | str j=>obtain ⟨t',rfl⟩:=ry; exact ne_str (aL I q (congrArg not uG))
  | _=>exact absurd (show false=true from hs) Bool.false_ne_true
 | byt i=>
  obtain ⟨t,rfl⟩:=rx
  cases y with
  | byt j=>obtain ⟨t',rfl⟩:=ry; exact PySem.W.ne_bytes (aL I q (congrArg not uH))
  | _=>exact absurd (show false=true from hs) Bool.false_ne_true
 | _=>cases y <;> exact absurd (show false=true from hs) Bool.false_ne_true
theorem zN:OpR X (compareOp .Lt) (rI0 fun i j=>.bl (decide (i < j))):=u7 fun _ _ _ _ _ _ _ q=>lt_int q
theorem zO:OpR X (compareOp .LtE) (rI0 fun i j=>.bl (decide (i≤j))):=u7 fun _ _ _ _ _ _ _ q=>le_int q
theorem zP:OpR X (compareOp .Gt) (rI0 fun i j=>.bl (decide (j < i))):=u7 fun _ _ _ _ _ _ _ q=>gt_int q
theorem zQ:OpR X (compareOp .GtE) (rI0 fun i j=>.bl (decide (j≤i))):=u7 fun _ _ _ _ _ _ _ q=>ge_int q
theorem wd:OpR X (compareOp .In) (fun x y H Q=>∃ i j,x=.str i∧y=.str j∧Q (.bl (!(Builtin.Str.occurrences j i 0 j.length 1).isEmpty)) H):=by
 intro pins s σ H x y v u Q I rx ry h
 obtain ⟨i,j,rfl,rfl,q⟩:=h
 obtain ⟨t,rfl⟩:=rx
 obtain ⟨t',rfl⟩:=ry
 exact in_str (aL I q rfl)
theorem we:OpR X (compareOp .Is) (fun x y H Q=>y=.non∧Q (.bl (decide (x=.non))) H):=by
 intro pins s σ H x y v u Q I rx ry h
 obtain ⟨rfl,q⟩:=h
 cases ry
 refine is_none_gen (aL I q ?_)
 cases x <;> first
  | (cases rx; rfl)
  | (obtain ⟨t,rfl⟩:=rx; rfl)
theorem av (b:Expr) {op:CmpOp} (h:op≠.In:=by decide) (h2:op≠.NotIn:=by decide):behindInMarks op b=false:=by
 have e1:(op==CmpOp.In)=false:=by cases op <;> first | rfl | exact absurd rfl h
 have e2:(op==CmpOp.NotIn)=false:=by cases op <;> first | rfl | exact absurd rfl h2
 cases b <;> simp [behindInMarks,e1,e2]
theorem bH {op:CmpOp} {r:R2} (ho:OpR X (compareOp op) r) (ha:PE X a ta) (hb:PE X b tb) (hm:behindInMarks op b=false):PE X (.Compare a [op] [b] pos) (tOp r ta tb):=by
 intro pins s σ H Q I h
 exact wpAny_Compare1 (binT ha hb I h fun v u s2 x y H2 I2 rx ry q=>ho pins s2 σ H2 x y v u Q I2 rx ry q) hm
def tTest (t:TE):TT:=fun σ H Q=>t σ H fun x H'=>∃ k,x=.bl k∧Q k H'
theorem ar {op:CmpOp} {r:R2} (ho:OpR X (compareOp op) r) (ha:PE X a ta) (hb:PE X b tb) (hm:behindInMarks op b=false):PT X (.Compare a [op] [b] pos) (tTest (tOp r ta tb)):=by
 intro pins s σ H Q I h
 refine wpAny_isTrue_Compare1 (thn (ha pins s σ H _ I h) fun v s1 ⟨x,H1,I1,r1,q1⟩=>thn (hb pins s1 σ H1 _ I1 q1) fun u s2 ⟨y,H2,I2,r2,q2⟩=>
  thn (ho pins s2 σ H2 x y v u _ I2 r1 r2 q2) fun c s3 ⟨z,H3,I3,r3,k,e,q3⟩=>?_) hm
 subst e
 cases r3
 exact wpAny_truthy_bool ⟨H3,I3,q3⟩
theorem l4:(sizeLine:Nat) < 2^63:=by rw [sizeLine_eq]; decide
theorem va:OpR X (binaryOp .Add) (fun x y H Q=>∃ i j,x=.str i∧y=.str j∧i.length+j.length≤sizeLine∧Q (.str (i++j)) H):=by
 intro pins s σ H x y v u Q I rx ry h
 obtain ⟨i,j,rfl,rfl,hz,q⟩:=h
 obtain ⟨t,rfl⟩:=rx
 obtain ⟨t',rfl⟩:=ry
 exact add_str (fun t' tk=>⟨.str (i++j),H,I.tok _,⟨_,rfl⟩,q⟩) hz
theorem cR {x:V} {us:List Value} (r:Vals [x] us):∃ u,us=[u]∧RelV x u:=by
 cases r with
 | cons r1 r2=>cases r2; exact ⟨_,rfl,r1⟩
theorem o7 {x y:V} {us:List Value} (r:Vals [x,y] us):∃ u w',us=[u,w']∧RelV x u∧RelV y w':=by
 cases r with
 | cons r1 r2=>
  cases r2 with
  | cons r3 r4=>cases r4; exact ⟨_,_,rfl,r1,r3⟩
theorem wf (hc:X.calm=true):CallR X (.builtin "min") (fun xs H Q=>∃ i j,xs=[.int i,.int j]∧Q (.int (if j < i then j else i)) H):=by
 intro pins s σ H xs us Q I r h
 obtain ⟨i,j,rfl,q⟩:=h
 obtain ⟨u,w',rfl,⟨t,rfl⟩,⟨t',rfl⟩⟩:=o7 r
 refine min_two_ints (I.ok.hd hc) fun h' tk k=>⟨_,H,I.kept k,?_,q⟩
 by_cases hj:j < i
 · rw [if_pos hj,if_pos hj]; exact ⟨_,rfl⟩
 · rw [if_neg hj,if_neg hj]; exact ⟨_,rfl⟩
theorem rd:CallR X (.type "int") (fun xs H Q=>(∃ i,xs=[.int i]∧Q (.int i) H)∨∃ k,xs=[.bl k]∧Q (.int (if k then 1 else 0)) H):=by
 intro pins s σ H xs us Q I r h
 rcases h with ⟨i,rfl,q⟩ | ⟨k,rfl,q⟩
 · obtain ⟨u,rfl,t,rfl⟩:=cR r
   exact call_int_int ⟨.int i,H,I,⟨_,rfl⟩,q⟩
 · obtain ⟨u,rfl,r1⟩:=cR r
   cases r1
   exact call_int_bool ⟨.int (if k then 1 else 0),H,I.tok _,⟨_,rfl⟩,q⟩
end
end L2
namespace L2
open PySem PySem.Spec PyProof.Rows
structure ObjM (h:Heap) (x dx C:Addr) (mA:Str→Option Value):Prop where
 obj:h.get? x=some (PySem.W.instObj C dx)
 ns:h.Ns1 dx mA
 ne:dx≠x
theorem wg {h:Heap} {dx:Addr} {mA:Str→Option Value} (n:h.Ns1 dx mA):∃ od,h.get? dx=some od∧∀ name,PySem.W.lookIn name od=some (mA name):=by
 obtain ⟨o,es,ep,ho,hd,hk,_,hm⟩:=n
 refine ⟨o,ho,fun name=>?_⟩
 have e:=hm name
 unfold nsFind findBy at e
 rw [← Array.find?_toList] at e
 unfold PySem.W.lookIn
 rw [hd]
 dsimp only
 split
 · rename_i y q
   rw [q] at e
   exact congrArg some e
 · rename_i q
   rw [q] at e
   have a:es.toList.any (·.refKey)=false:=by
    rw [List.any_eq_false]
    intro y hy
    obtain ⟨z,t,hkey⟩:=hk y (Array.mem_toList_iff.mp hy)
    simp [DictEntry.refKey,hkey]
   have a':¬ es.toList.any (·.refKey)=true:=by rw [a]; exact Bool.false_ne_true
   rw [if_neg a']
   exact congrArg some e
theorem ObjM.look {h:Heap} {x dx C:Addr} {mA:Str→Option Value} (I:ObjM h x dx C mA):∃ od,PySem.W.InstAt h x (PySem.W.instObj C dx) C (some od)∧∀ name,PySem.W.lookIn name od=some (mA name):=
 let ⟨od,ho,hl⟩:=wg I.ns
 ⟨od,⟨I.obj,rfl,rfl,ho⟩,hl⟩
section
variable {prog:Program} {w:World} {A:Around} {E:Value→Shared→Prop} {s:Shared} {K:PySem.W.Frag} {x dx C f:Addr} {mA:Str→Option Value} {name:Str} {v:Value}
theorem yc {expr:Bool} {Q:Value→Shared→Prop} (X:K.In s.heap) (I:ObjM s.heap x dx C mA) (hg:PySem.W.plainGet K C name=true) (hh:PySem.W.hasDictIn K C=true)
  (ha:PySem.W.findIn K (.ref C) name=some none) (hv:mA name=some v) (hv':PySem.W.handedIn v=true) (h:Q v { s with toks:=s.toks+1 }):
  wpAny (model prog w) A (getAttr (.ref x) name expr) Q E s:=by
 obtain ⟨od,J,hl⟩:=I.look
 exact PySem.W.get_value X J (PySem.W.plainGet_of hg).1 (PySem.W.findObj_own hh ha rfl (by rw [hl,hv])) hv' h
theorem xp {pl:Sem Bool} {Q:Value × List Value→Shared→Prop} (X:K.In s.heap) (I:ObjM s.heap x dx C mA) (hg:PySem.W.plainGet K C name=true)
  (hf:PySem.W.findIn K (.ref C) name=some (some (.ref f))) (ht:PySem.W.isFn K (.ref f)=true) (hv:mA name=none) (h:Q (.ref f,[.ref x]) s):
  wpAny (model prog w) A (getMethod (.ref x) name pl) Q E s:=by
 obtain ⟨od,J,hl⟩:=I.look
 exact PySem.W.method_fn X J (PySem.W.plainGet_of hg).1 (PySem.W.plainGet_of hg).2 hf (beq_iff_eq.mp ht) (by show (PySem.W.lookIn name od).map (·.isSome)=some false; rw [hl,hv]; rfl) h
theorem yd {ns:List Str} {Q:Unit→Shared→Prop} (X:K.In s.heap) (I:ObjM s.heap x dx C mA)
  (hs:PySem.W.findIn K (.ref C) "__setattr__"=some (some (.builtin "object.__setattr__"))) (hp:PySem.W.plainOver K C=true) (ht:PySem.W.takerIn K C name=some none) (hh:PySem.W.hasDictIn K C=true)
  (hw:PySem.Within mA ns) (hsz:ns.length≤sizeLine)
  (h:∀ h',ObjM h' x dx C (fun y=>if y=name then some v else mA y)→Heap.SameBut dx s.heap h'→Q () { s with heap:=h',toks:=s.toks+2 }):
  wpAny (model prog w) A (setAttr (.ref x) name v) Q E s:=by
 obtain ⟨od,J,hl⟩:=I.look
 refine PySem.W.set_plain X J hs (PySem.W.osa_open (s:={ s with toks:=s.toks+1 }) (r:=none) X J hp ht fun b=>?_)
 obtain ⟨cd,hc,hd'⟩:=PySem.W.any_some hh
 have hx:s.heap.get? x=some ⟨.ref C,some dx,.plain,#[]⟩:=I.obj
 refine wpAny_bind (wpAny_pure (wpAny_bind (wpAny_bind (wpAny_loadPart hx (wpAny_bind (PySem.W.Looks.here (s:={ s with toks:=s.toks+1 }) (PySem.W.looks_clsIn X hc) ?_))))))
 rw [hd']
 refine wpAny_pure (a:=some dx) (wpAny_bind (wpAny_pure (wpAny_bind ?_)))
 refine wpAny_nsSet1 (s:={ s with toks:=s.toks+1 }) I.ns fun h' hn2 hs2=>?_
 obtain ⟨oD,esD,epD,hoD,hdD,hcD⟩:=hn2.count (PySem.Within.cons name v hw)
 refine wpAny_bind (wpAny_lookBehind hoD (by rw [hdD]; exact pastItsLine_dict (Nat.le_trans hcD (by rw [List.length_cons]; omega))) ?_)
 exact wpAny_pure (h _ ⟨(hs2.2 _ (Ne.symm I.ne)).trans I.obj,hn2,I.ne⟩ hs2)
theorem xq {R:Result→Shared→Prop} {vs:List Value} {kw:List (Str × Value)} (X:K.In s.heap) (hm:PySem.W.makesIn K C=true)
  (hi:PySem.W.findIn K (.ref C) "__init__"=some (some (.ref f))) (hf:PySem.W.typeIn K (.ref f)=some (.type "function"))
  (h:codeAny (model prog w) (A.under (.builtin "type.__call__" ⟨.ref C::vs,kw⟩)) (.call (.ref f) ⟨.ref (s.heap.objs.size+1)::vs,kw⟩) (PySem.W.InitBack (s.heap.objs.size+1) R)
   { s with heap:=(s.heap.push PySem.W.emptyDict).push (PySem.W.instObj C s.heap.objs.size) }):
  codeAny (model prog w) A (.call (.ref C) ⟨vs,kw⟩) R s:=by
 obtain ⟨hh,g,d,t,os⟩:=s
 exact PySem.W.make_core (PySem.W.makes_of X hm) (PySem.W.looks_findIn X hi) (fun self=>PySem.W.bind_fn X self hf) (.inl rfl) h
end
def putF (f:Str) (v:V):List (Str × V)→List (Str × V)
 | []=>[(f,v)]
 | (g,x)::r=>if g=f then (g,v)::r else (g,x)::putF f v r
theorem nG (f g:Str) (v:V):∀ fs:List (Str × V),(putF f v fs).lookup g=if g=f then some v else fs.lookup g
 | []=>by
  show List.lookup g [(f,v)]=_
  by_cases h:g=f
  · have hb:(g==f)=true:=beq_iff_eq.mpr h
    simp only [List.lookup,hb,if_pos h]
  · have hb:(g==f)=false:=beq_eq_false_iff_ne.mpr h
    simp only [List.lookup,hb,if_neg h]
 | (k,x)::r=>by
  have ih:=nG f g v r
  rw [show putF f v ((k,x)::r)=(if k=f then (k,v)::r else (k,x)::putF f v r) from rfl]
  by_cases hk:k=f
  · rw [if_pos hk]
    by_cases h:g=k
    · have hb:(g==k)=true:=beq_iff_eq.mpr h
      simp only [List.lookup,hb,if_pos (h.trans hk)]
    · have hb:(g==k)=false:=beq_eq_false_iff_ne.mpr h
      simp only [List.lookup,hb,if_neg (fun e:g=f=>h (e.trans hk.symm))]
  · rw [if_neg hk]
    by_cases h:g=k
    · have hb:(g==k)=true:=beq_iff_eq.mpr h
      simp only [List.lookup,hb,if_neg (fun e:g=f=>hk (h.symm.trans e))]
    · have hb:(g==k)=false:=beq_eq_false_iff_ne.mpr h
      simp only [List.lookup,hb]
      exact ih
theorem l5 (f:Str) (v:V):∀ fs:List (Str × V),f∈(putF f v fs).map (·.1)∧∀ g,g∈fs.map (·.1)→g∈(putF f v fs).map (·.1)
 | []=>⟨by simp [putF],fun g h=>by simp at h⟩
 | (k,x)::r=>by
  obtain ⟨i1,i2⟩:=l5 f v r
  rw [show putF f v ((k,x)::r)=(if k=f then (k,v)::r else (k,x)::putF f v r) from rfl]
  by_cases hk:k=f
  · rw [if_pos hk]
    subst hk
    exact ⟨by simp,fun g h=>by simpa using h⟩
  · rw [if_neg hk]
    refine ⟨?_,fun g h=>?_⟩
    · rw [List.map_cons]
      exact List.mem_cons_of_mem _ i1
    · rw [List.map_cons] at h ⊢
      rcases List.mem_cons.mp h with e | e
      · exact List.mem_cons.mpr (.inl e)
      · exact List.mem_cons_of_mem _ (i2 g e)
theorem nI (f:Str) (v:V):∀ fs:List (Str × V),(putF f v fs).length≤fs.length+1
 | []=>by simp [putF]
 | (k,x)::r=>by
  have ih:=nI f v r
  rw [show putF f v ((k,x)::r)=(if k=f then (k,v)::r else (k,x)::putF f v r) from rfl]
  by_cases hk:k=f
  · rw [if_pos hk,List.length_cons,List.length_cons]; omega
  · rw [if_neg hk,List.length_cons,List.length_cons]; omega
theorem RelO.some_of {v:V} {o:Option Value} (r:RelO (some v) o):∃ u,o=some u∧RelV v u:=by
 cases o with
 | none=>exact (show False from r).elim
 | some u=>exact ⟨u,rfl,r⟩
theorem RelO.none_of {o:Option Value} (r:RelO none o):o=none:=by
 cases o with
 | none=>rfl
 | some u=>exact (show False from r).elim
theorem wj {v:V} {u:Value} (r:RelV v u):PySem.W.handedIn u=true:=by
 cases v with
 | non=>cases (show u=Value.none from r); rfl
 | bl b=>cases (show u=Value.bool b from r); rfl
 | int i=>obtain ⟨t,e⟩:=(show ∃ t,u=Value.int i t from r); cases e; rfl
 | str x=>obtain ⟨t,e⟩:=(show ∃ t,u=Value.str x t from r); cases e; rfl
 | byt b=>obtain ⟨t,e⟩:=(show ∃ t,u=Value.bytes b t from r); cases e; rfl
 | flt b=>obtain ⟨t,e⟩:=(show ∃ t,u=Value.float b t from r); cases e; rfl
 | ref a=>cases (show u=Value.ref a from r); rfl
 | ty n=>cases (show u=Value.type n from r); rfl
section
variable {P:Program} {w:World} {H H':Hp} {h h':Heap} {a C dx:Addr} {fs fs':List (Str × V)}
theorem kX (hok:HOk P w H h) (e:H a=some (.ins C dx fs)):∃ mA,ObjM h a dx C mA∧(∀ f,RelO (fs.lookup f) (mA f))∧PySem.Within mA (fs.map (·.1))∧fs.length≤1000∧H dx=some (.own a):=by
 obtain ⟨d,z,ne,ob,mA,n,r,q⟩:=(show ObjOk P w H h a (.ins C dx fs) from hok a _ e)
 exact ⟨mA,⟨ob,n,ne⟩,r,q,z,d⟩
end
structure Cls (K:PySem.W.Frag) (C:Addr):Prop where
 pg:PySem.W.plainGet K C Str.empty=true
 hd:PySem.W.hasDictIn K C=true
 po:PySem.W.plainOver K C=true
 sa:PySem.W.findIn K (.ref C) "__setattr__"=some (some (.builtin "object.__setattr__"))
theorem Cls.get {K:PySem.W.Frag} {C:Addr} (c:Cls K C) (f:Str):PySem.W.plainGet K C f=true:=c.pg
def NoAttr (K:PySem.W.Frag) (C:Addr) (f:Str):Prop:=PySem.W.findIn K (.ref C) f=some none
theorem NoAttr.taker {K:PySem.W.Frag} {C:Addr} {f:Str} (n:NoAttr K C f):PySem.W.takerIn K C f=some none:=by
 unfold PySem.W.takerIn
 rw [show PySem.W.findIn K (.ref C) f=some none from n]
 rfl
structure Meth (K:PySem.W.Frag) (C:Addr) (m:Str) (f:Addr):Prop where
 at_:PySem.W.findIn K (.ref C) m=some (some (.ref f))
 fn:PySem.W.isFn K (.ref f)=true
 kp:PySem.W.keepIn K (.ref f)=true
section
variable {X:Cx} {pins:List (Addr × Obj)} {σ:St} {H:Hp} {s:Shared} {a C dx:Addr} {fs:List (Str × V)} {f:Str} {v:V} {A:Around} {E:Value→Shared→Prop}
theorem vb {b:Bool} {Q:Value→Shared→Prop} (I:Inv X pins σ H s) (e:H a=some (.ins C dx fs)) (c:Cls X.K C) (n:NoAttr X.K C f) (l:fs.lookup f=some v)
  (h:∀ u s',Inv X pins σ H s'→RelV v u→Q u s'):wpAny (model X.prog X.w) A (getAttr (.ref a) f b) Q E s:=by
 obtain ⟨mA,O,r,_,_,_⟩:=kX I.hok e
 obtain ⟨u,hu,ru⟩:=RelO.some_of (v:=v) (o:=mA f) (by rw [← l]; exact r f)
 exact yc I.kIn O (c.get f) c.hd n hu (wj ru) (h u _ (I.tok _) ru)
theorem vc {m:Str} {g:Addr} {pl:Sem Bool} {Q:Value × List Value→Shared→Prop} (I:Inv X pins σ H s) (e:H a=some (.ins C dx fs)) (c:Cls X.K C) (k:Meth X.K C m g) (l:fs.lookup m=none)
  (h:Q (.ref g,[.ref a]) s):wpAny (model X.prog X.w) A (getMethod (.ref a) m pl) Q E s:=by
 obtain ⟨mA,O,r,_,_,_⟩:=kX I.hok e
 have hn:mA m=none:=RelO.none_of (by rw [← l]; exact r m)
 exact xp I.kIn O (c.get m) k.at_ k.fn hn h
theorem vd {y:V} {u:Value} {Q:Unit→Shared→Prop} (I:Inv X pins σ H s) (e:H a=some (.ins C dx fs)) (c:Cls X.K C) (n:NoAttr X.K C f) (hl:fs.length < 1000) (ry:RelV y u)
  (h:∀ s',Inv X pins σ (upd H a (.ins C dx (putF f y fs))) s'→Q () s'):wpAny (model X.prog X.w) A (setAttr (.ref a) f u) Q E s:=by
 obtain ⟨mA,O,r,wi,_,ho⟩:=kX I.hok e
 have hz:(fs.map (·.1)).length≤sizeLine:=by rw [List.length_map,sizeLine_eq]; omega
 refine yd I.kIn O c.sa c.po n.taker c.hd wi hz fun h' O' sb=>h _ ?_
 have hd:∃ o,h'.get? dx=some o:=let ⟨o,_,_,e',_⟩:=O'.ns; ⟨o,e'⟩
 refine I.write (x:=a) (e:=dx) (by rw [e]; exact True.intro) (.inr ho) (fun b q hb z=>(sb.2 b hb).trans z) hd ?_
 refine ⟨by rw [ai O.ne]; exact ho,?_,O.ne,O'.obj,_,O'.ns,fun g=>?_,fun g hg=>?_⟩
 · have:=nI f y fs; omega
 · show RelO ((putF f y fs).lookup g) (if g=f then some u else mA g)
   rw [nG]
   by_cases q:g=f
   · rw [if_pos q,if_pos q]; exact ry
   · rw [if_neg q,if_neg q]; exact r g
 · by_cases q:g=f
   · rw [q]; exact (l5 f y fs).1
   · refine (l5 f y fs).2 g (wi g fun z=>hg ?_)
     show (if g=f then some u else mA g)=none
     rw [if_neg q]; exact z
theorem Inv.made (I:Inv X pins σ H s):Inv X pins σ (upd (upd H s.heap.objs.size (.own (s.heap.objs.size+1))) (s.heap.objs.size+1) (.ins C s.heap.objs.size []))
  { s with heap:=(s.heap.push PySem.W.emptyDict).push (PySem.W.instObj C s.heap.objs.size) }:=by
 have e1:(s.heap.push PySem.W.emptyDict).get? s.heap.objs.size=some PySem.W.emptyDict:=Heap.get?_push_size s.heap rfl
 have e2:((s.heap.push PySem.W.emptyDict).push (PySem.W.instObj C s.heap.objs.size)).get? (s.heap.objs.size+1)=some (PySem.W.instObj C s.heap.objs.size):=by
  have:=Heap.get?_push_size (s.heap.push PySem.W.emptyDict) (o:=PySem.W.instObj C s.heap.objs.size) rfl
  rwa [Heap.size_push] at this
 have e3:(s.heap.push PySem.W.emptyDict).Ns s.heap.objs.size (fun _=>none):=⟨PySem.W.emptyDict,#[],_,e1,rfl,(fun e he=>absurd he (by simp)),fun _=>rfl⟩
 have I1:=I.laid (a:=s.heap.objs.size) (o:=.own (s.heap.objs.size+1)) (h':=s.heap.push PySem.W.emptyDict) (t':=s.toks) (fun b u q=>Heap.get?_push_of_some _ q) (Nat.le_refl _) ⟨_,e1⟩
 refine I1.laid (a:=s.heap.objs.size+1) (o:=.ins C s.heap.objs.size []) (t':=s.toks) (fun b u q=>Heap.get?_push_of_some _ q) (Nat.le_of_eq (Heap.size_push _ _)) ?_
 have ne:s.heap.objs.size≠s.heap.objs.size+1:=Nat.ne_of_lt (Nat.lt_succ_self _)
 refine ⟨by rw [ai ne,ae],Nat.zero_le _,ne,e2,fun _=>none,(Heap.Ns1.of_empty e3).at fun o q=>Heap.get?_push_of_some _ q,fun _=>True.intro,fun y hy=>absurd rfl hy⟩
theorem ye {prog:Program} {w:World} {env:Env} {e:Expr} {f:Str} {pos:Pos} {s:Shared} {Q:Value→Shared→Prop} (hb:attributeBase e f env (eval e env)=eval e env)
  (h:wpAny (model prog w) A (eval e env) (fun o s₁=>wpAny (model prog w) A (getAttr o f true) Q E s₁) E s):wpAny (model prog w) A (eval (.Attribute e f pos) env) Q E s:=
 Attribute_any_ h (by rw [arm_eval_Attribute,hb])
end
section
variable {X:Cx} {o e value:Expr} {f:Str} {pos pos' tpos:Pos} {ta tv:TE}
end
section
variable {X:Cx} {pins:List (Addr × Obj)} {σ:St} {H:Hp} {s:Shared} {A:Around} {E:Value→Shared→Prop} {Q:Value→Shared→Prop} {c:Value} {b:Bool}
inductive TyOf (K:PySem.W.Frag) (H:Hp):V→Value→Prop where
 | non:TyOf K H .non (.type "NoneType")
 | bl (x:Bool):TyOf K H (.bl x) (.type "bool")
 | int (i:Int):TyOf K H (.int i) (.type "int")
 | str (x:Str):TyOf K H (.str x) (.type "str")
 | flt (x:UInt64):TyOf K H (.flt x) (.type "float")
 | lst {a:Addr} {xs:List V} (e:H a=some (.lst xs)):TyOf K H (.ref a) (.type "list")
 | frz {a:Addr} {o:Obj} {xs:List V} (e:H a=some (.frz o (.lst xs))):TyOf K H (.ref a) (.type "list")
 | tup {a:Addr} {xs:List V} (e:H a=some (.tup xs)):TyOf K H (.ref a) (.type "tuple")
 | dK {a:Addr} {kvs:List (Key × V)} (e:H a=some (.dK kvs)):TyOf K H (.ref a) (.type "dict")
 | dT {a:Addr} {kvs:List (List Key × V)} (e:H a=some (.dT kvs)):TyOf K H (.ref a) (.type "dict")
 | ins {a C dx:Addr} {fs:List (Str × V)} (e:H a=some (.ins C dx fs)) (cl:Cls K C) (ha:PySem.W.findIn K (.ref C) "__class__"=some (some (.builtin "object.__class__")))
   (hn:PySem.W.specialIn K (.builtin "object.__class__") "__get__"=some (some (.builtin "getset_descriptor.__get__"))) (htk:PySem.W.takesIn K (.builtin "object.__class__")=some true)
   (hm:PySem.W.mroIn K C (.type "object")=some true):TyOf K H (.ref a) (.ref C)
theorem wk {x:V} {u t:Value} (I:Inv X pins σ H s) (rx:RelV x u) (ty:TyOf X.K H x t) (e:PySem.W.kitOne X.K t c=some b) (h:∀ tk,Q (.bool b) { s with toks:=tk }):
  wpAny (model X.prog X.w) A (call (.builtin "isinstance") [u,c]) Q E s:=by
 cases ty with
 | non=>cases (show u=Value.none from rx); exact PySem.W.kia_one PySem.W.kitx_none I.kIn True.intro e (fun z=>nomatch z) h
 | bl y=>cases (show u=Value.bool y from rx); exact PySem.W.kia_one PySem.W.kitx_bool I.kIn True.intro e (fun z=>nomatch z) h
 | int i=>obtain ⟨t,q⟩:=(show ∃ t,u=Value.int i t from rx); cases q; exact PySem.W.kia_one PySem.W.kitx_int I.kIn True.intro e (fun z=>nomatch z) h
 | str y=>obtain ⟨t,q⟩:=(show ∃ t,u=Value.str y t from rx); cases q; exact PySem.W.kia_one PySem.W.kitx_str I.kIn True.intro e (fun z=>nomatch z) h
 | flt y=>obtain ⟨t,q⟩:=(show ∃ t,u=Value.float y t from rx); cases q; exact PySem.W.kia_one PySem.W.kitx_float I.kIn True.intro e (fun z=>nomatch z) h
 | @lst a xs ea=>
  cases (show u=Value.ref a from rx)
  obtain ⟨_,_,n,_,h1⟩:=(show ObjOk X.prog X.w H s.heap a (.lst xs) from I.hok a _ ea)
  exact PySem.W.kia_one PySem.W.kitx_list I.kIn ⟨_,h1,rfl⟩ e (fun z=>nomatch z) h
 | @frz a ob xs ea=>
  cases (show u=Value.ref a from rx)
  obtain ⟨_,_,_,n,_,h1⟩:=(show ObjOk X.prog X.w H s.heap a (.frz ob (.lst xs)) from I.hok a _ ea)
  exact PySem.W.kia_one PySem.W.kitx_list I.kIn ⟨_,h1,rfl⟩ e (fun z=>nomatch z) h
 | @tup a xs ea=>
  cases (show u=Value.ref a from rx)
  obtain ⟨_,_,_,p⟩:=(show ObjOk X.prog X.w H s.heap a (.tup xs) from I.hok a _ ea)
  obtain ⟨o,h1,h2,_⟩:=p
  exact PySem.W.kia_one PySem.W.kitx_tuple I.kIn ⟨o,h1,h2⟩ e (fun z=>nomatch z) h
 | @dK a kvs ea=>
  cases (show u=Value.ref a from rx)
  obtain ⟨_,_,vs,_,p⟩:=(show ObjOk X.prog X.w H s.heap a (.dK kvs) from I.hok a _ ea)
  obtain ⟨o,es,ep,h1,h2,_⟩:=p
  exact PySem.W.kia_one PySem.W.kitx_dict I.kIn ⟨o,h1,h2.1⟩ e (fun z=>nomatch z) h
 | @dT a kvs ea=>
  cases (show u=Value.ref a from rx)
  obtain ⟨_,_,xs,_,o,es,ep,h1,h2,_⟩:=(show ObjOk X.prog X.w H s.heap a (.dT kvs) from I.hok a _ ea)
  exact PySem.W.kia_one PySem.W.kitx_dict I.kIn ⟨o,h1,h2.1⟩ e (fun z=>nomatch z) h
 | @ins a C dx fs ea cl ha hn htk hm=>
  cases (show u=Value.ref a from rx)
  obtain ⟨mA,O,_⟩:=kX I.hok ea
  obtain ⟨od,J,_⟩:=O.look
  exact PySem.W.kia_one (PySem.W.kitx_own (cl.get _) cl.hd ha hn htk hm) I.kIn J e (fun z=>nomatch z) h
end
end L2
namespace L2
open PySem PySem.Spec PyProof.Rows
structure Room (k:Nat) (A:Around):Prop where
 hd:A.handled=none
 dp:A.depth+3*k+5 < recursionLimit
 un:A.units+16*k+200 < cLine
theorem Room.mono {j k:Nat} {A:Around} (r:Room k A) (h:j≤k):Room j A:=⟨r.hd,by have:=r.dp; omega,by have:=r.un; omega⟩
theorem Room.deeper {k:Nat} {A:Around} (r:Room (k+1) A) (env:Env):Room k (A.deeper env):=
 ⟨r.hd,by have:=r.dp; show A.depth+1+3*k+5 < _; omega,by have:=r.un; show A.units+3+16*k+200 < _; omega⟩
theorem vf {A:Around} {C:Addr} {us:List Value} {kw:List (Str × Value)}:(A.under (.builtin "type.__call__" ⟨.ref C::us,kw⟩)).depth=A.depth+1:=by
 first | rfl | simp [Around.under,Code.weight,Code.isCreation,Code.isGuard,Code.isCaller,Code.frames,Code.isFrame,guardIds]
theorem vg {A:Around} {C:Addr} {us:List Value} {kw:List (Str × Value)}:(A.under (.builtin "type.__call__" ⟨.ref C::us,kw⟩)).units=A.units+1:=by
 first | rfl | simp [Around.under,Code.cUnits,Code.frames,Code.isFrame]
theorem Room.make {k:Nat} {A:Around} (r:Room (k+1) A) (C:Addr) (us:List Value) (kw:List (Str × Value)):Room k (A.under (.builtin "type.__call__" ⟨.ref C::us,kw⟩)):=
 ⟨r.hd,by have:=r.dp; rw [vf]; omega,by have:=r.un; rw [vg]; omega⟩
theorem Room.depth {k:Nat} {A:Around} (r:Room k A):A.depth < recursionLimit:=by have:=r.dp; omega
theorem Room.units {k:Nat} {A:Around} (r:Room k A):A.units+64 < cLine:=by have:=r.un; omega
def tNil:TA:=fun _ H Q=>Q [] H
def tCons (ta:TE) (tr:TA):TA:=fun σ H Q=>ta σ H fun x H1=>tr σ H1 fun xs H2=>Q (x::xs) H2
section
variable {X:Cx} {e:Expr} {es:List Expr} {te:TE} {t:TA} {pos:Pos}
theorem ac:PA X [] tNil:=fun _ _ _ _ H Q I h=>Calls.spliced_nil ⟨[],H,I,.nil,h⟩
theorem aa (ha:PE X e te) (hr:PA X es t) (hs:starEach (e::es) X.env=(false,eval e X.env)::starEach es X.env:=by rfl):PA X (e::es) (tCons te t):=by
 intro pos pins s σ H Q I h
 rw [hs]
 show wpAny _ _ (spliced ((false,eval e X.env)::backTo pos (starEach es X.env))) _ _ s
 refine Calls.spliced_cons (thn (ha pins s σ H _ I h) fun u s1 ⟨x,H1,I1,r1,q1⟩=>?_)
 exact thn (hr pos pins s1 σ H1 _ I1 q1) fun us s2 ⟨xs,H2,I2,r2,q2⟩=>⟨x::xs,H2,I2,.cons r1 r2,q2⟩
def tTup (t:TA):TE:=fun σ H Q=>t σ H fun xs H1=>xs.length≤sizeLine∧∀ p,H1 p=none→Q (.ref p) (upd H1 p (.tup xs))
def tLst (t:TA):TE:=fun σ H Q=>t σ H fun xs H1=>xs.length≤sizeLine∧∀ p,H1 p=none→Q (.ref p) (upd H1 p (.lst xs))
theorem d7 {x1} (h:PA X es t):PE X (.Tuple es x1 pos) (tTup t):=by
 intro pins s σ H Q I hq
 refine wpAny_Tuple_spliced (thn (h pos pins s σ H _ I hq) fun us s1 ⟨xs,H1,I1,r,z,q⟩=>⟨by rw [← r.length]; exact z,?_⟩)
 have hf:H1 s1.heap.objs.size=none:=I1.hok.fresh (Nat.le_refl _)
 refine ⟨.ref s1.heap.objs.size,upd H1 s1.heap.objs.size (.tup xs),I1.laid (t':=s1.toks) (fun b u e=>Heap.get?_push_of_some _ e) (Nat.le_refl _) ?_,rfl,q _ hf⟩
 exact ⟨z,us,r,⟨_,Heap.get?_push_size _ rfl,rfl,_,rfl⟩⟩
theorem bb (h:PA X es t):PE X (.List es pos) (tLst t):=by
 intro pins s σ H Q I hq
 refine wpAny_List_spliced (thn (h pos pins s σ H _ I hq) fun us s1 ⟨xs,H1,I1,r,z,q⟩=>⟨by rw [← r.length]; exact z,?_⟩)
 have hf:H1 s1.heap.objs.size=none:=I1.hok.fresh (Nat.le_refl _)
 refine ⟨.ref s1.heap.objs.size,upd H1 s1.heap.objs.size (.lst xs),I1.laid (t':=s1.toks) (fun b u e=>Heap.get?_push_of_some _ e) (Nat.le_refl _) ?_,rfl,q _ hf⟩
 exact ⟨z,us,0,r,Heap.get?_push_size _ rfl⟩
end
abbrev Sp:=List V→Hp→VK→XK→Prop
abbrev CXT:=List Env→Hp→Shared→XK→Value→Shared→Prop
structure Env0 (P:Program) (w:World) (K:PySem.W.Frag) (mg:Str→Option Value) (base:Heap) (A:Around) (outer:List Env) (s:Shared) (H:Hp):Prop where
 frames:A.frames=some outer
 mod:Mod K mg base
 bs:∀ b o,base.get? b=some o→s.heap.get? b=some o∧H b=none
 bsz:base.objs.size≤s.heap.objs.size
 funs:s.heap.FunFrames base outer
 frf:∀ b∈frs outer,H b=none
 hok:HOk P w H s.heap
 bare:AllBare s.gens
def CE (outer:List Env) (P:Program) (w:World) (H:Hp) (s:Shared) (Q:VK) (u:Value) (s':Shared):Prop:=
 ∃ v H',s'.os=s.os∧AllBare s'.gens∧Un (frs outer) [] H H' s.heap s'.heap∧HOk P w H' s'.heap∧RelV v u∧Q v H'
def CR (CX:CXT) (outer:List Env) (P:Program) (w:World) (H:Hp) (s:Shared) (Q:VK) (E:XK) (r:Result) (s':Shared):Prop:=
 match r with
 | .ok (.ret u)=>CE outer P w H s Q u s'
 | .ok _=>False
 | .error e=>CX outer H s E e s'
structure FnOk (P:Program) (w:World) (K:PySem.W.Frag) (mg:Str→Option Value) (base:Heap) (CX:CXT) (k:Nat) (f:Addr) (fd:FuncData) (ps:List Str) (sp:Sp):Prop where
 len:∀ vs H Q E,sp vs H Q E→vs.length=ps.length
 run:∀ (A:Around) (outer:List Env) (s:Shared) (H:Hp) (args:Args) (us:List Value) (vs:List V) (Q:VK) (E:XK),Room k A→Env0 P w K mg base A outer s H→BindsTo s fd args (ps.zip us)→Vals vs us→sp vs H Q E→
  codeAny (model P w) A (.call (.ref f) args) (CR CX outer P w H s Q E) s
theorem FnOk.mono {P:Program} {w:World} {K:PySem.W.Frag} {mg:Str→Option Value} {base:Heap} {CX:CXT} {j k:Nat} {f:Addr} {fd:FuncData} {ps:List Str} {sp:Sp} (F:FnOk P w K mg base CX j f fd ps sp) (h:j≤k):
  FnOk P w K mg base CX k f fd ps sp:=⟨F.len,fun A outer s H args us vs Q E hr=>F.run A outer s H args us vs Q E (hr.mono h)⟩
theorem FnOk.imp {P:Program} {w:World} {K:PySem.W.Frag} {mg:Str→Option Value} {base:Heap} {CX:CXT} {k:Nat} {f:Addr} {fd:FuncData} {ps:List Str} {sp sp':Sp} (F:FnOk P w K mg base CX k f fd ps sp)
  (h:∀ vs H Q E,sp' vs H Q E→sp vs H Q E):FnOk P w K mg base CX k f fd ps sp':=
 ⟨fun vs H Q E q=>F.len vs H Q E (h _ _ _ _ q),fun A outer s H args us vs Q E hr he hb hv hs=>F.run A outer s H args us vs Q E hr he hb hv (h _ _ _ _ hs)⟩
theorem Env0.make {P:Program} {w:World} {K:PySem.W.Frag} {mg:Str→Option Value} {base:Heap} {A:Around} {outer:List Env} {s:Shared} {H:Hp} (e:Env0 P w K mg base A outer s H) (C:Addr) (us:List Value) (kw:List (Str × Value)):
  Env0 P w K mg base (A.under (.builtin "type.__call__" ⟨.ref C::us,kw⟩)) outer s H:=⟨by first | exact e.frames | (simpa [Around.under,Code.envs,Code.isFrame,pushEnvs] using e.frames),e.mod,e.bs,e.bsz,e.funs,e.frf,e.hok,e.bare⟩
section
variable {X:Cx} {pins:List (Addr × Obj)} {σ:St} {H:Hp} {s s':Shared}
theorem Inv.env0 (I:Inv X pins σ H s):Env0 X.prog X.w X.K X.mg X.base X.A X.stack s H:=
 ⟨I.ok.frames,I.ok.mod,I.bs,Nat.le_trans I.ok.bsz I.sz,I.stack,I.stkFree,I.hok,I.bare⟩
theorem Inv.after {Q:VK} {u:Value} (I:Inv X pins σ H s) (h:CE X.stack X.prog X.w H s Q u s'):EP X pins σ Q u s':=by
 obtain ⟨v,H',os,bare,un,hok,r,q⟩:=h
 obtain ⟨hh,g,d,t,os'⟩:=s'
 obtain rfl:os'=s.os:=os
 exact ⟨v,H',I.call (h':=hh) (g':=g) (d':=d) (t':=t) (ch:=[]) un hok bare (fun b z=>absurd z (by simp)),r,q⟩
end
def tCall (sp:Sp) (dvs:List V) (E:XK) (t:TA):TE:=fun σ H Q=>t σ H fun vs H1=>sp (vs++dvs) H1 Q E
def tMake (C:Addr) (sp:Sp) (dvs:List V) (E:XK) (t:TA):TE:=fun σ H Q=>t σ H fun vs H1=>∀ x dx,H1 x=none→H1 dx=none→dx≠x→
 sp (.ref x::(vs++dvs)) (upd (upd H1 dx (.own x)) x (.ins C dx [])) (fun v H2=>v=.non∧Q (.ref x) H2) E
def Binds (K:PySem.W.Frag) (fd:FuncData) (ps:List Str) (ds:List Value):Prop:=
 ∀ (s:Shared) (us:List Value),K.In s.heap→(us++ds).length=ps.length→BindsTo s fd ⟨us,[]⟩ (ps.zip (us++ds))
theorem Binds.all {K:PySem.W.Frag} {fd:FuncData} {ps:List Str} (h:∀ us:List Value,us.length=ps.length→bindArgs fd ⟨us,[]⟩=pure (ps.zip us)):Binds K fd ps []:=fun s us _ hl=>by
 rw [List.append_nil] at hl ⊢
 exact .of_eq (h us hl)
def gq (CX:CXT) (X:Cx) (E:XK):Prop:=∀ (pins:List (Addr × Obj)) (σ:St) (H:Hp) (s:Shared) (e:Value) (s':Shared),Inv X pins σ H s→CX X.stack H s E e s'→X.xe e s'
section
variable {X:Cx} {CX:CXT} {k:Nat} {f C:Addr} {fd:FuncData} {ps:List Str} {sp:Sp} {dvs:List V} {ds:List Value} {E:XK} {x m:Str} {p pos apos:Pos} {e o:Expr} {es:List Expr} {ta:TE} {t:TA}
theorem wm {pins:List (Addr × Obj)} {σ:St} {H:Hp} {s:Shared} {Q:VK} {us:List Value} {vs:List V} (F:FnOk X.prog X.w X.K X.mg X.base CX k f fd ps sp) (hr:Room k X.A) (hb:Binds X.K fd ps ds) (hd:Vals dvs ds) (hx:gq CX X E)
  (I:Inv X pins σ H s) (r:Vals vs us) (h:sp (vs++dvs) H Q E):wpAny (model X.prog X.w) X.A (call (.ref f) us) (EP X pins σ Q) X.xe s:=by
 have r2:Vals (vs++dvs) (us++ds):=r.append hd
 have hl:(us++ds).length=ps.length:=by rw [← r2.length]; exact F.len _ _ _ _ h
 refine wpAny_call (codeAny_mono (F.run X.A X.stack s H ⟨us,[]⟩ (us++ds) (vs++dvs) Q E hr I.env0 (hb s us I.kIn hl) r2 h) fun r s' hq=>?_)
 cases r with
 | error e=>exact hx pins σ H s e s' I hq
 | ok fl=>
  cases fl with
  | ret u=>exact I.after hq
  | next=>exact False.elim hq
  | brk=>exact False.elim hq
  | cont=>exact False.elim hq
theorem qh (F:FnOk X.prog X.w X.K X.mg X.base CX k f fd ps sp) (hr:Room k X.A) (hg:Gl X x) (hm:X.mg x=some (.ref f)) (hk:PySem.W.keepIn X.K (.ref f)=true) (hb:Binds X.K fd ps ds) (hd:Vals dvs ds) (hx:gq CX X E)
  (ha:PA X (e::es) t) (hdb:(x==("__debug__":Str))=false:=by decide) (he:starEach (e::es) X.env=(false,eval e X.env)::starEach es X.env:=by rfl) (hpl:(backTo pos (starEach es X.env)).any (·.1)=false:=by rfl):
  PE X (.Call (.Name x p) (e::es) [] pos) (tCall sp dvs E t):=by
 intro pins s σ H Q I h
 refine wpAny_Call_Name_kw (jO I hg hm ?_ hdb)
 refine PySem.W.callWith_K (h₀:=X.base) I.ok.mod.kin hk (thn (ha pos pins s σ H _ I h) fun us s1 ⟨vs,H1,I1,r,q⟩=>⟨I1.kIn,?_⟩) he hpl
 exact wm F hr hb hd hx I1 r q
structure Mk (K:PySem.W.Frag) (C f:Addr):Prop where
 makes:PySem.W.makesIn K C=true
 init:PySem.W.findIn K (.ref C) "__init__"=some (some (.ref f))
 fn:PySem.W.isFn K (.ref f)=true
 kp:PySem.W.keepIn K (.ref C)=true
theorem xt {pins:List (Addr × Obj)} {σ:St} {H:Hp} {s:Shared} {Q:VK} {us:List Value} {vs:List V} (M:Mk X.K C f) (F:FnOk X.prog X.w X.K X.mg X.base CX k f fd ps sp) (hr:Room (k+1) X.A) (hb:Binds X.K fd ps ds) (hd:Vals dvs ds)
  (hx:gq CX X E) (I:Inv X pins σ H s) (r:Vals vs us)
  (h:∀ x dx,H x=none→H dx=none→dx≠x→sp (.ref x::(vs++dvs)) (upd (upd H dx (.own x)) x (.ins C dx [])) (fun v H2=>v=.non∧Q (.ref x) H2) E):
  wpAny (model X.prog X.w) X.A (call (.ref C) us) (EP X pins σ Q) X.xe s:=by
 have hq:=h (s.heap.objs.size+1) s.heap.objs.size (I.hok.fresh (Nat.le_succ _)) (I.hok.fresh (Nat.le_refl _)) (Nat.ne_of_lt (Nat.lt_succ_self _))
 have I2:=Inv.made (C:=C) I
 have r2:Vals (V.ref (s.heap.objs.size+1)::(vs++dvs)) (Value.ref (s.heap.objs.size+1)::(us++ds)):=.cons rfl (r.append hd)
 have hl:(Value.ref (s.heap.objs.size+1)::us++ds).length=ps.length:=by
  have e:=r2.length
  rw [F.len _ _ _ _ hq] at e
  exact e.symm
 refine wpAny_call (xq (f:=f) I.kIn M.makes M.init (beq_iff_eq.mp M.fn) (codeAny_mono (F.run _ X.stack _ _ ⟨Value.ref (s.heap.objs.size+1)::us,[]⟩ (Value.ref (s.heap.objs.size+1)::(us++ds)) _ _ E (hr.make C us [])
  (I2.env0.make C us []) (hb _ (Value.ref (s.heap.objs.size+1)::us) I2.kIn hl) r2 hq) fun r s' hq'=>?_))
 cases r with
 | error e=>exact hx pins σ _ _ e s' I2 hq'
 | ok fl=>
  cases fl with
  | ret u=>
   obtain ⟨v,H',I3,rv,ev,q3⟩:=I2.after hq'
   subst ev
   exact ⟨rv,⟨V.ref (s.heap.objs.size+1),H',I3,rfl,q3⟩⟩
  | next=>exact False.elim hq'
  | brk=>exact False.elim hq'
  | cont=>exact False.elim hq'
theorem yf (M:Mk X.K C f) (F:FnOk X.prog X.w X.K X.mg X.base CX k f fd ps sp) (hr:Room (k+1) X.A) (hg:Gl X x) (hm:X.mg x=some (.ref C)) (hb:Binds X.K fd ps ds) (hd:Vals dvs ds) (hx:gq CX X E)
  (ha:PA X (e::es) t) (hdb:(x==("__debug__":Str))=false:=by decide) (he:starEach (e::es) X.env=(false,eval e X.env)::starEach es X.env:=by rfl) (hpl:(backTo pos (starEach es X.env)).any (·.1)=false:=by rfl):
  PE X (.Call (.Name x p) (e::es) [] pos) (tMake C sp dvs E t):=by
 intro pins s σ H Q I h
 refine wpAny_Call_Name_kw (jO I hg hm ?_ hdb)
 refine PySem.W.callWith_K (h₀:=X.base) I.ok.mod.kin M.kp (thn (ha pos pins s σ H _ I h) fun us s1 ⟨vs,H1,I1,r,q⟩=>⟨I1.kIn,?_⟩) he hpl
 exact xt M F hr hb hd hx I1 r q
end
section
variable {X:Cx} {CX:CXT} {k:Nat} {f C:Addr} {fd:FuncData} {ps ks:List Str} {sp:Sp} {E:XK} {x m:Str} {p pos apos kpos:Pos} {e o:Expr} {es:List Expr} {kws:List Keyword} {te ta:TE} {t tk:TA} {nm:Option Str}
variable {g:List Value→List Value→List Value} {gV:List V→List V→List V}
end
structure am (N P:List Str) (sc:Scope):Prop where
 kind:sc.kind=.function
 co:sc.isCoroutine=false
 gen:sc.isGenerator=false
 nd:N.Nodup
 pre:N.take P.length=P
 par:∀ x∈P,sc.names.lookup x=some .local∨sc.names.lookup x=some .cell
 nofree:∀ y∈sc.names,y.2≠.free
theorem re {kindOf:Str→Option NameKind} {x:Str}:∀ {binds:List (Str × Value)} {m:Str→Option Value},(∀ v,(x,v)∉binds)→bindL kindOf binds m x=m x
 | [],_,_=>rfl
 | (n,v)::r,m,h=>by
  unfold bindL
  rw [re fun w hw=>h w (List.mem_cons_of_mem _ hw)]
  split
  · have:x≠n:=by rintro rfl; exact h v List.mem_cons_self
    simp [this]
  · rfl
theorem rf {kindOf:Str→Option NameKind} {x:Str}:∀ {binds:List (Str × Value)} {m:Str→Option Value},(∀ v,(x,v)∉binds)→bindC kindOf binds m x=m x
 | [],_,_=>rfl
 | (n,v)::r,m,h=>by
  unfold bindC
  rw [rf fun w hw=>h w (List.mem_cons_of_mem _ hw)]
  split
  · rfl
  · have:x≠n:=by rintro rfl; exact h v List.mem_cons_self
    simp [this]
theorem rg {kindOf:Str→Option NameKind} {x:Str} {v:Value}:∀ {P:List Str} {vs:List Value} {i:Nat} {m:Str→Option Value},P.Nodup→P[i]? =some x→vs[i]? =some v→kindOf x=some .local→
  bindL kindOf (P.zip vs) m x=some v
 | [],_,_,_,_,h,_,_=>by simp at h
 | _::_,[],_,_,_,_,h,_=>by simp at h
 | p::P,w::vs,0,m,nd,h1,h2,hk=>by
  simp at h1 h2; subst h1; subst h2
  show bindL kindOf ((p,w)::P.zip vs) m p=_
  unfold bindL
  rw [re fun v hv=>(List.nodup_cons.mp nd).1 (List.of_mem_zip hv).1,if_pos hk]
  simp
 | p::P,w::vs,i+1,m,nd,h1,h2,hk=>by
  show bindL kindOf ((p,w)::P.zip vs) m x=_
  unfold bindL
  exact rg (i:=i) (List.nodup_cons.mp nd).2 (by simpa using h1) (by simpa using h2) hk
theorem rh {kindOf:Str→Option NameKind} {x:Str} {v:Value}:∀ {P:List Str} {vs:List Value} {i:Nat} {m:Str→Option Value},P.Nodup→P[i]? =some x→vs[i]? =some v→kindOf x≠some .local→
  bindC kindOf (P.zip vs) m x=some v
 | [],_,_,_,_,h,_,_=>by simp at h
 | _::_,[],_,_,_,_,h,_=>by simp at h
 | p::P,w::vs,0,m,nd,h1,h2,hk=>by
  simp at h1 h2; subst h1; subst h2
  show bindC kindOf ((p,w)::P.zip vs) m p=_
  unfold bindC
  rw [rf fun v hv=>(List.nodup_cons.mp nd).1 (List.of_mem_zip hv).1,if_neg hk]
  simp
 | p::P,w::vs,i+1,m,nd,h1,h2,hk=>by
  show bindC kindOf ((p,w)::P.zip vs) m x=_
  unfold bindC
  exact rh (i:=i) (List.nodup_cons.mp nd).2 (by simpa using h1) (by simpa using h2) hk
def start (N:List Str) (vs:List V):St:=vs.map some++List.replicate (N.length - vs.length) none
def cxOf (CX:CXT) (P:Program) (w:World) (K:PySem.W.Frag) (mg:Str→Option Value) (base:Heap) (N:List Str) (qual:Str) (scope:Scope) (f:Addr) (cd:Value) (A:Around) (outer:List Env) (s:Shared) (H:Hp) (E:XK):Cx where
 prog:=P
 w:=w
 K:=K
 mg:=mg
 base:=base
 A:=A.deeper (envOfC qual scope s.heap.objs.size f cd)
 N:=N
 s₀:=s
 H₀:=H
 env:=envOfC qual scope s.heap.objs.size f cd
 outer:=outer
 stack:=envOfC qual scope s.heap.objs.size f cd::outer
 ex:=[]
 calm:=true
 fn:=fun _=>true
 pn:=[]
 xe:=fun e s'=>wpAny (model P w) (A.deeper (envOfC qual scope s.heap.objs.size f cd)) (leaving (envOfC qual scope s.heap.objs.size f cd) e) (fun _ s''=>CX outer H s E e s'') (fun e' s''=>CX outer H s E e' s'') s'
theorem lr {sc:Scope} {n:Nat} {x:Str} (h:sc.names.lookup x=some .cell):∃ c,(cellsFrom n sc.names []).lookup x=some c:=by
 have q:=PySem.W.cellsFrom_some sc.names n [] (.inl h)
 exact Option.isSome_iff_exists.mp q
theorem wo {CX:CXT} {P:Program} {w:World} {K:PySem.W.Frag} {mg:Str→Option Value} {base:Heap} {N ps:List Str} {qual:Str} {scope:Scope} {f:Addr} {cd:Value} {A:Around} {outer:List Env} {s s1:Shared} {H:Hp} {E:XK} {us:List Value} {vs:List V}
  (S:am N ps scope) (hd:A.handled=none) (e0:Env0 P w K mg base A outer s H) (hl:vs.length=ps.length) (r:Vals vs us)
  (x:InCallC s s.heap.objs.size (bindL (envOfC qual scope s.heap.objs.size f cd).kindOf (ps.zip us) fun _=>none) (cellsFrom (s.heap.objs.size+1) scope.names []) (bindC (envOfC qual scope s.heap.objs.size f cd).kindOf (ps.zip us) fun _=>none) s1):
  Inv (cxOf CX P w K mg base N qual scope f cd A outer s H E) [] (start N vs) H s1:=by
 have hpl:ps.length≤N.length:=by have:=congrArg List.length S.pre; rw [List.length_take] at this; omega
 obtain ⟨h1,tk,rfl,hk⟩:=x.done
 have noA:∀ b:Addr,b∉(cxOf CX P w K mg base N qual scope f cd A outer s H E).ex:=fun b z=>absurd (show b∈([]:List Addr) from z) (by simp)
 refine ⟨⟨e0.mod,S.kind,rfl,rfl,Nat.le_refl _,fun y z c h1 h2=>?_,fun y hy=>?_,fun y c _ h=>?_,fun _=>hd,Around.frames_deeper e0.frames,.inr ⟨rfl,rfl⟩,fun b z=>absurd z (noA b),e0.bs,e0.bsz,fun b _ _=>noA b,fun b z=>absurd z (noA b),e0.funs,e0.frf⟩,
  rfl,e0.bare,Un.kept hk,⟨_,x.toInCall.ns,fun i y v h1 h2 h3=>?_⟩,fun y c h=>⟨_,x.cell y c h⟩,e0.hok.fresh (Nat.le_refl _),fun y c h=>?_,fun p hp=>absurd (show p∈([]:List (Addr × Obj)) from hp) (by simp),e0.hok.kept hk,?_⟩
 · exact name_of_addr x.apart (PySem.mem_of_lookup h1) (PySem.mem_of_lookup h2)
 · have hy:scope.names.lookup y=some .cell∨scope.names.lookup y=some .free:=hy
   rcases hy with hy | hy
   · exact lr hy
   · exact absurd rfl (S.nofree _ (PySem.mem_of_lookup hy))
 · exact Nat.le_of_lt (x.above y c (PySem.mem_of_lookup h))
 · have hi:i < vs.length:=by
    unfold start at h2
    by_cases hi:i < vs.length
    · exact hi
    · rw [List.getElem?_append_right (by simpa using hi)] at h2
      rw [List.getElem?_replicate] at h2
      split at h2 <;> cases h2
   have ha:vs[i]? =some v:=by
    unfold start at h2
    rw [List.getElem?_append_left (by simpa using hi),List.getElem?_map] at h2
    cases e:vs[i]? with
    | none=>rw [e] at h2; cases h2
    | some a=>rw [e] at h2; cases h2; rfl
   obtain ⟨u,hu,rv⟩:=r.get ha
   have hp:ps[i]? =some y:=by
    rw [← S.pre,List.getElem?_take_of_lt (by omega)]; exact h1
   have ndP:ps.Nodup:=by rw [← S.pre]; exact S.nd.sublist (List.take_sublist _ _)
   refine ⟨u,rv,?_⟩
   rcases S.par y (List.mem_of_getElem? hp) with k | k
   · exact .inl ⟨k,rg ndP hp hu k⟩
   · obtain ⟨c,e⟩:=lr (n:=s.heap.objs.size+1) k
     refine .inr ⟨.inl k,c,e,?_⟩
     have q:=x.cell y c e
     rw [rh ndP hp hu (by show scope.names.lookup y≠_; rw [k]; decide)] at q
     exact q
 · exact e0.hok.fresh (Nat.le_of_lt (x.above y c (PySem.mem_of_lookup h)))
 · unfold start
   show _=N.length
   rw [List.length_append,List.length_map,List.length_replicate]
   omega
theorem vh {CX:CXT} {P:Program} {w:World} {K:PySem.W.Frag} {mg:Str→Option Value} {base:Heap} {k:Nat} {f:Addr} {name qual:Str} {params:Arguments} {body:List Stmt} {scope:Scope} {dV kV doc pm cdv ct oc:Value} {an od:Option Addr}
  {osl:Array (Option Value)} {N ps:List Str} {sp:Sp} (lk:K.lookup f=some ⟨oc,od,.func (PySem.W.fnOf name qual params body scope dV kV doc pm an cdv ct),osl⟩) (hcd:PySem.W.codeIn K cdv qual=true) (S:am N ps scope)
  (len:∀ vs H Q E,sp vs H Q E→vs.length=ps.length)
  (hbody:∀ (A:Around) (outer:List Env) (s:Shared) (H:Hp) (vs:List V) (Q:VK) (E:XK),Room k (A.deeper (envOfC qual scope s.heap.objs.size f cdv))→sp vs H Q E→
   ∃ t,PSs (cxOf CX P w K mg base N qual scope f cdv A outer s H E) body t∧t { nx:=fun _ H'=>Q .non H',rt:=Q } (start N vs) H):
  FnOk P w K mg base CX (k+1) f (PySem.W.fnOf name qual params body scope dV kV doc pm an cdv ct) ps sp:=by
 refine ⟨len,fun A outer s H args us vs Q E hr e0 hb r hsp=>?_⟩
 have hl:=len _ _ _ _ hsp
 have KX:K.In s.heap:=e0.mod.kin.keeps fun b o e=>(e0.bs b o e).1
 have lim:s.heap.NoLimit:=e0.mod.nolimit.keeps fun b o e=>(e0.bs b o e).1
 have hkind:∀ y∈ps.zip us,scope.names.lookup y.1=some .local∨(scope.names.lookup y.1=some .cell∧((cellsFrom (s.heap.objs.size+1) scope.names []).lookup y.1).isSome=true):=fun ⟨n,v⟩ hy=>by
  rcases S.par n (List.of_mem_zip hy).1 with q | q
  · exact .inl q
  · exact .inr ⟨q,PySem.W.cellsFrom_some _ _ _ (.inl q)⟩
 refine codeAny_call_function hr.depth (KX _ _ lk) rfl S.co S.gen rfl (PySem.W.codeRec_of KX hcd) (hb _ _ _ _ ?_)
 refine wpAny_newFunctionEnv_cells S.kind hkind fun env he s1 x=>?_
 subst he
 refine ⟨lim.keeps x.toInCall.keep,codeAny_func ?_⟩
 obtain ⟨t,ht,hq⟩:=hbody A outer s H vs Q E (hr.deeper _) hsp
 have I:Inv (cxOf CX P w K mg base N qual scope f cdv A outer s H E) [] (start N vs) H s1:=wo S hr.hd e0 hl r x
 refine wpAny_mono (ht [] s1 (start N vs) H _ I hq) (fun fl s' hs=>?_) fun e s' hs=>hs
 have fin:∀ {σ':St} {H':Hp} {v:V} {u:Value},Inv (cxOf CX P w K mg base N qual scope f cdv A outer s H E) [] σ' H' s'→RelV v u→Q v H'→CE outer P w H s Q u s':=
  fun {σ' H' v u} J rv q=>⟨v,H',J.os,J.bare,J.base,J.hok,rv,q⟩
 cases fl with
 | ret u=>
  obtain ⟨v,σ',H',J,rv,q⟩:=hs
  exact fin J rv q
 | next=>
  obtain ⟨σ',H',J,q⟩:=hs
  exact fin (v:=V.non) (u:=Value.none) J rfl q
 | brk=>
  obtain ⟨_,_,_,q⟩:=hs
  exact False.elim q
 | cont=>
  obtain ⟨_,_,_,q⟩:=hs
  exact False.elim q
end L2
namespace L2
open PySem PySem.Spec PyProof.Rows
section
variable {X:Cx} {x:Str} {p pos:Pos} {e:Expr} {es:List Expr} {t:TA} {id T:String} {r:List V→Hp→VK→Prop}
def tCB (r:List V→Hp→VK→Prop) (t:TA):TE:=fun σ H Q=>t σ H fun vs H1=>r vs H1 Q
theorem aA (hc:CallR X (.builtin id) r) (hg:Gl X x) (hm:X.mg x=none) (hv:bootBuiltins x=some (.builtin id)) (ha:PA X (e::es) t) (hn:x≠"__name__":=by decide) (hdb:(x==("__debug__":Str))=false:=by decide)
  (he:starEach (e::es) X.env=(false,eval e X.env)::starEach es X.env:=by rfl) (hpl:(backTo pos (starEach es X.env)).any (·.1)=false:=by rfl):PE X (.Call (.Name x p) (e::es) [] pos) (tCB r t):=by
 intro pins s σ H Q I h
 refine wpAny_Call_Name_kw (cZ I hg hm hv ?_ hn hdb)
 exact PyProof.Rows.callWith_builtin1 (thn (ha pos pins s σ H _ I h) fun us s1 ⟨vs,H1,I1,r1,q1⟩=>hc pins s1 σ H1 vs us Q I1 r1 q1) he hpl
theorem aD (hc:CallR X (.type T) r) (hg:Gl X x) (hm:X.mg x=none) (hv:bootBuiltins x=some (.type T)) (ha:PA X (e::es) t) (hn:x≠"__name__":=by decide) (hdb:(x==("__debug__":Str))=false:=by decide)
  (he:starEach (e::es) X.env=(false,eval e X.env)::starEach es X.env:=by rfl) (hpl:(backTo pos (starEach es X.env)).any (·.1)=false:=by rfl):PE X (.Call (.Name x p) (e::es) [] pos) (tCB r t):=by
 intro pins s σ H Q I h
 refine wpAny_Call_Name_kw (cZ I hg hm hv ?_ hn hdb)
 exact PyProof.Rows.callWith_type1 (thn (ha pos pins s σ H _ I h) fun us s1 ⟨vs,H1,I1,r1,q1⟩=>hc pins s1 σ H1 vs us Q I1 r1 q1) he hpl
end
end L2
namespace HT
open PySem PyProof.Rows
section
open PySem.SeqAt
open PySem.AutoSeq1 (wpAny_loadPart')
open PySem.MeetsSeq PySem.MeetsSeq2 PySem.MeetsSeq3
end
section
variable {prog:Program} {w:World} {A:Around} {E:Value→Shared→Prop} {s:Shared}
def sIx (n d:Nat):Option Int→Nat
 | none=>d
 | some v=>if v < 0 then (v+(n:Int)).toNat else min v.toNat n
theorem sIx_nat (n d k:Nat):sIx n d (some (k:Int))=min k n:=by
 show (if (k:Int) < 0 then ((k:Int)+(n:Int)).toNat else min (k:Int).toNat n)=min k n
 rw [if_neg (by omega),Int.toNat_natCast]
end
end HT
namespace L2
open PySem PySem.Spec PyProof.Rows
abbrev TO:=St→Hp→(Option Int→Hp→Prop)→Prop
def PO (X:Cx) (e:Option Expr) (t:TO):Prop:=
 ∀ (pins:List (Addr × Obj)) (s:Shared) (σ:St) (H:Hp) (Q:Option Int→Hp→Prop),Inv X pins σ H s→t σ H Q→
  wpAny (model X.prog X.w) X.A (evalPart e X.env) (fun u s'=>∃ o H',Inv X pins σ H' s'∧IsPart u o∧Q o H') X.xe s
def bq:TO:=fun _ H Q=>Q none H
def tPart (t:TE):TO:=fun σ H Q=>t σ H fun x H1=>∃ i,x=.int i∧Q (some i) H1
theorem o8 {ns:List Int}:∀ {us:List Value},Vals (ns.map V.int) us→IntsAre us ns:=by
 induction ns with
 | nil=>intro us r; rw [List.map_nil] at r; cases r; exact .nil
 | cons n ns ih=>
  intro us r
  rw [List.map_cons] at r
  cases r with
  | cons r1 r2=>
   obtain ⟨t,e⟩:=r1
   subst e
   exact .cons n t (ih r2)
section
variable {X:Cx} {e:Expr} {te:TE} {lo hi:Option Expr} {tl th:TO} {pos p2:Pos}
theorem bI:PO X none bq:=by
 intro pins s σ H Q I h
 rw [evalPart_none]
 exact wpAny_pure ⟨none,H,I,.none,h⟩
theorem bJ (h:PE X e te):PO X (some e) (tPart te):=by
 intro pins s σ H Q I hw
 rw [evalPart_some]
 refine thn (h pins s σ H _ I hw) fun u s1 ⟨x,H1,I1,r1,q1⟩=>?_
 obtain ⟨i,rfl,q⟩:=q1
 obtain ⟨t,rfl⟩:=r1
 exact ⟨some i,H1,I1,.int i t,q⟩
def SlR (X:Cx) (r:V→Option Int→Option Int→Hp→VK→Prop):Prop:=
 ∀ (pins:List (Addr × Obj)) (s:Shared) (σ:St) (H:Hp) (x:V) (v vl vu:Value) (lo hi:Option Int) (sl:Addr) (Q:VK),Inv X pins σ H s→RelV x v→s.heap.IsSliceOf sl vl vu .none→IsPart vl lo→IsPart vu hi→r x lo hi H Q→
  ∃ T id,typeLookup (.type T) "__getitem__"=pure (some (.builtin id))∧s.TypeIs v T∧wpAny (model X.prog X.w) X.A (getItem v (.ref sl)) (EP X pins σ Q) X.xe s
def tSl (r:V→Option Int→Option Int→Hp→VK→Prop) (te:TE) (tl th:TO):TE:=fun σ H Q=>te σ H fun x H1=>tl σ H1 fun l H2=>th σ H2 fun u H3=>r x l u H3 Q
theorem bt {r:V→Option Int→Option Int→Hp→VK→Prop} (hr:SlR X r) (he:PE X e te) (hl:PO X lo tl) (hu:PO X hi th):PE X (.Subscript e (.Slice lo hi none p2) pos) (tSl r te tl th):=by
 intro pins s σ H Q I h
 refine Subscript_ (thn (he pins s σ H _ I h) fun v s1 ⟨x,H1,I1,r1,q1⟩=>?_)
 refine wpAny_Slice (thn (hl pins s1 σ H1 _ I1 q1) fun vl s2 ⟨l,H2,I2,pl,q2⟩=>thn (hu pins s2 σ H2 _ I2 q2) fun vu s3 ⟨u,H3,I3,pu,q3⟩=>?_)
 rw [evalPart_none]
 refine wpAny_pure ?_
 have I4:Inv X pins σ H3 { s3 with heap:=s3.heap.push { cls:=.type "slice",data:=.fields #[vl,vu,.none] } }:=I3.kept (t':=s3.toks) fun b ob q=>Heap.get?_push_of_some _ q
 obtain ⟨T,id,hT,ht,hg⟩:=hr pins { s3 with heap:=s3.heap.push { cls:=.type "slice",data:=.fields #[vl,vu,.none] } } σ H3 x v vl vu l u s3.heap.objs.size Q I4 r1 (Heap.IsSliceOf.new ..) pl pu q3
 show wpAny (model X.prog X.w) X.A (subscriptTail e (.Slice lo hi none p2) v (.ref s3.heap.objs.size)) (EP X pins σ Q) X.xe { s3 with heap:=s3.heap.push { cls:=.type "slice",data:=.fields #[vl,vu,.none] } }
 exact tail_any (ops:=[.ref s3.heap.objs.size,v]) ht hT hg (by with_unfolding_all rfl)
def cutV (xs:List V) (lo hi:Option Int):List V:=(xs.drop (HT.sIx xs.length 0 lo)).take (HT.sIx xs.length xs.length hi - HT.sIx xs.length 0 lo)
theorem uo (xs:List V) (lo hi:Option Int):(cutV xs lo hi).length≤xs.length:=by
 unfold cutV
 rw [List.length_take,List.length_drop]
 omega
end
end L2
namespace L2
open PySem PySem.Spec PyProof.Rows
def ixN (n:Nat) (i:Int):Option Nat:=if 0≤i then (if i < n then some i.toNat else none) else if -(n:Int)≤i then some (i+n).toNat else none
def atI {α:Type} (xs:List α) (i:Int):Option α:=(ixN xs.length i).bind fun j=>xs[j]?
theorem yg {n:Nat} {i:Int} {j:Nat} (h:ixN n i=some j):seqIndex? i n=some j∧j < n∧ -(n:Int)≤i∧i < n:=by
 unfold ixN at h
 by_cases h0:0≤i
 · rw [if_pos h0] at h
   by_cases h1:i < n
   · rw [if_pos h1] at h
     have e:i.toNat=j:=Option.some.inj h
     exact ⟨by rw [seqIndex_of h0 h1,e],by omega,by omega,h1⟩
   · rw [if_neg h1] at h; cases h
 · rw [if_neg h0] at h
   by_cases h1: -(n:Int)≤i
   · rw [if_pos h1] at h
     have e:(i+n).toNat=j:=Option.some.inj h
     exact ⟨by rw [seqIndex_neg (by omega) h1,e],by omega,h1,by omega⟩
   · rw [if_neg h1] at h; cases h
theorem qi {α:Type} {xs:List α} {i:Int} {v:α} (h:atI xs i=some v):∃ j,seqIndex? i xs.length=some j∧xs[j]? =some v∧j < xs.length∧ -(xs.length:Int)≤i∧i < xs.length:=by
 unfold atI at h
 cases e:ixN xs.length i with
 | none=>rw [e] at h; cases h
 | some j=>
  rw [e] at h
  obtain ⟨h1,h2,h3,h4⟩:=yg e
  exact ⟨j,h1,h,h2,h3,h4⟩
theorem b8 {α:Type} {xs:List α} {j:Nat} {v:α} (h:xs[j]? =some v):atI xs (j:Int)=some v:=by
 have hj:j < xs.length:=(List.getElem?_eq_some_iff.mp h).1
 have e:ixN xs.length (j:Int)=some j:=by
  unfold ixN
  rw [if_pos (by omega),if_pos (by omega)]; simp
 unfold atI; rw [e]; exact h
def yh (b:Expr):Prop:=∀ o i,subscripted b false o i=operate [o,i] (getItem o i)
def IxR (X:Cx) (r:R2):Prop:=
 ∀ (value slice:Expr) (pins:List (Addr × Obj)) (s:Shared) (σ:St) (H:Hp) (x y:V) (v u:Value) (Q:VK),Inv X pins σ H s→RelV x v→RelV y u→r x y H Q→
  subscripted slice false v u=operate [v,u] (getItem v u)→wpAny (model X.prog X.w) X.A (subscriptTail value slice v u) (EP X pins σ Q) X.xe s
def MtR (X:Cx) (id:String) (r:V→List V→Hp→VK→Prop):Prop:=
 ∀ (pins:List (Addr × Obj)) (s:Shared) (σ:St) (H:Hp) (x:V) (xs:List V) (v:Value) (us:List Value) (Q:VK),Inv X pins σ H s→RelV x v→Vals xs us→r x xs H Q→
  wpAny (model X.prog X.w) X.A (call (.builtin id) (v::us)) (EP X pins σ Q) X.xe s
section
variable {X:Cx} {a b:Expr} {ta tb:TE} {pos:Pos}
theorem ay {r:R2} (hr:IxR X r) (ha:PE X a ta) (hb:PE X b tb) (hs:yh b):PE X (.Subscript a b pos) (tOp r ta tb):=by
 intro pins s σ H Q I h
 exact Subscript_ (binT ha hb I h fun v u s2 x y H2 I2 rx ry q=>hr a b pins s2 σ H2 x y v u Q I2 rx ry q (hs _ _))
def rIxL (K:PySem.W.Frag):R2:=fun x y H Q=>∃ p xs i v,x=.ref p∧y=.int i∧SqL K H p xs∧atI xs i=some v∧Q v H
def rIxT (K:PySem.W.Frag):R2:=fun x y H Q=>∃ p xs i v,x=.ref p∧y=.int i∧SqT K H p xs∧atI xs i=some v∧Q v H
def rIxS:R2:=fun x y H Q=>∃ z i c,x=.str z∧y=.int i∧z.length≤sizeLine∧atI z.cps.toList i=some c∧Q (.str ⟨#[c]⟩) H
theorem qj:IxR X (rIxL X.K):=by
 intro value slice pins s σ H x y v u Q I rx ry h hs
 obtain ⟨p,xs,i,z,rfl,rfl,hq,he,q⟩:=h
 cases rx
 obtain ⟨t,rfl⟩:=ry
 obtain ⟨its,r,pl,hz⟩:=I.list hq
 obtain ⟨j,h1,h2,h3,h4,h5⟩:=qi he
 obtain ⟨w,ew,rw'⟩:=r.get h2
 have hl:=r.length
 have hn:=l4
 have fin:EP X pins σ Q w s:=⟨z,H,I,rw',q⟩
 by_cases h0:0≤i
 · have hj:i.toNat=j:=by
    rw [seqIndex_of h0 h5] at h1
    exact Option.some.inj h1
   exact item_listR pl.isList h0 (by omega) (by rw [hj]; simpa using ew) fin hs
 · have hj:(i+(its.toArray.size:Int)).toNat=j:=by
    rw [seqIndex_neg (by omega) h4] at h1
    rw [List.size_toArray,← hl]
    exact Option.some.inj h1
   exact subscriptTail_builtinR (x:=w) pl.isList.typeIs slot_list_getitem.lookup
    (wpAny_getItem_list_neg (Q:=fun r s'=>r=w∧EP X pins σ Q r s') pl.isList (by omega) (by rw [List.size_toArray] <;> omega) (by omega) (by rw [hj]; simpa using ew) ⟨rfl,fin⟩) hs
theorem yX:IxR X (rIxT X.K):=by
 intro value slice pins s σ H x y v u Q I rx ry h hs
 obtain ⟨p,xs,i,z,rfl,rfl,hq,he,q⟩:=h
 cases rx
 obtain ⟨t,rfl⟩:=ry
 obtain ⟨its,r,pl,hz⟩:=I.tuple hq
 obtain ⟨j,h1,h2,h3,h4,h5⟩:=qi he
 obtain ⟨w,ew,rw'⟩:=r.get h2
 have hl:=r.length
 have hn:=l4
 have fin:EP X pins σ Q w s:=⟨z,H,I,rw',q⟩
 exact subscriptTail_builtinR (x:=w) pl.typeIs slot_tuple_getitem.lookup
  (getItem_tuple (j:=j) (Q:=fun r s'=>r=w∧EP X pins σ Q r s') pl (by omega) (by omega) (by rw [List.size_toArray,← hl]; exact h1) (by simpa using ew) ⟨rfl,fin⟩) hs
theorem yY:IxR X rIxS:=by
 intro value slice pins s σ H x y v u Q I rx ry h hs
 obtain ⟨z,i,c,rfl,rfl,hz,he,q⟩:=h
 obtain ⟨t,rfl⟩:=rx
 obtain ⟨t',rfl⟩:=ry
 obtain ⟨j,h1,h2,h3,h4,h5⟩:=qi he
 have hl:z.cps.toList.length=z.length:=by simp [Str.length]
 rw [hl] at h1 h4 h5
 have hn:=l4
 exact tail_any (typeIs_str s z t) slot_str_getitem.lookup (getItem_str (c:=c) (by
  have e1:decide (i < -(2^63:Int))=false:=decide_eq_false (by omega)
  have e2:decide (i ≥ 2^63)=false:=decide_eq_false (by omega)
  rw [e1,e2,Bool.or_false]) (by rw [h1]; simpa using h2) ⟨.str ⟨#[c]⟩,H,I.tok _,⟨_,rfl⟩,q⟩) hs
theorem Inv.lst {pins:List (Addr × Obj)} {σ:St} {H:Hp} {s:Shared} {p:Addr} {xs:List V} (I:Inv X pins σ H s) (h:H p=some (.lst xs)):
  ∃ (its:List Value) (n:Nat),Vals xs its∧s.heap.get? p=some { cls:=.type "list",data:=.seq its.toArray n }∧xs.length≤sizeLine:=by
 obtain ⟨z,its,n,r,e⟩:=I.hok p _ h
 exact ⟨its,n,r,e,z⟩
theorem sK (lo hi:Option Int) (n:Nat):(sliceBounds lo hi none n).1=((HT.sIx n 0 lo:Nat):Int)∧(sliceBounds lo hi none n).2.1=((HT.sIx n n hi:Nat):Int)∧(sliceBounds lo hi none n).2.2=1:=by
 refine ⟨?_,?_,rfl⟩
 · cases lo with
   | none=>simp [sliceBounds,HT.sIx]
   | some i=>
    simp only [sliceBounds,HT.sIx,Option.getD_none,show (1:Int) > 0 by decide,if_true]
    by_cases h:i < 0
    · simp only [h,if_true] <;> omega
    · simp only [h,if_false] <;> omega
 · cases hi with
   | none=>simp [sliceBounds,HT.sIx]
   | some i=>
    simp only [sliceBounds,HT.sIx,Option.getD_none,show (1:Int) > 0 by decide,if_true]
    by_cases h:i < 0
    · simp only [h,if_true] <;> omega
    · simp only [h,if_false] <;> omega
theorem rK (its:List Value) (lo hi:Option Int):slicePick its.toArray lo hi none=((its.drop (HT.sIx its.length 0 lo)).take (HT.sIx its.length its.length hi - HT.sIx its.length 0 lo)).toArray:=by
 obtain ⟨h1,h2,h3⟩:=sK lo hi its.toArray.size
 unfold slicePick
 rw [h1,h2,h3]
 simp only [sliceRange_one,pick_run,List.size_toArray] <;> rfl
def rSlL (K:PySem.W.Frag):V→Option Int→Option Int→Hp→VK→Prop:=fun x lo hi H Q=>∃ a xs,x=.ref a∧SqL K H a xs∧∀ p,H p=none→Q (.ref p) (upd H p (.lst (cutV xs lo hi)))
theorem yj:SlR X (rSlL X.K):=by
 intro pins s σ H x v vl vu lo hi sl Q I rx hs pl pu h
 obtain ⟨a,xs,rfl,hx,q⟩:=h
 cases rx
 obtain ⟨its,r,ht,hz⟩:=I.list hx
 have hlen:=r.length
 refine ⟨"list",_,slot_list_getitem.lookup,ht.isList.typeIs,?_⟩
 refine wpAny_getItem_list_slice ht.isList hs pl pu .none (by simp) ?_ (by rw [List.size_toArray] <;> omega)
 rw [rK,← hlen]
 refine ⟨.ref s.heap.objs.size,_,I.laid (t':=s.toks) (o:=.lst (cutV xs lo hi)) (fun b ob q=>Heap.get?_push_of_some _ q) (Nat.le_refl _) ?_,rfl,q _ (I.hok.fresh (Nat.le_refl _))⟩
 exact ⟨Nat.le_trans (uo xs lo hi) hz,_,0,(r.drop (HT.sIx xs.length 0 lo)).take (HT.sIx xs.length xs.length hi - HT.sIx xs.length 0 lo),Heap.get?_push_size _ rfl⟩
def flatV:V→Bool
 | .non=>true
 | .bl _=>true
 | .int _=>true
 | .str _=>true
 | _=>false
def eqV:V→V→Bool
 | .non,.non=>true
 | .bl a,.bl b=>a==b
 | .bl a,.int b=>(if a then 1 else 0)==b
 | .int a,.bl b=>a==(if b then 1 else 0)
 | .int a,.int b=>a==b
 | .str a,.str b=>a==b
 | _,_=>false
theorem yZ {A:Around} {s:Shared} {y x:V} {u v:Value} (ry:RelV y u) (rx:RelV x v) (fy:flatV y=true) (fx:flatV x=true):SeqAt.EqAt A s u v (eqV y x):=by
 cases y with
 | non=>
  cases ry
  cases x with
  | non=>cases rx; exact SeqAt.EqAt.same _
  | bl b=>cases rx; exact SeqAt.EqAt.none_bool b
  | int b=>obtain ⟨t,rfl⟩:=rx; exact SeqAt.EqAt.none_int b t
  | str b=>obtain ⟨t,rfl⟩:=rx; exact SeqAt.EqAt.none_str b t
  | _=>exact absurd (show false=true from fx) Bool.false_ne_true
 | bl a=>
  cases ry
  cases x with
  | non=>cases rx; exact SeqAt.EqAt.bool_none a
  | bl b=>cases rx; exact SeqAt.EqAt.bool_bool a b
  | int b=>obtain ⟨t,rfl⟩:=rx; exact SeqAt.EqAt.bool_int a b t
  | str b=>obtain ⟨t,rfl⟩:=rx; exact SeqAt.EqAt.bool_str a b t
  | _=>exact absurd (show false=true from fx) Bool.false_ne_true
 | int a=>
  obtain ⟨t',rfl⟩:=ry
  cases x with
  | non=>cases rx; exact SeqAt.EqAt.int_none a t'
  | bl b=>cases rx; exact SeqAt.EqAt.int_bool a t' b
  | int b=>obtain ⟨t,rfl⟩:=rx; exact SeqAt.EqAt.int_int a t' b t
  | str b=>obtain ⟨t,rfl⟩:=rx; exact SeqAt.EqAt.int_str a t' b t
  | _=>exact absurd (show false=true from fx) Bool.false_ne_true
 | str a=>
  obtain ⟨t',rfl⟩:=ry
  cases x with
  | non=>cases rx; exact SeqAt.EqAt.str_none a t'
  | bl b=>cases rx; exact SeqAt.EqAt.str_bool a t' b
  | int b=>obtain ⟨t,rfl⟩:=rx; exact SeqAt.EqAt.str_int a t' b t
  | str b=>obtain ⟨t,rfl⟩:=rx; exact SeqAt.EqAt.str_str a t' b t
  | _=>exact absurd (show false=true from fx) Bool.false_ne_true
 | _=>exact absurd (show false=true from fy) Bool.false_ne_true
def eqU (x:V) (u:Value):Bool:=match u with
 | .none=>eqV .non x
 | .bool b=>eqV (.bl b) x
 | .int i _=>eqV (.int i) x
 | .str z _=>eqV (.str z) x
 | _=>false
theorem wp {x y:V} {u:Value} (r:RelV y u) (f:flatV y=true):eqU x u=eqV y x:=by
 cases y with
 | non=>cases r; rfl
 | bl b=>cases r; rfl
 | int i=>obtain ⟨t,rfl⟩:=r; rfl
 | str z=>obtain ⟨t,rfl⟩:=r; rfl
 | _=>exact absurd (show false=true from f) Bool.false_ne_true
theorem kY {x:V}:∀ {xs:List V} {us:List Value},Vals xs us→xs.all flatV=true→us.any (eqU x)=xs.any fun y=>eqV y x
 | _,_,.nil,_=>rfl
 | y::xs,u::us,.cons r t,f=>by
  rw [List.all_cons,Bool.and_eq_true] at f
  rw [List.any_cons,List.any_cons,wp r f.1,kY t f.2]
theorem j4 {A:Around} {s:Shared} {x:V} {v:Value} (rx:RelV x v) (fx:flatV x=true):∀ {xs:List V} {us:List Value},Vals xs us→xs.all flatV=true→∀ u∈us,SeqAt.EqAt A s u v (eqU x u)
 | _,_,.nil,_=>fun u hu=>by cases hu
 | y::xs,u::us,.cons r t,f=>fun u' hu=>by
  rw [List.all_cons,Bool.and_eq_true] at f
  rcases List.mem_cons.mp hu with rfl | hu
  · rw [wp r f.1]; exact yZ r rx f.1 fx
  · exact j4 rx fx t f.2 u' hu
def inV (x:V) (xs:List V):Bool:=xs.any fun y=>eqV y x
def rIn (K:PySem.W.Frag) (neg:Bool):R2:=fun x y H Q=>∃ p xs,y=.ref p∧(SqL K H p xs∨SqT K H p xs)∧flatV x=true∧xs.all flatV=true∧Q (.bl (if neg then !inV x xs else inV x xs)) H
theorem rj:OpR X (compareOp .In) (rIn X.K false):=by
 intro pins s σ H x y v u Q I rx ry h
 obtain ⟨p,xs,rfl,hq,fx,fs,q⟩:=h
 cases ry
 rcases hq with hq | hq
 · obtain ⟨its,r,pl,hz⟩:=I.list hq
   refine SeqAt.in_listAt (eqU x) pl.isList (fun w hw=>j4 rx fx r fs w (by simpa using hw)) ⟨.bl _,H,I,rfl,?_⟩
   rw [show its.toArray.any (eqU x)=its.any (eqU x) by simp,kY r fs]
   exact q
 · obtain ⟨its,r,pl,hz⟩:=I.tuple hq
   refine SeqAt.in_tupleAt (eqU x) pl (fun w hw=>j4 rx fx r fs w (by simpa using hw)) ⟨.bl _,H,I,rfl,?_⟩
   rw [show its.toArray.any (eqU x)=its.any (eqU x) by simp,kY r fs]
   exact q
theorem sL:OpR X (compareOp .NotIn) (rIn X.K true):=by
 intro pins s σ H x y v u Q I rx ry h
 obtain ⟨p,xs,rfl,hq,fx,fs,q⟩:=h
 cases ry
 rcases hq with hq | hq
 · obtain ⟨its,r,pl,hz⟩:=I.list hq
   refine SeqAt.notIn_listAt (eqU x) pl.isList (fun w hw=>j4 rx fx r fs w (by simpa using hw)) ⟨.bl _,H,I,rfl,?_⟩
   rw [show its.toArray.any (eqU x)=its.any (eqU x) by simp,kY r fs]
   exact q
 · obtain ⟨its,r,pl,hz⟩:=I.tuple hq
   refine SeqAt.notIn_tupleAt (eqU x) pl (fun w hw=>j4 rx fx r fs w (by simpa using hw)) ⟨.bl _,H,I,rfl,?_⟩
   rw [show its.toArray.any (eqU x)=its.any (eqU x) by simp,kY r fs]
   exact q
theorem gr:CallR X (.builtin "len") (fun xs H Q=>∃ p ys,xs=[.ref p]∧(SqL X.K H p ys∨SqT X.K H p ys)∧Q (.int ys.length) H):=by
 intro pins s σ H xs us Q I r h
 obtain ⟨p,ys,rfl,hq,q⟩:=h
 obtain ⟨u,rfl,rx⟩:=cR r
 cases rx
 have hn:=l4
 rcases hq with hq | hq
 · obtain ⟨its,r',pl,hz⟩:=I.list hq
   have hlen:=r'.length
   exact Calls.call_len_list pl.isList (by simp only [List.size_toArray] <;> omega) ⟨.int ys.length,H,I.tok _,⟨s.toks+1,by rw [List.size_toArray,hlen]⟩,q⟩
 · obtain ⟨its,r',pl,hz⟩:=I.tuple hq
   have hlen:=r'.length
   exact len_tuple pl (by simp only [List.size_toArray] <;> omega) ⟨.int ys.length,H,I.tok _,⟨s.toks+1,by rw [List.size_toArray,hlen]⟩,q⟩
theorem sM:CallR X (.builtin "len") (fun xs H Q=>∃ z,xs=[.str z]∧z.length≤sizeLine∧Q (.int z.length) H):=by
 intro pins s σ H xs us Q I r h
 obtain ⟨z,rfl,hz,q⟩:=h
 obtain ⟨u,rfl,t,rfl⟩:=cR r
 have hn:=l4
 exact len_str (by omega) ⟨.int z.length,H,I.tok _,⟨_,rfl⟩,q⟩
theorem sO:CallR X (.type "list") (fun xs H Q=>∃ p ys,xs=[.ref p]∧(SqL X.K H p ys∨SqT X.K H p ys)∧∀ l,H l=none→Q (.ref l) (upd H l (.lst ys))):=by
 intro pins s σ H xs us Q I r h
 obtain ⟨p,ys,rfl,hq,q⟩:=h
 obtain ⟨u,rfl,rx⟩:=cR r
 cases rx
 have fin:∀ (its:List Value),Vals ys its→ys.length≤sizeLine→∀ (h':Heap) (c':Nat),(∀ b o',s.heap.get? b=some o'→h'.get? b=some o')→
   h'.get? s.heap.objs.size=some { cls:=.type "list",dict:=none,data:=.seq its.toArray c',slots:=#[] }→EP X pins σ Q (.ref s.heap.objs.size) { s with heap:=h' }:=fun its r' hz h' c' kp e=>
  ⟨.ref s.heap.objs.size,_,I.laid (t':=s.toks) kp (Nat.le_refl _) (show ObjOk X.prog X.w _ h' _ (.lst ys) from ⟨hz,its,c',r',e⟩),rfl,q _ (I.hok.fresh (Nat.le_refl _))⟩
 rcases hq with hq | hq
 · obtain ⟨its,r',pl,hz⟩:=I.list hq
   have hlen:=r'.length
   obtain ⟨o,ho,hc,n,hd⟩:=pl.isList
   exact call_list_seq p (.inl rfl) ho hc hd (fun h' c' kp e=>fin its r' hz h' c' kp e) (by simp only [List.size_toArray] <;> omega)
 · obtain ⟨its,r',pl,hz⟩:=I.tuple hq
   have hlen:=r'.length
   obtain ⟨o,ho,hc,n,hd⟩:=pl
   exact call_list_seq p (.inr rfl) ho hc hd (fun h' c' kp e=>fin its r' hz h' c' kp e) (by simp only [List.size_toArray] <;> omega)
theorem rL:CallR X (.type "tuple") (fun xs H Q=>∃ p ys,xs=[.ref p]∧((SqL X.K H p ys∧∀ l,H l=none→Q (.ref l) (upd H l (.tup ys)))∨(SqT X.K H p ys∧Q (.ref p) H))):=by
 intro pins s σ H xs us Q I r h
 obtain ⟨p,ys,rfl,h⟩:=h
 obtain ⟨u,rfl,rx⟩:=cR r
 cases rx
 rcases h with ⟨hq,q⟩ | ⟨hq,q⟩
 · obtain ⟨its,r',pl,hz⟩:=I.list hq
   have hlen:=r'.length
   refine call_tuple_list pl.isList (fun h' kp=>?_) (by simp only [List.size_toArray] <;> omega)
   have I1:Inv X pins σ H { s with heap:=h' }:=I.kept (t':=s.toks) kp
   have I2:Inv X pins σ (upd H h'.objs.size (.tup ys)) { s with heap:=h'.push { cls:=.type "tuple",data:=.seq its.toArray } }:=
    I1.laid (t':=s.toks) (fun b o e=>Heap.get?_push_of_some _ e) (Nat.le_refl _) (show ObjOk X.prog X.w _ _ _ (.tup ys) from ⟨hz,its,r',IsTup.new _ _⟩)
   exact ⟨.ref h'.objs.size,_,I2,rfl,q _ (I1.hok.fresh (Nat.le_refl _))⟩
 · obtain ⟨its,r',pl,hz⟩:=I.tuple hq
   exact call_tuple_same pl ⟨.ref p,H,I,rfl,q⟩
def tyV (K:PySem.W.Frag) (T:String) (x:V) (H:Hp):Prop:=match x with
 | .str _=>T="str"
 | .int _=>T="int"
 | .ref p=>(T="list"∧∃ xs,SqL K H p xs)∨(T="tuple"∧∃ o,K.lookup p=some o∧o.cls=.type "tuple"∧o.dict=none)∨
   (T="dict"∧((∃ kvs,H p=some (.dK kvs))∨∃ kvs,H p=some (.dT kvs)))∨(T="set"∧∃ S n,H p=some (.set S n))
 | _=>False
theorem y0 {pins:List (Addr × Obj)} {σ:St} {H:Hp} {s:Shared} {T:String} {x:V} {v:Value} (I:Inv X pins σ H s) (r:RelV x v) (ty:tyV X.K T x H):
  s.TypeIs v T∧∀ a,v=.ref a→∃ ob,s.heap.get? a=some ob∧ob.dict=none:=by
 cases x with
 | str z=>
  obtain ⟨t,rfl⟩:=r
  cases (show T="str" from ty)
  exact ⟨typeIs_str s z t,fun _ e=>nomatch e⟩
 | int i=>
  obtain ⟨t,rfl⟩:=r
  cases (show T="int" from ty)
  exact ⟨typeIs_int s i t,fun _ e=>nomatch e⟩
 | ref p=>
  cases r
  rcases ty with ⟨rfl,xs,hq⟩ | ⟨rfl,o,hk,hc,hd⟩ | ⟨rfl,hk⟩ | ⟨rfl,S,n,hk⟩
  · obtain ⟨its,_,pl,_⟩:=I.list hq
    refine ⟨pl.isList.typeIs,fun a e=>?_⟩
    cases e
    obtain ⟨o,n,e,c,hd,_⟩:=pl
    exact ⟨o,e,hd⟩
  · refine ⟨⟨o,I.kIn p o hk,hc⟩,fun a e=>?_⟩
    cases e
    exact ⟨o,I.kIn _ o hk,hd⟩
  · have z:∃ o,s.heap.get? p=some o∧o.ExactDict:=by
     rcases hk with ⟨kvs,hk⟩ | ⟨kvs,hk⟩
     · obtain ⟨_,_,_,_,o,_,_,e,ex,_⟩:=I.hok p _ hk
       exact ⟨o,e,ex⟩
     · obtain ⟨_,_,_,_,o,_,_,e,ex,_⟩:=I.hok p _ hk
       exact ⟨o,e,ex⟩
    obtain ⟨o,e,ex⟩:=z
    refine ⟨⟨o,e,ex.1⟩,fun a e2=>?_⟩
    cases e2
    exact ⟨o,e,ex.2.1⟩
  · obtain ⟨o,_,_,_,e,ex,_⟩:=I.hok p _ hk
    refine ⟨⟨o,e,ex.1⟩,fun a e2=>?_⟩
    cases e2
    exact ⟨o,e,ex.2.1⟩
 | _=>exact False.elim ty
def Ai (K:PySem.W.Frag) (T:String) (r:V→List V→Hp→VK→Prop) (to:TE):TE:=fun σ H Q=>to σ H fun x H1=>tyV K T x H1∧r x [] H1 Q
def tBM (K:PySem.W.Frag) (T:String) (r:V→List V→Hp→VK→Prop) (to:TE) (t:TA):TE:=fun σ H Q=>to σ H fun x H1=>tyV K T x H1∧t σ H1 fun xs H2=>r x xs H2 Q
variable {o e:Expr} {es:List Expr} {to:TE} {t:TA} {name:Str} {apos cpos:Pos} {T id:String} {r:V→List V→Hp→VK→Prop}
theorem de (pa:PlainAttrs T) (slot:Slot T name id) (hty:typeOf (.builtin id)=pure (.type "method_descriptor")) (hm:MtR X id r) (ho:PE X o to) (ha:PA X (e::es) t)
  (hbase:attributeBase o name X.env (eval o X.env)=eval o X.env:=by rfl)
  (hfew:((backTo cpos (starEach (e::es) X.env)).all (fun x=>!x.1)&&(backToKw cpos (keywordEach [] X.env)).all (fun x=>x.1.isSome)
   &&decide ((e::es).length+([]:List Keyword).length+(if ([]:List Keyword).isEmpty then 0 else 1) < 30))=true:=by rfl)
  (hline:(apos.endLine==cpos.line)=true:=by rfl) (hs:starEach (e::es) X.env=(false,eval e X.env)::starEach es X.env:=by rfl) (hplain:(backTo cpos (starEach es X.env)).any (·.1)=false:=by rfl):
  PE X (.Call (.Attribute o name apos) (e::es) [] cpos) (tBM X.K T r to t):=by
 intro pins s σ H Q I h
 refine wpAny_Call_method_late hbase hfew hline rfl (thn (ho pins s σ H _ I h) fun v s1 ⟨x,H1,I1,r1,ty,q1⟩=>?_)
 obtain ⟨h1,h2⟩:=y0 I1 r1 ty
 refine ⟨T,id,pa,slot,hty,h1,h2,?_⟩
 have hA:=ha cpos pins s1 σ H1 _ I1 q1
 rw [hs] at hA ⊢
 refine Calls.callWith_builtin (by show (false||(backTo cpos (starEach es X.env)).any (·.1))=false; rw [hplain] <;> rfl) (Calls.evalArgs_plain ?_)
 exact thn hA fun us s2 ⟨vs,H2,I2,r2,q2⟩=>hm pins s2 σ H2 x vs v us Q I2 r1 r2 q2
end
end L2
namespace L2
open PySem PySem.Spec PyProof.Rows
def MtM (X:Cx) (id:String) (r:V→List V→Hp→VK→Prop):Prop:=
 ∀ (pins:List (Addr × Obj)) (s:Shared) (σ:St) (H:Hp) (x:V) (xs:List V) (v:Value) (us:List Value) (Q:VK),Inv X pins σ H s→RelV x v→Vals xs us→r x xs H Q→
  wpAny (model X.prog X.w) X.A (call (.builtin id) (v::us)) (EP X pins σ Q) X.xe s
theorem Vals.one:∀ {x:V} {us:List Value},Vals [x] us→∃ u,us=[u]∧RelV x u
 | _,_,.cons r .nil=>⟨_,rfl,r⟩
theorem Vals.eraseIdx:∀ {xs:List V} {us:List Value} (i:Nat),Vals xs us→Vals (xs.eraseIdx i) (us.eraseIdx i)
 | _,_,_,.nil=>.nil
 | _,_,0,.cons _ t=>t
 | _,_,i+1,.cons r t=>.cons r (Vals.eraseIdx i t)
theorem Vals.rep {xs:List V} {us:List Value} (h:Vals xs us):∀ k:Nat,Vals (List.replicate k xs).flatten (List.replicate k us).flatten
 | 0=>.nil
 | k+1=>by
  rw [List.replicate_succ,List.replicate_succ,List.flatten_cons,List.flatten_cons]
  exact Vals.append h (Vals.rep h k)
theorem rk {α:Type}:∀ (l:List α) (i:Nat),(l.eraseIdx i).length≤l.length
 | [],_=>Nat.le_refl _
 | _::_,0=>Nat.le_succ _
 | _::r,i+1=>Nat.succ_le_succ (rk r i)
theorem rl (its:List Value):∀ (k:Nat) (acc:List Value),
  List.foldl (fun x1 x2=>x1++x2) acc.toArray (List.replicate k its.toArray)=(acc++(List.replicate k its).flatten).toArray
 | 0,acc=>by simp
 | k+1,acc=>by
  have e:acc.toArray++its.toArray=(acc++its).toArray:=by simp
  have e2:(acc++its)++(List.replicate k its).flatten=acc++(List.replicate (k+1) its).flatten:=by
   rw [List.replicate_succ,List.flatten_cons,List.append_assoc]
  rw [← e2,← rl its k (acc++its),← e,List.replicate_succ,List.foldl_cons]
section
variable {X:Cx} {pins:List (Addr × Obj)} {σ:St} {H:Hp} {s:Shared} {l b:Addr} {xs ys zs:List V}
theorem Inv.lset {its its':List Value} {n:Nat} {f:Array Value→Array Value} {t':Nat} (I:Inv X pins σ H s) (hH:H l=some (.lst xs))
  (e:s.heap.get? l=some { cls:=.type "list",data:=.seq its.toArray n }) (hf:f its.toArray=its'.toArray) (hv:Vals ys its') (hz:ys.length≤sizeLine):
  Inv X pins σ (upd H l (.lst ys)) { s with heap:=s.heap.update l (Obj.mapSeq f),toks:=t' }:=by
 have q:=PySem.IsL.update e f
 rw [hf] at q
 refine I.write (x:=l) (e:=l) (by rw [hH]; exact trivial) (.inl rfl) (fun b' u hb hu=>(Heap.get?_update_other s.heap (Obj.mapSeq f) (Ne.symm hb)).trans hu) ⟨_,q⟩ ?_
 exact ⟨hz,its',_,hv,q⟩
theorem Inv.lnew {its:List Value} {t':Nat} (I:Inv X pins σ H s) (hv:Vals ys its) (hz:ys.length≤sizeLine):
  Inv X pins σ (upd H s.heap.objs.size (.lst ys)) { s with heap:=s.heap.push { cls:=.type "list",data:=.seq its.toArray },toks:=t' }:=
 I.laid (fun _ _ q=>Heap.get?_push_of_some _ q) (Nat.le_refl _) ⟨hz,its,0,hv,Heap.get?_push_size _ rfl⟩
theorem Inv.fresh (I:Inv X pins σ H s):H s.heap.objs.size=none:=I.hok.fresh (Nat.le_refl _)
theorem Inv.lstM (I:Inv X pins σ H s) (hH:H l=some (.lst xs)):xs.length≤sizeLine∧∃ (its:List Value) (n:Nat),Vals xs its∧xs.length=its.length∧s.heap.get? l=some { cls:=.type "list",data:=.seq its.toArray n }:=by
 obtain ⟨z,its,n,r,e⟩:=I.hok l _ hH
 exact ⟨z,its,n,r,r.length,e⟩
theorem sP {n:Nat} (h:n≤sizeLine):Builtin.List.listTooLong n=false:=by
 unfold Builtin.List.listTooLong
 exact decide_eq_false (by omega)
end
section
variable {X:Cx}
def yk:V→List V→Hp→VK→Prop:=fun x vs H Q=>∃ l xs y,x=.ref l∧vs=[y]∧H l=some (.lst xs)∧xs.length < sizeLine∧Q .non (upd H l (.lst (xs++[y])))
theorem rm:MtM X "list.append" yk:=by
 intro pins s σ H x vs v us Q I rx rv h
 obtain ⟨l,xs,y,rfl,rfl,hH,hz,q⟩:=h
 cases rx
 obtain ⟨u,rfl,ru⟩:=rv.one
 obtain ⟨z,its,n,r,hl,e⟩:=I.lstM hH
 refine call_meets F.slot_list_append ⟨_,e,rfl⟩ F.entry_list_append (F.args_list_append_2 _ _) (PySem.list_append l its.toArray n u (by rw [List.size_toArray]; omega)) ⟨e,?_⟩
 refine ⟨.non,_,I.lset (its':=its++[u]) hH e (by simp) (r.append (.cons ru .nil)) ?_,rfl,q⟩
 rw [List.length_append,List.length_singleton]
 omega
def ym:V→List V→Hp→VK→Prop:=fun x vs H Q=>∃ l b xs zs,x=.ref l∧vs=[.ref b]∧H l=some (.lst xs)∧H b=some (.lst zs)∧xs.length+zs.length≤sizeLine∧Q .non (upd H l (.lst (xs++zs)))
theorem wq:MtM X "list.extend" ym:=by
 intro pins s σ H x vs v us Q I rx rv h
 obtain ⟨l,b,xs,zs,rfl,rfl,hH,hB,hz,q⟩:=h
 cases rx
 obtain ⟨u,rfl,ru⟩:=rv.one
 cases ru
 obtain ⟨z,its,n,r,hl,e⟩:=I.lstM hH
 obtain ⟨z2,its2,n2,r2,hl2,e2⟩:=I.lstM hB
 have hsz:its.toArray.size+its2.toArray.size≤sizeLine:=by rw [List.size_toArray,List.size_toArray]; omega
 have hlong:¬ (!its.toArray.isEmpty&&Builtin.List.listTooLong (its.toArray.size+its2.toArray.size))=true:=by
  rw [sP hsz,Bool.and_false]
  exact Bool.false_ne_true
 refine call_meets F.slot_list_extend ⟨_,e,rfl⟩ F.entry_list_extend (F.args_list_extend_2 _ _)
  (AutoSeq1.list_extend_list_list_0 l its.toArray n b its2.toArray n2 hlong (by rw [List.size_toArray]; omega) (by omega)) ⟨e,e2,?_⟩
 refine ⟨.non,_,I.lset (its':=its++its2) hH e (by simp) (r.append r2) ?_,rfl,q⟩
 rw [List.length_append]
 omega
def y7:V→List V→Hp→VK→Prop:=fun x vs H Q=>∃ l xs i k y,x=.ref l∧vs=[.int i]∧H l=some (.lst xs)∧ -(2^63)≤i∧i < 2^63∧seqIndex? i xs.length=some k∧xs[k]? =some y∧Q y (upd H l (.lst (xs.eraseIdx k)))
theorem xu:MtM X "list.pop" y7:=by
 intro pins s σ H x vs v us Q I rx rv h
 obtain ⟨l,xs,i,k,y,rfl,rfl,hH,h1,h2,hk,hy,q⟩:=h
 cases rx
 obtain ⟨u,rfl,ru⟩:=rv.one
 obtain ⟨t,rfl⟩:=ru
 obtain ⟨z,its,n,r,hl,e⟩:=I.lstM hH
 obtain ⟨w,hw,rw'⟩:=r.get hy
 refine call_meets F.slot_list_pop ⟨_,e,rfl⟩ F.entry_list_pop (F.args_list_pop_2 _ _)
  (MeetsSeq.list_pop_at l its.toArray n i t k w (fitsIndex_both h1 h2) (by rw [List.size_toArray,← hl]; exact hk) (by rw [← Array.getElem?_toList]; exact hw) (by rw [List.size_toArray]; omega)) ⟨e,?_⟩
 refine ⟨y,_,I.lset (its':=its.eraseIdx k) hH e ?_ (r.eraseIdx k) ?_,rw',q⟩
 · show its.toArray.eraseIdxIfInBounds k=(its.eraseIdx k).toArray
   rw [List.eraseIdxIfInBounds_toArray]
 · have:=rk xs k
   omega
def rCat:R2:=fun x y H Q=>∃ l b xs zs,x=.ref l∧y=.ref b∧H l=some (.lst xs)∧H b=some (.lst zs)∧xs.length+zs.length≤sizeLine∧∀ p,H p=none→Q (.ref p) (upd H p (.lst (xs++zs)))
theorem y8:OpR X (binaryOp .Add) rCat:=by
 intro pins s σ H x y v u Q I rx ry h
 obtain ⟨l,b,xs,zs,rfl,rfl,hH,hB,hz,q⟩:=h
 cases rx
 cases ry
 obtain ⟨z,its,n,r,hl,e⟩:=I.lstM hH
 obtain ⟨z2,its2,n2,r2,hl2,e2⟩:=I.lstM hB
 refine PySem.P.add_list e e2 ?_ (by rw [List.size_toArray,List.size_toArray]; omega)
 have ea:its.toArray++its2.toArray=(its++its2).toArray:=by simp
 rw [ea]
 exact ⟨.ref _,_,I.lnew (t':=s.toks) (r.append r2) (by rw [List.length_append]; omega),rfl,q _ I.fresh⟩
def rRep:R2:=fun x y H Q=>∃ l k xs,x=.ref l∧y=.int k∧H l=some (.lst xs)∧ -(2^63)≤k∧k < 2^63∧xs.length*k.toNat≤sizeLine∧
 ∀ p,H p=none→Q (.ref p) (upd H p (.lst (List.replicate k.toNat xs).flatten))
theorem yn {α:Type} (xs:List α) (k:Nat):(List.replicate k xs).flatten.length=k*xs.length:=by
 induction k with
 | zero=>simp
 | succ k ih=>rw [List.replicate_succ,List.flatten_cons,List.length_append,ih,Nat.succ_mul,Nat.add_comm]
theorem y9:OpR X (binaryOp .Mult) rRep:=by
 intro pins s σ H x y v u Q I rx ry h
 obtain ⟨l,k,xs,rfl,rfl,hH,h1,h2,hz,q⟩:=h
 cases rx
 obtain ⟨t,rfl⟩:=ry
 obtain ⟨z,its,n,r,hl,e⟩:=I.lstM hH
 have hlen:its.toArray.size*k.toNat≤sizeLine:=by rw [List.size_toArray,← hl]; exact hz
 have hcap:¬ its.toArray.size*k.toNat > (2^63 - 1) / 8:=by
  have:(sizeLine:Nat)≤(2^63 - 1) / 8:=by decide
  omega
 have hfit:¬ (!Builtin.List.listFitsIndex k)=true:=by
  rw [fitsIndex_both h1 h2]
  exact Bool.false_ne_true
 have hlong:¬ Builtin.List.listTooLong (its.toArray.size*k.toNat)=true:=by
  rw [sP hlen]
  exact Bool.false_ne_true
 have hnew:List.foldl (fun x1 x2=>x1++x2) #[] (List.replicate (if its.toArray.isEmpty=true then 0 else k.toNat) its.toArray)=(List.replicate k.toNat its).flatten.toArray:=by
  have f0:∀ m:Nat,List.foldl (fun x1 x2=>x1++x2) #[] (List.replicate m its.toArray)=(List.replicate m its).flatten.toArray:=fun m=>by
   have:=rl its m []
   rw [List.nil_append] at this
   exact this
  rw [f0]
  cases its with
  | nil=>simp
  | cons a r'=>rw [if_neg (by simp)]
 refine wpAny_binaryOp_repeat_ref (T:="list") (U:="int") (by decide) ⟨_,e,rfl⟩ (fun s'=>typeIs_int s' k t) noFill_list_mul F.fills_int_mul F.slot_int_rmul repeat_list F.slot_int_index.lookup
  (call_meets F.slot_int_rmul (typeIs_int s k t) F.entry_int_rmul (F.args_int_rmul_2 _ _) (int___rmul___int_list k t l its.toArray n)
   ⟨e,rfl,⟨_,e,rfl⟩,call_meets F.slot_list_mul ⟨_,e,rfl⟩ F.entry_list_mul (F.args_list_mul_2 _ _) (AutoListH.list___mul___list_int_3 l its.toArray n k t hfit hcap hlong) ⟨e,?_⟩⟩)
 rw [hnew]
 exact ⟨.ref _,_,I.lnew (t':=s.toks) (r.rep k.toNat) (by rw [yn,Nat.mul_comm]; exact hz),rfl,q _ I.fresh⟩
end
end L2
namespace Att
open PySem PySem.W PySem.Calls PyProof.Rows
theorem ints_of_wellAll {P:Params} {h:Heap}:∀ (ns:List Int) (vs:List Value),WellAll P h vs (ns.map WData.int)→IntsAre vs ns:=by
 intro ns
 induction ns with
 | nil=>
  intro vs w
  rw [List.map_nil] at w
  cases w
  exact .nil
 | cons n ns ih=>
  intro vs w
  rw [List.map_cons] at w
  cases w with
  | cons a b=>
   cases a
   exact .cons _ _ (ih _ b)
theorem script_of {l:OpenLaw} {n:Nat} (hn:l.most=some n) {P:Params} {h:Heap} {args:List WData} {vals:List Value}
  (hpre:l.row.toRowW.claim.pre args=true) (hwl:WellAll P h vals args):
  ∃ a vs ns,vals=[Value.ref a]∧args=[WData.list (ns.map WData.int)]∧h.get? a=some { cls:=.type "list",data:=.seq vs.toArray }∧IntsAre vs ns∧ns.length≤n:=by
 have hsh:WShape.hasAll [] args [.list .int]=true:=(pre_splitW hpre).1
 have hc:l.pre.holds [] { args:=args }=true:=(pre_splitW hpre).2
 obtain ⟨d,r,rfl,h1,h2⟩:=hasAllW_cons hsh
 obtain rfl:=hasAllW_nil h2
 obtain ⟨xs,rfl,h3⟩:=hasW_list h1
 obtain ⟨ns,rfl⟩:=items_int h3
 have hlen:ns.length≤n:=by
  unfold OpenLaw.pre at hc
  have h4:(WTm.not (.lt (.lit (.int (n:Int))) (.len (.arg 0)))).holds [] { args:=[.list (ns.map .int)] }=true:=by
   have h4:=(holds_andW hc).1
   rw [hn] at h4
   exact h4
  have h5:=condW_of h4 (w_not (w_lt w_lit (w_len_list (w_arg rfl))))
  rw [List.length_map] at h5
  refine Nat.le_of_not_lt fun q=>?_
  have q':(n:Int) < ((ns.length:Nat):Int):=by omega
  first
   | (rw [decide_eq_true q'] at h5; exact absurd h5 (by decide))
   | (simp at h5; omega)
 cases hwl with
 | cons w1 w2=>
  cases w2
  cases w1 with
  | list ho hall=>exact ⟨_,_,ns,rfl,rfl,ho,ints_of_wellAll ns _ hall,hlen⟩
theorem post_true (l:OpenLaw) (args:List WData):l.row.toRowW.claim.post args (.bool true) args=true:=
 postW_of (r:=l.row.toRowW) (X:=(true==true))
  (show WShape.has [] (.bool true) .bool=true by first | rfl | decide | simp [WShape.has,WShape.arms,WShape.armsAll])
  (show (WTm.eq .res (.lit (.bool true))).value [] { args:=args,res:=some (.bool true),after:=args }=some (.bool (true==true)) from w_eq_bool (w_res rfl) w_lit) rfl
theorem attach_call {l:OpenLaw} {n:Nat} {q:Program} {loose:List Str} {XP:(Str→Option Value)→Heap→Prop} {YP:World→Heap→Prop} {d:DefRec}
  (hn:l.most=some n) (hdf:d.params.defaults=[])
  (call:∀ (w:World) (s₀ s₁:Shared) (mg mb:Str→Option Value) (fa:Addr) (o:Obj) (pm cd doc:Value) (a:Addr) (vs:List Value) (ns:List Int),
   Ground q loose [] XP w s₀ mg mb s₁.heap→YP w s₁.heap→
   s₁.heap.get? fa=some o→o.data=.func (docDef d.name d.params d.body d.scope pm cd doc)→s₁.heap.CodeRec cd d.name→mg d.name=some (.ref fa)→
   s₁.heap.get? a=some { cls:=.type "list",data:=.seq vs.toArray }→IntsAre vs ns→ns.length≤n→s₁.gens=#[]→
   codeAny (model l.prog w) callerA (.call (.ref fa) ⟨[.ref a],[]⟩) (fun r s'=>r=.ok (.ret (.bool true))∧OldK s₁.heap s'.heap∧s'.os=s₁.os∧AllBare s'.gens) s₁):
  WalkO q loose XP YP l.row.toRowW d [] (fun f vs=>PySem.call f vs):=by
 intro w s₀ s₁ mg mb G Y fa o pm cd doc dV kV ho hd hcd hD hmg hg args vals as hpre hlay hrd hwl hlo
 obtain rfl:dV=.none:=Dflts.none hD hdf
 obtain rfl:kV=.none:=Dflts.noKw hD
 obtain ⟨a,vs,ns,rfl,rfl,hobj,hints,hlen⟩:=script_of hn hpre hwl
 refine enter_call (codeAny_mono (call w s₀ s₁ mg mb fa o pm cd doc a vs ns G Y ho (fd_plain hd) hcd hmg hobj hints hlen hg) fun r s' hq=>?_)
 obtain ⟨rfl,h2,h3,h4⟩:=hq
 exact ⟨.inl ⟨.bool true,.bool true,[],rfl,fun _=>rfl,.bool true,post_true l _,fun _=>⟨List.Pairwise.nil,fun _ hm=>(nomatch hm)⟩⟩,h2,h3,h4⟩
section
variable {prog:Program} {w:World} {A:Around} {E:Value→Shared→Prop} {s:Shared} {K:Frag}
end
end Att
namespace L2
open PySem PySem.Spec PyProof.Rows
theorem l6:∀ {vs:List Value} {ns:List Int},IntsAre vs ns→Vals (ns.map V.int) vs
 | _,_,.nil=>.nil
 | _,_,.cons n t h=>.cons ⟨t,rfl⟩ (l6 h)
def Only (H:Hp):Prop:=∀ b,H b=none∨∃ o xs,H b=some (.frz o (.lst xs))
theorem xv {P:Program} {w:World} {K:PySem.W.Frag} {mg mb:Str→Option Value} {CX:CXT} {k:Nat} {fa a:Addr} {fd:FuncData} {x:Str} {sp:Sp} {s₁:Shared} {vs:List Value} {ns:List Int}
  (KX:K.In s₁.heap) (hns:s₁.heap.Ns mainGlobals mg) (hb:s₁.heap.Ns builtinsNs mb) (hbb:∀ x:Str,x≠"__name__"→mb x=bootBuiltins x) (hlim:s₁.heap.NoLimit) (hg:s₁.gens=#[])
  (ha:s₁.heap.get? a=some { cls:=.type "list",data:=.seq vs.toArray }) (hi:IntsAre vs ns) (hl:ns.length≤sizeLine) (hr:Room k callerA)
  (F:∀ base:Heap,K.In base→base.Ns mainGlobals mg→FnOk P w K mg base CX k fa fd [x] sp) (hbind:∀ (s:Shared) (u:Value),BindsTo s fd ⟨[u],[]⟩ [(x,u)])
  (hsp:∀ H:Hp,Only H→SqL K H a (ns.map V.int)→sp [.ref a] H (fun v _=>v=.bl true) fun _ _ _=>False)
  (hCX:∀ H e s',CX [] H s₁ (fun _ _ _=>False) e s'→False):
  codeAny (model P w) callerA (.call (.ref fa) ⟨[.ref a],[]⟩) (fun r s'=>r=.ok (.ret (.bool true))∧OldK s₁.heap s'.heap∧s'.os=s₁.os∧AllBare s'.gens) s₁:=by
 have rv:=l6 hi
 have lenV:=hi.length
 have core:∀ H:Hp,Only H→SqL K H a (ns.map V.int)→HOk P w H s₁.heap→(∀ b,H b≠none→b=a)→(H a≠none→K.lookup a=none)→
   codeAny (model P w) callerA (.call (.ref fa) ⟨[.ref a],[]⟩) (fun r s'=>r=.ok (.ret (.bool true))∧OldK s₁.heap s'.heap∧s'.os=s₁.os∧AllBare s'.gens) s₁:=by
  intro H hO hS hok hA hK
  have base_of:∀ {b:Addr} {o:Obj},s₁.heap.get? b=some o→H b=none→(hidT s₁.heap H).get? b=some o:=fun e n=>xl e n
  have noA:∀ {b:Addr} {o:Obj} {es:Array DictEntry} {ep:Nat},s₁.heap.get? b=some o→o.data=.dict es ep→H b=none:=fun {b o es ep} e d=>by
   cases q:H b with
   | none=>rfl
   | some u=>
    have e':b=a:=hA b (by rw [q]; simp)
    subst e'
    rw [ha] at e; cases e
    have d':Data.seq vs.toArray _=Data.dict es ep:=d
    cases d'
  have nsK:∀ {b:Addr} {m:Str→Option Value},s₁.heap.Ns b m→(hidT s₁.heap H).Ns b m:=fun {b m} ⟨o,es,ep,e,d,r⟩=>⟨o,es,ep,base_of e (noA e d),d,r⟩
  have hKb:K.In (hidT s₁.heap H):=fun b o e=>base_of (KX b o e) (by
   cases q:H b with
   | none=>rfl
   | some u=>
    have e':b=a:=hA b (by rw [q]; simp)
    subst e'
    rw [hK (by rw [q]; simp)] at e; cases e)
  have hM:Mod K mg (hidT s₁.heap H):=⟨hKb,nsK hns,⟨mb,nsK hb,hbb⟩,let ⟨mc,h1,h2⟩:=hlim; ⟨mc,nsK h1,h2⟩⟩
  have e0:Env0 P w K mg (hidT s₁.heap H) callerA [] s₁ H:=⟨rfl,hM,fun b o e=>ya e,Nat.le_of_eq (vY _ _),trivial,fun b hb=>absurd (show b∈([]:List Addr) from hb) (by simp),hok,.of_eq hg⟩
  refine codeAny_mono ((F _ hKb (nsK hns)).run callerA [] s₁ H ⟨[.ref a],[]⟩ [.ref a] [.ref a] _ _ hr e0 (hbind s₁ (.ref a)) (.cons rfl .nil) (hsp H hO hS)) fun r s' h=>?_
  cases r with
  | error e=>exact (hCX H e s' h).elim
  | ok fl=>
   cases fl with
   | next=>exact False.elim h
   | brk=>exact False.elim h
   | cont=>exact False.elim h
   | ret u=>
    obtain ⟨v,H',os,bare,un,hok',r',q⟩:=h
    have q':v=.bl true:=q
    subst q'
    obtain rfl:u=Value.bool true:=r'
    refine ⟨rfl,OldK.of_keep fun b o e=>?_,os,bare⟩
    cases q:H b with
    | none=>exact un.keep b o e q (by intro z; exact absurd (show b∈([]:List Addr) from z) (by simp)) (by simp)
    | some u=>
     rcases hO b with z | ⟨ob,xs,z⟩
     · rw [q] at z; cases z
     · have z2:=un.frzs b ob _ z
       obtain ⟨e1,_⟩:=hok b _ z
       obtain ⟨e2,_⟩:=hok' b _ z2
       rw [e] at e1; cases e1
       exact e2
 cases hk:K.lookup a with
 | some o=>
  have e:=KX a o hk
  rw [ha] at e
  cases e
  refine core (fun _=>none) (fun _=>.inl rfl) (.inr ⟨_,vs.toArray,_,hk,rfl,rfl,rfl,by rw [List.size_toArray,lenV]; exact hl,by simpa using rv⟩) (fun b u z=>by have z':(none:Option HO)=some u:=z; cases z') (fun b z=>absurd rfl z) fun z=>absurd rfl z
 | none=>
  refine core (fun b=>if b=a then some (.frz { cls:=.type "list",data:=.seq vs.toArray } (.lst (ns.map V.int))) else none) (fun b=>?_) (.inl (.inr ⟨{ cls:=.type "list",data:=.seq vs.toArray },if_pos rfl⟩)) (fun b u z=>?_) (fun b z=>?_) fun _=>hk
  · by_cases hb:b=a
    · exact .inr ⟨_,_,if_pos hb⟩
    · exact .inl (if_neg hb)
  · by_cases hb:b=a
    · have z':=(if_pos hb).symm.trans z
      cases z'
      subst hb
      exact ⟨ha,by rw [List.length_map]; exact hl,vs,_,rv,ha⟩
    · have z':=(if_neg hb).symm.trans z
      cases z'
  · by_cases hb:b=a
    · exact hb
    · exact absurd (if_neg hb) z
end L2
namespace L2
open PySem PySem.Spec PyProof.Rows
theorem yo {l:PySem.W.OpenLaw} {n k:Nat} {q:Program} {loose:List Str} {XP:(Str→Option Value)→Heap→Prop} {YP:World→Heap→Prop} {d:DefRec} {K:Params→PySem.W.Frag} {CX:World→CXT} {sp:World→Sp} {x:Str}
  (hn:l.most=some n) (hn2:n≤sizeLine) (hdf:d.params.defaults=[]) (hr:Room k callerA)
  (hY:∀ (w:World) (h:Heap),YP w h→(K w.params).In h)
  (F:∀ (w:World) (mg:Str→Option Value) (fa:Addr) (h:Heap),(K w.params).In h→h.Ns mainGlobals mg→mg d.name=some (.ref fa)→
   ∃ fd:FuncData,(∀ (s:Shared) (u:Value),BindsTo s fd ⟨[u],[]⟩ [(x,u)])∧
    ∀ base:Heap,(K w.params).In base→base.Ns mainGlobals mg→FnOk l.prog w (K w.params) mg base (CX w) k fa fd [x] (sp w))
  (hsp:∀ (w:World) (H:Hp) (a:Addr) (ns:List Int),ns.length≤n→Only H→SqL (K w.params) H a (ns.map V.int)→sp w [.ref a] H (fun v _=>v=.bl true) fun _ _ _=>False)
  (hCX:∀ (w:World) (H:Hp) (s:Shared) (e:Value) (s':Shared),CX w [] H s (fun _ _ _=>False) e s'→False):
  PySem.W.WalkO q loose XP YP l.row.toRowW d [] (fun f vs=>PySem.call f vs):=by
 refine Att.attach_call hn hdf fun w s₀ s₁ mg mb fa o pm cd doc a vs ns G Y ho hd hcd hmg hobj hints hlen hg=>?_
 have KX:=hY w _ Y
 obtain ⟨fd,hb,hF⟩:=F w mg fa _ KX G.T.g hmg
 exact xv KX G.T.g G.T.b G.T.builtins G.T.nolimit hg hobj hints (Nat.le_trans hlen hn2) hr hF hb (fun H hO hS=>hsp w H a ns hlen hO hS) fun H e s'=>hCX w H s₁ e s'
end L2
namespace L2
open PySem PySem.Spec PyProof.Rows
def aU (s:Stmt):Arguments:=match s with
 | .FunctionDef _ a _ _ _ _ _ _ _ _=>a
 | _=>{ posonlyargs:=[],args:=[],vararg:=none,kwonlyargs:=[],kw_defaults:=[],kwarg:=none,defaults:=[] }
def aQ (s:Stmt):List Stmt:=match s with
 | .FunctionDef _ _ b _ _ _ _ _ _ _=>b
 | _=>[]
def ah (s:Stmt):Scope:=match s with
 | .FunctionDef _ _ _ _ _ _ sc _ _ _=>sc
 | _=>{ kind:=.function,names:=[],isGenerator:=false,isCoroutine:=false }
abbrev CX0:CXT:=fun _ _ _ _ _ _=>False
abbrev E0:XK:=fun _ _ _=>False
theorem vi {X:Cx}:gq CX0 X E0:=fun _ _ _ _ _ _ _ h=>h.elim
structure Fun (K:PySem.W.Frag) (x qual:Str) (st:Stmt) (f:Addr) (fd:FuncData):Prop where
 ex:∃ (oc:Value) (od:Option Addr) (kV doc pm:Value) (an:Option Addr) (cdv ct:Value) (osl:Array (Option Value)),
  fd=PySem.W.fnOf x qual (aU st) (aQ st) (ah st) .none kV doc pm an cdv ct∧K.lookup f=some ⟨oc,od,.func fd,osl⟩∧PySem.W.codeIn K cdv qual=true
 kp:PySem.W.keepIn K (.ref f)=true
section
variable {P:Program} {w:World} {K:PySem.W.Frag} {mg:Str→Option Value} {base:Heap}
theorem Fun.ok {x qual:Str} {st:Stmt} {f:Addr} {fd:FuncData} {N ps:List Str} {k:Nat} {sp:Sp} (F:Fun K x qual st f fd) (S:am N ps (ah st)) (len:∀ vs H Q E,sp vs H Q E→vs.length=ps.length)
  (hbody:∀ (cdv:Value) (A:Around) (outer:List Env) (s:Shared) (H:Hp) (vs:List V) (Q:VK) (E:XK),Room k (A.deeper (envOfC qual (ah st) s.heap.objs.size f cdv))→sp vs H Q E→
   ∃ t,PSs (cxOf CX0 P w K mg base N qual (ah st) f cdv A outer s H E).nox (aQ st) t∧t { nx:=fun _ H'=>Q .non H',rt:=Q } (start N vs) H):FnOk P w K mg base CX0 (k+1) f fd ps sp:=by
 obtain ⟨oc,od,kV,doc,pm,an,cdv,ct,osl,rfl,lk,hcd⟩:=F.ex
 refine vh lk hcd S len fun A outer s H vs Q E hr hsp=>?_
 obtain ⟨t,h,q⟩:=hbody cdv A outer s H vs Q E hr hsp
 exact ⟨t,h.nox,q⟩
theorem Fun.binds {x qual:Str} {st:Stmt} {f:Addr} {fd:FuncData} {ps:List Str} (F:Fun K x qual st f fd)
  (h:∀ (kV doc pm:Value) (an:Option Addr) (cdv ct:Value) (us:List Value),us.length=ps.length→bindArgs (PySem.W.fnOf x qual (aU st) (aQ st) (ah st) .none kV doc pm an cdv ct) ⟨us,[]⟩=pure (ps.zip us)):Binds K fd ps []:=by
 obtain ⟨oc,od,kV,doc,pm,an,cdv,ct,osl,rfl,lk,hcd⟩:=F.ex
 exact .all (h kV doc pm an cdv ct)
theorem aw {x qual:Str} {st:Stmt} {f:Addr} {oc:Value} {od an:Option Addr} {osl:Array (Option Value)} {kV doc pm cdv ct:Value} (l:K.lookup f=some ⟨oc,od,.func (PySem.W.fnOf x qual (aU st) (aQ st) (ah st) .none kV doc pm an cdv ct),osl⟩)
  (c:PySem.W.codeIn K cdv qual=true) (k:PySem.W.keepIn K (.ref f)=true):Fun K x qual st f (PySem.W.fnOf x qual (aU st) (aQ st) (ah st) .none kV doc pm an cdv ct):=⟨⟨oc,od,kV,doc,pm,an,cdv,ct,osl,rfl,l,c⟩,k⟩
end
theorem aR {n:Nat} (h:n≤1000):n < sizeLine:=Nat.lt_of_le_of_lt h (by decide)
section
variable {X:Cx}
theorem pv (i:Nat) {x:Str} {pos:Pos} (hN:X.N[i]? =some x:=by rfl) (hv:Vis X.env.scope x:=by first | exact Or.inl rfl | exact Or.inr (Or.inl rfl) | exact Or.inr (Or.inr rfl)) (hd:(x==("__debug__":Str))=false:=by decide)
  (hcd:(x==("__classdict__":Str))=false:=by decide):PE X (.Name x pos) (tVar i):=yP hN hv hd hcd
end
theorem iteF {A B:Prop} (h:B):if false=true then A else B:=by
 rw [if_neg Bool.false_ne_true]
 exact h
theorem iteT {A B:Prop} (h:A):if true=true then A else B:=by
 rw [if_pos rfl]
 exact h
def Same (H H':Hp):Prop:=∀ b o,H b=some o→H' b=some o
theorem Same.refl (H:Hp):Same H H:=fun _ _ h=>h
theorem Same.trans {H H1 H2:Hp} (a:Same H H1) (b:Same H1 H2):Same H H2:=fun c o h=>b c o (a c o h)
theorem Same.free {H H':Hp} (e:Same H H') {l:Addr} (h:H' l=Option.none):H l=Option.none:=by
 cases q:H l with
 | none=>rfl
 | some o=>
  rw [e l o q] at h
  cases h
theorem Same.seq {K:PySem.W.Frag} {H H':Hp} {a:Addr} {xs:List V} (e:Same H H') (h:SqL K H a xs):SqL K H' a xs:=by
 rcases h with (h | ⟨o,h⟩) | h
 · exact .inl (.inl (e _ _ h))
 · exact .inl (.inr ⟨o,e _ _ h⟩)
 · exact .inr h
end L2
namespace L2
open PySem PySem.Spec PyProof.Rows
section
variable {κ:Type} [DecidableEq κ]
def valV (kvs:List (κ × V)) (k:κ):Option V:=(kvs.find? fun kv=>decide (kv.1=k)).map (·.2)
def putK (kvs:List (κ × V)) (k:κ) (v:V):List (κ × V):=
 if (kvs.any fun kv=>decide (kv.1=k))=true then kvs.map (fun kv=>if kv.1=k then (kv.1,v) else kv) else kvs++[(k,v)]
theorem nV {p:κ × V} {r:List (κ × V)} {k:κ} (e:p.1=k):valV (p::r) k=some p.2:=by simp [valV,List.find?_cons,e]
theorem nX {p:κ × V} {r:List (κ × V)} {k:κ} (e:¬ p.1=k):valV (p::r) k=valV r k:=by simp [valV,List.find?_cons,e]
theorem sQ (k:κ):∀ kvs:List (κ × V),(kvs.any fun kv=>decide (kv.1=k))=(valV kvs k).isSome
 | []=>rfl
 | p::r=>by
  rw [List.any_cons]
  by_cases e:p.1=k
  · simp only [nV e,decide_eq_true e,Bool.true_or,Option.isSome_some]
  · rw [nX e,decide_eq_false e,Bool.false_or]; exact sQ k r
theorem nJ (kvs:List (κ × V)) (k:κ) (v:V):(putK kvs k v).length≤kvs.length+1:=by
 unfold putK
 split
 · rw [List.length_map]; omega
 · rw [List.length_append,List.length_cons,List.length_nil]; omega
theorem RelO.isSome_eq {o:Option V} {u:Option Value} (r:RelO o u):o.isSome=u.isSome:=by
 cases o with
 | none=>cases u with
  | none=>rfl
  | some _=>exact (show False from r).elim
 | some _=>cases u with
  | none=>exact (show False from r).elim
  | some _=>rfl
theorem KV.val {kvs:List (κ × V)} {vs:List (κ × Value)} (r:KV kvs vs) (k:κ):RelO (valV kvs k) (valueAt vs k):=by
 unfold KV at r
 induction r with
 | nil=>exact True.intro
 | @cons p q ps qs h t ih=>
  obtain ⟨h1,h2⟩:=h
  by_cases e:p.1=k
  · have e':q.1=k:=h1.symm.trans e
    have b:valueAt (q::qs) k=some q.2:=by simp [valueAt,List.find?_cons,e']
    rw [nV e,b]; exact h2
  · have e':¬ q.1=k:=fun z=>e (h1.trans z)
    have b:valueAt (q::qs) k=valueAt qs k:=by simp [valueAt,List.find?_cons,e']
    rw [nX e,b]; exact ih
theorem KV.any {kvs:List (κ × V)} {vs:List (κ × Value)} (r:KV kvs vs) (k:κ):(kvs.any fun kv=>decide (kv.1=k))=vs.any fun kv=>decide (kv.1=k):=by
 unfold KV at r
 induction r with
 | nil=>rfl
 | cons h t ih=>rw [List.any_cons,List.any_cons,ih,h.1]
theorem KV.repl {kvs:List (κ × V)} {vs:List (κ × Value)} (r:KV kvs vs) (k:κ) {y:V} {u:Value} (ry:RelV y u):
  KV (kvs.map fun kv=>if kv.1=k then (kv.1,y) else kv) (vs.map fun kv=>if kv.1=k then (kv.1,u) else kv):=by
 unfold KV at r ⊢
 induction r with
 | nil=>exact .nil
 | @cons p q ps qs h t ih=>
  rw [List.map_cons,List.map_cons]
  refine .cons ?_ ih
  obtain ⟨h1,h2⟩:=h
  by_cases e:p.1=k
  · rw [if_pos e,if_pos (h1.symm.trans e)]; exact ⟨h1,ry⟩
  · rw [if_neg e,if_neg (fun z=>e (h1.trans z))]; exact ⟨h1,h2⟩
theorem KV.put {kvs:List (κ × V)} {vs:List (κ × Value)} (r:KV kvs vs) (k:κ) {y:V} {u:Value} (ry:RelV y u):KV (putK kvs k y) (stored vs k u):=by
 unfold putK stored
 rw [r.any k]
 by_cases e:(vs.any fun kv=>decide (kv.1=k))=true
 · rw [if_pos e,if_pos e]; exact r.repl k ry
 · rw [if_neg e,if_neg e]; exact Paired.snoc r ⟨rfl,ry⟩
theorem KV.length {kvs:List (κ × V)} {vs:List (κ × Value)} (r:KV kvs vs):kvs.length=vs.length:=Paired.length r
end
theorem sD {P:Program} {w:World} {k:Key} {u:Value} (r:RelV (kV k) u):(b7 P w).is k u=true:=by
 cases k with
 | inl i=>obtain ⟨t,e⟩:=(show ∃ t,u=Value.int i t from r); subst e; exact ul P w i t
 | inr x=>obtain ⟨t,e⟩:=(show ∃ t,u=Value.str x t from r); subst e; exact um P w x t
theorem rp {P:Program} {w:World}:∀ {ks:List Key} {us:List Value},Vals (ks.map kV) us→ItemsAre (b7 P w) ks us
 | [],_,r=>by rw [List.map_nil] at r; cases r; exact .nil
 | k::ks,_,r=>by
  rw [List.map_cons] at r
  cases r with
  | cons h t=>exact .cons (sD h) (rp t)
abbrev KT (H:Hp):List (List Key × V)→List (List Key × Addr × Value)→Prop:=Paired fun p q=>p.1=q.1∧H q.2.1=some (.tup (p.1.map kV))∧RelV p.2 q.2.2
theorem KT.val {H:Hp} {kvs:List (List Key × V)} {xs:List (List Key × Addr × Value)} (r:KT H kvs xs) (k:List Key):RelO (valV kvs k) ((atKey xs k).map (·.2)):=by
 induction r with
 | nil=>exact True.intro
 | @cons p q ps qs h t ih=>
  obtain ⟨h1,_,h2⟩:=h
  by_cases e:p.1=k
  · have e':q.1=k:=h1.symm.trans e
    have b:atKey (q::qs) k=some q.2:=by simp [atKey,List.find?_cons,e']
    rw [nV e,b]; exact h2
  · have e':¬ q.1=k:=fun z=>e (h1.trans z)
    have b:atKey (q::qs) k=atKey qs k:=by simp [atKey,List.find?_cons,e']
    rw [nX e,b]; exact ih
theorem KT.repl {H:Hp} {kvs:List (List Key × V)} {xs:List (List Key × Addr × Value)} (r:KT H kvs xs) (k:List Key) {y:V} {u:Value} (ry:RelV y u):
  KT H (kvs.map fun kv=>if kv.1=k then (kv.1,y) else kv) (xs.map (putAt k u)):=by
 induction r with
 | nil=>exact .nil
 | @cons p q ps qs h t ih=>
  rw [List.map_cons,List.map_cons]
  refine .cons ?_ ih
  obtain ⟨h1,h2,h3⟩:=h
  unfold putAt
  by_cases e:p.1=k
  · rw [if_pos e,if_pos (h1.symm.trans e)]; exact ⟨h1,h2,ry⟩
  · rw [if_neg e,if_neg (fun z=>e (h1.trans z))]; exact ⟨h1,h2,h3⟩
theorem KT.put {H:Hp} {kvs:List (List Key × V)} {xs:List (List Key × Addr × Value)} (r:KT H kvs xs) (k:List Key) {b:Addr} {y:V} {u:Value} (hb:H b=some (.tup (k.map kV))) (ry:RelV y u):
  KT H (putK kvs k y) (storedH xs k b u):=by
 have e:(kvs.any fun kv=>decide (kv.1=k))=(atKey xs k).isSome:=by
  rw [sQ,(r.val k).isSome_eq,Option.isSome_map]
 unfold putK storedH
 rw [e]
 by_cases q:(atKey xs k).isSome=true
 · rw [if_pos q,if_pos q]; exact r.repl k ry
 · rw [if_neg q,if_neg q]; exact Paired.snoc r ⟨rfl,hb,ry⟩
theorem KT.keeps {H H':Hp} {kvs:List (List Key × V)} {xs:List (List Key × Addr × Value)} (r:KT H kvs xs) (ht:∀ b ys,H b=some (.tup ys)→H' b=some (.tup ys)):KT H' kvs xs:=
 Paired.mapP r fun _ _ z=>⟨z.1,ht _ _ z.2.1,z.2.2⟩
section
variable {P:Program} {w:World} {H:Hp} {h:Heap} {a:Addr}
theorem xY {u:HO} (ok:HOk P w H h) (e:Rd H a u):ObjOk P w H h a u:=e.ok ok
theorem o9 {kvs:List (Key × V)} (ok:HOk P w H h) (e:Rd H a (.dK kvs)):kvs.length≤sizeLine∧(a==sysModules)=false∧∃ vs,KV kvs vs∧h.DictOf (b7 P w) a vs:=
 show ObjOk P w H h a (.dK kvs) from xY ok e
theorem zR {kvs:List (Key × V)} (ok:HOk P w H h) (e:H a=some (.dK kvs)):kvs.length≤sizeLine∧(a==sysModules)=false∧∃ vs,KV kvs vs∧h.DictOf (b7 P w) a vs:=o9 ok (.inl e)
theorem pb {ks:List Key} (ok:HOk P w H h) (e:H a=some (.tup (ks.map kV))):(tupleKind (b7 P w)).is h ks a:=by
 obtain ⟨_,its,r,o,h1,h2,n,h3⟩:=(show ObjOk P w H h a (.tup (ks.map kV)) from ok a _ e)
 exact ⟨o,its.toArray,n,h1,h2,h3,by simpa using rp r⟩
theorem sF {kvs:List (List Key × V)} (ok:HOk P w H h) (e:Rd H a (.dT kvs)):kvs.length≤sizeLine∧(a==sysModules)=false∧
  ∃ xs,KT H kvs xs∧h.DictOfH (tupleKind (b7 P w)) a xs:=by
 obtain ⟨z,y,xs,r,o,es,ep,h1,h2,h3,h4,h5⟩:=(show ObjOk P w H h a (.dT kvs) from xY ok e)
 refine ⟨z,y,xs,r,o,es,ep,h1,h2,h3,h4,fun x hx=>?_,h5⟩
 have all:∀ {l:List (List Key × V)} {m:List (List Key × Addr × Value)},KT H l m→∀ x∈m,(tupleKind (b7 P w)).is h x.1 x.2.1:=by
  intro l m q
  induction q with
  | nil=>intro x hx; exact nomatch hx
  | @cons p q ps qs hq t ih=>
   intro x hx
   rcases List.mem_cons.mp hx with e | hx
   · subst e
     exact pb ok (by rw [← hq.1]; exact hq.2.1)
   · exact ih x hx
 exact all r x hx
theorem zS {kvs:List (List Key × V)} (ok:HOk P w H h) (e:H a=some (.dT kvs)):kvs.length≤sizeLine∧(a==sysModules)=false∧
  ∃ xs,KT H kvs xs∧h.DictOfH (tupleKind (b7 P w)) a xs:=sF ok (.inl e)
end
def DGet (H:Hp) (a:Addr) (y:V) (r:Option V):Prop:=
 (∃ kvs k,Rd H a (.dK kvs)∧y=kV k∧r=valV kvs k)∨∃ kvs k b,Rd H a (.dT kvs)∧y=.ref b∧H b=some (.tup (k.map kV))∧r=valV kvs k
def DPut (H:Hp) (a:Addr) (y v:V) (H':Hp):Prop:=
 (∃ kvs k,H a=some (.dK kvs)∧y=kV k∧kvs.length < sizeLine∧H'=upd H a (.dK (putK kvs k v)))∨
 ∃ kvs k b,H a=some (.dT kvs)∧y=.ref b∧H b=some (.tup (k.map kV))∧kvs.length < sizeLine∧H'=upd H a (.dT (putK kvs k v))
theorem DGet.k {H:Hp} {a:Addr} {kvs:List (Key × V)} {k:Key} (e:H a=some (.dK kvs)):DGet H a (kV k) (valV kvs k):=.inl ⟨kvs,k,.inl e,rfl,rfl⟩
section
variable {X:Cx} {pins:List (Addr × Obj)} {σ:St} {H:Hp} {s:Shared} {a:Addr} {y v:V} {u r:Value} {o:Option V} {A:Around} {E:Value→Shared→Prop}
theorem wr {Q:Value→Shared→Prop} (hu:A.units+1 < cLine) (I:Inv X pins σ H s) (g:DGet H a y (some v)) (ry:RelV y u) (h:∀ w' s',Inv X pins σ H s'→RelV v w'→Q w' s'):
  wpAny (model X.prog X.w) A (getItem (.ref a) u) Q E s:=by
 rcases g with ⟨kvs,k,e,ey,l⟩ | ⟨kvs,k,b,e,ey,eb,l⟩
 · subst ey
   obtain ⟨z,hd,vs,rel,dd⟩:=o9 I.hok e
   obtain ⟨w',hw,rw'⟩:=RelO.some_of (v:=v) (o:=valueAt vs k) (by rw [l]; exact rel.val k)
   exact wpAny_getItem_of (sD ry) dd.mapOf hw (h w' _ (I.tok _) rw')
 · subst ey
   cases (show u=Value.ref b from ry)
   obtain ⟨z,hd,xs,rel,dd⟩:=sF I.hok e
   obtain ⟨w',hw,rw'⟩:=RelO.some_of (v:=v) (o:=(atKey xs k).map (·.2)) (by rw [l]; exact rel.val k)
   obtain ⟨p,hp,hp2⟩:=Option.map_eq_some_iff.mp hw
   refine wpAny_getItem_heap (tupleKind_room_in1 hu) (pb I.hok eb) dd hp ?_
   rw [hp2]
   exact h w' _ (I.tok _) rw'
theorem Aj {Q:Value→Shared→Prop} (hu:A.units+1 < cLine) (I:Inv X pins σ H s) (g:DGet H a y o) (ry:RelV y u) (h:∀ s',Inv X pins σ H s'→Q (.bool o.isSome) s'):
  wpAny (model X.prog X.w) A (compareOp .In u (.ref a)) Q E s:=by
 rcases g with ⟨kvs,k,e,ey,l⟩ | ⟨kvs,k,b,e,ey,eb,l⟩
 · subst ey
   obtain ⟨z,hd,vs,rel,dd⟩:=o9 I.hok e
   refine wpAny_in_of (sD ry) hd dd.mapOf ?_
   rw [← (rel.val k).isSome_eq,← l]
   exact h _ (I.tok _)
 · subst ey
   cases (show u=Value.ref b from ry)
   obtain ⟨z,hd,xs,rel,dd⟩:=sF I.hok e
   refine wpAny_in_heap (tupleKind_room_in1 hu) (pb I.hok eb) hd dd ?_
   have q:=(rel.val k).isSome_eq
   rw [Option.isSome_map] at q
   rw [← q,← l]
   exact h _ (I.tok _)
theorem uI {h':Heap} {t':Nat} {ob:HO} (I:Inv X pins σ H s) (mu:Mut (H a)) (hs:Heap.SameBut a s.heap h') (he:∃ q,h'.get? a=some q) (new:ObjOk X.prog X.w (upd H a ob) h' a ob):
  Inv X pins σ (upd H a ob) { s with heap:=h',toks:=t' }:=
 I.write (x:=a) (e:=a) mu (.inl rfl) (fun b q hb z=>(hs.2 b hb).trans z) he new
theorem za {P:Program} {w:World} {H':Hp} {h':Heap} {kvs:List (Key × V)} {vs:List (Key × Value)} (z:kvs.length≤sizeLine) (hd:(a==sysModules)=false) (rel:KV kvs vs) (dd:h'.DictOf (b7 P w) a vs):
  ObjOk P w H' h' a (.dK kvs):=⟨z,hd,vs,rel,dd⟩
theorem wt {H':Hp} {Q:Unit→Shared→Prop} (hu:A.units+1 < cLine) (I:Inv X pins σ H s) (g:DPut H a y v H') (ry:RelV y u) (rv:RelV v r) (h:∀ s',Inv X pins σ H' s'→Q () s'):
  wpAny (model X.prog X.w) A (setItem (.ref a) u r) Q E s:=by
 rcases g with ⟨kvs,k,e,ey,l,eH⟩ | ⟨kvs,k,b,e,ey,eb,l,eH⟩
 · subst ey eH
   obtain ⟨z,hd,vs,rel,dd⟩:=zR I.hok e
   have hz:vs.length≤sizeLine:=by rw [← rel.length]; exact z
   have hl:(putK kvs k v).length≤sizeLine:=by have:=nJ kvs k v; omega
   refine wpAny_setItem_pairs (hsz:=hz) (sD ry) dd fun h' dd' hs=>h _ ?_
   have he:∃ q,h'.get? a=some q:=let ⟨q,_,_,hq,_⟩:=dd'; ⟨q,hq⟩
   exact uI I (by rw [e]; exact True.intro) hs he (za hl hd (rel.put k rv) dd')
 · subst ey eH
   cases (show u=Value.ref b from ry)
   obtain ⟨z,hd,xs,rel,dd⟩:=zS I.hok e
   have hz:xs.length≤sizeLine:=by rw [← Paired.length rel]; exact z
   have hl:(putK kvs k v).length≤sizeLine:=by have:=nJ kvs k v; omega
   refine wpAny_setItem_heap (hsz:=hz) (tupleKind_room_in1 hu) (pb I.hok eb) dd fun h' dd' hs=>h _ ?_
   obtain ⟨q,es,ep,hq,h2,h3,h4,_,h5⟩:=dd'
   refine uI I (by rw [e]; exact True.intro) hs ⟨q,hq⟩ ⟨hl,hd,_,(rel.put k eb rv).keeps fun c ys ec=>?_,q,es,ep,hq,h2,h3,h4,h5⟩
   rw [ai (zL ec e (fun z=>nomatch z))]
   exact ec
end
section
variable {X:Cx} {pins:List (Addr × Obj)} {σ:St} {H:Hp} {s:Shared} {a:Addr} {kvs:List (Key × V)} {k:Key} {u:Value} {A:Around} {E:Value→Shared→Prop}
theorem zT {Q:Value→Shared→Prop} (I:Inv X pins σ H s) (e:Rd H a (.dK kvs)) (h:∀ t s',Inv X pins σ H s'→Q (.int kvs.length t) s'):wpAny (model X.prog X.w) A (call (.builtin "len") [.ref a]) Q E s:=by
 obtain ⟨z,hd,vs,rel,dd⟩:=o9 I.hok e
 refine call_len_dict hd dd (by rw [← rel.length]; rw [sizeLine_eq] at z; omega) ?_
 rw [← rel.length]
 exact h _ _ (I.tok _)
end
theorem uq {X:Cx} {pins:List (Addr × Obj)} {σ:St} {H:Hp} {s:Shared} {a:Addr} {y:V} {o:Option V} (I:Inv X pins σ H s) (g:DGet H a y o):s.TypeIs (.ref a) "dict":=by
 rcases g with ⟨kvs,k,e,_,_⟩ | ⟨kvs,k,b,e,_,_,_⟩
 · obtain ⟨_,_,vs,_,dd⟩:=o9 I.hok e
   exact dd.typeIs
 · obtain ⟨_,_,xs,_,dd⟩:=sF I.hok e
   exact dd.typeIs
def sDPut (td ty tv:TE):TS:=fun D σ H=>tv σ H fun v H1=>td σ H1 fun x H2=>ty σ H2 fun y H3=>∃ a H4,x=.ref a∧DPut H3 a y v H4∧D.nx σ H4
def zb:TE:=fun _ H Q=>∀ p,H p=none→Q (.ref p) (upd H p (.dK []))
end L2
namespace L2
open PySem PySem.Spec PyProof.Rows
section
variable {X:Cx}
theorem wu:CallR X (.builtin "len") (fun xs H Q=>∃ a kvs,xs=[V.ref a]∧H a=some (.dK kvs)∧Q (.int kvs.length) H):=by
 intro pins s σ H xs us Q I r h
 obtain ⟨a,kvs,rfl,ha,q⟩:=h
 obtain ⟨u,rfl,ru⟩:=cR r
 cases ru
 exact zT I (.inl ha) fun t s' I'=>⟨.int kvs.length,H,I',⟨t,rfl⟩,q⟩
end
end L2
namespace L2
open PySem PySem.Spec PyProof.Rows
theorem b9 {α:Type} (x:Str):∀ (a b:List (Str × α)),(a++b).lookup x=match a.lookup x with | some c=>some c | none=>b.lookup x
 | [],b=>rfl
 | (k,v)::r,b=>by
  rw [List.cons_append,List.lookup_cons,List.lookup_cons]
  cases x==k with
  | true=>rfl
  | false=>exact b9 x r b
theorem i9:∀ (names:List (Str × NameKind)) (n:Nat) (acc cl:List (Str × Addr)),cellsFrom n names (acc++cl)=cellsFrom n names acc++cl
 | [],_,_,_=>rfl
 | (y,k)::r,n,acc,cl=>by
  unfold cellsFrom
  split
  · rw [← List.cons_append]; exact i9 r _ _ cl
  · exact i9 r _ _ cl
theorem fM {x:Str} {c:Addr}:∀ (names:List (Str × NameKind)) (n:Nat) (acc:List (Str × Addr)),(x,c)∈cellsFrom n names acc→(x,NameKind.cell)∈names∨(x,c)∈acc
 | [],_,_,h=>.inr h
 | (y,k)::r,n,acc,h=>by
  unfold cellsFrom at h
  split at h
  · rename_i hk
    have hk:k=.cell:=by simpa using hk
    subst hk
    rcases fM r _ _ h with z | z
    · exact .inl (List.mem_cons_of_mem _ z)
    · rcases List.mem_cons.mp z with z | z
      · cases z; exact .inl List.mem_cons_self
      · exact .inr z
  · rcases fM r _ _ h with z | z
    · exact .inl (List.mem_cons_of_mem _ z)
    · exact .inr z
theorem lu {env:Env} (f:Str × NameKind→List (Str × Addr)→Sem (ForInStep (List (Str × Addr))))
  (hf:∀ name kind cs,f (name,kind) cs=if kind==.free then (do let a ← cellOf env name; pure (.yield ((name,a)::cs))) else pure (.yield cs)):
  ∀ (names:List (Str × NameKind)) (acc:List (Str × Addr)),(∀ x,(x,NameKind.free)∈names→∃ c,env.cells.lookup x=some c)→(∀ x c,acc.lookup x=some c→env.cells.lookup x=some c)→
   ∃ cl,forIn names acc f=(pure cl:Sem _)∧(∀ x c,cl.lookup x=some c→env.cells.lookup x=some c)∧(∀ x,((x,NameKind.free)∈names∨∃ c,acc.lookup x=some c)→∃ c,cl.lookup x=some c)
 | [],acc,_,h2=>⟨acc,rfl,h2,fun x h=>h.elim (fun z=>nomatch z) id⟩
 | (y,k)::r,acc,h1,h2=>by
  rw [List.forIn_cons,hf]
  by_cases hk:(k==NameKind.free)=true
  · rw [if_pos hk]
    have hk':k=.free:=by simpa using hk
    subst hk'
    obtain ⟨c,hc⟩:=h1 y List.mem_cons_self
    have e:(cellOf env y:Sem Addr)=pure c:=by unfold cellOf; rw [hc]
    rw [e]
    obtain ⟨cl,e1,e2,e3⟩:=lu f hf r ((y,c)::acc) (fun x hx=>h1 x (List.mem_cons_of_mem _ hx)) (fun x c' hx=>by
     rw [List.lookup_cons] at hx
     cases hb:x==y with
     | true=>rw [hb] at hx; cases hx; rw [beq_iff_eq.mp hb]; exact hc
     | false=>rw [hb] at hx; exact h2 x c' hx)
    refine ⟨cl,?_,e2,fun x hx=>e3 x ?_⟩
    · exact e1
    · rcases hx with hx | ⟨c',hx⟩
      · rcases List.mem_cons.mp hx with z | z
        · cases z; exact .inr ⟨c,by rw [List.lookup_cons]; simp⟩
        · exact .inl z
      · cases hb:x==y with
        | true=>exact .inr ⟨c,by rw [List.lookup_cons,hb]⟩
        | false=>exact .inr ⟨c',by rw [List.lookup_cons,hb]; exact hx⟩
  · rw [if_neg hk]
    obtain ⟨cl,e1,e2,e3⟩:=lu f hf r acc (fun x hx=>h1 x (List.mem_cons_of_mem _ hx)) h2
    refine ⟨cl,e1,e2,fun x hx=>e3 x ?_⟩
    rcases hx with hx | hx
    · rcases List.mem_cons.mp hx with z | z
      · cases z; exact absurd rfl hk
      · exact .inl z
    · exact .inr hx
theorem vj {scope:Scope} {env:Env} (h:∀ x,(x,NameKind.free)∈scope.names→∃ c,env.cells.lookup x=some c):
  ∃ cl,closureFor scope env=pure cl∧(∀ x c,cl.lookup x=some c→env.cells.lookup x=some c)∧∀ x,(x,NameKind.free)∈scope.names→∃ c,cl.lookup x=some c:=by
 obtain ⟨cl,e1,e2,e3⟩:=lu (env:=env) (fun x cs=>match x with | (name,kind)=>if kind==.free then (do let a ← cellOf env name; pure (.yield ((name,a)::cs))) else pure (.yield cs)) (fun _ _ _=>rfl) scope.names [] h (fun x c hx=>nomatch hx)
 refine ⟨cl,?_,e2,fun x hx=>e3 x (.inl hx)⟩
 have:closureFor scope env=(forIn scope.names [] (fun x cs=>match x with | (name,kind)=>if kind==.free then (do let a ← cellOf env name; pure (.yield ((name,a)::cs))) else pure (.yield cs)) >>= fun cs=>pure cs):=by
  simp only [closureFor]
 rw [this,e1]
 rfl
def wv (scope:Scope) (cl:List (Str × Addr)) (C:Addr) (env:Env):Env:=
 { newEnv scope C env.globals (cellsFrom (C+1) scope.names cl) env.qual none .none (some env) builtinsNs with scope:=relabel scope env }
theorem xw {M:Model} {A:Around} {E:Value→Shared→Prop} {s:Shared} {scope:Scope} {cl:List (Str × Addr)} {env:Env} {Q:Env→Shared→Prop}
  (hQ:Q (newEnv scope s.heap.objs.size env.globals (cellsFrom (s.heap.objs.size+1) scope.names cl) env.qual none .none (some env) builtinsNs) { s with heap:=pushCells (s.heap.push { cls:=.type "dict",data:=.dict #[] }) scope.names }):
  wpAny M A (newFunctionEnv scope env.globals cl [] env.qual none .none (some env)) Q E s:=by
 simp only [newFunctionEnv,Option.isSome_some,if_true]
 refine wpAny_bind (wpAny_alloc ?_)
 refine wpAny_bind (wpAny_layCells _ (fun name kind cells=>by cases hkc:kind==NameKind.cell <;> simp [hkc]) _ _ _ _ ?_)
 rw [show ({ s with heap:=s.heap.push { cls:=.type "dict",data:=.dict #[] } }:Shared).heap.objs.size=s.heap.objs.size+1 from Heap.size_push ..]
 refine wpAny_bind ?_
 rw [List.forIn_nil]
 exact wpAny_pure (wpAny_pure hQ)
section
variable {prog:Program} {w:World} {A:Around} {E:Value→Shared→Prop} {R:Result→Shared→Prop} {s:Shared}
theorem ww {elt target iter:Expr} {ifs:List Expr} {scope:Scope} {pos:Pos} {it acc:Value} {env:Env} (I:Nat→Shared→Prop)
  (turn:∀ n s,I n s→wpAny (model prog w) A (pyNext it) (fun r s₁=>match r with
   | none=>R (.ok .next) s₁
   | some v=>wpAny (model prog w) A (letOwnedTupleGo target it v) (fun _ s₁'=>wpAny (model prog w) A (assign target env v) (fun _ s₂=>
     wpAny (model prog w) A (forIn ifs true fun c r=>if r=true then do let ok ← isTrue c env (eval c env); pure (ForInStep.yield ok) else pure (ForInStep.yield r)) (fun ok s₃=>
      if ok=true then wpAny (model prog w) A (eval elt env) (fun x s₄=>
       wpAny (model prog w) A (call (.builtin "list.append") [acc,x]) (fun _ s₅=>∃ m,m < n∧I m s₅) (notedBy (model prog w) A env fun e s'=>R (.error e) s') s₄) (notedBy (model prog w) A env fun e s'=>R (.error e) s') s₃
      else ∃ m,m < n∧I m s₃) (notedBy (model prog w) A env fun e s'=>R (.error e) s') s₂) (notedBy (model prog w) A env fun e s'=>R (.error e) s') s₁') (notedBy (model prog w) A env fun e s'=>R (.error e) s') s₁) (notedBy (model prog w) A env fun e s'=>R (.error e) s') s)
  (n:Nat) (h:I n s):
  codeAny (model prog w) A (.compLoop (.ListComp elt [⟨target,iter,ifs,0⟩] scope pos) 0 it acc env) R s:=by
 refine codeAny_loop rfl I (fun n s hI=>?_) n h
 show wpAny _ A ((compTurn (.ListComp elt [⟨target,iter,ifs,0⟩] scope pos) 0 it acc env).onRaise (fun x=>do noteFrame x env; theTreesLotGoes x)) _ _ s
 refine wpAny_noted ?_
 rw [compTurn_list]
 refine wpAny_bind (wpAny_standAt (wpAny_bind (wpAny_mono (turn n s hI) (fun r s₁ h₁=>?_) fun _ _ h'=>h')))
 cases r with
 | none=>exact wpAny_pure h₁
 | some v=>
  refine wpAny_bind (wpAny_mono h₁ (fun _ s₁' h₁'=>?_) fun _ _ h'=>h')
  refine wpAny_bind (wpAny_mono h₁' (fun _ s₂ h₂=>wpAny_bind (wpAny_mono h₂ (fun ok s₃ h₃=>?_) fun _ _ h'=>h')) fun _ _ h'=>h')
  cases ok with
  | false=>exact wpAny_pure ⟨rfl,h₃⟩
  | true=>
   exact wpAny_bind (wpAny_bind (wpAny_mono h₃ (fun x s₄ h₄=>wpAny_bind (wpAny_mono h₄ (fun _ s₅ h₅=>wpAny_pure (wpAny_pure ⟨rfl,h₅⟩)) fun _ _ h'=>h')) fun _ _ h'=>h'))
end
end L2
namespace L2
open PySem PySem.Spec PyProof.Rows
theorem j5 {scope:Scope} {env:Env} {x:Str} {k:NameKind} (h:(relabel scope env).names.lookup x=some k):∃ k',scope.names.lookup x=some k'∧(k=k'∨(k'=.free∧k=.cell)):=by
 unfold relabel at h
 dsimp only at h
 generalize scope.names=names at h ⊢
 induction names with
 | nil=>cases h
 | cons p r ih=>
  obtain ⟨n,k0⟩:=p
  rw [List.map_cons] at h
  rw [List.lookup_cons]
  cases hb:x==n with
  | true=>
   refine ⟨k0,rfl,?_⟩
   dsimp only at h
   split at h
   · rename_i hc
     rw [List.lookup_cons,hb] at h
     cases h
     simp only [Bool.and_eq_true,beq_iff_eq] at hc
     exact .inr ⟨hc.1.1,rfl⟩
   · rw [List.lookup_cons,hb] at h
     cases h
     exact .inl rfl
  | false=>
   dsimp only at h
   refine ih ?_
   split at h
   · rw [List.lookup_cons,hb] at h; exact h
   · rw [List.lookup_cons,hb] at h; exact h
def blkCx (X:Cx) (N:List Str) (scope:Scope) (cl:List (Str × Addr)) (s:Shared) (H:Hp) (fp:List Addr):Cx where
 prog:=X.prog
 w:=X.w
 K:=X.K
 mg:=X.mg
 base:=X.base
 A:=X.A
 N:=N
 s₀:=s
 H₀:=H
 env:=wv scope cl (s.heap.objs.size+1) X.env
 outer:=X.stack
 stack:=X.stack
 ex:=fp
 fn:=fun x=>scope.names.lookup x==some .cell
 calm:=X.calm
 pn:=[]
 xe:=fun e₀ s₁=>(∃ (pins:List (Addr × Obj)) (σ:St),Inv X pins σ H s∧∀ b∈fp,FpOk X pins H b)→notedBy (model X.prog X.w) X.A (wv scope cl (s.heap.objs.size+1) X.env) (fun x s'=>∃ m,s'.heap.Ns (s.heap.objs.size+1) m∧∀ h',Heap.SameBut (s.heap.objs.size+1) s'.heap h'→∀ cenv:Env,cenv.locals=s.heap.objs.size+1→
  wpAny (model X.prog X.w) X.A (passOn "comprehension.variables-let-go" x cenv:Sem Value) (fun _ _=>False) X.xe { s' with heap:=h' }) e₀ s₁
def subσ (ix:List (Option Nat)) (σ:St):St:=ix.map fun o=>match o with | none=>none | some i=>match σ[i]? with | some v=>v | none=>none
structure BlkOk (X:Cx) (N:List Str) (ix:List (Option Nat)) (scope:Scope):Prop where
 kind:scope.kind=.function
 nd:N.Nodup
 len:ix.length=N.length
 names:(scope.names.map (·.1)).Nodup
 free:∀ x,(x,NameKind.free)∈scope.names→X.env.kindOf x=some .cell∨X.env.kindOf x=some .free
 at_:∀ (j i:Nat) (x:Str),N[j]? =some x→ix[j]? =some (some i)→X.N[i]? =some x∧(x,NameKind.free)∈scope.names
theorem dB {α:Type}:∀ {l:List (Str × α)} {x:Str} {k:α},(l.map (·.1)).Nodup→(x,k)∈l→l.lookup x=some k
 | (y,k0)::r,x,k,nd,h=>by
  rw [List.map_cons,List.nodup_cons] at nd
  rw [List.lookup_cons]
  rcases List.mem_cons.mp h with e | e
  · cases e; simp
  · have:x≠y:=by
     rintro rfl
     exact nd.1 (List.mem_map.mpr ⟨(x,k),e,rfl⟩)
    have hb:(x==y)=false:=by simpa using this
    rw [hb]
    exact dB nd.2 e
theorem wx {X:Cx} {pins:List (Addr × Obj)} {σ:St} {H:Hp} {s:Shared} {N:List Str} {ix:List (Option Nat)} {scope:Scope} {cl:List (Str × Addr)} {fp:List Addr} (B:BlkOk X N ix scope)
  (I:Inv X pins σ H s) (hcl:∀ x c,cl.lookup x=some c→X.env.cells.lookup x=some c) (hcf:∀ x,(x,NameKind.free)∈scope.names→∃ c,cl.lookup x=some c)
  (hfp:∀ b∈fp,FpOk X pins H b) (hob:∀ b∈fp,∃ o,s.heap.get? b=some o∧∀ v,o.data≠.cell v):
  Inv (blkCx X N scope cl s H fp) [] (subσ ix σ) (upd H s.heap.objs.size (.lst []))
   { s with heap:=pushCells ((s.heap.push { cls:=.type "list",data:=.seq #[] }).push { cls:=.type "dict",data:=.dict #[] }) scope.names }:=by
 have hs2:(s.heap.push { cls:=.type "list",data:=.seq #[] }).objs.size=s.heap.objs.size+1:=Heap.size_push ..
 have hs3:((s.heap.push { cls:=.type "list",data:=.seq #[] }).push { cls:=.type "dict",data:=.dict #[] }).objs.size=s.heap.objs.size+2:=by rw [Heap.size_push,hs2]
 have hk:∀ b o,s.heap.get? b=some o→(pushCells ((s.heap.push { cls:=.type "list",data:=.seq #[] }).push { cls:=.type "dict",data:=.dict #[] }) scope.names).get? b=some o:=
  fun b o e=>pushCells_keeps _ _ b o (Heap.get?_push_of_some _ (Heap.get?_push_of_some _ e))
 have hl:(pushCells ((s.heap.push { cls:=.type "list",data:=.seq #[] }).push { cls:=.type "dict",data:=.dict #[] }) scope.names).get? s.heap.objs.size=some { cls:=.type "list",data:=.seq #[] }:=
  pushCells_keeps _ _ _ _ (Heap.get?_push_of_some _ (Heap.get?_push_size _ rfl))
 have ok0:=cellsFrom_ok scope.names ((s.heap.push { cls:=.type "list",data:=.seq #[] }).push { cls:=.type "dict",data:=.dict #[] }) (s.heap.objs.size+2) [] ⟨fun _ _ hm=>(nomatch hm),List.Pairwise.nil⟩ (by rw [hs3]; exact Nat.le_refl _)
 rw [hs3] at ok0
 have hcells:(blkCx X N scope cl s H fp).env.cells=cellsFrom (s.heap.objs.size+2) scope.names []++cl:=by
  show cellsFrom (s.heap.objs.size+1+1) scope.names cl=_
  rw [← List.nil_append cl,i9]
  simp
 have cases_:∀ x c,(blkCx X N scope cl s H fp).env.cells.lookup x=some c→((x,c)∈cellsFrom (s.heap.objs.size+2) scope.names []∧(x,NameKind.cell)∈scope.names)∨((cellsFrom (s.heap.objs.size+2) scope.names []).lookup x=none∧cl.lookup x=some c):=fun x c e=>by
  rw [hcells,b9] at e
  cases q:(cellsFrom (s.heap.objs.size+2) scope.names []).lookup x with
  | none=>rw [q] at e; exact .inr ⟨rfl,e⟩
  | some c'=>
   rw [q] at e
   cases e
   have m:=PySem.mem_of_lookup q
   refine .inl ⟨m,?_⟩
   rcases fM _ _ _ m with z | z
   · exact z
   · exact nomatch z
 have oldc:∀ x c,cl.lookup x=some c→c < s.heap.objs.size:=fun x c e=>by
  obtain ⟨v,q⟩:=I.cell x c (hcl x c e)
  exact q.lt
 have hfree:H s.heap.objs.size=none:=I.hok.fresh (Nat.le_refl _)
 have hfix:∀ b,s.heap.objs.size < b→(upd H s.heap.objs.size (.lst [])) b=none:=fun b hb=>by
  rw [ai (Nat.ne_of_gt hb)]
  exact I.hok.fresh (Nat.le_of_lt hb)
 have hlt:∀ b∈fp,b < s.heap.objs.size:=fun b hb=>by
  obtain ⟨o,e,_⟩:=hob b hb
  exact Heap.lt_size e
 have e0:=I.env0
 have isnew:∀ x c,(x,c)∈cellsFrom (s.heap.objs.size+2) scope.names []→s.heap.objs.size+2≤c:=fun x c m=>(ok0.empty x c m).2
 refine ⟨⟨I.ok.mod,B.kind,I.ok.glob,I.ok.blt,Nat.le_succ _,fun x y c e1 e2=>?_,fun x hx=>?_,fun x c hx e=>?_,I.ok.hd,I.ok.frames,.inl rfl,fun b hb=>⟨?_,fun x c e=>?_⟩,e0.bs,e0.bsz,fun b o e hb=>?_,fun b hb hb2=>?_,e0.funs,e0.frf⟩,
  rfl,I.bare,Un.laid hk (Nat.le_refl _) hfree,⟨fun _=>none,?_,fun j x v e1 e2 e3=>?_⟩,fun x c e=>?_,hfix _ (Nat.lt_succ_self _),fun x c e=>?_,fun p hp=>absurd (show p∈([]:List (Addr × Obj)) from hp) (by simp),?_,?_⟩
 · rcases cases_ x c e1 with ⟨m1,k1⟩ | ⟨n1,q1⟩ <;> rcases cases_ y c e2 with ⟨m2,k2⟩ | ⟨n2,q2⟩
   · exact name_of_addr ok0.apart m1 m2
   · exact absurd (Nat.lt_of_lt_of_le (oldc _ _ q2) (Nat.le_trans (Nat.le_add_right _ _) (isnew _ _ m1))) (Nat.lt_irrefl _)
   · exact absurd (Nat.lt_of_lt_of_le (oldc _ _ q1) (Nat.le_trans (Nat.le_add_right _ _) (isnew _ _ m2))) (Nat.lt_irrefl _)
   · exact I.ok.inj x y c (hcl _ _ q1) (hcl _ _ q2)
 · have hx':(relabel scope X.env).names.lookup x=some .cell∨(relabel scope X.env).names.lookup x=some .free:=hx
   have key:scope.names.lookup x=some .cell∨scope.names.lookup x=some .free:=by
    rcases hx' with z | z
    · obtain ⟨k',e,r | r⟩:=j5 z
      · rw [← r] at e; exact .inl e
      · rw [r.1] at e; exact .inr e
    · obtain ⟨k',e,r | r⟩:=j5 z
      · rw [← r] at e; exact .inr e
      · cases r.2
   rw [hcells]
   rcases key with z | z
   · obtain ⟨c,q⟩:=lr (n:=s.heap.objs.size+2) z
     exact ⟨c,by rw [b9,q]⟩
   · obtain ⟨c,q⟩:=hcf x (PySem.mem_of_lookup z)
     cases q2:(cellsFrom (s.heap.objs.size+2) scope.names []).lookup x with
     | none=>exact ⟨c,by rw [b9,q2]; exact q⟩
     | some c'=>exact ⟨c',by rw [b9,q2]⟩
 · have hx':scope.names.lookup x=some .cell:=by simpa [blkCx] using hx
   rcases cases_ x c e with ⟨m1,k1⟩ | ⟨n1,q1⟩
   · exact Nat.le_trans (Nat.le_add_right _ _) (isnew _ _ m1)
   · obtain ⟨c',q⟩:=lr (n:=s.heap.objs.size+2) hx'
     rw [q] at n1; cases n1
 · exact Nat.ne_of_lt (Nat.lt_succ_of_lt (hlt b hb))
 · rcases cases_ x c e with ⟨m1,k1⟩ | ⟨n1,q1⟩
   · exact Nat.ne_of_gt (Nat.lt_of_lt_of_le (hlt b hb) (Nat.le_trans (Nat.le_add_right _ _) (isnew _ _ m1)))
   · exact (hfp b hb).2.2.2.2.1 x c (hcl _ _ q1)
 · rcases (hfp b hb).2.2.2.1 with z | z
   · exact I.ok.noex b o e z
   · exact absurd (Nat.lt_of_lt_of_le (Heap.lt_size e) (Nat.le_trans I.ok.bsz z)) (Nat.lt_irrefl _)
 · rcases List.mem_cons.mp (I.stkSub b hb2) with z | z
   · exact (hfp b hb).2.1 z
   · exact (hfp b hb).2.2.1 z
 · show Heap.Ns _ (s.heap.objs.size+1) _
   rw [← hs2]
   exact (Heap.Ns.new _ (.type "dict")).keeps (pushCells_keeps _ _)
 ·
   unfold subσ at e2
   rw [List.getElem?_map] at e2
   cases q:ix[j]? with
   | none=>rw [q] at e2; cases e2
   | some o=>
    rw [q] at e2
    cases o with
    | none=>cases e2
    | some i=>
     simp only [Option.map_some,Option.some.injEq] at e2
     obtain ⟨hN,hm⟩:=B.at_ j i x e1 q
     have hσ:σ[i]? =some (some v):=by
      cases q2:σ[i]? with
      | none=>rw [q2] at e2; cases e2
      | some z=>rw [q2] at e2; exact congrArg some e2
     obtain ⟨m,hn,hl'⟩:=I.loc
     have hkind:=B.free x hm
     have hvis:Vis X.env.scope x:=hkind.elim (fun z=>.inr (.inl z)) fun z=>.inr (.inr z)
     obtain ⟨u,ru,lk⟩:=hl' i x v hN hσ hvis
     refine ⟨u,ru,?_⟩
     obtain ⟨c,hc⟩:=hcf x hm
     have hnone:(cellsFrom (s.heap.objs.size+2) scope.names []).lookup x=none:=by
      cases q2:(cellsFrom (s.heap.objs.size+2) scope.names []).lookup x with
      | none=>rfl
      | some c'=>
       rcases fM _ _ _ (PySem.mem_of_lookup q2) with z | z
       · have a1:=dB B.names z
         have a2:=dB B.names hm
         rw [a1] at a2; cases a2
       · exact nomatch z
     have hcell:(blkCx X N scope cl s H fp).env.cells.lookup x=some c:=by rw [hcells,b9,hnone]; exact hc
     have hkk:(blkCx X N scope cl s H fp).env.kindOf x=some .cell∨(blkCx X N scope cl s H fp).env.kindOf x=some .free:=by
      rcases e3 with z | z | z
      · obtain ⟨k',e,r | r⟩:=j5 (show (relabel scope X.env).names.lookup x=some .local from z)
        · rw [dB B.names hm] at e; cases e; cases r
        · cases r.2
      · exact .inl z
      · exact .inr z
     refine .inr ⟨hkk,c,hcell,?_⟩
     rcases lk with ⟨k1,_⟩ | ⟨_,c2,e4,z⟩
     · rcases hkind with z | z <;> rw [k1] at z <;> cases z
     · rw [hcl x c hc] at e4; cases e4
       exact z.keeps hk
 · rcases cases_ x c e with ⟨m1,k1⟩ | ⟨n1,q1⟩
   · exact ⟨none,(ok0.empty x c m1).1⟩
   · obtain ⟨v,z⟩:=I.cell x c (hcl _ _ q1)
     exact ⟨v,z.keeps hk⟩
 · rcases cases_ x c e with ⟨m1,k1⟩ | ⟨n1,q1⟩
   · exact hfix c (Nat.lt_of_lt_of_le (Nat.lt_add_of_pos_right (by decide)) (isnew _ _ m1))
   · rw [ai (Nat.ne_of_lt (oldc _ _ q1))]
     exact I.freeC x c (hcl _ _ q1)
 · exact I.hok.laid hk (Nat.le_refl _) ⟨Nat.zero_le _,[],0,.nil,hl⟩
 · show (subσ ix σ).length=N.length
   unfold subσ
   rw [List.length_map]
   exact B.len
end L2
namespace L2
open PySem PySem.Spec PyProof.Rows
def PTs (X:Cx) (ifs:List Expr) (t:TT):Prop:=
 ∀ (pins:List (Addr × Obj)) (s:Shared) (σ:St) (H:Hp) (Q:Bool→Hp→Prop),Inv X pins σ H s→t σ H Q→
  wpAny (model X.prog X.w) X.A (forIn ifs true fun c r=>if r=true then do let ok ← isTrue c X.env (eval c X.env); pure (ForInStep.yield ok) else pure (ForInStep.yield r)) (TP X pins σ Q) X.xe s
def tTrue:TT:=fun _ H Q=>Q true H
theorem br {X:Cx}:PTs X [] tTrue:=fun _ _ _ H _ I h=>wpAny_tests_nil ⟨H,I,h⟩
theorem mM {X:Cx} {c:Expr} {t:TT} (h:PT X c t):PTs X [c] t:=fun pins s σ H Q I q=>wpAny_tests_one (h pins s σ H Q I q)
def sR (ix:List (Option Nat)) (wi:TI) (g:TG) (tt:TT) (te:TE) (fin:Addr→Hp→Prop):St→Hp→Prop:=fun σ H=>wi σ H fun J H1=>∀ l,H1 l=none→
 ∃ W:Nat→Nat→St→Hp→Prop,(∃ m,W 0 m (subσ ix σ) (upd H1 l (.lst [])))∧∀ i m σ' H',W i m σ' H'→
  (J.stop i H'∧fin l H')∨(J.go i H'∧∃ N:St→Hp→Prop,(∀ σ'' H'',N σ'' H''→∃ m',m' < m∧W (i+1) m' σ'' H'')∧∀ x H2,J.yld i H' x H2→g x σ' H2 fun σ2 H3=>tt σ2 H3 fun b H4=>
   if b=true then te σ2 H4 fun y H5=>∃ ys,H5 l=some (.lst ys)∧ys.length < sizeLine∧N σ2 (upd H5 l (.lst (ys++[y]))) else N σ2 H4)
section
variable {X:Cx} {pins:List (Addr × Obj)} {σ σ':St} {H H':Hp} {s s':Shared} {N:List Str} {scope:Scope} {cl:List (Str × Addr)} {fp:List Addr}
theorem uJ {h':Heap} (I:Inv X pins σ H s) (J:Inv (blkCx X N scope cl s H fp) [] σ' H' s') (hfp:∀ b∈fp,FpOk X pins H b) (sb:Heap.SameBut (s.heap.objs.size+1) s'.heap h'):Inv X pins σ H' { s' with heap:=h' }:=by
 have u:Un (frs X.stack) fp H H' s.heap s'.heap:=J.base
 have hC:H' (s.heap.objs.size+1)=none:=J.free
 have ne:∀ b o,s.heap.get? b=some o→b≠s.heap.objs.size+1:=fun b o e=>Nat.ne_of_lt (Nat.lt_succ_of_lt (Heap.lt_size e))
 refine I.call' (s':={ s' with heap:=h' }) (ch:=fp) J.os ⟨fun b o e n hb hx=>?_,fun b o e n hb hx=>?_,u.free,fun b o e hx=>?_,u.tups,u.frzs,u.tbls⟩ (fun b ob e=>?_) J.bare fun b hb=>?_
 · exact (sb.2 b (ne b o e)).trans (u.keep b o e n hb hx)
 · obtain ⟨sl,q⟩:=u.slot b o e n hb hx
   exact ⟨sl,(sb.2 b (ne b o e)).trans q⟩
 · obtain ⟨o',q⟩:=u.there b o e hx
   exact ⟨o',(sb.2 b (ne b o e)).trans q⟩
 · refine (J.hok b ob e).stay (fun c w' hc q=>(sb.2 c ?_).trans q) (fun _ q=>q) fun _ _ q=>q
   rintro rfl
   rcases hc with rfl | hc
   · rw [hC] at e; cases e
   · rw [hC] at hc; cases hc
 · obtain ⟨f0,f1,f2,f3,f4,f5⟩:=hfp b hb
   exact ⟨f3,f1,f4,f5⟩
theorem sS {tg iter elt:Expr} {ifs:List Expr} {pos:Pos} {ix:List (Option Nat)} {wi:TI} {g:TG} {tt:TT} {te:TE} {fin:Addr→Hp→Prop} {RR:Value→Addr→Result→Shared→Prop} (B:BlkOk X N ix scope) (hc:X.calm=true)
  (hi:PI X tg iter wi) (hg:∀ cl s H fp,PG (blkCx X N scope cl s H fp) tg g) (ht:∀ cl s H fp,PTs (blkCx X N scope cl s H fp) ifs tt) (he:∀ cl s H fp,PE (blkCx X N scope cl s H fp) elt te)
  (hcl:∀ x c,cl.lookup x=some c→X.env.cells.lookup x=some c) (hcf:∀ x,(x,NameKind.free)∈scope.names→∃ c,cl.lookup x=some c)
  (I:Inv X pins σ H s) (h:sR ix wi g tt te fin σ H)
  (ok:∀ (s2:Shared) (H2:Hp) (fp:List Addr) (σ3:St) (H3:Hp) (s3:Shared),Inv X pins σ H2 s2→(∀ b∈fp,FpOk X pins H2 b)→Inv (blkCx X N scope cl s2 H2 fp) [] σ3 H3 s3→fin s2.heap.objs.size H3→RR (.ref s2.heap.objs.size) (s2.heap.objs.size+1) (.ok .next) s3)
  (bad:∀ (a C:Addr) (x:Value) (s':Shared),(∃ m,s'.heap.Ns C m∧∀ h',Heap.SameBut C s'.heap h'→∀ cenv:Env,cenv.locals=C→wpAny (model X.prog X.w) X.A (passOn "comprehension.variables-let-go" x cenv:Sem Value) (fun _ _=>False) X.xe { s' with heap:=h' })→RR (.ref a) C (.error x) s'):
  wpAny (model X.prog X.w) X.A (eval iter X.env) (fun x s₁=>wpAny (model X.prog X.w) X.A (pyIter x) (fun it s₂=>wpAny (model X.prog X.w) X.A (newList []) (fun acc s₃=>
   wpAny (model X.prog X.w) X.A (newFunctionEnv scope X.env.globals cl [] X.env.qual none .none (some X.env)) (fun cenv s₄=>
    codeAny (model X.prog X.w) X.A (.compStart (.ListComp elt [⟨tg,iter,ifs,0⟩] scope pos) 0 it acc { cenv with scope:=relabel scope X.env }) (RR acc cenv.locals) s₄) X.xe s₃) X.xe s₂) X.xe s₁) X.xe s:=by
 refine thn (hi pins s σ H _ I h) fun v s1 h1=>thn h1 fun itv s2 h2=>?_
 obtain ⟨it,fp,tn,J,H2,e,I2,T,st2,f2,h2⟩:=h2
 subst e
 refine wpAny_newList (xw ?_) (Nat.zero_le _)
 have hs2:(s2.heap.push { cls:=.type "list",data:=.seq (([]:List Value)).toArray }).objs.size=s2.heap.objs.size+1:=Heap.size_push ..
 dsimp only
 rw [hs2]
 have I3:=wx (fp:=fp) B I2 hcl hcf f2 (T.obj _ _ st2)
 obtain ⟨W,⟨m0,w0⟩,turn⟩:=h2 s2.heap.objs.size I2.fresh
 have hk:∀ b o,s2.heap.get? b=some o→(pushCells ((s2.heap.push { cls:=.type "list",data:=.seq #[] }).push { cls:=.type "dict",data:=.dict #[] }) scope.names).get? b=some o:=
  fun b o e=>pushCells_keeps _ _ b o (Heap.get?_push_of_some _ (Heap.get?_push_of_some _ e))
 have st3:=T.keep _ _ _ st2 fun b _ o e=>hk b o e
 have fr3:∀ b∈fp,(upd H2 s2.heap.objs.size (.lst [])) b=none:=fun b hb=>by
  obtain ⟨o,e,_⟩:=T.obj _ _ st2 b hb
  rw [ai (Nat.ne_of_lt (Heap.lt_size e))]
  exact (f2 b hb).1
 have stat:∀ {σ5:St} {H5:Hp} {s5:Shared},Inv (blkCx X N scope cl s2 H2 fp) [] σ5 H5 s5→(∀ b∈fp,H5 b=none)→∀ b∈fp,FpOk (blkCx X N scope cl s2 H2 fp) [] H5 b:=fun I5 hn b hb=>
  ⟨hn b hb,(I5.ok.exf b hb).1,I5.ok.exfs b hb,.inl hb,(I5.ok.exf b hb).2,fun p hp=>absurd (show p∈([]:List (Addr × Obj)) from hp) (by simp)⟩
 have loop:∀ s₃:Shared,s₃={ s2 with heap:=pushCells ((s2.heap.push { cls:=.type "list",data:=.seq #[] }).push { cls:=.type "dict",data:=.dict #[] }) scope.names }→
   codeAny (model X.prog X.w) X.A (.compLoop (.ListComp elt [⟨tg,iter,ifs,0⟩] scope pos) 0 (.ref it) (.ref s2.heap.objs.size) (blkCx X N scope cl s2 H2 fp).env) (RR (.ref s2.heap.objs.size) (s2.heap.objs.size+1)) s₃:=by
  rintro s₃ rfl
  refine ww (fun n s'=>∃ i σ' H',Inv (blkCx X N scope cl s2 H2 fp) [] σ' H' s'∧tn i s'.heap∧(∀ b∈fp,H' b=none)∧W i n σ' H') ?_ m0 ⟨0,_,_,I3,st3,fr3,w0⟩
  rintro n s4 ⟨i,σ4,H4,I4,st4,fr4,w4⟩
  have xe_:∀ x s',(blkCx X N scope cl s2 H2 fp).xe x s'→notedBy (model X.prog X.w) X.A (blkCx X N scope cl s2 H2 fp).env (fun e s'=>RR (.ref s2.heap.objs.size) (s2.heap.objs.size+1) (.error e) s') x s':=fun x s' hx=>
   wpAny_mono (hx ⟨pins,σ,I2,f2⟩) (fun _ s'' q=>bad _ _ _ _ q) fun e s'' q=>bad _ _ _ _ q
  rcases turn i n σ4 H4 w4 with ⟨stop,qn⟩ | ⟨go,Nx,hN,step⟩
  · refine wpAny_mono (T.done (blkCx X N scope cl s2 H2 fp) rfl rfl rfl hc i [] s4 σ4 H4 _ I4 (stat I4 fr4) st4 stop) (fun r s5 ⟨hr,I5⟩=>?_) xe_
    subst hr
    exact ok s2 H2 fp σ4 H4 s5 I2 f2 I5 qn
  · refine wpAny_mono (T.item (blkCx X N scope cl s2 H2 fp) rfl rfl rfl hc i [] s4 σ4 H4 _ I4 (stat I4 fr4) st4 go) (fun r s5 ⟨u,hr,h5⟩=>?_) xe_
    subst hr
    refine wpAny_mono h5 (fun _ s6 ⟨x,H6,I6,r6,y6,st6,fr6⟩=>?_) xe_
    have I6':=I6.pinned (stat I6 fr6) (T.obj _ _ st6)
    refine wpAny_mono (hg cl s2 H2 fp _ s6 σ4 H6 x u _ I6' r6 (step x H6 y6)) (fun _ s7 ⟨σ7,H7,I7,q7⟩=>?_) xe_
    have again:∀ {σ8:St} {H8:Hp} {s8:Shared},Inv (blkCx X N scope cl s2 H2 fp) ([]++l0 fp s6.heap) σ8 H8 s8→Nx σ8 H8→∃ m,m < n∧∃ i σ' H',Inv (blkCx X N scope cl s2 H2 fp) [] σ' H' s8∧tn i s8.heap∧(∀ b∈fp,H' b=none)∧W i m σ' H':=fun {σ8 H8 s8} I8 n8=>by
     obtain ⟨m',hm,w8⟩:=hN σ8 H8 n8
     refine ⟨m',hm,i+1,σ8,H8,I8.unpinned,T.keep _ _ _ st6 fun b hb o e=>(I8.pin (b,o) (List.mem_append_right _ (List.mem_append_right _ (jn hb e)))).1,fun b hb=>?_,w8⟩
     obtain ⟨o,e,d⟩:=T.obj _ _ st6 b hb
     exact (I8.pin (b,o) (List.mem_append_right _ (List.mem_append_right _ (jn hb e)))).2.1
    refine wpAny_mono (ht cl s2 H2 fp _ s7 σ7 H7 _ I7 q7) (fun okb s8 ⟨H8,I8,q8⟩=>?_) xe_
    cases okb with
    | false=>exact again I8 q8
    | true=>
     refine wpAny_mono (he cl s2 H2 fp _ s8 σ7 H8 _ I8 q8) (fun y s9 ⟨yv,H9,I9,r9,ys,hl,hz,q9⟩=>?_) xe_
     refine wpAny_mono (rm (X:=blkCx X N scope cl s2 H2 fp) _ s9 σ7 H9 (.ref s2.heap.objs.size) [yv] (.ref s2.heap.objs.size) [y] (fun _ H10=>Nx σ7 H10) I9 rfl (.cons r9 .nil) ⟨_,ys,yv,rfl,rfl,hl,hz,q9⟩) (fun _ s10 ⟨_,H10,I10,_,q10⟩=>?_) xe_
     exact again I10 q10
 exact codeAny_compStart_list (loop _ rfl) (T.self _ 0 _ _ _ st3 (loop _ rfl))
def tComp (ix:List (Option Nat)) (wi:TI) (g:TG) (tt:TT) (te:TE):TE:=fun σ H Q=>sR ix wi g tt te (fun l H'=>Q (.ref l) H') σ H
def sComp (k:Nat) (ix:List (Option Nat)) (wi:TI) (g:TG) (tt:TT) (te:TE):TS:=fun D σ H=>sR ix wi g tt te (fun l H'=>D.nx (σ.set k (some (.ref l))) H') σ H
theorem uK (I:Inv X pins σ H s) {ix:List (Option Nat)} (B:BlkOk X N ix scope):∃ cl,closureFor scope X.env=pure cl∧(∀ x c,cl.lookup x=some c→X.env.cells.lookup x=some c)∧∀ x,(x,NameKind.free)∈scope.names→∃ c,cl.lookup x=some c:=
 vj fun x hx=>I.ok.has x (B.free x hx)
theorem nK {ix:List (Option Nat)} (B:BlkOk X N ix scope):∀ x∈scope.names,x.2=NameKind.local→scope.names.lookup x.1=some .local:=fun x hx e=>by
 obtain ⟨n,k⟩:=x
 cases e
 exact dB B.names hx
theorem bD {tg iter elt:Expr} {ifs:List Expr} {pos:Pos} {ix:List (Option Nat)} {wi:TI} {g:TG} {tt:TT} {te:TE} (N:List Str) (B:BlkOk X N ix scope) (hc:X.calm=true)
  (hi:PI X tg iter wi) (hg:∀ cl s H fp,PG (blkCx X N scope cl s H fp) tg g) (ht:∀ cl s H fp,PTs (blkCx X N scope cl s H fp) ifs tt) (he:∀ cl s H fp,PE (blkCx X N scope cl s H fp) elt te)
  (hs:∀ x,foldedSetIterable iter X.env x=pure x:=by intro _; rfl):PE X (.ListComp elt [⟨tg,iter,ifs,0⟩] scope pos) (tComp ix wi g tt te):=by
 intro pins s σ H Q I h
 obtain ⟨cl,e1,e2,e3⟩:=uK I B
 rw [eval_ListComp]
 refine wpAny_comprehension_free (use:=none) rfl hs e1 B.kind (nK B) ?_
 refine sS (RR:=fun acc C=>compPost (model X.prog X.w) X.A X.xe none (EP X pins σ Q) acc C) B hc hi hg ht he e2 e3 I h (fun s2 H2 fp σ3 H3 s3 I2 f2 J q=>?_) (fun a C x s' q=>q)
 obtain ⟨m,hn,_⟩:=J.loc
 exact ⟨m,hn,fun h' sb=>⟨.ref _,H3,uJ I2 J f2 sb,rfl,q⟩⟩
theorem jP {y:Str} {py spos:Pos} {k:Nat} {tg iter elt:Expr} {ifs:List Expr} {pos:Pos} {ix:List (Option Nat)} {wi:TI} {g:TG} {tt:TT} {te:TE} (hN:X.N.Nodup) (hy:X.N[k]? =some y) (hx:Loc X.env.scope y)
  (hsw:swapsWith (.ListComp elt [⟨tg,iter,ifs,0⟩] scope pos) (some (.Name y py)) spos.line X.env=pure true) (N:List Str) (B:BlkOk X N ix scope) (hc:X.calm=true)
  (hi:PI X tg iter wi) (hg:∀ cl s H fp,PG (blkCx X N scope cl s H fp) tg g) (ht:∀ cl s H fp,PTs (blkCx X N scope cl s H fp) ifs tt) (he:∀ cl s H fp,PE (blkCx X N scope cl s H fp) elt te)
  (hs:∀ x,foldedSetIterable iter X.env x=pure x:=by intro _; rfl) (hf:X.fn y=true∨X.env.scope.names.lookup y=some .local:=by first | exact .inl rfl | exact .inr rfl | assumption):
  PS X (.Assign [.Name y py] (.ListComp elt [⟨tg,iter,ifs,0⟩] scope pos) spos) (sComp k ix wi g tt te):=by
 intro pins s σ H D I h
 obtain ⟨cl,e1,e2,e3⟩:=uK I B
 rw [exec_Assign_Name_used _ _ _ _ hsw]
 refine wpAny_bind (wpAny_standAt (wpAny_bind ?_))
 show wpAny _ X.A (do let _ ← comprehension (.ListComp elt [⟨tg,iter,ifs,0⟩] scope pos) scope X.env _ (newList []) false (eval iter X.env) (some (assign (.Name y py) X.env))) _ _ s
 refine wpAny_bind (wpAny_mono (wpAny_comprehension_free (use:=some (assign (.Name y py) X.env)) (Q:=fun _ s'=>SP X pins D .next s') rfl hs e1 B.kind (nK B) ?_) (fun _ s' hq=>wpAny_pure (wpAny_pure hq)) fun _ _ e=>e)
 refine sS (RR:=fun acc C=>compPost (model X.prog X.w) X.A X.xe (some (assign (.Name y py) X.env)) (fun _ s'=>SP X pins D .next s') acc C) B hc hi hg ht he e2 e3 I h (fun s2 H2 fp σ3 H3 s3 I2 f2 J q=>?_) (fun a C x s' q=>q)
 obtain ⟨m,hn,_⟩:=J.loc
 have I3:Inv X pins σ H3 { s3 with heap:=s3.heap }:=uJ I2 J f2 (Heap.SameBut.refl _ _)
 show wpAny _ X.A (assign (.Name y py) X.env (.ref _)) _ _ _
 refine wpAny_assign_Name (rb (v:=.ref _) I3 hN hy hx rfl (fun s4 I4 ⟨a,sb4,ha⟩=>?_) hf)
 have hlt:a < s2.heap.objs.size:=by
  rcases ha with rfl | ha
  · exact I2.lt
  · obtain ⟨v,z⟩:=I2.cell _ _ ha
    exact z.lt
 have hCa:s2.heap.objs.size+1≠a:=Nat.ne_of_gt (Nat.lt_succ_of_lt hlt)
 refine ⟨m,hn.sameBut sb4 hCa,fun h' sb=>?_⟩
 refine ⟨_,H3,I4.turned (t':=s4.toks) (it:=s2.heap.objs.size+1) (fun b o hb e=>(sb.2 b hb).trans e) J.free (Nat.ne_of_gt (Nat.lt_succ_of_lt I2.lt)) (.inr (Nat.le_trans I2.sz (Nat.le_succ _))) (fun x c e=>?_) (fun p hp=>?_),q⟩
 · obtain ⟨v,z⟩:=I2.cell x c e
   exact Nat.ne_of_lt (Nat.lt_succ_of_lt z.lt)
 · exact Nat.ne_of_lt (Nat.lt_succ_of_lt (Heap.lt_size (I2.pin p hp).1))
end
end L2
namespace L2
open PySem PySem.Spec PyProof.Rows
def bnd {α:Type}:Option α→(α→Prop)→Prop
 | some a,k=>k a
 | none,_=>False
theorem b3 {α:Type} {o:Option α} {a:α} {k:α→Prop} (h:o=some a) (q:k a):bnd o k:=by subst h; exact q
theorem aV {α:Type} {o:Option α} {k:α→Prop} (h:bnd o k):∃ a,o=some a∧k a:=by
 cases o with
 | none=>exact h.elim
 | some a=>exact ⟨a,rfl,h⟩
theorem cO {α:Type} {a:α} {k:α→Prop}:bnd (some a) k=k a:=rfl
def unM:Option HO→Option (List V)
 | some (.lst xs)=>some xs
 | _=>none
def unL:Option HO→Option (List V)
 | some (.lst xs)=>some xs
 | some (.frz _ (.lst xs))=>some xs
 | _=>none
def unS:Option HO→Option (List V)
 | some (.lst xs)=>some xs
 | some (.frz _ (.lst xs))=>some xs
 | some (.tup xs)=>some xs
 | _=>none
theorem fC {o:Option HO} {xs:List V} (h:unM o=some xs):o=some (.lst xs):=by
 unfold unM at h; split at h
 · cases h; rfl
 · cases h
theorem l7 {K:PySem.W.Frag} {H:Hp} {p:Addr} {xs:List V} (h:unL (H p)=some xs):SqL K H p xs:=by
 unfold unL at h; split at h
 · rename_i e; cases h; exact .inl (.inl e)
 · rename_i o _ e; cases h; exact .inl (.inr ⟨_,e⟩)
 · cases h
theorem l8 {K:PySem.W.Frag} {H:Hp} {p:Addr} {xs:List V} (h:unS (H p)=some xs):SqL K H p xs∨SqT K H p xs:=by
 unfold unS at h; split at h
 · rename_i e; cases h; exact .inl (.inl (.inl e))
 · rename_i o _ e; cases h; exact .inl (.inl (.inr ⟨_,e⟩))
 · rename_i e; cases h; exact .inr (.inl (.inl e))
 · cases h
mutual
inductive DV (K:PySem.W.Frag) (H:Hp):V→PyData→Prop
 | non:DV K H .non .none
 | bl (b:Bool):DV K H (.bl b) (.bool b)
 | int (i:Int):DV K H (.int i) (.int i)
 | str (x:Str):DV K H (.str x) (.str x)
 | lst {a:Addr} {xs:List V} {ds:List PyData}:SqL K H a xs→DVs K H xs ds→DV K H (.ref a) (.list ds)
 | tup {a:Addr} {xs:List V} {ds:List PyData}:SqT K H a xs→DVs K H xs ds→DV K H (.ref a) (.tuple ds)
inductive DVs (K:PySem.W.Frag) (H:Hp):List V→List PyData→Prop
 | nil:DVs K H [] []
 | cons {x:V} {d:PyData} {xs:List V} {ds:List PyData}:DV K H x d→DVs K H xs ds→DVs K H (x::xs) (d::ds)
end
section
variable {X:Cx} {pins:List (Addr × Obj)} {σ:St} {H:Hp} {s:Shared}
mutual
theorem DV.reads (I:Inv X pins σ H s):∀ {x:V} {d:PyData} {v:Value},DV X.K H x d→RelV x v→∃ as,Reads s.heap v d as
 | _,_,_,.non,r=>by cases r; exact ⟨_,.none⟩
 | _,_,_,.bl b,r=>by cases r; exact ⟨_,.bool b⟩
 | _,_,_,.int i,r=>by obtain ⟨t,rfl⟩:=r; exact ⟨_,.int i t⟩
 | _,_,_,.str x,r=>by obtain ⟨t,rfl⟩:=r; exact ⟨_,.str x t⟩
 | _,_,_,.lst (a:=a) h hs,r=>by
  cases r
  obtain ⟨its,rv,p,_⟩:=I.list h
  obtain ⟨as,q⟩:=DVs.reads I hs rv
  obtain ⟨o,h1,h2,n,h3⟩:=p.isList
  exact ⟨_,.list h1 h2 h3 q⟩
 | _,_,_,.tup (a:=a) h hs,r=>by
  cases r
  obtain ⟨its,rv,p,_⟩:=I.tuple h
  obtain ⟨as,q⟩:=DVs.reads I hs rv
  obtain ⟨o,h1,h2,n,h3⟩:=p
  exact ⟨_,.tuple h1 h2 h3 q⟩
theorem DVs.reads (I:Inv X pins σ H s):∀ {xs:List V} {ds:List PyData} {us:List Value},DVs X.K H xs ds→Vals xs us→∃ as,ReadsAll s.heap us ds as
 | _,_,_,.nil,.nil=>⟨_,.nil⟩
 | _,_,_,.cons h hs,.cons r rs=>by
  obtain ⟨as,q⟩:=DV.reads I h r
  obtain ⟨bs,q2⟩:=DVs.reads I hs rs
  exact ⟨_,.cons q q2⟩
end
end
theorem DVs.ints {K:PySem.W.Frag} {H:Hp}:∀ ns:List Int,DVs K H (ns.map V.int) (ns.map PyData.int)
 | []=>.nil
 | n::r=>.cons (.int n) (DVs.ints r)
theorem nY:∀ ns ms:List Int,PyData.eqvAll (ns.map PyData.int) (ms.map PyData.int)=decide (ns=ms):=PySem.W.ked_eqvAll
theorem nZ:∀ ns:List Int,PyData.canLayAll0 (ns.map PyData.int)=true
 | []=>rfl
 | n::r=>by rw [List.map_cons,PyData.canLayAll0,nZ r]; rfl
theorem lw:∀ ns:List Int,PyData.depthAll (ns.map PyData.int)=0
 | []=>rfl
 | n::r=>by rw [List.map_cons,PyData.depthAll,lw r]; rfl
theorem iS (ns:List Int):SeqAt.shaped (.list (ns.map PyData.int))=true:=by
 simp [SeqAt.shaped,PyData.canLay0,nZ,PyData.depth,lw]
theorem l9 (ns:List Int):SeqAt.shaped (.tuple (ns.map PyData.int))=true:=by
 simp [SeqAt.shaped,PyData.canLay0,nZ,PyData.depth,lw]
def cAdd:R2
 | .int i,.int j,H,Q=>Q (.int (i+j)) H
 | .str i,.str j,H,Q=>i.length+j.length≤sizeLine∧Q (.str (i++j)) H
 | .ref l,.ref b,H,Q=>bnd (unM (H l)) fun xs=>bnd (unM (H b)) fun zs=>xs.length+zs.length≤sizeLine∧∀ p,H p=none→Q (.ref p) (upd H p (.lst (xs++zs)))
 | _,_,_,_=>False
def cSub:R2
 | .int i,.int j,H,Q=>Q (.int (i - j)) H
 | _,_,_,_=>False
def cMul:R2
 | .int i,.int j,H,Q=>CMul i j∧Q (.int (i*j)) H
 | _,_,_,_=>False
def cDiv:R2
 | .int i,.int j,H,Q=>CDiv i j∧Q (.int (i / j)) H
 | _,_,_,_=>False
def cMod:R2
 | .int i,.int j,H,Q=>0 < j∧Q (.int (i % j)) H
 | _,_,_,_=>False
def cPow:R2
 | .int i,.int j,H,Q=>CPow i j∧Q (.int (i^j.toNat)) H
 | _,_,_,_=>False
def cCmp (g:Int→Int→Bool):R2
 | .int i,.int j,H,Q=>Q (.bl (g i j)) H
 | _,_,_,_=>False
def rEqD (K:PySem.W.Frag):R2:=fun x y H Q=>∃ d e,DV K H x d∧DV K H y e∧SeqAt.shaped d=true∧SeqAt.shaped e=true∧Q (.bl (PyData.eqv d e)) H
def rNeD (K:PySem.W.Frag):R2:=fun x y H Q=>∃ d e,DV K H x d∧DV K H y e∧SeqAt.shaped d=true∧SeqAt.shaped e=true∧Q (.bl (!PyData.eqv d e)) H
def cEq (K:PySem.W.Frag):R2
 | .int i,.int j,H,Q=>Q (.bl (decide (i=j))) H
 | .bl i,.bl j,H,Q=>Q (.bl (decide (i=j))) H
 | .str i,.str j,H,Q=>Q (.bl (decide (i=j))) H
 | x,y,H,Q=>rEqD K x y H Q
def cNe (K:PySem.W.Frag):R2
 | .int i,.int j,H,Q=>Q (.bl (!decide (i=j))) H
 | .bl i,.bl j,H,Q=>Q (.bl (!decide (i=j))) H
 | .str i,.str j,H,Q=>Q (.bl (!decide (i=j))) H
 | x,y,H,Q=>rNeD K x y H Q
def rInD (K:PySem.W.Frag) (neg:Bool):R2:=fun x y H Q=>∃ d ds,DV K H x d∧(DV K H y (.list ds)∨DV K H y (.tuple ds))∧PyData.canLayAll0 ds=true∧PyData.canLay0 d=true∧min (PyData.depthAll ds) d.depth≤62∧
 Q (.bl (if neg then !ds.any (fun y=>PyData.eqv y d) else ds.any fun y=>PyData.eqv y d)) H
def keyOf:V→Option Key
 | .int i=>some (.inl i)
 | .str x=>some (.inr x)
 | _=>none
def unD:Option HO→Option (List (Key × V))
 | some (.dK kvs)=>some kvs
 | _=>none
def cIn (K:PySem.W.Frag) (neg:Bool):R2
 | .ref a,y,H,Q=>rInD K neg (.ref a) y H Q
 | x,.ref p,H,Q=>(match unD (H p) with
  | some kvs=>bnd (keyOf x) fun k=>Q (.bl (if neg then !(valV kvs k).isSome else (valV kvs k).isSome)) H
  | none=>bnd (unS (H p)) fun xs=>flatV x=true∧xs.all flatV=true∧Q (.bl (if neg then !inV x xs else inV x xs)) H)
 | .str i,.str j,H,Q=>Q (.bl (if neg then !(!(Builtin.Str.occurrences j i 0 j.length 1).isEmpty) else !(Builtin.Str.occurrences j i 0 j.length 1).isEmpty)) H
 | _,_,_,_=>False
def cIx:R2
 | .ref p,y,H,Q=>(match unD (H p) with
  | some kvs=>bnd (keyOf y) fun k=>bnd (valV kvs k) fun v=>Q v H
  | none=>match y with
   | .int i=>bnd (unS (H p)) fun xs=>bnd (atI xs i) fun v=>Q v H
   | _=>False)
 | .str z,.int i,H,Q=>z.length≤sizeLine∧bnd (atI z.cps.toList i) fun c=>Q (.str ⟨#[c]⟩) H
 | _,_,_,_=>False
theorem sU {o:Option HO} {kvs:List (Key × V)} (h:unD o=some kvs):o=some (.dK kvs):=by
 unfold unD at h; split at h
 · cases h; rfl
 · cases h
theorem sV {x:V} {k:Key} (h:keyOf x=some k):x=kV k:=by
 unfold keyOf at h; split at h
 · cases h; rfl
 · cases h; rfl
 · cases h
section
variable {X:Cx} {a b c:Expr} {ta tb tc:TE} {pos:Pos}
theorem ax:OpR X (binaryOp .Add) cAdd:=by
 intro pins s σ H x y v u Q I rx ry h
 unfold cAdd at h
 split at h
 · exact yR pins s σ H _ _ v u Q I rx ry ⟨_,_,rfl,rfl,h⟩
 · exact va pins s σ H _ _ v u Q I rx ry ⟨_,_,rfl,rfl,h.1,h.2⟩
 · obtain ⟨xs,e1,h⟩:=aV h
   obtain ⟨zs,e2,h⟩:=aV h
   exact y8 pins s σ H _ _ v u Q I rx ry ⟨_,_,xs,zs,rfl,rfl,fC e1,fC e2,h.1,h.2⟩
 · exact h.elim
theorem bW:OpR X (binaryOp .Sub) cSub:=by
 intro pins s σ H x y v u Q I rx ry h
 unfold cSub at h
 split at h
 · exact yS pins s σ H _ _ v u Q I rx ry ⟨_,_,rfl,rfl,h⟩
 · exact h.elim
theorem bX:OpR X (binaryOp .Mult) cMul:=by
 intro pins s σ H x y v u Q I rx ry h
 unfold cMul at h
 split at h
 · exact yT pins s σ H _ _ v u Q I rx ry ⟨_,_,rfl,rfl,h.1,h.2⟩
 · exact h.elim
theorem gh:OpR X (binaryOp .FloorDiv) cDiv:=by
 intro pins s σ H x y v u Q I rx ry h
 unfold cDiv at h
 split at h
 · exact yb pins s σ H _ _ v u Q I rx ry ⟨_,_,rfl,rfl,h.1,h.2⟩
 · exact h.elim
theorem aH:OpR X (binaryOp .Mod) cMod:=by
 intro pins s σ H x y v u Q I rx ry h
 unfold cMod at h
 split at h
 · exact yU pins s σ H _ _ v u Q I rx ry ⟨_,_,rfl,rfl,h.1,h.2⟩
 · exact h.elim
theorem uL:OpR X (binaryOp .Pow) cPow:=by
 intro pins s σ H x y v u Q I rx ry h
 unfold cPow at h
 split at h
 · exact yV pins s σ H _ _ v u Q I rx ry ⟨_,_,rfl,rfl,h.1,h.2⟩
 · exact h.elim
theorem mO {op:CmpOp} {g:Int→Int→Bool} (o:OpR X (compareOp op) (rI0 fun i j=>.bl (g i j))):OpR X (compareOp op) (cCmp g):=by
 intro pins s σ H x y v u Q I rx ry h
 unfold cCmp at h
 split at h
 · exact o pins s σ H _ _ v u Q I rx ry ⟨_,_,rfl,rfl,h⟩
 · exact h.elim
theorem sW:OpR X (compareOp .Lt) (cCmp fun i j=>decide (i < j)):=mO zN
theorem pc:OpR X (compareOp .LtE) (cCmp fun i j=>decide (i≤j)):=mO zO
theorem fD:OpR X (compareOp .Gt) (cCmp fun i j=>decide (j < i)):=mO zP
theorem wy:OpR X (compareOp .GtE) (cCmp fun i j=>decide (j≤i)):=mO zQ
theorem zc (hu:X.A.units+64 < cLine):OpR X (compareOp .Eq) (rEqD X.K):=by
 intro pins s σ H x y v u Q I rx ry h
 obtain ⟨d,e,h1,h2,h3,h4,q⟩:=h
 obtain ⟨as,r1⟩:=h1.reads I rx
 obtain ⟨bs,r2⟩:=h2.reads I ry
 exact eq_dataH r1 r2 h3 h4 hu ⟨.bl _,H,I,rfl,q⟩
theorem zd (hu:X.A.units+64 < cLine):OpR X (compareOp .NotEq) (rNeD X.K):=by
 intro pins s σ H x y v u Q I rx ry h
 obtain ⟨d,e,h1,h2,h3,h4,q⟩:=h
 obtain ⟨as,r1⟩:=h1.reads I rx
 obtain ⟨bs,r2⟩:=h2.reads I ry
 exact ne_dataH r1 r2 h3 h4 hu ⟨.bl _,H,I,rfl,q⟩
theorem aI (hu:X.A.units+64 < cLine):OpR X (compareOp .Eq) (cEq X.K):=by
 intro pins s σ H x y v u Q I rx ry h
 unfold cEq at h
 split at h
 · refine u8 pins s σ H _ _ v u Q I rx ry ⟨rfl,?_⟩
   simpa using h
 · refine u8 pins s σ H _ _ v u Q I rx ry ⟨rfl,?_⟩
   simpa using h
 · refine u8 pins s σ H _ _ v u Q I rx ry ⟨rfl,?_⟩
   simpa using h
 · exact zc hu pins s σ H _ _ v u Q I rx ry h
theorem i4 (hu:X.A.units+64 < cLine):OpR X (compareOp .NotEq) (cNe X.K):=by
 intro pins s σ H x y v u Q I rx ry h
 unfold cNe at h
 split at h
 · refine u9 pins s σ H _ _ v u Q I rx ry ⟨rfl,?_⟩
   simpa using h
 · refine u9 pins s σ H _ _ v u Q I rx ry ⟨rfl,?_⟩
   simpa using h
 · refine u9 pins s σ H _ _ v u Q I rx ry ⟨rfl,?_⟩
   simpa using h
 · exact zd hu pins s σ H _ _ v u Q I rx ry h
theorem ze (hu:X.A.units+64 < cLine):OpR X (compareOp .In) (rInD X.K false):=by
 intro pins s σ H x y v u Q I rx ry h
 obtain ⟨d,ds,h1,h2,h3,h4,h5,q⟩:=h
 obtain ⟨as,r1⟩:=h1.reads I rx
 rcases h2 with h2 | h2
 · obtain ⟨bs,r2⟩:=h2.reads I ry
   exact SeqAt.in_list_reads r2 r1 h3 h4 (by omega) ⟨.bl _,H,I,rfl,q⟩
 · obtain ⟨bs,r2⟩:=h2.reads I ry
   exact SeqAt.in_tuple_reads r2 r1 h3 h4 (by omega) ⟨.bl _,H,I,rfl,q⟩
theorem kZ (hu:X.A.units+64 < cLine):OpR X (compareOp .In) (cIn X.K false):=by
 intro pins s σ H x y v u Q I rx ry h
 unfold cIn at h
 split at h
 · exact ze hu pins s σ H _ _ v u Q I rx ry h
 · rename_i p hx
   split at h
   · rename_i kvs e
     obtain ⟨k,ek,q⟩:=aV h
     cases (show u=Value.ref p from ry)
     have g:DGet H p x (valV kvs k):=by rw [sV ek]; exact DGet.k (sU e)
     exact Aj (Nat.lt_of_le_of_lt (Nat.add_le_add_left (by decide:1≤64) _) hu) I g rx fun s' I'=>⟨.bl _,H,I',rfl,q⟩
   · obtain ⟨xs,e,f1,f2,q⟩:=aV h
     exact rj pins s σ H _ _ v u Q I rx ry ⟨p,xs,rfl,l8 e,f1,f2,q⟩
 · exact wd pins s σ H _ _ v u Q I rx ry ⟨_,_,rfl,rfl,h⟩
 · exact h.elim
end
end L2
namespace L2
open PySem PySem.Spec PyProof.Rows
section
variable {X:Cx} {a b c:Expr} {ta tb tc:TE} {pos:Pos}
theorem aE (hu:X.A.units+64 < cLine):IxR X cIx:=by
 intro value slice pins s σ H x y v u Q I rx ry h hs
 cases x with
 | ref p=>
  unfold cIx at h
  dsimp only at h
  split at h
  · rename_i kvs e
    obtain ⟨k,ek,h⟩:=aV h
    obtain ⟨z,ez,q⟩:=aV h
    cases (show v=Value.ref p from rx)
    have g:DGet H p y (some z):=by rw [sV ek,← ez]; exact DGet.k (sU e)
    exact tail_any (uq I g) PySem.F.slot_dict_getitem.lookup (wr (Nat.lt_of_le_of_lt (Nat.add_le_add_left (by decide:1≤64) _) hu) I g ry fun w' s3 I3 rw'=>⟨z,H,I3,rw',q⟩) hs
  · split at h
    · obtain ⟨xs,e,h⟩:=aV h
      obtain ⟨z,ez,q⟩:=aV h
      rcases l8 (K:=X.K) e with r | r
      · exact qj value slice pins s σ H _ _ v u Q I rx ry ⟨p,xs,_,z,rfl,rfl,r,ez,q⟩ hs
      · exact yX value slice pins s σ H _ _ v u Q I rx ry ⟨p,xs,_,z,rfl,rfl,r,ez,q⟩ hs
    · exact h.elim
 | str zz=>
  cases y with
  | int i=>
   obtain ⟨hz,h⟩:=(show zz.length≤sizeLine∧bnd (atI zz.cps.toList i) fun c=>Q (.str ⟨#[c]⟩) H from h)
   obtain ⟨z,ez,q⟩:=aV h
   exact yY value slice pins s σ H _ _ v u Q I rx ry ⟨_,_,z,rfl,rfl,hz,ez,q⟩ hs
  | _=>exact False.elim h
 | _=>exact False.elim h
def kLen:List V→Hp→VK→Prop
 | [.ref p],H,Q=>(match unD (H p) with
  | some kvs=>Q (.int kvs.length) H
  | none=>bnd (unS (H p)) fun xs=>Q (.int xs.length) H)
 | [.str z],H,Q=>z.length≤sizeLine∧Q (.int z.length) H
 | _,_,_=>False
theorem bv:CallR X (.builtin "len") kLen:=by
 intro pins s σ H xs us Q I r h
 unfold kLen at h
 split at h
 · split at h
   · rename_i kvs e
     exact wu pins s σ H _ us Q I r ⟨_,kvs,rfl,sU e,h⟩
   · obtain ⟨ys,e,q⟩:=aV h
     exact gr pins s σ H _ us Q I r ⟨_,ys,rfl,l8 e,q⟩
 · exact sM pins s σ H _ us Q I r ⟨_,rfl,h.1,h.2⟩
 · exact h.elim
def kAbs:List V→Hp→VK→Prop
 | [.int i],H,Q=>Q (.int (if i < 0 then -i else i)) H
 | _,_,_=>False
def kMin:List V→Hp→VK→Prop
 | [.int i,.int j],H,Q=>Q (.int (if j < i then j else i)) H
 | _,_,_=>False
theorem wz (hc:X.calm=true):CallR X (.builtin "min") kMin:=by
 intro pins s σ H xs us Q I r h
 unfold kMin at h
 split at h
 · exact wf hc pins s σ H _ us Q I r ⟨_,_,rfl,h⟩
 · exact h.elim
def kMax:List V→Hp→VK→Prop
 | [.int i,.int j],H,Q=>Q (.int (if j > i then j else i)) H
 | _,_,_=>False
def kList:List V→Hp→VK→Prop
 | [.ref p],H,Q=>bnd (unS (H p)) fun ys=>∀ l,H l=none→Q (.ref l) (upd H l (.lst ys))
 | _,_,_=>False
theorem b4:CallR X (.type "list") kList:=by
 intro pins s σ H xs us Q I r h
 unfold kList at h
 split at h
 · obtain ⟨ys,e,q⟩:=aV h
   exact sO pins s σ H _ us Q I r ⟨_,ys,rfl,l8 e,q⟩
 · exact h.elim
def k6:List V→Hp→VK→Prop
 | [.ref p],H,Q=>bnd (unL (H p)) fun ys=>∃ ns:List Int,ys=ns.map V.int∧ns.length < 64∧∀ (ns':List Int) l,H l=none→ns'.Perm ns→ns'.Pairwise (· ≤·)→Q (.ref l) (upd H l (.lst (ns'.map V.int)))
 | _,_,_=>False
theorem sX:CallR X (.builtin "sorted") k6:=by
 intro pins s σ H xs us Q I r h
 unfold k6 at h
 split at h
 · rename_i p
   obtain ⟨ys,e,ns,rfl,hlen,q⟩:=aV h
   obtain ⟨u,rfl,ru⟩:=cR r
   cases ru
   obtain ⟨its,rv,pl,hz⟩:=I.list (l7 e)
   have hI:IntsAre its ns:=o8 rv
   have hl:=rv.length
   rw [List.length_map] at hl
   refine sorted_ints pl.isList hI (by omega) fun out ns' hI' hp hs=>?_
   have old:∀ b o,s.heap.get? b=some o→(sortedAll s.heap its out).get? b=some o:=fun b o e=>sortedAll_old e
   obtain ⟨n,at_⟩:=sortedAll_at s.heap its out
   have hfresh:H (s.heap.objs.size+1)=none:=I.hok.fresh (Nat.le_succ _)
   have hlen':(ns'.map V.int).length≤sizeLine:=by
    rw [List.length_map,hp.length_eq]
    exact Nat.le_of_lt (Nat.lt_trans hlen (by decide))
   refine ⟨.ref (s.heap.objs.size+1),_,I.laid (t':=s.toks) (a:=s.heap.objs.size+1) (o:=.lst (ns'.map V.int)) old (Nat.le_succ _) ⟨hlen',out.toList,n,l6 hI',?_⟩,rfl,q ns' _ hfresh hp hs⟩
   rw [at_]
 · exact h.elim
def j6 (H:Hp):V→Option String
 | .non=>some "NoneType"
 | .bl _=>some "bool"
 | .int _=>some "int"
 | .str _=>some "str"
 | .ref p=>match H p with
  | some (.lst _)=>some "list"
  | some (.frz _ (.lst _))=>some "list"
  | some (.tup _)=>some "tuple"
  | some (.dK _)=>some "dict"
  | _=>none
 | _=>none
def isTy (t n:String):Bool:=t==n||(t=="bool"&&n=="int")
def mP (n:String):Bool:=["int","bool","str","list","tuple","dict"].contains n
theorem wA {K:PySem.W.Frag} {H:Hp} {x:V} {t:String} (h:j6 H x=some t):TyOf K H x (.type t)∧["NoneType","int","bool","str","list","tuple","dict"].contains t=true:=by
 cases x with
 | non=>cases h; exact ⟨.non,by decide⟩
 | bl b=>cases h; exact ⟨.bl b,by decide⟩
 | int i=>cases h; exact ⟨.int i,by decide⟩
 | str i=>cases h; exact ⟨.str i,by decide⟩
 | byt _=>cases h
 | flt _=>cases h
 | ty _=>cases h
 | ref p=>
  unfold j6 at h
  dsimp only at h
  split at h
  · rename_i e; cases h; exact ⟨.lst e,by decide⟩
  · rename_i e; cases h; exact ⟨.frz e,by decide⟩
  · rename_i e; cases h; exact ⟨.tup e,by decide⟩
  · rename_i e; cases h; exact ⟨.dK e,by decide⟩
  · cases h
theorem zf (K:PySem.W.Frag):∀ t∈["NoneType","int","bool","str","list","tuple","dict"],∀ n∈["int","bool","str","list","tuple","dict"],PySem.W.kitOne K (.type t) (.type n)=some (isTy t n):=by
 intro t ht n hn
 simp only [List.mem_cons,List.not_mem_nil,or_false] at ht hn
 rcases ht with rfl | rfl | rfl | rfl | rfl | rfl | rfl <;> rcases hn with rfl | rfl | rfl | rfl | rfl | rfl <;> rfl
def kIsi:List V→Hp→VK→Prop
 | [x,.ty n],H,Q=>mP n=true∧bnd (j6 H x) fun t=>Q (.bl (isTy t n)) H
 | _,_,_=>False
theorem gi:CallR X (.builtin "isinstance") kIsi:=by
 intro pins s σ H xs us Q I r h
 unfold kIsi at h
 split at h
 · obtain ⟨hn,h⟩:=h
   obtain ⟨t,et,q⟩:=aV h
   obtain ⟨u,w,rfl,ru,rw'⟩:=o7 r
   cases rw'
   obtain ⟨ty,ht⟩:=wA (K:=X.K) et
   exact wk I ru ty (zf X.K t (by simpa using ht) _ (by simpa [mP] using hn)) fun tk=>⟨.bl _,H,I.tok tk,rfl,q⟩
 · exact h.elim
def dC:V→List V→Hp→VK→Prop
 | .ref l,[y],H,Q=>bnd (unM (H l)) fun xs=>xs.length < sizeLine∧Q .non (upd H l (.lst (xs++[y])))
 | _,_,_,_=>False
theorem gt:MtR X "list.append" dC:=by
 intro pins s σ H x vs v us Q I rx rv h
 unfold dC at h
 split at h
 · obtain ⟨xs,e,h1,q⟩:=aV h
   exact rm pins s σ H _ _ v us Q I rx rv ⟨_,xs,_,rfl,rfl,fC e,h1,q⟩
 · exact h.elim
def mQ:V→List V→Hp→VK→Prop
 | .ref l,[.ref b],H,Q=>bnd (unM (H l)) fun xs=>bnd (unM (H b)) fun zs=>xs.length+zs.length≤sizeLine∧Q .non (upd H l (.lst (xs++zs)))
 | _,_,_,_=>False
theorem vk:MtR X "list.extend" mQ:=by
 intro pins s σ H x vs v us Q I rx rv h
 unfold mQ at h
 split at h
 · obtain ⟨xs,e,h⟩:=aV h
   obtain ⟨zs,e2,h1,q⟩:=aV h
   exact wq pins s σ H _ _ v us Q I rx rv ⟨_,_,xs,zs,rfl,rfl,fC e,fC e2,h1,q⟩
 · exact h.elim
theorem fZ {K:PySem.W.Frag} {H:Hp} {p:Addr} {xs:List V} (h:H p=some (.lst xs)):tyV K "list" (.ref p) H:=.inl ⟨rfl,_,SqL.of h⟩
def cSl:V→Option Int→Option Int→Hp→VK→Prop
 | .ref p,lo,hi,H,Q=>bnd (unL (H p)) fun xs=>∀ l,H l=none→Q (.ref l) (upd H l (.lst (cutV xs lo hi)))
 | _,_,_,_,_=>False
theorem Ak:SlR X cSl:=by
 intro pins s σ H x v vl vu lo hi sl Q I rx hs pl pu h
 unfold cSl at h
 split at h
 · obtain ⟨xs,e,q⟩:=aV h
   exact yj pins s σ H _ v vl vu lo hi sl Q I rx hs pl pu ⟨_,xs,rfl,l7 e,q⟩
 · exact h.elim
end
structure Cal (P:Program) (w:World) (K:PySem.W.Frag) (mg:Str→Option Value) (base:Heap) (k:Nat) (x:Str) (ps:List Str) (sp:Sp):Prop where
 ex:∃ (f:Addr) (fd:FuncData),FnOk P w K mg base CX0 k f fd ps sp∧mg x=some (.ref f)∧PySem.W.keepIn K (.ref f)=true∧Binds K fd ps []
theorem ap {X:Cx} {k n:Nat} {x:Str} {ps:List Str} {sp:Sp} {p pos:Pos} {e:Expr} {es:List Expr} {t:TA} (C:Cal X.prog X.w X.K X.mg X.base k x ps sp) (hr:Room n X.A) (hk:k≤n) (hg:Gl X x) (ha:PA X (e::es) t)
  (hdb:(x==("__debug__":Str))=false:=by decide) (he:starEach (e::es) X.env=(false,eval e X.env)::starEach es X.env:=by rfl) (hpl:(backTo pos (starEach es X.env)).any (·.1)=false:=by rfl):
  PE X (.Call (.Name x p) (e::es) [] pos) (tCall sp [] E0 t):=by
 obtain ⟨f,fd,F,hm,hkp,hb⟩:=C.ex
 exact qh F (hr.mono hk) hg hm hkp hb .nil vi ha hdb he hpl
end L2
namespace L2
open PySem PySem.Spec PyProof.Rows
theorem bS:bootBuiltins "len"=some (.builtin "len"):=by decide+kernel
theorem zg:bootBuiltins "min"=some (.builtin "min"):=by decide+kernel
theorem wB:bootBuiltins "sorted"=some (.builtin "sorted"):=by decide+kernel
theorem wC:bootBuiltins "any"=some (.builtin "any"):=by decide+kernel
theorem aS:bootBuiltins "isinstance"=some (.builtin "isinstance"):=by decide+kernel
theorem ce:bootBuiltins "list"=some (.type "list"):=by decide+kernel
theorem j7:bootBuiltins "int"=some (.type "int"):=by decide+kernel
theorem yp:bootBuiltins "bool"=some (.type "bool"):=by decide+kernel
theorem c5:bootBuiltins "str"=some (.type "str"):=by decide+kernel
theorem n4:bootBuiltins "tuple"=some (.type "tuple"):=by decide+kernel
def compN (scope:Scope):List Str:=(scope.names.filter fun p=>p.2==.local||p.2==.cell||p.2==.free).map (·.1)
def pd (N:List Str) (scope:Scope):List (Option Nat):=(compN scope).map fun x=>if scope.names.lookup x==some .free then N.findIdx? (· ==x) else none
def isCF:Option NameKind→Bool
 | some .cell=>true
 | some .free=>true
 | _=>false
theorem zh {X:Cx} {scope:Scope} (h1:scope.kind=.function) (h2:(scope.names.map (·.1)).Nodup) (h3:(scope.names.all fun p=>p.2 != .free||isCF (X.env.kindOf p.1))=true):BlkOk X (compN scope) (pd X.N scope) scope where
 kind:=h1
 nd:=h2.sublist (List.Sublist.map _ (List.filter_sublist ..))
 len:=by unfold pd; rw [List.length_map]
 names:=h2
 free:=fun x hx=>by
  have:=List.all_eq_true.mp h3 (x,.free) hx
  simp only [bne_self_eq_false,Bool.false_or] at this
  unfold isCF at this
  split at this
  · rename_i e; exact .inl e
  · rename_i e; exact .inr e
  · cases this
 at_:=fun j i x e1 e2=>by
  unfold pd at e2
  rw [List.getElem?_map,e1] at e2
  simp only [Option.map_some,Option.some.injEq] at e2
  split at e2
  · rename_i hf
    obtain ⟨hlt,hp,_⟩:=List.findIdx?_eq_some_iff_getElem.mp e2
    have hx:X.N[i]? =some x:=by
     rw [List.getElem?_eq_getElem hlt]
     have:X.N[i]=x:=by simpa using hp
     rw [this]
    refine ⟨hx,PySem.mem_of_lookup (by simpa using hf)⟩
  · cases e2
end L2
namespace L2
open PySem PySem.Spec PyProof.Rows
section
variable {t u:TS} {D:Ends} {σ:St} {H:Hp} {Q:VK} {ta tb:TE} {R:Bool→Hp→Prop} {c d:TT}
theorem aB:tSeq t u D σ H=t { D with nx:=u D } σ H:=rfl
theorem aX:tNext D σ H=D.nx σ H:=rfl
theorem jo {g:TG}:tAsg ta g D σ H=ta σ H fun x H1=>g x σ H1 D.nx:=rfl
theorem bY {i:Nat} {v:V} {k:St→Hp→Prop}:gName i v σ H k=k (σ.set i (some v)) H:=rfl
theorem eh {i:Nat}:tVar i σ H Q=∃ v,σ[i]? =some (some v)∧Q v H:=rfl
theorem w_c {v:V}:tC v σ H Q=Q v H:=rfl
theorem kC {r:R2}:tOp r ta tb σ H Q=ta σ H fun x H1=>tb σ H1 fun y H2=>r x y H2 Q:=rfl
theorem iT:tRet ta D σ H=ta σ H D.rt:=rfl
theorem gu:tRetN D σ H=D.rt .non H:=rfl
theorem fE:tDrop ta D σ H=ta σ H fun _ H1=>D.nx σ H1:=rfl
theorem aJ:tIfS c t u D σ H=c σ H fun b H1=>if b=true then t D σ H1 else u D σ H1:=rfl
theorem fF:tTest ta σ H R=ta σ H fun x H'=>∃ k,x=.bl k∧R k H':=rfl
theorem w_b:tB ta σ H R=ta σ H fun x H'=>∃ k,x=.bl k∧R k H':=rfl
theorem w_not:tNot c σ H R=c σ H fun k H1=>R (!k) H1:=rfl
theorem jp:tAnd c d σ H R=c σ H fun k H1=>if k=true then d σ H1 R else R false H1:=rfl
theorem lx:tOr c d σ H R=c σ H fun k H1=>if k=true then R true H1 else d σ H1 R:=rfl
theorem gw:tNotV ta σ H Q=ta σ H fun x H1=>∃ c,x=.bl c∧Q (.bl (!c)) H1:=rfl
theorem gy:tAndV ta tb σ H Q=ta σ H fun x H1=>∃ c,x=.bl c∧if c=true then tb σ H1 Q else Q (.bl false) H1:=rfl
theorem jq:tOrV ta tb σ H Q=ta σ H fun x H1=>∃ c,x=.bl c∧if c=true then Q (.bl true) H1 else tb σ H1 Q:=rfl
theorem iU {k:List V→Hp→Prop}:tNil σ H k=k [] H:=rfl
theorem fG {tr:TA} {k:List V→Hp→Prop}:tCons ta tr σ H k=ta σ H fun x H1=>tr σ H1 fun xs H2=>k (x::xs) H2:=rfl
theorem kD {r:List V→Hp→VK→Prop} {tr:TA}:tCB r tr σ H Q=tr σ H fun vs H1=>r vs H1 Q:=rfl
theorem gz {sp:Sp} {dvs:List V} {E:XK} {tr:TA}:tCall sp dvs E tr σ H Q=tr σ H fun vs H1=>sp (vs++dvs) H1 Q E:=rfl
theorem jr {tr:TA}:tTup tr σ H Q=tr σ H fun xs H1=>xs.length≤sizeLine∧∀ p,H1 p=none→Q (.ref p) (upd H1 p (.tup xs)):=rfl
theorem js {tr:TA}:tLst tr σ H Q=tr σ H fun xs H1=>xs.length≤sizeLine∧∀ p,H1 p=none→Q (.ref p) (upd H1 p (.lst xs)):=rfl
theorem kE {K:PySem.W.Frag} {T:String} {r:V→List V→Hp→VK→Prop} {tr:TA}:tBM K T r ta tr σ H Q=ta σ H fun x H1=>tyV K T x H1∧tr σ H1 fun xs H2=>r x xs H2 Q:=rfl
theorem jt {K:PySem.W.Frag} {T:String} {r:V→List V→Hp→VK→Prop}:Ai K T r ta σ H Q=ta σ H fun x H1=>tyV K T x H1∧r x [] H1 Q:=rfl
theorem fH:tTrue σ H R=R true H:=rfl
theorem gA:zb σ H Q=∀ p,H p=none→Q (.ref p) (upd H p (.dK [])):=rfl
theorem gB {td ty tv:TE}:sDPut td ty tv D σ H=tv σ H fun v H1=>td σ H1 fun x H2=>ty σ H2 fun y H3=>∃ a H4,x=.ref a∧DPut H3 a y v H4∧D.nx σ H4:=rfl
theorem ju {i j:Int}:cAdd (.int i) (.int j) H Q=Q (.int (i+j)) H:=rfl
theorem jv {i j:Int}:cSub (.int i) (.int j) H Q=Q (.int (i - j)) H:=rfl
theorem jw {i j:Int}:cMul (.int i) (.int j) H Q=(CMul i j∧Q (.int (i*j)) H):=rfl
theorem jx {i j:Int}:cDiv (.int i) (.int j) H Q=(CDiv i j∧Q (.int (i / j)) H):=rfl
theorem jy {i j:Int}:cMod (.int i) (.int j) H Q=(0 < j∧Q (.int (i % j)) H):=rfl
theorem jz {g:Int→Int→Bool} {i j:Int}:cCmp g (.int i) (.int j) H Q=Q (.bl (g i j)) H:=rfl
theorem jA {K:PySem.W.Frag} {i j:Int}:cEq K (.int i) (.int j) H Q=Q (.bl (decide (i=j))) H:=rfl
theorem jB {K:PySem.W.Frag} {i j:Int}:cNe K (.int i) (.int j) H Q=Q (.bl (!decide (i=j))) H:=rfl
theorem jC {K:PySem.W.Frag} {i j:Bool}:cEq K (.bl i) (.bl j) H Q=Q (.bl (decide (i=j))) H:=rfl
theorem jD {K:PySem.W.Frag} {i j:Bool}:cNe K (.bl i) (.bl j) H Q=Q (.bl (!decide (i=j))) H:=rfl
theorem vm {p:Addr} {i:Int} {xs:List V} (h:H p=some (.tup xs)):cIx (.ref p) (.int i) H Q=bnd (atI xs i) fun v=>Q v H:=by
 unfold cIx; dsimp only; rw [h]; rfl
theorem zU {p:Addr} {i:Int} {xs:List V} (h:H p=some (.lst xs)):cIx (.ref p) (.int i) H Q=bnd (atI xs i) fun v=>Q v H:=by
 unfold cIx; dsimp only; rw [h]; rfl
theorem jE {i:Int}:kAbs [.int i] H Q=Q (.int (if i < 0 then -i else i)) H:=rfl
theorem jF {i j:Int}:kMin [.int i,.int j] H Q=Q (.int (if j < i then j else i)) H:=rfl
theorem gC {p:Addr} {xs:List V} (h:H p=some (.lst xs)):kLen [.ref p] H Q=Q (.int xs.length) H:=by
 unfold kLen; dsimp only; rw [h]; rfl
theorem zj {p:Addr} {xs:List V} (h:H p=some (.tup xs)):kLen [.ref p] H Q=Q (.int xs.length) H:=by
 unfold kLen; dsimp only; rw [h]; rfl
theorem ly {p:Addr} {xs:List V} {y:V} (h:H p=some (.lst xs)):dC (.ref p) [y] H Q=(xs.length < sizeLine∧Q .non (upd H p (.lst (xs++[y])))):=by
 unfold dC; dsimp only; rw [h]; rfl
theorem ma:∀ ns:List Int,(ns.map V.int).all flatV=true
 | []=>rfl
 | n::r=>by rw [List.map_cons,List.all_cons,ma r]; rfl
theorem n5 (i:Int):∀ ns:List Int,inV (.int i) (ns.map V.int)=decide (i∈ns)
 | []=>by simp [inV]
 | n::r=>by
  have ih:=n5 i r
  unfold inV at ih ⊢
  rw [List.map_cons,List.any_cons,ih]
  show ((n==i)||decide (i∈r))=decide (i∈n::r)
  rw [Bool.eq_iff_iff,Bool.or_eq_true,beq_iff_eq,decide_eq_true_eq,decide_eq_true_eq,List.mem_cons]
  exact ⟨fun h=>h.elim (fun e=>.inl e.symm) .inr,fun h=>h.elim (fun e=>.inl e.symm) .inr⟩
theorem Al {K:PySem.W.Frag} {p:Addr} {i:Int} {ns:List Int} (h:H p=some (.lst (ns.map V.int))):cIn K false (.int i) (.ref p) H Q=Q (.bl (decide (i∈ns))) H:=by
 unfold cIn; dsimp only; rw [h]; dsimp only [unD,unS,bnd]
 rw [n5,ma]
 simp [flatV]
end
def LoopR (J:It) (g:TG) (tb:TS) (D:Ends) (σ:St) (H1:Hp):Prop:=∃ W:Nat→Nat→St→Hp→Prop,(∃ m,W 0 m σ H1)∧∀ i m σ H,W i m σ H→
 (J.stop i H∧D.nx σ H)∨(J.go i H∧∃ N:St→Hp→Prop,(∀ σ' H',N σ' H'→∃ m',m' < m∧W (i+1) m' σ' H')∧∀ x H',J.yld i H x H'→g x σ H' fun σ2 H2=>tb { D with nx:=N,ct:=N,bk:=D.nx } σ2 H2)
def CompR (J:It) (g:TG) (tt:TT) (te:TE) (fin:Addr→Hp→Prop) (σ0:St) (H1:Hp):Prop:=∀ l,H1 l=none→
 ∃ W:Nat→Nat→St→Hp→Prop,(∃ m,W 0 m σ0 (upd H1 l (.lst [])))∧∀ i m σ' H',W i m σ' H'→
  (J.stop i H'∧fin l H')∨(J.go i H'∧∃ N:St→Hp→Prop,(∀ σ'' H'',N σ'' H''→∃ m',m' < m∧W (i+1) m' σ'' H'')∧∀ x H2,J.yld i H' x H2→g x σ' H2 fun σ2 H3=>tt σ2 H3 fun b H4=>
   if b=true then te σ2 H4 fun y H5=>∃ ys,H5 l=some (.lst ys)∧ys.length < sizeLine∧N σ2 (upd H5 l (.lst (ys++[y]))) else N σ2 H4)
section
variable {K:PySem.W.Frag} {g:TG} {tb:TS} {D:Ends} {σ:St} {H:Hp} {tl:TE} {ta:TA} {ix:List (Option Nat)} {tt:TT} {te:TE} {k:Nat} {Q:VK}
theorem gD:tFor (iList K tl) g tb D σ H=tl σ H fun x H1=>∃ a,x=.ref a∧(∃ xs,SqL K H1 a xs)∧LoopR (Itl K a) g tb D σ H1:=rfl
theorem ei:tFor (ee ta) g tb D σ H=ta σ H fun vs H1=>∃ j:Int,vs=[.int j]∧ -(2^62)≤j∧j < 2^62∧LoopR (Itr 0 j.toNat) g tb D σ H1:=rfl
theorem eu:tFor (o6 ta) g tb D σ H=ta σ H fun vs H1=>∃ i j:Int,vs=[.int i,.int j]∧(-(2^62)≤i∧i < 2^62∧ -(2^62)≤j∧j < 2^62)∧LoopR (Itr i (j - i).toNat) g tb D σ H1:=rfl
theorem dF:tComp ix (iList K tl) g tt te σ H Q=tl σ H fun x H1=>∃ a,x=.ref a∧(∃ xs,SqL K H1 a xs)∧CompR (Itl K a) g tt te (fun l H'=>Q (.ref l) H') (subσ ix σ) H1:=rfl
theorem df:tComp ix (ee ta) g tt te σ H Q=ta σ H fun vs H1=>∃ j:Int,vs=[.int j]∧ -(2^62)≤j∧j < 2^62∧CompR (Itr 0 j.toNat) g tt te (fun l H'=>Q (.ref l) H') (subσ ix σ) H1:=rfl
theorem dg:sComp k ix (iList K tl) g tt te D σ H=tl σ H fun x H1=>∃ a,x=.ref a∧(∃ xs,SqL K H1 a xs)∧CompR (Itl K a) g tt te (fun l H'=>D.nx (σ.set k (some (.ref l))) H') (subσ ix σ) H1:=rfl
theorem cK:sComp k ix (ee ta) g tt te D σ H=ta σ H fun vs H1=>∃ j:Int,vs=[.int j]∧ -(2^62)≤j∧j < 2^62∧CompR (Itr 0 j.toNat) g tt te (fun l H'=>D.nx (σ.set k (some (.ref l))) H') (subσ ix σ) H1:=rfl
theorem pf {lo:Int} {n:Nat} {fin:Addr→Hp→Prop} {σ0:St} {H1:Hp} (Pv:Addr→Nat→St→Hp→Prop) (h0:∀ l,H1 l=none→Pv l 0 σ0 (upd H1 l (.lst [])))
  (hs:∀ l i σ H,H1 l=none→i < n→Pv l i σ H→g (.int (lo+i)) σ H fun σ2 H3=>tt σ2 H3 fun b H4=>if b=true then te σ2 H4 fun y H5=>∃ ys,H5 l=some (.lst ys)∧ys.length < sizeLine∧Pv l (i+1) σ2 (upd H5 l (.lst (ys++[y]))) else Pv l (i+1) σ2 H4)
  (hd:∀ l σ H,H1 l=none→Pv l n σ H→fin l H):CompR (Itr lo n) g tt te fin σ0 H1:=by
 intro l hl0
 refine ⟨fun i m σ H=>m=n - i∧i≤n∧Pv l i σ H,⟨n,by simp,Nat.zero_le _,h0 l hl0⟩,?_⟩
 rintro i m σ H ⟨rfl,hi,p⟩
 by_cases hlt:i < n
 · refine .inr ⟨hlt,Pv l (i+1),fun σ' H' p'=>⟨n - (i+1),by omega,rfl,hlt,p'⟩,fun x H' y=>?_⟩
   obtain ⟨e,y⟩:=y
   subst e y
   exact hs l i σ _ hl0 hlt p
 · have e:i=n:=by omega
   subst e
   exact .inl ⟨Nat.le_refl _,hd l σ H hl0 p⟩
theorem rq {a:Addr} {xs:List V} {fin:Addr→Hp→Prop} {σ0:St} {H1:Hp} (Pv:Addr→Nat→St→Hp→Prop) (h0:∀ l,H1 l=none→Pv l 0 σ0 (upd H1 l (.lst []))) (hq:∀ l i σ H,H1 l=none→i≤xs.length→Pv l i σ H→SqL K H a xs)
  (hs:∀ l i x σ H,H1 l=none→xs[i]? =some x→Pv l i σ H→g x σ H fun σ2 H3=>tt σ2 H3 fun b H4=>if b=true then te σ2 H4 fun y H5=>∃ ys,H5 l=some (.lst ys)∧ys.length < sizeLine∧Pv l (i+1) σ2 (upd H5 l (.lst (ys++[y]))) else Pv l (i+1) σ2 H4)
  (hd:∀ l σ H,H1 l=none→Pv l xs.length σ H→fin l H):CompR (Itl K a) g tt te fin σ0 H1:=by
 intro l hl0
 refine ⟨fun i m σ H=>m=xs.length - i∧i≤xs.length∧Pv l i σ H,⟨xs.length,by simp,Nat.zero_le _,h0 l hl0⟩,?_⟩
 rintro i m σ H ⟨rfl,hi,p⟩
 have q:=hq l i σ H hl0 hi p
 by_cases hlt:i < xs.length
 · refine .inr ⟨⟨xs,xs[i],q,by simp [hlt]⟩,Pv l (i+1),fun σ' H' p'=>⟨xs.length - (i+1),by omega,rfl,hlt,p'⟩,fun x H' y=>?_⟩
   obtain ⟨e,y⟩:=y
   subst e
   exact hs l i x σ _ hl0 (y xs q) p
 · have e:i=xs.length:=by omega
   subst e
   exact .inl ⟨⟨xs,q,Nat.le_refl _⟩,hd l σ H hl0 p⟩
theorem ph {p q:Addr} {xs ys:List Int} (hp:H p=some (.lst (xs.map V.int))) (hq:H q=some (.lst (ys.map V.int))) (h:Q (.bl (decide (xs=ys))) H):cEq K (.ref p) (.ref q) H Q:=by
 show rEqD K (.ref p) (.ref q) H Q
 refine ⟨.list (xs.map PyData.int),.list (ys.map PyData.int),.lst (SqL.of hp) (.ints xs),.lst (SqL.of hq) (.ints ys),iS xs,iS ys,?_⟩
 rw [PyData.eqv,nY]
 exact h
theorem xZ {p q:Addr} {xs ys:List Int} (hp:H p=some (.lst (xs.map V.int))) (hq:H q=some (.lst (ys.map V.int))) (h:Q (.bl (!decide (xs=ys))) H):cNe K (.ref p) (.ref q) H Q:=by
 show rNeD K (.ref p) (.ref q) H Q
 refine ⟨.list (xs.map PyData.int),.list (ys.map PyData.int),.lst (SqL.of hp) (.ints xs),.lst (SqL.of hq) (.ints ys),iS xs,iS ys,?_⟩
 rw [PyData.eqv,nY]
 exact h
theorem xx {p:Addr} {ns:List Int} (hp:H p=some (.lst (ns.map V.int))) (hn:ns.length < 64) (h:∀ (ns':List Int) l,H l=none→ns'.Perm ns→ns'.Pairwise (· ≤·)→Q (.ref l) (upd H l (.lst (ns'.map V.int)))):k6 [.ref p] H Q:=by
 unfold k6
 dsimp only
 rw [hp]
 exact ⟨ns,rfl,hn,h⟩
theorem i5 {p:Addr} {xs:List V} (hp:H p=some (.lst xs)) (h:∀ l,H l=none→Q (.ref l) (upd H l (.lst xs))):kList [.ref p] H Q:=by
 unfold kList
 dsimp only
 rw [hp]
 exact h
end
theorem aW {X:Cx} {N:List Str} {ix:List (Option Nat)} {scope:Scope} (h1:scope.kind=.function) (h2:(scope.names.map (·.1)).Nodup) (h3:(scope.names.all fun p=>p.2 != .free||isCF (X.env.kindOf p.1))=true) (h4:N=compN scope) (h5:ix=pd X.N scope):BlkOk X N ix scope:=by
 subst h4 h5
 exact zh h1 h2 h3
def kLenS (K:PySem.W.Frag):List V→Hp→VK→Prop:=fun xs H Q=>∃ p ys,xs=[.ref p]∧(SqL K H p ys∨SqT K H p ys)∧Q (.int ys.length) H
structure Bt (mg:Str→Option Value):Prop where
 len_:mg "len"=none
 abs_:mg "abs"=none
 min_:mg "min"=none
 max_:mg "max"=none
 sorted_:mg "sorted"=none
 any_:mg "any"=none
 isinstance_:mg "isinstance"=none
 list_:mg "list"=none
 int_:mg "int"=none
 bool_:mg "bool"=none
 str_:mg "str"=none
 tuple_:mg "tuple"=none
 reversed_:mg "reversed"=none
 set_:mg "set"=none
 range_:mg "range"=none
 zip_:mg "zip"=none
end L2
namespace L2
open PySem PySem.Spec PyProof.Rows
theorem Vals.get':∀ {xs:List V} {us:List Value} {i:Nat} {u:Value},Vals xs us→us[i]? =some u→∃ x,xs[i]? =some x∧RelV x u
 | _,_,_,_,.nil,h=>by simp at h
 | _,_,0,_,.cons r _,h=>by simp at h; subst h; exact ⟨_,rfl,r⟩
 | _,_,i+1,_,.cons _ t,h=>by
  obtain ⟨x,hx,r⟩:=Vals.get' (i:=i) t (by simpa using h)
  exact ⟨x,by simpa using hx,r⟩
section
variable {X:Cx} {pins:List (Addr × Obj)} {σ:St} {H:Hp} {s s':Shared}
theorem Inv.kept' (I:Inv X pins σ H s) (k:∀ b u,s.heap.get? b=some u→s'.heap.get? b=some u) (ho:s'.os=s.os) (hg:AllBare s'.gens):Inv X pins σ H s':=
 I.call' (ch:=[]) ho (Un.kept k) (I.hok.kept k) hg fun b z=>absurd z (by simp)
theorem Inv.walked {l:Addr} {o:Obj} (I:Inv X pins σ H s) (hm:Moved [s.heap.objs.size] (fun a b=>b=a) { s with heap:=s.heap.push o } s'):Inv X pins σ H s':=by
 refine I.kept' (fun b u e=>hm.heap b u (fun z=>?_) (Heap.get?_push_of_some _ e)) hm.os (by rw [show s'.gens=s.gens from hm.gens]; exact I.bare)
 have:b=s.heap.objs.size:=by simpa using z
 exact absurd (Heap.lt_size e) (by rw [this]; exact Nat.lt_irrefl _)
def kAny:List V→Hp→VK→Prop
 | [.ref p],H,Q=>bnd (unL (H p)) fun ys=>∃ bs:List Bool,ys=bs.map V.bl∧Q (.bl (bs.any id)) H
 | _,_,_=>False
theorem wD (bs:List Bool):(List.range bs.length).any (fun i=>bs.getD i false)=bs.any id:=by
 rw [Bool.eq_iff_iff,List.any_eq_true,List.any_eq_true]
 constructor
 · rintro ⟨i,hi,h⟩
   have hi':i < bs.length:=List.mem_range.mp hi
   exact ⟨bs[i],List.getElem_mem hi',by simpa [List.getD,hi'] using h⟩
 · rintro ⟨b,hb,h⟩
   obtain ⟨i,hi,e⟩:=List.mem_iff_getElem.mp hb
   refine ⟨i,List.mem_range.mpr hi,?_⟩
   have h':b=true:=h
   rw [List.getD,List.getElem?_eq_getElem hi,e]
   exact h'
theorem rz (hc:X.calm=true):CallR X (.builtin "any") kAny:=by
 intro pins s σ H xs us Q I r h
 unfold kAny at h
 split at h
 · rename_i p
   obtain ⟨ys,e,bs,rfl,q⟩:=aV h
   obtain ⟨u,rfl,ru⟩:=cR r
   cases ru
   obtain ⟨its,rv,pl,hz⟩:=I.list (l7 e)
   have hl:=rv.length
   rw [List.length_map] at hl
   have hlt:p < s.heap.objs.size:=by
    obtain ⟨o,h1,_⟩:=pl.isList
    exact Heap.lt_size h1
   refine call_any_walkS (wpAny_pyIter_list pl.isList ?_)
   refine ⟨s.heap.objs.size,_,_,_,its.toArray.size,_,_,fun i=>bs.getD i false,rfl,(Walks.list (A:=X.A.in1) (I.ok.hd hc) s.heap.objs.size p (Nat.ne_of_lt hlt) its.toArray).toS,⟨⟨_,Heap.get?_push_size _ rfl,rfl,rfl⟩,pl.isList.push _⟩,?_,fun s' hm=>?_⟩
   · intro i v s1 Q1 E1 hP hQ
     have hv:its[i]? =some v:=by simpa using hP
     obtain ⟨x,hx,rx⟩:=rv.get' hv
     obtain ⟨b,hb,rfl⟩:∃ b,bs[i]? =some b∧V.bl b=x:=by simpa using hx
     cases rx
     refine wpAny_truthy_bool ?_
     have e3:bs.getD i false=b:=by simp [List.getD,hb]
     rw [← e3]
     exact hQ
   · refine ⟨.bl _,H,I.walked (l:=p) hm,?_,q⟩
     have e2:its.toArray.size=bs.length:=by rw [List.size_toArray]; exact hl.symm
     rw [e2,wD]
     rfl
 · exact h.elim
def Itz (K:PySem.W.Frag) (a b:Addr):It:=
 ⟨fun i H=>∃ xs ys x y,SqL K H a xs∧SqL K H b ys∧xs[i]? =some x∧ys[i]? =some y,
  fun i H v H'=>∃ T x y,v=.ref T∧H T=none∧H'=upd H T (.tup [x,y])∧(∀ xs,SqL K H a xs→xs[i]? =some x)∧∀ ys,SqL K H b ys→ys[i]? =some y,
  fun i H=>∃ xs ys,SqL K H a xs∧SqL K H b ys∧(xs.length≤i∨ys.length≤i)⟩
theorem aK {h:Heap} {a b:Addr} {o u:Obj} {c d:String} (ha:h.get? a=some o) (hb:h.get? b=some u) (hc:o.cls=.type c) (hd:u.cls=.type d) (ne:c≠d):a≠b:=by
 rintro rfl; rw [ha] at hb; cases hb; rw [hc] at hd; cases hd; exact ne rfl
def ZSt (a b z TI TO i1 i2:Addr) (i:Nat) (h:Heap):Prop:=IsZip h z TI TO .none∧IsPair h TI (.ref i1) (.ref i2)∧(∃ u v,IsPair h TO u v)∧h.IsListIter i1 a i∧h.IsListIter i2 b i
theorem xy {P:Program} {w:World} {K:PySem.W.Frag} {es:List Expr} {x1:Nat} {pos:Pos} (a b z TI TO i1 i2:Addr) (dT:TI≠TO) (d1:i1≠i2):
  Turn P w K (.Tuple es x1 pos) (Itz K a b) [z,TI,TO,i1,i2] z (ZSt a b z TI TO i1 i2) where
 mem:=by simp
 obj:=fun i h st c hc=>by
  obtain ⟨hz,hTI,⟨u,v,hTO⟩,⟨o1,e1,c1,f1⟩,⟨o2,e2,c2,f2⟩⟩:=st
  simp only [List.mem_cons,List.not_mem_nil,or_false] at hc
  rcases hc with rfl | rfl | rfl | rfl | rfl
  · exact ⟨_,hz,fun v z=>by have z':Data.fields _=Data.cell v:=z; cases z'⟩
  · exact ⟨_,hTI,fun v z=>by have z':Data.seq _ _=Data.cell v:=z; cases z'⟩
  · exact ⟨_,hTO,fun v z=>by have z':Data.seq _ _=Data.cell v:=z; cases z'⟩
  · exact ⟨_,e1,fun v z=>by rw [f1] at z; cases z⟩
  · exact ⟨_,e2,fun v z=>by rw [f2] at z; cases z⟩
 keep:=fun i h h' st k=>by
  obtain ⟨hz,hTI,⟨u,v,hTO⟩,h1,h2⟩:=st
  exact ⟨k z (by simp) _ hz,k TI (by simp) _ hTI,⟨u,v,k TO (by simp) _ hTO⟩,h1.at fun o e=>k i1 (by simp) o e,h2.at fun o e=>k i2 (by simp) o e⟩
 item:=by
  intro X hP hw hK hc i pins s σ H E I hf st hg
  subst hP hw hK
  obtain ⟨xs,ys,x,y,hq1,hq2,hx,hy⟩:=hg
  obtain ⟨its1,rv1,p1,hz1⟩:=I.list hq1
  obtain ⟨its2,rv2,p2,hz2⟩:=I.list hq2
  obtain ⟨u1,hu1,ru1⟩:=rv1.get hx
  obtain ⟨u2,hu2,ru2⟩:=rv2.get hy
  obtain ⟨hz,hTI,⟨u,v,hTO⟩,⟨o1,e1,c1,f1⟩,⟨o2,e2,c2,f2⟩⟩:=id st
  obtain ⟨oa,ea,ca,_⟩:=p1.isList
  obtain ⟨ob,eb,cb,_⟩:=p2.isList
  have D:ZipApart z TI TO i1 i2 a b:=⟨aK hTI hz rfl rfl (by decide),aK hTO hz rfl rfl (by decide),aK e1 hz c1 rfl (by decide),aK e2 hz c2 rfl (by decide),dT,aK hTI e1 rfl c1 (by decide),aK hTI e2 rfl c2 (by decide),aK hTO e1 rfl c1 (by decide),aK hTO e2 rfl c2 (by decide),d1,
   aK ea hz ca rfl (by decide),aK ea hTO ca rfl (by decide),aK ea e1 ca c1 (by decide),aK ea e2 ca c2 (by decide),aK eb hz cb rfl (by decide),aK eb hTO cb rfl (by decide),aK eb e1 cb c1 (by decide),aK eb e2 cb c2 (by decide)⟩
  refine wpAny_pyNext_zip_item D hz hTI hTO ⟨o1,e1,c1,f1⟩ ⟨o2,e2,c2,f2⟩ p1.isList p2.isList (x:=u1) (y:=u2) (by simpa using hu1) (by simpa using hu2) fun h' a1 a2 a3 a4 a5 a6 hk=>?_
  refine ⟨_,rfl,wpAny_letOwnedTupleGo_zip a1 fun h2 hz2 sb=>?_⟩
  have hT:H s.heap.objs.size=none:=I.fresh
  have lt:∀ {c o},s.heap.get? c=some o→c≠s.heap.objs.size:=fun e=>Nat.ne_of_lt (Heap.lt_size e)
  have kp:∀ c o,c∉[z,TO,i1,i2]→s.heap.get? c=some o→h2.get? c=some o:=fun c o hc e=>by
   simp only [List.mem_cons,List.not_mem_nil,or_false,not_or] at hc
   exact sb.extBut _ _ hc.1 (hk c o hc.1 hc.2.1 hc.2.2.1 hc.2.2.2 e)
  have hTz:s.heap.objs.size≠z:=(lt hz).symm
  have gT:h2.get? s.heap.objs.size=some { cls:=.type "tuple",data:=.seq #[u1,u2] }:=sb.extBut _ _ hTz a5
  have nH:∀ c∈[z,TO,i1,i2],H c=none:=fun c hc=>(hf c (by simp only [List.mem_cons,List.not_mem_nil,or_false] at hc ⊢; rcases hc with h | h | h | h <;> simp [h])).1
  refine ⟨.ref s.heap.objs.size,upd H s.heap.objs.size (.tup [x,y]),I.call' (s':={ s with heap:=h2 }) (ch:=[z,TO,i1,i2]) rfl ⟨fun c o e n _ hx=>kp c o hx e,fun c o e n _ hx=>⟨o.slots,kp c o hx e⟩,fun c o e n _=>by rw [ai (lt e)]; exact n,fun c o e hx=>⟨o,kp c o hx e⟩,fun c xs e=>by rw [ai (au e hT)]; exact e,fun c o u e=>by rw [ai (au e hT)]; exact e,fun c ps e=>⟨#[],by rw [ai (au e hT),e]; simp⟩⟩ ?_ I.bare ?_,rfl,⟨_,x,y,rfl,hT,rfl,fun zs hz'=>by rw [I.list_inj hz' hq1]; exact hx,fun zs hz'=>by rw [I.list_inj hz' hq2]; exact hy⟩,?_,?_⟩
  · intro c ob e
    by_cases hb:c=s.heap.objs.size
    · subst hb
      rw [ae] at e
      cases e
      exact ⟨by show (2:Nat)≤sizeLine; exact Nat.le_of_lt (aR (by decide)),[u1,u2],.cons ru1 (.cons ru2 .nil),⟨_,gT,rfl,_,rfl⟩⟩
    · rw [ai hb] at e
      refine (I.hok c ob e).stay (fun d w' hd g=>kp d w' ?_ g) (fun d g=>by rw [ai (au g hT)]; exact g) fun d xs g=>by rw [ai (au g hT)]; exact g
      intro hm
      rcases hd with rfl | hd
      · rw [nH _ hm] at e; cases e
      · rw [nH _ hm] at hd; cases hd
  · intro c hc
    obtain ⟨f0,f1,f2,f3,f4,f5⟩:=hf c (by simp only [List.mem_cons,List.not_mem_nil,or_false] at hc ⊢; rcases hc with h | h | h | h <;> simp [h])
    exact ⟨f3,f1,f4,f5⟩
  · exact ⟨hz2,sb.extBut _ _ D.TIz (hk _ _ D.TIz D.TITO D.TIi1 D.TIi2 hTI),⟨_,_,sb.extBut _ _ D.TOz a2⟩,a3.extBut sb.extBut D.i1z,a4.extBut sb.extBut D.i2z⟩
  · intro c hc
    obtain ⟨o,e,_⟩:∃ o,s.heap.get? c=some o∧True:=by
     simp only [List.mem_cons,List.not_mem_nil,or_false] at hc
     rcases hc with rfl | rfl | rfl | rfl | rfl
     · exact ⟨_,hz,trivial⟩
     · exact ⟨_,hTI,trivial⟩
     · exact ⟨_,hTO,trivial⟩
     · exact ⟨_,e1,trivial⟩
     · exact ⟨_,e2,trivial⟩
    rw [ai (lt e)]
    exact (hf c hc).1
 done:=by
  intro X hP hw hK hc i pins s σ H E I hf st hg
  subst hP hw hK
  obtain ⟨xs,ys,hq1,hq2,hx⟩:=hg
  obtain ⟨its1,rv1,p1,hz1⟩:=I.list hq1
  obtain ⟨its2,rv2,p2,hz2⟩:=I.list hq2
  have hl1:=rv1.length
  have hl2:=rv2.length
  obtain ⟨hz,hTI,⟨u,v,hTO⟩,⟨o1,e1,c1,f1⟩,⟨o2,e2,c2,f2⟩⟩:=id st
  obtain ⟨oa,ea,ca,_⟩:=p1.isList
  obtain ⟨ob,eb,cb,_⟩:=p2.isList
  have D:ZipApart z TI TO i1 i2 a b:=⟨aK hTI hz rfl rfl (by decide),aK hTO hz rfl rfl (by decide),aK e1 hz c1 rfl (by decide),aK e2 hz c2 rfl (by decide),dT,aK hTI e1 rfl c1 (by decide),aK hTI e2 rfl c2 (by decide),aK hTO e1 rfl c1 (by decide),aK hTO e2 rfl c2 (by decide),d1,
   aK ea hz ca rfl (by decide),aK ea hTO ca rfl (by decide),aK ea e1 ca c1 (by decide),aK ea e2 ca c2 (by decide),aK eb hz cb rfl (by decide),aK eb hTO cb rfl (by decide),aK eb e1 cb c1 (by decide),aK eb e2 cb c2 (by decide)⟩
  have hend:its1.toArray[i]? =none∨its2.toArray[i]? =none:=by
   rcases hx with h | h
   · exact .inl (by simp; omega)
   · exact .inr (by simp; omega)
  refine wpAny_pyNext_zip_end (I.ok.hd hc) D hz hTI hTO ⟨o1,e1,c1,f1⟩ ⟨o2,e2,c2,f2⟩ p1.isList p2.isList hend fun h' hk=>⟨rfl,?_⟩
  have kp:∀ c o,c∉[z,TO,i1,i2]→s.heap.get? c=some o→h'.get? c=some o:=fun c o hc e=>by
   simp only [List.mem_cons,List.not_mem_nil,or_false,not_or] at hc
   exact hk c o hc.1 hc.2.1 hc.2.2.1 hc.2.2.2 e
  have nH:∀ c∈[z,TO,i1,i2],H c=none:=fun c hc=>(hf c (by simp only [List.mem_cons,List.not_mem_nil,or_false] at hc ⊢; rcases hc with h | h | h | h <;> simp [h])).1
  refine I.call' (s':={ s with heap:=h' }) (ch:=[z,TO,i1,i2]) rfl ⟨fun c o e n _ hx=>kp c o hx e,fun c o e n _ hx=>⟨o.slots,kp c o hx e⟩,fun c o e n _=>n,fun c o e hx=>⟨o,kp c o hx e⟩,fun c xs e=>e,fun c o u e=>e,fun c ps e=>⟨#[],by rw [e]; simp⟩⟩ ?_ I.bare ?_
  · intro c ob e
    refine (I.hok c ob e).stay (fun d w' hd g=>kp d w' ?_ g) (fun d g=>g) fun d xs g=>g
    intro hm
    rcases hd with rfl | hd
    · rw [nH _ hm] at e; cases e
    · rw [nH _ hm] at hd; cases hd
  · intro c hc
    obtain ⟨f0,f1,f2,f3,f4,f5⟩:=hf c (by simp only [List.mem_cons,List.not_mem_nil,or_false] at hc ⊢; rcases hc with h | h | h | h <;> simp [h])
    exact ⟨f3,f1,f4,f5⟩
 self:=fun _ _ _ _ _ st h=>wpAny_pyIter_zip st.1 h
def iZip (K:PySem.W.Frag) (ta:TA):TI:=fun σ H R=>ta σ H fun vs H1=>∃ a b,vs=[.ref a,.ref b]∧(∃ xs,SqL K H1 a xs)∧(∃ ys,SqL K H1 b ys)∧R (Itz K a b) H1
theorem zk:bootBuiltins "zip"=some (.type "zip"):=by decide+kernel
theorem zl {es:List Expr} {x1:Nat} {tpos:Pos} {e1 e2:Expr} {ta:TA} {p pos:Pos} (hg:Gl X "zip") (hm:X.mg "zip"=none) (ha:PA X [e1,e2] ta) (hs:starEach [e1,e2] X.env=[(false,eval e1 X.env),(false,eval e2 X.env)]:=by rfl) (hs2:starEach [e2] X.env=[(false,eval e2 X.env)]:=by rfl):
  PI X (.Tuple es x1 tpos) (.Call (.Name "zip" p) [e1,e2] [] pos) (iZip X.K ta):=by
 intro pins s σ H R I h
 refine Call_ (cZ I hg hm zk (PyProof.Rows.callWith_type1 (thn (ha pos pins s σ H _ I h) fun us s1 ⟨vs,H1,I1,r1,q1⟩=>?_) (by rw [hs,hs2]) (by rw [hs2]; rfl)))
 obtain ⟨a,b,rfl,⟨xs,hq1⟩,⟨ys,hq2⟩,q⟩:=q1
 obtain ⟨u1,u2,rfl,ru1,ru2⟩:=o7 r1
 cases ru1
 cases ru2
 obtain ⟨its1,rv1,p1,hz1⟩:=I1.list hq1
 obtain ⟨its2,rv2,p2,hz2⟩:=I1.list hq2
 refine call_zip_2 p1.isList p2.isList fun h' a1 a2 a3 a4 a5 a6 hk=>?_
 refine wpAny_pyIter_zip a1 ?_
 have I2:Inv X pins σ H1 { s1 with heap:=h',toks:=s1.toks }:=I1.kept hk
 refine ⟨s1.heap.objs.size+4,[s1.heap.objs.size+4,s1.heap.objs.size+2,s1.heap.objs.size+3,s1.heap.objs.size,s1.heap.objs.size+1],ZSt a b (s1.heap.objs.size+4) (s1.heap.objs.size+2) (s1.heap.objs.size+3) s1.heap.objs.size (s1.heap.objs.size+1),Itz X.K a b,H1,rfl,I2,xy a b (s1.heap.objs.size+4) (s1.heap.objs.size+2) (s1.heap.objs.size+3) s1.heap.objs.size (s1.heap.objs.size+1) (fun z=>by have:s1.heap.objs.size+2=s1.heap.objs.size+3:=z; omega) (fun z=>by have:s1.heap.objs.size=s1.heap.objs.size+1:=z; omega),⟨a1,a2,⟨_,_,a3⟩,a4,a5⟩,fun c hc=>?_,q⟩
 have hge:s1.heap.objs.size≤c:=by
  simp only [List.mem_cons,List.not_mem_nil,or_false] at hc
  rcases hc with rfl | rfl | rfl | rfl | rfl <;> omega
 exact I1.fpOk hge (I1.hok.fresh hge)
end
end L2
namespace L2
open PySem PySem.Spec PyProof.Rows
open Builtin Builtin.Str
theorem qk:∀ {ts:List Str} {us:List Value},Vals (ts.map V.str) us→∃ l:List (Str × Tok),us=strValues l∧l.map (·.1)=ts
 | [],_,.nil=>⟨[],rfl,rfl⟩
 | t::ts,_,.cons r rs=>by
  obtain ⟨l,rfl,e⟩:=qk (ts:=ts) rs
  obtain ⟨u,rfl⟩:=r
  exact ⟨(t,u)::l,rfl,by rw [List.map_cons,e]⟩
theorem rA:∀ (l:List (Str × Tok)),Vals ((l.map (·.1)).map V.str) (strValues l)
 | []=>.nil
 | (t,u)::l=>.cons ⟨u,rfl⟩ (rA l)
section
variable {X:Cx}
def kFind:V→List V→Hp→VK→Prop
 | .str x,[.str y],H,Q=>Q (.int (Txt.find x y)) H
 | _,_,_,_=>False
def i6:V→List V→Hp→VK→Prop
 | .str x,[.str y],H,Q=>(y.length==0)=false∧x.length≤sizeLine∧(Txt.split x y).length≤sizeLine∧∀ l,H l=none→Q (.ref l) (upd H l (.lst ((Txt.split x y).map V.str)))
 | _,_,_,_=>False
theorem md:MtR X "str.split" i6:=by
 intro pins s σ H x vs v us Q I rx rv h
 unfold i6 at h
 split at h
 · rename_i x y
   obtain ⟨t,rfl⟩:=rx
   obtain ⟨u,rfl,ru⟩:=cR rv
   obtain ⟨t2,rfl⟩:=ru
   obtain ⟨hy,hx,hn,q⟩:=h
   have fin:∀ (l:List (Str × Tok)) (k:Nat),l.map (·.1)=Txt.split x y→EP X pins σ Q (.ref s.heap.objs.size) { s with heap:=s.heap.push { cls:=.type "list",data:=.seq (strValues l).toArray },toks:=k }:=fun l k e=>by
    refine ⟨.ref s.heap.objs.size,_,I.lnew (t':=k) (ys:=(Txt.split x y).map V.str) (its:=strValues l) ?_ (by rw [List.length_map]; exact hn),rfl,q _ I.fresh⟩
    rw [← e]
    exact rA l
   cases h1:(decide (x.length < y.length)||decide (strKind x < strKind y))
   · cases hf:(occurrences x y 0 x.length (x.length+1)).isEmpty
     · have e3:Txt.split x y=partsBetween x (occurrences x y 0 x.length (x.length+1)) y.length:=(if_neg (ne_true_of_eq_false h1)).trans (if_neg (ne_true_of_eq_false hf))
       refine call_meets F.slot_str_split (typeIs_str _ _ _) F.entry_str_split (F.args_str_split_2 _ _) (meets_str_split_sep x y t t2 h1 hy hf hx (by rw [← e3]; exact hn)) ?_
       show wants _ _ _ { s with toks:=_,heap:=s.heap.push { cls:=.type "list",data:=.seq (strsFrom s.toks (partsBetween x (occurrences x y 0 x.length (x.length+1)) y.length)).toArray } }
       rw [strsFrom_eq]
       exact fin (numbered s.toks _) _ ((numbered_texts _ _).trans e3.symm)
     · exact call_meets F.slot_str_split (typeIs_str _ _ _) F.entry_str_split (F.args_str_split_2 _ _) (meets_str_split_not_found x y t t2 h1 hy hf)
        (fin [(x,t)] s.toks ((if_neg (ne_true_of_eq_false h1)).trans (if_pos hf)).symm)
   · exact call_meets F.slot_str_split (typeIs_str _ _ _) F.entry_str_split (F.args_str_split_2 _ _) (meets_str_split_cannot_occur x y t t2 h1)
      (fin [(x,t)] s.toks (if_pos h1).symm)
 · exact h.elim
def cP:V→Option Int→Option Int→Hp→VK→Prop
 | .ref p,lo,hi,H,Q=>cSl (.ref p) lo hi H Q
 | .str z,lo,hi,H,Q=>z.length≤sizeLine∧Q (.str (Txt.slice z lo hi)) H
 | _,_,_,_,_=>False
theorem dh:SlR X cP:=by
 intro pins s σ H x v vl vu lo hi sl Q I rx hs pl pu h
 cases x with
 | ref p=>exact Ak pins s σ H _ v vl vu lo hi sl Q I rx hs pl pu h
 | str z=>
  obtain ⟨hz,q⟩:=(show z.length≤sizeLine∧Q (.str (Txt.slice z lo hi)) H from h)
  obtain ⟨t,rfl⟩:=rx
  have fin:∀ t' k,EP X pins σ Q (.str (Txt.slice z lo hi) t') { s with toks:=k }:=fun t' k=>⟨.str _,H,I.tok k,⟨t',rfl⟩,q⟩
  refine ⟨"str",_,F.slot_str_getitem.lookup,typeIs_str _ _ _,?_⟩
  cases pl with
  | none=>
   cases pu with
   | none=>exact wpAny_getItem_str_slice (l:=none) (u:=none) (st:=none) hs rfl (post_val_or_str ⟨Nat.le_trans (Txt.slice_le z _ _) hz,fin⟩)
   | int j tj=>exact wpAny_getItem_str_slice (l:=none) (u:=some (j,tj)) (st:=none) hs rfl (post_val_or_str ⟨Nat.le_trans (Txt.slice_le z _ _) hz,fin⟩)
  | int i ti=>
   cases pu with
   | none=>exact wpAny_getItem_str_slice (l:=some (i,ti)) (u:=none) (st:=none) hs rfl (post_val_or_str ⟨Nat.le_trans (Txt.slice_le z _ _) hz,fin⟩)
   | int j tj=>exact wpAny_getItem_str_slice (l:=some (i,ti)) (u:=some (j,tj)) (st:=none) hs rfl (post_val_or_str ⟨Nat.le_trans (Txt.slice_le z _ _) hz,fin⟩)
 | _=>exact False.elim h
def Its (x:Str):It:=⟨fun i _=>i < x.cps.size,fun i H v H'=>H'=H∧∃ c,x.cps[i]? =some c∧v=.str ⟨#[c]⟩,fun i _=>x.cps.size≤i⟩
theorem sY {P:Program} {w:World} {K:PySem.W.Frag} {tg:Expr} {x:Str} {t:Tok} (it:Addr) (ty:String) (hty:["enumerate","zip","dict_itemiterator","dict_reverseitemiterator","odict_iterator","itertools.zip_longest","itertools.pairwise"].contains ty=false)
  (W:∀ A:Around,A.handled=none→Walks P w A it [it] [it] x.cps.size (SignAt x) (fun i h=>h.IsStrIter it ty x t i))
  (slf:∀ (A:Around) (i:Nat) (s:Shared) (Q:Value→Shared→Prop) (E:Value→Shared→Prop),s.heap.IsStrIter it ty x t i→Q (.ref it) s→wpAny (model P w) A (pyIter (.ref it)) Q E s):
  Turn P w K tg (Its x) [it] it (fun i h=>i≤x.cps.size∧h.IsStrIter it ty x t i) where
 mem:=by simp
 obj:=fun i h st b hb=>by
  have e:b=it:=by simpa using hb
  subst e
  obtain ⟨_,o,e,c,d⟩:=st
  exact ⟨o,e,fun v z=>by rw [d] at z; cases z⟩
 keep:=fun i h h' st k=>by
  obtain ⟨hi,o,e,c,d⟩:=st
  exact ⟨hi,o,k it (by simp) o e,c,d⟩
 item:=by
  intro X hP hw hK hc i pins s σ H E I hf st hg
  subst hP hw hK
  obtain ⟨f0,f1,f2,f3,f4,f5⟩:=hf it (by simp)
  have hlt:i < x.cps.size:=hg
  refine (W X.A (I.ok.hd hc)).item i s _ _ hlt st.2 fun v h' tk hv st' kk=>?_
  obtain ⟨c,u,hcu,rfl⟩:=hv
  have I1:Inv X pins σ H { s with heap:=h',toks:=tk }:=I.turned (fun b o hb e=>kk b o (by simpa using hb) e) f0 f1 f3 f4 f5
  obtain ⟨o,e,c',d⟩:=id st'
  exact ⟨_,rfl,uZ (s:={ s with heap:=h',toks:=tk }) e c' d hty ⟨.str ⟨#[c]⟩,H,I1,⟨u,rfl⟩,⟨rfl,c,hcu,rfl⟩,⟨hlt,st'⟩,fun b hb=>(hf b hb).1⟩⟩
 done:=by
  intro X hP hw hK hc i pins s σ H E I hf st hg
  subst hP hw hK
  obtain ⟨f0,f1,f2,f3,f4,f5⟩:=hf it (by simp)
  have hle:x.cps.size≤i:=hg
  have e:i=x.cps.size:=Nat.le_antisymm st.1 hle
  subst e
  exact (W X.A (I.ok.hd hc)).done s _ _ st.2 fun h' tk kk=>⟨rfl,I.turned (fun b o hb e=>kk b o (by simpa using hb) e) f0 f1 f3 f4 f5⟩
 self:=fun A i s Q E st h=>slf A i s Q E st.2 h
def iStr (tl:TE):TI:=fun σ H R=>tl σ H fun x H1=>∃ z,x=.str z∧R (Its z) H1
theorem zm {tg l:Expr} {tl:TE} (hl:PE X l tl):PI X tg l (iStr tl):=by
 intro pins s σ H R I h
 refine thn (hl pins s σ H _ I h) fun v s1 ⟨x,H1,I1,r1,q1⟩=>?_
 obtain ⟨z,rfl,q⟩:=q1
 obtain ⟨t,rfl⟩:=r1
 have fin:∀ b∈[s1.heap.objs.size],FpOk X pins H1 b:=fun b hb=>by
  have e:b=s1.heap.objs.size:=by simpa using hb
  subst e
  exact I1.fpOk (Nat.le_refl _) (I1.hok.fresh (Nat.le_refl _))
 cases ha:z.cps.all (· < 128)
 · refine wpAny_pyIter_wide ha ⟨s1.heap.objs.size,[s1.heap.objs.size],_,Its z,H1,rfl,I1.kept (t':=s1.toks) fun b o e=>Heap.get?_push_of_some _ e,sY (t:=t) _ "str_iterator" (by decide) (fun A' hA=>Walks.strWide hA _ z t) (fun A i s Q E st hq=>wpAny_pyIter_striter_wide st hq),⟨Nat.zero_le _,_,Heap.get?_push_size _ rfl,rfl,rfl⟩,fin,q⟩
 · refine wpAny_pyIter_ascii ha ⟨s1.heap.objs.size,[s1.heap.objs.size],_,Its z,H1,rfl,I1.kept (t':=s1.toks) fun b o e=>Heap.get?_push_of_some _ e,sY (t:=t) _ "str_ascii_iterator" (by decide) (fun A' hA=>Walks.strAscii hA _ z t) (fun A i s Q E st hq=>wpAny_pyIter_striter_ascii st hq),⟨Nat.zero_le _,_,Heap.get?_push_size _ rfl,rfl,rfl⟩,fin,q⟩
theorem ur {prog:Program} {w:World} {A:Around} {E:Value→Shared→Prop} {s:Shared} {l:Addr} {items:Array Value} {k:Int} {t:Tok} {v:Value} {Q:Unit→Shared→Prop} (hl:s.heap.IsList l items)
  (h0:0≤k) (hfit:k < 2^63) (hn:k < items.size)
  (hQ:Q () { s with heap:=s.heap.update l (Obj.mapSeq (·.setIfInBounds k.toNat v)) }):
  wpAny (model prog w) A (setItem (.ref l) (.int k t) v) Q E s:=by
 obtain ⟨o,ho,hc,ne,hd⟩:=id hl
 unfold setItem
 try with_reducible refine wpAny_holding ?_
 first | refine wpAny_bind (wpAny_pure ?_) | skip
 refine wpAny_bind (wpAny_sequenceKey hl.typeIs (by decide) ?_)
 refine wpAny_bind (wpAny_callSpecial?_slot (name:=Str.ofString "__setitem__") hl.typeIs slot_list_setitem
  (wpAny_call_entry slot_list_setitem hl.typeIs entry_list_setitem ?_ (args_list_setitem _ _ _)))
 show wpAny _ _ (Builtin.List.listSubscript? (.int k t) >>= _) _ _ s
 refine wpAny_bind (wpAny_listSubscript_int (fitsIndex_of h0 hfit) ?_)
 clear hfit
 obtain ⟨j,rfl⟩:=Int.eq_ofNat_of_zero_le h0
 have hj:j < items.size:=by omega
 have hx':items[j]? =some items[j]:=Array.getElem?_eq_getElem hj
 show wpAny _ _ ((seqItemAt l j >>= fun r=>pure (r.map (j,·))) >>= _) _ _ s
 refine wpAny_bind (wpAny_bind (wpAny_seqItemAt ho hd (wpAny_pure ?_)))
 rw [hx']
 show wpAny _ _ (setSeqItemAt l j v >>= _) _ _ s
 refine wpAny_bind (wpAny_setSeqItemAt ho hd ?_)
 first
  | exact wpAny_bind (wpAny_pure (wpAny_pure ⟨.none,rfl,wpAny_pure hQ⟩))
  | exact wpAny_pure ⟨.none,rfl,wpAny_pure hQ⟩
theorem sZ:∀ {xs:List V} {us:List Value} {x:V} {u:Value} (i:Nat),Vals xs us→RelV x u→Vals (xs.set i x) (us.set i u)
 | _,_,_,_,_,.nil,_=>.nil
 | _,_,_,_,0,.cons _ t,r=>.cons r t
 | _,_,_,_,i+1,.cons q t,r=>.cons q (sZ i t r)
def cPut:TSet
 | .ref p,y,v,H,Q=>(match unD (H p) with
  | some _=>∃ H',DPut H p y v H'∧Q H'
  | none=>match y with
   | .int i=>bnd (unM (H p)) fun xs=>0≤i∧i < xs.length∧Q (upd H p (.lst (xs.set i.toNat v)))
   | _=>False)
 | _,_,_,_,_=>False
theorem vn (hu:X.A.units+64 < cLine):PSet X cPut:=by
 intro pins s σ H o i v ov iv u Q I ro ri rv h
 cases o with
 | ref p=>
  cases ro
  unfold cPut at h
  dsimp only at h
  split at h
  · obtain ⟨H',g,q⟩:=h
    exact wt (Nat.lt_of_le_of_lt (Nat.add_le_add_left (by decide:1≤64) _) hu) I g ri rv fun s' I'=>⟨H',I',q⟩
  · split at h
    · rename_i i
      obtain ⟨xs,e,h0,h1,q⟩:=aV h
      obtain ⟨t,rfl⟩:=ri
      have hH:=fC e
      obtain ⟨z,its,n,r,hl,eo⟩:=I.lstM hH
      have hs:s.heap.IsList p its.toArray:=⟨_,eo,rfl,n,rfl⟩
      have hz:its.length≤sizeLine:=by rw [← hl]; exact z
      refine ur hs h0 ?_ (by rw [List.size_toArray,← hl]; exact h1) ⟨_,I.lset (t':=s.toks) (ys:=xs.set i.toNat v) (its':=its.set i.toNat u) hH eo (by simp) (sZ _ r rv) (by rw [List.length_set]; exact z),q⟩
      have:(sizeLine:Int) < 2^63:=by decide
      omega
    · exact h.elim
 | _=>exact False.elim h
end
section
variable {K:PySem.W.Frag} {g:TG} {tb:TS} {D:Ends} {σ:St} {H:Hp} {tl:TE} {ix:List (Option Nat)} {tt:TT} {te ta:TE} {k:Nat} {Q:VK}
theorem lz {r:V→Option Int→Option Int→Hp→VK→Prop} {a b:TO}:tSl r te a b σ H Q=te σ H fun x H1=>a σ H1 fun l H2=>b σ H2 fun u H3=>r x l u H3 Q:=rfl
theorem gE {R:Option Int→Hp→Prop}:tPart te σ H R=te σ H fun x H1=>∃ i,x=.int i∧R (some i) H1:=rfl
theorem di {R:Option Int→Hp→Prop}:bq σ H R=R none H:=rfl
theorem gF {to ti:TE} {t:TSet} {v:V} {R:St→Hp→Prop}:gSub to ti t v σ H R=to σ H fun o H1=>ti σ H1 fun i H2=>t o i v H2 fun H3=>R σ H3:=rfl
theorem lA {r:V→Hp→VK→Prop}:tUn r te σ H Q=te σ H fun x H1=>r x H1 Q:=rfl
theorem gG:tFor (iStr tl) g tb D σ H=tl σ H fun x H1=>∃ z,x=.str z∧LoopR (Its z) g tb D σ H1:=rfl
theorem eE:tComp ix (iStr tl) g tt te σ H Q=tl σ H fun x H1=>∃ z,x=.str z∧CompR (Its z) g tt te (fun l H'=>Q (.ref l) H') (subσ ix σ) H1:=rfl
theorem dj:sComp k ix (iStr tl) g tt te D σ H=tl σ H fun x H1=>∃ z,x=.str z∧CompR (Its z) g tt te (fun l H'=>D.nx (σ.set k (some (.ref l))) H') (subσ ix σ) H1:=rfl
theorem lB {x:Str}:tyV K "str" (.str x) H:=rfl
theorem jG {i j:Str}:cEq K (.str i) (.str j) H Q=Q (.bl (decide (i=j))) H:=rfl
theorem jH {i j:Str}:cNe K (.str i) (.str j) H Q=Q (.bl (!decide (i=j))) H:=rfl
theorem gH {z:Str}:kLen [.str z] H Q=(z.length≤sizeLine∧Q (.int z.length) H):=rfl
theorem fI {i j:Str}:cAdd (.str i) (.str j) H Q=(i.length+j.length≤sizeLine∧Q (.str (i++j)) H):=rfl
theorem zV {z:Str} {i:Int}:cIx (.str z) (.int i) H Q=(z.length≤sizeLine∧bnd (atI z.cps.toList i) fun c=>Q (.str ⟨#[c]⟩) H):=rfl
theorem gI {x y:Str}:kFind (.str x) [.str y] H Q=Q (.int (Txt.find x y)) H:=rfl
theorem uM {x y:Str}:i6 (.str x) [.str y] H Q=((y.length==0)=false∧x.length≤sizeLine∧(Txt.split x y).length≤sizeLine∧∀ l,H l=none→Q (.ref l) (upd H l (.lst ((Txt.split x y).map V.str)))):=rfl
theorem vo {p:Addr} {i:Int} {v:V} {xs:List V} {R:Hp→Prop} (hp:H p=some (.lst xs)) (h0:0≤i) (h1:i < xs.length) (h:R (upd H p (.lst (xs.set i.toNat v)))):cPut (.ref p) (.int i) v H R:=by
 unfold cPut
 dsimp only
 rw [hp]
 exact ⟨h0,h1,h⟩
theorem jI {p:Addr} {lo hi:Option Int} {xs:List V} (hp:H p=some (.lst xs)) (h:∀ l,H l=none→Q (.ref l) (upd H l (.lst (cutV xs lo hi)))):cP (.ref p) lo hi H Q:=by
 show bnd (unL (H p)) _
 rw [hp]
 exact h
end
end L2
namespace L2
open PySem PySem.Spec PyProof.Rows
def cBitI (g:Int→Int→Int):R2
 | .int i,.int j,H,Q=>Q (.int (g i j)) H
 | _,_,_,_=>False
def cShr:R2
 | .int i,.int j,H,Q=>0≤j∧Q (.int (i / 2^j.toNat)) H
 | _,_,_,_=>False
section
variable {H:Hp} {Q:VK} {i j:Int}
theorem k7 {g:Int→Int→Int}:cBitI g (.int i) (.int j) H Q=Q (.int (g i j)) H:=rfl
theorem mR:cShr (.int i) (.int j) H Q=(0≤j∧Q (.int (i / 2^j.toNat)) H):=rfl
end
end L2
namespace L2
open PySem PySem.Spec PyProof.Rows
section
variable {X:Cx}
def kInt:List V→Hp→VK→Prop
 | [.int i],H,Q=>Q (.int i) H
 | [.bl k],H,Q=>Q (.int (if k then 1 else 0)) H
 | _,_,_=>False
def yq:V→List V→Hp→VK→Prop
 | .int i,[],H,Q=>Q (.int (Builtin.Int.intBits i:Nat)) H
 | _,_,_,_=>False
def cRepL:R2
 | .ref l,.int k,H,Q=>bnd (unM (H l)) fun xs=> -(2^63)≤k∧k < 2^63∧xs.length*k.toNat≤sizeLine∧∀ p,H p=none→Q (.ref p) (upd H p (.lst (List.replicate k.toNat xs).flatten))
 | _,_,_,_=>False
theorem xz:OpR X (binaryOp .Mult) cRepL:=by
 intro pins s σ H x y v u Q I rx ry h
 unfold cRepL at h
 split at h
 · obtain ⟨xs,e,h1,h2,h3,q⟩:=aV h
   exact y9 pins s σ H _ _ v u Q I rx ry ⟨_,_,xs,rfl,rfl,fC e,h1,h2,h3,q⟩
 · exact h.elim
def kAll:List V→Hp→VK→Prop
 | [.ref p],H,Q=>bnd (unL (H p)) fun ys=>∃ bs:List Bool,ys=bs.map V.bl∧Q (.bl (bs.all id)) H
 | _,_,_=>False
theorem wE (bs:List Bool):(List.range bs.length).all (fun i=>bs.getD i false)=bs.all id:=by
 rw [Bool.eq_iff_iff,List.all_eq_true,List.all_eq_true]
 constructor
 · intro h b hb
   obtain ⟨i,hi,e⟩:=List.mem_iff_getElem.mp hb
   have:=h i (List.mem_range.mpr hi)
   rw [List.getD,List.getElem?_eq_getElem hi,e] at this
   exact this
 · intro h i hi
   have hi':i < bs.length:=List.mem_range.mp hi
   have:=h bs[i] (List.getElem_mem hi')
   simpa [List.getD,hi'] using this
theorem tm:bootBuiltins "all"=some (.builtin "all"):=by decide+kernel
theorem zn:bootBuiltins "sum"=some (.builtin "sum"):=by decide+kernel
theorem me (hc:X.calm=true):CallR X (.builtin "all") kAll:=by
 intro pins s σ H xs us Q I r h
 unfold kAll at h
 split at h
 · rename_i p
   obtain ⟨ys,e,bs,rfl,q⟩:=aV h
   obtain ⟨u,rfl,ru⟩:=cR r
   cases ru
   obtain ⟨its,rv,pl,hz⟩:=I.list (l7 e)
   have hl:=rv.length
   rw [List.length_map] at hl
   have hlt:p < s.heap.objs.size:=by
    obtain ⟨o,h1,_⟩:=pl.isList
    exact Heap.lt_size h1
   refine call_all_walkS (wpAny_pyIter_list pl.isList ?_)
   refine ⟨s.heap.objs.size,_,_,_,its.toArray.size,_,_,fun i=>bs.getD i false,rfl,(Walks.list (A:=X.A.in1) (I.ok.hd hc) s.heap.objs.size p (Nat.ne_of_lt hlt) its.toArray).toS,⟨⟨_,Heap.get?_push_size _ rfl,rfl,rfl⟩,pl.isList.push _⟩,?_,fun s' hm=>?_⟩
   · intro i v s1 Q1 E1 hP hQ
     have hv:its[i]? =some v:=by simpa using hP
     obtain ⟨x,hx,rx⟩:=rv.get' hv
     obtain ⟨b,hb,rfl⟩:∃ b,bs[i]? =some b∧V.bl b=x:=by simpa using hx
     cases rx
     refine wpAny_truthy_bool ?_
     have e3:bs.getD i false=b:=by simp [List.getD,hb]
     rw [← e3]
     exact hQ
   · refine ⟨.bl _,H,I.walked (l:=p) hm,?_,q⟩
     have e2:its.toArray.size=bs.length:=by rw [List.size_toArray]; exact hl.symm
     rw [e2,wE]
     rfl
 · exact h.elim
def kSum:List V→Hp→VK→Prop
 | [.ref p],H,Q=>bnd (unL (H p)) fun ys=>∃ ns:List Int,ys=ns.map V.int∧(∀ x∈ns,0≤x∧x≤1000000)∧ns.length≤1000000∧Q (.int ns.sum) H
 | _,_,_=>False
theorem wF:∀ (ns:List Int),(∀ x∈ns,0≤x∧x≤1000000)→0≤ns.sum∧ns.sum≤1000000*ns.length
 | [],_=>by simp
 | n::r,h=>by
  have ih:=wF r fun x hx=>h x (List.mem_cons_of_mem _ hx)
  have h1:=h n List.mem_cons_self
  rw [List.sum_cons,List.length_cons]
  omega
theorem wG (hc:X.calm=true):CallR X (.builtin "sum") kSum:=by
 intro pins s σ H xs us Q I r h
 unfold kSum at h
 split at h
 · rename_i p
   obtain ⟨ys,e,ns,rfl,hb,hn,q⟩:=aV h
   obtain ⟨u,rfl,ru⟩:=cR r
   cases ru
   obtain ⟨its,rv,pl,hz⟩:=I.list (l7 e)
   have hl:=rv.length
   rw [List.length_map] at hl
   have hlt:p < s.heap.objs.size:=by
    obtain ⟨o,h1,_⟩:=pl.isList
    exact Heap.lt_size h1
   have e2:its.toArray.size=ns.length:=by rw [List.size_toArray]; exact hl.symm
   refine call_sum_walkS (wpAny_pyIter_list pl.isList ?_)
   refine ⟨s.heap.objs.size,_,_,_,its.toArray.size,_,_,fun i=>ns.getD i 0,rfl,(Walks.list (A:=X.A.in1) (I.ok.hd hc) s.heap.objs.size p (Nat.ne_of_lt hlt) its.toArray).toS,⟨⟨_,Heap.get?_push_size _ rfl,rfl,rfl⟩,pl.isList.push _⟩,?_,?_,?_,fun s' t' hm=>?_⟩
   · intro b hb'
     show b < (s.heap.push _).objs.size
     rw [Heap.size_push]
     simp only [List.mem_cons,List.not_mem_nil,or_false] at hb'
     rcases hb' with rfl | rfl
     · exact Nat.lt_succ_self _
     · exact Nat.lt_succ_of_lt hlt
   · intro i v hP
     have hv:its[i]? =some v:=by simpa using hP
     obtain ⟨x,hx,rx⟩:=rv.get' hv
     obtain ⟨b,hb',rfl⟩:∃ b,ns[i]? =some b∧V.int b=x:=by simpa using hx
     obtain ⟨t,rfl⟩:=rx
     exact ⟨t,by simp [List.getD,hb']⟩
   · intro j hj
     rw [e2] at hj
     refine ⟨?_,?_⟩
     · have:=hb ns[j] (List.getElem_mem hj)
       have e3:ns.getD j 0=ns[j]:=by simp [List.getD,hj]
       show InLong (ns.getD j 0)
       rw [e3]
       exact ⟨by omega,by omega⟩
     · rw [preSum_getD]
       have h1:=wF (ns.take (j+1)) fun x hx=>hb x (List.mem_of_mem_take hx)
       have h2:(ns.take (j+1)).length≤ns.length:=by rw [List.length_take]; omega
       exact ⟨by omega,by omega⟩
   · refine ⟨.int ns.sum,H,I.walked (l:=p) hm,⟨t',?_⟩,q⟩
     rw [e2,preSum_getD,List.take_length]
 · exact h.elim
def Itd (hi:Int) (n:Nat):It:=⟨fun i _=>i < n,fun i H x H'=>H'=H∧x=.int (hi - i),fun i _=>n≤i⟩
def iRngD (ta:TA):TI:=fun σ H R=>ta σ H fun vs H1=>∃ i j:Int,vs=[.int i,.int j,.int (-1)]∧(-(2^60)≤i∧i < 2^60∧ -(2^60)≤j∧j < 2^60)∧R (Itd i (i - j).toNat) H1
end
section
variable {K:PySem.W.Frag} {g:TG} {tb:TS} {D:Ends} {σ:St} {H:Hp} {ta:TA} {Q:VK}
theorem k8 {k:Bool}:kInt [.bl k] H Q=Q (.int (if k then 1 else 0)) H:=rfl
theorem k9 {i:Int}:kInt [.int i] H Q=Q (.int i) H:=rfl
theorem ip {i:Int}:yq (.int i) [] H Q=Q (.int (Builtin.Int.intBits i:Nat)) H:=rfl
theorem vp {p:Addr} {bs:List Bool} (hp:H p=some (.lst (bs.map V.bl))) (h:Q (.bl (bs.all id)) H):kAll [.ref p] H Q:=by
 show bnd (unL (H p)) _
 rw [hp]
 exact b3 (a:=bs.map V.bl) rfl ⟨bs,rfl,h⟩
theorem zW {p:Addr} {ns:List Int} (hp:H p=some (.lst (ns.map V.int))) (hb:∀ x∈ns,0≤x∧x≤1000000) (hn:ns.length≤1000000) (h:Q (.int ns.sum) H):kSum [.ref p] H Q:=by
 show bnd (unL (H p)) _
 rw [hp]
 exact b3 (a:=ns.map V.int) rfl ⟨ns,rfl,hb,hn,h⟩
theorem zo {p:Addr} {xs:List V} {k:Int} (hp:H p=some (.lst xs)) (h0:0≤k) (h1:k≤1000) (hn:xs.length≤1) (h:∀ l,H l=none→Q (.ref l) (upd H l (.lst (List.replicate k.toNat xs).flatten))):cRepL (.ref p) (.int k) H Q:=by
 show bnd (unM (H p)) _
 rw [hp]
 refine b3 (a:=xs) rfl ⟨by omega,by omega,?_,h⟩
 refine Nat.le_of_lt (aR (Nat.le_trans (Nat.mul_le_mul_right _ hn) ?_))
 omega
theorem jQ:tFor (iRngD ta) g tb D σ H=ta σ H fun vs H1=>∃ i j:Int,vs=[.int i,.int j,.int (-1)]∧(-(2^60)≤i∧i < 2^60∧ -(2^60)≤j∧j < 2^60)∧LoopR (Itd i (i - j).toNat) g tb D σ H1:=rfl
end
end L2
namespace L2
open PySem PySem.Spec PyProof.Rows
section
variable {X:Cx}
def Ite (K:PySem.W.Frag) (a:Addr):It:=
 ⟨fun i H=>∃ xs x,SqL K H a xs∧xs[i]? =some x,
  fun i H v H'=>∃ T x,v=.ref T∧H T=none∧H'=upd H T (.tup [.int i,x])∧∀ xs,SqL K H a xs→xs[i]? =some x,
  fun i H=>∃ xs,SqL K H a xs∧xs.length≤i⟩
def ESt (a e it:Addr) (i:Nat) (h:Heap):Prop:=(∃ old,IsEnum h e it i old)∧h.IsListIter it a i
theorem wH {P:Program} {w:World} {K:PySem.W.Frag} {es:List Expr} {x1:Nat} {pos:Pos} (a e it:Addr):
  Turn P w K (.Tuple es x1 pos) (Ite K a) [e,it] e (ESt a e it) where
 mem:=by simp
 obj:=fun i h st c hc=>by
  obtain ⟨⟨old,he⟩,⟨o1,e1,c1,f1⟩⟩:=st
  simp only [List.mem_cons,List.not_mem_nil,or_false] at hc
  rcases hc with rfl | rfl
  · exact ⟨_,he,fun v z=>by have z':Data.fields _=Data.cell v:=z; cases z'⟩
  · exact ⟨_,e1,fun v z=>by rw [f1] at z; cases z⟩
 keep:=fun i h h' st k=>by
  obtain ⟨⟨old,he⟩,h1⟩:=st
  exact ⟨⟨old,k e (by simp) _ he⟩,h1.at fun o q=>k it (by simp) o q⟩
 item:=by
  intro X hP hw hK hc i pins s σ H E I hf st hg
  subst hP hw hK
  obtain ⟨xs,x,hq1,hx⟩:=hg
  obtain ⟨its1,rv1,p1,hz1⟩:=I.list hq1
  obtain ⟨u1,hu1,ru1⟩:=rv1.get hx
  obtain ⟨⟨old,he⟩,⟨o1,e1,c1,f1⟩⟩:=id st
  have hne:e≠it:=aK he e1 rfl c1 (by decide)
  refine wpAny_pyNext_enum_item he ⟨o1,e1,c1,f1⟩ p1.isList (x:=u1) (by simpa using hu1) hne fun h' a1 a2 a3 a4 hk=>?_
  refine ⟨_,rfl,wpAny_letOwnedTupleGo_enum a1 fun h2 hz2 sb=>?_⟩
  have hT:H s.heap.objs.size=none:=I.fresh
  have lt:∀ {c o},s.heap.get? c=some o→c≠s.heap.objs.size:=fun e=>Nat.ne_of_lt (Heap.lt_size e)
  have kp:∀ c o,c∉[e,it]→s.heap.get? c=some o→h2.get? c=some o:=fun c o hc q=>by
   simp only [List.mem_cons,List.not_mem_nil,or_false,not_or] at hc
   exact sb.extBut _ _ hc.1 (hk c o hc.1 hc.2 q)
  have hTe:s.heap.objs.size≠e:=(lt he).symm
  have gT:h2.get? s.heap.objs.size=some { cls:=.type "tuple",data:=.seq #[.int i s.toks,u1] }:=sb.extBut _ _ hTe a3
  have nH:∀ c∈[e,it],H c=none:=fun c hc=>(hf c hc).1
  refine ⟨.ref s.heap.objs.size,upd H s.heap.objs.size (.tup [.int i,x]),I.call' (s':={ s with heap:=h2,toks:=s.toks+1 }) (ch:=[e,it]) rfl ⟨fun c o e n _ hx=>kp c o hx e,fun c o e n _ hx=>⟨o.slots,kp c o hx e⟩,fun c o e n _=>by rw [ai (lt e)]; exact n,fun c o e hx=>⟨o,kp c o hx e⟩,fun c xs e=>by rw [ai (au e hT)]; exact e,fun c o u e=>by rw [ai (au e hT)]; exact e,fun c ps e=>⟨#[],by rw [ai (au e hT),e]; simp⟩⟩ ?_ I.bare ?_,rfl,⟨_,x,rfl,hT,rfl,fun zs hz'=>by rw [I.list_inj hz' hq1]; exact hx⟩,?_,?_⟩
  · intro c ob e
    by_cases hb:c=s.heap.objs.size
    · subst hb
      rw [ae] at e
      cases e
      exact ⟨by show (2:Nat)≤sizeLine; exact Nat.le_of_lt (aR (by decide)),[.int i s.toks,u1],.cons ⟨_,rfl⟩ (.cons ru1 .nil),⟨_,gT,rfl,_,rfl⟩⟩
    · rw [ai hb] at e
      refine (I.hok c ob e).stay (fun d w' hd g=>kp d w' ?_ g) (fun d g=>by rw [ai (au g hT)]; exact g) fun d xs g=>by rw [ai (au g hT)]; exact g
      intro hm
      rcases hd with rfl | hd
      · rw [nH _ hm] at e; cases e
      · rw [nH _ hm] at hd; cases hd
  · intro c hc
    obtain ⟨f0,f1,f2,f3,f4,f5⟩:=hf c hc
    exact ⟨f3,f1,f4,f5⟩
  · exact ⟨⟨_,hz2⟩,a2.extBut sb.extBut hne.symm⟩
  · intro c hc
    obtain ⟨o,q⟩:∃ o,s.heap.get? c=some o:=by
     simp only [List.mem_cons,List.not_mem_nil,or_false] at hc
     rcases hc with rfl | rfl
     · exact ⟨_,he⟩
     · exact ⟨_,e1⟩
    rw [ai (lt q)]
    exact (hf c hc).1
 done:=by
  intro X hP hw hK hc i pins s σ H E I hf st hg
  subst hP hw hK
  obtain ⟨xs,hq1,hx⟩:=hg
  obtain ⟨its1,rv1,p1,hz1⟩:=I.list hq1
  have hl1:=rv1.length
  obtain ⟨⟨old,he⟩,⟨o1,e1,c1,f1⟩⟩:=id st
  have hend:its1.toArray[i]? =none:=by simp; omega
  obtain ⟨f0,f1',f2,f3,f4,f5⟩:=hf it (by simp)
  exact wpAny_pyNext_enum_end (I.ok.hd hc) he ⟨o1,e1,c1,f1⟩ p1.isList hend fun h' eb=>⟨rfl,I.turned (t':=s.toks) (fun b o hb e=>eb b o hb e) f0 f1' f3 f4 f5⟩
 self:=fun _ _ _ _ _ st h=>by
  obtain ⟨⟨old,he⟩,_⟩:=st
  exact wpAny_pyIter_enum he h
def iEnum (K:PySem.W.Frag) (ta:TA):TI:=fun σ H R=>ta σ H fun vs H1=>∃ a,vs=[.ref a]∧(∃ xs,SqL K H1 a xs)∧R (Ite K a) H1
theorem tq:bootBuiltins "enumerate"=some (.type "enumerate"):=by decide+kernel
theorem uN {es:List Expr} {x1:Nat} {tpos:Pos} {e1:Expr} {ta:TA} {p pos:Pos} (hg:Gl X "enumerate") (hm:X.mg "enumerate"=none) (ha:PA X [e1] ta) (hs:starEach [e1] X.env=[(false,eval e1 X.env)]:=by rfl):
  PI X (.Tuple es x1 tpos) (.Call (.Name "enumerate" p) [e1] [] pos) (iEnum X.K ta):=by
 intro pins s σ H R I h
 refine Call_ (cZ I hg hm tq (PyProof.Rows.callWith_type1 (thn (ha pos pins s σ H _ I h) fun us s1 ⟨vs,H1,I1,r1,q1⟩=>?_) hs rfl))
 obtain ⟨a,rfl,⟨xs,hq1⟩,q⟩:=q1
 obtain ⟨u1,rfl,ru1⟩:=cR r1
 cases ru1
 obtain ⟨its1,rv1,p1,hz1⟩:=I1.list hq1
 refine call_enumerate_list p1.isList fun h' a1 a2 a3 hk=>?_
 refine wpAny_pyIter_enum a1 ?_
 have I2:Inv X pins σ H1 { s1 with heap:=h',toks:=s1.toks }:=I1.kept hk
 refine ⟨s1.heap.objs.size+1,[s1.heap.objs.size+1,s1.heap.objs.size],ESt a (s1.heap.objs.size+1) s1.heap.objs.size,Ite X.K a,H1,rfl,I2,wH a (s1.heap.objs.size+1) s1.heap.objs.size,⟨⟨_,a1⟩,a2⟩,fun c hc=>?_,q⟩
 have hge:s1.heap.objs.size≤c:=by
  simp only [List.mem_cons,List.not_mem_nil,or_false] at hc
  rcases hc with rfl | rfl <;> omega
 exact I1.fpOk hge (I1.hok.fresh hge)
end
section
variable {K:PySem.W.Frag} {g:TG} {tb:TS} {D:Ends} {σ:St} {H:Hp} {ta:TA} {Q:VK} {ix:List (Option Nat)} {tt:TT} {te:TE} {k:Nat}
theorem la:tFor (iEnum K ta) g tb D σ H=ta σ H fun vs H1=>∃ a,vs=[.ref a]∧(∃ xs,SqL K H1 a xs)∧LoopR (Ite K a) g tb D σ H1:=rfl
theorem jR:tComp ix (iEnum K ta) g tt te σ H Q=ta σ H fun vs H1=>∃ a,vs=[.ref a]∧(∃ xs,SqL K H1 a xs)∧CompR (Ite K a) g tt te (fun l H'=>Q (.ref l) H') (subσ ix σ) H1:=rfl
theorem iq:sComp k ix (iEnum K ta) g tt te D σ H=ta σ H fun vs H1=>∃ a,vs=[.ref a]∧(∃ xs,SqL K H1 a xs)∧CompR (Ite K a) g tt te (fun l H'=>D.nx (σ.set k (some (.ref l))) H') (subσ ix σ) H1:=rfl
theorem wI {a:Addr} {xs:List V} {fin:Addr→Hp→Prop} {σ0:St} {H1:Hp} (Pv:Addr→Nat→St→Hp→Prop) (h0:∀ l,H1 l=none→Pv l 0 σ0 (upd H1 l (.lst []))) (hq:∀ l i σ H,H1 l=none→i≤xs.length→Pv l i σ H→SqL K H a xs)
  (hs:∀ l i x T σ H,H1 l=none→xs[i]? =some x→Pv l i σ H→H T=none→g (.ref T) σ (upd H T (.tup [.int i,x])) fun σ2 H3=>tt σ2 H3 fun b H4=>if b=true then te σ2 H4 fun y H5=>∃ ys,H5 l=some (.lst ys)∧ys.length < sizeLine∧Pv l (i+1) σ2 (upd H5 l (.lst (ys++[y]))) else Pv l (i+1) σ2 H4)
  (hd:∀ l σ H,H1 l=none→Pv l xs.length σ H→fin l H):CompR (Ite K a) g tt te fin σ0 H1:=by
 intro l hl0
 refine ⟨fun i m σ H=>m=xs.length - i∧i≤xs.length∧Pv l i σ H,⟨xs.length,by simp,Nat.zero_le _,h0 l hl0⟩,?_⟩
 rintro i m σ H ⟨rfl,hi,p⟩
 have q:=hq l i σ H hl0 hi p
 by_cases hlt:i < xs.length
 · refine .inr ⟨⟨xs,xs[i],q,by simp [hlt]⟩,Pv l (i+1),fun σ' H' p'=>⟨xs.length - (i+1),by omega,rfl,hlt,p'⟩,fun v H' y=>?_⟩
   obtain ⟨T,x,rfl,hT,rfl,e⟩:=y
   exact hs l i x T σ _ hl0 (e xs q) p hT
 · have e:i=xs.length:=by omega
   subst e
   exact .inl ⟨⟨xs,q,Nat.le_refl _⟩,hd l σ H hl0 p⟩
theorem vq {a:Addr} {xs:List V} {fin:Addr→Hp→Prop} {σ0:St} {H1:Hp} {k1 k2:Nat} (b:Nat→Bool) (f:Nat→V) (hn:xs.length≤900) (hne:k1≠k2) (hq:SqL K H1 a xs)
  (ht:∀ (i:Nat) x H R,xs[i]? =some x→Same H1 H→(∀ H',Same H H'→R (b i) H')→tt ((σ0.set k1 (some (.int (i:Int)))).set k2 (some x)) H R)
  (he:∀ (i:Nat) x H Q,xs[i]? =some x→b i=true→Same H1 H→(∀ H',Same H H'→Q (f i) H')→te ((σ0.set k1 (some (.int (i:Int)))).set k2 (some x)) H Q)
  (hd:∀ l H,H1 l=none→Same H1 H→H l=some (.lst (((List.range xs.length).filter b).map f))→fin l H):
  CompR (Ite K a) (gTup K 2 (gCons (gName k1) (gCons (gName k2) gNil))) tt te fin σ0 H1:=by
 refine wI (xs:=xs) (fun l i σ H=>(σ=σ0∨∃ c1 c2,σ=(σ0.set k1 c1).set k2 c2)∧Same H1 H∧H l=some (.lst (((List.range i).filter b).map f))) (fun l hl=>⟨.inl rfl,fun b u e=>by rw [ai (au e hl)]; exact e,by rw [ae]; rfl⟩) (fun l i σ H _ _ p=>p.2.1.seq hq) ?_ (fun l σ H hl p=>hd l H hl p.2.1 p.2.2)
 rintro l i x T σ H hl hx ⟨hσ,s1,el⟩ hT
 have hi:i < xs.length:=(List.getElem?_eq_some_iff.mp hx).1
 have sT:Same H (upd H T (.tup [.int i,x])):=fun b u e=>by rw [ai (au e hT)]; exact e
 refine ⟨T,_,rfl,SqT.of ae,rfl,_,_,rfl,_,_,rfl,rfl,?_⟩
 have e:(σ.set k1 (some (.int i))).set k2 (some x)=(σ0.set k1 (some (.int i))).set k2 (some x):=by
  rcases hσ with rfl | ⟨c1,c2,rfl⟩
  · rfl
  · rw [List.set_comm _ _ (Ne.symm hne),List.set_set,List.set_set,List.set_comm _ _ hne]
 show tt ((σ.set k1 (some (.int i))).set k2 (some x)) _ _
 rw [e]
 refine ht i x _ _ hx (s1.trans sT) fun H2 s2=>?_
 have el2:=s2 _ _ (sT _ _ el)
 have s12:=(s1.trans sT).trans s2
 have own:∀ {H3:Hp} {o:HO},Same H1 H3→Same H1 (upd H3 l o):=fun s b u e=>by rw [ai (au e hl)]; exact s b u e
 have hlen:∀ i,i≤900→(((List.range i).filter b).map f).length < sizeLine:=fun i hi=>by
  rw [List.length_map]
  refine aR (Nat.le_trans (List.length_filter_le b _) ?_)
  rw [List.length_range]
  omega
 cases hb:b i with
 | false=>
  rw [if_neg Bool.false_ne_true]
  refine ⟨.inr ⟨_,_,rfl⟩,s12,?_⟩
  rw [List.range_succ,List.filter_append,List.filter_cons,hb]
  simpa using el2
 | true=>
  rw [if_pos rfl]
  refine he i x H2 _ hx hb s12 fun H3 s3=>⟨_,s3 _ _ el2,hlen i (by omega),.inr ⟨_,_,rfl⟩,own (s12.trans s3),?_⟩
  rw [ae,List.range_succ,List.filter_append,List.filter_cons,hb]
  simp
end
end L2
namespace L2
open PySem PySem.Spec PyProof.Rows
end L2
namespace L2
open PySem PySem.Spec PyProof.Rows
end L2
namespace L2
open PySem PySem.Spec PyProof.Rows
def rngL (i j:Int):List Int:=(List.range (j - i).toNat).map fun (k:Nat)=>i+(k:Int)
theorem lC (i j:Int):(rngL i j).length=(j - i).toNat:=by unfold rngL; simp
theorem nM:∀ {xs:List V} {us:List Value},xs.length=us.length→(∀ (i:Nat) x u,xs[i]? =some x→us[i]? =some u→RelV x u)→Vals xs us
 | [],[],_,_=>.nil
 | [],_::_,h,_=>by simp at h
 | _::_,[],h,_=>by simp at h
 | x::xs,u::us,h,f=>.cons (f 0 x u rfl rfl) (nM (by simpa using h) fun i y e h1 h2=>f (i+1) y e (by simpa using h1) (by simpa using h2))
theorem xA {i j:Int} {acc:Array Value} (h:ItemsOf (fun k v=>∃ t,v=.int (i+k*1) t) acc (j - i).toNat):Vals ((rngL i j).map V.int) acc.toList:=by
 refine nM (by rw [List.length_map,lC,Array.length_toList]; exact h.1.symm) fun k x u hx hu=>?_
 obtain ⟨t,rfl⟩:=h.2 k u (by simpa using hu)
 unfold rngL at hx
 rw [List.map_map,List.getElem?_map] at hx
 by_cases hk:k < (j - i).toNat
 · rw [List.getElem?_range hk] at hx
   cases hx
   exact ⟨t,by rw [Int.mul_one]⟩
 · rw [List.getElem?_eq_none (by simpa using hk)] at hx
   cases hx
section
variable {X:Cx}
def kn (ta:TA):TE:=fun σ H Q=>ta σ H fun vs H1=>∃ j:Int,vs=[.int j]∧ -(2^60)≤j∧j≤1000∧∀ l,H1 l=none→Q (.ref l) (upd H1 l (.lst ((rngL 0 j).map V.int)))
def i7 (ta:TA):TE:=fun σ H Q=>ta σ H fun vs H1=>∃ i j:Int,vs=[.int i,.int j]∧(0≤i∧i≤1000∧ -(2^60)≤j∧j≤1000)∧∀ l,H1 l=none→Q (.ref l) (upd H1 l (.lst ((rngL i j).map V.int)))
theorem tu {pins:List (Addr × Obj)} {σ:St} {H1:Hp} {s1:Shared} {Q:VK} {i j:Int} {t u v:Tok} {tk:Nat} {A:Around} {E:Value→Shared→Prop} (hh:A.handled=none) (I1:Inv X pins σ H1 s1) (h1:0≤i) (h2:i≤1000) (h3: -(2^60)≤j) (h4:j≤1000)
  (q:∀ l,H1 l=none→Q (.ref l) (upd H1 l (.lst ((rngL i j).map V.int)))):
  wpAny (model X.prog X.w) A (call (.type "list") [.ref s1.heap.objs.size]) (EP X pins σ Q) E { s1 with heap:=s1.heap.push { cls:=.type "range",data:=.fields #[.int i t,.int j u,.int 1 v] },toks:=tk }:=by
 have I2:Inv X pins σ H1 { s1 with heap:=s1.heap.push { cls:=.type "range",data:=.fields #[.int i t,.int j u,.int 1 v] },toks:=tk }:=I1.kept fun b o e=>Heap.get?_push_of_some _ e
 refine call_list_range (n:=(j - i).toNat) hh (IsRange.new ..) (small_one (by omega) (by omega) (by omega) (by omega)) (by rw [rangeSize_one]; split <;> omega) (by omega) fun h' tk' acc' c' old hS' hacc=>?_
 have hlen:((rngL i j).map V.int).length≤sizeLine:=by rw [List.length_map,lC]; exact Nat.le_of_lt (aR (by omega))
 exact ⟨.ref _,_,I2.laid (t':=tk') (o:=.lst ((rngL i j).map V.int)) old (Nat.le_refl _) ⟨hlen,acc'.toList,c',xA hacc,hS'⟩,rfl,q _ (I2.hok.fresh (Nat.le_refl _))⟩
theorem nN {a:Expr} {ta:TA} {p p2 pos pos2:Pos} (hc:X.calm=true) (hgl:Gl X "list") (hgr:Gl X "range") (hl:X.mg "list"=none) (hr:X.mg "range"=none) (ha:PA X [a] ta)
  (hs1:starEach [.Call (.Name "range" p2) [a] [] pos2] X.env=[(false,eval (.Call (.Name "range" p2) [a] [] pos2) X.env)]:=by rfl) (hs:starEach [a] X.env=[(false,eval a X.env)]:=by rfl):
  PE X (.Call (.Name "list" p) [.Call (.Name "range" p2) [a] [] pos2] [] pos) (kn ta):=by
 intro pins s σ H Q I h
 refine wpAny_Call_Name_kw (cZ I hgl hl ce ?_ (by decide) (by decide))
 refine PyProof.Rows.callWith_type1 ?_ hs1 rfl
 rw [hs1]
 show wpAny _ _ (spliced [(false,eval (.Call (.Name "range" p2) [a] [] pos2) X.env)]) _ _ s
 refine Calls.spliced_cons ?_
 refine Call_ (cZ I hgr hr boot_range (PyProof.Rows.callWith_type1 (thn (ha pos2 pins s σ H _ I h) fun us s1 ⟨vs,H1,I1,r1,q1⟩=>?_) hs rfl))
 obtain ⟨j,e,q1,q2,q⟩:=q1
 subst e
 cases r1 with
 | cons r rr=>
  cases rr
  obtain ⟨t,rfl⟩:=r
  refine call_range_1 ?_
  refine Calls.spliced_nil ?_
  exact tu (I.ok.hd hc) I1 (by omega) (by omega) q1 q2 q
theorem kF {a b:Expr} {ta:TA} {p p2 pos pos2:Pos} (hc:X.calm=true) (hgl:Gl X "list") (hgr:Gl X "range") (hl:X.mg "list"=none) (hr:X.mg "range"=none) (ha:PA X [a,b] ta)
  (hs1:starEach [.Call (.Name "range" p2) [a,b] [] pos2] X.env=[(false,eval (.Call (.Name "range" p2) [a,b] [] pos2) X.env)]:=by rfl) (hs:starEach [a,b] X.env=[(false,eval a X.env),(false,eval b X.env)]:=by rfl) (hs2:starEach [b] X.env=[(false,eval b X.env)]:=by rfl):
  PE X (.Call (.Name "list" p) [.Call (.Name "range" p2) [a,b] [] pos2] [] pos) (i7 ta):=by
 intro pins s σ H Q I h
 refine wpAny_Call_Name_kw (cZ I hgl hl ce ?_ (by decide) (by decide))
 refine PyProof.Rows.callWith_type1 ?_ hs1 rfl
 rw [hs1]
 show wpAny _ _ (spliced [(false,eval (.Call (.Name "range" p2) [a,b] [] pos2) X.env)]) _ _ s
 refine Calls.spliced_cons ?_
 refine Call_ (cZ I hgr hr boot_range (PyProof.Rows.callWith_type1 (thn (ha pos2 pins s σ H _ I h) fun us s1 ⟨vs,H1,I1,r1,q1⟩=>?_) (by rw [hs,hs2]) (by rw [hs2]; rfl)))
 obtain ⟨i,j,e,⟨q1,q2,q3,q4⟩,q⟩:=q1
 subst e
 cases r1 with
 | cons r rr=>
  cases rr with
  | cons r' rr=>
   cases rr
   obtain ⟨t,rfl⟩:=r
   obtain ⟨t',rfl⟩:=r'
   refine call_range_2 ?_
   refine Calls.spliced_nil ?_
   exact tu (I.ok.hd hc) I1 q1 q2 q3 q4 q
end
section
variable {σ:St} {H:Hp} {Q:VK} {ta:TA}
theorem jS:kn ta σ H Q=ta σ H fun vs H1=>∃ j:Int,vs=[.int j]∧ -(2^60)≤j∧j≤1000∧∀ l,H1 l=none→Q (.ref l) (upd H1 l (.lst ((rngL 0 j).map V.int))):=rfl
theorem jT:i7 ta σ H Q=ta σ H fun vs H1=>∃ i j:Int,vs=[.int i,.int j]∧(0≤i∧i≤1000∧ -(2^60)≤j∧j≤1000)∧∀ l,H1 l=none→Q (.ref l) (upd H1 l (.lst ((rngL i j).map V.int))):=rfl
end
end L2
namespace L2
def besL (h w c:Int):List Int:=(if 0 < c / w then [c - w] else [])++(if 0 < c % w then [c - 1] else [])++(if c % w < w - 1 then [c+1] else [])++(if c / w < h - 1 then [c+w] else [])
theorem pi:∀ {xs ys:List Int},xs.Nodup→(∀ x∈xs,x∈ys)→xs.length≤ys.length
 | [],_,_,_=>Nat.zero_le _
 | x::xs,ys,nd,h=>by
  have hx:=h x List.mem_cons_self
  have nd':=List.nodup_cons.mp nd
  have ih:=pi (xs:=xs) (ys:=ys.erase x) nd'.2 fun y hy=>by
   have ne:y≠x:=fun e=>nd'.1 (e ▸ hy)
   exact (List.mem_erase_of_ne ne).mpr (h y (List.mem_cons_of_mem _ hy))
  rw [List.length_erase_of_mem hx] at ih
  have:0 < ys.length:=List.length_pos_of_mem hx
  simp only [List.length_cons]
  omega
theorem wJ {rs fs:List Int} (p:rs.Perm fs) (s:rs.Pairwise (· ≤·)) (nd:fs.Nodup):rs.Pairwise (· < ·):=by
 have nd':rs.Nodup:=p.nodup_iff.mpr nd
 refine (s.and nd').imp ?_
 intro a b h
 have:=h.1
 have:=h.2
 omega
theorem pj:∀ {xs ys:List Int},xs.Pairwise (· < ·)→ys.Pairwise (· < ·)→(∀ z,z∈xs↔z∈ys)→xs=ys
 | [],[],_,_,_=>rfl
 | [],y::ys,_,_,h=>absurd ((h y).mpr List.mem_cons_self) (fun q=>nomatch q)
 | x::xs,[],_,_,h=>absurd ((h x).mp List.mem_cons_self) (fun q=>nomatch q)
 | x::xs,y::ys,hx,hy,h=>by
  have hx':=List.pairwise_cons.mp hx
  have hy':=List.pairwise_cons.mp hy
  have e:x=y:=by
   rcases List.mem_cons.mp ((h x).mp List.mem_cons_self) with e | m1
   · exact e
   · rcases List.mem_cons.mp ((h y).mpr List.mem_cons_self) with e | m2
     · exact e.symm
     · have:=hy'.1 x m1
       have:=hx'.1 y m2
       omega
  subst e
  refine congrArg (x::·) (pj hx'.2 hy'.2 fun z=>⟨fun m=>?_,fun m=>?_⟩)
  · rcases List.mem_cons.mp ((h z).mp (List.mem_cons_of_mem _ m)) with e | q
    · have:=hx'.1 z m; omega
    · exact q
  · rcases List.mem_cons.mp ((h z).mpr (List.mem_cons_of_mem _ m)) with e | q
    · have:=hy'.1 z m; omega
    · exact q
end L2
namespace L2
open PySem PySem.Spec PyProof.Rows
local macro_rules | `(tactic| walk_at "w")=>`(tactic| (first | simp only [aB,aX,jo,bY,eh,w_c,kC,iT,gu,fE,fF,w_b,w_not,jp,lx,gw,gy,jq,iU,fG,kD,gz,jr,js,kE,jt,fH,gA,gB,gD,ei,eu,dF,df,dg,cK,ju,jv,jw,jx,jy,jz,jA,jB,jC,jD,jE,jF,lz,gE,di,gF,lA,gG,eE,dj,jG,jH,gH,fI,gI,
 List.getElem?_cons_zero,List.getElem?_cons_succ,Option.some.injEq,exists_eq_left',exists_eq_left,List.set_cons_zero,List.set_cons_succ,cO,V.int.injEq,V.bl.injEq,V.ref.injEq,V.str.injEq,List.append_nil,List.nil_append,List.cons_append] | dsimp only | skip))
theorem aG {n:Nat} (h:n≤1000):n≤sizeLine:=Nat.le_of_lt (aR h)
def IsFl (H:Hp) (a:Addr) (h w g:Int):Prop:=H a=some (.tup [.int h,.int w,.int g])
theorem Same.laid {H H':Hp} {p:Addr} {o:HO} (s:Same H H') (h:H' p=none):Same H (upd H' p o):=fun b u e=>by
 rw [ai (au (s b u e) h)]
 exact s b u e
theorem Same.own {H H':Hp} {p:Addr} {o:HO} (s:Same H H') (h:H p=none):Same H (upd H' p o):=fun b u e=>by
 rw [ai (au e h)]
 exact s b u e
theorem jU {l:List Int} {i:Nat} {x:Int} (h:l[i]? =some x):l.getD i 0=x:=by
 rw [List.getD,h]; rfl
theorem n6 {ns:List Int} {k:Int} (h0:0≤k) (h1:k < ns.length):atI (ns.map V.int) k=some (.int (ns.getD k.toNat 0)):=by
 have e:((k.toNat:Nat):Int)=k:=Int.toNat_of_nonneg h0
 have hlt:k.toNat < ns.length:=by omega
 have:(ns.map V.int)[k.toNat]? =some (.int (ns.getD k.toNat 0)):=by
  rw [List.getElem?_map,List.getElem?_eq_getElem hlt]
  simp [List.getD,hlt]
 have q:=b8 this
 rw [e] at q
 exact q
theorem bd {α:Type} (l:List α):l.filter (fun _=>true)=l:=List.filter_eq_self.mpr fun _ _=>rfl
theorem b6 {l:List Int} {i:Nat} {y:V} (h:(l.map V.int)[i]? =some y):∃ z,l[i]? =some z∧y=.int z:=by
 rw [List.getElem?_map] at h
 cases e:l[i]? with
 | none=>rw [e] at h; cases h
 | some z=>rw [e] at h; cases h; exact ⟨z,rfl,rfl⟩
theorem nO {l:List Addr} {i:Nat} {y:V} (h:(l.map V.ref)[i]? =some y):∃ z,l[i]? =some z∧y=.ref z:=by
 rw [List.getElem?_map] at h
 cases e:l[i]? with
 | none=>rw [e] at h; cases h
 | some z=>rw [e] at h; cases h; exact ⟨z,rfl,rfl⟩
theorem ko {h w:Int} (h0:1≤h) (h1:h≤6):CMul h w:=.inl ⟨by omega,by omega⟩
section
variable {k:Nat} {lo:Int} {n:Nat} {tt:TT} {te:TE} {fin:Addr→Hp→Prop} {σ0:St} {H1:Hp} {K:PySem.W.Frag} {a:Addr}
theorem og {n i:Nat} (b:Nat→Bool) (h:i < n) (hn:n≤900):((List.range i).filter b).length≤900:=by
 have:=List.length_filter_le b (List.range i)
 rw [List.length_range] at this
 omega
theorem ut (b:Nat→Bool) (f:Nat→V) (hn:n≤900)
  (ht:∀ i H R,i < n→Same H1 H→(∀ H',Same H H'→R (b i) H')→tt (σ0.set k (some (.int (lo+i)))) H R)
  (he:∀ i H Q,i < n→b i=true→Same H1 H→(∀ H',Same H H'→Q (f i) H')→te (σ0.set k (some (.int (lo+i)))) H Q)
  (hd:∀ l H,H1 l=none→Same H1 H→H l=some (.lst (((List.range n).filter b).map f))→fin l H):
  CompR (Itr lo n) (gName k) tt te fin σ0 H1:=by
 refine pf (fun l i σ H=>(σ=σ0∨∃ cv,σ=σ0.set k cv)∧Same H1 H∧H l=some (.lst (((List.range i).filter b).map f))) (fun l hl=>⟨.inl rfl,(Same.refl H1).laid hl,by rw [ae]; rfl⟩) ?_ (fun l σ H hl p=>hd l H hl p.2.1 p.2.2)
 rintro l i σ H hl hi ⟨hσ,s1,el⟩
 rw [bY]
 have e:σ.set k (some (.int (lo+i)))=σ0.set k (some (.int (lo+i))):=by
  rcases hσ with rfl | ⟨cv,rfl⟩
  · rfl
  · exact List.set_set ..
 rw [e]
 refine ht i H _ hi s1 fun H2 s2=>?_
 have el2:=s2 _ _ el
 cases hb:b i with
 | false=>
  rw [if_neg Bool.false_ne_true]
  refine ⟨.inr ⟨_,rfl⟩,s1.trans s2,?_⟩
  rw [List.range_succ,List.filter_append,List.filter_cons,hb]
  simpa using el2
 | true=>
  rw [if_pos rfl]
  refine he i H2 _ hi hb (s1.trans s2) fun H3 s3=>⟨_,s3 _ _ el2,by rw [List.length_map]; exact aR (Nat.le_trans (og b hi hn) (by decide)),.inr ⟨_,rfl⟩,((s1.trans s2).trans s3).own hl,?_⟩
  rw [ae,List.range_succ,List.filter_append,List.filter_cons,hb]
  simp
theorem bB {xs:List V} (b:Nat→Bool) (f:Nat→V) (hn:xs.length≤900) (hq:SqL K H1 a xs)
  (ht:∀ i x H R,xs[i]? =some x→Same H1 H→(∀ H',Same H H'→R (b i) H')→tt (σ0.set k (some x)) H R)
  (he:∀ i x H Q,xs[i]? =some x→b i=true→Same H1 H→(∀ H',Same H H'→Q (f i) H')→te (σ0.set k (some x)) H Q)
  (hd:∀ l H,H1 l=none→Same H1 H→H l=some (.lst (((List.range xs.length).filter b).map f))→fin l H):
  CompR (Itl K a) (gName k) tt te fin σ0 H1:=by
 refine rq (xs:=xs) (fun l i σ H=>(σ=σ0∨∃ cv,σ=σ0.set k cv)∧Same H1 H∧H l=some (.lst (((List.range i).filter b).map f))) (fun l hl=>⟨.inl rfl,(Same.refl H1).laid hl,by rw [ae]; rfl⟩) (fun l i σ H _ _ p=>p.2.1.seq hq) ?_ (fun l σ H hl p=>hd l H hl p.2.1 p.2.2)
 rintro l i x σ H hl hx ⟨hσ,s1,el⟩
 have hi:i < xs.length:=(List.getElem?_eq_some_iff.mp hx).1
 rw [bY]
 have e:σ.set k (some x)=σ0.set k (some x):=by
  rcases hσ with rfl | ⟨cv,rfl⟩
  · rfl
  · exact List.set_set ..
 rw [e]
 refine ht i x H _ hx s1 fun H2 s2=>?_
 have el2:=s2 _ _ el
 cases hb:b i with
 | false=>
  rw [if_neg Bool.false_ne_true]
  refine ⟨.inr ⟨_,rfl⟩,s1.trans s2,?_⟩
  rw [List.range_succ,List.filter_append,List.filter_cons,hb]
  simpa using el2
 | true=>
  rw [if_pos rfl]
  refine he i x H2 _ hx hb (s1.trans s2) fun H3 s3=>⟨_,s3 _ _ el2,by rw [List.length_map]; exact aR (Nat.le_trans (og b hi hn) (by decide)),.inr ⟨_,rfl⟩,((s1.trans s2).trans s3).own hl,?_⟩
  rw [ae,List.range_succ,List.filter_append,List.filter_cons,hb]
  simp
theorem nP (b:Nat→Bool) (f:Nat→Int) (hn:n≤900)
  (ht:∀ i H R,i < n→Same H1 H→(∀ H',Same H H'→R (b i) H')→tt (σ0.set k (some (.int (lo+i)))) H R)
  (he:∀ i H Q,i < n→b i=true→Same H1 H→(∀ H',Same H H'→Q (.int (f i)) H')→te (σ0.set k (some (.int (lo+i)))) H Q)
  (hd:∀ l H,H1 l=none→Same H1 H→H l=some (.lst ((((List.range n).filter b).map f).map V.int))→fin l H):
  CompR (Itr lo n) (gName k) tt te fin σ0 H1:=
 ut b (fun i=>.int (f i)) hn ht he fun l H hl s1 el=>hd l H hl s1 (by rw [List.map_map]; exact el)
theorem wK (b:Int→Bool) (f:Int→Int) (xs:List Int):((List.range xs.length).filter fun i=>b (xs.getD i 0)).map (fun i=>V.int (f (xs.getD i 0)))=((xs.filter b).map f).map V.int:=by
 have e:xs=(List.range xs.length).map fun i=>xs.getD i 0:=by
  refine List.ext_getElem? fun i=>?_
  rw [List.getElem?_map]
  by_cases h:i < xs.length
  · rw [List.getElem?_range h,List.getElem?_eq_getElem h]
    simp [List.getD,h]
  · rw [List.getElem?_eq_none (by omega),List.getElem?_eq_none (by simpa using h)]; rfl
 conv=>rhs; rw [e]
 rw [List.filter_map,List.map_map,List.map_map]
 rfl
theorem gJ {xs:List Int} (b:Int→Bool) (f:Int→Int) (hn:xs.length≤900) (hq:SqL K H1 a (xs.map V.int))
  (ht:∀ x H R,x∈xs→Same H1 H→(∀ H',Same H H'→R (b x) H')→tt (σ0.set k (some (.int x))) H R)
  (he:∀ x H Q,x∈xs→b x=true→Same H1 H→(∀ H',Same H H'→Q (.int (f x)) H')→te (σ0.set k (some (.int x))) H Q)
  (hd:∀ l H,H1 l=none→Same H1 H→H l=some (.lst (((xs.filter b).map f).map V.int))→fin l H):
  CompR (Itl K a) (gName k) tt te fin σ0 H1:=by
 refine bB (xs:=xs.map V.int) (fun i=>b (xs.getD i 0)) (fun i=>.int (f (xs.getD i 0))) (by rw [List.length_map]; exact hn) hq ?_ ?_ ?_
 · intro i x H R hx s1 h
   obtain ⟨z,hz,rfl⟩:=b6 hx
   rw [jU hz] at h
   exact ht z H R (List.mem_of_getElem? hz) s1 h
 · intro i x H Q hx hb s1 h
   obtain ⟨z,hz,rfl⟩:=b6 hx
   rw [jU hz] at h hb
   exact he z H Q (List.mem_of_getElem? hz) hb s1 h
 · intro l H hl s1 el
   refine hd l H hl s1 ?_
   rw [List.length_map] at el
   rw [el,wK]
end
theorem uO:∀ {ds:List PyData},(∀ d∈ds,PyData.canLay0 d=true)→PyData.canLayAll0 ds=true
 | [],_=>rfl
 | d::r,h=>by rw [PyData.canLayAll0,h d List.mem_cons_self,uO fun e he=>h e (List.mem_cons_of_mem _ he)]; rfl
theorem rB {n:Nat}:∀ {ds:List PyData},(∀ d∈ds,PyData.depth d≤n)→PyData.depthAll ds≤n
 | [],_=>Nat.zero_le _
 | d::r,h=>by rw [PyData.depthAll]; exact Nat.max_le.mpr ⟨h d List.mem_cons_self,rB fun e he=>h e (List.mem_cons_of_mem _ he)⟩
theorem ql {α:Type} [DecidableEq α] (g:α→PyData) (hg:∀ a b,PyData.eqv (g a) (g b)=decide (a=b)):∀ xs ys:List α,PyData.eqvAll (xs.map g) (ys.map g)=decide (xs=ys)
 | [],[]=>rfl
 | [],_::_=>rfl
 | _::_,[]=>rfl
 | x::xs,y::ys=>by
  rw [List.map_cons,List.map_cons,PyData.eqvAll,hg,ql g hg xs ys,Bool.eq_iff_iff]
  simp
def eF (K:PySem.W.Frag):Sp:=fun vs H Q _=>∃ (a:Addr) (h w g c:Int),vs=[.ref a,.int c]∧IsFl H a h w g∧0 < w∧w < 100∧∀ p,H p=none→Q (.ref p) (upd H p (.tup [.int (c / w),.int (c % w)]))
theorem vt {K:PySem.W.Frag} {vs:List V} {H:Hp} {Q:VK} {E:XK} (h:eF K vs H Q E):vs.length=2:=by
 obtain ⟨_,_,_,_,_,rfl,_⟩:=h; rfl
def jJ (K:PySem.W.Frag):TS:=
 (tSeq (tAsg (tOp cIx (tVar 0) (tC (.int 1))) (gName 2))
  (tRet (tTup (tCons (tOp cDiv (tVar 1) (tVar 2)) (tCons (tOp cMod (tVar 1) (tVar 2)) tNil)))))
theorem vv {K:PySem.W.Frag} {vs:List V} {H:Hp} {Q:VK} {E:XK} (h:eF K vs H Q E):jJ K { nx:=fun _ H'=>Q .non H',rt:=Q } (start ["floor","cell","wide"] vs) H:=by
 obtain ⟨a,h,w,g,c,rfl,ha,w0,w1,k⟩:=h
 show jJ K _ [some (.ref a),some (.int c),none] H
 unfold jJ
 walk_at "w"
 rw [vm ha]
 refine b3 (a:=V.int w) rfl ?_
 walk_at "w"
 refine ⟨⟨w0,by omega⟩,w0,aG (by show (2:Nat)≤1000; decide),k⟩
def lawAt (ns:List Int) (k:Int):Int:=
 if k < (ns.length:Int) then ns.getD k.toNat 0 else
  (if 0 < (ns.length:Int) then 7*k+3+ns.getD (k % ns.length).toNat 0 % 1000003*(k+1) else 7*k+3)*(if 0 < (ns.length:Int) then 7*k+3+ns.getD (k % ns.length).toNat 0 % 1000003*(k+1) else 7*k+3) % 999979+
  (if 0 < (ns.length:Int) then 7*k+3+ns.getD (k % ns.length).toNat 0 % 1000003*(k+1) else 7*k+3) % 101
def aP (K:PySem.W.Frag):Sp:=fun vs H Q _=>∃ (a:Addr) (ns:List Int) (k:Int),vs=[.ref a,.int k]∧SqL K H a (ns.map V.int)∧ns.length≤63∧0≤k∧k≤1000∧Q (.int (lawAt ns k)) H
theorem vw {K:PySem.W.Frag} {vs:List V} {H:Hp} {Q:VK} {E:XK} (h:aP K vs H Q E):vs.length=2:=by
 obtain ⟨_,_,_,rfl,_⟩:=h; rfl
def jK (K:PySem.W.Frag):TS:=
 (tSeq (tIfS (tTest (tOp (cCmp fun i j=>decide (i < j)) (tVar 1) (tCB (kLenS K) (tCons (tVar 0) tNil)))) (tRet (tOp (rIxL K) (tVar 0) (tVar 1))) tNext)
  (tSeq (tAsg (tOp cAdd (tOp cMul (tC (.int 7)) (tVar 1)) (tC (.int 3))) (gName 2))
  (tSeq (tIfS (tTest (tOp (cCmp fun i j=>decide (j < i)) (tCB (kLenS K) (tCons (tVar 0) tNil)) (tC (.int 0)))) (tAsg (tOp cAdd (tVar 2) (tOp cMul (tOp cMod (tOp (rIxL K) (tVar 0) (tOp cMod (tVar 1) (tCB (kLenS K) (tCons (tVar 0) tNil)))) (tC (.int 1000003))) (tOp cAdd (tVar 1) (tC (.int 1))))) (gName 2)) tNext)
  (tRet (tOp cAdd (tOp cMod (tOp cMul (tVar 2) (tVar 2)) (tC (.int 999979))) (tOp cMod (tVar 2) (tC (.int 101))))))))
theorem vx {K:PySem.W.Frag} {vs:List V} {H:Hp} {Q:VK} {E:XK} (h:aP K vs H Q E):jK K { nx:=fun _ H'=>Q .non H',rt:=Q } (start ["_law_script","_law_k","_law_mixed"] vs) H:=by
 obtain ⟨a,ns,k,rfl,hS,hn,k0,k1,q⟩:=h
 show jK K _ [some (.ref a),some (.int k),none] H
 unfold jK
 rw [aB,aJ]
 walk_at "w"
 refine ⟨a,_,rfl,.inl hS,?_⟩
 walk_at "w"
 rw [List.length_map]
 unfold lawAt at q
 by_cases hk:k < (ns.length:Int)
 · rw [if_pos hk] at q
   rw [if_pos (decide_eq_true hk)]
   exact ⟨a,_,k,_,rfl,rfl,hS,n6 k0 hk,q⟩
 · rw [if_neg hk] at q
   rw [if_neg (by simpa using hk)]
   refine ⟨.inl (by omega),?_⟩
   rw [aJ]
   walk_at "w"
   refine ⟨a,_,rfl,.inl hS,?_⟩
   walk_at "w"
   rw [List.length_map]
   by_cases hl:0 < (ns.length:Int)
   · simp only [if_pos hl] at q
     rw [if_pos (decide_eq_true hl)]
     refine ⟨a,_,rfl,.inl hS,?_⟩
     walk_at "w"
     rw [List.length_map]
     have m0:=Int.emod_nonneg k (Int.ne_of_gt hl)
     have m1:=Int.emod_lt_of_pos k hl
     refine ⟨hl,a,_,_,_,rfl,rfl,hS,n6 m0 m1,?_⟩
     walk_at "w"
     generalize ns.getD (k % ns.length).toNat 0=z at q ⊢
     have z0:=Int.emod_nonneg z (by decide:(1000003:Int)≠0)
     have z1:=Int.emod_lt_of_pos z (by decide:(0:Int) < 1000003)
     have b0:0≤z % 1000003*(k+1):=Int.mul_nonneg z0 (by omega)
     have b1:z % 1000003*(k+1)≤1000003*1001:=Int.mul_le_mul (by omega) (by omega) (by omega) (by decide)
     refine ⟨by decide,.inl ⟨by omega,by omega⟩,?_⟩
     walk_at "w"
     generalize z % 1000003*(k+1)=y at*
     exact ⟨.inl ⟨by omega,by omega⟩,by decide,by decide,q⟩
   · simp only [if_neg hl] at q
     rw [if_neg (by simpa using hl)]
     walk_at "w"
     exact ⟨.inl ⟨by omega,by omega⟩,by decide,by decide,q⟩
structure FlOk (h w g:Int):Prop where
 h0:1≤h
 h1:h≤6
 w0:1≤w
 w1:w≤6
 m:h*w≤16
 g0:1≤g
 g1:g≤6
def lawH (ns:List Int):Int:=1+lawAt ns 0 % 6
def lawW (ns:List Int):Int:=1+lawAt ns 1 % (if 16 / lawH ns < 6 then 16 / lawH ns else 6)
def lawG (ns:List Int):Int:=1+lawAt ns 2 % 6
theorem lawFl (ns:List Int):FlOk (lawH ns) (lawW ns) (lawG ns):=by
 have a0:=Int.emod_nonneg (lawAt ns 0) (by decide:(6:Int)≠0)
 have a1:=Int.emod_lt_of_pos (lawAt ns 0) (by decide:(0:Int) < 6)
 have c0:=Int.emod_nonneg (lawAt ns 2) (by decide:(6:Int)≠0)
 have c1:=Int.emod_lt_of_pos (lawAt ns 2) (by decide:(0:Int) < 6)
 have hh:lawH ns=1∨lawH ns=2∨lawH ns=3∨lawH ns=4∨lawH ns=5∨lawH ns=6:=by unfold lawH; omega
 have g0:1≤lawG ns∧lawG ns≤6:=by unfold lawG; omega
 have key:∀ m:Int,1≤m→m≤6→lawH ns*m≤16→(if 16 / lawH ns < 6 then 16 / lawH ns else 6)=m→FlOk (lawH ns) (lawW ns) (lawG ns):=fun m m0 m1 m2 e=>by
  have b0:=Int.emod_nonneg (lawAt ns 1) (by omega:m≠0)
  have b1:=Int.emod_lt_of_pos (lawAt ns 1) (by omega:0 < m)
  have ew:lawW ns=1+lawAt ns 1 % m:=by unfold lawW; rw [e]
  refine ⟨by omega,by omega,by omega,by omega,?_,g0.1,g0.2⟩
  refine Int.le_trans (Int.mul_le_mul_of_nonneg_left (show lawW ns≤m by omega) (by omega)) m2
 rcases hh with e | e | e | e | e | e <;> rw [e] at key ⊢
 · exact key 6 (by decide) (by decide) (by decide) rfl
 · exact key 6 (by decide) (by decide) (by decide) rfl
 · exact key 5 (by decide) (by decide) (by decide) rfl
 · exact key 4 (by decide) (by decide) (by decide) rfl
 · exact key 3 (by decide) (by decide) (by decide) rfl
 · exact key 2 (by decide) (by decide) (by decide) rfl
theorem lawM (ns:List Int):0 < (if 16 / lawH ns < 6 then 16 / lawH ns else (6:Int)):=by
 have a0:=Int.emod_nonneg (lawAt ns 0) (by decide:(6:Int)≠0)
 have a1:=Int.emod_lt_of_pos (lawAt ns 0) (by decide:(0:Int) < 6)
 have hh:lawH ns=1∨lawH ns=2∨lawH ns=3∨lawH ns=4∨lawH ns=5∨lawH ns=6:=by unfold lawH; omega
 rcases hh with e | e | e | e | e | e <;> rw [e] <;> decide
def cA (K:PySem.W.Frag):Sp:=fun vs H Q _=>∃ (a:Addr) (ns:List Int),vs=[.ref a]∧SqL K H a (ns.map V.int)∧ns.length≤63∧∀ p,H p=none→Q (.ref p) (upd H p (.tup [.int (lawH ns),.int (lawW ns),.int (lawG ns)]))
theorem rM {K:PySem.W.Frag} {vs:List V} {H:Hp} {Q:VK} {E:XK} (h:cA K vs H Q E):vs.length=1:=by
 obtain ⟨_,_,rfl,_⟩:=h; rfl
def fN (K:PySem.W.Frag):TS:=
 (tSeq (tAsg (tOp cAdd (tC (.int 1)) (tOp cMod (tCall (aP K) [] E0 (tCons (tVar 0) (tCons (tC (.int 0)) tNil))) (tC (.int 6)))) (gName 1))
  (tSeq (tAsg (tOp cAdd (tC (.int 1)) (tOp cMod (tCall (aP K) [] E0 (tCons (tVar 0) (tCons (tC (.int 1)) tNil))) (tCB kMin (tCons (tC (.int 6)) (tCons (tOp cDiv (tC (.int 16)) (tVar 1)) tNil))))) (gName 2))
  (tRet (tTup (tCons (tVar 1) (tCons (tVar 2) (tCons (tOp cAdd (tC (.int 1)) (tOp cMod (tCall (aP K) [] E0 (tCons (tVar 0) (tCons (tC (.int 2)) tNil))) (tC (.int 6)))) tNil)))))))
theorem rN {K:PySem.W.Frag} {vs:List V} {H:Hp} {Q:VK} {E:XK} (h:cA K vs H Q E):fN K { nx:=fun _ H'=>Q .non H',rt:=Q } (start ["_law_script","_law_high","_law_wide"] vs) H:=by
 obtain ⟨a,ns,rfl,hS,hn,q⟩:=h
 have F:=lawFl ns
 have:=F.h0
 have:=F.h1
 show fN K _ [some (.ref a),none,none] H
 unfold fN
 walk_at "w"
 refine ⟨a,ns,0,rfl,hS,hn,by decide,by decide,?_⟩
 walk_at "w"
 refine ⟨by decide,?_⟩
 walk_at "w"
 refine ⟨a,ns,1,rfl,hS,hn,by decide,by decide,?_⟩
 walk_at "w"
 have hH:1+lawAt ns 0 % 6=lawH ns:=rfl
 rw [hH]
 refine ⟨⟨by omega,by omega⟩,lawM ns,?_⟩
 walk_at "w"
 refine ⟨a,ns,2,rfl,hS,hn,by decide,by decide,?_⟩
 walk_at "w"
 exact ⟨by decide,aG (by show (3:Nat)≤1000; decide),q⟩
section
variable {K:PySem.W.Frag} {H:Hp} {Q:VK}
theorem wL {p:Addr} {xs:List V} (hp:H p=some (.lst xs)) (h:Q (.bl true) H):kIsi [.ref p,.ty "list"] H Q:=by
 refine ⟨by decide,b3 (a:="list") (by unfold j6; dsimp only; rw [hp]) ?_⟩
 rw [show isTy "list" "list"=true by decide]
 exact h
theorem zp {p:Addr} {xs:List V} (hp:H p=some (.tup xs)) (h:Q (.bl true) H):kIsi [.ref p,.ty "tuple"] H Q:=by
 refine ⟨by decide,b3 (a:="tuple") (by unfold j6; dsimp only; rw [hp]) ?_⟩
 rw [show isTy "tuple" "tuple"=true by decide]
 exact h
theorem xB {p q:Addr} {xs ys:List V} (hp:H p=some (.lst xs)) (hq:H q=some (.lst ys)) (hn:xs.length+ys.length≤1000) (h:Q .non (upd H p (.lst (xs++ys)))):mQ (.ref p) [.ref q] H Q:=by
 show bnd (unM (H p)) _
 rw [hp]
 show bnd (unM (H q)) _
 rw [hq]
 exact ⟨Nat.le_of_lt (aR hn),h⟩
theorem zq {g:TG} {tb:TS} {D:Ends} {σ:St} {ta:TA}:tFor (iZip K ta) g tb D σ H=ta σ H fun vs H1=>∃ a b,vs=[.ref a,.ref b]∧(∃ xs,SqL K H1 a xs)∧(∃ ys,SqL K H1 b ys)∧LoopR (Itz K a b) g tb D σ H1:=rfl
theorem tw {n:Nat} {t:TGs} {σ:St} {k:St→Hp→Prop} {p:Addr} {xs:List V} (hp:H p=some (.tup xs)) (hn:xs.length=n) (h:t xs σ H k):gTup K n t (.ref p) σ H k:=⟨p,xs,rfl,SqT.of hp,hn,h⟩
theorem tz {i j:Nat} {x y:V} {σ:St} {k:St→Hp→Prop}:gCons (gName i) (gCons (gName j) gNil) [x,y] σ H k=k ((σ.set i (some x)).set j (some y)) H:=by
 refine propext ⟨?_,fun h=>⟨x,[y],rfl,y,[],rfl,rfl,h⟩⟩
 rintro ⟨v,r,e,v2,r2,e2,e3,h⟩
 cases e
 cases e2
 exact h
theorem yr {a b:Addr} {xs ys:List V} {g:TG} {tb:TS} {D:Ends} {σ:St} (Pv:Nat→St→Hp→Prop) (hlen:xs.length=ys.length) (h0:Pv 0 σ H) (hl:∀ i σ H,i≤xs.length→Pv i σ H→SqL K H a xs∧SqL K H b ys)
  (hs:∀ i x y T σ H,xs[i]? =some x→ys[i]? =some y→Pv i σ H→H T=none→g (.ref T) σ (upd H T (.tup [x,y])) fun σ2 H2=>tb { D with nx:=Pv (i+1),ct:=Pv (i+1),bk:=D.nx } σ2 H2) (hd:∀ σ H,Pv xs.length σ H→D.nx σ H):
  LoopR (Itz K a b) g tb D σ H:=by
 refine ⟨fun i m σ H=>m=xs.length - i∧i≤xs.length∧Pv i σ H,⟨xs.length,by simp,Nat.zero_le _,h0⟩,?_⟩
 rintro i m σ H ⟨rfl,hi,p⟩
 obtain ⟨q1,q2⟩:=hl i σ H hi p
 by_cases hlt:i < xs.length
 · have hlt2:i < ys.length:=by omega
   refine .inr ⟨⟨xs,ys,xs[i],ys[i],q1,q2,by simp [hlt],by simp [hlt2]⟩,Pv (i+1),fun σ' H' p'=>⟨xs.length - (i+1),by omega,rfl,hlt,p'⟩,fun v H' y=>?_⟩
   obtain ⟨T,x,y,rfl,hT,rfl,e1,e2⟩:=y
   exact hs i x y T σ H (e1 xs q1) (e2 ys q2) p hT
 · have e:i=xs.length:=by omega
   subst e
   exact .inl ⟨⟨xs,ys,q1,q2,.inl (Nat.le_refl _)⟩,hd σ H p⟩
end
end L2
namespace L2
open PySem PySem.Builtin PySem.Builtin.Str
def tx (l:List Nat):Str:=⟨l.toArray⟩
theorem pk (l:List Nat):(tx l).cps.toList=l:=by simp [tx]
theorem zX (x:Str):tx x.cps.toList=x:=by cases x; simp [tx]
theorem wM {a b:List Nat} (h:tx a=tx b):a=b:=by rw [← pk a,h,pk]
theorem bT (l:List Nat):(tx l).length=l.length:=by simp [tx,Str.length]
theorem tD (a b:List Nat):tx a++tx b=tx (a++b):=by
 refine Str.ext' ?_
 rw [Str.cps_append]
 simp [tx]
theorem pp (a b:List Nat):decide (tx a=tx b)=decide (a=b):=by
 by_cases h:a=b
 · subst h; simp
 · have:¬ tx a=tx b:=fun e=>h (wM e)
   rw [decide_eq_false h,decide_eq_false this]
def catL (c:Nat):List (List Nat)→List Nat
 | []=>[]
 | [x]=>x
 | x::y::r=>x++c::catL c (y::r)
theorem jV (c:Nat):∀ ts:List (List Nat),Str.join (tx [c]) (ts.map tx)=tx (catL c ts)
 | []=>rfl
 | [x]=>rfl
 | x::y::r=>by
  show tx x++tx [c]++Str.join (tx [c]) ((y::r).map tx)=_
  rw [jV c (y::r),tD,tD]
  show tx _=tx (x++c::catL c (y::r))
  rw [List.append_assoc]; rfl
theorem lD (sep:Str) (ts:List Str):Txt.join sep ts=Str.join sep ts:=StrLaws.glued_eq_join sep ts
theorem uP {c:Nat}:∀ {a b x y:List Nat},c∉a→c∉b→a++c::x=b++c::y→a=b∧x=y
 | [],[],_,_,_,_,h=>⟨rfl,by simpa using h⟩
 | [],b::bs,_,_,_,hb,h=>by
  simp at h
  exact absurd (List.mem_cons.mpr (.inl h.1)) hb
 | a::as,[],_,_,ha,_,h=>by
  simp at h
  exact absurd (List.mem_cons.mpr (.inl h.1.symm)) ha
 | a::as,b::bs,x,y,ha,hb,h=>by
  simp at h
  have:=uP (fun z=>ha (List.mem_cons_of_mem _ z)) (fun z=>hb (List.mem_cons_of_mem _ z)) h.2
  exact ⟨by rw [h.1,this.1],this.2⟩
theorem tE {c:Nat}:∀ {x:List Nat} {r:List (List Nat)} {y:List Nat},c∈catL c (x::y::r):=by
 intro x r y
 show c∈x++c::_
 simp
theorem tF {c:Nat}:∀ {xs ys:List (List Nat)},xs≠[]→ys≠[]→(∀ x∈xs,c∉x)→(∀ y∈ys,c∉y)→catL c xs=catL c ys→xs=ys
 | [],_,h,_,_,_,_=>absurd rfl h
 | _,[],_,h,_,_,_=>absurd rfl h
 | [x],[y],_,_,_,_,h=>by
  have h':x=y:=h
  rw [h']
 | [x],y::z::r,_,_,hx,_,h=>by
  have h':x=catL c (y::z::r):=h
  exact absurd (h' ▸ tE) (hx x List.mem_cons_self)
 | x::z::r,[y],_,_,_,hy,h=>by
  have h':catL c (x::z::r)=y:=h
  exact absurd (h' ▸ tE) (hy y List.mem_cons_self)
 | x::z::r,y::u::s,_,_,hx,hy,h=>by
  obtain ⟨e1,e2⟩:=uP (hx x List.mem_cons_self) (hy y List.mem_cons_self) (show x++c::catL c (z::r)=y++c::catL c (u::s) from h)
  rw [e1,tF (by simp) (by simp) (fun w hw=>hx w (List.mem_cons_of_mem _ hw)) (fun w hw=>hy w (List.mem_cons_of_mem _ hw)) e2]
theorem xC (x y:Str):Txt.split x y≠[]:=by
 intro h
 unfold Txt.split at h
 split at h
 · cases h
 · split at h
   · cases h
   · rw [StrLaws.partsBetween_eq] at h
     obtain ⟨p,r,e⟩:=StrLaws.partsFrom_ne x y.length 0 (occurrences x y 0 x.length (x.length+1))
     rw [e] at h; cases h
theorem tG {c:Nat} {rows:List (List Nat)} (hne:rows≠[]) (hf:∀ r∈rows,c∉r):Txt.split (tx (catL c rows)) (tx [c])=rows.map tx:=by
 have h1:=StrLaws.join_split (tx (catL c rows)) (tx [c])
 have h2:∀ p∈Txt.split (tx (catL c rows)) (tx [c]),c∉p.cps.toList:=StrLaws.split_free _ c
 have h3:=xC (tx (catL c rows)) (tx [c])
 generalize Txt.split (tx (catL c rows)) (tx [c])=S at*
 have e:S=(S.map (·.cps.toList)).map tx:=by
  rw [List.map_map]
  conv=>lhs; rw [← List.map_id S]
  exact List.map_congr_left fun x _=>(zX x).symm
 rw [e,jV] at h1
 have h4:=wM h1
 have h5:=tF (c:=c) (xs:=S.map (·.cps.toList)) (ys:=rows) (by simpa using h3) hne (fun x hx=>by obtain ⟨p,hp,rfl⟩:=List.mem_map.mp hx; exact h2 p hp) hf h4
 rw [e,h5]
end L2
namespace L2
end L2
namespace L2
open PySem PySem.Spec PyProof.Rows
local macro_rules | `(tactic| walk_at "w")=>`(tactic| (first | simp only [aB,aX,jo,bY,eh,w_c,kC,iT,gu,fE,fF,w_b,w_not,jp,lx,gw,gy,jq,iU,fG,kD,gz,jr,js,kE,jt,fH,gA,gB,gD,ei,eu,dF,df,dg,cK,ju,jv,jw,jx,jy,jz,jA,jB,jC,jD,jE,jF,lz,gE,di,gF,lA,gG,eE,dj,jG,jH,gH,fI,gI,
 List.getElem?_cons_zero,List.getElem?_cons_succ,Option.some.injEq,exists_eq_left',exists_eq_left,List.set_cons_zero,List.set_cons_succ,cO,V.int.injEq,V.bl.injEq,V.ref.injEq,V.str.injEq,List.append_nil,List.nil_append,List.cons_append] | dsimp only | skip))
section
variable {k:Nat} {tt:TT} {te:TE} {fin:Addr→Hp→Prop} {σ0:St} {H1:Hp}
theorem wN {cs:List Nat} (b:Nat→Bool) (f:Nat→V) (hn:cs.length≤900)
  (ht:∀ i c H R,cs[i]? =some c→Same H1 H→(∀ H',Same H H'→R (b i) H')→tt (σ0.set k (some (.str (tx [c])))) H R)
  (he:∀ i c H Q,cs[i]? =some c→b i=true→Same H1 H→(∀ H',Same H H'→Q (f i) H')→te (σ0.set k (some (.str (tx [c])))) H Q)
  (hd:∀ l H,H1 l=none→Same H1 H→H l=some (.lst (((List.range cs.length).filter b).map f))→fin l H):
  CompR (Its (tx cs)) (gName k) tt te fin σ0 H1:=by
 intro l hl
 have hsz:(tx cs).cps.size=cs.length:=by simp [tx]
 refine ⟨fun i m σ H=>m=cs.length - i∧i≤cs.length∧(σ=σ0∨∃ cv,σ=σ0.set k cv)∧Same H1 H∧H l=some (.lst (((List.range i).filter b).map f)),⟨cs.length,by simp,Nat.zero_le _,.inl rfl,(Same.refl H1).laid hl,by rw [ae]; rfl⟩,?_⟩
 rintro i m σ H ⟨rfl,hi,hσ,s1,el⟩
 by_cases hlt:i < cs.length
 · refine .inr ⟨by show i < (tx cs).cps.size; rw [hsz]; exact hlt,fun σ H=>(σ=σ0∨∃ cv,σ=σ0.set k cv)∧Same H1 H∧H l=some (.lst (((List.range (i+1)).filter b).map f)),fun σ' H' p'=>⟨cs.length - (i+1),by omega,rfl,hlt,p'⟩,?_⟩
   rintro x H' ⟨rfl,c,hc,rfl⟩
   have hc':cs[i]? =some c:=by simpa [tx] using hc
   show gName k (.str (tx [c])) σ H' _
   rw [bY]
   have e:σ.set k (some (.str (tx [c])))=σ0.set k (some (.str (tx [c]))):=by
    rcases hσ with rfl | ⟨cv,rfl⟩
    · rfl
    · exact List.set_set ..
   rw [e]
   refine ht i c H' _ hc' s1 fun H2 s2=>?_
   have el2:=s2 _ _ el
   cases hb:b i with
   | false=>
    rw [if_neg Bool.false_ne_true]
    refine ⟨.inr ⟨_,rfl⟩,s1.trans s2,?_⟩
    rw [List.range_succ,List.filter_append,List.filter_cons,hb]
    simpa using el2
   | true=>
    rw [if_pos rfl]
    refine he i c H2 _ hc' hb (s1.trans s2) fun H3 s3=>⟨_,s3 _ _ el2,by rw [List.length_map]; exact aR (Nat.le_trans (og b hlt hn) (by decide)),.inr ⟨_,rfl⟩,((s1.trans s2).trans s3).own hl,?_⟩
    rw [ae,List.range_succ,List.filter_append,List.filter_cons,hb]
    simp
 · have e:i=cs.length:=by omega
   subst e
   exact .inl ⟨by show (tx cs).cps.size≤_; rw [hsz]; exact Nat.le_refl _,hd l H hl s1 el⟩
end
theorem lT {α:Type} (xs:List Int) (g:Int→α):(List.range xs.length).map (fun i=>g (xs.getD i 0))=xs.map g:=by
 have e:xs=(List.range xs.length).map fun i=>xs.getD i 0:=by
  refine List.ext_getElem? fun i=>?_
  rw [List.getElem?_map]
  by_cases h:i < xs.length
  · rw [List.getElem?_range h,List.getElem?_eq_getElem h]
    simp [List.getD,h]
  · rw [List.getElem?_eq_none (by omega),List.getElem?_eq_none (by simpa using h)]; rfl
 conv=>rhs; rw [e]
 rw [List.map_map]
 rfl
theorem gK {sep:Str} {ts:List Str} (h1:ts.length≤1000) (h2:∀ t∈ts,t.length≤1000) (h3:sep.length≤10):JoinOk sep ts=true:=by
 unfold JoinOk
 rw [Bool.not_eq_true']
 refine StrLaws.joinFits (B:=1000) h2 ?_
 have a1:ts.length*1000≤1000*1000:=Nat.mul_le_mul_right _ h1
 have a2:ts.length*sep.length≤1000*10:=Nat.mul_le_mul h1 h3
 omega
end L2
namespace L2
open PySem PySem.Spec PyProof.Rows
abbrev rIsN:R2:=fun x y H Q=>y=.non∧Q (.bl (decide (x=.non))) H
abbrev rNotN:R2:=fun x y H Q=>y=.non∧Q (.bl (!decide (x=.non))) H
def kStr:List V→Hp→VK→Prop
 | [.int i],H,Q=>i.natAbs.log2 < 1920∧Q (.str (Str.ofString (toString i))) H
 | _,_,_=>False
section
variable {X:Cx}
theorem bG:CallR X (.type "str") kStr:=by
 intro pins s σ H xs us Q I r h
 unfold kStr at h
 split at h
 · obtain ⟨hi,q⟩:=h
   cases r with
   | cons r0 rr=>
    cases rr
    obtain ⟨t,rfl⟩:=r0
    exact PySem.P.str_of_int hi ⟨.str _,H,I.tok _,⟨_,rfl⟩,q⟩
 · exact h.elim
end
section
variable {K:PySem.W.Frag} {H:Hp} {Q:VK}
theorem lE {x:V}:rIsN x .non H Q=Q (.bl (decide (x=.non))) H:=by simp [rIsN]
theorem lb {x:V}:rNotN x .non H Q=Q (.bl (!decide (x=.non))) H:=by simp [rNotN]
theorem mS {i:Int}:kStr [.int i] H Q=(i.natAbs.log2 < 1920∧Q (.str (Str.ofString (toString i))) H):=rfl
end
end L2
namespace L2
open PySem PySem.Spec PyProof.Rows
structure Bt2 (mg:Str→Option Value):Prop extends Bt mg where
 all_:mg "all"=none
 sum_:mg "sum"=none
 enumerate_:mg "enumerate"=none
section
variable {K:PySem.W.Frag} {H:Hp} {Q:VK} {D:Ends} {σ:St} {g:TG} {tb:TS} {ta:TA} {ix:List (Option Nat)} {tt:TT} {te tf:TE} {k:Nat}
theorem mT:tIf tt te tf σ H Q=tt σ H fun c H1=>if c=true then te σ H1 Q else tf σ H1 Q:=rfl
theorem ir:tComp ix (o6 ta) g tt te σ H Q=ta σ H fun vs H1=>∃ i j:Int,vs=[.int i,.int j]∧(-(2^62)≤i∧i < 2^62∧ -(2^62)≤j∧j < 2^62)∧CompR (Itr i (j - i).toNat) g tt te (fun l H'=>Q (.ref l) H') (subσ ix σ) H1:=rfl
theorem gj:sComp k ix (o6 ta) g tt te D σ H=ta σ H fun vs H1=>∃ i j:Int,vs=[.int i,.int j]∧(-(2^62)≤i∧i < 2^62∧ -(2^62)≤j∧j < 2^62)∧CompR (Itr i (j - i).toNat) g tt te (fun l H'=>D.nx (σ.set k (some (.ref l))) H') (subσ ix σ) H1:=rfl
theorem isiE {x:V} {n t:String} {b:Bool} (hx:j6 H x=some t) (hn:mP n=true) (hb:isTy t n=b):kIsi [x,.ty n] H Q=Q (.bl b) H:=by
 subst hb
 show (mP n=true∧bnd (j6 H x) fun t=>Q (.bl (isTy t n)) H)=_
 rw [hx]
 simp only [hn,true_and,cO]
theorem iu {i:Int}:kIsi [.int i,.ty "int"] H Q=Q (.bl true) H:=isiE (t:="int") rfl (by decide) (by decide)
theorem iw {i:Int}:kIsi [.int i,.ty "bool"] H Q=Q (.bl false) H:=isiE (t:="int") rfl (by decide) (by decide)
theorem iy {i:Int}:kIsi [.int i,.ty "str"] H Q=Q (.bl false) H:=isiE (t:="int") rfl (by decide) (by decide)
theorem iz {i:Bool}:kIsi [.bl i,.ty "bool"] H Q=Q (.bl true) H:=isiE (t:="bool") rfl (by decide) (by decide)
theorem iA {i:Bool}:kIsi [.bl i,.ty "int"] H Q=Q (.bl true) H:=isiE (t:="bool") rfl (by decide) (by decide)
theorem iB {i:Str}:kIsi [.str i,.ty "str"] H Q=Q (.bl true) H:=isiE (t:="str") rfl (by decide) (by decide)
theorem iC {i:Bool}:kIsi [.bl i,.ty "str"] H Q=Q (.bl false) H:=isiE (t:="bool") rfl (by decide) (by decide)
theorem lc {A B:Prop}:(if true=true then A else B)=A:=if_pos rfl
theorem le {A B:Prop}:(if false=true then A else B)=B:=if_neg Bool.false_ne_true
theorem lf {i:Int}:rU (fun i=>.int (-i)) (.int i) H Q=Q (.int (-i)) H:=by
 refine propext ⟨?_,fun h=>⟨i,rfl,h⟩⟩
 rintro ⟨j,e,h⟩
 cases e
 exact h
theorem xD {a:Addr} {xs:List V} (Pv:Nat→St→Hp→Prop) (h0:Pv 0 σ H) (hl:∀ i σ H,i≤xs.length→Pv i σ H→SqL K H a xs)
  (hs:∀ i x T σ H,xs[i]? =some x→Pv i σ H→H T=none→g (.ref T) σ (upd H T (.tup [.int i,x])) fun σ2 H2=>tb { D with nx:=Pv (i+1),ct:=Pv (i+1),bk:=D.nx } σ2 H2) (hd:∀ σ H,Pv xs.length σ H→D.nx σ H):
  LoopR (Ite K a) g tb D σ H:=by
 refine ⟨fun i m σ H=>m=xs.length - i∧i≤xs.length∧Pv i σ H,⟨xs.length,by simp,Nat.zero_le _,h0⟩,?_⟩
 rintro i m σ H ⟨rfl,hi,p⟩
 have q1:=hl i σ H hi p
 by_cases hlt:i < xs.length
 · refine .inr ⟨⟨xs,xs[i],q1,by simp [hlt]⟩,Pv (i+1),fun σ' H' p'=>⟨xs.length - (i+1),by omega,rfl,hlt,p'⟩,fun v H' y=>?_⟩
   obtain ⟨T,x,rfl,hT,rfl,e1⟩:=y
   exact hs i x T σ H (e1 xs q1) p hT
 · have e:i=xs.length:=by omega
   subst e
   exact .inl ⟨⟨xs,q1,Nat.le_refl _⟩,hd σ H p⟩
theorem ixT {p:Addr} {i:Int} {xs:List V} {v:V} (h:H p=some (.tup xs)) (e:atI xs i=some v) (q:Q v H):cIx (.ref p) (.int i) H Q:=by
 rw [vm h]; exact b3 e q
theorem ixL {p:Addr} {i:Int} {xs:List V} {v:V} (h:H p=some (.lst xs)) (e:atI xs i=some v) (q:Q v H):cIx (.ref p) (.int i) H Q:=by
 rw [zU h]; exact b3 e q
theorem ixI {p:Addr} {i:Int} {ns:List Int} (h:H p=some (.lst (ns.map V.int))) (h0:0≤i) (h1:i < ns.length) (q:Q (.int (ns.getD i.toNat 0)) H):cIx (.ref p) (.int i) H Q:=ixL h (n6 h0 h1) q
end
end L2
namespace L2
open PySem PySem.Spec PyProof.Rows
theorem ObjOk.ob {P:Program} {w:World} {H:Hp} {h:Heap} {a:Addr} {o:HO} (x:ObjOk P w H h a o):∃ u,h.get? a=some u:=by
 cases o with
 | lst xs=>obtain ⟨_,_,_,_,e⟩:=x; exact ⟨_,e⟩
 | tup xs=>obtain ⟨_,_,_,ob,e,_⟩:=x; exact ⟨_,e⟩
 | dK kvs=>obtain ⟨_,_,_,_,o,_,_,e,_⟩:=x; exact ⟨_,e⟩
 | dT kvs=>obtain ⟨_,_,_,_,o,_,_,e,_⟩:=x; exact ⟨_,e⟩
 | set S n=>obtain ⟨o,_,_,_,e,_⟩:=x; exact ⟨_,e⟩
 | ins C dx fs=>obtain ⟨_,_,_,e,_⟩:=x; exact ⟨_,e⟩
 | own y=>exact x
 | xd fs=>obtain ⟨_,⟨_,_,_,e,_⟩,_⟩:=x; exact ⟨_,e⟩
 | rng lo hi=>obtain ⟨_,_,_,e⟩:=x; exact ⟨_,e⟩
 | frz ob u=>obtain ⟨e,_⟩:=x; exact ⟨_,e⟩
 | tbl ps=>exact ⟨_,(show h.get? a=some _ from x)⟩
 | met f y=>exact ⟨_,(show h.get? a=some _ from x)⟩
 | ext φ=>obtain ⟨_,e,_⟩:=x; exact e
def Tr (h:Heap) (x T C:Addr) (fl:Value):Prop:=∃ oe vs oT ts a0,h.get? x=some oe∧oe.cls=.ref C∧vs[0]? =some a0∧oe.data=.fields vs∧vs[1]? =some (.ref T)∧T≠x∧h.get? T=some oT∧oT.data=.fields ts∧ts[3]? =some fl
structure Fly (P:Program) (w:World) (outer:List Env) (H:Hp) (s:Shared) (x T C:Addr) (H':Hp) (s':Shared):Prop where
 os:s'.os=s.os
 bare:AllBare s'.gens
 un:Un (frs outer) [] H H' s.heap s'.heap
 hok:HOk P w H' s'.heap
 fx:H' x=none
 fT:H' T=none
 nx:s.heap.get? x=none
 nT:s.heap.get? T=none
 tr:Tr s'.heap x T C .none
def CX1 (P:Program) (w:World):CXT:=fun outer H s E e s'=>∃ x T C H',e=.ref x∧Fly P w outer H s x T C H' s'∧E (.ref C) none H'
theorem tH {P:Program} {w:World} {env:Env} {outer:List Env} {base:Heap} {H₀ H H':Hp} {s₀ s sA:Shared} {x T' C L:Addr} {h':Heap} {ex:List Addr}
  (hos:sA.os=s₀.os) (hbare:AllBare sA.gens) (hL:env.frame=some L) (nL:s₀.heap.get? L=none)
  (U0:Un (frs outer) [] H₀ H s₀.heap s.heap) (fun0:s.heap.FunFrames base (env::outer)) (hfr:∀ b∈frs (env::outer),H b=none)
  (UA:Un (frs (env::outer)) [] H H' s.heap sA.heap) (okA:HOk P w H' sA.heap)
  (exn:∀ b∈ex,s.heap.get? b=none∧H' b=none)
  (keepAll:∀ b o,sA.heap.get? b=some o→b∉frs (env::outer)→b∉ex→h'.get? b=some o) (up:sA.heap.UpToSlots h')
  (nx:s.heap.get? x=none) (fx:H' x=none) (hT:∀ o,sA.heap.get? T'=some o→T'∈frs (env::outer)∨T'∈ex)
  (tr:Tr h' x T' C .none):Fly P w outer H₀ s₀ x T' C H' { sA with heap:=h' }:=by
 have frD:∀ b∈frs (env::outer),∃ o,s.heap.get? b=some o∧∀ vs,o.data≠.fields vs:=fun b hb=>(fun0.mem hb).2
 have frA:∀ b∈frs (env::outer),∃ o,sA.heap.get? b=some o∧∀ vs,o.data≠.fields vs:=fun b hb=>by
  obtain ⟨o,e,d⟩:=frD b hb
  obtain ⟨sl,e2⟩:=UA.slot b o e (hfr b hb) hb (by simp)
  exact ⟨_,e2,d⟩
 have frH:∀ b∈frs (env::outer),H' b=none:=fun b hb=>by
  obtain ⟨o,e,d⟩:=frD b hb
  exact UA.free b o e (hfr b hb) (by simp)
 have Tfr:T'∉frs (env::outer):=fun hb=>by
  obtain ⟨o,e,d⟩:=frA T' hb
  obtain ⟨sl,e2⟩:=up T' o e d
  obtain ⟨_,_,oT,ts,_,_,_,_,_,_,_,e3,d3,_⟩:=tr
  rw [e2] at e3
  cases e3
  exact d _ d3
 have sub:∀ b,b∈frs outer→b∈frs (env::outer):=fun b hb=>by
  unfold frs at hb ⊢
  rw [List.filterMap_cons,hL]
  exact List.mem_cons_of_mem _ hb
 have isL:∀ b,b∈frs (env::outer)→b=L∨b∈frs outer:=fun b hb=>by
  unfold frs at hb ⊢
  rw [List.filterMap_cons,hL] at hb
  exact List.mem_cons.mp hb
 have thereA:∀ b o,sA.heap.get? b=some o→b∉ex→∃ o',h'.get? b=some o':=fun b o e hx=>by
  by_cases hb:b∈frs (env::outer)
  · obtain ⟨o1,e1,d1⟩:=frA b hb
    rw [e] at e1; cases e1
    obtain ⟨sl,e2⟩:=up b o e d1
    exact ⟨_,e2⟩
  · exact ⟨o,keepAll b o e hb hx⟩
 have nex:∀ b o,s.heap.get? b=some o→b∉ex:=fun b o e hx=>by rw [(exn b hx).1] at e; cases e
 refine ⟨hos,hbare,⟨fun b o e n hb _=>?_,fun b o e n hb _=>?_,fun b o e n _=>?_,fun b o e _=>?_,fun b xs e=>UA.tups b xs (U0.tups b xs e),fun b o u e=>UA.frzs b o u (U0.frzs b o u e),fun b ps e=>?_⟩,?_,fx,?_,?_,?_,tr⟩
 · have e1:=U0.keep b o e n hb (by simp)
   have n1:=U0.free b o e n (by simp)
   have nb:b∉frs (env::outer):=fun z=>by
    rcases isL b z with z | z
    · rw [z,nL] at e; cases e
    · exact hb z
   exact keepAll b o (UA.keep b o e1 n1 nb (by simp)) nb (nex b o e1)
 · obtain ⟨sl,e1⟩:=U0.slot b o e n hb (by simp)
   have n1:=U0.free b o e n (by simp)
   obtain ⟨sl2,e2⟩:=UA.slot b _ e1 n1 (sub b hb) (by simp)
   obtain ⟨o3,e3,d3⟩:=frA b (sub b hb)
   rw [e2] at e3; cases e3
   obtain ⟨sl4,e4⟩:=up b _ e2 d3
   exact ⟨sl4,e4⟩
 · have n1:=U0.free b o e n (by simp)
   obtain ⟨o1,e1⟩:=U0.there b o e (by simp)
   exact UA.free b o1 e1 n1 (by simp)
 · obtain ⟨o1,e1⟩:=U0.there b o e (by simp)
   obtain ⟨o2,e2⟩:=UA.there b o1 e1 (by simp)
   exact thereA b o2 e2 (nex b o1 e1)
 · obtain ⟨m1,e1⟩:=U0.tbls b ps e
   obtain ⟨m2,e2⟩:=UA.tbls b _ e1
   exact ⟨m1++m2,by rw [e2,Array.append_assoc]⟩
 · intro a o e
   have key:∀ b,H' b≠none→b∉frs (env::outer)∧b∉ex:=fun b hb=>⟨fun z=>hb (frH b z),fun z=>hb (exn b z).2⟩
   refine (okA a o e).stay (fun b u hb q=>?_) (fun _ q=>q) fun _ _ q=>q
   have hb':H' b≠none:=by
    rcases hb with rfl | hb
    · rw [e]; simp
    · rw [hb]; simp
   exact keepAll b u q (key b hb').1 (key b hb').2
 · cases q:H' T' with
   | none=>rfl
   | some o=>
    obtain ⟨u,e⟩:=(okA T' o q).ob
    rcases hT u e with z | z
    · exact absurd z Tfr
    · rw [(exn T' z).2] at q; cases q
 · cases q:s₀.heap.get? x with
   | none=>rfl
   | some o=>
    obtain ⟨o1,e1⟩:=U0.there x o q (by simp)
    rw [nx] at e1; cases e1
 · cases q:s₀.heap.get? T' with
   | none=>rfl
   | some o=>
    obtain ⟨o1,e1⟩:=U0.there T' o q (by simp)
    obtain ⟨o2,e2⟩:=UA.there T' o1 e1 (by simp)
    rcases hT o2 e2 with z | z
    · exact absurd z Tfr
    · rw [(exn T' z).1] at e1; cases e1
theorem lF {h base:Heap} {as:List Addr}:∀ {l:List Env},h.FunFrames base l→(∀ b∈frs l,b∈as)→h.FunFrames (PySem.W.hideAll h as) l
 | [],_,_=>trivial
 | env::r,⟨hk,⟨L,o,hf,_,ho,hd⟩,hr⟩,hin=>⟨hk,⟨L,o,hf,PySem.W.hideAll_none as (hin L (by unfold frs; rw [List.filterMap_cons,hf]; exact List.mem_cons_self)),ho,hd⟩,lF hr fun b hb=>hin b (by
   unfold frs at hb ⊢; rw [List.filterMap_cons,hf]; exact List.mem_cons_of_mem _ hb)⟩
theorem qm {h h1 base:Heap} {H H':Hp} {fs:List Addr}:∀ {l:List Env},h.FunFrames base l→(∀ b∈frs l,b∈fs∧H b=none)→Un fs [] H H' h h1→h1.FunFrames base l
 | [],_,_,_=>trivial
 | env::r,⟨hk,⟨L,o,hf,hn,ho,hd⟩,hr⟩,hin,u=>by
  obtain ⟨h1,h2⟩:=hin L (by unfold frs; rw [List.filterMap_cons,hf]; exact List.mem_cons_self)
  obtain ⟨sl,e⟩:=u.slot L o ho h2 h1 (by simp)
  exact ⟨hk,⟨L,_,hf,hn,e,hd⟩,qm hr (fun b hb=>hin b (by unfold frs at hb ⊢; rw [List.filterMap_cons,hf]; exact List.mem_cons_of_mem _ hb)) u⟩
section
variable {P:Program} {w:World} {K:PySem.W.Frag} {mg:Str→Option Value} {base:Heap} {N:List Str} {qual:Str} {scope:Scope} {f:Addr} {cd:Value} {A:Around} {outer:List Env} {s₀:Shared} {H₀:Hp} {E:XK}
abbrev cx1 (P:Program) (w:World) (K:PySem.W.Frag) (mg:Str→Option Value) (base:Heap) (N:List Str) (qual:Str) (scope:Scope) (f:Addr) (cd:Value) (A:Around) (outer:List Env) (s:Shared) (H:Hp) (E:XK):Cx:=
 cxOf (CX1 P w) P w K mg base N qual scope f cd A outer s H E
theorem gk {E':XK} (himp:∀ c d H,E' c d H→E c d H):gq (CX1 P w) (cx1 P w K mg base N qual scope f cd A outer s₀ H₀ E) E':=by
 intro pins σ H s e s' I h
 obtain ⟨x,T,C,H',rfl,F,q⟩:=h
 obtain ⟨oe,vs,oT,ts,a0,he,hc,h0,hd,h1,hTx,hT,hdT,h3⟩:=F.tr
 have hstk:∀ b∈frs (envOfC qual scope s₀.heap.objs.size f cd::outer),H b=none:=I.stkFree
 have ff:s'.heap.FunFrames base (envOfC qual scope s₀.heap.objs.size f cd::outer):=qm I.stack (fun b hb=>⟨hb,hstk b hb⟩) F.un
 show wpAny (model P w) (A.deeper (envOfC qual scope s₀.heap.objs.size f cd)) (leaving (envOfC qual scope s₀.heap.objs.size f cd) (.ref x)) _ _ s'
 have hin:∀ b∈frs (envOfC qual scope s₀.heap.objs.size f cd::outer),b∈frs (envOfC qual scope s₀.heap.objs.size f cd::outer)++[x,T]:=fun b hb=>List.mem_append_left _ hb
 refine wpAny_leaves_onW (base:=PySem.W.hideAll s'.heap (frs (envOfC qual scope s₀.heap.objs.size f cd::outer)++[x,T])) (cls:=.ref C) (a0:=a0) (L:=s₀.heap.objs.size) I.ok.frames rfl
  ⟨fun b o e=>PySem.W.of_hideAll _ e,PySem.W.hideAll_none _ (by simp),lF ff hin,oe,vs,T,oT,ts,he,⟨hc,h0⟩,hd,h1,PySem.W.hideAll_none _ (by simp),hTx,hT,hdT,h3⟩ fun h' fl up=>?_
 obtain ⟨k1,k2,k3,oe',vs',T',oT',ts',a1,a2,a3,a4,a5,a6,a7,a8,a9⟩:=fl
 have keepAll:∀ b o,s'.heap.get? b=some o→b∉frs (envOfC qual scope s₀.heap.objs.size f cd::outer)→b∉[x,T]→h'.get? b=some o:=fun b o e hb hx=>k1 b o (PySem.W.hideAll_get _ e fun z=>(List.mem_append.mp z).elim hb hx)
 refine ⟨x,T',C,H',rfl,tH (env:=envOfC qual scope s₀.heap.objs.size f cd) (base:=base) (s:=s) (sA:=s') (L:=s₀.heap.objs.size) (ex:=[x,T]) (F.os.trans I.os) F.bare rfl (Heap.get?_none_of_le (Nat.le_refl _)) I.base I.stack hstk F.un F.hok (fun b hb=>?_) keepAll up F.nx F.fx (fun o e=>?_) ⟨oe',vs',oT',ts',a0,a1,a2.1,a2.2,a3,a4,a6,a7,a8,a9⟩,himp _ _ _ q⟩
 · simp only [List.mem_cons,List.not_mem_nil,or_false] at hb
   rcases hb with rfl | rfl
   · exact ⟨F.nx,F.fx⟩
   · exact ⟨F.nT,F.fT⟩
 · by_cases z:T'∈frs (envOfC qual scope s₀.heap.objs.size f cd::outer)++[x,T]
   · exact List.mem_append.mp z
   · rw [PySem.W.hideAll_get _ e z] at a5; cases a5
theorem xE {pins:List (Addr × Obj)} {σ:St} {H:Hp} {s:Shared} {h1:Heap} {x C:Addr} {args:List Value} (I:Inv (cx1 P w K mg base N qual scope f cd A outer s₀ H₀ E) pins σ H s) (hm:Heap.MadeExcOf s.heap h1 x (.ref C) args) (q:E (.ref C) none H):
  (cx1 P w K mg base N qual scope f cd A outer s₀ H₀ E).xe (.ref x) { s with heap:=h1 }:=by
 have hstk:∀ b∈frs (envOfC qual scope s₀.heap.objs.size f cd::outer),H b=none:=I.stkFree
 have ff:s.heap.FunFrames base (envOfC qual scope s₀.heap.objs.size f cd::outer):=I.stack
 show wpAny (model P w) (A.deeper (envOfC qual scope s₀.heap.objs.size f cd)) (leaving (envOfC qual scope s₀.heap.objs.size f cd) (.ref x)) _ _ { s with heap:=h1 }
 refine wpAny_leaves_madeW (s:={ s with heap:=h1 }) (base:=PySem.W.hideAll s.heap (frs (envOfC qual scope s₀.heap.objs.size f cd::outer))) (h:=s.heap) (L:=s₀.heap.objs.size) I.ok.frames rfl (fun b o e=>PySem.W.of_hideAll _ e) (lF ff fun b hb=>hb) hm fun h' t fl _ _ up=>?_
 obtain ⟨k1,k2,k3,oe',vs',T',oT',ts',a1,a2,a3,a4,a5,a6,a7,a8,a9⟩:=fl
 have keepAll:∀ b o,s.heap.get? b=some o→b∉frs (envOfC qual scope s₀.heap.objs.size f cd::outer)→b∉([]:List Addr)→h'.get? b=some o:=fun b o e hb _=>k1 b o (PySem.W.hideAll_get _ e hb)
 refine ⟨x,T',C,H,rfl,tH (env:=envOfC qual scope s₀.heap.objs.size f cd) (base:=base) (s:=s) (sA:=s) (L:=s₀.heap.objs.size) (ex:=[]) I.os I.bare rfl (Heap.get?_none_of_le (Nat.le_refl _)) I.base ff hstk Un.refl I.hok (fun b hb=>nomatch hb) keepAll ((Heap.UpToSlots.of_keeps hm.keeps).trans up) hm.new ?_ (fun o e=>?_) ⟨oe',vs',oT',ts',_,a1,a2.1,a2.2,a3,a4,a6,a7,a8,a9⟩,q⟩
 · cases z:H x with
   | none=>rfl
   | some o=>
    obtain ⟨u,e⟩:=(I.hok x o z).ob
    rw [hm.new] at e; cases e
 · by_cases z:T'∈frs (envOfC qual scope s₀.heap.objs.size f cd::outer)
   · exact .inl z
   · rw [PySem.W.hideAll_get _ e z] at a5; cases a5
end
end L2
namespace L2
open PySem PySem.Spec PyProof.Rows
section
variable {prog:Program} {w:World} {A:Around} {E:Value→Shared→Prop} {h:Heap} {g:Array GenState} {d:Drawn} {t:Nat} {os:OsState} {K:PySem.W.Frag} {a C:Addr} {o:Obj}
structure XIs (K:PySem.W.Frag) (C:Addr):Prop where
 ga:PySem.W.findIn K (.ref C) "__getattribute__"=some (some (.builtin "BaseException.__getattribute__"))
 gx:PySem.W.findIn K (.ref C) "__getattr__"=some none
 cl:PySem.W.findIn K (.ref C) "__class__"=some (some (.builtin "object.__class__"))
 mo:PySem.W.mroIn K C (.type "object")=some true
 mb:PySem.W.mroIn K C (.type "BaseException")=some true
theorem uQ {M:Model} {T:Value} {v:Bool} (X:K.In h) (hm:PySem.W.mroIn K C T=some v):PySem.W.Looks M h (isSubtype (.ref C) T) v:=PySem.W.looks_mroIn X hm
theorem zY {R:Result→Shared→Prop} (X:K.In h) (Z:XIs K C) (hx:h.get? a=some o) (hc:o.cls=.ref C) (hq:R (.ok (.ret (.ref C))) ⟨h,g,d,t,os⟩):
  codeAny (model prog w) A (.call (.builtin "getset_descriptor.__get__") ⟨[.builtin "object.__class__",.ref a,.ref C],[]⟩) R ⟨h,g,d,t,os⟩:=by
 have hT5:(⟨h,g,d,t,os⟩:Shared).TypeIs (.builtin "object.__class__") "getset_descriptor":=F.typeOf_object_class
 have L1:PySem.W.Looks (model prog w) h (isSubtype (.ref C) (.type (".".intercalate ("object.__class__".cutAt '.').dropLast))) true:=by rw [F.owner_object_class]; exact uQ X Z.mo
 refine codeAny_call_builtin F.slot_gs_get.plain F.entry_gs_get (F.slot_gs_get.check _ _ _ _ _ _ _ _ hT5 (F.args_gs_get _ _ _) ?_)
 repeat (any_goals (first | assumption | (with_reducible refine wpAny_loadPart_at hx ?_; rw [hc]) | with_reducible refine L1.at ?_ | wp_step))
 refine ⟨Code.quiet_builtin _ (by decide+kernel),codeAny_builtin F.entry_object_class ?_⟩
 repeat (any_goals (first | assumption | (with_reducible refine wpAny_loadPart_at hx ?_; rw [hc]) | wp_step))
theorem yt {tk:Tok} {Q:Fin→Shared→Prop} (X:K.In h) (Z:XIs K C) (hx:h.get? a=some o) (hc:o.cls=.ref C) (hq:Q (.done (.ret (.ref C))) ⟨h,g,d,t,os⟩):
  wpAny (model prog w) A (Builtin.«object.__getattribute__» ⟨[.ref a,.str "__class__" tk],[]⟩) Q E ⟨h,g,d,t,os⟩:=by
 have hT5:(⟨h,g,d,t,os⟩:Shared).TypeIs (.builtin "object.__class__") "getset_descriptor":=F.typeOf_object_class
 have f5:=F.typeOf_object_class
 have f6:=F.slot_gs_get.lookup
 have f7:=F.slot_gs_set.lookup
 have L1:=PySem.W.looks_findIn (M:=model prog w) X Z.cl
 repeat (any_goals (first | assumption | (with_reducible refine wpAny_loadPart_at hx ?_; rw [hc]) | with_reducible refine L1.at ?_ | wp_step))
 refine zY X Z hx hc ?_
 repeat (any_goals (first | assumption | wp_step))
theorem yu {M:Model} {nameV:Value} {Q:Unit→Shared→Prop} (X:K.In h) (Z:XIs K C) (hx:h.get? a=some o) (hc:o.cls=.ref C) (hq:Q () ⟨h,g,d,t,os⟩):wpAny M A (checkBuiltinCall "BaseException.__getattribute__" ⟨[.ref a,nameV],[]⟩) Q E ⟨h,g,d,t,os⟩:=by
 have hk:builtinKind "BaseException.__getattribute__"=some .slot:=by decide+kernel
 have hsplit:splitId "BaseException.__getattribute__"=some ("BaseException","__getattribute__"):=by decide+kernel
 have L1:=uQ (M:=M) X Z.mb
 have ha:=F.args_bexc_ga (.ref a) nameV
 simp only [checkBuiltinCall,hk,hsplit]
 refine wpAny_bind ?_
 · unfold isInstance
   repeat (first | (with_reducible refine wpAny_loadPart_at hx ?_; rw [hc]) | with_reducible refine L1.at ?_ | wp_step)
   exact hq
theorem zr {tk:Tok} {R:Result→Shared→Prop} (X:K.In h) (Z:XIs K C) (hx:h.get? a=some o) (hc:o.cls=.ref C) (hq:R (.ok (.ret (.ref C))) ⟨h,g,d,t,os⟩):
  codeAny (model prog w) A (.call (.builtin "BaseException.__getattribute__") ⟨[.ref a,.str "__class__" tk],[]⟩) R ⟨h,g,d,t,os⟩:=
 codeAny_call_builtin F.attr_ValueError.ga.plain F.entry_bexc_ga (yu X Z hx hc (yt X Z hx hc hq))
theorem Am {tk:Tok} {fill expr:Bool} {Q:Value→Shared→Prop} (X:K.In h) (Z:XIs K C) (hx:h.get? a=some o) (hc:o.cls=.ref C) (hq:Q (.ref C) ⟨h,g,d,t,os⟩):
  wpAny (model prog w) A (getAttrBy (.ref a) (.str "__class__" tk) fill expr) Q E ⟨h,g,d,t,os⟩:=by
 have f3:=F.attr_ValueError.ga.bind (.ref a)
 have hx0:(expr&&onTheHeap (Value.builtin "BaseException.__getattribute__"))=false:=by cases expr <;> rfl
 have hx2:(Value.builtin "BaseException.__getattribute__"==Value.builtin "object.__getattribute__")=false:=by decide+kernel
 have hx1:(onTheHeap (Value.ref C)&&Value.builtin "BaseException.__getattribute__"==Value.builtin "object.__getattribute__")=false:=by rw [hx2]; rfl
 have L1:=PySem.W.looks_findIn (M:=model prog w) X Z.ga
 have L2:=PySem.W.looks_findIn (M:=model prog w) X Z.gx
 repeat (any_goals (first | assumption | (with_reducible refine wpAny_loadPart_at hx ?_; rw [hc]) | with_reducible refine L1.at ?_ | with_reducible refine L2.at ?_ | wp_step))
 refine zr X Z hx hc ?_
 repeat (any_goals (first | assumption | wp_step))
theorem zt {Q:Option Value→Shared→Prop} (X:K.In h) (Z:XIs K C) (hx:h.get? a=some o) (hc:o.cls=.ref C) (hq:Q (some (.ref C)) ⟨h,g,d,t+1,os⟩):
  wpAny (model prog w) A (getAttr? (.ref a) "__class__") Q E ⟨h,g,d,t,os⟩:=by
 unfold getAttr? getAttrBy?
 repeat (any_goals (first | assumption | with_reducible apply Am X Z hx hc | wp_step))
def XO (a C:Addr):Heap→Prop:=fun h=>∃ o vs,h.get? a=some o∧o.cls=.ref C∧o.data=.fields vs
theorem uR (Z:XIs K C):∃ c' d' cd sl,K.lookup C=some ⟨c',d',.cls cd,sl⟩:=by
 have:=Z.mo
 unfold PySem.W.mroIn PySem.W.clsIn at this
 split at this
 · rename_i c' d' cd' sl' ho
   exact ⟨_,_,_,_,ho⟩
 · cases this
theorem xF (Z:XIs K C):PySem.W.KitX K (.ref a) (.ref C) (XO a C) where
 ty:=fun M h _ ⟨o,vs,hx,hc,_⟩=>by
  intro A Q E s k q
  unfold typeOf
  refine wpAny_bind (wpAny_loadPart (k _ _ hx) ?_)
  rw [hc]
  exact wpAny_pure q
 it:=fun M h X _=>by
  obtain ⟨c',d',cd,sl,ho⟩:=uR Z
  intro A Q E s k q
  unfold isType loadHead
  exact wpAny_bind (wpAny_loadPart (k _ _ (X _ _ ho)) (wpAny_pure q))
 ne:=fun h tp dd its n sl X htp=>by
  obtain ⟨c',d',cd,sl',ho⟩:=uR Z
  refine Bool.eq_false_iff.mpr fun q=>?_
  have e:C=tp:=Value.ref.inj (beq_iff_eq.mp q)
  subst e
  have z:=(X _ _ ho).symm.trans htp
  cases z
 ca:=fun {prog w A E Q s} X ⟨o,vs,hx,hc,_⟩ hq=>by
  obtain ⟨h,g,d,t,os⟩:=s
  exact zt X Z hx hc hq
end
def cvOf:V→Option Value
 | .ref p=>some (.ref p)
 | .ty n=>some (.type n)
 | _=>none
theorem xG {c:V} {cv u:Value} (h:cvOf c=some cv) (r:RelV c u):u=cv:=by
 cases c with
 | ref p=>cases h; cases r; rfl
 | ty n=>cases h; cases r; rfl
 | _=>cases h
def kIsX (K:PySem.W.Frag):List V→Hp→VK→Prop:=fun vs H Q=>∃ a C c cv b,vs=[.ref a,c]∧H a=some (.ext (XO a C))∧XIs K C∧cvOf c=some cv∧PySem.W.kitOne K (.ref C) cv=some b∧Q (.bl b) H
theorem gl {X:Cx}:CallR X (.builtin "isinstance") (kIsX X.K):=by
 intro pins s σ H xs us Q I r h
 obtain ⟨a,C,c,cv,b,rfl,hH,Z,rc,hk,q⟩:=h
 obtain ⟨u,w',rfl,ru,rw'⟩:=o7 r
 cases ru
 have e:w'=cv:=xG rc rw'
 subst e
 obtain ⟨p,_⟩:=I.hok a _ hH
 exact PySem.W.kia_one (xF Z) I.kIn p hk (fun z=>nomatch z) fun tk=>⟨.bl b,H,I.tok tk,rfl,q⟩
end L2
namespace L2
open PySem PySem.Spec PyProof.Rows
abbrev VE:List Value:=[.type "ValueError",.type "Exception",.type "BaseException",.type "object"]
def oh (e:DictEntry):Bool:=match e.key with | .str _ _=>true | _=>false
def gL (K:PySem.W.Frag) (N:Addr):Bool:=match K.lookup N with
 | some ⟨_,_,.dict es _,_⟩=>es.toList.all oh&&(nsFind es "__init__").isNone
 | _=>false
theorem kq {K:PySem.W.Frag} {N:Addr} {h:Heap} (X:K.In h) (e:gL K N=true):∃ mN,h.Ns N mN∧mN "__init__"=none:=by
 unfold gL at e
 split at e
 · rename_i c d es ep sl ho
   simp only [Bool.and_eq_true] at e
   refine ⟨nsFind es,⟨_,es,ep,X _ _ ho,rfl,fun en hm=>?_,fun _=>rfl⟩,Option.isNone_iff_eq_none.mp e.2⟩
   have:=List.all_eq_true.mp e.1 en (Array.mem_def.mp hm)
   unfold oh at this
   split at this
   · rename_i n t q; exact ⟨n,t,q⟩
   · cases this
 · cases e
structure XC (K:PySem.W.Frag) (C D:Addr):Prop where
 oC:∃ nm q N bs hdct sn sub ab col dd k0 k1 k2 k3 k5,K.lookup C=some (excClassObj nm q C N bs (.ref D::VE) hdct sn sub ab col dd k0 k1 k2 k3 k5 "ValueError.__new__")∧gL K N=true
 oD:∃ c0 dd cd sl,K.lookup D=some ⟨c0,dd,.cls cd,sl⟩∧gL K cd.ns=true
theorem XC.mk' {K:PySem.W.Frag} {C D:Addr} {nm q:Str} {N:Addr} {bs:List Value} {hdct:Bool} {sn:List Str} {sub:List Value} {ab:Bool} {col:Option Bool} {dd:Option Addr} {k0 k1 k2 k3 k5:Option Value} {c0:Value} {dD:Option Addr} {cd:ClassData} {sl:Array (Option Value)}
  (l1:K.lookup C=some (excClassObj nm q C N bs (.ref D::VE) hdct sn sub ab col dd k0 k1 k2 k3 k5 "ValueError.__new__")) (n1:gL K N=true) (l2:K.lookup D=some ⟨c0,dD,.cls cd,sl⟩) (n2:gL K cd.ns=true):XC K C D:=
 ⟨⟨_,_,_,_,_,_,_,_,_,_,_,_,_,_,_,l1,n1⟩,⟨_,_,_,_,l2,n2⟩⟩
def mf (E:XK) (C:Addr) (t:TA):TS:=fun _ σ H=>t σ H fun vs H1=>vs.length≤sizeLine∧E (.ref C) none H1
section
variable {P:Program} {w:World} {K:PySem.W.Frag} {mg:Str→Option Value} {base:Heap} {N:List Str} {qual:Str} {scope:Scope} {f:Addr} {cd:Value} {A:Around} {outer:List Env} {s₀:Shared} {H₀:Hp} {E:XK}
theorem oi {C D:Addr} {x:Str} {np cpos pos:Pos} {e₀:Expr} {rest:List Expr} {t:TA} (Z:XC K C D) (hg:Gl (cx1 P w K mg base N qual scope f cd A outer s₀ H₀ E) x) (hm:mg x=some (.ref C))
  (ha:PA (cx1 P w K mg base N qual scope f cd A outer s₀ H₀ E) (e₀::rest) t) (hdb:(x==("__debug__":Str))=false:=by decide)
  (he:starEach (e₀::rest) (envOfC qual scope s₀.heap.objs.size f cd)=(false,eval e₀ (envOfC qual scope s₀.heap.objs.size f cd))::starEach rest (envOfC qual scope s₀.heap.objs.size f cd):=by rfl)
  (hplain:(backTo cpos (starEach rest (envOfC qual scope s₀.heap.objs.size f cd))).any (·.1)=false:=by rfl):
  PS (cx1 P w K mg base N qual scope f cd A outer s₀ H₀ E) (.Raise (some (.Call (.Name x np) (e₀::rest) [] cpos)) none pos) (mf E C t):=by
 intro pins s σ H D' I h
 obtain ⟨⟨nm,q,Nc,bs,hdct,sn,sub,ab,col,dd,k0,k1,k2,k3,k5,l1,n1⟩,⟨c0,dD,cdD,sl,l2,n2⟩⟩:=Z
 obtain ⟨mN,hN,hni⟩:=kq I.kIn n1
 obtain ⟨mD,hD,hnd⟩:=kq I.kIn n2
 have hb:=I.ok.hd rfl
 refine wpAny_Raise_call_subU (C:=C) (nm:=nm) (q:=q) (N:=Nc) (bs:=bs) (bm:=.ref D::VE) (bmB:=VE) (hdct:=hdct) (sn:=sn) (sub:=sub) (ab:=ab) (col:=col) (dd:=dd) (k0:=k0) (k1:=k1) (k2:=k2) (k3:=k3) (k5:=k5)
  F.excBase_ValueError (by decide+kernel) F.excBase_ValueError (mN:=mN) (by rw [List.contains_cons,show VE.contains (.type "BaseException")=true by decide+kernel,Bool.or_true]) hb (by rw [show starEach (e₀::rest) (cx1 P w K mg base N qual scope f cd A outer s₀ H₀ E).env=_ from he]; show (false||(backTo cpos (starEach rest (envOfC qual scope s₀.heap.objs.size f cd))).any (·.1))=false; rw [hplain]; rfl) hni (jO I hg hm ⟨rfl,?_⟩ hdb)
 have h1:=ha cpos pins s σ H _ I h
 rw [show starEach (e₀::rest) (cx1 P w K mg base N qual scope f cd A outer s₀ H₀ E).env=_ from he] at h1 ⊢
 refine Calls.evalArgs_plain (wpAny_mono h1 (fun vs s₂ h₂=>?_) fun _ _ y=>y)
 obtain ⟨xs,H2,I2,rv,hl,hE⟩:=h₂
 obtain ⟨mN2,hN2,hni2⟩:=kq I2.kIn n1
 obtain ⟨mD2,hD2,hnd2⟩:=kq I2.kIn n2
 have kk:s.heap.Ns Nc mN→s₂.heap.Ns Nc mN:=fun ⟨o,es,ep,a1,a2⟩=>by
  obtain ⟨o2,es2,ep2,b1,b2⟩:=hN2
  unfold gL at n1
  split at n1
  · rename_i c d es' ep' sl' ho
    have e1:=I.kIn _ _ ho
    have e2:=I2.kIn _ _ ho
    rw [a1] at e1; cases e1
    exact ⟨_,es,ep,e2,a2⟩
  · cases n1
 refine ⟨rfl,by rw [← rv.length]; exact hl,I2.kIn _ _ l1,kk hN,.own (I2.kIn _ _ l2) hD2 hnd2 .base,fun h' e hm'=>?_⟩
 exact xE I2 hm' hE
end
end L2
namespace L2
open PySem PySem.Spec PyProof.Rows
theorem vy {P:Program} {w:World} {X:Cx}:gq (CX1 P w) X E0:=fun _ _ _ _ _ _ _ h=>by obtain ⟨_,_,_,_,_,_,q⟩:=h; exact (show False from q).elim
section
variable {P:Program} {w:World} {K:PySem.W.Frag} {mg:Str→Option Value} {base:Heap}
theorem Fun.ok1 {x qual:Str} {st:Stmt} {f:Addr} {fd:FuncData} {N ps:List Str} {k:Nat} {sp:Sp} (F:Fun K x qual st f fd) (S:am N ps (ah st)) (len:∀ vs H Q E,sp vs H Q E→vs.length=ps.length)
  (hbody:∀ (cdv:Value) (A:Around) (outer:List Env) (s:Shared) (H:Hp) (vs:List V) (Q:VK) (E:XK),Room k (A.deeper (envOfC qual (ah st) s.heap.objs.size f cdv))→sp vs H Q E→
   ∃ t,PSs (cx1 P w K mg base N qual (ah st) f cdv A outer s H E) (aQ st) t∧t { nx:=fun _ H'=>Q .non H',rt:=Q } (start N vs) H):FnOk P w K mg base (CX1 P w) (k+1) f fd ps sp:=by
 obtain ⟨oc,od,kV,doc,pm,an,cdv,ct,osl,rfl,lk,hcd⟩:=F.ex
 exact vh lk hcd S len fun A outer s H vs Q E hr hsp=>hbody cdv A outer s H vs Q E hr hsp
end
section
variable {X:Cx} {pins:List (Addr × Obj)} {σ:St} {H:Hp} {s s':Shared}
theorem wO {H':Hp} {x T C:Addr} {a0:Value} {h5:Heap} (I:Inv X pins σ H s) (F:Fly X.prog X.w X.stack H s x T C H' s') (fl:Heap.FlyingW (PySem.W.hideAll s'.heap (frs X.stack++[x,T])) X.stack x (.ref C) a0 h5) (up:s'.heap.UpToSlots h5):
  Inv X pins σ (upd H' x (.ext (XO x C))) { s' with heap:=h5 }:=by
 obtain ⟨k1,_,_,oe,vs,T',oT,ts,he,hc,hd,_⟩:=fl
 have keepAll:∀ b o,s'.heap.get? b=some o→b∉frs X.stack→b∉[x,T]→h5.get? b=some o:=fun b o e hb hx=>k1 b o (PySem.W.hideAll_get _ e fun z=>(List.mem_append.mp z).elim hb hx)
 have frD:∀ b∈frs X.stack,∃ o,s.heap.get? b=some o∧∀ vs,o.data≠.fields vs:=fun b hb=>(I.stack.mem hb).2
 have hstk:=I.stkFree
 have nxT:∀ b o,s.heap.get? b=some o→b∉[x,T]:=fun b o e z=>by
  simp only [List.mem_cons,List.not_mem_nil,or_false] at z
  rcases z with rfl | rfl
  · rw [F.nx] at e; cases e
  · rw [F.nT] at e; cases e
 have slots:∀ b o,s.heap.get? b=some o→H b=none→b∈frs X.stack→∃ sl,h5.get? b=some { o with slots:=sl }:=fun b o e n hb=>by
  obtain ⟨sl,e1⟩:=F.un.slot b o e n hb (by simp)
  obtain ⟨o2,e2,d2⟩:=frD b hb
  rw [e] at e2; cases e2
  obtain ⟨sl2,e3⟩:=up b _ e1 d2
  exact ⟨sl2,e3⟩
 have frH:∀ b∈frs X.stack,H' b=none:=fun b hb=>by
  obtain ⟨o,e,d⟩:=frD b hb
  exact F.un.free b o e (hstk b hb) (by simp)
 have ne:∀ b o,H' b=some o→b≠x:=fun b o e z=>by rw [z,F.fx] at e; cases e
 have okx:ObjOk X.prog X.w (upd H' x (.ext (XO x C))) h5 x (.ext (XO x C)):=⟨⟨oe,vs,he,hc.1,hd⟩,⟨oe,he⟩,fun h1 h2 ⟨o,vs,q,r⟩ k=>⟨o,vs,k o q,r⟩⟩
 refine I.call' (ch:=[]) F.os ⟨fun b o e n hb _=>?_,fun b o e n hb _=>?_,fun b o e n _=>?_,fun b o e _=>?_,fun b xs e=>?_,fun b o u e=>?_,fun b ps e=>?_⟩ (fun a o e=>?_) F.bare fun b z=>absurd z (by simp)
 · exact keepAll b o (F.un.keep b o e n hb (by simp)) hb (nxT b o e)
 · exact slots b o e n hb
 · have n1:=F.un.free b o e n (by simp)
   rw [ai fun z=>nxT b o e (by rw [z]; simp)]
   exact n1
 · by_cases hb:b∈frs X.stack
   · obtain ⟨sl,e1⟩:=slots b o e (hstk b hb) hb
     exact ⟨_,e1⟩
   · obtain ⟨o',e1⟩:=F.un.there b o e (by simp)
     exact ⟨o',keepAll b o' e1 hb (nxT b o e)⟩
 · have q:=F.un.tups b xs e
   rw [ai (ne b _ q)]; exact q
 · have q:=F.un.frzs b o u e
   rw [ai (ne b _ q)]; exact q
 · obtain ⟨m,q⟩:=F.un.tbls b ps e
   exact ⟨m,by rw [ai (ne b _ q)]; exact q⟩
 · by_cases ha:a=x
   · subst ha
     rw [ae] at e; cases e
     exact okx
   · rw [ai ha] at e
     refine (F.hok a o e).stay (fun b u hb q=>?_) (fun b q=>?_) fun b xs q=>?_
     · have hb':H' b≠none:=by
        rcases hb with rfl | hb
        · rw [e]; simp
        · rw [hb]; simp
       refine keepAll b u q (fun z=>hb' (frH b z)) fun z=>?_
       simp only [List.mem_cons,List.not_mem_nil,or_false] at z
       rcases z with rfl | rfl
       · exact hb' F.fx
       · exact hb' F.fT
     · rw [ai (ne b _ q)]; exact q
     · rw [ai (ne b _ q)]; exact q
theorem mU {M:Model} {A:Around} {E:Value→Shared→Prop} {i:Nat} {x:Str} {pos:Pos} {Q:Unit→Shared→Prop} (I:Inv X pins σ H s) (hN:X.N.Nodup) (hi:X.N[i]? =some x) (hk:X.env.kindOf x=some .local)
  (h:∀ s',Inv X pins (σ.set i none) H s'→Q () s'):wpAny M A (do bindName X.env x .none; unbindBehindTheSuite X.env x pos) Q E s:=by
 obtain ⟨m,hn,hl⟩:=id I.loc
 have hcls:(X.env.scope.kind==.class||(X.env.scope.kind==.module&&X.env.locals != X.env.globals))=false:=by rw [I.ok.kind]; rfl
 have hiσ:i < σ.length:=by rw [I.len]; exact (List.getElem?_eq_some_iff.mp hi).1
 have cne:=I.cne
 refine wpAny_nameGoes_keeps hk hn hcls fun h' v hn' hs=>?_
 obtain ⟨oL,_,_,hoL,_⟩:=id hn
 have tracked:HOk X.prog X.w H h':=fun b ob e=>by
  refine (I.hok b ob e).stay (fun c w' hc q=>(hs.2 c ?_).trans q) (fun _ q=>q) fun _ _ q=>q
  rintro rfl
  rcases hc with rfl | hc
  · rw [I.free] at e; cases e
  · rw [I.free] at hc; cases hc
 refine h _ ⟨I.ok,I.os,I.bare,⟨fun b o e n hb hx=>?_,fun b o e n hb hx=>?_,I.base.free,fun b o e hx=>?_,I.base.tups,I.base.frzs,I.base.tbls⟩,⟨_,hn',fun j y v' e1 e2 e3=>?_⟩,fun y c e=>?_,I.free,I.freeC,fun p hp=>?_,tracked,by simpa using I.len⟩
 · exact (hs.2 b (Nat.ne_of_lt (Nat.lt_of_lt_of_le (Heap.lt_size e) I.ok.above))).trans (I.base.keep b o e n hb hx)
 · obtain ⟨sl,e1⟩:=I.base.slot b o e n hb hx
   exact ⟨sl,(hs.2 b (Nat.ne_of_lt (Nat.lt_of_lt_of_le (Heap.lt_size e) I.ok.above))).trans e1⟩
 · obtain ⟨o',e1⟩:=I.base.there b o e hx
   exact ⟨o',(hs.2 b (Nat.ne_of_lt (Nat.lt_of_lt_of_le (Heap.lt_size e) I.ok.above))).trans e1⟩
 · by_cases hj:j=i
   · subst hj
     rw [List.getElem?_set_self hiσ] at e2
     cases e2
   · rw [List.getElem?_set_ne (Ne.symm hj)] at e2
     obtain ⟨u',r',q⟩:=hl j y v' e1 e2 e3
     refine ⟨u',r',?_⟩
     rcases q with ⟨k,e⟩ | ⟨k,c,e,z⟩
     · refine .inl ⟨k,?_⟩
       have:y≠x:=fun e=>hj (nU hN e1 (e ▸ hi))
       simp [this,e]
     · exact .inr ⟨k,c,e,z.sameBut hs (cne y c e)⟩
 · obtain ⟨w',z⟩:=I.cell y c e
   exact ⟨w',z.sameBut hs (cne y c e)⟩
 · obtain ⟨e,n,ne,nf,d⟩:=I.pin p hp
   exact ⟨(hs.2 p.1 ne).trans e,n,ne,nf,d⟩
end
abbrev Cx.caught (X:Cx) (x:Addr):Cx:={ X with A:=X.A.mark (some (.ref x)),calm:=false,xe:=fun _ _=>False }
section
variable {X:Cx} {pins:List (Addr × Obj)} {σ:St} {H:Hp} {s:Shared} {x:Addr}
theorem Cx.Ok.caught (ok:X.Ok):(X.caught x).Ok:=
 ⟨ok.mod,ok.kind,ok.glob,ok.blt,ok.above,ok.inj,ok.has,ok.cab,(fun z=>nomatch z),ok.frames,ok.stk,ok.exf,ok.bs,ok.bsz,ok.noex,ok.exfs,ok.funs,ok.frf⟩
theorem Inv.caught (I:Inv X pins σ H s):Inv (X.caught x) pins σ H s:=⟨I.ok.caught,I.os,I.bare,I.base,I.loc,I.cell,I.free,I.freeC,I.pin,I.hok,I.len⟩
theorem Inv.uncaught (ok:X.Ok) (I:Inv (X.caught x) pins σ H s):Inv X pins σ H s:=⟨ok,I.os,I.bare,I.base,I.loc,I.cell,I.free,I.freeC,I.pin,I.hok,I.len⟩
end
def Came (X:Cx) (pins:List (Addr × Obj)) (σ:St) (E:XK) (e:Value) (s':Shared):Prop:=∃ H1 s1,Inv X pins σ H1 s1∧CX1 X.prog X.w X.stack H1 s1 E e s'
section
variable {X:Cx} {k:Nat} {f:Addr} {fd:FuncData} {ps:List Str} {sp:Sp} {x:Str} {p pos:Pos} {e:Expr} {es:List Expr} {t:TA}
theorem yw {pins:List (Addr × Obj)} {s:Shared} {σ:St} {H:Hp} {Q:VK} (E:XK) (hnx:∀ e s,X.xe e s→False) (F:FnOk X.prog X.w X.K X.mg X.base (CX1 X.prog X.w) k f fd ps sp) (hr:Room k X.A) (hg:Gl X x) (hm:X.mg x=some (.ref f)) (hk:PySem.W.keepIn X.K (.ref f)=true) (hb:Binds X.K fd ps [])
  (ha:PA X (e::es) t) (I:Inv X pins σ H s) (h:t σ H fun vs H1=>sp vs H1 Q E) (hdb:(x==("__debug__":Str))=false:=by decide) (he:starEach (e::es) X.env=(false,eval e X.env)::starEach es X.env:=by rfl) (hpl:(backTo pos (starEach es X.env)).any (·.1)=false:=by rfl):
  wpAny (model X.prog X.w) X.A (eval (.Call (.Name x p) (e::es) [] pos) X.env) (EP X pins σ Q) (Came X pins σ E) s:=by
 refine wpAny_Call_Name_kw (jO I hg hm ?_ hdb)
 refine PySem.W.callWith_K (h₀:=X.base) I.ok.mod.kin hk (wpAny_mono (ha pos pins s σ H _ I h) (fun us s1 ⟨vs,H1,I1,r,q⟩=>⟨I1.kIn,?_⟩) fun e s z=>(hnx e s z).elim) he hpl
 have r2:Vals vs (us++[]):=by simpa using r
 have hl:(us++[]).length=ps.length:=by rw [← r2.length]; exact F.len _ _ _ _ q
 refine wpAny_call (codeAny_mono (F.run X.A X.stack s1 H1 ⟨us,[]⟩ (us++[]) vs Q E hr I1.env0 (hb s1 us I1.kIn hl) r2 q) fun r s' hq=>?_)
 cases r with
 | error e=>exact ⟨H1,s1,I1,hq⟩
 | ok fl=>
  cases fl with
  | ret u=>exact I1.after hq
  | next=>exact False.elim hq
  | brk=>exact False.elim hq
  | cont=>exact False.elim hq
def wP (K:PySem.W.Frag) (cv:Value) (i:Nat) (E:XK) (th:TS):TS:=fun D σ _=>∀ C H2,E (.ref C) none H2→PySem.W.exmOne K (.ref C) cv=some true∧∀ x,H2 x=none→
 th { nx:=fun σ' H'=>D.nx (σ'.set i none) H',rt:=D.rt,bk:=fun σ' H'=>D.bk (σ'.set i none) H',ct:=fun σ' H'=>D.ct (σ'.set i none) H' } (σ.set i (some (.ref x))) (upd H2 x (.ext (XO x C)))
theorem yx {M:Model} {a C:Addr} {h:Heap} (z:XO a C h):PySem.W.Looks M h (typeOf (.ref a)) (.ref C):=by
 obtain ⟨o,vs,hx,hc,_⟩:=z
 intro A Q E s k q
 unfold typeOf
 refine wpAny_bind (wpAny_loadPart (k _ _ hx) ?_)
 rw [hc]
 exact wpAny_pure q
theorem xH {pins:List (Addr × Obj)} {s':Shared} {σ:St} {H:Hp} {D:Ends} {E:XK} {i:Nat} {n cn:Str} {cv e:Value} {np hpos:Pos} {b₀:Stmt} {suite:List Stmt} {th:TS} (hN:X.N.Nodup) (hi:X.N[i]? =some n) (hkn:X.env.kindOf n=some .local) (hg:Gl X cn) (hm:X.mg cn=some cv)
  (hst:X.stack=X.env::X.outer) (hf:X.env.frame=some X.env.locals) (hs:∀ x,PSs (X.caught x) (b₀::suite) th) (hc:Came X pins σ E e s') (h:wP X.K cv i E th D σ H) (hdb:(cn==("__debug__":Str))=false:=by decide):
  wpAny (model X.prog X.w) X.A (noteFrame e X.env) (fun _ s₂=>wpAny (model X.prog X.w) X.A (setFlight e none) (fun _ s₃=>wpAny (model X.prog X.w) X.A (handleBy e X.env [.ExceptHandler (some (.Name cn np)) (some n) (b₀::suite) hpos]) (SP X pins D) X.xe s₃) X.xe s₂) X.xe s':=by
 obtain ⟨H1,s1,I,x,T,C,H',rfl,F,q⟩:=hc
 obtain ⟨hC,hth⟩:=h C H' q
 obtain ⟨oe,vs,oT,ts,a0,he,hcl,h0,hd,h1,hTx,hT,hdT,h3⟩:=F.tr
 have ff:s'.heap.FunFrames X.base X.stack:=qm I.stack (fun b hb=>⟨hb,I.stkFree b hb⟩) F.un
 have fl:Heap.FlyingW (PySem.W.hideAll s'.heap (frs X.stack++[x,T])) X.stack x (.ref C) a0 s'.heap:=
  ⟨fun b o e=>PySem.W.of_hideAll _ e,PySem.W.hideAll_none _ (by simp),lF ff fun b hb=>List.mem_append_left _ hb,oe,vs,T,oT,ts,he,⟨hcl,h0⟩,hd,h1,PySem.W.hideAll_none _ (by simp),hTx,hT,hdT,h3⟩
 have fl':=fl
 rw [hst] at fl'
 have hfr:X.A.frames=some (X.env::X.outer):=by rw [I.ok.frames,hst]
 refine wpAny_looks_onW hfr hf fl' fun h4 held up4=>?_
 refine wpAny_landsW held fun h5 fl5 up5=>?_
 have I5:=wO (a0:=a0) (h5:=h5) I F (by rw [hst]; exact fl5) (up4.trans up5)
 refine wpAny_handleBy_cons (codeAny_handlers_test (jO (X:=X.caught x) I5.caught hg hm ?_ hdb)) (by intro q; cases q)
 have hx5:XO x C h5:=(I5.hok x _ ae).1
 refine (PySem.W.exm_one (M:=model X.prog X.w) (h:=h5) I5.kIn (yx hx5) hC).here ?_
 refine codeAny_handlers_suite_as ?_
 refine lands_againW fl5 fun h6 fl6 up6=>?_
 have I6:=wO (a0:=a0) (h5:=h6) I F (by rw [hst]; exact fl6) ((up4.trans up5).trans up6)
 refine j3 (X:=X.caught x) (v:=.ref x) I6.caught hN hi (.inl hkn) rfl (fun s7 I7=>?_) (.inr hkn)
 refine wpAny_mono (hs x pins s7 _ _ _ I7 (hth x F.fx)) (fun fw s8 h8=>?_) fun _ _ z=>z.elim
 cases fw with
 | next=>obtain ⟨σ',H9,I9,q9⟩:=h8; exact mU (I9.uncaught I.ok) hN hi hkn fun s' I'=>⟨_,H9,I',q9⟩
 | brk=>obtain ⟨σ',H9,I9,q9⟩:=h8; exact mU (I9.uncaught I.ok) hN hi hkn fun s' I'=>⟨_,H9,I',q9⟩
 | cont=>obtain ⟨σ',H9,I9,q9⟩:=h8; exact mU (I9.uncaught I.ok) hN hi hkn fun s' I'=>⟨_,H9,I',q9⟩
 | ret u=>obtain ⟨v,σ',H9,I9,r9,q9⟩:=h8; exact mU (I9.uncaught I.ok) hN hi hkn fun s' I'=>⟨v,_,H9,I',r9,q9⟩
def tTryE (K:PySem.W.Frag) (sp:Sp) (t:TA) (cv:Value) (i:Nat) (th:TS):TS:=fun D σ H=>∃ E:XK,(t σ H fun vs H1=>sp vs H1 (fun _ H2=>D.nx σ H2) E)∧wP K cv i E th D σ H
theorem yy {i:Nat} {n cn:Str} {cv:Value} {np hpos epos tpos:Pos} {b₀:Stmt} {suite:List Stmt} {th:TS} (hnx:∀ e s,X.xe e s→False) (F:FnOk X.prog X.w X.K X.mg X.base (CX1 X.prog X.w) k f fd ps sp) (hr:Room k X.A) (hgf:Gl X x) (hmf:X.mg x=some (.ref f)) (hk:PySem.W.keepIn X.K (.ref f)=true) (hb:Binds X.K fd ps [])
  (ha:PA X (e::es) t) (hN:X.N.Nodup) (hi:X.N[i]? =some n) (hkn:X.env.kindOf n=some .local) (hg:Gl X cn) (hm:X.mg cn=some cv)
  (hst:X.stack=X.env::X.outer) (hf:X.env.frame=some X.env.locals) (hs:∀ x,PSs (X.caught x) (b₀::suite) th) (hdb:(x==("__debug__":Str))=false:=by decide) (hdc:(cn==("__debug__":Str))=false:=by decide)
  (he:starEach (e::es) X.env=(false,eval e X.env)::starEach es X.env:=by rfl) (hpl:(backTo pos (starEach es X.env)).any (·.1)=false:=by rfl) (hsw:swapsWith (.Call (.Name x p) (e::es) [] pos) none epos.line X.env=pure false:=by rfl):
  PS X (.Try [.Expr (.Call (.Name x p) (e::es) [] pos) epos] [.ExceptHandler (some (.Name cn np)) (some n) (b₀::suite) hpos] [] [] tpos) (tTryE X.K sp t cv i th):=by
 intro pins s σ H D I h
 obtain ⟨E,h1,h2⟩:=h
 refine wpAny_Try_except (wpAny_execs_cons (wpAny_Expr_any (wpAny_mono (yw E hnx F hr hgf hmf hk hb ha I h1 hdb he hpl) (fun v s1 ⟨y,H1,I1,r1,q1⟩=>?_) fun e s' hc=>?_) I.quiet hsw))
 · exact wpAny_execs_nil (wpAny_execs_nil ⟨σ,H1,I1,q1⟩)
 · exact xH hN hi hkn hg hm hst hf hs hc h2 hdc
end
end L2
namespace L2
open PySem PySem.Spec PyProof.Rows
def lg (es:Array DictEntry):Bool:=es.toList.all oh&&(nsFind es "__init__").isNone
theorem rC {K:PySem.W.Frag} {N:Addr} {c:Value} {d:Option Addr} {es:Array DictEntry} {n:Nat} {sl:Array (Option Value)} (l:K.lookup N=some ⟨c,d,.dict es n,sl⟩) (h:lg es=true):gL K N=true:=by
 unfold gL
 rw [l]
 exact h
structure EA where
 ClueError:Addr
 NoFloor:Addr
 NoFilling:Addr
 NoRule:Addr
 NoPuzzle:Addr
 TooMany:Addr
 NotOne:Addr
 NoMove:Addr
 NoText:Addr
 NoName:Addr
 NoRow:Addr
 BadThought:Addr
abbrev Glb (K:PySem.W.Frag) (x:Str) (C:Addr):Prop:=PySem.W.nsIn K mainGlobals x=some (some (.ref C))
theorem Glb.eq {K:PySem.W.Frag} {x:Str} {C D:Addr} (h:Glb K x C) (h':Glb K x D):C=D:=by
 have:=h.symm.trans h'
 cases this
 rfl
structure lG (K:PySem.W.Frag) (a:EA) (x:Str) (C:Addr) (os:List Addr):Prop where
 g:Glb K x C
 xc:XC K C a.ClueError
 xis:XIs K C
 ve:PySem.W.kitOne K (.ref C) (.type "ValueError")=some true
 ex:PySem.W.exmOne K (.ref C) (.ref a.ClueError)=some true
 no:∀ y∈os,PySem.W.kitOne K (.ref C) (.ref y)=some false
theorem xI {K:PySem.W.Frag} {C:Addr}:PySem.W.kitOne K (.ref C) (.ref C)=some true:=by
 unfold PySem.W.kitOne
 rw [if_pos (by simp)]
theorem x3 {K:PySem.W.Frag} {x C y:Addr} {b:Bool} {H:Hp} {Q:VK} (Z:XIs K C) (hx:H x=some (.ext (XO x C))) (hk:PySem.W.kitOne K (.ref C) (.ref y)=some b) (h:Q (.bl b) H):kIsX K [.ref x,.ref y] H Q:=⟨x,C,_,_,b,rfl,hx,Z,rfl,hk,h⟩
theorem zu {K:PySem.W.Frag} {x C:Addr} {n:String} {b:Bool} {H:Hp} {Q:VK} (Z:XIs K C) (hx:H x=some (.ext (XO x C))) (hk:PySem.W.kitOne K (.ref C) (.type n)=some b) (h:Q (.bl b) H):kIsX K [.ref x,.ty n] H Q:=⟨x,C,_,_,b,rfl,hx,Z,rfl,hk,h⟩
theorem zZ {K:PySem.W.Frag} {C D:Addr} {nm q:Str} {N ND:Addr} {bs:List Value} {hdct:Bool} {sn:List Str} {sub:List Value} {ab:Bool} {col:Option Bool} {dd:Option Addr} {k0 k1 k2 k3 k5:Option Value} {c0:Value} {dD:Option Addr} {cd:ClassData} {sl:Array (Option Value)}
  {cN cE:Value} {dN dE:Option Addr} {es es':Array DictEntry} {n n':Nat} {sN sE:Array (Option Value)}
  (l1:K.lookup C=some (excClassObj nm q C N bs (.ref D::VE) hdct sn sub ab col dd k0 k1 k2 k3 k5 "ValueError.__new__")) (m1:K.lookup N=some ⟨cN,dN,.dict es n,sN⟩) (n1:lg es=true)
  (l2:K.lookup D=some ⟨c0,dD,.cls cd,sl⟩) (e2:cd.ns=ND) (m2:K.lookup ND=some ⟨cE,dE,.dict es' n',sE⟩) (n2:lg es'=true):XC K C D:=.mk' l1 (rC m1 n1) l2 (rC (by rw [e2]; exact m2) n2)
theorem rO:bootBuiltins "ValueError"=some (.type "ValueError"):=by decide+kernel
structure c6 (P:Program) (w:World) (K:PySem.W.Frag) (mg:Str→Option Value) (base:Heap) (k:Nat) (x:Str) (ps:List Str) (sp:Sp):Prop where
 ex:∃ (f:Addr) (fd:FuncData),FnOk P w K mg base (CX1 P w) k f fd ps sp∧mg x=some (.ref f)∧PySem.W.keepIn K (.ref f)=true∧Binds K fd ps []
theorem dG {X:Cx} {k n:Nat} {x:Str} {ps:List Str} {sp:Sp} {p pos:Pos} {e:Expr} {es:List Expr} {t:TA} {E:XK} (hE:gq (CX1 X.prog X.w) X E) (C:c6 X.prog X.w X.K X.mg X.base k x ps sp) (hr:Room n X.A) (hk:k≤n) (hg:Gl X x) (ha:PA X (e::es) t)
  (hdb:(x==("__debug__":Str))=false:=by decide) (he:starEach (e::es) X.env=(false,eval e X.env)::starEach es X.env:=by rfl) (hpl:(backTo pos (starEach es X.env)).any (·.1)=false:=by rfl):
  PE X (.Call (.Name x p) (e::es) [] pos) (tCall sp [] E t):=by
 obtain ⟨f,fd,F,hm,hkp,hb⟩:=C.ex
 exact qh F (hr.mono hk) hg hm hkp hb .nil hE ha hdb he hpl
section
variable {X:Cx} {k nn:Nat} {ps:List Str} {sp:Sp} {x:Str} {p pos:Pos} {e:Expr} {es:List Expr} {t:TA}
theorem yz {i:Nat} {n cn:Str} {cv:Value} {np hpos epos tpos:Pos} {b₀:Stmt} {suite:List Stmt} {th:TS} (hnx:∀ e s,X.xe e s→False) (C:c6 X.prog X.w X.K X.mg X.base k x ps sp) (hr:Room nn X.A) (hk:k≤nn) (hgf:Gl X x)
  (ha:PA X (e::es) t) (hN:X.N.Nodup) (hi:X.N[i]? =some n) (hkn:X.env.kindOf n=some .local) (hg:Gl X cn) (hm:X.mg cn=some cv)
  (hst:X.stack=X.env::X.outer) (hf:X.env.frame=some X.env.locals) (hs:∀ x,PSs (X.caught x) (b₀::suite) th) (hdb:(x==("__debug__":Str))=false:=by decide) (hdc:(cn==("__debug__":Str))=false:=by decide)
  (he:starEach (e::es) X.env=(false,eval e X.env)::starEach es X.env:=by rfl) (hpl:(backTo pos (starEach es X.env)).any (·.1)=false:=by rfl) (hsw:swapsWith (.Call (.Name x p) (e::es) [] pos) none epos.line X.env=pure false:=by rfl):
  PS X (.Try [.Expr (.Call (.Name x p) (e::es) [] pos) epos] [.ExceptHandler (some (.Name cn np)) (some n) (b₀::suite) hpos] [] [] tpos) (tTryE X.K sp t cv i th):=by
 obtain ⟨f,fd,F,hm',hkp,hb⟩:=C.ex
 exact yy hnx F (hr.mono hk) hgf hm' hkp hb ha hN hi hkn hg hm hst hf hs hdb hdc he hpl hsw
end
end L2
namespace L2
open PySem PySem.Spec PyProof.Rows
def cMulB:R2
 | .int i,.int j,H,Q=>IntMulOk i j∧Q (.int (i*j)) H
 | _,_,_,_=>False
end L2
namespace Att
open PySem PySem.W PySem.Calls PyProof.Rows
end Att
namespace L2
open PySem PySem.Spec PyProof.Rows
section
variable {K:PySem.W.Frag} {H:Hp} {Q:VK} {D:Ends} {σ:St}
theorem Ao {i j:Int}:cMulB (.int i) (.int j) H Q=(IntMulOk i j∧Q (.int (i*j)) H):=rfl
theorem mV {i j:Int}:cPow (.int i) (.int j) H Q=(CPow i j∧Q (.int (i^j.toNat)) H):=rfl
theorem mW {E:XK} {C:Addr} {t:TA}:mf E C t D σ H=t σ H fun vs H1=>vs.length≤sizeLine∧E (.ref C) none H1:=rfl
theorem z4 {p q:Addr} {xs ys:List Int} (hp:H p=some (.tup (xs.map V.int))) (hq:H q=some (.tup (ys.map V.int))) (h:Q (.bl (!decide (xs=ys))) H):cNe K (.ref p) (.ref q) H Q:=by
 show rNeD K (.ref p) (.ref q) H Q
 refine ⟨.tuple (xs.map PyData.int),.tuple (ys.map PyData.int),.tup (SqT.of hp) (.ints xs),.tup (SqT.of hq) (.ints ys),l9 xs,l9 ys,?_⟩
 rw [PyData.eqv,nY]
 exact h
theorem x4 {p:Addr} {bs:List Bool} (hp:H p=some (.lst (bs.map V.bl))) (h:Q (.bl (bs.any id)) H):kAny [.ref p] H Q:=by
 show bnd (unL (H p)) _
 rw [hp]
 exact b3 (a:=bs.map V.bl) rfl ⟨bs,rfl,h⟩
theorem i8 {p q:Addr} {xs ys:List V} (hp:H p=some (.lst xs)) (hq:H q=some (.lst ys)) (hn:xs.length+ys.length≤1000) (h:∀ r,H r=none→Q (.ref r) (upd H r (.lst (xs++ys)))):cAdd (.ref p) (.ref q) H Q:=by
 show bnd (unM (H p)) _
 rw [hp]
 refine b3 (a:=xs) rfl ?_
 rw [hq]
 exact b3 (a:=ys) rfl ⟨Nat.le_of_lt (aR hn),h⟩
end
end L2
namespace L2
open PySem PySem.Spec PyProof.Rows
inductive RK where
 | Rule | Unlike | Sum | Rising | Seen | Count | Joined | NoSquare | Ring
 deriving DecidableEq
structure RCl (ι:Type) where
 A:ι→Addr
 ok:ι→Bool
section
variable {ι:Type}
def tFldK (c:RCl ι) (ta:TE) (f:Str):TE:=fun σ H Q=>ta σ H fun x H1=>∃ a k dx fs v,x=.ref a∧c.ok k=true∧H1 a=some (.ins (c.A k) dx fs)∧fs.lookup f=some v∧Q v H1
def sFldK (c:RCl ι) (ta tv:TE) (f:Str):TS:=fun D σ H=>tv σ H fun y H1=>ta σ H1 fun x H2=>∃ a k dx fs,x=.ref a∧c.ok k=true∧H2 a=some (.ins (c.A k) dx fs)∧fs.length < 1000∧
 D.nx σ (upd H2 a (.ins (c.A k) dx (putF f y fs)))
def be (c:RCl ι) (okm:ι→Bool) (m:Str) (sp:ι→Sp) (ta:TE) (t:TA):TE:=fun σ H Q=>ta σ H fun x H1=>∃ a k dx fs,x=.ref a∧okm k=true∧H1 a=some (.ins (c.A k) dx fs)∧fs.lookup m=none∧
 t σ H1 fun vs H2=>sp k (x::vs) H2 Q E0
structure FldK (K:PySem.W.Frag) (c:RCl ι) (f:Str):Prop where
 ex:∀ k,c.ok k=true→Cls K (c.A k)∧NoAttr K (c.A k) f
structure MCal (P:Program) (w:World) (K:PySem.W.Frag) (mg:Str→Option Value) (base:Heap) (c:RCl ι) (okm:ι→Bool) (k:Nat) (m:Str) (ps:List Str) (sp:ι→Sp):Prop where
 ex:∀ i,okm i=true→∃ (f:Addr) (fd:FuncData),Cls K (c.A i)∧Meth K (c.A i) m f∧FnOk P w K mg base CX0 k f fd ps (sp i)∧Binds K fd ps []
structure KCal (P:Program) (w:World) (K:PySem.W.Frag) (mg:Str→Option Value) (base:Heap) (k:Nat) (x:Str) (C:Addr) (ps:List Str) (sp:Sp):Prop where
 ex:∃ (f:Addr) (fd:FuncData),Mk K C f∧FnOk P w K mg base CX0 k f fd ps sp∧mg x=some (.ref C)∧Binds K fd ps []
end
section
variable {ι:Type} {X:Cx} {c:RCl ι} {o e value:Expr} {es:List Expr} {f x m:Str} {p pos pos' apos:Pos} {ta tv:TE} {t:TA} {okm:ι→Bool} {k n:Nat} {ps:List Str} {sp:ι→Sp} {sp1:Sp} {C:Addr}
theorem c7 (he:PE X e ta) (F:FldK X.K c f) (hb:attributeBase e f X.env (eval e X.env)=eval e X.env:=by rfl):PE X (.Attribute e f pos) (tFldK c ta f):=by
 intro pins s σ H Q I h
 refine ye hb (thn (he pins s σ H _ I h) fun u s1 ⟨x,H1,I1,rx,a,k,dx,fs,v,ex,hk,ea,l,q⟩=>?_)
 subst ex
 obtain rfl:u=Value.ref a:=rx
 obtain ⟨cl,na⟩:=F.ex k hk
 exact vb I1 ea cl na l fun u' s2 I2 ru=>⟨v,H1,I2,ru,q⟩
theorem gm (ha:PE X o ta) (hv:PE X value tv) (F:FldK X.K c f) (hs:swapsWith value (some (.Attribute o f pos')) pos.line X.env=pure false:=by rfl):PS X (.Assign [.Attribute o f pos'] value pos) (sFldK c ta tv f):=by
 intro pins s σ H D I h
 refine plainObj_wpAny_Assign_Attribute (thn (hv pins s σ H _ I h) fun u s1 ⟨y,H1,I1,ry,q⟩=>thn (ha pins s1 σ H1 _ I1 q) fun ov s2 ⟨x,H2,I2,rx,a,k,dx,fs,ex,hk,ea,l,q2⟩=>?_) hs
 subst ex
 obtain rfl:ov=Value.ref a:=rx
 obtain ⟨cl,na⟩:=F.ex k hk
 exact vd I2 ea cl na l ry fun s3 I3=>⟨σ,_,I3,q2⟩
theorem aT {pl:Sem Bool} (M:MCal X.prog X.w X.K X.mg X.base c okm k m ps sp) (hr:Room n X.A) (hk:k≤n) (he:PE X o ta)
  (ht:eval (.Call (.Attribute o m apos) [] [] pos) X.env=(do
   let ov ← eval o X.env
   standAt apos.atName
   let (f,first) ← holding [ov] (getMethod ov m pl)
   callWith pos f first (backTo pos (starEach [] X.env)) (backToKw pos (keywordEach [] X.env))):=by rfl):
  PE X (.Call (.Attribute o m apos) [] [] pos) (be c okm m sp ta tNil):=by
 intro pins s σ H Q I h
 refine PySem.W.methodCall_KW (pl:=pl) (thn (he pins s σ H _ I h) fun u s1 ⟨x,H1,I1,rx,a,i,dx,fs,ex,hi,ea,l,q⟩=>?_) ht
 subst ex
 obtain rfl:u=Value.ref a:=rx
 obtain ⟨f,fd,cl,hm,F,hb⟩:=M.ex i hi
 refine vc I1 ea cl hm l ?_
 exact PySem.W.callWith_K0 (first:=[.ref a]) I1.kIn hm.kp (wm (us:=[.ref a]) (vs:=[.ref a]) F (hr.mono hk) hb .nil vi I1 (.cons rfl .nil) q)
theorem iV (M:KCal X.prog X.w X.K X.mg X.base k x C ps sp1) (hr:Room n X.A) (hk:k+1≤n) (hg:Gl X x) (ha:PA X (e::es) t)
  (hdb:(x==("__debug__":Str))=false:=by decide) (he:starEach (e::es) X.env=(false,eval e X.env)::starEach es X.env:=by rfl) (hpl:(backTo pos (starEach es X.env)).any (·.1)=false:=by rfl):
  PE X (.Call (.Name x p) (e::es) [] pos) (tMake C sp1 [] E0 t):=by
 obtain ⟨f,fd,mk,F,hm,hb⟩:=M.ex
 exact yf mk F (hr.mono hk) hg hm hb .nil vi ha hdb he hpl
end
def j8 (K:PySem.W.Frag):List V→Hp→VK→Prop
 | [.ref p],H,Q=>bnd (unM (H p)) fun ys=>∀ l,H l=none→Q (.ref l) (upd H l (.tup ys))
 | _,_,_=>False
def tInG (ws:List Str) (neg:Bool) (te:TE):TE:=fun σ H Q=>te σ H fun x H1=>∃ z,x=.str z∧Q (.bl (if neg then !decide (z∈ws) else decide (z∈ws))) H1
structure GTup (K:PySem.W.Frag) (mg:Str→Option Value) (x:Str) (ws:List Str):Prop where
 ex:∃ (p:Addr) (o:Obj) (its:Array Value) (n:Nat),mg x=some (.ref p)∧K.lookup p=some o∧o.cls=.type "tuple"∧o.data=.seq its n∧its.size≤sizeLine∧Vals (ws.map V.str) its.toList
theorem kr:∀ ns:List Str,(ns.map V.str).all flatV=true
 | []=>rfl
 | n::r=>by rw [List.map_cons,List.all_cons,kr r]; rfl
theorem oj (i:Str):∀ ns:List Str,inV (.str i) (ns.map V.str)=decide (i∈ns)
 | []=>by simp [inV]
 | n::r=>by
  have ih:=oj i r
  unfold inV at ih ⊢
  rw [List.map_cons,List.any_cons,ih]
  show ((n==i)||decide (i∈r))=decide (i∈n::r)
  rw [Bool.eq_iff_iff,Bool.or_eq_true,beq_iff_eq,decide_eq_true_eq,decide_eq_true_eq,List.mem_cons]
  exact ⟨fun h=>h.elim (fun e=>.inl e.symm) .inr,fun h=>h.elim (fun e=>.inl e.symm) .inr⟩
section
variable {X:Cx} {a:Expr} {ta:TE} {pos p:Pos} {x:Str} {ws:List Str}
theorem nQ:CallR X (.type "tuple") (j8 X.K):=by
 intro pins s σ H xs us Q I r h
 unfold j8 at h
 split at h
 · obtain ⟨ys,e,q⟩:=aV h
   exact rL pins s σ H _ us Q I r ⟨_,ys,rfl,.inl ⟨SqL.of (fC e),q⟩⟩
 · exact h.elim
theorem zv {ws:List Str} {q:Addr} (hq:∃ (o:Obj) (its:Array Value) (n:Nat),X.K.lookup q=some o∧o.cls=.type "tuple"∧o.data=.seq its n∧its.size≤sizeLine∧Vals (ws.map V.str) its.toList):
  OpR X (compareOp .In) (fun x y H Q=>∃ z,x=.str z∧y=.ref q∧Q (.bl (decide (z∈ws))) H):=by
 intro pins s σ H x y v u Q I rx ry h
 obtain ⟨z,rfl,rfl,h⟩:=h
 refine rj pins s σ H _ _ v u Q I rx ry ⟨q,ws.map V.str,rfl,.inr (.inr hq),rfl,kr ws,?_⟩
 rw [oj]
 exact h
theorem yA {ws:List Str} {q:Addr} (hq:∃ (o:Obj) (its:Array Value) (n:Nat),X.K.lookup q=some o∧o.cls=.type "tuple"∧o.data=.seq its n∧its.size≤sizeLine∧Vals (ws.map V.str) its.toList):
  OpR X (compareOp .NotIn) (fun x y H Q=>∃ z,x=.str z∧y=.ref q∧Q (.bl (!decide (z∈ws))) H):=by
 intro pins s σ H x y v u Q I rx ry h
 obtain ⟨z,rfl,rfl,h⟩:=h
 refine sL pins s σ H _ _ v u Q I rx ry ⟨q,ws.map V.str,rfl,.inr (.inr hq),rfl,kr ws,?_⟩
 rw [oj]
 exact h
end
section
variable {ι:Type} {c:RCl ι} {ta tv:TE} {t:TA} {f m:Str} {σ:St} {H:Hp} {Q:VK} {D:Ends} {okm:ι→Bool} {sp:ι→Sp} {sp1:Sp} {C:Addr} {K:PySem.W.Frag}
theorem lh:tMake C sp1 [] E0 t σ H Q=t σ H fun vs H1=>∀ x dx,H1 x=none→H1 dx=none→dx≠x→sp1 (.ref x::(vs++[])) (upd (upd H1 dx (.own x)) x (.ins C dx [])) (fun v H2=>v=.non∧Q (.ref x) H2) E0:=rfl
theorem ku {ws:List Str} {neg:Bool} {te:TE}:tInG ws neg te σ H Q=te σ H fun x H1=>∃ z,x=.str z∧Q (.bl (if neg then !decide (z∈ws) else decide (z∈ws))) H1:=rfl
theorem yB {p:Addr} {xs:List V} (hp:H p=some (.lst xs)) (h:∀ l,H l=none→Q (.ref l) (upd H l (.tup xs))):j8 K [.ref p] H Q:=by
 unfold j8
 dsimp only
 rw [hp]
 exact h
end
end L2
namespace L2
open PySem PySem.Spec PyProof.Rows
def cntD (ns:List Int):Nat:=(firstMet (fun i=>ns.getD i 0) ns.length).length
def qo (te:TE):TE:=fun σ H Q=>te σ H fun x H1=>∃ p ns,x=.ref p∧H1 p=some (.lst (ns.map V.int))∧ns.length≤900∧Q (.int (cntD ns:Nat)) H1
theorem iD {te:TE} {σ:St} {H:Hp} {Q:VK}:qo te σ H Q=te σ H fun x H1=>∃ p ns,x=.ref p∧H1 p=some (.lst (ns.map V.int))∧ns.length≤900∧Q (.int (cntD ns:Nat)) H1:=rfl
theorem yC:bootBuiltins "set"=some (.type "set"):=by decide+kernel
theorem wQ {X:Cx} {e:Expr} {te:TE} {p p2 pos pos2:Pos} (hc:X.calm=true) (hgl:Gl X "len") (hgs:Gl X "set") (hl:X.mg "len"=none) (hs:X.mg "set"=none) (he:PE X e te)
  (hs1:starEach [.Call (.Name "set" p2) [e] [] pos2] X.env=[(false,eval (.Call (.Name "set" p2) [e] [] pos2) X.env)]:=by rfl) (hs2:starEach [e] X.env=[(false,eval e X.env)]:=by rfl):
  PE X (.Call (.Name "len" p) [.Call (.Name "set" p2) [e] [] pos2] [] pos) (qo te):=by
 intro pins s σ H Q I h
 refine wpAny_Call_Name_kw (cZ I hgl hl bS ?_ (by decide) (by decide))
 refine PyProof.Rows.callWith_builtin1 ?_ hs1 rfl
 rw [hs1]
 show wpAny _ _ (spliced [(false,eval (.Call (.Name "set" p2) [e] [] pos2) X.env)]) _ _ s
 refine Calls.spliced_cons ?_
 refine wpAny_Call_Name_kw (cZ I hgs hs yC ?_ (by decide) (by decide))
 refine PyProof.Rows.callWith_type1 ?_ hs2 rfl
 rw [hs2]
 show wpAny _ _ (spliced [(false,eval e X.env)]) _ _ s
 refine Calls.spliced_cons (thn (he pins s σ H _ I h) fun u s1 ⟨x,H1,I1,r1,q1⟩=>?_)
 refine Calls.spliced_nil ?_
 obtain ⟨l,ns,rfl,hys,hn,q⟩:=q1
 cases r1
 obtain ⟨its,n,rv,ho,hz⟩:=I1.lst hys
 have hL:s1.heap.IsList l its.toArray:=⟨_,ho,rfl,n,rfl⟩
 have hI:IntsAre its ns:=o8 rv
 have hlen:=rv.length
 rw [List.length_map] at hlen
 refine call_set_list (ns:=ns) (I.ok.hd hc) hL (by simpa using hI) (by rw [List.size_toArray,← hlen]; exact Nat.lt_of_le_of_lt (Nat.succ_le_succ hn) (by decide)) fun h' tk hS old=>?_
 refine Calls.spliced_nil ?_
 obtain ⟨o,es,ep,t,h1,h2,h3,h4,h5,h6,h7,h8⟩:=hS
 have hb:(firstMet (fun i=>ns.getD i 0) its.toArray.size).length≤900:=Nat.le_trans (firstMet_length_le _ _) (by rw [List.size_toArray,← hlen]; exact hn)
 refine call_len_set h1 h2 h3 h7 (by omega) ?_
 have I2:Inv X pins σ H1 { s1 with heap:=h',toks:=tk }:=I1.kept fun b o' e=>old b o' (Heap.lt_size e) e
 refine ⟨.int _,H1,I2.tok _,⟨_,rfl⟩,?_⟩
 rw [h8,List.size_toArray,← hlen]
 exact q
def fJ:V→List V→Hp→VK→Prop
 | .str sep,[.ref p],H,Q=>bnd (unS (H p)) fun ys=>∃ ts:List Str,ys=ts.map V.str∧JoinOk sep ts=true∧Q (.str (Txt.join sep ts)) H
 | _,_,_,_=>False
theorem kx {X:Cx}:MtR X "str.join" fJ:=by
 intro pins s σ H x vs v us Q I rx rv h
 unfold fJ at h
 split at h
 · rename_i sep p
   obtain ⟨ys,e,ts,rfl,hok,q⟩:=aV h
   rcases l8 (K:=X.K) e with hq | hq
   · obtain ⟨t,rfl⟩:=rx
     obtain ⟨u,rfl,ru⟩:=cR rv
     cases ru
     obtain ⟨its,rvv,pl,hz⟩:=I.list hq
     obtain ⟨l,rfl,hl⟩:=qk rvv
     exact SC.join pl.isList hl hok fun t' k=>⟨.str _,H,I.tok k,⟨t',rfl⟩,q⟩
   · obtain ⟨t,rfl⟩:=rx
     obtain ⟨u,rfl,ru⟩:=cR rv
     cases ru
     obtain ⟨its,rvv,pl,hz⟩:=I.tuple hq
     obtain ⟨l,rfl,hl⟩:=qk rvv
     subst hl
     obtain ⟨o,h1,h2,n,h3⟩:=pl
     have hok':=hok
     unfold JoinOk at hok'
     rw [Bool.not_eq_true'] at hok'
     exact call_meets F.slot_str_join (typeIs_str _ _ _) F.entry_str_join (F.args_str_join_2 _ _) (meets_str_join_tuple sep t p l hok') ⟨⟨o,n,h1,h2,h3⟩,post_join l ⟨joinFit_length hok',fun t' k=>⟨.str _,H,I.tok k,⟨t',rfl⟩,q⟩⟩⟩
 · exact h.elim
end L2
namespace L2
open PySem PySem.Spec PyProof.Rows
section
variable {X:Cx} {e:Expr} {te:TE} {p2 p3 p4 pos:Pos} {z0:Nat}
def mh:V→List V→Hp→VK→Prop
 | .ref l,[.int i],H,Q=>bnd (unM (H l)) fun xs=>0≤i∧i < xs.length∧bnd (xs[i.toNat]?) fun y=>Q y (upd H l (.lst (xs.eraseIdx i.toNat)))
 | _,_,_,_=>False
theorem seqIx {i:Int} {n:Nat} (h0:0≤i) (h1:i < n):seqIndex? i n=some i.toNat:=by
 obtain ⟨k,rfl⟩:=Int.eq_ofNat_of_zero_le h0
 have hk:k < n:=by omega
 unfold seqIndex?
 have hn:¬ ((k:Int) < 0):=by omega
 simp [hk,hn]
theorem rD:MtR X "list.pop" mh:=by
 intro pins s σ H x vs v us Q I rx rv h
 unfold mh at h
 split at h
 · obtain ⟨xs,e,h0,h1,h⟩:=aV h
   obtain ⟨y,ey,q⟩:=aV h
   have hz:xs.length≤sizeLine:=(I.lstM (fC e)).1
   have hs:(sizeLine:Int) < 2^63:=by decide
   exact xu pins s σ H _ _ v us Q I rx rv ⟨_,xs,_,_,y,rfl,rfl,fC e,by omega,by omega,seqIx h0 h1,ey,q⟩
 · exact h.elim
def tRevL (te:TE):TE:=fun σ H Q=>te σ H fun x H1=>∃ p xs,x=.ref p∧H1 p=some (.lst xs)∧∀ l,H1 l=none→Q (.ref l) (upd H1 l (.lst xs.reverse))
end
section
variable {σ:St} {H:Hp} {Q:VK} {te:TE}
theorem mX {i j:Int} {H:Hp} {Q:VK}:kMax [.int i,.int j] H Q=Q (.int (if j > i then j else i)) H:=rfl
theorem li:tRevL te σ H Q=te σ H fun x H1=>∃ p xs,x=.ref p∧H1 p=some (.lst xs)∧∀ l,H1 l=none→Q (.ref l) (upd H1 l (.lst xs.reverse)):=rfl
theorem uS {l:Addr} {i:Int} {xs:List V} {y:V} (hl:H l=some (.lst xs)) (h0:0≤i) (h1:i < xs.length) (ey:xs[i.toNat]? =some y) (q:Q y (upd H l (.lst (xs.eraseIdx i.toNat)))):mh (.ref l) [.int i] H Q:=by
 show bnd (unM (H l)) _
 rw [hl]
 exact b3 (a:=xs) rfl ⟨h0,h1,b3 ey q⟩
end
end L2
namespace L2
open PySem PySem.Spec PyProof.Rows
theorem vz:typeLookup (.type "str") (Str.ofString "__int__")=pure none:=by rw [typeLookup_type,builtinLookup_eq_fast]; kernel_rfl
theorem tI:typeLookup (.type "str") (Str.ofString "__index__")=pure none:=by rw [typeLookup_type,builtinLookup_eq_fast]; kernel_rfl
theorem tJ:typeLookup (.type "str") (Str.ofString "__trunc__")=pure none:=by rw [typeLookup_type,builtinLookup_eq_fast]; kernel_rfl
def numC (n:Nat):List Nat:=if n < 10 then [48+n] else [48+n / 10,48+n % 10]
theorem wR {n:Nat} (h:n < 100):((tx (numC n)).cps.all fun x=>decide (x < 128))=true:=by
 have t:((List.range 100).all fun n=>(tx (numC n)).cps.all fun x=>decide (x < 128))=true:=by decide+kernel
 exact List.all_eq_true.mp t n (List.mem_range.mpr h)
theorem wS {α:Type} {M:Model} {A:Around} {E:Value→Shared→Prop} {s:Shared} {Q:α→Shared→Prop} {m m':Sem α} (e:m=m') (h:wpAny M A m' Q E s):wpAny M A m Q E s:=e ▸ h
set_option maxHeartbeats 4000000 in
theorem gis (n:Nat) (hn:n < 100) (u:Tok):Gives (Builtin.«int.__new__» ⟨[.type "int",.str (tx (numC n)) u],[]⟩) (.int n):=
 .of_wp fun M A E s Q h=>by
  obtain ⟨hp,g,d,tk,os⟩:=s
  have f1:=PySem.F.conv_sub_int
  have f2:=PySem.F.madeHere_int
  have f3:=vz
  have f4:=tI
  have f5:=tJ
  iterate 44 (any_goals (first | assumption | wp_step))
  refine wpAny_bind (wpAny_of_eq (a:=some (tx (numC n))) rfl ?_)
  refine wpAny_of_eq (a:=some (numC n)) ?e1 ?_
  case e1=>
   show (pure (some (if ((tx (numC n)).cps.all fun x=>decide (x < 128))=true then (tx (numC n)).cps.toList else _)):Sem _)=_
   rw [if_pos (wR hn),pk]
  refine wS (m':=mkInt (n:Int)) ?e2 ?_
  case e2=>
   clear h f1 f2 f3 f4 f5
   match n,hn with | 0,_=>kernel_rfl | 1,_=>kernel_rfl | 2,_=>kernel_rfl | 3,_=>kernel_rfl | 4,_=>kernel_rfl | 5,_=>kernel_rfl | 6,_=>kernel_rfl | 7,_=>kernel_rfl | 8,_=>kernel_rfl | 9,_=>kernel_rfl | 10,_=>kernel_rfl | 11,_=>kernel_rfl | 12,_=>kernel_rfl | 13,_=>kernel_rfl | 14,_=>kernel_rfl | 15,_=>kernel_rfl | 16,_=>kernel_rfl | 17,_=>kernel_rfl | 18,_=>kernel_rfl | 19,_=>kernel_rfl | 20,_=>kernel_rfl | 21,_=>kernel_rfl | 22,_=>kernel_rfl | 23,_=>kernel_rfl | 24,_=>kernel_rfl | 25,_=>kernel_rfl | 26,_=>kernel_rfl | 27,_=>kernel_rfl | 28,_=>kernel_rfl | 29,_=>kernel_rfl | 30,_=>kernel_rfl | 31,_=>kernel_rfl | 32,_=>kernel_rfl | 33,_=>kernel_rfl | 34,_=>kernel_rfl | 35,_=>kernel_rfl | 36,_=>kernel_rfl | 37,_=>kernel_rfl | 38,_=>kernel_rfl | 39,_=>kernel_rfl | 40,_=>kernel_rfl | 41,_=>kernel_rfl | 42,_=>kernel_rfl | 43,_=>kernel_rfl | 44,_=>kernel_rfl | 45,_=>kernel_rfl | 46,_=>kernel_rfl | 47,_=>kernel_rfl | 48,_=>kernel_rfl | 49,_=>kernel_rfl | 50,_=>kernel_rfl | 51,_=>kernel_rfl | 52,_=>kernel_rfl | 53,_=>kernel_rfl | 54,_=>kernel_rfl | 55,_=>kernel_rfl | 56,_=>kernel_rfl | 57,_=>kernel_rfl | 58,_=>kernel_rfl | 59,_=>kernel_rfl | 60,_=>kernel_rfl | 61,_=>kernel_rfl | 62,_=>kernel_rfl | 63,_=>kernel_rfl | 64,_=>kernel_rfl | 65,_=>kernel_rfl | 66,_=>kernel_rfl | 67,_=>kernel_rfl | 68,_=>kernel_rfl | 69,_=>kernel_rfl | 70,_=>kernel_rfl | 71,_=>kernel_rfl | 72,_=>kernel_rfl | 73,_=>kernel_rfl | 74,_=>kernel_rfl | 75,_=>kernel_rfl | 76,_=>kernel_rfl | 77,_=>kernel_rfl | 78,_=>kernel_rfl | 79,_=>kernel_rfl | 80,_=>kernel_rfl | 81,_=>kernel_rfl | 82,_=>kernel_rfl | 83,_=>kernel_rfl | 84,_=>kernel_rfl | 85,_=>kernel_rfl | 86,_=>kernel_rfl | 87,_=>kernel_rfl | 88,_=>kernel_rfl | 89,_=>kernel_rfl | 90,_=>kernel_rfl | 91,_=>kernel_rfl | 92,_=>kernel_rfl | 93,_=>kernel_rfl | 94,_=>kernel_rfl | 95,_=>kernel_rfl | 96,_=>kernel_rfl | 97,_=>kernel_rfl | 98,_=>kernel_rfl | 99,_=>kernel_rfl | (m+100),hm=>exact absurd hm (by omega)
  repeat (any_goals (first | assumption | wp_step))
  all_goals first | exact ⟨_,rfl,h⟩ | skip
def fO:List V→Hp→VK→Prop
 | [.int i],H,Q=>Q (.int i) H
 | [.bl k],H,Q=>Q (.int (if k then 1 else 0)) H
 | [.str z],H,Q=>∃ n:Nat,n < 100∧z=tx (numC n)∧Q (.int n) H
 | _,_,_=>False
theorem eJ {X:Cx}:CallR X (.type "int") fO:=by
 intro pins s σ H xs us Q I r h
 unfold fO at h
 split at h
 · exact rd pins s σ H _ us Q I r (.inl ⟨_,rfl,h⟩)
 · exact rd pins s σ H _ us Q I r (.inr ⟨_,rfl,h⟩)
 · obtain ⟨n,hn,rfl,q⟩:=h
   obtain ⟨u,rfl,ru⟩:=cR r
   obtain ⟨t,rfl⟩:=ru
   exact call_int_1 (gis n hn t).meets (show (Made.int (n:Int)).post _ s from ⟨rfl,⟨.int n,H,I.tok _,⟨_,rfl⟩,q⟩⟩)
 · exact h.elim
theorem jW {k:Bool} {H:Hp} {Q:VK}:fO [.bl k] H Q=Q (.int (if k then 1 else 0)) H:=rfl
theorem jX {i:Int} {H:Hp} {Q:VK}:fO [.int i] H Q=Q (.int i) H:=rfl
theorem jY {n:Nat} (h:n < 100):Str.ofString (toString (n:Int))=tx (numC n):=by
 have t:((List.range 100).all fun (n:Nat)=>decide (Str.ofString (toString (n:Int))=tx (numC n)))=true:=by decide+kernel
 simpa using List.all_eq_true.mp t n (List.mem_range.mpr h)
theorem ol {n:Nat} (h:n < 100):32∉numC n:=by
 have t:((List.range 100).all fun (n:Nat)=>decide (32∉numC n))=true:=by decide+kernel
 simpa using List.all_eq_true.mp t n (List.mem_range.mpr h)
theorem zw {n:Nat} (h:n < 100):numC n≠[]:=by unfold numC; split <;> simp
theorem cB {n:Nat}:(numC n).length≤2:=by unfold numC; split <;> simp
theorem xJ {n:Nat} (h:n < 100):((numC n).head? =some 48→n=0)∧numC 0=[48]:=by
 have t:((List.range 100).all fun (n:Nat)=>decide ((numC n).head? =some 48→n=0))=true:=by decide+kernel
 exact ⟨of_decide_eq_true (List.all_eq_true.mp t n (List.mem_range.mpr h)),rfl⟩
theorem uT {n:Nat} (h:n < 100):∀ c∈numC n,48≤c∧c≤57:=by
 have t:((List.range 100).all fun (n:Nat)=>(numC n).all fun c=>decide (48≤c∧c≤57))=true:=by decide+kernel
 intro c hc
 simpa using List.all_eq_true.mp (List.all_eq_true.mp t n (List.mem_range.mpr h)) c hc
end L2
namespace L2
open PySem PySem.Spec PyProof.Rows
local macro_rules | `(tactic| walk_at "w")=>`(tactic| (first | simp only [aB,aX,jo,bY,eh,w_c,kC,iT,gu,fE,fF,w_b,w_not,jp,lx,gw,gy,jq,iU,fG,kD,gz,jr,js,kE,jt,fH,gA,gB,gD,ei,eu,dF,df,dg,cK,ju,jv,jw,jx,jy,jz,jA,jB,jC,jD,jE,jF,lz,gE,di,gF,lA,gG,eE,dj,jG,jH,gH,fI,gI,
 List.getElem?_cons_zero,List.getElem?_cons_succ,Option.some.injEq,exists_eq_left',exists_eq_left,List.set_cons_zero,List.set_cons_succ,cO,V.int.injEq,V.bl.injEq,V.ref.injEq,V.str.injEq,List.append_nil,List.nil_append,List.cons_append] | dsimp only | skip))
def aO (K:PySem.W.Frag):Sp:=fun vs H Q _=>∃ (a:Addr) (h w g:Int),vs=[.ref a]∧IsFl H a h w g∧1≤h∧h≤6∧Q (.int (h*w)) H
theorem rP {K:PySem.W.Frag} {vs:List V} {H:Hp} {Q:VK} {E:XK} (h:aO K vs H Q E):vs.length=1:=by
 obtain ⟨_,_,_,_,rfl,_⟩:=h; rfl
def fP (K:PySem.W.Frag):TS:=
 (tRet (tOp cMul (tOp cIx (tVar 0) (tC (.int 0))) (tOp cIx (tVar 0) (tC (.int 1)))))
theorem rQ {K:PySem.W.Frag} {vs:List V} {H:Hp} {Q:VK} {E:XK} (h:aO K vs H Q E):fP K { nx:=fun _ H'=>Q .non H',rt:=Q } (start ["floor"] vs) H:=by
 obtain ⟨a,h,w,g,rfl,ha,h0,h1,q⟩:=h
 show fP K _ [some (.ref a)] H
 unfold fP
 walk_at "w"
 rw [vm ha]
 refine b3 (a:=V.int h) rfl ?_
 walk_at "w"
 rw [vm ha]
 refine b3 (a:=V.int w) rfl ?_
 walk_at "w"
 exact ⟨ko h0 h1,q⟩
end L2
namespace L2
open PySem PySem.Spec PyProof.Rows
local macro_rules | `(tactic| walk_at "w")=>`(tactic| (first | simp only [aB,lh,ku,iD,li,jW,jX,mX,lE,lb,mV,if_true,if_false,Bool.false_eq_true,decide_true,decide_false,jS,jT,mT,ir,gj,jQ,la,jR,iq,k8,k9,ip,mR,iu,iw,iz,iA,iB,iC,iy,lc,le,lf,k7,mS,Bool.not_true,Bool.not_false,aX,jo,bY,eh,w_c,kC,iT,gu,fE,fF,w_b,w_not,jp,lx,gw,gy,jq,iU,fG,kD,gz,jr,js,kE,jt,fH,gA,gB,gD,ei,eu,dF,df,dg,cK,ju,jv,jw,jx,jy,jz,jA,jB,jC,jD,jE,jF,lz,gE,di,gF,lA,gG,eE,dj,jG,jH,gH,fI,gI,
 List.getElem?_cons_zero,List.getElem?_cons_succ,Option.some.injEq,exists_eq_left',exists_eq_left,List.set_cons_zero,List.set_cons_succ,cO,V.int.injEq,V.bl.injEq,V.ref.injEq,V.str.injEq,List.append_nil,List.nil_append,List.cons_append] | dsimp only | skip))
def nmC:RK→List Nat
 | .Rule=>[]
 | .Unlike=>[117,110,108,105,107,101]
 | .Sum=>[115,117,109]
 | .Rising=>[114,105,115,105,110,103]
 | .Seen=>[115,101,101,110]
 | .Count=>[99,111,117,110,116]
 | .Joined=>[106,111,105,110,101,100]
 | .NoSquare=>[110,111,115,113,117,97,114,101]
 | .Ring=>[114,105,110,103]
def cf:List Str:=[tx [115,117,109],tx [115,101,101,110],tx [99,111,117,110,116]]
def cw:List Str:=[tx [99,111,117,110,116],tx [106,111,105,110,101,100],tx [110,111,115,113,117,97,114,101],tx [114,105,110,103]]
def bZ:List Str:=[tx [106,111,105,110,101,100],tx [110,111,115,113,117,97,114,101],tx [114,105,110,103]]
def rFs (p W C:Addr) (n m:Int):List (Str × V):=[("floor",.ref p),("words",.ref W),("cells",.ref C),("amount",.int n),("mark",.int m)]
structure IsRule (H:Hp) (c:RCl RK) (k:RK) (r p:Addr) (ws:List (List Nat)) (cs:List Int) (n m:Int):Prop where
 ok:c.ok k=true
 ex:∃ dx W C,H r=some (.ins (c.A k) dx (rFs p W C n m))∧H W=some (.tup ((ws.map tx).map V.str))∧H C=some (.tup (cs.map V.int))
theorem IsRule.same {H H':Hp} {c:RCl RK} {k:RK} {r p:Addr} {ws:List (List Nat)} {cs:List Int} {n m:Int} (x:IsRule H c k r p ws cs n m) (s:Same H H'):IsRule H' c k r p ws cs n m:=by
 obtain ⟨dx,W,C,h1,h2,h3⟩:=x.ex
 exact ⟨x.ok,dx,W,C,s _ _ h1,s _ _ h2,s _ _ h3⟩
section
variable {ι:Type} {c:RCl ι} {σ:St} {H:Hp} {Q:VK} {i:Nat} {r dx:Addr} {k:ι} {fs:List (Str × V)} {f m:Str} {v:V} {okm:ι→Bool} {sp:ι→Sp} {t:TA} {D:Ends} {tv:TE} {y:V} {H1:Hp}
theorem fldE (hσ:σ[i]? =some (some (.ref r))) (ok:c.ok k=true) (hr:H r=some (.ins (c.A k) dx fs)) (hl:fs.lookup f=some v) (q:Q v H):tFldK c (tVar i) f σ H Q:=⟨_,hσ,r,k,dx,fs,v,rfl,ok,hr,hl,q⟩
theorem methE (hσ:σ[i]? =some (some (.ref r))) (ok:okm k=true) (hr:H r=some (.ins (c.A k) dx fs)) (hl:fs.lookup m=none) (q:t σ H fun vs H2=>sp k (.ref r::vs) H2 Q E0):be c okm m sp (tVar i) t σ H Q:=⟨_,hσ,r,k,dx,fs,rfl,ok,hr,hl,q⟩
theorem sfldV {j:Nat} {x:V} (hj:σ[j]? =some (some x)) (hσ:σ[i]? =some (some (.ref r))) (ok:c.ok k=true) (hr:H r=some (.ins (c.A k) dx fs)) (hn:fs.length < 1000) (q:D.nx σ (upd H r (.ins (c.A k) dx (putF f x fs)))):sFldK c (tVar i) (tVar j) f D σ H:=
 ⟨x,hj,_,hσ,r,k,dx,fs,rfl,ok,hr,hn,q⟩
theorem sfldT {K:PySem.W.Frag} {j:Nat} {p:Addr} {xs:List V} (hj:σ[j]? =some (some (.ref p))) (hp:H p=some (.lst xs)) (hσ:σ[i]? =some (some (.ref r))) (ok:c.ok k=true) (hr:H r=some (.ins (c.A k) dx fs)) (hn:fs.length < 1000)
  (q:∀ l,H l=none→D.nx σ (upd (upd H l (.tup xs)) r (.ins (c.A k) dx (putF f (.ref l) fs)))):sFldK c (tVar i) (tCB (j8 K) (tCons (tVar j) tNil)) f D σ H:=by
 unfold sFldK
 walk_at "w"
 refine ⟨_,hj,yB hp fun l hl=>?_⟩
 exact ⟨_,hσ,r,k,dx,fs,rfl,ok,by rw [ai (au hr hl)]; exact hr,hn,q l hl⟩
end
theorem yD {H:Hp} {Q:VK} {p:Addr} {xs:List V} (hp:H p=some (.tup xs)) (h:∀ l,H l=none→Q (.ref l) (upd H l (.lst xs))):kList [.ref p] H Q:=by
 unfold kList
 dsimp only
 rw [hp]
 exact h
theorem yE {H:Hp} {Q:VK} {sep:Str} {p:Addr} {ts:List Str} (hp:H p=some (.tup (ts.map V.str))) (hok:JoinOk sep ts=true) (h:Q (.str (Txt.join sep ts)) H):fJ (.str sep) [.ref p] H Q:=by
 unfold fJ
 dsimp only
 rw [hp]
 exact ⟨ts,rfl,hok,h⟩
theorem qp {H:Hp} {Q:VK} {sep:Str} {p:Addr} {ts:List Str} (hp:H p=some (.lst (ts.map V.str))) (hok:JoinOk sep ts=true) (h:Q (.str (Txt.join sep ts)) H):fJ (.str sep) [.ref p] H Q:=by
 unfold fJ
 dsimp only
 rw [hp]
 exact ⟨ts,rfl,hok,h⟩
def mY (K:PySem.W.Frag) (c:RCl RK) (k:RK):Sp:=fun vs H Q _=>∃ (r p:Addr) (w:List Nat) (ws:List (List Nat)) (cs:List Int) (n m:Int),vs=[.ref r]∧IsRule H c k r p (w::ws) cs n m∧Q (.str (tx w)) H
def lH (K:PySem.W.Frag) (c:RCl RK) (k:RK):Sp:=fun vs H Q _=>∃ (r p:Addr) (ws:List (List Nat)) (cs:List Int) (n m:Int),vs=[.ref r]∧IsRule H c k r p ws cs n m∧∀ l,H l=none→Q (.ref l) (upd H l (.lst (cs.map V.int)))
def ky (K:PySem.W.Frag) (c:RCl RK) (k:RK):Sp:=fun vs H Q _=>∃ (r p:Addr) (ws:List (List Nat)) (cs:List Int) (n m:Int),vs=[.ref r]∧IsRule H c k r p ws cs n m∧Q (.int n) H
def mZ (K:PySem.W.Frag) (c:RCl RK) (k:RK):Sp:=fun vs H Q _=>∃ (r p:Addr) (ws:List (List Nat)) (cs:List Int) (n m:Int),vs=[.ref r]∧IsRule H c k r p ws cs n m∧Q (.int m) H
def lj (K:PySem.W.Frag) (c:RCl RK) (k:RK):Sp:=fun vs H Q _=>∃ (r p:Addr) (ws:List (List Nat)) (cs:List Int) (n m:Int),vs=[.ref r]∧IsRule H c k r p ws cs n m∧ws.length≤100∧(∀ w∈ws,w.length≤100)∧Q (.str (tx (catL 32 ws))) H
def recB:RK→Bool
 | .Sum=>true
 | .Rising=>true
 | .Seen=>true
 | _=>false
def dk (K:PySem.W.Frag) (c:RCl RK) (k:RK):Sp:=fun vs H Q _=>∃ (r p:Addr) (ws:List (List Nat)) (cs:List Int) (n m:Int),vs=[.ref r]∧IsRule H c k r p ws cs n m∧Q (.bl (recB k)) H
def al (K:PySem.W.Frag) (c:RCl RK):Sp:=fun vs H Q _=>∃ (k:RK) (x dx p W C:Addr) (ws:List (List Nat)) (cs:List Int) (n m:Int),vs=[.ref x,.ref p,.ref W,.ref C,.int n,.int m]∧c.ok k=true∧H x=some (.ins (c.A k) dx [])∧W≠x∧C≠x∧
 H W=some (.lst ((ws.map tx).map V.str))∧H C=some (.lst (cs.map V.int))∧∀ H',(∀ b o,b≠x→H b=some o→H' b=some o)→IsRule H' c k x p ws cs n m→Q .non H'
theorem om {K:PySem.W.Frag} {c:RCl RK} {vs:List V} {H:Hp} {Q:VK} {E:XK} (h:al K c vs H Q E):vs.length=6:=by
 obtain ⟨_,_,_,_,_,_,_,_,_,_,rfl,_⟩:=h; rfl
def dl (K:PySem.W.Frag) (c:RCl RK):TS:=
 (tSeq (sFldK c (tVar 0) (tVar 1) "floor")
  (tSeq (sFldK c (tVar 0) (tCB (j8 K) (tCons (tVar 2) tNil)) "words")
  (tSeq (sFldK c (tVar 0) (tCB (j8 K) (tCons (tVar 3) tNil)) "cells")
  (tSeq (sFldK c (tVar 0) (tVar 4) "amount")
  (sFldK c (tVar 0) (tVar 5) "mark")))))
theorem on {K:PySem.W.Frag} {c:RCl RK} {vs:List V} {H:Hp} {Q:VK} {E:XK} (h:al K c vs H Q E):dl K c { nx:=fun _ H'=>Q .non H',rt:=Q } (start ["self","floor","words","cells","amount","mark"] vs) H:=by
 obtain ⟨k,x,dx,p,W,C,ws,cs,n,m,rfl,ok,hx,nW,nC,hW,hC,q⟩:=h
 show dl K c _ [some (.ref x),some (.ref p),some (.ref W),some (.ref C),some (.int n),some (.int m)] H
 unfold dl
 walk_at "w"
 refine sfldV (k:=k) (j:=1) rfl rfl ok hx (by decide) ?_
 walk_at "w"
 refine sfldT (k:=k) (j:=2) (p:=W) rfl (by rw [ai nW]; exact hW) rfl ok ae (by show (1:Nat) < 1000; decide) fun l1 h1=>?_
 have n1:l1≠x:=fun e=>by rw [e,ae] at h1; cases h1
 have g1:H l1=none:=by rw [ai n1] at h1; exact h1
 walk_at "w"
 refine sfldT (k:=k) (j:=3) (p:=C) rfl (by rw [ai nC,ai (au hC g1),ai nC]; exact hC) rfl ok ae (by show (2:Nat) < 1000; decide) fun l2 h2=>?_
 have n2:l2≠x:=fun e=>by rw [e,ae] at h2; cases h2
 have n21:l2≠l1:=fun e=>by rw [e,ai n1,ae] at h2; cases h2
 have g2:H l2=none:=by rw [ai n2,ai n21,ai n2] at h2; exact h2
 walk_at "w"
 refine sfldV (k:=k) (j:=4) rfl rfl ok ae (by show (3:Nat) < 1000; decide) ?_
 refine sfldV (k:=k) (j:=5) rfl rfl ok ae (by show (4:Nat) < 1000; decide) ?_
 refine q _ (fun b o hb e=>?_) ⟨ok,dx,l1,l2,by rw [ae]; rfl,?_,?_⟩
 · rw [ai hb,ai hb,ai hb,ai (au e g2),ai hb,ai (au e g1),ai hb]
   exact e
 · rw [ai n1,ai n1,ai n1,ai n21.symm,ai n1,ae]
 · rw [ai n2,ai n2,ai n2,ae]
def gM (K:PySem.W.Frag) (c:RCl RK):Sp:=fun vs H Q E=>∃ k,mY K c k vs H Q E
theorem tK {K:PySem.W.Frag} {c:RCl RK} {vs:List V} {H:Hp} {Q:VK} {E:XK} (h:gM K c vs H Q E):vs.length=1:=by
 obtain ⟨_,_,_,_,_,_,_,_,rfl,_⟩:=h; rfl
def gN (K:PySem.W.Frag) (c:RCl RK):TS:=
 (tRet (tOp cIx (tFldK c (tVar 0) "words") (tC (.int 0))))
theorem tL {K:PySem.W.Frag} {c:RCl RK} {vs:List V} {H:Hp} {Q:VK} {E:XK} (h:gM K c vs H Q E):gN K c { nx:=fun _ H'=>Q .non H',rt:=Q } (start ["self"] vs) H:=by
 obtain ⟨k,r,p,w,ws,cs,n,m,rfl,x,q⟩:=h
 obtain ⟨dx,W,C,h1,h2,h3⟩:=x.ex
 show gN K c _ [some (.ref r)] H
 unfold gN
 walk_at "w"
 refine fldE rfl x.ok h1 (v:=.ref W) (by rfl) ?_
 walk_at "w"
 have e0:atI (((w::ws).map tx).map V.str) 0=some (V.str (tx w)):=b8 (j:=0) rfl
 exact ixT h2 e0 q
def fQ (K:PySem.W.Frag) (c:RCl RK):Sp:=fun vs H Q E=>∃ k,lH K c k vs H Q E
theorem rR {K:PySem.W.Frag} {c:RCl RK} {vs:List V} {H:Hp} {Q:VK} {E:XK} (h:fQ K c vs H Q E):vs.length=1:=by
 obtain ⟨_,_,_,_,_,_,_,rfl,_⟩:=h; rfl
def fR (K:PySem.W.Frag) (c:RCl RK):TS:=
 (tRet (tCB kList (tCons (tFldK c (tVar 0) "cells") tNil)))
theorem rS {K:PySem.W.Frag} {c:RCl RK} {vs:List V} {H:Hp} {Q:VK} {E:XK} (h:fQ K c vs H Q E):fR K c { nx:=fun _ H'=>Q .non H',rt:=Q } (start ["self"] vs) H:=by
 obtain ⟨k,r,p,ws,cs,n,m,rfl,x,q⟩:=h
 obtain ⟨dx,W,C,h1,h2,h3⟩:=x.ex
 show fR K c _ [some (.ref r)] H
 unfold fR
 walk_at "w"
 refine fldE rfl x.ok h1 (v:=.ref C) (by rfl) ?_
 walk_at "w"
 exact yD h3 q
def eK (K:PySem.W.Frag) (c:RCl RK):Sp:=fun vs H Q E=>∃ k,ky K c k vs H Q E
theorem qq {K:PySem.W.Frag} {c:RCl RK} {vs:List V} {H:Hp} {Q:VK} {E:XK} (h:eK K c vs H Q E):vs.length=1:=by
 obtain ⟨_,_,_,_,_,_,_,rfl,_⟩:=h; rfl
def eP (K:PySem.W.Frag) (c:RCl RK):TS:=
 (tRet (tFldK c (tVar 0) "amount"))
theorem qr {K:PySem.W.Frag} {c:RCl RK} {vs:List V} {H:Hp} {Q:VK} {E:XK} (h:eK K c vs H Q E):eP K c { nx:=fun _ H'=>Q .non H',rt:=Q } (start ["self"] vs) H:=by
 obtain ⟨k,r,p,ws,cs,n,m,rfl,x,q⟩:=h
 obtain ⟨dx,W,C,h1,h2,h3⟩:=x.ex
 show eP K c _ [some (.ref r)] H
 unfold eP
 walk_at "w"
 exact fldE rfl x.ok h1 (v:=.int n) (by rfl) q
def gO (K:PySem.W.Frag) (c:RCl RK):Sp:=fun vs H Q E=>∃ k,mZ K c k vs H Q E
theorem tM {K:PySem.W.Frag} {c:RCl RK} {vs:List V} {H:Hp} {Q:VK} {E:XK} (h:gO K c vs H Q E):vs.length=1:=by
 obtain ⟨_,_,_,_,_,_,_,rfl,_⟩:=h; rfl
def gP (K:PySem.W.Frag) (c:RCl RK):TS:=
 (tRet (tFldK c (tVar 0) "mark"))
theorem tN {K:PySem.W.Frag} {c:RCl RK} {vs:List V} {H:Hp} {Q:VK} {E:XK} (h:gO K c vs H Q E):gP K c { nx:=fun _ H'=>Q .non H',rt:=Q } (start ["self"] vs) H:=by
 obtain ⟨k,r,p,ws,cs,n,m,rfl,x,q⟩:=h
 obtain ⟨dx,W,C,h1,h2,h3⟩:=x.ex
 show gP K c _ [some (.ref r)] H
 unfold gP
 walk_at "w"
 exact fldE rfl x.ok h1 (v:=.int m) (by rfl) q
def gQ (K:PySem.W.Frag) (c:RCl RK):Sp:=fun vs H Q E=>∃ k,lj K c k vs H Q E
theorem tO {K:PySem.W.Frag} {c:RCl RK} {vs:List V} {H:Hp} {Q:VK} {E:XK} (h:gQ K c vs H Q E):vs.length=1:=by
 obtain ⟨_,_,_,_,_,_,_,rfl,_⟩:=h; rfl
def gR (K:PySem.W.Frag) (c:RCl RK):TS:=
 (tRet (tBM K "str" fJ (tC (.str (tx [32]))) (tCons (tFldK c (tVar 0) "words") tNil)))
theorem tP {K:PySem.W.Frag} {c:RCl RK} {vs:List V} {H:Hp} {Q:VK} {E:XK} (h:gQ K c vs H Q E):gR K c { nx:=fun _ H'=>Q .non H',rt:=Q } (start ["self"] vs) H:=by
 obtain ⟨k,r,p,ws,cs,n,m,rfl,x,hn,hw,q⟩:=h
 obtain ⟨dx,W,C,h1,h2,h3⟩:=x.ex
 show gR K c _ [some (.ref r)] H
 unfold gR
 walk_at "w"
 refine ⟨lB,fldE rfl x.ok h1 (v:=.ref W) (by rfl) ?_⟩
 walk_at "w"
 refine yE h2 (gK (by rw [List.length_map]; omega) (fun t ht=>by obtain ⟨y,hy,rfl⟩:=List.mem_map.mp ht; rw [bT]; have:=hw y hy; omega) (by rw [bT]; decide)) ?_
 rw [lD,jV]
 exact q
def dL (K:PySem.W.Frag) (c:RCl RK):Sp:=fun vs H Q E=>∃ k,recB k=false∧dk K c k vs H Q E
theorem pr {K:PySem.W.Frag} {c:RCl RK} {vs:List V} {H:Hp} {Q:VK} {E:XK} (h:dL K c vs H Q E):vs.length=1:=by
 obtain ⟨_,_,_,_,_,_,_,_,rfl,_⟩:=h; rfl
def dM (K:PySem.W.Frag) (c:RCl RK):TS:=
 (tRet (tC (.bl false)))
theorem pA {K:PySem.W.Frag} {c:RCl RK} {vs:List V} {H:Hp} {Q:VK} {E:XK} (h:dL K c vs H Q E):dM K c { nx:=fun _ H'=>Q .non H',rt:=Q } (start ["self"] vs) H:=by
 obtain ⟨k,hk,r,p,ws,cs,n,m,rfl,x,q⟩:=h
 rw [hk] at q
 show dM K c _ [some (.ref r)] H
 unfold dM
 walk_at "w"
 exact q
def c8 (K:PySem.W.Frag):Sp:=fun vs H Q _=>∃ n:Nat,vs=[.str (tx (numC n))]∧n < 100∧∀ H',Same H H'→Q (.int n) H'
theorem tQ {K:PySem.W.Frag} {vs:List V} {H:Hp} {Q:VK} {E:XK} (h:c8 K vs H Q E):vs.length=1:=by
 obtain ⟨_,rfl,_⟩:=h; rfl
def gS (K:PySem.W.Frag):TS:=
 (tSeq (tIfS (tOr (tTest (tOp (cEq K) (tVar 0) (tC (.str (tx []))))) (tOr (tTest (tOp (cCmp fun i j=>decide (j < i)) (tCB kLen (tCons (tVar 0) tNil)) (tC (.int 9)))) (tAnd (tTest (tOp (cEq K) (tOp cIx (tVar 0) (tC (.int 0))) (tC (.str (tx [48]))))) (tTest (tOp (cNe K) (tVar 0) (tC (.str (tx [48])))))))) (tRet (tC .non)) tNext)
  (tSeq (tIfS (tNot (tB (tCB kAll (tCons (tComp [none,none] (iStr (tVar 0)) (gName 1) tTrue (tOp (cIn K false) (tVar 1) (tC (.str (tx [48,49,50,51,52,53,54,55,56,57]))))) tNil)))) (tRet (tC .non)) tNext)
  (tRet (tCB fO (tCons (tVar 0) tNil)))))
theorem zx {c:Nat} (h0:48≤c) (h1:c≤57):(!(Builtin.Str.occurrences (tx [48,49,50,51,52,53,54,55,56,57]) ⟨#[c]⟩ 0 (tx [48,49,50,51,52,53,54,55,56,57]).length 1).isEmpty)=true:=by
 have t:((List.range 58).all fun c=>!decide (48≤c)||!(Builtin.Str.occurrences (tx [48,49,50,51,52,53,54,55,56,57]) ⟨#[c]⟩ 0 (tx [48,49,50,51,52,53,54,55,56,57]).length 1).isEmpty)=true:=by decide+kernel
 have:=List.all_eq_true.mp t c (List.mem_range.mpr (by omega))
 simpa [h0] using this
theorem tR {K:PySem.W.Frag} {vs:List V} {H:Hp} {Q:VK} {E:XK} (h:c8 K vs H Q E):gS K { nx:=fun _ H'=>Q .non H',rt:=Q } (start ["word"] vs) H:=by
 obtain ⟨n,rfl,hn,q⟩:=h
 have hne:=zw hn
 have hl:=cB (n:=n)
 show gS K _ [some (.str (tx (numC n)))] H
 unfold gS
 rw [aB,aJ]
 walk_at "w"
 rw [pp,decide_eq_false hne]
 refine iteF ⟨by rw [bT]; exact aG (by omega),?_⟩
 walk_at "w"
 rw [bT,decide_eq_false (show ¬ (9:Int) < ((numC n).length:Nat) by omega)]
 refine iteF ?_
 rw [zV,bT,pk]
 obtain ⟨c,r,ec⟩:∃ c r,numC n=c::r:=by
  cases e:numC n with
  | nil=>exact absurd e hne
  | cons c r=>exact ⟨c,r,rfl⟩
 refine ⟨aG (by omega),b3 (a:=c) (by rw [ec]; exact b8 (j:=0) rfl) ?_⟩
 walk_at "w"
 have e1:decide ((⟨#[c]⟩:Str)=tx [48])=decide (c=48):=by
  have:(⟨#[c]⟩:Str)=tx [c]:=rfl
  rw [this,pp]
  simp
 rw [e1,pp]
 have e2:(decide (c=48)=true→decide (numC n=[48])=true):=by
  intro h
  rw [decide_eq_true_eq] at h
  have:=(xJ hn).1 (by rw [ec,h]; rfl)
  subst this
  decide
 have goal2:tSeq (tIfS (tNot (tB (tCB kAll (tCons (tComp [none,none] (iStr (tVar 0)) (gName 1) tTrue (tOp (cIn K false) (tVar 1) (tC (.str (tx [48,49,50,51,52,53,54,55,56,57]))))) tNil)))) (tRet (tC .non)) tNext) (tRet (tCB fO (tCons (tVar 0) tNil)))
   { nx:=fun _ H'=>Q .non H',rt:=Q } [some (.str (tx (numC n)))] H:=by
  rw [aB,aJ]
  walk_at "w"
  refine wN (cs:=numC n) (fun _=>true) (fun _=>.bl true) (by omega) ?_ ?_ ?_
  · intro i c H1 R hc s1 k1
    exact k1 _ (Same.refl _)
  · intro i c H1 Q1 hc hb s1 k1
    have hd:=uT hn c (List.mem_of_getElem? hc)
    show tOp (cIn K false) _ _ [none,some (.str (tx [c]))] H1 Q1
    walk_at "w"
    have q1:=k1 _ (Same.refl H1)
    show Q1 (.bl (if false=true then _ else !(Builtin.Str.occurrences (tx [48,49,50,51,52,53,54,55,56,57]) (tx [c]) 0 (tx [48,49,50,51,52,53,54,55,56,57]).length 1).isEmpty)) H1
    rw [if_neg Bool.false_ne_true,show tx [c]=⟨#[c]⟩ from rfl,zx hd.1 hd.2]
    exact q1
  · intro l H1 hl1 s1 el
    have eb:((List.range (numC n).length).filter fun _=>true).map (fun _=>V.bl true)=(List.replicate (numC n).length true).map V.bl:=by
     rw [bd,List.map_const',List.length_range,List.map_replicate]
    rw [eb] at el
    refine vp el ?_
    have ea:(List.replicate (numC n).length true).all id=true:=by
     rw [List.all_eq_true]
     intro b hb
     exact (List.mem_replicate.mp hb).2
    rw [ea]
    walk_at "w"
    exact ⟨n,hn,rfl,q _ s1⟩
 cases hc:decide (c=48) with
 | false=>
  refine iteF ?_
  exact goal2
 | true=>
  refine iteT ?_
  rw [e2 hc]
  exact goal2
def bf (K:PySem.W.Frag):Sp:=fun vs H Q _=>∃ (n:Nat) (lo hi:Int),vs=[.str (tx (numC n)),.int lo,.int hi]∧n < 100∧lo≤n∧n≤hi∧∀ H',Same H H'→Q (.int n) H'
theorem oo {K:PySem.W.Frag} {vs:List V} {H:Hp} {Q:VK} {E:XK} (h:bf K vs H Q E):vs.length=3:=by
 obtain ⟨_,_,_,rfl,_⟩:=h; rfl
def dn (K:PySem.W.Frag):TS:=
 (tSeq (tAsg (tCall (c8 K) [] E0 (tCons (tVar 0) tNil)) (gName 3))
  (tSeq (tIfS (tOr (tTest (tOp rIsN (tVar 3) (tC .non))) (tOr (tTest (tOp (cCmp fun i j=>decide (i < j)) (tVar 3) (tVar 1))) (tTest (tOp (cCmp fun i j=>decide (j < i)) (tVar 3) (tVar 2))))) cu tNext)
  (tRet (tVar 3))))
theorem oq {K:PySem.W.Frag} {vs:List V} {H:Hp} {Q:VK} {E:XK} (h:bf K vs H Q E):dn K { nx:=fun _ H'=>Q .non H',rt:=Q } (start ["word","least","most","number"] vs) H:=by
 obtain ⟨n,lo,hi,rfl,hn,h0,h1,q⟩:=h
 show dn K _ [some (.str (tx (numC n))),some (.int lo),some (.int hi),none] H
 unfold dn
 walk_at "w"
 refine ⟨n,rfl,hn,fun H1 s1=>?_⟩
 walk_at "w"
 rw [aJ]
 walk_at "w"
 rw [decide_eq_false (show ¬ V.int n=V.non from fun e=>nomatch e)]
 refine iteF ?_
 rw [decide_eq_false (show ¬ (n:Int) < lo by omega)]
 refine iteF ?_
 rw [decide_eq_false (show ¬ hi < (n:Int) by omega)]
 refine iteF ?_
 walk_at "w"
 exact q _ s1
def WOk (ws:List (List Nat)):Prop:=∀ w∈ws,∀ c∈w,c < 128
theorem WOk.cons {w:List Nat} {ws:List (List Nat)} (h:∀ c∈w,c < 128) (hs:WOk ws):WOk (w::ws):=fun v hv=>by
 rcases List.mem_cons.mp hv with rfl | hv
 · exact h
 · exact hs v hv
theorem jZ {n:Nat} (h:n < 100):∀ c∈numC n,c < 128:=fun c hc=>by have:=uT h c hc; omega
theorem x5 {w:List Nat} (h:∀ c∈w,c < 128):PyData.strOk (tx w)=true:=by
 unfold PyData.strOk
 simp [tx]
 intro c hc
 have:=h c hc
 omega
theorem WOk.strs {ws:List (List Nat)} (h:WOk ws):∀ x∈ws.map tx,PyData.strOk x=true:=fun x hx=>by
 obtain ⟨w,hw,rfl⟩:=List.mem_map.mp hx
 exact x5 (h w hw)
def bj (K:PySem.W.Frag):Sp:=fun vs H Q _=>∃ (p:Addr) (n:Nat) (ws:List (List Nat)) (lo hi:Int),vs=[.ref p,.int lo,.int hi]∧H p=some (.lst (((numC n::ws).map tx).map V.str))∧n < 100∧WOk ws∧lo≤n∧n≤hi∧∀ H',Same H H'→Q (.int n) H'
theorem pB {K:PySem.W.Frag} {vs:List V} {H:Hp} {Q:VK} {E:XK} (h:bj K vs H Q E):vs.length=3:=by
 obtain ⟨_,_,_,_,_,rfl,_⟩:=h; rfl
def dO (K:PySem.W.Frag):TS:=
 (tSeq (tIfS (tTest (tOp (cEq K) (tVar 0) (tLst tNil))) cu tNext)
  (tRet (tCall (bf K) [] E0 (tCons (tOp cIx (tVar 0) (tC (.int 0))) (tCons (tVar 1) (tCons (tVar 2) tNil))))))
theorem DVs.strs {K:PySem.W.Frag} {H:Hp}:∀ ns:List Str,DVs K H (ns.map V.str) (ns.map PyData.str)
 | []=>.nil
 | n::r=>.cons (.str n) (DVs.strs r)
theorem rE (a b:Str):PyData.eqv (.str a) (.str b)=decide (a=b):=by
 rw [PyData.eqv]
 by_cases h:a=b
 · subst h; simp
 · simp [h]
theorem iW (ns:List Str) (hs:∀ x∈ns,PyData.strOk x=true):SeqAt.shaped (.list (ns.map PyData.str))=true:=by
 have h1:PyData.canLayAll0 (ns.map PyData.str)=true:=uO fun d hd=>by obtain ⟨x,hx,rfl⟩:=List.mem_map.mp hd; rw [PyData.canLay0]; exact hs x hx
 have h2:PyData.depthAll (ns.map PyData.str)≤0:=rB fun d hd=>by obtain ⟨x,_,rfl⟩:=List.mem_map.mp hd; exact Nat.le_refl _
 simp [SeqAt.shaped,PyData.canLay0,h1,PyData.depth]
 omega
theorem tS {K:PySem.W.Frag} {H:Hp} {Q:VK} {p q:Addr} {xs ys:List Str} (hp:H p=some (.lst (xs.map V.str))) (hq:H q=some (.lst (ys.map V.str))) (h1:∀ x∈xs,PyData.strOk x=true) (h2:∀ x∈ys,PyData.strOk x=true) (h:Q (.bl (decide (xs=ys))) H):cEq K (.ref p) (.ref q) H Q:=by
 show rEqD K (.ref p) (.ref q) H Q
 refine ⟨.list (xs.map PyData.str),.list (ys.map PyData.str),.lst (SqL.of hp) (.strs xs),.lst (SqL.of hq) (.strs ys),iW xs h1,iW ys h2,?_⟩
 rw [PyData.eqv,ql PyData.str rE]
 exact h
theorem zy {K:PySem.W.Frag} {H:Hp} {Q:VK} {p q:Addr} {xs ys:List Str} (hp:H p=some (.lst (xs.map V.str))) (hq:H q=some (.lst (ys.map V.str))) (h1:∀ x∈xs,PyData.strOk x=true) (h2:∀ x∈ys,PyData.strOk x=true) (h:Q (.bl (!decide (xs=ys))) H):cNe K (.ref p) (.ref q) H Q:=by
 show rNeD K (.ref p) (.ref q) H Q
 refine ⟨.list (xs.map PyData.str),.list (ys.map PyData.str),.lst (SqL.of hp) (.strs xs),.lst (SqL.of hq) (.strs ys),iW xs h1,iW ys h2,?_⟩
 rw [PyData.eqv,ql PyData.str rE]
 exact h
theorem pC {K:PySem.W.Frag} {vs:List V} {H:Hp} {Q:VK} {E:XK} (h:bj K vs H Q E):dO K { nx:=fun _ H'=>Q .non H',rt:=Q } (start ["words","least","most"] vs) H:=by
 obtain ⟨p,n,ws,lo,hi,rfl,hp,hn,hw,h0,h1,q⟩:=h
 show dO K _ [some (.ref p),some (.int lo),some (.int hi)] H
 unfold dO
 rw [aB,aJ]
 walk_at "w"
 refine ⟨aG (by decide),fun l hl=>?_⟩
 have s1:Same H (upd H l (.lst [])):=(Same.refl H).laid hl
 refine tS (s1 _ _ hp) (ys:=[]) ae (WOk.strs (WOk.cons (jZ hn) hw)) (fun x hx=>nomatch hx) ?_
 generalize upd H l (.lst [])=H1 at*
 walk_at "w"
 rw [decide_eq_false (by simp)]
 refine iteF ?_
 walk_at "w"
 have e0:atI (((numC n::ws).map tx).map V.str) 0=some (V.str (tx (numC n))):=b8 (j:=0) rfl
 refine ixL (s1 _ _ hp) e0 ?_
 walk_at "w"
 exact ⟨n,lo,hi,rfl,hn,h0,h1,fun H2 s2=>q _ (s1.trans s2)⟩
theorem xK (acc:List Int) (v:Int):(step_dedup acc v).length≤acc.length+1:=by
 unfold step_dedup
 split <;> simp
theorem tT:∀ (l acc:List Int),(l.foldl step_dedup acc).length≤acc.length+l.length
 | [],acc=>by simp
 | x::r,acc=>by
  have h1:=tT r (step_dedup acc x)
  have h2:=xK acc x
  rw [List.foldl_cons,List.length_cons]
  omega
theorem nR:∀ (l acc:List Int),acc.Nodup→((l.foldl step_dedup acc).length=acc.length+l.length↔(acc++l).Nodup)
 | [],acc,h=>by simpa using h
 | x::r,acc,h=>by
  rw [List.foldl_cons]
  by_cases hx:x∈acc
  · have e:step_dedup acc x=acc:=by
     unfold step_dedup
     rw [if_pos (by simpa using hx)]
    rw [e]
    have:=tT r acc
    constructor
    · intro z
      rw [List.length_cons] at z
      omega
    · intro z
      have:=(List.nodup_append.mp z).2.2 x hx x List.mem_cons_self
      exact absurd rfl this
  · have e:step_dedup acc x=acc++[x]:=by
     unfold step_dedup
     rw [if_neg (by simpa using hx)]
    rw [e]
    have hn:(acc++[x]).Nodup:=List.nodup_append.mpr ⟨h,by simp,fun a ha b hb z=>hx (by rw [List.mem_singleton.mp hb] at z; exact z ▸ ha)⟩
    have ih:=nR r (acc++[x]) hn
    rw [List.length_append,List.length_singleton] at ih
    rw [List.length_cons,show acc.length+(r.length+1)=acc.length+1+r.length by omega,show acc++x::r=acc++[x]++r by simp]
    exact ih
theorem qt (ns:List Int):(List.range ns.length).map (fun i=>ns.getD i 0)=ns:=by
 have:=lT ns (fun x=>x)
 simpa using this
theorem xL (ns:List Int):cntD ns=ns.length↔ns.Nodup:=by
 unfold cntD firstMet
 rw [qt]
 have:=nR ns [] List.nodup_nil
 simpa using this
def cC (K:PySem.W.Frag):Sp:=fun vs H Q _=>∃ (a p:Addr) (h w g:Int) (ns:List Nat),vs=[.ref a,.ref p]∧IsFl H a h w g∧FlOk h w g∧H p=some (.lst (((ns.map numC).map tx).map V.str))∧ns≠[]∧ns.length≤16∧(∀ n∈ns,(n:Int) < h*w)∧ns.Nodup∧
 ∀ l H',Same H H'→H l=none→H' l=some (.lst ((ns.map fun (n:Nat)=>(n:Int)).map V.int))→Q (.ref l) H'
theorem rT {K:PySem.W.Frag} {vs:List V} {H:Hp} {Q:VK} {E:XK} (h:cC K vs H Q E):vs.length=2:=by
 obtain ⟨_,_,_,_,_,_,rfl,_⟩:=h; rfl
def fS (K:PySem.W.Frag):TS:=
 (tSeq (sComp 2 [none,none,some 0] (iList K (tVar 1)) (gName 1) tTrue (tCall (bf K) [] E0 (tCons (tVar 1) (tCons (tC (.int 0)) (tCons (tOp cSub (tCall (aO K) [] E0 (tCons (tVar 2) tNil)) (tC (.int 1))) tNil)))))
  (tSeq (tIfS (tTest (tOp (cEq K) (tVar 2) (tLst tNil))) cu tNext)
  (tSeq (tIfS (tTest (tOp (cNe K) (qo (tVar 2)) (tCB kLen (tCons (tVar 2) tNil)))) cu tNext)
  (tRet (tVar 2)))))
theorem lI {ns:List Nat} (h:ns.Nodup):(ns.map fun (n:Nat)=>(n:Int)).Nodup:=by
 induction ns with
 | nil=>exact List.nodup_nil
 | cons a r ih=>
  rw [List.nodup_cons] at h
  rw [List.map_cons,List.nodup_cons]
  refine ⟨fun z=>?_,ih h.2⟩
  obtain ⟨b,hb,e⟩:=List.mem_map.mp z
  exact h.1 (by have:b=a:=by omega
                exact this ▸ hb)
theorem rV {K:PySem.W.Frag} {vs:List V} {H:Hp} {Q:VK} {E:XK} (h:cC K vs H Q E):fS K { nx:=fun _ H'=>Q .non H',rt:=Q } (start ["floor","words","cells"] vs) H:=by
 obtain ⟨a,p,h,w,g,ns,rfl,ha,F,hp,hne,hn16,hlt,hnd,q⟩:=h
 obtain ⟨h0,h1,w0,w1,m16,g0,g1⟩:=F
 show fS K _ [some (.ref a),some (.ref p),none] H
 unfold fS
 walk_at "w"
 refine ⟨⟨_,SqL.of hp⟩,?_⟩
 refine bB (xs:=((ns.map numC).map tx).map V.str) (fun _=>true) (fun i=>.int (ns.getD i 0:Nat)) (by simp; omega) (SqL.of hp) ?_ ?_ ?_
 · intro i x H1 R hx s1 k1
   exact k1 _ (Same.refl _)
 · intro i x H1 Q1 hx hb s1 k1
   rw [List.getElem?_map,List.getElem?_map,List.getElem?_map] at hx
   cases e:ns[i]? with
   | none=>rw [e] at hx; cases hx
   | some n=>
    rw [e] at hx
    cases hx
    have hm:=hlt n (List.mem_of_getElem? e)
    show tCall _ _ _ _ [none,some (.str (tx (numC n))),some (.ref a)] H1 Q1
    walk_at "w"
    refine ⟨a,h,w,g,rfl,s1 _ _ ha,h0,h1,?_⟩
    walk_at "w"
    refine ⟨n,0,_,rfl,by omega,by omega,by omega,fun H2 s2=>?_⟩
    have q1:=k1 _ s2
    have eg:ns.getD i 0=n:=by rw [List.getD,e]; rfl
    rw [eg] at q1
    exact q1
 · intro l H1 hl s1 el
   have ec:((List.range (((ns.map numC).map tx).map V.str).length).filter fun _=>true).map (fun i=>V.int (ns.getD i 0:Nat))=(ns.map fun (n:Nat)=>(n:Int)).map V.int:=by
    rw [bd,List.length_map,List.length_map,List.length_map,List.map_map]
    refine List.ext_getElem? fun i=>?_
    rw [List.getElem?_map,List.getElem?_map]
    by_cases h:i < ns.length
    · rw [List.getElem?_range h,List.getElem?_eq_getElem h]
      simp [List.getD,h]
    · rw [List.getElem?_eq_none (by simpa using h),List.getElem?_eq_none (by omega)]; rfl
   rw [ec] at el
   walk_at "w"
   rw [aJ]
   walk_at "w"
   refine ⟨aG (by decide),fun z hz=>?_⟩
   have s2:Same H1 (upd H1 z (.lst [])):=(Same.refl H1).laid hz
   refine ph (s2 _ _ el) (ys:=[]) ae ?_
   generalize upd H1 z (.lst [])=H2 at*
   walk_at "w"
   rw [decide_eq_false (by simpa using hne)]
   refine iteF ?_
   walk_at "w"
   rw [aJ]
   walk_at "w"
   refine ⟨l,_,rfl,s2 _ _ el,by rw [List.length_map]; omega,?_⟩
   rw [gC (s2 _ _ el),List.length_map]
   walk_at "w"
   rw [decide_eq_true (by rw [(xL _).mpr (lI hnd)])]
   refine iteF ?_
   walk_at "w"
   exact q l _ (s1.trans s2) hl (s2 _ _ el)
def allK:RK→Bool
 | .Joined=>true
 | .NoSquare=>true
 | .Ring=>true
 | _=>false
def numK:RK→Bool
 | .Sum=>true
 | .Seen=>true
 | .Count=>true
 | _=>false
def sgnK:RK→Bool
 | .Count=>true
 | .Joined=>true
 | .NoSquare=>true
 | .Ring=>true
 | _=>false
theorem wT (k:RK):decide (tx (nmC k)∈bZ)=allK k:=by cases k <;> decide+kernel
theorem wU (k:RK):decide (tx (nmC k)∈cf)=numK k:=by cases k <;> decide+kernel
theorem wV (k:RK):decide (tx (nmC k)∈cw)=sgnK k:=by cases k <;> decide+kernel
structure qu (k:RK) (h w:Int) (ns:List Nat) (cs:List Int):Prop where
 told:allK k=false→ns≠[]∧ns.length≤16∧(∀ n∈ns,(n:Int) < h*w)∧ns.Nodup∧cs=ns.map fun (n:Nat)=>(n:Int)
 all:allK k=true→ns=[]∧cs=rngL 0 (h*w)
def dH (K:PySem.W.Frag):Sp:=fun vs H Q _=>∃ (k:RK) (a p:Addr) (h w g:Int) (ns:List Nat) (cs:List Int),vs=[.ref a,.str (tx (nmC k)),.ref p]∧IsFl H a h w g∧FlOk h w g∧H p=some (.lst (((ns.map numC).map tx).map V.str))∧qu k h w ns cs∧(∀ n∈ns,n < 100)∧
 ∀ l H',Same H H'→H l=none→H' l=some (.lst (cs.map V.int))→Q (.ref l) H'
theorem uu {K:PySem.W.Frag} {vs:List V} {H:Hp} {Q:VK} {E:XK} (h:dH K vs H Q E):vs.length=3:=by
 obtain ⟨_,_,_,_,_,_,_,_,rfl,_⟩:=h; rfl
def iX (K:PySem.W.Frag):TS:=
 (tSeq (tIfS (tB (tInG bZ true (tVar 1))) (tRet (tCall (cC K) [] E0 (tCons (tVar 0) (tCons (tVar 2) tNil)))) tNext)
  (tSeq (tIfS (tTest (tOp (cNe K) (tVar 2) (tLst tNil))) cu tNext)
  (tRet (kn (tCons (tCall (aO K) [] E0 (tCons (tVar 0) tNil)) tNil)))))
theorem uv {K:PySem.W.Frag} {vs:List V} {H:Hp} {Q:VK} {E:XK} (h:dH K vs H Q E):iX K { nx:=fun _ H'=>Q .non H',rt:=Q } (start ["floor","name","words"] vs) H:=by
 obtain ⟨k,a,p,h,w,g,ns,cs,rfl,ha,F,hp,hc,hn,q⟩:=h
 obtain ⟨h0,h1,w0,w1,m16,g0,g1⟩:=id F
 have mpos:0≤h*w:=Int.mul_nonneg (by omega) (by omega)
 show iX K _ [some (.ref a),some (.str (tx (nmC k))),some (.ref p)] H
 unfold iX
 rw [aB,aJ]
 walk_at "w"
 rw [wT]
 cases hk:allK k with
 | false=>
  obtain ⟨c1,c2,c3,c4,rfl⟩:=hc.told hk
  walk_at "w"
  exact ⟨a,p,h,w,g,ns,rfl,ha,F,hp,c1,c2,c3,c4,q⟩
 | true=>
  obtain ⟨rfl,rfl⟩:=hc.all hk
  walk_at "w"
  rw [aJ]
  walk_at "w"
  refine ⟨aG (by decide),fun z hz=>?_⟩
  have s1:Same H (upd H z (.lst [])):=(Same.refl H).laid hz
  refine zy (xs:=[]) (ys:=[]) (s1 _ _ hp) ae (fun x hx=>nomatch hx) (fun x hx=>nomatch hx) ?_
  generalize upd H z (.lst [])=H1 at*
  walk_at "w"
  refine ⟨a,h,w,g,rfl,s1 _ _ ha,h0,h1,?_⟩
  walk_at "w"
  refine ⟨h*w,rfl,by omega,by omega,fun l hl=>?_⟩
  exact q l _ (s1.laid hl) (s1.free hl) ae
def eQ (K:PySem.W.Frag) (c:RCl RK):Sp:=fun vs H Q _=>∃ (k:RK) (p W C:Addr) (ws:List (List Nat)) (cs:List Int) (n m:Int),vs=[.ref p,.ref W,.ref C,.int n,.int m]∧k≠.Rule∧c.ok k=true∧H W=some (.lst (((nmC k::ws).map tx).map V.str))∧H C=some (.lst (cs.map V.int))∧
 ∀ r H',Same H H'→H r=none→IsRule H' c k r p (nmC k::ws) cs n m→Q (.ref r) H'
theorem vA {K:PySem.W.Frag} {c:RCl RK} {vs:List V} {H:Hp} {Q:VK} {E:XK} (h:eQ K c vs H Q E):vs.length=5:=by
 obtain ⟨_,_,_,_,_,_,_,_,rfl,_⟩:=h; rfl
def jL (K:PySem.W.Frag) (c:RCl RK):TS:=
 (tSeq (tAsg (tOp cIx (tVar 1) (tC (.int 0))) (gName 5))
  (tSeq (tIfS (tTest (tOp (cEq K) (tVar 5) (tC (.str (tx [117,110,108,105,107,101]))))) (tRet (tMake (c.A .Unlike) (al K c) [] E0 (tCons (tVar 0) (tCons (tVar 1) (tCons (tVar 2) (tCons (tVar 3) (tCons (tVar 4) tNil))))))) tNext)
  (tSeq (tIfS (tTest (tOp (cEq K) (tVar 5) (tC (.str (tx [115,117,109]))))) (tRet (tMake (c.A .Sum) (al K c) [] E0 (tCons (tVar 0) (tCons (tVar 1) (tCons (tVar 2) (tCons (tVar 3) (tCons (tVar 4) tNil))))))) tNext)
  (tSeq (tIfS (tTest (tOp (cEq K) (tVar 5) (tC (.str (tx [114,105,115,105,110,103]))))) (tRet (tMake (c.A .Rising) (al K c) [] E0 (tCons (tVar 0) (tCons (tVar 1) (tCons (tVar 2) (tCons (tVar 3) (tCons (tVar 4) tNil))))))) tNext)
  (tSeq (tIfS (tTest (tOp (cEq K) (tVar 5) (tC (.str (tx [115,101,101,110]))))) (tRet (tMake (c.A .Seen) (al K c) [] E0 (tCons (tVar 0) (tCons (tVar 1) (tCons (tVar 2) (tCons (tVar 3) (tCons (tVar 4) tNil))))))) tNext)
  (tSeq (tIfS (tTest (tOp (cEq K) (tVar 5) (tC (.str (tx [99,111,117,110,116]))))) (tRet (tMake (c.A .Count) (al K c) [] E0 (tCons (tVar 0) (tCons (tVar 1) (tCons (tVar 2) (tCons (tVar 3) (tCons (tVar 4) tNil))))))) tNext)
  (tSeq (tIfS (tTest (tOp (cEq K) (tVar 5) (tC (.str (tx [106,111,105,110,101,100]))))) (tRet (tMake (c.A .Joined) (al K c) [] E0 (tCons (tVar 0) (tCons (tVar 1) (tCons (tVar 2) (tCons (tVar 3) (tCons (tVar 4) tNil))))))) tNext)
  (tSeq (tIfS (tTest (tOp (cEq K) (tVar 5) (tC (.str (tx [110,111,115,113,117,97,114,101]))))) (tRet (tMake (c.A .NoSquare) (al K c) [] E0 (tCons (tVar 0) (tCons (tVar 1) (tCons (tVar 2) (tCons (tVar 3) (tCons (tVar 4) tNil))))))) tNext)
  (tSeq (tIfS (tTest (tOp (cEq K) (tVar 5) (tC (.str (tx [114,105,110,103]))))) (tRet (tMake (c.A .Ring) (al K c) [] E0 (tCons (tVar 0) (tCons (tVar 1) (tCons (tVar 2) (tCons (tVar 3) (tCons (tVar 4) tNil))))))) tNext)
  cu)))))))))
theorem yF {K:PySem.W.Frag} {c:RCl RK} {H:Hp} {Q:VK} {k:RK} {p W C:Addr} {ws:List (List Nat)} {cs:List Int} {n m:Int} (ok:c.ok k=true) (hW:H W=some (.lst ((ws.map tx).map V.str))) (hC:H C=some (.lst (cs.map V.int))) (q:∀ r H',Same H H'→H r=none→IsRule H' c k r p ws cs n m→Q (.ref r) H'):
  ∀ x dx,H x=none→H dx=none→dx≠x→al K c (.ref x::([.ref p,.ref W,.ref C,.int n,.int m]++[])) (upd (upd H dx (.own x)) x (.ins (c.A k) dx [])) (fun v H2=>v=.non∧Q (.ref x) H2) E0:=by
 intro x dx hx hd ne
 refine ⟨k,x,dx,p,W,C,ws,cs,n,m,rfl,ok,ae,au hW hx,au hC hx,?_,?_,fun H' hs hr=>⟨rfl,q x H' (fun b o e=>hs b o (au e hx) ?_) hx hr⟩⟩
 · rw [ai (au hW hx),ai (au hW hd)]; exact hW
 · rw [ai (au hC hx),ai (au hC hd)]; exact hC
 · rw [ai (au e hx),ai (au e hd)]; exact e
theorem vB {K:PySem.W.Frag} {c:RCl RK} {vs:List V} {H:Hp} {Q:VK} {E:XK} (h:eQ K c vs H Q E):jL K c { nx:=fun _ H'=>Q .non H',rt:=Q } (start ["floor","words","cells","amount","mark","name"] vs) H:=by
 obtain ⟨k,p,W,C,ws,cs,n,m,rfl,hk,ok,hW,hC,q⟩:=h
 have mk:=yF (K:=K) ok hW hC q
 have e0:atI (((nmC k::ws).map tx).map V.str) 0=some (V.str (tx (nmC k))):=b8 (j:=0) rfl
 show jL K c _ [some (.ref p),some (.ref W),some (.ref C),some (.int n),some (.int m),none] H
 unfold jL
 walk_at "w"
 refine ixL hW e0 ?_
 have D:∀ (l:List Nat) (t:TS) (u:TS) (D:Ends) (b:Bool),decide (nmC k=l)=b→(if b=true then t D [some (.ref p),some (.ref W),some (.ref C),some (.int n),some (.int m),some (.str (tx (nmC k)))] H else u D [some (.ref p),some (.ref W),some (.ref C),some (.int n),some (.int m),some (.str (tx (nmC k)))] H)→
   tIfS (tTest (tOp (cEq K) (tVar 5) (tC (.str (tx l))))) t u D [some (.ref p),some (.ref W),some (.ref C),some (.int n),some (.int m),some (.str (tx (nmC k)))] H:=fun l t u D b hb hq=>by
  rw [aJ]
  walk_at "w"
  rw [pp,hb]
  exact hq
 have R:∀ (D:Ends),D.rt=Q→tRet (tMake (c.A k) (al K c) [] E0 (tCons (tVar 0) (tCons (tVar 1) (tCons (tVar 2) (tCons (tVar 3) (tCons (tVar 4) tNil)))))) D [some (.ref p),some (.ref W),some (.ref C),some (.int n),some (.int m),some (.str (tx (nmC k)))] H:=fun D hD=>by
  walk_at "w"
  rw [hD]
  exact mk
 cases k with
 | Rule=>exact absurd rfl hk
 | Unlike=>exact D _ _ _ _ true (by decide) (iteT (R _ rfl))
 | Sum=>exact D _ _ _ _ false (by decide) (iteF (D _ _ _ _ true (by decide) (iteT (R _ rfl))))
 | Rising=>exact D _ _ _ _ false (by decide) (iteF (D _ _ _ _ false (by decide) (iteF (D _ _ _ _ true (by decide) (iteT (R _ rfl))))))
 | Seen=>exact D _ _ _ _ false (by decide) (iteF (D _ _ _ _ false (by decide) (iteF (D _ _ _ _ false (by decide) (iteF (D _ _ _ _ true (by decide) (iteT (R _ rfl))))))))
 | Count=>exact D _ _ _ _ false (by decide) (iteF (D _ _ _ _ false (by decide) (iteF (D _ _ _ _ false (by decide) (iteF (D _ _ _ _ false (by decide) (iteF (D _ _ _ _ true (by decide) (iteT (R _ rfl))))))))))
 | Joined=>exact D _ _ _ _ false (by decide) (iteF (D _ _ _ _ false (by decide) (iteF (D _ _ _ _ false (by decide) (iteF (D _ _ _ _ false (by decide) (iteF (D _ _ _ _ false (by decide) (iteF (D _ _ _ _ true (by decide) (iteT (R _ rfl))))))))))))
 | NoSquare=>exact D _ _ _ _ false (by decide) (iteF (D _ _ _ _ false (by decide) (iteF (D _ _ _ _ false (by decide) (iteF (D _ _ _ _ false (by decide) (iteF (D _ _ _ _ false (by decide) (iteF (D _ _ _ _ false (by decide) (iteF (D _ _ _ _ true (by decide) (iteT (R _ rfl))))))))))))))
 | Ring=>exact D _ _ _ _ false (by decide) (iteF (D _ _ _ _ false (by decide) (iteF (D _ _ _ _ false (by decide) (iteF (D _ _ _ _ false (by decide) (iteF (D _ _ _ _ false (by decide) (iteF (D _ _ _ _ false (by decide) (iteF (D _ _ _ _ false (by decide) (iteF (D _ _ _ _ true (by decide) (iteT (R _ rfl))))))))))))))))
def rowW (k:RK) (n m:Nat) (ns:List Nat):List (List Nat):=nmC k::((if numK k then [numC n] else [])++(if sgnK k then [numC m] else [])++ns.map numC)
structure tU (k:RK) (h w g:Int) (n m:Nat) (ns:List Nat) (cs:List Int):Prop where
 k0:k≠.Rule
 n0:n≤99
 nz:numK k=false→n=0
 m0:sgnK k=true→1≤(m:Int)∧(m:Int)≤g
 mz:sgnK k=false→m=0
 cl:qu k h w ns cs
 ns0:∀ x∈ns,x < 100
 len:ns.length≤16
def c9 (K:PySem.W.Frag) (c:RCl RK):Sp:=fun vs H Q _=>∃ (k:RK) (p:Addr) (h w g:Int) (n m:Nat) (ns:List Nat) (cs:List Int),vs=[.ref p,.str (tx (catL 32 (rowW k n m ns)))]∧IsFl H p h w g∧FlOk h w g∧tU k h w g n m ns cs∧c.ok k=true∧
 ∀ r H',Same H H'→H r=none→IsRule H' c k r p (rowW k n m ns) cs n m→Q (.ref r) H'
theorem tV {K:PySem.W.Frag} {c:RCl RK} {vs:List V} {H:Hp} {Q:VK} {E:XK} (h:c9 K c vs H Q E):vs.length=2:=by
 obtain ⟨_,_,_,_,_,_,_,_,_,rfl,_⟩:=h; rfl
def dP (K:PySem.W.Frag) (c:RCl RK):TS:=
 (tRet (tCall (eQ K c) [] E0 (tCons (tVar 0) (tCons (tVar 2) (tCons (tCall (dH K) [] E0 (tCons (tVar 0) (tCons (tVar 3) (tCons (tVar 4) tNil)))) (tCons (tVar 5) (tCons (tVar 6) tNil)))))))
def gU (K:PySem.W.Frag) (c:RCl RK):TS:=
 (tSeq (tAsg (tOp cIx (tVar 2) (tC (.int 0))) (gName 3))
  (tSeq (tAsg (tSl cP (tVar 2) (tPart (tC (.int 1))) bq) (gName 4))
  (tSeq (tAsg (tC (.int 0)) (gName 5))
  (tSeq (tAsg (tC (.int 0)) (gName 6))
  (tSeq (tIfS (tB (tInG cf false (tVar 3))) (tSeq (tAsg (tCall (bj K) [] E0 (tCons (tVar 4) (tCons (tC (.int 0)) (tCons (tC (.int 99)) tNil)))) (gName 5))
  (tAsg (tSl cP (tVar 4) (tPart (tC (.int 1))) bq) (gName 4))) tNext)
  (tSeq (tIfS (tB (tInG cw false (tVar 3))) (tSeq (tAsg (tCall (bj K) [] E0 (tCons (tVar 4) (tCons (tC (.int 1)) (tCons (tOp cIx (tVar 0) (tC (.int 2))) tNil)))) (gName 6))
  (tAsg (tSl cP (tVar 4) (tPart (tC (.int 1))) bq) (gName 4))) tNext)
  (dP K c)))))))
def gW (K:PySem.W.Frag) (c:RCl RK):TS:=
 (tSeq (tIfS (tNot (tB (tCB kIsi (tCons (tVar 1) (tCons (tC (.ty "str")) tNil))))) cu tNext)
  (tSeq (tAsg (tBM K "str" i6 (tVar 1) (tCons (tC (.str (tx [32]))) tNil)) (gName 2))
  (gU K c)))
theorem yG (k:RK):32∉nmC k:=by cases k <;> decide
theorem z5 (k:RK):∀ c∈nmC k,c < 128:=by cases k <;> decide
theorem rF {k:RK} {n m:Nat} {ns:List Nat} (hn:n < 100) (hm:m < 100) (hs:∀ x∈ns,x < 100):∀ r∈rowW k n m ns,32∉r:=by
 intro r hr
 unfold rowW at hr
 rcases List.mem_cons.mp hr with rfl | hr
 · exact yG k
 rcases List.mem_append.mp hr with hr | hr
 · rcases List.mem_append.mp hr with hr | hr
   · split at hr
     · rw [List.mem_singleton.mp hr]; exact ol hn
     · cases hr
   · split at hr
     · rw [List.mem_singleton.mp hr]; exact ol hm
     · cases hr
 · obtain ⟨x,hx,rfl⟩:=List.mem_map.mp hr
   exact ol (hs x hx)
theorem xM (xs:List V):cutV xs (some 1) none=xs.drop 1:=by
 unfold cutV
 have h1:HT.sIx xs.length 0 (some 1)=min 1 xs.length:=HT.sIx_nat ..
 have h2:HT.sIx xs.length xs.length none=xs.length:=rfl
 rw [h1,h2]
 cases xs with
 | nil=>rfl
 | cons x r=>
  have:min 1 (x::r).length=1:=by simp
  rw [this]
  show (r).take _=r
  rw [List.take_of_length_le (by simp)]
theorem kz {K:PySem.W.Frag} {c:RCl RK} {H:Hp} {Q:VK} {k:RK} {p W R:Addr} {h w g:Int} {n m:Nat} {ws:List (List Nat)} {ns:List Nat} {cs:List Int} {lv:V} (F:FlOk h w g) (ha:IsFl H p h w g) (hW:H W=some (.lst (((nmC k::ws).map tx).map V.str))) (hR:H R=some (.lst (((ns.map numC).map tx).map V.str))) (hc:qu k h w ns cs) (hn:∀ x∈ns,x < 100) (k0:k≠.Rule) (ok:c.ok k=true)
  (q:∀ r H',Same H H'→H r=none→IsRule H' c k r p (nmC k::ws) cs n m→Q (.ref r) H'):
  dP K c { nx:=fun _ H'=>Q .non H',rt:=Q } [some (.ref p),some lv,some (.ref W),some (.str (tx (nmC k))),some (.ref R),some (.int n),some (.int m)] H:=by
 unfold dP
 walk_at "w"
 refine ⟨k,p,R,h,w,g,ns,cs,rfl,ha,F,hR,hc,hn,fun l H1 s1 hl el=>?_⟩
 walk_at "w"
 exact ⟨k,p,W,l,ws,cs,n,m,rfl,k0,ok,s1 _ _ hW,el,fun r H2 s2 hr x=>q r H2 (s1.trans s2) (s1.free hr) x⟩
theorem kG {k:RK} {n m:Nat} {ns:List Nat} (h:ns.length≤16):(rowW k n m ns).length≤100∧∀ w∈rowW k n m ns,w.length≤100:=by
 unfold rowW
 refine ⟨?_,fun w hw=>?_⟩
 · simp only [List.length_cons,List.length_append,List.length_map]
   split <;> split <;> simp <;> omega
 · rcases List.mem_cons.mp hw with rfl | hw
   · cases k <;> decide
   have h2:∀ x,(numC x).length≤100:=fun x=>Nat.le_trans cB (by decide)
   rcases List.mem_append.mp hw with hw | hw
   · rcases List.mem_append.mp hw with hw | hw
     · split at hw
       · rw [List.mem_singleton.mp hw]; exact h2 _
       · cases hw
     · split at hw
       · rw [List.mem_singleton.mp hw]; exact h2 _
       · cases hw
   · obtain ⟨x,hx,rfl⟩:=List.mem_map.mp hw
     exact h2 _
theorem lJ:∀ (rows:List (List Nat)),(∀ r∈rows,r.length≤100)→(catL 32 rows).length≤101*rows.length
 | [],_=>Nat.zero_le _
 | [x],h=>by
  have:=h x List.mem_cons_self
  show x.length≤101*1
  omega
 | x::y::r,h=>by
  have h1:=h x List.mem_cons_self
  have ih:=lJ (y::r) fun z hz=>h z (List.mem_cons_of_mem _ hz)
  have e:catL 32 (x::y::r)=x++32::catL 32 (y::r):=by first | rfl | simp [catL]
  rw [e,List.length_append,List.length_cons,List.length_cons]
  omega
theorem qv {H:Hp} {Q:VK} {p:Addr} {x:Str} {xs:List Str} (hp:H p=some (.lst ((x::xs).map V.str))) (q:∀ l,H l=none→Q (.ref l) (upd H l (.lst (xs.map V.str)))):cP (.ref p) (some 1) none H Q:=by
 refine jI hp fun l hl=>?_
 rw [xM]
 exact q l hl
theorem pD {K:PySem.W.Frag} {c:RCl RK} {H:Hp} {Q:VK} {k:RK} {p W:Addr} {h w g:Int} {n m:Nat} {ns:List Nat} {cs:List Int} {lv:V} (F:FlOk h w g) (ha:IsFl H p h w g) (hW:H W=some (.lst (((rowW k n m ns).map tx).map V.str))) (O:tU k h w g n m ns cs) (ok:c.ok k=true)
  (q:∀ r H',Same H H'→H r=none→IsRule H' c k r p (rowW k n m ns) cs n m→Q (.ref r) H'):
  gU K c { nx:=fun _ H'=>Q .non H',rt:=Q } [some (.ref p),some lv,some (.ref W),none,none,none,none] H:=by
 obtain ⟨k0,n0,nz,m0,mz,cl,ns0,len⟩:=O
 obtain ⟨h0,h1,w0,w1,m16,g0,g1⟩:=id F
 have e0:atI (((rowW k n m ns).map tx).map V.str) 0=some (V.str (tx (nmC k))):=b8 (j:=0) rfl
 have hns:WOk (ns.map numC):=fun v hv=>by obtain ⟨x,hx,rfl⟩:=List.mem_map.mp hv; exact jZ (ns0 x hx)
 unfold gU
 walk_at "w"
 refine ixL hW e0 ?_
 walk_at "w"
 refine qv hW fun R hR=>?_
 have s1:Same H (upd H R (.lst ((((if numK k then [numC n] else [])++(if sgnK k then [numC m] else [])++ns.map numC).map tx).map V.str))):=(Same.refl H).laid hR
 have eR:(upd H R (.lst ((((if numK k then [numC n] else [])++(if sgnK k then [numC m] else [])++ns.map numC).map tx).map V.str))) R=some (.lst ((((if numK k then [numC n] else [])++(if sgnK k then [numC m] else [])++ns.map numC).map tx).map V.str)):=ae
 generalize upd H R (.lst ((((if numK k then [numC n] else [])++(if sgnK k then [numC m] else [])++ns.map numC).map tx).map V.str))=H1 at*
 walk_at "w"
 have two:∀ {H2:Hp} {R2:Addr},Same H H2→H2 R2=some (.lst ((((if sgnK k then [numC m] else [])++ns.map numC).map tx).map V.str))→
   tSeq (tIfS (tB (tInG cw false (tVar 3))) (tSeq (tAsg (tCall (bj K) [] E0 (tCons (tVar 4) (tCons (tC (.int 1)) (tCons (tOp cIx (tVar 0) (tC (.int 2))) tNil)))) (gName 6)) (tAsg (tSl cP (tVar 4) (tPart (tC (.int 1))) bq) (gName 4))) tNext) (dP K c) { nx:=fun _ H'=>Q .non H',rt:=Q }
    [some (.ref p),some lv,some (.ref W),some (.str (tx (nmC k))),some (.ref R2),some (.int n),some (.int 0)] H2:=by
  intro H2 R2 s2 eR2
  rw [aB,aJ]
  walk_at "w"
  rw [wV]
  cases hs:sgnK k with
  | false=>
   rw [hs] at eR2
   have:=mz hs
   subst this
   walk_at "w"
   exact kz F (s2 _ _ ha) (s2 _ _ hW) eR2 cl ns0 k0 ok fun r H3 s3 hr x=>q r H3 (s2.trans s3) (s2.free hr) x
  | true=>
   rw [hs] at eR2
   have hm:=m0 hs
   walk_at "w"
   refine ixT (s2 _ _ ha) (v:=V.int g) rfl ?_
   walk_at "w"
   refine ⟨R2,m,ns.map numC,1,g,rfl,eR2,by omega,hns,hm.1,hm.2,fun H3 s3=>?_⟩
   walk_at "w"
   refine qv (s3 _ _ eR2) fun R3 hR3=>?_
   have s4:Same H3 (upd H3 R3 (.lst (((ns.map numC).map tx).map V.str))):=(Same.refl H3).laid hR3
   have s24:=(s2.trans s3).trans s4
   exact kz F (s24 _ _ ha) (s24 _ _ hW) ae cl ns0 k0 ok fun r H5 s5 hr x=>q r H5 (s24.trans s5) (s24.free hr) x
 rw [aJ]
 walk_at "w"
 rw [wU]
 cases hn:numK k with
 | false=>
  rw [hn] at eR
  have:=nz hn
  subst this
  walk_at "w"
  exact two s1 eR
 | true=>
  rw [hn] at eR
  walk_at "w"
  refine ⟨R,n,(if sgnK k then [numC m] else [])++ns.map numC,0,99,rfl,eR,by omega,?_,by omega,by omega,fun H3 s3=>?_⟩
  · intro v hv
    rcases List.mem_append.mp hv with hv | hv
    · split at hv
      · rename_i hs
        have:=m0 hs
        rw [List.mem_singleton.mp hv]; exact jZ (by omega)
      · cases hv
    · exact hns v hv
  walk_at "w"
  refine qv (s3 _ _ eR) fun R3 hR3=>?_
  have s4:Same H3 (upd H3 R3 (.lst ((((if sgnK k then [numC m] else [])++ns.map numC).map tx).map V.str))):=(Same.refl H3).laid hR3
  walk_at "w"
  exact two ((s1.trans s3).trans s4) ae
theorem tW {K:PySem.W.Frag} {c:RCl RK} {vs:List V} {H:Hp} {Q:VK} {E:XK} (h:c9 K c vs H Q E):gW K c { nx:=fun _ H'=>Q .non H',rt:=Q } (start ["floor","line","words","name","rest","amount","mark"] vs) H:=by
 obtain ⟨k,p,h,w,g,n,m,ns,cs,rfl,ha,F,O,ok,q⟩:=h
 have hm:m < 100:=by
  by_cases hs:sgnK k=true
  · have:=(O.m0 hs).2
    have:=F.g1
    omega
  · have:=O.mz (by simpa using hs)
    omega
 have hsp:Txt.split (tx (catL 32 (rowW k n m ns))) (tx [32])=(rowW k n m ns).map tx:=tG (by simp [rowW]) (rF (by have:=O.n0; omega) hm O.ns0)
 have hl:=kG (k:=k) (n:=n) (m:=m) O.len
 have hl2:=lJ _ hl.2
 show gW K c _ [some (.ref p),some (.str (tx (catL 32 (rowW k n m ns)))),none,none,none,none,none] H
 unfold gW
 rw [aB,aJ]
 walk_at "w"
 refine ⟨lB,?_⟩
 rw [uM,hsp]
 refine ⟨by rw [bT]; decide,by rw [bT]; exact Nat.le_of_lt (Nat.lt_of_le_of_lt hl2 (Nat.lt_of_le_of_lt (Nat.mul_le_mul_left 101 hl.1) (by decide))),by rw [List.length_map]; exact aG (by omega),fun W hW=>?_⟩
 have s1:Same H (upd H W (.lst (((rowW k n m ns).map tx).map V.str))):=(Same.refl H).laid hW
 exact pD F (s1 _ _ ha) ae O ok fun r H2 s2 hr x=>q r H2 (s1.trans s2) (s1.free hr) x
theorem rG {α β:Type} (f:α→β):∀ (l:List α) (j:Nat),(l.map f).eraseIdx j=(l.eraseIdx j).map f
 | [],_=>rfl
 | _::_,0=>rfl
 | x::r,j+1=>by
  show f x::(r.map f).eraseIdx j=f x::(r.eraseIdx j).map f
  rw [rG f r j]
theorem pE {α:Type}:∀ (l:List α) (j:Nat) (h:j < l.length),(l[j]::l.eraseIdx j).Perm l
 | [],_,h=>absurd h (by simp)
 | x::r,0,_=>List.Perm.refl _
 | x::r,j+1,h=>by
  have hj:j < r.length:=by simpa using h
  have ih:=pE r j hj
  show (r[j]::x::r.eraseIdx j).Perm (x::r)
  exact (List.Perm.swap x r[j] (r.eraseIdx j)).trans (List.Perm.cons x ih)
theorem mj {α β:Type} (f:α→β):∀ {l:List α},(l.map f).Nodup→l.Nodup
 | [],_=>List.nodup_nil
 | a::r,h=>by
  rw [List.map_cons,List.nodup_cons] at h
  rw [List.nodup_cons]
  exact ⟨fun z=>h.1 (List.mem_map.mpr ⟨a,z,rfl⟩),mj f h.2⟩
theorem wW (n:Int):(rngL 0 n).Nodup:=by
 unfold rngL
 have e:(List.range (n - 0).toNat).map (fun (k:Nat)=>0+(k:Int))=(List.range (n - 0).toNat).map fun (k:Nat)=>(k:Int):=List.map_congr_left fun k _=>by omega
 rw [e]
 exact lI List.nodup_range
theorem yH {n x:Int} (h:x∈rngL 0 n):0≤x∧x < n:=by
 unfold rngL at h
 obtain ⟨k,hk,rfl⟩:=List.mem_map.mp h
 have:=List.mem_range.mp hk
 omega
theorem j2 {n:Nat} (h:n < 100):((n:Int)).natAbs.log2 < 1920:=by
 have t:((List.range 100).all fun n=>decide (n.log2 < 1920))=true:=by decide+kernel
 have:=List.all_eq_true.mp t n (List.mem_range.mpr h)
 simpa using this
theorem qw {H:Hp} {Q:VK} {n:Nat} (h:n < 100) (q:Q (.str (tx (numC n))) H):kStr [.int (n:Int)] H Q:=by
 refine ⟨j2 h,?_⟩
 rw [jY h]
 exact q
theorem rH {K:PySem.W.Frag} {H:Hp} {C:Addr} {cs:List Nat} {fin:Addr→Hp→Prop} (hC:H C=some (.lst ((cs.map fun (n:Nat)=>(n:Int)).map V.int))) (hl:cs.length≤100) (hc:∀ c∈cs,c < 100)
  (hd:∀ l H',H l=none→Same H H'→H' l=some (.lst (((cs.map numC).map tx).map V.str))→fin l H'):CompR (Itl K C) (gName 1) tTrue (tCB kStr (tCons (tVar 1) tNil)) fin [none,none] H:=by
 refine bB (xs:=(cs.map fun (n:Nat)=>(n:Int)).map V.int) (fun _=>true) (fun i=>.str (tx (numC (cs.getD i 0)))) (by simp; omega) (SqL.of hC) ?_ ?_ ?_
 · intro i x H1 R hx s1 k1
   exact k1 _ (Same.refl _)
 · intro i x H1 Q1 hx hb s1 k1
   rw [List.getElem?_map,List.getElem?_map] at hx
   cases e:cs[i]? with
   | none=>rw [e] at hx; cases hx
   | some n=>
    rw [e] at hx
    cases hx
    show tCB kStr _ [none,some (.int (n:Int))] H1 Q1
    walk_at "w"
    have q1:=k1 _ (Same.refl H1)
    have eg:cs.getD i 0=n:=by rw [List.getD,e]; rfl
    rw [eg] at q1
    have:=qw (H:=H1) (Q:=Q1) (hc n (List.mem_of_getElem? e)) q1
    exact this
 · intro l H1 hl1 s1 el
   refine hd l H1 hl1 s1 ?_
   rw [el,bd,List.length_map,List.length_map,List.map_map,List.map_map]
   congr 2
   refine List.ext_getElem? fun i=>?_
   rw [List.getElem?_map,List.getElem?_map]
   by_cases h:i < cs.length
   · rw [List.getElem?_range h,List.getElem?_eq_getElem h]
     simp [List.getD,h]
   · rw [List.getElem?_eq_none (by simpa using h),List.getElem?_eq_none (by omega)]; rfl
theorem xN {c:Nat} {x:List Nat}:∀ {rs:List (List Nat)},rs≠[]→catL c (x::rs)=x++c::catL c rs
 | [],h=>absurd rfl h
 | y::r,_=>by first | rfl | simp [catL]
end L2
namespace L2
open PySem PySem.Spec PyProof.Rows
section
variable {X:Cx} {a:Expr} {ta:TE} {pos p:Pos} {x:Str} {ws:List Str}
theorem pF (G:GTup X.K X.mg x ws) (ha:PE X a ta) (hg:Gl X x) (hdb:(x==("__debug__":Str))=false:=by decide) (hm:behindInMarks .In (.Name x p)=false:=by with_unfolding_all rfl):PT X (.Compare a [.In] [.Name x p] pos) (tB (tInG ws false ta)):=by
 obtain ⟨q,o,its,n,h1,h2⟩:=G.ex
 have h0:=ar (pos:=pos) (zv ⟨o,its,n,h2⟩) ha (bc (v:=V.ref q) hg h1 rfl hdb) hm
 intro pins s σ H Q I h
 refine h0 pins s σ H Q I ?_
 have e:(fun (x:V) (H1:Hp)=>∃ z,x=.str z∧∃ k,V.bl (if false=true then !decide (z∈ws) else decide (z∈ws))=.bl k∧Q k H1)=fun x H1=>∃ z,x=.str z∧(V.ref q=V.ref q)∧∃ k,V.bl (decide (z∈ws))=.bl k∧Q k H1:=by
  funext x H1; simp
 have h':ta σ H (fun (x:V) (H1:Hp)=>∃ z,x=.str z∧∃ k,V.bl (if false=true then !decide (z∈ws) else decide (z∈ws))=.bl k∧Q k H1):=h
 rw [e] at h'
 exact h'
theorem uU (G:GTup X.K X.mg x ws) (ha:PE X a ta) (hg:Gl X x) (hdb:(x==("__debug__":Str))=false:=by decide) (hm:behindInMarks .NotIn (.Name x p)=false:=by with_unfolding_all rfl):PT X (.Compare a [.NotIn] [.Name x p] pos) (tB (tInG ws true ta)):=by
 obtain ⟨q,o,its,n,h1,h2⟩:=G.ex
 have h0:=ar (pos:=pos) (yA ⟨o,its,n,h2⟩) ha (bc (v:=V.ref q) hg h1 rfl hdb) hm
 intro pins s σ H Q I h
 refine h0 pins s σ H Q I ?_
 have e:(fun (x:V) (H1:Hp)=>∃ z,x=.str z∧∃ k,V.bl (if true=true then !decide (z∈ws) else decide (z∈ws))=.bl k∧Q k H1)=fun x H1=>∃ z,x=.str z∧(V.ref q=V.ref q)∧∃ k,V.bl (!decide (z∈ws))=.bl k∧Q k H1:=by
  funext x H1; simp
 have h':ta σ H (fun (x:V) (H1:Hp)=>∃ z,x=.str z∧∃ k,V.bl (if true=true then !decide (z∈ws) else decide (z∈ws))=.bl k∧Q k H1):=h
 rw [e] at h'
 exact h'
end
end L2
namespace L2
open PySem PySem.Spec PyProof.Rows
local macro_rules | `(tactic| walk_at "w")=>`(tactic| (first | simp only [aB,lh,ku,iD,li,jW,jX,mX,lE,lb,mV,if_true,if_false,Bool.false_eq_true,decide_true,decide_false,jS,jT,mT,ir,gj,jQ,la,jR,iq,k8,k9,ip,mR,iu,iw,iz,iA,iB,iC,iy,lc,le,lf,k7,mS,Bool.not_true,Bool.not_false,aX,jo,bY,eh,w_c,kC,iT,gu,fE,fF,w_b,w_not,jp,lx,gw,gy,jq,iU,fG,kD,gz,jr,js,kE,jt,fH,gA,gB,gD,ei,eu,dF,df,dg,cK,ju,jv,jw,jx,jy,jz,jA,jB,jC,jD,jE,jF,lz,gE,di,gF,lA,gG,eE,dj,jG,jH,gH,fI,gI,
 List.getElem?_cons_zero,List.getElem?_cons_succ,Option.some.injEq,exists_eq_left',exists_eq_left,List.set_cons_zero,List.set_cons_succ,cO,V.int.injEq,V.bl.injEq,V.ref.injEq,V.str.injEq,List.append_nil,List.nil_append,List.cons_append] | dsimp only | skip))
inductive PzK where
 | Puzzle
 deriving DecidableEq
structure RR where
 k:RK
 n:Nat
 m:Nat
 ns:List Nat
 cs:List Int
def RR.ws (r:RR):List (List Nat):=rowW r.k r.n r.m r.ns
def RR.txt (r:RR):Str:=tx (catL 32 r.ws)
def RR.Ok (r:RR) (h w g:Int):Prop:=tU r.k h w g r.n r.m r.ns r.cs
theorem wX:∀ {rs:List (List Nat)},(∀ r∈rs,∀ c∈r,c < 128)→∀ c∈catL 32 rs,c < 128
 | [],_,c,hc=>by simp [catL] at hc
 | [x],h,c,hc=>h x List.mem_cons_self c (by first | exact hc | simpa [catL] using hc)
 | x::y::r,h,c,hc=>by
  rw [xN (by simp)] at hc
  rcases List.mem_append.mp hc with hc | hc
  · exact h x List.mem_cons_self c hc
  rcases List.mem_cons.mp hc with rfl | hc
  · decide
  · exact wX (fun z hz=>h z (List.mem_cons_of_mem _ hz)) c hc
theorem RR.wok {r:RR} {h w g:Int} (F:FlOk h w g) (O:r.Ok h w g):∀ x∈r.ws,∀ c∈x,c < 128:=by
 intro x hx
 unfold RR.ws rowW at hx
 have hm:r.m < 100:=by
  by_cases hs:sgnK r.k=true
  · have:=(O.m0 hs).2
    have:=F.g1
    omega
  · have:=O.mz (by simpa using hs)
    omega
 have hn:=O.n0
 rcases List.mem_cons.mp hx with rfl | hx
 · exact z5 r.k
 rcases List.mem_append.mp hx with hx | hx
 · rcases List.mem_append.mp hx with hx | hx
   · split at hx
     · rw [List.mem_singleton.mp hx]; exact jZ (by omega)
     · cases hx
   · split at hx
     · rw [List.mem_singleton.mp hx]; exact jZ hm
     · cases hx
 · obtain ⟨y,hy,rfl⟩:=List.mem_map.mp hx
   exact jZ (O.ns0 y hy)
theorem RR.sok {r:RR} {h w g:Int} (F:FlOk h w g) (O:r.Ok h w g):PyData.strOk r.txt=true:=x5 (wX (RR.wok F O))
structure IsRules (H:Hp) (c:RCl RK) (p L:Addr) (rs:List Addr) (rows:List RR):Prop where
 top:H L=some (.lst (rs.map V.ref))
 len:rs.length=rows.length
 at_:∀ (i:Nat) (r:Addr) (x:RR),rs[i]? =some r→rows[i]? =some x→IsRule H c x.k r p x.ws x.cs x.n x.m
theorem IsRules.same {H H':Hp} {c:RCl RK} {p L:Addr} {rs:List Addr} {rows:List RR} (x:IsRules H c p L rs rows) (s:Same H H'):IsRules H' c p L rs rows:=
 ⟨s _ _ x.top,x.len,fun i r y h1 h2=>(x.at_ i r y h1 h2).same s⟩
theorem IsRule.lst {H:Hp} {c:RCl RK} {k:RK} {r p a:Addr} {ws:List (List Nat)} {cs:List Int} {n m:Int} {xs:List V} {o:HO} (x:IsRule H c k r p ws cs n m) (ha:H a=some (.lst xs)):IsRule (upd H a o) c k r p ws cs n m:=by
 obtain ⟨dx,W,C,h1,h2,h3⟩:=x.ex
 refine ⟨x.ok,dx,W,C,?_,?_,?_⟩
 · rw [ai (fun e=>by rw [e,ha] at h1; cases h1)]; exact h1
 · rw [ai (fun e=>by rw [e,ha] at h2; cases h2)]; exact h2
 · rw [ai (fun e=>by rw [e,ha] at h3; cases h3)]; exact h3
def pFs (p L G:Addr):List (Str × V):=[("floor",.ref p),("laws",.ref L),("given",.ref G)]
structure j9 (c:RCl RK) (h w g:Int) (rows:List RR):Prop where
 F:FlOk h w g
 n:rows.length≤12
 ok:∀ r∈rows,r.Ok h w g
 c:∀ r∈rows,c.ok r.k=true
structure CluesOk (h w g:Int) (cl:List Int):Prop where
 len:cl.length=(h*w).toNat
 ok:∀ x∈cl,0≤x∧x≤g
structure IsPz (H:Hp) (c:RCl RK) (d:RCl PzK) (P L G:Addr) (h w g:Int) (rows:List RR) (cl:List Int):Prop where
 ok:d.ok .Puzzle=true
 R:j9 c h w g rows
 C:CluesOk h w g cl
 gv:H G=some (.lst (cl.map V.int))
 ex:∃ dx p rs,H P=some (.ins (d.A .Puzzle) dx (pFs p L G))∧IsFl H p h w g∧IsRules H c p L rs rows
theorem IsPz.same {H H':Hp} {c:RCl RK} {d:RCl PzK} {P L G:Addr} {h w g:Int} {rows:List RR} {cl:List Int} (x:IsPz H c d P L G h w g rows cl) (s:Same H H'):IsPz H' c d P L G h w g rows cl:=by
 obtain ⟨dx,p,rs,h1,h2,h3⟩:=x.ex
 exact ⟨x.ok,x.R,x.C,s _ _ x.gv,dx,p,rs,s _ _ h1,s _ _ h2,h3.same s⟩
def bg (K:PySem.W.Frag):Sp:=fun vs H Q _=>∃ i:Int,vs=[.int i]∧Q (.bl true) H
theorem uw {K:PySem.W.Frag} {vs:List V} {H:Hp} {Q:VK} {E:XK} (h:bg K vs H Q E):vs.length=1:=by
 obtain ⟨_,rfl,_⟩:=h; rfl
def iY (K:PySem.W.Frag):TS:=
 (tRet (tAndV (tCB kIsi (tCons (tVar 0) (tCons (tC (.ty "int")) tNil))) (tNotV (tCB kIsi (tCons (tVar 0) (tCons (tC (.ty "bool")) tNil))))))
theorem ux {K:PySem.W.Frag} {vs:List V} {H:Hp} {Q:VK} {E:XK} (h:bg K vs H Q E):iY K { nx:=fun _ H'=>Q .non H',rt:=Q } (start ["value"] vs) H:=by
 obtain ⟨i,rfl,q⟩:=h
 show iY K _ [some (.int i)] H
 unfold iY
 walk_at "w"
 exact q
def aY (K:PySem.W.Frag):Sp:=fun vs H Q _=>∃ i m:Int,vs=[.int i,.int m]∧Q (.bl (decide (1≤i)&&decide (i≤m))) H
theorem m7 {K:PySem.W.Frag} {vs:List V} {H:Hp} {Q:VK} {E:XK} (h:aY K vs H Q E):vs.length=2:=by
 obtain ⟨_,_,rfl,_⟩:=h; rfl
def cS (K:PySem.W.Frag):TS:=
 (tRet (tAndV (tCall (bg K) [] E0 (tCons (tVar 0) tNil)) (tAndV (tOp (cCmp fun i j=>decide (i≤j)) (tC (.int 1)) (tVar 0)) (tOp (cCmp fun i j=>decide (i≤j)) (tVar 0) (tVar 1)))))
theorem nc {K:PySem.W.Frag} {vs:List V} {H:Hp} {Q:VK} {E:XK} (h:aY K vs H Q E):cS K { nx:=fun _ H'=>Q .non H',rt:=Q } (start ["value","most"] vs) H:=by
 obtain ⟨i,m,rfl,q⟩:=h
 show cS K _ [some (.int i),some (.int m)] H
 unfold cS
 walk_at "w"
 refine ⟨i,rfl,⟨true,rfl,iteT ?_⟩⟩
 walk_at "w"
 cases hb:decide (1≤i) with
 | false=>
  rw [hb,Bool.false_and] at q
  exact iteF q
 | true=>
  rw [hb,Bool.true_and] at q
  exact iteT q
def dI (K:PySem.W.Frag):Sp:=fun vs H Q _=>∃ h w g:Int,vs=[.int h,.int w,.int g]∧FlOk h w g∧∀ p,H p=none→Q (.ref p) (upd H p (.tup [.int h,.int w,.int g]))
theorem uy {K:PySem.W.Frag} {vs:List V} {H:Hp} {Q:VK} {E:XK} (h:dI K vs H Q E):vs.length=3:=by
 obtain ⟨_,_,_,rfl,_⟩:=h; rfl
def iZ (K:PySem.W.Frag):TS:=
 (tSeq (tIfS (tNot (tB (tCall (aY K) [] E0 (tCons (tVar 0) (tCons (tC (.int 6)) tNil))))) cu tNext)
  (tSeq (tIfS (tNot (tB (tCall (aY K) [] E0 (tCons (tVar 1) (tCons (tC (.int 6)) tNil))))) cu tNext)
  (tSeq (tIfS (tTest (tOp (cCmp fun i j=>decide (j < i)) (tOp cMul (tVar 0) (tVar 1)) (tC (.int 16)))) cu tNext)
  (tSeq (tIfS (tNot (tB (tCall (aY K) [] E0 (tCons (tVar 2) (tCons (tC (.int 6)) tNil))))) cu tNext)
  (tRet (tTup (tCons (tVar 0) (tCons (tVar 1) (tCons (tVar 2) tNil)))))))))
theorem uz {K:PySem.W.Frag} {vs:List V} {H:Hp} {Q:VK} {E:XK} (h:dI K vs H Q E):iZ K { nx:=fun _ H'=>Q .non H',rt:=Q } (start ["high","wide","signs"] vs) H:=by
 obtain ⟨h,w,g,rfl,F,q⟩:=h
 obtain ⟨h0,h1,w0,w1,m16,g0,g1⟩:=id F
 show iZ K _ [some (.int h),some (.int w),some (.int g)] H
 unfold iZ
 rw [aB,aJ]
 walk_at "w"
 refine ⟨h,6,rfl,⟨_,rfl,?_⟩⟩
 rw [decide_eq_true h0,decide_eq_true h1,Bool.and_self]
 refine iteF ?_
 rw [aJ]
 walk_at "w"
 refine ⟨w,6,rfl,⟨_,rfl,?_⟩⟩
 rw [decide_eq_true w0,decide_eq_true w1,Bool.and_self]
 refine iteF ?_
 rw [aJ]
 walk_at "w"
 refine ⟨ko h0 h1,?_⟩
 rw [decide_eq_false (show ¬ (16:Int) < h*w by omega)]
 refine iteF ?_
 rw [aJ]
 walk_at "w"
 refine ⟨g,6,rfl,⟨_,rfl,?_⟩⟩
 rw [decide_eq_true g0,decide_eq_true g1,Bool.and_self]
 refine iteF ?_
 walk_at "w"
 exact ⟨aG (by show (3:Nat)≤1000; decide),q⟩
def bK (K:PySem.W.Frag):Sp:=fun vs H Q _=>∃ (p:Addr) (h w g:Int),vs=[.ref p]∧IsFl H p h w g∧FlOk h w g∧∀ p,H p=none→Q (.ref p) (upd H p (.tup [.int h,.int w,.int g]))
theorem or {K:PySem.W.Frag} {vs:List V} {H:Hp} {Q:VK} {E:XK} (h:bK K vs H Q E):vs.length=1:=by
 obtain ⟨_,_,_,_,rfl,_⟩:=h; rfl
def dq (K:PySem.W.Frag):TS:=
 (tSeq (tIfS (tOr (tNot (tB (tCB kIsi (tCons (tVar 0) (tCons (tC (.ty "tuple")) tNil))))) (tTest (tOp (cNe K) (tCB kLen (tCons (tVar 0) tNil)) (tC (.int 3))))) cu tNext)
  (tRet (tCall (dI K) [] E0 (tCons (tOp cIx (tVar 0) (tC (.int 0))) (tCons (tOp cIx (tVar 0) (tC (.int 1))) (tCons (tOp cIx (tVar 0) (tC (.int 2))) tNil))))))
theorem ot {K:PySem.W.Frag} {vs:List V} {H:Hp} {Q:VK} {E:XK} (h:bK K vs H Q E):dq K { nx:=fun _ H'=>Q .non H',rt:=Q } (start ["floor"] vs) H:=by
 obtain ⟨p,h,w,g,rfl,hp,F,q⟩:=h
 show dq K _ [some (.ref p)] H
 unfold dq
 rw [aB,aJ]
 walk_at "w"
 refine zp hp ?_
 walk_at "w"
 rw [zj hp,show (([V.int h,V.int w,V.int g]:List V).length:Int)=3 from rfl]
 walk_at "w"
 refine ixT hp (v:=V.int h) rfl ?_
 walk_at "w"
 refine ixT hp (v:=V.int w) rfl ?_
 walk_at "w"
 refine ixT hp (v:=V.int g) rfl ?_
 walk_at "w"
 exact ⟨h,w,g,rfl,F,q⟩
def cD (K:PySem.W.Frag) (c:RCl RK):Sp:=fun vs H Q _=>∃ (p a:Addr) (h w g:Int) (rows:List RR),vs=[.ref p,.ref a]∧IsFl H p h w g∧H a=some (.lst ((rows.map RR.txt).map V.str))∧j9 c h w g rows∧
 ∀ l rs H',Same H H'→H l=none→IsRules H' c p l rs rows→Q (.ref l) H'
theorem rW {K:PySem.W.Frag} {c:RCl RK} {vs:List V} {H:Hp} {Q:VK} {E:XK} (h:cD K c vs H Q E):vs.length=2:=by
 obtain ⟨_,_,_,_,_,_,rfl,_⟩:=h; rfl
def fU (K:PySem.W.Frag) (c:RCl RK):TS:=
 (tSeq (tIfS (tTest (tOp (cCmp fun i j=>decide (j < i)) (tCB kLen (tCons (tVar 1) tNil)) (tC (.int 12)))) cu tNext)
  (tRet (tComp [none,none,some 0] (iList K (tVar 1)) (gName 1) tTrue (tCall (c9 K c) [] E0 (tCons (tVar 2) (tCons (tVar 1) tNil))))))
theorem rX {K:PySem.W.Frag} {c:RCl RK} {vs:List V} {H:Hp} {Q:VK} {E:XK} (h:cD K c vs H Q E):fU K c { nx:=fun _ H'=>Q .non H',rt:=Q } (start ["floor","lines"] vs) H:=by
 obtain ⟨p,a,h,w,g,rows,rfl,hp,ha,O,q⟩:=h
 have hn:=O.n
 show fU K c _ [some (.ref p),some (.ref a)] H
 unfold fU
 rw [aB,aJ]
 walk_at "w"
 rw [gC ha,List.length_map,List.length_map]
 walk_at "w"
 rw [decide_eq_false (show ¬ (12:Int) < (rows.length:Nat) by omega)]
 refine iteF ?_
 walk_at "w"
 refine ⟨⟨_,SqL.of ha⟩,?_⟩
 refine rq (xs:=(rows.map RR.txt).map V.str) (fun l i σ H'=>(∃ cv,σ=[none,cv,some (.ref p)])∧Same H H'∧∃ rs:List Addr,H' l=some (.lst (rs.map V.ref))∧rs.length=i∧∀ (j:Nat) (r:Addr) (x:RR),rs[j]? =some r→rows[j]? =some x→IsRule H' c x.k r p x.ws x.cs x.n x.m)
  (fun l hl=>⟨⟨none,rfl⟩,(Same.refl H).laid hl,[],by rw [ae]; rfl,rfl,fun j r x e=>by simp at e⟩) (fun l i σ H' _ _ x=>x.2.1.seq (SqL.of ha)) ?_ ?_
 · rintro l i x σ H1 hl hx ⟨⟨cv,rfl⟩,s1,rs,el,hlen,hat⟩
   rw [List.getElem?_map,List.getElem?_map] at hx
   cases e:rows[i]? with
   | none=>rw [e] at hx; cases hx
   | some y=>
    rw [e] at hx
    cases hx
    have hi:=(List.getElem?_eq_some_iff.mp e).1
    have hm:=List.mem_of_getElem? e
    rw [bY]
    show tTrue [none,some (.str y.txt),some (.ref p)] H1 _
    walk_at "w"
    refine ⟨y.k,p,h,w,g,y.n,y.m,y.ns,y.cs,rfl,s1 _ _ hp,O.F,O.ok y hm,O.c y hm,fun r H2 s2 hr xr=>?_⟩
    have nrl:r≠l:=fun z=>by rw [z,el] at hr; cases hr
    refine ⟨_,s2 _ _ el,by rw [List.length_map]; exact aR (by omega),⟨_,rfl⟩,(s1.trans s2).own hl,rs++[r],by rw [ae]; simp,by simp [hlen],fun j r' x' h1 h2=>?_⟩
    by_cases hj:j < rs.length
    · rw [List.getElem?_append_left hj] at h1
      exact ((hat j r' x' h1 h2).same s2).lst (s2 _ _ el)
    · rw [List.getElem?_append_right (by omega)] at h1
      have hj0:j - rs.length=0:=by
       have:=(List.getElem?_eq_some_iff.mp h1).1
       simp at this
       omega
      rw [hj0] at h1
      have:j=i:=by omega
      subst this
      rw [e] at h2
      simp at h1
      cases h2
      subst h1
      exact xr.lst (s2 _ _ el)
 · rintro l σ H1 hl ⟨_,s1,rs,el,hlen,hat⟩
   exact q l rs H1 s1 hl ⟨el,by rw [hlen]; simp,hat⟩
def filB (least g:Int) (n:Nat) (xs:List Int):Bool:=decide (xs.length=n)&&xs.all fun x=>decide (least≤x)&&decide (x≤g)
def cF (K:PySem.W.Frag):Sp:=fun vs H Q _=>∃ (p a:Addr) (h w g least:Int) (xs:List Int),vs=[.ref p,.ref a,.int least]∧IsFl H p h w g∧FlOk h w g∧H a=some (.lst (xs.map V.int))∧xs.length≤100∧∀ H',Same H H'→Q (.bl (filB least g (h*w).toNat xs)) H'
theorem rY {K:PySem.W.Frag} {vs:List V} {H:Hp} {Q:VK} {E:XK} (h:cF K vs H Q E):vs.length=3:=by
 obtain ⟨_,_,_,_,_,_,_,rfl,_⟩:=h; rfl
def fV (K:PySem.W.Frag):TS:=
 (tSeq (tIfS (tOr (tNot (tB (tCB kIsi (tCons (tVar 1) (tCons (tC (.ty "list")) tNil))))) (tTest (tOp (cNe K) (tCB kLen (tCons (tVar 1) tNil)) (tCall (aO K) [] E0 (tCons (tVar 0) tNil))))) (tRet (tC (.bl false))) tNext)
  (tRet (tCB kAll (tCons (tComp [none,none,some 0,some 2] (iList K (tVar 1)) (gName 1) tTrue (tAndV (tCall (bg K) [] E0 (tCons (tVar 1) tNil)) (tAndV (tOp (cCmp fun i j=>decide (i≤j)) (tVar 3) (tVar 1)) (tOp (cCmp fun i j=>decide (i≤j)) (tVar 1) (tOp cIx (tVar 2) (tC (.int 2))))))) tNil))))
theorem rZ {K:PySem.W.Frag} {vs:List V} {H:Hp} {Q:VK} {E:XK} (h:cF K vs H Q E):fV K { nx:=fun _ H'=>Q .non H',rt:=Q } (start ["floor","filling","least"] vs) H:=by
 obtain ⟨p,a,h,w,g,least,xs,rfl,hp,F,ha,hn,q⟩:=h
 obtain ⟨h0,h1,w0,w1,m16,g0,g1⟩:=id F
 have mpos:0≤h*w:=Int.mul_nonneg (by omega) (by omega)
 show fV K _ [some (.ref p),some (.ref a),some (.int least)] H
 unfold fV
 rw [aB,aJ]
 walk_at "w"
 refine wL ha ?_
 walk_at "w"
 rw [gC ha,List.length_map]
 walk_at "w"
 refine ⟨p,h,w,g,rfl,hp,h0,h1,?_⟩
 walk_at "w"
 unfold filB at q
 by_cases hl:xs.length=(h*w).toNat
 · rw [decide_eq_true (show (xs.length:Int)=h*w by omega)]
   rw [decide_eq_true hl] at q
   walk_at "w"
   refine ⟨⟨_,SqL.of ha⟩,?_⟩
   refine bB (xs:=xs.map V.int) (fun _=>true) (fun i=>.bl (decide (least≤xs.getD i 0)&&decide (xs.getD i 0≤g))) (by rw [List.length_map]; omega) (SqL.of ha) ?_ ?_ ?_
   · intro i x H1 R hx s1 k1
     exact k1 _ (Same.refl _)
   · intro i x H1 Q1 hx hb s1 k1
     obtain ⟨z,hz,rfl⟩:=b6 hx
     have q1:=k1 _ (Same.refl H1)
     rw [jU hz] at q1
     show tAndV _ _ [none,some (.int z),some (.ref p),some (.int least)] H1 Q1
     walk_at "w"
     refine ⟨z,rfl,⟨true,rfl,iteT ?_⟩⟩
     walk_at "w"
     cases hb:decide (least≤z) with
     | false=>
      rw [hb,Bool.false_and] at q1
      exact iteF q1
     | true=>
      rw [hb,Bool.true_and] at q1
      refine iteT ?_
      walk_at "w"
      refine ixT (s1 _ _ hp) (v:=V.int g) rfl ?_
      walk_at "w"
      exact q1
   · intro l H1 hl1 s1 el
     have eb:((List.range (xs.map V.int).length).filter fun _=>true).map (fun i=>V.bl (decide (least≤xs.getD i 0)&&decide (xs.getD i 0≤g)))=(xs.map fun x=>decide (least≤x)&&decide (x≤g)).map V.bl:=by
      rw [bd,List.length_map]
      refine List.ext_getElem? fun i=>?_
      rw [List.getElem?_map,List.getElem?_map,List.getElem?_map]
      by_cases h:i < xs.length
      · rw [List.getElem?_range h,List.getElem?_eq_getElem h]
        simp [List.getD,h]
      · rw [List.getElem?_eq_none (by simpa using h),List.getElem?_eq_none (by omega)]; rfl
     rw [eb] at el
     refine vp el ?_
     have ea:(xs.map fun x=>decide (least≤x)&&decide (x≤g)).all id=xs.all fun x=>decide (least≤x)&&decide (x≤g):=by rw [List.all_map]; rfl
     rw [ea]
     exact q _ s1
 · rw [decide_eq_false (show ¬ (xs.length:Int)=h*w by omega)]
   rw [decide_eq_false hl] at q
   walk_at "w"
   exact q _ (Same.refl _)
def bL (K:PySem.W.Frag):Sp:=fun vs H Q _=>∃ (p a:Addr) (h w g:Int) (xs:List Int),vs=[.ref p,.ref a]∧IsFl H p h w g∧FlOk h w g∧H a=some (.lst (xs.map V.int))∧CluesOk h w g xs∧∀ l H',Same H H'→H l=none→H' l=some (.lst (xs.map V.int))→Q (.ref l) H'
theorem ou {K:PySem.W.Frag} {vs:List V} {H:Hp} {Q:VK} {E:XK} (h:bL K vs H Q E):vs.length=2:=by
 obtain ⟨_,_,_,_,_,_,rfl,_⟩:=h; rfl
def dr (K:PySem.W.Frag):TS:=
 (tSeq (tIfS (tNot (tB (tCall (cF K) [] E0 (tCons (tVar 0) (tCons (tVar 1) (tCons (tC (.int 0)) tNil)))))) cu tNext)
  (tRet (tCB kList (tCons (tVar 1) tNil))))
theorem CluesOk.fil {h w g:Int} {xs:List Int} (C:CluesOk h w g xs):filB 0 g (h*w).toNat xs=true:=by
 unfold filB
 rw [decide_eq_true C.len,Bool.true_and,List.all_eq_true]
 intro x hx
 have:=C.ok x hx
 simp [this.1,this.2]
theorem ow {K:PySem.W.Frag} {vs:List V} {H:Hp} {Q:VK} {E:XK} (h:bL K vs H Q E):dr K { nx:=fun _ H'=>Q .non H',rt:=Q } (start ["floor","clues"] vs) H:=by
 obtain ⟨p,a,h,w,g,xs,rfl,hp,F,ha,C,q⟩:=h
 obtain ⟨h0,h1,w0,w1,m16,g0,g1⟩:=id F
 show dr K _ [some (.ref p),some (.ref a)] H
 unfold dr
 rw [aB,aJ]
 walk_at "w"
 refine ⟨p,a,h,w,g,0,xs,rfl,hp,F,ha,by have:=C.len; omega,fun H1 s1=>?_⟩
 rw [C.fil]
 refine ⟨true,rfl,iteF ?_⟩
 walk_at "w"
 refine i5 (s1 _ _ ha) fun l hl=>?_
 exact q l _ (s1.laid hl) (s1.free hl) ae
theorem IsRule.ins {H:Hp} {c:RCl RK} {k:RK} {r p a:Addr} {ws:List (List Nat)} {cs:List Int} {n m:Int} {C dx:Addr} {fs:List (Str × V)} {o:HO} (x:IsRule H c k r p ws cs n m) (ha:H a=some (.ins C dx fs)) (hf:fs.length≠5):IsRule (upd H a o) c k r p ws cs n m:=by
 obtain ⟨dx',W,C',h1,h2,h3⟩:=x.ex
 refine ⟨x.ok,dx',W,C',?_,?_,?_⟩
 · rw [ai (fun e=>by rw [e,ha] at h1; cases h1; exact hf rfl)]; exact h1
 · rw [ai (fun e=>by rw [e,ha] at h2; cases h2)]; exact h2
 · rw [ai (fun e=>by rw [e,ha] at h3; cases h3)]; exact h3
theorem IsRules.ins {H:Hp} {c:RCl RK} {p L a:Addr} {rs:List Addr} {rows:List RR} {C dx:Addr} {fs:List (Str × V)} {o:HO} (x:IsRules H c p L rs rows) (ha:H a=some (.ins C dx fs)) (hf:fs.length≠5):IsRules (upd H a o) c p L rs rows:=
 ⟨by rw [ai (fun e=>by have:=x.top; rw [e,ha] at this; cases this)]; exact x.top,x.len,fun i r y h1 h2=>(x.at_ i r y h1 h2).ins ha hf⟩
def aM (K:PySem.W.Frag) (c:RCl RK) (d:RCl PzK):Sp:=fun vs H Q _=>∃ (x dx p a b:Addr) (h w g:Int) (rows:List RR) (cl:List Int),vs=[.ref x,.ref p,.ref a,.ref b]∧d.ok .Puzzle=true∧H x=some (.ins (d.A .Puzzle) dx [])∧IsFl H p h w g∧H a=some (.lst ((rows.map RR.txt).map V.str))∧H b=some (.lst (cl.map V.int))∧j9 c h w g rows∧CluesOk h w g cl∧
 ∀ L G H',(∀ y o,y≠x→H y=some o→H' y=some o)→H L=none→H G=none→IsPz H' c d x L G h w g rows cl→Q .non H'
theorem mn {K:PySem.W.Frag} {c:RCl RK} {d:RCl PzK} {vs:List V} {H:Hp} {Q:VK} {E:XK} (h:aM K c d vs H Q E):vs.length=4:=by
 obtain ⟨_,_,_,_,_,_,_,_,_,_,rfl,_⟩:=h; rfl
def cL (K:PySem.W.Frag) (c:RCl RK) (d:RCl PzK):TS:=
 (tSeq (sFldK d (tVar 0) (tCall (bK K) [] E0 (tCons (tVar 1) tNil)) "floor")
  (tSeq (sFldK d (tVar 0) (tCall (cD K c) [] E0 (tCons (tFldK d (tVar 0) "floor") (tCons (tVar 2) tNil))) "laws")
  (sFldK d (tVar 0) (tCall (bL K) [] E0 (tCons (tFldK d (tVar 0) "floor") (tCons (tVar 3) tNil))) "given")))
theorem mq {K:PySem.W.Frag} {c:RCl RK} {d:RCl PzK} {vs:List V} {H:Hp} {Q:VK} {E:XK} (h:aM K c d vs H Q E):cL K c d { nx:=fun _ H'=>Q .non H',rt:=Q } (start ["self","floor","lines","clues"] vs) H:=by
 obtain ⟨x,dx,p,a,b,h,w,g,rows,cl,rfl,ok,hx,hp,ha,hb,R,C,q⟩:=h
 show cL K c d _ [some (.ref x),some (.ref p),some (.ref a),some (.ref b)] H
 unfold cL sFldK
 walk_at "w"
 refine ⟨p,h,w,g,rfl,hp,R.F,fun p1 hp1=>?_⟩
 have nxp:x≠p1:=au hx hp1
 refine ⟨x,.Puzzle,dx,[],rfl,ok,by rw [ai nxp]; exact hx,by show (0:Nat) < 1000; decide,?_⟩
 have f1:∀ y o,y≠x→H y=some o→(upd (upd H p1 (.tup [.int h,.int w,.int g])) x (.ins (d.A .Puzzle) dx (putF "floor" (.ref p1) []))) y=some o:=fun y o ny e=>by
  rw [ai ny,ai (au e hp1)]; exact e
 have hx1:(upd (upd H p1 (.tup [.int h,.int w,.int g])) x (.ins (d.A .Puzzle) dx (putF "floor" (.ref p1) []))) x=some (.ins (d.A .Puzzle) dx [("floor",.ref p1)]):=ae
 have hp1':IsFl (upd (upd H p1 (.tup [.int h,.int w,.int g])) x (.ins (d.A .Puzzle) dx (putF "floor" (.ref p1) []))) p1 h w g:=by
  show (upd (upd H p1 (.tup [.int h,.int w,.int g])) x _) p1=_
  rw [ai nxp.symm,ae]
 have fr1:∀ l,(upd (upd H p1 (.tup [.int h,.int w,.int g])) x (.ins (d.A .Puzzle) dx (putF "floor" (.ref p1) []))) l=none→H l=none:=fun l e=>by
  have n1:l≠x:=fun z=>by rw [z,ae] at e; cases e
  rw [ai n1] at e
  have n2:l≠p1:=fun z=>by rw [z,ae] at e; cases e
  rw [ai n2] at e
  exact e
 have nax:a≠x:=fun z=>by rw [z,hx] at ha; cases ha
 have nbx:b≠x:=fun z=>by rw [z,hx] at hb; cases hb
 generalize upd (upd H p1 (.tup [.int h,.int w,.int g])) x (.ins (d.A .Puzzle) dx (putF "floor" (.ref p1) []))=H1 at*
 refine fldE (c:=d) (k:=.Puzzle) rfl ok hx1 (v:=.ref p1) (by rfl) ?_
 walk_at "w"
 refine ⟨p1,a,h,w,g,rows,rfl,hp1',f1 a _ nax ha,R,fun L rs H2 s2 hL X=>?_⟩
 refine ⟨x,.Puzzle,dx,_,rfl,ok,s2 _ _ hx1,by show (1:Nat) < 1000; decide,?_⟩
 have nxL:L≠x:=fun z=>by rw [z,hx1] at hL; cases hL
 have X3:=X.ins (o:=.ins (d.A .Puzzle) dx (putF "laws" (.ref L) [("floor",.ref p1)])) (s2 _ _ hx1) (by show (1:Nat)≠5; decide)
 have f2:∀ y o,y≠x→H y=some o→(upd H2 x (.ins (d.A .Puzzle) dx (putF "laws" (.ref L) [("floor",.ref p1)]))) y=some o:=fun y o ny e=>by
  rw [ai ny]; exact s2 _ _ (f1 y o ny e)
 have hx3:(upd H2 x (.ins (d.A .Puzzle) dx (putF "laws" (.ref L) [("floor",.ref p1)]))) x=some (.ins (d.A .Puzzle) dx [("floor",.ref p1),("laws",.ref L)]):=ae
 have hp3:IsFl (upd H2 x (.ins (d.A .Puzzle) dx (putF "laws" (.ref L) [("floor",.ref p1)]))) p1 h w g:=by
  show (upd H2 x _) p1=_
  rw [ai nxp.symm]; exact s2 _ _ hp1'
 have fr3:∀ l,(upd H2 x (.ins (d.A .Puzzle) dx (putF "laws" (.ref L) [("floor",.ref p1)]))) l=none→H1 l=none:=fun l e=>by
  have n1:l≠x:=fun z=>by rw [z,ae] at e; cases e
  rw [ai n1] at e
  exact s2.free e
 generalize upd H2 x (.ins (d.A .Puzzle) dx (putF "laws" (.ref L) [("floor",.ref p1)]))=H3 at*
 refine fldE (c:=d) (k:=.Puzzle) rfl ok hx3 (v:=.ref p1) (by rfl) ?_
 walk_at "w"
 refine ⟨p1,b,h,w,g,cl,rfl,hp3,R.F,f2 b _ nbx hb,C,fun G H4 s4 hG eG=>?_⟩
 refine ⟨x,.Puzzle,dx,_,rfl,ok,s4 _ _ hx3,by show (2:Nat) < 1000; decide,?_⟩
 have nxG:G≠x:=fun z=>by rw [z,hx3] at hG; cases hG
 refine q L G _ (fun y o ny e=>?_) (fr1 L hL) (fr1 G (fr3 G hG)) ⟨ok,R,C,?_,dx,p1,rs,?_,?_,?_⟩
 · rw [ai ny]; exact s4 _ _ (f2 y o ny e)
 · rw [ai nxG]; exact eG
 · rw [ae]; rfl
 · show (upd H4 x _) p1=_
   rw [ai nxp.symm]; exact s4 _ _ hp3
 · exact (X3.same s4).ins (s4 _ _ hx3) (by show (2:Nat)≠5; decide)
theorem wY {K:PySem.W.Frag} {c:RCl RK} {d:RCl PzK} {H:Hp} {Z:Addr→Hp→Prop} {p a b:Addr} {h w g:Int} {rows:List RR} {cl:List Int} (ok:d.ok .Puzzle=true) (hp:IsFl H p h w g) (ha:H a=some (.lst ((rows.map RR.txt).map V.str))) (hb:H b=some (.lst (cl.map V.int))) (R:j9 c h w g rows) (C:CluesOk h w g cl)
  (q:∀ P L G H',Same H H'→H P=none→H L=none→H G=none→IsPz H' c d P L G h w g rows cl→Z P H'):
  ∀ x dx,H x=none→H dx=none→dx≠x→aM K c d (.ref x::([.ref p,.ref a,.ref b]++[])) (upd (upd H dx (.own x)) x (.ins (d.A .Puzzle) dx [])) (fun v H2=>v=.non∧Z x H2) E0:=by
 intro x dx hx hd ne
 have k:∀ y o,H y=some o→(upd (upd H dx (.own x)) x (.ins (d.A .Puzzle) dx [])) y=some o:=fun y o e=>by rw [ai (au e hx),ai (au e hd)]; exact e
 have fr:∀ y,(upd (upd H dx (.own x)) x (.ins (d.A .Puzzle) dx [])) y=none→H y=none:=fun y e=>by
  have n1:y≠x:=fun z=>by rw [z,ae] at e; cases e
  rw [ai n1] at e
  have n2:y≠dx:=fun z=>by rw [z,ae] at e; cases e
  rw [ai n2] at e
  exact e
 exact ⟨x,dx,p,a,b,h,w,g,rows,cl,rfl,ok,ae,k _ _ hp,k _ _ ha,k _ _ hb,R,C,fun L G H' hs hL hG X=>⟨rfl,q x L G H' (fun y o e=>hs y o (au e hx) (k _ _ e)) hx (fr L hL) (fr G hG) X⟩⟩
def iE (K:PySem.W.Frag) (c:RCl RK) (d:RCl PzK) (_:PzK):Sp:=fun vs H Q _=>∃ (P L G:Addr) (h w g:Int) (rows:List RR) (cl:List Int),vs=[.ref P]∧IsPz H c d P L G h w g rows cl∧∀ p,IsFl H p h w g→Q (.ref p) H
def dQ (K:PySem.W.Frag) (c:RCl RK) (d:RCl PzK):Sp:=iE K c d .Puzzle
theorem pG {K:PySem.W.Frag} {c:RCl RK} {d:RCl PzK} {vs:List V} {H:Hp} {Q:VK} {E:XK} (h:dQ K c d vs H Q E):vs.length=1:=by
 obtain ⟨_,_,_,_,_,_,_,_,rfl,_⟩:=h; rfl
def dR (K:PySem.W.Frag) (c:RCl RK) (d:RCl PzK):TS:=
 (tRet (tFldK d (tVar 0) "floor"))
theorem pH {K:PySem.W.Frag} {c:RCl RK} {d:RCl PzK} {vs:List V} {H:Hp} {Q:VK} {E:XK} (h:dQ K c d vs H Q E):dR K c d { nx:=fun _ H'=>Q .non H',rt:=Q } (start ["self"] vs) H:=by
 obtain ⟨P,L,G,h,w,g,rows,cl,rfl,x,q⟩:=h
 obtain ⟨dx,p,rs,h1,h2,h3⟩:=x.ex
 show dR K c d _ [some (.ref P)] H
 unfold dR
 walk_at "w"
 exact fldE (k:=.Puzzle) rfl x.ok h1 (v:=.ref p) (by rfl) (q p h2)
def cQ (K:PySem.W.Frag) (c:RCl RK) (d:RCl PzK) (_:PzK):Sp:=fun vs H Q _=>∃ (P L G:Addr) (h w g:Int) (rows:List RR) (cl:List Int),vs=[.ref P]∧IsPz H c d P L G h w g rows cl∧∀ l,H l=none→Q (.ref l) (upd H l (.lst (cl.map V.int)))
def dS (K:PySem.W.Frag) (c:RCl RK) (d:RCl PzK):Sp:=cQ K c d .Puzzle
theorem pI {K:PySem.W.Frag} {c:RCl RK} {d:RCl PzK} {vs:List V} {H:Hp} {Q:VK} {E:XK} (h:dS K c d vs H Q E):vs.length=1:=by
 obtain ⟨_,_,_,_,_,_,_,_,rfl,_⟩:=h; rfl
def dU (K:PySem.W.Frag) (c:RCl RK) (d:RCl PzK):TS:=
 (tRet (tCB kList (tCons (tFldK d (tVar 0) "given") tNil)))
theorem pJ {K:PySem.W.Frag} {c:RCl RK} {d:RCl PzK} {vs:List V} {H:Hp} {Q:VK} {E:XK} (h:dS K c d vs H Q E):dU K c d { nx:=fun _ H'=>Q .non H',rt:=Q } (start ["self"] vs) H:=by
 obtain ⟨P,L,G,h,w,g,rows,cl,rfl,x,q⟩:=h
 obtain ⟨dx,p,rs,h1,h2,h3⟩:=x.ex
 show dU K c d _ [some (.ref P)] H
 unfold dU
 walk_at "w"
 refine fldE (k:=.Puzzle) rfl x.ok h1 (v:=.ref G) (by rfl) ?_
 walk_at "w"
 exact i5 x.gv q
def iF (K:PySem.W.Frag) (c:RCl RK) (d:RCl PzK) (_:PzK):Sp:=fun vs H Q _=>∃ (P L G:Addr) (h w g:Int) (rows:List RR) (cl:List Int),vs=[.ref P]∧IsPz H c d P L G h w g rows cl∧∀ l p rs,H l=none→IsFl (upd H l (.lst (rs.map V.ref))) p h w g→IsRules (upd H l (.lst (rs.map V.ref))) c p l rs rows→Q (.ref l) (upd H l (.lst (rs.map V.ref)))
def dW (K:PySem.W.Frag) (c:RCl RK) (d:RCl PzK):Sp:=iF K c d .Puzzle
theorem pK {K:PySem.W.Frag} {c:RCl RK} {d:RCl PzK} {vs:List V} {H:Hp} {Q:VK} {E:XK} (h:dW K c d vs H Q E):vs.length=1:=by
 obtain ⟨_,_,_,_,_,_,_,_,rfl,_⟩:=h; rfl
def dX (K:PySem.W.Frag) (c:RCl RK) (d:RCl PzK):TS:=
 (tRet (tCB kList (tCons (tFldK d (tVar 0) "laws") tNil)))
theorem pL {K:PySem.W.Frag} {c:RCl RK} {d:RCl PzK} {vs:List V} {H:Hp} {Q:VK} {E:XK} (h:dW K c d vs H Q E):dX K c d { nx:=fun _ H'=>Q .non H',rt:=Q } (start ["self"] vs) H:=by
 obtain ⟨P,L,G,h,w,g,rows,cl,rfl,x,q⟩:=h
 obtain ⟨dx,p,rs,h1,h2,h3⟩:=x.ex
 show dX K c d _ [some (.ref P)] H
 unfold dX
 walk_at "w"
 refine fldE (k:=.Puzzle) rfl x.ok h1 (v:=.ref L) (by rfl) ?_
 walk_at "w"
 refine i5 h3.top fun l hl=>?_
 have s1:Same H (upd H l (.lst (rs.map V.ref))):=(Same.refl H).laid hl
 exact q l p rs hl (s1 _ _ h2) ⟨ae,h3.len,fun i r y e1 e2=>(h3.at_ i r y e1 e2).same s1⟩
theorem vC {K:PySem.W.Frag} {c:RCl RK} {H:Hp} {p L:Addr} {rs:List Addr} {rows:List RR} {h w g:Int} {fin:Addr→Hp→Prop} (X:IsRules H c p L rs rows) (R:j9 c h w g rows)
  (hd:∀ l H',H l=none→Same H H'→H' l=some (.lst ((rows.map RR.txt).map V.str))→fin l H'):CompR (Itl K L) (gName 1) tTrue (be c c.ok "line" (lj K c) (tVar 1) tNil) fin [none,none] H:=by
 have hn:=R.n
 have hlen:=X.len
 refine bB (xs:=rs.map V.ref) (fun _=>true) (fun i=>.str ((rows.map RR.txt).getD i (tx []))) (by rw [List.length_map]; omega) (SqL.of X.top) ?_ ?_ ?_
 · intro i x H1 R hx s1 k1
   exact k1 _ (Same.refl _)
 · intro i x H1 Q1 hx hb s1 k1
   rw [List.getElem?_map] at hx
   cases e:rs[i]? with
   | none=>rw [e] at hx; cases hx
   | some r=>
    rw [e] at hx
    cases hx
    have hi:=(List.getElem?_eq_some_iff.mp e).1
    have er:rows[i]? =some rows[i]:=List.getElem?_eq_getElem (by omega)
    have X1:=X.at_ i r _ e er
    obtain ⟨dx,W,C,h1,h2,h3⟩:=X1.ex
    have q1:=k1 _ (Same.refl H1)
    have eg:(rows.map RR.txt).getD i (tx [])=rows[i].txt:=by rw [List.getD,List.getElem?_map,er]; rfl
    rw [eg] at q1
    have O:=R.ok _ (List.mem_of_getElem? er)
    have ln:=kG (k:=rows[i].k) (n:=rows[i].n) (m:=rows[i].m) O.len
    show be c c.ok "line" _ _ _ [none,some (.ref r)] H1 Q1
    refine methE (k:=rows[i].k) rfl X1.ok (s1 _ _ h1) (by rfl) ?_
    walk_at "w"
    exact ⟨r,p,_,_,_,_,rfl,X1.same s1,ln.1,ln.2,q1⟩
 · intro l H1 hl s1 el
   refine hd l H1 hl s1 ?_
   rw [el,bd,List.length_map,hlen]
   congr 2
   refine List.ext_getElem? fun i=>?_
   rw [List.getElem?_map,List.getElem?_map,List.getElem?_map]
   by_cases h:i < rows.length
   · rw [List.getElem?_range h,List.getElem?_eq_getElem h]
     simp [List.getD,h]
   · rw [List.getElem?_eq_none (by simpa using h),List.getElem?_eq_none (by omega)]; rfl
def gb (K:PySem.W.Frag) (c:RCl RK) (d:RCl PzK) (_:PzK):Sp:=fun vs H Q _=>∃ (P L G:Addr) (h w g:Int) (rows:List RR) (cl:List Int),vs=[.ref P]∧IsPz H c d P L G h w g rows cl∧∀ l H',Same H H'→H l=none→H' l=some (.lst ((rows.map RR.txt).map V.str))→Q (.ref l) H'
def dY (K:PySem.W.Frag) (c:RCl RK) (d:RCl PzK):Sp:=gb K c d .Puzzle
theorem pM {K:PySem.W.Frag} {c:RCl RK} {d:RCl PzK} {vs:List V} {H:Hp} {Q:VK} {E:XK} (h:dY K c d vs H Q E):vs.length=1:=by
 obtain ⟨_,_,_,_,_,_,_,_,rfl,_⟩:=h; rfl
def dZ (K:PySem.W.Frag) (c:RCl RK) (d:RCl PzK):TS:=
 (tRet (tComp [none,none] (iList K (tFldK d (tVar 0) "laws")) (gName 1) tTrue (be c c.ok "line" (lj K c) (tVar 1) tNil)))
theorem pN {K:PySem.W.Frag} {c:RCl RK} {d:RCl PzK} {vs:List V} {H:Hp} {Q:VK} {E:XK} (h:dY K c d vs H Q E):dZ K c d { nx:=fun _ H'=>Q .non H',rt:=Q } (start ["self"] vs) H:=by
 obtain ⟨P,L,G,h,w,g,rows,cl,rfl,x,q⟩:=h
 obtain ⟨dx,p,rs,h1,h2,h3⟩:=x.ex
 show dZ K c d _ [some (.ref P)] H
 unfold dZ
 rw [iT,dF]
 refine fldE (k:=.Puzzle) rfl x.ok h1 (v:=.ref L) (by rfl) ?_
 refine ⟨L,rfl,⟨_,SqL.of h3.top⟩,?_⟩
 exact vC h3 x.R fun l H1 hl s1 el=>q l H1 s1 hl el
abbrev nsV (cs:List Nat):List V:=(cs.map fun (n:Nat)=>(n:Int)).map V.int
theorem ll (cs:List Nat):(nsV cs).length=cs.length:=by simp [nsV]
def cg (K:PySem.W.Frag):Sp:=fun vs H Q _=>∃ z m:Int,vs=[.int z,.int m]∧0≤m∧m≤100∧∀ (l:Addr) (H':Hp) (ys:List Int),Same H H'→H l=none→H' l=some (.lst (ys.map V.int))→(ys.length:Int)=m→(∀ y∈ys,0≤y)→Q (.ref l) H'
theorem qx {K:PySem.W.Frag} {vs:List V} {H:Hp} {Q:VK} {E:XK} (h:cg K vs H Q E):vs.length=2:=by
 obtain ⟨_,_,rfl,_⟩:=h; rfl
def eY (K:PySem.W.Frag):TS:=
 (tSeq (tAsg (tOp cAdd (tOp cMod (tVar 0) (tC (.int 1000003))) (tC (.int 11))) (gName 2))
  (tSeq (tAsg (tLst tNil) (gName 3))
  (tSeq (tFor (ee (tCons (tVar 1) tNil)) (gName 4)
  (tSeq (tAsg (tOp cMod (tOp cAdd (tOp cAdd (tOp cMul (tVar 2) (tVar 2)) (tOp cMul (tC (.int 3)) (tVar 2))) (tVar 4)) (tC (.int 1000003))) (gName 2))
  (tDrop (tBM K "list" dC (tVar 3) (tCons (tVar 2) tNil)))))
  (tRet (tVar 3)))))
theorem qy {K:PySem.W.Frag} {vs:List V} {H:Hp} {Q:VK} {E:XK} (h:cg K vs H Q E):eY K { nx:=fun _ H'=>Q .non H',rt:=Q } (start ["_law_cell","_law_many","_law_number","_law_found","_law_k"] vs) H:=by
 obtain ⟨z,m,rfl,m0,m1,q⟩:=h
 show eY K _ [some (.int z),some (.int m),none,none,none] H
 unfold eY
 walk_at "w"
 refine ⟨by decide,aG (by decide),fun L hL=>?_⟩
 have e0:=Int.emod_nonneg z (show (1000003:Int)≠0 by decide)
 have e1:=Int.emod_lt_of_pos z (show (0:Int) < 1000003 by decide)
 refine ⟨m,rfl,by omega,by omega,?_⟩
 refine d6 (fun i σ H'=>∃ (n:Int) (kv:Option V) (ys:List Int),σ=[some (.int z),some (.int m),some (.int n),some (.ref L),kv]∧0≤n∧n < 2000000∧Same H H'∧H' L=some (.lst (ys.map V.int))∧ys.length=i∧∀ y∈ys,0≤y)
  ⟨_,none,[],rfl,by omega,by omega,(Same.refl H).laid hL,by rw [ae]; rfl,rfl,fun y hy=>nomatch hy⟩ ?_ ?_
 · rintro i σ H1 hi ⟨n,kv,ys,rfl,n0,n1,s1,el,hl,hy⟩
   walk_at "w"
   refine ⟨.inl ⟨by omega,by omega⟩,.inl ⟨by decide,by decide⟩,by decide,fZ el,?_⟩
   have c0:=Int.emod_nonneg (n*n+3*n+(0+(i:Int))) (show (1000003:Int)≠0 by decide)
   have c1:=Int.emod_lt_of_pos (n*n+3*n+(0+(i:Int))) (show (0:Int) < 1000003 by decide)
   generalize (n*n+3*n+(0+(i:Int))) % 1000003=y at*
   rw [ly el]
   refine ⟨by rw [List.length_map]; exact aR (by omega),y,_,ys++[y],rfl,c0,by omega,s1.own hL,by rw [ae]; simp,by simp [hl],fun x hx=>?_⟩
   rcases List.mem_append.mp hx with hx | hx
   · exact hy x hx
   · rw [List.mem_singleton.mp hx]; exact c0
 · rintro σ H1 ⟨n,kv,ys,rfl,n0,n1,s1,el,hl,hy⟩
   walk_at "w"
   exact q L H1 ys s1 hL el (by rw [hl]; omega) hy
def cG (K:PySem.W.Frag):Sp:=fun vs H Q _=>∃ (X:Addr) (many:Int) (ys:List Int),vs=[.ref X,.int many]∧H X=some (.lst (ys.map V.int))∧0≤many∧many≤16∧many≤ys.length∧
 ∀ (l:Addr) (H':Hp) (cs:List Nat),Same H H'→H l=none→H' l=some (.lst (nsV cs))→cs.Nodup→(∀ c∈cs,(c:Int) < many)→(cs.length:Int)=many→Q (.ref l) H'
theorem r8 {K:PySem.W.Frag} {vs:List V} {H:Hp} {Q:VK} {E:XK} (h:cG K vs H Q E):vs.length=2:=by
 obtain ⟨_,_,_,rfl,_⟩:=h; rfl
def fW (K:PySem.W.Frag):TS:=
 (tSeq (tAsg (kn (tCons (tVar 1) tNil)) (gName 2))
  (tSeq (tAsg (tLst tNil) (gName 3))
  (tSeq (tFor (ee (tCons (tVar 1) tNil)) (gName 4)
  (tDrop (tBM K "list" dC (tVar 3) (tCons (tBM K "list" mh (tVar 2) (tCons (tOp cMod (tOp cIx (tVar 0) (tVar 4)) (tCB kLen (tCons (tVar 2) tNil))) tNil)) tNil))))
  (tRet (tVar 3)))))
theorem sd {K:PySem.W.Frag} {vs:List V} {H:Hp} {Q:VK} {E:XK} (h:cG K vs H Q E):fW K { nx:=fun _ H'=>Q .non H',rt:=Q } (start ["_law_xs","_law_many","_law_left","_law_order_here","_law_k"] vs) H:=by
 obtain ⟨X,many,ys,rfl,hX,m0,m1,m2,q⟩:=h
 show fW K _ [some (.ref X),some (.int many),none,none,none] H
 unfold fW
 walk_at "w"
 refine ⟨many,rfl,by omega,by omega,fun L hL=>?_⟩
 have s1:Same H (upd H L (.lst ((rngL 0 many).map V.int))):=(Same.refl H).laid hL
 have eL:(upd H L (.lst ((rngL 0 many).map V.int))) L=some (.lst ((rngL 0 many).map V.int)):=ae
 generalize upd H L (.lst ((rngL 0 many).map V.int))=H1 at*
 walk_at "w"
 refine ⟨aG (by decide),fun R hR=>?_⟩
 have nRL:R≠L:=fun e=>by rw [e,eL] at hR; cases hR
 refine ⟨many,rfl,by omega,by omega,?_⟩
 refine d6 (fun i σ H'=>∃ (kv:Option V) (fs ls:List Int),σ=[some (.ref X),some (.int many),some (.ref L),some (.ref R),kv]∧Same H H'∧H' L=some (.lst (ls.map V.int))∧H' R=some (.lst (fs.map V.int))∧(fs++ls).Perm (rngL 0 many)∧fs.length=i)
  ⟨none,[],rngL 0 many,rfl,s1.laid hR,by rw [ai nRL.symm]; exact eL,by rw [ae]; rfl,List.Perm.refl _,rfl⟩ ?_ ?_
 · rintro i σ H2 hi ⟨kv,fs,ls,rfl,s2,e1,e2,hp,hl⟩
   have hlen:=hp.length_eq
   rw [List.length_append,lC] at hlen
   walk_at "w"
   refine ⟨fZ e2,fZ e1,?_⟩
   refine ixI (s2 _ _ hX) (by omega) (by omega) ?_
   walk_at "w"
   rw [gC e1,List.length_map]
   have hpos:0 < (ls.length:Int):=by omega
   generalize ys.getD (0+(i:Int)).toNat 0=y at*
   have j0:=Int.emod_nonneg y (Int.ne_of_gt hpos)
   have j1:=Int.emod_lt_of_pos y hpos
   refine ⟨hpos,?_⟩
   generalize y % (ls.length:Int)=j at*
   have hj:j.toNat < ls.length:=by omega
   refine uS e1 j0 (by rw [List.length_map]; omega) (y:=V.int ls[j.toNat]) (by rw [List.getElem?_map,List.getElem?_eq_getElem hj]; rfl) ?_
   have e2':(upd H2 L (.lst ((ls.map V.int).eraseIdx j.toNat))) R=some (.lst (fs.map V.int)):=by rw [ai nRL]; exact e2
   walk_at "w"
   rw [ly e2']
   refine ⟨by rw [List.length_map]; exact aR (by omega),_,fs++[ls[j.toNat]],ls.eraseIdx j.toNat,rfl,(s2.own hL).own (s1.free hR),?_,?_,?_,by simp [hl]⟩
   · rw [ai nRL.symm,ae,rG]
   · rw [ae]; simp
   · have p1:=pE ls j.toNat hj
     have p2:=List.Perm.append_left fs p1
     refine List.Perm.trans ?_ hp
     rw [List.append_assoc]
     exact p2
 · rintro σ H2 ⟨kv,fs,ls,rfl,s2,e1,e2,hp,hl⟩
   walk_at "w"
   have hnd:(fs++ls).Nodup:=hp.nodup_iff.mpr (wW many)
   have hm:∀ x∈fs,0≤x∧x < many:=fun x hx=>yH (hp.mem_iff.mp (List.mem_append.mpr (.inl hx)))
   have ef:(fs.map Int.toNat).map (fun (n:Nat)=>(n:Int))=fs:=by
    rw [List.map_map]
    conv=>rhs; rw [← List.map_id fs]
    exact List.map_congr_left fun x hx=>by have:=hm x hx; show ((x.toNat:Nat):Int)=x; omega
   refine q R H2 (fs.map Int.toNat) s2 (s1.free hR) (by unfold nsV; rw [ef]; exact e2) ?_ ?_ ?_
   · have h1:=(List.nodup_append.mp hnd).1
     rw [← ef] at h1
     exact mj _ h1
   · intro c hc
     obtain ⟨x,hx,rfl⟩:=List.mem_map.mp hc
     have:=hm x hx
     omega
   · rw [List.length_map,hl]; omega
theorem mr (cs:List Nat) (b:Int→Bool):((cs.map fun (n:Nat)=>(n:Int)).filter b).map (fun x=>x)=(cs.filter fun (n:Nat)=>b (n:Int)).map fun (n:Nat)=>(n:Int):=by
 rw [List.map_id',List.filter_map]
 rfl
theorem ox (xs:List V) {k:Int} (h:0≤k):cutV xs none (some k)=xs.take k.toNat:=by
 unfold cutV
 have e:k=((k.toNat:Nat):Int):=by omega
 have h1:HT.sIx xs.length 0 none=0:=rfl
 have h2:HT.sIx xs.length xs.length (some k)=min k.toNat xs.length:=by
  conv=>lhs; rw [e]
  exact HT.sIx_nat ..
 rw [h1,h2]
 show (xs.drop 0).take _=_
 rw [List.drop_zero]
 by_cases hk:k.toNat≤xs.length
 · rw [Nat.min_eq_left hk]; rfl
 · rw [Nat.min_eq_right (by omega),List.take_of_length_le (by omega),List.take_of_length_le (by omega)]
theorem qz (cs:List Nat) (k:Nat):(nsV cs).take k=nsV (cs.take k):=by
 unfold nsV
 rw [List.map_take,List.map_take]
theorem zA (cs ds:List Nat):nsV cs++nsV ds=nsV (cs++ds):=by
 unfold nsV
 rw [List.map_append,List.map_append]
theorem pO {cs:List Nat} {x:Int} (h:x∈cs.map fun (n:Nat)=>(n:Int)):∃ c∈cs,(c:Int)=x:=List.mem_map.mp h
def sgN (xs:List Int) (c:Nat):Int:=xs.getD c 0
theorem uV {H:Hp} {Q:VK} {f:Addr} {xs:List Int} {c:Nat} (hf:H f=some (.lst (xs.map V.int))) (hc:c < xs.length) (q:Q (.int (sgN xs c)) H):cIx (.ref f) (.int (c:Int)) H Q:=by
 refine ixI hf (by omega) (by omega) ?_
 rw [Int.toNat_natCast]
 exact q
theorem vD {xs:List Int} {c:Nat} {lo hi:Int} (hx:∀ x∈xs,lo≤x∧x≤hi) (hc:c < xs.length):lo≤sgN xs c∧sgN xs c≤hi:=by
 unfold sgN
 rw [List.getD,List.getElem?_eq_getElem hc]
 exact hx _ (List.getElem_mem hc)
structure KeepS (H:Hp) (O f:Addr) (cs:List Nat) (xs:List Int):Prop where
 O:H O=some (.lst (nsV cs))
 f:H f=some (.lst (xs.map V.int))
 nd:cs.Nodup
 ne:cs≠[]
 n:cs.length≤16
 lt:∀ c∈cs,c < xs.length
 sg:∀ x∈xs,1≤x∧x≤6
def da (K:PySem.W.Frag):Sp:=fun vs H Q _=>∃ (O f:Addr) (b:Bool) (cs:List Nat) (xs:List Int),vs=[.ref O,.ref f,.bl b]∧KeepS H O f cs xs∧
 ∀ (l:Addr) (H':Hp) (ks:List Nat),Same H H'→H l=none→H' l=some (.lst (nsV ks))→ks.Nodup→(∀ k∈ks,k∈cs)→ks≠[]→ks.length≤16→Q (.ref l) H'
theorem tX {K:PySem.W.Frag} {vs:List V} {H:Hp} {Q:VK} {E:XK} (h:da K vs H Q E):vs.length=3:=by
 obtain ⟨_,_,_,_,_,rfl,_⟩:=h; rfl
def gX (K:PySem.W.Frag):TS:=
 (tSeq (tAsg (tLst tNil) (gName 3))
  (tSeq (tFor (o6 (tCons (tC (.int 1)) (tCons (tC (.int 7)) tNil))) (gName 4)
  (tSeq (sComp 5 [none,none,some 1,some 4] (iList K (tVar 0)) (gName 1) (tTest (tOp (cEq K) (tOp cIx (tVar 2) (tVar 1)) (tVar 3))) (tVar 1))
  (tAsg (tOp cAdd (tVar 3) (tSl cP (tVar 5) bq (tPart (tC (.int 1))))) (gName 3))))
  (tSeq (tIfS (tB (tVar 2)) (tRet (tVar 3)) tNext)
  (tRet (tComp [none,none,some 3] (iList K (tVar 0)) (gName 1) (tTest (tOp (cIn K false) (tVar 1) (tVar 2))) (tVar 1))))))
theorem pP {ks cs:List Nat} (h1:ks.Nodup) (h2:∀ k∈ks,k∈cs):ks.length≤cs.length:=by
 have h:=pi (xs:=ks.map fun (n:Nat)=>(n:Int)) (ys:=cs.map fun (n:Nat)=>(n:Int)) (lI h1) fun x hx=>by
  obtain ⟨k,hk,rfl⟩:=List.mem_map.mp hx
  exact List.mem_map.mpr ⟨k,h2 k hk,rfl⟩
 simpa using h
theorem tY {K:PySem.W.Frag} {vs:List V} {H:Hp} {Q:VK} {E:XK} (h:da K vs H Q E):gX K { nx:=fun _ H'=>Q .non H',rt:=Q } (start ["_law_order_here","_law_filling_here","_law_rising","_law_kept_here","_law_sign","_law_some"] vs) H:=by
 obtain ⟨O,f,b,cs,xs,rfl,X,q⟩:=h
 have hn:=X.n
 show gX K _ [some (.ref O),some (.ref f),some (.bl b),none,none,none] H
 unfold gX
 walk_at "w"
 refine ⟨aG (by decide),fun L hL=>?_⟩
 refine ⟨1,7,rfl,by omega,?_⟩
 refine d6 (fun i σ H'=>∃ (R:Addr) (sv mv:Option V) (ks:List Nat),σ=[some (.ref O),some (.ref f),some (.bl b),some (.ref R),sv,mv]∧Same H H'∧H R=none∧H' R=some (.lst (nsV ks))∧ks.Nodup∧(∀ k∈ks,k∈cs∧sgN xs k≤i)∧(∀ c∈cs,sgN xs c≤i→ks≠[]))
  ⟨L,none,none,[],rfl,(Same.refl H).laid hL,hL,by rw [ae]; rfl,List.nodup_nil,(fun k hk=>by cases hk),fun c hc h=>by have:=(vD X.sg (X.lt c hc)).1; omega⟩ ?_ ?_
 · rintro i σ H1 hi ⟨R,sv,mv,ks,rfl,s1,hR,eR,nd,hk,hne⟩
   walk_at "w"
   refine ⟨⟨_,s1.seq (SqL.of X.O)⟩,?_⟩
   refine gJ (xs:=cs.map fun (n:Nat)=>(n:Int)) (fun x=>decide (xs.getD x.toNat 0=1+(i:Int))) (fun x=>x) (by simp; omega) (s1.seq (SqL.of X.O)) ?_ ?_ ?_
   · intro x H2 R2 hx s2 k2
     obtain ⟨c,hc,rfl⟩:=pO hx
     have hl:=X.lt c hc
     show tTest _ [none,some (.int (c:Int)),some (.ref f),some (.int (1+(i:Int)))] H2 R2
     walk_at "w"
     refine ixI ((s1.trans s2) _ _ X.f) (by omega) (by omega) ?_
     walk_at "w"
     exact k2 _ (Same.refl _)
   · intro x H2 Q2 hx hb s2 k2
     show tVar 1 [none,some (.int x),some (.ref f),some (.int (1+(i:Int)))] H2 Q2
     walk_at "w"
     exact k2 _ (Same.refl _)
   · intro S H2 hS s2 eS
     rw [mr] at eS
     have hS':H2 S=some (.lst (nsV (cs.filter fun (n:Nat)=>decide (xs.getD (n:Int).toNat 0=1+(i:Int))))):=eS
     have efil:(cs.filter fun (n:Nat)=>decide (xs.getD (n:Int).toNat 0=1+(i:Int)))=cs.filter fun (n:Nat)=>decide (sgN xs n=1+(i:Int)):=rfl
     rw [efil] at hS'
     generalize hfs:(cs.filter fun (n:Nat)=>decide (sgN xs n=1+(i:Int)))=fs at hS'
     walk_at "w"
     refine jI hS' fun T hT=>?_
     rw [ox _ (by decide),qz]
     have s3:Same H2 (upd H2 T (.lst (nsV (fs.take (1:Int).toNat)))):=(Same.refl H2).laid hT
     have eT:(upd H2 T (.lst (nsV (fs.take (1:Int).toNat)))) T=some (.lst (nsV (fs.take (1:Int).toNat))):=ae
     generalize upd H2 T (.lst (nsV (fs.take (1:Int).toNat)))=H3 at*
     have s13:=(s1.trans s2).trans s3
     walk_at "w"
     have hkl:=pP nd fun k hk'=>(hk k hk').1
     refine i8 (s3 _ _ (s2 _ _ eR)) eT (by rw [ll,ll,List.length_take]; have:(1:Int).toNat=1:=rfl; omega) fun U hU=>?_
     rw [zA]
     have hU0:H U=none:=s13.free hU
     have memf:∀ k∈fs.take (1:Int).toNat,k∈cs∧sgN xs k=1+(i:Int):=fun k hk'=>by
      have:=List.mem_of_mem_take hk'
      rw [← hfs] at this
      have:=List.mem_filter.mp this
      exact ⟨this.1,of_decide_eq_true this.2⟩
     refine ⟨U,_,_,ks++fs.take (1:Int).toNat,rfl,s13.laid hU,hU0,ae,?_,?_,?_⟩
     · rw [List.nodup_append]
       refine ⟨nd,?_,fun a ha b hb e=>?_⟩
       · match fs with
         | []=>exact List.nodup_nil
         | x::r=>show ([x]:List Nat).Nodup; exact List.nodup_cons.mpr ⟨by simp,List.nodup_nil⟩
       · have h1:=(hk a ha).2
         have h2:=(memf b hb).2
         rw [e] at h1
         omega
     · intro k hk'
       rcases List.mem_append.mp hk' with hk' | hk'
       · have:=hk k hk'
         exact ⟨this.1,by have:=this.2; omega⟩
       · have:=memf k hk'
         exact ⟨this.1,by rw [this.2]; omega⟩
     · intro c hc hle e0
       obtain ⟨e1,e2⟩:=List.append_eq_nil_iff.mp e0
       by_cases hlt:sgN xs c≤(i:Int)
       · exact hne c hc hlt e1
       · have hm:c∈fs:=by rw [← hfs]; exact List.mem_filter.mpr ⟨hc,decide_eq_true (by omega)⟩
         match fs,hm,e2 with
         | x::r,_,e2=>cases e2
 · rintro σ H1 ⟨R,sv,mv,ks,rfl,s1,hR,eR,nd,hk,hne⟩
   have hsub:∀ k∈ks,k∈cs:=fun k hk'=>(hk k hk').1
   have hkl:=pP nd hsub
   have hks:ks≠[]:=by
    match ec:cs,X.ne with
    | c::r,_=>
     have hc:c∈cs:=by rw [ec]; exact List.mem_cons_self
     refine hne c (by rw [← ec]; exact hc) ?_
     have:=(vD X.sg (X.lt c (by rw [← ec]; exact hc))).2
     have:((7 - 1:Int).toNat:Int)=6:=rfl
     omega
   walk_at "w"
   rw [aJ]
   walk_at "w"
   cases b with
   | true=>exact q R H1 ks s1 hR eR nd hsub hks (by omega)
   | false=>
    refine ⟨⟨_,s1.seq (SqL.of X.O)⟩,?_⟩
    refine gJ (xs:=cs.map fun (n:Nat)=>(n:Int)) (fun x=>decide (x∈ks.map fun (n:Nat)=>(n:Int))) (fun x=>x) (by simp; omega) (s1.seq (SqL.of X.O)) ?_ ?_ ?_
    · intro x H2 R2 hx s2 k2
      show tTest _ [none,some (.int x),some (.ref R)] H2 R2
      walk_at "w"
      rw [Al (s2 _ _ eR)]
      exact ⟨_,rfl,k2 _ (Same.refl _)⟩
    · intro x H2 Q2 hx hb s2 k2
      show tVar 1 [none,some (.int x),some (.ref R)] H2 Q2
      walk_at "w"
      exact k2 _ (Same.refl _)
    · intro S H2 hS s2 eS
      rw [mr] at eS
      refine q S H2 (cs.filter fun (n:Nat)=>decide ((n:Int)∈ks.map fun (n:Nat)=>(n:Int))) (s1.trans s2) (s1.free hS) eS (X.nd.filter _) (fun k hk'=>(List.mem_filter.mp hk').1) ?_ (Nat.le_trans (List.length_filter_le _ _) (by omega))
      match ks,hks,hsub with
      | k::r,_,hsub=>
       intro e
       have:k∈cs.filter fun (n:Nat)=>decide ((n:Int)∈(k::r).map fun (n:Nat)=>(n:Int)):=List.mem_filter.mpr ⟨hsub k List.mem_cons_self,by simp⟩
       rw [e] at this
       cases this
def db (K:PySem.W.Frag):Sp:=fun vs H Q _=>∃ (f C:Addr) (cs:List Nat) (xs:List Int),vs=[.ref f,.ref C]∧H f=some (.lst (xs.map V.int))∧H C=some (.lst (nsV cs))∧(∀ c∈cs,c < xs.length)∧∀ n:Nat,n≤cs.length→Q (.int n) H
theorem tZ {K:PySem.W.Frag} {vs:List V} {H:Hp} {Q:VK} {E:XK} (h:db K vs H Q E):vs.length=2:=by
 obtain ⟨_,_,_,_,rfl,_⟩:=h; rfl
def gY (K:PySem.W.Frag):TS:=
 (tSeq (tAsg (tC (.int 0)) (gName 2))
  (tSeq (tAsg (tC (.int 0)) (gName 3))
  (tSeq (tFor (iList K (tVar 1)) (gName 4)
  (tIfS (tTest (tOp (cCmp fun i j=>decide (j < i)) (tOp cIx (tVar 0) (tVar 4)) (tVar 2))) (tSeq (tAsg (tOp cIx (tVar 0) (tVar 4)) (gName 2))
  (tAsg (tOp cAdd (tVar 3) (tC (.int 1))) (gName 3))) tNext))
  (tRet (tVar 3)))))
theorem t0 {K:PySem.W.Frag} {vs:List V} {H:Hp} {Q:VK} {E:XK} (h:db K vs H Q E):gY K { nx:=fun _ H'=>Q .non H',rt:=Q } (start ["_law_filling_here","_law_cells","_law_greatest","_law_many","_law_cell"] vs) H:=by
 obtain ⟨f,C,cs,xs,rfl,hf,hC,hlt,q⟩:=h
 show gY K _ [some (.ref f),some (.ref C),none,none,none] H
 unfold gY
 walk_at "w"
 refine ⟨⟨_,SqL.of hC⟩,xo (K:=K) (xs:=nsV cs) (fun i σ H'=>∃ (cv:Option V) (g:Int) (n:Nat),σ=[some (.ref f),some (.ref C),some (.int g),some (.int n),cv]∧H'=H∧n≤i) ⟨none,0,0,rfl,rfl,Nat.zero_le _⟩ (fun i σ H' _ ⟨_,_,_,_,e,_⟩=>by rw [e]; exact SqL.of hC) ?_ ?_⟩
 · rintro i y σ H2 hy ⟨cv,g,n,rfl,rfl,hn⟩
   rw [List.getElem?_map,List.getElem?_map] at hy
   cases e:cs[i]? with
   | none=>rw [e] at hy; cases hy
   | some c=>
    rw [e] at hy
    cases hy
    have hl:=hlt c (List.mem_of_getElem? e)
    walk_at "w"
    rw [aJ]
    walk_at "w"
    refine uV hf hl ?_
    walk_at "w"
    cases decide (g < sgN xs c) with
    | true=>
     refine iteT ?_
     refine uV hf hl ?_
     exact ⟨_,_,n+1,rfl,by first | trivial | rfl,by omega⟩
    | false=>exact iteF ⟨_,g,n,rfl,by first | trivial | rfl,by omega⟩
 · rintro σ H2 ⟨cv,g,n,rfl,rfl,hn⟩
   walk_at "w"
   exact q n (by rw [ll] at hn; exact hn)
structure LineS (H:Hp) (p f:Addr) (h w g:Int) (xs:List Int):Prop where
 fl:IsFl H p h w g
 F:FlOk h w g
 f:H f=some (.lst (xs.map V.int))
 n:xs.length=(h*w).toNat
 sg:∀ x∈xs,1≤x∧x≤6
theorem LineS.same {H H':Hp} {p f:Addr} {h w g:Int} {xs:List Int} (x:LineS H p f h w g xs) (s:Same H H'):LineS H' p f h w g xs:=⟨s _ _ x.fl,x.F,s _ _ x.f,x.n,x.sg⟩
def ck (K:PySem.W.Frag):Sp:=fun vs H Q _=>∃ (p f:Addr) (h w g z:Int) (xs:List Int),vs=[.ref p,.ref f,.int z]∧LineS H p f h w g xs∧∀ (r:RR) (H':Hp),Same H H'→r.Ok h w g→Q (.str r.txt) H'
theorem qA {K:PySem.W.Frag} {vs:List V} {H:Hp} {Q:VK} {E:XK} (h:ck K vs H Q E):vs.length=3:=by
 obtain ⟨_,_,_,_,_,_,_,rfl,_⟩:=h; rfl
def d8 (K:PySem.W.Frag):TS:=
 (tRet (tBM K "str" fJ (tC (.str (tx [32]))) (tCons (tOp cAdd (tVar 10) (tComp [none,none] (iList K (tVar 6)) (gName 1) tTrue (tCB kStr (tCons (tVar 1) tNil)))) tNil)))
def d9 (K:PySem.W.Frag):TS:=
 (tSeq (tIfS (tTest (tOp (cEq K) (tVar 9) (tC (.int 1)))) (tAsg (tLst (tCons (tC (.str (tx [115,117,109]))) (tCons (tCB kStr (tCons (tOp cAdd (tCB kSum (tCons (tComp [none,none,some 1] (iList K (tVar 6)) (gName 1) tTrue (tOp cIx (tVar 2) (tVar 1))) tNil)) (tVar 8)) tNil)) tNil))) (gName 10)) tNext)
  (tSeq (tIfS (tTest (tOp (cEq K) (tVar 9) (tC (.int 2)))) (tAsg (tLst (tCons (tC (.str (tx [114,105,115,105,110,103]))) tNil)) (gName 10)) tNext)
  (tSeq (tIfS (tTest (tOp (cEq K) (tVar 9) (tC (.int 3)))) (tAsg (tLst (tCons (tC (.str (tx [115,101,101,110]))) (tCons (tCB kStr (tCons (tOp cAdd (tCall (db K) [] E0 (tCons (tVar 1) (tCons (tVar 6) tNil))) (tVar 8)) tNil)) tNil))) (gName 10)) tNext)
  (tSeq (tIfS (tTest (tOp (cEq K) (tVar 9) (tC (.int 4)))) (tAsg (tLst (tCons (tC (.str (tx [99,111,117,110,116]))) (tCons (tCB kStr (tCons (tOp cAdd (tCB kLen (tCons (tComp [none,none,some 1,some 7] (iList K (tVar 6)) (gName 1) (tTest (tOp (cEq K) (tOp cIx (tVar 2) (tVar 1)) (tVar 3))) (tVar 1)) tNil)) (tVar 8)) tNil)) (tCons (tCB kStr (tCons (tVar 7) tNil)) tNil)))) (gName 10)) tNext)
  (d8 K)))))
def fo (K:PySem.W.Frag):TS:=
 (tSeq (tAsg (tLst (tCons (tC (.str (tx [117,110,108,105,107,101]))) tNil)) (gName 10))
  (d9 K))
def fq (K:PySem.W.Frag):TS:=
 (tSeq (tIfS (tAnd (tTest (tOp (cIn K false) (tVar 9) (tTup (tCons (tC (.int 0)) (tCons (tC (.int 2)) tNil))))) (tTest (tOp (cEq K) (tVar 8) (tC (.int 0))))) (tAsg (tSl cP (tCall (da K) [] E0 (tCons (tVar 5) (tCons (tVar 1) (tCons (tOp (cEq K) (tVar 9) (tC (.int 2))) tNil)))) bq (tPart (tCB kLen (tCons (tVar 6) tNil)))) (gName 6)) tNext)
  (fo K))
def ft (K:PySem.W.Frag):TS:=
 (tSeq (tIfS (tTest (tOp (cCmp fun i j=>decide (j < i)) (tVar 9) (tC (.int 4)))) (tRet (tOp cAdd (tOp cAdd (tOp cIx (tLst (tCons (tC (.str (tx [106,111,105,110,101,100]))) (tCons (tC (.str (tx [110,111,115,113,117,97,114,101]))) (tCons (tC (.str (tx [114,105,110,103]))) tNil)))) (tOp cSub (tVar 9) (tC (.int 5)))) (tC (.str (tx [32])))) (tCB kStr (tCons (tVar 7) tNil)))) tNext)
  (fq K))
def e6 (K:PySem.W.Frag):TS:=
 (tSeq (tAsg (tOp cMul (tOp cIx (tVar 0) (tC (.int 0))) (tOp cIx (tVar 0) (tC (.int 1)))) (gName 3))
  (tSeq (tAsg (tCall (cg K) [] E0 (tCons (tOp cDiv (tVar 2) (tC (.int 8))) (tCons (tOp cAdd (tVar 3) (tC (.int 3))) tNil))) (gName 4))
  (tSeq (tAsg (tCall (cG K) [] E0 (tCons (tVar 4) (tCons (tVar 3) tNil))) (gName 5))
  (tSeq (tAsg (tSl cP (tVar 5) bq (tPart (tOp cAdd (tC (.int 1)) (tOp cMod (tOp cIx (tVar 4) (tVar 3)) (tVar 3))))) (gName 6))
  (tSeq (tAsg (tOp cAdd (tC (.int 1)) (tOp cMod (tOp cIx (tVar 4) (tOp cAdd (tVar 3) (tC (.int 1)))) (tOp cIx (tVar 0) (tC (.int 2))))) (gName 7))
  (tSeq (tAsg (tOp cIx (tLst (tCons (tC (.int 0)) (tCons (tC (.int 0)) (tCons (tC (.int 0)) (tCons (tC (.int 1)) tNil))))) (tOp cMod (tOp cIx (tVar 4) (tOp cAdd (tVar 3) (tC (.int 2)))) (tC (.int 4)))) (gName 8))
  (tSeq (tAsg (tOp cMod (tVar 2) (tC (.int 8))) (gName 9))
  (ft K))))))))
structure SomeS (H:Hp) (S:Addr) (n:Nat) (ns:List Nat):Prop where
 S:H S=some (.lst (nsV ns))
 nd:ns.Nodup
 ne:ns≠[]
 len:ns.length≤16
 lt:∀ c∈ns,c < n
theorem SomeS.same {H H':Hp} {S:Addr} {n:Nat} {ns:List Nat} (x:SomeS H S n ns) (s:Same H H'):SomeS H' S n ns:=⟨s _ _ x.S,x.nd,x.ne,x.len,x.lt⟩
theorem SomeS.lt100 {H:Hp} {S:Addr} {h w g:Int} {ns:List Nat} (F:FlOk h w g) (x:SomeS H S (h*w).toNat ns):∀ c∈ns,c < 100:=fun c hc=>by
 have:=x.lt c hc
 have:=F.m
 omega
theorem cx {K:PySem.W.Frag} {H:Hp} {Q:VK} {v0 v1 v2 v3 v4 v5 v7 v8 v9:Option V} {S W:Addr} {n:Nat} {ns:List Nat} {pre:List (List Nat)} (X:SomeS H S n ns) (h100:∀ c∈ns,c < 100) (hW:H W=some (.lst ((pre.map tx).map V.str))) (h1:pre.length≤10) (h2:∀ x∈pre,x.length≤100)
  (q:∀ H',Same H H'→Q (.str (tx (catL 32 (pre++ns.map numC)))) H'):
  d8 K { nx:=fun _ H'=>Q .non H',rt:=Q } [v0,v1,v2,v3,v4,v5,some (.ref S),v7,v8,v9,some (.ref W)] H:=by
 have hn:=X.len
 unfold d8
 walk_at "w"
 refine ⟨lB,⟨_,SqL.of X.S⟩,?_⟩
 refine rH X.S (by omega) h100 fun l H1 hl s1 el=>?_
 walk_at "w"
 refine i8 (s1 _ _ hW) el (by simp; omega) fun r hr=>?_
 have er:(upd H1 r (.lst ((pre.map tx).map V.str++((ns.map numC).map tx).map V.str))) r=some (.lst (((pre++ns.map numC).map tx).map V.str)):=by rw [ae]; simp
 have s2:Same H (upd H1 r (.lst ((pre.map tx).map V.str++((ns.map numC).map tx).map V.str))):=s1.laid hr
 generalize upd H1 r (.lst ((pre.map tx).map V.str++((ns.map numC).map tx).map V.str))=H2 at*
 walk_at "w"
 have hw:∀ t∈pre++ns.map numC,t.length≤100:=fun t ht=>by
  rcases List.mem_append.mp ht with ht | ht
  · exact h2 t ht
  · obtain ⟨x,_,rfl⟩:=List.mem_map.mp ht
    exact Nat.le_trans cB (by decide)
 have er2:H2 r=some (.lst (((pre++ns.map numC).map tx).map V.str)):=er
 refine qp er2 (gK (by simp; omega) (fun t ht=>by obtain ⟨y,hy,rfl⟩:=List.mem_map.mp ht; rw [bT]; have:=hw y hy; omega) (by rw [bT]; decide)) ?_
 rw [lD,jV]
 exact q _ s2
theorem fK {k:RK} {h w g:Int} {n m:Nat} {ns:List Nat} {H:Hp} {S:Addr} (F:FlOk h w g) (X:SomeS H S (h*w).toNat ns) (hk:allK k=false) (k0:k≠.Rule) (n0:n≤99) (nz:numK k=false→n=0) (m0:sgnK k=true→1≤(m:Int)∧(m:Int)≤g) (mz:sgnK k=false→m=0):
  RR.Ok ⟨k,n,m,ns,ns.map fun (n:Nat)=>(n:Int)⟩ h w g:=by
 refine ⟨k0,n0,nz,m0,mz,⟨fun _=>⟨X.ne,X.len,fun n hn=>?_,X.nd,rfl⟩,fun e=>?_⟩,X.lt100 F,X.len⟩
 · have:=X.lt n hn
   omega
 · rw [hk] at e; cases e
theorem wZ {k:RK} {h w g:Int} {m:Nat} (hk:allK k=true) (k0:k≠.Rule) (hn:numK k=false) (hs:sgnK k=true) (m0:1≤(m:Int)) (m1:(m:Int)≤g):RR.Ok ⟨k,0,m,[],rngL 0 (h*w)⟩ h w g:=by
 refine ⟨k0,Nat.zero_le _,fun _=>rfl,fun _=>⟨m0,m1⟩,fun e=>?_,⟨fun e=>?_,fun _=>⟨rfl,rfl⟩⟩,fun x hx=>(by cases hx),Nat.zero_le _⟩
 · rw [show sgnK k=false from e] at hs; cases hs
 · rw [show allK k=false from e] at hk; cases hk
theorem ifEqI {K:PySem.W.Frag} {σ:St} {H:Hp} {D:Ends} {t u:TS} {i j:Int} {b:Bool} {x:Nat} (hσ:σ[x]? =some (some (.int i))) (hb:decide (i=j)=b) (q:if b=true then t D σ H else u D σ H):tIfS (tTest (tOp (cEq K) (tVar x) (tC (.int j)))) t u D σ H:=by
 rw [aJ,fF,kC,eh]
 refine ⟨_,hσ,?_⟩
 walk_at "w"
 rw [hb]
 exact q
theorem rJ:∀ {ys:List Int},(∀ y∈ys,1≤y∧y≤6)→0≤ys.sum∧ys.sum≤6*(ys.length:Int)
 | [],_=>⟨by simp,by simp⟩
 | y::r,h=>by
  have h1:=h y List.mem_cons_self
  have h2:=rJ (ys:=r) fun z hz=>h z (List.mem_cons_of_mem _ hz)
  rw [List.sum_cons,List.length_cons]
  constructor <;> omega
theorem oy {K:PySem.W.Frag} {H:Hp} {Q:VK} {p f X O S W:Addr} {h w g z off way:Int} {xs:List Int} {ns:List Nat} {m:Nat} {many:V} (L:LineS H p f h w g xs) (M:SomeS H S (h*w).toNat ns) (o0:0≤off) (o1:off≤1) (m0:1≤(m:Int)) (m1:(m:Int)≤g) (w0:0≤way) (w1:way≤4) (hW:H W=some (.lst [V.str (tx (nmC .Unlike))]))
  (q:∀ (r:RR) (H':Hp),Same H H'→r.Ok h w g→Q (.str r.txt) H'):
  d9 K { nx:=fun _ H'=>Q .non H',rt:=Q } [some (.ref p),some (.ref f),some (.int z),some many,some (.ref X),some (.ref O),some (.ref S),some (.int (m:Int)),some (.int off),some (.int way),some (.ref W)] H:=by
 have h100:=M.lt100 L.F
 have hlen:=M.len
 have hg:=L.F.g1
 have hlt:∀ c∈ns,c < xs.length:=fun c hc=>by rw [L.n]; exact M.lt c hc
 have W1:∀ k:RK,(nmC k).length≤100:=fun k=>by cases k <;> decide
 have hN:∀ x,(numC x).length≤100:=fun x=>Nat.le_trans cB (by decide)
 unfold d9
 have hw:way=0∨way=1∨way=2∨way=3∨way=4:=by omega
 rcases hw with rfl | rfl | rfl | rfl | rfl
 · rw [aB]
   refine ifEqI rfl (b:=false) (by decide) (iteF ?_)
   rw [aX]
   dsimp only
   rw [aB]
   refine ifEqI rfl (b:=false) (by decide) (iteF ?_)
   rw [aX]
   dsimp only
   rw [aB]
   refine ifEqI rfl (b:=false) (by decide) (iteF ?_)
   rw [aX]
   dsimp only
   rw [aB]
   refine ifEqI rfl (b:=false) (by decide) (iteF ?_)
   rw [aX]
   dsimp only
   exact cx (pre:=[nmC .Unlike]) M h100 hW (by decide) (fun x hx=>by rw [List.mem_singleton.mp hx]; exact W1 _) fun H1 s1=>q ⟨.Unlike,0,0,ns,_⟩ H1 s1 (fK L.F M rfl (by decide) (by decide) (fun _=>rfl) (fun e=>by cases e) (fun _=>rfl))
 · rw [aB]
   refine ifEqI rfl (b:=true) (by decide) (iteT ?_)
   walk_at "w"
   refine ⟨⟨_,SqL.of M.S⟩,?_⟩
   refine gJ (xs:=ns.map fun (n:Nat)=>(n:Int)) (fun _=>true) (fun x=>xs.getD x.toNat 0) (by simp; omega) (SqL.of M.S) ?_ ?_ ?_
   · intro x H1 R hx s1 k1
     exact k1 _ (Same.refl _)
   · intro x H1 Q1 hx hb s1 k1
     obtain ⟨c,hc,rfl⟩:=pO hx
     have:=hlt c hc
     show tOp cIx _ _ [none,some (.int (c:Int)),some (.ref f)] H1 Q1
     walk_at "w"
     exact ixI (s1 _ _ L.f) (by omega) (by omega) (k1 _ (Same.refl _))
   · intro T H1 hT s1 eT
     rw [bd] at eT
     have hb:∀ y∈(ns.map fun (n:Nat)=>(n:Int)).map (fun x=>xs.getD x.toNat 0),1≤y∧y≤6:=fun y hy=>by
      obtain ⟨x,hx,rfl⟩:=List.mem_map.mp hy
      obtain ⟨c,hc,rfl⟩:=pO hx
      exact vD L.sg (hlt c hc)
     have hs:=rJ hb
     rw [List.length_map,List.length_map] at hs
     walk_at "w"
     refine zW eT (fun y hy=>by have:=hb y hy; omega) (by rw [List.length_map,List.length_map]; omega) ?_
     generalize ((ns.map fun (n:Nat)=>(n:Int)).map (fun x=>xs.getD x.toNat 0)).sum=sm at*
     walk_at "w"
     have en:sm+off=(((sm+off).toNat:Nat):Int):=by omega
     have hn:(sm+off).toNat≤97:=by omega
     rw [en]
     generalize (sm+off).toNat=n at*
     refine ⟨j2 (n:=n) (by omega),?_⟩
     rw [jY (n:=n) (by omega)]
     refine ⟨aG (by show (2:Nat)≤1000; decide),fun V1 hV1=>?_⟩
     have s2:Same H (upd H1 V1 (.lst [V.str (tx [115,117,109]),V.str (tx (numC n))])):=s1.laid hV1
     have eV:(upd H1 V1 (.lst [V.str (tx [115,117,109]),V.str (tx (numC n))])) V1=some (.lst ((([nmC .Sum,numC n]:List (List Nat)).map tx).map V.str)):=ae
     generalize upd H1 V1 (.lst [V.str (tx [115,117,109]),V.str (tx (numC n))])=H2 at*
     refine ifEqI rfl (b:=false) (by decide) (iteF ?_)
     rw [aX]
     dsimp only
     rw [aB]
     refine ifEqI rfl (b:=false) (by decide) (iteF ?_)
     rw [aX]
     dsimp only
     rw [aB]
     refine ifEqI rfl (b:=false) (by decide) (iteF ?_)
     rw [aX]
     dsimp only
     exact cx (pre:=[nmC .Sum,numC n]) (M.same s2) h100 eV (by show (2:Nat)≤10; decide) (fun x hx=>by rcases List.mem_cons.mp hx with rfl | hx; exact W1 _; rw [List.mem_singleton.mp hx]; exact hN _) fun H3 s3=>q ⟨.Sum,n,0,ns,_⟩ H3 (s2.trans s3) (fK L.F M rfl (by decide) (by omega) (fun e=>by cases e) (fun e=>by cases e) (fun _=>rfl))
 · rw [aB]
   refine ifEqI rfl (b:=false) (by decide) (iteF ?_)
   rw [aX]
   dsimp only
   rw [aB]
   refine ifEqI rfl (b:=true) (by decide) (iteT ?_)
   walk_at "w"
   refine ⟨aG (by show (1:Nat)≤1000; decide),fun V1 hV1=>?_⟩
   have s2:Same H (upd H V1 (.lst [V.str (tx [114,105,115,105,110,103])])):=(Same.refl H).laid hV1
   have eV:(upd H V1 (.lst [V.str (tx [114,105,115,105,110,103])])) V1=some (.lst ((([nmC .Rising]:List (List Nat)).map tx).map V.str)):=ae
   generalize upd H V1 (.lst [V.str (tx [114,105,115,105,110,103])])=H2 at*
   refine ifEqI rfl (b:=false) (by decide) (iteF ?_)
   rw [aX]
   dsimp only
   rw [aB]
   refine ifEqI rfl (b:=false) (by decide) (iteF ?_)
   rw [aX]
   dsimp only
   exact cx (pre:=[nmC .Rising]) (M.same s2) h100 eV (by show (1:Nat)≤10; decide) (fun x hx=>by rw [List.mem_singleton.mp hx]; exact W1 _) fun H3 s3=>q ⟨.Rising,0,0,ns,_⟩ H3 (s2.trans s3) (fK L.F M rfl (by decide) (by omega) (fun _=>rfl) (fun e=>by cases e) (fun _=>rfl))
 · rw [aB]
   refine ifEqI rfl (b:=false) (by decide) (iteF ?_)
   rw [aX]
   dsimp only
   rw [aB]
   refine ifEqI rfl (b:=false) (by decide) (iteF ?_)
   rw [aX]
   dsimp only
   rw [aB]
   refine ifEqI rfl (b:=true) (by decide) (iteT ?_)
   walk_at "w"
   refine ⟨f,S,ns,xs,rfl,L.f,M.S,hlt,fun sn hsn=>?_⟩
   walk_at "w"
   have en:(sn:Int)+off=(((sn:Int)+off).toNat:Nat):=by omega
   have hn:((sn:Int)+off).toNat≤97:=by omega
   rw [en]
   generalize ((sn:Int)+off).toNat=n at*
   refine ⟨j2 (n:=n) (by omega),?_⟩
   rw [jY (n:=n) (by omega)]
   refine ⟨aG (by show (2:Nat)≤1000; decide),fun V1 hV1=>?_⟩
   have s2:Same H (upd H V1 (.lst [V.str (tx [115,101,101,110]),V.str (tx (numC n))])):=(Same.refl H).laid hV1
   have eV:(upd H V1 (.lst [V.str (tx [115,101,101,110]),V.str (tx (numC n))])) V1=some (.lst ((([nmC .Seen,numC n]:List (List Nat)).map tx).map V.str)):=ae
   generalize upd H V1 (.lst [V.str (tx [115,101,101,110]),V.str (tx (numC n))])=H2 at*
   refine ifEqI rfl (b:=false) (by decide) (iteF ?_)
   rw [aX]
   dsimp only
   exact cx (pre:=[nmC .Seen,numC n]) (M.same s2) h100 eV (by show (2:Nat)≤10; decide) (fun x hx=>by rcases List.mem_cons.mp hx with rfl | hx; exact W1 _; rw [List.mem_singleton.mp hx]; exact hN _) fun H3 s3=>q ⟨.Seen,n,0,ns,_⟩ H3 (s2.trans s3) (fK L.F M rfl (by decide) (by omega) (fun e=>by cases e) (fun e=>by cases e) (fun _=>rfl))
 · rw [aB]
   refine ifEqI rfl (b:=false) (by decide) (iteF ?_)
   rw [aX]
   dsimp only
   rw [aB]
   refine ifEqI rfl (b:=false) (by decide) (iteF ?_)
   rw [aX]
   dsimp only
   rw [aB]
   refine ifEqI rfl (b:=false) (by decide) (iteF ?_)
   rw [aX]
   dsimp only
   rw [aB]
   refine ifEqI rfl (b:=true) (by decide) (iteT ?_)
   walk_at "w"
   refine ⟨⟨_,SqL.of M.S⟩,?_⟩
   refine gJ (xs:=ns.map fun (n:Nat)=>(n:Int)) (fun x=>decide (xs.getD x.toNat 0=(m:Int))) (fun x=>x) (by simp; omega) (SqL.of M.S) ?_ ?_ ?_
   · intro x H1 R hx s1 k1
     obtain ⟨c,hc,rfl⟩:=pO hx
     have:=hlt c hc
     show tTest _ [none,some (.int (c:Int)),some (.ref f),some (.int (m:Int))] H1 R
     walk_at "w"
     refine ixI (s1 _ _ L.f) (by omega) (by omega) ?_
     walk_at "w"
     exact k1 _ (Same.refl _)
   · intro x H1 Q1 hx hb s1 k1
     show tVar 1 [none,some (.int x),some (.ref f),some (.int (m:Int))] H1 Q1
     walk_at "w"
     exact k1 _ (Same.refl _)
   · intro T H1 hT s1 eT
     rw [mr] at eT
     have eT':H1 T=some (.lst (nsV (ns.filter fun (n:Nat)=>decide (xs.getD (n:Int).toNat 0=(m:Int))))):=eT
     have hfl:=List.length_filter_le (fun n:Nat=>decide (xs.getD (n:Int).toNat 0=(m:Int))) ns
     generalize (ns.filter fun (n:Nat)=>decide (xs.getD (n:Int).toNat 0=(m:Int)))=fs at*
     walk_at "w"
     rw [gC eT',ll]
     walk_at "w"
     have en:(fs.length:Int)+off=(((fs.length:Int)+off).toNat:Nat):=by omega
     have hn:((fs.length:Int)+off).toNat≤97:=by omega
     rw [en]
     generalize ((fs.length:Int)+off).toNat=n at*
     refine ⟨j2 (n:=n) (by omega),j2 (n:=m) (by omega),?_⟩
     rw [jY (n:=n) (by omega),jY (n:=m) (by omega)]
     refine ⟨aG (by show (3:Nat)≤1000; decide),fun V1 hV1=>?_⟩
     have s2:Same H (upd H1 V1 (.lst [V.str (tx [99,111,117,110,116]),V.str (tx (numC n)),V.str (tx (numC m))])):=s1.laid hV1
     have eV:(upd H1 V1 (.lst [V.str (tx [99,111,117,110,116]),V.str (tx (numC n)),V.str (tx (numC m))])) V1=some (.lst ((([nmC .Count,numC n,numC m]:List (List Nat)).map tx).map V.str)):=ae
     generalize upd H1 V1 (.lst [V.str (tx [99,111,117,110,116]),V.str (tx (numC n)),V.str (tx (numC m))])=H2 at*
     exact cx (pre:=[nmC .Count,numC n,numC m]) (M.same s2) h100 eV (by show (3:Nat)≤10; decide) (fun x hx=>by rcases List.mem_cons.mp hx with rfl | hx; exact W1 _; rcases List.mem_cons.mp hx with rfl | hx; exact hN _; rw [List.mem_singleton.mp hx]; exact hN _) fun H3 s3=>q ⟨.Count,n,m,ns,_⟩ H3 (s2.trans s3) (fK L.F M rfl (by decide) (by omega) (fun e=>by cases e) (fun _=>⟨m0,m1⟩) (fun e=>by cases e))
theorem gZ {K:PySem.W.Frag} {H:Hp} {Q:VK} {p f X O S:Addr} {h w g z off way:Int} {xs:List Int} {ns:List Nat} {m:Nat} {many:V} (L:LineS H p f h w g xs) (M:SomeS H S (h*w).toNat ns) (o0:0≤off) (o1:off≤1) (m0:1≤(m:Int)) (m1:(m:Int)≤g) (w0:0≤way) (w1:way≤4)
  (q:∀ (r:RR) (H':Hp),Same H H'→r.Ok h w g→Q (.str r.txt) H'):
  fo K { nx:=fun _ H'=>Q .non H',rt:=Q } [some (.ref p),some (.ref f),some (.int z),some many,some (.ref X),some (.ref O),some (.ref S),some (.int (m:Int)),some (.int off),some (.int way),none] H:=by
 unfold fo
 walk_at "w"
 refine ⟨aG (by show (1:Nat)≤1000; decide),fun W hW=>?_⟩
 have s1:Same H (upd H W (.lst [V.str (tx (nmC .Unlike))])):=(Same.refl H).laid hW
 exact oy (L.same s1) (M.same s1) o0 o1 m0 m1 w0 w1 ae fun r H' s2 O=>q r H' (s1.trans s2) O
theorem zB {K:PySem.W.Frag} {H:Hp} {Q:VK} {p:Addr} {i:Int} {ns:List Int} (h:H p=some (.tup (ns.map V.int))):cIn K false (.int i) (.ref p) H Q=Q (.bl (decide (i∈ns))) H:=by
 unfold cIn; dsimp only; rw [h]; dsimp only [unD,unS,bnd]
 rw [n5,ma]
 simp [flatV]
theorem pQ {K:PySem.W.Frag} {H:Hp} {Q:VK} {p f X O S:Addr} {h w g z off way:Int} {xs:List Int} {cs ns:List Nat} {m:Nat} {many:V} (L:LineS H p f h w g xs) (M:SomeS H S (h*w).toNat ns) (hO:H O=some (.lst (nsV cs))) (c1:cs.Nodup) (c2:cs≠[]) (c3:cs.length≤16) (c4:∀ c∈cs,c < (h*w).toNat) (o0:0≤off) (o1:off≤1) (m0:1≤(m:Int)) (m1:(m:Int)≤g) (w0:0≤way) (w1:way≤4)
  (q:∀ (r:RR) (H':Hp),Same H H'→r.Ok h w g→Q (.str r.txt) H'):
  fq K { nx:=fun _ H'=>Q .non H',rt:=Q } [some (.ref p),some (.ref f),some (.int z),some many,some (.ref X),some (.ref O),some (.ref S),some (.int (m:Int)),some (.int off),some (.int way),none] H:=by
 unfold fq
 rw [aB,aJ]
 walk_at "w"
 refine ⟨aG (by show (2:Nat)≤1000; decide),fun T hT=>?_⟩
 have s1:Same H (upd H T (.tup [V.int 0,V.int 2])):=(Same.refl H).laid hT
 have eT:(upd H T (.tup [V.int 0,V.int 2])) T=some (.tup (([0,2]:List Int).map V.int)):=ae
 generalize upd H T (.tup [V.int 0,V.int 2])=H1 at*
 rw [zB eT]
 refine ⟨_,rfl,?_⟩
 cases decide (way∈([0,2]:List Int)) with
 | false=>
  refine iteF ?_
  exact gZ (L.same s1) (M.same s1) o0 o1 m0 m1 w0 w1 fun r H' s2 O=>q r H' (s1.trans s2) O
 | true=>
  refine iteT ?_
  walk_at "w"
  cases decide (off=0) with
  | false=>
   refine iteF ?_
   exact gZ (L.same s1) (M.same s1) o0 o1 m0 m1 w0 w1 fun r H' s2 O=>q r H' (s1.trans s2) O
  | true=>
   refine iteT ?_
   walk_at "w"
   refine ⟨O,f,_,cs,xs,rfl,⟨s1 _ _ hO,s1 _ _ L.f,c1,c2,c3,fun c hc=>by rw [L.n]; exact c4 c hc,L.sg⟩,fun R H2 ks s2 hR eR k1 k2 k3 k4=>?_⟩
   walk_at "w"
   rw [gC (s2 _ _ (s1 _ _ M.S)),ll]
   refine ⟨_,rfl,?_⟩
   refine jI eR fun U hU=>?_
   rw [ox _ (by omega),qz,Int.toNat_natCast]
   have s3:Same H (upd H2 U (.lst (nsV (ks.take ns.length)))):=(s1.trans s2).laid hU
   have eU:(upd H2 U (.lst (nsV (ks.take ns.length)))) U=some (.lst (nsV (ks.take ns.length))):=ae
   generalize upd H2 U (.lst (nsV (ks.take ns.length)))=H3 at*
   refine gZ (ns:=ks.take ns.length) (L.same s3) ⟨eU,k1.sublist (List.take_sublist _ _),?_,?_,fun c hc=>c4 c (k2 c (List.mem_of_mem_take hc))⟩ o0 o1 m0 m1 w0 w1 fun r H' s4 O=>q r H' (s3.trans s4) O
   · match ks,k3,ns,M.ne with
     | k::r,_,n::r',_=>simp
   · rw [List.length_take]
     have:=M.len
     omega
theorem vE {Q:VK} {H:Hp} {a b:List Nat} (h1:a.length≤100) (h2:b.length≤100) (q:Q (.str (tx (a++b))) H):cAdd (.str (tx a)) (.str (tx b)) H Q:=by
 rw [fI,tD]
 exact ⟨by rw [bT,bT]; exact aG (by omega),q⟩
theorem pR {K:PySem.W.Frag} {H:Hp} {Q:VK} {p f X O S:Addr} {h w g z off way:Int} {xs:List Int} {cs ns:List Nat} {m:Nat} {many:V} (L:LineS H p f h w g xs) (M:SomeS H S (h*w).toNat ns) (hO:H O=some (.lst (nsV cs))) (c1:cs.Nodup) (c2:cs≠[]) (c3:cs.length≤16) (c4:∀ c∈cs,c < (h*w).toNat) (o0:0≤off) (o1:off≤1) (m0:1≤(m:Int)) (m1:(m:Int)≤g) (w0:0≤way) (w1:way < 8)
  (q:∀ (r:RR) (H':Hp),Same H H'→r.Ok h w g→Q (.str r.txt) H'):
  ft K { nx:=fun _ H'=>Q .non H',rt:=Q } [some (.ref p),some (.ref f),some (.int z),some many,some (.ref X),some (.ref O),some (.ref S),some (.int (m:Int)),some (.int off),some (.int way),none] H:=by
 have hg:=L.F.g1
 have hN:∀ x,(numC x).length≤50:=fun x=>Nat.le_trans cB (by decide)
 unfold ft
 rw [aB,aJ]
 walk_at "w"
 by_cases hw:(4:Int) < way
 · rw [decide_eq_true hw]
   refine iteT ⟨aG (by show (3:Nat)≤1000; decide),fun T hT=>?_⟩
   have s1:Same H (upd H T (.lst [V.str (tx (nmC .Joined)),V.str (tx (nmC .NoSquare)),V.str (tx (nmC .Ring))])):=(Same.refl H).laid hT
   have eT:(upd H T (.lst [V.str (tx (nmC .Joined)),V.str (tx (nmC .NoSquare)),V.str (tx (nmC .Ring))])) T=some (.lst [V.str (tx (nmC .Joined)),V.str (tx (nmC .NoSquare)),V.str (tx (nmC .Ring))]):=ae
   have fin:∀ k:RK,allK k=true→k≠.Rule→numK k=false→sgnK k=true→(nmC k).length≤20→∀ (H1:Hp),Same H H1→cAdd (.str (tx (nmC k))) (.str (tx [32])) H1 fun x H2=>kStr [.int (m:Int)] H2 fun y H3=>cAdd x y H3 Q:=fun k a1 a2 a3 a4 a5 H1 s=>by
    refine vE (by omega) (by decide) ?_
    refine qw (by omega) ?_
    refine vE (by simp; omega) (by have:=hN m; omega) ?_
    have e:nmC k++[32]++numC m=catL 32 (rowW k 0 m []):=by
     unfold rowW
     rw [a3,a4]
     show nmC k++[32]++numC m=nmC k++32::numC m
     simp
    rw [e]
    exact q ⟨k,0,m,[],rngL 0 (h*w)⟩ H1 s (wZ a1 a2 a3 a4 m0 m1)
   have hw3:way=5∨way=6∨way=7:=by omega
   rcases hw3 with rfl | rfl | rfl
   · refine ixL eT (v:=V.str (tx (nmC .Joined))) rfl ?_
     walk_at "w"
     exact fin .Joined rfl (by decide) rfl rfl (by decide) _ s1
   · refine ixL eT (v:=V.str (tx (nmC .NoSquare))) rfl ?_
     walk_at "w"
     exact fin .NoSquare rfl (by decide) rfl rfl (by decide) _ s1
   · refine ixL eT (v:=V.str (tx (nmC .Ring))) rfl ?_
     walk_at "w"
     exact fin .Ring rfl (by decide) rfl rfl (by decide) _ s1
 · rw [decide_eq_false hw]
   refine iteF ?_
   exact pQ L M hO c1 c2 c3 c4 o0 o1 m0 m1 w0 (by omega) q
theorem qB {K:PySem.W.Frag} {vs:List V} {H:Hp} {Q:VK} {E:XK} (h:ck K vs H Q E):e6 K { nx:=fun _ H'=>Q .non H',rt:=Q } (start ["_law_floor_here","_law_filling_here","_law_cell","_law_many","_law_xs","_law_order_here","_law_some","_law_sign","_law_off","_law_way","_law_words"] vs) H:=by
 obtain ⟨p,f,h,w,g,z,xs,rfl,L,q⟩:=h
 obtain ⟨h0,h1,w0,w1,m16,g0,g1⟩:=id L.F
 have mpos:1≤h*w:=Int.le_trans (by omega) (Int.mul_le_mul h0 w0 (by omega) (by omega))
 show e6 K _ [some (.ref p),some (.ref f),some (.int z),none,none,none,none,none,none,none,none] H
 unfold e6
 walk_at "w"
 refine ixT L.fl (v:=V.int h) rfl ?_
 walk_at "w"
 refine ixT L.fl (v:=V.int w) rfl ?_
 walk_at "w"
 refine ⟨ko h0 h1,⟨by decide,by decide⟩,?_⟩
 walk_at "w"
 refine ⟨_,_,rfl,by omega,by omega,fun X H1 ys s1 hX eX hl hy=>?_⟩
 walk_at "w"
 refine ⟨X,h*w,ys,rfl,eX,by omega,by omega,by omega,fun O H2 cs s2 hO eO nd lt len=>?_⟩
 have s12:=s1.trans s2
 have eX2:=s2 _ _ eX
 walk_at "w"
 refine ixI eX2 (by omega) (by omega) ?_
 have y1:0≤ys.getD (h*w).toNat 0 % (h*w)∧ys.getD (h*w).toNat 0 % (h*w) < h*w:=⟨Int.emod_nonneg _ (by omega),Int.emod_lt_of_pos _ (by omega)⟩
 walk_at "w"
 refine ⟨by omega,?_⟩
 generalize ys.getD (h*w).toNat 0 % (h*w)=r1 at*
 refine jI eO fun S hS=>?_
 rw [ox _ (by omega),qz]
 have s3:Same H (upd H2 S (.lst (nsV (cs.take (1+r1).toNat)))):=s12.laid hS
 have s23:Same H2 (upd H2 S (.lst (nsV (cs.take (1+r1).toNat)))):=(Same.refl H2).laid hS
 have eS:(upd H2 S (.lst (nsV (cs.take (1+r1).toNat)))) S=some (.lst (nsV (cs.take (1+r1).toNat))):=ae
 generalize upd H2 S (.lst (nsV (cs.take (1+r1).toNat)))=H3 at*
 walk_at "w"
 refine ixI (s23 _ _ eX2) (by omega) (by omega) ?_
 walk_at "w"
 refine ixT (s3 _ _ L.fl) (v:=V.int g) rfl ?_
 walk_at "w"
 refine ⟨by omega,?_⟩
 have y2:0≤ys.getD (h*w+1).toNat 0 % g∧ys.getD (h*w+1).toNat 0 % g < g:=⟨Int.emod_nonneg _ (by omega),Int.emod_lt_of_pos _ (by omega)⟩
 generalize ys.getD (h*w+1).toNat 0 % g=r2 at*
 refine ⟨aG (by show (4:Nat)≤1000; decide),fun T hT=>?_⟩
 have s4:Same H3 (upd H3 T (.lst [V.int 0,V.int 0,V.int 0,V.int 1])):=(Same.refl H3).laid hT
 have eT:(upd H3 T (.lst [V.int 0,V.int 0,V.int 0,V.int 1])) T=some (.lst (([0,0,0,1]:List Int).map V.int)):=ae
 generalize upd H3 T (.lst [V.int 0,V.int 0,V.int 0,V.int 1])=H4 at*
 have s34:=s3.trans s4
 refine ixI (s4 _ _ (s23 _ _ eX2)) (by omega) (by omega) ?_
 walk_at "w"
 refine ⟨by decide,?_⟩
 have y3:0≤ys.getD (h*w+2).toNat 0 % 4∧ys.getD (h*w+2).toNat 0 % 4 < 4:=⟨Int.emod_nonneg _ (by omega),Int.emod_lt_of_pos _ (by omega)⟩
 generalize ys.getD (h*w+2).toNat 0 % 4=r3 at*
 refine ixI eT y3.1 (by show r3 < 4; omega) ?_
 have y4:0≤([0,0,0,1]:List Int).getD r3.toNat 0∧([0,0,0,1]:List Int).getD r3.toNat 0≤1:=by
  have:r3=0∨r3=1∨r3=2∨r3=3:=by omega
  rcases this with rfl | rfl | rfl | rfl <;> decide
 generalize ([0,0,0,1]:List Int).getD r3.toNat 0=off at*
 walk_at "w"
 refine ⟨by decide,?_⟩
 have em:1+r2=(((1+r2).toNat:Nat):Int):=by omega
 have em1:1≤(((1+r2).toNat:Nat):Int)∧(((1+r2).toNat:Nat):Int)≤g:=by omega
 rw [em]
 generalize (1+r2).toNat=m at*
 have y5:=Int.emod_nonneg z (show (8:Int)≠0 by decide)
 have y6:=Int.emod_lt_of_pos z (show (0:Int) < 8 by decide)
 refine pR (cs:=cs) (ns:=cs.take (1+r1).toNat) (L.same s34) ⟨s4 _ _ eS,nd.sublist (List.take_sublist _ _),?_,?_,fun c hc=>?_⟩ ((s23.trans s4) _ _ eO) nd ?_ (by omega) (fun c hc=>?_) y4.1 y4.2 em1.1 em1.2 y5 y6 fun r H' s5 O=>q r H' (s34.trans s5) O
 · intro e
   have:=congrArg List.length e
   rw [List.length_take,List.length_nil] at this
   omega
 · rw [List.length_take]; omega
 · have:=lt c (List.mem_of_mem_take hc)
   omega
 · intro e
   rw [e] at len
   simp at len
   omega
 · have:=lt c hc
   omega
def bE (K:PySem.W.Frag):Sp:=fun vs H Q _=>∃ (a p:Addr) (ns:List Int) (at_ h w g:Int),vs=[.ref a,.ref p,.int at_]∧SqL K H a (ns.map V.int)∧ns.length≤63∧0≤at_∧at_≤500∧IsFl H p h w g∧FlOk h w g∧
 ∀ (l:Addr) (H':Hp) (xs:List Int),Same H H'→H l=none→H' l=some (.lst (xs.map V.int))→xs.length=(h*w).toNat→(∀ x∈xs,1≤x∧x≤g)→Q (.ref l) H'
theorem ng {K:PySem.W.Frag} {vs:List V} {H:Hp} {Q:VK} {E:XK} (h:bE K vs H Q E):vs.length=3:=by
 obtain ⟨_,_,_,_,_,_,_,rfl,_⟩:=h; rfl
def cT (K:PySem.W.Frag):TS:=
 (tRet (tComp [none,none,some 2,some 1,some 0] (ee (tCons (tOp cMul (tOp cIx (tVar 1) (tC (.int 0))) (tOp cIx (tVar 1) (tC (.int 1)))) tNil)) (gName 1) tTrue (tOp cAdd (tC (.int 1)) (tOp cMod (tCall (aP K) [] E0 (tCons (tVar 4) (tCons (tOp cAdd (tVar 2) (tVar 1)) tNil))) (tOp cIx (tVar 3) (tC (.int 2)))))))
theorem nh {K:PySem.W.Frag} {vs:List V} {H:Hp} {Q:VK} {E:XK} (h:bE K vs H Q E):cT K { nx:=fun _ H'=>Q .non H',rt:=Q } (start ["_law_script","_law_floor_here","_law_at_here"] vs) H:=by
 obtain ⟨a,p,ns,at_,h,w,g,rfl,hS,hn,a0,a1,hp,F,q⟩:=h
 obtain ⟨h0,h1,w0,w1,m16,g0,g1⟩:=id F
 have mpos:0≤h*w:=Int.mul_nonneg (by omega) (by omega)
 show cT K _ [some (.ref a),some (.ref p),some (.int at_)] H
 unfold cT
 walk_at "w"
 refine ixT hp (v:=V.int h) rfl ?_
 walk_at "w"
 refine ixT hp (v:=V.int w) rfl ?_
 walk_at "w"
 refine ⟨ko h0 h1,h*w,rfl,by omega,by omega,?_⟩
 refine nP (fun _=>true) (fun i=>1+lawAt ns (at_+(i:Int)) % g) (by omega) ?_ ?_ ?_
 · intro i H1 R hi s1 k1
   exact k1 _ (Same.refl _)
 · intro i H1 Q1 hi hb s1 k1
   show tOp cAdd _ _ [none,some (.int (0+(i:Int))),some (.int at_),some (.ref p),some (.ref a)] H1 Q1
   rw [Int.zero_add]
   walk_at "w"
   refine ⟨a,ns,_,rfl,s1.seq hS,hn,by omega,by omega,?_⟩
   walk_at "w"
   refine ixT (s1 _ _ hp) (v:=V.int g) rfl ?_
   walk_at "w"
   exact ⟨by omega,k1 _ (Same.refl _)⟩
 · intro l H1 hl s1 el
   rw [bd] at el
   refine q l H1 _ s1 hl el (by simp) fun x hx=>?_
   obtain ⟨i,_,rfl⟩:=List.mem_map.mp hx
   have e0:=Int.emod_nonneg (lawAt ns (at_+(i:Int))) (show g≠0 by omega)
   have e1:=Int.emod_lt_of_pos (lawAt ns (at_+(i:Int))) (show 0 < g by omega)
   omega
end L2
namespace L2
open PySem PySem.Spec PyProof.Rows
end L2
namespace L2
open PySem PySem.Spec PyProof.Rows
local macro_rules | `(tactic| walk_at "w")=>`(tactic| (first | simp only [aB,lh,ku,iD,li,jW,jX,mX,lE,lb,mV,if_true,if_false,Bool.false_eq_true,decide_true,decide_false,jS,jT,mT,ir,gj,jQ,la,jR,iq,k8,k9,ip,mR,iu,iw,iz,iA,iB,iC,iy,lc,le,lf,k7,mS,Bool.not_true,Bool.not_false,aX,jo,bY,eh,w_c,kC,iT,gu,fE,fF,w_b,w_not,jp,lx,gw,gy,jq,iU,fG,kD,gz,jr,js,kE,jt,fH,gA,gB,gD,ei,eu,dF,df,dg,cK,ju,jv,jw,jx,jy,jz,jA,jB,jC,jD,jE,jF,lz,gE,di,gF,lA,gG,eE,dj,jG,jH,gH,fI,gI,
 List.getElem?_cons_zero,List.getElem?_cons_succ,Option.some.injEq,exists_eq_left',exists_eq_left,List.set_cons_zero,List.set_cons_succ,cO,V.int.injEq,V.bl.injEq,V.ref.injEq,V.str.injEq,List.append_nil,List.nil_append,List.cons_append] | dsimp only | skip))
abbrev oz (a:EA):List Addr:=[a.NoFilling,a.NoPuzzle,a.TooMany,a.NoRule]
def spJ (h w r c:Int):Nat→(Int × Int) × (Int × Int)
 | 0=>((r,c),(h,w))
 | j+1=>(((spJ h w r c j).1.2,(spJ h w r c j).2.1 - 1 - (spJ h w r c j).1.1),((spJ h w r c j).2.2,(spJ h w r c j).2.1))
theorem m3 {h w r c:Int} (P:Int→Prop) (hh:P h) (hw:P w):∀ j,P (spJ h w r c j).2.1∧P (spJ h w r c j).2.2
 | 0=>⟨hh,hw⟩
 | j+1=>⟨(m3 P hh hw j).2,(m3 P hh hw j).1⟩
def mvC (h w m z:Int):Int:=(spJ h w (z / w) (if 4≤m then w - 1 - z % w else z % w) (m % 4).toNat).1.1*(spJ h w (z / w) (if 4≤m then w - 1 - z % w else z % w) (m % 4).toNat).2.2+(spJ h w (z / w) (if 4≤m then w - 1 - z % w else z % w) (m % 4).toNat).1.2
def mvL (h w m:Int):List Int:=(List.range (h*w).toNat).map fun (i:Nat)=>mvC h w m (i:Int)
def mvH (h w m:Int):Int:=if m % 2=1 then w else h
def mvW (h w m:Int):Int:=if m % 2=1 then h else w
theorem dimJ (h w r c:Int):∀ j:Nat,(spJ h w r c j).2=if j % 2=1 then (w,h) else (h,w)
 | 0=>rfl
 | j+1=>by
  show ((spJ h w r c j).2.2,(spJ h w r c j).2.1)=_
  rw [dimJ h w r c j]
  by_cases e:j % 2=1
  · rw [if_pos e,if_neg (by omega)]
  · rw [if_neg e,if_pos (by omega)]
def bo (K:PySem.W.Frag):Sp:=fun vs H Q _=>∃ (a:Addr) (h w g:Int),vs=[.ref a]∧IsFl H a h w g∧∀ p,H p=none→Q (.ref p) (upd H p (.tup [.int w,.int h,.int g]))
theorem pS {K:PySem.W.Frag} {vs:List V} {H:Hp} {Q:VK} {E:XK} (h:bo K vs H Q E):vs.length=1:=by
 obtain ⟨_,_,_,_,rfl,_⟩:=h; rfl
def d0 (K:PySem.W.Frag):TS:=
 (tRet (tTup (tCons (tOp cIx (tVar 0) (tC (.int 1))) (tCons (tOp cIx (tVar 0) (tC (.int 0))) (tCons (tOp cIx (tVar 0) (tC (.int 2))) tNil)))))
theorem pT {K:PySem.W.Frag} {vs:List V} {H:Hp} {Q:VK} {E:XK} (h:bo K vs H Q E):d0 K { nx:=fun _ H'=>Q .non H',rt:=Q } (start ["floor"] vs) H:=by
 obtain ⟨a,h,w,g,rfl,ha,q⟩:=h
 show d0 K _ [some (.ref a)] H
 unfold d0
 walk_at "w"
 refine ixT ha (v:=V.int w) rfl ?_
 walk_at "w"
 refine ixT ha (v:=V.int h) rfl ?_
 walk_at "w"
 refine ixT ha (v:=V.int g) rfl ?_
 walk_at "w"
 exact ⟨aG (by show (3:Nat)≤1000; decide),q⟩
def cm (K:PySem.W.Frag):Sp:=fun vs H Q _=>∃ (a s:Addr) (h w g r c:Int),vs=[.ref a,.ref s]∧IsFl H a h w g∧H s=some (.tup [.int r,.int c])∧∀ p,H p=none→Q (.ref p) (upd H p (.tup [.int c,.int (h - 1 - r)]))
theorem qC {K:PySem.W.Frag} {vs:List V} {H:Hp} {Q:VK} {E:XK} (h:cm K vs H Q E):vs.length=2:=by
 obtain ⟨_,_,_,_,_,_,_,rfl,_⟩:=h; rfl
def e8 (K:PySem.W.Frag):TS:=
 (tRet (tTup (tCons (tOp cIx (tVar 1) (tC (.int 1))) (tCons (tOp cSub (tOp cSub (tOp cIx (tVar 0) (tC (.int 0))) (tC (.int 1))) (tOp cIx (tVar 1) (tC (.int 0)))) tNil))))
theorem qD {K:PySem.W.Frag} {vs:List V} {H:Hp} {Q:VK} {E:XK} (h:cm K vs H Q E):e8 K { nx:=fun _ H'=>Q .non H',rt:=Q } (start ["floor","spot"] vs) H:=by
 obtain ⟨a,s,h,w,g,r,c,rfl,ha,hs,q⟩:=h
 show e8 K _ [some (.ref a),some (.ref s)] H
 unfold e8
 walk_at "w"
 refine ixT hs (v:=V.int c) rfl ?_
 walk_at "w"
 refine ixT ha (v:=V.int h) rfl ?_
 walk_at "w"
 refine ixT hs (v:=V.int r) rfl ?_
 walk_at "w"
 exact ⟨aG (by show (2:Nat)≤1000; decide),q⟩
def bM (K:PySem.W.Frag):Sp:=fun vs H Q _=>∃ (a s:Addr) (h w g r c:Int),vs=[.ref a,.ref s]∧IsFl H a h w g∧H s=some (.tup [.int r,.int c])∧∀ p,H p=none→Q (.ref p) (upd H p (.tup [.int r,.int (w - 1 - c)]))
theorem oA {K:PySem.W.Frag} {vs:List V} {H:Hp} {Q:VK} {E:XK} (h:bM K vs H Q E):vs.length=2:=by
 obtain ⟨_,_,_,_,_,_,_,rfl,_⟩:=h; rfl
def dt (K:PySem.W.Frag):TS:=
 (tRet (tTup (tCons (tOp cIx (tVar 1) (tC (.int 0))) (tCons (tOp cSub (tOp cSub (tOp cIx (tVar 0) (tC (.int 1))) (tC (.int 1))) (tOp cIx (tVar 1) (tC (.int 1)))) tNil))))
theorem oB {K:PySem.W.Frag} {vs:List V} {H:Hp} {Q:VK} {E:XK} (h:bM K vs H Q E):dt K { nx:=fun _ H'=>Q .non H',rt:=Q } (start ["floor","spot"] vs) H:=by
 obtain ⟨a,s,h,w,g,r,c,rfl,ha,hs,q⟩:=h
 show dt K _ [some (.ref a),some (.ref s)] H
 unfold dt
 walk_at "w"
 refine ixT hs (v:=V.int r) rfl ?_
 walk_at "w"
 refine ixT ha (v:=V.int w) rfl ?_
 walk_at "w"
 refine ixT hs (v:=V.int c) rfl ?_
 walk_at "w"
 exact ⟨aG (by show (2:Nat)≤1000; decide),q⟩
def cH (K:PySem.W.Frag):Sp:=fun vs H Q _=>∃ (a:Addr) (h w g m z:Int),vs=[.ref a,.int m,.int z]∧IsFl H a h w g∧FlOk h w g∧0≤m∧m < 8∧∀ H',Same H H'→Q (.int (mvC h w m z)) H'
theorem se {K:PySem.W.Frag} {vs:List V} {H:Hp} {Q:VK} {E:XK} (h:cH K vs H Q E):vs.length=3:=by
 obtain ⟨_,_,_,_,_,_,rfl,_⟩:=h; rfl
def gc (K:PySem.W.Frag):TS:=
 (tSeq (tFor (ee (tCons (tOp cMod (tVar 1) (tC (.int 4))) tNil)) (gName 5)
  (tSeq (tAsg (tCall (cm K) [] E0 (tCons (tVar 3) (tCons (tVar 4) tNil))) (gName 4))
  (tAsg (tCall (bo K) [] E0 (tCons (tVar 3) tNil)) (gName 3))))
  (tRet (tOp cAdd (tOp cMul (tOp cIx (tVar 4) (tC (.int 0))) (tOp cIx (tVar 3) (tC (.int 1)))) (tOp cIx (tVar 4) (tC (.int 1))))))
def fX (K:PySem.W.Frag):TS:=
 (tSeq (tAsg (tVar 0) (gName 3))
  (tSeq (tAsg (tCall (eF K) [] E0 (tCons (tVar 0) (tCons (tVar 2) tNil))) (gName 4))
  (tSeq (tIfS (tTest (tOp (cCmp fun i j=>decide (j≤i)) (tVar 1) (tC (.int 4)))) (tAsg (tCall (bM K) [] E0 (tCons (tVar 0) (tCons (tVar 4) tNil))) (gName 4)) tNext)
  (gc K))))
theorem ka {K:PySem.W.Frag} {H:Hp} {Q:VK} {a s:Addr} {h w g m z r c:Int} (ha:IsFl H a h w g) (F:FlOk h w g) (m0:0≤m) (m8:m < 8) (hs:H s=some (.tup [.int r,.int c]))
  (q:∀ H',Same H H'→Q (.int ((spJ h w r c (m % 4).toNat).1.1*(spJ h w r c (m % 4).toNat).2.2+(spJ h w r c (m % 4).toNat).1.2)) H'):
  gc K { nx:=fun _ H'=>Q .non H',rt:=Q } [some (.ref a),some (.int m),some (.int z),some (.ref a),some (.ref s),none] H:=by
 obtain ⟨h0,h1,w0,w1,m16,g0,g1⟩:=id F
 unfold gc
 walk_at "w"
 refine ⟨by decide,?_⟩
 have b0:=Int.emod_nonneg m (show (4:Int)≠0 by decide)
 have b1:=Int.emod_lt_of_pos m (show (0:Int) < 4 by decide)
 refine ⟨m % 4,rfl,by omega,by omega,?_⟩
 refine d6 (fun i σ H'=>∃ (N S:Addr) (kv:Option V),σ=[some (.ref a),some (.int m),some (.int z),some (.ref N),some (.ref S),kv]∧Same H H'∧IsFl H' N (spJ h w r c i).2.1 (spJ h w r c i).2.2 g∧H' S=some (.tup [.int (spJ h w r c i).1.1,.int (spJ h w r c i).1.2]))
  ⟨a,s,none,rfl,Same.refl H,ha,hs⟩ ?_ ?_
 · rintro i σ H1 hi ⟨N,S,kv,rfl,s1,eN,eS⟩
   walk_at "w"
   refine ⟨N,S,_,_,g,_,_,rfl,eN,eS,fun S2 hS2=>?_⟩
   have s2:=(Same.refl H1).laid (o:=.tup [.int (spJ h w r c i).1.2,.int ((spJ h w r c i).2.1 - 1 - (spJ h w r c i).1.1)]) hS2
   have eS2:(upd H1 S2 (.tup [.int (spJ h w r c i).1.2,.int ((spJ h w r c i).2.1 - 1 - (spJ h w r c i).1.1)])) S2=some (.tup [.int (spJ h w r c (i+1)).1.1,.int (spJ h w r c (i+1)).1.2]):=ae
   generalize upd H1 S2 (.tup [.int (spJ h w r c i).1.2,.int ((spJ h w r c i).2.1 - 1 - (spJ h w r c i).1.1)])=H2 at*
   walk_at "w"
   refine ⟨N,_,_,g,rfl,s2 _ _ eN,fun N2 hN2=>?_⟩
   have s3:=(Same.refl H2).laid (o:=.tup [.int (spJ h w r c i).2.2,.int (spJ h w r c i).2.1,.int g]) hN2
   exact ⟨N2,S2,_,rfl,(s1.trans s2).trans s3,ae,s3 _ _ eS2⟩
 · rintro σ H1 ⟨N,S,kv,rfl,s1,eN,eS⟩
   have dm:=m3 (r:=r) (c:=c) (fun x=>1≤x∧x≤6) ⟨h0,h1⟩ ⟨w0,w1⟩ (m % 4).toNat
   have q1:=q _ s1
   generalize (spJ h w r c (m % 4).toNat).1.1=r' at*
   generalize (spJ h w r c (m % 4).toNat).1.2=c' at*
   generalize (spJ h w r c (m % 4).toNat).2.1=h' at*
   generalize (spJ h w r c (m % 4).toNat).2.2=w' at*
   walk_at "w"
   refine ixT eS (v:=V.int r') rfl ?_
   walk_at "w"
   refine ixT eN (v:=V.int w') rfl ?_
   walk_at "w"
   refine ⟨.inr ⟨by omega,by omega⟩,?_⟩
   refine ixT eS (v:=V.int c') rfl ?_
   walk_at "w"
   exact q1
theorem sf {K:PySem.W.Frag} {vs:List V} {H:Hp} {Q:VK} {E:XK} (h:cH K vs H Q E):fX K { nx:=fun _ H'=>Q .non H',rt:=Q } (start ["floor","move","cell","now","spot","turn"] vs) H:=by
 obtain ⟨a,h,w,g,m,z,rfl,ha,F,m0,m8,q⟩:=h
 obtain ⟨h0,h1,w0,w1,m16,g0,g1⟩:=id F
 show fX K _ [some (.ref a),some (.int m),some (.int z),none,none,none] H
 unfold fX
 walk_at "w"
 refine ⟨a,h,w,g,z,rfl,ha,by omega,by omega,fun s hs=>?_⟩
 have s1:Same H (upd H s (.tup [.int (z / w),.int (z % w)])):=(Same.refl H).laid hs
 have es:(upd H s (.tup [.int (z / w),.int (z % w)])) s=some (.tup [.int (z / w),.int (z % w)]):=ae
 generalize upd H s (.tup [.int (z / w),.int (z % w)])=H1 at*
 walk_at "w"
 rw [aJ]
 walk_at "w"
 unfold mvC at q
 by_cases h4:4≤m
 · simp only [if_pos h4] at q
   rw [decide_eq_true h4]
   refine iteT ?_
   walk_at "w"
   refine ⟨a,s,h,w,g,_,_,rfl,s1 _ _ ha,es,fun s2' hs2=>?_⟩
   have s2:Same H1 (upd H1 s2' (.tup [.int (z / w),.int (w - 1 - z % w)])):=(Same.refl H1).laid hs2
   exact ka ((s1.trans s2) _ _ ha) F m0 m8 ae fun H' s3=>q H' ((s1.trans s2).trans s3)
 · simp only [if_neg h4] at q
   rw [decide_eq_false h4]
   refine iteF ?_
   walk_at "w"
   exact ka (s1 _ _ ha) F m0 m8 es fun H' s3=>q H' (s1.trans s3)
def aZ (K:PySem.W.Frag):Sp:=fun vs H Q E=>∃ m:Int,vs=[.int m]∧(0≤m→m < 8→Q .non H)∧(¬ (0≤m∧m < 8)→∀ C,Glb K "NoMove" C→E (.ref C) none H)
theorem nj {K:PySem.W.Frag} {vs:List V} {H:Hp} {Q:VK} {E:XK} (h:aZ K vs H Q E):vs.length=1:=by
 obtain ⟨_,rfl,_⟩:=h; rfl
def cU (K:PySem.W.Frag) (a:EA) (E:XK):TS:=
 (tIfS (tOr (tNot (tB (tCall (bg K) [] E0 (tCons (tVar 0) tNil)))) (tOr (tTest (tOp (cCmp fun i j=>decide (i < j)) (tVar 0) (tC (.int 0)))) (tTest (tOp (cCmp fun i j=>decide (j≤i)) (tVar 0) (tC (.int 8)))))) (mf E a.NoMove (tCons (tC (.str (tx [97,32,109,111,118,101,32,105,115,32,97,32,110,117,109,98,101,114,32,102,114,111,109,32,48,32,116,111,32,55]))) tNil)) tNext)
theorem nk {K:PySem.W.Frag} {a:EA} {os:List Addr} {vs:List V} {H:Hp} {Q:VK} {E:XK} (R:lG K a "NoMove" a.NoMove os) (h:aZ K vs H Q E):cU K a E { nx:=fun _ H'=>Q .non H',rt:=Q } (start ["move"] vs) H:=by
 obtain ⟨m,rfl,k1,k2⟩:=h
 have bad:¬ (0≤m∧m < 8)→E (.ref a.NoMove) none H:=fun z=>k2 z _ R.g
 have one:(1:Nat)≤sizeLine:=aG (by decide)
 show cU K a E _ [some (.int m)] H
 unfold cU
 rw [aJ]
 walk_at "w"
 refine ⟨m,rfl,⟨true,rfl,?_⟩⟩
 walk_at "w"
 by_cases c1:m < 0
 · rw [decide_eq_true c1]
   walk_at "w"
   rw [mW]
   walk_at "w"
   exact ⟨one,bad fun z=>by omega⟩
 · rw [decide_eq_false c1]
   walk_at "w"
   by_cases c2:8≤m
   · rw [decide_eq_true c2]
     walk_at "w"
     rw [mW]
     walk_at "w"
     exact ⟨one,bad fun z=>by omega⟩
   · rw [decide_eq_false c2]
     walk_at "w"
     exact k1 (by omega) (by omega)
def cp (K:PySem.W.Frag):Sp:=fun vs H Q E=>∃ (a:Addr) (m h w g:Int),vs=[.ref a,.int m]∧IsFl H a h w g∧(0≤m→m < 8→∀ p H',Same H H'→IsFl H' p (mvH h w m) (mvW h w m) g→Q (.ref p) H')∧(¬ (0≤m∧m < 8)→∀ C,Glb K "NoMove" C→E (.ref C) none H)
theorem qE {K:PySem.W.Frag} {vs:List V} {H:Hp} {Q:VK} {E:XK} (h:cp K vs H Q E):vs.length=2:=by
 obtain ⟨_,_,_,_,_,rfl,_⟩:=h; rfl
def e9 (K:PySem.W.Frag) (E:XK):TS:=
 (tSeq (tDrop (tCall (aZ K) [] E (tCons (tVar 1) tNil)))
  (tSeq (tAsg (tVar 0) (gName 2))
  (tSeq (tFor (ee (tCons (tOp cMod (tVar 1) (tC (.int 4))) tNil)) (gName 3)
  (tAsg (tCall (bo K) [] E0 (tCons (tVar 2) tNil)) (gName 2)))
  (tRet (tVar 2)))))
theorem qF {K:PySem.W.Frag} {vs:List V} {H:Hp} {Q:VK} {E:XK} (h:cp K vs H Q E):e9 K E { nx:=fun _ H'=>Q .non H',rt:=Q } (start ["floor","move","now","turn"] vs) H:=by
 obtain ⟨a,m,h,w,g,rfl,ha,k1,k2⟩:=h
 show e9 K E _ [some (.ref a),some (.int m),none,none] H
 unfold e9
 walk_at "w"
 refine ⟨m,rfl,fun m0 m8=>?_,k2⟩
 have b0:=Int.emod_nonneg m (show (4:Int)≠0 by decide)
 have b1:=Int.emod_lt_of_pos m (show (0:Int) < 4 by decide)
 refine ⟨by decide,m % 4,rfl,by omega,by omega,?_⟩
 refine d6 (fun i σ H'=>∃ (N:Addr) (kv:Option V),σ=[some (.ref a),some (.int m),some (.ref N),kv]∧Same H H'∧IsFl H' N (spJ h w 0 0 i).2.1 (spJ h w 0 0 i).2.2 g)
  ⟨a,none,rfl,Same.refl H,ha⟩ ?_ ?_
 · rintro i σ H1 hi ⟨N,kv,rfl,s1,eN⟩
   walk_at "w"
   refine ⟨N,_,_,g,rfl,eN,fun N2 hN2=>?_⟩
   exact ⟨N2,_,rfl,s1.laid hN2,ae⟩
 · rintro σ H1 ⟨N,kv,rfl,s1,eN⟩
   rw [dimJ] at eN
   walk_at "w"
   refine k1 m0 m8 N H1 s1 ?_
   unfold mvH mvW
   by_cases e:m % 2=1
   · rw [if_pos e,if_pos e]
     rw [if_pos (show (m % 4).toNat % 2=1 by omega)] at eN
     exact eN
   · rw [if_neg e,if_neg e]
     rw [if_neg (show ¬ (m % 4).toNat % 2=1 by omega)] at eN
     exact eN
def bw (K:PySem.W.Frag):Sp:=fun vs H Q E=>∃ (a:Addr) (m h w g:Int),vs=[.ref a,.int m]∧IsFl H a h w g∧FlOk h w g∧(0≤m→m < 8→∀ l H',Same H H'→H l=none→H' l=some (.lst ((mvL h w m).map V.int))→Q (.ref l) H')∧(¬ (0≤m∧m < 8)→∀ C,Glb K "NoMove" C→E (.ref C) none H)
theorem qG {K:PySem.W.Frag} {vs:List V} {H:Hp} {Q:VK} {E:XK} (h:bw K vs H Q E):vs.length=2:=by
 obtain ⟨_,_,_,_,_,rfl,_⟩:=h; rfl
def fb (K:PySem.W.Frag) (E:XK):TS:=
 (tSeq (tDrop (tCall (aZ K) [] E (tCons (tVar 1) tNil)))
  (tRet (tComp [none,none,some 0,some 1] (ee (tCons (tCall (aO K) [] E0 (tCons (tVar 0) tNil)) tNil)) (gName 1) tTrue (tCall (cH K) [] E0 (tCons (tVar 2) (tCons (tVar 3) (tCons (tVar 1) tNil)))))))
theorem qH {K:PySem.W.Frag} {vs:List V} {H:Hp} {Q:VK} {E:XK} (h:bw K vs H Q E):fb K E { nx:=fun _ H'=>Q .non H',rt:=Q } (start ["floor","move"] vs) H:=by
 obtain ⟨a,m,h,w,g,rfl,ha,F,k1,k2⟩:=h
 obtain ⟨h0,h1,w0,w1,m16,g0,g1⟩:=id F
 have mpos:0≤h*w:=Int.mul_nonneg (by omega) (by omega)
 show fb K E _ [some (.ref a),some (.int m)] H
 unfold fb
 walk_at "w"
 refine ⟨m,rfl,fun m0 m8=>?_,k2⟩
 refine ⟨a,h,w,g,rfl,ha,h0,h1,?_⟩
 refine ⟨h*w,rfl,by omega,by omega,?_⟩
 refine nP (fun _=>true) (fun i=>mvC h w m (i:Int)) (by omega) ?_ ?_ ?_
 · intro i H1 R hi s1 k3
   exact k3 _ (Same.refl _)
 · intro i H1 Q1 hi hb s1 k3
   show tCall _ _ _ _ [none,some (.int (0+(i:Int))),some (.ref a),some (.int m)] H1 Q1
   rw [Int.zero_add]
   walk_at "w"
   exact ⟨a,h,w,g,m,(i:Int),rfl,s1 _ _ ha,F,m0,m8,k3⟩
 · intro l H1 hl s1 el
   rw [bd] at el
   exact k1 m0 m8 l H1 s1 hl el
def vF (h w m:Int):Bool:=(mvL h w m).isPerm (rngL 0 (h*w))&&(List.range (h*w).toNat).all fun (i:Nat)=>
 ((besL h w (i:Int)).all fun o=>decide (0≤o)&&decide (o < h*w))&&((besL h w (i:Int)).map fun o=>(mvL h w m).getD o.toNat 0).isPerm (besL (mvH h w m) (mvW h w m) ((mvL h w m).getD i 0))
theorem w5:((List.range 6).all fun a=>(List.range 6).all fun b=>!decide (((a:Int)+1)*((b:Int)+1)≤16)||(List.range 8).all fun m=>vF ((a:Int)+1) ((b:Int)+1) (m:Int))=true:=by decide+kernel
theorem xO {h w g m:Int} (F:FlOk h w g) (m0:0≤m) (m8:m < 8):vF h w m=true:=by
 obtain ⟨h0,h1,w0,w1,m16,g0,g1⟩:=F
 have t:=List.all_eq_true.mp (List.all_eq_true.mp w5 (h - 1).toNat (List.mem_range.mpr (by omega))) (w - 1).toNat (List.mem_range.mpr (by omega))
 have e1:(((h - 1).toNat:Nat):Int)+1=h:=by omega
 have e2:(((w - 1).toNat:Nat):Int)+1=w:=by omega
 rw [e1,e2,decide_eq_true m16] at t
 have t2:=List.all_eq_true.mp t m.toNat (List.mem_range.mpr (by omega))
 rw [show ((m.toNat:Nat):Int)=m by omega] at t2
 exact t2
theorem w6 {rs fs gs:List Int} (p:rs.Perm fs) (s:rs.Pairwise (· ≤·)) (q:fs.Perm gs) (t:gs.Pairwise (· < ·)):rs=gs:=by
 have pq:=p.trans q
 exact pj (wJ pq s (t.imp fun h=>Int.ne_of_lt h)) t fun z=>pq.mem_iff
def bU (K:PySem.W.Frag):Sp:=fun vs H Q _=>∃ (a:Addr) (h w g m z:Int),vs=[.ref a,.int z,.int m]∧IsFl H a h w g∧FlOk h w g∧0≤m∧m < 8∧∀ H',Same H H'→Q (.int (mvC h w m z)) H'
theorem t1 {K:PySem.W.Frag} {vs:List V} {H:Hp} {Q:VK} {E:XK} (h:bU K vs H Q E):vs.length=3:=by
 obtain ⟨_,_,_,_,_,_,rfl,_⟩:=h; rfl
def g3 (K:PySem.W.Frag):TS:=
 (tSeq (tFor (ee (tCons (tOp cMod (tVar 2) (tC (.int 4))) tNil)) (gName 8)
  (tSeq (tPar 6 7 (tCons (tVar 7) (tCons (tOp cSub (tOp cSub (tVar 3) (tC (.int 1))) (tVar 6)) tNil)))
  (tPar 3 4 (tCons (tVar 4) (tCons (tVar 3) tNil)))))
  (tRet (tOp cAdd (tOp cMul (tVar 6) (tVar 4)) (tVar 7))))
def g4 (K:PySem.W.Frag):TS:=
 (tSeq (tAsg (tVar 0) (gTup K 3 (gCons (gName 3) (gCons (gName 4) (gCons (gName 5) gNil)))))
  (tSeq (tAsg (tOp cDiv (tVar 1) (tVar 4)) (gName 6))
  (tSeq (tAsg (tOp cMod (tVar 1) (tVar 4)) (gName 7))
  (tSeq (tIfS (tTest (tOp (cCmp fun i j=>decide (j < i)) (tVar 2) (tC (.int 3)))) (tAsg (tOp cSub (tOp cSub (tVar 4) (tC (.int 1))) (tVar 7)) (gName 7)) tNext)
  (g3 K)))))
theorem z6 {i j k:Nat} {x y z:V} {H:Hp} {σ:St} {q:St→Hp→Prop} (h:q (((σ.set i (some x)).set j (some y)).set k (some z)) H):gCons (gName i) (gCons (gName j) (gCons (gName k) gNil)) [x,y,z] σ H q:=⟨x,_,rfl,y,_,rfl,z,_,rfl,rfl,h⟩
theorem kA {K:PySem.W.Frag} {H:Hp} {Q:VK} {a:Addr} {h w g m z r c:Int} (F:FlOk h w g) (m0:0≤m) (m8:m < 8)
  (q:∀ H',Same H H'→Q (.int ((spJ h w r c (m % 4).toNat).1.1*(spJ h w r c (m % 4).toNat).2.2+(spJ h w r c (m % 4).toNat).1.2)) H'):
  g3 K { nx:=fun _ H'=>Q .non H',rt:=Q } [some (.ref a),some (.int z),some (.int m),some (.int h),some (.int w),some (.int g),some (.int r),some (.int c),none] H:=by
 obtain ⟨h0,h1,w0,w1,m16,g0,g1⟩:=id F
 unfold g3
 walk_at "w"
 refine ⟨by decide,?_⟩
 have b0:=Int.emod_nonneg m (show (4:Int)≠0 by decide)
 have b1:=Int.emod_lt_of_pos m (show (0:Int) < 4 by decide)
 refine ⟨m % 4,rfl,by omega,by omega,?_⟩
 refine d6 (fun i σ H'=>∃ (kv:Option V),σ=[some (.ref a),some (.int z),some (.int m),some (.int (spJ h w r c i).2.1),some (.int (spJ h w r c i).2.2),some (.int g),some (.int (spJ h w r c i).1.1),some (.int (spJ h w r c i).1.2),kv]∧Same H H')
  ⟨none,rfl,Same.refl H⟩ ?_ ?_
 · rintro i σ H1 hi ⟨kv,rfl,s1⟩
   walk_at "w"
   unfold tPar
   walk_at "w"
   refine ⟨_,_,rfl,_,_,rfl,?_⟩
   exact ⟨_,rfl,s1⟩
 · rintro σ H1 ⟨kv,rfl,s1⟩
   have dm:=m3 (r:=r) (c:=c) (fun x=>1≤x∧x≤6) ⟨h0,h1⟩ ⟨w0,w1⟩ (m % 4).toNat
   have q1:=q _ s1
   generalize (spJ h w r c (m % 4).toNat).1.1=r' at*
   generalize (spJ h w r c (m % 4).toNat).1.2=c' at*
   generalize (spJ h w r c (m % 4).toNat).2.1=h' at*
   generalize (spJ h w r c (m % 4).toNat).2.2=w' at*
   walk_at "w"
   exact ⟨.inr ⟨by omega,by omega⟩,q1⟩
theorem t3 {K:PySem.W.Frag} {vs:List V} {H:Hp} {Q:VK} {E:XK} (h:bU K vs H Q E):g4 K { nx:=fun _ H'=>Q .non H',rt:=Q } (start ["_law_floor_here","_law_cell","_law_move","_law_high","_law_wide","_law_signs","_law_row","_law_column","_law_turn"] vs) H:=by
 obtain ⟨a,h,w,g,m,z,rfl,ha,F,m0,m8,q⟩:=h
 obtain ⟨h0,h1,w0,w1,m16,g0,g1⟩:=id F
 show g4 K _ [some (.ref a),some (.int z),some (.int m),none,none,none,none,none,none] H
 unfold g4
 walk_at "w"
 refine tw ha rfl (z6 ?_)
 walk_at "w"
 refine ⟨⟨by omega,by omega⟩,by omega,?_⟩
 rw [aJ]
 walk_at "w"
 unfold mvC at q
 by_cases h4:4≤m
 · simp only [if_pos h4] at q
   rw [decide_eq_true (show (3:Int) < m by omega)]
   refine iteT ?_
   walk_at "w"
   exact kA F m0 m8 q
 · simp only [if_neg h4] at q
   rw [decide_eq_false (show ¬ (3:Int) < m by omega)]
   refine iteF ?_
   walk_at "w"
   exact kA F m0 m8 q
def cq (K:PySem.W.Frag):Sp:=fun vs H Q _=>∃ (a:Addr) (h w g m:Int),vs=[.ref a,.int m]∧IsFl H a h w g∧∀ p H',Same H H'→IsFl H' p (mvH h w m) (mvW h w m) g→Q (.ref p) H'
theorem qI {K:PySem.W.Frag} {vs:List V} {H:Hp} {Q:VK} {E:XK} (h:cq K vs H Q E):vs.length=2:=by
 obtain ⟨_,_,_,_,_,rfl,_⟩:=h; rfl
def fc (K:PySem.W.Frag):TS:=
 (tSeq (tIfS (tTest (tOp (cEq K) (tOp cMod (tVar 1) (tC (.int 2))) (tC (.int 1)))) (tRet (tTup (tCons (tOp cIx (tVar 0) (tC (.int 1))) (tCons (tOp cIx (tVar 0) (tC (.int 0))) (tCons (tOp cIx (tVar 0) (tC (.int 2))) tNil))))) tNext)
  (tRet (tVar 0)))
theorem qJ {K:PySem.W.Frag} {vs:List V} {H:Hp} {Q:VK} {E:XK} (h:cq K vs H Q E):fc K { nx:=fun _ H'=>Q .non H',rt:=Q } (start ["_law_floor_here","_law_move"] vs) H:=by
 obtain ⟨a,h,w,g,m,rfl,ha,q⟩:=h
 show fc K _ [some (.ref a),some (.int m)] H
 unfold fc
 rw [aB,aJ]
 walk_at "w"
 refine ⟨by decide,?_⟩
 unfold mvH mvW at q
 by_cases e:m % 2=1
 · simp only [if_pos e] at q
   rw [decide_eq_true e]
   refine iteT ?_
   walk_at "w"
   refine ixT ha (v:=V.int w) rfl ?_
   walk_at "w"
   refine ixT ha (v:=V.int h) rfl ?_
   walk_at "w"
   refine ixT ha (v:=V.int g) rfl ?_
   walk_at "w"
   exact ⟨aG (by show (3:Nat)≤1000; decide),fun p hp=>q p _ ((Same.refl H).laid hp) ae⟩
 · simp only [if_neg e] at q
   rw [decide_eq_false e]
   refine iteF ?_
   walk_at "w"
   exact q a H (Same.refl H) ha
end L2
namespace L2
open PySem PySem.Spec PyProof.Rows
structure FunD (K:PySem.W.Frag) (x qual:Str) (st:Stmt) (f:Addr) (fd:FuncData) (ds:List Value):Prop where
 ex:∃ (oc:Value) (od:Option Addr) (dT:Addr) (kV doc pm:Value) (an:Option Addr) (cdv ct:Value) (osl:Array (Option Value)),
  fd=PySem.W.fnOf x qual (aU st) (aQ st) (ah st) (.ref dT) kV doc pm an cdv ct∧K.lookup f=some ⟨oc,od,.func fd,osl⟩∧PySem.W.codeIn K cdv qual=true∧
  ∃ (c:Value) (d:Option Addr) (n:Nat) (sl:Array (Option Value)),K.lookup dT=some ⟨c,d,.seq ds.toArray n,sl⟩
 kp:PySem.W.keepIn K (.ref f)=true
section
variable {P:Program} {w:World} {K:PySem.W.Frag} {mg:Str→Option Value} {base:Heap}
theorem FunD.ok1 {x qual:Str} {st:Stmt} {f:Addr} {fd:FuncData} {ds:List Value} {N ps:List Str} {k:Nat} {sp:Sp} (F:FunD K x qual st f fd ds) (S:am N ps (ah st)) (len:∀ vs H Q E,sp vs H Q E→vs.length=ps.length)
  (hbody:∀ (cdv:Value) (A:Around) (outer:List Env) (s:Shared) (H:Hp) (vs:List V) (Q:VK) (E:XK),Room k (A.deeper (envOfC qual (ah st) s.heap.objs.size f cdv))→sp vs H Q E→
   ∃ t,PSs (cx1 P w K mg base N qual (ah st) f cdv A outer s H E) (aQ st) t∧t { nx:=fun _ H'=>Q .non H',rt:=Q } (start N vs) H):FnOk P w K mg base (CX1 P w) (k+1) f fd ps sp:=by
 obtain ⟨oc,od,dT,kV,doc,pm,an,cdv,ct,osl,rfl,lk,hcd,_⟩:=F.ex
 exact vh lk hcd S len fun A outer s H vs Q E hr hsp=>hbody cdv A outer s H vs Q E hr hsp
theorem FunD.binds {x qual:Str} {st:Stmt} {f:Addr} {fd:FuncData} {ds:List Value} {ps:List Str} (F:FunD K x qual st f fd ds)
  (h:∀ (dT:Addr) (kV doc pm:Value) (an:Option Addr) (cdv ct:Value) (us:List Value),us.length=ps.length→∃ k,bindArgs (PySem.W.fnOf x qual (aU st) (aQ st) (ah st) (.ref dT) kV doc pm an cdv ct) ⟨us,[]⟩=seqItems? (.ref dT) >>= k∧k (some ds.toArray)=pure (ps.zip us)):Binds K fd ps []:=by
 obtain ⟨oc,od,dT,kV,doc,pm,an,cdv,ct,osl,rfl,lk,hcd,c,d,n,sl,ld⟩:=F.ex
 intro s us X hl
 rw [List.append_nil] at hl ⊢
 obtain ⟨k,h1,h2⟩:=h dT kV doc pm an cdv ct us hl
 exact BindsTo.of_defaults (T:=dT) rfl (X _ _ ld) rfl h1 h2
theorem FunD.bindsD {x qual:Str} {st:Stmt} {f:Addr} {fd:FuncData} {ds:List Value} {ps:List Str} (m:Nat) (hm:m+ds.length=ps.length) (F:FunD K x qual st f fd ds)
  (h:∀ (dT:Addr) (kV doc pm:Value) (an:Option Addr) (cdv ct:Value) (us:List Value),us.length=m→∃ k,bindArgs (PySem.W.fnOf x qual (aU st) (aQ st) (ah st) (.ref dT) kV doc pm an cdv ct) ⟨us,[]⟩=seqItems? (.ref dT) >>= k∧k (some ds.toArray)=pure (ps.zip (us++ds))):Binds K fd ps ds:=by
 obtain ⟨oc,od,dT,kV,doc,pm,an,cdv,ct,osl,rfl,lk,hcd,c,d,n,sl,ld⟩:=F.ex
 intro s us X hl
 rw [List.length_append] at hl
 obtain ⟨k,h1,h2⟩:=h dT kV doc pm an cdv ct us (by omega)
 exact BindsTo.of_defaults (T:=dT) rfl (X _ _ ld) rfl h1 h2
theorem uW {x qual:Str} {st:Stmt} {f dT:Addr} {oc:Value} {od an:Option Addr} {osl:Array (Option Value)} {kV doc pm cdv ct:Value} {c:Value} {d:Option Addr} {n:Nat} {sl:Array (Option Value)} {ds:List Value} (l:K.lookup f=some ⟨oc,od,.func (PySem.W.fnOf x qual (aU st) (aQ st) (ah st) (.ref dT) kV doc pm an cdv ct),osl⟩)
  (cc:PySem.W.codeIn K cdv qual=true) (k:PySem.W.keepIn K (.ref f)=true) (ld:K.lookup dT=some ⟨c,d,.seq ds.toArray n,sl⟩):FunD K x qual st f (PySem.W.fnOf x qual (aU st) (aQ st) (ah st) (.ref dT) kV doc pm an cdv ct) ds:=⟨⟨oc,od,dT,kV,doc,pm,an,cdv,ct,osl,rfl,l,cc,c,d,n,sl,ld⟩,k⟩
end
structure sG (P:Program) (w:World) (K:PySem.W.Frag) (mg:Str→Option Value) (base:Heap) (k:Nat) (x:Str) (ps:List Str) (sp:Sp) (ds:List Value):Prop where
 ex:∃ (f:Addr) (fd:FuncData),FnOk P w K mg base (CX1 P w) k f fd ps sp∧mg x=some (.ref f)∧PySem.W.keepIn K (.ref f)=true∧Binds K fd ps ds
theorem xP {X:Cx} {k n:Nat} {x:Str} {ps:List Str} {sp:Sp} {ds:List Value} {dvs:List V} {p pos:Pos} {e:Expr} {es:List Expr} {t:TA} {E:XK} (hE:gq (CX1 X.prog X.w) X E) (C:sG X.prog X.w X.K X.mg X.base k x ps sp ds) (hd:Vals dvs ds) (hr:Room n X.A) (hk:k≤n) (hg:Gl X x) (ha:PA X (e::es) t)
  (hdb:(x==("__debug__":Str))=false:=by decide) (he:starEach (e::es) X.env=(false,eval e X.env)::starEach es X.env:=by rfl) (hpl:(backTo pos (starEach es X.env)).any (·.1)=false:=by rfl):
  PE X (.Call (.Name x p) (e::es) [] pos) (tCall sp dvs E t):=by
 obtain ⟨f,fd,F,hm,hkp,hb⟩:=C.ex
 exact qh F (hr.mono hk) hg hm hkp hb hd hE ha hdb he hpl
theorem xQ:Vals [V.non] [Value.none]:=.cons rfl .nil
end L2
namespace L2
open PySem PySem.Spec PyProof.Rows
local macro_rules | `(tactic| walk_at "w")=>`(tactic| (first | simp only [aB,lh,ku,iD,li,jW,jX,mX,lE,lb,mV,if_true,if_false,Bool.false_eq_true,decide_true,decide_false,jS,jT,mT,ir,gj,jQ,la,jR,iq,k8,k9,ip,mR,iu,iw,iz,iA,iB,iC,iy,lc,le,lf,k7,mS,Bool.not_true,Bool.not_false,aX,jo,bY,eh,w_c,kC,iT,gu,fE,fF,w_b,w_not,jp,lx,gw,gy,jq,iU,fG,kD,gz,jr,js,kE,jt,fH,gA,gB,gD,ei,eu,dF,df,dg,cK,ju,jv,jw,jx,jy,jz,jA,jB,jC,jD,jE,jF,lz,gE,di,gF,lA,gG,eE,dj,jG,jH,gH,fI,gI,
 List.getElem?_cons_zero,List.getElem?_cons_succ,Option.some.injEq,exists_eq_left',exists_eq_left,List.set_cons_zero,List.set_cons_succ,cO,V.int.injEq,V.bl.injEq,V.ref.injEq,V.str.injEq,List.append_nil,List.nil_append,List.cons_append] | dsimp only | skip))
def plnL (g:Int):List Int:=rngL 1 (g+1)
def exOk (g:Int) (ss:List Int):Bool:=ss.isPerm (plnL g)
def exI (ss:List Int) (x:Int):Int:=if x=0 then 0 else ss.getD (x - 1).toNat 0
theorem kH (a n:Int):(rngL a n).Pairwise (· < ·):=by
 unfold rngL
 rw [List.pairwise_map]
 refine List.pairwise_lt_range.imp ?_
 intro a b h
 omega
theorem pln_mem {g x:Int}:x∈plnL g↔1≤x∧x≤g:=by
 unfold plnL rngL
 rw [List.mem_map]
 constructor
 · rintro ⟨k,hk,rfl⟩
   have:=List.mem_range.mp hk
   omega
 · intro h
   exact ⟨(x - 1).toNat,List.mem_range.mpr (by omega),by omega⟩
theorem lm {g:Int} (g0:0≤g):((plnL g).length:Int)=g:=by
 unfold plnL rngL
 rw [List.length_map,List.length_range]
 omega
theorem w9 (g:Int):(plnL g).Nodup:=(kH 1 (g+1)).imp fun h=>Int.ne_of_lt h
theorem z7 {g:Int} {ns ss:List Int} (hp:ns.Perm ss) (hs:ns.Pairwise (· ≤·)):decide (ns=plnL g)=exOk g ss:=by
 rw [Bool.eq_iff_iff,decide_eq_true_eq]
 unfold exOk
 rw [List.isPerm_iff]
 exact ⟨fun e=>by rw [← e]; exact hp.symm,fun q=>w6 hp hs q (kH _ _)⟩
def puJ (st cs vs:List Int):Nat→List Int
 | 0=>st
 | i+1=>(puJ st cs vs i).set (cs.getD i 0).toNat (vs.getD i 0)
theorem iG {st cs vs:List Int}:∀ i,(puJ st cs vs i).length=st.length
 | 0=>rfl
 | i+1=>by
  show ((puJ st cs vs i).set _ _).length=_
  rw [List.length_set,iG i]
theorem yI {cs:List Int} (nd:cs.Nodup) {i j:Nat} (hi:i < cs.length) (hj:j < i):cs.getD j 0≠cs.getD i 0:=by
 have:=List.pairwise_iff_getElem.mp nd j i (by omega) hi hj
 rw [List.getD,List.getD,List.getElem?_eq_getElem (by omega),List.getElem?_eq_getElem hi]
 exact this
theorem m4 {cs:List Int} {P:Int→Prop} (h:∀ c∈cs,P c) {i:Nat} (hi:i < cs.length):P (cs.getD i 0):=by
 rw [List.getD,List.getElem?_eq_getElem hi]
 exact h _ (List.getElem_mem hi)
theorem qK {st cs vs:List Int} (nd:cs.Nodup) (hc:∀ c∈cs,0≤c∧c < (st.length:Int)):∀ i,i≤cs.length→∀ j,j < i→(puJ st cs vs i).getD (cs.getD j 0).toNat 0=vs.getD j 0
 | 0,_,j,hj=>by omega
 | i+1,hi,j,hj=>by
  have ci:=m4 hc (show i < cs.length by omega)
  have cj:=m4 hc (show j < cs.length by omega)
  show ((puJ st cs vs i).set (cs.getD i 0).toNat (vs.getD i 0)).getD (cs.getD j 0).toNat 0=_
  rw [List.getD,List.getElem?_set]
  by_cases e:j=i
  · subst e
    rw [if_pos rfl,if_pos (by rw [iG]; omega)]
    rfl
  · have ne:=yI nd (show i < cs.length by omega) (show j < i by omega)
    rw [if_neg (by omega),← List.getD]
    exact qK nd hc i (by omega) j (by omega)
theorem xR {xs ys:List Int} (hl:xs.length=ys.length) (h:∀ k,k < xs.length→xs.getD k 0=ys.getD k 0):xs=ys:=by
 refine List.ext_getElem hl fun k h1 h2=>?_
 have:=h k h1
 rw [List.getD,List.getD,List.getElem?_eq_getElem h1,List.getElem?_eq_getElem h2] at this
 exact this
structure Mv (n:Nat) (cs:List Int):Prop where
 len:cs.length=n
 nd:cs.Nodup
 lt:∀ c∈cs,0≤c∧c < (n:Int)
 all:∀ k,k < n→∃ j,j < n∧(cs.getD j 0).toNat=k
theorem rng0_mem {n x:Int}:x∈rngL 0 n↔0≤x∧x < n:=by
 unfold rngL
 rw [List.mem_map]
 constructor
 · rintro ⟨k,hk,rfl⟩
   have:=List.mem_range.mp hk
   omega
 · intro h
   exact ⟨x.toNat,List.mem_range.mpr (by omega),by omega⟩
theorem kB {h w g m:Int} (F:FlOk h w g) (m0:0≤m) (m8:m < 8):Mv (h*w).toNat (mvL h w m):=by
 obtain ⟨h0,h1,w0,w1,m16,g0,g1⟩:=id F
 have mpos:0≤h*w:=Int.mul_nonneg (by omega) (by omega)
 have chk:=xO F m0 m8
 unfold vF at chk
 rw [Bool.and_eq_true] at chk
 have p:=List.isPerm_iff.mp chk.1
 have ln:(mvL h w m).length=(h*w).toNat:=by unfold mvL; rw [List.length_map,List.length_range]
 refine ⟨ln,p.nodup_iff.mpr ((kH 0 (h*w)).imp fun h=>Int.ne_of_lt h),fun c hc=>?_,fun k hk=>?_⟩
 · have:=rng0_mem.mp (p.mem_iff.mp hc)
   omega
 · have hm:(k:Int)∈mvL h w m:=p.mem_iff.mpr (rng0_mem.mpr (by omega))
   obtain ⟨j,hj,e⟩:=List.mem_iff_getElem.mp hm
   refine ⟨j,by omega,?_⟩
   rw [List.getD,List.getElem?_eq_getElem hj]
   show ((mvL h w m)[j]).toNat=k
   rw [e]
   omega
theorem Mv.eq {n:Nat} {cs vs st xs:List Int} (M:Mv n cs) (hs:st.length=n) (hx:xs.length=n) (h:∀ j,j < n→xs.getD (cs.getD j 0).toNat 0=vs.getD j 0):puJ st cs vs n=xs:=by
 refine xR (by rw [iG,hs,hx]) fun k hk=>?_
 rw [iG,hs] at hk
 obtain ⟨j,hj,e⟩:=M.all k hk
 have g1:=qK (vs:=vs) (st:=st) M.nd (fun c hc=>by rw [hs]; exact M.lt c hc) n (by rw [M.len]; exact Nat.le_refl _) j hj
 rw [e] at g1
 rw [g1,← h j hj,e]
def mvF (h w m:Int) (ss fl:List Int):List Int:=puJ fl (mvL h w m) (fl.map (exI ss)) (h*w).toNat
theorem xa {h w g m:Int} {ss fl:List Int} (F:FlOk h w g) (m0:0≤m) (m8:m < 8) (hf:fl.length=(h*w).toNat) {j:Nat} (hj:j < (h*w).toNat):(mvF h w m ss fl).getD ((mvL h w m).getD j 0).toNat 0=exI ss (fl.getD j 0):=by
 have M:=kB F m0 m8
 have:=qK (vs:=fl.map (exI ss)) (st:=fl) M.nd (fun c hc=>by rw [hf]; exact M.lt c hc) _ (by rw [M.len]; exact Nat.le_refl _) j hj
 unfold mvF
 rw [this,List.getD,List.getElem?_map,List.getElem?_eq_getElem (by omega),List.getD,List.getElem?_eq_getElem (by omega)]
 rfl
theorem lp {h w m:Int} {ss fl:List Int}:(mvF h w m ss fl).length=fl.length:=iG _
theorem yJ {h w g m:Int} {ss fl st:List Int} (F:FlOk h w g) (m0:0≤m) (m8:m < 8) (hf:fl.length=(h*w).toNat) (hs:st.length=(h*w).toNat):puJ st (mvL h w m) (fl.map (exI ss)) (h*w).toNat=mvF h w m ss fl:=by
 refine (kB F m0 m8).eq hs (by rw [lp,hf]) fun j hj=>?_
 rw [xa F m0 m8 hf hj,List.getD,List.getD,List.getElem?_map,List.getElem?_eq_getElem (by omega)]
 rfl
def aN (K:PySem.W.Frag):Sp:=fun vs H Q _=>∃ (p:Addr) (h w g:Int),vs=[.ref p]∧IsFl H p h w g∧0≤g∧g≤6∧∀ l,H l=none→Q (.ref l) (upd H l (.lst ((plnL g).map V.int)))
theorem mt {K:PySem.W.Frag} {vs:List V} {H:Hp} {Q:VK} {E:XK} (h:aN K vs H Q E):vs.length=1:=by
 obtain ⟨_,_,_,_,rfl,_⟩:=h; rfl
def cM (K:PySem.W.Frag):TS:=
 (tRet (i7 (tCons (tC (.int 1)) (tCons (tOp cAdd (tOp cIx (tVar 0) (tC (.int 2))) (tC (.int 1))) tNil))))
theorem mw {K:PySem.W.Frag} {vs:List V} {H:Hp} {Q:VK} {E:XK} (h:aN K vs H Q E):cM K { nx:=fun _ H'=>Q .non H',rt:=Q } (start ["floor"] vs) H:=by
 obtain ⟨p,h,w,g,rfl,hp,g0,g1,q⟩:=h
 show cM K _ [some (.ref p)] H
 unfold cM
 walk_at "w"
 refine ixT hp (v:=V.int g) rfl ?_
 walk_at "w"
 exact ⟨1,g+1,rfl,⟨by decide,by decide,by omega,by omega⟩,q⟩
theorem xS {K:PySem.W.Frag} {k:Nat} {a:Addr} {te:TE} {fin:Addr→Hp→Prop} {σ0:St} {H1:Hp} {xs:List Int} (f:Int→Bool) (hn:xs.length≤900) (hq:SqL K H1 a (xs.map V.int))
  (he:∀ x H Q,x∈xs→Same H1 H→(∀ H',Same H H'→Q (.bl (f x)) H')→te (σ0.set k (some (.int x))) H Q)
  (hd:∀ l H,H1 l=none→Same H1 H→H l=some (.lst ((xs.map f).map V.bl))→fin l H):
  CompR (Itl K a) (gName k) tTrue te fin σ0 H1:=by
 refine bB (xs:=xs.map V.int) (fun _=>true) (fun i=>.bl (f (xs.getD i 0))) (by rw [List.length_map]; exact hn) hq ?_ ?_ ?_
 · intro i x H R hx s1 k1
   exact k1 _ (Same.refl _)
 · intro i x H Q hx hb s1 h
   obtain ⟨z,hz,rfl⟩:=b6 hx
   have h2:=h
   simp only [jU hz] at h2
   exact he z H Q (List.mem_of_getElem? hz) s1 h2
 · intro l H hl s1 el
   refine hd l H hl s1 ?_
   rw [el,bd,List.length_map,List.map_map]
   congr 2
   exact lT xs fun x=>V.bl (f x)
def cr (K:PySem.W.Frag):Sp:=fun vs H Q _=>∃ (p S:Addr) (h w g:Int) (ss:List Int),vs=[.ref p,.ref S]∧IsFl H p h w g∧0≤g∧g≤6∧H S=some (.lst (ss.map V.int))∧ss.length < 64∧∀ H',Same H H'→Q (.bl (exOk g ss)) H'
theorem qL {K:PySem.W.Frag} {vs:List V} {H:Hp} {Q:VK} {E:XK} (h:cr K vs H Q E):vs.length=2:=by
 obtain ⟨_,_,_,_,_,_,rfl,_⟩:=h; rfl
def fu (K:PySem.W.Frag):TS:=
 (tRet (tOp (cEq K) (tCB k6 (tCons (tVar 1) tNil)) (tCall (aN K) [] E0 (tCons (tVar 0) tNil))))
def fe (K:PySem.W.Frag):TS:=
 (tSeq (tIfS (tOr (tNot (tB (tCB kIsi (tCons (tVar 1) (tCons (tC (.ty "list")) tNil))))) (tNot (tB (tCB kAll (tCons (tComp [none,none] (iList K (tVar 1)) (gName 1) tTrue (tCall (bg K) [] E0 (tCons (tVar 1) tNil))) tNil))))) (tRet (tC (.bl false))) tNext)
  (fu K))
theorem nq {K:PySem.W.Frag} {H:Hp} {Q:VK} {p S:Addr} {h w g:Int} {ss:List Int} (hp:IsFl H p h w g) (g0:0≤g) (g1:g≤6) (hS:H S=some (.lst (ss.map V.int))) (hn:ss.length < 64) (q:∀ H',Same H H'→Q (.bl (exOk g ss)) H'):
  fu K { nx:=fun _ H'=>Q .non H',rt:=Q } [some (.ref p),some (.ref S)] H:=by
 unfold fu
 walk_at "w"
 refine xx hS hn fun ns' l hl hpm hs=>?_
 have s1:Same H (upd H l (.lst (ns'.map V.int))):=(Same.refl H).laid hl
 have el:(upd H l (.lst (ns'.map V.int))) l=some (.lst (ns'.map V.int)):=ae
 generalize upd H l (.lst (ns'.map V.int))=H1 at*
 walk_at "w"
 refine ⟨p,h,w,g,rfl,s1 _ _ hp,g0,g1,fun L hL=>?_⟩
 have s2:Same H1 (upd H1 L (.lst ((plnL g).map V.int))):=(Same.refl H1).laid hL
 refine ph (s2 _ _ el) ae ?_
 rw [z7 hpm hs]
 exact q _ (s1.trans s2)
theorem qM {K:PySem.W.Frag} {vs:List V} {H:Hp} {Q:VK} {E:XK} (h:cr K vs H Q E):fe K { nx:=fun _ H'=>Q .non H',rt:=Q } (start ["floor","signs"] vs) H:=by
 obtain ⟨p,S,h,w,g,ss,rfl,hp,g0,g1,hS,hn,q⟩:=h
 show fe K _ [some (.ref p),some (.ref S)] H
 unfold fe
 rw [aB,aJ]
 walk_at "w"
 refine wL hS ?_
 walk_at "w"
 refine ⟨⟨_,SqL.of hS⟩,?_⟩
 refine xS (xs:=ss) (fun _=>true) (by omega) (SqL.of hS) ?_ ?_
 · intro x H1 Q1 hx s1 k1
   show tCall _ _ _ _ [none,some (.int x)] H1 Q1
   walk_at "w"
   exact ⟨x,rfl,k1 _ (Same.refl _)⟩
 · intro l H1 hl s1 el
   walk_at "w"
   refine vp el ?_
   have ea:((ss.map fun _=>true).all id)=true:=by simp
   rw [ea]
   refine ⟨true,rfl,?_⟩
   walk_at "w"
   exact nq (s1 _ _ hp) g0 g1 (s1 _ _ hS) hn fun H' s2=>q H' (s1.trans s2)
def ExV (H:Hp) (v:V) (g:Int) (ss:List Int):Prop:=(v=.non∧ss=plnL g)∨∃ S,v=.ref S∧H S=some (.lst (ss.map V.int))∧ss.length < 64
theorem ExV.same {H H':Hp} {v:V} {g:Int} {ss:List Int} (x:ExV H v g ss) (s:Same H H'):ExV H' v g ss:=by
 rcases x with x | ⟨S,e,hS,hl⟩
 · exact .inl x
 · exact .inr ⟨S,e,s _ _ hS,hl⟩
def bx (K:PySem.W.Frag):Sp:=fun vs H Q E=>∃ (p:Addr) (h w g:Int) (v:V) (ss:List Int),vs=[.ref p,v]∧IsFl H p h w g∧0≤g∧g≤6∧ExV H v g ss∧
 (exOk g ss=true→∀ S H',Same H H'→H' S=some (.lst (ss.map V.int))→Q (.ref S) H')∧(¬ exOk g ss=true→∀ H',Same H H'→∀ C,Glb K "NoMove" C→E (.ref C) none H')
theorem qN {K:PySem.W.Frag} {vs:List V} {H:Hp} {Q:VK} {E:XK} (h:bx K vs H Q E):vs.length=2:=by
 obtain ⟨_,_,_,_,_,_,rfl,_⟩:=h; rfl
def fg (K:PySem.W.Frag) (a:EA) (E:XK):TS:=
 (tSeq (tIfS (tTest (tOp rIsN (tVar 1) (tC .non))) (tRet (tCall (aN K) [] E0 (tCons (tVar 0) tNil))) tNext)
  (tSeq (tIfS (tNot (tB (tCall (cr K) [] E0 (tCons (tVar 0) (tCons (tVar 1) tNil))))) (mf E a.NoMove (tCons (tC (.str (tx [115,105,103,110,115,32,97,114,101,32,101,120,99,104,97,110,103,101,100,32,98,121,32,97,32,108,105,115,116,32,119,105,116,104,32,101,97,99,104,32,115,105,103,110,32,111,102,32,116,104,101,32,102,108,111,111,114,32,111,110,99,101]))) tNil)) tNext)
  (tRet (tVar 1))))
theorem qO {K:PySem.W.Frag} {a:EA} {os:List Addr} {vs:List V} {H:Hp} {Q:VK} {E:XK} (R:lG K a "NoMove" a.NoMove os) (h:bx K vs H Q E):fg K a E { nx:=fun _ H'=>Q .non H',rt:=Q } (start ["floor","signs"] vs) H:=by
 obtain ⟨p,h,w,g,v,ss,rfl,hp,g0,g1,x,k1,k2⟩:=h
 show fg K a E _ [some (.ref p),some v] H
 unfold fg
 rw [aB,aJ]
 walk_at "w"
 try rw [lE]
 walk_at "w"
 rcases x with ⟨rfl,rfl⟩ | ⟨S,rfl,hS,hl⟩
 · rw [decide_eq_true rfl]
   walk_at "w"
   refine ⟨p,h,w,g,rfl,hp,g0,g1,fun l hl=>?_⟩
   exact k1 (List.isPerm_iff.mpr (List.Perm.refl _)) l _ ((Same.refl H).laid hl) ae
 · rw [decide_eq_false (fun e=>by cases e)]
   walk_at "w"
   rw [aJ]
   walk_at "w"
   refine ⟨p,S,h,w,g,ss,rfl,hp,g0,g1,hS,hl,fun H1 s1=>?_⟩
   by_cases e:exOk g ss=true
   · rw [e]
     refine ⟨true,rfl,?_⟩
     walk_at "w"
     exact k1 e S H1 s1 (s1 _ _ hS)
   · rw [Bool.eq_false_iff.mpr e]
     refine ⟨false,rfl,?_⟩
     walk_at "w"
     rw [mW]
     walk_at "w"
     exact ⟨aG (by decide),k2 e H1 s1 _ R.g⟩
def bV (K:PySem.W.Frag):Sp:=fun vs H Q _=>∃ (S:Addr) (ss:List Int) (x:Int),vs=[.int x,.ref S]∧H S=some (.lst (ss.map V.int))∧0≤x∧x≤(ss.length:Int)∧Q (.int (exI ss x)) H
theorem t4 {K:PySem.W.Frag} {vs:List V} {H:Hp} {Q:VK} {E:XK} (h:bV K vs H Q E):vs.length=2:=by
 obtain ⟨_,_,_,rfl,_⟩:=h; rfl
def g5 (K:PySem.W.Frag):TS:=
 (tRet (tIf (tTest (tOp (cEq K) (tVar 0) (tC (.int 0)))) (tC (.int 0)) (tOp cIx (tVar 1) (tOp cSub (tVar 0) (tC (.int 1))))))
theorem t5 {K:PySem.W.Frag} {vs:List V} {H:Hp} {Q:VK} {E:XK} (h:bV K vs H Q E):g5 K { nx:=fun _ H'=>Q .non H',rt:=Q } (start ["sign","signs"] vs) H:=by
 obtain ⟨S,ss,x,rfl,hS,x0,x1,q⟩:=h
 show g5 K _ [some (.int x),some (.ref S)] H
 unfold g5
 walk_at "w"
 unfold exI at q
 by_cases e:x=0
 · rw [if_pos e] at q
   rw [decide_eq_true e]
   exact iteT q
 · rw [if_neg e] at q
   rw [decide_eq_false e]
   refine iteF ?_
   walk_at "w"
   exact ixI hS (by omega) (by omega) q
def bu (K:PySem.W.Frag):Sp:=fun vs H Q E=>∃ (p f:Addr) (h w g m:Int) (v:V) (ss fl:List Int),vs=[.ref p,.ref f,.int m,v]∧IsFl H p h w g∧FlOk h w g∧H f=some (.lst (fl.map V.int))∧fl.length=(h*w).toNat∧(∀ x∈fl,0≤x∧x≤g)∧ExV H v g ss∧
 (0≤m→m < 8→exOk g ss=true→∀ l H',Same H H'→H l=none→H' l=some (.lst ((mvF h w m ss fl).map V.int))→Q (.ref l) H')∧(¬ ((0≤m∧m < 8)∧exOk g ss=true)→∀ H',Same H H'→∀ C,Glb K "NoMove" C→E (.ref C) none H')
theorem oE {K:PySem.W.Frag} {vs:List V} {H:Hp} {Q:VK} {E:XK} (h:bu K vs H Q E):vs.length=4:=by
 obtain ⟨_,_,_,_,_,_,_,_,_,rfl,_⟩:=h; rfl
def du (K:PySem.W.Frag) (E:XK):TS:=
 (tSeq (tAsg (tCall (bw K) [] E (tCons (tVar 0) (tCons (tVar 2) tNil))) (gName 4))
  (tSeq (tAsg (tCall (bx K) [] E (tCons (tVar 0) (tCons (tVar 3) tNil))) (gName 5))
  (tSeq (tAsg (tOp cRepL (tLst (tCons (tC (.int 0)) tNil)) (tCall (aO K) [] E0 (tCons (tVar 0) tNil))) (gName 6))
  (tSeq (tFor (iZip K (tCons (tVar 4) (tCons (tVar 1) tNil))) (gTup K 2 (gCons (gName 7) (gCons (gName 8) gNil)))
  (tAsg (tCall (bV K) [] E0 (tCons (tVar 8) (tCons (tVar 5) tNil))) (gSub (tVar 6) (tVar 7) cPut)))
  (tRet (tVar 6))))))
theorem xT (n:Nat):(List.replicate n [V.int 0]).flatten=(List.replicate n (0:Int)).map V.int:=by
 induction n with
 | zero=>rfl
 | succ n ih=>rw [List.replicate_succ,List.flatten_cons,ih,List.replicate_succ]; rfl
theorem oF {K:PySem.W.Frag} {vs:List V} {H:Hp} {Q:VK} {E:XK} (h:bu K vs H Q E):du K E { nx:=fun _ H'=>Q .non H',rt:=Q } (start ["floor","filling","move","signs","cells","exchange","found","cell","sign"] vs) H:=by
 obtain ⟨p,f,h,w,g,m,v,ss,fl,rfl,hp,F,hf,hl,hx,ex,k1,k2⟩:=h
 obtain ⟨h0,h1,w0,w1,m16,g0,g1⟩:=id F
 have mpos:0≤h*w:=Int.mul_nonneg (by omega) (by omega)
 show du K E _ [some (.ref p),some (.ref f),some (.int m),some v,none,none,none,none,none] H
 unfold du
 walk_at "w"
 refine ⟨p,m,h,w,g,rfl,hp,F,fun m0 m8 C H1 s1 hC eC=>?_,fun z D hD=>k2 (fun t=>z t.1) H (Same.refl H) D hD⟩
 walk_at "w"
 refine ⟨p,h,w,g,v,ss,rfl,s1 _ _ hp,by omega,g1,ex.same s1,fun ok S H2 s2 eS=>?_,fun nok H' s' D hD=>k2 (fun t=>nok t.2) H' (s1.trans s') D hD⟩
 have s12:=s1.trans s2
 have sl:(ss.length:Int)=g:=by
  have:=(List.isPerm_iff.mp ok).length_eq
  have:=lm (show 0≤g by omega)
  omega
 walk_at "w"
 refine ⟨aG (by show (1:Nat)≤1000; decide),fun U hU=>?_⟩
 have s3:Same H2 (upd H2 U (.lst [V.int 0])):=(Same.refl H2).laid hU
 have eU:(upd H2 U (.lst [V.int 0])) U=some (.lst [V.int 0]):=ae
 generalize upd H2 U (.lst [V.int 0])=H3 at*
 have s13:=s12.trans s3
 refine ⟨p,h,w,g,rfl,s13 _ _ hp,h0,h1,?_⟩
 refine zo eU mpos (by omega) (by show (1:Nat)≤1; decide) fun R hR=>?_
 rw [xT]
 have s4:Same H3 (upd H3 R (.lst ((List.replicate (h*w).toNat (0:Int)).map V.int))):=(Same.refl H3).laid hR
 have eR:(upd H3 R (.lst ((List.replicate (h*w).toNat (0:Int)).map V.int))) R=some (.lst ((List.replicate (h*w).toNat (0:Int)).map V.int)):=ae
 generalize upd H3 R (.lst ((List.replicate (h*w).toNat (0:Int)).map V.int))=H4 at*
 have M:=kB F m0 m8
 have eC3:=s3 _ _ (s2 _ _ eC)
 have ef3:=s13 _ _ hf
 have eS3:=s3 _ _ eS
 walk_at "w"
 rw [zq]
 walk_at "w"
 refine ⟨C,f,rfl,⟨_,SqL.of (s4 _ _ eC3)⟩,⟨_,SqL.of (s4 _ _ ef3)⟩,?_⟩
 refine yr (xs:=(mvL h w m).map V.int) (ys:=fl.map V.int) (fun i σ H'=>∃ (v7 v8:Option V),σ=[some (.ref p),some (.ref f),some (.int m),some v,some (.ref C),some (.ref S),some (.ref R),v7,v8]∧Same H3 H'∧H' R=some (.lst ((puJ (List.replicate (h*w).toNat 0) (mvL h w m) (fl.map (exI ss)) i).map V.int)))
  (by rw [List.length_map,List.length_map,M.len,hl]) ⟨none,none,rfl,s4,eR⟩ (fun i σ H' _ ⟨_,_,_,s5,_⟩=>⟨SqL.of (s5 _ _ eC3),SqL.of (s5 _ _ ef3)⟩) ?_ ?_
 · rintro i x y T σ H5 hx1 hy1 ⟨v7,v8,rfl,s5,e5⟩ hT
   obtain ⟨c,hc,rfl⟩:=b6 hx1
   obtain ⟨z,hz,rfl⟩:=b6 hy1
   have ci:=M.lt c (List.mem_of_getElem? hc)
   have zi:=hx z (List.mem_of_getElem? hz)
   have s6:Same H5 (upd H5 T (.tup [V.int c,V.int z])):=(Same.refl H5).laid hT
   refine tw ae rfl ?_
   rw [tz]
   generalize upd H5 T (.tup [V.int c,V.int z])=H6 at*
   walk_at "w"
   refine ⟨S,ss,z,rfl,(s5.trans s6) _ _ eS3,zi.1,by omega,?_⟩
   walk_at "w"
   refine vo (s6 _ _ e5) ci.1 (by rw [List.length_map,iG,List.length_replicate]; omega) ?_
   refine ⟨_,_,rfl,(s5.trans s6).own hR,?_⟩
   rw [ae]
   show _=some (HO.lst (((puJ (List.replicate (h*w).toNat 0) (mvL h w m) (fl.map (exI ss)) i).set ((mvL h w m).getD i 0).toNat ((fl.map (exI ss)).getD i 0)).map V.int))
   rw [List.map_set,jU hc]
   have e7:(fl.map (exI ss)).getD i 0=exI ss z:=by rw [List.getD,List.getElem?_map,hz]; rfl
   rw [e7]
 · rintro σ H5 ⟨v7,v8,rfl,s5,e5⟩
   rw [List.length_map,M.len,yJ F m0 m8 hl (by rw [List.length_replicate])] at e5
   walk_at "w"
   exact k1 m0 m8 ok R H5 (s13.trans s5) (s13.free hR) e5
def bN (K:PySem.W.Frag):Sp:=fun vs H Q _=>∃ (num many:Int),vs=[.int num,.int many]∧0≤many∧many≤6∧
 ∀ (l:Addr) (H':Hp) (ss:List Int),Same H H'→H l=none→H' l=some (.lst (ss.map V.int))→ss.Perm (plnL many)→Q (.ref l) H'
theorem oG {K:PySem.W.Frag} {vs:List V} {H:Hp} {Q:VK} {E:XK} (h:bN K vs H Q E):vs.length=2:=by
 obtain ⟨_,_,rfl,_⟩:=h; rfl
def dv (K:PySem.W.Frag):TS:=
 (tSeq (tAsg (i7 (tCons (tC (.int 1)) (tCons (tOp cAdd (tVar 1) (tC (.int 1))) tNil))) (gName 2))
  (tSeq (tAsg (tLst tNil) (gName 3))
  (tSeq (tFor (ee (tCons (tVar 1) tNil)) (gName 4)
  (tDrop (tBM K "list" dC (tVar 3) (tCons (tBM K "list" mh (tVar 2) (tCons (tOp cMod (tOp cDiv (tVar 0) (tOp cAdd (tOp cMul (tC (.int 3)) (tVar 4)) (tC (.int 1)))) (tCB kLen (tCons (tVar 2) tNil))) tNil)) tNil))))
  (tRet (tVar 3)))))
theorem mx:∀ (ls:List Int) (j:Nat) (h:j < ls.length),(ls[j]::ls.eraseIdx j).Perm ls
 | a::r,0,_=>List.Perm.refl _
 | a::r,j+1,h=>by
  have hj:j < r.length:=by simpa using h
  have ih:=mx r j hj
  exact (List.Perm.swap a r[j] (r.eraseIdx j)).trans (ih.cons a)
theorem uA (ls:List Int) (j:Nat):(ls.map V.int).eraseIdx j=(ls.eraseIdx j).map V.int:=by
 induction ls generalizing j with
 | nil=>rfl
 | cons a r ih=>cases j with
  | zero=>rfl
  | succ j=>show V.int a::(r.map V.int).eraseIdx j=_; rw [ih]; rfl
theorem oH {K:PySem.W.Frag} {vs:List V} {H:Hp} {Q:VK} {E:XK} (h:bN K vs H Q E):dv K { nx:=fun _ H'=>Q .non H',rt:=Q } (start ["_law_cell","_law_many","_law_left","_law_found","_law_k"] vs) H:=by
 obtain ⟨num,many,rfl,c0,m1,q⟩:=h
 have pl:=lm c0
 show dv K _ [some (.int num),some (.int many),none,none,none] H
 unfold dv
 walk_at "w"
 refine ⟨1,many+1,rfl,⟨by decide,by decide,by omega,by omega⟩,fun L hL=>?_⟩
 have s1:Same H (upd H L (.lst ((plnL many).map V.int))):=(Same.refl H).laid hL
 have eL:(upd H L (.lst ((plnL many).map V.int))) L=some (.lst ((plnL many).map V.int)):=ae
 generalize hHq:upd H L (.lst ((plnL many).map V.int))=H1 at*
 have hHq':upd H L (.lst ((rngL 1 (many+1)).map V.int))=H1:=hHq
 rw [hHq']
 walk_at "w"
 refine ⟨aG (by decide),fun R hR=>?_⟩
 have nRL:R≠L:=fun e=>by rw [e,eL] at hR; cases hR
 refine ⟨many,rfl,by omega,by omega,?_⟩
 refine d6 (fun i σ H'=>∃ (kv:Option V) (fs ls:List Int),σ=[some (.int num),some (.int many),some (.ref L),some (.ref R),kv]∧Same H H'∧H' L=some (.lst (ls.map V.int))∧H' R=some (.lst (fs.map V.int))∧(fs++ls).Perm (plnL many)∧fs.length=i)
  ⟨none,[],plnL many,rfl,s1.laid hR,by rw [ai nRL.symm]; exact eL,by rw [ae]; rfl,List.Perm.refl _,rfl⟩ ?_ ?_
 · rintro i σ H2 hi ⟨kv,fs,ls,rfl,s2,e1,e2,hp,hl⟩
   have hlen:=hp.length_eq
   rw [List.length_append] at hlen
   walk_at "w"
   refine ⟨fZ e2,fZ e1,.inl ⟨by decide,by decide⟩,⟨by omega,by omega⟩,?_⟩
   rw [gC e1,List.length_map]
   have hpos:0 < (ls.length:Int):=by omega
   generalize num / (3*(0+(i:Int))+1)=y at*
   have j0:=Int.emod_nonneg y (Int.ne_of_gt hpos)
   have j1:=Int.emod_lt_of_pos y hpos
   refine ⟨hpos,?_⟩
   generalize y % (ls.length:Int)=j at*
   have hj:j.toNat < ls.length:=by omega
   refine uS e1 j0 (by rw [List.length_map]; omega) (y:=V.int ls[j.toNat]) (by rw [List.getElem?_map,List.getElem?_eq_getElem hj]; rfl) ?_
   have e2':(upd H2 L (.lst ((ls.map V.int).eraseIdx j.toNat))) R=some (.lst (fs.map V.int)):=by rw [ai nRL]; exact e2
   walk_at "w"
   rw [ly e2']
   refine ⟨by rw [List.length_map]; exact aR (by omega),_,fs++[ls[j.toNat]],ls.eraseIdx j.toNat,rfl,(s2.own hL).own (s1.free hR),?_,?_,?_,by simp [hl]⟩
   · rw [ai nRL.symm,ae,uA]
   · rw [ae]; simp
   · have p1:=mx ls j.toNat hj
     have p2:=List.Perm.append_left fs p1
     refine List.Perm.trans ?_ hp
     rw [List.append_assoc]
     exact p2
 · rintro σ H2 ⟨kv,fs,ls,rfl,s2,e1,e2,hp,hl⟩
   have hlen:=hp.length_eq
   rw [List.length_append] at hlen
   have hz:ls=[]:=List.length_eq_zero_iff.mp (by omega)
   rw [hz,List.append_nil] at hp
   walk_at "w"
   exact q R H2 fs s2 (s1.free hR) e2 hp
theorem oI (xs:List V) (k:Nat):cutV xs (some (k:Int)) none=xs.drop k:=by
 have h1:HT.sIx xs.length 0 (some (k:Int))=min k xs.length:=by rw [HT.sIx_nat]
 have h2:HT.sIx xs.length xs.length none=xs.length:=rfl
 unfold cutV
 rw [h1,h2]
 by_cases hk:k≤xs.length
 · rw [Nat.min_eq_left hk,List.take_of_length_le (by simp)]
 · rw [Nat.min_eq_right (by omega),List.drop_length,List.drop_eq_nil_of_le (by omega)]
   simp
theorem xb (xs:List V) (k:Nat):cutV xs none (some (k:Int))=xs.take k:=by
 have h1:HT.sIx xs.length 0 none=0:=rfl
 have h2:HT.sIx xs.length xs.length (some (k:Int))=min k xs.length:=by rw [HT.sIx_nat]
 unfold cutV
 rw [h1,h2,List.drop_zero]
 by_cases hk:k≤xs.length
 · rw [Nat.min_eq_left hk]; rfl
 · rw [Nat.min_eq_right (by omega),List.take_of_length_le (by simp),List.take_of_length_le (by omega)]
theorem xf {g:Int} {bs:List Int} (g0:0≤g) (h:(bs.length:Int)≠g):¬ exOk g bs=true:=fun e=>by
 have:=(List.isPerm_iff.mp e).length_eq
 have:=lm g0
 omega
theorem xg {g x:Int} {bs:List Int} (hx:x∈bs) (h:¬ (1≤x∧x≤g)):¬ exOk g bs=true:=fun e=>h (pln_mem.mp ((List.isPerm_iff.mp e).mem_iff.mp hx))
theorem xU {g x:Int} {a b:List Int} (h:x∈a∨x∈b):¬ exOk g (a++[x]++b)=true:=fun e=>by
 have nd:=(List.isPerm_iff.mp e).nodup_iff.mpr (w9 g)
 rw [List.append_assoc] at nd
 have nd2:=List.nodup_append.mp nd
 rcases h with h | h
 · exact nd2.2.2 x h x (by simp) rfl
 · have:=nd2.2.1
   rw [List.singleton_append,List.nodup_cons] at this
   exact this.1 h
def bO (K:PySem.W.Frag):Sp:=fun vs H Q _=>∃ (S:Addr) (ss:List Int) (g y:Int),vs=[.ref S,.int y]∧H S=some (.lst (ss.map V.int))∧1≤g∧g≤6∧ss.Perm (plnL g)∧
 ∀ (l:Addr) (H':Hp) (bs:List Int),Same H H'→H' l=some (.lst (bs.map V.int))→bs.length < 64→¬ exOk g bs=true→Q (.ref l) H'
theorem oJ {K:PySem.W.Frag} {vs:List V} {H:Hp} {Q:VK} {E:XK} (h:bO K vs H Q E):vs.length=2:=by
 obtain ⟨_,_,_,_,rfl,_⟩:=h; rfl
def dJ (K:PySem.W.Frag):TS:=
 (tSeq (tIfS (tTest (tOp (cEq K) (tOp cMod (tVar 1) (tC (.int 5))) (tC (.int 3)))) (tRet (tOp cAdd (tOp cAdd (tSl cP (tVar 0) bq (tPart (tVar 2))) (tLst (tCons (tC (.int 0)) tNil))) (tSl cP (tVar 0) (tPart (tOp cAdd (tVar 2) (tC (.int 1)))) bq))) tNext)
  (tRet (tOp cAdd (tOp cAdd (tSl cP (tVar 0) bq (tPart (tVar 2))) (tLst (tCons (tOp cAdd (tOp cAdd (tCB kLen (tCons (tVar 0) tNil)) (tC (.int 1))) (tOp cMod (tOp cDiv (tVar 1) (tC (.int 64))) (tOp cPow (tC (.int 10)) (tC (.int 9))))) tNil))) (tSl cP (tVar 0) (tPart (tOp cAdd (tVar 2) (tC (.int 1)))) bq))))
def dw (K:PySem.W.Frag):TS:=
 (tSeq (tAsg (tOp cMod (tOp cDiv (tVar 1) (tC (.int 5))) (tCB kLen (tCons (tVar 0) tNil))) (gName 2))
  (tSeq (tIfS (tTest (tOp (cEq K) (tOp cMod (tVar 1) (tC (.int 5))) (tC (.int 0)))) (tRet (tSl cP (tVar 0) (tPart (tC (.int 1))) bq)) tNext)
  (tSeq (tIfS (tTest (tOp (cEq K) (tOp cMod (tVar 1) (tC (.int 5))) (tC (.int 1)))) (tRet (tOp cAdd (tVar 0) (tLst (tCons (tOp cIx (tVar 0) (tVar 2)) tNil)))) tNext)
  (tSeq (tIfS (tAnd (tTest (tOp (cEq K) (tOp cMod (tVar 1) (tC (.int 5))) (tC (.int 2)))) (tTest (tOp (cCmp fun i j=>decide (j < i)) (tCB kLen (tCons (tVar 0) tNil)) (tC (.int 1))))) (tRet (tOp cAdd (tOp cAdd (tSl cP (tVar 0) bq (tPart (tVar 2))) (tLst (tCons (tOp cIx (tVar 0) (tOp cSub (tVar 2) (tC (.int 1)))) tNil))) (tSl cP (tVar 0) (tPart (tOp cAdd (tVar 2) (tC (.int 1)))) bq))) tNext)
  (dJ K)))))
theorem oK {K:PySem.W.Frag} {H0 H1:Hp} {Q:VK} {S A:Addr} {ss:List Int} {k:Nat} {x:Int} (s0:Same H0 H1) (hS:H1 S=some (.lst (ss.map V.int))) (eA:H1 A=some (.lst ((ss.take k).map V.int))) (hn:ss.length≤6)
  (q:∀ (l:Addr) (H':Hp),Same H0 H'→H' l=some (.lst ((ss.take k++[x]++ss.drop (k+1)).map V.int))→Q (.ref l) H'):
  ([V.int x].length≤sizeLine∧∀ p,H1 p=none→cAdd (.ref A) (.ref p) (upd H1 p (.lst [V.int x])) fun v2 H2=>cP (.ref S) (some ((k:Int)+1)) none H2 fun v3 H3=>cAdd v2 v3 H3 Q):=by
 refine ⟨aG (by show (1:Nat)≤1000; decide),fun B hB=>?_⟩
 have s2:Same H1 (upd H1 B (.lst [V.int x])):=(Same.refl H1).laid hB
 have eB:(upd H1 B (.lst [V.int x])) B=some (.lst [V.int x]):=ae
 generalize upd H1 B (.lst [V.int x])=H2 at*
 refine i8 (s2 _ _ eA) eB (by rw [List.length_map,List.length_take]; show _+1≤1000; omega) fun C hC=>?_
 have s3:Same H2 (upd H2 C (.lst ((ss.take k).map V.int++[V.int x]))):=(Same.refl H2).laid hC
 have eC:(upd H2 C (.lst ((ss.take k).map V.int++[V.int x]))) C=some (.lst ((ss.take k).map V.int++[V.int x])):=ae
 generalize upd H2 C (.lst ((ss.take k).map V.int++[V.int x]))=H3 at*
 refine jI (s3 _ _ (s2 _ _ hS)) fun D hD=>?_
 rw [show (k:Int)+1=((k+1:Nat):Int) by omega,oI,← List.map_drop]
 have s4:Same H3 (upd H3 D (.lst ((ss.drop (k+1)).map V.int))):=(Same.refl H3).laid hD
 have eD:(upd H3 D (.lst ((ss.drop (k+1)).map V.int))) D=some (.lst ((ss.drop (k+1)).map V.int)):=ae
 generalize upd H3 D (.lst ((ss.drop (k+1)).map V.int))=H4 at*
 refine i8 (s4 _ _ eC) eD (by simp; omega) fun G hG=>?_
 refine q G _ (((s0.trans s2).trans s3).trans (s4.trans ((Same.refl H4).laid hG))) ?_
 rw [ae]
 simp
theorem oM {H:Hp} {Q:VK} {S:Addr} {ss:List Int} {k:Nat} (hS:H S=some (.lst (ss.map V.int))) (q:∀ (A:Addr) (H1:Hp),Same H H1→H1 A=some (.lst ((ss.take k).map V.int))→Q (.ref A) H1):cP (.ref S) none (some (k:Int)) H Q:=by
 refine jI hS fun A hA=>?_
 rw [xb,← List.map_take]
 exact q A _ ((Same.refl H).laid hA) ae
theorem xV {ss:List Int} {k:Nat} (hk:k < ss.length) (h1:1 < ss.length):∃ x:Int,atI (ss.map V.int) ((k:Int) - 1)=some (V.int x)∧(x∈ss.take k∨x∈ss.drop (k+1)):=by
 by_cases e:k=0
 · subst e
   refine ⟨ss[ss.length - 1],?_,.inr ?_⟩
   · unfold atI ixN
     rw [List.length_map,if_neg (by decide),if_pos (by omega)]
     show (ss.map V.int)[((ss.length:Int)+((0:Nat) - 1)).toNat]? =_
     rw [show ((ss.length:Int)+(((0:Nat):Int) - 1)).toNat=ss.length - 1 by omega,List.getElem?_map,List.getElem?_eq_getElem (by omega)]
     rfl
   · rw [List.mem_iff_getElem]
     exact ⟨ss.length - 2,by simp; omega,by rw [List.getElem_drop]; congr 1; omega⟩
 · refine ⟨ss[k - 1],?_,.inl ?_⟩
   · rw [show (k:Int) - 1=((k - 1:Nat):Int) by omega]
     exact b8 (by rw [List.getElem?_map,List.getElem?_eq_getElem (by omega)]; rfl)
   · rw [List.mem_iff_getElem]
     exact ⟨k - 1,by simp; omega,by rw [List.getElem_take]⟩
theorem lY {K:PySem.W.Frag} {H:Hp} {Q:VK} {S:Addr} {ss:List Int} {g y:Int} {k:Nat} (hS:H S=some (.lst (ss.map V.int))) (g0:1≤g) (g1:g≤6) (sl:(ss.length:Int)=g) (hkl:k < ss.length)
  (q:∀ (l:Addr) (H':Hp) (bs:List Int),Same H H'→H' l=some (.lst (bs.map V.int))→bs.length < 64→¬ exOk g bs=true→Q (.ref l) H'):
  dJ K { nx:=fun _ H'=>Q .non H',rt:=Q } [some (.ref S),some (.int y),some (.int (k:Int))] H:=by
 unfold dJ
 rw [aB,aJ]
 walk_at "w"
 refine ⟨by decide,?_⟩
 by_cases c3:y % 5=3
 · rw [decide_eq_true c3]
   refine iteT ?_
   walk_at "w"
   refine oM hS fun A H1 s1 eA=>?_
   refine oK (K:=K) s1 (s1 _ _ hS) eA (by omega) fun l H' s' e'=>?_
   exact q l H' _ s' e' (by simp; omega) (xg (x:=0) (by simp) (by omega))
 · rw [decide_eq_false c3]
   refine iteF ?_
   walk_at "w"
   refine oM hS fun A H1 s1 eA=>?_
   rw [gC (s1 _ _ hS),List.length_map]
   walk_at "w"
   refine ⟨⟨by decide,by decide⟩,?_⟩
   refine ⟨⟨by decide,by decide,by decide⟩,by decide,?_⟩
   have r0:=Int.emod_nonneg (y / 64) (show (10:Int)^(9:Int).toNat≠0 by decide)
   generalize y / 64 % 10^(9:Int).toNat=r at*
   refine oK (K:=K) s1 (s1 _ _ hS) eA (by omega) fun l H' s' e'=>?_
   exact q l H' _ s' e' (by simp; omega) (xg (x:=(ss.length:Int)+1+r) (by simp) (by omega))
theorem oN {K:PySem.W.Frag} {vs:List V} {H:Hp} {Q:VK} {E:XK} (h:bO K vs H Q E):dw K { nx:=fun _ H'=>Q .non H',rt:=Q } (start ["_law_signs","_law_cell","_law_at_here"] vs) H:=by
 obtain ⟨S,ss,g,y,rfl,hS,g0,g1,hp,q⟩:=h
 have sl:(ss.length:Int)=g:=by
  have:=hp.length_eq
  have:=lm (show 0≤g by omega)
  omega
 show dw K _ [some (.ref S),some (.int y),none] H
 unfold dw
 walk_at "w"
 refine ⟨⟨by decide,by decide⟩,?_⟩
 rw [gC hS,List.length_map]
 refine ⟨by omega,?_⟩
 have b0:=Int.emod_nonneg (y / 5) (show (ss.length:Int)≠0 by omega)
 have b1:=Int.emod_lt_of_pos (y / 5) (show 0 < (ss.length:Int) by omega)
 obtain ⟨k,hk⟩:=Int.eq_ofNat_of_zero_le b0
 rw [hk] at b1 ⊢
 have hkl:k < ss.length:=by omega
 walk_at "w"
 rw [aJ]
 walk_at "w"
 refine ⟨by decide,?_⟩
 by_cases c0:y % 5=0
 · rw [decide_eq_true c0]
   refine iteT ?_
   walk_at "w"
   refine jI hS fun l hl=>?_
   rw [show (1:Int)=((1:Nat):Int) from rfl,oI,← List.map_drop]
   refine q l _ (ss.drop 1) ((Same.refl H).laid hl) ae (by rw [List.length_drop]; omega) (xf (by omega) (by rw [List.length_drop]; omega))
 · rw [decide_eq_false c0]
   refine iteF ?_
   rw [aJ]
   walk_at "w"
   refine ⟨by decide,?_⟩
   by_cases c1:y % 5=1
   · rw [decide_eq_true c1]
     refine iteT ?_
     walk_at "w"
     refine ixI hS (by omega) b1 ?_
     walk_at "w"
     refine ⟨aG (by show (1:Nat)≤1000; decide),fun B hB=>?_⟩
     generalize ss.getD ((k:Nat):Int).toNat 0=x at*
     have s2:Same H (upd H B (.lst [V.int x])):=(Same.refl H).laid hB
     have eB:(upd H B (.lst [V.int x])) B=some (.lst [V.int x]):=ae
     generalize upd H B (.lst [V.int x])=H2 at*
     refine i8 (s2 _ _ hS) eB (by rw [List.length_map]; show _+1≤1000; omega) fun C hC=>?_
     refine q C _ (ss++[x]) (s2.trans ((Same.refl H2).laid hC)) (by rw [ae]; simp) (by simp; omega) (xf (by omega) (by simp; omega))
   · rw [decide_eq_false c1]
     refine iteF ?_
     rw [aJ]
     walk_at "w"
     refine ⟨by decide,?_⟩
     have rest:=lY (K:=K) (y:=y) hS g0 g1 sl hkl q
     by_cases c2:y % 5=2
     · rw [decide_eq_true c2]
       refine iteT ?_
       rw [gC hS,List.length_map]
       walk_at "w"
       by_cases c4:(1:Int) < (ss.length:Int)
       · rw [decide_eq_true c4]
         walk_at "w"
         refine oM hS fun A H1 s1 eA=>?_
         obtain ⟨x,ex,hx⟩:=xV hkl (by omega)
         refine ixL (s1 _ _ hS) ex ?_
         refine oK (K:=K) s1 (s1 _ _ hS) eA (by omega) fun l H' s' e'=>?_
         exact q l H' _ s' e' (by simp; omega) (xU hx)
       · rw [decide_eq_false c4]
         walk_at "w"
         exact rest
     · rw [decide_eq_false c2]
       walk_at "w"
       exact rest
theorem vG {h w g m:Int} (F:FlOk h w g):FlOk (mvH h w m) (mvW h w m) g∧mvH h w m*mvW h w m=h*w:=by
 obtain ⟨h0,h1,w0,w1,m16,g0,g1⟩:=F
 unfold mvH mvW
 split
 · exact ⟨⟨w0,w1,h0,h1,by rw [Int.mul_comm]; exact m16,g0,g1⟩,Int.mul_comm _ _⟩
 · exact ⟨⟨h0,h1,w0,w1,m16,g0,g1⟩,rfl⟩
structure Exch (g:Int) (ss:List Int):Prop where
 p:ss.Perm (plnL g)
 g0:0≤g
theorem Exch.len {g:Int} {ss:List Int} (x:Exch g ss):(ss.length:Int)=g:=by
 have:=x.p.length_eq
 have:=lm x.g0
 omega
theorem Exch.mem {g s:Int} {ss:List Int} (x:Exch g ss):s∈ss↔1≤s∧s≤g:=x.p.mem_iff.trans pln_mem
theorem Exch.at_ {g s:Int} {ss:List Int} (x:Exch g ss) (s0:1≤s) (s1:s≤g):1≤exI ss s∧exI ss s≤g:=by
 have sl:=x.len
 have hk:(s - 1).toNat < ss.length:=by omega
 unfold exI
 rw [if_neg (by omega),List.getD,List.getElem?_eq_getElem hk]
 exact x.mem.mp (List.getElem_mem hk)
theorem Exch.in0 {g s:Int} {ss:List Int} (x:Exch g ss) (s0:0≤s) (s1:s≤g):0≤exI ss s∧exI ss s≤g:=by
 by_cases e:s=0
 · rw [e]
   have:exI ss 0=0:=if_pos rfl
   rw [this]
   have:=x.g0
   omega
 · have:=x.at_ (s:=s) (by omega) s1
   omega
theorem zC {h w g m:Int} {ss fl:List Int} (F:FlOk h w g) (m0:0≤m) (m8:m < 8) (e:Exch g ss) (hf:fl.length=(h*w).toNat) (hx:∀ x∈fl,0≤x∧x≤g):∀ x∈mvF h w m ss fl,0≤x∧x≤g:=fun x hm=>by
 have M:=kB F m0 m8
 obtain ⟨k,hk,rfl⟩:=List.mem_iff_getElem.mp hm
 rw [lp,hf] at hk
 obtain ⟨j,hj,ej⟩:=M.all k hk
 have t:=xa (ss:=ss) F m0 m8 hf hj
 rw [ej,List.getD,List.getElem?_eq_getElem (by rw [lp,hf]; exact hk)] at t
 have t2:(mvF h w m ss fl)[k]'(by rw [lp,hf]; exact hk)=exI ss (fl.getD j 0):=t
 rw [t2]
 have:=m4 hx (show j < fl.length by omega)
 exact e.in0 this.1 this.2
end L2
namespace L2
open PySem PySem.Spec PyProof.Rows
section
variable {P:Program} {w:World} {K:PySem.W.Frag} {mg:Str→Option Value} {base:Heap} {k:Nat} {x qual y:Str} {st:Stmt} {f:Addr} {fd:FuncData} {sp:Sp}
theorem dy {a0:Str} (F:Fun K x qual st f fd) (h:∀ (kV doc pm:Value) (an:Option Addr) (cdv ct u0:Value),bindArgs (PySem.W.fnOf x qual (aU st) (aQ st) (ah st) .none kV doc pm an cdv ct) ⟨[u0],[]⟩=pure (([a0]:List Str).zip [u0]):=by intros; rfl):Binds K fd [a0] []:=F.binds fun _ _ _ _ _ _ us hl=>match us,hl with | [u0],_=>h _ _ _ _ _ _ _
theorem lK {a0:Str} (T:FnOk P w K mg base CX0 k f fd [a0] sp) (F:Fun K x qual st f fd) (hm:mg y=some (.ref f)) (h:∀ (kV doc pm:Value) (an:Option Addr) (cdv ct u0:Value),bindArgs (PySem.W.fnOf x qual (aU st) (aQ st) (ah st) .none kV doc pm an cdv ct) ⟨[u0],[]⟩=pure (([a0]:List Str).zip [u0]):=by intros; rfl):Cal P w K mg base k y [a0] sp:=⟨f,fd,T,hm,F.kp,dy F h⟩
theorem x6 {a0 a1:Str} (F:Fun K x qual st f fd) (h:∀ (kV doc pm:Value) (an:Option Addr) (cdv ct u0 u1:Value),bindArgs (PySem.W.fnOf x qual (aU st) (aQ st) (ah st) .none kV doc pm an cdv ct) ⟨[u0,u1],[]⟩=pure (([a0,a1]:List Str).zip [u0,u1]):=by intros; rfl):Binds K fd [a0,a1] []:=F.binds fun _ _ _ _ _ _ us hl=>match us,hl with | [u0,u1],_=>h _ _ _ _ _ _ _ _
theorem ed {a0 a1:Str} (T:FnOk P w K mg base CX0 k f fd [a0,a1] sp) (F:Fun K x qual st f fd) (hm:mg y=some (.ref f)) (h:∀ (kV doc pm:Value) (an:Option Addr) (cdv ct u0 u1:Value),bindArgs (PySem.W.fnOf x qual (aU st) (aQ st) (ah st) .none kV doc pm an cdv ct) ⟨[u0,u1],[]⟩=pure (([a0,a1]:List Str).zip [u0,u1]):=by intros; rfl):Cal P w K mg base k y [a0,a1] sp:=⟨f,fd,T,hm,F.kp,x6 F h⟩
theorem z8 {a0 a1 a2:Str} (F:Fun K x qual st f fd) (h:∀ (kV doc pm:Value) (an:Option Addr) (cdv ct u0 u1 u2:Value),bindArgs (PySem.W.fnOf x qual (aU st) (aQ st) (ah st) .none kV doc pm an cdv ct) ⟨[u0,u1,u2],[]⟩=pure (([a0,a1,a2]:List Str).zip [u0,u1,u2]):=by intros; rfl):Binds K fd [a0,a1,a2] []:=F.binds fun _ _ _ _ _ _ us hl=>match us,hl with | [u0,u1,u2],_=>h _ _ _ _ _ _ _ _ _
theorem ja {a0 a1 a2:Str} (T:FnOk P w K mg base CX0 k f fd [a0,a1,a2] sp) (F:Fun K x qual st f fd) (hm:mg y=some (.ref f)) (h:∀ (kV doc pm:Value) (an:Option Addr) (cdv ct u0 u1 u2:Value),bindArgs (PySem.W.fnOf x qual (aU st) (aQ st) (ah st) .none kV doc pm an cdv ct) ⟨[u0,u1,u2],[]⟩=pure (([a0,a1,a2]:List Str).zip [u0,u1,u2]):=by intros; rfl):Cal P w K mg base k y [a0,a1,a2] sp:=⟨f,fd,T,hm,F.kp,z8 F h⟩
theorem x8 {a0 a1 a2 a3:Str} (F:Fun K x qual st f fd) (h:∀ (kV doc pm:Value) (an:Option Addr) (cdv ct u0 u1 u2 u3:Value),bindArgs (PySem.W.fnOf x qual (aU st) (aQ st) (ah st) .none kV doc pm an cdv ct) ⟨[u0,u1,u2,u3],[]⟩=pure (([a0,a1,a2,a3]:List Str).zip [u0,u1,u2,u3]):=by intros; rfl):Binds K fd [a0,a1,a2,a3] []:=F.binds fun _ _ _ _ _ _ us hl=>match us,hl with | [u0,u1,u2,u3],_=>h _ _ _ _ _ _ _ _ _ _
theorem zD {a0 a1 a2 a3:Str} (T:FnOk P w K mg base CX0 k f fd [a0,a1,a2,a3] sp) (F:Fun K x qual st f fd) (hm:mg y=some (.ref f)) (h:∀ (kV doc pm:Value) (an:Option Addr) (cdv ct u0 u1 u2 u3:Value),bindArgs (PySem.W.fnOf x qual (aU st) (aQ st) (ah st) .none kV doc pm an cdv ct) ⟨[u0,u1,u2,u3],[]⟩=pure (([a0,a1,a2,a3]:List Str).zip [u0,u1,u2,u3]):=by intros; rfl):Cal P w K mg base k y [a0,a1,a2,a3] sp:=⟨f,fd,T,hm,F.kp,x8 F h⟩
theorem z9 {a0 a1 a2 a3 a4:Str} (F:Fun K x qual st f fd) (h:∀ (kV doc pm:Value) (an:Option Addr) (cdv ct u0 u1 u2 u3 u4:Value),bindArgs (PySem.W.fnOf x qual (aU st) (aQ st) (ah st) .none kV doc pm an cdv ct) ⟨[u0,u1,u2,u3,u4],[]⟩=pure (([a0,a1,a2,a3,a4]:List Str).zip [u0,u1,u2,u3,u4]):=by intros; rfl):Binds K fd [a0,a1,a2,a3,a4] []:=F.binds fun _ _ _ _ _ _ us hl=>match us,hl with | [u0,u1,u2,u3,u4],_=>h _ _ _ _ _ _ _ _ _ _ _
theorem zE {a0 a1 a2 a3 a4:Str} (T:FnOk P w K mg base CX0 k f fd [a0,a1,a2,a3,a4] sp) (F:Fun K x qual st f fd) (hm:mg y=some (.ref f)) (h:∀ (kV doc pm:Value) (an:Option Addr) (cdv ct u0 u1 u2 u3 u4:Value),bindArgs (PySem.W.fnOf x qual (aU st) (aQ st) (ah st) .none kV doc pm an cdv ct) ⟨[u0,u1,u2,u3,u4],[]⟩=pure (([a0,a1,a2,a3,a4]:List Str).zip [u0,u1,u2,u3,u4]):=by intros; rfl):Cal P w K mg base k y [a0,a1,a2,a3,a4] sp:=⟨f,fd,T,hm,F.kp,z9 F h⟩
theorem Aa {a0 a1 a2 a3 a4 a5:Str} (F:Fun K x qual st f fd) (h:∀ (kV doc pm:Value) (an:Option Addr) (cdv ct u0 u1 u2 u3 u4 u5:Value),bindArgs (PySem.W.fnOf x qual (aU st) (aQ st) (ah st) .none kV doc pm an cdv ct) ⟨[u0,u1,u2,u3,u4,u5],[]⟩=pure (([a0,a1,a2,a3,a4,a5]:List Str).zip [u0,u1,u2,u3,u4,u5]):=by intros; rfl):Binds K fd [a0,a1,a2,a3,a4,a5] []:=F.binds fun _ _ _ _ _ _ us hl=>match us,hl with | [u0,u1,u2,u3,u4,u5],_=>h _ _ _ _ _ _ _ _ _ _ _ _
end
end L2
namespace L2
open PySem PySem.Spec PyProof.Rows
structure IsO (K:PySem.W.Frag) (D:Addr):Prop where
 hg:PySem.W.plainGet K D "__class__"=true
 hd:PySem.W.hasDictIn K D=true
 ha:PySem.W.findIn K (.ref D) "__class__"=some (some (.builtin "object.__class__"))
 hn:PySem.W.specialIn K (.builtin "object.__class__") "__get__"=some (some (.builtin "getset_descriptor.__get__"))
 ht:PySem.W.takesIn K (.builtin "object.__class__")=some true
 hm:PySem.W.mroIn K D (.type "object")=some true
 k1:PySem.W.kitOne K (.ref D) (.ref D)=some true
structure GIs (K:PySem.W.Frag) (mg:Str→Option Value) (x:Str) (D:Addr):Prop where
 at_:mg x=some (.ref D)
 is_:IsO K D
def kIsO (D:Addr):List V→Hp→VK→Prop:=fun vs H Q=>∃ a dx fs,vs=[.ref a,.ref D]∧H a=some (.ins D dx fs)∧Q (.bl true) H
theorem xh {X:Cx} {D:Addr} (Z:IsO X.K D):CallR X (.builtin "isinstance") (kIsO D):=by
 intro pins s σ H xs us Q I r h
 obtain ⟨a,dx,fs,rfl,hH,q⟩:=h
 obtain ⟨u,w',rfl,ru,rw'⟩:=o7 r
 cases ru
 cases rw'
 obtain ⟨mA,O,_⟩:=kX I.hok hH
 obtain ⟨od,J,_⟩:=O.look
 exact PySem.W.kia_one (PySem.W.kitx_own Z.hg Z.hd Z.ha Z.hn Z.ht Z.hm) I.kIn J Z.k1 (fun z=>nomatch z) fun tk=>⟨.bl true,H,I.tok tk,rfl,q⟩
theorem Ab {D a dx:Addr} {fs:List (Str × V)} {H:Hp} {Q:VK} (e:H a=some (.ins D dx fs)) (q:Q (.bl true) H):kIsO D [.ref a,.ref D] H Q:=⟨a,dx,fs,rfl,e,q⟩
end L2
namespace L2
open PySem PySem.Spec PyProof.Rows
local macro_rules | `(tactic| walk_at "w")=>`(tactic| (first | simp only [aB,lh,ku,iD,li,jW,jX,mX,lE,lb,mV,if_true,if_false,Bool.false_eq_true,decide_true,decide_false,jS,jT,mT,ir,gj,jQ,la,jR,iq,k8,k9,ip,mR,iu,iw,iz,iA,iB,iC,iy,lc,le,lf,k7,mS,Bool.not_true,Bool.not_false,aX,jo,bY,eh,w_c,kC,iT,gu,fE,fF,w_b,w_not,jp,lx,gw,gy,jq,iU,fG,kD,gz,jr,js,kE,jt,fH,gA,gB,gD,ei,eu,dF,df,dg,cK,ju,jv,jw,jx,jy,jz,jA,jB,jC,jD,jE,jF,lz,gE,di,gF,lA,gG,eE,dj,jG,jH,gH,fI,gI,
 List.getElem?_cons_zero,List.getElem?_cons_succ,Option.some.injEq,exists_eq_left',exists_eq_left,List.set_cons_zero,List.set_cons_succ,cO,V.int.injEq,V.bl.injEq,V.ref.injEq,V.str.injEq,List.append_nil,List.nil_append,List.cons_append] | dsimp only | skip))
def fh (K:PySem.W.Frag) (c:RCl RK):Sp:=dk K c .Sum
theorem qP {K:PySem.W.Frag} {c:RCl RK} {vs:List V} {H:Hp} {Q:VK} {E:XK} (h:fh K c vs H Q E):vs.length=1:=by
 obtain ⟨_,_,_,_,_,_,rfl,_⟩:=h; rfl
def fi (K:PySem.W.Frag) (c:RCl RK):TS:=
 (tRet (tC (.bl true)))
theorem qQ {K:PySem.W.Frag} {c:RCl RK} {vs:List V} {H:Hp} {Q:VK} {E:XK} (h:fh K c vs H Q E):fi K c { nx:=fun _ H'=>Q .non H',rt:=Q } (start ["self"] vs) H:=by
 obtain ⟨r,p,ws,cs,n,m,rfl,x,q⟩:=h
 show fi K c _ [some (.ref r)] H
 unfold fi
 walk_at "w"
 exact q
def cV (K:PySem.W.Frag) (c:RCl RK):Sp:=dk K c .Rising
theorem nr {K:PySem.W.Frag} {c:RCl RK} {vs:List V} {H:Hp} {Q:VK} {E:XK} (h:cV K c vs H Q E):vs.length=1:=by
 obtain ⟨_,_,_,_,_,_,rfl,_⟩:=h; rfl
def cW (K:PySem.W.Frag) (c:RCl RK):TS:=
 (tRet (tC (.bl true)))
theorem nt {K:PySem.W.Frag} {c:RCl RK} {vs:List V} {H:Hp} {Q:VK} {E:XK} (h:cV K c vs H Q E):cW K c { nx:=fun _ H'=>Q .non H',rt:=Q } (start ["self"] vs) H:=by
 obtain ⟨r,p,ws,cs,n,m,rfl,x,q⟩:=h
 show cW K c _ [some (.ref r)] H
 unfold cW
 walk_at "w"
 exact q
def d4 (K:PySem.W.Frag) (c:RCl RK):Sp:=dk K c .Seen
theorem pU {K:PySem.W.Frag} {c:RCl RK} {vs:List V} {H:Hp} {Q:VK} {E:XK} (h:d4 K c vs H Q E):vs.length=1:=by
 obtain ⟨_,_,_,_,_,_,rfl,_⟩:=h; rfl
def d5 (K:PySem.W.Frag) (c:RCl RK):TS:=
 (tRet (tC (.bl true)))
theorem pV {K:PySem.W.Frag} {c:RCl RK} {vs:List V} {H:Hp} {Q:VK} {E:XK} (h:d4 K c vs H Q E):d5 K c { nx:=fun _ H'=>Q .non H',rt:=Q } (start ["self"] vs) H:=by
 obtain ⟨r,p,ws,cs,n,m,rfl,x,q⟩:=h
 show d5 K c _ [some (.ref r)] H
 unfold d5
 walk_at "w"
 exact q
def lnW (k:RK) (n m:Nat) (ns:List Nat):List (List Nat):=rowW k n m (if allK k then [] else ns)
def fj (K:PySem.W.Frag):Sp:=fun vs H Q _=>∃ (k:RK) (n m:Nat) (C:Addr) (ns:List Nat),vs=[.str (tx (nmC k)),.int (n:Int),.int (m:Int),.ref C]∧n≤99∧m≤99∧H C=some (.lst ((ns.map fun (x:Nat)=>(x:Int)).map V.int))∧ns.length≤16∧(∀ x∈ns,x < 100)∧∀ H',Same H H'→Q (.str (tx (catL 32 (lnW k n m ns)))) H'
theorem vH {K:PySem.W.Frag} {vs:List V} {H:Hp} {Q:VK} {E:XK} (h:fj K vs H Q E):vs.length=4:=by
 obtain ⟨_,_,_,_,_,rfl,_⟩:=h; rfl
def jb (K:PySem.W.Frag):TS:=
 (tRet (tBM K "str" fJ (tC (.str (tx [32]))) (tCons (tVar 4) tNil)))
def jc (K:PySem.W.Frag):TS:=
 (tSeq (tIfS (tB (tInG bZ true (tVar 0))) (tDrop (tBM K "list" mQ (tVar 4) (tCons (tComp [none,none] (iList K (tVar 3)) (gName 1) tTrue (tCB kStr (tCons (tVar 1) tNil))) tNil))) tNext)
  (jb K))
def jd (K:PySem.W.Frag):TS:=
 (tSeq (tIfS (tB (tInG cw false (tVar 0))) (tDrop (tBM K "list" dC (tVar 4) (tCons (tCB kStr (tCons (tVar 2) tNil)) tNil))) tNext)
  (jc K))
def lU (K:PySem.W.Frag):TS:=
 (tSeq (tIfS (tB (tInG cf false (tVar 0))) (tDrop (tBM K "list" dC (tVar 4) (tCons (tCB kStr (tCons (tVar 1) tNil)) tNil))) tNext)
  (jd K))
def jM (K:PySem.W.Frag):TS:=
 (tSeq (tAsg (tLst (tCons (tVar 0) tNil)) (gName 4))
  (lU K))
theorem t6 (k:RK):(nmC k).length≤20:=by cases k <;> decide
theorem lV {K:PySem.W.Frag} {H:Hp} {Q:VK} {W:Addr} {ws:List (List Nat)} {v0 v1 v2 v3:Option V} (eW:H W=some (.lst ((ws.map tx).map V.str))) (wn:ws.length≤100) (wl:∀ x∈ws,x.length≤20) (q:Q (.str (tx (catL 32 ws))) H):
  jb K { nx:=fun _ H'=>Q .non H',rt:=Q } [v0,v1,v2,v3,some (.ref W)] H:=by
 unfold jb
 walk_at "w"
 refine ⟨lB,?_⟩
 refine qp eW (gK (by rw [List.length_map]; omega) (fun t ht=>by
  obtain ⟨z,hz,rfl⟩:=List.mem_map.mp ht
  rw [bT]; have:=wl z hz; omega) (by rw [bT]; decide)) ?_
 rw [lD,jV]
 exact q
theorem oO {ws xs:List (List Nat)} (h1:∀ x∈ws,x.length≤20) (h2:∀ x∈xs,x.length≤20):∀ x∈ws++xs,x.length≤20:=fun x hx=>(List.mem_append.mp hx).elim (h1 x) (h2 x)
theorem zF {n:Nat}:∀ x∈[numC n],x.length≤20:=fun x hx=>by
 rw [List.mem_singleton.mp hx]; exact Nat.le_trans cB (by decide)
theorem lW {K:PySem.W.Frag} {H:Hp} {Q:VK} {k:RK} {W C:Addr} {ws:List (List Nat)} {ns:List Nat} {v1 v2:Option V} (eW:H W=some (.lst ((ws.map tx).map V.str))) (eC:H C=some (.lst ((ns.map fun (x:Nat)=>(x:Int)).map V.int))) (hn:ns.length≤16) (hx:∀ x∈ns,x < 100) (wn:ws.length≤10) (wl:∀ x∈ws,x.length≤20) {H0:Hp} (s0:Same H0 H) (hW:H0 W=none) (q:∀ H',Same H0 H'→Q (.str (tx (catL 32 (ws++(if allK k then [] else ns).map numC)))) H'):
  jc K { nx:=fun _ H'=>Q .non H',rt:=Q } [some (.str (tx (nmC k))),v1,v2,some (.ref C),some (.ref W)] H:=by
 unfold jc
 rw [aB,aJ]
 walk_at "w"
 rw [wT]
 cases ha:allK k with
 | true=>
  rw [ha,if_pos rfl,List.map_nil,List.append_nil] at q
  walk_at "w"
  exact lV eW (by omega) wl (q _ s0)
 | false=>
  rw [ha,if_neg Bool.false_ne_true] at q
  walk_at "w"
  refine ⟨fZ eW,⟨_,SqL.of eC⟩,?_⟩
  refine rH eC (by omega) hx fun l H1 hl s1 el=>?_
  walk_at "w"
  refine xB (s1 _ _ eW) el (by simp; omega) ?_
  have e2:(upd H1 W (.lst ((ws.map tx).map V.str++((ns.map numC).map tx).map V.str))) W=some (.lst (((ws++ns.map numC).map tx).map V.str)):=by rw [ae,List.map_append,List.map_append]
  have s2:=(s0.trans s1).own (o:=.lst ((ws.map tx).map V.str++((ns.map numC).map tx).map V.str)) hW
  generalize upd H1 W (.lst ((ws.map tx).map V.str++((ns.map numC).map tx).map V.str))=H2 at*
  exact lV e2 (by simp; omega) (oO wl fun x hx'=>by
   obtain ⟨y,_,rfl⟩:=List.mem_map.mp hx'
   exact Nat.le_trans cB (by decide)) (q _ s2)
theorem Ac {n:Nat} {H:Hp} {Q:VK} (h:n≤99) (q:Q (.str (tx (numC n))) H):kStr [.int (n:Int)] H Q:=qw (by omega) q
theorem x9 {K:PySem.W.Frag} {H0 H:Hp} {W:Addr} {ws:List (List Nat)} {n:Nat} {D:Ends} {σ:St} {j:Nat} (hσ:σ[4]? =some (some (.ref W))) (hi:σ[j]? =some (some (.int (n:Int)))) (n9:n≤99) (eW:H W=some (.lst ((ws.map tx).map V.str))) (wn:ws.length≤10) (s0:Same H0 H) (hW:H0 W=none)
  (q:∀ H',Same H0 H'→H' W=some (.lst (((ws++[numC n]).map tx).map V.str))→(∀ b,b≠W→H' b=H b)→D.nx σ H'):tDrop (tBM K "list" dC (tVar 4) (tCons (tCB kStr (tCons (tVar j) tNil)) tNil)) D σ H:=by
 simp only [fE,kE,eh,fG,iU,kD]
 refine ⟨_,hσ,fZ eW,_,hi,?_⟩
 refine Ac n9 ?_
 rw [ly eW]
 refine ⟨by simp; exact aR (by omega),q _ (s0.own hW) (by rw [ae]; simp) fun b hb=>ai hb⟩
theorem vI {K:PySem.W.Frag} {vs:List V} {H:Hp} {Q:VK} {E:XK} (h:fj K vs H Q E):jM K { nx:=fun _ H'=>Q .non H',rt:=Q } (start ["name","amount","mark","cells","words"] vs) H:=by
 obtain ⟨k,n,m,C,ns,rfl,n9,m9,hC,hn,hx,q⟩:=h
 show jM K _ [some (.str (tx (nmC k))),some (.int (n:Int)),some (.int (m:Int)),some (.ref C),none] H
 have kl:=t6 k
 unfold jM
 walk_at "w"
 refine ⟨aG (by show (1:Nat)≤1000; decide),fun W hW=>?_⟩
 have s1:Same H (upd H W (.lst [V.str (tx (nmC k))])):=(Same.refl H).laid hW
 have eW:(upd H W (.lst [V.str (tx (nmC k))])) W=some (.lst ((([nmC k]:List (List Nat)).map tx).map V.str)):=ae
 have eC:=s1 _ _ hC
 generalize upd H W (.lst [V.str (tx (nmC k))])=H1 at*
 have nCW:C≠W:=fun e=>by rw [e,hW] at hC; cases hC
 have wl0:∀ x∈[nmC k],x.length≤20:=fun x hx=>by rw [List.mem_singleton.mp hx]; exact kl
 have fin:∀ (ws:List (List Nat)) (H2:Hp),ws.length≤2→(∀ x∈ws,x.length≤20)→Same H H2→H2 W=some (.lst ((ws.map tx).map V.str))→H2 C=some (.lst ((ns.map fun (x:Nat)=>(x:Int)).map V.int))→ws=nmC k::(if numK k then [numC n] else [])→jd K { nx:=fun _ H'=>Q .non H',rt:=Q } [some (.str (tx (nmC k))),some (.int (n:Int)),some (.int (m:Int)),some (.ref C),some (.ref W)] H2:=fun ws H2 l2 wl s2 e2 c2 ew=>by
  unfold jd
  rw [aB,aJ,w_b,ku,eh]
  refine ⟨_,rfl,_,rfl,_,rfl,?_⟩
  rw [if_neg Bool.false_ne_true,wV]
  cases hs:sgnK k with
  | false=>
   refine iteF ?_
   refine lW e2 c2 hn hx (by omega) wl s2 hW fun H' s'=>?_
   have e:ws++(if allK k then [] else ns).map numC=lnW k n m ns:=by rw [ew]; unfold lnW rowW; rw [hs]; simp
   rw [e]; exact q H' s'
  | true=>
   refine iteT ?_
   refine x9 (j:=2) rfl rfl m9 e2 (by omega) s2 hW fun H3 s3 e3 k3=>?_
   refine lW e3 (by rw [k3 _ nCW]; exact c2) hn hx (by simp; omega) (oO wl zF) s3 hW fun H' s'=>?_
   have e:ws++[numC m]++(if allK k then [] else ns).map numC=lnW k n m ns:=by rw [ew]; unfold lnW rowW; rw [hs]; simp
   rw [e]; exact q H' s'
 unfold lU
 rw [aB,aJ,w_b,ku,eh]
 refine ⟨_,rfl,_,rfl,_,rfl,?_⟩
 rw [if_neg Bool.false_ne_true,wU]
 cases hs:numK k with
 | false=>
  refine iteF ?_
  exact fin _ _ (by simp) wl0 s1 eW eC (by rw [hs]; rfl)
 | true=>
  refine iteT ?_
  refine x9 (j:=1) rfl rfl n9 eW (by simp) s1 hW fun H3 s3 e3 k3=>?_
  exact fin _ _ (by simp) (oO wl0 zF) s3 e3 (by rw [k3 _ nCW]; exact eC) (by rw [hs]; rfl)
def mvN (h w mv:Int) (cs:List Int):List Nat:=cs.map fun c=>(mvC h w mv c).toNat
def mvR (h w mv:Int) (ss:List Int) (r:RR):RR:=⟨r.k,r.n,(exI ss (r.m:Int)).toNat,if allK r.k then [] else mvN h w mv r.cs,if allK r.k then r.cs else (mvN h w mv r.cs).map fun (x:Nat)=>(x:Int)⟩
theorem pW {h w m c:Int} (c0:0≤c) (c1:c < h*w):(mvL h w m)[c.toNat]? =some (mvC h w m c):=by
 unfold mvL
 rw [List.getElem?_map,List.getElem?_range (by omega)]
 show some (mvC h w m ((c.toNat:Nat):Int))=_
 rw [show ((c.toNat:Nat):Int)=c by omega]
theorem lq {h w g m c:Int} (F:FlOk h w g) (m0:0≤m) (m8:m < 8) (c0:0≤c) (c1:c < h*w):0≤mvC h w m c∧mvC h w m c < h*w:=by
 have:=(kB F m0 m8).lt _ (List.mem_of_getElem? (pW (m:=m) c0 c1))
 omega
theorem yK {h w g m a b:Int} (F:FlOk h w g) (m0:0≤m) (m8:m < 8) (a0:0≤a) (a1:a < h*w) (b0:0≤b) (b1:b < h*w) (e:mvC h w m a=mvC h w m b):a=b:=by
 have nd:=(kB F m0 m8).nd
 have ea:=pW (m:=m) a0 a1
 have eb:=pW (m:=m) b0 b1
 rw [e] at ea
 obtain ⟨ha,ea⟩:=List.getElem?_eq_some_iff.mp ea
 obtain ⟨hb,eb⟩:=List.getElem?_eq_some_iff.mp eb
 have pw:=List.pairwise_iff_getElem.mp nd
 rcases Nat.lt_trichotomy a.toNat b.toNat with l | l | l
 · exact absurd (ea.trans eb.symm) (pw _ _ ha hb l)
 · omega
 · exact absurd (eb.trans ea.symm) (pw _ _ hb ha l)
theorem RR.in67 {r:RR} {h w g:Int} (O:r.Ok h w g):∀ c∈r.cs,0≤c∧c < h*w:=fun c hc=>by
 cases hk:allK r.k with
 | false=>
  obtain ⟨_,_,lt,_,e⟩:=O.cl.told hk
  rw [e] at hc
  obtain ⟨n,hn,rfl⟩:=List.mem_map.mp hc
  have:=lt n hn
  omega
 | true=>
  rw [(O.cl.all hk).2] at hc
  exact rng0_mem.mp hc
theorem RR.len67 {r:RR} {h w g:Int} (O:r.Ok h w g) (F:FlOk h w g):r.cs.length≤16:=by
 have m16:=F.m
 cases hk:allK r.k with
 | false=>
  obtain ⟨_,l,_,_,e⟩:=O.cl.told hk
  rw [e,List.length_map]; exact l
 | true=>
  rw [(O.cl.all hk).2,lC]; omega
theorem RR.m67 {r:RR} {h w g:Int} (O:r.Ok h w g) (F:FlOk h w g):(r.m:Int)≤g:=by
 have g0:=F.g0
 cases hs:sgnK r.k with
 | true=>exact (O.m0 hs).2
 | false=>rw [O.mz hs]; omega
theorem zG {r:RR} {h w g mv:Int} {ss:List Int} (O:r.Ok h w g) (F:FlOk h w g) (m0:0≤mv) (m8:mv < 8) (X:Exch g ss):(mvR h w mv ss r).Ok (mvH h w mv) (mvW h w mv) g:=by
 have hw:=(vG (m:=mv) F).2
 have m16:=F.m
 have inn:=RR.in67 O
 have im:∀ x∈mvN h w mv r.cs,(x:Int) < h*w:=fun x hx=>by
  obtain ⟨c,hc,rfl⟩:=List.mem_map.mp hx
  have:=lq F m0 m8 (inn c hc).1 (inn c hc).2
  omega
 have g0:=F.g0
 have mg:=RR.m67 O F
 refine ⟨O.k0,O.n0,O.nz,fun hs=>?_,fun hs=>?_,⟨fun hk=>?_,fun hk=>?_⟩,fun x hx=>?_,?_⟩
 · have:=X.at_ (s:=(r.m:Int)) (O.m0 hs).1 (O.m0 hs).2
   show 1≤(((exI ss (r.m:Int)).toNat:Nat):Int)∧(((exI ss (r.m:Int)).toNat:Nat):Int)≤g
   omega
 · show (exI ss (r.m:Int)).toNat=0
   rw [O.mz hs]; rfl
 · have hk':allK r.k=false:=hk
   obtain ⟨ne,l,lt,nd,e⟩:=O.cl.told hk'
   show (if allK r.k then [] else mvN h w mv r.cs)≠[]∧(if allK r.k then [] else mvN h w mv r.cs).length≤16∧(∀ n∈(if allK r.k then [] else mvN h w mv r.cs),(n:Int) < mvH h w mv*mvW h w mv)∧(if allK r.k then [] else mvN h w mv r.cs).Nodup∧(if allK r.k then r.cs else (mvN h w mv r.cs).map fun (x:Nat)=>(x:Int))=(if allK r.k then [] else mvN h w mv r.cs).map fun (n:Nat)=>(n:Int)
   rw [hk',if_neg Bool.false_ne_true,if_neg Bool.false_ne_true,hw]
   refine ⟨fun e0=>ne ?_,by unfold mvN; rw [List.length_map]; exact RR.len67 O F,im,?_,rfl⟩
   · have:r.cs=[]:=List.map_eq_nil_iff.mp e0
     rw [e] at this
     exact List.map_eq_nil_iff.mp this
   · have ndc:r.cs.Nodup:=by
      rw [e]
      exact List.pairwise_map.mpr (nd.imp fun hab he=>hab (by omega))
     unfold mvN
     refine List.pairwise_map.mpr (List.Pairwise.imp_of_mem ?_ ndc)
     intro a b ha hb hab he
     have ia:=inn a ha
     have ib:=inn b hb
     have ca:=lq F m0 m8 ia.1 ia.2
     have cb:=lq F m0 m8 ib.1 ib.2
     exact hab (yK F m0 m8 ia.1 ia.2 ib.1 ib.2 (by omega))
 · have hk':allK r.k=true:=hk
   show (if allK r.k then [] else mvN h w mv r.cs)=[]∧(if allK r.k then r.cs else (mvN h w mv r.cs).map fun (x:Nat)=>(x:Int))=rngL 0 (mvH h w mv*mvW h w mv)
   rw [hk',if_pos rfl,if_pos rfl,hw]
   exact ⟨rfl,(O.cl.all hk').2⟩
 · have hx':x∈(if allK r.k then [] else mvN h w mv r.cs):=hx
   split at hx'
   · cases hx'
   · have:=im x hx'; omega
 · show (if allK r.k then [] else mvN h w mv r.cs).length≤16
   split
   · exact Nat.zero_le _
   · unfold mvN; rw [List.length_map]; exact RR.len67 O F
theorem m5 {r:RR} {h w mv:Int} {ss:List Int}:(mvR h w mv ss r).txt=tx (catL 32 (lnW r.k r.n (exI ss (r.m:Int)).toNat (mvN h w mv r.cs))):=rfl
def cI (K:PySem.W.Frag) (c:RCl RK):Sp:=fun vs H Q _=>∃ (r p Cl S:Addr) (x:RR) (h w g mv:Int) (ss:List Int),vs=[.ref r,.ref Cl,.ref S]∧IsRule H c x.k r p x.ws x.cs x.n x.m∧x.Ok h w g∧FlOk h w g∧H Cl=some (.lst ((mvL h w mv).map V.int))∧H S=some (.lst (ss.map V.int))∧Exch g ss∧0≤mv∧mv < 8∧∀ H',Same H H'→Q (.str (mvR h w mv ss x).txt) H'
theorem sh {K:PySem.W.Frag} {c:RCl RK} {vs:List V} {H:Hp} {Q:VK} {E:XK} (h:cI K c vs H Q E):vs.length=3:=by
 obtain ⟨_,_,_,_,_,_,_,_,_,_,rfl,_⟩:=h; rfl
def fY (K:PySem.W.Frag) (c:RCl RK):TS:=
 (tRet (tCall (fj K) [] E0 (tCons (be c c.ok "name" (mY K c) (tVar 0) tNil) (tCons (be c c.ok "number" (ky K c) (tVar 0) tNil) (tCons (tCall (bV K) [] E0 (tCons (be c c.ok "sign" (mZ K c) (tVar 0) tNil) (tCons (tVar 2) tNil))) (tCons (tComp [none,none,some 1] (iList K (be c c.ok "spots" (lH K c) (tVar 0) tNil)) (gName 1) tTrue (tOp cIx (tVar 2) (tVar 1))) tNil))))))
theorem si {K:PySem.W.Frag} {c:RCl RK} {vs:List V} {H:Hp} {Q:VK} {E:XK} (h:cI K c vs H Q E):fY K c { nx:=fun _ H'=>Q .non H',rt:=Q } (start ["rule","cells","signs"] vs) H:=by
 obtain ⟨r,p,Cl,S,x,h,w,g,mv,ss,rfl,x1,O,F,eC,eS,X,m0,m8,q⟩:=h
 obtain ⟨dx,Wd,Cd,h1,h2,h3⟩:=x1.ex
 have inn:=RR.in67 O
 have mg:=RR.m67 O F
 have g6:=F.g1
 have sl:=X.len
 have m16:=F.m
 have cl16:=RR.len67 O F
 have ml:(mvL h w mv).length=(h*w).toNat:=(kB F m0 m8).len
 show fY K c _ [some (.ref r),some (.ref Cl),some (.ref S)] H
 unfold fY
 walk_at "w"
 refine methE (k:=x.k) rfl x1.ok h1 (by rfl) ?_
 walk_at "w"
 refine ⟨r,p,nmC x.k,_,x.cs,x.n,x.m,rfl,x1,?_⟩
 walk_at "w"
 refine methE (k:=x.k) rfl x1.ok h1 (by rfl) ?_
 walk_at "w"
 refine ⟨r,p,_,x.cs,x.n,x.m,rfl,x1,?_⟩
 walk_at "w"
 refine methE (k:=x.k) rfl x1.ok h1 (by rfl) ?_
 walk_at "w"
 refine ⟨r,p,_,x.cs,x.n,x.m,rfl,x1,?_⟩
 walk_at "w"
 have ex:=X.in0 (s:=(x.m:Int)) (by omega) mg
 refine ⟨S,ss,(x.m:Int),rfl,eS,by omega,by omega,?_⟩
 walk_at "w"
 refine methE (k:=x.k) rfl x1.ok h1 (by rfl) ?_
 walk_at "w"
 refine ⟨r,p,_,x.cs,x.n,x.m,rfl,x1,fun l hl=>?_⟩
 have s1:Same H (upd H l (.lst (x.cs.map V.int))):=(Same.refl H).laid hl
 have el:(upd H l (.lst (x.cs.map V.int))) l=some (.lst (x.cs.map V.int)):=ae
 generalize upd H l (.lst (x.cs.map V.int))=H1 at*
 refine ⟨l,rfl,⟨_,SqL.of el⟩,?_⟩
 refine gJ (xs:=x.cs) (fun _=>true) (fun c=>mvC h w mv c) (by omega) (SqL.of el) ?_ ?_ ?_
 · intro y H2 R hy s2 k2
   exact k2 _ (Same.refl _)
 · intro y H2 Q2 hy _ s2 k2
   have yi:=inn y hy
   show tOp cIx _ _ [none,some (.int y),some (.ref Cl)] H2 Q2
   walk_at "w"
   refine ixI ((s1.trans s2) _ _ eC) yi.1 (by omega) ?_
   rw [List.getD,pW yi.1 yi.2]
   exact k2 _ (Same.refl _)
 · intro T H2 hT s2 eT
   rw [bd] at eT
   have eT2:H2 T=some (.lst (((mvN h w mv x.cs).map fun (n:Nat)=>(n:Int)).map V.int)):=by
    rw [eT]
    unfold mvN
    rw [List.map_map,List.map_map,List.map_map]
    refine congrArg (fun z=>some (HO.lst z)) (List.map_congr_left fun c hc=>?_)
    have:=lq F m0 m8 (inn c hc).1 (inn c hc).2
    show V.int (mvC h w mv c)=V.int (((mvC h w mv c).toNat:Nat):Int)
    rw [show (((mvC h w mv c).toNat:Nat):Int)=mvC h w mv c by omega]
   walk_at "w"
   have e1:exI ss (x.m:Int)=(((exI ss (x.m:Int)).toNat:Nat):Int):=by omega
   refine ⟨x.k,x.n,(exI ss (x.m:Int)).toNat,T,mvN h w mv x.cs,by rw [← e1],O.n0,by omega,eT2,by unfold mvN; rw [List.length_map]; exact cl16,fun y hy=>?_,fun H3 s3=>?_⟩
   · obtain ⟨c,hc,rfl⟩:=List.mem_map.mp hy
     have:=lq F m0 m8 (inn c hc).1 (inn c hc).2
     omega
   · rw [← m5]
     exact q H3 ((s1.trans s2).trans s3)
def recR (rows:List RR):Bool:=rows.any fun r=>recB r.k
def bP (K:PySem.W.Frag) (c:RCl RK) (d:RCl PzK):Sp:=fun vs H Q _=>∃ (P L G:Addr) (h w g:Int) (rows:List RR) (cl:List Int),vs=[.ref P]∧IsPz H c d P L G h w g rows cl∧∀ H',Same H H'→Q (.bl (recR rows)) H'
theorem oP {K:PySem.W.Frag} {c:RCl RK} {d:RCl PzK} {vs:List V} {H:Hp} {Q:VK} {E:XK} (h:bP K c d vs H Q E):vs.length=1:=by
 obtain ⟨_,_,_,_,_,_,_,_,rfl,_⟩:=h; rfl
def dA (K:PySem.W.Frag) (c:RCl RK) (d:RCl PzK):TS:=
 (tRet (tCB kAny (tCons (tComp [none,none] (iList K (be d d.ok "rules" (iF K c d) (tVar 0) tNil)) (gName 1) tTrue (be c c.ok "reckons" (dk K c) (tVar 1) tNil)) tNil)))
theorem oQ {K:PySem.W.Frag} {c:RCl RK} {d:RCl PzK} {vs:List V} {H:Hp} {Q:VK} {E:XK} (h:bP K c d vs H Q E):dA K c d { nx:=fun _ H'=>Q .non H',rt:=Q } (start ["puzzle"] vs) H:=by
 obtain ⟨P,L,G,h,w,g,rows,cl,rfl,X,q⟩:=h
 obtain ⟨dx,p,rs,h1,h2,h3⟩:=X.ex
 have rn:=X.R.n
 show dA K c d _ [some (.ref P)] H
 unfold dA
 walk_at "w"
 refine methE (k:=.Puzzle) rfl X.ok h1 (by rfl) ?_
 walk_at "w"
 refine ⟨P,L,G,h,w,g,rows,cl,rfl,X,fun l p2 rs2 hl hp2 Y=>?_⟩
 have s1:Same H (upd H l (.lst (rs2.map V.ref))):=(Same.refl H).laid hl
 generalize upd H l (.lst (rs2.map V.ref))=H1 at*
 have yl:=Y.len
 refine ⟨l,rfl,⟨_,SqL.of Y.top⟩,?_⟩
 refine bB (xs:=rs2.map V.ref) (fun _=>true) (fun i=>.bl (recB ((rows[i]?.map RR.k).getD .Rule))) (by rw [List.length_map]; omega) (SqL.of Y.top) ?_ ?_ ?_
 · intro i y H2 R hy s2 k2
   exact k2 _ (Same.refl _)
 · intro i y H2 Q2 hy hb s2 k2
   obtain ⟨b,hb2,rfl⟩:=nO hy
   have hi:i < rs2.length:=(List.getElem?_eq_some_iff.mp hb2).1
   have er:rows[i]? =some rows[i]:=List.getElem?_eq_getElem (by omega)
   have z:=(Y.at_ i b _ hb2 er).same s2
   rw [er] at k2
   obtain ⟨dz,Wz,Cz,z1,z2,z3⟩:=z.ex
   show be c c.ok _ _ _ _ [none,some (.ref b)] H2 Q2
   refine methE (k:=rows[i].k) rfl z.ok z1 (by rfl) ?_
   walk_at "w"
   exact ⟨b,p2,_,_,_,_,rfl,z,k2 _ (Same.refl _)⟩
 · intro T H2 hT s2 eT
   have et:((List.range (rs2.map V.ref).length).filter fun _=>true).map (fun i=>V.bl (recB ((rows[i]?.map RR.k).getD .Rule)))=(rows.map fun r=>recB r.k).map V.bl:=by
    rw [bd,List.length_map,List.map_map,yl]
    refine List.ext_getElem (by simp) fun i h1 h2=>?_
    have hi:i < rows.length:=by simpa using h2
    simp [List.getElem?_eq_getElem hi]
   rw [et] at eT
   refine x4 eT ?_
   have ea:(rows.map fun r=>recB r.k).any id=recR rows:=by unfold recR; rw [List.any_map]; rfl
   rw [ea]
   exact q _ (s1.trans s2)
end L2
namespace L2
open PySem PySem.Builtin PySem.Builtin.Str
end L2
namespace L2
open PySem PySem.Spec PyProof.Rows
local macro_rules | `(tactic| walk_at "w")=>`(tactic| (first | simp only [aB,lh,ku,iD,li,jW,jX,mX,lE,lb,mV,if_true,if_false,Bool.false_eq_true,decide_true,decide_false,jS,jT,mT,ir,gj,jQ,la,jR,iq,k8,k9,ip,mR,iu,iw,iz,iA,iB,iC,iy,lc,le,lf,k7,mS,Bool.not_true,Bool.not_false,aX,jo,bY,eh,w_c,kC,iT,gu,fE,fF,w_b,w_not,jp,lx,gw,gy,jq,iU,fG,kD,gz,jr,js,kE,jt,fH,gA,gB,gD,ei,eu,dF,df,dg,cK,ju,jv,jw,jx,jy,jz,jA,jB,jC,jD,jE,jF,lz,gE,di,gF,lA,gG,eE,dj,jG,jH,gH,fI,gI,
 List.getElem?_cons_zero,List.getElem?_cons_succ,Option.some.injEq,exists_eq_left',exists_eq_left,List.set_cons_zero,List.set_cons_succ,cO,V.int.injEq,V.bl.injEq,V.ref.injEq,V.str.injEq,List.append_nil,List.nil_append,List.cons_append] | dsimp only | skip))
def MvGo (g mv:Int) (ss:List Int) (rows:List RR):Prop:=(0≤mv∧mv < 8)∧exOk g ss=true∧(ss=plnL g∨recR rows=false)
def bQ (K:PySem.W.Frag) (c:RCl RK) (d:RCl PzK):Sp:=fun vs H Q E=>∃ (P L G:Addr) (h w g mv:Int) (v:V) (ss:List Int) (rows:List RR) (cl:List Int),vs=[.ref P,.int mv,v]∧IsPz H c d P L G h w g rows cl∧ExV H v g ss∧
 (MvGo g mv ss rows→∀ (P2 L2 G2:Addr) (H':Hp),Same H H'→IsPz H' c d P2 L2 G2 (mvH h w mv) (mvW h w mv) g (rows.map (mvR h w mv ss)) (mvF h w mv ss cl)→Q (.ref P2) H')∧
 (¬ MvGo g mv ss rows→∀ H',Same H H'→∀ C,Glb K "NoMove" C→E (.ref C) none H')
theorem xW {K:PySem.W.Frag} {c:RCl RK} {d:RCl PzK} {vs:List V} {H:Hp} {Q:VK} {E:XK} (h:bQ K c d vs H Q E):vs.length=3:=by
 obtain ⟨_,_,_,_,_,_,_,_,_,_,_,rfl,_⟩:=h; rfl
def nS (K:PySem.W.Frag) (c:RCl RK) (d:RCl PzK) (a:EA) (E:XK):TS:=
 (tRet (tMake (d.A .Puzzle) (aM K c d) [] E0 (tCons (tCall (cp K) [] E (tCons (tVar 3) (tCons (tVar 1) tNil))) (tCons (tVar 6) (tCons (tCall (bu K) [] E (tCons (tVar 3) (tCons (be d d.ok "clues" (cQ K c d) (tVar 0) tNil) (tCons (tVar 1) (tCons (tVar 5) tNil))))) tNil)))))
def i0 (K:PySem.W.Frag) (c:RCl RK) (d:RCl PzK) (a:EA) (E:XK):TS:=
 (tSeq (sComp 6 [none,none,some 4,some 5] (iList K (be d d.ok "rules" (iF K c d) (tVar 0) tNil)) (gName 1) tTrue (tCall (cI K c) [] E0 (tCons (tVar 1) (tCons (tVar 2) (tCons (tVar 3) tNil)))))
  (nS K c d a E))
def kI (K:PySem.W.Frag) (c:RCl RK) (d:RCl PzK) (a:EA) (E:XK):TS:=
 (tSeq (tIfS (tAnd (tTest (tOp (cNe K) (tVar 5) (tCall (aN K) [] E0 (tCons (tVar 3) tNil)))) (tB (tCall (bP K c d) [] E0 (tCons (tVar 0) tNil)))) (mf E a.NoMove (tCons (tC (.str (tx [115,105,103,110,115,32,97,114,101,32,110,111,116,32,101,120,99,104,97,110,103,101,100,32,119,104,101,114,101,32,97,32,114,117,108,101,32,114,101,99,107,111,110,115,32,119,105,116,104,32,116,104,101,109]))) tNil)) tNext)
  (i0 K c d a E))
def lL (K:PySem.W.Frag) (c:RCl RK) (d:RCl PzK) (a:EA) (E:XK):TS:=
 (tSeq (tAsg (be d d.ok "place" (iE K c d) (tVar 0) tNil) (gName 3))
  (tSeq (tAsg (tCall (bw K) [] E (tCons (tVar 3) (tCons (tVar 1) tNil))) (gName 4))
  (tSeq (tAsg (tCall (bx K) [] E (tCons (tVar 3) (tCons (tVar 2) tNil))) (gName 5))
  (kI K c d a E))))
theorem uB {K:PySem.W.Frag} {c:RCl RK} {d:RCl PzK} {a:EA} {H:Hp} {Q:VK} {E:XK} {P L G p Cl S:Addr} {h w g mv:Int} {v2:Option V} {ss:List Int} {rows:List RR} {cl:List Int} (X:IsPz H c d P L G h w g rows cl) (hp:IsFl H p h w g) (eC:H Cl=some (.lst ((mvL h w mv).map V.int))) (eS:H S=some (.lst (ss.map V.int))) (sl6:ss.length < 64) (m0:0≤mv) (m8:mv < 8) (ok:exOk g ss=true)
  (q:∀ (P2 L2 G2:Addr) (H':Hp),Same H H'→IsPz H' c d P2 L2 G2 (mvH h w mv) (mvW h w mv) g (rows.map (mvR h w mv ss)) (mvF h w mv ss cl)→Q (.ref P2) H'):
  i0 K c d a E { nx:=fun _ H'=>Q .non H',rt:=Q } [some (.ref P),some (.int mv),v2,some (.ref p),some (.ref Cl),some (.ref S),none] H:=by
 obtain ⟨dx,p0,rs,h1,h2,h3⟩:=X.ex
 have F:=X.R.F
 have Z:Exch g ss:=⟨List.isPerm_iff.mp ok,by have:=F.g0; omega⟩
 have rn:=X.R.n
 unfold i0
 walk_at "w"
 refine methE (k:=.Puzzle) rfl X.ok h1 (by rfl) ?_
 walk_at "w"
 refine ⟨P,L,G,h,w,g,rows,cl,rfl,X,fun l p2 rs2 hl hp2 Y=>?_⟩
 have s1:Same H (upd H l (.lst (rs2.map V.ref))):=(Same.refl H).laid hl
 generalize upd H l (.lst (rs2.map V.ref))=H1 at*
 have yl:=Y.len
 refine ⟨l,rfl,⟨_,SqL.of Y.top⟩,?_⟩
 refine bB (xs:=rs2.map V.ref) (fun _=>true) (fun i=>.str ((rows[i]?.map fun r=>(mvR h w mv ss r).txt).getD (tx []))) (by rw [List.length_map]; omega) (SqL.of Y.top) ?_ ?_ ?_
 · intro i y H2 R hy s2 k2
   exact k2 _ (Same.refl _)
 · intro i y H2 Q2 hy hb s2 k2
   obtain ⟨b,hb2,rfl⟩:=nO hy
   have hi:i < rs2.length:=(List.getElem?_eq_some_iff.mp hb2).1
   have er:rows[i]? =some rows[i]:=List.getElem?_eq_getElem (by omega)
   rw [er] at k2
   have s12:=s1.trans s2
   show tCall _ _ _ _ [none,some (.ref b),some (.ref Cl),some (.ref S)] H2 Q2
   walk_at "w"
   exact ⟨b,p2,Cl,S,rows[i],h,w,g,mv,ss,rfl,(Y.at_ i b _ hb2 er).same s2,X.R.ok _ (List.getElem_mem _),F,s12 _ _ eC,s12 _ _ eS,Z,m0,m8,fun H' s3=>k2 H' s3⟩
 · intro T H2 hT s2 eT
   have et:((List.range (rs2.map V.ref).length).filter fun _=>true).map (fun i=>V.str ((rows[i]?.map fun r=>(mvR h w mv ss r).txt).getD (tx [])))=((rows.map (mvR h w mv ss)).map RR.txt).map V.str:=by
    rw [bd,List.length_map,List.map_map,List.map_map,yl]
    refine List.ext_getElem (by simp) fun i h1 h2=>?_
    have hi:i < rows.length:=by simpa using h2
    simp [List.getElem?_eq_getElem hi]
   rw [et] at eT
   have s12:=s1.trans s2
   have X2:=X.same s12
   unfold nS
   walk_at "w"
   refine ⟨p,mv,h,w,g,rfl,s12 _ _ hp,fun _ _ p3 H3 s3 hp3=>?_,fun bad=>absurd ⟨m0,m8⟩ bad⟩
   have X3:=X2.same s3
   obtain ⟨dx3,p03,rs3,h13,_,_⟩:=X3.ex
   walk_at "w"
   refine methE (k:=.Puzzle) rfl X.ok h13 (by rfl) ?_
   walk_at "w"
   refine ⟨P,L,G,h,w,g,rows,cl,rfl,X3,fun f hf=>?_⟩
   have s4:Same H3 (upd H3 f (.lst (cl.map V.int))):=(Same.refl H3).laid hf
   have ef:(upd H3 f (.lst (cl.map V.int))) f=some (.lst (cl.map V.int)):=ae
   generalize upd H3 f (.lst (cl.map V.int))=H4 at*
   have s14:=(s12.trans s3).trans s4
   refine ⟨p,f,h,w,g,mv,_,ss,cl,rfl,s14 _ _ hp,F,ef,X.C.len,X.C.ok,.inr ⟨S,rfl,s14 _ _ eS,sl6⟩,fun _ _ _ fl H5 s5 hfl efl=>?_,fun bad=>absurd ⟨⟨m0,m8⟩,ok⟩ bad⟩
   have hw:=(vG (m:=mv) F).2
   walk_at "w"
   refine wY (rows:=rows.map (mvR h w mv ss)) X.ok ((s4.trans s5) _ _ hp3) (((s3.trans s4).trans s5) _ _ eT) efl ⟨(vG F).1,by rw [List.length_map]; exact rn,fun r hr=>?_,fun r hr=>?_⟩ ⟨by rw [lp,hw]; exact X.C.len,zC F m0 m8 Z X.C.len X.C.ok⟩ fun P2 L2 G2 H6 s6 _ _ _ pz=>q P2 L2 G2 H6 ((s14.trans s5).trans s6) pz
   · obtain ⟨r0,hr0,rfl⟩:=List.mem_map.mp hr
     exact zG (X.R.ok r0 hr0) F m0 m8 Z
   · obtain ⟨r0,hr0,rfl⟩:=List.mem_map.mp hr
     exact X.R.c r0 hr0
theorem xX {K:PySem.W.Frag} {c:RCl RK} {d:RCl PzK} {a:EA} {os:List Addr} {vs:List V} {H:Hp} {Q:VK} {E:XK} (R:lG K a "NoMove" a.NoMove os) (h:bQ K c d vs H Q E):lL K c d a E { nx:=fun _ H'=>Q .non H',rt:=Q } (start ["puzzle","move","signs","floor","cells","exchange","lines"] vs) H:=by
 obtain ⟨P,L,G,h,w,g,mv,v,ss,rows,cl,rfl,X,ex,k1,k2⟩:=h
 obtain ⟨dx,p0,rs,h1,h2,h3⟩:=X.ex
 have F:=X.R.F
 have g0:=F.g0
 have g1:=F.g1
 show lL K c d a E _ [some (.ref P),some (.int mv),some v,none,none,none,none] H
 unfold lL
 walk_at "w"
 refine methE (k:=.Puzzle) rfl X.ok h1 (by rfl) ?_
 walk_at "w"
 refine ⟨P,L,G,h,w,g,rows,cl,rfl,X,fun p hp=>?_⟩
 walk_at "w"
 refine ⟨p,mv,h,w,g,rfl,hp,F,fun m0 m8 Cl H1 s1 hC eC=>?_,fun z D hD=>k2 (fun t=>z t.1) H (Same.refl H) D hD⟩
 walk_at "w"
 refine ⟨p,h,w,g,v,ss,rfl,s1 _ _ hp,by omega,g1,ex.same s1,fun ok S H2 s2 eS=>?_,fun nok H' s' D hD=>k2 (fun t=>nok t.2.1) H' (s1.trans s') D hD⟩
 have s12:=s1.trans s2
 have Z:Exch g ss:=⟨List.isPerm_iff.mp ok,by omega⟩
 have sl:=Z.len
 show kI K c d a E _ [some (.ref P),some (.int mv),some v,some (.ref p),some (.ref Cl),some (.ref S),none] H2
 unfold kI
 rw [aB,aJ]
 walk_at "w"
 refine ⟨p,h,w,g,rfl,s12 _ _ hp,by omega,g1,fun U hU=>?_⟩
 have s3:Same H2 (upd H2 U (.lst ((plnL g).map V.int))):=(Same.refl H2).laid hU
 have eU:(upd H2 U (.lst ((plnL g).map V.int))) U=some (.lst ((plnL g).map V.int)):=ae
 generalize upd H2 U (.lst ((plnL g).map V.int))=H3 at*
 have s13:=s12.trans s3
 dsimp only
 refine xZ (s3 _ _ eS) eU ?_
 have go:∀ H4,Same H3 H4→MvGo g mv ss rows→i0 K c d a E { nx:=fun _ H'=>Q .non H',rt:=Q } [some (.ref P),some (.int mv),some v,some (.ref p),some (.ref Cl),some (.ref S),none] H4:=fun H4 s4 hg=>
  uB (X.same (s13.trans s4)) ((s13.trans s4) _ _ hp) (((s2.trans s3).trans s4) _ _ eC) ((s3.trans s4) _ _ eS) (by omega) m0 m8 ok fun P2 L2 G2 H' s' pz=>k1 hg P2 L2 G2 H' ((s13.trans s4).trans s') pz
 by_cases c1:ss=plnL g
 · rw [decide_eq_true c1]
   refine ⟨_,rfl,?_⟩
   walk_at "w"
   exact go H3 (Same.refl _) ⟨⟨m0,m8⟩,ok,.inl c1⟩
 · rw [decide_eq_false c1]
   refine ⟨_,rfl,?_⟩
   walk_at "w"
   refine ⟨P,L,G,h,w,g,rows,cl,rfl,X.same s13,fun H4 s4=>?_⟩
   cases hb:recR rows with
   | false=>
    refine ⟨false,rfl,?_⟩
    walk_at "w"
    exact go H4 s4 ⟨⟨m0,m8⟩,ok,.inr hb⟩
   | true=>
    refine ⟨true,rfl,?_⟩
    walk_at "w"
    rw [mW]
    walk_at "w"
    exact ⟨aG (by decide),k2 (fun t=>by
     rcases t.2.2 with e | e
     · exact c1 e
     · rw [hb] at e; cases e) H4 (s13.trans s4) _ R.g⟩
theorem pX (s:Str):∀ ws:List Str,inV (.str s) (ws.map V.str)=decide (s∈ws)
 | []=>rfl
 | n::r=>by
  have ih:=pX s r
  unfold inV at ih ⊢
  rw [List.map_cons,List.any_cons,ih]
  show ((n==s)||decide (s∈r))=decide (s∈n::r)
  rw [Bool.eq_iff_iff,Bool.or_eq_true,beq_iff_eq,decide_eq_true_eq,decide_eq_true_eq,List.mem_cons]
  exact ⟨fun h=>h.elim (fun e=>.inl e.symm) .inr,fun h=>h.elim (fun e=>.inl e.symm) .inr⟩
theorem qR {K:PySem.W.Frag} {H:Hp} {Q:VK} {p:Addr} {s:Str} {ws:List Str} (h:H p=some (.tup (ws.map V.str))):cIn K false (.str s) (.ref p) H Q=Q (.bl (decide (s∈ws))) H:=by
 unfold cIn; dsimp only; rw [h]; dsimp only [unD,unS,bnd]
 rw [pX,kr]
 simp [flatV]
theorem RR.mm67 {x:RR} {h w g:Int} (O:x.Ok h w g) (F:FlOk h w g):x.m < 100:=by
 have:=RR.m67 O F
 have:=F.g1
 omega
theorem uX {Q:VK} {H:Hp} {x:RR} {h w g:Int} (O:x.Ok h w g) (F:FlOk h w g) (q:∀ W,H W=none→Q (.ref W) (upd H W (.lst ((x.ws.map tx).map V.str)))):i6 (.str x.txt) [.str (tx [32])] H Q:=by
 have hsp:Txt.split (tx (catL 32 (rowW x.k x.n x.m x.ns))) (tx [32])=(rowW x.k x.n x.m x.ns).map tx:=tG (by simp [rowW]) (rF (by have:=O.n0; omega) (RR.mm67 O F) O.ns0)
 have hl:=kG (k:=x.k) (n:=x.n) (m:=x.m) O.len
 have hl2:=lJ _ hl.2
 show i6 (.str (tx (catL 32 (rowW x.k x.n x.m x.ns)))) [.str (tx [32])] H Q
 rw [uM,hsp]
 exact ⟨by rw [bT]; decide,by rw [bT]; exact Nat.le_of_lt (Nat.lt_of_le_of_lt hl2 (Nat.lt_of_le_of_lt (Nat.mul_le_mul_left 101 hl.1) (by decide))),by rw [List.length_map]; exact aG (by omega),fun W hW=>q W hW⟩
def frN (k:RK):Nat:=1+(if numK k then 1 else 0)+(if k=.Count then 1 else 0)
theorem An (k:RK):(1:Int)+(if decide (tx (nmC k)∈[tx [115,117,109],tx [115,101,101,110]])=true then 1 else 0)+2*(if decide (tx (nmC k)=tx [99,111,117,110,116])=true then 1 else 0)=((frN k:Nat):Int):=by cases k <;> decide+kernel
theorem Ad (k:RK):decide (tx (nmC k)∈[tx [106,111,105,110,101,100],tx [110,111,115,113,117,97,114,101],tx [114,105,110,103]])=allK k:=by cases k <;> decide+kernel
theorem Ae (k:RK):decide (tx (nmC k)=tx [99,111,117,110,116])=decide (k=.Count):=by cases k <;> decide+kernel
theorem Af (k:RK):decide (tx (nmC k)∈[tx [115,117,109],tx [114,105,115,105,110,103],tx [115,101,101,110]])=recB k:=by cases k <;> decide+kernel
def bh (K:PySem.W.Frag):Sp:=fun vs H Q _=>∃ (p S:Addr) (x:RR) (h w g mv:Int) (ss:List Int),vs=[.ref p,.str x.txt,.int mv,.ref S]∧IsFl H p h w g∧FlOk h w g∧x.Ok h w g∧H S=some (.lst (ss.map V.int))∧Exch g ss∧0≤mv∧mv < 8∧∀ H',Same H H'→Q (.str (mvR h w mv ss x).txt) H'
theorem lM {K:PySem.W.Frag} {vs:List V} {H:Hp} {Q:VK} {E:XK} (h:bh K vs H Q E):vs.length=4:=by
 obtain ⟨_,_,_,_,_,_,_,_,rfl,_⟩:=h; rfl
def cy (K:PySem.W.Frag):TS:=
 (tRet (tBM K "str" fJ (tC (.str (tx [32]))) (tCons (tOp cAdd (tSl cP (tVar 4) bq (tPart (tVar 5))) (tComp [none,none,some 0,some 2] (iList K (tSl cP (tVar 4) (tPart (tVar 5)) bq)) (gName 1) tTrue (tCB kStr (tCons (tCall (bU K) [] E0 (tCons (tVar 2) (tCons (tCB fO (tCons (tVar 1) tNil)) (tCons (tVar 3) tNil)))) tNil)))) tNil)))
def fk (K:PySem.W.Frag):TS:=
 (tSeq (tIfS (tTest (tOp (cEq K) (tOp cIx (tVar 4) (tC (.int 0))) (tC (.str (tx [99,111,117,110,116]))))) (tAsg (tCB kStr (tCons (tOp cIx (tVar 3) (tOp cSub (tCB fO (tCons (tOp cIx (tVar 4) (tC (.int 2))) tNil)) (tC (.int 1)))) tNil)) (gSub (tVar 4) (tC (.int 2)) cPut)) tNext)
  (cy K))
def cz (K:PySem.W.Frag):TS:=
 (tSeq (tIfS (tTest (tOp (cIn K false) (tOp cIx (tVar 4) (tC (.int 0))) (tTup (tCons (tC (.str (tx [106,111,105,110,101,100]))) (tCons (tC (.str (tx [110,111,115,113,117,97,114,101]))) (tCons (tC (.str (tx [114,105,110,103]))) tNil)))))) (tRet (tOp cAdd (tOp cAdd (tOp cIx (tVar 4) (tC (.int 0))) (tC (.str (tx [32])))) (tCB kStr (tCons (tOp cIx (tVar 3) (tOp cSub (tCB fO (tCons (tOp cIx (tVar 4) (tC (.int 1))) tNil)) (tC (.int 1)))) tNil)))) tNext)
  (fk K))
def fm (K:PySem.W.Frag):TS:=
 (tSeq (tAsg (tOp cAdd (tOp cAdd (tC (.int 1)) (tCB fO (tCons (tOp (cIn K false) (tOp cIx (tVar 4) (tC (.int 0))) (tTup (tCons (tC (.str (tx [115,117,109]))) (tCons (tC (.str (tx [115,101,101,110]))) tNil)))) tNil))) (tOp cMul (tC (.int 2)) (tCB fO (tCons (tOp (cEq K) (tOp cIx (tVar 4) (tC (.int 0))) (tC (.str (tx [99,111,117,110,116])))) tNil)))) (gName 5))
  (cz K))
def b5 (K:PySem.W.Frag):TS:=
 (tSeq (tAsg (tBM K "str" i6 (tVar 1) (tCons (tC (.str (tx [32]))) tNil)) (gName 4))
  (fm K))
theorem vJ {n:Nat} {H:Hp} {Q:VK} (h:n < 100) (q:Q (.int (n:Int)) H):fO [.str (tx (numC n))] H Q:=⟨n,h,rfl,q⟩
theorem vK {i:Int} (h0:0≤i) (h1:i < 100):Str.ofString (toString i)=tx (numC i.toNat)∧i.natAbs.log2 < 1920:=by
 have e:i=((i.toNat:Nat):Int):=by omega
 have a:=jY (n:=i.toNat) (by omega)
 have b:=j2 (n:=i.toNat) (by omega)
 rw [← e] at a b
 exact ⟨a,b⟩
theorem lX {K:PySem.W.Frag} {H0 H:Hp} {Q:VK} {p W:Addr} {h w g mv:Int} {hd:List (List Nat)} {ns:List Nat} {v1 v3:Option V} (s0:Same H0 H) (hp:IsFl H p h w g) (F:FlOk h w g) (m0:0≤mv) (m8:mv < 8) (eW:H W=some (.lst (((hd++ns.map numC).map tx).map V.str))) (hn:hd.length≤10) (hl:∀ x∈hd,x.length≤20) (nn:ns.length≤16) (ni:∀ x∈ns,(x:Int) < h*w)
  (q:∀ H',Same H0 H'→Q (.str (tx (catL 32 (hd++(ns.map fun (x:Nat)=>(mvC h w mv (x:Int)).toNat).map numC)))) H'):
  cy K { nx:=fun _ H'=>Q .non H',rt:=Q } [some (.ref p),v1,some (.int mv),v3,some (.ref W),some (.int (hd.length:Int))] H:=by
 have m16:=F.m
 unfold cy
 walk_at "w"
 refine ⟨lB,?_⟩
 refine jI eW fun A hA=>?_
 rw [xb,← List.map_take,← List.map_take,List.take_left]
 have s1:Same H (upd H A (.lst ((hd.map tx).map V.str))):=(Same.refl H).laid hA
 have eA:(upd H A (.lst ((hd.map tx).map V.str))) A=some (.lst ((hd.map tx).map V.str)):=ae
 generalize upd H A (.lst ((hd.map tx).map V.str))=H1 at*
 walk_at "w"
 refine jI (s1 _ _ eW) fun B hB=>?_
 rw [oI,← List.map_drop,← List.map_drop,List.drop_left]
 have s2:Same H1 (upd H1 B (.lst (((ns.map numC).map tx).map V.str))):=(Same.refl H1).laid hB
 have eB:(upd H1 B (.lst (((ns.map numC).map tx).map V.str))) B=some (.lst (((ns.map numC).map tx).map V.str)):=ae
 generalize upd H1 B (.lst (((ns.map numC).map tx).map V.str))=H2 at*
 refine ⟨B,rfl,⟨_,SqL.of eB⟩,?_⟩
 refine bB (xs:=((ns.map numC).map tx).map V.str) (fun _=>true) (fun i=>.str (tx (numC (mvC h w mv ((ns.getD i 0:Nat):Int)).toNat))) (by simp; omega) (SqL.of eB) ?_ ?_ ?_
 · intro i y H3 R hy s3 k3
   exact k3 _ (Same.refl _)
 · intro i y H3 Q3 hy _ s3 k3
   rw [List.getElem?_map,List.getElem?_map,List.getElem?_map] at hy
   cases e:ns[i]? with
   | none=>rw [e] at hy; cases hy
   | some n=>
    rw [e] at hy
    cases hy
    have nm:=List.mem_of_getElem? e
    have ni':=ni n nm
    have mi:=lq F m0 m8 (show 0≤(n:Int) by omega) ni'
    have eg:ns.getD i 0=n:=by rw [List.getD,e]; rfl
    rw [eg] at k3
    have t:=vK mi.1 (by omega)
    show tCB kStr _ [none,some (.str (tx (numC n))),some (.ref p),some (.int mv)] H3 Q3
    walk_at "w"
    refine vJ (by omega) ?_
    refine ⟨p,h,w,g,mv,(n:Int),rfl,((s1.trans s2).trans s3) _ _ hp,F,m0,m8,fun H4 s4=>?_⟩
    walk_at "w"
    refine ⟨t.2,?_⟩
    rw [t.1]
    exact k3 _ s4
 · intro T H3 hT s3 eT
   have et:((List.range (((ns.map numC).map tx).map V.str).length).filter fun _=>true).map (fun i=>V.str (tx (numC (mvC h w mv ((ns.getD i 0:Nat):Int)).toNat)))=(((ns.map fun (x:Nat)=>(mvC h w mv (x:Int)).toNat).map numC).map tx).map V.str:=by
    rw [bd,List.length_map,List.length_map,List.length_map,List.map_map,List.map_map,List.map_map]
    refine List.ext_getElem (by simp) fun i h1 h2=>?_
    have hi:i < ns.length:=by simpa using h2
    simp [List.getD,List.getElem?_eq_getElem hi]
   rw [et] at eT
   have s23:=s2.trans s3
   walk_at "w"
   refine i8 (s23 _ _ eA) eT (by simp; omega) fun Z hZ=>?_
   have s4:Same H3 (upd H3 Z (.lst ((hd.map tx).map V.str++(((ns.map fun (x:Nat)=>(mvC h w mv (x:Int)).toNat).map numC).map tx).map V.str))):=(Same.refl H3).laid hZ
   have eZ:(upd H3 Z (.lst ((hd.map tx).map V.str++(((ns.map fun (x:Nat)=>(mvC h w mv (x:Int)).toNat).map numC).map tx).map V.str))) Z=some (.lst (((hd++(ns.map fun (x:Nat)=>(mvC h w mv (x:Int)).toNat).map numC).map tx).map V.str)):=by rw [ae,List.map_append,List.map_append]
   generalize upd H3 Z (.lst ((hd.map tx).map V.str++(((ns.map fun (x:Nat)=>(mvC h w mv (x:Int)).toNat).map numC).map tx).map V.str))=H4 at*
   refine qp eZ (gK (by simp; omega) (fun t ht=>by
    obtain ⟨z,hz,rfl⟩:=List.mem_map.mp ht
    rw [bT]
    rcases List.mem_append.mp hz with hz | hz
    · have:=hl z hz; omega
    · obtain ⟨y,_,rfl⟩:=List.mem_map.mp hz
      exact Nat.le_trans cB (by decide)) (by rw [bT]; decide)) ?_
   rw [lD,jV]
   exact q _ (((s0.trans s1).trans s23).trans s4)
theorem uY {x:RR} {h w g mv:Int} (O:x.Ok h w g) (hk:allK x.k=false):(x.ns.map fun (n:Nat)=>(mvC h w mv (n:Int)).toNat)=mvN h w mv x.cs:=by
 rw [(O.cl.told hk).2.2.2.2]
 unfold mvN
 rw [List.map_map]; rfl
theorem sj {K:PySem.W.Frag} {H0 H:Hp} {Q:VK} {p W S:Addr} {h w g mv:Int} {x:RR} {ss:List Int} {v1:Option V} (s0:Same H0 H) (hW:H0 W=none) (hp:IsFl H0 p h w g) (F:FlOk h w g) (O:x.Ok h w g) (eS:H0 S=some (.lst (ss.map V.int))) (X:Exch g ss) (m0:0≤mv) (m8:mv < 8) (eW:H W=some (.lst ((x.ws.map tx).map V.str)))
  (q:∀ H',Same H0 H'→Q (.str (mvR h w mv ss x).txt) H'):
  cz K { nx:=fun _ H'=>Q .non H',rt:=Q } [some (.ref p),v1,some (.int mv),some (.ref S),some (.ref W),some (.int ((frN x.k:Nat):Int))] H:=by
 have g1:=F.g1
 have sl:=X.len
 have mm:=RR.mm67 O F
 have m16:=F.m
 have kl:=t6 x.k
 have atm:sgnK x.k=true→∀ {Q':VK} {H':Hp},H' S=some (.lst (ss.map V.int))→Q' (.int (exI ss (x.m:Int))) H'→cIx (.ref S) (.int ((x.m:Int) - 1)) H' Q':=fun hs Q' H' e1 q1=>by
  have m1:=O.m0 hs
  refine ixI e1 (by omega) (by omega) ?_
  have e:exI ss (x.m:Int)=ss.getD ((x.m:Int) - 1).toNat 0:=by unfold exI; rw [if_neg (by omega)]
  rw [← e]; exact q1
 have ew0:atI ((x.ws.map tx).map V.str) 0=some (V.str (tx (nmC x.k))):=b8 (j:=0) rfl
 unfold cz
 rw [aB,aJ]
 walk_at "w"
 refine ixL eW ew0 ?_
 refine ⟨aG (by show (3:Nat)≤1000; decide),fun T hT=>?_⟩
 have s1:Same H (upd H T (.tup ([tx [106,111,105,110,101,100],tx [110,111,115,113,117,97,114,101],tx [114,105,110,103]].map V.str))):=(Same.refl H).laid hT
 have eT:(upd H T (.tup ([tx [106,111,105,110,101,100],tx [110,111,115,113,117,97,114,101],tx [114,105,110,103]].map V.str))) T=some (.tup ([tx [106,111,105,110,101,100],tx [110,111,115,113,117,97,114,101],tx [114,105,110,103]].map V.str)):=ae
 show cIn K false (V.str (tx (nmC x.k))) (V.ref T) (upd H T (.tup ([tx [106,111,105,110,101,100],tx [110,111,115,113,117,97,114,101],tx [114,105,110,103]].map V.str))) _
 generalize upd H T (.tup ([tx [106,111,105,110,101,100],tx [110,111,115,113,117,97,114,101],tx [114,105,110,103]].map V.str))=H1 at*
 rw [qR eT,Ad]
 have s01:=s0.trans s1
 cases ha:allK x.k with
 | true=>
  have hs:sgnK x.k=true:=by revert ha; cases x.k <;> intro ha <;> first | rfl | cases ha
  have hk:numK x.k=false:=by revert ha; cases x.k <;> intro ha <;> first | rfl | cases ha
  have en:x.ns=[]:=(O.cl.all ha).1
  have ews:x.ws=[nmC x.k,numC x.m]:=by unfold RR.ws rowW; rw [hk,hs,en]; rfl
  have ew1:atI ((x.ws.map tx).map V.str) 1=some (V.str (tx (numC x.m))):=b8 (j:=1) (by rw [ews]; rfl)
  refine ⟨true,rfl,iteT ?_⟩
  walk_at "w"
  refine ixL (s1 _ _ eW) ew0 ?_
  refine vE (a:=nmC x.k) (b:=[32]) (by omega) (by decide) ?_
  refine ixL (s1 _ _ eW) ew1 ?_
  refine vJ mm ?_
  walk_at "w"
  refine atm hs (s01 _ _ eS) ?_
  have m1:=O.m0 hs
  have xm:=X.at_ (s:=(x.m:Int)) m1.1 m1.2
  have t:=vK (i:=exI ss (x.m:Int)) (by omega) (by omega)
  walk_at "w"
  refine ⟨t.2,?_⟩
  rw [t.1]
  refine vE (by simp; omega) (Nat.le_trans cB (by decide)) ?_
  have e:nmC x.k++[32]++numC (exI ss (x.m:Int)).toNat=catL 32 (lnW x.k x.n (exI ss (x.m:Int)).toNat (mvN h w mv x.cs)):=by
   unfold lnW rowW
   rw [hk,hs,ha]
   show _=nmC x.k++32::numC (exI ss (x.m:Int)).toNat
   simp
  rw [e,← m5]
  exact q _ s01
 | false=>
  obtain ⟨ne,nl,lt,nd,ecs⟩:=O.cl.told ha
  refine ⟨false,rfl,iteF ?_⟩
  unfold fk
  rw [aB,aJ]
  walk_at "w"
  refine ixL (s1 _ _ eW) ew0 ?_
  walk_at "w"
  rw [Ae]
  by_cases hc:x.k=.Count
  · rw [decide_eq_true hc]
    have hs:sgnK x.k=true:=by rw [hc]; rfl
    have hk:numK x.k=true:=by rw [hc]; rfl
    have ews:x.ws=[nmC x.k,numC x.n,numC x.m]++x.ns.map numC:=by unfold RR.ws rowW; rw [hk,hs]; rfl
    have ew2:atI ((x.ws.map tx).map V.str) 2=some (V.str (tx (numC x.m))):=b8 (j:=2) (by rw [ews]; rfl)
    walk_at "w"
    refine ixL (s1 _ _ eW) ew2 ?_
    refine vJ mm ?_
    walk_at "w"
    refine atm hs (s01 _ _ eS) ?_
    have m1:=O.m0 hs
    have xm:=X.at_ (s:=(x.m:Int)) m1.1 m1.2
    have t:=vK (i:=exI ss (x.m:Int)) (by omega) (by omega)
    walk_at "w"
    refine ⟨t.2,?_⟩
    rw [t.1]
    refine vo (s1 _ _ eW) (by decide) (by rw [ews]; simp; omega) ?_
    have s2:=s01.own (o:=.lst (((x.ws.map tx).map V.str).set (2:Int).toNat (V.str (tx (numC (exI ss (x.m:Int)).toNat))))) hW
    have e2:(upd H1 W (.lst (((x.ws.map tx).map V.str).set (2:Int).toNat (V.str (tx (numC (exI ss (x.m:Int)).toNat)))))) W=some (.lst ((([nmC x.k,numC x.n,numC (exI ss (x.m:Int)).toNat]++x.ns.map numC).map tx).map V.str)):=by rw [ae,ews]; rfl
    generalize upd H1 W (.lst (((x.ws.map tx).map V.str).set (2:Int).toNat (V.str (tx (numC (exI ss (x.m:Int)).toNat)))))=H2 at*
    have ef:((frN x.k:Nat):Int)=(([nmC x.k,numC x.n,numC (exI ss (x.m:Int)).toNat]:List (List Nat)).length:Int):=by rw [hc]; rfl
    rw [ef]
    refine lX s2 (s2 _ _ hp) F m0 m8 e2 (by simp) (fun y hy=>?_) nl lt fun H' s'=>?_
    · simp only [List.mem_cons,List.not_mem_nil,or_false] at hy
      rcases hy with rfl | rfl | rfl
      · exact kl
      · exact Nat.le_trans cB (by decide)
      · exact Nat.le_trans cB (by decide)
    · rw [uY O ha]
      have e:[nmC x.k,numC x.n,numC (exI ss (x.m:Int)).toNat]++(mvN h w mv x.cs).map numC=lnW x.k x.n (exI ss (x.m:Int)).toNat (mvN h w mv x.cs):=by
       unfold lnW rowW; rw [hk,hs,ha]; rfl
      rw [e,← m5]
      exact q H' s'
  · rw [decide_eq_false hc]
    have hs:sgnK x.k=false:=by revert ha hc; cases x.k <;> intro ha hc <;> first | rfl | exact absurd rfl hc | (cases ha; done)
    have ews:x.ws=(nmC x.k::(if numK x.k then [numC x.n] else []))++x.ns.map numC:=by unfold RR.ws rowW; rw [hs]; simp
    have ef:((frN x.k:Nat):Int)=((nmC x.k::(if numK x.k then [numC x.n] else [])).length:Int):=by unfold frN; rw [if_neg hc]; cases numK x.k <;> rfl
    walk_at "w"
    rw [ef]
    rw [ews] at eW
    refine lX s01 (s01 _ _ hp) F m0 m8 (s1 _ _ eW) (by cases numK x.k <;> simp) (fun y hy=>?_) nl lt fun H' s'=>?_
    · rcases List.mem_cons.mp hy with rfl | hy
      · exact kl
      · cases hk:numK x.k with
        | false=>rw [hk] at hy; cases hy
        | true=>rw [hk] at hy; rw [List.mem_singleton.mp hy]; exact Nat.le_trans cB (by decide)
    · rw [uY O ha]
      have e:(nmC x.k::(if numK x.k then [numC x.n] else []))++(mvN h w mv x.cs).map numC=lnW x.k x.n (exI ss (x.m:Int)).toNat (mvN h w mv x.cs):=by
       unfold lnW rowW; rw [hs,ha]; simp
      rw [e,← m5]
      exact q H' s'
theorem lN {K:PySem.W.Frag} {vs:List V} {H:Hp} {Q:VK} {E:XK} (h:bh K vs H Q E):b5 K { nx:=fun _ H'=>Q .non H',rt:=Q } (start ["_law_floor_here","_law_line_here","_law_move","_law_signs","_law_words","_law_front"] vs) H:=by
 obtain ⟨p,S,x,h,w,g,mv,ss,rfl,hp,F,O,eS,X,m0,m8,q⟩:=h
 show b5 K _ [some (.ref p),some (.str x.txt),some (.int mv),some (.ref S),none,none] H
 have ew0:atI ((x.ws.map tx).map V.str) 0=some (V.str (tx (nmC x.k))):=b8 (j:=0) rfl
 unfold b5
 walk_at "w"
 refine ⟨lB,?_⟩
 refine uX O F fun W hW=>?_
 have s1:Same H (upd H W (.lst ((x.ws.map tx).map V.str))):=(Same.refl H).laid hW
 have eW:(upd H W (.lst ((x.ws.map tx).map V.str))) W=some (.lst ((x.ws.map tx).map V.str)):=ae
 generalize upd H W (.lst ((x.ws.map tx).map V.str))=H1 at*
 unfold fm
 walk_at "w"
 refine ixL eW ew0 ?_
 refine ⟨aG (by show (2:Nat)≤1000; decide),fun T hT=>?_⟩
 have s2:Same H1 (upd H1 T (.tup ([tx [115,117,109],tx [115,101,101,110]].map V.str))):=(Same.refl H1).laid hT
 have eT:(upd H1 T (.tup ([tx [115,117,109],tx [115,101,101,110]].map V.str))) T=some (.tup ([tx [115,117,109],tx [115,101,101,110]].map V.str)):=ae
 show cIn K false (V.str (tx (nmC x.k))) (V.ref T) (upd H1 T (.tup ([tx [115,117,109],tx [115,101,101,110]].map V.str))) _
 generalize upd H1 T (.tup ([tx [115,117,109],tx [115,101,101,110]].map V.str))=H2 at*
 rw [qR eT]
 walk_at "w"
 refine ixL (s2 _ _ eW) ew0 ?_
 walk_at "w"
 refine ⟨.inl ⟨by decide,by decide⟩,?_⟩
 rw [An]
 exact sj (s1.trans s2) hW hp F O eS X m0 m8 (s2 _ _ eW) q
def bF (K:PySem.W.Frag):Sp:=fun vs H Q _=>∃ (Ll:Addr) (rows:List RR) (h w g:Int),vs=[.ref Ll]∧H Ll=some (.lst ((rows.map RR.txt).map V.str))∧rows.length≤12∧FlOk h w g∧(∀ r∈rows,r.Ok h w g)∧∀ H',Same H H'→Q (.bl (recR rows)) H'
theorem nu {K:PySem.W.Frag} {vs:List V} {H:Hp} {Q:VK} {E:XK} (h:bF K vs H Q E):vs.length=1:=by
 obtain ⟨_,_,_,_,_,rfl,_⟩:=h; rfl
def cX (K:PySem.W.Frag):TS:=
 (tRet (tOp (cCmp fun i j=>decide (j < i)) (tCB kLen (tCons (tComp [none,none] (iList K (tVar 0)) (gName 1) (tTest (tOp (cIn K false) (tOp cIx (tBM K "str" i6 (tVar 1) (tCons (tC (.str (tx [32]))) tNil)) (tC (.int 0))) (tTup (tCons (tC (.str (tx [115,117,109]))) (tCons (tC (.str (tx [114,105,115,105,110,103]))) (tCons (tC (.str (tx [115,101,101,110]))) tNil)))))) (tVar 1)) tNil)) (tC (.int 0))))
theorem Ag {α:Type} (f:α→Bool):∀ (xs:List α) (b:Nat→Bool),(∀ i x,xs[i]? =some x→b i=f x)→decide (0 < ((List.range xs.length).filter b).length)=xs.any f:=fun xs b hb=>by
 rw [Bool.eq_iff_iff,decide_eq_true_eq,List.any_eq_true]
 constructor
 · intro h
   obtain ⟨i,hi⟩:=List.exists_mem_of_ne_nil _ (List.length_pos_iff.mp h)
   obtain ⟨hi,hbi⟩:=List.mem_filter.mp hi
   have hl:=List.mem_range.mp hi
   have e:=List.getElem?_eq_getElem hl
   exact ⟨xs[i],List.getElem_mem hl,by rw [← hb i _ e]; exact hbi⟩
 · rintro ⟨x,hx,hf⟩
   obtain ⟨i,hi,e⟩:=List.mem_iff_getElem.mp hx
   refine List.length_pos_iff.mpr fun e0=>?_
   have:i∈(List.range xs.length).filter b:=List.mem_filter.mpr ⟨List.mem_range.mpr hi,by rw [hb i x (by rw [List.getElem?_eq_getElem hi,e])]; exact hf⟩
   rw [e0] at this
   cases this
theorem nv {K:PySem.W.Frag} {vs:List V} {H:Hp} {Q:VK} {E:XK} (h:bF K vs H Q E):cX K { nx:=fun _ H'=>Q .non H',rt:=Q } (start ["_law_lines"] vs) H:=by
 obtain ⟨Ll,rows,h,w,g,rfl,hL,rn,F,ok,q⟩:=h
 show cX K _ [some (.ref Ll)] H
 unfold cX
 walk_at "w"
 refine ⟨⟨_,SqL.of hL⟩,?_⟩
 refine bB (xs:=(rows.map RR.txt).map V.str) (fun i=>recB ((rows[i]?.map RR.k).getD .Rule)) (fun i=>.str ((rows[i]?.map RR.txt).getD (tx []))) (by simp; omega) (SqL.of hL) ?_ ?_ ?_
 · intro i y H2 R hy s2 k2
   rw [List.getElem?_map,List.getElem?_map] at hy
   cases e:rows[i]? with
   | none=>rw [e] at hy; cases hy
   | some x=>
    rw [e] at hy k2
    cases hy
    have ew0:atI ((x.ws.map tx).map V.str) 0=some (V.str (tx (nmC x.k))):=b8 (j:=0) rfl
    show tTest _ [none,some (.str x.txt)] H2 R
    walk_at "w"
    refine ⟨lB,?_⟩
    refine uX (ok x (List.mem_of_getElem? e)) F fun W hW=>?_
    have s3:Same H2 (upd H2 W (.lst ((x.ws.map tx).map V.str))):=(Same.refl H2).laid hW
    have eW:(upd H2 W (.lst ((x.ws.map tx).map V.str))) W=some (.lst ((x.ws.map tx).map V.str)):=ae
    generalize upd H2 W (.lst ((x.ws.map tx).map V.str))=H3 at*
    walk_at "w"
    refine ixL eW ew0 ?_
    refine ⟨aG (by show (3:Nat)≤1000; decide),fun T hT=>?_⟩
    have s4:Same H3 (upd H3 T (.tup ([tx [115,117,109],tx [114,105,115,105,110,103],tx [115,101,101,110]].map V.str))):=(Same.refl H3).laid hT
    have eT:(upd H3 T (.tup ([tx [115,117,109],tx [114,105,115,105,110,103],tx [115,101,101,110]].map V.str))) T=some (.tup ([tx [115,117,109],tx [114,105,115,105,110,103],tx [115,101,101,110]].map V.str)):=ae
    show cIn K false (V.str (tx (nmC x.k))) (V.ref T) (upd H3 T (.tup ([tx [115,117,109],tx [114,105,115,105,110,103],tx [115,101,101,110]].map V.str))) _
    generalize upd H3 T (.tup ([tx [115,117,109],tx [114,105,115,105,110,103],tx [115,101,101,110]].map V.str))=H4 at*
    rw [qR eT,Af]
    exact ⟨_,rfl,k2 _ (s3.trans s4)⟩
 · intro i y H2 Q2 hy hb s2 k2
   rw [List.getElem?_map,List.getElem?_map] at hy
   cases e:rows[i]? with
   | none=>rw [e] at hy; cases hy
   | some x=>
    rw [e] at hy k2
    cases hy
    show tVar 1 [none,some (.str x.txt)] H2 Q2
    walk_at "w"
    exact k2 _ (Same.refl _)
 · intro T H2 hT s2 eT
   walk_at "w"
   rw [gC eT]
   walk_at "w"
   rw [List.length_map,List.length_map,List.length_map]
   have e:decide ((0:Int) < ((((List.range rows.length).filter fun i=>recB ((rows[i]?.map RR.k).getD .Rule)).length:Nat):Int))=recR rows:=by
    unfold recR
    rw [← Ag (fun r:RR=>recB r.k) rows (fun i=>recB ((rows[i]?.map RR.k).getD .Rule)) (fun i x hx=>by rw [hx]; rfl),Bool.eq_iff_iff,decide_eq_true_eq,decide_eq_true_eq]
    omega
   rw [e]
   exact q _ s2
def ba (K:PySem.W.Frag) (c:RCl RK) (d:RCl PzK):Sp:=fun vs H Q _=>∃ (P L G:Addr) (h w g mv:Int) (v:V) (ss:List Int) (rows:List RR) (cl:List Int),vs=[.ref P,.int mv,v]∧IsPz H c d P L G h w g rows cl∧ExV H v g ss∧¬ MvGo g mv ss rows∧∀ H',Same H H'→Q (.bl true) H'
theorem nw {K:PySem.W.Frag} {c:RCl RK} {d:RCl PzK} {vs:List V} {H:Hp} {Q:VK} {E:XK} (h:ba K c d vs H Q E):vs.length=3:=by
 obtain ⟨_,_,_,_,_,_,_,_,_,_,_,rfl,_⟩:=h; rfl
def g7 (K:PySem.W.Frag) (c:RCl RK) (d:RCl PzK) (a:EA):TS:=
 (tSeq (tAsg (tLst (tCons (tCB (kIsX K) (tCons (tVar 3) (tCons (tC (.ref a.NoFilling)) tNil))) (tCons (tCB (kIsX K) (tCons (tVar 3) (tCons (tC (.ref a.NoPuzzle)) tNil))) (tCons (tCB (kIsX K) (tCons (tVar 3) (tCons (tC (.ref a.TooMany)) tNil))) tNil)))) (gName 5))
  (tSeq (tAsg (tOp cAdd (tVar 5) (tLst (tCons (tCB (kIsX K) (tCons (tVar 3) (tCons (tC (.ref a.NoRule)) tNil))) (tCons (tNotV (tCB (kIsX K) (tCons (tVar 3) (tCons (tC (.ty "ValueError")) tNil)))) tNil)))) (gName 5))
  (tRet (tAndV (tCB (kIsX K) (tCons (tVar 3) (tCons (tC (.ref a.NoMove)) tNil))) (tNotV (tCB kAny (tCons (tVar 5) tNil)))))))
def cY (K:PySem.W.Frag) (c:RCl RK) (d:RCl PzK) (a:EA):TS:=
 (tSeq (tAsg (tC .non) (gName 3))
  (tSeq (tTryE K (bQ K c d) (tCons (tVar 0) (tCons (tVar 1) (tCons (tVar 2) tNil))) (.ref a.ClueError) 4 (tAsg (tVar 4) (gName 3)))
  (g7 K c d a)))
theorem nA {K:PySem.W.Frag} {c:RCl RK} {d:RCl PzK} {a:EA} {vs:List V} {H:Hp} {Q:VK} {E:XK} (R:lG K a "NoMove" a.NoMove (oz a)) (h:ba K c d vs H Q E):cY K c d a { nx:=fun _ H'=>Q .non H',rt:=Q } (start ["_law_puzzle","_law_move","_law_signs","_law_caught","error","_law_others"] vs) H:=by
 obtain ⟨P,L,G,h,w,g,mv,v,ss,rows,cl,rfl,X,ex0,bad,k⟩:=h
 show cY K c d a _ [some (.ref P),some (.int mv),some v,none,none,none] H
 unfold cY
 walk_at "w"
 refine ⟨fun c d H'=>c=.ref a.NoMove∧Same H H',?_,?_⟩
 · walk_at "w"
   exact ⟨P,L,G,h,w,g,mv,v,ss,rows,cl,rfl,X,ex0,fun hg=>(bad hg).elim,fun _ H' s' C hC=>⟨by rw [Glb.eq hC R.g],s'⟩⟩
 · rintro C H2 ⟨e1,s0⟩
   cases e1
   refine ⟨R.ex,fun x hx=>?_⟩
   have s1:Same H (upd H2 x (.ext (XO x a.NoMove))):=s0.laid hx
   have ex:(upd H2 x (.ext (XO x a.NoMove))) x=some (.ext (XO x a.NoMove)):=ae
   generalize upd H2 x (.ext (XO x a.NoMove))=H3 at*
   have Z:=R.xis
   have no:∀ {H':Hp} {y:Addr} {Q':VK},H' x=some (.ext (XO x a.NoMove))→y∈oz a→Q' (.bl false) H'→kIsX K [.ref x,.ref y] H' Q':=fun hx' hy q=>x3 Z hx' (R.no _ hy) q
   unfold g7
   walk_at "w"
   refine no ex (by simp) ?_
   refine no ex (by simp) ?_
   refine no ex (by simp) ?_
   refine ⟨aG (by show (3:Nat)≤1000; decide),fun l1 n1=>?_⟩
   have s2:Same H3 (upd H3 l1 (.lst [.bl false,.bl false,.bl false])):=(Same.refl H3).laid n1
   have a2:(upd H3 l1 (.lst [.bl false,.bl false,.bl false])) l1=some (.lst (([false,false,false]:List Bool).map V.bl)):=ae
   generalize upd H3 l1 (.lst [.bl false,.bl false,.bl false])=H4 at*
   have e2:=s2 _ _ ex
   walk_at "w"
   refine no e2 (by simp) ?_
   refine zu Z e2 R.ve ?_
   refine ⟨_,rfl,aG (by show (2:Nat)≤1000; decide),fun l2 n2=>?_⟩
   have s3:Same H4 (upd H4 l2 (.lst [.bl false,.bl (!true)])):=(Same.refl H4).laid n2
   have a3:(upd H4 l2 (.lst [.bl false,.bl (!true)])) l2=some (.lst (([false,false]:List Bool).map V.bl)):=ae
   generalize upd H4 l2 (.lst [.bl false,.bl (!true)])=H5 at*
   refine i8 (s3 _ _ a2) a3 (by decide) fun l3 n3=>?_
   have s4:Same H5 (upd H5 l3 (.lst (([false,false,false]:List Bool).map V.bl++([false,false]:List Bool).map V.bl))):=(Same.refl H5).laid n3
   have a4:(upd H5 l3 (.lst (([false,false,false]:List Bool).map V.bl++([false,false]:List Bool).map V.bl))) l3=some (.lst (([false,false,false,false,false]:List Bool).map V.bl)):=ae
   generalize upd H5 l3 (.lst (([false,false,false]:List Bool).map V.bl++([false,false]:List Bool).map V.bl))=H6 at*
   have e4:=(s3.trans s4) _ _ e2
   walk_at "w"
   refine x3 Z e4 xI ?_
   refine ⟨_,rfl,iteT ?_⟩
   walk_at "w"
   refine x4 a4 ⟨_,rfl,?_⟩
   exact k _ (((s1.trans s2).trans s3).trans s4)
def bC (K:PySem.W.Frag) (c:RCl RK) (d:RCl PzK):Sp:=fun vs H Q _=>∃ (N LN GN P L G p S:Addr) (h w g mv:Int) (ss:List Int) (rows:List RR) (cl:List Int),vs=[.ref N,.ref P,.ref p,.int mv,.ref S]∧IsPz H c d N LN GN (mvH h w mv) (mvW h w mv) g (rows.map (mvR h w mv ss)) (mvF h w mv ss cl)∧IsPz H c d P L G h w g rows cl∧IsFl H p h w g∧H S=some (.lst (ss.map V.int))∧Exch g ss∧0≤mv∧mv < 8∧∀ H',Same H H'→Q (.bl true) H'
theorem t7 {K:PySem.W.Frag} {c:RCl RK} {d:RCl PzK} {vs:List V} {H:Hp} {Q:VK} {E:XK} (h:bC K c d vs H Q E):vs.length=5:=by
 obtain ⟨_,_,_,_,_,_,_,_,_,_,_,_,_,_,_,rfl,_⟩:=h; rfl
def g8 (K:PySem.W.Frag) (c:RCl RK) (d:RCl PzK):TS:=
 (tSeq (tIfS (tOr (tNot (tB (tCB (kIsO (d.A .Puzzle)) (tCons (tVar 0) (tCons (tC (.ref (d.A .Puzzle))) tNil))))) (tTest (tOp (cNe K) (be d d.ok "place" (iE K c d) (tVar 0) tNil) (tCall (cq K) [] E0 (tCons (tVar 2) (tCons (tVar 3) tNil)))))) (tRet (tC (.bl false))) tNext)
  (tRet (tAndV (tOp (cEq K) (be d d.ok "lines" (gb K c d) (tVar 0) tNil) (tVar 5)) (tOp (cEq K) (be d d.ok "clues" (cQ K c d) (tVar 0) tNil) (tVar 6)))))
def g9 (K:PySem.W.Frag) (c:RCl RK) (d:RCl PzK):TS:=
 (tSeq (tAsg (tCB kList (tCons (be d d.ok "clues" (cQ K c d) (tVar 1) tNil) tNil)) (gName 6))
  (tSeq (tFor (iEnum K (tCons (be d d.ok "clues" (cQ K c d) (tVar 1) tNil) tNil)) (gTup K 2 (gCons (gName 7) (gCons (gName 8) gNil)))
  (tAsg (tOp cIx (tOp cAdd (tLst (tCons (tC (.int 0)) tNil)) (tVar 4)) (tVar 8)) (gSub (tVar 6) (tCall (bU K) [] E0 (tCons (tVar 2) (tCons (tVar 7) (tCons (tVar 3) tNil)))) cPut)))
  (g8 K c d)))
def hJ (K:PySem.W.Frag) (c:RCl RK) (d:RCl PzK):TS:=
 (tSeq (sComp 5 [none,none,some 2,some 3,some 4] (iList K (be d d.ok "lines" (gb K c d) (tVar 1) tNil)) (gName 1) tTrue (tCall (bh K) [] E0 (tCons (tVar 2) (tCons (tVar 1) (tCons (tVar 3) (tCons (tVar 4) tNil))))))
  (g9 K c d))
theorem vL {K:PySem.W.Frag} {c:RCl RK} {d:RCl PzK} {H:Hp} {Q:VK} {N LN GN p Ll Cl:Addr} {h w g mv:Int} {rows:List RR} {cl:List Int} {v1 v4 v7 v8:Option V} (X:IsPz H c d N LN GN (mvH h w mv) (mvW h w mv) g rows cl) (hp:IsFl H p h w g) (eL:H Ll=some (.lst ((rows.map RR.txt).map V.str))) (eC:H Cl=some (.lst (cl.map V.int))) (q:∀ H',Same H H'→Q (.bl true) H'):
  g8 K c d { nx:=fun _ H'=>Q .non H',rt:=Q } [some (.ref N),v1,some (.ref p),some (.int mv),v4,some (.ref Ll),some (.ref Cl),v7,v8] H:=by
 obtain ⟨dx,p0,rs,h1,h2,h3⟩:=X.ex
 unfold g8
 rw [aB,aJ]
 walk_at "w"
 refine Ab h1 ?_
 walk_at "w"
 refine methE (k:=.Puzzle) rfl X.ok h1 (by rfl) ?_
 walk_at "w"
 refine ⟨N,LN,GN,_,_,g,rows,cl,rfl,X,fun p1 hp1=>?_⟩
 have e1:H p1=some (.tup (([mvH h w mv,mvW h w mv,g]:List Int).map V.int)):=hp1
 walk_at "w"
 refine ⟨p,h,w,g,mv,rfl,hp,fun p2 H1 s1 hp2=>?_⟩
 have e2:H1 p2=some (.tup (([mvH h w mv,mvW h w mv,g]:List Int).map V.int)):=hp2
 walk_at "w"
 refine z4 (s1 _ _ e1) e2 ?_
 rw [decide_eq_true rfl]
 refine ⟨_,rfl,?_⟩
 walk_at "w"
 have X1:=X.same s1
 obtain ⟨dx1,p01,rs1,h11,h21,h31⟩:=X1.ex
 refine methE (k:=.Puzzle) rfl X.ok h11 (by rfl) ?_
 walk_at "w"
 refine ⟨N,LN,GN,_,_,g,rows,cl,rfl,X1,fun l H2 s2 hl el=>?_⟩
 have so:∀ z∈rows.map RR.txt,PyData.strOk z=true:=fun z hz=>by
  obtain ⟨r,hr,rfl⟩:=List.mem_map.mp hz
  exact RR.sok X.R.F (X.R.ok r hr)
 have s12:=s1.trans s2
 walk_at "w"
 refine tS el (s12 _ _ eL) so so ?_
 rw [decide_eq_true rfl]
 refine ⟨true,rfl,?_⟩
 walk_at "w"
 have X2:=X.same s12
 obtain ⟨dx2,p02,rs2,h12,h22,h32⟩:=X2.ex
 refine methE (k:=.Puzzle) rfl X.ok h12 (by rfl) ?_
 walk_at "w"
 refine ⟨N,LN,GN,_,_,g,rows,cl,rfl,X2,fun l2 hl2=>?_⟩
 have s3:Same H2 (upd H2 l2 (.lst (cl.map V.int))):=(Same.refl H2).laid hl2
 have e3:(upd H2 l2 (.lst (cl.map V.int))) l2=some (.lst (cl.map V.int)):=ae
 generalize upd H2 l2 (.lst (cl.map V.int))=H3 at*
 walk_at "w"
 refine ph e3 ((s12.trans s3) _ _ eC) ?_
 rw [decide_eq_true rfl]
 exact q _ (s12.trans s3)
theorem vM {ss:List Int} {z:Int} (z0:0≤z) (z1:z≤(ss.length:Int)):atI ([V.int 0]++ss.map V.int) z=some (V.int (exI ss z)):=by
 obtain ⟨n,rfl⟩:=Int.eq_ofNat_of_zero_le z0
 refine b8 ?_
 cases n with
 | zero=>rfl
 | succ k=>
  show (ss.map V.int)[k]? =_
  have hk:k < ss.length:=by omega
  rw [List.getElem?_map,List.getElem?_eq_getElem hk]
  unfold exI
  rw [if_neg (by omega),show (((k+1:Nat):Int) - 1).toNat=k by omega,List.getD,List.getElem?_eq_getElem hk]
  rfl
theorem vN {K:PySem.W.Frag} {c:RCl RK} {d:RCl PzK} {H:Hp} {Q:VK} {N LN GN P L G p S Ll:Addr} {h w g mv:Int} {ss:List Int} {rows:List RR} {cl:List Int} (XN:IsPz H c d N LN GN (mvH h w mv) (mvW h w mv) g (rows.map (mvR h w mv ss)) (mvF h w mv ss cl)) (X:IsPz H c d P L G h w g rows cl) (hp:IsFl H p h w g) (eS:H S=some (.lst (ss.map V.int))) (Z:Exch g ss) (m0:0≤mv) (m8:mv < 8) (eL:H Ll=some (.lst (((rows.map (mvR h w mv ss)).map RR.txt).map V.str))) (q:∀ H',Same H H'→Q (.bl true) H'):
  g9 K c d { nx:=fun _ H'=>Q .non H',rt:=Q } [some (.ref N),some (.ref P),some (.ref p),some (.int mv),some (.ref S),some (.ref Ll),none,none,none] H:=by
 obtain ⟨dx,p0,rs,h1,h2,h3⟩:=X.ex
 obtain ⟨h0,h1',w0,w1,m16,g0,g1⟩:=id X.R.F
 have F:=X.R.F
 have mpos:0≤h*w:=Int.mul_nonneg (by omega) (by omega)
 have M:=kB F m0 m8
 have hl:=X.C.len
 have hx:=X.C.ok
 have sl:=Z.len
 unfold g9
 walk_at "w"
 refine methE (k:=.Puzzle) rfl X.ok h1 (by rfl) ?_
 walk_at "w"
 refine ⟨P,L,G,h,w,g,rows,cl,rfl,X,fun f hf=>?_⟩
 have sa:Same H (upd H f (.lst (cl.map V.int))):=(Same.refl H).laid hf
 have ef:(upd H f (.lst (cl.map V.int))) f=some (.lst (cl.map V.int)):=ae
 generalize upd H f (.lst (cl.map V.int))=Ha at*
 walk_at "w"
 refine i5 ef fun R hR=>?_
 have s1:Same Ha (upd Ha R (.lst (cl.map V.int))):=(Same.refl Ha).laid hR
 have eR:(upd Ha R (.lst (cl.map V.int))) R=some (.lst (cl.map V.int)):=ae
 generalize upd Ha R (.lst (cl.map V.int))=H1 at*
 have sa1:=sa.trans s1
 have X1:=X.same sa1
 obtain ⟨dx1,p01,rs1,h11,h21,h31⟩:=X1.ex
 have hR0:H R=none:=sa.free hR
 walk_at "w"
 refine methE (k:=.Puzzle) rfl X.ok h11 (by rfl) ?_
 walk_at "w"
 refine ⟨P,L,G,h,w,g,rows,cl,rfl,X1,fun f2 hf2=>?_⟩
 have sb:Same H1 (upd H1 f2 (.lst (cl.map V.int))):=(Same.refl H1).laid hf2
 have ef2:(upd H1 f2 (.lst (cl.map V.int))) f2=some (.lst (cl.map V.int)):=ae
 have nfR:f2≠R:=fun e=>by rw [e,eR] at hf2; cases hf2
 generalize upd H1 f2 (.lst (cl.map V.int))=H2 at*
 have sa2:=sa1.trans sb
 walk_at "w"
 refine ⟨f2,rfl,⟨_,SqL.of ef2⟩,?_⟩
 refine xD (xs:=cl.map V.int) (fun i σ H'=>∃ (v7 v8:Option V),σ=[some (.ref N),some (.ref P),some (.ref p),some (.int mv),some (.ref S),some (.ref Ll),some (.ref R),v7,v8]∧Same H H'∧H' f2=some (.lst (cl.map V.int))∧H' R=some (.lst ((puJ cl (mvL h w mv) (cl.map (exI ss)) i).map V.int)))
  ⟨none,none,rfl,sa2,ef2,sb _ _ eR⟩ (fun i σ H' _ ⟨_,_,_,_,e5,_⟩=>SqL.of e5) ?_ ?_
 · rintro i x T σ H5 hx1 ⟨v7,v8,rfl,s5,ef5,e5⟩ hT
   obtain ⟨z,hz,rfl⟩:=b6 hx1
   have hi:i < cl.length:=(List.getElem?_eq_some_iff.mp hz).1
   have zi:=hx z (List.mem_of_getElem? hz)
   have ec:(mvL h w mv).getD i 0=mvC h w mv (i:Int):=by
    unfold mvL
    rw [List.getD,List.getElem?_map,List.getElem?_range (by omega)]
    rfl
   have ci:=m4 M.lt (show i < (mvL h w mv).length by rw [M.len]; omega)
   rw [ec] at ci
   have s6:Same H5 (upd H5 T (.tup [V.int (i:Int),V.int z])):=(Same.refl H5).laid hT
   refine tw ae rfl ?_
   rw [tz]
   generalize upd H5 T (.tup [V.int (i:Int),V.int z])=H6 at*
   have s56:=s5.trans s6
   walk_at "w"
   refine ⟨aG (by show (1:Nat)≤1000; decide),fun Z0 hZ=>?_⟩
   have s7:Same H6 (upd H6 Z0 (.lst [V.int 0])):=(Same.refl H6).laid hZ
   have eZ:(upd H6 Z0 (.lst [V.int 0])) Z0=some (.lst [V.int 0]):=ae
   generalize upd H6 Z0 (.lst [V.int 0])=H7 at*
   refine i8 eZ ((s56.trans s7) _ _ eS) (by rw [List.length_map]; show 1+_≤1000; omega) fun G0 hG=>?_
   have s8:Same H7 (upd H7 G0 (.lst ([V.int 0]++ss.map V.int))):=(Same.refl H7).laid hG
   have eG:(upd H7 G0 (.lst ([V.int 0]++ss.map V.int))) G0=some (.lst ([V.int 0]++ss.map V.int)):=ae
   generalize upd H7 G0 (.lst ([V.int 0]++ss.map V.int))=H8 at*
   have s58:=(s56.trans s7).trans s8
   refine ixL eG (vM zi.1 (by omega)) ?_
   walk_at "w"
   refine ⟨p,h,w,g,mv,(i:Int),rfl,s58 _ _ hp,F,m0,m8,fun H9 s9=>?_⟩
   refine vo (s9 _ _ (s8 _ _ (s7 _ _ (s6 _ _ e5)))) ci.1 (by rw [List.length_map,iG]; omega) ?_
   refine ⟨_,_,rfl,(s58.trans s9).own hR0,?_,?_⟩
   · rw [ai nfR]
     exact s9 _ _ (s8 _ _ (s7 _ _ (s6 _ _ ef5)))
   · rw [ae]
     show _=some (HO.lst (((puJ cl (mvL h w mv) (cl.map (exI ss)) i).set ((mvL h w mv).getD i 0).toNat ((cl.map (exI ss)).getD i 0)).map V.int))
     rw [List.map_set,ec]
     have e7:(cl.map (exI ss)).getD i 0=exI ss z:=by rw [List.getD,List.getElem?_map,hz]; rfl
     rw [e7]
 · rintro σ H5 ⟨v7,v8,rfl,s5,ef5,e5⟩
   rw [List.length_map,hl] at e5
   exact vL (XN.same s5) (s5 _ _ hp) (s5 _ _ eL) e5 fun H' s6=>q H' (s5.trans s6)
theorem t8 {K:PySem.W.Frag} {c:RCl RK} {d:RCl PzK} {vs:List V} {H:Hp} {Q:VK} {E:XK} (h:bC K c d vs H Q E):hJ K c d { nx:=fun _ H'=>Q .non H',rt:=Q } (start ["_law_found","_law_puzzle","_law_floor_here","_law_move","_law_signs","_law_lines","_law_clues","_law_cell","_law_sign"] vs) H:=by
 obtain ⟨N,LN,GN,P,L,G,p,S,h,w,g,mv,ss,rows,cl,rfl,XN,X,hp,eS,Z,m0,m8,q⟩:=h
 obtain ⟨dx,p0,rs,h1,h2,h3⟩:=X.ex
 have rn:=X.R.n
 show hJ K c d _ [some (.ref N),some (.ref P),some (.ref p),some (.int mv),some (.ref S),none,none,none,none] H
 unfold hJ
 walk_at "w"
 refine methE (k:=.Puzzle) rfl X.ok h1 (by rfl) ?_
 walk_at "w"
 refine ⟨P,L,G,h,w,g,rows,cl,rfl,X,fun l H1 s1 hl el=>?_⟩
 refine ⟨l,rfl,⟨_,SqL.of el⟩,?_⟩
 refine bB (xs:=(rows.map RR.txt).map V.str) (fun _=>true) (fun i=>.str ((rows[i]?.map fun r=>(mvR h w mv ss r).txt).getD (tx []))) (by simp; omega) (SqL.of el) ?_ ?_ ?_
 · intro i y H2 R hy s2 k2
   exact k2 _ (Same.refl _)
 · intro i y H2 Q2 hy hb s2 k2
   rw [List.getElem?_map,List.getElem?_map] at hy
   cases e:rows[i]? with
   | none=>rw [e] at hy; cases hy
   | some x=>
    rw [e] at hy k2
    cases hy
    have s12:=s1.trans s2
    show tCall _ _ _ _ [none,some (.str x.txt),some (.ref p),some (.int mv),some (.ref S)] H2 Q2
    walk_at "w"
    exact ⟨p,S,x,h,w,g,mv,ss,rfl,s12 _ _ hp,X.R.F,X.R.ok x (List.mem_of_getElem? e),s12 _ _ eS,Z,m0,m8,fun H' s3=>k2 H' s3⟩
 · intro T H2 hT s2 eT
   have et:((List.range ((rows.map RR.txt).map V.str).length).filter fun _=>true).map (fun i=>V.str ((rows[i]?.map fun r=>(mvR h w mv ss r).txt).getD (tx [])))=((rows.map (mvR h w mv ss)).map RR.txt).map V.str:=by
    rw [bd,List.length_map,List.length_map,List.map_map,List.map_map]
    refine List.ext_getElem (by simp) fun i h1 h2=>?_
    have hi:i < rows.length:=by simpa using h2
    simp [List.getElem?_eq_getElem hi]
   rw [et] at eT
   have s12:=s1.trans s2
   exact vN (XN.same s12) (X.same s12) (s12 _ _ hp) (s12 _ _ eS) Z m0 m8 eT fun H' s3=>q H' (s12.trans s3)
theorem xi {c:RCl RK} {H1:Hp} {n:Nat} {σ0:St} {te:TE} {fin:Addr→Hp→Prop} {h w g:Int} (F:FlOk h w g) (hn:n≤12) (hk:∀ k,k≠.Rule→c.ok k=true)
  (he:∀ i H Q,i < n→Same H1 H→(∀ (r:RR) (H':Hp),Same H H'→r.Ok h w g→Q (.str r.txt) H')→te (σ0.set 1 (some (.int (0+(i:Int))))) H Q)
  (hd:∀ l rows H,H1 l=none→Same H1 H→H l=some (.lst ((rows.map RR.txt).map V.str))→rows.length=n→j9 c h w g rows→fin l H):
  CompR (Itr 0 n) (gName 1) tTrue te fin σ0 H1:=by
 refine pf (fun l i σ H=>(σ=σ0∨∃ cv,σ=σ0.set 1 cv)∧Same H1 H∧∃ rows:List RR,H l=some (.lst ((rows.map RR.txt).map V.str))∧rows.length=i∧∀ r∈rows,r.Ok h w g) (fun l hl=>⟨.inl rfl,(Same.refl H1).laid hl,[],by rw [ae]; rfl,rfl,fun _ h=>nomatch h⟩) ?_ (fun l σ H hl ⟨_,s1,rows,el,hl2,hP⟩=>hd l rows H hl s1 el hl2 ⟨F,by omega,hP,fun r hr=>hk _ (hP r hr).k0⟩)
 rintro l i σ H hl hi ⟨hσ,s1,rows,el,hl2,hP⟩
 rw [bY]
 have e:σ.set 1 (some (.int (0+(i:Int))))=σ0.set 1 (some (.int (0+(i:Int)))):=by
  rcases hσ with rfl | ⟨cv,rfl⟩
  · rfl
  · exact List.set_set ..
 rw [e,fH,if_pos rfl]
 refine he i H _ hi s1 fun r H2 s2 hr=>⟨_,s2 _ _ el,by simp; exact aR (by omega),.inr ⟨_,rfl⟩,(s1.trans s2).own hl,rows++[r],by rw [ae]; simp,by simp [hl2],fun z hz=>?_⟩
 rcases List.mem_append.mp hz with hz | hz
 · exact hP z hz
 · rw [List.mem_singleton.mp hz]; exact hr
def t9 (K:PySem.W.Frag) (c:RCl RK) (d:RCl PzK):Sp:=fun vs H Q _=>∃ (a:Addr) (ns:List Int),vs=[.ref a]∧SqL K H a (ns.map V.int)∧ns.length≤63∧(∀ k,k≠.Rule→c.ok k=true)∧d.ok .Puzzle=true∧∀ H',Q (.bl true) H'
def qS (K:PySem.W.Frag):Sp:=fun vs H Q _=>∃ (a:Addr) (ns:List Int),vs=[.ref a]∧SqL K H a (ns.map V.int)∧ns.length≤63∧∀ H',Q (.bl true) H'
theorem zH {K:PySem.W.Frag} {c:RCl RK} {d:RCl PzK} {vs:List V} {H:Hp} {Q:VK} {E:XK} (h:t9 K c d vs H Q E):vs.length=1:=by
 obtain ⟨_,_,rfl,_⟩:=h; rfl
def lO (K:PySem.W.Frag) (c:RCl RK) (d:RCl PzK):TS:=
 (tSeq (tIfS (tOr (tNot (tB (tCall (ba K c d) [] E0 (tCons (tVar 5) (tCons (tVar 10) (tCons (tC .non) tNil)))))) (tNot (tB (tCall (ba K c d) [] E0 (tCons (tVar 5) (tCons (tVar 6) (tCons (tVar 11) tNil))))))) (tRet (tC (.bl false))) tNext)
  (tRet (tAndV (tOp (cEq K) (tVar 9) (tVar 8)) (tAndV (tOp (cEq K) (be d d.ok "lines" (gb K c d) (tVar 5) tNil) (tVar 3)) (tOp (cEq K) (be d d.ok "clues" (cQ K c d) (tVar 5) tNil) (tVar 4))))))
def jN (K:PySem.W.Frag) (c:RCl RK) (d:RCl PzK):TS:=
 (tSeq (tAsg (tOp cIx (tLst (tCons (tUn (rU fun i=>.int (-i)) (tC (.int 1))) (tCons (tC (.int 8)) (tCons (tOp cPow (tC (.int 10)) (tC (.int 20))) tNil)))) (tOp cMod (tCall (aP K) [] E0 (tCons (tVar 0) (tCons (tC (.int 14)) tNil))) (tC (.int 3)))) (gName 10))
  (tSeq (tAsg (tCall (bO K) [] E0 (tCons (tVar 8) (tCons (tCall (aP K) [] E0 (tCons (tVar 0) (tCons (tC (.int 15)) tNil))) tNil))) (gName 11))
  (lO K c d)))
def lP (K:PySem.W.Frag) (c:RCl RK) (d:RCl PzK):TS:=
 (tSeq (tIfS (tAnd (tTest (tOp (cNe K) (tVar 8) (tVar 7))) (tB (tCall (bF K) [] E0 (tCons (tVar 3) tNil)))) (tIfS (tNot (tB (tCall (ba K c d) [] E0 (tCons (tVar 5) (tCons (tVar 6) (tCons (tVar 9) tNil)))))) (tRet (tC (.bl false))) tNext) (tIfS (tNot (tB (tCall (bC K c d) [] E0 (tCons (tCall (bQ K c d) [] E0 (tCons (tVar 5) (tCons (tVar 6) (tCons (tVar 9) tNil)))) (tCons (tVar 5) (tCons (tVar 1) (tCons (tVar 6) (tCons (tVar 8) tNil)))))))) (tRet (tC (.bl false))) tNext))
  (jN K c d))
def pY (K:PySem.W.Frag) (c:RCl RK) (d:RCl PzK):TS:=
 (tSeq (tAsg (tCB kList (tCons (tVar 8) tNil)) (gName 9))
  (lP K c d))
def my (K:PySem.W.Frag) (c:RCl RK) (d:RCl PzK):TS:=
 (tSeq (tIfS (tNot (tB (tCall (bC K c d) [] E0 (tCons (tCall (bQ K c d) [.non] E0 (tCons (tVar 5) (tCons (tVar 6) tNil))) (tCons (tVar 5) (tCons (tVar 1) (tCons (tVar 6) (tCons (tVar 7) tNil)))))))) (tRet (tC (.bl false))) tNext)
  (tSeq (tIfS (tNot (tB (tCall (bC K c d) [] E0 (tCons (tCall (bQ K c d) [] E0 (tCons (tVar 5) (tCons (tVar 6) (tCons (tCB kList (tCons (tVar 7) tNil)) tNil)))) (tCons (tVar 5) (tCons (tVar 1) (tCons (tVar 6) (tCons (tVar 7) tNil)))))))) (tRet (tC (.bl false))) tNext)
  (pY K c d)))
def mB (K:PySem.W.Frag) (c:RCl RK) (d:RCl PzK):TS:=
 (tSeq (tAsg (tMake (d.A .Puzzle) (aM K c d) [] E0 (tCons (tVar 1) (tCons (tCB kList (tCons (tVar 3) tNil)) (tCons (tCB kList (tCons (tVar 4) tNil)) tNil)))) (gName 5))
  (tSeq (tAsg (tOp cMod (tCall (aP K) [] E0 (tCons (tVar 0) (tCons (tC (.int 12)) tNil))) (tC (.int 8))) (gName 6))
  (tSeq (tAsg (i7 (tCons (tC (.int 1)) (tCons (tOp cAdd (tOp cIx (tVar 1) (tC (.int 2))) (tC (.int 1))) tNil))) (gName 7))
  (tSeq (tAsg (tCall (bN K) [] E0 (tCons (tCall (aP K) [] E0 (tCons (tVar 0) (tCons (tC (.int 13)) tNil))) (tCons (tOp cIx (tVar 1) (tC (.int 2))) tNil))) (gName 8))
  (my K c d)))))
def pZ (K:PySem.W.Frag) (c:RCl RK) (d:RCl PzK):TS:=
 (tSeq (tAsg (tCall (cA K) [] E0 (tCons (tVar 0) tNil)) (gName 1))
  (tSeq (tAsg (tCall (bE K) [] E0 (tCons (tVar 0) (tCons (tVar 1) (tCons (tC (.int 20)) tNil)))) (gName 2))
  (tSeq (sComp 3 [none,none,some 2,some 1,some 0] (ee (tCons (tOp cMod (tCall (aP K) [] E0 (tCons (tVar 0) (tCons (tC (.int 3)) tNil))) (tC (.int 7))) tNil)) (gName 1) tTrue (tCall (ck K) [] E0 (tCons (tVar 3) (tCons (tVar 2) (tCons (tCall (aP K) [] E0 (tCons (tVar 4) (tCons (tOp cAdd (tC (.int 4)) (tVar 1)) tNil))) tNil)))))
  (tSeq (sComp 4 [none,none,none,some 0] (iEnum K (tCons (tVar 2) tNil)) (gTup K 2 (gCons (gName 1) (gCons (gName 2) gNil))) tTrue (tOp cMul (tVar 2) (tOp cMod (tOp cDiv (tCall (aP K) [] E0 (tCons (tVar 3) (tCons (tOp cAdd (tC (.int 36)) (tVar 1)) tNil))) (tC (.int 7))) (tC (.int 2)))))
  (mB K c d)))))
structure B67 (K:PySem.W.Frag) (H:Hp) (c:RCl RK) (d:RCl PzK) (a p P L G Ll Cl Sm Si:Addr) (ns:List Int) (h w g mv:Int) (rows:List RR) (cl ss:List Int):Prop where
 hS:SqL K H a (ns.map V.int)
 hn:ns.length≤63
 hp:IsFl H p h w g
 pz:IsPz H c d P L G h w g rows cl
 eL:H Ll=some (.lst ((rows.map RR.txt).map V.str))
 eC:H Cl=some (.lst (cl.map V.int))
 eM:H Sm=some (.lst ((plnL g).map V.int))
 eI:H Si=some (.lst (ss.map V.int))
 pe:ss.Perm (plnL g)
 m0:0≤mv
 m8:mv < 8
theorem B67.same {K:PySem.W.Frag} {H H':Hp} {c:RCl RK} {d:RCl PzK} {a p P L G Ll Cl Sm Si:Addr} {ns:List Int} {h w g mv:Int} {rows:List RR} {cl ss:List Int} (X:B67 K H c d a p P L G Ll Cl Sm Si ns h w g mv rows cl ss) (t:Same H H'):B67 K H' c d a p P L G Ll Cl Sm Si ns h w g mv rows cl ss:=
 ⟨t.seq X.hS,X.hn,t _ _ X.hp,X.pz.same t,t _ _ X.eL,t _ _ X.eC,t _ _ X.eM,t _ _ X.eI,X.pe,X.m0,X.m8⟩
theorem vO {K:PySem.W.Frag} {c:RCl RK} {d:RCl PzK} {H:Hp} {Q:VK} {a p P L G Ll Cl Sm Si Hd Bd:Addr} {ns:List Int} {h w g mv od:Int} {rows:List RR} {cl ss bs:List Int} {v2:Option V} (X:B67 K H c d a p P L G Ll Cl Sm Si ns h w g mv rows cl ss) (eH:H Hd=some (.lst (ss.map V.int))) (eB:H Bd=some (.lst (bs.map V.int))) (bl:bs.length < 64) (bn:¬ exOk g bs=true) (ho:¬ (0≤od∧od < 8)) (k:∀ H',Q (.bl true) H'):
  lO K c d { nx:=fun _ H'=>Q .non H',rt:=Q } [some (.ref a),some (.ref p),v2,some (.ref Ll),some (.ref Cl),some (.ref P),some (.int mv),some (.ref Sm),some (.ref Si),some (.ref Hd),some (.int od),some (.ref Bd)] H:=by
 unfold lO
 rw [aB,aJ]
 walk_at "w"
 refine ⟨P,L,G,h,w,g,od,.non,plnL g,rows,cl,rfl,X.pz,.inl ⟨rfl,rfl⟩,fun t=>ho t.1,fun H1 s1=>?_⟩
 walk_at "w"
 refine ⟨P,L,G,h,w,g,mv,_,bs,rows,cl,rfl,X.pz.same s1,.inr ⟨Bd,rfl,s1 _ _ eB,bl⟩,fun t=>bn t.2.1,fun H2 s2=>?_⟩
 have s12:=s1.trans s2
 have X2:=X.same s12
 walk_at "w"
 refine ph (s12 _ _ eH) X2.eI ?_
 rw [decide_eq_true rfl]
 refine ⟨true,rfl,?_⟩
 walk_at "w"
 obtain ⟨dx,p0,rs,h1,h2,h3⟩:=X2.pz.ex
 refine methE (k:=.Puzzle) rfl X2.pz.ok h1 (by rfl) ?_
 walk_at "w"
 refine ⟨P,L,G,h,w,g,rows,cl,rfl,X2.pz,fun l H3 s3 hl el=>?_⟩
 have so:∀ z∈rows.map RR.txt,PyData.strOk z=true:=fun z hz=>by
  obtain ⟨r,hr,rfl⟩:=List.mem_map.mp hz
  exact RR.sok X.pz.R.F (X.pz.R.ok r hr)
 walk_at "w"
 refine tS el (s3 _ _ X2.eL) so so ?_
 rw [decide_eq_true rfl]
 refine ⟨true,rfl,?_⟩
 walk_at "w"
 have X3:=X2.same s3
 obtain ⟨dx3,p03,rs3,h13,_,_⟩:=X3.pz.ex
 refine methE (k:=.Puzzle) rfl X3.pz.ok h13 (by rfl) ?_
 walk_at "w"
 refine ⟨P,L,G,h,w,g,rows,cl,rfl,X3.pz,fun l2 hl2=>?_⟩
 have s4:Same H3 (upd H3 l2 (.lst (cl.map V.int))):=(Same.refl H3).laid hl2
 have e4:(upd H3 l2 (.lst (cl.map V.int))) l2=some (.lst (cl.map V.int)):=ae
 generalize upd H3 l2 (.lst (cl.map V.int))=H4 at*
 walk_at "w"
 refine ph e4 (s4 _ _ X3.eC) ?_
 rw [decide_eq_true rfl]
 exact k _
theorem p5 {K:PySem.W.Frag} {c:RCl RK} {d:RCl PzK} {H:Hp} {Q:VK} {a p P L G Ll Cl Sm Si Hd:Addr} {ns:List Int} {h w g mv:Int} {rows:List RR} {cl ss:List Int} {v2:Option V} (X:B67 K H c d a p P L G Ll Cl Sm Si ns h w g mv rows cl ss) (eH:H Hd=some (.lst (ss.map V.int))) (k:∀ H',Q (.bl true) H'):
  jN K c d { nx:=fun _ H'=>Q .non H',rt:=Q } [some (.ref a),some (.ref p),v2,some (.ref Ll),some (.ref Cl),some (.ref P),some (.int mv),some (.ref Sm),some (.ref Si),some (.ref Hd),none,none] H:=by
 have g0:=X.pz.R.F.g0
 have g1:=X.pz.R.F.g1
 unfold jN
 walk_at "w"
 refine ⟨⟨by decide,by decide,by decide⟩,aG (by show (3:Nat)≤1000; decide),fun U hU=>?_⟩
 have s1:Same H (upd H U (.lst (([-1,8,10^(20:Int).toNat]:List Int).map V.int))):=(Same.refl H).laid hU
 have eU:(upd H U (.lst (([-1,8,10^(20:Int).toNat]:List Int).map V.int))) U=some (.lst (([-1,8,10^(20:Int).toNat]:List Int).map V.int)):=ae
 generalize hHz:upd H U (.lst (([-1,8,10^(20:Int).toNat]:List Int).map V.int))=H1 at*
 have hHz':upd H U (.lst [V.int (-1),V.int 8,V.int (10^(20:Int).toNat)])=H1:=hHz
 rw [hHz']
 refine ⟨a,ns,14,rfl,s1.seq X.hS,X.hn,by decide,by decide,?_⟩
 walk_at "w"
 generalize lawAt ns 14=y at*
 have b0:=Int.emod_nonneg y (show (3:Int)≠0 by decide)
 have b1:=Int.emod_lt_of_pos y (show (0:Int) < 3 by decide)
 refine ⟨by decide,?_⟩
 refine ixI eU b0 (by show _ < (3:Int); omega) ?_
 have ho:¬ (0≤([-1,8,10^(20:Int).toNat]:List Int).getD (y % 3).toNat 0∧([-1,8,10^(20:Int).toNat]:List Int).getD (y % 3).toNat 0 < 8):=by
  have e:(y % 3).toNat=0∨(y % 3).toNat=1∨(y % 3).toNat=2:=by omega
  rcases e with e | e | e <;> rw [e] <;> decide
 generalize ([-1,8,10^(20:Int).toNat]:List Int).getD (y % 3).toNat 0=od at*
 walk_at "w"
 refine ⟨a,ns,15,rfl,s1.seq X.hS,X.hn,by decide,by decide,?_⟩
 walk_at "w"
 refine ⟨Si,ss,g,_,rfl,s1 _ _ X.eI,g0,g1,X.pe,fun Bd H2 bs s2 eB bl bn=>?_⟩
 exact vO ((X.same s1).same s2) ((s1.trans s2) _ _ eH) eB bl bn ho k
theorem vP {K:PySem.W.Frag} {c:RCl RK} {d:RCl PzK} {H:Hp} {Q:VK} {a p P L G Ll Cl Sm Si Hd:Addr} {ns:List Int} {h w g mv:Int} {rows:List RR} {cl ss:List Int} {v2:Option V} (X:B67 K H c d a p P L G Ll Cl Sm Si ns h w g mv rows cl ss) (eH:H Hd=some (.lst (ss.map V.int))) (k:∀ H',Q (.bl true) H'):
  lP K c d { nx:=fun _ H'=>Q .non H',rt:=Q } [some (.ref a),some (.ref p),v2,some (.ref Ll),some (.ref Cl),some (.ref P),some (.int mv),some (.ref Sm),some (.ref Si),some (.ref Hd),none,none] H:=by
 have g0:=X.pz.R.F.g0
 have g1:=X.pz.R.F.g1
 have Z:Exch g ss:=⟨X.pe,by omega⟩
 have sl:=Z.len
 have exo:exOk g ss=true:=List.isPerm_iff.mpr X.pe
 have good:∀ H1,Same H H1→MvGo g mv ss rows→tIfS (tNot (tB (tCall (bC K c d) [] E0 (tCons (tCall (bQ K c d) [] E0 (tCons (tVar 5) (tCons (tVar 6) (tCons (tVar 9) tNil)))) (tCons (tVar 5) (tCons (tVar 1) (tCons (tVar 6) (tCons (tVar 8) tNil)))))))) (tRet (tC (.bl false))) tNext { nx:=jN K c d { nx:=fun _ H'=>Q .non H',rt:=Q },rt:=Q } [some (.ref a),some (.ref p),v2,some (.ref Ll),some (.ref Cl),some (.ref P),some (.int mv),some (.ref Sm),some (.ref Si),some (.ref Hd),none,none] H1:=fun H1 s1 hg=>by
  have X1:=X.same s1
  rw [aJ]
  walk_at "w"
  refine ⟨P,L,G,h,w,g,mv,_,ss,rows,cl,rfl,X1.pz,.inr ⟨Hd,rfl,s1 _ _ eH,by omega⟩,fun _ N LN GN H2 s2 pz=>?_,fun bad=>absurd hg bad⟩
  have X2:=X1.same s2
  walk_at "w"
  refine ⟨N,LN,GN,P,L,G,p,Si,h,w,g,mv,ss,rows,cl,rfl,pz,X2.pz,X2.hp,X2.eI,Z,X.m0,X.m8,fun H3 s3=>?_⟩
  walk_at "w"
  exact p5 (X2.same s3) (((s1.trans s2).trans s3) _ _ eH) k
 unfold lP
 rw [aB,aJ]
 walk_at "w"
 refine xZ X.eI X.eM ?_
 by_cases c1:ss=plnL g
 · rw [decide_eq_true c1]
   refine ⟨_,rfl,?_⟩
   walk_at "w"
   exact good H (Same.refl _) ⟨⟨X.m0,X.m8⟩,exo,.inl c1⟩
 · rw [decide_eq_false c1]
   refine ⟨_,rfl,?_⟩
   walk_at "w"
   refine ⟨Ll,rows,h,w,g,rfl,X.eL,X.pz.R.n,X.pz.R.F,X.pz.R.ok,fun H1 s1=>?_⟩
   cases hb:recR rows with
   | false=>
    refine ⟨false,rfl,iteF ?_⟩
    exact good H1 s1 ⟨⟨X.m0,X.m8⟩,exo,.inr hb⟩
   | true=>
    refine ⟨true,rfl,iteT ?_⟩
    rw [aJ]
    walk_at "w"
    refine ⟨P,L,G,h,w,g,mv,_,ss,rows,cl,rfl,X.pz.same s1,.inr ⟨Hd,rfl,s1 _ _ eH,by omega⟩,fun t=>?_,fun H2 s2=>?_⟩
    · rcases t.2.2 with e | e
      · exact c1 e
      · rw [hb] at e; cases e
    · walk_at "w"
      exact p5 ((X.same s1).same s2) ((s1.trans s2) _ _ eH) k
theorem xj {K:PySem.W.Frag} {c:RCl RK} {d:RCl PzK} {H:Hp} {Q:VK} {a p P L G Ll Cl Sm Si:Addr} {ns:List Int} {h w g mv:Int} {rows:List RR} {cl ss:List Int} {v2:Option V} (X:B67 K H c d a p P L G Ll Cl Sm Si ns h w g mv rows cl ss) (k:∀ H',Q (.bl true) H'):
  my K c d { nx:=fun _ H'=>Q .non H',rt:=Q } [some (.ref a),some (.ref p),v2,some (.ref Ll),some (.ref Cl),some (.ref P),some (.int mv),some (.ref Sm),some (.ref Si),none,none,none] H:=by
 have g0:=X.pz.R.F.g0
 have g1:=X.pz.R.F.g1
 have Z:Exch g (plnL g):=⟨List.Perm.refl _,by omega⟩
 have sl:=Z.len
 have hg:MvGo g mv (plnL g) rows:=⟨⟨X.m0,X.m8⟩,List.isPerm_iff.mpr (List.Perm.refl _),.inl rfl⟩
 unfold my
 rw [aB,aJ]
 walk_at "w"
 refine ⟨P,L,G,h,w,g,mv,.non,plnL g,rows,cl,rfl,X.pz,.inl ⟨rfl,rfl⟩,fun _ N LN GN H2 s2 pz=>?_,fun bad=>absurd hg bad⟩
 have X2:=X.same s2
 walk_at "w"
 refine ⟨N,LN,GN,P,L,G,p,Sm,h,w,g,mv,plnL g,rows,cl,rfl,pz,X2.pz,X2.hp,X2.eM,Z,X.m0,X.m8,fun H3 s3=>?_⟩
 have X3:=X2.same s3
 walk_at "w"
 rw [aJ]
 walk_at "w"
 refine i5 X3.eM fun A hA=>?_
 have s4:Same H3 (upd H3 A (.lst ((plnL g).map V.int))):=(Same.refl H3).laid hA
 have eA:(upd H3 A (.lst ((plnL g).map V.int))) A=some (.lst ((plnL g).map V.int)):=ae
 generalize upd H3 A (.lst ((plnL g).map V.int))=H4 at*
 have X4:=X3.same s4
 walk_at "w"
 refine ⟨P,L,G,h,w,g,mv,_,plnL g,rows,cl,rfl,X4.pz,.inr ⟨A,rfl,eA,by omega⟩,fun _ N2 LN2 GN2 H5 s5 pz2=>?_,fun bad=>absurd hg bad⟩
 have X5:=X4.same s5
 walk_at "w"
 refine ⟨N2,LN2,GN2,P,L,G,p,Sm,h,w,g,mv,plnL g,rows,cl,rfl,pz2,X5.pz,X5.hp,X5.eM,Z,X.m0,X.m8,fun H6 s6=>?_⟩
 have X6:=X5.same s6
 unfold pY
 walk_at "w"
 refine i5 X6.eI fun Hd hHd=>?_
 have s7:Same H6 (upd H6 Hd (.lst (ss.map V.int))):=(Same.refl H6).laid hHd
 have eHd:(upd H6 Hd (.lst (ss.map V.int))) Hd=some (.lst (ss.map V.int)):=ae
 generalize upd H6 Hd (.lst (ss.map V.int))=H7 at*
 exact vP (X6.same s7) eHd k
theorem xk {K:PySem.W.Frag} {c:RCl RK} {d:RCl PzK} {H:Hp} {Q:VK} {a p Ll Cl:Addr} {ns:List Int} {h w g:Int} {rows:List RR} {cl:List Int} {v2:Option V} (hS:SqL K H a (ns.map V.int)) (hn:ns.length≤63) (hp:IsFl H p h w g) (R:j9 c h w g rows) (C:CluesOk h w g cl) (eL:H Ll=some (.lst ((rows.map RR.txt).map V.str))) (eC:H Cl=some (.lst (cl.map V.int))) (ok:d.ok .Puzzle=true) (k:∀ H',Q (.bl true) H'):
  mB K c d { nx:=fun _ H'=>Q .non H',rt:=Q } [some (.ref a),some (.ref p),v2,some (.ref Ll),some (.ref Cl),none,none,none,none,none,none,none] H:=by
 have g0:=R.F.g0
 have g1:=R.F.g1
 unfold mB
 walk_at "w"
 refine i5 eL fun A hA=>?_
 have s1:Same H (upd H A (.lst ((rows.map RR.txt).map V.str))):=(Same.refl H).laid hA
 have eA:(upd H A (.lst ((rows.map RR.txt).map V.str))) A=some (.lst ((rows.map RR.txt).map V.str)):=ae
 generalize upd H A (.lst ((rows.map RR.txt).map V.str))=H1 at*
 refine i5 (s1 _ _ eC) fun B hB=>?_
 have s2:Same H1 (upd H1 B (.lst (cl.map V.int))):=(Same.refl H1).laid hB
 have eB:(upd H1 B (.lst (cl.map V.int))) B=some (.lst (cl.map V.int)):=ae
 generalize upd H1 B (.lst (cl.map V.int))=H2 at*
 have s12:=s1.trans s2
 walk_at "w"
 refine wY ok (s12 _ _ hp) (s2 _ _ eA) eB R C fun P L G H3 s3 _ _ _ pz=>?_
 have s13:=s12.trans s3
 walk_at "w"
 refine ⟨a,ns,12,rfl,s13.seq hS,hn,by decide,by decide,?_⟩
 walk_at "w"
 generalize lawAt ns 12=y at*
 have b0:=Int.emod_nonneg y (show (8:Int)≠0 by decide)
 have b1:=Int.emod_lt_of_pos y (show (0:Int) < 8 by decide)
 refine ⟨by decide,?_⟩
 generalize y % 8=mv at*
 refine ixT (s13 _ _ hp) (v:=V.int g) rfl ?_
 walk_at "w"
 refine ⟨1,g+1,rfl,⟨by omega,by omega,by omega,by omega⟩,fun Sm hSm=>?_⟩
 have s4:Same H3 (upd H3 Sm (.lst ((plnL g).map V.int))):=(Same.refl H3).laid hSm
 have e4:(upd H3 Sm (.lst ((plnL g).map V.int))) Sm=some (.lst ((plnL g).map V.int)):=ae
 generalize hHz:upd H3 Sm (.lst ((plnL g).map V.int))=H4 at*
 have hHz':upd H3 Sm (.lst ((rngL 1 (g+1)).map V.int))=H4:=hHz
 rw [hHz']
 have s14:=s13.trans s4
 refine ⟨a,ns,13,rfl,s14.seq hS,hn,by decide,by decide,?_⟩
 walk_at "w"
 refine ixT (s14 _ _ hp) (v:=V.int g) rfl ?_
 walk_at "w"
 refine ⟨_,g,rfl,by omega,g1,fun Si H5 ss s5 hSi eSi pe=>?_⟩
 have s15:=s14.trans s5
 exact xj ⟨s15.seq hS,hn,s15 _ _ hp,pz.same (s4.trans s5),s15 _ _ eL,s15 _ _ eC,s5 _ _ e4,eSi,pe,b0,b1⟩ k
theorem zI {K:PySem.W.Frag} {c:RCl RK} {d:RCl PzK} {vs:List V} {H:Hp} {Q:VK} {E:XK} (h:t9 K c d vs H Q E):pZ K c d { nx:=fun _ H'=>Q .non H',rt:=Q } (start ["_law_script","_law_floor_here","_law_filling_here","_law_lines","_law_clues","_law_puzzle","_law_move","_law_same","_law_signs","_law_handed","_law_odd","_law_bad"] vs) H:=by
 obtain ⟨a,ns,rfl,hS,hn,hk,ok,k⟩:=h
 show pZ K c d _ [some (.ref a),none,none,none,none,none,none,none,none,none,none,none] H
 unfold pZ
 walk_at "w"
 refine ⟨a,ns,rfl,hS,hn,fun p hp=>?_⟩
 have F:=lawFl ns
 generalize lawH ns=h at*
 generalize lawW ns=w at*
 generalize lawG ns=g at*
 obtain ⟨h0,h1,w0,w1,m16,g0,g1⟩:=id F
 have mpos:0≤h*w:=Int.mul_nonneg (by omega) (by omega)
 have s1:Same H (upd H p (.tup [.int h,.int w,.int g])):=(Same.refl H).laid hp
 have ep:IsFl (upd H p (.tup [.int h,.int w,.int g])) p h w g:=ae
 generalize upd H p (.tup [.int h,.int w,.int g])=H1 at*
 walk_at "w"
 refine ⟨a,p,ns,20,h,w,g,rfl,s1.seq hS,hn,by decide,by decide,ep,F,fun f H2 xs s2 hf ef hl hx=>?_⟩
 have s12:=s1.trans s2
 walk_at "w"
 refine ⟨a,ns,3,rfl,s12.seq hS,hn,by decide,by decide,?_⟩
 walk_at "w"
 have c0:=Int.emod_nonneg (lawAt ns 3) (show (7:Int)≠0 by decide)
 have c1:=Int.emod_lt_of_pos (lawAt ns 3) (show (0:Int) < 7 by decide)
 refine ⟨by decide,_,rfl,by omega,by omega,?_⟩
 refine xi (h:=h) (w:=w) (g:=g) F (by omega) hk ?_ ?_
 · intro i H3 Q3 hi s3 k3
   show tCall _ _ _ _ [none,some (.int (0+(i:Int))),some (.ref f),some (.ref p),some (.ref a)] H3 Q3
   walk_at "w"
   refine ⟨a,ns,_,rfl,(s12.trans s3).seq hS,hn,by omega,by omega,?_⟩
   walk_at "w"
   exact ⟨p,f,h,w,g,_,xs,rfl,⟨s3 _ _ (s2 _ _ ep),F,s3 _ _ ef,hl,fun x hm=>by have:=hx x hm; omega⟩,k3⟩
 · intro Ll rows H3 hLl s3 eLl hlen R
   have s13:=s12.trans s3
   have hx6:∀ x∈xs,0≤x∧x≤g:=fun x hm=>by have:=hx x hm; omega
   walk_at "w"
   have ef3:=s3 _ _ ef
   refine ⟨f,rfl,⟨_,SqL.of ef3⟩,?_⟩
   refine vq (xs:=xs.map V.int) (fun _=>true) (fun i=>.int (xs.getD i 0*(lawAt ns (36+(i:Int)) / 7 % 2))) (by rw [List.length_map]; omega) (by decide) (SqL.of ef3) ?_ ?_ ?_
   · intro i x H1 R hi s1 k1
     exact k1 _ (Same.refl _)
   · intro i x H4 Q4 hi hb s4 k4
     obtain ⟨z,hz,rfl⟩:=b6 hi
     have q1:=k4 _ (Same.refl H4)
     rw [jU hz] at q1
     have hlt:=(List.getElem?_eq_some_iff.mp hz).1
     have hzb:=hx6 z (List.mem_of_getElem? hz)
     show tOp cMul _ _ [none,some (.int (i:Int)),some (.int z),some (.ref a)] H4 Q4
     walk_at "w"
     refine ⟨a,ns,_,rfl,(s13.trans s4).seq hS,hn,by omega,by omega,?_⟩
     walk_at "w"
     exact ⟨⟨by decide,by decide⟩,by decide,.inl ⟨by omega,by omega⟩,q1⟩
   · intro Cl H4 hCl s4 eCl
     have e2:((List.range (xs.map V.int).length).filter fun _=>true).map (fun i=>V.int (xs.getD i 0*(lawAt ns (36+(i:Int)) / 7 % 2)))=((List.range xs.length).map fun i=>xs.getD i 0*(lawAt ns (36+(i:Int)) / 7 % 2)).map V.int:=by
      rw [bd,List.length_map,List.map_map]; rfl
     rw [e2] at eCl
     have s14:=s13.trans s4
     refine xk (s14.seq hS) hn (((s2.trans s3).trans s4) _ _ ep) R ⟨by rw [List.length_map,List.length_range]; exact hl,fun y hy=>?_⟩ (s4 _ _ eLl) eCl ok k
     obtain ⟨i,hi,rfl⟩:=List.mem_map.mp hy
     have hlt:=List.mem_range.mp hi
     have hb:=hx6 _ (List.getElem_mem hlt)
     have eg:xs.getD i 0=xs[i]:=by rw [List.getD,List.getElem?_eq_getElem hlt]; rfl
     rw [eg]
     have h2:lawAt ns (36+(i:Int)) / 7 % 2=0∨lawAt ns (36+(i:Int)) / 7 % 2=1:=by omega
     rcases h2 with e | e <;> rw [e] <;> omega
end L2
namespace L2
open PySem PySem.Spec PyProof.Rows
end L2
namespace L2
open PySem PySem.Spec PyProof.Rows
end L2
namespace L2
open PySem PySem.Spec PyProof.Rows
end L2
namespace L2
open PySem PySem.Spec PyProof.Rows
section
variable {P:Program} {w:World} {K:PySem.W.Frag} {mg:Str→Option Value} {base:Heap} {k:Nat} {x qual y:Str} {st:Stmt} {f:Addr} {fd:FuncData} {sp:Sp}
theorem Ah {a0:Str} (T:FnOk P w K mg base (CX1 P w) k f fd [a0] sp) (F:Fun K x qual st f fd) (hm:mg y=some (.ref f)) (h:∀ (kV doc pm:Value) (an:Option Addr) (cdv ct u0:Value),bindArgs (PySem.W.fnOf x qual (aU st) (aQ st) (ah st) .none kV doc pm an cdv ct) ⟨[u0],[]⟩=pure (([a0]:List Str).zip [u0]):=by intros; rfl):c6 P w K mg base k y [a0] sp:=⟨f,fd,T,hm,F.kp,dy F h⟩
theorem vQ {a0 a1:Str} (T:FnOk P w K mg base (CX1 P w) k f fd [a0,a1] sp) (F:Fun K x qual st f fd) (hm:mg y=some (.ref f)) (h:∀ (kV doc pm:Value) (an:Option Addr) (cdv ct u0 u1:Value),bindArgs (PySem.W.fnOf x qual (aU st) (aQ st) (ah st) .none kV doc pm an cdv ct) ⟨[u0,u1],[]⟩=pure (([a0,a1]:List Str).zip [u0,u1]):=by intros; rfl):c6 P w K mg base k y [a0,a1] sp:=⟨f,fd,T,hm,F.kp,x6 F h⟩
end
end L2
namespace L2
open PySem PySem.Spec PyProof.Rows
structure ErrMx (mg:Str→Option Value) (a:EA):Prop where
 ClueError:mg "ClueError"=some (.ref a.ClueError)
 NoFloor:mg "NoFloor"=some (.ref a.NoFloor)
 NoFilling:mg "NoFilling"=some (.ref a.NoFilling)
 NoRule:mg "NoRule"=some (.ref a.NoRule)
 NoPuzzle:mg "NoPuzzle"=some (.ref a.NoPuzzle)
 TooMany:mg "TooMany"=some (.ref a.TooMany)
 NoMove:mg "NoMove"=some (.ref a.NoMove)
def top (i:Nat):Stmt:=PySem.Challenge.pw_cluemaker_k67_puzzles_moved.main.body.getD i (.Pass ⟨0,0,0,0⟩)
def mtop (i j:Nat):Stmt:=match top i with
 | .ClassDef _ _ _ body _ _ _ _ _ _ _=>body.getD j (.Pass ⟨0,0,0,0⟩)
 | s=>s
abbrev lQ:Stmt:=top 13
theorem sc_is_whole:am ["value"] ["value"] (ah lQ):=⟨rfl,rfl,rfl,by decide+kernel,rfl,by decide+kernel,by decide+kernel⟩
set_option maxHeartbeats 4000000 in
theorem uC {P:Program} {w:World} {K:PySem.W.Frag} {mg:Str→Option Value} {base:Heap} (B:Bt2 mg) {f:Addr} {fd:FuncData} (F:Fun K "is_whole" "is_whole" lQ f fd):FnOk P w K mg base CX0 1 f fd ["value"] (bg K):=by
 refine F.ok sc_is_whole (fun vs H Q E h=>uw h) (fun cdv A outer s H vs Q E hr h=>?_)
 have hu:=hr.units
 have nd:=sc_is_whole.nd
 refine ⟨iY K,?_,ux h⟩
 exact (ag (ak (gp (aA gi rfl B.isinstance_ aS (aa (pv 0) (aa (io (v:=.ty "int") rfl B.int_ j7 rfl) ac))) (kW (sH (aA gi rfl B.isinstance_ aS (aa (pv 0) (aa (io (v:=.ty "bool") rfl B.bool_ yp rfl) ac))))))))
abbrev kb:Stmt:=top 16
theorem sc_many_cells:am ["floor"] ["floor"] (ah kb):=⟨rfl,rfl,rfl,by decide+kernel,rfl,by decide+kernel,by decide+kernel⟩
set_option maxHeartbeats 4000000 in
theorem sk {P:Program} {w:World} {K:PySem.W.Frag} {mg:Str→Option Value} {base:Heap} (B:Bt2 mg) {f:Addr} {fd:FuncData} (F:Fun K "many_cells" "many_cells" kb f fd):FnOk P w K mg base CX0 1 f fd ["floor"] (aO K):=by
 refine F.ok sc_many_cells (fun vs H Q E h=>rP h) (fun cdv A outer s H vs Q E hr h=>?_)
 have hu:=hr.units
 have nd:=sc_many_cells.nd
 refine ⟨fP K,?_,rQ h⟩
 exact (ag (ak (aj bX (ay (aE hu) (pv 0) af (fun _ _=>rfl)) (ay (aE hu) (pv 0) af (fun _ _=>rfl)))))
abbrev mC:Stmt:=top 17
theorem sc_spot_of:am ["floor","cell","wide"] ["floor","cell"] (ah mC):=⟨rfl,rfl,rfl,by decide+kernel,rfl,by decide+kernel,by decide+kernel⟩
set_option maxHeartbeats 4000000 in
theorem vR {P:Program} {w:World} {K:PySem.W.Frag} {mg:Str→Option Value} {base:Heap} (B:Bt2 mg) {f:Addr} {fd:FuncData} (F:Fun K "spot_of" "spot_of" mC f fd):FnOk P w K mg base CX0 1 f fd ["floor","cell"] (eF K):=by
 refine F.ok sc_spot_of (fun vs H Q E h=>vt h) (fun cdv A outer s H vs Q E hr h=>?_)
 have hu:=hr.units
 have nd:=sc_spot_of.nd
 refine ⟨jJ K,?_,vv h⟩
 exact (ad (ao (i:=2) nd rfl (Or.inl rfl) (ay (aE hu) (pv 0) af (fun _ _=>rfl)))
   (ag (ak (d7 (aa (aj gh (pv 1) (pv 2)) (aa (aj aH (pv 1) (pv 2)) ac))))))
abbrev hV:Stmt:=mtop 19 0
theorem sc_Rule___init__:am ["self","floor","words","cells","amount","mark"] ["self","floor","words","cells","amount","mark"] (ah hV):=⟨rfl,rfl,rfl,by decide+kernel,rfl,by decide+kernel,by decide+kernel⟩
set_option maxHeartbeats 4000000 in
theorem oR {P:Program} {w:World} {K:PySem.W.Frag} {mg:Str→Option Value} {base:Heap} (B:Bt2 mg) {c:RCl RK} (FK_c_amount:FldK K c "amount") (FK_c_cells:FldK K c "cells") (FK_c_floor:FldK K c "floor") (FK_c_mark:FldK K c "mark") (FK_c_words:FldK K c "words") {f:Addr} {fd:FuncData} (F:Fun K "__init__" "Rule.__init__" hV f fd):FnOk P w K mg base CX0 1 f fd ["self","floor","words","cells","amount","mark"] (al K c):=by
 refine F.ok sc_Rule___init__ (fun vs H Q E h=>om h) (fun cdv A outer s H vs Q E hr h=>?_)
 have hu:=hr.units
 have nd:=sc_Rule___init__.nd
 refine ⟨dl K c,?_,on h⟩
 exact (ad (gm (pv 0) (pv 1) FK_c_floor)
   (ad (gm (pv 0) (aD nQ rfl B.tuple_ n4 (aa (pv 2) ac)) FK_c_words)
   (ad (gm (pv 0) (aD nQ rfl B.tuple_ n4 (aa (pv 3) ac)) FK_c_cells)
   (ad (gm (pv 0) (pv 4) FK_c_amount)
   (ag (gm (pv 0) (pv 5) FK_c_mark))))))
abbrev kJ:Stmt:=mtop 19 1
theorem sc_Rule_name:am ["self"] ["self"] (ah kJ):=⟨rfl,rfl,rfl,by decide+kernel,rfl,by decide+kernel,by decide+kernel⟩
set_option maxHeartbeats 4000000 in
theorem ua {P:Program} {w:World} {K:PySem.W.Frag} {mg:Str→Option Value} {base:Heap} (B:Bt2 mg) {c:RCl RK} (FK_c_words:FldK K c "words") {f:Addr} {fd:FuncData} (F:Fun K "name" "Rule.name" kJ f fd):FnOk P w K mg base CX0 1 f fd ["self"] (gM K c):=by
 refine F.ok sc_Rule_name (fun vs H Q E h=>tK h) (fun cdv A outer s H vs Q E hr h=>?_)
 have hu:=hr.units
 have nd:=sc_Rule_name.nd
 refine ⟨gN K c,?_,tL h⟩
 exact (ag (ak (ay (aE hu) (c7 (pv 0) FK_c_words) af (fun _ _=>rfl))))
abbrev kc:Stmt:=mtop 19 2
theorem sc_Rule_spots:am ["self"] ["self"] (ah kc):=⟨rfl,rfl,rfl,by decide+kernel,rfl,by decide+kernel,by decide+kernel⟩
set_option maxHeartbeats 4000000 in
theorem sq {P:Program} {w:World} {K:PySem.W.Frag} {mg:Str→Option Value} {base:Heap} (B:Bt2 mg) {c:RCl RK} (FK_c_cells:FldK K c "cells") {f:Addr} {fd:FuncData} (F:Fun K "spots" "Rule.spots" kc f fd):FnOk P w K mg base CX0 1 f fd ["self"] (fQ K c):=by
 refine F.ok sc_Rule_spots (fun vs H Q E h=>rR h) (fun cdv A outer s H vs Q E hr h=>?_)
 have hu:=hr.units
 have nd:=sc_Rule_spots.nd
 refine ⟨fR K c,?_,rS h⟩
 exact (ag (ak (aD b4 rfl B.list_ ce (aa (c7 (pv 0) FK_c_cells) ac))))
abbrev je:Stmt:=mtop 19 3
theorem sc_Rule_number:am ["self"] ["self"] (ah je):=⟨rfl,rfl,rfl,by decide+kernel,rfl,by decide+kernel,by decide+kernel⟩
set_option maxHeartbeats 4000000 in
theorem qT {P:Program} {w:World} {K:PySem.W.Frag} {mg:Str→Option Value} {base:Heap} (B:Bt2 mg) {c:RCl RK} (FK_c_amount:FldK K c "amount") {f:Addr} {fd:FuncData} (F:Fun K "number" "Rule.number" je f fd):FnOk P w K mg base CX0 1 f fd ["self"] (eK K c):=by
 refine F.ok sc_Rule_number (fun vs H Q E h=>qq h) (fun cdv A outer s H vs Q E hr h=>?_)
 have hu:=hr.units
 have nd:=sc_Rule_number.nd
 refine ⟨eP K c,?_,qr h⟩
 exact (ag (ak (c7 (pv 0) FK_c_amount)))
abbrev kK:Stmt:=mtop 19 4
theorem sc_Rule_sign:am ["self"] ["self"] (ah kK):=⟨rfl,rfl,rfl,by decide+kernel,rfl,by decide+kernel,by decide+kernel⟩
set_option maxHeartbeats 4000000 in
theorem ub {P:Program} {w:World} {K:PySem.W.Frag} {mg:Str→Option Value} {base:Heap} (B:Bt2 mg) {c:RCl RK} (FK_c_mark:FldK K c "mark") {f:Addr} {fd:FuncData} (F:Fun K "sign" "Rule.sign" kK f fd):FnOk P w K mg base CX0 1 f fd ["self"] (gO K c):=by
 refine F.ok sc_Rule_sign (fun vs H Q E h=>tM h) (fun cdv A outer s H vs Q E hr h=>?_)
 have hu:=hr.units
 have nd:=sc_Rule_sign.nd
 refine ⟨gP K c,?_,tN h⟩
 exact (ag (ak (c7 (pv 0) FK_c_mark)))
abbrev kL:Stmt:=mtop 19 5
theorem sc_Rule_line:am ["self"] ["self"] (ah kL):=⟨rfl,rfl,rfl,by decide+kernel,rfl,by decide+kernel,by decide+kernel⟩
set_option maxHeartbeats 4000000 in
theorem uc {P:Program} {w:World} {K:PySem.W.Frag} {mg:Str→Option Value} {base:Heap} (B:Bt2 mg) {c:RCl RK} (FK_c_words:FldK K c "words") {f:Addr} {fd:FuncData} (F:Fun K "line" "Rule.line" kL f fd):FnOk P w K mg base CX0 1 f fd ["self"] (gQ K c):=by
 refine F.ok sc_Rule_line (fun vs H Q E h=>tO h) (fun cdv A outer s H vs Q E hr h=>?_)
 have hu:=hr.units
 have nd:=sc_Rule_line.nd
 refine ⟨gR K c,?_,tP h⟩
 exact (ag (ak (de PySem.F.plainAttrs_str PySem.F.slot_str_join PySem.F.type_str_join kx aF (aa (c7 (pv 0) FK_c_words) ac))))
abbrev iH:Stmt:=mtop 19 6
theorem sc_Rule_reckons:am ["self"] ["self"] (ah iH):=⟨rfl,rfl,rfl,by decide+kernel,rfl,by decide+kernel,by decide+kernel⟩
set_option maxHeartbeats 4000000 in
theorem p6 {P:Program} {w:World} {K:PySem.W.Frag} {mg:Str→Option Value} {base:Heap} (B:Bt2 mg) {c:RCl RK} {f:Addr} {fd:FuncData} (F:Fun K "reckons" "Rule.reckons" iH f fd):FnOk P w K mg base CX0 1 f fd ["self"] (dL K c):=by
 refine F.ok sc_Rule_reckons (fun vs H Q E h=>pr h) (fun cdv A outer s H vs Q E hr h=>?_)
 have hu:=hr.units
 have nd:=sc_Rule_reckons.nd
 refine ⟨dM K c,?_,pA h⟩
 exact (ag (ak fL))
abbrev jf:Stmt:=mtop 21 0
theorem sc_Sum_reckons:am ["self"] ["self"] (ah jf):=⟨rfl,rfl,rfl,by decide+kernel,rfl,by decide+kernel,by decide+kernel⟩
set_option maxHeartbeats 4000000 in
theorem qU {P:Program} {w:World} {K:PySem.W.Frag} {mg:Str→Option Value} {base:Heap} (B:Bt2 mg) {c:RCl RK} {f:Addr} {fd:FuncData} (F:Fun K "reckons" "Sum.reckons" jf f fd):FnOk P w K mg base CX0 1 f fd ["self"] (fh K c):=by
 refine F.ok sc_Sum_reckons (fun vs H Q E h=>qP h) (fun cdv A outer s H vs Q E hr h=>?_)
 have hu:=hr.units
 have nd:=sc_Sum_reckons.nd
 refine ⟨fi K c,?_,qQ h⟩
 exact (ag (ak fL))
abbrev gd:Stmt:=mtop 22 0
theorem sc_Rising_reckons:am ["self"] ["self"] (ah gd):=⟨rfl,rfl,rfl,by decide+kernel,rfl,by decide+kernel,by decide+kernel⟩
set_option maxHeartbeats 4000000 in
theorem nB {P:Program} {w:World} {K:PySem.W.Frag} {mg:Str→Option Value} {base:Heap} (B:Bt2 mg) {c:RCl RK} {f:Addr} {fd:FuncData} (F:Fun K "reckons" "Rising.reckons" gd f fd):FnOk P w K mg base CX0 1 f fd ["self"] (cV K c):=by
 refine F.ok sc_Rising_reckons (fun vs H Q E h=>nr h) (fun cdv A outer s H vs Q E hr h=>?_)
 have hu:=hr.units
 have nd:=sc_Rising_reckons.nd
 refine ⟨cW K c,?_,nt h⟩
 exact (ag (ak fL))
abbrev iI:Stmt:=mtop 23 0
theorem sc_Seen_reckons:am ["self"] ["self"] (ah iI):=⟨rfl,rfl,rfl,by decide+kernel,rfl,by decide+kernel,by decide+kernel⟩
set_option maxHeartbeats 4000000 in
theorem p7 {P:Program} {w:World} {K:PySem.W.Frag} {mg:Str→Option Value} {base:Heap} (B:Bt2 mg) {c:RCl RK} {f:Addr} {fd:FuncData} (F:Fun K "reckons" "Seen.reckons" iI f fd):FnOk P w K mg base CX0 1 f fd ["self"] (d4 K c):=by
 refine F.ok sc_Seen_reckons (fun vs H Q E h=>pU h) (fun cdv A outer s H vs Q E hr h=>?_)
 have hu:=hr.units
 have nd:=sc_Seen_reckons.nd
 refine ⟨d5 K c,?_,pV h⟩
 exact (ag (ak fL))
abbrev mE:Stmt:=top 35
theorem sc_line_by:am ["name","amount","mark","cells","words"] ["name","amount","mark","cells"] (ah mE):=⟨rfl,rfl,rfl,by decide+kernel,rfl,by decide+kernel,by decide+kernel⟩
set_option maxHeartbeats 4000000 in
theorem vS {P:Program} {w:World} {K:PySem.W.Frag} {mg:Str→Option Value} {base:Heap} (B:Bt2 mg) (G_OF_ALL_CELLS:GTup K mg "OF_ALL_CELLS" bZ) (G_WITH_NUMBER:GTup K mg "WITH_NUMBER" cf) (G_WITH_SIGN:GTup K mg "WITH_SIGN" cw) {f:Addr} {fd:FuncData} (F:Fun K "line_by" "line_by" mE f fd):FnOk P w K mg base CX0 1 f fd ["name","amount","mark","cells"] (fj K):=by
 refine F.ok sc_line_by (fun vs H Q E h=>vH h) (fun cdv A outer s H vs Q E hr h=>?_)
 have hu:=hr.units
 have nd:=sc_line_by.nd
 refine ⟨jM K,?_,vI h⟩
 exact (ad (ao (i:=4) nd rfl (Or.inl rfl) (bb (aa (pv 0) ac)))
   (ad (az (pF G_WITH_NUMBER (pv 0) rfl) (ag (gg (de PySem.F.plainAttrs_list PySem.F.slot_list_append PySem.F.type_list_append gt (pv 4) (aa (aD bG rfl B.str_ c5 (aa (pv 1) ac)) ac)))) aq)
   (ad (az (pF G_WITH_SIGN (pv 0) rfl) (ag (gg (de PySem.F.plainAttrs_list PySem.F.slot_list_append PySem.F.type_list_append gt (pv 4) (aa (aD bG rfl B.str_ c5 (aa (pv 2) ac)) ac)))) aq)
   (ad (az (uU G_OF_ALL_CELLS (pv 0) rfl) (ag (gg (de PySem.F.plainAttrs_list PySem.F.slot_list_extend PySem.F.type_list_extend vk (pv 4) (aa (bD (ix:=[none,none]) [".0","cell"] (aW rfl (by decide+kernel) rfl rfl rfl) rfl (bp (pv 3)) (fun cl s H fp=>(aC (i:=1) (show ([".0","cell"]:List Str).Nodup by decide+kernel) rfl (Or.inl rfl))) (fun cl s H fp=>br) (fun cl s H fp=>(aD bG rfl B.str_ c5 (aa (pv 1) ac)))) ac)))) aq)
   (ag (ak (de PySem.F.plainAttrs_str PySem.F.slot_str_join PySem.F.type_str_join kx aF (aa (pv 4) ac))))))))
abbrev kM:Stmt:=top 36
theorem sc_number_in:am ["word"] ["word"] (ah kM):=⟨rfl,rfl,rfl,by decide+kernel,rfl,by decide+kernel,by decide+kernel⟩
set_option maxHeartbeats 4000000 in
theorem ud {P:Program} {w:World} {K:PySem.W.Frag} {mg:Str→Option Value} {base:Heap} (B:Bt2 mg) {t_FIGURES:Tok} (Dg:mg "FIGURES"=some (.str (tx [48,49,50,51,52,53,54,55,56,57]) t_FIGURES)) {t_MOST_FIGURES:Tok} (BJ:mg "MOST_FIGURES"=some (.int 9 t_MOST_FIGURES)) {f:Addr} {fd:FuncData} (F:Fun K "number_in" "number_in" kM f fd):FnOk P w K mg base CX0 1 f fd ["word"] (c8 K):=by
 refine F.ok sc_number_in (fun vs H Q E h=>tQ h) (fun cdv A outer s H vs Q E hr h=>?_)
 have hu:=hr.units
 have nd:=sc_number_in.nd
 refine ⟨gS K,?_,tR h⟩
 exact (ad (az (PW.pt (gn (ar (aI hu) (pv 0) aF (av _)) (gn (ar fD (aA bv rfl B.len_ bS (aa (pv 0) ac)) (bc rfl BJ ⟨t_MOST_FIGURES,rfl⟩) (av _)) (i3 (PW.pt (lZ (ar (aI hu) (ay (aE hu) (pv 0) af (fun _ _=>rfl)) aF (av _)) (kU (ar (i4 hu) (pv 0) aF (av _))))))))) (ag (ak kT)) aq)
   (ad (az (bz (bi (aA (me rfl) rfl B.all_ tm (aa (bD (ix:=[none,none]) [".0","figure"] (aW rfl (by decide+kernel) rfl rfl rfl) rfl (zm (pv 0)) (fun cl s H fp=>(aC (i:=1) (show ([".0","figure"]:List Str).Nodup by decide+kernel) rfl (Or.inl rfl))) (fun cl s H fp=>br) (fun cl s H fp=>(bH (kZ hu) (pv 1) (bc rfl Dg ⟨t_FIGURES,rfl⟩) (by with_unfolding_all rfl)))) ac)))) (ag (ak kT)) aq)
   (ag (ak (aD eJ rfl B.int_ j7 (aa (pv 0) ac))))))
abbrev iJ:Stmt:=mtop 49 1
theorem sc_Puzzle_place:am ["self"] ["self"] (ah iJ):=⟨rfl,rfl,rfl,by decide+kernel,rfl,by decide+kernel,by decide+kernel⟩
set_option maxHeartbeats 4000000 in
theorem p8 {P:Program} {w:World} {K:PySem.W.Frag} {mg:Str→Option Value} {base:Heap} (B:Bt2 mg) {c:RCl RK} {d:RCl PzK} (FK_d_floor:FldK K d "floor") {f:Addr} {fd:FuncData} (F:Fun K "place" "Puzzle.place" iJ f fd):FnOk P w K mg base CX0 1 f fd ["self"] (dQ K c d):=by
 refine F.ok sc_Puzzle_place (fun vs H Q E h=>pG h) (fun cdv A outer s H vs Q E hr h=>?_)
 have hu:=hr.units
 have nd:=sc_Puzzle_place.nd
 refine ⟨dR K c d,?_,pH h⟩
 exact (ag (ak (c7 (pv 0) FK_d_floor)))
abbrev iK:Stmt:=mtop 49 3
theorem sc_Puzzle_clues:am ["self"] ["self"] (ah iK):=⟨rfl,rfl,rfl,by decide+kernel,rfl,by decide+kernel,by decide+kernel⟩
set_option maxHeartbeats 4000000 in
theorem p9 {P:Program} {w:World} {K:PySem.W.Frag} {mg:Str→Option Value} {base:Heap} (B:Bt2 mg) {c:RCl RK} {d:RCl PzK} (FK_d_given:FldK K d "given") {f:Addr} {fd:FuncData} (F:Fun K "clues" "Puzzle.clues" iK f fd):FnOk P w K mg base CX0 1 f fd ["self"] (dS K c d):=by
 refine F.ok sc_Puzzle_clues (fun vs H Q E h=>pI h) (fun cdv A outer s H vs Q E hr h=>?_)
 have hu:=hr.units
 have nd:=sc_Puzzle_clues.nd
 refine ⟨dU K c d,?_,pJ h⟩
 exact (ag (ak (aD b4 rfl B.list_ ce (aa (c7 (pv 0) FK_d_given) ac))))
abbrev iL:Stmt:=mtop 49 4
theorem sc_Puzzle_rules:am ["self"] ["self"] (ah iL):=⟨rfl,rfl,rfl,by decide+kernel,rfl,by decide+kernel,by decide+kernel⟩
set_option maxHeartbeats 4000000 in
theorem qa {P:Program} {w:World} {K:PySem.W.Frag} {mg:Str→Option Value} {base:Heap} (B:Bt2 mg) {c:RCl RK} {d:RCl PzK} (FK_d_laws:FldK K d "laws") {f:Addr} {fd:FuncData} (F:Fun K "rules" "Puzzle.rules" iL f fd):FnOk P w K mg base CX0 1 f fd ["self"] (dW K c d):=by
 refine F.ok sc_Puzzle_rules (fun vs H Q E h=>pK h) (fun cdv A outer s H vs Q E hr h=>?_)
 have hu:=hr.units
 have nd:=sc_Puzzle_rules.nd
 refine ⟨dX K c d,?_,pL h⟩
 exact (ag (ak (aD b4 rfl B.list_ ce (aa (c7 (pv 0) FK_d_laws) ac))))
abbrev iM:Stmt:=top 54
theorem sc_turned_floor:am ["floor"] ["floor"] (ah iM):=⟨rfl,rfl,rfl,by decide+kernel,rfl,by decide+kernel,by decide+kernel⟩
set_option maxHeartbeats 4000000 in
theorem qb {P:Program} {w:World} {K:PySem.W.Frag} {mg:Str→Option Value} {base:Heap} (B:Bt2 mg) {f:Addr} {fd:FuncData} (F:Fun K "turned_floor" "turned_floor" iM f fd):FnOk P w K mg base CX0 1 f fd ["floor"] (bo K):=by
 refine F.ok sc_turned_floor (fun vs H Q E h=>pS h) (fun cdv A outer s H vs Q E hr h=>?_)
 have hu:=hr.units
 have nd:=sc_turned_floor.nd
 refine ⟨d0 K,?_,pT h⟩
 exact (ag (ak (d7 (aa (ay (aE hu) (pv 0) af (fun _ _=>rfl)) (aa (ay (aE hu) (pv 0) af (fun _ _=>rfl)) (aa (ay (aE hu) (pv 0) af (fun _ _=>rfl)) ac))))))
abbrev jg:Stmt:=top 55
theorem sc_turned_spot:am ["floor","spot"] ["floor","spot"] (ah jg):=⟨rfl,rfl,rfl,by decide+kernel,rfl,by decide+kernel,by decide+kernel⟩
set_option maxHeartbeats 4000000 in
theorem qV {P:Program} {w:World} {K:PySem.W.Frag} {mg:Str→Option Value} {base:Heap} (B:Bt2 mg) {f:Addr} {fd:FuncData} (F:Fun K "turned_spot" "turned_spot" jg f fd):FnOk P w K mg base CX0 1 f fd ["floor","spot"] (cm K):=by
 refine F.ok sc_turned_spot (fun vs H Q E h=>qC h) (fun cdv A outer s H vs Q E hr h=>?_)
 have hu:=hr.units
 have nd:=sc_turned_spot.nd
 refine ⟨e8 K,?_,qD h⟩
 exact (ag (ak (d7 (aa (ay (aE hu) (pv 1) af (fun _ _=>rfl)) (aa (aj bW (aj bW (ay (aE hu) (pv 0) af (fun _ _=>rfl)) af) (ay (aE hu) (pv 1) af (fun _ _=>rfl))) ac)))))
abbrev h9:Stmt:=top 56
theorem sc_mirrored_spot:am ["floor","spot"] ["floor","spot"] (ah h9):=⟨rfl,rfl,rfl,by decide+kernel,rfl,by decide+kernel,by decide+kernel⟩
set_option maxHeartbeats 4000000 in
theorem oS {P:Program} {w:World} {K:PySem.W.Frag} {mg:Str→Option Value} {base:Heap} (B:Bt2 mg) {f:Addr} {fd:FuncData} (F:Fun K "mirrored_spot" "mirrored_spot" h9 f fd):FnOk P w K mg base CX0 1 f fd ["floor","spot"] (bM K):=by
 refine F.ok sc_mirrored_spot (fun vs H Q E h=>oA h) (fun cdv A outer s H vs Q E hr h=>?_)
 have hu:=hr.units
 have nd:=sc_mirrored_spot.nd
 refine ⟨dt K,?_,oB h⟩
 exact (ag (ak (d7 (aa (ay (aE hu) (pv 1) af (fun _ _=>rfl)) (aa (aj bW (aj bW (ay (aE hu) (pv 0) af (fun _ _=>rfl)) af) (ay (aE hu) (pv 1) af (fun _ _=>rfl))) ac)))))
abbrev fv:Stmt:=top 60
theorem sc_unchanged_signs:am ["floor"] ["floor"] (ah fv):=⟨rfl,rfl,rfl,by decide+kernel,rfl,by decide+kernel,by decide+kernel⟩
set_option maxHeartbeats 4000000 in
theorem mF {P:Program} {w:World} {K:PySem.W.Frag} {mg:Str→Option Value} {base:Heap} (B:Bt2 mg) {f:Addr} {fd:FuncData} (F:Fun K "unchanged_signs" "unchanged_signs" fv f fd):FnOk P w K mg base CX0 1 f fd ["floor"] (aN K):=by
 refine F.ok sc_unchanged_signs (fun vs H Q E h=>mt h) (fun cdv A outer s H vs Q E hr h=>?_)
 have hu:=hr.units
 have nd:=sc_unchanged_signs.nd
 refine ⟨cM K,?_,mw h⟩
 exact (ag (ak (kF rfl rfl rfl B.list_ B.range_ (aa af (aa (aj ax (ay (aE hu) (pv 0) af (fun _ _=>rfl)) af) ac)))))
abbrev kN:Stmt:=top 63
theorem sc_exchanged:am ["sign","signs"] ["sign","signs"] (ah kN):=⟨rfl,rfl,rfl,by decide+kernel,rfl,by decide+kernel,by decide+kernel⟩
set_option maxHeartbeats 4000000 in
theorem ue {P:Program} {w:World} {K:PySem.W.Frag} {mg:Str→Option Value} {base:Heap} (B:Bt2 mg) {f:Addr} {fd:FuncData} (F:Fun K "exchanged" "exchanged" kN f fd):FnOk P w K mg base CX0 1 f fd ["sign","signs"] (bV K):=by
 refine F.ok sc_exchanged (fun vs H Q E h=>t4 h) (fun cdv A outer s H vs Q E hr h=>?_)
 have hu:=hr.units
 have nd:=sc_exchanged.nd
 refine ⟨g5 K,?_,t5 h⟩
 exact (ag (ak (xn (ar (aI hu) (pv 0) af (av _)) af (ay (aE hu) (pv 1) (aj bW (pv 0) af) (fun _ _=>rfl)))))
abbrev mG:Stmt:=top 69
theorem sc__law_at:am ["_law_script","_law_k","_law_mixed"] ["_law_script","_law_k"] (ah mG):=⟨rfl,rfl,rfl,by decide+kernel,rfl,by decide+kernel,by decide+kernel⟩
set_option maxHeartbeats 4000000 in
theorem vT {P:Program} {w:World} {K:PySem.W.Frag} {mg:Str→Option Value} {base:Heap} (B:Bt2 mg) {f:Addr} {fd:FuncData} (F:Fun K "_law_at" "_law_at" mG f fd):FnOk P w K mg base CX0 1 f fd ["_law_script","_law_k"] (aP K):=by
 refine F.ok sc__law_at (fun vs H Q E h=>vw h) (fun cdv A outer s H vs Q E hr h=>?_)
 have hu:=hr.units
 have nd:=sc__law_at.nd
 refine ⟨jK K,?_,vx h⟩
 exact (ad (az (ar sW (pv 1) (aA gr rfl B.len_ bS (aa (pv 0) ac)) (av _)) (ag (ak (ay qj (pv 0) (pv 1) (fun _ _=>rfl)))) aq)
   (ad (ao (i:=2) nd rfl (Or.inl rfl) (aj ax (aj bX af (pv 1)) af))
   (ad (az (ar fD (aA gr rfl B.len_ bS (aa (pv 0) ac)) af (av _)) (ag (ao (i:=2) nd rfl (Or.inl rfl) (aj ax (pv 2) (aj bX (aj aH (ay qj (pv 0) (aj aH (pv 1) (aA gr rfl B.len_ bS (aa (pv 0) ac))) (fun _ _=>rfl)) af) (aj ax (pv 1) af))))) aq)
   (ag (ak (aj ax (aj aH (aj bX (pv 2) (pv 2)) af) (aj aH (pv 2) af)))))))
abbrev jh:Stmt:=top 71
theorem sc__law_stream:am ["_law_cell","_law_many","_law_number","_law_found","_law_k"] ["_law_cell","_law_many"] (ah jh):=⟨rfl,rfl,rfl,by decide+kernel,rfl,by decide+kernel,by decide+kernel⟩
set_option maxHeartbeats 4000000 in
theorem qW {P:Program} {w:World} {K:PySem.W.Frag} {mg:Str→Option Value} {base:Heap} (B:Bt2 mg) {f:Addr} {fd:FuncData} (F:Fun K "_law_stream" "_law_stream" jh f fd):FnOk P w K mg base CX0 1 f fd ["_law_cell","_law_many"] (cg K):=by
 refine F.ok sc__law_stream (fun vs H Q E h=>qx h) (fun cdv A outer s H vs Q E hr h=>?_)
 have hu:=hr.units
 have nd:=sc__law_stream.nd
 refine ⟨eY K,?_,qy h⟩
 exact (ad (ao (i:=2) nd rfl (Or.inl rfl) (aj ax (aj aH (pv 0) af) af))
   (ad (ao (i:=3) nd rfl (Or.inl rfl) (bb ac))
   (ad (fB PassesOwn.never rfl (cJ rfl B.range_ (aa (pv 1) ac)) (aC (i:=4) nd rfl (Or.inl rfl))
   (ad (ao (i:=2) nd rfl (Or.inl rfl) (aj aH (aj ax (aj ax (aj bX (pv 2) (pv 2)) (aj bX af (pv 2))) (pv 4)) af))
   (ag (gg (de PySem.F.plainAttrs_list PySem.F.slot_list_append PySem.F.type_list_append gt (pv 3) (aa (pv 2) ac))))))
   (ag (ak (pv 3))))))
abbrev kd:Stmt:=top 72
theorem sc__law_order:am ["_law_xs","_law_many","_law_left","_law_order_here","_law_k"] ["_law_xs","_law_many"] (ah kd):=⟨rfl,rfl,rfl,by decide+kernel,rfl,by decide+kernel,by decide+kernel⟩
set_option maxHeartbeats 4000000 in
theorem sr {P:Program} {w:World} {K:PySem.W.Frag} {mg:Str→Option Value} {base:Heap} (B:Bt2 mg) {f:Addr} {fd:FuncData} (F:Fun K "_law_order" "_law_order" kd f fd):FnOk P w K mg base CX0 1 f fd ["_law_xs","_law_many"] (cG K):=by
 refine F.ok sc__law_order (fun vs H Q E h=>r8 h) (fun cdv A outer s H vs Q E hr h=>?_)
 have hu:=hr.units
 have nd:=sc__law_order.nd
 refine ⟨fW K,?_,sd h⟩
 exact (ad (ao (i:=2) nd rfl (Or.inl rfl) (nN rfl rfl rfl B.list_ B.range_ (aa (pv 1) ac)))
   (ad (ao (i:=3) nd rfl (Or.inl rfl) (bb ac))
   (ad (fB PassesOwn.never rfl (cJ rfl B.range_ (aa (pv 1) ac)) (aC (i:=4) nd rfl (Or.inl rfl))
   (ag (gg (de PySem.F.plainAttrs_list PySem.F.slot_list_append PySem.F.type_list_append gt (pv 3) (aa (de PySem.F.plainAttrs_list PySem.F.slot_list_pop PySem.F.type_list_pop rD (pv 2) (aa (aj aH (ay (aE hu) (pv 0) (pv 4) (fun _ _=>rfl)) (aA bv rfl B.len_ bS (aa (pv 2) ac))) ac)) ac)))))
   (ag (ak (pv 3))))))
abbrev kO:Stmt:=top 73
theorem sc__law_kept:am ["_law_order_here","_law_filling_here","_law_rising","_law_kept_here","_law_sign","_law_some"] ["_law_order_here","_law_filling_here","_law_rising"] (ah kO):=⟨rfl,rfl,rfl,by decide+kernel,rfl,by decide+kernel,by decide+kernel⟩
set_option maxHeartbeats 4000000 in
theorem uf {P:Program} {w:World} {K:PySem.W.Frag} {mg:Str→Option Value} {base:Heap} (B:Bt2 mg) {f:Addr} {fd:FuncData} (F:Fun K "_law_kept" "_law_kept" kO f fd):FnOk P w K mg base CX0 1 f fd ["_law_order_here","_law_filling_here","_law_rising"] (da K):=by
 refine F.ok sc__law_kept (fun vs H Q E h=>tX h) (fun cdv A outer s H vs Q E hr h=>?_)
 have hu:=hr.units
 have nd:=sc__law_kept.nd
 refine ⟨gX K,?_,tY h⟩
 exact (ad (ao (i:=3) nd rfl (Or.inr rfl) (bb ac))
   (ad (fB PassesOwn.never rfl (wa rfl B.range_ (aa af (aa af ac))) (aC (i:=4) nd rfl (Or.inr rfl))
   (ad (jP (k:=5) nd rfl (Or.inl rfl) rfl (ix:=[none,none,some 1,some 4]) [".0","_law_cell","_law_filling_here","_law_sign"] (aW rfl (by decide+kernel) rfl rfl rfl) rfl (bp (pv 0)) (fun cl s H fp=>(aC (i:=1) (show ([".0","_law_cell","_law_filling_here","_law_sign"]:List Str).Nodup by decide+kernel) rfl (Or.inl rfl))) (fun cl s H fp=>(mM (ar (aI hu) (ay (aE hu) (pv 2) (pv 1) (fun _ _=>rfl)) (pv 3) (av _)))) (fun cl s H fp=>(pv 1)))
   (ag (ao (i:=3) nd rfl (Or.inr rfl) (aj ax (pv 3) (bt dh (pv 5) bI (bJ af)))))))
   (ad (az (bi (pv 2)) (ag (ak (pv 3))) aq)
   (ag (ak (bD (ix:=[none,none,some 3]) [".0","_law_cell","_law_kept_here"] (aW rfl (by decide+kernel) rfl rfl rfl) rfl (bp (pv 0)) (fun cl s H fp=>(aC (i:=1) (show ([".0","_law_cell","_law_kept_here"]:List Str).Nodup by decide+kernel) rfl (Or.inl rfl))) (fun cl s H fp=>(mM (ar (kZ hu) (pv 1) (pv 2) (by with_unfolding_all rfl)))) (fun cl s H fp=>(pv 1))))))))
abbrev kP:Stmt:=top 74
theorem sc__law_seen:am ["_law_filling_here","_law_cells","_law_greatest","_law_many","_law_cell"] ["_law_filling_here","_law_cells"] (ah kP):=⟨rfl,rfl,rfl,by decide+kernel,rfl,by decide+kernel,by decide+kernel⟩
set_option maxHeartbeats 4000000 in
theorem ug {P:Program} {w:World} {K:PySem.W.Frag} {mg:Str→Option Value} {base:Heap} (B:Bt2 mg) {f:Addr} {fd:FuncData} (F:Fun K "_law_seen" "_law_seen" kP f fd):FnOk P w K mg base CX0 1 f fd ["_law_filling_here","_law_cells"] (db K):=by
 refine F.ok sc__law_seen (fun vs H Q E h=>tZ h) (fun cdv A outer s H vs Q E hr h=>?_)
 have hu:=hr.units
 have nd:=sc__law_seen.nd
 refine ⟨gY K,?_,t0 h⟩
 exact (ad (ao (i:=2) nd rfl (Or.inl rfl) af)
   (ad (ao (i:=3) nd rfl (Or.inl rfl) af)
   (ad (fB PassesOwn.never rfl (bp (pv 1)) (aC (i:=4) nd rfl (Or.inl rfl))
   (ag (az (ar fD (ay (aE hu) (pv 0) (pv 4) (fun _ _=>rfl)) (pv 2) (av _)) (ad (ao (i:=2) nd rfl (Or.inl rfl) (ay (aE hu) (pv 0) (pv 4) (fun _ _=>rfl)))
   (ag (ao (i:=3) nd rfl (Or.inl rfl) (aj ax (pv 3) af)))) aq)))
   (ag (ak (pv 3))))))
abbrev kQ:Stmt:=top 77
theorem sc__law_spot:am ["_law_floor_here","_law_cell","_law_move","_law_high","_law_wide","_law_signs","_law_row","_law_column","_law_turn"] ["_law_floor_here","_law_cell","_law_move"] (ah kQ):=⟨rfl,rfl,rfl,by decide+kernel,rfl,by decide+kernel,by decide+kernel⟩
set_option maxHeartbeats 4000000 in
theorem uh {P:Program} {w:World} {K:PySem.W.Frag} {mg:Str→Option Value} {base:Heap} (B:Bt2 mg) {f:Addr} {fd:FuncData} (F:Fun K "_law_spot" "_law_spot" kQ f fd):FnOk P w K mg base CX0 1 f fd ["_law_floor_here","_law_cell","_law_move"] (bU K):=by
 refine F.ok sc__law_spot (fun vs H Q E h=>t1 h) (fun cdv A outer s H vs Q E hr h=>?_)
 have hu:=hr.units
 have nd:=sc__law_spot.nd
 refine ⟨g4 K,?_,t3 h⟩
 exact (ad (o5 (pv 0) (o4 rfl (dc (aC (i:=3) nd rfl (Or.inl rfl)) (dc (aC (i:=4) nd rfl (Or.inl rfl)) (dc (aC (i:=5) nd rfl (Or.inl rfl)) mL)))))
   (ad (ao (i:=6) nd rfl (Or.inl rfl) (aj gh (pv 1) (pv 4)))
   (ad (ao (i:=7) nd rfl (Or.inl rfl) (aj aH (pv 1) (pv 4)))
   (ad (az (ar fD (pv 2) af (av _)) (ag (ao (i:=7) nd rfl (Or.inl rfl) (aj bW (aj bW (pv 4) af) (pv 7)))) aq)
   (ad (fB PassesOwn.never rfl (cJ rfl B.range_ (aa (aj aH (pv 2) af) ac)) (aC (i:=8) nd rfl (Or.inl rfl))
   (ad (vZ (i:=6) (j:=7) rfl nd rfl rfl (by decide) rfl rfl (aa (pv 7) (aa (aj bW (aj bW (pv 3) af) (pv 6)) ac)) rfl)
   (ag (vZ (i:=3) (j:=4) rfl nd rfl rfl (by decide) rfl rfl (aa (pv 4) (aa (pv 3) ac)) rfl))))
   (ag (ak (aj ax (aj bX (pv 6) (pv 4)) (pv 7)))))))))
abbrev ji:Stmt:=top 78
theorem sc__law_ground:am ["_law_floor_here","_law_move"] ["_law_floor_here","_law_move"] (ah ji):=⟨rfl,rfl,rfl,by decide+kernel,rfl,by decide+kernel,by decide+kernel⟩
set_option maxHeartbeats 4000000 in
theorem qX {P:Program} {w:World} {K:PySem.W.Frag} {mg:Str→Option Value} {base:Heap} (B:Bt2 mg) {f:Addr} {fd:FuncData} (F:Fun K "_law_ground" "_law_ground" ji f fd):FnOk P w K mg base CX0 1 f fd ["_law_floor_here","_law_move"] (cq K):=by
 refine F.ok sc__law_ground (fun vs H Q E h=>qI h) (fun cdv A outer s H vs Q E hr h=>?_)
 have hu:=hr.units
 have nd:=sc__law_ground.nd
 refine ⟨fc K,?_,qJ h⟩
 exact (ad (az (ar (aI hu) (aj aH (pv 1) af) af (av _)) (ag (ak (d7 (aa (ay (aE hu) (pv 0) af (fun _ _=>rfl)) (aa (ay (aE hu) (pv 0) af (fun _ _=>rfl)) (aa (ay (aE hu) (pv 0) af (fun _ _=>rfl)) ac)))))) aq)
   (ag (ak (pv 0))))
abbrev ic:Stmt:=top 79
theorem sc__law_exchange:am ["_law_cell","_law_many","_law_left","_law_found","_law_k"] ["_law_cell","_law_many"] (ah ic):=⟨rfl,rfl,rfl,by decide+kernel,rfl,by decide+kernel,by decide+kernel⟩
set_option maxHeartbeats 4000000 in
theorem oU {P:Program} {w:World} {K:PySem.W.Frag} {mg:Str→Option Value} {base:Heap} (B:Bt2 mg) {f:Addr} {fd:FuncData} (F:Fun K "_law_exchange" "_law_exchange" ic f fd):FnOk P w K mg base CX0 1 f fd ["_law_cell","_law_many"] (bN K):=by
 refine F.ok sc__law_exchange (fun vs H Q E h=>oG h) (fun cdv A outer s H vs Q E hr h=>?_)
 have hu:=hr.units
 have nd:=sc__law_exchange.nd
 refine ⟨dv K,?_,oH h⟩
 exact (ad (ao (i:=2) nd rfl (Or.inl rfl) (kF rfl rfl rfl B.list_ B.range_ (aa af (aa (aj ax (pv 1) af) ac))))
   (ad (ao (i:=3) nd rfl (Or.inl rfl) (bb ac))
   (ad (fB PassesOwn.never rfl (cJ rfl B.range_ (aa (pv 1) ac)) (aC (i:=4) nd rfl (Or.inl rfl))
   (ag (gg (de PySem.F.plainAttrs_list PySem.F.slot_list_append PySem.F.type_list_append gt (pv 3) (aa (de PySem.F.plainAttrs_list PySem.F.slot_list_pop PySem.F.type_list_pop rD (pv 2) (aa (aj aH (aj gh (pv 0) (aj ax (aj bX af (pv 4)) af)) (aA bv rfl B.len_ bS (aa (pv 2) ac))) ac)) ac)))))
   (ag (ak (pv 3))))))
abbrev iN:Stmt:=top 81
theorem sc__law_reckons:am ["_law_lines"] ["_law_lines"] (ah iN):=⟨rfl,rfl,rfl,by decide+kernel,rfl,by decide+kernel,by decide+kernel⟩
set_option maxHeartbeats 4000000 in
theorem qc {P:Program} {w:World} {K:PySem.W.Frag} {mg:Str→Option Value} {base:Heap} (B:Bt2 mg) {f:Addr} {fd:FuncData} (F:Fun K "_law_reckons" "_law_reckons" iN f fd):FnOk P w K mg base CX0 1 f fd ["_law_lines"] (bF K):=by
 refine F.ok sc__law_reckons (fun vs H Q E h=>nu h) (fun cdv A outer s H vs Q E hr h=>?_)
 have hu:=hr.units
 have nd:=sc__law_reckons.nd
 refine ⟨cX K,?_,nv h⟩
 exact (ag (ak (bH fD (aA bv rfl B.len_ bS (aa (bD (ix:=[none,none]) [".0","_law_line_here"] (aW rfl (by decide+kernel) rfl rfl rfl) rfl (bp (pv 0)) (fun cl s H fp=>(aC (i:=1) (show ([".0","_law_line_here"]:List Str).Nodup by decide+kernel) rfl (Or.inl rfl))) (fun cl s H fp=>(mM (ar (kZ hu) (ay (aE hu) (de PySem.F.plainAttrs_str PySem.F.slot_str_split PySem.F.type_str_split md (pv 1) (aa aF ac)) af (fun _ _=>rfl)) (d7 (aa aF (aa aF (aa aF ac)))) (by with_unfolding_all rfl)))) (fun cl s H fp=>(pv 1))) ac)) af (av _))))
abbrev ie:Stmt:=top 82
theorem sc__law_bad_list:am ["_law_signs","_law_cell","_law_at_here"] ["_law_signs","_law_cell"] (ah ie):=⟨rfl,rfl,rfl,by decide+kernel,rfl,by decide+kernel,by decide+kernel⟩
set_option maxHeartbeats 4000000 in
theorem oV {P:Program} {w:World} {K:PySem.W.Frag} {mg:Str→Option Value} {base:Heap} (B:Bt2 mg) {f:Addr} {fd:FuncData} (F:Fun K "_law_bad_list" "_law_bad_list" ie f fd):FnOk P w K mg base CX0 1 f fd ["_law_signs","_law_cell"] (bO K):=by
 refine F.ok sc__law_bad_list (fun vs H Q E h=>oJ h) (fun cdv A outer s H vs Q E hr h=>?_)
 have hu:=hr.units
 have nd:=sc__law_bad_list.nd
 refine ⟨dw K,?_,oN h⟩
 exact (ad (ao (i:=2) nd rfl (Or.inl rfl) (aj aH (aj gh (pv 1) af) (aA bv rfl B.len_ bS (aa (pv 0) ac))))
   (ad (az (ar (aI hu) (aj aH (pv 1) af) af (av _)) (ag (ak (bt dh (pv 0) (bJ af) bI))) aq)
   (ad (az (ar (aI hu) (aj aH (pv 1) af) af (av _)) (ag (ak (aj ax (pv 0) (bb (aa (ay (aE hu) (pv 0) (pv 2) (fun _ _=>rfl)) ac))))) aq)
   (ad (az (PW.pt (lZ (ar (aI hu) (aj aH (pv 1) af) af (av _)) (kU (ar fD (aA bv rfl B.len_ bS (aa (pv 0) ac)) af (av _))))) (ag (ak (aj ax (aj ax (bt dh (pv 0) bI (bJ (pv 2))) (bb (aa (ay (aE hu) (pv 0) (aj bW (pv 2) af) (fun _ _=>rfl)) ac))) (bt dh (pv 0) (bJ (aj ax (pv 2) af)) bI)))) aq)
   (ad (az (ar (aI hu) (aj aH (pv 1) af) af (av _)) (ag (ak (aj ax (aj ax (bt dh (pv 0) bI (bJ (pv 2))) (bb (aa af ac))) (bt dh (pv 0) (bJ (aj ax (pv 2) af)) bI)))) aq)
   (ag (ak (aj ax (aj ax (bt dh (pv 0) bI (bJ (pv 2))) (bb (aa (aj ax (aj ax (aA bv rfl B.len_ bS (aa (pv 0) ac)) af) (aj aH (aj gh (pv 1) af) (aj uL af af))) ac))) (bt dh (pv 0) (bJ (aj ax (pv 2) af)) bI)))))))))
abbrev ge:Stmt:=top 14
theorem sc_is_from_one_to:am ["value","most"] ["value","most"] (ah ge):=⟨rfl,rfl,rfl,by decide+kernel,rfl,by decide+kernel,by decide+kernel⟩
set_option maxHeartbeats 4000000 in
theorem nD {P:Program} {w:World} {K:PySem.W.Frag} {mg:Str→Option Value} {base:Heap} (B:Bt2 mg) (AB:Cal P w K mg base 1 "is_whole" ["value"] (bg K)) {f:Addr} {fd:FuncData} (F:Fun K "is_from_one_to" "is_from_one_to" ge f fd):FnOk P w K mg base CX0 2 f fd ["value","most"] (aY K):=by
 refine F.ok sc_is_from_one_to (fun vs H Q E h=>m7 h) (fun cdv A outer s H vs Q E hr h=>?_)
 have hu:=hr.units
 have nd:=sc_is_from_one_to.nd
 refine ⟨cS K,?_,nc h⟩
 exact (ag (ak (gp (ap AB hr (by decide) rfl (aa (pv 0) ac)) (gp (bH pc af (pv 0) (av _)) (kW (bH pc (pv 0) (pv 1) (av _)))))))
abbrev ig:Stmt:=top 37
theorem sc_number_within:am ["word","least","most","number"] ["word","least","most"] (ah ig):=⟨rfl,rfl,rfl,by decide+kernel,rfl,by decide+kernel,by decide+kernel⟩
set_option maxHeartbeats 4000000 in
theorem oW {P:Program} {w:World} {K:PySem.W.Frag} {mg:Str→Option Value} {base:Heap} (B:Bt2 mg) (CB:Cal P w K mg base 1 "number_in" ["word"] (c8 K)) {f:Addr} {fd:FuncData} (F:Fun K "number_within" "number_within" ig f fd):FnOk P w K mg base CX0 2 f fd ["word","least","most"] (bf K):=by
 refine F.ok sc_number_within (fun vs H Q E h=>oo h) (fun cdv A outer s H vs Q E hr h=>?_)
 have hu:=hr.units
 have nd:=sc_number_within.nd
 refine ⟨dn K,?_,oq h⟩
 exact (ad (ao (i:=3) nd rfl (Or.inl rfl) (ap CB hr (by decide) rfl (aa (pv 0) ac)))
   (ad (az (PW.pt (gn (ar we (pv 3) kT (av _)) (gn (ar sW (pv 3) (pv 1) (av _)) (i3 (ar fD (pv 3) (pv 2) (av _)))))) (ag bA) aq)
   (ag (ak (pv 3)))))
abbrev ke:Stmt:=top 47
theorem sc_is_filling:am ["floor","filling","least"] ["floor","filling","least"] (ah ke):=⟨rfl,rfl,rfl,by decide+kernel,rfl,by decide+kernel,by decide+kernel⟩
set_option maxHeartbeats 4000000 in
theorem su {P:Program} {w:World} {K:PySem.W.Frag} {mg:Str→Option Value} {base:Heap} (B:Bt2 mg) (AB:Cal P w K mg base 1 "is_whole" ["value"] (bg K)) (Au:Cal P w K mg base 1 "many_cells" ["floor"] (aO K)) {f:Addr} {fd:FuncData} (F:Fun K "is_filling" "is_filling" ke f fd):FnOk P w K mg base CX0 2 f fd ["floor","filling","least"] (cF K):=by
 refine F.ok sc_is_filling (fun vs H Q E h=>rY h) (fun cdv A outer s H vs Q E hr h=>?_)
 have hu:=hr.units
 have nd:=sc_is_filling.nd
 refine ⟨fV K,?_,rZ h⟩
 exact (ad (az (PW.pt (gn (bz (bi (aA gi rfl B.isinstance_ aS (aa (pv 1) (aa (io (v:=.ty "list") rfl B.list_ ce rfl) ac))))) (i3 (ar (i4 hu) (aA bv rfl B.len_ bS (aa (pv 1) ac)) (ap Au hr (by decide) rfl (aa (pv 0) ac)) (av _))))) (ag (ak fL)) aq)
   (ag (ak (aA (me rfl) rfl B.all_ tm (aa (bD (ix:=[none,none,some 0,some 2]) [".0","sign","floor","least"] (aW rfl (by decide+kernel) rfl rfl rfl) rfl (bp (pv 1)) (fun cl s H fp=>(aC (i:=1) (show ([".0","sign","floor","least"]:List Str).Nodup by decide+kernel) rfl (Or.inl rfl))) (fun cl s H fp=>br) (fun cl s H fp=>(gp (ap AB hr (by decide) rfl (aa (pv 1) ac)) (gp (bH pc (pv 3) (pv 1) (av _)) (kW (bH pc (pv 1) (ay (aE hu) (pv 2) af (fun _ _=>rfl)) (av _))))))) ac)))))
abbrev iO:Stmt:=mtop 49 2
theorem sc_Puzzle_lines:am ["self"] ["self"] (ah iO):=⟨rfl,rfl,rfl,by decide+kernel,rfl,by decide+kernel,by decide+kernel⟩
set_option maxHeartbeats 4000000 in
theorem qd {P:Program} {w:World} {K:PySem.W.Frag} {mg:Str→Option Value} {base:Heap} (B:Bt2 mg) {c:RCl RK} {d:RCl PzK} (FK_d_laws:FldK K d "laws") (Ee:MCal P w K mg base c c.ok 1 "line" ["self"] (lj K c)) {f:Addr} {fd:FuncData} (F:Fun K "lines" "Puzzle.lines" iO f fd):FnOk P w K mg base CX0 2 f fd ["self"] (dY K c d):=by
 refine F.ok sc_Puzzle_lines (fun vs H Q E h=>pM h) (fun cdv A outer s H vs Q E hr h=>?_)
 have hu:=hr.units
 have nd:=sc_Puzzle_lines.nd
 refine ⟨dZ K c d,?_,pN h⟩
 exact (ag (ak (bD (ix:=[none,none]) [".0","rule"] (aW rfl (by decide+kernel) rfl rfl rfl) rfl (bp (c7 (pv 0) FK_d_laws)) (fun cl s H fp=>(aC (i:=1) (show ([".0","rule"]:List Str).Nodup by decide+kernel) rfl (Or.inl rfl))) (fun cl s H fp=>br) (fun cl s H fp=>(aT Ee hr (by decide) (pv 1))))))
abbrev gf:Stmt:=top 53
theorem sc_refuse_no_move:am ["move"] ["move"] (ah gf):=⟨rfl,rfl,rfl,by decide+kernel,rfl,by decide+kernel,by decide+kernel⟩
set_option maxHeartbeats 4000000 in
theorem nF {P:Program} {w:World} {K:PySem.W.Frag} {mg:Str→Option Value} {base:Heap} (B:Bt2 mg) (AB:Cal P w K mg base 1 "is_whole" ["value"] (bg K)) {t_MANY_MOVES:Tok} (Cf:mg "MANY_MOVES"=some (.int 8 t_MANY_MOVES)) {a:EA} (EM:ErrMx mg a) (R_NoMove:lG K a "NoMove" a.NoMove (oz a)) {f:Addr} {fd:FuncData} (F:Fun K "refuse_no_move" "refuse_no_move" gf f fd):FnOk P w K mg base (CX1 P w) 2 f fd ["move"] (aZ K):=by
 refine F.ok1 sc_refuse_no_move (fun vs H Q E h=>nj h) (fun cdv A outer s H vs Q E hr h=>?_)
 have hu:=hr.units
 have nd:=sc_refuse_no_move.nd
 refine ⟨cU K a E,?_,nk R_NoMove h⟩
 exact (ag (az (PW.pt (gn (bz (bi (ap AB hr (by decide) rfl (aa (pv 0) ac)))) (gn (ar sW (pv 0) af (av _)) (i3 (ar wy (pv 0) (bc rfl Cf ⟨t_MANY_MOVES,rfl⟩) (av _)))))) (ag (oi R_NoMove.xc rfl EM.NoMove (aa aF ac))) aq))
abbrev kf:Stmt:=top 58
theorem sc_moved_cell:am ["floor","move","cell","now","spot","turn"] ["floor","move","cell"] (ah kf):=⟨rfl,rfl,rfl,by decide+kernel,rfl,by decide+kernel,by decide+kernel⟩
set_option maxHeartbeats 4000000 in
theorem sw {P:Program} {w:World} {K:PySem.W.Frag} {mg:Str→Option Value} {base:Heap} (B:Bt2 mg) (Bq:Cal P w K mg base 1 "mirrored_spot" ["floor","spot"] (bM K)) (Dh:Cal P w K mg base 1 "spot_of" ["floor","cell"] (eF K)) (AG:Cal P w K mg base 1 "turned_floor" ["floor"] (bo K)) (B0:Cal P w K mg base 1 "turned_spot" ["floor","spot"] (cm K)) {t_MANY_TURNS:Tok} (AH:mg "MANY_TURNS"=some (.int 4 t_MANY_TURNS)) {f:Addr} {fd:FuncData} (F:Fun K "moved_cell" "moved_cell" kf f fd):FnOk P w K mg base CX0 2 f fd ["floor","move","cell"] (cH K):=by
 refine F.ok sc_moved_cell (fun vs H Q E h=>se h) (fun cdv A outer s H vs Q E hr h=>?_)
 have hu:=hr.units
 have nd:=sc_moved_cell.nd
 refine ⟨fX K,?_,sf h⟩
 exact (ad (ao (i:=3) nd rfl (Or.inl rfl) (pv 0))
   (ad (ao (i:=4) nd rfl (Or.inl rfl) (ap Dh hr (by decide) rfl (aa (pv 0) (aa (pv 2) ac))))
   (ad (az (ar wy (pv 1) (bc rfl AH ⟨t_MANY_TURNS,rfl⟩) (av _)) (ag (ao (i:=4) nd rfl (Or.inl rfl) (ap Bq hr (by decide) rfl (aa (pv 0) (aa (pv 4) ac))))) aq)
   (ad (fB PassesOwn.never rfl (cJ rfl B.range_ (aa (aj aH (pv 1) (bc rfl AH ⟨t_MANY_TURNS,rfl⟩)) ac)) (aC (i:=5) nd rfl (Or.inl rfl))
   (ad (ao (i:=4) nd rfl (Or.inl rfl) (ap B0 hr (by decide) rfl (aa (pv 3) (aa (pv 4) ac))))
   (ag (ao (i:=3) nd rfl (Or.inl rfl) (ap AG hr (by decide) rfl (aa (pv 3) ac))))))
   (ag (ak (aj ax (aj bX (ay (aE hu) (pv 4) af (fun _ _=>rfl)) (ay (aE hu) (pv 3) af (fun _ _=>rfl))) (ay (aE hu) (pv 4) af (fun _ _=>rfl)))))))))
abbrev jj:Stmt:=top 61
theorem sc_is_exchange:am ["floor","signs"] ["floor","signs"] (ah jj):=⟨rfl,rfl,rfl,by decide+kernel,rfl,by decide+kernel,by decide+kernel⟩
set_option maxHeartbeats 4000000 in
theorem qY {P:Program} {w:World} {K:PySem.W.Frag} {mg:Str→Option Value} {base:Heap} (B:Bt2 mg) (AB:Cal P w K mg base 1 "is_whole" ["value"] (bg K)) (Aw:Cal P w K mg base 1 "unchanged_signs" ["floor"] (aN K)) {f:Addr} {fd:FuncData} (F:Fun K "is_exchange" "is_exchange" jj f fd):FnOk P w K mg base CX0 2 f fd ["floor","signs"] (cr K):=by
 refine F.ok sc_is_exchange (fun vs H Q E h=>qL h) (fun cdv A outer s H vs Q E hr h=>?_)
 have hu:=hr.units
 have nd:=sc_is_exchange.nd
 refine ⟨fe K,?_,qM h⟩
 exact (ad (az (PW.pt (gn (bz (bi (aA gi rfl B.isinstance_ aS (aa (pv 1) (aa (io (v:=.ty "list") rfl B.list_ ce rfl) ac))))) (i3 (bz (bi (aA (me rfl) rfl B.all_ tm (aa (bD (ix:=[none,none]) [".0","sign"] (aW rfl (by decide+kernel) rfl rfl rfl) rfl (bp (pv 1)) (fun cl s H fp=>(aC (i:=1) (show ([".0","sign"]:List Str).Nodup by decide+kernel) rfl (Or.inl rfl))) (fun cl s H fp=>br) (fun cl s H fp=>(ap AB hr (by decide) rfl (aa (pv 1) ac)))) ac))))))) (ag (ak fL)) aq)
   (ag (ak (bH (aI hu) (aA sX rfl B.sorted_ wB (aa (pv 1) ac)) (ap Aw hr (by decide) rfl (aa (pv 0) ac)) (av _)))))
abbrev kg:Stmt:=top 65
theorem sc_moved_line:am ["rule","cells","signs"] ["rule","cells","signs"] (ah kg):=⟨rfl,rfl,rfl,by decide+kernel,rfl,by decide+kernel,by decide+kernel⟩
set_option maxHeartbeats 4000000 in
theorem sx {P:Program} {w:World} {K:PySem.W.Frag} {mg:Str→Option Value} {base:Heap} (B:Bt2 mg) {c:RCl RK} (AK:Cal P w K mg base 1 "exchanged" ["sign","signs"] (bV K)) (Di:Cal P w K mg base 1 "line_by" ["name","amount","mark","cells"] (fj K)) (Ef:MCal P w K mg base c c.ok 1 "name" ["self"] (mY K c)) (Ds:MCal P w K mg base c c.ok 1 "number" ["self"] (ky K c)) (Eg:MCal P w K mg base c c.ok 1 "sign" ["self"] (mZ K c)) (DT:MCal P w K mg base c c.ok 1 "spots" ["self"] (lH K c)) {f:Addr} {fd:FuncData} (F:Fun K "moved_line" "moved_line" kg f fd):FnOk P w K mg base CX0 2 f fd ["rule","cells","signs"] (cI K c):=by
 refine F.ok sc_moved_line (fun vs H Q E h=>sh h) (fun cdv A outer s H vs Q E hr h=>?_)
 have hu:=hr.units
 have nd:=sc_moved_line.nd
 refine ⟨fY K c,?_,si h⟩
 exact (ag (ak (ap Di hr (by decide) rfl (aa (aT Ef hr (by decide) (pv 0)) (aa (aT Ds hr (by decide) (pv 0)) (aa (ap AK hr (by decide) rfl (aa (aT Eg hr (by decide) (pv 0)) (aa (pv 2) ac))) (aa (bD (ix:=[none,none,some 1]) [".0","cell","cells"] (aW rfl (by decide+kernel) rfl rfl rfl) rfl (bp (aT DT hr (by decide) (pv 0))) (fun cl s H fp=>(aC (i:=1) (show ([".0","cell","cells"]:List Str).Nodup by decide+kernel) rfl (Or.inl rfl))) (fun cl s H fp=>br) (fun cl s H fp=>(ay (aE hu) (pv 2) (pv 1) (fun _ _=>rfl)))) ac)))))))
abbrev ii:Stmt:=top 66
theorem sc_has_reckoning:am ["puzzle"] ["puzzle"] (ah ii):=⟨rfl,rfl,rfl,by decide+kernel,rfl,by decide+kernel,by decide+kernel⟩
set_option maxHeartbeats 4000000 in
theorem oX {P:Program} {w:World} {K:PySem.W.Frag} {mg:Str→Option Value} {base:Heap} (B:Bt2 mg) {c:RCl RK} {d:RCl PzK} (Dj:MCal P w K mg base c c.ok 1 "reckons" ["self"] (dk K c)) (BK:MCal P w K mg base d d.ok 1 "rules" ["self"] (iF K c d)) {f:Addr} {fd:FuncData} (F:Fun K "has_reckoning" "has_reckoning" ii f fd):FnOk P w K mg base CX0 2 f fd ["puzzle"] (bP K c d):=by
 refine F.ok sc_has_reckoning (fun vs H Q E h=>oP h) (fun cdv A outer s H vs Q E hr h=>?_)
 have hu:=hr.units
 have nd:=sc_has_reckoning.nd
 refine ⟨dA K c d,?_,oQ h⟩
 exact (ag (ak (aA (rz rfl) rfl B.any_ wC (aa (bD (ix:=[none,none]) [".0","rule"] (aW rfl (by decide+kernel) rfl rfl rfl) rfl (bp (aT BK hr (by decide) (pv 0))) (fun cl s H fp=>(aC (i:=1) (show ([".0","rule"]:List Str).Nodup by decide+kernel) rfl (Or.inl rfl))) (fun cl s H fp=>br) (fun cl s H fp=>(aT Dj hr (by decide) (pv 1)))) ac))))
abbrev kh:Stmt:=top 70
theorem sc__law_floor:am ["_law_script","_law_high","_law_wide"] ["_law_script"] (ah kh):=⟨rfl,rfl,rfl,by decide+kernel,rfl,by decide+kernel,by decide+kernel⟩
set_option maxHeartbeats 4000000 in
theorem sy {P:Program} {w:World} {K:PySem.W.Frag} {mg:Str→Option Value} {base:Heap} (B:Bt2 mg) (Az:Cal P w K mg base 1 "_law_at" ["_law_script","_law_k"] (aP K)) {f:Addr} {fd:FuncData} (F:Fun K "_law_floor" "_law_floor" kh f fd):FnOk P w K mg base CX0 2 f fd ["_law_script"] (cA K):=by
 refine F.ok sc__law_floor (fun vs H Q E h=>rM h) (fun cdv A outer s H vs Q E hr h=>?_)
 have hu:=hr.units
 have nd:=sc__law_floor.nd
 refine ⟨fN K,?_,rN h⟩
 exact (ad (ao (i:=1) nd rfl (Or.inl rfl) (aj ax af (aj aH (ap Az hr (by decide) rfl (aa (pv 0) (aa af ac))) af)))
   (ad (ao (i:=2) nd rfl (Or.inl rfl) (aj ax af (aj aH (ap Az hr (by decide) rfl (aa (pv 0) (aa af ac))) (aA (wz rfl) rfl B.min_ zg (aa af (aa (aj gh af (pv 1)) ac))))))
   (ag (ak (d7 (aa (pv 1) (aa (pv 2) (aa (aj ax af (aj aH (ap Az hr (by decide) rfl (aa (pv 0) (aa af ac))) af)) ac))))))))
abbrev kR:Stmt:=top 75
theorem sc__law_line:am ["_law_floor_here","_law_filling_here","_law_cell","_law_many","_law_xs","_law_order_here","_law_some","_law_sign","_law_off","_law_way","_law_words"] ["_law_floor_here","_law_filling_here","_law_cell"] (ah kR):=⟨rfl,rfl,rfl,by decide+kernel,rfl,by decide+kernel,by decide+kernel⟩
set_option maxHeartbeats 4000000 in
theorem ui {P:Program} {w:World} {K:PySem.W.Frag} {mg:Str→Option Value} {base:Heap} (B:Bt2 mg) (CC:Cal P w K mg base 1 "_law_kept" ["_law_order_here","_law_filling_here","_law_rising"] (da K)) (Cg:Cal P w K mg base 1 "_law_order" ["_law_xs","_law_many"] (cG K)) (CD:Cal P w K mg base 1 "_law_seen" ["_law_filling_here","_law_cells"] (db K)) (B1:Cal P w K mg base 1 "_law_stream" ["_law_cell","_law_many"] (cg K)) {f:Addr} {fd:FuncData} (F:Fun K "_law_line" "_law_line" kR f fd):FnOk P w K mg base CX0 2 f fd ["_law_floor_here","_law_filling_here","_law_cell"] (ck K):=by
 refine F.ok sc__law_line (fun vs H Q E h=>qA h) (fun cdv A outer s H vs Q E hr h=>?_)
 have hu:=hr.units
 have nd:=sc__law_line.nd
 refine ⟨e6 K,?_,qB h⟩
 exact (ad (ao (i:=3) nd rfl (Or.inl rfl) (aj bX (ay (aE hu) (pv 0) af (fun _ _=>rfl)) (ay (aE hu) (pv 0) af (fun _ _=>rfl))))
   (ad (ao (i:=4) nd rfl (Or.inl rfl) (ap B1 hr (by decide) rfl (aa (aj gh (pv 2) af) (aa (aj ax (pv 3) af) ac))))
   (ad (ao (i:=5) nd rfl (Or.inl rfl) (ap Cg hr (by decide) rfl (aa (pv 4) (aa (pv 3) ac))))
   (ad (ao (i:=6) nd rfl (Or.inl rfl) (bt dh (pv 5) bI (bJ (aj ax af (aj aH (ay (aE hu) (pv 4) (pv 3) (fun _ _=>rfl)) (pv 3))))))
   (ad (ao (i:=7) nd rfl (Or.inr rfl) (aj ax af (aj aH (ay (aE hu) (pv 4) (aj ax (pv 3) af) (fun _ _=>rfl)) (ay (aE hu) (pv 0) af (fun _ _=>rfl)))))
   (ad (ao (i:=8) nd rfl (Or.inl rfl) (ay (aE hu) (bb (aa af (aa af (aa af (aa af ac))))) (aj aH (ay (aE hu) (pv 4) (aj ax (pv 3) af) (fun _ _=>rfl)) af) (fun _ _=>rfl)))
   (ad (ao (i:=9) nd rfl (Or.inl rfl) (aj aH (pv 2) af))
   (ad (az (ar fD (pv 9) af (av _)) (ag (ak (aj ax (aj ax (ay (aE hu) (bb (aa aF (aa aF (aa aF ac)))) (aj bW (pv 9) af) (fun _ _=>rfl)) aF) (aD bG rfl B.str_ c5 (aa (pv 7) ac))))) aq)
   (ad (az (PW.pt (lZ (ar (kZ hu) (pv 9) (d7 (aa af (aa af ac))) (by with_unfolding_all rfl)) (kU (ar (aI hu) (pv 8) af (av _))))) (ag (ao (i:=6) nd rfl (Or.inl rfl) (bt dh (ap CC hr (by decide) rfl (aa (pv 5) (aa (pv 1) (aa (bH (aI hu) (pv 9) af (av _)) ac)))) bI (bJ (aA bv rfl B.len_ bS (aa (pv 6) ac)))))) aq)
   (ad (ao (i:=10) nd rfl (Or.inl rfl) (bb (aa aF ac)))
   (ad (az (ar (aI hu) (pv 9) af (av _)) (ag (ao (i:=10) nd rfl (Or.inl rfl) (bb (aa aF (aa (aD bG rfl B.str_ c5 (aa (aj ax (aA (wG rfl) rfl B.sum_ zn (aa (bD (ix:=[none,none,some 1]) [".0","_law_one","_law_filling_here"] (aW rfl (by decide+kernel) rfl rfl rfl) rfl (bp (pv 6)) (fun cl s H fp=>(aC (i:=1) (show ([".0","_law_one","_law_filling_here"]:List Str).Nodup by decide+kernel) rfl (Or.inl rfl))) (fun cl s H fp=>br) (fun cl s H fp=>(ay (aE hu) (pv 2) (pv 1) (fun _ _=>rfl)))) ac)) (pv 8)) ac)) ac))))) aq)
   (ad (az (ar (aI hu) (pv 9) af (av _)) (ag (ao (i:=10) nd rfl (Or.inl rfl) (bb (aa aF ac)))) aq)
   (ad (az (ar (aI hu) (pv 9) af (av _)) (ag (ao (i:=10) nd rfl (Or.inl rfl) (bb (aa aF (aa (aD bG rfl B.str_ c5 (aa (aj ax (ap CD hr (by decide) rfl (aa (pv 1) (aa (pv 6) ac))) (pv 8)) ac)) ac))))) aq)
   (ad (az (ar (aI hu) (pv 9) af (av _)) (ag (ao (i:=10) nd rfl (Or.inl rfl) (bb (aa aF (aa (aD bG rfl B.str_ c5 (aa (aj ax (aA bv rfl B.len_ bS (aa (bD (ix:=[none,none,some 1,some 7]) [".0","_law_one","_law_filling_here","_law_sign"] (aW rfl (by decide+kernel) rfl rfl rfl) rfl (bp (pv 6)) (fun cl s H fp=>(aC (i:=1) (show ([".0","_law_one","_law_filling_here","_law_sign"]:List Str).Nodup by decide+kernel) rfl (Or.inl rfl))) (fun cl s H fp=>(mM (ar (aI hu) (ay (aE hu) (pv 2) (pv 1) (fun _ _=>rfl)) (pv 3) (av _)))) (fun cl s H fp=>(pv 1))) ac)) (pv 8)) ac)) (aa (aD bG rfl B.str_ c5 (aa (pv 7) ac)) ac)))))) aq)
   (ag (ak (de PySem.F.plainAttrs_str PySem.F.slot_str_join PySem.F.type_str_join kx aF (aa (aj ax (pv 10) (bD (ix:=[none,none]) [".0","_law_one"] (aW rfl (by decide+kernel) rfl rfl rfl) rfl (bp (pv 6)) (fun cl s H fp=>(aC (i:=1) (show ([".0","_law_one"]:List Str).Nodup by decide+kernel) rfl (Or.inl rfl))) (fun cl s H fp=>br) (fun cl s H fp=>(aD bG rfl B.str_ c5 (aa (pv 1) ac))))) ac))))))))))))))))))
abbrev iP:Stmt:=top 76
theorem sc__law_filling:am ["_law_script","_law_floor_here","_law_at_here"] ["_law_script","_law_floor_here","_law_at_here"] (ah iP):=⟨rfl,rfl,rfl,by decide+kernel,rfl,by decide+kernel,by decide+kernel⟩
set_option maxHeartbeats 4000000 in
theorem qe {P:Program} {w:World} {K:PySem.W.Frag} {mg:Str→Option Value} {base:Heap} (B:Bt2 mg) (Az:Cal P w K mg base 1 "_law_at" ["_law_script","_law_k"] (aP K)) {f:Addr} {fd:FuncData} (F:Fun K "_law_filling" "_law_filling" iP f fd):FnOk P w K mg base CX0 2 f fd ["_law_script","_law_floor_here","_law_at_here"] (bE K):=by
 refine F.ok sc__law_filling (fun vs H Q E h=>ng h) (fun cdv A outer s H vs Q E hr h=>?_)
 have hu:=hr.units
 have nd:=sc__law_filling.nd
 refine ⟨cT K,?_,nh h⟩
 exact (ag (ak (bD (ix:=[none,none,some 2,some 1,some 0]) [".0","_law_k","_law_at_here","_law_floor_here","_law_script"] (aW rfl (by decide+kernel) rfl rfl rfl) rfl (cJ rfl B.range_ (aa (aj bX (ay (aE hu) (pv 1) af (fun _ _=>rfl)) (ay (aE hu) (pv 1) af (fun _ _=>rfl))) ac)) (fun cl s H fp=>(aC (i:=1) (show ([".0","_law_k","_law_at_here","_law_floor_here","_law_script"]:List Str).Nodup by decide+kernel) rfl (Or.inl rfl))) (fun cl s H fp=>br) (fun cl s H fp=>(aj ax af (aj aH (ap Az hr (by decide) rfl (aa (pv 4) (aa (aj ax (pv 2) (pv 1)) ac))) (ay (aE hu) (pv 3) af (fun _ _=>rfl))))))))
abbrev fz:Stmt:=top 80
theorem sc__law_moved_line:am ["_law_floor_here","_law_line_here","_law_move","_law_signs","_law_words","_law_front"] ["_law_floor_here","_law_line_here","_law_move","_law_signs"] (ah fz):=⟨rfl,rfl,rfl,by decide+kernel,rfl,by decide+kernel,by decide+kernel⟩
set_option maxHeartbeats 4000000 in
theorem mH {P:Program} {w:World} {K:PySem.W.Frag} {mg:Str→Option Value} {base:Heap} (B:Bt2 mg) (AN:Cal P w K mg base 1 "_law_spot" ["_law_floor_here","_law_cell","_law_move"] (bU K)) {f:Addr} {fd:FuncData} (F:Fun K "_law_moved_line" "_law_moved_line" fz f fd):FnOk P w K mg base CX0 2 f fd ["_law_floor_here","_law_line_here","_law_move","_law_signs"] (bh K):=by
 refine F.ok sc__law_moved_line (fun vs H Q E h=>lM h) (fun cdv A outer s H vs Q E hr h=>?_)
 have hu:=hr.units
 have nd:=sc__law_moved_line.nd
 refine ⟨b5 K,?_,lN h⟩
 exact (ad (ao (i:=4) nd rfl (Or.inl rfl) (de PySem.F.plainAttrs_str PySem.F.slot_str_split PySem.F.type_str_split md (pv 1) (aa aF ac)))
   (ad (ao (i:=5) nd rfl (Or.inl rfl) (aj ax (aj ax af (aD eJ rfl B.int_ j7 (aa (bH (kZ hu) (ay (aE hu) (pv 4) af (fun _ _=>rfl)) (d7 (aa aF (aa aF ac))) (by with_unfolding_all rfl)) ac))) (aj bX af (aD eJ rfl B.int_ j7 (aa (bH (aI hu) (ay (aE hu) (pv 4) af (fun _ _=>rfl)) aF (av _)) ac)))))
   (ad (az (ar (kZ hu) (ay (aE hu) (pv 4) af (fun _ _=>rfl)) (d7 (aa aF (aa aF (aa aF ac)))) (by with_unfolding_all rfl)) (ag (ak (aj ax (aj ax (ay (aE hu) (pv 4) af (fun _ _=>rfl)) aF) (aD bG rfl B.str_ c5 (aa (ay (aE hu) (pv 3) (aj bW (aD eJ rfl B.int_ j7 (aa (ay (aE hu) (pv 4) af (fun _ _=>rfl)) ac)) af) (fun _ _=>rfl)) ac))))) aq)
   (ad (az (ar (aI hu) (ay (aE hu) (pv 4) af (fun _ _=>rfl)) aF (av _)) (ag (o5 (aD bG rfl B.str_ c5 (aa (ay (aE hu) (pv 3) (aj bW (aD eJ rfl B.int_ j7 (aa (ay (aE hu) (pv 4) af (fun _ _=>rfl)) ac)) af) (fun _ _=>rfl)) ac)) (sI (pv 4) af (vn hu)))) aq)
   (ag (ak (de PySem.F.plainAttrs_str PySem.F.slot_str_join PySem.F.type_str_join kx aF (aa (aj ax (bt dh (pv 4) bI (bJ (pv 5))) (bD (ix:=[none,none,some 0,some 2]) [".0","_law_word","_law_floor_here","_law_move"] (aW rfl (by decide+kernel) rfl rfl rfl) rfl (bp (bt dh (pv 4) (bJ (pv 5)) bI)) (fun cl s H fp=>(aC (i:=1) (show ([".0","_law_word","_law_floor_here","_law_move"]:List Str).Nodup by decide+kernel) rfl (Or.inl rfl))) (fun cl s H fp=>br) (fun cl s H fp=>(aD bG rfl B.str_ c5 (aa (ap AN hr (by decide) rfl (aa (pv 2) (aa (aD eJ rfl B.int_ j7 (aa (pv 1) ac)) (aa (pv 3) ac)))) ac))))) ac))))))))
abbrev lR:Stmt:=top 15
theorem sc_floor_of:am ["high","wide","signs"] ["high","wide","signs"] (ah lR):=⟨rfl,rfl,rfl,by decide+kernel,rfl,by decide+kernel,by decide+kernel⟩
set_option maxHeartbeats 4000000 in
theorem uD {P:Program} {w:World} {K:PySem.W.Frag} {mg:Str→Option Value} {base:Heap} (B:Bt2 mg) (AI:Cal P w K mg base 2 "is_from_one_to" ["value","most"] (aY K)) {t_MOST_CELLS:Tok} (Ch:mg "MOST_CELLS"=some (.int 16 t_MOST_CELLS)) {t_MOST_SIDE:Tok} (BY:mg "MOST_SIDE"=some (.int 6 t_MOST_SIDE)) {t_MOST_SIGNS:Tok} (Ci:mg "MOST_SIGNS"=some (.int 6 t_MOST_SIGNS)) {f:Addr} {fd:FuncData} (F:Fun K "floor_of" "floor_of" lR f fd):FnOk P w K mg base CX0 3 f fd ["high","wide","signs"] (dI K):=by
 refine F.ok sc_floor_of (fun vs H Q E h=>uy h) (fun cdv A outer s H vs Q E hr h=>?_)
 have hu:=hr.units
 have nd:=sc_floor_of.nd
 refine ⟨iZ K,?_,uz h⟩
 exact (ad (az (bz (bi (ap AI hr (by decide) rfl (aa (pv 0) (aa (bc rfl BY ⟨t_MOST_SIDE,rfl⟩) ac))))) (ag bA) aq)
   (ad (az (bz (bi (ap AI hr (by decide) rfl (aa (pv 1) (aa (bc rfl BY ⟨t_MOST_SIDE,rfl⟩) ac))))) (ag bA) aq)
   (ad (az (ar fD (aj bX (pv 0) (pv 1)) (bc rfl Ch ⟨t_MOST_CELLS,rfl⟩) (av _)) (ag bA) aq)
   (ad (az (bz (bi (ap AI hr (by decide) rfl (aa (pv 2) (aa (bc rfl Ci ⟨t_MOST_SIGNS,rfl⟩) ac))))) (ag bA) aq)
   (ag (ak (d7 (aa (pv 0) (aa (pv 1) (aa (pv 2) ac))))))))))
abbrev iQ:Stmt:=top 38
theorem sc_first_within:am ["words","least","most"] ["words","least","most"] (ah iQ):=⟨rfl,rfl,rfl,by decide+kernel,rfl,by decide+kernel,by decide+kernel⟩
set_option maxHeartbeats 4000000 in
theorem qf {P:Program} {w:World} {K:PySem.W.Frag} {mg:Str→Option Value} {base:Heap} (B:Bt2 mg) (AF:Cal P w K mg base 2 "number_within" ["word","least","most"] (bf K)) {f:Addr} {fd:FuncData} (F:Fun K "first_within" "first_within" iQ f fd):FnOk P w K mg base CX0 3 f fd ["words","least","most"] (bj K):=by
 refine F.ok sc_first_within (fun vs H Q E h=>pB h) (fun cdv A outer s H vs Q E hr h=>?_)
 have hu:=hr.units
 have nd:=sc_first_within.nd
 refine ⟨dO K,?_,pC h⟩
 exact (ad (az (ar (aI hu) (pv 0) (bb ac) (av _)) (ag bA) aq)
   (ag (ak (ap AF hr (by decide) rfl (aa (ay (aE hu) (pv 0) af (fun _ _=>rfl)) (aa (pv 1) (aa (pv 2) ac)))))))
abbrev ki:Stmt:=top 39
theorem sc_told_cells:am ["floor","words","cells"] ["floor","words"] (ah ki):=⟨rfl,rfl,rfl,by decide+kernel,rfl,by decide+kernel,by decide+kernel⟩
set_option maxHeartbeats 4000000 in
theorem sB {P:Program} {w:World} {K:PySem.W.Frag} {mg:Str→Option Value} {base:Heap} (B:Bt2 mg) (Au:Cal P w K mg base 1 "many_cells" ["floor"] (aO K)) (AF:Cal P w K mg base 2 "number_within" ["word","least","most"] (bf K)) {f:Addr} {fd:FuncData} (F:Fun K "told_cells" "told_cells" ki f fd):FnOk P w K mg base CX0 3 f fd ["floor","words"] (cC K):=by
 refine F.ok sc_told_cells (fun vs H Q E h=>rT h) (fun cdv A outer s H vs Q E hr h=>?_)
 have hu:=hr.units
 have nd:=sc_told_cells.nd
 refine ⟨fS K,?_,rV h⟩
 exact (ad (jP (k:=2) nd rfl (Or.inl rfl) rfl (ix:=[none,none,some 0]) [".0","word","floor"] (aW rfl (by decide+kernel) rfl rfl rfl) rfl (bp (pv 1)) (fun cl s H fp=>(aC (i:=1) (show ([".0","word","floor"]:List Str).Nodup by decide+kernel) rfl (Or.inl rfl))) (fun cl s H fp=>br) (fun cl s H fp=>(ap AF hr (by decide) rfl (aa (pv 1) (aa af (aa (aj bW (ap Au hr (by decide) rfl (aa (pv 2) ac)) af) ac))))))
   (ad (az (ar (aI hu) (pv 2) (bb ac) (av _)) (ag bA) aq)
   (ad (az (ar (i4 hu) (wQ rfl rfl rfl B.len_ B.set_ (pv 2)) (aA bv rfl B.len_ bS (aa (pv 2) ac)) (av _)) (ag bA) aq)
   (ag (ak (pv 2))))))
abbrev mI:Stmt:=top 41
theorem sc_rule_by:am ["floor","words","cells","amount","mark","name"] ["floor","words","cells","amount","mark"] (ah mI):=⟨rfl,rfl,rfl,by decide+kernel,rfl,by decide+kernel,by decide+kernel⟩
set_option maxHeartbeats 4000000 in
theorem vU {P:Program} {w:World} {K:PySem.W.Frag} {mg:Str→Option Value} {base:Heap} (B:Bt2 mg) {c:RCl RK} (DU:KCal P w K mg base 1 "Count" (c.A .Count) ["self","floor","words","cells","amount","mark"] (al K c)) (Dt:KCal P w K mg base 1 "Joined" (c.A .Joined) ["self","floor","words","cells","amount","mark"] (al K c)) (CH:KCal P w K mg base 1 "NoSquare" (c.A .NoSquare) ["self","floor","words","cells","amount","mark"] (al K c)) (Eh:KCal P w K mg base 1 "Ring" (c.A .Ring) ["self","floor","words","cells","amount","mark"] (al K c)) (Du:KCal P w K mg base 1 "Rising" (c.A .Rising) ["self","floor","words","cells","amount","mark"] (al K c)) (Ei:KCal P w K mg base 1 "Seen" (c.A .Seen) ["self","floor","words","cells","amount","mark"] (al K c)) (K_Sum:KCal P w K mg base 1 "Sum" (c.A .Sum) ["self","floor","words","cells","amount","mark"] (al K c)) (Dv:KCal P w K mg base 1 "Unlike" (c.A .Unlike) ["self","floor","words","cells","amount","mark"] (al K c)) {f:Addr} {fd:FuncData} (F:Fun K "rule_by" "rule_by" mI f fd):FnOk P w K mg base CX0 3 f fd ["floor","words","cells","amount","mark"] (eQ K c):=by
 refine F.ok sc_rule_by (fun vs H Q E h=>vA h) (fun cdv A outer s H vs Q E hr h=>?_)
 have hu:=hr.units
 have nd:=sc_rule_by.nd
 refine ⟨jL K c,?_,vB h⟩
 exact (ad (ao (i:=5) nd rfl (Or.inl rfl) (ay (aE hu) (pv 1) af (fun _ _=>rfl)))
   (ad (az (ar (aI hu) (pv 5) aF (av _)) (ag (ak (iV Dv hr (by decide) rfl (aa (pv 0) (aa (pv 1) (aa (pv 2) (aa (pv 3) (aa (pv 4) ac)))))))) aq)
   (ad (az (ar (aI hu) (pv 5) aF (av _)) (ag (ak (iV K_Sum hr (by decide) rfl (aa (pv 0) (aa (pv 1) (aa (pv 2) (aa (pv 3) (aa (pv 4) ac)))))))) aq)
   (ad (az (ar (aI hu) (pv 5) aF (av _)) (ag (ak (iV Du hr (by decide) rfl (aa (pv 0) (aa (pv 1) (aa (pv 2) (aa (pv 3) (aa (pv 4) ac)))))))) aq)
   (ad (az (ar (aI hu) (pv 5) aF (av _)) (ag (ak (iV Ei hr (by decide) rfl (aa (pv 0) (aa (pv 1) (aa (pv 2) (aa (pv 3) (aa (pv 4) ac)))))))) aq)
   (ad (az (ar (aI hu) (pv 5) aF (av _)) (ag (ak (iV DU hr (by decide) rfl (aa (pv 0) (aa (pv 1) (aa (pv 2) (aa (pv 3) (aa (pv 4) ac)))))))) aq)
   (ad (az (ar (aI hu) (pv 5) aF (av _)) (ag (ak (iV Dt hr (by decide) rfl (aa (pv 0) (aa (pv 1) (aa (pv 2) (aa (pv 3) (aa (pv 4) ac)))))))) aq)
   (ad (az (ar (aI hu) (pv 5) aF (av _)) (ag (ak (iV CH hr (by decide) rfl (aa (pv 0) (aa (pv 1) (aa (pv 2) (aa (pv 3) (aa (pv 4) ac)))))))) aq)
   (ad (az (ar (aI hu) (pv 5) aF (av _)) (ag (ak (iV Eh hr (by decide) rfl (aa (pv 0) (aa (pv 1) (aa (pv 2) (aa (pv 3) (aa (pv 4) ac)))))))) aq)
   (ag bA))))))))))
abbrev ij:Stmt:=top 48
theorem sc_checked_clues:am ["floor","clues"] ["floor","clues"] (ah ij):=⟨rfl,rfl,rfl,by decide+kernel,rfl,by decide+kernel,by decide+kernel⟩
set_option maxHeartbeats 4000000 in
theorem oY {P:Program} {w:World} {K:PySem.W.Frag} {mg:Str→Option Value} {base:Heap} (B:Bt2 mg) (Cj:Cal P w K mg base 2 "is_filling" ["floor","filling","least"] (cF K)) {f:Addr} {fd:FuncData} (F:Fun K "checked_clues" "checked_clues" ij f fd):FnOk P w K mg base CX0 3 f fd ["floor","clues"] (bL K):=by
 refine F.ok sc_checked_clues (fun vs H Q E h=>ou h) (fun cdv A outer s H vs Q E hr h=>?_)
 have hu:=hr.units
 have nd:=sc_checked_clues.nd
 refine ⟨dr K,?_,ow h⟩
 exact (ad (az (bz (bi (ap Cj hr (by decide) rfl (aa (pv 0) (aa (pv 1) (aa af ac)))))) (ag bA) aq)
   (ag (ak (aD b4 rfl B.list_ ce (aa (pv 1) ac)))))
abbrev jk:Stmt:=top 57
theorem sc_moved_floor:am ["floor","move","now","turn"] ["floor","move"] (ah jk):=⟨rfl,rfl,rfl,by decide+kernel,rfl,by decide+kernel,by decide+kernel⟩
set_option maxHeartbeats 4000000 in
theorem qZ {P:Program} {w:World} {K:PySem.W.Frag} {mg:Str→Option Value} {base:Heap} (B:Bt2 mg) (AE:c6 P w K mg base 2 "refuse_no_move" ["move"] (aZ K)) (AG:Cal P w K mg base 1 "turned_floor" ["floor"] (bo K)) {t_MANY_TURNS:Tok} (AH:mg "MANY_TURNS"=some (.int 4 t_MANY_TURNS)) {f:Addr} {fd:FuncData} (F:Fun K "moved_floor" "moved_floor" jk f fd):FnOk P w K mg base (CX1 P w) 3 f fd ["floor","move"] (cp K):=by
 refine F.ok1 sc_moved_floor (fun vs H Q E h=>qE h) (fun cdv A outer s H vs Q E hr h=>?_)
 have hu:=hr.units
 have nd:=sc_moved_floor.nd
 refine ⟨e9 K E,?_,qF h⟩
 exact (ad (gg (dG (gk fun _ _ _ z=>z) AE hr (by decide) rfl (aa (pv 1) ac)))
   (ad (ao (i:=2) nd rfl (Or.inl rfl) (pv 0))
   (ad (fB PassesOwn.leaving rfl (cJ rfl B.range_ (aa (aj aH (pv 1) (bc rfl AH ⟨t_MANY_TURNS,rfl⟩)) ac)) (aC (i:=3) nd rfl (Or.inl rfl))
   (ag (ao (i:=2) nd rfl (Or.inl rfl) (ap AG hr (by decide) rfl (aa (pv 2) ac)))))
   (ag (ak (pv 2))))))
abbrev jl:Stmt:=top 59
theorem sc_moved_cells:am ["floor","move"] ["floor","move"] (ah jl):=⟨rfl,rfl,rfl,by decide+kernel,rfl,by decide+kernel,by decide+kernel⟩
set_option maxHeartbeats 4000000 in
theorem q0 {P:Program} {w:World} {K:PySem.W.Frag} {mg:Str→Option Value} {base:Heap} (B:Bt2 mg) (Au:Cal P w K mg base 1 "many_cells" ["floor"] (aO K)) (Ck:Cal P w K mg base 2 "moved_cell" ["floor","move","cell"] (cH K)) (AE:c6 P w K mg base 2 "refuse_no_move" ["move"] (aZ K)) {f:Addr} {fd:FuncData} (F:Fun K "moved_cells" "moved_cells" jl f fd):FnOk P w K mg base (CX1 P w) 3 f fd ["floor","move"] (bw K):=by
 refine F.ok1 sc_moved_cells (fun vs H Q E h=>qG h) (fun cdv A outer s H vs Q E hr h=>?_)
 have hu:=hr.units
 have nd:=sc_moved_cells.nd
 refine ⟨fb K E,?_,qH h⟩
 exact (ad (gg (dG (gk fun _ _ _ z=>z) AE hr (by decide) rfl (aa (pv 1) ac)))
   (ag (ak (bD (ix:=[none,none,some 0,some 1]) [".0","cell","floor","move"] (aW rfl (by decide+kernel) rfl rfl rfl) rfl (cJ rfl B.range_ (aa (ap Au hr (by decide) rfl (aa (pv 0) ac)) ac)) (fun cl s H fp=>(aC (i:=1) (show ([".0","cell","floor","move"]:List Str).Nodup by decide+kernel) rfl (Or.inl rfl))) (fun cl s H fp=>br) (fun cl s H fp=>(ap Ck hr (by decide) rfl (aa (pv 2) (aa (pv 3) (aa (pv 1) ac)))))))))
abbrev jm:Stmt:=top 62
theorem sc_exchange_by:am ["floor","signs"] ["floor","signs"] (ah jm):=⟨rfl,rfl,rfl,by decide+kernel,rfl,by decide+kernel,by decide+kernel⟩
set_option maxHeartbeats 4000000 in
theorem q5 {P:Program} {w:World} {K:PySem.W.Frag} {mg:Str→Option Value} {base:Heap} (B:Bt2 mg) (B2:Cal P w K mg base 2 "is_exchange" ["floor","signs"] (cr K)) (Aw:Cal P w K mg base 1 "unchanged_signs" ["floor"] (aN K)) {a:EA} (EM:ErrMx mg a) (R_NoMove:lG K a "NoMove" a.NoMove (oz a)) {f:Addr} {fd:FuncData} (F:Fun K "exchange_by" "exchange_by" jm f fd):FnOk P w K mg base (CX1 P w) 3 f fd ["floor","signs"] (bx K):=by
 refine F.ok1 sc_exchange_by (fun vs H Q E h=>qN h) (fun cdv A outer s H vs Q E hr h=>?_)
 have hu:=hr.units
 have nd:=sc_exchange_by.nd
 refine ⟨fg K a E,?_,qO R_NoMove h⟩
 exact (ad (az (ar we (pv 1) kT (av _)) (ag (ak (ap Aw hr (by decide) rfl (aa (pv 0) ac)))) aq)
   (ad (az (bz (bi (ap B2 hr (by decide) rfl (aa (pv 0) (aa (pv 1) ac))))) (ag (oi R_NoMove.xc rfl EM.NoMove (aa aF ac))) aq)
   (ag (ak (pv 1)))))
abbrev mJ:Stmt:=top 84
theorem sc__law_is:am ["_law_found","_law_puzzle","_law_floor_here","_law_move","_law_signs","_law_lines","_law_clues","_law_cell","_law_sign"] ["_law_found","_law_puzzle","_law_floor_here","_law_move","_law_signs"] (ah mJ):=⟨rfl,rfl,rfl,by decide+kernel,rfl,by decide+kernel,by decide+kernel⟩
set_option maxHeartbeats 4000000 in
theorem vV {P:Program} {w:World} {K:PySem.W.Frag} {mg:Str→Option Value} {base:Heap} (B:Bt2 mg) {c:RCl RK} {d:RCl PzK} (B3:Cal P w K mg base 1 "_law_ground" ["_law_floor_here","_law_move"] (cq K)) (AZ:Cal P w K mg base 2 "_law_moved_line" ["_law_floor_here","_law_line_here","_law_move","_law_signs"] (bh K)) (AN:Cal P w K mg base 1 "_law_spot" ["_law_floor_here","_law_cell","_law_move"] (bU K)) (AJ:MCal P w K mg base d d.ok 1 "clues" ["self"] (cQ K c d)) (BL:MCal P w K mg base d d.ok 2 "lines" ["self"] (gb K c d)) (BM:MCal P w K mg base d d.ok 1 "place" ["self"] (iE K c d)) (IS_Puzzle:GIs K mg "Puzzle" (d.A .Puzzle)) {f:Addr} {fd:FuncData} (F:Fun K "_law_is" "_law_is" mJ f fd):FnOk P w K mg base CX0 3 f fd ["_law_found","_law_puzzle","_law_floor_here","_law_move","_law_signs"] (bC K c d):=by
 refine F.ok sc__law_is (fun vs H Q E h=>t7 h) (fun cdv A outer s H vs Q E hr h=>?_)
 have hu:=hr.units
 have nd:=sc__law_is.nd
 refine ⟨hJ K c d,?_,t8 h⟩
 exact (ad (jP (k:=5) nd rfl (Or.inl rfl) rfl (ix:=[none,none,some 2,some 3,some 4]) [".0","_law_line_here","_law_floor_here","_law_move","_law_signs"] (aW rfl (by decide+kernel) rfl rfl rfl) rfl (bp (aT BL hr (by decide) (pv 1))) (fun cl s H fp=>(aC (i:=1) (show ([".0","_law_line_here","_law_floor_here","_law_move","_law_signs"]:List Str).Nodup by decide+kernel) rfl (Or.inl rfl))) (fun cl s H fp=>br) (fun cl s H fp=>(ap AZ hr (by decide) rfl (aa (pv 2) (aa (pv 1) (aa (pv 3) (aa (pv 4) ac)))))))
   (ad (ao (i:=6) nd rfl (Or.inl rfl) (aD b4 rfl B.list_ ce (aa (aT AJ hr (by decide) (pv 1)) ac)))
   (ad (fB PassesOwn.never rfl (uN rfl B.enumerate_ (aa (aT AJ hr (by decide) (pv 1)) ac)) (o4 rfl (dc (aC (i:=7) nd rfl (Or.inl rfl)) (dc (aC (i:=8) nd rfl (Or.inl rfl)) mL)))
   (ag (o5 (ay (aE hu) (aj ax (bb (aa af ac)) (pv 4)) (pv 8) (fun _ _=>rfl)) (sI (pv 6) (ap AN hr (by decide) rfl (aa (pv 2) (aa (pv 7) (aa (pv 3) ac)))) (vn hu)))))
   (ad (az (PW.pt (gn (bz (bi (aA (xh IS_Puzzle.is_) rfl B.isinstance_ aS (aa (pv 0) (aa (bc rfl IS_Puzzle.at_ rfl) ac))))) (i3 (ar (i4 hu) (aT BM hr (by decide) (pv 0)) (ap B3 hr (by decide) rfl (aa (pv 2) (aa (pv 3) ac))) (av _))))) (ag (ak fL)) aq)
   (ag (ak (gp (bH (aI hu) (aT BL hr (by decide) (pv 0)) (pv 5) (av _)) (kW (bH (aI hu) (aT AJ hr (by decide) (pv 0)) (pv 6) (av _))))))))))
abbrev lS:Stmt:=top 40
theorem sc_cells_of:am ["floor","name","words"] ["floor","name","words"] (ah lS):=⟨rfl,rfl,rfl,by decide+kernel,rfl,by decide+kernel,by decide+kernel⟩
set_option maxHeartbeats 4000000 in
theorem uE {P:Program} {w:World} {K:PySem.W.Frag} {mg:Str→Option Value} {base:Heap} (B:Bt2 mg) (Au:Cal P w K mg base 1 "many_cells" ["floor"] (aO K)) (Cm:Cal P w K mg base 3 "told_cells" ["floor","words"] (cC K)) (G_OF_ALL_CELLS:GTup K mg "OF_ALL_CELLS" bZ) {f:Addr} {fd:FuncData} (F:Fun K "cells_of" "cells_of" lS f fd):FnOk P w K mg base CX0 4 f fd ["floor","name","words"] (dH K):=by
 refine F.ok sc_cells_of (fun vs H Q E h=>uu h) (fun cdv A outer s H vs Q E hr h=>?_)
 have hu:=hr.units
 have nd:=sc_cells_of.nd
 refine ⟨iX K,?_,uv h⟩
 exact (ad (az (uU G_OF_ALL_CELLS (pv 1) rfl) (ag (ak (ap Cm hr (by decide) rfl (aa (pv 0) (aa (pv 2) ac))))) aq)
   (ad (az (ar (i4 hu) (pv 2) (bb ac) (av _)) (ag bA) aq)
   (ag (ak (nN rfl rfl rfl B.list_ B.range_ (aa (ap Au hr (by decide) rfl (aa (pv 0) ac)) ac))))))
abbrev ik:Stmt:=top 45
theorem sc_checked_floor:am ["floor"] ["floor"] (ah ik):=⟨rfl,rfl,rfl,by decide+kernel,rfl,by decide+kernel,by decide+kernel⟩
set_option maxHeartbeats 4000000 in
theorem oZ {P:Program} {w:World} {K:PySem.W.Frag} {mg:Str→Option Value} {base:Heap} (B:Bt2 mg) (CI:Cal P w K mg base 3 "floor_of" ["high","wide","signs"] (dI K)) {f:Addr} {fd:FuncData} (F:Fun K "checked_floor" "checked_floor" ik f fd):FnOk P w K mg base CX0 4 f fd ["floor"] (bK K):=by
 refine F.ok sc_checked_floor (fun vs H Q E h=>or h) (fun cdv A outer s H vs Q E hr h=>?_)
 have hu:=hr.units
 have nd:=sc_checked_floor.nd
 refine ⟨dq K,?_,ot h⟩
 exact (ad (az (PW.pt (gn (bz (bi (aA gi rfl B.isinstance_ aS (aa (pv 0) (aa (io (v:=.ty "tuple") rfl B.tuple_ n4 rfl) ac))))) (i3 (ar (i4 hu) (aA bv rfl B.len_ bS (aa (pv 0) ac)) af (av _))))) (ag bA) aq)
   (ag (ak (ap CI hr (by decide) rfl (aa (ay (aE hu) (pv 0) af (fun _ _=>rfl)) (aa (ay (aE hu) (pv 0) af (fun _ _=>rfl)) (aa (ay (aE hu) (pv 0) af (fun _ _=>rfl)) ac)))))))
abbrev il:Stmt:=top 64
theorem sc_moved_filling:am ["floor","filling","move","signs","cells","exchange","found","cell","sign"] ["floor","filling","move","signs"] (ah il):=⟨rfl,rfl,rfl,by decide+kernel,rfl,by decide+kernel,by decide+kernel⟩
set_option maxHeartbeats 4000000 in
theorem kj {P:Program} {w:World} {K:PySem.W.Frag} {mg:Str→Option Value} {base:Heap} (B:Bt2 mg) (AC:c6 P w K mg base 3 "exchange_by" ["floor","signs"] (bx K)) (AK:Cal P w K mg base 1 "exchanged" ["sign","signs"] (bV K)) (Au:Cal P w K mg base 1 "many_cells" ["floor"] (aO K)) (AD:c6 P w K mg base 3 "moved_cells" ["floor","move"] (bw K)) {f:Addr} {fd:FuncData} (F:FunD K "moved_filling" "moved_filling" il f fd [Value.none]):FnOk P w K mg base (CX1 P w) 4 f fd ["floor","filling","move","signs"] (bu K):=by
 refine F.ok1 sc_moved_filling (fun vs H Q E h=>oE h) (fun cdv A outer s H vs Q E hr h=>?_)
 have hu:=hr.units
 have nd:=sc_moved_filling.nd
 refine ⟨du K E,?_,oF h⟩
 exact (ad (ao (i:=4) nd rfl (Or.inl rfl) (dG (gk fun _ _ _ z=>z) AD hr (by decide) rfl (aa (pv 0) (aa (pv 2) ac))))
   (ad (ao (i:=5) nd rfl (Or.inl rfl) (dG (gk fun _ _ _ z=>z) AC hr (by decide) rfl (aa (pv 0) (aa (pv 3) ac))))
   (ad (ao (i:=6) nd rfl (Or.inl rfl) (aj xz (bb (aa af ac)) (ap Au hr (by decide) rfl (aa (pv 0) ac))))
   (ad (fB PassesOwn.leaving rfl (zl rfl B.zip_ (aa (pv 4) (aa (pv 1) ac))) (o4 rfl (dc (aC (i:=7) nd rfl (Or.inl rfl)) (dc (aC (i:=8) nd rfl (Or.inl rfl)) mL)))
   (ag (o5 (ap AK hr (by decide) rfl (aa (pv 8) (aa (pv 5) ac))) (sI (pv 6) (pv 7) (vn hu)))))
   (ag (ak (pv 6)))))))
abbrev kS:Stmt:=top 42
theorem sc_read_rule:am ["floor","line","words","name","rest","amount","mark"] ["floor","line"] (ah kS):=⟨rfl,rfl,rfl,by decide+kernel,rfl,by decide+kernel,by decide+kernel⟩
set_option maxHeartbeats 4000000 in
theorem uj {P:Program} {w:World} {K:PySem.W.Frag} {mg:Str→Option Value} {base:Heap} (B:Bt2 mg) {c:RCl RK} (CJ:Cal P w K mg base 4 "cells_of" ["floor","name","words"] (dH K)) (AY:Cal P w K mg base 3 "first_within" ["words","least","most"] (bj K)) (Dk:Cal P w K mg base 3 "rule_by" ["floor","words","cells","amount","mark"] (eQ K c)) {t_MOST_NUMBER:Tok} (B4:mg "MOST_NUMBER"=some (.int 99 t_MOST_NUMBER)) (G_WITH_NUMBER:GTup K mg "WITH_NUMBER" cf) (G_WITH_SIGN:GTup K mg "WITH_SIGN" cw) {f:Addr} {fd:FuncData} (F:Fun K "read_rule" "read_rule" kS f fd):FnOk P w K mg base CX0 5 f fd ["floor","line"] (c9 K c):=by
 refine F.ok sc_read_rule (fun vs H Q E h=>tV h) (fun cdv A outer s H vs Q E hr h=>?_)
 have hu:=hr.units
 have nd:=sc_read_rule.nd
 refine ⟨gW K c,?_,tW h⟩
 exact (ad (az (bz (bi (aA gi rfl B.isinstance_ aS (aa (pv 1) (aa (io (v:=.ty "str") rfl B.str_ c5 rfl) ac))))) (ag bA) aq)
   (ad (ao (i:=2) nd rfl (Or.inl rfl) (de PySem.F.plainAttrs_str PySem.F.slot_str_split PySem.F.type_str_split md (pv 1) (aa aF ac)))
   (ad (ao (i:=3) nd rfl (Or.inl rfl) (ay (aE hu) (pv 2) af (fun _ _=>rfl)))
   (ad (ao (i:=4) nd rfl (Or.inl rfl) (bt dh (pv 2) (bJ af) bI))
   (ad (ao (i:=5) nd rfl (Or.inl rfl) af)
   (ad (ao (i:=6) nd rfl (Or.inl rfl) af)
   (ad (az (pF G_WITH_NUMBER (pv 3) rfl) (ad (ao (i:=5) nd rfl (Or.inl rfl) (ap AY hr (by decide) rfl (aa (pv 4) (aa af (aa (bc rfl B4 ⟨t_MOST_NUMBER,rfl⟩) ac)))))
   (ag (ao (i:=4) nd rfl (Or.inl rfl) (bt dh (pv 4) (bJ af) bI)))) aq)
   (ad (az (pF G_WITH_SIGN (pv 3) rfl) (ad (ao (i:=6) nd rfl (Or.inl rfl) (ap AY hr (by decide) rfl (aa (pv 4) (aa af (aa (ay (aE hu) (pv 0) af (fun _ _=>rfl)) ac)))))
   (ag (ao (i:=4) nd rfl (Or.inl rfl) (bt dh (pv 4) (bJ af) bI)))) aq)
   (ag (ak (ap Dk hr (by decide) rfl (aa (pv 0) (aa (pv 2) (aa (ap CJ hr (by decide) rfl (aa (pv 0) (aa (pv 3) (aa (pv 4) ac)))) (aa (pv 5) (aa (pv 6) ac))))))))))))))))
abbrev km:Stmt:=top 46
theorem sc_read_rules:am ["floor","lines"] ["floor","lines"] (ah km):=⟨rfl,rfl,rfl,by decide+kernel,rfl,by decide+kernel,by decide+kernel⟩
set_option maxHeartbeats 4000000 in
theorem sC {P:Program} {w:World} {K:PySem.W.Frag} {mg:Str→Option Value} {base:Heap} (B:Bt2 mg) {c:RCl RK} (CF:Cal P w K mg base 5 "read_rule" ["floor","line"] (c9 K c)) {t_MOST_RULES:Tok} (Cn:mg "MOST_RULES"=some (.int 12 t_MOST_RULES)) {f:Addr} {fd:FuncData} (F:Fun K "read_rules" "read_rules" km f fd):FnOk P w K mg base CX0 6 f fd ["floor","lines"] (cD K c):=by
 refine F.ok sc_read_rules (fun vs H Q E h=>rW h) (fun cdv A outer s H vs Q E hr h=>?_)
 have hu:=hr.units
 have nd:=sc_read_rules.nd
 refine ⟨fU K c,?_,rX h⟩
 exact (ad (az (ar fD (aA bv rfl B.len_ bS (aa (pv 1) ac)) (bc rfl Cn ⟨t_MOST_RULES,rfl⟩) (av _)) (ag bA) aq)
   (ag (ak (bD (ix:=[none,none,some 0]) [".0","line","floor"] (aW rfl (by decide+kernel) rfl rfl rfl) rfl (bp (pv 1)) (fun cl s H fp=>(aC (i:=1) (show ([".0","line","floor"]:List Str).Nodup by decide+kernel) rfl (Or.inl rfl))) (fun cl s H fp=>br) (fun cl s H fp=>(ap CF hr (by decide) rfl (aa (pv 2) (aa (pv 1) ac))))))))
abbrev fA:Stmt:=mtop 49 0
theorem sc_Puzzle___init__:am ["self","floor","lines","clues"] ["self","floor","lines","clues"] (ah fA):=⟨rfl,rfl,rfl,by decide+kernel,rfl,by decide+kernel,by decide+kernel⟩
set_option maxHeartbeats 4000000 in
theorem mK {P:Program} {w:World} {K:PySem.W.Frag} {mg:Str→Option Value} {base:Heap} (B:Bt2 mg) {c:RCl RK} {d:RCl PzK} (Br:Cal P w K mg base 3 "checked_clues" ["floor","clues"] (bL K)) (Bs:Cal P w K mg base 4 "checked_floor" ["floor"] (bK K)) (Co:Cal P w K mg base 6 "read_rules" ["floor","lines"] (cD K c)) (FK_d_floor:FldK K d "floor") (FK_d_given:FldK K d "given") (FK_d_laws:FldK K d "laws") {f:Addr} {fd:FuncData} (F:Fun K "__init__" "Puzzle.__init__" fA f fd):FnOk P w K mg base CX0 7 f fd ["self","floor","lines","clues"] (aM K c d):=by
 refine F.ok sc_Puzzle___init__ (fun vs H Q E h=>mn h) (fun cdv A outer s H vs Q E hr h=>?_)
 have hu:=hr.units
 have nd:=sc_Puzzle___init__.nd
 refine ⟨cL K c d,?_,mq h⟩
 exact (ad (gm (pv 0) (ap Bs hr (by decide) rfl (aa (pv 1) ac)) FK_d_floor)
   (ad (gm (pv 0) (ap Co hr (by decide) rfl (aa (c7 (pv 0) FK_d_floor) (aa (pv 2) ac))) FK_d_laws)
   (ag (gm (pv 0) (ap Br hr (by decide) rfl (aa (c7 (pv 0) FK_d_floor) (aa (pv 3) ac))) FK_d_given))))
abbrev ra:Stmt:=top 67
theorem sc_moved:am ["puzzle","move","signs","floor","cells","exchange","lines"] ["puzzle","move","signs"] (ah ra):=⟨rfl,rfl,rfl,by decide+kernel,rfl,by decide+kernel,by decide+kernel⟩
set_option maxHeartbeats 4000000 in
theorem uk {P:Program} {w:World} {K:PySem.W.Frag} {mg:Str→Option Value} {base:Heap} (B:Bt2 mg) {c:RCl RK} {d:RCl PzK} (AC:c6 P w K mg base 3 "exchange_by" ["floor","signs"] (bx K)) (AS:Cal P w K mg base 2 "has_reckoning" ["puzzle"] (bP K c d)) (AD:c6 P w K mg base 3 "moved_cells" ["floor","move"] (bw K)) (AT:c6 P w K mg base 4 "moved_filling" ["floor","filling","move","signs"] (bu K)) (Bc:c6 P w K mg base 3 "moved_floor" ["floor","move"] (cp K)) (Bu:Cal P w K mg base 2 "moved_line" ["rule","cells","signs"] (cI K c)) (Aw:Cal P w K mg base 1 "unchanged_signs" ["floor"] (aN K)) (AJ:MCal P w K mg base d d.ok 1 "clues" ["self"] (cQ K c d)) (BM:MCal P w K mg base d d.ok 1 "place" ["self"] (iE K c d)) (BK:MCal P w K mg base d d.ok 1 "rules" ["self"] (iF K c d)) (Be:KCal P w K mg base 7 "Puzzle" (d.A .Puzzle) ["self","floor","lines","clues"] (aM K c d)) {a:EA} (EM:ErrMx mg a) (R_NoMove:lG K a "NoMove" a.NoMove (oz a)) {f:Addr} {fd:FuncData} (F:FunD K "moved" "moved" ra f fd [Value.none]):FnOk P w K mg base (CX1 P w) 9 f fd ["puzzle","move","signs"] (bQ K c d):=by
 refine F.ok1 sc_moved (fun vs H Q E h=>xW h) (fun cdv A outer s H vs Q E hr h=>?_)
 have hu:=hr.units
 have nd:=sc_moved.nd
 refine ⟨lL K c d a E,?_,xX R_NoMove h⟩
 exact (ad (ao (i:=3) nd rfl (Or.inl rfl) (aT BM hr (by decide) (pv 0)))
   (ad (ao (i:=4) nd rfl (Or.inr rfl) (dG (gk fun _ _ _ z=>z) AD hr (by decide) rfl (aa (pv 3) (aa (pv 1) ac))))
   (ad (ao (i:=5) nd rfl (Or.inr rfl) (dG (gk fun _ _ _ z=>z) AC hr (by decide) rfl (aa (pv 3) (aa (pv 2) ac))))
   (ad (az (PW.pt (lZ (ar (i4 hu) (pv 5) (ap Aw hr (by decide) rfl (aa (pv 3) ac)) (av _)) (kU (bi (ap AS hr (by decide) rfl (aa (pv 0) ac)))))) (ag (oi R_NoMove.xc rfl EM.NoMove (aa aF ac))) aq)
   (ad (jP (k:=6) nd rfl (Or.inl rfl) rfl (ix:=[none,none,some 4,some 5]) [".0","rule","cells","exchange"] (aW rfl (by decide+kernel) rfl rfl rfl) rfl (bp (aT BK hr (by decide) (pv 0))) (fun cl s H fp=>(aC (i:=1) (show ([".0","rule","cells","exchange"]:List Str).Nodup by decide+kernel) rfl (Or.inl rfl))) (fun cl s H fp=>br) (fun cl s H fp=>(ap Bu hr (by decide) rfl (aa (pv 1) (aa (pv 2) (aa (pv 3) ac))))))
   (ag (ak (iV Be hr (by decide) rfl (aa (dG (gk fun _ _ _ z=>z) Bc hr (by decide) rfl (aa (pv 3) (aa (pv 1) ac))) (aa (pv 6) (aa (dG (gk fun _ _ _ z=>z) AT hr (by decide) rfl (aa (pv 3) (aa (aT AJ hr (by decide) (pv 0)) (aa (pv 1) (aa (pv 5) ac))))) ac)))))))))))
abbrev iR:Stmt:=top 83
theorem sc__law_refused:am ["_law_puzzle","_law_move","_law_signs","_law_caught","error","_law_others"] ["_law_puzzle","_law_move","_law_signs"] (ah iR):=⟨rfl,rfl,rfl,by decide+kernel,rfl,by decide+kernel,by decide+kernel⟩
set_option maxHeartbeats 4000000 in
theorem qg {P:Program} {w:World} {K:PySem.W.Frag} {mg:Str→Option Value} {base:Heap} (B:Bt2 mg) {c:RCl RK} {d:RCl PzK} (BN:c6 P w K mg base 9 "moved" ["puzzle","move","signs"] (bQ K c d)) {a:EA} (EM:ErrMx mg a) (R_NoMove:lG K a "NoMove" a.NoMove (oz a)) (BV:mg "ValueError"=none) {f:Addr} {fd:FuncData} (F:Fun K "_law_refused" "_law_refused" iR f fd):FnOk P w K mg base CX0 10 f fd ["_law_puzzle","_law_move","_law_signs"] (ba K c d):=by
 refine F.ok sc__law_refused (fun vs H Q E h=>nw h) (fun cdv A outer s H vs Q E hr h=>?_)
 have hu:=hr.units
 have nd:=sc__law_refused.nd
 refine ⟨cY K c d a,?_,nA R_NoMove h⟩
 exact (ad (ao (i:=3) nd rfl (Or.inl rfl) kT)
   (ad (yz (i:=4) (fun _ _ z=>z) BN hr (by decide) rfl (aa (pv 0) (aa (pv 1) (aa (pv 2) ac))) nd rfl rfl rfl EM.ClueError rfl rfl (fun _=>(ag (ao (i:=3) nd rfl (Or.inl rfl) (pv 4)))))
   (ad (ao (i:=5) nd rfl (Or.inl rfl) (bb (aa (aA gl rfl B.isinstance_ aS (aa (pv 3) (aa (bc rfl EM.NoFilling rfl) ac))) (aa (aA gl rfl B.isinstance_ aS (aa (pv 3) (aa (bc rfl EM.NoPuzzle rfl) ac))) (aa (aA gl rfl B.isinstance_ aS (aa (pv 3) (aa (bc rfl EM.TooMany rfl) ac))) ac)))))
   (ad (ao (i:=5) nd rfl (Or.inl rfl) (aj ax (pv 5) (bb (aa (aA gl rfl B.isinstance_ aS (aa (pv 3) (aa (bc rfl EM.NoRule rfl) ac))) (aa (sH (aA gl rfl B.isinstance_ aS (aa (pv 3) (aa (io (v:=.ty "ValueError") rfl BV rO rfl) ac)))) ac)))))
   (ag (ak (gp (aA gl rfl B.isinstance_ aS (aa (pv 3) (aa (bc rfl EM.NoMove rfl) ac))) (kW (sH (aA (rz rfl) rfl B.any_ wC (aa (pv 5) ac)))))))))))
abbrev m6:Stmt:=top 85
theorem sc_law:am ["_law_script","_law_floor_here","_law_filling_here","_law_lines","_law_clues","_law_puzzle","_law_move","_law_same","_law_signs","_law_handed","_law_odd","_law_bad"] ["_law_script"] (ah m6):=⟨rfl,rfl,rfl,by decide+kernel,rfl,by decide+kernel,by decide+kernel⟩
set_option maxHeartbeats 4000000 in
theorem zJ {P:Program} {w:World} {K:PySem.W.Frag} {mg:Str→Option Value} {base:Heap} (B:Bt2 mg) {c:RCl RK} {d:RCl PzK} (Az:Cal P w K mg base 1 "_law_at" ["_law_script","_law_k"] (aP K)) (Bv:Cal P w K mg base 1 "_law_bad_list" ["_law_signs","_law_cell"] (bO K)) (Bw:Cal P w K mg base 1 "_law_exchange" ["_law_cell","_law_many"] (bN K)) (BO:Cal P w K mg base 2 "_law_filling" ["_law_script","_law_floor_here","_law_at_here"] (bE K)) (Cp:Cal P w K mg base 2 "_law_floor" ["_law_script"] (cA K)) (BZ:Cal P w K mg base 3 "_law_is" ["_law_found","_law_puzzle","_law_floor_here","_law_move","_law_signs"] (bC K c d)) (CG:Cal P w K mg base 2 "_law_line" ["_law_floor_here","_law_filling_here","_law_cell"] (ck K)) (BP:Cal P w K mg base 1 "_law_reckons" ["_law_lines"] (bF K)) (AL:Cal P w K mg base 10 "_law_refused" ["_law_puzzle","_law_move","_law_signs"] (ba K c d)) (BN:c6 P w K mg base 9 "moved" ["puzzle","move","signs"] (bQ K c d)) (AJ:MCal P w K mg base d d.ok 1 "clues" ["self"] (cQ K c d)) (BL:MCal P w K mg base d d.ok 2 "lines" ["self"] (gb K c d)) (Be:KCal P w K mg base 7 "Puzzle" (d.A .Puzzle) ["self","floor","lines","clues"] (aM K c d)) (CD_moved:sG P w K mg base 9 "moved" ["puzzle","move","signs"] (bQ K c d) [Value.none]) {f:Addr} {fd:FuncData} (F:Fun K "law" "law" m6 f fd):FnOk P w K mg base CX0 11 f fd ["_law_script"] (t9 K c d):=by
 refine F.ok sc_law (fun vs H Q E h=>zH h) (fun cdv A outer s H vs Q E hr h=>?_)
 have hu:=hr.units
 have nd:=sc_law.nd
 refine ⟨pZ K c d,?_,zI h⟩
 exact (ad (ao (i:=1) nd rfl (Or.inr rfl) (ap Cp hr (by decide) rfl (aa (pv 0) ac)))
   (ad (ao (i:=2) nd rfl (Or.inr rfl) (ap BO hr (by decide) rfl (aa (pv 0) (aa (pv 1) (aa af ac)))))
   (ad (jP (k:=3) nd rfl (Or.inl rfl) rfl (ix:=[none,none,some 2,some 1,some 0]) [".0","_law_k","_law_filling_here","_law_floor_here","_law_script"] (aW rfl (by decide+kernel) rfl rfl rfl) rfl (cJ rfl B.range_ (aa (aj aH (ap Az hr (by decide) rfl (aa (pv 0) (aa af ac))) af) ac)) (fun cl s H fp=>(aC (i:=1) (show ([".0","_law_k","_law_filling_here","_law_floor_here","_law_script"]:List Str).Nodup by decide+kernel) rfl (Or.inl rfl))) (fun cl s H fp=>br) (fun cl s H fp=>(ap CG hr (by decide) rfl (aa (pv 3) (aa (pv 2) (aa (ap Az hr (by decide) rfl (aa (pv 4) (aa (aj ax af (pv 1)) ac))) ac))))))
   (ad (jP (k:=4) nd rfl (Or.inl rfl) rfl (ix:=[none,none,none,some 0]) [".0","_law_k","_law_sign","_law_script"] (aW rfl (by decide+kernel) rfl rfl rfl) rfl (uN rfl B.enumerate_ (aa (pv 2) ac)) (fun cl s H fp=>(o4 rfl (dc (aC (i:=1) (show ([".0","_law_k","_law_sign","_law_script"]:List Str).Nodup by decide+kernel) rfl (Or.inl rfl)) (dc (aC (i:=2) (show ([".0","_law_k","_law_sign","_law_script"]:List Str).Nodup by decide+kernel) rfl (Or.inl rfl)) mL)))) (fun cl s H fp=>br) (fun cl s H fp=>(aj bX (pv 2) (aj aH (aj gh (ap Az hr (by decide) rfl (aa (pv 3) (aa (aj ax af (pv 1)) ac))) af) af))))
   (ad (ao (i:=5) nd rfl (Or.inl rfl) (iV Be hr (by decide) rfl (aa (pv 1) (aa (aD b4 rfl B.list_ ce (aa (pv 3) ac)) (aa (aD b4 rfl B.list_ ce (aa (pv 4) ac)) ac)))))
   (ad (ao (i:=6) nd rfl (Or.inl rfl) (aj aH (ap Az hr (by decide) rfl (aa (pv 0) (aa af ac))) af))
   (ad (ao (i:=7) nd rfl (Or.inl rfl) (kF rfl rfl rfl B.list_ B.range_ (aa af (aa (aj ax (ay (aE hu) (pv 1) af (fun _ _=>rfl)) af) ac))))
   (ad (ao (i:=8) nd rfl (Or.inl rfl) (ap Bw hr (by decide) rfl (aa (ap Az hr (by decide) rfl (aa (pv 0) (aa af ac))) (aa (ay (aE hu) (pv 1) af (fun _ _=>rfl)) ac))))
   (ad (az (bz (bi (ap BZ hr (by decide) rfl (aa (xP vy CD_moved xQ hr (by decide) rfl (aa (pv 5) (aa (pv 6) ac))) (aa (pv 5) (aa (pv 1) (aa (pv 6) (aa (pv 7) ac)))))))) (ag (ak fL)) aq)
   (ad (az (bz (bi (ap BZ hr (by decide) rfl (aa (dG vy BN hr (by decide) rfl (aa (pv 5) (aa (pv 6) (aa (aD b4 rfl B.list_ ce (aa (pv 7) ac)) ac)))) (aa (pv 5) (aa (pv 1) (aa (pv 6) (aa (pv 7) ac)))))))) (ag (ak fL)) aq)
   (ad (ao (i:=9) nd rfl (Or.inl rfl) (aD b4 rfl B.list_ ce (aa (pv 8) ac)))
   (ad (az (PW.pt (lZ (ar (i4 hu) (pv 8) (pv 7) (av _)) (kU (bi (ap BP hr (by decide) rfl (aa (pv 3) ac)))))) (ag (az (bz (bi (ap AL hr (by decide) rfl (aa (pv 5) (aa (pv 6) (aa (pv 9) ac)))))) (ag (ak fL)) aq)) (ag (az (bz (bi (ap BZ hr (by decide) rfl (aa (dG vy BN hr (by decide) rfl (aa (pv 5) (aa (pv 6) (aa (pv 9) ac)))) (aa (pv 5) (aa (pv 1) (aa (pv 6) (aa (pv 8) ac)))))))) (ag (ak fL)) aq)))
   (ad (ao (i:=10) nd rfl (Or.inl rfl) (ay (aE hu) (bb (aa (zM yW af) (aa af (aa (aj uL af af) ac)))) (aj aH (ap Az hr (by decide) rfl (aa (pv 0) (aa af ac))) af) (fun _ _=>rfl)))
   (ad (ao (i:=11) nd rfl (Or.inl rfl) (ap Bv hr (by decide) rfl (aa (pv 8) (aa (ap Az hr (by decide) rfl (aa (pv 0) (aa af ac))) ac))))
   (ad (az (PW.pt (gn (bz (bi (ap AL hr (by decide) rfl (aa (pv 5) (aa (pv 10) (aa kT ac)))))) (i3 (bz (bi (ap AL hr (by decide) rfl (aa (pv 5) (aa (pv 6) (aa (pv 11) ac))))))))) (ag (ak fL)) aq)
   (ag (ak (gp (bH (aI hu) (pv 9) (pv 8) (av _)) (gp (bH (aI hu) (aT BL hr (by decide) (pv 5)) (pv 3) (av _)) (kW (bH (aI hu) (aT AJ hr (by decide) (pv 5)) (pv 4) (av _))))))))))))))))))))))
def mkC (Aq AA As Ax Av At Ap Ay:Addr):RCl RK:=⟨fun k=>match k with | .Rule=>Aq | .Unlike=>Aq | .Sum=>AA | .Rising=>As | .Seen=>Ax | .Count=>Av | .Joined=>At | .NoSquare=>Ap | .Ring=>Ay,fun k=>match k with | .Rule=>false | _=>true⟩
def mkD (Ar:Addr):RCl PzK:=⟨fun _=>Ar,fun _=>true⟩
set_option maxHeartbeats 40000000 in
theorem zK {l:PySem.W.OpenLaw} {w:World} {K:PySem.W.Frag} {h:Heap} {mg:Str→Option Value} {fa:Addr} (X:K.In h) (G:h.Ns mainGlobals mg) (hfa:mg "law"=some (.ref fa))
  {f0 f1 f2 f3 f4 f5 f6 f7 f8 f9 f10 f11 f12 f13 f14 f15 f16 f17 f18 f19 f20 f21 f22 f23 f24 f25 f26 f27 f28 f29 f30 f31 f32 f33 f34 f35 f36 f37 f38 f39 f40 f41 f42 f43 f44 f45 f46 f47 f48 f49 f50 f51 f52 f53 f54 f55 f56 f57 f58 f59 f60 f61 f62 f63:Addr} {fd0 fd1 fd2 fd3 fd4 fd5 fd6 fd7 fd8 fd9 fd10 fd11 fd12 fd13 fd14 fd15 fd16 fd17 fd18 fd19 fd20 fd21 fd22 fd23 fd24 fd25 fd26 fd27 fd28 fd29 fd30 fd31 fd32 fd33 fd34 fd35 fd36 fd37 fd38 fd39 fd40 fd41 fd42 fd43 fd44 fd45 fd46 fd47 fd48 fd49 fd50 fd51 fd52 fd53 fd54 fd55 fd56 fd57 fd58 fd59 fd60 fd61 fd62 fd63:FuncData} {Aq AA As Ax Av At Ap Ay Ar:Addr} {Bx:Addr} {DN:Option Addr} {DO:Nat} {DP:Array (Option Value)} {DQ DR DS:Tok} {BQ:Addr} {DW:Option Addr} {DX:Nat} {DY:Array (Option Value)} {DZ D0 D5:Tok} {Cq:Addr} {Ej:Option Addr} {Ek:Nat} {El:Array (Option Value)} {Em En Eo Ep:Tok} {tk_FIGURES:Tok} {tk_MANY_MOVES:Tok} {tk_MANY_TURNS:Tok} {tk_MOST_CELLS:Tok} {tk_MOST_FIGURES:Tok} {tk_MOST_NUMBER:Tok} {tk_MOST_RULES:Tok} {tk_MOST_SIDE:Tok} {tk_MOST_SIGNS:Tok} {x_ClueError x_NoFloor x_NoFilling x_NoRule x_NoPuzzle x_TooMany x_NoMove:Addr} {cE cC0:Value} {dE dD:Option Addr} {esE:Array DictEntry} {nE:Nat} {sE slD:Array (Option Value)} {ND:Addr} {cdD:ClassData} {nm_NoMove Et:Str} {N_NoMove:Addr} {bs_NoMove:List Value} {hd_NoMove:Bool} {sn_NoMove:List Str} {sub_NoMove:List Value} {ab_NoMove:Bool} {col_NoMove:Option Bool} {dd_NoMove:Option Addr} {k0_NoMove k1_NoMove k2_NoMove k3_NoMove k5_NoMove:Option Value} {cN_NoMove:Value} {dN_NoMove:Option Addr} {es_NoMove:Array DictEntry} {n_NoMove:Nat} {sN_NoMove:Array (Option Value)}
  (Dw:PySem.W.nsIn K mainGlobals "Unlike"=some (some (.ref Aq))) (q_Sum:PySem.W.nsIn K mainGlobals "Sum"=some (some (.ref AA))) (Dx:PySem.W.nsIn K mainGlobals "Rising"=some (some (.ref As))) (Er:PySem.W.nsIn K mainGlobals "Seen"=some (some (.ref Ax))) (D6:PySem.W.nsIn K mainGlobals "Count"=some (some (.ref Av))) (Dy:PySem.W.nsIn K mainGlobals "Joined"=some (some (.ref At))) (CK:PySem.W.nsIn K mainGlobals "NoSquare"=some (some (.ref Ap))) (Es:PySem.W.nsIn K mainGlobals "Ring"=some (some (.ref Ay))) (CL:PySem.W.nsIn K mainGlobals "Puzzle"=some (some (.ref Ar))) (a0:PySem.W.nsIn K mainGlobals "is_whole"=some (some (.ref f0))) (a1:PySem.W.nsIn K mainGlobals "many_cells"=some (some (.ref f1))) (a2:PySem.W.nsIn K mainGlobals "spot_of"=some (some (.ref f2))) (CM:PySem.W.findIn K (.ref Aq) "__init__"=some (some (.ref f3))) (D7:PySem.W.findIn K (.ref AA) "__init__"=some (some (.ref f3))) (CN:PySem.W.findIn K (.ref As) "__init__"=some (some (.ref f3))) (Dz:PySem.W.findIn K (.ref Ax) "__init__"=some (some (.ref f3))) (Dl:PySem.W.findIn K (.ref Av) "__init__"=some (some (.ref f3))) (CO:PySem.W.findIn K (.ref At) "__init__"=some (some (.ref f3))) (Cr:PySem.W.findIn K (.ref Ap) "__init__"=some (some (.ref f3))) (DA:PySem.W.findIn K (.ref Ay) "__init__"=some (some (.ref f3))) (a4_Unlike:PySem.W.findIn K (.ref Aq) "name"=some (some (.ref f4))) (a4_Sum:PySem.W.findIn K (.ref AA) "name"=some (some (.ref f4))) (a4_Rising:PySem.W.findIn K (.ref As) "name"=some (some (.ref f4))) (a4_Seen:PySem.W.findIn K (.ref Ax) "name"=some (some (.ref f4))) (a4_Count:PySem.W.findIn K (.ref Av) "name"=some (some (.ref f4))) (a4_Joined:PySem.W.findIn K (.ref At) "name"=some (some (.ref f4))) (a4_NoSquare:PySem.W.findIn K (.ref Ap) "name"=some (some (.ref f4))) (a4_Ring:PySem.W.findIn K (.ref Ay) "name"=some (some (.ref f4))) (a5_Unlike:PySem.W.findIn K (.ref Aq) "spots"=some (some (.ref f5))) (a5_Sum:PySem.W.findIn K (.ref AA) "spots"=some (some (.ref f5))) (a5_Rising:PySem.W.findIn K (.ref As) "spots"=some (some (.ref f5))) (a5_Seen:PySem.W.findIn K (.ref Ax) "spots"=some (some (.ref f5))) (a5_Count:PySem.W.findIn K (.ref Av) "spots"=some (some (.ref f5))) (a5_Joined:PySem.W.findIn K (.ref At) "spots"=some (some (.ref f5))) (a5_NoSquare:PySem.W.findIn K (.ref Ap) "spots"=some (some (.ref f5))) (a5_Ring:PySem.W.findIn K (.ref Ay) "spots"=some (some (.ref f5))) (a6_Unlike:PySem.W.findIn K (.ref Aq) "number"=some (some (.ref f6))) (a6_Sum:PySem.W.findIn K (.ref AA) "number"=some (some (.ref f6))) (a6_Rising:PySem.W.findIn K (.ref As) "number"=some (some (.ref f6))) (a6_Seen:PySem.W.findIn K (.ref Ax) "number"=some (some (.ref f6))) (a6_Count:PySem.W.findIn K (.ref Av) "number"=some (some (.ref f6))) (a6_Joined:PySem.W.findIn K (.ref At) "number"=some (some (.ref f6))) (a6_NoSquare:PySem.W.findIn K (.ref Ap) "number"=some (some (.ref f6))) (a6_Ring:PySem.W.findIn K (.ref Ay) "number"=some (some (.ref f6))) (a7_Unlike:PySem.W.findIn K (.ref Aq) "sign"=some (some (.ref f7))) (a7_Sum:PySem.W.findIn K (.ref AA) "sign"=some (some (.ref f7))) (a7_Rising:PySem.W.findIn K (.ref As) "sign"=some (some (.ref f7))) (a7_Seen:PySem.W.findIn K (.ref Ax) "sign"=some (some (.ref f7))) (a7_Count:PySem.W.findIn K (.ref Av) "sign"=some (some (.ref f7))) (a7_Joined:PySem.W.findIn K (.ref At) "sign"=some (some (.ref f7))) (a7_NoSquare:PySem.W.findIn K (.ref Ap) "sign"=some (some (.ref f7))) (a7_Ring:PySem.W.findIn K (.ref Ay) "sign"=some (some (.ref f7))) (a8_Unlike:PySem.W.findIn K (.ref Aq) "line"=some (some (.ref f8))) (a8_Sum:PySem.W.findIn K (.ref AA) "line"=some (some (.ref f8))) (a8_Rising:PySem.W.findIn K (.ref As) "line"=some (some (.ref f8))) (a8_Seen:PySem.W.findIn K (.ref Ax) "line"=some (some (.ref f8))) (a8_Count:PySem.W.findIn K (.ref Av) "line"=some (some (.ref f8))) (a8_Joined:PySem.W.findIn K (.ref At) "line"=some (some (.ref f8))) (a8_NoSquare:PySem.W.findIn K (.ref Ap) "line"=some (some (.ref f8))) (a8_Ring:PySem.W.findIn K (.ref Ay) "line"=some (some (.ref f8))) (a9_Unlike:PySem.W.findIn K (.ref Aq) "reckons"=some (some (.ref f9))) (a9_Count:PySem.W.findIn K (.ref Av) "reckons"=some (some (.ref f9))) (a9_Joined:PySem.W.findIn K (.ref At) "reckons"=some (some (.ref f9))) (a9_NoSquare:PySem.W.findIn K (.ref Ap) "reckons"=some (some (.ref f9))) (a9_Ring:PySem.W.findIn K (.ref Ay) "reckons"=some (some (.ref f9))) (a10_Sum:PySem.W.findIn K (.ref AA) "reckons"=some (some (.ref f10))) (a11_Rising:PySem.W.findIn K (.ref As) "reckons"=some (some (.ref f11))) (a12_Seen:PySem.W.findIn K (.ref Ax) "reckons"=some (some (.ref f12))) (a13:PySem.W.nsIn K mainGlobals "line_by"=some (some (.ref f13))) (a14:PySem.W.nsIn K mainGlobals "number_in"=some (some (.ref f14))) (a15_Puzzle:PySem.W.findIn K (.ref Ar) "place"=some (some (.ref f15))) (a16_Puzzle:PySem.W.findIn K (.ref Ar) "clues"=some (some (.ref f16))) (a17_Puzzle:PySem.W.findIn K (.ref Ar) "rules"=some (some (.ref f17))) (a18:PySem.W.nsIn K mainGlobals "turned_floor"=some (some (.ref f18))) (a19:PySem.W.nsIn K mainGlobals "turned_spot"=some (some (.ref f19))) (a20:PySem.W.nsIn K mainGlobals "mirrored_spot"=some (some (.ref f20))) (a21:PySem.W.nsIn K mainGlobals "unchanged_signs"=some (some (.ref f21))) (a22:PySem.W.nsIn K mainGlobals "exchanged"=some (some (.ref f22))) (a23:PySem.W.nsIn K mainGlobals "_law_at"=some (some (.ref f23))) (a24:PySem.W.nsIn K mainGlobals "_law_stream"=some (some (.ref f24))) (a25:PySem.W.nsIn K mainGlobals "_law_order"=some (some (.ref f25))) (a26:PySem.W.nsIn K mainGlobals "_law_kept"=some (some (.ref f26))) (a27:PySem.W.nsIn K mainGlobals "_law_seen"=some (some (.ref f27))) (a28:PySem.W.nsIn K mainGlobals "_law_spot"=some (some (.ref f28))) (a29:PySem.W.nsIn K mainGlobals "_law_ground"=some (some (.ref f29))) (a30:PySem.W.nsIn K mainGlobals "_law_exchange"=some (some (.ref f30))) (a31:PySem.W.nsIn K mainGlobals "_law_reckons"=some (some (.ref f31))) (a32:PySem.W.nsIn K mainGlobals "_law_bad_list"=some (some (.ref f32))) (a33:PySem.W.nsIn K mainGlobals "is_from_one_to"=some (some (.ref f33))) (a34:PySem.W.nsIn K mainGlobals "number_within"=some (some (.ref f34))) (a35:PySem.W.nsIn K mainGlobals "is_filling"=some (some (.ref f35))) (a36_Puzzle:PySem.W.findIn K (.ref Ar) "lines"=some (some (.ref f36))) (a37:PySem.W.nsIn K mainGlobals "refuse_no_move"=some (some (.ref f37))) (a38:PySem.W.nsIn K mainGlobals "moved_cell"=some (some (.ref f38))) (a39:PySem.W.nsIn K mainGlobals "is_exchange"=some (some (.ref f39))) (a40:PySem.W.nsIn K mainGlobals "moved_line"=some (some (.ref f40))) (a41:PySem.W.nsIn K mainGlobals "has_reckoning"=some (some (.ref f41))) (a42:PySem.W.nsIn K mainGlobals "_law_floor"=some (some (.ref f42))) (a43:PySem.W.nsIn K mainGlobals "_law_line"=some (some (.ref f43))) (a44:PySem.W.nsIn K mainGlobals "_law_filling"=some (some (.ref f44))) (a45:PySem.W.nsIn K mainGlobals "_law_moved_line"=some (some (.ref f45))) (a46:PySem.W.nsIn K mainGlobals "floor_of"=some (some (.ref f46))) (a47:PySem.W.nsIn K mainGlobals "first_within"=some (some (.ref f47))) (a48:PySem.W.nsIn K mainGlobals "told_cells"=some (some (.ref f48))) (a49:PySem.W.nsIn K mainGlobals "rule_by"=some (some (.ref f49))) (a50:PySem.W.nsIn K mainGlobals "checked_clues"=some (some (.ref f50))) (a51:PySem.W.nsIn K mainGlobals "moved_floor"=some (some (.ref f51))) (a52:PySem.W.nsIn K mainGlobals "moved_cells"=some (some (.ref f52))) (a53:PySem.W.nsIn K mainGlobals "exchange_by"=some (some (.ref f53))) (a54:PySem.W.nsIn K mainGlobals "_law_is"=some (some (.ref f54))) (a55:PySem.W.nsIn K mainGlobals "cells_of"=some (some (.ref f55))) (a56:PySem.W.nsIn K mainGlobals "checked_floor"=some (some (.ref f56))) (a57:PySem.W.nsIn K mainGlobals "moved_filling"=some (some (.ref f57))) (a58:PySem.W.nsIn K mainGlobals "read_rule"=some (some (.ref f58))) (a59:PySem.W.nsIn K mainGlobals "read_rules"=some (some (.ref f59))) (CP:PySem.W.findIn K (.ref Ar) "__init__"=some (some (.ref f60))) (a61:PySem.W.nsIn K mainGlobals "moved"=some (some (.ref f61))) (a62:PySem.W.nsIn K mainGlobals "_law_refused"=some (some (.ref f62))) (a63:PySem.W.nsIn K mainGlobals "law"=some (some (.ref f63))) (F0:Fun K "is_whole" "is_whole" lQ f0 fd0) (F1:Fun K "many_cells" "many_cells" kb f1 fd1) (F2:Fun K "spot_of" "spot_of" mC f2 fd2) (F3:Fun K "__init__" "Rule.__init__" hV f3 fd3) (fn3:PySem.W.isFn K (.ref f3)=true) (F4:Fun K "name" "Rule.name" kJ f4 fd4) (fn4:PySem.W.isFn K (.ref f4)=true) (F5:Fun K "spots" "Rule.spots" kc f5 fd5) (fn5:PySem.W.isFn K (.ref f5)=true) (F6:Fun K "number" "Rule.number" je f6 fd6) (fn6:PySem.W.isFn K (.ref f6)=true) (F7:Fun K "sign" "Rule.sign" kK f7 fd7) (fn7:PySem.W.isFn K (.ref f7)=true) (F8:Fun K "line" "Rule.line" kL f8 fd8) (fn8:PySem.W.isFn K (.ref f8)=true) (F9:Fun K "reckons" "Rule.reckons" iH f9 fd9) (fn9:PySem.W.isFn K (.ref f9)=true) (F10:Fun K "reckons" "Sum.reckons" jf f10 fd10) (fn10:PySem.W.isFn K (.ref f10)=true) (F11:Fun K "reckons" "Rising.reckons" gd f11 fd11) (fn11:PySem.W.isFn K (.ref f11)=true) (F12:Fun K "reckons" "Seen.reckons" iI f12 fd12) (fn12:PySem.W.isFn K (.ref f12)=true) (F13:Fun K "line_by" "line_by" mE f13 fd13) (F14:Fun K "number_in" "number_in" kM f14 fd14) (F15:Fun K "place" "Puzzle.place" iJ f15 fd15) (fn15:PySem.W.isFn K (.ref f15)=true) (F16:Fun K "clues" "Puzzle.clues" iK f16 fd16) (fn16:PySem.W.isFn K (.ref f16)=true) (F17:Fun K "rules" "Puzzle.rules" iL f17 fd17) (fn17:PySem.W.isFn K (.ref f17)=true) (F18:Fun K "turned_floor" "turned_floor" iM f18 fd18) (F19:Fun K "turned_spot" "turned_spot" jg f19 fd19) (F20:Fun K "mirrored_spot" "mirrored_spot" h9 f20 fd20) (F21:Fun K "unchanged_signs" "unchanged_signs" fv f21 fd21) (F22:Fun K "exchanged" "exchanged" kN f22 fd22) (F23:Fun K "_law_at" "_law_at" mG f23 fd23) (F24:Fun K "_law_stream" "_law_stream" jh f24 fd24) (F25:Fun K "_law_order" "_law_order" kd f25 fd25) (F26:Fun K "_law_kept" "_law_kept" kO f26 fd26) (F27:Fun K "_law_seen" "_law_seen" kP f27 fd27) (F28:Fun K "_law_spot" "_law_spot" kQ f28 fd28) (F29:Fun K "_law_ground" "_law_ground" ji f29 fd29) (F30:Fun K "_law_exchange" "_law_exchange" ic f30 fd30) (F31:Fun K "_law_reckons" "_law_reckons" iN f31 fd31) (F32:Fun K "_law_bad_list" "_law_bad_list" ie f32 fd32) (F33:Fun K "is_from_one_to" "is_from_one_to" ge f33 fd33) (F34:Fun K "number_within" "number_within" ig f34 fd34) (F35:Fun K "is_filling" "is_filling" ke f35 fd35) (F36:Fun K "lines" "Puzzle.lines" iO f36 fd36) (fn36:PySem.W.isFn K (.ref f36)=true) (F37:Fun K "refuse_no_move" "refuse_no_move" gf f37 fd37) (F38:Fun K "moved_cell" "moved_cell" kf f38 fd38) (F39:Fun K "is_exchange" "is_exchange" jj f39 fd39) (F40:Fun K "moved_line" "moved_line" kg f40 fd40) (F41:Fun K "has_reckoning" "has_reckoning" ii f41 fd41) (F42:Fun K "_law_floor" "_law_floor" kh f42 fd42) (F43:Fun K "_law_line" "_law_line" kR f43 fd43) (F44:Fun K "_law_filling" "_law_filling" iP f44 fd44) (F45:Fun K "_law_moved_line" "_law_moved_line" fz f45 fd45) (F46:Fun K "floor_of" "floor_of" lR f46 fd46) (F47:Fun K "first_within" "first_within" iQ f47 fd47) (F48:Fun K "told_cells" "told_cells" ki f48 fd48) (F49:Fun K "rule_by" "rule_by" mI f49 fd49) (F50:Fun K "checked_clues" "checked_clues" ij f50 fd50) (F51:Fun K "moved_floor" "moved_floor" jk f51 fd51) (F52:Fun K "moved_cells" "moved_cells" jl f52 fd52) (F53:Fun K "exchange_by" "exchange_by" jm f53 fd53) (F54:Fun K "_law_is" "_law_is" mJ f54 fd54) (F55:Fun K "cells_of" "cells_of" lS f55 fd55) (F56:Fun K "checked_floor" "checked_floor" ik f56 fd56) (F57:FunD K "moved_filling" "moved_filling" il f57 fd57 [Value.none]) (F58:Fun K "read_rule" "read_rule" kS f58 fd58) (F59:Fun K "read_rules" "read_rules" km f59 fd59) (F60:Fun K "__init__" "Puzzle.__init__" fA f60 fd60) (fn60:PySem.W.isFn K (.ref f60)=true) (F61:FunD K "moved" "moved" ra f61 fd61 [Value.none]) (F62:Fun K "_law_refused" "_law_refused" iR f62 fd62) (F63:Fun K "law" "law" m6 f63 fd63) (CQ:PySem.W.makesIn K Aq=true) (CS:PySem.W.keepIn K (.ref Aq)=true) (CT:PySem.W.plainGet K Aq Str.empty=true) (CU:PySem.W.hasDictIn K Aq=true) (CV:PySem.W.plainOver K Aq=true) (CW:PySem.W.findIn K (.ref Aq) "__setattr__"=some (some (.builtin "object.__setattr__"))) (D8:PySem.W.makesIn K AA=true) (D9:PySem.W.keepIn K (.ref AA)=true) (Ea:PySem.W.plainGet K AA Str.empty=true) (Eb:PySem.W.hasDictIn K AA=true) (Ec:PySem.W.plainOver K AA=true) (Ed:PySem.W.findIn K (.ref AA) "__setattr__"=some (some (.builtin "object.__setattr__"))) (CY:PySem.W.makesIn K As=true) (CZ:PySem.W.keepIn K (.ref As)=true) (C0:PySem.W.plainGet K As Str.empty=true) (C1:PySem.W.hasDictIn K As=true) (C2:PySem.W.plainOver K As=true) (C3:PySem.W.findIn K (.ref As) "__setattr__"=some (some (.builtin "object.__setattr__"))) (DB:PySem.W.makesIn K Ax=true) (DC:PySem.W.keepIn K (.ref Ax)=true) (DD:PySem.W.plainGet K Ax Str.empty=true) (DE:PySem.W.hasDictIn K Ax=true) (DF:PySem.W.plainOver K Ax=true) (DG:PySem.W.findIn K (.ref Ax) "__setattr__"=some (some (.builtin "object.__setattr__"))) (Dm:PySem.W.makesIn K Av=true) (Dn:PySem.W.keepIn K (.ref Av)=true) (Do:PySem.W.plainGet K Av Str.empty=true) (Dp:PySem.W.hasDictIn K Av=true) (Dq:PySem.W.plainOver K Av=true) (Dr:PySem.W.findIn K (.ref Av) "__setattr__"=some (some (.builtin "object.__setattr__"))) (C4:PySem.W.makesIn K At=true) (C5:PySem.W.keepIn K (.ref At)=true) (C6:PySem.W.plainGet K At Str.empty=true) (C7:PySem.W.hasDictIn K At=true) (C8:PySem.W.plainOver K At=true) (C9:PySem.W.findIn K (.ref At) "__setattr__"=some (some (.builtin "object.__setattr__"))) (Cs:PySem.W.makesIn K Ap=true) (Ct:PySem.W.keepIn K (.ref Ap)=true) (Cu:PySem.W.plainGet K Ap Str.empty=true) (Cv:PySem.W.hasDictIn K Ap=true) (Cw:PySem.W.plainOver K Ap=true) (Cy:PySem.W.findIn K (.ref Ap) "__setattr__"=some (some (.builtin "object.__setattr__"))) (DH:PySem.W.makesIn K Ay=true) (DI:PySem.W.keepIn K (.ref Ay)=true) (DJ:PySem.W.plainGet K Ay Str.empty=true) (DK:PySem.W.hasDictIn K Ay=true) (DL:PySem.W.plainOver K Ay=true) (DM:PySem.W.findIn K (.ref Ay) "__setattr__"=some (some (.builtin "object.__setattr__"))) (Da:PySem.W.makesIn K Ar=true) (Db:PySem.W.keepIn K (.ref Ar)=true) (Dc:PySem.W.plainGet K Ar Str.empty=true) (Ce:PySem.W.hasDictIn K Ar=true) (Dd:PySem.W.plainOver K Ar=true) (De:PySem.W.findIn K (.ref Ar) "__setattr__"=some (some (.builtin "object.__setattr__"))) (io1_Puzzle:PySem.W.plainGet K Ar "__class__"=true) (io2_Puzzle:PySem.W.findIn K (.ref Ar) "__class__"=some (some (.builtin "object.__class__"))) (io3_Puzzle:PySem.W.specialIn K (.builtin "object.__class__") "__get__"=some (some (.builtin "getset_descriptor.__get__"))) (io4_Puzzle:PySem.W.takesIn K (.builtin "object.__class__")=some true) (io5_Puzzle:PySem.W.mroIn K Ar (.type "object")=some true) (io6_Puzzle:PySem.W.kitOne K (.ref Ar) (.ref Ar)=some true) (AU:PySem.W.findIn K (.ref Aq) "amount"=some none) (By:PySem.W.findIn K (.ref AA) "amount"=some none) (AV:PySem.W.findIn K (.ref As) "amount"=some none) (Bf:PySem.W.findIn K (.ref Ax) "amount"=some none) (A0:PySem.W.findIn K (.ref Av) "amount"=some none) (AW:PySem.W.findIn K (.ref At) "amount"=some none) (AM:PySem.W.findIn K (.ref Ap) "amount"=some none) (Bg:PySem.W.findIn K (.ref Ay) "amount"=some none) (A1:PySem.W.findIn K (.ref Aq) "cells"=some none) (BR:PySem.W.findIn K (.ref AA) "cells"=some none) (A2:PySem.W.findIn K (.ref As) "cells"=some none) (Bz:PySem.W.findIn K (.ref Ax) "cells"=some none) (Bh:PySem.W.findIn K (.ref Av) "cells"=some none) (A3:PySem.W.findIn K (.ref At) "cells"=some none) (AO:PySem.W.findIn K (.ref Ap) "cells"=some none) (BA:PySem.W.findIn K (.ref Ay) "cells"=some none) (A4:PySem.W.findIn K (.ref Aq) "floor"=some none) (BS:PySem.W.findIn K (.ref AA) "floor"=some none) (A5:PySem.W.findIn K (.ref As) "floor"=some none) (BB:PySem.W.findIn K (.ref Ax) "floor"=some none) (Bi:PySem.W.findIn K (.ref Av) "floor"=some none) (A6:PySem.W.findIn K (.ref At) "floor"=some none) (AQ:PySem.W.findIn K (.ref Ap) "floor"=some none) (BC:PySem.W.findIn K (.ref Ay) "floor"=some none) (Bj:PySem.W.findIn K (.ref Aq) "mark"=some none) (B5:PySem.W.findIn K (.ref AA) "mark"=some none) (Bk:PySem.W.findIn K (.ref As) "mark"=some none) (BT:PySem.W.findIn K (.ref Ax) "mark"=some none) (BD:PySem.W.findIn K (.ref Av) "mark"=some none) (Bl:PySem.W.findIn K (.ref At) "mark"=some none) (AX:PySem.W.findIn K (.ref Ap) "mark"=some none) (BU:PySem.W.findIn K (.ref Ay) "mark"=some none) (A7:PySem.W.findIn K (.ref Aq) "words"=some none) (BW:PySem.W.findIn K (.ref AA) "words"=some none) (A8:PySem.W.findIn K (.ref As) "words"=some none) (BE:PySem.W.findIn K (.ref Ax) "words"=some none) (Bm:PySem.W.findIn K (.ref Av) "words"=some none) (A9:PySem.W.findIn K (.ref At) "words"=some none) (AR:PySem.W.findIn K (.ref Ap) "words"=some none) (BF:PySem.W.findIn K (.ref Ay) "words"=some none) (Ba:PySem.W.findIn K (.ref Ar) "floor"=some none) (Bb:PySem.W.findIn K (.ref Ar) "given"=some none) (Bn:PySem.W.findIn K (.ref Ar) "laws"=some none) (Bo:PySem.W.nsIn K mainGlobals "OF_ALL_CELLS"=some (some (.ref Bx))) (Bp:K.lookup Bx=some ⟨.type "tuple",DN,.seq #[.str (tx [106,111,105,110,101,100]) DQ,.str (tx [110,111,115,113,117,97,114,101]) DR,.str (tx [114,105,110,103]) DS] DO,DP⟩) (BG:PySem.W.nsIn K mainGlobals "WITH_NUMBER"=some (some (.ref BQ))) (BH:K.lookup BQ=some ⟨.type "tuple",DW,.seq #[.str (tx [115,117,109]) DZ,.str (tx [115,101,101,110]) D0,.str (tx [99,111,117,110,116]) D5] DX,DY⟩) (B6:PySem.W.nsIn K mainGlobals "WITH_SIGN"=some (some (.ref Cq))) (B7:K.lookup Cq=some ⟨.type "tuple",Ej,.seq #[.str (tx [99,111,117,110,116]) Em,.str (tx [106,111,105,110,101,100]) En,.str (tx [110,111,115,113,117,97,114,101]) Eo,.str (tx [114,105,110,103]) Ep] Ek,El⟩) (Df:PySem.W.nsIn K mainGlobals "FIGURES"=some (some (.str (tx [48,49,50,51,52,53,54,55,56,57]) tk_FIGURES))) (B8:PySem.W.nsIn K mainGlobals "MANY_MOVES"=some (some (.int 8 tk_MANY_MOVES))) (B9:PySem.W.nsIn K mainGlobals "MANY_TURNS"=some (some (.int 4 tk_MANY_TURNS))) (Ca:PySem.W.nsIn K mainGlobals "MOST_CELLS"=some (some (.int 16 tk_MOST_CELLS))) (BI:PySem.W.nsIn K mainGlobals "MOST_FIGURES"=some (some (.int 9 tk_MOST_FIGURES))) (BX:PySem.W.nsIn K mainGlobals "MOST_NUMBER"=some (some (.int 99 tk_MOST_NUMBER))) (Cb:PySem.W.nsIn K mainGlobals "MOST_RULES"=some (some (.int 12 tk_MOST_RULES))) (CA:PySem.W.nsIn K mainGlobals "MOST_SIDE"=some (some (.int 6 tk_MOST_SIDE))) (Cc:PySem.W.nsIn K mainGlobals "MOST_SIGNS"=some (some (.int 6 tk_MOST_SIGNS))) (z_len:PySem.W.nsIn K mainGlobals "len"=some none) (z_abs:PySem.W.nsIn K mainGlobals "abs"=some none) (z_min:PySem.W.nsIn K mainGlobals "min"=some none) (z_max:PySem.W.nsIn K mainGlobals "max"=some none) (z_sorted:PySem.W.nsIn K mainGlobals "sorted"=some none) (z_any:PySem.W.nsIn K mainGlobals "any"=some none) (z_isinstance:PySem.W.nsIn K mainGlobals "isinstance"=some none) (z_list:PySem.W.nsIn K mainGlobals "list"=some none) (z_int:PySem.W.nsIn K mainGlobals "int"=some none) (z_bool:PySem.W.nsIn K mainGlobals "bool"=some none) (z_str:PySem.W.nsIn K mainGlobals "str"=some none) (z_tuple:PySem.W.nsIn K mainGlobals "tuple"=some none) (z_reversed:PySem.W.nsIn K mainGlobals "reversed"=some none) (z_set:PySem.W.nsIn K mainGlobals "set"=some none) (z_range:PySem.W.nsIn K mainGlobals "range"=some none) (z_zip:PySem.W.nsIn K mainGlobals "zip"=some none) (z_all:PySem.W.nsIn K mainGlobals "all"=some none) (z_sum:PySem.W.nsIn K mainGlobals "sum"=some none) (z_enumerate:PySem.W.nsIn K mainGlobals "enumerate"=some none) (e_ClueError:PySem.W.nsIn K mainGlobals "ClueError"=some (some (.ref x_ClueError))) (e_NoFloor:PySem.W.nsIn K mainGlobals "NoFloor"=some (some (.ref x_NoFloor))) (e_NoFilling:PySem.W.nsIn K mainGlobals "NoFilling"=some (some (.ref x_NoFilling))) (e_NoRule:PySem.W.nsIn K mainGlobals "NoRule"=some (some (.ref x_NoRule))) (e_NoPuzzle:PySem.W.nsIn K mainGlobals "NoPuzzle"=some (some (.ref x_NoPuzzle))) (e_TooMany:PySem.W.nsIn K mainGlobals "TooMany"=some (some (.ref x_TooMany))) (e_NoMove:PySem.W.nsIn K mainGlobals "NoMove"=some (some (.ref x_NoMove))) (z_ValueError:PySem.W.nsIn K mainGlobals "ValueError"=some none) (D1:K.lookup x_ClueError=some ⟨cC0,dD,.cls cdD,slD⟩) (D2:cdD.ns=ND) (D3:K.lookup ND=some ⟨cE,dE,.dict esE nE,sE⟩) (D4:lg esE=true) (r1_NoMove:K.lookup x_NoMove=some (excClassObj nm_NoMove Et x_NoMove N_NoMove bs_NoMove (.ref x_ClueError::VE) hd_NoMove sn_NoMove sub_NoMove ab_NoMove col_NoMove dd_NoMove k0_NoMove k1_NoMove k2_NoMove k3_NoMove k5_NoMove "ValueError.__new__")) (r2_NoMove:K.lookup N_NoMove=some ⟨cN_NoMove,dN_NoMove,.dict es_NoMove n_NoMove,sN_NoMove⟩) (r3_NoMove:lg es_NoMove=true) (f1_NoMove:PySem.W.findIn K (.ref x_NoMove) "__getattribute__"=some (some (.builtin "BaseException.__getattribute__"))) (f2_NoMove:PySem.W.findIn K (.ref x_NoMove) "__getattr__"=some none) (f3_NoMove:PySem.W.findIn K (.ref x_NoMove) "__class__"=some (some (.builtin "object.__class__"))) (f4_NoMove:PySem.W.mroIn K x_NoMove (.type "object")=some true) (f5_NoMove:PySem.W.mroIn K x_NoMove (.type "BaseException")=some true) (f6_NoMove:PySem.W.kitOne K (.ref x_NoMove) (.type "ValueError")=some true) (f7_NoMove:PySem.W.exmOne K (.ref x_NoMove) (.ref x_ClueError)=some true) (g_NoMove_NoFilling:PySem.W.kitOne K (.ref x_NoMove) (.ref x_NoFilling)=some false) (g_NoMove_NoPuzzle:PySem.W.kitOne K (.ref x_NoMove) (.ref x_NoPuzzle)=some false) (g_NoMove_TooMany:PySem.W.kitOne K (.ref x_NoMove) (.ref x_TooMany)=some false) (g_NoMove_NoRule:PySem.W.kitOne K (.ref x_NoMove) (.ref x_NoRule)=some false):
  ∃ fd:FuncData,(∀ (s:Shared) (v:Value),BindsTo s fd ⟨[v],[]⟩ [("_law_script",v)])∧∀ base:Heap,K.In base→base.Ns mainGlobals mg→FnOk l.prog w K mg base CX0 11 fa fd ["_law_script"] (qS K):=by
 have e:=hfa.symm.trans (PySem.W.mg_of X G a63)
 cases e
 have B:Bt2 mg:=⟨⟨PySem.W.mg_none_of X G z_len,PySem.W.mg_none_of X G z_abs,PySem.W.mg_none_of X G z_min,PySem.W.mg_none_of X G z_max,PySem.W.mg_none_of X G z_sorted,PySem.W.mg_none_of X G z_any,PySem.W.mg_none_of X G z_isinstance,PySem.W.mg_none_of X G z_list,PySem.W.mg_none_of X G z_int,PySem.W.mg_none_of X G z_bool,PySem.W.mg_none_of X G z_str,PySem.W.mg_none_of X G z_tuple,PySem.W.mg_none_of X G z_reversed,PySem.W.mg_none_of X G z_set,PySem.W.mg_none_of X G z_range,PySem.W.mg_none_of X G z_zip⟩,PySem.W.mg_none_of X G z_all,PySem.W.mg_none_of X G z_sum,PySem.W.mg_none_of X G z_enumerate⟩
 obtain ⟨oc,od,kV,doc,pm,an,cdv,ct,osl,rfl,lk,hcd⟩:=F63.ex
 refine ⟨PySem.W.fnOf "law" "law" (aU m6) (aQ m6) (ah m6) .none kV doc pm an cdv ct,fun s v=>.of_eq rfl,fun base _ _=>?_⟩
 let c:RCl RK:=mkC Aq AA As Ax Av At Ap Ay
 let d:RCl PzK:=mkD Ar
 have Dg:=PySem.W.mg_of X G Df
 have Cf:=PySem.W.mg_of X G B8
 have AH:=PySem.W.mg_of X G B9
 have Ch:=PySem.W.mg_of X G Ca
 have BJ:=PySem.W.mg_of X G BI
 have B4:=PySem.W.mg_of X G BX
 have Cn:=PySem.W.mg_of X G Cb
 have BY:=PySem.W.mg_of X G CA
 have Ci:=PySem.W.mg_of X G Cc
 let a:EA:=(⟨x_ClueError,x_NoFloor,x_NoFilling,x_NoRule,x_NoPuzzle,x_TooMany,x_ClueError,x_NoMove,x_ClueError,x_ClueError,x_ClueError,x_ClueError⟩:EA)
 have EM:ErrMx mg a:=⟨PySem.W.mg_of X G e_ClueError,PySem.W.mg_of X G e_NoFloor,PySem.W.mg_of X G e_NoFilling,PySem.W.mg_of X G e_NoRule,PySem.W.mg_of X G e_NoPuzzle,PySem.W.mg_of X G e_TooMany,PySem.W.mg_of X G e_NoMove⟩
 have BV:=PySem.W.mg_none_of X G z_ValueError
 have R_NoMove:lG K a "NoMove" a.NoMove (oz a):=⟨e_NoMove,zZ r1_NoMove r2_NoMove r3_NoMove D1 D2 D3 D4,⟨f1_NoMove,f2_NoMove,f3_NoMove,f4_NoMove,f5_NoMove⟩,f6_NoMove,f7_NoMove,(List.forall_mem_cons.mpr ⟨g_NoMove_NoFilling,(List.forall_mem_cons.mpr ⟨g_NoMove_NoPuzzle,(List.forall_mem_cons.mpr ⟨g_NoMove_TooMany,(List.forall_mem_cons.mpr ⟨g_NoMove_NoRule,(fun _ z=>nomatch z)⟩)⟩)⟩)⟩)⟩
 have cls_Unlike:Cls K Aq:=⟨CT,CU,CV,CW⟩
 have cls_Sum:Cls K AA:=⟨Ea,Eb,Ec,Ed⟩
 have cls_Rising:Cls K As:=⟨C0,C1,C2,C3⟩
 have cls_Seen:Cls K Ax:=⟨DD,DE,DF,DG⟩
 have cls_Count:Cls K Av:=⟨Do,Dp,Dq,Dr⟩
 have cls_Joined:Cls K At:=⟨C6,C7,C8,C9⟩
 have cls_NoSquare:Cls K Ap:=⟨Cu,Cv,Cw,Cy⟩
 have cls_Ring:Cls K Ay:=⟨DJ,DK,DL,DM⟩
 have cls_Puzzle:Cls K Ar:=⟨Dc,Ce,Dd,De⟩
 have IS_Puzzle:GIs K mg "Puzzle" (d.A .Puzzle):=⟨PySem.W.mg_of X G CL,⟨io1_Puzzle,Ce,io2_Puzzle,io3_Puzzle,io4_Puzzle,io5_Puzzle,io6_Puzzle⟩⟩
 have FK_c_amount:FldK K c "amount":=⟨fun i hi=>by cases i with | Rule=>exact (Bool.false_ne_true hi).elim | Unlike=>exact ⟨cls_Unlike,AU⟩ | Sum=>exact ⟨cls_Sum,By⟩ | Rising=>exact ⟨cls_Rising,AV⟩ | Seen=>exact ⟨cls_Seen,Bf⟩ | Count=>exact ⟨cls_Count,A0⟩ | Joined=>exact ⟨cls_Joined,AW⟩ | NoSquare=>exact ⟨cls_NoSquare,AM⟩ | Ring=>exact ⟨cls_Ring,Bg⟩⟩
 have FK_c_cells:FldK K c "cells":=⟨fun i hi=>by cases i with | Rule=>exact (Bool.false_ne_true hi).elim | Unlike=>exact ⟨cls_Unlike,A1⟩ | Sum=>exact ⟨cls_Sum,BR⟩ | Rising=>exact ⟨cls_Rising,A2⟩ | Seen=>exact ⟨cls_Seen,Bz⟩ | Count=>exact ⟨cls_Count,Bh⟩ | Joined=>exact ⟨cls_Joined,A3⟩ | NoSquare=>exact ⟨cls_NoSquare,AO⟩ | Ring=>exact ⟨cls_Ring,BA⟩⟩
 have FK_c_floor:FldK K c "floor":=⟨fun i hi=>by cases i with | Rule=>exact (Bool.false_ne_true hi).elim | Unlike=>exact ⟨cls_Unlike,A4⟩ | Sum=>exact ⟨cls_Sum,BS⟩ | Rising=>exact ⟨cls_Rising,A5⟩ | Seen=>exact ⟨cls_Seen,BB⟩ | Count=>exact ⟨cls_Count,Bi⟩ | Joined=>exact ⟨cls_Joined,A6⟩ | NoSquare=>exact ⟨cls_NoSquare,AQ⟩ | Ring=>exact ⟨cls_Ring,BC⟩⟩
 have FK_c_mark:FldK K c "mark":=⟨fun i hi=>by cases i with | Rule=>exact (Bool.false_ne_true hi).elim | Unlike=>exact ⟨cls_Unlike,Bj⟩ | Sum=>exact ⟨cls_Sum,B5⟩ | Rising=>exact ⟨cls_Rising,Bk⟩ | Seen=>exact ⟨cls_Seen,BT⟩ | Count=>exact ⟨cls_Count,BD⟩ | Joined=>exact ⟨cls_Joined,Bl⟩ | NoSquare=>exact ⟨cls_NoSquare,AX⟩ | Ring=>exact ⟨cls_Ring,BU⟩⟩
 have FK_c_words:FldK K c "words":=⟨fun i hi=>by cases i with | Rule=>exact (Bool.false_ne_true hi).elim | Unlike=>exact ⟨cls_Unlike,A7⟩ | Sum=>exact ⟨cls_Sum,BW⟩ | Rising=>exact ⟨cls_Rising,A8⟩ | Seen=>exact ⟨cls_Seen,BE⟩ | Count=>exact ⟨cls_Count,Bm⟩ | Joined=>exact ⟨cls_Joined,A9⟩ | NoSquare=>exact ⟨cls_NoSquare,AR⟩ | Ring=>exact ⟨cls_Ring,BF⟩⟩
 have FK_d_floor:FldK K d "floor":=⟨fun i hi=>by cases i; exact ⟨cls_Puzzle,Ba⟩⟩
 have FK_d_given:FldK K d "given":=⟨fun i hi=>by cases i; exact ⟨cls_Puzzle,Bb⟩⟩
 have FK_d_laws:FldK K d "laws":=⟨fun i hi=>by cases i; exact ⟨cls_Puzzle,Bn⟩⟩
 have G_OF_ALL_CELLS:GTup K mg "OF_ALL_CELLS" bZ:=⟨Bx,_,_,_,PySem.W.mg_of X G Bo,Bp,rfl,rfl,Nat.le_of_lt (aR (by show (3:Nat)≤1000; decide)),(.cons ⟨_,rfl⟩ (.cons ⟨_,rfl⟩ (.cons ⟨_,rfl⟩ .nil)))⟩
 have G_WITH_NUMBER:GTup K mg "WITH_NUMBER" cf:=⟨BQ,_,_,_,PySem.W.mg_of X G BG,BH,rfl,rfl,Nat.le_of_lt (aR (by show (3:Nat)≤1000; decide)),(.cons ⟨_,rfl⟩ (.cons ⟨_,rfl⟩ (.cons ⟨_,rfl⟩ .nil)))⟩
 have G_WITH_SIGN:GTup K mg "WITH_SIGN" cw:=⟨Cq,_,_,_,PySem.W.mg_of X G B6,B7,rfl,rfl,Nat.le_of_lt (aR (by show (4:Nat)≤1000; decide)),(.cons ⟨_,rfl⟩ (.cons ⟨_,rfl⟩ (.cons ⟨_,rfl⟩ (.cons ⟨_,rfl⟩ .nil))))⟩
 have AB:Cal l.prog w K mg base _ _ _ (bg K):=lK (uC B F0) F0 (PySem.W.mg_of X G a0)
 have Au:Cal l.prog w K mg base _ _ _ (aO K):=lK (sk B F1) F1 (PySem.W.mg_of X G a1)
 have Dh:Cal l.prog w K mg base _ _ _ (eF K):=ed (vR B F2) F2 (PySem.W.mg_of X G a2)
 have bd3:Binds K fd3 ["self","floor","words","cells","amount","mark"] []:=Aa F3
 have T3:FnOk l.prog w K mg base CX0 1 f3 fd3 _ (al K c):=oR (c:=c) B FK_c_amount FK_c_cells FK_c_floor FK_c_mark FK_c_words F3
 have Dv:KCal l.prog w K mg base _ "Unlike" (c.A .Unlike) _ (al K c):=⟨f3,_,⟨CQ,CM,fn3,CS⟩,T3,PySem.W.mg_of X G Dw,bd3⟩
 have K_Sum:KCal l.prog w K mg base _ "Sum" (c.A .Sum) _ (al K c):=⟨f3,_,⟨D8,D7,fn3,D9⟩,T3,PySem.W.mg_of X G q_Sum,bd3⟩
 have Du:KCal l.prog w K mg base _ "Rising" (c.A .Rising) _ (al K c):=⟨f3,_,⟨CY,CN,fn3,CZ⟩,T3,PySem.W.mg_of X G Dx,bd3⟩
 have Ei:KCal l.prog w K mg base _ "Seen" (c.A .Seen) _ (al K c):=⟨f3,_,⟨DB,Dz,fn3,DC⟩,T3,PySem.W.mg_of X G Er,bd3⟩
 have DU:KCal l.prog w K mg base _ "Count" (c.A .Count) _ (al K c):=⟨f3,_,⟨Dm,Dl,fn3,Dn⟩,T3,PySem.W.mg_of X G D6,bd3⟩
 have Dt:KCal l.prog w K mg base _ "Joined" (c.A .Joined) _ (al K c):=⟨f3,_,⟨C4,CO,fn3,C5⟩,T3,PySem.W.mg_of X G Dy,bd3⟩
 have CH:KCal l.prog w K mg base _ "NoSquare" (c.A .NoSquare) _ (al K c):=⟨f3,_,⟨Cs,Cr,fn3,Ct⟩,T3,PySem.W.mg_of X G CK,bd3⟩
 have Eh:KCal l.prog w K mg base _ "Ring" (c.A .Ring) _ (al K c):=⟨f3,_,⟨DH,DA,fn3,DI⟩,T3,PySem.W.mg_of X G Es,bd3⟩
 have bd4:Binds K fd4 ["self"] []:=dy F4
 have T4:FnOk l.prog w K mg base CX0 1 f4 fd4 _ (gM K c):=ua (c:=c) B FK_c_words F4
 have Ef:MCal l.prog w K mg base c c.ok 1 "name" ["self"] (mY K c):=⟨fun i hi=>by cases i with | Rule=>exact (Bool.false_ne_true hi).elim | Unlike=>exact ⟨f4,_,cls_Unlike,⟨a4_Unlike,fn4,F4.kp⟩,(T4.mono (by decide)).imp (fun vs H Q E h=>⟨.Unlike,h⟩),bd4⟩ | Sum=>exact ⟨f4,_,cls_Sum,⟨a4_Sum,fn4,F4.kp⟩,(T4.mono (by decide)).imp (fun vs H Q E h=>⟨.Sum,h⟩),bd4⟩ | Rising=>exact ⟨f4,_,cls_Rising,⟨a4_Rising,fn4,F4.kp⟩,(T4.mono (by decide)).imp (fun vs H Q E h=>⟨.Rising,h⟩),bd4⟩ | Seen=>exact ⟨f4,_,cls_Seen,⟨a4_Seen,fn4,F4.kp⟩,(T4.mono (by decide)).imp (fun vs H Q E h=>⟨.Seen,h⟩),bd4⟩ | Count=>exact ⟨f4,_,cls_Count,⟨a4_Count,fn4,F4.kp⟩,(T4.mono (by decide)).imp (fun vs H Q E h=>⟨.Count,h⟩),bd4⟩ | Joined=>exact ⟨f4,_,cls_Joined,⟨a4_Joined,fn4,F4.kp⟩,(T4.mono (by decide)).imp (fun vs H Q E h=>⟨.Joined,h⟩),bd4⟩ | NoSquare=>exact ⟨f4,_,cls_NoSquare,⟨a4_NoSquare,fn4,F4.kp⟩,(T4.mono (by decide)).imp (fun vs H Q E h=>⟨.NoSquare,h⟩),bd4⟩ | Ring=>exact ⟨f4,_,cls_Ring,⟨a4_Ring,fn4,F4.kp⟩,(T4.mono (by decide)).imp (fun vs H Q E h=>⟨.Ring,h⟩),bd4⟩⟩
 have bd5:Binds K fd5 ["self"] []:=dy F5
 have T5:FnOk l.prog w K mg base CX0 1 f5 fd5 _ (fQ K c):=sq (c:=c) B FK_c_cells F5
 have DT:MCal l.prog w K mg base c c.ok 1 "spots" ["self"] (lH K c):=⟨fun i hi=>by cases i with | Rule=>exact (Bool.false_ne_true hi).elim | Unlike=>exact ⟨f5,_,cls_Unlike,⟨a5_Unlike,fn5,F5.kp⟩,(T5.mono (by decide)).imp (fun vs H Q E h=>⟨.Unlike,h⟩),bd5⟩ | Sum=>exact ⟨f5,_,cls_Sum,⟨a5_Sum,fn5,F5.kp⟩,(T5.mono (by decide)).imp (fun vs H Q E h=>⟨.Sum,h⟩),bd5⟩ | Rising=>exact ⟨f5,_,cls_Rising,⟨a5_Rising,fn5,F5.kp⟩,(T5.mono (by decide)).imp (fun vs H Q E h=>⟨.Rising,h⟩),bd5⟩ | Seen=>exact ⟨f5,_,cls_Seen,⟨a5_Seen,fn5,F5.kp⟩,(T5.mono (by decide)).imp (fun vs H Q E h=>⟨.Seen,h⟩),bd5⟩ | Count=>exact ⟨f5,_,cls_Count,⟨a5_Count,fn5,F5.kp⟩,(T5.mono (by decide)).imp (fun vs H Q E h=>⟨.Count,h⟩),bd5⟩ | Joined=>exact ⟨f5,_,cls_Joined,⟨a5_Joined,fn5,F5.kp⟩,(T5.mono (by decide)).imp (fun vs H Q E h=>⟨.Joined,h⟩),bd5⟩ | NoSquare=>exact ⟨f5,_,cls_NoSquare,⟨a5_NoSquare,fn5,F5.kp⟩,(T5.mono (by decide)).imp (fun vs H Q E h=>⟨.NoSquare,h⟩),bd5⟩ | Ring=>exact ⟨f5,_,cls_Ring,⟨a5_Ring,fn5,F5.kp⟩,(T5.mono (by decide)).imp (fun vs H Q E h=>⟨.Ring,h⟩),bd5⟩⟩
 have bd6:Binds K fd6 ["self"] []:=dy F6
 have T6:FnOk l.prog w K mg base CX0 1 f6 fd6 _ (eK K c):=qT (c:=c) B FK_c_amount F6
 have Ds:MCal l.prog w K mg base c c.ok 1 "number" ["self"] (ky K c):=⟨fun i hi=>by cases i with | Rule=>exact (Bool.false_ne_true hi).elim | Unlike=>exact ⟨f6,_,cls_Unlike,⟨a6_Unlike,fn6,F6.kp⟩,(T6.mono (by decide)).imp (fun vs H Q E h=>⟨.Unlike,h⟩),bd6⟩ | Sum=>exact ⟨f6,_,cls_Sum,⟨a6_Sum,fn6,F6.kp⟩,(T6.mono (by decide)).imp (fun vs H Q E h=>⟨.Sum,h⟩),bd6⟩ | Rising=>exact ⟨f6,_,cls_Rising,⟨a6_Rising,fn6,F6.kp⟩,(T6.mono (by decide)).imp (fun vs H Q E h=>⟨.Rising,h⟩),bd6⟩ | Seen=>exact ⟨f6,_,cls_Seen,⟨a6_Seen,fn6,F6.kp⟩,(T6.mono (by decide)).imp (fun vs H Q E h=>⟨.Seen,h⟩),bd6⟩ | Count=>exact ⟨f6,_,cls_Count,⟨a6_Count,fn6,F6.kp⟩,(T6.mono (by decide)).imp (fun vs H Q E h=>⟨.Count,h⟩),bd6⟩ | Joined=>exact ⟨f6,_,cls_Joined,⟨a6_Joined,fn6,F6.kp⟩,(T6.mono (by decide)).imp (fun vs H Q E h=>⟨.Joined,h⟩),bd6⟩ | NoSquare=>exact ⟨f6,_,cls_NoSquare,⟨a6_NoSquare,fn6,F6.kp⟩,(T6.mono (by decide)).imp (fun vs H Q E h=>⟨.NoSquare,h⟩),bd6⟩ | Ring=>exact ⟨f6,_,cls_Ring,⟨a6_Ring,fn6,F6.kp⟩,(T6.mono (by decide)).imp (fun vs H Q E h=>⟨.Ring,h⟩),bd6⟩⟩
 have bd7:Binds K fd7 ["self"] []:=dy F7
 have T7:FnOk l.prog w K mg base CX0 1 f7 fd7 _ (gO K c):=ub (c:=c) B FK_c_mark F7
 have Eg:MCal l.prog w K mg base c c.ok 1 "sign" ["self"] (mZ K c):=⟨fun i hi=>by cases i with | Rule=>exact (Bool.false_ne_true hi).elim | Unlike=>exact ⟨f7,_,cls_Unlike,⟨a7_Unlike,fn7,F7.kp⟩,(T7.mono (by decide)).imp (fun vs H Q E h=>⟨.Unlike,h⟩),bd7⟩ | Sum=>exact ⟨f7,_,cls_Sum,⟨a7_Sum,fn7,F7.kp⟩,(T7.mono (by decide)).imp (fun vs H Q E h=>⟨.Sum,h⟩),bd7⟩ | Rising=>exact ⟨f7,_,cls_Rising,⟨a7_Rising,fn7,F7.kp⟩,(T7.mono (by decide)).imp (fun vs H Q E h=>⟨.Rising,h⟩),bd7⟩ | Seen=>exact ⟨f7,_,cls_Seen,⟨a7_Seen,fn7,F7.kp⟩,(T7.mono (by decide)).imp (fun vs H Q E h=>⟨.Seen,h⟩),bd7⟩ | Count=>exact ⟨f7,_,cls_Count,⟨a7_Count,fn7,F7.kp⟩,(T7.mono (by decide)).imp (fun vs H Q E h=>⟨.Count,h⟩),bd7⟩ | Joined=>exact ⟨f7,_,cls_Joined,⟨a7_Joined,fn7,F7.kp⟩,(T7.mono (by decide)).imp (fun vs H Q E h=>⟨.Joined,h⟩),bd7⟩ | NoSquare=>exact ⟨f7,_,cls_NoSquare,⟨a7_NoSquare,fn7,F7.kp⟩,(T7.mono (by decide)).imp (fun vs H Q E h=>⟨.NoSquare,h⟩),bd7⟩ | Ring=>exact ⟨f7,_,cls_Ring,⟨a7_Ring,fn7,F7.kp⟩,(T7.mono (by decide)).imp (fun vs H Q E h=>⟨.Ring,h⟩),bd7⟩⟩
 have bd8:Binds K fd8 ["self"] []:=dy F8
 have T8:FnOk l.prog w K mg base CX0 1 f8 fd8 _ (gQ K c):=uc (c:=c) B FK_c_words F8
 have Ee:MCal l.prog w K mg base c c.ok 1 "line" ["self"] (lj K c):=⟨fun i hi=>by cases i with | Rule=>exact (Bool.false_ne_true hi).elim | Unlike=>exact ⟨f8,_,cls_Unlike,⟨a8_Unlike,fn8,F8.kp⟩,(T8.mono (by decide)).imp (fun vs H Q E h=>⟨.Unlike,h⟩),bd8⟩ | Sum=>exact ⟨f8,_,cls_Sum,⟨a8_Sum,fn8,F8.kp⟩,(T8.mono (by decide)).imp (fun vs H Q E h=>⟨.Sum,h⟩),bd8⟩ | Rising=>exact ⟨f8,_,cls_Rising,⟨a8_Rising,fn8,F8.kp⟩,(T8.mono (by decide)).imp (fun vs H Q E h=>⟨.Rising,h⟩),bd8⟩ | Seen=>exact ⟨f8,_,cls_Seen,⟨a8_Seen,fn8,F8.kp⟩,(T8.mono (by decide)).imp (fun vs H Q E h=>⟨.Seen,h⟩),bd8⟩ | Count=>exact ⟨f8,_,cls_Count,⟨a8_Count,fn8,F8.kp⟩,(T8.mono (by decide)).imp (fun vs H Q E h=>⟨.Count,h⟩),bd8⟩ | Joined=>exact ⟨f8,_,cls_Joined,⟨a8_Joined,fn8,F8.kp⟩,(T8.mono (by decide)).imp (fun vs H Q E h=>⟨.Joined,h⟩),bd8⟩ | NoSquare=>exact ⟨f8,_,cls_NoSquare,⟨a8_NoSquare,fn8,F8.kp⟩,(T8.mono (by decide)).imp (fun vs H Q E h=>⟨.NoSquare,h⟩),bd8⟩ | Ring=>exact ⟨f8,_,cls_Ring,⟨a8_Ring,fn8,F8.kp⟩,(T8.mono (by decide)).imp (fun vs H Q E h=>⟨.Ring,h⟩),bd8⟩⟩
 have bd9:Binds K fd9 ["self"] []:=dy F9
 have T9:FnOk l.prog w K mg base CX0 1 f9 fd9 _ (dL K c):=p6 (c:=c) B F9
 have bd10:Binds K fd10 ["self"] []:=dy F10
 have T10:FnOk l.prog w K mg base CX0 1 f10 fd10 _ (fh K c):=qU (c:=c) B F10
 have bd11:Binds K fd11 ["self"] []:=dy F11
 have T11:FnOk l.prog w K mg base CX0 1 f11 fd11 _ (cV K c):=nB (c:=c) B F11
 have bd12:Binds K fd12 ["self"] []:=dy F12
 have T12:FnOk l.prog w K mg base CX0 1 f12 fd12 _ (d4 K c):=p7 (c:=c) B F12
 have Dj:MCal l.prog w K mg base c c.ok 1 "reckons" ["self"] (dk K c):=⟨fun i hi=>by cases i with | Rule=>exact (Bool.false_ne_true hi).elim | Unlike=>exact ⟨f9,_,cls_Unlike,⟨a9_Unlike,fn9,F9.kp⟩,(T9.mono (by decide)).imp (fun vs H Q E h=>⟨.Unlike,rfl,h⟩),bd9⟩ | Sum=>exact ⟨f10,_,cls_Sum,⟨a10_Sum,fn10,F10.kp⟩,(T10.mono (by decide)).imp (fun vs H Q E h=>h),bd10⟩ | Rising=>exact ⟨f11,_,cls_Rising,⟨a11_Rising,fn11,F11.kp⟩,(T11.mono (by decide)).imp (fun vs H Q E h=>h),bd11⟩ | Seen=>exact ⟨f12,_,cls_Seen,⟨a12_Seen,fn12,F12.kp⟩,(T12.mono (by decide)).imp (fun vs H Q E h=>h),bd12⟩ | Count=>exact ⟨f9,_,cls_Count,⟨a9_Count,fn9,F9.kp⟩,(T9.mono (by decide)).imp (fun vs H Q E h=>⟨.Count,rfl,h⟩),bd9⟩ | Joined=>exact ⟨f9,_,cls_Joined,⟨a9_Joined,fn9,F9.kp⟩,(T9.mono (by decide)).imp (fun vs H Q E h=>⟨.Joined,rfl,h⟩),bd9⟩ | NoSquare=>exact ⟨f9,_,cls_NoSquare,⟨a9_NoSquare,fn9,F9.kp⟩,(T9.mono (by decide)).imp (fun vs H Q E h=>⟨.NoSquare,rfl,h⟩),bd9⟩ | Ring=>exact ⟨f9,_,cls_Ring,⟨a9_Ring,fn9,F9.kp⟩,(T9.mono (by decide)).imp (fun vs H Q E h=>⟨.Ring,rfl,h⟩),bd9⟩⟩
 have Di:Cal l.prog w K mg base _ _ _ (fj K):=zD (vS B G_OF_ALL_CELLS G_WITH_NUMBER G_WITH_SIGN F13) F13 (PySem.W.mg_of X G a13)
 have CB:Cal l.prog w K mg base _ _ _ (c8 K):=lK (ud B Dg BJ F14) F14 (PySem.W.mg_of X G a14)
 have bd15:Binds K fd15 ["self"] []:=dy F15
 have T15:FnOk l.prog w K mg base CX0 1 f15 fd15 _ (dQ K c d):=p8 (c:=c) (d:=d) B FK_d_floor F15
 have BM:MCal l.prog w K mg base d d.ok 1 "place" ["self"] (iE K c d):=⟨fun i hi=>by cases i; exact ⟨f15,_,cls_Puzzle,⟨a15_Puzzle,fn15,F15.kp⟩,(T15.mono (by decide)).imp (fun vs H Q E h=>h),bd15⟩⟩
 have bd16:Binds K fd16 ["self"] []:=dy F16
 have T16:FnOk l.prog w K mg base CX0 1 f16 fd16 _ (dS K c d):=p9 (c:=c) (d:=d) B FK_d_given F16
 have AJ:MCal l.prog w K mg base d d.ok 1 "clues" ["self"] (cQ K c d):=⟨fun i hi=>by cases i; exact ⟨f16,_,cls_Puzzle,⟨a16_Puzzle,fn16,F16.kp⟩,(T16.mono (by decide)).imp (fun vs H Q E h=>h),bd16⟩⟩
 have bd17:Binds K fd17 ["self"] []:=dy F17
 have T17:FnOk l.prog w K mg base CX0 1 f17 fd17 _ (dW K c d):=qa (c:=c) (d:=d) B FK_d_laws F17
 have BK:MCal l.prog w K mg base d d.ok 1 "rules" ["self"] (iF K c d):=⟨fun i hi=>by cases i; exact ⟨f17,_,cls_Puzzle,⟨a17_Puzzle,fn17,F17.kp⟩,(T17.mono (by decide)).imp (fun vs H Q E h=>h),bd17⟩⟩
 have AG:Cal l.prog w K mg base _ _ _ (bo K):=lK (qb B F18) F18 (PySem.W.mg_of X G a18)
 have B0:Cal l.prog w K mg base _ _ _ (cm K):=ed (qV B F19) F19 (PySem.W.mg_of X G a19)
 have Bq:Cal l.prog w K mg base _ _ _ (bM K):=ed (oS B F20) F20 (PySem.W.mg_of X G a20)
 have Aw:Cal l.prog w K mg base _ _ _ (aN K):=lK (mF B F21) F21 (PySem.W.mg_of X G a21)
 have AK:Cal l.prog w K mg base _ _ _ (bV K):=ed (ue B F22) F22 (PySem.W.mg_of X G a22)
 have Az:Cal l.prog w K mg base _ _ _ (aP K):=ed (vT B F23) F23 (PySem.W.mg_of X G a23)
 have B1:Cal l.prog w K mg base _ _ _ (cg K):=ed (qW B F24) F24 (PySem.W.mg_of X G a24)
 have Cg:Cal l.prog w K mg base _ _ _ (cG K):=ed (sr B F25) F25 (PySem.W.mg_of X G a25)
 have CC:Cal l.prog w K mg base _ _ _ (da K):=ja (uf B F26) F26 (PySem.W.mg_of X G a26)
 have CD:Cal l.prog w K mg base _ _ _ (db K):=ed (ug B F27) F27 (PySem.W.mg_of X G a27)
 have AN:Cal l.prog w K mg base _ _ _ (bU K):=ja (uh B F28) F28 (PySem.W.mg_of X G a28)
 have B3:Cal l.prog w K mg base _ _ _ (cq K):=ed (qX B F29) F29 (PySem.W.mg_of X G a29)
 have Bw:Cal l.prog w K mg base _ _ _ (bN K):=ed (oU B F30) F30 (PySem.W.mg_of X G a30)
 have BP:Cal l.prog w K mg base _ _ _ (bF K):=lK (qc B F31) F31 (PySem.W.mg_of X G a31)
 have Bv:Cal l.prog w K mg base _ _ _ (bO K):=ed (oV B F32) F32 (PySem.W.mg_of X G a32)
 have AI:Cal l.prog w K mg base _ _ _ (aY K):=ed (nD B AB F33) F33 (PySem.W.mg_of X G a33)
 have AF:Cal l.prog w K mg base _ _ _ (bf K):=ja (oW B CB F34) F34 (PySem.W.mg_of X G a34)
 have Cj:Cal l.prog w K mg base _ _ _ (cF K):=ja (su B AB Au F35) F35 (PySem.W.mg_of X G a35)
 have bd36:Binds K fd36 ["self"] []:=dy F36
 have T36:FnOk l.prog w K mg base CX0 2 f36 fd36 _ (dY K c d):=qd (c:=c) (d:=d) B FK_d_laws Ee F36
 have BL:MCal l.prog w K mg base d d.ok 2 "lines" ["self"] (gb K c d):=⟨fun i hi=>by cases i; exact ⟨f36,_,cls_Puzzle,⟨a36_Puzzle,fn36,F36.kp⟩,(T36.mono (by decide)).imp (fun vs H Q E h=>h),bd36⟩⟩
 have AE:c6 l.prog w K mg base _ _ _ (aZ K):=Ah (nF B AB Cf EM R_NoMove F37) F37 (PySem.W.mg_of X G a37)
 have Ck:Cal l.prog w K mg base _ _ _ (cH K):=ja (sw B Bq Dh AG B0 AH F38) F38 (PySem.W.mg_of X G a38)
 have B2:Cal l.prog w K mg base _ _ _ (cr K):=ed (qY B AB Aw F39) F39 (PySem.W.mg_of X G a39)
 have Bu:Cal l.prog w K mg base _ _ _ (cI K c):=ja (sx (c:=c) B AK Di Ef Ds Eg DT F40) F40 (PySem.W.mg_of X G a40)
 have AS:Cal l.prog w K mg base _ _ _ (bP K c d):=lK (oX (c:=c) (d:=d) B Dj BK F41) F41 (PySem.W.mg_of X G a41)
 have Cp:Cal l.prog w K mg base _ _ _ (cA K):=lK (sy B Az F42) F42 (PySem.W.mg_of X G a42)
 have CG:Cal l.prog w K mg base _ _ _ (ck K):=ja (ui B CC Cg CD B1 F43) F43 (PySem.W.mg_of X G a43)
 have BO:Cal l.prog w K mg base _ _ _ (bE K):=ja (qe B Az F44) F44 (PySem.W.mg_of X G a44)
 have AZ:Cal l.prog w K mg base _ _ _ (bh K):=zD (mH B AN F45) F45 (PySem.W.mg_of X G a45)
 have CI:Cal l.prog w K mg base _ _ _ (dI K):=ja (uD B AI Ch BY Ci F46) F46 (PySem.W.mg_of X G a46)
 have AY:Cal l.prog w K mg base _ _ _ (bj K):=ja (qf B AF F47) F47 (PySem.W.mg_of X G a47)
 have Cm:Cal l.prog w K mg base _ _ _ (cC K):=ed (sB B Au AF F48) F48 (PySem.W.mg_of X G a48)
 have Dk:Cal l.prog w K mg base _ _ _ (eQ K c):=zE (vU (c:=c) B DU Dt CH Eh Du Ei K_Sum Dv F49) F49 (PySem.W.mg_of X G a49)
 have Br:Cal l.prog w K mg base _ _ _ (bL K):=ed (oY B Cj F50) F50 (PySem.W.mg_of X G a50)
 have Bc:c6 l.prog w K mg base _ _ _ (cp K):=vQ (qZ B AE AG AH F51) F51 (PySem.W.mg_of X G a51)
 have AD:c6 l.prog w K mg base _ _ _ (bw K):=vQ (q0 B Au Ck AE F52) F52 (PySem.W.mg_of X G a52)
 have AC:c6 l.prog w K mg base _ _ _ (bx K):=vQ (q5 B B2 Aw EM R_NoMove F53) F53 (PySem.W.mg_of X G a53)
 have BZ:Cal l.prog w K mg base _ _ _ (bC K c d):=zE (vV (c:=c) (d:=d) B B3 AZ AN AJ BL BM IS_Puzzle F54) F54 (PySem.W.mg_of X G a54)
 have CJ:Cal l.prog w K mg base _ _ _ (dH K):=ja (uE B Au Cm G_OF_ALL_CELLS F55) F55 (PySem.W.mg_of X G a55)
 have Bs:Cal l.prog w K mg base _ _ _ (bK K):=lK (oZ B CI F56) F56 (PySem.W.mg_of X G a56)
 have AT:c6 l.prog w K mg base 4 "moved_filling" ["floor","filling","move","signs"] (bu K):=⟨f57,fd57,kj B AC AK Au AD F57,PySem.W.mg_of X G a57,F57.kp,F57.binds (ps:=["floor","filling","move","signs"]) fun _ _ _ _ _ _ _ us hl=>match us,hl with | [_,_,_,_],_=>⟨_,rfl,rfl⟩⟩
 have CD_moved_filling:sG l.prog w K mg base 4 "moved_filling" ["floor","filling","move","signs"] (bu K) [Value.none]:=⟨f57,fd57,kj B AC AK Au AD F57,PySem.W.mg_of X G a57,F57.kp,FunD.bindsD (ps:=["floor","filling","move","signs"]) 3 rfl F57 fun _ _ _ _ _ _ _ us hl=>match us,hl with | [_,_,_],_=>⟨_,rfl,rfl⟩⟩
 have CF:Cal l.prog w K mg base _ _ _ (c9 K c):=ed (uj (c:=c) B CJ AY Dk B4 G_WITH_NUMBER G_WITH_SIGN F58) F58 (PySem.W.mg_of X G a58)
 have Co:Cal l.prog w K mg base _ _ _ (cD K c):=ed (sC (c:=c) B CF Cn F59) F59 (PySem.W.mg_of X G a59)
 have bd60:Binds K fd60 ["self","floor","lines","clues"] []:=x8 F60
 have T60:FnOk l.prog w K mg base CX0 7 f60 fd60 _ (aM K c d):=mK (c:=c) (d:=d) B Br Bs Co FK_d_floor FK_d_given FK_d_laws F60
 have Be:KCal l.prog w K mg base _ "Puzzle" (d.A .Puzzle) _ (aM K c d):=⟨f60,_,⟨Da,CP,fn60,Db⟩,T60,PySem.W.mg_of X G CL,bd60⟩
 have BN:c6 l.prog w K mg base 9 "moved" ["puzzle","move","signs"] (bQ K c d):=⟨f61,fd61,uk (c:=c) (d:=d) B AC AS AD AT Bc Bu Aw AJ BM BK Be EM R_NoMove F61,PySem.W.mg_of X G a61,F61.kp,F61.binds (ps:=["puzzle","move","signs"]) fun _ _ _ _ _ _ _ us hl=>match us,hl with | [_,_,_],_=>⟨_,rfl,rfl⟩⟩
 have CD_moved:sG l.prog w K mg base 9 "moved" ["puzzle","move","signs"] (bQ K c d) [Value.none]:=⟨f61,fd61,uk (c:=c) (d:=d) B AC AS AD AT Bc Bu Aw AJ BM BK Be EM R_NoMove F61,PySem.W.mg_of X G a61,F61.kp,FunD.bindsD (ps:=["puzzle","move","signs"]) 2 rfl F61 fun _ _ _ _ _ _ _ us hl=>match us,hl with | [_,_],_=>⟨_,rfl,rfl⟩⟩
 have AL:Cal l.prog w K mg base _ _ _ (ba K c d):=ja (qg (c:=c) (d:=d) B BN EM R_NoMove BV F62) F62 (PySem.W.mg_of X G a62)
 exact (zJ (c:=c) (d:=d) B Az Bv Bw BO Cp BZ CG BP AL BN AJ BL Be CD_moved F63).imp fun vs H Q E h=>by obtain ⟨a,ns,e,hS,hn,k⟩:=h; exact ⟨a,ns,e,hS,hn,fun k hk=>by cases k <;> first | rfl | exact absurd rfl hk,rfl,k⟩
theorem walk {l:PySem.W.OpenLaw} {q:Program} {loose:List Str} {XP:(Str→Option Value)→Heap→Prop} {YP:World→Heap→Prop} {d:DefRec} {K:Params→PySem.W.Frag} (hn:l.most=some 63) (hdf:d.params.defaults=[])
  (hY:∀ (w:World) (h:Heap),YP w h→(K w.params).In h)
  (F:∀ (w:World) (mg:Str→Option Value) (fa:Addr) (h:Heap),(K w.params).In h→h.Ns mainGlobals mg→mg d.name=some (.ref fa)→
   ∃ fd:FuncData,(∀ (s:Shared) (u:Value),BindsTo s fd ⟨[u],[]⟩ [("_law_script",u)])∧∀ base:Heap,(K w.params).In base→base.Ns mainGlobals mg→FnOk l.prog w (K w.params) mg base CX0 11 fa fd ["_law_script"] (qS (K w.params))):
  PySem.W.WalkO q loose XP YP l.row.toRowW d [] (fun f vs=>PySem.call f vs):=
 L2.yo (n:=63) (k:=11) (x:="_law_script") (CX:=fun _=>CX0) (sp:=fun w=>qS (K w.params)) hn (by decide) hdf ⟨rfl,by decide,by decide⟩ hY F (fun _ _ a ns hl _ hS=>⟨a,ns,rfl,hS,hl,fun _=>rfl⟩) fun _ _ _ _ _ z=>z
end L2
open PySem PySem.W PyProof.Rows
set_option maxRecDepth 100000 in
def PySem.W.Fast.tw6432549770217121749:Unit:=()
def PySem.W.Fast.tw7315352227053693744:Unit:=()
def PySem.W.Fast.tw18078296170737084045:Unit:=()
def PySem.W.Fast.tw11311931512604446431:Unit:=()
def PySem.W.Fast.tw5038188309275324361:Unit:=()
def PySem.W.Fast.tw12458673611893217364:Unit:=()
def PySem.W.Fast.tw8338912058096248079:Unit:=()
def PySem.W.Fast.tw13535045432405723596:Unit:=()
def PySem.W.Fast.tw16144274259382276325:Unit:=()
def PySem.W.Fast.tw1207719148299533056:Unit:=()
def PySem.W.Fast.tw17653238890051222978:Unit:=()
def PySem.W.Fast.tw7182685994541934501:Unit:=()
def PySem.W.Fast.tw9560678612582849372:Unit:=()
def PySem.W.Fast.tw16334768211410186881:Unit:=()
def PySem.W.Fast.tw9270547883828832775:Unit:=()
def PySem.W.Fast.tw5846256314625868185:Unit:=()
def PySem.W.Fast.tw11754426965295500704:Unit:=()
def PySem.W.Fast.tw15251633597143574409:Unit:=()
def PySem.W.Fast.tw17872667143024647944:Unit:=()
def PySem.W.Fast.tw16390221633079017889:Unit:=()
def PySem.W.Fast.tw11512543771854333471:Unit:=()
def PySem.W.Fast.tw6651007300495057674:Unit:=()
def PySem.W.Fast.tw299451173275530080:Unit:=()
def PySem.W.Fast.tw5489182961451861833:Unit:=()
def PySem.W.Fast.tw8718489295144813015:Unit:=()
def PySem.W.Fast.tw12315771210658761876:Unit:=()
def PySem.W.Fast.tw14576542320383136792:Unit:=()
def PySem.W.Fast.tw15836735618728326055:Unit:=()
def PySem.W.Fast.tw14880781939958279371:Unit:=()
def PySem.W.Fast.tw11853740918853265765:Unit:=()
def PySem.W.Fast.tw3250508636317259946:Unit:=()
def PySem.W.Fast.tw5633701976710653082:Unit:=()
def PySem.W.Fast.tw4057287517658205990:Unit:=()
def PySem.W.Fast.tw16621617586967730123:Unit:=()
def PySem.W.Fast.tw2444505804841979847:Unit:=()
def PySem.W.Fast.tw13659667974111413717:Unit:=()
def PySem.W.Fast.tw15729516377338563348:Unit:=()
def PySem.W.Fast.tw3930607764436250159:Unit:=()
def PySem.W.Fast.tw11395671621064027850:Unit:=()
def PySem.W.Fast.tw10021714581731374721:Unit:=()
def PySem.W.Fast.tw15199329638047903038:Unit:=()
def PySem.W.Fast.tw749239266624256411:Unit:=()
def PySem.W.Fast.tw15192898302728564015:Unit:=()
def PySem.W.Fast.tw12558893172022184074:Unit:=()
def PySem.W.Fast.tw9026034596489379655:Unit:=()
def PySem.W.Fast.tw1347644417592246593:Unit:=()
def PySem.W.Fast.tw8480111634229273548:Unit:=()
def PySem.W.Fast.tw17982958406900062166:Unit:=()
def PySem.W.Fast.tw14523392467101537418:Unit:=()
def PySem.W.Fast.tw16148147817898511818:Unit:=()
def PySem.W.Fast.tw12347427045448765114:Unit:=()
def PySem.W.Fast.tw12795875918876331064:Unit:=()
def PySem.W.Fast.tw7095113008032230251:Unit:=()
def PySem.W.Fast.tw16842202507253982246:Unit:=()
def PySem.W.Fast.tw838014737671591815:Unit:=()
def PySem.W.Fast.tw15400332681523288342:Unit:=()
def PySem.W.Fast.tw5827720651268293679:Unit:=()
def PySem.W.Fast.tw10611903096345204488:Unit:=()
def PySem.W.Fast.tw14370148801766104925:Unit:=()
def PySem.W.Fast.tw1739225869212973652:Unit:=()
def PySem.W.Fast.tw146190919466914276:Unit:=()
def PySem.W.Fast.tw15059663429184579661:Unit:=()
def PySem.W.Fast.tw967935926008803641:Unit:=()
def PySem.W.Fast.tw12317744327512126992:Unit:=()
def PySem.W.Fast.tw11191799388443460022:Unit:=()
def PySem.W.Fast.tw18230890092294052637:Unit:=()
def PySem.W.Fast.tw3769600899536255070:Unit:=()
def PySem.W.Fast.tw1688817380801088614:Unit:=()
def PySem.W.Fast.tw18007272505083139889:Unit:=()
def PySem.W.Fast.tw16465329690208775880:Unit:=()
def PySem.W.Fast.tw4463517434601897743:Unit:=()
def PySem.W.Fast.tw17548323478436481979:Unit:=()
def PySem.W.Fast.tw6600024504594228188:Unit:=()
def PySem.W.Fast.tw17781413974462971622:Unit:=()
def PySem.W.Fast.tw11914274723259662800:Unit:=()
def PySem.W.Fast.tw3543732973538609830:Unit:=()
def PySem.W.Fast.tw7927429785154238556:Unit:=()
def PySem.W.Fast.tw11869958081182656052:Unit:=()
def PySem.W.Fast.tw14173502350384705522:Unit:=()
def PySem.W.Fast.tw15255272708597423200:Unit:=()
def PySem.W.Fast.tw14918585902827708687:Unit:=()
def PySem.W.Fast.tw4191985948235595388:Unit:=()
def PySem.W.Fast.tw9762165939462256005:Unit:=()
def PySem.W.Fast.tw14621007092759435043:Unit:=()
def PySem.W.Fast.tw5100765374851802017:Unit:=()
def PySem.W.Fast.tw15351179143827638471:Unit:=()
def PySem.W.Fast.tw12081207858622517269:Unit:=()
def PySem.W.Fast.tw4705001182483514889:Unit:=()
def PySem.W.Fast.tw17511395018703021699:Unit:=()
def PySem.W.Fast.tw10473082733341283836:Unit:=()
def PySem.W.Fast.tw10035520407617975855:Unit:=()
def PySem.W.Fast.tw10312141132202432944:Unit:=()
def PySem.W.Fast.tw9221429805696341780:Unit:=()
def PySem.W.Fast.tw11547359636722581176:Unit:=()
def PySem.W.Fast.tw4678515934567007941:Unit:=()
def PySem.W.Fast.tw13632534695333618796:Unit:=()
def PySem.W.Fast.tw1319452869425467098:Unit:=()
def PySem.W.Fast.tw10514127566142519410:Unit:=()
def PySem.W.Fast.tw16942756871709555151:Unit:=()
def PySem.W.Fast.tw987653902661581904:Unit:=()
def PySem.W.Fast.tw18228290359294445086:Unit:=()
def PySem.W.Fast.tw3782245980206876547:Unit:=()
def PySem.W.Fast.tw6027799481040640066:Unit:=()
def PySem.W.Fast.tw3627634913937396552:Unit:=()
def PySem.W.Fast.tw5934111804944164311:Unit:=()
def PySem.W.Fast.tw3127558034827153474:Unit:=()
def PySem.W.Fast.tw8572466015138900426:Unit:=()
def PySem.W.Fast.tw2773497983361780516:Unit:=()
def PySem.W.Fast.tw2825733826344973558:Unit:=()
def PySem.W.Fast.tw11142015001102117298:Unit:=()
def PySem.W.Fast.tw7622759831520287317:Unit:=()
def PySem.W.Fast.tw15418363541941150395:Unit:=()
def PySem.W.Fast.tw17357810736557041909:Unit:=()
def PySem.W.Fast.tw4403159096871737375:Unit:=()
def PySem.W.Fast.tw14744887316616335248:Unit:=()
def PySem.W.Fast.tw7866555731464420158:Unit:=()
def PySem.W.Fast.tw8388198457181503725:Unit:=()
def PySem.W.Fast.tw1660833825441059198:Unit:=()
def PySem.W.Fast.tw11156240302861722228:Unit:=()
def PySem.W.Fast.tw9593487412552773993:Unit:=()
def PySem.W.Fast.tw10077608262013161955:Unit:=()
def PySem.W.Fast.tw7537359123729830868:Unit:=()
def PySem.W.Fast.tw7745456556987594357:Unit:=()
def PySem.W.Fast.tw10772925004736719959:Unit:=()
def PySem.W.Fast.tw11564478617124820526:Unit:=()
def PySem.W.Fast.tw6795680820581720558:Unit:=()
def PySem.W.Fast.tw150245439729485781:Unit:=()
def PySem.W.Fast.tw3987754723852408128:Unit:=()
def PySem.W.Fast.tw6407249095609978889:Unit:=()
def PySem.W.Fast.tw18077743754770344484:Unit:=()
def PySem.W.Fast.tw9396448992756681170:Unit:=()
def PySem.W.Fast.tw5512653752018877189:Unit:=()
def PySem.W.Fast.tw13905325986993093591:Unit:=()
def PySem.W.Fast.tw6402027752332113895:Unit:=()
def PySem.W.Fast.tw4001330461529864441:Unit:=()
def PySem.W.Fast.tw16778162264992510967:Unit:=()
def PySem.W.Fast.tw18131851345964474637:Unit:=()
def PySem.W.Fast.tw10270574525537604760:Unit:=()
def PySem.W.Fast.tw5327823953926690700:Unit:=()
def PySem.W.Fast.tw337387235745926336:Unit:=()
def PySem.W.Fast.tw15431686326037299811:Unit:=()
def PySem.W.Fast.tw6445239882035823158:Unit:=()
def PySem.W.Fast.tw5931115486716407965:Unit:=()
def PySem.W.Fast.tw4822204752779560889:Unit:=()
def PySem.W.Fast.tw14632040203423042583:Unit:=()
def PySem.W.Fast.tw8682545597745882214:Unit:=()
def PySem.W.Fast.tw9757250408498803750:Unit:=()
def PySem.W.Fast.tw13465456590174777110:Unit:=()
def PySem.W.Fast.tw17508476168745904515:Unit:=()
def PySem.W.Fast.tw15293492295780502888:Unit:=()
def PySem.W.Fast.tw10859871173630538006:Unit:=()
def PySem.W.Fast.tw12065110285932259181:Unit:=()
def PySem.W.Fast.tw16032939387690591231:Unit:=()
def PySem.W.Fast.tw12189021465976377082:Unit:=()
def PySem.W.Fast.tw9145947914627068634:Unit:=()
def PySem.W.Fast.tw15668533661850062144:Unit:=()
def PySem.W.Fast.tw6385989131920135100:Unit:=()
def PySem.W.Fast.tw3405319713785704773:Unit:=()
def PySem.W.Fast.tw5534059832708596101:Unit:=()
def PySem.W.Fast.tw7851434481829086908:Unit:=()
def PySem.W.Fast.tw2055547630466571868:Unit:=()
def PySem.W.Fast.tw17929382451516016184:Unit:=()
def PySem.W.Fast.tw17622939867884385519:Unit:=()
def PySem.W.Fast.tw7460045407011905788:Unit:=()
def PySem.W.Fast.tw11026904589857688664:Unit:=()
def PySem.W.Fast.tw6034083890569529488:Unit:=()
def PySem.W.Fast.tw14244060013049236096:Unit:=()
def PySem.W.Fast.tw3440277122054538337:Unit:=()
def PySem.W.Fast.tw10356618915910199648:Unit:=()
def PySem.W.Fast.tw4019698467109536559:Unit:=()
def PySem.W.Fast.tw16300882703269243580:Unit:=()
def PySem.W.Fast.tw15529162549463064333:Unit:=()
def PySem.W.Fast.tw9994741453329093607:Unit:=()
def PySem.W.Fast.tw1501528728720434109:Unit:=()
def PySem.W.Fast.tw11218312730279521871:Unit:=()
def PySem.W.Fast.tw18284855053650652587:Unit:=()
def PySem.W.Fast.tw14758790843699866796:Unit:=()
def PySem.W.Fast.tw1143274038518580427:Unit:=()
def PySem.W.Fast.tw16873186115154285848:Unit:=()
def PySem.W.Fast.tw10027386203431813746:Unit:=()
def PySem.W.Fast.tw15819000467633839738:Unit:=()
def PySem.W.Fast.tw7990172206867521205:Unit:=()
def PySem.W.Fast.tw14185173102534965770:Unit:=()
def PySem.W.Fast.tw5127437666557582586:Unit:=()
def PySem.W.Fast.tw6681469280908697080:Unit:=()
def PySem.W.Fast.tw9858714734723711843:Unit:=()
def PySem.W.Fast.tw11112293721411405175:Unit:=()
def PySem.W.Fast.tw12798843463809119925:Unit:=()
def PySem.W.Fast.tw12628797396633148768:Unit:=()
def PySem.W.Fast.tw12008944969240379054:Unit:=()
def PySem.W.Fast.tw11602553179932134651:Unit:=()
def PySem.W.Fast.tw14677426000741273500:Unit:=()
def PySem.W.Fast.tw10073154570498378560:Unit:=()
def PySem.W.Fast.tw4353364404950315092:Unit:=()
def PySem.W.Fast.tw18108073246318057593:Unit:=()
def PySem.W.Fast.tw5074700805607131859:Unit:=()
def PySem.W.Fast.tw742047022948920062:Unit:=()
def PySem.W.Fast.tw475289480241480629:Unit:=()
def PySem.W.Fast.tw2073338865950834236:Unit:=()
def PySem.W.Fast.tw15023426053146632625:Unit:=()
def PySem.W.Fast.tw14398331713833866534:Unit:=()
def PySem.W.Fast.tw10315242452065148395:Unit:=()
def PySem.W.Fast.tw11635767394719688994:Unit:=()
def PySem.W.Fast.tw12375328252191253396:Unit:=()
def PySem.W.Fast.tw1712250101666374651:Unit:=()
def PySem.W.Fast.tw7284018950768435655:Unit:=()
set_option maxHeartbeats 0 in
theorem PySem.Challenge.cw_cluemaker_k67_puzzles_moved_holds : PySem.Challenge.rw_cluemaker_k67_puzzles_moved.Holds := by
  w_on; o_law; k_head; (case hw => w_witness2)
  k_fill
  refine L2.walk (l := PySem.Challenge.rw_cluemaker_k67_puzzles_moved) rfl rfl (fun w h Y => PySem.W.kIn_of Y) ?F
  case F =>
    intro w mg fa h KX G hmg
    refine' L2.zK KX G hmg ?Dw ?q_Sum ?Dx ?Er ?D6 ?Dy ?CK ?Es ?CL ?a0 ?a1 ?a2 ?CM ?D7 ?CN ?Dz ?Dl ?CO ?Cr ?DA ?a4_Unlike ?a4_Sum ?a4_Rising ?a4_Seen ?a4_Count ?a4_Joined ?a4_NoSquare ?a4_Ring ?a5_Unlike ?a5_Sum ?a5_Rising ?a5_Seen ?a5_Count ?a5_Joined ?a5_NoSquare ?a5_Ring ?a6_Unlike ?a6_Sum ?a6_Rising ?a6_Seen ?a6_Count ?a6_Joined ?a6_NoSquare ?a6_Ring ?a7_Unlike ?a7_Sum ?a7_Rising ?a7_Seen ?a7_Count ?a7_Joined ?a7_NoSquare ?a7_Ring ?a8_Unlike ?a8_Sum ?a8_Rising ?a8_Seen ?a8_Count ?a8_Joined ?a8_NoSquare ?a8_Ring ?a9_Unlike ?a9_Count ?a9_Joined ?a9_NoSquare ?a9_Ring ?a10_Sum ?a11_Rising ?a12_Seen ?a13 ?a14 ?a15_Puzzle ?a16_Puzzle ?a17_Puzzle ?a18 ?a19 ?a20 ?a21 ?a22 ?a23 ?a24 ?a25 ?a26 ?a27 ?a28 ?a29 ?a30 ?a31 ?a32 ?a33 ?a34 ?a35 ?a36_Puzzle ?a37 ?a38 ?a39 ?a40 ?a41 ?a42 ?a43 ?a44 ?a45 ?a46 ?a47 ?a48 ?a49 ?a50 ?a51 ?a52 ?a53 ?a54 ?a55 ?a56 ?a57 ?a58 ?a59 ?CP ?a61 ?a62 ?a63 ?F0 ?F1 ?F2 ?F3 ?fn3 ?F4 ?fn4 ?F5 ?fn5 ?F6 ?fn6 ?F7 ?fn7 ?F8 ?fn8 ?F9 ?fn9 ?F10 ?fn10 ?F11 ?fn11 ?F12 ?fn12 ?F13 ?F14 ?F15 ?fn15 ?F16 ?fn16 ?F17 ?fn17 ?F18 ?F19 ?F20 ?F21 ?F22 ?F23 ?F24 ?F25 ?F26 ?F27 ?F28 ?F29 ?F30 ?F31 ?F32 ?F33 ?F34 ?F35 ?F36 ?fn36 ?F37 ?F38 ?F39 ?F40 ?F41 ?F42 ?F43 ?F44 ?F45 ?F46 ?F47 ?F48 ?F49 ?F50 ?F51 ?F52 ?F53 ?F54 ?F55 ?F56 ?F57 ?F58 ?F59 ?F60 ?fn60 ?F61 ?F62 ?F63 ?CQ ?CS ?CT ?CU ?CV ?CW ?D8 ?D9 ?Ea ?Eb ?Ec ?Ed ?CY ?CZ ?C0 ?C1 ?C2 ?C3 ?DB ?DC ?DD ?DE ?DF ?DG ?Dm ?Dn ?Do ?Dp ?Dq ?Dr ?C4 ?C5 ?C6 ?C7 ?C8 ?C9 ?Cs ?Ct ?Cu ?Cv ?Cw ?Cy ?DH ?DI ?DJ ?DK ?DL ?DM ?Da ?Db ?Dc ?Ce ?Dd ?De ?io1_Puzzle ?io2_Puzzle ?io3_Puzzle ?io4_Puzzle ?io5_Puzzle ?io6_Puzzle ?AU ?By ?AV ?Bf ?A0 ?AW ?AM ?Bg ?A1 ?BR ?A2 ?Bz ?Bh ?A3 ?AO ?BA ?A4 ?BS ?A5 ?BB ?Bi ?A6 ?AQ ?BC ?Bj ?B5 ?Bk ?BT ?BD ?Bl ?AX ?BU ?A7 ?BW ?A8 ?BE ?Bm ?A9 ?AR ?BF ?Ba ?Bb ?Bn ?Bo ?Bp ?BG ?BH ?B6 ?B7 ?Df ?B8 ?B9 ?Ca ?BI ?BX ?Cb ?CA ?Cc ?z_len ?z_abs ?z_min ?z_max ?z_sorted ?z_any ?z_isinstance ?z_list ?z_int ?z_bool ?z_str ?z_tuple ?z_reversed ?z_set ?z_range ?z_zip ?z_all ?z_sum ?z_enumerate ?e_ClueError ?e_NoFloor ?e_NoFilling ?e_NoRule ?e_NoPuzzle ?e_TooMany ?e_NoMove ?z_ValueError ?D1 ?D2 ?D3 ?D4 ?r1_NoMove ?r2_NoMove ?r3_NoMove ?f1_NoMove ?f2_NoMove ?f3_NoMove ?f4_NoMove ?f5_NoMove ?f6_NoMove ?f7_NoMove ?g_NoMove_NoFilling ?g_NoMove_NoPuzzle ?g_NoMove_TooMany ?g_NoMove_NoRule
    (case Dw => k_is)
    (case q_Sum => k_is)
    (case Dx => k_is)
    (case Er => k_is)
    (case D6 => k_is)
    (case Dy => k_is)
    (case CK => k_is)
    (case Es => k_is)
    (case CL => k_is)
    (case a0 => k_is)
    (case a1 => k_is)
    (case a2 => k_is)
    (case CM => k_is)
    (case D7 => k_is)
    (case CN => k_is)
    (case Dz => k_is)
    (case Dl => k_is)
    (case CO => k_is)
    (case Cr => k_is)
    (case DA => k_is)
    (case a4_Unlike => k_is)
    (case a4_Sum => k_is)
    (case a4_Rising => k_is)
    (case a4_Seen => k_is)
    (case a4_Count => k_is)
    (case a4_Joined => k_is)
    (case a4_NoSquare => k_is)
    (case a4_Ring => k_is)
    (case a5_Unlike => k_is)
    (case a5_Sum => k_is)
    (case a5_Rising => k_is)
    (case a5_Seen => k_is)
    (case a5_Count => k_is)
    (case a5_Joined => k_is)
    (case a5_NoSquare => k_is)
    (case a5_Ring => k_is)
    (case a6_Unlike => k_is)
    (case a6_Sum => k_is)
    (case a6_Rising => k_is)
    (case a6_Seen => k_is)
    (case a6_Count => k_is)
    (case a6_Joined => k_is)
    (case a6_NoSquare => k_is)
    (case a6_Ring => k_is)
    (case a7_Unlike => k_is)
    (case a7_Sum => k_is)
    (case a7_Rising => k_is)
    (case a7_Seen => k_is)
    (case a7_Count => k_is)
    (case a7_Joined => k_is)
    (case a7_NoSquare => k_is)
    (case a7_Ring => k_is)
    (case a8_Unlike => k_is)
    (case a8_Sum => k_is)
    (case a8_Rising => k_is)
    (case a8_Seen => k_is)
    (case a8_Count => k_is)
    (case a8_Joined => k_is)
    (case a8_NoSquare => k_is)
    (case a8_Ring => k_is)
    (case a9_Unlike => k_is)
    (case a9_Count => k_is)
    (case a9_Joined => k_is)
    (case a9_NoSquare => k_is)
    (case a9_Ring => k_is)
    (case a10_Sum => k_is)
    (case a11_Rising => k_is)
    (case a12_Seen => k_is)
    (case a13 => k_is)
    (case a14 => k_is)
    (case a15_Puzzle => k_is)
    (case a16_Puzzle => k_is)
    (case a17_Puzzle => k_is)
    (case a18 => k_is)
    (case a19 => k_is)
    (case a20 => k_is)
    (case a21 => k_is)
    (case a22 => k_is)
    (case a23 => k_is)
    (case a24 => k_is)
    (case a25 => k_is)
    (case a26 => k_is)
    (case a27 => k_is)
    (case a28 => k_is)
    (case a29 => k_is)
    (case a30 => k_is)
    (case a31 => k_is)
    (case a32 => k_is)
    (case a33 => k_is)
    (case a34 => k_is)
    (case a35 => k_is)
    (case a36_Puzzle => k_is)
    (case a37 => k_is)
    (case a38 => k_is)
    (case a39 => k_is)
    (case a40 => k_is)
    (case a41 => k_is)
    (case a42 => k_is)
    (case a43 => k_is)
    (case a44 => k_is)
    (case a45 => k_is)
    (case a46 => k_is)
    (case a47 => k_is)
    (case a48 => k_is)
    (case a49 => k_is)
    (case a50 => k_is)
    (case a51 => k_is)
    (case a52 => k_is)
    (case a53 => k_is)
    (case a54 => k_is)
    (case a55 => k_is)
    (case a56 => k_is)
    (case a57 => k_is)
    (case a58 => k_is)
    (case a59 => k_is)
    (case CP => k_is)
    (case a61 => k_is)
    (case a62 => k_is)
    (case a63 => k_is)
    (case F0 => (refine' L2.aw ?l ?c ?k; (case l => k_is); (case c => k_is); case k => k_is))
    (case F1 => (refine' L2.aw ?l ?c ?k; (case l => k_is); (case c => k_is); case k => k_is))
    (case F2 => (refine' L2.aw ?l ?c ?k; (case l => k_is); (case c => k_is); case k => k_is))
    (case F3 => (refine' L2.aw ?l ?c ?k; (case l => k_is); (case c => k_is); case k => k_is))
    (case fn3 => k_is)
    (case F4 => (refine' L2.aw ?l ?c ?k; (case l => k_is); (case c => k_is); case k => k_is))
    (case fn4 => k_is)
    (case F5 => (refine' L2.aw ?l ?c ?k; (case l => k_is); (case c => k_is); case k => k_is))
    (case fn5 => k_is)
    (case F6 => (refine' L2.aw ?l ?c ?k; (case l => k_is); (case c => k_is); case k => k_is))
    (case fn6 => k_is)
    (case F7 => (refine' L2.aw ?l ?c ?k; (case l => k_is); (case c => k_is); case k => k_is))
    (case fn7 => k_is)
    (case F8 => (refine' L2.aw ?l ?c ?k; (case l => k_is); (case c => k_is); case k => k_is))
    (case fn8 => k_is)
    (case F9 => (refine' L2.aw ?l ?c ?k; (case l => k_is); (case c => k_is); case k => k_is))
    (case fn9 => k_is)
    (case F10 => (refine' L2.aw ?l ?c ?k; (case l => k_is); (case c => k_is); case k => k_is))
    (case fn10 => k_is)
    (case F11 => (refine' L2.aw ?l ?c ?k; (case l => k_is); (case c => k_is); case k => k_is))
    (case fn11 => k_is)
    (case F12 => (refine' L2.aw ?l ?c ?k; (case l => k_is); (case c => k_is); case k => k_is))
    (case fn12 => k_is)
    (case F13 => (refine' L2.aw ?l ?c ?k; (case l => k_is); (case c => k_is); case k => k_is))
    (case F14 => (refine' L2.aw ?l ?c ?k; (case l => k_is); (case c => k_is); case k => k_is))
    (case F15 => (refine' L2.aw ?l ?c ?k; (case l => k_is); (case c => k_is); case k => k_is))
    (case fn15 => k_is)
    (case F16 => (refine' L2.aw ?l ?c ?k; (case l => k_is); (case c => k_is); case k => k_is))
    (case fn16 => k_is)
    (case F17 => (refine' L2.aw ?l ?c ?k; (case l => k_is); (case c => k_is); case k => k_is))
    (case fn17 => k_is)
    (case F18 => (refine' L2.aw ?l ?c ?k; (case l => k_is); (case c => k_is); case k => k_is))
    (case F19 => (refine' L2.aw ?l ?c ?k; (case l => k_is); (case c => k_is); case k => k_is))
    (case F20 => (refine' L2.aw ?l ?c ?k; (case l => k_is); (case c => k_is); case k => k_is))
    (case F21 => (refine' L2.aw ?l ?c ?k; (case l => k_is); (case c => k_is); case k => k_is))
    (case F22 => (refine' L2.aw ?l ?c ?k; (case l => k_is); (case c => k_is); case k => k_is))
    (case F23 => (refine' L2.aw ?l ?c ?k; (case l => k_is); (case c => k_is); case k => k_is))
    (case F24 => (refine' L2.aw ?l ?c ?k; (case l => k_is); (case c => k_is); case k => k_is))
    (case F25 => (refine' L2.aw ?l ?c ?k; (case l => k_is); (case c => k_is); case k => k_is))
    (case F26 => (refine' L2.aw ?l ?c ?k; (case l => k_is); (case c => k_is); case k => k_is))
    (case F27 => (refine' L2.aw ?l ?c ?k; (case l => k_is); (case c => k_is); case k => k_is))
    (case F28 => (refine' L2.aw ?l ?c ?k; (case l => k_is); (case c => k_is); case k => k_is))
    (case F29 => (refine' L2.aw ?l ?c ?k; (case l => k_is); (case c => k_is); case k => k_is))
    (case F30 => (refine' L2.aw ?l ?c ?k; (case l => k_is); (case c => k_is); case k => k_is))
    (case F31 => (refine' L2.aw ?l ?c ?k; (case l => k_is); (case c => k_is); case k => k_is))
    (case F32 => (refine' L2.aw ?l ?c ?k; (case l => k_is); (case c => k_is); case k => k_is))
    (case F33 => (refine' L2.aw ?l ?c ?k; (case l => k_is); (case c => k_is); case k => k_is))
    (case F34 => (refine' L2.aw ?l ?c ?k; (case l => k_is); (case c => k_is); case k => k_is))
    (case F35 => (refine' L2.aw ?l ?c ?k; (case l => k_is); (case c => k_is); case k => k_is))
    (case F36 => (refine' L2.aw ?l ?c ?k; (case l => k_is); (case c => k_is); case k => k_is))
    (case fn36 => k_is)
    (case F37 => (refine' L2.aw ?l ?c ?k; (case l => k_is); (case c => k_is); case k => k_is))
    (case F38 => (refine' L2.aw ?l ?c ?k; (case l => k_is); (case c => k_is); case k => k_is))
    (case F39 => (refine' L2.aw ?l ?c ?k; (case l => k_is); (case c => k_is); case k => k_is))
    (case F40 => (refine' L2.aw ?l ?c ?k; (case l => k_is); (case c => k_is); case k => k_is))
    (case F41 => (refine' L2.aw ?l ?c ?k; (case l => k_is); (case c => k_is); case k => k_is))
    (case F42 => (refine' L2.aw ?l ?c ?k; (case l => k_is); (case c => k_is); case k => k_is))
    (case F43 => (refine' L2.aw ?l ?c ?k; (case l => k_is); (case c => k_is); case k => k_is))
    (case F44 => (refine' L2.aw ?l ?c ?k; (case l => k_is); (case c => k_is); case k => k_is))
    (case F45 => (refine' L2.aw ?l ?c ?k; (case l => k_is); (case c => k_is); case k => k_is))
    (case F46 => (refine' L2.aw ?l ?c ?k; (case l => k_is); (case c => k_is); case k => k_is))
    (case F47 => (refine' L2.aw ?l ?c ?k; (case l => k_is); (case c => k_is); case k => k_is))
    (case F48 => (refine' L2.aw ?l ?c ?k; (case l => k_is); (case c => k_is); case k => k_is))
    (case F49 => (refine' L2.aw ?l ?c ?k; (case l => k_is); (case c => k_is); case k => k_is))
    (case F50 => (refine' L2.aw ?l ?c ?k; (case l => k_is); (case c => k_is); case k => k_is))
    (case F51 => (refine' L2.aw ?l ?c ?k; (case l => k_is); (case c => k_is); case k => k_is))
    (case F52 => (refine' L2.aw ?l ?c ?k; (case l => k_is); (case c => k_is); case k => k_is))
    (case F53 => (refine' L2.aw ?l ?c ?k; (case l => k_is); (case c => k_is); case k => k_is))
    (case F54 => (refine' L2.aw ?l ?c ?k; (case l => k_is); (case c => k_is); case k => k_is))
    (case F55 => (refine' L2.aw ?l ?c ?k; (case l => k_is); (case c => k_is); case k => k_is))
    (case F56 => (refine' L2.aw ?l ?c ?k; (case l => k_is); (case c => k_is); case k => k_is))
    (case F57 => (refine' L2.uW ?l ?c ?k ?d; (case l => k_is); (case c => k_is); (case k => k_is); case d => k_is))
    (case F58 => (refine' L2.aw ?l ?c ?k; (case l => k_is); (case c => k_is); case k => k_is))
    (case F59 => (refine' L2.aw ?l ?c ?k; (case l => k_is); (case c => k_is); case k => k_is))
    (case F60 => (refine' L2.aw ?l ?c ?k; (case l => k_is); (case c => k_is); case k => k_is))
    (case fn60 => k_is)
    (case F61 => (refine' L2.uW ?l ?c ?k ?d; (case l => k_is); (case c => k_is); (case k => k_is); case d => k_is))
    (case F62 => (refine' L2.aw ?l ?c ?k; (case l => k_is); (case c => k_is); case k => k_is))
    (case F63 => (refine' L2.aw ?l ?c ?k; (case l => k_is); (case c => k_is); case k => k_is))
    (case CQ => k_is)
    (case CS => k_is)
    (case CT => k_is)
    (case CU => k_is)
    (case CV => k_is)
    (case CW => k_is)
    (case D8 => k_is)
    (case D9 => k_is)
    (case Ea => k_is)
    (case Eb => k_is)
    (case Ec => k_is)
    (case Ed => k_is)
    (case CY => k_is)
    (case CZ => k_is)
    (case C0 => k_is)
    (case C1 => k_is)
    (case C2 => k_is)
    (case C3 => k_is)
    (case DB => k_is)
    (case DC => k_is)
    (case DD => k_is)
    (case DE => k_is)
    (case DF => k_is)
    (case DG => k_is)
    (case Dm => k_is)
    (case Dn => k_is)
    (case Do => k_is)
    (case Dp => k_is)
    (case Dq => k_is)
    (case Dr => k_is)
    (case C4 => k_is)
    (case C5 => k_is)
    (case C6 => k_is)
    (case C7 => k_is)
    (case C8 => k_is)
    (case C9 => k_is)
    (case Cs => k_is)
    (case Ct => k_is)
    (case Cu => k_is)
    (case Cv => k_is)
    (case Cw => k_is)
    (case Cy => k_is)
    (case DH => k_is)
    (case DI => k_is)
    (case DJ => k_is)
    (case DK => k_is)
    (case DL => k_is)
    (case DM => k_is)
    (case Da => k_is)
    (case Db => k_is)
    (case Dc => k_is)
    (case Ce => k_is)
    (case Dd => k_is)
    (case De => k_is)
    (case io1_Puzzle => k_is)
    (case io2_Puzzle => k_is)
    (case io3_Puzzle => k_is)
    (case io4_Puzzle => k_is)
    (case io5_Puzzle => k_is)
    (case io6_Puzzle => kit_is)
    (case AU => k_is)
    (case By => k_is)
    (case AV => k_is)
    (case Bf => k_is)
    (case A0 => k_is)
    (case AW => k_is)
    (case AM => k_is)
    (case Bg => k_is)
    (case A1 => k_is)
    (case BR => k_is)
    (case A2 => k_is)
    (case Bz => k_is)
    (case Bh => k_is)
    (case A3 => k_is)
    (case AO => k_is)
    (case BA => k_is)
    (case A4 => k_is)
    (case BS => k_is)
    (case A5 => k_is)
    (case BB => k_is)
    (case Bi => k_is)
    (case A6 => k_is)
    (case AQ => k_is)
    (case BC => k_is)
    (case Bj => k_is)
    (case B5 => k_is)
    (case Bk => k_is)
    (case BT => k_is)
    (case BD => k_is)
    (case Bl => k_is)
    (case AX => k_is)
    (case BU => k_is)
    (case A7 => k_is)
    (case BW => k_is)
    (case A8 => k_is)
    (case BE => k_is)
    (case Bm => k_is)
    (case A9 => k_is)
    (case AR => k_is)
    (case BF => k_is)
    (case Ba => k_is)
    (case Bb => k_is)
    (case Bn => k_is)
    (case Bo => k_is)
    (case Bp => k_is)
    (case BG => k_is)
    (case BH => k_is)
    (case B6 => k_is)
    (case B7 => k_is)
    (case Df => k_is)
    (case B8 => k_is)
    (case B9 => k_is)
    (case Ca => k_is)
    (case BI => k_is)
    (case BX => k_is)
    (case Cb => k_is)
    (case CA => k_is)
    (case Cc => k_is)
    (case z_len => k_is)
    (case z_abs => k_is)
    (case z_min => k_is)
    (case z_max => k_is)
    (case z_sorted => k_is)
    (case z_any => k_is)
    (case z_isinstance => k_is)
    (case z_list => k_is)
    (case z_int => k_is)
    (case z_bool => k_is)
    (case z_str => k_is)
    (case z_tuple => k_is)
    (case z_reversed => k_is)
    (case z_set => k_is)
    (case z_range => k_is)
    (case z_zip => k_is)
    (case z_all => k_is)
    (case z_sum => k_is)
    (case z_enumerate => k_is)
    (case e_ClueError => k_is)
    (case e_NoFloor => k_is)
    (case e_NoFilling => k_is)
    (case e_NoRule => k_is)
    (case e_NoPuzzle => k_is)
    (case e_TooMany => k_is)
    (case e_NoMove => k_is)
    (case z_ValueError => k_is)
    (case D1 => k_is)
    (case D2 => exact rfl)
    (case D3 => k_is)
    (case D4 => first | kernel_rfl | exact rfl)
    (case r1_NoMove => k_is)
    (case r2_NoMove => k_is)
    (case r3_NoMove => first | kernel_rfl | exact rfl)
    (case f1_NoMove => k_is)
    (case f2_NoMove => k_is)
    (case f3_NoMove => k_is)
    (case f4_NoMove => k_is)
    (case f5_NoMove => k_is)
    (case f6_NoMove => kit_is)
    (case f7_NoMove => kts_exm)
    (case g_NoMove_NoFilling => kit_is)
    (case g_NoMove_NoPuzzle => kit_is)
    (case g_NoMove_TooMany => kit_is)
    (case g_NoMove_NoRule => kit_is)
