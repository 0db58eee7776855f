import PyProof.Rows.All
import Wide.All
import OpenK.AllK
import Wide.FinOn
import Lean
import PyProof.EqAt
import PyProof.EqKinds
import PyProof.TupleCall
import PyProof.ZipIter
import PyProof.ConsumeS
import PyProof.StrCalls2
import PyProof.StrWalks
import PyProof.SliceStr2
import PyProof.StrBlock
import PyProof.StrBlockL
import PyProof.ListIndex
import PyProof.StrLawsTight
import PyProof.StrLawsChain
import PyProof.StrLaws
import PyProof.StrLawsFirst
import PyProof.StationsW
import PyProof.ExcClass3
import PyProof.NsDelKeeps
import PyProof.RulesAs
import PyProof.ExcBaseAll.ValueError
import PyProof.ExcArgsOwn
import PyProof.ExcAttrAll.ValueError
import KE.KTryMore
import KE.RegKTryMore
import KE.RegKIsAll
import PyProof.Rows.Range3
import PyProof.Rows.SumGenD
import PyProof.Rows.RuleM_int
import PyProof.EnumMake
import PyProof.EnumFor
import PyProof.EnumStmt
import PyProof.Rows.EnumRows
import KE.KRevIter
import PyProof.ListNew
import PyProof.CollectIter
import PyProof.ListRange
import PyProof.CallStr
import PyProof.StrBlock2
import PyProof.Rows.StrMadeLen
import PyProof.Rows.SetFrom
import PyProof.SetRoads
import PyProof.MeetsStr2
import KE.KRevSl
import PyProof.Conv_int
import PySem.Challenge.RW_cluemaker_k32_thoughts_of_no_form
set_option Elab.async false
set_option linter.all false
set_option maxRecDepth 100000
namespace L2
open PySem PySem.Spec PyProof.Rows
abbrev Key:=Sum Int Str
def keyIs:Key→Value→Bool
 | .inl k,v=>Value.isInt k v
 | .inr x,v=>Value.isStrOf x v
def keyH (w:World):Key→Int
 | .inl k=>hashInt k
 | .inr x=>hashStr w x
theorem bZ:∀ {k:Key} {v:Value},keyIs k v=true→(∃ i t,k=Sum.inl i∧v=Value.int i t)∨(∃ x t,k=Sum.inr x∧v=Value.str x t)
 | .inl i,v,h=>by
  obtain ⟨t,e⟩:=Value.isInt_shape (k:=i) (v:=v) h
  exact .inl ⟨i,t,rfl,e⟩
 | .inr x,v,h=>by
  obtain ⟨t,e⟩:=Value.isStrOf_shape (x:=x) (v:=v) h
  exact .inr ⟨x,t,rfl,e⟩
theorem tR (i:Int) (t:Tok):keyIs (.inl i) (.int i t)=true:=by simp [keyIs,Value.isInt]
theorem tS (x:Str) (t:Tok):keyIs (.inr x) (.str x t)=true:=by simp [keyIs,Value.isStrOf]
theorem xh (a b:Int):decide ((Sum.inl a:Key)=Sum.inl b)=(a==b):=by
 by_cases e:a=b
 · subst e; simp
 · have h:¬ (Sum.inl a:Key)=Sum.inl b:=fun q=>e (Sum.inl.inj q)
   rw [decide_eq_false h]
   exact (beq_eq_false_iff_ne.mpr e).symm
theorem xi (a b:Str):decide ((Sum.inr a:Key)=Sum.inr b)=decide (a=b):=by
 by_cases e:a=b
 · subst e; simp
 · have h:¬ (Sum.inr a:Key)=Sum.inr b:=fun q=>e (Sum.inr.inj q)
   rw [decide_eq_false h,decide_eq_false e]
theorem xj (a:Int) (b:Str):decide ((Sum.inl a:Key)=Sum.inr b)=false:=decide_eq_false (fun q=>nomatch q)
theorem xk (a:Str) (b:Int):decide ((Sum.inr a:Key)=Sum.inl b)=false:=decide_eq_false (fun q=>nomatch q)
def dC (prog:Program) (w:World):PySem.KeyKind prog w Key where
 is:=keyIs
 hash:=keyH w
 inj:=fun v a b ha hb=>by
  rcases bZ ha with ⟨i,t,rfl,rfl⟩ | ⟨x,t,rfl,rfl⟩
  · rcases bZ hb with ⟨j,u,rfl,e⟩ | ⟨y,u,rfl,e⟩
    · injection e with e1 _; rw [e1]
    · exact nomatch e
  · rcases bZ hb with ⟨j,u,rfl,e⟩ | ⟨y,u,rfl,e⟩
    · exact nomatch e
    · injection e with e1 _; rw [e1]
 byValue:=fun k v h=>by
  rcases bZ h with ⟨i,t,rfl,rfl⟩ | ⟨x,t,rfl,rfl⟩ <;> rfl
 pyHash:=fun hv h=>by
  rcases bZ hv with ⟨i,t,rfl,rfl⟩ | ⟨x,t,rfl,rfl⟩
  · exact wpAny_pyHash_int h
  · exact wpAny_pyHash_str h
 eqBool:=fun hu hv h=>by
  rcases bZ hu with ⟨i,t,rfl,rfl⟩ | ⟨x,t,rfl,rfl⟩
  · rcases bZ hv with ⟨j,u,rfl,rfl⟩ | ⟨y,u,rfl,rfl⟩
    · rw [xh] at h; exact wpAny_eqBool_int h
    · rw [xj] at h; exact SeqAt.EqAt.int_str i t y u _ _ _ _ h
  · rcases bZ hv with ⟨j,u,rfl,rfl⟩ | ⟨y,u,rfl,rfl⟩
    · rw [xk] at h; exact SeqAt.EqAt.str_int x t j u _ _ _ _ h
    · rw [xi] at h; exact wpAny_eqBool_str h
 «strs»:=fun k x t v h=>by
  rcases bZ h with ⟨i,u,rfl,e⟩ | ⟨y,u,rfl,e⟩
  · exact nomatch e
  · injection e with e1 _
    subst e1
    cases v <;> rfl
theorem rh (prog:Program) (w:World) (i:Int) (t:Tok):(dC prog w).is (.inl i) (.int i t)=true:=tR i t
theorem ri (prog:Program) (w:World) (x:Str) (t:Tok):(dC prog w).is (.inr x) (.str x t)=true:=tS x t
end L2
namespace L2
open PySem PySem.Spec PyProof.Rows
inductive V where
 | non | bl (b:Bool) | int (i:Int) | str (x:Str) | byt (b:Array UInt8) | flt (b:UInt64) | ref (a:Addr) | ty (n:String)
 deriving DecidableEq
def RelV:V→Value→Prop
 | .non,u=>u=Value.none
 | .bl b,u=>u=Value.bool b
 | .int i,u=>∃ t,u=Value.int i t
 | .str x,u=>∃ t,u=Value.str x t
 | .byt b,u=>∃ t,u=Value.bytes b t
 | .flt b,u=>∃ t,u=Value.float b t
 | .ref a,u=>u=Value.ref a
 | .ty n,u=>u=Value.type n
abbrev Vals:List V→List Value→Prop:=Paired RelV
theorem Vals.length {xs:List V} {us:List Value} (r:Vals xs us):xs.length=us.length:=Paired.length r
theorem Vals.get:∀ {xs:List V} {us:List Value} {i:Nat} {x:V},Vals xs us→xs[i]? =some x→∃ u,us[i]? =some u∧RelV x u
 | _,_,_,_,.nil,e=>by simp at e
 | _,_,0,_,.cons r _,e=>by simp at e; subst e; exact ⟨_,rfl,r⟩
 | _,_,i+1,x,.cons _ t,e=>by
  obtain ⟨u,h1,h2⟩:=Vals.get (i:=i) (x:=x) t (by simpa using e)
  exact ⟨u,by simpa using h1,h2⟩
theorem Vals.append:∀ {xs ys:List V} {us ws:List Value},Vals xs us→Vals ys ws→Vals (xs++ys) (us++ws)
 | _,_,_,_,.nil,s=>s
 | _,_,_,_,.cons r t,s=>.cons r (Vals.append t s)
theorem Vals.take:∀ {xs:List V} {us:List Value} (n:Nat),Vals xs us→Vals (xs.take n) (us.take n)
 | _,_,0,_=>.nil
 | _,_,_+1,.nil=>.nil
 | _,_,n+1,.cons r t=>.cons r (Vals.take n t)
theorem Vals.drop:∀ {xs:List V} {us:List Value} (n:Nat),Vals xs us→Vals (xs.drop n) (us.drop n)
 | _,_,0,r=>r
 | _,_,_+1,.nil=>.nil
 | _,_,n+1,.cons _ t=>Vals.drop n t
def RelO:Option V→Option Value→Prop
 | some v,some u=>RelV v u
 | none,none=>True
 | _,_=>False
def KV {κ:Type}:List (κ × V)→List (κ × Value)→Prop:=Paired fun (p:κ × V) (q:κ × Value)=>p.1=q.1∧RelV p.2 q.2
def kV:Key→V
 | .inl i=>.int i
 | .inr x=>.str x
inductive HO where
  | lst (xs:List V)
  | tup (xs:List V)
  | dK (kvs:List (Key × V)) | dT (kvs:List (List Key × V))
  | set (S:Int→Bool) (n:Nat)
  | ins (C dx:Addr) (fs:List (Str × V))
  | own (x:Addr)
  | xd (fs:List (Str × V))
  | met (f x:Addr)
  | rng (lo hi:Int)
  | frz (o:Obj) (u:HO)
  | tbl (ps:Array Value)
  | ext (φ:Heap→Prop)
abbrev Hp:=Addr→Option HO
def upd (H:Hp) (a:Addr) (o:HO):Hp:=fun b=>if b=a then some o else H b
theorem ag {H:Hp} {a:Addr} {o:HO}:upd H a o a=some o:=by unfold upd; rw [if_pos rfl]
theorem aq {H:Hp} {a b:Addr} {o:HO} (h:b≠a):upd H a o b=H b:=by unfold upd; rw [if_neg h]
theorem aE {H:Hp} {a b:Addr} {o:HO} (h:H a=some o) (h':H b=none):a≠b:=by
 intro e; subst e; rw [h] at h'; cases h'
section
variable (P:Program) (w:World)
def ObjOk (H:Hp) (h:Heap) (a:Addr):HO→Prop
 | .lst xs=>xs.length≤sizeLine∧∃ (its:List Value) (n:Nat),Vals xs its∧h.get? a=some { cls:=.type "list",data:=.seq its.toArray n }
 | .tup xs=>xs.length≤sizeLine∧∃ its:List Value,Vals xs its∧IsTup h a its.toArray
 | .dK kvs=>kvs.length≤sizeLine∧(a==sysModules)=false∧∃ vs,KV kvs vs∧h.DictOf (dC P w) a vs
 | .dT kvs=>kvs.length≤sizeLine∧(a==sysModules)=false∧∃ xs:List (List Key × Addr × Value),
   Paired (fun (p:List Key × V) (q:List Key × Addr × Value)=>p.1=q.1∧H q.2.1=some (.tup (p.1.map kV))∧RelV p.2 q.2.2) kvs xs∧
   ∃ o es ep,h.get? a=some o∧o.ExactDict∧o.data=.dict es ep∧es.toList=xs.map (entryOfKey (tupleKind (dC P w)))∧(xs.map (·.1)).Nodup
 | .set S n=>h.SetOf (intKind P w) a S n
 | .ins C dx fs=>H dx=some (.own a)∧fs.length≤1000∧dx≠a∧h.get? a=some (PySem.W.instObj C dx)∧
   ∃ mA,h.Ns1 dx mA∧(∀ f,RelO (fs.lookup f) (mA f))∧PySem.Within mA (fs.map (·.1))
 | .own _=>∃ o,h.get? a=some o
 | .xd fs=>∃ mA,h.Ns1 a mA∧∀ f,RelO (fs.lookup f) (mA f)
 | .rng lo hi=>∃ t u v,h.get? a=some { cls:=.type "range",data:=.fields #[.int lo t,.int hi u,.int 1 v] }
 | .frz o u=>h.get? a=some o∧ObjOk H h a u
 | .tbl ps=>h.get? a=some { cls:=.none,data:=.fields ps }
 | .met f x=>h.get? a=some (PySem.W.methodObj (.ref f) (.ref x))
 | .ext φ=>φ h∧(∃ o,h.get? a=some o)∧∀ h1 h2:Heap,φ h1→(∀ o,h1.get? a=some o→h2.get? a=some o)→φ h2
def HOk (H:Hp) (h:Heap):Prop:=∀ a o,H a=some o→ObjOk P w H h a o
end
section
variable {P:Program} {w:World} {H H':Hp} {h h':Heap} {a:Addr} {o:HO}
theorem ObjOk.lt (x:ObjOk P w H h a o):a < h.objs.size:=by
 cases o with
 | lst xs=>obtain ⟨_,_,_,_,e⟩:=x; exact Heap.lt_size e
 | tup xs=>obtain ⟨_,_,_,p⟩:=x; exact p.lt
 | dK kvs=>obtain ⟨_,_,_,_,o,_,_,e,_⟩:=x; exact Heap.lt_size e
 | dT kvs=>obtain ⟨_,_,_,_,o,_,_,e,_⟩:=x; exact Heap.lt_size e
 | set S n=>obtain ⟨o,_,_,_,e,_⟩:=x; exact Heap.lt_size e
 | ins C dx fs=>obtain ⟨_,_,_,e,_⟩:=x; exact Heap.lt_size e
 | own y=>obtain ⟨_,e⟩:=x; exact Heap.lt_size e
 | xd fs=>obtain ⟨_,⟨_,_,_,e,_⟩,_⟩:=x; exact Heap.lt_size e
 | rng lo hi=>obtain ⟨_,_,_,e⟩:=x; exact Heap.lt_size e
 | frz ob u=>obtain ⟨e,_⟩:=x; exact Heap.lt_size e
 | tbl ps=>exact Heap.lt_size (show h.get? a=some _ from x)
 | met f y=>exact Heap.lt_size (show h.get? a=some _ from x)
 | ext φ=>obtain ⟨_,⟨_,e⟩,_⟩:=x; exact Heap.lt_size e
theorem Paired.mapP {α β:Type} {F G:α→β→Prop}:∀ {l₁:List α} {l₂:List β},Paired F l₁ l₂→(∀ a b,F a b→G a b)→Paired G l₁ l₂
 | _,_,.nil,_=>.nil
 | _,_,.cons r t,f=>.cons (f _ _ r) (Paired.mapP t f)
theorem ObjOk.stay (x:ObjOk P w H h a o) (k:∀ b u,(b=a∨H b=some (.own a))→h.get? b=some u→h'.get? b=some u)
  (ho:∀ b,H b=some (.own a)→H' b=some (.own a)) (ht:∀ b xs,H b=some (.tup xs)→H' b=some (.tup xs)):ObjOk P w H' h' a o:=by
 induction o with
 | lst xs=>obtain ⟨z,its,n,r,e⟩:=x; exact ⟨z,its,n,r,k _ _ (.inl rfl) e⟩
 | tup xs=>obtain ⟨z,its,r,ob,e,c⟩:=x; exact ⟨z,its,r,ob,k _ _ (.inl rfl) e,c⟩
 | dK kvs=>obtain ⟨z,y,vs,r,ob,es,ep,e,c⟩:=x; exact ⟨z,y,vs,r,ob,es,ep,k _ _ (.inl rfl) e,c⟩
 | dT kvs=>
  obtain ⟨z,y,xs,r,ob,es,ep,e,c⟩:=x
  exact ⟨z,y,xs,Paired.mapP r fun p q z=>⟨z.1,ht _ _ z.2.1,z.2.2⟩,ob,es,ep,k _ _ (.inl rfl) e,c⟩
 | set S n=>obtain ⟨ob,es,ep,t,e,c⟩:=x; exact ⟨ob,es,ep,t,k _ _ (.inl rfl) e,c⟩
 | ins C dx fs=>
  obtain ⟨d,z,ne,e,mA,⟨od,es,ep,e2,c⟩,r⟩:=x
  exact ⟨ho _ d,z,ne,k _ _ (.inl rfl) e,mA,⟨od,es,ep,k _ _ (.inr d) e2,c⟩,r⟩
 | own y=>obtain ⟨ob,e⟩:=x; exact ⟨ob,k _ _ (.inl rfl) e⟩
 | xd fs=>obtain ⟨mA,⟨od,es,ep,e,c⟩,r⟩:=x; exact ⟨mA,⟨od,es,ep,k _ _ (.inl rfl) e,c⟩,r⟩
 | rng lo hi=>obtain ⟨t,u,v,e⟩:=x; exact ⟨t,u,v,k _ _ (.inl rfl) e⟩
 | frz ob u ih=>obtain ⟨e,q⟩:=x; exact ⟨k _ _ (.inl rfl) e,ih q⟩
 | tbl ps=>
  have e:h.get? a=some { cls:=.none,data:=.fields ps }:=x
  show h'.get? a=some { cls:=.none,data:=.fields ps }
  exact k a _ (.inl rfl) e
 | met f y=>
  have e:h.get? a=some (PySem.W.methodObj (.ref f) (.ref y)):=x
  show h'.get? a=some (PySem.W.methodObj (.ref f) (.ref y))
  exact k a _ (.inl rfl) e
 | ext φ=>obtain ⟨p,⟨o,e⟩,st⟩:=x; exact ⟨st _ _ p fun o q=>k _ _ (.inl rfl) q,⟨o,k _ _ (.inl rfl) e⟩,st⟩
theorem HOk.lt (x:HOk P w H h) (e:H a=some o):a < h.objs.size:=(x a o e).lt
theorem HOk.fresh (x:HOk P w H h) (e:h.objs.size≤a):H a=none:=by
 cases q:H a with
 | none=>rfl
 | some u=>exact absurd (Nat.lt_of_lt_of_le (x.lt q) e) (Nat.lt_irrefl _)
theorem HOk.kept (x:HOk P w H h) (k:∀ b u,h.get? b=some u→h'.get? b=some u):HOk P w H h':=fun a o e=>
 (x a o e).stay (fun b u _ q=>k b u q) (fun _ q=>q) fun _ _ q=>q
theorem HOk.laid (x:HOk P w H h) (k:∀ b u,h.get? b=some u→h'.get? b=some u) (hp:h.objs.size≤a) (new:ObjOk P w (upd H a o) h' a o):HOk P w (upd H a o) h':=fun b u e=>by
 have hn:=x.fresh hp
 by_cases hb:b=a
 · subst hb; rw [ag] at e; cases e; exact new
 · rw [aq hb] at e
   exact (x b u e).stay (fun c v _ q=>k c v q) (fun c q=>by rw [aq (aE q hn)]; exact q) fun c xs q=>by rw [aq (aE q hn)]; exact q
end
def Rd (H:Hp) (a:Addr) (u:HO):Prop:=H a=some u∨∃ o,H a=some (.frz o u)
theorem Rd.ok {P:Program} {w:World} {H:Hp} {h:Heap} {a:Addr} {u:HO} (r:Rd H a u) (x:HOk P w H h):ObjOk P w H h a u:=by
 rcases r with r | ⟨o,r⟩
 · exact x a u r
 · obtain ⟨_,q⟩:=x a _ r
   exact q
def Mut:Option HO→Prop
 | some (.lst _)=>True
 | some (.dK _)=>True
 | some (.dT _)=>True
 | some (.set _ _)=>True
 | some (.ins _ _ _)=>True
 | some (.ext _)=>True
 | _=>False
section
variable {P:Program} {w:World} {H:Hp} {h h':Heap} {x e:Addr} {o':HO}
theorem HOk.write (ok:HOk P w H h) (mu:Mut (H x)) (he:e=x∨H e=some (.own x)) (k:∀ b u,b≠e→h.get? b=some u→h'.get? b=some u) (heo:∃ u,h'.get? e=some u)
  (new:ObjOk P w (upd H x o') h' x o'):HOk P w (upd H x o') h':=fun b u q=>by
 have nown:∀ c y,H c=some (.own y)→c≠x:=fun c y r z=>by subst z; rw [r] at mu; exact mu
 have ntup:∀ c xs,H c=some (.tup xs)→c≠x:=fun c xs r z=>by subst z; rw [r] at mu; exact mu
 by_cases hb:b=x
 · subst hb; rw [ag] at q; cases q; exact new
 · rw [aq hb] at q
   by_cases hbe:b=e
   · have q':H b=some (.own x):=by
      rcases he with z | z
      · exact absurd (hbe.trans z) hb
      · rw [hbe]; exact z
     rw [q] at q'; cases q'
     obtain ⟨v,hv⟩:=heo
     exact ⟨v,by rw [hbe]; exact hv⟩
   · refine (ok b u q).stay (fun c v hc r=>k c v ?_ r) (fun c r=>by rw [aq (nown c b r)]; exact r) fun c xs r=>by rw [aq (ntup c xs r)]; exact r
     rcases hc with rfl | hc
     · exact hbe
     · rintro rfl
       rcases he with z | z
       · exact nown c b hc z
       · rw [hc] at z; cases z; exact hb rfl
end
structure Un (fs ex:List Addr) (H H':Hp) (h h':Heap):Prop where
 keep:∀ b o,h.get? b=some o→H b=none→b∉fs→b∉ex→h'.get? b=some o
 slot:∀ b o,h.get? b=some o→H b=none→b∈fs→b∉ex→∃ sl,h'.get? b=some { o with slots:=sl }
 free:∀ b o,h.get? b=some o→H b=none→b∉ex→H' b=none
 there:∀ b o,h.get? b=some o→b∉ex→∃ o',h'.get? b=some o'
 tups:∀ b xs,H b=some (.tup xs)→H' b=some (.tup xs)
 frzs:∀ b o u,H b=some (.frz o u)→H' b=some (.frz o u)
 tbls:∀ b ps,H b=some (.tbl ps)→∃ more,H' b=some (.tbl (ps++more))
section
variable {fs fs' ex ex':List Addr} {H H1 H2:Hp} {h h1 h2 h':Heap} {a x e:Addr} {o:HO}
theorem Un.any (u:Un fs ex H H1 h h1) {b:Addr} {ob:Obj} (q:h.get? b=some ob) (n:H b=none) (hx:b∉ex):∃ sl,h1.get? b=some { ob with slots:=sl }:=by
 by_cases hb:b∈fs
 · exact u.slot b ob q n hb hx
 · exact ⟨ob.slots,u.keep b ob q n hb hx⟩
theorem Un.kept (k:∀ b u,h.get? b=some u→h'.get? b=some u):Un fs ex H H h h':=
 ⟨fun b ob q _ _ _=>k b ob q,fun b ob q _ _ _=>⟨ob.slots,k b ob q⟩,fun _ _ _ n _=>n,fun b ob q _=>⟨ob,k b ob q⟩,fun _ _ q=>q,fun _ _ _ q=>q,fun _ ps q=>⟨#[],by rw [q]; simp⟩⟩
theorem Un.refl:Un fs ex H H h h:=Un.kept fun _ _ q=>q
theorem Un.laid (k:∀ b u,h.get? b=some u→h'.get? b=some u) (hp:h.objs.size≤a) (hn:H a=none):Un fs ex H (upd H a o) h h' where
 keep:=fun b u q _ _ _=>k b u q
 slot:=fun b u q _ _ _=>⟨u.slots,k b u q⟩
 free:=fun b u q n _=>by rw [aq (Nat.ne_of_lt (Nat.lt_of_lt_of_le (Heap.lt_size q) hp))]; exact n
 there:=fun b u q _=>⟨u,k b u q⟩
 tups:=fun b xs q=>by rw [aq (aE q hn)]; exact q
 frzs:=fun b u xs q=>by rw [aq (aE q hn)]; exact q
 tbls:=fun b ps q=>⟨#[],by rw [aq (aE q hn),q]; simp⟩
theorem Un.write (mu:Mut (H x)) (he:e=x∨H e=some (.own x)) (k:∀ b u,b≠e→h.get? b=some u→h'.get? b=some u) (heo:∃ u,h'.get? e=some u):Un fs ex H (upd H x o) h h':=by
 have hx:∀ b,H b=none→b≠x:=fun b n z=>by subst z; rw [n] at mu; exact mu
 have hb:∀ b,H b=none→b≠e:=fun b n z=>by
  subst z
  rcases he with r | r
  · exact hx b n r
  · rw [n] at r; cases r
 have hm:∀ b u,H b=some u→¬ Mut (some u)→b≠x:=fun b u q nm z=>by subst z; rw [q] at mu; exact nm mu
 refine ⟨fun b u q n _ _=>k b u (hb b n) q,fun b u q n _ _=>⟨u.slots,k b u (hb b n) q⟩,fun b u q n _=>by rw [aq (hx b n)]; exact n,fun b u q _=>?_,
  fun b xs q=>by rw [aq (hm b _ q fun z=>z)]; exact q,fun b u xs q=>by rw [aq (hm b _ q fun z=>z)]; exact q,fun b ps q=>⟨#[],by rw [aq (hm b _ q fun z=>z),q]; simp⟩⟩
 by_cases hbe:b=e
 · subst hbe; exact heo
 · exact ⟨u,k b u hbe q⟩
end
def trk (h:Heap) (H:Hp):List Addr:=(List.range h.objs.size).filter fun a=>(H a).isSome
def hidT (h:Heap) (H:Hp):Heap:=PySem.W.hideAll h (trk h H)
theorem tT (h:Heap) (H:Hp):(hidT h H).objs.size=h.objs.size:=PySem.W.hideAll_size _ _
theorem vn {h:Heap} {H:Hp} {b:Addr} {o:Obj} (e:h.get? b=some o) (n:H b=none):(hidT h H).get? b=some o:=
 PySem.W.hideAll_get _ e fun hm=>by
  have q:(H b).isSome=true:=(List.mem_filter.mp hm).2
  rw [n] at q; simp at q
theorem wr {h:Heap} {H:Hp} {b:Addr} {o:Obj} (e:(hidT h H).get? b=some o):h.get? b=some o∧H b=none:=by
 have e':h.get? b=some o:=PySem.W.of_hideAll (trk h H) e
 refine ⟨e',?_⟩
 cases q:H b with
 | none=>rfl
 | some x=>
  have hm:b∈trk h H:=List.mem_filter.mpr ⟨List.mem_range.mpr (Heap.lt_size e'),by simp [q]⟩
  have z:(hidT h H).get? b=none:=PySem.W.hideAll_none (trk h H) hm
  rw [z] at e; cases e
end L2
namespace L2
open PySem PySem.Spec PyProof.Rows
structure Mod (K:PySem.W.Frag) (mg:Str→Option Value) (base:Heap):Prop where
 kin:K.In base
 glob:base.Ns mainGlobals mg
 blt:∃ mb,base.Ns builtinsNs mb∧∀ x:Str,x≠"__name__"→mb x=bootBuiltins x
 nolimit:base.NoLimit
structure Cx where
 prog:Program
 w:World
 K:PySem.W.Frag
 mg:Str→Option Value
 base:Heap
 A:Around
 N:List Str
 s₀:Shared
 H₀:Hp
 env:Env
 outer:List Env
 stack:List Env
 ex:List Addr
 fn:Str→Bool
 calm:Bool
 pn:List (Addr × Obj)
 xe:Value→Shared→Prop
def frs (l:List Env):List Addr:=l.filterMap (·.frame)
abbrev Cx.fs (X:Cx):List Addr:=frs X.outer
def Vis (sc:Scope) (x:Str):Prop:=sc.names.lookup x=some .local∨sc.names.lookup x=some .cell∨sc.names.lookup x=some .free
def Loc (sc:Scope) (x:Str):Prop:=sc.names.lookup x=some .local∨sc.names.lookup x=some .cell
def Look (env:Env) (h:Heap) (m:Str→Option Value) (x:Str) (u:Value):Prop:=
 (env.kindOf x=some .local∧m x=some u)∨((env.kindOf x=some .cell∨env.kindOf x=some .free)∧∃ c,env.cells.lookup x=some c∧h.IsCell c (some u))
structure Cx.Ok (X:Cx):Prop where
 mod:Mod X.K X.mg X.base
 kind:X.env.scope.kind=.function
 glob:X.env.globals=mainGlobals
 blt:X.env.builtins=builtinsNs
 above:X.s₀.heap.objs.size≤X.env.locals
 inj:∀ x y c,X.env.cells.lookup x=some c→X.env.cells.lookup y=some c→x=y
 has:∀ x,(X.env.kindOf x=some .cell∨X.env.kindOf x=some .free)→∃ c,X.env.cells.lookup x=some c
 cab:∀ x c,X.fn x=true→X.env.cells.lookup x=some c→X.s₀.heap.objs.size≤c
 hd:X.calm=true→X.A.handled=none
 frames:X.A.frames=some X.stack
 stk:X.stack=X.outer∨(X.stack=X.env::X.outer∧X.env.frame=some X.env.locals)
 exf:∀ b∈X.ex,b≠X.env.locals∧∀ x c,X.env.cells.lookup x=some c→c≠b
 bs:∀ b o,X.base.get? b=some o→X.s₀.heap.get? b=some o∧X.H₀ b=none
 bsz:X.base.objs.size≤X.s₀.heap.objs.size
 noex:∀ b o,X.base.get? b=some o→b∉X.ex
 exfs:∀ b∈X.ex,b∉X.fs
 funs:X.s₀.heap.FunFrames X.base X.outer
 frf:∀ b∈X.fs,X.H₀ b=none
structure Inv (X:Cx) (pins:List (Addr × Obj)) (σ:List (Option V)) (H:Hp) (s:Shared):Prop where
 ok:X.Ok
 os:s.os=X.s₀.os
 bare:AllBare s.gens
 base:Un X.fs X.ex X.H₀ H X.s₀.heap s.heap
 loc:∃ m,s.heap.Ns X.env.locals m∧∀ (i:Nat) (x:Str) (v:V),X.N[i]? =some x→σ[i]? =some (some v)→Vis X.env.scope x→∃ u,RelV v u∧Look X.env s.heap m x u
 cell:∀ x c,X.env.cells.lookup x=some c→∃ v,s.heap.IsCell c v
 free:H X.env.locals=none
 freeC:∀ x c,X.env.cells.lookup x=some c→H c=none
 pin:∀ p∈X.pn++pins,s.heap.get? p.1=some p.2∧H p.1=none∧p.1≠X.env.locals∧p.1∉X.fs∧∀ v,p.2.data≠.cell v
 hok:HOk X.prog X.w H s.heap
 len:σ.length=X.N.length
section
variable {X:Cx} {pins:List (Addr × Obj)} {σ:List (Option V)} {H H':Hp} {s:Shared} {h':Heap}
theorem Cx.Ok.nofr (ok:X.Ok) {b:Addr} {o:Obj} (e:X.base.get? b=some o):b∉X.fs:=fun hb=>by
 have:=(ok.funs.mem hb).1
 rw [e] at this; cases this
theorem Inv.bs (I:Inv X pins σ H s):∀ b o,X.base.get? b=some o→s.heap.get? b=some o∧H b=none:=fun b o e=>
 ⟨I.base.keep b o (I.ok.bs b o e).1 (I.ok.bs b o e).2 (I.ok.nofr e) (I.ok.noex b o e),I.base.free b o (I.ok.bs b o e).1 (I.ok.bs b o e).2 (I.ok.noex b o e)⟩
theorem Inv.bk (I:Inv X pins σ H s):∀ b o,X.base.get? b=some o→s.heap.get? b=some o:=fun b o e=>(I.bs b o e).1
theorem Inv.mod (I:Inv X pins σ H s):Mod X.K X.mg X.base:=I.ok.mod
theorem Inv.kIn (I:Inv X pins σ H s):X.K.In s.heap:=I.ok.mod.kin.keeps I.bk
theorem Inv.lt (I:Inv X pins σ H s):X.env.locals < s.heap.objs.size:=let ⟨_,hn,_⟩:=I.loc; hn.lt
theorem Inv.sz (I:Inv X pins σ H s):X.s₀.heap.objs.size≤s.heap.objs.size:=Nat.le_trans I.ok.above (Nat.le_of_lt I.lt)
theorem Inv.nofs (I:Inv X pins σ H s) {a:Addr} (h:s.heap.objs.size≤a):a∉X.fs:=fun hb=>by
 obtain ⟨_,o,ho,_⟩:=I.ok.funs.mem hb
 exact absurd (Nat.lt_of_lt_of_le (Heap.lt_size ho) (Nat.le_trans I.sz h)) (Nat.lt_irrefl _)
theorem Inv.cne (I:Inv X pins σ H s):∀ x c,X.env.cells.lookup x=some c→c≠X.env.locals:=fun x c e z=>by
 obtain ⟨v,o,ho,hd⟩:=I.cell x c e
 obtain ⟨m,⟨o',es,ep,ho',hd',_⟩,_⟩:=I.loc
 rw [z,ho'] at ho; cases ho; rw [hd'] at hd; cases hd
theorem Inv.funs (I:Inv X pins σ H s):s.heap.FunFrames X.base X.outer:=by
 have all:∀ (l:List Env),(∀ b∈frs l,b∈X.fs)→X.s₀.heap.FunFrames X.base l→s.heap.FunFrames X.base l:=by
  intro l
  induction l with
  | nil=>intro _ _; trivial
  | cons env r ih=>
   intro hs hl
   obtain ⟨hk,⟨L,o,hf,hn,ho,hd⟩,hr⟩:=hl
   have hL:L∈X.fs:=hs L (by unfold frs; rw [List.filterMap_cons,hf]; exact List.mem_cons_self)
   obtain ⟨sl,e⟩:=I.base.slot L o ho (I.ok.frf L hL) hL fun z=>I.ok.exfs L z hL
   exact ⟨hk,⟨L,_,hf,hn,e,hd⟩,ih (fun b hb=>hs b (by unfold frs; rw [List.filterMap_cons,hf]; exact List.mem_cons_of_mem _ hb)) hr⟩
 exact all X.outer (fun _ hb=>hb) I.ok.funs
theorem Inv.stack (I:Inv X pins σ H s):s.heap.FunFrames X.base X.stack:=by
 rcases I.ok.stk with e | ⟨e,hf⟩
 · rw [e]; exact I.funs
 · rw [e]
   obtain ⟨m,hn,_⟩:=I.loc
   refine .cons (by rw [I.ok.kind]; decide) hf hn ?_ I.funs
   exact Heap.get?_none_of_le (Nat.le_trans I.ok.bsz I.ok.above)
theorem Inv.stkSub (I:Inv X pins σ H s):∀ b∈frs X.stack,b∈X.env.locals::X.fs:=fun b hb=>by
 rcases I.ok.stk with e | ⟨e,hf⟩
 · rw [e] at hb; exact List.mem_cons_of_mem _ hb
 · rw [e] at hb
   unfold frs at hb
   rw [List.filterMap_cons,hf] at hb
   exact hb
theorem Inv.stkFree (I:Inv X pins σ H s):∀ b∈frs X.stack,H b=none:=fun b hb=>by
 rcases List.mem_cons.mp (I.stkSub b hb) with e | hb
 · rw [e]; exact I.free
 · obtain ⟨_,o,ho,_⟩:=I.ok.funs.mem hb
   exact I.base.free b o ho (I.ok.frf b hb) fun z=>I.ok.exfs b z hb
theorem Inv.step {g':Array GenState} {t':Nat} {d':Drawn} {ch:List Addr} (I:Inv X pins σ H s)
  (hch:∀ b∈ch,(b∈X.ex∨X.s₀.heap.objs.size≤b)∧b≠X.env.locals∧(∀ x c,X.env.cells.lookup x=some c→c≠b)∧∀ p∈X.pn++pins,p.1≠b)
  (keep:∀ b o,b≠X.env.locals→b∉X.fs→b∉ch→s.heap.get? b=some o→H b=none→h'.get? b=some o)
  (slot:∀ b o,b≠X.env.locals→b∈X.fs→b∉ch→s.heap.get? b=some o→H b=none→∃ sl,h'.get? b=some { o with slots:=sl }) (free:∀ b o,b∉ch→s.heap.get? b=some o→H b=none→H' b=none)
  (there:∀ b o,b∉ch→s.heap.get? b=some o→∃ o',h'.get? b=some o')
  (tups:∀ b xs,H b=some (.tup xs)→H' b=some (.tup xs)) (frzs:∀ b o u,H b=some (.frz o u)→H' b=some (.frz o u)) (tbls:∀ b ps,H b=some (.tbl ps)→∃ more,H' b=some (.tbl (ps++more)))
  (ns:∀ m,s.heap.Ns X.env.locals m→h'.Ns X.env.locals m) (hok:HOk X.prog X.w H' h') (hg:AllBare g'):
  Inv X pins σ H' { s with heap:=h',gens:=g',drawn:=d',toks:=t' }:=by
 have neL:∀ b o,X.s₀.heap.get? b=some o→b≠X.env.locals:=fun b o e=>Nat.ne_of_lt (Nat.lt_of_lt_of_le (Heap.lt_size e) I.ok.above)
 have neC:∀ b o,X.s₀.heap.get? b=some o→b∉X.ex→b∉ch:=fun b o e hx hb=>by
  rcases (hch b hb).1 with z | z
  · exact hx z
  · exact absurd (Nat.lt_of_lt_of_le (Heap.lt_size e) z) (Nat.lt_irrefl _)
 have cellK:∀ x c,X.env.cells.lookup x=some c→∀ v,s.heap.IsCell c v→h'.IsCell c v:=fun x c e v ⟨o,ho,hd⟩=>by
  have nch:c∉ch:=fun z=>(hch c z).2.2.1 x c e rfl
  by_cases hc:c∈X.fs
  · obtain ⟨sl,q⟩:=slot c o (I.cne x c e) hc nch ho (I.freeC x c e)
    exact ⟨_,q,hd⟩
  · exact ⟨o,keep c o (I.cne x c e) hc nch ho (I.freeC x c e),hd⟩
 refine ⟨I.ok,I.os,hg,⟨fun b o e n hb hx=>?_,fun b o e n hb hx=>?_,fun b o e n hx=>?_,fun b o e hx=>?_,fun b xs e=>tups b xs (I.base.tups b xs e),fun b o xs e=>frzs b o xs (I.base.frzs b o xs e),fun b ps e=>?_⟩,?_,fun x c e=>?_,?_,fun x c e=>?_,fun p hp=>?_,hok,I.len⟩
 · exact keep b o (neL b o e) hb (neC b o e hx) (I.base.keep b o e n hb hx) (I.base.free b o e n hx)
 · obtain ⟨sl,e1⟩:=I.base.slot b o e n hb hx
   obtain ⟨sl',e2⟩:=slot b _ (neL b o e) hb (neC b o e hx) e1 (I.base.free b o e n hx)
   exact ⟨sl',e2⟩
 · obtain ⟨o',e1⟩:=I.base.there b o e hx
   exact free b o' (neC b o e hx) e1 (I.base.free b o e n hx)
 · obtain ⟨o',e1⟩:=I.base.there b o e hx
   exact there b o' (neC b o e hx) e1
 · obtain ⟨m1,e1⟩:=I.base.tbls b ps e
   obtain ⟨m2,e2⟩:=tbls b _ e1
   exact ⟨m1++m2,by rw [e2,Array.append_assoc]⟩
 · obtain ⟨m,hn,hl⟩:=I.loc
   refine ⟨m,ns m hn,fun i x v e1 e2 e3=>?_⟩
   obtain ⟨u,r,l⟩:=hl i x v e1 e2 e3
   refine ⟨u,r,?_⟩
   rcases l with l | ⟨k,c,e,z⟩
   · exact .inl l
   · exact .inr ⟨k,c,e,cellK x c e _ z⟩
 · obtain ⟨v,z⟩:=I.cell x c e
   exact ⟨v,cellK x c e v z⟩
 · obtain ⟨m,⟨o,_,_,ho,_⟩,_⟩:=I.loc
   exact free _ o (fun z=>(hch _ z).2.1 rfl) ho I.free
 · obtain ⟨v,o,ho,hd⟩:=I.cell x c e
   exact free c o (fun z=>(hch c z).2.2.1 x c e rfl) ho (I.freeC x c e)
 · obtain ⟨e,n,ne,nf,d⟩:=I.pin p hp
   have nch:p.1∉ch:=fun z=>(hch p.1 z).2.2.2 p hp rfl
   exact ⟨keep p.1 p.2 ne nf nch e n,free p.1 p.2 nch e n,ne,nf,d⟩
theorem Inv.un {t':Nat} (I:Inv X pins σ H s) (u:Un X.fs [] H H' s.heap h') (hok:HOk X.prog X.w H' h'):Inv X pins σ H' { s with heap:=h',toks:=t' }:=by
 obtain ⟨m,⟨o,es,ep,ho,r⟩,_⟩:=id I.loc
 obtain ⟨sl,hL⟩:=u.any ho I.free (by simp)
 exact I.step (g':=s.gens) (d':=s.drawn) (ch:=[]) (fun _ z=>nomatch z) (fun b o _ hb _ e n=>u.keep b o e n hb (by simp)) (fun b o _ hb _ e n=>u.slot b o e n hb (by simp)) (fun b o _ e n=>u.free b o e n (by simp)) (fun b o _ e=>u.there b o e (by simp)) u.tups u.frzs u.tbls (fun m' hm=>by
  obtain ⟨o',es',ep',ho',r'⟩:=hm
  rw [ho] at ho'; cases ho'
  exact ⟨_,es',ep',hL,r'⟩) hok I.bare
theorem Inv.call {g':Array GenState} {t':Nat} {d':Drawn} {ch:List Addr} (I:Inv X pins σ H s) (u:Un (frs X.stack) ch H H' s.heap h') (hok:HOk X.prog X.w H' h') (hg:AllBare g')
  (hch:∀ b∈ch,(b∈X.ex∨X.s₀.heap.objs.size≤b)∧b≠X.env.locals∧(∀ x c,X.env.cells.lookup x=some c→c≠b)∧∀ p∈X.pn++pins,p.1≠b):
  Inv X pins σ H' { s with heap:=h',gens:=g',drawn:=d',toks:=t' }:=by
 obtain ⟨m,⟨o,es,ep,ho,r⟩,_⟩:=id I.loc
 obtain ⟨sl,hL⟩:=u.any ho I.free fun z=>(hch _ z).2.1 rfl
 exact I.step (ch:=ch) hch (fun b o hL hb hc e n=>u.keep b o e n (fun z=>(List.mem_cons.mp (I.stkSub b z)).elim hL hb) hc) (fun b o _ _ hc e n=>u.any e n hc) (fun b o hc e n=>u.free b o e n hc) (fun b o hc e=>u.there b o e hc) u.tups u.frzs u.tbls (fun m' hm=>by
  obtain ⟨o',es',ep',ho',r'⟩:=hm
  rw [ho] at ho'; cases ho'
  exact ⟨_,es',ep',hL,r'⟩) hok hg
theorem Inv.turned {t':Nat} {it:Addr} (I:Inv X pins σ H s) (k:∀ b o,b≠it→s.heap.get? b=some o→h'.get? b=some o) (hn:H it=none) (hL:it≠X.env.locals)
  (h1:it∈X.ex∨X.s₀.heap.objs.size≤it) (h2:∀ x c,X.env.cells.lookup x=some c→c≠it) (h3:∀ p∈X.pn++pins,p.1≠it):Inv X pins σ H { s with heap:=h',toks:=t' }:=by
 have nit:∀ b u,H b=some u→b≠it:=fun b u e z=>by rw [z,hn] at e; cases e
 refine I.step (g':=s.gens) (d':=s.drawn) (ch:=[it]) (fun b hb=>?_) (fun b o _ _ hc e _=>k b o (fun z=>hc (by simp [z])) e) (fun b o _ _ hc e _=>⟨o.slots,k b o (fun z=>hc (by simp [z])) e⟩) (fun _ _ _ _ n=>n)
  (fun b o hc e=>⟨o,k b o (fun z=>hc (by simp [z])) e⟩) (fun _ _ e=>e) (fun _ _ _ e=>e) (fun b ps e=>⟨#[],by rw [e]; simp⟩) (fun m hm=>?_) (fun b u e=>?_) I.bare
 · have e:b=it:=by simpa using hb
   subst e
   exact ⟨h1,hL,h2,h3⟩
 · obtain ⟨o,es,ep,ho,r⟩:=hm
   exact ⟨o,es,ep,k _ o (Ne.symm hL) ho,r⟩
 · refine (I.hok b u e).stay (fun c v hc q=>k c v ?_ q) (fun _ q=>q) fun _ _ q=>q
   rcases hc with z | z
   · rw [z]; exact nit b u e
   · exact nit c _ z
theorem Inv.tok (I:Inv X pins σ H s) (t:Nat):Inv X pins σ H { s with toks:=t }:=I.un (h':=s.heap) (t':=t) Un.refl I.hok
theorem Inv.kept {t':Nat} (I:Inv X pins σ H s) (k:∀ b u,s.heap.get? b=some u→h'.get? b=some u):Inv X pins σ H { s with heap:=h',toks:=t' }:=I.un (Un.kept k) (I.hok.kept k)
theorem Inv.laid {a:Addr} {o:HO} {t':Nat} (I:Inv X pins σ H s) (k:∀ b u,s.heap.get? b=some u→h'.get? b=some u) (hp:s.heap.objs.size≤a) (new:ObjOk X.prog X.w (upd H a o) h' a o):
  Inv X pins σ (upd H a o) { s with heap:=h',toks:=t' }:=I.un (Un.laid k hp (I.hok.fresh hp)) (I.hok.laid k hp new)
theorem Inv.write {x e:Addr} {o:HO} {t':Nat} (I:Inv X pins σ H s) (mu:Mut (H x)) (he:e=x∨H e=some (.own x)) (k:∀ b u,b≠e→s.heap.get? b=some u→h'.get? b=some u) (heo:∃ u,h'.get? e=some u)
  (new:ObjOk X.prog X.w (upd H x o) h' x o):Inv X pins σ (upd H x o) { s with heap:=h',toks:=t' }:=I.un (Un.write mu he k heo) (I.hok.write mu he k heo new)
theorem Inv.pins_of {pins':List (Addr × Obj)} (I:Inv X pins σ H s) (h:∀ p∈pins',s.heap.get? p.1=some p.2∧H p.1=none∧p.1≠X.env.locals∧p.1∉X.fs∧∀ v,p.2.data≠.cell v):Inv X pins' σ H s:=
 ⟨I.ok,I.os,I.bare,I.base,I.loc,I.cell,I.free,I.freeC,fun p hp=>(List.mem_append.mp hp).elim (fun z=>I.pin p (List.mem_append_left _ z)) (h p),I.hok,I.len⟩
theorem pT {N:List Str} (hN:N.Nodup) {i j:Nat} {x:Str} (a:N[i]? =some x) (b:N[j]? =some x):i=j:=by
 obtain ⟨h1,e1⟩:=List.getElem?_eq_some_iff.mp a
 obtain ⟨h2,e2⟩:=List.getElem?_eq_some_iff.mp b
 exact (List.getElem_inj hN).mp (e1.trans e2.symm)
theorem oW {M:Model} {A:Around} {E:Value→Shared→Prop} {i:Nat} {x:Str} {v:V} {u:Value} {Q:Unit→Shared→Prop} (I:Inv X pins σ H s) (hN:X.N.Nodup) (hi:X.N[i]? =some x) (hx:Loc X.env.scope x) (r:RelV v u)
  (h:∀ s',Inv X pins (σ.set i (some v)) H s'→(∃ a,Heap.SameBut a s.heap s'.heap∧(a=X.env.locals∨X.env.cells.lookup x=some a))→Q () s') (hf:X.fn x=true∨X.env.scope.names.lookup x=some .local:=by first | exact .inl rfl | exact .inr rfl | assumption):wpAny M A (storeName X.env x u) Q E s:=by
 obtain ⟨m,hn,hl⟩:=id I.loc
 have hcls:(X.env.scope.kind==.class||(X.env.scope.kind==.module&&X.env.locals != X.env.globals))=false:=by rw [I.ok.kind]; rfl
 have hiσ:i < σ.length:=by rw [I.len]; exact (List.getElem?_eq_some_iff.mp hi).1
 have cne:=I.cne
 have tracked:∀ {a:Addr} {h':Heap},(∃ o,s.heap.get? a=some o∧H a=none)→Heap.SameBut a s.heap h'→HOk X.prog X.w H h':=fun {a h'} ha hs b ob e=>by
  obtain ⟨_,_,hfree⟩:=ha
  refine (I.hok b ob e).stay (fun c w' hc q=>(hs.2 c ?_).trans q) (fun _ q=>q) fun _ _ q=>q
  rintro rfl
  rcases hc with rfl | hc
  · rw [hfree] at e; cases e
  · rw [hfree] at hc; cases hc
 rcases hx with hk | hk
 · refine wpAny_storeName_local hk hn (fun h' hn' hs=>?_) hcls
   obtain ⟨oL,_,_,hoL,_⟩:=id hn
   refine h _ ⟨I.ok,I.os,I.bare,⟨fun b o e n hb hx=>?_,fun b o e n hb hx=>?_,I.base.free,fun b o e hx=>?_,I.base.tups,I.base.frzs,I.base.tbls⟩,⟨_,hn',fun j y v' e1 e2 e3=>?_⟩,fun y c e=>?_,I.free,I.freeC,fun p hp=>?_,tracked ⟨oL,hoL,I.free⟩ hs,by simpa using I.len⟩ ⟨_,hs,.inl rfl⟩
   · exact (hs.2 b (Nat.ne_of_lt (Nat.lt_of_lt_of_le (Heap.lt_size e) I.ok.above))).trans (I.base.keep b o e n hb hx)
   · obtain ⟨sl,e1⟩:=I.base.slot b o e n hb hx
     exact ⟨sl,(hs.2 b (Nat.ne_of_lt (Nat.lt_of_lt_of_le (Heap.lt_size e) I.ok.above))).trans e1⟩
   · obtain ⟨o',e1⟩:=I.base.there b o e hx
     exact ⟨o',(hs.2 b (Nat.ne_of_lt (Nat.lt_of_lt_of_le (Heap.lt_size e) I.ok.above))).trans e1⟩
   · by_cases hj:j=i
     · subst hj
       rw [hi] at e1; cases e1
       rw [List.getElem?_set_self hiσ] at e2
       cases e2
       exact ⟨u,r,.inl ⟨hk,by simp⟩⟩
     · rw [List.getElem?_set_ne (Ne.symm hj)] at e2
       obtain ⟨u',r',q⟩:=hl j y v' e1 e2 e3
       refine ⟨u',r',?_⟩
       rcases q with ⟨k,e⟩ | ⟨k,c,e,z⟩
       · refine .inl ⟨k,?_⟩
         have:y≠x:=fun e=>hj (pT hN e1 (e ▸ hi))
         simp [this,e]
       · exact .inr ⟨k,c,e,z.sameBut hs (cne y c e)⟩
   · obtain ⟨w',z⟩:=I.cell y c e
     exact ⟨w',z.sameBut hs (cne y c e)⟩
   · obtain ⟨e,n,ne,nf,d⟩:=I.pin p hp
     exact ⟨(hs.2 p.1 ne).trans e,n,ne,nf,d⟩
 · have hfn:X.fn x=true:=by
    rcases hf with z | z
    · exact z
    · rw [z] at hk; cases hk
   obtain ⟨c,hc⟩:=I.ok.has x (.inl hk)
   obtain ⟨w',z⟩:=I.cell x c hc
   refine wpAny_storeName_cell I.ok.kind hk hc z (fun h' hc' hs=>?_)
   obtain ⟨oc,hoc,hocd⟩:=id z
   refine h { s with heap:=h' } ⟨I.ok,I.os,I.bare,⟨fun b o e n hb hx=>?_,fun b o e n hb hx=>?_,I.base.free,fun b o e hx=>?_,I.base.tups,I.base.frzs,I.base.tbls⟩,⟨m,hn.sameBut hs (Ne.symm (cne x c hc)),fun j y v' e1 e2 e3=>?_⟩,fun y c' e=>?_,I.free,I.freeC,fun p hp=>?_,tracked ⟨oc,hoc,I.freeC x c hc⟩ hs,by simpa using I.len⟩ ⟨c,hs,.inr hc⟩
   · exact (hs.2 b (Nat.ne_of_lt (Nat.lt_of_lt_of_le (Heap.lt_size e) (I.ok.cab x c hfn hc)))).trans (I.base.keep b o e n hb hx)
   · obtain ⟨sl,e1⟩:=I.base.slot b o e n hb hx
     exact ⟨sl,(hs.2 b (Nat.ne_of_lt (Nat.lt_of_lt_of_le (Heap.lt_size e) (I.ok.cab x c hfn hc)))).trans e1⟩
   · obtain ⟨o',e1⟩:=I.base.there b o e hx
     exact ⟨o',(hs.2 b (Nat.ne_of_lt (Nat.lt_of_lt_of_le (Heap.lt_size e) (I.ok.cab x c hfn hc)))).trans e1⟩
   · by_cases hj:j=i
     · subst hj
       rw [hi] at e1; cases e1
       rw [List.getElem?_set_self hiσ] at e2
       cases e2
       exact ⟨u,r,.inr ⟨.inl hk,c,hc,hc'⟩⟩
     · rw [List.getElem?_set_ne (Ne.symm hj)] at e2
       obtain ⟨u',r',q⟩:=hl j y v' e1 e2 e3
       refine ⟨u',r',?_⟩
       rcases q with q | ⟨k,c',e,z'⟩
       · exact .inl q
       · refine .inr ⟨k,c',e,z'.sameBut hs ?_⟩
         rintro rfl
         exact hj (pT hN e1 (I.ok.inj _ _ _ e hc ▸ hi))
   · by_cases hcc:c'=c
     · subst hcc; exact ⟨_,hc'⟩
     · obtain ⟨w2,z2⟩:=I.cell y c' e
       exact ⟨w2,z2.sameBut hs hcc⟩
   · obtain ⟨e,n,ne,nf,d⟩:=I.pin p hp
     refine ⟨(hs.2 p.1 ?_).trans e,n,ne,nf,d⟩
     intro q
     rw [q,hoc] at e
     have q':oc=p.2:=Option.some.inj e
     exact d w' (by rw [← q']; exact hocd)
theorem pU {M:Model} {A:Around} {E:Value→Shared→Prop} {i:Nat} {x:Str} {v:V} {u:Value} {Q:Unit→Shared→Prop} (I:Inv X pins σ H s) (hN:X.N.Nodup) (hi:X.N[i]? =some x) (hx:Loc X.env.scope x) (r:RelV v u)
  (h:∀ s',Inv X pins (σ.set i (some v)) H s'→Q () s') (hf:X.fn x=true∨X.env.scope.names.lookup x=some .local:=by first | exact .inl rfl | exact .inr rfl | assumption):wpAny M A (storeName X.env x u) Q E s:=
 oW I hN hi hx r (fun s' I' _=>h s' I') hf
theorem Inv.call' {s':Shared} {ch:List Addr} (I:Inv X pins σ H s) (ho:s'.os=s.os) (u:Un (frs X.stack) ch H H' s.heap s'.heap) (hok:HOk X.prog X.w H' s'.heap) (hg:AllBare s'.gens)
  (hch:∀ b∈ch,(b∈X.ex∨X.s₀.heap.objs.size≤b)∧b≠X.env.locals∧(∀ x c,X.env.cells.lookup x=some c→c≠b)∧∀ p∈X.pn++pins,p.1≠b):Inv X pins σ H' s':=by
 obtain ⟨h',g',d',t',o'⟩:=s'
 have e:o'=s.os:=ho
 subst e
 exact I.call (g':=g') (t':=t') (d':=d') u hok hg hch
end
abbrev XK:=Value→Option Addr→Hp→Prop
abbrev St:=List (Option V)
abbrev VK:=V→Hp→Prop
abbrev TE:=St→Hp→VK→Prop
abbrev TT:=St→Hp→(Bool→Hp→Prop)→Prop
abbrev TA:=St→Hp→(List V→Hp→Prop)→Prop
structure Ends where
 nx:St→Hp→Prop
 rt:VK
 bk:St→Hp→Prop:=fun _ _=>False
 ct:St→Hp→Prop:=fun _ _=>False
abbrev TS:=Ends→St→Hp→Prop
def EP (X:Cx) (pins:List (Addr × Obj)) (σ:St) (Q:VK) (u:Value) (s':Shared):Prop:=∃ v H',Inv X pins σ H' s'∧RelV v u∧Q v H'
def TP (X:Cx) (pins:List (Addr × Obj)) (σ:St) (Q:Bool→Hp→Prop) (b:Bool) (s':Shared):Prop:=∃ H',Inv X pins σ H' s'∧Q b H'
def AP (X:Cx) (pins:List (Addr × Obj)) (σ:St) (Q:List V→Hp→Prop) (us:List Value) (s':Shared):Prop:=∃ vs H',Inv X pins σ H' s'∧Vals vs us∧Q vs H'
def SP (X:Cx) (pins:List (Addr × Obj)) (D:Ends) (f:Flow) (s':Shared):Prop:=
 match f with
 | .next=>∃ σ' H',Inv X pins σ' H' s'∧D.nx σ' H'
 | .brk=>∃ σ' H',Inv X pins σ' H' s'∧D.bk σ' H'
 | .cont=>∃ σ' H',Inv X pins σ' H' s'∧D.ct σ' H'
 | .ret u=>∃ v σ' H',Inv X pins σ' H' s'∧RelV v u∧D.rt v H'
def PE (X:Cx) (e:Expr) (t:TE):Prop:=
 ∀ (pins:List (Addr × Obj)) (s:Shared) (σ:St) (H:Hp) (Q:VK),Inv X pins σ H s→t σ H Q→wpAny (model X.prog X.w) X.A (eval e X.env) (EP X pins σ Q) X.xe s
def PT (X:Cx) (e:Expr) (t:TT):Prop:=
 ∀ (pins:List (Addr × Obj)) (s:Shared) (σ:St) (H:Hp) (Q:Bool→Hp→Prop),Inv X pins σ H s→t σ H Q→wpAny (model X.prog X.w) X.A (isTrue e X.env (eval e X.env)) (TP X pins σ Q) X.xe s
def PW (X:Cx) (e:Expr) (t:TT):Prop:=
 ∀ (whole:Sem Value) (pins:List (Addr × Obj)) (s:Shared) (σ:St) (H:Hp) (Q:Bool→Hp→Prop),Inv X pins σ H s→t σ H Q→wpAny (model X.prog X.w) X.A (isTrue e X.env whole) (TP X pins σ Q) X.xe s
theorem PW.pt {X:Cx} {e:Expr} {t:TT} (h:PW X e t):PT X e t:=h _
def PA (X:Cx) (es:List Expr) (t:TA):Prop:=
 ∀ (pos:Pos) (pins:List (Addr × Obj)) (s:Shared) (σ:St) (H:Hp) (Q:List V→Hp→Prop),Inv X pins σ H s→t σ H Q→wpAny (model X.prog X.w) X.A (spliced (backTo pos (starEach es X.env))) (AP X pins σ Q) X.xe s
def PS (X:Cx) (st:Stmt) (t:TS):Prop:=
 ∀ (pins:List (Addr × Obj)) (s:Shared) (σ:St) (H:Hp) (D:Ends),Inv X pins σ H s→t D σ H→wpAny (model X.prog X.w) X.A (exec st X.env) (SP X pins D) X.xe s
def PSs (X:Cx) (st:List Stmt) (t:TS):Prop:=
 ∀ (pins:List (Addr × Obj)) (s:Shared) (σ:St) (H:Hp) (D:Ends),Inv X pins σ H s→t D σ H→wpAny (model X.prog X.w) X.A (execs st X.env) (SP X pins D) X.xe s
theorem thn {α:Type} {t:Sem α} {Q Q':α→Shared→Prop} {M:Model} {A:Around} {E:Value→Shared→Prop} {s:Shared} (h:wpAny M A t Q E s) (hQ:∀ a s,Q a s→Q' a s):wpAny M A t Q' E s:=wpAny_mono h hQ fun _ _ x=>x
end L2
namespace L2
open PySem PySem.Spec PyProof.Rows
section
variable {X:Cx}
def tVar (i:Nat):TE:=fun σ H Q=>∃ v,σ[i]? =some (some v)∧Q v H
def tC (v:V):TE:=fun _ H Q=>Q v H
theorem xl {i:Nat} {x:Str} {pos:Pos} (hN:X.N[i]? =some x) (hv:Vis X.env.scope x) (hd:(x==("__debug__":Str))=false:=by decide) (hcd:(x==("__classdict__":Str))=false:=by decide):PE X (.Name x pos) (tVar i):=by
 intro pins s σ H Q I h
 obtain ⟨v,e,h⟩:=h
 obtain ⟨m,hn,hl⟩:=I.loc
 obtain ⟨u,r,l⟩:=hl i x v hN e hv
 have fin:EP X pins σ Q u s:=⟨v,H,I,r,h⟩
 rcases l with ⟨hk,hm⟩ | ⟨hk,c,hc,hcell⟩
 · exact wpAny_Name (wpAny_loadName_local I.ok.kind hk hn hm fin) hd
 · rcases hk with hk | hk
   · exact wpAny_Name (wpAny_loadName_cell I.ok.kind hk hc hcell fin) hd
   · exact wpAny_Name (wpAny_loadName_free I.ok.kind hk hc hcell fin hcd) hd
theorem ac {i j pos}:PE X (.Constant (.int i) j pos) (tC (.int i)):=fun _ _ _ H _ I h=>wpAny_Constant_int ⟨.int i,H,I.tok _,⟨_,rfl⟩,h⟩
theorem b6 {b j pos}:PE X (.Constant (.bool b) j pos) (tC (.bl b)):=fun _ _ _ H _ I h=>Constant_bool ⟨.bl b,H,I,rfl,h⟩
theorem pV {j pos}:PE X (.Constant .none j pos) (tC .non):=fun _ _ _ H _ I h=>Constant_none ⟨.non,H,I,rfl,h⟩
theorem aI {x j pos}:PE X (.Constant (.str x) j pos) (tC (.str x)):=fun _ _ _ H _ I h=>Calls.Constant_str ⟨.str x,H,I.tok _,⟨_,rfl⟩,h⟩
def Gl (X:Cx) (x:Str):Prop:=X.env.kindOf x=some .globalImplicit
theorem oz {E:Value→Shared→Prop} {pins:List (Addr × Obj)} {s:Shared} {σ:St} {H:Hp} {x:Str} {u:Value} {pos:Pos} {Q:Value→Shared→Prop} (I:Inv X pins σ H s) (hg:Gl X x) (hm:X.mg x=some u) (h:Q u s)
  (hd:(x==("__debug__":Str))=false:=by decide):wpAny (model X.prog X.w) X.A (eval (.Name x pos) X.env) Q E s:=
 Calls.Name_function_global I.ok.kind hg (Calls.loadGlobal_global (by rw [I.ok.glob]; exact I.mod.glob.keeps I.bk) hm h) hd
theorem fT {E:Value→Shared→Prop} {pins:List (Addr × Obj)} {s:Shared} {σ:St} {H:Hp} {x:Str} {u:Value} {pos:Pos} {Q:Value→Shared→Prop} (I:Inv X pins σ H s) (hg:Gl X x) (hm:X.mg x=none) (hv:bootBuiltins x=some u) (h:Q u s)
  (hn:x≠"__name__":=by decide) (hd:(x==("__debug__":Str))=false:=by decide):wpAny (model X.prog X.w) X.A (eval (.Name x pos) X.env) Q E s:=by
 obtain ⟨mb,h1,h2⟩:=I.mod.blt
 exact Calls.Name_function_global I.ok.kind hg (Calls.loadGlobal_builtin (by rw [I.ok.glob]; exact I.mod.glob.keeps I.bk) hm (by rw [I.ok.blt]; exact h1.keeps I.bk) ((h2 x hn).trans hv) h) hd
theorem cU {x:Str} {v:V} {u:Value} {pos:Pos} (hg:Gl X x) (hm:X.mg x=some u) (r:RelV v u) (hd:(x==("__debug__":Str))=false:=by decide):PE X (.Name x pos) (tC v):=
 fun _ _ _ H _ I h=>oz I hg hm ⟨v,H,I,r,h⟩ hd
theorem fI {x:Str} {v:V} {u:Value} {pos:Pos} (hg:Gl X x) (hm:X.mg x=none) (hv:bootBuiltins x=some u) (r:RelV v u) (hn:x≠"__name__":=by decide) (hd:(x==("__debug__":Str))=false:=by decide):PE X (.Name x pos) (tC v):=
 fun _ _ _ H _ I h=>fT I hg hm hv ⟨v,H,I,r,h⟩ hn hd
variable {a b:Expr} {ta tb:TE} {pos:Pos}
def tB (t:TE):TT:=fun σ H Q=>t σ H fun x H1=>∃ c,x=.bl c∧Q c H1
theorem aW {e:Expr} {t:TE} (h:PE X e t) (he:∀ whole,isTrue e X.env whole=(do let v ← whole; standAt e.pos; holding [v] (truthy v)):=by intro _; rfl):PT X e (tB t):=by
 intro pins s σ H Q I hw
 refine isTrue_plain (thn (h pins s σ H _ I hw) fun v s1 ⟨x,H1,I1,r1,q1⟩=>?_) (he _)
 obtain ⟨d,rfl,q⟩:=q1
 cases r1
 exact wpAny_truthy_bool ⟨H1,I1,q⟩
variable {tA tB':TT} {rest:List Expr}
def tAnd (t u:TT):TT:=fun σ H Q=>t σ H fun c H1=>if c=true then u σ H1 Q else Q false H1
def tOr (t u:TT):TT:=fun σ H Q=>t σ H fun c H1=>if c=true then Q true H1 else u σ H1 Q
def tNot (t:TT):TT:=fun σ H Q=>t σ H fun c H1=>Q (!c) H1
theorem jQ (ha:PT X a tA):PW X (.BoolOp .And [a] pos) tA:=by
 intro wh pins s σ H Q I h
 refine isTrue_and (thn (ha pins s σ H Q I h) fun c s1 e=>?_)
 cases c with
 | true=>exact isTrue_and_nil e
 | false=>exact e
theorem cV (ha:PT X a tA):PW X (.BoolOp .Or [a] pos) tA:=by
 intro wh pins s σ H Q I h
 refine isTrue_or (thn (ha pins s σ H Q I h) fun c s1 e=>?_)
 cases c with
 | false=>exact isTrue_or_nil e
 | true=>exact e
theorem kM (ha:PT X a tA) (hb:PW X (.BoolOp .And (b::rest) pos) tB'):PW X (.BoolOp .And (a::b::rest) pos) (tAnd tA tB'):=by
 intro wh pins s σ H Q I h
 refine isTrue_and (thn (ha pins s σ H _ I h) fun c s1 ⟨H1,I1,q1⟩=>?_)
 cases c with
 | true=>exact hb wh pins s1 σ H1 Q I1 q1
 | false=>exact ⟨H1,I1,q1⟩
theorem cy (ha:PT X a tA) (hb:PW X (.BoolOp .Or (b::rest) pos) tB'):PW X (.BoolOp .Or (a::b::rest) pos) (tOr tA tB'):=by
 intro wh pins s σ H Q I h
 refine isTrue_or (thn (ha pins s σ H _ I h) fun c s1 ⟨H1,I1,q1⟩=>?_)
 cases c with
 | true=>exact ⟨H1,I1,q1⟩
 | false=>exact hb wh pins s1 σ H1 Q I1 q1
theorem bq (ha:PT X a tA):PT X (.UnaryOp .Not a pos) (tNot tA):=by
 intro pins s σ H Q I h
 exact isTrue_not (ha pins s σ H (fun c H1=>Q (!c) H1) I h)
def tAndV (ta tb:TE):TE:=fun σ H Q=>ta σ H fun x H1=>∃ c,x=.bl c∧if c=true then tb σ H1 Q else Q (.bl false) H1
def tOrV (ta tb:TE):TE:=fun σ H Q=>ta σ H fun x H1=>∃ c,x=.bl c∧if c=true then Q (.bl true) H1 else tb σ H1 Q
def tNotV (ta:TE):TE:=fun σ H Q=>ta σ H fun x H1=>∃ c,x=.bl c∧Q (.bl (!c)) H1
theorem bA {op} {t:TE} (h:PE X a t):PE X (.BoolOp op [a] pos) t:=fun pins s σ H Q I hw=>BoolOp_one (h pins s σ H Q I hw)
theorem ba (ha:PE X a ta) (hb:PE X (.BoolOp .And (b::rest) pos) tb):PE X (.BoolOp .And (a::b::rest) pos) (tAndV ta tb):=by
 intro pins s σ H Q I h
 refine BoolOp_and (thn (ha pins s σ H _ I h) fun v s1 ⟨x,H1,I1,r1,q1⟩=>?_)
 obtain ⟨c,rfl,q1⟩:=q1
 cases r1
 refine wpAny_truthy_bool ?_
 cases c with
 | true=>exact hb pins s1 σ H1 Q I1 q1
 | false=>exact ⟨.bl false,H1,I1,rfl,q1⟩
theorem wf (ha:PE X a ta) (hb:PE X (.BoolOp .Or (b::rest) pos) tb):PE X (.BoolOp .Or (a::b::rest) pos) (tOrV ta tb):=by
 intro pins s σ H Q I h
 refine BoolOp_or (thn (ha pins s σ H _ I h) fun v s1 ⟨x,H1,I1,r1,q1⟩=>?_)
 obtain ⟨c,rfl,q1⟩:=q1
 cases r1
 refine wpAny_truthy_bool ?_
 cases c with
 | false=>exact hb pins s1 σ H1 Q I1 q1
 | true=>exact ⟨.bl true,H1,I1,rfl,q1⟩
theorem xm (ha:PE X a ta):PE X (.UnaryOp .Not a pos) (tNotV ta):=by
 intro pins s σ H Q I h
 refine UnaryOp_ (thn (ha pins s σ H _ I h) fun v s1 ⟨x,H1,I1,r1,q1⟩=>?_)
 obtain ⟨c,rfl,q1⟩:=q1
 cases r1
 exact not_of (wpAny_truthy_bool ⟨.bl (!c),H1,I1,rfl,q1⟩)
def tIf (t:TT) (ta tb:TE):TE:=fun σ H Q=>t σ H fun c H1=>if c=true then ta σ H1 Q else tb σ H1 Q
theorem vo {c:Expr} (hc:PT X c tA) (ha:PE X a ta) (hb:PE X b tb):PE X (.IfExp c a b pos) (tIf tA ta tb):=by
 intro pins s σ H Q I h
 refine wpAny_IfExp (thn (hc pins s σ H _ I h) fun d s1 ⟨H1,I1,q1⟩=>?_)
 cases d with
 | true=>exact ha pins s1 σ H1 Q I1 q1
 | false=>exact hb pins s1 σ H1 Q I1 q1
end
end L2
namespace L2
open PySem PySem.Spec PyProof.Rows
def SqL (K:PySem.W.Frag) (H:Hp) (a:Addr) (xs:List V):Prop:=
 Rd H a (.lst xs)∨
  ∃ (o:Obj) (its:Array Value) (n:Nat),K.lookup a=some o∧o.cls=.type "list"∧o.dict=none∧o.data=.seq its n∧its.size≤sizeLine∧Vals xs its.toList
def SqT (K:PySem.W.Frag) (H:Hp) (a:Addr) (xs:List V):Prop:=
 Rd H a (.tup xs)∨
  ∃ (o:Obj) (its:Array Value) (n:Nat),K.lookup a=some o∧o.cls=.type "tuple"∧o.data=.seq its n∧its.size≤sizeLine∧Vals xs its.toList
def absV:Value→Option V
 | .none=>some .non
 | .bool b=>some (.bl b)
 | .int i _=>some (.int i)
 | .str x _=>some (.str x)
 | .bytes b _=>some (.byt b)
 | .float b _=>some (.flt b)
 | .ref a=>some (.ref a)
 | .type n=>some (.ty n)
 | _=>none
theorem RelV.abs {x:V} {u:Value} (r:RelV x u):absV u=some x:=by
 cases x with
 | non=>cases r; rfl
 | bl _=>cases r; rfl
 | int _=>obtain ⟨t,rfl⟩:=r; rfl
 | str _=>obtain ⟨t,rfl⟩:=r; rfl
 | byt _=>obtain ⟨t,rfl⟩:=r; rfl
 | flt _=>obtain ⟨t,rfl⟩:=r; rfl
 | ref _=>cases r; rfl
 | ty _=>cases r; rfl
theorem RelV.inj {x y:V} {u:Value} (r:RelV x u) (q:RelV y u):x=y:=Option.some.inj (r.abs.symm.trans q.abs)
theorem Vals.inj:∀ {xs ys:List V} {us:List Value},Vals xs us→Vals ys us→xs=ys
 | _,_,_,.nil,.nil=>rfl
 | _,_,_,.cons r t,.cons r' t'=>by rw [r.inj r',Vals.inj t t']
section
variable {X:Cx} {pins:List (Addr × Obj)} {σ:St} {H:Hp} {s:Shared} {a:Addr} {xs ys:List V}
theorem SqL.of {K:PySem.W.Frag} (h:H a=some (.lst xs)):SqL K H a xs:=.inl (.inl h)
theorem SqT.of {K:PySem.W.Frag} (h:H a=some (.tup xs)):SqT K H a xs:=.inl (.inl h)
theorem Inv.list (I:Inv X pins σ H s) (h:SqL X.K H a xs):∃ its:List Value,Vals xs its∧PlainL s.heap a its.toArray∧xs.length≤sizeLine:=by
 rcases h with h | ⟨o,its,n,hk,hc,hd,hs,hz,r⟩
 · obtain ⟨z,its,n,r,e⟩:=h.ok I.hok
   exact ⟨its,r,⟨_,n,e,rfl,rfl,rfl⟩,z⟩
 · refine ⟨its.toList,r,⟨o,n,I.kIn a o hk,hc,hd,by simpa using hs⟩,?_⟩
   have e:=r.length
   simp only [Array.length_toList] at e
   omega
theorem Inv.tuple (I:Inv X pins σ H s) (h:SqT X.K H a xs):∃ its:List Value,Vals xs its∧IsTup s.heap a its.toArray∧xs.length≤sizeLine:=by
 rcases h with h | ⟨o,its,n,hk,hc,hs,hz,r⟩
 · obtain ⟨z,its,r,p⟩:=h.ok I.hok
   exact ⟨its,r,p,z⟩
 · refine ⟨its.toList,r,⟨o,I.kIn a o hk,hc,n,by simpa using hs⟩,?_⟩
   have e:=r.length
   simp only [Array.length_toList] at e
   omega
theorem Inv.list_inj (I:Inv X pins σ H s) (h:SqL X.K H a xs) (h':SqL X.K H a ys):xs=ys:=by
 obtain ⟨its,r,⟨o,n,e,_,_,d⟩,_⟩:=I.list h
 obtain ⟨its',r',⟨o',n',e',_,_,d'⟩,_⟩:=I.list h'
 rw [e] at e'; cases e'
 rw [d] at d'
 injection d' with d1 _
 have:its=its':=by simpa using congrArg Array.toList d1
 subst this
 exact r.inj r'
end
abbrev Cx.wish (X:Cx) (E:Value→Shared→Prop):Cx:={ X with xe:=E }
abbrev Cx.nox (X:Cx):Cx:=X.wish fun _ _=>False
theorem Cx.Ok.wish {X:Cx} (ok:X.Ok) (E:Value→Shared→Prop):(X.wish E).Ok:=
 ⟨ok.mod,ok.kind,ok.glob,ok.blt,ok.above,ok.inj,ok.has,ok.cab,ok.hd,ok.frames,ok.stk,ok.exf,ok.bs,ok.bsz,ok.noex,ok.exfs,ok.funs,ok.frf⟩
theorem Cx.Ok.unwish {X:Cx} {E:Value→Shared→Prop} (ok:(X.wish E).Ok):X.Ok:=
 ⟨ok.mod,ok.kind,ok.glob,ok.blt,ok.above,ok.inj,ok.has,ok.cab,ok.hd,ok.frames,ok.stk,ok.exf,ok.bs,ok.bsz,ok.noex,ok.exfs,ok.funs,ok.frf⟩
section
variable {X:Cx} {pins:List (Addr × Obj)} {σ:St} {H:Hp} {s:Shared} {E:Value→Shared→Prop}
theorem Inv.wish (I:Inv X pins σ H s) (E:Value→Shared→Prop):Inv (X.wish E) pins σ H s:=⟨I.ok.wish E,I.os,I.bare,I.base,I.loc,I.cell,I.free,I.freeC,I.pin,I.hok,I.len⟩
theorem Inv.unwish (I:Inv (X.wish E) pins σ H s):Inv X pins σ H s:=⟨I.ok.unwish,I.os,I.bare,I.base,I.loc,I.cell,I.free,I.freeC,I.pin,I.hok,I.len⟩
theorem SP.unwish {D:Ends} {f:Flow} {s':Shared} (h:SP (X.wish E) pins D f s'):SP X pins D f s':=by
 cases f with
 | next=>obtain ⟨σ',H',I,q⟩:=h; exact ⟨σ',H',I.unwish,q⟩
 | brk=>obtain ⟨σ',H',I,q⟩:=h; exact ⟨σ',H',I.unwish,q⟩
 | cont=>obtain ⟨σ',H',I,q⟩:=h; exact ⟨σ',H',I.unwish,q⟩
 | ret u=>obtain ⟨v,σ',H',I,r,q⟩:=h; exact ⟨v,σ',H',I.unwish,r,q⟩
theorem PSs.nox {st:List Stmt} {t:TS} (h:PSs X.nox st t):PSs X st t:=fun pins s σ H D I hw=>
 wpAny_mono (h pins s σ H D (I.wish _) hw) (fun _ _ q=>q.unwish) fun _ _ z=>False.elim z
end
section
variable {X:Cx} {st:Stmt} {rest:List Stmt} {t u:TS} {e:Expr} {te:TE} {pos:Pos}
def tNext:TS:=fun D σ H=>D.nx σ H
def tSeq (t u:TS):TS:=fun D σ H=>t { D with nx:=u D } σ H
theorem ar:PSs X [] tNext:=fun _ _ σ H _ I h=>wpAny_execs_nil ⟨σ,H,I,h⟩
theorem ae (h1:PS X st t) (h2:PSs X rest u):PSs X (st::rest) (tSeq t u):=by
 intro pins s σ H D I h
 refine wpAny_execs_cons (thn (h1 pins s σ H { D with nx:=u D } I h) fun f s1 q=>?_)
 cases f with
 | next=>
  obtain ⟨σ',H',I',q⟩:=q
  exact h2 pins s1 σ' H' D I' q
 | ret v=>exact q
 | brk=>exact q
 | cont=>exact q
theorem af (h1:PS X st t):PSs X [st] t:=by
 intro pins s σ H D I h
 refine wpAny_execs_cons (thn (h1 pins s σ H D I h) fun f s1 q=>?_)
 cases f with
 | next=>exact wpAny_execs_nil q
 | ret v=>exact q
 | brk=>exact q
 | cont=>exact q
theorem Inv.quiet {pins:List (Addr × Obj)} {σ:St} {H:Hp} {s:Shared} (I:Inv X pins σ H s):interactive X.env=false:=by simp [interactive,I.ok.kind]
def tDrop (te:TE):TS:=fun D σ H=>te σ H fun _ H1=>D.nx σ H1
theorem cW (he:PE X e te) (hs:swapsWith e none pos.line X.env=pure false:=by rfl):PS X (.Expr e pos) (tDrop te):=by
 intro pins s σ H D I h
 exact wpAny_Expr_any (thn (he pins s σ H _ I h) fun v s1 ⟨x,H1,I1,r1,q1⟩=>⟨σ,H1,I1,q1⟩) I.quiet hs
def tRet (te:TE):TS:=fun D σ H=>te σ H D.rt
theorem ak (he:PE X e te):PS X (.Return (some e) pos) (tRet te):=by
 intro pins s σ H D I h
 exact wpAny_Return_some (thn (he pins s σ H _ I h) fun v s1 ⟨x,H1,I1,r1,q1⟩=>⟨x,σ,H1,I1,r1,q1⟩)
def tRetN:TS:=fun D _ H=>D.rt .non H
def tIfS (c:TT) (t u:TS):TS:=fun D σ H=>c σ H fun b H1=>if b=true then t D σ H1 else u D σ H1
theorem az {c:Expr} {a b:List Stmt} {tc:TT} (hc:PT X c tc) (ha:PSs X a t) (hb:PSs X b u):PS X (.If c a b pos) (tIfS tc t u):=by
 intro pins s σ H D I h
 refine wpAny_If (thn (hc pins s σ H _ I h) fun d s1 ⟨H1,I1,q1⟩=>?_)
 cases d with
 | true=>exact ha pins s1 σ H1 D I1 q1
 | false=>exact hb pins s1 σ H1 D I1 q1
def cu:TS:=fun _ _ _=>False
theorem bB:PS X st cu:=fun _ _ _ _ _ _ h=>h.elim
end
abbrev TG:=V→St→Hp→(St→Hp→Prop)→Prop
abbrev TGs:=List V→St→Hp→(St→Hp→Prop)→Prop
def PG (X:Cx) (target:Expr) (t:TG):Prop:=
 ∀ (pins:List (Addr × Obj)) (s:Shared) (σ:St) (H:Hp) (v:V) (u:Value) (Q:St→Hp→Prop),Inv X pins σ H s→RelV v u→t v σ H Q→
  wpAny (model X.prog X.w) X.A (assign target X.env u) (fun _ s'=>∃ σ' H',Inv X pins σ' H' s'∧Q σ' H') X.xe s
def PGs (X:Cx) (ts:List Expr) (t:TGs):Prop:=
 ∀ (pins:List (Addr × Obj)) (s:Shared) (σ:St) (H:Hp) (vs:List V) (us:List Value) (Q:St→Hp→Prop),Inv X pins σ H s→Vals vs us→t vs σ H Q→
  wpAny (model X.prog X.w) X.A (assignInOrder ((assignEach ts X.env).map (·.2)) us) (fun _ s'=>∃ σ' H',Inv X pins σ' H' s'∧Q σ' H') X.xe s
abbrev TSet:=V→V→V→Hp→(Hp→Prop)→Prop
section
variable {X:Cx} {pos:Pos}
def gName (i:Nat):TG:=fun v σ H Q=>Q (σ.set i (some v)) H
theorem aM {i:Nat} {x:Str} (hN:X.N.Nodup) (hi:X.N[i]? =some x) (hx:Loc X.env.scope x) (hf:X.fn x=true∨X.env.scope.names.lookup x=some .local:=by first | exact .inl rfl | exact .inr rfl | assumption):PG X (.Name x pos) (gName i):=by
 intro pins s σ H v u Q I r h
 exact wpAny_assign_Name (pU I hN hi hx r (fun s' I'=>⟨_,H,I',h⟩) hf)
def gNil:TGs:=fun vs σ H Q=>vs=[]∧Q σ H
def gCons (t:TG) (u:TGs):TGs:=fun vs σ H Q=>∃ v r,vs=v::r∧t v σ H fun σ' H'=>u r σ' H' Q
theorem wt:PGs X [] gNil:=by
 intro pins s σ H vs us Q I r h
 obtain ⟨e,h⟩:=h
 subst e
 cases r
 exact assignInOrder_nil ⟨σ,H,I,h⟩
theorem i8 {e:Expr} {es:List Expr} {t:TG} {u:TGs} (h1:PG X e t) (h2:PGs X es u)
  (hs:(assignEach (e::es) X.env).map (·.2)=assign e X.env::(assignEach es X.env).map (·.2):=by rfl):PGs X (e::es) (gCons t u):=by
 intro pins s σ H vs us Q I r h
 obtain ⟨v,vr,e1,h⟩:=h
 subst e1
 cases r with
 | cons r rr=>
  rw [hs]
  refine assignInOrder_cons (thn (h1 pins s σ H _ _ _ I r h) fun _ s1 ⟨σ1,H1,I1,q1⟩=>?_)
  exact h2 pins s1 σ1 H1 _ _ Q I1 rr q1
def gTup (K:PySem.W.Frag) (n:Nat) (t:TGs):TG:=fun v σ H Q=>∃ a xs,v=.ref a∧SqT K H a xs∧xs.length=n∧t xs σ H Q
theorem xn {es:List Expr} {k:Nat} {t:TGs} {n:Nat} (hc:X.calm=true) (h:PGs X es t)
  (hn:(assignEach es X.env).length=n:=by rfl) (hst:(assignEach es X.env).findIdx? (·.1)=none:=by rfl):PG X (.Tuple es k pos) (gTup X.K n t):=by
 intro pins s σ H v u Q I r hw
 obtain ⟨a,xs,e1,hq,hl,hw⟩:=hw
 subst e1
 cases r
 obtain ⟨its,rv,ht,hz⟩:=I.tuple hq
 refine assign_Tuple_tuple (I.ok.hd hc) ht (by simp [hn,← hl,rv.length]) hst fun h' hx=>?_
 have I1:Inv X pins σ H { s with heap:=h' }:=I.kept (t':=s.toks) fun b o e=>hx b o (Nat.ne_of_lt (Heap.lt_size e)) e
 exact h pins _ σ H xs _ Q I1 (by simpa using rv) hw
def gSub (to ti:TE) (t:TSet):TG:=fun v σ H Q=>to σ H fun o H1=>ti σ H1 fun i H2=>t o i v H2 fun H3=>Q σ H3
def tAsg (te:TE) (g:TG):TS:=fun D σ H=>te σ H fun x H1=>g x σ H1 D.nx
theorem xo {tg e:Expr} {te:TE} {g:TG} (he:PE X e te) (hg:PG X tg g) (hs:swapsWithSole [tg] e pos.line X.env=pure false:=by rfl) (hw:swappedStores [tg] e X.env=pure none:=by rfl)
  (h1:(assignEach [tg] X.env).map (·.2)=[assign tg X.env]:=by rfl):PS X (.Assign [tg] e pos) (tAsg te g):=by
 intro pins s σ H D I h
 refine wpAny_Assign_stores (thn (he pins s σ H _ I h) fun v s1 ⟨x,H1,I1,r1,q1⟩=>?_) hs hw
 rw [h1]
 exact thn (hg pins s1 σ H1 x v _ I1 r1 q1) fun _ s2 q=>q
theorem ay {i:Nat} {x:Str} {e:Expr} {te:TE} {pos':Pos} (hN:X.N.Nodup) (hi:X.N[i]? =some x) (hx:Loc X.env.scope x) (he:PE X e te) (hs:swapsWith e (some (.Name x pos')) pos.line X.env=pure false:=by rfl) (hf:X.fn x=true∨X.env.scope.names.lookup x=some .local:=by first | exact .inl rfl | exact .inr rfl | assumption):
  PS X (.Assign [.Name x pos'] e pos) (tAsg te (gName i)):=by
 intro pins s σ H D I h
 refine wpAny_Assign_Name (thn (he pins s σ H _ I h) fun v s1 ⟨y,H1,I1,r1,q1⟩=>?_) hs
 exact pU I1 hN hi hx r1 (fun s2 I2=>⟨_,H1,I2,q1⟩) hf
end
section
variable {X:Cx} {pos:Pos}
def tU (c:TT) (tb:TS):TS:=fun D σ H=>∃ W:Nat→St→Hp→Prop,(∃ m,W m σ H)∧∀ m σ H,W m σ H→
 c σ H fun b H1=>if b=true then ∃ N:St→Hp→Prop,(∀ σ' H',N σ' H'→∃ m',m' < m∧W m' σ' H')∧tb { D with nx:=N,ct:=N,bk:=D.nx } σ H1 else D.nx σ H1
theorem vp {c:Expr} {body:List Stmt} {tc:TT} {tb:TS} (hp:PassesOwn (model X.prog X.w) X.A X.env X.xe) (hc:PT X c tc) (hb:PSs X body tb):PS X (.While c body [] pos) (tU tc tb):=by
 intro pins s σ H D I h
 obtain ⟨W,⟨m0,w0⟩,turn⟩:=h
 refine wpAny_While (codeAny_whileLoop (fun n s'=>∃ σ' H',Inv X pins σ' H' s'∧W n σ' H') ?_ m0 ⟨σ,H,I,w0⟩)
 rintro n s1 ⟨σ1,H1,I1,w1⟩
 refine wpAny_passesOwn hp (thn (hc pins s1 σ1 H1 _ I1 (turn n σ1 H1 w1)) fun b s2 ⟨H2,I2,q2⟩=>?_)
 cases b with
 | true=>
  obtain ⟨N,hN,q2⟩:=q2
  rw [if_pos rfl]
  refine wpAny_passesOwn hp (thn (hb pins s2 σ1 H2 _ I2 q2) fun f s3 q3=>?_)
  cases f with
  | next=>
   obtain ⟨σ3,H3,I3,n3⟩:=q3
   obtain ⟨m',hm,w3⟩:=hN σ3 H3 n3
   exact ⟨m',hm,σ3,H3,I3,w3⟩
  | cont=>
   obtain ⟨σ3,H3,I3,n3⟩:=q3
   obtain ⟨m',hm,w3⟩:=hN σ3 H3 n3
   exact ⟨m',hm,σ3,H3,I3,w3⟩
  | brk=>exact q3
  | ret v=>exact q3
 | false=>
  rw [if_neg Bool.false_ne_true]
  exact wpAny_execs_nil ⟨σ1,H2,I2,q2⟩
end
structure It where
 go:Nat→Hp→Prop
 yld:Nat→Hp→V→Hp→Prop
 stop:Nat→Hp→Prop
def FpOk (X:Cx) (pins:List (Addr × Obj)) (H:Hp) (b:Addr):Prop:=
 H b=none∧b≠X.env.locals∧b∉X.fs∧(b∈X.ex∨X.s₀.heap.objs.size≤b)∧(∀ x c,X.env.cells.lookup x=some c→c≠b)∧∀ p∈X.pn++pins,p.1≠b
theorem Inv.fpOk {X:Cx} {pins:List (Addr × Obj)} {σ:St} {H H':Hp} {s:Shared} {b:Addr} (I:Inv X pins σ H s) (hb:s.heap.objs.size≤b) (hn:H' b=none):FpOk X pins H' b:=by
 refine ⟨hn,Nat.ne_of_gt (Nat.lt_of_lt_of_le I.lt hb),I.nofs hb,.inr (Nat.le_trans I.sz hb),fun x c e z=>?_,fun p hp z=>?_⟩
 · obtain ⟨v,q⟩:=I.cell x c e
   exact absurd (Nat.lt_of_lt_of_le q.lt (by rw [z]; exact hb)) (Nat.lt_irrefl _)
 · exact absurd (Nat.lt_of_lt_of_le (Heap.lt_size (I.pin p hp).1) (by rw [z]; exact hb)) (Nat.lt_irrefl _)
structure Turn (P:Program) (w:World) (K:PySem.W.Frag) (tg:Expr) (J:It) (fp:List Addr) (it:Addr) (tn:Nat→Heap→Prop):Prop where
 mem:it∈fp
 obj:∀ i h,tn i h→∀ b∈fp,∃ o,h.get? b=some o∧∀ v,o.data≠.cell v
 keep:∀ i h h',tn i h→(∀ b∈fp,∀ o,h.get? b=some o→h'.get? b=some o)→tn i h'
 item:∀ (X:Cx),X.prog=P→X.w=w→X.K=K→X.calm=true→∀ (i:Nat) (pins:List (Addr × Obj)) (s:Shared) (σ:St) (H:Hp) (E:Value→Shared→Prop),Inv X pins σ H s→(∀ b∈fp,FpOk X pins H b)→tn i s.heap→J.go i H→
  wpAny (model P w) X.A (pyNext (.ref it)) (fun r s1=>∃ u,r=some u∧
   wpAny (model P w) X.A (letOwnedTupleGo tg (.ref it) u) (fun _ s2=>∃ x H',Inv X pins σ H' s2∧RelV x u∧J.yld i H x H'∧tn (i+1) s2.heap∧∀ b∈fp,H' b=none) E s1) E s
 done:∀ (X:Cx),X.prog=P→X.w=w→X.K=K→X.calm=true→∀ (i:Nat) (pins:List (Addr × Obj)) (s:Shared) (σ:St) (H:Hp) (E:Value→Shared→Prop),Inv X pins σ H s→(∀ b∈fp,FpOk X pins H b)→tn i s.heap→J.stop i H→
  wpAny (model P w) X.A (pyNext (.ref it)) (fun r s1=>r=none∧Inv X pins σ H s1) E s
 self:∀ (A:Around) (i:Nat) (s:Shared) (Q:Value→Shared→Prop) (E:Value→Shared→Prop),tn i s.heap→Q (.ref it) s→wpAny (model P w) A (pyIter (.ref it)) Q E s
abbrev TI:=St→Hp→(It→Hp→Prop)→Prop
def PIE (X:Cx) (pins:List (Addr × Obj)) (σ:St) (tg:Expr) (R:It→Hp→Prop) (itv:Value) (s2:Shared):Prop:=
 ∃ (it:Addr) (fp:List Addr) (tn:Nat→Heap→Prop) (J:It) (H':Hp),itv=.ref it∧Inv X pins σ H' s2∧Turn X.prog X.w X.K tg J fp it tn∧tn 0 s2.heap∧(∀ b∈fp,FpOk X pins H' b)∧R J H'
def PI (X:Cx) (tg iter:Expr) (wi:TI):Prop:=
 ∀ (pins:List (Addr × Obj)) (s:Shared) (σ:St) (H:Hp) (R:It→Hp→Prop),Inv X pins σ H s→wi σ H R→
  wpAny (model X.prog X.w) X.A (eval iter X.env) (fun v s1=>wpAny (model X.prog X.w) X.A (pyIter v) (PIE X pins σ tg R) X.xe s1) X.xe s
theorem sj {M:Model} {A:Around} {E:Value→Shared→Prop} {s:Shared} {tg:Expr} {it:Addr} {u:Value} {o:Obj} {n:String} {vs:Array Value} {Q:Unit→Shared→Prop} (ho:s.heap.get? it=some o) (hc:o.cls=.type n) (hd:o.data=.fields vs)
  (hn:["enumerate","zip","dict_itemiterator","dict_reverseitemiterator","odict_iterator","itertools.zip_longest","itertools.pairwise"].contains n=false) (hQ:Q () s):wpAny M A (letOwnedTupleGo tg (.ref it) u) Q E s:=by
 unfold letOwnedTupleGo
 cases tg <;> first
  | exact wpAny_pure hQ
  | (cases u <;> first
    | exact wpAny_pure hQ
    | (refine wpAny_bind (wpAny_load ho ?_)
       rw [hc,hd]
       show wpAny M A (if (["enumerate","zip","dict_itemiterator","dict_reverseitemiterator","odict_iterator","itertools.zip_longest","itertools.pairwise"].contains n&&vs[0]? ==some (rawInt _))=true then _ else _) Q E s
       rw [if_neg (by intro h; rw [hn,Bool.false_and] at h; cases h)]
       exact wpAny_pure hQ))
def Itl (K:PySem.W.Frag) (a:Addr):It:=
 ⟨fun i H=>∃ xs x,SqL K H a xs∧xs[i]? =some x,fun i H x H'=>H'=H∧∀ xs,SqL K H a xs→xs[i]? =some x,fun i H=>∃ xs,SqL K H a xs∧xs.length≤i⟩
def Itr (lo:Int) (n:Nat):It:=⟨fun i _=>i < n,fun i H x H'=>H'=H∧x=.int (lo+i),fun i _=>n≤i⟩
theorem tV {P:Program} {w:World} {K:PySem.W.Frag} {tg:Expr} (a it:Addr):Turn P w K tg (Itl K a) [it] it (fun i h=>h.IsListIter it a i) where
 mem:=by simp
 obj:=fun i h st b hb=>by
  have e:b=it:=by simpa using hb
  subst e
  obtain ⟨o,e,c,d⟩:=st
  exact ⟨o,e,fun v z=>by rw [d] at z; cases z⟩
 keep:=fun i h h' st k=>st.at fun o e=>k it (by simp) o e
 item:=by
  intro X hP hw hK hc i pins s σ H E I hf st hg
  subst hP hw hK
  obtain ⟨xs,x,hq,hx⟩:=hg
  obtain ⟨its,rv,p,hz⟩:=I.list hq
  obtain ⟨u,hu,ru⟩:=rv.get hx
  obtain ⟨f0,f1,f2,f3,f4,f5⟩:=hf it (by simp)
  refine wpAny_pyNext_list_item st p.isList (x:=u) (by simpa using hu) fun h' st' sb=>?_
  have I1:Inv X pins σ H { s with heap:=h' }:=I.turned (t':=s.toks) (fun b o hb e=>(sb.2 b hb).trans e) f0 f1 f3 f4 f5
  obtain ⟨o,e,c,d⟩:=id st'
  exact ⟨u,rfl,sj (s:={ s with heap:=h' }) e c d (by decide) ⟨x,H,I1,ru,⟨rfl,fun ys hy=>by rw [I.list_inj hy hq]; exact hx⟩,st',fun b hb=>(hf b hb).1⟩⟩
 done:=by
  intro X hP hw hK hc i pins s σ H E I hf st hg
  subst hP hw hK
  obtain ⟨xs,hq,hx⟩:=hg
  obtain ⟨its,rv,p,hz⟩:=I.list hq
  obtain ⟨f0,f1,f2,f3,f4,f5⟩:=hf it (by simp)
  have hl:=rv.length
  exact wpAny_pyNext_list_end (I.ok.hd hc) st p.isList (by simp; omega) fun h' eb=>⟨rfl,I.turned (t':=s.toks) (fun b o hb e=>eb b o hb e) f0 f1 f3 f4 f5⟩
 self:=fun _ _ _ _ _ st h=>wpAny_pyIter_listiter st h
theorem sk {P:Program} {w:World} {K:PySem.W.Frag} {tg:Expr} (it:Addr) (lo:Int) (n:Nat):Turn P w K tg (Itr lo n) [it] it (fun i h=>IsRangeIter h it (lo+(i:Nat)*1) ((n:Int) - (i:Nat)) 1) where
 mem:=by simp
 obj:=fun i h st b hb=>by
  have e:b=it:=by simpa using hb
  subst e
  exact ⟨_,st,fun v z=>by
   have z':Data.fields _=Data.cell v:=z
   cases z'⟩
 keep:=fun i h h' st k=>k it (by simp) _ st
 item:=by
  intro X hP hw hK hc i pins s σ H E I hf st hg
  subst hP hw hK
  obtain ⟨f0,f1,f2,f3,f4,f5⟩:=hf it (by simp)
  have W:=Walks.range (prog:=X.prog) (w:=X.w) (I.ok.hd hc) it lo 1 n
  refine W.item i s _ _ hg st fun v h' tk hv st' kk=>?_
  obtain ⟨t,rfl⟩:=hv
  have I1:Inv X pins σ H { s with heap:=h',toks:=tk }:=I.turned (fun b o hb e=>kk b o (by simpa using hb) e) f0 f1 f3 f4 f5
  refine ⟨_,rfl,sj (s:={ s with heap:=h',toks:=tk }) (n:="range_iterator") st' rfl rfl (by decide) ⟨.int (lo+i),H,I1,⟨t,?_⟩,⟨rfl,rfl⟩,st',fun b hb=>(hf b hb).1⟩⟩
  rw [Int.mul_one]
 done:=by
  intro X hP hw hK hc i pins s σ H E I hf st hg
  subst hP hw hK
  obtain ⟨f0,f1,f2,f3,f4,f5⟩:=hf it (by simp)
  exact wpAny_pyNext_range_end (I.ok.hd hc) st (by have:n≤i:=hg; omega) fun h' eb=>⟨rfl,I.turned (t':=s.toks) (fun b o hb e=>eb b o hb e) f0 f1 f3 f4 f5⟩
 self:=fun _ _ _ _ _ st h=>wpAny_pyIter_rangeiter st h
end L2
namespace L2
open PySem PySem.Spec PyProof.Rows
section
variable {X:Cx} {tg:Expr}
def iList (K:PySem.W.Frag) (tl:TE):TI:=fun σ H R=>tl σ H fun x H1=>∃ a,x=.ref a∧(∃ xs,SqL K H1 a xs)∧R (Itl K a) H1
theorem bE {l:Expr} {tl:TE} (hl:PE X l tl):PI X tg l (iList X.K tl):=by
 intro pins s σ H R I h
 refine thn (hl pins s σ H _ I h) fun v s1 ⟨x,H1,I1,r1,q1⟩=>?_
 obtain ⟨a,e,⟨xs,hq⟩,q⟩:=q1
 subst e
 cases r1
 obtain ⟨its,rv,p,hz⟩:=I1.list hq
 refine wpAny_pyIter_list p.isList ?_
 refine ⟨s1.heap.objs.size,[s1.heap.objs.size],_,_,H1,rfl,I1.kept (t':=s1.toks) fun b o e=>Heap.get?_push_of_some _ e,tV a _,⟨_,Heap.get?_push_size _ rfl,rfl,rfl⟩,fun b hb=>?_,q⟩
 have e:b=s1.heap.objs.size:=by simpa using hb
 subst e
 exact I1.fpOk (Nat.le_refl _) (I1.hok.fresh (Nat.le_refl _))
theorem pW {pins:List (Addr × Obj)} {σ:St} {H:Hp} {s:Shared} {R:It→Hp→Prop} {E:Value→Shared→Prop} {lo hi:Int} {t u v:Tok} {tk:Nat} (I:Inv X pins σ H s) (h1: -(2^62)≤lo) (h2:lo < 2^62) (h3: -(2^62)≤hi) (h4:hi < 2^62)
  (q:R (Itr lo (hi - lo).toNat) H):wpAny (model X.prog X.w) X.A (pyIter (.ref s.heap.objs.size)) (PIE X pins σ tg R) E { s with heap:=s.heap.push { cls:=.type "range",data:=.fields #[.int lo t,.int hi u,.int 1 v] },toks:=tk }:=by
 refine wpAny_pyIter_range (IsRange.new ..) (small_one h1 h2 h3 h4) ?_
 have I1:Inv X pins σ H { s with heap:=s.heap.push { cls:=.type "range",data:=.fields #[.int lo t,.int hi u,.int 1 v] },toks:=tk }:=I.kept fun b o e=>Heap.get?_push_of_some _ e
 refine ⟨(s.heap.push { cls:=.type "range",data:=.fields #[.int lo t,.int hi u,.int 1 v] }).objs.size,[(s.heap.push { cls:=.type "range",data:=.fields #[.int lo t,.int hi u,.int 1 v] }).objs.size],_,_,H,rfl,
  I1.kept (t':=tk) fun b o e=>Heap.get?_push_of_some _ e,sk _ lo (hi - lo).toNat,?_,fun b hb=>?_,q⟩
 · have e1:lo+((0:Nat):Int)*1=lo:=by simp
   have e2:(((hi - lo).toNat:Nat):Int) - ((0:Nat):Int)=Builtin.Range.rangeSize lo hi 1:=by rw [rangeSize_one]; split <;> omega
   show IsRangeIter _ _ (lo+((0:Nat):Int)*1) ((((hi - lo).toNat:Nat):Int) - ((0:Nat):Int)) 1
   rw [e1,e2]
   exact Heap.get?_push_size _ rfl
 · have e:b=(s.heap.push { cls:=.type "range",data:=.fields #[.int lo t,.int hi u,.int 1 v] }).objs.size:=by simpa using hb
   subst e
   exact I1.fpOk (Nat.le_refl _) (I1.hok.fresh (Nat.le_refl _))
def fU (ta:TA):TI:=fun σ H R=>ta σ H fun vs H1=>∃ j:Int,vs=[.int j]∧ -(2^62)≤j∧j < 2^62∧R (Itr 0 j.toNat) H1
def m5 (ta:TA):TI:=fun σ H R=>ta σ H fun vs H1=>∃ i j:Int,vs=[.int i,.int j]∧(-(2^62)≤i∧i < 2^62∧ -(2^62)≤j∧j < 2^62)∧R (Itr i (j - i).toNat) H1
theorem ee {a:Expr} {ta:TA} {p pos:Pos} (hg:Gl X "range") (hm:X.mg "range"=none) (ha:PA X [a] ta) (hs:starEach [a] X.env=[(false,eval a X.env)]:=by rfl):PI X tg (.Call (.Name "range" p) [a] [] pos) (fU ta):=by
 intro pins s σ H R I h
 refine Call_ (fT I hg hm boot_range (PyProof.Rows.callWith_type1 (thn (ha pos pins s σ H _ I h) fun us s1 ⟨vs,H1,I1,r1,q1⟩=>?_) hs rfl))
 obtain ⟨j,e,q1,q2,q⟩:=q1
 subst e
 cases r1 with
 | cons r rr=>
  cases rr
  obtain ⟨t,rfl⟩:=r
  exact call_range_1 (pW I1 (by omega) (by omega) q1 q2 (by simpa using q))
theorem tW {a b:Expr} {ta:TA} {p pos:Pos} (hg:Gl X "range") (hm:X.mg "range"=none) (ha:PA X [a,b] ta) (hs:starEach [a,b] X.env=[(false,eval a X.env),(false,eval b X.env)]:=by rfl) (hs2:starEach [b] X.env=[(false,eval b X.env)]:=by rfl):
  PI X tg (.Call (.Name "range" p) [a,b] [] pos) (m5 ta):=by
 intro pins s σ H R I h
 refine Call_ (fT I hg hm boot_range (PyProof.Rows.callWith_type1 (thn (ha pos pins s σ H _ I h) fun us s1 ⟨vs,H1,I1,r1,q1⟩=>?_) (by rw [hs,hs2]) (by rw [hs2]; rfl)))
 obtain ⟨i,j,e,⟨q1,q2,q3,q4⟩,q⟩:=q1
 subst e
 cases r1 with
 | cons r rr=>
  cases rr with
  | cons r' rr=>
   cases rr
   obtain ⟨t,rfl⟩:=r
   obtain ⟨t',rfl⟩:=r'
   exact call_range_2 (pW I1 q1 q2 q3 q4 q)
def tFor (wi:TI) (g:TG) (tb:TS):TS:=fun D σ H=>wi σ H fun J H1=>∃ W:Nat→Nat→St→Hp→Prop,(∃ m,W 0 m σ H1)∧∀ i m σ H,W i m σ H→
 (J.stop i H∧D.nx σ H)∨(J.go i H∧∃ N:St→Hp→Prop,(∀ σ' H',N σ' H'→∃ m',m' < m∧W (i+1) m' σ' H')∧∀ x H',J.yld i H x H'→g x σ H' fun σ2 H2=>tb { D with nx:=N,ct:=N,bk:=D.nx } σ2 H2)
def kN (fp:List Addr) (h:Heap):List (Addr × Obj):=fp.filterMap fun b=>(h.get? b).map fun o=>(b,o)
theorem iA {fp:List Addr} {h:Heap} {b:Addr} {o:Obj} (hb:b∈fp) (e:h.get? b=some o):(b,o)∈kN fp h:=List.mem_filterMap.mpr ⟨b,hb,by rw [e]; rfl⟩
theorem tX {fp:List Addr} {h:Heap} {p:Addr × Obj} (hp:p∈kN fp h):p.1∈fp∧h.get? p.1=some p.2:=by
 obtain ⟨b,hb,e⟩:=List.mem_filterMap.mp hp
 cases q:h.get? b with
 | none=>rw [q] at e; cases e
 | some o=>
  rw [q] at e
  have e':(b,o)=p:=Option.some.inj e
  subst e'
  exact ⟨hb,q⟩
theorem Inv.pinned {pins:List (Addr × Obj)} {σ:St} {H:Hp} {s:Shared} {fp:List Addr} (I:Inv X pins σ H s) (hf:∀ b∈fp,FpOk X pins H b) (ho:∀ b∈fp,∃ o,s.heap.get? b=some o∧∀ v,o.data≠.cell v):Inv X (pins++kN fp s.heap) σ H s:=
 I.pins_of fun p hp=>(List.mem_append.mp hp).elim (fun z=>I.pin p (List.mem_append_right _ z)) fun z=>by
  obtain ⟨hb,e⟩:=tX z
  obtain ⟨f0,f1,f2,_⟩:=hf p.1 hb
  obtain ⟨o,e',d⟩:=ho p.1 hb
  rw [e] at e'; cases e'
  exact ⟨e,f0,f1,f2,d⟩
theorem Inv.unpinned {pins pl:List (Addr × Obj)} {σ:St} {H:Hp} {s:Shared} (I:Inv X (pins++pl) σ H s):Inv X pins σ H s:=I.pins_of fun p hp=>I.pin p (List.mem_append_right _ (List.mem_append_left _ hp))
theorem kO {iter:Expr} {body:List Stmt} {wi:TI} {g:TG} {tb:TS} {pos:Pos} (hp:PassesOwn (model X.prog X.w) X.A X.env X.xe) (hc:X.calm=true) (hi:PI X tg iter wi) (hg:PG X tg g) (hb:PSs X body tb)
  (hs:∀ x,foldedSetIterable iter X.env x=pure x:=by intro _; rfl):PS X (.For tg iter body [] pos) (tFor wi g tb):=by
 intro pins s σ H D I h
 refine wpAny_For (thn (hi pins s σ H _ I h) fun v s1 h1=>thn h1 fun itv s2 h2=>?_) hs
 obtain ⟨it,fp,tn,J,H2,e,I2,T,st2,f2,W,⟨m0,w0⟩,turn⟩:=h2
 subst e
 have stat:∀ {H':Hp},(∀ b∈fp,H' b=none)→∀ b∈fp,FpOk X pins H' b:=fun hn b hb=>⟨hn b hb,(f2 b hb).2⟩
 refine codeAny_forLoop_any (fun n s'=>∃ i σ' H',Inv X pins σ' H' s'∧tn i s'.heap∧(∀ b∈fp,H' b=none)∧W i n σ' H') ?_ m0 ⟨0,σ,H2,I2,st2,fun b hb=>(f2 b hb).1,w0⟩
 rintro n s3 ⟨i,σ3,H3,I3,st3,fr3,w3⟩
 rcases turn i n σ3 H3 w3 with ⟨stop,qn⟩ | ⟨go,N,hN,step⟩
 · refine wpAny_passesOwn hp (thn (T.done X rfl rfl rfl hc i pins s3 σ3 H3 X.xe I3 (stat fr3) st3 stop) fun r s4 ⟨hr,I4⟩=>?_)
   subst hr
   exact wpAny_execs_nil ⟨σ3,H3,I4,qn⟩
 · refine wpAny_passesOwn hp (thn (T.item X rfl rfl rfl hc i pins s3 σ3 H3 X.xe I3 (stat fr3) st3 go) fun r s4 ⟨u,hr,h4⟩=>?_)
   subst hr
   refine wpAny_passesOwn hp (thn h4 fun _ s5 ⟨x,H5,I5,r5,y5,st5,fr5⟩=>?_)
   have I5':=I5.pinned (stat fr5) (T.obj _ _ st5)
   refine wpAny_passesOwn hp (thn (hg _ s5 σ3 H5 x u _ I5' r5 (step x H5 y5)) fun _ s6 ⟨σ6,H6,I6,q6⟩=>?_)
   refine wpAny_passesOwn hp (thn (hb _ s6 σ6 H6 _ I6 q6) fun f s7 q7=>?_)
   have again:∀ {σ7:St} {H7:Hp},Inv X (pins++kN fp s5.heap) σ7 H7 s7→N σ7 H7→∃ m,m < n∧∃ i σ' H',Inv X pins σ' H' s7∧tn i s7.heap∧(∀ b∈fp,H' b=none)∧W i m σ' H':=fun {σ7 H7} I7 n7=>by
    obtain ⟨m',hm,w7⟩:=hN σ7 H7 n7
    refine ⟨m',hm,i+1,σ7,H7,I7.unpinned,T.keep _ _ _ st5 fun b hb o e=>(I7.pin (b,o) (List.mem_append_right _ (List.mem_append_right _ (iA hb e)))).1,fun b hb=>?_,w7⟩
    obtain ⟨o,e,d⟩:=T.obj _ _ st5 b hb
    exact (I7.pin (b,o) (List.mem_append_right _ (List.mem_append_right _ (iA hb e)))).2.1
   cases f with
   | next=>obtain ⟨σ7,H7,I7,n7⟩:=q7; exact again I7 n7
   | cont=>obtain ⟨σ7,H7,I7,n7⟩:=q7; exact again I7 n7
   | brk=>obtain ⟨σ7,H7,I7,q7⟩:=q7; exact ⟨σ7,H7,I7.unpinned,q7⟩
   | ret v=>obtain ⟨x7,σ7,H7,I7,r7,q7⟩:=q7; exact ⟨x7,σ7,H7,I7.unpinned,r7,q7⟩
end
theorem mn {K:PySem.W.Frag} {a:Addr} {xs:List V} {g:TG} {tb:TS} {D:Ends} {σ:St} {H:Hp} (Pv:Nat→St→Hp→Prop) (h0:Pv 0 σ H) (hl:∀ i σ H,i≤xs.length→Pv i σ H→SqL K H a xs)
  (hs:∀ i x σ H,xs[i]? =some x→Pv i σ H→g x σ H fun σ2 H2=>tb { D with nx:=Pv (i+1),ct:=Pv (i+1),bk:=D.nx } σ2 H2) (hd:∀ σ H,Pv xs.length σ H→D.nx σ H):
  ∃ W:Nat→Nat→St→Hp→Prop,(∃ m,W 0 m σ H)∧∀ i m σ H,W i m σ H→
   ((Itl K a).stop i H∧D.nx σ H)∨((Itl K a).go i H∧∃ N:St→Hp→Prop,(∀ σ' H',N σ' H'→∃ m',m' < m∧W (i+1) m' σ' H')∧∀ x H',(Itl K a).yld i H x H'→g x σ H' fun σ2 H2=>tb { D with nx:=N,ct:=N,bk:=D.nx } σ2 H2):=by
 refine ⟨fun i m σ H=>m=xs.length - i∧i≤xs.length∧Pv i σ H,⟨xs.length,by simp,Nat.zero_le _,h0⟩,?_⟩
 rintro i m σ H ⟨rfl,hi,p⟩
 have q:=hl i σ H hi p
 by_cases hlt:i < xs.length
 · refine .inr ⟨⟨xs,xs[i],q,by simp [hlt]⟩,Pv (i+1),fun σ' H' p'=>⟨xs.length - (i+1),by omega,rfl,hlt,p'⟩,fun x H' y=>?_⟩
   obtain ⟨e,y⟩:=y
   subst e
   exact hs i x σ _ (y xs q) p
 · have e:i=xs.length:=by omega
   subst e
   exact .inl ⟨⟨xs,q,Nat.le_refl _⟩,hd σ H p⟩
theorem oX {lo:Int} {n:Nat} {g:TG} {tb:TS} {D:Ends} {σ:St} {H:Hp} (Pv:Nat→St→Hp→Prop) (h0:Pv 0 σ H)
  (hs:∀ i σ H,i < n→Pv i σ H→g (.int (lo+i)) σ H fun σ2 H2=>tb { D with nx:=Pv (i+1),ct:=Pv (i+1),bk:=D.nx } σ2 H2) (hd:∀ σ H,Pv n σ H→D.nx σ H):
  ∃ W:Nat→Nat→St→Hp→Prop,(∃ m,W 0 m σ H)∧∀ i m σ H,W i m σ H→
   ((Itr lo n).stop i H∧D.nx σ H)∨((Itr lo n).go i H∧∃ N:St→Hp→Prop,(∀ σ' H',N σ' H'→∃ m',m' < m∧W (i+1) m' σ' H')∧∀ x H',(Itr lo n).yld i H x H'→g x σ H' fun σ2 H2=>tb { D with nx:=N,ct:=N,bk:=D.nx } σ2 H2):=by
 refine ⟨fun i m σ H=>m=n - i∧i≤n∧Pv i σ H,⟨n,by simp,Nat.zero_le _,h0⟩,?_⟩
 rintro i m σ H ⟨rfl,hi,p⟩
 by_cases hlt:i < n
 · refine .inr ⟨hlt,Pv (i+1),fun σ' H' p'=>⟨n - (i+1),by omega,rfl,hlt,p'⟩,fun x H' y=>?_⟩
   obtain ⟨e,y⟩:=y
   subst e y
   exact hs i σ _ hlt p
 · have e:i=n:=by omega
   subst e
   exact .inl ⟨Nat.le_refl _,hd σ H p⟩
end L2
namespace L2
open PySem PySem.Spec PyProof.Rows
abbrev R2:=V→V→Hp→VK→Prop
def OpR (X:Cx) (f:Value→Value→Sem Value) (r:R2):Prop:=
 ∀ (pins:List (Addr × Obj)) (s:Shared) (σ:St) (H:Hp) (x y:V) (v u:Value) (Q:VK),Inv X pins σ H s→RelV x v→RelV y u→r x y H Q→
  wpAny (model X.prog X.w) X.A (f v u) (EP X pins σ Q) X.xe s
def UnR (X:Cx) (f:Value→Sem Value) (r:V→Hp→VK→Prop):Prop:=
 ∀ (pins:List (Addr × Obj)) (s:Shared) (σ:St) (H:Hp) (x:V) (v:Value) (Q:VK),Inv X pins σ H s→RelV x v→r x H Q→
  wpAny (model X.prog X.w) X.A (f v) (EP X pins σ Q) X.xe s
def CallR (X:Cx) (f:Value) (r:List V→Hp→VK→Prop):Prop:=
 ∀ (pins:List (Addr × Obj)) (s:Shared) (σ:St) (H:Hp) (xs:List V) (us:List Value) (Q:VK),Inv X pins σ H s→Vals xs us→r xs H Q→
  wpAny (model X.prog X.w) X.A (call f us) (EP X pins σ Q) X.xe s
def tOp (r:R2) (ta tb:TE):TE:=fun σ H Q=>ta σ H fun x H1=>tb σ H1 fun y H2=>r x y H2 Q
def tUn (r:V→Hp→VK→Prop) (ta:TE):TE:=fun σ H Q=>ta σ H fun x H1=>r x H1 Q
def rI (C:Int→Int→Prop) (g:Int→Int→V):R2:=fun x y H Q=>∃ i j,x=.int i∧y=.int j∧C i j∧Q (g i j) H
def rI0 (g:Int→Int→V):R2:=fun x y H Q=>∃ i j,x=.int i∧y=.int j∧Q (g i j) H
def rU (g:Int→V):V→Hp→VK→Prop:=fun x H Q=>∃ i,x=.int i∧Q (g i) H
section
variable {X:Cx} {a b c:Expr} {ta tb tc:TE} {pos:Pos}
theorem binT (ha:PE X a ta) (hb:PE X b tb) {pins:List (Addr × Obj)} {s:Shared} {σ:St} {H:Hp} {R:V→V→Hp→Prop} (I:Inv X pins σ H s)
  (h:ta σ H fun x H1=>tb σ H1 fun y H2=>R x y H2) {Q:Value→Shared→Prop} {f:Value→Value→Sem Value}
  (hf:∀ v u s2 x y H2,Inv X pins σ H2 s2→RelV x v→RelV y u→R x y H2→wpAny (model X.prog X.w) X.A (f v u) Q X.xe s2):
  wpAny (model X.prog X.w) X.A (eval a X.env) (fun v s₁=>wpAny (model X.prog X.w) X.A (eval b X.env) (fun u s₂=>wpAny (model X.prog X.w) X.A (f v u) Q X.xe s₂) X.xe s₁) X.xe s:=by
 refine thn (ha pins s σ H _ I h) fun v s1 ⟨x,H1,I1,r1,q1⟩=>?_
 refine thn (hb pins s1 σ H1 _ I1 q1) fun u s2 ⟨y,H2,I2,r2,q2⟩=>?_
 exact hf v u s2 x y H2 I2 r1 r2 q2
theorem ap {op:Operator} {r:R2} (ho:OpR X (binaryOp op) r) (ha:PE X a ta) (hb:PE X b tb):PE X (.BinOp a op b pos) (tOp r ta tb):=by
 intro pins s σ H Q I h
 exact wpAny_BinOp (binT ha hb I h fun v u s2 x y H2 I2 rx ry q=>ho pins s2 σ H2 x y v u Q I2 rx ry q)
theorem yi {op:UnaryOp} {r:V→Hp→VK→Prop} (ho:UnR X (unaryOp op) r) (ha:PE X a ta):PE X (.UnaryOp op a pos) (tUn r ta):=by
 intro pins s σ H Q I h
 exact UnaryOp_ (thn (ha pins s σ H _ I h) fun v s1 ⟨x,H1,I1,r1,q1⟩=>ho pins s1 σ H1 x v Q I1 r1 q1)
theorem opI {f:Value→Value→Sem Value} {C:Int→Int→Prop} {g:Int→Int→Int}
  (rule:∀ (i j:Int) (t u:Tok) (s:Shared) (Q:Value→Shared→Prop) (E:Value→Shared→Prop),C i j→Q (.int (g i j) s.toks) { s with toks:=s.toks+1 }→wpAny (model X.prog X.w) X.A (f (.int i t) (.int j u)) Q E s):
  OpR X f (rI C fun i j=>.int (g i j)):=by
 intro pins s σ H x y v u Q I rx ry h
 obtain ⟨i,j,rfl,rfl,hc,q⟩:=h
 obtain ⟨t,rfl⟩:=rx
 obtain ⟨t',rfl⟩:=ry
 exact rule i j t t' s _ _ hc ⟨.int (g i j),H,I.tok _,⟨_,rfl⟩,q⟩
theorem vq {f:Value→Value→Sem Value} {g:Int→Int→Int}
  (rule:∀ (i j:Int) (t u:Tok) (s:Shared) (Q:Value→Shared→Prop) (E:Value→Shared→Prop),Q (.int (g i j) s.toks) { s with toks:=s.toks+1 }→wpAny (model X.prog X.w) X.A (f (.int i t) (.int j u)) Q E s):
  OpR X f (rI0 fun i j=>.int (g i j)):=by
 intro pins s σ H x y v u Q I rx ry h
 obtain ⟨i,j,rfl,rfl,q⟩:=h
 obtain ⟨t,rfl⟩:=rx
 obtain ⟨t',rfl⟩:=ry
 exact rule i j t t' s _ _ ⟨.int (g i j),H,I.tok _,⟨_,rfl⟩,q⟩
theorem sm {f:Value→Value→Sem Value} {g:Int→Int→Bool}
  (rule:∀ (i j:Int) (t u:Tok) (s:Shared) (Q:Value→Shared→Prop) (E:Value→Shared→Prop),Q (.bool (g i j)) s→wpAny (model X.prog X.w) X.A (f (.int i t) (.int j u)) Q E s):
  OpR X f (rI0 fun i j=>.bl (g i j)):=by
 intro pins s σ H x y v u Q I rx ry h
 obtain ⟨i,j,rfl,rfl,q⟩:=h
 obtain ⟨t,rfl⟩:=rx
 obtain ⟨t',rfl⟩:=ry
 exact rule i j t t' s _ _ ⟨.bl (g i j),H,I,rfl,q⟩
def CDiv (i j:Int):Prop:=0 < j∧j < 1073741824
def CPow (i j:Int):Prop:=0≤j∧j≤1000000∧i.natAbs < 2^64
def CMul (i j:Int):Prop:=(-(2^64) < i∧i < 2^64)∨(-(2^64) < j∧j < 2^64)
theorem CMul.ok {i j:Int} (h:CMul i j):IntMulOk i j:=by
 rcases h with ⟨h1,h2⟩ | ⟨h1,h2⟩
 · exact .of_left (intBits_le_64 h1 h2)
 · exact .of_right (intBits_le_64 h1 h2)
theorem so (k:Nat):(0:Int)≤2^k:=by
 rw [two_pow_cast]
 exact Int.natCast_nonneg _
theorem xp:OpR X (binaryOp .Add) (rI0 fun i j=>.int (i+j)):=vq fun _ _ _ _ _ _ _ q=>add_int q
theorem xq:OpR X (binaryOp .Sub) (rI0 fun i j=>.int (i - j)):=vq fun _ _ _ _ _ _ _ q=>sub_int q
theorem xt:OpR X (binaryOp .Mult) (rI CMul fun i j=>.int (i*j)):=opI fun _ _ _ _ _ _ _ hc q=>mul_int q hc.ok
theorem wu:OpR X (binaryOp .FloorDiv) (rI CDiv fun i j=>.int (i / j)):=opI fun i j _ _ _ _ _ hc q=>by
 have h1:(0:Int) < j:=hc.1
 have h2:j < 1073741824:=hc.2
 exact floordiv_int (by omega) (by rw [Int.fdiv_eq_ediv_of_nonneg i (by omega)]; exact q) (.inl (PyProof.noPylong_small (by omega)))
theorem xu:OpR X (binaryOp .Mod) (rI (fun _ j=>0 < j) fun i j=>.int (i % j)):=opI fun i j _ _ _ _ _ hc q=>by
 have h1:(0:Int) < j:=hc
 exact mod_int' (by omega) (by rw [Int.fmod_eq_emod_of_nonneg i (by omega)]; exact q)
theorem xv:OpR X (binaryOp .Pow) (rI CPow fun i j=>.int (i^j.toNat)):=opI fun _ _ _ _ _ _ _ hc q=>pow_int_small hc.1 hc.2.1 hc.2.2 q
theorem xw:OpR X (binaryOp .RShift) (rI (fun _ j=>0≤j) fun i j=>.int (i / 2^j.toNat)):=opI fun i j _ _ _ _ _ hc q=>
 rshift_int hc (by rw [Int.fdiv_eq_ediv_of_nonneg i (so _)]; exact q)
theorem yj:OpR X (binaryOp .BitOr) (rI0 fun i j=>.int (Builtin.bitOr i j)):=vq fun _ _ _ _ _ _ _ q=>or_int q
theorem unI {f:Value→Sem Value} {g:Int→Int}
  (rule:∀ (i:Int) (t:Tok) (s:Shared) (Q:Value→Shared→Prop) (E:Value→Shared→Prop),Q (.int (g i) s.toks) { s with toks:=s.toks+1 }→wpAny (model X.prog X.w) X.A (f (.int i t)) Q E s):
  UnR X f (rU fun i=>.int (g i)):=by
 intro pins s σ H x v Q I rx h
 obtain ⟨i,rfl,q⟩:=h
 obtain ⟨t,rfl⟩:=rx
 exact rule i t s _ _ ⟨.int (g i),H,I.tok _,⟨_,rfl⟩,q⟩
theorem xx:UnR X (unaryOp .USub) (rU fun i=>.int (-i)):=unI fun _ _ _ _ _ q=>neg_int q
end
def scal:V→V→Bool
 | .non,.non=>true | .non,.int _=>true | .int _,.non=>true | .non,.bl _=>true | .bl _,.non=>true | .non,.str _=>true | .str _,.non=>true
 | .int _,.int _=>true | .bl _,.bl _=>true | .str _,.str _=>true | .byt _,.byt _=>true
 | .int _,.str _=>true | .str _,.int _=>true | .bl _,.str _=>true | .str _,.bl _=>true
 | _,_=>false
def rEq:R2:=fun x y H Q=>scal x y=true∧Q (.bl (decide (x=y))) H
def rNe:R2:=fun x y H Q=>scal x y=true∧Q (.bl (!decide (x=y))) H
theorem rR {i j:Int}:decide (V.int i=V.int j)=(i==j):=by
 rw [Bool.eq_iff_iff]
 simp
theorem tY {i j:Bool}:decide (V.bl i=V.bl j)=(i==j):=by
 rw [Bool.eq_iff_iff]
 simp
theorem rS {i j:Str}:decide (V.str i=V.str j)=(i==j):=by
 rw [Bool.eq_iff_iff]
 simp
theorem rT {i j:Array UInt8}:decide (V.byt i=V.byt j)=(i.toList==j.toList):=by
 rw [Bool.eq_iff_iff]
 cases i
 cases j
 simp
section
variable {X:Cx} {a b c:Expr} {ta tb tc:TE} {pos:Pos}
theorem aP {pins:List (Addr × Obj)} {σ:St} {H:Hp} {s:Shared} {Q:VK} {k k':Bool} (I:Inv X pins σ H s) (q:Q (.bl k) H) (e:k=k'):EP X pins σ Q (.bool k') s:=by
 subst e
 exact ⟨.bl k,H,I,rfl,q⟩
theorem sr:OpR X (compareOp .Eq) rEq:=by
 intro pins s σ H x y v u Q I rx ry h
 obtain ⟨hs,q⟩:=h
 cases x with
 | non=>
  cases rx
  cases y with
  | non=>cases ry; exact PySem.EqNone.eq_none_none (aP I q (by simp))
  | bl j=>cases ry; exact PySem.EqNone.eq_none_bool (aP I q (by simp))
  | int j=>obtain ⟨t',rfl⟩:=ry; exact PySem.EqNone.eq_none_int (aP I q (by simp))
  | str j=>obtain ⟨t',rfl⟩:=ry; exact PySem.EqNone.eq_none_str (aP I q (by simp))
  | _=>exact absurd (show false=true from hs) Bool.false_ne_true
 | bl i=>
  cases rx
  cases y with
  | non=>cases ry; exact PySem.EqNone.eq_bool_none (aP I q (by simp))
  | bl j=>cases ry; exact eq_bool (aP I q tY)
  | str j=>obtain ⟨t',rfl⟩:=ry; exact PySem.EqMixed.eq_bool_str (aP I q (by simp))
  | _=>exact absurd (show false=true from hs) Bool.false_ne_true
 | int i=>
  obtain ⟨t,rfl⟩:=rx
  cases y with
  | non=>cases ry; exact PySem.EqNone.eq_int_none (aP I q (by simp))
  | int j=>obtain ⟨t',rfl⟩:=ry; exact eq_int (aP I q rR)
  | str j=>obtain ⟨t',rfl⟩:=ry; exact PySem.EqMixed.eq_int_str (aP I q (by simp))
  | _=>exact absurd (show false=true from hs) Bool.false_ne_true
 | str i=>
  obtain ⟨t,rfl⟩:=rx
  cases y with
  | non=>cases ry; exact PySem.EqNone.eq_str_none (aP I q (by simp))
  | bl j=>cases ry; exact PySem.EqMixed.eq_str_bool (aP I q (by simp))
  | int j=>obtain ⟨t',rfl⟩:=ry; exact PySem.EqMixed.eq_str_int (aP I q (by simp))
  | str j=>obtain ⟨t',rfl⟩:=ry; exact eq_str (aP I q rS)
  | _=>exact absurd (show false=true from hs) Bool.false_ne_true
 | byt i=>
  obtain ⟨t,rfl⟩:=rx
  cases y with
  | byt j=>obtain ⟨t',rfl⟩:=ry; exact PySem.W.eq_bytes (aP I q rT)
  | _=>exact absurd (show false=true from hs) Bool.false_ne_true
 | _=>cases y <;> exact absurd (show false=true from hs) Bool.false_ne_true
theorem ss:OpR X (compareOp .NotEq) rNe:=by
 intro pins s σ H x y v u Q I rx ry h
 obtain ⟨hs,q⟩:=h
 cases x with
 | non=>
  cases rx
  cases y with
  | non=>cases ry; exact PySem.EqNone.ne_none_none (aP I q (by simp))
  | bl j=>cases ry; exact PySem.EqNone.ne_none_bool (aP I q (by simp))
  | int j=>obtain ⟨t',rfl⟩:=ry; exact PySem.EqNone.ne_none_int (aP I q (by simp))
  | str j=>obtain ⟨t',rfl⟩:=ry; exact PySem.EqNone.ne_none_str (aP I q (by simp))
  | _=>exact absurd (show false=true from hs) Bool.false_ne_true
 | bl i=>
  cases rx
  cases y with
  | non=>cases ry; exact PySem.EqNone.ne_bool_none (aP I q (by simp))
  | bl j=>cases ry; exact ne_bool (aP I q (congrArg not tY))
  | str j=>obtain ⟨t',rfl⟩:=ry; exact PySem.EqMixed.ne_bool_str (aP I q (by simp))
  | _=>exact absurd (show false=true from hs) Bool.false_ne_true
 | int i=>
  obtain ⟨t,rfl⟩:=rx
  cases y with
  | non=>cases ry; exact PySem.EqNone.ne_int_none (aP I q (by simp))
  | int j=>obtain ⟨t',rfl⟩:=ry; exact ne_int (aP I q (congrArg not rR))
  | str j=>obtain ⟨t',rfl⟩:=ry; exact PySem.EqMixed.ne_int_str (aP I q (by simp))
  | _=>exact absurd (show false=true from hs) Bool.false_ne_true
 | str i=>
  obtain ⟨t,rfl⟩:=rx
  cases y with
  | non=>cases ry; exact PySem.EqNone.ne_str_none (aP I q (by simp))
  | bl j=>cases ry; exact PySem.EqMixed.ne_str_bool (aP I q (by simp))
  | int j=>obtain ⟨t',rfl⟩:=ry; exact PySem.EqMixed.ne_str_int (aP I q (by simp))
  | str j=>obtain ⟨t',rfl⟩:=ry; exact ne_str (aP I q (congrArg not rS))
  | _=>exact absurd (show false=true from hs) Bool.false_ne_true
 | byt i=>
  obtain ⟨t,rfl⟩:=rx
  cases y with
  | byt j=>obtain ⟨t',rfl⟩:=ry; exact PySem.W.ne_bytes (aP I q (congrArg not rT))
  | _=>exact absurd (show false=true from hs) Bool.false_ne_true
 | _=>cases y <;> exact absurd (show false=true from hs) Bool.false_ne_true
theorem yk:OpR X (compareOp .Lt) (rI0 fun i j=>.bl (decide (i < j))):=sm fun _ _ _ _ _ _ _ q=>lt_int q
theorem yl:OpR X (compareOp .LtE) (rI0 fun i j=>.bl (decide (i≤j))):=sm fun _ _ _ _ _ _ _ q=>le_int q
theorem yn:OpR X (compareOp .Gt) (rI0 fun i j=>.bl (decide (j < i))):=sm fun _ _ _ _ _ _ _ q=>gt_int q
theorem yo:OpR X (compareOp .GtE) (rI0 fun i j=>.bl (decide (j≤i))):=sm fun _ _ _ _ _ _ _ q=>ge_int q
theorem tZ:OpR X (compareOp .In) (fun x y H Q=>∃ i j,x=.str i∧y=.str j∧Q (.bl (!(Builtin.Str.occurrences j i 0 j.length 1).isEmpty)) H):=by
 intro pins s σ H x y v u Q I rx ry h
 obtain ⟨i,j,rfl,rfl,q⟩:=h
 obtain ⟨t,rfl⟩:=rx
 obtain ⟨t',rfl⟩:=ry
 exact in_str (aP I q rfl)
theorem xy:OpR X (compareOp .Is) (fun x y H Q=>y=.non∧Q (.bl (decide (x=.non))) H):=by
 intro pins s σ H x y v u Q I rx ry h
 obtain ⟨rfl,q⟩:=h
 cases ry
 refine is_none_gen (aP I q ?_)
 cases x <;> first
  | (cases rx; rfl)
  | (obtain ⟨t,rfl⟩:=rx; rfl)
theorem aj (b:Expr) {op:CmpOp} (h:op≠.In:=by decide) (h2:op≠.NotIn:=by decide):behindInMarks op b=false:=by
 have e1:(op==CmpOp.In)=false:=by cases op <;> first | rfl | exact absurd rfl h
 have e2:(op==CmpOp.NotIn)=false:=by cases op <;> first | rfl | exact absurd rfl h2
 cases b <;> simp [behindInMarks,e1,e2]
theorem aG {op:CmpOp} {r:R2} (ho:OpR X (compareOp op) r) (ha:PE X a ta) (hb:PE X b tb) (hm:behindInMarks op b=false):PE X (.Compare a [op] [b] pos) (tOp r ta tb):=by
 intro pins s σ H Q I h
 exact wpAny_Compare1 (binT ha hb I h fun v u s2 x y H2 I2 rx ry q=>ho pins s2 σ H2 x y v u Q I2 rx ry q) hm
def tTest (t:TE):TT:=fun σ H Q=>t σ H fun x H'=>∃ k,x=.bl k∧Q k H'
theorem ao {op:CmpOp} {r:R2} (ho:OpR X (compareOp op) r) (ha:PE X a ta) (hb:PE X b tb) (hm:behindInMarks op b=false):PT X (.Compare a [op] [b] pos) (tTest (tOp r ta tb)):=by
 intro pins s σ H Q I h
 refine wpAny_isTrue_Compare1 (thn (ha pins s σ H _ I h) fun v s1 ⟨x,H1,I1,r1,q1⟩=>thn (hb pins s1 σ H1 _ I1 q1) fun u s2 ⟨y,H2,I2,r2,q2⟩=>
  thn (ho pins s2 σ H2 x y v u _ I2 r1 r2 q2) fun c s3 ⟨z,H3,I3,r3,k,e,q3⟩=>?_) hm
 subst e
 cases r3
 exact wpAny_truthy_bool ⟨H3,I3,q3⟩
theorem kP:(sizeLine:Nat) < 2^63:=by rw [sizeLine_eq]; decide
theorem su:OpR X (binaryOp .Add) (fun x y H Q=>∃ i j,x=.str i∧y=.str j∧i.length+j.length≤sizeLine∧Q (.str (i++j)) H):=by
 intro pins s σ H x y v u Q I rx ry h
 obtain ⟨i,j,rfl,rfl,hz,q⟩:=h
 obtain ⟨t,rfl⟩:=rx
 obtain ⟨t',rfl⟩:=ry
 exact add_str (fun t' tk=>⟨.str (i++j),H,I.tok _,⟨_,rfl⟩,q⟩) hz
theorem dP {x:V} {us:List Value} (r:Vals [x] us):∃ u,us=[u]∧RelV x u:=by
 cases r with
 | cons r1 r2=>cases r2; exact ⟨_,rfl,r1⟩
theorem wg {x y:V} {us:List Value} (r:Vals [x,y] us):∃ u w',us=[u,w']∧RelV x u∧RelV y w':=by
 cases r with
 | cons r1 r2=>
  cases r2 with
  | cons r3 r4=>cases r4; exact ⟨_,_,rfl,r1,r3⟩
theorem ua (hc:X.calm=true):CallR X (.builtin "min") (fun xs H Q=>∃ i j,xs=[.int i,.int j]∧Q (.int (if j < i then j else i)) H):=by
 intro pins s σ H xs us Q I r h
 obtain ⟨i,j,rfl,q⟩:=h
 obtain ⟨u,w',rfl,⟨t,rfl⟩,⟨t',rfl⟩⟩:=wg r
 refine min_two_ints (I.ok.hd hc) fun h' tk k=>⟨_,H,I.kept k,?_,q⟩
 by_cases hj:j < i
 · rw [if_pos hj,if_pos hj]; exact ⟨_,rfl⟩
 · rw [if_neg hj,if_neg hj]; exact ⟨_,rfl⟩
theorem oY:CallR X (.type "int") (fun xs H Q=>(∃ i,xs=[.int i]∧Q (.int i) H)∨∃ k,xs=[.bl k]∧Q (.int (if k then 1 else 0)) H):=by
 intro pins s σ H xs us Q I r h
 rcases h with ⟨i,rfl,q⟩ | ⟨k,rfl,q⟩
 · obtain ⟨u,rfl,t,rfl⟩:=dP r
   exact call_int_int ⟨.int i,H,I,⟨_,rfl⟩,q⟩
 · obtain ⟨u,rfl,r1⟩:=dP r
   cases r1
   exact call_int_bool ⟨.int (if k then 1 else 0),H,I.tok _,⟨_,rfl⟩,q⟩
end
end L2
namespace L2
open PySem PySem.Spec PyProof.Rows
structure ObjM (h:Heap) (x dx C:Addr) (mA:Str→Option Value):Prop where
 obj:h.get? x=some (PySem.W.instObj C dx)
 ns:h.Ns1 dx mA
 ne:dx≠x
theorem ub {h:Heap} {dx:Addr} {mA:Str→Option Value} (n:h.Ns1 dx mA):∃ od,h.get? dx=some od∧∀ name,PySem.W.lookIn name od=some (mA name):=by
 obtain ⟨o,es,ep,ho,hd,hk,_,hm⟩:=n
 refine ⟨o,ho,fun name=>?_⟩
 have e:=hm name
 unfold nsFind findBy at e
 rw [← Array.find?_toList] at e
 unfold PySem.W.lookIn
 rw [hd]
 dsimp only
 split
 · rename_i y q
   rw [q] at e
   exact congrArg some e
 · rename_i q
   rw [q] at e
   have a:es.toList.any (·.refKey)=false:=by
    rw [List.any_eq_false]
    intro y hy
    obtain ⟨z,t,hkey⟩:=hk y (Array.mem_toList_iff.mp hy)
    simp [DictEntry.refKey,hkey]
   have a':¬ es.toList.any (·.refKey)=true:=by rw [a]; exact Bool.false_ne_true
   rw [if_neg a']
   exact congrArg some e
theorem ObjM.look {h:Heap} {x dx C:Addr} {mA:Str→Option Value} (I:ObjM h x dx C mA):∃ od,PySem.W.InstAt h x (PySem.W.instObj C dx) C (some od)∧∀ name,PySem.W.lookIn name od=some (mA name):=
 let ⟨od,ho,hl⟩:=ub I.ns
 ⟨od,⟨I.obj,rfl,rfl,ho⟩,hl⟩
section
variable {prog:Program} {w:World} {A:Around} {E:Value→Shared→Prop} {s:Shared} {K:PySem.W.Frag} {x dx C f:Addr} {mA:Str→Option Value} {name:Str} {v:Value}
theorem wv {expr:Bool} {Q:Value→Shared→Prop} (X:K.In s.heap) (I:ObjM s.heap x dx C mA) (hg:PySem.W.plainGet K C name=true) (hh:PySem.W.hasDictIn K C=true)
  (ha:PySem.W.findIn K (.ref C) name=some none) (hv:mA name=some v) (hv':PySem.W.handedIn v=true) (h:Q v { s with toks:=s.toks+1 }):
  wpAny (model prog w) A (getAttr (.ref x) name expr) Q E s:=by
 obtain ⟨od,J,hl⟩:=I.look
 exact PySem.W.get_value X J (PySem.W.plainGet_of hg).1 (PySem.W.findObj_own hh ha rfl (by rw [hl,hv])) hv' h
theorem vt {pl:Sem Bool} {Q:Value × List Value→Shared→Prop} (X:K.In s.heap) (I:ObjM s.heap x dx C mA) (hg:PySem.W.plainGet K C name=true)
  (hf:PySem.W.findIn K (.ref C) name=some (some (.ref f))) (ht:PySem.W.isFn K (.ref f)=true) (hv:mA name=none) (h:Q (.ref f,[.ref x]) s):
  wpAny (model prog w) A (getMethod (.ref x) name pl) Q E s:=by
 obtain ⟨od,J,hl⟩:=I.look
 exact PySem.W.method_fn X J (PySem.W.plainGet_of hg).1 (PySem.W.plainGet_of hg).2 hf (beq_iff_eq.mp ht) (by show (PySem.W.lookIn name od).map (·.isSome)=some false; rw [hl,hv]; rfl) h
theorem ww {ns:List Str} {Q:Unit→Shared→Prop} (X:K.In s.heap) (I:ObjM s.heap x dx C mA)
  (hs:PySem.W.findIn K (.ref C) "__setattr__"=some (some (.builtin "object.__setattr__"))) (hp:PySem.W.plainOver K C=true) (ht:PySem.W.takerIn K C name=some none) (hh:PySem.W.hasDictIn K C=true)
  (hw:PySem.Within mA ns) (hsz:ns.length≤sizeLine)
  (h:∀ h',ObjM h' x dx C (fun y=>if y=name then some v else mA y)→Heap.SameBut dx s.heap h'→Q () { s with heap:=h',toks:=s.toks+2 }):
  wpAny (model prog w) A (setAttr (.ref x) name v) Q E s:=by
 obtain ⟨od,J,hl⟩:=I.look
 refine PySem.W.set_plain X J hs (PySem.W.osa_open (s:={ s with toks:=s.toks+1 }) (r:=none) X J hp ht fun b=>?_)
 obtain ⟨cd,hc,hd'⟩:=PySem.W.any_some hh
 have hx:s.heap.get? x=some ⟨.ref C,some dx,.plain,#[]⟩:=I.obj
 refine wpAny_bind (wpAny_pure (wpAny_bind (wpAny_bind (wpAny_loadPart hx (wpAny_bind (PySem.W.Looks.here (s:={ s with toks:=s.toks+1 }) (PySem.W.looks_clsIn X hc) ?_))))))
 rw [hd']
 refine wpAny_pure (a:=some dx) (wpAny_bind (wpAny_pure (wpAny_bind ?_)))
 refine wpAny_nsSet1 (s:={ s with toks:=s.toks+1 }) I.ns fun h' hn2 hs2=>?_
 obtain ⟨oD,esD,epD,hoD,hdD,hcD⟩:=hn2.count (PySem.Within.cons name v hw)
 refine wpAny_bind (wpAny_lookBehind hoD (by rw [hdD]; exact pastItsLine_dict (Nat.le_trans hcD (by rw [List.length_cons]; omega))) ?_)
 exact wpAny_pure (h _ ⟨(hs2.2 _ (Ne.symm I.ne)).trans I.obj,hn2,I.ne⟩ hs2)
theorem vv {R:Result→Shared→Prop} {vs:List Value} {kw:List (Str × Value)} (X:K.In s.heap) (hm:PySem.W.makesIn K C=true)
  (hi:PySem.W.findIn K (.ref C) "__init__"=some (some (.ref f))) (hf:PySem.W.typeIn K (.ref f)=some (.type "function"))
  (h:codeAny (model prog w) (A.under (.builtin "type.__call__" ⟨.ref C::vs,kw⟩)) (.call (.ref f) ⟨.ref (s.heap.objs.size+1)::vs,kw⟩) (PySem.W.InitBack (s.heap.objs.size+1) R)
   { s with heap:=(s.heap.push PySem.W.emptyDict).push (PySem.W.instObj C s.heap.objs.size) }):
  codeAny (model prog w) A (.call (.ref C) ⟨vs,kw⟩) R s:=by
 obtain ⟨hh,g,d,t,os⟩:=s
 exact PySem.W.make_core (PySem.W.makes_of X hm) (PySem.W.looks_findIn X hi) (fun self=>PySem.W.bind_fn X self hf) (.inl rfl) h
end
def putF (f:Str) (v:V):List (Str × V)→List (Str × V)
 | []=>[(f,v)]
 | (g,x)::r=>if g=f then (g,v)::r else (g,x)::putF f v r
theorem ma (f g:Str) (v:V):∀ fs:List (Str × V),(putF f v fs).lookup g=if g=f then some v else fs.lookup g
 | []=>by
  show List.lookup g [(f,v)]=_
  by_cases h:g=f
  · have hb:(g==f)=true:=beq_iff_eq.mpr h
    simp only [List.lookup,hb,if_pos h]
  · have hb:(g==f)=false:=beq_eq_false_iff_ne.mpr h
    simp only [List.lookup,hb,if_neg h]
 | (k,x)::r=>by
  have ih:=ma f g v r
  rw [show putF f v ((k,x)::r)=(if k=f then (k,v)::r else (k,x)::putF f v r) from rfl]
  by_cases hk:k=f
  · rw [if_pos hk]
    by_cases h:g=k
    · have hb:(g==k)=true:=beq_iff_eq.mpr h
      simp only [List.lookup,hb,if_pos (h.trans hk)]
    · have hb:(g==k)=false:=beq_eq_false_iff_ne.mpr h
      simp only [List.lookup,hb,if_neg (fun e:g=f=>h (e.trans hk.symm))]
  · rw [if_neg hk]
    by_cases h:g=k
    · have hb:(g==k)=true:=beq_iff_eq.mpr h
      simp only [List.lookup,hb,if_neg (fun e:g=f=>hk (h.symm.trans e))]
    · have hb:(g==k)=false:=beq_eq_false_iff_ne.mpr h
      simp only [List.lookup,hb]
      exact ih
theorem kQ (f:Str) (v:V):∀ fs:List (Str × V),f∈(putF f v fs).map (·.1)∧∀ g,g∈fs.map (·.1)→g∈(putF f v fs).map (·.1)
 | []=>⟨by simp [putF],fun g h=>by simp at h⟩
 | (k,x)::r=>by
  obtain ⟨i1,i2⟩:=kQ f v r
  rw [show putF f v ((k,x)::r)=(if k=f then (k,v)::r else (k,x)::putF f v r) from rfl]
  by_cases hk:k=f
  · rw [if_pos hk]
    subst hk
    exact ⟨by simp,fun g h=>by simpa using h⟩
  · rw [if_neg hk]
    refine ⟨?_,fun g h=>?_⟩
    · rw [List.map_cons]
      exact List.mem_cons_of_mem _ i1
    · rw [List.map_cons] at h ⊢
      rcases List.mem_cons.mp h with e | e
      · exact List.mem_cons.mpr (.inl e)
      · exact List.mem_cons_of_mem _ (i2 g e)
theorem md (f:Str) (v:V):∀ fs:List (Str × V),(putF f v fs).length≤fs.length+1
 | []=>by simp [putF]
 | (k,x)::r=>by
  have ih:=md f v r
  rw [show putF f v ((k,x)::r)=(if k=f then (k,v)::r else (k,x)::putF f v r) from rfl]
  by_cases hk:k=f
  · rw [if_pos hk,List.length_cons,List.length_cons]; omega
  · rw [if_neg hk,List.length_cons,List.length_cons]; omega
theorem RelO.some_of {v:V} {o:Option Value} (r:RelO (some v) o):∃ u,o=some u∧RelV v u:=by
 cases o with
 | none=>exact (show False from r).elim
 | some u=>exact ⟨u,rfl,r⟩
theorem RelO.none_of {o:Option Value} (r:RelO none o):o=none:=by
 cases o with
 | none=>rfl
 | some u=>exact (show False from r).elim
theorem uc {v:V} {u:Value} (r:RelV v u):PySem.W.handedIn u=true:=by
 cases v with
 | non=>cases (show u=Value.none from r); rfl
 | bl b=>cases (show u=Value.bool b from r); rfl
 | int i=>obtain ⟨t,e⟩:=(show ∃ t,u=Value.int i t from r); cases e; rfl
 | str x=>obtain ⟨t,e⟩:=(show ∃ t,u=Value.str x t from r); cases e; rfl
 | byt b=>obtain ⟨t,e⟩:=(show ∃ t,u=Value.bytes b t from r); cases e; rfl
 | flt b=>obtain ⟨t,e⟩:=(show ∃ t,u=Value.float b t from r); cases e; rfl
 | ref a=>cases (show u=Value.ref a from r); rfl
 | ty n=>cases (show u=Value.type n from r); rfl
section
variable {P:Program} {w:World} {H H':Hp} {h h':Heap} {a C dx:Addr} {fs fs':List (Str × V)}
theorem lJ (hok:HOk P w H h) (e:H a=some (.ins C dx fs)):∃ mA,ObjM h a dx C mA∧(∀ f,RelO (fs.lookup f) (mA f))∧PySem.Within mA (fs.map (·.1))∧fs.length≤1000∧H dx=some (.own a):=by
 obtain ⟨d,z,ne,ob,mA,n,r,q⟩:=(show ObjOk P w H h a (.ins C dx fs) from hok a _ e)
 exact ⟨mA,⟨ob,n,ne⟩,r,q,z,d⟩
end
structure Cls (K:PySem.W.Frag) (C:Addr):Prop where
 pg:PySem.W.plainGet K C Str.empty=true
 hd:PySem.W.hasDictIn K C=true
 po:PySem.W.plainOver K C=true
 sa:PySem.W.findIn K (.ref C) "__setattr__"=some (some (.builtin "object.__setattr__"))
theorem Cls.get {K:PySem.W.Frag} {C:Addr} (c:Cls K C) (f:Str):PySem.W.plainGet K C f=true:=c.pg
def NoAttr (K:PySem.W.Frag) (C:Addr) (f:Str):Prop:=PySem.W.findIn K (.ref C) f=some none
theorem NoAttr.taker {K:PySem.W.Frag} {C:Addr} {f:Str} (n:NoAttr K C f):PySem.W.takerIn K C f=some none:=by
 unfold PySem.W.takerIn
 rw [show PySem.W.findIn K (.ref C) f=some none from n]
 rfl
structure Meth (K:PySem.W.Frag) (C:Addr) (m:Str) (f:Addr):Prop where
 at_:PySem.W.findIn K (.ref C) m=some (some (.ref f))
 fn:PySem.W.isFn K (.ref f)=true
 kp:PySem.W.keepIn K (.ref f)=true
section
variable {X:Cx} {pins:List (Addr × Obj)} {σ:St} {H:Hp} {s:Shared} {a C dx:Addr} {fs:List (Str × V)} {f:Str} {v:V} {A:Around} {E:Value→Shared→Prop}
theorem sw {b:Bool} {Q:Value→Shared→Prop} (I:Inv X pins σ H s) (e:H a=some (.ins C dx fs)) (c:Cls X.K C) (n:NoAttr X.K C f) (l:fs.lookup f=some v)
  (h:∀ u s',Inv X pins σ H s'→RelV v u→Q u s'):wpAny (model X.prog X.w) A (getAttr (.ref a) f b) Q E s:=by
 obtain ⟨mA,O,r,_,_,_⟩:=lJ I.hok e
 obtain ⟨u,hu,ru⟩:=RelO.some_of (v:=v) (o:=mA f) (by rw [← l]; exact r f)
 exact wv I.kIn O (c.get f) c.hd n hu (uc ru) (h u _ (I.tok _) ru)
theorem sx {m:Str} {g:Addr} {pl:Sem Bool} {Q:Value × List Value→Shared→Prop} (I:Inv X pins σ H s) (e:H a=some (.ins C dx fs)) (c:Cls X.K C) (k:Meth X.K C m g) (l:fs.lookup m=none)
  (h:Q (.ref g,[.ref a]) s):wpAny (model X.prog X.w) A (getMethod (.ref a) m pl) Q E s:=by
 obtain ⟨mA,O,r,_,_,_⟩:=lJ I.hok e
 have hn:mA m=none:=RelO.none_of (by rw [← l]; exact r m)
 exact vt I.kIn O (c.get m) k.at_ k.fn hn h
theorem sy {y:V} {u:Value} {Q:Unit→Shared→Prop} (I:Inv X pins σ H s) (e:H a=some (.ins C dx fs)) (c:Cls X.K C) (n:NoAttr X.K C f) (hl:fs.length < 1000) (ry:RelV y u)
  (h:∀ s',Inv X pins σ (upd H a (.ins C dx (putF f y fs))) s'→Q () s'):wpAny (model X.prog X.w) A (setAttr (.ref a) f u) Q E s:=by
 obtain ⟨mA,O,r,wi,_,ho⟩:=lJ I.hok e
 have hz:(fs.map (·.1)).length≤sizeLine:=by rw [List.length_map,sizeLine_eq]; omega
 refine ww I.kIn O c.sa c.po n.taker c.hd wi hz fun h' O' sb=>h _ ?_
 have hd:∃ o,h'.get? dx=some o:=let ⟨o,_,_,e',_⟩:=O'.ns; ⟨o,e'⟩
 refine I.write (x:=a) (e:=dx) (by rw [e]; exact True.intro) (.inr ho) (fun b q hb z=>(sb.2 b hb).trans z) hd ?_
 refine ⟨by rw [aq O.ne]; exact ho,?_,O.ne,O'.obj,_,O'.ns,fun g=>?_,fun g hg=>?_⟩
 · have:=md f y fs; omega
 · show RelO ((putF f y fs).lookup g) (if g=f then some u else mA g)
   rw [ma]
   by_cases q:g=f
   · rw [if_pos q,if_pos q]; exact ry
   · rw [if_neg q,if_neg q]; exact r g
 · by_cases q:g=f
   · rw [q]; exact (kQ f y fs).1
   · refine (kQ f y fs).2 g (wi g fun z=>hg ?_)
     show (if g=f then some u else mA g)=none
     rw [if_neg q]; exact z
theorem Inv.made (I:Inv X pins σ H s):Inv X pins σ (upd (upd H s.heap.objs.size (.own (s.heap.objs.size+1))) (s.heap.objs.size+1) (.ins C s.heap.objs.size []))
  { s with heap:=(s.heap.push PySem.W.emptyDict).push (PySem.W.instObj C s.heap.objs.size) }:=by
 have e1:(s.heap.push PySem.W.emptyDict).get? s.heap.objs.size=some PySem.W.emptyDict:=Heap.get?_push_size s.heap rfl
 have e2:((s.heap.push PySem.W.emptyDict).push (PySem.W.instObj C s.heap.objs.size)).get? (s.heap.objs.size+1)=some (PySem.W.instObj C s.heap.objs.size):=by
  have:=Heap.get?_push_size (s.heap.push PySem.W.emptyDict) (o:=PySem.W.instObj C s.heap.objs.size) rfl
  rwa [Heap.size_push] at this
 have e3:(s.heap.push PySem.W.emptyDict).Ns s.heap.objs.size (fun _=>none):=⟨PySem.W.emptyDict,#[],_,e1,rfl,(fun e he=>absurd he (by simp)),fun _=>rfl⟩
 have I1:=I.laid (a:=s.heap.objs.size) (o:=.own (s.heap.objs.size+1)) (h':=s.heap.push PySem.W.emptyDict) (t':=s.toks) (fun b u q=>Heap.get?_push_of_some _ q) (Nat.le_refl _) ⟨_,e1⟩
 refine I1.laid (a:=s.heap.objs.size+1) (o:=.ins C s.heap.objs.size []) (t':=s.toks) (fun b u q=>Heap.get?_push_of_some _ q) (Nat.le_of_eq (Heap.size_push _ _)) ?_
 have ne:s.heap.objs.size≠s.heap.objs.size+1:=Nat.ne_of_lt (Nat.lt_succ_self _)
 refine ⟨by rw [aq ne,ag],Nat.zero_le _,ne,e2,fun _=>none,(Heap.Ns1.of_empty e3).at fun o q=>Heap.get?_push_of_some _ q,fun _=>True.intro,fun y hy=>absurd rfl hy⟩
theorem wx {prog:Program} {w:World} {env:Env} {e:Expr} {f:Str} {pos:Pos} {s:Shared} {Q:Value→Shared→Prop} (hb:attributeBase e f env (eval e env)=eval e env)
  (h:wpAny (model prog w) A (eval e env) (fun o s₁=>wpAny (model prog w) A (getAttr o f true) Q E s₁) E s):wpAny (model prog w) A (eval (.Attribute e f pos) env) Q E s:=
 Attribute_any_ h (by rw [arm_eval_Attribute,hb])
end
section
variable {X:Cx} {o e value:Expr} {f:Str} {pos pos' tpos:Pos} {ta tv:TE}
end
section
variable {X:Cx} {pins:List (Addr × Obj)} {σ:St} {H:Hp} {s:Shared} {A:Around} {E:Value→Shared→Prop} {Q:Value→Shared→Prop} {c:Value} {b:Bool}
inductive TyOf (K:PySem.W.Frag) (H:Hp):V→Value→Prop where
 | non:TyOf K H .non (.type "NoneType")
 | bl (x:Bool):TyOf K H (.bl x) (.type "bool")
 | int (i:Int):TyOf K H (.int i) (.type "int")
 | str (x:Str):TyOf K H (.str x) (.type "str")
 | flt (x:UInt64):TyOf K H (.flt x) (.type "float")
 | lst {a:Addr} {xs:List V} (e:H a=some (.lst xs)):TyOf K H (.ref a) (.type "list")
 | frz {a:Addr} {o:Obj} {xs:List V} (e:H a=some (.frz o (.lst xs))):TyOf K H (.ref a) (.type "list")
 | tup {a:Addr} {xs:List V} (e:H a=some (.tup xs)):TyOf K H (.ref a) (.type "tuple")
 | dK {a:Addr} {kvs:List (Key × V)} (e:H a=some (.dK kvs)):TyOf K H (.ref a) (.type "dict")
 | dT {a:Addr} {kvs:List (List Key × V)} (e:H a=some (.dT kvs)):TyOf K H (.ref a) (.type "dict")
 | ins {a C dx:Addr} {fs:List (Str × V)} (e:H a=some (.ins C dx fs)) (cl:Cls K C) (ha:PySem.W.findIn K (.ref C) "__class__"=some (some (.builtin "object.__class__")))
   (hn:PySem.W.specialIn K (.builtin "object.__class__") "__get__"=some (some (.builtin "getset_descriptor.__get__"))) (htk:PySem.W.takesIn K (.builtin "object.__class__")=some true)
   (hm:PySem.W.mroIn K C (.type "object")=some true):TyOf K H (.ref a) (.ref C)
theorem ud {x:V} {u t:Value} (I:Inv X pins σ H s) (rx:RelV x u) (ty:TyOf X.K H x t) (e:PySem.W.kitOne X.K t c=some b) (h:∀ tk,Q (.bool b) { s with toks:=tk }):
  wpAny (model X.prog X.w) A (call (.builtin "isinstance") [u,c]) Q E s:=by
 cases ty with
 | non=>cases (show u=Value.none from rx); exact PySem.W.kia_one PySem.W.kitx_none I.kIn True.intro e (fun z=>nomatch z) h
 | bl y=>cases (show u=Value.bool y from rx); exact PySem.W.kia_one PySem.W.kitx_bool I.kIn True.intro e (fun z=>nomatch z) h
 | int i=>obtain ⟨t,q⟩:=(show ∃ t,u=Value.int i t from rx); cases q; exact PySem.W.kia_one PySem.W.kitx_int I.kIn True.intro e (fun z=>nomatch z) h
 | str y=>obtain ⟨t,q⟩:=(show ∃ t,u=Value.str y t from rx); cases q; exact PySem.W.kia_one PySem.W.kitx_str I.kIn True.intro e (fun z=>nomatch z) h
 | flt y=>obtain ⟨t,q⟩:=(show ∃ t,u=Value.float y t from rx); cases q; exact PySem.W.kia_one PySem.W.kitx_float I.kIn True.intro e (fun z=>nomatch z) h
 | @lst a xs ea=>
  cases (show u=Value.ref a from rx)
  obtain ⟨_,_,n,_,h1⟩:=(show ObjOk X.prog X.w H s.heap a (.lst xs) from I.hok a _ ea)
  exact PySem.W.kia_one PySem.W.kitx_list I.kIn ⟨_,h1,rfl⟩ e (fun z=>nomatch z) h
 | @frz a ob xs ea=>
  cases (show u=Value.ref a from rx)
  obtain ⟨_,_,_,n,_,h1⟩:=(show ObjOk X.prog X.w H s.heap a (.frz ob (.lst xs)) from I.hok a _ ea)
  exact PySem.W.kia_one PySem.W.kitx_list I.kIn ⟨_,h1,rfl⟩ e (fun z=>nomatch z) h
 | @tup a xs ea=>
  cases (show u=Value.ref a from rx)
  obtain ⟨_,_,_,p⟩:=(show ObjOk X.prog X.w H s.heap a (.tup xs) from I.hok a _ ea)
  obtain ⟨o,h1,h2,_⟩:=p
  exact PySem.W.kia_one PySem.W.kitx_tuple I.kIn ⟨o,h1,h2⟩ e (fun z=>nomatch z) h
 | @dK a kvs ea=>
  cases (show u=Value.ref a from rx)
  obtain ⟨_,_,vs,_,p⟩:=(show ObjOk X.prog X.w H s.heap a (.dK kvs) from I.hok a _ ea)
  obtain ⟨o,es,ep,h1,h2,_⟩:=p
  exact PySem.W.kia_one PySem.W.kitx_dict I.kIn ⟨o,h1,h2.1⟩ e (fun z=>nomatch z) h
 | @dT a kvs ea=>
  cases (show u=Value.ref a from rx)
  obtain ⟨_,_,xs,_,o,es,ep,h1,h2,_⟩:=(show ObjOk X.prog X.w H s.heap a (.dT kvs) from I.hok a _ ea)
  exact PySem.W.kia_one PySem.W.kitx_dict I.kIn ⟨o,h1,h2.1⟩ e (fun z=>nomatch z) h
 | @ins a C dx fs ea cl ha hn htk hm=>
  cases (show u=Value.ref a from rx)
  obtain ⟨mA,O,_⟩:=lJ I.hok ea
  obtain ⟨od,J,_⟩:=O.look
  exact PySem.W.kia_one (PySem.W.kitx_own (cl.get _) cl.hd ha hn htk hm) I.kIn J e (fun z=>nomatch z) h
end
end L2
namespace L2
open PySem PySem.Spec PyProof.Rows
structure Room (k:Nat) (A:Around):Prop where
 hd:A.handled=none
 dp:A.depth+3*k+5 < recursionLimit
 un:A.units+16*k+200 < cLine
theorem Room.mono {j k:Nat} {A:Around} (r:Room k A) (h:j≤k):Room j A:=⟨r.hd,by have:=r.dp; omega,by have:=r.un; omega⟩
theorem Room.deeper {k:Nat} {A:Around} (r:Room (k+1) A) (env:Env):Room k (A.deeper env):=
 ⟨r.hd,by have:=r.dp; show A.depth+1+3*k+5 < _; omega,by have:=r.un; show A.units+3+16*k+200 < _; omega⟩
theorem sA {A:Around} {C:Addr} {us:List Value} {kw:List (Str × Value)}:(A.under (.builtin "type.__call__" ⟨.ref C::us,kw⟩)).depth=A.depth+1:=by
 first | rfl | simp [Around.under,Code.weight,Code.isCreation,Code.isGuard,Code.isCaller,Code.frames,Code.isFrame,guardIds]
theorem sB {A:Around} {C:Addr} {us:List Value} {kw:List (Str × Value)}:(A.under (.builtin "type.__call__" ⟨.ref C::us,kw⟩)).units=A.units+1:=by
 first | rfl | simp [Around.under,Code.cUnits,Code.frames,Code.isFrame]
theorem Room.make {k:Nat} {A:Around} (r:Room (k+1) A) (C:Addr) (us:List Value) (kw:List (Str × Value)):Room k (A.under (.builtin "type.__call__" ⟨.ref C::us,kw⟩)):=
 ⟨r.hd,by have:=r.dp; rw [sA]; omega,by have:=r.un; rw [sB]; omega⟩
theorem Room.depth {k:Nat} {A:Around} (r:Room k A):A.depth < recursionLimit:=by have:=r.dp; omega
theorem Room.units {k:Nat} {A:Around} (r:Room k A):A.units+64 < cLine:=by have:=r.un; omega
def tNil:TA:=fun _ H Q=>Q [] H
def tCons (ta:TE) (tr:TA):TA:=fun σ H Q=>ta σ H fun x H1=>tr σ H1 fun xs H2=>Q (x::xs) H2
section
variable {X:Cx} {e:Expr} {es:List Expr} {te:TE} {t:TA} {pos:Pos}
theorem ad:PA X [] tNil:=fun _ _ _ _ H Q I h=>Calls.spliced_nil ⟨[],H,I,.nil,h⟩
theorem ab (ha:PE X e te) (hr:PA X es t) (hs:starEach (e::es) X.env=(false,eval e X.env)::starEach es X.env:=by rfl):PA X (e::es) (tCons te t):=by
 intro pos pins s σ H Q I h
 rw [hs]
 show wpAny _ _ (spliced ((false,eval e X.env)::backTo pos (starEach es X.env))) _ _ s
 refine Calls.spliced_cons (thn (ha pins s σ H _ I h) fun u s1 ⟨x,H1,I1,r1,q1⟩=>?_)
 exact thn (hr pos pins s1 σ H1 _ I1 q1) fun us s2 ⟨xs,H2,I2,r2,q2⟩=>⟨x::xs,H2,I2,.cons r1 r2,q2⟩
def tTup (t:TA):TE:=fun σ H Q=>t σ H fun xs H1=>xs.length≤sizeLine∧∀ p,H1 p=none→Q (.ref p) (upd H1 p (.tup xs))
def tLst (t:TA):TE:=fun σ H Q=>t σ H fun xs H1=>xs.length≤sizeLine∧∀ p,H1 p=none→Q (.ref p) (upd H1 p (.lst xs))
theorem cE {x1} (h:PA X es t):PE X (.Tuple es x1 pos) (tTup t):=by
 intro pins s σ H Q I hq
 refine wpAny_Tuple_spliced (thn (h pos pins s σ H _ I hq) fun us s1 ⟨xs,H1,I1,r,z,q⟩=>⟨by rw [← r.length]; exact z,?_⟩)
 have hf:H1 s1.heap.objs.size=none:=I1.hok.fresh (Nat.le_refl _)
 refine ⟨.ref s1.heap.objs.size,upd H1 s1.heap.objs.size (.tup xs),I1.laid (t':=s1.toks) (fun b u e=>Heap.get?_push_of_some _ e) (Nat.le_refl _) ?_,rfl,q _ hf⟩
 exact ⟨z,us,r,⟨_,Heap.get?_push_size _ rfl,rfl,_,rfl⟩⟩
theorem aK (h:PA X es t):PE X (.List es pos) (tLst t):=by
 intro pins s σ H Q I hq
 refine wpAny_List_spliced (thn (h pos pins s σ H _ I hq) fun us s1 ⟨xs,H1,I1,r,z,q⟩=>⟨by rw [← r.length]; exact z,?_⟩)
 have hf:H1 s1.heap.objs.size=none:=I1.hok.fresh (Nat.le_refl _)
 refine ⟨.ref s1.heap.objs.size,upd H1 s1.heap.objs.size (.lst xs),I1.laid (t':=s1.toks) (fun b u e=>Heap.get?_push_of_some _ e) (Nat.le_refl _) ?_,rfl,q _ hf⟩
 exact ⟨z,us,0,r,Heap.get?_push_size _ rfl⟩
end
abbrev Sp:=List V→Hp→VK→XK→Prop
abbrev CXT:=List Env→Hp→Shared→XK→Value→Shared→Prop
structure Env0 (P:Program) (w:World) (K:PySem.W.Frag) (mg:Str→Option Value) (base:Heap) (A:Around) (outer:List Env) (s:Shared) (H:Hp):Prop where
 frames:A.frames=some outer
 mod:Mod K mg base
 bs:∀ b o,base.get? b=some o→s.heap.get? b=some o∧H b=none
 bsz:base.objs.size≤s.heap.objs.size
 funs:s.heap.FunFrames base outer
 frf:∀ b∈frs outer,H b=none
 hok:HOk P w H s.heap
 bare:AllBare s.gens
def CE (outer:List Env) (P:Program) (w:World) (H:Hp) (s:Shared) (Q:VK) (u:Value) (s':Shared):Prop:=
 ∃ v H',s'.os=s.os∧AllBare s'.gens∧Un (frs outer) [] H H' s.heap s'.heap∧HOk P w H' s'.heap∧RelV v u∧Q v H'
def CR (CX:CXT) (outer:List Env) (P:Program) (w:World) (H:Hp) (s:Shared) (Q:VK) (E:XK) (r:Result) (s':Shared):Prop:=
 match r with
 | .ok (.ret u)=>CE outer P w H s Q u s'
 | .ok _=>False
 | .error e=>CX outer H s E e s'
structure FnOk (P:Program) (w:World) (K:PySem.W.Frag) (mg:Str→Option Value) (base:Heap) (CX:CXT) (k:Nat) (f:Addr) (fd:FuncData) (ps:List Str) (sp:Sp):Prop where
 len:∀ vs H Q E,sp vs H Q E→vs.length=ps.length
 run:∀ (A:Around) (outer:List Env) (s:Shared) (H:Hp) (args:Args) (us:List Value) (vs:List V) (Q:VK) (E:XK),Room k A→Env0 P w K mg base A outer s H→BindsTo s fd args (ps.zip us)→Vals vs us→sp vs H Q E→
  codeAny (model P w) A (.call (.ref f) args) (CR CX outer P w H s Q E) s
theorem FnOk.mono {P:Program} {w:World} {K:PySem.W.Frag} {mg:Str→Option Value} {base:Heap} {CX:CXT} {j k:Nat} {f:Addr} {fd:FuncData} {ps:List Str} {sp:Sp} (F:FnOk P w K mg base CX j f fd ps sp) (h:j≤k):
  FnOk P w K mg base CX k f fd ps sp:=⟨F.len,fun A outer s H args us vs Q E hr=>F.run A outer s H args us vs Q E (hr.mono h)⟩
theorem FnOk.imp {P:Program} {w:World} {K:PySem.W.Frag} {mg:Str→Option Value} {base:Heap} {CX:CXT} {k:Nat} {f:Addr} {fd:FuncData} {ps:List Str} {sp sp':Sp} (F:FnOk P w K mg base CX k f fd ps sp)
  (h:∀ vs H Q E,sp' vs H Q E→sp vs H Q E):FnOk P w K mg base CX k f fd ps sp':=
 ⟨fun vs H Q E q=>F.len vs H Q E (h _ _ _ _ q),fun A outer s H args us vs Q E hr he hb hv hs=>F.run A outer s H args us vs Q E hr he hb hv (h _ _ _ _ hs)⟩
theorem Env0.make {P:Program} {w:World} {K:PySem.W.Frag} {mg:Str→Option Value} {base:Heap} {A:Around} {outer:List Env} {s:Shared} {H:Hp} (e:Env0 P w K mg base A outer s H) (C:Addr) (us:List Value) (kw:List (Str × Value)):
  Env0 P w K mg base (A.under (.builtin "type.__call__" ⟨.ref C::us,kw⟩)) outer s H:=⟨by first | exact e.frames | (simpa [Around.under,Code.envs,Code.isFrame,pushEnvs] using e.frames),e.mod,e.bs,e.bsz,e.funs,e.frf,e.hok,e.bare⟩
section
variable {X:Cx} {pins:List (Addr × Obj)} {σ:St} {H:Hp} {s s':Shared}
theorem Inv.env0 (I:Inv X pins σ H s):Env0 X.prog X.w X.K X.mg X.base X.A X.stack s H:=
 ⟨I.ok.frames,I.ok.mod,I.bs,Nat.le_trans I.ok.bsz I.sz,I.stack,I.stkFree,I.hok,I.bare⟩
theorem Inv.after {Q:VK} {u:Value} (I:Inv X pins σ H s) (h:CE X.stack X.prog X.w H s Q u s'):EP X pins σ Q u s':=by
 obtain ⟨v,H',os,bare,un,hok,r,q⟩:=h
 obtain ⟨hh,g,d,t,os'⟩:=s'
 obtain rfl:os'=s.os:=os
 exact ⟨v,H',I.call (h':=hh) (g':=g) (d':=d) (t':=t) (ch:=[]) un hok bare (fun b z=>absurd z (by simp)),r,q⟩
end
def tCall (sp:Sp) (dvs:List V) (E:XK) (t:TA):TE:=fun σ H Q=>t σ H fun vs H1=>sp (vs++dvs) H1 Q E
def tMake (C:Addr) (sp:Sp) (dvs:List V) (E:XK) (t:TA):TE:=fun σ H Q=>t σ H fun vs H1=>∀ x dx,H1 x=none→H1 dx=none→dx≠x→
 sp (.ref x::(vs++dvs)) (upd (upd H1 dx (.own x)) x (.ins C dx [])) (fun v H2=>v=.non∧Q (.ref x) H2) E
def Binds (K:PySem.W.Frag) (fd:FuncData) (ps:List Str) (ds:List Value):Prop:=
 ∀ (s:Shared) (us:List Value),K.In s.heap→(us++ds).length=ps.length→BindsTo s fd ⟨us,[]⟩ (ps.zip (us++ds))
theorem Binds.all {K:PySem.W.Frag} {fd:FuncData} {ps:List Str} (h:∀ us:List Value,us.length=ps.length→bindArgs fd ⟨us,[]⟩=pure (ps.zip us)):Binds K fd ps []:=fun s us _ hl=>by
 rw [List.append_nil] at hl ⊢
 exact .of_eq (h us hl)
def kR (CX:CXT) (X:Cx) (E:XK):Prop:=∀ (pins:List (Addr × Obj)) (σ:St) (H:Hp) (s:Shared) (e:Value) (s':Shared),Inv X pins σ H s→CX X.stack H s E e s'→X.xe e s'
section
variable {X:Cx} {CX:CXT} {k:Nat} {f C:Addr} {fd:FuncData} {ps:List Str} {sp:Sp} {dvs:List V} {ds:List Value} {E:XK} {x m:Str} {p pos apos:Pos} {e o:Expr} {es:List Expr} {ta:TE} {t:TA}
theorem ue {pins:List (Addr × Obj)} {σ:St} {H:Hp} {s:Shared} {Q:VK} {us:List Value} {vs:List V} (F:FnOk X.prog X.w X.K X.mg X.base CX k f fd ps sp) (hr:Room k X.A) (hb:Binds X.K fd ps ds) (hd:Vals dvs ds) (hx:kR CX X E)
  (I:Inv X pins σ H s) (r:Vals vs us) (h:sp (vs++dvs) H Q E):wpAny (model X.prog X.w) X.A (call (.ref f) us) (EP X pins σ Q) X.xe s:=by
 have r2:Vals (vs++dvs) (us++ds):=r.append hd
 have hl:(us++ds).length=ps.length:=by rw [← r2.length]; exact F.len _ _ _ _ h
 refine wpAny_call (codeAny_mono (F.run X.A X.stack s H ⟨us,[]⟩ (us++ds) (vs++dvs) Q E hr I.env0 (hb s us I.kIn hl) r2 h) fun r s' hq=>?_)
 cases r with
 | error e=>exact hx pins σ H s e s' I hq
 | ok fl=>
  cases fl with
  | ret u=>exact I.after hq
  | next=>exact False.elim hq
  | brk=>exact False.elim hq
  | cont=>exact False.elim hq
theorem wz (F:FnOk X.prog X.w X.K X.mg X.base CX k f fd ps sp) (hr:Room k X.A) (hg:Gl X x) (hm:X.mg x=some (.ref f)) (hk:PySem.W.keepIn X.K (.ref f)=true) (hb:Binds X.K fd ps ds) (hd:Vals dvs ds) (hx:kR CX X E)
  (ha:PA X (e::es) t) (hdb:(x==("__debug__":Str))=false:=by decide) (he:starEach (e::es) X.env=(false,eval e X.env)::starEach es X.env:=by rfl) (hpl:(backTo pos (starEach es X.env)).any (·.1)=false:=by rfl):
  PE X (.Call (.Name x p) (e::es) [] pos) (tCall sp dvs E t):=by
 intro pins s σ H Q I h
 refine wpAny_Call_Name_kw (oz I hg hm ?_ hdb)
 refine PySem.W.callWith_K (h₀:=X.base) I.ok.mod.kin hk (thn (ha pos pins s σ H _ I h) fun us s1 ⟨vs,H1,I1,r,q⟩=>⟨I1.kIn,?_⟩) he hpl
 exact ue F hr hb hd hx I1 r q
structure Mk (K:PySem.W.Frag) (C f:Addr):Prop where
 makes:PySem.W.makesIn K C=true
 init:PySem.W.findIn K (.ref C) "__init__"=some (some (.ref f))
 fn:PySem.W.isFn K (.ref f)=true
 kp:PySem.W.keepIn K (.ref C)=true
theorem vw {pins:List (Addr × Obj)} {σ:St} {H:Hp} {s:Shared} {Q:VK} {us:List Value} {vs:List V} (M:Mk X.K C f) (F:FnOk X.prog X.w X.K X.mg X.base CX k f fd ps sp) (hr:Room (k+1) X.A) (hb:Binds X.K fd ps ds) (hd:Vals dvs ds)
  (hx:kR CX X E) (I:Inv X pins σ H s) (r:Vals vs us)
  (h:∀ x dx,H x=none→H dx=none→dx≠x→sp (.ref x::(vs++dvs)) (upd (upd H dx (.own x)) x (.ins C dx [])) (fun v H2=>v=.non∧Q (.ref x) H2) E):
  wpAny (model X.prog X.w) X.A (call (.ref C) us) (EP X pins σ Q) X.xe s:=by
 have hq:=h (s.heap.objs.size+1) s.heap.objs.size (I.hok.fresh (Nat.le_succ _)) (I.hok.fresh (Nat.le_refl _)) (Nat.ne_of_lt (Nat.lt_succ_self _))
 have I2:=Inv.made (C:=C) I
 have r2:Vals (V.ref (s.heap.objs.size+1)::(vs++dvs)) (Value.ref (s.heap.objs.size+1)::(us++ds)):=.cons rfl (r.append hd)
 have hl:(Value.ref (s.heap.objs.size+1)::us++ds).length=ps.length:=by
  have e:=r2.length
  rw [F.len _ _ _ _ hq] at e
  exact e.symm
 refine wpAny_call (vv (f:=f) I.kIn M.makes M.init (beq_iff_eq.mp M.fn) (codeAny_mono (F.run _ X.stack _ _ ⟨Value.ref (s.heap.objs.size+1)::us,[]⟩ (Value.ref (s.heap.objs.size+1)::(us++ds)) _ _ E (hr.make C us [])
  (I2.env0.make C us []) (hb _ (Value.ref (s.heap.objs.size+1)::us) I2.kIn hl) r2 hq) fun r s' hq'=>?_))
 cases r with
 | error e=>exact hx pins σ _ _ e s' I2 hq'
 | ok fl=>
  cases fl with
  | ret u=>
   obtain ⟨v,H',I3,rv,ev,q3⟩:=I2.after hq'
   subst ev
   exact ⟨rv,⟨V.ref (s.heap.objs.size+1),H',I3,rfl,q3⟩⟩
  | next=>exact False.elim hq'
  | brk=>exact False.elim hq'
  | cont=>exact False.elim hq'
theorem wA (M:Mk X.K C f) (F:FnOk X.prog X.w X.K X.mg X.base CX k f fd ps sp) (hr:Room (k+1) X.A) (hg:Gl X x) (hm:X.mg x=some (.ref C)) (hb:Binds X.K fd ps ds) (hd:Vals dvs ds) (hx:kR CX X E)
  (ha:PA X (e::es) t) (hdb:(x==("__debug__":Str))=false:=by decide) (he:starEach (e::es) X.env=(false,eval e X.env)::starEach es X.env:=by rfl) (hpl:(backTo pos (starEach es X.env)).any (·.1)=false:=by rfl):
  PE X (.Call (.Name x p) (e::es) [] pos) (tMake C sp dvs E t):=by
 intro pins s σ H Q I h
 refine wpAny_Call_Name_kw (oz I hg hm ?_ hdb)
 refine PySem.W.callWith_K (h₀:=X.base) I.ok.mod.kin M.kp (thn (ha pos pins s σ H _ I h) fun us s1 ⟨vs,H1,I1,r,q⟩=>⟨I1.kIn,?_⟩) he hpl
 exact vw M F hr hb hd hx I1 r q
end
section
variable {X:Cx} {CX:CXT} {k:Nat} {f C:Addr} {fd:FuncData} {ps ks:List Str} {sp:Sp} {E:XK} {x m:Str} {p pos apos kpos:Pos} {e o:Expr} {es:List Expr} {kws:List Keyword} {te ta:TE} {t tk:TA} {nm:Option Str}
variable {g:List Value→List Value→List Value} {gV:List V→List V→List V}
end
structure ax (N P:List Str) (sc:Scope):Prop where
 kind:sc.kind=.function
 co:sc.isCoroutine=false
 gen:sc.isGenerator=false
 nd:N.Nodup
 pre:N.take P.length=P
 par:∀ x∈P,sc.names.lookup x=some .local∨sc.names.lookup x=some .cell
 nofree:∀ y∈sc.names,y.2≠.free
theorem oZ {kindOf:Str→Option NameKind} {x:Str}:∀ {binds:List (Str × Value)} {m:Str→Option Value},(∀ v,(x,v)∉binds)→bindL kindOf binds m x=m x
 | [],_,_=>rfl
 | (n,v)::r,m,h=>by
  unfold bindL
  rw [oZ fun w hw=>h w (List.mem_cons_of_mem _ hw)]
  split
  · have:x≠n:=by rintro rfl; exact h v List.mem_cons_self
    simp [this]
  · rfl
theorem o0 {kindOf:Str→Option NameKind} {x:Str}:∀ {binds:List (Str × Value)} {m:Str→Option Value},(∀ v,(x,v)∉binds)→bindC kindOf binds m x=m x
 | [],_,_=>rfl
 | (n,v)::r,m,h=>by
  unfold bindC
  rw [o0 fun w hw=>h w (List.mem_cons_of_mem _ hw)]
  split
  · rfl
  · have:x≠n:=by rintro rfl; exact h v List.mem_cons_self
    simp [this]
theorem o1 {kindOf:Str→Option NameKind} {x:Str} {v:Value}:∀ {P:List Str} {vs:List Value} {i:Nat} {m:Str→Option Value},P.Nodup→P[i]? =some x→vs[i]? =some v→kindOf x=some .local→
  bindL kindOf (P.zip vs) m x=some v
 | [],_,_,_,_,h,_,_=>by simp at h
 | _::_,[],_,_,_,_,h,_=>by simp at h
 | p::P,w::vs,0,m,nd,h1,h2,hk=>by
  simp at h1 h2; subst h1; subst h2
  show bindL kindOf ((p,w)::P.zip vs) m p=_
  unfold bindL
  rw [oZ fun v hv=>(List.nodup_cons.mp nd).1 (List.of_mem_zip hv).1,if_pos hk]
  simp
 | p::P,w::vs,i+1,m,nd,h1,h2,hk=>by
  show bindL kindOf ((p,w)::P.zip vs) m x=_
  unfold bindL
  exact o1 (i:=i) (List.nodup_cons.mp nd).2 (by simpa using h1) (by simpa using h2) hk
theorem o3 {kindOf:Str→Option NameKind} {x:Str} {v:Value}:∀ {P:List Str} {vs:List Value} {i:Nat} {m:Str→Option Value},P.Nodup→P[i]? =some x→vs[i]? =some v→kindOf x≠some .local→
  bindC kindOf (P.zip vs) m x=some v
 | [],_,_,_,_,h,_,_=>by simp at h
 | _::_,[],_,_,_,_,h,_=>by simp at h
 | p::P,w::vs,0,m,nd,h1,h2,hk=>by
  simp at h1 h2; subst h1; subst h2
  show bindC kindOf ((p,w)::P.zip vs) m p=_
  unfold bindC
  rw [o0 fun v hv=>(List.nodup_cons.mp nd).1 (List.of_mem_zip hv).1,if_neg hk]
  simp
 | p::P,w::vs,i+1,m,nd,h1,h2,hk=>by
  show bindC kindOf ((p,w)::P.zip vs) m x=_
  unfold bindC
  exact o3 (i:=i) (List.nodup_cons.mp nd).2 (by simpa using h1) (by simpa using h2) hk
def start (N:List Str) (vs:List V):St:=vs.map some++List.replicate (N.length - vs.length) none
def cxOf (CX:CXT) (P:Program) (w:World) (K:PySem.W.Frag) (mg:Str→Option Value) (base:Heap) (N:List Str) (qual:Str) (scope:Scope) (f:Addr) (cd:Value) (A:Around) (outer:List Env) (s:Shared) (H:Hp) (E:XK):Cx where
 prog:=P
 w:=w
 K:=K
 mg:=mg
 base:=base
 A:=A.deeper (envOfC qual scope s.heap.objs.size f cd)
 N:=N
 s₀:=s
 H₀:=H
 env:=envOfC qual scope s.heap.objs.size f cd
 outer:=outer
 stack:=envOfC qual scope s.heap.objs.size f cd::outer
 ex:=[]
 calm:=true
 fn:=fun _=>true
 pn:=[]
 xe:=fun e s'=>wpAny (model P w) (A.deeper (envOfC qual scope s.heap.objs.size f cd)) (leaving (envOfC qual scope s.heap.objs.size f cd) e) (fun _ s''=>CX outer H s E e s'') (fun e' s''=>CX outer H s E e' s'') s'
theorem j7 {sc:Scope} {n:Nat} {x:Str} (h:sc.names.lookup x=some .cell):∃ c,(cellsFrom n sc.names []).lookup x=some c:=by
 have q:=PySem.W.cellsFrom_some sc.names n [] (.inl h)
 exact Option.isSome_iff_exists.mp q
theorem uf {CX:CXT} {P:Program} {w:World} {K:PySem.W.Frag} {mg:Str→Option Value} {base:Heap} {N ps:List Str} {qual:Str} {scope:Scope} {f:Addr} {cd:Value} {A:Around} {outer:List Env} {s s1:Shared} {H:Hp} {E:XK} {us:List Value} {vs:List V}
  (S:ax N ps scope) (hd:A.handled=none) (e0:Env0 P w K mg base A outer s H) (hl:vs.length=ps.length) (r:Vals vs us)
  (x:InCallC s s.heap.objs.size (bindL (envOfC qual scope s.heap.objs.size f cd).kindOf (ps.zip us) fun _=>none) (cellsFrom (s.heap.objs.size+1) scope.names []) (bindC (envOfC qual scope s.heap.objs.size f cd).kindOf (ps.zip us) fun _=>none) s1):
  Inv (cxOf CX P w K mg base N qual scope f cd A outer s H E) [] (start N vs) H s1:=by
 have hpl:ps.length≤N.length:=by have:=congrArg List.length S.pre; rw [List.length_take] at this; omega
 obtain ⟨h1,tk,rfl,hk⟩:=x.done
 have noA:∀ b:Addr,b∉(cxOf CX P w K mg base N qual scope f cd A outer s H E).ex:=fun b z=>absurd (show b∈([]:List Addr) from z) (by simp)
 refine ⟨⟨e0.mod,S.kind,rfl,rfl,Nat.le_refl _,fun y z c h1 h2=>?_,fun y hy=>?_,fun y c _ h=>?_,fun _=>hd,Around.frames_deeper e0.frames,.inr ⟨rfl,rfl⟩,fun b z=>absurd z (noA b),e0.bs,e0.bsz,fun b _ _=>noA b,fun b z=>absurd z (noA b),e0.funs,e0.frf⟩,
  rfl,e0.bare,Un.kept hk,⟨_,x.toInCall.ns,fun i y v h1 h2 h3=>?_⟩,fun y c h=>⟨_,x.cell y c h⟩,e0.hok.fresh (Nat.le_refl _),fun y c h=>?_,fun p hp=>absurd (show p∈([]:List (Addr × Obj)) from hp) (by simp),e0.hok.kept hk,?_⟩
 · exact name_of_addr x.apart (PySem.mem_of_lookup h1) (PySem.mem_of_lookup h2)
 · have hy:scope.names.lookup y=some .cell∨scope.names.lookup y=some .free:=hy
   rcases hy with hy | hy
   · exact j7 hy
   · exact absurd rfl (S.nofree _ (PySem.mem_of_lookup hy))
 · exact Nat.le_of_lt (x.above y c (PySem.mem_of_lookup h))
 · have hi:i < vs.length:=by
    unfold start at h2
    by_cases hi:i < vs.length
    · exact hi
    · rw [List.getElem?_append_right (by simpa using hi)] at h2
      rw [List.getElem?_replicate] at h2
      split at h2 <;> cases h2
   have ha:vs[i]? =some v:=by
    unfold start at h2
    rw [List.getElem?_append_left (by simpa using hi),List.getElem?_map] at h2
    cases e:vs[i]? with
    | none=>rw [e] at h2; cases h2
    | some a=>rw [e] at h2; cases h2; rfl
   obtain ⟨u,hu,rv⟩:=r.get ha
   have hp:ps[i]? =some y:=by
    rw [← S.pre,List.getElem?_take_of_lt (by omega)]; exact h1
   have ndP:ps.Nodup:=by rw [← S.pre]; exact S.nd.sublist (List.take_sublist _ _)
   refine ⟨u,rv,?_⟩
   rcases S.par y (List.mem_of_getElem? hp) with k | k
   · exact .inl ⟨k,o1 ndP hp hu k⟩
   · obtain ⟨c,e⟩:=j7 (n:=s.heap.objs.size+1) k
     refine .inr ⟨.inl k,c,e,?_⟩
     have q:=x.cell y c e
     rw [o3 ndP hp hu (by show scope.names.lookup y≠_; rw [k]; decide)] at q
     exact q
 · exact e0.hok.fresh (Nat.le_of_lt (x.above y c (PySem.mem_of_lookup h)))
 · unfold start
   show _=N.length
   rw [List.length_append,List.length_map,List.length_replicate]
   omega
theorem yp {CX:CXT} {P:Program} {w:World} {K:PySem.W.Frag} {mg:Str→Option Value} {base:Heap} {k:Nat} {f:Addr} {name qual:Str} {params:Arguments} {body:List Stmt} {scope:Scope} {dV kV doc pm cdv ct oc:Value} {an od:Option Addr}
  {osl:Array (Option Value)} {N ps:List Str} {sp:Sp} (lk:K.lookup f=some ⟨oc,od,.func (PySem.W.fnOf name qual params body scope dV kV doc pm an cdv ct),osl⟩) (hcd:PySem.W.codeIn K cdv qual=true) (S:ax N ps scope)
  (len:∀ vs H Q E,sp vs H Q E→vs.length=ps.length)
  (hbody:∀ (A:Around) (outer:List Env) (s:Shared) (H:Hp) (vs:List V) (Q:VK) (E:XK),Room k (A.deeper (envOfC qual scope s.heap.objs.size f cdv))→sp vs H Q E→
   ∃ t,PSs (cxOf CX P w K mg base N qual scope f cdv A outer s H E) body t∧t { nx:=fun _ H'=>Q .non H',rt:=Q } (start N vs) H):
  FnOk P w K mg base CX (k+1) f (PySem.W.fnOf name qual params body scope dV kV doc pm an cdv ct) ps sp:=by
 refine ⟨len,fun A outer s H args us vs Q E hr e0 hb r hsp=>?_⟩
 have hl:=len _ _ _ _ hsp
 have KX:K.In s.heap:=e0.mod.kin.keeps fun b o e=>(e0.bs b o e).1
 have lim:s.heap.NoLimit:=e0.mod.nolimit.keeps fun b o e=>(e0.bs b o e).1
 have hkind:∀ y∈ps.zip us,scope.names.lookup y.1=some .local∨(scope.names.lookup y.1=some .cell∧((cellsFrom (s.heap.objs.size+1) scope.names []).lookup y.1).isSome=true):=fun ⟨n,v⟩ hy=>by
  rcases S.par n (List.of_mem_zip hy).1 with q | q
  · exact .inl q
  · exact .inr ⟨q,PySem.W.cellsFrom_some _ _ _ (.inl q)⟩
 refine codeAny_call_function hr.depth (KX _ _ lk) rfl S.co S.gen rfl (PySem.W.codeRec_of KX hcd) (hb _ _ _ _ ?_)
 refine wpAny_newFunctionEnv_cells S.kind hkind fun env he s1 x=>?_
 subst he
 refine ⟨lim.keeps x.toInCall.keep,codeAny_func ?_⟩
 obtain ⟨t,ht,hq⟩:=hbody A outer s H vs Q E (hr.deeper _) hsp
 have I:Inv (cxOf CX P w K mg base N qual scope f cdv A outer s H E) [] (start N vs) H s1:=uf S hr.hd e0 hl r x
 refine wpAny_mono (ht [] s1 (start N vs) H _ I hq) (fun fl s' hs=>?_) fun e s' hs=>hs
 have fin:∀ {σ':St} {H':Hp} {v:V} {u:Value},Inv (cxOf CX P w K mg base N qual scope f cdv A outer s H E) [] σ' H' s'→RelV v u→Q v H'→CE outer P w H s Q u s':=
  fun {σ' H' v u} J rv q=>⟨v,H',J.os,J.bare,J.base,J.hok,rv,q⟩
 cases fl with
 | ret u=>
  obtain ⟨v,σ',H',J,rv,q⟩:=hs
  exact fin J rv q
 | next=>
  obtain ⟨σ',H',J,q⟩:=hs
  exact fin (v:=V.non) (u:=Value.none) J rfl q
 | brk=>
  obtain ⟨_,_,_,q⟩:=hs
  exact False.elim q
 | cont=>
  obtain ⟨_,_,_,q⟩:=hs
  exact False.elim q
end L2
namespace L2
open PySem PySem.Spec PyProof.Rows
section
variable {X:Cx} {x:Str} {p pos:Pos} {e:Expr} {es:List Expr} {t:TA} {id T:String} {r:List V→Hp→VK→Prop}
def tCB (r:List V→Hp→VK→Prop) (t:TA):TE:=fun σ H Q=>t σ H fun vs H1=>r vs H1 Q
theorem aC (hc:CallR X (.builtin id) r) (hg:Gl X x) (hm:X.mg x=none) (hv:bootBuiltins x=some (.builtin id)) (ha:PA X (e::es) t) (hn:x≠"__name__":=by decide) (hdb:(x==("__debug__":Str))=false:=by decide)
  (he:starEach (e::es) X.env=(false,eval e X.env)::starEach es X.env:=by rfl) (hpl:(backTo pos (starEach es X.env)).any (·.1)=false:=by rfl):PE X (.Call (.Name x p) (e::es) [] pos) (tCB r t):=by
 intro pins s σ H Q I h
 refine wpAny_Call_Name_kw (fT I hg hm hv ?_ hn hdb)
 exact PyProof.Rows.callWith_builtin1 (thn (ha pos pins s σ H _ I h) fun us s1 ⟨vs,H1,I1,r1,q1⟩=>hc pins s1 σ H1 vs us Q I1 r1 q1) he hpl
theorem de (hc:CallR X (.type T) r) (hg:Gl X x) (hm:X.mg x=none) (hv:bootBuiltins x=some (.type T)) (ha:PA X (e::es) t) (hn:x≠"__name__":=by decide) (hdb:(x==("__debug__":Str))=false:=by decide)
  (he:starEach (e::es) X.env=(false,eval e X.env)::starEach es X.env:=by rfl) (hpl:(backTo pos (starEach es X.env)).any (·.1)=false:=by rfl):PE X (.Call (.Name x p) (e::es) [] pos) (tCB r t):=by
 intro pins s σ H Q I h
 refine wpAny_Call_Name_kw (fT I hg hm hv ?_ hn hdb)
 exact PyProof.Rows.callWith_type1 (thn (ha pos pins s σ H _ I h) fun us s1 ⟨vs,H1,I1,r1,q1⟩=>hc pins s1 σ H1 vs us Q I1 r1 q1) he hpl
end
end L2
namespace HT
open PySem PyProof.Rows
section
open PySem.SeqAt
open PySem.AutoSeq1 (wpAny_loadPart')
open PySem.MeetsSeq PySem.MeetsSeq2 PySem.MeetsSeq3
end
section
variable {prog:Program} {w:World} {A:Around} {E:Value→Shared→Prop} {s:Shared}
def sIx (n d:Nat):Option Int→Nat
 | none=>d
 | some v=>if v < 0 then (v+(n:Int)).toNat else min v.toNat n
theorem sIx_nat (n d k:Nat):sIx n d (some (k:Int))=min k n:=by
 show (if (k:Int) < 0 then ((k:Int)+(n:Int)).toNat else min (k:Int).toNat n)=min k n
 rw [if_neg (by omega),Int.toNat_natCast]
end
end HT
namespace L2
open PySem PySem.Spec PyProof.Rows
abbrev TO:=St→Hp→(Option Int→Hp→Prop)→Prop
def PO (X:Cx) (e:Option Expr) (t:TO):Prop:=
 ∀ (pins:List (Addr × Obj)) (s:Shared) (σ:St) (H:Hp) (Q:Option Int→Hp→Prop),Inv X pins σ H s→t σ H Q→
  wpAny (model X.prog X.w) X.A (evalPart e X.env) (fun u s'=>∃ o H',Inv X pins σ H' s'∧IsPart u o∧Q o H') X.xe s
def iZ:TO:=fun _ H Q=>Q none H
def tPart (t:TE):TO:=fun σ H Q=>t σ H fun x H1=>∃ i,x=.int i∧Q (some i) H1
theorem m6 {ns:List Int}:∀ {us:List Value},Vals (ns.map V.int) us→IntsAre us ns:=by
 induction ns with
 | nil=>intro us r; rw [List.map_nil] at r; cases r; exact .nil
 | cons n ns ih=>
  intro us r
  rw [List.map_cons] at r
  cases r with
  | cons r1 r2=>
   obtain ⟨t,e⟩:=r1
   subst e
   exact .cons n t (ih r2)
section
variable {X:Cx} {e:Expr} {te:TE} {lo hi:Option Expr} {tl th:TO} {pos p2:Pos}
theorem oA:PO X none iZ:=by
 intro pins s σ H Q I h
 rw [evalPart_none]
 exact wpAny_pure ⟨none,H,I,.none,h⟩
theorem oB (h:PE X e te):PO X (some e) (tPart te):=by
 intro pins s σ H Q I hw
 rw [evalPart_some]
 refine thn (h pins s σ H _ I hw) fun u s1 ⟨x,H1,I1,r1,q1⟩=>?_
 obtain ⟨i,rfl,q⟩:=q1
 obtain ⟨t,rfl⟩:=r1
 exact ⟨some i,H1,I1,.int i t,q⟩
def SlR (X:Cx) (r:V→Option Int→Option Int→Hp→VK→Prop):Prop:=
 ∀ (pins:List (Addr × Obj)) (s:Shared) (σ:St) (H:Hp) (x:V) (v vl vu:Value) (lo hi:Option Int) (sl:Addr) (Q:VK),Inv X pins σ H s→RelV x v→s.heap.IsSliceOf sl vl vu .none→IsPart vl lo→IsPart vu hi→r x lo hi H Q→
  ∃ T id,typeLookup (.type T) "__getitem__"=pure (some (.builtin id))∧s.TypeIs v T∧wpAny (model X.prog X.w) X.A (getItem v (.ref sl)) (EP X pins σ Q) X.xe s
def tSl (r:V→Option Int→Option Int→Hp→VK→Prop) (te:TE) (tl th:TO):TE:=fun σ H Q=>te σ H fun x H1=>tl σ H1 fun l H2=>th σ H2 fun u H3=>r x l u H3 Q
theorem mo {r:V→Option Int→Option Int→Hp→VK→Prop} (hr:SlR X r) (he:PE X e te) (hl:PO X lo tl) (hu:PO X hi th):PE X (.Subscript e (.Slice lo hi none p2) pos) (tSl r te tl th):=by
 intro pins s σ H Q I h
 refine Subscript_ (thn (he pins s σ H _ I h) fun v s1 ⟨x,H1,I1,r1,q1⟩=>?_)
 refine wpAny_Slice (thn (hl pins s1 σ H1 _ I1 q1) fun vl s2 ⟨l,H2,I2,pl,q2⟩=>thn (hu pins s2 σ H2 _ I2 q2) fun vu s3 ⟨u,H3,I3,pu,q3⟩=>?_)
 rw [evalPart_none]
 refine wpAny_pure ?_
 have I4:Inv X pins σ H3 { s3 with heap:=s3.heap.push { cls:=.type "slice",data:=.fields #[vl,vu,.none] } }:=I3.kept (t':=s3.toks) fun b ob q=>Heap.get?_push_of_some _ q
 obtain ⟨T,id,hT,ht,hg⟩:=hr pins { s3 with heap:=s3.heap.push { cls:=.type "slice",data:=.fields #[vl,vu,.none] } } σ H3 x v vl vu l u s3.heap.objs.size Q I4 r1 (Heap.IsSliceOf.new ..) pl pu q3
 show wpAny (model X.prog X.w) X.A (subscriptTail e (.Slice lo hi none p2) v (.ref s3.heap.objs.size)) (EP X pins σ Q) X.xe { s3 with heap:=s3.heap.push { cls:=.type "slice",data:=.fields #[vl,vu,.none] } }
 exact tail_any (ops:=[.ref s3.heap.objs.size,v]) ht hT hg (by with_unfolding_all rfl)
def cutV (xs:List V) (lo hi:Option Int):List V:=(xs.drop (HT.sIx xs.length 0 lo)).take (HT.sIx xs.length xs.length hi - HT.sIx xs.length 0 lo)
theorem rj (xs:List V) (lo hi:Option Int):(cutV xs lo hi).length≤xs.length:=by
 unfold cutV
 rw [List.length_take,List.length_drop]
 omega
end
end L2
namespace L2
open PySem PySem.Spec PyProof.Rows
def ixN (n:Nat) (i:Int):Option Nat:=if 0≤i then (if i < n then some i.toNat else none) else if -(n:Int)≤i then some (i+n).toNat else none
def atI {α:Type} (xs:List α) (i:Int):Option α:=(ixN xs.length i).bind fun j=>xs[j]?
theorem wB {n:Nat} {i:Int} {j:Nat} (h:ixN n i=some j):seqIndex? i n=some j∧j < n∧ -(n:Int)≤i∧i < n:=by
 unfold ixN at h
 by_cases h0:0≤i
 · rw [if_pos h0] at h
   by_cases h1:i < n
   · rw [if_pos h1] at h
     have e:i.toNat=j:=Option.some.inj h
     exact ⟨by rw [seqIndex_of h0 h1,e],by omega,by omega,h1⟩
   · rw [if_neg h1] at h; cases h
 · rw [if_neg h0] at h
   by_cases h1: -(n:Int)≤i
   · rw [if_pos h1] at h
     have e:(i+n).toNat=j:=Option.some.inj h
     exact ⟨by rw [seqIndex_neg (by omega) h1,e],by omega,h1,by omega⟩
   · rw [if_neg h1] at h; cases h
theorem oC {α:Type} {xs:List α} {i:Int} {v:α} (h:atI xs i=some v):∃ j,seqIndex? i xs.length=some j∧xs[j]? =some v∧j < xs.length∧ -(xs.length:Int)≤i∧i < xs.length:=by
 unfold atI at h
 cases e:ixN xs.length i with
 | none=>rw [e] at h; cases h
 | some j=>
  rw [e] at h
  obtain ⟨h1,h2,h3,h4⟩:=wB e
  exact ⟨j,h1,h,h2,h3,h4⟩
theorem gM {α:Type} {xs:List α} {j:Nat} {v:α} (h:xs[j]? =some v):atI xs (j:Int)=some v:=by
 have hj:j < xs.length:=(List.getElem?_eq_some_iff.mp h).1
 have e:ixN xs.length (j:Int)=some j:=by
  unfold ixN
  rw [if_pos (by omega),if_pos (by omega)]; simp
 unfold atI; rw [e]; exact h
def rV (b:Expr):Prop:=∀ o i,subscripted b false o i=operate [o,i] (getItem o i)
def IxR (X:Cx) (r:R2):Prop:=
 ∀ (value slice:Expr) (pins:List (Addr × Obj)) (s:Shared) (σ:St) (H:Hp) (x y:V) (v u:Value) (Q:VK),Inv X pins σ H s→RelV x v→RelV y u→r x y H Q→
  subscripted slice false v u=operate [v,u] (getItem v u)→wpAny (model X.prog X.w) X.A (subscriptTail value slice v u) (EP X pins σ Q) X.xe s
def MtR (X:Cx) (id:String) (r:V→List V→Hp→VK→Prop):Prop:=
 ∀ (pins:List (Addr × Obj)) (s:Shared) (σ:St) (H:Hp) (x:V) (xs:List V) (v:Value) (us:List Value) (Q:VK),Inv X pins σ H s→RelV x v→Vals xs us→r x xs H Q→
  wpAny (model X.prog X.w) X.A (call (.builtin id) (v::us)) (EP X pins σ Q) X.xe s
section
variable {X:Cx} {a b:Expr} {ta tb:TE} {pos:Pos}
theorem ai {r:R2} (hr:IxR X r) (ha:PE X a ta) (hb:PE X b tb) (hs:rV b):PE X (.Subscript a b pos) (tOp r ta tb):=by
 intro pins s σ H Q I h
 exact Subscript_ (binT ha hb I h fun v u s2 x y H2 I2 rx ry q=>hr a b pins s2 σ H2 x y v u Q I2 rx ry q (hs _ _))
def rIxL (K:PySem.W.Frag):R2:=fun x y H Q=>∃ p xs i v,x=.ref p∧y=.int i∧SqL K H p xs∧atI xs i=some v∧Q v H
def rIxT (K:PySem.W.Frag):R2:=fun x y H Q=>∃ p xs i v,x=.ref p∧y=.int i∧SqT K H p xs∧atI xs i=some v∧Q v H
def rIxS:R2:=fun x y H Q=>∃ z i c,x=.str z∧y=.int i∧z.length≤sizeLine∧atI z.cps.toList i=some c∧Q (.str ⟨#[c]⟩) H
theorem rW:IxR X (rIxL X.K):=by
 intro value slice pins s σ H x y v u Q I rx ry h hs
 obtain ⟨p,xs,i,z,rfl,rfl,hq,he,q⟩:=h
 cases rx
 obtain ⟨t,rfl⟩:=ry
 obtain ⟨its,r,pl,hz⟩:=I.list hq
 obtain ⟨j,h1,h2,h3,h4,h5⟩:=oC he
 obtain ⟨w,ew,rw'⟩:=r.get h2
 have hl:=r.length
 have hn:=kP
 have fin:EP X pins σ Q w s:=⟨z,H,I,rw',q⟩
 by_cases h0:0≤i
 · have hj:i.toNat=j:=by
    rw [seqIndex_of h0 h5] at h1
    exact Option.some.inj h1
   exact item_listR pl.isList h0 (by omega) (by rw [hj]; simpa using ew) fin hs
 · have hj:(i+(its.toArray.size:Int)).toNat=j:=by
    rw [seqIndex_neg (by omega) h4] at h1
    rw [List.size_toArray,← hl]
    exact Option.some.inj h1
   exact subscriptTail_builtinR (x:=w) pl.isList.typeIs slot_list_getitem.lookup
    (wpAny_getItem_list_neg (Q:=fun r s'=>r=w∧EP X pins σ Q r s') pl.isList (by omega) (by rw [List.size_toArray] <;> omega) (by omega) (by rw [hj]; simpa using ew) ⟨rfl,fin⟩) hs
theorem xA:IxR X (rIxT X.K):=by
 intro value slice pins s σ H x y v u Q I rx ry h hs
 obtain ⟨p,xs,i,z,rfl,rfl,hq,he,q⟩:=h
 cases rx
 obtain ⟨t,rfl⟩:=ry
 obtain ⟨its,r,pl,hz⟩:=I.tuple hq
 obtain ⟨j,h1,h2,h3,h4,h5⟩:=oC he
 obtain ⟨w,ew,rw'⟩:=r.get h2
 have hl:=r.length
 have hn:=kP
 have fin:EP X pins σ Q w s:=⟨z,H,I,rw',q⟩
 exact subscriptTail_builtinR (x:=w) pl.typeIs slot_tuple_getitem.lookup
  (getItem_tuple (j:=j) (Q:=fun r s'=>r=w∧EP X pins σ Q r s') pl (by omega) (by omega) (by rw [List.size_toArray,← hl]; exact h1) (by simpa using ew) ⟨rfl,fin⟩) hs
theorem xB:IxR X rIxS:=by
 intro value slice pins s σ H x y v u Q I rx ry h hs
 obtain ⟨z,i,c,rfl,rfl,hz,he,q⟩:=h
 obtain ⟨t,rfl⟩:=rx
 obtain ⟨t',rfl⟩:=ry
 obtain ⟨j,h1,h2,h3,h4,h5⟩:=oC he
 have hl:z.cps.toList.length=z.length:=by simp [Str.length]
 rw [hl] at h1 h4 h5
 have hn:=kP
 exact tail_any (typeIs_str s z t) slot_str_getitem.lookup (getItem_str (c:=c) (by
  have e1:decide (i < -(2^63:Int))=false:=decide_eq_false (by omega)
  have e2:decide (i ≥ 2^63)=false:=decide_eq_false (by omega)
  rw [e1,e2,Bool.or_false]) (by rw [h1]; simpa using h2) ⟨.str ⟨#[c]⟩,H,I.tok _,⟨_,rfl⟩,q⟩) hs
theorem Inv.lst {pins:List (Addr × Obj)} {σ:St} {H:Hp} {s:Shared} {p:Addr} {xs:List V} (I:Inv X pins σ H s) (h:H p=some (.lst xs)):
  ∃ (its:List Value) (n:Nat),Vals xs its∧s.heap.get? p=some { cls:=.type "list",data:=.seq its.toArray n }∧xs.length≤sizeLine:=by
 obtain ⟨z,its,n,r,e⟩:=I.hok p _ h
 exact ⟨its,n,r,e,z⟩
theorem pX (lo hi:Option Int) (n:Nat):(sliceBounds lo hi none n).1=((HT.sIx n 0 lo:Nat):Int)∧(sliceBounds lo hi none n).2.1=((HT.sIx n n hi:Nat):Int)∧(sliceBounds lo hi none n).2.2=1:=by
 refine ⟨?_,?_,rfl⟩
 · cases lo with
   | none=>simp [sliceBounds,HT.sIx]
   | some i=>
    simp only [sliceBounds,HT.sIx,Option.getD_none,show (1:Int) > 0 by decide,if_true]
    by_cases h:i < 0
    · simp only [h,if_true] <;> omega
    · simp only [h,if_false] <;> omega
 · cases hi with
   | none=>simp [sliceBounds,HT.sIx]
   | some i=>
    simp only [sliceBounds,HT.sIx,Option.getD_none,show (1:Int) > 0 by decide,if_true]
    by_cases h:i < 0
    · simp only [h,if_true] <;> omega
    · simp only [h,if_false] <;> omega
theorem pj (its:List Value) (lo hi:Option Int):slicePick its.toArray lo hi none=((its.drop (HT.sIx its.length 0 lo)).take (HT.sIx its.length its.length hi - HT.sIx its.length 0 lo)).toArray:=by
 obtain ⟨h1,h2,h3⟩:=pX lo hi its.toArray.size
 unfold slicePick
 rw [h1,h2,h3]
 simp only [sliceRange_one,pick_run,List.size_toArray] <;> rfl
def rSlL (K:PySem.W.Frag):V→Option Int→Option Int→Hp→VK→Prop:=fun x lo hi H Q=>∃ a xs,x=.ref a∧SqL K H a xs∧∀ p,H p=none→Q (.ref p) (upd H p (.lst (cutV xs lo hi)))
theorem wC:SlR X (rSlL X.K):=by
 intro pins s σ H x v vl vu lo hi sl Q I rx hs pl pu h
 obtain ⟨a,xs,rfl,hx,q⟩:=h
 cases rx
 obtain ⟨its,r,ht,hz⟩:=I.list hx
 have hlen:=r.length
 refine ⟨"list",_,slot_list_getitem.lookup,ht.isList.typeIs,?_⟩
 refine wpAny_getItem_list_slice ht.isList hs pl pu .none (by simp) ?_ (by rw [List.size_toArray] <;> omega)
 rw [pj,← hlen]
 refine ⟨.ref s.heap.objs.size,_,I.laid (t':=s.toks) (o:=.lst (cutV xs lo hi)) (fun b ob q=>Heap.get?_push_of_some _ q) (Nat.le_refl _) ?_,rfl,q _ (I.hok.fresh (Nat.le_refl _))⟩
 exact ⟨Nat.le_trans (rj xs lo hi) hz,_,0,(r.drop (HT.sIx xs.length 0 lo)).take (HT.sIx xs.length xs.length hi - HT.sIx xs.length 0 lo),Heap.get?_push_size _ rfl⟩
def flatV:V→Bool
 | .non=>true
 | .bl _=>true
 | .int _=>true
 | .str _=>true
 | _=>false
def eqV:V→V→Bool
 | .non,.non=>true
 | .bl a,.bl b=>a==b
 | .bl a,.int b=>(if a then 1 else 0)==b
 | .int a,.bl b=>a==(if b then 1 else 0)
 | .int a,.int b=>a==b
 | .str a,.str b=>a==b
 | _,_=>false
theorem xC {A:Around} {s:Shared} {y x:V} {u v:Value} (ry:RelV y u) (rx:RelV x v) (fy:flatV y=true) (fx:flatV x=true):SeqAt.EqAt A s u v (eqV y x):=by
 cases y with
 | non=>
  cases ry
  cases x with
  | non=>cases rx; exact SeqAt.EqAt.same _
  | bl b=>cases rx; exact SeqAt.EqAt.none_bool b
  | int b=>obtain ⟨t,rfl⟩:=rx; exact SeqAt.EqAt.none_int b t
  | str b=>obtain ⟨t,rfl⟩:=rx; exact SeqAt.EqAt.none_str b t
  | _=>exact absurd (show false=true from fx) Bool.false_ne_true
 | bl a=>
  cases ry
  cases x with
  | non=>cases rx; exact SeqAt.EqAt.bool_none a
  | bl b=>cases rx; exact SeqAt.EqAt.bool_bool a b
  | int b=>obtain ⟨t,rfl⟩:=rx; exact SeqAt.EqAt.bool_int a b t
  | str b=>obtain ⟨t,rfl⟩:=rx; exact SeqAt.EqAt.bool_str a b t
  | _=>exact absurd (show false=true from fx) Bool.false_ne_true
 | int a=>
  obtain ⟨t',rfl⟩:=ry
  cases x with
  | non=>cases rx; exact SeqAt.EqAt.int_none a t'
  | bl b=>cases rx; exact SeqAt.EqAt.int_bool a t' b
  | int b=>obtain ⟨t,rfl⟩:=rx; exact SeqAt.EqAt.int_int a t' b t
  | str b=>obtain ⟨t,rfl⟩:=rx; exact SeqAt.EqAt.int_str a t' b t
  | _=>exact absurd (show false=true from fx) Bool.false_ne_true
 | str a=>
  obtain ⟨t',rfl⟩:=ry
  cases x with
  | non=>cases rx; exact SeqAt.EqAt.str_none a t'
  | bl b=>cases rx; exact SeqAt.EqAt.str_bool a t' b
  | int b=>obtain ⟨t,rfl⟩:=rx; exact SeqAt.EqAt.str_int a t' b t
  | str b=>obtain ⟨t,rfl⟩:=rx; exact SeqAt.EqAt.str_str a t' b t
  | _=>exact absurd (show false=true from fx) Bool.false_ne_true
 | _=>exact absurd (show false=true from fy) Bool.false_ne_true
def eqU (x:V) (u:Value):Bool:=match u with
 | .none=>eqV .non x
 | .bool b=>eqV (.bl b) x
 | .int i _=>eqV (.int i) x
 | .str z _=>eqV (.str z) x
 | _=>false
theorem ug {x y:V} {u:Value} (r:RelV y u) (f:flatV y=true):eqU x u=eqV y x:=by
 cases y with
 | non=>cases r; rfl
 | bl b=>cases r; rfl
 | int i=>obtain ⟨t,rfl⟩:=r; rfl
 | str z=>obtain ⟨t,rfl⟩:=r; rfl
 | _=>exact absurd (show false=true from f) Bool.false_ne_true
theorem jR {x:V}:∀ {xs:List V} {us:List Value},Vals xs us→xs.all flatV=true→us.any (eqU x)=xs.any fun y=>eqV y x
 | _,_,.nil,_=>rfl
 | y::xs,u::us,.cons r t,f=>by
  rw [List.all_cons,Bool.and_eq_true] at f
  rw [List.any_cons,List.any_cons,ug r f.1,jR t f.2]
theorem i9 {A:Around} {s:Shared} {x:V} {v:Value} (rx:RelV x v) (fx:flatV x=true):∀ {xs:List V} {us:List Value},Vals xs us→xs.all flatV=true→∀ u∈us,SeqAt.EqAt A s u v (eqU x u)
 | _,_,.nil,_=>fun u hu=>by cases hu
 | y::xs,u::us,.cons r t,f=>fun u' hu=>by
  rw [List.all_cons,Bool.and_eq_true] at f
  rcases List.mem_cons.mp hu with rfl | hu
  · rw [ug r f.1]; exact xC r rx f.1 fx
  · exact i9 rx fx t f.2 u' hu
def inV (x:V) (xs:List V):Bool:=xs.any fun y=>eqV y x
def rIn (K:PySem.W.Frag) (neg:Bool):R2:=fun x y H Q=>∃ p xs,y=.ref p∧(SqL K H p xs∨SqT K H p xs)∧flatV x=true∧xs.all flatV=true∧Q (.bl (if neg then !inV x xs else inV x xs)) H
theorem kS:OpR X (compareOp .In) (rIn X.K false):=by
 intro pins s σ H x y v u Q I rx ry h
 obtain ⟨p,xs,rfl,hq,fx,fs,q⟩:=h
 cases ry
 rcases hq with hq | hq
 · obtain ⟨its,r,pl,hz⟩:=I.list hq
   refine SeqAt.in_listAt (eqU x) pl.isList (fun w hw=>i9 rx fx r fs w (by simpa using hw)) ⟨.bl _,H,I,rfl,?_⟩
   rw [show its.toArray.any (eqU x)=its.any (eqU x) by simp,jR r fs]
   exact q
 · obtain ⟨its,r,pl,hz⟩:=I.tuple hq
   refine SeqAt.in_tupleAt (eqU x) pl (fun w hw=>i9 rx fx r fs w (by simpa using hw)) ⟨.bl _,H,I,rfl,?_⟩
   rw [show its.toArray.any (eqU x)=its.any (eqU x) by simp,jR r fs]
   exact q
theorem kT:OpR X (compareOp .NotIn) (rIn X.K true):=by
 intro pins s σ H x y v u Q I rx ry h
 obtain ⟨p,xs,rfl,hq,fx,fs,q⟩:=h
 cases ry
 rcases hq with hq | hq
 · obtain ⟨its,r,pl,hz⟩:=I.list hq
   refine SeqAt.notIn_listAt (eqU x) pl.isList (fun w hw=>i9 rx fx r fs w (by simpa using hw)) ⟨.bl _,H,I,rfl,?_⟩
   rw [show its.toArray.any (eqU x)=its.any (eqU x) by simp,jR r fs]
   exact q
 · obtain ⟨its,r,pl,hz⟩:=I.tuple hq
   refine SeqAt.notIn_tupleAt (eqU x) pl (fun w hw=>i9 rx fx r fs w (by simpa using hw)) ⟨.bl _,H,I,rfl,?_⟩
   rw [show its.toArray.any (eqU x)=its.any (eqU x) by simp,jR r fs]
   exact q
theorem pY:OpR X (compareOp .NotIn) (fun x y H Q=>∃ i j,x=.str i∧y=.str j∧Q (.bl (!(!(Builtin.Str.occurrences j i 0 j.length 1).isEmpty))) H):=by
 intro pins s σ H x y v u Q I rx ry h
 obtain ⟨i,j,rfl,rfl,q⟩:=h
 obtain ⟨t,rfl⟩:=rx
 obtain ⟨t',rfl⟩:=ry
 exact notIn_str ⟨.bl _,H,I,rfl,q⟩
theorem fV:CallR X (.builtin "len") (fun xs H Q=>∃ p ys,xs=[.ref p]∧(SqL X.K H p ys∨SqT X.K H p ys)∧Q (.int ys.length) H):=by
 intro pins s σ H xs us Q I r h
 obtain ⟨p,ys,rfl,hq,q⟩:=h
 obtain ⟨u,rfl,rx⟩:=dP r
 cases rx
 have hn:=kP
 rcases hq with hq | hq
 · obtain ⟨its,r',pl,hz⟩:=I.list hq
   have hlen:=r'.length
   exact Calls.call_len_list pl.isList (by simp only [List.size_toArray] <;> omega) ⟨.int ys.length,H,I.tok _,⟨s.toks+1,by rw [List.size_toArray,hlen]⟩,q⟩
 · obtain ⟨its,r',pl,hz⟩:=I.tuple hq
   have hlen:=r'.length
   exact len_tuple pl (by simp only [List.size_toArray] <;> omega) ⟨.int ys.length,H,I.tok _,⟨s.toks+1,by rw [List.size_toArray,hlen]⟩,q⟩
theorem pZ:CallR X (.builtin "len") (fun xs H Q=>∃ z,xs=[.str z]∧z.length≤sizeLine∧Q (.int z.length) H):=by
 intro pins s σ H xs us Q I r h
 obtain ⟨z,rfl,hz,q⟩:=h
 obtain ⟨u,rfl,t,rfl⟩:=dP r
 have hn:=kP
 exact len_str (by omega) ⟨.int z.length,H,I.tok _,⟨_,rfl⟩,q⟩
theorem p0:CallR X (.type "list") (fun xs H Q=>∃ p ys,xs=[.ref p]∧(SqL X.K H p ys∨SqT X.K H p ys)∧∀ l,H l=none→Q (.ref l) (upd H l (.lst ys))):=by
 intro pins s σ H xs us Q I r h
 obtain ⟨p,ys,rfl,hq,q⟩:=h
 obtain ⟨u,rfl,rx⟩:=dP r
 cases rx
 have fin:∀ (its:List Value),Vals ys its→ys.length≤sizeLine→∀ (h':Heap) (c':Nat),(∀ b o',s.heap.get? b=some o'→h'.get? b=some o')→
   h'.get? s.heap.objs.size=some { cls:=.type "list",dict:=none,data:=.seq its.toArray c',slots:=#[] }→EP X pins σ Q (.ref s.heap.objs.size) { s with heap:=h' }:=fun its r' hz h' c' kp e=>
  ⟨.ref s.heap.objs.size,_,I.laid (t':=s.toks) kp (Nat.le_refl _) (show ObjOk X.prog X.w _ h' _ (.lst ys) from ⟨hz,its,c',r',e⟩),rfl,q _ (I.hok.fresh (Nat.le_refl _))⟩
 rcases hq with hq | hq
 · obtain ⟨its,r',pl,hz⟩:=I.list hq
   have hlen:=r'.length
   obtain ⟨o,ho,hc,n,hd⟩:=pl.isList
   exact call_list_seq p (.inl rfl) ho hc hd (fun h' c' kp e=>fin its r' hz h' c' kp e) (by simp only [List.size_toArray] <;> omega)
 · obtain ⟨its,r',pl,hz⟩:=I.tuple hq
   have hlen:=r'.length
   obtain ⟨o,ho,hc,n,hd⟩:=pl
   exact call_list_seq p (.inr rfl) ho hc hd (fun h' c' kp e=>fin its r' hz h' c' kp e) (by simp only [List.size_toArray] <;> omega)
theorem pk:CallR X (.type "tuple") (fun xs H Q=>∃ p ys,xs=[.ref p]∧((SqL X.K H p ys∧∀ l,H l=none→Q (.ref l) (upd H l (.tup ys)))∨(SqT X.K H p ys∧Q (.ref p) H))):=by
 intro pins s σ H xs us Q I r h
 obtain ⟨p,ys,rfl,h⟩:=h
 obtain ⟨u,rfl,rx⟩:=dP r
 cases rx
 rcases h with ⟨hq,q⟩ | ⟨hq,q⟩
 · obtain ⟨its,r',pl,hz⟩:=I.list hq
   have hlen:=r'.length
   refine call_tuple_list pl.isList (fun h' kp=>?_) (by simp only [List.size_toArray] <;> omega)
   have I1:Inv X pins σ H { s with heap:=h' }:=I.kept (t':=s.toks) kp
   have I2:Inv X pins σ (upd H h'.objs.size (.tup ys)) { s with heap:=h'.push { cls:=.type "tuple",data:=.seq its.toArray } }:=
    I1.laid (t':=s.toks) (fun b o e=>Heap.get?_push_of_some _ e) (Nat.le_refl _) (show ObjOk X.prog X.w _ _ _ (.tup ys) from ⟨hz,its,r',IsTup.new _ _⟩)
   exact ⟨.ref h'.objs.size,_,I2,rfl,q _ (I1.hok.fresh (Nat.le_refl _))⟩
 · obtain ⟨its,r',pl,hz⟩:=I.tuple hq
   exact call_tuple_same pl ⟨.ref p,H,I,rfl,q⟩
def tyV (K:PySem.W.Frag) (T:String) (x:V) (H:Hp):Prop:=match x with
 | .str _=>T="str"
 | .int _=>T="int"
 | .ref p=>(T="list"∧∃ xs,SqL K H p xs)∨(T="tuple"∧∃ o,K.lookup p=some o∧o.cls=.type "tuple"∧o.dict=none)∨
   (T="dict"∧((∃ kvs,H p=some (.dK kvs))∨∃ kvs,H p=some (.dT kvs)))∨(T="set"∧∃ S n,H p=some (.set S n))
 | _=>False
theorem uh {pins:List (Addr × Obj)} {σ:St} {H:Hp} {s:Shared} {T:String} {x:V} {v:Value} (I:Inv X pins σ H s) (r:RelV x v) (ty:tyV X.K T x H):
  s.TypeIs v T∧∀ a,v=.ref a→∃ ob,s.heap.get? a=some ob∧ob.dict=none:=by
 cases x with
 | str z=>
  obtain ⟨t,rfl⟩:=r
  cases (show T="str" from ty)
  exact ⟨typeIs_str s z t,fun _ e=>nomatch e⟩
 | int i=>
  obtain ⟨t,rfl⟩:=r
  cases (show T="int" from ty)
  exact ⟨typeIs_int s i t,fun _ e=>nomatch e⟩
 | ref p=>
  cases r
  rcases ty with ⟨rfl,xs,hq⟩ | ⟨rfl,o,hk,hc,hd⟩ | ⟨rfl,hk⟩ | ⟨rfl,S,n,hk⟩
  · obtain ⟨its,_,pl,_⟩:=I.list hq
    refine ⟨pl.isList.typeIs,fun a e=>?_⟩
    cases e
    obtain ⟨o,n,e,c,hd,_⟩:=pl
    exact ⟨o,e,hd⟩
  · refine ⟨⟨o,I.kIn p o hk,hc⟩,fun a e=>?_⟩
    cases e
    exact ⟨o,I.kIn _ o hk,hd⟩
  · have z:∃ o,s.heap.get? p=some o∧o.ExactDict:=by
     rcases hk with ⟨kvs,hk⟩ | ⟨kvs,hk⟩
     · obtain ⟨_,_,_,_,o,_,_,e,ex,_⟩:=I.hok p _ hk
       exact ⟨o,e,ex⟩
     · obtain ⟨_,_,_,_,o,_,_,e,ex,_⟩:=I.hok p _ hk
       exact ⟨o,e,ex⟩
    obtain ⟨o,e,ex⟩:=z
    refine ⟨⟨o,e,ex.1⟩,fun a e2=>?_⟩
    cases e2
    exact ⟨o,e,ex.2.1⟩
  · obtain ⟨o,_,_,_,e,ex,_⟩:=I.hok p _ hk
    refine ⟨⟨o,e,ex.1⟩,fun a e2=>?_⟩
    cases e2
    exact ⟨o,e,ex.2.1⟩
 | _=>exact False.elim ty
def sC (K:PySem.W.Frag) (T:String) (r:V→List V→Hp→VK→Prop) (to:TE):TE:=fun σ H Q=>to σ H fun x H1=>tyV K T x H1∧r x [] H1 Q
def tBM (K:PySem.W.Frag) (T:String) (r:V→List V→Hp→VK→Prop) (to:TE) (t:TA):TE:=fun σ H Q=>to σ H fun x H1=>tyV K T x H1∧t σ H1 fun xs H2=>r x xs H2 Q
variable {o e:Expr} {es:List Expr} {to:TE} {t:TA} {name:Str} {apos cpos:Pos} {T id:String} {r:V→List V→Hp→VK→Prop}
theorem ui (pa:PlainAttrs T) (slot:Slot T name id) (hty:typeOf (.builtin id)=pure (.type "method_descriptor")) (hm:MtR X id r) (ho:PE X o to)
  (hbase:attributeBase o name X.env (eval o X.env)=eval o X.env:=by rfl) (hline:(apos.endLine==cpos.line)=true:=by rfl):PE X (.Call (.Attribute o name apos) [] [] cpos) (sC X.K T r to):=by
 intro pins s σ H Q I h
 refine wpAny_Call_method0_late hbase hline (thn (ho pins s σ H _ I h) fun v s1 ⟨x,H1,I1,r1,ty,q1⟩=>?_)
 obtain ⟨h1,h2⟩:=uh I1 r1 ty
 exact ⟨T,id,pa,slot,hty,h1,h2,Calls.callWith_builtin rfl (PySem.evalArgs_none (hm pins s1 σ H1 x [] v [] Q I1 r1 .nil q1))⟩
theorem dg (pa:PlainAttrs T) (slot:Slot T name id) (hty:typeOf (.builtin id)=pure (.type "method_descriptor")) (hm:MtR X id r) (ho:PE X o to) (ha:PA X (e::es) t)
  (hbase:attributeBase o name X.env (eval o X.env)=eval o X.env:=by rfl)
  (hfew:((backTo cpos (starEach (e::es) X.env)).all (fun x=>!x.1)&&(backToKw cpos (keywordEach [] X.env)).all (fun x=>x.1.isSome)
   &&decide ((e::es).length+([]:List Keyword).length+(if ([]:List Keyword).isEmpty then 0 else 1) < 30))=true:=by rfl)
  (hline:(apos.endLine==cpos.line)=true:=by rfl) (hs:starEach (e::es) X.env=(false,eval e X.env)::starEach es X.env:=by rfl) (hplain:(backTo cpos (starEach es X.env)).any (·.1)=false:=by rfl):
  PE X (.Call (.Attribute o name apos) (e::es) [] cpos) (tBM X.K T r to t):=by
 intro pins s σ H Q I h
 refine wpAny_Call_method_late hbase hfew hline rfl (thn (ho pins s σ H _ I h) fun v s1 ⟨x,H1,I1,r1,ty,q1⟩=>?_)
 obtain ⟨h1,h2⟩:=uh I1 r1 ty
 refine ⟨T,id,pa,slot,hty,h1,h2,?_⟩
 have hA:=ha cpos pins s1 σ H1 _ I1 q1
 rw [hs] at hA ⊢
 refine Calls.callWith_builtin (by show (false||(backTo cpos (starEach es X.env)).any (·.1))=false; rw [hplain] <;> rfl) (Calls.evalArgs_plain ?_)
 exact thn hA fun us s2 ⟨vs,H2,I2,r2,q2⟩=>hm pins s2 σ H2 x vs v us Q I2 r1 r2 q2
end
end L2
namespace L2
open PySem PySem.Spec PyProof.Rows
def MtM (X:Cx) (id:String) (r:V→List V→Hp→VK→Prop):Prop:=
 ∀ (pins:List (Addr × Obj)) (s:Shared) (σ:St) (H:Hp) (x:V) (xs:List V) (v:Value) (us:List Value) (Q:VK),Inv X pins σ H s→RelV x v→Vals xs us→r x xs H Q→
  wpAny (model X.prog X.w) X.A (call (.builtin id) (v::us)) (EP X pins σ Q) X.xe s
theorem Vals.one:∀ {x:V} {us:List Value},Vals [x] us→∃ u,us=[u]∧RelV x u
 | _,_,.cons r .nil=>⟨_,rfl,r⟩
section
variable {X:Cx} {pins:List (Addr × Obj)} {σ:St} {H:Hp} {s:Shared} {l b:Addr} {xs ys zs:List V}
theorem Inv.lset {its its':List Value} {n:Nat} {f:Array Value→Array Value} {t':Nat} (I:Inv X pins σ H s) (hH:H l=some (.lst xs))
  (e:s.heap.get? l=some { cls:=.type "list",data:=.seq its.toArray n }) (hf:f its.toArray=its'.toArray) (hv:Vals ys its') (hz:ys.length≤sizeLine):
  Inv X pins σ (upd H l (.lst ys)) { s with heap:=s.heap.update l (Obj.mapSeq f),toks:=t' }:=by
 have q:=PySem.IsL.update e f
 rw [hf] at q
 refine I.write (x:=l) (e:=l) (by rw [hH]; exact trivial) (.inl rfl) (fun b' u hb hu=>(Heap.get?_update_other s.heap (Obj.mapSeq f) (Ne.symm hb)).trans hu) ⟨_,q⟩ ?_
 exact ⟨hz,its',_,hv,q⟩
theorem Inv.lnew {its:List Value} {t':Nat} (I:Inv X pins σ H s) (hv:Vals ys its) (hz:ys.length≤sizeLine):
  Inv X pins σ (upd H s.heap.objs.size (.lst ys)) { s with heap:=s.heap.push { cls:=.type "list",data:=.seq its.toArray },toks:=t' }:=
 I.laid (fun _ _ q=>Heap.get?_push_of_some _ q) (Nat.le_refl _) ⟨hz,its,0,hv,Heap.get?_push_size _ rfl⟩
theorem Inv.fresh (I:Inv X pins σ H s):H s.heap.objs.size=none:=I.hok.fresh (Nat.le_refl _)
theorem Inv.lstM (I:Inv X pins σ H s) (hH:H l=some (.lst xs)):xs.length≤sizeLine∧∃ (its:List Value) (n:Nat),Vals xs its∧xs.length=its.length∧s.heap.get? l=some { cls:=.type "list",data:=.seq its.toArray n }:=by
 obtain ⟨z,its,n,r,e⟩:=I.hok l _ hH
 exact ⟨z,its,n,r,r.length,e⟩
end
section
variable {X:Cx}
def wD:V→List V→Hp→VK→Prop:=fun x vs H Q=>∃ l xs y,x=.ref l∧vs=[y]∧H l=some (.lst xs)∧xs.length < sizeLine∧Q .non (upd H l (.lst (xs++[y])))
theorem o4:MtM X "list.append" wD:=by
 intro pins s σ H x vs v us Q I rx rv h
 obtain ⟨l,xs,y,rfl,rfl,hH,hz,q⟩:=h
 cases rx
 obtain ⟨u,rfl,ru⟩:=rv.one
 obtain ⟨z,its,n,r,hl,e⟩:=I.lstM hH
 refine call_meets F.slot_list_append ⟨_,e,rfl⟩ F.entry_list_append (F.args_list_append_2 _ _) (PySem.list_append l its.toArray n u (by rw [List.size_toArray]; omega)) ⟨e,?_⟩
 refine ⟨.non,_,I.lset (its':=its++[u]) hH e (by simp) (r.append (.cons ru .nil)) ?_,rfl,q⟩
 rw [List.length_append,List.length_singleton]
 omega
def rCat:R2:=fun x y H Q=>∃ l b xs zs,x=.ref l∧y=.ref b∧H l=some (.lst xs)∧H b=some (.lst zs)∧xs.length+zs.length≤sizeLine∧∀ p,H p=none→Q (.ref p) (upd H p (.lst (xs++zs)))
theorem xD:OpR X (binaryOp .Add) rCat:=by
 intro pins s σ H x y v u Q I rx ry h
 obtain ⟨l,b,xs,zs,rfl,rfl,hH,hB,hz,q⟩:=h
 cases rx
 cases ry
 obtain ⟨z,its,n,r,hl,e⟩:=I.lstM hH
 obtain ⟨z2,its2,n2,r2,hl2,e2⟩:=I.lstM hB
 refine PySem.P.add_list e e2 ?_ (by rw [List.size_toArray,List.size_toArray]; omega)
 have ea:its.toArray++its2.toArray=(its++its2).toArray:=by simp
 rw [ea]
 exact ⟨.ref _,_,I.lnew (t':=s.toks) (r.append r2) (by rw [List.length_append]; omega),rfl,q _ I.fresh⟩
end
end L2
namespace Att
open PySem PySem.W PySem.Calls PyProof.Rows
theorem ints_of_wellAll {P:Params} {h:Heap}:∀ (ns:List Int) (vs:List Value),WellAll P h vs (ns.map WData.int)→IntsAre vs ns:=by
 intro ns
 induction ns with
 | nil=>
  intro vs w
  rw [List.map_nil] at w
  cases w
  exact .nil
 | cons n ns ih=>
  intro vs w
  rw [List.map_cons] at w
  cases w with
  | cons a b=>
   cases a
   exact .cons _ _ (ih _ b)
theorem script_of {l:OpenLaw} {n:Nat} (hn:l.most=some n) {P:Params} {h:Heap} {args:List WData} {vals:List Value}
  (hpre:l.row.toRowW.claim.pre args=true) (hwl:WellAll P h vals args):
  ∃ a vs ns,vals=[Value.ref a]∧args=[WData.list (ns.map WData.int)]∧h.get? a=some { cls:=.type "list",data:=.seq vs.toArray }∧IntsAre vs ns∧ns.length≤n:=by
 have hsh:WShape.hasAll [] args [.list .int]=true:=(pre_splitW hpre).1
 have hc:l.pre.holds [] { args:=args }=true:=(pre_splitW hpre).2
 obtain ⟨d,r,rfl,h1,h2⟩:=hasAllW_cons hsh
 obtain rfl:=hasAllW_nil h2
 obtain ⟨xs,rfl,h3⟩:=hasW_list h1
 obtain ⟨ns,rfl⟩:=items_int h3
 have hlen:ns.length≤n:=by
  unfold OpenLaw.pre at hc
  have h4:(WTm.not (.lt (.lit (.int (n:Int))) (.len (.arg 0)))).holds [] { args:=[.list (ns.map .int)] }=true:=by
   have h4:=(holds_andW hc).1
   rw [hn] at h4
   exact h4
  have h5:=condW_of h4 (w_not (w_lt w_lit (w_len_list (w_arg rfl))))
  rw [List.length_map] at h5
  refine Nat.le_of_not_lt fun q=>?_
  have q':(n:Int) < ((ns.length:Nat):Int):=by omega
  first
   | (rw [decide_eq_true q'] at h5; exact absurd h5 (by decide))
   | (simp at h5; omega)
 cases hwl with
 | cons w1 w2=>
  cases w2
  cases w1 with
  | list ho hall=>exact ⟨_,_,ns,rfl,rfl,ho,ints_of_wellAll ns _ hall,hlen⟩
theorem post_true (l:OpenLaw) (args:List WData):l.row.toRowW.claim.post args (.bool true) args=true:=
 postW_of (r:=l.row.toRowW) (X:=(true==true))
  (show WShape.has [] (.bool true) .bool=true by first | rfl | decide | simp [WShape.has,WShape.arms,WShape.armsAll])
  (show (WTm.eq .res (.lit (.bool true))).value [] { args:=args,res:=some (.bool true),after:=args }=some (.bool (true==true)) from w_eq_bool (w_res rfl) w_lit) rfl
theorem attach_call {l:OpenLaw} {n:Nat} {q:Program} {loose:List Str} {XP:(Str→Option Value)→Heap→Prop} {YP:World→Heap→Prop} {d:DefRec}
  (hn:l.most=some n) (hdf:d.params.defaults=[])
  (call:∀ (w:World) (s₀ s₁:Shared) (mg mb:Str→Option Value) (fa:Addr) (o:Obj) (pm cd doc:Value) (a:Addr) (vs:List Value) (ns:List Int),
   Ground q loose [] XP w s₀ mg mb s₁.heap→YP w s₁.heap→
   s₁.heap.get? fa=some o→o.data=.func (docDef d.name d.params d.body d.scope pm cd doc)→s₁.heap.CodeRec cd d.name→mg d.name=some (.ref fa)→
   s₁.heap.get? a=some { cls:=.type "list",data:=.seq vs.toArray }→IntsAre vs ns→ns.length≤n→s₁.gens=#[]→
   codeAny (model l.prog w) callerA (.call (.ref fa) ⟨[.ref a],[]⟩) (fun r s'=>r=.ok (.ret (.bool true))∧OldK s₁.heap s'.heap∧s'.os=s₁.os∧AllBare s'.gens) s₁):
  WalkO q loose XP YP l.row.toRowW d [] (fun f vs=>PySem.call f vs):=by
 intro w s₀ s₁ mg mb G Y fa o pm cd doc dV kV ho hd hcd hD hmg hg args vals as hpre hlay hrd hwl hlo
 obtain rfl:dV=.none:=Dflts.none hD hdf
 obtain rfl:kV=.none:=Dflts.noKw hD
 obtain ⟨a,vs,ns,rfl,rfl,hobj,hints,hlen⟩:=script_of hn hpre hwl
 refine enter_call (codeAny_mono (call w s₀ s₁ mg mb fa o pm cd doc a vs ns G Y ho (fd_plain hd) hcd hmg hobj hints hlen hg) fun r s' hq=>?_)
 obtain ⟨rfl,h2,h3,h4⟩:=hq
 exact ⟨.inl ⟨.bool true,.bool true,[],rfl,fun _=>rfl,.bool true,post_true l _,fun _=>⟨List.Pairwise.nil,fun _ hm=>(nomatch hm)⟩⟩,h2,h3,h4⟩
section
variable {prog:Program} {w:World} {A:Around} {E:Value→Shared→Prop} {s:Shared} {K:Frag}
end
end Att
namespace L2
open PySem PySem.Spec PyProof.Rows
theorem kU:∀ {vs:List Value} {ns:List Int},IntsAre vs ns→Vals (ns.map V.int) vs
 | _,_,.nil=>.nil
 | _,_,.cons n t h=>.cons ⟨t,rfl⟩ (kU h)
def Only (H:Hp):Prop:=∀ b,H b=none∨∃ o xs,H b=some (.frz o (.lst xs))
theorem vx {P:Program} {w:World} {K:PySem.W.Frag} {mg mb:Str→Option Value} {CX:CXT} {k:Nat} {fa a:Addr} {fd:FuncData} {x:Str} {sp:Sp} {s₁:Shared} {vs:List Value} {ns:List Int}
  (KX:K.In s₁.heap) (hns:s₁.heap.Ns mainGlobals mg) (hb:s₁.heap.Ns builtinsNs mb) (hbb:∀ x:Str,x≠"__name__"→mb x=bootBuiltins x) (hlim:s₁.heap.NoLimit) (hg:s₁.gens=#[])
  (ha:s₁.heap.get? a=some { cls:=.type "list",data:=.seq vs.toArray }) (hi:IntsAre vs ns) (hl:ns.length≤sizeLine) (hr:Room k callerA)
  (F:∀ base:Heap,K.In base→base.Ns mainGlobals mg→FnOk P w K mg base CX k fa fd [x] sp) (hbind:∀ (s:Shared) (u:Value),BindsTo s fd ⟨[u],[]⟩ [(x,u)])
  (hsp:∀ H:Hp,Only H→SqL K H a (ns.map V.int)→sp [.ref a] H (fun v _=>v=.bl true) fun _ _ _=>False)
  (hCX:∀ H e s',CX [] H s₁ (fun _ _ _=>False) e s'→False):
  codeAny (model P w) callerA (.call (.ref fa) ⟨[.ref a],[]⟩) (fun r s'=>r=.ok (.ret (.bool true))∧OldK s₁.heap s'.heap∧s'.os=s₁.os∧AllBare s'.gens) s₁:=by
 have rv:=kU hi
 have lenV:=hi.length
 have core:∀ H:Hp,Only H→SqL K H a (ns.map V.int)→HOk P w H s₁.heap→(∀ b,H b≠none→b=a)→(H a≠none→K.lookup a=none)→
   codeAny (model P w) callerA (.call (.ref fa) ⟨[.ref a],[]⟩) (fun r s'=>r=.ok (.ret (.bool true))∧OldK s₁.heap s'.heap∧s'.os=s₁.os∧AllBare s'.gens) s₁:=by
  intro H hO hS hok hA hK
  have base_of:∀ {b:Addr} {o:Obj},s₁.heap.get? b=some o→H b=none→(hidT s₁.heap H).get? b=some o:=fun e n=>vn e n
  have noA:∀ {b:Addr} {o:Obj} {es:Array DictEntry} {ep:Nat},s₁.heap.get? b=some o→o.data=.dict es ep→H b=none:=fun {b o es ep} e d=>by
   cases q:H b with
   | none=>rfl
   | some u=>
    have e':b=a:=hA b (by rw [q]; simp)
    subst e'
    rw [ha] at e; cases e
    have d':Data.seq vs.toArray _=Data.dict es ep:=d
    cases d'
  have nsK:∀ {b:Addr} {m:Str→Option Value},s₁.heap.Ns b m→(hidT s₁.heap H).Ns b m:=fun {b m} ⟨o,es,ep,e,d,r⟩=>⟨o,es,ep,base_of e (noA e d),d,r⟩
  have hKb:K.In (hidT s₁.heap H):=fun b o e=>base_of (KX b o e) (by
   cases q:H b with
   | none=>rfl
   | some u=>
    have e':b=a:=hA b (by rw [q]; simp)
    subst e'
    rw [hK (by rw [q]; simp)] at e; cases e)
  have hM:Mod K mg (hidT s₁.heap H):=⟨hKb,nsK hns,⟨mb,nsK hb,hbb⟩,let ⟨mc,h1,h2⟩:=hlim; ⟨mc,nsK h1,h2⟩⟩
  have e0:Env0 P w K mg (hidT s₁.heap H) callerA [] s₁ H:=⟨rfl,hM,fun b o e=>wr e,Nat.le_of_eq (tT _ _),trivial,fun b hb=>absurd (show b∈([]:List Addr) from hb) (by simp),hok,.of_eq hg⟩
  refine codeAny_mono ((F _ hKb (nsK hns)).run callerA [] s₁ H ⟨[.ref a],[]⟩ [.ref a] [.ref a] _ _ hr e0 (hbind s₁ (.ref a)) (.cons rfl .nil) (hsp H hO hS)) fun r s' h=>?_
  cases r with
  | error e=>exact (hCX H e s' h).elim
  | ok fl=>
   cases fl with
   | next=>exact False.elim h
   | brk=>exact False.elim h
   | cont=>exact False.elim h
   | ret u=>
    obtain ⟨v,H',os,bare,un,hok',r',q⟩:=h
    have q':v=.bl true:=q
    subst q'
    obtain rfl:u=Value.bool true:=r'
    refine ⟨rfl,OldK.of_keep fun b o e=>?_,os,bare⟩
    cases q:H b with
    | none=>exact un.keep b o e q (by intro z; exact absurd (show b∈([]:List Addr) from z) (by simp)) (by simp)
    | some u=>
     rcases hO b with z | ⟨ob,xs,z⟩
     · rw [q] at z; cases z
     · have z2:=un.frzs b ob _ z
       obtain ⟨e1,_⟩:=hok b _ z
       obtain ⟨e2,_⟩:=hok' b _ z2
       rw [e] at e1; cases e1
       exact e2
 cases hk:K.lookup a with
 | some o=>
  have e:=KX a o hk
  rw [ha] at e
  cases e
  refine core (fun _=>none) (fun _=>.inl rfl) (.inr ⟨_,vs.toArray,_,hk,rfl,rfl,rfl,by rw [List.size_toArray,lenV]; exact hl,by simpa using rv⟩) (fun b u z=>by have z':(none:Option HO)=some u:=z; cases z') (fun b z=>absurd rfl z) fun z=>absurd rfl z
 | none=>
  refine core (fun b=>if b=a then some (.frz { cls:=.type "list",data:=.seq vs.toArray } (.lst (ns.map V.int))) else none) (fun b=>?_) (.inl (.inr ⟨{ cls:=.type "list",data:=.seq vs.toArray },if_pos rfl⟩)) (fun b u z=>?_) (fun b z=>?_) fun _=>hk
  · by_cases hb:b=a
    · exact .inr ⟨_,_,if_pos hb⟩
    · exact .inl (if_neg hb)
  · by_cases hb:b=a
    · have z':=(if_pos hb).symm.trans z
      cases z'
      subst hb
      exact ⟨ha,by rw [List.length_map]; exact hl,vs,_,rv,ha⟩
    · have z':=(if_neg hb).symm.trans z
      cases z'
  · by_cases hb:b=a
    · exact hb
    · exact absurd (if_neg hb) z
end L2
namespace L2
open PySem PySem.Spec PyProof.Rows
theorem wE {l:PySem.W.OpenLaw} {n k:Nat} {q:Program} {loose:List Str} {XP:(Str→Option Value)→Heap→Prop} {YP:World→Heap→Prop} {d:DefRec} {K:Params→PySem.W.Frag} {CX:World→CXT} {sp:World→Sp} {x:Str}
  (hn:l.most=some n) (hn2:n≤sizeLine) (hdf:d.params.defaults=[]) (hr:Room k callerA)
  (hY:∀ (w:World) (h:Heap),YP w h→(K w.params).In h)
  (F:∀ (w:World) (mg:Str→Option Value) (fa:Addr) (h:Heap),(K w.params).In h→h.Ns mainGlobals mg→mg d.name=some (.ref fa)→
   ∃ fd:FuncData,(∀ (s:Shared) (u:Value),BindsTo s fd ⟨[u],[]⟩ [(x,u)])∧
    ∀ base:Heap,(K w.params).In base→base.Ns mainGlobals mg→FnOk l.prog w (K w.params) mg base (CX w) k fa fd [x] (sp w))
  (hsp:∀ (w:World) (H:Hp) (a:Addr) (ns:List Int),ns.length≤n→Only H→SqL (K w.params) H a (ns.map V.int)→sp w [.ref a] H (fun v _=>v=.bl true) fun _ _ _=>False)
  (hCX:∀ (w:World) (H:Hp) (s:Shared) (e:Value) (s':Shared),CX w [] H s (fun _ _ _=>False) e s'→False):
  PySem.W.WalkO q loose XP YP l.row.toRowW d [] (fun f vs=>PySem.call f vs):=by
 refine Att.attach_call hn hdf fun w s₀ s₁ mg mb fa o pm cd doc a vs ns G Y ho hd hcd hmg hobj hints hlen hg=>?_
 have KX:=hY w _ Y
 obtain ⟨fd,hb,hF⟩:=F w mg fa _ KX G.T.g hmg
 exact vx KX G.T.g G.T.b G.T.builtins G.T.nolimit hg hobj hints (Nat.le_trans hlen hn2) hr hF hb (fun H hO hS=>hsp w H a ns hlen hO hS) fun H e s'=>hCX w H s₁ e s'
end L2
namespace L2
open PySem PySem.Spec PyProof.Rows
def br (s:Stmt):Arguments:=match s with
 | .FunctionDef _ a _ _ _ _ _ _ _ _=>a
 | _=>{ posonlyargs:=[],args:=[],vararg:=none,kwonlyargs:=[],kw_defaults:=[],kwarg:=none,defaults:=[] }
def bo (s:Stmt):List Stmt:=match s with
 | .FunctionDef _ _ b _ _ _ _ _ _ _=>b
 | _=>[]
def ah (s:Stmt):Scope:=match s with
 | .FunctionDef _ _ _ _ _ _ sc _ _ _=>sc
 | _=>{ kind:=.function,names:=[],isGenerator:=false,isCoroutine:=false }
abbrev CX0:CXT:=fun _ _ _ _ _ _=>False
abbrev E0:XK:=fun _ _ _=>False
theorem sD {X:Cx}:kR CX0 X E0:=fun _ _ _ _ _ _ _ h=>h.elim
structure Fun (K:PySem.W.Frag) (x qual:Str) (st:Stmt) (f:Addr) (fd:FuncData):Prop where
 ex:∃ (oc:Value) (od:Option Addr) (kV doc pm:Value) (an:Option Addr) (cdv ct:Value) (osl:Array (Option Value)),
  fd=PySem.W.fnOf x qual (br st) (bo st) (ah st) .none kV doc pm an cdv ct∧K.lookup f=some ⟨oc,od,.func fd,osl⟩∧PySem.W.codeIn K cdv qual=true
 kp:PySem.W.keepIn K (.ref f)=true
section
variable {P:Program} {w:World} {K:PySem.W.Frag} {mg:Str→Option Value} {base:Heap}
theorem Fun.ok {x qual:Str} {st:Stmt} {f:Addr} {fd:FuncData} {N ps:List Str} {k:Nat} {sp:Sp} (F:Fun K x qual st f fd) (S:ax N ps (ah st)) (len:∀ vs H Q E,sp vs H Q E→vs.length=ps.length)
  (hbody:∀ (cdv:Value) (A:Around) (outer:List Env) (s:Shared) (H:Hp) (vs:List V) (Q:VK) (E:XK),Room k (A.deeper (envOfC qual (ah st) s.heap.objs.size f cdv))→sp vs H Q E→
   ∃ t,PSs (cxOf CX0 P w K mg base N qual (ah st) f cdv A outer s H E).nox (bo st) t∧t { nx:=fun _ H'=>Q .non H',rt:=Q } (start N vs) H):FnOk P w K mg base CX0 (k+1) f fd ps sp:=by
 obtain ⟨oc,od,kV,doc,pm,an,cdv,ct,osl,rfl,lk,hcd⟩:=F.ex
 refine yp lk hcd S len fun A outer s H vs Q E hr hsp=>?_
 obtain ⟨t,h,q⟩:=hbody cdv A outer s H vs Q E hr hsp
 exact ⟨t,h.nox,q⟩
theorem Fun.binds {x qual:Str} {st:Stmt} {f:Addr} {fd:FuncData} {ps:List Str} (F:Fun K x qual st f fd)
  (h:∀ (kV doc pm:Value) (an:Option Addr) (cdv ct:Value) (us:List Value),us.length=ps.length→bindArgs (PySem.W.fnOf x qual (br st) (bo st) (ah st) .none kV doc pm an cdv ct) ⟨us,[]⟩=pure (ps.zip us)):Binds K fd ps []:=by
 obtain ⟨oc,od,kV,doc,pm,an,cdv,ct,osl,rfl,lk,hcd⟩:=F.ex
 exact .all (h kV doc pm an cdv ct)
theorem aA {x qual:Str} {st:Stmt} {f:Addr} {oc:Value} {od an:Option Addr} {osl:Array (Option Value)} {kV doc pm cdv ct:Value} (l:K.lookup f=some ⟨oc,od,.func (PySem.W.fnOf x qual (br st) (bo st) (ah st) .none kV doc pm an cdv ct),osl⟩)
  (c:PySem.W.codeIn K cdv qual=true) (k:PySem.W.keepIn K (.ref f)=true):Fun K x qual st f (PySem.W.fnOf x qual (br st) (bo st) (ah st) .none kV doc pm an cdv ct):=⟨⟨oc,od,kV,doc,pm,an,cdv,ct,osl,rfl,l,c⟩,k⟩
end
theorem aJ {n:Nat} (h:n≤1000):n < sizeLine:=Nat.lt_of_le_of_lt h (by decide)
section
variable {X:Cx}
theorem pv (i:Nat) {x:Str} {pos:Pos} (hN:X.N[i]? =some x:=by rfl) (hv:Vis X.env.scope x:=by first | exact Or.inl rfl | exact Or.inr (Or.inl rfl) | exact Or.inr (Or.inr rfl)) (hd:(x==("__debug__":Str))=false:=by decide)
  (hcd:(x==("__classdict__":Str))=false:=by decide):PE X (.Name x pos) (tVar i):=xl hN hv hd hcd
end
theorem iteF {A B:Prop} (h:B):if false=true then A else B:=by
 rw [if_neg Bool.false_ne_true]
 exact h
theorem iteT {A B:Prop} (h:A):if true=true then A else B:=by
 rw [if_pos rfl]
 exact h
def Same (H H':Hp):Prop:=∀ b o,H b=some o→H' b=some o
theorem Same.refl (H:Hp):Same H H:=fun _ _ h=>h
theorem Same.trans {H H1 H2:Hp} (a:Same H H1) (b:Same H1 H2):Same H H2:=fun c o h=>b c o (a c o h)
theorem Same.free {H H':Hp} (e:Same H H') {l:Addr} (h:H' l=Option.none):H l=Option.none:=by
 cases q:H l with
 | none=>rfl
 | some o=>
  rw [e l o q] at h
  cases h
theorem Same.seq {K:PySem.W.Frag} {H H':Hp} {a:Addr} {xs:List V} (e:Same H H') (h:SqL K H a xs):SqL K H' a xs:=by
 rcases h with (h | ⟨o,h⟩) | h
 · exact .inl (.inl (e _ _ h))
 · exact .inl (.inr ⟨o,e _ _ h⟩)
 · exact .inr h
end L2
namespace L2
open PySem PySem.Spec PyProof.Rows
section
variable {κ:Type} [DecidableEq κ]
def valV (kvs:List (κ × V)) (k:κ):Option V:=(kvs.find? fun kv=>decide (kv.1=k)).map (·.2)
def putK (kvs:List (κ × V)) (k:κ) (v:V):List (κ × V):=
 if (kvs.any fun kv=>decide (kv.1=k))=true then kvs.map (fun kv=>if kv.1=k then (kv.1,v) else kv) else kvs++[(k,v)]
theorem p5 {p:κ × V} {r:List (κ × V)} {k:κ} (e:p.1=k):valV (p::r) k=some p.2:=by simp [valV,List.find?_cons,e]
theorem p6 {p:κ × V} {r:List (κ × V)} {k:κ} (e:¬ p.1=k):valV (p::r) k=valV r k:=by simp [valV,List.find?_cons,e]
theorem RelO.isSome_eq {o:Option V} {u:Option Value} (r:RelO o u):o.isSome=u.isSome:=by
 cases o with
 | none=>cases u with
  | none=>rfl
  | some _=>exact (show False from r).elim
 | some _=>cases u with
  | none=>exact (show False from r).elim
  | some _=>rfl
theorem KV.val {kvs:List (κ × V)} {vs:List (κ × Value)} (r:KV kvs vs) (k:κ):RelO (valV kvs k) (valueAt vs k):=by
 unfold KV at r
 induction r with
 | nil=>exact True.intro
 | @cons p q ps qs h t ih=>
  obtain ⟨h1,h2⟩:=h
  by_cases e:p.1=k
  · have e':q.1=k:=h1.symm.trans e
    have b:valueAt (q::qs) k=some q.2:=by simp [valueAt,List.find?_cons,e']
    rw [p5 e,b]; exact h2
  · have e':¬ q.1=k:=fun z=>e (h1.trans z)
    have b:valueAt (q::qs) k=valueAt qs k:=by simp [valueAt,List.find?_cons,e']
    rw [p6 e,b]; exact ih
theorem KV.length {kvs:List (κ × V)} {vs:List (κ × Value)} (r:KV kvs vs):kvs.length=vs.length:=Paired.length r
end
theorem pO {P:Program} {w:World} {k:Key} {u:Value} (r:RelV (kV k) u):(dC P w).is k u=true:=by
 cases k with
 | inl i=>obtain ⟨t,e⟩:=(show ∃ t,u=Value.int i t from r); subst e; exact rh P w i t
 | inr x=>obtain ⟨t,e⟩:=(show ∃ t,u=Value.str x t from r); subst e; exact ri P w x t
theorem o5 {P:Program} {w:World}:∀ {ks:List Key} {us:List Value},Vals (ks.map kV) us→ItemsAre (dC P w) ks us
 | [],_,r=>by rw [List.map_nil] at r; cases r; exact .nil
 | k::ks,_,r=>by
  rw [List.map_cons] at r
  cases r with
  | cons h t=>exact .cons (pO h) (o5 t)
abbrev KT (H:Hp):List (List Key × V)→List (List Key × Addr × Value)→Prop:=Paired fun p q=>p.1=q.1∧H q.2.1=some (.tup (p.1.map kV))∧RelV p.2 q.2.2
theorem KT.val {H:Hp} {kvs:List (List Key × V)} {xs:List (List Key × Addr × Value)} (r:KT H kvs xs) (k:List Key):RelO (valV kvs k) ((atKey xs k).map (·.2)):=by
 induction r with
 | nil=>exact True.intro
 | @cons p q ps qs h t ih=>
  obtain ⟨h1,_,h2⟩:=h
  by_cases e:p.1=k
  · have e':q.1=k:=h1.symm.trans e
    have b:atKey (q::qs) k=some q.2:=by simp [atKey,List.find?_cons,e']
    rw [p5 e,b]; exact h2
  · have e':¬ q.1=k:=fun z=>e (h1.trans z)
    have b:atKey (q::qs) k=atKey qs k:=by simp [atKey,List.find?_cons,e']
    rw [p6 e,b]; exact ih
section
variable {P:Program} {w:World} {H:Hp} {h:Heap} {a:Addr}
theorem wj {u:HO} (ok:HOk P w H h) (e:Rd H a u):ObjOk P w H h a u:=e.ok ok
theorem m7 {kvs:List (Key × V)} (ok:HOk P w H h) (e:Rd H a (.dK kvs)):kvs.length≤sizeLine∧(a==sysModules)=false∧∃ vs,KV kvs vs∧h.DictOf (dC P w) a vs:=
 show ObjOk P w H h a (.dK kvs) from wj ok e
theorem m8 {ks:List Key} (ok:HOk P w H h) (e:H a=some (.tup (ks.map kV))):(tupleKind (dC P w)).is h ks a:=by
 obtain ⟨_,its,r,o,h1,h2,n,h3⟩:=(show ObjOk P w H h a (.tup (ks.map kV)) from ok a _ e)
 exact ⟨o,its.toArray,n,h1,h2,h3,by simpa using o5 r⟩
theorem pP {kvs:List (List Key × V)} (ok:HOk P w H h) (e:Rd H a (.dT kvs)):kvs.length≤sizeLine∧(a==sysModules)=false∧
  ∃ xs,KT H kvs xs∧h.DictOfH (tupleKind (dC P w)) a xs:=by
 obtain ⟨z,y,xs,r,o,es,ep,h1,h2,h3,h4,h5⟩:=(show ObjOk P w H h a (.dT kvs) from wj ok e)
 refine ⟨z,y,xs,r,o,es,ep,h1,h2,h3,h4,fun x hx=>?_,h5⟩
 have all:∀ {l:List (List Key × V)} {m:List (List Key × Addr × Value)},KT H l m→∀ x∈m,(tupleKind (dC P w)).is h x.1 x.2.1:=by
  intro l m q
  induction q with
  | nil=>intro x hx; exact nomatch hx
  | @cons p q ps qs hq t ih=>
   intro x hx
   rcases List.mem_cons.mp hx with e | hx
   · subst e
     exact m8 ok (by rw [← hq.1]; exact hq.2.1)
   · exact ih x hx
 exact all r x hx
end
def DGet (H:Hp) (a:Addr) (y:V) (r:Option V):Prop:=
 (∃ kvs k,Rd H a (.dK kvs)∧y=kV k∧r=valV kvs k)∨∃ kvs k b,Rd H a (.dT kvs)∧y=.ref b∧H b=some (.tup (k.map kV))∧r=valV kvs k
def DPut (H:Hp) (a:Addr) (y v:V) (H':Hp):Prop:=
 (∃ kvs k,H a=some (.dK kvs)∧y=kV k∧kvs.length < sizeLine∧H'=upd H a (.dK (putK kvs k v)))∨
 ∃ kvs k b,H a=some (.dT kvs)∧y=.ref b∧H b=some (.tup (k.map kV))∧kvs.length < sizeLine∧H'=upd H a (.dT (putK kvs k v))
theorem DGet.k {H:Hp} {a:Addr} {kvs:List (Key × V)} {k:Key} (e:H a=some (.dK kvs)):DGet H a (kV k) (valV kvs k):=.inl ⟨kvs,k,.inl e,rfl,rfl⟩
section
variable {X:Cx} {pins:List (Addr × Obj)} {σ:St} {H:Hp} {s:Shared} {a:Addr} {y v:V} {u r:Value} {o:Option V} {A:Around} {E:Value→Shared→Prop}
theorem uj {Q:Value→Shared→Prop} (hu:A.units+1 < cLine) (I:Inv X pins σ H s) (g:DGet H a y (some v)) (ry:RelV y u) (h:∀ w' s',Inv X pins σ H s'→RelV v w'→Q w' s'):
  wpAny (model X.prog X.w) A (getItem (.ref a) u) Q E s:=by
 rcases g with ⟨kvs,k,e,ey,l⟩ | ⟨kvs,k,b,e,ey,eb,l⟩
 · subst ey
   obtain ⟨z,hd,vs,rel,dd⟩:=m7 I.hok e
   obtain ⟨w',hw,rw'⟩:=RelO.some_of (v:=v) (o:=valueAt vs k) (by rw [l]; exact rel.val k)
   exact wpAny_getItem_of (pO ry) dd.mapOf hw (h w' _ (I.tok _) rw')
 · subst ey
   cases (show u=Value.ref b from ry)
   obtain ⟨z,hd,xs,rel,dd⟩:=pP I.hok e
   obtain ⟨w',hw,rw'⟩:=RelO.some_of (v:=v) (o:=(atKey xs k).map (·.2)) (by rw [l]; exact rel.val k)
   obtain ⟨p,hp,hp2⟩:=Option.map_eq_some_iff.mp hw
   refine wpAny_getItem_heap (tupleKind_room_in1 hu) (m8 I.hok eb) dd hp ?_
   rw [hp2]
   exact h w' _ (I.tok _) rw'
theorem yF {Q:Value→Shared→Prop} (hu:A.units+1 < cLine) (I:Inv X pins σ H s) (g:DGet H a y o) (ry:RelV y u) (h:∀ s',Inv X pins σ H s'→Q (.bool o.isSome) s'):
  wpAny (model X.prog X.w) A (compareOp .In u (.ref a)) Q E s:=by
 rcases g with ⟨kvs,k,e,ey,l⟩ | ⟨kvs,k,b,e,ey,eb,l⟩
 · subst ey
   obtain ⟨z,hd,vs,rel,dd⟩:=m7 I.hok e
   refine wpAny_in_of (pO ry) hd dd.mapOf ?_
   rw [← (rel.val k).isSome_eq,← l]
   exact h _ (I.tok _)
 · subst ey
   cases (show u=Value.ref b from ry)
   obtain ⟨z,hd,xs,rel,dd⟩:=pP I.hok e
   refine wpAny_in_heap (tupleKind_room_in1 hu) (m8 I.hok eb) hd dd ?_
   have q:=(rel.val k).isSome_eq
   rw [Option.isSome_map] at q
   rw [← q,← l]
   exact h _ (I.tok _)
theorem wF {Q:Value→Shared→Prop} (hu:A.units+1 < cLine) (I:Inv X pins σ H s) (g:DGet H a y o) (ry:RelV y u) (h:∀ s',Inv X pins σ H s'→Q (.bool (!o.isSome)) s'):
  wpAny (model X.prog X.w) A (compareOp .NotIn u (.ref a)) Q E s:=by
 rcases g with ⟨kvs,k,e,ey,l⟩ | ⟨kvs,k,b,e,ey,eb,l⟩
 · subst ey
   obtain ⟨z,hd,vs,rel,dd⟩:=m7 I.hok e
   refine wpAny_notIn_of (pO ry) hd dd.mapOf ?_
   rw [← (rel.val k).isSome_eq,← l]
   exact h _ (I.tok _)
 · subst ey
   cases (show u=Value.ref b from ry)
   obtain ⟨z,hd,xs,rel,dd⟩:=pP I.hok e
   refine wpAny_notIn_heap (tupleKind_room_in1 hu) (m8 I.hok eb) hd dd ?_
   have q:=(rel.val k).isSome_eq
   rw [Option.isSome_map] at q
   rw [← q,← l]
   exact h _ (I.tok _)
end
section
variable {X:Cx} {pins:List (Addr × Obj)} {σ:St} {H:Hp} {s:Shared} {a:Addr} {kvs:List (Key × V)} {k:Key} {u:Value} {A:Around} {E:Value→Shared→Prop}
theorem yq {Q:Value→Shared→Prop} (I:Inv X pins σ H s) (e:Rd H a (.dK kvs)) (h:∀ t s',Inv X pins σ H s'→Q (.int kvs.length t) s'):wpAny (model X.prog X.w) A (call (.builtin "len") [.ref a]) Q E s:=by
 obtain ⟨z,hd,vs,rel,dd⟩:=m7 I.hok e
 refine call_len_dict hd dd (by rw [← rel.length]; rw [sizeLine_eq] at z; omega) ?_
 rw [← rel.length]
 exact h _ _ (I.tok _)
end
theorem rk {X:Cx} {pins:List (Addr × Obj)} {σ:St} {H:Hp} {s:Shared} {a:Addr} {y:V} {o:Option V} (I:Inv X pins σ H s) (g:DGet H a y o):s.TypeIs (.ref a) "dict":=by
 rcases g with ⟨kvs,k,e,_,_⟩ | ⟨kvs,k,b,e,_,_,_⟩
 · obtain ⟨_,_,vs,_,dd⟩:=m7 I.hok e
   exact dd.typeIs
 · obtain ⟨_,_,xs,_,dd⟩:=pP I.hok e
   exact dd.typeIs
def sDPut (td ty tv:TE):TS:=fun D σ H=>tv σ H fun v H1=>td σ H1 fun x H2=>ty σ H2 fun y H3=>∃ a H4,x=.ref a∧DPut H3 a y v H4∧D.nx σ H4
def xE:TE:=fun _ H Q=>∀ p,H p=none→Q (.ref p) (upd H p (.dK []))
end L2
namespace L2
open PySem PySem.Spec PyProof.Rows
section
variable {X:Cx}
theorem uk:CallR X (.builtin "len") (fun xs H Q=>∃ a kvs,xs=[V.ref a]∧H a=some (.dK kvs)∧Q (.int kvs.length) H):=by
 intro pins s σ H xs us Q I r h
 obtain ⟨a,kvs,rfl,ha,q⟩:=h
 obtain ⟨u,rfl,ru⟩:=dP r
 cases ru
 exact yq I (.inl ha) fun t s' I'=>⟨.int kvs.length,H,I',⟨t,rfl⟩,q⟩
end
end L2
namespace L2
open PySem PySem.Spec PyProof.Rows
theorem cp {α:Type} (x:Str):∀ (a b:List (Str × α)),(a++b).lookup x=match a.lookup x with | some c=>some c | none=>b.lookup x
 | [],b=>rfl
 | (k,v)::r,b=>by
  rw [List.cons_append,List.lookup_cons,List.lookup_cons]
  cases x==k with
  | true=>rfl
  | false=>exact cp x r b
theorem iy:∀ (names:List (Str × NameKind)) (n:Nat) (acc cl:List (Str × Addr)),cellsFrom n names (acc++cl)=cellsFrom n names acc++cl
 | [],_,_,_=>rfl
 | (y,k)::r,n,acc,cl=>by
  unfold cellsFrom
  split
  · rw [← List.cons_append]; exact iy r _ _ cl
  · exact iy r _ _ cl
theorem fm {x:Str} {c:Addr}:∀ (names:List (Str × NameKind)) (n:Nat) (acc:List (Str × Addr)),(x,c)∈cellsFrom n names acc→(x,NameKind.cell)∈names∨(x,c)∈acc
 | [],_,_,h=>.inr h
 | (y,k)::r,n,acc,h=>by
  unfold cellsFrom at h
  split at h
  · rename_i hk
    have hk:k=.cell:=by simpa using hk
    subst hk
    rcases fm r _ _ h with z | z
    · exact .inl (List.mem_cons_of_mem _ z)
    · rcases List.mem_cons.mp z with z | z
      · cases z; exact .inl List.mem_cons_self
      · exact .inr z
  · rcases fm r _ _ h with z | z
    · exact .inl (List.mem_cons_of_mem _ z)
    · exact .inr z
theorem j8 {env:Env} (f:Str × NameKind→List (Str × Addr)→Sem (ForInStep (List (Str × Addr))))
  (hf:∀ name kind cs,f (name,kind) cs=if kind==.free then (do let a ← cellOf env name; pure (.yield ((name,a)::cs))) else pure (.yield cs)):
  ∀ (names:List (Str × NameKind)) (acc:List (Str × Addr)),(∀ x,(x,NameKind.free)∈names→∃ c,env.cells.lookup x=some c)→(∀ x c,acc.lookup x=some c→env.cells.lookup x=some c)→
   ∃ cl,forIn names acc f=(pure cl:Sem _)∧(∀ x c,cl.lookup x=some c→env.cells.lookup x=some c)∧(∀ x,((x,NameKind.free)∈names∨∃ c,acc.lookup x=some c)→∃ c,cl.lookup x=some c)
 | [],acc,_,h2=>⟨acc,rfl,h2,fun x h=>h.elim (fun z=>nomatch z) id⟩
 | (y,k)::r,acc,h1,h2=>by
  rw [List.forIn_cons,hf]
  by_cases hk:(k==NameKind.free)=true
  · rw [if_pos hk]
    have hk':k=.free:=by simpa using hk
    subst hk'
    obtain ⟨c,hc⟩:=h1 y List.mem_cons_self
    have e:(cellOf env y:Sem Addr)=pure c:=by unfold cellOf; rw [hc]
    rw [e]
    obtain ⟨cl,e1,e2,e3⟩:=j8 f hf r ((y,c)::acc) (fun x hx=>h1 x (List.mem_cons_of_mem _ hx)) (fun x c' hx=>by
     rw [List.lookup_cons] at hx
     cases hb:x==y with
     | true=>rw [hb] at hx; cases hx; rw [beq_iff_eq.mp hb]; exact hc
     | false=>rw [hb] at hx; exact h2 x c' hx)
    refine ⟨cl,?_,e2,fun x hx=>e3 x ?_⟩
    · exact e1
    · rcases hx with hx | ⟨c',hx⟩
      · rcases List.mem_cons.mp hx with z | z
        · cases z; exact .inr ⟨c,by rw [List.lookup_cons]; simp⟩
        · exact .inl z
      · cases hb:x==y with
        | true=>exact .inr ⟨c,by rw [List.lookup_cons,hb]⟩
        | false=>exact .inr ⟨c',by rw [List.lookup_cons,hb]; exact hx⟩
  · rw [if_neg hk]
    obtain ⟨cl,e1,e2,e3⟩:=j8 f hf r acc (fun x hx=>h1 x (List.mem_cons_of_mem _ hx)) h2
    refine ⟨cl,e1,e2,fun x hx=>e3 x ?_⟩
    rcases hx with hx | hx
    · rcases List.mem_cons.mp hx with z | z
      · cases z; exact absurd rfl hk
      · exact .inl z
    · exact .inr hx
theorem sE {scope:Scope} {env:Env} (h:∀ x,(x,NameKind.free)∈scope.names→∃ c,env.cells.lookup x=some c):
  ∃ cl,closureFor scope env=pure cl∧(∀ x c,cl.lookup x=some c→env.cells.lookup x=some c)∧∀ x,(x,NameKind.free)∈scope.names→∃ c,cl.lookup x=some c:=by
 obtain ⟨cl,e1,e2,e3⟩:=j8 (env:=env) (fun x cs=>match x with | (name,kind)=>if kind==.free then (do let a ← cellOf env name; pure (.yield ((name,a)::cs))) else pure (.yield cs)) (fun _ _ _=>rfl) scope.names [] h (fun x c hx=>nomatch hx)
 refine ⟨cl,?_,e2,fun x hx=>e3 x (.inl hx)⟩
 have:closureFor scope env=(forIn scope.names [] (fun x cs=>match x with | (name,kind)=>if kind==.free then (do let a ← cellOf env name; pure (.yield ((name,a)::cs))) else pure (.yield cs)) >>= fun cs=>pure cs):=by
  simp only [closureFor]
 rw [this,e1]
 rfl
def ul (scope:Scope) (cl:List (Str × Addr)) (C:Addr) (env:Env):Env:=
 { newEnv scope C env.globals (cellsFrom (C+1) scope.names cl) env.qual none .none (some env) builtinsNs with scope:=relabel scope env }
theorem vy {M:Model} {A:Around} {E:Value→Shared→Prop} {s:Shared} {scope:Scope} {cl:List (Str × Addr)} {env:Env} {Q:Env→Shared→Prop}
  (hQ:Q (newEnv scope s.heap.objs.size env.globals (cellsFrom (s.heap.objs.size+1) scope.names cl) env.qual none .none (some env) builtinsNs) { s with heap:=pushCells (s.heap.push { cls:=.type "dict",data:=.dict #[] }) scope.names }):
  wpAny M A (newFunctionEnv scope env.globals cl [] env.qual none .none (some env)) Q E s:=by
 simp only [newFunctionEnv,Option.isSome_some,if_true]
 refine wpAny_bind (wpAny_alloc ?_)
 refine wpAny_bind (wpAny_layCells _ (fun name kind cells=>by cases hkc:kind==NameKind.cell <;> simp [hkc]) _ _ _ _ ?_)
 rw [show ({ s with heap:=s.heap.push { cls:=.type "dict",data:=.dict #[] } }:Shared).heap.objs.size=s.heap.objs.size+1 from Heap.size_push ..]
 refine wpAny_bind ?_
 rw [List.forIn_nil]
 exact wpAny_pure (wpAny_pure hQ)
section
variable {prog:Program} {w:World} {A:Around} {E:Value→Shared→Prop} {R:Result→Shared→Prop} {s:Shared}
theorem um {elt target iter:Expr} {ifs:List Expr} {scope:Scope} {pos:Pos} {it acc:Value} {env:Env} (I:Nat→Shared→Prop)
  (turn:∀ n s,I n s→wpAny (model prog w) A (pyNext it) (fun r s₁=>match r with
   | none=>R (.ok .next) s₁
   | some v=>wpAny (model prog w) A (letOwnedTupleGo target it v) (fun _ s₁'=>wpAny (model prog w) A (assign target env v) (fun _ s₂=>
     wpAny (model prog w) A (forIn ifs true fun c r=>if r=true then do let ok ← isTrue c env (eval c env); pure (ForInStep.yield ok) else pure (ForInStep.yield r)) (fun ok s₃=>
      if ok=true then wpAny (model prog w) A (eval elt env) (fun x s₄=>
       wpAny (model prog w) A (call (.builtin "list.append") [acc,x]) (fun _ s₅=>∃ m,m < n∧I m s₅) (notedBy (model prog w) A env fun e s'=>R (.error e) s') s₄) (notedBy (model prog w) A env fun e s'=>R (.error e) s') s₃
      else ∃ m,m < n∧I m s₃) (notedBy (model prog w) A env fun e s'=>R (.error e) s') s₂) (notedBy (model prog w) A env fun e s'=>R (.error e) s') s₁') (notedBy (model prog w) A env fun e s'=>R (.error e) s') s₁) (notedBy (model prog w) A env fun e s'=>R (.error e) s') s)
  (n:Nat) (h:I n s):
  codeAny (model prog w) A (.compLoop (.ListComp elt [⟨target,iter,ifs,0⟩] scope pos) 0 it acc env) R s:=by
 refine codeAny_loop rfl I (fun n s hI=>?_) n h
 show wpAny _ A ((compTurn (.ListComp elt [⟨target,iter,ifs,0⟩] scope pos) 0 it acc env).onRaise (fun x=>do noteFrame x env; theTreesLotGoes x)) _ _ s
 refine wpAny_noted ?_
 rw [compTurn_list]
 refine wpAny_bind (wpAny_standAt (wpAny_bind (wpAny_mono (turn n s hI) (fun r s₁ h₁=>?_) fun _ _ h'=>h')))
 cases r with
 | none=>exact wpAny_pure h₁
 | some v=>
  refine wpAny_bind (wpAny_mono h₁ (fun _ s₁' h₁'=>?_) fun _ _ h'=>h')
  refine wpAny_bind (wpAny_mono h₁' (fun _ s₂ h₂=>wpAny_bind (wpAny_mono h₂ (fun ok s₃ h₃=>?_) fun _ _ h'=>h')) fun _ _ h'=>h')
  cases ok with
  | false=>exact wpAny_pure ⟨rfl,h₃⟩
  | true=>
   exact wpAny_bind (wpAny_bind (wpAny_mono h₃ (fun x s₄ h₄=>wpAny_bind (wpAny_mono h₄ (fun _ s₅ h₅=>wpAny_pure (wpAny_pure ⟨rfl,h₅⟩)) fun _ _ h'=>h')) fun _ _ h'=>h'))
end
end L2
namespace L2
open PySem PySem.Spec PyProof.Rows
theorem ja {scope:Scope} {env:Env} {x:Str} {k:NameKind} (h:(relabel scope env).names.lookup x=some k):∃ k',scope.names.lookup x=some k'∧(k=k'∨(k'=.free∧k=.cell)):=by
 unfold relabel at h
 dsimp only at h
 generalize scope.names=names at h ⊢
 induction names with
 | nil=>cases h
 | cons p r ih=>
  obtain ⟨n,k0⟩:=p
  rw [List.map_cons] at h
  rw [List.lookup_cons]
  cases hb:x==n with
  | true=>
   refine ⟨k0,rfl,?_⟩
   dsimp only at h
   split at h
   · rename_i hc
     rw [List.lookup_cons,hb] at h
     cases h
     simp only [Bool.and_eq_true,beq_iff_eq] at hc
     exact .inr ⟨hc.1.1,rfl⟩
   · rw [List.lookup_cons,hb] at h
     cases h
     exact .inl rfl
  | false=>
   dsimp only at h
   refine ih ?_
   split at h
   · rw [List.lookup_cons,hb] at h; exact h
   · rw [List.lookup_cons,hb] at h; exact h
def blkCx (X:Cx) (N:List Str) (scope:Scope) (cl:List (Str × Addr)) (s:Shared) (H:Hp) (fp:List Addr):Cx where
 prog:=X.prog
 w:=X.w
 K:=X.K
 mg:=X.mg
 base:=X.base
 A:=X.A
 N:=N
 s₀:=s
 H₀:=H
 env:=ul scope cl (s.heap.objs.size+1) X.env
 outer:=X.stack
 stack:=X.stack
 ex:=fp
 fn:=fun x=>scope.names.lookup x==some .cell
 calm:=X.calm
 pn:=[]
 xe:=fun e₀ s₁=>(∃ (pins:List (Addr × Obj)) (σ:St),Inv X pins σ H s∧∀ b∈fp,FpOk X pins H b)→notedBy (model X.prog X.w) X.A (ul scope cl (s.heap.objs.size+1) X.env) (fun x s'=>∃ m,s'.heap.Ns (s.heap.objs.size+1) m∧∀ h',Heap.SameBut (s.heap.objs.size+1) s'.heap h'→∀ cenv:Env,cenv.locals=s.heap.objs.size+1→
  wpAny (model X.prog X.w) X.A (passOn "comprehension.variables-let-go" x cenv:Sem Value) (fun _ _=>False) X.xe { s' with heap:=h' }) e₀ s₁
def subσ (ix:List (Option Nat)) (σ:St):St:=ix.map fun o=>match o with | none=>none | some i=>match σ[i]? with | some v=>v | none=>none
structure BlkOk (X:Cx) (N:List Str) (ix:List (Option Nat)) (scope:Scope):Prop where
 kind:scope.kind=.function
 nd:N.Nodup
 len:ix.length=N.length
 names:(scope.names.map (·.1)).Nodup
 free:∀ x,(x,NameKind.free)∈scope.names→X.env.kindOf x=some .cell∨X.env.kindOf x=some .free
 at_:∀ (j i:Nat) (x:Str),N[j]? =some x→ix[j]? =some (some i)→X.N[i]? =some x∧(x,NameKind.free)∈scope.names
theorem dy {α:Type}:∀ {l:List (Str × α)} {x:Str} {k:α},(l.map (·.1)).Nodup→(x,k)∈l→l.lookup x=some k
 | (y,k0)::r,x,k,nd,h=>by
  rw [List.map_cons,List.nodup_cons] at nd
  rw [List.lookup_cons]
  rcases List.mem_cons.mp h with e | e
  · cases e; simp
  · have:x≠y:=by
     rintro rfl
     exact nd.1 (List.mem_map.mpr ⟨(x,k),e,rfl⟩)
    have hb:(x==y)=false:=by simpa using this
    rw [hb]
    exact dy nd.2 e
theorem uo {X:Cx} {pins:List (Addr × Obj)} {σ:St} {H:Hp} {s:Shared} {N:List Str} {ix:List (Option Nat)} {scope:Scope} {cl:List (Str × Addr)} {fp:List Addr} (B:BlkOk X N ix scope)
  (I:Inv X pins σ H s) (hcl:∀ x c,cl.lookup x=some c→X.env.cells.lookup x=some c) (hcf:∀ x,(x,NameKind.free)∈scope.names→∃ c,cl.lookup x=some c)
  (hfp:∀ b∈fp,FpOk X pins H b) (hob:∀ b∈fp,∃ o,s.heap.get? b=some o∧∀ v,o.data≠.cell v):
  Inv (blkCx X N scope cl s H fp) [] (subσ ix σ) (upd H s.heap.objs.size (.lst []))
   { s with heap:=pushCells ((s.heap.push { cls:=.type "list",data:=.seq #[] }).push { cls:=.type "dict",data:=.dict #[] }) scope.names }:=by
 have hs2:(s.heap.push { cls:=.type "list",data:=.seq #[] }).objs.size=s.heap.objs.size+1:=Heap.size_push ..
 have hs3:((s.heap.push { cls:=.type "list",data:=.seq #[] }).push { cls:=.type "dict",data:=.dict #[] }).objs.size=s.heap.objs.size+2:=by rw [Heap.size_push,hs2]
 have hk:∀ b o,s.heap.get? b=some o→(pushCells ((s.heap.push { cls:=.type "list",data:=.seq #[] }).push { cls:=.type "dict",data:=.dict #[] }) scope.names).get? b=some o:=
  fun b o e=>pushCells_keeps _ _ b o (Heap.get?_push_of_some _ (Heap.get?_push_of_some _ e))
 have hl:(pushCells ((s.heap.push { cls:=.type "list",data:=.seq #[] }).push { cls:=.type "dict",data:=.dict #[] }) scope.names).get? s.heap.objs.size=some { cls:=.type "list",data:=.seq #[] }:=
  pushCells_keeps _ _ _ _ (Heap.get?_push_of_some _ (Heap.get?_push_size _ rfl))
 have ok0:=cellsFrom_ok scope.names ((s.heap.push { cls:=.type "list",data:=.seq #[] }).push { cls:=.type "dict",data:=.dict #[] }) (s.heap.objs.size+2) [] ⟨fun _ _ hm=>(nomatch hm),List.Pairwise.nil⟩ (by rw [hs3]; exact Nat.le_refl _)
 rw [hs3] at ok0
 have hcells:(blkCx X N scope cl s H fp).env.cells=cellsFrom (s.heap.objs.size+2) scope.names []++cl:=by
  show cellsFrom (s.heap.objs.size+1+1) scope.names cl=_
  rw [← List.nil_append cl,iy]
  simp
 have cases_:∀ x c,(blkCx X N scope cl s H fp).env.cells.lookup x=some c→((x,c)∈cellsFrom (s.heap.objs.size+2) scope.names []∧(x,NameKind.cell)∈scope.names)∨((cellsFrom (s.heap.objs.size+2) scope.names []).lookup x=none∧cl.lookup x=some c):=fun x c e=>by
  rw [hcells,cp] at e
  cases q:(cellsFrom (s.heap.objs.size+2) scope.names []).lookup x with
  | none=>rw [q] at e; exact .inr ⟨rfl,e⟩
  | some c'=>
   rw [q] at e
   cases e
   have m:=PySem.mem_of_lookup q
   refine .inl ⟨m,?_⟩
   rcases fm _ _ _ m with z | z
   · exact z
   · exact nomatch z
 have oldc:∀ x c,cl.lookup x=some c→c < s.heap.objs.size:=fun x c e=>by
  obtain ⟨v,q⟩:=I.cell x c (hcl x c e)
  exact q.lt
 have hfree:H s.heap.objs.size=none:=I.hok.fresh (Nat.le_refl _)
 have hfix:∀ b,s.heap.objs.size < b→(upd H s.heap.objs.size (.lst [])) b=none:=fun b hb=>by
  rw [aq (Nat.ne_of_gt hb)]
  exact I.hok.fresh (Nat.le_of_lt hb)
 have hlt:∀ b∈fp,b < s.heap.objs.size:=fun b hb=>by
  obtain ⟨o,e,_⟩:=hob b hb
  exact Heap.lt_size e
 have e0:=I.env0
 have isnew:∀ x c,(x,c)∈cellsFrom (s.heap.objs.size+2) scope.names []→s.heap.objs.size+2≤c:=fun x c m=>(ok0.empty x c m).2
 refine ⟨⟨I.ok.mod,B.kind,I.ok.glob,I.ok.blt,Nat.le_succ _,fun x y c e1 e2=>?_,fun x hx=>?_,fun x c hx e=>?_,I.ok.hd,I.ok.frames,.inl rfl,fun b hb=>⟨?_,fun x c e=>?_⟩,e0.bs,e0.bsz,fun b o e hb=>?_,fun b hb hb2=>?_,e0.funs,e0.frf⟩,
  rfl,I.bare,Un.laid hk (Nat.le_refl _) hfree,⟨fun _=>none,?_,fun j x v e1 e2 e3=>?_⟩,fun x c e=>?_,hfix _ (Nat.lt_succ_self _),fun x c e=>?_,fun p hp=>absurd (show p∈([]:List (Addr × Obj)) from hp) (by simp),?_,?_⟩
 · rcases cases_ x c e1 with ⟨m1,k1⟩ | ⟨n1,q1⟩ <;> rcases cases_ y c e2 with ⟨m2,k2⟩ | ⟨n2,q2⟩
   · exact name_of_addr ok0.apart m1 m2
   · exact absurd (Nat.lt_of_lt_of_le (oldc _ _ q2) (Nat.le_trans (Nat.le_add_right _ _) (isnew _ _ m1))) (Nat.lt_irrefl _)
   · exact absurd (Nat.lt_of_lt_of_le (oldc _ _ q1) (Nat.le_trans (Nat.le_add_right _ _) (isnew _ _ m2))) (Nat.lt_irrefl _)
   · exact I.ok.inj x y c (hcl _ _ q1) (hcl _ _ q2)
 · have hx':(relabel scope X.env).names.lookup x=some .cell∨(relabel scope X.env).names.lookup x=some .free:=hx
   have key:scope.names.lookup x=some .cell∨scope.names.lookup x=some .free:=by
    rcases hx' with z | z
    · obtain ⟨k',e,r | r⟩:=ja z
      · rw [← r] at e; exact .inl e
      · rw [r.1] at e; exact .inr e
    · obtain ⟨k',e,r | r⟩:=ja z
      · rw [← r] at e; exact .inr e
      · cases r.2
   rw [hcells]
   rcases key with z | z
   · obtain ⟨c,q⟩:=j7 (n:=s.heap.objs.size+2) z
     exact ⟨c,by rw [cp,q]⟩
   · obtain ⟨c,q⟩:=hcf x (PySem.mem_of_lookup z)
     cases q2:(cellsFrom (s.heap.objs.size+2) scope.names []).lookup x with
     | none=>exact ⟨c,by rw [cp,q2]; exact q⟩
     | some c'=>exact ⟨c',by rw [cp,q2]⟩
 · have hx':scope.names.lookup x=some .cell:=by simpa [blkCx] using hx
   rcases cases_ x c e with ⟨m1,k1⟩ | ⟨n1,q1⟩
   · exact Nat.le_trans (Nat.le_add_right _ _) (isnew _ _ m1)
   · obtain ⟨c',q⟩:=j7 (n:=s.heap.objs.size+2) hx'
     rw [q] at n1; cases n1
 · exact Nat.ne_of_lt (Nat.lt_succ_of_lt (hlt b hb))
 · rcases cases_ x c e with ⟨m1,k1⟩ | ⟨n1,q1⟩
   · exact Nat.ne_of_gt (Nat.lt_of_lt_of_le (hlt b hb) (Nat.le_trans (Nat.le_add_right _ _) (isnew _ _ m1)))
   · exact (hfp b hb).2.2.2.2.1 x c (hcl _ _ q1)
 · rcases (hfp b hb).2.2.2.1 with z | z
   · exact I.ok.noex b o e z
   · exact absurd (Nat.lt_of_lt_of_le (Heap.lt_size e) (Nat.le_trans I.ok.bsz z)) (Nat.lt_irrefl _)
 · rcases List.mem_cons.mp (I.stkSub b hb2) with z | z
   · exact (hfp b hb).2.1 z
   · exact (hfp b hb).2.2.1 z
 · show Heap.Ns _ (s.heap.objs.size+1) _
   rw [← hs2]
   exact (Heap.Ns.new _ (.type "dict")).keeps (pushCells_keeps _ _)
 ·
   unfold subσ at e2
   rw [List.getElem?_map] at e2
   cases q:ix[j]? with
   | none=>rw [q] at e2; cases e2
   | some o=>
    rw [q] at e2
    cases o with
    | none=>cases e2
    | some i=>
     simp only [Option.map_some,Option.some.injEq] at e2
     obtain ⟨hN,hm⟩:=B.at_ j i x e1 q
     have hσ:σ[i]? =some (some v):=by
      cases q2:σ[i]? with
      | none=>rw [q2] at e2; cases e2
      | some z=>rw [q2] at e2; exact congrArg some e2
     obtain ⟨m,hn,hl'⟩:=I.loc
     have hkind:=B.free x hm
     have hvis:Vis X.env.scope x:=hkind.elim (fun z=>.inr (.inl z)) fun z=>.inr (.inr z)
     obtain ⟨u,ru,lk⟩:=hl' i x v hN hσ hvis
     refine ⟨u,ru,?_⟩
     obtain ⟨c,hc⟩:=hcf x hm
     have hnone:(cellsFrom (s.heap.objs.size+2) scope.names []).lookup x=none:=by
      cases q2:(cellsFrom (s.heap.objs.size+2) scope.names []).lookup x with
      | none=>rfl
      | some c'=>
       rcases fm _ _ _ (PySem.mem_of_lookup q2) with z | z
       · have a1:=dy B.names z
         have a2:=dy B.names hm
         rw [a1] at a2; cases a2
       · exact nomatch z
     have hcell:(blkCx X N scope cl s H fp).env.cells.lookup x=some c:=by rw [hcells,cp,hnone]; exact hc
     have hkk:(blkCx X N scope cl s H fp).env.kindOf x=some .cell∨(blkCx X N scope cl s H fp).env.kindOf x=some .free:=by
      rcases e3 with z | z | z
      · obtain ⟨k',e,r | r⟩:=ja (show (relabel scope X.env).names.lookup x=some .local from z)
        · rw [dy B.names hm] at e; cases e; cases r
        · cases r.2
      · exact .inl z
      · exact .inr z
     refine .inr ⟨hkk,c,hcell,?_⟩
     rcases lk with ⟨k1,_⟩ | ⟨_,c2,e4,z⟩
     · rcases hkind with z | z <;> rw [k1] at z <;> cases z
     · rw [hcl x c hc] at e4; cases e4
       exact z.keeps hk
 · rcases cases_ x c e with ⟨m1,k1⟩ | ⟨n1,q1⟩
   · exact ⟨none,(ok0.empty x c m1).1⟩
   · obtain ⟨v,z⟩:=I.cell x c (hcl _ _ q1)
     exact ⟨v,z.keeps hk⟩
 · rcases cases_ x c e with ⟨m1,k1⟩ | ⟨n1,q1⟩
   · exact hfix c (Nat.lt_of_lt_of_le (Nat.lt_add_of_pos_right (by decide)) (isnew _ _ m1))
   · rw [aq (Nat.ne_of_lt (oldc _ _ q1))]
     exact I.freeC x c (hcl _ _ q1)
 · exact I.hok.laid hk (Nat.le_refl _) ⟨Nat.zero_le _,[],0,.nil,hl⟩
 · show (subσ ix σ).length=N.length
   unfold subσ
   rw [List.length_map]
   exact B.len
end L2
namespace L2
open PySem PySem.Spec PyProof.Rows
def PTs (X:Cx) (ifs:List Expr) (t:TT):Prop:=
 ∀ (pins:List (Addr × Obj)) (s:Shared) (σ:St) (H:Hp) (Q:Bool→Hp→Prop),Inv X pins σ H s→t σ H Q→
  wpAny (model X.prog X.w) X.A (forIn ifs true fun c r=>if r=true then do let ok ← isTrue c X.env (eval c X.env); pure (ForInStep.yield ok) else pure (ForInStep.yield r)) (TP X pins σ Q) X.xe s
def tTrue:TT:=fun _ H Q=>Q true H
theorem dD {X:Cx}:PTs X [] tTrue:=fun _ _ _ H _ I h=>wpAny_tests_nil ⟨H,I,h⟩
theorem dE {X:Cx} {c:Expr} {t:TT} (h:PT X c t):PTs X [c] t:=fun pins s σ H Q I q=>wpAny_tests_one (h pins s σ H Q I q)
def p7 (ix:List (Option Nat)) (wi:TI) (g:TG) (tt:TT) (te:TE) (fin:Addr→Hp→Prop):St→Hp→Prop:=fun σ H=>wi σ H fun J H1=>∀ l,H1 l=none→
 ∃ W:Nat→Nat→St→Hp→Prop,(∃ m,W 0 m (subσ ix σ) (upd H1 l (.lst [])))∧∀ i m σ' H',W i m σ' H'→
  (J.stop i H'∧fin l H')∨(J.go i H'∧∃ N:St→Hp→Prop,(∀ σ'' H'',N σ'' H''→∃ m',m' < m∧W (i+1) m' σ'' H'')∧∀ x H2,J.yld i H' x H2→g x σ' H2 fun σ2 H3=>tt σ2 H3 fun b H4=>
   if b=true then te σ2 H4 fun y H5=>∃ ys,H5 l=some (.lst ys)∧ys.length < sizeLine∧N σ2 (upd H5 l (.lst (ys++[y]))) else N σ2 H4)
section
variable {X:Cx} {pins:List (Addr × Obj)} {σ σ':St} {H H':Hp} {s s':Shared} {N:List Str} {scope:Scope} {cl:List (Str × Addr)} {fp:List Addr}
theorem rX {h':Heap} (I:Inv X pins σ H s) (J:Inv (blkCx X N scope cl s H fp) [] σ' H' s') (hfp:∀ b∈fp,FpOk X pins H b) (sb:Heap.SameBut (s.heap.objs.size+1) s'.heap h'):Inv X pins σ H' { s' with heap:=h' }:=by
 have u:Un (frs X.stack) fp H H' s.heap s'.heap:=J.base
 have hC:H' (s.heap.objs.size+1)=none:=J.free
 have ne:∀ b o,s.heap.get? b=some o→b≠s.heap.objs.size+1:=fun b o e=>Nat.ne_of_lt (Nat.lt_succ_of_lt (Heap.lt_size e))
 refine I.call' (s':={ s' with heap:=h' }) (ch:=fp) J.os ⟨fun b o e n hb hx=>?_,fun b o e n hb hx=>?_,u.free,fun b o e hx=>?_,u.tups,u.frzs,u.tbls⟩ (fun b ob e=>?_) J.bare fun b hb=>?_
 · exact (sb.2 b (ne b o e)).trans (u.keep b o e n hb hx)
 · obtain ⟨sl,q⟩:=u.slot b o e n hb hx
   exact ⟨sl,(sb.2 b (ne b o e)).trans q⟩
 · obtain ⟨o',q⟩:=u.there b o e hx
   exact ⟨o',(sb.2 b (ne b o e)).trans q⟩
 · refine (J.hok b ob e).stay (fun c w' hc q=>(sb.2 c ?_).trans q) (fun _ q=>q) fun _ _ q=>q
   rintro rfl
   rcases hc with rfl | hc
   · rw [hC] at e; cases e
   · rw [hC] at hc; cases hc
 · obtain ⟨f0,f1,f2,f3,f4,f5⟩:=hfp b hb
   exact ⟨f3,f1,f4,f5⟩
theorem p8 {tg iter elt:Expr} {ifs:List Expr} {pos:Pos} {ix:List (Option Nat)} {wi:TI} {g:TG} {tt:TT} {te:TE} {fin:Addr→Hp→Prop} {RR:Value→Addr→Result→Shared→Prop} (B:BlkOk X N ix scope) (hc:X.calm=true)
  (hi:PI X tg iter wi) (hg:∀ cl s H fp,PG (blkCx X N scope cl s H fp) tg g) (ht:∀ cl s H fp,PTs (blkCx X N scope cl s H fp) ifs tt) (he:∀ cl s H fp,PE (blkCx X N scope cl s H fp) elt te)
  (hcl:∀ x c,cl.lookup x=some c→X.env.cells.lookup x=some c) (hcf:∀ x,(x,NameKind.free)∈scope.names→∃ c,cl.lookup x=some c)
  (I:Inv X pins σ H s) (h:p7 ix wi g tt te fin σ H)
  (ok:∀ (s2:Shared) (H2:Hp) (fp:List Addr) (σ3:St) (H3:Hp) (s3:Shared),Inv X pins σ H2 s2→(∀ b∈fp,FpOk X pins H2 b)→Inv (blkCx X N scope cl s2 H2 fp) [] σ3 H3 s3→fin s2.heap.objs.size H3→RR (.ref s2.heap.objs.size) (s2.heap.objs.size+1) (.ok .next) s3)
  (bad:∀ (a C:Addr) (x:Value) (s':Shared),(∃ m,s'.heap.Ns C m∧∀ h',Heap.SameBut C s'.heap h'→∀ cenv:Env,cenv.locals=C→wpAny (model X.prog X.w) X.A (passOn "comprehension.variables-let-go" x cenv:Sem Value) (fun _ _=>False) X.xe { s' with heap:=h' })→RR (.ref a) C (.error x) s'):
  wpAny (model X.prog X.w) X.A (eval iter X.env) (fun x s₁=>wpAny (model X.prog X.w) X.A (pyIter x) (fun it s₂=>wpAny (model X.prog X.w) X.A (newList []) (fun acc s₃=>
   wpAny (model X.prog X.w) X.A (newFunctionEnv scope X.env.globals cl [] X.env.qual none .none (some X.env)) (fun cenv s₄=>
    codeAny (model X.prog X.w) X.A (.compStart (.ListComp elt [⟨tg,iter,ifs,0⟩] scope pos) 0 it acc { cenv with scope:=relabel scope X.env }) (RR acc cenv.locals) s₄) X.xe s₃) X.xe s₂) X.xe s₁) X.xe s:=by
 refine thn (hi pins s σ H _ I h) fun v s1 h1=>thn h1 fun itv s2 h2=>?_
 obtain ⟨it,fp,tn,J,H2,e,I2,T,st2,f2,h2⟩:=h2
 subst e
 refine wpAny_newList (vy ?_) (Nat.zero_le _)
 have hs2:(s2.heap.push { cls:=.type "list",data:=.seq (([]:List Value)).toArray }).objs.size=s2.heap.objs.size+1:=Heap.size_push ..
 dsimp only
 rw [hs2]
 have I3:=uo (fp:=fp) B I2 hcl hcf f2 (T.obj _ _ st2)
 obtain ⟨W,⟨m0,w0⟩,turn⟩:=h2 s2.heap.objs.size I2.fresh
 have hk:∀ b o,s2.heap.get? b=some o→(pushCells ((s2.heap.push { cls:=.type "list",data:=.seq #[] }).push { cls:=.type "dict",data:=.dict #[] }) scope.names).get? b=some o:=
  fun b o e=>pushCells_keeps _ _ b o (Heap.get?_push_of_some _ (Heap.get?_push_of_some _ e))
 have st3:=T.keep _ _ _ st2 fun b _ o e=>hk b o e
 have fr3:∀ b∈fp,(upd H2 s2.heap.objs.size (.lst [])) b=none:=fun b hb=>by
  obtain ⟨o,e,_⟩:=T.obj _ _ st2 b hb
  rw [aq (Nat.ne_of_lt (Heap.lt_size e))]
  exact (f2 b hb).1
 have stat:∀ {σ5:St} {H5:Hp} {s5:Shared},Inv (blkCx X N scope cl s2 H2 fp) [] σ5 H5 s5→(∀ b∈fp,H5 b=none)→∀ b∈fp,FpOk (blkCx X N scope cl s2 H2 fp) [] H5 b:=fun I5 hn b hb=>
  ⟨hn b hb,(I5.ok.exf b hb).1,I5.ok.exfs b hb,.inl hb,(I5.ok.exf b hb).2,fun p hp=>absurd (show p∈([]:List (Addr × Obj)) from hp) (by simp)⟩
 have loop:∀ s₃:Shared,s₃={ s2 with heap:=pushCells ((s2.heap.push { cls:=.type "list",data:=.seq #[] }).push { cls:=.type "dict",data:=.dict #[] }) scope.names }→
   codeAny (model X.prog X.w) X.A (.compLoop (.ListComp elt [⟨tg,iter,ifs,0⟩] scope pos) 0 (.ref it) (.ref s2.heap.objs.size) (blkCx X N scope cl s2 H2 fp).env) (RR (.ref s2.heap.objs.size) (s2.heap.objs.size+1)) s₃:=by
  rintro s₃ rfl
  refine um (fun n s'=>∃ i σ' H',Inv (blkCx X N scope cl s2 H2 fp) [] σ' H' s'∧tn i s'.heap∧(∀ b∈fp,H' b=none)∧W i n σ' H') ?_ m0 ⟨0,_,_,I3,st3,fr3,w0⟩
  rintro n s4 ⟨i,σ4,H4,I4,st4,fr4,w4⟩
  have xe_:∀ x s',(blkCx X N scope cl s2 H2 fp).xe x s'→notedBy (model X.prog X.w) X.A (blkCx X N scope cl s2 H2 fp).env (fun e s'=>RR (.ref s2.heap.objs.size) (s2.heap.objs.size+1) (.error e) s') x s':=fun x s' hx=>
   wpAny_mono (hx ⟨pins,σ,I2,f2⟩) (fun _ s'' q=>bad _ _ _ _ q) fun e s'' q=>bad _ _ _ _ q
  rcases turn i n σ4 H4 w4 with ⟨stop,qn⟩ | ⟨go,Nx,hN,step⟩
  · refine wpAny_mono (T.done (blkCx X N scope cl s2 H2 fp) rfl rfl rfl hc i [] s4 σ4 H4 _ I4 (stat I4 fr4) st4 stop) (fun r s5 ⟨hr,I5⟩=>?_) xe_
    subst hr
    exact ok s2 H2 fp σ4 H4 s5 I2 f2 I5 qn
  · refine wpAny_mono (T.item (blkCx X N scope cl s2 H2 fp) rfl rfl rfl hc i [] s4 σ4 H4 _ I4 (stat I4 fr4) st4 go) (fun r s5 ⟨u,hr,h5⟩=>?_) xe_
    subst hr
    refine wpAny_mono h5 (fun _ s6 ⟨x,H6,I6,r6,y6,st6,fr6⟩=>?_) xe_
    have I6':=I6.pinned (stat I6 fr6) (T.obj _ _ st6)
    refine wpAny_mono (hg cl s2 H2 fp _ s6 σ4 H6 x u _ I6' r6 (step x H6 y6)) (fun _ s7 ⟨σ7,H7,I7,q7⟩=>?_) xe_
    have again:∀ {σ8:St} {H8:Hp} {s8:Shared},Inv (blkCx X N scope cl s2 H2 fp) ([]++kN fp s6.heap) σ8 H8 s8→Nx σ8 H8→∃ m,m < n∧∃ i σ' H',Inv (blkCx X N scope cl s2 H2 fp) [] σ' H' s8∧tn i s8.heap∧(∀ b∈fp,H' b=none)∧W i m σ' H':=fun {σ8 H8 s8} I8 n8=>by
     obtain ⟨m',hm,w8⟩:=hN σ8 H8 n8
     refine ⟨m',hm,i+1,σ8,H8,I8.unpinned,T.keep _ _ _ st6 fun b hb o e=>(I8.pin (b,o) (List.mem_append_right _ (List.mem_append_right _ (iA hb e)))).1,fun b hb=>?_,w8⟩
     obtain ⟨o,e,d⟩:=T.obj _ _ st6 b hb
     exact (I8.pin (b,o) (List.mem_append_right _ (List.mem_append_right _ (iA hb e)))).2.1
    refine wpAny_mono (ht cl s2 H2 fp _ s7 σ7 H7 _ I7 q7) (fun okb s8 ⟨H8,I8,q8⟩=>?_) xe_
    cases okb with
    | false=>exact again I8 q8
    | true=>
     refine wpAny_mono (he cl s2 H2 fp _ s8 σ7 H8 _ I8 q8) (fun y s9 ⟨yv,H9,I9,r9,ys,hl,hz,q9⟩=>?_) xe_
     refine wpAny_mono (o4 (X:=blkCx X N scope cl s2 H2 fp) _ s9 σ7 H9 (.ref s2.heap.objs.size) [yv] (.ref s2.heap.objs.size) [y] (fun _ H10=>Nx σ7 H10) I9 rfl (.cons r9 .nil) ⟨_,ys,yv,rfl,rfl,hl,hz,q9⟩) (fun _ s10 ⟨_,H10,I10,_,q10⟩=>?_) xe_
     exact again I10 q10
 exact codeAny_compStart_list (loop _ rfl) (T.self _ 0 _ _ _ st3 (loop _ rfl))
def tComp (ix:List (Option Nat)) (wi:TI) (g:TG) (tt:TT) (te:TE):TE:=fun σ H Q=>p7 ix wi g tt te (fun l H'=>Q (.ref l) H') σ H
def sComp (k:Nat) (ix:List (Option Nat)) (wi:TI) (g:TG) (tt:TT) (te:TE):TS:=fun D σ H=>p7 ix wi g tt te (fun l H'=>D.nx (σ.set k (some (.ref l))) H') σ H
theorem rY (I:Inv X pins σ H s) {ix:List (Option Nat)} (B:BlkOk X N ix scope):∃ cl,closureFor scope X.env=pure cl∧(∀ x c,cl.lookup x=some c→X.env.cells.lookup x=some c)∧∀ x,(x,NameKind.free)∈scope.names→∃ c,cl.lookup x=some c:=
 sE fun x hx=>I.ok.has x (B.free x hx)
theorem me {ix:List (Option Nat)} (B:BlkOk X N ix scope):∀ x∈scope.names,x.2=NameKind.local→scope.names.lookup x.1=some .local:=fun x hx e=>by
 obtain ⟨n,k⟩:=x
 cases e
 exact dy B.names hx
theorem bS {tg iter elt:Expr} {ifs:List Expr} {pos:Pos} {ix:List (Option Nat)} {wi:TI} {g:TG} {tt:TT} {te:TE} (N:List Str) (B:BlkOk X N ix scope) (hc:X.calm=true)
  (hi:PI X tg iter wi) (hg:∀ cl s H fp,PG (blkCx X N scope cl s H fp) tg g) (ht:∀ cl s H fp,PTs (blkCx X N scope cl s H fp) ifs tt) (he:∀ cl s H fp,PE (blkCx X N scope cl s H fp) elt te)
  (hs:∀ x,foldedSetIterable iter X.env x=pure x:=by intro _; rfl):PE X (.ListComp elt [⟨tg,iter,ifs,0⟩] scope pos) (tComp ix wi g tt te):=by
 intro pins s σ H Q I h
 obtain ⟨cl,e1,e2,e3⟩:=rY I B
 rw [eval_ListComp]
 refine wpAny_comprehension_free (use:=none) rfl hs e1 B.kind (me B) ?_
 refine p8 (RR:=fun acc C=>compPost (model X.prog X.w) X.A X.xe none (EP X pins σ Q) acc C) B hc hi hg ht he e2 e3 I h (fun s2 H2 fp σ3 H3 s3 I2 f2 J q=>?_) (fun a C x s' q=>q)
 obtain ⟨m,hn,_⟩:=J.loc
 exact ⟨m,hn,fun h' sb=>⟨.ref _,H3,rX I2 J f2 sb,rfl,q⟩⟩
theorem jS {y:Str} {py spos:Pos} {k:Nat} {tg iter elt:Expr} {ifs:List Expr} {pos:Pos} {ix:List (Option Nat)} {wi:TI} {g:TG} {tt:TT} {te:TE} (hN:X.N.Nodup) (hy:X.N[k]? =some y) (hx:Loc X.env.scope y)
  (hsw:swapsWith (.ListComp elt [⟨tg,iter,ifs,0⟩] scope pos) (some (.Name y py)) spos.line X.env=pure true) (N:List Str) (B:BlkOk X N ix scope) (hc:X.calm=true)
  (hi:PI X tg iter wi) (hg:∀ cl s H fp,PG (blkCx X N scope cl s H fp) tg g) (ht:∀ cl s H fp,PTs (blkCx X N scope cl s H fp) ifs tt) (he:∀ cl s H fp,PE (blkCx X N scope cl s H fp) elt te)
  (hs:∀ x,foldedSetIterable iter X.env x=pure x:=by intro _; rfl) (hf:X.fn y=true∨X.env.scope.names.lookup y=some .local:=by first | exact .inl rfl | exact .inr rfl | assumption):
  PS X (.Assign [.Name y py] (.ListComp elt [⟨tg,iter,ifs,0⟩] scope pos) spos) (sComp k ix wi g tt te):=by
 intro pins s σ H D I h
 obtain ⟨cl,e1,e2,e3⟩:=rY I B
 rw [exec_Assign_Name_used _ _ _ _ hsw]
 refine wpAny_bind (wpAny_standAt (wpAny_bind ?_))
 show wpAny _ X.A (do let _ ← comprehension (.ListComp elt [⟨tg,iter,ifs,0⟩] scope pos) scope X.env _ (newList []) false (eval iter X.env) (some (assign (.Name y py) X.env))) _ _ s
 refine wpAny_bind (wpAny_mono (wpAny_comprehension_free (use:=some (assign (.Name y py) X.env)) (Q:=fun _ s'=>SP X pins D .next s') rfl hs e1 B.kind (me B) ?_) (fun _ s' hq=>wpAny_pure (wpAny_pure hq)) fun _ _ e=>e)
 refine p8 (RR:=fun acc C=>compPost (model X.prog X.w) X.A X.xe (some (assign (.Name y py) X.env)) (fun _ s'=>SP X pins D .next s') acc C) B hc hi hg ht he e2 e3 I h (fun s2 H2 fp σ3 H3 s3 I2 f2 J q=>?_) (fun a C x s' q=>q)
 obtain ⟨m,hn,_⟩:=J.loc
 have I3:Inv X pins σ H3 { s3 with heap:=s3.heap }:=rX I2 J f2 (Heap.SameBut.refl _ _)
 show wpAny _ X.A (assign (.Name y py) X.env (.ref _)) _ _ _
 refine wpAny_assign_Name (oW (v:=.ref _) I3 hN hy hx rfl (fun s4 I4 ⟨a,sb4,ha⟩=>?_) hf)
 have hlt:a < s2.heap.objs.size:=by
  rcases ha with rfl | ha
  · exact I2.lt
  · obtain ⟨v,z⟩:=I2.cell _ _ ha
    exact z.lt
 have hCa:s2.heap.objs.size+1≠a:=Nat.ne_of_gt (Nat.lt_succ_of_lt hlt)
 refine ⟨m,hn.sameBut sb4 hCa,fun h' sb=>?_⟩
 refine ⟨_,H3,I4.turned (t':=s4.toks) (it:=s2.heap.objs.size+1) (fun b o hb e=>(sb.2 b hb).trans e) J.free (Nat.ne_of_gt (Nat.lt_succ_of_lt I2.lt)) (.inr (Nat.le_trans I2.sz (Nat.le_succ _))) (fun x c e=>?_) (fun p hp=>?_),q⟩
 · obtain ⟨v,z⟩:=I2.cell x c e
   exact Nat.ne_of_lt (Nat.lt_succ_of_lt z.lt)
 · exact Nat.ne_of_lt (Nat.lt_succ_of_lt (Heap.lt_size (I2.pin p hp).1))
end
end L2
namespace L2
open PySem PySem.Spec PyProof.Rows
def bnd {α:Type}:Option α→(α→Prop)→Prop
 | some a,k=>k a
 | none,_=>False
theorem bb {α:Type} {o:Option α} {a:α} {k:α→Prop} (h:o=some a) (q:k a):bnd o k:=by subst h; exact q
theorem bu {α:Type} {o:Option α} {k:α→Prop} (h:bnd o k):∃ a,o=some a∧k a:=by
 cases o with
 | none=>exact h.elim
 | some a=>exact ⟨a,rfl,h⟩
theorem cO {α:Type} {a:α} {k:α→Prop}:bnd (some a) k=k a:=rfl
def unM:Option HO→Option (List V)
 | some (.lst xs)=>some xs
 | _=>none
def unL:Option HO→Option (List V)
 | some (.lst xs)=>some xs
 | some (.frz _ (.lst xs))=>some xs
 | _=>none
def unS:Option HO→Option (List V)
 | some (.lst xs)=>some xs
 | some (.frz _ (.lst xs))=>some xs
 | some (.tup xs)=>some xs
 | _=>none
theorem m9 {o:Option HO} {xs:List V} (h:unM o=some xs):o=some (.lst xs):=by
 unfold unM at h; split at h
 · cases h; rfl
 · cases h
theorem p9 {K:PySem.W.Frag} {H:Hp} {p:Addr} {xs:List V} (h:unL (H p)=some xs):SqL K H p xs:=by
 unfold unL at h; split at h
 · rename_i e; cases h; exact .inl (.inl e)
 · rename_i o _ e; cases h; exact .inl (.inr ⟨_,e⟩)
 · cases h
theorem jT {K:PySem.W.Frag} {H:Hp} {p:Addr} {xs:List V} (h:unS (H p)=some xs):SqL K H p xs∨SqT K H p xs:=by
 unfold unS at h; split at h
 · rename_i e; cases h; exact .inl (.inl (.inl e))
 · rename_i o _ e; cases h; exact .inl (.inl (.inr ⟨_,e⟩))
 · rename_i e; cases h; exact .inr (.inl (.inl e))
 · cases h
mutual
inductive DV (K:PySem.W.Frag) (H:Hp):V→PyData→Prop
 | non:DV K H .non .none
 | bl (b:Bool):DV K H (.bl b) (.bool b)
 | int (i:Int):DV K H (.int i) (.int i)
 | str (x:Str):DV K H (.str x) (.str x)
 | lst {a:Addr} {xs:List V} {ds:List PyData}:SqL K H a xs→DVs K H xs ds→DV K H (.ref a) (.list ds)
 | tup {a:Addr} {xs:List V} {ds:List PyData}:SqT K H a xs→DVs K H xs ds→DV K H (.ref a) (.tuple ds)
inductive DVs (K:PySem.W.Frag) (H:Hp):List V→List PyData→Prop
 | nil:DVs K H [] []
 | cons {x:V} {d:PyData} {xs:List V} {ds:List PyData}:DV K H x d→DVs K H xs ds→DVs K H (x::xs) (d::ds)
end
section
variable {X:Cx} {pins:List (Addr × Obj)} {σ:St} {H:Hp} {s:Shared}
mutual
theorem DV.reads (I:Inv X pins σ H s):∀ {x:V} {d:PyData} {v:Value},DV X.K H x d→RelV x v→∃ as,Reads s.heap v d as
 | _,_,_,.non,r=>by cases r; exact ⟨_,.none⟩
 | _,_,_,.bl b,r=>by cases r; exact ⟨_,.bool b⟩
 | _,_,_,.int i,r=>by obtain ⟨t,rfl⟩:=r; exact ⟨_,.int i t⟩
 | _,_,_,.str x,r=>by obtain ⟨t,rfl⟩:=r; exact ⟨_,.str x t⟩
 | _,_,_,.lst (a:=a) h hs,r=>by
  cases r
  obtain ⟨its,rv,p,_⟩:=I.list h
  obtain ⟨as,q⟩:=DVs.reads I hs rv
  obtain ⟨o,h1,h2,n,h3⟩:=p.isList
  exact ⟨_,.list h1 h2 h3 q⟩
 | _,_,_,.tup (a:=a) h hs,r=>by
  cases r
  obtain ⟨its,rv,p,_⟩:=I.tuple h
  obtain ⟨as,q⟩:=DVs.reads I hs rv
  obtain ⟨o,h1,h2,n,h3⟩:=p
  exact ⟨_,.tuple h1 h2 h3 q⟩
theorem DVs.reads (I:Inv X pins σ H s):∀ {xs:List V} {ds:List PyData} {us:List Value},DVs X.K H xs ds→Vals xs us→∃ as,ReadsAll s.heap us ds as
 | _,_,_,.nil,.nil=>⟨_,.nil⟩
 | _,_,_,.cons h hs,.cons r rs=>by
  obtain ⟨as,q⟩:=DV.reads I h r
  obtain ⟨bs,q2⟩:=DVs.reads I hs rs
  exact ⟨_,.cons q q2⟩
end
end
theorem DVs.ints {K:PySem.W.Frag} {H:Hp}:∀ ns:List Int,DVs K H (ns.map V.int) (ns.map PyData.int)
 | []=>.nil
 | n::r=>.cons (.int n) (DVs.ints r)
theorem qb:∀ ns ms:List Int,PyData.eqvAll (ns.map PyData.int) (ms.map PyData.int)=decide (ns=ms):=PySem.W.ked_eqvAll
theorem mq:∀ ns:List Int,PyData.canLayAll0 (ns.map PyData.int)=true
 | []=>rfl
 | n::r=>by rw [List.map_cons,PyData.canLayAll0,mq r]; rfl
theorem j9:∀ ns:List Int,PyData.depthAll (ns.map PyData.int)=0
 | []=>rfl
 | n::r=>by rw [List.map_cons,PyData.depthAll,j9 r]; rfl
theorem ig (ns:List Int):SeqAt.shaped (.list (ns.map PyData.int))=true:=by
 simp [SeqAt.shaped,PyData.canLay0,mq,PyData.depth,j9]
def cAdd:R2
 | .int i,.int j,H,Q=>Q (.int (i+j)) H
 | .str i,.str j,H,Q=>i.length+j.length≤sizeLine∧Q (.str (i++j)) H
 | .ref l,.ref b,H,Q=>bnd (unM (H l)) fun xs=>bnd (unM (H b)) fun zs=>xs.length+zs.length≤sizeLine∧∀ p,H p=none→Q (.ref p) (upd H p (.lst (xs++zs)))
 | _,_,_,_=>False
def cSub:R2
 | .int i,.int j,H,Q=>Q (.int (i - j)) H
 | _,_,_,_=>False
def cMul:R2
 | .int i,.int j,H,Q=>CMul i j∧Q (.int (i*j)) H
 | _,_,_,_=>False
def cDiv:R2
 | .int i,.int j,H,Q=>CDiv i j∧Q (.int (i / j)) H
 | _,_,_,_=>False
def cMod:R2
 | .int i,.int j,H,Q=>0 < j∧Q (.int (i % j)) H
 | _,_,_,_=>False
def cPow:R2
 | .int i,.int j,H,Q=>CPow i j∧Q (.int (i^j.toNat)) H
 | _,_,_,_=>False
def cCmp (g:Int→Int→Bool):R2
 | .int i,.int j,H,Q=>Q (.bl (g i j)) H
 | _,_,_,_=>False
def rEqD (K:PySem.W.Frag):R2:=fun x y H Q=>∃ d e,DV K H x d∧DV K H y e∧SeqAt.shaped d=true∧SeqAt.shaped e=true∧Q (.bl (PyData.eqv d e)) H
def rNeD (K:PySem.W.Frag):R2:=fun x y H Q=>∃ d e,DV K H x d∧DV K H y e∧SeqAt.shaped d=true∧SeqAt.shaped e=true∧Q (.bl (!PyData.eqv d e)) H
def cEq (K:PySem.W.Frag):R2
 | .int i,.int j,H,Q=>Q (.bl (decide (i=j))) H
 | .bl i,.bl j,H,Q=>Q (.bl (decide (i=j))) H
 | .str i,.str j,H,Q=>Q (.bl (decide (i=j))) H
 | x,y,H,Q=>rEqD K x y H Q
def cNe (K:PySem.W.Frag):R2
 | .int i,.int j,H,Q=>Q (.bl (!decide (i=j))) H
 | .bl i,.bl j,H,Q=>Q (.bl (!decide (i=j))) H
 | .str i,.str j,H,Q=>Q (.bl (!decide (i=j))) H
 | x,y,H,Q=>rNeD K x y H Q
def rInD (K:PySem.W.Frag) (neg:Bool):R2:=fun x y H Q=>∃ d ds,DV K H x d∧(DV K H y (.list ds)∨DV K H y (.tuple ds))∧PyData.canLayAll0 ds=true∧PyData.canLay0 d=true∧min (PyData.depthAll ds) d.depth≤62∧
 Q (.bl (if neg then !ds.any (fun y=>PyData.eqv y d) else ds.any fun y=>PyData.eqv y d)) H
def keyOf:V→Option Key
 | .int i=>some (.inl i)
 | .str x=>some (.inr x)
 | _=>none
def unD:Option HO→Option (List (Key × V))
 | some (.dK kvs)=>some kvs
 | _=>none
def cIn (K:PySem.W.Frag) (neg:Bool):R2
 | .ref a,y,H,Q=>rInD K neg (.ref a) y H Q
 | x,.ref p,H,Q=>(match unD (H p) with
  | some kvs=>bnd (keyOf x) fun k=>Q (.bl (if neg then !(valV kvs k).isSome else (valV kvs k).isSome)) H
  | none=>bnd (unS (H p)) fun xs=>flatV x=true∧xs.all flatV=true∧Q (.bl (if neg then !inV x xs else inV x xs)) H)
 | .str i,.str j,H,Q=>Q (.bl (if neg then !(!(Builtin.Str.occurrences j i 0 j.length 1).isEmpty) else !(Builtin.Str.occurrences j i 0 j.length 1).isEmpty)) H
 | _,_,_,_=>False
def cIx:R2
 | .ref p,y,H,Q=>(match unD (H p) with
  | some kvs=>bnd (keyOf y) fun k=>bnd (valV kvs k) fun v=>Q v H
  | none=>match y with
   | .int i=>bnd (unS (H p)) fun xs=>bnd (atI xs i) fun v=>Q v H
   | _=>False)
 | .str z,.int i,H,Q=>z.length≤sizeLine∧bnd (atI z.cps.toList i) fun c=>Q (.str ⟨#[c]⟩) H
 | _,_,_,_=>False
theorem nc {o:Option HO} {kvs:List (Key × V)} (h:unD o=some kvs):o=some (.dK kvs):=by
 unfold unD at h; split at h
 · cases h; rfl
 · cases h
theorem mr {x:V} {k:Key} (h:keyOf x=some k):x=kV k:=by
 unfold keyOf at h; split at h
 · cases h; rfl
 · cases h; rfl
 · cases h
section
variable {X:Cx} {a b c:Expr} {ta tb tc:TE} {pos:Pos}
theorem aL:OpR X (binaryOp .Add) cAdd:=by
 intro pins s σ H x y v u Q I rx ry h
 unfold cAdd at h
 split at h
 · exact xp pins s σ H _ _ v u Q I rx ry ⟨_,_,rfl,rfl,h⟩
 · exact su pins s σ H _ _ v u Q I rx ry ⟨_,_,rfl,rfl,h.1,h.2⟩
 · obtain ⟨xs,e1,h⟩:=bu h
   obtain ⟨zs,e2,h⟩:=bu h
   exact xD pins s σ H _ _ v u Q I rx ry ⟨_,_,xs,zs,rfl,rfl,m9 e1,m9 e2,h.1,h.2⟩
 · exact h.elim
theorem bF:OpR X (binaryOp .Sub) cSub:=by
 intro pins s σ H x y v u Q I rx ry h
 unfold cSub at h
 split at h
 · exact xq pins s σ H _ _ v u Q I rx ry ⟨_,_,rfl,rfl,h⟩
 · exact h.elim
theorem bG:OpR X (binaryOp .Mult) cMul:=by
 intro pins s σ H x y v u Q I rx ry h
 unfold cMul at h
 split at h
 · exact xt pins s σ H _ _ v u Q I rx ry ⟨_,_,rfl,rfl,h.1,h.2⟩
 · exact h.elim
theorem bv:OpR X (binaryOp .FloorDiv) cDiv:=by
 intro pins s σ H x y v u Q I rx ry h
 unfold cDiv at h
 split at h
 · exact wu pins s σ H _ _ v u Q I rx ry ⟨_,_,rfl,rfl,h.1,h.2⟩
 · exact h.elim
theorem aN:OpR X (binaryOp .Mod) cMod:=by
 intro pins s σ H x y v u Q I rx ry h
 unfold cMod at h
 split at h
 · exact xu pins s σ H _ _ v u Q I rx ry ⟨_,_,rfl,rfl,h.1,h.2⟩
 · exact h.elim
theorem wG:OpR X (binaryOp .Pow) cPow:=by
 intro pins s σ H x y v u Q I rx ry h
 unfold cPow at h
 split at h
 · exact xv pins s σ H _ _ v u Q I rx ry ⟨_,_,rfl,rfl,h.1,h.2⟩
 · exact h.elim
theorem lK {op:CmpOp} {g:Int→Int→Bool} (o:OpR X (compareOp op) (rI0 fun i j=>.bl (g i j))):OpR X (compareOp op) (cCmp g):=by
 intro pins s σ H x y v u Q I rx ry h
 unfold cCmp at h
 split at h
 · exact o pins s σ H _ _ v u Q I rx ry ⟨_,_,rfl,rfl,h⟩
 · exact h.elim
theorem dz:OpR X (compareOp .Lt) (cCmp fun i j=>decide (i < j)):=lK yk
theorem iv:OpR X (compareOp .LtE) (cCmp fun i j=>decide (i≤j)):=lK yl
theorem eh:OpR X (compareOp .Gt) (cCmp fun i j=>decide (j < i)):=lK yn
theorem up:OpR X (compareOp .GtE) (cCmp fun i j=>decide (j≤i)):=lK yo
theorem xF (hu:X.A.units+64 < cLine):OpR X (compareOp .Eq) (rEqD X.K):=by
 intro pins s σ H x y v u Q I rx ry h
 obtain ⟨d,e,h1,h2,h3,h4,q⟩:=h
 obtain ⟨as,r1⟩:=h1.reads I rx
 obtain ⟨bs,r2⟩:=h2.reads I ry
 exact eq_dataH r1 r2 h3 h4 hu ⟨.bl _,H,I,rfl,q⟩
theorem xG (hu:X.A.units+64 < cLine):OpR X (compareOp .NotEq) (rNeD X.K):=by
 intro pins s σ H x y v u Q I rx ry h
 obtain ⟨d,e,h1,h2,h3,h4,q⟩:=h
 obtain ⟨as,r1⟩:=h1.reads I rx
 obtain ⟨bs,r2⟩:=h2.reads I ry
 exact ne_dataH r1 r2 h3 h4 hu ⟨.bl _,H,I,rfl,q⟩
theorem aF (hu:X.A.units+64 < cLine):OpR X (compareOp .Eq) (cEq X.K):=by
 intro pins s σ H x y v u Q I rx ry h
 unfold cEq at h
 split at h
 · refine sr pins s σ H _ _ v u Q I rx ry ⟨rfl,?_⟩
   simpa using h
 · refine sr pins s σ H _ _ v u Q I rx ry ⟨rfl,?_⟩
   simpa using h
 · refine sr pins s σ H _ _ v u Q I rx ry ⟨rfl,?_⟩
   simpa using h
 · exact xF hu pins s σ H _ _ v u Q I rx ry h
theorem aZ (hu:X.A.units+64 < cLine):OpR X (compareOp .NotEq) (cNe X.K):=by
 intro pins s σ H x y v u Q I rx ry h
 unfold cNe at h
 split at h
 · refine ss pins s σ H _ _ v u Q I rx ry ⟨rfl,?_⟩
   simpa using h
 · refine ss pins s σ H _ _ v u Q I rx ry ⟨rfl,?_⟩
   simpa using h
 · refine ss pins s σ H _ _ v u Q I rx ry ⟨rfl,?_⟩
   simpa using h
 · exact xG hu pins s σ H _ _ v u Q I rx ry h
theorem xH (hu:X.A.units+64 < cLine):OpR X (compareOp .In) (rInD X.K false):=by
 intro pins s σ H x y v u Q I rx ry h
 obtain ⟨d,ds,h1,h2,h3,h4,h5,q⟩:=h
 obtain ⟨as,r1⟩:=h1.reads I rx
 rcases h2 with h2 | h2
 · obtain ⟨bs,r2⟩:=h2.reads I ry
   exact SeqAt.in_list_reads r2 r1 h3 h4 (by omega) ⟨.bl _,H,I,rfl,q⟩
 · obtain ⟨bs,r2⟩:=h2.reads I ry
   exact SeqAt.in_tuple_reads r2 r1 h3 h4 (by omega) ⟨.bl _,H,I,rfl,q⟩
theorem uq (hu:X.A.units+64 < cLine):OpR X (compareOp .NotIn) (rInD X.K true):=by
 intro pins s σ H x y v u Q I rx ry h
 obtain ⟨d,ds,h1,h2,h3,h4,h5,q⟩:=h
 obtain ⟨as,r1⟩:=h1.reads I rx
 rcases h2 with h2 | h2
 · obtain ⟨bs,r2⟩:=h2.reads I ry
   exact SeqAt.notIn_list_reads r2 r1 h3 h4 (by omega) ⟨.bl _,H,I,rfl,q⟩
 · obtain ⟨bs,r2⟩:=h2.reads I ry
   exact SeqAt.notIn_tuple_reads r2 r1 h3 h4 (by omega) ⟨.bl _,H,I,rfl,q⟩
theorem kW (hu:X.A.units+64 < cLine):OpR X (compareOp .In) (cIn X.K false):=by
 intro pins s σ H x y v u Q I rx ry h
 unfold cIn at h
 split at h
 · exact xH hu pins s σ H _ _ v u Q I rx ry h
 · rename_i p hx
   split at h
   · rename_i kvs e
     obtain ⟨k,ek,q⟩:=bu h
     cases (show u=Value.ref p from ry)
     have g:DGet H p x (valV kvs k):=by rw [mr ek]; exact DGet.k (nc e)
     exact yF (Nat.lt_of_le_of_lt (Nat.add_le_add_left (by decide:1≤64) _) hu) I g rx fun s' I'=>⟨.bl _,H,I',rfl,q⟩
   · obtain ⟨xs,e,f1,f2,q⟩:=bu h
     exact kS pins s σ H _ _ v u Q I rx ry ⟨p,xs,rfl,jT e,f1,f2,q⟩
 · exact tZ pins s σ H _ _ v u Q I rx ry ⟨_,_,rfl,rfl,h⟩
 · exact h.elim
theorem ei (hu:X.A.units+64 < cLine):OpR X (compareOp .NotIn) (cIn X.K true):=by
 intro pins s σ H x y v u Q I rx ry h
 unfold cIn at h
 split at h
 · exact uq hu pins s σ H _ _ v u Q I rx ry h
 · rename_i p hx
   split at h
   · rename_i kvs e
     obtain ⟨k,ek,q⟩:=bu h
     cases (show u=Value.ref p from ry)
     have g:DGet H p x (valV kvs k):=by rw [mr ek]; exact DGet.k (nc e)
     exact wF (Nat.lt_of_le_of_lt (Nat.add_le_add_left (by decide:1≤64) _) hu) I g rx fun s' I'=>⟨.bl _,H,I',rfl,q⟩
   · obtain ⟨xs,e,f1,f2,q⟩:=bu h
     exact kT pins s σ H _ _ v u Q I rx ry ⟨p,xs,rfl,jT e,f1,f2,q⟩
 · exact pY pins s σ H _ _ v u Q I rx ry ⟨_,_,rfl,rfl,h⟩
 · exact h.elim
end
end L2
namespace L2
open PySem PySem.Spec PyProof.Rows
section
variable {X:Cx} {a b c:Expr} {ta tb tc:TE} {pos:Pos}
theorem au (hu:X.A.units+64 < cLine):IxR X cIx:=by
 intro value slice pins s σ H x y v u Q I rx ry h hs
 cases x with
 | ref p=>
  unfold cIx at h
  dsimp only at h
  split at h
  · rename_i kvs e
    obtain ⟨k,ek,h⟩:=bu h
    obtain ⟨z,ez,q⟩:=bu h
    cases (show v=Value.ref p from rx)
    have g:DGet H p y (some z):=by rw [mr ek,← ez]; exact DGet.k (nc e)
    exact tail_any (rk I g) PySem.F.slot_dict_getitem.lookup (uj (Nat.lt_of_le_of_lt (Nat.add_le_add_left (by decide:1≤64) _) hu) I g ry fun w' s3 I3 rw'=>⟨z,H,I3,rw',q⟩) hs
  · split at h
    · obtain ⟨xs,e,h⟩:=bu h
      obtain ⟨z,ez,q⟩:=bu h
      rcases jT (K:=X.K) e with r | r
      · exact rW value slice pins s σ H _ _ v u Q I rx ry ⟨p,xs,_,z,rfl,rfl,r,ez,q⟩ hs
      · exact xA value slice pins s σ H _ _ v u Q I rx ry ⟨p,xs,_,z,rfl,rfl,r,ez,q⟩ hs
    · exact h.elim
 | str zz=>
  cases y with
  | int i=>
   obtain ⟨hz,h⟩:=(show zz.length≤sizeLine∧bnd (atI zz.cps.toList i) fun c=>Q (.str ⟨#[c]⟩) H from h)
   obtain ⟨z,ez,q⟩:=bu h
   exact xB value slice pins s σ H _ _ v u Q I rx ry ⟨_,_,z,rfl,rfl,hz,ez,q⟩ hs
  | _=>exact False.elim h
 | _=>exact False.elim h
def kLen:List V→Hp→VK→Prop
 | [.ref p],H,Q=>(match unD (H p) with
  | some kvs=>Q (.int kvs.length) H
  | none=>bnd (unS (H p)) fun xs=>Q (.int xs.length) H)
 | [.str z],H,Q=>z.length≤sizeLine∧Q (.int z.length) H
 | _,_,_=>False
theorem aS:CallR X (.builtin "len") kLen:=by
 intro pins s σ H xs us Q I r h
 unfold kLen at h
 split at h
 · split at h
   · rename_i kvs e
     exact uk pins s σ H _ us Q I r ⟨_,kvs,rfl,nc e,h⟩
   · obtain ⟨ys,e,q⟩:=bu h
     exact fV pins s σ H _ us Q I r ⟨_,ys,rfl,jT e,q⟩
 · exact pZ pins s σ H _ us Q I r ⟨_,rfl,h.1,h.2⟩
 · exact h.elim
def kAbs:List V→Hp→VK→Prop
 | [.int i],H,Q=>Q (.int (if i < 0 then -i else i)) H
 | _,_,_=>False
def kMin:List V→Hp→VK→Prop
 | [.int i,.int j],H,Q=>Q (.int (if j < i then j else i)) H
 | _,_,_=>False
theorem kX (hc:X.calm=true):CallR X (.builtin "min") kMin:=by
 intro pins s σ H xs us Q I r h
 unfold kMin at h
 split at h
 · exact ua hc pins s σ H _ us Q I r ⟨_,_,rfl,h⟩
 · exact h.elim
def kMax:List V→Hp→VK→Prop
 | [.int i,.int j],H,Q=>Q (.int (if j > i then j else i)) H
 | _,_,_=>False
def kList:List V→Hp→VK→Prop
 | [.ref p],H,Q=>bnd (unS (H p)) fun ys=>∀ l,H l=none→Q (.ref l) (upd H l (.lst ys))
 | _,_,_=>False
theorem iB:CallR X (.type "list") kList:=by
 intro pins s σ H xs us Q I r h
 unfold kList at h
 split at h
 · obtain ⟨ys,e,q⟩:=bu h
   exact p0 pins s σ H _ us Q I r ⟨_,ys,rfl,jT e,q⟩
 · exact h.elim
def lL:List V→Hp→VK→Prop
 | [.ref p],H,Q=>bnd (unL (H p)) fun ys=>∃ ns:List Int,ys=ns.map V.int∧ns.length < 64∧∀ (ns':List Int) l,H l=none→ns'.Perm ns→ns'.Pairwise (· ≤·)→Q (.ref l) (upd H l (.lst (ns'.map V.int)))
 | _,_,_=>False
theorem qc:CallR X (.builtin "sorted") lL:=by
 intro pins s σ H xs us Q I r h
 unfold lL at h
 split at h
 · rename_i p
   obtain ⟨ys,e,ns,rfl,hlen,q⟩:=bu h
   obtain ⟨u,rfl,ru⟩:=dP r
   cases ru
   obtain ⟨its,rv,pl,hz⟩:=I.list (p9 e)
   have hI:IntsAre its ns:=m6 rv
   have hl:=rv.length
   rw [List.length_map] at hl
   refine sorted_ints pl.isList hI (by omega) fun out ns' hI' hp hs=>?_
   have old:∀ b o,s.heap.get? b=some o→(sortedAll s.heap its out).get? b=some o:=fun b o e=>sortedAll_old e
   obtain ⟨n,at_⟩:=sortedAll_at s.heap its out
   have hfresh:H (s.heap.objs.size+1)=none:=I.hok.fresh (Nat.le_succ _)
   have hlen':(ns'.map V.int).length≤sizeLine:=by
    rw [List.length_map,hp.length_eq]
    exact Nat.le_of_lt (Nat.lt_trans hlen (by decide))
   refine ⟨.ref (s.heap.objs.size+1),_,I.laid (t':=s.toks) (a:=s.heap.objs.size+1) (o:=.lst (ns'.map V.int)) old (Nat.le_succ _) ⟨hlen',out.toList,n,kU hI',?_⟩,rfl,q ns' _ hfresh hp hs⟩
   rw [at_]
 · exact h.elim
def iw (H:Hp):V→Option String
 | .non=>some "NoneType"
 | .bl _=>some "bool"
 | .int _=>some "int"
 | .str _=>some "str"
 | .ref p=>match H p with
  | some (.lst _)=>some "list"
  | some (.frz _ (.lst _))=>some "list"
  | some (.tup _)=>some "tuple"
  | some (.dK _)=>some "dict"
  | _=>none
 | _=>none
def isTy (t n:String):Bool:=t==n||(t=="bool"&&n=="int")
def lM (n:String):Bool:=["int","bool","str","list","tuple","dict"].contains n
theorem ur {K:PySem.W.Frag} {H:Hp} {x:V} {t:String} (h:iw H x=some t):TyOf K H x (.type t)∧["NoneType","int","bool","str","list","tuple","dict"].contains t=true:=by
 cases x with
 | non=>cases h; exact ⟨.non,by decide⟩
 | bl b=>cases h; exact ⟨.bl b,by decide⟩
 | int i=>cases h; exact ⟨.int i,by decide⟩
 | str i=>cases h; exact ⟨.str i,by decide⟩
 | byt _=>cases h
 | flt _=>cases h
 | ty _=>cases h
 | ref p=>
  unfold iw at h
  dsimp only at h
  split at h
  · rename_i e; cases h; exact ⟨.lst e,by decide⟩
  · rename_i e; cases h; exact ⟨.frz e,by decide⟩
  · rename_i e; cases h; exact ⟨.tup e,by decide⟩
  · rename_i e; cases h; exact ⟨.dK e,by decide⟩
  · cases h
theorem xI (K:PySem.W.Frag):∀ t∈["NoneType","int","bool","str","list","tuple","dict"],∀ n∈["int","bool","str","list","tuple","dict"],PySem.W.kitOne K (.type t) (.type n)=some (isTy t n):=by
 intro t ht n hn
 simp only [List.mem_cons,List.not_mem_nil,or_false] at ht hn
 rcases ht with rfl | rfl | rfl | rfl | rfl | rfl | rfl <;> rcases hn with rfl | rfl | rfl | rfl | rfl | rfl <;> rfl
def kIsi:List V→Hp→VK→Prop
 | [x,.ty n],H,Q=>lM n=true∧bnd (iw H x) fun t=>Q (.bl (isTy t n)) H
 | _,_,_=>False
theorem df:CallR X (.builtin "isinstance") kIsi:=by
 intro pins s σ H xs us Q I r h
 unfold kIsi at h
 split at h
 · obtain ⟨hn,h⟩:=h
   obtain ⟨t,et,q⟩:=bu h
   obtain ⟨u,w,rfl,ru,rw'⟩:=wg r
   cases rw'
   obtain ⟨ty,ht⟩:=ur (K:=X.K) et
   exact ud I ru ty (xI X.K t (by simpa using ht) _ (by simpa [lM] using hn)) fun tk=>⟨.bl _,H,I.tok tk,rfl,q⟩
 · exact h.elim
def bw:V→List V→Hp→VK→Prop
 | .ref l,[y],H,Q=>bnd (unM (H l)) fun xs=>xs.length < sizeLine∧Q .non (upd H l (.lst (xs++[y])))
 | _,_,_,_=>False
theorem bC:MtR X "list.append" bw:=by
 intro pins s σ H x vs v us Q I rx rv h
 unfold bw at h
 split at h
 · obtain ⟨xs,e,h1,q⟩:=bu h
   exact o4 pins s σ H _ _ v us Q I rx rv ⟨_,xs,_,rfl,rfl,m9 e,h1,q⟩
 · exact h.elim
theorem cP {K:PySem.W.Frag} {H:Hp} {p:Addr} {xs:List V} (h:H p=some (.lst xs)):tyV K "list" (.ref p) H:=.inl ⟨rfl,_,SqL.of h⟩
def cSl:V→Option Int→Option Int→Hp→VK→Prop
 | .ref p,lo,hi,H,Q=>bnd (unL (H p)) fun xs=>∀ l,H l=none→Q (.ref l) (upd H l (.lst (cutV xs lo hi)))
 | _,_,_,_,_=>False
theorem yG:SlR X cSl:=by
 intro pins s σ H x v vl vu lo hi sl Q I rx hs pl pu h
 unfold cSl at h
 split at h
 · obtain ⟨xs,e,q⟩:=bu h
   exact wC pins s σ H _ v vl vu lo hi sl Q I rx hs pl pu ⟨_,xs,rfl,p9 e,q⟩
 · exact h.elim
end
structure Cal (P:Program) (w:World) (K:PySem.W.Frag) (mg:Str→Option Value) (base:Heap) (k:Nat) (x:Str) (ps:List Str) (sp:Sp):Prop where
 ex:∃ (f:Addr) (fd:FuncData),FnOk P w K mg base CX0 k f fd ps sp∧mg x=some (.ref f)∧PySem.W.keepIn K (.ref f)=true∧Binds K fd ps []
theorem am {X:Cx} {k n:Nat} {x:Str} {ps:List Str} {sp:Sp} {p pos:Pos} {e:Expr} {es:List Expr} {t:TA} (C:Cal X.prog X.w X.K X.mg X.base k x ps sp) (hr:Room n X.A) (hk:k≤n) (hg:Gl X x) (ha:PA X (e::es) t)
  (hdb:(x==("__debug__":Str))=false:=by decide) (he:starEach (e::es) X.env=(false,eval e X.env)::starEach es X.env:=by rfl) (hpl:(backTo pos (starEach es X.env)).any (·.1)=false:=by rfl):
  PE X (.Call (.Name x p) (e::es) [] pos) (tCall sp [] E0 t):=by
 obtain ⟨f,fd,F,hm,hkp,hb⟩:=C.ex
 exact wz F (hr.mono hk) hg hm hkp hb .nil sD ha hdb he hpl
end L2
namespace L2
open PySem PySem.Spec PyProof.Rows
theorem bc:bootBuiltins "len"=some (.builtin "len"):=by decide+kernel
theorem qd:bootBuiltins "min"=some (.builtin "min"):=by decide+kernel
theorem ut:bootBuiltins "sorted"=some (.builtin "sorted"):=by decide+kernel
theorem bN:bootBuiltins "isinstance"=some (.builtin "isinstance"):=by decide+kernel
theorem gN:bootBuiltins "list"=some (.type "list"):=by decide+kernel
theorem uv:bootBuiltins "int"=some (.type "int"):=by decide+kernel
theorem rZ:bootBuiltins "bool"=some (.type "bool"):=by decide+kernel
theorem uw:bootBuiltins "str"=some (.type "str"):=by decide+kernel
theorem ka:bootBuiltins "tuple"=some (.type "tuple"):=by decide+kernel
def compN (scope:Scope):List Str:=(scope.names.filter fun p=>p.2==.local||p.2==.cell||p.2==.free).map (·.1)
def ng (N:List Str) (scope:Scope):List (Option Nat):=(compN scope).map fun x=>if scope.names.lookup x==some .free then N.findIdx? (· ==x) else none
def isCF:Option NameKind→Bool
 | some .cell=>true
 | some .free=>true
 | _=>false
theorem xJ {X:Cx} {scope:Scope} (h1:scope.kind=.function) (h2:(scope.names.map (·.1)).Nodup) (h3:(scope.names.all fun p=>p.2 != .free||isCF (X.env.kindOf p.1))=true):BlkOk X (compN scope) (ng X.N scope) scope where
 kind:=h1
 nd:=h2.sublist (List.Sublist.map _ (List.filter_sublist ..))
 len:=by unfold ng; rw [List.length_map]
 names:=h2
 free:=fun x hx=>by
  have:=List.all_eq_true.mp h3 (x,.free) hx
  simp only [bne_self_eq_false,Bool.false_or] at this
  unfold isCF at this
  split at this
  · rename_i e; exact .inl e
  · rename_i e; exact .inr e
  · cases this
 at_:=fun j i x e1 e2=>by
  unfold ng at e2
  rw [List.getElem?_map,e1] at e2
  simp only [Option.map_some,Option.some.injEq] at e2
  split at e2
  · rename_i hf
    obtain ⟨hlt,hp,_⟩:=List.findIdx?_eq_some_iff_getElem.mp e2
    have hx:X.N[i]? =some x:=by
     rw [List.getElem?_eq_getElem hlt]
     have:X.N[i]=x:=by simpa using hp
     rw [this]
    refine ⟨hx,PySem.mem_of_lookup (by simpa using hf)⟩
  · cases e2
end L2
namespace L2
open PySem PySem.Spec PyProof.Rows
section
variable {t u:TS} {D:Ends} {σ:St} {H:Hp} {Q:VK} {ta tb:TE} {R:Bool→Hp→Prop} {c d:TT}
theorem aH:tSeq t u D σ H=t { D with nx:=u D } σ H:=rfl
theorem fi:tNext D σ H=D.nx σ H:=rfl
theorem fq {g:TG}:tAsg ta g D σ H=ta σ H fun x H1=>g x σ H1 D.nx:=rfl
theorem b7 {i:Nat} {v:V} {k:St→Hp→Prop}:gName i v σ H k=k (σ.set i (some v)) H:=rfl
theorem ft {i:Nat}:tVar i σ H Q=∃ v,σ[i]? =some (some v)∧Q v H:=rfl
theorem w_c {v:V}:tC v σ H Q=Q v H:=rfl
theorem jb {r:R2}:tOp r ta tb σ H Q=ta σ H fun x H1=>tb σ H1 fun y H2=>r x y H2 Q:=rfl
theorem fW:tRet ta D σ H=ta σ H D.rt:=rfl
theorem fX:tRetN D σ H=D.rt .non H:=rfl
theorem dA:tDrop ta D σ H=ta σ H fun _ H1=>D.nx σ H1:=rfl
theorem aD:tIfS c t u D σ H=c σ H fun b H1=>if b=true then t D σ H1 else u D σ H1:=rfl
theorem fY:tTest ta σ H R=ta σ H fun x H'=>∃ k,x=.bl k∧R k H':=rfl
theorem w_b:tB ta σ H R=ta σ H fun x H'=>∃ k,x=.bl k∧R k H':=rfl
theorem w_not:tNot c σ H R=c σ H fun k H1=>R (!k) H1:=rfl
theorem iC:tAnd c d σ H R=c σ H fun k H1=>if k=true then d σ H1 R else R false H1:=rfl
theorem kb:tOr c d σ H R=c σ H fun k H1=>if k=true then R true H1 else d σ H1 R:=rfl
theorem fZ:tNotV ta σ H Q=ta σ H fun x H1=>∃ c,x=.bl c∧Q (.bl (!c)) H1:=rfl
theorem ga:tAndV ta tb σ H Q=ta σ H fun x H1=>∃ c,x=.bl c∧if c=true then tb σ H1 Q else Q (.bl false) H1:=rfl
theorem iD:tOrV ta tb σ H Q=ta σ H fun x H1=>∃ c,x=.bl c∧if c=true then Q (.bl true) H1 else tb σ H1 Q:=rfl
theorem fu {k:List V→Hp→Prop}:tNil σ H k=k [] H:=rfl
theorem dB {tr:TA} {k:List V→Hp→Prop}:tCons ta tr σ H k=ta σ H fun x H1=>tr σ H1 fun xs H2=>k (x::xs) H2:=rfl
theorem kc {r:List V→Hp→VK→Prop} {tr:TA}:tCB r tr σ H Q=tr σ H fun vs H1=>r vs H1 Q:=rfl
theorem gb {sp:Sp} {dvs:List V} {E:XK} {tr:TA}:tCall sp dvs E tr σ H Q=tr σ H fun vs H1=>sp (vs++dvs) H1 Q E:=rfl
theorem gc {tr:TA}:tTup tr σ H Q=tr σ H fun xs H1=>xs.length≤sizeLine∧∀ p,H1 p=none→Q (.ref p) (upd H1 p (.tup xs)):=rfl
theorem gd {tr:TA}:tLst tr σ H Q=tr σ H fun xs H1=>xs.length≤sizeLine∧∀ p,H1 p=none→Q (.ref p) (upd H1 p (.lst xs)):=rfl
theorem iz {K:PySem.W.Frag} {T:String} {r:V→List V→Hp→VK→Prop} {tr:TA}:tBM K T r ta tr σ H Q=ta σ H fun x H1=>tyV K T x H1∧tr σ H1 fun xs H2=>r x xs H2 Q:=rfl
theorem iE {K:PySem.W.Frag} {T:String} {r:V→List V→Hp→VK→Prop}:sC K T r ta σ H Q=ta σ H fun x H1=>tyV K T x H1∧r x [] H1 Q:=rfl
theorem ge:tTrue σ H R=R true H:=rfl
theorem gf:xE σ H Q=∀ p,H p=none→Q (.ref p) (upd H p (.dK [])):=rfl
theorem gh {td ty tv:TE}:sDPut td ty tv D σ H=tv σ H fun v H1=>td σ H1 fun x H2=>ty σ H2 fun y H3=>∃ a H4,x=.ref a∧DPut H3 a y v H4∧D.nx σ H4:=rfl
theorem fv {i j:Int}:cAdd (.int i) (.int j) H Q=Q (.int (i+j)) H:=rfl
theorem iF {i j:Int}:cSub (.int i) (.int j) H Q=Q (.int (i - j)) H:=rfl
theorem iG {i j:Int}:cMul (.int i) (.int j) H Q=(CMul i j∧Q (.int (i*j)) H):=rfl
theorem iH {i j:Int}:cDiv (.int i) (.int j) H Q=(CDiv i j∧Q (.int (i / j)) H):=rfl
theorem ii {i j:Int}:cMod (.int i) (.int j) H Q=(0 < j∧Q (.int (i % j)) H):=rfl
theorem iI {g:Int→Int→Bool} {i j:Int}:cCmp g (.int i) (.int j) H Q=Q (.bl (g i j)) H:=rfl
theorem iJ {K:PySem.W.Frag} {i j:Int}:cEq K (.int i) (.int j) H Q=Q (.bl (decide (i=j))) H:=rfl
theorem iK {K:PySem.W.Frag} {i j:Int}:cNe K (.int i) (.int j) H Q=Q (.bl (!decide (i=j))) H:=rfl
theorem iL {K:PySem.W.Frag} {i j:Bool}:cEq K (.bl i) (.bl j) H Q=Q (.bl (decide (i=j))) H:=rfl
theorem iM {K:PySem.W.Frag} {i j:Bool}:cNe K (.bl i) (.bl j) H Q=Q (.bl (!decide (i=j))) H:=rfl
theorem fE {p:Addr} {i:Int} {xs:List V} (h:H p=some (.tup xs)):cIx (.ref p) (.int i) H Q=bnd (atI xs i) fun v=>Q v H:=by
 unfold cIx; dsimp only; rw [h]; rfl
theorem wk {p:Addr} {i:Int} {xs:List V} (h:H p=some (.lst xs)):cIx (.ref p) (.int i) H Q=bnd (atI xs i) fun v=>Q v H:=by
 unfold cIx; dsimp only; rw [h]; rfl
theorem iN {i:Int}:kAbs [.int i] H Q=Q (.int (if i < 0 then -i else i)) H:=rfl
theorem iO {i j:Int}:kMin [.int i,.int j] H Q=Q (.int (if j < i then j else i)) H:=rfl
theorem cF {p:Addr} {xs:List V} (h:H p=some (.lst xs)):kLen [.ref p] H Q=Q (.int xs.length) H:=by
 unfold kLen; dsimp only; rw [h]; rfl
theorem nh {p:Addr} {xs:List V} (h:H p=some (.tup xs)):kLen [.ref p] H Q=Q (.int xs.length) H:=by
 unfold kLen; dsimp only; rw [h]; rfl
theorem mt {p:Addr} {xs:List V} {y:V} (h:H p=some (.lst xs)):bw (.ref p) [y] H Q=(xs.length < sizeLine∧Q .non (upd H p (.lst (xs++[y])))):=by
 unfold bw; dsimp only; rw [h]; rfl
theorem kY:∀ ns:List Int,(ns.map V.int).all flatV=true
 | []=>rfl
 | n::r=>by rw [List.map_cons,List.all_cons,kY r]; rfl
theorem mv (i:Int):∀ ns:List Int,inV (.int i) (ns.map V.int)=decide (i∈ns)
 | []=>by simp [inV]
 | n::r=>by
  have ih:=mv i r
  unfold inV at ih ⊢
  rw [List.map_cons,List.any_cons,ih]
  show ((n==i)||decide (i∈r))=decide (i∈n::r)
  rw [Bool.eq_iff_iff,Bool.or_eq_true,beq_iff_eq,decide_eq_true_eq,decide_eq_true_eq,List.mem_cons]
  exact ⟨fun h=>h.elim (fun e=>.inl e.symm) .inr,fun h=>h.elim (fun e=>.inl e.symm) .inr⟩
theorem sF {K:PySem.W.Frag} {p:Addr} {i:Int} {ns:List Int} (h:H p=some (.lst (ns.map V.int))):cIn K false (.int i) (.ref p) H Q=Q (.bl (decide (i∈ns))) H:=by
 unfold cIn; dsimp only; rw [h]; dsimp only [unD,unS,bnd]
 rw [mv,kY]
 simp [flatV]
theorem ke {K:PySem.W.Frag} {p:Addr} {i:Int} {ns:List Int} (h:H p=some (.lst (ns.map V.int))):cIn K true (.int i) (.ref p) H Q=Q (.bl (!decide (i∈ns))) H:=by
 unfold cIn; dsimp only; rw [h]; dsimp only [unD,unS,bnd]
 rw [mv,kY]
 simp [flatV]
end
def LoopR (J:It) (g:TG) (tb:TS) (D:Ends) (σ:St) (H1:Hp):Prop:=∃ W:Nat→Nat→St→Hp→Prop,(∃ m,W 0 m σ H1)∧∀ i m σ H,W i m σ H→
 (J.stop i H∧D.nx σ H)∨(J.go i H∧∃ N:St→Hp→Prop,(∀ σ' H',N σ' H'→∃ m',m' < m∧W (i+1) m' σ' H')∧∀ x H',J.yld i H x H'→g x σ H' fun σ2 H2=>tb { D with nx:=N,ct:=N,bk:=D.nx } σ2 H2)
def CompR (J:It) (g:TG) (tt:TT) (te:TE) (fin:Addr→Hp→Prop) (σ0:St) (H1:Hp):Prop:=∀ l,H1 l=none→
 ∃ W:Nat→Nat→St→Hp→Prop,(∃ m,W 0 m σ0 (upd H1 l (.lst [])))∧∀ i m σ' H',W i m σ' H'→
  (J.stop i H'∧fin l H')∨(J.go i H'∧∃ N:St→Hp→Prop,(∀ σ'' H'',N σ'' H''→∃ m',m' < m∧W (i+1) m' σ'' H'')∧∀ x H2,J.yld i H' x H2→g x σ' H2 fun σ2 H3=>tt σ2 H3 fun b H4=>
   if b=true then te σ2 H4 fun y H5=>∃ ys,H5 l=some (.lst ys)∧ys.length < sizeLine∧N σ2 (upd H5 l (.lst (ys++[y]))) else N σ2 H4)
section
variable {K:PySem.W.Frag} {g:TG} {tb:TS} {D:Ends} {σ:St} {H:Hp} {tl:TE} {ta:TA} {ix:List (Option Nat)} {tt:TT} {te:TE} {k:Nat} {Q:VK}
theorem gi:tFor (iList K tl) g tb D σ H=tl σ H fun x H1=>∃ a,x=.ref a∧(∃ xs,SqL K H1 a xs)∧LoopR (Itl K a) g tb D σ H1:=rfl
theorem eK:tFor (fU ta) g tb D σ H=ta σ H fun vs H1=>∃ j:Int,vs=[.int j]∧ -(2^62)≤j∧j < 2^62∧LoopR (Itr 0 j.toNat) g tb D σ H1:=rfl
theorem eL:tFor (m5 ta) g tb D σ H=ta σ H fun vs H1=>∃ i j:Int,vs=[.int i,.int j]∧(-(2^62)≤i∧i < 2^62∧ -(2^62)≤j∧j < 2^62)∧LoopR (Itr i (j - i).toNat) g tb D σ H1:=rfl
theorem cX:tComp ix (iList K tl) g tt te σ H Q=tl σ H fun x H1=>∃ a,x=.ref a∧(∃ xs,SqL K H1 a xs)∧CompR (Itl K a) g tt te (fun l H'=>Q (.ref l) H') (subσ ix σ) H1:=rfl
theorem dh:tComp ix (fU ta) g tt te σ H Q=ta σ H fun vs H1=>∃ j:Int,vs=[.int j]∧ -(2^62)≤j∧j < 2^62∧CompR (Itr 0 j.toNat) g tt te (fun l H'=>Q (.ref l) H') (subσ ix σ) H1:=rfl
theorem di:sComp k ix (iList K tl) g tt te D σ H=tl σ H fun x H1=>∃ a,x=.ref a∧(∃ xs,SqL K H1 a xs)∧CompR (Itl K a) g tt te (fun l H'=>D.nx (σ.set k (some (.ref l))) H') (subσ ix σ) H1:=rfl
theorem cG:sComp k ix (fU ta) g tt te D σ H=ta σ H fun vs H1=>∃ j:Int,vs=[.int j]∧ -(2^62)≤j∧j < 2^62∧CompR (Itr 0 j.toNat) g tt te (fun l H'=>D.nx (σ.set k (some (.ref l))) H') (subσ ix σ) H1:=rfl
theorem ni {lo:Int} {n:Nat} {fin:Addr→Hp→Prop} {σ0:St} {H1:Hp} (Pv:Addr→Nat→St→Hp→Prop) (h0:∀ l,H1 l=none→Pv l 0 σ0 (upd H1 l (.lst [])))
  (hs:∀ l i σ H,H1 l=none→i < n→Pv l i σ H→g (.int (lo+i)) σ H fun σ2 H3=>tt σ2 H3 fun b H4=>if b=true then te σ2 H4 fun y H5=>∃ ys,H5 l=some (.lst ys)∧ys.length < sizeLine∧Pv l (i+1) σ2 (upd H5 l (.lst (ys++[y]))) else Pv l (i+1) σ2 H4)
  (hd:∀ l σ H,H1 l=none→Pv l n σ H→fin l H):CompR (Itr lo n) g tt te fin σ0 H1:=by
 intro l hl0
 refine ⟨fun i m σ H=>m=n - i∧i≤n∧Pv l i σ H,⟨n,by simp,Nat.zero_le _,h0 l hl0⟩,?_⟩
 rintro i m σ H ⟨rfl,hi,p⟩
 by_cases hlt:i < n
 · refine .inr ⟨hlt,Pv l (i+1),fun σ' H' p'=>⟨n - (i+1),by omega,rfl,hlt,p'⟩,fun x H' y=>?_⟩
   obtain ⟨e,y⟩:=y
   subst e y
   exact hs l i σ _ hl0 hlt p
 · have e:i=n:=by omega
   subst e
   exact .inl ⟨Nat.le_refl _,hd l σ H hl0 p⟩
theorem o6 {a:Addr} {xs:List V} {fin:Addr→Hp→Prop} {σ0:St} {H1:Hp} (Pv:Addr→Nat→St→Hp→Prop) (h0:∀ l,H1 l=none→Pv l 0 σ0 (upd H1 l (.lst []))) (hq:∀ l i σ H,H1 l=none→i≤xs.length→Pv l i σ H→SqL K H a xs)
  (hs:∀ l i x σ H,H1 l=none→xs[i]? =some x→Pv l i σ H→g x σ H fun σ2 H3=>tt σ2 H3 fun b H4=>if b=true then te σ2 H4 fun y H5=>∃ ys,H5 l=some (.lst ys)∧ys.length < sizeLine∧Pv l (i+1) σ2 (upd H5 l (.lst (ys++[y]))) else Pv l (i+1) σ2 H4)
  (hd:∀ l σ H,H1 l=none→Pv l xs.length σ H→fin l H):CompR (Itl K a) g tt te fin σ0 H1:=by
 intro l hl0
 refine ⟨fun i m σ H=>m=xs.length - i∧i≤xs.length∧Pv l i σ H,⟨xs.length,by simp,Nat.zero_le _,h0 l hl0⟩,?_⟩
 rintro i m σ H ⟨rfl,hi,p⟩
 have q:=hq l i σ H hl0 hi p
 by_cases hlt:i < xs.length
 · refine .inr ⟨⟨xs,xs[i],q,by simp [hlt]⟩,Pv l (i+1),fun σ' H' p'=>⟨xs.length - (i+1),by omega,rfl,hlt,p'⟩,fun x H' y=>?_⟩
   obtain ⟨e,y⟩:=y
   subst e
   exact hs l i x σ _ hl0 (y xs q) p
 · have e:i=xs.length:=by omega
   subst e
   exact .inl ⟨⟨xs,q,Nat.le_refl _⟩,hd l σ H hl0 p⟩
theorem sG {p q:Addr} {xs ys:List Int} (hp:H p=some (.lst (xs.map V.int))) (hq:H q=some (.lst (ys.map V.int))) (h:Q (.bl (decide (xs=ys))) H):cEq K (.ref p) (.ref q) H Q:=by
 show rEqD K (.ref p) (.ref q) H Q
 refine ⟨.list (xs.map PyData.int),.list (ys.map PyData.int),.lst (SqL.of hp) (.ints xs),.lst (SqL.of hq) (.ints ys),ig xs,ig ys,?_⟩
 rw [PyData.eqv,qb]
 exact h
theorem yr {p q:Addr} {xs ys:List Int} (hp:H p=some (.lst (xs.map V.int))) (hq:H q=some (.lst (ys.map V.int))) (h:Q (.bl (!decide (xs=ys))) H):cNe K (.ref p) (.ref q) H Q:=by
 show rNeD K (.ref p) (.ref q) H Q
 refine ⟨.list (xs.map PyData.int),.list (ys.map PyData.int),.lst (SqL.of hp) (.ints xs),.lst (SqL.of hq) (.ints ys),ig xs,ig ys,?_⟩
 rw [PyData.eqv,qb]
 exact h
theorem qe {p:Addr} {xs:List V} (hp:H p=some (.lst xs)) (h:∀ l,H l=none→Q (.ref l) (upd H l (.lst xs))):kList [.ref p] H Q:=by
 unfold kList
 dsimp only
 rw [hp]
 exact h
end
theorem bd {X:Cx} {N:List Str} {ix:List (Option Nat)} {scope:Scope} (h1:scope.kind=.function) (h2:(scope.names.map (·.1)).Nodup) (h3:(scope.names.all fun p=>p.2 != .free||isCF (X.env.kindOf p.1))=true) (h4:N=compN scope) (h5:ix=ng X.N scope):BlkOk X N ix scope:=by
 subst h4 h5
 exact xJ h1 h2 h3
def kLenS (K:PySem.W.Frag):List V→Hp→VK→Prop:=fun xs H Q=>∃ p ys,xs=[.ref p]∧(SqL K H p ys∨SqT K H p ys)∧Q (.int ys.length) H
structure Bt (mg:Str→Option Value):Prop where
 len_:mg "len"=none
 abs_:mg "abs"=none
 min_:mg "min"=none
 max_:mg "max"=none
 sorted_:mg "sorted"=none
 any_:mg "any"=none
 isinstance_:mg "isinstance"=none
 list_:mg "list"=none
 int_:mg "int"=none
 bool_:mg "bool"=none
 str_:mg "str"=none
 tuple_:mg "tuple"=none
 reversed_:mg "reversed"=none
 set_:mg "set"=none
 range_:mg "range"=none
 zip_:mg "zip"=none
end L2
namespace L2
open PySem PySem.Spec PyProof.Rows
theorem Vals.get':∀ {xs:List V} {us:List Value} {i:Nat} {u:Value},Vals xs us→us[i]? =some u→∃ x,xs[i]? =some x∧RelV x u
 | _,_,_,_,.nil,h=>by simp at h
 | _,_,0,_,.cons r _,h=>by simp at h; subst h; exact ⟨_,rfl,r⟩
 | _,_,i+1,_,.cons _ t,h=>by
  obtain ⟨x,hx,r⟩:=Vals.get' (i:=i) t (by simpa using h)
  exact ⟨x,by simpa using hx,r⟩
section
variable {X:Cx} {pins:List (Addr × Obj)} {σ:St} {H:Hp} {s s':Shared}
theorem Inv.kept' (I:Inv X pins σ H s) (k:∀ b u,s.heap.get? b=some u→s'.heap.get? b=some u) (ho:s'.os=s.os) (hg:AllBare s'.gens):Inv X pins σ H s':=
 I.call' (ch:=[]) ho (Un.kept k) (I.hok.kept k) hg fun b z=>absurd z (by simp)
theorem Inv.walked {l:Addr} {o:Obj} (I:Inv X pins σ H s) (hm:Moved [s.heap.objs.size] (fun a b=>b=a) { s with heap:=s.heap.push o } s'):Inv X pins σ H s':=by
 refine I.kept' (fun b u e=>hm.heap b u (fun z=>?_) (Heap.get?_push_of_some _ e)) hm.os (by rw [show s'.gens=s.gens from hm.gens]; exact I.bare)
 have:b=s.heap.objs.size:=by simpa using z
 exact absurd (Heap.lt_size e) (by rw [this]; exact Nat.lt_irrefl _)
def kZ (K:PySem.W.Frag):V→List V→Hp→VK→Prop
 | .ref p,[y],H,Q=>∃ (ds:List PyData) (d:PyData) (j:Nat),DV K H (.ref p) (.list ds)∧DV K H y d∧PyData.canLayAll0 ds=true∧PyData.canLay0 d=true∧min (PyData.depthAll ds) d.depth≤62∧
   j≤1000∧(∃ e,ds[j]? =some e∧PyData.eqv e d=true)∧(∀ m e,m < j→ds[m]? =some e→PyData.eqv e d=false)∧Q (.int j) H
 | _,_,_,_=>False
theorem o7 (hu:X.A.units+64 < cLine):MtR X "list.index" (kZ X.K):=by
 intro pins s σ H x vs v us Q I rx rv h
 unfold kZ at h
 split at h
 · rename_i p y
   obtain ⟨ds,d,j,hp,hy,hl,hd,hdep,hj,⟨e,ej,et⟩,hno,q⟩:=h
   cases rx
   obtain ⟨u,rfl,ru⟩:=dP rv
   obtain ⟨as,rc⟩:=hp.reads I rfl
   obtain ⟨bs,rx⟩:=hy.reads I ru
   cases rc with
   | @list _ o its n _ _ h1 h2 h3 h4=>
    obtain ⟨oc,od,oda,osl⟩:=o
    dsimp only at h2 h3
    subst h2 h3
    have hmap:=SeqAt.readsAll_map ds _ _ hl h4
    have at_:∀ (m:Nat) (hm:m < its.size),ds[m]? =some (SeqAt.readOf s.heap its[m]):=fun m hm=>by
     rw [← hmap,List.getElem?_map,Array.getElem?_toList,Array.getElem?_eq_getElem hm]; rfl
    have hjs:j < its.size:=by
     have:=(List.getElem?_eq_some_iff.mp ej).1
     rw [← hmap,List.length_map,Array.length_toList] at this
     exact this
    refine call_meets F.slot_list_index ⟨_,h1,rfl⟩ F.entry_list_index (F.args_list_index_2 _ _) (SeqAt.list_indexAt p its n od osl u (fun y=>PyData.eqv (SeqAt.readOf s.heap y) d) j hjs (by omega) ?_ ?_) ⟨h1,SeqAt.items_eqAt h4 rx hl hd ?_,⟨.int j,H,I.tok _,⟨_,rfl⟩,q⟩⟩
    · have:=at_ j hjs
      rw [ej] at this
      cases this
      exact et
    · intro m hm hlt
      exact hno m _ hlt (at_ m hm)
    · omega
 · exact h.elim
end
end L2
namespace L2
open PySem PySem.Spec PyProof.Rows
open Builtin Builtin.Str
theorem oE:∀ {ts:List Str} {us:List Value},Vals (ts.map V.str) us→∃ l:List (Str × Tok),us=strValues l∧l.map (·.1)=ts
 | [],_,.nil=>⟨[],rfl,rfl⟩
 | t::ts,_,.cons r rs=>by
  obtain ⟨l,rfl,e⟩:=oE (ts:=ts) rs
  obtain ⟨u,rfl⟩:=r
  exact ⟨(t,u)::l,rfl,by rw [List.map_cons,e]⟩
theorem o8:∀ (l:List (Str × Tok)),Vals ((l.map (·.1)).map V.str) (strValues l)
 | []=>.nil
 | (t,u)::l=>.cons ⟨u,rfl⟩ (o8 l)
section
variable {X:Cx}
def kFind:V→List V→Hp→VK→Prop
 | .str x,[.str y],H,Q=>Q (.int (Txt.find x y)) H
 | _,_,_,_=>False
def nj:V→List V→Hp→VK→Prop
 | .str x,[.str y],H,Q=>(y.length==0)=false∧x.length≤sizeLine∧(Txt.split x y).length≤sizeLine∧∀ l,H l=none→Q (.ref l) (upd H l (.lst ((Txt.split x y).map V.str)))
 | _,_,_,_=>False
theorem ux:MtR X "str.split" nj:=by
 intro pins s σ H x vs v us Q I rx rv h
 unfold nj at h
 split at h
 · rename_i x y
   obtain ⟨t,rfl⟩:=rx
   obtain ⟨u,rfl,ru⟩:=dP rv
   obtain ⟨t2,rfl⟩:=ru
   obtain ⟨hy,hx,hn,q⟩:=h
   have fin:∀ (l:List (Str × Tok)) (k:Nat),l.map (·.1)=Txt.split x y→EP X pins σ Q (.ref s.heap.objs.size) { s with heap:=s.heap.push { cls:=.type "list",data:=.seq (strValues l).toArray },toks:=k }:=fun l k e=>by
    refine ⟨.ref s.heap.objs.size,_,I.lnew (t':=k) (ys:=(Txt.split x y).map V.str) (its:=strValues l) ?_ (by rw [List.length_map]; exact hn),rfl,q _ I.fresh⟩
    rw [← e]
    exact o8 l
   cases h1:(decide (x.length < y.length)||decide (strKind x < strKind y))
   · cases hf:(occurrences x y 0 x.length (x.length+1)).isEmpty
     · have e3:Txt.split x y=partsBetween x (occurrences x y 0 x.length (x.length+1)) y.length:=(if_neg (ne_true_of_eq_false h1)).trans (if_neg (ne_true_of_eq_false hf))
       refine call_meets F.slot_str_split (typeIs_str _ _ _) F.entry_str_split (F.args_str_split_2 _ _) (meets_str_split_sep x y t t2 h1 hy hf hx (by rw [← e3]; exact hn)) ?_
       show wants _ _ _ { s with toks:=_,heap:=s.heap.push { cls:=.type "list",data:=.seq (strsFrom s.toks (partsBetween x (occurrences x y 0 x.length (x.length+1)) y.length)).toArray } }
       rw [strsFrom_eq]
       exact fin (numbered s.toks _) _ ((numbered_texts _ _).trans e3.symm)
     · exact call_meets F.slot_str_split (typeIs_str _ _ _) F.entry_str_split (F.args_str_split_2 _ _) (meets_str_split_not_found x y t t2 h1 hy hf)
        (fin [(x,t)] s.toks ((if_neg (ne_true_of_eq_false h1)).trans (if_pos hf)).symm)
   · exact call_meets F.slot_str_split (typeIs_str _ _ _) F.entry_str_split (F.args_str_split_2 _ _) (meets_str_split_cannot_occur x y t t2 h1)
      (fin [(x,t)] s.toks (if_pos h1).symm)
 · exact h.elim
def mw:V→Option Int→Option Int→Hp→VK→Prop
 | .ref p,lo,hi,H,Q=>cSl (.ref p) lo hi H Q
 | .str z,lo,hi,H,Q=>z.length≤sizeLine∧Q (.str (Txt.slice z lo hi)) H
 | _,_,_,_,_=>False
theorem sH:SlR X mw:=by
 intro pins s σ H x v vl vu lo hi sl Q I rx hs pl pu h
 cases x with
 | ref p=>exact yG pins s σ H _ v vl vu lo hi sl Q I rx hs pl pu h
 | str z=>
  obtain ⟨hz,q⟩:=(show z.length≤sizeLine∧Q (.str (Txt.slice z lo hi)) H from h)
  obtain ⟨t,rfl⟩:=rx
  have fin:∀ t' k,EP X pins σ Q (.str (Txt.slice z lo hi) t') { s with toks:=k }:=fun t' k=>⟨.str _,H,I.tok k,⟨t',rfl⟩,q⟩
  refine ⟨"str",_,F.slot_str_getitem.lookup,typeIs_str _ _ _,?_⟩
  cases pl with
  | none=>
   cases pu with
   | none=>exact wpAny_getItem_str_slice (l:=none) (u:=none) (st:=none) hs rfl (post_val_or_str ⟨Nat.le_trans (Txt.slice_le z _ _) hz,fin⟩)
   | int j tj=>exact wpAny_getItem_str_slice (l:=none) (u:=some (j,tj)) (st:=none) hs rfl (post_val_or_str ⟨Nat.le_trans (Txt.slice_le z _ _) hz,fin⟩)
  | int i ti=>
   cases pu with
   | none=>exact wpAny_getItem_str_slice (l:=some (i,ti)) (u:=none) (st:=none) hs rfl (post_val_or_str ⟨Nat.le_trans (Txt.slice_le z _ _) hz,fin⟩)
   | int j tj=>exact wpAny_getItem_str_slice (l:=some (i,ti)) (u:=some (j,tj)) (st:=none) hs rfl (post_val_or_str ⟨Nat.le_trans (Txt.slice_le z _ _) hz,fin⟩)
 | _=>exact False.elim h
def Its (x:Str):It:=⟨fun i _=>i < x.cps.size,fun i H v H'=>H'=H∧∃ c,x.cps[i]? =some c∧v=.str ⟨#[c]⟩,fun i _=>x.cps.size≤i⟩
theorem qf {P:Program} {w:World} {K:PySem.W.Frag} {tg:Expr} {x:Str} {t:Tok} (it:Addr) (ty:String) (hty:["enumerate","zip","dict_itemiterator","dict_reverseitemiterator","odict_iterator","itertools.zip_longest","itertools.pairwise"].contains ty=false)
  (W:∀ A:Around,A.handled=none→Walks P w A it [it] [it] x.cps.size (SignAt x) (fun i h=>h.IsStrIter it ty x t i))
  (slf:∀ (A:Around) (i:Nat) (s:Shared) (Q:Value→Shared→Prop) (E:Value→Shared→Prop),s.heap.IsStrIter it ty x t i→Q (.ref it) s→wpAny (model P w) A (pyIter (.ref it)) Q E s):
  Turn P w K tg (Its x) [it] it (fun i h=>i≤x.cps.size∧h.IsStrIter it ty x t i) where
 mem:=by simp
 obj:=fun i h st b hb=>by
  have e:b=it:=by simpa using hb
  subst e
  obtain ⟨_,o,e,c,d⟩:=st
  exact ⟨o,e,fun v z=>by rw [d] at z; cases z⟩
 keep:=fun i h h' st k=>by
  obtain ⟨hi,o,e,c,d⟩:=st
  exact ⟨hi,o,k it (by simp) o e,c,d⟩
 item:=by
  intro X hP hw hK hc i pins s σ H E I hf st hg
  subst hP hw hK
  obtain ⟨f0,f1,f2,f3,f4,f5⟩:=hf it (by simp)
  have hlt:i < x.cps.size:=hg
  refine (W X.A (I.ok.hd hc)).item i s _ _ hlt st.2 fun v h' tk hv st' kk=>?_
  obtain ⟨c,u,hcu,rfl⟩:=hv
  have I1:Inv X pins σ H { s with heap:=h',toks:=tk }:=I.turned (fun b o hb e=>kk b o (by simpa using hb) e) f0 f1 f3 f4 f5
  obtain ⟨o,e,c',d⟩:=id st'
  exact ⟨_,rfl,sj (s:={ s with heap:=h',toks:=tk }) e c' d hty ⟨.str ⟨#[c]⟩,H,I1,⟨u,rfl⟩,⟨rfl,c,hcu,rfl⟩,⟨hlt,st'⟩,fun b hb=>(hf b hb).1⟩⟩
 done:=by
  intro X hP hw hK hc i pins s σ H E I hf st hg
  subst hP hw hK
  obtain ⟨f0,f1,f2,f3,f4,f5⟩:=hf it (by simp)
  have hle:x.cps.size≤i:=hg
  have e:i=x.cps.size:=Nat.le_antisymm st.1 hle
  subst e
  exact (W X.A (I.ok.hd hc)).done s _ _ st.2 fun h' tk kk=>⟨rfl,I.turned (fun b o hb e=>kk b o (by simpa using hb) e) f0 f1 f3 f4 f5⟩
 self:=fun A i s Q E st h=>slf A i s Q E st.2 h
def iStr (tl:TE):TI:=fun σ H R=>tl σ H fun x H1=>∃ z,x=.str z∧R (Its z) H1
theorem xK {tg l:Expr} {tl:TE} (hl:PE X l tl):PI X tg l (iStr tl):=by
 intro pins s σ H R I h
 refine thn (hl pins s σ H _ I h) fun v s1 ⟨x,H1,I1,r1,q1⟩=>?_
 obtain ⟨z,rfl,q⟩:=q1
 obtain ⟨t,rfl⟩:=r1
 have fin:∀ b∈[s1.heap.objs.size],FpOk X pins H1 b:=fun b hb=>by
  have e:b=s1.heap.objs.size:=by simpa using hb
  subst e
  exact I1.fpOk (Nat.le_refl _) (I1.hok.fresh (Nat.le_refl _))
 cases ha:z.cps.all (· < 128)
 · refine wpAny_pyIter_wide ha ⟨s1.heap.objs.size,[s1.heap.objs.size],_,Its z,H1,rfl,I1.kept (t':=s1.toks) fun b o e=>Heap.get?_push_of_some _ e,qf (t:=t) _ "str_iterator" (by decide) (fun A' hA=>Walks.strWide hA _ z t) (fun A i s Q E st hq=>wpAny_pyIter_striter_wide st hq),⟨Nat.zero_le _,_,Heap.get?_push_size _ rfl,rfl,rfl⟩,fin,q⟩
 · refine wpAny_pyIter_ascii ha ⟨s1.heap.objs.size,[s1.heap.objs.size],_,Its z,H1,rfl,I1.kept (t':=s1.toks) fun b o e=>Heap.get?_push_of_some _ e,qf (t:=t) _ "str_ascii_iterator" (by decide) (fun A' hA=>Walks.strAscii hA _ z t) (fun A i s Q E st hq=>wpAny_pyIter_striter_ascii st hq),⟨Nat.zero_le _,_,Heap.get?_push_size _ rfl,rfl,rfl⟩,fin,q⟩
end
section
variable {K:PySem.W.Frag} {g:TG} {tb:TS} {D:Ends} {σ:St} {H:Hp} {tl:TE} {ix:List (Option Nat)} {tt:TT} {te ta:TE} {k:Nat} {Q:VK}
theorem kf {r:V→Option Int→Option Int→Hp→VK→Prop} {a b:TO}:tSl r te a b σ H Q=te σ H fun x H1=>a σ H1 fun l H2=>b σ H2 fun u H3=>r x l u H3 Q:=rfl
theorem gj {R:Option Int→Hp→Prop}:tPart te σ H R=te σ H fun x H1=>∃ i,x=.int i∧R (some i) H1:=rfl
theorem dj {R:Option Int→Hp→Prop}:iZ σ H R=R none H:=rfl
theorem gk {to ti:TE} {t:TSet} {v:V} {R:St→Hp→Prop}:gSub to ti t v σ H R=to σ H fun o H1=>ti σ H1 fun i H2=>t o i v H2 fun H3=>R σ H3:=rfl
theorem kg {r:V→Hp→VK→Prop}:tUn r te σ H Q=te σ H fun x H1=>r x H1 Q:=rfl
theorem gl:tFor (iStr tl) g tb D σ H=tl σ H fun x H1=>∃ z,x=.str z∧LoopR (Its z) g tb D σ H1:=rfl
theorem eP:tComp ix (iStr tl) g tt te σ H Q=tl σ H fun x H1=>∃ z,x=.str z∧CompR (Its z) g tt te (fun l H'=>Q (.ref l) H') (subσ ix σ) H1:=rfl
theorem dk:sComp k ix (iStr tl) g tt te D σ H=tl σ H fun x H1=>∃ z,x=.str z∧CompR (Its z) g tt te (fun l H'=>D.nx (σ.set k (some (.ref l))) H') (subσ ix σ) H1:=rfl
theorem wl {x:Str}:tyV K "str" (.str x) H:=rfl
theorem iP {i j:Str}:cEq K (.str i) (.str j) H Q=Q (.bl (decide (i=j))) H:=rfl
theorem iQ {i j:Str}:cNe K (.str i) (.str j) H Q=Q (.bl (!decide (i=j))) H:=rfl
theorem gm {z:Str}:kLen [.str z] H Q=(z.length≤sizeLine∧Q (.int z.length) H):=rfl
theorem fj {i j:Str}:cAdd (.str i) (.str j) H Q=(i.length+j.length≤sizeLine∧Q (.str (i++j)) H):=rfl
theorem yt {z:Str} {i:Int}:cIx (.str z) (.int i) H Q=(z.length≤sizeLine∧bnd (atI z.cps.toList i) fun c=>Q (.str ⟨#[c]⟩) H):=rfl
theorem gn {x y:Str}:kFind (.str x) [.str y] H Q=Q (.int (Txt.find x y)) H:=rfl
theorem wH {x y:Str}:nj (.str x) [.str y] H Q=((y.length==0)=false∧x.length≤sizeLine∧(Txt.split x y).length≤sizeLine∧∀ l,H l=none→Q (.ref l) (upd H l (.lst ((Txt.split x y).map V.str)))):=rfl
theorem yu {p:Addr} {lo hi:Option Int} {xs:List V} (hp:H p=some (.lst xs)) (h:∀ l,H l=none→Q (.ref l) (upd H l (.lst (cutV xs lo hi)))):mw (.ref p) lo hi H Q:=by
 show bnd (unL (H p)) _
 rw [hp]
 exact h
end
end L2
namespace L2
open PySem PySem.Spec PyProof.Rows
def cBitI (g:Int→Int→Int):R2
 | .int i,.int j,H,Q=>Q (.int (g i j)) H
 | _,_,_,_=>False
def cShr:R2
 | .int i,.int j,H,Q=>0≤j∧Q (.int (i / 2^j.toNat)) H
 | _,_,_,_=>False
abbrev cOr:R2:=cBitI Builtin.bitOr
section
variable {X:Cx}
theorem vz {o:Operator} {g:Int→Int→Int} (h0:OpR X (binaryOp o) (rI0 fun i j=>.int (g i j))):OpR X (binaryOp o) (cBitI g):=by
 intro pins s σ H x y v u Q I rx ry h
 unfold cBitI at h
 split at h
 · exact h0 pins s σ H _ _ v u Q I rx ry ⟨_,_,rfl,rfl,h⟩
 · exact h.elim
theorem xL:OpR X (binaryOp .BitOr) cOr:=vz yj
theorem wI:OpR X (binaryOp .RShift) cShr:=by
 intro pins s σ H x y v u Q I rx ry h
 unfold cShr at h
 split at h
 · exact xw pins s σ H _ _ v u Q I rx ry ⟨_,_,rfl,rfl,h.1,h.2⟩
 · exact h.elim
end
section
variable {H:Hp} {Q:VK} {i j:Int}
theorem jU {g:Int→Int→Int}:cBitI g (.int i) (.int j) H Q=Q (.int (g i j)) H:=rfl
theorem lN:cShr (.int i) (.int j) H Q=(0≤j∧Q (.int (i / 2^j.toNat)) H):=rfl
end
end L2
namespace L2
open PySem PySem.Spec PyProof.Rows
section
variable {X:Cx}
def kInt:List V→Hp→VK→Prop
 | [.int i],H,Q=>Q (.int i) H
 | [.bl k],H,Q=>Q (.int (if k then 1 else 0)) H
 | _,_,_=>False
def jV:V→List V→Hp→VK→Prop
 | .int i,[],H,Q=>Q (.int (Builtin.Int.intBits i:Nat)) H
 | _,_,_,_=>False
theorem nk:MtR X "int.bit_length" jV:=by
 intro pins s σ H x vs v us Q I rx rv h
 unfold jV at h
 split at h
 · obtain ⟨t,rfl⟩:=rx
   cases rv
   exact call_int_bit_length ⟨.int _,H,I.tok _,⟨_,rfl⟩,h⟩
 · exact h.elim
def kAll:List V→Hp→VK→Prop
 | [.ref p],H,Q=>bnd (unL (H p)) fun ys=>∃ bs:List Bool,ys=bs.map V.bl∧Q (.bl (bs.all id)) H
 | _,_,_=>False
theorem uy (bs:List Bool):(List.range bs.length).all (fun i=>bs.getD i false)=bs.all id:=by
 rw [Bool.eq_iff_iff,List.all_eq_true,List.all_eq_true]
 constructor
 · intro h b hb
   obtain ⟨i,hi,e⟩:=List.mem_iff_getElem.mp hb
   have:=h i (List.mem_range.mpr hi)
   rw [List.getD,List.getElem?_eq_getElem hi,e] at this
   exact this
 · intro h i hi
   have hi':i < bs.length:=List.mem_range.mp hi
   have:=h bs[i] (List.getElem_mem hi')
   simpa [List.getD,hi'] using this
theorem nn:bootBuiltins "all"=some (.builtin "all"):=by decide+kernel
theorem jv (hc:X.calm=true):CallR X (.builtin "all") kAll:=by
 intro pins s σ H xs us Q I r h
 unfold kAll at h
 split at h
 · rename_i p
   obtain ⟨ys,e,bs,rfl,q⟩:=bu h
   obtain ⟨u,rfl,ru⟩:=dP r
   cases ru
   obtain ⟨its,rv,pl,hz⟩:=I.list (p9 e)
   have hl:=rv.length
   rw [List.length_map] at hl
   have hlt:p < s.heap.objs.size:=by
    obtain ⟨o,h1,_⟩:=pl.isList
    exact Heap.lt_size h1
   refine call_all_walkS (wpAny_pyIter_list pl.isList ?_)
   refine ⟨s.heap.objs.size,_,_,_,its.toArray.size,_,_,fun i=>bs.getD i false,rfl,(Walks.list (A:=X.A.in1) (I.ok.hd hc) s.heap.objs.size p (Nat.ne_of_lt hlt) its.toArray).toS,⟨⟨_,Heap.get?_push_size _ rfl,rfl,rfl⟩,pl.isList.push _⟩,?_,fun s' hm=>?_⟩
   · intro i v s1 Q1 E1 hP hQ
     have hv:its[i]? =some v:=by simpa using hP
     obtain ⟨x,hx,rx⟩:=rv.get' hv
     obtain ⟨b,hb,rfl⟩:∃ b,bs[i]? =some b∧V.bl b=x:=by simpa using hx
     cases rx
     refine wpAny_truthy_bool ?_
     have e3:bs.getD i false=b:=by simp [List.getD,hb]
     rw [← e3]
     exact hQ
   · refine ⟨.bl _,H,I.walked (l:=p) hm,?_,q⟩
     have e2:its.toArray.size=bs.length:=by rw [List.size_toArray]; exact hl.symm
     rw [e2,uy]
     rfl
 · exact h.elim
def Itd (hi:Int) (n:Nat):It:=⟨fun i _=>i < n,fun i H x H'=>H'=H∧x=.int (hi - i),fun i _=>n≤i⟩
def iRngD (ta:TA):TI:=fun σ H R=>ta σ H fun vs H1=>∃ i j:Int,vs=[.int i,.int j,.int (-1)]∧(-(2^60)≤i∧i < 2^60∧ -(2^60)≤j∧j < 2^60)∧R (Itd i (i - j).toNat) H1
end
section
variable {K:PySem.W.Frag} {g:TG} {tb:TS} {D:Ends} {σ:St} {H:Hp} {ta:TA} {Q:VK}
theorem jW {k:Bool}:kInt [.bl k] H Q=Q (.int (if k then 1 else 0)) H:=rfl
theorem jX {i:Int}:kInt [.int i] H Q=Q (.int i) H:=rfl
theorem gO {i:Int}:jV (.int i) [] H Q=Q (.int (Builtin.Int.intBits i:Nat)) H:=rfl
theorem np {p:Addr} {bs:List Bool} (hp:H p=some (.lst (bs.map V.bl))) (h:Q (.bl (bs.all id)) H):kAll [.ref p] H Q:=by
 show bnd (unL (H p)) _
 rw [hp]
 exact bb (a:=bs.map V.bl) rfl ⟨bs,rfl,h⟩
theorem i3:tFor (iRngD ta) g tb D σ H=ta σ H fun vs H1=>∃ i j:Int,vs=[.int i,.int j,.int (-1)]∧(-(2^60)≤i∧i < 2^60∧ -(2^60)≤j∧j < 2^60)∧LoopR (Itd i (i - j).toNat) g tb D σ H1:=rfl
end
end L2
namespace L2
open PySem PySem.Spec PyProof.Rows
section
variable {X:Cx}
def Ite (K:PySem.W.Frag) (a:Addr):It:=
 ⟨fun i H=>∃ xs x,SqL K H a xs∧xs[i]? =some x,
  fun i H v H'=>∃ T x,v=.ref T∧H T=none∧H'=upd H T (.tup [.int i,x])∧∀ xs,SqL K H a xs→xs[i]? =some x,
  fun i H=>∃ xs,SqL K H a xs∧xs.length≤i⟩
def iEnum (K:PySem.W.Frag) (ta:TA):TI:=fun σ H R=>ta σ H fun vs H1=>∃ a,vs=[.ref a]∧(∃ xs,SqL K H1 a xs)∧R (Ite K a) H1
end
section
variable {K:PySem.W.Frag} {g:TG} {tb:TS} {D:Ends} {σ:St} {H:Hp} {ta:TA} {Q:VK} {ix:List (Option Nat)} {tt:TT} {te:TE} {k:Nat}
theorem jY:tFor (iEnum K ta) g tb D σ H=ta σ H fun vs H1=>∃ a,vs=[.ref a]∧(∃ xs,SqL K H1 a xs)∧LoopR (Ite K a) g tb D σ H1:=rfl
theorem i4:tComp ix (iEnum K ta) g tt te σ H Q=ta σ H fun vs H1=>∃ a,vs=[.ref a]∧(∃ xs,SqL K H1 a xs)∧CompR (Ite K a) g tt te (fun l H'=>Q (.ref l) H') (subσ ix σ) H1:=rfl
theorem gP:sComp k ix (iEnum K ta) g tt te D σ H=ta σ H fun vs H1=>∃ a,vs=[.ref a]∧(∃ xs,SqL K H1 a xs)∧CompR (Ite K a) g tt te (fun l H'=>D.nx (σ.set k (some (.ref l))) H') (subσ ix σ) H1:=rfl
end
end L2
namespace L2
open PySem PySem.Spec PyProof.Rows
end L2
namespace L2
open PySem PySem.Spec PyProof.Rows
end L2
namespace L2
open PySem PySem.Spec PyProof.Rows
def rngL (i j:Int):List Int:=(List.range (j - i).toNat).map fun (k:Nat)=>i+(k:Int)
theorem kh (i j:Int):(rngL i j).length=(j - i).toNat:=by unfold rngL; simp
theorem mf:∀ {xs:List V} {us:List Value},xs.length=us.length→(∀ (i:Nat) x u,xs[i]? =some x→us[i]? =some u→RelV x u)→Vals xs us
 | [],[],_,_=>.nil
 | [],_::_,h,_=>by simp at h
 | _::_,[],h,_=>by simp at h
 | x::xs,u::us,h,f=>.cons (f 0 x u rfl rfl) (mf (by simpa using h) fun i y e h1 h2=>f (i+1) y e (by simpa using h1) (by simpa using h2))
theorem vA {i j:Int} {acc:Array Value} (h:ItemsOf (fun k v=>∃ t,v=.int (i+k*1) t) acc (j - i).toNat):Vals ((rngL i j).map V.int) acc.toList:=by
 refine mf (by rw [List.length_map,kh,Array.length_toList]; exact h.1.symm) fun k x u hx hu=>?_
 obtain ⟨t,rfl⟩:=h.2 k u (by simpa using hu)
 unfold rngL at hx
 rw [List.map_map,List.getElem?_map] at hx
 by_cases hk:k < (j - i).toNat
 · rw [List.getElem?_range hk] at hx
   cases hx
   exact ⟨t,by rw [Int.mul_one]⟩
 · rw [List.getElem?_eq_none (by simpa using hk)] at hx
   cases hx
section
variable {X:Cx}
def k6 (ta:TA):TE:=fun σ H Q=>ta σ H fun vs H1=>∃ j:Int,vs=[.int j]∧ -(2^60)≤j∧j≤1000∧∀ l,H1 l=none→Q (.ref l) (upd H1 l (.lst ((rngL 0 j).map V.int)))
def uz (ta:TA):TE:=fun σ H Q=>ta σ H fun vs H1=>∃ i j:Int,vs=[.int i,.int j]∧(0≤i∧i≤1000∧ -(2^60)≤j∧j≤1000)∧∀ l,H1 l=none→Q (.ref l) (upd H1 l (.lst ((rngL i j).map V.int)))
theorem vB {pins:List (Addr × Obj)} {σ:St} {H1:Hp} {s1:Shared} {Q:VK} {i j:Int} {t u v:Tok} {tk:Nat} {A:Around} {E:Value→Shared→Prop} (hh:A.handled=none) (I1:Inv X pins σ H1 s1) (h1:0≤i) (h2:i≤1000) (h3: -(2^60)≤j) (h4:j≤1000)
  (q:∀ l,H1 l=none→Q (.ref l) (upd H1 l (.lst ((rngL i j).map V.int)))):
  wpAny (model X.prog X.w) A (call (.type "list") [.ref s1.heap.objs.size]) (EP X pins σ Q) E { s1 with heap:=s1.heap.push { cls:=.type "range",data:=.fields #[.int i t,.int j u,.int 1 v] },toks:=tk }:=by
 have I2:Inv X pins σ H1 { s1 with heap:=s1.heap.push { cls:=.type "range",data:=.fields #[.int i t,.int j u,.int 1 v] },toks:=tk }:=I1.kept fun b o e=>Heap.get?_push_of_some _ e
 refine call_list_range (n:=(j - i).toNat) hh (IsRange.new ..) (small_one (by omega) (by omega) (by omega) (by omega)) (by rw [rangeSize_one]; split <;> omega) (by omega) fun h' tk' acc' c' old hS' hacc=>?_
 have hlen:((rngL i j).map V.int).length≤sizeLine:=by rw [List.length_map,kh]; exact Nat.le_of_lt (aJ (by omega))
 exact ⟨.ref _,_,I2.laid (t':=tk') (o:=.lst ((rngL i j).map V.int)) old (Nat.le_refl _) ⟨hlen,acc'.toList,c',vA hacc,hS'⟩,rfl,q _ (I2.hok.fresh (Nat.le_refl _))⟩
theorem rl {a:Expr} {ta:TA} {p p2 pos pos2:Pos} (hc:X.calm=true) (hgl:Gl X "list") (hgr:Gl X "range") (hl:X.mg "list"=none) (hr:X.mg "range"=none) (ha:PA X [a] ta)
  (hs1:starEach [.Call (.Name "range" p2) [a] [] pos2] X.env=[(false,eval (.Call (.Name "range" p2) [a] [] pos2) X.env)]:=by rfl) (hs:starEach [a] X.env=[(false,eval a X.env)]:=by rfl):
  PE X (.Call (.Name "list" p) [.Call (.Name "range" p2) [a] [] pos2] [] pos) (k6 ta):=by
 intro pins s σ H Q I h
 refine wpAny_Call_Name_kw (fT I hgl hl gN ?_ (by decide) (by decide))
 refine PyProof.Rows.callWith_type1 ?_ hs1 rfl
 rw [hs1]
 show wpAny _ _ (spliced [(false,eval (.Call (.Name "range" p2) [a] [] pos2) X.env)]) _ _ s
 refine Calls.spliced_cons ?_
 refine Call_ (fT I hgr hr boot_range (PyProof.Rows.callWith_type1 (thn (ha pos2 pins s σ H _ I h) fun us s1 ⟨vs,H1,I1,r1,q1⟩=>?_) hs rfl))
 obtain ⟨j,e,q1,q2,q⟩:=q1
 subst e
 cases r1 with
 | cons r rr=>
  cases rr
  obtain ⟨t,rfl⟩:=r
  refine call_range_1 ?_
  refine Calls.spliced_nil ?_
  exact vB (I.ok.hd hc) I1 (by omega) (by omega) q1 q2 q
end
section
variable {σ:St} {H:Hp} {Q:VK} {ta:TA}
theorem i5:k6 ta σ H Q=ta σ H fun vs H1=>∃ j:Int,vs=[.int j]∧ -(2^60)≤j∧j≤1000∧∀ l,H1 l=none→Q (.ref l) (upd H1 l (.lst ((rngL 0 j).map V.int))):=rfl
theorem i6:uz ta σ H Q=ta σ H fun vs H1=>∃ i j:Int,vs=[.int i,.int j]∧(0≤i∧i≤1000∧ -(2^60)≤j∧j≤1000)∧∀ l,H1 l=none→Q (.ref l) (upd H1 l (.lst ((rngL i j).map V.int))):=rfl
end
end L2
namespace L2
def besL (h w c:Int):List Int:=(if 0 < c / w then [c - w] else [])++(if 0 < c % w then [c - 1] else [])++(if c % w < w - 1 then [c+1] else [])++(if c / w < h - 1 then [c+w] else [])
inductive RC (h w:Int) (cs:List Int) (st:Int):Int→Prop
 | start:st∈cs→RC h w cs st st
 | step {x y:Int}:RC h w cs st x→y∈besL h w x→y∈cs→RC h w cs st y
theorem RC.mem {h w:Int} {cs:List Int} {st x:Int} (r:RC h w cs st x):x∈cs:=by cases r <;> assumption
theorem RC.st {h w:Int} {cs:List Int} {st x:Int} (r:RC h w cs st x):st∈cs:=by
 induction r with
 | start h=>exact h
 | step _ _ _ ih=>exact ih
theorem ki:∀ {xs ys:List Int},xs.Nodup→(∀ x∈xs,x∈ys)→xs.length≤ys.length
 | [],_,_,_=>Nat.zero_le _
 | x::xs,ys,nd,h=>by
  have hx:=h x List.mem_cons_self
  have nd':=List.nodup_cons.mp nd
  have ih:=ki (xs:=xs) (ys:=ys.erase x) nd'.2 fun y hy=>by
   have ne:y≠x:=fun e=>nd'.1 (e ▸ hy)
   exact (List.mem_erase_of_ne ne).mpr (h y (List.mem_cons_of_mem _ hy))
  rw [List.length_erase_of_mem hx] at ih
  have:0 < ys.length:=List.length_pos_of_mem hx
  simp only [List.length_cons]
  omega
structure BI (h w:Int) (cs:List Int) (st:Int) (fs:List Int) (pl:Nat):Prop where
 nd:fs.Nodup
 rc:∀ x∈fs,RC h w cs st x
 hst:st∈fs
 le:pl≤fs.length
 cl:∀ (i:Nat) (x y:Int),i < pl→fs[i]? =some x→y∈besL h w x→y∈cs→y∈fs
theorem BI.len {h w:Int} {cs:List Int} {st:Int} {fs:List Int} {pl:Nat} (b:BI h w cs st fs pl):fs.length≤cs.length:=ki b.nd fun x hx=>(b.rc x hx).mem
theorem BI.start {h w:Int} {cs:List Int} {st:Int} (hs:st∈cs):BI h w cs st [st] 0:=
 ⟨by simp,fun x hx=>by rw [List.mem_singleton.mp hx]; exact .start hs,by simp,Nat.zero_le _,fun i x y hi=>absurd hi (Nat.not_lt_zero _)⟩
theorem BI.done {h w:Int} {cs:List Int} {st:Int} {fs:List Int} {pl:Nat} (b:BI h w cs st fs pl) (e:¬ pl < fs.length) (x:Int):x∈fs↔RC h w cs st x:=by
 refine ⟨b.rc x,fun r=>?_⟩
 induction r with
 | start _=>exact b.hst
 | step r hy hc ih=>
  obtain ⟨i,hi⟩:=List.getElem?_of_mem ih
  have hlt:i < fs.length:=(List.getElem?_eq_some_iff.mp hi).1
  exact b.cl i _ _ (by omega) hi hy hc
def addC (cs fs:List Int) (y:Int):List Int:=if y∈cs∧¬ y∈fs then fs++[y] else fs
structure BJ (h w:Int) (cs:List Int) (st:Int) (f0:List Int) (pl:Nat) (bs:List Int) (fs:List Int):Prop where
 nd:fs.Nodup
 rc:∀ x∈fs,RC h w cs st x
 pre:f0 <+:fs
 al:∀ y∈bs,y∈cs→y∈fs
theorem BJ.zero {h w:Int} {cs:List Int} {st:Int} {fs:List Int} {pl:Nat} (b:BI h w cs st fs pl):BJ h w cs st fs pl [] fs:=⟨b.nd,b.rc,List.prefix_refl _,fun y hy=>nomatch hy⟩
theorem BJ.more {h w:Int} {cs:List Int} {st:Int} {f0 fs bs:List Int} {pl:Nat} {x y:Int} (j:BJ h w cs st f0 pl bs fs) (hx:RC h w cs st x) (hy:y∈besL h w x):BJ h w cs st f0 pl (bs++[y]) (addC cs fs y):=by
 unfold addC
 split
 · rename_i hc
   refine ⟨?_,fun z hz=>?_,j.pre.trans (List.prefix_append _ _),fun z hz hzc=>?_⟩
   · refine List.nodup_append.mpr ⟨j.nd,by simp,fun a ha b hb=>?_⟩
     rw [List.mem_singleton.mp hb]
     intro e
     exact hc.2 (e ▸ ha)
   · rcases List.mem_append.mp hz with hz | hz
     · exact j.rc z hz
     · rw [List.mem_singleton.mp hz]
       exact .step hx hy hc.1
   · rcases List.mem_append.mp hz with hz | hz
     · exact List.mem_append_left _ (j.al z hz hzc)
     · rw [List.mem_singleton.mp hz]
       simp
 · rename_i hc
   refine ⟨j.nd,j.rc,j.pre,fun z hz hzc=>?_⟩
   rcases List.mem_append.mp hz with hz | hz
   · exact j.al z hz hzc
   · rw [List.mem_singleton.mp hz] at hzc ⊢
     exact Decidable.byContradiction fun n=>hc ⟨hzc,n⟩
theorem BJ.done {h w:Int} {cs:List Int} {st:Int} {f0 fs:List Int} {pl:Nat} {x:Int} (b:BI h w cs st f0 pl) (hx:f0[pl]? =some x) (j:BJ h w cs st f0 pl (besL h w x) fs):BI h w cs st fs (pl+1):=by
 have hlt:pl < f0.length:=(List.getElem?_eq_some_iff.mp hx).1
 have hle:=j.pre.length_le
 have get:∀ i,i < f0.length→fs[i]? =f0[i]? :=fun i hi=>by
  obtain ⟨t,e⟩:=j.pre
  rw [← e,List.getElem?_append_left hi]
 refine ⟨j.nd,j.rc,j.pre.subset b.hst,by omega,fun i z y hi hz hy hc=>?_⟩
 rw [get i (by omega)] at hz
 by_cases e:i < pl
 · exact j.pre.subset (b.cl i z y e hz hy hc)
 · have:i=pl:=by omega
   subst this
   rw [hx] at hz
   cases hz
   exact j.al y hy hc
theorem uA {rs fs:List Int} (p:rs.Perm fs) (s:rs.Pairwise (· ≤·)) (nd:fs.Nodup):rs.Pairwise (· < ·):=by
 have nd':rs.Nodup:=p.nodup_iff.mpr nd
 refine (s.and nd').imp ?_
 intro a b h
 have:=h.1
 have:=h.2
 omega
end L2
namespace L2
open PySem PySem.Spec PyProof.Rows
local macro_rules | `(tactic| walk_at "w")=>`(tactic| (first | simp only [aH,fi,fq,b7,ft,w_c,jb,fW,fX,dA,fY,w_b,w_not,iC,kb,fZ,ga,iD,fu,dB,kc,gb,gc,gd,iz,iE,ge,gf,gh,gi,eK,eL,cX,dh,di,cG,fv,iF,iG,iH,ii,iI,iJ,iK,iL,iM,iN,iO,kf,gj,dj,gk,kg,gl,eP,dk,iP,iQ,gm,fj,gn,
 List.getElem?_cons_zero,List.getElem?_cons_succ,Option.some.injEq,exists_eq_left',exists_eq_left,List.set_cons_zero,List.set_cons_succ,cO,V.int.injEq,V.bl.injEq,V.ref.injEq,V.str.injEq,List.append_nil,List.nil_append,List.cons_append] | dsimp only | skip))
theorem aB {n:Nat} (h:n≤1000):n≤sizeLine:=Nat.le_of_lt (aJ h)
def IsFl (H:Hp) (a:Addr) (h w g:Int):Prop:=H a=some (.tup [.int h,.int w,.int g])
theorem Same.laid {H H':Hp} {p:Addr} {o:HO} (s:Same H H') (h:H' p=none):Same H (upd H' p o):=fun b u e=>by
 rw [aq (aE (s b u e) h)]
 exact s b u e
theorem Same.own {H H':Hp} {p:Addr} {o:HO} (s:Same H H') (h:H p=none):Same H (upd H' p o):=fun b u e=>by
 rw [aq (aE e h)]
 exact s b u e
theorem lO {l:List Int} {i:Nat} {x:Int} (h:l[i]? =some x):l.getD i 0=x:=by
 rw [List.getD,h]; rfl
theorem mx {ns:List Int} {k:Int} (h0:0≤k) (h1:k < ns.length):atI (ns.map V.int) k=some (.int (ns.getD k.toNat 0)):=by
 have e:((k.toNat:Nat):Int)=k:=Int.toNat_of_nonneg h0
 have hlt:k.toNat < ns.length:=by omega
 have:(ns.map V.int)[k.toNat]? =some (.int (ns.getD k.toNat 0)):=by
  rw [List.getElem?_map,List.getElem?_eq_getElem hlt]
  simp [List.getD,hlt]
 have q:=gM this
 rw [e] at q
 exact q
theorem em {α:Type} (l:List α):l.filter (fun _=>true)=l:=List.filter_eq_self.mpr fun _ _=>rfl
theorem dF {l:List Int} {i:Nat} {y:V} (h:(l.map V.int)[i]? =some y):∃ z,l[i]? =some z∧y=.int z:=by
 rw [List.getElem?_map] at h
 cases e:l[i]? with
 | none=>rw [e] at h; cases h
 | some z=>rw [e] at h; cases h; exact ⟨z,rfl,rfl⟩
theorem fJ {h w:Int} (h0:1≤h) (h1:h≤6):CMul h w:=.inl ⟨by omega,by omega⟩
theorem my {ps:List Addr} {k:Int} {p:Addr} (h0:0≤k) (h:ps[k.toNat]? =some p):atI (ps.map V.ref) k=some (.ref p):=by
 have e:((k.toNat:Nat):Int)=k:=Int.toNat_of_nonneg h0
 have q0:(ps.map V.ref)[k.toNat]? =some (.ref p):=by rw [List.getElem?_map,h]; rfl
 have q:=gM q0
 rw [e] at q
 exact q
section
variable {k:Nat} {lo:Int} {n:Nat} {tt:TT} {te:TE} {fin:Addr→Hp→Prop} {σ0:St} {H1:Hp} {K:PySem.W.Frag} {a:Addr}
theorem kj {n i:Nat} (b:Nat→Bool) (h:i < n) (hn:n≤900):((List.range i).filter b).length≤900:=by
 have:=List.length_filter_le b (List.range i)
 rw [List.length_range] at this
 omega
theorem mh (b:Nat→Bool) (f:Nat→V) (hn:n≤900)
  (ht:∀ i H R,i < n→Same H1 H→(∀ H',Same H H'→R (b i) H')→tt (σ0.set k (some (.int (lo+i)))) H R)
  (he:∀ i H Q,i < n→b i=true→Same H1 H→(∀ H',Same H H'→Q (f i) H')→te (σ0.set k (some (.int (lo+i)))) H Q)
  (hd:∀ l H,H1 l=none→Same H1 H→H l=some (.lst (((List.range n).filter b).map f))→fin l H):
  CompR (Itr lo n) (gName k) tt te fin σ0 H1:=by
 refine ni (fun l i σ H=>(σ=σ0∨∃ cv,σ=σ0.set k cv)∧Same H1 H∧H l=some (.lst (((List.range i).filter b).map f))) (fun l hl=>⟨.inl rfl,(Same.refl H1).laid hl,by rw [ag]; rfl⟩) ?_ (fun l σ H hl p=>hd l H hl p.2.1 p.2.2)
 rintro l i σ H hl hi ⟨hσ,s1,el⟩
 rw [b7]
 have e:σ.set k (some (.int (lo+i)))=σ0.set k (some (.int (lo+i))):=by
  rcases hσ with rfl | ⟨cv,rfl⟩
  · rfl
  · exact List.set_set ..
 rw [e]
 refine ht i H _ hi s1 fun H2 s2=>?_
 have el2:=s2 _ _ el
 cases hb:b i with
 | false=>
  rw [if_neg Bool.false_ne_true]
  refine ⟨.inr ⟨_,rfl⟩,s1.trans s2,?_⟩
  rw [List.range_succ,List.filter_append,List.filter_cons,hb]
  simpa using el2
 | true=>
  rw [if_pos rfl]
  refine he i H2 _ hi hb (s1.trans s2) fun H3 s3=>⟨_,s3 _ _ el2,by rw [List.length_map]; exact aJ (Nat.le_trans (kj b hi hn) (by decide)),.inr ⟨_,rfl⟩,((s1.trans s2).trans s3).own hl,?_⟩
  rw [ag,List.range_succ,List.filter_append,List.filter_cons,hb]
  simp
theorem eQ {xs:List V} (b:Nat→Bool) (f:Nat→V) (hn:xs.length≤900) (hq:SqL K H1 a xs)
  (ht:∀ i x H R,xs[i]? =some x→Same H1 H→(∀ H',Same H H'→R (b i) H')→tt (σ0.set k (some x)) H R)
  (he:∀ i x H Q,xs[i]? =some x→b i=true→Same H1 H→(∀ H',Same H H'→Q (f i) H')→te (σ0.set k (some x)) H Q)
  (hd:∀ l H,H1 l=none→Same H1 H→H l=some (.lst (((List.range xs.length).filter b).map f))→fin l H):
  CompR (Itl K a) (gName k) tt te fin σ0 H1:=by
 refine o6 (xs:=xs) (fun l i σ H=>(σ=σ0∨∃ cv,σ=σ0.set k cv)∧Same H1 H∧H l=some (.lst (((List.range i).filter b).map f))) (fun l hl=>⟨.inl rfl,(Same.refl H1).laid hl,by rw [ag]; rfl⟩) (fun l i σ H _ _ p=>p.2.1.seq hq) ?_ (fun l σ H hl p=>hd l H hl p.2.1 p.2.2)
 rintro l i x σ H hl hx ⟨hσ,s1,el⟩
 have hi:i < xs.length:=(List.getElem?_eq_some_iff.mp hx).1
 rw [b7]
 have e:σ.set k (some x)=σ0.set k (some x):=by
  rcases hσ with rfl | ⟨cv,rfl⟩
  · rfl
  · exact List.set_set ..
 rw [e]
 refine ht i x H _ hx s1 fun H2 s2=>?_
 have el2:=s2 _ _ el
 cases hb:b i with
 | false=>
  rw [if_neg Bool.false_ne_true]
  refine ⟨.inr ⟨_,rfl⟩,s1.trans s2,?_⟩
  rw [List.range_succ,List.filter_append,List.filter_cons,hb]
  simpa using el2
 | true=>
  rw [if_pos rfl]
  refine he i x H2 _ hx hb (s1.trans s2) fun H3 s3=>⟨_,s3 _ _ el2,by rw [List.length_map]; exact aJ (Nat.le_trans (kj b hi hn) (by decide)),.inr ⟨_,rfl⟩,((s1.trans s2).trans s3).own hl,?_⟩
  rw [ag,List.range_succ,List.filter_append,List.filter_cons,hb]
  simp
theorem ij (b:Nat→Bool) (f:Nat→Int) (hn:n≤900)
  (ht:∀ i H R,i < n→Same H1 H→(∀ H',Same H H'→R (b i) H')→tt (σ0.set k (some (.int (lo+i)))) H R)
  (he:∀ i H Q,i < n→b i=true→Same H1 H→(∀ H',Same H H'→Q (.int (f i)) H')→te (σ0.set k (some (.int (lo+i)))) H Q)
  (hd:∀ l H,H1 l=none→Same H1 H→H l=some (.lst ((((List.range n).filter b).map f).map V.int))→fin l H):
  CompR (Itr lo n) (gName k) tt te fin σ0 H1:=
 mh b (fun i=>.int (f i)) hn ht he fun l H hl s1 el=>hd l H hl s1 (by rw [List.map_map]; exact el)
theorem uB (b:Int→Bool) (f:Int→Int) (xs:List Int):((List.range xs.length).filter fun i=>b (xs.getD i 0)).map (fun i=>V.int (f (xs.getD i 0)))=((xs.filter b).map f).map V.int:=by
 have e:xs=(List.range xs.length).map fun i=>xs.getD i 0:=by
  refine List.ext_getElem? fun i=>?_
  rw [List.getElem?_map]
  by_cases h:i < xs.length
  · rw [List.getElem?_range h,List.getElem?_eq_getElem h]
    simp [List.getD,h]
  · rw [List.getElem?_eq_none (by omega),List.getElem?_eq_none (by simpa using h)]; rfl
 conv=>rhs; rw [e]
 rw [List.filter_map,List.map_map,List.map_map]
 rfl
theorem cH {xs:List Int} (b:Int→Bool) (f:Int→Int) (hn:xs.length≤900) (hq:SqL K H1 a (xs.map V.int))
  (ht:∀ x H R,x∈xs→Same H1 H→(∀ H',Same H H'→R (b x) H')→tt (σ0.set k (some (.int x))) H R)
  (he:∀ x H Q,x∈xs→b x=true→Same H1 H→(∀ H',Same H H'→Q (.int (f x)) H')→te (σ0.set k (some (.int x))) H Q)
  (hd:∀ l H,H1 l=none→Same H1 H→H l=some (.lst (((xs.filter b).map f).map V.int))→fin l H):
  CompR (Itl K a) (gName k) tt te fin σ0 H1:=by
 refine eQ (xs:=xs.map V.int) (fun i=>b (xs.getD i 0)) (fun i=>.int (f (xs.getD i 0))) (by rw [List.length_map]; exact hn) hq ?_ ?_ ?_
 · intro i x H R hx s1 h
   obtain ⟨z,hz,rfl⟩:=dF hx
   rw [lO hz] at h
   exact ht z H R (List.mem_of_getElem? hz) s1 h
 · intro i x H Q hx hb s1 h
   obtain ⟨z,hz,rfl⟩:=dF hx
   rw [lO hz] at h hb
   exact he z H Q (List.mem_of_getElem? hz) hb s1 h
 · intro l H hl s1 el
   refine hd l H hl s1 ?_
   rw [List.length_map] at el
   rw [el,uB]
structure NewAt (H1 H:Hp) (l:Addr) (as:List Addr) (os:List HO):Prop where
 len:as.length=os.length
 nd:as.Nodup
 nl:l∉as
 fr:∀ a∈as,H1 a=none
 at_:∀ (j:Nat) (a:Addr) (o:HO),as[j]? =some a→os[j]? =some o→H a=some o
theorem NewAt.nil {H1 H:Hp} {l:Addr}:NewAt H1 H l [] [] where
 len:=rfl
 nd:=List.nodup_nil
 nl:=by simp
 fr:=fun a h=>nomatch h
 at_:=fun j a o h=>by simp at h
theorem NewAt.same {H1 H H':Hp} {l:Addr} {as:List Addr} {os:List HO} (x:NewAt H1 H l as os) (s:Same H H'):NewAt H1 H' l as os:=
 ⟨x.len,x.nd,x.nl,x.fr,fun j a o h1 h2=>s _ _ (x.at_ j a o h1 h2)⟩
theorem NewAt.mem {H1 H:Hp} {l:Addr} {as:List Addr} {os:List HO} (x:NewAt H1 H l as os) {a:Addr} (h:a∈as):∃ o,H a=some o:=by
 obtain ⟨j,hj,e⟩:=List.mem_iff_getElem.mp h
 have hj2:j < os.length:=by rw [← x.len]; exact hj
 exact ⟨os[j],x.at_ j a os[j] (by rw [List.getElem?_eq_getElem hj,e]) (List.getElem?_eq_getElem hj2)⟩
theorem NewAt.more {H1 H H2:Hp} {l p:Addr} {as:List Addr} {os:List HO} {o u:HO} (x:NewAt H1 H l as os) (s1:Same H1 H) (s:Same H H2) (hp:H p=none) (e:H2 p=some o) (hl:H l=some u) (o':HO):NewAt H1 (upd H2 l o') l (as++[p]) (os++[o]):=by
 have npl:p≠l:=fun z=>by rw [z,hl] at hp; cases hp
 refine ⟨by simp [x.len],?_,?_,?_,?_⟩
 · refine List.nodup_append.mpr ⟨x.nd,by simp,fun a ha b hb z=>?_⟩
   rw [List.mem_singleton.mp hb] at z
   obtain ⟨o2,e2⟩:=x.mem ha
   rw [z,hp] at e2; cases e2
 · intro hm
   rcases List.mem_append.mp hm with hm | hm
   · exact x.nl hm
   · exact npl (List.mem_singleton.mp hm).symm
 · intro a ha
   rcases List.mem_append.mp ha with ha | ha
   · exact x.fr a ha
   · rw [List.mem_singleton.mp ha]
     cases q:H1 p with
     | none=>rfl
     | some v=>rw [s1 _ _ q] at hp; cases hp
 · intro j a o2 h1 h2
   have hlen:=x.len
   by_cases hj:j < as.length
   · rw [List.getElem?_append_left hj] at h1
     rw [List.getElem?_append_left (by omega)] at h2
     have nal:a≠l:=fun z=>x.nl (z ▸ List.mem_of_getElem? h1)
     rw [aq nal]
     exact s _ _ (x.at_ j a o2 h1 h2)
   · rw [List.getElem?_append_right (by omega)] at h1
     rw [List.getElem?_append_right (by omega)] at h2
     have e0:j - as.length=0:=by
      have:=(List.getElem?_eq_some_iff.mp h1).1
      simp at this
      omega
     rw [e0] at h1
     rw [show j - os.length=0 by omega] at h2
     simp at h1 h2
     subst h1 h2
     rw [aq npl]
     exact e
theorem rm (b:Nat→Bool) (o:Nat→HO) (hn:n≤900)
  (ht:∀ i H R,i < n→Same H1 H→(∀ H',Same H H'→R (b i) H')→tt (σ0.set k (some (.int (lo+i)))) H R)
  (he:∀ i H Q,i < n→b i=true→Same H1 H→(∀ a H',Same H H'→H a=none→H' a=some (o i)→Q (.ref a) H')→te (σ0.set k (some (.int (lo+i)))) H Q)
  (hd:∀ l as H,H1 l=none→Same H1 H→H l=some (.lst (as.map V.ref))→NewAt H1 H l as (((List.range n).filter b).map o)→fin l H):
  CompR (Itr lo n) (gName k) tt te fin σ0 H1:=by
 refine ni (fun l i σ H=>(σ=σ0∨∃ cv,σ=σ0.set k cv)∧Same H1 H∧∃ as:List Addr,H l=some (.lst (as.map V.ref))∧NewAt H1 H l as (((List.range i).filter b).map o)) (fun l hl=>⟨.inl rfl,(Same.refl H1).laid hl,[],by rw [ag]; rfl,NewAt.nil⟩) ?_ (fun l σ H hl ⟨_,s1,as,el,x⟩=>hd l as H hl s1 el x)
 rintro l i σ H hl hi ⟨hσ,s1,as,el,x⟩
 rw [b7]
 have e:σ.set k (some (.int (lo+i)))=σ0.set k (some (.int (lo+i))):=by
  rcases hσ with rfl | ⟨cv,rfl⟩
  · rfl
  · exact List.set_set ..
 rw [e]
 refine ht i H _ hi s1 fun H2 s2=>?_
 have el2:=s2 _ _ el
 have x2:=x.same s2
 have s12:=s1.trans s2
 cases hb:b i with
 | false=>
  rw [if_neg Bool.false_ne_true]
  refine ⟨.inr ⟨_,rfl⟩,s12,as,el2,?_⟩
  rw [List.range_succ,List.filter_append,List.filter_cons,hb]
  simpa using x2
 | true=>
  rw [if_pos rfl]
  refine he i H2 _ hi hb s12 fun p H3 s3 hp ep=>⟨_,s3 _ _ el2,?_,.inr ⟨_,rfl⟩,(s12.trans s3).own hl,as++[p],?_,?_⟩
  · rw [List.length_map,x2.len,List.length_map]; exact aJ (Nat.le_trans (kj b hi hn) (by decide))
  · rw [ag]; simp
  · have y:=x2.more s12 s3 hp ep el2 (.lst (as.map V.ref++[V.ref p]))
    rw [List.range_succ,List.filter_append,List.filter_cons,hb]
    simpa using y
end
theorem r8:∀ {ds:List PyData},(∀ d∈ds,PyData.canLay0 d=true)→PyData.canLayAll0 ds=true
 | [],_=>rfl
 | d::r,h=>by rw [PyData.canLayAll0,h d List.mem_cons_self,r8 fun e he=>h e (List.mem_cons_of_mem _ he)]; rfl
theorem o9 {n:Nat}:∀ {ds:List PyData},(∀ d∈ds,PyData.depth d≤n)→PyData.depthAll ds≤n
 | [],_=>Nat.zero_le _
 | d::r,h=>by rw [PyData.depthAll]; exact Nat.max_le.mpr ⟨h d List.mem_cons_self,o9 fun e he=>h e (List.mem_cons_of_mem _ he)⟩
theorem oF {α:Type} [DecidableEq α] (g:α→PyData) (hg:∀ a b,PyData.eqv (g a) (g b)=decide (a=b)):∀ xs ys:List α,PyData.eqvAll (xs.map g) (ys.map g)=decide (xs=ys)
 | [],[]=>rfl
 | [],_::_=>rfl
 | _::_,[]=>rfl
 | x::xs,y::ys=>by
  rw [List.map_cons,List.map_cons,PyData.eqvAll,hg,oF g hg xs ys,Bool.eq_iff_iff]
  simp
structure IsLL (H:Hp) (l:Addr) (as:List Addr) (xss:List (List Int)):Prop where
 top:H l=some (.lst (as.map V.ref))
 len:as.length=xss.length
 at_:∀ (j:Nat) (a:Addr) (xs:List Int),as[j]? =some a→xss[j]? =some xs→H a=some (.lst (xs.map V.int))
theorem IsLL.same {H H':Hp} {l:Addr} {as:List Addr} {xss:List (List Int)} (x:IsLL H l as xss) (s:Same H H'):IsLL H' l as xss:=
 ⟨s _ _ x.top,x.len,fun j a xs h1 h2=>s _ _ (x.at_ j a xs h1 h2)⟩
def cI (K:PySem.W.Frag):Sp:=fun vs H Q _=>∃ (a:Addr) (h w g c:Int),vs=[.ref a,.int c]∧IsFl H a h w g∧0 < w∧w < 100∧∀ p,H p=none→Q (.ref p) (upd H p (.tup [.int (c / w),.int (c % w)]))
theorem sI {K:PySem.W.Frag} {vs:List V} {H:Hp} {Q:VK} {E:XK} (h:cI K vs H Q E):vs.length=2:=by
 obtain ⟨_,_,_,_,_,rfl,_⟩:=h; rfl
def iR (K:PySem.W.Frag):TS:=
 (tSeq (tAsg (tOp cIx (tVar 0) (tC (.int 1))) (gName 2))
  (tRet (tTup (tCons (tOp cDiv (tVar 1) (tVar 2)) (tCons (tOp cMod (tVar 1) (tVar 2)) tNil)))))
theorem sJ {K:PySem.W.Frag} {vs:List V} {H:Hp} {Q:VK} {E:XK} (h:cI K vs H Q E):iR K { nx:=fun _ H'=>Q .non H',rt:=Q } (start ["floor","cell","wide"] vs) H:=by
 obtain ⟨a,h,w,g,c,rfl,ha,w0,w1,k⟩:=h
 show iR K _ [some (.ref a),some (.int c),none] H
 unfold iR
 walk_at "w"
 rw [fE ha]
 refine bb (a:=V.int w) rfl ?_
 walk_at "w"
 refine ⟨⟨w0,by omega⟩,w0,aB (by show (2:Nat)≤1000; decide),k⟩
theorem qg (h w c:Int):(besL h w c).length≤4:=by
 unfold besL
 simp only [List.length_append]
 split <;> split <;> split <;> split <;> simp
def b4 (K:PySem.W.Frag):Sp:=fun vs H Q _=>∃ (a:Addr) (h w g c:Int),vs=[.ref a,.int c]∧IsFl H a h w g∧0 < w∧w < 100∧∀ l H',Same H H'→H l=none→H' l=some (.lst ((besL h w c).map V.int))→Q (.ref l) H'
theorem uC {K:PySem.W.Frag} {vs:List V} {H:Hp} {Q:VK} {E:XK} (h:b4 K vs H Q E):vs.length=2:=by
 obtain ⟨_,_,_,_,_,rfl,_⟩:=h; rfl
def jw (K:PySem.W.Frag):TS:=
 (tSeq (tAsg (tOp cIx (tVar 0) (tC (.int 0))) (gName 2))
  (tSeq (tAsg (tOp cIx (tVar 0) (tC (.int 1))) (gName 3))
  (tSeq (tAsg (tCall (cI K) [] E0 (tCons (tVar 0) (tCons (tVar 1) tNil))) (gName 4))
  (tSeq (tAsg (tLst tNil) (gName 5))
  (tSeq (tIfS (tTest (tOp (cCmp fun i j=>decide (j < i)) (tOp cIx (tVar 4) (tC (.int 0))) (tC (.int 0)))) (tDrop (tBM K "list" bw (tVar 5) (tCons (tOp cSub (tVar 1) (tVar 3)) tNil))) tNext)
  (tSeq (tIfS (tTest (tOp (cCmp fun i j=>decide (j < i)) (tOp cIx (tVar 4) (tC (.int 1))) (tC (.int 0)))) (tDrop (tBM K "list" bw (tVar 5) (tCons (tOp cSub (tVar 1) (tC (.int 1))) tNil))) tNext)
  (tSeq (tIfS (tTest (tOp (cCmp fun i j=>decide (i < j)) (tOp cIx (tVar 4) (tC (.int 1))) (tOp cSub (tVar 3) (tC (.int 1))))) (tDrop (tBM K "list" bw (tVar 5) (tCons (tOp cAdd (tVar 1) (tC (.int 1))) tNil))) tNext)
  (tSeq (tIfS (tTest (tOp (cCmp fun i j=>decide (i < j)) (tOp cIx (tVar 4) (tC (.int 0))) (tOp cSub (tVar 2) (tC (.int 1))))) (tDrop (tBM K "list" bw (tVar 5) (tCons (tOp cAdd (tVar 1) (tVar 3)) tNil))) tNext)
  (tRet (tVar 5))))))))))
theorem nq {K:PySem.W.Frag} {D:Ends} {σ:St} {H:Hp} {t:TT} {e:TE} {b:Bool} {v:Int} {l:Addr} {i:Nat} {ns:List Int} (hσ:σ[i]? =some (some (.ref l))) (ht:∀ R,R b H→t σ H R) (hl:H l=some (.lst (ns.map V.int))) (hn:ns.length≤900)
  (he:∀ Q,Q (.int v) H→e σ H Q) (k:∀ H',(H' l=some (.lst ((ns++if b=true then [v] else []).map V.int)))→(∀ c,c≠l→H' c=H c)→D.nx σ H'):
  tIfS t (tDrop (tBM K "list" bw (tVar i) (tCons e tNil))) tNext D σ H:=by
 rw [aD]
 refine ht _ ?_
 cases b with
 | false=>
  refine iteF ?_
  rw [fi]
  exact k H (by simpa using hl) fun _ _=>rfl
 | true=>
  refine iteT ?_
  rw [dA,iz,ft]
  refine ⟨_,hσ,cP hl,?_⟩
  rw [dB]
  refine he _ ?_
  rw [fu,mt hl]
  refine ⟨by rw [List.length_map]; exact aJ (by omega),k _ ?_ fun c hc=>aq hc⟩
  rw [ag]
  simp
theorem uD {K:PySem.W.Frag} {vs:List V} {H:Hp} {Q:VK} {E:XK} (h:b4 K vs H Q E):jw K { nx:=fun _ H'=>Q .non H',rt:=Q } (start ["floor","cell","high","wide","spot","found"] vs) H:=by
 obtain ⟨a,h,w,g,c,rfl,ha,w0,w1,k⟩:=h
 show jw K _ [some (.ref a),some (.int c),none,none,none,none] H
 unfold jw
 walk_at "w"
 rw [fE ha]
 refine bb (a:=V.int h) rfl ?_
 walk_at "w"
 rw [fE ha]
 refine bb (a:=V.int w) rfl ?_
 walk_at "w"
 refine ⟨a,h,w,g,c,rfl,ha,w0,w1,fun p hp=>?_⟩
 walk_at "w"
 refine ⟨aB (by decide),fun l hl=>?_⟩
 have npl:p≠l:=fun e=>by rw [e,ag] at hl; cases hl
 have hl0:H l=none:=by rw [aq npl.symm] at hl; exact hl
 have hpS:∀ H':Hp,(∀ d,d≠l→H' d=upd H p (.tup [.int (c / w),.int (c % w)]) d)→H' p=some (.tup [.int (c / w),.int (c % w)]):=fun H' e=>by rw [e p npl,ag]
 refine nq (ns:=[]) (l:=l) (i:=5) (b:=decide (0 < c / w)) (v:=c - w) rfl (fun R q=>?_) ag (by decide) (fun Q q=>?_) fun H1 e1 f1=>?_
 · walk_at "w"
   rw [fE (hpS _ fun d hd=>aq hd)]
   refine bb rfl ?_
   walk_at "w"
   exact q
 · walk_at "w"
   exact q
 walk_at "w"
 refine nq (l:=l) (i:=5) (b:=decide (0 < c % w)) (v:=c - 1) rfl (fun R q=>?_) e1 (by simp; split <;> simp) (fun Q q=>?_) fun H2 e2 f2=>?_
 · walk_at "w"
   rw [fE (hpS _ fun d hd=>by rw [f1 d hd,aq hd])]
   refine bb rfl ?_
   walk_at "w"
   exact q
 · walk_at "w"
   exact q
 walk_at "w"
 refine nq (l:=l) (i:=5) (b:=decide (c % w < w - 1)) (v:=c+1) rfl (fun R q=>?_) e2 (by simp; split <;> split <;> simp) (fun Q q=>?_) fun H3 e3 f3=>?_
 · walk_at "w"
   rw [fE (hpS _ fun d hd=>by rw [f2 d hd,f1 d hd,aq hd])]
   refine bb rfl ?_
   walk_at "w"
   exact q
 · walk_at "w"
   exact q
 walk_at "w"
 refine nq (l:=l) (i:=5) (b:=decide (c / w < h - 1)) (v:=c+w) rfl (fun R q=>?_) e3 (by simp; split <;> split <;> split <;> simp) (fun Q q=>?_) fun H4 e4 f4=>?_
 · walk_at "w"
   rw [fE (hpS _ fun d hd=>by rw [f3 d hd,f2 d hd,f1 d hd,aq hd])]
   refine bb rfl ?_
   walk_at "w"
   exact q
 · walk_at "w"
   exact q
 walk_at "w"
 refine k l H4 (fun b o e=>?_) hl0 ?_
 · have nb:b≠l:=aE e hl0
   have nbp:b≠p:=aE e hp
   rw [f4 b nb,f3 b nb,f2 b nb,f1 b nb,aq nb,aq nbp]
   exact e
 · rw [e4]
   unfold besL
   simp [decide_eq_true_eq]
structure FlOk (h w g:Int):Prop where
 h0:1≤h
 h1:h≤6
 w0:1≤w
 w1:w≤6
 m:h*w≤16
 g0:1≤g
 g1:g≤6
section
variable {K:PySem.W.Frag} {H:Hp} {Q:VK}
theorem qh {p:Addr} {xs:List V} (hp:H p=some (.lst xs)) (h:Q (.bl true) H):kIsi [.ref p,.ty "list"] H Q:=by
 refine ⟨by decide,bb (a:="list") (by unfold iw; dsimp only; rw [hp]) ?_⟩
 rw [show isTy "list" "list"=true by decide]
 exact h
theorem nr {p:Addr} {xs:List V} (hp:H p=some (.tup xs)) (h:Q (.bl true) H):kIsi [.ref p,.ty "tuple"] H Q:=by
 refine ⟨by decide,bb (a:="tuple") (by unfold iw; dsimp only; rw [hp]) ?_⟩
 rw [show isTy "tuple" "tuple"=true by decide]
 exact h
theorem xM {n:Nat} {t:TGs} {σ:St} {k:St→Hp→Prop} {p:Addr} {xs:List V} (hp:H p=some (.tup xs)) (hn:xs.length=n) (h:t xs σ H k):gTup K n t (.ref p) σ H k:=⟨p,xs,rfl,SqT.of hp,hn,h⟩
end
end L2
namespace L2
open PySem PySem.Builtin PySem.Builtin.Str
def tx (l:List Nat):Str:=⟨l.toArray⟩
theorem nt (l:List Nat):(tx l).cps.toList=l:=by simp [tx]
theorem yw (x:Str):tx x.cps.toList=x:=by cases x; simp [tx]
theorem uE {a b:List Nat} (h:tx a=tx b):a=b:=by rw [← nt a,h,nt]
theorem gp (l:List Nat):(tx l).length=l.length:=by simp [tx,Str.length]
theorem qi (a b:List Nat):tx a++tx b=tx (a++b):=by
 refine Str.ext' ?_
 rw [Str.cps_append]
 simp [tx]
theorem cw (a b:List Nat):decide (tx a=tx b)=decide (a=b):=by
 by_cases h:a=b
 · subst h; simp
 · have:¬ tx a=tx b:=fun e=>h (uE e)
   rw [decide_eq_false h,decide_eq_false this]
def catL (c:Nat):List (List Nat)→List Nat
 | []=>[]
 | [x]=>x
 | x::y::r=>x++c::catL c (y::r)
theorem oG (c:Nat):∀ ts:List (List Nat),Str.join (tx [c]) (ts.map tx)=tx (catL c ts)
 | []=>rfl
 | [x]=>rfl
 | x::y::r=>by
  show tx x++tx [c]++Str.join (tx [c]) ((y::r).map tx)=_
  rw [oG c (y::r),qi,qi]
  show tx _=tx (x++c::catL c (y::r))
  rw [List.append_assoc]; rfl
theorem vC (sep:Str) (ts:List Str):Txt.join sep ts=Str.join sep ts:=StrLaws.glued_eq_join sep ts
theorem sd {c:Nat}:∀ {a b x y:List Nat},c∉a→c∉b→a++c::x=b++c::y→a=b∧x=y
 | [],[],_,_,_,_,h=>⟨rfl,by simpa using h⟩
 | [],b::bs,_,_,_,hb,h=>by
  simp at h
  exact absurd (List.mem_cons.mpr (.inl h.1)) hb
 | a::as,[],_,_,ha,_,h=>by
  simp at h
  exact absurd (List.mem_cons.mpr (.inl h.1.symm)) ha
 | a::as,b::bs,x,y,ha,hb,h=>by
  simp at h
  have:=sd (fun z=>ha (List.mem_cons_of_mem _ z)) (fun z=>hb (List.mem_cons_of_mem _ z)) h.2
  exact ⟨by rw [h.1,this.1],this.2⟩
theorem qj {c:Nat}:∀ {x:List Nat} {r:List (List Nat)} {y:List Nat},c∈catL c (x::y::r):=by
 intro x r y
 show c∈x++c::_
 simp
theorem qk {c:Nat}:∀ {xs ys:List (List Nat)},xs≠[]→ys≠[]→(∀ x∈xs,c∉x)→(∀ y∈ys,c∉y)→catL c xs=catL c ys→xs=ys
 | [],_,h,_,_,_,_=>absurd rfl h
 | _,[],_,h,_,_,_=>absurd rfl h
 | [x],[y],_,_,_,_,h=>by
  have h':x=y:=h
  rw [h']
 | [x],y::z::r,_,_,hx,_,h=>by
  have h':x=catL c (y::z::r):=h
  exact absurd (h' ▸ qj) (hx x List.mem_cons_self)
 | x::z::r,[y],_,_,_,hy,h=>by
  have h':catL c (x::z::r)=y:=h
  exact absurd (h' ▸ qj) (hy y List.mem_cons_self)
 | x::z::r,y::u::s,_,_,hx,hy,h=>by
  obtain ⟨e1,e2⟩:=sd (hx x List.mem_cons_self) (hy y List.mem_cons_self) (show x++c::catL c (z::r)=y++c::catL c (u::s) from h)
  rw [e1,qk (by simp) (by simp) (fun w hw=>hx w (List.mem_cons_of_mem _ hw)) (fun w hw=>hy w (List.mem_cons_of_mem _ hw)) e2]
theorem vD (x y:Str):Txt.split x y≠[]:=by
 intro h
 unfold Txt.split at h
 split at h
 · cases h
 · split at h
   · cases h
   · rw [StrLaws.partsBetween_eq] at h
     obtain ⟨p,r,e⟩:=StrLaws.partsFrom_ne x y.length 0 (occurrences x y 0 x.length (x.length+1))
     rw [e] at h; cases h
theorem vE {c:Nat} {rows:List (List Nat)} (hne:rows≠[]) (hf:∀ r∈rows,c∉r):Txt.split (tx (catL c rows)) (tx [c])=rows.map tx:=by
 have h1:=StrLaws.join_split (tx (catL c rows)) (tx [c])
 have h2:∀ p∈Txt.split (tx (catL c rows)) (tx [c]),c∉p.cps.toList:=StrLaws.split_free _ c
 have h3:=vD (tx (catL c rows)) (tx [c])
 generalize Txt.split (tx (catL c rows)) (tx [c])=S at*
 have e:S=(S.map (·.cps.toList)).map tx:=by
  rw [List.map_map]
  conv=>lhs; rw [← List.map_id S]
  exact List.map_congr_left fun x _=>(yw x).symm
 rw [e,oG] at h1
 have h4:=uE h1
 have h5:=qk (c:=c) (xs:=S.map (·.cps.toList)) (ys:=rows) (by simpa using h3) hne (fun x hx=>by obtain ⟨p,hp,rfl⟩:=List.mem_map.mp hx; exact h2 p hp) hf h4
 rw [e,h5]
end L2
namespace L2
end L2
namespace L2
open PySem PySem.Spec PyProof.Rows
local macro_rules | `(tactic| walk_at "w")=>`(tactic| (first | simp only [aH,fi,fq,b7,ft,w_c,jb,fW,fX,dA,fY,w_b,w_not,iC,kb,fZ,ga,iD,fu,dB,kc,gb,gc,gd,iz,iE,ge,gf,gh,gi,eK,eL,cX,dh,di,cG,fv,iF,iG,iH,ii,iI,iJ,iK,iL,iM,iN,iO,kf,gj,dj,gk,kg,gl,eP,dk,iP,iQ,gm,fj,gn,
 List.getElem?_cons_zero,List.getElem?_cons_succ,Option.some.injEq,exists_eq_left',exists_eq_left,List.set_cons_zero,List.set_cons_succ,cO,V.int.injEq,V.bl.injEq,V.ref.injEq,V.str.injEq,List.append_nil,List.nil_append,List.cons_append] | dsimp only | skip))
section
variable {k:Nat} {tt:TT} {te:TE} {fin:Addr→Hp→Prop} {σ0:St} {H1:Hp}
theorem uF {cs:List Nat} (b:Nat→Bool) (f:Nat→V) (hn:cs.length≤900)
  (ht:∀ i c H R,cs[i]? =some c→Same H1 H→(∀ H',Same H H'→R (b i) H')→tt (σ0.set k (some (.str (tx [c])))) H R)
  (he:∀ i c H Q,cs[i]? =some c→b i=true→Same H1 H→(∀ H',Same H H'→Q (f i) H')→te (σ0.set k (some (.str (tx [c])))) H Q)
  (hd:∀ l H,H1 l=none→Same H1 H→H l=some (.lst (((List.range cs.length).filter b).map f))→fin l H):
  CompR (Its (tx cs)) (gName k) tt te fin σ0 H1:=by
 intro l hl
 have hsz:(tx cs).cps.size=cs.length:=by simp [tx]
 refine ⟨fun i m σ H=>m=cs.length - i∧i≤cs.length∧(σ=σ0∨∃ cv,σ=σ0.set k cv)∧Same H1 H∧H l=some (.lst (((List.range i).filter b).map f)),⟨cs.length,by simp,Nat.zero_le _,.inl rfl,(Same.refl H1).laid hl,by rw [ag]; rfl⟩,?_⟩
 rintro i m σ H ⟨rfl,hi,hσ,s1,el⟩
 by_cases hlt:i < cs.length
 · refine .inr ⟨by show i < (tx cs).cps.size; rw [hsz]; exact hlt,fun σ H=>(σ=σ0∨∃ cv,σ=σ0.set k cv)∧Same H1 H∧H l=some (.lst (((List.range (i+1)).filter b).map f)),fun σ' H' p'=>⟨cs.length - (i+1),by omega,rfl,hlt,p'⟩,?_⟩
   rintro x H' ⟨rfl,c,hc,rfl⟩
   have hc':cs[i]? =some c:=by simpa [tx] using hc
   show gName k (.str (tx [c])) σ H' _
   rw [b7]
   have e:σ.set k (some (.str (tx [c])))=σ0.set k (some (.str (tx [c]))):=by
    rcases hσ with rfl | ⟨cv,rfl⟩
    · rfl
    · exact List.set_set ..
   rw [e]
   refine ht i c H' _ hc' s1 fun H2 s2=>?_
   have el2:=s2 _ _ el
   cases hb:b i with
   | false=>
    rw [if_neg Bool.false_ne_true]
    refine ⟨.inr ⟨_,rfl⟩,s1.trans s2,?_⟩
    rw [List.range_succ,List.filter_append,List.filter_cons,hb]
    simpa using el2
   | true=>
    rw [if_pos rfl]
    refine he i c H2 _ hc' hb (s1.trans s2) fun H3 s3=>⟨_,s3 _ _ el2,by rw [List.length_map]; exact aJ (Nat.le_trans (kj b hlt hn) (by decide)),.inr ⟨_,rfl⟩,((s1.trans s2).trans s3).own hl,?_⟩
    rw [ag,List.range_succ,List.filter_append,List.filter_cons,hb]
    simp
 · have e:i=cs.length:=by omega
   subst e
   exact .inl ⟨by show (tx cs).cps.size≤_; rw [hsz]; exact Nat.le_refl _,hd l H hl s1 el⟩
end
theorem pq {α:Type} (xs:List Int) (g:Int→α):(List.range xs.length).map (fun i=>g (xs.getD i 0))=xs.map g:=by
 have e:xs=(List.range xs.length).map fun i=>xs.getD i 0:=by
  refine List.ext_getElem? fun i=>?_
  rw [List.getElem?_map]
  by_cases h:i < xs.length
  · rw [List.getElem?_range h,List.getElem?_eq_getElem h]
    simp [List.getD,h]
  · rw [List.getElem?_eq_none (by omega),List.getElem?_eq_none (by simpa using h)]; rfl
 conv=>rhs; rw [e]
 rw [List.map_map]
 rfl
theorem ql {sep:Str} {ts:List Str} (h1:ts.length≤1000) (h2:∀ t∈ts,t.length≤1000) (h3:sep.length≤10):JoinOk sep ts=true:=by
 unfold JoinOk
 rw [Bool.not_eq_true']
 refine StrLaws.joinFits (B:=1000) h2 ?_
 have a1:ts.length*1000≤1000*1000:=Nat.mul_le_mul_right _ h1
 have a2:ts.length*sep.length≤1000*10:=Nat.mul_le_mul h1 h3
 omega
end L2
namespace L2
open PySem PySem.Spec PyProof.Rows
abbrev rIsN:R2:=fun x y H Q=>y=.non∧Q (.bl (decide (x=.non))) H
abbrev rNotN:R2:=fun x y H Q=>y=.non∧Q (.bl (!decide (x=.non))) H
def kStr:List V→Hp→VK→Prop
 | [.int i],H,Q=>i.natAbs.log2 < 1920∧Q (.str (Str.ofString (toString i))) H
 | _,_,_=>False
section
variable {X:Cx}
theorem uG:CallR X (.type "str") kStr:=by
 intro pins s σ H xs us Q I r h
 unfold kStr at h
 split at h
 · obtain ⟨hi,q⟩:=h
   cases r with
   | cons r0 rr=>
    cases rr
    obtain ⟨t,rfl⟩:=r0
    exact PySem.P.str_of_int hi ⟨.str _,H,I.tok _,⟨_,rfl⟩,q⟩
 · exact h.elim
end
section
variable {K:PySem.W.Frag} {H:Hp} {Q:VK}
theorem nu {x:V}:rIsN x .non H Q=Q (.bl (decide (x=.non))) H:=by simp [rIsN]
theorem k7 {x:V}:rNotN x .non H Q=Q (.bl (!decide (x=.non))) H:=by simp [rNotN]
theorem lP {i:Int}:kStr [.int i] H Q=(i.natAbs.log2 < 1920∧Q (.str (Str.ofString (toString i))) H):=rfl
end
end L2
namespace L2
open PySem PySem.Spec PyProof.Rows
structure Bt2 (mg:Str→Option Value):Prop extends Bt mg where
 all_:mg "all"=none
 sum_:mg "sum"=none
 enumerate_:mg "enumerate"=none
section
variable {K:PySem.W.Frag} {H:Hp} {Q:VK} {D:Ends} {σ:St} {g:TG} {tb:TS} {ta:TA} {ix:List (Option Nat)} {tt:TT} {te tf:TE} {k:Nat}
theorem lQ:tIf tt te tf σ H Q=tt σ H fun c H1=>if c=true then te σ H1 Q else tf σ H1 Q:=rfl
theorem gQ:tComp ix (m5 ta) g tt te σ H Q=ta σ H fun vs H1=>∃ i j:Int,vs=[.int i,.int j]∧(-(2^62)≤i∧i < 2^62∧ -(2^62)≤j∧j < 2^62)∧CompR (Itr i (j - i).toNat) g tt te (fun l H'=>Q (.ref l) H') (subσ ix σ) H1:=rfl
theorem fK:sComp k ix (m5 ta) g tt te D σ H=ta σ H fun vs H1=>∃ i j:Int,vs=[.int i,.int j]∧(-(2^62)≤i∧i < 2^62∧ -(2^62)≤j∧j < 2^62)∧CompR (Itr i (j - i).toNat) g tt te (fun l H'=>D.nx (σ.set k (some (.ref l))) H') (subσ ix σ) H1:=rfl
theorem isiE {x:V} {n t:String} {b:Bool} (hx:iw H x=some t) (hn:lM n=true) (hb:isTy t n=b):kIsi [x,.ty n] H Q=Q (.bl b) H:=by
 subst hb
 show (lM n=true∧bnd (iw H x) fun t=>Q (.bl (isTy t n)) H)=_
 rw [hx]
 simp only [hn,true_and,cO]
theorem gR {i:Int}:kIsi [.int i,.ty "int"] H Q=Q (.bl true) H:=isiE (t:="int") rfl (by decide) (by decide)
theorem gS {i:Int}:kIsi [.int i,.ty "bool"] H Q=Q (.bl false) H:=isiE (t:="int") rfl (by decide) (by decide)
theorem gT {i:Int}:kIsi [.int i,.ty "str"] H Q=Q (.bl false) H:=isiE (t:="int") rfl (by decide) (by decide)
theorem gU {i:Bool}:kIsi [.bl i,.ty "bool"] H Q=Q (.bl true) H:=isiE (t:="bool") rfl (by decide) (by decide)
theorem gW {i:Bool}:kIsi [.bl i,.ty "int"] H Q=Q (.bl true) H:=isiE (t:="bool") rfl (by decide) (by decide)
theorem gX {i:Str}:kIsi [.str i,.ty "str"] H Q=Q (.bl true) H:=isiE (t:="str") rfl (by decide) (by decide)
theorem gY {i:Bool}:kIsi [.bl i,.ty "str"] H Q=Q (.bl false) H:=isiE (t:="bool") rfl (by decide) (by decide)
theorem jZ {A B:Prop}:(if true=true then A else B)=A:=if_pos rfl
theorem j0 {A B:Prop}:(if false=true then A else B)=B:=if_neg Bool.false_ne_true
theorem j1 {i:Int}:rU (fun i=>.int (-i)) (.int i) H Q=Q (.int (-i)) H:=by
 refine propext ⟨?_,fun h=>⟨i,rfl,h⟩⟩
 rintro ⟨j,e,h⟩
 cases e
 exact h
theorem ixT {p:Addr} {i:Int} {xs:List V} {v:V} (h:H p=some (.tup xs)) (e:atI xs i=some v) (q:Q v H):cIx (.ref p) (.int i) H Q:=by
 rw [fE h]; exact bb e q
theorem ixL {p:Addr} {i:Int} {xs:List V} {v:V} (h:H p=some (.lst xs)) (e:atI xs i=some v) (q:Q v H):cIx (.ref p) (.int i) H Q:=by
 rw [wk h]; exact bb e q
theorem ixI {p:Addr} {i:Int} {ns:List Int} (h:H p=some (.lst (ns.map V.int))) (h0:0≤i) (h1:i < ns.length) (q:Q (.int (ns.getD i.toNat 0)) H):cIx (.ref p) (.int i) H Q:=ixL h (mx h0 h1) q
end
end L2
namespace L2
open PySem PySem.Spec PyProof.Rows
end L2
namespace L2
open PySem PySem.Spec PyProof.Rows
end L2
namespace L2
open PySem PySem.Spec PyProof.Rows
end L2
namespace L2
open PySem PySem.Spec PyProof.Rows
end L2
namespace L2
open PySem PySem.Spec PyProof.Rows
end L2
namespace L2
open PySem PySem.Spec PyProof.Rows
def cMulB:R2
 | .int i,.int j,H,Q=>IntMulOk i j∧Q (.int (i*j)) H
 | _,_,_,_=>False
end L2
namespace Att
open PySem PySem.W PySem.Calls PyProof.Rows
end Att
namespace L2
open PySem PySem.Spec PyProof.Rows
section
variable {K:PySem.W.Frag} {H:Hp} {Q:VK} {D:Ends} {σ:St}
theorem yO {i j:Int}:cMulB (.int i) (.int j) H Q=(IntMulOk i j∧Q (.int (i*j)) H):=rfl
theorem nv {i j:Int}:cPow (.int i) (.int j) H Q=(CPow i j∧Q (.int (i^j.toNat)) H):=rfl
theorem qm {p q:Addr} {xs ys:List V} (hp:H p=some (.lst xs)) (hq:H q=some (.lst ys)) (hn:xs.length+ys.length≤1000) (h:∀ r,H r=none→Q (.ref r) (upd H r (.lst (xs++ys)))):cAdd (.ref p) (.ref q) H Q:=by
 show bnd (unM (H p)) _
 rw [hp]
 refine bb (a:=xs) rfl ?_
 rw [hq]
 exact bb (a:=ys) rfl ⟨Nat.le_of_lt (aJ hn),h⟩
end
end L2
namespace L2
open PySem PySem.Spec PyProof.Rows
inductive RK where
 | Rule | Unlike | Sum | Rising | Seen | Count | Joined | NoSquare | Ring
 deriving DecidableEq
structure RCl (ι:Type) where
 A:ι→Addr
 ok:ι→Bool
section
variable {ι:Type}
def tFldK (c:RCl ι) (ta:TE) (f:Str):TE:=fun σ H Q=>ta σ H fun x H1=>∃ a k dx fs v,x=.ref a∧c.ok k=true∧H1 a=some (.ins (c.A k) dx fs)∧fs.lookup f=some v∧Q v H1
def sFldK (c:RCl ι) (ta tv:TE) (f:Str):TS:=fun D σ H=>tv σ H fun y H1=>ta σ H1 fun x H2=>∃ a k dx fs,x=.ref a∧c.ok k=true∧H2 a=some (.ins (c.A k) dx fs)∧fs.length < 1000∧
 D.nx σ (upd H2 a (.ins (c.A k) dx (putF f y fs)))
def b5 (c:RCl ι) (okm:ι→Bool) (m:Str) (sp:ι→Sp) (ta:TE) (t:TA):TE:=fun σ H Q=>ta σ H fun x H1=>∃ a k dx fs,x=.ref a∧okm k=true∧H1 a=some (.ins (c.A k) dx fs)∧fs.lookup m=none∧
 t σ H1 fun vs H2=>sp k (x::vs) H2 Q E0
structure FldK (K:PySem.W.Frag) (c:RCl ι) (f:Str):Prop where
 ex:∀ k,c.ok k=true→Cls K (c.A k)∧NoAttr K (c.A k) f
structure MCal (P:Program) (w:World) (K:PySem.W.Frag) (mg:Str→Option Value) (base:Heap) (c:RCl ι) (okm:ι→Bool) (k:Nat) (m:Str) (ps:List Str) (sp:ι→Sp):Prop where
 ex:∀ i,okm i=true→∃ (f:Addr) (fd:FuncData),Cls K (c.A i)∧Meth K (c.A i) m f∧FnOk P w K mg base CX0 k f fd ps (sp i)∧Binds K fd ps []
structure KCal (P:Program) (w:World) (K:PySem.W.Frag) (mg:Str→Option Value) (base:Heap) (k:Nat) (x:Str) (C:Addr) (ps:List Str) (sp:Sp):Prop where
 ex:∃ (f:Addr) (fd:FuncData),Mk K C f∧FnOk P w K mg base CX0 k f fd ps sp∧mg x=some (.ref C)∧Binds K fd ps []
end
section
variable {ι:Type} {X:Cx} {c:RCl ι} {o e value:Expr} {es:List Expr} {f x m:Str} {p pos pos' apos:Pos} {ta tv:TE} {t:TA} {okm:ι→Bool} {k n:Nat} {ps:List Str} {sp:ι→Sp} {sp1:Sp} {C:Addr}
theorem fL (he:PE X e ta) (F:FldK X.K c f) (hb:attributeBase e f X.env (eval e X.env)=eval e X.env:=by rfl):PE X (.Attribute e f pos) (tFldK c ta f):=by
 intro pins s σ H Q I h
 refine wx hb (thn (he pins s σ H _ I h) fun u s1 ⟨x,H1,I1,rx,a,k,dx,fs,v,ex,hk,ea,l,q⟩=>?_)
 subst ex
 obtain rfl:u=Value.ref a:=rx
 obtain ⟨cl,na⟩:=F.ex k hk
 exact sw I1 ea cl na l fun u' s2 I2 ru=>⟨v,H1,I2,ru,q⟩
theorem fM (ha:PE X o ta) (hv:PE X value tv) (F:FldK X.K c f) (hs:swapsWith value (some (.Attribute o f pos')) pos.line X.env=pure false:=by rfl):PS X (.Assign [.Attribute o f pos'] value pos) (sFldK c ta tv f):=by
 intro pins s σ H D I h
 refine plainObj_wpAny_Assign_Attribute (thn (hv pins s σ H _ I h) fun u s1 ⟨y,H1,I1,ry,q⟩=>thn (ha pins s1 σ H1 _ I1 q) fun ov s2 ⟨x,H2,I2,rx,a,k,dx,fs,ex,hk,ea,l,q2⟩=>?_) hs
 subst ex
 obtain rfl:ov=Value.ref a:=rx
 obtain ⟨cl,na⟩:=F.ex k hk
 exact sy I2 ea cl na l ry fun s3 I3=>⟨σ,_,I3,q2⟩
theorem bj {pl:Sem Bool} (M:MCal X.prog X.w X.K X.mg X.base c okm k m ps sp) (hr:Room n X.A) (hk:k≤n) (he:PE X o ta)
  (ht:eval (.Call (.Attribute o m apos) [] [] pos) X.env=(do
   let ov ← eval o X.env
   standAt apos.atName
   let (f,first) ← holding [ov] (getMethod ov m pl)
   callWith pos f first (backTo pos (starEach [] X.env)) (backToKw pos (keywordEach [] X.env))):=by rfl):
  PE X (.Call (.Attribute o m apos) [] [] pos) (b5 c okm m sp ta tNil):=by
 intro pins s σ H Q I h
 refine PySem.W.methodCall_KW (pl:=pl) (thn (he pins s σ H _ I h) fun u s1 ⟨x,H1,I1,rx,a,i,dx,fs,ex,hi,ea,l,q⟩=>?_) ht
 subst ex
 obtain rfl:u=Value.ref a:=rx
 obtain ⟨f,fd,cl,hm,F,hb⟩:=M.ex i hi
 refine sx I1 ea cl hm l ?_
 exact PySem.W.callWith_K0 (first:=[.ref a]) I1.kIn hm.kp (ue (us:=[.ref a]) (vs:=[.ref a]) F (hr.mono hk) hb .nil sD I1 (.cons rfl .nil) q)
theorem iS (M:KCal X.prog X.w X.K X.mg X.base k x C ps sp1) (hr:Room n X.A) (hk:k+1≤n) (hg:Gl X x) (ha:PA X (e::es) t)
  (hdb:(x==("__debug__":Str))=false:=by decide) (he:starEach (e::es) X.env=(false,eval e X.env)::starEach es X.env:=by rfl) (hpl:(backTo pos (starEach es X.env)).any (·.1)=false:=by rfl):
  PE X (.Call (.Name x p) (e::es) [] pos) (tMake C sp1 [] E0 t):=by
 obtain ⟨f,fd,mk,F,hm,hb⟩:=M.ex
 exact wA mk F (hr.mono hk) hg hm hb .nil sD ha hdb he hpl
end
def jc (K:PySem.W.Frag):List V→Hp→VK→Prop
 | [.ref p],H,Q=>bnd (unM (H p)) fun ys=>∀ l,H l=none→Q (.ref l) (upd H l (.tup ys))
 | _,_,_=>False
def tInG (ws:List Str) (neg:Bool) (te:TE):TE:=fun σ H Q=>te σ H fun x H1=>∃ z,x=.str z∧Q (.bl (if neg then !decide (z∈ws) else decide (z∈ws))) H1
structure GTup (K:PySem.W.Frag) (mg:Str→Option Value) (x:Str) (ws:List Str):Prop where
 ex:∃ (p:Addr) (o:Obj) (its:Array Value) (n:Nat),mg x=some (.ref p)∧K.lookup p=some o∧o.cls=.type "tuple"∧o.data=.seq its n∧its.size≤sizeLine∧Vals (ws.map V.str) its.toList
theorem jx:∀ ns:List Str,(ns.map V.str).all flatV=true
 | []=>rfl
 | n::r=>by rw [List.map_cons,List.all_cons,jx r]; rfl
theorem kl (i:Str):∀ ns:List Str,inV (.str i) (ns.map V.str)=decide (i∈ns)
 | []=>by simp [inV]
 | n::r=>by
  have ih:=kl i r
  unfold inV at ih ⊢
  rw [List.map_cons,List.any_cons,ih]
  show ((n==i)||decide (i∈r))=decide (i∈n::r)
  rw [Bool.eq_iff_iff,Bool.or_eq_true,beq_iff_eq,decide_eq_true_eq,decide_eq_true_eq,List.mem_cons]
  exact ⟨fun h=>h.elim (fun e=>.inl e.symm) .inr,fun h=>h.elim (fun e=>.inl e.symm) .inr⟩
section
variable {X:Cx} {a:Expr} {ta:TE} {pos p:Pos} {x:Str} {ws:List Str}
theorem mi:CallR X (.type "tuple") (jc X.K):=by
 intro pins s σ H xs us Q I r h
 unfold jc at h
 split at h
 · obtain ⟨ys,e,q⟩:=bu h
   exact pk pins s σ H _ us Q I r ⟨_,ys,rfl,.inl ⟨SqL.of (m9 e),q⟩⟩
 · exact h.elim
theorem xN {ws:List Str} {q:Addr} (hq:∃ (o:Obj) (its:Array Value) (n:Nat),X.K.lookup q=some o∧o.cls=.type "tuple"∧o.data=.seq its n∧its.size≤sizeLine∧Vals (ws.map V.str) its.toList):
  OpR X (compareOp .In) (fun x y H Q=>∃ z,x=.str z∧y=.ref q∧Q (.bl (decide (z∈ws))) H):=by
 intro pins s σ H x y v u Q I rx ry h
 obtain ⟨z,rfl,rfl,h⟩:=h
 refine kS pins s σ H _ _ v u Q I rx ry ⟨q,ws.map V.str,rfl,.inr (.inr hq),rfl,jx ws,?_⟩
 rw [kl]
 exact h
theorem wJ {ws:List Str} {q:Addr} (hq:∃ (o:Obj) (its:Array Value) (n:Nat),X.K.lookup q=some o∧o.cls=.type "tuple"∧o.data=.seq its n∧its.size≤sizeLine∧Vals (ws.map V.str) its.toList):
  OpR X (compareOp .NotIn) (fun x y H Q=>∃ z,x=.str z∧y=.ref q∧Q (.bl (!decide (z∈ws))) H):=by
 intro pins s σ H x y v u Q I rx ry h
 obtain ⟨z,rfl,rfl,h⟩:=h
 refine kT pins s σ H _ _ v u Q I rx ry ⟨q,ws.map V.str,rfl,.inr (.inr hq),rfl,jx ws,?_⟩
 rw [kl]
 exact h
end
section
variable {ι:Type} {c:RCl ι} {ta tv:TE} {t:TA} {f m:Str} {σ:St} {H:Hp} {Q:VK} {D:Ends} {okm:ι→Bool} {sp:ι→Sp} {sp1:Sp} {C:Addr} {K:PySem.W.Frag}
theorem k8:tMake C sp1 [] E0 t σ H Q=t σ H fun vs H1=>∀ x dx,H1 x=none→H1 dx=none→dx≠x→sp1 (.ref x::(vs++[])) (upd (upd H1 dx (.own x)) x (.ins C dx [])) (fun v H2=>v=.non∧Q (.ref x) H2) E0:=rfl
theorem nw {ws:List Str} {neg:Bool} {te:TE}:tInG ws neg te σ H Q=te σ H fun x H1=>∃ z,x=.str z∧Q (.bl (if neg then !decide (z∈ws) else decide (z∈ws))) H1:=rfl
theorem wK {p:Addr} {xs:List V} (hp:H p=some (.lst xs)) (h:∀ l,H l=none→Q (.ref l) (upd H l (.tup xs))):jc K [.ref p] H Q:=by
 unfold jc
 dsimp only
 rw [hp]
 exact h
end
end L2
namespace L2
open PySem PySem.Spec PyProof.Rows
def cntD (ns:List Int):Nat:=(firstMet (fun i=>ns.getD i 0) ns.length).length
def oH (te:TE):TE:=fun σ H Q=>te σ H fun x H1=>∃ p ns,x=.ref p∧H1 p=some (.lst (ns.map V.int))∧ns.length≤900∧Q (.int (cntD ns:Nat)) H1
theorem jd {te:TE} {σ:St} {H:Hp} {Q:VK}:oH te σ H Q=te σ H fun x H1=>∃ p ns,x=.ref p∧H1 p=some (.lst (ns.map V.int))∧ns.length≤900∧Q (.int (cntD ns:Nat)) H1:=rfl
theorem wL:bootBuiltins "set"=some (.type "set"):=by decide+kernel
theorem uH {X:Cx} {e:Expr} {te:TE} {p p2 pos pos2:Pos} (hc:X.calm=true) (hgl:Gl X "len") (hgs:Gl X "set") (hl:X.mg "len"=none) (hs:X.mg "set"=none) (he:PE X e te)
  (hs1:starEach [.Call (.Name "set" p2) [e] [] pos2] X.env=[(false,eval (.Call (.Name "set" p2) [e] [] pos2) X.env)]:=by rfl) (hs2:starEach [e] X.env=[(false,eval e X.env)]:=by rfl):
  PE X (.Call (.Name "len" p) [.Call (.Name "set" p2) [e] [] pos2] [] pos) (oH te):=by
 intro pins s σ H Q I h
 refine wpAny_Call_Name_kw (fT I hgl hl bc ?_ (by decide) (by decide))
 refine PyProof.Rows.callWith_builtin1 ?_ hs1 rfl
 rw [hs1]
 show wpAny _ _ (spliced [(false,eval (.Call (.Name "set" p2) [e] [] pos2) X.env)]) _ _ s
 refine Calls.spliced_cons ?_
 refine wpAny_Call_Name_kw (fT I hgs hs wL ?_ (by decide) (by decide))
 refine PyProof.Rows.callWith_type1 ?_ hs2 rfl
 rw [hs2]
 show wpAny _ _ (spliced [(false,eval e X.env)]) _ _ s
 refine Calls.spliced_cons (thn (he pins s σ H _ I h) fun u s1 ⟨x,H1,I1,r1,q1⟩=>?_)
 refine Calls.spliced_nil ?_
 obtain ⟨l,ns,rfl,hys,hn,q⟩:=q1
 cases r1
 obtain ⟨its,n,rv,ho,hz⟩:=I1.lst hys
 have hL:s1.heap.IsList l its.toArray:=⟨_,ho,rfl,n,rfl⟩
 have hI:IntsAre its ns:=m6 rv
 have hlen:=rv.length
 rw [List.length_map] at hlen
 refine call_set_list (ns:=ns) (I.ok.hd hc) hL (by simpa using hI) (by rw [List.size_toArray,← hlen]; exact Nat.lt_of_le_of_lt (Nat.succ_le_succ hn) (by decide)) fun h' tk hS old=>?_
 refine Calls.spliced_nil ?_
 obtain ⟨o,es,ep,t,h1,h2,h3,h4,h5,h6,h7,h8⟩:=hS
 have hb:(firstMet (fun i=>ns.getD i 0) its.toArray.size).length≤900:=Nat.le_trans (firstMet_length_le _ _) (by rw [List.size_toArray,← hlen]; exact hn)
 refine call_len_set h1 h2 h3 h7 (by omega) ?_
 have I2:Inv X pins σ H1 { s1 with heap:=h',toks:=tk }:=I1.kept fun b o' e=>old b o' (Heap.lt_size e) e
 refine ⟨.int _,H1,I2.tok _,⟨_,rfl⟩,?_⟩
 rw [h8,List.size_toArray,← hlen]
 exact q
def k9:V→List V→Hp→VK→Prop
 | .str sep,[.ref p],H,Q=>bnd (unS (H p)) fun ys=>∃ ts:List Str,ys=ts.map V.str∧JoinOk sep ts=true∧Q (.str (Txt.join sep ts)) H
 | _,_,_,_=>False
theorem uI {X:Cx}:MtR X "str.join" k9:=by
 intro pins s σ H x vs v us Q I rx rv h
 unfold k9 at h
 split at h
 · rename_i sep p
   obtain ⟨ys,e,ts,rfl,hok,q⟩:=bu h
   rcases jT (K:=X.K) e with hq | hq
   · obtain ⟨t,rfl⟩:=rx
     obtain ⟨u,rfl,ru⟩:=dP rv
     cases ru
     obtain ⟨its,rvv,pl,hz⟩:=I.list hq
     obtain ⟨l,rfl,hl⟩:=oE rvv
     exact SC.join pl.isList hl hok fun t' k=>⟨.str _,H,I.tok k,⟨t',rfl⟩,q⟩
   · obtain ⟨t,rfl⟩:=rx
     obtain ⟨u,rfl,ru⟩:=dP rv
     cases ru
     obtain ⟨its,rvv,pl,hz⟩:=I.tuple hq
     obtain ⟨l,rfl,hl⟩:=oE rvv
     subst hl
     obtain ⟨o,h1,h2,n,h3⟩:=pl
     have hok':=hok
     unfold JoinOk at hok'
     rw [Bool.not_eq_true'] at hok'
     exact call_meets F.slot_str_join (typeIs_str _ _ _) F.entry_str_join (F.args_str_join_2 _ _) (meets_str_join_tuple sep t p l hok') ⟨⟨o,n,h1,h2,h3⟩,post_join l ⟨joinFit_length hok',fun t' k=>⟨.str _,H,I.tok k,⟨t',rfl⟩,q⟩⟩⟩
 · exact h.elim
end L2
namespace L2
open PySem PySem.Spec PyProof.Rows
section
variable {X:Cx} {e:Expr} {te:TE} {p2 p3 p4 pos:Pos} {z0:Nat}
def tRevL (te:TE):TE:=fun σ H Q=>te σ H fun x H1=>∃ p xs,x=.ref p∧H1 p=some (.lst xs)∧∀ l,H1 l=none→Q (.ref l) (upd H1 l (.lst xs.reverse))
end
section
variable {σ:St} {H:Hp} {Q:VK} {te:TE}
theorem nA {i j:Int} {H:Hp} {Q:VK}:kMax [.int i,.int j] H Q=Q (.int (if j > i then j else i)) H:=rfl
theorem la:tRevL te σ H Q=te σ H fun x H1=>∃ p xs,x=.ref p∧H1 p=some (.lst xs)∧∀ l,H1 l=none→Q (.ref l) (upd H1 l (.lst xs.reverse)):=rfl
end
end L2
namespace L2
open PySem PySem.Spec PyProof.Rows
theorem sK:typeLookup (.type "str") (Str.ofString "__int__")=pure none:=by rw [typeLookup_type,builtinLookup_eq_fast]; kernel_rfl
theorem qo:typeLookup (.type "str") (Str.ofString "__index__")=pure none:=by rw [typeLookup_type,builtinLookup_eq_fast]; kernel_rfl
theorem qp:typeLookup (.type "str") (Str.ofString "__trunc__")=pure none:=by rw [typeLookup_type,builtinLookup_eq_fast]; kernel_rfl
def numC (n:Nat):List Nat:=if n < 10 then [48+n] else [48+n / 10,48+n % 10]
theorem uJ {n:Nat} (h:n < 100):((tx (numC n)).cps.all fun x=>decide (x < 128))=true:=by
 have t:((List.range 100).all fun n=>(tx (numC n)).cps.all fun x=>decide (x < 128))=true:=by decide+kernel
 exact List.all_eq_true.mp t n (List.mem_range.mpr h)
theorem uK {α:Type} {M:Model} {A:Around} {E:Value→Shared→Prop} {s:Shared} {Q:α→Shared→Prop} {m m':Sem α} (e:m=m') (h:wpAny M A m' Q E s):wpAny M A m Q E s:=e ▸ h
set_option maxHeartbeats 4000000 in
theorem gis (n:Nat) (hn:n < 100) (u:Tok):Gives (Builtin.«int.__new__» ⟨[.type "int",.str (tx (numC n)) u],[]⟩) (.int n):=
 .of_wp fun M A E s Q h=>by
  obtain ⟨hp,g,d,tk,os⟩:=s
  have f1:=PySem.F.conv_sub_int
  have f2:=PySem.F.madeHere_int
  have f3:=sK
  have f4:=qo
  have f5:=qp
  iterate 44 (any_goals (first | assumption | wp_step))
  refine wpAny_bind (wpAny_of_eq (a:=some (tx (numC n))) rfl ?_)
  refine wpAny_of_eq (a:=some (numC n)) ?e1 ?_
  case e1=>
   show (pure (some (if ((tx (numC n)).cps.all fun x=>decide (x < 128))=true then (tx (numC n)).cps.toList else _)):Sem _)=_
   rw [if_pos (uJ hn),nt]
  refine uK (m':=mkInt (n:Int)) ?e2 ?_
  case e2=>
   clear h f1 f2 f3 f4 f5
   match n,hn with | 0,_=>kernel_rfl | 1,_=>kernel_rfl | 2,_=>kernel_rfl | 3,_=>kernel_rfl | 4,_=>kernel_rfl | 5,_=>kernel_rfl | 6,_=>kernel_rfl | 7,_=>kernel_rfl | 8,_=>kernel_rfl | 9,_=>kernel_rfl | 10,_=>kernel_rfl | 11,_=>kernel_rfl | 12,_=>kernel_rfl | 13,_=>kernel_rfl | 14,_=>kernel_rfl | 15,_=>kernel_rfl | 16,_=>kernel_rfl | 17,_=>kernel_rfl | 18,_=>kernel_rfl | 19,_=>kernel_rfl | 20,_=>kernel_rfl | 21,_=>kernel_rfl | 22,_=>kernel_rfl | 23,_=>kernel_rfl | 24,_=>kernel_rfl | 25,_=>kernel_rfl | 26,_=>kernel_rfl | 27,_=>kernel_rfl | 28,_=>kernel_rfl | 29,_=>kernel_rfl | 30,_=>kernel_rfl | 31,_=>kernel_rfl | 32,_=>kernel_rfl | 33,_=>kernel_rfl | 34,_=>kernel_rfl | 35,_=>kernel_rfl | 36,_=>kernel_rfl | 37,_=>kernel_rfl | 38,_=>kernel_rfl | 39,_=>kernel_rfl | 40,_=>kernel_rfl | 41,_=>kernel_rfl | 42,_=>kernel_rfl | 43,_=>kernel_rfl | 44,_=>kernel_rfl | 45,_=>kernel_rfl | 46,_=>kernel_rfl | 47,_=>kernel_rfl | 48,_=>kernel_rfl | 49,_=>kernel_rfl | 50,_=>kernel_rfl | 51,_=>kernel_rfl | 52,_=>kernel_rfl | 53,_=>kernel_rfl | 54,_=>kernel_rfl | 55,_=>kernel_rfl | 56,_=>kernel_rfl | 57,_=>kernel_rfl | 58,_=>kernel_rfl | 59,_=>kernel_rfl | 60,_=>kernel_rfl | 61,_=>kernel_rfl | 62,_=>kernel_rfl | 63,_=>kernel_rfl | 64,_=>kernel_rfl | 65,_=>kernel_rfl | 66,_=>kernel_rfl | 67,_=>kernel_rfl | 68,_=>kernel_rfl | 69,_=>kernel_rfl | 70,_=>kernel_rfl | 71,_=>kernel_rfl | 72,_=>kernel_rfl | 73,_=>kernel_rfl | 74,_=>kernel_rfl | 75,_=>kernel_rfl | 76,_=>kernel_rfl | 77,_=>kernel_rfl | 78,_=>kernel_rfl | 79,_=>kernel_rfl | 80,_=>kernel_rfl | 81,_=>kernel_rfl | 82,_=>kernel_rfl | 83,_=>kernel_rfl | 84,_=>kernel_rfl | 85,_=>kernel_rfl | 86,_=>kernel_rfl | 87,_=>kernel_rfl | 88,_=>kernel_rfl | 89,_=>kernel_rfl | 90,_=>kernel_rfl | 91,_=>kernel_rfl | 92,_=>kernel_rfl | 93,_=>kernel_rfl | 94,_=>kernel_rfl | 95,_=>kernel_rfl | 96,_=>kernel_rfl | 97,_=>kernel_rfl | 98,_=>kernel_rfl | 99,_=>kernel_rfl | (m+100),hm=>exact absurd hm (by omega)
  repeat (any_goals (first | assumption | wp_step))
  all_goals first | exact ⟨_,rfl,h⟩ | skip
def lR:List V→Hp→VK→Prop
 | [.int i],H,Q=>Q (.int i) H
 | [.bl k],H,Q=>Q (.int (if k then 1 else 0)) H
 | [.str z],H,Q=>∃ n:Nat,n < 100∧z=tx (numC n)∧Q (.int n) H
 | _,_,_=>False
theorem sL {X:Cx}:CallR X (.type "int") lR:=by
 intro pins s σ H xs us Q I r h
 unfold lR at h
 split at h
 · exact oY pins s σ H _ us Q I r (.inl ⟨_,rfl,h⟩)
 · exact oY pins s σ H _ us Q I r (.inr ⟨_,rfl,h⟩)
 · obtain ⟨n,hn,rfl,q⟩:=h
   obtain ⟨u,rfl,ru⟩:=dP r
   obtain ⟨t,rfl⟩:=ru
   exact call_int_1 (gis n hn t).meets (show (Made.int (n:Int)).post _ s from ⟨rfl,⟨.int n,H,I.tok _,⟨_,rfl⟩,q⟩⟩)
 · exact h.elim
theorem j2 {k:Bool} {H:Hp} {Q:VK}:lR [.bl k] H Q=Q (.int (if k then 1 else 0)) H:=rfl
theorem j3 {i:Int} {H:Hp} {Q:VK}:lR [.int i] H Q=Q (.int i) H:=rfl
theorem wM {n:Nat} (h:n < 100):Str.ofString (toString (n:Int))=tx (numC n):=by
 have t:((List.range 100).all fun (n:Nat)=>decide (Str.ofString (toString (n:Int))=tx (numC n)))=true:=by decide+kernel
 simpa using List.all_eq_true.mp t n (List.mem_range.mpr h)
theorem mB {n:Nat} (h:n < 100):32∉numC n:=by
 have t:((List.range 100).all fun (n:Nat)=>decide (32∉numC n))=true:=by decide+kernel
 simpa using List.all_eq_true.mp t n (List.mem_range.mpr h)
theorem xO {n:Nat} (h:n < 100):numC n≠[]:=by unfold numC; split <;> simp
theorem lS {n:Nat}:(numC n).length≤2:=by unfold numC; split <;> simp
theorem vF {n:Nat} (h:n < 100):((numC n).head? =some 48→n=0)∧numC 0=[48]:=by
 have t:((List.range 100).all fun (n:Nat)=>decide ((numC n).head? =some 48→n=0))=true:=by decide+kernel
 exact ⟨of_decide_eq_true (List.all_eq_true.mp t n (List.mem_range.mpr h)),rfl⟩
theorem se {n:Nat} (h:n < 100):∀ c∈numC n,48≤c∧c≤57:=by
 have t:((List.range 100).all fun (n:Nat)=>(numC n).all fun c=>decide (48≤c∧c≤57))=true:=by decide+kernel
 intro c hc
 simpa using List.all_eq_true.mp (List.all_eq_true.mp t n (List.mem_range.mpr h)) c hc
end L2
namespace L2
open PySem PySem.Spec PyProof.Rows
local macro_rules | `(tactic| walk_at "w")=>`(tactic| (first | simp only [aH,fi,fq,b7,ft,w_c,jb,fW,fX,dA,fY,w_b,w_not,iC,kb,fZ,ga,iD,fu,dB,kc,gb,gc,gd,iz,iE,ge,gf,gh,gi,eK,eL,cX,dh,di,cG,fv,iF,iG,iH,ii,iI,iJ,iK,iL,iM,iN,iO,kf,gj,dj,gk,kg,gl,eP,dk,iP,iQ,gm,fj,gn,
 List.getElem?_cons_zero,List.getElem?_cons_succ,Option.some.injEq,exists_eq_left',exists_eq_left,List.set_cons_zero,List.set_cons_succ,cO,V.int.injEq,V.bl.injEq,V.ref.injEq,V.str.injEq,List.append_nil,List.nil_append,List.cons_append] | dsimp only | skip))
def aQ (K:PySem.W.Frag):Sp:=fun vs H Q _=>∃ (a:Addr) (h w g:Int),vs=[.ref a]∧IsFl H a h w g∧1≤h∧h≤6∧Q (.int (h*w)) H
theorem pr {K:PySem.W.Frag} {vs:List V} {H:Hp} {Q:VK} {E:XK} (h:aQ K vs H Q E):vs.length=1:=by
 obtain ⟨_,_,_,_,rfl,_⟩:=h; rfl
def fw (K:PySem.W.Frag):TS:=
 (tRet (tOp cMul (tOp cIx (tVar 0) (tC (.int 0))) (tOp cIx (tVar 0) (tC (.int 1)))))
theorem pw {K:PySem.W.Frag} {vs:List V} {H:Hp} {Q:VK} {E:XK} (h:aQ K vs H Q E):fw K { nx:=fun _ H'=>Q .non H',rt:=Q } (start ["floor"] vs) H:=by
 obtain ⟨a,h,w,g,rfl,ha,h0,h1,q⟩:=h
 show fw K _ [some (.ref a)] H
 unfold fw
 walk_at "w"
 rw [fE ha]
 refine bb (a:=V.int h) rfl ?_
 walk_at "w"
 rw [fE ha]
 refine bb (a:=V.int w) rfl ?_
 walk_at "w"
 exact ⟨fJ h0 h1,q⟩
def cornB (h w c:Int):Bool:=decide (c / w < h - 1)&&decide (c % w < w - 1)
def cY (K:PySem.W.Frag):Sp:=fun vs H Q _=>∃ (a:Addr) (h w g c:Int),vs=[.ref a,.int c]∧IsFl H a h w g∧0 < w∧w < 100∧∀ H',Same H H'→Q (.bl (cornB h w c)) H'
theorem qq {K:PySem.W.Frag} {vs:List V} {H:Hp} {Q:VK} {E:XK} (h:cY K vs H Q E):vs.length=2:=by
 obtain ⟨_,_,_,_,_,rfl,_⟩:=h; rfl
def gq (K:PySem.W.Frag):TS:=
 (tSeq (tAsg (tCall (cI K) [] E0 (tCons (tVar 0) (tCons (tVar 1) tNil))) (gName 2))
  (tRet (tAndV (tOp (cCmp fun i j=>decide (i < j)) (tOp cIx (tVar 2) (tC (.int 0))) (tOp cSub (tOp cIx (tVar 0) (tC (.int 0))) (tC (.int 1)))) (tOp (cCmp fun i j=>decide (i < j)) (tOp cIx (tVar 2) (tC (.int 1))) (tOp cSub (tOp cIx (tVar 0) (tC (.int 1))) (tC (.int 1)))))))
theorem qr {K:PySem.W.Frag} {vs:List V} {H:Hp} {Q:VK} {E:XK} (h:cY K vs H Q E):gq K { nx:=fun _ H'=>Q .non H',rt:=Q } (start ["floor","cell","spot"] vs) H:=by
 obtain ⟨a,h,w,g,c,rfl,ha,w0,w1,k⟩:=h
 show gq K _ [some (.ref a),some (.int c),none] H
 unfold gq
 walk_at "w"
 refine ⟨a,h,w,g,c,rfl,ha,w0,w1,fun p hp=>?_⟩
 have s1:Same H (upd H p (.tup [.int (c / w),.int (c % w)])):=(Same.refl H).laid hp
 have k1:=k _ s1
 have ha1:=s1 _ _ ha
 have hp1:(upd H p (.tup [.int (c / w),.int (c % w)])) p=some (.tup [.int (c / w),.int (c % w)]):=ag
 generalize upd H p (.tup [.int (c / w),.int (c % w)])=H1 at*
 walk_at "w"
 rw [fE hp1]
 refine bb (a:=V.int (c / w)) rfl ?_
 walk_at "w"
 rw [fE ha1]
 refine bb (a:=V.int h) rfl ?_
 walk_at "w"
 unfold cornB at k1
 cases hb:decide (c / w < h - 1) with
 | false=>
  rw [hb,Bool.false_and] at k1
  exact iteF k1
 | true=>
  rw [hb,Bool.true_and] at k1
  refine iteT ?_
  rw [fE hp1]
  refine bb (a:=V.int (c % w)) rfl ?_
  walk_at "w"
  rw [fE ha1]
  refine bb (a:=V.int w) rfl ?_
  walk_at "w"
  exact k1
def sqL (w c:Int):List Int:=[c,c+1,c+w,c+w+1]
def cZ (K:PySem.W.Frag):Sp:=fun vs H Q _=>∃ (a:Addr) (h w g c:Int),vs=[.ref a,.int c]∧IsFl H a h w g∧∀ p,H p=none→Q (.ref p) (upd H p (.lst ((sqL w c).map V.int)))
theorem qt {K:PySem.W.Frag} {vs:List V} {H:Hp} {Q:VK} {E:XK} (h:cZ K vs H Q E):vs.length=2:=by
 obtain ⟨_,_,_,_,_,rfl,_⟩:=h; rfl
def gr (K:PySem.W.Frag):TS:=
 (tSeq (tAsg (tOp cAdd (tVar 1) (tOp cIx (tVar 0) (tC (.int 1)))) (gName 2))
  (tRet (tLst (tCons (tVar 1) (tCons (tOp cAdd (tVar 1) (tC (.int 1))) (tCons (tVar 2) (tCons (tOp cAdd (tVar 2) (tC (.int 1))) tNil)))))))
theorem qu {K:PySem.W.Frag} {vs:List V} {H:Hp} {Q:VK} {E:XK} (h:cZ K vs H Q E):gr K { nx:=fun _ H'=>Q .non H',rt:=Q } (start ["floor","corner","below"] vs) H:=by
 obtain ⟨a,h,w,g,c,rfl,ha,k⟩:=h
 show gr K _ [some (.ref a),some (.int c),none] H
 unfold gr
 walk_at "w"
 rw [fE ha]
 refine bb (a:=V.int w) rfl ?_
 walk_at "w"
 exact ⟨aB (by show (4:Nat)≤1000; decide),k⟩
def squL (h w:Int):List (List Int):=((List.range (h*w).toNat).filter fun (i:Nat)=>cornB h w i).map fun (i:Nat)=>sqL w i
def eV (K:PySem.W.Frag):Sp:=fun vs H Q _=>∃ (a:Addr) (h w g:Int),vs=[.ref a]∧IsFl H a h w g∧FlOk h w g∧
 ∀ l as H',Same H H'→H l=none→IsLL H' l as (squL h w)→as.Nodup→l∉as→(∀ a∈as,H a=none)→Q (.ref l) H'
theorem sM {K:PySem.W.Frag} {vs:List V} {H:Hp} {Q:VK} {E:XK} (h:eV K vs H Q E):vs.length=1:=by
 obtain ⟨_,_,_,_,rfl,_⟩:=h; rfl
def iT (K:PySem.W.Frag):TS:=
 (tRet (tComp [none,none,some 0] (fU (tCons (tCall (aQ K) [] E0 (tCons (tVar 0) tNil)) tNil)) (gName 1) (tB (tCall (cY K) [] E0 (tCons (tVar 2) (tCons (tVar 1) tNil)))) (tCall (cZ K) [] E0 (tCons (tVar 2) (tCons (tVar 1) tNil)))))
theorem NewAt.ll {H1 H:Hp} {l:Addr} {as:List Addr} {xss:List (List Int)} (x:NewAt H1 H l as (xss.map fun xs=>.lst (xs.map V.int))) (e:H l=some (.lst (as.map V.ref))):IsLL H l as xss:=
 ⟨e,by rw [x.len,List.length_map],fun j a xs h1 h2=>x.at_ j a _ h1 (by rw [List.getElem?_map,h2]; rfl)⟩
theorem sN {K:PySem.W.Frag} {vs:List V} {H:Hp} {Q:VK} {E:XK} (h:eV K vs H Q E):iT K { nx:=fun _ H'=>Q .non H',rt:=Q } (start ["floor"] vs) H:=by
 obtain ⟨a,h,w,g,rfl,ha,F,k⟩:=h
 obtain ⟨h0,h1,w0,w1,m16,g0,g1⟩:=F
 have mpos:0≤h*w:=Int.mul_nonneg (by omega) (by omega)
 show iT K _ [some (.ref a)] H
 unfold iT
 walk_at "w"
 refine ⟨a,h,w,g,rfl,ha,h0,h1,?_⟩
 walk_at "w"
 refine ⟨h*w,rfl,by omega,by omega,?_⟩
 refine rm (fun (i:Nat)=>cornB h w i) (fun (i:Nat)=>.lst ((sqL w i).map V.int)) (by omega) ?_ ?_ ?_
 · intro i H1 R hi s1 k1
   show tB _ [none,some (.int (0+(i:Int))),some (.ref a)] H1 R
   walk_at "w"
   rw [Int.zero_add]
   exact ⟨a,h,w,g,_,rfl,s1 _ _ ha,by omega,by omega,fun H2 s2=>⟨_,rfl,k1 H2 s2⟩⟩
 · intro i H1 Q1 hi hb s1 k1
   show tCall _ _ _ _ [none,some (.int (0+(i:Int))),some (.ref a)] H1 Q1
   walk_at "w"
   rw [Int.zero_add]
   exact ⟨a,h,w,g,_,rfl,s1 _ _ ha,fun p hp=>k1 p _ ((Same.refl H1).laid hp) hp ag⟩
 · intro l as H2 hl s2 el x
   have x':NewAt H H2 l as ((squL h w).map fun xs=>.lst (xs.map V.int)):=by
    unfold squL
    rw [List.map_map]
    exact x
   exact k l as H2 s2 hl (x'.ll el) x.nd x.nl x.fr
end L2
namespace L2
open PySem PySem.Spec PyProof.Rows
local macro_rules | `(tactic| walk_at "w")=>`(tactic| (first | simp only [aH,k8,nw,jd,la,j2,j3,nA,nu,k7,nv,if_true,if_false,Bool.false_eq_true,decide_true,decide_false,i5,i6,lQ,gQ,fK,i3,jY,i4,gP,jW,jX,gO,lN,gR,gS,gU,gW,gX,gY,gT,jZ,j0,j1,jU,lP,Bool.not_true,Bool.not_false,fi,fq,b7,ft,w_c,jb,fW,fX,dA,fY,w_b,w_not,iC,kb,fZ,ga,iD,fu,dB,kc,gb,gc,gd,iz,iE,ge,gf,gh,gi,eK,eL,cX,dh,di,cG,fv,iF,iG,iH,ii,iI,iJ,iK,iL,iM,iN,iO,kf,gj,dj,gk,kg,gl,eP,dk,iP,iQ,gm,fj,gn,
 List.getElem?_cons_zero,List.getElem?_cons_succ,Option.some.injEq,exists_eq_left',exists_eq_left,List.set_cons_zero,List.set_cons_succ,cO,V.int.injEq,V.bl.injEq,V.ref.injEq,V.str.injEq,List.append_nil,List.nil_append,List.cons_append] | dsimp only | skip))
def nmC:RK→List Nat
 | .Rule=>[]
 | .Unlike=>[117,110,108,105,107,101]
 | .Sum=>[115,117,109]
 | .Rising=>[114,105,115,105,110,103]
 | .Seen=>[115,101,101,110]
 | .Count=>[99,111,117,110,116]
 | .Joined=>[106,111,105,110,101,100]
 | .NoSquare=>[110,111,115,113,117,97,114,101]
 | .Ring=>[114,105,110,103]
def eX:List Str:=[tx [115,117,109],tx [115,101,101,110],tx [99,111,117,110,116]]
def eo:List Str:=[tx [99,111,117,110,116],tx [106,111,105,110,101,100],tx [110,111,115,113,117,97,114,101],tx [114,105,110,103]]
def dQ:List Str:=[tx [106,111,105,110,101,100],tx [110,111,115,113,117,97,114,101],tx [114,105,110,103]]
def rFs (p W C:Addr) (n m:Int):List (Str × V):=[("floor",.ref p),("words",.ref W),("cells",.ref C),("amount",.int n),("mark",.int m)]
structure IsRule (H:Hp) (c:RCl RK) (k:RK) (r p:Addr) (ws:List (List Nat)) (cs:List Int) (n m:Int):Prop where
 ok:c.ok k=true
 ex:∃ dx W C,H r=some (.ins (c.A k) dx (rFs p W C n m))∧H W=some (.tup ((ws.map tx).map V.str))∧H C=some (.tup (cs.map V.int))
theorem IsRule.same {H H':Hp} {c:RCl RK} {k:RK} {r p:Addr} {ws:List (List Nat)} {cs:List Int} {n m:Int} (x:IsRule H c k r p ws cs n m) (s:Same H H'):IsRule H' c k r p ws cs n m:=by
 obtain ⟨dx,W,C,h1,h2,h3⟩:=x.ex
 exact ⟨x.ok,dx,W,C,s _ _ h1,s _ _ h2,s _ _ h3⟩
section
variable {ι:Type} {c:RCl ι} {σ:St} {H:Hp} {Q:VK} {i:Nat} {r dx:Addr} {k:ι} {fs:List (Str × V)} {f m:Str} {v:V} {okm:ι→Bool} {sp:ι→Sp} {t:TA} {D:Ends} {tv:TE} {y:V} {H1:Hp}
theorem fldE (hσ:σ[i]? =some (some (.ref r))) (ok:c.ok k=true) (hr:H r=some (.ins (c.A k) dx fs)) (hl:fs.lookup f=some v) (q:Q v H):tFldK c (tVar i) f σ H Q:=⟨_,hσ,r,k,dx,fs,v,rfl,ok,hr,hl,q⟩
theorem methE (hσ:σ[i]? =some (some (.ref r))) (ok:okm k=true) (hr:H r=some (.ins (c.A k) dx fs)) (hl:fs.lookup m=none) (q:t σ H fun vs H2=>sp k (.ref r::vs) H2 Q E0):b5 c okm m sp (tVar i) t σ H Q:=⟨_,hσ,r,k,dx,fs,rfl,ok,hr,hl,q⟩
theorem sfldV {j:Nat} {x:V} (hj:σ[j]? =some (some x)) (hσ:σ[i]? =some (some (.ref r))) (ok:c.ok k=true) (hr:H r=some (.ins (c.A k) dx fs)) (hn:fs.length < 1000) (q:D.nx σ (upd H r (.ins (c.A k) dx (putF f x fs)))):sFldK c (tVar i) (tVar j) f D σ H:=
 ⟨x,hj,_,hσ,r,k,dx,fs,rfl,ok,hr,hn,q⟩
theorem sfldT {K:PySem.W.Frag} {j:Nat} {p:Addr} {xs:List V} (hj:σ[j]? =some (some (.ref p))) (hp:H p=some (.lst xs)) (hσ:σ[i]? =some (some (.ref r))) (ok:c.ok k=true) (hr:H r=some (.ins (c.A k) dx fs)) (hn:fs.length < 1000)
  (q:∀ l,H l=none→D.nx σ (upd (upd H l (.tup xs)) r (.ins (c.A k) dx (putF f (.ref l) fs)))):sFldK c (tVar i) (tCB (jc K) (tCons (tVar j) tNil)) f D σ H:=by
 unfold sFldK
 walk_at "w"
 refine ⟨_,hj,wK hp fun l hl=>?_⟩
 exact ⟨_,hσ,r,k,dx,fs,rfl,ok,by rw [aq (aE hr hl)]; exact hr,hn,q l hl⟩
end
theorem wN {H:Hp} {Q:VK} {p:Addr} {xs:List V} (hp:H p=some (.tup xs)) (h:∀ l,H l=none→Q (.ref l) (upd H l (.lst xs))):kList [.ref p] H Q:=by
 unfold kList
 dsimp only
 rw [hp]
 exact h
theorem wO {H:Hp} {Q:VK} {sep:Str} {p:Addr} {ts:List Str} (hp:H p=some (.lst (ts.map V.str))) (hok:JoinOk sep ts=true) (h:Q (.str (Txt.join sep ts)) H):k9 (.str sep) [.ref p] H Q:=by
 unfold k9
 dsimp only
 rw [hp]
 exact ⟨ts,rfl,hok,h⟩
def lT (K:PySem.W.Frag) (c:RCl RK) (k:RK):Sp:=fun vs H Q _=>∃ (r p:Addr) (w:List Nat) (ws:List (List Nat)) (cs:List Int) (n m:Int),vs=[.ref r]∧IsRule H c k r p (w::ws) cs n m∧Q (.str (tx w)) H
def eu (K:PySem.W.Frag) (c:RCl RK) (k:RK):Sp:=fun vs H Q _=>∃ (r p:Addr) (ws:List (List Nat)) (cs:List Int) (n m:Int),vs=[.ref r]∧IsRule H c k r p ws cs n m∧∀ l,H l=none→Q (.ref l) (upd H l (.lst (cs.map V.int)))
def fN (K:PySem.W.Frag) (c:RCl RK) (k:RK):Sp:=fun vs H Q _=>∃ (r p:Addr) (ws:List (List Nat)) (cs:List Int) (n m:Int),vs=[.ref r]∧IsRule H c k r p ws cs n m∧Q (.int m) H
def sgAt (xs cs:List Int):List Int:=cs.map fun c=>xs.getD c.toNat 0
def bT (cs:List Int) (n:Nat):Prop:=cs.length≤63∧∀ c∈cs,0≤c∧c < n
def av (K:PySem.W.Frag) (c:RCl RK):Sp:=fun vs H Q _=>∃ (k:RK) (x dx p W C:Addr) (ws:List (List Nat)) (cs:List Int) (n m:Int),vs=[.ref x,.ref p,.ref W,.ref C,.int n,.int m]∧c.ok k=true∧H x=some (.ins (c.A k) dx [])∧W≠x∧C≠x∧
 H W=some (.lst ((ws.map tx).map V.str))∧H C=some (.lst (cs.map V.int))∧∀ H',(∀ b o,b≠x→H b=some o→H' b=some o)→IsRule H' c k x p ws cs n m→Q .non H'
theorem mC {K:PySem.W.Frag} {c:RCl RK} {vs:List V} {H:Hp} {Q:VK} {E:XK} (h:av K c vs H Q E):vs.length=6:=by
 obtain ⟨_,_,_,_,_,_,_,_,_,_,rfl,_⟩:=h; rfl
def dl (K:PySem.W.Frag) (c:RCl RK):TS:=
 (tSeq (sFldK c (tVar 0) (tVar 1) "floor")
  (tSeq (sFldK c (tVar 0) (tCB (jc K) (tCons (tVar 2) tNil)) "words")
  (tSeq (sFldK c (tVar 0) (tCB (jc K) (tCons (tVar 3) tNil)) "cells")
  (tSeq (sFldK c (tVar 0) (tVar 4) "amount")
  (sFldK c (tVar 0) (tVar 5) "mark")))))
theorem mD {K:PySem.W.Frag} {c:RCl RK} {vs:List V} {H:Hp} {Q:VK} {E:XK} (h:av K c vs H Q E):dl K c { nx:=fun _ H'=>Q .non H',rt:=Q } (start ["self","floor","words","cells","amount","mark"] vs) H:=by
 obtain ⟨k,x,dx,p,W,C,ws,cs,n,m,rfl,ok,hx,nW,nC,hW,hC,q⟩:=h
 show dl K c _ [some (.ref x),some (.ref p),some (.ref W),some (.ref C),some (.int n),some (.int m)] H
 unfold dl
 walk_at "w"
 refine sfldV (k:=k) (j:=1) rfl rfl ok hx (by decide) ?_
 walk_at "w"
 refine sfldT (k:=k) (j:=2) (p:=W) rfl (by rw [aq nW]; exact hW) rfl ok ag (by show (1:Nat) < 1000; decide) fun l1 h1=>?_
 have n1:l1≠x:=fun e=>by rw [e,ag] at h1; cases h1
 have g1:H l1=none:=by rw [aq n1] at h1; exact h1
 walk_at "w"
 refine sfldT (k:=k) (j:=3) (p:=C) rfl (by rw [aq nC,aq (aE hC g1),aq nC]; exact hC) rfl ok ag (by show (2:Nat) < 1000; decide) fun l2 h2=>?_
 have n2:l2≠x:=fun e=>by rw [e,ag] at h2; cases h2
 have n21:l2≠l1:=fun e=>by rw [e,aq n1,ag] at h2; cases h2
 have g2:H l2=none:=by rw [aq n2,aq n21,aq n2] at h2; exact h2
 walk_at "w"
 refine sfldV (k:=k) (j:=4) rfl rfl ok ag (by show (3:Nat) < 1000; decide) ?_
 refine sfldV (k:=k) (j:=5) rfl rfl ok ag (by show (4:Nat) < 1000; decide) ?_
 refine q _ (fun b o hb e=>?_) ⟨ok,dx,l1,l2,by rw [ag]; rfl,?_,?_⟩
 · rw [aq hb,aq hb,aq hb,aq (aE e g2),aq hb,aq (aE e g1),aq hb]
   exact e
 · rw [aq n1,aq n1,aq n1,aq n21.symm,aq n1,ag]
 · rw [aq n2,aq n2,aq n2,ag]
def gs (K:PySem.W.Frag) (c:RCl RK):Sp:=fun vs H Q E=>∃ k,lT K c k vs H Q E
theorem qv {K:PySem.W.Frag} {c:RCl RK} {vs:List V} {H:Hp} {Q:VK} {E:XK} (h:gs K c vs H Q E):vs.length=1:=by
 obtain ⟨_,_,_,_,_,_,_,_,rfl,_⟩:=h; rfl
def gt (K:PySem.W.Frag) (c:RCl RK):TS:=
 (tRet (tOp cIx (tFldK c (tVar 0) "words") (tC (.int 0))))
theorem qw {K:PySem.W.Frag} {c:RCl RK} {vs:List V} {H:Hp} {Q:VK} {E:XK} (h:gs K c vs H Q E):gt K c { nx:=fun _ H'=>Q .non H',rt:=Q } (start ["self"] vs) H:=by
 obtain ⟨k,r,p,w,ws,cs,n,m,rfl,x,q⟩:=h
 obtain ⟨dx,W,C,h1,h2,h3⟩:=x.ex
 show gt K c _ [some (.ref r)] H
 unfold gt
 walk_at "w"
 refine fldE rfl x.ok h1 (v:=.ref W) (by rfl) ?_
 walk_at "w"
 have e0:atI (((w::ws).map tx).map V.str) 0=some (V.str (tx w)):=gM (j:=0) rfl
 exact ixT h2 e0 q
def fz (K:PySem.W.Frag) (c:RCl RK):Sp:=fun vs H Q E=>∃ k,eu K c k vs H Q E
theorem px {K:PySem.W.Frag} {c:RCl RK} {vs:List V} {H:Hp} {Q:VK} {E:XK} (h:fz K c vs H Q E):vs.length=1:=by
 obtain ⟨_,_,_,_,_,_,_,rfl,_⟩:=h; rfl
def fA (K:PySem.W.Frag) (c:RCl RK):TS:=
 (tRet (tCB kList (tCons (tFldK c (tVar 0) "cells") tNil)))
theorem pA {K:PySem.W.Frag} {c:RCl RK} {vs:List V} {H:Hp} {Q:VK} {E:XK} (h:fz K c vs H Q E):fA K c { nx:=fun _ H'=>Q .non H',rt:=Q } (start ["self"] vs) H:=by
 obtain ⟨k,r,p,ws,cs,n,m,rfl,x,q⟩:=h
 obtain ⟨dx,W,C,h1,h2,h3⟩:=x.ex
 show fA K c _ [some (.ref r)] H
 unfold fA
 walk_at "w"
 refine fldE rfl x.ok h1 (v:=.ref C) (by rfl) ?_
 walk_at "w"
 exact wN h3 q
def gu (K:PySem.W.Frag) (c:RCl RK):Sp:=fun vs H Q E=>∃ k,fN K c k vs H Q E
theorem qx {K:PySem.W.Frag} {c:RCl RK} {vs:List V} {H:Hp} {Q:VK} {E:XK} (h:gu K c vs H Q E):vs.length=1:=by
 obtain ⟨_,_,_,_,_,_,_,rfl,_⟩:=h; rfl
def gw (K:PySem.W.Frag) (c:RCl RK):TS:=
 (tRet (tFldK c (tVar 0) "mark"))
theorem qy {K:PySem.W.Frag} {c:RCl RK} {vs:List V} {H:Hp} {Q:VK} {E:XK} (h:gu K c vs H Q E):gw K c { nx:=fun _ H'=>Q .non H',rt:=Q } (start ["self"] vs) H:=by
 obtain ⟨k,r,p,ws,cs,n,m,rfl,x,q⟩:=h
 obtain ⟨dx,W,C,h1,h2,h3⟩:=x.ex
 show gw K c _ [some (.ref r)] H
 unfold gw
 walk_at "w"
 exact fldE rfl x.ok h1 (v:=.int m) (by rfl) q
def c5 (K:PySem.W.Frag):Sp:=fun vs H Q _=>∃ n:Nat,vs=[.str (tx (numC n))]∧n < 100∧∀ H',Same H H'→Q (.int n) H'
theorem qz {K:PySem.W.Frag} {vs:List V} {H:Hp} {Q:VK} {E:XK} (h:c5 K vs H Q E):vs.length=1:=by
 obtain ⟨_,rfl,_⟩:=h; rfl
def gx (K:PySem.W.Frag):TS:=
 (tSeq (tIfS (tOr (tTest (tOp (cEq K) (tVar 0) (tC (.str (tx []))))) (tOr (tTest (tOp (cCmp fun i j=>decide (j < i)) (tCB kLen (tCons (tVar 0) tNil)) (tC (.int 9)))) (tAnd (tTest (tOp (cEq K) (tOp cIx (tVar 0) (tC (.int 0))) (tC (.str (tx [48]))))) (tTest (tOp (cNe K) (tVar 0) (tC (.str (tx [48])))))))) (tRet (tC .non)) tNext)
  (tSeq (tIfS (tNot (tB (tCB kAll (tCons (tComp [none,none] (iStr (tVar 0)) (gName 1) tTrue (tOp (cIn K false) (tVar 1) (tC (.str (tx [48,49,50,51,52,53,54,55,56,57]))))) tNil)))) (tRet (tC .non)) tNext)
  (tRet (tCB lR (tCons (tVar 0) tNil)))))
theorem xP {c:Nat} (h0:48≤c) (h1:c≤57):(!(Builtin.Str.occurrences (tx [48,49,50,51,52,53,54,55,56,57]) ⟨#[c]⟩ 0 (tx [48,49,50,51,52,53,54,55,56,57]).length 1).isEmpty)=true:=by
 have t:((List.range 58).all fun c=>!decide (48≤c)||!(Builtin.Str.occurrences (tx [48,49,50,51,52,53,54,55,56,57]) ⟨#[c]⟩ 0 (tx [48,49,50,51,52,53,54,55,56,57]).length 1).isEmpty)=true:=by decide+kernel
 have:=List.all_eq_true.mp t c (List.mem_range.mpr (by omega))
 simpa [h0] using this
theorem qA {K:PySem.W.Frag} {vs:List V} {H:Hp} {Q:VK} {E:XK} (h:c5 K vs H Q E):gx K { nx:=fun _ H'=>Q .non H',rt:=Q } (start ["word"] vs) H:=by
 obtain ⟨n,rfl,hn,q⟩:=h
 have hne:=xO hn
 have hl:=lS (n:=n)
 show gx K _ [some (.str (tx (numC n)))] H
 unfold gx
 rw [aH,aD]
 walk_at "w"
 rw [cw,decide_eq_false hne]
 refine iteF ⟨by rw [gp]; exact aB (by omega),?_⟩
 walk_at "w"
 rw [gp,decide_eq_false (show ¬ (9:Int) < ((numC n).length:Nat) by omega)]
 refine iteF ?_
 rw [yt,gp,nt]
 obtain ⟨c,r,ec⟩:∃ c r,numC n=c::r:=by
  cases e:numC n with
  | nil=>exact absurd e hne
  | cons c r=>exact ⟨c,r,rfl⟩
 refine ⟨aB (by omega),bb (a:=c) (by rw [ec]; exact gM (j:=0) rfl) ?_⟩
 walk_at "w"
 have e1:decide ((⟨#[c]⟩:Str)=tx [48])=decide (c=48):=by
  have:(⟨#[c]⟩:Str)=tx [c]:=rfl
  rw [this,cw]
  simp
 rw [e1,cw]
 have e2:(decide (c=48)=true→decide (numC n=[48])=true):=by
  intro h
  rw [decide_eq_true_eq] at h
  have:=(vF hn).1 (by rw [ec,h]; rfl)
  subst this
  decide
 have goal2:tSeq (tIfS (tNot (tB (tCB kAll (tCons (tComp [none,none] (iStr (tVar 0)) (gName 1) tTrue (tOp (cIn K false) (tVar 1) (tC (.str (tx [48,49,50,51,52,53,54,55,56,57]))))) tNil)))) (tRet (tC .non)) tNext) (tRet (tCB lR (tCons (tVar 0) tNil)))
   { nx:=fun _ H'=>Q .non H',rt:=Q } [some (.str (tx (numC n)))] H:=by
  rw [aH,aD]
  walk_at "w"
  refine uF (cs:=numC n) (fun _=>true) (fun _=>.bl true) (by omega) ?_ ?_ ?_
  · intro i c H1 R hc s1 k1
    exact k1 _ (Same.refl _)
  · intro i c H1 Q1 hc hb s1 k1
    have hd:=se hn c (List.mem_of_getElem? hc)
    show tOp (cIn K false) _ _ [none,some (.str (tx [c]))] H1 Q1
    walk_at "w"
    have q1:=k1 _ (Same.refl H1)
    show Q1 (.bl (if false=true then _ else !(Builtin.Str.occurrences (tx [48,49,50,51,52,53,54,55,56,57]) (tx [c]) 0 (tx [48,49,50,51,52,53,54,55,56,57]).length 1).isEmpty)) H1
    rw [if_neg Bool.false_ne_true,show tx [c]=⟨#[c]⟩ from rfl,xP hd.1 hd.2]
    exact q1
  · intro l H1 hl1 s1 el
    have eb:((List.range (numC n).length).filter fun _=>true).map (fun _=>V.bl true)=(List.replicate (numC n).length true).map V.bl:=by
     rw [em,List.map_const',List.length_range,List.map_replicate]
    rw [eb] at el
    refine np el ?_
    have ea:(List.replicate (numC n).length true).all id=true:=by
     rw [List.all_eq_true]
     intro b hb
     exact (List.mem_replicate.mp hb).2
    rw [ea]
    walk_at "w"
    exact ⟨n,hn,rfl,q _ s1⟩
 cases hc:decide (c=48) with
 | false=>
  refine iteF ?_
  exact goal2
 | true=>
  refine iteT ?_
  rw [e2 hc]
  exact goal2
def be (K:PySem.W.Frag):Sp:=fun vs H Q _=>∃ (n:Nat) (lo hi:Int),vs=[.str (tx (numC n)),.int lo,.int hi]∧n < 100∧lo≤n∧n≤hi∧∀ H',Same H H'→Q (.int n) H'
theorem mE {K:PySem.W.Frag} {vs:List V} {H:Hp} {Q:VK} {E:XK} (h:be K vs H Q E):vs.length=3:=by
 obtain ⟨_,_,_,rfl,_⟩:=h; rfl
def dm (K:PySem.W.Frag):TS:=
 (tSeq (tAsg (tCall (c5 K) [] E0 (tCons (tVar 0) tNil)) (gName 3))
  (tSeq (tIfS (tOr (tTest (tOp rIsN (tVar 3) (tC .non))) (tOr (tTest (tOp (cCmp fun i j=>decide (i < j)) (tVar 3) (tVar 1))) (tTest (tOp (cCmp fun i j=>decide (j < i)) (tVar 3) (tVar 2))))) cu tNext)
  (tRet (tVar 3))))
theorem mF {K:PySem.W.Frag} {vs:List V} {H:Hp} {Q:VK} {E:XK} (h:be K vs H Q E):dm K { nx:=fun _ H'=>Q .non H',rt:=Q } (start ["word","least","most","number"] vs) H:=by
 obtain ⟨n,lo,hi,rfl,hn,h0,h1,q⟩:=h
 show dm K _ [some (.str (tx (numC n))),some (.int lo),some (.int hi),none] H
 unfold dm
 walk_at "w"
 refine ⟨n,rfl,hn,fun H1 s1=>?_⟩
 walk_at "w"
 rw [aD]
 walk_at "w"
 rw [decide_eq_false (show ¬ V.int n=V.non from fun e=>nomatch e)]
 refine iteF ?_
 rw [decide_eq_false (show ¬ (n:Int) < lo by omega)]
 refine iteF ?_
 rw [decide_eq_false (show ¬ hi < (n:Int) by omega)]
 refine iteF ?_
 walk_at "w"
 exact q _ s1
def WOk (ws:List (List Nat)):Prop:=∀ w∈ws,∀ c∈w,c < 128
theorem WOk.cons {w:List Nat} {ws:List (List Nat)} (h:∀ c∈w,c < 128) (hs:WOk ws):WOk (w::ws):=fun v hv=>by
 rcases List.mem_cons.mp hv with rfl | hv
 · exact h
 · exact hs v hv
theorem i7 {n:Nat} (h:n < 100):∀ c∈numC n,c < 128:=fun c hc=>by have:=se h c hc; omega
theorem wm {w:List Nat} (h:∀ c∈w,c < 128):PyData.strOk (tx w)=true:=by
 unfold PyData.strOk
 simp [tx]
 intro c hc
 have:=h c hc
 omega
theorem WOk.strs {ws:List (List Nat)} (h:WOk ws):∀ x∈ws.map tx,PyData.strOk x=true:=fun x hx=>by
 obtain ⟨w,hw,rfl⟩:=List.mem_map.mp hx
 exact wm (h w hw)
def bn (K:PySem.W.Frag):Sp:=fun vs H Q _=>∃ (p:Addr) (n:Nat) (ws:List (List Nat)) (lo hi:Int),vs=[.ref p,.int lo,.int hi]∧H p=some (.lst (((numC n::ws).map tx).map V.str))∧n < 100∧WOk ws∧lo≤n∧n≤hi∧∀ H',Same H H'→Q (.int n) H'
theorem nB {K:PySem.W.Frag} {vs:List V} {H:Hp} {Q:VK} {E:XK} (h:bn K vs H Q E):vs.length=3:=by
 obtain ⟨_,_,_,_,_,rfl,_⟩:=h; rfl
def dR (K:PySem.W.Frag):TS:=
 (tSeq (tIfS (tTest (tOp (cEq K) (tVar 0) (tLst tNil))) cu tNext)
  (tRet (tCall (be K) [] E0 (tCons (tOp cIx (tVar 0) (tC (.int 0))) (tCons (tVar 1) (tCons (tVar 2) tNil))))))
theorem DVs.strs {K:PySem.W.Frag} {H:Hp}:∀ ns:List Str,DVs K H (ns.map V.str) (ns.map PyData.str)
 | []=>.nil
 | n::r=>.cons (.str n) (DVs.strs r)
theorem pb (a b:Str):PyData.eqv (.str a) (.str b)=decide (a=b):=by
 rw [PyData.eqv]
 by_cases h:a=b
 · subst h; simp
 · simp [h]
theorem ik (ns:List Str) (hs:∀ x∈ns,PyData.strOk x=true):SeqAt.shaped (.list (ns.map PyData.str))=true:=by
 have h1:PyData.canLayAll0 (ns.map PyData.str)=true:=r8 fun d hd=>by obtain ⟨x,hx,rfl⟩:=List.mem_map.mp hd; rw [PyData.canLay0]; exact hs x hx
 have h2:PyData.depthAll (ns.map PyData.str)≤0:=o9 fun d hd=>by obtain ⟨x,_,rfl⟩:=List.mem_map.mp hd; exact Nat.le_refl _
 simp [SeqAt.shaped,PyData.canLay0,h1,PyData.depth]
 omega
theorem xQ {K:PySem.W.Frag} {H:Hp} {Q:VK} {p q:Addr} {xs ys:List Str} (hp:H p=some (.lst (xs.map V.str))) (hq:H q=some (.lst (ys.map V.str))) (h1:∀ x∈xs,PyData.strOk x=true) (h2:∀ x∈ys,PyData.strOk x=true) (h:Q (.bl (decide (xs=ys))) H):cEq K (.ref p) (.ref q) H Q:=by
 show rEqD K (.ref p) (.ref q) H Q
 refine ⟨.list (xs.map PyData.str),.list (ys.map PyData.str),.lst (SqL.of hp) (.strs xs),.lst (SqL.of hq) (.strs ys),ik xs h1,ik ys h2,?_⟩
 rw [PyData.eqv,oF PyData.str pb]
 exact h
theorem uL {K:PySem.W.Frag} {H:Hp} {Q:VK} {p q:Addr} {xs ys:List Str} (hp:H p=some (.lst (xs.map V.str))) (hq:H q=some (.lst (ys.map V.str))) (h1:∀ x∈xs,PyData.strOk x=true) (h2:∀ x∈ys,PyData.strOk x=true) (h:Q (.bl (!decide (xs=ys))) H):cNe K (.ref p) (.ref q) H Q:=by
 show rNeD K (.ref p) (.ref q) H Q
 refine ⟨.list (xs.map PyData.str),.list (ys.map PyData.str),.lst (SqL.of hp) (.strs xs),.lst (SqL.of hq) (.strs ys),ik xs h1,ik ys h2,?_⟩
 rw [PyData.eqv,oF PyData.str pb]
 exact h
theorem nD {K:PySem.W.Frag} {vs:List V} {H:Hp} {Q:VK} {E:XK} (h:bn K vs H Q E):dR K { nx:=fun _ H'=>Q .non H',rt:=Q } (start ["words","least","most"] vs) H:=by
 obtain ⟨p,n,ws,lo,hi,rfl,hp,hn,hw,h0,h1,q⟩:=h
 show dR K _ [some (.ref p),some (.int lo),some (.int hi)] H
 unfold dR
 rw [aH,aD]
 walk_at "w"
 refine ⟨aB (by decide),fun l hl=>?_⟩
 have s1:Same H (upd H l (.lst [])):=(Same.refl H).laid hl
 refine xQ (s1 _ _ hp) (ys:=[]) ag (WOk.strs (WOk.cons (i7 hn) hw)) (fun x hx=>nomatch hx) ?_
 generalize upd H l (.lst [])=H1 at*
 walk_at "w"
 rw [decide_eq_false (by simp)]
 refine iteF ?_
 walk_at "w"
 have e0:atI (((numC n::ws).map tx).map V.str) 0=some (V.str (tx (numC n))):=gM (j:=0) rfl
 refine ixL (s1 _ _ hp) e0 ?_
 walk_at "w"
 exact ⟨n,lo,hi,rfl,hn,h0,h1,fun H2 s2=>q _ (s1.trans s2)⟩
theorem vG (acc:List Int) (v:Int):(step_dedup acc v).length≤acc.length+1:=by
 unfold step_dedup
 split <;> simp
theorem qB:∀ (l acc:List Int),(l.foldl step_dedup acc).length≤acc.length+l.length
 | [],acc=>by simp
 | x::r,acc=>by
  have h1:=qB r (step_dedup acc x)
  have h2:=vG acc x
  rw [List.foldl_cons,List.length_cons]
  omega
theorem mj:∀ (l acc:List Int),acc.Nodup→((l.foldl step_dedup acc).length=acc.length+l.length↔(acc++l).Nodup)
 | [],acc,h=>by simpa using h
 | x::r,acc,h=>by
  rw [List.foldl_cons]
  by_cases hx:x∈acc
  · have e:step_dedup acc x=acc:=by
     unfold step_dedup
     rw [if_pos (by simpa using hx)]
    rw [e]
    have:=qB r acc
    constructor
    · intro z
      rw [List.length_cons] at z
      omega
    · intro z
      have:=(List.nodup_append.mp z).2.2 x hx x List.mem_cons_self
      exact absurd rfl this
  · have e:step_dedup acc x=acc++[x]:=by
     unfold step_dedup
     rw [if_neg (by simpa using hx)]
    rw [e]
    have hn:(acc++[x]).Nodup:=List.nodup_append.mpr ⟨h,by simp,fun a ha b hb z=>hx (by rw [List.mem_singleton.mp hb] at z; exact z ▸ ha)⟩
    have ih:=mj r (acc++[x]) hn
    rw [List.length_append,List.length_singleton] at ih
    rw [List.length_cons,show acc.length+(r.length+1)=acc.length+1+r.length by omega,show acc++x::r=acc++[x]++r by simp]
    exact ih
theorem oI (ns:List Int):(List.range ns.length).map (fun i=>ns.getD i 0)=ns:=by
 have:=pq ns (fun x=>x)
 simpa using this
theorem vH (ns:List Int):cntD ns=ns.length↔ns.Nodup:=by
 unfold cntD firstMet
 rw [oI]
 have:=mj ns [] List.nodup_nil
 simpa using this
def cA (K:PySem.W.Frag):Sp:=fun vs H Q _=>∃ (a p:Addr) (h w g:Int) (ns:List Nat),vs=[.ref a,.ref p]∧IsFl H a h w g∧FlOk h w g∧H p=some (.lst (((ns.map numC).map tx).map V.str))∧ns≠[]∧ns.length≤16∧(∀ n∈ns,(n:Int) < h*w)∧ns.Nodup∧
 ∀ l H',Same H H'→H l=none→H' l=some (.lst ((ns.map fun (n:Nat)=>(n:Int)).map V.int))→Q (.ref l) H'
theorem pB {K:PySem.W.Frag} {vs:List V} {H:Hp} {Q:VK} {E:XK} (h:cA K vs H Q E):vs.length=2:=by
 obtain ⟨_,_,_,_,_,_,rfl,_⟩:=h; rfl
def fB (K:PySem.W.Frag):TS:=
 (tSeq (sComp 2 [none,none,some 0] (iList K (tVar 1)) (gName 1) tTrue (tCall (be K) [] E0 (tCons (tVar 1) (tCons (tC (.int 0)) (tCons (tOp cSub (tCall (aQ K) [] E0 (tCons (tVar 2) tNil)) (tC (.int 1))) tNil)))))
  (tSeq (tIfS (tTest (tOp (cEq K) (tVar 2) (tLst tNil))) cu tNext)
  (tSeq (tIfS (tTest (tOp (cNe K) (oH (tVar 2)) (tCB kLen (tCons (tVar 2) tNil)))) cu tNext)
  (tRet (tVar 2)))))
theorem sO {ns:List Nat} (h:ns.Nodup):(ns.map fun (n:Nat)=>(n:Int)).Nodup:=by
 induction ns with
 | nil=>exact List.nodup_nil
 | cons a r ih=>
  rw [List.nodup_cons] at h
  rw [List.map_cons,List.nodup_cons]
  refine ⟨fun z=>?_,ih h.2⟩
  obtain ⟨b,hb,e⟩:=List.mem_map.mp z
  exact h.1 (by have:b=a:=by omega
                exact this ▸ hb)
theorem pC {K:PySem.W.Frag} {vs:List V} {H:Hp} {Q:VK} {E:XK} (h:cA K vs H Q E):fB K { nx:=fun _ H'=>Q .non H',rt:=Q } (start ["floor","words","cells"] vs) H:=by
 obtain ⟨a,p,h,w,g,ns,rfl,ha,F,hp,hne,hn16,hlt,hnd,q⟩:=h
 obtain ⟨h0,h1,w0,w1,m16,g0,g1⟩:=F
 show fB K _ [some (.ref a),some (.ref p),none] H
 unfold fB
 walk_at "w"
 refine ⟨⟨_,SqL.of hp⟩,?_⟩
 refine eQ (xs:=((ns.map numC).map tx).map V.str) (fun _=>true) (fun i=>.int (ns.getD i 0:Nat)) (by simp; omega) (SqL.of hp) ?_ ?_ ?_
 · intro i x H1 R hx s1 k1
   exact k1 _ (Same.refl _)
 · intro i x H1 Q1 hx hb s1 k1
   rw [List.getElem?_map,List.getElem?_map,List.getElem?_map] at hx
   cases e:ns[i]? with
   | none=>rw [e] at hx; cases hx
   | some n=>
    rw [e] at hx
    cases hx
    have hm:=hlt n (List.mem_of_getElem? e)
    show tCall _ _ _ _ [none,some (.str (tx (numC n))),some (.ref a)] H1 Q1
    walk_at "w"
    refine ⟨a,h,w,g,rfl,s1 _ _ ha,h0,h1,?_⟩
    walk_at "w"
    refine ⟨n,0,_,rfl,by omega,by omega,by omega,fun H2 s2=>?_⟩
    have q1:=k1 _ s2
    have eg:ns.getD i 0=n:=by rw [List.getD,e]; rfl
    rw [eg] at q1
    exact q1
 · intro l H1 hl s1 el
   have ec:((List.range (((ns.map numC).map tx).map V.str).length).filter fun _=>true).map (fun i=>V.int (ns.getD i 0:Nat))=(ns.map fun (n:Nat)=>(n:Int)).map V.int:=by
    rw [em,List.length_map,List.length_map,List.length_map,List.map_map]
    refine List.ext_getElem? fun i=>?_
    rw [List.getElem?_map,List.getElem?_map]
    by_cases h:i < ns.length
    · rw [List.getElem?_range h,List.getElem?_eq_getElem h]
      simp [List.getD,h]
    · rw [List.getElem?_eq_none (by simpa using h),List.getElem?_eq_none (by omega)]; rfl
   rw [ec] at el
   walk_at "w"
   rw [aD]
   walk_at "w"
   refine ⟨aB (by decide),fun z hz=>?_⟩
   have s2:Same H1 (upd H1 z (.lst [])):=(Same.refl H1).laid hz
   refine sG (s2 _ _ el) (ys:=[]) ag ?_
   generalize upd H1 z (.lst [])=H2 at*
   walk_at "w"
   rw [decide_eq_false (by simpa using hne)]
   refine iteF ?_
   walk_at "w"
   rw [aD]
   walk_at "w"
   refine ⟨l,_,rfl,s2 _ _ el,by rw [List.length_map]; omega,?_⟩
   rw [cF (s2 _ _ el),List.length_map]
   walk_at "w"
   rw [decide_eq_true (by rw [(vH _).mpr (sO hnd)])]
   refine iteF ?_
   walk_at "w"
   exact q l _ (s1.trans s2) hl (s2 _ _ el)
def allK:RK→Bool
 | .Joined=>true
 | .NoSquare=>true
 | .Ring=>true
 | _=>false
def numK:RK→Bool
 | .Sum=>true
 | .Seen=>true
 | .Count=>true
 | _=>false
def sgnK:RK→Bool
 | .Count=>true
 | .Joined=>true
 | .NoSquare=>true
 | .Ring=>true
 | _=>false
theorem xR (k:RK):decide (tx (nmC k)∈dQ)=allK k:=by cases k <;> decide+kernel
theorem xS (k:RK):decide (tx (nmC k)∈eX)=numK k:=by cases k <;> decide+kernel
theorem xT (k:RK):decide (tx (nmC k)∈eo)=sgnK k:=by cases k <;> decide+kernel
structure oJ (k:RK) (h w:Int) (ns:List Nat) (cs:List Int):Prop where
 told:allK k=false→ns≠[]∧ns.length≤16∧(∀ n∈ns,(n:Int) < h*w)∧ns.Nodup∧cs=ns.map fun (n:Nat)=>(n:Int)
 all:allK k=true→ns=[]∧cs=rngL 0 (h*w)
def dG (K:PySem.W.Frag):Sp:=fun vs H Q _=>∃ (k:RK) (a p:Addr) (h w g:Int) (ns:List Nat) (cs:List Int),vs=[.ref a,.str (tx (nmC k)),.ref p]∧IsFl H a h w g∧FlOk h w g∧H p=some (.lst (((ns.map numC).map tx).map V.str))∧oJ k h w ns cs∧(∀ n∈ns,n < 100)∧
 ∀ l H',Same H H'→H l=none→H' l=some (.lst (cs.map V.int))→Q (.ref l) H'
theorem rn {K:PySem.W.Frag} {vs:List V} {H:Hp} {Q:VK} {E:XK} (h:dG K vs H Q E):vs.length=3:=by
 obtain ⟨_,_,_,_,_,_,_,_,rfl,_⟩:=h; rfl
def il (K:PySem.W.Frag):TS:=
 (tSeq (tIfS (tB (tInG dQ true (tVar 1))) (tRet (tCall (cA K) [] E0 (tCons (tVar 0) (tCons (tVar 2) tNil)))) tNext)
  (tSeq (tIfS (tTest (tOp (cNe K) (tVar 2) (tLst tNil))) cu tNext)
  (tRet (k6 (tCons (tCall (aQ K) [] E0 (tCons (tVar 0) tNil)) tNil)))))
theorem ro {K:PySem.W.Frag} {vs:List V} {H:Hp} {Q:VK} {E:XK} (h:dG K vs H Q E):il K { nx:=fun _ H'=>Q .non H',rt:=Q } (start ["floor","name","words"] vs) H:=by
 obtain ⟨k,a,p,h,w,g,ns,cs,rfl,ha,F,hp,hc,hn,q⟩:=h
 obtain ⟨h0,h1,w0,w1,m16,g0,g1⟩:=id F
 have mpos:0≤h*w:=Int.mul_nonneg (by omega) (by omega)
 show il K _ [some (.ref a),some (.str (tx (nmC k))),some (.ref p)] H
 unfold il
 rw [aH,aD]
 walk_at "w"
 rw [xR]
 cases hk:allK k with
 | false=>
  obtain ⟨c1,c2,c3,c4,rfl⟩:=hc.told hk
  walk_at "w"
  exact ⟨a,p,h,w,g,ns,rfl,ha,F,hp,c1,c2,c3,c4,q⟩
 | true=>
  obtain ⟨rfl,rfl⟩:=hc.all hk
  walk_at "w"
  rw [aD]
  walk_at "w"
  refine ⟨aB (by decide),fun z hz=>?_⟩
  have s1:Same H (upd H z (.lst [])):=(Same.refl H).laid hz
  refine uL (xs:=[]) (ys:=[]) (s1 _ _ hp) ag (fun x hx=>nomatch hx) (fun x hx=>nomatch hx) ?_
  generalize upd H z (.lst [])=H1 at*
  walk_at "w"
  refine ⟨a,h,w,g,rfl,s1 _ _ ha,h0,h1,?_⟩
  walk_at "w"
  refine ⟨h*w,rfl,by omega,by omega,fun l hl=>?_⟩
  exact q l _ (s1.laid hl) (s1.free hl) ag
def e9 (K:PySem.W.Frag) (c:RCl RK):Sp:=fun vs H Q _=>∃ (k:RK) (p W C:Addr) (ws:List (List Nat)) (cs:List Int) (n m:Int),vs=[.ref p,.ref W,.ref C,.int n,.int m]∧k≠.Rule∧c.ok k=true∧H W=some (.lst (((nmC k::ws).map tx).map V.str))∧H C=some (.lst (cs.map V.int))∧
 ∀ r H',Same H H'→H r=none→IsRule H' c k r p (nmC k::ws) cs n m→Q (.ref r) H'
theorem sP {K:PySem.W.Frag} {c:RCl RK} {vs:List V} {H:Hp} {Q:VK} {E:XK} (h:e9 K c vs H Q E):vs.length=5:=by
 obtain ⟨_,_,_,_,_,_,_,_,rfl,_⟩:=h; rfl
def iU (K:PySem.W.Frag) (c:RCl RK):TS:=
 (tSeq (tAsg (tOp cIx (tVar 1) (tC (.int 0))) (gName 5))
  (tSeq (tIfS (tTest (tOp (cEq K) (tVar 5) (tC (.str (tx [117,110,108,105,107,101]))))) (tRet (tMake (c.A .Unlike) (av K c) [] E0 (tCons (tVar 0) (tCons (tVar 1) (tCons (tVar 2) (tCons (tVar 3) (tCons (tVar 4) tNil))))))) tNext)
  (tSeq (tIfS (tTest (tOp (cEq K) (tVar 5) (tC (.str (tx [115,117,109]))))) (tRet (tMake (c.A .Sum) (av K c) [] E0 (tCons (tVar 0) (tCons (tVar 1) (tCons (tVar 2) (tCons (tVar 3) (tCons (tVar 4) tNil))))))) tNext)
  (tSeq (tIfS (tTest (tOp (cEq K) (tVar 5) (tC (.str (tx [114,105,115,105,110,103]))))) (tRet (tMake (c.A .Rising) (av K c) [] E0 (tCons (tVar 0) (tCons (tVar 1) (tCons (tVar 2) (tCons (tVar 3) (tCons (tVar 4) tNil))))))) tNext)
  (tSeq (tIfS (tTest (tOp (cEq K) (tVar 5) (tC (.str (tx [115,101,101,110]))))) (tRet (tMake (c.A .Seen) (av K c) [] E0 (tCons (tVar 0) (tCons (tVar 1) (tCons (tVar 2) (tCons (tVar 3) (tCons (tVar 4) tNil))))))) tNext)
  (tSeq (tIfS (tTest (tOp (cEq K) (tVar 5) (tC (.str (tx [99,111,117,110,116]))))) (tRet (tMake (c.A .Count) (av K c) [] E0 (tCons (tVar 0) (tCons (tVar 1) (tCons (tVar 2) (tCons (tVar 3) (tCons (tVar 4) tNil))))))) tNext)
  (tSeq (tIfS (tTest (tOp (cEq K) (tVar 5) (tC (.str (tx [106,111,105,110,101,100]))))) (tRet (tMake (c.A .Joined) (av K c) [] E0 (tCons (tVar 0) (tCons (tVar 1) (tCons (tVar 2) (tCons (tVar 3) (tCons (tVar 4) tNil))))))) tNext)
  (tSeq (tIfS (tTest (tOp (cEq K) (tVar 5) (tC (.str (tx [110,111,115,113,117,97,114,101]))))) (tRet (tMake (c.A .NoSquare) (av K c) [] E0 (tCons (tVar 0) (tCons (tVar 1) (tCons (tVar 2) (tCons (tVar 3) (tCons (tVar 4) tNil))))))) tNext)
  (tSeq (tIfS (tTest (tOp (cEq K) (tVar 5) (tC (.str (tx [114,105,110,103]))))) (tRet (tMake (c.A .Ring) (av K c) [] E0 (tCons (tVar 0) (tCons (tVar 1) (tCons (tVar 2) (tCons (tVar 3) (tCons (tVar 4) tNil))))))) tNext)
  cu)))))))))
theorem wP {K:PySem.W.Frag} {c:RCl RK} {H:Hp} {Q:VK} {k:RK} {p W C:Addr} {ws:List (List Nat)} {cs:List Int} {n m:Int} (ok:c.ok k=true) (hW:H W=some (.lst ((ws.map tx).map V.str))) (hC:H C=some (.lst (cs.map V.int))) (q:∀ r H',Same H H'→H r=none→IsRule H' c k r p ws cs n m→Q (.ref r) H'):
  ∀ x dx,H x=none→H dx=none→dx≠x→av K c (.ref x::([.ref p,.ref W,.ref C,.int n,.int m]++[])) (upd (upd H dx (.own x)) x (.ins (c.A k) dx [])) (fun v H2=>v=.non∧Q (.ref x) H2) E0:=by
 intro x dx hx hd ne
 refine ⟨k,x,dx,p,W,C,ws,cs,n,m,rfl,ok,ag,aE hW hx,aE hC hx,?_,?_,fun H' hs hr=>⟨rfl,q x H' (fun b o e=>hs b o (aE e hx) ?_) hx hr⟩⟩
 · rw [aq (aE hW hx),aq (aE hW hd)]; exact hW
 · rw [aq (aE hC hx),aq (aE hC hd)]; exact hC
 · rw [aq (aE e hx),aq (aE e hd)]; exact e
theorem sQ {K:PySem.W.Frag} {c:RCl RK} {vs:List V} {H:Hp} {Q:VK} {E:XK} (h:e9 K c vs H Q E):iU K c { nx:=fun _ H'=>Q .non H',rt:=Q } (start ["floor","words","cells","amount","mark","name"] vs) H:=by
 obtain ⟨k,p,W,C,ws,cs,n,m,rfl,hk,ok,hW,hC,q⟩:=h
 have mk:=wP (K:=K) ok hW hC q
 have e0:atI (((nmC k::ws).map tx).map V.str) 0=some (V.str (tx (nmC k))):=gM (j:=0) rfl
 show iU K c _ [some (.ref p),some (.ref W),some (.ref C),some (.int n),some (.int m),none] H
 unfold iU
 walk_at "w"
 refine ixL hW e0 ?_
 have D:∀ (l:List Nat) (t:TS) (u:TS) (D:Ends) (b:Bool),decide (nmC k=l)=b→(if b=true then t D [some (.ref p),some (.ref W),some (.ref C),some (.int n),some (.int m),some (.str (tx (nmC k)))] H else u D [some (.ref p),some (.ref W),some (.ref C),some (.int n),some (.int m),some (.str (tx (nmC k)))] H)→
   tIfS (tTest (tOp (cEq K) (tVar 5) (tC (.str (tx l))))) t u D [some (.ref p),some (.ref W),some (.ref C),some (.int n),some (.int m),some (.str (tx (nmC k)))] H:=fun l t u D b hb hq=>by
  rw [aD]
  walk_at "w"
  rw [cw,hb]
  exact hq
 have R:∀ (D:Ends),D.rt=Q→tRet (tMake (c.A k) (av K c) [] E0 (tCons (tVar 0) (tCons (tVar 1) (tCons (tVar 2) (tCons (tVar 3) (tCons (tVar 4) tNil)))))) D [some (.ref p),some (.ref W),some (.ref C),some (.int n),some (.int m),some (.str (tx (nmC k)))] H:=fun D hD=>by
  walk_at "w"
  rw [hD]
  exact mk
 cases k with
 | Rule=>exact absurd rfl hk
 | Unlike=>exact D _ _ _ _ true (by decide) (iteT (R _ rfl))
 | Sum=>exact D _ _ _ _ false (by decide) (iteF (D _ _ _ _ true (by decide) (iteT (R _ rfl))))
 | Rising=>exact D _ _ _ _ false (by decide) (iteF (D _ _ _ _ false (by decide) (iteF (D _ _ _ _ true (by decide) (iteT (R _ rfl))))))
 | Seen=>exact D _ _ _ _ false (by decide) (iteF (D _ _ _ _ false (by decide) (iteF (D _ _ _ _ false (by decide) (iteF (D _ _ _ _ true (by decide) (iteT (R _ rfl))))))))
 | Count=>exact D _ _ _ _ false (by decide) (iteF (D _ _ _ _ false (by decide) (iteF (D _ _ _ _ false (by decide) (iteF (D _ _ _ _ false (by decide) (iteF (D _ _ _ _ true (by decide) (iteT (R _ rfl))))))))))
 | Joined=>exact D _ _ _ _ false (by decide) (iteF (D _ _ _ _ false (by decide) (iteF (D _ _ _ _ false (by decide) (iteF (D _ _ _ _ false (by decide) (iteF (D _ _ _ _ false (by decide) (iteF (D _ _ _ _ true (by decide) (iteT (R _ rfl))))))))))))
 | NoSquare=>exact D _ _ _ _ false (by decide) (iteF (D _ _ _ _ false (by decide) (iteF (D _ _ _ _ false (by decide) (iteF (D _ _ _ _ false (by decide) (iteF (D _ _ _ _ false (by decide) (iteF (D _ _ _ _ false (by decide) (iteF (D _ _ _ _ true (by decide) (iteT (R _ rfl))))))))))))))
 | Ring=>exact D _ _ _ _ false (by decide) (iteF (D _ _ _ _ false (by decide) (iteF (D _ _ _ _ false (by decide) (iteF (D _ _ _ _ false (by decide) (iteF (D _ _ _ _ false (by decide) (iteF (D _ _ _ _ false (by decide) (iteF (D _ _ _ _ false (by decide) (iteF (D _ _ _ _ true (by decide) (iteT (R _ rfl))))))))))))))))
def rowW (k:RK) (n m:Nat) (ns:List Nat):List (List Nat):=nmC k::((if numK k then [numC n] else [])++(if sgnK k then [numC m] else [])++ns.map numC)
structure qC (k:RK) (h w g:Int) (n m:Nat) (ns:List Nat) (cs:List Int):Prop where
 k0:k≠.Rule
 n0:n≤99
 nz:numK k=false→n=0
 m0:sgnK k=true→1≤(m:Int)∧(m:Int)≤g
 mz:sgnK k=false→m=0
 cl:oJ k h w ns cs
 ns0:∀ x∈ns,x < 100
 len:ns.length≤16
def c6 (K:PySem.W.Frag) (c:RCl RK):Sp:=fun vs H Q _=>∃ (k:RK) (p:Addr) (h w g:Int) (n m:Nat) (ns:List Nat) (cs:List Int),vs=[.ref p,.str (tx (catL 32 (rowW k n m ns)))]∧IsFl H p h w g∧FlOk h w g∧qC k h w g n m ns cs∧c.ok k=true∧
 ∀ r H',Same H H'→H r=none→IsRule H' c k r p (rowW k n m ns) cs n m→Q (.ref r) H'
theorem qD {K:PySem.W.Frag} {c:RCl RK} {vs:List V} {H:Hp} {Q:VK} {E:XK} (h:c6 K c vs H Q E):vs.length=2:=by
 obtain ⟨_,_,_,_,_,_,_,_,_,rfl,_⟩:=h; rfl
def dS (K:PySem.W.Frag) (c:RCl RK):TS:=
 (tRet (tCall (e9 K c) [] E0 (tCons (tVar 0) (tCons (tVar 2) (tCons (tCall (dG K) [] E0 (tCons (tVar 0) (tCons (tVar 3) (tCons (tVar 4) tNil)))) (tCons (tVar 5) (tCons (tVar 6) tNil)))))))
def gy (K:PySem.W.Frag) (c:RCl RK):TS:=
 (tSeq (tAsg (tOp cIx (tVar 2) (tC (.int 0))) (gName 3))
  (tSeq (tAsg (tSl mw (tVar 2) (tPart (tC (.int 1))) iZ) (gName 4))
  (tSeq (tAsg (tC (.int 0)) (gName 5))
  (tSeq (tAsg (tC (.int 0)) (gName 6))
  (tSeq (tIfS (tB (tInG eX false (tVar 3))) (tSeq (tAsg (tCall (bn K) [] E0 (tCons (tVar 4) (tCons (tC (.int 0)) (tCons (tC (.int 99)) tNil)))) (gName 5))
  (tAsg (tSl mw (tVar 4) (tPart (tC (.int 1))) iZ) (gName 4))) tNext)
  (tSeq (tIfS (tB (tInG eo false (tVar 3))) (tSeq (tAsg (tCall (bn K) [] E0 (tCons (tVar 4) (tCons (tC (.int 1)) (tCons (tOp cIx (tVar 0) (tC (.int 2))) tNil)))) (gName 6))
  (tAsg (tSl mw (tVar 4) (tPart (tC (.int 1))) iZ) (gName 4))) tNext)
  (dS K c)))))))
def gz (K:PySem.W.Frag) (c:RCl RK):TS:=
 (tSeq (tIfS (tNot (tB (tCB kIsi (tCons (tVar 1) (tCons (tC (.ty "str")) tNil))))) cu tNext)
  (tSeq (tAsg (tBM K "str" nj (tVar 1) (tCons (tC (.str (tx [32]))) tNil)) (gName 2))
  (gy K c)))
theorem wQ (k:RK):32∉nmC k:=by cases k <;> decide
theorem yx (k:RK):∀ c∈nmC k,c < 128:=by cases k <;> decide
theorem uM {k:RK} {n m:Nat} {ns:List Nat} (hn:n < 100) (hm:m < 100) (hs:∀ x∈ns,x < 100):∀ r∈rowW k n m ns,32∉r:=by
 intro r hr
 unfold rowW at hr
 rcases List.mem_cons.mp hr with rfl | hr
 · exact wQ k
 rcases List.mem_append.mp hr with hr | hr
 · rcases List.mem_append.mp hr with hr | hr
   · split at hr
     · rw [List.mem_singleton.mp hr]; exact mB hn
     · cases hr
   · split at hr
     · rw [List.mem_singleton.mp hr]; exact mB hm
     · cases hr
 · obtain ⟨x,hx,rfl⟩:=List.mem_map.mp hr
   exact mB (hs x hx)
theorem vI (xs:List V):cutV xs (some 1) none=xs.drop 1:=by
 unfold cutV
 have h1:HT.sIx xs.length 0 (some 1)=min 1 xs.length:=HT.sIx_nat ..
 have h2:HT.sIx xs.length xs.length none=xs.length:=rfl
 rw [h1,h2]
 cases xs with
 | nil=>rfl
 | cons x r=>
  have:min 1 (x::r).length=1:=by simp
  rw [this]
  show (r).take _=r
  rw [List.take_of_length_le (by simp)]
theorem jy {K:PySem.W.Frag} {c:RCl RK} {H:Hp} {Q:VK} {k:RK} {p W R:Addr} {h w g:Int} {n m:Nat} {ws:List (List Nat)} {ns:List Nat} {cs:List Int} {lv:V} (F:FlOk h w g) (ha:IsFl H p h w g) (hW:H W=some (.lst (((nmC k::ws).map tx).map V.str))) (hR:H R=some (.lst (((ns.map numC).map tx).map V.str))) (hc:oJ k h w ns cs) (hn:∀ x∈ns,x < 100) (k0:k≠.Rule) (ok:c.ok k=true)
  (q:∀ r H',Same H H'→H r=none→IsRule H' c k r p (nmC k::ws) cs n m→Q (.ref r) H'):
  dS K c { nx:=fun _ H'=>Q .non H',rt:=Q } [some (.ref p),some lv,some (.ref W),some (.str (tx (nmC k))),some (.ref R),some (.int n),some (.int m)] H:=by
 unfold dS
 walk_at "w"
 refine ⟨k,p,R,h,w,g,ns,cs,rfl,ha,F,hR,hc,hn,fun l H1 s1 hl el=>?_⟩
 walk_at "w"
 exact ⟨k,p,W,l,ws,cs,n,m,rfl,k0,ok,s1 _ _ hW,el,fun r H2 s2 hr x=>q r H2 (s1.trans s2) (s1.free hr) x⟩
theorem rp {k:RK} {n m:Nat} {ns:List Nat} (h:ns.length≤16):(rowW k n m ns).length≤100∧∀ w∈rowW k n m ns,w.length≤100:=by
 unfold rowW
 refine ⟨?_,fun w hw=>?_⟩
 · simp only [List.length_cons,List.length_append,List.length_map]
   split <;> split <;> simp <;> omega
 · rcases List.mem_cons.mp hw with rfl | hw
   · cases k <;> decide
   have h2:∀ x,(numC x).length≤100:=fun x=>Nat.le_trans lS (by decide)
   rcases List.mem_append.mp hw with hw | hw
   · rcases List.mem_append.mp hw with hw | hw
     · split at hw
       · rw [List.mem_singleton.mp hw]; exact h2 _
       · cases hw
     · split at hw
       · rw [List.mem_singleton.mp hw]; exact h2 _
       · cases hw
   · obtain ⟨x,hx,rfl⟩:=List.mem_map.mp hw
     exact h2 _
theorem nE:∀ (rows:List (List Nat)),(∀ r∈rows,r.length≤100)→(catL 32 rows).length≤101*rows.length
 | [],_=>Nat.zero_le _
 | [x],h=>by
  have:=h x List.mem_cons_self
  show x.length≤101*1
  omega
 | x::y::r,h=>by
  have h1:=h x List.mem_cons_self
  have ih:=nE (y::r) fun z hz=>h z (List.mem_cons_of_mem _ hz)
  have e:catL 32 (x::y::r)=x++32::catL 32 (y::r):=by first | rfl | simp [catL]
  rw [e,List.length_append,List.length_cons,List.length_cons]
  omega
theorem oK {H:Hp} {Q:VK} {p:Addr} {x:Str} {xs:List Str} (hp:H p=some (.lst ((x::xs).map V.str))) (q:∀ l,H l=none→Q (.ref l) (upd H l (.lst (xs.map V.str)))):mw (.ref p) (some 1) none H Q:=by
 refine yu hp fun l hl=>?_
 rw [vI]
 exact q l hl
theorem nF {K:PySem.W.Frag} {c:RCl RK} {H:Hp} {Q:VK} {k:RK} {p W:Addr} {h w g:Int} {n m:Nat} {ns:List Nat} {cs:List Int} {lv:V} (F:FlOk h w g) (ha:IsFl H p h w g) (hW:H W=some (.lst (((rowW k n m ns).map tx).map V.str))) (O:qC k h w g n m ns cs) (ok:c.ok k=true)
  (q:∀ r H',Same H H'→H r=none→IsRule H' c k r p (rowW k n m ns) cs n m→Q (.ref r) H'):
  gy K c { nx:=fun _ H'=>Q .non H',rt:=Q } [some (.ref p),some lv,some (.ref W),none,none,none,none] H:=by
 obtain ⟨k0,n0,nz,m0,mz,cl,ns0,len⟩:=O
 obtain ⟨h0,h1,w0,w1,m16,g0,g1⟩:=id F
 have e0:atI (((rowW k n m ns).map tx).map V.str) 0=some (V.str (tx (nmC k))):=gM (j:=0) rfl
 have hns:WOk (ns.map numC):=fun v hv=>by obtain ⟨x,hx,rfl⟩:=List.mem_map.mp hv; exact i7 (ns0 x hx)
 unfold gy
 walk_at "w"
 refine ixL hW e0 ?_
 walk_at "w"
 refine oK hW fun R hR=>?_
 have s1:Same H (upd H R (.lst ((((if numK k then [numC n] else [])++(if sgnK k then [numC m] else [])++ns.map numC).map tx).map V.str))):=(Same.refl H).laid hR
 have eR:(upd H R (.lst ((((if numK k then [numC n] else [])++(if sgnK k then [numC m] else [])++ns.map numC).map tx).map V.str))) R=some (.lst ((((if numK k then [numC n] else [])++(if sgnK k then [numC m] else [])++ns.map numC).map tx).map V.str)):=ag
 generalize upd H R (.lst ((((if numK k then [numC n] else [])++(if sgnK k then [numC m] else [])++ns.map numC).map tx).map V.str))=H1 at*
 walk_at "w"
 have two:∀ {H2:Hp} {R2:Addr},Same H H2→H2 R2=some (.lst ((((if sgnK k then [numC m] else [])++ns.map numC).map tx).map V.str))→
   tSeq (tIfS (tB (tInG eo false (tVar 3))) (tSeq (tAsg (tCall (bn K) [] E0 (tCons (tVar 4) (tCons (tC (.int 1)) (tCons (tOp cIx (tVar 0) (tC (.int 2))) tNil)))) (gName 6)) (tAsg (tSl mw (tVar 4) (tPart (tC (.int 1))) iZ) (gName 4))) tNext) (dS K c) { nx:=fun _ H'=>Q .non H',rt:=Q }
    [some (.ref p),some lv,some (.ref W),some (.str (tx (nmC k))),some (.ref R2),some (.int n),some (.int 0)] H2:=by
  intro H2 R2 s2 eR2
  rw [aH,aD]
  walk_at "w"
  rw [xT]
  cases hs:sgnK k with
  | false=>
   rw [hs] at eR2
   have:=mz hs
   subst this
   walk_at "w"
   exact jy F (s2 _ _ ha) (s2 _ _ hW) eR2 cl ns0 k0 ok fun r H3 s3 hr x=>q r H3 (s2.trans s3) (s2.free hr) x
  | true=>
   rw [hs] at eR2
   have hm:=m0 hs
   walk_at "w"
   refine ixT (s2 _ _ ha) (v:=V.int g) rfl ?_
   walk_at "w"
   refine ⟨R2,m,ns.map numC,1,g,rfl,eR2,by omega,hns,hm.1,hm.2,fun H3 s3=>?_⟩
   walk_at "w"
   refine oK (s3 _ _ eR2) fun R3 hR3=>?_
   have s4:Same H3 (upd H3 R3 (.lst (((ns.map numC).map tx).map V.str))):=(Same.refl H3).laid hR3
   have s24:=(s2.trans s3).trans s4
   exact jy F (s24 _ _ ha) (s24 _ _ hW) ag cl ns0 k0 ok fun r H5 s5 hr x=>q r H5 (s24.trans s5) (s24.free hr) x
 rw [aD]
 walk_at "w"
 rw [xS]
 cases hn:numK k with
 | false=>
  rw [hn] at eR
  have:=nz hn
  subst this
  walk_at "w"
  exact two s1 eR
 | true=>
  rw [hn] at eR
  walk_at "w"
  refine ⟨R,n,(if sgnK k then [numC m] else [])++ns.map numC,0,99,rfl,eR,by omega,?_,by omega,by omega,fun H3 s3=>?_⟩
  · intro v hv
    rcases List.mem_append.mp hv with hv | hv
    · split at hv
      · rename_i hs
        have:=m0 hs
        rw [List.mem_singleton.mp hv]; exact i7 (by omega)
      · cases hv
    · exact hns v hv
  walk_at "w"
  refine oK (s3 _ _ eR) fun R3 hR3=>?_
  have s4:Same H3 (upd H3 R3 (.lst ((((if sgnK k then [numC m] else [])++ns.map numC).map tx).map V.str))):=(Same.refl H3).laid hR3
  walk_at "w"
  exact two ((s1.trans s3).trans s4) ag
theorem qE {K:PySem.W.Frag} {c:RCl RK} {vs:List V} {H:Hp} {Q:VK} {E:XK} (h:c6 K c vs H Q E):gz K c { nx:=fun _ H'=>Q .non H',rt:=Q } (start ["floor","line","words","name","rest","amount","mark"] vs) H:=by
 obtain ⟨k,p,h,w,g,n,m,ns,cs,rfl,ha,F,O,ok,q⟩:=h
 have hm:m < 100:=by
  by_cases hs:sgnK k=true
  · have:=(O.m0 hs).2
    have:=F.g1
    omega
  · have:=O.mz (by simpa using hs)
    omega
 have hsp:Txt.split (tx (catL 32 (rowW k n m ns))) (tx [32])=(rowW k n m ns).map tx:=vE (by simp [rowW]) (uM (by have:=O.n0; omega) hm O.ns0)
 have hl:=rp (k:=k) (n:=n) (m:=m) O.len
 have hl2:=nE _ hl.2
 show gz K c _ [some (.ref p),some (.str (tx (catL 32 (rowW k n m ns)))),none,none,none,none,none] H
 unfold gz
 rw [aH,aD]
 walk_at "w"
 refine ⟨wl,?_⟩
 rw [wH,hsp]
 refine ⟨by rw [gp]; decide,by rw [gp]; exact Nat.le_of_lt (Nat.lt_of_le_of_lt hl2 (Nat.lt_of_le_of_lt (Nat.mul_le_mul_left 101 hl.1) (by decide))),by rw [List.length_map]; exact aB (by omega),fun W hW=>?_⟩
 have s1:Same H (upd H W (.lst (((rowW k n m ns).map tx).map V.str))):=(Same.refl H).laid hW
 exact nF F (s1 _ _ ha) ag O ok fun r H2 s2 hr x=>q r H2 (s1.trans s2) (s1.free hr) x
theorem sf {n x:Int} (h:x∈rngL 0 n):0≤x∧x < n:=by
 unfold rngL at h
 obtain ⟨k,hk,rfl⟩:=List.mem_map.mp h
 have:=List.mem_range.mp hk
 omega
theorem wR {n:Nat} (h:n < 100):((n:Int)).natAbs.log2 < 1920:=by
 have t:((List.range 100).all fun n=>decide (n.log2 < 1920))=true:=by decide+kernel
 have:=List.all_eq_true.mp t n (List.mem_range.mpr h)
 simpa using this
theorem wS {H:Hp} {Q:VK} {n:Nat} (h:n < 100) (q:Q (.str (tx (numC n))) H):kStr [.int (n:Int)] H Q:=by
 refine ⟨wR h,?_⟩
 rw [wM h]
 exact q
theorem mG {c:Nat} {x:List Nat}:∀ {rs:List (List Nat)},rs≠[]→catL c (x::rs)=x++c::catL c rs
 | [],h=>absurd rfl h
 | y::r,_=>by first | rfl | simp [catL]
end L2
namespace L2
open PySem PySem.Spec PyProof.Rows
section
variable {X:Cx} {a:Expr} {ta:TE} {pos p:Pos} {x:Str} {ws:List Str}
theorem nG (G:GTup X.K X.mg x ws) (ha:PE X a ta) (hg:Gl X x) (hdb:(x==("__debug__":Str))=false:=by decide) (hm:behindInMarks .In (.Name x p)=false:=by with_unfolding_all rfl):PT X (.Compare a [.In] [.Name x p] pos) (tB (tInG ws false ta)):=by
 obtain ⟨q,o,its,n,h1,h2⟩:=G.ex
 have h0:=ao (pos:=pos) (xN ⟨o,its,n,h2⟩) ha (cU (v:=V.ref q) hg h1 rfl hdb) hm
 intro pins s σ H Q I h
 refine h0 pins s σ H Q I ?_
 have e:(fun (x:V) (H1:Hp)=>∃ z,x=.str z∧∃ k,V.bl (if false=true then !decide (z∈ws) else decide (z∈ws))=.bl k∧Q k H1)=fun x H1=>∃ z,x=.str z∧(V.ref q=V.ref q)∧∃ k,V.bl (decide (z∈ws))=.bl k∧Q k H1:=by
  funext x H1; simp
 have h':ta σ H (fun (x:V) (H1:Hp)=>∃ z,x=.str z∧∃ k,V.bl (if false=true then !decide (z∈ws) else decide (z∈ws))=.bl k∧Q k H1):=h
 rw [e] at h'
 exact h'
theorem sg (G:GTup X.K X.mg x ws) (ha:PE X a ta) (hg:Gl X x) (hdb:(x==("__debug__":Str))=false:=by decide) (hm:behindInMarks .NotIn (.Name x p)=false:=by with_unfolding_all rfl):PT X (.Compare a [.NotIn] [.Name x p] pos) (tB (tInG ws true ta)):=by
 obtain ⟨q,o,its,n,h1,h2⟩:=G.ex
 have h0:=ao (pos:=pos) (wJ ⟨o,its,n,h2⟩) ha (cU (v:=V.ref q) hg h1 rfl hdb) hm
 intro pins s σ H Q I h
 refine h0 pins s σ H Q I ?_
 have e:(fun (x:V) (H1:Hp)=>∃ z,x=.str z∧∃ k,V.bl (if true=true then !decide (z∈ws) else decide (z∈ws))=.bl k∧Q k H1)=fun x H1=>∃ z,x=.str z∧(V.ref q=V.ref q)∧∃ k,V.bl (!decide (z∈ws))=.bl k∧Q k H1:=by
  funext x H1; simp
 have h':ta σ H (fun (x:V) (H1:Hp)=>∃ z,x=.str z∧∃ k,V.bl (if true=true then !decide (z∈ws) else decide (z∈ws))=.bl k∧Q k H1):=h
 rw [e] at h'
 exact h'
end
end L2
namespace L2
open PySem PySem.Spec PyProof.Rows
local macro_rules | `(tactic| walk_at "w")=>`(tactic| (first | simp only [aH,k8,nw,jd,la,j2,j3,nA,nu,k7,nv,if_true,if_false,Bool.false_eq_true,decide_true,decide_false,i5,i6,lQ,gQ,fK,i3,jY,i4,gP,jW,jX,gO,lN,gR,gS,gU,gW,gX,gY,gT,jZ,j0,j1,jU,lP,Bool.not_true,Bool.not_false,fi,fq,b7,ft,w_c,jb,fW,fX,dA,fY,w_b,w_not,iC,kb,fZ,ga,iD,fu,dB,kc,gb,gc,gd,iz,iE,ge,gf,gh,gi,eK,eL,cX,dh,di,cG,fv,iF,iG,iH,ii,iI,iJ,iK,iL,iM,iN,iO,kf,gj,dj,gk,kg,gl,eP,dk,iP,iQ,gm,fj,gn,
 List.getElem?_cons_zero,List.getElem?_cons_succ,Option.some.injEq,exists_eq_left',exists_eq_left,List.set_cons_zero,List.set_cons_succ,cO,V.int.injEq,V.bl.injEq,V.ref.injEq,V.str.injEq,List.append_nil,List.nil_append,List.cons_append] | dsimp only | skip))
inductive PzK where
 | Puzzle
 deriving DecidableEq
structure RR where
 k:RK
 n:Nat
 m:Nat
 ns:List Nat
 cs:List Int
def RR.ws (r:RR):List (List Nat):=rowW r.k r.n r.m r.ns
def RR.txt (r:RR):Str:=tx (catL 32 r.ws)
def RR.Ok (r:RR) (h w g:Int):Prop:=qC r.k h w g r.n r.m r.ns r.cs
theorem uN:∀ {rs:List (List Nat)},(∀ r∈rs,∀ c∈r,c < 128)→∀ c∈catL 32 rs,c < 128
 | [],_,c,hc=>by simp [catL] at hc
 | [x],h,c,hc=>h x List.mem_cons_self c (by first | exact hc | simpa [catL] using hc)
 | x::y::r,h,c,hc=>by
  rw [mG (by simp)] at hc
  rcases List.mem_append.mp hc with hc | hc
  · exact h x List.mem_cons_self c hc
  rcases List.mem_cons.mp hc with rfl | hc
  · decide
  · exact uN (fun z hz=>h z (List.mem_cons_of_mem _ hz)) c hc
theorem RR.wok {r:RR} {h w g:Int} (F:FlOk h w g) (O:r.Ok h w g):∀ x∈r.ws,∀ c∈x,c < 128:=by
 intro x hx
 unfold RR.ws rowW at hx
 have hm:r.m < 100:=by
  by_cases hs:sgnK r.k=true
  · have:=(O.m0 hs).2
    have:=F.g1
    omega
  · have:=O.mz (by simpa using hs)
    omega
 have hn:=O.n0
 rcases List.mem_cons.mp hx with rfl | hx
 · exact yx r.k
 rcases List.mem_append.mp hx with hx | hx
 · rcases List.mem_append.mp hx with hx | hx
   · split at hx
     · rw [List.mem_singleton.mp hx]; exact i7 (by omega)
     · cases hx
   · split at hx
     · rw [List.mem_singleton.mp hx]; exact i7 hm
     · cases hx
 · obtain ⟨y,hy,rfl⟩:=List.mem_map.mp hx
   exact i7 (O.ns0 y hy)
theorem RR.sok {r:RR} {h w g:Int} (F:FlOk h w g) (O:r.Ok h w g):PyData.strOk r.txt=true:=wm (uN (RR.wok F O))
structure IsRules (H:Hp) (c:RCl RK) (p L:Addr) (rs:List Addr) (rows:List RR):Prop where
 top:H L=some (.lst (rs.map V.ref))
 len:rs.length=rows.length
 at_:∀ (i:Nat) (r:Addr) (x:RR),rs[i]? =some r→rows[i]? =some x→IsRule H c x.k r p x.ws x.cs x.n x.m
theorem IsRules.same {H H':Hp} {c:RCl RK} {p L:Addr} {rs:List Addr} {rows:List RR} (x:IsRules H c p L rs rows) (s:Same H H'):IsRules H' c p L rs rows:=
 ⟨s _ _ x.top,x.len,fun i r y h1 h2=>(x.at_ i r y h1 h2).same s⟩
theorem IsRule.lst {H:Hp} {c:RCl RK} {k:RK} {r p a:Addr} {ws:List (List Nat)} {cs:List Int} {n m:Int} {xs:List V} {o:HO} (x:IsRule H c k r p ws cs n m) (ha:H a=some (.lst xs)):IsRule (upd H a o) c k r p ws cs n m:=by
 obtain ⟨dx,W,C,h1,h2,h3⟩:=x.ex
 refine ⟨x.ok,dx,W,C,?_,?_,?_⟩
 · rw [aq (fun e=>by rw [e,ha] at h1; cases h1)]; exact h1
 · rw [aq (fun e=>by rw [e,ha] at h2; cases h2)]; exact h2
 · rw [aq (fun e=>by rw [e,ha] at h3; cases h3)]; exact h3
def pFs (p L G:Addr):List (Str × V):=[("floor",.ref p),("laws",.ref L),("given",.ref G)]
structure j4 (c:RCl RK) (h w g:Int) (rows:List RR):Prop where
 F:FlOk h w g
 n:rows.length≤12
 ok:∀ r∈rows,r.Ok h w g
 c:∀ r∈rows,c.ok r.k=true
structure CluesOk (h w g:Int) (cl:List Int):Prop where
 len:cl.length=(h*w).toNat
 ok:∀ x∈cl,0≤x∧x≤g
structure IsPz (H:Hp) (c:RCl RK) (d:RCl PzK) (P L G:Addr) (h w g:Int) (rows:List RR) (cl:List Int):Prop where
 ok:d.ok .Puzzle=true
 R:j4 c h w g rows
 C:CluesOk h w g cl
 gv:H G=some (.lst (cl.map V.int))
 ex:∃ dx p rs,H P=some (.ins (d.A .Puzzle) dx (pFs p L G))∧IsFl H p h w g∧IsRules H c p L rs rows
theorem IsPz.same {H H':Hp} {c:RCl RK} {d:RCl PzK} {P L G:Addr} {h w g:Int} {rows:List RR} {cl:List Int} (x:IsPz H c d P L G h w g rows cl) (s:Same H H'):IsPz H' c d P L G h w g rows cl:=by
 obtain ⟨dx,p,rs,h1,h2,h3⟩:=x.ex
 exact ⟨x.ok,x.R,x.C,s _ _ x.gv,dx,p,rs,s _ _ h1,s _ _ h2,h3.same s⟩
def aT (K:PySem.W.Frag):Sp:=fun vs H Q _=>∃ i m:Int,vs=[.int i,.int m]∧Q (.bl (decide (1≤i)&&decide (i≤m))) H
theorem lV {K:PySem.W.Frag} {vs:List V} {H:Hp} {Q:VK} {E:XK} (h:aT K vs H Q E):vs.length=2:=by
 obtain ⟨_,_,rfl,_⟩:=h; rfl
def dH (K:PySem.W.Frag):Sp:=fun vs H Q _=>∃ h w g:Int,vs=[.int h,.int w,.int g]∧FlOk h w g∧∀ p,H p=none→Q (.ref p) (upd H p (.tup [.int h,.int w,.int g]))
theorem rq {K:PySem.W.Frag} {vs:List V} {H:Hp} {Q:VK} {E:XK} (h:dH K vs H Q E):vs.length=3:=by
 obtain ⟨_,_,_,rfl,_⟩:=h; rfl
def im (K:PySem.W.Frag):TS:=
 (tSeq (tIfS (tNot (tB (tCall (aT K) [] E0 (tCons (tVar 0) (tCons (tC (.int 6)) tNil))))) cu tNext)
  (tSeq (tIfS (tNot (tB (tCall (aT K) [] E0 (tCons (tVar 1) (tCons (tC (.int 6)) tNil))))) cu tNext)
  (tSeq (tIfS (tTest (tOp (cCmp fun i j=>decide (j < i)) (tOp cMul (tVar 0) (tVar 1)) (tC (.int 16)))) cu tNext)
  (tSeq (tIfS (tNot (tB (tCall (aT K) [] E0 (tCons (tVar 2) (tCons (tC (.int 6)) tNil))))) cu tNext)
  (tRet (tTup (tCons (tVar 0) (tCons (tVar 1) (tCons (tVar 2) tNil)))))))))
theorem rz {K:PySem.W.Frag} {vs:List V} {H:Hp} {Q:VK} {E:XK} (h:dH K vs H Q E):im K { nx:=fun _ H'=>Q .non H',rt:=Q } (start ["high","wide","signs"] vs) H:=by
 obtain ⟨h,w,g,rfl,F,q⟩:=h
 obtain ⟨h0,h1,w0,w1,m16,g0,g1⟩:=id F
 show im K _ [some (.int h),some (.int w),some (.int g)] H
 unfold im
 rw [aH,aD]
 walk_at "w"
 refine ⟨h,6,rfl,⟨_,rfl,?_⟩⟩
 rw [decide_eq_true h0,decide_eq_true h1,Bool.and_self]
 refine iteF ?_
 rw [aD]
 walk_at "w"
 refine ⟨w,6,rfl,⟨_,rfl,?_⟩⟩
 rw [decide_eq_true w0,decide_eq_true w1,Bool.and_self]
 refine iteF ?_
 rw [aD]
 walk_at "w"
 refine ⟨fJ h0 h1,?_⟩
 rw [decide_eq_false (show ¬ (16:Int) < h*w by omega)]
 refine iteF ?_
 rw [aD]
 walk_at "w"
 refine ⟨g,6,rfl,⟨_,rfl,?_⟩⟩
 rw [decide_eq_true g0,decide_eq_true g1,Bool.and_self]
 refine iteF ?_
 walk_at "w"
 exact ⟨aB (by show (3:Nat)≤1000; decide),q⟩
def bU (K:PySem.W.Frag):Sp:=fun vs H Q _=>∃ (p:Addr) (h w g:Int),vs=[.ref p]∧IsFl H p h w g∧FlOk h w g∧∀ p,H p=none→Q (.ref p) (upd H p (.tup [.int h,.int w,.int g]))
theorem mH {K:PySem.W.Frag} {vs:List V} {H:Hp} {Q:VK} {E:XK} (h:bU K vs H Q E):vs.length=1:=by
 obtain ⟨_,_,_,_,rfl,_⟩:=h; rfl
def dn (K:PySem.W.Frag):TS:=
 (tSeq (tIfS (tOr (tNot (tB (tCB kIsi (tCons (tVar 0) (tCons (tC (.ty "tuple")) tNil))))) (tTest (tOp (cNe K) (tCB kLen (tCons (tVar 0) tNil)) (tC (.int 3))))) cu tNext)
  (tRet (tCall (dH K) [] E0 (tCons (tOp cIx (tVar 0) (tC (.int 0))) (tCons (tOp cIx (tVar 0) (tC (.int 1))) (tCons (tOp cIx (tVar 0) (tC (.int 2))) tNil))))))
theorem mI {K:PySem.W.Frag} {vs:List V} {H:Hp} {Q:VK} {E:XK} (h:bU K vs H Q E):dn K { nx:=fun _ H'=>Q .non H',rt:=Q } (start ["floor"] vs) H:=by
 obtain ⟨p,h,w,g,rfl,hp,F,q⟩:=h
 show dn K _ [some (.ref p)] H
 unfold dn
 rw [aH,aD]
 walk_at "w"
 refine nr hp ?_
 walk_at "w"
 rw [nh hp,show (([V.int h,V.int w,V.int g]:List V).length:Int)=3 from rfl]
 walk_at "w"
 refine ixT hp (v:=V.int h) rfl ?_
 walk_at "w"
 refine ixT hp (v:=V.int w) rfl ?_
 walk_at "w"
 refine ixT hp (v:=V.int g) rfl ?_
 walk_at "w"
 exact ⟨h,w,g,rfl,F,q⟩
def cB (K:PySem.W.Frag) (c:RCl RK):Sp:=fun vs H Q _=>∃ (p a:Addr) (h w g:Int) (rows:List RR),vs=[.ref p,.ref a]∧IsFl H p h w g∧H a=some (.lst ((rows.map RR.txt).map V.str))∧j4 c h w g rows∧
 ∀ l rs H',Same H H'→H l=none→IsRules H' c p l rs rows→Q (.ref l) H'
theorem pD {K:PySem.W.Frag} {c:RCl RK} {vs:List V} {H:Hp} {Q:VK} {E:XK} (h:cB K c vs H Q E):vs.length=2:=by
 obtain ⟨_,_,_,_,_,_,rfl,_⟩:=h; rfl
def fC (K:PySem.W.Frag) (c:RCl RK):TS:=
 (tSeq (tIfS (tTest (tOp (cCmp fun i j=>decide (j < i)) (tCB kLen (tCons (tVar 1) tNil)) (tC (.int 12)))) cu tNext)
  (tRet (tComp [none,none,some 0] (iList K (tVar 1)) (gName 1) tTrue (tCall (c6 K c) [] E0 (tCons (tVar 2) (tCons (tVar 1) tNil))))))
theorem pE {K:PySem.W.Frag} {c:RCl RK} {vs:List V} {H:Hp} {Q:VK} {E:XK} (h:cB K c vs H Q E):fC K c { nx:=fun _ H'=>Q .non H',rt:=Q } (start ["floor","lines"] vs) H:=by
 obtain ⟨p,a,h,w,g,rows,rfl,hp,ha,O,q⟩:=h
 have hn:=O.n
 show fC K c _ [some (.ref p),some (.ref a)] H
 unfold fC
 rw [aH,aD]
 walk_at "w"
 rw [cF ha,List.length_map,List.length_map]
 walk_at "w"
 rw [decide_eq_false (show ¬ (12:Int) < (rows.length:Nat) by omega)]
 refine iteF ?_
 walk_at "w"
 refine ⟨⟨_,SqL.of ha⟩,?_⟩
 refine o6 (xs:=(rows.map RR.txt).map V.str) (fun l i σ H'=>(∃ cv,σ=[none,cv,some (.ref p)])∧Same H H'∧∃ rs:List Addr,H' l=some (.lst (rs.map V.ref))∧rs.length=i∧∀ (j:Nat) (r:Addr) (x:RR),rs[j]? =some r→rows[j]? =some x→IsRule H' c x.k r p x.ws x.cs x.n x.m)
  (fun l hl=>⟨⟨none,rfl⟩,(Same.refl H).laid hl,[],by rw [ag]; rfl,rfl,fun j r x e=>by simp at e⟩) (fun l i σ H' _ _ x=>x.2.1.seq (SqL.of ha)) ?_ ?_
 · rintro l i x σ H1 hl hx ⟨⟨cv,rfl⟩,s1,rs,el,hlen,hat⟩
   rw [List.getElem?_map,List.getElem?_map] at hx
   cases e:rows[i]? with
   | none=>rw [e] at hx; cases hx
   | some y=>
    rw [e] at hx
    cases hx
    have hi:=(List.getElem?_eq_some_iff.mp e).1
    have hm:=List.mem_of_getElem? e
    rw [b7]
    show tTrue [none,some (.str y.txt),some (.ref p)] H1 _
    walk_at "w"
    refine ⟨y.k,p,h,w,g,y.n,y.m,y.ns,y.cs,rfl,s1 _ _ hp,O.F,O.ok y hm,O.c y hm,fun r H2 s2 hr xr=>?_⟩
    have nrl:r≠l:=fun z=>by rw [z,el] at hr; cases hr
    refine ⟨_,s2 _ _ el,by rw [List.length_map]; exact aJ (by omega),⟨_,rfl⟩,(s1.trans s2).own hl,rs++[r],by rw [ag]; simp,by simp [hlen],fun j r' x' h1 h2=>?_⟩
    by_cases hj:j < rs.length
    · rw [List.getElem?_append_left hj] at h1
      exact ((hat j r' x' h1 h2).same s2).lst (s2 _ _ el)
    · rw [List.getElem?_append_right (by omega)] at h1
      have hj0:j - rs.length=0:=by
       have:=(List.getElem?_eq_some_iff.mp h1).1
       simp at this
       omega
      rw [hj0] at h1
      have:j=i:=by omega
      subst this
      rw [e] at h2
      simp at h1
      cases h2
      subst h1
      exact xr.lst (s2 _ _ el)
 · rintro l σ H1 hl ⟨_,s1,rs,el,hlen,hat⟩
   exact q l rs H1 s1 hl ⟨el,by rw [hlen]; simp,hat⟩
def filB (least g:Int) (n:Nat) (xs:List Int):Bool:=decide (xs.length=n)&&xs.all fun x=>decide (least≤x)&&decide (x≤g)
def cC (K:PySem.W.Frag):Sp:=fun vs H Q _=>∃ (p a:Addr) (h w g least:Int) (xs:List Int),vs=[.ref p,.ref a,.int least]∧IsFl H p h w g∧FlOk h w g∧H a=some (.lst (xs.map V.int))∧xs.length≤100∧∀ H',Same H H'→Q (.bl (filB least g (h*w).toNat xs)) H'
theorem pF {K:PySem.W.Frag} {vs:List V} {H:Hp} {Q:VK} {E:XK} (h:cC K vs H Q E):vs.length=3:=by
 obtain ⟨_,_,_,_,_,_,_,rfl,_⟩:=h; rfl
def bV (K:PySem.W.Frag):Sp:=fun vs H Q _=>∃ (p a:Addr) (h w g:Int) (xs:List Int),vs=[.ref p,.ref a]∧IsFl H p h w g∧FlOk h w g∧H a=some (.lst (xs.map V.int))∧CluesOk h w g xs∧∀ l H',Same H H'→H l=none→H' l=some (.lst (xs.map V.int))→Q (.ref l) H'
theorem mJ {K:PySem.W.Frag} {vs:List V} {H:Hp} {Q:VK} {E:XK} (h:bV K vs H Q E):vs.length=2:=by
 obtain ⟨_,_,_,_,_,_,rfl,_⟩:=h; rfl
def dq (K:PySem.W.Frag):TS:=
 (tSeq (tIfS (tNot (tB (tCall (cC K) [] E0 (tCons (tVar 0) (tCons (tVar 1) (tCons (tC (.int 0)) tNil)))))) cu tNext)
  (tRet (tCB kList (tCons (tVar 1) tNil))))
theorem CluesOk.fil {h w g:Int} {xs:List Int} (C:CluesOk h w g xs):filB 0 g (h*w).toNat xs=true:=by
 unfold filB
 rw [decide_eq_true C.len,Bool.true_and,List.all_eq_true]
 intro x hx
 have:=C.ok x hx
 simp [this.1,this.2]
theorem mK {K:PySem.W.Frag} {vs:List V} {H:Hp} {Q:VK} {E:XK} (h:bV K vs H Q E):dq K { nx:=fun _ H'=>Q .non H',rt:=Q } (start ["floor","clues"] vs) H:=by
 obtain ⟨p,a,h,w,g,xs,rfl,hp,F,ha,C,q⟩:=h
 obtain ⟨h0,h1,w0,w1,m16,g0,g1⟩:=id F
 show dq K _ [some (.ref p),some (.ref a)] H
 unfold dq
 rw [aH,aD]
 walk_at "w"
 refine ⟨p,a,h,w,g,0,xs,rfl,hp,F,ha,by have:=C.len; omega,fun H1 s1=>?_⟩
 rw [C.fil]
 refine ⟨true,rfl,iteF ?_⟩
 walk_at "w"
 refine qe (s1 _ _ ha) fun l hl=>?_
 exact q l _ (s1.laid hl) (s1.free hl) ag
theorem IsRule.ins {H:Hp} {c:RCl RK} {k:RK} {r p a:Addr} {ws:List (List Nat)} {cs:List Int} {n m:Int} {C dx:Addr} {fs:List (Str × V)} {o:HO} (x:IsRule H c k r p ws cs n m) (ha:H a=some (.ins C dx fs)) (hf:fs.length≠5):IsRule (upd H a o) c k r p ws cs n m:=by
 obtain ⟨dx',W,C',h1,h2,h3⟩:=x.ex
 refine ⟨x.ok,dx',W,C',?_,?_,?_⟩
 · rw [aq (fun e=>by rw [e,ha] at h1; cases h1; exact hf rfl)]; exact h1
 · rw [aq (fun e=>by rw [e,ha] at h2; cases h2)]; exact h2
 · rw [aq (fun e=>by rw [e,ha] at h3; cases h3)]; exact h3
theorem IsRules.ins {H:Hp} {c:RCl RK} {p L a:Addr} {rs:List Addr} {rows:List RR} {C dx:Addr} {fs:List (Str × V)} {o:HO} (x:IsRules H c p L rs rows) (ha:H a=some (.ins C dx fs)) (hf:fs.length≠5):IsRules (upd H a o) c p L rs rows:=
 ⟨by rw [aq (fun e=>by have:=x.top; rw [e,ha] at this; cases this)]; exact x.top,x.len,fun i r y h1 h2=>(x.at_ i r y h1 h2).ins ha hf⟩
def aX (K:PySem.W.Frag) (c:RCl RK) (d:RCl PzK):Sp:=fun vs H Q _=>∃ (x dx p a b:Addr) (h w g:Int) (rows:List RR) (cl:List Int),vs=[.ref x,.ref p,.ref a,.ref b]∧d.ok .Puzzle=true∧H x=some (.ins (d.A .Puzzle) dx [])∧IsFl H p h w g∧H a=some (.lst ((rows.map RR.txt).map V.str))∧H b=some (.lst (cl.map V.int))∧j4 c h w g rows∧CluesOk h w g cl∧
 ∀ L G H',(∀ y o,y≠x→H y=some o→H' y=some o)→H L=none→H G=none→IsPz H' c d x L G h w g rows cl→Q .non H'
theorem lb {K:PySem.W.Frag} {c:RCl RK} {d:RCl PzK} {vs:List V} {H:Hp} {Q:VK} {E:XK} (h:aX K c d vs H Q E):vs.length=4:=by
 obtain ⟨_,_,_,_,_,_,_,_,_,_,rfl,_⟩:=h; rfl
def cJ (K:PySem.W.Frag) (c:RCl RK) (d:RCl PzK):TS:=
 (tSeq (sFldK d (tVar 0) (tCall (bU K) [] E0 (tCons (tVar 1) tNil)) "floor")
  (tSeq (sFldK d (tVar 0) (tCall (cB K c) [] E0 (tCons (tFldK d (tVar 0) "floor") (tCons (tVar 2) tNil))) "laws")
  (sFldK d (tVar 0) (tCall (bV K) [] E0 (tCons (tFldK d (tVar 0) "floor") (tCons (tVar 3) tNil))) "given")))
theorem lc {K:PySem.W.Frag} {c:RCl RK} {d:RCl PzK} {vs:List V} {H:Hp} {Q:VK} {E:XK} (h:aX K c d vs H Q E):cJ K c d { nx:=fun _ H'=>Q .non H',rt:=Q } (start ["self","floor","lines","clues"] vs) H:=by
 obtain ⟨x,dx,p,a,b,h,w,g,rows,cl,rfl,ok,hx,hp,ha,hb,R,C,q⟩:=h
 show cJ K c d _ [some (.ref x),some (.ref p),some (.ref a),some (.ref b)] H
 unfold cJ sFldK
 walk_at "w"
 refine ⟨p,h,w,g,rfl,hp,R.F,fun p1 hp1=>?_⟩
 have nxp:x≠p1:=aE hx hp1
 refine ⟨x,.Puzzle,dx,[],rfl,ok,by rw [aq nxp]; exact hx,by show (0:Nat) < 1000; decide,?_⟩
 have f1:∀ y o,y≠x→H y=some o→(upd (upd H p1 (.tup [.int h,.int w,.int g])) x (.ins (d.A .Puzzle) dx (putF "floor" (.ref p1) []))) y=some o:=fun y o ny e=>by
  rw [aq ny,aq (aE e hp1)]; exact e
 have hx1:(upd (upd H p1 (.tup [.int h,.int w,.int g])) x (.ins (d.A .Puzzle) dx (putF "floor" (.ref p1) []))) x=some (.ins (d.A .Puzzle) dx [("floor",.ref p1)]):=ag
 have hp1':IsFl (upd (upd H p1 (.tup [.int h,.int w,.int g])) x (.ins (d.A .Puzzle) dx (putF "floor" (.ref p1) []))) p1 h w g:=by
  show (upd (upd H p1 (.tup [.int h,.int w,.int g])) x _) p1=_
  rw [aq nxp.symm,ag]
 have fr1:∀ l,(upd (upd H p1 (.tup [.int h,.int w,.int g])) x (.ins (d.A .Puzzle) dx (putF "floor" (.ref p1) []))) l=none→H l=none:=fun l e=>by
  have n1:l≠x:=fun z=>by rw [z,ag] at e; cases e
  rw [aq n1] at e
  have n2:l≠p1:=fun z=>by rw [z,ag] at e; cases e
  rw [aq n2] at e
  exact e
 have nax:a≠x:=fun z=>by rw [z,hx] at ha; cases ha
 have nbx:b≠x:=fun z=>by rw [z,hx] at hb; cases hb
 generalize upd (upd H p1 (.tup [.int h,.int w,.int g])) x (.ins (d.A .Puzzle) dx (putF "floor" (.ref p1) []))=H1 at*
 refine fldE (c:=d) (k:=.Puzzle) rfl ok hx1 (v:=.ref p1) (by rfl) ?_
 walk_at "w"
 refine ⟨p1,a,h,w,g,rows,rfl,hp1',f1 a _ nax ha,R,fun L rs H2 s2 hL X=>?_⟩
 refine ⟨x,.Puzzle,dx,_,rfl,ok,s2 _ _ hx1,by show (1:Nat) < 1000; decide,?_⟩
 have nxL:L≠x:=fun z=>by rw [z,hx1] at hL; cases hL
 have X3:=X.ins (o:=.ins (d.A .Puzzle) dx (putF "laws" (.ref L) [("floor",.ref p1)])) (s2 _ _ hx1) (by show (1:Nat)≠5; decide)
 have f2:∀ y o,y≠x→H y=some o→(upd H2 x (.ins (d.A .Puzzle) dx (putF "laws" (.ref L) [("floor",.ref p1)]))) y=some o:=fun y o ny e=>by
  rw [aq ny]; exact s2 _ _ (f1 y o ny e)
 have hx3:(upd H2 x (.ins (d.A .Puzzle) dx (putF "laws" (.ref L) [("floor",.ref p1)]))) x=some (.ins (d.A .Puzzle) dx [("floor",.ref p1),("laws",.ref L)]):=ag
 have hp3:IsFl (upd H2 x (.ins (d.A .Puzzle) dx (putF "laws" (.ref L) [("floor",.ref p1)]))) p1 h w g:=by
  show (upd H2 x _) p1=_
  rw [aq nxp.symm]; exact s2 _ _ hp1'
 have fr3:∀ l,(upd H2 x (.ins (d.A .Puzzle) dx (putF "laws" (.ref L) [("floor",.ref p1)]))) l=none→H1 l=none:=fun l e=>by
  have n1:l≠x:=fun z=>by rw [z,ag] at e; cases e
  rw [aq n1] at e
  exact s2.free e
 generalize upd H2 x (.ins (d.A .Puzzle) dx (putF "laws" (.ref L) [("floor",.ref p1)]))=H3 at*
 refine fldE (c:=d) (k:=.Puzzle) rfl ok hx3 (v:=.ref p1) (by rfl) ?_
 walk_at "w"
 refine ⟨p1,b,h,w,g,cl,rfl,hp3,R.F,f2 b _ nbx hb,C,fun G H4 s4 hG eG=>?_⟩
 refine ⟨x,.Puzzle,dx,_,rfl,ok,s4 _ _ hx3,by show (2:Nat) < 1000; decide,?_⟩
 have nxG:G≠x:=fun z=>by rw [z,hx3] at hG; cases hG
 refine q L G _ (fun y o ny e=>?_) (fr1 L hL) (fr1 G (fr3 G hG)) ⟨ok,R,C,?_,dx,p1,rs,?_,?_,?_⟩
 · rw [aq ny]; exact s4 _ _ (f2 y o ny e)
 · rw [aq nxG]; exact eG
 · rw [ag]; rfl
 · show (upd H4 x _) p1=_
   rw [aq nxp.symm]; exact s4 _ _ hp3
 · exact (X3.same s4).ins (s4 _ _ hx3) (by show (2:Nat)≠5; decide)
theorem xU {K:PySem.W.Frag} {c:RCl RK} {d:RCl PzK} {H:Hp} {Z:Addr→Hp→Prop} {p a b:Addr} {h w g:Int} {rows:List RR} {cl:List Int} (ok:d.ok .Puzzle=true) (hp:IsFl H p h w g) (ha:H a=some (.lst ((rows.map RR.txt).map V.str))) (hb:H b=some (.lst (cl.map V.int))) (R:j4 c h w g rows) (C:CluesOk h w g cl)
  (q:∀ P L G H',Same H H'→H P=none→H L=none→H G=none→IsPz H' c d P L G h w g rows cl→Z P H'):
  ∀ x dx,H x=none→H dx=none→dx≠x→aX K c d (.ref x::([.ref p,.ref a,.ref b]++[])) (upd (upd H dx (.own x)) x (.ins (d.A .Puzzle) dx [])) (fun v H2=>v=.non∧Z x H2) E0:=by
 intro x dx hx hd ne
 have k:∀ y o,H y=some o→(upd (upd H dx (.own x)) x (.ins (d.A .Puzzle) dx [])) y=some o:=fun y o e=>by rw [aq (aE e hx),aq (aE e hd)]; exact e
 have fr:∀ y,(upd (upd H dx (.own x)) x (.ins (d.A .Puzzle) dx [])) y=none→H y=none:=fun y e=>by
  have n1:y≠x:=fun z=>by rw [z,ag] at e; cases e
  rw [aq n1] at e
  have n2:y≠dx:=fun z=>by rw [z,ag] at e; cases e
  rw [aq n2] at e
  exact e
 exact ⟨x,dx,p,a,b,h,w,g,rows,cl,rfl,ok,ag,k _ _ hp,k _ _ ha,k _ _ hb,R,C,fun L G H' hs hL hG X=>⟨rfl,q x L G H' (fun y o e=>hs y o (aE e hx) (k _ _ e)) hx (fr L hL) (fr G hG) X⟩⟩
def eD (K:PySem.W.Frag) (c:RCl RK) (d:RCl PzK) (_:PzK):Sp:=fun vs H Q _=>∃ (P L G:Addr) (h w g:Int) (rows:List RR) (cl:List Int),vs=[.ref P]∧IsPz H c d P L G h w g rows cl∧∀ p,IsFl H p h w g→Q (.ref p) H
def dU (K:PySem.W.Frag) (c:RCl RK) (d:RCl PzK):Sp:=eD K c d .Puzzle
theorem nH {K:PySem.W.Frag} {c:RCl RK} {d:RCl PzK} {vs:List V} {H:Hp} {Q:VK} {E:XK} (h:dU K c d vs H Q E):vs.length=1:=by
 obtain ⟨_,_,_,_,_,_,_,_,rfl,_⟩:=h; rfl
def dW (K:PySem.W.Frag) (c:RCl RK) (d:RCl PzK):TS:=
 (tRet (tFldK d (tVar 0) "floor"))
theorem nI {K:PySem.W.Frag} {c:RCl RK} {d:RCl PzK} {vs:List V} {H:Hp} {Q:VK} {E:XK} (h:dU K c d vs H Q E):dW K c d { nx:=fun _ H'=>Q .non H',rt:=Q } (start ["self"] vs) H:=by
 obtain ⟨P,L,G,h,w,g,rows,cl,rfl,x,q⟩:=h
 obtain ⟨dx,p,rs,h1,h2,h3⟩:=x.ex
 show dW K c d _ [some (.ref P)] H
 unfold dW
 walk_at "w"
 exact fldE (k:=.Puzzle) rfl x.ok h1 (v:=.ref p) (by rfl) (q p h2)
def km (K:PySem.W.Frag) (c:RCl RK) (d:RCl PzK) (_:PzK):Sp:=fun vs H Q _=>∃ (P L G:Addr) (h w g:Int) (rows:List RR) (cl:List Int),vs=[.ref P]∧IsPz H c d P L G h w g rows cl∧∀ l,H l=none→Q (.ref l) (upd H l (.lst (cl.map V.int)))
def dX (K:PySem.W.Frag) (c:RCl RK) (d:RCl PzK):Sp:=km K c d .Puzzle
theorem nJ {K:PySem.W.Frag} {c:RCl RK} {d:RCl PzK} {vs:List V} {H:Hp} {Q:VK} {E:XK} (h:dX K c d vs H Q E):vs.length=1:=by
 obtain ⟨_,_,_,_,_,_,_,_,rfl,_⟩:=h; rfl
def dY (K:PySem.W.Frag) (c:RCl RK) (d:RCl PzK):TS:=
 (tRet (tCB kList (tCons (tFldK d (tVar 0) "given") tNil)))
theorem nK {K:PySem.W.Frag} {c:RCl RK} {d:RCl PzK} {vs:List V} {H:Hp} {Q:VK} {E:XK} (h:dX K c d vs H Q E):dY K c d { nx:=fun _ H'=>Q .non H',rt:=Q } (start ["self"] vs) H:=by
 obtain ⟨P,L,G,h,w,g,rows,cl,rfl,x,q⟩:=h
 obtain ⟨dx,p,rs,h1,h2,h3⟩:=x.ex
 show dY K c d _ [some (.ref P)] H
 unfold dY
 walk_at "w"
 refine fldE (k:=.Puzzle) rfl x.ok h1 (v:=.ref G) (by rfl) ?_
 walk_at "w"
 exact qe x.gv q
def eE (K:PySem.W.Frag) (c:RCl RK) (d:RCl PzK) (_:PzK):Sp:=fun vs H Q _=>∃ (P L G:Addr) (h w g:Int) (rows:List RR) (cl:List Int),vs=[.ref P]∧IsPz H c d P L G h w g rows cl∧∀ l p rs,H l=none→IsFl (upd H l (.lst (rs.map V.ref))) p h w g→IsRules (upd H l (.lst (rs.map V.ref))) c p l rs rows→Q (.ref l) (upd H l (.lst (rs.map V.ref)))
def dZ (K:PySem.W.Frag) (c:RCl RK) (d:RCl PzK):Sp:=eE K c d .Puzzle
theorem nL {K:PySem.W.Frag} {c:RCl RK} {d:RCl PzK} {vs:List V} {H:Hp} {Q:VK} {E:XK} (h:dZ K c d vs H Q E):vs.length=1:=by
 obtain ⟨_,_,_,_,_,_,_,_,rfl,_⟩:=h; rfl
def d2 (K:PySem.W.Frag) (c:RCl RK) (d:RCl PzK):TS:=
 (tRet (tCB kList (tCons (tFldK d (tVar 0) "laws") tNil)))
theorem nO {K:PySem.W.Frag} {c:RCl RK} {d:RCl PzK} {vs:List V} {H:Hp} {Q:VK} {E:XK} (h:dZ K c d vs H Q E):d2 K c d { nx:=fun _ H'=>Q .non H',rt:=Q } (start ["self"] vs) H:=by
 obtain ⟨P,L,G,h,w,g,rows,cl,rfl,x,q⟩:=h
 obtain ⟨dx,p,rs,h1,h2,h3⟩:=x.ex
 show d2 K c d _ [some (.ref P)] H
 unfold d2
 walk_at "w"
 refine fldE (k:=.Puzzle) rfl x.ok h1 (v:=.ref L) (by rfl) ?_
 walk_at "w"
 refine qe h3.top fun l hl=>?_
 have s1:Same H (upd H l (.lst (rs.map V.ref))):=(Same.refl H).laid hl
 exact q l p rs hl (s1 _ _ h2) ⟨ag,h3.len,fun i r y e1 e2=>(h3.at_ i r y e1 e2).same s1⟩
end L2
namespace L2
open PySem PySem.Spec PyProof.Rows
inductive DRows (w:World) (K:PySem.W.Frag):List DictEntry→List (Str × List Str)→Prop
 | nil:DRows w K [] []
 | cons {hsh:Int} {k:Str} {t:Tok} {q:Addr} {o:Obj} {its:Array Value} {n:Nat} {ws:List Str} {es:List DictEntry} {D:List (Str × List Str)}:hsh=hashStr w k→K.lookup q=some o→o.cls=.type "tuple"→o.data=.seq its n→its.size≤sizeLine→Vals (ws.map V.str) its.toList→DRows w K es D→DRows w K (⟨hsh,.str k t,.ref q⟩::es) ((k,ws)::D)
structure GDict (w:World) (K:PySem.W.Frag) (mg:Str→Option Value) (x:Str) (D:List (Str × List Str)):Prop where
 ex:∃ (p:Addr) (o:Obj) (es:Array DictEntry) (ep:Nat),mg x=some (.ref p)∧K.lookup p=some o∧o.ExactDict∧o.data=.dict es ep∧DRows w K es.toList D∧(D.map fun x=>x.1).Nodup
theorem DRows.of {P:Program} {w:World} {K:PySem.W.Frag} {es:List DictEntry} {D:List (Str × List Str)} (h:DRows w K es D):
  ∃ kvs:List (Str × Value),Pairs (strKind P w) es kvs∧kvs.map (fun x=>x.1)=D.map (fun x=>x.1)∧(∀ e∈es,∃ k,(strKind P w).is k e.key=true∧e.hash=(strKind P w).hash k)∧
   ∀ k ws,D.lookup k=some ws→∃ q,valueAt kvs k=some (.ref q)∧∃ (o:Obj) (its:Array Value) (n:Nat),K.lookup q=some o∧o.cls=.type "tuple"∧o.data=.seq its n∧its.size≤sizeLine∧Vals (ws.map V.str) its.toList:=by
 induction h with
 | nil=>exact ⟨[],.nil,rfl,fun e he=>(by cases he),fun k ws e=>(by cases e)⟩
 | @cons hsh k t q o its n ws es D h1 h2 h3 h4 h5 h6 _ ih=>
  obtain ⟨kvs,p1,p2,p3,p4⟩:=ih
  have hk:(strKind P w).is k (.str k t)=true:=by show (k==k)=true; simp
  refine ⟨(k,.ref q)::kvs,.cons hk rfl p1,by rw [List.map_cons,List.map_cons,p2],fun e he=>?_,fun k' ws' e=>?_⟩
  · rcases List.mem_cons.mp he with rfl | he
    · exact ⟨k,hk,h1⟩
    · exact p3 e he
  · rw [List.lookup_cons] at e
    unfold valueAt
    rw [List.find?_cons]
    by_cases hkk:k'=k
    · subst hkk
      simp at e
      subst e
      refine ⟨q,by simp,o,its,n,h2,h3,h4,h5,h6⟩
    · have hb:(k'==k)=false:=by simpa using hkk
      rw [hb] at e
      have hd:decide (k=k')=false:=decide_eq_false (fun z=>hkk z.symm)
      dsimp only
      rw [hd]
      exact p4 k' ws' e
def tIxG (K:PySem.W.Frag) (D:List (Str × List Str)) (te:TE):TE:=fun σ H Q=>te σ H fun y H1=>∃ k ws,y=.str k∧D.lookup k=some ws∧∀ q,SqT K H1 q (ws.map V.str)→Q (.ref q) H1
def rInS (K:PySem.W.Frag):R2:=fun x y H Q=>∃ (z:Str) (q:Addr) (ws:List Str),x=.str z∧y=.ref q∧SqT K H q (ws.map V.str)∧Q (.bl (decide (z∈ws))) H
section
variable {X:Cx} {a b:Expr} {ta tb:TE} {pos p:Pos} {x:Str} {D:List (Str × List Str)}
theorem xV (G:GDict X.w X.K X.mg x D) (hb:PE X b tb) (hg:Gl X x) (hpi:rV b) (hdb:(x==("__debug__":Str))=false:=by decide):PE X (.Subscript (.Name x p) b pos) (tIxG X.K D tb):=by
 obtain ⟨pd,o,es,ep,h1,h2,h3,h4,h5,h6⟩:=G.ex
 obtain ⟨kvs,p1,p2,p3,p4⟩:=h5.of (P:=X.prog)
 have ir:IxR X (fun x y H Q=>x=.ref pd∧∃ k ws,y=.str k∧D.lookup k=some ws∧∀ q,SqT X.K H q (ws.map V.str)→Q (.ref q) H):=by
  intro value slice pins s σ H x y v u Q I rx ry h hs
  obtain ⟨rfl,k,ws,rfl,hl,q⟩:=h
  cases (show v=Value.ref pd from rx)
  have hget:s.heap.get? pd=some o:=I.kIn pd o h2
  have dd:Heap.DictOf (strKind X.prog X.w) s.heap pd kvs:=⟨o,es,ep,hget,h3,h4,fun e he=>p3 e (Array.mem_toList_iff.mpr he),p1,by rw [p2]; exact h6⟩
  obtain ⟨qa,hv,o2,its,n,g1,g2,g3,g4,g5⟩:=p4 k ws hl
  obtain ⟨t,rfl⟩:∃ t,u=Value.str k t:=ry
  have hk:(strKind X.prog X.w).is k (.str k t)=true:=by show (k==k)=true; simp
  refine tail_any dd.typeIs PySem.F.slot_dict_getitem.lookup (wpAny_getItem_of hk dd.mapOf hv ?_) hs
  exact ⟨.ref qa,H,I.tok _,rfl,q qa (.inr ⟨o2,its,n,g1,g2,g3,g4,g5⟩)⟩
 have h0:=ai (pos:=pos) ir (cU (pos:=p) (v:=V.ref pd) hg h1 rfl hdb) hb hpi
 intro pins s σ H Q I h
 refine h0 pins s σ H Q I ?_
 have e:(fun (y:V) (H1:Hp)=>∃ k ws,y=.str k∧D.lookup k=some ws∧∀ q,SqT X.K H1 q (ws.map V.str)→Q (.ref q) H1)=fun y H1=>(V.ref pd=V.ref pd)∧∃ k ws,y=.str k∧D.lookup k=some ws∧∀ q,SqT X.K H1 q (ws.map V.str)→Q (.ref q) H1:=by
  funext y H1; simp
 have h':tb σ H (fun (y:V) (H1:Hp)=>∃ k ws,y=.str k∧D.lookup k=some ws∧∀ q,SqT X.K H1 q (ws.map V.str)→Q (.ref q) H1):=h
 rw [e] at h'
 exact h'
theorem xW:OpR X (compareOp .In) (rInS X.K):=by
 intro pins s σ H x y v u Q I rx ry h
 obtain ⟨z,q,ws,rfl,rfl,hq,h⟩:=h
 refine kS pins s σ H _ _ v u Q I rx ry ⟨q,ws.map V.str,rfl,.inr hq,rfl,jx ws,?_⟩
 rw [kl]
 exact h
end
section
variable {K:PySem.W.Frag} {σ:St} {H:Hp} {Q:VK} {te:TE} {D:List (Str × List Str)}
theorem yy:tIxG K D te σ H Q=te σ H fun y H1=>∃ k ws,y=.str k∧D.lookup k=some ws∧∀ q,SqT K H1 q (ws.map V.str)→Q (.ref q) H1:=rfl
end
end L2
namespace L2
open PySem PySem.Spec PyProof.Rows
local macro_rules | `(tactic| walk_at "w")=>`(tactic| (first | simp only [aH,if_true,if_false,Bool.false_eq_true,decide_true,decide_false,i5,i6,lQ,gQ,fK,i3,jY,i4,gP,jW,jX,gO,lN,gR,gS,gU,gW,gX,gY,gT,jZ,j0,j1,jU,lP,Bool.not_true,Bool.not_false,fi,fq,b7,ft,w_c,jb,fW,fX,dA,fY,w_b,w_not,iC,kb,fZ,ga,iD,fu,dB,kc,gb,gc,gd,iz,iE,ge,gf,gh,gi,eK,eL,cX,dh,di,cG,fv,iF,iG,iH,ii,iI,iJ,iK,iL,iM,iN,iO,kf,gj,dj,gk,kg,gl,eP,dk,iP,iQ,gm,fj,gn,
 List.getElem?_cons_zero,List.getElem?_cons_succ,Option.some.injEq,exists_eq_left',exists_eq_left,List.set_cons_zero,List.set_cons_succ,cO,V.int.injEq,V.bl.injEq,V.ref.injEq,V.str.injEq,List.append_nil,List.nil_append,List.cons_append] | dsimp only | skip))
def stB (m s:Int):Bool:=decide (1≤s)&&(decide (s≤((Builtin.Int.intBits m:Nat):Int))&&decide (m / 2^(s - 1).toNat % 2=1))
def bO (K:PySem.W.Frag):Sp:=fun vs H Q _=>∃ m s:Int,vs=[.int m,.int s]∧Q (.bl (stB m s)) H
theorem uO {K:PySem.W.Frag} {vs:List V} {H:Hp} {Q:VK} {E:XK} (h:bO K vs H Q E):vs.length=2:=by
 obtain ⟨_,_,rfl,_⟩:=h; rfl
def jz (K:PySem.W.Frag):TS:=
 (tRet (tAndV (tOp (cCmp fun i j=>decide (i≤j)) (tC (.int 1)) (tVar 1)) (tAndV (tOp (cCmp fun i j=>decide (i≤j)) (tVar 1) (sC K "int" jV (tVar 0))) (tOp (cEq K) (tOp cMod (tOp cShr (tVar 0) (tOp cSub (tVar 1) (tC (.int 1)))) (tC (.int 2))) (tC (.int 1))))))
theorem uP {K:PySem.W.Frag} {vs:List V} {H:Hp} {Q:VK} {E:XK} (h:bO K vs H Q E):jz K { nx:=fun _ H'=>Q .non H',rt:=Q } (start ["mask","sign"] vs) H:=by
 obtain ⟨m,s,rfl,q⟩:=h
 show jz K _ [some (.int m),some (.int s)] H
 unfold jz
 walk_at "w"
 unfold stB at q
 cases h1:decide (1≤s) with
 | false=>rw [h1,Bool.false_and] at q; exact iteF q
 | true=>
  refine iteT ⟨rfl,?_⟩
  walk_at "w"
  rw [h1,Bool.true_and] at q
  cases h2:decide (s≤((Builtin.Int.intBits m:Nat):Int)) with
  | false=>rw [h2,Bool.false_and] at q; exact iteF q
  | true=>
   rw [h2,Bool.true_and] at q
   exact iteT ⟨by have:=of_decide_eq_true h1; omega,by decide,q⟩
def fO (K:PySem.W.Frag):Sp:=fun vs H Q _=>∃ s:Int,vs=[.int s]∧1≤s∧s≤100000∧Q (.int (2^(s - 1).toNat)) H
theorem uQ {K:PySem.W.Frag} {vs:List V} {H:Hp} {Q:VK} {E:XK} (h:fO K vs H Q E):vs.length=1:=by
 obtain ⟨_,rfl,_⟩:=h; rfl
def jA (K:PySem.W.Frag):TS:=
 (tSeq (tAsg (tC (.int 1)) (gName 1))
  (tSeq (tFor (fU (tCons (tOp cSub (tVar 0) (tC (.int 1))) tNil)) (gName 2)
  (tAsg (tOp cMul (tVar 1) (tC (.int 2))) (gName 1)))
  (tRet (tVar 1))))
theorem uR {K:PySem.W.Frag} {vs:List V} {H:Hp} {Q:VK} {E:XK} (h:fO K vs H Q E):jA K { nx:=fun _ H'=>Q .non H',rt:=Q } (start ["sign","bit","step"] vs) H:=by
 obtain ⟨s,rfl,h1,h2,q⟩:=h
 show jA K _ [some (.int s),none,none] H
 unfold jA
 walk_at "w"
 refine ⟨s - 1,rfl,by omega,by omega,?_⟩
 refine oX (fun i σ H'=>∃ sv:Option V,σ=[some (.int s),some (.int (2^i)),sv]∧H'=H) ⟨none,rfl,rfl⟩ ?_ ?_
 · rintro i σ H' hi ⟨sv,rfl,rfl⟩
   walk_at "w"
   refine ⟨.inr ⟨by decide,by decide⟩,?_⟩
   simp [Int.pow_succ]
 · rintro σ H' ⟨sv,rfl,rfl⟩
   walk_at "w"
   exact q
def woI (m s:Int):Int:=if stB m s=true then m - 2^(s - 1).toNat else m
def fb (K:PySem.W.Frag):Sp:=fun vs H Q _=>∃ m s:Int,vs=[.int m,.int s]∧s≤100000∧Q (.int (woI m s)) H
theorem sR {K:PySem.W.Frag} {vs:List V} {H:Hp} {Q:VK} {E:XK} (h:fb K vs H Q E):vs.length=2:=by
 obtain ⟨_,_,rfl,_⟩:=h; rfl
def iV (K:PySem.W.Frag):TS:=
 (tRet (tIf (tB (tCall (bO K) [] E0 (tCons (tVar 0) (tCons (tVar 1) tNil)))) (tOp cSub (tVar 0) (tCall (fO K) [] E0 (tCons (tVar 1) tNil))) (tVar 0)))
theorem sS {K:PySem.W.Frag} {vs:List V} {H:Hp} {Q:VK} {E:XK} (h:fb K vs H Q E):iV K { nx:=fun _ H'=>Q .non H',rt:=Q } (start ["mask","sign"] vs) H:=by
 obtain ⟨m,s,rfl,h2,q⟩:=h
 show iV K _ [some (.int m),some (.int s)] H
 unfold iV
 walk_at "w"
 refine ⟨m,s,rfl,_,rfl,?_⟩
 unfold woI at q
 cases hb:stB m s with
 | false=>
  rw [hb,if_neg Bool.false_ne_true] at q
  exact iteF q
 | true=>
  rw [hb,if_pos rfl] at q
  refine iteT ⟨s,rfl,?_,h2,?_⟩
  · unfold stB at hb
    rw [Bool.and_eq_true,decide_eq_true_eq] at hb
    exact hb.1
  · walk_at "w"
    exact q
def bf (K:PySem.W.Frag):Sp:=fun vs H Q _=>∃ m s:Int,vs=[.int m,.int s]∧s≤100000∧Q (.bl (decide (woI m s=0))) H
theorem rA {K:PySem.W.Frag} {vs:List V} {H:Hp} {Q:VK} {E:XK} (h:bf K vs H Q E):vs.length=2:=by
 obtain ⟨_,_,rfl,_⟩:=h; rfl
def io (K:PySem.W.Frag):TS:=
 (tRet (tOp (cEq K) (tCall (fb K) [] E0 (tCons (tVar 0) (tCons (tVar 1) tNil))) (tC (.int 0))))
theorem rB {K:PySem.W.Frag} {vs:List V} {H:Hp} {Q:VK} {E:XK} (h:bf K vs H Q E):io K { nx:=fun _ H'=>Q .non H',rt:=Q } (start ["mask","sign"] vs) H:=by
 obtain ⟨m,s,rfl,h2,q⟩:=h
 show io K _ [some (.int m),some (.int s)] H
 unfold io
 walk_at "w"
 refine ⟨m,s,rfl,h2,?_⟩
 walk_at "w"
 exact q
def sgL (m:Int):List Int:=((List.range (Builtin.Int.intBits m)).filter fun (i:Nat)=>stB m (1+(i:Int))).map fun (i:Nat)=>1+(i:Int)
def dI (K:PySem.W.Frag):Sp:=fun vs H Q _=>∃ m:Int,vs=[.int m]∧Builtin.Int.intBits m≤900∧∀ l H',Same H H'→H l=none→H' l=some (.lst ((sgL m).map V.int))→Q (.ref l) H'
theorem rC {K:PySem.W.Frag} {vs:List V} {H:Hp} {Q:VK} {E:XK} (h:dI K vs H Q E):vs.length=1:=by
 obtain ⟨_,rfl,_⟩:=h; rfl
def ip (K:PySem.W.Frag):TS:=
 (tRet (tComp [none,none,some 0] (m5 (tCons (tC (.int 1)) (tCons (tOp cAdd (sC K "int" jV (tVar 0)) (tC (.int 1))) tNil))) (gName 1) (tB (tCall (bO K) [] E0 (tCons (tVar 2) (tCons (tVar 1) tNil)))) (tVar 1)))
theorem rD {K:PySem.W.Frag} {vs:List V} {H:Hp} {Q:VK} {E:XK} (h:dI K vs H Q E):ip K { nx:=fun _ H'=>Q .non H',rt:=Q } (start ["mask"] vs) H:=by
 obtain ⟨m,rfl,hb,k⟩:=h
 show ip K _ [some (.int m)] H
 unfold ip
 walk_at "w"
 refine ⟨rfl,1,_,rfl,by omega,?_⟩
 have en:(((Builtin.Int.intBits m:Nat):Int)+1 - 1).toNat=Builtin.Int.intBits m:=by omega
 rw [en]
 refine ij (fun (i:Nat)=>stB m (1+(i:Int))) (fun (i:Nat)=>1+(i:Int)) hb ?_ ?_ ?_
 · intro i H1 R hi s1 k1
   show tB _ [none,some (.int (1+(i:Int))),some (.int m)] H1 R
   walk_at "w"
   exact ⟨m,_,rfl,_,rfl,k1 _ (Same.refl _)⟩
 · intro i H1 Q1 hi hb s1 k1
   show tVar 1 [none,some (.int (1+(i:Int))),some (.int m)] H1 Q1
   exact ⟨_,rfl,k1 _ (Same.refl _)⟩
 · intro l H1 hl s1 el
   exact k l H1 s1 hl el
end L2
namespace L2
open PySem PySem.Spec PyProof.Rows
local macro_rules | `(tactic| walk_at "w")=>`(tactic| (first | simp only [aH,k8,nw,jd,la,j2,j3,nA,nu,k7,nv,if_true,if_false,Bool.false_eq_true,decide_true,decide_false,i5,i6,lQ,gQ,fK,i3,jY,i4,gP,jW,jX,gO,lN,gR,gS,gU,gW,gX,gY,gT,jZ,j0,j1,jU,lP,Bool.not_true,Bool.not_false,fi,fq,b7,ft,w_c,jb,fW,fX,dA,fY,w_b,w_not,iC,kb,fZ,ga,iD,fu,dB,kc,gb,gc,gd,iz,iE,ge,gf,gh,gi,eK,eL,cX,dh,di,cG,fv,iF,iG,iH,ii,iI,iJ,iK,iL,iM,iN,iO,kf,gj,dj,gk,kg,gl,eP,dk,iP,iQ,gm,fj,gn,
 List.getElem?_cons_zero,List.getElem?_cons_succ,Option.some.injEq,exists_eq_left',exists_eq_left,List.set_cons_zero,List.set_cons_succ,cO,V.int.injEq,V.bl.injEq,V.ref.injEq,V.str.injEq,List.append_nil,List.nil_append,List.cons_append] | dsimp only | skip))
inductive TK where
 | clue | only | place | count | step | sum | square | reach | turn | pair | ways
 deriving DecidableEq
def tkC:TK→List Nat
 | .clue=>[99,108,117,101]
 | .only=>[111,110,108,121]
 | .place=>[112,108,97,99,101]
 | .count=>[99,111,117,110,116]
 | .step=>[115,116,101,112]
 | .sum=>[115,117,109]
 | .square=>[115,113,117,97,114,101]
 | .reach=>[114,101,97,99,104]
 | .turn=>[116,117,114,110]
 | .pair=>[112,97,105,114]
 | .ways=>[119,97,121,115]
def dr:List Str:=[tx [99,108,117,101],tx [111,110,108,121],tx [112,108,97,99,101],tx [99,111,117,110,116],tx [115,116,101,112],tx [115,117,109],tx [115,113,117,97,114,101],tx [114,101,97,99,104],tx [116,117,114,110],tx [112,97,105,114],tx [119,97,121,115]]
def fD:List Str:=[tx [99,108,117,101],tx [111,110,108,121],tx [112,108,97,99,101],tx [115,116,101,112],tx [112,97,105,114]]
def d3:List Str:=[tx [99,111,117,110,116],tx [115,117,109],tx [119,97,121,115]]
def gd_RULES_OF_KIND:List (Str × List Str):=[(tx [111,110,108,121],[tx [117,110,108,105,107,101]]),(tx [112,108,97,99,101],[tx [117,110,108,105,107,101]]),(tx [99,111,117,110,116],[tx [99,111,117,110,116]]),(tx [115,116,101,112],[tx [114,105,115,105,110,103]]),(tx [115,117,109],[tx [115,117,109]]),(tx [115,113,117,97,114,101],[tx [110,111,115,113,117,97,114,101]]),(tx [114,101,97,99,104],[tx [106,111,105,110,101,100],tx [114,105,110,103]]),(tx [116,117,114,110],[tx [114,105,110,103]]),(tx [112,97,105,114],[tx [117,110,108,105,107,101]])]
def wsOf:TK→List Str
 | .only=>[tx [117,110,108,105,107,101]]
 | .place=>[tx [117,110,108,105,107,101]]
 | .count=>[tx [99,111,117,110,116]]
 | .step=>[tx [114,105,115,105,110,103]]
 | .sum=>[tx [115,117,109]]
 | .square=>[tx [110,111,115,113,117,97,114,101]]
 | .reach=>[tx [106,111,105,110,101,100],tx [114,105,110,103]]
 | .turn=>[tx [114,105,110,103]]
 | .pair=>[tx [117,110,108,105,107,101]]
 | _=>[]
def goesB:TK→RK→Bool
 | .ways,_=>true
 | .only,.Unlike=>true
 | .place,.Unlike=>true
 | .count,.Count=>true
 | .step,.Rising=>true
 | .sum,.Sum=>true
 | .square,.NoSquare=>true
 | .reach,.Joined=>true
 | .reach,.Ring=>true
 | .turn,.Ring=>true
 | .pair,.Unlike=>true
 | _,_=>false
def lineK:TK→Bool
 | .clue=>true
 | .only=>true
 | .place=>true
 | .step=>true
 | .pair=>true
 | _=>false
def nbrK:TK→Bool
 | .count=>true
 | .sum=>true
 | .ways=>true
 | _=>false
theorem qF (t:TK):decide (tx (tkC t)∈dr)=true:=by cases t <;> decide+kernel
theorem wT (t:TK):decide (tx (tkC t)∈fD)=lineK t:=by cases t <;> decide+kernel
theorem xX (t:TK):decide (tx (tkC t)∈d3)=nbrK t:=by cases t <;> decide+kernel
theorem yz {t:TK} (h1:t≠.clue) (h2:t≠.ways):gd_RULES_OF_KIND.lookup (tx (tkC t))=some (wsOf t):=by
 cases t <;> first | exact absurd rfl h1 | exact absurd rfl h2 | decide+kernel
theorem wU {t:TK} (h2:t≠.ways) (k:RK):decide (tx (nmC k)∈wsOf t)=goesB t k:=by
 cases t <;> first | exact absurd rfl h2 | (cases k <;> decide+kernel)
theorem wV (t:TK):decide (tkC t=[119,97,121,115])=decide (t=.ways):=by cases t <;> decide
theorem oM (t:TK):decide (tkC t=[99,108,117,101])=decide (t=.clue):=by cases t <;> decide
theorem wW (t:TK):decide (tkC t=[111,110,108,121])=decide (t=.only):=by cases t <;> decide
def cK (K:PySem.W.Frag):Sp:=fun vs H Q _=>∃ (p:Addr) (h w g i:Int),vs=[.ref p,.int i]∧IsFl H p h w g∧FlOk h w g∧Q (.bl (decide (0≤i)&&decide (i < h*w))) H
theorem sT {K:PySem.W.Frag} {vs:List V} {H:Hp} {Q:VK} {E:XK} (h:cK K vs H Q E):vs.length=2:=by
 obtain ⟨_,_,_,_,_,rfl,_⟩:=h; rfl
def cL (K:PySem.W.Frag):Sp:=fun vs H Q _=>∃ (p:Addr) (h w g i:Int),vs=[.ref p,.int i]∧IsFl H p h w g∧Q (.bl (decide (1≤i)&&decide (i≤g))) H
theorem sU {K:PySem.W.Frag} {vs:List V} {H:Hp} {Q:VK} {E:XK} (h:cL K vs H Q E):vs.length=2:=by
 obtain ⟨_,_,_,_,_,rfl,_⟩:=h; rfl
def iW (K:PySem.W.Frag):TS:=
 (tRet (tCall (aT K) [] E0 (tCons (tVar 1) (tCons (tOp cIx (tVar 0) (tC (.int 2))) tNil))))
theorem sV {K:PySem.W.Frag} {vs:List V} {H:Hp} {Q:VK} {E:XK} (h:cL K vs H Q E):iW K { nx:=fun _ H'=>Q .non H',rt:=Q } (start ["floor","value"] vs) H:=by
 obtain ⟨p,h,w,g,i,rfl,hp,q⟩:=h
 show iW K _ [some (.ref p),some (.int i)] H
 unfold iW
 walk_at "w"
 refine ixT hp (v:=V.int g) rfl ?_
 walk_at "w"
 exact ⟨i,g,rfl,q⟩
def fc (K:PySem.W.Frag) (c:RCl RK):Sp:=fun vs H Q _=>∃ (t:TK) (k:RK) (r p:Addr) (ws:List (List Nat)) (cs:List Int) (n m:Int),vs=[.str (tx (tkC t)),.ref r]∧t≠.clue∧IsRule H c k r p (nmC k::ws) cs n m∧Q (.bl (goesB t k)) H
theorem sW {K:PySem.W.Frag} {c:RCl RK} {vs:List V} {H:Hp} {Q:VK} {E:XK} (h:fc K c vs H Q E):vs.length=2:=by
 obtain ⟨_,_,_,_,_,_,_,_,rfl,_⟩:=h; rfl
def iX (K:PySem.W.Frag) (c:RCl RK):TS:=
 (tRet (tOrV (tOp (cEq K) (tVar 0) (tC (.str (tx [119,97,121,115])))) (tOp (rInS K) (b5 c c.ok "name" (lT K c) (tVar 1) tNil) (tIxG K gd_RULES_OF_KIND (tVar 0)))))
theorem sX {K:PySem.W.Frag} {c:RCl RK} {vs:List V} {H:Hp} {Q:VK} {E:XK} (h:fc K c vs H Q E):iX K c { nx:=fun _ H'=>Q .non H',rt:=Q } (start ["kind","rule"] vs) H:=by
 obtain ⟨t,k,r,p,ws,cs,n,m,rfl,t0,x,q⟩:=h
 obtain ⟨dx,W,C,h1,h2,h3⟩:=x.ex
 show iX K c _ [some (.str (tx (tkC t))),some (.ref r)] H
 unfold iX
 walk_at "w"
 rw [cw,wV]
 by_cases hw:t=.ways
 · subst hw
   rw [decide_eq_true rfl]
   exact iteT q
 · rw [decide_eq_false hw]
   refine iteF ?_
   refine methE (k:=k) rfl x.ok h1 (by rfl) ?_
   walk_at "w"
   refine ⟨r,p,nmC k,ws,cs,n,m,rfl,x,?_⟩
   dsimp only
   rw [yy]
   walk_at "w"
   refine ⟨_,_,rfl,yz t0 hw,fun qa hq=>?_⟩
   refine ⟨_,qa,_,rfl,rfl,hq,?_⟩
   rw [wU hw]
   exact q
def bP (K:PySem.W.Frag) (c:RCl RK):Sp:=fun vs H Q _=>∃ (k:RK) (r p:Addr) (ws:List (List Nat)) (cs:List Int) (n m z:Int),vs=[.ref r,.int z]∧IsRule H c k r p ws cs n m∧cs.length≤63∧∀ l H',Same H H'→H l=none→H' l=some (.lst ((cs.filter fun x=>!decide (x=z)).map V.int))→Q (.ref l) H'
theorem uS {K:PySem.W.Frag} {c:RCl RK} {vs:List V} {H:Hp} {Q:VK} {E:XK} (h:bP K c vs H Q E):vs.length=2:=by
 obtain ⟨_,_,_,_,_,_,_,_,rfl,_⟩:=h; rfl
def jB (K:PySem.W.Frag) (c:RCl RK):TS:=
 (tRet (tComp [none,none,some 1] (iList K (b5 c c.ok "spots" (eu K c) (tVar 0) tNil)) (gName 1) (tTest (tOp (cNe K) (tVar 1) (tVar 2))) (tVar 1)))
theorem uT {K:PySem.W.Frag} {c:RCl RK} {vs:List V} {H:Hp} {Q:VK} {E:XK} (h:bP K c vs H Q E):jB K c { nx:=fun _ H'=>Q .non H',rt:=Q } (start ["rule","cell"] vs) H:=by
 obtain ⟨k,r,p,ws,cs,n,m,z,rfl,x,hn,q⟩:=h
 obtain ⟨dx,W,C,h1,h2,h3⟩:=x.ex
 show jB K c _ [some (.ref r),some (.int z)] H
 unfold jB
 rw [fW,cX]
 refine methE (k:=k) rfl x.ok h1 (by rfl) ?_
 walk_at "w"
 refine ⟨r,p,ws,cs,n,m,rfl,x,fun l hl=>?_⟩
 have s1:Same H (upd H l (.lst (cs.map V.int))):=(Same.refl H).laid hl
 have el:(upd H l (.lst (cs.map V.int))) l=some (.lst (cs.map V.int)):=ag
 generalize upd H l (.lst (cs.map V.int))=H1 at*
 refine ⟨l,rfl,⟨_,SqL.of el⟩,?_⟩
 refine cH (xs:=cs) (fun x=>!decide (x=z)) (fun x=>x) (by omega) (SqL.of el) ?_ ?_ ?_
 · intro y H2 R hy s2 k2
   show tTest _ [none,some (.int y),some (.int z)] H2 R
   walk_at "w"
   exact k2 _ (Same.refl _)
 · intro y H2 Q2 hy hb s2 k2
   show tVar 1 [none,some (.int y),some (.int z)] H2 Q2
   walk_at "w"
   exact k2 _ (Same.refl _)
 · intro T H2 hT s2 eT
   rw [List.map_id'] at eT
   exact q T H2 (s1.trans s2) (s1.free hT) eT
def hitB (t:TK) (rows:List RR) (r z:Int):Bool:=if r < 0 then false else if t=.clue then decide (r=0) else match rows[r.toNat]? with
 | none=>false
 | some x=>goesB t x.k&&decide (z∈x.cs)
def b8 (K:PySem.W.Frag) (c:RCl RK) (d:RCl PzK):Sp:=fun vs H Q _=>∃ (t:TK) (P L G:Addr) (h w g r z:Int) (rows:List RR) (cl:List Int),vs=[.ref P,.str (tx (tkC t)),.int r,.int z]∧IsPz H c d P L G h w g rows cl∧∀ H',Same H H'→Q (.bl (hitB t rows r z)) H'
theorem nP {K:PySem.W.Frag} {c:RCl RK} {d:RCl PzK} {vs:List V} {H:Hp} {Q:VK} {E:XK} (h:b8 K c d vs H Q E):vs.length=4:=by
 obtain ⟨_,_,_,_,_,_,_,_,_,_,_,rfl,_⟩:=h; rfl
theorem RR.ws_cons (r:RR):∃ t,r.ws=nmC r.k::t:=⟨_,rfl⟩
structure IsTh (H:Hp) (T M:Addr) (t:TK) (r z s:Int) (ms:List Int):Prop where
 T:H T=some (.tup [.str (tx (tkC t)),.int r,.int z,.int s,.ref M])
 M:H M=some (.lst (ms.map V.int))
 n:ms.length≤100
theorem IsTh.same {H H':Hp} {T M:Addr} {t:TK} {r z s:Int} {ms:List Int} (x:IsTh H T M t r z s ms) (s':Same H H'):IsTh H' T M t r z s ms:=⟨s' _ _ x.T,s' _ _ x.M,x.n⟩
def formB (h w g:Int) (rows:List RR) (t:TK) (r z s:Int):Bool:=(decide (0≤z)&&decide (z < h*w))&&((decide (1≤s)&&decide (s≤g))&&hitB t rows r z)
def je (K:PySem.W.Frag) (c:RCl RK) (d:RCl PzK):Sp:=fun vs H Q _=>∃ (t:TK) (P L G T M:Addr) (h w g r z s:Int) (rows:List RR) (cl ms:List Int),vs=[.ref P,.ref T]∧IsPz H c d P L G h w g rows cl∧IsTh H T M t r z s ms∧∀ H',Same H H'→Q (.bl (formB h w g rows t r z s)) H'
theorem qG {K:PySem.W.Frag} {c:RCl RK} {d:RCl PzK} {vs:List V} {H:Hp} {Q:VK} {E:XK} (h:je K c d vs H Q E):vs.length=2:=by
 obtain ⟨_,_,_,_,_,_,_,_,_,_,_,_,_,_,_,rfl,_⟩:=h; rfl
theorem ld {k:RK} {h w g:Int} {m:Nat} (hk:allK k=true) (k0:k≠.Rule) (hn:numK k=false) (hs:sgnK k=true) (m0:1≤(m:Int)) (m1:(m:Int)≤g):RR.Ok ⟨k,0,m,[],rngL 0 (h*w)⟩ h w g:=by
 refine ⟨k0,Nat.zero_le _,fun _=>rfl,fun _=>⟨m0,m1⟩,fun e=>?_,⟨fun e=>?_,fun _=>⟨rfl,rfl⟩⟩,fun x hx=>(by cases hx),Nat.zero_le _⟩
 · rw [show sgnK k=false from e] at hs; cases hs
 · rw [show allK k=false from e] at hk; cases hk
def oN:TE:=fun _ _ _=>False
theorem pc {X:Cx} {e:Expr}:PE X e oN:=fun _ _ _ _ _ _ h=>h.elim
def clueB (cl:List Int) (z s:Int) (ms:List Int):Bool:=decide (ms=[])&&(!decide (cl.getD z.toNat 0=0)&&!decide (cl.getD z.toNat 0=s))
def b9 (K:PySem.W.Frag):Sp:=fun vs H Q _=>∃ (C M:Addr) (z s:Int) (cl ms:List Int),vs=[.ref C,.int z,.int s,.ref M]∧H C=some (.lst (cl.map V.int))∧0≤z∧z < cl.length∧H M=some (.lst (ms.map V.int))∧∀ H',Same H H'→Q (.bl (clueB cl z s ms)) H'
theorem nQ {K:PySem.W.Frag} {vs:List V} {H:Hp} {Q:VK} {E:XK} (h:b9 K vs H Q E):vs.length=4:=by
 obtain ⟨_,_,_,_,_,_,rfl,_⟩:=h; rfl
def d4 (K:PySem.W.Frag):TS:=
 (tRet (tAndV (tOp (cEq K) (tVar 3) (tLst tNil)) (tAndV (tOp (cNe K) (tOp cIx (tVar 0) (tVar 1)) (tC (.int 0))) (tOp (cNe K) (tOp cIx (tVar 0) (tVar 1)) (tVar 2)))))
theorem nR {K:PySem.W.Frag} {vs:List V} {H:Hp} {Q:VK} {E:XK} (h:b9 K vs H Q E):d4 K { nx:=fun _ H'=>Q .non H',rt:=Q } (start ["clues","cell","sign","more"] vs) H:=by
 obtain ⟨C,M,z,s,cl,ms,rfl,hC,z0,z1,hM,q⟩:=h
 show d4 K _ [some (.ref C),some (.int z),some (.int s),some (.ref M)] H
 unfold d4
 walk_at "w"
 refine ⟨aB (by decide),fun l hl=>?_⟩
 have s1:Same H (upd H l (.lst [])):=(Same.refl H).laid hl
 have el:(upd H l (.lst [])) l=some (.lst (([]:List Int).map V.int)):=ag
 generalize upd H l (.lst [])=H1 at*
 refine sG (s1 _ _ hM) el ?_
 have q1:=q _ s1
 unfold clueB at q1
 cases hb:decide (ms=[]) with
 | false=>
  rw [hb,Bool.false_and] at q1
  exact ⟨false,rfl,iteF q1⟩
 | true=>
  rw [hb,Bool.true_and] at q1
  refine ⟨true,rfl,iteT ?_⟩
  walk_at "w"
  refine ixI (s1 _ _ hC) z0 z1 ?_
  walk_at "w"
  cases hb2:decide (cl.getD z.toNat 0=0) with
  | true=>
   rw [hb2,Bool.not_true,Bool.false_and] at q1
   exact iteF q1
  | false=>
   rw [hb2,Bool.not_false,Bool.true_and] at q1
   refine iteT ?_
   refine ixI (s1 _ _ hC) z0 z1 ?_
   walk_at "w"
   exact q1
def onlyB (cs masks:List Int) (z s:Int) (ms:List Int):Bool:=decide (ms.length=1)&&(decide (ms.getD 0 0∈cs.filter fun x=>!decide (x=z))&&decide (woI (masks.getD (ms.getD 0 0).toNat 0) s=0))
def ca (K:PySem.W.Frag) (c:RCl RK):Sp:=fun vs H Q _=>∃ (k:RK) (r p A M:Addr) (ws:List (List Nat)) (cs masks ms:List Int) (n m z s:Int),vs=[.ref r,.ref A,.int z,.int s,.ref M]∧IsRule H c k r p ws cs n m∧bT cs masks.length∧H A=some (.lst (masks.map V.int))∧H M=some (.lst (ms.map V.int))∧s≤1000∧∀ H',Same H H'→Q (.bl (onlyB cs masks z s ms)) H'
theorem nS {K:PySem.W.Frag} {c:RCl RK} {vs:List V} {H:Hp} {Q:VK} {E:XK} (h:ca K c vs H Q E):vs.length=5:=by
 obtain ⟨_,_,_,_,_,_,_,_,_,_,_,_,_,rfl,_⟩:=h; rfl
def d5 (K:PySem.W.Frag) (c:RCl RK):TS:=
 (tRet (tAndV (tOp (cEq K) (tCB kLen (tCons (tVar 4) tNil)) (tC (.int 1))) (tAndV (tOp (cIn K false) (tOp cIx (tVar 4) (tC (.int 0))) (tCall (bP K c) [] E0 (tCons (tVar 0) (tCons (tVar 2) tNil)))) (tCall (bf K) [] E0 (tCons (tOp cIx (tVar 1) (tOp cIx (tVar 4) (tC (.int 0)))) (tCons (tVar 3) tNil))))))
theorem nU {K:PySem.W.Frag} {c:RCl RK} {vs:List V} {H:Hp} {Q:VK} {E:XK} (h:ca K c vs H Q E):d5 K c { nx:=fun _ H'=>Q .non H',rt:=Q } (start ["rule","masks","cell","sign","more"] vs) H:=by
 obtain ⟨k,r,p,A,M,ws,cs,masks,ms,n,m,z,s,rfl,x,hC,hA,hM,hs,q⟩:=h
 show d5 K c _ [some (.ref r),some (.ref A),some (.int z),some (.int s),some (.ref M)] H
 unfold d5
 walk_at "w"
 rw [cF hM,List.length_map]
 walk_at "w"
 unfold onlyB at q
 have e1:decide ((ms.length:Int)=1)=decide (ms.length=1):=by
  rw [Bool.eq_iff_iff,decide_eq_true_eq,decide_eq_true_eq]; omega
 rw [e1]
 cases hb:decide (ms.length=1) with
 | false=>
  rw [hb,Bool.false_and] at q
  exact iteF (q _ (Same.refl _))
 | true=>
  rw [hb,Bool.true_and] at q
  have hl:=of_decide_eq_true hb
  refine iteT ?_
  refine ixI hM (by decide) (by omega) ?_
  rw [show (0:Int).toNat=0 from rfl]
  walk_at "w"
  refine ⟨k,r,p,ws,cs,n,m,z,rfl,x,hC.1,fun l H1 s1 hl1 el=>?_⟩
  dsimp only
  rw [sF el]
  cases hb2:decide (ms.getD 0 0∈cs.filter fun x=>!decide (x=z)) with
  | false=>
   rw [hb2,Bool.false_and] at q
   exact ⟨false,rfl,iteF (q _ s1)⟩
  | true=>
   rw [hb2,Bool.true_and] at q
   have hm:=List.mem_filter.mp (of_decide_eq_true hb2)
   have hc:=hC.2 _ hm.1
   refine ⟨true,rfl,iteT ?_⟩
   walk_at "w"
   refine ixI (s1 _ _ hM) (by decide) (by omega) ?_
   rw [show (0:Int).toNat=0 from rfl]
   walk_at "w"
   refine ixI (s1 _ _ hA) hc.1 hc.2 ?_
   walk_at "w"
   exact ⟨_,s,rfl,by omega,q _ s1⟩
theorem RR.cin22 {r:RR} {h w g:Int} (O:r.Ok h w g) (F:FlOk h w g):bT r.cs (h*w).toNat:=by
 obtain ⟨h0,h1,w0,w1,m16,g0,g1⟩:=id F
 have mpos:0≤h*w:=Int.mul_nonneg (by omega) (by omega)
 cases hk:allK r.k with
 | false=>
  obtain ⟨c1,c2,c3,c4,e⟩:=O.cl.told hk
  rw [e]
  refine ⟨by rw [List.length_map]; omega,fun c hc=>?_⟩
  obtain ⟨n,hn,rfl⟩:=List.mem_map.mp hc
  have:=c3 n hn
  omega
 | true=>
  obtain ⟨_,e⟩:=O.cl.all hk
  rw [e]
  refine ⟨by rw [kh]; omega,fun c hc=>?_⟩
  have:=sf hc
  omega
structure Asks (H:Hp) (c:RCl RK) (d:RCl PzK) (P L G A T M:Addr) (h w g:Int) (rows:List RR) (cl masks:List Int) (t:TK) (r z s:Int) (ms:List Int):Prop where
 P:IsPz H c d P L G h w g rows cl
 T:IsTh H T M t r z s ms
 A:H A=some (.lst (masks.map V.int))
 n:masks.length=(h*w).toNat
theorem Asks.same {H H':Hp} {c:RCl RK} {d:RCl PzK} {P L G A T M:Addr} {h w g:Int} {rows:List RR} {cl masks:List Int} {t:TK} {r z s:Int} {ms:List Int} (x:Asks H c d P L G A T M h w g rows cl masks t r z s ms) (s':Same H H'):Asks H' c d P L G A T M h w g rows cl masks t r z s ms:=⟨x.P.same s',x.T.same s',s' _ _ x.A,x.n⟩
theorem pe {h w g:Int} {rows:List RR} {t:TK} {r z s:Int} (f:formB h w g rows t r z s=true):0≤z∧z < h*w∧1≤s∧s≤g∧hitB t rows r z=true:=by
 unfold formB at f
 simp only [Bool.and_eq_true,decide_eq_true_eq] at f
 exact ⟨f.1.1,f.1.2,f.2.1.1,f.2.1.2,f.2.2⟩
theorem sh {t:TK} {rows:List RR} {r z:Int} (ht:t≠.clue) (f:hitB t rows r z=true):0≤r∧∃ x,rows[r.toNat]? =some x∧goesB t x.k=true∧z∈x.cs:=by
 unfold hitB at f
 by_cases hr:r < 0
 · rw [if_pos hr] at f; cases f
 rw [if_neg hr,if_neg ht] at f
 cases e:rows[r.toNat]? with
 | none=>rw [e] at f; cases f
 | some x=>
  rw [e] at f
  simp only [Bool.and_eq_true,decide_eq_true_eq] at f
  exact ⟨by omega,x,rfl,f.1,f.2⟩
def lawCA (ns:List Int) (k:Int):Int:=if (ns.length:Int)=0 then (k*k*40692+7*k) % 2147483647 else
 if k < (ns.length:Int) then ns.getD (k % ns.length).toNat 0 % 2305843009213693951 else (ns.getD (k % ns.length).toNat 0 % 2305843009213693951*48271+k*k*40692) % 2305843009213693951
theorem vJ (ns:List Int) (k:Int):0≤lawCA ns k:=by
 unfold lawCA
 split
 · exact Int.emod_nonneg _ (by decide)
 · split
   · exact Int.emod_nonneg _ (by decide)
   · exact Int.emod_nonneg _ (by decide)
def aV (K:PySem.W.Frag):Sp:=fun vs H Q _=>∃ (a:Addr) (ns:List Int) (k:Int),vs=[.ref a,.int k]∧SqL K H a (ns.map V.int)∧ns.length≤63∧0≤k∧k≤10000∧Q (.int (lawCA ns k)) H
theorem nV {K:PySem.W.Frag} {vs:List V} {H:Hp} {Q:VK} {E:XK} (h:aV K vs H Q E):vs.length=2:=by
 obtain ⟨_,_,_,rfl,_⟩:=h; rfl
def d6 (K:PySem.W.Frag):TS:=
 (tSeq (tIfS (tTest (tOp (cEq K) (tCB (kLenS K) (tCons (tVar 0) tNil)) (tC (.int 0)))) (tRet (tOp cMod (tOp cAdd (tOp cMul (tOp cMul (tVar 1) (tVar 1)) (tC (.int 40692))) (tOp cMul (tC (.int 7)) (tVar 1))) (tC (.int 2147483647)))) tNext)
  (tSeq (tAsg (tOp cMod (tOp (rIxL K) (tVar 0) (tOp cMod (tVar 1) (tCB (kLenS K) (tCons (tVar 0) tNil)))) (tC (.int 2305843009213693951))) (gName 2))
  (tSeq (tIfS (tTest (tOp (cCmp fun i j=>decide (i < j)) (tVar 1) (tCB (kLenS K) (tCons (tVar 0) tNil)))) (tRet (tVar 2)) tNext)
  (tRet (tOp cMod (tOp cAdd (tOp cMul (tVar 2) (tC (.int 48271))) (tOp cMul (tOp cMul (tVar 1) (tVar 1)) (tC (.int 40692)))) (tC (.int 2305843009213693951)))))))
theorem nX {K:PySem.W.Frag} {vs:List V} {H:Hp} {Q:VK} {E:XK} (h:aV K vs H Q E):d6 K { nx:=fun _ H'=>Q .non H',rt:=Q } (start ["_law_script","_law_k","_law_number_here"] vs) H:=by
 obtain ⟨a,ns,k,rfl,hS,hn,k0,k1,q⟩:=h
 have kk:k*k≤10000*10000:=Int.mul_le_mul k1 k1 k0 (by decide)
 have kk0:0≤k*k:=Int.mul_nonneg k0 k0
 show d6 K _ [some (.ref a),some (.int k),none] H
 unfold d6
 rw [aH,aD]
 walk_at "w"
 refine ⟨a,_,rfl,.inl hS,?_⟩
 walk_at "w"
 rw [List.length_map]
 unfold lawCA at q
 by_cases hl:(ns.length:Int)=0
 · rw [if_pos hl] at q
   rw [decide_eq_true hl]
   refine iteT ⟨.inl ⟨by omega,by omega⟩,.inr ⟨by decide,by decide⟩,.inl ⟨by decide,by decide⟩,?_⟩
   walk_at "w"
   exact ⟨by decide,q⟩
 · rw [if_neg hl] at q
   rw [decide_eq_false hl]
   have hpos:0 < (ns.length:Int):=by omega
   refine iteF ⟨a,_,rfl,.inl hS,?_⟩
   walk_at "w"
   rw [List.length_map]
   have m0:=Int.emod_nonneg k (Int.ne_of_gt hpos)
   have m1:=Int.emod_lt_of_pos k hpos
   refine ⟨hpos,a,_,_,_,rfl,rfl,hS,mx m0 m1,?_⟩
   walk_at "w"
   refine ⟨by decide,?_⟩
   rw [aD]
   walk_at "w"
   refine ⟨a,_,rfl,.inl hS,?_⟩
   walk_at "w"
   rw [List.length_map]
   by_cases hk:k < (ns.length:Int)
   · rw [if_pos hk] at q
     rw [decide_eq_true hk]
     exact iteT q
   · rw [if_neg hk] at q
     rw [decide_eq_false hk]
     refine iteF ⟨.inr ⟨by decide,by decide⟩,.inl ⟨by omega,by omega⟩,.inr ⟨by decide,by decide⟩,?_⟩
     walk_at "w"
     exact ⟨by decide,q⟩
theorem flZ (a b c:Int):FlOk (1+a % 6) (1+b % (if 16 / (1+a % 6) < 6 then 16 / (1+a % 6) else 6)) (1+c % 6)∧0 < (if 16 / (1+a % 6) < 6 then 16 / (1+a % 6) else (6:Int)):=by
 have a0:=Int.emod_nonneg a (by decide:(6:Int)≠0)
 have a1:=Int.emod_lt_of_pos a (by decide:(0:Int) < 6)
 have c0:=Int.emod_nonneg c (by decide:(6:Int)≠0)
 have c1:=Int.emod_lt_of_pos c (by decide:(0:Int) < 6)
 have hh:1+a % 6=1∨1+a % 6=2∨1+a % 6=3∨1+a % 6=4∨1+a % 6=5∨1+a % 6=6:=by omega
 generalize 1+a % 6=h at*
 have key:∀ m:Int,1≤m→m≤6→h*m≤16→(if 16 / h < 6 then 16 / h else 6)=m→FlOk h (1+b % (if 16 / h < 6 then 16 / h else 6)) (1+c % 6)∧0 < (if 16 / h < 6 then 16 / h else (6:Int)):=fun m m0 m1 m2 e=>by
  have b0:=Int.emod_nonneg b (by omega:m≠0)
  have b1:=Int.emod_lt_of_pos b (by omega:0 < m)
  rw [e]
  refine ⟨⟨by omega,by omega,by omega,by omega,?_,by omega,by omega⟩,by omega⟩
  exact Int.le_trans (Int.mul_le_mul_of_nonneg_left (show 1+b % m≤m by omega) (by omega)) m2
 rcases hh with e | e | e | e | e | e <;> subst e
 · exact key 6 (by decide) (by decide) (by decide) rfl
 · exact key 6 (by decide) (by decide) (by decide) rfl
 · exact key 5 (by decide) (by decide) (by decide) rfl
 · exact key 4 (by decide) (by decide) (by decide) rfl
 · exact key 3 (by decide) (by decide) (by decide) rfl
 · exact key 2 (by decide) (by decide) (by decide) rfl
def cb (K:PySem.W.Frag):Sp:=fun vs H Q _=>∃ z:Int,vs=[.int z]∧∀ (p:Addr) (H':Hp) (h w g:Int),Same H H'→H p=none→IsFl H' p h w g→FlOk h w g→Q (.ref p) H'
theorem nY {K:PySem.W.Frag} {vs:List V} {H:Hp} {Q:VK} {E:XK} (h:cb K vs H Q E):vs.length=1:=by
 obtain ⟨_,rfl,_⟩:=h; rfl
def d7 (K:PySem.W.Frag):TS:=
 (tSeq (tAsg (tOp cAdd (tC (.int 1)) (tOp cMod (tVar 0) (tC (.int 6)))) (gName 1))
  (tSeq (tAsg (tOp cAdd (tC (.int 1)) (tOp cMod (tOp cDiv (tVar 0) (tC (.int 6))) (tCB kMin (tCons (tC (.int 6)) (tCons (tOp cDiv (tC (.int 16)) (tVar 1)) tNil))))) (gName 2))
  (tRet (tTup (tCons (tVar 1) (tCons (tVar 2) (tCons (tOp cAdd (tC (.int 1)) (tOp cMod (tOp cDiv (tVar 0) (tC (.int 36))) (tC (.int 6)))) tNil)))))))
theorem nZ {K:PySem.W.Frag} {vs:List V} {H:Hp} {Q:VK} {E:XK} (h:cb K vs H Q E):d7 K { nx:=fun _ H'=>Q .non H',rt:=Q } (start ["_law_cell","_law_high","_law_wide"] vs) H:=by
 obtain ⟨z,rfl,q⟩:=h
 obtain ⟨F,hm⟩:=flZ z (z / 6) (z / 36)
 have:=F.h0
 have:=F.h1
 show d7 K _ [some (.int z),none,none] H
 unfold d7
 walk_at "w"
 refine ⟨by decide,⟨by decide,by decide⟩,?_⟩
 walk_at "w"
 refine ⟨⟨by omega,by omega⟩,hm,?_⟩
 walk_at "w"
 refine ⟨⟨by decide,by decide⟩,by decide,aB (by show (3:Nat)≤1000; decide),fun p hp=>?_⟩
 exact q p _ _ _ _ ((Same.refl H).laid hp) hp ag F
theorem qH {K:PySem.W.Frag} {H:Hp} {Q:VK} {q:Addr} {xs:List Int} {x:Int} (hq:H q=some (.lst (xs.map V.int))) (hm:x∈xs) (hn:xs.length≤900) (h:Q (.int (xs.findIdx (· ==x):Nat)) H):kZ K (.ref q) [.int x] H Q:=by
 have hlt:xs.findIdx (· ==x) < xs.length:=List.findIdx_lt_length_of_exists ⟨x,hm,by simp⟩
 have ev:∀ a b:Int,PyData.eqv (.int a) (.int b)=decide (a=b):=fun a b=>by
  rw [PyData.eqv]
  by_cases h:a=b
  · subst h; simp
  · simp [h]
 refine ⟨xs.map PyData.int,.int x,xs.findIdx (· ==x),.lst (SqL.of hq) (.ints xs),.int x,mq xs,rfl,?_,by omega,⟨PyData.int xs[xs.findIdx (· ==x)],?_,?_⟩,fun m e hm2 he=>?_,h⟩
 · rw [j9]; omega
 · rw [List.getElem?_map,List.getElem?_eq_getElem hlt]; rfl
 · have:=List.findIdx_getElem (w:=hlt)
   rw [ev,decide_eq_true_eq]
   simpa using this
 · have hml:m < xs.length:=by omega
   rw [List.getElem?_map,List.getElem?_eq_getElem hml] at he
   cases he
   have:=List.not_of_lt_findIdx hm2
   rw [ev,decide_eq_false_iff_not]
   simpa using this
def lf (xs:List Int) (x:Int):Nat:=xs.findIdx (· ==x)
def ordB (cs ms:List Int):Bool:=decide (ms.length=2)&&(decide (ms.getD 0 0∈cs)&&(decide (ms.getD 1 0∈cs)&&decide (lf cs (ms.getD 0 0) < lf cs (ms.getD 1 0))))
def bg (K:PySem.W.Frag):Sp:=fun vs H Q _=>∃ (C M:Addr) (cs ms:List Int),vs=[.ref C,.ref M]∧H C=some (.lst (cs.map V.int))∧cs.length≤63∧H M=some (.lst (ms.map V.int))∧Q (.bl (ordB cs ms)) H
theorem kn {K:PySem.W.Frag} {vs:List V} {H:Hp} {Q:VK} {E:XK} (h:bg K vs H Q E):vs.length=2:=by
 obtain ⟨_,_,_,_,rfl,_⟩:=h; rfl
def ck (K:PySem.W.Frag):TS:=
 (tSeq (tIfS (tOr (tTest (tOp (cNe K) (tCB kLen (tCons (tVar 1) tNil)) (tC (.int 2)))) (tOr (tTest (tOp (cIn K true) (tOp cIx (tVar 1) (tC (.int 0))) (tVar 0))) (tTest (tOp (cIn K true) (tOp cIx (tVar 1) (tC (.int 1))) (tVar 0))))) (tRet (tC (.bl false))) tNext)
  (tRet (tOp (cCmp fun i j=>decide (i < j)) (tBM K "list" (kZ K) (tVar 0) (tCons (tOp cIx (tVar 1) (tC (.int 0))) tNil)) (tBM K "list" (kZ K) (tVar 0) (tCons (tOp cIx (tVar 1) (tC (.int 1))) tNil)))))
theorem ko {K:PySem.W.Frag} {vs:List V} {H:Hp} {Q:VK} {E:XK} (h:bg K vs H Q E):ck K { nx:=fun _ H'=>Q .non H',rt:=Q } (start ["cells","more"] vs) H:=by
 obtain ⟨C,M,cs,ms,rfl,hC,hn,hM,q⟩:=h
 show ck K _ [some (.ref C),some (.ref M)] H
 unfold ck
 rw [aH,aD]
 walk_at "w"
 rw [cF hM,List.length_map]
 walk_at "w"
 unfold ordB at q
 have e1:decide ((ms.length:Int)=2)=decide (ms.length=2):=by
  rw [Bool.eq_iff_iff,decide_eq_true_eq,decide_eq_true_eq]; omega
 rw [e1]
 cases hb:decide (ms.length=2) with
 | false=>
  rw [hb,Bool.false_and] at q
  walk_at "w"
  exact q
 | true=>
  rw [hb,Bool.true_and] at q
  have hl:=of_decide_eq_true hb
  walk_at "w"
  refine ixI hM (by decide) (by omega) ?_
  rw [show (0:Int).toNat=0 from rfl]
  walk_at "w"
  rw [ke hC]
  cases hb2:decide (ms.getD 0 0∈cs) with
  | false=>
   rw [hb2,Bool.false_and] at q
   refine ⟨true,rfl,iteT ?_⟩
   walk_at "w"
   exact q
  | true=>
   rw [hb2,Bool.true_and] at q
   refine ⟨false,rfl,iteF ?_⟩
   walk_at "w"
   refine ixI hM (by decide) (by omega) ?_
   rw [show (1:Int).toNat=1 from rfl]
   walk_at "w"
   rw [ke hC]
   cases hb3:decide (ms.getD 1 0∈cs) with
   | false=>
    rw [hb3,Bool.false_and] at q
    refine ⟨true,rfl,iteT ?_⟩
    walk_at "w"
    exact q
   | true=>
    rw [hb3,Bool.true_and] at q
    refine ⟨false,rfl,iteF ?_⟩
    walk_at "w"
    refine ⟨cP hC,?_⟩
    refine ixI hM (by decide) (by omega) ?_
    rw [show (0:Int).toNat=0 from rfl]
    walk_at "w"
    refine qH hC (of_decide_eq_true hb2) (by omega) ?_
    walk_at "w"
    refine ⟨cP hC,?_⟩
    refine ixI hM (by decide) (by omega) ?_
    rw [show (1:Int).toNat=1 from rfl]
    walk_at "w"
    refine qH hC (of_decide_eq_true hb3) (by omega) ?_
    walk_at "w"
    have e2:decide (((cs.findIdx (· ==ms.getD 0 0):Nat):Int) < ((cs.findIdx (· ==ms.getD 1 0):Nat):Int))=decide (lf cs (ms.getD 0 0) < lf cs (ms.getD 1 0)):=by
     rw [Bool.eq_iff_iff,decide_eq_true_eq,decide_eq_true_eq]; unfold lf; omega
    rw [e2]
    exact q
def orM (masks:List Int) (ms:List Int):Int:=Builtin.bitOr (masks.getD (ms.getD 0 0).toNat 0) (masks.getD (ms.getD 1 0).toNat 0)
def pairB (cs masks:List Int) (z s:Int) (ms:List Int):Bool:=ordB (cs.filter fun x=>!decide (x=z)) ms&&decide (((sgL (orM masks ms)).filter fun x=>!decide (x=s)).length≤1)
theorem xY:((List.range 64).all fun a=>(List.range 64).all fun b=>decide (0≤Builtin.bitOr (a:Int) (b:Int))&&decide (Builtin.bitOr (a:Int) (b:Int) < 64))=true:=by decide+kernel
theorem yA {a b:Int} (a0:0≤a) (a1:a < 64) (b0:0≤b) (b1:b < 64):0≤Builtin.bitOr a b∧Builtin.bitOr a b < 64:=by
 have t:=List.all_eq_true.mp (List.all_eq_true.mp xY a.toNat (List.mem_range.mpr (by omega))) b.toNat (List.mem_range.mpr (by omega))
 have e1:((a.toNat:Nat):Int)=a:=by omega
 have e2:((b.toNat:Nat):Int)=b:=by omega
 rw [e1,e2] at t
 simpa using t
theorem xZ:((List.range 64).all fun m=>decide (Builtin.Int.intBits (m:Int)≤6)&&decide (sgL (m:Int)=(([0,1,2,3,4,5]:List Nat).filter fun (i:Nat)=>stB (m:Int) (1+(i:Int))).map fun (i:Nat)=>1+(i:Int)))=true:=by decide+kernel
theorem uU {m:Int} (m0:0≤m) (m1:m < 64):Builtin.Int.intBits m≤6∧sgL m=(([0,1,2,3,4,5]:List Nat).filter fun (i:Nat)=>stB m (1+(i:Int))).map fun (i:Nat)=>1+(i:Int):=by
 have t:=List.all_eq_true.mp xZ m.toNat (List.mem_range.mpr (by omega))
 have e1:((m.toNat:Nat):Int)=m:=by omega
 rw [e1,Bool.and_eq_true,decide_eq_true_eq,decide_eq_true_eq] at t
 exact t
theorem wn {masks:List Int} {i:Int} (mm:∀ m∈masks,0≤m∧m < 64) (i0:0≤i) (i1:i < masks.length):0≤masks.getD i.toNat 0∧masks.getD i.toNat 0 < 64:=by
 have hlt:i.toNat < masks.length:=by omega
 rw [List.getD,List.getElem?_eq_getElem hlt]
 exact mm _ (List.getElem_mem hlt)
def ce (K:PySem.W.Frag) (c:RCl RK):Sp:=fun vs H Q _=>∃ (k:RK) (r p A M:Addr) (ws:List (List Nat)) (cs masks ms:List Int) (n m z s:Int),vs=[.ref r,.ref A,.int z,.int s,.ref M]∧IsRule H c k r p ws cs n m∧bT cs masks.length∧(∀ m∈masks,0≤m∧m < 64)∧H A=some (.lst (masks.map V.int))∧H M=some (.lst (ms.map V.int))∧∀ H',Same H H'→Q (.bl (pairB cs masks z s ms)) H'
theorem n4 {K:PySem.W.Frag} {c:RCl RK} {vs:List V} {H:Hp} {Q:VK} {E:XK} (h:ce K c vs H Q E):vs.length=5:=by
 obtain ⟨_,_,_,_,_,_,_,_,_,_,_,_,_,rfl,_⟩:=h; rfl
def eF (K:PySem.W.Frag) (c:RCl RK):TS:=
 (tSeq (tAsg (tCall (dI K) [] E0 (tCons (tOp cOr (tOp cIx (tVar 1) (tOp cIx (tVar 4) (tC (.int 0)))) (tOp cIx (tVar 1) (tOp cIx (tVar 4) (tC (.int 1))))) tNil)) (gName 5))
  (tRet (tOp (cCmp fun i j=>decide (i≤j)) (tCB kLen (tCons (tComp [none,none,some 3] (iList K (tVar 5)) (gName 1) (tTest (tOp (cNe K) (tVar 1) (tVar 2))) (tVar 1)) tNil)) (tC (.int 1)))))
def d8 (K:PySem.W.Frag) (c:RCl RK):TS:=
 (tSeq (tIfS (tNot (tB (tCall (bg K) [] E0 (tCons (tCall (bP K c) [] E0 (tCons (tVar 0) (tCons (tVar 2) tNil))) (tCons (tVar 4) tNil))))) (tRet (tC (.bl false))) tNext)
  (eF K c))
theorem lg {K:PySem.W.Frag} {c:RCl RK} {H:Hp} {Q:VK} {A M:Addr} {cs masks ms:List Int} {z s:Int} {v0:V} (hC:bT cs masks.length) (mm:∀ m∈masks,0≤m∧m < 64) (hA:H A=some (.lst (masks.map V.int))) (hM:H M=some (.lst (ms.map V.int))) (ho:ordB (cs.filter fun x=>!decide (x=z)) ms=true)
  (q:∀ H',Same H H'→Q (.bl (decide (((sgL (orM masks ms)).filter fun x=>!decide (x=s)).length≤1))) H'):
  eF K c { nx:=fun _ H'=>Q .non H',rt:=Q } [some v0,some (.ref A),some (.int z),some (.int s),some (.ref M),none] H:=by
 unfold ordB at ho
 simp only [Bool.and_eq_true,decide_eq_true_eq] at ho
 obtain ⟨hl,m0,m1,_⟩:=ho
 have c0:=hC.2 _ (List.mem_filter.mp m0).1
 have c1:=hC.2 _ (List.mem_filter.mp m1).1
 have k0:=wn mm c0.1 c0.2
 have k1:=wn mm c1.1 c1.2
 have ol:=yA k0.1 k0.2 k1.1 k1.2
 have sb:=(uU ol.1 ol.2).1
 unfold eF
 walk_at "w"
 refine ixI hM (by decide) (by omega) ?_
 rw [show (0:Int).toNat=0 from rfl]
 walk_at "w"
 refine ixI hA c0.1 c0.2 ?_
 walk_at "w"
 refine ixI hM (by decide) (by omega) ?_
 rw [show (1:Int).toNat=1 from rfl]
 walk_at "w"
 refine ixI hA c1.1 c1.2 ?_
 walk_at "w"
 refine ⟨_,rfl,by omega,fun l H1 s1 hl1 el=>?_⟩
 have el2:H1 l=some (.lst ((sgL (orM masks ms)).map V.int)):=el
 have hsl:(sgL (orM masks ms)).length≤6:=by
  unfold orM
  rw [(uU ol.1 ol.2).2,List.length_map]
  exact List.length_filter_le _ _
 walk_at "w"
 refine ⟨⟨_,SqL.of el2⟩,?_⟩
 refine cH (xs:=sgL (orM masks ms)) (fun x=>!decide (x=s)) (fun x=>x) (by omega) (SqL.of el2) ?_ ?_ ?_
 · intro x H2 R hx s2 k2
   show tTest _ [none,some (.int x),some (.int s)] H2 R
   walk_at "w"
   exact k2 _ (Same.refl _)
 · intro x H2 Q2 hx hb s2 k2
   show tVar 1 [none,some (.int x),some (.int s)] H2 Q2
   walk_at "w"
   exact k2 _ (Same.refl _)
 · intro T H2 hT s2 eT
   rw [List.map_id'] at eT
   walk_at "w"
   rw [cF eT,List.length_map]
   walk_at "w"
   have e2:decide ((((sgL (orM masks ms)).filter fun x=>!decide (x=s)).length:Int)≤1)=decide (((sgL (orM masks ms)).filter fun x=>!decide (x=s)).length≤1):=by
    rw [Bool.eq_iff_iff,decide_eq_true_eq,decide_eq_true_eq]; omega
   rw [e2]
   exact q _ (s1.trans s2)
theorem n5 {K:PySem.W.Frag} {c:RCl RK} {vs:List V} {H:Hp} {Q:VK} {E:XK} (h:ce K c vs H Q E):d8 K c { nx:=fun _ H'=>Q .non H',rt:=Q } (start ["rule","masks","cell","sign","more","together"] vs) H:=by
 obtain ⟨k,r,p,A,M,ws,cs,masks,ms,n,m,z,s,rfl,x,hC,mm,hA,hM,q⟩:=h
 show d8 K c _ [some (.ref r),some (.ref A),some (.int z),some (.int s),some (.ref M),none] H
 unfold d8
 rw [aH,aD]
 walk_at "w"
 refine ⟨k,r,p,ws,cs,n,m,z,rfl,x,hC.1,fun O H1 s1 hO eO=>?_⟩
 walk_at "w"
 refine ⟨O,M,_,ms,rfl,eO,Nat.le_trans (List.length_filter_le _ _) hC.1,s1 _ _ hM,?_⟩
 unfold pairB at q
 cases hb:ordB (cs.filter fun x=>!decide (x=z)) ms with
 | false=>
  rw [hb,Bool.false_and] at q
  refine ⟨false,rfl,iteT ?_⟩
  walk_at "w"
  exact q _ s1
 | true=>
  rw [hb,Bool.true_and] at q
  refine ⟨true,rfl,iteF ?_⟩
  exact lg hC mm (s1 _ _ hA) (s1 _ _ hM) hb fun H' s2=>q H' (s1.trans s2)
theorem wX (t:TK):decide (tkC t=[115,116,101,112])=decide (t=.step):=by cases t <;> decide
def bp (K:PySem.W.Frag):Sp:=fun vs H Q _=>∃ (A C:Addr) (masks cs:List Int),vs=[.ref A,.ref C]∧H A=some (.lst (masks.map V.int))∧H C=some (.lst (cs.map V.int))∧bT cs masks.length∧∀ l H',Same H H'→H l=none→H' l=some (.lst ((sgAt masks cs).map V.int))→Q (.ref l) H'
theorem rE {K:PySem.W.Frag} {vs:List V} {H:Hp} {Q:VK} {E:XK} (h:bp K vs H Q E):vs.length=2:=by
 obtain ⟨_,_,_,_,rfl,_⟩:=h; rfl
def iq (K:PySem.W.Frag):TS:=
 (tRet (tComp [none,none,some 0] (iList K (tVar 1)) (gName 1) tTrue (tOp cIx (tVar 2) (tVar 1))))
theorem rF {K:PySem.W.Frag} {vs:List V} {H:Hp} {Q:VK} {E:XK} (h:bp K vs H Q E):iq K { nx:=fun _ H'=>Q .non H',rt:=Q } (start ["masks","cells"] vs) H:=by
 obtain ⟨A,C,masks,cs,rfl,hA,hC,⟨hn,hc⟩,q⟩:=h
 show iq K _ [some (.ref A),some (.ref C)] H
 unfold iq
 walk_at "w"
 refine ⟨⟨_,SqL.of hC⟩,?_⟩
 refine cH (xs:=cs) (fun _=>true) (fun c=>masks.getD c.toNat 0) (by omega) (SqL.of hC) ?_ ?_ ?_
 · intro x H1 R hx s1 k1
   exact k1 _ (Same.refl _)
 · intro z H1 Q1 hz hb s1 k1
   show tOp cIx _ _ [none,some (.int z),some (.ref A)] H1 Q1
   walk_at "w"
   have:=hc z hz
   exact ixI (s1 _ _ hA) this.1 (by omega) (k1 _ (Same.refl _))
 · intro l H1 hl s1 el
   rw [em] at el
   exact q l H1 s1 hl el
def b2 (K:PySem.W.Frag):Sp:=fun vs H Q _=>∃ (C:Addr) (ms:List Int) (s:Int),vs=[.ref C,.int s]∧H C=some (.lst (ms.map V.int))∧ms.length≤63∧∀ H',Same H H'→Q (.int ((ms.filter fun m=>stB m s).length:Nat)) H'
theorem rG {K:PySem.W.Frag} {vs:List V} {H:Hp} {Q:VK} {E:XK} (h:b2 K vs H Q E):vs.length=2:=by
 obtain ⟨_,_,_,rfl,_⟩:=h; rfl
def iu (K:PySem.W.Frag):TS:=
 (tRet (tCB kLen (tCons (tComp [none,none,some 1] (iList K (tVar 0)) (gName 1) (tB (tCall (bO K) [] E0 (tCons (tVar 1) (tCons (tVar 2) tNil)))) (tVar 1)) tNil)))
theorem rH {K:PySem.W.Frag} {vs:List V} {H:Hp} {Q:VK} {E:XK} (h:b2 K vs H Q E):iu K { nx:=fun _ H'=>Q .non H',rt:=Q } (start ["some","sign"] vs) H:=by
 obtain ⟨C,ms,s,rfl,hC,hn,q⟩:=h
 show iu K _ [some (.ref C),some (.int s)] H
 unfold iu
 walk_at "w"
 refine ⟨⟨_,SqL.of hC⟩,?_⟩
 refine cH (xs:=ms) (fun m=>stB m s) (fun m=>m) (by omega) (SqL.of hC) ?_ ?_ ?_
 · intro x H1 R hx s1 k1
   show tB _ [none,some (.int x),some (.int s)] H1 R
   walk_at "w"
   exact ⟨x,s,rfl,_,rfl,k1 _ (Same.refl _)⟩
 · intro z H1 Q1 hz hb s1 k1
   show tVar 1 [none,some (.int z),some (.int s)] H1 Q1
   walk_at "w"
   exact k1 _ (Same.refl _)
 · intro l H1 hl s1 el
   rw [List.map_id'] at el
   rw [cF el,List.length_map]
   exact q _ s1
def jf (g:Int) (cs masks:List Int) (z s:Int) (ms:List Int):Bool:=decide ((cs.length:Int)=g)&&(decide (ms.length=1)&&(!decide (ms.getD 0 0=s)&&((decide (1≤ms.getD 0 0)&&decide (ms.getD 0 0≤g))&&decide (((sgAt masks (cs.filter fun x=>!decide (x=z))).filter fun m=>stB m (ms.getD 0 0)).length=0))))
def bW (K:PySem.W.Frag) (c:RCl RK):Sp:=fun vs H Q _=>∃ (k:RK) (f r p A M:Addr) (ws:List (List Nat)) (cs masks ms:List Int) (n m z s h w g:Int),vs=[.ref f,.ref r,.ref A,.int z,.int s,.ref M]∧IsFl H f h w g∧IsRule H c k r p ws cs n m∧bT cs masks.length∧H A=some (.lst (masks.map V.int))∧H M=some (.lst (ms.map V.int))∧∀ H',Same H H'→Q (.bl (jf g cs masks z s ms)) H'
theorem mL {K:PySem.W.Frag} {c:RCl RK} {vs:List V} {H:Hp} {Q:VK} {E:XK} (h:bW K c vs H Q E):vs.length=6:=by
 obtain ⟨_,_,_,_,_,_,_,_,_,_,_,_,_,_,_,_,_,rfl,_⟩:=h; rfl
def dJ (K:PySem.W.Frag) (c:RCl RK):TS:=
 (tRet (tOp (cEq K) (tCall (b2 K) [] E0 (tCons (tCall (bp K) [] E0 (tCons (tVar 2) (tCons (tCall (bP K c) [] E0 (tCons (tVar 1) (tCons (tVar 3) tNil))) tNil))) (tCons (tOp cIx (tVar 5) (tC (.int 0))) tNil))) (tC (.int 0))))
def gL (K:PySem.W.Frag) (c:RCl RK):TS:=
 (tSeq (tIfS (tOr (tTest (tOp (cEq K) (tOp cIx (tVar 5) (tC (.int 0))) (tVar 4))) (tNot (tB (tCall (cL K) [] E0 (tCons (tVar 0) (tCons (tOp cIx (tVar 5) (tC (.int 0))) tNil)))))) (tRet (tC (.bl false))) tNext)
  (dJ K c))
def dt (K:PySem.W.Frag) (c:RCl RK):TS:=
 (tSeq (tIfS (tOr (tTest (tOp (cNe K) (tCB kLen (tCons (b5 c c.ok "spots" (eu K c) (tVar 1) tNil) tNil)) (tOp cIx (tVar 0) (tC (.int 2))))) (tTest (tOp (cNe K) (tCB kLen (tCons (tVar 5) tNil)) (tC (.int 1))))) (tRet (tC (.bl false))) tNext)
  (gL K c))
theorem kI {K:PySem.W.Frag} {c:RCl RK} {H:Hp} {Q:VK} {k:RK} {f r p A M:Addr} {ws:List (List Nat)} {cs masks ms:List Int} {n m z s:Int} (x:IsRule H c k r p ws cs n m) (hC:bT cs masks.length) (hA:H A=some (.lst (masks.map V.int))) (hM:H M=some (.lst (ms.map V.int))) (hl:ms.length=1)
  (q:∀ H',Same H H'→Q (.bl (decide (((sgAt masks (cs.filter fun x=>!decide (x=z))).filter fun m=>stB m (ms.getD 0 0)).length=0))) H'):
  dJ K c { nx:=fun _ H'=>Q .non H',rt:=Q } [some (.ref f),some (.ref r),some (.ref A),some (.int z),some (.int s),some (.ref M)] H:=by
 unfold dJ
 walk_at "w"
 refine ⟨k,r,p,ws,cs,n,m,z,rfl,x,hC.1,fun O H1 s1 hO eO=>?_⟩
 walk_at "w"
 have hC2:bT (cs.filter fun x=>!decide (x=z)) masks.length:=⟨Nat.le_trans (List.length_filter_le _ _) hC.1,fun y hy=>hC.2 y (List.mem_filter.mp hy).1⟩
 refine ⟨A,O,masks,_,rfl,s1 _ _ hA,eO,hC2,fun B H2 s2 hB eB=>?_⟩
 dsimp only
 refine ixI ((s1.trans s2) _ _ hM) (by decide) (by omega) ?_
 rw [show (0:Int).toNat=0 from rfl]
 walk_at "w"
 refine ⟨B,_,_,rfl,eB,by unfold sgAt; rw [List.length_map]; exact hC2.1,fun H3 s3=>?_⟩
 walk_at "w"
 have q1:=q H3 ((s1.trans s2).trans s3)
 have e:decide ((((sgAt masks (cs.filter fun x=>!decide (x=z))).filter fun m=>stB m (ms.getD 0 0)).length:Int)=0)=decide (((sgAt masks (cs.filter fun x=>!decide (x=z))).filter fun m=>stB m (ms.getD 0 0)).length=0):=by
  rw [Bool.eq_iff_iff,decide_eq_true_eq,decide_eq_true_eq]; omega
 rw [e]
 exact q1
theorem mM {K:PySem.W.Frag} {c:RCl RK} {vs:List V} {H:Hp} {Q:VK} {E:XK} (h:bW K c vs H Q E):dt K c { nx:=fun _ H'=>Q .non H',rt:=Q } (start ["floor","rule","masks","cell","sign","more"] vs) H:=by
 obtain ⟨k,f,r,p,A,M,ws,cs,masks,ms,n,m,z,s,h,w,g,rfl,hf,x,hC,hA,hM,q⟩:=h
 obtain ⟨dx,W,C,h1,h2,h3⟩:=x.ex
 show dt K c _ [some (.ref f),some (.ref r),some (.ref A),some (.int z),some (.int s),some (.ref M)] H
 unfold dt
 rw [aH,aD]
 walk_at "w"
 refine methE (k:=k) rfl x.ok h1 (by rfl) ?_
 walk_at "w"
 refine ⟨r,p,ws,cs,n,m,rfl,x,fun l hl=>?_⟩
 have s1:Same H (upd H l (.lst (cs.map V.int))):=(Same.refl H).laid hl
 have el:(upd H l (.lst (cs.map V.int))) l=some (.lst (cs.map V.int)):=ag
 generalize upd H l (.lst (cs.map V.int))=H1 at*
 dsimp only
 rw [cF el,List.length_map]
 refine ixT (s1 _ _ hf) (v:=V.int g) rfl ?_
 walk_at "w"
 unfold jf at q
 cases hb:decide ((cs.length:Int)=g) with
 | false=>
  rw [hb,Bool.false_and] at q
  walk_at "w"
  exact q _ s1
 | true=>
  rw [hb,Bool.true_and] at q
  walk_at "w"
  rw [cF (s1 _ _ hM),List.length_map]
  walk_at "w"
  have e1:decide ((ms.length:Int)=1)=decide (ms.length=1):=by
   rw [Bool.eq_iff_iff,decide_eq_true_eq,decide_eq_true_eq]; omega
  rw [e1]
  cases hb2:decide (ms.length=1) with
  | false=>
   rw [hb2,Bool.false_and] at q
   walk_at "w"
   exact q _ s1
  | true=>
   rw [hb2,Bool.true_and] at q
   have hl1:=of_decide_eq_true hb2
   walk_at "w"
   unfold gL
   rw [aH,aD]
   walk_at "w"
   refine ixI (s1 _ _ hM) (by decide) (by omega) ?_
   rw [show (0:Int).toNat=0 from rfl]
   walk_at "w"
   cases hb3:decide (ms.getD 0 0=s) with
   | true=>
    rw [hb3,Bool.not_true,Bool.false_and] at q
    refine iteT ?_
    walk_at "w"
    exact q _ s1
   | false=>
    rw [hb3,Bool.not_false,Bool.true_and] at q
    refine iteF ?_
    refine ixI (s1 _ _ hM) (by decide) (by omega) ?_
    rw [show (0:Int).toNat=0 from rfl]
    walk_at "w"
    refine ⟨f,h,w,g,_,rfl,s1 _ _ hf,?_⟩
    cases hb4:(decide (1≤ms.getD 0 0)&&decide (ms.getD 0 0≤g)) with
    | false=>
     rw [hb4,Bool.false_and] at q
     refine ⟨false,rfl,iteT ?_⟩
     walk_at "w"
     exact q _ s1
    | true=>
     rw [hb4,Bool.true_and] at q
     refine ⟨true,rfl,iteF ?_⟩
     exact kI (x.same s1) hC (s1 _ _ hA) (s1 _ _ hM) hl1 fun H' s2=>q H' (s1.trans s2)
theorem vK (t:TK):decide (tkC t=[112,108,97,99,101])=decide (t=.place):=by cases t <;> decide
def qI (g:Int) (t:TK) (x:RR) (masks:List Int) (z s:Int) (ms:List Int):Bool:=match t with
 | .only=>onlyB x.cs masks z s ms
 | .place=>jf g x.cs masks z s ms
 | _=>pairB x.cs masks z s ms
def fk (g:Int) (rows:List RR) (cl masks:List Int) (t:TK) (r z s:Int) (ms:List Int):Bool:=match t with
 | .clue=>clueB cl z s ms
 | _=>match rows[r.toNat]? with
  | none=>false
  | some x=>qI g t x masks z s ms
abbrev K28 (t:TK):Prop:=t=.clue∨t=.only∨t=.place∨t=.pair
def bh (K:PySem.W.Frag) (c:RCl RK) (d:RCl PzK):Sp:=fun vs H Q _=>∃ (P L G A T M:Addr) (h w g:Int) (rows:List RR) (cl masks:List Int) (t:TK) (r z s:Int) (ms:List Int),vs=[.ref P,.ref A,.ref T]∧Asks H c d P L G A T M h w g rows cl masks t r z s ms∧K28 t∧(∀ m∈masks,0≤m∧m < 64)∧formB h w g rows t r z s=true∧∀ H',Same H H'→Q (.bl (fk g rows cl masks t r z s ms)) H'
theorem kq {K:PySem.W.Frag} {c:RCl RK} {d:RCl PzK} {vs:List V} {H:Hp} {Q:VK} {E:XK} (h:bh K c d vs H Q E):vs.length=3:=by
 obtain ⟨_,_,_,_,_,_,_,_,_,_,_,_,_,_,_,_,_,rfl,_⟩:=h; rfl
def cm (K:PySem.W.Frag) (c:RCl RK) (d:RCl PzK):TS:=
 (tSeq (tAsg (tOp cIx (tVar 2) (tC (.int 0))) (gName 3))
  (tSeq (tAsg (tOp cIx (tVar 2) (tC (.int 2))) (gName 4))
  (tSeq (tAsg (tOp cIx (tVar 2) (tC (.int 3))) (gName 5))
  (tSeq (tAsg (tOp cIx (tVar 2) (tC (.int 4))) (gName 6))
  (tSeq (tIfS (tTest (tOp (cEq K) (tVar 3) (tC (.str (tx [99,108,117,101]))))) (tRet (tCall (b9 K) [] E0 (tCons (b5 d d.ok "clues" (km K c d) (tVar 0) tNil) (tCons (tVar 4) (tCons (tVar 5) (tCons (tVar 6) tNil)))))) tNext)
  (tSeq (tAsg (tOp cIx (b5 d d.ok "rules" (eE K c d) (tVar 0) tNil) (tOp cIx (tVar 2) (tC (.int 1)))) (gName 7))
  (tSeq (tIfS (tTest (tOp (cEq K) (tVar 3) (tC (.str (tx [111,110,108,121]))))) (tRet (tCall (ca K c) [] E0 (tCons (tVar 7) (tCons (tVar 1) (tCons (tVar 4) (tCons (tVar 5) (tCons (tVar 6) tNil))))))) tNext)
  (tSeq (tIfS (tTest (tOp (cEq K) (tVar 3) (tC (.str (tx [112,108,97,99,101]))))) (tRet (tCall (bW K c) [] E0 (tCons (b5 d d.ok "place" (eD K c d) (tVar 0) tNil) (tCons (tVar 7) (tCons (tVar 1) (tCons (tVar 4) (tCons (tVar 5) (tCons (tVar 6) tNil)))))))) tNext)
  (tSeq (tIfS (tTest (tOp (cEq K) (tVar 3) (tC (.str (tx [115,116,101,112]))))) (tRet oN) tNext)
  (tRet (tCall (ce K c) [] E0 (tCons (tVar 7) (tCons (tVar 1) (tCons (tVar 4) (tCons (tVar 5) (tCons (tVar 6) tNil))))))))))))))))
theorem kr {K:PySem.W.Frag} {c:RCl RK} {d:RCl PzK} {vs:List V} {H:Hp} {Q:VK} {E:XK} (h:bh K c d vs H Q E):cm K c d { nx:=fun _ H'=>Q .non H',rt:=Q } (start ["puzzle","masks","thought","kind","cell","sign","more","rule"] vs) H:=by
 obtain ⟨P,L,G,A,T,M,h,w,g,rows,cl,masks,t,r,z,s,ms,rfl,X,ht,mm,f,q⟩:=h
 obtain ⟨dx,p,rs,h1,h2,h3⟩:=X.P.ex
 obtain ⟨z0,z1,s0,s1',hit⟩:=pe f
 have hcl:=X.P.C.len
 have hg:=X.P.R.F.g1
 show cm K c d _ [some (.ref P),some (.ref A),some (.ref T),none,none,none,none,none] H
 unfold cm
 walk_at "w"
 refine ixT X.T.T (v:=V.str (tx (tkC t))) rfl ?_
 walk_at "w"
 refine ixT X.T.T (v:=V.int z) rfl ?_
 walk_at "w"
 refine ixT X.T.T (v:=V.int s) rfl ?_
 walk_at "w"
 refine ixT X.T.T (v:=V.ref M) rfl ?_
 walk_at "w"
 rw [aD]
 walk_at "w"
 rw [cw,oM]
 by_cases hc:t=.clue
 · subst hc
   rw [decide_eq_true rfl]
   refine iteT ?_
   refine methE (k:=.Puzzle) rfl X.P.ok h1 (by rfl) ?_
   walk_at "w"
   refine ⟨P,L,G,h,w,g,rows,cl,rfl,X.P,fun l hl=>?_⟩
   have s2:Same H (upd H l (.lst (cl.map V.int))):=(Same.refl H).laid hl
   exact ⟨l,M,z,s,cl,ms,rfl,ag,z0,by omega,s2 _ _ X.T.M,fun H' s3=>q H' (s2.trans s3)⟩
 · rw [decide_eq_false hc]
   obtain ⟨r0,y,ey,_,hz⟩:=sh hc hit
   have q2:∀ H',Same H H'→Q (.bl (qI g t y masks z s ms)) H':=fun H' s'=>by
    have q1:=q H' s'
    have e:fk g rows cl masks t r z s ms=qI g t y masks z s ms:=by
     unfold fk
     cases t <;> first | exact absurd rfl hc | (dsimp only; rw [ey])
    rw [e] at q1
    exact q1
   refine iteF ?_
   refine methE (k:=.Puzzle) rfl X.P.ok h1 (by rfl) ?_
   walk_at "w"
   refine ⟨P,L,G,h,w,g,rows,cl,rfl,X.P,fun l p2 rs2 hl hp2 Y=>?_⟩
   have s2:Same H (upd H l (.lst (rs2.map V.ref))):=(Same.refl H).laid hl
   generalize upd H l (.lst (rs2.map V.ref))=H1 at*
   have hlt:=(List.getElem?_eq_some_iff.mp ey).1
   have hlen:=Y.len
   have ea:rs2[r.toNat]? =some rs2[r.toNat]:=List.getElem?_eq_getElem (by omega)
   have O:=X.P.R.ok y (List.mem_of_getElem? ey)
   have hin:bT y.cs masks.length:=by rw [X.n]; exact RR.cin22 O X.P.R.F
   dsimp only
   refine ixT (s2 _ _ X.T.T) (v:=V.int r) rfl ?_
   refine ixL Y.top (my r0 ea) ?_
   walk_at "w"
   rw [aD]
   walk_at "w"
   rw [cw,wW]
   by_cases ho:t=.only
   · subst ho
     rw [decide_eq_true rfl]
     refine iteT ?_
     walk_at "w"
     exact ⟨_,_,p2,A,M,_,y.cs,masks,ms,_,_,z,s,rfl,Y.at_ _ _ _ ea ey,hin,s2 _ _ X.A,s2 _ _ X.T.M,by omega,fun H' s3=>q2 H' (s2.trans s3)⟩
   · rw [decide_eq_false ho]
     refine iteF ?_
     rw [aD]
     walk_at "w"
     rw [cw,vK]
     by_cases hp:t=.place
     · subst hp
       rw [decide_eq_true rfl]
       refine iteT ?_
       refine methE (k:=.Puzzle) rfl X.P.ok (s2 _ _ h1) (by rfl) ?_
       walk_at "w"
       refine ⟨P,L,G,h,w,g,rows,cl,rfl,X.P.same s2,fun p3 hp3=>?_⟩
       walk_at "w"
       exact ⟨_,p3,_,p2,A,M,_,y.cs,masks,ms,_,_,z,s,h,w,g,rfl,hp3,Y.at_ _ _ _ ea ey,hin,s2 _ _ X.A,s2 _ _ X.T.M,fun H' s3=>q2 H' (s2.trans s3)⟩
     · have hpr:t=.pair:=((ht.resolve_left hc).resolve_left ho).resolve_left hp
       subst hpr
       rw [decide_eq_false hp]
       refine iteF ?_
       rw [aD]
       walk_at "w"
       rw [cw,wX,decide_eq_false (show ¬ TK.pair=TK.step by decide)]
       refine iteF ?_
       walk_at "w"
       exact ⟨_,_,p2,A,M,_,y.cs,masks,ms,_,_,z,s,rfl,Y.at_ _ _ _ ea ey,hin,mm,s2 _ _ X.A,s2 _ _ X.T.M,fun H' s3=>q2 H' (s2.trans s3)⟩
end L2
namespace L2
open PySem PySem.Spec PyProof.Rows
end L2
namespace L2
open PySem PySem.Spec PyProof.Rows
local macro_rules | `(tactic| walk_at "w")=>`(tactic| (first | simp only [aH,k8,nw,jd,la,j2,j3,nA,nu,k7,nv,if_true,if_false,Bool.false_eq_true,decide_true,decide_false,i5,i6,lQ,gQ,fK,i3,jY,i4,gP,jW,jX,gO,lN,gR,gS,gU,gW,gX,gY,gT,jZ,j0,j1,jU,lP,Bool.not_true,Bool.not_false,fi,fq,b7,ft,w_c,jb,fW,fX,dA,fY,w_b,w_not,iC,kb,fZ,ga,iD,fu,dB,kc,gb,gc,gd,iz,iE,ge,gf,gh,gi,eK,eL,cX,dh,di,cG,fv,iF,iG,iH,ii,iI,iJ,iK,iL,iM,iN,iO,kf,gj,dj,gk,kg,gl,eP,dk,iP,iQ,gm,fj,gn,
 List.getElem?_cons_zero,List.getElem?_cons_succ,Option.some.injEq,exists_eq_left',exists_eq_left,List.set_cons_zero,List.set_cons_succ,cO,V.int.injEq,V.bl.injEq,V.ref.injEq,V.str.injEq,List.append_nil,List.nil_append,List.cons_append] | dsimp only | skip))
def bD (K:PySem.W.Frag):Sp:=fun vs H Q _=>∃ (C:Addr) (ms:List Int) (s:Int),vs=[.ref C,.int s]∧H C=some (.lst (ms.map V.int))∧ms.length≤63∧s≤100000∧∀ H',Same H H'→Q (.int ((ms.filter fun m=>decide (woI m s=0)).length:Nat)) H'
theorem qJ {K:PySem.W.Frag} {vs:List V} {H:Hp} {Q:VK} {E:XK} (h:bD K vs H Q E):vs.length=2:=by
 obtain ⟨_,_,_,rfl,_⟩:=h; rfl
def gA (K:PySem.W.Frag):TS:=
 (tRet (tCB kLen (tCons (tComp [none,none,some 1] (iList K (tVar 0)) (gName 1) (tB (tCall (bf K) [] E0 (tCons (tVar 1) (tCons (tVar 2) tNil)))) (tVar 1)) tNil)))
theorem qK {K:PySem.W.Frag} {vs:List V} {H:Hp} {Q:VK} {E:XK} (h:bD K vs H Q E):gA K { nx:=fun _ H'=>Q .non H',rt:=Q } (start ["some","sign"] vs) H:=by
 obtain ⟨C,ms,s,rfl,hC,hn,hs,q⟩:=h
 show gA K _ [some (.ref C),some (.int s)] H
 unfold gA
 walk_at "w"
 refine ⟨⟨_,SqL.of hC⟩,?_⟩
 refine cH (xs:=ms) (fun m=>decide (woI m s=0)) (fun m=>m) (by omega) (SqL.of hC) ?_ ?_ ?_
 · intro x H1 R hx s1 k1
   show tB _ [none,some (.int x),some (.int s)] H1 R
   walk_at "w"
   exact ⟨x,s,rfl,hs,_,rfl,k1 _ (Same.refl _)⟩
 · intro z H1 Q1 hz hb s1 k1
   show tVar 1 [none,some (.int z),some (.int s)] H1 Q1
   walk_at "w"
   exact k1 _ (Same.refl _)
 · intro l H1 hl s1 el
   rw [List.map_id'] at el
   rw [cF el,List.length_map]
   exact q _ s1
def rosP (c z:Int) (q:List Int):Bool:=decide (q.getD 0 0=c)&&decide (z∈q)
def rosL (h w c z:Int):List Int:=match (squL h w).find? (rosP c z) with
 | none=>[]
 | some q=>q.filter fun x=>!decide (x=z)
theorem oO {h w:Int} {q:List Int} (hq:q∈squL h w):∃ i:Nat,i < (h*w).toNat∧cornB h w i=true∧q=sqL w i:=by
 unfold squL at hq
 obtain ⟨i,hi,rfl⟩:=List.mem_map.mp hq
 obtain ⟨hi,hc⟩:=List.mem_filter.mp hi
 exact ⟨i,List.mem_range.mp hi,hc,rfl⟩
theorem wY {h w c:Int} (w0:1≤w) (c0:0≤c) (hc:cornB h w c=true):c+w+1 < h*w:=by
 unfold cornB at hc
 rw [Bool.and_eq_true,decide_eq_true_eq,decide_eq_true_eq] at hc
 have e:=Int.mul_ediv_add_emod c w
 have m:=Int.mul_le_mul_of_nonneg_left (show c / w+2≤h by omega) (show 0≤w by omega)
 rw [Int.mul_add] at m
 rw [Int.mul_comm h w]
 omega
theorem yB {h w c x:Int} (w0:1≤w) (c0:0≤c) (hc:cornB h w c=true) (hx:x∈sqL w c):0≤x∧x < h*w:=by
 have:=wY w0 c0 hc
 simp [sqL] at hx
 omega
theorem x3 {h w g c z:Int} {n:Nat} (F:FlOk h w g) (hn:n=(h*w).toNat):bT (rosL h w c z) n:=by
 have w0:=F.w0
 unfold rosL
 cases e:(squL h w).find? (rosP c z) with
 | none=>exact ⟨by show (0:Nat)≤63; omega,fun x hx=>by cases hx⟩
 | some q=>
  obtain ⟨i,hi,hc,rfl⟩:=oO (List.mem_of_find?_eq_some e)
  refine ⟨Nat.le_trans (List.length_filter_le _ _) (by show (4:Nat)≤63; omega),fun x hx=>?_⟩
  have:=yB w0 (by omega) hc (List.mem_filter.mp hx).1
  omega
def bH (K:PySem.W.Frag):Sp:=fun vs H Q _=>∃ (f:Addr) (h w g c z:Int),vs=[.ref f,.int c,.int z]∧IsFl H f h w g∧FlOk h w g∧∀ l H',Same H H'→H l=none→H' l=some (.lst ((rosL h w c z).map V.int))→Q (.ref l) H'
theorem lW {K:PySem.W.Frag} {vs:List V} {H:Hp} {Q:VK} {E:XK} (h:bH K vs H Q E):vs.length=3:=by
 obtain ⟨_,_,_,_,_,_,rfl,_⟩:=h; rfl
def cR (K:PySem.W.Frag):TS:=
 (tSeq (tFor (iList K (tCall (eV K) [] E0 (tCons (tVar 0) tNil))) (gName 3)
  (tIfS (tAnd (tTest (tOp (cEq K) (tOp cIx (tVar 3) (tC (.int 0))) (tVar 1))) (tTest (tOp (cIn K false) (tVar 2) (tVar 3)))) (tRet (tComp [none,none,some 2] (iList K (tVar 3)) (gName 1) (tTest (tOp (cNe K) (tVar 1) (tVar 2))) (tVar 1))) tNext))
  (tRet (tLst tNil)))
theorem lX {K:PySem.W.Frag} {vs:List V} {H:Hp} {Q:VK} {E:XK} (h:bH K vs H Q E):cR K { nx:=fun _ H'=>Q .non H',rt:=Q } (start ["floor","corner","cell","square"] vs) H:=by
 obtain ⟨f,h,w,g,c,z,rfl,hf,F,q⟩:=h
 show cR K _ [some (.ref f),some (.int c),some (.int z),none] H
 unfold cR
 rw [aH]
 walk_at "w"
 refine ⟨f,h,w,g,rfl,hf,F,fun l as H1 s1 hl x nd nl hn=>?_⟩
 refine ⟨l,rfl,⟨_,SqL.of x.top⟩,?_⟩
 refine mn (K:=K) (xs:=as.map V.ref) (fun i σ H'=>∃ sv:Option V,σ=[some (.ref f),some (.int c),some (.int z),sv]∧Same H1 H'∧∀ (j:Nat) (q:List Int),j < i→(squL h w)[j]? =some q→rosP c z q=false) ⟨none,rfl,Same.refl _,fun j q hj=>by omega⟩ (fun i σ H' _ ⟨_,_,s,_⟩=>s.seq (SqL.of x.top)) ?_ ?_
 · rintro i v σ H2 hv ⟨sv,rfl,s2,hno⟩
   rw [List.getElem?_map] at hv
   cases ha:as[i]? with
   | none=>rw [ha] at hv; cases hv
   | some a=>
   rw [ha] at hv
   cases hv
   have hlt:i < (squL h w).length:=by rw [← x.len]; exact (List.getElem?_eq_some_iff.mp ha).1
   have eq:(squL h w)[i]? =some (squL h w)[i]:=List.getElem?_eq_getElem hlt
   have ea:=(x.same s2).at_ i a _ ha eq
   have q4:((squL h w)[i]).length=4:=by
    obtain ⟨k,_,_,e⟩:=oO (List.getElem_mem hlt)
    rw [e]; rfl
   have nx:rosP c z (squL h w)[i]=false→∀ (j:Nat) (q:List Int),j < i+1→(squL h w)[j]? =some q→rosP c z q=false:=fun hf j q hj hq=>by
    by_cases hji:j=i
    · subst hji
      rw [eq] at hq
      cases hq
      exact hf
    · exact hno j q (by omega) hq
   have fo:rosP c z (squL h w)[i]=true→rosL h w c z=(squL h w)[i].filter fun x=>!decide (x=z):=fun ht=>by
    have e:(squL h w).find? (rosP c z)=some (squL h w)[i]:=by
     rw [List.find?_eq_some_iff_getElem]
     refine ⟨ht,i,hlt,rfl,fun j hj=>?_⟩
     rw [hno j _ hj (List.getElem?_eq_getElem (by omega))]
     rfl
    unfold rosL
    rw [e]
   generalize (squL h w)[i]=sq at*
   unfold rosP at nx fo
   walk_at "w"
   rw [aD]
   walk_at "w"
   refine ixI ea (by decide) (by omega) ?_
   rw [show (0:Int).toNat=0 from rfl]
   walk_at "w"
   cases hb:decide (sq.getD 0 0=c) with
   | false=>
    rw [hb,Bool.false_and] at nx
    refine iteF ?_
    walk_at "w"
    exact ⟨_,rfl,s2,nx rfl⟩
   | true=>
    rw [hb,Bool.true_and] at nx fo
    refine iteT ?_
    rw [sF ea]
    cases hb2:decide (z∈sq) with
    | false=>
     rw [hb2] at nx
     refine ⟨false,rfl,?_⟩
     walk_at "w"
     exact ⟨_,rfl,s2,nx rfl⟩
    | true=>
     rw [hb2] at fo
     refine ⟨true,rfl,?_⟩
     walk_at "w"
     refine ⟨⟨_,SqL.of ea⟩,?_⟩
     refine cH (xs:=sq) (fun x=>!decide (x=z)) (fun x=>x) (by omega) (SqL.of ea) ?_ ?_ ?_
     · intro y H3 R hy s3 k3
       show tTest _ [none,some (.int y),some (.int z)] H3 R
       walk_at "w"
       exact k3 _ (Same.refl _)
     · intro y H3 Q3 hy hb s3 k3
       show tVar 1 [none,some (.int y),some (.int z)] H3 Q3
       walk_at "w"
       exact k3 _ (Same.refl _)
     · intro T H3 hT s3 eT
       rw [List.map_id',← fo rfl] at eT
       exact q T H3 ((s1.trans s2).trans s3) ((s1.trans s2).free hT) eT
 · rintro σ H2 ⟨sv,rfl,s2,hno⟩
   have e:rosL h w c z=[]:=by
    have e:(squL h w).find? (rosP c z)=none:=by
     rw [List.find?_eq_none]
     intro q hq
     obtain ⟨i,hi⟩:=List.getElem?_of_mem hq
     rw [hno i q (by rw [List.length_map,x.len]; exact (List.getElem?_eq_some_iff.mp hi).1) hi]
     decide
    unfold rosL
    rw [e]
   walk_at "w"
   refine ⟨aB (by decide),fun T hT=>?_⟩
   exact q T _ ((s1.trans s2).trans ((Same.refl H2).laid hT)) ((s1.trans s2).free hT) (by rw [ag,e]; rfl)
def squB (h w m:Int) (masks:List Int) (z s:Int) (ms:List Int):Bool:=decide (s=m)&&(decide (ms.length=1)&&(!decide (rosL h w (ms.getD 0 0) z=[])&&decide (((sgAt masks (rosL h w (ms.getD 0 0) z)).filter fun k=>decide (woI k s=0)).length=(rosL h w (ms.getD 0 0) z).length)))
def bI (K:PySem.W.Frag) (c:RCl RK):Sp:=fun vs H Q _=>∃ (k:RK) (f r p A M:Addr) (ws:List (List Nat)) (cs masks ms:List Int) (n m z s h w g:Int),vs=[.ref f,.ref r,.ref A,.int z,.int s,.ref M]∧IsFl H f h w g∧FlOk h w g∧IsRule H c k r p ws cs n m∧masks.length=(h*w).toNat∧H A=some (.lst (masks.map V.int))∧H M=some (.lst (ms.map V.int))∧s≤1000∧∀ H',Same H H'→Q (.bl (squB h w m masks z s ms)) H'
theorem lY {K:PySem.W.Frag} {c:RCl RK} {vs:List V} {H:Hp} {Q:VK} {E:XK} (h:bI K c vs H Q E):vs.length=6:=by
 obtain ⟨_,_,_,_,_,_,_,_,_,_,_,_,_,_,_,_,_,rfl,_⟩:=h; rfl
def du (K:PySem.W.Frag) (c:RCl RK):TS:=
 (tSeq (tAsg (tCall (bH K) [] E0 (tCons (tVar 0) (tCons (tOp cIx (tVar 5) (tC (.int 0))) (tCons (tVar 3) tNil)))) (gName 6))
  (tRet (tAndV (tOp (cNe K) (tVar 6) (tLst tNil)) (tOp (cEq K) (tCall (bD K) [] E0 (tCons (tCall (bp K) [] E0 (tCons (tVar 2) (tCons (tVar 6) tNil))) (tCons (tVar 4) tNil))) (tCB kLen (tCons (tVar 6) tNil))))))
def cS (K:PySem.W.Frag) (c:RCl RK):TS:=
 (tSeq (tIfS (tOr (tTest (tOp (cNe K) (tVar 4) (b5 c c.ok "sign" (fN K c) (tVar 1) tNil))) (tTest (tOp (cNe K) (tCB kLen (tCons (tVar 5) tNil)) (tC (.int 1))))) (tRet (tC (.bl false))) tNext)
  (du K c))
theorem kt {K:PySem.W.Frag} {c:RCl RK} {H:Hp} {Q:VK} {f A M:Addr} {v1:V} {masks ms:List Int} {z s h w g:Int} (hf:IsFl H f h w g) (F:FlOk h w g) (hml:masks.length=(h*w).toNat) (hA:H A=some (.lst (masks.map V.int))) (hM:H M=some (.lst (ms.map V.int))) (hl:ms.length=1) (hs:s≤1000)
  (q:∀ H',Same H H'→Q (.bl (!decide (rosL h w (ms.getD 0 0) z=[])&&decide (((sgAt masks (rosL h w (ms.getD 0 0) z)).filter fun k=>decide (woI k s=0)).length=(rosL h w (ms.getD 0 0) z).length))) H'):
  du K c { nx:=fun _ H'=>Q .non H',rt:=Q } [some (.ref f),some v1,some (.ref A),some (.int z),some (.int s),some (.ref M),none] H:=by
 have hin:=x3 (c:=ms.getD 0 0) (z:=z) F hml
 unfold du
 walk_at "w"
 refine ixI hM (by decide) (by omega) ?_
 rw [show (0:Int).toNat=0 from rfl]
 walk_at "w"
 refine ⟨f,h,w,g,_,z,rfl,hf,F,fun R H1 s1 hR eR=>?_⟩
 walk_at "w"
 refine ⟨aB (by decide),fun Z hZ=>?_⟩
 have s2:Same H1 (upd H1 Z (.lst [])):=(Same.refl H1).laid hZ
 have eZ:(upd H1 Z (.lst [])) Z=some (.lst (([]:List Int).map V.int)):=ag
 generalize upd H1 Z (.lst [])=H2 at*
 have s12:=s1.trans s2
 refine yr (s2 _ _ eR) eZ ?_
 generalize hros:rosL h w (ms.getD 0 0) z=ros at*
 cases hb:decide (ros=[]) with
 | true=>
  rw [hb,Bool.not_true] at q
  refine ⟨false,rfl,iteF ?_⟩
  exact q _ s12
 | false=>
  rw [hb,Bool.not_false] at q
  refine ⟨true,rfl,iteT ?_⟩
  walk_at "w"
  refine ⟨A,R,masks,ros,rfl,s12 _ _ hA,s2 _ _ eR,hin,fun B H3 s3 hB eB=>?_⟩
  dsimp only
  refine ⟨B,_,s,rfl,eB,by unfold sgAt; rw [List.length_map]; exact hin.1,by omega,fun H4 s4=>?_⟩
  walk_at "w"
  rw [cF (((s2.trans s3).trans s4) _ _ eR),List.length_map]
  walk_at "w"
  have q1:=q H4 ((s12.trans s3).trans s4)
  have e:decide ((((sgAt masks ros).filter fun k=>decide (woI k s=0)).length:Int)=(ros.length:Int))=decide (((sgAt masks ros).filter fun k=>decide (woI k s=0)).length=ros.length):=by
   rw [Bool.eq_iff_iff,decide_eq_true_eq,decide_eq_true_eq]; omega
  rw [e]
  exact q1
theorem lZ {K:PySem.W.Frag} {c:RCl RK} {vs:List V} {H:Hp} {Q:VK} {E:XK} (h:bI K c vs H Q E):cS K c { nx:=fun _ H'=>Q .non H',rt:=Q } (start ["floor","rule","masks","cell","sign","more","rest"] vs) H:=by
 obtain ⟨k,f,r,p,A,M,ws,cs,masks,ms,n,m,z,s,h,w,g,rfl,hf,F,x,hml,hA,hM,hs,q⟩:=h
 obtain ⟨dx,W,C,h1,h2,h3⟩:=x.ex
 show cS K c _ [some (.ref f),some (.ref r),some (.ref A),some (.int z),some (.int s),some (.ref M),none] H
 unfold cS
 rw [aH,aD]
 walk_at "w"
 refine methE (k:=k) rfl x.ok h1 (by rfl) ?_
 walk_at "w"
 refine ⟨r,p,ws,cs,n,m,rfl,x,?_⟩
 walk_at "w"
 unfold squB at q
 cases hb:decide (s=m) with
 | false=>
  rw [hb,Bool.false_and] at q
  walk_at "w"
  exact q _ (Same.refl _)
 | true=>
  rw [hb,Bool.true_and] at q
  walk_at "w"
  rw [cF hM,List.length_map]
  walk_at "w"
  have e1:decide ((ms.length:Int)=1)=decide (ms.length=1):=by
   rw [Bool.eq_iff_iff,decide_eq_true_eq,decide_eq_true_eq]; omega
  rw [e1]
  cases hb2:decide (ms.length=1) with
  | false=>
   rw [hb2,Bool.false_and] at q
   walk_at "w"
   exact q _ (Same.refl _)
  | true=>
   rw [hb2,Bool.true_and] at q
   walk_at "w"
   exact kt hf F hml hA hM (of_decide_eq_true hb2) hs q
theorem uV (t:TK):decide (tkC t=[115,113,117,97,114,101])=decide (t=.square):=by cases t <;> decide
end L2
namespace L2
open PySem PySem.Spec PyProof.Rows
end L2
namespace L2
open PySem PySem.Spec PyProof.Rows
local macro_rules | `(tactic| walk_at "w")=>`(tactic| (first | simp only [aH,k8,nw,jd,la,j2,j3,nA,nu,k7,nv,if_true,if_false,Bool.false_eq_true,decide_true,decide_false,i5,i6,lQ,gQ,fK,i3,jY,i4,gP,jW,jX,gO,lN,gR,gS,gU,gW,gX,gY,gT,jZ,j0,j1,jU,lP,Bool.not_true,Bool.not_false,fi,fq,b7,ft,w_c,jb,fW,fX,dA,fY,w_b,w_not,iC,kb,fZ,ga,iD,fu,dB,kc,gb,gc,gd,iz,iE,ge,gf,gh,gi,eK,eL,cX,dh,di,cG,fv,iF,iG,iH,ii,iI,iJ,iK,iL,iM,iN,iO,kf,gj,dj,gk,kg,gl,eP,dk,iP,iQ,gm,fj,gn,
 List.getElem?_cons_zero,List.getElem?_cons_succ,Option.some.injEq,exists_eq_left',exists_eq_left,List.set_cons_zero,List.set_cons_succ,cO,V.int.injEq,V.bl.injEq,V.ref.injEq,V.str.injEq,List.append_nil,List.nil_append,List.cons_append] | dsimp only | skip))
def dv (K:PySem.W.Frag):Sp:=fun vs H Q _=>∃ (a l:Addr) (h w g st:Int) (cs:List Int),vs=[.ref a,.ref l,.int st]∧IsFl H a h w g∧0 < w∧w < 100∧H l=some (.lst (cs.map V.int))∧cs.length≤63∧
 ∀ (p:Addr) (H':Hp) (rs:List Int),Same H H'→H p=none→H' p=some (.lst (rs.map V.int))→rs.Pairwise (· < ·)→(∀ x,x∈rs↔RC h w cs st x)→Q (.ref p) H'
theorem sY {K:PySem.W.Frag} {vs:List V} {H:Hp} {Q:VK} {E:XK} (h:dv K vs H Q E):vs.length=3:=by
 obtain ⟨_,_,_,_,_,_,_,rfl,_⟩:=h; rfl
def iY (K:PySem.W.Frag):TS:=
 (tSeq (tIfS (tTest (tOp (cIn K true) (tVar 2) (tVar 1))) (tRet (tLst tNil)) tNext)
  (tSeq (tAsg (tLst (tCons (tVar 2) tNil)) (gName 3))
  (tSeq (tAsg (tC (.int 0)) (gName 4))
  (tSeq (tU (tTest (tOp (cCmp fun i j=>decide (i < j)) (tVar 4) (tCB kLen (tCons (tVar 3) tNil))))
  (tSeq (tFor (iList K (tCall (b4 K) [] E0 (tCons (tVar 0) (tCons (tOp cIx (tVar 3) (tVar 4)) tNil)))) (gName 5)
  (tIfS (tAnd (tTest (tOp (cIn K false) (tVar 5) (tVar 1))) (tTest (tOp (cIn K true) (tVar 5) (tVar 3)))) (tDrop (tBM K "list" bw (tVar 3) (tCons (tVar 5) tNil))) tNext))
  (tAsg (tOp cAdd (tVar 4) (tC (.int 1))) (gName 4))))
  (tRet (tCB lL (tCons (tVar 3) tNil)))))))
theorem sZ {K:PySem.W.Frag} {vs:List V} {H:Hp} {Q:VK} {E:XK} (h:dv K vs H Q E):iY K { nx:=fun _ H'=>Q .non H',rt:=Q } (start ["floor","cells","start","found","place","cell"] vs) H:=by
 obtain ⟨a,l,h,w,g,st,cs,rfl,ha,w0,w1,hl,hn,k⟩:=h
 show iY K _ [some (.ref a),some (.ref l),some (.int st),none,none,none] H
 unfold iY
 rw [aH,aD]
 walk_at "w"
 rw [ke hl]
 walk_at "w"
 by_cases hs:st∈cs
 · rw [if_neg (by simpa using hs)]
   walk_at "w"
   refine ⟨aB (by show (1:Nat)≤1000; decide),fun f hf=>?_⟩
   refine ⟨fun m σ H'=>∃ (fs:List Int) (pl:Nat) (cv:Option V),σ=[some (.ref a),some (.ref l),some (.int st),some (.ref f),some (.int pl),cv]∧Same H H'∧H' f=some (.lst (fs.map V.int))∧BI h w cs st fs pl∧m=cs.length - pl,
    ⟨_,[st],0,none,rfl,(Same.refl H).laid hf,ag,BI.start hs,rfl⟩,?_⟩
   rintro m σ H1 ⟨fs,pl,cv,rfl,s1,e1,B,rfl⟩
   have hfl:=B.len
   walk_at "w"
   rw [cF e1,List.length_map]
   walk_at "w"
   by_cases hp:pl < fs.length
   · rw [if_pos (by simpa using hp)]
     obtain ⟨x,hx⟩:∃ x,fs[pl]? =some x:=⟨fs[pl],by simp [hp]⟩
     have rx:RC h w cs st x:=B.rc x (List.mem_of_getElem? hx)
     refine ⟨fun σ H'=>∃ (fs:List Int) (cv:Option V),σ=[some (.ref a),some (.ref l),some (.int st),some (.ref f),some (.int ((pl:Int)+1)),cv]∧Same H H'∧H' f=some (.lst (fs.map V.int))∧BI h w cs st fs (pl+1),
      fun σ' H' ⟨fs',cv',e,s',e',B'⟩=>⟨_,by omega,fs',pl+1,cv',by rw [e]; rfl,s',e',B',rfl⟩,?_⟩
     walk_at "w"
     rw [wk e1]
     refine bb (mx (by omega) (by omega)) ?_
     walk_at "w"
     rw [show ((pl:Int)).toNat=pl from Int.toNat_natCast _,lO hx]
     refine ⟨a,h,w,g,x,rfl,s1 _ _ ha,w0,w1,fun b H2 s2 hb e2=>?_⟩
     have s12:=s1.trans s2
     refine ⟨b,rfl,⟨_,SqL.of e2⟩,mn (K:=K) (xs:=(besL h w x).map V.int) (fun i σ H'=>∃ (f2:List Int) (cv:Option V),σ=[some (.ref a),some (.ref l),some (.int st),some (.ref f),some (.int pl),cv]∧Same H H'∧H' b=some (.lst ((besL h w x).map V.int))∧H' f=some (.lst (f2.map V.int))∧BJ h w cs st fs pl ((besL h w x).take i) f2)
      ⟨fs,cv,rfl,s12,e2,s2 _ _ e1,BJ.zero B⟩ (fun i σ H' _ ⟨_,_,_,_,q,_⟩=>SqL.of q) ?_ ?_⟩
     · rintro i y σ H3 hy ⟨f2,cv2,rfl,s3,eb,ef,J⟩
       rw [List.getElem?_map] at hy
       cases hz:(besL h w x)[i]? with
       | none=>rw [hz] at hy; cases hy
       | some z=>
        rw [hz] at hy
        cases hy
        have hlen2:f2.length≤63:=Nat.le_trans (ki J.nd fun x hx=>(J.rc x hx).mem) hn
        have hmem:z∈besL h w x:=List.mem_of_getElem? hz
        have htake:(besL h w x).take (i+1)=(besL h w x).take i++[z]:=by rw [List.take_add_one,hz]; rfl
        have J2:=J.more rx hmem
        rw [← htake] at J2
        walk_at "w"
        rw [aD]
        walk_at "w"
        rw [sF (s3 _ _ hl)]
        walk_at "w"
        have fin:∀ H4:Hp,H4 f=some (.lst ((addC cs f2 z).map V.int))→(∀ c,c≠f→H4 c=H3 c)→∃ (f2:List Int) (cv:Option V),[some (V.ref a),some (.ref l),some (.int st),some (.ref f),some (.int pl),some (.int z)]=[some (.ref a),some (.ref l),some (.int st),some (.ref f),some (.int pl),cv]∧Same H H4∧H4 b=some (.lst ((besL h w x).map V.int))∧H4 f=some (.lst (f2.map V.int))∧BJ h w cs st fs pl ((besL h w x).take (i+1)) f2:=fun H4 q1 q2=>
         ⟨_,_,rfl,fun c o e=>by rw [q2 c (aE e hf)]; exact s3 c o e,by rw [q2 b (fun e=>by rw [e] at hb; rw [e1] at hb; cases hb)]; exact eb,q1,J2⟩
        by_cases c1:z∈cs
        · rw [if_pos (by simpa using c1)]
          rw [ke ef]
          by_cases c2:z∈f2
          · simp only [c2,decide_true,Bool.not_true,if_neg Bool.false_ne_true,V.bl.injEq,exists_eq_left']
            refine fin H3 ?_ fun _ _=>rfl
            rw [ef,addC,if_neg (fun q=>q.2 c2)]
          · simp only [c2,decide_false,Bool.not_false,if_true,V.bl.injEq,exists_eq_left']
            walk_at "w"
            refine ⟨cP ef,?_⟩
            rw [mt ef]
            refine ⟨by rw [List.length_map]; exact aJ (by omega),fin _ ?_ fun c hc=>aq hc⟩
            rw [ag,addC,if_pos ⟨c1,c2⟩]
            simp
        · rw [if_neg (by simpa using c1)]
          try simp only [if_neg Bool.false_ne_true]
          refine fin H3 ?_ fun _ _=>rfl
          rw [ef,addC,if_neg (fun q=>c1 q.1)]
     · rintro σ H3 ⟨f2,cv2,rfl,s3,eb,ef,J⟩
       rw [List.length_map,List.take_length] at J
       walk_at "w"
       exact ⟨f2,cv2,rfl,s3,ef,J.done B hx⟩
   · rw [if_neg (by simpa using hp)]
     walk_at "w"
     unfold lL
     dsimp only
     rw [e1]
     refine ⟨fs,rfl,by omega,fun rs p hpn pm ps=>?_⟩
     refine k p _ rs (s1.laid hpn) (s1.free hpn) ag (uA pm ps B.nd) fun x=>?_
     rw [pm.mem_iff]
     exact B.done hp x
 · rw [if_pos (by simpa using hs)]
   walk_at "w"
   refine ⟨Nat.zero_le _,fun p hp=>k p _ [] ((Same.refl H).laid hp) hp ag .nil fun x=>⟨(fun q=>nomatch q),fun r=>absurd (RC.st r) hs⟩⟩
noncomputable def rcB (h w:Int) (cs:List Int) (st x:Int):Bool:=@decide (RC h w cs st x) (Classical.propDecidable _)
theorem uW {h w:Int} {cs rs:List Int} {st x:Int} (hm:x∈rs↔RC h w cs st x):decide (x∈rs)=rcB h w cs st x:=by
 unfold rcB
 rw [Bool.eq_iff_iff,decide_eq_true_eq]
 exact hm.trans (@decide_eq_true_iff _ (Classical.propDecidable _)).symm
def anoB (h w:Int) (masks:List Int) (z m o:Int):Bool:=(decide (0≤o)&&decide (o < h*w))&&(!decide (o=z)&&decide (woI (masks.getD o.toNat 0) m=0))
def aY (K:PySem.W.Frag):Sp:=fun vs H Q _=>∃ (f A:Addr) (h w g z o m:Int) (masks:List Int),vs=[.ref f,.ref A,.int z,.int o,.int m]∧IsFl H f h w g∧FlOk h w g∧H A=some (.lst (masks.map V.int))∧masks.length=(h*w).toNat∧m≤1000∧Q (.bl (anoB h w masks z m o)) H
theorem js {K:PySem.W.Frag} {vs:List V} {H:Hp} {Q:VK} {E:XK} (h:aY K vs H Q E):vs.length=5:=by
 obtain ⟨_,_,_,_,_,_,_,_,_,rfl,_⟩:=h; rfl
def bQ (K:PySem.W.Frag):TS:=
 (tRet (tAndV (tCall (cK K) [] E0 (tCons (tVar 0) (tCons (tVar 3) tNil))) (tAndV (tOp (cNe K) (tVar 3) (tVar 2)) (tCall (bf K) [] E0 (tCons (tOp cIx (tVar 1) (tVar 3)) (tCons (tVar 4) tNil))))))
theorem jt {K:PySem.W.Frag} {vs:List V} {H:Hp} {Q:VK} {E:XK} (h:aY K vs H Q E):bQ K { nx:=fun _ H'=>Q .non H',rt:=Q } (start ["floor","masks","cell","other","mark"] vs) H:=by
 obtain ⟨f,A,h,w,g,z,o,m,masks,rfl,hf,F,hA,hml,hm,q⟩:=h
 show bQ K _ [some (.ref f),some (.ref A),some (.int z),some (.int o),some (.int m)] H
 unfold bQ
 walk_at "w"
 refine ⟨f,h,w,g,o,rfl,hf,F,?_⟩
 unfold anoB at q
 cases hb:(decide (0≤o)&&decide (o < h*w)) with
 | false=>
  rw [hb,Bool.false_and] at q
  exact ⟨false,rfl,iteF q⟩
 | true=>
  rw [hb,Bool.true_and] at q
  rw [Bool.and_eq_true,decide_eq_true_eq,decide_eq_true_eq] at hb
  refine ⟨true,rfl,iteT ?_⟩
  walk_at "w"
  cases hb2:decide (o=z) with
  | true=>
   rw [hb2,Bool.not_true,Bool.false_and] at q
   walk_at "w"
   exact q
  | false=>
   rw [hb2,Bool.not_false,Bool.true_and] at q
   walk_at "w"
   refine ixI hA hb.1 (by omega) ?_
   walk_at "w"
   exact ⟨_,m,rfl,by omega,q⟩
def thrL (cs masks:List Int) (m z:Int):List Int:=(cs.filter fun x=>!decide (x=z)).filter fun x=>stB (masks.getD x.toNat 0) m
noncomputable def reaB (h w:Int) (cs:List Int) (m:Int) (masks:List Int) (z s:Int) (ms:List Int):Bool:=
 (ms.all fun o=>anoB h w masks z m o)&&(if s=m then decide (ms.length=1)&&!rcB h w (thrL cs masks m z++[z]) z (ms.getD 0 0)
  else decide (ms.length=2)&&(!decide (ms.getD 0 0=ms.getD 1 0)&&!rcB h w (thrL cs masks m z) (ms.getD 0 0) (ms.getD 1 0)))
def bX (K:PySem.W.Frag) (c:RCl RK):Sp:=fun vs H Q _=>∃ (k:RK) (f r p A M:Addr) (ws:List (List Nat)) (cs masks ms:List Int) (n m z s h w g:Int),vs=[.ref f,.ref r,.ref A,.int z,.int s,.ref M]∧IsFl H f h w g∧FlOk h w g∧IsRule H c k r p ws cs n m∧bT cs masks.length∧cs.length≤60∧masks.length=(h*w).toNat∧H A=some (.lst (masks.map V.int))∧H M=some (.lst (ms.map V.int))∧ms.length≤100∧m≤1000∧∀ H',Same H H'→Q (.bl (reaB h w cs m masks z s ms)) H'
theorem mN {K:PySem.W.Frag} {c:RCl RK} {vs:List V} {H:Hp} {Q:VK} {E:XK} (h:bX K c vs H Q E):vs.length=6:=by
 obtain ⟨_,_,_,_,_,_,_,_,_,_,_,_,_,_,_,_,_,rfl,_⟩:=h; rfl
def dL (K:PySem.W.Frag) (c:RCl RK):TS:=
 (tSeq (tIfS (tTest (tOp (cEq K) (tVar 4) (tVar 6))) (tRet (tAndV (tOp (cEq K) (tCB kLen (tCons (tVar 5) tNil)) (tC (.int 1))) (tOp (cIn K true) (tOp cIx (tVar 5) (tC (.int 0))) (tCall (dv K) [] E0 (tCons (tVar 0) (tCons (tOp cAdd (tVar 7) (tLst (tCons (tVar 3) tNil))) (tCons (tVar 3) tNil))))))) tNext)
  (tSeq (tIfS (tOr (tTest (tOp (cNe K) (tCB kLen (tCons (tVar 5) tNil)) (tC (.int 2)))) (tTest (tOp (cEq K) (tOp cIx (tVar 5) (tC (.int 0))) (tOp cIx (tVar 5) (tC (.int 1)))))) (tRet (tC (.bl false))) tNext)
  (tRet (tOp (cIn K true) (tOp cIx (tVar 5) (tC (.int 1))) (tCall (dv K) [] E0 (tCons (tVar 0) (tCons (tVar 7) (tCons (tOp cIx (tVar 5) (tC (.int 0))) tNil))))))))
def dM (K:PySem.W.Frag) (c:RCl RK):TS:=
 (tSeq (sComp 7 [none,none,some 6,some 2] (iList K (tCall (bP K c) [] E0 (tCons (tVar 1) (tCons (tVar 3) tNil)))) (gName 1) (tB (tCall (bO K) [] E0 (tCons (tOp cIx (tVar 3) (tVar 1)) (tCons (tVar 2) tNil)))) (tVar 1))
  (dL K c))
def dw (K:PySem.W.Frag) (c:RCl RK):TS:=
 (tSeq (tAsg (b5 c c.ok "sign" (fN K c) (tVar 1) tNil) (gName 6))
  (tSeq (tIfS (tNot (tB (tCB kAll (tCons (tComp [none,none,some 3,some 0,some 6,some 2] (iList K (tVar 5)) (gName 1) tTrue (tCall (aY K) [] E0 (tCons (tVar 3) (tCons (tVar 5) (tCons (tVar 2) (tCons (tVar 1) (tCons (tVar 4) tNil))))))) tNil)))) (tRet (tC (.bl false))) tNext)
  (dM K c)))
theorem kJ {K:PySem.W.Frag} {c:RCl RK} {H:Hp} {Q:VK} {f A M N:Addr} {v1:V} {T ms:List Int} {m z s h w g:Int} (hf:IsFl H f h w g) (F:FlOk h w g) (hM:H M=some (.lst (ms.map V.int))) (hN:H N=some (.lst (T.map V.int))) (hT:T.length≤60)
  (q:∀ H',Same H H'→Q (.bl (if s=m then decide (ms.length=1)&&!rcB h w (T++[z]) z (ms.getD 0 0) else decide (ms.length=2)&&(!decide (ms.getD 0 0=ms.getD 1 0)&&!rcB h w T (ms.getD 0 0) (ms.getD 1 0)))) H'):
  dL K c { nx:=fun _ H'=>Q .non H',rt:=Q } [some (.ref f),some v1,some (.ref A),some (.int z),some (.int s),some (.ref M),some (.int m),some (.ref N)] H:=by
 have w0:=F.w0
 have w1:=F.w1
 unfold dL
 rw [aH,aD]
 walk_at "w"
 by_cases hs:s=m
 · rw [if_pos hs] at q
   rw [decide_eq_true hs]
   walk_at "w"
   rw [cF hM,List.length_map]
   walk_at "w"
   have e1:decide ((ms.length:Int)=1)=decide (ms.length=1):=by
    rw [Bool.eq_iff_iff,decide_eq_true_eq,decide_eq_true_eq]; omega
   rw [e1]
   cases hb:decide (ms.length=1) with
   | false=>
    rw [hb,Bool.false_and] at q
    walk_at "w"
    exact q _ (Same.refl _)
   | true=>
    rw [hb,Bool.true_and] at q
    have hl:=of_decide_eq_true hb
    walk_at "w"
    refine ixI hM (by decide) (by omega) ?_
    rw [show (0:Int).toNat=0 from rfl]
    walk_at "w"
    refine ⟨aB (by show (1:Nat)≤1000; decide),fun l hl2=>?_⟩
    have s1:Same H (upd H l (.lst [V.int z])):=(Same.refl H).laid hl2
    have el:(upd H l (.lst [V.int z])) l=some (.lst [V.int z]):=ag
    generalize upd H l (.lst [V.int z])=H1 at*
    refine qm (s1 _ _ hN) el (by simp; omega) fun Y hY=>?_
    have s2:Same H1 (upd H1 Y (.lst (T.map V.int++[V.int z]))):=(Same.refl H1).laid hY
    have eY:(upd H1 Y (.lst (T.map V.int++[V.int z]))) Y=some (.lst ((T++[z]).map V.int)):=by rw [ag]; simp
    generalize upd H1 Y (.lst (T.map V.int++[V.int z]))=H2 at*
    have s12:=s1.trans s2
    walk_at "w"
    refine ⟨f,Y,h,w,g,z,_,rfl,s12 _ _ hf,by omega,by omega,eY,by simp; omega,fun p H3 rs s3 hp ep _ hx=>?_⟩
    dsimp only
    rw [ke ep,uW (hx _)]
    exact q _ (s12.trans s3)
 · rw [if_neg hs] at q
   rw [decide_eq_false hs]
   walk_at "w"
   rw [aD]
   walk_at "w"
   rw [cF hM,List.length_map]
   walk_at "w"
   have e1:decide ((ms.length:Int)=2)=decide (ms.length=2):=by
    rw [Bool.eq_iff_iff,decide_eq_true_eq,decide_eq_true_eq]; omega
   rw [e1]
   cases hb:decide (ms.length=2) with
   | false=>
    rw [hb,Bool.false_and] at q
    walk_at "w"
    exact q _ (Same.refl _)
   | true=>
    rw [hb,Bool.true_and] at q
    have hl:=of_decide_eq_true hb
    walk_at "w"
    refine ixI hM (by decide) (by omega) ?_
    rw [show (0:Int).toNat=0 from rfl]
    walk_at "w"
    refine ixI hM (by decide) (by omega) ?_
    rw [show (1:Int).toNat=1 from rfl]
    walk_at "w"
    cases hb2:decide (ms.getD 0 0=ms.getD 1 0) with
    | true=>
     rw [hb2,Bool.not_true,Bool.false_and] at q
     walk_at "w"
     exact q _ (Same.refl _)
    | false=>
     rw [hb2,Bool.not_false,Bool.true_and] at q
     walk_at "w"
     refine ixI hM (by decide) (by omega) ?_
     rw [show (1:Int).toNat=1 from rfl]
     walk_at "w"
     refine ixI hM (by decide) (by omega) ?_
     rw [show (0:Int).toNat=0 from rfl]
     walk_at "w"
     refine ⟨f,N,h,w,g,_,_,rfl,hf,by omega,by omega,hN,by omega,fun p H3 rs s3 hp ep _ hx=>?_⟩
     dsimp only
     rw [ke ep,uW (hx _)]
     exact q _ s3
theorem kK {K:PySem.W.Frag} {c:RCl RK} {H:Hp} {Q:VK} {k:RK} {f r p A M:Addr} {ws:List (List Nat)} {cs masks ms:List Int} {n m z s h w g:Int} (hf:IsFl H f h w g) (F:FlOk h w g) (x:IsRule H c k r p ws cs n m) (hC:bT cs masks.length) (hml:masks.length=(h*w).toNat) (hA:H A=some (.lst (masks.map V.int))) (hM:H M=some (.lst (ms.map V.int)))
  (q:∀ H',Same H H'→Q (.bl (if s=m then decide (ms.length=1)&&!rcB h w (thrL cs masks m z++[z]) z (ms.getD 0 0) else decide (ms.length=2)&&(!decide (ms.getD 0 0=ms.getD 1 0)&&!rcB h w (thrL cs masks m z) (ms.getD 0 0) (ms.getD 1 0)))) H') (hcs:cs.length≤60):
  dM K c { nx:=fun _ H'=>Q .non H',rt:=Q } [some (.ref f),some (.ref r),some (.ref A),some (.int z),some (.int s),some (.ref M),some (.int m),none] H:=by
 unfold dM
 walk_at "w"
 refine ⟨k,r,p,ws,cs,n,m,z,rfl,x,hC.1,fun O H1 s1 hO eO=>?_⟩
 have hfl:=List.length_filter_le (fun x=>!decide (x=z)) cs
 refine ⟨O,rfl,⟨_,SqL.of eO⟩,?_⟩
 refine cH (xs:=cs.filter fun x=>!decide (x=z)) (fun x=>stB (masks.getD x.toNat 0) m) (fun x=>x) (by omega) (SqL.of eO) ?_ ?_ ?_
 · intro y H2 R hy s2 k2
   have hyc:=hC.2 y (List.mem_filter.mp hy).1
   show tB _ [none,some (.int y),some (.int m),some (.ref A)] H2 R
   walk_at "w"
   refine ixI ((s1.trans s2) _ _ hA) hyc.1 hyc.2 ?_
   walk_at "w"
   exact ⟨_,m,rfl,_,rfl,k2 _ (Same.refl _)⟩
 · intro y H2 Q2 hy hb s2 k2
   show tVar 1 [none,some (.int y),some (.int m),some (.ref A)] H2 Q2
   walk_at "w"
   exact k2 _ (Same.refl _)
 · intro N H2 hN s2 eN
   rw [List.map_id'] at eN
   have s12:=s1.trans s2
   walk_at "w"
   refine kJ (s12 _ _ hf) F (s12 _ _ hM) (T:=thrL cs masks m z) eN ?_ fun H' s3=>q H' (s12.trans s3)
   unfold thrL
   have:=List.length_filter_le (fun x=>stB (masks.getD x.toNat 0) m) (cs.filter fun x=>!decide (x=z))
   omega
theorem mO {K:PySem.W.Frag} {c:RCl RK} {vs:List V} {H:Hp} {Q:VK} {E:XK} (h:bX K c vs H Q E):dw K c { nx:=fun _ H'=>Q .non H',rt:=Q } (start ["floor","rule","masks","cell","sign","more","mark","through"] vs) H:=by
 obtain ⟨k,f,r,p,A,M,ws,cs,masks,ms,n,m,z,s,h,w,g,rfl,hf,F,x,hC,hcs,hml,hA,hM,hmn,hm,q⟩:=h
 obtain ⟨dx,W,C,h1,h2,h3⟩:=x.ex
 show dw K c _ [some (.ref f),some (.ref r),some (.ref A),some (.int z),some (.int s),some (.ref M),none,none] H
 unfold dw
 rw [aH,fq]
 refine methE (k:=k) rfl x.ok h1 (by rfl) ?_
 walk_at "w"
 refine ⟨r,p,ws,cs,n,m,rfl,x,?_⟩
 walk_at "w"
 rw [aD]
 walk_at "w"
 refine ⟨⟨_,SqL.of hM⟩,?_⟩
 refine eQ (xs:=ms.map V.int) (fun _=>true) (fun i=>.bl (anoB h w masks z m (ms.getD i 0))) (by rw [List.length_map]; omega) (SqL.of hM) ?_ ?_ ?_
 · intro i y H1 R hy s1 k1
   exact k1 _ (Same.refl _)
 · intro i y H1 Q1 hy hb s1 k1
   obtain ⟨v,hv,rfl⟩:=dF hy
   have eg:ms.getD i 0=v:=by rw [List.getD,hv]; rfl
   rw [eg] at k1
   show tCall _ _ _ _ [none,some (.int v),some (.int z),some (.ref f),some (.int m),some (.ref A)] H1 Q1
   walk_at "w"
   exact ⟨f,A,h,w,g,z,v,m,masks,rfl,s1 _ _ hf,F,s1 _ _ hA,hml,hm,k1 _ (Same.refl _)⟩
 · intro l H1 hl s1 el
   have eb:((List.range (ms.map V.int).length).filter fun _=>true).map (fun i=>V.bl (anoB h w masks z m (ms.getD i 0)))=(ms.map fun o=>anoB h w masks z m o).map V.bl:=by
    rw [em,List.length_map,List.map_map]
    refine List.ext_getElem (by simp) fun i h1 h2=>?_
    have hi:i < ms.length:=by simpa using h2
    simp [List.getD,List.getElem?_eq_getElem hi]
   rw [eb] at el
   refine np el ?_
   have ea:(ms.map fun o=>anoB h w masks z m o).all id=ms.all fun o=>anoB h w masks z m o:=by rw [List.all_map]; rfl
   rw [ea]
   unfold reaB at q
   cases hb:(ms.all fun o=>anoB h w masks z m o) with
   | false=>
    rw [hb,Bool.false_and] at q
    refine ⟨false,rfl,?_⟩
    walk_at "w"
    exact q _ s1
   | true=>
    rw [hb,Bool.true_and] at q
    refine ⟨true,rfl,?_⟩
    walk_at "w"
    exact kK (s1 _ _ hf) F (x.same s1) hC hml (s1 _ _ hA) (s1 _ _ hM) (fun H' s2=>q H' (s1.trans s2)) hcs
theorem uX {k:RK} (h:goesB .reach k=true):sgnK k=true:=by cases k <;> first | rfl | cases h
theorem RR.len26 {r:RR} {h w g:Int} (O:r.Ok h w g) (F:FlOk h w g):r.cs.length≤60:=by
 have m16:=F.m
 cases hk:allK r.k with
 | false=>
  obtain ⟨c1,c2,c3,c4,e⟩:=O.cl.told hk
  rw [e,List.length_map]; omega
 | true=>
  obtain ⟨_,e⟩:=O.cl.all hk
  rw [e,kh]; omega
def uY (p:Int→Int→Bool):Bool:=(List.range 7).all fun (h:Nat)=>(List.range 7).all fun (w:Nat)=>!(decide (1≤h)&&decide (1≤w)&&decide (h*w≤16))||p h w
theorem uZ {p:Int→Int→Bool} (a:uY p=true) {h w g:Int} (F:FlOk h w g):p h w=true:=by
 obtain ⟨h0,h1,w0,w1,m16,g0,g1⟩:=F
 obtain ⟨n,rfl⟩:=Int.eq_ofNat_of_zero_le (show 0≤h by omega)
 obtain ⟨m,rfl⟩:=Int.eq_ofNat_of_zero_le (show 0≤w by omega)
 have a1:=List.all_eq_true.mp a n (List.mem_range.mpr (by omega))
 have a2:=List.all_eq_true.mp a1 m (List.mem_range.mpr (by omega))
 have e1:1≤n:=by omega
 have e2:1≤m:=by omega
 have e3:n*m≤16:=by have:((n*m:Nat):Int)≤16:=by rw [Int.natCast_mul]; exact m16
                    omega
 simpa [e1,e2,e3] using a2
def nearS (h w d r:Int):List Int:=if (decide (0≤d)&&decide (d < h))&&(decide (0≤r)&&decide (r < w)) then [d*w+r] else []
def nearP (w c:Int):List (Int × Int):=[(c / w - 1,c % w),(c / w,c % w - 1),(c / w,c % w+1),(c / w+1,c % w)]
def nearL (h w c:Int):List Int:=(nearP w c).flatMap fun p=>nearS h w p.1 p.2
theorem tm:uY (fun h w=>(List.range (h*w).toNat).all fun (c:Nat)=>decide (nearL h w c=besL h w c)&&(besL h w c).all fun x=>decide (0≤x)&&decide (x < h*w))=true:=by decide+kernel
theorem n6 {h w g c:Int} (F:FlOk h w g) (c0:0≤c) (c1:c < h*w):nearL h w c=besL h w c∧∀ x∈besL h w c,0≤x∧x < h*w:=by
 have t:=List.all_eq_true.mp (uZ tm F) c.toNat (List.mem_range.mpr (by omega))
 have e1:((c.toNat:Nat):Int)=c:=by omega
 rw [e1,Bool.and_eq_true,decide_eq_true_eq,List.all_eq_true] at t
 refine ⟨t.1,fun x hx=>?_⟩
 have:=t.2 x hx
 simpa using this
theorem qL {h w g c:Int} {n:Nat} (F:FlOk h w g) (c0:0≤c) (c1:c < h*w) (hn:n=(h*w).toNat):bT (besL h w c) n:=by
 refine ⟨Nat.le_trans (qg ..) (by decide),fun x hx=>?_⟩
 have:=(n6 F c0 c1).2 x hx
 omega
def arL (h w o z:Int):List Int:=(besL h w o).filter fun x=>!decide (x=z)
def fP (K:PySem.W.Frag):Sp:=fun vs H Q _=>∃ (a:Addr) (h w g o z:Int),vs=[.ref a,.int o,.int z]∧IsFl H a h w g∧FlOk h w g∧∀ l H',Same H H'→H l=none→H' l=some (.lst ((arL h w o z).map V.int))→Q (.ref l) H'
theorem u6 {K:PySem.W.Frag} {vs:List V} {H:Hp} {Q:VK} {E:XK} (h:fP K vs H Q E):vs.length=3:=by
 obtain ⟨_,_,_,_,_,_,rfl,_⟩:=h; rfl
def jC (K:PySem.W.Frag):TS:=
 (tRet (tComp [none,none,some 2] (iList K (tCall (b4 K) [] E0 (tCons (tVar 0) (tCons (tVar 1) tNil)))) (gName 1) (tTest (tOp (cNe K) (tVar 1) (tVar 2))) (tVar 1)))
theorem u7 {K:PySem.W.Frag} {vs:List V} {H:Hp} {Q:VK} {E:XK} (h:fP K vs H Q E):jC K { nx:=fun _ H'=>Q .non H',rt:=Q } (start ["floor","middle","cell"] vs) H:=by
 obtain ⟨a,h,w,g,o,z,rfl,ha,F,q⟩:=h
 have w0:=F.w0
 have w1:=F.w1
 show jC K _ [some (.ref a),some (.int o),some (.int z)] H
 unfold jC
 rw [fW,cX]
 walk_at "w"
 refine ⟨a,h,w,g,o,rfl,ha,by omega,by omega,fun l H1 s1 hl el=>?_⟩
 have hb:=qg h w o
 refine ⟨l,rfl,⟨_,SqL.of el⟩,?_⟩
 refine cH (xs:=besL h w o) (fun x=>!decide (x=z)) (fun x=>x) (by omega) (SqL.of el) ?_ ?_ ?_
 · intro y H2 R hy s2 k2
   show tTest _ [none,some (.int y),some (.int z)] H2 R
   walk_at "w"
   exact k2 _ (Same.refl _)
 · intro y H2 Q2 hy hb s2 k2
   show tVar 1 [none,some (.int y),some (.int z)] H2 Q2
   walk_at "w"
   exact k2 _ (Same.refl _)
 · intro T H2 hT s2 eT
   rw [List.map_id'] at eT
   exact q T H2 (s1.trans s2) (s1.free hT) eT
def mayN (masks:List Int) (m:Int) (cs:List Int):Nat:=((sgAt masks cs).filter fun k=>stB k m).length
def onlN (masks:List Int) (m:Int) (cs:List Int):Nat:=((sgAt masks cs).filter fun k=>decide (woI k m=0)).length
def turnB (h w m:Int) (masks:List Int) (z s:Int) (ms:List Int):Bool:=
 if ms=[] then decide (s=m)&&(decide ((mayN masks m (besL h w z):Int) < 2)||decide ((2:Int) < (onlN masks m (besL h w z):Int)))
 else decide (ms.length=1)&&(decide (ms.getD 0 0∈besL h w z)&&(decide (woI (masks.getD (ms.getD 0 0).toNat 0) m=0)&&
  (if s=m then decide ((2:Int)≤(onlN masks m (arL h w (ms.getD 0 0) z):Int)) else decide ((mayN masks m (arL h w (ms.getD 0 0) z):Int) < 2))))
def cf (K:PySem.W.Frag) (c:RCl RK):Sp:=fun vs H Q _=>∃ (k:RK) (f r p A M:Addr) (ws:List (List Nat)) (cs masks ms:List Int) (n m z s h w g:Int),vs=[.ref f,.ref r,.ref A,.int z,.int s,.ref M]∧IsFl H f h w g∧FlOk h w g∧IsRule H c k r p ws cs n m∧masks.length=(h*w).toNat∧H A=some (.lst (masks.map V.int))∧H M=some (.lst (ms.map V.int))∧m≤1000∧0≤z∧z < h*w∧∀ H',Same H H'→Q (.bl (turnB h w m masks z s ms)) H'
theorem n9 {K:PySem.W.Frag} {c:RCl RK} {vs:List V} {H:Hp} {Q:VK} {E:XK} (h:cf K c vs H Q E):vs.length=6:=by
 obtain ⟨_,_,_,_,_,_,_,_,_,_,_,_,_,_,_,_,_,rfl,_⟩:=h; rfl
def eH (K:PySem.W.Frag) (c:RCl RK):TS:=
 (tSeq (tAsg (tCall (bp K) [] E0 (tCons (tVar 2) (tCons (tCall (fP K) [] E0 (tCons (tVar 0) (tCons (tOp cIx (tVar 5) (tC (.int 0))) (tCons (tVar 3) tNil)))) tNil))) (gName 7))
  (tSeq (tIfS (tTest (tOp (cEq K) (tVar 4) (tVar 6))) (tRet (tOp (cCmp fun i j=>decide (j≤i)) (tCall (bD K) [] E0 (tCons (tVar 7) (tCons (tVar 6) tNil))) (tC (.int 2)))) tNext)
  (tRet (tOp (cCmp fun i j=>decide (i < j)) (tCall (b2 K) [] E0 (tCons (tVar 7) (tCons (tVar 6) tNil))) (tC (.int 2))))))
def eI (K:PySem.W.Frag) (c:RCl RK):TS:=
 (tSeq (tIfS (tOr (tTest (tOp (cNe K) (tCB kLen (tCons (tVar 5) tNil)) (tC (.int 1)))) (tOr (tTest (tOp (cIn K true) (tOp cIx (tVar 5) (tC (.int 0))) (tCall (b4 K) [] E0 (tCons (tVar 0) (tCons (tVar 3) tNil))))) (tNot (tB (tCall (bf K) [] E0 (tCons (tOp cIx (tVar 2) (tOp cIx (tVar 5) (tC (.int 0)))) (tCons (tVar 6) tNil))))))) (tRet (tC (.bl false))) tNext)
  (eH K c))
def d9 (K:PySem.W.Frag) (c:RCl RK):TS:=
 (tSeq (tAsg (b5 c c.ok "sign" (fN K c) (tVar 1) tNil) (gName 6))
  (tSeq (tIfS (tTest (tOp (cEq K) (tVar 5) (tLst tNil))) (tSeq (tAsg (tCall (bp K) [] E0 (tCons (tVar 2) (tCons (tCall (b4 K) [] E0 (tCons (tVar 0) (tCons (tVar 3) tNil))) tNil))) (gName 7))
  (tRet (tAndV (tOp (cEq K) (tVar 4) (tVar 6)) (tOrV (tOp (cCmp fun i j=>decide (i < j)) (tCall (b2 K) [] E0 (tCons (tVar 7) (tCons (tVar 6) tNil))) (tC (.int 2))) (tOp (cCmp fun i j=>decide (j < i)) (tCall (bD K) [] E0 (tCons (tVar 7) (tCons (tVar 6) tNil))) (tC (.int 2))))))) tNext)
  (eI K c)))
theorem lh {K:PySem.W.Frag} {c:RCl RK} {H:Hp} {Q:VK} {f A M:Addr} {v1:V} {masks ms:List Int} {m z s h w g:Int} (hf:IsFl H f h w g) (F:FlOk h w g) (hml:masks.length=(h*w).toNat) (hA:H A=some (.lst (masks.map V.int))) (hM:H M=some (.lst (ms.map V.int))) (hl:ms.length=1) (hm:m≤1000) (z0:0≤z) (z1:z < h*w) (ho:ms.getD 0 0∈besL h w z)
  (q:∀ H',Same H H'→Q (.bl (if s=m then decide ((2:Int)≤(onlN masks m (arL h w (ms.getD 0 0) z):Int)) else decide ((mayN masks m (arL h w (ms.getD 0 0) z):Int) < 2))) H'):
  eH K c { nx:=fun _ H'=>Q .non H',rt:=Q } [some (.ref f),some v1,some (.ref A),some (.int z),some (.int s),some (.ref M),some (.int m),none] H:=by
 have oin:=(n6 F z0 z1).2 _ ho
 have bin:=qL (n:=masks.length) F oin.1 oin.2 hml
 have hin:bT (arL h w (ms.getD 0 0) z) masks.length:=⟨Nat.le_trans (List.length_filter_le _ _) bin.1,fun x hx=>bin.2 x (List.mem_filter.mp hx).1⟩
 unfold eH
 walk_at "w"
 refine ixI hM (by decide) (by omega) ?_
 rw [show (0:Int).toNat=0 from rfl]
 walk_at "w"
 refine ⟨f,h,w,g,_,z,rfl,hf,F,fun R H1 s1 hR eR=>?_⟩
 walk_at "w"
 refine ⟨A,R,masks,_,rfl,s1 _ _ hA,eR,hin,fun B H3 s3 hB eB=>?_⟩
 have hlen:(sgAt masks (arL h w (ms.getD 0 0) z)).length≤63:=by unfold sgAt; rw [List.length_map]; exact hin.1
 walk_at "w"
 rw [aD]
 walk_at "w"
 by_cases hs:s=m
 · rw [decide_eq_true hs]
   rw [if_pos hs] at q
   walk_at "w"
   refine ⟨B,_,_,rfl,eB,hlen,by omega,fun H4 s4=>?_⟩
   walk_at "w"
   exact q _ ((s1.trans s3).trans s4)
 · rw [decide_eq_false hs]
   rw [if_neg hs] at q
   walk_at "w"
   refine ⟨B,_,_,rfl,eB,hlen,fun H4 s4=>?_⟩
   walk_at "w"
   exact q _ ((s1.trans s3).trans s4)
theorem li {K:PySem.W.Frag} {c:RCl RK} {H:Hp} {Q:VK} {f A M:Addr} {v1:V} {masks ms:List Int} {m z s h w g:Int} (hf:IsFl H f h w g) (F:FlOk h w g) (hml:masks.length=(h*w).toNat) (hA:H A=some (.lst (masks.map V.int))) (hM:H M=some (.lst (ms.map V.int))) (hm:m≤1000) (z0:0≤z) (z1:z < h*w)
  (q:∀ H',Same H H'→Q (.bl (decide (ms.length=1)&&(decide (ms.getD 0 0∈besL h w z)&&(decide (woI (masks.getD (ms.getD 0 0).toNat 0) m=0)&&(if s=m then decide ((2:Int)≤(onlN masks m (arL h w (ms.getD 0 0) z):Int)) else decide ((mayN masks m (arL h w (ms.getD 0 0) z):Int) < 2)))))) H'):
  eI K c { nx:=fun _ H'=>Q .non H',rt:=Q } [some (.ref f),some v1,some (.ref A),some (.int z),some (.int s),some (.ref M),some (.int m),none] H:=by
 have w0:=F.w0
 have w1:=F.w1
 unfold eI
 rw [aH,aD]
 walk_at "w"
 rw [cF hM,List.length_map]
 walk_at "w"
 have e1:decide ((ms.length:Int)=1)=decide (ms.length=1):=by
  rw [Bool.eq_iff_iff,decide_eq_true_eq,decide_eq_true_eq]; omega
 rw [e1]
 cases hb:decide (ms.length=1) with
 | false=>
  rw [hb,Bool.false_and] at q
  walk_at "w"
  exact q _ (Same.refl _)
 | true=>
  rw [hb,Bool.true_and] at q
  have hl:=of_decide_eq_true hb
  walk_at "w"
  refine ixI hM (by decide) (by omega) ?_
  rw [show (0:Int).toNat=0 from rfl]
  walk_at "w"
  refine ⟨f,h,w,g,z,rfl,hf,by omega,by omega,fun R H1 s1 hR eR=>?_⟩
  dsimp only
  rw [ke eR]
  cases hb2:decide (ms.getD 0 0∈besL h w z) with
  | false=>
   rw [hb2,Bool.false_and] at q
   refine ⟨true,rfl,iteT ?_⟩
   walk_at "w"
   exact q _ s1
  | true=>
   rw [hb2,Bool.true_and] at q
   have ho:=of_decide_eq_true hb2
   have oin:=(n6 F z0 z1).2 _ ho
   refine ⟨false,rfl,iteF ?_⟩
   walk_at "w"
   refine ixI (s1 _ _ hM) (by decide) (by omega) ?_
   rw [show (0:Int).toNat=0 from rfl]
   walk_at "w"
   refine ixI (s1 _ _ hA) (by omega) (by omega) ?_
   walk_at "w"
   refine ⟨_,m,rfl,by omega,?_⟩
   cases hb3:decide (woI (masks.getD (ms.getD 0 0).toNat 0) m=0) with
   | false=>
    rw [hb3,Bool.false_and] at q
    refine ⟨false,rfl,iteT ?_⟩
    walk_at "w"
    exact q _ s1
   | true=>
    rw [hb3,Bool.true_and] at q
    refine ⟨true,rfl,iteF ?_⟩
    exact lh (s1 _ _ hf) F hml (s1 _ _ hA) (s1 _ _ hM) hl hm z0 z1 ho fun H' s2=>q H' (s1.trans s2)
theorem oa {K:PySem.W.Frag} {c:RCl RK} {vs:List V} {H:Hp} {Q:VK} {E:XK} (h:cf K c vs H Q E):d9 K c { nx:=fun _ H'=>Q .non H',rt:=Q } (start ["floor","rule","masks","cell","sign","more","mark","some"] vs) H:=by
 obtain ⟨k,f,r,p,A,M,ws,cs,masks,ms,n,m,z,s,h,w,g,rfl,hf,F,x,hml,hA,hM,hm,z0,z1,q⟩:=h
 obtain ⟨dx,W,C,h1,h2,h3⟩:=x.ex
 have w0:=F.w0
 have w1:=F.w1
 show d9 K c _ [some (.ref f),some (.ref r),some (.ref A),some (.int z),some (.int s),some (.ref M),none,none] H
 unfold d9
 rw [aH,fq]
 refine methE (k:=k) rfl x.ok h1 (by rfl) ?_
 walk_at "w"
 refine ⟨r,p,ws,cs,n,m,rfl,x,?_⟩
 walk_at "w"
 rw [aD]
 walk_at "w"
 refine ⟨aB (by decide),fun Z hZ=>?_⟩
 have s1:Same H (upd H Z (.lst [])):=(Same.refl H).laid hZ
 have eZ:(upd H Z (.lst [])) Z=some (.lst (([]:List Int).map V.int)):=ag
 generalize upd H Z (.lst [])=H1 at*
 refine sG (s1 _ _ hM) eZ ?_
 unfold turnB at q
 by_cases hms:ms=[]
 · rw [if_pos hms] at q
   rw [decide_eq_true hms]
   refine ⟨true,rfl,?_⟩
   walk_at "w"
   refine ⟨f,h,w,g,z,rfl,s1 _ _ hf,by omega,by omega,fun R H2 s2 hR eR=>?_⟩
   have bin:=qL (n:=masks.length) F z0 z1 hml
   walk_at "w"
   refine ⟨A,R,masks,_,rfl,(s1.trans s2) _ _ hA,eR,bin,fun B H3 s3 hB eB=>?_⟩
   have hlen:(sgAt masks (besL h w z)).length≤63:=by unfold sgAt; rw [List.length_map]; exact bin.1
   have s13:=(s1.trans s2).trans s3
   walk_at "w"
   cases hb:decide (s=m) with
   | false=>
    rw [hb,Bool.false_and] at q
    walk_at "w"
    exact q _ s13
   | true=>
    rw [hb,Bool.true_and] at q
    walk_at "w"
    refine ⟨B,_,_,rfl,eB,hlen,fun H4 s4=>?_⟩
    walk_at "w"
    have e1:decide ((((sgAt masks (besL h w z)).filter fun k=>stB k m).length:Int) < 2)=decide ((mayN masks m (besL h w z):Int) < 2):=rfl
    rw [e1]
    cases hb2:decide ((mayN masks m (besL h w z):Int) < 2) with
    | true=>
     rw [hb2,Bool.true_or] at q
     walk_at "w"
     exact q _ (s13.trans s4)
    | false=>
     rw [hb2,Bool.false_or] at q
     walk_at "w"
     refine ⟨B,_,_,rfl,s4 _ _ eB,hlen,by omega,fun H5 s5=>?_⟩
     walk_at "w"
     exact q _ ((s13.trans s4).trans s5)
 · rw [if_neg hms] at q
   rw [decide_eq_false hms]
   refine ⟨false,rfl,?_⟩
   walk_at "w"
   exact li (s1 _ _ hf) F hml (s1 _ _ hA) (s1 _ _ hM) hm z0 z1 fun H' s2=>q H' (s1.trans s2)
theorem mP (t:TK):decide (tkC t=[114,101,97,99,104])=decide (t=.reach):=by cases t <;> decide
theorem u8 {k:RK} (h:goesB .turn k=true):sgnK k=true:=by cases k <;> first | rfl | cases h
noncomputable def va (h w:Int) (t:TK) (x:RR) (masks:List Int) (z s:Int) (ms:List Int):Bool:=match t with
 | .square=>squB h w x.m masks z s ms
 | .reach=>reaB h w x.cs x.m masks z s ms
 | _=>turnB h w x.m masks z s ms
noncomputable def eJ (h w:Int) (rows:List RR) (masks:List Int) (t:TK) (r z s:Int) (ms:List Int):Bool:=match rows[r.toNat]? with
 | none=>false
 | some x=>va h w t x masks z s ms
abbrev x4 (t:TK):Prop:=t=.square∨t=.reach∨t=.turn
abbrev K30 (t:TK):Prop:=K28 t∨x4 t
def a9 (K:PySem.W.Frag) (c:RCl RK) (d:RCl PzK):Sp:=fun vs H Q _=>∃ (P L G A T M:Addr) (h w g:Int) (rows:List RR) (cl masks:List Int) (t:TK) (r z s:Int) (ms:List Int),vs=[.ref P,.ref A,.ref T]∧Asks H c d P L G A T M h w g rows cl masks t r z s ms∧x4 t∧formB h w g rows t r z s=true∧∀ H',Same H H'→Q (.bl (eJ h w rows masks t r z s ms)) H'
theorem jD {K:PySem.W.Frag} {c:RCl RK} {d:RCl PzK} {vs:List V} {H:Hp} {Q:VK} {E:XK} (h:a9 K c d vs H Q E):vs.length=3:=by
 obtain ⟨_,_,_,_,_,_,_,_,_,_,_,_,_,_,_,_,_,rfl,_⟩:=h; rfl
def b3 (K:PySem.W.Frag) (c:RCl RK) (d:RCl PzK):TS:=
 (tSeq (tAsg (b5 d d.ok "place" (eD K c d) (tVar 0) tNil) (gName 3))
  (tSeq (tAsg (tOp cIx (b5 d d.ok "rules" (eE K c d) (tVar 0) tNil) (tOp cIx (tVar 2) (tC (.int 1)))) (gName 4))
  (tSeq (tIfS (tTest (tOp (cEq K) (tOp cIx (tVar 2) (tC (.int 0))) (tC (.str (tx [115,113,117,97,114,101]))))) (tRet (tCall (bI K c) [] E0 (tCons (tVar 3) (tCons (tVar 4) (tCons (tVar 1) (tCons (tOp cIx (tVar 2) (tC (.int 2))) (tCons (tOp cIx (tVar 2) (tC (.int 3))) (tCons (tOp cIx (tVar 2) (tC (.int 4))) tNil)))))))) tNext)
  (tSeq (tIfS (tTest (tOp (cEq K) (tOp cIx (tVar 2) (tC (.int 0))) (tC (.str (tx [114,101,97,99,104]))))) (tRet (tCall (bX K c) [] E0 (tCons (tVar 3) (tCons (tVar 4) (tCons (tVar 1) (tCons (tOp cIx (tVar 2) (tC (.int 2))) (tCons (tOp cIx (tVar 2) (tC (.int 3))) (tCons (tOp cIx (tVar 2) (tC (.int 4))) tNil)))))))) tNext)
  (tRet (tCall (cf K c) [] E0 (tCons (tVar 3) (tCons (tVar 4) (tCons (tVar 1) (tCons (tOp cIx (tVar 2) (tC (.int 2))) (tCons (tOp cIx (tVar 2) (tC (.int 3))) (tCons (tOp cIx (tVar 2) (tC (.int 4))) tNil))))))))))))
theorem jE {K:PySem.W.Frag} {c:RCl RK} {d:RCl PzK} {vs:List V} {H:Hp} {Q:VK} {E:XK} (h:a9 K c d vs H Q E):b3 K c d { nx:=fun _ H'=>Q .non H',rt:=Q } (start ["puzzle","masks","thought","floor","rule"] vs) H:=by
 obtain ⟨P,L,G,A,T,M,h,w,g,rows,cl,masks,t,r,z,s,ms,rfl,X,ht,f,q⟩:=h
 obtain ⟨dx,p,rs,h1,h2,h3⟩:=X.P.ex
 obtain ⟨z0,z1,s0,s1',hit⟩:=pe f
 have hg:=X.P.R.F.g1
 have hnc:t≠.clue:=by rcases ht with rfl | rfl | rfl <;> decide
 obtain ⟨r0,y,ey,hgo,hz⟩:=sh hnc hit
 have O:=X.P.R.ok y (List.mem_of_getElem? ey)
 have q2:∀ H',Same H H'→Q (.bl (va h w t y masks z s ms)) H':=fun H' s'=>by
  have q1:=q H' s'
  unfold eJ at q1
  rw [ey] at q1
  exact q1
 show b3 K c d _ [some (.ref P),some (.ref A),some (.ref T),none,none] H
 unfold b3
 rw [aH,fq]
 refine methE (k:=.Puzzle) rfl X.P.ok h1 (by rfl) ?_
 walk_at "w"
 refine ⟨P,L,G,h,w,g,rows,cl,rfl,X.P,fun p3 hp3=>?_⟩
 walk_at "w"
 refine methE (k:=.Puzzle) rfl X.P.ok h1 (by rfl) ?_
 walk_at "w"
 refine ⟨P,L,G,h,w,g,rows,cl,rfl,X.P,fun l p2 rs2 hl hp2 Y=>?_⟩
 have s2:Same H (upd H l (.lst (rs2.map V.ref))):=(Same.refl H).laid hl
 generalize upd H l (.lst (rs2.map V.ref))=H1 at*
 have hlt:=(List.getElem?_eq_some_iff.mp ey).1
 have hlen:=Y.len
 have ea:rs2[r.toNat]? =some rs2[r.toNat]:=List.getElem?_eq_getElem (by omega)
 dsimp only
 refine ixT (s2 _ _ X.T.T) (v:=V.int r) rfl ?_
 refine ixL Y.top (my r0 ea) ?_
 walk_at "w"
 rw [aD]
 walk_at "w"
 refine ixT (s2 _ _ X.T.T) (v:=V.str (tx (tkC t))) rfl ?_
 walk_at "w"
 rw [cw,uV]
 rcases ht with rfl | rfl | rfl
 · rw [decide_eq_true rfl]
   refine iteT ?_
   walk_at "w"
   refine ixT (s2 _ _ X.T.T) (v:=V.int z) rfl ?_
   walk_at "w"
   refine ixT (s2 _ _ X.T.T) (v:=V.int s) rfl ?_
   walk_at "w"
   refine ixT (s2 _ _ X.T.T) (v:=V.ref M) rfl ?_
   walk_at "w"
   exact ⟨_,p3,_,p2,A,M,_,y.cs,masks,ms,_,_,z,s,h,w,g,rfl,s2 _ _ hp3,X.P.R.F,Y.at_ _ _ _ ea ey,X.n,s2 _ _ X.A,s2 _ _ X.T.M,by omega,fun H' s3=>q2 H' (s2.trans s3)⟩
 · have ym:=(O.m0 (uX hgo)).2
   rw [decide_eq_false (show ¬ TK.reach=TK.square by decide)]
   refine iteF ?_
   rw [aD]
   walk_at "w"
   refine ixT (s2 _ _ X.T.T) (v:=V.str (tx (tkC .reach))) rfl ?_
   walk_at "w"
   rw [cw,mP,decide_eq_true rfl]
   refine iteT ?_
   walk_at "w"
   refine ixT (s2 _ _ X.T.T) (v:=V.int z) rfl ?_
   walk_at "w"
   refine ixT (s2 _ _ X.T.T) (v:=V.int s) rfl ?_
   walk_at "w"
   refine ixT (s2 _ _ X.T.T) (v:=V.ref M) rfl ?_
   walk_at "w"
   have hin:bT y.cs masks.length:=by rw [X.n]; exact RR.cin22 O X.P.R.F
   exact ⟨_,p3,_,p2,A,M,_,y.cs,masks,ms,_,_,z,s,h,w,g,rfl,s2 _ _ hp3,X.P.R.F,Y.at_ _ _ _ ea ey,hin,RR.len26 O X.P.R.F,X.n,s2 _ _ X.A,s2 _ _ X.T.M,X.T.n,by omega,fun H' s3=>q2 H' (s2.trans s3)⟩
 · have ym:=(O.m0 (u8 hgo)).2
   rw [decide_eq_false (show ¬ TK.turn=TK.square by decide)]
   refine iteF ?_
   rw [aD]
   walk_at "w"
   refine ixT (s2 _ _ X.T.T) (v:=V.str (tx (tkC .turn))) rfl ?_
   walk_at "w"
   rw [cw,mP,decide_eq_false (show ¬ TK.turn=TK.reach by decide)]
   refine iteF ?_
   walk_at "w"
   refine ixT (s2 _ _ X.T.T) (v:=V.int z) rfl ?_
   walk_at "w"
   refine ixT (s2 _ _ X.T.T) (v:=V.int s) rfl ?_
   walk_at "w"
   refine ixT (s2 _ _ X.T.T) (v:=V.ref M) rfl ?_
   walk_at "w"
   exact ⟨_,p3,_,p2,A,M,_,y.cs,masks,ms,_,_,z,s,h,w,g,rfl,s2 _ _ hp3,X.P.R.F,Y.at_ _ _ _ ea ey,X.n,s2 _ _ X.A,s2 _ _ X.T.M,by omega,z0,z1,fun H' s3=>q2 H' (s2.trans s3)⟩
noncomputable def oe (h w g:Int) (rows:List RR) (cl masks:List Int) (t:TK) (r z s:Int) (ms:List Int):Bool:=if lineK t then fk g rows cl masks t r z s ms else eJ h w rows masks t r z s ms
def c7 (K:PySem.W.Frag) (c:RCl RK) (d:RCl PzK):Sp:=fun vs H Q _=>∃ (P L G A T M:Addr) (h w g:Int) (rows:List RR) (cl masks:List Int) (t:TK) (r z s:Int) (ms:List Int),vs=[.ref P,.ref A,.ref T]∧Asks H c d P L G A T M h w g rows cl masks t r z s ms∧K30 t∧(∀ m∈masks,0≤m∧m < 64)∧formB h w g rows t r z s=true∧∀ H',Same H H'→Q (.bl (oe h w g rows cl masks t r z s ms)) H'
theorem qM {K:PySem.W.Frag} {c:RCl RK} {d:RCl PzK} {vs:List V} {H:Hp} {Q:VK} {E:XK} (h:c7 K c d vs H Q E):vs.length=3:=by
 obtain ⟨_,_,_,_,_,_,_,_,_,_,_,_,_,_,_,_,_,rfl,_⟩:=h; rfl
def gB (K:PySem.W.Frag) (c:RCl RK) (d:RCl PzK):TS:=
 (tSeq (tIfS (tB (tInG fD false (tOp cIx (tVar 2) (tC (.int 0))))) (tRet (tCall (bh K c d) [] E0 (tCons (tVar 0) (tCons (tVar 1) (tCons (tVar 2) tNil))))) tNext)
  (tSeq (tIfS (tB (tInG d3 false (tOp cIx (tVar 2) (tC (.int 0))))) (tRet oN) tNext)
  (tRet (tCall (a9 K c d) [] E0 (tCons (tVar 0) (tCons (tVar 1) (tCons (tVar 2) tNil)))))))
theorem qN {K:PySem.W.Frag} {c:RCl RK} {d:RCl PzK} {vs:List V} {H:Hp} {Q:VK} {E:XK} (h:c7 K c d vs H Q E):gB K c d { nx:=fun _ H'=>Q .non H',rt:=Q } (start ["puzzle","masks","thought"] vs) H:=by
 obtain ⟨P,L,G,A,T,M,h,w,g,rows,cl,masks,t,r,z,s,ms,rfl,X,ht,mm,f,q⟩:=h
 show gB K c d _ [some (.ref P),some (.ref A),some (.ref T)] H
 unfold gB
 rw [aH,aD]
 walk_at "w"
 refine ixT X.T.T (v:=V.str (tx (tkC t))) rfl ?_
 walk_at "w"
 rw [wT]
 unfold oe at q
 rcases ht with ht | ht
 · have hl:lineK t=true:=by rcases ht with rfl | rfl | rfl | rfl <;> rfl
   rw [hl] at q
   rw [hl]
   walk_at "w"
   exact ⟨P,L,G,A,T,M,h,w,g,rows,cl,masks,t,r,z,s,ms,rfl,X,ht,mm,f,q⟩
 · have hl:lineK t=false:=by rcases ht with rfl | rfl | rfl <;> rfl
   have hb:nbrK t=false:=by rcases ht with rfl | rfl | rfl <;> rfl
   rw [hl] at q
   rw [hl]
   walk_at "w"
   rw [aD]
   walk_at "w"
   refine ixT X.T.T (v:=V.str (tx (tkC t))) rfl ?_
   walk_at "w"
   rw [xX,hb]
   walk_at "w"
   exact ⟨P,L,G,A,T,M,h,w,g,rows,cl,masks,t,r,z,s,ms,rfl,X,ht,f,q⟩
noncomputable def jg (h w g:Int) (rows:List RR) (cl masks:List Int) (t:TK) (r z s:Int) (ms:List Int):Bool:=formB h w g rows t r z s&&oe h w g rows cl masks t r z s ms
def lj (K:PySem.W.Frag) (c:RCl RK) (d:RCl PzK):Sp:=fun vs H Q _=>∃ (P L G A T M:Addr) (h w g:Int) (rows:List RR) (cl masks:List Int) (t:TK) (r z s:Int) (ms:List Int),vs=[.ref P,.ref A,.ref T]∧Asks H c d P L G A T M h w g rows cl masks t r z s ms∧K30 t∧(∀ m∈masks,0≤m∧m < 64)∧∀ H',Same H H'→Q (.bl (jg h w g rows cl masks t r z s ms)) H'
theorem qO {K:PySem.W.Frag} {c:RCl RK} {d:RCl PzK} {vs:List V} {H:Hp} {Q:VK} {E:XK} (h:lj K c d vs H Q E):vs.length=3:=by
 obtain ⟨_,_,_,_,_,_,_,_,_,_,_,_,_,_,_,_,_,rfl,_⟩:=h; rfl
theorem wZ {H:Hp} {Q:VK} {p:Addr} {xs:List V} (hp:H p=some (.tup xs)) (h:Q (.bl false) H):kIsi [.ref p,.ty "int"] H Q:=by
 refine ⟨by decide,bb (a:="tuple") (by unfold iw; dsimp only; rw [hp]) ?_⟩
 rw [show isTy "tuple" "int"=false by decide]
 exact h
def aR (K:PySem.W.Frag):Sp:=fun vs H Q _=>(∃ i:Int,vs=[.int i]∧Q (.bl true) H)∨∃ (p:Addr) (xs:List V),vs=[.ref p]∧H p=some (.tup xs)∧Q (.bl false) H
theorem pG {K:PySem.W.Frag} {vs:List V} {H:Hp} {Q:VK} {E:XK} (h:aR K vs H Q E):vs.length=1:=by
 rcases h with ⟨_,rfl,_⟩ | ⟨_,_,rfl,_⟩ <;> rfl
def cD (K:PySem.W.Frag):TS:=
 (tRet (tAndV (tCB kIsi (tCons (tVar 0) (tCons (tC (.ty "int")) tNil))) (tNotV (tCB kIsi (tCons (tVar 0) (tCons (tC (.ty "bool")) tNil))))))
theorem pH {K:PySem.W.Frag} {vs:List V} {H:Hp} {Q:VK} {E:XK} (h:aR K vs H Q E):cD K { nx:=fun _ H'=>Q .non H',rt:=Q } (start ["value"] vs) H:=by
 rcases h with ⟨i,rfl,q⟩ | ⟨p,xs,rfl,hp,q⟩
 · show cD K _ [some (.int i)] H
   unfold cD
   walk_at "w"
   exact q
 · show cD K _ [some (.ref p)] H
   unfold cD
   walk_at "w"
   refine wZ hp ?_
   walk_at "w"
   exact q
def cz (K:PySem.W.Frag):TS:=
 (tRet (tAndV (tCall (aR K) [] E0 (tCons (tVar 0) tNil)) (tAndV (tOp (cCmp fun i j=>decide (i≤j)) (tC (.int 1)) (tVar 0)) (tOp (cCmp fun i j=>decide (i≤j)) (tVar 0) (tVar 1)))))
theorem kL {K:PySem.W.Frag} {vs:List V} {H:Hp} {Q:VK} {E:XK} (h:aT K vs H Q E):cz K { nx:=fun _ H'=>Q .non H',rt:=Q } (start ["value","most"] vs) H:=by
 obtain ⟨i,m,rfl,q⟩:=h
 show cz K _ [some (.int i),some (.int m)] H
 unfold cz
 walk_at "w"
 refine .inl ⟨i,rfl,⟨true,rfl,iteT ?_⟩⟩
 walk_at "w"
 cases hb:decide (1≤i) with
 | false=>
  rw [hb,Bool.false_and] at q
  exact iteF q
 | true=>
  rw [hb,Bool.true_and] at q
  exact iteT q
def ed (K:PySem.W.Frag):TS:=
 (tSeq (tIfS (tOr (tNot (tB (tCB kIsi (tCons (tVar 1) (tCons (tC (.ty "list")) tNil))))) (tTest (tOp (cNe K) (tCB kLen (tCons (tVar 1) tNil)) (tCall (aQ K) [] E0 (tCons (tVar 0) tNil))))) (tRet (tC (.bl false))) tNext)
  (tRet (tCB kAll (tCons (tComp [none,none,some 0,some 2] (iList K (tVar 1)) (gName 1) tTrue (tAndV (tCall (aR K) [] E0 (tCons (tVar 1) tNil)) (tAndV (tOp (cCmp fun i j=>decide (i≤j)) (tVar 3) (tVar 1)) (tOp (cCmp fun i j=>decide (i≤j)) (tVar 1) (tOp cIx (tVar 2) (tC (.int 2))))))) tNil))))
theorem og {K:PySem.W.Frag} {vs:List V} {H:Hp} {Q:VK} {E:XK} (h:cC K vs H Q E):ed K { nx:=fun _ H'=>Q .non H',rt:=Q } (start ["floor","filling","least"] vs) H:=by
 obtain ⟨p,a,h,w,g,least,xs,rfl,hp,F,ha,hn,q⟩:=h
 obtain ⟨h0,h1,w0,w1,m16,g0,g1⟩:=id F
 have mpos:0≤h*w:=Int.mul_nonneg (by omega) (by omega)
 show ed K _ [some (.ref p),some (.ref a),some (.int least)] H
 unfold ed
 rw [aH,aD]
 walk_at "w"
 refine qh ha ?_
 walk_at "w"
 rw [cF ha,List.length_map]
 walk_at "w"
 refine ⟨p,h,w,g,rfl,hp,h0,h1,?_⟩
 walk_at "w"
 unfold filB at q
 by_cases hl:xs.length=(h*w).toNat
 · rw [decide_eq_true (show (xs.length:Int)=h*w by omega)]
   rw [decide_eq_true hl] at q
   walk_at "w"
   refine ⟨⟨_,SqL.of ha⟩,?_⟩
   refine eQ (xs:=xs.map V.int) (fun _=>true) (fun i=>.bl (decide (least≤xs.getD i 0)&&decide (xs.getD i 0≤g))) (by rw [List.length_map]; omega) (SqL.of ha) ?_ ?_ ?_
   · intro i x H1 R hx s1 k1
     exact k1 _ (Same.refl _)
   · intro i x H1 Q1 hx hb s1 k1
     obtain ⟨z,hz,rfl⟩:=dF hx
     have q1:=k1 _ (Same.refl H1)
     rw [lO hz] at q1
     show tAndV _ _ [none,some (.int z),some (.ref p),some (.int least)] H1 Q1
     walk_at "w"
     refine .inl ⟨z,rfl,⟨true,rfl,iteT ?_⟩⟩
     walk_at "w"
     cases hb:decide (least≤z) with
     | false=>
      rw [hb,Bool.false_and] at q1
      exact iteF q1
     | true=>
      rw [hb,Bool.true_and] at q1
      refine iteT ?_
      walk_at "w"
      refine ixT (s1 _ _ hp) (v:=V.int g) rfl ?_
      walk_at "w"
      exact q1
   · intro l H1 hl1 s1 el
     have eb:((List.range (xs.map V.int).length).filter fun _=>true).map (fun i=>V.bl (decide (least≤xs.getD i 0)&&decide (xs.getD i 0≤g)))=(xs.map fun x=>decide (least≤x)&&decide (x≤g)).map V.bl:=by
      rw [em,List.length_map]
      refine List.ext_getElem? fun i=>?_
      rw [List.getElem?_map,List.getElem?_map,List.getElem?_map]
      by_cases h:i < xs.length
      · rw [List.getElem?_range h,List.getElem?_eq_getElem h]
        simp [List.getD,h]
      · rw [List.getElem?_eq_none (by simpa using h),List.getElem?_eq_none (by omega)]; rfl
     rw [eb] at el
     refine np el ?_
     have ea:(xs.map fun x=>decide (least≤x)&&decide (x≤g)).all id=xs.all fun x=>decide (least≤x)&&decide (x≤g):=by rw [List.all_map]; rfl
     rw [ea]
     exact q _ s1
 · rw [decide_eq_false (show ¬ (xs.length:Int)=h*w by omega)]
   rw [decide_eq_false hl] at q
   walk_at "w"
   exact q _ (Same.refl _)
def gC (K:PySem.W.Frag):TS:=
 (tRet (tAndV (tCall (aR K) [] E0 (tCons (tVar 1) tNil)) (tAndV (tOp (cCmp fun i j=>decide (i≤j)) (tC (.int 0)) (tVar 1)) (tOp (cCmp fun i j=>decide (i < j)) (tVar 1) (tCall (aQ K) [] E0 (tCons (tVar 0) tNil))))))
theorem qP {K:PySem.W.Frag} {vs:List V} {H:Hp} {Q:VK} {E:XK} (h:cK K vs H Q E):gC K { nx:=fun _ H'=>Q .non H',rt:=Q } (start ["floor","value"] vs) H:=by
 obtain ⟨p,h,w,g,i,rfl,hp,F,q⟩:=h
 show gC K _ [some (.ref p),some (.int i)] H
 unfold gC
 walk_at "w"
 refine .inl ⟨i,rfl,⟨true,rfl,iteT ?_⟩⟩
 walk_at "w"
 cases hb:decide (0≤i) with
 | false=>
  rw [hb,Bool.false_and] at q
  exact iteF q
 | true=>
  rw [hb,Bool.true_and] at q
  refine iteT ?_
  walk_at "w"
  refine ⟨p,h,w,g,rfl,hp,F.h0,F.h1,?_⟩
  walk_at "w"
  exact q
def cT (K:PySem.W.Frag) (c:RCl RK) (d:RCl PzK):TS:=
 (tSeq (tIfS (tOr (tNot (tB (tCall (aR K) [] E0 (tCons (tVar 2) tNil)))) (tTest (tOp (cCmp fun i j=>decide (i < j)) (tVar 2) (tC (.int 0))))) (tRet (tC (.bl false))) tNext)
  (tSeq (tIfS (tTest (tOp (cEq K) (tVar 1) (tC (.str (tx [99,108,117,101]))))) (tRet (tOp (cEq K) (tVar 2) (tC (.int 0)))) tNext)
  (tSeq (tAsg (b5 d d.ok "rules" (eE K c d) (tVar 0) tNil) (gName 4))
  (tSeq (tIfS (tTest (tOp (cCmp fun i j=>decide (j≤i)) (tVar 2) (tCB kLen (tCons (tVar 4) tNil)))) (tRet (tC (.bl false))) tNext)
  (tRet (tAndV (tCall (fc K c) [] E0 (tCons (tVar 1) (tCons (tOp cIx (tVar 4) (tVar 2)) tNil))) (tOp (cIn K false) (tVar 3) (b5 c c.ok "spots" (eu K c) (tOp cIx (tVar 4) (tVar 2)) tNil))))))))
theorem l0 {K:PySem.W.Frag} {c:RCl RK} {d:RCl PzK} {vs:List V} {H:Hp} {Q:VK} {E:XK} (h:b8 K c d vs H Q E):cT K c d { nx:=fun _ H'=>Q .non H',rt:=Q } (start ["puzzle","kind","number","cell","rules"] vs) H:=by
 obtain ⟨t,P,L,G,h,w,g,r,z,rows,cl,rfl,x,q⟩:=h
 obtain ⟨dx,p,rs,h1,h2,h3⟩:=x.ex
 have hN:=x.R.F.m
 show cT K c d _ [some (.ref P),some (.str (tx (tkC t))),some (.int r),some (.int z),none] H
 unfold cT
 rw [aH,aD]
 walk_at "w"
 refine .inl ⟨r,rfl,⟨true,rfl,iteF ?_⟩⟩
 walk_at "w"
 unfold hitB at q
 by_cases hr:r < 0
 · rw [if_pos hr] at q
   rw [decide_eq_true hr]
   exact iteT (q _ (Same.refl _))
 rw [if_neg hr] at q
 rw [decide_eq_false hr]
 refine iteF ?_
 rw [aD]
 walk_at "w"
 rw [cw,oM]
 by_cases ht:t=.clue
 · rw [if_pos ht] at q
   rw [decide_eq_true ht]
   exact iteT (q _ (Same.refl _))
 rw [if_neg ht] at q
 rw [decide_eq_false ht]
 refine iteF ?_
 refine methE (k:=.Puzzle) rfl x.ok h1 (by rfl) ?_
 walk_at "w"
 refine ⟨P,L,G,h,w,g,rows,cl,rfl,x,fun l p2 rs2 hl hp2 X=>?_⟩
 have s1:Same H (upd H l (.lst (rs2.map V.ref))):=(Same.refl H).laid hl
 generalize upd H l (.lst (rs2.map V.ref))=H1 at*
 have hlen:=X.len
 walk_at "w"
 rw [aD]
 walk_at "w"
 rw [cF X.top,List.length_map,hlen]
 walk_at "w"
 by_cases hge:(rows.length:Int)≤r
 · rw [decide_eq_true hge]
   have e:rows[r.toNat]? =none:=List.getElem?_eq_none (by omega)
   rw [e] at q
   exact iteT (q _ s1)
 rw [decide_eq_false hge]
 have hlt:r.toNat < rows.length:=by omega
 have er:rows[r.toNat]? =some rows[r.toNat]:=List.getElem?_eq_getElem hlt
 rw [er] at q
 have ea:rs2[r.toNat]? =some rs2[r.toNat]:=List.getElem?_eq_getElem (by omega)
 have X1:=X.at_ _ _ _ ea er
 obtain ⟨ws,ews⟩:=RR.ws_cons rows[r.toNat]
 rw [ews] at X1
 have eix:atI (rs2.map V.ref) r=some (V.ref rs2[r.toNat]):=my (by omega) ea
 refine iteF ?_
 refine ixL X.top eix ?_
 walk_at "w"
 refine ⟨t,_,_,p2,ws,_,_,_,rfl,ht,X1,?_⟩
 dsimp only at q
 cases hg:goesB t rows[r.toNat].k with
 | false=>
  rw [hg,Bool.false_and] at q
  exact ⟨false,rfl,iteF (q _ s1)⟩
 | true=>
  rw [hg,Bool.true_and] at q
  refine ⟨true,rfl,iteT ?_⟩
  unfold b5
  walk_at "w"
  obtain ⟨dx1,W1,C1,g1,g2,g3⟩:=X1.ex
  refine ixL X.top eix ?_
  refine ⟨_,rows[r.toNat].k,dx1,_,rfl,X1.ok,g1,by rfl,?_⟩
  refine ⟨_,p2,_,_,_,_,rfl,X1,fun S hS=>?_⟩
  have s2:Same H1 (upd H1 S (.lst (rows[r.toNat].cs.map V.int))):=(Same.refl H1).laid hS
  have eS:(upd H1 S (.lst (rows[r.toNat].cs.map V.int))) S=some (.lst (rows[r.toNat].cs.map V.int)):=ag
  dsimp only
  rw [sF eS]
  exact q _ (s1.trans s2)
def pQ (H:Hp) (T:Addr):Prop:=∃ (M:Addr) (r z s:Int),(∃ wd:List Nat,decide (tx wd∈dr)=false∧H T=some (.tup [.str (tx wd),.int r,.int z,.int s,.ref M]))∨∃ (t:TK) (ms:List Int) (T2:Addr) (xs:List V),H T=some (.tup [.str (tx (tkC t)),.int r,.int z,.int s,.ref M])∧H M=some (.lst (ms.map V.int++[V.ref T2]))∧ms.length≤100∧H T2=some (.tup xs)
def cq (K:PySem.W.Frag) (c:RCl RK) (d:RCl PzK):Sp:=fun vs H Q E=>je K c d vs H Q E∨∃ (P L G T:Addr) (h w g:Int) (rows:List RR) (cl:List Int),vs=[.ref P,.ref T]∧IsPz H c d P L G h w g rows cl∧pQ H T∧∀ H',Same H H'→Q (.bl false) H'
theorem oP {K:PySem.W.Frag} {c:RCl RK} {d:RCl PzK} {vs:List V} {H:Hp} {Q:VK} {E:XK} (h:cq K c d vs H Q E):vs.length=2:=by
 rcases h with h | ⟨_,_,_,_,_,_,_,_,_,rfl,_⟩
 · exact qG h
 · rfl
def ci (K:PySem.W.Frag) (c:RCl RK) (d:RCl PzK):TS:=
 (tRet (tAndV (tCB kIsi (tCons (tOp cIx (tVar 1) (tC (.int 4))) (tCons (tC (.ty "list")) tNil))) (tCB kAll (tCons (tComp [none,none] (iList K (tOp cIx (tVar 1) (tC (.int 4)))) (gName 1) tTrue (tCall (aR K) [] E0 (tCons (tVar 1) tNil))) tNil))))
def bY (K:PySem.W.Frag) (c:RCl RK) (d:RCl PzK):TS:=
 (tSeq (tIfS (tOr (tNot (tB (tCB kIsi (tCons (tVar 1) (tCons (tC (.ty "tuple")) tNil))))) (tOr (tTest (tOp (cNe K) (tCB kLen (tCons (tVar 1) tNil)) (tC (.int 5)))) (tB (tInG dr true (tOp cIx (tVar 1) (tC (.int 0))))))) (tRet (tC (.bl false))) tNext)
  (tSeq (tAsg (b5 d d.ok "place" (eD K c d) (tVar 0) tNil) (gName 2))
  (tSeq (tIfS (tOr (tNot (tB (tCall (cK K) [] E0 (tCons (tVar 2) (tCons (tOp cIx (tVar 1) (tC (.int 2))) tNil))))) (tNot (tB (tCall (cL K) [] E0 (tCons (tVar 2) (tCons (tOp cIx (tVar 1) (tC (.int 3))) tNil)))))) (tRet (tC (.bl false))) tNext)
  (tSeq (tIfS (tNot (tB (tCall (b8 K c d) [] E0 (tCons (tVar 0) (tCons (tOp cIx (tVar 1) (tC (.int 0))) (tCons (tOp cIx (tVar 1) (tC (.int 1))) (tCons (tOp cIx (tVar 1) (tC (.int 2))) tNil))))))) (tRet (tC (.bl false))) tNext)
  (ci K c d)))))
theorem l6 {K:PySem.W.Frag} {c:RCl RK} {d:RCl PzK} {H:Hp} {Q:VK} {P T M:Addr} {t:TK} {r z s:Int} {ms:List Int} {v2:Option V} (x:IsTh H T M t r z s ms) (q:∀ H',Same H H'→Q (.bl true) H'):
  ci K c d { nx:=fun _ H'=>Q .non H',rt:=Q } [some (.ref P),some (.ref T),v2] H:=by
 have hn:=x.n
 unfold ci
 walk_at "w"
 refine ixT x.T (v:=V.ref M) rfl ?_
 walk_at "w"
 refine qh x.M ?_
 walk_at "w"
 refine ixT x.T (v:=V.ref M) rfl ?_
 walk_at "w"
 refine ⟨⟨_,SqL.of x.M⟩,?_⟩
 refine eQ (xs:=ms.map V.int) (fun _=>true) (fun _=>.bl true) (by rw [List.length_map]; omega) (SqL.of x.M) ?_ ?_ ?_
 · intro i y H1 R hy s1 k1
   exact k1 _ (Same.refl _)
 · intro i y H1 Q1 hy hb s1 k1
   obtain ⟨v,hv,rfl⟩:=dF hy
   show tCall _ _ _ _ [none,some (.int v)] H1 Q1
   walk_at "w"
   exact .inl ⟨v,rfl,k1 _ (Same.refl _)⟩
 · intro l H1 hl s1 el
   have eb:((List.range (ms.map V.int).length).filter fun _=>true).map (fun _=>V.bl true)=(List.replicate (ms.map V.int).length true).map V.bl:=by
    rw [em,List.map_const',List.length_range,List.map_replicate]
   rw [eb] at el
   refine np el ?_
   have ea:(List.replicate (ms.map V.int).length true).all id=true:=by
    rw [List.all_eq_true]
    intro b hb
    exact (List.mem_replicate.mp hb).2
   rw [ea]
   exact q _ s1
theorem qQ {K:PySem.W.Frag} {c:RCl RK} {d:RCl PzK} {vs:List V} {H:Hp} {Q:VK} {E:XK} (h:je K c d vs H Q E):bY K c d { nx:=fun _ H'=>Q .non H',rt:=Q } (start ["puzzle","thought","floor"] vs) H:=by
 obtain ⟨t,P,L,G,T,M,h,w,g,r,z,s,rows,cl,ms,rfl,x,y,q⟩:=h
 obtain ⟨dx,p,rs,h1,h2,h3⟩:=x.ex
 show bY K c d _ [some (.ref P),some (.ref T),none] H
 unfold bY
 rw [aH,aD]
 walk_at "w"
 refine nr y.T ?_
 walk_at "w"
 rw [nh y.T,show (([.str (tx (tkC t)),.int r,.int z,.int s,.ref M]:List V).length:Int)=5 from rfl]
 walk_at "w"
 refine ixT y.T (v:=V.str (tx (tkC t))) rfl ?_
 walk_at "w"
 rw [qF]
 walk_at "w"
 refine methE (k:=.Puzzle) rfl x.ok h1 (by rfl) ?_
 walk_at "w"
 refine ⟨P,L,G,h,w,g,rows,cl,rfl,x,fun p1 hp1=>?_⟩
 walk_at "w"
 rw [aD]
 walk_at "w"
 refine ixT y.T (v:=V.int z) rfl ?_
 walk_at "w"
 refine ⟨p1,h,w,g,z,rfl,hp1,x.R.F,?_⟩
 unfold formB at q
 cases hb:(decide (0≤z)&&decide (z < h*w)) with
 | false=>
  rw [hb,Bool.false_and] at q
  exact ⟨false,rfl,iteT (q _ (Same.refl _))⟩
 | true=>
  rw [hb,Bool.true_and] at q
  refine ⟨true,rfl,iteF ?_⟩
  refine ixT y.T (v:=V.int s) rfl ?_
  walk_at "w"
  refine ⟨p1,h,w,g,s,rfl,hp1,?_⟩
  cases hb2:(decide (1≤s)&&decide (s≤g)) with
  | false=>
   rw [hb2,Bool.false_and] at q
   exact ⟨false,rfl,iteT (q _ (Same.refl _))⟩
  | true=>
   rw [hb2,Bool.true_and] at q
   refine ⟨true,rfl,iteF ?_⟩
   rw [aD]
   walk_at "w"
   refine ixT y.T (v:=V.str (tx (tkC t))) rfl ?_
   walk_at "w"
   refine ixT y.T (v:=V.int r) rfl ?_
   walk_at "w"
   refine ixT y.T (v:=V.int z) rfl ?_
   walk_at "w"
   refine ⟨t,P,L,G,h,w,g,r,z,rows,cl,rfl,x,fun H1 s1=>?_⟩
   cases hb3:hitB t rows r z with
   | false=>
    rw [hb3] at q
    exact ⟨false,rfl,iteT (q _ s1)⟩
   | true=>
    rw [hb3] at q
    refine ⟨true,rfl,iteF ?_⟩
    exact l6 (y.same s1) fun H' s2=>q H' (s1.trans s2)
theorem lm {K:PySem.W.Frag} {c:RCl RK} {d:RCl PzK} {H:Hp} {Q:VK} {P T M T2:Addr} {v:V} {r z s:Int} {ms:List Int} {xs:List V} {v2:Option V} (hT:H T=some (.tup [v,.int r,.int z,.int s,.ref M])) (hM:H M=some (.lst (ms.map V.int++[V.ref T2]))) (hn:ms.length≤100) (hT2:H T2=some (.tup xs)) (q:∀ H',Same H H'→Q (.bl false) H'):
  ci K c d { nx:=fun _ H'=>Q .non H',rt:=Q } [some (.ref P),some (.ref T),v2] H:=by
 unfold ci
 walk_at "w"
 refine ixT hT (v:=V.ref M) rfl ?_
 walk_at "w"
 refine qh hM ?_
 walk_at "w"
 refine ixT hT (v:=V.ref M) rfl ?_
 walk_at "w"
 refine ⟨⟨_,SqL.of hM⟩,?_⟩
 refine eQ (xs:=ms.map V.int++[V.ref T2]) (fun _=>true) (fun i=>.bl (decide (i < ms.length))) (by rw [List.length_append,List.length_map]; show ms.length+1≤900; omega) (SqL.of hM) ?_ ?_ ?_
 · intro i y H1 R hy s1 k1
   exact k1 _ (Same.refl _)
 · intro i y H1 Q1 hy hb s1 k1
   by_cases hi:i < ms.length
   · rw [List.getElem?_append_left (by rw [List.length_map]; exact hi)] at hy
     obtain ⟨v,hv,rfl⟩:=dF hy
     show tCall _ _ _ _ [none,some (.int v)] H1 Q1
     walk_at "w"
     rw [decide_eq_true hi] at k1
     exact .inl ⟨v,rfl,k1 _ (Same.refl _)⟩
   · rw [List.getElem?_append_right (by rw [List.length_map]; omega)] at hy
     have e0:i - (ms.map V.int).length=0:=by
      have:=(List.getElem?_eq_some_iff.mp hy).1
      rw [List.length_map] at this ⊢
      simp at this
      omega
     rw [e0] at hy
     have ey:y=V.ref T2:=by simpa using hy.symm
     subst ey
     show tCall _ _ _ _ [none,some (.ref T2)] H1 Q1
     walk_at "w"
     rw [decide_eq_false hi] at k1
     exact .inr ⟨T2,xs,rfl,s1 _ _ hT2,k1 _ (Same.refl _)⟩
 · intro l H1 hl s1 el
   rw [em] at el
   have el2:H1 l=some (.lst (((List.range (ms.map V.int++[V.ref T2]).length).map fun i=>decide (i < ms.length)).map V.bl)):=by rw [el,List.map_map]; rfl
   refine np el2 ?_
   have ea:(((List.range (ms.map V.int++[V.ref T2]).length).map fun i=>decide (i < ms.length)).all id)=false:=by
    rw [List.all_eq_false]
    refine ⟨false,List.mem_map.mpr ⟨ms.length,List.mem_range.mpr (by rw [List.length_append,List.length_map]; show ms.length < ms.length+1; omega),by simp⟩,by simp⟩
   rw [ea]
   exact q _ s1
theorem oQ {K:PySem.W.Frag} {c:RCl RK} {d:RCl PzK} {vs:List V} {H:Hp} {Q:VK} {E:XK} (h:cq K c d vs H Q E):bY K c d { nx:=fun _ H'=>Q .non H',rt:=Q } (start ["puzzle","thought","floor"] vs) H:=by
 rcases h with h | ⟨P,L,G,T,h,w,g,rows,cl,rfl,x,⟨M,r,z,s,o⟩,q⟩
 · exact qQ h
 obtain ⟨dx,p,rs,h1,h2,h3⟩:=x.ex
 show bY K c d _ [some (.ref P),some (.ref T),none] H
 unfold bY
 rw [aH,aD]
 walk_at "w"
 rcases o with ⟨wd,hwd,hT⟩ | ⟨t,ms,T2,xs,hT,hM,hn,hT2⟩
 · refine nr hT ?_
   walk_at "w"
   rw [nh hT,show (([.str (tx wd),.int r,.int z,.int s,.ref M]:List V).length:Int)=5 from rfl]
   walk_at "w"
   refine ixT hT (v:=V.str (tx wd)) rfl ?_
   walk_at "w"
   rw [hwd]
   walk_at "w"
   exact q _ (Same.refl _)
 · refine nr hT ?_
   walk_at "w"
   rw [nh hT,show (([.str (tx (tkC t)),.int r,.int z,.int s,.ref M]:List V).length:Int)=5 from rfl]
   walk_at "w"
   refine ixT hT (v:=V.str (tx (tkC t))) rfl ?_
   walk_at "w"
   rw [qF]
   walk_at "w"
   refine methE (k:=.Puzzle) rfl x.ok h1 (by rfl) ?_
   walk_at "w"
   refine ⟨P,L,G,h,w,g,rows,cl,rfl,x,fun p1 hp1=>?_⟩
   walk_at "w"
   rw [aD]
   walk_at "w"
   refine ixT hT (v:=V.int z) rfl ?_
   walk_at "w"
   refine ⟨p1,h,w,g,z,rfl,hp1,x.R.F,?_⟩
   cases hb:(decide (0≤z)&&decide (z < h*w)) with
   | false=>exact ⟨false,rfl,iteT (q _ (Same.refl _))⟩
   | true=>
    refine ⟨true,rfl,iteF ?_⟩
    refine ixT hT (v:=V.int s) rfl ?_
    walk_at "w"
    refine ⟨p1,h,w,g,s,rfl,hp1,?_⟩
    cases hb2:(decide (1≤s)&&decide (s≤g)) with
    | false=>exact ⟨false,rfl,iteT (q _ (Same.refl _))⟩
    | true=>
     refine ⟨true,rfl,iteF ?_⟩
     rw [aD]
     walk_at "w"
     refine ixT hT (v:=V.str (tx (tkC t))) rfl ?_
     walk_at "w"
     refine ixT hT (v:=V.int r) rfl ?_
     walk_at "w"
     refine ixT hT (v:=V.int z) rfl ?_
     walk_at "w"
     refine ⟨t,P,L,G,h,w,g,r,z,rows,cl,rfl,x,fun H1 s1=>?_⟩
     cases hb3:hitB t rows r z with
     | false=>exact ⟨false,rfl,iteT (q _ s1)⟩
     | true=>
      refine ⟨true,rfl,iteF ?_⟩
      exact lm (s1 _ _ hT) (s1 _ _ hM) hn (s1 _ _ hT2) fun H' s2=>q H' (s1.trans s2)
def c8 (K:PySem.W.Frag) (c:RCl RK) (d:RCl PzK):Sp:=fun vs H Q E=>lj K c d vs H Q E∨∃ (P L G A T:Addr) (h w g:Int) (rows:List RR) (cl:List Int),vs=[.ref P,.ref A,.ref T]∧IsPz H c d P L G h w g rows cl∧pQ H T∧∀ H',Same H H'→Q (.bl false) H'
theorem qR {K:PySem.W.Frag} {c:RCl RK} {d:RCl PzK} {vs:List V} {H:Hp} {Q:VK} {E:XK} (h:c8 K c d vs H Q E):vs.length=3:=by
 rcases h with h | ⟨_,_,_,_,_,_,_,_,_,_,rfl,_⟩
 · exact qO h
 · rfl
def c9 (K:PySem.W.Frag) (c:RCl RK) (d:RCl PzK):TS:=
 (tRet (tAndV (tCall (cq K c d) [] E0 (tCons (tVar 0) (tCons (tVar 2) tNil))) (tCall (c7 K c d) [] E0 (tCons (tVar 0) (tCons (tVar 1) (tCons (tVar 2) tNil))))))
theorem qS {K:PySem.W.Frag} {c:RCl RK} {d:RCl PzK} {vs:List V} {H:Hp} {Q:VK} {E:XK} (h:c8 K c d vs H Q E):c9 K c d { nx:=fun _ H'=>Q .non H',rt:=Q } (start ["puzzle","masks","thought"] vs) H:=by
 rcases h with ⟨P,L,G,A,T,M,h,w,g,rows,cl,masks,t,r,z,s,ms,rfl,X,ht,mm,q⟩ | ⟨P,L,G,A,T,h,w,g,rows,cl,rfl,X,o,q⟩
 · show c9 K c d _ [some (.ref P),some (.ref A),some (.ref T)] H
   unfold c9
   walk_at "w"
   refine .inl ⟨t,P,L,G,T,M,h,w,g,r,z,s,rows,cl,ms,rfl,X.P,X.T,fun H1 s1=>?_⟩
   unfold jg at q
   cases hb:formB h w g rows t r z s with
   | false=>
    rw [hb,Bool.false_and] at q
    exact ⟨false,rfl,iteF (q _ s1)⟩
   | true=>
    rw [hb,Bool.true_and] at q
    refine ⟨true,rfl,iteT ?_⟩
    walk_at "w"
    exact ⟨P,L,G,A,T,M,h,w,g,rows,cl,masks,t,r,z,s,ms,rfl,X.same s1,ht,mm,hb,fun H' s2=>q H' (s1.trans s2)⟩
 · show c9 K c d _ [some (.ref P),some (.ref A),some (.ref T)] H
   unfold c9
   walk_at "w"
   refine .inr ⟨P,L,G,T,h,w,g,rows,cl,rfl,X,o,fun H1 s1=>?_⟩
   exact ⟨false,rfl,iteF (q _ s1)⟩
theorem pf:∀ (rs:List (List Nat)),(∀ r∈rs,r.length≤2)→(catL 32 rs).length≤3*rs.length
 | [],_=>by simp [catL]
 | [x],h=>by have:=h x List.mem_cons_self; simp [catL]; omega
 | x::y::r,h=>by
  rw [mG (by simp)]
  have h1:=h x List.mem_cons_self
  have h2:=pf (y::r) fun z hz=>h z (List.mem_cons_of_mem _ hz)
  simp only [List.length_append,List.length_cons] at*
  omega
theorem rJ {cs:List Nat} (h:cs.length≤16):(catL 32 (cs.map numC)).length≤48:=by
 have:=pf (cs.map numC) fun r hr=>by obtain ⟨x,_,rfl⟩:=List.mem_map.mp hr; exact lS
 rw [List.length_map] at this
 omega
theorem tp {k:RK} {h w g:Int} {n m:Nat} {ns:List Nat} (F:FlOk h w g) (ne:ns≠[]) (lt:∀ c∈ns,(c:Int) < h*w) (nd:ns.Nodup) (len:ns.length≤16) (hk:allK k=false) (k0:k≠.Rule) (n0:n≤99) (nz:numK k=false→n=0) (m0:sgnK k=true→1≤(m:Int)∧(m:Int)≤g) (mz:sgnK k=false→m=0):
  RR.Ok ⟨k,n,m,ns,ns.map fun (n:Nat)=>(n:Int)⟩ h w g:=by
 have m16:=F.m
 refine ⟨k0,n0,nz,m0,mz,⟨fun _=>⟨ne,len,lt,nd,rfl⟩,fun e=>?_⟩,fun x hx=>?_,len⟩
 · rw [show allK k=false from hk] at e; cases e
 · have:=lt x hx
   omega
theorem strL {Q:VK} {H:Hp} {a b:List Nat} (h1:a.length≤400) (h2:b.length≤400) (q:Q (.str (tx (a++b))) H):cAdd (.str (tx a)) (.str (tx b)) H Q:=by
 rw [fj,qi]
 exact ⟨by rw [gp,gp]; exact aB (by omega),q⟩
theorem tq {H:Hp} {l:Addr} {t:TK} {r z s:Int} {ms:List Int} {T:Addr} (hl:H l=some (.lst (ms.map V.int))) (hn:ms.length≤100) (hT:H T=none):IsTh (upd H T (.tup [.str (tx (tkC t)),.int r,.int z,.int s,.ref l])) T l t r z s ms:=⟨ag,by rw [aq (aE hl hT)]; exact hl,hn⟩
abbrev gD (cs:List Nat):List Int:=cs.map fun (n:Nat)=>(n:Int)
abbrev x5 (cs:List Nat):RR:=⟨.Unlike,0,0,cs,gD cs⟩
abbrev qT (k:RK) (h w:Int) (m:Nat):RR:=⟨k,0,m,[],rngL 0 (h*w)⟩
theorem vb {cs:List Nat} (ne:cs≠[]):nmC .Unlike++[32]++catL 32 (cs.map numC)=catL 32 (rowW .Unlike 0 0 cs):=by
 show _=catL 32 (nmC .Unlike::cs.map numC)
 rw [mG (by simpa using ne)]
 simp
abbrev ThP:=TK→Int→Int→Int→List Int→Prop
structure IsThs (U:ThP) (H:Hp) (L:Addr) (ts:List Addr):Prop where
 top:H L=some (.lst (ts.map V.ref))
 ok:∀ T∈ts,∃ (M:Addr) (t:TK) (r z s:Int) (ms:List Int),M≠L∧U t r z s ms∧IsTh H T M t r z s ms
theorem IsThs.same {U:ThP} {H H':Hp} {L:Addr} {ts:List Addr} (x:IsThs U H L ts) (e:Same H H'):IsThs U H' L ts:=⟨e _ _ x.top,fun T hT=>by
 obtain ⟨M,t,r,z,s,ms,n,p,th⟩:=x.ok T hT
 exact ⟨M,t,r,z,s,ms,n,p,th.same e⟩⟩
theorem vL {U:ThP} {H:Hp} {L:Addr} {ts:List Addr} (hL:H L=none) (ok:∀ T∈ts,∃ (M:Addr) (t:TK) (r z s:Int) (ms:List Int),U t r z s ms∧IsTh H T M t r z s ms):IsThs U (upd H L (.lst (ts.map V.ref))) L ts:=⟨ag,fun T hT=>by
 obtain ⟨M,t,r,z,s,ms,p,th⟩:=ok T hT
 exact ⟨M,t,r,z,s,ms,aE th.M hL,p,th.same ((Same.refl H).laid hL)⟩⟩
theorem IsThs.app {U:ThP} {H H2:Hp} {L T M:Addr} {ts:List Addr} {t:TK} {r z s:Int} {ms:List Int} (x:IsThs U H L ts) (s1:Same H H2) (th:IsTh H2 T M t r z s ms) (nM:M≠L) (p:U t r z s ms):IsThs U (upd H2 L (.lst (ts.map V.ref++[V.ref T]))) L (ts++[T]):=by
 have keep:∀ {T' M':Addr} {t:TK} {r z s:Int} {ms:List Int},M'≠L→IsTh H2 T' M' t r z s ms→IsTh (upd H2 L (.lst (ts.map V.ref++[V.ref T]))) T' M' t r z s ms:=fun {T' M' t r z s ms} nM' th'=>by
  have nT:T'≠L:=fun e=>by
   have a:=th'.T
   rw [e,s1 _ _ x.top] at a
   cases a
  exact ⟨by rw [aq nT]; exact th'.T,by rw [aq nM']; exact th'.M,th'.n⟩
 refine ⟨by rw [ag,List.map_append]; rfl,fun T' hT'=>?_⟩
 rcases List.mem_append.mp hT' with hT' | hT'
 · obtain ⟨M',t',r',z',s',ms',n',p',th'⟩:=x.ok T' hT'
   exact ⟨M',t',r',z',s',ms',n',p',keep n' (th'.same s1)⟩
 · rw [List.mem_singleton.mp hT']
   exact ⟨M,t,r,z,s,ms,nM,p,keep nM th⟩
theorem gZ {U:ThP} {Q:VK} {H0 H:Hp} {L M T:Addr} {ts:List Addr} (t:TK) {r z s:Int} (ms:List Int) {xs:List V} {wd:List Nat} (hL:H0 L=none) (s1:Same H0 H) (X:IsThs U H L ts) (p:U t r z s ms) (ew:wd=tkC t) (ex:xs=ms.map V.int) (hn:ms.length≤100) (hl:ts.length≤900) (hM:H M=none) (hT:(upd H M (.lst xs)) T=none)
  (k:∀ H',Same H0 H'→(∀ b x,b≠L→H b=some x→H' b=some x)→IsThs U H' L (ts++[T])→Q .non H'):
  bw (.ref L) [.ref T] (upd (upd H M (.lst xs)) T (.tup [.str (tx wd),.int r,.int z,.int s,.ref M])) Q:=by
 subst ew ex
 have t1:Same H (upd H M (.lst (ms.map V.int))):=(Same.refl H).laid hM
 have eM:(upd H M (.lst (ms.map V.int))) M=some (.lst (ms.map V.int)):=ag
 have th:=tq (t:=t) (r:=r) (z:=z) (s:=s) eM hn hT
 have t2:Same (upd H M (.lst (ms.map V.int))) (upd (upd H M (.lst (ms.map V.int))) T (.tup [.str (tx (tkC t)),.int r,.int z,.int s,.ref M])):=(Same.refl _).laid hT
 have t12:=t1.trans t2
 have nM:M≠L:=fun e=>by rw [e,X.top] at hM; cases hM
 rw [mt (t12 _ _ X.top)]
 refine ⟨by rw [List.length_map]; exact aJ (by omega),k _ ((s1.trans t12).own hL) (fun b x nb e=>?_) (X.app t12 th nM p)⟩
 rw [aq nb]
 exact t12 _ _ e
abbrev cg (h w:Int):List Nat:=List.range (h*w).toNat
def aU (h w:Int):List RR:=[x5 (cg h w),qT .Joined h w 1,qT .Ring h w 1,qT .NoSquare h w 1]
abbrev bR (h w:Int):List Int:=(List.range (h*w).toNat).map fun _=>(0:Int)
theorem j5 (h w:Int) (k:Nat):(bR h w).getD k 0=0:=by
 rw [List.getD,List.getElem?_map]
 cases (List.range (h*w).toNat)[k]? <;> rfl
theorem st0 (s:Int):stB 0 s=false:=by
 cases hs:stB 0 s with
 | false=>rfl
 | true=>
  unfold stB at hs
  simp only [Bool.and_eq_true,decide_eq_true_eq] at hs
  have e:Builtin.Int.intBits 0=0:=rfl
  rw [e] at hs
  omega
theorem wo0 (s:Int):woI 0 s=0:=by
 unfold woI
 rw [st0]
 rfl
theorem sg0 (h w:Int) (cs:List Int):∀ k∈sgAt (bR h w) cs,k=0:=fun k hk=>by
 unfold sgAt at hk
 obtain ⟨c,_,rfl⟩:=List.mem_map.mp hk
 exact j5 h w _
theorem x6 (h w s:Int) (cs:List Int):((sgAt (bR h w) cs).filter fun m=>stB m s)=[]:=by
 rw [List.filter_eq_nil_iff]
 intro k hk
 rw [sg0 h w cs k hk,st0]
 decide
theorem yH (h w s:Int) (cs:List Int):((sgAt (bR h w) cs).filter fun m=>decide (woI m s=0))=sgAt (bR h w) cs:=by
 rw [List.filter_eq_self]
 intro k hk
 rw [sg0 h w cs k hk,wo0]
 rfl
abbrev aO (h w z:Int):List Int:=(gD (cg h w)).filter fun x=>!decide (x=z)
theorem cel_mem {h w x:Int}:x∈gD (cg h w)↔0≤x∧x < h*w:=by
 constructor
 · intro hx
   obtain ⟨n,hn,rfl⟩:=List.mem_map.mp hx
   have:=List.mem_range.mp hn
   omega
 · intro hx
   exact List.mem_map.mpr ⟨x.toNat,List.mem_range.mpr (by omega),by omega⟩
theorem oth_mem {h w z x:Int}:x∈aO h w z↔(0≤x∧x < h*w)∧x≠z:=by
 rw [List.mem_filter,cel_mem,Bool.not_eq_true',decide_eq_false_iff_not]
theorem rng_mem32 {n x:Int}:x∈rngL 0 n↔0≤x∧x < n:=by
 refine ⟨sf,fun hx=>?_⟩
 unfold rngL
 exact List.mem_map.mpr ⟨x.toNat,List.mem_range.mpr (by omega),by omega⟩
inductive Sm32 (h w g:Int) (z:Int):TK→Int→Int→List Int→Prop
 | turn:Sm32 h w g z .turn 2 1 []
 | clue {s:Int}:1≤s→s≤g→Sm32 h w g z .clue 0 s []
 | only {s x:Int}:1≤s→s≤g→0≤x→x < h*w→x≠z→Sm32 h w g z .only 0 s [x]
 | reach1 {x:Int}:0≤x→x < h*w→x≠z→Sm32 h w g z .reach 1 1 [x]
 | place {s x:Int}:1≤s→s≤g→h*w=g→1≤x→x≤g→x≠s→Sm32 h w g z .place 0 s [x]
 | pair {s:Int} {j:Nat}:1≤s→s≤g→j+1 < (aO h w z).length→Sm32 h w g z .pair 0 s [(aO h w z).getD j 0,(aO h w z).getD (j+1) 0]
 | reach2 {s:Int} {j:Nat}:1≤s→s≤g→j+1 < (aO h w z).length→Sm32 h w g z .reach 2 s [(aO h w z).getD (j+1) 0,(aO h w z).getD j 0]
 | square {x:Int}:0≤x→x / w+1 < h→x % w+1 < w→z∈[x,x+1,x+w,x+w+1]→Sm32 h w g z .square 3 1 [x]
def oh (b:Bool) (cl:List Int) (t:TK) (r z s:Int):Bool:=if t=.clue then !decide (cl.getD z.toNat 0=s) else if t=.reach∧r=2 then b&&!decide (s=1) else b
theorem ph (h w z:Int):(aO h w z).Nodup:=by
 refine List.Pairwise.filter _ ?_
 refine List.Pairwise.map _ (fun a b hab e=>hab (by omega)) (List.nodup_range)
theorem vM {h w x z:Int} (w0:1≤w) (x0:0≤x) (x1:x < h*w) (xr:x / w+1 < h) (xc:x % w+1 < w) (hz:z∈[x,x+1,x+w,x+w+1]):rosL h w x z=[x,x+1,x+w,x+w+1].filter fun y=>!decide (y=z):=by
 have hc:cornB h w x=true:=by
  unfold cornB
  rw [decide_eq_true (by omega),decide_eq_true (by omega)]
  rfl
 have mem:sqL w x∈squL h w:=by
  unfold squL
  refine List.mem_map.mpr ⟨x.toNat,List.mem_filter.mpr ⟨List.mem_range.mpr (by omega),?_⟩,?_⟩
  · rw [show ((x.toNat:Nat):Int)=x by omega]; exact hc
  · rw [show ((x.toNat:Nat):Int)=x by omega]
 have pp:rosP x z (sqL w x)=true:=by
  unfold rosP
  rw [decide_eq_true (show (sqL w x).getD 0 0=x from rfl),decide_eq_true (show z∈sqL w x from hz)]
  rfl
 unfold rosL
 cases hf:(squL h w).find? (rosP x z) with
 | none=>
  have:=List.find?_eq_none.mp hf _ mem
  exact absurd pp this
 | some q=>
  obtain ⟨i,_,_,e⟩:=oO (List.mem_of_find?_eq_some hf)
  have p2:=List.find?_some hf
  unfold rosP at p2
  rw [Bool.and_eq_true,decide_eq_true_eq] at p2
  have ex:(i:Int)=x:=by
   have:=p2.1
   rw [e] at this
   exact this
  rw [e,ex]
  rfl
theorem fQ {h w g:Int} {rows:List RR} {t:TK} {r z s:Int} (z0:0≤z) (z1:z < h*w) (s0:1≤s) (s1:s≤g):formB h w g rows t r z s=hitB t rows r z:=by
 unfold formB
 rw [decide_eq_true z0,decide_eq_true z1,decide_eq_true s0,decide_eq_true s1]
 rfl
theorem x8 {h w z x:Int} (hx:x≠z):rcB h w ([]++[z]) z x=false:=by
 unfold rcB
 rw [decide_eq_false_iff_not]
 intro r
 exact hx (List.mem_singleton.mp r.mem)
theorem x9 {h w z x:Int}:rcB h w [] z x=false:=by
 unfold rcB
 rw [decide_eq_false_iff_not]
 intro r
 cases r.mem
theorem ya (h w:Int) (cs:List Int) (m z:Int):thrL cs (bR h w) m z=[]:=by
 unfold thrL
 rw [List.filter_eq_nil_iff]
 intro x _
 rw [j5,st0]
 decide
theorem vN {h w z x m:Int} (x0:0≤x) (x1:x < h*w) (xz:x≠z):anoB h w (bR h w) z m x=true:=by
 unfold anoB
 rw [decide_eq_true x0,decide_eq_true x1,decide_eq_false xz,j5,wo0]
 rfl
theorem ku {xs:List Int} {j:Nat} (hj:j < xs.length):xs.getD j 0∈xs:=by
 rw [List.getD,List.getElem?_eq_getElem hj]
 exact List.getElem_mem _
theorem wo {xs:List Int} (nd:xs.Nodup) {j:Nat} (hj:j+1 < xs.length):lf xs (xs.getD j 0) < lf xs (xs.getD (j+1) 0)∧xs.getD j 0≠xs.getD (j+1) 0:=by
 have e:∀ i,(hi:i < xs.length)→xs.getD i 0=xs[i]:=fun i hi=>by rw [List.getD,List.getElem?_eq_getElem hi]; rfl
 have ne:∀ a b,(ha:a < xs.length)→(hb:b < xs.length)→xs[a]=xs[b]→a=b:=fun a b ha hb h=>(List.getElem_inj nd).mp h
 have f:∀ i,(hi:i < xs.length)→xs.findIdx (· ==xs[i])=i:=fun i hi=>by
  refine (List.findIdx_eq hi).mpr ⟨by simp,fun k hk=>?_⟩
  have:xs[k]≠xs[i]:=fun h=>by have:=ne k i (by omega) hi h; omega
  simpa using this
 refine ⟨?_,fun h=>?_⟩
 · rw [e j (by omega),e (j+1) hj]
   unfold lf
   rw [f j (by omega),f (j+1) hj]
   omega
 · rw [e j (by omega),e (j+1) hj] at h
   have:=ne _ _ _ _ h
   omega
theorem qU {h w g:Int} {cl:List Int} {t:TK} {r z s:Int} {ms:List Int} (F:FlOk h w g) (z0:0≤z) (z1:z < h*w) (c1:cl.getD z.toNat 0≠0) (x:Sm32 h w g z t r s ms) (b:Bool):jg h w g (if b=true then aU h w else []) cl (bR h w) t r z s ms=oh b cl t r z s:=by
 obtain ⟨h0,h1,w0,w1,m16,g0,g1⟩:=id F
 have zr:decide (z∈rngL 0 (h*w))=true:=decide_eq_true (rng_mem32.mpr ⟨z0,z1⟩)
 have zc:decide (z∈gD (cg h w))=true:=decide_eq_true (cel_mem.mpr ⟨z0,z1⟩)
 unfold jg
 cases x with
 | turn=>
  rw [fQ z0 z1 (by decide) g0]
  cases b with
  | false=>rfl
  | true=>
   have hh:hitB .turn (aU h w) 2 z=true:=by
    show (true&&decide (z∈rngL 0 (h*w)))=true
    rw [zr]; rfl
   rw [if_pos rfl,hh,Bool.true_and]
   show turnB h w ((1:Nat):Int) (bR h w) z 1 []=true
   unfold turnB mayN
   rw [if_pos rfl,x6]
   rfl
 | @clue s s0 s1=>
  rw [fQ z0 z1 s0 s1]
  show (hitB .clue _ 0 z&&clueB cl z s [])=(!decide (cl.getD z.toNat 0=s))
  have hh:∀ rows,hitB .clue rows 0 z=true:=fun rows=>rfl
  rw [hh]
  unfold clueB
  rw [decide_eq_true rfl,decide_eq_false c1]
  rfl
 | @only s x s0 s1 x0 x1 xz=>
  rw [fQ z0 z1 s0 s1]
  cases b with
  | false=>rfl
  | true=>
   have hh:hitB .only (aU h w) 0 z=true:=by
    show (true&&decide (z∈gD (cg h w)))=true
    rw [zc]; rfl
   rw [if_pos rfl,hh,Bool.true_and]
   show onlyB (gD (cg h w)) (bR h w) z s [x]=true
   unfold onlyB
   rw [show ([x]:List Int).getD 0 0=x from rfl,j5,wo0,decide_eq_true (show x∈aO h w z from oth_mem.mpr ⟨⟨x0,x1⟩,xz⟩)]
   rfl
 | @reach1 x x0 x1 xz=>
  rw [fQ z0 z1 (by decide) g0]
  cases b with
  | false=>rfl
  | true=>
   have hh:hitB .reach (aU h w) 1 z=true:=by
    show (true&&decide (z∈rngL 0 (h*w)))=true
    rw [zr]; rfl
   rw [if_pos rfl,hh,Bool.true_and]
   show reaB h w (rngL 0 (h*w)) ((1:Nat):Int) (bR h w) z 1 [x]=true
   unfold reaB
   rw [ya,show ([x]:List Int).getD 0 0=x from rfl,x8 xz,List.all_cons,List.all_nil,vN x0 x1 xz]
   rfl
 | @place s x s0 s1 hg x0 x1 xs=>
  rw [fQ z0 z1 s0 s1]
  cases b with
  | false=>rfl
  | true=>
   have hh:hitB .place (aU h w) 0 z=true:=by
    show (true&&decide (z∈gD (cg h w)))=true
    rw [zc]; rfl
   rw [if_pos rfl,hh,Bool.true_and]
   show jf g (gD (cg h w)) (bR h w) z s [x]=true
   unfold jf
   rw [x6,show ([x]:List Int).getD 0 0=x from rfl,decide_eq_true (show ((gD (cg h w)).length:Int)=g by rw [List.length_map,List.length_range]; omega),decide_eq_false xs,decide_eq_true x0,decide_eq_true x1]
   rfl
 | @pair s j s0 s1 hj=>
  rw [fQ z0 z1 s0 s1]
  cases b with
  | false=>rfl
  | true=>
   have hh:hitB .pair (aU h w) 0 z=true:=by
    show (true&&decide (z∈gD (cg h w)))=true
    rw [zc]; rfl
   rw [if_pos rfl,hh,Bool.true_and]
   show pairB (gD (cg h w)) (bR h w) z s [(aO h w z).getD j 0,(aO h w z).getD (j+1) 0]=true
   have i1:=wo (ph h w z) hj
   have m1:=ku (xs:=aO h w z) (j:=j) (by omega)
   have m2:=ku (xs:=aO h w z) (j:=j+1) hj
   generalize (aO h w z).getD j 0=x at*
   generalize (aO h w z).getD (j+1) 0=y at*
   have o:orM (bR h w) [x,y]=0:=by
    unfold orM
    rw [j5,j5]
    decide
   unfold pairB ordB
   rw [o,show ([x,y]:List Int).getD 0 0=x from rfl,show ([x,y]:List Int).getD 1 0=y from rfl,decide_eq_true m1,decide_eq_true m2,decide_eq_true i1.1]
   rfl
 | @reach2 s j s0 s1 hj=>
  rw [fQ z0 z1 s0 s1]
  cases b with
  | false=>rfl
  | true=>
   have hh:hitB .reach (aU h w) 2 z=true:=by
    show (true&&decide (z∈rngL 0 (h*w)))=true
    rw [zr]; rfl
   rw [if_pos rfl,hh,Bool.true_and]
   have i1:=wo (ph h w z) hj
   have m1:=oth_mem.mp (ku (xs:=aO h w z) (j:=j) (by omega))
   have m2:=oth_mem.mp (ku (xs:=aO h w z) (j:=j+1) hj)
   show reaB h w (rngL 0 (h*w)) ((1:Nat):Int) (bR h w) z s [(aO h w z).getD (j+1) 0,(aO h w z).getD j 0]=!decide (s=1)
   generalize (aO h w z).getD j 0=x at*
   generalize (aO h w z).getD (j+1) 0=y at*
   unfold reaB
   rw [ya,List.all_cons,List.all_cons,List.all_nil,vN m1.1.1 m1.1.2 m1.2,vN m2.1.1 m2.1.2 m2.2,show ([y,x]:List Int).getD 0 0=y from rfl,show ([y,x]:List Int).getD 1 0=x from rfl]
   by_cases hs:s=1
   · rw [if_pos (show s=((1:Nat):Int) from hs),decide_eq_true hs]
     rfl
   · rw [if_neg (show ¬ s=((1:Nat):Int) from hs),decide_eq_false hs,decide_eq_false (show ¬ y=x from fun e=>i1.2 e.symm),x9]
     rfl
 | @square x x0 xr xc hz=>
  rw [fQ z0 z1 (by decide) g0]
  cases b with
  | false=>rfl
  | true=>
   have hh:hitB .square (aU h w) 3 z=true:=by
    show (true&&decide (z∈rngL 0 (h*w)))=true
    rw [zr]; rfl
   rw [if_pos rfl,hh,Bool.true_and]
   show squB h w ((1:Nat):Int) (bR h w) z 1 [x]=true
   have x1:x < h*w:=by
    have e:=Int.emod_add_mul_ediv x w
    have m:w*(x / w+1)≤w*h:=Int.mul_le_mul_of_nonneg_left (by omega) (by omega)
    rw [Int.mul_add,Int.mul_one,Int.mul_comm w h] at m
    omega
   have ne:rosL h w x z≠[]:=by
    rw [vM w0 x0 x1 xr xc hz]
    intro e
    rw [List.filter_eq_nil_iff] at e
    have a:=e x (by simp)
    have b:=e (x+1) (by simp)
    simp at a b
    omega
   unfold squB
   rw [yH,show ([x]:List Int).getD 0 0=x from rfl,decide_eq_false ne,decide_eq_true (show (sgAt (bR h w) (rosL h w x z)).length=(rosL h w x z).length from List.length_map ..)]
   rfl
structure vO (h w g:Int) (r z s:Int) (ms:List Int) (r' z' s':Int) (ms':List Int):Prop where
 bad:(z' < 0∨h*w≤z')∨(s' < 1∨g < s')∨(r' < 0∨4≤r')∨(r'=r∧z'=z∧s'=s∧∃ ex:List Int,ms'=ms++ex∧((∃ f:Int,16≤f∧ex=[f])∨ex.length=3))
theorem w5 {a b c d:Int} (h:b < a∨c≤d) (e:b=d):(decide (a≤b)&&decide (d < c))=false:=by
 rcases h with h | h
 · rw [decide_eq_false (show ¬ a≤b by omega)]; rfl
 · rw [decide_eq_false (show ¬ d < c by omega)]; simp
theorem vP {h w g:Int} {cl masks:List Int} {t:TK} {r z s:Int} {ms ex:List Int} (F:FlOk h w g) (z0:0≤z) (z1:z < h*w) (x:Sm32 h w g z t r s ms) (he:(∃ f:Int,16≤f∧ex=[f])∨ex.length=3) (b:Bool):oe h w g (if b=true then aU h w else []) cl masks t r z s (ms++ex)=false:=by
 have m16:=F.m
 have el:1≤ex.length:=by
  rcases he with ⟨f,_,rfl⟩ | e
  · exact Nat.le_refl _
  · omega
 have ne:ex≠[]:=fun e=>by rw [e] at el; simp at el
 cases x with
 | turn=>
  show eJ h w _ masks .turn 2 z 1 ex=false
  unfold eJ
  cases (if b=true then aU h w else [])[(2:Int).toNat]? with
  | none=>rfl
  | some y=>
   show turnB h w y.m masks z 1 ex=false
   unfold turnB
   rw [if_neg ne]
   rcases he with ⟨f,hf,rfl⟩ | e
   · have nb:f∉besL h w z:=fun hb=>by
      have:=(n6 F z0 z1).2 f hb
      omega
     rw [show ([f]:List Int).getD 0 0=f from rfl,decide_eq_false nb]
     simp
   · rw [decide_eq_false (show ¬ ex.length=1 by omega)]
     rfl
 | clue=>
  show clueB cl z s ex=false
  unfold clueB
  rw [decide_eq_false ne]
  rfl
 | @only s x s0 s1 x0 x1 xz=>
  show fk g _ cl masks .only 0 z s (x::ex)=false
  unfold fk
  dsimp only
  cases (if b=true then aU h w else [])[(0:Int).toNat]? with
  | none=>rfl
  | some y=>
   show onlyB y.cs masks z s (x::ex)=false
   unfold onlyB
   rw [decide_eq_false (show ¬ (x::ex).length=1 by rw [List.length_cons]; omega)]
   rfl
 | @reach1 x x0 x1 xz=>
  show eJ h w _ masks .reach 1 z 1 (x::ex)=false
  unfold eJ
  cases b with
  | false=>rfl
  | true=>
   show reaB h w (rngL 0 (h*w)) ((1:Nat):Int) masks z 1 (x::ex)=false
   unfold reaB
   rw [if_pos (show (1:Int)=((1:Nat):Int) from rfl),decide_eq_false (show ¬ (x::ex).length=1 by rw [List.length_cons]; omega)]
   simp
 | @place s x s0 s1 hg x0 x1 xs=>
  show fk g _ cl masks .place 0 z s (x::ex)=false
  unfold fk
  dsimp only
  cases (if b=true then aU h w else [])[(0:Int).toNat]? with
  | none=>rfl
  | some y=>
   show jf g y.cs masks z s (x::ex)=false
   unfold jf
   rw [decide_eq_false (show ¬ (x::ex).length=1 by rw [List.length_cons]; omega)]
   simp
 | @pair s j s0 s1 hj=>
  show fk g _ cl masks .pair 0 z s ((aO h w z).getD j 0::(aO h w z).getD (j+1) 0::ex)=false
  unfold fk
  dsimp only
  cases (if b=true then aU h w else [])[(0:Int).toNat]? with
  | none=>rfl
  | some y=>
   show pairB y.cs masks z s ((aO h w z).getD j 0::(aO h w z).getD (j+1) 0::ex)=false
   unfold pairB ordB
   rw [decide_eq_false (show ¬ ((aO h w z).getD j 0::(aO h w z).getD (j+1) 0::ex).length=2 by rw [List.length_cons,List.length_cons]; omega)]
   rfl
 | @reach2 s j s0 s1 hj=>
  show eJ h w _ masks .reach 2 z s ((aO h w z).getD (j+1) 0::(aO h w z).getD j 0::ex)=false
  unfold eJ
  cases b with
  | false=>rfl
  | true=>
   show reaB h w (rngL 0 (h*w)) ((1:Nat):Int) masks z s ((aO h w z).getD (j+1) 0::(aO h w z).getD j 0::ex)=false
   unfold reaB
   have e1:¬ ((aO h w z).getD (j+1) 0::(aO h w z).getD j 0::ex).length=1:=by rw [List.length_cons,List.length_cons]; omega
   have e2:¬ ((aO h w z).getD (j+1) 0::(aO h w z).getD j 0::ex).length=2:=by rw [List.length_cons,List.length_cons]; omega
   rw [decide_eq_false e1,decide_eq_false e2]
   split <;> simp
 | @square x x0 xr xc hz=>
  show eJ h w _ masks .square 3 z 1 (x::ex)=false
  unfold eJ
  cases (if b=true then aU h w else [])[(3:Int).toNat]? with
  | none=>rfl
  | some y=>
   show squB h w y.m masks z 1 (x::ex)=false
   unfold squB
   rw [decide_eq_false (show ¬ (x::ex).length=1 by rw [List.length_cons]; omega)]
   simp
theorem vQ {h w g:Int} {cl masks:List Int} {t:TK} {r z s r' z' s':Int} {ms ms':List Int} (F:FlOk h w g) (z0:0≤z) (z1:z < h*w) (x:Sm32 h w g z t r s ms) (y:vO h w g r z s ms r' z' s' ms') (b:Bool):jg h w g (if b=true then aU h w else []) cl masks t r' z' s' ms'=false:=by
 unfold jg formB
 rcases y.bad with e | e | e | ⟨rfl,rfl,rfl,ex,rfl,he⟩
 · rw [show (decide (0≤z')&&decide (z' < h*w))=false from w5 (by omega) rfl]
   rfl
 · rw [show (decide (1≤s')&&decide (s'≤g))=false from by
    rcases e with e | e
    · rw [decide_eq_false (show ¬ 1≤s' by omega)]; rfl
    · rw [decide_eq_false (show ¬ s'≤g by omega)]; simp]
   simp
 · have hh:hitB t (if b=true then aU h w else []) r' z'=false:=by
    unfold hitB
    rcases e with e | e
    · rw [if_pos e]
    · rw [if_neg (by omega)]
      split
      · exact decide_eq_false (by omega)
      · have hl:(if b=true then aU h w else []).length≤4:=by
         cases b
         · exact Nat.zero_le _
         · exact Nat.le_refl 4
        rw [List.getElem?_eq_none (by omega)]
   rw [hh]
   simp
 · rw [vP F z0 z1 x he b]
   simp
def S32 (h w g z:Int):ThP:=fun t r y s ms=>y=z∧Sm32 h w g z t r s ms
theorem w6 {h w z:Int} (z0:0≤z) (z1:z < h*w):(aO h w z).length=(h*w).toNat - 1:=by
 have nd:(gD (cg h w)).Nodup:=List.Pairwise.map _ (fun a b hab e=>hab (by omega)) (List.nodup_range)
 have e:aO h w z=(gD (cg h w)).erase z:=by
  rw [List.Nodup.erase_eq_filter nd]
  rfl
 rw [e,List.length_erase_of_mem (cel_mem.mpr ⟨z0,z1⟩),List.length_map,List.length_range]
theorem vR (h w z:Int):((List.range (h*w).toNat).filter fun (i:Nat)=>!decide ((i:Int)=z)).map (fun (i:Nat)=>(i:Int))=aO h w z:=by
 unfold aO gD cg
 rw [List.filter_map]
 rfl
theorem yb {m z k:Int} (k0:0≤k) (k1:k < m - 1):(z+1+k) % m≠z:=by
 intro e
 have d:=Int.emod_add_mul_ediv (z+1+k) m
 rw [e] at d
 by_cases hq:(z+1+k) / m≤0
 · have:=Int.mul_le_mul_of_nonneg_left hq (show 0≤m by omega)
   rw [Int.mul_zero] at this
   omega
 · have:=Int.mul_le_mul_of_nonneg_left (show 1≤(z+1+k) / m by omega) (show 0≤m by omega)
   rw [Int.mul_one] at this
   omega
theorem w9 {s g:Int} (s0:1≤s) (s1:s≤g) (g2:1 < g):1+s % g≠s:=by
 by_cases e:s=g
 · rw [e,Int.emod_self]; omega
 · rw [Int.emod_eq_of_lt (by omega) (by omega)]; omega
theorem vS {h w z a b:Int} (w2:1 < w) (h2:1 < h) (z0:0≤z) (z1:z < h*w) (ea:a=if h - 2 < z / w then h - 2 else z / w) (eb:b=if w - 2 < z % w then w - 2 else z % w):0≤a*w+b∧(a*w+b) / w+1 < h∧(a*w+b) % w+1 < w∧z∈[a*w+b,a*w+b+1,a*w+b+w,a*w+b+w+1]:=by
 have d:=Int.emod_add_mul_ediv z w
 have r0:=Int.emod_nonneg z (show w≠0 by omega)
 have r1:=Int.emod_lt_of_pos z (show 0 < w by omega)
 have q0:0≤z / w:=Int.ediv_nonneg z0 (by omega)
 have q1:z / w < h:=Int.ediv_lt_of_lt_mul (by omega) z1
 generalize z / w=q at*
 generalize z % w=r at*
 have a0:0≤a:=by rw [ea]; split <;> omega
 have b0:0≤b:=by rw [eb]; split <;> omega
 have a1:a+1 < h:=by rw [ea]; split <;> omega
 have b1:b+1 < w:=by rw [eb]; split <;> omega
 have u:=(Int.ediv_emod_unique (a:=a*w+b) (b:=w) (q:=a) (r:=b) (by omega)).mpr ⟨by rw [Int.mul_comm w a,Int.add_comm],b0,by omega⟩
 have aw:0≤a*w:=Int.mul_nonneg a0 (by omega)
 rw [u.1,u.2]
 refine ⟨by omega,a1,b1,?_⟩
 have ha:q=a∨q=a+1:=by rw [ea]; split <;> omega
 have hb:r=b∨r=b+1:=by rw [eb]; split <;> omega
 have hz:z=a*w+b∨z=a*w+b+1∨z=a*w+b+w∨z=a*w+b+w+1:=by
  rcases ha with ha | ha
  · rw [ha,Int.mul_comm] at d
    omega
  · rw [ha,Int.mul_add,Int.mul_one,Int.mul_comm] at d
    omega
 rcases hz with e | e | e | e
 · rw [e]; simp
 · rw [e]; simp
 · rw [e]; simp
 · rw [e]; simp
def bx (K:PySem.W.Frag):Sp:=fun vs H Q _=>∃ (p:Addr) (h w g n:Int),vs=[.int n,.ref p]∧IsFl H p h w g∧FlOk h w g∧
 ∀ (L:Addr) (ts:List Addr) (H':Hp),Same H H'→IsThs (S32 h w g (n % (h*w))) H' L ts→ts.length≤8→Q (.ref L) H'
theorem ln {K:PySem.W.Frag} {vs:List V} {H:Hp} {Q:VK} {E:XK} (h:bx K vs H Q E):vs.length=2:=by
 obtain ⟨_,_,_,_,_,rfl,_⟩:=h; rfl
def vT (K:PySem.W.Frag):TS:=
 (tIfS (tTest (tOp (cEq K) (tVar 2) (tOp cIx (tVar 1) (tC (.int 2))))) (tDrop (tBM K "list" bw (tVar 5) (tCons (tTup (tCons (tC (.str (tx [112,108,97,99,101]))) (tCons (tC (.int 0)) (tCons (tVar 3) (tCons (tVar 4) (tCons (tLst (tCons (tOp cAdd (tC (.int 1)) (tOp cMod (tVar 4) (tOp cIx (tVar 1) (tC (.int 2))))) tNil)) tNil)))))) tNil))) tNext)
def vU (K:PySem.W.Frag):TS:=
 (tSeq (tDrop (tBM K "list" bw (tVar 5) (tCons (tTup (tCons (tC (.str (tx [114,101,97,99,104]))) (tCons (tC (.int 1)) (tCons (tVar 3) (tCons (tC (.int 1)) (tCons (tLst (tCons (tVar 6) tNil)) tNil)))))) tNil)))
  (vT K))
def pR (K:PySem.W.Frag):TS:=
 (tDrop (tBM K "list" bw (tVar 5) (tCons (tTup (tCons (tC (.str (tx [114,101,97,99,104]))) (tCons (tC (.int 2)) (tCons (tVar 3) (tCons (tOp cAdd (tC (.int 1)) (tOp cMod (tVar 4) (tOp cIx (tVar 1) (tC (.int 2))))) (tCons (tLst (tCons (tOp cIx (tVar 7) (tOp cAdd (tVar 6) (tC (.int 1)))) (tCons (tOp cIx (tVar 7) (tVar 6)) tNil))) tNil)))))) tNil)))
def vV (K:PySem.W.Frag):TS:=
 (tSeq (tDrop (tBM K "list" bw (tVar 5) (tCons (tTup (tCons (tC (.str (tx [112,97,105,114]))) (tCons (tC (.int 0)) (tCons (tVar 3) (tCons (tVar 4) (tCons (tLst (tCons (tOp cIx (tVar 7) (tVar 6)) (tCons (tOp cIx (tVar 7) (tOp cAdd (tVar 6) (tC (.int 1)))) tNil))) tNil)))))) tNil)))
  (pR K))
def yc (K:PySem.W.Frag):TS:=
 (tDrop (tBM K "list" bw (tVar 5) (tCons (tTup (tCons (tC (.str (tx [115,113,117,97,114,101]))) (tCons (tC (.int 3)) (tCons (tVar 3) (tCons (tC (.int 1)) (tCons (tLst (tCons (tOp cAdd (tOp cMul (tVar 8) (tOp cIx (tVar 1) (tC (.int 1)))) (tVar 9)) tNil)) tNil)))))) tNil)))
def da (K:PySem.W.Frag):TS:=
 (tSeq (tIfS (tAnd (tTest (tOp (cCmp fun i j=>decide (j < i)) (tOp cIx (tVar 1) (tC (.int 0))) (tC (.int 1)))) (tTest (tOp (cCmp fun i j=>decide (j < i)) (tOp cIx (tVar 1) (tC (.int 1))) (tC (.int 1))))) (tSeq (tAsg (tCB kMin (tCons (tOp cDiv (tVar 3) (tOp cIx (tVar 1) (tC (.int 1)))) (tCons (tOp cSub (tOp cIx (tVar 1) (tC (.int 0))) (tC (.int 2))) tNil))) (gName 8))
  (tSeq (tAsg (tCB kMin (tCons (tOp cMod (tVar 3) (tOp cIx (tVar 1) (tC (.int 1)))) (tCons (tOp cSub (tOp cIx (tVar 1) (tC (.int 1))) (tC (.int 2))) tNil))) (gName 9))
  (yc K))) tNext)
  (tRet (tVar 5)))
def db (K:PySem.W.Frag):TS:=
 (tSeq (tIfS (tTest (tOp (cCmp fun i j=>decide (j < i)) (tVar 2) (tC (.int 2)))) (tSeq (sComp 7 [none,none,some 3] (fU (tCons (tVar 2) tNil)) (gName 1) (tTest (tOp (cNe K) (tVar 1) (tVar 2))) (tVar 1))
  (tSeq (tAsg (tOp cMod (tOp cDiv (tVar 0) (tC (.int 96))) (tOp cSub (tVar 2) (tC (.int 2)))) (gName 6))
  (vV K))) tNext)
  (da K))
def dc (K:PySem.W.Frag):TS:=
 (tSeq (tIfS (tTest (tOp (cCmp fun i j=>decide (j < i)) (tVar 2) (tC (.int 1)))) (tSeq (tAsg (tOp cMod (tOp cAdd (tOp cAdd (tVar 3) (tC (.int 1))) (tOp cMod (tOp cDiv (tVar 0) (tC (.int 96))) (tOp cSub (tVar 2) (tC (.int 1))))) (tVar 2)) (gName 6))
  (tSeq (tDrop (tBM K "list" bw (tVar 5) (tCons (tTup (tCons (tC (.str (tx [111,110,108,121]))) (tCons (tC (.int 0)) (tCons (tVar 3) (tCons (tVar 4) (tCons (tLst (tCons (tVar 6) tNil)) tNil)))))) tNil)))
  (vU K))) tNext)
  (db K))
def cM (K:PySem.W.Frag):TS:=
 (tSeq (tAsg (tOp cMul (tOp cIx (tVar 1) (tC (.int 0))) (tOp cIx (tVar 1) (tC (.int 1)))) (gName 2))
  (tSeq (tAsg (tOp cMod (tVar 0) (tVar 2)) (gName 3))
  (tSeq (tAsg (tOp cAdd (tC (.int 1)) (tOp cMod (tOp cDiv (tVar 0) (tC (.int 16))) (tOp cIx (tVar 1) (tC (.int 2))))) (gName 4))
  (tSeq (tAsg (tLst (tCons (tTup (tCons (tC (.str (tx [116,117,114,110]))) (tCons (tC (.int 2)) (tCons (tVar 3) (tCons (tC (.int 1)) (tCons (tLst tNil) tNil)))))) (tCons (tTup (tCons (tC (.str (tx [99,108,117,101]))) (tCons (tC (.int 0)) (tCons (tVar 3) (tCons (tOp cSub (tOp cAdd (tC (.int 1)) (tOp cIx (tVar 1) (tC (.int 2)))) (tVar 4)) (tCons (tLst tNil) tNil)))))) tNil))) (gName 5))
  (dc K)))))
structure G32 (H:Hp) (p:Addr) (h w g z s:Int):Prop where
 fl:IsFl H p h w g
 F:FlOk h w g
 z0:0≤z
 z1:z < h*w
 s0:1≤s
 s1:s≤g
theorem G32.same {H H':Hp} {p:Addr} {h w g z s:Int} (x:G32 H p h w g z s) (e:Same H H'):G32 H' p h w g z s:=⟨e _ _ x.fl,x.F,x.z0,x.z1,x.s0,x.s1⟩
theorem fR {K:PySem.W.Frag} {Q:VK} {H0 H:Hp} {p L:Addr} {ts:List Addr} {h w g n z s:Int} {v6 v7:Option V} (X:G32 H0 p h w g z s) (hL:H0 L=none) (s1:Same H0 H) (Y:IsThs (S32 h w g z) H L ts) (hl:ts.length≤7)
  (q:∀ (L:Addr) (ts:List Addr) (H':Hp),Same H0 H'→IsThs (S32 h w g z) H' L ts→ts.length≤8→Q (.ref L) H'):
  da K { nx:=fun _ H'=>Q .non H',rt:=Q } [some (.int n),some (.ref p),some (.int (h*w)),some (.int z),some (.int s),some (.ref L),v6,v7,none,none] H:=by
 have X1:=X.same s1
 obtain ⟨h0,h1,w0,w1,m16,g0,g1⟩:=id X.F
 unfold da
 rw [aH,aD]
 walk_at "w"
 refine ixT X1.fl (v:=V.int h) rfl ?_
 walk_at "w"
 by_cases c1:1 < h
 · rw [decide_eq_true c1]
   walk_at "w"
   refine ixT X1.fl (v:=V.int w) rfl ?_
   walk_at "w"
   by_cases c2:1 < w
   · rw [decide_eq_true c2]
     walk_at "w"
     refine ixT X1.fl (v:=V.int w) rfl ?_
     walk_at "w"
     refine ⟨⟨by omega,by omega⟩,?_⟩
     refine ixT X1.fl (v:=V.int h) rfl ?_
     walk_at "w"
     refine ixT X1.fl (v:=V.int w) rfl ?_
     walk_at "w"
     refine ⟨by omega,?_⟩
     refine ixT X1.fl (v:=V.int w) rfl ?_
     walk_at "w"
     obtain ⟨a,ea⟩:∃ a,a=if h - 2 < z / w then h - 2 else z / w:=⟨_,rfl⟩
     obtain ⟨b,eb⟩:∃ b,b=if w - 2 < z % w then w - 2 else z % w:=⟨_,rfl⟩
     rw [← ea,← eb]
     have co:=vS c2 c1 X.z0 X.z1 ea eb
     unfold yc
     walk_at "w"
     refine ⟨cP Y.top,?_⟩
     refine ixT X1.fl (v:=V.int w) rfl ?_
     walk_at "w"
     refine ⟨.inr ⟨by omega,by omega⟩,?_⟩
     refine ⟨aB (by show (1:Nat)≤1000; decide),fun M hM=>?_⟩
     refine ⟨aB (by show (5:Nat)≤1000; decide),fun T hT=>?_⟩
     refine gZ .square [a*w+b] hL s1 Y ⟨rfl,.square co.1 co.2.1 co.2.2.1 co.2.2.2⟩ rfl rfl (by show (1:Nat)≤100; decide) (by omega) hM hT fun H' s2 _ Y2=>?_
     walk_at "w"
     exact q L _ H' s2 Y2 (by rw [List.length_append]; show ts.length+1≤8; omega)
   · rw [decide_eq_false c2]
     walk_at "w"
     exact q L ts H s1 Y (by omega)
 · rw [decide_eq_false c1]
   walk_at "w"
   exact q L ts H s1 Y (by omega)
theorem vW {K:PySem.W.Frag} {D:Ends} {H0 H:Hp} {p L N:Addr} {ts:List Addr} {os:List Int} {h w g n z s:Int} {j:Nat} {v8 v9:Option V} (X:G32 H0 p h w g z s) (hL:H0 L=none) (s2:Same H0 H) (Y2:IsThs (S32 h w g z) H L ts) (hl:ts.length≤101) (eN2:H N=some (.lst (os.map V.int))) (hj:j+1 < os.length) (pp:∀ s':Int,1≤s'→s'≤g→S32 h w g z .reach 2 z s' [os.getD (j+1) 0,os.getD j 0])
  (q:∀ (ts':List Addr) (H':Hp),Same H0 H'→IsThs (S32 h w g z) H' L ts'→ts'.length≤ts.length+1→D.nx [some (.int n),some (.ref p),some (.int (h*w)),some (.int z),some (.int s),some (.ref L),some (.int (j:Int)),some (.ref N),v8,v9] H'):
  pR K D [some (.int n),some (.ref p),some (.int (h*w)),some (.int z),some (.int s),some (.ref L),some (.int (j:Int)),some (.ref N),v8,v9] H:=by
 have X2:=X.same s2
 have g0:=X.F.g0
 have t1:((j:Int)+1).toNat=j+1:=by omega
 have b0:=Int.emod_nonneg s (show g≠0 by omega)
 have b1:=Int.emod_lt_of_pos s (show 0 < g by omega)
 have p1:=pp (1+s % g) (by omega) (by omega)
 generalize hx:os.getD j 0=x at*
 generalize hy:os.getD (j+1) 0=y at*
 unfold pR
 simp only [aH,dA,iz,ft,dB,fu,gc,gd,w_c,jb,List.getElem?_cons_zero,List.getElem?_cons_succ]
 refine ⟨_,rfl,cP Y2.top,_,rfl,_,rfl,_,rfl,?_⟩
 refine ixT X2.fl (v:=V.int g) rfl ?_
 try dsimp only
 rw [ii]
 refine ⟨by omega,?_⟩
 try dsimp only
 rw [fv]
 refine ⟨_,rfl,_,rfl,?_⟩
 try dsimp only
 rw [fv]
 refine ixI eN2 (by omega) (by omega) ?_
 rw [t1,hy]
 refine ⟨_,rfl,_,rfl,?_⟩
 refine ixI eN2 (by omega) (by omega) ?_
 rw [Int.toNat_natCast,hx]
 refine ⟨aB (by show (2:Nat)≤1000; decide),fun M2 hM2=>?_⟩
 refine ⟨aB (by show (5:Nat)≤1000; decide),fun T2 hT2=>?_⟩
 refine gZ .reach [y,x] hL s2 Y2 p1 rfl rfl (by show (2:Nat)≤100; decide) (by omega) hM2 hT2 fun H3 s3 _ Y3=>?_
 exact q _ H3 s3 Y3 (by rw [List.length_append]; show ts.length+1≤ts.length+1; omega)
theorem xa {K:PySem.W.Frag} {D:Ends} {H0 H:Hp} {p L N:Addr} {ts:List Addr} {os:List Int} {h w g n z s:Int} {j:Nat} {v8 v9:Option V} (X:G32 H0 p h w g z s) (hL:H0 L=none) (s1:Same H0 H) (Y:IsThs (S32 h w g z) H L ts) (hl:ts.length≤100) (eN:H N=some (.lst (os.map V.int))) (nN:N≠L) (hj:j+1 < os.length) (p2:S32 h w g z .pair 0 z s [os.getD j 0,os.getD (j+1) 0]) (pp:∀ s':Int,1≤s'→s'≤g→S32 h w g z .reach 2 z s' [os.getD (j+1) 0,os.getD j 0])
  (q:∀ (ts':List Addr) (H':Hp),Same H0 H'→IsThs (S32 h w g z) H' L ts'→ts'.length≤ts.length+2→D.nx [some (.int n),some (.ref p),some (.int (h*w)),some (.int z),some (.int s),some (.ref L),some (.int (j:Int)),some (.ref N),v8,v9] H'):
  vV K D [some (.int n),some (.ref p),some (.int (h*w)),some (.int z),some (.int s),some (.ref L),some (.int (j:Int)),some (.ref N),v8,v9] H:=by
 have t1:((j:Int)+1).toNat=j+1:=by omega
 have nx2:∀ (T:Addr) (H2:Hp),Same H0 H2→(∀ b x,b≠L→H b=some x→H2 b=some x)→IsThs (S32 h w g z) H2 L (ts++[T])→pR K D [some (.int n),some (.ref p),some (.int (h*w)),some (.int z),some (.int s),some (.ref L),some (.int (j:Int)),some (.ref N),v8,v9] H2:=fun T H2 s2 kp Y2=>
  vW X hL s2 Y2 (by rw [List.length_append]; show ts.length+1≤101; omega) (kp _ _ nN eN) hj pp fun ts' H3 s3 Y3 l3=>q ts' H3 s3 Y3 (by rw [List.length_append] at l3; have l4:ts'.length≤ts.length+1+1:=l3; omega)
 clear pp q
 generalize hx:os.getD j 0=x at*
 generalize hy:os.getD (j+1) 0=y at*
 unfold vV
 simp only [aH,dA,iz,ft,dB,fu,gc,gd,w_c,jb,List.getElem?_cons_zero,List.getElem?_cons_succ]
 refine ⟨_,rfl,cP Y.top,_,rfl,_,rfl,_,rfl,_,rfl,?_⟩
 refine ixI eN (by omega) (by omega) ?_
 rw [Int.toNat_natCast,hx]
 refine ⟨_,rfl,_,rfl,?_⟩
 try dsimp only
 rw [fv]
 refine ixI eN (by omega) (by omega) ?_
 rw [t1,hy]
 refine ⟨aB (by show (2:Nat)≤1000; decide),fun M hM=>?_⟩
 refine ⟨aB (by show (5:Nat)≤1000; decide),fun T hT=>?_⟩
 exact gZ .pair [x,y] hL s1 Y p2 rfl rfl (by show (2:Nat)≤100; decide) (by omega) hM hT fun H2 s2 kp Y2=>nx2 T H2 s2 kp Y2
theorem fS {K:PySem.W.Frag} {Q:VK} {H0 H:Hp} {p L:Addr} {ts:List Addr} {h w g n z s:Int} {v6:Option V} (X:G32 H0 p h w g z s) (hL:H0 L=none) (s1:Same H0 H) (Y:IsThs (S32 h w g z) H L ts) (hl:ts.length≤5)
  (q:∀ (L:Addr) (ts:List Addr) (H':Hp),Same H0 H'→IsThs (S32 h w g z) H' L ts→ts.length≤8→Q (.ref L) H'):
  db K { nx:=fun _ H'=>Q .non H',rt:=Q } [some (.int n),some (.ref p),some (.int (h*w)),some (.int z),some (.int s),some (.ref L),v6,none,none,none] H:=by
 have X1:=X.same s1
 have m16:=X.F.m
 have ol:=w6 X.z0 X.z1
 unfold db
 rw [aH,aD]
 walk_at "w"
 by_cases c1:2 < h*w
 · rw [decide_eq_true c1]
   walk_at "w"
   refine ⟨h*w,rfl,by omega,by omega,?_⟩
   refine ij (fun i=>!decide ((i:Int)=z)) (fun i=>(i:Int)) (by omega) ?_ ?_ ?_
   · intro i H2 R hi s2 k2
     rw [Int.zero_add]
     show tTest _ [none,some (.int (i:Int)),some (.int z)] H2 R
     walk_at "w"
     exact k2 _ (Same.refl _)
   · intro i H2 Q2 hi _ s2 k2
     rw [Int.zero_add]
     show tVar 1 [none,some (.int (i:Int)),some (.int z)] H2 Q2
     walk_at "w"
     exact k2 _ (Same.refl _)
   · intro N H2 hN s2 eN
     have eN':H2 N=some (.lst ((aO h w z).map V.int)):=by rw [eN]; exact congrArg (fun xs=>some (HO.lst (xs.map V.int))) (vR h w z)
     have nN:N≠L:=fun e=>by rw [e,Y.top] at hN; cases hN
     walk_at "w"
     refine ⟨⟨by decide,by decide⟩,?_⟩
     refine ⟨by omega,?_⟩
     have b0:=Int.emod_nonneg (n / 96) (show h*w - 2≠0 by omega)
     have b1:=Int.emod_lt_of_pos (n / 96) (show 0 < h*w - 2 by omega)
     obtain ⟨j,ej⟩:=Int.eq_ofNat_of_zero_le b0
     rw [ej] at b1 ⊢
     walk_at "w"
     have hj:j+1 < (aO h w z).length:=by omega
     refine xa X hL (s1.trans s2) (Y.same s2) (by omega) eN' nN hj ⟨rfl,.pair X.s0 X.s1 hj⟩ (fun s' a b=>⟨rfl,.reach2 a b hj⟩) fun ts' H3 s3 Y3 l3=>?_
     exact fR X hL s3 Y3 (by omega) q
 · rw [decide_eq_false c1]
   walk_at "w"
   exact fR X hL s1 Y (by omega) q
theorem xb {K:PySem.W.Frag} {D:Ends} {H0 H:Hp} {p L:Addr} {ts:List Addr} {h w g n z s:Int} {v6 v7 v8 v9:Option V} (X:G32 H0 p h w g z s) (hL:H0 L=none) (s3:Same H0 H) (Y3:IsThs (S32 h w g z) H L ts) (hl:ts.length≤100) (c1:1 < h*w)
  (q:∀ (ts':List Addr) (H':Hp),Same H0 H'→IsThs (S32 h w g z) H' L ts'→ts'.length≤ts.length+1→D.nx [some (.int n),some (.ref p),some (.int (h*w)),some (.int z),some (.int s),some (.ref L),v6,v7,v8,v9] H'):
  vT K D [some (.int n),some (.ref p),some (.int (h*w)),some (.int z),some (.int s),some (.ref L),v6,v7,v8,v9] H:=by
 have X3:=X.same s3
 have g0:=X.F.g0
 unfold vT
 rw [aD]
 walk_at "w"
 refine ixT X3.fl (v:=V.int g) rfl ?_
 walk_at "w"
 by_cases c2:h*w=g
 · rw [decide_eq_true c2]
   walk_at "w"
   refine ⟨cP Y3.top,?_⟩
   refine ixT X3.fl (v:=V.int g) rfl ?_
   walk_at "w"
   refine ⟨by omega,?_⟩
   have d0:=Int.emod_nonneg s (show g≠0 by omega)
   have d1:=Int.emod_lt_of_pos s (show 0 < g by omega)
   have sn:=w9 X.s0 X.s1 (show 1 < g by omega)
   refine ⟨aB (by show (1:Nat)≤1000; decide),fun M3 hM3=>?_⟩
   refine ⟨aB (by show (5:Nat)≤1000; decide),fun T3 hT3=>?_⟩
   refine gZ .place [1+s % g] hL s3 Y3 ⟨rfl,.place X.s0 X.s1 c2 (by omega) (by omega) sn⟩ rfl rfl (by show (1:Nat)≤100; decide) (by omega) hM3 hT3 fun H4 s4 _ Y4=>?_
   exact q _ H4 s4 Y4 (by rw [List.length_append]; show ts.length+1≤ts.length+1; omega)
 · rw [decide_eq_false c2]
   walk_at "w"
   exact q ts H s3 Y3 (by omega)
theorem xf {K:PySem.W.Frag} {D:Ends} {H0 H:Hp} {p L:Addr} {ts:List Addr} {h w g n z s x:Int} {v7 v8 v9:Option V} (X:G32 H0 p h w g z s) (hL:H0 L=none) (s2:Same H0 H) (Y2:IsThs (S32 h w g z) H L ts) (hl:ts.length≤99) (c1:1 < h*w) (x0:0≤x) (x1:x < h*w) (xz:x≠z)
  (q:∀ (ts':List Addr) (H':Hp),Same H0 H'→IsThs (S32 h w g z) H' L ts'→ts'.length≤ts.length+2→D.nx [some (.int n),some (.ref p),some (.int (h*w)),some (.int z),some (.int s),some (.ref L),some (.int x),v7,v8,v9] H'):
  vU K D [some (.int n),some (.ref p),some (.int (h*w)),some (.int z),some (.int s),some (.ref L),some (.int x),v7,v8,v9] H:=by
 unfold vU
 walk_at "w"
 refine ⟨cP Y2.top,?_⟩
 refine ⟨aB (by show (1:Nat)≤1000; decide),fun M2 hM2=>?_⟩
 refine ⟨aB (by show (5:Nat)≤1000; decide),fun T2 hT2=>?_⟩
 refine gZ .reach [x] hL s2 Y2 ⟨rfl,.reach1 x0 x1 xz⟩ rfl rfl (by show (1:Nat)≤100; decide) (by omega) hM2 hT2 fun H3 s3 _ Y3=>?_
 exact xb X hL s3 Y3 (by rw [List.length_append]; show ts.length+1≤100; omega) c1 fun ts' H4 s4 Y4 l4=>q ts' H4 s4 Y4 (by rw [List.length_append] at l4; have l5:ts'.length≤ts.length+1+1:=l4; omega)
theorem j6 {K:PySem.W.Frag} {Q:VK} {H0 H:Hp} {p L:Addr} {ts:List Addr} {h w g n z s:Int} (X:G32 H0 p h w g z s) (hL:H0 L=none) (s1:Same H0 H) (Y:IsThs (S32 h w g z) H L ts) (hl:ts.length≤2)
  (q:∀ (L:Addr) (ts:List Addr) (H':Hp),Same H0 H'→IsThs (S32 h w g z) H' L ts→ts.length≤8→Q (.ref L) H'):
  dc K { nx:=fun _ H'=>Q .non H',rt:=Q } [some (.int n),some (.ref p),some (.int (h*w)),some (.int z),some (.int s),some (.ref L),none,none,none,none] H:=by
 have z0:=X.z0
 have z1:=X.z1
 unfold dc
 rw [aH,aD]
 walk_at "w"
 by_cases c1:1 < h*w
 · rw [decide_eq_true c1]
   walk_at "w"
   refine ⟨⟨by decide,by decide⟩,?_⟩
   refine ⟨by omega,?_⟩
   refine ⟨by omega,?_⟩
   have b0:=Int.emod_nonneg (n / 96) (show h*w - 1≠0 by omega)
   have b1:=Int.emod_lt_of_pos (n / 96) (show 0 < h*w - 1 by omega)
   have xz:=yb (m:=h*w) (z:=z) b0 b1
   have x0:=Int.emod_nonneg (z+1+n / 96 % (h*w - 1)) (show h*w≠0 by omega)
   have x1:=Int.emod_lt_of_pos (z+1+n / 96 % (h*w - 1)) (show 0 < h*w by omega)
   generalize (z+1+n / 96 % (h*w - 1)) % (h*w)=x at*
   refine ⟨cP Y.top,?_⟩
   refine ⟨aB (by show (1:Nat)≤1000; decide),fun M hM=>?_⟩
   refine ⟨aB (by show (5:Nat)≤1000; decide),fun T hT=>?_⟩
   refine gZ .only [x] hL s1 Y ⟨rfl,.only X.s0 X.s1 x0 x1 xz⟩ rfl rfl (by show (1:Nat)≤100; decide) (by omega) hM hT fun H2 s2 _ Y2=>?_
   exact xf X hL s2 Y2 (by rw [List.length_append]; show ts.length+1≤99; omega) c1 x0 x1 xz fun ts' H4 s4 Y4 l4=>fS X hL s4 Y4 (by rw [List.length_append] at l4; have l5:ts'.length≤ts.length+1+2:=l4; omega) q
 · rw [decide_eq_false c1]
   walk_at "w"
   exact fS X hL s1 Y (by omega) q
theorem lp {K:PySem.W.Frag} {vs:List V} {H:Hp} {Q:VK} {E:XK} (h:bx K vs H Q E):cM K { nx:=fun _ H'=>Q .non H',rt:=Q } (start ["_law_number","_law_floor_here","_law_many","_law_cell","_law_sign","_law_found","_law_one","_law_some","_law_row","_law_column"] vs) H:=by
 obtain ⟨p,h,w,g,n,rfl,hp,F,q⟩:=h
 obtain ⟨h0,h1,w0,w1,m16,g0,g1⟩:=id F
 have mpos:1≤h*w:=Int.le_trans (by omega) (Int.mul_le_mul h0 w0 (by omega) (by omega))
 show cM K _ [some (.int n),some (.ref p),none,none,none,none,none,none,none,none] H
 unfold cM
 walk_at "w"
 refine ixT hp (v:=V.int h) rfl ?_
 walk_at "w"
 refine ixT hp (v:=V.int w) rfl ?_
 walk_at "w"
 refine ⟨fJ h0 h1,?_⟩
 refine ⟨by omega,?_⟩
 have b0:=Int.emod_nonneg n (show h*w≠0 by omega)
 have b1:=Int.emod_lt_of_pos n (show 0 < h*w by omega)
 generalize n % (h*w)=z at*
 refine ⟨⟨by decide,by decide⟩,?_⟩
 refine ixT hp (v:=V.int g) rfl ?_
 walk_at "w"
 refine ⟨by omega,?_⟩
 have d0:=Int.emod_nonneg (n / 16) (show g≠0 by omega)
 have d1:=Int.emod_lt_of_pos (n / 16) (show 0 < g by omega)
 obtain ⟨s,es⟩:∃ s,s=1+n / 16 % g:=⟨_,rfl⟩
 rw [← es]
 have X:G32 H p h w g z s:=⟨hp,F,b0,b1,by omega,by omega⟩
 refine ⟨aB (by decide),fun M1 hM1=>?_⟩
 have k1:Same H (upd H M1 (.lst [])):=(Same.refl H).laid hM1
 have e1:(upd H M1 (.lst [])) M1=some (.lst (([]:List Int).map V.int)):=ag
 generalize upd H M1 (.lst [])=H1 at*
 refine ⟨aB (by show (5:Nat)≤1000; decide),fun T1 hT1=>?_⟩
 have k2:Same H1 (upd H1 T1 (.tup [V.str (tx (tkC .turn)),V.int 2,V.int z,V.int 1,V.ref M1])):=(Same.refl H1).laid hT1
 have th1:IsTh (upd H1 T1 (.tup [V.str (tx (tkC .turn)),V.int 2,V.int z,V.int 1,V.ref M1])) T1 M1 .turn 2 z 1 []:=tq e1 (by decide) hT1
 generalize hHa:upd H1 T1 (.tup [V.str (tx (tkC .turn)),V.int 2,V.int z,V.int 1,V.ref M1])=H2 at*
 have hHa':upd H1 T1 (.tup [V.str (tx [116,117,114,110]),V.int 2,V.int z,V.int 1,V.ref M1])=H2:=hHa
 rw [hHa']
 have k12:=k1.trans k2
 refine ixT (k12 _ _ hp) (v:=V.int g) rfl ?_
 walk_at "w"
 refine ⟨aB (by decide),fun M2 hM2=>?_⟩
 have k3:Same H2 (upd H2 M2 (.lst [])):=(Same.refl H2).laid hM2
 have e2:(upd H2 M2 (.lst [])) M2=some (.lst (([]:List Int).map V.int)):=ag
 generalize upd H2 M2 (.lst [])=H3 at*
 refine ⟨aB (by show (5:Nat)≤1000; decide),fun T2 hT2=>?_⟩
 have k4:Same H3 (upd H3 T2 (.tup [V.str (tx (tkC .clue)),V.int 0,V.int z,V.int (1+g - s),V.ref M2])):=(Same.refl H3).laid hT2
 have th2:IsTh (upd H3 T2 (.tup [V.str (tx (tkC .clue)),V.int 0,V.int z,V.int (1+g - s),V.ref M2])) T2 M2 .clue 0 z (1+g - s) []:=tq e2 (by decide) hT2
 generalize hHb:upd H3 T2 (.tup [V.str (tx (tkC .clue)),V.int 0,V.int z,V.int (1+g - s),V.ref M2])=H4 at*
 have hHb':upd H3 T2 (.tup [V.str (tx [99,108,117,101]),V.int 0,V.int z,V.int (1+g - s),V.ref M2])=H4:=hHb
 rw [hHb']
 refine ⟨aB (by show (2:Nat)≤1000; decide),fun L hL=>?_⟩
 have k14:=k12.trans (k3.trans k4)
 have th1':=th1.same (k3.trans k4)
 have Y:IsThs (S32 h w g z) (upd H4 L (.lst [V.ref T1,V.ref T2])) L [T1,T2]:=vL (ts:=[T1,T2]) hL fun T hT=>by
  rcases List.mem_cons.mp hT with rfl | hT
  · exact ⟨M1,.turn,2,z,1,[],⟨rfl,.turn⟩,th1'⟩
  · rw [List.mem_singleton.mp hT]
    exact ⟨M2,.clue,0,z,1+g - s,[],⟨rfl,.clue (by omega) (by omega)⟩,th2⟩
 have k5:=k14.trans ((Same.refl H4).laid (o:=.lst [V.ref T1,V.ref T2]) hL)
 have hL0:=k14.free hL
 generalize upd H4 L (.lst [V.ref T1,V.ref T2])=H5 at*
 walk_at "w"
 exact j6 X hL0 k5 Y (by show (2:Nat)≤2; decide) q
theorem vX {i j k l m:Nat} {x y z u v:V} {H:Hp} {σ:St} {q:St→Hp→Prop} (h:q (((((σ.set i (some x)).set j (some y)).set k (some z)).set l (some u)).set m (some v)) H):gCons (gName i) (gCons (gName j) (gCons (gName k) (gCons (gName l) (gCons (gName m) gNil)))) [x,y,z,u,v] σ H q:=⟨x,_,rfl,y,_,rfl,z,_,rfl,u,_,rfl,v,_,rfl,rfl,h⟩
def jF (H':Hp) (T':Addr) (t:TK) (h w g r z s:Int) (ms:List Int):Prop:=pQ H' T'∨∃ (M':Addr) (r' z' s':Int) (ms':List Int),IsTh H' T' M' t r' z' s' ms'∧vO h w g r z s ms r' z' s' ms'
def cr (K:PySem.W.Frag):Sp:=fun vs H Q _=>∃ (T M p:Addr) (t:TK) (r z s:Int) (ms:List Int) (h w g n:Int),vs=[.ref T,.int n,.ref p]∧IsTh H T M t r z s ms∧ms.length≤2∧IsFl H p h w g∧FlOk h w g∧0≤n∧n < 2^64∧∀ (T':Addr) (H':Hp),Same H H'→jF H' T' t h w g r z s ms→Q (.ref T') H'
theorem oR {K:PySem.W.Frag} {vs:List V} {H:Hp} {Q:VK} {E:XK} (h:cr K vs H Q E):vs.length=3:=by
 obtain ⟨_,_,_,_,_,_,_,_,_,_,_,_,rfl,_⟩:=h; rfl
def cN (K:PySem.W.Frag):TS:=
 (tRet (tTup (tCons (tVar 3) (tCons (tVar 4) (tCons (tVar 5) (tCons (tVar 6) (tCons (tVar 7) tNil)))))))
def bi (K:PySem.W.Frag):TS:=
 (tSeq (tIfS (tTest (tOp (cEq K) (tVar 9) (tC (.int 5)))) (tSeq (tAsg (tOp cIx (tLst (tCons (tVar 10) (tCons (tOp cMul (tOp cIx (tVar 2) (tC (.int 0))) (tOp cIx (tVar 2) (tC (.int 1)))) tNil))) (tOp cMod (tOp cDiv (tVar 1) (tC (.int 18))) (tC (.int 2)))) (gName 5))
  (tAsg (tOp cIx (tLst (tCons (tVar 10) (tCons (tC (.int 0)) (tCons (tOp cAdd (tOp cIx (tVar 2) (tC (.int 2))) (tC (.int 1))) tNil)))) (tOp cMod (tOp cDiv (tVar 1) (tC (.int 36))) (tC (.int 3)))) (gName 6))) tNext)
  (cN K))
def bJ (K:PySem.W.Frag):TS:=
 (tSeq (tIfS (tTest (tOp (cEq K) (tVar 9) (tC (.int 4)))) (tAsg (tOp cAdd (tVar 7) (tOp cIx (tLst (tCons (tLst (tCons (tTup (tCons (tC (.str (tx [99,108,117,101]))) (tCons (tC (.int 0)) (tCons (tC (.int 0)) (tCons (tC (.int 1)) (tCons (tLst tNil) tNil)))))) tNil)) (tCons (tLst (tCons (tVar 8) tNil)) (tCons (tLst (tCons (tVar 10) (tCons (tVar 10) (tCons (tVar 10) tNil)))) (tCons (tLst (tCons (tC (.int 0)) (tCons (tC (.int 0)) (tCons (tC (.int 0)) tNil)))) tNil))))) (tOp cMod (tOp cDiv (tVar 1) (tC (.int 18))) (tC (.int 4))))) (gName 7)) tNext)
  (bi K))
def bK (K:PySem.W.Frag):TS:=
 (tSeq (tIfS (tTest (tOp (cEq K) (tVar 9) (tC (.int 3)))) (tAsg (tOp cIx (tLst (tCons (tC (.str (tx [115,117,112,112,111,115,101]))) (tCons (tC (.str (tx [79,110,108,121]))) (tCons (tC (.str (tx []))) (tCons (tC (.str (tx [111,110,108,121,32,112,108,97,99,101]))) (tCons (tC (.str (tx [116,117,114,110,115]))) (tCons (tC (.str (tx [99,108,117]))) tNil))))))) (tOp cMod (tOp cDiv (tVar 1) (tC (.int 18))) (tC (.int 6)))) (gName 3)) tNext)
  (bJ K))
def bL (K:PySem.W.Frag):TS:=
 (tSeq (tIfS (tTest (tOp (cEq K) (tVar 9) (tC (.int 2)))) (tAsg (tOp cIx (tLst (tCons (tVar 10) (tCons (tC (.int 4)) tNil))) (tOp cMod (tOp cDiv (tVar 1) (tC (.int 18))) (tC (.int 2)))) (gName 4)) tNext)
  (bK K))
def bM (K:PySem.W.Frag):TS:=
 (tSeq (tIfS (tTest (tOp (cEq K) (tVar 9) (tC (.int 1)))) (tAsg (tOp cIx (tLst (tCons (tVar 10) (tCons (tC (.int 0)) (tCons (tOp cAdd (tOp cIx (tVar 2) (tC (.int 2))) (tC (.int 1))) tNil)))) (tOp cMod (tOp cDiv (tVar 1) (tC (.int 18))) (tC (.int 3)))) (gName 6)) tNext)
  (bL K))
def cj (K:PySem.W.Frag):TS:=
 (tSeq (tIfS (tTest (tOp (cEq K) (tVar 9) (tC (.int 0)))) (tAsg (tOp cIx (tLst (tCons (tVar 10) (tCons (tOp cMul (tOp cIx (tVar 2) (tC (.int 0))) (tOp cIx (tVar 2) (tC (.int 1)))) tNil))) (tOp cMod (tOp cDiv (tVar 1) (tC (.int 18))) (tC (.int 2)))) (gName 5)) tNext)
  (bM K))
def fe (K:PySem.W.Frag):TS:=
 (tSeq (tAsg (tVar 0) (gTup K 5 (gCons (gName 3) (gCons (gName 4) (gCons (gName 5) (gCons (gName 6) (gCons (gName 7) gNil)))))))
  (tSeq (tAsg (tOp cAdd (tC (.int 16)) (tOp cMod (tOp cMul (tOp cMul (tOp cDiv (tVar 1) (tC (.int 96))) (tVar 1)) (tVar 1)) (tOp cPow (tC (.int 10)) (tC (.int 59))))) (gName 8))
  (tSeq (tAsg (tOp cMod (tVar 1) (tC (.int 6))) (gName 9))
  (tSeq (tAsg (tOp cIx (tLst (tCons (tUn (rU fun i=>.int (-i)) (tC (.int 1))) (tCons (tVar 8) (tCons (tOp cSub (tC (.int 0)) (tVar 8)) tNil)))) (tOp cMod (tOp cDiv (tVar 1) (tC (.int 6))) (tC (.int 3)))) (gName 10))
  (cj K)))))
theorem jh {K:PySem.W.Frag} {D:Ends} {H:Hp} {v0 v1 v2 v3 v4 v5 v6 v7 v8 v10:Option V} {wy:Int} (h:¬ wy=0) (k:bM K D [v0,v1,v2,v3,v4,v5,v6,v7,v8,some (.int wy),v10] H):cj K D [v0,v1,v2,v3,v4,v5,v6,v7,v8,some (.int wy),v10] H:=by
 unfold cj
 rw [aH,aD]
 walk_at "w"
 rw [decide_eq_false h]
 walk_at "w"
 exact k
theorem ji {K:PySem.W.Frag} {D:Ends} {H:Hp} {v0 v1 v2 v3 v4 v5 v6 v7 v8 v10:Option V} {wy:Int} (h:¬ wy=1) (k:bL K D [v0,v1,v2,v3,v4,v5,v6,v7,v8,some (.int wy),v10] H):bM K D [v0,v1,v2,v3,v4,v5,v6,v7,v8,some (.int wy),v10] H:=by
 unfold bM
 rw [aH,aD]
 walk_at "w"
 rw [decide_eq_false h]
 walk_at "w"
 exact k
theorem jj {K:PySem.W.Frag} {D:Ends} {H:Hp} {v0 v1 v2 v3 v4 v5 v6 v7 v8 v10:Option V} {wy:Int} (h:¬ wy=2) (k:bK K D [v0,v1,v2,v3,v4,v5,v6,v7,v8,some (.int wy),v10] H):bL K D [v0,v1,v2,v3,v4,v5,v6,v7,v8,some (.int wy),v10] H:=by
 unfold bL
 rw [aH,aD]
 walk_at "w"
 rw [decide_eq_false h]
 walk_at "w"
 exact k
theorem jk {K:PySem.W.Frag} {D:Ends} {H:Hp} {v0 v1 v2 v3 v4 v5 v6 v7 v8 v10:Option V} {wy:Int} (h:¬ wy=3) (k:bJ K D [v0,v1,v2,v3,v4,v5,v6,v7,v8,some (.int wy),v10] H):bK K D [v0,v1,v2,v3,v4,v5,v6,v7,v8,some (.int wy),v10] H:=by
 unfold bK
 rw [aH,aD]
 walk_at "w"
 rw [decide_eq_false h]
 walk_at "w"
 exact k
theorem jl {K:PySem.W.Frag} {D:Ends} {H:Hp} {v0 v1 v2 v3 v4 v5 v6 v7 v8 v10:Option V} {wy:Int} (h:¬ wy=4) (k:bi K D [v0,v1,v2,v3,v4,v5,v6,v7,v8,some (.int wy),v10] H):bJ K D [v0,v1,v2,v3,v4,v5,v6,v7,v8,some (.int wy),v10] H:=by
 unfold bJ
 rw [aH,aD]
 walk_at "w"
 rw [decide_eq_false h]
 walk_at "w"
 exact k
theorem g7 {K:PySem.W.Frag} {D:Ends} {H:Hp} {v0 v1 v2 v3 v4 v5 v6 v7 v8 v10:Option V} {wy:Int} (h:¬ wy=5) (k:cN K D [v0,v1,v2,v3,v4,v5,v6,v7,v8,some (.int wy),v10] H):bi K D [v0,v1,v2,v3,v4,v5,v6,v7,v8,some (.int wy),v10] H:=by
 unfold bi
 rw [aH,aD]
 walk_at "w"
 rw [decide_eq_false h]
 walk_at "w"
 exact k
theorem kx {K:PySem.W.Frag} {Q:VK} {H:Hp} {v0 v1 v2 v8 v9 v10:Option V} {kv:V} {r z s:Int} {M:Addr} (q:∀ T',H T'=none→Q (.ref T') (upd H T' (.tup [kv,.int r,.int z,.int s,.ref M]))):cN K { nx:=fun _ H'=>Q .non H',rt:=Q } [v0,v1,v2,some kv,some (.int r),some (.int z),some (.int s),some (.ref M),v8,v9,v10] H:=by
 unfold cN
 walk_at "w"
 exact ⟨aB (by show (5:Nat)≤1000; decide),q⟩
theorem in2 {a b:Int} (y:Int):∃ v:Int,atI [V.int a,V.int b] (y % 2)=some (V.int v)∧(v=a∨v=b):=by
 have e:y % 2=0∨y % 2=1:=by omega
 rcases e with e | e <;> rw [e]
 · exact ⟨a,rfl,.inl rfl⟩
 · exact ⟨b,rfl,.inr rfl⟩
theorem in3 {a b c:Int} (y:Int):∃ v:Int,atI [V.int a,V.int b,V.int c] (y % 3)=some (V.int v)∧(v=a∨v=b∨v=c):=by
 have e:y % 3=0∨y % 3=1∨y % 3=2:=by omega
 rcases e with e | e | e <;> rw [e]
 · exact ⟨a,rfl,.inl rfl⟩
 · exact ⟨b,rfl,.inr (.inl rfl)⟩
 · exact ⟨c,rfl,.inr (.inr rfl)⟩
def odW:List (List Nat):=[[115,117,112,112,111,115,101],[79,110,108,121],[],[111,110,108,121,32,112,108,97,99,101],[116,117,114,110,115],[99,108,117]]
theorem yd:(odW.all fun wd=>!decide (tx wd∈dr))=true:=by decide+kernel
theorem in6 (y:Int):∃ wd:List Nat,atI [V.str (tx [115,117,112,112,111,115,101]),V.str (tx [79,110,108,121]),V.str (tx []),V.str (tx [111,110,108,121,32,112,108,97,99,101]),V.str (tx [116,117,114,110,115]),V.str (tx [99,108,117])] (y % 6)=some (V.str (tx wd))∧decide (tx wd∈dr)=false:=by
 have no:∀ wd∈odW,decide (tx wd∈dr)=false:=fun wd hw=>by
  have:=List.all_eq_true.mp yd wd hw
  rwa [Bool.not_eq_true'] at this
 have e:y % 6=0∨y % 6=1∨y % 6=2∨y % 6=3∨y % 6=4∨y % 6=5:=by omega
 rcases e with e | e | e | e | e | e <;> rw [e]
 · exact ⟨_,rfl,no _ (by unfold odW; simp)⟩
 · exact ⟨_,rfl,no _ (by unfold odW; simp)⟩
 · exact ⟨_,rfl,no _ (by unfold odW; simp)⟩
 · exact ⟨_,rfl,no _ (by unfold odW; simp)⟩
 · exact ⟨_,rfl,no _ (by unfold odW; simp)⟩
 · exact ⟨_,rfl,no _ (by unfold odW; simp)⟩
structure B32 (H:Hp) (T M p:Addr) (t:TK) (h w g r z s f o:Int) (ms:List Int):Prop where
 th:IsTh H T M t r z s ms
 ml:ms.length≤2
 fl:IsFl H p h w g
 F:FlOk h w g
 f16:16≤f
 oo:o < 0∨16≤o
theorem B32.same {H H':Hp} {T M p:Addr} {t:TK} {h w g r z s f o:Int} {ms:List Int} (x:B32 H T M p t h w g r z s f o ms) (e:Same H H'):B32 H' T M p t h w g r z s f o ms:=⟨x.th.same e,x.ml,e _ _ x.fl,x.F,x.f16,x.oo⟩
theorem pS {H:Hp} {T M p T':Addr} {t:TK} {h w g r z s f o:Int} {ms:List Int} {r' z' s':Int} (X:B32 H T M p t h w g r z s f o ms) (hT:H T'=none) (b:vO h w g r z s ms r' z' s' ms):jF (upd H T' (.tup [.str (tx (tkC t)),.int r',.int z',.int s',.ref M])) T' t h w g r z s ms:=
 .inr ⟨M,r',z',s',ms,⟨ag,((Same.refl H).laid hT) _ _ X.th.M,X.th.n⟩,b⟩
theorem yI {K:PySem.W.Frag} {Q:VK} {H:Hp} {T M p:Addr} {t:TK} {h w g r z s f o n:Int} {ms:List Int} {wy:Int} (X:B32 H T M p t h w g r z s f o ms) (hw:wy=0) (q:∀ (T':Addr) (H':Hp),Same H H'→jF H' T' t h w g r z s ms→Q (.ref T') H'):
  cj K { nx:=fun _ H'=>Q .non H',rt:=Q } [some (.ref T),some (.int n),some (.ref p),some (.str (tx (tkC t))),some (.int r),some (.int z),some (.int s),some (.ref M),some (.int f),some (.int wy),some (.int o)] H:=by
 obtain ⟨h0,h1,w0,w1,m16,g0,g1⟩:=id X.F
 have oo:=X.oo
 unfold cj
 rw [aH,aD]
 walk_at "w"
 rw [decide_eq_true hw]
 walk_at "w"
 refine ixT X.fl (v:=V.int h) rfl ?_
 walk_at "w"
 refine ixT X.fl (v:=V.int w) rfl ?_
 walk_at "w"
 refine ⟨fJ h0 h1,?_⟩
 refine ⟨aB (by show (2:Nat)≤1000; decide),fun W hW=>?_⟩
 have t1:Same H (upd H W (.lst [V.int o,V.int (h*w)])):=(Same.refl H).laid hW
 have eW:(upd H W (.lst [V.int o,V.int (h*w)])) W=some (.lst [V.int o,V.int (h*w)]):=ag
 generalize upd H W (.lst [V.int o,V.int (h*w)])=H1 at*
 refine ⟨⟨by decide,by decide⟩,?_⟩
 refine ⟨by decide,?_⟩
 obtain ⟨v,hv,hvv⟩:=in2 (a:=o) (b:=h*w) (n / 18)
 refine ixL eW hv ?_
 walk_at "w"
 refine ji (by omega) (jj (by omega) (jk (by omega) (jl (by omega) (g7 (by omega) (kx fun T' hT'=>?_)))))
 exact q T' _ (t1.trans ((Same.refl H1).laid hT')) (pS (X.same t1) hT' ⟨.inl (by rcases hvv with e | e <;> omega)⟩)
theorem yJ {K:PySem.W.Frag} {Q:VK} {H:Hp} {T M p:Addr} {t:TK} {h w g r z s f o n:Int} {ms:List Int} {wy:Int} (X:B32 H T M p t h w g r z s f o ms) (hw:wy=1) (q:∀ (T':Addr) (H':Hp),Same H H'→jF H' T' t h w g r z s ms→Q (.ref T') H'):
  bM K { nx:=fun _ H'=>Q .non H',rt:=Q } [some (.ref T),some (.int n),some (.ref p),some (.str (tx (tkC t))),some (.int r),some (.int z),some (.int s),some (.ref M),some (.int f),some (.int wy),some (.int o)] H:=by
 obtain ⟨h0,h1,w0,w1,m16,g0,g1⟩:=id X.F
 have oo:=X.oo
 unfold bM
 rw [aH,aD]
 walk_at "w"
 rw [decide_eq_true hw]
 walk_at "w"
 refine ixT X.fl (v:=V.int g) rfl ?_
 walk_at "w"
 refine ⟨aB (by show (3:Nat)≤1000; decide),fun W hW=>?_⟩
 have t1:Same H (upd H W (.lst [V.int o,V.int 0,V.int (g+1)])):=(Same.refl H).laid hW
 have eW:(upd H W (.lst [V.int o,V.int 0,V.int (g+1)])) W=some (.lst [V.int o,V.int 0,V.int (g+1)]):=ag
 generalize upd H W (.lst [V.int o,V.int 0,V.int (g+1)])=H1 at*
 refine ⟨⟨by decide,by decide⟩,?_⟩
 refine ⟨by decide,?_⟩
 obtain ⟨v,hv,hvv⟩:=in3 (a:=o) (b:=0) (c:=g+1) (n / 18)
 refine ixL eW hv ?_
 walk_at "w"
 refine jj (by omega) (jk (by omega) (jl (by omega) (g7 (by omega) (kx fun T' hT'=>?_))))
 exact q T' _ (t1.trans ((Same.refl H1).laid hT')) (pS (X.same t1) hT' ⟨.inr (.inl (by rcases hvv with e | e | e <;> omega))⟩)
theorem yK {K:PySem.W.Frag} {Q:VK} {H:Hp} {T M p:Addr} {t:TK} {h w g r z s f o n:Int} {ms:List Int} {wy:Int} (X:B32 H T M p t h w g r z s f o ms) (hw:wy=2) (q:∀ (T':Addr) (H':Hp),Same H H'→jF H' T' t h w g r z s ms→Q (.ref T') H'):
  bL K { nx:=fun _ H'=>Q .non H',rt:=Q } [some (.ref T),some (.int n),some (.ref p),some (.str (tx (tkC t))),some (.int r),some (.int z),some (.int s),some (.ref M),some (.int f),some (.int wy),some (.int o)] H:=by
 have oo:=X.oo
 unfold bL
 rw [aH,aD]
 walk_at "w"
 rw [decide_eq_true hw]
 walk_at "w"
 refine ⟨aB (by show (2:Nat)≤1000; decide),fun W hW=>?_⟩
 have t1:Same H (upd H W (.lst [V.int o,V.int 4])):=(Same.refl H).laid hW
 have eW:(upd H W (.lst [V.int o,V.int 4])) W=some (.lst [V.int o,V.int 4]):=ag
 generalize upd H W (.lst [V.int o,V.int 4])=H1 at*
 refine ⟨⟨by decide,by decide⟩,?_⟩
 refine ⟨by decide,?_⟩
 obtain ⟨v,hv,hvv⟩:=in2 (a:=o) (b:=4) (n / 18)
 refine ixL eW hv ?_
 walk_at "w"
 refine jk (by omega) (jl (by omega) (g7 (by omega) (kx fun T' hT'=>?_)))
 exact q T' _ (t1.trans ((Same.refl H1).laid hT')) (pS (X.same t1) hT' ⟨.inr (.inr (.inl (by rcases hvv with e | e <;> omega)))⟩)
theorem yL {K:PySem.W.Frag} {Q:VK} {H:Hp} {T M p:Addr} {t:TK} {h w g r z s f o n:Int} {ms:List Int} {wy:Int} (X:B32 H T M p t h w g r z s f o ms) (hw:wy=3) (q:∀ (T':Addr) (H':Hp),Same H H'→jF H' T' t h w g r z s ms→Q (.ref T') H'):
  bK K { nx:=fun _ H'=>Q .non H',rt:=Q } [some (.ref T),some (.int n),some (.ref p),some (.str (tx (tkC t))),some (.int r),some (.int z),some (.int s),some (.ref M),some (.int f),some (.int wy),some (.int o)] H:=by
 obtain ⟨wd,hv,hk⟩:=in6 (n / 18)
 unfold bK
 rw [aH,aD]
 walk_at "w"
 rw [decide_eq_true hw]
 walk_at "w"
 refine ⟨aB (by show (6:Nat)≤1000; decide),fun W hW=>?_⟩
 generalize hws:[V.str (tx [115,117,112,112,111,115,101]),V.str (tx [79,110,108,121]),V.str (tx []),V.str (tx [111,110,108,121,32,112,108,97,99,101]),V.str (tx [116,117,114,110,115]),V.str (tx [99,108,117])]=ws at*
 have t1:Same H (upd H W (.lst ws)):=(Same.refl H).laid hW
 have eW:(upd H W (.lst ws)) W=some (.lst ws):=ag
 generalize upd H W (.lst ws)=H1 at*
 refine ⟨⟨by decide,by decide⟩,?_⟩
 refine ⟨by decide,?_⟩
 refine ixL eW hv ?_
 walk_at "w"
 refine jl (by omega) (g7 (by omega) (kx fun T' hT'=>?_))
 exact q T' _ (t1.trans ((Same.refl H1).laid hT')) (.inl ⟨M,r,z,s,.inl ⟨wd,hk,ag⟩⟩)
theorem yM {K:PySem.W.Frag} {Q:VK} {H:Hp} {T M p:Addr} {t:TK} {h w g r z s f o n:Int} {ms:List Int} {wy:Int} (X:B32 H T M p t h w g r z s f o ms) (hw:wy=5) (q:∀ (T':Addr) (H':Hp),Same H H'→jF H' T' t h w g r z s ms→Q (.ref T') H'):
  bi K { nx:=fun _ H'=>Q .non H',rt:=Q } [some (.ref T),some (.int n),some (.ref p),some (.str (tx (tkC t))),some (.int r),some (.int z),some (.int s),some (.ref M),some (.int f),some (.int wy),some (.int o)] H:=by
 obtain ⟨h0,h1,w0,w1,m16,g0,g1⟩:=id X.F
 have oo:=X.oo
 unfold bi
 rw [aH,aD]
 walk_at "w"
 rw [decide_eq_true hw]
 walk_at "w"
 refine ixT X.fl (v:=V.int h) rfl ?_
 walk_at "w"
 refine ixT X.fl (v:=V.int w) rfl ?_
 walk_at "w"
 refine ⟨fJ h0 h1,?_⟩
 refine ⟨aB (by show (2:Nat)≤1000; decide),fun W hW=>?_⟩
 have t1:Same H (upd H W (.lst [V.int o,V.int (h*w)])):=(Same.refl H).laid hW
 have eW:(upd H W (.lst [V.int o,V.int (h*w)])) W=some (.lst [V.int o,V.int (h*w)]):=ag
 generalize upd H W (.lst [V.int o,V.int (h*w)])=H1 at*
 refine ⟨⟨by decide,by decide⟩,?_⟩
 refine ⟨by decide,?_⟩
 obtain ⟨v,hv,hvv⟩:=in2 (a:=o) (b:=h*w) (n / 18)
 refine ixL eW hv ?_
 walk_at "w"
 have X1:=X.same t1
 refine ixT X1.fl (v:=V.int g) rfl ?_
 walk_at "w"
 refine ⟨aB (by show (3:Nat)≤1000; decide),fun W2 hW2=>?_⟩
 have t2:Same H1 (upd H1 W2 (.lst [V.int o,V.int 0,V.int (g+1)])):=(Same.refl H1).laid hW2
 have eW2:(upd H1 W2 (.lst [V.int o,V.int 0,V.int (g+1)])) W2=some (.lst [V.int o,V.int 0,V.int (g+1)]):=ag
 generalize upd H1 W2 (.lst [V.int o,V.int 0,V.int (g+1)])=H2 at*
 refine ⟨⟨by decide,by decide⟩,?_⟩
 refine ⟨by decide,?_⟩
 obtain ⟨u,hu,_⟩:=in3 (a:=o) (b:=0) (c:=g+1) (n / 36)
 refine ixL eW2 hu ?_
 walk_at "w"
 refine kx fun T' hT'=>?_
 exact q T' _ ((t1.trans t2).trans ((Same.refl H2).laid hT')) (pS (X.same (t1.trans t2)) hT' ⟨.inl (by rcases hvv with e | e <;> omega)⟩)
theorem tu {K:PySem.W.Frag} {Q:VK} {H0 H:Hp} {T M p N:Addr} {t:TK} {h w g r z s f o n:Int} {ms ex:List Int} {wy:Int} (s1:Same H0 H) (X:B32 H T M p t h w g r z s f o ms) (hw:wy=4) (eN:H N=some (.lst (ex.map V.int))) (he:(∃ f:Int,16≤f∧ex=[f])∨ex.length=3) (q:∀ (T':Addr) (H':Hp),Same H0 H'→jF H' T' t h w g r z s ms→Q (.ref T') H'):
  cAdd (.ref M) (.ref N) H fun v H1=>bi K { nx:=fun _ H'=>Q .non H',rt:=Q } [some (.ref T),some (.int n),some (.ref p),some (.str (tx (tkC t))),some (.int r),some (.int z),some (.int s),some v,some (.int f),some (.int wy),some (.int o)] H1:=by
 have ml:=X.ml
 have el:ex.length≤3:=by
  rcases he with ⟨f,_,rfl⟩ | e
  · show (1:Nat)≤3; decide
  · omega
 refine qm X.th.M eN (by rw [List.length_map,List.length_map]; omega) fun Y hY=>?_
 have t1:Same H (upd H Y (.lst (ms.map V.int++ex.map V.int))):=(Same.refl H).laid hY
 have eY:(upd H Y (.lst (ms.map V.int++ex.map V.int))) Y=some (.lst ((ms++ex).map V.int)):=by rw [ag,List.map_append]
 generalize upd H Y (.lst (ms.map V.int++ex.map V.int))=H1 at*
 refine g7 (by omega) (kx fun T' hT'=>?_)
 have t2:Same H1 (upd H1 T' (.tup [.str (tx (tkC t)),.int r,.int z,.int s,.ref Y])):=(Same.refl H1).laid hT'
 exact q T' _ ((s1.trans t1).trans t2) (.inr ⟨Y,r,z,s,ms++ex,⟨ag,t2 _ _ eY,by rw [List.length_append]; omega⟩,⟨.inr (.inr (.inr ⟨rfl,rfl,rfl,ex,rfl,he⟩))⟩⟩)
theorem yN {K:PySem.W.Frag} {Q:VK} {H:Hp} {T M p:Addr} {t:TK} {h w g r z s f o n:Int} {ms:List Int} {wy:Int} (X:B32 H T M p t h w g r z s f o ms) (hw:wy=4) (q:∀ (T':Addr) (H':Hp),Same H H'→jF H' T' t h w g r z s ms→Q (.ref T') H'):
  bJ K { nx:=fun _ H'=>Q .non H',rt:=Q } [some (.ref T),some (.int n),some (.ref p),some (.str (tx (tkC t))),some (.int r),some (.int z),some (.int s),some (.ref M),some (.int f),some (.int wy),some (.int o)] H:=by
 have ml:=X.ml
 unfold bJ
 rw [aH,aD]
 walk_at "w"
 rw [decide_eq_true hw]
 walk_at "w"
 refine ⟨aB (by decide),fun E0 hE0=>?_⟩
 have t1:Same H (upd H E0 (.lst [])):=(Same.refl H).laid hE0
 have e1:(upd H E0 (.lst [])) E0=some (.lst []):=ag
 generalize upd H E0 (.lst [])=H1 at*
 refine ⟨aB (by show (5:Nat)≤1000; decide),fun T2 hT2=>?_⟩
 have t2:Same H1 (upd H1 T2 (.tup [V.str (tx [99,108,117,101]),V.int 0,V.int 0,V.int 1,V.ref E0])):=(Same.refl H1).laid hT2
 have e2:(upd H1 T2 (.tup [V.str (tx [99,108,117,101]),V.int 0,V.int 0,V.int 1,V.ref E0])) T2=some (.tup [V.str (tx [99,108,117,101]),V.int 0,V.int 0,V.int 1,V.ref E0]):=ag
 generalize upd H1 T2 (.tup [V.str (tx [99,108,117,101]),V.int 0,V.int 0,V.int 1,V.ref E0])=H2 at*
 refine ⟨aB (by show (1:Nat)≤1000; decide),fun A hA=>?_⟩
 have t3:Same H2 (upd H2 A (.lst [V.ref T2])):=(Same.refl H2).laid hA
 have e3:(upd H2 A (.lst [V.ref T2])) A=some (.lst [V.ref T2]):=ag
 generalize upd H2 A (.lst [V.ref T2])=H3 at*
 refine ⟨aB (by show (1:Nat)≤1000; decide),fun B hB=>?_⟩
 have t4:Same H3 (upd H3 B (.lst [V.int f])):=(Same.refl H3).laid hB
 have e4:(upd H3 B (.lst [V.int f])) B=some (.lst (([f]:List Int).map V.int)):=ag
 generalize upd H3 B (.lst [V.int f])=H4 at*
 refine ⟨aB (by show (3:Nat)≤1000; decide),fun C hC=>?_⟩
 have t5:Same H4 (upd H4 C (.lst [V.int o,V.int o,V.int o])):=(Same.refl H4).laid hC
 have e5:(upd H4 C (.lst [V.int o,V.int o,V.int o])) C=some (.lst (([o,o,o]:List Int).map V.int)):=ag
 generalize upd H4 C (.lst [V.int o,V.int o,V.int o])=H5 at*
 refine ⟨aB (by show (3:Nat)≤1000; decide),fun Dd hD=>?_⟩
 have t6:Same H5 (upd H5 Dd (.lst [V.int 0,V.int 0,V.int 0])):=(Same.refl H5).laid hD
 have e6:(upd H5 Dd (.lst [V.int 0,V.int 0,V.int 0])) Dd=some (.lst (([0,0,0]:List Int).map V.int)):=ag
 generalize upd H5 Dd (.lst [V.int 0,V.int 0,V.int 0])=H6 at*
 refine ⟨aB (by show (4:Nat)≤1000; decide),fun W hW=>?_⟩
 have t7:Same H6 (upd H6 W (.lst [V.ref A,V.ref B,V.ref C,V.ref Dd])):=(Same.refl H6).laid hW
 have e7:(upd H6 W (.lst [V.ref A,V.ref B,V.ref C,V.ref Dd])) W=some (.lst [V.ref A,V.ref B,V.ref C,V.ref Dd]):=ag
 generalize upd H6 W (.lst [V.ref A,V.ref B,V.ref C,V.ref Dd])=H7 at*
 refine ⟨⟨by decide,by decide⟩,?_⟩
 refine ⟨by decide,?_⟩
 have t57:=(t5.trans t6).trans t7
 have u:=((t1.trans t2).trans t3).trans (t4.trans t57)
 have X7:=X.same u
 have e:n / 18 % 4=0∨n / 18 % 4=1∨n / 18 % 4=2∨n / 18 % 4=3:=by omega
 rcases e with e | e | e | e <;> rw [e]
 · refine ixL e7 (v:=V.ref A) rfl ?_
   walk_at "w"
   have t47:=t4.trans t57
   refine qm X7.th.M (t47 _ _ e3) (by rw [List.length_map]; show ms.length+1≤1000; omega) fun Y hY=>?_
   have t8:Same H7 (upd H7 Y (.lst (ms.map V.int++[V.ref T2]))):=(Same.refl H7).laid hY
   have e8:(upd H7 Y (.lst (ms.map V.int++[V.ref T2]))) Y=some (.lst (ms.map V.int++[V.ref T2])):=ag
   generalize upd H7 Y (.lst (ms.map V.int++[V.ref T2]))=H8 at*
   walk_at "w"
   refine g7 (by omega) (kx fun T' hT'=>?_)
   have t9:Same H8 (upd H8 T' (.tup [.str (tx (tkC t)),.int r,.int z,.int s,.ref Y])):=(Same.refl H8).laid hT'
   have t39:=((t3.trans t47).trans t8).trans t9
   exact q T' _ ((u.trans t8).trans t9) (.inl ⟨Y,r,z,s,.inr ⟨t,ms,T2,_,ag,t9 _ _ e8,by omega,t39 _ _ e2⟩⟩)
 · refine ixL e7 (v:=V.ref B) rfl ?_
   walk_at "w"
   exact tu u X7 hw (t57 _ _ e4) (.inl ⟨f,X.f16,rfl⟩) q
 · refine ixL e7 (v:=V.ref C) rfl ?_
   walk_at "w"
   exact tu u X7 hw ((t6.trans t7) _ _ e5) (.inr rfl) q
 · refine ixL e7 (v:=V.ref Dd) rfl ?_
   walk_at "w"
   exact tu u X7 hw (t7 _ _ e6) (.inr rfl) q
theorem oS {K:PySem.W.Frag} {vs:List V} {H:Hp} {Q:VK} {E:XK} (h:cr K vs H Q E):fe K { nx:=fun _ H'=>Q .non H',rt:=Q } (start ["_law_thought","_law_number","_law_floor_here","_law_kind","_law_rule","_law_cell","_law_sign","_law_more","_law_far","_law_way","_law_odd"] vs) H:=by
 obtain ⟨T,M,p,t,r,z,s,ms,h,w,g,n,rfl,th,ml,hp,F,n0,n1,q⟩:=h
 show fe K _ [some (.ref T),some (.int n),some (.ref p),none,none,none,none,none,none,none,none] H
 unfold fe
 walk_at "w"
 refine xM th.T rfl (vX ?_)
 walk_at "w"
 refine ⟨⟨by decide,by decide⟩,?_⟩
 refine ⟨.inr ⟨by omega,n1⟩,?_⟩
 refine ⟨.inr ⟨by omega,n1⟩,?_⟩
 refine ⟨⟨by decide,by decide,by decide⟩,?_⟩
 have ten:0 < (10:Int)^(59:Int).toNat:=by decide
 refine ⟨ten,?_⟩
 have f0:=Int.emod_nonneg (n / 96*n*n) (Int.ne_of_gt ten)
 obtain ⟨f,ef⟩:∃ f:Int,f=16+n / 96*n*n % 10^(59:Int).toNat:=⟨_,rfl⟩
 have f16:16≤f:=by rw [ef]; omega
 rw [← ef]
 refine ⟨by decide,?_⟩
 refine ⟨aB (by show (3:Nat)≤1000; decide),fun W hW=>?_⟩
 have t1:Same H (upd H W (.lst [V.int (-1),V.int f,V.int (0 - f)])):=(Same.refl H).laid hW
 have eW:(upd H W (.lst [V.int (-1),V.int f,V.int (0 - f)])) W=some (.lst [V.int (-1),V.int f,V.int (0 - f)]):=ag
 generalize upd H W (.lst [V.int (-1),V.int f,V.int (0 - f)])=H1 at*
 refine ⟨⟨by decide,by decide⟩,?_⟩
 refine ⟨by decide,?_⟩
 obtain ⟨o,ho,oo⟩:=in3 (a:= -1) (b:=f) (c:=0 - f) (n / 6)
 refine ixL eW ho ?_
 walk_at "w"
 have X:B32 H1 T M p t h w g r z s f o ms:=⟨th.same t1,ml,t1 _ _ hp,F,f16,by rcases oo with e | e | e <;> omega⟩
 have q':∀ (T':Addr) (H':Hp),Same H1 H'→jF H' T' t h w g r z s ms→Q (.ref T') H':=fun T' H' s1 b=>q T' H' (t1.trans s1) b
 have e:n % 6=0∨n % 6=1∨n % 6=2∨n % 6=3∨n % 6=4∨n % 6=5:=by omega
 rcases e with e | e | e | e | e | e
 · exact yI X e q'
 · exact jh (by omega) (yJ X e q')
 · exact jh (by omega) (ji (by omega) (yK X e q'))
 · exact jh (by omega) (ji (by omega) (jj (by omega) (yL X e q')))
 · exact jh (by omega) (ji (by omega) (jj (by omega) (jk (by omega) (yN X e q'))))
 · exact jh (by omega) (ji (by omega) (jj (by omega) (jk (by omega) (jl (by omega) (yM X e q')))))
def bz (K:PySem.W.Frag) (c:RCl RK) (d:RCl PzK):Sp:=fun vs H Q _=>∃ (P A T:Addr) (b:Bool),vs=[.ref P,.ref A,.ref T,.bl b]∧((∃ (L G M:Addr) (h w g:Int) (rows:List RR) (cl masks:List Int) (t:TK) (r z s:Int) (ms:List Int),Asks H c d P L G A T M h w g rows cl masks t r z s ms∧K30 t∧(∀ m∈masks,0≤m∧m < 64)∧jg h w g rows cl masks t r z s ms=b)∨∃ (L G:Addr) (h w g:Int) (rows:List RR) (cl:List Int),IsPz H c d P L G h w g rows cl∧pQ H T∧b=false)∧∀ H',Same H H'→Q (.bl true) H'
theorem oT {K:PySem.W.Frag} {c:RCl RK} {d:RCl PzK} {vs:List V} {H:Hp} {Q:VK} {E:XK} (h:bz K c d vs H Q E):vs.length=4:=by
 obtain ⟨_,_,_,_,rfl,_⟩:=h; rfl
def ff (K:PySem.W.Frag) (c:RCl RK) (d:RCl PzK):TS:=
 (tSeq (tAsg (tCall (c8 K c d) [] E0 (tCons (tVar 0) (tCons (tVar 1) (tCons (tVar 2) tNil)))) (gName 4))
  (tRet (tAndV (tCB kIsi (tCons (tVar 4) (tCons (tC (.ty "bool")) tNil))) (tOp (cEq K) (tVar 4) (tVar 3)))))
theorem oU {K:PySem.W.Frag} {c:RCl RK} {d:RCl PzK} {vs:List V} {H:Hp} {Q:VK} {E:XK} (h:bz K c d vs H Q E):ff K c d { nx:=fun _ H'=>Q .non H',rt:=Q } (start ["_law_puzzle","_law_masks_here","_law_thought","_law_due","_law_found"] vs) H:=by
 obtain ⟨P,A,T,b,rfl,o,q⟩:=h
 show ff K c d _ [some (.ref P),some (.ref A),some (.ref T),some (.bl b),none] H
 unfold ff
 walk_at "w"
 rcases o with ⟨L,G,M,h,w,g,rows,cl,masks,t,r,z,s,ms,X,ht,mm,e⟩ | ⟨L,G,h,w,g,rows,cl,X,o,e⟩
 · refine .inl ⟨P,L,G,A,T,M,h,w,g,rows,cl,masks,t,r,z,s,ms,rfl,X,ht,mm,fun H1 s1=>?_⟩
   rw [e]
   walk_at "w"
   cases b
   · exact q _ s1
   · exact q _ s1
 · refine .inr ⟨P,L,G,A,T,h,w,g,rows,cl,rfl,X,o,fun H1 s1=>?_⟩
   rw [e]
   walk_at "w"
   exact q _ s1
theorem vY (ns:List Int) (k:Int):lawCA ns k < 2^64:=by
 unfold lawCA
 split
 · exact Int.lt_trans (Int.emod_lt_of_pos _ (by decide)) (by decide)
 · split
   · exact Int.lt_trans (Int.emod_lt_of_pos _ (by decide)) (by decide)
   · exact Int.lt_trans (Int.emod_lt_of_pos _ (by decide)) (by decide)
theorem Sm32.kd {h w g z:Int} {t:TK} {r s:Int} {ms:List Int} (x:Sm32 h w g z t r s ms):K30 t:=by
 cases x <;> first | exact .inl (.inl rfl) | exact .inl (.inr (.inl rfl)) | exact .inl (.inr (.inr (.inl rfl))) | exact .inl (.inr (.inr (.inr rfl))) | exact .inr (.inl rfl) | exact .inr (.inr (.inl rfl)) | exact .inr (.inr (.inr rfl))
theorem Sm32.len {h w g z:Int} {t:TK} {r s:Int} {ms:List Int} (x:Sm32 h w g z t r s ms):ms.length≤2:=by
 cases x <;> simp
theorem vc {c:RCl RK} {h w g:Int} (F:FlOk h w g) (hk:∀ k,k≠.Rule→c.ok k=true) (b:Bool):j4 c h w g (if b=true then aU h w else []):=by
 obtain ⟨h0,h1,w0,w1,m16,g0,g1⟩:=id F
 have mpos:1≤h*w:=Int.le_trans (by omega) (Int.mul_le_mul h0 w0 (by omega) (by omega))
 cases b with
 | false=>exact ⟨F,Nat.zero_le _,(fun r hr=>by cases hr),fun r hr=>by cases hr⟩
 | true=>
  rw [if_pos rfl]
  have ne:cg h w≠[]:=fun e=>by
   have:=congrArg List.length e
   rw [List.length_range,List.length_nil] at this
   omega
  have mem:∀ r∈aU h w,r.Ok h w g∧r.k≠.Rule:=fun r hr=>by
   unfold aU at hr
   rcases List.mem_cons.mp hr with rfl | hr
   · exact ⟨tp F ne (fun c hc=>by have:=List.mem_range.mp hc; omega) List.nodup_range (by rw [List.length_range]; omega) rfl (by decide) (by decide) (fun _=>rfl) (fun e=>by cases e) (fun _=>rfl),fun e=>by cases e⟩
   rcases List.mem_cons.mp hr with rfl | hr
   · exact ⟨ld rfl (by decide) rfl rfl (by decide) g0,fun e=>by cases e⟩
   rcases List.mem_cons.mp hr with rfl | hr
   · exact ⟨ld rfl (by decide) rfl rfl (by decide) g0,fun e=>by cases e⟩
   rw [List.mem_singleton.mp hr]
   exact ⟨ld rfl (by decide) rfl rfl (by decide) g0,fun e=>by cases e⟩
  exact ⟨F,by show (4:Nat)≤12; decide,fun r hr=>(mem r hr).1,fun r hr=>hk _ (mem r hr).2⟩
def qV (K:PySem.W.Frag) (c:RCl RK) (d:RCl PzK):Sp:=fun vs H Q _=>∃ (a:Addr) (ns:List Int),vs=[.ref a]∧SqL K H a (ns.map V.int)∧ns.length≤63∧(∀ k,k≠.Rule→c.ok k=true)∧d.ok .Puzzle=true∧∀ H',Q (.bl true) H'
def oV (K:PySem.W.Frag):Sp:=fun vs H Q _=>∃ (a:Addr) (ns:List Int),vs=[.ref a]∧SqL K H a (ns.map V.int)∧ns.length≤63∧∀ H',Q (.bl true) H'
theorem ye {K:PySem.W.Frag} {c:RCl RK} {d:RCl PzK} {vs:List V} {H:Hp} {Q:VK} {E:XK} (h:qV K c d vs H Q E):vs.length=1:=by
 obtain ⟨_,_,rfl,_⟩:=h; rfl
def tw (K:PySem.W.Frag) (c:RCl RK) (d:RCl PzK):TS:=
 (tSeq (tAsg (tCall (cr K) [] E0 (tCons (tVar 9) (tCons (tCall (aV K) [] E0 (tCons (tVar 0) (tCons (tOp cAdd (tC (.int 30)) (tVar 4)) tNil))) (tCons (tVar 1) tNil)))) (gName 12))
  (tIfS (tNot (tB (tCall (bz K c d) [] E0 (tCons (tVar 6) (tCons (tVar 7) (tCons (tVar 12) (tCons (tC (.bl false)) tNil))))))) (tRet (tC (.bl false))) tNext))
def tz (K:PySem.W.Frag) (c:RCl RK) (d:RCl PzK):TS:=
 (tSeq (tAsg (tTup (tCons (tC (.str (tx [115,117,112,112,111,115,101]))) (tCons (tC (.int 0)) (tCons (tOp cIx (tVar 9) (tC (.int 2))) (tCons (tC (.int 1)) (tCons (tLst (tCons (tVar 9) tNil)) tNil)))))) (gName 11))
  (tSeq (tIfS (tNot (tB (tCall (bz K c d) [] E0 (tCons (tVar 6) (tCons (tVar 7) (tCons (tVar 11) (tCons (tC (.bl false)) tNil))))))) (tRet (tC (.bl false))) tNext)
  (tw K c d)))
def tD (K:PySem.W.Frag) (c:RCl RK) (d:RCl PzK):TS:=
 (tSeq (tIfS (tNot (tB (tCall (bz K c d) [] E0 (tCons (tVar 6) (tCons (tVar 7) (tCons (tVar 9) (tCons (tVar 10) tNil))))))) (tRet (tC (.bl false))) tNext)
  (tz K c d))
def tE (K:PySem.W.Frag) (c:RCl RK) (d:RCl PzK):TS:=
 (tSeq (tIfS (tAnd (tTest (tOp (cEq K) (tOp cIx (tVar 9) (tC (.int 0))) (tC (.str (tx [114,101,97,99,104]))))) (tTest (tOp (cEq K) (tOp cIx (tVar 9) (tC (.int 1))) (tC (.int 2))))) (tAsg (tAndV (tVar 10) (tOp (cNe K) (tOp cIx (tVar 9) (tC (.int 3))) (tC (.int 1)))) (gName 10)) tNext)
  (tD K c d))
def vZ (K:PySem.W.Frag) (c:RCl RK) (d:RCl PzK):TS:=
 (tSeq (tAsg (tOp (cNe K) (tVar 3) (tLst tNil)) (gName 10))
  (tSeq (tIfS (tTest (tOp (cEq K) (tOp cIx (tVar 9) (tC (.int 0))) (tC (.str (tx [99,108,117,101]))))) (tAsg (tOp (cNe K) (tOp cIx (tVar 5) (tOp cIx (tVar 9) (tC (.int 2)))) (tOp cIx (tVar 9) (tC (.int 3)))) (gName 10)) tNext)
  (tE K c d)))
def lq (K:PySem.W.Frag) (c:RCl RK) (d:RCl PzK):TS:=
 (tSeq (tFor (fU (tCons (tC (.int 6)) tNil)) (gName 4)
  (tSeq (tAsg (tCall (aV K) [] E0 (tCons (tVar 0) (tCons (tOp cAdd (tC (.int 20)) (tVar 4)) tNil))) (gName 8))
  (tFor (iList K (tCall (bx K) [] E0 (tCons (tVar 8) (tCons (tVar 1) tNil)))) (gName 9)
  (vZ K c d))))
  (tRet (tC (.bl true))))
def lr (K:PySem.W.Frag) (c:RCl RK) (d:RCl PzK):TS:=
 (tSeq (sComp 5 [none,none,some 1,some 0] (fU (tCons (tVar 2) tNil)) (gName 1) tTrue (tOp cAdd (tC (.int 1)) (tOp cMod (tCall (aV K) [] E0 (tCons (tVar 3) (tCons (tOp cAdd (tC (.int 1)) (tVar 1)) tNil))) (tOp cIx (tVar 2) (tC (.int 2))))))
  (tSeq (tAsg (tMake (d.A .Puzzle) (aX K c d) [] E0 (tCons (tVar 1) (tCons (tVar 3) (tCons (tVar 5) tNil)))) (gName 6))
  (tSeq (sComp 7 [none,none] (fU (tCons (tVar 2) tNil)) (gName 1) tTrue (tC (.int 0)))
  (lq K c d))))
def ls (K:PySem.W.Frag) (c:RCl RK) (d:RCl PzK):TS:=
 (tSeq (tIfS (tTest (tOp (cEq K) (tOp cMod (tCall (aV K) [] E0 (tCons (tVar 0) (tCons (tC (.int 40)) tNil))) (tC (.int 6))) (tC (.int 5)))) (tAsg (tLst tNil) (gName 3)) tNext)
  (lr K c d))
def lu (K:PySem.W.Frag) (c:RCl RK) (d:RCl PzK):TS:=
 (tSeq (tAsg (tLst (tCons (tOp cAdd (tC (.str (tx [117,110,108,105,107,101,32]))) (tBM K "str" k9 (tC (.str (tx [32]))) (tCons (tComp [none,none] (fU (tCons (tVar 2) tNil)) (gName 1) tTrue (tCB kStr (tCons (tVar 1) tNil))) tNil))) (tCons (tC (.str (tx [106,111,105,110,101,100,32,49]))) (tCons (tC (.str (tx [114,105,110,103,32,49]))) (tCons (tC (.str (tx [110,111,115,113,117,97,114,101,32,49]))) tNil))))) (gName 3))
  (ls K c d))
def oi (K:PySem.W.Frag) (c:RCl RK) (d:RCl PzK):TS:=
 (tSeq (tAsg (tCall (cb K) [] E0 (tCons (tCall (aV K) [] E0 (tCons (tVar 0) (tCons (tC (.int 0)) tNil))) tNil)) (gName 1))
  (tSeq (tAsg (tOp cMul (tOp cIx (tVar 1) (tC (.int 0))) (tOp cIx (tVar 1) (tC (.int 1)))) (gName 2))
  (lu K c d)))
structure L32 (K:PySem.W.Frag) (H:Hp) (c:RCl RK) (d:RCl PzK) (a p U C P L G A:Addr) (ns cl:List Int) (b:Bool) (rows:List RR) (h w g:Int):Prop where
 S:SqL K H a (ns.map V.int)
 n:ns.length≤63
 fl:IsFl H p h w g
 F:FlOk h w g
 uu:H U=some (.lst ((rows.map RR.txt).map V.str))
 cc:H C=some (.lst (cl.map V.int))
 hr:rows=if b=true then aU h w else []
 pz:IsPz H c d P L G h w g rows cl
 aa:H A=some (.lst ((bR h w).map V.int))
 c1:∀ x∈cl,1≤x
theorem L32.same {K:PySem.W.Frag} {H H':Hp} {c:RCl RK} {d:RCl PzK} {a p U C P L G A:Addr} {ns cl:List Int} {b:Bool} {rows:List RR} {h w g:Int} (X:L32 K H c d a p U C P L G A ns cl b rows h w g) (e:Same H H'):L32 K H' c d a p U C P L G A ns cl b rows h w g:=
 ⟨e.seq X.S,X.n,e _ _ X.fl,X.F,e _ _ X.uu,e _ _ X.cc,X.hr,X.pz.same e,e _ _ X.aa,X.c1⟩
theorem vd (h w:Int):∀ m∈bR h w,0≤m∧m < 64:=fun m hm=>by
 obtain ⟨_,_,rfl⟩:=List.mem_map.mp hm
 decide
theorem si (h w:Int):(bR h w).length=(h*w).toNat:=by rw [List.length_map,List.length_range]
theorem wa {K:PySem.W.Frag} {c:RCl RK} {d:RCl PzK} {D:Ends} {H:Hp} {a p U C P L G A T M:Addr} {ns cl ms:List Int} {b:Bool} {rows:List RR} {h w g r z s:Int} {t:TK} {i:Nat} {v8 v10 v11 v12:Option V} (X:L32 K H c d a p U C P L G A ns cl b rows h w g) (Th:IsTh H T M t r z s ms) (x:Sm32 h w g z t r s ms) (z0:0≤z) (z1:z < h*w) (hi:i < 6)
  (q:∀ (v12:Option V) (H':Hp),Same H H'→D.nx [some (.ref a),some (.ref p),some (.int (h*w)),some (.ref U),some (.int (i:Int)),some (.ref C),some (.ref P),some (.ref A),v8,some (.ref T),v10,v11,v12] H'):
  tw K c d D [some (.ref a),some (.ref p),some (.int (h*w)),some (.ref U),some (.int (i:Int)),some (.ref C),some (.ref P),some (.ref A),v8,some (.ref T),v10,v11,v12] H:=by
 unfold tw
 walk_at "w"
 refine ⟨a,ns,_,rfl,X.S,X.n,by omega,by omega,?_⟩
 walk_at "w"
 refine ⟨T,M,p,t,r,z,s,ms,h,w,g,_,rfl,Th,x.len,X.fl,X.F,vJ _ _,vY _ _,fun T' H1 s1 bt=>?_⟩
 have X1:=X.same s1
 walk_at "w"
 rw [aD]
 walk_at "w"
 refine ⟨P,A,T',false,rfl,?_,fun H2 s2=>?_⟩
 · rcases bt with o | ⟨M',r',z',s',ms',th',bm⟩
   · exact .inr ⟨L,G,h,w,g,rows,cl,X1.pz,o,rfl⟩
   · exact .inl ⟨L,G,M',h,w,g,rows,cl,bR h w,t,r',z',s',ms',⟨X1.pz,th',X1.aa,si h w⟩,x.kd,vd h w,by rw [X.hr]; exact vQ X.F z0 z1 x bm b⟩
 · walk_at "w"
   exact q _ _ (s1.trans s2)
theorem wb {K:PySem.W.Frag} {c:RCl RK} {d:RCl PzK} {D:Ends} {H:Hp} {a p U C P L G A T M:Addr} {ns cl ms:List Int} {b:Bool} {rows:List RR} {h w g r z s:Int} {t:TK} {i:Nat} {v8 v10 v11 v12:Option V} (X:L32 K H c d a p U C P L G A ns cl b rows h w g) (Th:IsTh H T M t r z s ms) (x:Sm32 h w g z t r s ms) (z0:0≤z) (z1:z < h*w) (hi:i < 6)
  (q:∀ (v11 v12:Option V) (H':Hp),Same H H'→D.nx [some (.ref a),some (.ref p),some (.int (h*w)),some (.ref U),some (.int (i:Int)),some (.ref C),some (.ref P),some (.ref A),v8,some (.ref T),v10,v11,v12] H'):
  tz K c d D [some (.ref a),some (.ref p),some (.int (h*w)),some (.ref U),some (.int (i:Int)),some (.ref C),some (.ref P),some (.ref A),v8,some (.ref T),v10,v11,v12] H:=by
 unfold tz
 walk_at "w"
 refine ixT Th.T (v:=V.int z) rfl ?_
 walk_at "w"
 refine ⟨aB (by show (1:Nat)≤1000; decide),fun N hN=>?_⟩
 have t1:Same H (upd H N (.lst [V.ref T])):=(Same.refl H).laid hN
 generalize upd H N (.lst [V.ref T])=H1 at*
 refine ⟨aB (by show (5:Nat)≤1000; decide),fun W hW=>?_⟩
 have t2:Same H1 (upd H1 W (.tup [V.str (tx [115,117,112,112,111,115,101]),V.int 0,V.int z,V.int 1,V.ref N])):=(Same.refl H1).laid hW
 have eW:(upd H1 W (.tup [V.str (tx [115,117,112,112,111,115,101]),V.int 0,V.int z,V.int 1,V.ref N])) W=some (.tup [V.str (tx [115,117,112,112,111,115,101]),V.int 0,V.int z,V.int 1,V.ref N]):=ag
 generalize upd H1 W (.tup [V.str (tx [115,117,112,112,111,115,101]),V.int 0,V.int z,V.int 1,V.ref N])=H2 at*
 have s2:=t1.trans t2
 have X2:=X.same s2
 have no:decide (tx [115,117,112,112,111,115,101]∈dr)=false:=by decide+kernel
 rw [aD]
 walk_at "w"
 refine ⟨P,A,W,false,rfl,.inr ⟨L,G,h,w,g,rows,cl,X2.pz,⟨N,0,z,1,.inl ⟨_,no,eW⟩⟩,rfl⟩,fun H3 s3=>?_⟩
 walk_at "w"
 exact wa (X2.same s3) (Th.same (s2.trans s3)) x z0 z1 hi fun v12 H4 s4=>q _ _ H4 ((s2.trans s3).trans s4)
theorem wc {K:PySem.W.Frag} {c:RCl RK} {d:RCl PzK} {D:Ends} {H:Hp} {a p U C P L G A T M:Addr} {ns cl ms:List Int} {b:Bool} {rows:List RR} {h w g r z s:Int} {t:TK} {i:Nat} {v8 v11 v12:Option V} (X:L32 K H c d a p U C P L G A ns cl b rows h w g) (Th:IsTh H T M t r z s ms) (x:Sm32 h w g z t r s ms) (z0:0≤z) (z1:z < h*w) (hi:i < 6)
  (q:∀ (v10 v11 v12:Option V) (H':Hp),Same H H'→D.nx [some (.ref a),some (.ref p),some (.int (h*w)),some (.ref U),some (.int (i:Int)),some (.ref C),some (.ref P),some (.ref A),v8,some (.ref T),v10,v11,v12] H'):
  tD K c d D [some (.ref a),some (.ref p),some (.int (h*w)),some (.ref U),some (.int (i:Int)),some (.ref C),some (.ref P),some (.ref A),v8,some (.ref T),some (.bl (oh b cl t r z s)),v11,v12] H:=by
 have c0:cl.getD z.toNat 0≠0:=by
  have cl0:=X.pz.C.len
  rw [List.getD,List.getElem?_eq_getElem (by omega)]
  have:=X.c1 _ (List.getElem_mem (show z.toNat < cl.length by omega))
  show cl[z.toNat]≠0
  omega
 unfold tD
 walk_at "w"
 rw [aD]
 walk_at "w"
 refine ⟨P,A,T,_,rfl,.inl ⟨L,G,M,h,w,g,rows,cl,bR h w,t,r,z,s,ms,⟨X.pz,Th,X.aa,si h w⟩,x.kd,vd h w,by rw [X.hr]; exact qU X.F z0 z1 c0 x b⟩,fun H1 s1=>?_⟩
 walk_at "w"
 exact wb (X.same s1) (Th.same s1) x z0 z1 hi fun v11 v12 H2 s2=>q _ _ _ H2 (s1.trans s2)
theorem qW {K:PySem.W.Frag} {c:RCl RK} {d:RCl PzK} {D:Ends} {H:Hp} {a p U C P L G A T M:Addr} {ns cl ms:List Int} {b b0:Bool} {rows:List RR} {h w g r z s:Int} {t:TK} {i:Nat} {v8 v11 v12:Option V} (X:L32 K H c d a p U C P L G A ns cl b rows h w g) (Th:IsTh H T M t r z s ms) (x:Sm32 h w g z t r s ms) (z0:0≤z) (z1:z < h*w) (hi:i < 6) (hb:oh b cl t r z s=if t=.reach∧r=2 then b0&&!decide (s=1) else b0)
  (q:∀ (v10 v11 v12:Option V) (H':Hp),Same H H'→D.nx [some (.ref a),some (.ref p),some (.int (h*w)),some (.ref U),some (.int (i:Int)),some (.ref C),some (.ref P),some (.ref A),v8,some (.ref T),v10,v11,v12] H'):
  tE K c d D [some (.ref a),some (.ref p),some (.int (h*w)),some (.ref U),some (.int (i:Int)),some (.ref C),some (.ref P),some (.ref A),v8,some (.ref T),some (.bl b0),v11,v12] H:=by
 have nx:=wc (D:=D) (v8:=v8) (v11:=v11) (v12:=v12) X Th x z0 z1 hi q
 rw [hb] at nx
 unfold tE
 rw [aH,aD]
 walk_at "w"
 refine ixT Th.T (v:=V.str (tx (tkC t))) rfl ?_
 walk_at "w"
 rw [cw,mP]
 by_cases ht:t=.reach
 · rw [decide_eq_true ht]
   walk_at "w"
   refine ixT Th.T (v:=V.int r) rfl ?_
   walk_at "w"
   by_cases hr:r=2
   · rw [decide_eq_true hr]
     rw [if_pos ⟨ht,hr⟩] at nx
     cases b0 with
     | false=>
      walk_at "w"
      exact nx
     | true=>
      walk_at "w"
      refine ixT Th.T (v:=V.int s) rfl ?_
      walk_at "w"
      exact nx
   · rw [decide_eq_false hr]
     rw [if_neg (fun e=>hr e.2)] at nx
     walk_at "w"
     exact nx
 · rw [decide_eq_false ht]
   rw [if_neg (fun e=>ht e.1)] at nx
   walk_at "w"
   exact nx
theorem xg {K:PySem.W.Frag} {c:RCl RK} {d:RCl PzK} {D:Ends} {H:Hp} {a p U C P L G A T M:Addr} {ns cl ms:List Int} {b:Bool} {rows:List RR} {h w g r z s:Int} {t:TK} {i:Nat} {v8 v10 v11 v12:Option V} (X:L32 K H c d a p U C P L G A ns cl b rows h w g) (Th:IsTh H T M t r z s ms) (x:Sm32 h w g z t r s ms) (z0:0≤z) (z1:z < h*w) (hi:i < 6)
  (q:∀ (v10 v11 v12:Option V) (H':Hp),Same H H'→D.nx [some (.ref a),some (.ref p),some (.int (h*w)),some (.ref U),some (.int (i:Int)),some (.ref C),some (.ref P),some (.ref A),v8,some (.ref T),v10,v11,v12] H'):
  vZ K c d D [some (.ref a),some (.ref p),some (.int (h*w)),some (.ref U),some (.int (i:Int)),some (.ref C),some (.ref P),some (.ref A),v8,some (.ref T),v10,v11,v12] H:=by
 have cl0:=X.pz.C.len
 have sok:∀ y∈rows.map RR.txt,PyData.strOk y=true:=fun y hy=>by obtain ⟨r,hr,rfl⟩:=List.mem_map.mp hy; exact RR.sok X.F (X.pz.R.ok r hr)
 have eb:(!decide (rows.map RR.txt=[]))=b:=by
  rw [X.hr]
  cases b
  · rfl
  · rw [if_pos rfl,decide_eq_false (show ¬ (aU h w).map RR.txt=[] by unfold aU; simp)]
    rfl
 unfold vZ
 walk_at "w"
 refine ⟨aB (by decide),fun Z hZ=>?_⟩
 have t1:Same H (upd H Z (.lst [])):=(Same.refl H).laid hZ
 have eZ:(upd H Z (.lst [])) Z=some (.lst (([]:List Str).map V.str)):=ag
 generalize upd H Z (.lst [])=H1 at*
 have X1:=X.same t1
 have Th1:=Th.same t1
 refine uL X1.uu eZ sok (fun y hy=>by cases hy) ?_
 rw [eb]
 walk_at "w"
 rw [aD]
 walk_at "w"
 refine ixT Th1.T (v:=V.str (tx (tkC t))) rfl ?_
 walk_at "w"
 rw [cw,oM]
 by_cases hc:t=.clue
 · rw [decide_eq_true hc]
   walk_at "w"
   refine ixT Th1.T (v:=V.int z) rfl ?_
   walk_at "w"
   refine ixI X1.cc z0 (by omega) ?_
   walk_at "w"
   refine ixT Th1.T (v:=V.int s) rfl ?_
   walk_at "w"
   refine qW X1 Th1 x z0 z1 hi ?_ fun v10 v11 v12 H2 s2=>q _ _ _ H2 (t1.trans s2)
   unfold oh
   rw [if_pos hc,if_neg (fun e=>by rw [hc] at e; cases e.1)]
 · rw [decide_eq_false hc]
   walk_at "w"
   refine qW X1 Th1 x z0 z1 hi ?_ fun v10 v11 v12 H2 s2=>q _ _ _ H2 (t1.trans s2)
   unfold oh
   rw [if_neg hc]
theorem ve {K:PySem.W.Frag} {c:RCl RK} {d:RCl PzK} {H:Hp} {Q:VK} {a p U C P L G A:Addr} {ns cl:List Int} {b:Bool} {rows:List RR} {h w g:Int} (X:L32 K H c d a p U C P L G A ns cl b rows h w g) (k:∀ H',Q (.bl true) H'):
  lq K c d { nx:=fun _ H'=>Q .non H',rt:=Q } [some (.ref a),some (.ref p),some (.int (h*w)),some (.ref U),none,some (.ref C),some (.ref P),some (.ref A),none,none,none,none,none] H:=by
 obtain ⟨h0,h1,w0,w1,m16,g0,g6⟩:=id X.F
 have mpos:1≤h*w:=Int.le_trans (by omega) (Int.mul_le_mul h0 w0 (by omega) (by omega))
 unfold lq
 walk_at "w"
 refine ⟨6,rfl,by decide,by decide,?_⟩
 refine oX (fun i σ H'=>∃ v4 v8 v9 v10 v11 v12:Option V,σ=[some (.ref a),some (.ref p),some (.int (h*w)),some (.ref U),v4,some (.ref C),some (.ref P),some (.ref A),v8,v9,v10,v11,v12]∧Same H H') ⟨_,_,_,_,_,_,rfl,Same.refl H⟩ ?_ ?_
 · rintro i σ H1 hi ⟨v4,v8,v9,v10,v11,v12,rfl,s1⟩
   have hi6:i < 6:=hi
   have X1:=X.same s1
   rw [Int.zero_add]
   walk_at "w"
   refine ⟨a,ns,_,rfl,X1.S,X.n,by omega,by omega,?_⟩
   generalize lawCA ns (20+(i:Int))=y at*
   walk_at "w"
   have b0:=Int.emod_nonneg y (show h*w≠0 by omega)
   have b1:=Int.emod_lt_of_pos y (show 0 < h*w by omega)
   refine ⟨p,h,w,g,y,rfl,X1.fl,X.F,fun L1 ts H2 s2 Y l1=>?_⟩
   generalize y % (h*w)=z at*
   have s12:=s1.trans s2
   walk_at "w"
   refine ⟨⟨_,SqL.of Y.top⟩,?_⟩
   refine mn (K:=K) (xs:=ts.map V.ref) (fun i' σ H'=>∃ v9 v10 v11 v12:Option V,σ=[some (.ref a),some (.ref p),some (.int (h*w)),some (.ref U),some (.int (i:Int)),some (.ref C),some (.ref P),some (.ref A),some (.int y),v9,v10,v11,v12]∧Same H2 H') ⟨_,_,_,_,rfl,Same.refl H2⟩ (fun i' σ H' _ ⟨_,_,_,_,_,e⟩=>e.seq (SqL.of Y.top)) ?_ ?_
   · rintro i' v σ H5 hv ⟨u9,u10,u11,u12,rfl,s5⟩
     obtain ⟨T,hT,rfl⟩:=List.mem_map.mp (List.mem_of_getElem? hv)
     obtain ⟨M,t,r,z',s',ms,_,⟨ez,x⟩,th⟩:=Y.ok T hT
     rw [ez] at th
     walk_at "w"
     exact xg (X.same (s12.trans s5)) (th.same s5) x b0 b1 hi6 fun u10 u11 u12 H6 s6=>⟨_,_,_,_,rfl,s5.trans s6⟩
   · rintro σ H5 ⟨u9,u10,u11,u12,rfl,s5⟩
     exact ⟨_,_,_,_,_,_,rfl,s12.trans s5⟩
 · rintro σ H1 ⟨v4,v8,v9,v10,v11,v12,rfl,s1⟩
   walk_at "w"
   exact k _
theorem pi {K:PySem.W.Frag} {c:RCl RK} {d:RCl PzK} {H:Hp} {Q:VK} {a p U:Addr} {ns:List Int} {b:Bool} {rows:List RR} {h w g:Int} (hS:SqL K H a (ns.map V.int)) (hn:ns.length≤63) (hp:IsFl H p h w g) (F:FlOk h w g) (uu:H U=some (.lst ((rows.map RR.txt).map V.str))) (hr:rows=if b=true then aU h w else []) (hk:∀ k,k≠.Rule→c.ok k=true) (ok:d.ok .Puzzle=true) (k:∀ H',Q (.bl true) H'):
  lr K c d { nx:=fun _ H'=>Q .non H',rt:=Q } [some (.ref a),some (.ref p),some (.int (h*w)),some (.ref U),none,none,none,none,none,none,none,none,none] H:=by
 obtain ⟨h0,h1,w0,w1,m16,g0,g6⟩:=id F
 have mpos:1≤h*w:=Int.le_trans (by omega) (Int.mul_le_mul h0 w0 (by omega) (by omega))
 unfold lr
 walk_at "w"
 refine ⟨h*w,rfl,by omega,by omega,?_⟩
 refine ij (fun _=>true) (fun i=>1+lawCA ns (1+(i:Int)) % g) (by omega) ?_ ?_ ?_
 · intro i H2 R hi s2 k2
   exact k2 _ (Same.refl _)
 · intro i H2 Q2 hi _ s2 k2
   have hil:i < (h*w).toNat:=hi
   rw [Int.zero_add]
   show tOp cAdd _ _ [none,some (.int (i:Int)),some (.ref p),some (.ref a)] H2 Q2
   walk_at "w"
   refine ⟨a,ns,_,rfl,s2.seq hS,hn,by omega,by omega,?_⟩
   walk_at "w"
   refine ixT (s2 _ _ hp) (v:=V.int g) rfl ?_
   walk_at "w"
   refine ⟨by omega,?_⟩
   exact k2 _ (Same.refl _)
 · intro C H2 hC s2 eC
   rw [List.filter_eq_self.mpr fun _ _=>rfl] at eC
   have gg:∀ x∈(List.range (h*w).toNat).map fun (i:Nat)=>1+lawCA ns (1+(i:Int)) % g,1≤x∧x≤g:=fun x hx=>by
    obtain ⟨i,hi,rfl⟩:=List.mem_map.mp hx
    have b0:=Int.emod_nonneg (lawCA ns (1+(i:Int))) (show g≠0 by omega)
    have b1:=Int.emod_lt_of_pos (lawCA ns (1+(i:Int))) (show 0 < g by omega)
    omega
   have cll:((List.range (h*w).toNat).map fun (i:Nat)=>1+lawCA ns (1+(i:Int)) % g).length=(h*w).toNat:=by rw [List.length_map,List.length_range]
   have eC':H2 C=some (.lst (((List.range (h*w).toNat).map fun (i:Nat)=>1+lawCA ns (1+(i:Int)) % g).map V.int)):=eC
   clear eC
   generalize ((List.range (h*w).toNat).map fun (i:Nat)=>1+lawCA ns (1+(i:Int)) % g)=cl at*
   walk_at "w"
   have RO:j4 c h w g rows:=by rw [hr]; exact vc F hk b
   refine xU ok (s2 _ _ hp) (s2 _ _ uu) eC' RO ⟨cll,fun x hx=>⟨by have:=gg x hx; omega,(gg x hx).2⟩⟩ fun P L G H3 s3 hP hL2 hG X=>?_
   have s23:=s2.trans s3
   walk_at "w"
   refine ⟨h*w,rfl,by omega,by omega,?_⟩
   refine ij (fun _=>true) (fun _=>0) (by omega) ?_ ?_ ?_
   · intro i H4 R hi s4 k4
     exact k4 _ (Same.refl _)
   · intro i H4 Q4 hi _ s4 k4
     rw [w_c]
     exact k4 _ (Same.refl _)
   · intro A H4 hA s4 eA
     rw [List.filter_eq_self.mpr fun _ _=>rfl] at eA
     have s24:=s23.trans s4
     walk_at "w"
     exact ve ⟨s24.seq hS,hn,s24 _ _ hp,F,s24 _ _ uu,(s3.trans s4) _ _ eC',hr,X.same s4,eA,fun x hx=>(gg x hx).1⟩ k
theorem vf {K:PySem.W.Frag} {c:RCl RK} {d:RCl PzK} {H:Hp} {Q:VK} {a p U:Addr} {ns:List Int} {h w g:Int} (hS:SqL K H a (ns.map V.int)) (hn:ns.length≤63) (hp:IsFl H p h w g) (F:FlOk h w g) (uu:H U=some (.lst (((aU h w).map RR.txt).map V.str))) (hk:∀ k,k≠.Rule→c.ok k=true) (ok:d.ok .Puzzle=true) (k:∀ H',Q (.bl true) H'):
  ls K c d { nx:=fun _ H'=>Q .non H',rt:=Q } [some (.ref a),some (.ref p),some (.int (h*w)),some (.ref U),none,none,none,none,none,none,none,none,none] H:=by
 unfold ls
 rw [aH,aD]
 walk_at "w"
 refine ⟨a,ns,40,rfl,hS,hn,by decide,by decide,?_⟩
 walk_at "w"
 refine ⟨by decide,?_⟩
 cases decide (lawCA ns 40 % 6=5) with
 | false=>
  refine iteF ?_
  walk_at "w"
  exact pi (b:=true) hS hn hp F uu rfl hk ok k
 | true=>
  refine iteT ?_
  walk_at "w"
  refine ⟨aB (by decide),fun Z hZ=>?_⟩
  have t1:Same H (upd H Z (.lst [])):=(Same.refl H).laid hZ
  have eZ:(upd H Z (.lst [])) Z=some (.lst ((([]:List RR).map RR.txt).map V.str)):=ag
  generalize upd H Z (.lst [])=H1 at*
  walk_at "w"
  exact pi (b:=false) (t1.seq hS) hn (t1 _ _ hp) F eZ rfl hk ok k
theorem vg {K:PySem.W.Frag} {c:RCl RK} {d:RCl PzK} {H:Hp} {Q:VK} {a p:Addr} {ns:List Int} {h w g:Int} (hS:SqL K H a (ns.map V.int)) (hn:ns.length≤63) (hp:IsFl H p h w g) (F:FlOk h w g) (hk:∀ k,k≠.Rule→c.ok k=true) (ok:d.ok .Puzzle=true) (k:∀ H',Q (.bl true) H'):
  lu K c d { nx:=fun _ H'=>Q .non H',rt:=Q } [some (.ref a),some (.ref p),some (.int (h*w)),none,none,none,none,none,none,none,none,none,none] H:=by
 obtain ⟨h0,h1,w0,w1,m16,g0,g6⟩:=id F
 have mpos:1≤h*w:=Int.le_trans (by omega) (Int.mul_le_mul h0 w0 (by omega) (by omega))
 have ne:cg h w≠[]:=fun e=>by
  have:=congrArg List.length e
  rw [List.length_range,List.length_nil] at this
  omega
 have cn:(cg h w).length≤16:=by rw [List.length_range]; omega
 unfold lu
 walk_at "w"
 refine ⟨wl,h*w,rfl,by omega,by omega,?_⟩
 refine mh (fun _=>true) (fun i=>V.str (tx (numC i))) (by omega) ?_ ?_ ?_
 · intro i H2 R hi s2 k2
   exact k2 _ (Same.refl _)
 · intro i H2 Q2 hi _ s2 k2
   have hil:i < (h*w).toNat:=hi
   rw [Int.zero_add]
   show tCB kStr _ [none,some (.int (i:Int))] H2 Q2
   walk_at "w"
   exact wS (H:=H2) (Q:=Q2) (by omega) (k2 _ (Same.refl _))
 · intro l H2 hl s2 el
   rw [List.filter_eq_self.mpr fun _ _=>rfl] at el
   have el2:H2 l=some (.lst ((((cg h w).map numC).map tx).map V.str)):=by rw [el,List.map_map,List.map_map]; rfl
   walk_at "w"
   refine wO el2 (ql (by simp; omega) (fun t ht=>by
    obtain ⟨z,hz,rfl⟩:=List.mem_map.mp ht
    obtain ⟨x,_,rfl⟩:=List.mem_map.mp hz
    rw [gp]; exact Nat.le_trans lS (by decide)) (by rw [gp]; decide)) ?_
   rw [vC,oG]
   refine strL (a:=nmC .Unlike++[32]) (b:=catL 32 ((cg h w).map numC)) (by decide) (by have:=rJ cn; omega) ?_
   rw [vb ne]
   walk_at "w"
   refine ⟨aB (by show (4:Nat)≤1000; decide),fun U hU=>?_⟩
   have t3:Same H2 (upd H2 U (.lst (((aU h w).map RR.txt).map V.str))):=(Same.refl H2).laid hU
   have eU:(upd H2 U (.lst (((aU h w).map RR.txt).map V.str))) U=some (.lst (((aU h w).map RR.txt).map V.str)):=ag
   generalize hHu:upd H2 U (.lst (((aU h w).map RR.txt).map V.str))=H3 at*
   have hHu':upd H2 U (.lst [V.str (tx (catL 32 (rowW .Unlike 0 0 (cg h w)))),V.str (tx [106,111,105,110,101,100,32,49]),V.str (tx [114,105,110,103,32,49]),V.str (tx [110,111,115,113,117,97,114,101,32,49])])=H3:=hHu
   rw [hHu']
   have s3:=s2.trans t3
   exact vf (s3.seq hS) hn (s3 _ _ hp) F eU hk ok k
theorem yf {K:PySem.W.Frag} {c:RCl RK} {d:RCl PzK} {vs:List V} {H:Hp} {Q:VK} {E:XK} (h:qV K c d vs H Q E):oi K c d { nx:=fun _ H'=>Q .non H',rt:=Q } (start ["_law_script","_law_floor_here","_law_many","_law_lines","_law_k","_law_clues","_law_puzzle","_law_masks_here","_law_number","_law_thought","_law_due","_law_within","_law_bent_here"] vs) H:=by
 obtain ⟨a,ns,rfl,hS,hn,hk,ok,k⟩:=h
 show oi K c d _ [some (.ref a),none,none,none,none,none,none,none,none,none,none,none,none] H
 unfold oi
 walk_at "w"
 refine ⟨a,ns,0,rfl,hS,hn,by decide,by decide,?_⟩
 refine ⟨_,rfl,fun p H1 h w g s1 hp0 hp F=>?_⟩
 obtain ⟨h0,h1,w0,w1,m16,g0,g6⟩:=id F
 walk_at "w"
 refine ixT hp (v:=V.int h) rfl ?_
 walk_at "w"
 refine ixT hp (v:=V.int w) rfl ?_
 walk_at "w"
 refine ⟨fJ h0 h1,?_⟩
 exact vg (s1.seq hS) hn hp F hk ok k
end L2
namespace L2
open PySem PySem.Spec PyProof.Rows
section
variable {P:Program} {w:World} {K:PySem.W.Frag} {mg:Str→Option Value} {base:Heap} {k:Nat} {x qual y:Str} {st:Stmt} {f:Addr} {fd:FuncData} {sp:Sp}
theorem ky {a0:Str} (F:Fun K x qual st f fd) (h:∀ (kV doc pm:Value) (an:Option Addr) (cdv ct u0:Value),bindArgs (PySem.W.fnOf x qual (br st) (bo st) (ah st) .none kV doc pm an cdv ct) ⟨[u0],[]⟩=pure (([a0]:List Str).zip [u0]):=by intros; rfl):Binds K fd [a0] []:=F.binds fun _ _ _ _ _ _ us hl=>match us,hl with | [u0],_=>h _ _ _ _ _ _ _
theorem lw {a0:Str} (T:FnOk P w K mg base CX0 k f fd [a0] sp) (F:Fun K x qual st f fd) (hm:mg y=some (.ref f)) (h:∀ (kV doc pm:Value) (an:Option Addr) (cdv ct u0:Value),bindArgs (PySem.W.fnOf x qual (br st) (bo st) (ah st) .none kV doc pm an cdv ct) ⟨[u0],[]⟩=pure (([a0]:List Str).zip [u0]):=by intros; rfl):Cal P w K mg base k y [a0] sp:=⟨f,fd,T,hm,F.kp,ky F h⟩
theorem yC {a0 a1:Str} (F:Fun K x qual st f fd) (h:∀ (kV doc pm:Value) (an:Option Addr) (cdv ct u0 u1:Value),bindArgs (PySem.W.fnOf x qual (br st) (bo st) (ah st) .none kV doc pm an cdv ct) ⟨[u0,u1],[]⟩=pure (([a0,a1]:List Str).zip [u0,u1]):=by intros; rfl):Binds K fd [a0,a1] []:=F.binds fun _ _ _ _ _ _ us hl=>match us,hl with | [u0,u1],_=>h _ _ _ _ _ _ _ _
theorem cx {a0 a1:Str} (T:FnOk P w K mg base CX0 k f fd [a0,a1] sp) (F:Fun K x qual st f fd) (hm:mg y=some (.ref f)) (h:∀ (kV doc pm:Value) (an:Option Addr) (cdv ct u0 u1:Value),bindArgs (PySem.W.fnOf x qual (br st) (bo st) (ah st) .none kV doc pm an cdv ct) ⟨[u0,u1],[]⟩=pure (([a0,a1]:List Str).zip [u0,u1]):=by intros; rfl):Cal P w K mg base k y [a0,a1] sp:=⟨f,fd,T,hm,F.kp,yC F h⟩
theorem yD {a0 a1 a2:Str} (F:Fun K x qual st f fd) (h:∀ (kV doc pm:Value) (an:Option Addr) (cdv ct u0 u1 u2:Value),bindArgs (PySem.W.fnOf x qual (br st) (bo st) (ah st) .none kV doc pm an cdv ct) ⟨[u0,u1,u2],[]⟩=pure (([a0,a1,a2]:List Str).zip [u0,u1,u2]):=by intros; rfl):Binds K fd [a0,a1,a2] []:=F.binds fun _ _ _ _ _ _ us hl=>match us,hl with | [u0,u1,u2],_=>h _ _ _ _ _ _ _ _ _
theorem g8 {a0 a1 a2:Str} (T:FnOk P w K mg base CX0 k f fd [a0,a1,a2] sp) (F:Fun K x qual st f fd) (hm:mg y=some (.ref f)) (h:∀ (kV doc pm:Value) (an:Option Addr) (cdv ct u0 u1 u2:Value),bindArgs (PySem.W.fnOf x qual (br st) (bo st) (ah st) .none kV doc pm an cdv ct) ⟨[u0,u1,u2],[]⟩=pure (([a0,a1,a2]:List Str).zip [u0,u1,u2]):=by intros; rfl):Cal P w K mg base k y [a0,a1,a2] sp:=⟨f,fd,T,hm,F.kp,yD F h⟩
theorem wp {a0 a1 a2 a3:Str} (F:Fun K x qual st f fd) (h:∀ (kV doc pm:Value) (an:Option Addr) (cdv ct u0 u1 u2 u3:Value),bindArgs (PySem.W.fnOf x qual (br st) (bo st) (ah st) .none kV doc pm an cdv ct) ⟨[u0,u1,u2,u3],[]⟩=pure (([a0,a1,a2,a3]:List Str).zip [u0,u1,u2,u3]):=by intros; rfl):Binds K fd [a0,a1,a2,a3] []:=F.binds fun _ _ _ _ _ _ us hl=>match us,hl with | [u0,u1,u2,u3],_=>h _ _ _ _ _ _ _ _ _ _
theorem we {a0 a1 a2 a3:Str} (T:FnOk P w K mg base CX0 k f fd [a0,a1,a2,a3] sp) (F:Fun K x qual st f fd) (hm:mg y=some (.ref f)) (h:∀ (kV doc pm:Value) (an:Option Addr) (cdv ct u0 u1 u2 u3:Value),bindArgs (PySem.W.fnOf x qual (br st) (bo st) (ah st) .none kV doc pm an cdv ct) ⟨[u0,u1,u2,u3],[]⟩=pure (([a0,a1,a2,a3]:List Str).zip [u0,u1,u2,u3]):=by intros; rfl):Cal P w K mg base k y [a0,a1,a2,a3] sp:=⟨f,fd,T,hm,F.kp,wp F h⟩
theorem yE {a0 a1 a2 a3 a4:Str} (F:Fun K x qual st f fd) (h:∀ (kV doc pm:Value) (an:Option Addr) (cdv ct u0 u1 u2 u3 u4:Value),bindArgs (PySem.W.fnOf x qual (br st) (bo st) (ah st) .none kV doc pm an cdv ct) ⟨[u0,u1,u2,u3,u4],[]⟩=pure (([a0,a1,a2,a3,a4]:List Str).zip [u0,u1,u2,u3,u4]):=by intros; rfl):Binds K fd [a0,a1,a2,a3,a4] []:=F.binds fun _ _ _ _ _ _ us hl=>match us,hl with | [u0,u1,u2,u3,u4],_=>h _ _ _ _ _ _ _ _ _ _ _
theorem tF {a0 a1 a2 a3 a4:Str} (T:FnOk P w K mg base CX0 k f fd [a0,a1,a2,a3,a4] sp) (F:Fun K x qual st f fd) (hm:mg y=some (.ref f)) (h:∀ (kV doc pm:Value) (an:Option Addr) (cdv ct u0 u1 u2 u3 u4:Value),bindArgs (PySem.W.fnOf x qual (br st) (bo st) (ah st) .none kV doc pm an cdv ct) ⟨[u0,u1,u2,u3,u4],[]⟩=pure (([a0,a1,a2,a3,a4]:List Str).zip [u0,u1,u2,u3,u4]):=by intros; rfl):Cal P w K mg base k y [a0,a1,a2,a3,a4] sp:=⟨f,fd,T,hm,F.kp,yE F h⟩
theorem wq {a0 a1 a2 a3 a4 a5:Str} (F:Fun K x qual st f fd) (h:∀ (kV doc pm:Value) (an:Option Addr) (cdv ct u0 u1 u2 u3 u4 u5:Value),bindArgs (PySem.W.fnOf x qual (br st) (bo st) (ah st) .none kV doc pm an cdv ct) ⟨[u0,u1,u2,u3,u4,u5],[]⟩=pure (([a0,a1,a2,a3,a4,a5]:List Str).zip [u0,u1,u2,u3,u4,u5]):=by intros; rfl):Binds K fd [a0,a1,a2,a3,a4,a5] []:=F.binds fun _ _ _ _ _ _ us hl=>match us,hl with | [u0,u1,u2,u3,u4,u5],_=>h _ _ _ _ _ _ _ _ _ _ _ _
theorem tG {a0 a1 a2 a3 a4 a5:Str} (T:FnOk P w K mg base CX0 k f fd [a0,a1,a2,a3,a4,a5] sp) (F:Fun K x qual st f fd) (hm:mg y=some (.ref f)) (h:∀ (kV doc pm:Value) (an:Option Addr) (cdv ct u0 u1 u2 u3 u4 u5:Value),bindArgs (PySem.W.fnOf x qual (br st) (bo st) (ah st) .none kV doc pm an cdv ct) ⟨[u0,u1,u2,u3,u4,u5],[]⟩=pure (([a0,a1,a2,a3,a4,a5]:List Str).zip [u0,u1,u2,u3,u4,u5]):=by intros; rfl):Cal P w K mg base k y [a0,a1,a2,a3,a4,a5] sp:=⟨f,fd,T,hm,F.kp,wq F h⟩
end
end L2
namespace L2
open PySem PySem.Spec PyProof.Rows
def top (i:Nat):Stmt:=PySem.Challenge.pw_cluemaker_k32_thoughts_of_no_form.main.body.getD i (.Pass ⟨0,0,0,0⟩)
def mtop (i j:Nat):Stmt:=match top i with
 | .ClassDef _ _ _ body _ _ _ _ _ _ _=>body.getD j (.Pass ⟨0,0,0,0⟩)
 | s=>s
abbrev kz:Stmt:=top 10
theorem sc_is_whole:ax ["value"] ["value"] (ah kz):=⟨rfl,rfl,rfl,by decide+kernel,rfl,by decide+kernel,by decide+kernel⟩
set_option maxHeartbeats 4000000 in
theorem rK {P:Program} {w:World} {K:PySem.W.Frag} {mg:Str→Option Value} {base:Heap} (B:Bt2 mg) {f:Addr} {fd:FuncData} (F:Fun K "is_whole" "is_whole" kz f fd):FnOk P w K mg base CX0 1 f fd ["value"] (aR K):=by
 refine F.ok sc_is_whole (fun vs H Q E h=>pG h) (fun cdv A outer s H vs Q E hr h=>?_)
 have hu:=hr.units
 have nd:=sc_is_whole.nd
 refine ⟨cD K,?_,pH h⟩
 exact (af (ak (ba (aC df rfl B.isinstance_ bN (ab (pv 0) (ab (fI (v:=.ty "int") rfl B.int_ uv rfl) ad))) (bA (xm (aC df rfl B.isinstance_ bN (ab (pv 0) (ab (fI (v:=.ty "bool") rfl B.bool_ rZ rfl) ad))))))))
abbrev jm:Stmt:=top 13
theorem sc_many_cells:ax ["floor"] ["floor"] (ah jm):=⟨rfl,rfl,rfl,by decide+kernel,rfl,by decide+kernel,by decide+kernel⟩
set_option maxHeartbeats 4000000 in
theorem pI {P:Program} {w:World} {K:PySem.W.Frag} {mg:Str→Option Value} {base:Heap} (B:Bt2 mg) {f:Addr} {fd:FuncData} (F:Fun K "many_cells" "many_cells" jm f fd):FnOk P w K mg base CX0 1 f fd ["floor"] (aQ K):=by
 refine F.ok sc_many_cells (fun vs H Q E h=>pr h) (fun cdv A outer s H vs Q E hr h=>?_)
 have hu:=hr.units
 have nd:=sc_many_cells.nd
 refine ⟨fw K,?_,pw h⟩
 exact (af (ak (ap bG (ai (au hu) (pv 0) ac (fun _ _=>rfl)) (ai (au hu) (pv 0) ac (fun _ _=>rfl)))))
abbrev lx:Stmt:=top 14
theorem sc_spot_of:ax ["floor","cell","wide"] ["floor","cell"] (ah lx):=⟨rfl,rfl,rfl,by decide+kernel,rfl,by decide+kernel,by decide+kernel⟩
set_option maxHeartbeats 4000000 in
theorem tH {P:Program} {w:World} {K:PySem.W.Frag} {mg:Str→Option Value} {base:Heap} (B:Bt2 mg) {f:Addr} {fd:FuncData} (F:Fun K "spot_of" "spot_of" lx f fd):FnOk P w K mg base CX0 1 f fd ["floor","cell"] (cI K):=by
 refine F.ok sc_spot_of (fun vs H Q E h=>sI h) (fun cdv A outer s H vs Q E hr h=>?_)
 have hu:=hr.units
 have nd:=sc_spot_of.nd
 refine ⟨iR K,?_,sJ h⟩
 exact (ae (ay (i:=2) nd rfl (Or.inl rfl) (ai (au hu) (pv 0) ac (fun _ _=>rfl)))
   (af (ak (cE (ab (ap bv (pv 1) (pv 2)) (ab (ap aN (pv 1) (pv 2)) ad))))))
abbrev jG:Stmt:=top 17
theorem sc_square_at:ax ["floor","corner","below"] ["floor","corner"] (ah jG):=⟨rfl,rfl,rfl,by decide+kernel,rfl,by decide+kernel,by decide+kernel⟩
set_option maxHeartbeats 4000000 in
theorem qX {P:Program} {w:World} {K:PySem.W.Frag} {mg:Str→Option Value} {base:Heap} (B:Bt2 mg) {f:Addr} {fd:FuncData} (F:Fun K "square_at" "square_at" jG f fd):FnOk P w K mg base CX0 1 f fd ["floor","corner"] (cZ K):=by
 refine F.ok sc_square_at (fun vs H Q E h=>qt h) (fun cdv A outer s H vs Q E hr h=>?_)
 have hu:=hr.units
 have nd:=sc_square_at.nd
 refine ⟨gr K,?_,qu h⟩
 exact (ae (ay (i:=2) nd rfl (Or.inl rfl) (ap aL (pv 1) (ai (au hu) (pv 0) ac (fun _ _=>rfl))))
   (af (ak (aK (ab (pv 1) (ab (ap aL (pv 1) ac) (ab (pv 2) (ab (ap aL (pv 2) ac) ad))))))))
abbrev mQ:Stmt:=top 21
theorem sc_bit_of:ax ["sign","bit","step"] ["sign"] (ah mQ):=⟨rfl,rfl,rfl,by decide+kernel,rfl,by decide+kernel,by decide+kernel⟩
set_option maxHeartbeats 4000000 in
theorem vh {P:Program} {w:World} {K:PySem.W.Frag} {mg:Str→Option Value} {base:Heap} (B:Bt2 mg) {f:Addr} {fd:FuncData} (F:Fun K "bit_of" "bit_of" mQ f fd):FnOk P w K mg base CX0 1 f fd ["sign"] (fO K):=by
 refine F.ok sc_bit_of (fun vs H Q E h=>uQ h) (fun cdv A outer s H vs Q E hr h=>?_)
 have hu:=hr.units
 have nd:=sc_bit_of.nd
 refine ⟨jA K,?_,uR h⟩
 exact (ae (ay (i:=1) nd rfl (Or.inl rfl) ac)
   (ae (kO PassesOwn.never rfl (ee rfl B.range_ (ab (ap bF (pv 0) ac) ad)) (aM (i:=2) nd rfl (Or.inl rfl))
   (af (ay (i:=1) nd rfl (Or.inl rfl) (ap bG (pv 1) ac))))
   (af (ak (pv 1)))))
abbrev mR:Stmt:=top 22
theorem sc_stands:ax ["mask","sign"] ["mask","sign"] (ah mR):=⟨rfl,rfl,rfl,by decide+kernel,rfl,by decide+kernel,by decide+kernel⟩
set_option maxHeartbeats 4000000 in
theorem vi {P:Program} {w:World} {K:PySem.W.Frag} {mg:Str→Option Value} {base:Heap} (B:Bt2 mg) {f:Addr} {fd:FuncData} (F:Fun K "stands" "stands" mR f fd):FnOk P w K mg base CX0 1 f fd ["mask","sign"] (bO K):=by
 refine F.ok sc_stands (fun vs H Q E h=>uO h) (fun cdv A outer s H vs Q E hr h=>?_)
 have hu:=hr.units
 have nd:=sc_stands.nd
 refine ⟨jz K,?_,uP h⟩
 exact (af (ak (ba (aG iv ac (pv 1) (aj _)) (ba (aG iv (pv 1) (ui PySem.F.plainAttrs_int PySem.F.slot_int_bit_length PySem.F.type_int_bit_length nk (pv 0)) (aj _)) (bA (aG (aF hu) (ap aN (ap wI (pv 0) (ap bF (pv 1) ac)) ac) ac (aj _)))))))
abbrev kA:Stmt:=top 37
theorem sc_masks_at:ax ["masks","cells"] ["masks","cells"] (ah kA):=⟨rfl,rfl,rfl,by decide+kernel,rfl,by decide+kernel,by decide+kernel⟩
set_option maxHeartbeats 4000000 in
theorem rL {P:Program} {w:World} {K:PySem.W.Frag} {mg:Str→Option Value} {base:Heap} (B:Bt2 mg) {f:Addr} {fd:FuncData} (F:Fun K "masks_at" "masks_at" kA f fd):FnOk P w K mg base CX0 1 f fd ["masks","cells"] (bp K):=by
 refine F.ok sc_masks_at (fun vs H Q E h=>rE h) (fun cdv A outer s H vs Q E hr h=>?_)
 have hu:=hr.units
 have nd:=sc_masks_at.nd
 refine ⟨iq K,?_,rF h⟩
 exact (af (ak (bS (ix:=[none,none,some 0]) [".0","cell","masks"] (bd rfl (by decide+kernel) rfl rfl rfl) rfl (bE (pv 1)) (fun cl s H fp=>(aM (i:=1) (show ([".0","cell","masks"]:List Str).Nodup by decide+kernel) rfl (Or.inl rfl))) (fun cl s H fp=>dD) (fun cl s H fp=>(ai (au hu) (pv 2) (pv 1) (fun _ _=>rfl))))))
abbrev g9:Stmt:=top 42
theorem sc_clue_strikes:ax ["clues","cell","sign","more"] ["clues","cell","sign","more"] (ah g9):=⟨rfl,rfl,rfl,by decide+kernel,rfl,by decide+kernel,by decide+kernel⟩
set_option maxHeartbeats 4000000 in
theorem oj {P:Program} {w:World} {K:PySem.W.Frag} {mg:Str→Option Value} {base:Heap} (B:Bt2 mg) {f:Addr} {fd:FuncData} (F:Fun K "clue_strikes" "clue_strikes" g9 f fd):FnOk P w K mg base CX0 1 f fd ["clues","cell","sign","more"] (b9 K):=by
 refine F.ok sc_clue_strikes (fun vs H Q E h=>nQ h) (fun cdv A outer s H vs Q E hr h=>?_)
 have hu:=hr.units
 have nd:=sc_clue_strikes.nd
 refine ⟨d4 K,?_,nR h⟩
 exact (af (ak (ba (aG (aF hu) (pv 3) (aK ad) (aj _)) (ba (aG (aZ hu) (ai (au hu) (pv 0) (pv 1) (fun _ _=>rfl)) ac (aj _)) (bA (aG (aZ hu) (ai (au hu) (pv 0) (pv 1) (fun _ _=>rfl)) (pv 2) (aj _)))))))
abbrev dN:Stmt:=top 50
theorem sc_are_told_in_order:ax ["cells","more"] ["cells","more"] (ah dN):=⟨rfl,rfl,rfl,by decide+kernel,rfl,by decide+kernel,by decide+kernel⟩
set_option maxHeartbeats 4000000 in
theorem kB {P:Program} {w:World} {K:PySem.W.Frag} {mg:Str→Option Value} {base:Heap} (B:Bt2 mg) {f:Addr} {fd:FuncData} (F:Fun K "are_told_in_order" "are_told_in_order" dN f fd):FnOk P w K mg base CX0 1 f fd ["cells","more"] (bg K):=by
 refine F.ok sc_are_told_in_order (fun vs H Q E h=>kn h) (fun cdv A outer s H vs Q E hr h=>?_)
 have hu:=hr.units
 have nd:=sc_are_told_in_order.nd
 refine ⟨ck K,?_,ko h⟩
 exact (ae (az (PW.pt (cy (ao (aZ hu) (aC aS rfl B.len_ bc (ab (pv 1) ad)) ac (aj _)) (cy (ao (ei hu) (ai (au hu) (pv 1) ac (fun _ _=>rfl)) (pv 0) (by with_unfolding_all rfl)) (cV (ao (ei hu) (ai (au hu) (pv 1) ac (fun _ _=>rfl)) (pv 0) (by with_unfolding_all rfl)))))) (af (ak b6)) ar)
   (af (ak (aG dz (dg PySem.F.plainAttrs_list PySem.F.slot_list_index PySem.F.type_list_index (o7 hu) (pv 0) (ab (ai (au hu) (pv 1) ac (fun _ _=>rfl)) ad)) (dg PySem.F.plainAttrs_list PySem.F.slot_list_index PySem.F.type_list_index (o7 hu) (pv 0) (ab (ai (au hu) (pv 1) ac (fun _ _=>rfl)) ad)) (aj _)))))
abbrev gE:Stmt:=mtop 75 0
theorem sc_Rule___init__:ax ["self","floor","words","cells","amount","mark"] ["self","floor","words","cells","amount","mark"] (ah gE):=⟨rfl,rfl,rfl,by decide+kernel,rfl,by decide+kernel,by decide+kernel⟩
set_option maxHeartbeats 4000000 in
theorem mS {P:Program} {w:World} {K:PySem.W.Frag} {mg:Str→Option Value} {base:Heap} (B:Bt2 mg) {c:RCl RK} (FK_c_amount:FldK K c "amount") (FK_c_cells:FldK K c "cells") (FK_c_floor:FldK K c "floor") (FK_c_mark:FldK K c "mark") (FK_c_words:FldK K c "words") {f:Addr} {fd:FuncData} (F:Fun K "__init__" "Rule.__init__" gE f fd):FnOk P w K mg base CX0 1 f fd ["self","floor","words","cells","amount","mark"] (av K c):=by
 refine F.ok sc_Rule___init__ (fun vs H Q E h=>mC h) (fun cdv A outer s H vs Q E hr h=>?_)
 have hu:=hr.units
 have nd:=sc_Rule___init__.nd
 refine ⟨dl K c,?_,mD h⟩
 exact (ae (fM (pv 0) (pv 1) FK_c_floor)
   (ae (fM (pv 0) (de mi rfl B.tuple_ ka (ab (pv 2) ad)) FK_c_words)
   (ae (fM (pv 0) (de mi rfl B.tuple_ ka (ab (pv 3) ad)) FK_c_cells)
   (ae (fM (pv 0) (pv 4) FK_c_amount)
   (af (fM (pv 0) (pv 5) FK_c_mark))))))
abbrev jH:Stmt:=mtop 75 1
theorem sc_Rule_name:ax ["self"] ["self"] (ah jH):=⟨rfl,rfl,rfl,by decide+kernel,rfl,by decide+kernel,by decide+kernel⟩
set_option maxHeartbeats 4000000 in
theorem qY {P:Program} {w:World} {K:PySem.W.Frag} {mg:Str→Option Value} {base:Heap} (B:Bt2 mg) {c:RCl RK} (FK_c_words:FldK K c "words") {f:Addr} {fd:FuncData} (F:Fun K "name" "Rule.name" jH f fd):FnOk P w K mg base CX0 1 f fd ["self"] (gs K c):=by
 refine F.ok sc_Rule_name (fun vs H Q E h=>qv h) (fun cdv A outer s H vs Q E hr h=>?_)
 have hu:=hr.units
 have nd:=sc_Rule_name.nd
 refine ⟨gt K c,?_,qw h⟩
 exact (af (ak (ai (au hu) (fL (pv 0) FK_c_words) ac (fun _ _=>rfl))))
abbrev jn:Stmt:=mtop 75 2
theorem sc_Rule_spots:ax ["self"] ["self"] (ah jn):=⟨rfl,rfl,rfl,by decide+kernel,rfl,by decide+kernel,by decide+kernel⟩
set_option maxHeartbeats 4000000 in
theorem pJ {P:Program} {w:World} {K:PySem.W.Frag} {mg:Str→Option Value} {base:Heap} (B:Bt2 mg) {c:RCl RK} (FK_c_cells:FldK K c "cells") {f:Addr} {fd:FuncData} (F:Fun K "spots" "Rule.spots" jn f fd):FnOk P w K mg base CX0 1 f fd ["self"] (fz K c):=by
 refine F.ok sc_Rule_spots (fun vs H Q E h=>px h) (fun cdv A outer s H vs Q E hr h=>?_)
 have hu:=hr.units
 have nd:=sc_Rule_spots.nd
 refine ⟨fA K c,?_,pA h⟩
 exact (af (ak (de iB rfl B.list_ gN (ab (fL (pv 0) FK_c_cells) ad))))
abbrev jI:Stmt:=mtop 75 4
theorem sc_Rule_sign:ax ["self"] ["self"] (ah jI):=⟨rfl,rfl,rfl,by decide+kernel,rfl,by decide+kernel,by decide+kernel⟩
set_option maxHeartbeats 4000000 in
theorem qZ {P:Program} {w:World} {K:PySem.W.Frag} {mg:Str→Option Value} {base:Heap} (B:Bt2 mg) {c:RCl RK} (FK_c_mark:FldK K c "mark") {f:Addr} {fd:FuncData} (F:Fun K "sign" "Rule.sign" jI f fd):FnOk P w K mg base CX0 1 f fd ["self"] (gu K c):=by
 refine F.ok sc_Rule_sign (fun vs H Q E h=>qx h) (fun cdv A outer s H vs Q E hr h=>?_)
 have hu:=hr.units
 have nd:=sc_Rule_sign.nd
 refine ⟨gw K c,?_,qy h⟩
 exact (af (ak (fL (pv 0) FK_c_mark)))
abbrev jJ:Stmt:=top 91
theorem sc_number_in:ax ["word"] ["word"] (ah jJ):=⟨rfl,rfl,rfl,by decide+kernel,rfl,by decide+kernel,by decide+kernel⟩
set_option maxHeartbeats 4000000 in
theorem q5 {P:Program} {w:World} {K:PySem.W.Frag} {mg:Str→Option Value} {base:Heap} (B:Bt2 mg) {t_FIGURES:Tok} (Cz:mg "FIGURES"=some (.str (tx [48,49,50,51,52,53,54,55,56,57]) t_FIGURES)) {t_MOST_FIGURES:Tok} (AJ:mg "MOST_FIGURES"=some (.int 9 t_MOST_FIGURES)) {f:Addr} {fd:FuncData} (F:Fun K "number_in" "number_in" jJ f fd):FnOk P w K mg base CX0 1 f fd ["word"] (c5 K):=by
 refine F.ok sc_number_in (fun vs H Q E h=>qz h) (fun cdv A outer s H vs Q E hr h=>?_)
 have hu:=hr.units
 have nd:=sc_number_in.nd
 refine ⟨gx K,?_,qA h⟩
 exact (ae (az (PW.pt (cy (ao (aF hu) (pv 0) aI (aj _)) (cy (ao eh (aC aS rfl B.len_ bc (ab (pv 0) ad)) (cU rfl AJ ⟨t_MOST_FIGURES,rfl⟩) (aj _)) (cV (PW.pt (kM (ao (aF hu) (ai (au hu) (pv 0) ac (fun _ _=>rfl)) aI (aj _)) (jQ (ao (aZ hu) (pv 0) aI (aj _))))))))) (af (ak pV)) ar)
   (ae (az (bq (aW (aC (jv rfl) rfl B.all_ nn (ab (bS (ix:=[none,none]) [".0","figure"] (bd rfl (by decide+kernel) rfl rfl rfl) rfl (xK (pv 0)) (fun cl s H fp=>(aM (i:=1) (show ([".0","figure"]:List Str).Nodup by decide+kernel) rfl (Or.inl rfl))) (fun cl s H fp=>dD) (fun cl s H fp=>(aG (kW hu) (pv 1) (cU rfl Cz ⟨t_FIGURES,rfl⟩) (by with_unfolding_all rfl)))) ad)))) (af (ak pV)) ar)
   (af (ak (de sL rfl B.int_ uv (ab (pv 0) ad))))))
abbrev hE:Stmt:=mtop 104 1
theorem sc_Puzzle_place:ax ["self"] ["self"] (ah hE):=⟨rfl,rfl,rfl,by decide+kernel,rfl,by decide+kernel,by decide+kernel⟩
set_option maxHeartbeats 4000000 in
theorem om {P:Program} {w:World} {K:PySem.W.Frag} {mg:Str→Option Value} {base:Heap} (B:Bt2 mg) {c:RCl RK} {d:RCl PzK} (FK_d_floor:FldK K d "floor") {f:Addr} {fd:FuncData} (F:Fun K "place" "Puzzle.place" hE f fd):FnOk P w K mg base CX0 1 f fd ["self"] (dU K c d):=by
 refine F.ok sc_Puzzle_place (fun vs H Q E h=>nH h) (fun cdv A outer s H vs Q E hr h=>?_)
 have hu:=hr.units
 have nd:=sc_Puzzle_place.nd
 refine ⟨dW K c d,?_,nI h⟩
 exact (af (ak (fL (pv 0) FK_d_floor)))
abbrev hJ:Stmt:=mtop 104 3
theorem sc_Puzzle_clues:ax ["self"] ["self"] (ah hJ):=⟨rfl,rfl,rfl,by decide+kernel,rfl,by decide+kernel,by decide+kernel⟩
set_option maxHeartbeats 4000000 in
theorem on {P:Program} {w:World} {K:PySem.W.Frag} {mg:Str→Option Value} {base:Heap} (B:Bt2 mg) {c:RCl RK} {d:RCl PzK} (FK_d_given:FldK K d "given") {f:Addr} {fd:FuncData} (F:Fun K "clues" "Puzzle.clues" hJ f fd):FnOk P w K mg base CX0 1 f fd ["self"] (dX K c d):=by
 refine F.ok sc_Puzzle_clues (fun vs H Q E h=>nJ h) (fun cdv A outer s H vs Q E hr h=>?_)
 have hu:=hr.units
 have nd:=sc_Puzzle_clues.nd
 refine ⟨dY K c d,?_,nK h⟩
 exact (af (ak (de iB rfl B.list_ gN (ab (fL (pv 0) FK_d_given) ad))))
abbrev hV:Stmt:=mtop 104 4
theorem sc_Puzzle_rules:ax ["self"] ["self"] (ah hV):=⟨rfl,rfl,rfl,by decide+kernel,rfl,by decide+kernel,by decide+kernel⟩
set_option maxHeartbeats 4000000 in
theorem oq {P:Program} {w:World} {K:PySem.W.Frag} {mg:Str→Option Value} {base:Heap} (B:Bt2 mg) {c:RCl RK} {d:RCl PzK} (FK_d_laws:FldK K d "laws") {f:Addr} {fd:FuncData} (F:Fun K "rules" "Puzzle.rules" hV f fd):FnOk P w K mg base CX0 1 f fd ["self"] (dZ K c d):=by
 refine F.ok sc_Puzzle_rules (fun vs H Q E h=>nL h) (fun cdv A outer s H vs Q E hr h=>?_)
 have hu:=hr.units
 have nd:=sc_Puzzle_rules.nd
 refine ⟨d2 K c d,?_,nO h⟩
 exact (af (ak (de iB rfl B.list_ gN (ab (fL (pv 0) FK_d_laws) ad))))
abbrev hX:Stmt:=top 106
theorem sc__law_cell_at:ax ["_law_script","_law_k","_law_number"] ["_law_script","_law_k"] (ah hX):=⟨rfl,rfl,rfl,by decide+kernel,rfl,by decide+kernel,by decide+kernel⟩
set_option maxHeartbeats 4000000 in
theorem or {P:Program} {w:World} {K:PySem.W.Frag} {mg:Str→Option Value} {base:Heap} (B:Bt2 mg) {f:Addr} {fd:FuncData} (F:Fun K "_law_cell_at" "_law_cell_at" hX f fd):FnOk P w K mg base CX0 1 f fd ["_law_script","_law_k"] (aV K):=by
 refine F.ok sc__law_cell_at (fun vs H Q E h=>nV h) (fun cdv A outer s H vs Q E hr h=>?_)
 have hu:=hr.units
 have nd:=sc__law_cell_at.nd
 refine ⟨d6 K,?_,nX h⟩
 exact (ae (az (ao (aF hu) (aC fV rfl B.len_ bc (ab (pv 0) ad)) ac (aj _)) (af (ak (ap aN (ap aL (ap bG (ap bG (pv 1) (pv 1)) ac) (ap bG ac (pv 1))) ac))) ar)
   (ae (ay (i:=2) nd rfl (Or.inl rfl) (ap aN (ai rW (pv 0) (ap aN (pv 1) (aC fV rfl B.len_ bc (ab (pv 0) ad))) (fun _ _=>rfl)) ac))
   (ae (az (ao dz (pv 1) (aC fV rfl B.len_ bc (ab (pv 0) ad)) (aj _)) (af (ak (pv 2))) ar)
   (af (ak (ap aN (ap aL (ap bG (pv 2) ac) (ap bG (ap bG (pv 1) (pv 1)) ac)) ac))))))
abbrev jo:Stmt:=top 107
theorem sc__law_floor:ax ["_law_cell","_law_high","_law_wide"] ["_law_cell"] (ah jo):=⟨rfl,rfl,rfl,by decide+kernel,rfl,by decide+kernel,by decide+kernel⟩
set_option maxHeartbeats 4000000 in
theorem pK {P:Program} {w:World} {K:PySem.W.Frag} {mg:Str→Option Value} {base:Heap} (B:Bt2 mg) {f:Addr} {fd:FuncData} (F:Fun K "_law_floor" "_law_floor" jo f fd):FnOk P w K mg base CX0 1 f fd ["_law_cell"] (cb K):=by
 refine F.ok sc__law_floor (fun vs H Q E h=>nY h) (fun cdv A outer s H vs Q E hr h=>?_)
 have hu:=hr.units
 have nd:=sc__law_floor.nd
 refine ⟨d7 K,?_,nZ h⟩
 exact (ae (ay (i:=1) nd rfl (Or.inl rfl) (ap aL ac (ap aN (pv 0) ac)))
   (ae (ay (i:=2) nd rfl (Or.inl rfl) (ap aL ac (ap aN (ap bv (pv 0) ac) (aC (kX rfl) rfl B.min_ qd (ab ac (ab (ap bv ac (pv 1)) ad))))))
   (af (ak (cE (ab (pv 1) (ab (pv 2) (ab (ap aL ac (ap aN (ap bv (pv 0) ac) ac)) ad))))))))
abbrev gF:Stmt:=top 111
theorem sc__law_straight:ax ["_law_number","_law_floor_here","_law_many","_law_cell","_law_sign","_law_found","_law_one","_law_some","_law_row","_law_column"] ["_law_number","_law_floor_here"] (ah gF):=⟨rfl,rfl,rfl,by decide+kernel,rfl,by decide+kernel,by decide+kernel⟩
set_option maxHeartbeats 4000000 in
theorem mT {P:Program} {w:World} {K:PySem.W.Frag} {mg:Str→Option Value} {base:Heap} (B:Bt2 mg) {f:Addr} {fd:FuncData} (F:Fun K "_law_straight" "_law_straight" gF f fd):FnOk P w K mg base CX0 1 f fd ["_law_number","_law_floor_here"] (bx K):=by
 refine F.ok sc__law_straight (fun vs H Q E h=>ln h) (fun cdv A outer s H vs Q E hr h=>?_)
 have hu:=hr.units
 have nd:=sc__law_straight.nd
 refine ⟨cM K,?_,lp h⟩
 exact (ae (ay (i:=2) nd rfl (Or.inl rfl) (ap bG (ai (au hu) (pv 1) ac (fun _ _=>rfl)) (ai (au hu) (pv 1) ac (fun _ _=>rfl))))
   (ae (ay (i:=3) nd rfl (Or.inr rfl) (ap aN (pv 0) (pv 2)))
   (ae (ay (i:=4) nd rfl (Or.inl rfl) (ap aL ac (ap aN (ap bv (pv 0) ac) (ai (au hu) (pv 1) ac (fun _ _=>rfl)))))
   (ae (ay (i:=5) nd rfl (Or.inl rfl) (aK (ab (cE (ab aI (ab ac (ab (pv 3) (ab ac (ab (aK ad) ad)))))) (ab (cE (ab aI (ab ac (ab (pv 3) (ab (ap bF (ap aL ac (ai (au hu) (pv 1) ac (fun _ _=>rfl))) (pv 4)) (ab (aK ad) ad)))))) ad))))
   (ae (az (ao eh (pv 2) ac (aj _)) (ae (ay (i:=6) nd rfl (Or.inl rfl) (ap aN (ap aL (ap aL (pv 3) ac) (ap aN (ap bv (pv 0) ac) (ap bF (pv 2) ac))) (pv 2)))
   (ae (cW (dg PySem.F.plainAttrs_list PySem.F.slot_list_append PySem.F.type_list_append bC (pv 5) (ab (cE (ab aI (ab ac (ab (pv 3) (ab (pv 4) (ab (aK (ab (pv 6) ad)) ad)))))) ad)))
   (ae (cW (dg PySem.F.plainAttrs_list PySem.F.slot_list_append PySem.F.type_list_append bC (pv 5) (ab (cE (ab aI (ab ac (ab (pv 3) (ab ac (ab (aK (ab (pv 6) ad)) ad)))))) ad)))
   (af (az (ao (aF hu) (pv 2) (ai (au hu) (pv 1) ac (fun _ _=>rfl)) (aj _)) (af (cW (dg PySem.F.plainAttrs_list PySem.F.slot_list_append PySem.F.type_list_append bC (pv 5) (ab (cE (ab aI (ab ac (ab (pv 3) (ab (pv 4) (ab (aK (ab (ap aL ac (ap aN (pv 4) (ai (au hu) (pv 1) ac (fun _ _=>rfl)))) ad)) ad)))))) ad)))) ar))))) ar)
   (ae (az (ao eh (pv 2) ac (aj _)) (ae (jS (k:=7) nd rfl (Or.inl rfl) rfl (ix:=[none,none,some 3]) [".0","_law_one","_law_cell"] (bd rfl (by decide+kernel) rfl rfl rfl) rfl (ee rfl B.range_ (ab (pv 2) ad)) (fun cl s H fp=>(aM (i:=1) (show ([".0","_law_one","_law_cell"]:List Str).Nodup by decide+kernel) rfl (Or.inl rfl))) (fun cl s H fp=>(dE (ao (aZ hu) (pv 1) (pv 2) (aj _)))) (fun cl s H fp=>(pv 1)))
   (ae (ay (i:=6) nd rfl (Or.inl rfl) (ap aN (ap bv (pv 0) ac) (ap bF (pv 2) ac)))
   (ae (cW (dg PySem.F.plainAttrs_list PySem.F.slot_list_append PySem.F.type_list_append bC (pv 5) (ab (cE (ab aI (ab ac (ab (pv 3) (ab (pv 4) (ab (aK (ab (ai (au hu) (pv 7) (pv 6) (fun _ _=>rfl)) (ab (ai (au hu) (pv 7) (ap aL (pv 6) ac) (fun _ _=>rfl)) ad))) ad)))))) ad)))
   (af (cW (dg PySem.F.plainAttrs_list PySem.F.slot_list_append PySem.F.type_list_append bC (pv 5) (ab (cE (ab aI (ab ac (ab (pv 3) (ab (ap aL ac (ap aN (pv 4) (ai (au hu) (pv 1) ac (fun _ _=>rfl)))) (ab (aK (ab (ai (au hu) (pv 7) (ap aL (pv 6) ac) (fun _ _=>rfl)) (ab (ai (au hu) (pv 7) (pv 6) (fun _ _=>rfl)) ad))) ad)))))) ad))))))) ar)
   (ae (az (PW.pt (kM (ao eh (ai (au hu) (pv 1) ac (fun _ _=>rfl)) ac (aj _)) (jQ (ao eh (ai (au hu) (pv 1) ac (fun _ _=>rfl)) ac (aj _))))) (ae (ay (i:=8) nd rfl (Or.inl rfl) (aC (kX rfl) rfl B.min_ qd (ab (ap bv (pv 3) (ai (au hu) (pv 1) ac (fun _ _=>rfl))) (ab (ap bF (ai (au hu) (pv 1) ac (fun _ _=>rfl)) ac) ad))))
   (ae (ay (i:=9) nd rfl (Or.inl rfl) (aC (kX rfl) rfl B.min_ qd (ab (ap aN (pv 3) (ai (au hu) (pv 1) ac (fun _ _=>rfl))) (ab (ap bF (ai (au hu) (pv 1) ac (fun _ _=>rfl)) ac) ad))))
   (af (cW (dg PySem.F.plainAttrs_list PySem.F.slot_list_append PySem.F.type_list_append bC (pv 5) (ab (cE (ab aI (ab ac (ab (pv 3) (ab ac (ab (aK (ab (ap aL (ap bG (pv 8) (ai (au hu) (pv 1) ac (fun _ _=>rfl))) (pv 9)) ad)) ad)))))) ad)))))) ar)
   (af (ak (pv 5))))))))))
abbrev jK:Stmt:=top 112
theorem sc__law_bent:ax ["_law_thought","_law_number","_law_floor_here","_law_kind","_law_rule","_law_cell","_law_sign","_law_more","_law_far","_law_way","_law_odd"] ["_law_thought","_law_number","_law_floor_here"] (ah jK):=⟨rfl,rfl,rfl,by decide+kernel,rfl,by decide+kernel,by decide+kernel⟩
set_option maxHeartbeats 4000000 in
theorem ra {P:Program} {w:World} {K:PySem.W.Frag} {mg:Str→Option Value} {base:Heap} (B:Bt2 mg) {f:Addr} {fd:FuncData} (F:Fun K "_law_bent" "_law_bent" jK f fd):FnOk P w K mg base CX0 1 f fd ["_law_thought","_law_number","_law_floor_here"] (cr K):=by
 refine F.ok sc__law_bent (fun vs H Q E h=>oR h) (fun cdv A outer s H vs Q E hr h=>?_)
 have hu:=hr.units
 have nd:=sc__law_bent.nd
 refine ⟨fe K,?_,oS h⟩
 exact (ae (xo (pv 0) (xn rfl (i8 (aM (i:=3) nd rfl (Or.inl rfl)) (i8 (aM (i:=4) nd rfl (Or.inl rfl)) (i8 (aM (i:=5) nd rfl (Or.inl rfl)) (i8 (aM (i:=6) nd rfl (Or.inl rfl)) (i8 (aM (i:=7) nd rfl (Or.inl rfl)) wt)))))))
   (ae (ay (i:=8) nd rfl (Or.inl rfl) (ap aL ac (ap aN (ap bG (ap bG (ap bv (pv 1) ac) (pv 1)) (pv 1)) (ap wG ac ac))))
   (ae (ay (i:=9) nd rfl (Or.inl rfl) (ap aN (pv 1) ac))
   (ae (ay (i:=10) nd rfl (Or.inl rfl) (ai (au hu) (aK (ab (yi xx ac) (ab (pv 8) (ab (ap bF ac (pv 8)) ad)))) (ap aN (ap bv (pv 1) ac) ac) (fun _ _=>rfl)))
   (ae (az (ao (aF hu) (pv 9) ac (aj _)) (af (ay (i:=5) nd rfl (Or.inl rfl) (ai (au hu) (aK (ab (pv 10) (ab (ap bG (ai (au hu) (pv 2) ac (fun _ _=>rfl)) (ai (au hu) (pv 2) ac (fun _ _=>rfl))) ad))) (ap aN (ap bv (pv 1) ac) ac) (fun _ _=>rfl)))) ar)
   (ae (az (ao (aF hu) (pv 9) ac (aj _)) (af (ay (i:=6) nd rfl (Or.inl rfl) (ai (au hu) (aK (ab (pv 10) (ab ac (ab (ap aL (ai (au hu) (pv 2) ac (fun _ _=>rfl)) ac) ad)))) (ap aN (ap bv (pv 1) ac) ac) (fun _ _=>rfl)))) ar)
   (ae (az (ao (aF hu) (pv 9) ac (aj _)) (af (ay (i:=4) nd rfl (Or.inl rfl) (ai (au hu) (aK (ab (pv 10) (ab ac ad))) (ap aN (ap bv (pv 1) ac) ac) (fun _ _=>rfl)))) ar)
   (ae (az (ao (aF hu) (pv 9) ac (aj _)) (af (ay (i:=3) nd rfl (Or.inl rfl) (ai (au hu) (aK (ab aI (ab aI (ab aI (ab aI (ab aI (ab aI ad))))))) (ap aN (ap bv (pv 1) ac) ac) (fun _ _=>rfl)))) ar)
   (ae (az (ao (aF hu) (pv 9) ac (aj _)) (af (ay (i:=7) nd rfl (Or.inl rfl) (ap aL (pv 7) (ai (au hu) (aK (ab (aK (ab (cE (ab aI (ab ac (ab ac (ab ac (ab (aK ad) ad)))))) ad)) (ab (aK (ab (pv 8) ad)) (ab (aK (ab (pv 10) (ab (pv 10) (ab (pv 10) ad)))) (ab (aK (ab ac (ab ac (ab ac ad)))) ad))))) (ap aN (ap bv (pv 1) ac) ac) (fun _ _=>rfl))))) ar)
   (ae (az (ao (aF hu) (pv 9) ac (aj _)) (ae (ay (i:=5) nd rfl (Or.inl rfl) (ai (au hu) (aK (ab (pv 10) (ab (ap bG (ai (au hu) (pv 2) ac (fun _ _=>rfl)) (ai (au hu) (pv 2) ac (fun _ _=>rfl))) ad))) (ap aN (ap bv (pv 1) ac) ac) (fun _ _=>rfl)))
   (af (ay (i:=6) nd rfl (Or.inl rfl) (ai (au hu) (aK (ab (pv 10) (ab ac (ab (ap aL (ai (au hu) (pv 2) ac (fun _ _=>rfl)) ac) ad)))) (ap aN (ap bv (pv 1) ac) ac) (fun _ _=>rfl))))) ar)
   (af (ak (cE (ab (pv 3) (ab (pv 4) (ab (pv 5) (ab (pv 6) (ab (pv 7) ad))))))))))))))))))
abbrev fF:Stmt:=top 11
theorem sc_is_from_one_to:ax ["value","most"] ["value","most"] (ah fF):=⟨rfl,rfl,rfl,by decide+kernel,rfl,by decide+kernel,by decide+kernel⟩
set_option maxHeartbeats 4000000 in
theorem l7 {P:Program} {w:World} {K:PySem.W.Frag} {mg:Str→Option Value} {base:Heap} (B:Bt2 mg) (yW:Cal P w K mg base 1 "is_whole" ["value"] (aR K)) {f:Addr} {fd:FuncData} (F:Fun K "is_from_one_to" "is_from_one_to" fF f fd):FnOk P w K mg base CX0 2 f fd ["value","most"] (aT K):=by
 refine F.ok sc_is_from_one_to (fun vs H Q E h=>lV h) (fun cdv A outer s H vs Q E hr h=>?_)
 have hu:=hr.units
 have nd:=sc_is_from_one_to.nd
 refine ⟨cz K,?_,kL h⟩
 exact (af (ak (ba (am yW hr (by decide) rfl (ab (pv 0) ad)) (ba (aG iv ac (pv 0) (aj _)) (bA (aG iv (pv 0) (pv 1) (aj _)))))))
abbrev mU:Stmt:=top 15
theorem sc_beside:ax ["floor","cell","high","wide","spot","found"] ["floor","cell"] (ah mU):=⟨rfl,rfl,rfl,by decide+kernel,rfl,by decide+kernel,by decide+kernel⟩
set_option maxHeartbeats 4000000 in
theorem vj {P:Program} {w:World} {K:PySem.W.Frag} {mg:Str→Option Value} {base:Heap} (B:Bt2 mg) (Am:Cal P w K mg base 1 "spot_of" ["floor","cell"] (cI K)) {f:Addr} {fd:FuncData} (F:Fun K "beside" "beside" mU f fd):FnOk P w K mg base CX0 2 f fd ["floor","cell"] (b4 K):=by
 refine F.ok sc_beside (fun vs H Q E h=>uC h) (fun cdv A outer s H vs Q E hr h=>?_)
 have hu:=hr.units
 have nd:=sc_beside.nd
 refine ⟨jw K,?_,uD h⟩
 exact (ae (ay (i:=2) nd rfl (Or.inl rfl) (ai (au hu) (pv 0) ac (fun _ _=>rfl)))
   (ae (ay (i:=3) nd rfl (Or.inl rfl) (ai (au hu) (pv 0) ac (fun _ _=>rfl)))
   (ae (ay (i:=4) nd rfl (Or.inl rfl) (am Am hr (by decide) rfl (ab (pv 0) (ab (pv 1) ad))))
   (ae (ay (i:=5) nd rfl (Or.inl rfl) (aK ad))
   (ae (az (ao eh (ai (au hu) (pv 4) ac (fun _ _=>rfl)) ac (aj _)) (af (cW (dg PySem.F.plainAttrs_list PySem.F.slot_list_append PySem.F.type_list_append bC (pv 5) (ab (ap bF (pv 1) (pv 3)) ad)))) ar)
   (ae (az (ao eh (ai (au hu) (pv 4) ac (fun _ _=>rfl)) ac (aj _)) (af (cW (dg PySem.F.plainAttrs_list PySem.F.slot_list_append PySem.F.type_list_append bC (pv 5) (ab (ap bF (pv 1) ac) ad)))) ar)
   (ae (az (ao dz (ai (au hu) (pv 4) ac (fun _ _=>rfl)) (ap bF (pv 3) ac) (aj _)) (af (cW (dg PySem.F.plainAttrs_list PySem.F.slot_list_append PySem.F.type_list_append bC (pv 5) (ab (ap aL (pv 1) ac) ad)))) ar)
   (ae (az (ao dz (ai (au hu) (pv 4) ac (fun _ _=>rfl)) (ap bF (pv 2) ac) (aj _)) (af (cW (dg PySem.F.plainAttrs_list PySem.F.slot_list_append PySem.F.type_list_append bC (pv 5) (ab (ap aL (pv 1) (pv 3)) ad)))) ar)
   (af (ak (pv 5)))))))))))
abbrev jL:Stmt:=top 16
theorem sc_is_corner:ax ["floor","cell","spot"] ["floor","cell"] (ah jL):=⟨rfl,rfl,rfl,by decide+kernel,rfl,by decide+kernel,by decide+kernel⟩
set_option maxHeartbeats 4000000 in
theorem rb {P:Program} {w:World} {K:PySem.W.Frag} {mg:Str→Option Value} {base:Heap} (B:Bt2 mg) (Am:Cal P w K mg base 1 "spot_of" ["floor","cell"] (cI K)) {f:Addr} {fd:FuncData} (F:Fun K "is_corner" "is_corner" jL f fd):FnOk P w K mg base CX0 2 f fd ["floor","cell"] (cY K):=by
 refine F.ok sc_is_corner (fun vs H Q E h=>qq h) (fun cdv A outer s H vs Q E hr h=>?_)
 have hu:=hr.units
 have nd:=sc_is_corner.nd
 refine ⟨gq K,?_,qr h⟩
 exact (ae (ay (i:=2) nd rfl (Or.inl rfl) (am Am hr (by decide) rfl (ab (pv 0) (ab (pv 1) ad))))
   (af (ak (ba (aG dz (ai (au hu) (pv 2) ac (fun _ _=>rfl)) (ap bF (ai (au hu) (pv 0) ac (fun _ _=>rfl)) ac) (aj _)) (bA (aG dz (ai (au hu) (pv 2) ac (fun _ _=>rfl)) (ap bF (ai (au hu) (pv 0) ac (fun _ _=>rfl)) ac) (aj _)))))))
abbrev ly:Stmt:=top 23
theorem sc_without:ax ["mask","sign"] ["mask","sign"] (ah ly):=⟨rfl,rfl,rfl,by decide+kernel,rfl,by decide+kernel,by decide+kernel⟩
set_option maxHeartbeats 4000000 in
theorem tI {P:Program} {w:World} {K:PySem.W.Frag} {mg:Str→Option Value} {base:Heap} (B:Bt2 mg) (Du:Cal P w K mg base 1 "bit_of" ["sign"] (fO K)) (y7:Cal P w K mg base 1 "stands" ["mask","sign"] (bO K)) {f:Addr} {fd:FuncData} (F:Fun K "without" "without" ly f fd):FnOk P w K mg base CX0 2 f fd ["mask","sign"] (fb K):=by
 refine F.ok sc_without (fun vs H Q E h=>sR h) (fun cdv A outer s H vs Q E hr h=>?_)
 have hu:=hr.units
 have nd:=sc_without.nd
 refine ⟨iV K,?_,sS h⟩
 exact (af (ak (vo (aW (am y7 hr (by decide) rfl (ab (pv 0) (ab (pv 1) ad)))) (ap bF (pv 0) (am Du hr (by decide) rfl (ab (pv 1) ad))) (pv 0))))
abbrev kC:Stmt:=top 25
theorem sc_signs_in:ax ["mask"] ["mask"] (ah kC):=⟨rfl,rfl,rfl,by decide+kernel,rfl,by decide+kernel,by decide+kernel⟩
set_option maxHeartbeats 4000000 in
theorem rM {P:Program} {w:World} {K:PySem.W.Frag} {mg:Str→Option Value} {base:Heap} (B:Bt2 mg) (y7:Cal P w K mg base 1 "stands" ["mask","sign"] (bO K)) {f:Addr} {fd:FuncData} (F:Fun K "signs_in" "signs_in" kC f fd):FnOk P w K mg base CX0 2 f fd ["mask"] (dI K):=by
 refine F.ok sc_signs_in (fun vs H Q E h=>rC h) (fun cdv A outer s H vs Q E hr h=>?_)
 have hu:=hr.units
 have nd:=sc_signs_in.nd
 refine ⟨ip K,?_,rD h⟩
 exact (af (ak (bS (ix:=[none,none,some 0]) [".0","sign","mask"] (bd rfl (by decide+kernel) rfl rfl rfl) rfl (tW rfl B.range_ (ab ac (ab (ap aL (ui PySem.F.plainAttrs_int PySem.F.slot_int_bit_length PySem.F.type_int_bit_length nk (pv 0)) ac) ad))) (fun cl s H fp=>(aM (i:=1) (show ([".0","sign","mask"]:List Str).Nodup by decide+kernel) rfl (Or.inl rfl))) (fun cl s H fp=>(dE (aW (am y7 hr (by decide) rfl (ab (pv 2) (ab (pv 1) ad)))))) (fun cl s H fp=>(pv 1)))))
abbrev lz:Stmt:=top 31
theorem sc_is_cell:ax ["floor","value"] ["floor","value"] (ah lz):=⟨rfl,rfl,rfl,by decide+kernel,rfl,by decide+kernel,by decide+kernel⟩
set_option maxHeartbeats 4000000 in
theorem tJ {P:Program} {w:World} {K:PySem.W.Frag} {mg:Str→Option Value} {base:Heap} (B:Bt2 mg) (yW:Cal P w K mg base 1 "is_whole" ["value"] (aR K)) (yR:Cal P w K mg base 1 "many_cells" ["floor"] (aQ K)) {f:Addr} {fd:FuncData} (F:Fun K "is_cell" "is_cell" lz f fd):FnOk P w K mg base CX0 2 f fd ["floor","value"] (cK K):=by
 refine F.ok sc_is_cell (fun vs H Q E h=>sT h) (fun cdv A outer s H vs Q E hr h=>?_)
 have hu:=hr.units
 have nd:=sc_is_cell.nd
 refine ⟨gC K,?_,qP h⟩
 exact (af (ak (ba (am yW hr (by decide) rfl (ab (pv 1) ad)) (ba (aG iv ac (pv 1) (aj _)) (bA (aG dz (pv 1) (am yR hr (by decide) rfl (ab (pv 0) ad)) (aj _)))))))
abbrev lA:Stmt:=top 33
theorem sc_goes_by:ax ["kind","rule"] ["kind","rule"] (ah lA):=⟨rfl,rfl,rfl,by decide+kernel,rfl,by decide+kernel,by decide+kernel⟩
set_option maxHeartbeats 4000000 in
theorem tK {P:Program} {w:World} {K:PySem.W.Frag} {mg:Str→Option Value} {base:Heap} (B:Bt2 mg) {c:RCl RK} (Ew:MCal P w K mg base c c.ok 1 "name" ["self"] (lT K c)) (Ap:GDict w K mg "RULES_OF_KIND" gd_RULES_OF_KIND) {f:Addr} {fd:FuncData} (F:Fun K "goes_by" "goes_by" lA f fd):FnOk P w K mg base CX0 2 f fd ["kind","rule"] (fc K c):=by
 refine F.ok sc_goes_by (fun vs H Q E h=>sW h) (fun cdv A outer s H vs Q E hr h=>?_)
 have hu:=hr.units
 have nd:=sc_goes_by.nd
 refine ⟨iX K c,?_,sX h⟩
 exact (af (ak (wf (aG (aF hu) (pv 0) aI (aj _)) (bA (aG xW (bj Ew hr (by decide) (pv 1)) (xV Ap (pv 0) rfl (fun _ _=>rfl)) (by with_unfolding_all rfl))))))
abbrev mV:Stmt:=top 36
theorem sc_others:ax ["rule","cell"] ["rule","cell"] (ah mV):=⟨rfl,rfl,rfl,by decide+kernel,rfl,by decide+kernel,by decide+kernel⟩
set_option maxHeartbeats 4000000 in
theorem vk {P:Program} {w:World} {K:PySem.W.Frag} {mg:Str→Option Value} {base:Heap} (B:Bt2 mg) {c:RCl RK} (zJ:MCal P w K mg base c c.ok 1 "spots" ["self"] (eu K c)) {f:Addr} {fd:FuncData} (F:Fun K "others" "others" mV f fd):FnOk P w K mg base CX0 2 f fd ["rule","cell"] (bP K c):=by
 refine F.ok sc_others (fun vs H Q E h=>uS h) (fun cdv A outer s H vs Q E hr h=>?_)
 have hu:=hr.units
 have nd:=sc_others.nd
 refine ⟨jB K c,?_,uT h⟩
 exact (af (ak (bS (ix:=[none,none,some 1]) [".0","spot","cell"] (bd rfl (by decide+kernel) rfl rfl rfl) rfl (bE (bj zJ hr (by decide) (pv 0))) (fun cl s H fp=>(aM (i:=1) (show ([".0","spot","cell"]:List Str).Nodup by decide+kernel) rfl (Or.inl rfl))) (fun cl s H fp=>(dE (ao (aZ hu) (pv 1) (pv 2) (aj _)))) (fun cl s H fp=>(pv 1)))))
abbrev kD:Stmt:=top 39
theorem sc_many_may:ax ["some","sign"] ["some","sign"] (ah kD):=⟨rfl,rfl,rfl,by decide+kernel,rfl,by decide+kernel,by decide+kernel⟩
set_option maxHeartbeats 4000000 in
theorem rN {P:Program} {w:World} {K:PySem.W.Frag} {mg:Str→Option Value} {base:Heap} (B:Bt2 mg) (y7:Cal P w K mg base 1 "stands" ["mask","sign"] (bO K)) {f:Addr} {fd:FuncData} (F:Fun K "many_may" "many_may" kD f fd):FnOk P w K mg base CX0 2 f fd ["some","sign"] (b2 K):=by
 refine F.ok sc_many_may (fun vs H Q E h=>rG h) (fun cdv A outer s H vs Q E hr h=>?_)
 have hu:=hr.units
 have nd:=sc_many_may.nd
 refine ⟨iu K,?_,rH h⟩
 exact (af (ak (aC aS rfl B.len_ bc (ab (bS (ix:=[none,none,some 1]) [".0","mask","sign"] (bd rfl (by decide+kernel) rfl rfl rfl) rfl (bE (pv 0)) (fun cl s H fp=>(aM (i:=1) (show ([".0","mask","sign"]:List Str).Nodup by decide+kernel) rfl (Or.inl rfl))) (fun cl s H fp=>(dE (aW (am y7 hr (by decide) rfl (ab (pv 1) (ab (pv 2) ad)))))) (fun cl s H fp=>(pv 1))) ad))))
abbrev gG:Stmt:=top 92
theorem sc_number_within:ax ["word","least","most","number"] ["word","least","most"] (ah gG):=⟨rfl,rfl,rfl,by decide+kernel,rfl,by decide+kernel,by decide+kernel⟩
set_option maxHeartbeats 4000000 in
theorem mW {P:Program} {w:World} {K:PySem.W.Frag} {mg:Str→Option Value} {base:Heap} (B:Bt2 mg) (BK:Cal P w K mg base 1 "number_in" ["word"] (c5 K)) {f:Addr} {fd:FuncData} (F:Fun K "number_within" "number_within" gG f fd):FnOk P w K mg base CX0 2 f fd ["word","least","most"] (be K):=by
 refine F.ok sc_number_within (fun vs H Q E h=>mE h) (fun cdv A outer s H vs Q E hr h=>?_)
 have hu:=hr.units
 have nd:=sc_number_within.nd
 refine ⟨dm K,?_,mF h⟩
 exact (ae (ay (i:=3) nd rfl (Or.inl rfl) (am BK hr (by decide) rfl (ab (pv 0) ad)))
   (ae (az (PW.pt (cy (ao xy (pv 3) pV (aj _)) (cy (ao dz (pv 3) (pv 1) (aj _)) (cV (ao eh (pv 3) (pv 2) (aj _)))))) (af bB) ar)
   (af (ak (pv 3)))))
abbrev jp:Stmt:=top 102
theorem sc_is_filling:ax ["floor","filling","least"] ["floor","filling","least"] (ah jp):=⟨rfl,rfl,rfl,by decide+kernel,rfl,by decide+kernel,by decide+kernel⟩
set_option maxHeartbeats 4000000 in
theorem pL {P:Program} {w:World} {K:PySem.W.Frag} {mg:Str→Option Value} {base:Heap} (B:Bt2 mg) (yW:Cal P w K mg base 1 "is_whole" ["value"] (aR K)) (yR:Cal P w K mg base 1 "many_cells" ["floor"] (aQ K)) {f:Addr} {fd:FuncData} (F:Fun K "is_filling" "is_filling" jp f fd):FnOk P w K mg base CX0 2 f fd ["floor","filling","least"] (cC K):=by
 refine F.ok sc_is_filling (fun vs H Q E h=>pF h) (fun cdv A outer s H vs Q E hr h=>?_)
 have hu:=hr.units
 have nd:=sc_is_filling.nd
 refine ⟨ed K,?_,og h⟩
 exact (ae (az (PW.pt (cy (bq (aW (aC df rfl B.isinstance_ bN (ab (pv 1) (ab (fI (v:=.ty "list") rfl B.list_ gN rfl) ad))))) (cV (ao (aZ hu) (aC aS rfl B.len_ bc (ab (pv 1) ad)) (am yR hr (by decide) rfl (ab (pv 0) ad)) (aj _))))) (af (ak b6)) ar)
   (af (ak (aC (jv rfl) rfl B.all_ nn (ab (bS (ix:=[none,none,some 0,some 2]) [".0","sign","floor","least"] (bd rfl (by decide+kernel) rfl rfl rfl) rfl (bE (pv 1)) (fun cl s H fp=>(aM (i:=1) (show ([".0","sign","floor","least"]:List Str).Nodup by decide+kernel) rfl (Or.inl rfl))) (fun cl s H fp=>dD) (fun cl s H fp=>(ba (am yW hr (by decide) rfl (ab (pv 1) ad)) (ba (aG iv (pv 3) (pv 1) (aj _)) (bA (aG iv (pv 1) (ai (au hu) (pv 2) ac (fun _ _=>rfl)) (aj _))))))) ad)))))
abbrev kE:Stmt:=top 12
theorem sc_floor_of:ax ["high","wide","signs"] ["high","wide","signs"] (ah kE):=⟨rfl,rfl,rfl,by decide+kernel,rfl,by decide+kernel,by decide+kernel⟩
set_option maxHeartbeats 4000000 in
theorem rO {P:Program} {w:World} {K:PySem.W.Frag} {mg:Str→Option Value} {base:Heap} (B:Bt2 mg) (yZ:Cal P w K mg base 2 "is_from_one_to" ["value","most"] (aT K)) {t_MOST_CELLS:Tok} (Bq:mg "MOST_CELLS"=some (.int 16 t_MOST_CELLS)) {t_MOST_SIDE:Tok} (AZ:mg "MOST_SIDE"=some (.int 6 t_MOST_SIDE)) {t_MOST_SIGNS:Tok} (Br:mg "MOST_SIGNS"=some (.int 6 t_MOST_SIGNS)) {f:Addr} {fd:FuncData} (F:Fun K "floor_of" "floor_of" kE f fd):FnOk P w K mg base CX0 3 f fd ["high","wide","signs"] (dH K):=by
 refine F.ok sc_floor_of (fun vs H Q E h=>rq h) (fun cdv A outer s H vs Q E hr h=>?_)
 have hu:=hr.units
 have nd:=sc_floor_of.nd
 refine ⟨im K,?_,rz h⟩
 exact (ae (az (bq (aW (am yZ hr (by decide) rfl (ab (pv 0) (ab (cU rfl AZ ⟨t_MOST_SIDE,rfl⟩) ad))))) (af bB) ar)
   (ae (az (bq (aW (am yZ hr (by decide) rfl (ab (pv 1) (ab (cU rfl AZ ⟨t_MOST_SIDE,rfl⟩) ad))))) (af bB) ar)
   (ae (az (ao eh (ap bG (pv 0) (pv 1)) (cU rfl Bq ⟨t_MOST_CELLS,rfl⟩) (aj _)) (af bB) ar)
   (ae (az (bq (aW (am yZ hr (by decide) rfl (ab (pv 2) (ab (cU rfl Br ⟨t_MOST_SIGNS,rfl⟩) ad))))) (af bB) ar)
   (af (ak (cE (ab (pv 0) (ab (pv 1) (ab (pv 2) ad))))))))))
abbrev lB:Stmt:=top 18
theorem sc_squares:ax ["floor"] ["floor"] (ah lB):=⟨rfl,rfl,rfl,by decide+kernel,rfl,by decide+kernel,by decide+kernel⟩
set_option maxHeartbeats 4000000 in
theorem tL {P:Program} {w:World} {K:PySem.W.Frag} {mg:Str→Option Value} {base:Heap} (B:Bt2 mg) (BL:Cal P w K mg base 2 "is_corner" ["floor","cell"] (cY K)) (yR:Cal P w K mg base 1 "many_cells" ["floor"] (aQ K)) (BM:Cal P w K mg base 1 "square_at" ["floor","corner"] (cZ K)) {f:Addr} {fd:FuncData} (F:Fun K "squares" "squares" lB f fd):FnOk P w K mg base CX0 3 f fd ["floor"] (eV K):=by
 refine F.ok sc_squares (fun vs H Q E h=>sM h) (fun cdv A outer s H vs Q E hr h=>?_)
 have hu:=hr.units
 have nd:=sc_squares.nd
 refine ⟨iT K,?_,sN h⟩
 exact (af (ak (bS (ix:=[none,none,some 0]) [".0","cell","floor"] (bd rfl (by decide+kernel) rfl rfl rfl) rfl (ee rfl B.range_ (ab (am yR hr (by decide) rfl (ab (pv 0) ad)) ad)) (fun cl s H fp=>(aM (i:=1) (show ([".0","cell","floor"]:List Str).Nodup by decide+kernel) rfl (Or.inl rfl))) (fun cl s H fp=>(dE (aW (am BL hr (by decide) rfl (ab (pv 2) (ab (pv 1) ad)))))) (fun cl s H fp=>(am BM hr (by decide) rfl (ab (pv 2) (ab (pv 1) ad)))))))
abbrev lC:Stmt:=top 19
theorem sc_reached:ax ["floor","cells","start","found","place","cell"] ["floor","cells","start"] (ah lC):=⟨rfl,rfl,rfl,by decide+kernel,rfl,by decide+kernel,by decide+kernel⟩
set_option maxHeartbeats 4000000 in
theorem tM {P:Program} {w:World} {K:PySem.W.Frag} {mg:Str→Option Value} {base:Heap} (B:Bt2 mg) (y9:Cal P w K mg base 2 "beside" ["floor","cell"] (b4 K)) {f:Addr} {fd:FuncData} (F:Fun K "reached" "reached" lC f fd):FnOk P w K mg base CX0 3 f fd ["floor","cells","start"] (dv K):=by
 refine F.ok sc_reached (fun vs H Q E h=>sY h) (fun cdv A outer s H vs Q E hr h=>?_)
 have hu:=hr.units
 have nd:=sc_reached.nd
 refine ⟨iY K,?_,sZ h⟩
 exact (ae (az (ao (ei hu) (pv 2) (pv 1) (by with_unfolding_all rfl)) (af (ak (aK ad))) ar)
   (ae (ay (i:=3) nd rfl (Or.inl rfl) (aK (ab (pv 2) ad)))
   (ae (ay (i:=4) nd rfl (Or.inl rfl) ac)
   (ae (vp PassesOwn.never (ao dz (pv 4) (aC aS rfl B.len_ bc (ab (pv 3) ad)) (aj _))
   (ae (kO PassesOwn.never rfl (bE (am y9 hr (by decide) rfl (ab (pv 0) (ab (ai (au hu) (pv 3) (pv 4) (fun _ _=>rfl)) ad)))) (aM (i:=5) nd rfl (Or.inl rfl))
   (af (az (PW.pt (kM (ao (kW hu) (pv 5) (pv 1) (by with_unfolding_all rfl)) (jQ (ao (ei hu) (pv 5) (pv 3) (by with_unfolding_all rfl))))) (af (cW (dg PySem.F.plainAttrs_list PySem.F.slot_list_append PySem.F.type_list_append bC (pv 3) (ab (pv 5) ad)))) ar)))
   (af (ay (i:=4) nd rfl (Or.inl rfl) (ap aL (pv 4) ac)))))
   (af (ak (aC qc rfl B.sorted_ ut (ab (pv 3) ad))))))))
abbrev kF:Stmt:=top 24
theorem sc_has_only:ax ["mask","sign"] ["mask","sign"] (ah kF):=⟨rfl,rfl,rfl,by decide+kernel,rfl,by decide+kernel,by decide+kernel⟩
set_option maxHeartbeats 4000000 in
theorem rP {P:Program} {w:World} {K:PySem.W.Frag} {mg:Str→Option Value} {base:Heap} (B:Bt2 mg) (CA:Cal P w K mg base 2 "without" ["mask","sign"] (fb K)) {f:Addr} {fd:FuncData} (F:Fun K "has_only" "has_only" kF f fd):FnOk P w K mg base CX0 3 f fd ["mask","sign"] (bf K):=by
 refine F.ok sc_has_only (fun vs H Q E h=>rA h) (fun cdv A outer s H vs Q E hr h=>?_)
 have hu:=hr.units
 have nd:=sc_has_only.nd
 refine ⟨io K,?_,rB h⟩
 exact (af (ak (aG (aF hu) (am CA hr (by decide) rfl (ab (pv 0) (ab (pv 1) ad))) ac (aj _))))
abbrev lD:Stmt:=top 32
theorem sc_is_sign:ax ["floor","value"] ["floor","value"] (ah lD):=⟨rfl,rfl,rfl,by decide+kernel,rfl,by decide+kernel,by decide+kernel⟩
set_option maxHeartbeats 4000000 in
theorem tN {P:Program} {w:World} {K:PySem.W.Frag} {mg:Str→Option Value} {base:Heap} (B:Bt2 mg) (yZ:Cal P w K mg base 2 "is_from_one_to" ["value","most"] (aT K)) {f:Addr} {fd:FuncData} (F:Fun K "is_sign" "is_sign" lD f fd):FnOk P w K mg base CX0 3 f fd ["floor","value"] (cL K):=by
 refine F.ok sc_is_sign (fun vs H Q E h=>sU h) (fun cdv A outer s H vs Q E hr h=>?_)
 have hu:=hr.units
 have nd:=sc_is_sign.nd
 refine ⟨iW K,?_,sV h⟩
 exact (af (ak (am yZ hr (by decide) rfl (ab (pv 1) (ab (ai (au hu) (pv 0) ac (fun _ _=>rfl)) ad)))))
abbrev h9:Stmt:=top 34
theorem sc_has_its_rule:ax ["puzzle","kind","number","cell","rules"] ["puzzle","kind","number","cell"] (ah h9):=⟨rfl,rfl,rfl,by decide+kernel,rfl,by decide+kernel,by decide+kernel⟩
set_option maxHeartbeats 4000000 in
theorem ot {P:Program} {w:World} {K:PySem.W.Frag} {mg:Str→Option Value} {base:Heap} (B:Bt2 mg) {c:RCl RK} {d:RCl PzK} (CB:Cal P w K mg base 2 "goes_by" ["kind","rule"] (fc K c)) (yW:Cal P w K mg base 1 "is_whole" ["value"] (aR K)) (zK:MCal P w K mg base d d.ok 1 "rules" ["self"] (eE K c d)) (zJ:MCal P w K mg base c c.ok 1 "spots" ["self"] (eu K c)) {f:Addr} {fd:FuncData} (F:Fun K "has_its_rule" "has_its_rule" h9 f fd):FnOk P w K mg base CX0 3 f fd ["puzzle","kind","number","cell"] (b8 K c d):=by
 refine F.ok sc_has_its_rule (fun vs H Q E h=>nP h) (fun cdv A outer s H vs Q E hr h=>?_)
 have hu:=hr.units
 have nd:=sc_has_its_rule.nd
 refine ⟨cT K c d,?_,l0 h⟩
 exact (ae (az (PW.pt (cy (bq (aW (am yW hr (by decide) rfl (ab (pv 2) ad)))) (cV (ao dz (pv 2) ac (aj _))))) (af (ak b6)) ar)
   (ae (az (ao (aF hu) (pv 1) aI (aj _)) (af (ak (aG (aF hu) (pv 2) ac (aj _)))) ar)
   (ae (ay (i:=4) nd rfl (Or.inl rfl) (bj zK hr (by decide) (pv 0)))
   (ae (az (ao up (pv 2) (aC aS rfl B.len_ bc (ab (pv 4) ad)) (aj _)) (af (ak b6)) ar)
   (af (ak (ba (am CB hr (by decide) rfl (ab (pv 1) (ab (ai (au hu) (pv 4) (pv 2) (fun _ _=>rfl)) ad))) (bA (aG (kW hu) (pv 3) (bj zJ hr (by decide) (ai (au hu) (pv 4) (pv 2) (fun _ _=>rfl))) (by with_unfolding_all rfl))))))))))
abbrev ia:Stmt:=top 51
theorem sc_pair_strikes:ax ["rule","masks","cell","sign","more","together"] ["rule","masks","cell","sign","more"] (ah ia):=⟨rfl,rfl,rfl,by decide+kernel,rfl,by decide+kernel,by decide+kernel⟩
set_option maxHeartbeats 4000000 in
theorem ou {P:Program} {w:World} {K:PySem.W.Frag} {mg:Str→Option Value} {base:Heap} (B:Bt2 mg) {c:RCl RK} (zf:Cal P w K mg base 1 "are_told_in_order" ["cells","more"] (bg K)) (y8:Cal P w K mg base 2 "others" ["rule","cell"] (bP K c)) (BQ:Cal P w K mg base 2 "signs_in" ["mask"] (dI K)) {f:Addr} {fd:FuncData} (F:Fun K "pair_strikes" "pair_strikes" ia f fd):FnOk P w K mg base CX0 3 f fd ["rule","masks","cell","sign","more"] (ce K c):=by
 refine F.ok sc_pair_strikes (fun vs H Q E h=>n4 h) (fun cdv A outer s H vs Q E hr h=>?_)
 have hu:=hr.units
 have nd:=sc_pair_strikes.nd
 refine ⟨d8 K c,?_,n5 h⟩
 exact (ae (az (bq (aW (am zf hr (by decide) rfl (ab (am y8 hr (by decide) rfl (ab (pv 0) (ab (pv 2) ad))) (ab (pv 4) ad))))) (af (ak b6)) ar)
   (ae (ay (i:=5) nd rfl (Or.inl rfl) (am BQ hr (by decide) rfl (ab (ap xL (ai (au hu) (pv 1) (ai (au hu) (pv 4) ac (fun _ _=>rfl)) (fun _ _=>rfl)) (ai (au hu) (pv 1) (ai (au hu) (pv 4) ac (fun _ _=>rfl)) (fun _ _=>rfl))) ad)))
   (af (ak (aG iv (aC aS rfl B.len_ bc (ab (bS (ix:=[none,none,some 3]) [".0","other","sign"] (bd rfl (by decide+kernel) rfl rfl rfl) rfl (bE (pv 5)) (fun cl s H fp=>(aM (i:=1) (show ([".0","other","sign"]:List Str).Nodup by decide+kernel) rfl (Or.inl rfl))) (fun cl s H fp=>(dE (ao (aZ hu) (pv 1) (pv 2) (aj _)))) (fun cl s H fp=>(pv 1))) ad)) ac (aj _))))))
abbrev mX:Stmt:=top 67
theorem sc_around:ax ["floor","middle","cell"] ["floor","middle","cell"] (ah mX):=⟨rfl,rfl,rfl,by decide+kernel,rfl,by decide+kernel,by decide+kernel⟩
set_option maxHeartbeats 4000000 in
theorem vm {P:Program} {w:World} {K:PySem.W.Frag} {mg:Str→Option Value} {base:Heap} (B:Bt2 mg) (y9:Cal P w K mg base 2 "beside" ["floor","cell"] (b4 K)) {f:Addr} {fd:FuncData} (F:Fun K "around" "around" mX f fd):FnOk P w K mg base CX0 3 f fd ["floor","middle","cell"] (fP K):=by
 refine F.ok sc_around (fun vs H Q E h=>u6 h) (fun cdv A outer s H vs Q E hr h=>?_)
 have hu:=hr.units
 have nd:=sc_around.nd
 refine ⟨jC K,?_,u7 h⟩
 exact (af (ak (bS (ix:=[none,none,some 2]) [".0","other","cell"] (bd rfl (by decide+kernel) rfl rfl rfl) rfl (bE (am y9 hr (by decide) rfl (ab (pv 0) (ab (pv 1) ad)))) (fun cl s H fp=>(aM (i:=1) (show ([".0","other","cell"]:List Str).Nodup by decide+kernel) rfl (Or.inl rfl))) (fun cl s H fp=>(dE (ao (aZ hu) (pv 1) (pv 2) (aj _)))) (fun cl s H fp=>(pv 1)))))
abbrev ib:Stmt:=top 93
theorem sc_first_within:ax ["words","least","most"] ["words","least","most"] (ah ib):=⟨rfl,rfl,rfl,by decide+kernel,rfl,by decide+kernel,by decide+kernel⟩
set_option maxHeartbeats 4000000 in
theorem ow {P:Program} {w:World} {K:PySem.W.Frag} {mg:Str→Option Value} {base:Heap} (B:Bt2 mg) (y4:Cal P w K mg base 2 "number_within" ["word","least","most"] (be K)) {f:Addr} {fd:FuncData} (F:Fun K "first_within" "first_within" ib f fd):FnOk P w K mg base CX0 3 f fd ["words","least","most"] (bn K):=by
 refine F.ok sc_first_within (fun vs H Q E h=>nB h) (fun cdv A outer s H vs Q E hr h=>?_)
 have hu:=hr.units
 have nd:=sc_first_within.nd
 refine ⟨dR K,?_,nD h⟩
 exact (ae (az (ao (aF hu) (pv 0) (aK ad) (aj _)) (af bB) ar)
   (af (ak (am y4 hr (by decide) rfl (ab (ai (au hu) (pv 0) ac (fun _ _=>rfl)) (ab (pv 1) (ab (pv 2) ad)))))))
abbrev jq:Stmt:=top 94
theorem sc_told_cells:ax ["floor","words","cells"] ["floor","words"] (ah jq):=⟨rfl,rfl,rfl,by decide+kernel,rfl,by decide+kernel,by decide+kernel⟩
set_option maxHeartbeats 4000000 in
theorem pM {P:Program} {w:World} {K:PySem.W.Frag} {mg:Str→Option Value} {base:Heap} (B:Bt2 mg) (yR:Cal P w K mg base 1 "many_cells" ["floor"] (aQ K)) (y4:Cal P w K mg base 2 "number_within" ["word","least","most"] (be K)) {f:Addr} {fd:FuncData} (F:Fun K "told_cells" "told_cells" jq f fd):FnOk P w K mg base CX0 3 f fd ["floor","words"] (cA K):=by
 refine F.ok sc_told_cells (fun vs H Q E h=>pB h) (fun cdv A outer s H vs Q E hr h=>?_)
 have hu:=hr.units
 have nd:=sc_told_cells.nd
 refine ⟨fB K,?_,pC h⟩
 exact (ae (jS (k:=2) nd rfl (Or.inl rfl) rfl (ix:=[none,none,some 0]) [".0","word","floor"] (bd rfl (by decide+kernel) rfl rfl rfl) rfl (bE (pv 1)) (fun cl s H fp=>(aM (i:=1) (show ([".0","word","floor"]:List Str).Nodup by decide+kernel) rfl (Or.inl rfl))) (fun cl s H fp=>dD) (fun cl s H fp=>(am y4 hr (by decide) rfl (ab (pv 1) (ab ac (ab (ap bF (am yR hr (by decide) rfl (ab (pv 2) ad)) ac) ad))))))
   (ae (az (ao (aF hu) (pv 2) (aK ad) (aj _)) (af bB) ar)
   (ae (az (ao (aZ hu) (uH rfl rfl rfl B.len_ B.set_ (pv 2)) (aC aS rfl B.len_ bc (ab (pv 2) ad)) (aj _)) (af bB) ar)
   (af (ak (pv 2))))))
abbrev lE:Stmt:=top 96
theorem sc_rule_by:ax ["floor","words","cells","amount","mark","name"] ["floor","words","cells","amount","mark"] (ah lE):=⟨rfl,rfl,rfl,by decide+kernel,rfl,by decide+kernel,by decide+kernel⟩
set_option maxHeartbeats 4000000 in
theorem tO {P:Program} {w:World} {K:PySem.W.Frag} {mg:Str→Option Value} {base:Heap} (B:Bt2 mg) {c:RCl RK} (D7:KCal P w K mg base 1 "Count" (c.A .Count) ["self","floor","words","cells","amount","mark"] (av K c)) (Dv:KCal P w K mg base 1 "Joined" (c.A .Joined) ["self","floor","words","cells","amount","mark"] (av K c)) (BR:KCal P w K mg base 1 "NoSquare" (c.A .NoSquare) ["self","floor","words","cells","amount","mark"] (av K c)) (Ex:KCal P w K mg base 1 "Ring" (c.A .Ring) ["self","floor","words","cells","amount","mark"] (av K c)) (Dw:KCal P w K mg base 1 "Rising" (c.A .Rising) ["self","floor","words","cells","amount","mark"] (av K c)) (Ey:KCal P w K mg base 1 "Seen" (c.A .Seen) ["self","floor","words","cells","amount","mark"] (av K c)) (K_Sum:KCal P w K mg base 1 "Sum" (c.A .Sum) ["self","floor","words","cells","amount","mark"] (av K c)) (Dx:KCal P w K mg base 1 "Unlike" (c.A .Unlike) ["self","floor","words","cells","amount","mark"] (av K c)) {f:Addr} {fd:FuncData} (F:Fun K "rule_by" "rule_by" lE f fd):FnOk P w K mg base CX0 3 f fd ["floor","words","cells","amount","mark"] (e9 K c):=by
 refine F.ok sc_rule_by (fun vs H Q E h=>sP h) (fun cdv A outer s H vs Q E hr h=>?_)
 have hu:=hr.units
 have nd:=sc_rule_by.nd
 refine ⟨iU K c,?_,sQ h⟩
 exact (ae (ay (i:=5) nd rfl (Or.inl rfl) (ai (au hu) (pv 1) ac (fun _ _=>rfl)))
   (ae (az (ao (aF hu) (pv 5) aI (aj _)) (af (ak (iS Dx hr (by decide) rfl (ab (pv 0) (ab (pv 1) (ab (pv 2) (ab (pv 3) (ab (pv 4) ad)))))))) ar)
   (ae (az (ao (aF hu) (pv 5) aI (aj _)) (af (ak (iS K_Sum hr (by decide) rfl (ab (pv 0) (ab (pv 1) (ab (pv 2) (ab (pv 3) (ab (pv 4) ad)))))))) ar)
   (ae (az (ao (aF hu) (pv 5) aI (aj _)) (af (ak (iS Dw hr (by decide) rfl (ab (pv 0) (ab (pv 1) (ab (pv 2) (ab (pv 3) (ab (pv 4) ad)))))))) ar)
   (ae (az (ao (aF hu) (pv 5) aI (aj _)) (af (ak (iS Ey hr (by decide) rfl (ab (pv 0) (ab (pv 1) (ab (pv 2) (ab (pv 3) (ab (pv 4) ad)))))))) ar)
   (ae (az (ao (aF hu) (pv 5) aI (aj _)) (af (ak (iS D7 hr (by decide) rfl (ab (pv 0) (ab (pv 1) (ab (pv 2) (ab (pv 3) (ab (pv 4) ad)))))))) ar)
   (ae (az (ao (aF hu) (pv 5) aI (aj _)) (af (ak (iS Dv hr (by decide) rfl (ab (pv 0) (ab (pv 1) (ab (pv 2) (ab (pv 3) (ab (pv 4) ad)))))))) ar)
   (ae (az (ao (aF hu) (pv 5) aI (aj _)) (af (ak (iS BR hr (by decide) rfl (ab (pv 0) (ab (pv 1) (ab (pv 2) (ab (pv 3) (ab (pv 4) ad)))))))) ar)
   (ae (az (ao (aF hu) (pv 5) aI (aj _)) (af (ak (iS Ex hr (by decide) rfl (ab (pv 0) (ab (pv 1) (ab (pv 2) (ab (pv 3) (ab (pv 4) ad)))))))) ar)
   (af bB))))))))))
abbrev gH:Stmt:=top 103
theorem sc_checked_clues:ax ["floor","clues"] ["floor","clues"] (ah gH):=⟨rfl,rfl,rfl,by decide+kernel,rfl,by decide+kernel,by decide+kernel⟩
set_option maxHeartbeats 4000000 in
theorem mY {P:Program} {w:World} {K:PySem.W.Frag} {mg:Str→Option Value} {base:Heap} (B:Bt2 mg) (Bs:Cal P w K mg base 2 "is_filling" ["floor","filling","least"] (cC K)) {f:Addr} {fd:FuncData} (F:Fun K "checked_clues" "checked_clues" gH f fd):FnOk P w K mg base CX0 3 f fd ["floor","clues"] (bV K):=by
 refine F.ok sc_checked_clues (fun vs H Q E h=>mJ h) (fun cdv A outer s H vs Q E hr h=>?_)
 have hu:=hr.units
 have nd:=sc_checked_clues.nd
 refine ⟨dq K,?_,mK h⟩
 exact (ae (az (bq (aW (am Bs hr (by decide) rfl (ab (pv 0) (ab (pv 1) (ab ac ad)))))) (af bB) ar)
   (af (ak (de iB rfl B.list_ gN (ab (pv 1) ad)))))
abbrev jM:Stmt:=top 35
theorem sc_is_formed:ax ["puzzle","thought","floor"] ["puzzle","thought"] (ah jM):=⟨rfl,rfl,rfl,by decide+kernel,rfl,by decide+kernel,by decide+kernel⟩
set_option maxHeartbeats 4000000 in
theorem rd {P:Program} {w:World} {K:PySem.W.Frag} {mg:Str→Option Value} {base:Heap} (B:Bt2 mg) {c:RCl RK} {d:RCl PzK} (AK:Cal P w K mg base 3 "has_its_rule" ["puzzle","kind","number","cell"] (b8 K c d)) (An:Cal P w K mg base 2 "is_cell" ["floor","value"] (cK K)) (Ao:Cal P w K mg base 3 "is_sign" ["floor","value"] (cL K)) (yW:Cal P w K mg base 1 "is_whole" ["value"] (aR K)) (zL:MCal P w K mg base d d.ok 1 "place" ["self"] (eD K c d)) (G_KINDS:GTup K mg "KINDS" dr) {f:Addr} {fd:FuncData} (F:Fun K "is_formed" "is_formed" jM f fd):FnOk P w K mg base CX0 4 f fd ["puzzle","thought"] (cq K c d):=by
 refine F.ok sc_is_formed (fun vs H Q E h=>oP h) (fun cdv A outer s H vs Q E hr h=>?_)
 have hu:=hr.units
 have nd:=sc_is_formed.nd
 refine ⟨bY K c d,?_,oQ h⟩
 exact (ae (az (PW.pt (cy (bq (aW (aC df rfl B.isinstance_ bN (ab (pv 1) (ab (fI (v:=.ty "tuple") rfl B.tuple_ ka rfl) ad))))) (cy (ao (aZ hu) (aC aS rfl B.len_ bc (ab (pv 1) ad)) ac (aj _)) (cV (sg G_KINDS (ai (au hu) (pv 1) ac (fun _ _=>rfl)) rfl))))) (af (ak b6)) ar)
   (ae (ay (i:=2) nd rfl (Or.inl rfl) (bj zL hr (by decide) (pv 0)))
   (ae (az (PW.pt (cy (bq (aW (am An hr (by decide) rfl (ab (pv 2) (ab (ai (au hu) (pv 1) ac (fun _ _=>rfl)) ad))))) (cV (bq (aW (am Ao hr (by decide) rfl (ab (pv 2) (ab (ai (au hu) (pv 1) ac (fun _ _=>rfl)) ad)))))))) (af (ak b6)) ar)
   (ae (az (bq (aW (am AK hr (by decide) rfl (ab (pv 0) (ab (ai (au hu) (pv 1) ac (fun _ _=>rfl)) (ab (ai (au hu) (pv 1) ac (fun _ _=>rfl)) (ab (ai (au hu) (pv 1) ac (fun _ _=>rfl)) ad))))))) (af (ak b6)) ar)
   (af (ak (ba (aC df rfl B.isinstance_ bN (ab (ai (au hu) (pv 1) ac (fun _ _=>rfl)) (ab (fI (v:=.ty "list") rfl B.list_ gN rfl) ad))) (bA (aC (jv rfl) rfl B.all_ nn (ab (bS (ix:=[none,none]) [".0","part"] (bd rfl (by decide+kernel) rfl rfl rfl) rfl (bE (ai (au hu) (pv 1) ac (fun _ _=>rfl))) (fun cl s H fp=>(aM (i:=1) (show ([".0","part"]:List Str).Nodup by decide+kernel) rfl (Or.inl rfl))) (fun cl s H fp=>dD) (fun cl s H fp=>(am yW hr (by decide) rfl (ab (pv 1) ad)))) ad))))))))))
abbrev jN:Stmt:=top 38
theorem sc_many_only:ax ["some","sign"] ["some","sign"] (ah jN):=⟨rfl,rfl,rfl,by decide+kernel,rfl,by decide+kernel,by decide+kernel⟩
set_option maxHeartbeats 4000000 in
theorem re {P:Program} {w:World} {K:PySem.W.Frag} {mg:Str→Option Value} {base:Heap} (B:Bt2 mg) (y0:Cal P w K mg base 3 "has_only" ["mask","sign"] (bf K)) {f:Addr} {fd:FuncData} (F:Fun K "many_only" "many_only" jN f fd):FnOk P w K mg base CX0 4 f fd ["some","sign"] (bD K):=by
 refine F.ok sc_many_only (fun vs H Q E h=>qJ h) (fun cdv A outer s H vs Q E hr h=>?_)
 have hu:=hr.units
 have nd:=sc_many_only.nd
 refine ⟨gA K,?_,qK h⟩
 exact (af (ak (aC aS rfl B.len_ bc (ab (bS (ix:=[none,none,some 1]) [".0","mask","sign"] (bd rfl (by decide+kernel) rfl rfl rfl) rfl (bE (pv 0)) (fun cl s H fp=>(aM (i:=1) (show ([".0","mask","sign"]:List Str).Nodup by decide+kernel) rfl (Or.inl rfl))) (fun cl s H fp=>(dE (aW (am y0 hr (by decide) rfl (ab (pv 1) (ab (pv 2) ad)))))) (fun cl s H fp=>(pv 1))) ad))))
abbrev ic:Stmt:=top 43
theorem sc_only_strikes:ax ["rule","masks","cell","sign","more"] ["rule","masks","cell","sign","more"] (ah ic):=⟨rfl,rfl,rfl,by decide+kernel,rfl,by decide+kernel,by decide+kernel⟩
set_option maxHeartbeats 4000000 in
theorem ox {P:Program} {w:World} {K:PySem.W.Frag} {mg:Str→Option Value} {base:Heap} (B:Bt2 mg) {c:RCl RK} (y0:Cal P w K mg base 3 "has_only" ["mask","sign"] (bf K)) (y8:Cal P w K mg base 2 "others" ["rule","cell"] (bP K c)) {f:Addr} {fd:FuncData} (F:Fun K "only_strikes" "only_strikes" ic f fd):FnOk P w K mg base CX0 4 f fd ["rule","masks","cell","sign","more"] (ca K c):=by
 refine F.ok sc_only_strikes (fun vs H Q E h=>nS h) (fun cdv A outer s H vs Q E hr h=>?_)
 have hu:=hr.units
 have nd:=sc_only_strikes.nd
 refine ⟨d5 K c,?_,nU h⟩
 exact (af (ak (ba (aG (aF hu) (aC aS rfl B.len_ bc (ab (pv 4) ad)) ac (aj _)) (ba (aG (kW hu) (ai (au hu) (pv 4) ac (fun _ _=>rfl)) (am y8 hr (by decide) rfl (ab (pv 0) (ab (pv 2) ad))) (by with_unfolding_all rfl)) (bA (am y0 hr (by decide) rfl (ab (ai (au hu) (pv 1) (ai (au hu) (pv 4) ac (fun _ _=>rfl)) (fun _ _=>rfl)) (ab (pv 3) ad))))))))
abbrev gI:Stmt:=top 44
theorem sc_place_strikes:ax ["floor","rule","masks","cell","sign","more"] ["floor","rule","masks","cell","sign","more"] (ah gI):=⟨rfl,rfl,rfl,by decide+kernel,rfl,by decide+kernel,by decide+kernel⟩
set_option maxHeartbeats 4000000 in
theorem mZ {P:Program} {w:World} {K:PySem.W.Frag} {mg:Str→Option Value} {base:Heap} (B:Bt2 mg) {c:RCl RK} (Ao:Cal P w K mg base 3 "is_sign" ["floor","value"] (cL K)) (zd:Cal P w K mg base 2 "many_may" ["some","sign"] (b2 K)) (y3:Cal P w K mg base 1 "masks_at" ["masks","cells"] (bp K)) (y8:Cal P w K mg base 2 "others" ["rule","cell"] (bP K c)) (zJ:MCal P w K mg base c c.ok 1 "spots" ["self"] (eu K c)) {f:Addr} {fd:FuncData} (F:Fun K "place_strikes" "place_strikes" gI f fd):FnOk P w K mg base CX0 4 f fd ["floor","rule","masks","cell","sign","more"] (bW K c):=by
 refine F.ok sc_place_strikes (fun vs H Q E h=>mL h) (fun cdv A outer s H vs Q E hr h=>?_)
 have hu:=hr.units
 have nd:=sc_place_strikes.nd
 refine ⟨dt K c,?_,mM h⟩
 exact (ae (az (PW.pt (cy (ao (aZ hu) (aC aS rfl B.len_ bc (ab (bj zJ hr (by decide) (pv 1)) ad)) (ai (au hu) (pv 0) ac (fun _ _=>rfl)) (aj _)) (cV (ao (aZ hu) (aC aS rfl B.len_ bc (ab (pv 5) ad)) ac (aj _))))) (af (ak b6)) ar)
   (ae (az (PW.pt (cy (ao (aF hu) (ai (au hu) (pv 5) ac (fun _ _=>rfl)) (pv 4) (aj _)) (cV (bq (aW (am Ao hr (by decide) rfl (ab (pv 0) (ab (ai (au hu) (pv 5) ac (fun _ _=>rfl)) ad)))))))) (af (ak b6)) ar)
   (af (ak (aG (aF hu) (am zd hr (by decide) rfl (ab (am y3 hr (by decide) rfl (ab (pv 2) (ab (am y8 hr (by decide) rfl (ab (pv 1) (ab (pv 3) ad))) ad))) (ab (ai (au hu) (pv 5) ac (fun _ _=>rfl)) ad))) ac (aj _))))))
abbrev fG:Stmt:=top 63
theorem sc_rest_of_square:ax ["floor","corner","cell","square"] ["floor","corner","cell"] (ah fG):=⟨rfl,rfl,rfl,by decide+kernel,rfl,by decide+kernel,by decide+kernel⟩
set_option maxHeartbeats 4000000 in
theorem l8 {P:Program} {w:World} {K:PySem.W.Frag} {mg:Str→Option Value} {base:Heap} (B:Bt2 mg) (CC:Cal P w K mg base 3 "squares" ["floor"] (eV K)) {f:Addr} {fd:FuncData} (F:Fun K "rest_of_square" "rest_of_square" fG f fd):FnOk P w K mg base CX0 4 f fd ["floor","corner","cell"] (bH K):=by
 refine F.ok sc_rest_of_square (fun vs H Q E h=>lW h) (fun cdv A outer s H vs Q E hr h=>?_)
 have hu:=hr.units
 have nd:=sc_rest_of_square.nd
 refine ⟨cR K,?_,lX h⟩
 exact (ae (kO PassesOwn.never rfl (bE (am CC hr (by decide) rfl (ab (pv 0) ad))) (aM (i:=3) nd rfl (Or.inl rfl))
   (af (az (PW.pt (kM (ao (aF hu) (ai (au hu) (pv 3) ac (fun _ _=>rfl)) (pv 1) (aj _)) (jQ (ao (kW hu) (pv 2) (pv 3) (by with_unfolding_all rfl))))) (af (ak (bS (ix:=[none,none,some 2]) [".0","other","cell"] (bd rfl (by decide+kernel) rfl rfl rfl) rfl (bE (pv 3)) (fun cl s H fp=>(aM (i:=1) (show ([".0","other","cell"]:List Str).Nodup by decide+kernel) rfl (Or.inl rfl))) (fun cl s H fp=>(dE (ao (aZ hu) (pv 1) (pv 2) (aj _)))) (fun cl s H fp=>(pv 1))))) ar)))
   (af (ak (aK ad))))
abbrev cQ:Stmt:=top 65
theorem sc_is_another_with_only:ax ["floor","masks","cell","other","mark"] ["floor","masks","cell","other","mark"] (ah cQ):=⟨rfl,rfl,rfl,by decide+kernel,rfl,by decide+kernel,by decide+kernel⟩
set_option maxHeartbeats 4000000 in
theorem ju {P:Program} {w:World} {K:PySem.W.Frag} {mg:Str→Option Value} {base:Heap} (B:Bt2 mg) (y0:Cal P w K mg base 3 "has_only" ["mask","sign"] (bf K)) (An:Cal P w K mg base 2 "is_cell" ["floor","value"] (cK K)) {f:Addr} {fd:FuncData} (F:Fun K "is_another_with_only" "is_another_with_only" cQ f fd):FnOk P w K mg base CX0 4 f fd ["floor","masks","cell","other","mark"] (aY K):=by
 refine F.ok sc_is_another_with_only (fun vs H Q E h=>js h) (fun cdv A outer s H vs Q E hr h=>?_)
 have hu:=hr.units
 have nd:=sc_is_another_with_only.nd
 refine ⟨bQ K,?_,jt h⟩
 exact (af (ak (ba (am An hr (by decide) rfl (ab (pv 0) (ab (pv 3) ad))) (ba (aG (aZ hu) (pv 3) (pv 2) (aj _)) (bA (am y0 hr (by decide) rfl (ab (ai (au hu) (pv 1) (pv 3) (fun _ _=>rfl)) (ab (pv 4) ad))))))))
abbrev kG:Stmt:=top 95
theorem sc_cells_of:ax ["floor","name","words"] ["floor","name","words"] (ah kG):=⟨rfl,rfl,rfl,by decide+kernel,rfl,by decide+kernel,by decide+kernel⟩
set_option maxHeartbeats 4000000 in
theorem rQ {P:Program} {w:World} {K:PySem.W.Frag} {mg:Str→Option Value} {base:Heap} (B:Bt2 mg) (yR:Cal P w K mg base 1 "many_cells" ["floor"] (aQ K)) (Bu:Cal P w K mg base 3 "told_cells" ["floor","words"] (cA K)) (G_OF_ALL_CELLS:GTup K mg "OF_ALL_CELLS" dQ) {f:Addr} {fd:FuncData} (F:Fun K "cells_of" "cells_of" kG f fd):FnOk P w K mg base CX0 4 f fd ["floor","name","words"] (dG K):=by
 refine F.ok sc_cells_of (fun vs H Q E h=>rn h) (fun cdv A outer s H vs Q E hr h=>?_)
 have hu:=hr.units
 have nd:=sc_cells_of.nd
 refine ⟨il K,?_,ro h⟩
 exact (ae (az (sg G_OF_ALL_CELLS (pv 1) rfl) (af (ak (am Bu hr (by decide) rfl (ab (pv 0) (ab (pv 2) ad))))) ar)
   (ae (az (ao (aZ hu) (pv 2) (aK ad) (aj _)) (af bB) ar)
   (af (ak (rl rfl rfl rfl B.list_ B.range_ (ab (am yR hr (by decide) rfl (ab (pv 0) ad)) ad))))))
abbrev gJ:Stmt:=top 100
theorem sc_checked_floor:ax ["floor"] ["floor"] (ah gJ):=⟨rfl,rfl,rfl,by decide+kernel,rfl,by decide+kernel,by decide+kernel⟩
set_option maxHeartbeats 4000000 in
theorem m3 {P:Program} {w:World} {K:PySem.W.Frag} {mg:Str→Option Value} {base:Heap} (B:Bt2 mg) (BS:Cal P w K mg base 3 "floor_of" ["high","wide","signs"] (dH K)) {f:Addr} {fd:FuncData} (F:Fun K "checked_floor" "checked_floor" gJ f fd):FnOk P w K mg base CX0 4 f fd ["floor"] (bU K):=by
 refine F.ok sc_checked_floor (fun vs H Q E h=>mH h) (fun cdv A outer s H vs Q E hr h=>?_)
 have hu:=hr.units
 have nd:=sc_checked_floor.nd
 refine ⟨dn K,?_,mI h⟩
 exact (ae (az (PW.pt (cy (bq (aW (aC df rfl B.isinstance_ bN (ab (pv 0) (ab (fI (v:=.ty "tuple") rfl B.tuple_ ka rfl) ad))))) (cV (ao (aZ hu) (aC aS rfl B.len_ bc (ab (pv 0) ad)) ac (aj _))))) (af bB) ar)
   (af (ak (am BS hr (by decide) rfl (ab (ai (au hu) (pv 0) ac (fun _ _=>rfl)) (ab (ai (au hu) (pv 0) ac (fun _ _=>rfl)) (ab (ai (au hu) (pv 0) ac (fun _ _=>rfl)) ad)))))))
abbrev fg:Stmt:=top 52
theorem sc_strikes_by_line:ax ["puzzle","masks","thought","kind","cell","sign","more","rule"] ["puzzle","masks","thought"] (ah fg):=⟨rfl,rfl,rfl,by decide+kernel,rfl,by decide+kernel,by decide+kernel⟩
set_option maxHeartbeats 4000000 in
theorem lF {P:Program} {w:World} {K:PySem.W.Frag} {mg:Str→Option Value} {base:Heap} (B:Bt2 mg) {c:RCl RK} {d:RCl PzK} (AL:Cal P w K mg base 1 "clue_strikes" ["clues","cell","sign","more"] (b9 K)) (AM:Cal P w K mg base 4 "only_strikes" ["rule","masks","cell","sign","more"] (ca K c)) (AN:Cal P w K mg base 3 "pair_strikes" ["rule","masks","cell","sign","more"] (ce K c)) (Aq:Cal P w K mg base 4 "place_strikes" ["floor","rule","masks","cell","sign","more"] (bW K c)) (D8:MCal P w K mg base d d.ok 1 "clues" ["self"] (km K c d)) (zL:MCal P w K mg base d d.ok 1 "place" ["self"] (eD K c d)) (zK:MCal P w K mg base d d.ok 1 "rules" ["self"] (eE K c d)) {f:Addr} {fd:FuncData} (F:Fun K "strikes_by_line" "strikes_by_line" fg f fd):FnOk P w K mg base CX0 5 f fd ["puzzle","masks","thought"] (bh K c d):=by
 refine F.ok sc_strikes_by_line (fun vs H Q E h=>kq h) (fun cdv A outer s H vs Q E hr h=>?_)
 have hu:=hr.units
 have nd:=sc_strikes_by_line.nd
 refine ⟨cm K c d,?_,kr h⟩
 exact (ae (ay (i:=3) nd rfl (Or.inl rfl) (ai (au hu) (pv 2) ac (fun _ _=>rfl)))
   (ae (ay (i:=4) nd rfl (Or.inl rfl) (ai (au hu) (pv 2) ac (fun _ _=>rfl)))
   (ae (ay (i:=5) nd rfl (Or.inl rfl) (ai (au hu) (pv 2) ac (fun _ _=>rfl)))
   (ae (ay (i:=6) nd rfl (Or.inl rfl) (ai (au hu) (pv 2) ac (fun _ _=>rfl)))
   (ae (az (ao (aF hu) (pv 3) aI (aj _)) (af (ak (am AL hr (by decide) rfl (ab (bj D8 hr (by decide) (pv 0)) (ab (pv 4) (ab (pv 5) (ab (pv 6) ad))))))) ar)
   (ae (ay (i:=7) nd rfl (Or.inl rfl) (ai (au hu) (bj zK hr (by decide) (pv 0)) (ai (au hu) (pv 2) ac (fun _ _=>rfl)) (fun _ _=>rfl)))
   (ae (az (ao (aF hu) (pv 3) aI (aj _)) (af (ak (am AM hr (by decide) rfl (ab (pv 7) (ab (pv 1) (ab (pv 4) (ab (pv 5) (ab (pv 6) ad)))))))) ar)
   (ae (az (ao (aF hu) (pv 3) aI (aj _)) (af (ak (am Aq hr (by decide) rfl (ab (bj zL hr (by decide) (pv 0)) (ab (pv 7) (ab (pv 1) (ab (pv 4) (ab (pv 5) (ab (pv 6) ad))))))))) ar)
   (ae (az (ao (aF hu) (pv 3) aI (aj _)) (af (ak pc)) ar)
   (af (ak (am AN hr (by decide) rfl (ab (pv 7) (ab (pv 1) (ab (pv 4) (ab (pv 5) (ab (pv 6) ad)))))))))))))))))
abbrev fH:Stmt:=top 64
theorem sc_square_strikes:ax ["floor","rule","masks","cell","sign","more","rest"] ["floor","rule","masks","cell","sign","more"] (ah fH):=⟨rfl,rfl,rfl,by decide+kernel,rfl,by decide+kernel,by decide+kernel⟩
set_option maxHeartbeats 4000000 in
theorem l9 {P:Program} {w:World} {K:PySem.W.Frag} {mg:Str→Option Value} {base:Heap} (B:Bt2 mg) {c:RCl RK} (za:Cal P w K mg base 4 "many_only" ["some","sign"] (bD K)) (y3:Cal P w K mg base 1 "masks_at" ["masks","cells"] (bp K)) (z6:Cal P w K mg base 4 "rest_of_square" ["floor","corner","cell"] (bH K)) (Ar:MCal P w K mg base c c.ok 1 "sign" ["self"] (fN K c)) {f:Addr} {fd:FuncData} (F:Fun K "square_strikes" "square_strikes" fH f fd):FnOk P w K mg base CX0 5 f fd ["floor","rule","masks","cell","sign","more"] (bI K c):=by
 refine F.ok sc_square_strikes (fun vs H Q E h=>lY h) (fun cdv A outer s H vs Q E hr h=>?_)
 have hu:=hr.units
 have nd:=sc_square_strikes.nd
 refine ⟨cS K c,?_,lZ h⟩
 exact (ae (az (PW.pt (cy (ao (aZ hu) (pv 4) (bj Ar hr (by decide) (pv 1)) (aj _)) (cV (ao (aZ hu) (aC aS rfl B.len_ bc (ab (pv 5) ad)) ac (aj _))))) (af (ak b6)) ar)
   (ae (ay (i:=6) nd rfl (Or.inl rfl) (am z6 hr (by decide) rfl (ab (pv 0) (ab (ai (au hu) (pv 5) ac (fun _ _=>rfl)) (ab (pv 3) ad)))))
   (af (ak (ba (aG (aZ hu) (pv 6) (aK ad) (aj _)) (bA (aG (aF hu) (am za hr (by decide) rfl (ab (am y3 hr (by decide) rfl (ab (pv 2) (ab (pv 6) ad))) (ab (pv 4) ad))) (aC aS rfl B.len_ bc (ab (pv 6) ad)) (aj _))))))))
abbrev gK:Stmt:=top 66
theorem sc_reach_strikes:ax ["floor","rule","masks","cell","sign","more","mark","through"] ["floor","rule","masks","cell","sign","more"] (ah gK):=⟨rfl,rfl,rfl,by decide+kernel,rfl,by decide+kernel,by decide+kernel⟩
set_option maxHeartbeats 4000000 in
theorem m4 {P:Program} {w:World} {K:PySem.W.Frag} {mg:Str→Option Value} {base:Heap} (B:Bt2 mg) {c:RCl RK} (zb:Cal P w K mg base 4 "is_another_with_only" ["floor","masks","cell","other","mark"] (aY K)) (y8:Cal P w K mg base 2 "others" ["rule","cell"] (bP K c)) (BH:Cal P w K mg base 3 "reached" ["floor","cells","start"] (dv K)) (y7:Cal P w K mg base 1 "stands" ["mask","sign"] (bO K)) (Ar:MCal P w K mg base c c.ok 1 "sign" ["self"] (fN K c)) {f:Addr} {fd:FuncData} (F:Fun K "reach_strikes" "reach_strikes" gK f fd):FnOk P w K mg base CX0 5 f fd ["floor","rule","masks","cell","sign","more"] (bX K c):=by
 refine F.ok sc_reach_strikes (fun vs H Q E h=>mN h) (fun cdv A outer s H vs Q E hr h=>?_)
 have hu:=hr.units
 have nd:=sc_reach_strikes.nd
 refine ⟨dw K c,?_,mO h⟩
 exact (ae (ay (i:=6) nd rfl (Or.inr rfl) (bj Ar hr (by decide) (pv 1)))
   (ae (az (bq (aW (aC (jv rfl) rfl B.all_ nn (ab (bS (ix:=[none,none,some 3,some 0,some 6,some 2]) [".0","other","cell","floor","mark","masks"] (bd rfl (by decide+kernel) rfl rfl rfl) rfl (bE (pv 5)) (fun cl s H fp=>(aM (i:=1) (show ([".0","other","cell","floor","mark","masks"]:List Str).Nodup by decide+kernel) rfl (Or.inl rfl))) (fun cl s H fp=>dD) (fun cl s H fp=>(am zb hr (by decide) rfl (ab (pv 3) (ab (pv 5) (ab (pv 2) (ab (pv 1) (ab (pv 4) ad)))))))) ad)))) (af (ak b6)) ar)
   (ae (jS (k:=7) nd rfl (Or.inl rfl) rfl (ix:=[none,none,some 6,some 2]) [".0","other","mark","masks"] (bd rfl (by decide+kernel) rfl rfl rfl) rfl (bE (am y8 hr (by decide) rfl (ab (pv 1) (ab (pv 3) ad)))) (fun cl s H fp=>(aM (i:=1) (show ([".0","other","mark","masks"]:List Str).Nodup by decide+kernel) rfl (Or.inl rfl))) (fun cl s H fp=>(dE (aW (am y7 hr (by decide) rfl (ab (ai (au hu) (pv 3) (pv 1) (fun _ _=>rfl)) (ab (pv 2) ad)))))) (fun cl s H fp=>(pv 1)))
   (ae (az (ao (aF hu) (pv 4) (pv 6) (aj _)) (af (ak (ba (aG (aF hu) (aC aS rfl B.len_ bc (ab (pv 5) ad)) ac (aj _)) (bA (aG (ei hu) (ai (au hu) (pv 5) ac (fun _ _=>rfl)) (am BH hr (by decide) rfl (ab (pv 0) (ab (ap aL (pv 7) (aK (ab (pv 3) ad))) (ab (pv 3) ad)))) (by with_unfolding_all rfl)))))) ar)
   (ae (az (PW.pt (cy (ao (aZ hu) (aC aS rfl B.len_ bc (ab (pv 5) ad)) ac (aj _)) (cV (ao (aF hu) (ai (au hu) (pv 5) ac (fun _ _=>rfl)) (ai (au hu) (pv 5) ac (fun _ _=>rfl)) (aj _))))) (af (ak b6)) ar)
   (af (ak (aG (ei hu) (ai (au hu) (pv 5) ac (fun _ _=>rfl)) (am BH hr (by decide) rfl (ab (pv 0) (ab (pv 7) (ab (ai (au hu) (pv 5) ac (fun _ _=>rfl)) ad)))) (by with_unfolding_all rfl)))))))))
abbrev ie:Stmt:=top 68
theorem sc_turn_strikes:ax ["floor","rule","masks","cell","sign","more","mark","some"] ["floor","rule","masks","cell","sign","more"] (ah ie):=⟨rfl,rfl,rfl,by decide+kernel,rfl,by decide+kernel,by decide+kernel⟩
set_option maxHeartbeats 4000000 in
theorem oy {P:Program} {w:World} {K:PySem.W.Frag} {mg:Str→Option Value} {base:Heap} (B:Bt2 mg) {c:RCl RK} (Dy:Cal P w K mg base 3 "around" ["floor","middle","cell"] (fP K)) (y9:Cal P w K mg base 2 "beside" ["floor","cell"] (b4 K)) (y0:Cal P w K mg base 3 "has_only" ["mask","sign"] (bf K)) (zd:Cal P w K mg base 2 "many_may" ["some","sign"] (b2 K)) (za:Cal P w K mg base 4 "many_only" ["some","sign"] (bD K)) (y3:Cal P w K mg base 1 "masks_at" ["masks","cells"] (bp K)) (Ar:MCal P w K mg base c c.ok 1 "sign" ["self"] (fN K c)) {f:Addr} {fd:FuncData} (F:Fun K "turn_strikes" "turn_strikes" ie f fd):FnOk P w K mg base CX0 5 f fd ["floor","rule","masks","cell","sign","more"] (cf K c):=by
 refine F.ok sc_turn_strikes (fun vs H Q E h=>n9 h) (fun cdv A outer s H vs Q E hr h=>?_)
 have hu:=hr.units
 have nd:=sc_turn_strikes.nd
 refine ⟨d9 K c,?_,oa h⟩
 exact (ae (ay (i:=6) nd rfl (Or.inl rfl) (bj Ar hr (by decide) (pv 1)))
   (ae (az (ao (aF hu) (pv 5) (aK ad) (aj _)) (ae (ay (i:=7) nd rfl (Or.inl rfl) (am y3 hr (by decide) rfl (ab (pv 2) (ab (am y9 hr (by decide) rfl (ab (pv 0) (ab (pv 3) ad))) ad))))
   (af (ak (ba (aG (aF hu) (pv 4) (pv 6) (aj _)) (bA (wf (aG dz (am zd hr (by decide) rfl (ab (pv 7) (ab (pv 6) ad))) ac (aj _)) (bA (aG eh (am za hr (by decide) rfl (ab (pv 7) (ab (pv 6) ad))) ac (aj _))))))))) ar)
   (ae (az (PW.pt (cy (ao (aZ hu) (aC aS rfl B.len_ bc (ab (pv 5) ad)) ac (aj _)) (cy (ao (ei hu) (ai (au hu) (pv 5) ac (fun _ _=>rfl)) (am y9 hr (by decide) rfl (ab (pv 0) (ab (pv 3) ad))) (by with_unfolding_all rfl)) (cV (bq (aW (am y0 hr (by decide) rfl (ab (ai (au hu) (pv 2) (ai (au hu) (pv 5) ac (fun _ _=>rfl)) (fun _ _=>rfl)) (ab (pv 6) ad))))))))) (af (ak b6)) ar)
   (ae (ay (i:=7) nd rfl (Or.inl rfl) (am y3 hr (by decide) rfl (ab (pv 2) (ab (am Dy hr (by decide) rfl (ab (pv 0) (ab (ai (au hu) (pv 5) ac (fun _ _=>rfl)) (ab (pv 3) ad)))) ad))))
   (ae (az (ao (aF hu) (pv 4) (pv 6) (aj _)) (af (ak (aG up (am za hr (by decide) rfl (ab (pv 7) (ab (pv 6) ad))) ac (aj _)))) ar)
   (af (ak (aG dz (am zd hr (by decide) rfl (ab (pv 7) (ab (pv 6) ad))) ac (aj _)))))))))
abbrev jO:Stmt:=top 97
theorem sc_read_rule:ax ["floor","line","words","name","rest","amount","mark"] ["floor","line"] (ah jO):=⟨rfl,rfl,rfl,by decide+kernel,rfl,by decide+kernel,by decide+kernel⟩
set_option maxHeartbeats 4000000 in
theorem rf {P:Program} {w:World} {K:PySem.W.Frag} {mg:Str→Option Value} {base:Heap} (B:Bt2 mg) {c:RCl RK} (BT:Cal P w K mg base 4 "cells_of" ["floor","name","words"] (dG K)) (zM:Cal P w K mg base 3 "first_within" ["words","least","most"] (bn K)) (CD:Cal P w K mg base 3 "rule_by" ["floor","words","cells","amount","mark"] (e9 K c)) {t_MOST_NUMBER:Tok} (A0:mg "MOST_NUMBER"=some (.int 99 t_MOST_NUMBER)) (G_WITH_NUMBER:GTup K mg "WITH_NUMBER" eX) (G_WITH_SIGN:GTup K mg "WITH_SIGN" eo) {f:Addr} {fd:FuncData} (F:Fun K "read_rule" "read_rule" jO f fd):FnOk P w K mg base CX0 5 f fd ["floor","line"] (c6 K c):=by
 refine F.ok sc_read_rule (fun vs H Q E h=>qD h) (fun cdv A outer s H vs Q E hr h=>?_)
 have hu:=hr.units
 have nd:=sc_read_rule.nd
 refine ⟨gz K c,?_,qE h⟩
 exact (ae (az (bq (aW (aC df rfl B.isinstance_ bN (ab (pv 1) (ab (fI (v:=.ty "str") rfl B.str_ uw rfl) ad))))) (af bB) ar)
   (ae (ay (i:=2) nd rfl (Or.inl rfl) (dg PySem.F.plainAttrs_str PySem.F.slot_str_split PySem.F.type_str_split ux (pv 1) (ab aI ad)))
   (ae (ay (i:=3) nd rfl (Or.inl rfl) (ai (au hu) (pv 2) ac (fun _ _=>rfl)))
   (ae (ay (i:=4) nd rfl (Or.inl rfl) (mo sH (pv 2) (oB ac) oA))
   (ae (ay (i:=5) nd rfl (Or.inl rfl) ac)
   (ae (ay (i:=6) nd rfl (Or.inl rfl) ac)
   (ae (az (nG G_WITH_NUMBER (pv 3) rfl) (ae (ay (i:=5) nd rfl (Or.inl rfl) (am zM hr (by decide) rfl (ab (pv 4) (ab ac (ab (cU rfl A0 ⟨t_MOST_NUMBER,rfl⟩) ad)))))
   (af (ay (i:=4) nd rfl (Or.inl rfl) (mo sH (pv 4) (oB ac) oA)))) ar)
   (ae (az (nG G_WITH_SIGN (pv 3) rfl) (ae (ay (i:=6) nd rfl (Or.inl rfl) (am zM hr (by decide) rfl (ab (pv 4) (ab ac (ab (ai (au hu) (pv 0) ac (fun _ _=>rfl)) ad)))))
   (af (ay (i:=4) nd rfl (Or.inl rfl) (mo sH (pv 4) (oB ac) oA)))) ar)
   (af (ak (am CD hr (by decide) rfl (ab (pv 0) (ab (pv 2) (ab (am BT hr (by decide) rfl (ab (pv 0) (ab (pv 3) (ab (pv 4) ad)))) (ab (pv 5) (ab (pv 6) ad))))))))))))))))
abbrev dO:Stmt:=top 69
theorem sc_strikes_by_region:ax ["puzzle","masks","thought","floor","rule"] ["puzzle","masks","thought"] (ah dO):=⟨rfl,rfl,rfl,by decide+kernel,rfl,by decide+kernel,by decide+kernel⟩
set_option maxHeartbeats 4000000 in
theorem kH {P:Program} {w:World} {K:PySem.W.Frag} {mg:Str→Option Value} {base:Heap} (B:Bt2 mg) {c:RCl RK} {d:RCl PzK} (As:Cal P w K mg base 5 "reach_strikes" ["floor","rule","masks","cell","sign","more"] (bX K c)) (z7:Cal P w K mg base 5 "square_strikes" ["floor","rule","masks","cell","sign","more"] (bI K c)) (AO:Cal P w K mg base 5 "turn_strikes" ["floor","rule","masks","cell","sign","more"] (cf K c)) (zL:MCal P w K mg base d d.ok 1 "place" ["self"] (eD K c d)) (zK:MCal P w K mg base d d.ok 1 "rules" ["self"] (eE K c d)) {f:Addr} {fd:FuncData} (F:Fun K "strikes_by_region" "strikes_by_region" dO f fd):FnOk P w K mg base CX0 6 f fd ["puzzle","masks","thought"] (a9 K c d):=by
 refine F.ok sc_strikes_by_region (fun vs H Q E h=>jD h) (fun cdv A outer s H vs Q E hr h=>?_)
 have hu:=hr.units
 have nd:=sc_strikes_by_region.nd
 refine ⟨b3 K c d,?_,jE h⟩
 exact (ae (ay (i:=3) nd rfl (Or.inl rfl) (bj zL hr (by decide) (pv 0)))
   (ae (ay (i:=4) nd rfl (Or.inl rfl) (ai (au hu) (bj zK hr (by decide) (pv 0)) (ai (au hu) (pv 2) ac (fun _ _=>rfl)) (fun _ _=>rfl)))
   (ae (az (ao (aF hu) (ai (au hu) (pv 2) ac (fun _ _=>rfl)) aI (aj _)) (af (ak (am z7 hr (by decide) rfl (ab (pv 3) (ab (pv 4) (ab (pv 1) (ab (ai (au hu) (pv 2) ac (fun _ _=>rfl)) (ab (ai (au hu) (pv 2) ac (fun _ _=>rfl)) (ab (ai (au hu) (pv 2) ac (fun _ _=>rfl)) ad))))))))) ar)
   (ae (az (ao (aF hu) (ai (au hu) (pv 2) ac (fun _ _=>rfl)) aI (aj _)) (af (ak (am As hr (by decide) rfl (ab (pv 3) (ab (pv 4) (ab (pv 1) (ab (ai (au hu) (pv 2) ac (fun _ _=>rfl)) (ab (ai (au hu) (pv 2) ac (fun _ _=>rfl)) (ab (ai (au hu) (pv 2) ac (fun _ _=>rfl)) ad))))))))) ar)
   (af (ak (am AO hr (by decide) rfl (ab (pv 3) (ab (pv 4) (ab (pv 1) (ab (ai (au hu) (pv 2) ac (fun _ _=>rfl)) (ab (ai (au hu) (pv 2) ac (fun _ _=>rfl)) (ab (ai (au hu) (pv 2) ac (fun _ _=>rfl)) ad)))))))))))))
abbrev jr:Stmt:=top 101
theorem sc_read_rules:ax ["floor","lines"] ["floor","lines"] (ah jr):=⟨rfl,rfl,rfl,by decide+kernel,rfl,by decide+kernel,by decide+kernel⟩
set_option maxHeartbeats 4000000 in
theorem pN {P:Program} {w:World} {K:PySem.W.Frag} {mg:Str→Option Value} {base:Heap} (B:Bt2 mg) {c:RCl RK} (BN:Cal P w K mg base 5 "read_rule" ["floor","line"] (c6 K c)) {t_MOST_RULES:Tok} (Bv:mg "MOST_RULES"=some (.int 12 t_MOST_RULES)) {f:Addr} {fd:FuncData} (F:Fun K "read_rules" "read_rules" jr f fd):FnOk P w K mg base CX0 6 f fd ["floor","lines"] (cB K c):=by
 refine F.ok sc_read_rules (fun vs H Q E h=>pD h) (fun cdv A outer s H vs Q E hr h=>?_)
 have hu:=hr.units
 have nd:=sc_read_rules.nd
 refine ⟨fC K c,?_,pE h⟩
 exact (ae (az (ao eh (aC aS rfl B.len_ bc (ab (pv 1) ad)) (cU rfl Bv ⟨t_MOST_RULES,rfl⟩) (aj _)) (af bB) ar)
   (af (ak (bS (ix:=[none,none,some 0]) [".0","line","floor"] (bd rfl (by decide+kernel) rfl rfl rfl) rfl (bE (pv 1)) (fun cl s H fp=>(aM (i:=1) (show ([".0","line","floor"]:List Str).Nodup by decide+kernel) rfl (Or.inl rfl))) (fun cl s H fp=>dD) (fun cl s H fp=>(am BN hr (by decide) rfl (ab (pv 2) (ab (pv 1) ad))))))))
abbrev lG:Stmt:=top 71
theorem sc_strikes:ax ["puzzle","masks","thought"] ["puzzle","masks","thought"] (ah lG):=⟨rfl,rfl,rfl,by decide+kernel,rfl,by decide+kernel,by decide+kernel⟩
set_option maxHeartbeats 4000000 in
theorem tP {P:Program} {w:World} {K:PySem.W.Frag} {mg:Str→Option Value} {base:Heap} (B:Bt2 mg) {c:RCl RK} {d:RCl PzK} (zN:Cal P w K mg base 5 "strikes_by_line" ["puzzle","masks","thought"] (bh K c d)) (zg:Cal P w K mg base 6 "strikes_by_region" ["puzzle","masks","thought"] (a9 K c d)) (G_LINE_KINDS:GTup K mg "LINE_KINDS" fD) (G_NUMBER_KINDS:GTup K mg "NUMBER_KINDS" d3) {f:Addr} {fd:FuncData} (F:Fun K "strikes" "strikes" lG f fd):FnOk P w K mg base CX0 7 f fd ["puzzle","masks","thought"] (c7 K c d):=by
 refine F.ok sc_strikes (fun vs H Q E h=>qM h) (fun cdv A outer s H vs Q E hr h=>?_)
 have hu:=hr.units
 have nd:=sc_strikes.nd
 refine ⟨gB K c d,?_,qN h⟩
 exact (ae (az (nG G_LINE_KINDS (ai (au hu) (pv 2) ac (fun _ _=>rfl)) rfl) (af (ak (am zN hr (by decide) rfl (ab (pv 0) (ab (pv 1) (ab (pv 2) ad)))))) ar)
   (ae (az (nG G_NUMBER_KINDS (ai (au hu) (pv 2) ac (fun _ _=>rfl)) rfl) (af (ak pc)) ar)
   (af (ak (am zg hr (by decide) rfl (ab (pv 0) (ab (pv 1) (ab (pv 2) ad))))))))
abbrev fh:Stmt:=mtop 104 0
theorem sc_Puzzle___init__:ax ["self","floor","lines","clues"] ["self","floor","lines","clues"] (ah fh):=⟨rfl,rfl,rfl,by decide+kernel,rfl,by decide+kernel,by decide+kernel⟩
set_option maxHeartbeats 4000000 in
theorem lH {P:Program} {w:World} {K:PySem.W.Frag} {mg:Str→Option Value} {base:Heap} (B:Bt2 mg) {c:RCl RK} {d:RCl PzK} (At:Cal P w K mg base 3 "checked_clues" ["floor","clues"] (bV K)) (Au:Cal P w K mg base 4 "checked_floor" ["floor"] (bU K)) (Bw:Cal P w K mg base 6 "read_rules" ["floor","lines"] (cB K c)) (FK_d_floor:FldK K d "floor") (FK_d_given:FldK K d "given") (FK_d_laws:FldK K d "laws") {f:Addr} {fd:FuncData} (F:Fun K "__init__" "Puzzle.__init__" fh f fd):FnOk P w K mg base CX0 7 f fd ["self","floor","lines","clues"] (aX K c d):=by
 refine F.ok sc_Puzzle___init__ (fun vs H Q E h=>lb h) (fun cdv A outer s H vs Q E hr h=>?_)
 have hu:=hr.units
 have nd:=sc_Puzzle___init__.nd
 refine ⟨cJ K c d,?_,lc h⟩
 exact (ae (fM (pv 0) (am Au hr (by decide) rfl (ab (pv 1) ad)) FK_d_floor)
   (ae (fM (pv 0) (am Bw hr (by decide) rfl (ab (fL (pv 0) FK_d_floor) (ab (pv 2) ad))) FK_d_laws)
   (af (fM (pv 0) (am At hr (by decide) rfl (ab (fL (pv 0) FK_d_floor) (ab (pv 3) ad))) FK_d_given))))
abbrev lI:Stmt:=top 72
theorem sc_allowed:ax ["puzzle","masks","thought"] ["puzzle","masks","thought"] (ah lI):=⟨rfl,rfl,rfl,by decide+kernel,rfl,by decide+kernel,by decide+kernel⟩
set_option maxHeartbeats 4000000 in
theorem tQ {P:Program} {w:World} {K:PySem.W.Frag} {mg:Str→Option Value} {base:Heap} (B:Bt2 mg) {c:RCl RK} {d:RCl PzK} (BO:Cal P w K mg base 4 "is_formed" ["puzzle","thought"] (cq K c d)) (CF:Cal P w K mg base 7 "strikes" ["puzzle","masks","thought"] (c7 K c d)) {f:Addr} {fd:FuncData} (F:Fun K "allowed" "allowed" lI f fd):FnOk P w K mg base CX0 8 f fd ["puzzle","masks","thought"] (c8 K c d):=by
 refine F.ok sc_allowed (fun vs H Q E h=>qR h) (fun cdv A outer s H vs Q E hr h=>?_)
 have hu:=hr.units
 have nd:=sc_allowed.nd
 refine ⟨c9 K c d,?_,qS h⟩
 exact (af (ak (ba (am BO hr (by decide) rfl (ab (pv 0) (ab (pv 2) ad))) (bA (am CF hr (by decide) rfl (ab (pv 0) (ab (pv 1) (ab (pv 2) ad))))))))
abbrev jP:Stmt:=top 113
theorem sc__law_told:ax ["_law_puzzle","_law_masks_here","_law_thought","_law_due","_law_found"] ["_law_puzzle","_law_masks_here","_law_thought","_law_due"] (ah jP):=⟨rfl,rfl,rfl,by decide+kernel,rfl,by decide+kernel,by decide+kernel⟩
set_option maxHeartbeats 4000000 in
theorem rg {P:Program} {w:World} {K:PySem.W.Frag} {mg:Str→Option Value} {base:Heap} (B:Bt2 mg) {c:RCl RK} {d:RCl PzK} (CG:Cal P w K mg base 8 "allowed" ["puzzle","masks","thought"] (c8 K c d)) {f:Addr} {fd:FuncData} (F:Fun K "_law_told" "_law_told" jP f fd):FnOk P w K mg base CX0 9 f fd ["_law_puzzle","_law_masks_here","_law_thought","_law_due"] (bz K c d):=by
 refine F.ok sc__law_told (fun vs H Q E h=>oT h) (fun cdv A outer s H vs Q E hr h=>?_)
 have hu:=hr.units
 have nd:=sc__law_told.nd
 refine ⟨ff K c d,?_,oU h⟩
 exact (ae (ay (i:=4) nd rfl (Or.inl rfl) (am CG hr (by decide) rfl (ab (pv 0) (ab (pv 1) (ab (pv 2) ad)))))
   (af (ak (ba (aC df rfl B.isinstance_ bN (ab (pv 4) (ab (fI (v:=.ty "bool") rfl B.bool_ rZ rfl) ad))) (bA (aG (aF hu) (pv 4) (pv 3) (aj _)))))))
abbrev lU:Stmt:=top 114
theorem sc_law:ax ["_law_script","_law_floor_here","_law_many","_law_lines","_law_k","_law_clues","_law_puzzle","_law_masks_here","_law_number","_law_thought","_law_due","_law_within","_law_bent_here"] ["_law_script"] (ah lU):=⟨rfl,rfl,rfl,by decide+kernel,rfl,by decide+kernel,by decide+kernel⟩
set_option maxHeartbeats 4000000 in
theorem yg {P:Program} {w:World} {K:PySem.W.Frag} {mg:Str→Option Value} {base:Heap} (B:Bt2 mg) {c:RCl RK} {d:RCl PzK} (BP:Cal P w K mg base 1 "_law_bent" ["_law_thought","_law_number","_law_floor_here"] (cr K)) (y2:Cal P w K mg base 1 "_law_cell_at" ["_law_script","_law_k"] (aV K)) (Bx:Cal P w K mg base 1 "_law_floor" ["_law_cell"] (cb K)) (Av:Cal P w K mg base 1 "_law_straight" ["_law_number","_law_floor_here"] (bx K)) (z5:Cal P w K mg base 9 "_law_told" ["_law_puzzle","_law_masks_here","_law_thought","_law_due"] (bz K c d)) (Dz:KCal P w K mg base 7 "Puzzle" (d.A .Puzzle) ["self","floor","lines","clues"] (aX K c d)) {f:Addr} {fd:FuncData} (F:Fun K "law" "law" lU f fd):FnOk P w K mg base CX0 10 f fd ["_law_script"] (qV K c d):=by
 refine F.ok sc_law (fun vs H Q E h=>ye h) (fun cdv A outer s H vs Q E hr h=>?_)
 have hu:=hr.units
 have nd:=sc_law.nd
 refine ⟨oi K c d,?_,yf h⟩
 exact (ae (ay (i:=1) nd rfl (Or.inr rfl) (am Bx hr (by decide) rfl (ab (am y2 hr (by decide) rfl (ab (pv 0) (ab ac ad))) ad)))
   (ae (ay (i:=2) nd rfl (Or.inl rfl) (ap bG (ai (au hu) (pv 1) ac (fun _ _=>rfl)) (ai (au hu) (pv 1) ac (fun _ _=>rfl))))
   (ae (ay (i:=3) nd rfl (Or.inl rfl) (aK (ab (ap aL aI (dg PySem.F.plainAttrs_str PySem.F.slot_str_join PySem.F.type_str_join uI aI (ab (bS (ix:=[none,none]) [".0","_law_cell"] (bd rfl (by decide+kernel) rfl rfl rfl) rfl (ee rfl B.range_ (ab (pv 2) ad)) (fun cl s H fp=>(aM (i:=1) (show ([".0","_law_cell"]:List Str).Nodup by decide+kernel) rfl (Or.inl rfl))) (fun cl s H fp=>dD) (fun cl s H fp=>(de uG rfl B.str_ uw (ab (pv 1) ad)))) ad))) (ab aI (ab aI (ab aI ad))))))
   (ae (az (ao (aF hu) (ap aN (am y2 hr (by decide) rfl (ab (pv 0) (ab ac ad))) ac) ac (aj _)) (af (ay (i:=3) nd rfl (Or.inl rfl) (aK ad))) ar)
   (ae (jS (k:=5) nd rfl (Or.inl rfl) rfl (ix:=[none,none,some 1,some 0]) [".0","_law_k","_law_floor_here","_law_script"] (bd rfl (by decide+kernel) rfl rfl rfl) rfl (ee rfl B.range_ (ab (pv 2) ad)) (fun cl s H fp=>(aM (i:=1) (show ([".0","_law_k","_law_floor_here","_law_script"]:List Str).Nodup by decide+kernel) rfl (Or.inl rfl))) (fun cl s H fp=>dD) (fun cl s H fp=>(ap aL ac (ap aN (am y2 hr (by decide) rfl (ab (pv 3) (ab (ap aL ac (pv 1)) ad))) (ai (au hu) (pv 2) ac (fun _ _=>rfl))))))
   (ae (ay (i:=6) nd rfl (Or.inl rfl) (iS Dz hr (by decide) rfl (ab (pv 1) (ab (pv 3) (ab (pv 5) ad)))))
   (ae (jS (k:=7) nd rfl (Or.inl rfl) rfl (ix:=[none,none]) [".0","_law_cell"] (bd rfl (by decide+kernel) rfl rfl rfl) rfl (ee rfl B.range_ (ab (pv 2) ad)) (fun cl s H fp=>(aM (i:=1) (show ([".0","_law_cell"]:List Str).Nodup by decide+kernel) rfl (Or.inl rfl))) (fun cl s H fp=>dD) (fun cl s H fp=>ac))
   (ae (kO PassesOwn.never rfl (ee rfl B.range_ (ab ac ad)) (aM (i:=4) nd rfl (Or.inl rfl))
   (ae (ay (i:=8) nd rfl (Or.inl rfl) (am y2 hr (by decide) rfl (ab (pv 0) (ab (ap aL ac (pv 4)) ad))))
   (af (kO PassesOwn.never rfl (bE (am Av hr (by decide) rfl (ab (pv 8) (ab (pv 1) ad)))) (aM (i:=9) nd rfl (Or.inl rfl))
   (ae (ay (i:=10) nd rfl (Or.inl rfl) (aG (aZ hu) (pv 3) (aK ad) (aj _)))
   (ae (az (ao (aF hu) (ai (au hu) (pv 9) ac (fun _ _=>rfl)) aI (aj _)) (af (ay (i:=10) nd rfl (Or.inl rfl) (aG (aZ hu) (ai (au hu) (pv 5) (ai (au hu) (pv 9) ac (fun _ _=>rfl)) (fun _ _=>rfl)) (ai (au hu) (pv 9) ac (fun _ _=>rfl)) (aj _)))) ar)
   (ae (az (PW.pt (kM (ao (aF hu) (ai (au hu) (pv 9) ac (fun _ _=>rfl)) aI (aj _)) (jQ (ao (aF hu) (ai (au hu) (pv 9) ac (fun _ _=>rfl)) ac (aj _))))) (af (ay (i:=10) nd rfl (Or.inl rfl) (ba (pv 10) (bA (aG (aZ hu) (ai (au hu) (pv 9) ac (fun _ _=>rfl)) ac (aj _)))))) ar)
   (ae (az (bq (aW (am z5 hr (by decide) rfl (ab (pv 6) (ab (pv 7) (ab (pv 9) (ab (pv 10) ad))))))) (af (ak b6)) ar)
   (ae (ay (i:=11) nd rfl (Or.inl rfl) (cE (ab aI (ab ac (ab (ai (au hu) (pv 9) ac (fun _ _=>rfl)) (ab ac (ab (aK (ab (pv 9) ad)) ad)))))))
   (ae (az (bq (aW (am z5 hr (by decide) rfl (ab (pv 6) (ab (pv 7) (ab (pv 11) (ab b6 ad))))))) (af (ak b6)) ar)
   (ae (ay (i:=12) nd rfl (Or.inl rfl) (am BP hr (by decide) rfl (ab (pv 9) (ab (am y2 hr (by decide) rfl (ab (pv 0) (ab (ap aL ac (pv 4)) ad))) (ab (pv 1) ad)))))
   (af (az (bq (aW (am z5 hr (by decide) rfl (ab (pv 6) (ab (pv 7) (ab (pv 12) (ab b6 ad))))))) (af (ak b6)) ar)))))))))))))
   (af (ak b6))))))))))
def mkC (yQ y1 yS yX yV yT yP yY:Addr):RCl RK:=⟨fun k=>match k with | .Rule=>yQ | .Unlike=>yQ | .Sum=>y1 | .Rising=>yS | .Seen=>yX | .Count=>yV | .Joined=>yT | .NoSquare=>yP | .Ring=>yY,fun k=>match k with | .Rule=>false | _=>true⟩
def mkD (yU:Addr):RCl PzK:=⟨fun _=>yU,fun _=>true⟩
set_option maxHeartbeats 40000000 in
theorem yh {l:PySem.W.OpenLaw} {w:World} {K:PySem.W.Frag} {h:Heap} {mg:Str→Option Value} {fa:Addr} (X:K.In h) (G:h.Ns mainGlobals mg) (hfa:mg "law"=some (.ref fa))
  {f0 f1 f2 f3 f4 f5 f6 f7 f8 f9 f10 f11 f12 f13 f14 f15 f16 f17 f18 f19 f20 f21 f22 f23 f24 f25 f26 f27 f28 f29 f30 f31 f32 f33 f34 f35 f36 f37 f38 f39 f40 f41 f42 f43 f44 f45 f46 f47 f48 f49 f50 f51 f52 f53 f54 f55 f56 f57 f58 f59 f60 f61 f62 f63:Addr} {fd0 fd1 fd2 fd3 fd4 fd5 fd6 fd7 fd8 fd9 fd10 fd11 fd12 fd13 fd14 fd15 fd16 fd17 fd18 fd19 fd20 fd21 fd22 fd23 fd24 fd25 fd26 fd27 fd28 fd29 fd30 fd31 fd32 fd33 fd34 fd35 fd36 fd37 fd38 fd39 fd40 fd41 fd42 fd43 fd44 fd45 fd46 fd47 fd48 fd49 fd50 fd51 fd52 fd53 fd54 fd55 fd56 fd57 fd58 fd59 fd60 fd61 fd62 fd63:FuncData} {yQ y1 yS yX yV yT yP yY yU:Addr} {DA:Addr} {EI:Option Addr} {EJ:Nat} {EK:Array (Option Value)} {EL EM EN EO EQ ER t6_KINDS t7_KINDS t8_KINDS t9_KINDS t10_KINDS:Tok} {A1:Addr} {En:Option Addr} {Eo:Nat} {Ep:Array (Option Value)} {Er Es Et Eu Ev:Tok} {Aw:Addr} {DU:Option Addr} {DW:Nat} {DX:Array (Option Value)} {DY DZ D0:Tok} {Ax:Addr} {D1:Option Addr} {D2:Nat} {D3:Array (Option Value)} {D4 D5 D6:Tok} {AQ:Addr} {D9:Option Addr} {Ea:Nat} {Eb:Array (Option Value)} {Ec Ed Ee:Tok} {By:Addr} {Ez:Option Addr} {EA:Nat} {EB:Array (Option Value)} {EC ED EE EF:Tok} {z8:Addr} {DB:Nat} {A8:Int} {Db:Tok} {A9:Addr} {CH:Option Addr} {Dc:Nat} {CI:Array (Option Value)} {Co:Tok} {Ba:Int} {De:Tok} {Bb:Addr} {CJ:Option Addr} {Df:Nat} {CK:Array (Option Value)} {Cp:Tok} {Bc:Int} {Dg:Tok} {Bd:Addr} {CL:Option Addr} {Dh:Nat} {CM:Array (Option Value)} {Cq:Tok} {Be:Int} {Di:Tok} {Bf:Addr} {CN:Option Addr} {Dj:Nat} {CO:Array (Option Value)} {Cr:Tok} {Bg:Int} {Dk:Tok} {Bh:Addr} {CP:Option Addr} {Dl:Nat} {CQ:Array (Option Value)} {Cs:Tok} {Bi:Int} {Dm:Tok} {Bj:Addr} {CS:Option Addr} {Dn:Nat} {CT:Array (Option Value)} {Ct:Tok} {Bk:Int} {Do:Tok} {Bl:Addr} {CU:Option Addr} {Dp:Nat} {CV:Array (Option Value)} {Cu Cv:Tok} {Bm:Int} {Dq:Tok} {Bn:Addr} {CW:Option Addr} {Dr:Nat} {CY:Array (Option Value)} {Cw:Tok} {Bo:Int} {Ds:Tok} {Bp:Addr} {CZ:Option Addr} {Dt:Nat} {C0:Array (Option Value)} {Cy:Tok} {tk_FIGURES:Tok} {tk_MOST_CELLS:Tok} {tk_MOST_FIGURES:Tok} {tk_MOST_NUMBER:Tok} {tk_MOST_RULES:Tok} {tk_MOST_SIDE:Tok} {tk_MOST_SIGNS:Tok}
  (DC:PySem.W.nsIn K mainGlobals "Unlike"=some (some (.ref yQ))) (q_Sum:PySem.W.nsIn K mainGlobals "Sum"=some (some (.ref y1))) (DD:PySem.W.nsIn K mainGlobals "Rising"=some (some (.ref yS))) (EG:PySem.W.nsIn K mainGlobals "Seen"=some (some (.ref yX))) (Ef:PySem.W.nsIn K mainGlobals "Count"=some (some (.ref yV))) (DE:PySem.W.nsIn K mainGlobals "Joined"=some (some (.ref yT))) (BU:PySem.W.nsIn K mainGlobals "NoSquare"=some (some (.ref yP))) (EH:PySem.W.nsIn K mainGlobals "Ring"=some (some (.ref yY))) (DF:PySem.W.nsIn K mainGlobals "Puzzle"=some (some (.ref yU))) (a0:PySem.W.nsIn K mainGlobals "is_whole"=some (some (.ref f0))) (a1:PySem.W.nsIn K mainGlobals "many_cells"=some (some (.ref f1))) (a2:PySem.W.nsIn K mainGlobals "spot_of"=some (some (.ref f2))) (a3:PySem.W.nsIn K mainGlobals "square_at"=some (some (.ref f3))) (a4:PySem.W.nsIn K mainGlobals "bit_of"=some (some (.ref f4))) (a5:PySem.W.nsIn K mainGlobals "stands"=some (some (.ref f5))) (a6:PySem.W.nsIn K mainGlobals "masks_at"=some (some (.ref f6))) (a7:PySem.W.nsIn K mainGlobals "clue_strikes"=some (some (.ref f7))) (a8:PySem.W.nsIn K mainGlobals "are_told_in_order"=some (some (.ref f8))) (BV:PySem.W.findIn K (.ref yQ) "__init__"=some (some (.ref f9))) (Eg:PySem.W.findIn K (.ref y1) "__init__"=some (some (.ref f9))) (BW:PySem.W.findIn K (.ref yS) "__init__"=some (some (.ref f9))) (DG:PySem.W.findIn K (.ref yX) "__init__"=some (some (.ref f9))) (C2:PySem.W.findIn K (.ref yV) "__init__"=some (some (.ref f9))) (BX:PySem.W.findIn K (.ref yT) "__init__"=some (some (.ref f9))) (Bz:PySem.W.findIn K (.ref yP) "__init__"=some (some (.ref f9))) (DH:PySem.W.findIn K (.ref yY) "__init__"=some (some (.ref f9))) (a10_Unlike:PySem.W.findIn K (.ref yQ) "name"=some (some (.ref f10))) (a10_Sum:PySem.W.findIn K (.ref y1) "name"=some (some (.ref f10))) (a10_Rising:PySem.W.findIn K (.ref yS) "name"=some (some (.ref f10))) (a10_Seen:PySem.W.findIn K (.ref yX) "name"=some (some (.ref f10))) (a10_Count:PySem.W.findIn K (.ref yV) "name"=some (some (.ref f10))) (a10_Joined:PySem.W.findIn K (.ref yT) "name"=some (some (.ref f10))) (a10_NoSquare:PySem.W.findIn K (.ref yP) "name"=some (some (.ref f10))) (a10_Ring:PySem.W.findIn K (.ref yY) "name"=some (some (.ref f10))) (a11_Unlike:PySem.W.findIn K (.ref yQ) "spots"=some (some (.ref f11))) (a11_Sum:PySem.W.findIn K (.ref y1) "spots"=some (some (.ref f11))) (a11_Rising:PySem.W.findIn K (.ref yS) "spots"=some (some (.ref f11))) (a11_Seen:PySem.W.findIn K (.ref yX) "spots"=some (some (.ref f11))) (a11_Count:PySem.W.findIn K (.ref yV) "spots"=some (some (.ref f11))) (a11_Joined:PySem.W.findIn K (.ref yT) "spots"=some (some (.ref f11))) (a11_NoSquare:PySem.W.findIn K (.ref yP) "spots"=some (some (.ref f11))) (a11_Ring:PySem.W.findIn K (.ref yY) "spots"=some (some (.ref f11))) (a12_Unlike:PySem.W.findIn K (.ref yQ) "sign"=some (some (.ref f12))) (a12_Sum:PySem.W.findIn K (.ref y1) "sign"=some (some (.ref f12))) (a12_Rising:PySem.W.findIn K (.ref yS) "sign"=some (some (.ref f12))) (a12_Seen:PySem.W.findIn K (.ref yX) "sign"=some (some (.ref f12))) (a12_Count:PySem.W.findIn K (.ref yV) "sign"=some (some (.ref f12))) (a12_Joined:PySem.W.findIn K (.ref yT) "sign"=some (some (.ref f12))) (a12_NoSquare:PySem.W.findIn K (.ref yP) "sign"=some (some (.ref f12))) (a12_Ring:PySem.W.findIn K (.ref yY) "sign"=some (some (.ref f12))) (a13:PySem.W.nsIn K mainGlobals "number_in"=some (some (.ref f13))) (a14_Puzzle:PySem.W.findIn K (.ref yU) "place"=some (some (.ref f14))) (a15_Puzzle:PySem.W.findIn K (.ref yU) "clues"=some (some (.ref f15))) (a16_Puzzle:PySem.W.findIn K (.ref yU) "rules"=some (some (.ref f16))) (a17:PySem.W.nsIn K mainGlobals "_law_cell_at"=some (some (.ref f17))) (a18:PySem.W.nsIn K mainGlobals "_law_floor"=some (some (.ref f18))) (a19:PySem.W.nsIn K mainGlobals "_law_straight"=some (some (.ref f19))) (a20:PySem.W.nsIn K mainGlobals "_law_bent"=some (some (.ref f20))) (a21:PySem.W.nsIn K mainGlobals "is_from_one_to"=some (some (.ref f21))) (a22:PySem.W.nsIn K mainGlobals "beside"=some (some (.ref f22))) (a23:PySem.W.nsIn K mainGlobals "is_corner"=some (some (.ref f23))) (a24:PySem.W.nsIn K mainGlobals "without"=some (some (.ref f24))) (a25:PySem.W.nsIn K mainGlobals "signs_in"=some (some (.ref f25))) (a26:PySem.W.nsIn K mainGlobals "is_cell"=some (some (.ref f26))) (a27:PySem.W.nsIn K mainGlobals "goes_by"=some (some (.ref f27))) (a28:PySem.W.nsIn K mainGlobals "others"=some (some (.ref f28))) (a29:PySem.W.nsIn K mainGlobals "many_may"=some (some (.ref f29))) (a30:PySem.W.nsIn K mainGlobals "number_within"=some (some (.ref f30))) (a31:PySem.W.nsIn K mainGlobals "is_filling"=some (some (.ref f31))) (a32:PySem.W.nsIn K mainGlobals "floor_of"=some (some (.ref f32))) (a33:PySem.W.nsIn K mainGlobals "squares"=some (some (.ref f33))) (a34:PySem.W.nsIn K mainGlobals "reached"=some (some (.ref f34))) (a35:PySem.W.nsIn K mainGlobals "has_only"=some (some (.ref f35))) (a36:PySem.W.nsIn K mainGlobals "is_sign"=some (some (.ref f36))) (a37:PySem.W.nsIn K mainGlobals "has_its_rule"=some (some (.ref f37))) (a38:PySem.W.nsIn K mainGlobals "pair_strikes"=some (some (.ref f38))) (a39:PySem.W.nsIn K mainGlobals "around"=some (some (.ref f39))) (a40:PySem.W.nsIn K mainGlobals "first_within"=some (some (.ref f40))) (a41:PySem.W.nsIn K mainGlobals "told_cells"=some (some (.ref f41))) (a42:PySem.W.nsIn K mainGlobals "rule_by"=some (some (.ref f42))) (a43:PySem.W.nsIn K mainGlobals "checked_clues"=some (some (.ref f43))) (a44:PySem.W.nsIn K mainGlobals "is_formed"=some (some (.ref f44))) (a45:PySem.W.nsIn K mainGlobals "many_only"=some (some (.ref f45))) (a46:PySem.W.nsIn K mainGlobals "only_strikes"=some (some (.ref f46))) (a47:PySem.W.nsIn K mainGlobals "place_strikes"=some (some (.ref f47))) (a48:PySem.W.nsIn K mainGlobals "rest_of_square"=some (some (.ref f48))) (a49:PySem.W.nsIn K mainGlobals "is_another_with_only"=some (some (.ref f49))) (a50:PySem.W.nsIn K mainGlobals "cells_of"=some (some (.ref f50))) (a51:PySem.W.nsIn K mainGlobals "checked_floor"=some (some (.ref f51))) (a52:PySem.W.nsIn K mainGlobals "strikes_by_line"=some (some (.ref f52))) (a53:PySem.W.nsIn K mainGlobals "square_strikes"=some (some (.ref f53))) (a54:PySem.W.nsIn K mainGlobals "reach_strikes"=some (some (.ref f54))) (a55:PySem.W.nsIn K mainGlobals "turn_strikes"=some (some (.ref f55))) (a56:PySem.W.nsIn K mainGlobals "read_rule"=some (some (.ref f56))) (a57:PySem.W.nsIn K mainGlobals "strikes_by_region"=some (some (.ref f57))) (a58:PySem.W.nsIn K mainGlobals "read_rules"=some (some (.ref f58))) (a59:PySem.W.nsIn K mainGlobals "strikes"=some (some (.ref f59))) (BY:PySem.W.findIn K (.ref yU) "__init__"=some (some (.ref f60))) (a61:PySem.W.nsIn K mainGlobals "allowed"=some (some (.ref f61))) (a62:PySem.W.nsIn K mainGlobals "_law_told"=some (some (.ref f62))) (a63:PySem.W.nsIn K mainGlobals "law"=some (some (.ref f63))) (F0:Fun K "is_whole" "is_whole" kz f0 fd0) (F1:Fun K "many_cells" "many_cells" jm f1 fd1) (F2:Fun K "spot_of" "spot_of" lx f2 fd2) (F3:Fun K "square_at" "square_at" jG f3 fd3) (F4:Fun K "bit_of" "bit_of" mQ f4 fd4) (F5:Fun K "stands" "stands" mR f5 fd5) (F6:Fun K "masks_at" "masks_at" kA f6 fd6) (F7:Fun K "clue_strikes" "clue_strikes" g9 f7 fd7) (F8:Fun K "are_told_in_order" "are_told_in_order" dN f8 fd8) (F9:Fun K "__init__" "Rule.__init__" gE f9 fd9) (fn9:PySem.W.isFn K (.ref f9)=true) (F10:Fun K "name" "Rule.name" jH f10 fd10) (fn10:PySem.W.isFn K (.ref f10)=true) (F11:Fun K "spots" "Rule.spots" jn f11 fd11) (fn11:PySem.W.isFn K (.ref f11)=true) (F12:Fun K "sign" "Rule.sign" jI f12 fd12) (fn12:PySem.W.isFn K (.ref f12)=true) (F13:Fun K "number_in" "number_in" jJ f13 fd13) (F14:Fun K "place" "Puzzle.place" hE f14 fd14) (fn14:PySem.W.isFn K (.ref f14)=true) (F15:Fun K "clues" "Puzzle.clues" hJ f15 fd15) (fn15:PySem.W.isFn K (.ref f15)=true) (F16:Fun K "rules" "Puzzle.rules" hV f16 fd16) (fn16:PySem.W.isFn K (.ref f16)=true) (F17:Fun K "_law_cell_at" "_law_cell_at" hX f17 fd17) (F18:Fun K "_law_floor" "_law_floor" jo f18 fd18) (F19:Fun K "_law_straight" "_law_straight" gF f19 fd19) (F20:Fun K "_law_bent" "_law_bent" jK f20 fd20) (F21:Fun K "is_from_one_to" "is_from_one_to" fF f21 fd21) (F22:Fun K "beside" "beside" mU f22 fd22) (F23:Fun K "is_corner" "is_corner" jL f23 fd23) (F24:Fun K "without" "without" ly f24 fd24) (F25:Fun K "signs_in" "signs_in" kC f25 fd25) (F26:Fun K "is_cell" "is_cell" lz f26 fd26) (F27:Fun K "goes_by" "goes_by" lA f27 fd27) (F28:Fun K "others" "others" mV f28 fd28) (F29:Fun K "many_may" "many_may" kD f29 fd29) (F30:Fun K "number_within" "number_within" gG f30 fd30) (F31:Fun K "is_filling" "is_filling" jp f31 fd31) (F32:Fun K "floor_of" "floor_of" kE f32 fd32) (F33:Fun K "squares" "squares" lB f33 fd33) (F34:Fun K "reached" "reached" lC f34 fd34) (F35:Fun K "has_only" "has_only" kF f35 fd35) (F36:Fun K "is_sign" "is_sign" lD f36 fd36) (F37:Fun K "has_its_rule" "has_its_rule" h9 f37 fd37) (F38:Fun K "pair_strikes" "pair_strikes" ia f38 fd38) (F39:Fun K "around" "around" mX f39 fd39) (F40:Fun K "first_within" "first_within" ib f40 fd40) (F41:Fun K "told_cells" "told_cells" jq f41 fd41) (F42:Fun K "rule_by" "rule_by" lE f42 fd42) (F43:Fun K "checked_clues" "checked_clues" gH f43 fd43) (F44:Fun K "is_formed" "is_formed" jM f44 fd44) (F45:Fun K "many_only" "many_only" jN f45 fd45) (F46:Fun K "only_strikes" "only_strikes" ic f46 fd46) (F47:Fun K "place_strikes" "place_strikes" gI f47 fd47) (F48:Fun K "rest_of_square" "rest_of_square" fG f48 fd48) (F49:Fun K "is_another_with_only" "is_another_with_only" cQ f49 fd49) (F50:Fun K "cells_of" "cells_of" kG f50 fd50) (F51:Fun K "checked_floor" "checked_floor" gJ f51 fd51) (F52:Fun K "strikes_by_line" "strikes_by_line" fg f52 fd52) (F53:Fun K "square_strikes" "square_strikes" fH f53 fd53) (F54:Fun K "reach_strikes" "reach_strikes" gK f54 fd54) (F55:Fun K "turn_strikes" "turn_strikes" ie f55 fd55) (F56:Fun K "read_rule" "read_rule" jO f56 fd56) (F57:Fun K "strikes_by_region" "strikes_by_region" dO f57 fd57) (F58:Fun K "read_rules" "read_rules" jr f58 fd58) (F59:Fun K "strikes" "strikes" lG f59 fd59) (F60:Fun K "__init__" "Puzzle.__init__" fh f60 fd60) (fn60:PySem.W.isFn K (.ref f60)=true) (F61:Fun K "allowed" "allowed" lI f61 fd61) (F62:Fun K "_law_told" "_law_told" jP f62 fd62) (F63:Fun K "law" "law" lU f63 fd63) (BZ:PySem.W.makesIn K yQ=true) (B0:PySem.W.keepIn K (.ref yQ)=true) (B1:PySem.W.plainGet K yQ Str.empty=true) (B2:PySem.W.hasDictIn K yQ=true) (B3:PySem.W.plainOver K yQ=true) (B4:PySem.W.findIn K (.ref yQ) "__setattr__"=some (some (.builtin "object.__setattr__"))) (Eh:PySem.W.makesIn K y1=true) (Ei:PySem.W.keepIn K (.ref y1)=true) (Ej:PySem.W.plainGet K y1 Str.empty=true) (Ek:PySem.W.hasDictIn K y1=true) (El:PySem.W.plainOver K y1=true) (Em:PySem.W.findIn K (.ref y1) "__setattr__"=some (some (.builtin "object.__setattr__"))) (B5:PySem.W.makesIn K yS=true) (B6:PySem.W.keepIn K (.ref yS)=true) (B7:PySem.W.plainGet K yS Str.empty=true) (B8:PySem.W.hasDictIn K yS=true) (B9:PySem.W.plainOver K yS=true) (Ca:PySem.W.findIn K (.ref yS) "__setattr__"=some (some (.builtin "object.__setattr__"))) (DI:PySem.W.makesIn K yX=true) (DJ:PySem.W.keepIn K (.ref yX)=true) (DK:PySem.W.plainGet K yX Str.empty=true) (DL:PySem.W.hasDictIn K yX=true) (DM:PySem.W.plainOver K yX=true) (DN:PySem.W.findIn K (.ref yX) "__setattr__"=some (some (.builtin "object.__setattr__"))) (C3:PySem.W.makesIn K yV=true) (C4:PySem.W.keepIn K (.ref yV)=true) (C5:PySem.W.plainGet K yV Str.empty=true) (C6:PySem.W.hasDictIn K yV=true) (C7:PySem.W.plainOver K yV=true) (C8:PySem.W.findIn K (.ref yV) "__setattr__"=some (some (.builtin "object.__setattr__"))) (Cb:PySem.W.makesIn K yT=true) (Cc:PySem.W.keepIn K (.ref yT)=true) (Cd:PySem.W.plainGet K yT Str.empty=true) (Ce:PySem.W.hasDictIn K yT=true) (Cf:PySem.W.plainOver K yT=true) (Cg:PySem.W.findIn K (.ref yT) "__setattr__"=some (some (.builtin "object.__setattr__"))) (BA:PySem.W.makesIn K yP=true) (BB:PySem.W.keepIn K (.ref yP)=true) (BC:PySem.W.plainGet K yP Str.empty=true) (BD:PySem.W.hasDictIn K yP=true) (BE:PySem.W.plainOver K yP=true) (BF:PySem.W.findIn K (.ref yP) "__setattr__"=some (some (.builtin "object.__setattr__"))) (DO:PySem.W.makesIn K yY=true) (DP:PySem.W.keepIn K (.ref yY)=true) (DQ:PySem.W.plainGet K yY Str.empty=true) (DR:PySem.W.hasDictIn K yY=true) (DS:PySem.W.plainOver K yY=true) (DT:PySem.W.findIn K (.ref yY) "__setattr__"=some (some (.builtin "object.__setattr__"))) (Ch:PySem.W.makesIn K yU=true) (Ci:PySem.W.keepIn K (.ref yU)=true) (Cj:PySem.W.plainGet K yU Str.empty=true) (Ck:PySem.W.hasDictIn K yU=true) (Cl:PySem.W.plainOver K yU=true) (Cm:PySem.W.findIn K (.ref yU) "__setattr__"=some (some (.builtin "object.__setattr__"))) (zF:PySem.W.findIn K (.ref yQ) "amount"=some none) (Ay:PySem.W.findIn K (.ref y1) "amount"=some none) (zG:PySem.W.findIn K (.ref yS) "amount"=some none) (z9:PySem.W.findIn K (.ref yX) "amount"=some none) (zO:PySem.W.findIn K (.ref yV) "amount"=some none) (zH:PySem.W.findIn K (.ref yT) "amount"=some none) (ze:PySem.W.findIn K (.ref yP) "amount"=some none) (Aa:PySem.W.findIn K (.ref yY) "amount"=some none) (zP:PySem.W.findIn K (.ref yQ) "cells"=some none) (AR:PySem.W.findIn K (.ref y1) "cells"=some none) (zQ:PySem.W.findIn K (.ref yS) "cells"=some none) (Az:PySem.W.findIn K (.ref yX) "cells"=some none) (Ab:PySem.W.findIn K (.ref yV) "cells"=some none) (zR:PySem.W.findIn K (.ref yT) "cells"=some none) (zh:PySem.W.findIn K (.ref yP) "cells"=some none) (AA:PySem.W.findIn K (.ref yY) "cells"=some none) (zS:PySem.W.findIn K (.ref yQ) "floor"=some none) (AS:PySem.W.findIn K (.ref y1) "floor"=some none) (zT:PySem.W.findIn K (.ref yS) "floor"=some none) (AB:PySem.W.findIn K (.ref yX) "floor"=some none) (Ac:PySem.W.findIn K (.ref yV) "floor"=some none) (zU:PySem.W.findIn K (.ref yT) "floor"=some none) (zi:PySem.W.findIn K (.ref yP) "floor"=some none) (AC:PySem.W.findIn K (.ref yY) "floor"=some none) (Ad:PySem.W.findIn K (.ref yQ) "mark"=some none) (A2:PySem.W.findIn K (.ref y1) "mark"=some none) (Ae:PySem.W.findIn K (.ref yS) "mark"=some none) (AT:PySem.W.findIn K (.ref yX) "mark"=some none) (AD:PySem.W.findIn K (.ref yV) "mark"=some none) (Af:PySem.W.findIn K (.ref yT) "mark"=some none) (zI:PySem.W.findIn K (.ref yP) "mark"=some none) (AU:PySem.W.findIn K (.ref yY) "mark"=some none) (zV:PySem.W.findIn K (.ref yQ) "words"=some none) (AV:PySem.W.findIn K (.ref y1) "words"=some none) (zW:PySem.W.findIn K (.ref yS) "words"=some none) (AE:PySem.W.findIn K (.ref yX) "words"=some none) (Ag:PySem.W.findIn K (.ref yV) "words"=some none) (zX:PySem.W.findIn K (.ref yT) "words"=some none) (zj:PySem.W.findIn K (.ref yP) "words"=some none) (AF:PySem.W.findIn K (.ref yY) "words"=some none) (zY:PySem.W.findIn K (.ref yU) "floor"=some none) (zZ:PySem.W.findIn K (.ref yU) "given"=some none) (Ah:PySem.W.findIn K (.ref yU) "laws"=some none) (C9:PySem.W.nsIn K mainGlobals "KINDS"=some (some (.ref DA))) (Da:K.lookup DA=some ⟨.type "tuple",EI,.seq #[.str (tx [99,108,117,101]) EL,.str (tx [111,110,108,121]) EM,.str (tx [112,108,97,99,101]) EN,.str (tx [99,111,117,110,116]) EO,.str (tx [115,116,101,112]) EQ,.str (tx [115,117,109]) ER,.str (tx [115,113,117,97,114,101]) t6_KINDS,.str (tx [114,101,97,99,104]) t7_KINDS,.str (tx [116,117,114,110]) t8_KINDS,.str (tx [112,97,105,114]) t9_KINDS,.str (tx [119,97,121,115]) t10_KINDS] EJ,EK⟩) (AW:PySem.W.nsIn K mainGlobals "LINE_KINDS"=some (some (.ref A1))) (AX:K.lookup A1=some ⟨.type "tuple",En,.seq #[.str (tx [99,108,117,101]) Er,.str (tx [111,110,108,121]) Es,.str (tx [112,108,97,99,101]) Et,.str (tx [115,116,101,112]) Eu,.str (tx [112,97,105,114]) Ev] Eo,Ep⟩) (Ai:PySem.W.nsIn K mainGlobals "NUMBER_KINDS"=some (some (.ref Aw))) (Aj:K.lookup Aw=some ⟨.type "tuple",DU,.seq #[.str (tx [99,111,117,110,116]) DY,.str (tx [115,117,109]) DZ,.str (tx [119,97,121,115]) D0] DW,DX⟩) (Ak:PySem.W.nsIn K mainGlobals "OF_ALL_CELLS"=some (some (.ref Ax))) (Al:K.lookup Ax=some ⟨.type "tuple",D1,.seq #[.str (tx [106,111,105,110,101,100]) D4,.str (tx [110,111,115,113,117,97,114,101]) D5,.str (tx [114,105,110,103]) D6] D2,D3⟩) (AG:PySem.W.nsIn K mainGlobals "WITH_NUMBER"=some (some (.ref AQ))) (AH:K.lookup AQ=some ⟨.type "tuple",D9,.seq #[.str (tx [115,117,109]) Ec,.str (tx [115,101,101,110]) Ed,.str (tx [99,111,117,110,116]) Ee] Ea,Eb⟩) (A3:PySem.W.nsIn K mainGlobals "WITH_SIGN"=some (some (.ref By))) (A4:K.lookup By=some ⟨.type "tuple",Ez,.seq #[.str (tx [99,111,117,110,116]) EC,.str (tx [106,111,105,110,101,100]) ED,.str (tx [110,111,115,113,117,97,114,101]) EE,.str (tx [114,105,110,103]) EF] EA,EB⟩) (z3:PySem.W.nsIn K mainGlobals "RULES_OF_KIND"=some (some (.ref z8))) (z4:K.lookup z8=some ⟨.type "dict",none,.dict #[⟨A8,.str (tx [111,110,108,121]) Db,.ref A9⟩,⟨Ba,.str (tx [112,108,97,99,101]) De,.ref Bb⟩,⟨Bc,.str (tx [99,111,117,110,116]) Dg,.ref Bd⟩,⟨Be,.str (tx [115,116,101,112]) Di,.ref Bf⟩,⟨Bg,.str (tx [115,117,109]) Dk,.ref Bh⟩,⟨Bi,.str (tx [115,113,117,97,114,101]) Dm,.ref Bj⟩,⟨Bk,.str (tx [114,101,97,99,104]) Do,.ref Bl⟩,⟨Bm,.str (tx [116,117,114,110]) Dq,.ref Bn⟩,⟨Bo,.str (tx [112,97,105,114]) Ds,.ref Bp⟩] DB,#[]⟩) (zk:K.lookup A9=some ⟨.type "tuple",CH,.seq #[.str (tx [117,110,108,105,107,101]) Co] Dc,CI⟩) (zl:A8=hashStr w (tx [111,110,108,121])) (zm:K.lookup Bb=some ⟨.type "tuple",CJ,.seq #[.str (tx [117,110,108,105,107,101]) Cp] Df,CK⟩) (zn:Ba=hashStr w (tx [112,108,97,99,101])) (zo:K.lookup Bd=some ⟨.type "tuple",CL,.seq #[.str (tx [99,111,117,110,116]) Cq] Dh,CM⟩) (zp:Bc=hashStr w (tx [99,111,117,110,116])) (zq:K.lookup Bf=some ⟨.type "tuple",CN,.seq #[.str (tx [114,105,115,105,110,103]) Cr] Dj,CO⟩) (zt:Be=hashStr w (tx [115,116,101,112])) (zu:K.lookup Bh=some ⟨.type "tuple",CP,.seq #[.str (tx [115,117,109]) Cs] Dl,CQ⟩) (zv:Bg=hashStr w (tx [115,117,109])) (zw:K.lookup Bj=some ⟨.type "tuple",CS,.seq #[.str (tx [110,111,115,113,117,97,114,101]) Ct] Dn,CT⟩) (zx:Bi=hashStr w (tx [115,113,117,97,114,101])) (zy:K.lookup Bl=some ⟨.type "tuple",CU,.seq #[.str (tx [106,111,105,110,101,100]) Cu,.str (tx [114,105,110,103]) Cv] Dp,CV⟩) (zA:Bk=hashStr w (tx [114,101,97,99,104])) (zB:K.lookup Bn=some ⟨.type "tuple",CW,.seq #[.str (tx [114,105,110,103]) Cw] Dr,CY⟩) (zC:Bm=hashStr w (tx [116,117,114,110])) (zD:K.lookup Bp=some ⟨.type "tuple",CZ,.seq #[.str (tx [117,110,108,105,107,101]) Cy] Dt,C0⟩) (zE:Bo=hashStr w (tx [112,97,105,114])) (Cn:PySem.W.nsIn K mainGlobals "FIGURES"=some (some (.str (tx [48,49,50,51,52,53,54,55,56,57]) tk_FIGURES))) (A5:PySem.W.nsIn K mainGlobals "MOST_CELLS"=some (some (.int 16 tk_MOST_CELLS))) (AI:PySem.W.nsIn K mainGlobals "MOST_FIGURES"=some (some (.int 9 tk_MOST_FIGURES))) (AY:PySem.W.nsIn K mainGlobals "MOST_NUMBER"=some (some (.int 99 tk_MOST_NUMBER))) (A6:PySem.W.nsIn K mainGlobals "MOST_RULES"=some (some (.int 12 tk_MOST_RULES))) (BG:PySem.W.nsIn K mainGlobals "MOST_SIDE"=some (some (.int 6 tk_MOST_SIDE))) (A7:PySem.W.nsIn K mainGlobals "MOST_SIGNS"=some (some (.int 6 tk_MOST_SIGNS))) (z_len:PySem.W.nsIn K mainGlobals "len"=some none) (z_abs:PySem.W.nsIn K mainGlobals "abs"=some none) (z_min:PySem.W.nsIn K mainGlobals "min"=some none) (z_max:PySem.W.nsIn K mainGlobals "max"=some none) (z_sorted:PySem.W.nsIn K mainGlobals "sorted"=some none) (z_any:PySem.W.nsIn K mainGlobals "any"=some none) (z_isinstance:PySem.W.nsIn K mainGlobals "isinstance"=some none) (z_list:PySem.W.nsIn K mainGlobals "list"=some none) (z_int:PySem.W.nsIn K mainGlobals "int"=some none) (z_bool:PySem.W.nsIn K mainGlobals "bool"=some none) (z_str:PySem.W.nsIn K mainGlobals "str"=some none) (z_tuple:PySem.W.nsIn K mainGlobals "tuple"=some none) (z_reversed:PySem.W.nsIn K mainGlobals "reversed"=some none) (z_set:PySem.W.nsIn K mainGlobals "set"=some none) (z_range:PySem.W.nsIn K mainGlobals "range"=some none) (z_zip:PySem.W.nsIn K mainGlobals "zip"=some none) (z_all:PySem.W.nsIn K mainGlobals "all"=some none) (z_sum:PySem.W.nsIn K mainGlobals "sum"=some none) (z_enumerate:PySem.W.nsIn K mainGlobals "enumerate"=some none):
  ∃ fd:FuncData,(∀ (s:Shared) (v:Value),BindsTo s fd ⟨[v],[]⟩ [("_law_script",v)])∧∀ base:Heap,K.In base→base.Ns mainGlobals mg→FnOk l.prog w K mg base CX0 10 fa fd ["_law_script"] (oV K):=by
 have e:=hfa.symm.trans (PySem.W.mg_of X G a63)
 cases e
 have B:Bt2 mg:=⟨⟨PySem.W.mg_none_of X G z_len,PySem.W.mg_none_of X G z_abs,PySem.W.mg_none_of X G z_min,PySem.W.mg_none_of X G z_max,PySem.W.mg_none_of X G z_sorted,PySem.W.mg_none_of X G z_any,PySem.W.mg_none_of X G z_isinstance,PySem.W.mg_none_of X G z_list,PySem.W.mg_none_of X G z_int,PySem.W.mg_none_of X G z_bool,PySem.W.mg_none_of X G z_str,PySem.W.mg_none_of X G z_tuple,PySem.W.mg_none_of X G z_reversed,PySem.W.mg_none_of X G z_set,PySem.W.mg_none_of X G z_range,PySem.W.mg_none_of X G z_zip⟩,PySem.W.mg_none_of X G z_all,PySem.W.mg_none_of X G z_sum,PySem.W.mg_none_of X G z_enumerate⟩
 obtain ⟨oc,od,kV,doc,pm,an,cdv,ct,osl,rfl,lk,hcd⟩:=F63.ex
 refine ⟨PySem.W.fnOf "law" "law" (br lU) (bo lU) (ah lU) .none kV doc pm an cdv ct,fun s v=>.of_eq rfl,fun base _ _=>?_⟩
 let c:RCl RK:=mkC yQ y1 yS yX yV yT yP yY
 let d:RCl PzK:=mkD yU
 have Cz:=PySem.W.mg_of X G Cn
 have Bq:=PySem.W.mg_of X G A5
 have AJ:=PySem.W.mg_of X G AI
 have A0:=PySem.W.mg_of X G AY
 have Bv:=PySem.W.mg_of X G A6
 have AZ:=PySem.W.mg_of X G BG
 have Br:=PySem.W.mg_of X G A7
 have cls_Unlike:Cls K yQ:=⟨B1,B2,B3,B4⟩
 have cls_Sum:Cls K y1:=⟨Ej,Ek,El,Em⟩
 have cls_Rising:Cls K yS:=⟨B7,B8,B9,Ca⟩
 have cls_Seen:Cls K yX:=⟨DK,DL,DM,DN⟩
 have cls_Count:Cls K yV:=⟨C5,C6,C7,C8⟩
 have cls_Joined:Cls K yT:=⟨Cd,Ce,Cf,Cg⟩
 have cls_NoSquare:Cls K yP:=⟨BC,BD,BE,BF⟩
 have cls_Ring:Cls K yY:=⟨DQ,DR,DS,DT⟩
 have cls_Puzzle:Cls K yU:=⟨Cj,Ck,Cl,Cm⟩
 have FK_c_amount:FldK K c "amount":=⟨fun i hi=>by cases i with | Rule=>exact (Bool.false_ne_true hi).elim | Unlike=>exact ⟨cls_Unlike,zF⟩ | Sum=>exact ⟨cls_Sum,Ay⟩ | Rising=>exact ⟨cls_Rising,zG⟩ | Seen=>exact ⟨cls_Seen,z9⟩ | Count=>exact ⟨cls_Count,zO⟩ | Joined=>exact ⟨cls_Joined,zH⟩ | NoSquare=>exact ⟨cls_NoSquare,ze⟩ | Ring=>exact ⟨cls_Ring,Aa⟩⟩
 have FK_c_cells:FldK K c "cells":=⟨fun i hi=>by cases i with | Rule=>exact (Bool.false_ne_true hi).elim | Unlike=>exact ⟨cls_Unlike,zP⟩ | Sum=>exact ⟨cls_Sum,AR⟩ | Rising=>exact ⟨cls_Rising,zQ⟩ | Seen=>exact ⟨cls_Seen,Az⟩ | Count=>exact ⟨cls_Count,Ab⟩ | Joined=>exact ⟨cls_Joined,zR⟩ | NoSquare=>exact ⟨cls_NoSquare,zh⟩ | Ring=>exact ⟨cls_Ring,AA⟩⟩
 have FK_c_floor:FldK K c "floor":=⟨fun i hi=>by cases i with | Rule=>exact (Bool.false_ne_true hi).elim | Unlike=>exact ⟨cls_Unlike,zS⟩ | Sum=>exact ⟨cls_Sum,AS⟩ | Rising=>exact ⟨cls_Rising,zT⟩ | Seen=>exact ⟨cls_Seen,AB⟩ | Count=>exact ⟨cls_Count,Ac⟩ | Joined=>exact ⟨cls_Joined,zU⟩ | NoSquare=>exact ⟨cls_NoSquare,zi⟩ | Ring=>exact ⟨cls_Ring,AC⟩⟩
 have FK_c_mark:FldK K c "mark":=⟨fun i hi=>by cases i with | Rule=>exact (Bool.false_ne_true hi).elim | Unlike=>exact ⟨cls_Unlike,Ad⟩ | Sum=>exact ⟨cls_Sum,A2⟩ | Rising=>exact ⟨cls_Rising,Ae⟩ | Seen=>exact ⟨cls_Seen,AT⟩ | Count=>exact ⟨cls_Count,AD⟩ | Joined=>exact ⟨cls_Joined,Af⟩ | NoSquare=>exact ⟨cls_NoSquare,zI⟩ | Ring=>exact ⟨cls_Ring,AU⟩⟩
 have FK_c_words:FldK K c "words":=⟨fun i hi=>by cases i with | Rule=>exact (Bool.false_ne_true hi).elim | Unlike=>exact ⟨cls_Unlike,zV⟩ | Sum=>exact ⟨cls_Sum,AV⟩ | Rising=>exact ⟨cls_Rising,zW⟩ | Seen=>exact ⟨cls_Seen,AE⟩ | Count=>exact ⟨cls_Count,Ag⟩ | Joined=>exact ⟨cls_Joined,zX⟩ | NoSquare=>exact ⟨cls_NoSquare,zj⟩ | Ring=>exact ⟨cls_Ring,AF⟩⟩
 have FK_d_floor:FldK K d "floor":=⟨fun i hi=>by cases i; exact ⟨cls_Puzzle,zY⟩⟩
 have FK_d_given:FldK K d "given":=⟨fun i hi=>by cases i; exact ⟨cls_Puzzle,zZ⟩⟩
 have FK_d_laws:FldK K d "laws":=⟨fun i hi=>by cases i; exact ⟨cls_Puzzle,Ah⟩⟩
 have G_KINDS:GTup K mg "KINDS" dr:=⟨DA,_,_,_,PySem.W.mg_of X G C9,Da,rfl,rfl,Nat.le_of_lt (aJ (by show (11:Nat)≤1000; decide)),(.cons ⟨_,rfl⟩ (.cons ⟨_,rfl⟩ (.cons ⟨_,rfl⟩ (.cons ⟨_,rfl⟩ (.cons ⟨_,rfl⟩ (.cons ⟨_,rfl⟩ (.cons ⟨_,rfl⟩ (.cons ⟨_,rfl⟩ (.cons ⟨_,rfl⟩ (.cons ⟨_,rfl⟩ (.cons ⟨_,rfl⟩ .nil)))))))))))⟩
 have G_LINE_KINDS:GTup K mg "LINE_KINDS" fD:=⟨A1,_,_,_,PySem.W.mg_of X G AW,AX,rfl,rfl,Nat.le_of_lt (aJ (by show (5:Nat)≤1000; decide)),(.cons ⟨_,rfl⟩ (.cons ⟨_,rfl⟩ (.cons ⟨_,rfl⟩ (.cons ⟨_,rfl⟩ (.cons ⟨_,rfl⟩ .nil)))))⟩
 have G_NUMBER_KINDS:GTup K mg "NUMBER_KINDS" d3:=⟨Aw,_,_,_,PySem.W.mg_of X G Ai,Aj,rfl,rfl,Nat.le_of_lt (aJ (by show (3:Nat)≤1000; decide)),(.cons ⟨_,rfl⟩ (.cons ⟨_,rfl⟩ (.cons ⟨_,rfl⟩ .nil)))⟩
 have G_OF_ALL_CELLS:GTup K mg "OF_ALL_CELLS" dQ:=⟨Ax,_,_,_,PySem.W.mg_of X G Ak,Al,rfl,rfl,Nat.le_of_lt (aJ (by show (3:Nat)≤1000; decide)),(.cons ⟨_,rfl⟩ (.cons ⟨_,rfl⟩ (.cons ⟨_,rfl⟩ .nil)))⟩
 have G_WITH_NUMBER:GTup K mg "WITH_NUMBER" eX:=⟨AQ,_,_,_,PySem.W.mg_of X G AG,AH,rfl,rfl,Nat.le_of_lt (aJ (by show (3:Nat)≤1000; decide)),(.cons ⟨_,rfl⟩ (.cons ⟨_,rfl⟩ (.cons ⟨_,rfl⟩ .nil)))⟩
 have G_WITH_SIGN:GTup K mg "WITH_SIGN" eo:=⟨By,_,_,_,PySem.W.mg_of X G A3,A4,rfl,rfl,Nat.le_of_lt (aJ (by show (4:Nat)≤1000; decide)),(.cons ⟨_,rfl⟩ (.cons ⟨_,rfl⟩ (.cons ⟨_,rfl⟩ (.cons ⟨_,rfl⟩ .nil))))⟩
 have Ap:GDict w K mg "RULES_OF_KIND" gd_RULES_OF_KIND:=⟨z8,_,_,_,PySem.W.mg_of X G z3,z4,⟨rfl,rfl,rfl⟩,rfl,(.cons zl zk rfl rfl (Nat.le_of_lt (aJ (by show (1:Nat)≤1000; decide))) (.cons ⟨_,rfl⟩ .nil) (.cons zn zm rfl rfl (Nat.le_of_lt (aJ (by show (1:Nat)≤1000; decide))) (.cons ⟨_,rfl⟩ .nil) (.cons zp zo rfl rfl (Nat.le_of_lt (aJ (by show (1:Nat)≤1000; decide))) (.cons ⟨_,rfl⟩ .nil) (.cons zt zq rfl rfl (Nat.le_of_lt (aJ (by show (1:Nat)≤1000; decide))) (.cons ⟨_,rfl⟩ .nil) (.cons zv zu rfl rfl (Nat.le_of_lt (aJ (by show (1:Nat)≤1000; decide))) (.cons ⟨_,rfl⟩ .nil) (.cons zx zw rfl rfl (Nat.le_of_lt (aJ (by show (1:Nat)≤1000; decide))) (.cons ⟨_,rfl⟩ .nil) (.cons zA zy rfl rfl (Nat.le_of_lt (aJ (by show (2:Nat)≤1000; decide))) (.cons ⟨_,rfl⟩ (.cons ⟨_,rfl⟩ .nil)) (.cons zC zB rfl rfl (Nat.le_of_lt (aJ (by show (1:Nat)≤1000; decide))) (.cons ⟨_,rfl⟩ .nil) (.cons zE zD rfl rfl (Nat.le_of_lt (aJ (by show (1:Nat)≤1000; decide))) (.cons ⟨_,rfl⟩ .nil) .nil))))))))),by decide+kernel⟩
 have yW:Cal l.prog w K mg base _ _ _ (aR K):=lw (rK B F0) F0 (PySem.W.mg_of X G a0)
 have yR:Cal l.prog w K mg base _ _ _ (aQ K):=lw (pI B F1) F1 (PySem.W.mg_of X G a1)
 have Am:Cal l.prog w K mg base _ _ _ (cI K):=cx (tH B F2) F2 (PySem.W.mg_of X G a2)
 have BM:Cal l.prog w K mg base _ _ _ (cZ K):=cx (qX B F3) F3 (PySem.W.mg_of X G a3)
 have Du:Cal l.prog w K mg base _ _ _ (fO K):=lw (vh B F4) F4 (PySem.W.mg_of X G a4)
 have y7:Cal l.prog w K mg base _ _ _ (bO K):=cx (vi B F5) F5 (PySem.W.mg_of X G a5)
 have y3:Cal l.prog w K mg base _ _ _ (bp K):=cx (rL B F6) F6 (PySem.W.mg_of X G a6)
 have AL:Cal l.prog w K mg base _ _ _ (b9 K):=we (oj B F7) F7 (PySem.W.mg_of X G a7)
 have zf:Cal l.prog w K mg base _ _ _ (bg K):=cx (kB B F8) F8 (PySem.W.mg_of X G a8)
 have bd9:Binds K fd9 ["self","floor","words","cells","amount","mark"] []:=wq F9
 have T9:FnOk l.prog w K mg base CX0 1 f9 fd9 _ (av K c):=mS (c:=c) B FK_c_amount FK_c_cells FK_c_floor FK_c_mark FK_c_words F9
 have Dx:KCal l.prog w K mg base _ "Unlike" (c.A .Unlike) _ (av K c):=⟨f9,_,⟨BZ,BV,fn9,B0⟩,T9,PySem.W.mg_of X G DC,bd9⟩
 have K_Sum:KCal l.prog w K mg base _ "Sum" (c.A .Sum) _ (av K c):=⟨f9,_,⟨Eh,Eg,fn9,Ei⟩,T9,PySem.W.mg_of X G q_Sum,bd9⟩
 have Dw:KCal l.prog w K mg base _ "Rising" (c.A .Rising) _ (av K c):=⟨f9,_,⟨B5,BW,fn9,B6⟩,T9,PySem.W.mg_of X G DD,bd9⟩
 have Ey:KCal l.prog w K mg base _ "Seen" (c.A .Seen) _ (av K c):=⟨f9,_,⟨DI,DG,fn9,DJ⟩,T9,PySem.W.mg_of X G EG,bd9⟩
 have D7:KCal l.prog w K mg base _ "Count" (c.A .Count) _ (av K c):=⟨f9,_,⟨C3,C2,fn9,C4⟩,T9,PySem.W.mg_of X G Ef,bd9⟩
 have Dv:KCal l.prog w K mg base _ "Joined" (c.A .Joined) _ (av K c):=⟨f9,_,⟨Cb,BX,fn9,Cc⟩,T9,PySem.W.mg_of X G DE,bd9⟩
 have BR:KCal l.prog w K mg base _ "NoSquare" (c.A .NoSquare) _ (av K c):=⟨f9,_,⟨BA,Bz,fn9,BB⟩,T9,PySem.W.mg_of X G BU,bd9⟩
 have Ex:KCal l.prog w K mg base _ "Ring" (c.A .Ring) _ (av K c):=⟨f9,_,⟨DO,DH,fn9,DP⟩,T9,PySem.W.mg_of X G EH,bd9⟩
 have bd10:Binds K fd10 ["self"] []:=ky F10
 have T10:FnOk l.prog w K mg base CX0 1 f10 fd10 _ (gs K c):=qY (c:=c) B FK_c_words F10
 have Ew:MCal l.prog w K mg base c c.ok 1 "name" ["self"] (lT K c):=⟨fun i hi=>by cases i with | Rule=>exact (Bool.false_ne_true hi).elim | Unlike=>exact ⟨f10,_,cls_Unlike,⟨a10_Unlike,fn10,F10.kp⟩,(T10.mono (by decide)).imp (fun vs H Q E h=>⟨.Unlike,h⟩),bd10⟩ | Sum=>exact ⟨f10,_,cls_Sum,⟨a10_Sum,fn10,F10.kp⟩,(T10.mono (by decide)).imp (fun vs H Q E h=>⟨.Sum,h⟩),bd10⟩ | Rising=>exact ⟨f10,_,cls_Rising,⟨a10_Rising,fn10,F10.kp⟩,(T10.mono (by decide)).imp (fun vs H Q E h=>⟨.Rising,h⟩),bd10⟩ | Seen=>exact ⟨f10,_,cls_Seen,⟨a10_Seen,fn10,F10.kp⟩,(T10.mono (by decide)).imp (fun vs H Q E h=>⟨.Seen,h⟩),bd10⟩ | Count=>exact ⟨f10,_,cls_Count,⟨a10_Count,fn10,F10.kp⟩,(T10.mono (by decide)).imp (fun vs H Q E h=>⟨.Count,h⟩),bd10⟩ | Joined=>exact ⟨f10,_,cls_Joined,⟨a10_Joined,fn10,F10.kp⟩,(T10.mono (by decide)).imp (fun vs H Q E h=>⟨.Joined,h⟩),bd10⟩ | NoSquare=>exact ⟨f10,_,cls_NoSquare,⟨a10_NoSquare,fn10,F10.kp⟩,(T10.mono (by decide)).imp (fun vs H Q E h=>⟨.NoSquare,h⟩),bd10⟩ | Ring=>exact ⟨f10,_,cls_Ring,⟨a10_Ring,fn10,F10.kp⟩,(T10.mono (by decide)).imp (fun vs H Q E h=>⟨.Ring,h⟩),bd10⟩⟩
 have bd11:Binds K fd11 ["self"] []:=ky F11
 have T11:FnOk l.prog w K mg base CX0 1 f11 fd11 _ (fz K c):=pJ (c:=c) B FK_c_cells F11
 have zJ:MCal l.prog w K mg base c c.ok 1 "spots" ["self"] (eu K c):=⟨fun i hi=>by cases i with | Rule=>exact (Bool.false_ne_true hi).elim | Unlike=>exact ⟨f11,_,cls_Unlike,⟨a11_Unlike,fn11,F11.kp⟩,(T11.mono (by decide)).imp (fun vs H Q E h=>⟨.Unlike,h⟩),bd11⟩ | Sum=>exact ⟨f11,_,cls_Sum,⟨a11_Sum,fn11,F11.kp⟩,(T11.mono (by decide)).imp (fun vs H Q E h=>⟨.Sum,h⟩),bd11⟩ | Rising=>exact ⟨f11,_,cls_Rising,⟨a11_Rising,fn11,F11.kp⟩,(T11.mono (by decide)).imp (fun vs H Q E h=>⟨.Rising,h⟩),bd11⟩ | Seen=>exact ⟨f11,_,cls_Seen,⟨a11_Seen,fn11,F11.kp⟩,(T11.mono (by decide)).imp (fun vs H Q E h=>⟨.Seen,h⟩),bd11⟩ | Count=>exact ⟨f11,_,cls_Count,⟨a11_Count,fn11,F11.kp⟩,(T11.mono (by decide)).imp (fun vs H Q E h=>⟨.Count,h⟩),bd11⟩ | Joined=>exact ⟨f11,_,cls_Joined,⟨a11_Joined,fn11,F11.kp⟩,(T11.mono (by decide)).imp (fun vs H Q E h=>⟨.Joined,h⟩),bd11⟩ | NoSquare=>exact ⟨f11,_,cls_NoSquare,⟨a11_NoSquare,fn11,F11.kp⟩,(T11.mono (by decide)).imp (fun vs H Q E h=>⟨.NoSquare,h⟩),bd11⟩ | Ring=>exact ⟨f11,_,cls_Ring,⟨a11_Ring,fn11,F11.kp⟩,(T11.mono (by decide)).imp (fun vs H Q E h=>⟨.Ring,h⟩),bd11⟩⟩
 have bd12:Binds K fd12 ["self"] []:=ky F12
 have T12:FnOk l.prog w K mg base CX0 1 f12 fd12 _ (gu K c):=qZ (c:=c) B FK_c_mark F12
 have Ar:MCal l.prog w K mg base c c.ok 1 "sign" ["self"] (fN K c):=⟨fun i hi=>by cases i with | Rule=>exact (Bool.false_ne_true hi).elim | Unlike=>exact ⟨f12,_,cls_Unlike,⟨a12_Unlike,fn12,F12.kp⟩,(T12.mono (by decide)).imp (fun vs H Q E h=>⟨.Unlike,h⟩),bd12⟩ | Sum=>exact ⟨f12,_,cls_Sum,⟨a12_Sum,fn12,F12.kp⟩,(T12.mono (by decide)).imp (fun vs H Q E h=>⟨.Sum,h⟩),bd12⟩ | Rising=>exact ⟨f12,_,cls_Rising,⟨a12_Rising,fn12,F12.kp⟩,(T12.mono (by decide)).imp (fun vs H Q E h=>⟨.Rising,h⟩),bd12⟩ | Seen=>exact ⟨f12,_,cls_Seen,⟨a12_Seen,fn12,F12.kp⟩,(T12.mono (by decide)).imp (fun vs H Q E h=>⟨.Seen,h⟩),bd12⟩ | Count=>exact ⟨f12,_,cls_Count,⟨a12_Count,fn12,F12.kp⟩,(T12.mono (by decide)).imp (fun vs H Q E h=>⟨.Count,h⟩),bd12⟩ | Joined=>exact ⟨f12,_,cls_Joined,⟨a12_Joined,fn12,F12.kp⟩,(T12.mono (by decide)).imp (fun vs H Q E h=>⟨.Joined,h⟩),bd12⟩ | NoSquare=>exact ⟨f12,_,cls_NoSquare,⟨a12_NoSquare,fn12,F12.kp⟩,(T12.mono (by decide)).imp (fun vs H Q E h=>⟨.NoSquare,h⟩),bd12⟩ | Ring=>exact ⟨f12,_,cls_Ring,⟨a12_Ring,fn12,F12.kp⟩,(T12.mono (by decide)).imp (fun vs H Q E h=>⟨.Ring,h⟩),bd12⟩⟩
 have BK:Cal l.prog w K mg base _ _ _ (c5 K):=lw (q5 B Cz AJ F13) F13 (PySem.W.mg_of X G a13)
 have bd14:Binds K fd14 ["self"] []:=ky F14
 have T14:FnOk l.prog w K mg base CX0 1 f14 fd14 _ (dU K c d):=om (c:=c) (d:=d) B FK_d_floor F14
 have zL:MCal l.prog w K mg base d d.ok 1 "place" ["self"] (eD K c d):=⟨fun i hi=>by cases i; exact ⟨f14,_,cls_Puzzle,⟨a14_Puzzle,fn14,F14.kp⟩,(T14.mono (by decide)).imp (fun vs H Q E h=>h),bd14⟩⟩
 have bd15:Binds K fd15 ["self"] []:=ky F15
 have T15:FnOk l.prog w K mg base CX0 1 f15 fd15 _ (dX K c d):=on (c:=c) (d:=d) B FK_d_given F15
 have D8:MCal l.prog w K mg base d d.ok 1 "clues" ["self"] (km K c d):=⟨fun i hi=>by cases i; exact ⟨f15,_,cls_Puzzle,⟨a15_Puzzle,fn15,F15.kp⟩,(T15.mono (by decide)).imp (fun vs H Q E h=>h),bd15⟩⟩
 have bd16:Binds K fd16 ["self"] []:=ky F16
 have T16:FnOk l.prog w K mg base CX0 1 f16 fd16 _ (dZ K c d):=oq (c:=c) (d:=d) B FK_d_laws F16
 have zK:MCal l.prog w K mg base d d.ok 1 "rules" ["self"] (eE K c d):=⟨fun i hi=>by cases i; exact ⟨f16,_,cls_Puzzle,⟨a16_Puzzle,fn16,F16.kp⟩,(T16.mono (by decide)).imp (fun vs H Q E h=>h),bd16⟩⟩
 have y2:Cal l.prog w K mg base _ _ _ (aV K):=cx (or B F17) F17 (PySem.W.mg_of X G a17)
 have Bx:Cal l.prog w K mg base _ _ _ (cb K):=lw (pK B F18) F18 (PySem.W.mg_of X G a18)
 have Av:Cal l.prog w K mg base _ _ _ (bx K):=cx (mT B F19) F19 (PySem.W.mg_of X G a19)
 have BP:Cal l.prog w K mg base _ _ _ (cr K):=g8 (ra B F20) F20 (PySem.W.mg_of X G a20)
 have yZ:Cal l.prog w K mg base _ _ _ (aT K):=cx (l7 B yW F21) F21 (PySem.W.mg_of X G a21)
 have y9:Cal l.prog w K mg base _ _ _ (b4 K):=cx (vj B Am F22) F22 (PySem.W.mg_of X G a22)
 have BL:Cal l.prog w K mg base _ _ _ (cY K):=cx (rb B Am F23) F23 (PySem.W.mg_of X G a23)
 have CA:Cal l.prog w K mg base _ _ _ (fb K):=cx (tI B Du y7 F24) F24 (PySem.W.mg_of X G a24)
 have BQ:Cal l.prog w K mg base _ _ _ (dI K):=lw (rM B y7 F25) F25 (PySem.W.mg_of X G a25)
 have An:Cal l.prog w K mg base _ _ _ (cK K):=cx (tJ B yW yR F26) F26 (PySem.W.mg_of X G a26)
 have CB:Cal l.prog w K mg base _ _ _ (fc K c):=cx (tK (c:=c) B Ew Ap F27) F27 (PySem.W.mg_of X G a27)
 have y8:Cal l.prog w K mg base _ _ _ (bP K c):=cx (vk (c:=c) B zJ F28) F28 (PySem.W.mg_of X G a28)
 have zd:Cal l.prog w K mg base _ _ _ (b2 K):=cx (rN B y7 F29) F29 (PySem.W.mg_of X G a29)
 have y4:Cal l.prog w K mg base _ _ _ (be K):=g8 (mW B BK F30) F30 (PySem.W.mg_of X G a30)
 have Bs:Cal l.prog w K mg base _ _ _ (cC K):=g8 (pL B yW yR F31) F31 (PySem.W.mg_of X G a31)
 have BS:Cal l.prog w K mg base _ _ _ (dH K):=g8 (rO B yZ Bq AZ Br F32) F32 (PySem.W.mg_of X G a32)
 have CC:Cal l.prog w K mg base _ _ _ (eV K):=lw (tL B BL yR BM F33) F33 (PySem.W.mg_of X G a33)
 have BH:Cal l.prog w K mg base _ _ _ (dv K):=g8 (tM B y9 F34) F34 (PySem.W.mg_of X G a34)
 have y0:Cal l.prog w K mg base _ _ _ (bf K):=cx (rP B CA F35) F35 (PySem.W.mg_of X G a35)
 have Ao:Cal l.prog w K mg base _ _ _ (cL K):=cx (tN B yZ F36) F36 (PySem.W.mg_of X G a36)
 have AK:Cal l.prog w K mg base _ _ _ (b8 K c d):=we (ot (c:=c) (d:=d) B CB yW zK zJ F37) F37 (PySem.W.mg_of X G a37)
 have AN:Cal l.prog w K mg base _ _ _ (ce K c):=tF (ou (c:=c) B zf y8 BQ F38) F38 (PySem.W.mg_of X G a38)
 have Dy:Cal l.prog w K mg base _ _ _ (fP K):=g8 (vm B y9 F39) F39 (PySem.W.mg_of X G a39)
 have zM:Cal l.prog w K mg base _ _ _ (bn K):=g8 (ow B y4 F40) F40 (PySem.W.mg_of X G a40)
 have Bu:Cal l.prog w K mg base _ _ _ (cA K):=cx (pM B yR y4 F41) F41 (PySem.W.mg_of X G a41)
 have CD:Cal l.prog w K mg base _ _ _ (e9 K c):=tF (tO (c:=c) B D7 Dv BR Ex Dw Ey K_Sum Dx F42) F42 (PySem.W.mg_of X G a42)
 have At:Cal l.prog w K mg base _ _ _ (bV K):=cx (mY B Bs F43) F43 (PySem.W.mg_of X G a43)
 have BO:Cal l.prog w K mg base _ _ _ (cq K c d):=cx (rd (c:=c) (d:=d) B AK An Ao yW zL G_KINDS F44) F44 (PySem.W.mg_of X G a44)
 have za:Cal l.prog w K mg base _ _ _ (bD K):=cx (re B y0 F45) F45 (PySem.W.mg_of X G a45)
 have AM:Cal l.prog w K mg base _ _ _ (ca K c):=tF (ox (c:=c) B y0 y8 F46) F46 (PySem.W.mg_of X G a46)
 have Aq:Cal l.prog w K mg base _ _ _ (bW K c):=tG (mZ (c:=c) B Ao zd y3 y8 zJ F47) F47 (PySem.W.mg_of X G a47)
 have z6:Cal l.prog w K mg base _ _ _ (bH K):=g8 (l8 B CC F48) F48 (PySem.W.mg_of X G a48)
 have zb:Cal l.prog w K mg base _ _ _ (aY K):=tF (ju B y0 An F49) F49 (PySem.W.mg_of X G a49)
 have BT:Cal l.prog w K mg base _ _ _ (dG K):=g8 (rQ B yR Bu G_OF_ALL_CELLS F50) F50 (PySem.W.mg_of X G a50)
 have Au:Cal l.prog w K mg base _ _ _ (bU K):=lw (m3 B BS F51) F51 (PySem.W.mg_of X G a51)
 have zN:Cal l.prog w K mg base _ _ _ (bh K c d):=g8 (lF (c:=c) (d:=d) B AL AM AN Aq D8 zL zK F52) F52 (PySem.W.mg_of X G a52)
 have z7:Cal l.prog w K mg base _ _ _ (bI K c):=tG (l9 (c:=c) B za y3 z6 Ar F53) F53 (PySem.W.mg_of X G a53)
 have As:Cal l.prog w K mg base _ _ _ (bX K c):=tG (m4 (c:=c) B zb y8 BH y7 Ar F54) F54 (PySem.W.mg_of X G a54)
 have AO:Cal l.prog w K mg base _ _ _ (cf K c):=tG (oy (c:=c) B Dy y9 y0 zd za y3 Ar F55) F55 (PySem.W.mg_of X G a55)
 have BN:Cal l.prog w K mg base _ _ _ (c6 K c):=cx (rf (c:=c) B BT zM CD A0 G_WITH_NUMBER G_WITH_SIGN F56) F56 (PySem.W.mg_of X G a56)
 have zg:Cal l.prog w K mg base _ _ _ (a9 K c d):=g8 (kH (c:=c) (d:=d) B As z7 AO zL zK F57) F57 (PySem.W.mg_of X G a57)
 have Bw:Cal l.prog w K mg base _ _ _ (cB K c):=cx (pN (c:=c) B BN Bv F58) F58 (PySem.W.mg_of X G a58)
 have CF:Cal l.prog w K mg base _ _ _ (c7 K c d):=g8 (tP (c:=c) (d:=d) B zN zg G_LINE_KINDS G_NUMBER_KINDS F59) F59 (PySem.W.mg_of X G a59)
 have bd60:Binds K fd60 ["self","floor","lines","clues"] []:=wp F60
 have T60:FnOk l.prog w K mg base CX0 7 f60 fd60 _ (aX K c d):=lH (c:=c) (d:=d) B At Au Bw FK_d_floor FK_d_given FK_d_laws F60
 have Dz:KCal l.prog w K mg base _ "Puzzle" (d.A .Puzzle) _ (aX K c d):=⟨f60,_,⟨Ch,BY,fn60,Ci⟩,T60,PySem.W.mg_of X G DF,bd60⟩
 have CG:Cal l.prog w K mg base _ _ _ (c8 K c d):=g8 (tQ (c:=c) (d:=d) B BO CF F61) F61 (PySem.W.mg_of X G a61)
 have z5:Cal l.prog w K mg base _ _ _ (bz K c d):=we (rg (c:=c) (d:=d) B CG F62) F62 (PySem.W.mg_of X G a62)
 exact (yg (c:=c) (d:=d) B BP y2 Bx Av z5 Dz F63).imp fun vs H Q E h=>by obtain ⟨a,ns,e,hS,hn,k⟩:=h; exact ⟨a,ns,e,hS,hn,fun k hk=>by cases k <;> first | rfl | exact absurd rfl hk,rfl,k⟩
theorem walk {l:PySem.W.OpenLaw} {q:Program} {loose:List Str} {XP:(Str→Option Value)→Heap→Prop} {YP:World→Heap→Prop} {d:DefRec} {K:Params→PySem.W.Frag} (hn:l.most=some 63) (hdf:d.params.defaults=[])
  (hY:∀ (w:World) (h:Heap),YP w h→(K w.params).In h)
  (F:∀ (w:World) (mg:Str→Option Value) (fa:Addr) (h:Heap),(K w.params).In h→h.Ns mainGlobals mg→mg d.name=some (.ref fa)→
   ∃ fd:FuncData,(∀ (s:Shared) (u:Value),BindsTo s fd ⟨[u],[]⟩ [("_law_script",u)])∧∀ base:Heap,(K w.params).In base→base.Ns mainGlobals mg→FnOk l.prog w (K w.params) mg base CX0 10 fa fd ["_law_script"] (oV (K w.params))):
  PySem.W.WalkO q loose XP YP l.row.toRowW d [] (fun f vs=>PySem.call f vs):=
 L2.wE (n:=63) (k:=10) (x:="_law_script") (CX:=fun _=>CX0) (sp:=fun w=>oV (K w.params)) hn (by decide) hdf ⟨rfl,by decide,by decide⟩ hY F (fun _ _ a ns hl _ hS=>⟨a,ns,rfl,hS,hl,fun _=>rfl⟩) fun _ _ _ _ _ z=>z
end L2
namespace PySem.W.Fast
def tw13282140735338628868:=()
def tw4620213974448991657:=()
def tw3968771505032026209:=()
def tw1773067839827886003:=()
def tw16325597134403506933:=()
def tw2993835138269783936:=()
def tw10807636241925150435:=()
def tw6110680592186864041:=()
def tw8405408256258146683:=()
def tw14028701371565728380:=()
def tw8815560991221311718:=()
def tw709301392660947022:=()
def tw10121147516570518232:=()
def tw17742317894745968582:=()
def tw365351848204298762:=()
def tw3680818538080542869:=()
def tw9936391577845916401:=()
def tw6982566106620122730:=()
def tw13047984677933049785:=()
def tw14278211917976512662:=()
def tw8959026513200214026:=()
def tw1202862392592564681:=()
def tw8630107712851811876:=()
def tw3607605702513538389:=()
def tw10267432473800639813:=()
def tw4485949664618783691:=()
def tw11239420457357548886:=()
def tw1875833274067478842:=()
def tw11771684804929910153:=()
def tw3545792387183123001:=()
def tw2312101767164887179:=()
def tw2735374681295694415:=()
def tw660092122939000854:=()
def tw14560599986031990245:=()
def tw6952906764289066566:=()
def tw4829995794532796580:=()
def tw5677506658538216846:=()
def tw4405879842390096265:=()
def tw17793262719305911142:=()
def tw15208350457685632810:=()
def tw679477498977396685:=()
def tw6971958985948414014:=()
def tw12451741799325025812:=()
def tw15307406605950411374:=()
def tw11405066841521229034:=()
def tw12732632766663824093:=()
def tw11391876214665425967:=()
def tw15386510083524886817:=()
def tw10172086973197611000:=()
def tw6946921602887231894:=()
def tw14123236855688247731:=()
def tw7979946852608913809:=()
def tw12554639780336430392:=()
def tw17742706033671337981:=()
def tw11874324963145816526:=()
def tw6317676132898679779:=()
def tw3268328565452349749:=()
def tw6977737309512998152:=()
def tw15857770923806177212:=()
def tw1304527150334803570:=()
def tw669651166146897324:=()
def tw9680828577546750724:=()
def tw7069226524920665658:=()
def tw4959789558367793752:=()
def tw6174495202695051477:=()
def tw6731867525907175739:=()
def tw4754287951281139596:=()
def tw14512206051131409517:=()
def tw12117296338184862506:=()
def tw18290288851733499813:=()
def tw2974917464765171611:=()
def tw13925118570711637669:=()
def tw3862587015865579439:=()
def tw7399457038789813976:=()
def tw5960800805988702622:=()
def tw7739363765256292868:=()
def tw3595367269671105094:=()
def tw10645975563132281006:=()
def tw7529687760512269434:=()
def tw13386428178374000201:=()
def tw11436303965826238439:=()
def tw11972974382207923642:=()
def tw8305169600437197399:=()
def tw15083365483472074509:=()
def tw967067864096150644:=()
def tw14904060262323718495:=()
def tw3063887968284247469:=()
def tw14338355764701552437:=()
def tw919465455693624058:=()
def tw9439053259096536216:=()
def tw385891335379978076:=()
def tw104539857574598277:=()
def tw7612349965212388156:=()
def tw9109828269258071458:=()
def tw11697810734917649407:=()
def tw3083802963294272362:=()
def tw13661277044197501791:=()
def tw6628841370052648011:=()
def tw12795488215147619820:=()
def tw3578307704433442285:=()
def tw124724498066954006:=()
def tw17488536114949306077:=()
def tw16511462130666989460:=()
def tw7510383631589461341:=()
def tw7691062240473710808:=()
def tw8847747068376573268:=()
def tw16771298541592977962:=()
def tw9330367004907584852:=()
def tw16301405959222162352:=()
def tw10959804911428695141:=()
def tw13302058388476157385:=()
def tw14337638032234108776:=()
def tw359117925988544257:=()
def tw15807398730502279994:=()
def tw1617052399681357347:=()
def tw6844180884514041426:=()
def tw10418534084349057159:=()
def tw17781847545318213630:=()
def tw607159451120425380:=()
def tw15929384220209419614:=()
def tw5351511826180542978:=()
def tw2283279936909963902:=()
def tw16299373460720787489:=()
def tw13697251608496331008:=()
def tw9050138230718185796:=()
def tw12536197232113765321:=()
def tw17614147674606967124:=()
def tw5034541978917158377:=()
def tw14265157358465429028:=()
def tw14415811943867492898:=()
def tw4661743771004595646:=()
def tw11601063169903233201:=()
def tw6819268731396314254:=()
def tw1741898255491990561:=()
def tw5098806518326088073:=()
def tw1427590930395569288:=()
def tw6992228571760681972:=()
def tw7031280029695643916:=()
def tw8351863328436120297:=()
def tw8033898881209196098:=()
def tw4301848853733569095:=()
def tw12344966318428226770:=()
def tw16490376052021512487:=()
def tw4573366093078214584:=()
def tw7391783955818659912:=()
def tw5600730060571953410:=()
def tw5280147316619550249:=()
def tw14587553005009666453:=()
def tw12628951973367637111:=()
def tw6539091046625312316:=()
def tw10644859407987304058:=()
def tw641412772050970505:=()
def tw9323586001581841897:=()
def tw14396824299343419311:=()
def tw3751095162058254766:=()
def tw6213457390016595220:=()
def tw11023656939908980173:=()
def tw9288561174215246480:=()
def tw1067283825724835024:=()
def tw7449496143873874244:=()
def tw5859979492481272008:=()
def tw15561917008936778457:=()
def tw108911557530830763:=()
def tw15231276364164030863:=()
def tw10889661420224116214:=()
def tw786657839153694098:=()
def tw5231432391167013331:=()
def tw9629593332356832282:=()
def tw15435228043335434609:=()
def tw8282011787393786676:=()
def tw9810954223629780773:=()
def tw2396022421172219712:=()
def tw300260312100923301:=()
def tw8894434043930998044:=()
def tw17879287189228330696:=()
def tw3561218420681897547:=()
def tw13830900536094784275:=()
def tw13367284479348743683:=()
def tw13201410068987066093:=()
def tw11641035650581786469:=()
def tw16235190578417344584:=()
def tw10441212920484370878:=()
def tw10146433757092648931:=()
def tw11849528309618048749:=()
def tw2774895631392718720:=()
def tw10174971062275769658:=()
def tw9770231706567643385:=()
def tw6946002464558644628:=()
def tw17143531677621377092:=()
def tw16110848875629206377:=()
def tw2398012128034162981:=()
def tw9656531964040825381:=()
def tw9780518436993235752:=()
def tw17978859059920717364:=()
def tw13747739851050511979:=()
def tw17673642284064685799:=()
def tw747703892094191144:=()
def tw638279738723983663:=()
def tw3885958599126650388:=()
def tw69623788858647191:=()
def tw15093466092387210494:=()
def tw3713558619551967168:=()
def tw9619010542661360129:=()
def tw11656783197751071479:=()
def tw2929292391175108727:=()
def tw12780590455623997364:=()
def tw8956878139825873749:=()
def tw12161238215538329721:=()
def tw13999572187886790:=()
def tw3297383838291373671:=()
def tw9834259829822088881:=()
def tw10325213812346651839:=()
def tw12238430338128049534:=()
def tw4198905590580209132:=()
def tw13944828201910105122:=()
def tw6993121221687903400:=()
def tw7517323235203707845:=()
def tw16135542749928701848:=()
def tw5508959507714565913:=()
def tw17097690961823282661:=()
def tw8564415644752007778:=()
def tw2065635970005362142:=()
def tw5720742619842172643:=()
def tw16750867230845004514:=()
def tw5430593633023217276:=()
def tw13555872984566268607:=()
def tw7913420832512220390:=()
def tw3860284344261370740:=()
def tw1841987359571038231:=()
def tw18016122579123688163:=()
def tw311216253494558318:=()
def tw15392499463194717729:=()
def tw11587496062050132315:=()
def tw13773046473214182790:=()
def tw9177597843977025663:=()
def tw12855845660529695718:=()
def tw698012531986555549:=()
def tw16861908803338702654:=()
def tw10646491995967648125:=()
def tw10227788372437614771:=()
def tw18410226564780016450:=()
def tw16412915366509806673:=()
def tw10231876836067041893:=()
def tw10425906526173130813:=()
def tw10836370688662867665:=()
def tw12926353200431066283:=()
def tw5282048447825239921:=()
def tw12883615509950672648:=()
def tw836890269806202473:=()
def tw10794810395976145590:=()
def tw5081525951638149968:=()
def tw13675302329538595588:=()
def tw6409343270740720234:=()
def tw15624566959417748220:=()
def tw6522661102269129852:=()
def tw3297272010617946169:=()
def tw2799999397041712618:=()
def tw889704308347418728:=()
def tw4575706221536007975:=()
def tw5694395614094039631:=()
def tw6345226243255606674:=()
def tw8297425447444637422:=()
def tw4725357519975334850:=()
def tw6982855338268402509:=()
def tw18064044101121766251:=()
def tw2301361130148143755:=()
def tw9148139494828907291:=()
def tw11945147758197377888:=()
def tw16596430653113738936:=()
def tw3559717874314920732:=()
def tw5522384014239341010:=()
def tw17681528206767111241:=()
def tw9377706101143439040:=()
end PySem.W.Fast
open PySem PySem.W PyProof.Rows
set_option maxRecDepth 100000 in
set_option maxHeartbeats 0 in
theorem PySem.Challenge.cw_cluemaker_k32_thoughts_of_no_form_holds : PySem.Challenge.rw_cluemaker_k32_thoughts_of_no_form.Holds := by
  w_on; o_law; k_head; (case hw => w_witness2)
  k_fill
  refine L2.walk (l := PySem.Challenge.rw_cluemaker_k32_thoughts_of_no_form) rfl rfl (fun w h Y => PySem.W.kIn_of Y) ?F
  case F =>
    intro w mg fa h KX G hmg
    refine' L2.yh KX G hmg ?DC ?q_Sum ?DD ?EG ?Ef ?DE ?BU ?EH ?DF ?a0 ?a1 ?a2 ?a3 ?a4 ?a5 ?a6 ?a7 ?a8 ?BV ?Eg ?BW ?DG ?C2 ?BX ?Bz ?DH ?a10_Unlike ?a10_Sum ?a10_Rising ?a10_Seen ?a10_Count ?a10_Joined ?a10_NoSquare ?a10_Ring ?a11_Unlike ?a11_Sum ?a11_Rising ?a11_Seen ?a11_Count ?a11_Joined ?a11_NoSquare ?a11_Ring ?a12_Unlike ?a12_Sum ?a12_Rising ?a12_Seen ?a12_Count ?a12_Joined ?a12_NoSquare ?a12_Ring ?a13 ?a14_Puzzle ?a15_Puzzle ?a16_Puzzle ?a17 ?a18 ?a19 ?a20 ?a21 ?a22 ?a23 ?a24 ?a25 ?a26 ?a27 ?a28 ?a29 ?a30 ?a31 ?a32 ?a33 ?a34 ?a35 ?a36 ?a37 ?a38 ?a39 ?a40 ?a41 ?a42 ?a43 ?a44 ?a45 ?a46 ?a47 ?a48 ?a49 ?a50 ?a51 ?a52 ?a53 ?a54 ?a55 ?a56 ?a57 ?a58 ?a59 ?BY ?a61 ?a62 ?a63 ?F0 ?F1 ?F2 ?F3 ?F4 ?F5 ?F6 ?F7 ?F8 ?F9 ?fn9 ?F10 ?fn10 ?F11 ?fn11 ?F12 ?fn12 ?F13 ?F14 ?fn14 ?F15 ?fn15 ?F16 ?fn16 ?F17 ?F18 ?F19 ?F20 ?F21 ?F22 ?F23 ?F24 ?F25 ?F26 ?F27 ?F28 ?F29 ?F30 ?F31 ?F32 ?F33 ?F34 ?F35 ?F36 ?F37 ?F38 ?F39 ?F40 ?F41 ?F42 ?F43 ?F44 ?F45 ?F46 ?F47 ?F48 ?F49 ?F50 ?F51 ?F52 ?F53 ?F54 ?F55 ?F56 ?F57 ?F58 ?F59 ?F60 ?fn60 ?F61 ?F62 ?F63 ?BZ ?B0 ?B1 ?B2 ?B3 ?B4 ?Eh ?Ei ?Ej ?Ek ?El ?Em ?B5 ?B6 ?B7 ?B8 ?B9 ?Ca ?DI ?DJ ?DK ?DL ?DM ?DN ?C3 ?C4 ?C5 ?C6 ?C7 ?C8 ?Cb ?Cc ?Cd ?Ce ?Cf ?Cg ?BA ?BB ?BC ?BD ?BE ?BF ?DO ?DP ?DQ ?DR ?DS ?DT ?Ch ?Ci ?Cj ?Ck ?Cl ?Cm ?zF ?Ay ?zG ?z9 ?zO ?zH ?ze ?Aa ?zP ?AR ?zQ ?Az ?Ab ?zR ?zh ?AA ?zS ?AS ?zT ?AB ?Ac ?zU ?zi ?AC ?Ad ?A2 ?Ae ?AT ?AD ?Af ?zI ?AU ?zV ?AV ?zW ?AE ?Ag ?zX ?zj ?AF ?zY ?zZ ?Ah ?C9 ?Da ?AW ?AX ?Ai ?Aj ?Ak ?Al ?AG ?AH ?A3 ?A4 ?z3 ?z4 ?zk ?zl ?zm ?zn ?zo ?zp ?zq ?zt ?zu ?zv ?zw ?zx ?zy ?zA ?zB ?zC ?zD ?zE ?Cn ?A5 ?AI ?AY ?A6 ?BG ?A7 ?z_len ?z_abs ?z_min ?z_max ?z_sorted ?z_any ?z_isinstance ?z_list ?z_int ?z_bool ?z_str ?z_tuple ?z_reversed ?z_set ?z_range ?z_zip ?z_all ?z_sum ?z_enumerate
    (case DC => k_is)
    (case q_Sum => k_is)
    (case DD => k_is)
    (case EG => k_is)
    (case Ef => k_is)
    (case DE => k_is)
    (case BU => k_is)
    (case EH => k_is)
    (case DF => k_is)
    (case a0 => k_is)
    (case a1 => k_is)
    (case a2 => k_is)
    (case a3 => k_is)
    (case a4 => k_is)
    (case a5 => k_is)
    (case a6 => k_is)
    (case a7 => k_is)
    (case a8 => k_is)
    (case BV => k_is)
    (case Eg => k_is)
    (case BW => k_is)
    (case DG => k_is)
    (case C2 => k_is)
    (case BX => k_is)
    (case Bz => k_is)
    (case DH => k_is)
    (case a10_Unlike => k_is)
    (case a10_Sum => k_is)
    (case a10_Rising => k_is)
    (case a10_Seen => k_is)
    (case a10_Count => k_is)
    (case a10_Joined => k_is)
    (case a10_NoSquare => k_is)
    (case a10_Ring => k_is)
    (case a11_Unlike => k_is)
    (case a11_Sum => k_is)
    (case a11_Rising => k_is)
    (case a11_Seen => k_is)
    (case a11_Count => k_is)
    (case a11_Joined => k_is)
    (case a11_NoSquare => k_is)
    (case a11_Ring => k_is)
    (case a12_Unlike => k_is)
    (case a12_Sum => k_is)
    (case a12_Rising => k_is)
    (case a12_Seen => k_is)
    (case a12_Count => k_is)
    (case a12_Joined => k_is)
    (case a12_NoSquare => k_is)
    (case a12_Ring => k_is)
    (case a13 => k_is)
    (case a14_Puzzle => k_is)
    (case a15_Puzzle => k_is)
    (case a16_Puzzle => k_is)
    (case a17 => k_is)
    (case a18 => k_is)
    (case a19 => k_is)
    (case a20 => k_is)
    (case a21 => k_is)
    (case a22 => k_is)
    (case a23 => k_is)
    (case a24 => k_is)
    (case a25 => k_is)
    (case a26 => k_is)
    (case a27 => k_is)
    (case a28 => k_is)
    (case a29 => k_is)
    (case a30 => k_is)
    (case a31 => k_is)
    (case a32 => k_is)
    (case a33 => k_is)
    (case a34 => k_is)
    (case a35 => k_is)
    (case a36 => k_is)
    (case a37 => k_is)
    (case a38 => k_is)
    (case a39 => k_is)
    (case a40 => k_is)
    (case a41 => k_is)
    (case a42 => k_is)
    (case a43 => k_is)
    (case a44 => k_is)
    (case a45 => k_is)
    (case a46 => k_is)
    (case a47 => k_is)
    (case a48 => k_is)
    (case a49 => k_is)
    (case a50 => k_is)
    (case a51 => k_is)
    (case a52 => k_is)
    (case a53 => k_is)
    (case a54 => k_is)
    (case a55 => k_is)
    (case a56 => k_is)
    (case a57 => k_is)
    (case a58 => k_is)
    (case a59 => k_is)
    (case BY => k_is)
    (case a61 => k_is)
    (case a62 => k_is)
    (case a63 => k_is)
    (case F0 => (refine' L2.aA ?l ?c ?k; (case l => k_is); (case c => k_is); case k => k_is))
    (case F1 => (refine' L2.aA ?l ?c ?k; (case l => k_is); (case c => k_is); case k => k_is))
    (case F2 => (refine' L2.aA ?l ?c ?k; (case l => k_is); (case c => k_is); case k => k_is))
    (case F3 => (refine' L2.aA ?l ?c ?k; (case l => k_is); (case c => k_is); case k => k_is))
    (case F4 => (refine' L2.aA ?l ?c ?k; (case l => k_is); (case c => k_is); case k => k_is))
    (case F5 => (refine' L2.aA ?l ?c ?k; (case l => k_is); (case c => k_is); case k => k_is))
    (case F6 => (refine' L2.aA ?l ?c ?k; (case l => k_is); (case c => k_is); case k => k_is))
    (case F7 => (refine' L2.aA ?l ?c ?k; (case l => k_is); (case c => k_is); case k => k_is))
    (case F8 => (refine' L2.aA ?l ?c ?k; (case l => k_is); (case c => k_is); case k => k_is))
    (case F9 => (refine' L2.aA ?l ?c ?k; (case l => k_is); (case c => k_is); case k => k_is))
    (case fn9 => k_is)
    (case F10 => (refine' L2.aA ?l ?c ?k; (case l => k_is); (case c => k_is); case k => k_is))
    (case fn10 => k_is)
    (case F11 => (refine' L2.aA ?l ?c ?k; (case l => k_is); (case c => k_is); case k => k_is))
    (case fn11 => k_is)
    (case F12 => (refine' L2.aA ?l ?c ?k; (case l => k_is); (case c => k_is); case k => k_is))
    (case fn12 => k_is)
    (case F13 => (refine' L2.aA ?l ?c ?k; (case l => k_is); (case c => k_is); case k => k_is))
    (case F14 => (refine' L2.aA ?l ?c ?k; (case l => k_is); (case c => k_is); case k => k_is))
    (case fn14 => k_is)
    (case F15 => (refine' L2.aA ?l ?c ?k; (case l => k_is); (case c => k_is); case k => k_is))
    (case fn15 => k_is)
    (case F16 => (refine' L2.aA ?l ?c ?k; (case l => k_is); (case c => k_is); case k => k_is))
    (case fn16 => k_is)
    (case F17 => (refine' L2.aA ?l ?c ?k; (case l => k_is); (case c => k_is); case k => k_is))
    (case F18 => (refine' L2.aA ?l ?c ?k; (case l => k_is); (case c => k_is); case k => k_is))
    (case F19 => (refine' L2.aA ?l ?c ?k; (case l => k_is); (case c => k_is); case k => k_is))
    (case F20 => (refine' L2.aA ?l ?c ?k; (case l => k_is); (case c => k_is); case k => k_is))
    (case F21 => (refine' L2.aA ?l ?c ?k; (case l => k_is); (case c => k_is); case k => k_is))
    (case F22 => (refine' L2.aA ?l ?c ?k; (case l => k_is); (case c => k_is); case k => k_is))
    (case F23 => (refine' L2.aA ?l ?c ?k; (case l => k_is); (case c => k_is); case k => k_is))
    (case F24 => (refine' L2.aA ?l ?c ?k; (case l => k_is); (case c => k_is); case k => k_is))
    (case F25 => (refine' L2.aA ?l ?c ?k; (case l => k_is); (case c => k_is); case k => k_is))
    (case F26 => (refine' L2.aA ?l ?c ?k; (case l => k_is); (case c => k_is); case k => k_is))
    (case F27 => (refine' L2.aA ?l ?c ?k; (case l => k_is); (case c => k_is); case k => k_is))
    (case F28 => (refine' L2.aA ?l ?c ?k; (case l => k_is); (case c => k_is); case k => k_is))
    (case F29 => (refine' L2.aA ?l ?c ?k; (case l => k_is); (case c => k_is); case k => k_is))
    (case F30 => (refine' L2.aA ?l ?c ?k; (case l => k_is); (case c => k_is); case k => k_is))
    (case F31 => (refine' L2.aA ?l ?c ?k; (case l => k_is); (case c => k_is); case k => k_is))
    (case F32 => (refine' L2.aA ?l ?c ?k; (case l => k_is); (case c => k_is); case k => k_is))
    (case F33 => (refine' L2.aA ?l ?c ?k; (case l => k_is); (case c => k_is); case k => k_is))
    (case F34 => (refine' L2.aA ?l ?c ?k; (case l => k_is); (case c => k_is); case k => k_is))
    (case F35 => (refine' L2.aA ?l ?c ?k; (case l => k_is); (case c => k_is); case k => k_is))
    (case F36 => (refine' L2.aA ?l ?c ?k; (case l => k_is); (case c => k_is); case k => k_is))
    (case F37 => (refine' L2.aA ?l ?c ?k; (case l => k_is); (case c => k_is); case k => k_is))
    (case F38 => (refine' L2.aA ?l ?c ?k; (case l => k_is); (case c => k_is); case k => k_is))
    (case F39 => (refine' L2.aA ?l ?c ?k; (case l => k_is); (case c => k_is); case k => k_is))
    (case F40 => (refine' L2.aA ?l ?c ?k; (case l => k_is); (case c => k_is); case k => k_is))
    (case F41 => (refine' L2.aA ?l ?c ?k; (case l => k_is); (case c => k_is); case k => k_is))
    (case F42 => (refine' L2.aA ?l ?c ?k; (case l => k_is); (case c => k_is); case k => k_is))
    (case F43 => (refine' L2.aA ?l ?c ?k; (case l => k_is); (case c => k_is); case k => k_is))
    (case F44 => (refine' L2.aA ?l ?c ?k; (case l => k_is); (case c => k_is); case k => k_is))
    (case F45 => (refine' L2.aA ?l ?c ?k; (case l => k_is); (case c => k_is); case k => k_is))
    (case F46 => (refine' L2.aA ?l ?c ?k; (case l => k_is); (case c => k_is); case k => k_is))
    (case F47 => (refine' L2.aA ?l ?c ?k; (case l => k_is); (case c => k_is); case k => k_is))
    (case F48 => (refine' L2.aA ?l ?c ?k; (case l => k_is); (case c => k_is); case k => k_is))
    (case F49 => (refine' L2.aA ?l ?c ?k; (case l => k_is); (case c => k_is); case k => k_is))
    (case F50 => (refine' L2.aA ?l ?c ?k; (case l => k_is); (case c => k_is); case k => k_is))
    (case F51 => (refine' L2.aA ?l ?c ?k; (case l => k_is); (case c => k_is); case k => k_is))
    (case F52 => (refine' L2.aA ?l ?c ?k; (case l => k_is); (case c => k_is); case k => k_is))
    (case F53 => (refine' L2.aA ?l ?c ?k; (case l => k_is); (case c => k_is); case k => k_is))
    (case F54 => (refine' L2.aA ?l ?c ?k; (case l => k_is); (case c => k_is); case k => k_is))
    (case F55 => (refine' L2.aA ?l ?c ?k; (case l => k_is); (case c => k_is); case k => k_is))
    (case F56 => (refine' L2.aA ?l ?c ?k; (case l => k_is); (case c => k_is); case k => k_is))
    (case F57 => (refine' L2.aA ?l ?c ?k; (case l => k_is); (case c => k_is); case k => k_is))
    (case F58 => (refine' L2.aA ?l ?c ?k; (case l => k_is); (case c => k_is); case k => k_is))
    (case F59 => (refine' L2.aA ?l ?c ?k; (case l => k_is); (case c => k_is); case k => k_is))
    (case F60 => (refine' L2.aA ?l ?c ?k; (case l => k_is); (case c => k_is); case k => k_is))
    (case fn60 => k_is)
    (case F61 => (refine' L2.aA ?l ?c ?k; (case l => k_is); (case c => k_is); case k => k_is))
    (case F62 => (refine' L2.aA ?l ?c ?k; (case l => k_is); (case c => k_is); case k => k_is))
    (case F63 => (refine' L2.aA ?l ?c ?k; (case l => k_is); (case c => k_is); case k => k_is))
    (case BZ => k_is)
    (case B0 => k_is)
    (case B1 => k_is)
    (case B2 => k_is)
    (case B3 => k_is)
    (case B4 => k_is)
    (case Eh => k_is)
    (case Ei => k_is)
    (case Ej => k_is)
    (case Ek => k_is)
    (case El => k_is)
    (case Em => k_is)
    (case B5 => k_is)
    (case B6 => k_is)
    (case B7 => k_is)
    (case B8 => k_is)
    (case B9 => k_is)
    (case Ca => k_is)
    (case DI => k_is)
    (case DJ => k_is)
    (case DK => k_is)
    (case DL => k_is)
    (case DM => k_is)
    (case DN => k_is)
    (case C3 => k_is)
    (case C4 => k_is)
    (case C5 => k_is)
    (case C6 => k_is)
    (case C7 => k_is)
    (case C8 => k_is)
    (case Cb => k_is)
    (case Cc => k_is)
    (case Cd => k_is)
    (case Ce => k_is)
    (case Cf => k_is)
    (case Cg => k_is)
    (case BA => k_is)
    (case BB => k_is)
    (case BC => k_is)
    (case BD => k_is)
    (case BE => k_is)
    (case BF => k_is)
    (case DO => k_is)
    (case DP => k_is)
    (case DQ => k_is)
    (case DR => k_is)
    (case DS => k_is)
    (case DT => k_is)
    (case Ch => k_is)
    (case Ci => k_is)
    (case Cj => k_is)
    (case Ck => k_is)
    (case Cl => k_is)
    (case Cm => k_is)
    (case zF => k_is)
    (case Ay => k_is)
    (case zG => k_is)
    (case z9 => k_is)
    (case zO => k_is)
    (case zH => k_is)
    (case ze => k_is)
    (case Aa => k_is)
    (case zP => k_is)
    (case AR => k_is)
    (case zQ => k_is)
    (case Az => k_is)
    (case Ab => k_is)
    (case zR => k_is)
    (case zh => k_is)
    (case AA => k_is)
    (case zS => k_is)
    (case AS => k_is)
    (case zT => k_is)
    (case AB => k_is)
    (case Ac => k_is)
    (case zU => k_is)
    (case zi => k_is)
    (case AC => k_is)
    (case Ad => k_is)
    (case A2 => k_is)
    (case Ae => k_is)
    (case AT => k_is)
    (case AD => k_is)
    (case Af => k_is)
    (case zI => k_is)
    (case AU => k_is)
    (case zV => k_is)
    (case AV => k_is)
    (case zW => k_is)
    (case AE => k_is)
    (case Ag => k_is)
    (case zX => k_is)
    (case zj => k_is)
    (case AF => k_is)
    (case zY => k_is)
    (case zZ => k_is)
    (case Ah => k_is)
    (case C9 => k_is)
    (case Da => k_is)
    (case AW => k_is)
    (case AX => k_is)
    (case Ai => k_is)
    (case Aj => k_is)
    (case Ak => k_is)
    (case Al => k_is)
    (case AG => k_is)
    (case AH => k_is)
    (case A3 => k_is)
    (case A4 => k_is)
    (case z3 => k_is)
    (case z4 => k_is)
    (case zk => k_is)
    (case zl => first | exact rfl | with_unfolding_all rfl)
    (case zm => k_is)
    (case zn => first | exact rfl | with_unfolding_all rfl)
    (case zo => k_is)
    (case zp => first | exact rfl | with_unfolding_all rfl)
    (case zq => k_is)
    (case zt => first | exact rfl | with_unfolding_all rfl)
    (case zu => k_is)
    (case zv => first | exact rfl | with_unfolding_all rfl)
    (case zw => k_is)
    (case zx => first | exact rfl | with_unfolding_all rfl)
    (case zy => k_is)
    (case zA => first | exact rfl | with_unfolding_all rfl)
    (case zB => k_is)
    (case zC => first | exact rfl | with_unfolding_all rfl)
    (case zD => k_is)
    (case zE => first | exact rfl | with_unfolding_all rfl)
    (case Cn => k_is)
    (case A5 => k_is)
    (case AI => k_is)
    (case AY => k_is)
    (case A6 => k_is)
    (case BG => k_is)
    (case A7 => k_is)
    (case z_len => k_is)
    (case z_abs => k_is)
    (case z_min => k_is)
    (case z_max => k_is)
    (case z_sorted => k_is)
    (case z_any => k_is)
    (case z_isinstance => k_is)
    (case z_list => k_is)
    (case z_int => k_is)
    (case z_bool => k_is)
    (case z_str => k_is)
    (case z_tuple => k_is)
    (case z_reversed => k_is)
    (case z_set => k_is)
    (case z_range => k_is)
    (case z_zip => k_is)
    (case z_all => k_is)
    (case z_sum => k_is)
    (case z_enumerate => k_is)
