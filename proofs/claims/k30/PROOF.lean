import PyProof.Rows.All
import Wide.All
import OpenK.AllK
import Wide.FinOn
import Lean
import PyProof.EqAt
import PyProof.EqKinds
import PyProof.TupleCall
import PyProof.ZipIter
import PyProof.ConsumeS
import PyProof.StrCalls2
import PyProof.StrWalks
import PyProof.SliceStr2
import PyProof.StrBlock
import PyProof.StrBlockL
import PyProof.ListIndex
import PyProof.StrLawsTight
import PyProof.StrLawsChain
import PyProof.StrLaws
import PyProof.StrLawsFirst
import PyProof.StationsW
import PyProof.ExcClass3
import PyProof.NsDelKeeps
import PyProof.RulesAs
import PyProof.ExcBaseAll.ValueError
import PyProof.ExcArgsOwn
import PyProof.ExcAttrAll.ValueError
import KE.KTryMore
import KE.RegKTryMore
import KE.RegKIsAll
import PyProof.Rows.Range3
import PyProof.Rows.SumGenD
import PyProof.Rows.RuleM_int
import PyProof.EnumMake
import PyProof.EnumFor
import PyProof.EnumStmt
import PyProof.Rows.EnumRows
import KE.KRevIter
import PyProof.ListNew
import PyProof.CollectIter
import PyProof.ListRange
import PyProof.CallStr
import PyProof.StrBlock2
import PyProof.Rows.StrMadeLen
import PyProof.Rows.SetFrom
import PyProof.SetRoads
import PyProof.MeetsStr2
import KE.KRevSl
import PyProof.Conv_int
import PySem.Challenge.RW_cluemaker_k30_less_stands
set_option Elab.async false
set_option linter.all false
set_option maxRecDepth 100000
namespace L2
open PySem PySem.Spec PyProof.Rows
abbrev Key:=Sum Int Str
def keyIs:Key→Value→Bool
 | .inl k,v=>Value.isInt k v
 | .inr x,v=>Value.isStrOf x v
def keyH (w:World):Key→Int
 | .inl k=>hashInt k
 | .inr x=>hashStr w x
theorem cL:∀ {k:Key} {v:Value},keyIs k v=true→(∃ i t,k=Sum.inl i∧v=Value.int i t)∨(∃ x t,k=Sum.inr x∧v=Value.str x t)
 | .inl i,v,h=>by
  obtain ⟨t,e⟩:=Value.isInt_shape (k:=i) (v:=v) h
  exact .inl ⟨i,t,rfl,e⟩
 | .inr x,v,h=>by
  obtain ⟨t,e⟩:=Value.isStrOf_shape (x:=x) (v:=v) h
  exact .inr ⟨x,t,rfl,e⟩
theorem wF (i:Int) (t:Tok):keyIs (.inl i) (.int i t)=true:=by simp [keyIs,Value.isInt]
theorem wG (x:Str) (t:Tok):keyIs (.inr x) (.str x t)=true:=by simp [keyIs,Value.isStrOf]
theorem zJ (a b:Int):decide ((Sum.inl a:Key)=Sum.inl b)=(a==b):=by
 by_cases e:a=b
 · subst e; simp
 · have h:¬ (Sum.inl a:Key)=Sum.inl b:=fun q=>e (Sum.inl.inj q)
   rw [decide_eq_false h]
   exact (beq_eq_false_iff_ne.mpr e).symm
theorem zK (a b:Str):decide ((Sum.inr a:Key)=Sum.inr b)=decide (a=b):=by
 by_cases e:a=b
 · subst e; simp
 · have h:¬ (Sum.inr a:Key)=Sum.inr b:=fun q=>e (Sum.inr.inj q)
   rw [decide_eq_false h,decide_eq_false e]
theorem zL (a:Int) (b:Str):decide ((Sum.inl a:Key)=Sum.inr b)=false:=decide_eq_false (fun q=>nomatch q)
theorem zM (a:Str) (b:Int):decide ((Sum.inr a:Key)=Sum.inl b)=false:=decide_eq_false (fun q=>nomatch q)
def dr (prog:Program) (w:World):PySem.KeyKind prog w Key where
 is:=keyIs
 hash:=keyH w
 inj:=fun v a b ha hb=>by
  rcases cL ha with ⟨i,t,rfl,rfl⟩ | ⟨x,t,rfl,rfl⟩
  · rcases cL hb with ⟨j,u,rfl,e⟩ | ⟨y,u,rfl,e⟩
    · injection e with e1 _; rw [e1]
    · exact nomatch e
  · rcases cL hb with ⟨j,u,rfl,e⟩ | ⟨y,u,rfl,e⟩
    · exact nomatch e
    · injection e with e1 _; rw [e1]
 byValue:=fun k v h=>by
  rcases cL h with ⟨i,t,rfl,rfl⟩ | ⟨x,t,rfl,rfl⟩ <;> rfl
 pyHash:=fun hv h=>by
  rcases cL hv with ⟨i,t,rfl,rfl⟩ | ⟨x,t,rfl,rfl⟩
  · exact wpAny_pyHash_int h
  · exact wpAny_pyHash_str h
 eqBool:=fun hu hv h=>by
  rcases cL hu with ⟨i,t,rfl,rfl⟩ | ⟨x,t,rfl,rfl⟩
  · rcases cL hv with ⟨j,u,rfl,rfl⟩ | ⟨y,u,rfl,rfl⟩
    · rw [zJ] at h; exact wpAny_eqBool_int h
    · rw [zL] at h; exact SeqAt.EqAt.int_str i t y u _ _ _ _ h
  · rcases cL hv with ⟨j,u,rfl,rfl⟩ | ⟨y,u,rfl,rfl⟩
    · rw [zM] at h; exact SeqAt.EqAt.str_int x t j u _ _ _ _ h
    · rw [zK] at h; exact wpAny_eqBool_str h
 «strs»:=fun k x t v h=>by
  rcases cL h with ⟨i,u,rfl,e⟩ | ⟨y,u,rfl,e⟩
  · exact nomatch e
  · injection e with e1 _
    subst e1
    cases v <;> rfl
theorem ug (prog:Program) (w:World) (i:Int) (t:Tok):(dr prog w).is (.inl i) (.int i t)=true:=wF i t
theorem uh (prog:Program) (w:World) (x:Str) (t:Tok):(dr prog w).is (.inr x) (.str x t)=true:=wG x t
end L2
namespace L2
open PySem PySem.Spec PyProof.Rows
inductive V where
 | non | bl (b:Bool) | int (i:Int) | str (x:Str) | byt (b:Array UInt8) | flt (b:UInt64) | ref (a:Addr) | ty (n:String)
 deriving DecidableEq
def RelV:V→Value→Prop
 | .non,u=>u=Value.none
 | .bl b,u=>u=Value.bool b
 | .int i,u=>∃ t,u=Value.int i t
 | .str x,u=>∃ t,u=Value.str x t
 | .byt b,u=>∃ t,u=Value.bytes b t
 | .flt b,u=>∃ t,u=Value.float b t
 | .ref a,u=>u=Value.ref a
 | .ty n,u=>u=Value.type n
abbrev Vals:List V→List Value→Prop:=Paired RelV
theorem Vals.length {xs:List V} {us:List Value} (r:Vals xs us):xs.length=us.length:=Paired.length r
theorem Vals.get:∀ {xs:List V} {us:List Value} {i:Nat} {x:V},Vals xs us→xs[i]? =some x→∃ u,us[i]? =some u∧RelV x u
 | _,_,_,_,.nil,e=>by simp at e
 | _,_,0,_,.cons r _,e=>by simp at e; subst e; exact ⟨_,rfl,r⟩
 | _,_,i+1,x,.cons _ t,e=>by
  obtain ⟨u,h1,h2⟩:=Vals.get (i:=i) (x:=x) t (by simpa using e)
  exact ⟨u,by simpa using h1,h2⟩
theorem Vals.append:∀ {xs ys:List V} {us ws:List Value},Vals xs us→Vals ys ws→Vals (xs++ys) (us++ws)
 | _,_,_,_,.nil,s=>s
 | _,_,_,_,.cons r t,s=>.cons r (Vals.append t s)
theorem Vals.take:∀ {xs:List V} {us:List Value} (n:Nat),Vals xs us→Vals (xs.take n) (us.take n)
 | _,_,0,_=>.nil
 | _,_,_+1,.nil=>.nil
 | _,_,n+1,.cons r t=>.cons r (Vals.take n t)
theorem Vals.drop:∀ {xs:List V} {us:List Value} (n:Nat),Vals xs us→Vals (xs.drop n) (us.drop n)
 | _,_,0,r=>r
 | _,_,_+1,.nil=>.nil
 | _,_,n+1,.cons _ t=>Vals.drop n t
def RelO:Option V→Option Value→Prop
 | some v,some u=>RelV v u
 | none,none=>True
 | _,_=>False
def KV {κ:Type}:List (κ × V)→List (κ × Value)→Prop:=Paired fun (p:κ × V) (q:κ × Value)=>p.1=q.1∧RelV p.2 q.2
def kV:Key→V
 | .inl i=>.int i
 | .inr x=>.str x
inductive HO where
  | lst (xs:List V)
  | tup (xs:List V)
  | dK (kvs:List (Key × V)) | dT (kvs:List (List Key × V))
  | set (S:Int→Bool) (n:Nat)
  | ins (C dx:Addr) (fs:List (Str × V))
  | own (x:Addr)
  | xd (fs:List (Str × V))
  | met (f x:Addr)
  | rng (lo hi:Int)
  | frz (o:Obj) (u:HO)
  | tbl (ps:Array Value)
  | ext (φ:Heap→Prop)
abbrev Hp:=Addr→Option HO
def upd (H:Hp) (a:Addr) (o:HO):Hp:=fun b=>if b=a then some o else H b
theorem ah {H:Hp} {a:Addr} {o:HO}:upd H a o a=some o:=by unfold upd; rw [if_pos rfl]
theorem ar {H:Hp} {a b:Addr} {o:HO} (h:b≠a):upd H a o b=H b:=by unfold upd; rw [if_neg h]
theorem AD {H:Hp} {a b:Addr} {o u:HO} (h:H a=some o) (h':H b=some u) (d:o≠u):a≠b:=by
 intro e; subst e; rw [h] at h'; exact d (Option.some.inj h')
theorem aG {H:Hp} {a b:Addr} {o:HO} (h:H a=some o) (h':H b=none):a≠b:=by
 intro e; subst e; rw [h] at h'; cases h'
section
variable (P:Program) (w:World)
def ObjOk (H:Hp) (h:Heap) (a:Addr):HO→Prop
 | .lst xs=>xs.length≤sizeLine∧∃ (its:List Value) (n:Nat),Vals xs its∧h.get? a=some { cls:=.type "list",data:=.seq its.toArray n }
 | .tup xs=>xs.length≤sizeLine∧∃ its:List Value,Vals xs its∧IsTup h a its.toArray
 | .dK kvs=>kvs.length≤sizeLine∧(a==sysModules)=false∧∃ vs,KV kvs vs∧h.DictOf (dr P w) a vs
 | .dT kvs=>kvs.length≤sizeLine∧(a==sysModules)=false∧∃ xs:List (List Key × Addr × Value),
   Paired (fun (p:List Key × V) (q:List Key × Addr × Value)=>p.1=q.1∧H q.2.1=some (.tup (p.1.map kV))∧RelV p.2 q.2.2) kvs xs∧
   ∃ o es ep,h.get? a=some o∧o.ExactDict∧o.data=.dict es ep∧es.toList=xs.map (entryOfKey (tupleKind (dr P w)))∧(xs.map (·.1)).Nodup
 | .set S n=>h.SetOf (intKind P w) a S n
 | .ins C dx fs=>H dx=some (.own a)∧fs.length≤1000∧dx≠a∧h.get? a=some (PySem.W.instObj C dx)∧
   ∃ mA,h.Ns1 dx mA∧(∀ f,RelO (fs.lookup f) (mA f))∧PySem.Within mA (fs.map (·.1))
 | .own _=>∃ o,h.get? a=some o
 | .xd fs=>∃ mA,h.Ns1 a mA∧∀ f,RelO (fs.lookup f) (mA f)
 | .rng lo hi=>∃ t u v,h.get? a=some { cls:=.type "range",data:=.fields #[.int lo t,.int hi u,.int 1 v] }
 | .frz o u=>h.get? a=some o∧ObjOk H h a u
 | .tbl ps=>h.get? a=some { cls:=.none,data:=.fields ps }
 | .met f x=>h.get? a=some (PySem.W.methodObj (.ref f) (.ref x))
 | .ext φ=>φ h∧(∃ o,h.get? a=some o)∧∀ h1 h2:Heap,φ h1→(∀ o,h1.get? a=some o→h2.get? a=some o)→φ h2
def HOk (H:Hp) (h:Heap):Prop:=∀ a o,H a=some o→ObjOk P w H h a o
end
section
variable {P:Program} {w:World} {H H':Hp} {h h':Heap} {a:Addr} {o:HO}
theorem ObjOk.lt (x:ObjOk P w H h a o):a < h.objs.size:=by
 cases o with
 | lst xs=>obtain ⟨_,_,_,_,e⟩:=x; exact Heap.lt_size e
 | tup xs=>obtain ⟨_,_,_,p⟩:=x; exact p.lt
 | dK kvs=>obtain ⟨_,_,_,_,o,_,_,e,_⟩:=x; exact Heap.lt_size e
 | dT kvs=>obtain ⟨_,_,_,_,o,_,_,e,_⟩:=x; exact Heap.lt_size e
 | set S n=>obtain ⟨o,_,_,_,e,_⟩:=x; exact Heap.lt_size e
 | ins C dx fs=>obtain ⟨_,_,_,e,_⟩:=x; exact Heap.lt_size e
 | own y=>obtain ⟨_,e⟩:=x; exact Heap.lt_size e
 | xd fs=>obtain ⟨_,⟨_,_,_,e,_⟩,_⟩:=x; exact Heap.lt_size e
 | rng lo hi=>obtain ⟨_,_,_,e⟩:=x; exact Heap.lt_size e
 | frz ob u=>obtain ⟨e,_⟩:=x; exact Heap.lt_size e
 | tbl ps=>exact Heap.lt_size (show h.get? a=some _ from x)
 | met f y=>exact Heap.lt_size (show h.get? a=some _ from x)
 | ext φ=>obtain ⟨_,⟨_,e⟩,_⟩:=x; exact Heap.lt_size e
theorem Paired.mapP {α β:Type} {F G:α→β→Prop}:∀ {l₁:List α} {l₂:List β},Paired F l₁ l₂→(∀ a b,F a b→G a b)→Paired G l₁ l₂
 | _,_,.nil,_=>.nil
 | _,_,.cons r t,f=>.cons (f _ _ r) (Paired.mapP t f)
theorem ObjOk.stay (x:ObjOk P w H h a o) (k:∀ b u,(b=a∨H b=some (.own a))→h.get? b=some u→h'.get? b=some u)
  (ho:∀ b,H b=some (.own a)→H' b=some (.own a)) (ht:∀ b xs,H b=some (.tup xs)→H' b=some (.tup xs)):ObjOk P w H' h' a o:=by
 induction o with
 | lst xs=>obtain ⟨z,its,n,r,e⟩:=x; exact ⟨z,its,n,r,k _ _ (.inl rfl) e⟩
 | tup xs=>obtain ⟨z,its,r,ob,e,c⟩:=x; exact ⟨z,its,r,ob,k _ _ (.inl rfl) e,c⟩
 | dK kvs=>obtain ⟨z,y,vs,r,ob,es,ep,e,c⟩:=x; exact ⟨z,y,vs,r,ob,es,ep,k _ _ (.inl rfl) e,c⟩
 | dT kvs=>
  obtain ⟨z,y,xs,r,ob,es,ep,e,c⟩:=x
  exact ⟨z,y,xs,Paired.mapP r fun p q z=>⟨z.1,ht _ _ z.2.1,z.2.2⟩,ob,es,ep,k _ _ (.inl rfl) e,c⟩
 | set S n=>obtain ⟨ob,es,ep,t,e,c⟩:=x; exact ⟨ob,es,ep,t,k _ _ (.inl rfl) e,c⟩
 | ins C dx fs=>
  obtain ⟨d,z,ne,e,mA,⟨od,es,ep,e2,c⟩,r⟩:=x
  exact ⟨ho _ d,z,ne,k _ _ (.inl rfl) e,mA,⟨od,es,ep,k _ _ (.inr d) e2,c⟩,r⟩
 | own y=>obtain ⟨ob,e⟩:=x; exact ⟨ob,k _ _ (.inl rfl) e⟩
 | xd fs=>obtain ⟨mA,⟨od,es,ep,e,c⟩,r⟩:=x; exact ⟨mA,⟨od,es,ep,k _ _ (.inl rfl) e,c⟩,r⟩
 | rng lo hi=>obtain ⟨t,u,v,e⟩:=x; exact ⟨t,u,v,k _ _ (.inl rfl) e⟩
 | frz ob u ih=>obtain ⟨e,q⟩:=x; exact ⟨k _ _ (.inl rfl) e,ih q⟩
 | tbl ps=>
  have e:h.get? a=some { cls:=.none,data:=.fields ps }:=x
  show h'.get? a=some { cls:=.none,data:=.fields ps }
  exact k a _ (.inl rfl) e
 | met f y=>
  have e:h.get? a=some (PySem.W.methodObj (.ref f) (.ref y)):=x
  show h'.get? a=some (PySem.W.methodObj (.ref f) (.ref y))
  exact k a _ (.inl rfl) e
 | ext φ=>obtain ⟨p,⟨o,e⟩,st⟩:=x; exact ⟨st _ _ p fun o q=>k _ _ (.inl rfl) q,⟨o,k _ _ (.inl rfl) e⟩,st⟩
theorem HOk.lt (x:HOk P w H h) (e:H a=some o):a < h.objs.size:=(x a o e).lt
theorem HOk.fresh (x:HOk P w H h) (e:h.objs.size≤a):H a=none:=by
 cases q:H a with
 | none=>rfl
 | some u=>exact absurd (Nat.lt_of_lt_of_le (x.lt q) e) (Nat.lt_irrefl _)
theorem HOk.kept (x:HOk P w H h) (k:∀ b u,h.get? b=some u→h'.get? b=some u):HOk P w H h':=fun a o e=>
 (x a o e).stay (fun b u _ q=>k b u q) (fun _ q=>q) fun _ _ q=>q
theorem HOk.laid (x:HOk P w H h) (k:∀ b u,h.get? b=some u→h'.get? b=some u) (hp:h.objs.size≤a) (new:ObjOk P w (upd H a o) h' a o):HOk P w (upd H a o) h':=fun b u e=>by
 have hn:=x.fresh hp
 by_cases hb:b=a
 · subst hb; rw [ah] at e; cases e; exact new
 · rw [ar hb] at e
   exact (x b u e).stay (fun c v _ q=>k c v q) (fun c q=>by rw [ar (aG q hn)]; exact q) fun c xs q=>by rw [ar (aG q hn)]; exact q
end
def Rd (H:Hp) (a:Addr) (u:HO):Prop:=H a=some u∨∃ o,H a=some (.frz o u)
theorem Rd.ok {P:Program} {w:World} {H:Hp} {h:Heap} {a:Addr} {u:HO} (r:Rd H a u) (x:HOk P w H h):ObjOk P w H h a u:=by
 rcases r with r | ⟨o,r⟩
 · exact x a u r
 · obtain ⟨_,q⟩:=x a _ r
   exact q
def Mut:Option HO→Prop
 | some (.lst _)=>True
 | some (.dK _)=>True
 | some (.dT _)=>True
 | some (.set _ _)=>True
 | some (.ins _ _ _)=>True
 | some (.ext _)=>True
 | _=>False
section
variable {P:Program} {w:World} {H:Hp} {h h':Heap} {x e:Addr} {o':HO}
theorem HOk.write (ok:HOk P w H h) (mu:Mut (H x)) (he:e=x∨H e=some (.own x)) (k:∀ b u,b≠e→h.get? b=some u→h'.get? b=some u) (heo:∃ u,h'.get? e=some u)
  (new:ObjOk P w (upd H x o') h' x o'):HOk P w (upd H x o') h':=fun b u q=>by
 have nown:∀ c y,H c=some (.own y)→c≠x:=fun c y r z=>by subst z; rw [r] at mu; exact mu
 have ntup:∀ c xs,H c=some (.tup xs)→c≠x:=fun c xs r z=>by subst z; rw [r] at mu; exact mu
 by_cases hb:b=x
 · subst hb; rw [ah] at q; cases q; exact new
 · rw [ar hb] at q
   by_cases hbe:b=e
   · have q':H b=some (.own x):=by
      rcases he with z | z
      · exact absurd (hbe.trans z) hb
      · rw [hbe]; exact z
     rw [q] at q'; cases q'
     obtain ⟨v,hv⟩:=heo
     exact ⟨v,by rw [hbe]; exact hv⟩
   · refine (ok b u q).stay (fun c v hc r=>k c v ?_ r) (fun c r=>by rw [ar (nown c b r)]; exact r) fun c xs r=>by rw [ar (ntup c xs r)]; exact r
     rcases hc with rfl | hc
     · exact hbe
     · rintro rfl
       rcases he with z | z
       · exact nown c b hc z
       · rw [hc] at z; cases z; exact hb rfl
end
structure Un (fs ex:List Addr) (H H':Hp) (h h':Heap):Prop where
 keep:∀ b o,h.get? b=some o→H b=none→b∉fs→b∉ex→h'.get? b=some o
 slot:∀ b o,h.get? b=some o→H b=none→b∈fs→b∉ex→∃ sl,h'.get? b=some { o with slots:=sl }
 free:∀ b o,h.get? b=some o→H b=none→b∉ex→H' b=none
 there:∀ b o,h.get? b=some o→b∉ex→∃ o',h'.get? b=some o'
 tups:∀ b xs,H b=some (.tup xs)→H' b=some (.tup xs)
 frzs:∀ b o u,H b=some (.frz o u)→H' b=some (.frz o u)
 tbls:∀ b ps,H b=some (.tbl ps)→∃ more,H' b=some (.tbl (ps++more))
section
variable {fs fs' ex ex':List Addr} {H H1 H2:Hp} {h h1 h2 h':Heap} {a x e:Addr} {o:HO}
theorem Un.any (u:Un fs ex H H1 h h1) {b:Addr} {ob:Obj} (q:h.get? b=some ob) (n:H b=none) (hx:b∉ex):∃ sl,h1.get? b=some { ob with slots:=sl }:=by
 by_cases hb:b∈fs
 · exact u.slot b ob q n hb hx
 · exact ⟨ob.slots,u.keep b ob q n hb hx⟩
theorem Un.kept (k:∀ b u,h.get? b=some u→h'.get? b=some u):Un fs ex H H h h':=
 ⟨fun b ob q _ _ _=>k b ob q,fun b ob q _ _ _=>⟨ob.slots,k b ob q⟩,fun _ _ _ n _=>n,fun b ob q _=>⟨ob,k b ob q⟩,fun _ _ q=>q,fun _ _ _ q=>q,fun _ ps q=>⟨#[],by rw [q]; simp⟩⟩
theorem Un.refl:Un fs ex H H h h:=Un.kept fun _ _ q=>q
theorem Un.laid (k:∀ b u,h.get? b=some u→h'.get? b=some u) (hp:h.objs.size≤a) (hn:H a=none):Un fs ex H (upd H a o) h h' where
 keep:=fun b u q _ _ _=>k b u q
 slot:=fun b u q _ _ _=>⟨u.slots,k b u q⟩
 free:=fun b u q n _=>by rw [ar (Nat.ne_of_lt (Nat.lt_of_lt_of_le (Heap.lt_size q) hp))]; exact n
 there:=fun b u q _=>⟨u,k b u q⟩
 tups:=fun b xs q=>by rw [ar (aG q hn)]; exact q
 frzs:=fun b u xs q=>by rw [ar (aG q hn)]; exact q
 tbls:=fun b ps q=>⟨#[],by rw [ar (aG q hn),q]; simp⟩
theorem Un.write (mu:Mut (H x)) (he:e=x∨H e=some (.own x)) (k:∀ b u,b≠e→h.get? b=some u→h'.get? b=some u) (heo:∃ u,h'.get? e=some u):Un fs ex H (upd H x o) h h':=by
 have hx:∀ b,H b=none→b≠x:=fun b n z=>by subst z; rw [n] at mu; exact mu
 have hb:∀ b,H b=none→b≠e:=fun b n z=>by
  subst z
  rcases he with r | r
  · exact hx b n r
  · rw [n] at r; cases r
 have hm:∀ b u,H b=some u→¬ Mut (some u)→b≠x:=fun b u q nm z=>by subst z; rw [q] at mu; exact nm mu
 refine ⟨fun b u q n _ _=>k b u (hb b n) q,fun b u q n _ _=>⟨u.slots,k b u (hb b n) q⟩,fun b u q n _=>by rw [ar (hx b n)]; exact n,fun b u q _=>?_,
  fun b xs q=>by rw [ar (hm b _ q fun z=>z)]; exact q,fun b u xs q=>by rw [ar (hm b _ q fun z=>z)]; exact q,fun b ps q=>⟨#[],by rw [ar (hm b _ q fun z=>z),q]; simp⟩⟩
 by_cases hbe:b=e
 · subst hbe; exact heo
 · exact ⟨u,k b u hbe q⟩
end
def trk (h:Heap) (H:Hp):List Addr:=(List.range h.objs.size).filter fun a=>(H a).isSome
def hidT (h:Heap) (H:Hp):Heap:=PySem.W.hideAll h (trk h H)
theorem wH (h:Heap) (H:Hp):(hidT h H).objs.size=h.objs.size:=PySem.W.hideAll_size _ _
theorem yi {h:Heap} {H:Hp} {b:Addr} {o:Obj} (e:h.get? b=some o) (n:H b=none):(hidT h H).get? b=some o:=
 PySem.W.hideAll_get _ e fun hm=>by
  have q:(H b).isSome=true:=(List.mem_filter.mp hm).2
  rw [n] at q; simp at q
theorem y3 {h:Heap} {H:Hp} {b:Addr} {o:Obj} (e:(hidT h H).get? b=some o):h.get? b=some o∧H b=none:=by
 have e':h.get? b=some o:=PySem.W.of_hideAll (trk h H) e
 refine ⟨e',?_⟩
 cases q:H b with
 | none=>rfl
 | some x=>
  have hm:b∈trk h H:=List.mem_filter.mpr ⟨List.mem_range.mpr (Heap.lt_size e'),by simp [q]⟩
  have z:(hidT h H).get? b=none:=PySem.W.hideAll_none (trk h H) hm
  rw [z] at e; cases e
end L2
namespace L2
open PySem PySem.Spec PyProof.Rows
structure Mod (K:PySem.W.Frag) (mg:Str→Option Value) (base:Heap):Prop where
 kin:K.In base
 glob:base.Ns mainGlobals mg
 blt:∃ mb,base.Ns builtinsNs mb∧∀ x:Str,x≠"__name__"→mb x=bootBuiltins x
 nolimit:base.NoLimit
structure Cx where
 prog:Program
 w:World
 K:PySem.W.Frag
 mg:Str→Option Value
 base:Heap
 A:Around
 N:List Str
 s₀:Shared
 H₀:Hp
 env:Env
 outer:List Env
 stack:List Env
 ex:List Addr
 fn:Str→Bool
 calm:Bool
 pn:List (Addr × Obj)
 xe:Value→Shared→Prop
def frs (l:List Env):List Addr:=l.filterMap (·.frame)
abbrev Cx.fs (X:Cx):List Addr:=frs X.outer
def Vis (sc:Scope) (x:Str):Prop:=sc.names.lookup x=some .local∨sc.names.lookup x=some .cell∨sc.names.lookup x=some .free
def Loc (sc:Scope) (x:Str):Prop:=sc.names.lookup x=some .local∨sc.names.lookup x=some .cell
def Look (env:Env) (h:Heap) (m:Str→Option Value) (x:Str) (u:Value):Prop:=
 (env.kindOf x=some .local∧m x=some u)∨((env.kindOf x=some .cell∨env.kindOf x=some .free)∧∃ c,env.cells.lookup x=some c∧h.IsCell c (some u))
structure Cx.Ok (X:Cx):Prop where
 mod:Mod X.K X.mg X.base
 kind:X.env.scope.kind=.function
 glob:X.env.globals=mainGlobals
 blt:X.env.builtins=builtinsNs
 above:X.s₀.heap.objs.size≤X.env.locals
 inj:∀ x y c,X.env.cells.lookup x=some c→X.env.cells.lookup y=some c→x=y
 has:∀ x,(X.env.kindOf x=some .cell∨X.env.kindOf x=some .free)→∃ c,X.env.cells.lookup x=some c
 cab:∀ x c,X.fn x=true→X.env.cells.lookup x=some c→X.s₀.heap.objs.size≤c
 hd:X.calm=true→X.A.handled=none
 frames:X.A.frames=some X.stack
 stk:X.stack=X.outer∨(X.stack=X.env::X.outer∧X.env.frame=some X.env.locals)
 exf:∀ b∈X.ex,b≠X.env.locals∧∀ x c,X.env.cells.lookup x=some c→c≠b
 bs:∀ b o,X.base.get? b=some o→X.s₀.heap.get? b=some o∧X.H₀ b=none
 bsz:X.base.objs.size≤X.s₀.heap.objs.size
 noex:∀ b o,X.base.get? b=some o→b∉X.ex
 exfs:∀ b∈X.ex,b∉X.fs
 funs:X.s₀.heap.FunFrames X.base X.outer
 frf:∀ b∈X.fs,X.H₀ b=none
structure Inv (X:Cx) (pins:List (Addr × Obj)) (σ:List (Option V)) (H:Hp) (s:Shared):Prop where
 ok:X.Ok
 os:s.os=X.s₀.os
 bare:AllBare s.gens
 base:Un X.fs X.ex X.H₀ H X.s₀.heap s.heap
 loc:∃ m,s.heap.Ns X.env.locals m∧∀ (i:Nat) (x:Str) (v:V),X.N[i]? =some x→σ[i]? =some (some v)→Vis X.env.scope x→∃ u,RelV v u∧Look X.env s.heap m x u
 cell:∀ x c,X.env.cells.lookup x=some c→∃ v,s.heap.IsCell c v
 free:H X.env.locals=none
 freeC:∀ x c,X.env.cells.lookup x=some c→H c=none
 pin:∀ p∈X.pn++pins,s.heap.get? p.1=some p.2∧H p.1=none∧p.1≠X.env.locals∧p.1∉X.fs∧∀ v,p.2.data≠.cell v
 hok:HOk X.prog X.w H s.heap
 len:σ.length=X.N.length
section
variable {X:Cx} {pins:List (Addr × Obj)} {σ:List (Option V)} {H H':Hp} {s:Shared} {h':Heap}
theorem Cx.Ok.nofr (ok:X.Ok) {b:Addr} {o:Obj} (e:X.base.get? b=some o):b∉X.fs:=fun hb=>by
 have:=(ok.funs.mem hb).1
 rw [e] at this; cases this
theorem Inv.bs (I:Inv X pins σ H s):∀ b o,X.base.get? b=some o→s.heap.get? b=some o∧H b=none:=fun b o e=>
 ⟨I.base.keep b o (I.ok.bs b o e).1 (I.ok.bs b o e).2 (I.ok.nofr e) (I.ok.noex b o e),I.base.free b o (I.ok.bs b o e).1 (I.ok.bs b o e).2 (I.ok.noex b o e)⟩
theorem Inv.bk (I:Inv X pins σ H s):∀ b o,X.base.get? b=some o→s.heap.get? b=some o:=fun b o e=>(I.bs b o e).1
theorem Inv.mod (I:Inv X pins σ H s):Mod X.K X.mg X.base:=I.ok.mod
theorem Inv.kIn (I:Inv X pins σ H s):X.K.In s.heap:=I.ok.mod.kin.keeps I.bk
theorem Inv.lt (I:Inv X pins σ H s):X.env.locals < s.heap.objs.size:=let ⟨_,hn,_⟩:=I.loc; hn.lt
theorem Inv.sz (I:Inv X pins σ H s):X.s₀.heap.objs.size≤s.heap.objs.size:=Nat.le_trans I.ok.above (Nat.le_of_lt I.lt)
theorem Inv.nofs (I:Inv X pins σ H s) {a:Addr} (h:s.heap.objs.size≤a):a∉X.fs:=fun hb=>by
 obtain ⟨_,o,ho,_⟩:=I.ok.funs.mem hb
 exact absurd (Nat.lt_of_lt_of_le (Heap.lt_size ho) (Nat.le_trans I.sz h)) (Nat.lt_irrefl _)
theorem Inv.cne (I:Inv X pins σ H s):∀ x c,X.env.cells.lookup x=some c→c≠X.env.locals:=fun x c e z=>by
 obtain ⟨v,o,ho,hd⟩:=I.cell x c e
 obtain ⟨m,⟨o',es,ep,ho',hd',_⟩,_⟩:=I.loc
 rw [z,ho'] at ho; cases ho; rw [hd'] at hd; cases hd
theorem Inv.funs (I:Inv X pins σ H s):s.heap.FunFrames X.base X.outer:=by
 have all:∀ (l:List Env),(∀ b∈frs l,b∈X.fs)→X.s₀.heap.FunFrames X.base l→s.heap.FunFrames X.base l:=by
  intro l
  induction l with
  | nil=>intro _ _; trivial
  | cons env r ih=>
   intro hs hl
   obtain ⟨hk,⟨L,o,hf,hn,ho,hd⟩,hr⟩:=hl
   have hL:L∈X.fs:=hs L (by unfold frs; rw [List.filterMap_cons,hf]; exact List.mem_cons_self)
   obtain ⟨sl,e⟩:=I.base.slot L o ho (I.ok.frf L hL) hL fun z=>I.ok.exfs L z hL
   exact ⟨hk,⟨L,_,hf,hn,e,hd⟩,ih (fun b hb=>hs b (by unfold frs; rw [List.filterMap_cons,hf]; exact List.mem_cons_of_mem _ hb)) hr⟩
 exact all X.outer (fun _ hb=>hb) I.ok.funs
theorem Inv.stack (I:Inv X pins σ H s):s.heap.FunFrames X.base X.stack:=by
 rcases I.ok.stk with e | ⟨e,hf⟩
 · rw [e]; exact I.funs
 · rw [e]
   obtain ⟨m,hn,_⟩:=I.loc
   refine .cons (by rw [I.ok.kind]; decide) hf hn ?_ I.funs
   exact Heap.get?_none_of_le (Nat.le_trans I.ok.bsz I.ok.above)
theorem Inv.stkSub (I:Inv X pins σ H s):∀ b∈frs X.stack,b∈X.env.locals::X.fs:=fun b hb=>by
 rcases I.ok.stk with e | ⟨e,hf⟩
 · rw [e] at hb; exact List.mem_cons_of_mem _ hb
 · rw [e] at hb
   unfold frs at hb
   rw [List.filterMap_cons,hf] at hb
   exact hb
theorem Inv.stkFree (I:Inv X pins σ H s):∀ b∈frs X.stack,H b=none:=fun b hb=>by
 rcases List.mem_cons.mp (I.stkSub b hb) with e | hb
 · rw [e]; exact I.free
 · obtain ⟨_,o,ho,_⟩:=I.ok.funs.mem hb
   exact I.base.free b o ho (I.ok.frf b hb) fun z=>I.ok.exfs b z hb
theorem Inv.step {g':Array GenState} {t':Nat} {d':Drawn} {ch:List Addr} (I:Inv X pins σ H s)
  (hch:∀ b∈ch,(b∈X.ex∨X.s₀.heap.objs.size≤b)∧b≠X.env.locals∧(∀ x c,X.env.cells.lookup x=some c→c≠b)∧∀ p∈X.pn++pins,p.1≠b)
  (keep:∀ b o,b≠X.env.locals→b∉X.fs→b∉ch→s.heap.get? b=some o→H b=none→h'.get? b=some o)
  (slot:∀ b o,b≠X.env.locals→b∈X.fs→b∉ch→s.heap.get? b=some o→H b=none→∃ sl,h'.get? b=some { o with slots:=sl }) (free:∀ b o,b∉ch→s.heap.get? b=some o→H b=none→H' b=none)
  (there:∀ b o,b∉ch→s.heap.get? b=some o→∃ o',h'.get? b=some o')
  (tups:∀ b xs,H b=some (.tup xs)→H' b=some (.tup xs)) (frzs:∀ b o u,H b=some (.frz o u)→H' b=some (.frz o u)) (tbls:∀ b ps,H b=some (.tbl ps)→∃ more,H' b=some (.tbl (ps++more)))
  (ns:∀ m,s.heap.Ns X.env.locals m→h'.Ns X.env.locals m) (hok:HOk X.prog X.w H' h') (hg:AllBare g'):
  Inv X pins σ H' { s with heap:=h',gens:=g',drawn:=d',toks:=t' }:=by
 have neL:∀ b o,X.s₀.heap.get? b=some o→b≠X.env.locals:=fun b o e=>Nat.ne_of_lt (Nat.lt_of_lt_of_le (Heap.lt_size e) I.ok.above)
 have neC:∀ b o,X.s₀.heap.get? b=some o→b∉X.ex→b∉ch:=fun b o e hx hb=>by
  rcases (hch b hb).1 with z | z
  · exact hx z
  · exact absurd (Nat.lt_of_lt_of_le (Heap.lt_size e) z) (Nat.lt_irrefl _)
 have cellK:∀ x c,X.env.cells.lookup x=some c→∀ v,s.heap.IsCell c v→h'.IsCell c v:=fun x c e v ⟨o,ho,hd⟩=>by
  have nch:c∉ch:=fun z=>(hch c z).2.2.1 x c e rfl
  by_cases hc:c∈X.fs
  · obtain ⟨sl,q⟩:=slot c o (I.cne x c e) hc nch ho (I.freeC x c e)
    exact ⟨_,q,hd⟩
  · exact ⟨o,keep c o (I.cne x c e) hc nch ho (I.freeC x c e),hd⟩
 refine ⟨I.ok,I.os,hg,⟨fun b o e n hb hx=>?_,fun b o e n hb hx=>?_,fun b o e n hx=>?_,fun b o e hx=>?_,fun b xs e=>tups b xs (I.base.tups b xs e),fun b o xs e=>frzs b o xs (I.base.frzs b o xs e),fun b ps e=>?_⟩,?_,fun x c e=>?_,?_,fun x c e=>?_,fun p hp=>?_,hok,I.len⟩
 · exact keep b o (neL b o e) hb (neC b o e hx) (I.base.keep b o e n hb hx) (I.base.free b o e n hx)
 · obtain ⟨sl,e1⟩:=I.base.slot b o e n hb hx
   obtain ⟨sl',e2⟩:=slot b _ (neL b o e) hb (neC b o e hx) e1 (I.base.free b o e n hx)
   exact ⟨sl',e2⟩
 · obtain ⟨o',e1⟩:=I.base.there b o e hx
   exact free b o' (neC b o e hx) e1 (I.base.free b o e n hx)
 · obtain ⟨o',e1⟩:=I.base.there b o e hx
   exact there b o' (neC b o e hx) e1
 · obtain ⟨m1,e1⟩:=I.base.tbls b ps e
   obtain ⟨m2,e2⟩:=tbls b _ e1
   exact ⟨m1++m2,by rw [e2,Array.append_assoc]⟩
 · obtain ⟨m,hn,hl⟩:=I.loc
   refine ⟨m,ns m hn,fun i x v e1 e2 e3=>?_⟩
   obtain ⟨u,r,l⟩:=hl i x v e1 e2 e3
   refine ⟨u,r,?_⟩
   rcases l with l | ⟨k,c,e,z⟩
   · exact .inl l
   · exact .inr ⟨k,c,e,cellK x c e _ z⟩
 · obtain ⟨v,z⟩:=I.cell x c e
   exact ⟨v,cellK x c e v z⟩
 · obtain ⟨m,⟨o,_,_,ho,_⟩,_⟩:=I.loc
   exact free _ o (fun z=>(hch _ z).2.1 rfl) ho I.free
 · obtain ⟨v,o,ho,hd⟩:=I.cell x c e
   exact free c o (fun z=>(hch c z).2.2.1 x c e rfl) ho (I.freeC x c e)
 · obtain ⟨e,n,ne,nf,d⟩:=I.pin p hp
   have nch:p.1∉ch:=fun z=>(hch p.1 z).2.2.2 p hp rfl
   exact ⟨keep p.1 p.2 ne nf nch e n,free p.1 p.2 nch e n,ne,nf,d⟩
theorem Inv.un {t':Nat} (I:Inv X pins σ H s) (u:Un X.fs [] H H' s.heap h') (hok:HOk X.prog X.w H' h'):Inv X pins σ H' { s with heap:=h',toks:=t' }:=by
 obtain ⟨m,⟨o,es,ep,ho,r⟩,_⟩:=id I.loc
 obtain ⟨sl,hL⟩:=u.any ho I.free (by simp)
 exact I.step (g':=s.gens) (d':=s.drawn) (ch:=[]) (fun _ z=>nomatch z) (fun b o _ hb _ e n=>u.keep b o e n hb (by simp)) (fun b o _ hb _ e n=>u.slot b o e n hb (by simp)) (fun b o _ e n=>u.free b o e n (by simp)) (fun b o _ e=>u.there b o e (by simp)) u.tups u.frzs u.tbls (fun m' hm=>by
  obtain ⟨o',es',ep',ho',r'⟩:=hm
  rw [ho] at ho'; cases ho'
  exact ⟨_,es',ep',hL,r'⟩) hok I.bare
theorem Inv.call {g':Array GenState} {t':Nat} {d':Drawn} {ch:List Addr} (I:Inv X pins σ H s) (u:Un (frs X.stack) ch H H' s.heap h') (hok:HOk X.prog X.w H' h') (hg:AllBare g')
  (hch:∀ b∈ch,(b∈X.ex∨X.s₀.heap.objs.size≤b)∧b≠X.env.locals∧(∀ x c,X.env.cells.lookup x=some c→c≠b)∧∀ p∈X.pn++pins,p.1≠b):
  Inv X pins σ H' { s with heap:=h',gens:=g',drawn:=d',toks:=t' }:=by
 obtain ⟨m,⟨o,es,ep,ho,r⟩,_⟩:=id I.loc
 obtain ⟨sl,hL⟩:=u.any ho I.free fun z=>(hch _ z).2.1 rfl
 exact I.step (ch:=ch) hch (fun b o hL hb hc e n=>u.keep b o e n (fun z=>(List.mem_cons.mp (I.stkSub b z)).elim hL hb) hc) (fun b o _ _ hc e n=>u.any e n hc) (fun b o hc e n=>u.free b o e n hc) (fun b o hc e=>u.there b o e hc) u.tups u.frzs u.tbls (fun m' hm=>by
  obtain ⟨o',es',ep',ho',r'⟩:=hm
  rw [ho] at ho'; cases ho'
  exact ⟨_,es',ep',hL,r'⟩) hok hg
theorem Inv.turned {t':Nat} {it:Addr} (I:Inv X pins σ H s) (k:∀ b o,b≠it→s.heap.get? b=some o→h'.get? b=some o) (hn:H it=none) (hL:it≠X.env.locals)
  (h1:it∈X.ex∨X.s₀.heap.objs.size≤it) (h2:∀ x c,X.env.cells.lookup x=some c→c≠it) (h3:∀ p∈X.pn++pins,p.1≠it):Inv X pins σ H { s with heap:=h',toks:=t' }:=by
 have nit:∀ b u,H b=some u→b≠it:=fun b u e z=>by rw [z,hn] at e; cases e
 refine I.step (g':=s.gens) (d':=s.drawn) (ch:=[it]) (fun b hb=>?_) (fun b o _ _ hc e _=>k b o (fun z=>hc (by simp [z])) e) (fun b o _ _ hc e _=>⟨o.slots,k b o (fun z=>hc (by simp [z])) e⟩) (fun _ _ _ _ n=>n)
  (fun b o hc e=>⟨o,k b o (fun z=>hc (by simp [z])) e⟩) (fun _ _ e=>e) (fun _ _ _ e=>e) (fun b ps e=>⟨#[],by rw [e]; simp⟩) (fun m hm=>?_) (fun b u e=>?_) I.bare
 · have e:b=it:=by simpa using hb
   subst e
   exact ⟨h1,hL,h2,h3⟩
 · obtain ⟨o,es,ep,ho,r⟩:=hm
   exact ⟨o,es,ep,k _ o (Ne.symm hL) ho,r⟩
 · refine (I.hok b u e).stay (fun c v hc q=>k c v ?_ q) (fun _ q=>q) fun _ _ q=>q
   rcases hc with z | z
   · rw [z]; exact nit b u e
   · exact nit c _ z
theorem Inv.tok (I:Inv X pins σ H s) (t:Nat):Inv X pins σ H { s with toks:=t }:=I.un (h':=s.heap) (t':=t) Un.refl I.hok
theorem Inv.kept {t':Nat} (I:Inv X pins σ H s) (k:∀ b u,s.heap.get? b=some u→h'.get? b=some u):Inv X pins σ H { s with heap:=h',toks:=t' }:=I.un (Un.kept k) (I.hok.kept k)
theorem Inv.laid {a:Addr} {o:HO} {t':Nat} (I:Inv X pins σ H s) (k:∀ b u,s.heap.get? b=some u→h'.get? b=some u) (hp:s.heap.objs.size≤a) (new:ObjOk X.prog X.w (upd H a o) h' a o):
  Inv X pins σ (upd H a o) { s with heap:=h',toks:=t' }:=I.un (Un.laid k hp (I.hok.fresh hp)) (I.hok.laid k hp new)
theorem Inv.write {x e:Addr} {o:HO} {t':Nat} (I:Inv X pins σ H s) (mu:Mut (H x)) (he:e=x∨H e=some (.own x)) (k:∀ b u,b≠e→s.heap.get? b=some u→h'.get? b=some u) (heo:∃ u,h'.get? e=some u)
  (new:ObjOk X.prog X.w (upd H x o) h' x o):Inv X pins σ (upd H x o) { s with heap:=h',toks:=t' }:=I.un (Un.write mu he k heo) (I.hok.write mu he k heo new)
theorem Inv.pins_of {pins':List (Addr × Obj)} (I:Inv X pins σ H s) (h:∀ p∈pins',s.heap.get? p.1=some p.2∧H p.1=none∧p.1≠X.env.locals∧p.1∉X.fs∧∀ v,p.2.data≠.cell v):Inv X pins' σ H s:=
 ⟨I.ok,I.os,I.bare,I.base,I.loc,I.cell,I.free,I.freeC,fun p hp=>(List.mem_append.mp hp).elim (fun z=>I.pin p (List.mem_append_left _ z)) (h p),I.hok,I.len⟩
theorem rV {N:List Str} (hN:N.Nodup) {i j:Nat} {x:Str} (a:N[i]? =some x) (b:N[j]? =some x):i=j:=by
 obtain ⟨h1,e1⟩:=List.getElem?_eq_some_iff.mp a
 obtain ⟨h2,e2⟩:=List.getElem?_eq_some_iff.mp b
 exact (List.getElem_inj hN).mp (e1.trans e2.symm)
theorem qG {M:Model} {A:Around} {E:Value→Shared→Prop} {i:Nat} {x:Str} {v:V} {u:Value} {Q:Unit→Shared→Prop} (I:Inv X pins σ H s) (hN:X.N.Nodup) (hi:X.N[i]? =some x) (hx:Loc X.env.scope x) (r:RelV v u)
  (h:∀ s',Inv X pins (σ.set i (some v)) H s'→(∃ a,Heap.SameBut a s.heap s'.heap∧(a=X.env.locals∨X.env.cells.lookup x=some a))→Q () s') (hf:X.fn x=true∨X.env.scope.names.lookup x=some .local:=by first | exact .inl rfl | exact .inr rfl | assumption):wpAny M A (storeName X.env x u) Q E s:=by
 obtain ⟨m,hn,hl⟩:=id I.loc
 have hcls:(X.env.scope.kind==.class||(X.env.scope.kind==.module&&X.env.locals != X.env.globals))=false:=by rw [I.ok.kind]; rfl
 have hiσ:i < σ.length:=by rw [I.len]; exact (List.getElem?_eq_some_iff.mp hi).1
 have cne:=I.cne
 have tracked:∀ {a:Addr} {h':Heap},(∃ o,s.heap.get? a=some o∧H a=none)→Heap.SameBut a s.heap h'→HOk X.prog X.w H h':=fun {a h'} ha hs b ob e=>by
  obtain ⟨_,_,hfree⟩:=ha
  refine (I.hok b ob e).stay (fun c w' hc q=>(hs.2 c ?_).trans q) (fun _ q=>q) fun _ _ q=>q
  rintro rfl
  rcases hc with rfl | hc
  · rw [hfree] at e; cases e
  · rw [hfree] at hc; cases hc
 rcases hx with hk | hk
 · refine wpAny_storeName_local hk hn (fun h' hn' hs=>?_) hcls
   obtain ⟨oL,_,_,hoL,_⟩:=id hn
   refine h _ ⟨I.ok,I.os,I.bare,⟨fun b o e n hb hx=>?_,fun b o e n hb hx=>?_,I.base.free,fun b o e hx=>?_,I.base.tups,I.base.frzs,I.base.tbls⟩,⟨_,hn',fun j y v' e1 e2 e3=>?_⟩,fun y c e=>?_,I.free,I.freeC,fun p hp=>?_,tracked ⟨oL,hoL,I.free⟩ hs,by simpa using I.len⟩ ⟨_,hs,.inl rfl⟩
   · exact (hs.2 b (Nat.ne_of_lt (Nat.lt_of_lt_of_le (Heap.lt_size e) I.ok.above))).trans (I.base.keep b o e n hb hx)
   · obtain ⟨sl,e1⟩:=I.base.slot b o e n hb hx
     exact ⟨sl,(hs.2 b (Nat.ne_of_lt (Nat.lt_of_lt_of_le (Heap.lt_size e) I.ok.above))).trans e1⟩
   · obtain ⟨o',e1⟩:=I.base.there b o e hx
     exact ⟨o',(hs.2 b (Nat.ne_of_lt (Nat.lt_of_lt_of_le (Heap.lt_size e) I.ok.above))).trans e1⟩
   · by_cases hj:j=i
     · subst hj
       rw [hi] at e1; cases e1
       rw [List.getElem?_set_self hiσ] at e2
       cases e2
       exact ⟨u,r,.inl ⟨hk,by simp⟩⟩
     · rw [List.getElem?_set_ne (Ne.symm hj)] at e2
       obtain ⟨u',r',q⟩:=hl j y v' e1 e2 e3
       refine ⟨u',r',?_⟩
       rcases q with ⟨k,e⟩ | ⟨k,c,e,z⟩
       · refine .inl ⟨k,?_⟩
         have:y≠x:=fun e=>hj (rV hN e1 (e ▸ hi))
         simp [this,e]
       · exact .inr ⟨k,c,e,z.sameBut hs (cne y c e)⟩
   · obtain ⟨w',z⟩:=I.cell y c e
     exact ⟨w',z.sameBut hs (cne y c e)⟩
   · obtain ⟨e,n,ne,nf,d⟩:=I.pin p hp
     exact ⟨(hs.2 p.1 ne).trans e,n,ne,nf,d⟩
 · have hfn:X.fn x=true:=by
    rcases hf with z | z
    · exact z
    · rw [z] at hk; cases hk
   obtain ⟨c,hc⟩:=I.ok.has x (.inl hk)
   obtain ⟨w',z⟩:=I.cell x c hc
   refine wpAny_storeName_cell I.ok.kind hk hc z (fun h' hc' hs=>?_)
   obtain ⟨oc,hoc,hocd⟩:=id z
   refine h { s with heap:=h' } ⟨I.ok,I.os,I.bare,⟨fun b o e n hb hx=>?_,fun b o e n hb hx=>?_,I.base.free,fun b o e hx=>?_,I.base.tups,I.base.frzs,I.base.tbls⟩,⟨m,hn.sameBut hs (Ne.symm (cne x c hc)),fun j y v' e1 e2 e3=>?_⟩,fun y c' e=>?_,I.free,I.freeC,fun p hp=>?_,tracked ⟨oc,hoc,I.freeC x c hc⟩ hs,by simpa using I.len⟩ ⟨c,hs,.inr hc⟩
   · exact (hs.2 b (Nat.ne_of_lt (Nat.lt_of_lt_of_le (Heap.lt_size e) (I.ok.cab x c hfn hc)))).trans (I.base.keep b o e n hb hx)
   · obtain ⟨sl,e1⟩:=I.base.slot b o e n hb hx
     exact ⟨sl,(hs.2 b (Nat.ne_of_lt (Nat.lt_of_lt_of_le (Heap.lt_size e) (I.ok.cab x c hfn hc)))).trans e1⟩
   · obtain ⟨o',e1⟩:=I.base.there b o e hx
     exact ⟨o',(hs.2 b (Nat.ne_of_lt (Nat.lt_of_lt_of_le (Heap.lt_size e) (I.ok.cab x c hfn hc)))).trans e1⟩
   · by_cases hj:j=i
     · subst hj
       rw [hi] at e1; cases e1
       rw [List.getElem?_set_self hiσ] at e2
       cases e2
       exact ⟨u,r,.inr ⟨.inl hk,c,hc,hc'⟩⟩
     · rw [List.getElem?_set_ne (Ne.symm hj)] at e2
       obtain ⟨u',r',q⟩:=hl j y v' e1 e2 e3
       refine ⟨u',r',?_⟩
       rcases q with q | ⟨k,c',e,z'⟩
       · exact .inl q
       · refine .inr ⟨k,c',e,z'.sameBut hs ?_⟩
         rintro rfl
         exact hj (rV hN e1 (I.ok.inj _ _ _ e hc ▸ hi))
   · by_cases hcc:c'=c
     · subst hcc; exact ⟨_,hc'⟩
     · obtain ⟨w2,z2⟩:=I.cell y c' e
       exact ⟨w2,z2.sameBut hs hcc⟩
   · obtain ⟨e,n,ne,nf,d⟩:=I.pin p hp
     refine ⟨(hs.2 p.1 ?_).trans e,n,ne,nf,d⟩
     intro q
     rw [q,hoc] at e
     have q':oc=p.2:=Option.some.inj e
     exact d w' (by rw [← q']; exact hocd)
theorem rW {M:Model} {A:Around} {E:Value→Shared→Prop} {i:Nat} {x:Str} {v:V} {u:Value} {Q:Unit→Shared→Prop} (I:Inv X pins σ H s) (hN:X.N.Nodup) (hi:X.N[i]? =some x) (hx:Loc X.env.scope x) (r:RelV v u)
  (h:∀ s',Inv X pins (σ.set i (some v)) H s'→Q () s') (hf:X.fn x=true∨X.env.scope.names.lookup x=some .local:=by first | exact .inl rfl | exact .inr rfl | assumption):wpAny M A (storeName X.env x u) Q E s:=
 qG I hN hi hx r (fun s' I' _=>h s' I') hf
theorem Inv.call' {s':Shared} {ch:List Addr} (I:Inv X pins σ H s) (ho:s'.os=s.os) (u:Un (frs X.stack) ch H H' s.heap s'.heap) (hok:HOk X.prog X.w H' s'.heap) (hg:AllBare s'.gens)
  (hch:∀ b∈ch,(b∈X.ex∨X.s₀.heap.objs.size≤b)∧b≠X.env.locals∧(∀ x c,X.env.cells.lookup x=some c→c≠b)∧∀ p∈X.pn++pins,p.1≠b):Inv X pins σ H' s':=by
 obtain ⟨h',g',d',t',o'⟩:=s'
 have e:o'=s.os:=ho
 subst e
 exact I.call (g':=g') (t':=t') (d':=d') u hok hg hch
end
abbrev XK:=Value→Option Addr→Hp→Prop
abbrev St:=List (Option V)
abbrev VK:=V→Hp→Prop
abbrev TE:=St→Hp→VK→Prop
abbrev TT:=St→Hp→(Bool→Hp→Prop)→Prop
abbrev TA:=St→Hp→(List V→Hp→Prop)→Prop
structure Ends where
 nx:St→Hp→Prop
 rt:VK
 bk:St→Hp→Prop:=fun _ _=>False
 ct:St→Hp→Prop:=fun _ _=>False
abbrev TS:=Ends→St→Hp→Prop
def EP (X:Cx) (pins:List (Addr × Obj)) (σ:St) (Q:VK) (u:Value) (s':Shared):Prop:=∃ v H',Inv X pins σ H' s'∧RelV v u∧Q v H'
def TP (X:Cx) (pins:List (Addr × Obj)) (σ:St) (Q:Bool→Hp→Prop) (b:Bool) (s':Shared):Prop:=∃ H',Inv X pins σ H' s'∧Q b H'
def AP (X:Cx) (pins:List (Addr × Obj)) (σ:St) (Q:List V→Hp→Prop) (us:List Value) (s':Shared):Prop:=∃ vs H',Inv X pins σ H' s'∧Vals vs us∧Q vs H'
def SP (X:Cx) (pins:List (Addr × Obj)) (D:Ends) (f:Flow) (s':Shared):Prop:=
 match f with
 | .next=>∃ σ' H',Inv X pins σ' H' s'∧D.nx σ' H'
 | .brk=>∃ σ' H',Inv X pins σ' H' s'∧D.bk σ' H'
 | .cont=>∃ σ' H',Inv X pins σ' H' s'∧D.ct σ' H'
 | .ret u=>∃ v σ' H',Inv X pins σ' H' s'∧RelV v u∧D.rt v H'
def PE (X:Cx) (e:Expr) (t:TE):Prop:=
 ∀ (pins:List (Addr × Obj)) (s:Shared) (σ:St) (H:Hp) (Q:VK),Inv X pins σ H s→t σ H Q→wpAny (model X.prog X.w) X.A (eval e X.env) (EP X pins σ Q) X.xe s
def PT (X:Cx) (e:Expr) (t:TT):Prop:=
 ∀ (pins:List (Addr × Obj)) (s:Shared) (σ:St) (H:Hp) (Q:Bool→Hp→Prop),Inv X pins σ H s→t σ H Q→wpAny (model X.prog X.w) X.A (isTrue e X.env (eval e X.env)) (TP X pins σ Q) X.xe s
def PW (X:Cx) (e:Expr) (t:TT):Prop:=
 ∀ (whole:Sem Value) (pins:List (Addr × Obj)) (s:Shared) (σ:St) (H:Hp) (Q:Bool→Hp→Prop),Inv X pins σ H s→t σ H Q→wpAny (model X.prog X.w) X.A (isTrue e X.env whole) (TP X pins σ Q) X.xe s
theorem PW.pt {X:Cx} {e:Expr} {t:TT} (h:PW X e t):PT X e t:=h _
def PA (X:Cx) (es:List Expr) (t:TA):Prop:=
 ∀ (pos:Pos) (pins:List (Addr × Obj)) (s:Shared) (σ:St) (H:Hp) (Q:List V→Hp→Prop),Inv X pins σ H s→t σ H Q→wpAny (model X.prog X.w) X.A (spliced (backTo pos (starEach es X.env))) (AP X pins σ Q) X.xe s
def PS (X:Cx) (st:Stmt) (t:TS):Prop:=
 ∀ (pins:List (Addr × Obj)) (s:Shared) (σ:St) (H:Hp) (D:Ends),Inv X pins σ H s→t D σ H→wpAny (model X.prog X.w) X.A (exec st X.env) (SP X pins D) X.xe s
def PSs (X:Cx) (st:List Stmt) (t:TS):Prop:=
 ∀ (pins:List (Addr × Obj)) (s:Shared) (σ:St) (H:Hp) (D:Ends),Inv X pins σ H s→t D σ H→wpAny (model X.prog X.w) X.A (execs st X.env) (SP X pins D) X.xe s
theorem thn {α:Type} {t:Sem α} {Q Q':α→Shared→Prop} {M:Model} {A:Around} {E:Value→Shared→Prop} {s:Shared} (h:wpAny M A t Q E s) (hQ:∀ a s,Q a s→Q' a s):wpAny M A t Q' E s:=wpAny_mono h hQ fun _ _ x=>x
end L2
namespace L2
open PySem PySem.Spec PyProof.Rows
section
variable {X:Cx}
def tVar (i:Nat):TE:=fun σ H Q=>∃ v,σ[i]? =some (some v)∧Q v H
def tC (v:V):TE:=fun _ H Q=>Q v H
theorem zN {i:Nat} {x:Str} {pos:Pos} (hN:X.N[i]? =some x) (hv:Vis X.env.scope x) (hd:(x==("__debug__":Str))=false:=by decide) (hcd:(x==("__classdict__":Str))=false:=by decide):PE X (.Name x pos) (tVar i):=by
 intro pins s σ H Q I h
 obtain ⟨v,e,h⟩:=h
 obtain ⟨m,hn,hl⟩:=I.loc
 obtain ⟨u,r,l⟩:=hl i x v hN e hv
 have fin:EP X pins σ Q u s:=⟨v,H,I,r,h⟩
 rcases l with ⟨hk,hm⟩ | ⟨hk,c,hc,hcell⟩
 · exact wpAny_Name (wpAny_loadName_local I.ok.kind hk hn hm fin) hd
 · rcases hk with hk | hk
   · exact wpAny_Name (wpAny_loadName_cell I.ok.kind hk hc hcell fin) hd
   · exact wpAny_Name (wpAny_loadName_free I.ok.kind hk hc hcell fin hcd) hd
theorem ad {i j pos}:PE X (.Constant (.int i) j pos) (tC (.int i)):=fun _ _ _ H _ I h=>wpAny_Constant_int ⟨.int i,H,I.tok _,⟨_,rfl⟩,h⟩
theorem eu {b j pos}:PE X (.Constant (.bool b) j pos) (tC (.bl b)):=fun _ _ _ H _ I h=>Constant_bool ⟨.bl b,H,I,rfl,h⟩
theorem rX {j pos}:PE X (.Constant .none j pos) (tC .non):=fun _ _ _ H _ I h=>Constant_none ⟨.non,H,I,rfl,h⟩
theorem aT {x j pos}:PE X (.Constant (.str x) j pos) (tC (.str x)):=fun _ _ _ H _ I h=>Calls.Constant_str ⟨.str x,H,I.tok _,⟨_,rfl⟩,h⟩
def Gl (X:Cx) (x:Str):Prop:=X.env.kindOf x=some .globalImplicit
theorem qj {E:Value→Shared→Prop} {pins:List (Addr × Obj)} {s:Shared} {σ:St} {H:Hp} {x:Str} {u:Value} {pos:Pos} {Q:Value→Shared→Prop} (I:Inv X pins σ H s) (hg:Gl X x) (hm:X.mg x=some u) (h:Q u s)
  (hd:(x==("__debug__":Str))=false:=by decide):wpAny (model X.prog X.w) X.A (eval (.Name x pos) X.env) Q E s:=
 Calls.Name_function_global I.ok.kind hg (Calls.loadGlobal_global (by rw [I.ok.glob]; exact I.mod.glob.keeps I.bk) hm h) hd
theorem im {E:Value→Shared→Prop} {pins:List (Addr × Obj)} {s:Shared} {σ:St} {H:Hp} {x:Str} {u:Value} {pos:Pos} {Q:Value→Shared→Prop} (I:Inv X pins σ H s) (hg:Gl X x) (hm:X.mg x=none) (hv:bootBuiltins x=some u) (h:Q u s)
  (hn:x≠"__name__":=by decide) (hd:(x==("__debug__":Str))=false:=by decide):wpAny (model X.prog X.w) X.A (eval (.Name x pos) X.env) Q E s:=by
 obtain ⟨mb,h1,h2⟩:=I.mod.blt
 exact Calls.Name_function_global I.ok.kind hg (Calls.loadGlobal_builtin (by rw [I.ok.glob]; exact I.mod.glob.keeps I.bk) hm (by rw [I.ok.blt]; exact h1.keeps I.bk) ((h2 x hn).trans hv) h) hd
theorem eJ {x:Str} {v:V} {u:Value} {pos:Pos} (hg:Gl X x) (hm:X.mg x=some u) (r:RelV v u) (hd:(x==("__debug__":Str))=false:=by decide):PE X (.Name x pos) (tC v):=
 fun _ _ _ H _ I h=>qj I hg hm ⟨v,H,I,r,h⟩ hd
theorem gN {x:Str} {v:V} {u:Value} {pos:Pos} (hg:Gl X x) (hm:X.mg x=none) (hv:bootBuiltins x=some u) (r:RelV v u) (hn:x≠"__name__":=by decide) (hd:(x==("__debug__":Str))=false:=by decide):PE X (.Name x pos) (tC v):=
 fun _ _ _ H _ I h=>im I hg hm hv ⟨v,H,I,r,h⟩ hn hd
variable {a b:Expr} {ta tb:TE} {pos:Pos}
def tB (t:TE):TT:=fun σ H Q=>t σ H fun x H1=>∃ c,x=.bl c∧Q c H1
theorem bg {e:Expr} {t:TE} (h:PE X e t) (he:∀ whole,isTrue e X.env whole=(do let v ← whole; standAt e.pos; holding [v] (truthy v)):=by intro _; rfl):PT X e (tB t):=by
 intro pins s σ H Q I hw
 refine isTrue_plain (thn (h pins s σ H _ I hw) fun v s1 ⟨x,H1,I1,r1,q1⟩=>?_) (he _)
 obtain ⟨d,rfl,q⟩:=q1
 cases r1
 exact wpAny_truthy_bool ⟨H1,I1,q⟩
variable {tA tB':TT} {rest:List Expr}
def tAnd (t u:TT):TT:=fun σ H Q=>t σ H fun c H1=>if c=true then u σ H1 Q else Q false H1
def tOr (t u:TT):TT:=fun σ H Q=>t σ H fun c H1=>if c=true then Q true H1 else u σ H1 Q
def tNot (t:TT):TT:=fun σ H Q=>t σ H fun c H1=>Q (!c) H1
theorem eK (ha:PT X a tA):PW X (.BoolOp .And [a] pos) tA:=by
 intro wh pins s σ H Q I h
 refine isTrue_and (thn (ha pins s σ H Q I h) fun c s1 e=>?_)
 cases c with
 | true=>exact isTrue_and_nil e
 | false=>exact e
theorem dy (ha:PT X a tA):PW X (.BoolOp .Or [a] pos) tA:=by
 intro wh pins s σ H Q I h
 refine isTrue_or (thn (ha pins s σ H Q I h) fun c s1 e=>?_)
 cases c with
 | false=>exact isTrue_or_nil e
 | true=>exact e
theorem fN (ha:PT X a tA) (hb:PW X (.BoolOp .And (b::rest) pos) tB'):PW X (.BoolOp .And (a::b::rest) pos) (tAnd tA tB'):=by
 intro wh pins s σ H Q I h
 refine isTrue_and (thn (ha pins s σ H _ I h) fun c s1 ⟨H1,I1,q1⟩=>?_)
 cases c with
 | true=>exact hb wh pins s1 σ H1 Q I1 q1
 | false=>exact ⟨H1,I1,q1⟩
theorem cM (ha:PT X a tA) (hb:PW X (.BoolOp .Or (b::rest) pos) tB'):PW X (.BoolOp .Or (a::b::rest) pos) (tOr tA tB'):=by
 intro wh pins s σ H Q I h
 refine isTrue_or (thn (ha pins s σ H _ I h) fun c s1 ⟨H1,I1,q1⟩=>?_)
 cases c with
 | true=>exact ⟨H1,I1,q1⟩
 | false=>exact hb wh pins s1 σ H1 Q I1 q1
theorem b4 (ha:PT X a tA):PT X (.UnaryOp .Not a pos) (tNot tA):=by
 intro pins s σ H Q I h
 exact isTrue_not (ha pins s σ H (fun c H1=>Q (!c) H1) I h)
def tAndV (ta tb:TE):TE:=fun σ H Q=>ta σ H fun x H1=>∃ c,x=.bl c∧if c=true then tb σ H1 Q else Q (.bl false) H1
def tOrV (ta tb:TE):TE:=fun σ H Q=>ta σ H fun x H1=>∃ c,x=.bl c∧if c=true then Q (.bl true) H1 else tb σ H1 Q
def tNotV (ta:TE):TE:=fun σ H Q=>ta σ H fun x H1=>∃ c,x=.bl c∧Q (.bl (!c)) H1
theorem cO {op} {t:TE} (h:PE X a t):PE X (.BoolOp op [a] pos) t:=fun pins s σ H Q I hw=>BoolOp_one (h pins s σ H Q I hw)
theorem bK (ha:PE X a ta) (hb:PE X (.BoolOp .And (b::rest) pos) tb):PE X (.BoolOp .And (a::b::rest) pos) (tAndV ta tb):=by
 intro pins s σ H Q I h
 refine BoolOp_and (thn (ha pins s σ H _ I h) fun v s1 ⟨x,H1,I1,r1,q1⟩=>?_)
 obtain ⟨c,rfl,q1⟩:=q1
 cases r1
 refine wpAny_truthy_bool ?_
 cases c with
 | true=>exact hb pins s1 σ H1 Q I1 q1
 | false=>exact ⟨.bl false,H1,I1,rfl,q1⟩
theorem yT (ha:PE X a ta) (hb:PE X (.BoolOp .Or (b::rest) pos) tb):PE X (.BoolOp .Or (a::b::rest) pos) (tOrV ta tb):=by
 intro pins s σ H Q I h
 refine BoolOp_or (thn (ha pins s σ H _ I h) fun v s1 ⟨x,H1,I1,r1,q1⟩=>?_)
 obtain ⟨c,rfl,q1⟩:=q1
 cases r1
 refine wpAny_truthy_bool ?_
 cases c with
 | false=>exact hb pins s1 σ H1 Q I1 q1
 | true=>exact ⟨.bl true,H1,I1,rfl,q1⟩
theorem zO (ha:PE X a ta):PE X (.UnaryOp .Not a pos) (tNotV ta):=by
 intro pins s σ H Q I h
 refine UnaryOp_ (thn (ha pins s σ H _ I h) fun v s1 ⟨x,H1,I1,r1,q1⟩=>?_)
 obtain ⟨c,rfl,q1⟩:=q1
 cases r1
 exact not_of (wpAny_truthy_bool ⟨.bl (!c),H1,I1,rfl,q1⟩)
def tIf (t:TT) (ta tb:TE):TE:=fun σ H Q=>t σ H fun c H1=>if c=true then ta σ H1 Q else tb σ H1 Q
theorem yj {c:Expr} (hc:PT X c tA) (ha:PE X a ta) (hb:PE X b tb):PE X (.IfExp c a b pos) (tIf tA ta tb):=by
 intro pins s σ H Q I h
 refine wpAny_IfExp (thn (hc pins s σ H _ I h) fun d s1 ⟨H1,I1,q1⟩=>?_)
 cases d with
 | true=>exact ha pins s1 σ H1 Q I1 q1
 | false=>exact hb pins s1 σ H1 Q I1 q1
end
end L2
namespace L2
open PySem PySem.Spec PyProof.Rows
def SqL (K:PySem.W.Frag) (H:Hp) (a:Addr) (xs:List V):Prop:=
 Rd H a (.lst xs)∨
  ∃ (o:Obj) (its:Array Value) (n:Nat),K.lookup a=some o∧o.cls=.type "list"∧o.dict=none∧o.data=.seq its n∧its.size≤sizeLine∧Vals xs its.toList
def SqT (K:PySem.W.Frag) (H:Hp) (a:Addr) (xs:List V):Prop:=
 Rd H a (.tup xs)∨
  ∃ (o:Obj) (its:Array Value) (n:Nat),K.lookup a=some o∧o.cls=.type "tuple"∧o.data=.seq its n∧its.size≤sizeLine∧Vals xs its.toList
def absV:Value→Option V
 | .none=>some .non
 | .bool b=>some (.bl b)
 | .int i _=>some (.int i)
 | .str x _=>some (.str x)
 | .bytes b _=>some (.byt b)
 | .float b _=>some (.flt b)
 | .ref a=>some (.ref a)
 | .type n=>some (.ty n)
 | _=>none
theorem RelV.abs {x:V} {u:Value} (r:RelV x u):absV u=some x:=by
 cases x with
 | non=>cases r; rfl
 | bl _=>cases r; rfl
 | int _=>obtain ⟨t,rfl⟩:=r; rfl
 | str _=>obtain ⟨t,rfl⟩:=r; rfl
 | byt _=>obtain ⟨t,rfl⟩:=r; rfl
 | flt _=>obtain ⟨t,rfl⟩:=r; rfl
 | ref _=>cases r; rfl
 | ty _=>cases r; rfl
theorem RelV.inj {x y:V} {u:Value} (r:RelV x u) (q:RelV y u):x=y:=Option.some.inj (r.abs.symm.trans q.abs)
theorem Vals.inj:∀ {xs ys:List V} {us:List Value},Vals xs us→Vals ys us→xs=ys
 | _,_,_,.nil,.nil=>rfl
 | _,_,_,.cons r t,.cons r' t'=>by rw [r.inj r',Vals.inj t t']
section
variable {X:Cx} {pins:List (Addr × Obj)} {σ:St} {H:Hp} {s:Shared} {a:Addr} {xs ys:List V}
theorem SqL.of {K:PySem.W.Frag} (h:H a=some (.lst xs)):SqL K H a xs:=.inl (.inl h)
theorem SqT.of {K:PySem.W.Frag} (h:H a=some (.tup xs)):SqT K H a xs:=.inl (.inl h)
theorem Inv.list (I:Inv X pins σ H s) (h:SqL X.K H a xs):∃ its:List Value,Vals xs its∧PlainL s.heap a its.toArray∧xs.length≤sizeLine:=by
 rcases h with h | ⟨o,its,n,hk,hc,hd,hs,hz,r⟩
 · obtain ⟨z,its,n,r,e⟩:=h.ok I.hok
   exact ⟨its,r,⟨_,n,e,rfl,rfl,rfl⟩,z⟩
 · refine ⟨its.toList,r,⟨o,n,I.kIn a o hk,hc,hd,by simpa using hs⟩,?_⟩
   have e:=r.length
   simp only [Array.length_toList] at e
   omega
theorem Inv.tuple (I:Inv X pins σ H s) (h:SqT X.K H a xs):∃ its:List Value,Vals xs its∧IsTup s.heap a its.toArray∧xs.length≤sizeLine:=by
 rcases h with h | ⟨o,its,n,hk,hc,hs,hz,r⟩
 · obtain ⟨z,its,r,p⟩:=h.ok I.hok
   exact ⟨its,r,p,z⟩
 · refine ⟨its.toList,r,⟨o,I.kIn a o hk,hc,n,by simpa using hs⟩,?_⟩
   have e:=r.length
   simp only [Array.length_toList] at e
   omega
theorem Inv.list_inj (I:Inv X pins σ H s) (h:SqL X.K H a xs) (h':SqL X.K H a ys):xs=ys:=by
 obtain ⟨its,r,⟨o,n,e,_,_,d⟩,_⟩:=I.list h
 obtain ⟨its',r',⟨o',n',e',_,_,d'⟩,_⟩:=I.list h'
 rw [e] at e'; cases e'
 rw [d] at d'
 injection d' with d1 _
 have:its=its':=by simpa using congrArg Array.toList d1
 subst this
 exact r.inj r'
theorem Inv.tuple_inj (I:Inv X pins σ H s) (h:SqT X.K H a xs) (h':SqT X.K H a ys):xs=ys:=by
 obtain ⟨its,r,⟨o,e,_,n,d⟩,_⟩:=I.tuple h
 obtain ⟨its',r',⟨o',e',_,n',d'⟩,_⟩:=I.tuple h'
 rw [e] at e'; cases e'
 rw [d] at d'
 injection d' with d1 _
 have:its=its':=by simpa using congrArg Array.toList d1
 subst this
 exact r.inj r'
end
abbrev Cx.wish (X:Cx) (E:Value→Shared→Prop):Cx:={ X with xe:=E }
abbrev Cx.nox (X:Cx):Cx:=X.wish fun _ _=>False
theorem Cx.Ok.wish {X:Cx} (ok:X.Ok) (E:Value→Shared→Prop):(X.wish E).Ok:=
 ⟨ok.mod,ok.kind,ok.glob,ok.blt,ok.above,ok.inj,ok.has,ok.cab,ok.hd,ok.frames,ok.stk,ok.exf,ok.bs,ok.bsz,ok.noex,ok.exfs,ok.funs,ok.frf⟩
theorem Cx.Ok.unwish {X:Cx} {E:Value→Shared→Prop} (ok:(X.wish E).Ok):X.Ok:=
 ⟨ok.mod,ok.kind,ok.glob,ok.blt,ok.above,ok.inj,ok.has,ok.cab,ok.hd,ok.frames,ok.stk,ok.exf,ok.bs,ok.bsz,ok.noex,ok.exfs,ok.funs,ok.frf⟩
section
variable {X:Cx} {pins:List (Addr × Obj)} {σ:St} {H:Hp} {s:Shared} {E:Value→Shared→Prop}
theorem Inv.wish (I:Inv X pins σ H s) (E:Value→Shared→Prop):Inv (X.wish E) pins σ H s:=⟨I.ok.wish E,I.os,I.bare,I.base,I.loc,I.cell,I.free,I.freeC,I.pin,I.hok,I.len⟩
theorem Inv.unwish (I:Inv (X.wish E) pins σ H s):Inv X pins σ H s:=⟨I.ok.unwish,I.os,I.bare,I.base,I.loc,I.cell,I.free,I.freeC,I.pin,I.hok,I.len⟩
theorem SP.unwish {D:Ends} {f:Flow} {s':Shared} (h:SP (X.wish E) pins D f s'):SP X pins D f s':=by
 cases f with
 | next=>obtain ⟨σ',H',I,q⟩:=h; exact ⟨σ',H',I.unwish,q⟩
 | brk=>obtain ⟨σ',H',I,q⟩:=h; exact ⟨σ',H',I.unwish,q⟩
 | cont=>obtain ⟨σ',H',I,q⟩:=h; exact ⟨σ',H',I.unwish,q⟩
 | ret u=>obtain ⟨v,σ',H',I,r,q⟩:=h; exact ⟨v,σ',H',I.unwish,r,q⟩
theorem PSs.nox {st:List Stmt} {t:TS} (h:PSs X.nox st t):PSs X st t:=fun pins s σ H D I hw=>
 wpAny_mono (h pins s σ H D (I.wish _) hw) (fun _ _ q=>q.unwish) fun _ _ z=>False.elim z
end
section
variable {X:Cx} {st:Stmt} {rest:List Stmt} {t u:TS} {e:Expr} {te:TE} {pos:Pos}
def tNext:TS:=fun D σ H=>D.nx σ H
def tSeq (t u:TS):TS:=fun D σ H=>t { D with nx:=u D } σ H
theorem au:PSs X [] tNext:=fun _ _ σ H _ I h=>wpAny_execs_nil ⟨σ,H,I,h⟩
theorem ae (h1:PS X st t) (h2:PSs X rest u):PSs X (st::rest) (tSeq t u):=by
 intro pins s σ H D I h
 refine wpAny_execs_cons (thn (h1 pins s σ H { D with nx:=u D } I h) fun f s1 q=>?_)
 cases f with
 | next=>
  obtain ⟨σ',H',I',q⟩:=q
  exact h2 pins s1 σ' H' D I' q
 | ret v=>exact q
 | brk=>exact q
 | cont=>exact q
theorem ag (h1:PS X st t):PSs X [st] t:=by
 intro pins s σ H D I h
 refine wpAny_execs_cons (thn (h1 pins s σ H D I h) fun f s1 q=>?_)
 cases f with
 | next=>exact wpAny_execs_nil q
 | ret v=>exact q
 | brk=>exact q
 | cont=>exact q
theorem Inv.quiet {pins:List (Addr × Obj)} {σ:St} {H:Hp} {s:Shared} (I:Inv X pins σ H s):interactive X.env=false:=by simp [interactive,I.ok.kind]
def tDrop (te:TE):TS:=fun D σ H=>te σ H fun _ H1=>D.nx σ H1
theorem b5 (he:PE X e te) (hs:swapsWith e none pos.line X.env=pure false:=by rfl):PS X (.Expr e pos) (tDrop te):=by
 intro pins s σ H D I h
 exact wpAny_Expr_any (thn (he pins s σ H _ I h) fun v s1 ⟨x,H1,I1,r1,q1⟩=>⟨σ,H1,I1,q1⟩) I.quiet hs
def tRet (te:TE):TS:=fun D σ H=>te σ H D.rt
theorem ak (he:PE X e te):PS X (.Return (some e) pos) (tRet te):=by
 intro pins s σ H D I h
 exact wpAny_Return_some (thn (he pins s σ H _ I h) fun v s1 ⟨x,H1,I1,r1,q1⟩=>⟨x,σ,H1,I1,r1,q1⟩)
def tRetN:TS:=fun D _ H=>D.rt .non H
def tIfS (c:TT) (t u:TS):TS:=fun D σ H=>c σ H fun b H1=>if b=true then t D σ H1 else u D σ H1
theorem aD {c:Expr} {a b:List Stmt} {tc:TT} (hc:PT X c tc) (ha:PSs X a t) (hb:PSs X b u):PS X (.If c a b pos) (tIfS tc t u):=by
 intro pins s σ H D I h
 refine wpAny_If (thn (hc pins s σ H _ I h) fun d s1 ⟨H1,I1,q1⟩=>?_)
 cases d with
 | true=>exact ha pins s1 σ H1 D I1 q1
 | false=>exact hb pins s1 σ H1 D I1 q1
def dz:TS:=fun _ _ _=>False
theorem b8:PS X st dz:=fun _ _ _ _ _ _ h=>h.elim
end
abbrev TG:=V→St→Hp→(St→Hp→Prop)→Prop
abbrev TGs:=List V→St→Hp→(St→Hp→Prop)→Prop
def PG (X:Cx) (target:Expr) (t:TG):Prop:=
 ∀ (pins:List (Addr × Obj)) (s:Shared) (σ:St) (H:Hp) (v:V) (u:Value) (Q:St→Hp→Prop),Inv X pins σ H s→RelV v u→t v σ H Q→
  wpAny (model X.prog X.w) X.A (assign target X.env u) (fun _ s'=>∃ σ' H',Inv X pins σ' H' s'∧Q σ' H') X.xe s
def PGs (X:Cx) (ts:List Expr) (t:TGs):Prop:=
 ∀ (pins:List (Addr × Obj)) (s:Shared) (σ:St) (H:Hp) (vs:List V) (us:List Value) (Q:St→Hp→Prop),Inv X pins σ H s→Vals vs us→t vs σ H Q→
  wpAny (model X.prog X.w) X.A (assignInOrder ((assignEach ts X.env).map (·.2)) us) (fun _ s'=>∃ σ' H',Inv X pins σ' H' s'∧Q σ' H') X.xe s
abbrev TSet:=V→V→V→Hp→(Hp→Prop)→Prop
def PSet (X:Cx) (t:TSet):Prop:=
 ∀ (pins:List (Addr × Obj)) (s:Shared) (σ:St) (H:Hp) (o i v:V) (ov iv u:Value) (Q:Hp→Prop),Inv X pins σ H s→RelV o ov→RelV i iv→RelV v u→t o i v H Q→
  wpAny (model X.prog X.w) X.A (setItem ov iv u) (fun _ s'=>∃ H',Inv X pins σ H' s'∧Q H') X.xe s
section
variable {X:Cx} {pos:Pos}
def gName (i:Nat):TG:=fun v σ H Q=>Q (σ.set i (some v)) H
theorem aJ {i:Nat} {x:Str} (hN:X.N.Nodup) (hi:X.N[i]? =some x) (hx:Loc X.env.scope x) (hf:X.fn x=true∨X.env.scope.names.lookup x=some .local:=by first | exact .inl rfl | exact .inr rfl | assumption):PG X (.Name x pos) (gName i):=by
 intro pins s σ H v u Q I r h
 exact wpAny_assign_Name (rW I hN hi hx r (fun s' I'=>⟨_,H,I',h⟩) hf)
def gNil:TGs:=fun vs σ H Q=>vs=[]∧Q σ H
def gCons (t:TG) (u:TGs):TGs:=fun vs σ H Q=>∃ v r,vs=v::r∧t v σ H fun σ' H'=>u r σ' H' Q
theorem qk:PGs X [] gNil:=by
 intro pins s σ H vs us Q I r h
 obtain ⟨e,h⟩:=h
 subst e
 cases r
 exact assignInOrder_nil ⟨σ,H,I,h⟩
theorem i7 {e:Expr} {es:List Expr} {t:TG} {u:TGs} (h1:PG X e t) (h2:PGs X es u)
  (hs:(assignEach (e::es) X.env).map (·.2)=assign e X.env::(assignEach es X.env).map (·.2):=by rfl):PGs X (e::es) (gCons t u):=by
 intro pins s σ H vs us Q I r h
 obtain ⟨v,vr,e1,h⟩:=h
 subst e1
 cases r with
 | cons r rr=>
  rw [hs]
  refine assignInOrder_cons (thn (h1 pins s σ H _ _ _ I r h) fun _ s1 ⟨σ1,H1,I1,q1⟩=>?_)
  exact h2 pins s1 σ1 H1 _ _ Q I1 rr q1
def gTup (K:PySem.W.Frag) (n:Nat) (t:TGs):TG:=fun v σ H Q=>∃ a xs,v=.ref a∧SqT K H a xs∧xs.length=n∧t xs σ H Q
theorem rY {es:List Expr} {k:Nat} {t:TGs} {n:Nat} (hc:X.calm=true) (h:PGs X es t)
  (hn:(assignEach es X.env).length=n:=by rfl) (hst:(assignEach es X.env).findIdx? (·.1)=none:=by rfl):PG X (.Tuple es k pos) (gTup X.K n t):=by
 intro pins s σ H v u Q I r hw
 obtain ⟨a,xs,e1,hq,hl,hw⟩:=hw
 subst e1
 cases r
 obtain ⟨its,rv,ht,hz⟩:=I.tuple hq
 refine assign_Tuple_tuple (I.ok.hd hc) ht (by simp [hn,← hl,rv.length]) hst fun h' hx=>?_
 have I1:Inv X pins σ H { s with heap:=h' }:=I.kept (t':=s.toks) fun b o e=>hx b o (Nat.ne_of_lt (Heap.lt_size e)) e
 exact h pins _ σ H xs _ Q I1 (by simpa using rv) hw
def gSub (to ti:TE) (t:TSet):TG:=fun v σ H Q=>to σ H fun o H1=>ti σ H1 fun i H2=>t o i v H2 fun H3=>Q σ H3
theorem wI {o i:Expr} {to ti:TE} {t:TSet} (ho:PE X o to) (hi:PE X i ti) (hs:PSet X t)
  (ha:∀ v,assign (.Subscript o i pos) X.env v=(do
   let ov ← holding [v] (eval o X.env)
   let iv ← holding [v,ov] (eval i X.env)
   standAt pos
   holding [v,ov,iv] (setItem ov iv v)
   release [v,ov,iv] []):=by intro _; rfl):PG X (.Subscript o i pos) (gSub to ti t):=by
 intro pins s σ H v u Q I r h
 rw [ha]
 refine wpAny_bind (wpAny_holding (thn (ho pins s σ H _ I h) fun ov s1 ⟨x,H1,I1,r1,q1⟩=>?_))
 refine wpAny_bind (wpAny_holding (thn (hi pins s1 σ H1 _ I1 q1) fun iv s2 ⟨y,H2,I2,r2,q2⟩=>?_))
 refine wpAny_bind (wpAny_standAt (wpAny_bind (wpAny_holding (thn (hs pins s2 σ H2 x y v ov iv u _ I2 r1 r2 r q2) fun _ s3 ⟨H3,I3,q3⟩=>?_))))
 exact wpAny_release ⟨σ,H3,I3,q3⟩
def tAsg (te:TE) (g:TG):TS:=fun D σ H=>te σ H fun x H1=>g x σ H1 D.nx
theorem oJ {tg e:Expr} {te:TE} {g:TG} (he:PE X e te) (hg:PG X tg g) (hs:swapsWithSole [tg] e pos.line X.env=pure false:=by rfl) (hw:swappedStores [tg] e X.env=pure none:=by rfl)
  (h1:(assignEach [tg] X.env).map (·.2)=[assign tg X.env]:=by rfl):PS X (.Assign [tg] e pos) (tAsg te g):=by
 intro pins s σ H D I h
 refine wpAny_Assign_stores (thn (he pins s σ H _ I h) fun v s1 ⟨x,H1,I1,r1,q1⟩=>?_) hs hw
 rw [h1]
 exact thn (hg pins s1 σ H1 x v _ I1 r1 q1) fun _ s2 q=>q
theorem az {i:Nat} {x:Str} {e:Expr} {te:TE} {pos':Pos} (hN:X.N.Nodup) (hi:X.N[i]? =some x) (hx:Loc X.env.scope x) (he:PE X e te) (hs:swapsWith e (some (.Name x pos')) pos.line X.env=pure false:=by rfl) (hf:X.fn x=true∨X.env.scope.names.lookup x=some .local:=by first | exact .inl rfl | exact .inr rfl | assumption):
  PS X (.Assign [.Name x pos'] e pos) (tAsg te (gName i)):=by
 intro pins s σ H D I h
 refine wpAny_Assign_Name (thn (he pins s σ H _ I h) fun v s1 ⟨y,H1,I1,r1,q1⟩=>?_) hs
 exact rW I1 hN hi hx r1 (fun s2 I2=>⟨_,H1,I2,q1⟩) hf
end
section
variable {X:Cx} {pos:Pos}
def wJ (c:TT) (tb:TS):TS:=fun D σ H=>∃ W:Nat→St→Hp→Prop,(∃ m,W m σ H)∧∀ m σ H,W m σ H→
 c σ H fun b H1=>if b=true then ∃ N:St→Hp→Prop,(∀ σ' H',N σ' H'→∃ m',m' < m∧W m' σ' H')∧tb { D with nx:=N,ct:=N,bk:=D.nx } σ H1 else D.nx σ H1
theorem yk {c:Expr} {body:List Stmt} {tc:TT} {tb:TS} (hp:PassesOwn (model X.prog X.w) X.A X.env X.xe) (hc:PT X c tc) (hb:PSs X body tb):PS X (.While c body [] pos) (wJ tc tb):=by
 intro pins s σ H D I h
 obtain ⟨W,⟨m0,w0⟩,turn⟩:=h
 refine wpAny_While (codeAny_whileLoop (fun n s'=>∃ σ' H',Inv X pins σ' H' s'∧W n σ' H') ?_ m0 ⟨σ,H,I,w0⟩)
 rintro n s1 ⟨σ1,H1,I1,w1⟩
 refine wpAny_passesOwn hp (thn (hc pins s1 σ1 H1 _ I1 (turn n σ1 H1 w1)) fun b s2 ⟨H2,I2,q2⟩=>?_)
 cases b with
 | true=>
  obtain ⟨N,hN,q2⟩:=q2
  rw [if_pos rfl]
  refine wpAny_passesOwn hp (thn (hb pins s2 σ1 H2 _ I2 q2) fun f s3 q3=>?_)
  cases f with
  | next=>
   obtain ⟨σ3,H3,I3,n3⟩:=q3
   obtain ⟨m',hm,w3⟩:=hN σ3 H3 n3
   exact ⟨m',hm,σ3,H3,I3,w3⟩
  | cont=>
   obtain ⟨σ3,H3,I3,n3⟩:=q3
   obtain ⟨m',hm,w3⟩:=hN σ3 H3 n3
   exact ⟨m',hm,σ3,H3,I3,w3⟩
  | brk=>exact q3
  | ret v=>exact q3
 | false=>
  rw [if_neg Bool.false_ne_true]
  exact wpAny_execs_nil ⟨σ1,H2,I2,q2⟩
end
structure It where
 go:Nat→Hp→Prop
 yld:Nat→Hp→V→Hp→Prop
 stop:Nat→Hp→Prop
def FpOk (X:Cx) (pins:List (Addr × Obj)) (H:Hp) (b:Addr):Prop:=
 H b=none∧b≠X.env.locals∧b∉X.fs∧(b∈X.ex∨X.s₀.heap.objs.size≤b)∧(∀ x c,X.env.cells.lookup x=some c→c≠b)∧∀ p∈X.pn++pins,p.1≠b
theorem Inv.fpOk {X:Cx} {pins:List (Addr × Obj)} {σ:St} {H H':Hp} {s:Shared} {b:Addr} (I:Inv X pins σ H s) (hb:s.heap.objs.size≤b) (hn:H' b=none):FpOk X pins H' b:=by
 refine ⟨hn,Nat.ne_of_gt (Nat.lt_of_lt_of_le I.lt hb),I.nofs hb,.inr (Nat.le_trans I.sz hb),fun x c e z=>?_,fun p hp z=>?_⟩
 · obtain ⟨v,q⟩:=I.cell x c e
   exact absurd (Nat.lt_of_lt_of_le q.lt (by rw [z]; exact hb)) (Nat.lt_irrefl _)
 · exact absurd (Nat.lt_of_lt_of_le (Heap.lt_size (I.pin p hp).1) (by rw [z]; exact hb)) (Nat.lt_irrefl _)
structure Turn (P:Program) (w:World) (K:PySem.W.Frag) (tg:Expr) (J:It) (fp:List Addr) (it:Addr) (tn:Nat→Heap→Prop):Prop where
 mem:it∈fp
 obj:∀ i h,tn i h→∀ b∈fp,∃ o,h.get? b=some o∧∀ v,o.data≠.cell v
 keep:∀ i h h',tn i h→(∀ b∈fp,∀ o,h.get? b=some o→h'.get? b=some o)→tn i h'
 item:∀ (X:Cx),X.prog=P→X.w=w→X.K=K→X.calm=true→∀ (i:Nat) (pins:List (Addr × Obj)) (s:Shared) (σ:St) (H:Hp) (E:Value→Shared→Prop),Inv X pins σ H s→(∀ b∈fp,FpOk X pins H b)→tn i s.heap→J.go i H→
  wpAny (model P w) X.A (pyNext (.ref it)) (fun r s1=>∃ u,r=some u∧
   wpAny (model P w) X.A (letOwnedTupleGo tg (.ref it) u) (fun _ s2=>∃ x H',Inv X pins σ H' s2∧RelV x u∧J.yld i H x H'∧tn (i+1) s2.heap∧∀ b∈fp,H' b=none) E s1) E s
 done:∀ (X:Cx),X.prog=P→X.w=w→X.K=K→X.calm=true→∀ (i:Nat) (pins:List (Addr × Obj)) (s:Shared) (σ:St) (H:Hp) (E:Value→Shared→Prop),Inv X pins σ H s→(∀ b∈fp,FpOk X pins H b)→tn i s.heap→J.stop i H→
  wpAny (model P w) X.A (pyNext (.ref it)) (fun r s1=>r=none∧Inv X pins σ H s1) E s
 self:∀ (A:Around) (i:Nat) (s:Shared) (Q:Value→Shared→Prop) (E:Value→Shared→Prop),tn i s.heap→Q (.ref it) s→wpAny (model P w) A (pyIter (.ref it)) Q E s
abbrev TI:=St→Hp→(It→Hp→Prop)→Prop
def PIE (X:Cx) (pins:List (Addr × Obj)) (σ:St) (tg:Expr) (R:It→Hp→Prop) (itv:Value) (s2:Shared):Prop:=
 ∃ (it:Addr) (fp:List Addr) (tn:Nat→Heap→Prop) (J:It) (H':Hp),itv=.ref it∧Inv X pins σ H' s2∧Turn X.prog X.w X.K tg J fp it tn∧tn 0 s2.heap∧(∀ b∈fp,FpOk X pins H' b)∧R J H'
def PI (X:Cx) (tg iter:Expr) (wi:TI):Prop:=
 ∀ (pins:List (Addr × Obj)) (s:Shared) (σ:St) (H:Hp) (R:It→Hp→Prop),Inv X pins σ H s→wi σ H R→
  wpAny (model X.prog X.w) X.A (eval iter X.env) (fun v s1=>wpAny (model X.prog X.w) X.A (pyIter v) (PIE X pins σ tg R) X.xe s1) X.xe s
theorem rS {M:Model} {A:Around} {E:Value→Shared→Prop} {s:Shared} {tg:Expr} {it:Addr} {u:Value} {o:Obj} {n:String} {vs:Array Value} {Q:Unit→Shared→Prop} (ho:s.heap.get? it=some o) (hc:o.cls=.type n) (hd:o.data=.fields vs)
  (hn:["enumerate","zip","dict_itemiterator","dict_reverseitemiterator","odict_iterator","itertools.zip_longest","itertools.pairwise"].contains n=false) (hQ:Q () s):wpAny M A (letOwnedTupleGo tg (.ref it) u) Q E s:=by
 unfold letOwnedTupleGo
 cases tg <;> first
  | exact wpAny_pure hQ
  | (cases u <;> first
    | exact wpAny_pure hQ
    | (refine wpAny_bind (wpAny_load ho ?_)
       rw [hc,hd]
       show wpAny M A (if (["enumerate","zip","dict_itemiterator","dict_reverseitemiterator","odict_iterator","itertools.zip_longest","itertools.pairwise"].contains n&&vs[0]? ==some (rawInt _))=true then _ else _) Q E s
       rw [if_neg (by intro h; rw [hn,Bool.false_and] at h; cases h)]
       exact wpAny_pure hQ))
def Itl (K:PySem.W.Frag) (a:Addr):It:=
 ⟨fun i H=>∃ xs x,SqL K H a xs∧xs[i]? =some x,fun i H x H'=>H'=H∧∀ xs,SqL K H a xs→xs[i]? =some x,fun i H=>∃ xs,SqL K H a xs∧xs.length≤i⟩
def Itt (K:PySem.W.Frag) (a:Addr):It:=
 ⟨fun i H=>∃ xs x,SqT K H a xs∧xs[i]? =some x,fun i H x H'=>H'=H∧∀ xs,SqT K H a xs→xs[i]? =some x,fun i H=>∃ xs,SqT K H a xs∧xs.length≤i⟩
def Itr (lo:Int) (n:Nat):It:=⟨fun i _=>i < n,fun i H x H'=>H'=H∧x=.int (lo+i),fun i _=>n≤i⟩
theorem wK {P:Program} {w:World} {K:PySem.W.Frag} {tg:Expr} (a it:Addr):Turn P w K tg (Itl K a) [it] it (fun i h=>h.IsListIter it a i) where
 mem:=by simp
 obj:=fun i h st b hb=>by
  have e:b=it:=by simpa using hb
  subst e
  obtain ⟨o,e,c,d⟩:=st
  exact ⟨o,e,fun v z=>by rw [d] at z; cases z⟩
 keep:=fun i h h' st k=>st.at fun o e=>k it (by simp) o e
 item:=by
  intro X hP hw hK hc i pins s σ H E I hf st hg
  subst hP hw hK
  obtain ⟨xs,x,hq,hx⟩:=hg
  obtain ⟨its,rv,p,hz⟩:=I.list hq
  obtain ⟨u,hu,ru⟩:=rv.get hx
  obtain ⟨f0,f1,f2,f3,f4,f5⟩:=hf it (by simp)
  refine wpAny_pyNext_list_item st p.isList (x:=u) (by simpa using hu) fun h' st' sb=>?_
  have I1:Inv X pins σ H { s with heap:=h' }:=I.turned (t':=s.toks) (fun b o hb e=>(sb.2 b hb).trans e) f0 f1 f3 f4 f5
  obtain ⟨o,e,c,d⟩:=id st'
  exact ⟨u,rfl,rS (s:={ s with heap:=h' }) e c d (by decide) ⟨x,H,I1,ru,⟨rfl,fun ys hy=>by rw [I.list_inj hy hq]; exact hx⟩,st',fun b hb=>(hf b hb).1⟩⟩
 done:=by
  intro X hP hw hK hc i pins s σ H E I hf st hg
  subst hP hw hK
  obtain ⟨xs,hq,hx⟩:=hg
  obtain ⟨its,rv,p,hz⟩:=I.list hq
  obtain ⟨f0,f1,f2,f3,f4,f5⟩:=hf it (by simp)
  have hl:=rv.length
  exact wpAny_pyNext_list_end (I.ok.hd hc) st p.isList (by simp; omega) fun h' eb=>⟨rfl,I.turned (t':=s.toks) (fun b o hb e=>eb b o hb e) f0 f1 f3 f4 f5⟩
 self:=fun _ _ _ _ _ st h=>wpAny_pyIter_listiter st h
theorem vj {P:Program} {w:World} {K:PySem.W.Frag} {tg:Expr} (a it:Addr):Turn P w K tg (Itt K a) [it] it (fun i h=>h.IsTupleIter it a i) where
 mem:=by simp
 obj:=fun i h st b hb=>by
  have e:b=it:=by simpa using hb
  subst e
  obtain ⟨o,e,c,d⟩:=st
  exact ⟨o,e,fun v z=>by rw [d] at z; cases z⟩
 keep:=fun i h h' st k=>st.at fun o e=>k it (by simp) o e
 item:=by
  intro X hP hw hK hc i pins s σ H E I hf st hg
  subst hP hw hK
  obtain ⟨xs,x,hq,hx⟩:=hg
  obtain ⟨its,rv,p,hz⟩:=I.tuple hq
  obtain ⟨u,hu,ru⟩:=rv.get hx
  obtain ⟨f0,f1,f2,f3,f4,f5⟩:=hf it (by simp)
  refine wpAny_pyNext_tuple_item st (show s.heap.IsTuple a its.toArray from p) (x:=u) (by simpa using hu) fun h' st' sb=>?_
  have I1:Inv X pins σ H { s with heap:=h' }:=I.turned (t':=s.toks) (fun b o hb e=>(sb.2 b hb).trans e) f0 f1 f3 f4 f5
  obtain ⟨o,e,c,d⟩:=id st'
  exact ⟨u,rfl,rS (s:={ s with heap:=h' }) e c d (by decide) ⟨x,H,I1,ru,⟨rfl,fun ys hy=>by rw [I.tuple_inj hy hq]; exact hx⟩,st',fun b hb=>(hf b hb).1⟩⟩
 done:=by
  intro X hP hw hK hc i pins s σ H E I hf st hg
  subst hP hw hK
  obtain ⟨xs,hq,hx⟩:=hg
  obtain ⟨its,rv,p,hz⟩:=I.tuple hq
  obtain ⟨f0,f1,f2,f3,f4,f5⟩:=hf it (by simp)
  have hl:=rv.length
  exact wpAny_pyNext_tuple_end (I.ok.hd hc) st (show s.heap.IsTuple a its.toArray from p) (by simp; omega) fun h' eb=>⟨rfl,I.turned (t':=s.toks) (fun b o hb e=>eb b o hb e) f0 f1 f3 f4 f5⟩
 self:=fun _ _ _ _ _ st h=>wpAny_pyIter_tupleiter st h
theorem vk {P:Program} {w:World} {K:PySem.W.Frag} {tg:Expr} (it:Addr) (lo:Int) (n:Nat):Turn P w K tg (Itr lo n) [it] it (fun i h=>IsRangeIter h it (lo+(i:Nat)*1) ((n:Int) - (i:Nat)) 1) where
 mem:=by simp
 obj:=fun i h st b hb=>by
  have e:b=it:=by simpa using hb
  subst e
  exact ⟨_,st,fun v z=>by
   have z':Data.fields _=Data.cell v:=z
   cases z'⟩
 keep:=fun i h h' st k=>k it (by simp) _ st
 item:=by
  intro X hP hw hK hc i pins s σ H E I hf st hg
  subst hP hw hK
  obtain ⟨f0,f1,f2,f3,f4,f5⟩:=hf it (by simp)
  have W:=Walks.range (prog:=X.prog) (w:=X.w) (I.ok.hd hc) it lo 1 n
  refine W.item i s _ _ hg st fun v h' tk hv st' kk=>?_
  obtain ⟨t,rfl⟩:=hv
  have I1:Inv X pins σ H { s with heap:=h',toks:=tk }:=I.turned (fun b o hb e=>kk b o (by simpa using hb) e) f0 f1 f3 f4 f5
  refine ⟨_,rfl,rS (s:={ s with heap:=h',toks:=tk }) (n:="range_iterator") st' rfl rfl (by decide) ⟨.int (lo+i),H,I1,⟨t,?_⟩,⟨rfl,rfl⟩,st',fun b hb=>(hf b hb).1⟩⟩
  rw [Int.mul_one]
 done:=by
  intro X hP hw hK hc i pins s σ H E I hf st hg
  subst hP hw hK
  obtain ⟨f0,f1,f2,f3,f4,f5⟩:=hf it (by simp)
  exact wpAny_pyNext_range_end (I.ok.hd hc) st (by have:n≤i:=hg; omega) fun h' eb=>⟨rfl,I.turned (t':=s.toks) (fun b o hb e=>eb b o hb e) f0 f1 f3 f4 f5⟩
 self:=fun _ _ _ _ _ st h=>wpAny_pyIter_rangeiter st h
end L2
namespace L2
open PySem PySem.Spec PyProof.Rows
section
variable {X:Cx} {tg:Expr}
def iList (K:PySem.W.Frag) (tl:TE):TI:=fun σ H R=>tl σ H fun x H1=>∃ a,x=.ref a∧(∃ xs,SqL K H1 a xs)∧R (Itl K a) H1
def iTup (K:PySem.W.Frag) (tl:TE):TI:=fun σ H R=>tl σ H fun x H1=>∃ a,x=.ref a∧(∃ xs,SqT K H1 a xs)∧R (Itt K a) H1
theorem bC {l:Expr} {tl:TE} (hl:PE X l tl):PI X tg l (iList X.K tl):=by
 intro pins s σ H R I h
 refine thn (hl pins s σ H _ I h) fun v s1 ⟨x,H1,I1,r1,q1⟩=>?_
 obtain ⟨a,e,⟨xs,hq⟩,q⟩:=q1
 subst e
 cases r1
 obtain ⟨its,rv,p,hz⟩:=I1.list hq
 refine wpAny_pyIter_list p.isList ?_
 refine ⟨s1.heap.objs.size,[s1.heap.objs.size],_,_,H1,rfl,I1.kept (t':=s1.toks) fun b o e=>Heap.get?_push_of_some _ e,wK a _,⟨_,Heap.get?_push_size _ rfl,rfl,rfl⟩,fun b hb=>?_,q⟩
 have e:b=s1.heap.objs.size:=by simpa using hb
 subst e
 exact I1.fpOk (Nat.le_refl _) (I1.hok.fresh (Nat.le_refl _))
theorem zP {l:Expr} {tl:TE} (hl:PE X l tl):PI X tg l (iTup X.K tl):=by
 intro pins s σ H R I h
 refine thn (hl pins s σ H _ I h) fun v s1 ⟨x,H1,I1,r1,q1⟩=>?_
 obtain ⟨a,e,⟨xs,hq⟩,q⟩:=q1
 subst e
 cases r1
 obtain ⟨its,rv,p,hz⟩:=I1.tuple hq
 refine wpAny_pyIter_tuple (show s1.heap.IsTuple a its.toArray from p) ?_
 refine ⟨s1.heap.objs.size,[s1.heap.objs.size],_,_,H1,rfl,I1.kept (t':=s1.toks) fun b o e=>Heap.get?_push_of_some _ e,vj a _,⟨_,Heap.get?_push_size _ rfl,rfl,rfl⟩,fun b hb=>?_,q⟩
 have e:b=s1.heap.objs.size:=by simpa using hb
 subst e
 exact I1.fpOk (Nat.le_refl _) (I1.hok.fresh (Nat.le_refl _))
theorem rZ {pins:List (Addr × Obj)} {σ:St} {H:Hp} {s:Shared} {R:It→Hp→Prop} {E:Value→Shared→Prop} {lo hi:Int} {t u v:Tok} {tk:Nat} (I:Inv X pins σ H s) (h1: -(2^62)≤lo) (h2:lo < 2^62) (h3: -(2^62)≤hi) (h4:hi < 2^62)
  (q:R (Itr lo (hi - lo).toNat) H):wpAny (model X.prog X.w) X.A (pyIter (.ref s.heap.objs.size)) (PIE X pins σ tg R) E { s with heap:=s.heap.push { cls:=.type "range",data:=.fields #[.int lo t,.int hi u,.int 1 v] },toks:=tk }:=by
 refine wpAny_pyIter_range (IsRange.new ..) (small_one h1 h2 h3 h4) ?_
 have I1:Inv X pins σ H { s with heap:=s.heap.push { cls:=.type "range",data:=.fields #[.int lo t,.int hi u,.int 1 v] },toks:=tk }:=I.kept fun b o e=>Heap.get?_push_of_some _ e
 refine ⟨(s.heap.push { cls:=.type "range",data:=.fields #[.int lo t,.int hi u,.int 1 v] }).objs.size,[(s.heap.push { cls:=.type "range",data:=.fields #[.int lo t,.int hi u,.int 1 v] }).objs.size],_,_,H,rfl,
  I1.kept (t':=tk) fun b o e=>Heap.get?_push_of_some _ e,vk _ lo (hi - lo).toNat,?_,fun b hb=>?_,q⟩
 · have e1:lo+((0:Nat):Int)*1=lo:=by simp
   have e2:(((hi - lo).toNat:Nat):Int) - ((0:Nat):Int)=Builtin.Range.rangeSize lo hi 1:=by rw [rangeSize_one]; split <;> omega
   show IsRangeIter _ _ (lo+((0:Nat):Int)*1) ((((hi - lo).toNat:Nat):Int) - ((0:Nat):Int)) 1
   rw [e1,e2]
   exact Heap.get?_push_size _ rfl
 · have e:b=(s.heap.push { cls:=.type "range",data:=.fields #[.int lo t,.int hi u,.int 1 v] }).objs.size:=by simpa using hb
   subst e
   exact I1.fpOk (Nat.le_refl _) (I1.hok.fresh (Nat.le_refl _))
def eD (ta:TA):TI:=fun σ H R=>ta σ H fun vs H1=>∃ j:Int,vs=[.int j]∧ -(2^62)≤j∧j < 2^62∧R (Itr 0 j.toNat) H1
def oK (ta:TA):TI:=fun σ H R=>ta σ H fun vs H1=>∃ i j:Int,vs=[.int i,.int j]∧(-(2^62)≤i∧i < 2^62∧ -(2^62)≤j∧j < 2^62)∧R (Itr i (j - i).toNat) H1
theorem cw {a:Expr} {ta:TA} {p pos:Pos} (hg:Gl X "range") (hm:X.mg "range"=none) (ha:PA X [a] ta) (hs:starEach [a] X.env=[(false,eval a X.env)]:=by rfl):PI X tg (.Call (.Name "range" p) [a] [] pos) (eD ta):=by
 intro pins s σ H R I h
 refine Call_ (im I hg hm boot_range (PyProof.Rows.callWith_type1 (thn (ha pos pins s σ H _ I h) fun us s1 ⟨vs,H1,I1,r1,q1⟩=>?_) hs rfl))
 obtain ⟨j,e,q1,q2,q⟩:=q1
 subst e
 cases r1 with
 | cons r rr=>
  cases rr
  obtain ⟨t,rfl⟩:=r
  exact call_range_1 (rZ I1 (by omega) (by omega) q1 q2 (by simpa using q))
theorem wL {a b:Expr} {ta:TA} {p pos:Pos} (hg:Gl X "range") (hm:X.mg "range"=none) (ha:PA X [a,b] ta) (hs:starEach [a,b] X.env=[(false,eval a X.env),(false,eval b X.env)]:=by rfl) (hs2:starEach [b] X.env=[(false,eval b X.env)]:=by rfl):
  PI X tg (.Call (.Name "range" p) [a,b] [] pos) (oK ta):=by
 intro pins s σ H R I h
 refine Call_ (im I hg hm boot_range (PyProof.Rows.callWith_type1 (thn (ha pos pins s σ H _ I h) fun us s1 ⟨vs,H1,I1,r1,q1⟩=>?_) (by rw [hs,hs2]) (by rw [hs2]; rfl)))
 obtain ⟨i,j,e,⟨q1,q2,q3,q4⟩,q⟩:=q1
 subst e
 cases r1 with
 | cons r rr=>
  cases rr with
  | cons r' rr=>
   cases rr
   obtain ⟨t,rfl⟩:=r
   obtain ⟨t',rfl⟩:=r'
   exact call_range_2 (rZ I1 q1 q2 q3 q4 q)
def tFor (wi:TI) (g:TG) (tb:TS):TS:=fun D σ H=>wi σ H fun J H1=>∃ W:Nat→Nat→St→Hp→Prop,(∃ m,W 0 m σ H1)∧∀ i m σ H,W i m σ H→
 (J.stop i H∧D.nx σ H)∨(J.go i H∧∃ N:St→Hp→Prop,(∀ σ' H',N σ' H'→∃ m',m' < m∧W (i+1) m' σ' H')∧∀ x H',J.yld i H x H'→g x σ H' fun σ2 H2=>tb { D with nx:=N,ct:=N,bk:=D.nx } σ2 H2)
def lS (fp:List Addr) (h:Heap):List (Addr × Obj):=fp.filterMap fun b=>(h.get? b).map fun o=>(b,o)
theorem jB {fp:List Addr} {h:Heap} {b:Addr} {o:Obj} (hb:b∈fp) (e:h.get? b=some o):(b,o)∈lS fp h:=List.mem_filterMap.mpr ⟨b,hb,by rw [e]; rfl⟩
theorem wM {fp:List Addr} {h:Heap} {p:Addr × Obj} (hp:p∈lS fp h):p.1∈fp∧h.get? p.1=some p.2:=by
 obtain ⟨b,hb,e⟩:=List.mem_filterMap.mp hp
 cases q:h.get? b with
 | none=>rw [q] at e; cases e
 | some o=>
  rw [q] at e
  have e':(b,o)=p:=Option.some.inj e
  subst e'
  exact ⟨hb,q⟩
theorem Inv.pinned {pins:List (Addr × Obj)} {σ:St} {H:Hp} {s:Shared} {fp:List Addr} (I:Inv X pins σ H s) (hf:∀ b∈fp,FpOk X pins H b) (ho:∀ b∈fp,∃ o,s.heap.get? b=some o∧∀ v,o.data≠.cell v):Inv X (pins++lS fp s.heap) σ H s:=
 I.pins_of fun p hp=>(List.mem_append.mp hp).elim (fun z=>I.pin p (List.mem_append_right _ z)) fun z=>by
  obtain ⟨hb,e⟩:=wM z
  obtain ⟨f0,f1,f2,_⟩:=hf p.1 hb
  obtain ⟨o,e',d⟩:=ho p.1 hb
  rw [e] at e'; cases e'
  exact ⟨e,f0,f1,f2,d⟩
theorem Inv.unpinned {pins pl:List (Addr × Obj)} {σ:St} {H:Hp} {s:Shared} (I:Inv X (pins++pl) σ H s):Inv X pins σ H s:=I.pins_of fun p hp=>I.pin p (List.mem_append_right _ (List.mem_append_left _ hp))
theorem eP {iter:Expr} {body:List Stmt} {wi:TI} {g:TG} {tb:TS} {pos:Pos} (hp:PassesOwn (model X.prog X.w) X.A X.env X.xe) (hc:X.calm=true) (hi:PI X tg iter wi) (hg:PG X tg g) (hb:PSs X body tb)
  (hs:∀ x,foldedSetIterable iter X.env x=pure x:=by intro _; rfl):PS X (.For tg iter body [] pos) (tFor wi g tb):=by
 intro pins s σ H D I h
 refine wpAny_For (thn (hi pins s σ H _ I h) fun v s1 h1=>thn h1 fun itv s2 h2=>?_) hs
 obtain ⟨it,fp,tn,J,H2,e,I2,T,st2,f2,W,⟨m0,w0⟩,turn⟩:=h2
 subst e
 have stat:∀ {H':Hp},(∀ b∈fp,H' b=none)→∀ b∈fp,FpOk X pins H' b:=fun hn b hb=>⟨hn b hb,(f2 b hb).2⟩
 refine codeAny_forLoop_any (fun n s'=>∃ i σ' H',Inv X pins σ' H' s'∧tn i s'.heap∧(∀ b∈fp,H' b=none)∧W i n σ' H') ?_ m0 ⟨0,σ,H2,I2,st2,fun b hb=>(f2 b hb).1,w0⟩
 rintro n s3 ⟨i,σ3,H3,I3,st3,fr3,w3⟩
 rcases turn i n σ3 H3 w3 with ⟨stop,qn⟩ | ⟨go,N,hN,step⟩
 · refine wpAny_passesOwn hp (thn (T.done X rfl rfl rfl hc i pins s3 σ3 H3 X.xe I3 (stat fr3) st3 stop) fun r s4 ⟨hr,I4⟩=>?_)
   subst hr
   exact wpAny_execs_nil ⟨σ3,H3,I4,qn⟩
 · refine wpAny_passesOwn hp (thn (T.item X rfl rfl rfl hc i pins s3 σ3 H3 X.xe I3 (stat fr3) st3 go) fun r s4 ⟨u,hr,h4⟩=>?_)
   subst hr
   refine wpAny_passesOwn hp (thn h4 fun _ s5 ⟨x,H5,I5,r5,y5,st5,fr5⟩=>?_)
   have I5':=I5.pinned (stat fr5) (T.obj _ _ st5)
   refine wpAny_passesOwn hp (thn (hg _ s5 σ3 H5 x u _ I5' r5 (step x H5 y5)) fun _ s6 ⟨σ6,H6,I6,q6⟩=>?_)
   refine wpAny_passesOwn hp (thn (hb _ s6 σ6 H6 _ I6 q6) fun f s7 q7=>?_)
   have again:∀ {σ7:St} {H7:Hp},Inv X (pins++lS fp s5.heap) σ7 H7 s7→N σ7 H7→∃ m,m < n∧∃ i σ' H',Inv X pins σ' H' s7∧tn i s7.heap∧(∀ b∈fp,H' b=none)∧W i m σ' H':=fun {σ7 H7} I7 n7=>by
    obtain ⟨m',hm,w7⟩:=hN σ7 H7 n7
    refine ⟨m',hm,i+1,σ7,H7,I7.unpinned,T.keep _ _ _ st5 fun b hb o e=>(I7.pin (b,o) (List.mem_append_right _ (List.mem_append_right _ (jB hb e)))).1,fun b hb=>?_,w7⟩
    obtain ⟨o,e,d⟩:=T.obj _ _ st5 b hb
    exact (I7.pin (b,o) (List.mem_append_right _ (List.mem_append_right _ (jB hb e)))).2.1
   cases f with
   | next=>obtain ⟨σ7,H7,I7,n7⟩:=q7; exact again I7 n7
   | cont=>obtain ⟨σ7,H7,I7,n7⟩:=q7; exact again I7 n7
   | brk=>obtain ⟨σ7,H7,I7,q7⟩:=q7; exact ⟨σ7,H7,I7.unpinned,q7⟩
   | ret v=>obtain ⟨x7,σ7,H7,I7,r7,q7⟩:=q7; exact ⟨x7,σ7,H7,I7.unpinned,r7,q7⟩
end
theorem li {K:PySem.W.Frag} {a:Addr} {xs:List V} {g:TG} {tb:TS} {D:Ends} {σ:St} {H:Hp} (Pv:Nat→St→Hp→Prop) (h0:Pv 0 σ H) (hl:∀ i σ H,i≤xs.length→Pv i σ H→SqL K H a xs)
  (hs:∀ i x σ H,xs[i]? =some x→Pv i σ H→g x σ H fun σ2 H2=>tb { D with nx:=Pv (i+1),ct:=Pv (i+1),bk:=D.nx } σ2 H2) (hd:∀ σ H,Pv xs.length σ H→D.nx σ H):
  ∃ W:Nat→Nat→St→Hp→Prop,(∃ m,W 0 m σ H)∧∀ i m σ H,W i m σ H→
   ((Itl K a).stop i H∧D.nx σ H)∨((Itl K a).go i H∧∃ N:St→Hp→Prop,(∀ σ' H',N σ' H'→∃ m',m' < m∧W (i+1) m' σ' H')∧∀ x H',(Itl K a).yld i H x H'→g x σ H' fun σ2 H2=>tb { D with nx:=N,ct:=N,bk:=D.nx } σ2 H2):=by
 refine ⟨fun i m σ H=>m=xs.length - i∧i≤xs.length∧Pv i σ H,⟨xs.length,by simp,Nat.zero_le _,h0⟩,?_⟩
 rintro i m σ H ⟨rfl,hi,p⟩
 have q:=hl i σ H hi p
 by_cases hlt:i < xs.length
 · refine .inr ⟨⟨xs,xs[i],q,by simp [hlt]⟩,Pv (i+1),fun σ' H' p'=>⟨xs.length - (i+1),by omega,rfl,hlt,p'⟩,fun x H' y=>?_⟩
   obtain ⟨e,y⟩:=y
   subst e
   exact hs i x σ _ (y xs q) p
 · have e:i=xs.length:=by omega
   subst e
   exact .inl ⟨⟨xs,q,Nat.le_refl _⟩,hd σ H p⟩
theorem y4 {K:PySem.W.Frag} {a:Addr} {xs:List V} {g:TG} {tb:TS} {D:Ends} {σ:St} {H:Hp} (Pv:Nat→St→Hp→Prop) (h0:Pv 0 σ H) (hl:∀ i σ H,i≤xs.length→Pv i σ H→SqT K H a xs)
  (hs:∀ i x σ H,xs[i]? =some x→Pv i σ H→g x σ H fun σ2 H2=>tb { D with nx:=Pv (i+1),ct:=Pv (i+1),bk:=D.nx } σ2 H2) (hd:∀ σ H,Pv xs.length σ H→D.nx σ H):
  ∃ W:Nat→Nat→St→Hp→Prop,(∃ m,W 0 m σ H)∧∀ i m σ H,W i m σ H→
   ((Itt K a).stop i H∧D.nx σ H)∨((Itt K a).go i H∧∃ N:St→Hp→Prop,(∀ σ' H',N σ' H'→∃ m',m' < m∧W (i+1) m' σ' H')∧∀ x H',(Itt K a).yld i H x H'→g x σ H' fun σ2 H2=>tb { D with nx:=N,ct:=N,bk:=D.nx } σ2 H2):=by
 refine ⟨fun i m σ H=>m=xs.length - i∧i≤xs.length∧Pv i σ H,⟨xs.length,by simp,Nat.zero_le _,h0⟩,?_⟩
 rintro i m σ H ⟨rfl,hi,p⟩
 have q:=hl i σ H hi p
 by_cases hlt:i < xs.length
 · refine .inr ⟨⟨xs,xs[i],q,by simp [hlt]⟩,Pv (i+1),fun σ' H' p'=>⟨xs.length - (i+1),by omega,rfl,hlt,p'⟩,fun x H' y=>?_⟩
   obtain ⟨e,y⟩:=y
   subst e
   exact hs i x σ _ (y xs q) p
 · have e:i=xs.length:=by omega
   subst e
   exact .inl ⟨⟨xs,q,Nat.le_refl _⟩,hd σ H p⟩
theorem fg {lo:Int} {n:Nat} {g:TG} {tb:TS} {D:Ends} {σ:St} {H:Hp} (Pv:Nat→St→Hp→Prop) (h0:Pv 0 σ H)
  (hs:∀ i σ H,i < n→Pv i σ H→g (.int (lo+i)) σ H fun σ2 H2=>tb { D with nx:=Pv (i+1),ct:=Pv (i+1),bk:=D.nx } σ2 H2) (hd:∀ σ H,Pv n σ H→D.nx σ H):
  ∃ W:Nat→Nat→St→Hp→Prop,(∃ m,W 0 m σ H)∧∀ i m σ H,W i m σ H→
   ((Itr lo n).stop i H∧D.nx σ H)∨((Itr lo n).go i H∧∃ N:St→Hp→Prop,(∀ σ' H',N σ' H'→∃ m',m' < m∧W (i+1) m' σ' H')∧∀ x H',(Itr lo n).yld i H x H'→g x σ H' fun σ2 H2=>tb { D with nx:=N,ct:=N,bk:=D.nx } σ2 H2):=by
 refine ⟨fun i m σ H=>m=n - i∧i≤n∧Pv i σ H,⟨n,by simp,Nat.zero_le _,h0⟩,?_⟩
 rintro i m σ H ⟨rfl,hi,p⟩
 by_cases hlt:i < n
 · refine .inr ⟨hlt,Pv (i+1),fun σ' H' p'=>⟨n - (i+1),by omega,rfl,hlt,p'⟩,fun x H' y=>?_⟩
   obtain ⟨e,y⟩:=y
   subst e y
   exact hs i σ _ hlt p
 · have e:i=n:=by omega
   subst e
   exact .inl ⟨Nat.le_refl _,hd σ H p⟩
end L2
namespace L2
open PySem PySem.Spec PyProof.Rows
abbrev R2:=V→V→Hp→VK→Prop
def OpR (X:Cx) (f:Value→Value→Sem Value) (r:R2):Prop:=
 ∀ (pins:List (Addr × Obj)) (s:Shared) (σ:St) (H:Hp) (x y:V) (v u:Value) (Q:VK),Inv X pins σ H s→RelV x v→RelV y u→r x y H Q→
  wpAny (model X.prog X.w) X.A (f v u) (EP X pins σ Q) X.xe s
def CallR (X:Cx) (f:Value) (r:List V→Hp→VK→Prop):Prop:=
 ∀ (pins:List (Addr × Obj)) (s:Shared) (σ:St) (H:Hp) (xs:List V) (us:List Value) (Q:VK),Inv X pins σ H s→Vals xs us→r xs H Q→
  wpAny (model X.prog X.w) X.A (call f us) (EP X pins σ Q) X.xe s
def tOp (r:R2) (ta tb:TE):TE:=fun σ H Q=>ta σ H fun x H1=>tb σ H1 fun y H2=>r x y H2 Q
def tUn (r:V→Hp→VK→Prop) (ta:TE):TE:=fun σ H Q=>ta σ H fun x H1=>r x H1 Q
def rI (C:Int→Int→Prop) (g:Int→Int→V):R2:=fun x y H Q=>∃ i j,x=.int i∧y=.int j∧C i j∧Q (g i j) H
def rI0 (g:Int→Int→V):R2:=fun x y H Q=>∃ i j,x=.int i∧y=.int j∧Q (g i j) H
def rU (g:Int→V):V→Hp→VK→Prop:=fun x H Q=>∃ i,x=.int i∧Q (g i) H
section
variable {X:Cx} {a b c:Expr} {ta tb tc:TE} {pos:Pos}
theorem binT (ha:PE X a ta) (hb:PE X b tb) {pins:List (Addr × Obj)} {s:Shared} {σ:St} {H:Hp} {R:V→V→Hp→Prop} (I:Inv X pins σ H s)
  (h:ta σ H fun x H1=>tb σ H1 fun y H2=>R x y H2) {Q:Value→Shared→Prop} {f:Value→Value→Sem Value}
  (hf:∀ v u s2 x y H2,Inv X pins σ H2 s2→RelV x v→RelV y u→R x y H2→wpAny (model X.prog X.w) X.A (f v u) Q X.xe s2):
  wpAny (model X.prog X.w) X.A (eval a X.env) (fun v s₁=>wpAny (model X.prog X.w) X.A (eval b X.env) (fun u s₂=>wpAny (model X.prog X.w) X.A (f v u) Q X.xe s₂) X.xe s₁) X.xe s:=by
 refine thn (ha pins s σ H _ I h) fun v s1 ⟨x,H1,I1,r1,q1⟩=>?_
 refine thn (hb pins s1 σ H1 _ I1 q1) fun u s2 ⟨y,H2,I2,r2,q2⟩=>?_
 exact hf v u s2 x y H2 I2 r1 r2 q2
theorem ai {op:Operator} {r:R2} (ho:OpR X (binaryOp op) r) (ha:PE X a ta) (hb:PE X b tb):PE X (.BinOp a op b pos) (tOp r ta tb):=by
 intro pins s σ H Q I h
 exact wpAny_BinOp (binT ha hb I h fun v u s2 x y H2 I2 rx ry q=>ho pins s2 σ H2 x y v u Q I2 rx ry q)
theorem opI {f:Value→Value→Sem Value} {C:Int→Int→Prop} {g:Int→Int→Int}
  (rule:∀ (i j:Int) (t u:Tok) (s:Shared) (Q:Value→Shared→Prop) (E:Value→Shared→Prop),C i j→Q (.int (g i j) s.toks) { s with toks:=s.toks+1 }→wpAny (model X.prog X.w) X.A (f (.int i t) (.int j u)) Q E s):
  OpR X f (rI C fun i j=>.int (g i j)):=by
 intro pins s σ H x y v u Q I rx ry h
 obtain ⟨i,j,rfl,rfl,hc,q⟩:=h
 obtain ⟨t,rfl⟩:=rx
 obtain ⟨t',rfl⟩:=ry
 exact rule i j t t' s _ _ hc ⟨.int (g i j),H,I.tok _,⟨_,rfl⟩,q⟩
theorem vm {f:Value→Value→Sem Value} {g:Int→Int→Int}
  (rule:∀ (i j:Int) (t u:Tok) (s:Shared) (Q:Value→Shared→Prop) (E:Value→Shared→Prop),Q (.int (g i j) s.toks) { s with toks:=s.toks+1 }→wpAny (model X.prog X.w) X.A (f (.int i t) (.int j u)) Q E s):
  OpR X f (rI0 fun i j=>.int (g i j)):=by
 intro pins s σ H x y v u Q I rx ry h
 obtain ⟨i,j,rfl,rfl,q⟩:=h
 obtain ⟨t,rfl⟩:=rx
 obtain ⟨t',rfl⟩:=ry
 exact rule i j t t' s _ _ ⟨.int (g i j),H,I.tok _,⟨_,rfl⟩,q⟩
theorem vn {f:Value→Value→Sem Value} {g:Int→Int→Bool}
  (rule:∀ (i j:Int) (t u:Tok) (s:Shared) (Q:Value→Shared→Prop) (E:Value→Shared→Prop),Q (.bool (g i j)) s→wpAny (model X.prog X.w) X.A (f (.int i t) (.int j u)) Q E s):
  OpR X f (rI0 fun i j=>.bl (g i j)):=by
 intro pins s σ H x y v u Q I rx ry h
 obtain ⟨i,j,rfl,rfl,q⟩:=h
 obtain ⟨t,rfl⟩:=rx
 obtain ⟨t',rfl⟩:=ry
 exact rule i j t t' s _ _ ⟨.bl (g i j),H,I,rfl,q⟩
def CDiv (i j:Int):Prop:=0 < j∧j < 1073741824
def CPow (i j:Int):Prop:=0≤j∧j≤1000000∧i.natAbs < 2^64
def CMul (i j:Int):Prop:=(-(2^64) < i∧i < 2^64)∨(-(2^64) < j∧j < 2^64)
theorem CMul.ok {i j:Int} (h:CMul i j):IntMulOk i j:=by
 rcases h with ⟨h1,h2⟩ | ⟨h1,h2⟩
 · exact .of_left (intBits_le_64 h1 h2)
 · exact .of_right (intBits_le_64 h1 h2)
theorem vo (k:Nat):(0:Int)≤2^k:=by
 rw [two_pow_cast]
 exact Int.natCast_nonneg _
theorem zQ:OpR X (binaryOp .Add) (rI0 fun i j=>.int (i+j)):=vm fun _ _ _ _ _ _ _ q=>add_int q
theorem zR:OpR X (binaryOp .Sub) (rI0 fun i j=>.int (i - j)):=vm fun _ _ _ _ _ _ _ q=>sub_int q
theorem zS:OpR X (binaryOp .Mult) (rI CMul fun i j=>.int (i*j)):=opI fun _ _ _ _ _ _ _ hc q=>mul_int q hc.ok
theorem y7:OpR X (binaryOp .FloorDiv) (rI CDiv fun i j=>.int (i / j)):=opI fun i j _ _ _ _ _ hc q=>by
 have h1:(0:Int) < j:=hc.1
 have h2:j < 1073741824:=hc.2
 exact floordiv_int (by omega) (by rw [Int.fdiv_eq_ediv_of_nonneg i (by omega)]; exact q) (.inl (PyProof.noPylong_small (by omega)))
theorem zT:OpR X (binaryOp .Mod) (rI (fun _ j=>0 < j) fun i j=>.int (i % j)):=opI fun i j _ _ _ _ _ hc q=>by
 have h1:(0:Int) < j:=hc
 exact mod_int' (by omega) (by rw [Int.fmod_eq_emod_of_nonneg i (by omega)]; exact q)
theorem zU:OpR X (binaryOp .LShift) (rI CPow fun i j=>.int (i*2^j.toNat)):=opI fun _ _ _ _ _ _ _ hc q=>lshift_int_small hc.1 hc.2.1 hc.2.2 q
theorem zV:OpR X (binaryOp .RShift) (rI (fun _ j=>0≤j) fun i j=>.int (i / 2^j.toNat)):=opI fun i j _ _ _ _ _ hc q=>
 rshift_int hc (by rw [Int.fdiv_eq_ediv_of_nonneg i (vo _)]; exact q)
theorem zW:OpR X (binaryOp .BitAnd) (rI0 fun i j=>.int (Builtin.bitAnd i j)):=vm fun _ _ _ _ _ _ _ q=>and_int q
theorem AE:OpR X (binaryOp .BitOr) (rI0 fun i j=>.int (Builtin.bitOr i j)):=vm fun _ _ _ _ _ _ _ q=>or_int q
end
def scal:V→V→Bool
 | .non,.non=>true | .non,.int _=>true | .int _,.non=>true | .non,.bl _=>true | .bl _,.non=>true | .non,.str _=>true | .str _,.non=>true
 | .int _,.int _=>true | .bl _,.bl _=>true | .str _,.str _=>true | .byt _,.byt _=>true
 | .int _,.str _=>true | .str _,.int _=>true | .bl _,.str _=>true | .str _,.bl _=>true
 | _,_=>false
def rEq:R2:=fun x y H Q=>scal x y=true∧Q (.bl (decide (x=y))) H
def rNe:R2:=fun x y H Q=>scal x y=true∧Q (.bl (!decide (x=y))) H
theorem uX {i j:Int}:decide (V.int i=V.int j)=(i==j):=by
 rw [Bool.eq_iff_iff]
 simp
theorem wN {i j:Bool}:decide (V.bl i=V.bl j)=(i==j):=by
 rw [Bool.eq_iff_iff]
 simp
theorem uY {i j:Str}:decide (V.str i=V.str j)=(i==j):=by
 rw [Bool.eq_iff_iff]
 simp
theorem uZ {i j:Array UInt8}:decide (V.byt i=V.byt j)=(i.toList==j.toList):=by
 rw [Bool.eq_iff_iff]
 cases i
 cases j
 simp
section
variable {X:Cx} {a b c:Expr} {ta tb tc:TE} {pos:Pos}
theorem aW {pins:List (Addr × Obj)} {σ:St} {H:Hp} {s:Shared} {Q:VK} {k k':Bool} (I:Inv X pins σ H s) (q:Q (.bl k) H) (e:k=k'):EP X pins σ Q (.bool k') s:=by
 subst e
 exact ⟨.bl k,H,I,rfl,q⟩
theorem vp:OpR X (compareOp .Eq) rEq:=by
 intro pins s σ H x y v u Q I rx ry h
 obtain ⟨hs,q⟩:=h
 cases x with
 | non=>
  cases rx
  cases y with
  | non=>cases ry; exact PySem.EqNone.eq_none_none (aW I q (by simp))
  | bl j=>cases ry; exact PySem.EqNone.eq_none_bool (aW I q (by simp))
  | int j=>obtain ⟨t',rfl⟩:=ry; exact PySem.EqNone.eq_none_int (aW I q (by simp))
  | str j=>obtain ⟨t',rfl⟩:=ry; exact PySem.EqNone.eq_none_str (aW I q (by simp))
  | _=>exact absurd (show false=true from hs) Bool.false_ne_true
 | bl i=>
  cases rx
  cases y with
  | non=>cases ry; exact PySem.EqNone.eq_bool_none (aW I q (by simp))
  | bl j=>cases ry; exact eq_bool (aW I q wN)
  | str j=>obtain ⟨t',rfl⟩:=ry; exact PySem.EqMixed.eq_bool_str (aW I q (by simp))
  | _=>exact absurd (show false=true from hs) Bool.false_ne_true
 | int i=>
  obtain ⟨t,rfl⟩:=rx
  cases y with
  | non=>cases ry; exact PySem.EqNone.eq_int_none (aW I q (by simp))
  | int j=>obtain ⟨t',rfl⟩:=ry; exact eq_int (aW I q uX)
  | str j=>obtain ⟨t',rfl⟩:=ry; exact PySem.EqMixed.eq_int_str (aW I q (by simp))
  | _=>exact absurd (show false=true from hs) Bool.false_ne_true
 | str i=>
  obtain ⟨t,rfl⟩:=rx
  cases y with
  | non=>cases ry; exact PySem.EqNone.eq_str_none (aW I q (by simp))
  | bl j=>cases ry; exact PySem.EqMixed.eq_str_bool (aW I q (by simp))
  | int j=>obtain ⟨t',rfl⟩:=ry; exact PySem.EqMixed.eq_str_int (aW I q (by simp))
  | str j=>obtain ⟨t',rfl⟩:=ry; exact eq_str (aW I q uY)
  | _=>exact absurd (show false=true from hs) Bool.false_ne_true
 | byt i=>
  obtain ⟨t,rfl⟩:=rx
  cases y with
  | byt j=>obtain ⟨t',rfl⟩:=ry; exact PySem.W.eq_bytes (aW I q uZ)
  | _=>exact absurd (show false=true from hs) Bool.false_ne_true
 | _=>cases y <;> exact absurd (show false=true from hs) Bool.false_ne_true
theorem vq:OpR X (compareOp .NotEq) rNe:=by
 intro pins s σ H x y v u Q I rx ry h
 obtain ⟨hs,q⟩:=h
 cases x with
 | non=>
  cases rx
  cases y with
  | non=>cases ry; exact PySem.EqNone.ne_none_none (aW I q (by simp))
  | bl j=>cases ry; exact PySem.EqNone.ne_none_bool (aW I q (by simp))
  | int j=>obtain ⟨t',rfl⟩:=ry; exact PySem.EqNone.ne_none_int (aW I q (by simp))
  | str j=>obtain ⟨t',rfl⟩:=ry; exact PySem.EqNone.ne_none_str (aW I q (by simp))
  | _=>exact absurd (show false=true from hs) Bool.false_ne_true
 | bl i=>
  cases rx
  cases y with
  | non=>cases ry; exact PySem.EqNone.ne_bool_none (aW I q (by simp))
  | bl j=>cases ry; exact ne_bool (aW I q (congrArg not wN))
  | str j=>obtain ⟨t',rfl⟩:=ry; exact PySem.EqMixed.ne_bool_str (aW I q (by simp))
  | _=>exact absurd (show false=true from hs) Bool.false_ne_true
 | int i=>
  obtain ⟨t,rfl⟩:=rx
  cases y with
  | non=>cases ry; exact PySem.EqNone.ne_int_none (aW I q (by simp))
  | int j=>obtain ⟨t',rfl⟩:=ry; exact ne_int (aW I q (congrArg not uX))
  | str j=>obtain ⟨t',rfl⟩:=ry; exact PySem.EqMixed.ne_int_str (aW I q (by simp))
  | _=>exact absurd (show false=true from hs) Bool.false_ne_true
 | str i=>
  obtain ⟨t,rfl⟩:=rx
  cases y with
  | non=>cases ry; exact PySem.EqNone.ne_str_none (aW I q (by simp))
  | bl j=>cases ry; exact PySem.EqMixed.ne_str_bool (aW I q (by simp))
  | int j=>obtain ⟨t',rfl⟩:=ry; exact PySem.EqMixed.ne_str_int (aW I q (by simp))
  | str j=>obtain ⟨t',rfl⟩:=ry; exact ne_str (aW I q (congrArg not uY))
  | _=>exact absurd (show false=true from hs) Bool.false_ne_true
 | byt i=>
  obtain ⟨t,rfl⟩:=rx
  cases y with
  | byt j=>obtain ⟨t',rfl⟩:=ry; exact PySem.W.ne_bytes (aW I q (congrArg not uZ))
  | _=>exact absurd (show false=true from hs) Bool.false_ne_true
 | _=>cases y <;> exact absurd (show false=true from hs) Bool.false_ne_true
theorem AF:OpR X (compareOp .Lt) (rI0 fun i j=>.bl (decide (i < j))):=vn fun _ _ _ _ _ _ _ q=>lt_int q
theorem AG:OpR X (compareOp .LtE) (rI0 fun i j=>.bl (decide (i≤j))):=vn fun _ _ _ _ _ _ _ q=>le_int q
theorem AH:OpR X (compareOp .Gt) (rI0 fun i j=>.bl (decide (j < i))):=vn fun _ _ _ _ _ _ _ q=>gt_int q
theorem AI:OpR X (compareOp .GtE) (rI0 fun i j=>.bl (decide (j≤i))):=vn fun _ _ _ _ _ _ _ q=>ge_int q
theorem wO:OpR X (compareOp .In) (fun x y H Q=>∃ i j,x=.str i∧y=.str j∧Q (.bl (!(Builtin.Str.occurrences j i 0 j.length 1).isEmpty)) H):=by
 intro pins s σ H x y v u Q I rx ry h
 obtain ⟨i,j,rfl,rfl,q⟩:=h
 obtain ⟨t,rfl⟩:=rx
 obtain ⟨t',rfl⟩:=ry
 exact in_str (aW I q rfl)
theorem zX:OpR X (compareOp .Is) (fun x y H Q=>y=.non∧Q (.bl (decide (x=.non))) H):=by
 intro pins s σ H x y v u Q I rx ry h
 obtain ⟨rfl,q⟩:=h
 cases ry
 refine is_none_gen (aW I q ?_)
 cases x <;> first
  | (cases rx; rfl)
  | (obtain ⟨t,rfl⟩:=rx; rfl)
theorem ao (b:Expr) {op:CmpOp} (h:op≠.In:=by decide) (h2:op≠.NotIn:=by decide):behindInMarks op b=false:=by
 have e1:(op==CmpOp.In)=false:=by cases op <;> first | rfl | exact absurd rfl h
 have e2:(op==CmpOp.NotIn)=false:=by cases op <;> first | rfl | exact absurd rfl h2
 cases b <;> simp [behindInMarks,e1,e2]
theorem aM {op:CmpOp} {r:R2} (ho:OpR X (compareOp op) r) (ha:PE X a ta) (hb:PE X b tb) (hm:behindInMarks op b=false):PE X (.Compare a [op] [b] pos) (tOp r ta tb):=by
 intro pins s σ H Q I h
 exact wpAny_Compare1 (binT ha hb I h fun v u s2 x y H2 I2 rx ry q=>ho pins s2 σ H2 x y v u Q I2 rx ry q) hm
def tTest (t:TE):TT:=fun σ H Q=>t σ H fun x H'=>∃ k,x=.bl k∧Q k H'
theorem ap {op:CmpOp} {r:R2} (ho:OpR X (compareOp op) r) (ha:PE X a ta) (hb:PE X b tb) (hm:behindInMarks op b=false):PT X (.Compare a [op] [b] pos) (tTest (tOp r ta tb)):=by
 intro pins s σ H Q I h
 refine wpAny_isTrue_Compare1 (thn (ha pins s σ H _ I h) fun v s1 ⟨x,H1,I1,r1,q1⟩=>thn (hb pins s1 σ H1 _ I1 q1) fun u s2 ⟨y,H2,I2,r2,q2⟩=>
  thn (ho pins s2 σ H2 x y v u _ I2 r1 r2 q2) fun c s3 ⟨z,H3,I3,r3,k,e,q3⟩=>?_) hm
 subst e
 cases r3
 exact wpAny_truthy_bool ⟨H3,I3,q3⟩
def oM (r r':R2) (ta tb tc:TE):TE:=fun σ H Q=>ta σ H fun x H1=>tb σ H1 fun y H2=>r x y H2 fun z H3=>∃ k,z=.bl k∧
 (if k=true then tc σ H3 fun w' H4=>r' y w' H4 Q else Q (.bl false) H3)
theorem r8 {op op':CmpOp} {r r':R2} (ho:OpR X (compareOp op) r) (ho':OpR X (compareOp op') r') (ha:PE X a ta) (hb:PE X b tb) (hc:PE X c tc)
  (hm:lastMarks [op,op'] [b,c]=false:=by with_unfolding_all rfl):PT X (.Compare a [op,op'] [b,c] pos) (tTest (oM r r' ta tb tc)):=by
 intro pins s σ H Q I h
 refine isTrue_chain (thn (ha pins s σ H _ I h) fun v s1 ⟨x,H1,I1,r1,q1⟩=>test_link (thn (hb pins s1 σ H1 _ I1 q1) fun u s2 ⟨y,H2,I2,r2,q2⟩=>
  thn (ho pins s2 σ H2 x y v u _ I2 r1 r2 q2) fun d s3 ⟨z,H3,I3,r3,k,e,q3⟩=>?_)) hm
 subst e
 cases r3
 refine wpAny_truthy_bool ?_
 cases k with
 | false=>
  obtain ⟨k',e',q'⟩:=q3
  cases e'
  exact ite_ff ⟨H3,I3,q'⟩
 | true=>
  refine ite_tt (test_last (thn (hc pins s3 σ H3 _ I3 q3) fun w' s4 ⟨z',H4,I4,r4,q4⟩=>thn (ho' pins s4 σ H4 y z' u w' _ I4 r2 r4 q4) fun d' s5 ⟨z2,H5,I5,r5,k2,e2,q5⟩=>?_))
  subst e2
  cases r5
  exact wpAny_truthy_bool ⟨H5,I5,q5⟩
theorem lT:(sizeLine:Nat) < 2^63:=by rw [sizeLine_eq]; decide
theorem vt:OpR X (binaryOp .Add) (fun x y H Q=>∃ i j,x=.str i∧y=.str j∧i.length+j.length≤sizeLine∧Q (.str (i++j)) H):=by
 intro pins s σ H x y v u Q I rx ry h
 obtain ⟨i,j,rfl,rfl,hz,q⟩:=h
 obtain ⟨t,rfl⟩:=rx
 obtain ⟨t',rfl⟩:=ry
 exact add_str (fun t' tk=>⟨.str (i++j),H,I.tok _,⟨_,rfl⟩,q⟩) hz
theorem fX {x:V} {us:List Value} (r:Vals [x] us):∃ u,us=[u]∧RelV x u:=by
 cases r with
 | cons r1 r2=>cases r2; exact ⟨_,rfl,r1⟩
theorem vv {x y:V} {us:List Value} (r:Vals [x,y] us):∃ u w',us=[u,w']∧RelV x u∧RelV y w':=by
 cases r with
 | cons r1 r2=>
  cases r2 with
  | cons r3 r4=>cases r4; exact ⟨_,_,rfl,r1,r3⟩
theorem wP (hc:X.calm=true):CallR X (.builtin "min") (fun xs H Q=>∃ i j,xs=[.int i,.int j]∧Q (.int (if j < i then j else i)) H):=by
 intro pins s σ H xs us Q I r h
 obtain ⟨i,j,rfl,q⟩:=h
 obtain ⟨u,w',rfl,⟨t,rfl⟩,⟨t',rfl⟩⟩:=vv r
 refine min_two_ints (I.ok.hd hc) fun h' tk k=>⟨_,H,I.kept k,?_,q⟩
 by_cases hj:j < i
 · rw [if_pos hj,if_pos hj]; exact ⟨_,rfl⟩
 · rw [if_neg hj,if_neg hj]; exact ⟨_,rfl⟩
theorem qH:CallR X (.type "int") (fun xs H Q=>(∃ i,xs=[.int i]∧Q (.int i) H)∨∃ k,xs=[.bl k]∧Q (.int (if k then 1 else 0)) H):=by
 intro pins s σ H xs us Q I r h
 rcases h with ⟨i,rfl,q⟩ | ⟨k,rfl,q⟩
 · obtain ⟨u,rfl,t,rfl⟩:=fX r
   exact call_int_int ⟨.int i,H,I,⟨_,rfl⟩,q⟩
 · obtain ⟨u,rfl,r1⟩:=fX r
   cases r1
   exact call_int_bool ⟨.int (if k then 1 else 0),H,I.tok _,⟨_,rfl⟩,q⟩
theorem ui:CallR X (.builtin "divmod") (fun xs H Q=>∃ i j,xs=[.int i,.int j]∧CDiv i j∧∀ p,H p=none→Q (.ref p) (upd H p (.tup [.int (i / j),.int (i % j)]))):=by
 intro pins s σ H xs us Q I r h
 obtain ⟨i,j,rfl,⟨h1,h2⟩,q⟩:=h
 obtain ⟨u,w',rfl,⟨t,rfl⟩,⟨t',rfl⟩⟩:=vv r
 refine divmod_int (by omega) ?_ (.inl (PyProof.noPylong_small (by omega)))
 rw [Int.fdiv_eq_ediv_of_nonneg i (by omega),Int.fmod_eq_emod_of_nonneg i (by omega)]
 have hn:H s.heap.objs.size=none:=I.hok.fresh (Nat.le_refl _)
 refine ⟨.ref s.heap.objs.size,_,?_,rfl,q _ hn⟩
 refine I.laid (fun b o e=>Heap.get?_push_of_some _ e) (Nat.le_refl _) ⟨by simp only [List.length_cons,List.length_nil]; rw [sizeLine_eq]; decide,[.int (i / j) s.toks,.int (i % j) (s.toks+1)],.cons ⟨_,rfl⟩ (.cons ⟨_,rfl⟩ .nil),?_⟩
 exact ⟨_,Heap.get?_push_size s.heap rfl,rfl,0,rfl⟩
end
end L2
namespace L2
open PySem PySem.Spec PyProof.Rows
structure ObjM (h:Heap) (x dx C:Addr) (mA:Str→Option Value):Prop where
 obj:h.get? x=some (PySem.W.instObj C dx)
 ns:h.Ns1 dx mA
 ne:dx≠x
theorem wQ {h:Heap} {dx:Addr} {mA:Str→Option Value} (n:h.Ns1 dx mA):∃ od,h.get? dx=some od∧∀ name,PySem.W.lookIn name od=some (mA name):=by
 obtain ⟨o,es,ep,ho,hd,hk,_,hm⟩:=n
 refine ⟨o,ho,fun name=>?_⟩
 have e:=hm name
 unfold nsFind findBy at e
 rw [← Array.find?_toList] at e
 unfold PySem.W.lookIn
 rw [hd]
 dsimp only
 split
 · rename_i y q
   rw [q] at e
   exact congrArg some e
 · rename_i q
   rw [q] at e
   have a:es.toList.any (·.refKey)=false:=by
    rw [List.any_eq_false]
    intro y hy
    obtain ⟨z,t,hkey⟩:=hk y (Array.mem_toList_iff.mp hy)
    simp [DictEntry.refKey,hkey]
   have a':¬ es.toList.any (·.refKey)=true:=by rw [a]; exact Bool.false_ne_true
   rw [if_neg a']
   exact congrArg some e
theorem ObjM.look {h:Heap} {x dx C:Addr} {mA:Str→Option Value} (I:ObjM h x dx C mA):∃ od,PySem.W.InstAt h x (PySem.W.instObj C dx) C (some od)∧∀ name,PySem.W.lookIn name od=some (mA name):=
 let ⟨od,ho,hl⟩:=wQ I.ns
 ⟨od,⟨I.obj,rfl,rfl,ho⟩,hl⟩
section
variable {prog:Program} {w:World} {A:Around} {E:Value→Shared→Prop} {s:Shared} {K:PySem.W.Frag} {x dx C f:Addr} {mA:Str→Option Value} {name:Str} {v:Value}
theorem y8 {expr:Bool} {Q:Value→Shared→Prop} (X:K.In s.heap) (I:ObjM s.heap x dx C mA) (hg:PySem.W.plainGet K C name=true) (hh:PySem.W.hasDictIn K C=true)
  (ha:PySem.W.findIn K (.ref C) name=some none) (hv:mA name=some v) (hv':PySem.W.handedIn v=true) (h:Q v { s with toks:=s.toks+1 }):
  wpAny (model prog w) A (getAttr (.ref x) name expr) Q E s:=by
 obtain ⟨od,J,hl⟩:=I.look
 exact PySem.W.get_value X J (PySem.W.plainGet_of hg).1 (PySem.W.findObj_own hh ha rfl (by rw [hl,hv])) hv' h
theorem yl {pl:Sem Bool} {Q:Value × List Value→Shared→Prop} (X:K.In s.heap) (I:ObjM s.heap x dx C mA) (hg:PySem.W.plainGet K C name=true)
  (hf:PySem.W.findIn K (.ref C) name=some (some (.ref f))) (ht:PySem.W.isFn K (.ref f)=true) (hv:mA name=none) (h:Q (.ref f,[.ref x]) s):
  wpAny (model prog w) A (getMethod (.ref x) name pl) Q E s:=by
 obtain ⟨od,J,hl⟩:=I.look
 exact PySem.W.method_fn X J (PySem.W.plainGet_of hg).1 (PySem.W.plainGet_of hg).2 hf (beq_iff_eq.mp ht) (by show (PySem.W.lookIn name od).map (·.isSome)=some false; rw [hl,hv]; rfl) h
theorem y9 {ns:List Str} {Q:Unit→Shared→Prop} (X:K.In s.heap) (I:ObjM s.heap x dx C mA)
  (hs:PySem.W.findIn K (.ref C) "__setattr__"=some (some (.builtin "object.__setattr__"))) (hp:PySem.W.plainOver K C=true) (ht:PySem.W.takerIn K C name=some none) (hh:PySem.W.hasDictIn K C=true)
  (hw:PySem.Within mA ns) (hsz:ns.length≤sizeLine)
  (h:∀ h',ObjM h' x dx C (fun y=>if y=name then some v else mA y)→Heap.SameBut dx s.heap h'→Q () { s with heap:=h',toks:=s.toks+2 }):
  wpAny (model prog w) A (setAttr (.ref x) name v) Q E s:=by
 obtain ⟨od,J,hl⟩:=I.look
 refine PySem.W.set_plain X J hs (PySem.W.osa_open (s:={ s with toks:=s.toks+1 }) (r:=none) X J hp ht fun b=>?_)
 obtain ⟨cd,hc,hd'⟩:=PySem.W.any_some hh
 have hx:s.heap.get? x=some ⟨.ref C,some dx,.plain,#[]⟩:=I.obj
 refine wpAny_bind (wpAny_pure (wpAny_bind (wpAny_bind (wpAny_loadPart hx (wpAny_bind (PySem.W.Looks.here (s:={ s with toks:=s.toks+1 }) (PySem.W.looks_clsIn X hc) ?_))))))
 rw [hd']
 refine wpAny_pure (a:=some dx) (wpAny_bind (wpAny_pure (wpAny_bind ?_)))
 refine wpAny_nsSet1 (s:={ s with toks:=s.toks+1 }) I.ns fun h' hn2 hs2=>?_
 obtain ⟨oD,esD,epD,hoD,hdD,hcD⟩:=hn2.count (PySem.Within.cons name v hw)
 refine wpAny_bind (wpAny_lookBehind hoD (by rw [hdD]; exact pastItsLine_dict (Nat.le_trans hcD (by rw [List.length_cons]; omega))) ?_)
 exact wpAny_pure (h _ ⟨(hs2.2 _ (Ne.symm I.ne)).trans I.obj,hn2,I.ne⟩ hs2)
theorem yn {R:Result→Shared→Prop} {vs:List Value} {kw:List (Str × Value)} (X:K.In s.heap) (hm:PySem.W.makesIn K C=true)
  (hi:PySem.W.findIn K (.ref C) "__init__"=some (some (.ref f))) (hf:PySem.W.typeIn K (.ref f)=some (.type "function"))
  (h:codeAny (model prog w) (A.under (.builtin "type.__call__" ⟨.ref C::vs,kw⟩)) (.call (.ref f) ⟨.ref (s.heap.objs.size+1)::vs,kw⟩) (PySem.W.InitBack (s.heap.objs.size+1) R)
   { s with heap:=(s.heap.push PySem.W.emptyDict).push (PySem.W.instObj C s.heap.objs.size) }):
  codeAny (model prog w) A (.call (.ref C) ⟨vs,kw⟩) R s:=by
 obtain ⟨hh,g,d,t,os⟩:=s
 exact PySem.W.make_core (PySem.W.makes_of X hm) (PySem.W.looks_findIn X hi) (fun self=>PySem.W.bind_fn X self hf) (.inl rfl) h
end
def putF (f:Str) (v:V):List (Str × V)→List (Str × V)
 | []=>[(f,v)]
 | (g,x)::r=>if g=f then (g,v)::r else (g,x)::putF f v r
theorem nr (f g:Str) (v:V):∀ fs:List (Str × V),(putF f v fs).lookup g=if g=f then some v else fs.lookup g
 | []=>by
  show List.lookup g [(f,v)]=_
  by_cases h:g=f
  · have hb:(g==f)=true:=beq_iff_eq.mpr h
    simp only [List.lookup,hb,if_pos h]
  · have hb:(g==f)=false:=beq_eq_false_iff_ne.mpr h
    simp only [List.lookup,hb,if_neg h]
 | (k,x)::r=>by
  have ih:=nr f g v r
  rw [show putF f v ((k,x)::r)=(if k=f then (k,v)::r else (k,x)::putF f v r) from rfl]
  by_cases hk:k=f
  · rw [if_pos hk]
    by_cases h:g=k
    · have hb:(g==k)=true:=beq_iff_eq.mpr h
      simp only [List.lookup,hb,if_pos (h.trans hk)]
    · have hb:(g==k)=false:=beq_eq_false_iff_ne.mpr h
      simp only [List.lookup,hb,if_neg (fun e:g=f=>h (e.trans hk.symm))]
  · rw [if_neg hk]
    by_cases h:g=k
    · have hb:(g==k)=true:=beq_iff_eq.mpr h
      simp only [List.lookup,hb,if_neg (fun e:g=f=>hk (h.symm.trans e))]
    · have hb:(g==k)=false:=beq_eq_false_iff_ne.mpr h
      simp only [List.lookup,hb]
      exact ih
theorem lU (f:Str) (v:V):∀ fs:List (Str × V),f∈(putF f v fs).map (·.1)∧∀ g,g∈fs.map (·.1)→g∈(putF f v fs).map (·.1)
 | []=>⟨by simp [putF],fun g h=>by simp at h⟩
 | (k,x)::r=>by
  obtain ⟨i1,i2⟩:=lU f v r
  rw [show putF f v ((k,x)::r)=(if k=f then (k,v)::r else (k,x)::putF f v r) from rfl]
  by_cases hk:k=f
  · rw [if_pos hk]
    subst hk
    exact ⟨by simp,fun g h=>by simpa using h⟩
  · rw [if_neg hk]
    refine ⟨?_,fun g h=>?_⟩
    · rw [List.map_cons]
      exact List.mem_cons_of_mem _ i1
    · rw [List.map_cons] at h ⊢
      rcases List.mem_cons.mp h with e | e
      · exact List.mem_cons.mpr (.inl e)
      · exact List.mem_cons_of_mem _ (i2 g e)
theorem nt (f:Str) (v:V):∀ fs:List (Str × V),(putF f v fs).length≤fs.length+1
 | []=>by simp [putF]
 | (k,x)::r=>by
  have ih:=nt f v r
  rw [show putF f v ((k,x)::r)=(if k=f then (k,v)::r else (k,x)::putF f v r) from rfl]
  by_cases hk:k=f
  · rw [if_pos hk,List.length_cons,List.length_cons]; omega
  · rw [if_neg hk,List.length_cons,List.length_cons]; omega
theorem RelO.some_of {v:V} {o:Option Value} (r:RelO (some v) o):∃ u,o=some u∧RelV v u:=by
 cases o with
 | none=>exact (show False from r).elim
 | some u=>exact ⟨u,rfl,r⟩
theorem RelO.none_of {o:Option Value} (r:RelO none o):o=none:=by
 cases o with
 | none=>rfl
 | some u=>exact (show False from r).elim
theorem wR {v:V} {u:Value} (r:RelV v u):PySem.W.handedIn u=true:=by
 cases v with
 | non=>cases (show u=Value.none from r); rfl
 | bl b=>cases (show u=Value.bool b from r); rfl
 | int i=>obtain ⟨t,e⟩:=(show ∃ t,u=Value.int i t from r); cases e; rfl
 | str x=>obtain ⟨t,e⟩:=(show ∃ t,u=Value.str x t from r); cases e; rfl
 | byt b=>obtain ⟨t,e⟩:=(show ∃ t,u=Value.bytes b t from r); cases e; rfl
 | flt b=>obtain ⟨t,e⟩:=(show ∃ t,u=Value.float b t from r); cases e; rfl
 | ref a=>cases (show u=Value.ref a from r); rfl
 | ty n=>cases (show u=Value.type n from r); rfl
section
variable {P:Program} {w:World} {H H':Hp} {h h':Heap} {a C dx:Addr} {fs fs':List (Str × V)}
theorem mP (hok:HOk P w H h) (e:H a=some (.ins C dx fs)):∃ mA,ObjM h a dx C mA∧(∀ f,RelO (fs.lookup f) (mA f))∧PySem.Within mA (fs.map (·.1))∧fs.length≤1000∧H dx=some (.own a):=by
 obtain ⟨d,z,ne,ob,mA,n,r,q⟩:=(show ObjOk P w H h a (.ins C dx fs) from hok a _ e)
 exact ⟨mA,⟨ob,n,ne⟩,r,q,z,d⟩
end
structure Cls (K:PySem.W.Frag) (C:Addr):Prop where
 pg:PySem.W.plainGet K C Str.empty=true
 hd:PySem.W.hasDictIn K C=true
 po:PySem.W.plainOver K C=true
 sa:PySem.W.findIn K (.ref C) "__setattr__"=some (some (.builtin "object.__setattr__"))
theorem Cls.get {K:PySem.W.Frag} {C:Addr} (c:Cls K C) (f:Str):PySem.W.plainGet K C f=true:=c.pg
def NoAttr (K:PySem.W.Frag) (C:Addr) (f:Str):Prop:=PySem.W.findIn K (.ref C) f=some none
theorem NoAttr.taker {K:PySem.W.Frag} {C:Addr} {f:Str} (n:NoAttr K C f):PySem.W.takerIn K C f=some none:=by
 unfold PySem.W.takerIn
 rw [show PySem.W.findIn K (.ref C) f=some none from n]
 rfl
structure Meth (K:PySem.W.Frag) (C:Addr) (m:Str) (f:Addr):Prop where
 at_:PySem.W.findIn K (.ref C) m=some (some (.ref f))
 fn:PySem.W.isFn K (.ref f)=true
 kp:PySem.W.keepIn K (.ref f)=true
section
variable {X:Cx} {pins:List (Addr × Obj)} {σ:St} {H:Hp} {s:Shared} {a C dx:Addr} {fs:List (Str × V)} {f:Str} {v:V} {A:Around} {E:Value→Shared→Prop}
theorem vw {b:Bool} {Q:Value→Shared→Prop} (I:Inv X pins σ H s) (e:H a=some (.ins C dx fs)) (c:Cls X.K C) (n:NoAttr X.K C f) (l:fs.lookup f=some v)
  (h:∀ u s',Inv X pins σ H s'→RelV v u→Q u s'):wpAny (model X.prog X.w) A (getAttr (.ref a) f b) Q E s:=by
 obtain ⟨mA,O,r,_,_,_⟩:=mP I.hok e
 obtain ⟨u,hu,ru⟩:=RelO.some_of (v:=v) (o:=mA f) (by rw [← l]; exact r f)
 exact y8 I.kIn O (c.get f) c.hd n hu (wR ru) (h u _ (I.tok _) ru)
theorem vx {m:Str} {g:Addr} {pl:Sem Bool} {Q:Value × List Value→Shared→Prop} (I:Inv X pins σ H s) (e:H a=some (.ins C dx fs)) (c:Cls X.K C) (k:Meth X.K C m g) (l:fs.lookup m=none)
  (h:Q (.ref g,[.ref a]) s):wpAny (model X.prog X.w) A (getMethod (.ref a) m pl) Q E s:=by
 obtain ⟨mA,O,r,_,_,_⟩:=mP I.hok e
 have hn:mA m=none:=RelO.none_of (by rw [← l]; exact r m)
 exact yl I.kIn O (c.get m) k.at_ k.fn hn h
theorem vy {y:V} {u:Value} {Q:Unit→Shared→Prop} (I:Inv X pins σ H s) (e:H a=some (.ins C dx fs)) (c:Cls X.K C) (n:NoAttr X.K C f) (hl:fs.length < 1000) (ry:RelV y u)
  (h:∀ s',Inv X pins σ (upd H a (.ins C dx (putF f y fs))) s'→Q () s'):wpAny (model X.prog X.w) A (setAttr (.ref a) f u) Q E s:=by
 obtain ⟨mA,O,r,wi,_,ho⟩:=mP I.hok e
 have hz:(fs.map (·.1)).length≤sizeLine:=by rw [List.length_map,sizeLine_eq]; omega
 refine y9 I.kIn O c.sa c.po n.taker c.hd wi hz fun h' O' sb=>h _ ?_
 have hd:∃ o,h'.get? dx=some o:=let ⟨o,_,_,e',_⟩:=O'.ns; ⟨o,e'⟩
 refine I.write (x:=a) (e:=dx) (by rw [e]; exact True.intro) (.inr ho) (fun b q hb z=>(sb.2 b hb).trans z) hd ?_
 refine ⟨by rw [ar O.ne]; exact ho,?_,O.ne,O'.obj,_,O'.ns,fun g=>?_,fun g hg=>?_⟩
 · have:=nt f y fs; omega
 · show RelO ((putF f y fs).lookup g) (if g=f then some u else mA g)
   rw [nr]
   by_cases q:g=f
   · rw [if_pos q,if_pos q]; exact ry
   · rw [if_neg q,if_neg q]; exact r g
 · by_cases q:g=f
   · rw [q]; exact (lU f y fs).1
   · refine (lU f y fs).2 g (wi g fun z=>hg ?_)
     show (if g=f then some u else mA g)=none
     rw [if_neg q]; exact z
theorem Inv.made (I:Inv X pins σ H s):Inv X pins σ (upd (upd H s.heap.objs.size (.own (s.heap.objs.size+1))) (s.heap.objs.size+1) (.ins C s.heap.objs.size []))
  { s with heap:=(s.heap.push PySem.W.emptyDict).push (PySem.W.instObj C s.heap.objs.size) }:=by
 have e1:(s.heap.push PySem.W.emptyDict).get? s.heap.objs.size=some PySem.W.emptyDict:=Heap.get?_push_size s.heap rfl
 have e2:((s.heap.push PySem.W.emptyDict).push (PySem.W.instObj C s.heap.objs.size)).get? (s.heap.objs.size+1)=some (PySem.W.instObj C s.heap.objs.size):=by
  have:=Heap.get?_push_size (s.heap.push PySem.W.emptyDict) (o:=PySem.W.instObj C s.heap.objs.size) rfl
  rwa [Heap.size_push] at this
 have e3:(s.heap.push PySem.W.emptyDict).Ns s.heap.objs.size (fun _=>none):=⟨PySem.W.emptyDict,#[],_,e1,rfl,(fun e he=>absurd he (by simp)),fun _=>rfl⟩
 have I1:=I.laid (a:=s.heap.objs.size) (o:=.own (s.heap.objs.size+1)) (h':=s.heap.push PySem.W.emptyDict) (t':=s.toks) (fun b u q=>Heap.get?_push_of_some _ q) (Nat.le_refl _) ⟨_,e1⟩
 refine I1.laid (a:=s.heap.objs.size+1) (o:=.ins C s.heap.objs.size []) (t':=s.toks) (fun b u q=>Heap.get?_push_of_some _ q) (Nat.le_of_eq (Heap.size_push _ _)) ?_
 have ne:s.heap.objs.size≠s.heap.objs.size+1:=Nat.ne_of_lt (Nat.lt_succ_self _)
 refine ⟨by rw [ar ne,ah],Nat.zero_le _,ne,e2,fun _=>none,(Heap.Ns1.of_empty e3).at fun o q=>Heap.get?_push_of_some _ q,fun _=>True.intro,fun y hy=>absurd rfl hy⟩
theorem za {prog:Program} {w:World} {env:Env} {e:Expr} {f:Str} {pos:Pos} {s:Shared} {Q:Value→Shared→Prop} (hb:attributeBase e f env (eval e env)=eval e env)
  (h:wpAny (model prog w) A (eval e env) (fun o s₁=>wpAny (model prog w) A (getAttr o f true) Q E s₁) E s):wpAny (model prog w) A (eval (.Attribute e f pos) env) Q E s:=
 Attribute_any_ h (by rw [arm_eval_Attribute,hb])
end
section
variable {X:Cx} {o e value:Expr} {f:Str} {pos pos' tpos:Pos} {ta tv:TE}
end
section
variable {X:Cx} {pins:List (Addr × Obj)} {σ:St} {H:Hp} {s:Shared} {A:Around} {E:Value→Shared→Prop} {Q:Value→Shared→Prop} {c:Value} {b:Bool}
inductive TyOf (K:PySem.W.Frag) (H:Hp):V→Value→Prop where
 | non:TyOf K H .non (.type "NoneType")
 | bl (x:Bool):TyOf K H (.bl x) (.type "bool")
 | int (i:Int):TyOf K H (.int i) (.type "int")
 | str (x:Str):TyOf K H (.str x) (.type "str")
 | flt (x:UInt64):TyOf K H (.flt x) (.type "float")
 | lst {a:Addr} {xs:List V} (e:H a=some (.lst xs)):TyOf K H (.ref a) (.type "list")
 | frz {a:Addr} {o:Obj} {xs:List V} (e:H a=some (.frz o (.lst xs))):TyOf K H (.ref a) (.type "list")
 | tup {a:Addr} {xs:List V} (e:H a=some (.tup xs)):TyOf K H (.ref a) (.type "tuple")
 | dK {a:Addr} {kvs:List (Key × V)} (e:H a=some (.dK kvs)):TyOf K H (.ref a) (.type "dict")
 | dT {a:Addr} {kvs:List (List Key × V)} (e:H a=some (.dT kvs)):TyOf K H (.ref a) (.type "dict")
 | ins {a C dx:Addr} {fs:List (Str × V)} (e:H a=some (.ins C dx fs)) (cl:Cls K C) (ha:PySem.W.findIn K (.ref C) "__class__"=some (some (.builtin "object.__class__")))
   (hn:PySem.W.specialIn K (.builtin "object.__class__") "__get__"=some (some (.builtin "getset_descriptor.__get__"))) (htk:PySem.W.takesIn K (.builtin "object.__class__")=some true)
   (hm:PySem.W.mroIn K C (.type "object")=some true):TyOf K H (.ref a) (.ref C)
theorem wS {x:V} {u t:Value} (I:Inv X pins σ H s) (rx:RelV x u) (ty:TyOf X.K H x t) (e:PySem.W.kitOne X.K t c=some b) (h:∀ tk,Q (.bool b) { s with toks:=tk }):
  wpAny (model X.prog X.w) A (call (.builtin "isinstance") [u,c]) Q E s:=by
 cases ty with
 | non=>cases (show u=Value.none from rx); exact PySem.W.kia_one PySem.W.kitx_none I.kIn True.intro e (fun z=>nomatch z) h
 | bl y=>cases (show u=Value.bool y from rx); exact PySem.W.kia_one PySem.W.kitx_bool I.kIn True.intro e (fun z=>nomatch z) h
 | int i=>obtain ⟨t,q⟩:=(show ∃ t,u=Value.int i t from rx); cases q; exact PySem.W.kia_one PySem.W.kitx_int I.kIn True.intro e (fun z=>nomatch z) h
 | str y=>obtain ⟨t,q⟩:=(show ∃ t,u=Value.str y t from rx); cases q; exact PySem.W.kia_one PySem.W.kitx_str I.kIn True.intro e (fun z=>nomatch z) h
 | flt y=>obtain ⟨t,q⟩:=(show ∃ t,u=Value.float y t from rx); cases q; exact PySem.W.kia_one PySem.W.kitx_float I.kIn True.intro e (fun z=>nomatch z) h
 | @lst a xs ea=>
  cases (show u=Value.ref a from rx)
  obtain ⟨_,_,n,_,h1⟩:=(show ObjOk X.prog X.w H s.heap a (.lst xs) from I.hok a _ ea)
  exact PySem.W.kia_one PySem.W.kitx_list I.kIn ⟨_,h1,rfl⟩ e (fun z=>nomatch z) h
 | @frz a ob xs ea=>
  cases (show u=Value.ref a from rx)
  obtain ⟨_,_,_,n,_,h1⟩:=(show ObjOk X.prog X.w H s.heap a (.frz ob (.lst xs)) from I.hok a _ ea)
  exact PySem.W.kia_one PySem.W.kitx_list I.kIn ⟨_,h1,rfl⟩ e (fun z=>nomatch z) h
 | @tup a xs ea=>
  cases (show u=Value.ref a from rx)
  obtain ⟨_,_,_,p⟩:=(show ObjOk X.prog X.w H s.heap a (.tup xs) from I.hok a _ ea)
  obtain ⟨o,h1,h2,_⟩:=p
  exact PySem.W.kia_one PySem.W.kitx_tuple I.kIn ⟨o,h1,h2⟩ e (fun z=>nomatch z) h
 | @dK a kvs ea=>
  cases (show u=Value.ref a from rx)
  obtain ⟨_,_,vs,_,p⟩:=(show ObjOk X.prog X.w H s.heap a (.dK kvs) from I.hok a _ ea)
  obtain ⟨o,es,ep,h1,h2,_⟩:=p
  exact PySem.W.kia_one PySem.W.kitx_dict I.kIn ⟨o,h1,h2.1⟩ e (fun z=>nomatch z) h
 | @dT a kvs ea=>
  cases (show u=Value.ref a from rx)
  obtain ⟨_,_,xs,_,o,es,ep,h1,h2,_⟩:=(show ObjOk X.prog X.w H s.heap a (.dT kvs) from I.hok a _ ea)
  exact PySem.W.kia_one PySem.W.kitx_dict I.kIn ⟨o,h1,h2.1⟩ e (fun z=>nomatch z) h
 | @ins a C dx fs ea cl ha hn htk hm=>
  cases (show u=Value.ref a from rx)
  obtain ⟨mA,O,_⟩:=mP I.hok ea
  obtain ⟨od,J,_⟩:=O.look
  exact PySem.W.kia_one (PySem.W.kitx_own (cl.get _) cl.hd ha hn htk hm) I.kIn J e (fun z=>nomatch z) h
end
end L2
namespace L2
open PySem PySem.Spec PyProof.Rows
structure Room (k:Nat) (A:Around):Prop where
 hd:A.handled=none
 dp:A.depth+3*k+5 < recursionLimit
 un:A.units+16*k+200 < cLine
theorem Room.mono {j k:Nat} {A:Around} (r:Room k A) (h:j≤k):Room j A:=⟨r.hd,by have:=r.dp; omega,by have:=r.un; omega⟩
theorem Room.deeper {k:Nat} {A:Around} (r:Room (k+1) A) (env:Env):Room k (A.deeper env):=
 ⟨r.hd,by have:=r.dp; show A.depth+1+3*k+5 < _; omega,by have:=r.un; show A.units+3+16*k+200 < _; omega⟩
theorem vz {A:Around} {C:Addr} {us:List Value} {kw:List (Str × Value)}:(A.under (.builtin "type.__call__" ⟨.ref C::us,kw⟩)).depth=A.depth+1:=by
 first | rfl | simp [Around.under,Code.weight,Code.isCreation,Code.isGuard,Code.isCaller,Code.frames,Code.isFrame,guardIds]
theorem vA {A:Around} {C:Addr} {us:List Value} {kw:List (Str × Value)}:(A.under (.builtin "type.__call__" ⟨.ref C::us,kw⟩)).units=A.units+1:=by
 first | rfl | simp [Around.under,Code.cUnits,Code.frames,Code.isFrame]
theorem Room.make {k:Nat} {A:Around} (r:Room (k+1) A) (C:Addr) (us:List Value) (kw:List (Str × Value)):Room k (A.under (.builtin "type.__call__" ⟨.ref C::us,kw⟩)):=
 ⟨r.hd,by have:=r.dp; rw [vz]; omega,by have:=r.un; rw [vA]; omega⟩
theorem Room.depth {k:Nat} {A:Around} (r:Room k A):A.depth < recursionLimit:=by have:=r.dp; omega
theorem Room.units {k:Nat} {A:Around} (r:Room k A):A.units+64 < cLine:=by have:=r.un; omega
def tNil:TA:=fun _ H Q=>Q [] H
def tCons (ta:TE) (tr:TA):TA:=fun σ H Q=>ta σ H fun x H1=>tr σ H1 fun xs H2=>Q (x::xs) H2
section
variable {X:Cx} {e:Expr} {es:List Expr} {te:TE} {t:TA} {pos:Pos}
theorem ac:PA X [] tNil:=fun _ _ _ _ H Q I h=>Calls.spliced_nil ⟨[],H,I,.nil,h⟩
theorem ab (ha:PE X e te) (hr:PA X es t) (hs:starEach (e::es) X.env=(false,eval e X.env)::starEach es X.env:=by rfl):PA X (e::es) (tCons te t):=by
 intro pos pins s σ H Q I h
 rw [hs]
 show wpAny _ _ (spliced ((false,eval e X.env)::backTo pos (starEach es X.env))) _ _ s
 refine Calls.spliced_cons (thn (ha pins s σ H _ I h) fun u s1 ⟨x,H1,I1,r1,q1⟩=>?_)
 exact thn (hr pos pins s1 σ H1 _ I1 q1) fun us s2 ⟨xs,H2,I2,r2,q2⟩=>⟨x::xs,H2,I2,.cons r1 r2,q2⟩
def tTup (t:TA):TE:=fun σ H Q=>t σ H fun xs H1=>xs.length≤sizeLine∧∀ p,H1 p=none→Q (.ref p) (upd H1 p (.tup xs))
def tLst (t:TA):TE:=fun σ H Q=>t σ H fun xs H1=>xs.length≤sizeLine∧∀ p,H1 p=none→Q (.ref p) (upd H1 p (.lst xs))
theorem cB {x1} (h:PA X es t):PE X (.Tuple es x1 pos) (tTup t):=by
 intro pins s σ H Q I hq
 refine wpAny_Tuple_spliced (thn (h pos pins s σ H _ I hq) fun us s1 ⟨xs,H1,I1,r,z,q⟩=>⟨by rw [← r.length]; exact z,?_⟩)
 have hf:H1 s1.heap.objs.size=none:=I1.hok.fresh (Nat.le_refl _)
 refine ⟨.ref s1.heap.objs.size,upd H1 s1.heap.objs.size (.tup xs),I1.laid (t':=s1.toks) (fun b u e=>Heap.get?_push_of_some _ e) (Nat.le_refl _) ?_,rfl,q _ hf⟩
 exact ⟨z,us,r,⟨_,Heap.get?_push_size _ rfl,rfl,_,rfl⟩⟩
theorem aS (h:PA X es t):PE X (.List es pos) (tLst t):=by
 intro pins s σ H Q I hq
 refine wpAny_List_spliced (thn (h pos pins s σ H _ I hq) fun us s1 ⟨xs,H1,I1,r,z,q⟩=>⟨by rw [← r.length]; exact z,?_⟩)
 have hf:H1 s1.heap.objs.size=none:=I1.hok.fresh (Nat.le_refl _)
 refine ⟨.ref s1.heap.objs.size,upd H1 s1.heap.objs.size (.lst xs),I1.laid (t':=s1.toks) (fun b u e=>Heap.get?_push_of_some _ e) (Nat.le_refl _) ?_,rfl,q _ hf⟩
 exact ⟨z,us,0,r,Heap.get?_push_size _ rfl⟩
end
abbrev Sp:=List V→Hp→VK→XK→Prop
abbrev CXT:=List Env→Hp→Shared→XK→Value→Shared→Prop
structure Env0 (P:Program) (w:World) (K:PySem.W.Frag) (mg:Str→Option Value) (base:Heap) (A:Around) (outer:List Env) (s:Shared) (H:Hp):Prop where
 frames:A.frames=some outer
 mod:Mod K mg base
 bs:∀ b o,base.get? b=some o→s.heap.get? b=some o∧H b=none
 bsz:base.objs.size≤s.heap.objs.size
 funs:s.heap.FunFrames base outer
 frf:∀ b∈frs outer,H b=none
 hok:HOk P w H s.heap
 bare:AllBare s.gens
def CE (outer:List Env) (P:Program) (w:World) (H:Hp) (s:Shared) (Q:VK) (u:Value) (s':Shared):Prop:=
 ∃ v H',s'.os=s.os∧AllBare s'.gens∧Un (frs outer) [] H H' s.heap s'.heap∧HOk P w H' s'.heap∧RelV v u∧Q v H'
def CR (CX:CXT) (outer:List Env) (P:Program) (w:World) (H:Hp) (s:Shared) (Q:VK) (E:XK) (r:Result) (s':Shared):Prop:=
 match r with
 | .ok (.ret u)=>CE outer P w H s Q u s'
 | .ok _=>False
 | .error e=>CX outer H s E e s'
structure FnOk (P:Program) (w:World) (K:PySem.W.Frag) (mg:Str→Option Value) (base:Heap) (CX:CXT) (k:Nat) (f:Addr) (fd:FuncData) (ps:List Str) (sp:Sp):Prop where
 len:∀ vs H Q E,sp vs H Q E→vs.length=ps.length
 run:∀ (A:Around) (outer:List Env) (s:Shared) (H:Hp) (args:Args) (us:List Value) (vs:List V) (Q:VK) (E:XK),Room k A→Env0 P w K mg base A outer s H→BindsTo s fd args (ps.zip us)→Vals vs us→sp vs H Q E→
  codeAny (model P w) A (.call (.ref f) args) (CR CX outer P w H s Q E) s
theorem FnOk.mono {P:Program} {w:World} {K:PySem.W.Frag} {mg:Str→Option Value} {base:Heap} {CX:CXT} {j k:Nat} {f:Addr} {fd:FuncData} {ps:List Str} {sp:Sp} (F:FnOk P w K mg base CX j f fd ps sp) (h:j≤k):
  FnOk P w K mg base CX k f fd ps sp:=⟨F.len,fun A outer s H args us vs Q E hr=>F.run A outer s H args us vs Q E (hr.mono h)⟩
theorem FnOk.imp {P:Program} {w:World} {K:PySem.W.Frag} {mg:Str→Option Value} {base:Heap} {CX:CXT} {k:Nat} {f:Addr} {fd:FuncData} {ps:List Str} {sp sp':Sp} (F:FnOk P w K mg base CX k f fd ps sp)
  (h:∀ vs H Q E,sp' vs H Q E→sp vs H Q E):FnOk P w K mg base CX k f fd ps sp':=
 ⟨fun vs H Q E q=>F.len vs H Q E (h _ _ _ _ q),fun A outer s H args us vs Q E hr he hb hv hs=>F.run A outer s H args us vs Q E hr he hb hv (h _ _ _ _ hs)⟩
theorem Env0.make {P:Program} {w:World} {K:PySem.W.Frag} {mg:Str→Option Value} {base:Heap} {A:Around} {outer:List Env} {s:Shared} {H:Hp} (e:Env0 P w K mg base A outer s H) (C:Addr) (us:List Value) (kw:List (Str × Value)):
  Env0 P w K mg base (A.under (.builtin "type.__call__" ⟨.ref C::us,kw⟩)) outer s H:=⟨by first | exact e.frames | (simpa [Around.under,Code.envs,Code.isFrame,pushEnvs] using e.frames),e.mod,e.bs,e.bsz,e.funs,e.frf,e.hok,e.bare⟩
section
variable {X:Cx} {pins:List (Addr × Obj)} {σ:St} {H:Hp} {s s':Shared}
theorem Inv.env0 (I:Inv X pins σ H s):Env0 X.prog X.w X.K X.mg X.base X.A X.stack s H:=
 ⟨I.ok.frames,I.ok.mod,I.bs,Nat.le_trans I.ok.bsz I.sz,I.stack,I.stkFree,I.hok,I.bare⟩
theorem Inv.after {Q:VK} {u:Value} (I:Inv X pins σ H s) (h:CE X.stack X.prog X.w H s Q u s'):EP X pins σ Q u s':=by
 obtain ⟨v,H',os,bare,un,hok,r,q⟩:=h
 obtain ⟨hh,g,d,t,os'⟩:=s'
 obtain rfl:os'=s.os:=os
 exact ⟨v,H',I.call (h':=hh) (g':=g) (d':=d) (t':=t) (ch:=[]) un hok bare (fun b z=>absurd z (by simp)),r,q⟩
end
def tCall (sp:Sp) (dvs:List V) (E:XK) (t:TA):TE:=fun σ H Q=>t σ H fun vs H1=>sp (vs++dvs) H1 Q E
def tMake (C:Addr) (sp:Sp) (dvs:List V) (E:XK) (t:TA):TE:=fun σ H Q=>t σ H fun vs H1=>∀ x dx,H1 x=none→H1 dx=none→dx≠x→
 sp (.ref x::(vs++dvs)) (upd (upd H1 dx (.own x)) x (.ins C dx [])) (fun v H2=>v=.non∧Q (.ref x) H2) E
def Binds (K:PySem.W.Frag) (fd:FuncData) (ps:List Str) (ds:List Value):Prop:=
 ∀ (s:Shared) (us:List Value),K.In s.heap→(us++ds).length=ps.length→BindsTo s fd ⟨us,[]⟩ (ps.zip (us++ds))
theorem Binds.all {K:PySem.W.Frag} {fd:FuncData} {ps:List Str} (h:∀ us:List Value,us.length=ps.length→bindArgs fd ⟨us,[]⟩=pure (ps.zip us)):Binds K fd ps []:=fun s us _ hl=>by
 rw [List.append_nil] at hl ⊢
 exact .of_eq (h us hl)
def lV (CX:CXT) (X:Cx) (E:XK):Prop:=∀ (pins:List (Addr × Obj)) (σ:St) (H:Hp) (s:Shared) (e:Value) (s':Shared),Inv X pins σ H s→CX X.stack H s E e s'→X.xe e s'
section
variable {X:Cx} {CX:CXT} {k:Nat} {f C:Addr} {fd:FuncData} {ps:List Str} {sp:Sp} {dvs:List V} {ds:List Value} {E:XK} {x m:Str} {p pos apos:Pos} {e o:Expr} {es:List Expr} {ta:TE} {t:TA}
theorem wT {pins:List (Addr × Obj)} {σ:St} {H:Hp} {s:Shared} {Q:VK} {us:List Value} {vs:List V} (F:FnOk X.prog X.w X.K X.mg X.base CX k f fd ps sp) (hr:Room k X.A) (hb:Binds X.K fd ps ds) (hd:Vals dvs ds) (hx:lV CX X E)
  (I:Inv X pins σ H s) (r:Vals vs us) (h:sp (vs++dvs) H Q E):wpAny (model X.prog X.w) X.A (call (.ref f) us) (EP X pins σ Q) X.xe s:=by
 have r2:Vals (vs++dvs) (us++ds):=r.append hd
 have hl:(us++ds).length=ps.length:=by rw [← r2.length]; exact F.len _ _ _ _ h
 refine wpAny_call (codeAny_mono (F.run X.A X.stack s H ⟨us,[]⟩ (us++ds) (vs++dvs) Q E hr I.env0 (hb s us I.kIn hl) r2 h) fun r s' hq=>?_)
 cases r with
 | error e=>exact hx pins σ H s e s' I hq
 | ok fl=>
  cases fl with
  | ret u=>exact I.after hq
  | next=>exact False.elim hq
  | brk=>exact False.elim hq
  | cont=>exact False.elim hq
theorem zb (F:FnOk X.prog X.w X.K X.mg X.base CX k f fd ps sp) (hr:Room k X.A) (hg:Gl X x) (hm:X.mg x=some (.ref f)) (hk:PySem.W.keepIn X.K (.ref f)=true) (hb:Binds X.K fd ps ds) (hd:Vals dvs ds) (hx:lV CX X E)
  (ha:PA X (e::es) t) (hdb:(x==("__debug__":Str))=false:=by decide) (he:starEach (e::es) X.env=(false,eval e X.env)::starEach es X.env:=by rfl) (hpl:(backTo pos (starEach es X.env)).any (·.1)=false:=by rfl):
  PE X (.Call (.Name x p) (e::es) [] pos) (tCall sp dvs E t):=by
 intro pins s σ H Q I h
 refine wpAny_Call_Name_kw (qj I hg hm ?_ hdb)
 refine PySem.W.callWith_K (h₀:=X.base) I.ok.mod.kin hk (thn (ha pos pins s σ H _ I h) fun us s1 ⟨vs,H1,I1,r,q⟩=>⟨I1.kIn,?_⟩) he hpl
 exact wT F hr hb hd hx I1 r q
structure Mk (K:PySem.W.Frag) (C f:Addr):Prop where
 makes:PySem.W.makesIn K C=true
 init:PySem.W.findIn K (.ref C) "__init__"=some (some (.ref f))
 fn:PySem.W.isFn K (.ref f)=true
 kp:PySem.W.keepIn K (.ref C)=true
theorem yo {pins:List (Addr × Obj)} {σ:St} {H:Hp} {s:Shared} {Q:VK} {us:List Value} {vs:List V} (M:Mk X.K C f) (F:FnOk X.prog X.w X.K X.mg X.base CX k f fd ps sp) (hr:Room (k+1) X.A) (hb:Binds X.K fd ps ds) (hd:Vals dvs ds)
  (hx:lV CX X E) (I:Inv X pins σ H s) (r:Vals vs us)
  (h:∀ x dx,H x=none→H dx=none→dx≠x→sp (.ref x::(vs++dvs)) (upd (upd H dx (.own x)) x (.ins C dx [])) (fun v H2=>v=.non∧Q (.ref x) H2) E):
  wpAny (model X.prog X.w) X.A (call (.ref C) us) (EP X pins σ Q) X.xe s:=by
 have hq:=h (s.heap.objs.size+1) s.heap.objs.size (I.hok.fresh (Nat.le_succ _)) (I.hok.fresh (Nat.le_refl _)) (Nat.ne_of_lt (Nat.lt_succ_self _))
 have I2:=Inv.made (C:=C) I
 have r2:Vals (V.ref (s.heap.objs.size+1)::(vs++dvs)) (Value.ref (s.heap.objs.size+1)::(us++ds)):=.cons rfl (r.append hd)
 have hl:(Value.ref (s.heap.objs.size+1)::us++ds).length=ps.length:=by
  have e:=r2.length
  rw [F.len _ _ _ _ hq] at e
  exact e.symm
 refine wpAny_call (yn (f:=f) I.kIn M.makes M.init (beq_iff_eq.mp M.fn) (codeAny_mono (F.run _ X.stack _ _ ⟨Value.ref (s.heap.objs.size+1)::us,[]⟩ (Value.ref (s.heap.objs.size+1)::(us++ds)) _ _ E (hr.make C us [])
  (I2.env0.make C us []) (hb _ (Value.ref (s.heap.objs.size+1)::us) I2.kIn hl) r2 hq) fun r s' hq'=>?_))
 cases r with
 | error e=>exact hx pins σ _ _ e s' I2 hq'
 | ok fl=>
  cases fl with
  | ret u=>
   obtain ⟨v,H',I3,rv,ev,q3⟩:=I2.after hq'
   subst ev
   exact ⟨rv,⟨V.ref (s.heap.objs.size+1),H',I3,rfl,q3⟩⟩
  | next=>exact False.elim hq'
  | brk=>exact False.elim hq'
  | cont=>exact False.elim hq'
theorem zc (M:Mk X.K C f) (F:FnOk X.prog X.w X.K X.mg X.base CX k f fd ps sp) (hr:Room (k+1) X.A) (hg:Gl X x) (hm:X.mg x=some (.ref C)) (hb:Binds X.K fd ps ds) (hd:Vals dvs ds) (hx:lV CX X E)
  (ha:PA X (e::es) t) (hdb:(x==("__debug__":Str))=false:=by decide) (he:starEach (e::es) X.env=(false,eval e X.env)::starEach es X.env:=by rfl) (hpl:(backTo pos (starEach es X.env)).any (·.1)=false:=by rfl):
  PE X (.Call (.Name x p) (e::es) [] pos) (tMake C sp dvs E t):=by
 intro pins s σ H Q I h
 refine wpAny_Call_Name_kw (qj I hg hm ?_ hdb)
 refine PySem.W.callWith_K (h₀:=X.base) I.ok.mod.kin M.kp (thn (ha pos pins s σ H _ I h) fun us s1 ⟨vs,H1,I1,r,q⟩=>⟨I1.kIn,?_⟩) he hpl
 exact yo M F hr hb hd hx I1 r q
end
section
variable {X:Cx} {CX:CXT} {k:Nat} {f C:Addr} {fd:FuncData} {ps ks:List Str} {sp:Sp} {E:XK} {x m:Str} {p pos apos kpos:Pos} {e o:Expr} {es:List Expr} {kws:List Keyword} {te ta:TE} {t tk:TA} {nm:Option Str}
variable {g:List Value→List Value→List Value} {gV:List V→List V→List V}
end
structure ay (N P:List Str) (sc:Scope):Prop where
 kind:sc.kind=.function
 co:sc.isCoroutine=false
 gen:sc.isGenerator=false
 nd:N.Nodup
 pre:N.take P.length=P
 par:∀ x∈P,sc.names.lookup x=some .local∨sc.names.lookup x=some .cell
 nofree:∀ y∈sc.names,y.2≠.free
theorem qI {kindOf:Str→Option NameKind} {x:Str}:∀ {binds:List (Str × Value)} {m:Str→Option Value},(∀ v,(x,v)∉binds)→bindL kindOf binds m x=m x
 | [],_,_=>rfl
 | (n,v)::r,m,h=>by
  unfold bindL
  rw [qI fun w hw=>h w (List.mem_cons_of_mem _ hw)]
  split
  · have:x≠n:=by rintro rfl; exact h v List.mem_cons_self
    simp [this]
  · rfl
theorem qJ {kindOf:Str→Option NameKind} {x:Str}:∀ {binds:List (Str × Value)} {m:Str→Option Value},(∀ v,(x,v)∉binds)→bindC kindOf binds m x=m x
 | [],_,_=>rfl
 | (n,v)::r,m,h=>by
  unfold bindC
  rw [qJ fun w hw=>h w (List.mem_cons_of_mem _ hw)]
  split
  · rfl
  · have:x≠n:=by rintro rfl; exact h v List.mem_cons_self
    simp [this]
theorem qK {kindOf:Str→Option NameKind} {x:Str} {v:Value}:∀ {P:List Str} {vs:List Value} {i:Nat} {m:Str→Option Value},P.Nodup→P[i]? =some x→vs[i]? =some v→kindOf x=some .local→
  bindL kindOf (P.zip vs) m x=some v
 | [],_,_,_,_,h,_,_=>by simp at h
 | _::_,[],_,_,_,_,h,_=>by simp at h
 | p::P,w::vs,0,m,nd,h1,h2,hk=>by
  simp at h1 h2; subst h1; subst h2
  show bindL kindOf ((p,w)::P.zip vs) m p=_
  unfold bindL
  rw [qI fun v hv=>(List.nodup_cons.mp nd).1 (List.of_mem_zip hv).1,if_pos hk]
  simp
 | p::P,w::vs,i+1,m,nd,h1,h2,hk=>by
  show bindL kindOf ((p,w)::P.zip vs) m x=_
  unfold bindL
  exact qK (i:=i) (List.nodup_cons.mp nd).2 (by simpa using h1) (by simpa using h2) hk
theorem qL {kindOf:Str→Option NameKind} {x:Str} {v:Value}:∀ {P:List Str} {vs:List Value} {i:Nat} {m:Str→Option Value},P.Nodup→P[i]? =some x→vs[i]? =some v→kindOf x≠some .local→
  bindC kindOf (P.zip vs) m x=some v
 | [],_,_,_,_,h,_,_=>by simp at h
 | _::_,[],_,_,_,_,h,_=>by simp at h
 | p::P,w::vs,0,m,nd,h1,h2,hk=>by
  simp at h1 h2; subst h1; subst h2
  show bindC kindOf ((p,w)::P.zip vs) m p=_
  unfold bindC
  rw [qJ fun v hv=>(List.nodup_cons.mp nd).1 (List.of_mem_zip hv).1,if_neg hk]
  simp
 | p::P,w::vs,i+1,m,nd,h1,h2,hk=>by
  show bindC kindOf ((p,w)::P.zip vs) m x=_
  unfold bindC
  exact qL (i:=i) (List.nodup_cons.mp nd).2 (by simpa using h1) (by simpa using h2) hk
def start (N:List Str) (vs:List V):St:=vs.map some++List.replicate (N.length - vs.length) none
def cxOf (CX:CXT) (P:Program) (w:World) (K:PySem.W.Frag) (mg:Str→Option Value) (base:Heap) (N:List Str) (qual:Str) (scope:Scope) (f:Addr) (cd:Value) (A:Around) (outer:List Env) (s:Shared) (H:Hp) (E:XK):Cx where
 prog:=P
 w:=w
 K:=K
 mg:=mg
 base:=base
 A:=A.deeper (envOfC qual scope s.heap.objs.size f cd)
 N:=N
 s₀:=s
 H₀:=H
 env:=envOfC qual scope s.heap.objs.size f cd
 outer:=outer
 stack:=envOfC qual scope s.heap.objs.size f cd::outer
 ex:=[]
 calm:=true
 fn:=fun _=>true
 pn:=[]
 xe:=fun e s'=>wpAny (model P w) (A.deeper (envOfC qual scope s.heap.objs.size f cd)) (leaving (envOfC qual scope s.heap.objs.size f cd) e) (fun _ s''=>CX outer H s E e s'') (fun e' s''=>CX outer H s E e' s'') s'
theorem lj {sc:Scope} {n:Nat} {x:Str} (h:sc.names.lookup x=some .cell):∃ c,(cellsFrom n sc.names []).lookup x=some c:=by
 have q:=PySem.W.cellsFrom_some sc.names n [] (.inl h)
 exact Option.isSome_iff_exists.mp q
theorem wU {CX:CXT} {P:Program} {w:World} {K:PySem.W.Frag} {mg:Str→Option Value} {base:Heap} {N ps:List Str} {qual:Str} {scope:Scope} {f:Addr} {cd:Value} {A:Around} {outer:List Env} {s s1:Shared} {H:Hp} {E:XK} {us:List Value} {vs:List V}
  (S:ay N ps scope) (hd:A.handled=none) (e0:Env0 P w K mg base A outer s H) (hl:vs.length=ps.length) (r:Vals vs us)
  (x:InCallC s s.heap.objs.size (bindL (envOfC qual scope s.heap.objs.size f cd).kindOf (ps.zip us) fun _=>none) (cellsFrom (s.heap.objs.size+1) scope.names []) (bindC (envOfC qual scope s.heap.objs.size f cd).kindOf (ps.zip us) fun _=>none) s1):
  Inv (cxOf CX P w K mg base N qual scope f cd A outer s H E) [] (start N vs) H s1:=by
 have hpl:ps.length≤N.length:=by have:=congrArg List.length S.pre; rw [List.length_take] at this; omega
 obtain ⟨h1,tk,rfl,hk⟩:=x.done
 have noA:∀ b:Addr,b∉(cxOf CX P w K mg base N qual scope f cd A outer s H E).ex:=fun b z=>absurd (show b∈([]:List Addr) from z) (by simp)
 refine ⟨⟨e0.mod,S.kind,rfl,rfl,Nat.le_refl _,fun y z c h1 h2=>?_,fun y hy=>?_,fun y c _ h=>?_,fun _=>hd,Around.frames_deeper e0.frames,.inr ⟨rfl,rfl⟩,fun b z=>absurd z (noA b),e0.bs,e0.bsz,fun b _ _=>noA b,fun b z=>absurd z (noA b),e0.funs,e0.frf⟩,
  rfl,e0.bare,Un.kept hk,⟨_,x.toInCall.ns,fun i y v h1 h2 h3=>?_⟩,fun y c h=>⟨_,x.cell y c h⟩,e0.hok.fresh (Nat.le_refl _),fun y c h=>?_,fun p hp=>absurd (show p∈([]:List (Addr × Obj)) from hp) (by simp),e0.hok.kept hk,?_⟩
 · exact name_of_addr x.apart (PySem.mem_of_lookup h1) (PySem.mem_of_lookup h2)
 · have hy:scope.names.lookup y=some .cell∨scope.names.lookup y=some .free:=hy
   rcases hy with hy | hy
   · exact lj hy
   · exact absurd rfl (S.nofree _ (PySem.mem_of_lookup hy))
 · exact Nat.le_of_lt (x.above y c (PySem.mem_of_lookup h))
 · have hi:i < vs.length:=by
    unfold start at h2
    by_cases hi:i < vs.length
    · exact hi
    · rw [List.getElem?_append_right (by simpa using hi)] at h2
      rw [List.getElem?_replicate] at h2
      split at h2 <;> cases h2
   have ha:vs[i]? =some v:=by
    unfold start at h2
    rw [List.getElem?_append_left (by simpa using hi),List.getElem?_map] at h2
    cases e:vs[i]? with
    | none=>rw [e] at h2; cases h2
    | some a=>rw [e] at h2; cases h2; rfl
   obtain ⟨u,hu,rv⟩:=r.get ha
   have hp:ps[i]? =some y:=by
    rw [← S.pre,List.getElem?_take_of_lt (by omega)]; exact h1
   have ndP:ps.Nodup:=by rw [← S.pre]; exact S.nd.sublist (List.take_sublist _ _)
   refine ⟨u,rv,?_⟩
   rcases S.par y (List.mem_of_getElem? hp) with k | k
   · exact .inl ⟨k,qK ndP hp hu k⟩
   · obtain ⟨c,e⟩:=lj (n:=s.heap.objs.size+1) k
     refine .inr ⟨.inl k,c,e,?_⟩
     have q:=x.cell y c e
     rw [qL ndP hp hu (by show scope.names.lookup y≠_; rw [k]; decide)] at q
     exact q
 · exact e0.hok.fresh (Nat.le_of_lt (x.above y c (PySem.mem_of_lookup h)))
 · unfold start
   show _=N.length
   rw [List.length_append,List.length_map,List.length_replicate]
   omega
theorem AJ {CX:CXT} {P:Program} {w:World} {K:PySem.W.Frag} {mg:Str→Option Value} {base:Heap} {k:Nat} {f:Addr} {name qual:Str} {params:Arguments} {body:List Stmt} {scope:Scope} {dV kV doc pm cdv ct oc:Value} {an od:Option Addr}
  {osl:Array (Option Value)} {N ps:List Str} {sp:Sp} (lk:K.lookup f=some ⟨oc,od,.func (PySem.W.fnOf name qual params body scope dV kV doc pm an cdv ct),osl⟩) (hcd:PySem.W.codeIn K cdv qual=true) (S:ay N ps scope)
  (len:∀ vs H Q E,sp vs H Q E→vs.length=ps.length)
  (hbody:∀ (A:Around) (outer:List Env) (s:Shared) (H:Hp) (vs:List V) (Q:VK) (E:XK),Room k (A.deeper (envOfC qual scope s.heap.objs.size f cdv))→sp vs H Q E→
   ∃ t,PSs (cxOf CX P w K mg base N qual scope f cdv A outer s H E) body t∧t { nx:=fun _ H'=>Q .non H',rt:=Q } (start N vs) H):
  FnOk P w K mg base CX (k+1) f (PySem.W.fnOf name qual params body scope dV kV doc pm an cdv ct) ps sp:=by
 refine ⟨len,fun A outer s H args us vs Q E hr e0 hb r hsp=>?_⟩
 have hl:=len _ _ _ _ hsp
 have KX:K.In s.heap:=e0.mod.kin.keeps fun b o e=>(e0.bs b o e).1
 have lim:s.heap.NoLimit:=e0.mod.nolimit.keeps fun b o e=>(e0.bs b o e).1
 have hkind:∀ y∈ps.zip us,scope.names.lookup y.1=some .local∨(scope.names.lookup y.1=some .cell∧((cellsFrom (s.heap.objs.size+1) scope.names []).lookup y.1).isSome=true):=fun ⟨n,v⟩ hy=>by
  rcases S.par n (List.of_mem_zip hy).1 with q | q
  · exact .inl q
  · exact .inr ⟨q,PySem.W.cellsFrom_some _ _ _ (.inl q)⟩
 refine codeAny_call_function hr.depth (KX _ _ lk) rfl S.co S.gen rfl (PySem.W.codeRec_of KX hcd) (hb _ _ _ _ ?_)
 refine wpAny_newFunctionEnv_cells S.kind hkind fun env he s1 x=>?_
 subst he
 refine ⟨lim.keeps x.toInCall.keep,codeAny_func ?_⟩
 obtain ⟨t,ht,hq⟩:=hbody A outer s H vs Q E (hr.deeper _) hsp
 have I:Inv (cxOf CX P w K mg base N qual scope f cdv A outer s H E) [] (start N vs) H s1:=wU S hr.hd e0 hl r x
 refine wpAny_mono (ht [] s1 (start N vs) H _ I hq) (fun fl s' hs=>?_) fun e s' hs=>hs
 have fin:∀ {σ':St} {H':Hp} {v:V} {u:Value},Inv (cxOf CX P w K mg base N qual scope f cdv A outer s H E) [] σ' H' s'→RelV v u→Q v H'→CE outer P w H s Q u s':=
  fun {σ' H' v u} J rv q=>⟨v,H',J.os,J.bare,J.base,J.hok,rv,q⟩
 cases fl with
 | ret u=>
  obtain ⟨v,σ',H',J,rv,q⟩:=hs
  exact fin J rv q
 | next=>
  obtain ⟨σ',H',J,q⟩:=hs
  exact fin (v:=V.non) (u:=Value.none) J rfl q
 | brk=>
  obtain ⟨_,_,_,q⟩:=hs
  exact False.elim q
 | cont=>
  obtain ⟨_,_,_,q⟩:=hs
  exact False.elim q
end L2
namespace L2
open PySem PySem.Spec PyProof.Rows
section
variable {X:Cx} {x:Str} {p pos:Pos} {e:Expr} {es:List Expr} {t:TA} {id T:String} {r:List V→Hp→VK→Prop}
def tCB (r:List V→Hp→VK→Prop) (t:TA):TE:=fun σ H Q=>t σ H fun vs H1=>r vs H1 Q
theorem aB (hc:CallR X (.builtin id) r) (hg:Gl X x) (hm:X.mg x=none) (hv:bootBuiltins x=some (.builtin id)) (ha:PA X (e::es) t) (hn:x≠"__name__":=by decide) (hdb:(x==("__debug__":Str))=false:=by decide)
  (he:starEach (e::es) X.env=(false,eval e X.env)::starEach es X.env:=by rfl) (hpl:(backTo pos (starEach es X.env)).any (·.1)=false:=by rfl):PE X (.Call (.Name x p) (e::es) [] pos) (tCB r t):=by
 intro pins s σ H Q I h
 refine wpAny_Call_Name_kw (im I hg hm hv ?_ hn hdb)
 exact PyProof.Rows.callWith_builtin1 (thn (ha pos pins s σ H _ I h) fun us s1 ⟨vs,H1,I1,r1,q1⟩=>hc pins s1 σ H1 vs us Q I1 r1 q1) he hpl
theorem cP (hc:CallR X (.type T) r) (hg:Gl X x) (hm:X.mg x=none) (hv:bootBuiltins x=some (.type T)) (ha:PA X (e::es) t) (hn:x≠"__name__":=by decide) (hdb:(x==("__debug__":Str))=false:=by decide)
  (he:starEach (e::es) X.env=(false,eval e X.env)::starEach es X.env:=by rfl) (hpl:(backTo pos (starEach es X.env)).any (·.1)=false:=by rfl):PE X (.Call (.Name x p) (e::es) [] pos) (tCB r t):=by
 intro pins s σ H Q I h
 refine wpAny_Call_Name_kw (im I hg hm hv ?_ hn hdb)
 exact PyProof.Rows.callWith_type1 (thn (ha pos pins s σ H _ I h) fun us s1 ⟨vs,H1,I1,r1,q1⟩=>hc pins s1 σ H1 vs us Q I1 r1 q1) he hpl
end
end L2
namespace HT
open PySem PyProof.Rows
section
open PySem.SeqAt
open PySem.AutoSeq1 (wpAny_loadPart')
open PySem.MeetsSeq PySem.MeetsSeq2 PySem.MeetsSeq3
end
section
variable {prog:Program} {w:World} {A:Around} {E:Value→Shared→Prop} {s:Shared}
def sIx (n d:Nat):Option Int→Nat
 | none=>d
 | some v=>if v < 0 then (v+(n:Int)).toNat else min v.toNat n
theorem sIx_nat (n d k:Nat):sIx n d (some (k:Int))=min k n:=by
 show (if (k:Int) < 0 then ((k:Int)+(n:Int)).toNat else min (k:Int).toNat n)=min k n
 rw [if_neg (by omega),Int.toNat_natCast]
end
end HT
namespace L2
open PySem PySem.Spec PyProof.Rows
abbrev TO:=St→Hp→(Option Int→Hp→Prop)→Prop
def PO (X:Cx) (e:Option Expr) (t:TO):Prop:=
 ∀ (pins:List (Addr × Obj)) (s:Shared) (σ:St) (H:Hp) (Q:Option Int→Hp→Prop),Inv X pins σ H s→t σ H Q→
  wpAny (model X.prog X.w) X.A (evalPart e X.env) (fun u s'=>∃ o H',Inv X pins σ H' s'∧IsPart u o∧Q o H') X.xe s
def j9:TO:=fun _ H Q=>Q none H
def tPart (t:TE):TO:=fun σ H Q=>t σ H fun x H1=>∃ i,x=.int i∧Q (some i) H1
theorem oN {ns:List Int}:∀ {us:List Value},Vals (ns.map V.int) us→IntsAre us ns:=by
 induction ns with
 | nil=>intro us r; rw [List.map_nil] at r; cases r; exact .nil
 | cons n ns ih=>
  intro us r
  rw [List.map_cons] at r
  cases r with
  | cons r1 r2=>
   obtain ⟨t,e⟩:=r1
   subst e
   exact .cons n t (ih r2)
section
variable {X:Cx} {e:Expr} {te:TE} {lo hi:Option Expr} {tl th:TO} {pos p2:Pos}
theorem ql:PO X none j9:=by
 intro pins s σ H Q I h
 rw [evalPart_none]
 exact wpAny_pure ⟨none,H,I,.none,h⟩
theorem qm (h:PE X e te):PO X (some e) (tPart te):=by
 intro pins s σ H Q I hw
 rw [evalPart_some]
 refine thn (h pins s σ H _ I hw) fun u s1 ⟨x,H1,I1,r1,q1⟩=>?_
 obtain ⟨i,rfl,q⟩:=q1
 obtain ⟨t,rfl⟩:=r1
 exact ⟨some i,H1,I1,.int i t,q⟩
def SlR (X:Cx) (r:V→Option Int→Option Int→Hp→VK→Prop):Prop:=
 ∀ (pins:List (Addr × Obj)) (s:Shared) (σ:St) (H:Hp) (x:V) (v vl vu:Value) (lo hi:Option Int) (sl:Addr) (Q:VK),Inv X pins σ H s→RelV x v→s.heap.IsSliceOf sl vl vu .none→IsPart vl lo→IsPart vu hi→r x lo hi H Q→
  ∃ T id,typeLookup (.type T) "__getitem__"=pure (some (.builtin id))∧s.TypeIs v T∧wpAny (model X.prog X.w) X.A (getItem v (.ref sl)) (EP X pins σ Q) X.xe s
def tSl (r:V→Option Int→Option Int→Hp→VK→Prop) (te:TE) (tl th:TO):TE:=fun σ H Q=>te σ H fun x H1=>tl σ H1 fun l H2=>th σ H2 fun u H3=>r x l u H3 Q
theorem nF {r:V→Option Int→Option Int→Hp→VK→Prop} (hr:SlR X r) (he:PE X e te) (hl:PO X lo tl) (hu:PO X hi th):PE X (.Subscript e (.Slice lo hi none p2) pos) (tSl r te tl th):=by
 intro pins s σ H Q I h
 refine Subscript_ (thn (he pins s σ H _ I h) fun v s1 ⟨x,H1,I1,r1,q1⟩=>?_)
 refine wpAny_Slice (thn (hl pins s1 σ H1 _ I1 q1) fun vl s2 ⟨l,H2,I2,pl,q2⟩=>thn (hu pins s2 σ H2 _ I2 q2) fun vu s3 ⟨u,H3,I3,pu,q3⟩=>?_)
 rw [evalPart_none]
 refine wpAny_pure ?_
 have I4:Inv X pins σ H3 { s3 with heap:=s3.heap.push { cls:=.type "slice",data:=.fields #[vl,vu,.none] } }:=I3.kept (t':=s3.toks) fun b ob q=>Heap.get?_push_of_some _ q
 obtain ⟨T,id,hT,ht,hg⟩:=hr pins { s3 with heap:=s3.heap.push { cls:=.type "slice",data:=.fields #[vl,vu,.none] } } σ H3 x v vl vu l u s3.heap.objs.size Q I4 r1 (Heap.IsSliceOf.new ..) pl pu q3
 show wpAny (model X.prog X.w) X.A (subscriptTail e (.Slice lo hi none p2) v (.ref s3.heap.objs.size)) (EP X pins σ Q) X.xe { s3 with heap:=s3.heap.push { cls:=.type "slice",data:=.fields #[vl,vu,.none] } }
 exact tail_any (ops:=[.ref s3.heap.objs.size,v]) ht hT hg (by with_unfolding_all rfl)
def cutV (xs:List V) (lo hi:Option Int):List V:=(xs.drop (HT.sIx xs.length 0 lo)).take (HT.sIx xs.length xs.length hi - HT.sIx xs.length 0 lo)
theorem uj (xs:List V) (lo hi:Option Int):(cutV xs lo hi).length≤xs.length:=by
 unfold cutV
 rw [List.length_take,List.length_drop]
 omega
end
end L2
namespace L2
open PySem PySem.Spec PyProof.Rows
def ixN (n:Nat) (i:Int):Option Nat:=if 0≤i then (if i < n then some i.toNat else none) else if -(n:Int)≤i then some (i+n).toNat else none
def atI {α:Type} (xs:List α) (i:Int):Option α:=(ixN xs.length i).bind fun j=>xs[j]?
theorem zd {n:Nat} {i:Int} {j:Nat} (h:ixN n i=some j):seqIndex? i n=some j∧j < n∧ -(n:Int)≤i∧i < n:=by
 unfold ixN at h
 by_cases h0:0≤i
 · rw [if_pos h0] at h
   by_cases h1:i < n
   · rw [if_pos h1] at h
     have e:i.toNat=j:=Option.some.inj h
     exact ⟨by rw [seqIndex_of h0 h1,e],by omega,by omega,h1⟩
   · rw [if_neg h1] at h; cases h
 · rw [if_neg h0] at h
   by_cases h1: -(n:Int)≤i
   · rw [if_pos h1] at h
     have e:(i+n).toNat=j:=Option.some.inj h
     exact ⟨by rw [seqIndex_neg (by omega) h1,e],by omega,h1,by omega⟩
   · rw [if_neg h1] at h; cases h
theorem qo {α:Type} {xs:List α} {i:Int} {v:α} (h:atI xs i=some v):∃ j,seqIndex? i xs.length=some j∧xs[j]? =some v∧j < xs.length∧ -(xs.length:Int)≤i∧i < xs.length:=by
 unfold atI at h
 cases e:ixN xs.length i with
 | none=>rw [e] at h; cases h
 | some j=>
  rw [e] at h
  obtain ⟨h1,h2,h3,h4⟩:=zd e
  exact ⟨j,h1,h,h2,h3,h4⟩
theorem gO {α:Type} {xs:List α} {j:Nat} {v:α} (h:xs[j]? =some v):atI xs (j:Int)=some v:=by
 have hj:j < xs.length:=(List.getElem?_eq_some_iff.mp h).1
 have e:ixN xs.length (j:Int)=some j:=by
  unfold ixN
  rw [if_pos (by omega),if_pos (by omega)]; simp
 unfold atI; rw [e]; exact h
def u0 (b:Expr):Prop:=∀ o i,subscripted b false o i=operate [o,i] (getItem o i)
def IxR (X:Cx) (r:R2):Prop:=
 ∀ (value slice:Expr) (pins:List (Addr × Obj)) (s:Shared) (σ:St) (H:Hp) (x y:V) (v u:Value) (Q:VK),Inv X pins σ H s→RelV x v→RelV y u→r x y H Q→
  subscripted slice false v u=operate [v,u] (getItem v u)→wpAny (model X.prog X.w) X.A (subscriptTail value slice v u) (EP X pins σ Q) X.xe s
def MtR (X:Cx) (id:String) (r:V→List V→Hp→VK→Prop):Prop:=
 ∀ (pins:List (Addr × Obj)) (s:Shared) (σ:St) (H:Hp) (x:V) (xs:List V) (v:Value) (us:List Value) (Q:VK),Inv X pins σ H s→RelV x v→Vals xs us→r x xs H Q→
  wpAny (model X.prog X.w) X.A (call (.builtin id) (v::us)) (EP X pins σ Q) X.xe s
section
variable {X:Cx} {a b:Expr} {ta tb:TE} {pos:Pos}
theorem aj {r:R2} (hr:IxR X r) (ha:PE X a ta) (hb:PE X b tb) (hs:u0 b):PE X (.Subscript a b pos) (tOp r ta tb):=by
 intro pins s σ H Q I h
 exact Subscript_ (binT ha hb I h fun v u s2 x y H2 I2 rx ry q=>hr a b pins s2 σ H2 x y v u Q I2 rx ry q (hs _ _))
def rIxL (K:PySem.W.Frag):R2:=fun x y H Q=>∃ p xs i v,x=.ref p∧y=.int i∧SqL K H p xs∧atI xs i=some v∧Q v H
def rIxT (K:PySem.W.Frag):R2:=fun x y H Q=>∃ p xs i v,x=.ref p∧y=.int i∧SqT K H p xs∧atI xs i=some v∧Q v H
def rIxS:R2:=fun x y H Q=>∃ z i c,x=.str z∧y=.int i∧z.length≤sizeLine∧atI z.cps.toList i=some c∧Q (.str ⟨#[c]⟩) H
theorem u1:IxR X (rIxL X.K):=by
 intro value slice pins s σ H x y v u Q I rx ry h hs
 obtain ⟨p,xs,i,z,rfl,rfl,hq,he,q⟩:=h
 cases rx
 obtain ⟨t,rfl⟩:=ry
 obtain ⟨its,r,pl,hz⟩:=I.list hq
 obtain ⟨j,h1,h2,h3,h4,h5⟩:=qo he
 obtain ⟨w,ew,rw'⟩:=r.get h2
 have hl:=r.length
 have hn:=lT
 have fin:EP X pins σ Q w s:=⟨z,H,I,rw',q⟩
 by_cases h0:0≤i
 · have hj:i.toNat=j:=by
    rw [seqIndex_of h0 h5] at h1
    exact Option.some.inj h1
   exact item_listR pl.isList h0 (by omega) (by rw [hj]; simpa using ew) fin hs
 · have hj:(i+(its.toArray.size:Int)).toNat=j:=by
    rw [seqIndex_neg (by omega) h4] at h1
    rw [List.size_toArray,← hl]
    exact Option.some.inj h1
   exact subscriptTail_builtinR (x:=w) pl.isList.typeIs slot_list_getitem.lookup
    (wpAny_getItem_list_neg (Q:=fun r s'=>r=w∧EP X pins σ Q r s') pl.isList (by omega) (by rw [List.size_toArray] <;> omega) (by omega) (by rw [hj]; simpa using ew) ⟨rfl,fin⟩) hs
theorem zY:IxR X (rIxT X.K):=by
 intro value slice pins s σ H x y v u Q I rx ry h hs
 obtain ⟨p,xs,i,z,rfl,rfl,hq,he,q⟩:=h
 cases rx
 obtain ⟨t,rfl⟩:=ry
 obtain ⟨its,r,pl,hz⟩:=I.tuple hq
 obtain ⟨j,h1,h2,h3,h4,h5⟩:=qo he
 obtain ⟨w,ew,rw'⟩:=r.get h2
 have hl:=r.length
 have hn:=lT
 have fin:EP X pins σ Q w s:=⟨z,H,I,rw',q⟩
 exact subscriptTail_builtinR (x:=w) pl.typeIs slot_tuple_getitem.lookup
  (getItem_tuple (j:=j) (Q:=fun r s'=>r=w∧EP X pins σ Q r s') pl (by omega) (by omega) (by rw [List.size_toArray,← hl]; exact h1) (by simpa using ew) ⟨rfl,fin⟩) hs
theorem zZ:IxR X rIxS:=by
 intro value slice pins s σ H x y v u Q I rx ry h hs
 obtain ⟨z,i,c,rfl,rfl,hz,he,q⟩:=h
 obtain ⟨t,rfl⟩:=rx
 obtain ⟨t',rfl⟩:=ry
 obtain ⟨j,h1,h2,h3,h4,h5⟩:=qo he
 have hl:z.cps.toList.length=z.length:=by simp [Str.length]
 rw [hl] at h1 h4 h5
 have hn:=lT
 exact tail_any (typeIs_str s z t) slot_str_getitem.lookup (getItem_str (c:=c) (by
  have e1:decide (i < -(2^63:Int))=false:=decide_eq_false (by omega)
  have e2:decide (i ≥ 2^63)=false:=decide_eq_false (by omega)
  rw [e1,e2,Bool.or_false]) (by rw [h1]; simpa using h2) ⟨.str ⟨#[c]⟩,H,I.tok _,⟨_,rfl⟩,q⟩) hs
theorem Inv.lst {pins:List (Addr × Obj)} {σ:St} {H:Hp} {s:Shared} {p:Addr} {xs:List V} (I:Inv X pins σ H s) (h:H p=some (.lst xs)):
  ∃ (its:List Value) (n:Nat),Vals xs its∧s.heap.get? p=some { cls:=.type "list",data:=.seq its.toArray n }∧xs.length≤sizeLine:=by
 obtain ⟨z,its,n,r,e⟩:=I.hok p _ h
 exact ⟨its,n,r,e,z⟩
theorem sd (lo hi:Option Int) (n:Nat):(sliceBounds lo hi none n).1=((HT.sIx n 0 lo:Nat):Int)∧(sliceBounds lo hi none n).2.1=((HT.sIx n n hi:Nat):Int)∧(sliceBounds lo hi none n).2.2=1:=by
 refine ⟨?_,?_,rfl⟩
 · cases lo with
   | none=>simp [sliceBounds,HT.sIx]
   | some i=>
    simp only [sliceBounds,HT.sIx,Option.getD_none,show (1:Int) > 0 by decide,if_true]
    by_cases h:i < 0
    · simp only [h,if_true] <;> omega
    · simp only [h,if_false] <;> omega
 · cases hi with
   | none=>simp [sliceBounds,HT.sIx]
   | some i=>
    simp only [sliceBounds,HT.sIx,Option.getD_none,show (1:Int) > 0 by decide,if_true]
    by_cases h:i < 0
    · simp only [h,if_true] <;> omega
    · simp only [h,if_false] <;> omega
theorem ra (its:List Value) (lo hi:Option Int):slicePick its.toArray lo hi none=((its.drop (HT.sIx its.length 0 lo)).take (HT.sIx its.length its.length hi - HT.sIx its.length 0 lo)).toArray:=by
 obtain ⟨h1,h2,h3⟩:=sd lo hi its.toArray.size
 unfold slicePick
 rw [h1,h2,h3]
 simp only [sliceRange_one,pick_run,List.size_toArray] <;> rfl
def rSlL (K:PySem.W.Frag):V→Option Int→Option Int→Hp→VK→Prop:=fun x lo hi H Q=>∃ a xs,x=.ref a∧SqL K H a xs∧∀ p,H p=none→Q (.ref p) (upd H p (.lst (cutV xs lo hi)))
theorem ze:SlR X (rSlL X.K):=by
 intro pins s σ H x v vl vu lo hi sl Q I rx hs pl pu h
 obtain ⟨a,xs,rfl,hx,q⟩:=h
 cases rx
 obtain ⟨its,r,ht,hz⟩:=I.list hx
 have hlen:=r.length
 refine ⟨"list",_,slot_list_getitem.lookup,ht.isList.typeIs,?_⟩
 refine wpAny_getItem_list_slice ht.isList hs pl pu .none (by simp) ?_ (by rw [List.size_toArray] <;> omega)
 rw [ra,← hlen]
 refine ⟨.ref s.heap.objs.size,_,I.laid (t':=s.toks) (o:=.lst (cutV xs lo hi)) (fun b ob q=>Heap.get?_push_of_some _ q) (Nat.le_refl _) ?_,rfl,q _ (I.hok.fresh (Nat.le_refl _))⟩
 exact ⟨Nat.le_trans (uj xs lo hi) hz,_,0,(r.drop (HT.sIx xs.length 0 lo)).take (HT.sIx xs.length xs.length hi - HT.sIx xs.length 0 lo),Heap.get?_push_size _ rfl⟩
def flatV:V→Bool
 | .non=>true
 | .bl _=>true
 | .int _=>true
 | .str _=>true
 | _=>false
def eqV:V→V→Bool
 | .non,.non=>true
 | .bl a,.bl b=>a==b
 | .bl a,.int b=>(if a then 1 else 0)==b
 | .int a,.bl b=>a==(if b then 1 else 0)
 | .int a,.int b=>a==b
 | .str a,.str b=>a==b
 | _,_=>false
theorem z3 {A:Around} {s:Shared} {y x:V} {u v:Value} (ry:RelV y u) (rx:RelV x v) (fy:flatV y=true) (fx:flatV x=true):SeqAt.EqAt A s u v (eqV y x):=by
 cases y with
 | non=>
  cases ry
  cases x with
  | non=>cases rx; exact SeqAt.EqAt.same _
  | bl b=>cases rx; exact SeqAt.EqAt.none_bool b
  | int b=>obtain ⟨t,rfl⟩:=rx; exact SeqAt.EqAt.none_int b t
  | str b=>obtain ⟨t,rfl⟩:=rx; exact SeqAt.EqAt.none_str b t
  | _=>exact absurd (show false=true from fx) Bool.false_ne_true
 | bl a=>
  cases ry
  cases x with
  | non=>cases rx; exact SeqAt.EqAt.bool_none a
  | bl b=>cases rx; exact SeqAt.EqAt.bool_bool a b
  | int b=>obtain ⟨t,rfl⟩:=rx; exact SeqAt.EqAt.bool_int a b t
  | str b=>obtain ⟨t,rfl⟩:=rx; exact SeqAt.EqAt.bool_str a b t
  | _=>exact absurd (show false=true from fx) Bool.false_ne_true
 | int a=>
  obtain ⟨t',rfl⟩:=ry
  cases x with
  | non=>cases rx; exact SeqAt.EqAt.int_none a t'
  | bl b=>cases rx; exact SeqAt.EqAt.int_bool a t' b
  | int b=>obtain ⟨t,rfl⟩:=rx; exact SeqAt.EqAt.int_int a t' b t
  | str b=>obtain ⟨t,rfl⟩:=rx; exact SeqAt.EqAt.int_str a t' b t
  | _=>exact absurd (show false=true from fx) Bool.false_ne_true
 | str a=>
  obtain ⟨t',rfl⟩:=ry
  cases x with
  | non=>cases rx; exact SeqAt.EqAt.str_none a t'
  | bl b=>cases rx; exact SeqAt.EqAt.str_bool a t' b
  | int b=>obtain ⟨t,rfl⟩:=rx; exact SeqAt.EqAt.str_int a t' b t
  | str b=>obtain ⟨t,rfl⟩:=rx; exact SeqAt.EqAt.str_str a t' b t
  | _=>exact absurd (show false=true from fx) Bool.false_ne_true
 | _=>exact absurd (show false=true from fy) Bool.false_ne_true
def eqU (x:V) (u:Value):Bool:=match u with
 | .none=>eqV .non x
 | .bool b=>eqV (.bl b) x
 | .int i _=>eqV (.int i) x
 | .str z _=>eqV (.str z) x
 | _=>false
theorem wV {x y:V} {u:Value} (r:RelV y u) (f:flatV y=true):eqU x u=eqV y x:=by
 cases y with
 | non=>cases r; rfl
 | bl b=>cases r; rfl
 | int i=>obtain ⟨t,rfl⟩:=r; rfl
 | str z=>obtain ⟨t,rfl⟩:=r; rfl
 | _=>exact absurd (show false=true from f) Bool.false_ne_true
theorem kQ {x:V}:∀ {xs:List V} {us:List Value},Vals xs us→xs.all flatV=true→us.any (eqU x)=xs.any fun y=>eqV y x
 | _,_,.nil,_=>rfl
 | y::xs,u::us,.cons r t,f=>by
  rw [List.all_cons,Bool.and_eq_true] at f
  rw [List.any_cons,List.any_cons,wV r f.1,kQ t f.2]
theorem kf {A:Around} {s:Shared} {x:V} {v:Value} (rx:RelV x v) (fx:flatV x=true):∀ {xs:List V} {us:List Value},Vals xs us→xs.all flatV=true→∀ u∈us,SeqAt.EqAt A s u v (eqU x u)
 | _,_,.nil,_=>fun u hu=>by cases hu
 | y::xs,u::us,.cons r t,f=>fun u' hu=>by
  rw [List.all_cons,Bool.and_eq_true] at f
  rcases List.mem_cons.mp hu with rfl | hu
  · rw [wV r f.1]; exact z3 r rx f.1 fx
  · exact kf rx fx t f.2 u' hu
def inV (x:V) (xs:List V):Bool:=xs.any fun y=>eqV y x
def rIn (K:PySem.W.Frag) (neg:Bool):R2:=fun x y H Q=>∃ p xs,y=.ref p∧(SqL K H p xs∨SqT K H p xs)∧flatV x=true∧xs.all flatV=true∧Q (.bl (if neg then !inV x xs else inV x xs)) H
theorem lW:OpR X (compareOp .In) (rIn X.K false):=by
 intro pins s σ H x y v u Q I rx ry h
 obtain ⟨p,xs,rfl,hq,fx,fs,q⟩:=h
 cases ry
 rcases hq with hq | hq
 · obtain ⟨its,r,pl,hz⟩:=I.list hq
   refine SeqAt.in_listAt (eqU x) pl.isList (fun w hw=>kf rx fx r fs w (by simpa using hw)) ⟨.bl _,H,I,rfl,?_⟩
   rw [show its.toArray.any (eqU x)=its.any (eqU x) by simp,kQ r fs]
   exact q
 · obtain ⟨its,r,pl,hz⟩:=I.tuple hq
   refine SeqAt.in_tupleAt (eqU x) pl (fun w hw=>kf rx fx r fs w (by simpa using hw)) ⟨.bl _,H,I,rfl,?_⟩
   rw [show its.toArray.any (eqU x)=its.any (eqU x) by simp,kQ r fs]
   exact q
theorem lX:OpR X (compareOp .NotIn) (rIn X.K true):=by
 intro pins s σ H x y v u Q I rx ry h
 obtain ⟨p,xs,rfl,hq,fx,fs,q⟩:=h
 cases ry
 rcases hq with hq | hq
 · obtain ⟨its,r,pl,hz⟩:=I.list hq
   refine SeqAt.notIn_listAt (eqU x) pl.isList (fun w hw=>kf rx fx r fs w (by simpa using hw)) ⟨.bl _,H,I,rfl,?_⟩
   rw [show its.toArray.any (eqU x)=its.any (eqU x) by simp,kQ r fs]
   exact q
 · obtain ⟨its,r,pl,hz⟩:=I.tuple hq
   refine SeqAt.notIn_tupleAt (eqU x) pl (fun w hw=>kf rx fx r fs w (by simpa using hw)) ⟨.bl _,H,I,rfl,?_⟩
   rw [show its.toArray.any (eqU x)=its.any (eqU x) by simp,kQ r fs]
   exact q
theorem se:OpR X (compareOp .NotIn) (fun x y H Q=>∃ i j,x=.str i∧y=.str j∧Q (.bl (!(!(Builtin.Str.occurrences j i 0 j.length 1).isEmpty))) H):=by
 intro pins s σ H x y v u Q I rx ry h
 obtain ⟨i,j,rfl,rfl,q⟩:=h
 obtain ⟨t,rfl⟩:=rx
 obtain ⟨t',rfl⟩:=ry
 exact notIn_str ⟨.bl _,H,I,rfl,q⟩
theorem io:CallR X (.builtin "len") (fun xs H Q=>∃ p ys,xs=[.ref p]∧(SqL X.K H p ys∨SqT X.K H p ys)∧Q (.int ys.length) H):=by
 intro pins s σ H xs us Q I r h
 obtain ⟨p,ys,rfl,hq,q⟩:=h
 obtain ⟨u,rfl,rx⟩:=fX r
 cases rx
 have hn:=lT
 rcases hq with hq | hq
 · obtain ⟨its,r',pl,hz⟩:=I.list hq
   have hlen:=r'.length
   exact Calls.call_len_list pl.isList (by simp only [List.size_toArray] <;> omega) ⟨.int ys.length,H,I.tok _,⟨s.toks+1,by rw [List.size_toArray,hlen]⟩,q⟩
 · obtain ⟨its,r',pl,hz⟩:=I.tuple hq
   have hlen:=r'.length
   exact len_tuple pl (by simp only [List.size_toArray] <;> omega) ⟨.int ys.length,H,I.tok _,⟨s.toks+1,by rw [List.size_toArray,hlen]⟩,q⟩
theorem sf:CallR X (.builtin "len") (fun xs H Q=>∃ z,xs=[.str z]∧z.length≤sizeLine∧Q (.int z.length) H):=by
 intro pins s σ H xs us Q I r h
 obtain ⟨z,rfl,hz,q⟩:=h
 obtain ⟨u,rfl,t,rfl⟩:=fX r
 have hn:=lT
 exact len_str (by omega) ⟨.int z.length,H,I.tok _,⟨_,rfl⟩,q⟩
theorem sh:CallR X (.type "list") (fun xs H Q=>∃ p ys,xs=[.ref p]∧(SqL X.K H p ys∨SqT X.K H p ys)∧∀ l,H l=none→Q (.ref l) (upd H l (.lst ys))):=by
 intro pins s σ H xs us Q I r h
 obtain ⟨p,ys,rfl,hq,q⟩:=h
 obtain ⟨u,rfl,rx⟩:=fX r
 cases rx
 have fin:∀ (its:List Value),Vals ys its→ys.length≤sizeLine→∀ (h':Heap) (c':Nat),(∀ b o',s.heap.get? b=some o'→h'.get? b=some o')→
   h'.get? s.heap.objs.size=some { cls:=.type "list",dict:=none,data:=.seq its.toArray c',slots:=#[] }→EP X pins σ Q (.ref s.heap.objs.size) { s with heap:=h' }:=fun its r' hz h' c' kp e=>
  ⟨.ref s.heap.objs.size,_,I.laid (t':=s.toks) kp (Nat.le_refl _) (show ObjOk X.prog X.w _ h' _ (.lst ys) from ⟨hz,its,c',r',e⟩),rfl,q _ (I.hok.fresh (Nat.le_refl _))⟩
 rcases hq with hq | hq
 · obtain ⟨its,r',pl,hz⟩:=I.list hq
   have hlen:=r'.length
   obtain ⟨o,ho,hc,n,hd⟩:=pl.isList
   exact call_list_seq p (.inl rfl) ho hc hd (fun h' c' kp e=>fin its r' hz h' c' kp e) (by simp only [List.size_toArray] <;> omega)
 · obtain ⟨its,r',pl,hz⟩:=I.tuple hq
   have hlen:=r'.length
   obtain ⟨o,ho,hc,n,hd⟩:=pl
   exact call_list_seq p (.inr rfl) ho hc hd (fun h' c' kp e=>fin its r' hz h' c' kp e) (by simp only [List.size_toArray] <;> omega)
theorem rb:CallR X (.type "tuple") (fun xs H Q=>∃ p ys,xs=[.ref p]∧((SqL X.K H p ys∧∀ l,H l=none→Q (.ref l) (upd H l (.tup ys)))∨(SqT X.K H p ys∧Q (.ref p) H))):=by
 intro pins s σ H xs us Q I r h
 obtain ⟨p,ys,rfl,h⟩:=h
 obtain ⟨u,rfl,rx⟩:=fX r
 cases rx
 rcases h with ⟨hq,q⟩ | ⟨hq,q⟩
 · obtain ⟨its,r',pl,hz⟩:=I.list hq
   have hlen:=r'.length
   refine call_tuple_list pl.isList (fun h' kp=>?_) (by simp only [List.size_toArray] <;> omega)
   have I1:Inv X pins σ H { s with heap:=h' }:=I.kept (t':=s.toks) kp
   have I2:Inv X pins σ (upd H h'.objs.size (.tup ys)) { s with heap:=h'.push { cls:=.type "tuple",data:=.seq its.toArray } }:=
    I1.laid (t':=s.toks) (fun b o e=>Heap.get?_push_of_some _ e) (Nat.le_refl _) (show ObjOk X.prog X.w _ _ _ (.tup ys) from ⟨hz,its,r',IsTup.new _ _⟩)
   exact ⟨.ref h'.objs.size,_,I2,rfl,q _ (I1.hok.fresh (Nat.le_refl _))⟩
 · obtain ⟨its,r',pl,hz⟩:=I.tuple hq
   exact call_tuple_same pl ⟨.ref p,H,I,rfl,q⟩
def tyV (K:PySem.W.Frag) (T:String) (x:V) (H:Hp):Prop:=match x with
 | .str _=>T="str"
 | .int _=>T="int"
 | .ref p=>(T="list"∧∃ xs,SqL K H p xs)∨(T="tuple"∧∃ o,K.lookup p=some o∧o.cls=.type "tuple"∧o.dict=none)∨
   (T="dict"∧((∃ kvs,H p=some (.dK kvs))∨∃ kvs,H p=some (.dT kvs)))∨(T="set"∧∃ S n,H p=some (.set S n))
 | _=>False
theorem wW {pins:List (Addr × Obj)} {σ:St} {H:Hp} {s:Shared} {T:String} {x:V} {v:Value} (I:Inv X pins σ H s) (r:RelV x v) (ty:tyV X.K T x H):
  s.TypeIs v T∧∀ a,v=.ref a→∃ ob,s.heap.get? a=some ob∧ob.dict=none:=by
 cases x with
 | str z=>
  obtain ⟨t,rfl⟩:=r
  cases (show T="str" from ty)
  exact ⟨typeIs_str s z t,fun _ e=>nomatch e⟩
 | int i=>
  obtain ⟨t,rfl⟩:=r
  cases (show T="int" from ty)
  exact ⟨typeIs_int s i t,fun _ e=>nomatch e⟩
 | ref p=>
  cases r
  rcases ty with ⟨rfl,xs,hq⟩ | ⟨rfl,o,hk,hc,hd⟩ | ⟨rfl,hk⟩ | ⟨rfl,S,n,hk⟩
  · obtain ⟨its,_,pl,_⟩:=I.list hq
    refine ⟨pl.isList.typeIs,fun a e=>?_⟩
    cases e
    obtain ⟨o,n,e,c,hd,_⟩:=pl
    exact ⟨o,e,hd⟩
  · refine ⟨⟨o,I.kIn p o hk,hc⟩,fun a e=>?_⟩
    cases e
    exact ⟨o,I.kIn _ o hk,hd⟩
  · have z:∃ o,s.heap.get? p=some o∧o.ExactDict:=by
     rcases hk with ⟨kvs,hk⟩ | ⟨kvs,hk⟩
     · obtain ⟨_,_,_,_,o,_,_,e,ex,_⟩:=I.hok p _ hk
       exact ⟨o,e,ex⟩
     · obtain ⟨_,_,_,_,o,_,_,e,ex,_⟩:=I.hok p _ hk
       exact ⟨o,e,ex⟩
    obtain ⟨o,e,ex⟩:=z
    refine ⟨⟨o,e,ex.1⟩,fun a e2=>?_⟩
    cases e2
    exact ⟨o,e,ex.2.1⟩
  · obtain ⟨o,_,_,_,e,ex,_⟩:=I.hok p _ hk
    refine ⟨⟨o,e,ex.1⟩,fun a e2=>?_⟩
    cases e2
    exact ⟨o,e,ex.2.1⟩
 | _=>exact False.elim ty
def vB (K:PySem.W.Frag) (T:String) (r:V→List V→Hp→VK→Prop) (to:TE):TE:=fun σ H Q=>to σ H fun x H1=>tyV K T x H1∧r x [] H1 Q
def tBM (K:PySem.W.Frag) (T:String) (r:V→List V→Hp→VK→Prop) (to:TE) (t:TA):TE:=fun σ H Q=>to σ H fun x H1=>tyV K T x H1∧t σ H1 fun xs H2=>r x xs H2 Q
variable {o e:Expr} {es:List Expr} {to:TE} {t:TA} {name:Str} {apos cpos:Pos} {T id:String} {r:V→List V→Hp→VK→Prop}
theorem wX (pa:PlainAttrs T) (slot:Slot T name id) (hty:typeOf (.builtin id)=pure (.type "method_descriptor")) (hm:MtR X id r) (ho:PE X o to)
  (hbase:attributeBase o name X.env (eval o X.env)=eval o X.env:=by rfl) (hline:(apos.endLine==cpos.line)=true:=by rfl):PE X (.Call (.Attribute o name apos) [] [] cpos) (vB X.K T r to):=by
 intro pins s σ H Q I h
 refine wpAny_Call_method0_late hbase hline (thn (ho pins s σ H _ I h) fun v s1 ⟨x,H1,I1,r1,ty,q1⟩=>?_)
 obtain ⟨h1,h2⟩:=wW I1 r1 ty
 exact ⟨T,id,pa,slot,hty,h1,h2,Calls.callWith_builtin rfl (PySem.evalArgs_none (hm pins s1 σ H1 x [] v [] Q I1 r1 .nil q1))⟩
theorem cz (pa:PlainAttrs T) (slot:Slot T name id) (hty:typeOf (.builtin id)=pure (.type "method_descriptor")) (hm:MtR X id r) (ho:PE X o to) (ha:PA X (e::es) t)
  (hbase:attributeBase o name X.env (eval o X.env)=eval o X.env:=by rfl)
  (hfew:((backTo cpos (starEach (e::es) X.env)).all (fun x=>!x.1)&&(backToKw cpos (keywordEach [] X.env)).all (fun x=>x.1.isSome)
   &&decide ((e::es).length+([]:List Keyword).length+(if ([]:List Keyword).isEmpty then 0 else 1) < 30))=true:=by rfl)
  (hline:(apos.endLine==cpos.line)=true:=by rfl) (hs:starEach (e::es) X.env=(false,eval e X.env)::starEach es X.env:=by rfl) (hplain:(backTo cpos (starEach es X.env)).any (·.1)=false:=by rfl):
  PE X (.Call (.Attribute o name apos) (e::es) [] cpos) (tBM X.K T r to t):=by
 intro pins s σ H Q I h
 refine wpAny_Call_method_late hbase hfew hline rfl (thn (ho pins s σ H _ I h) fun v s1 ⟨x,H1,I1,r1,ty,q1⟩=>?_)
 obtain ⟨h1,h2⟩:=wW I1 r1 ty
 refine ⟨T,id,pa,slot,hty,h1,h2,?_⟩
 have hA:=ha cpos pins s1 σ H1 _ I1 q1
 rw [hs] at hA ⊢
 refine Calls.callWith_builtin (by show (false||(backTo cpos (starEach es X.env)).any (·.1))=false; rw [hplain] <;> rfl) (Calls.evalArgs_plain ?_)
 exact thn hA fun us s2 ⟨vs,H2,I2,r2,q2⟩=>hm pins s2 σ H2 x vs v us Q I2 r1 r2 q2
end
end L2
namespace L2
open PySem PySem.Spec PyProof.Rows
def MtM (X:Cx) (id:String) (r:V→List V→Hp→VK→Prop):Prop:=
 ∀ (pins:List (Addr × Obj)) (s:Shared) (σ:St) (H:Hp) (x:V) (xs:List V) (v:Value) (us:List Value) (Q:VK),Inv X pins σ H s→RelV x v→Vals xs us→r x xs H Q→
  wpAny (model X.prog X.w) X.A (call (.builtin id) (v::us)) (EP X pins σ Q) X.xe s
theorem Vals.one:∀ {x:V} {us:List Value},Vals [x] us→∃ u,us=[u]∧RelV x u
 | _,_,.cons r .nil=>⟨_,rfl,r⟩
theorem Vals.eraseIdx:∀ {xs:List V} {us:List Value} (i:Nat),Vals xs us→Vals (xs.eraseIdx i) (us.eraseIdx i)
 | _,_,_,.nil=>.nil
 | _,_,0,.cons _ t=>t
 | _,_,i+1,.cons r t=>.cons r (Vals.eraseIdx i t)
theorem qM {α:Type}:∀ (l:List α) (i:Nat),(l.eraseIdx i).length≤l.length
 | [],_=>Nat.le_refl _
 | _::_,0=>Nat.le_succ _
 | _::r,i+1=>Nat.succ_le_succ (qM r i)
section
variable {X:Cx} {pins:List (Addr × Obj)} {σ:St} {H:Hp} {s:Shared} {l b:Addr} {xs ys zs:List V}
theorem Inv.lset {its its':List Value} {n:Nat} {f:Array Value→Array Value} {t':Nat} (I:Inv X pins σ H s) (hH:H l=some (.lst xs))
  (e:s.heap.get? l=some { cls:=.type "list",data:=.seq its.toArray n }) (hf:f its.toArray=its'.toArray) (hv:Vals ys its') (hz:ys.length≤sizeLine):
  Inv X pins σ (upd H l (.lst ys)) { s with heap:=s.heap.update l (Obj.mapSeq f),toks:=t' }:=by
 have q:=PySem.IsL.update e f
 rw [hf] at q
 refine I.write (x:=l) (e:=l) (by rw [hH]; exact trivial) (.inl rfl) (fun b' u hb hu=>(Heap.get?_update_other s.heap (Obj.mapSeq f) (Ne.symm hb)).trans hu) ⟨_,q⟩ ?_
 exact ⟨hz,its',_,hv,q⟩
theorem Inv.lnew {its:List Value} {t':Nat} (I:Inv X pins σ H s) (hv:Vals ys its) (hz:ys.length≤sizeLine):
  Inv X pins σ (upd H s.heap.objs.size (.lst ys)) { s with heap:=s.heap.push { cls:=.type "list",data:=.seq its.toArray },toks:=t' }:=
 I.laid (fun _ _ q=>Heap.get?_push_of_some _ q) (Nat.le_refl _) ⟨hz,its,0,hv,Heap.get?_push_size _ rfl⟩
theorem Inv.fresh (I:Inv X pins σ H s):H s.heap.objs.size=none:=I.hok.fresh (Nat.le_refl _)
theorem Inv.lstM (I:Inv X pins σ H s) (hH:H l=some (.lst xs)):xs.length≤sizeLine∧∃ (its:List Value) (n:Nat),Vals xs its∧xs.length=its.length∧s.heap.get? l=some { cls:=.type "list",data:=.seq its.toArray n }:=by
 obtain ⟨z,its,n,r,e⟩:=I.hok l _ hH
 exact ⟨z,its,n,r,r.length,e⟩
end
section
variable {X:Cx}
def zf:V→List V→Hp→VK→Prop:=fun x vs H Q=>∃ l xs y,x=.ref l∧vs=[y]∧H l=some (.lst xs)∧xs.length < sizeLine∧Q .non (upd H l (.lst (xs++[y])))
theorem qN:MtM X "list.append" zf:=by
 intro pins s σ H x vs v us Q I rx rv h
 obtain ⟨l,xs,y,rfl,rfl,hH,hz,q⟩:=h
 cases rx
 obtain ⟨u,rfl,ru⟩:=rv.one
 obtain ⟨z,its,n,r,hl,e⟩:=I.lstM hH
 refine call_meets F.slot_list_append ⟨_,e,rfl⟩ F.entry_list_append (F.args_list_append_2 _ _) (PySem.list_append l its.toArray n u (by rw [List.size_toArray]; omega)) ⟨e,?_⟩
 refine ⟨.non,_,I.lset (its':=its++[u]) hH e (by simp) (r.append (.cons ru .nil)) ?_,rfl,q⟩
 rw [List.length_append,List.length_singleton]
 omega
def z4:V→List V→Hp→VK→Prop:=fun x vs H Q=>∃ l xs i k y,x=.ref l∧vs=[.int i]∧H l=some (.lst xs)∧ -(2^63)≤i∧i < 2^63∧seqIndex? i xs.length=some k∧xs[k]? =some y∧Q y (upd H l (.lst (xs.eraseIdx k)))
theorem yp:MtM X "list.pop" z4:=by
 intro pins s σ H x vs v us Q I rx rv h
 obtain ⟨l,xs,i,k,y,rfl,rfl,hH,h1,h2,hk,hy,q⟩:=h
 cases rx
 obtain ⟨u,rfl,ru⟩:=rv.one
 obtain ⟨t,rfl⟩:=ru
 obtain ⟨z,its,n,r,hl,e⟩:=I.lstM hH
 obtain ⟨w,hw,rw'⟩:=r.get hy
 refine call_meets F.slot_list_pop ⟨_,e,rfl⟩ F.entry_list_pop (F.args_list_pop_2 _ _)
  (MeetsSeq.list_pop_at l its.toArray n i t k w (fitsIndex_both h1 h2) (by rw [List.size_toArray,← hl]; exact hk) (by rw [← Array.getElem?_toList]; exact hw) (by rw [List.size_toArray]; omega)) ⟨e,?_⟩
 refine ⟨y,_,I.lset (its':=its.eraseIdx k) hH e ?_ (r.eraseIdx k) ?_,rw',q⟩
 · show its.toArray.eraseIdxIfInBounds k=(its.eraseIdx k).toArray
   rw [List.eraseIdxIfInBounds_toArray]
 · have:=qM xs k
   omega
def rCat:R2:=fun x y H Q=>∃ l b xs zs,x=.ref l∧y=.ref b∧H l=some (.lst xs)∧H b=some (.lst zs)∧xs.length+zs.length≤sizeLine∧∀ p,H p=none→Q (.ref p) (upd H p (.lst (xs++zs)))
theorem z5:OpR X (binaryOp .Add) rCat:=by
 intro pins s σ H x y v u Q I rx ry h
 obtain ⟨l,b,xs,zs,rfl,rfl,hH,hB,hz,q⟩:=h
 cases rx
 cases ry
 obtain ⟨z,its,n,r,hl,e⟩:=I.lstM hH
 obtain ⟨z2,its2,n2,r2,hl2,e2⟩:=I.lstM hB
 refine PySem.P.add_list e e2 ?_ (by rw [List.size_toArray,List.size_toArray]; omega)
 have ea:its.toArray++its2.toArray=(its++its2).toArray:=by simp
 rw [ea]
 exact ⟨.ref _,_,I.lnew (t':=s.toks) (r.append r2) (by rw [List.length_append]; omega),rfl,q _ I.fresh⟩
end
end L2
namespace Att
open PySem PySem.W PySem.Calls PyProof.Rows
theorem ints_of_wellAll {P:Params} {h:Heap}:∀ (ns:List Int) (vs:List Value),WellAll P h vs (ns.map WData.int)→IntsAre vs ns:=by
 intro ns
 induction ns with
 | nil=>
  intro vs w
  rw [List.map_nil] at w
  cases w
  exact .nil
 | cons n ns ih=>
  intro vs w
  rw [List.map_cons] at w
  cases w with
  | cons a b=>
   cases a
   exact .cons _ _ (ih _ b)
theorem script_of {l:OpenLaw} {n:Nat} (hn:l.most=some n) {P:Params} {h:Heap} {args:List WData} {vals:List Value}
  (hpre:l.row.toRowW.claim.pre args=true) (hwl:WellAll P h vals args):
  ∃ a vs ns,vals=[Value.ref a]∧args=[WData.list (ns.map WData.int)]∧h.get? a=some { cls:=.type "list",data:=.seq vs.toArray }∧IntsAre vs ns∧ns.length≤n:=by
 have hsh:WShape.hasAll [] args [.list .int]=true:=(pre_splitW hpre).1
 have hc:l.pre.holds [] { args:=args }=true:=(pre_splitW hpre).2
 obtain ⟨d,r,rfl,h1,h2⟩:=hasAllW_cons hsh
 obtain rfl:=hasAllW_nil h2
 obtain ⟨xs,rfl,h3⟩:=hasW_list h1
 obtain ⟨ns,rfl⟩:=items_int h3
 have hlen:ns.length≤n:=by
  unfold OpenLaw.pre at hc
  have h4:(WTm.not (.lt (.lit (.int (n:Int))) (.len (.arg 0)))).holds [] { args:=[.list (ns.map .int)] }=true:=by
   have h4:=(holds_andW hc).1
   rw [hn] at h4
   exact h4
  have h5:=condW_of h4 (w_not (w_lt w_lit (w_len_list (w_arg rfl))))
  rw [List.length_map] at h5
  refine Nat.le_of_not_lt fun q=>?_
  have q':(n:Int) < ((ns.length:Nat):Int):=by omega
  first
   | (rw [decide_eq_true q'] at h5; exact absurd h5 (by decide))
   | (simp at h5; omega)
 cases hwl with
 | cons w1 w2=>
  cases w2
  cases w1 with
  | list ho hall=>exact ⟨_,_,ns,rfl,rfl,ho,ints_of_wellAll ns _ hall,hlen⟩
theorem post_true (l:OpenLaw) (args:List WData):l.row.toRowW.claim.post args (.bool true) args=true:=
 postW_of (r:=l.row.toRowW) (X:=(true==true))
  (show WShape.has [] (.bool true) .bool=true by first | rfl | decide | simp [WShape.has,WShape.arms,WShape.armsAll])
  (show (WTm.eq .res (.lit (.bool true))).value [] { args:=args,res:=some (.bool true),after:=args }=some (.bool (true==true)) from w_eq_bool (w_res rfl) w_lit) rfl
theorem attach_call {l:OpenLaw} {n:Nat} {q:Program} {loose:List Str} {XP:(Str→Option Value)→Heap→Prop} {YP:World→Heap→Prop} {d:DefRec}
  (hn:l.most=some n) (hdf:d.params.defaults=[])
  (call:∀ (w:World) (s₀ s₁:Shared) (mg mb:Str→Option Value) (fa:Addr) (o:Obj) (pm cd doc:Value) (a:Addr) (vs:List Value) (ns:List Int),
   Ground q loose [] XP w s₀ mg mb s₁.heap→YP w s₁.heap→
   s₁.heap.get? fa=some o→o.data=.func (docDef d.name d.params d.body d.scope pm cd doc)→s₁.heap.CodeRec cd d.name→mg d.name=some (.ref fa)→
   s₁.heap.get? a=some { cls:=.type "list",data:=.seq vs.toArray }→IntsAre vs ns→ns.length≤n→s₁.gens=#[]→
   codeAny (model l.prog w) callerA (.call (.ref fa) ⟨[.ref a],[]⟩) (fun r s'=>r=.ok (.ret (.bool true))∧OldK s₁.heap s'.heap∧s'.os=s₁.os∧AllBare s'.gens) s₁):
  WalkO q loose XP YP l.row.toRowW d [] (fun f vs=>PySem.call f vs):=by
 intro w s₀ s₁ mg mb G Y fa o pm cd doc dV kV ho hd hcd hD hmg hg args vals as hpre hlay hrd hwl hlo
 obtain rfl:dV=.none:=Dflts.none hD hdf
 obtain rfl:kV=.none:=Dflts.noKw hD
 obtain ⟨a,vs,ns,rfl,rfl,hobj,hints,hlen⟩:=script_of hn hpre hwl
 refine enter_call (codeAny_mono (call w s₀ s₁ mg mb fa o pm cd doc a vs ns G Y ho (fd_plain hd) hcd hmg hobj hints hlen hg) fun r s' hq=>?_)
 obtain ⟨rfl,h2,h3,h4⟩:=hq
 exact ⟨.inl ⟨.bool true,.bool true,[],rfl,fun _=>rfl,.bool true,post_true l _,fun _=>⟨List.Pairwise.nil,fun _ hm=>(nomatch hm)⟩⟩,h2,h3,h4⟩
section
variable {prog:Program} {w:World} {A:Around} {E:Value→Shared→Prop} {s:Shared} {K:Frag}
end
end Att
namespace L2
open PySem PySem.Spec PyProof.Rows
theorem lY:∀ {vs:List Value} {ns:List Int},IntsAre vs ns→Vals (ns.map V.int) vs
 | _,_,.nil=>.nil
 | _,_,.cons n t h=>.cons ⟨t,rfl⟩ (lY h)
def Only (H:Hp):Prop:=∀ b,H b=none∨∃ o xs,H b=some (.frz o (.lst xs))
theorem yq {P:Program} {w:World} {K:PySem.W.Frag} {mg mb:Str→Option Value} {CX:CXT} {k:Nat} {fa a:Addr} {fd:FuncData} {x:Str} {sp:Sp} {s₁:Shared} {vs:List Value} {ns:List Int}
  (KX:K.In s₁.heap) (hns:s₁.heap.Ns mainGlobals mg) (hb:s₁.heap.Ns builtinsNs mb) (hbb:∀ x:Str,x≠"__name__"→mb x=bootBuiltins x) (hlim:s₁.heap.NoLimit) (hg:s₁.gens=#[])
  (ha:s₁.heap.get? a=some { cls:=.type "list",data:=.seq vs.toArray }) (hi:IntsAre vs ns) (hl:ns.length≤sizeLine) (hr:Room k callerA)
  (F:∀ base:Heap,K.In base→base.Ns mainGlobals mg→FnOk P w K mg base CX k fa fd [x] sp) (hbind:∀ (s:Shared) (u:Value),BindsTo s fd ⟨[u],[]⟩ [(x,u)])
  (hsp:∀ H:Hp,Only H→SqL K H a (ns.map V.int)→sp [.ref a] H (fun v _=>v=.bl true) fun _ _ _=>False)
  (hCX:∀ H e s',CX [] H s₁ (fun _ _ _=>False) e s'→False):
  codeAny (model P w) callerA (.call (.ref fa) ⟨[.ref a],[]⟩) (fun r s'=>r=.ok (.ret (.bool true))∧OldK s₁.heap s'.heap∧s'.os=s₁.os∧AllBare s'.gens) s₁:=by
 have rv:=lY hi
 have lenV:=hi.length
 have core:∀ H:Hp,Only H→SqL K H a (ns.map V.int)→HOk P w H s₁.heap→(∀ b,H b≠none→b=a)→(H a≠none→K.lookup a=none)→
   codeAny (model P w) callerA (.call (.ref fa) ⟨[.ref a],[]⟩) (fun r s'=>r=.ok (.ret (.bool true))∧OldK s₁.heap s'.heap∧s'.os=s₁.os∧AllBare s'.gens) s₁:=by
  intro H hO hS hok hA hK
  have base_of:∀ {b:Addr} {o:Obj},s₁.heap.get? b=some o→H b=none→(hidT s₁.heap H).get? b=some o:=fun e n=>yi e n
  have noA:∀ {b:Addr} {o:Obj} {es:Array DictEntry} {ep:Nat},s₁.heap.get? b=some o→o.data=.dict es ep→H b=none:=fun {b o es ep} e d=>by
   cases q:H b with
   | none=>rfl
   | some u=>
    have e':b=a:=hA b (by rw [q]; simp)
    subst e'
    rw [ha] at e; cases e
    have d':Data.seq vs.toArray _=Data.dict es ep:=d
    cases d'
  have nsK:∀ {b:Addr} {m:Str→Option Value},s₁.heap.Ns b m→(hidT s₁.heap H).Ns b m:=fun {b m} ⟨o,es,ep,e,d,r⟩=>⟨o,es,ep,base_of e (noA e d),d,r⟩
  have hKb:K.In (hidT s₁.heap H):=fun b o e=>base_of (KX b o e) (by
   cases q:H b with
   | none=>rfl
   | some u=>
    have e':b=a:=hA b (by rw [q]; simp)
    subst e'
    rw [hK (by rw [q]; simp)] at e; cases e)
  have hM:Mod K mg (hidT s₁.heap H):=⟨hKb,nsK hns,⟨mb,nsK hb,hbb⟩,let ⟨mc,h1,h2⟩:=hlim; ⟨mc,nsK h1,h2⟩⟩
  have e0:Env0 P w K mg (hidT s₁.heap H) callerA [] s₁ H:=⟨rfl,hM,fun b o e=>y3 e,Nat.le_of_eq (wH _ _),trivial,fun b hb=>absurd (show b∈([]:List Addr) from hb) (by simp),hok,.of_eq hg⟩
  refine codeAny_mono ((F _ hKb (nsK hns)).run callerA [] s₁ H ⟨[.ref a],[]⟩ [.ref a] [.ref a] _ _ hr e0 (hbind s₁ (.ref a)) (.cons rfl .nil) (hsp H hO hS)) fun r s' h=>?_
  cases r with
  | error e=>exact (hCX H e s' h).elim
  | ok fl=>
   cases fl with
   | next=>exact False.elim h
   | brk=>exact False.elim h
   | cont=>exact False.elim h
   | ret u=>
    obtain ⟨v,H',os,bare,un,hok',r',q⟩:=h
    have q':v=.bl true:=q
    subst q'
    obtain rfl:u=Value.bool true:=r'
    refine ⟨rfl,OldK.of_keep fun b o e=>?_,os,bare⟩
    cases q:H b with
    | none=>exact un.keep b o e q (by intro z; exact absurd (show b∈([]:List Addr) from z) (by simp)) (by simp)
    | some u=>
     rcases hO b with z | ⟨ob,xs,z⟩
     · rw [q] at z; cases z
     · have z2:=un.frzs b ob _ z
       obtain ⟨e1,_⟩:=hok b _ z
       obtain ⟨e2,_⟩:=hok' b _ z2
       rw [e] at e1; cases e1
       exact e2
 cases hk:K.lookup a with
 | some o=>
  have e:=KX a o hk
  rw [ha] at e
  cases e
  refine core (fun _=>none) (fun _=>.inl rfl) (.inr ⟨_,vs.toArray,_,hk,rfl,rfl,rfl,by rw [List.size_toArray,lenV]; exact hl,by simpa using rv⟩) (fun b u z=>by have z':(none:Option HO)=some u:=z; cases z') (fun b z=>absurd rfl z) fun z=>absurd rfl z
 | none=>
  refine core (fun b=>if b=a then some (.frz { cls:=.type "list",data:=.seq vs.toArray } (.lst (ns.map V.int))) else none) (fun b=>?_) (.inl (.inr ⟨{ cls:=.type "list",data:=.seq vs.toArray },if_pos rfl⟩)) (fun b u z=>?_) (fun b z=>?_) fun _=>hk
  · by_cases hb:b=a
    · exact .inr ⟨_,_,if_pos hb⟩
    · exact .inl (if_neg hb)
  · by_cases hb:b=a
    · have z':=(if_pos hb).symm.trans z
      cases z'
      subst hb
      exact ⟨ha,by rw [List.length_map]; exact hl,vs,_,rv,ha⟩
    · have z':=(if_neg hb).symm.trans z
      cases z'
  · by_cases hb:b=a
    · exact hb
    · exact absurd (if_neg hb) z
end L2
namespace L2
open PySem PySem.Spec PyProof.Rows
theorem zg {l:PySem.W.OpenLaw} {n k:Nat} {q:Program} {loose:List Str} {XP:(Str→Option Value)→Heap→Prop} {YP:World→Heap→Prop} {d:DefRec} {K:Params→PySem.W.Frag} {CX:World→CXT} {sp:World→Sp} {x:Str}
  (hn:l.most=some n) (hn2:n≤sizeLine) (hdf:d.params.defaults=[]) (hr:Room k callerA)
  (hY:∀ (w:World) (h:Heap),YP w h→(K w.params).In h)
  (F:∀ (w:World) (mg:Str→Option Value) (fa:Addr) (h:Heap),(K w.params).In h→h.Ns mainGlobals mg→mg d.name=some (.ref fa)→
   ∃ fd:FuncData,(∀ (s:Shared) (u:Value),BindsTo s fd ⟨[u],[]⟩ [(x,u)])∧
    ∀ base:Heap,(K w.params).In base→base.Ns mainGlobals mg→FnOk l.prog w (K w.params) mg base (CX w) k fa fd [x] (sp w))
  (hsp:∀ (w:World) (H:Hp) (a:Addr) (ns:List Int),ns.length≤n→Only H→SqL (K w.params) H a (ns.map V.int)→sp w [.ref a] H (fun v _=>v=.bl true) fun _ _ _=>False)
  (hCX:∀ (w:World) (H:Hp) (s:Shared) (e:Value) (s':Shared),CX w [] H s (fun _ _ _=>False) e s'→False):
  PySem.W.WalkO q loose XP YP l.row.toRowW d [] (fun f vs=>PySem.call f vs):=by
 refine Att.attach_call hn hdf fun w s₀ s₁ mg mb fa o pm cd doc a vs ns G Y ho hd hcd hmg hobj hints hlen hg=>?_
 have KX:=hY w _ Y
 obtain ⟨fd,hb,hF⟩:=F w mg fa _ KX G.T.g hmg
 exact yq KX G.T.g G.T.b G.T.builtins G.T.nolimit hg hobj hints (Nat.le_trans hlen hn2) hr hF hb (fun H hO hS=>hsp w H a ns hlen hO hS) fun H e s'=>hCX w H s₁ e s'
end L2
namespace L2
open PySem PySem.Spec PyProof.Rows
def ax (s:Stmt):Arguments:=match s with
 | .FunctionDef _ a _ _ _ _ _ _ _ _=>a
 | _=>{ posonlyargs:=[],args:=[],vararg:=none,kwonlyargs:=[],kw_defaults:=[],kwarg:=none,defaults:=[] }
def av (s:Stmt):List Stmt:=match s with
 | .FunctionDef _ _ b _ _ _ _ _ _ _=>b
 | _=>[]
def af (s:Stmt):Scope:=match s with
 | .FunctionDef _ _ _ _ _ _ sc _ _ _=>sc
 | _=>{ kind:=.function,names:=[],isGenerator:=false,isCoroutine:=false }
abbrev CX0:CXT:=fun _ _ _ _ _ _=>False
abbrev E0:XK:=fun _ _ _=>False
theorem vC {X:Cx}:lV CX0 X E0:=fun _ _ _ _ _ _ _ h=>h.elim
structure Fun (K:PySem.W.Frag) (x qual:Str) (st:Stmt) (f:Addr) (fd:FuncData):Prop where
 ex:∃ (oc:Value) (od:Option Addr) (kV doc pm:Value) (an:Option Addr) (cdv ct:Value) (osl:Array (Option Value)),
  fd=PySem.W.fnOf x qual (ax st) (av st) (af st) .none kV doc pm an cdv ct∧K.lookup f=some ⟨oc,od,.func fd,osl⟩∧PySem.W.codeIn K cdv qual=true
 kp:PySem.W.keepIn K (.ref f)=true
section
variable {P:Program} {w:World} {K:PySem.W.Frag} {mg:Str→Option Value} {base:Heap}
theorem Fun.ok {x qual:Str} {st:Stmt} {f:Addr} {fd:FuncData} {N ps:List Str} {k:Nat} {sp:Sp} (F:Fun K x qual st f fd) (S:ay N ps (af st)) (len:∀ vs H Q E,sp vs H Q E→vs.length=ps.length)
  (hbody:∀ (cdv:Value) (A:Around) (outer:List Env) (s:Shared) (H:Hp) (vs:List V) (Q:VK) (E:XK),Room k (A.deeper (envOfC qual (af st) s.heap.objs.size f cdv))→sp vs H Q E→
   ∃ t,PSs (cxOf CX0 P w K mg base N qual (af st) f cdv A outer s H E).nox (av st) t∧t { nx:=fun _ H'=>Q .non H',rt:=Q } (start N vs) H):FnOk P w K mg base CX0 (k+1) f fd ps sp:=by
 obtain ⟨oc,od,kV,doc,pm,an,cdv,ct,osl,rfl,lk,hcd⟩:=F.ex
 refine AJ lk hcd S len fun A outer s H vs Q E hr hsp=>?_
 obtain ⟨t,h,q⟩:=hbody cdv A outer s H vs Q E hr hsp
 exact ⟨t,h.nox,q⟩
theorem Fun.binds {x qual:Str} {st:Stmt} {f:Addr} {fd:FuncData} {ps:List Str} (F:Fun K x qual st f fd)
  (h:∀ (kV doc pm:Value) (an:Option Addr) (cdv ct:Value) (us:List Value),us.length=ps.length→bindArgs (PySem.W.fnOf x qual (ax st) (av st) (af st) .none kV doc pm an cdv ct) ⟨us,[]⟩=pure (ps.zip us)):Binds K fd ps []:=by
 obtain ⟨oc,od,kV,doc,pm,an,cdv,ct,osl,rfl,lk,hcd⟩:=F.ex
 exact .all (h kV doc pm an cdv ct)
theorem aC {x qual:Str} {st:Stmt} {f:Addr} {oc:Value} {od an:Option Addr} {osl:Array (Option Value)} {kV doc pm cdv ct:Value} (l:K.lookup f=some ⟨oc,od,.func (PySem.W.fnOf x qual (ax st) (av st) (af st) .none kV doc pm an cdv ct),osl⟩)
  (c:PySem.W.codeIn K cdv qual=true) (k:PySem.W.keepIn K (.ref f)=true):Fun K x qual st f (PySem.W.fnOf x qual (ax st) (av st) (af st) .none kV doc pm an cdv ct):=⟨⟨oc,od,kV,doc,pm,an,cdv,ct,osl,rfl,l,c⟩,k⟩
end
theorem aI {n:Nat} (h:n≤1000):n < sizeLine:=Nat.lt_of_le_of_lt h (by decide)
section
variable {X:Cx}
theorem pv (i:Nat) {x:Str} {pos:Pos} (hN:X.N[i]? =some x:=by rfl) (hv:Vis X.env.scope x:=by first | exact Or.inl rfl | exact Or.inr (Or.inl rfl) | exact Or.inr (Or.inr rfl)) (hd:(x==("__debug__":Str))=false:=by decide)
  (hcd:(x==("__classdict__":Str))=false:=by decide):PE X (.Name x pos) (tVar i):=zN hN hv hd hcd
end
theorem iteF {A B:Prop} (h:B):if false=true then A else B:=by
 rw [if_neg Bool.false_ne_true]
 exact h
theorem iteT {A B:Prop} (h:A):if true=true then A else B:=by
 rw [if_pos rfl]
 exact h
def Same (H H':Hp):Prop:=∀ b o,H b=some o→H' b=some o
theorem Same.refl (H:Hp):Same H H:=fun _ _ h=>h
theorem Same.trans {H H1 H2:Hp} (a:Same H H1) (b:Same H1 H2):Same H H2:=fun c o h=>b c o (a c o h)
theorem Same.free {H H':Hp} (e:Same H H') {l:Addr} (h:H' l=Option.none):H l=Option.none:=by
 cases q:H l with
 | none=>rfl
 | some o=>
  rw [e l o q] at h
  cases h
theorem Same.seq {K:PySem.W.Frag} {H H':Hp} {a:Addr} {xs:List V} (e:Same H H') (h:SqL K H a xs):SqL K H' a xs:=by
 rcases h with (h | ⟨o,h⟩) | h
 · exact .inl (.inl (e _ _ h))
 · exact .inl (.inr ⟨o,e _ _ h⟩)
 · exact .inr h
end L2
namespace L2
open PySem PySem.Spec PyProof.Rows
section
variable {κ:Type} [DecidableEq κ]
def valV (kvs:List (κ × V)) (k:κ):Option V:=(kvs.find? fun kv=>decide (kv.1=k)).map (·.2)
def putK (kvs:List (κ × V)) (k:κ) (v:V):List (κ × V):=
 if (kvs.any fun kv=>decide (kv.1=k))=true then kvs.map (fun kv=>if kv.1=k then (kv.1,v) else kv) else kvs++[(k,v)]
theorem nG {p:κ × V} {r:List (κ × V)} {k:κ} (e:p.1=k):valV (p::r) k=some p.2:=by simp [valV,List.find?_cons,e]
theorem nH {p:κ × V} {r:List (κ × V)} {k:κ} (e:¬ p.1=k):valV (p::r) k=valV r k:=by simp [valV,List.find?_cons,e]
theorem si (k:κ):∀ kvs:List (κ × V),(kvs.any fun kv=>decide (kv.1=k))=(valV kvs k).isSome
 | []=>rfl
 | p::r=>by
  rw [List.any_cons]
  by_cases e:p.1=k
  · simp only [nG e,decide_eq_true e,Bool.true_or,Option.isSome_some]
  · rw [nH e,decide_eq_false e,Bool.false_or]; exact si k r
theorem nu (kvs:List (κ × V)) (k:κ) (v:V):(putK kvs k v).length≤kvs.length+1:=by
 unfold putK
 split
 · rw [List.length_map]; omega
 · rw [List.length_append,List.length_cons,List.length_nil]; omega
theorem RelO.isSome_eq {o:Option V} {u:Option Value} (r:RelO o u):o.isSome=u.isSome:=by
 cases o with
 | none=>cases u with
  | none=>rfl
  | some _=>exact (show False from r).elim
 | some _=>cases u with
  | none=>exact (show False from r).elim
  | some _=>rfl
theorem KV.val {kvs:List (κ × V)} {vs:List (κ × Value)} (r:KV kvs vs) (k:κ):RelO (valV kvs k) (valueAt vs k):=by
 unfold KV at r
 induction r with
 | nil=>exact True.intro
 | @cons p q ps qs h t ih=>
  obtain ⟨h1,h2⟩:=h
  by_cases e:p.1=k
  · have e':q.1=k:=h1.symm.trans e
    have b:valueAt (q::qs) k=some q.2:=by simp [valueAt,List.find?_cons,e']
    rw [nG e,b]; exact h2
  · have e':¬ q.1=k:=fun z=>e (h1.trans z)
    have b:valueAt (q::qs) k=valueAt qs k:=by simp [valueAt,List.find?_cons,e']
    rw [nH e,b]; exact ih
theorem KV.any {kvs:List (κ × V)} {vs:List (κ × Value)} (r:KV kvs vs) (k:κ):(kvs.any fun kv=>decide (kv.1=k))=vs.any fun kv=>decide (kv.1=k):=by
 unfold KV at r
 induction r with
 | nil=>rfl
 | cons h t ih=>rw [List.any_cons,List.any_cons,ih,h.1]
theorem KV.repl {kvs:List (κ × V)} {vs:List (κ × Value)} (r:KV kvs vs) (k:κ) {y:V} {u:Value} (ry:RelV y u):
  KV (kvs.map fun kv=>if kv.1=k then (kv.1,y) else kv) (vs.map fun kv=>if kv.1=k then (kv.1,u) else kv):=by
 unfold KV at r ⊢
 induction r with
 | nil=>exact .nil
 | @cons p q ps qs h t ih=>
  rw [List.map_cons,List.map_cons]
  refine .cons ?_ ih
  obtain ⟨h1,h2⟩:=h
  by_cases e:p.1=k
  · rw [if_pos e,if_pos (h1.symm.trans e)]; exact ⟨h1,ry⟩
  · rw [if_neg e,if_neg (fun z=>e (h1.trans z))]; exact ⟨h1,h2⟩
theorem KV.put {kvs:List (κ × V)} {vs:List (κ × Value)} (r:KV kvs vs) (k:κ) {y:V} {u:Value} (ry:RelV y u):KV (putK kvs k y) (stored vs k u):=by
 unfold putK stored
 rw [r.any k]
 by_cases e:(vs.any fun kv=>decide (kv.1=k))=true
 · rw [if_pos e,if_pos e]; exact r.repl k ry
 · rw [if_neg e,if_neg e]; exact Paired.snoc r ⟨rfl,ry⟩
theorem KV.length {kvs:List (κ × V)} {vs:List (κ × Value)} (r:KV kvs vs):kvs.length=vs.length:=Paired.length r
end
theorem oO {P:Program} {w:World} {k:Key} {u:Value} (r:RelV (kV k) u):(dr P w).is k u=true:=by
 cases k with
 | inl i=>obtain ⟨t,e⟩:=(show ∃ t,u=Value.int i t from r); subst e; exact ug P w i t
 | inr x=>obtain ⟨t,e⟩:=(show ∃ t,u=Value.str x t from r); subst e; exact uh P w x t
theorem qO {P:Program} {w:World}:∀ {ks:List Key} {us:List Value},Vals (ks.map kV) us→ItemsAre (dr P w) ks us
 | [],_,r=>by rw [List.map_nil] at r; cases r; exact .nil
 | k::ks,_,r=>by
  rw [List.map_cons] at r
  cases r with
  | cons h t=>exact .cons (oO h) (qO t)
abbrev KT (H:Hp):List (List Key × V)→List (List Key × Addr × Value)→Prop:=Paired fun p q=>p.1=q.1∧H q.2.1=some (.tup (p.1.map kV))∧RelV p.2 q.2.2
theorem KT.val {H:Hp} {kvs:List (List Key × V)} {xs:List (List Key × Addr × Value)} (r:KT H kvs xs) (k:List Key):RelO (valV kvs k) ((atKey xs k).map (·.2)):=by
 induction r with
 | nil=>exact True.intro
 | @cons p q ps qs h t ih=>
  obtain ⟨h1,_,h2⟩:=h
  by_cases e:p.1=k
  · have e':q.1=k:=h1.symm.trans e
    have b:atKey (q::qs) k=some q.2:=by simp [atKey,List.find?_cons,e']
    rw [nG e,b]; exact h2
  · have e':¬ q.1=k:=fun z=>e (h1.trans z)
    have b:atKey (q::qs) k=atKey qs k:=by simp [atKey,List.find?_cons,e']
    rw [nH e,b]; exact ih
theorem KT.repl {H:Hp} {kvs:List (List Key × V)} {xs:List (List Key × Addr × Value)} (r:KT H kvs xs) (k:List Key) {y:V} {u:Value} (ry:RelV y u):
  KT H (kvs.map fun kv=>if kv.1=k then (kv.1,y) else kv) (xs.map (putAt k u)):=by
 induction r with
 | nil=>exact .nil
 | @cons p q ps qs h t ih=>
  rw [List.map_cons,List.map_cons]
  refine .cons ?_ ih
  obtain ⟨h1,h2,h3⟩:=h
  unfold putAt
  by_cases e:p.1=k
  · rw [if_pos e,if_pos (h1.symm.trans e)]; exact ⟨h1,h2,ry⟩
  · rw [if_neg e,if_neg (fun z=>e (h1.trans z))]; exact ⟨h1,h2,h3⟩
theorem KT.put {H:Hp} {kvs:List (List Key × V)} {xs:List (List Key × Addr × Value)} (r:KT H kvs xs) (k:List Key) {b:Addr} {y:V} {u:Value} (hb:H b=some (.tup (k.map kV))) (ry:RelV y u):
  KT H (putK kvs k y) (storedH xs k b u):=by
 have e:(kvs.any fun kv=>decide (kv.1=k))=(atKey xs k).isSome:=by
  rw [si,(r.val k).isSome_eq,Option.isSome_map]
 unfold putK storedH
 rw [e]
 by_cases q:(atKey xs k).isSome=true
 · rw [if_pos q,if_pos q]; exact r.repl k ry
 · rw [if_neg q,if_neg q]; exact Paired.snoc r ⟨rfl,hb,ry⟩
theorem KT.keeps {H H':Hp} {kvs:List (List Key × V)} {xs:List (List Key × Addr × Value)} (r:KT H kvs xs) (ht:∀ b ys,H b=some (.tup ys)→H' b=some (.tup ys)):KT H' kvs xs:=
 Paired.mapP r fun _ _ z=>⟨z.1,ht _ _ z.2.1,z.2.2⟩
section
variable {P:Program} {w:World} {H:Hp} {h:Heap} {a:Addr}
theorem yU {u:HO} (ok:HOk P w H h) (e:Rd H a u):ObjOk P w H h a u:=e.ok ok
theorem mQ {kvs:List (Key × V)} (ok:HOk P w H h) (e:Rd H a (.dK kvs)):kvs.length≤sizeLine∧(a==sysModules)=false∧∃ vs,KV kvs vs∧h.DictOf (dr P w) a vs:=
 show ObjOk P w H h a (.dK kvs) from yU ok e
theorem AK {kvs:List (Key × V)} (ok:HOk P w H h) (e:H a=some (.dK kvs)):kvs.length≤sizeLine∧(a==sysModules)=false∧∃ vs,KV kvs vs∧h.DictOf (dr P w) a vs:=mQ ok (.inl e)
theorem lZ {ks:List Key} (ok:HOk P w H h) (e:H a=some (.tup (ks.map kV))):(tupleKind (dr P w)).is h ks a:=by
 obtain ⟨_,its,r,o,h1,h2,n,h3⟩:=(show ObjOk P w H h a (.tup (ks.map kV)) from ok a _ e)
 exact ⟨o,its.toArray,n,h1,h2,h3,by simpa using qO r⟩
theorem oP {kvs:List (List Key × V)} (ok:HOk P w H h) (e:Rd H a (.dT kvs)):kvs.length≤sizeLine∧(a==sysModules)=false∧
  ∃ xs,KT H kvs xs∧h.DictOfH (tupleKind (dr P w)) a xs:=by
 obtain ⟨z,y,xs,r,o,es,ep,h1,h2,h3,h4,h5⟩:=(show ObjOk P w H h a (.dT kvs) from yU ok e)
 refine ⟨z,y,xs,r,o,es,ep,h1,h2,h3,h4,fun x hx=>?_,h5⟩
 have all:∀ {l:List (List Key × V)} {m:List (List Key × Addr × Value)},KT H l m→∀ x∈m,(tupleKind (dr P w)).is h x.1 x.2.1:=by
  intro l m q
  induction q with
  | nil=>intro x hx; exact nomatch hx
  | @cons p q ps qs hq t ih=>
   intro x hx
   rcases List.mem_cons.mp hx with e | hx
   · subst e
     exact lZ ok (by rw [← hq.1]; exact hq.2.1)
   · exact ih x hx
 exact all r x hx
theorem AL {kvs:List (List Key × V)} (ok:HOk P w H h) (e:H a=some (.dT kvs)):kvs.length≤sizeLine∧(a==sysModules)=false∧
  ∃ xs,KT H kvs xs∧h.DictOfH (tupleKind (dr P w)) a xs:=oP ok (.inl e)
end
def DGet (H:Hp) (a:Addr) (y:V) (r:Option V):Prop:=
 (∃ kvs k,Rd H a (.dK kvs)∧y=kV k∧r=valV kvs k)∨∃ kvs k b,Rd H a (.dT kvs)∧y=.ref b∧H b=some (.tup (k.map kV))∧r=valV kvs k
def DPut (H:Hp) (a:Addr) (y v:V) (H':Hp):Prop:=
 (∃ kvs k,H a=some (.dK kvs)∧y=kV k∧kvs.length < sizeLine∧H'=upd H a (.dK (putK kvs k v)))∨
 ∃ kvs k b,H a=some (.dT kvs)∧y=.ref b∧H b=some (.tup (k.map kV))∧kvs.length < sizeLine∧H'=upd H a (.dT (putK kvs k v))
theorem DGet.k {H:Hp} {a:Addr} {kvs:List (Key × V)} {k:Key} (e:H a=some (.dK kvs)):DGet H a (kV k) (valV kvs k):=.inl ⟨kvs,k,.inl e,rfl,rfl⟩
section
variable {X:Cx} {pins:List (Addr × Obj)} {σ:St} {H:Hp} {s:Shared} {a:Addr} {y v:V} {u r:Value} {o:Option V} {A:Around} {E:Value→Shared→Prop}
theorem wY {Q:Value→Shared→Prop} (hu:A.units+1 < cLine) (I:Inv X pins σ H s) (g:DGet H a y (some v)) (ry:RelV y u) (h:∀ w' s',Inv X pins σ H s'→RelV v w'→Q w' s'):
  wpAny (model X.prog X.w) A (getItem (.ref a) u) Q E s:=by
 rcases g with ⟨kvs,k,e,ey,l⟩ | ⟨kvs,k,b,e,ey,eb,l⟩
 · subst ey
   obtain ⟨z,hd,vs,rel,dd⟩:=mQ I.hok e
   obtain ⟨w',hw,rw'⟩:=RelO.some_of (v:=v) (o:=valueAt vs k) (by rw [l]; exact rel.val k)
   exact wpAny_getItem_of (oO ry) dd.mapOf hw (h w' _ (I.tok _) rw')
 · subst ey
   cases (show u=Value.ref b from ry)
   obtain ⟨z,hd,xs,rel,dd⟩:=oP I.hok e
   obtain ⟨w',hw,rw'⟩:=RelO.some_of (v:=v) (o:=(atKey xs k).map (·.2)) (by rw [l]; exact rel.val k)
   obtain ⟨p,hp,hp2⟩:=Option.map_eq_some_iff.mp hw
   refine wpAny_getItem_heap (tupleKind_room_in1 hu) (lZ I.hok eb) dd hp ?_
   rw [hp2]
   exact h w' _ (I.tok _) rw'
theorem AX {Q:Value→Shared→Prop} (hu:A.units+1 < cLine) (I:Inv X pins σ H s) (g:DGet H a y o) (ry:RelV y u) (h:∀ s',Inv X pins σ H s'→Q (.bool o.isSome) s'):
  wpAny (model X.prog X.w) A (compareOp .In u (.ref a)) Q E s:=by
 rcases g with ⟨kvs,k,e,ey,l⟩ | ⟨kvs,k,b,e,ey,eb,l⟩
 · subst ey
   obtain ⟨z,hd,vs,rel,dd⟩:=mQ I.hok e
   refine wpAny_in_of (oO ry) hd dd.mapOf ?_
   rw [← (rel.val k).isSome_eq,← l]
   exact h _ (I.tok _)
 · subst ey
   cases (show u=Value.ref b from ry)
   obtain ⟨z,hd,xs,rel,dd⟩:=oP I.hok e
   refine wpAny_in_heap (tupleKind_room_in1 hu) (lZ I.hok eb) hd dd ?_
   have q:=(rel.val k).isSome_eq
   rw [Option.isSome_map] at q
   rw [← q,← l]
   exact h _ (I.tok _)
theorem zh {Q:Value→Shared→Prop} (hu:A.units+1 < cLine) (I:Inv X pins σ H s) (g:DGet H a y o) (ry:RelV y u) (h:∀ s',Inv X pins σ H s'→Q (.bool (!o.isSome)) s'):
  wpAny (model X.prog X.w) A (compareOp .NotIn u (.ref a)) Q E s:=by
 rcases g with ⟨kvs,k,e,ey,l⟩ | ⟨kvs,k,b,e,ey,eb,l⟩
 · subst ey
   obtain ⟨z,hd,vs,rel,dd⟩:=mQ I.hok e
   refine wpAny_notIn_of (oO ry) hd dd.mapOf ?_
   rw [← (rel.val k).isSome_eq,← l]
   exact h _ (I.tok _)
 · subst ey
   cases (show u=Value.ref b from ry)
   obtain ⟨z,hd,xs,rel,dd⟩:=oP I.hok e
   refine wpAny_notIn_heap (tupleKind_room_in1 hu) (lZ I.hok eb) hd dd ?_
   have q:=(rel.val k).isSome_eq
   rw [Option.isSome_map] at q
   rw [← q,← l]
   exact h _ (I.tok _)
theorem u2 {h':Heap} {t':Nat} {ob:HO} (I:Inv X pins σ H s) (mu:Mut (H a)) (hs:Heap.SameBut a s.heap h') (he:∃ q,h'.get? a=some q) (new:ObjOk X.prog X.w (upd H a ob) h' a ob):
  Inv X pins σ (upd H a ob) { s with heap:=h',toks:=t' }:=
 I.write (x:=a) (e:=a) mu (.inl rfl) (fun b q hb z=>(hs.2 b hb).trans z) he new
theorem z6 {P:Program} {w:World} {H':Hp} {h':Heap} {kvs:List (Key × V)} {vs:List (Key × Value)} (z:kvs.length≤sizeLine) (hd:(a==sysModules)=false) (rel:KV kvs vs) (dd:h'.DictOf (dr P w) a vs):
  ObjOk P w H' h' a (.dK kvs):=⟨z,hd,vs,rel,dd⟩
theorem wZ {H':Hp} {Q:Unit→Shared→Prop} (hu:A.units+1 < cLine) (I:Inv X pins σ H s) (g:DPut H a y v H') (ry:RelV y u) (rv:RelV v r) (h:∀ s',Inv X pins σ H' s'→Q () s'):
  wpAny (model X.prog X.w) A (setItem (.ref a) u r) Q E s:=by
 rcases g with ⟨kvs,k,e,ey,l,eH⟩ | ⟨kvs,k,b,e,ey,eb,l,eH⟩
 · subst ey eH
   obtain ⟨z,hd,vs,rel,dd⟩:=AK I.hok e
   have hz:vs.length≤sizeLine:=by rw [← rel.length]; exact z
   have hl:(putK kvs k v).length≤sizeLine:=by have:=nu kvs k v; omega
   refine wpAny_setItem_pairs (hsz:=hz) (oO ry) dd fun h' dd' hs=>h _ ?_
   have he:∃ q,h'.get? a=some q:=let ⟨q,_,_,hq,_⟩:=dd'; ⟨q,hq⟩
   exact u2 I (by rw [e]; exact True.intro) hs he (z6 hl hd (rel.put k rv) dd')
 · subst ey eH
   cases (show u=Value.ref b from ry)
   obtain ⟨z,hd,xs,rel,dd⟩:=AL I.hok e
   have hz:xs.length≤sizeLine:=by rw [← Paired.length rel]; exact z
   have hl:(putK kvs k v).length≤sizeLine:=by have:=nu kvs k v; omega
   refine wpAny_setItem_heap (hsz:=hz) (tupleKind_room_in1 hu) (lZ I.hok eb) dd fun h' dd' hs=>h _ ?_
   obtain ⟨q,es,ep,hq,h2,h3,h4,_,h5⟩:=dd'
   refine u2 I (by rw [e]; exact True.intro) hs ⟨q,hq⟩ ⟨hl,hd,_,(rel.put k eb rv).keeps fun c ys ec=>?_,q,es,ep,hq,h2,h3,h4,h5⟩
   rw [ar (AD ec e (fun z=>nomatch z))]
   exact ec
end
section
variable {X:Cx} {pins:List (Addr × Obj)} {σ:St} {H:Hp} {s:Shared} {a:Addr} {kvs:List (Key × V)} {k:Key} {u:Value} {A:Around} {E:Value→Shared→Prop}
theorem AM {Q:Value→Shared→Prop} (I:Inv X pins σ H s) (e:Rd H a (.dK kvs)) (h:∀ t s',Inv X pins σ H s'→Q (.int kvs.length t) s'):wpAny (model X.prog X.w) A (call (.builtin "len") [.ref a]) Q E s:=by
 obtain ⟨z,hd,vs,rel,dd⟩:=mQ I.hok e
 refine call_len_dict hd dd (by rw [← rel.length]; rw [sizeLine_eq] at z; omega) ?_
 rw [← rel.length]
 exact h _ _ (I.tok _)
end
theorem uk {X:Cx} {pins:List (Addr × Obj)} {σ:St} {H:Hp} {s:Shared} {a:Addr} {y:V} {o:Option V} (I:Inv X pins σ H s) (g:DGet H a y o):s.TypeIs (.ref a) "dict":=by
 rcases g with ⟨kvs,k,e,_,_⟩ | ⟨kvs,k,b,e,_,_,_⟩
 · obtain ⟨_,_,vs,_,dd⟩:=mQ I.hok e
   exact dd.typeIs
 · obtain ⟨_,_,xs,_,dd⟩:=oP I.hok e
   exact dd.typeIs
def sDPut (td ty tv:TE):TS:=fun D σ H=>tv σ H fun v H1=>td σ H1 fun x H2=>ty σ H2 fun y H3=>∃ a H4,x=.ref a∧DPut H3 a y v H4∧D.nx σ H4
def z7:TE:=fun _ H Q=>∀ p,H p=none→Q (.ref p) (upd H p (.dK []))
end L2
namespace L2
open PySem PySem.Spec PyProof.Rows
section
variable {X:Cx}
theorem w5:CallR X (.builtin "len") (fun xs H Q=>∃ a kvs,xs=[V.ref a]∧H a=some (.dK kvs)∧Q (.int kvs.length) H):=by
 intro pins s σ H xs us Q I r h
 obtain ⟨a,kvs,rfl,ha,q⟩:=h
 obtain ⟨u,rfl,ru⟩:=fX r
 cases ru
 exact AM I (.inl ha) fun t s' I'=>⟨.int kvs.length,H,I',⟨t,rfl⟩,q⟩
end
end L2
namespace L2
open PySem PySem.Spec PyProof.Rows
theorem dt {α:Type} (x:Str):∀ (a b:List (Str × α)),(a++b).lookup x=match a.lookup x with | some c=>some c | none=>b.lookup x
 | [],b=>rfl
 | (k,v)::r,b=>by
  rw [List.cons_append,List.lookup_cons,List.lookup_cons]
  cases x==k with
  | true=>rfl
  | false=>exact dt x r b
theorem jz:∀ (names:List (Str × NameKind)) (n:Nat) (acc cl:List (Str × Addr)),cellsFrom n names (acc++cl)=cellsFrom n names acc++cl
 | [],_,_,_=>rfl
 | (y,k)::r,n,acc,cl=>by
  unfold cellsFrom
  split
  · rw [← List.cons_append]; exact jz r _ _ cl
  · exact jz r _ _ cl
theorem gZ {x:Str} {c:Addr}:∀ (names:List (Str × NameKind)) (n:Nat) (acc:List (Str × Addr)),(x,c)∈cellsFrom n names acc→(x,NameKind.cell)∈names∨(x,c)∈acc
 | [],_,_,h=>.inr h
 | (y,k)::r,n,acc,h=>by
  unfold cellsFrom at h
  split at h
  · rename_i hk
    have hk:k=.cell:=by simpa using hk
    subst hk
    rcases gZ r _ _ h with z | z
    · exact .inl (List.mem_cons_of_mem _ z)
    · rcases List.mem_cons.mp z with z | z
      · cases z; exact .inl List.mem_cons_self
      · exact .inr z
  · rcases gZ r _ _ h with z | z
    · exact .inl (List.mem_cons_of_mem _ z)
    · exact .inr z
theorem lm {env:Env} (f:Str × NameKind→List (Str × Addr)→Sem (ForInStep (List (Str × Addr))))
  (hf:∀ name kind cs,f (name,kind) cs=if kind==.free then (do let a ← cellOf env name; pure (.yield ((name,a)::cs))) else pure (.yield cs)):
  ∀ (names:List (Str × NameKind)) (acc:List (Str × Addr)),(∀ x,(x,NameKind.free)∈names→∃ c,env.cells.lookup x=some c)→(∀ x c,acc.lookup x=some c→env.cells.lookup x=some c)→
   ∃ cl,forIn names acc f=(pure cl:Sem _)∧(∀ x c,cl.lookup x=some c→env.cells.lookup x=some c)∧(∀ x,((x,NameKind.free)∈names∨∃ c,acc.lookup x=some c)→∃ c,cl.lookup x=some c)
 | [],acc,_,h2=>⟨acc,rfl,h2,fun x h=>h.elim (fun z=>nomatch z) id⟩
 | (y,k)::r,acc,h1,h2=>by
  rw [List.forIn_cons,hf]
  by_cases hk:(k==NameKind.free)=true
  · rw [if_pos hk]
    have hk':k=.free:=by simpa using hk
    subst hk'
    obtain ⟨c,hc⟩:=h1 y List.mem_cons_self
    have e:(cellOf env y:Sem Addr)=pure c:=by unfold cellOf; rw [hc]
    rw [e]
    obtain ⟨cl,e1,e2,e3⟩:=lm f hf r ((y,c)::acc) (fun x hx=>h1 x (List.mem_cons_of_mem _ hx)) (fun x c' hx=>by
     rw [List.lookup_cons] at hx
     cases hb:x==y with
     | true=>rw [hb] at hx; cases hx; rw [beq_iff_eq.mp hb]; exact hc
     | false=>rw [hb] at hx; exact h2 x c' hx)
    refine ⟨cl,?_,e2,fun x hx=>e3 x ?_⟩
    · exact e1
    · rcases hx with hx | ⟨c',hx⟩
      · rcases List.mem_cons.mp hx with z | z
        · cases z; exact .inr ⟨c,by rw [List.lookup_cons]; simp⟩
        · exact .inl z
      · cases hb:x==y with
        | true=>exact .inr ⟨c,by rw [List.lookup_cons,hb]⟩
        | false=>exact .inr ⟨c',by rw [List.lookup_cons,hb]; exact hx⟩
  · rw [if_neg hk]
    obtain ⟨cl,e1,e2,e3⟩:=lm f hf r acc (fun x hx=>h1 x (List.mem_cons_of_mem _ hx)) h2
    refine ⟨cl,e1,e2,fun x hx=>e3 x ?_⟩
    rcases hx with hx | hx
    · rcases List.mem_cons.mp hx with z | z
      · cases z; exact absurd rfl hk
      · exact .inl z
    · exact .inr hx
theorem vD {scope:Scope} {env:Env} (h:∀ x,(x,NameKind.free)∈scope.names→∃ c,env.cells.lookup x=some c):
  ∃ cl,closureFor scope env=pure cl∧(∀ x c,cl.lookup x=some c→env.cells.lookup x=some c)∧∀ x,(x,NameKind.free)∈scope.names→∃ c,cl.lookup x=some c:=by
 obtain ⟨cl,e1,e2,e3⟩:=lm (env:=env) (fun x cs=>match x with | (name,kind)=>if kind==.free then (do let a ← cellOf env name; pure (.yield ((name,a)::cs))) else pure (.yield cs)) (fun _ _ _=>rfl) scope.names [] h (fun x c hx=>nomatch hx)
 refine ⟨cl,?_,e2,fun x hx=>e3 x (.inl hx)⟩
 have:closureFor scope env=(forIn scope.names [] (fun x cs=>match x with | (name,kind)=>if kind==.free then (do let a ← cellOf env name; pure (.yield ((name,a)::cs))) else pure (.yield cs)) >>= fun cs=>pure cs):=by
  simp only [closureFor]
 rw [this,e1]
 rfl
def w9 (scope:Scope) (cl:List (Str × Addr)) (C:Addr) (env:Env):Env:=
 { newEnv scope C env.globals (cellsFrom (C+1) scope.names cl) env.qual none .none (some env) builtinsNs with scope:=relabel scope env }
theorem yr {M:Model} {A:Around} {E:Value→Shared→Prop} {s:Shared} {scope:Scope} {cl:List (Str × Addr)} {env:Env} {Q:Env→Shared→Prop}
  (hQ:Q (newEnv scope s.heap.objs.size env.globals (cellsFrom (s.heap.objs.size+1) scope.names cl) env.qual none .none (some env) builtinsNs) { s with heap:=pushCells (s.heap.push { cls:=.type "dict",data:=.dict #[] }) scope.names }):
  wpAny M A (newFunctionEnv scope env.globals cl [] env.qual none .none (some env)) Q E s:=by
 simp only [newFunctionEnv,Option.isSome_some,if_true]
 refine wpAny_bind (wpAny_alloc ?_)
 refine wpAny_bind (wpAny_layCells _ (fun name kind cells=>by cases hkc:kind==NameKind.cell <;> simp [hkc]) _ _ _ _ ?_)
 rw [show ({ s with heap:=s.heap.push { cls:=.type "dict",data:=.dict #[] } }:Shared).heap.objs.size=s.heap.objs.size+1 from Heap.size_push ..]
 refine wpAny_bind ?_
 rw [List.forIn_nil]
 exact wpAny_pure (wpAny_pure hQ)
section
variable {prog:Program} {w:World} {A:Around} {E:Value→Shared→Prop} {R:Result→Shared→Prop} {s:Shared}
theorem xa {elt target iter:Expr} {ifs:List Expr} {scope:Scope} {pos:Pos} {it acc:Value} {env:Env} (I:Nat→Shared→Prop)
  (turn:∀ n s,I n s→wpAny (model prog w) A (pyNext it) (fun r s₁=>match r with
   | none=>R (.ok .next) s₁
   | some v=>wpAny (model prog w) A (letOwnedTupleGo target it v) (fun _ s₁'=>wpAny (model prog w) A (assign target env v) (fun _ s₂=>
     wpAny (model prog w) A (forIn ifs true fun c r=>if r=true then do let ok ← isTrue c env (eval c env); pure (ForInStep.yield ok) else pure (ForInStep.yield r)) (fun ok s₃=>
      if ok=true then wpAny (model prog w) A (eval elt env) (fun x s₄=>
       wpAny (model prog w) A (call (.builtin "list.append") [acc,x]) (fun _ s₅=>∃ m,m < n∧I m s₅) (notedBy (model prog w) A env fun e s'=>R (.error e) s') s₄) (notedBy (model prog w) A env fun e s'=>R (.error e) s') s₃
      else ∃ m,m < n∧I m s₃) (notedBy (model prog w) A env fun e s'=>R (.error e) s') s₂) (notedBy (model prog w) A env fun e s'=>R (.error e) s') s₁') (notedBy (model prog w) A env fun e s'=>R (.error e) s') s₁) (notedBy (model prog w) A env fun e s'=>R (.error e) s') s)
  (n:Nat) (h:I n s):
  codeAny (model prog w) A (.compLoop (.ListComp elt [⟨target,iter,ifs,0⟩] scope pos) 0 it acc env) R s:=by
 refine codeAny_loop rfl I (fun n s hI=>?_) n h
 show wpAny _ A ((compTurn (.ListComp elt [⟨target,iter,ifs,0⟩] scope pos) 0 it acc env).onRaise (fun x=>do noteFrame x env; theTreesLotGoes x)) _ _ s
 refine wpAny_noted ?_
 rw [compTurn_list]
 refine wpAny_bind (wpAny_standAt (wpAny_bind (wpAny_mono (turn n s hI) (fun r s₁ h₁=>?_) fun _ _ h'=>h')))
 cases r with
 | none=>exact wpAny_pure h₁
 | some v=>
  refine wpAny_bind (wpAny_mono h₁ (fun _ s₁' h₁'=>?_) fun _ _ h'=>h')
  refine wpAny_bind (wpAny_mono h₁' (fun _ s₂ h₂=>wpAny_bind (wpAny_mono h₂ (fun ok s₃ h₃=>?_) fun _ _ h'=>h')) fun _ _ h'=>h')
  cases ok with
  | false=>exact wpAny_pure ⟨rfl,h₃⟩
  | true=>
   exact wpAny_bind (wpAny_bind (wpAny_mono h₃ (fun x s₄ h₄=>wpAny_bind (wpAny_mono h₄ (fun _ s₅ h₅=>wpAny_pure (wpAny_pure ⟨rfl,h₅⟩)) fun _ _ h'=>h')) fun _ _ h'=>h'))
end
end L2
namespace L2
open PySem PySem.Spec PyProof.Rows
theorem kg {scope:Scope} {env:Env} {x:Str} {k:NameKind} (h:(relabel scope env).names.lookup x=some k):∃ k',scope.names.lookup x=some k'∧(k=k'∨(k'=.free∧k=.cell)):=by
 unfold relabel at h
 dsimp only at h
 generalize scope.names=names at h ⊢
 induction names with
 | nil=>cases h
 | cons p r ih=>
  obtain ⟨n,k0⟩:=p
  rw [List.map_cons] at h
  rw [List.lookup_cons]
  cases hb:x==n with
  | true=>
   refine ⟨k0,rfl,?_⟩
   dsimp only at h
   split at h
   · rename_i hc
     rw [List.lookup_cons,hb] at h
     cases h
     simp only [Bool.and_eq_true,beq_iff_eq] at hc
     exact .inr ⟨hc.1.1,rfl⟩
   · rw [List.lookup_cons,hb] at h
     cases h
     exact .inl rfl
  | false=>
   dsimp only at h
   refine ih ?_
   split at h
   · rw [List.lookup_cons,hb] at h; exact h
   · rw [List.lookup_cons,hb] at h; exact h
def blkCx (X:Cx) (N:List Str) (scope:Scope) (cl:List (Str × Addr)) (s:Shared) (H:Hp) (fp:List Addr):Cx where
 prog:=X.prog
 w:=X.w
 K:=X.K
 mg:=X.mg
 base:=X.base
 A:=X.A
 N:=N
 s₀:=s
 H₀:=H
 env:=w9 scope cl (s.heap.objs.size+1) X.env
 outer:=X.stack
 stack:=X.stack
 ex:=fp
 fn:=fun x=>scope.names.lookup x==some .cell
 calm:=X.calm
 pn:=[]
 xe:=fun e₀ s₁=>(∃ (pins:List (Addr × Obj)) (σ:St),Inv X pins σ H s∧∀ b∈fp,FpOk X pins H b)→notedBy (model X.prog X.w) X.A (w9 scope cl (s.heap.objs.size+1) X.env) (fun x s'=>∃ m,s'.heap.Ns (s.heap.objs.size+1) m∧∀ h',Heap.SameBut (s.heap.objs.size+1) s'.heap h'→∀ cenv:Env,cenv.locals=s.heap.objs.size+1→
  wpAny (model X.prog X.w) X.A (passOn "comprehension.variables-let-go" x cenv:Sem Value) (fun _ _=>False) X.xe { s' with heap:=h' }) e₀ s₁
def subσ (ix:List (Option Nat)) (σ:St):St:=ix.map fun o=>match o with | none=>none | some i=>match σ[i]? with | some v=>v | none=>none
structure BlkOk (X:Cx) (N:List Str) (ix:List (Option Nat)) (scope:Scope):Prop where
 kind:scope.kind=.function
 nd:N.Nodup
 len:ix.length=N.length
 names:(scope.names.map (·.1)).Nodup
 free:∀ x,(x,NameKind.free)∈scope.names→X.env.kindOf x=some .cell∨X.env.kindOf x=some .free
 at_:∀ (j i:Nat) (x:Str),N[j]? =some x→ix[j]? =some (some i)→X.N[i]? =some x∧(x,NameKind.free)∈scope.names
theorem fO {α:Type}:∀ {l:List (Str × α)} {x:Str} {k:α},(l.map (·.1)).Nodup→(x,k)∈l→l.lookup x=some k
 | (y,k0)::r,x,k,nd,h=>by
  rw [List.map_cons,List.nodup_cons] at nd
  rw [List.lookup_cons]
  rcases List.mem_cons.mp h with e | e
  · cases e; simp
  · have:x≠y:=by
     rintro rfl
     exact nd.1 (List.mem_map.mpr ⟨(x,k),e,rfl⟩)
    have hb:(x==y)=false:=by simpa using this
    rw [hb]
    exact fO nd.2 e
theorem xb {X:Cx} {pins:List (Addr × Obj)} {σ:St} {H:Hp} {s:Shared} {N:List Str} {ix:List (Option Nat)} {scope:Scope} {cl:List (Str × Addr)} {fp:List Addr} (B:BlkOk X N ix scope)
  (I:Inv X pins σ H s) (hcl:∀ x c,cl.lookup x=some c→X.env.cells.lookup x=some c) (hcf:∀ x,(x,NameKind.free)∈scope.names→∃ c,cl.lookup x=some c)
  (hfp:∀ b∈fp,FpOk X pins H b) (hob:∀ b∈fp,∃ o,s.heap.get? b=some o∧∀ v,o.data≠.cell v):
  Inv (blkCx X N scope cl s H fp) [] (subσ ix σ) (upd H s.heap.objs.size (.lst []))
   { s with heap:=pushCells ((s.heap.push { cls:=.type "list",data:=.seq #[] }).push { cls:=.type "dict",data:=.dict #[] }) scope.names }:=by
 have hs2:(s.heap.push { cls:=.type "list",data:=.seq #[] }).objs.size=s.heap.objs.size+1:=Heap.size_push ..
 have hs3:((s.heap.push { cls:=.type "list",data:=.seq #[] }).push { cls:=.type "dict",data:=.dict #[] }).objs.size=s.heap.objs.size+2:=by rw [Heap.size_push,hs2]
 have hk:∀ b o,s.heap.get? b=some o→(pushCells ((s.heap.push { cls:=.type "list",data:=.seq #[] }).push { cls:=.type "dict",data:=.dict #[] }) scope.names).get? b=some o:=
  fun b o e=>pushCells_keeps _ _ b o (Heap.get?_push_of_some _ (Heap.get?_push_of_some _ e))
 have hl:(pushCells ((s.heap.push { cls:=.type "list",data:=.seq #[] }).push { cls:=.type "dict",data:=.dict #[] }) scope.names).get? s.heap.objs.size=some { cls:=.type "list",data:=.seq #[] }:=
  pushCells_keeps _ _ _ _ (Heap.get?_push_of_some _ (Heap.get?_push_size _ rfl))
 have ok0:=cellsFrom_ok scope.names ((s.heap.push { cls:=.type "list",data:=.seq #[] }).push { cls:=.type "dict",data:=.dict #[] }) (s.heap.objs.size+2) [] ⟨fun _ _ hm=>(nomatch hm),List.Pairwise.nil⟩ (by rw [hs3]; exact Nat.le_refl _)
 rw [hs3] at ok0
 have hcells:(blkCx X N scope cl s H fp).env.cells=cellsFrom (s.heap.objs.size+2) scope.names []++cl:=by
  show cellsFrom (s.heap.objs.size+1+1) scope.names cl=_
  rw [← List.nil_append cl,jz]
  simp
 have cases_:∀ x c,(blkCx X N scope cl s H fp).env.cells.lookup x=some c→((x,c)∈cellsFrom (s.heap.objs.size+2) scope.names []∧(x,NameKind.cell)∈scope.names)∨((cellsFrom (s.heap.objs.size+2) scope.names []).lookup x=none∧cl.lookup x=some c):=fun x c e=>by
  rw [hcells,dt] at e
  cases q:(cellsFrom (s.heap.objs.size+2) scope.names []).lookup x with
  | none=>rw [q] at e; exact .inr ⟨rfl,e⟩
  | some c'=>
   rw [q] at e
   cases e
   have m:=PySem.mem_of_lookup q
   refine .inl ⟨m,?_⟩
   rcases gZ _ _ _ m with z | z
   · exact z
   · exact nomatch z
 have oldc:∀ x c,cl.lookup x=some c→c < s.heap.objs.size:=fun x c e=>by
  obtain ⟨v,q⟩:=I.cell x c (hcl x c e)
  exact q.lt
 have hfree:H s.heap.objs.size=none:=I.hok.fresh (Nat.le_refl _)
 have hfix:∀ b,s.heap.objs.size < b→(upd H s.heap.objs.size (.lst [])) b=none:=fun b hb=>by
  rw [ar (Nat.ne_of_gt hb)]
  exact I.hok.fresh (Nat.le_of_lt hb)
 have hlt:∀ b∈fp,b < s.heap.objs.size:=fun b hb=>by
  obtain ⟨o,e,_⟩:=hob b hb
  exact Heap.lt_size e
 have e0:=I.env0
 have isnew:∀ x c,(x,c)∈cellsFrom (s.heap.objs.size+2) scope.names []→s.heap.objs.size+2≤c:=fun x c m=>(ok0.empty x c m).2
 refine ⟨⟨I.ok.mod,B.kind,I.ok.glob,I.ok.blt,Nat.le_succ _,fun x y c e1 e2=>?_,fun x hx=>?_,fun x c hx e=>?_,I.ok.hd,I.ok.frames,.inl rfl,fun b hb=>⟨?_,fun x c e=>?_⟩,e0.bs,e0.bsz,fun b o e hb=>?_,fun b hb hb2=>?_,e0.funs,e0.frf⟩,
  rfl,I.bare,Un.laid hk (Nat.le_refl _) hfree,⟨fun _=>none,?_,fun j x v e1 e2 e3=>?_⟩,fun x c e=>?_,hfix _ (Nat.lt_succ_self _),fun x c e=>?_,fun p hp=>absurd (show p∈([]:List (Addr × Obj)) from hp) (by simp),?_,?_⟩
 · rcases cases_ x c e1 with ⟨m1,k1⟩ | ⟨n1,q1⟩ <;> rcases cases_ y c e2 with ⟨m2,k2⟩ | ⟨n2,q2⟩
   · exact name_of_addr ok0.apart m1 m2
   · exact absurd (Nat.lt_of_lt_of_le (oldc _ _ q2) (Nat.le_trans (Nat.le_add_right _ _) (isnew _ _ m1))) (Nat.lt_irrefl _)
   · exact absurd (Nat.lt_of_lt_of_le (oldc _ _ q1) (Nat.le_trans (Nat.le_add_right _ _) (isnew _ _ m2))) (Nat.lt_irrefl _)
   · exact I.ok.inj x y c (hcl _ _ q1) (hcl _ _ q2)
 · have hx':(relabel scope X.env).names.lookup x=some .cell∨(relabel scope X.env).names.lookup x=some .free:=hx
   have key:scope.names.lookup x=some .cell∨scope.names.lookup x=some .free:=by
    rcases hx' with z | z
    · obtain ⟨k',e,r | r⟩:=kg z
      · rw [← r] at e; exact .inl e
      · rw [r.1] at e; exact .inr e
    · obtain ⟨k',e,r | r⟩:=kg z
      · rw [← r] at e; exact .inr e
      · cases r.2
   rw [hcells]
   rcases key with z | z
   · obtain ⟨c,q⟩:=lj (n:=s.heap.objs.size+2) z
     exact ⟨c,by rw [dt,q]⟩
   · obtain ⟨c,q⟩:=hcf x (PySem.mem_of_lookup z)
     cases q2:(cellsFrom (s.heap.objs.size+2) scope.names []).lookup x with
     | none=>exact ⟨c,by rw [dt,q2]; exact q⟩
     | some c'=>exact ⟨c',by rw [dt,q2]⟩
 · have hx':scope.names.lookup x=some .cell:=by simpa [blkCx] using hx
   rcases cases_ x c e with ⟨m1,k1⟩ | ⟨n1,q1⟩
   · exact Nat.le_trans (Nat.le_add_right _ _) (isnew _ _ m1)
   · obtain ⟨c',q⟩:=lj (n:=s.heap.objs.size+2) hx'
     rw [q] at n1; cases n1
 · exact Nat.ne_of_lt (Nat.lt_succ_of_lt (hlt b hb))
 · rcases cases_ x c e with ⟨m1,k1⟩ | ⟨n1,q1⟩
   · exact Nat.ne_of_gt (Nat.lt_of_lt_of_le (hlt b hb) (Nat.le_trans (Nat.le_add_right _ _) (isnew _ _ m1)))
   · exact (hfp b hb).2.2.2.2.1 x c (hcl _ _ q1)
 · rcases (hfp b hb).2.2.2.1 with z | z
   · exact I.ok.noex b o e z
   · exact absurd (Nat.lt_of_lt_of_le (Heap.lt_size e) (Nat.le_trans I.ok.bsz z)) (Nat.lt_irrefl _)
 · rcases List.mem_cons.mp (I.stkSub b hb2) with z | z
   · exact (hfp b hb).2.1 z
   · exact (hfp b hb).2.2.1 z
 · show Heap.Ns _ (s.heap.objs.size+1) _
   rw [← hs2]
   exact (Heap.Ns.new _ (.type "dict")).keeps (pushCells_keeps _ _)
 ·
   unfold subσ at e2
   rw [List.getElem?_map] at e2
   cases q:ix[j]? with
   | none=>rw [q] at e2; cases e2
   | some o=>
    rw [q] at e2
    cases o with
    | none=>cases e2
    | some i=>
     simp only [Option.map_some,Option.some.injEq] at e2
     obtain ⟨hN,hm⟩:=B.at_ j i x e1 q
     have hσ:σ[i]? =some (some v):=by
      cases q2:σ[i]? with
      | none=>rw [q2] at e2; cases e2
      | some z=>rw [q2] at e2; exact congrArg some e2
     obtain ⟨m,hn,hl'⟩:=I.loc
     have hkind:=B.free x hm
     have hvis:Vis X.env.scope x:=hkind.elim (fun z=>.inr (.inl z)) fun z=>.inr (.inr z)
     obtain ⟨u,ru,lk⟩:=hl' i x v hN hσ hvis
     refine ⟨u,ru,?_⟩
     obtain ⟨c,hc⟩:=hcf x hm
     have hnone:(cellsFrom (s.heap.objs.size+2) scope.names []).lookup x=none:=by
      cases q2:(cellsFrom (s.heap.objs.size+2) scope.names []).lookup x with
      | none=>rfl
      | some c'=>
       rcases gZ _ _ _ (PySem.mem_of_lookup q2) with z | z
       · have a1:=fO B.names z
         have a2:=fO B.names hm
         rw [a1] at a2; cases a2
       · exact nomatch z
     have hcell:(blkCx X N scope cl s H fp).env.cells.lookup x=some c:=by rw [hcells,dt,hnone]; exact hc
     have hkk:(blkCx X N scope cl s H fp).env.kindOf x=some .cell∨(blkCx X N scope cl s H fp).env.kindOf x=some .free:=by
      rcases e3 with z | z | z
      · obtain ⟨k',e,r | r⟩:=kg (show (relabel scope X.env).names.lookup x=some .local from z)
        · rw [fO B.names hm] at e; cases e; cases r
        · cases r.2
      · exact .inl z
      · exact .inr z
     refine .inr ⟨hkk,c,hcell,?_⟩
     rcases lk with ⟨k1,_⟩ | ⟨_,c2,e4,z⟩
     · rcases hkind with z | z <;> rw [k1] at z <;> cases z
     · rw [hcl x c hc] at e4; cases e4
       exact z.keeps hk
 · rcases cases_ x c e with ⟨m1,k1⟩ | ⟨n1,q1⟩
   · exact ⟨none,(ok0.empty x c m1).1⟩
   · obtain ⟨v,z⟩:=I.cell x c (hcl _ _ q1)
     exact ⟨v,z.keeps hk⟩
 · rcases cases_ x c e with ⟨m1,k1⟩ | ⟨n1,q1⟩
   · exact hfix c (Nat.lt_of_lt_of_le (Nat.lt_add_of_pos_right (by decide)) (isnew _ _ m1))
   · rw [ar (Nat.ne_of_lt (oldc _ _ q1))]
     exact I.freeC x c (hcl _ _ q1)
 · exact I.hok.laid hk (Nat.le_refl _) ⟨Nat.zero_le _,[],0,.nil,hl⟩
 · show (subσ ix σ).length=N.length
   unfold subσ
   rw [List.length_map]
   exact B.len
end L2
namespace L2
open PySem PySem.Spec PyProof.Rows
def PTs (X:Cx) (ifs:List Expr) (t:TT):Prop:=
 ∀ (pins:List (Addr × Obj)) (s:Shared) (σ:St) (H:Hp) (Q:Bool→Hp→Prop),Inv X pins σ H s→t σ H Q→
  wpAny (model X.prog X.w) X.A (forIn ifs true fun c r=>if r=true then do let ok ← isTrue c X.env (eval c X.env); pure (ForInStep.yield ok) else pure (ForInStep.yield r)) (TP X pins σ Q) X.xe s
def tTrue:TT:=fun _ H Q=>Q true H
theorem eQ {X:Cx}:PTs X [] tTrue:=fun _ _ _ H _ I h=>wpAny_tests_nil ⟨H,I,h⟩
theorem eV {X:Cx} {c:Expr} {t:TT} (h:PT X c t):PTs X [c] t:=fun pins s σ H Q I q=>wpAny_tests_one (h pins s σ H Q I q)
def sj (ix:List (Option Nat)) (wi:TI) (g:TG) (tt:TT) (te:TE) (fin:Addr→Hp→Prop):St→Hp→Prop:=fun σ H=>wi σ H fun J H1=>∀ l,H1 l=none→
 ∃ W:Nat→Nat→St→Hp→Prop,(∃ m,W 0 m (subσ ix σ) (upd H1 l (.lst [])))∧∀ i m σ' H',W i m σ' H'→
  (J.stop i H'∧fin l H')∨(J.go i H'∧∃ N:St→Hp→Prop,(∀ σ'' H'',N σ'' H''→∃ m',m' < m∧W (i+1) m' σ'' H'')∧∀ x H2,J.yld i H' x H2→g x σ' H2 fun σ2 H3=>tt σ2 H3 fun b H4=>
   if b=true then te σ2 H4 fun y H5=>∃ ys,H5 l=some (.lst ys)∧ys.length < sizeLine∧N σ2 (upd H5 l (.lst (ys++[y]))) else N σ2 H4)
section
variable {X:Cx} {pins:List (Addr × Obj)} {σ σ':St} {H H':Hp} {s s':Shared} {N:List Str} {scope:Scope} {cl:List (Str × Addr)} {fp:List Addr}
theorem u3 {h':Heap} (I:Inv X pins σ H s) (J:Inv (blkCx X N scope cl s H fp) [] σ' H' s') (hfp:∀ b∈fp,FpOk X pins H b) (sb:Heap.SameBut (s.heap.objs.size+1) s'.heap h'):Inv X pins σ H' { s' with heap:=h' }:=by
 have u:Un (frs X.stack) fp H H' s.heap s'.heap:=J.base
 have hC:H' (s.heap.objs.size+1)=none:=J.free
 have ne:∀ b o,s.heap.get? b=some o→b≠s.heap.objs.size+1:=fun b o e=>Nat.ne_of_lt (Nat.lt_succ_of_lt (Heap.lt_size e))
 refine I.call' (s':={ s' with heap:=h' }) (ch:=fp) J.os ⟨fun b o e n hb hx=>?_,fun b o e n hb hx=>?_,u.free,fun b o e hx=>?_,u.tups,u.frzs,u.tbls⟩ (fun b ob e=>?_) J.bare fun b hb=>?_
 · exact (sb.2 b (ne b o e)).trans (u.keep b o e n hb hx)
 · obtain ⟨sl,q⟩:=u.slot b o e n hb hx
   exact ⟨sl,(sb.2 b (ne b o e)).trans q⟩
 · obtain ⟨o',q⟩:=u.there b o e hx
   exact ⟨o',(sb.2 b (ne b o e)).trans q⟩
 · refine (J.hok b ob e).stay (fun c w' hc q=>(sb.2 c ?_).trans q) (fun _ q=>q) fun _ _ q=>q
   rintro rfl
   rcases hc with rfl | hc
   · rw [hC] at e; cases e
   · rw [hC] at hc; cases hc
 · obtain ⟨f0,f1,f2,f3,f4,f5⟩:=hfp b hb
   exact ⟨f3,f1,f4,f5⟩
theorem sk {tg iter elt:Expr} {ifs:List Expr} {pos:Pos} {ix:List (Option Nat)} {wi:TI} {g:TG} {tt:TT} {te:TE} {fin:Addr→Hp→Prop} {RR:Value→Addr→Result→Shared→Prop} (B:BlkOk X N ix scope) (hc:X.calm=true)
  (hi:PI X tg iter wi) (hg:∀ cl s H fp,PG (blkCx X N scope cl s H fp) tg g) (ht:∀ cl s H fp,PTs (blkCx X N scope cl s H fp) ifs tt) (he:∀ cl s H fp,PE (blkCx X N scope cl s H fp) elt te)
  (hcl:∀ x c,cl.lookup x=some c→X.env.cells.lookup x=some c) (hcf:∀ x,(x,NameKind.free)∈scope.names→∃ c,cl.lookup x=some c)
  (I:Inv X pins σ H s) (h:sj ix wi g tt te fin σ H)
  (ok:∀ (s2:Shared) (H2:Hp) (fp:List Addr) (σ3:St) (H3:Hp) (s3:Shared),Inv X pins σ H2 s2→(∀ b∈fp,FpOk X pins H2 b)→Inv (blkCx X N scope cl s2 H2 fp) [] σ3 H3 s3→fin s2.heap.objs.size H3→RR (.ref s2.heap.objs.size) (s2.heap.objs.size+1) (.ok .next) s3)
  (bad:∀ (a C:Addr) (x:Value) (s':Shared),(∃ m,s'.heap.Ns C m∧∀ h',Heap.SameBut C s'.heap h'→∀ cenv:Env,cenv.locals=C→wpAny (model X.prog X.w) X.A (passOn "comprehension.variables-let-go" x cenv:Sem Value) (fun _ _=>False) X.xe { s' with heap:=h' })→RR (.ref a) C (.error x) s'):
  wpAny (model X.prog X.w) X.A (eval iter X.env) (fun x s₁=>wpAny (model X.prog X.w) X.A (pyIter x) (fun it s₂=>wpAny (model X.prog X.w) X.A (newList []) (fun acc s₃=>
   wpAny (model X.prog X.w) X.A (newFunctionEnv scope X.env.globals cl [] X.env.qual none .none (some X.env)) (fun cenv s₄=>
    codeAny (model X.prog X.w) X.A (.compStart (.ListComp elt [⟨tg,iter,ifs,0⟩] scope pos) 0 it acc { cenv with scope:=relabel scope X.env }) (RR acc cenv.locals) s₄) X.xe s₃) X.xe s₂) X.xe s₁) X.xe s:=by
 refine thn (hi pins s σ H _ I h) fun v s1 h1=>thn h1 fun itv s2 h2=>?_
 obtain ⟨it,fp,tn,J,H2,e,I2,T,st2,f2,h2⟩:=h2
 subst e
 refine wpAny_newList (yr ?_) (Nat.zero_le _)
 have hs2:(s2.heap.push { cls:=.type "list",data:=.seq (([]:List Value)).toArray }).objs.size=s2.heap.objs.size+1:=Heap.size_push ..
 dsimp only
 rw [hs2]
 have I3:=xb (fp:=fp) B I2 hcl hcf f2 (T.obj _ _ st2)
 obtain ⟨W,⟨m0,w0⟩,turn⟩:=h2 s2.heap.objs.size I2.fresh
 have hk:∀ b o,s2.heap.get? b=some o→(pushCells ((s2.heap.push { cls:=.type "list",data:=.seq #[] }).push { cls:=.type "dict",data:=.dict #[] }) scope.names).get? b=some o:=
  fun b o e=>pushCells_keeps _ _ b o (Heap.get?_push_of_some _ (Heap.get?_push_of_some _ e))
 have st3:=T.keep _ _ _ st2 fun b _ o e=>hk b o e
 have fr3:∀ b∈fp,(upd H2 s2.heap.objs.size (.lst [])) b=none:=fun b hb=>by
  obtain ⟨o,e,_⟩:=T.obj _ _ st2 b hb
  rw [ar (Nat.ne_of_lt (Heap.lt_size e))]
  exact (f2 b hb).1
 have stat:∀ {σ5:St} {H5:Hp} {s5:Shared},Inv (blkCx X N scope cl s2 H2 fp) [] σ5 H5 s5→(∀ b∈fp,H5 b=none)→∀ b∈fp,FpOk (blkCx X N scope cl s2 H2 fp) [] H5 b:=fun I5 hn b hb=>
  ⟨hn b hb,(I5.ok.exf b hb).1,I5.ok.exfs b hb,.inl hb,(I5.ok.exf b hb).2,fun p hp=>absurd (show p∈([]:List (Addr × Obj)) from hp) (by simp)⟩
 have loop:∀ s₃:Shared,s₃={ s2 with heap:=pushCells ((s2.heap.push { cls:=.type "list",data:=.seq #[] }).push { cls:=.type "dict",data:=.dict #[] }) scope.names }→
   codeAny (model X.prog X.w) X.A (.compLoop (.ListComp elt [⟨tg,iter,ifs,0⟩] scope pos) 0 (.ref it) (.ref s2.heap.objs.size) (blkCx X N scope cl s2 H2 fp).env) (RR (.ref s2.heap.objs.size) (s2.heap.objs.size+1)) s₃:=by
  rintro s₃ rfl
  refine xa (fun n s'=>∃ i σ' H',Inv (blkCx X N scope cl s2 H2 fp) [] σ' H' s'∧tn i s'.heap∧(∀ b∈fp,H' b=none)∧W i n σ' H') ?_ m0 ⟨0,_,_,I3,st3,fr3,w0⟩
  rintro n s4 ⟨i,σ4,H4,I4,st4,fr4,w4⟩
  have xe_:∀ x s',(blkCx X N scope cl s2 H2 fp).xe x s'→notedBy (model X.prog X.w) X.A (blkCx X N scope cl s2 H2 fp).env (fun e s'=>RR (.ref s2.heap.objs.size) (s2.heap.objs.size+1) (.error e) s') x s':=fun x s' hx=>
   wpAny_mono (hx ⟨pins,σ,I2,f2⟩) (fun _ s'' q=>bad _ _ _ _ q) fun e s'' q=>bad _ _ _ _ q
  rcases turn i n σ4 H4 w4 with ⟨stop,qn⟩ | ⟨go,Nx,hN,step⟩
  · refine wpAny_mono (T.done (blkCx X N scope cl s2 H2 fp) rfl rfl rfl hc i [] s4 σ4 H4 _ I4 (stat I4 fr4) st4 stop) (fun r s5 ⟨hr,I5⟩=>?_) xe_
    subst hr
    exact ok s2 H2 fp σ4 H4 s5 I2 f2 I5 qn
  · refine wpAny_mono (T.item (blkCx X N scope cl s2 H2 fp) rfl rfl rfl hc i [] s4 σ4 H4 _ I4 (stat I4 fr4) st4 go) (fun r s5 ⟨u,hr,h5⟩=>?_) xe_
    subst hr
    refine wpAny_mono h5 (fun _ s6 ⟨x,H6,I6,r6,y6,st6,fr6⟩=>?_) xe_
    have I6':=I6.pinned (stat I6 fr6) (T.obj _ _ st6)
    refine wpAny_mono (hg cl s2 H2 fp _ s6 σ4 H6 x u _ I6' r6 (step x H6 y6)) (fun _ s7 ⟨σ7,H7,I7,q7⟩=>?_) xe_
    have again:∀ {σ8:St} {H8:Hp} {s8:Shared},Inv (blkCx X N scope cl s2 H2 fp) ([]++lS fp s6.heap) σ8 H8 s8→Nx σ8 H8→∃ m,m < n∧∃ i σ' H',Inv (blkCx X N scope cl s2 H2 fp) [] σ' H' s8∧tn i s8.heap∧(∀ b∈fp,H' b=none)∧W i m σ' H':=fun {σ8 H8 s8} I8 n8=>by
     obtain ⟨m',hm,w8⟩:=hN σ8 H8 n8
     refine ⟨m',hm,i+1,σ8,H8,I8.unpinned,T.keep _ _ _ st6 fun b hb o e=>(I8.pin (b,o) (List.mem_append_right _ (List.mem_append_right _ (jB hb e)))).1,fun b hb=>?_,w8⟩
     obtain ⟨o,e,d⟩:=T.obj _ _ st6 b hb
     exact (I8.pin (b,o) (List.mem_append_right _ (List.mem_append_right _ (jB hb e)))).2.1
    refine wpAny_mono (ht cl s2 H2 fp _ s7 σ7 H7 _ I7 q7) (fun okb s8 ⟨H8,I8,q8⟩=>?_) xe_
    cases okb with
    | false=>exact again I8 q8
    | true=>
     refine wpAny_mono (he cl s2 H2 fp _ s8 σ7 H8 _ I8 q8) (fun y s9 ⟨yv,H9,I9,r9,ys,hl,hz,q9⟩=>?_) xe_
     refine wpAny_mono (qN (X:=blkCx X N scope cl s2 H2 fp) _ s9 σ7 H9 (.ref s2.heap.objs.size) [yv] (.ref s2.heap.objs.size) [y] (fun _ H10=>Nx σ7 H10) I9 rfl (.cons r9 .nil) ⟨_,ys,yv,rfl,rfl,hl,hz,q9⟩) (fun _ s10 ⟨_,H10,I10,_,q10⟩=>?_) xe_
     exact again I10 q10
 exact codeAny_compStart_list (loop _ rfl) (T.self _ 0 _ _ _ st3 (loop _ rfl))
def tComp (ix:List (Option Nat)) (wi:TI) (g:TG) (tt:TT) (te:TE):TE:=fun σ H Q=>sj ix wi g tt te (fun l H'=>Q (.ref l) H') σ H
def sComp (k:Nat) (ix:List (Option Nat)) (wi:TI) (g:TG) (tt:TT) (te:TE):TS:=fun D σ H=>sj ix wi g tt te (fun l H'=>D.nx (σ.set k (some (.ref l))) H') σ H
theorem u4 (I:Inv X pins σ H s) {ix:List (Option Nat)} (B:BlkOk X N ix scope):∃ cl,closureFor scope X.env=pure cl∧(∀ x c,cl.lookup x=some c→X.env.cells.lookup x=some c)∧∀ x,(x,NameKind.free)∈scope.names→∃ c,cl.lookup x=some c:=
 vD fun x hx=>I.ok.has x (B.free x hx)
theorem nw {ix:List (Option Nat)} (B:BlkOk X N ix scope):∀ x∈scope.names,x.2=NameKind.local→scope.names.lookup x.1=some .local:=fun x hx e=>by
 obtain ⟨n,k⟩:=x
 cases e
 exact fO B.names hx
theorem cC {tg iter elt:Expr} {ifs:List Expr} {pos:Pos} {ix:List (Option Nat)} {wi:TI} {g:TG} {tt:TT} {te:TE} (N:List Str) (B:BlkOk X N ix scope) (hc:X.calm=true)
  (hi:PI X tg iter wi) (hg:∀ cl s H fp,PG (blkCx X N scope cl s H fp) tg g) (ht:∀ cl s H fp,PTs (blkCx X N scope cl s H fp) ifs tt) (he:∀ cl s H fp,PE (blkCx X N scope cl s H fp) elt te)
  (hs:∀ x,foldedSetIterable iter X.env x=pure x:=by intro _; rfl):PE X (.ListComp elt [⟨tg,iter,ifs,0⟩] scope pos) (tComp ix wi g tt te):=by
 intro pins s σ H Q I h
 obtain ⟨cl,e1,e2,e3⟩:=u4 I B
 rw [eval_ListComp]
 refine wpAny_comprehension_free (use:=none) rfl hs e1 B.kind (nw B) ?_
 refine sk (RR:=fun acc C=>compPost (model X.prog X.w) X.A X.xe none (EP X pins σ Q) acc C) B hc hi hg ht he e2 e3 I h (fun s2 H2 fp σ3 H3 s3 I2 f2 J q=>?_) (fun a C x s' q=>q)
 obtain ⟨m,hn,_⟩:=J.loc
 exact ⟨m,hn,fun h' sb=>⟨.ref _,H3,u3 I2 J f2 sb,rfl,q⟩⟩
theorem i8 {y:Str} {py spos:Pos} {k:Nat} {tg iter elt:Expr} {ifs:List Expr} {pos:Pos} {ix:List (Option Nat)} {wi:TI} {g:TG} {tt:TT} {te:TE} (hN:X.N.Nodup) (hy:X.N[k]? =some y) (hx:Loc X.env.scope y)
  (hsw:swapsWith (.ListComp elt [⟨tg,iter,ifs,0⟩] scope pos) (some (.Name y py)) spos.line X.env=pure true) (N:List Str) (B:BlkOk X N ix scope) (hc:X.calm=true)
  (hi:PI X tg iter wi) (hg:∀ cl s H fp,PG (blkCx X N scope cl s H fp) tg g) (ht:∀ cl s H fp,PTs (blkCx X N scope cl s H fp) ifs tt) (he:∀ cl s H fp,PE (blkCx X N scope cl s H fp) elt te)
  (hs:∀ x,foldedSetIterable iter X.env x=pure x:=by intro _; rfl) (hf:X.fn y=true∨X.env.scope.names.lookup y=some .local:=by first | exact .inl rfl | exact .inr rfl | assumption):
  PS X (.Assign [.Name y py] (.ListComp elt [⟨tg,iter,ifs,0⟩] scope pos) spos) (sComp k ix wi g tt te):=by
 intro pins s σ H D I h
 obtain ⟨cl,e1,e2,e3⟩:=u4 I B
 rw [exec_Assign_Name_used _ _ _ _ hsw]
 refine wpAny_bind (wpAny_standAt (wpAny_bind ?_))
 show wpAny _ X.A (do let _ ← comprehension (.ListComp elt [⟨tg,iter,ifs,0⟩] scope pos) scope X.env _ (newList []) false (eval iter X.env) (some (assign (.Name y py) X.env))) _ _ s
 refine wpAny_bind (wpAny_mono (wpAny_comprehension_free (use:=some (assign (.Name y py) X.env)) (Q:=fun _ s'=>SP X pins D .next s') rfl hs e1 B.kind (nw B) ?_) (fun _ s' hq=>wpAny_pure (wpAny_pure hq)) fun _ _ e=>e)
 refine sk (RR:=fun acc C=>compPost (model X.prog X.w) X.A X.xe (some (assign (.Name y py) X.env)) (fun _ s'=>SP X pins D .next s') acc C) B hc hi hg ht he e2 e3 I h (fun s2 H2 fp σ3 H3 s3 I2 f2 J q=>?_) (fun a C x s' q=>q)
 obtain ⟨m,hn,_⟩:=J.loc
 have I3:Inv X pins σ H3 { s3 with heap:=s3.heap }:=u3 I2 J f2 (Heap.SameBut.refl _ _)
 show wpAny _ X.A (assign (.Name y py) X.env (.ref _)) _ _ _
 refine wpAny_assign_Name (qG (v:=.ref _) I3 hN hy hx rfl (fun s4 I4 ⟨a,sb4,ha⟩=>?_) hf)
 have hlt:a < s2.heap.objs.size:=by
  rcases ha with rfl | ha
  · exact I2.lt
  · obtain ⟨v,z⟩:=I2.cell _ _ ha
    exact z.lt
 have hCa:s2.heap.objs.size+1≠a:=Nat.ne_of_gt (Nat.lt_succ_of_lt hlt)
 refine ⟨m,hn.sameBut sb4 hCa,fun h' sb=>?_⟩
 refine ⟨_,H3,I4.turned (t':=s4.toks) (it:=s2.heap.objs.size+1) (fun b o hb e=>(sb.2 b hb).trans e) J.free (Nat.ne_of_gt (Nat.lt_succ_of_lt I2.lt)) (.inr (Nat.le_trans I2.sz (Nat.le_succ _))) (fun x c e=>?_) (fun p hp=>?_),q⟩
 · obtain ⟨v,z⟩:=I2.cell x c e
   exact Nat.ne_of_lt (Nat.lt_succ_of_lt z.lt)
 · exact Nat.ne_of_lt (Nat.lt_succ_of_lt (Heap.lt_size (I2.pin p hp).1))
end
end L2
namespace L2
open PySem PySem.Spec PyProof.Rows
def bnd {α:Type}:Option α→(α→Prop)→Prop
 | some a,k=>k a
 | none,_=>False
theorem bt {α:Type} {o:Option α} {a:α} {k:α→Prop} (h:o=some a) (q:k a):bnd o k:=by subst h; exact q
theorem bE {α:Type} {o:Option α} {k:α→Prop} (h:bnd o k):∃ a,o=some a∧k a:=by
 cases o with
 | none=>exact h.elim
 | some a=>exact ⟨a,rfl,h⟩
theorem d6 {α:Type} {a:α} {k:α→Prop}:bnd (some a) k=k a:=rfl
def unM:Option HO→Option (List V)
 | some (.lst xs)=>some xs
 | _=>none
def unL:Option HO→Option (List V)
 | some (.lst xs)=>some xs
 | some (.frz _ (.lst xs))=>some xs
 | _=>none
def unS:Option HO→Option (List V)
 | some (.lst xs)=>some xs
 | some (.frz _ (.lst xs))=>some xs
 | some (.tup xs)=>some xs
 | _=>none
theorem kh {o:Option HO} {xs:List V} (h:unM o=some xs):o=some (.lst xs):=by
 unfold unM at h; split at h
 · cases h; rfl
 · cases h
theorem sm {K:PySem.W.Frag} {H:Hp} {p:Addr} {xs:List V} (h:unL (H p)=some xs):SqL K H p xs:=by
 unfold unL at h; split at h
 · rename_i e; cases h; exact .inl (.inl e)
 · rename_i o _ e; cases h; exact .inl (.inr ⟨_,e⟩)
 · cases h
theorem kR {K:PySem.W.Frag} {H:Hp} {p:Addr} {xs:List V} (h:unS (H p)=some xs):SqL K H p xs∨SqT K H p xs:=by
 unfold unS at h; split at h
 · rename_i e; cases h; exact .inl (.inl (.inl e))
 · rename_i o _ e; cases h; exact .inl (.inl (.inr ⟨_,e⟩))
 · rename_i e; cases h; exact .inr (.inl (.inl e))
 · cases h
mutual
inductive DV (K:PySem.W.Frag) (H:Hp):V→PyData→Prop
 | non:DV K H .non .none
 | bl (b:Bool):DV K H (.bl b) (.bool b)
 | int (i:Int):DV K H (.int i) (.int i)
 | str (x:Str):DV K H (.str x) (.str x)
 | lst {a:Addr} {xs:List V} {ds:List PyData}:SqL K H a xs→DVs K H xs ds→DV K H (.ref a) (.list ds)
 | tup {a:Addr} {xs:List V} {ds:List PyData}:SqT K H a xs→DVs K H xs ds→DV K H (.ref a) (.tuple ds)
inductive DVs (K:PySem.W.Frag) (H:Hp):List V→List PyData→Prop
 | nil:DVs K H [] []
 | cons {x:V} {d:PyData} {xs:List V} {ds:List PyData}:DV K H x d→DVs K H xs ds→DVs K H (x::xs) (d::ds)
end
section
variable {X:Cx} {pins:List (Addr × Obj)} {σ:St} {H:Hp} {s:Shared}
mutual
theorem DV.reads (I:Inv X pins σ H s):∀ {x:V} {d:PyData} {v:Value},DV X.K H x d→RelV x v→∃ as,Reads s.heap v d as
 | _,_,_,.non,r=>by cases r; exact ⟨_,.none⟩
 | _,_,_,.bl b,r=>by cases r; exact ⟨_,.bool b⟩
 | _,_,_,.int i,r=>by obtain ⟨t,rfl⟩:=r; exact ⟨_,.int i t⟩
 | _,_,_,.str x,r=>by obtain ⟨t,rfl⟩:=r; exact ⟨_,.str x t⟩
 | _,_,_,.lst (a:=a) h hs,r=>by
  cases r
  obtain ⟨its,rv,p,_⟩:=I.list h
  obtain ⟨as,q⟩:=DVs.reads I hs rv
  obtain ⟨o,h1,h2,n,h3⟩:=p.isList
  exact ⟨_,.list h1 h2 h3 q⟩
 | _,_,_,.tup (a:=a) h hs,r=>by
  cases r
  obtain ⟨its,rv,p,_⟩:=I.tuple h
  obtain ⟨as,q⟩:=DVs.reads I hs rv
  obtain ⟨o,h1,h2,n,h3⟩:=p
  exact ⟨_,.tuple h1 h2 h3 q⟩
theorem DVs.reads (I:Inv X pins σ H s):∀ {xs:List V} {ds:List PyData} {us:List Value},DVs X.K H xs ds→Vals xs us→∃ as,ReadsAll s.heap us ds as
 | _,_,_,.nil,.nil=>⟨_,.nil⟩
 | _,_,_,.cons h hs,.cons r rs=>by
  obtain ⟨as,q⟩:=DV.reads I h r
  obtain ⟨bs,q2⟩:=DVs.reads I hs rs
  exact ⟨_,.cons q q2⟩
end
end
theorem DVs.ints {K:PySem.W.Frag} {H:Hp}:∀ ns:List Int,DVs K H (ns.map V.int) (ns.map PyData.int)
 | []=>.nil
 | n::r=>.cons (.int n) (DVs.ints r)
theorem sn:∀ ns ms:List Int,PyData.eqvAll (ns.map PyData.int) (ms.map PyData.int)=decide (ns=ms):=PySem.W.ked_eqvAll
theorem nI:∀ ns:List Int,PyData.canLayAll0 (ns.map PyData.int)=true
 | []=>rfl
 | n::r=>by rw [List.map_cons,PyData.canLayAll0,nI r]; rfl
theorem ln:∀ ns:List Int,PyData.depthAll (ns.map PyData.int)=0
 | []=>rfl
 | n::r=>by rw [List.map_cons,PyData.depthAll,ln r]; rfl
theorem jm (ns:List Int):SeqAt.shaped (.list (ns.map PyData.int))=true:=by
 simp [SeqAt.shaped,PyData.canLay0,nI,PyData.depth,ln]
def cAdd:R2
 | .int i,.int j,H,Q=>Q (.int (i+j)) H
 | .str i,.str j,H,Q=>i.length+j.length≤sizeLine∧Q (.str (i++j)) H
 | .ref l,.ref b,H,Q=>bnd (unM (H l)) fun xs=>bnd (unM (H b)) fun zs=>xs.length+zs.length≤sizeLine∧∀ p,H p=none→Q (.ref p) (upd H p (.lst (xs++zs)))
 | _,_,_,_=>False
def cSub:R2
 | .int i,.int j,H,Q=>Q (.int (i - j)) H
 | _,_,_,_=>False
def cMul:R2
 | .int i,.int j,H,Q=>CMul i j∧Q (.int (i*j)) H
 | _,_,_,_=>False
def cDiv:R2
 | .int i,.int j,H,Q=>CDiv i j∧Q (.int (i / j)) H
 | _,_,_,_=>False
def cMod:R2
 | .int i,.int j,H,Q=>0 < j∧Q (.int (i % j)) H
 | _,_,_,_=>False
def cPow:R2
 | .int i,.int j,H,Q=>CPow i j∧Q (.int (i^j.toNat)) H
 | _,_,_,_=>False
def cCmp (g:Int→Int→Bool):R2
 | .int i,.int j,H,Q=>Q (.bl (g i j)) H
 | _,_,_,_=>False
def rEqD (K:PySem.W.Frag):R2:=fun x y H Q=>∃ d e,DV K H x d∧DV K H y e∧SeqAt.shaped d=true∧SeqAt.shaped e=true∧Q (.bl (PyData.eqv d e)) H
def rNeD (K:PySem.W.Frag):R2:=fun x y H Q=>∃ d e,DV K H x d∧DV K H y e∧SeqAt.shaped d=true∧SeqAt.shaped e=true∧Q (.bl (!PyData.eqv d e)) H
def cEq (K:PySem.W.Frag):R2
 | .int i,.int j,H,Q=>Q (.bl (decide (i=j))) H
 | .bl i,.bl j,H,Q=>Q (.bl (decide (i=j))) H
 | .str i,.str j,H,Q=>Q (.bl (decide (i=j))) H
 | x,y,H,Q=>rEqD K x y H Q
def cNe (K:PySem.W.Frag):R2
 | .int i,.int j,H,Q=>Q (.bl (!decide (i=j))) H
 | .bl i,.bl j,H,Q=>Q (.bl (!decide (i=j))) H
 | .str i,.str j,H,Q=>Q (.bl (!decide (i=j))) H
 | x,y,H,Q=>rNeD K x y H Q
def rInD (K:PySem.W.Frag) (neg:Bool):R2:=fun x y H Q=>∃ d ds,DV K H x d∧(DV K H y (.list ds)∨DV K H y (.tuple ds))∧PyData.canLayAll0 ds=true∧PyData.canLay0 d=true∧min (PyData.depthAll ds) d.depth≤62∧
 Q (.bl (if neg then !ds.any (fun y=>PyData.eqv y d) else ds.any fun y=>PyData.eqv y d)) H
def keyOf:V→Option Key
 | .int i=>some (.inl i)
 | .str x=>some (.inr x)
 | _=>none
def unD:Option HO→Option (List (Key × V))
 | some (.dK kvs)=>some kvs
 | _=>none
def cIn (K:PySem.W.Frag) (neg:Bool):R2
 | .ref a,y,H,Q=>rInD K neg (.ref a) y H Q
 | x,.ref p,H,Q=>(match unD (H p) with
  | some kvs=>bnd (keyOf x) fun k=>Q (.bl (if neg then !(valV kvs k).isSome else (valV kvs k).isSome)) H
  | none=>bnd (unS (H p)) fun xs=>flatV x=true∧xs.all flatV=true∧Q (.bl (if neg then !inV x xs else inV x xs)) H)
 | .str i,.str j,H,Q=>Q (.bl (if neg then !(!(Builtin.Str.occurrences j i 0 j.length 1).isEmpty) else !(Builtin.Str.occurrences j i 0 j.length 1).isEmpty)) H
 | _,_,_,_=>False
def cIx:R2
 | .ref p,y,H,Q=>(match unD (H p) with
  | some kvs=>bnd (keyOf y) fun k=>bnd (valV kvs k) fun v=>Q v H
  | none=>match y with
   | .int i=>bnd (unS (H p)) fun xs=>bnd (atI xs i) fun v=>Q v H
   | _=>False)
 | .str z,.int i,H,Q=>z.length≤sizeLine∧bnd (atI z.cps.toList i) fun c=>Q (.str ⟨#[c]⟩) H
 | _,_,_,_=>False
theorem oQ {o:Option HO} {kvs:List (Key × V)} (h:unD o=some kvs):o=some (.dK kvs):=by
 unfold unD at h; split at h
 · cases h; rfl
 · cases h
theorem nJ {x:V} {k:Key} (h:keyOf x=some k):x=kV k:=by
 unfold keyOf at h; split at h
 · cases h; rfl
 · cases h; rfl
 · cases h
section
variable {X:Cx} {a b c:Expr} {ta tb tc:TE} {pos:Pos}
theorem aF:OpR X (binaryOp .Add) cAdd:=by
 intro pins s σ H x y v u Q I rx ry h
 unfold cAdd at h
 split at h
 · exact zQ pins s σ H _ _ v u Q I rx ry ⟨_,_,rfl,rfl,h⟩
 · exact vt pins s σ H _ _ v u Q I rx ry ⟨_,_,rfl,rfl,h.1,h.2⟩
 · obtain ⟨xs,e1,h⟩:=bE h
   obtain ⟨zs,e2,h⟩:=bE h
   exact z5 pins s σ H _ _ v u Q I rx ry ⟨_,_,xs,zs,rfl,rfl,kh e1,kh e2,h.1,h.2⟩
 · exact h.elim
theorem bD:OpR X (binaryOp .Sub) cSub:=by
 intro pins s σ H x y v u Q I rx ry h
 unfold cSub at h
 split at h
 · exact zR pins s σ H _ _ v u Q I rx ry ⟨_,_,rfl,rfl,h⟩
 · exact h.elim
theorem cr:OpR X (binaryOp .Mult) cMul:=by
 intro pins s σ H x y v u Q I rx ry h
 unfold cMul at h
 split at h
 · exact zS pins s σ H _ _ v u Q I rx ry ⟨_,_,rfl,rfl,h.1,h.2⟩
 · exact h.elim
theorem bo:OpR X (binaryOp .FloorDiv) cDiv:=by
 intro pins s σ H x y v u Q I rx ry h
 unfold cDiv at h
 split at h
 · exact y7 pins s σ H _ _ v u Q I rx ry ⟨_,_,rfl,rfl,h.1,h.2⟩
 · exact h.elim
theorem aO:OpR X (binaryOp .Mod) cMod:=by
 intro pins s σ H x y v u Q I rx ry h
 unfold cMod at h
 split at h
 · exact zT pins s σ H _ _ v u Q I rx ry ⟨_,_,rfl,rfl,h.1,h.2⟩
 · exact h.elim
theorem mR {op:CmpOp} {g:Int→Int→Bool} (o:OpR X (compareOp op) (rI0 fun i j=>.bl (g i j))):OpR X (compareOp op) (cCmp g):=by
 intro pins s σ H x y v u Q I rx ry h
 unfold cCmp at h
 split at h
 · exact o pins s σ H _ _ v u Q I rx ry ⟨_,_,rfl,rfl,h⟩
 · exact h.elim
theorem cQ:OpR X (compareOp .Lt) (cCmp fun i j=>decide (i < j)):=mR AF
theorem gw:OpR X (compareOp .LtE) (cCmp fun i j=>decide (i≤j)):=mR AG
theorem eX:OpR X (compareOp .Gt) (cCmp fun i j=>decide (j < i)):=mR AH
theorem so:OpR X (compareOp .GtE) (cCmp fun i j=>decide (j≤i)):=mR AI
theorem z8 (hu:X.A.units+64 < cLine):OpR X (compareOp .Eq) (rEqD X.K):=by
 intro pins s σ H x y v u Q I rx ry h
 obtain ⟨d,e,h1,h2,h3,h4,q⟩:=h
 obtain ⟨as,r1⟩:=h1.reads I rx
 obtain ⟨bs,r2⟩:=h2.reads I ry
 exact eq_dataH r1 r2 h3 h4 hu ⟨.bl _,H,I,rfl,q⟩
theorem z9 (hu:X.A.units+64 < cLine):OpR X (compareOp .NotEq) (rNeD X.K):=by
 intro pins s σ H x y v u Q I rx ry h
 obtain ⟨d,e,h1,h2,h3,h4,q⟩:=h
 obtain ⟨as,r1⟩:=h1.reads I rx
 obtain ⟨bs,r2⟩:=h2.reads I ry
 exact ne_dataH r1 r2 h3 h4 hu ⟨.bl _,H,I,rfl,q⟩
theorem aN (hu:X.A.units+64 < cLine):OpR X (compareOp .Eq) (cEq X.K):=by
 intro pins s σ H x y v u Q I rx ry h
 unfold cEq at h
 split at h
 · refine vp pins s σ H _ _ v u Q I rx ry ⟨rfl,?_⟩
   simpa using h
 · refine vp pins s σ H _ _ v u Q I rx ry ⟨rfl,?_⟩
   simpa using h
 · refine vp pins s σ H _ _ v u Q I rx ry ⟨rfl,?_⟩
   simpa using h
 · exact z8 hu pins s σ H _ _ v u Q I rx ry h
theorem bh (hu:X.A.units+64 < cLine):OpR X (compareOp .NotEq) (cNe X.K):=by
 intro pins s σ H x y v u Q I rx ry h
 unfold cNe at h
 split at h
 · refine vq pins s σ H _ _ v u Q I rx ry ⟨rfl,?_⟩
   simpa using h
 · refine vq pins s σ H _ _ v u Q I rx ry ⟨rfl,?_⟩
   simpa using h
 · refine vq pins s σ H _ _ v u Q I rx ry ⟨rfl,?_⟩
   simpa using h
 · exact z9 hu pins s σ H _ _ v u Q I rx ry h
theorem Aa (hu:X.A.units+64 < cLine):OpR X (compareOp .In) (rInD X.K false):=by
 intro pins s σ H x y v u Q I rx ry h
 obtain ⟨d,ds,h1,h2,h3,h4,h5,q⟩:=h
 obtain ⟨as,r1⟩:=h1.reads I rx
 rcases h2 with h2 | h2
 · obtain ⟨bs,r2⟩:=h2.reads I ry
   exact SeqAt.in_list_reads r2 r1 h3 h4 (by omega) ⟨.bl _,H,I,rfl,q⟩
 · obtain ⟨bs,r2⟩:=h2.reads I ry
   exact SeqAt.in_tuple_reads r2 r1 h3 h4 (by omega) ⟨.bl _,H,I,rfl,q⟩
theorem xf (hu:X.A.units+64 < cLine):OpR X (compareOp .NotIn) (rInD X.K true):=by
 intro pins s σ H x y v u Q I rx ry h
 obtain ⟨d,ds,h1,h2,h3,h4,h5,q⟩:=h
 obtain ⟨as,r1⟩:=h1.reads I rx
 rcases h2 with h2 | h2
 · obtain ⟨bs,r2⟩:=h2.reads I ry
   exact SeqAt.notIn_list_reads r2 r1 h3 h4 (by omega) ⟨.bl _,H,I,rfl,q⟩
 · obtain ⟨bs,r2⟩:=h2.reads I ry
   exact SeqAt.notIn_tuple_reads r2 r1 h3 h4 (by omega) ⟨.bl _,H,I,rfl,q⟩
theorem ki (hu:X.A.units+64 < cLine):OpR X (compareOp .In) (cIn X.K false):=by
 intro pins s σ H x y v u Q I rx ry h
 unfold cIn at h
 split at h
 · exact Aa hu pins s σ H _ _ v u Q I rx ry h
 · rename_i p hx
   split at h
   · rename_i kvs e
     obtain ⟨k,ek,q⟩:=bE h
     cases (show u=Value.ref p from ry)
     have g:DGet H p x (valV kvs k):=by rw [nJ ek]; exact DGet.k (oQ e)
     exact AX (Nat.lt_of_le_of_lt (Nat.add_le_add_left (by decide:1≤64) _) hu) I g rx fun s' I'=>⟨.bl _,H,I',rfl,q⟩
   · obtain ⟨xs,e,f1,f2,q⟩:=bE h
     exact lW pins s σ H _ _ v u Q I rx ry ⟨p,xs,rfl,kR e,f1,f2,q⟩
 · exact wO pins s σ H _ _ v u Q I rx ry ⟨_,_,rfl,rfl,h⟩
 · exact h.elim
theorem gx (hu:X.A.units+64 < cLine):OpR X (compareOp .NotIn) (cIn X.K true):=by
 intro pins s σ H x y v u Q I rx ry h
 unfold cIn at h
 split at h
 · exact xf hu pins s σ H _ _ v u Q I rx ry h
 · rename_i p hx
   split at h
   · rename_i kvs e
     obtain ⟨k,ek,q⟩:=bE h
     cases (show u=Value.ref p from ry)
     have g:DGet H p x (valV kvs k):=by rw [nJ ek]; exact DGet.k (oQ e)
     exact zh (Nat.lt_of_le_of_lt (Nat.add_le_add_left (by decide:1≤64) _) hu) I g rx fun s' I'=>⟨.bl _,H,I',rfl,q⟩
   · obtain ⟨xs,e,f1,f2,q⟩:=bE h
     exact lX pins s σ H _ _ v u Q I rx ry ⟨p,xs,rfl,kR e,f1,f2,q⟩
 · exact se pins s σ H _ _ v u Q I rx ry ⟨_,_,rfl,rfl,h⟩
 · exact h.elim
end
end L2
namespace L2
open PySem PySem.Spec PyProof.Rows
section
variable {X:Cx} {a b c:Expr} {ta tb tc:TE} {pos:Pos}
theorem aw (hu:X.A.units+64 < cLine):IxR X cIx:=by
 intro value slice pins s σ H x y v u Q I rx ry h hs
 cases x with
 | ref p=>
  unfold cIx at h
  dsimp only at h
  split at h
  · rename_i kvs e
    obtain ⟨k,ek,h⟩:=bE h
    obtain ⟨z,ez,q⟩:=bE h
    cases (show v=Value.ref p from rx)
    have g:DGet H p y (some z):=by rw [nJ ek,← ez]; exact DGet.k (oQ e)
    exact tail_any (uk I g) PySem.F.slot_dict_getitem.lookup (wY (Nat.lt_of_le_of_lt (Nat.add_le_add_left (by decide:1≤64) _) hu) I g ry fun w' s3 I3 rw'=>⟨z,H,I3,rw',q⟩) hs
  · split at h
    · obtain ⟨xs,e,h⟩:=bE h
      obtain ⟨z,ez,q⟩:=bE h
      rcases kR (K:=X.K) e with r | r
      · exact u1 value slice pins s σ H _ _ v u Q I rx ry ⟨p,xs,_,z,rfl,rfl,r,ez,q⟩ hs
      · exact zY value slice pins s σ H _ _ v u Q I rx ry ⟨p,xs,_,z,rfl,rfl,r,ez,q⟩ hs
    · exact h.elim
 | str zz=>
  cases y with
  | int i=>
   obtain ⟨hz,h⟩:=(show zz.length≤sizeLine∧bnd (atI zz.cps.toList i) fun c=>Q (.str ⟨#[c]⟩) H from h)
   obtain ⟨z,ez,q⟩:=bE h
   exact zZ value slice pins s σ H _ _ v u Q I rx ry ⟨_,_,z,rfl,rfl,hz,ez,q⟩ hs
  | _=>exact False.elim h
 | _=>exact False.elim h
def kLen:List V→Hp→VK→Prop
 | [.ref p],H,Q=>(match unD (H p) with
  | some kvs=>Q (.int kvs.length) H
  | none=>bnd (unS (H p)) fun xs=>Q (.int xs.length) H)
 | [.str z],H,Q=>z.length≤sizeLine∧Q (.int z.length) H
 | _,_,_=>False
theorem aH:CallR X (.builtin "len") kLen:=by
 intro pins s σ H xs us Q I r h
 unfold kLen at h
 split at h
 · split at h
   · rename_i kvs e
     exact w5 pins s σ H _ us Q I r ⟨_,kvs,rfl,oQ e,h⟩
   · obtain ⟨ys,e,q⟩:=bE h
     exact io pins s σ H _ us Q I r ⟨_,ys,rfl,kR e,q⟩
 · exact sf pins s σ H _ us Q I r ⟨_,rfl,h.1,h.2⟩
 · exact h.elim
def kAbs:List V→Hp→VK→Prop
 | [.int i],H,Q=>Q (.int (if i < 0 then -i else i)) H
 | _,_,_=>False
def kMin:List V→Hp→VK→Prop
 | [.int i,.int j],H,Q=>Q (.int (if j < i then j else i)) H
 | _,_,_=>False
theorem xg (hc:X.calm=true):CallR X (.builtin "min") kMin:=by
 intro pins s σ H xs us Q I r h
 unfold kMin at h
 split at h
 · exact wP hc pins s σ H _ us Q I r ⟨_,_,rfl,h⟩
 · exact h.elim
def kMax:List V→Hp→VK→Prop
 | [.int i,.int j],H,Q=>Q (.int (if j > i then j else i)) H
 | _,_,_=>False
def kList:List V→Hp→VK→Prop
 | [.ref p],H,Q=>bnd (unS (H p)) fun ys=>∀ l,H l=none→Q (.ref l) (upd H l (.lst ys))
 | _,_,_=>False
theorem jC:CallR X (.type "list") kList:=by
 intro pins s σ H xs us Q I r h
 unfold kList at h
 split at h
 · obtain ⟨ys,e,q⟩:=bE h
   exact sh pins s σ H _ us Q I r ⟨_,ys,rfl,kR e,q⟩
 · exact h.elim
def mS:List V→Hp→VK→Prop
 | [.ref p],H,Q=>bnd (unL (H p)) fun ys=>∃ ns:List Int,ys=ns.map V.int∧ns.length < 64∧∀ (ns':List Int) l,H l=none→ns'.Perm ns→ns'.Pairwise (· ≤·)→Q (.ref l) (upd H l (.lst (ns'.map V.int)))
 | _,_,_=>False
theorem sr:CallR X (.builtin "sorted") mS:=by
 intro pins s σ H xs us Q I r h
 unfold mS at h
 split at h
 · rename_i p
   obtain ⟨ys,e,ns,rfl,hlen,q⟩:=bE h
   obtain ⟨u,rfl,ru⟩:=fX r
   cases ru
   obtain ⟨its,rv,pl,hz⟩:=I.list (sm e)
   have hI:IntsAre its ns:=oN rv
   have hl:=rv.length
   rw [List.length_map] at hl
   refine sorted_ints pl.isList hI (by omega) fun out ns' hI' hp hs=>?_
   have old:∀ b o,s.heap.get? b=some o→(sortedAll s.heap its out).get? b=some o:=fun b o e=>sortedAll_old e
   obtain ⟨n,at_⟩:=sortedAll_at s.heap its out
   have hfresh:H (s.heap.objs.size+1)=none:=I.hok.fresh (Nat.le_succ _)
   have hlen':(ns'.map V.int).length≤sizeLine:=by
    rw [List.length_map,hp.length_eq]
    exact Nat.le_of_lt (Nat.lt_trans hlen (by decide))
   refine ⟨.ref (s.heap.objs.size+1),_,I.laid (t':=s.toks) (a:=s.heap.objs.size+1) (o:=.lst (ns'.map V.int)) old (Nat.le_succ _) ⟨hlen',out.toList,n,lY hI',?_⟩,rfl,q ns' _ hfresh hp hs⟩
   rw [at_]
 · exact h.elim
def kj (H:Hp):V→Option String
 | .non=>some "NoneType"
 | .bl _=>some "bool"
 | .int _=>some "int"
 | .str _=>some "str"
 | .ref p=>match H p with
  | some (.lst _)=>some "list"
  | some (.frz _ (.lst _))=>some "list"
  | some (.tup _)=>some "tuple"
  | some (.dK _)=>some "dict"
  | _=>none
 | _=>none
def isTy (t n:String):Bool:=t==n||(t=="bool"&&n=="int")
def mT (n:String):Bool:=["int","bool","str","list","tuple","dict"].contains n
theorem xh {K:PySem.W.Frag} {H:Hp} {x:V} {t:String} (h:kj H x=some t):TyOf K H x (.type t)∧["NoneType","int","bool","str","list","tuple","dict"].contains t=true:=by
 cases x with
 | non=>cases h; exact ⟨.non,by decide⟩
 | bl b=>cases h; exact ⟨.bl b,by decide⟩
 | int i=>cases h; exact ⟨.int i,by decide⟩
 | str i=>cases h; exact ⟨.str i,by decide⟩
 | byt _=>cases h
 | flt _=>cases h
 | ty _=>cases h
 | ref p=>
  unfold kj at h
  dsimp only at h
  split at h
  · rename_i e; cases h; exact ⟨.lst e,by decide⟩
  · rename_i e; cases h; exact ⟨.frz e,by decide⟩
  · rename_i e; cases h; exact ⟨.tup e,by decide⟩
  · rename_i e; cases h; exact ⟨.dK e,by decide⟩
  · cases h
theorem Ab (K:PySem.W.Frag):∀ t∈["NoneType","int","bool","str","list","tuple","dict"],∀ n∈["int","bool","str","list","tuple","dict"],PySem.W.kitOne K (.type t) (.type n)=some (isTy t n):=by
 intro t ht n hn
 simp only [List.mem_cons,List.not_mem_nil,or_false] at ht hn
 rcases ht with rfl | rfl | rfl | rfl | rfl | rfl | rfl <;> rcases hn with rfl | rfl | rfl | rfl | rfl | rfl <;> rfl
def kIsi:List V→Hp→VK→Prop
 | [x,.ty n],H,Q=>mT n=true∧bnd (kj H x) fun t=>Q (.bl (isTy t n)) H
 | _,_,_=>False
theorem dR:CallR X (.builtin "isinstance") kIsi:=by
 intro pins s σ H xs us Q I r h
 unfold kIsi at h
 split at h
 · obtain ⟨hn,h⟩:=h
   obtain ⟨t,et,q⟩:=bE h
   obtain ⟨u,w,rfl,ru,rw'⟩:=vv r
   cases rw'
   obtain ⟨ty,ht⟩:=xh (K:=X.K) et
   exact wS I ru ty (Ab X.K t (by simpa using ht) _ (by simpa [mT] using hn)) fun tk=>⟨.bl _,H,I.tok tk,rfl,q⟩
 · exact h.elim
def bi:V→List V→Hp→VK→Prop
 | .ref l,[y],H,Q=>bnd (unM (H l)) fun xs=>xs.length < sizeLine∧Q .non (upd H l (.lst (xs++[y])))
 | _,_,_,_=>False
theorem a9:MtR X "list.append" bi:=by
 intro pins s σ H x vs v us Q I rx rv h
 unfold bi at h
 split at h
 · obtain ⟨xs,e,h1,q⟩:=bE h
   exact qN pins s σ H _ _ v us Q I rx rv ⟨_,xs,_,rfl,rfl,kh e,h1,q⟩
 · exact h.elim
theorem bq {K:PySem.W.Frag} {H:Hp} {p:Addr} {xs:List V} (h:H p=some (.lst xs)):tyV K "list" (.ref p) H:=.inl ⟨rfl,_,SqL.of h⟩
def cSl:V→Option Int→Option Int→Hp→VK→Prop
 | .ref p,lo,hi,H,Q=>bnd (unL (H p)) fun xs=>∀ l,H l=none→Q (.ref l) (upd H l (.lst (cutV xs lo hi)))
 | _,_,_,_,_=>False
theorem AY:SlR X cSl:=by
 intro pins s σ H x v vl vu lo hi sl Q I rx hs pl pu h
 unfold cSl at h
 split at h
 · obtain ⟨xs,e,q⟩:=bE h
   exact ze pins s σ H _ v vl vu lo hi sl Q I rx hs pl pu ⟨_,xs,rfl,sm e,q⟩
 · exact h.elim
end
structure Cal (P:Program) (w:World) (K:PySem.W.Frag) (mg:Str→Option Value) (base:Heap) (k:Nat) (x:Str) (ps:List Str) (sp:Sp):Prop where
 ex:∃ (f:Addr) (fd:FuncData),FnOk P w K mg base CX0 k f fd ps sp∧mg x=some (.ref f)∧PySem.W.keepIn K (.ref f)=true∧Binds K fd ps []
theorem am {X:Cx} {k n:Nat} {x:Str} {ps:List Str} {sp:Sp} {p pos:Pos} {e:Expr} {es:List Expr} {t:TA} (C:Cal X.prog X.w X.K X.mg X.base k x ps sp) (hr:Room n X.A) (hk:k≤n) (hg:Gl X x) (ha:PA X (e::es) t)
  (hdb:(x==("__debug__":Str))=false:=by decide) (he:starEach (e::es) X.env=(false,eval e X.env)::starEach es X.env:=by rfl) (hpl:(backTo pos (starEach es X.env)).any (·.1)=false:=by rfl):
  PE X (.Call (.Name x p) (e::es) [] pos) (tCall sp [] E0 t):=by
 obtain ⟨f,fd,F,hm,hkp,hb⟩:=C.ex
 exact zb F (hr.mono hk) hg hm hkp hb .nil vC ha hdb he hpl
end L2
namespace L2
open PySem PySem.Spec PyProof.Rows
theorem aR:bootBuiltins "len"=some (.builtin "len"):=by decide+kernel
theorem Ac:bootBuiltins "min"=some (.builtin "min"):=by decide+kernel
theorem xi:bootBuiltins "sorted"=some (.builtin "sorted"):=by decide+kernel
theorem bT:bootBuiltins "isinstance"=some (.builtin "isinstance"):=by decide+kernel
theorem i9:bootBuiltins "list"=some (.type "list"):=by decide+kernel
theorem xj:bootBuiltins "int"=some (.type "int"):=by decide+kernel
theorem qp:bootBuiltins "bool"=some (.type "bool"):=by decide+kernel
theorem ma:bootBuiltins "str"=some (.type "str"):=by decide+kernel
theorem lp:bootBuiltins "tuple"=some (.type "tuple"):=by decide+kernel
def compN (scope:Scope):List Str:=(scope.names.filter fun p=>p.2==.local||p.2==.cell||p.2==.free).map (·.1)
def oR (N:List Str) (scope:Scope):List (Option Nat):=(compN scope).map fun x=>if scope.names.lookup x==some .free then N.findIdx? (· ==x) else none
def isCF:Option NameKind→Bool
 | some .cell=>true
 | some .free=>true
 | _=>false
theorem Ad {X:Cx} {scope:Scope} (h1:scope.kind=.function) (h2:(scope.names.map (·.1)).Nodup) (h3:(scope.names.all fun p=>p.2 != .free||isCF (X.env.kindOf p.1))=true):BlkOk X (compN scope) (oR X.N scope) scope where
 kind:=h1
 nd:=h2.sublist (List.Sublist.map _ (List.filter_sublist ..))
 len:=by unfold oR; rw [List.length_map]
 names:=h2
 free:=fun x hx=>by
  have:=List.all_eq_true.mp h3 (x,.free) hx
  simp only [bne_self_eq_false,Bool.false_or] at this
  unfold isCF at this
  split at this
  · rename_i e; exact .inl e
  · rename_i e; exact .inr e
  · cases this
 at_:=fun j i x e1 e2=>by
  unfold oR at e2
  rw [List.getElem?_map,e1] at e2
  simp only [Option.map_some,Option.some.injEq] at e2
  split at e2
  · rename_i hf
    obtain ⟨hlt,hp,_⟩:=List.findIdx?_eq_some_iff_getElem.mp e2
    have hx:X.N[i]? =some x:=by
     rw [List.getElem?_eq_getElem hlt]
     have:X.N[i]=x:=by simpa using hp
     rw [this]
    refine ⟨hx,PySem.mem_of_lookup (by simpa using hf)⟩
  · cases e2
end L2
namespace L2
open PySem PySem.Spec PyProof.Rows
section
variable {t u:TS} {D:Ends} {σ:St} {H:Hp} {Q:VK} {ta tb:TE} {R:Bool→Hp→Prop} {c d:TT}
theorem aV:tSeq t u D σ H=t { D with nx:=u D } σ H:=rfl
theorem gT:tNext D σ H=D.nx σ H:=rfl
theorem g7 {g:TG}:tAsg ta g D σ H=ta σ H fun x H1=>g x σ H1 D.nx:=rfl
theorem db {i:Nat} {v:V} {k:St→Hp→Prop}:gName i v σ H k=k (σ.set i (some v)) H:=rfl
theorem jn {i:Nat}:tVar i σ H Q=∃ v,σ[i]? =some (some v)∧Q v H:=rfl
theorem w_c {v:V}:tC v σ H Q=Q v H:=rfl
theorem lq {r:R2}:tOp r ta tb σ H Q=ta σ H fun x H1=>tb σ H1 fun y H2=>r x y H2 Q:=rfl
theorem ip:tRet ta D σ H=ta σ H D.rt:=rfl
theorem iq:tRetN D σ H=D.rt .non H:=rfl
theorem gU:tDrop ta D σ H=ta σ H fun _ H1=>D.nx σ H1:=rfl
theorem aL:tIfS c t u D σ H=c σ H fun b H1=>if b=true then t D σ H1 else u D σ H1:=rfl
theorem iu:tTest ta σ H R=ta σ H fun x H'=>∃ k,x=.bl k∧R k H':=rfl
theorem w_b:tB ta σ H R=ta σ H fun x H'=>∃ k,x=.bl k∧R k H':=rfl
theorem w_not:tNot c σ H R=c σ H fun k H1=>R (!k) H1:=rfl
theorem jD:tAnd c d σ H R=c σ H fun k H1=>if k=true then d σ H1 R else R false H1:=rfl
theorem lr:tOr c d σ H R=c σ H fun k H1=>if k=true then R true H1 else d σ H1 R:=rfl
theorem iw:tNotV ta σ H Q=ta σ H fun x H1=>∃ c,x=.bl c∧Q (.bl (!c)) H1:=rfl
theorem iy:tAndV ta tb σ H Q=ta σ H fun x H1=>∃ c,x=.bl c∧if c=true then tb σ H1 Q else Q (.bl false) H1:=rfl
theorem jE:tOrV ta tb σ H Q=ta σ H fun x H1=>∃ c,x=.bl c∧if c=true then Q (.bl true) H1 else tb σ H1 Q:=rfl
theorem jo {k:List V→Hp→Prop}:tNil σ H k=k [] H:=rfl
theorem gW {tr:TA} {k:List V→Hp→Prop}:tCons ta tr σ H k=ta σ H fun x H1=>tr σ H1 fun xs H2=>k (x::xs) H2:=rfl
theorem lu {r:List V→Hp→VK→Prop} {tr:TA}:tCB r tr σ H Q=tr σ H fun vs H1=>r vs H1 Q:=rfl
theorem iz {sp:Sp} {dvs:List V} {E:XK} {tr:TA}:tCall sp dvs E tr σ H Q=tr σ H fun vs H1=>sp (vs++dvs) H1 Q E:=rfl
theorem jF {tr:TA}:tTup tr σ H Q=tr σ H fun xs H1=>xs.length≤sizeLine∧∀ p,H1 p=none→Q (.ref p) (upd H1 p (.tup xs)):=rfl
theorem jG {tr:TA}:tLst tr σ H Q=tr σ H fun xs H1=>xs.length≤sizeLine∧∀ p,H1 p=none→Q (.ref p) (upd H1 p (.lst xs)):=rfl
theorem kN {K:PySem.W.Frag} {T:String} {r:V→List V→Hp→VK→Prop} {tr:TA}:tBM K T r ta tr σ H Q=ta σ H fun x H1=>tyV K T x H1∧tr σ H1 fun xs H2=>r x xs H2 Q:=rfl
theorem jH {K:PySem.W.Frag} {T:String} {r:V→List V→Hp→VK→Prop}:vB K T r ta σ H Q=ta σ H fun x H1=>tyV K T x H1∧r x [] H1 Q:=rfl
theorem iA:tTrue σ H R=R true H:=rfl
theorem iB:z7 σ H Q=∀ p,H p=none→Q (.ref p) (upd H p (.dK [])):=rfl
theorem iC {td ty tv:TE}:sDPut td ty tv D σ H=tv σ H fun v H1=>td σ H1 fun x H2=>ty σ H2 fun y H3=>∃ a H4,x=.ref a∧DPut H3 a y v H4∧D.nx σ H4:=rfl
theorem jI {i j:Int}:cAdd (.int i) (.int j) H Q=Q (.int (i+j)) H:=rfl
theorem jJ {i j:Int}:cSub (.int i) (.int j) H Q=Q (.int (i - j)) H:=rfl
theorem jK {i j:Int}:cMul (.int i) (.int j) H Q=(CMul i j∧Q (.int (i*j)) H):=rfl
theorem jL {i j:Int}:cDiv (.int i) (.int j) H Q=(CDiv i j∧Q (.int (i / j)) H):=rfl
theorem jM {i j:Int}:cMod (.int i) (.int j) H Q=(0 < j∧Q (.int (i % j)) H):=rfl
theorem jN {g:Int→Int→Bool} {i j:Int}:cCmp g (.int i) (.int j) H Q=Q (.bl (g i j)) H:=rfl
theorem jO {K:PySem.W.Frag} {i j:Int}:cEq K (.int i) (.int j) H Q=Q (.bl (decide (i=j))) H:=rfl
theorem jP {K:PySem.W.Frag} {i j:Int}:cNe K (.int i) (.int j) H Q=Q (.bl (!decide (i=j))) H:=rfl
theorem jQ {K:PySem.W.Frag} {i j:Bool}:cEq K (.bl i) (.bl j) H Q=Q (.bl (decide (i=j))) H:=rfl
theorem jR {K:PySem.W.Frag} {i j:Bool}:cNe K (.bl i) (.bl j) H Q=Q (.bl (!decide (i=j))) H:=rfl
theorem h9 {p:Addr} {i:Int} {xs:List V} (h:H p=some (.tup xs)):cIx (.ref p) (.int i) H Q=bnd (atI xs i) fun v=>Q v H:=by
 unfold cIx; dsimp only; rw [h]; rfl
theorem yV {p:Addr} {i:Int} {xs:List V} (h:H p=some (.lst xs)):cIx (.ref p) (.int i) H Q=bnd (atI xs i) fun v=>Q v H:=by
 unfold cIx; dsimp only; rw [h]; rfl
theorem jS {i:Int}:kAbs [.int i] H Q=Q (.int (if i < 0 then -i else i)) H:=rfl
theorem jT {i j:Int}:kMin [.int i,.int j] H Q=Q (.int (if j < i then j else i)) H:=rfl
theorem bv {p:Addr} {xs:List V} (h:H p=some (.lst xs)):kLen [.ref p] H Q=Q (.int xs.length) H:=by
 unfold kLen; dsimp only; rw [h]; rfl
theorem xk {p:Addr} {xs:List V} (h:H p=some (.tup xs)):kLen [.ref p] H Q=Q (.int xs.length) H:=by
 unfold kLen; dsimp only; rw [h]; rfl
theorem dA {p:Addr} {xs:List V} {y:V} (h:H p=some (.lst xs)):bi (.ref p) [y] H Q=(xs.length < sizeLine∧Q .non (upd H p (.lst (xs++[y])))):=by
 unfold bi; dsimp only; rw [h]; rfl
theorem md:∀ ns:List Int,(ns.map V.int).all flatV=true
 | []=>rfl
 | n::r=>by rw [List.map_cons,List.all_cons,md r]; rfl
theorem nK (i:Int):∀ ns:List Int,inV (.int i) (ns.map V.int)=decide (i∈ns)
 | []=>by simp [inV]
 | n::r=>by
  have ih:=nK i r
  unfold inV at ih ⊢
  rw [List.map_cons,List.any_cons,ih]
  show ((n==i)||decide (i∈r))=decide (i∈n::r)
  rw [Bool.eq_iff_iff,Bool.or_eq_true,beq_iff_eq,decide_eq_true_eq,decide_eq_true_eq,List.mem_cons]
  exact ⟨fun h=>h.elim (fun e=>.inl e.symm) .inr,fun h=>h.elim (fun e=>.inl e.symm) .inr⟩
theorem qq {K:PySem.W.Frag} {p:Addr} {i:Int} {ns:List Int} (h:H p=some (.lst (ns.map V.int))):cIn K false (.int i) (.ref p) H Q=Q (.bl (decide (i∈ns))) H:=by
 unfold cIn; dsimp only; rw [h]; dsimp only [unD,unS,bnd]
 rw [nK,md]
 simp [flatV]
theorem lw {K:PySem.W.Frag} {p:Addr} {i:Int} {ns:List Int} (h:H p=some (.lst (ns.map V.int))):cIn K true (.int i) (.ref p) H Q=Q (.bl (!decide (i∈ns))) H:=by
 unfold cIn; dsimp only; rw [h]; dsimp only [unD,unS,bnd]
 rw [nK,md]
 simp [flatV]
end
def LoopR (J:It) (g:TG) (tb:TS) (D:Ends) (σ:St) (H1:Hp):Prop:=∃ W:Nat→Nat→St→Hp→Prop,(∃ m,W 0 m σ H1)∧∀ i m σ H,W i m σ H→
 (J.stop i H∧D.nx σ H)∨(J.go i H∧∃ N:St→Hp→Prop,(∀ σ' H',N σ' H'→∃ m',m' < m∧W (i+1) m' σ' H')∧∀ x H',J.yld i H x H'→g x σ H' fun σ2 H2=>tb { D with nx:=N,ct:=N,bk:=D.nx } σ2 H2)
def CompR (J:It) (g:TG) (tt:TT) (te:TE) (fin:Addr→Hp→Prop) (σ0:St) (H1:Hp):Prop:=∀ l,H1 l=none→
 ∃ W:Nat→Nat→St→Hp→Prop,(∃ m,W 0 m σ0 (upd H1 l (.lst [])))∧∀ i m σ' H',W i m σ' H'→
  (J.stop i H'∧fin l H')∨(J.go i H'∧∃ N:St→Hp→Prop,(∀ σ'' H'',N σ'' H''→∃ m',m' < m∧W (i+1) m' σ'' H'')∧∀ x H2,J.yld i H' x H2→g x σ' H2 fun σ2 H3=>tt σ2 H3 fun b H4=>
   if b=true then te σ2 H4 fun y H5=>∃ ys,H5 l=some (.lst ys)∧ys.length < sizeLine∧N σ2 (upd H5 l (.lst (ys++[y]))) else N σ2 H4)
section
variable {K:PySem.W.Frag} {g:TG} {tb:TS} {D:Ends} {σ:St} {H:Hp} {tl:TE} {ta:TA} {ix:List (Option Nat)} {tt:TT} {te:TE} {k:Nat} {Q:VK}
theorem iD:tFor (iList K tl) g tb D σ H=tl σ H fun x H1=>∃ a,x=.ref a∧(∃ xs,SqL K H1 a xs)∧LoopR (Itl K a) g tb D σ H1:=rfl
theorem gP:tFor (eD ta) g tb D σ H=ta σ H fun vs H1=>∃ j:Int,vs=[.int j]∧ -(2^62)≤j∧j < 2^62∧LoopR (Itr 0 j.toNat) g tb D σ H1:=rfl
theorem gQ:tFor (oK ta) g tb D σ H=ta σ H fun vs H1=>∃ i j:Int,vs=[.int i,.int j]∧(-(2^62)≤i∧i < 2^62∧ -(2^62)≤j∧j < 2^62)∧LoopR (Itr i (j - i).toNat) g tb D σ H1:=rfl
theorem e6:tComp ix (iList K tl) g tt te σ H Q=tl σ H fun x H1=>∃ a,x=.ref a∧(∃ xs,SqL K H1 a xs)∧CompR (Itl K a) g tt te (fun l H'=>Q (.ref l) H') (subσ ix σ) H1:=rfl
theorem fj:tComp ix (eD ta) g tt te σ H Q=ta σ H fun vs H1=>∃ j:Int,vs=[.int j]∧ -(2^62)≤j∧j < 2^62∧CompR (Itr 0 j.toNat) g tt te (fun l H'=>Q (.ref l) H') (subσ ix σ) H1:=rfl
theorem fk:sComp k ix (iList K tl) g tt te D σ H=tl σ H fun x H1=>∃ a,x=.ref a∧(∃ xs,SqL K H1 a xs)∧CompR (Itl K a) g tt te (fun l H'=>D.nx (σ.set k (some (.ref l))) H') (subσ ix σ) H1:=rfl
theorem dS:sComp k ix (eD ta) g tt te D σ H=ta σ H fun vs H1=>∃ j:Int,vs=[.int j]∧ -(2^62)≤j∧j < 2^62∧CompR (Itr 0 j.toNat) g tt te (fun l H'=>D.nx (σ.set k (some (.ref l))) H') (subσ ix σ) H1:=rfl
theorem oS {lo:Int} {n:Nat} {fin:Addr→Hp→Prop} {σ0:St} {H1:Hp} (Pv:Addr→Nat→St→Hp→Prop) (h0:∀ l,H1 l=none→Pv l 0 σ0 (upd H1 l (.lst [])))
  (hs:∀ l i σ H,H1 l=none→i < n→Pv l i σ H→g (.int (lo+i)) σ H fun σ2 H3=>tt σ2 H3 fun b H4=>if b=true then te σ2 H4 fun y H5=>∃ ys,H5 l=some (.lst ys)∧ys.length < sizeLine∧Pv l (i+1) σ2 (upd H5 l (.lst (ys++[y]))) else Pv l (i+1) σ2 H4)
  (hd:∀ l σ H,H1 l=none→Pv l n σ H→fin l H):CompR (Itr lo n) g tt te fin σ0 H1:=by
 intro l hl0
 refine ⟨fun i m σ H=>m=n - i∧i≤n∧Pv l i σ H,⟨n,by simp,Nat.zero_le _,h0 l hl0⟩,?_⟩
 rintro i m σ H ⟨rfl,hi,p⟩
 by_cases hlt:i < n
 · refine .inr ⟨hlt,Pv l (i+1),fun σ' H' p'=>⟨n - (i+1),by omega,rfl,hlt,p'⟩,fun x H' y=>?_⟩
   obtain ⟨e,y⟩:=y
   subst e y
   exact hs l i σ _ hl0 hlt p
 · have e:i=n:=by omega
   subst e
   exact .inl ⟨Nat.le_refl _,hd l σ H hl0 p⟩
theorem qP {a:Addr} {xs:List V} {fin:Addr→Hp→Prop} {σ0:St} {H1:Hp} (Pv:Addr→Nat→St→Hp→Prop) (h0:∀ l,H1 l=none→Pv l 0 σ0 (upd H1 l (.lst []))) (hq:∀ l i σ H,H1 l=none→i≤xs.length→Pv l i σ H→SqL K H a xs)
  (hs:∀ l i x σ H,H1 l=none→xs[i]? =some x→Pv l i σ H→g x σ H fun σ2 H3=>tt σ2 H3 fun b H4=>if b=true then te σ2 H4 fun y H5=>∃ ys,H5 l=some (.lst ys)∧ys.length < sizeLine∧Pv l (i+1) σ2 (upd H5 l (.lst (ys++[y]))) else Pv l (i+1) σ2 H4)
  (hd:∀ l σ H,H1 l=none→Pv l xs.length σ H→fin l H):CompR (Itl K a) g tt te fin σ0 H1:=by
 intro l hl0
 refine ⟨fun i m σ H=>m=xs.length - i∧i≤xs.length∧Pv l i σ H,⟨xs.length,by simp,Nat.zero_le _,h0 l hl0⟩,?_⟩
 rintro i m σ H ⟨rfl,hi,p⟩
 have q:=hq l i σ H hl0 hi p
 by_cases hlt:i < xs.length
 · refine .inr ⟨⟨xs,xs[i],q,by simp [hlt]⟩,Pv l (i+1),fun σ' H' p'=>⟨xs.length - (i+1),by omega,rfl,hlt,p'⟩,fun x H' y=>?_⟩
   obtain ⟨e,y⟩:=y
   subst e
   exact hs l i x σ _ hl0 (y xs q) p
 · have e:i=xs.length:=by omega
   subst e
   exact .inl ⟨⟨xs,q,Nat.le_refl _⟩,hd l σ H hl0 p⟩
theorem vE {p q:Addr} {xs ys:List Int} (hp:H p=some (.lst (xs.map V.int))) (hq:H q=some (.lst (ys.map V.int))) (h:Q (.bl (decide (xs=ys))) H):cEq K (.ref p) (.ref q) H Q:=by
 show rEqD K (.ref p) (.ref q) H Q
 refine ⟨.list (xs.map PyData.int),.list (ys.map PyData.int),.lst (SqL.of hp) (.ints xs),.lst (SqL.of hq) (.ints ys),jm xs,jm ys,?_⟩
 rw [PyData.eqv,sn]
 exact h
theorem yW {p q:Addr} {xs ys:List Int} (hp:H p=some (.lst (xs.map V.int))) (hq:H q=some (.lst (ys.map V.int))) (h:Q (.bl (!decide (xs=ys))) H):cNe K (.ref p) (.ref q) H Q:=by
 show rNeD K (.ref p) (.ref q) H Q
 refine ⟨.list (xs.map PyData.int),.list (ys.map PyData.int),.lst (SqL.of hp) (.ints xs),.lst (SqL.of hq) (.ints ys),jm xs,jm ys,?_⟩
 rw [PyData.eqv,sn]
 exact h
theorem ss {p:Addr} {xs:List V} (hp:H p=some (.lst xs)) (h:∀ l,H l=none→Q (.ref l) (upd H l (.lst xs))):kList [.ref p] H Q:=by
 unfold kList
 dsimp only
 rw [hp]
 exact h
end
theorem bp {X:Cx} {N:List Str} {ix:List (Option Nat)} {scope:Scope} (h1:scope.kind=.function) (h2:(scope.names.map (·.1)).Nodup) (h3:(scope.names.all fun p=>p.2 != .free||isCF (X.env.kindOf p.1))=true) (h4:N=compN scope) (h5:ix=oR X.N scope):BlkOk X N ix scope:=by
 subst h4 h5
 exact Ad h1 h2 h3
def kLenS (K:PySem.W.Frag):List V→Hp→VK→Prop:=fun xs H Q=>∃ p ys,xs=[.ref p]∧(SqL K H p ys∨SqT K H p ys)∧Q (.int ys.length) H
structure Bt (mg:Str→Option Value):Prop where
 len_:mg "len"=none
 abs_:mg "abs"=none
 min_:mg "min"=none
 max_:mg "max"=none
 sorted_:mg "sorted"=none
 any_:mg "any"=none
 isinstance_:mg "isinstance"=none
 list_:mg "list"=none
 int_:mg "int"=none
 bool_:mg "bool"=none
 str_:mg "str"=none
 tuple_:mg "tuple"=none
 reversed_:mg "reversed"=none
 set_:mg "set"=none
 range_:mg "range"=none
 zip_:mg "zip"=none
end L2
namespace L2
open PySem PySem.Spec PyProof.Rows
theorem Vals.get':∀ {xs:List V} {us:List Value} {i:Nat} {u:Value},Vals xs us→us[i]? =some u→∃ x,xs[i]? =some x∧RelV x u
 | _,_,_,_,.nil,h=>by simp at h
 | _,_,0,_,.cons r _,h=>by simp at h; subst h; exact ⟨_,rfl,r⟩
 | _,_,i+1,_,.cons _ t,h=>by
  obtain ⟨x,hx,r⟩:=Vals.get' (i:=i) t (by simpa using h)
  exact ⟨x,by simpa using hx,r⟩
section
variable {X:Cx} {pins:List (Addr × Obj)} {σ:St} {H:Hp} {s s':Shared}
theorem Inv.kept' (I:Inv X pins σ H s) (k:∀ b u,s.heap.get? b=some u→s'.heap.get? b=some u) (ho:s'.os=s.os) (hg:AllBare s'.gens):Inv X pins σ H s':=
 I.call' (ch:=[]) ho (Un.kept k) (I.hok.kept k) hg fun b z=>absurd z (by simp)
theorem Inv.walked {l:Addr} {o:Obj} (I:Inv X pins σ H s) (hm:Moved [s.heap.objs.size] (fun a b=>b=a) { s with heap:=s.heap.push o } s'):Inv X pins σ H s':=by
 refine I.kept' (fun b u e=>hm.heap b u (fun z=>?_) (Heap.get?_push_of_some _ e)) hm.os (by rw [show s'.gens=s.gens from hm.gens]; exact I.bare)
 have:b=s.heap.objs.size:=by simpa using z
 exact absurd (Heap.lt_size e) (by rw [this]; exact Nat.lt_irrefl _)
def me (K:PySem.W.Frag):V→List V→Hp→VK→Prop
 | .ref p,[y],H,Q=>∃ (ds:List PyData) (d:PyData) (j:Nat),DV K H (.ref p) (.list ds)∧DV K H y d∧PyData.canLayAll0 ds=true∧PyData.canLay0 d=true∧min (PyData.depthAll ds) d.depth≤62∧
   j≤1000∧(∃ e,ds[j]? =some e∧PyData.eqv e d=true)∧(∀ m e,m < j→ds[m]? =some e→PyData.eqv e d=false)∧Q (.int j) H
 | _,_,_,_=>False
theorem qQ (hu:X.A.units+64 < cLine):MtR X "list.index" (me X.K):=by
 intro pins s σ H x vs v us Q I rx rv h
 unfold me at h
 split at h
 · rename_i p y
   obtain ⟨ds,d,j,hp,hy,hl,hd,hdep,hj,⟨e,ej,et⟩,hno,q⟩:=h
   cases rx
   obtain ⟨u,rfl,ru⟩:=fX rv
   obtain ⟨as,rc⟩:=hp.reads I rfl
   obtain ⟨bs,rx⟩:=hy.reads I ru
   cases rc with
   | @list _ o its n _ _ h1 h2 h3 h4=>
    obtain ⟨oc,od,oda,osl⟩:=o
    dsimp only at h2 h3
    subst h2 h3
    have hmap:=SeqAt.readsAll_map ds _ _ hl h4
    have at_:∀ (m:Nat) (hm:m < its.size),ds[m]? =some (SeqAt.readOf s.heap its[m]):=fun m hm=>by
     rw [← hmap,List.getElem?_map,Array.getElem?_toList,Array.getElem?_eq_getElem hm]; rfl
    have hjs:j < its.size:=by
     have:=(List.getElem?_eq_some_iff.mp ej).1
     rw [← hmap,List.length_map,Array.length_toList] at this
     exact this
    refine call_meets F.slot_list_index ⟨_,h1,rfl⟩ F.entry_list_index (F.args_list_index_2 _ _) (SeqAt.list_indexAt p its n od osl u (fun y=>PyData.eqv (SeqAt.readOf s.heap y) d) j hjs (by omega) ?_ ?_) ⟨h1,SeqAt.items_eqAt h4 rx hl hd ?_,⟨.int j,H,I.tok _,⟨_,rfl⟩,q⟩⟩
    · have:=at_ j hjs
      rw [ej] at this
      cases this
      exact et
    · intro m hm hlt
      exact hno m _ hlt (at_ m hm)
    · omega
 · exact h.elim
end
end L2
namespace L2
open PySem PySem.Spec PyProof.Rows
open Builtin Builtin.Str
theorem qr:∀ {ts:List Str} {us:List Value},Vals (ts.map V.str) us→∃ l:List (Str × Tok),us=strValues l∧l.map (·.1)=ts
 | [],_,.nil=>⟨[],rfl,rfl⟩
 | t::ts,_,.cons r rs=>by
  obtain ⟨l,rfl,e⟩:=qr (ts:=ts) rs
  obtain ⟨u,rfl⟩:=r
  exact ⟨(t,u)::l,rfl,by rw [List.map_cons,e]⟩
theorem qR:∀ (l:List (Str × Tok)),Vals ((l.map (·.1)).map V.str) (strValues l)
 | []=>.nil
 | (t,u)::l=>.cons ⟨u,rfl⟩ (qR l)
section
variable {X:Cx}
def kFind:V→List V→Hp→VK→Prop
 | .str x,[.str y],H,Q=>Q (.int (Txt.find x y)) H
 | _,_,_,_=>False
def oT:V→List V→Hp→VK→Prop
 | .str x,[.str y],H,Q=>(y.length==0)=false∧x.length≤sizeLine∧(Txt.split x y).length≤sizeLine∧∀ l,H l=none→Q (.ref l) (upd H l (.lst ((Txt.split x y).map V.str)))
 | _,_,_,_=>False
theorem xl:MtR X "str.split" oT:=by
 intro pins s σ H x vs v us Q I rx rv h
 unfold oT at h
 split at h
 · rename_i x y
   obtain ⟨t,rfl⟩:=rx
   obtain ⟨u,rfl,ru⟩:=fX rv
   obtain ⟨t2,rfl⟩:=ru
   obtain ⟨hy,hx,hn,q⟩:=h
   have fin:∀ (l:List (Str × Tok)) (k:Nat),l.map (·.1)=Txt.split x y→EP X pins σ Q (.ref s.heap.objs.size) { s with heap:=s.heap.push { cls:=.type "list",data:=.seq (strValues l).toArray },toks:=k }:=fun l k e=>by
    refine ⟨.ref s.heap.objs.size,_,I.lnew (t':=k) (ys:=(Txt.split x y).map V.str) (its:=strValues l) ?_ (by rw [List.length_map]; exact hn),rfl,q _ I.fresh⟩
    rw [← e]
    exact qR l
   cases h1:(decide (x.length < y.length)||decide (strKind x < strKind y))
   · cases hf:(occurrences x y 0 x.length (x.length+1)).isEmpty
     · have e3:Txt.split x y=partsBetween x (occurrences x y 0 x.length (x.length+1)) y.length:=(if_neg (ne_true_of_eq_false h1)).trans (if_neg (ne_true_of_eq_false hf))
       refine call_meets F.slot_str_split (typeIs_str _ _ _) F.entry_str_split (F.args_str_split_2 _ _) (meets_str_split_sep x y t t2 h1 hy hf hx (by rw [← e3]; exact hn)) ?_
       show wants _ _ _ { s with toks:=_,heap:=s.heap.push { cls:=.type "list",data:=.seq (strsFrom s.toks (partsBetween x (occurrences x y 0 x.length (x.length+1)) y.length)).toArray } }
       rw [strsFrom_eq]
       exact fin (numbered s.toks _) _ ((numbered_texts _ _).trans e3.symm)
     · exact call_meets F.slot_str_split (typeIs_str _ _ _) F.entry_str_split (F.args_str_split_2 _ _) (meets_str_split_not_found x y t t2 h1 hy hf)
        (fin [(x,t)] s.toks ((if_neg (ne_true_of_eq_false h1)).trans (if_pos hf)).symm)
   · exact call_meets F.slot_str_split (typeIs_str _ _ _) F.entry_str_split (F.args_str_split_2 _ _) (meets_str_split_cannot_occur x y t t2 h1)
      (fin [(x,t)] s.toks (if_pos h1).symm)
 · exact h.elim
def nN:V→Option Int→Option Int→Hp→VK→Prop
 | .ref p,lo,hi,H,Q=>cSl (.ref p) lo hi H Q
 | .str z,lo,hi,H,Q=>z.length≤sizeLine∧Q (.str (Txt.slice z lo hi)) H
 | _,_,_,_,_=>False
theorem vF:SlR X nN:=by
 intro pins s σ H x v vl vu lo hi sl Q I rx hs pl pu h
 cases x with
 | ref p=>exact AY pins s σ H _ v vl vu lo hi sl Q I rx hs pl pu h
 | str z=>
  obtain ⟨hz,q⟩:=(show z.length≤sizeLine∧Q (.str (Txt.slice z lo hi)) H from h)
  obtain ⟨t,rfl⟩:=rx
  have fin:∀ t' k,EP X pins σ Q (.str (Txt.slice z lo hi) t') { s with toks:=k }:=fun t' k=>⟨.str _,H,I.tok k,⟨t',rfl⟩,q⟩
  refine ⟨"str",_,F.slot_str_getitem.lookup,typeIs_str _ _ _,?_⟩
  cases pl with
  | none=>
   cases pu with
   | none=>exact wpAny_getItem_str_slice (l:=none) (u:=none) (st:=none) hs rfl (post_val_or_str ⟨Nat.le_trans (Txt.slice_le z _ _) hz,fin⟩)
   | int j tj=>exact wpAny_getItem_str_slice (l:=none) (u:=some (j,tj)) (st:=none) hs rfl (post_val_or_str ⟨Nat.le_trans (Txt.slice_le z _ _) hz,fin⟩)
  | int i ti=>
   cases pu with
   | none=>exact wpAny_getItem_str_slice (l:=some (i,ti)) (u:=none) (st:=none) hs rfl (post_val_or_str ⟨Nat.le_trans (Txt.slice_le z _ _) hz,fin⟩)
   | int j tj=>exact wpAny_getItem_str_slice (l:=some (i,ti)) (u:=some (j,tj)) (st:=none) hs rfl (post_val_or_str ⟨Nat.le_trans (Txt.slice_le z _ _) hz,fin⟩)
 | _=>exact False.elim h
def Its (x:Str):It:=⟨fun i _=>i < x.cps.size,fun i H v H'=>H'=H∧∃ c,x.cps[i]? =some c∧v=.str ⟨#[c]⟩,fun i _=>x.cps.size≤i⟩
theorem su {P:Program} {w:World} {K:PySem.W.Frag} {tg:Expr} {x:Str} {t:Tok} (it:Addr) (ty:String) (hty:["enumerate","zip","dict_itemiterator","dict_reverseitemiterator","odict_iterator","itertools.zip_longest","itertools.pairwise"].contains ty=false)
  (W:∀ A:Around,A.handled=none→Walks P w A it [it] [it] x.cps.size (SignAt x) (fun i h=>h.IsStrIter it ty x t i))
  (slf:∀ (A:Around) (i:Nat) (s:Shared) (Q:Value→Shared→Prop) (E:Value→Shared→Prop),s.heap.IsStrIter it ty x t i→Q (.ref it) s→wpAny (model P w) A (pyIter (.ref it)) Q E s):
  Turn P w K tg (Its x) [it] it (fun i h=>i≤x.cps.size∧h.IsStrIter it ty x t i) where
 mem:=by simp
 obj:=fun i h st b hb=>by
  have e:b=it:=by simpa using hb
  subst e
  obtain ⟨_,o,e,c,d⟩:=st
  exact ⟨o,e,fun v z=>by rw [d] at z; cases z⟩
 keep:=fun i h h' st k=>by
  obtain ⟨hi,o,e,c,d⟩:=st
  exact ⟨hi,o,k it (by simp) o e,c,d⟩
 item:=by
  intro X hP hw hK hc i pins s σ H E I hf st hg
  subst hP hw hK
  obtain ⟨f0,f1,f2,f3,f4,f5⟩:=hf it (by simp)
  have hlt:i < x.cps.size:=hg
  refine (W X.A (I.ok.hd hc)).item i s _ _ hlt st.2 fun v h' tk hv st' kk=>?_
  obtain ⟨c,u,hcu,rfl⟩:=hv
  have I1:Inv X pins σ H { s with heap:=h',toks:=tk }:=I.turned (fun b o hb e=>kk b o (by simpa using hb) e) f0 f1 f3 f4 f5
  obtain ⟨o,e,c',d⟩:=id st'
  exact ⟨_,rfl,rS (s:={ s with heap:=h',toks:=tk }) e c' d hty ⟨.str ⟨#[c]⟩,H,I1,⟨u,rfl⟩,⟨rfl,c,hcu,rfl⟩,⟨hlt,st'⟩,fun b hb=>(hf b hb).1⟩⟩
 done:=by
  intro X hP hw hK hc i pins s σ H E I hf st hg
  subst hP hw hK
  obtain ⟨f0,f1,f2,f3,f4,f5⟩:=hf it (by simp)
  have hle:x.cps.size≤i:=hg
  have e:i=x.cps.size:=Nat.le_antisymm st.1 hle
  subst e
  exact (W X.A (I.ok.hd hc)).done s _ _ st.2 fun h' tk kk=>⟨rfl,I.turned (fun b o hb e=>kk b o (by simpa using hb) e) f0 f1 f3 f4 f5⟩
 self:=fun A i s Q E st h=>slf A i s Q E st.2 h
def iStr (tl:TE):TI:=fun σ H R=>tl σ H fun x H1=>∃ z,x=.str z∧R (Its z) H1
theorem Ae {tg l:Expr} {tl:TE} (hl:PE X l tl):PI X tg l (iStr tl):=by
 intro pins s σ H R I h
 refine thn (hl pins s σ H _ I h) fun v s1 ⟨x,H1,I1,r1,q1⟩=>?_
 obtain ⟨z,rfl,q⟩:=q1
 obtain ⟨t,rfl⟩:=r1
 have fin:∀ b∈[s1.heap.objs.size],FpOk X pins H1 b:=fun b hb=>by
  have e:b=s1.heap.objs.size:=by simpa using hb
  subst e
  exact I1.fpOk (Nat.le_refl _) (I1.hok.fresh (Nat.le_refl _))
 cases ha:z.cps.all (· < 128)
 · refine wpAny_pyIter_wide ha ⟨s1.heap.objs.size,[s1.heap.objs.size],_,Its z,H1,rfl,I1.kept (t':=s1.toks) fun b o e=>Heap.get?_push_of_some _ e,su (t:=t) _ "str_iterator" (by decide) (fun A' hA=>Walks.strWide hA _ z t) (fun A i s Q E st hq=>wpAny_pyIter_striter_wide st hq),⟨Nat.zero_le _,_,Heap.get?_push_size _ rfl,rfl,rfl⟩,fin,q⟩
 · refine wpAny_pyIter_ascii ha ⟨s1.heap.objs.size,[s1.heap.objs.size],_,Its z,H1,rfl,I1.kept (t':=s1.toks) fun b o e=>Heap.get?_push_of_some _ e,su (t:=t) _ "str_ascii_iterator" (by decide) (fun A' hA=>Walks.strAscii hA _ z t) (fun A i s Q E st hq=>wpAny_pyIter_striter_ascii st hq),⟨Nat.zero_le _,_,Heap.get?_push_size _ rfl,rfl,rfl⟩,fin,q⟩
theorem ul {prog:Program} {w:World} {A:Around} {E:Value→Shared→Prop} {s:Shared} {l:Addr} {items:Array Value} {k:Int} {t:Tok} {v:Value} {Q:Unit→Shared→Prop} (hl:s.heap.IsList l items)
  (h0:0≤k) (hfit:k < 2^63) (hn:k < items.size)
  (hQ:Q () { s with heap:=s.heap.update l (Obj.mapSeq (·.setIfInBounds k.toNat v)) }):
  wpAny (model prog w) A (setItem (.ref l) (.int k t) v) Q E s:=by
 obtain ⟨o,ho,hc,ne,hd⟩:=id hl
 unfold setItem
 try with_reducible refine wpAny_holding ?_
 first | refine wpAny_bind (wpAny_pure ?_) | skip
 refine wpAny_bind (wpAny_sequenceKey hl.typeIs (by decide) ?_)
 refine wpAny_bind (wpAny_callSpecial?_slot (name:=Str.ofString "__setitem__") hl.typeIs slot_list_setitem
  (wpAny_call_entry slot_list_setitem hl.typeIs entry_list_setitem ?_ (args_list_setitem _ _ _)))
 show wpAny _ _ (Builtin.List.listSubscript? (.int k t) >>= _) _ _ s
 refine wpAny_bind (wpAny_listSubscript_int (fitsIndex_of h0 hfit) ?_)
 clear hfit
 obtain ⟨j,rfl⟩:=Int.eq_ofNat_of_zero_le h0
 have hj:j < items.size:=by omega
 have hx':items[j]? =some items[j]:=Array.getElem?_eq_getElem hj
 show wpAny _ _ ((seqItemAt l j >>= fun r=>pure (r.map (j,·))) >>= _) _ _ s
 refine wpAny_bind (wpAny_bind (wpAny_seqItemAt ho hd (wpAny_pure ?_)))
 rw [hx']
 show wpAny _ _ (setSeqItemAt l j v >>= _) _ _ s
 refine wpAny_bind (wpAny_setSeqItemAt ho hd ?_)
 first
  | exact wpAny_bind (wpAny_pure (wpAny_pure ⟨.none,rfl,wpAny_pure hQ⟩))
  | exact wpAny_pure ⟨.none,rfl,wpAny_pure hQ⟩
theorem sw:∀ {xs:List V} {us:List Value} {x:V} {u:Value} (i:Nat),Vals xs us→RelV x u→Vals (xs.set i x) (us.set i u)
 | _,_,_,_,_,.nil,_=>.nil
 | _,_,_,_,0,.cons _ t,r=>.cons r t
 | _,_,_,_,i+1,.cons q t,r=>.cons q (sw i t r)
def cPut:TSet
 | .ref p,y,v,H,Q=>(match unD (H p) with
  | some _=>∃ H',DPut H p y v H'∧Q H'
  | none=>match y with
   | .int i=>bnd (unM (H p)) fun xs=>0≤i∧i < xs.length∧Q (upd H p (.lst (xs.set i.toNat v)))
   | _=>False)
 | _,_,_,_,_=>False
theorem yX (hu:X.A.units+64 < cLine):PSet X cPut:=by
 intro pins s σ H o i v ov iv u Q I ro ri rv h
 cases o with
 | ref p=>
  cases ro
  unfold cPut at h
  dsimp only at h
  split at h
  · obtain ⟨H',g,q⟩:=h
    exact wZ (Nat.lt_of_le_of_lt (Nat.add_le_add_left (by decide:1≤64) _) hu) I g ri rv fun s' I'=>⟨H',I',q⟩
  · split at h
    · rename_i i
      obtain ⟨xs,e,h0,h1,q⟩:=bE h
      obtain ⟨t,rfl⟩:=ri
      have hH:=kh e
      obtain ⟨z,its,n,r,hl,eo⟩:=I.lstM hH
      have hs:s.heap.IsList p its.toArray:=⟨_,eo,rfl,n,rfl⟩
      have hz:its.length≤sizeLine:=by rw [← hl]; exact z
      refine ul hs h0 ?_ (by rw [List.size_toArray,← hl]; exact h1) ⟨_,I.lset (t':=s.toks) (ys:=xs.set i.toNat v) (its':=its.set i.toNat u) hH eo (by simp) (sw _ r rv) (by rw [List.length_set]; exact z),q⟩
      have:(sizeLine:Int) < 2^63:=by decide
      omega
    · exact h.elim
 | _=>exact False.elim h
end
section
variable {K:PySem.W.Frag} {g:TG} {tb:TS} {D:Ends} {σ:St} {H:Hp} {tl:TE} {ix:List (Option Nat)} {tt:TT} {te ta:TE} {k:Nat} {Q:VK}
theorem lx {r:V→Option Int→Option Int→Hp→VK→Prop} {a b:TO}:tSl r te a b σ H Q=te σ H fun x H1=>a σ H1 fun l H2=>b σ H2 fun u H3=>r x l u H3 Q:=rfl
theorem iE {R:Option Int→Hp→Prop}:tPart te σ H R=te σ H fun x H1=>∃ i,x=.int i∧R (some i) H1:=rfl
theorem fm {R:Option Int→Hp→Prop}:j9 σ H R=R none H:=rfl
theorem iF {to ti:TE} {t:TSet} {v:V} {R:St→Hp→Prop}:gSub to ti t v σ H R=to σ H fun o H1=>ti σ H1 fun i H2=>t o i v H2 fun H3=>R σ H3:=rfl
theorem ly {r:V→Hp→VK→Prop}:tUn r te σ H Q=te σ H fun x H1=>r x H1 Q:=rfl
theorem iG:tFor (iStr tl) g tb D σ H=tl σ H fun x H1=>∃ z,x=.str z∧LoopR (Its z) g tb D σ H1:=rfl
theorem gR:tComp ix (iStr tl) g tt te σ H Q=tl σ H fun x H1=>∃ z,x=.str z∧CompR (Its z) g tt te (fun l H'=>Q (.ref l) H') (subσ ix σ) H1:=rfl
theorem fq:sComp k ix (iStr tl) g tt te D σ H=tl σ H fun x H1=>∃ z,x=.str z∧CompR (Its z) g tt te (fun l H'=>D.nx (σ.set k (some (.ref l))) H') (subσ ix σ) H1:=rfl
theorem yY {x:Str}:tyV K "str" (.str x) H:=rfl
theorem jU {i j:Str}:cEq K (.str i) (.str j) H Q=Q (.bl (decide (i=j))) H:=rfl
theorem jV {i j:Str}:cNe K (.str i) (.str j) H Q=Q (.bl (!decide (i=j))) H:=rfl
theorem iH {z:Str}:kLen [.str z] H Q=(z.length≤sizeLine∧Q (.int z.length) H):=rfl
theorem gX {i j:Str}:cAdd (.str i) (.str j) H Q=(i.length+j.length≤sizeLine∧Q (.str (i++j)) H):=rfl
theorem AN {z:Str} {i:Int}:cIx (.str z) (.int i) H Q=(z.length≤sizeLine∧bnd (atI z.cps.toList i) fun c=>Q (.str ⟨#[c]⟩) H):=rfl
theorem iI {x y:Str}:kFind (.str x) [.str y] H Q=Q (.int (Txt.find x y)) H:=rfl
theorem zi {x y:Str}:oT (.str x) [.str y] H Q=((y.length==0)=false∧x.length≤sizeLine∧(Txt.split x y).length≤sizeLine∧∀ l,H l=none→Q (.ref l) (upd H l (.lst ((Txt.split x y).map V.str)))):=rfl
theorem yZ {p:Addr} {i:Int} {v:V} {xs:List V} {R:Hp→Prop} (hp:H p=some (.lst xs)) (h0:0≤i) (h1:i < xs.length) (h:R (upd H p (.lst (xs.set i.toNat v)))):cPut (.ref p) (.int i) v H R:=by
 unfold cPut
 dsimp only
 rw [hp]
 exact ⟨h0,h1,h⟩
theorem AO {p:Addr} {lo hi:Option Int} {xs:List V} (hp:H p=some (.lst xs)) (h:∀ l,H l=none→Q (.ref l) (upd H l (.lst (cutV xs lo hi)))):nN (.ref p) lo hi H Q:=by
 show bnd (unL (H p)) _
 rw [hp]
 exact h
end
end L2
namespace L2
open PySem PySem.Spec PyProof.Rows
def cBitI (g:Int→Int→Int):R2
 | .int i,.int j,H,Q=>Q (.int (g i j)) H
 | _,_,_,_=>False
def cShl:R2
 | .int i,.int j,H,Q=>CPow i j∧Q (.int (i*2^j.toNat)) H
 | _,_,_,_=>False
def cShr:R2
 | .int i,.int j,H,Q=>0≤j∧Q (.int (i / 2^j.toNat)) H
 | _,_,_,_=>False
abbrev cAnd:R2:=cBitI Builtin.bitAnd
abbrev cOr:R2:=cBitI Builtin.bitOr
section
variable {X:Cx}
theorem sx {o:Operator} {g:Int→Int→Int} (h0:OpR X (binaryOp o) (rI0 fun i j=>.int (g i j))):OpR X (binaryOp o) (cBitI g):=by
 intro pins s σ H x y v u Q I rx ry h
 unfold cBitI at h
 split at h
 · exact h0 pins s σ H _ _ v u Q I rx ry ⟨_,_,rfl,rfl,h⟩
 · exact h.elim
theorem u5:OpR X (binaryOp .BitAnd) cAnd:=sx zW
theorem sy:OpR X (binaryOp .BitOr) cOr:=sx AE
theorem mU:OpR X (binaryOp .LShift) cShl:=by
 intro pins s σ H x y v u Q I rx ry h
 unfold cShl at h
 split at h
 · exact zU pins s σ H _ _ v u Q I rx ry ⟨_,_,rfl,rfl,h.1,h.2⟩
 · exact h.elim
theorem zj:OpR X (binaryOp .RShift) cShr:=by
 intro pins s σ H x y v u Q I rx ry h
 unfold cShr at h
 split at h
 · exact zV pins s σ H _ _ v u Q I rx ry ⟨_,_,rfl,rfl,h.1,h.2⟩
 · exact h.elim
end
section
variable {H:Hp} {Q:VK} {i j:Int}
theorem kS {g:Int→Int→Int}:cBitI g (.int i) (.int j) H Q=Q (.int (g i j)) H:=rfl
theorem mV:cShr (.int i) (.int j) H Q=(0≤j∧Q (.int (i / 2^j.toNat)) H):=rfl
end
end L2
namespace L2
open PySem PySem.Spec PyProof.Rows
section
variable {X:Cx}
def kInt:List V→Hp→VK→Prop
 | [.int i],H,Q=>Q (.int i) H
 | [.bl k],H,Q=>Q (.int (if k then 1 else 0)) H
 | _,_,_=>False
def kT:V→List V→Hp→VK→Prop
 | .int i,[],H,Q=>Q (.int (Builtin.Int.intBits i:Nat)) H
 | _,_,_,_=>False
theorem oU:MtR X "int.bit_length" kT:=by
 intro pins s σ H x vs v us Q I rx rv h
 unfold kT at h
 split at h
 · obtain ⟨t,rfl⟩:=rx
   cases rv
   exact call_int_bit_length ⟨.int _,H,I.tok _,⟨_,rfl⟩,h⟩
 · exact h.elim
def kAll:List V→Hp→VK→Prop
 | [.ref p],H,Q=>bnd (unL (H p)) fun ys=>∃ bs:List Bool,ys=bs.map V.bl∧Q (.bl (bs.all id)) H
 | _,_,_=>False
theorem xm (bs:List Bool):(List.range bs.length).all (fun i=>bs.getD i false)=bs.all id:=by
 rw [Bool.eq_iff_iff,List.all_eq_true,List.all_eq_true]
 constructor
 · intro h b hb
   obtain ⟨i,hi,e⟩:=List.mem_iff_getElem.mp hb
   have:=h i (List.mem_range.mpr hi)
   rw [List.getD,List.getElem?_eq_getElem hi,e] at this
   exact this
 · intro h i hi
   have hi':i < bs.length:=List.mem_range.mp hi
   have:=h bs[i] (List.getElem_mem hi')
   simpa [List.getD,hi'] using this
theorem oV:bootBuiltins "all"=some (.builtin "all"):=by decide+kernel
theorem kC (hc:X.calm=true):CallR X (.builtin "all") kAll:=by
 intro pins s σ H xs us Q I r h
 unfold kAll at h
 split at h
 · rename_i p
   obtain ⟨ys,e,bs,rfl,q⟩:=bE h
   obtain ⟨u,rfl,ru⟩:=fX r
   cases ru
   obtain ⟨its,rv,pl,hz⟩:=I.list (sm e)
   have hl:=rv.length
   rw [List.length_map] at hl
   have hlt:p < s.heap.objs.size:=by
    obtain ⟨o,h1,_⟩:=pl.isList
    exact Heap.lt_size h1
   refine call_all_walkS (wpAny_pyIter_list pl.isList ?_)
   refine ⟨s.heap.objs.size,_,_,_,its.toArray.size,_,_,fun i=>bs.getD i false,rfl,(Walks.list (A:=X.A.in1) (I.ok.hd hc) s.heap.objs.size p (Nat.ne_of_lt hlt) its.toArray).toS,⟨⟨_,Heap.get?_push_size _ rfl,rfl,rfl⟩,pl.isList.push _⟩,?_,fun s' hm=>?_⟩
   · intro i v s1 Q1 E1 hP hQ
     have hv:its[i]? =some v:=by simpa using hP
     obtain ⟨x,hx,rx⟩:=rv.get' hv
     obtain ⟨b,hb,rfl⟩:∃ b,bs[i]? =some b∧V.bl b=x:=by simpa using hx
     cases rx
     refine wpAny_truthy_bool ?_
     have e3:bs.getD i false=b:=by simp [List.getD,hb]
     rw [← e3]
     exact hQ
   · refine ⟨.bl _,H,I.walked (l:=p) hm,?_,q⟩
     have e2:its.toArray.size=bs.length:=by rw [List.size_toArray]; exact hl.symm
     rw [e2,xm]
     rfl
 · exact h.elim
def Itd (hi:Int) (n:Nat):It:=⟨fun i _=>i < n,fun i H x H'=>H'=H∧x=.int (hi - i),fun i _=>n≤i⟩
def iRngD (ta:TA):TI:=fun σ H R=>ta σ H fun vs H1=>∃ i j:Int,vs=[.int i,.int j,.int (-1)]∧(-(2^60)≤i∧i < 2^60∧ -(2^60)≤j∧j < 2^60)∧R (Itd i (i - j).toNat) H1
end
section
variable {K:PySem.W.Frag} {g:TG} {tb:TS} {D:Ends} {σ:St} {H:Hp} {ta:TA} {Q:VK}
theorem kU {k:Bool}:kInt [.bl k] H Q=Q (.int (if k then 1 else 0)) H:=rfl
theorem kW {i:Int}:kInt [.int i] H Q=Q (.int i) H:=rfl
theorem ja {i:Int}:kT (.int i) [] H Q=Q (.int (Builtin.Int.intBits i:Nat)) H:=rfl
theorem rT {p:Addr} {bs:List Bool} (hp:H p=some (.lst (bs.map V.bl))) (h:Q (.bl (bs.all id)) H):kAll [.ref p] H Q:=by
 show bnd (unL (H p)) _
 rw [hp]
 exact bt (a:=bs.map V.bl) rfl ⟨bs,rfl,h⟩
theorem ka:tFor (iRngD ta) g tb D σ H=ta σ H fun vs H1=>∃ i j:Int,vs=[.int i,.int j,.int (-1)]∧(-(2^60)≤i∧i < 2^60∧ -(2^60)≤j∧j < 2^60)∧LoopR (Itd i (i - j).toNat) g tb D σ H1:=rfl
end
end L2
namespace L2
open PySem PySem.Spec PyProof.Rows
section
variable {X:Cx}
def Ite (K:PySem.W.Frag) (a:Addr):It:=
 ⟨fun i H=>∃ xs x,SqL K H a xs∧xs[i]? =some x,
  fun i H v H'=>∃ T x,v=.ref T∧H T=none∧H'=upd H T (.tup [.int i,x])∧∀ xs,SqL K H a xs→xs[i]? =some x,
  fun i H=>∃ xs,SqL K H a xs∧xs.length≤i⟩
def iEnum (K:PySem.W.Frag) (ta:TA):TI:=fun σ H R=>ta σ H fun vs H1=>∃ a,vs=[.ref a]∧(∃ xs,SqL K H1 a xs)∧R (Ite K a) H1
end
section
variable {K:PySem.W.Frag} {g:TG} {tb:TS} {D:Ends} {σ:St} {H:Hp} {ta:TA} {Q:VK} {ix:List (Option Nat)} {tt:TT} {te:TE} {k:Nat}
theorem kX:tFor (iEnum K ta) g tb D σ H=ta σ H fun vs H1=>∃ a,vs=[.ref a]∧(∃ xs,SqL K H1 a xs)∧LoopR (Ite K a) g tb D σ H1:=rfl
theorem kb:tComp ix (iEnum K ta) g tt te σ H Q=ta σ H fun vs H1=>∃ a,vs=[.ref a]∧(∃ xs,SqL K H1 a xs)∧CompR (Ite K a) g tt te (fun l H'=>Q (.ref l) H') (subσ ix σ) H1:=rfl
theorem jb:sComp k ix (iEnum K ta) g tt te D σ H=ta σ H fun vs H1=>∃ a,vs=[.ref a]∧(∃ xs,SqL K H1 a xs)∧CompR (Ite K a) g tt te (fun l H'=>D.nx (σ.set k (some (.ref l))) H') (subσ ix σ) H1:=rfl
end
end L2
namespace L2
open PySem PySem.Spec PyProof.Rows
end L2
namespace L2
open PySem PySem.Spec PyProof.Rows
end L2
namespace L2
open PySem PySem.Spec PyProof.Rows
def rngL (i j:Int):List Int:=(List.range (j - i).toNat).map fun (k:Nat)=>i+(k:Int)
theorem kl (i j:Int):(rngL i j).length=(j - i).toNat:=by unfold rngL; simp
theorem nA:∀ {xs:List V} {us:List Value},xs.length=us.length→(∀ (i:Nat) x u,xs[i]? =some x→us[i]? =some u→RelV x u)→Vals xs us
 | [],[],_,_=>.nil
 | [],_::_,h,_=>by simp at h
 | _::_,[],h,_=>by simp at h
 | x::xs,u::us,h,f=>.cons (f 0 x u rfl rfl) (nA (by simpa using h) fun i y e h1 h2=>f (i+1) y e (by simpa using h1) (by simpa using h2))
theorem yt {i j:Int} {acc:Array Value} (h:ItemsOf (fun k v=>∃ t,v=.int (i+k*1) t) acc (j - i).toNat):Vals ((rngL i j).map V.int) acc.toList:=by
 refine nA (by rw [List.length_map,kl,Array.length_toList]; exact h.1.symm) fun k x u hx hu=>?_
 obtain ⟨t,rfl⟩:=h.2 k u (by simpa using hu)
 unfold rngL at hx
 rw [List.map_map,List.getElem?_map] at hx
 by_cases hk:k < (j - i).toNat
 · rw [List.getElem?_range hk] at hx
   cases hx
   exact ⟨t,by rw [Int.mul_one]⟩
 · rw [List.getElem?_eq_none (by simpa using hk)] at hx
   cases hx
section
variable {X:Cx}
def kD (ta:TA):TE:=fun σ H Q=>ta σ H fun vs H1=>∃ j:Int,vs=[.int j]∧ -(2^60)≤j∧j≤1000∧∀ l,H1 l=none→Q (.ref l) (upd H1 l (.lst ((rngL 0 j).map V.int)))
def xn (ta:TA):TE:=fun σ H Q=>ta σ H fun vs H1=>∃ i j:Int,vs=[.int i,.int j]∧(0≤i∧i≤1000∧ -(2^60)≤j∧j≤1000)∧∀ l,H1 l=none→Q (.ref l) (upd H1 l (.lst ((rngL i j).map V.int)))
theorem yu {pins:List (Addr × Obj)} {σ:St} {H1:Hp} {s1:Shared} {Q:VK} {i j:Int} {t u v:Tok} {tk:Nat} {A:Around} {E:Value→Shared→Prop} (hh:A.handled=none) (I1:Inv X pins σ H1 s1) (h1:0≤i) (h2:i≤1000) (h3: -(2^60)≤j) (h4:j≤1000)
  (q:∀ l,H1 l=none→Q (.ref l) (upd H1 l (.lst ((rngL i j).map V.int)))):
  wpAny (model X.prog X.w) A (call (.type "list") [.ref s1.heap.objs.size]) (EP X pins σ Q) E { s1 with heap:=s1.heap.push { cls:=.type "range",data:=.fields #[.int i t,.int j u,.int 1 v] },toks:=tk }:=by
 have I2:Inv X pins σ H1 { s1 with heap:=s1.heap.push { cls:=.type "range",data:=.fields #[.int i t,.int j u,.int 1 v] },toks:=tk }:=I1.kept fun b o e=>Heap.get?_push_of_some _ e
 refine call_list_range (n:=(j - i).toNat) hh (IsRange.new ..) (small_one (by omega) (by omega) (by omega) (by omega)) (by rw [rangeSize_one]; split <;> omega) (by omega) fun h' tk' acc' c' old hS' hacc=>?_
 have hlen:((rngL i j).map V.int).length≤sizeLine:=by rw [List.length_map,kl]; exact Nat.le_of_lt (aI (by omega))
 exact ⟨.ref _,_,I2.laid (t':=tk') (o:=.lst ((rngL i j).map V.int)) old (Nat.le_refl _) ⟨hlen,acc'.toList,c',yt hacc,hS'⟩,rfl,q _ (I2.hok.fresh (Nat.le_refl _))⟩
theorem nB {a:Expr} {ta:TA} {p p2 pos pos2:Pos} (hc:X.calm=true) (hgl:Gl X "list") (hgr:Gl X "range") (hl:X.mg "list"=none) (hr:X.mg "range"=none) (ha:PA X [a] ta)
  (hs1:starEach [.Call (.Name "range" p2) [a] [] pos2] X.env=[(false,eval (.Call (.Name "range" p2) [a] [] pos2) X.env)]:=by rfl) (hs:starEach [a] X.env=[(false,eval a X.env)]:=by rfl):
  PE X (.Call (.Name "list" p) [.Call (.Name "range" p2) [a] [] pos2] [] pos) (kD ta):=by
 intro pins s σ H Q I h
 refine wpAny_Call_Name_kw (im I hgl hl i9 ?_ (by decide) (by decide))
 refine PyProof.Rows.callWith_type1 ?_ hs1 rfl
 rw [hs1]
 show wpAny _ _ (spliced [(false,eval (.Call (.Name "range" p2) [a] [] pos2) X.env)]) _ _ s
 refine Calls.spliced_cons ?_
 refine Call_ (im I hgr hr boot_range (PyProof.Rows.callWith_type1 (thn (ha pos2 pins s σ H _ I h) fun us s1 ⟨vs,H1,I1,r1,q1⟩=>?_) hs rfl))
 obtain ⟨j,e,q1,q2,q⟩:=q1
 subst e
 cases r1 with
 | cons r rr=>
  cases rr
  obtain ⟨t,rfl⟩:=r
  refine call_range_1 ?_
  refine Calls.spliced_nil ?_
  exact yu (I.ok.hd hc) I1 (by omega) (by omega) q1 q2 q
end
section
variable {σ:St} {H:Hp} {Q:VK} {ta:TA}
theorem kc:kD ta σ H Q=ta σ H fun vs H1=>∃ j:Int,vs=[.int j]∧ -(2^60)≤j∧j≤1000∧∀ l,H1 l=none→Q (.ref l) (upd H1 l (.lst ((rngL 0 j).map V.int))):=rfl
theorem ke:xn ta σ H Q=ta σ H fun vs H1=>∃ i j:Int,vs=[.int i,.int j]∧(0≤i∧i≤1000∧ -(2^60)≤j∧j≤1000)∧∀ l,H1 l=none→Q (.ref l) (upd H1 l (.lst ((rngL i j).map V.int))):=rfl
end
end L2
namespace L2
def besL (h w c:Int):List Int:=(if 0 < c / w then [c - w] else [])++(if 0 < c % w then [c - 1] else [])++(if c % w < w - 1 then [c+1] else [])++(if c / w < h - 1 then [c+w] else [])
inductive RC (h w:Int) (cs:List Int) (st:Int):Int→Prop
 | start:st∈cs→RC h w cs st st
 | step {x y:Int}:RC h w cs st x→y∈besL h w x→y∈cs→RC h w cs st y
theorem RC.mem {h w:Int} {cs:List Int} {st x:Int} (r:RC h w cs st x):x∈cs:=by cases r <;> assumption
theorem RC.st {h w:Int} {cs:List Int} {st x:Int} (r:RC h w cs st x):st∈cs:=by
 induction r with
 | start h=>exact h
 | step _ _ _ ih=>exact ih
theorem jW:∀ {xs ys:List Int},xs.Nodup→(∀ x∈xs,x∈ys)→xs.length≤ys.length
 | [],_,_,_=>Nat.zero_le _
 | x::xs,ys,nd,h=>by
  have hx:=h x List.mem_cons_self
  have nd':=List.nodup_cons.mp nd
  have ih:=jW (xs:=xs) (ys:=ys.erase x) nd'.2 fun y hy=>by
   have ne:y≠x:=fun e=>nd'.1 (e ▸ hy)
   exact (List.mem_erase_of_ne ne).mpr (h y (List.mem_cons_of_mem _ hy))
  rw [List.length_erase_of_mem hx] at ih
  have:0 < ys.length:=List.length_pos_of_mem hx
  simp only [List.length_cons]
  omega
structure BI (h w:Int) (cs:List Int) (st:Int) (fs:List Int) (pl:Nat):Prop where
 nd:fs.Nodup
 rc:∀ x∈fs,RC h w cs st x
 hst:st∈fs
 le:pl≤fs.length
 cl:∀ (i:Nat) (x y:Int),i < pl→fs[i]? =some x→y∈besL h w x→y∈cs→y∈fs
theorem BI.len {h w:Int} {cs:List Int} {st:Int} {fs:List Int} {pl:Nat} (b:BI h w cs st fs pl):fs.length≤cs.length:=jW b.nd fun x hx=>(b.rc x hx).mem
theorem BI.start {h w:Int} {cs:List Int} {st:Int} (hs:st∈cs):BI h w cs st [st] 0:=
 ⟨by simp,fun x hx=>by rw [List.mem_singleton.mp hx]; exact .start hs,by simp,Nat.zero_le _,fun i x y hi=>absurd hi (Nat.not_lt_zero _)⟩
theorem BI.done {h w:Int} {cs:List Int} {st:Int} {fs:List Int} {pl:Nat} (b:BI h w cs st fs pl) (e:¬ pl < fs.length) (x:Int):x∈fs↔RC h w cs st x:=by
 refine ⟨b.rc x,fun r=>?_⟩
 induction r with
 | start _=>exact b.hst
 | step r hy hc ih=>
  obtain ⟨i,hi⟩:=List.getElem?_of_mem ih
  have hlt:i < fs.length:=(List.getElem?_eq_some_iff.mp hi).1
  exact b.cl i _ _ (by omega) hi hy hc
def addC (cs fs:List Int) (y:Int):List Int:=if y∈cs∧¬ y∈fs then fs++[y] else fs
structure BJ (h w:Int) (cs:List Int) (st:Int) (f0:List Int) (pl:Nat) (bs:List Int) (fs:List Int):Prop where
 nd:fs.Nodup
 rc:∀ x∈fs,RC h w cs st x
 pre:f0 <+:fs
 al:∀ y∈bs,y∈cs→y∈fs
theorem BJ.zero {h w:Int} {cs:List Int} {st:Int} {fs:List Int} {pl:Nat} (b:BI h w cs st fs pl):BJ h w cs st fs pl [] fs:=⟨b.nd,b.rc,List.prefix_refl _,fun y hy=>nomatch hy⟩
theorem BJ.more {h w:Int} {cs:List Int} {st:Int} {f0 fs bs:List Int} {pl:Nat} {x y:Int} (j:BJ h w cs st f0 pl bs fs) (hx:RC h w cs st x) (hy:y∈besL h w x):BJ h w cs st f0 pl (bs++[y]) (addC cs fs y):=by
 unfold addC
 split
 · rename_i hc
   refine ⟨?_,fun z hz=>?_,j.pre.trans (List.prefix_append _ _),fun z hz hzc=>?_⟩
   · refine List.nodup_append.mpr ⟨j.nd,by simp,fun a ha b hb=>?_⟩
     rw [List.mem_singleton.mp hb]
     intro e
     exact hc.2 (e ▸ ha)
   · rcases List.mem_append.mp hz with hz | hz
     · exact j.rc z hz
     · rw [List.mem_singleton.mp hz]
       exact .step hx hy hc.1
   · rcases List.mem_append.mp hz with hz | hz
     · exact List.mem_append_left _ (j.al z hz hzc)
     · rw [List.mem_singleton.mp hz]
       simp
 · rename_i hc
   refine ⟨j.nd,j.rc,j.pre,fun z hz hzc=>?_⟩
   rcases List.mem_append.mp hz with hz | hz
   · exact j.al z hz hzc
   · rw [List.mem_singleton.mp hz] at hzc ⊢
     exact Decidable.byContradiction fun n=>hc ⟨hzc,n⟩
theorem BJ.done {h w:Int} {cs:List Int} {st:Int} {f0 fs:List Int} {pl:Nat} {x:Int} (b:BI h w cs st f0 pl) (hx:f0[pl]? =some x) (j:BJ h w cs st f0 pl (besL h w x) fs):BI h w cs st fs (pl+1):=by
 have hlt:pl < f0.length:=(List.getElem?_eq_some_iff.mp hx).1
 have hle:=j.pre.length_le
 have get:∀ i,i < f0.length→fs[i]? =f0[i]? :=fun i hi=>by
  obtain ⟨t,e⟩:=j.pre
  rw [← e,List.getElem?_append_left hi]
 refine ⟨j.nd,j.rc,j.pre.subset b.hst,by omega,fun i z y hi hz hy hc=>?_⟩
 rw [get i (by omega)] at hz
 by_cases e:i < pl
 · exact j.pre.subset (b.cl i z y e hz hy hc)
 · have:i=pl:=by omega
   subst this
   rw [hx] at hz
   cases hz
   exact j.al y hy hc
theorem xo {rs fs:List Int} (p:rs.Perm fs) (s:rs.Pairwise (· ≤·)) (nd:fs.Nodup):rs.Pairwise (· < ·):=by
 have nd':rs.Nodup:=p.nodup_iff.mpr nd
 refine (s.and nd').imp ?_
 intro a b h
 have:=h.1
 have:=h.2
 omega
end L2
namespace L2
open PySem PySem.Spec PyProof.Rows
local macro_rules | `(tactic| walk_at "w")=>`(tactic| (first | simp only [aV,gT,g7,db,jn,w_c,lq,ip,iq,gU,iu,w_b,w_not,jD,lr,iw,iy,jE,jo,gW,lu,iz,jF,jG,kN,jH,iA,iB,iC,iD,gP,gQ,e6,fj,fk,dS,jI,jJ,jK,jL,jM,jN,jO,jP,jQ,jR,jS,jT,lx,iE,fm,iF,ly,iG,gR,fq,jU,jV,iH,gX,iI,
 List.getElem?_cons_zero,List.getElem?_cons_succ,Option.some.injEq,exists_eq_left',exists_eq_left,List.set_cons_zero,List.set_cons_succ,d6,V.int.injEq,V.bl.injEq,V.ref.injEq,V.str.injEq,List.append_nil,List.nil_append,List.cons_append] | dsimp only | skip))
theorem aE {n:Nat} (h:n≤1000):n≤sizeLine:=Nat.le_of_lt (aI h)
def IsFl (H:Hp) (a:Addr) (h w g:Int):Prop:=H a=some (.tup [.int h,.int w,.int g])
theorem Same.laid {H H':Hp} {p:Addr} {o:HO} (s:Same H H') (h:H' p=none):Same H (upd H' p o):=fun b u e=>by
 rw [ar (aG (s b u e) h)]
 exact s b u e
theorem Same.own {H H':Hp} {p:Addr} {o:HO} (s:Same H H') (h:H p=none):Same H (upd H' p o):=fun b u e=>by
 rw [ar (aG e h)]
 exact s b u e
theorem mW {l:List Int} {i:Nat} {x:Int} (h:l[i]? =some x):l.getD i 0=x:=by
 rw [List.getD,h]; rfl
theorem nO {ns:List Int} {k:Int} (h0:0≤k) (h1:k < ns.length):atI (ns.map V.int) k=some (.int (ns.getD k.toNat 0)):=by
 have e:((k.toNat:Nat):Int)=k:=Int.toNat_of_nonneg h0
 have hlt:k.toNat < ns.length:=by omega
 have:(ns.map V.int)[k.toNat]? =some (.int (ns.getD k.toNat 0)):=by
  rw [List.getElem?_map,List.getElem?_eq_getElem hlt]
  simp [List.getD,hlt]
 have q:=gO this
 rw [e] at q
 exact q
theorem gy {α:Type} (l:List α):l.filter (fun _=>true)=l:=List.filter_eq_self.mpr fun _ _=>rfl
theorem gY {l:List Int} {i:Nat} {y:V} (h:(l.map V.int)[i]? =some y):∃ z,l[i]? =some z∧y=.int z:=by
 rw [List.getElem?_map] at h
 cases e:l[i]? with
 | none=>rw [e] at h; cases h
 | some z=>rw [e] at h; cases h; exact ⟨z,rfl,rfl⟩
theorem um {l:List Addr} {i:Nat} {y:V} (h:(l.map V.ref)[i]? =some y):∃ z,l[i]? =some z∧y=.ref z:=by
 rw [List.getElem?_map] at h
 cases e:l[i]? with
 | none=>rw [e] at h; cases h
 | some z=>rw [e] at h; cases h; exact ⟨z,rfl,rfl⟩
theorem ii {h w:Int} (h0:1≤h) (h1:h≤6):CMul h w:=.inl ⟨by omega,by omega⟩
theorem nP {ps:List Addr} {k:Int} {p:Addr} (h0:0≤k) (h:ps[k.toNat]? =some p):atI (ps.map V.ref) k=some (.ref p):=by
 have e:((k.toNat:Nat):Int)=k:=Int.toNat_of_nonneg h0
 have q0:(ps.map V.ref)[k.toNat]? =some (.ref p):=by rw [List.getElem?_map,h]; rfl
 have q:=gO q0
 rw [e] at q
 exact q
section
variable {k:Nat} {lo:Int} {n:Nat} {tt:TT} {te:TE} {fin:Addr→Hp→Prop} {σ0:St} {H1:Hp} {K:PySem.W.Frag} {a:Addr}
theorem lz {n i:Nat} (b:Nat→Bool) (h:i < n) (hn:n≤900):((List.range i).filter b).length≤900:=by
 have:=List.length_filter_le b (List.range i)
 rw [List.length_range] at this
 omega
theorem uo (b:Nat→Bool) (f:Nat→V) (hn:n≤900)
  (ht:∀ i H R,i < n→Same H1 H→(∀ H',Same H H'→R (b i) H')→tt (σ0.set k (some (.int (lo+i)))) H R)
  (he:∀ i H Q,i < n→b i=true→Same H1 H→(∀ H',Same H H'→Q (f i) H')→te (σ0.set k (some (.int (lo+i)))) H Q)
  (hd:∀ l H,H1 l=none→Same H1 H→H l=some (.lst (((List.range n).filter b).map f))→fin l H):
  CompR (Itr lo n) (gName k) tt te fin σ0 H1:=by
 refine oS (fun l i σ H=>(σ=σ0∨∃ cv,σ=σ0.set k cv)∧Same H1 H∧H l=some (.lst (((List.range i).filter b).map f))) (fun l hl=>⟨.inl rfl,(Same.refl H1).laid hl,by rw [ah]; rfl⟩) ?_ (fun l σ H hl p=>hd l H hl p.2.1 p.2.2)
 rintro l i σ H hl hi ⟨hσ,s1,el⟩
 rw [db]
 have e:σ.set k (some (.int (lo+i)))=σ0.set k (some (.int (lo+i))):=by
  rcases hσ with rfl | ⟨cv,rfl⟩
  · rfl
  · exact List.set_set ..
 rw [e]
 refine ht i H _ hi s1 fun H2 s2=>?_
 have el2:=s2 _ _ el
 cases hb:b i with
 | false=>
  rw [if_neg Bool.false_ne_true]
  refine ⟨.inr ⟨_,rfl⟩,s1.trans s2,?_⟩
  rw [List.range_succ,List.filter_append,List.filter_cons,hb]
  simpa using el2
 | true=>
  rw [if_pos rfl]
  refine he i H2 _ hi hb (s1.trans s2) fun H3 s3=>⟨_,s3 _ _ el2,by rw [List.length_map]; exact aI (Nat.le_trans (lz b hi hn) (by decide)),.inr ⟨_,rfl⟩,((s1.trans s2).trans s3).own hl,?_⟩
  rw [ah,List.range_succ,List.filter_append,List.filter_cons,hb]
  simp
theorem ft {xs:List V} (b:Nat→Bool) (f:Nat→V) (hn:xs.length≤900) (hq:SqL K H1 a xs)
  (ht:∀ i x H R,xs[i]? =some x→Same H1 H→(∀ H',Same H H'→R (b i) H')→tt (σ0.set k (some x)) H R)
  (he:∀ i x H Q,xs[i]? =some x→b i=true→Same H1 H→(∀ H',Same H H'→Q (f i) H')→te (σ0.set k (some x)) H Q)
  (hd:∀ l H,H1 l=none→Same H1 H→H l=some (.lst (((List.range xs.length).filter b).map f))→fin l H):
  CompR (Itl K a) (gName k) tt te fin σ0 H1:=by
 refine qP (xs:=xs) (fun l i σ H=>(σ=σ0∨∃ cv,σ=σ0.set k cv)∧Same H1 H∧H l=some (.lst (((List.range i).filter b).map f))) (fun l hl=>⟨.inl rfl,(Same.refl H1).laid hl,by rw [ah]; rfl⟩) (fun l i σ H _ _ p=>p.2.1.seq hq) ?_ (fun l σ H hl p=>hd l H hl p.2.1 p.2.2)
 rintro l i x σ H hl hx ⟨hσ,s1,el⟩
 have hi:i < xs.length:=(List.getElem?_eq_some_iff.mp hx).1
 rw [db]
 have e:σ.set k (some x)=σ0.set k (some x):=by
  rcases hσ with rfl | ⟨cv,rfl⟩
  · rfl
  · exact List.set_set ..
 rw [e]
 refine ht i x H _ hx s1 fun H2 s2=>?_
 have el2:=s2 _ _ el
 cases hb:b i with
 | false=>
  rw [if_neg Bool.false_ne_true]
  refine ⟨.inr ⟨_,rfl⟩,s1.trans s2,?_⟩
  rw [List.range_succ,List.filter_append,List.filter_cons,hb]
  simpa using el2
 | true=>
  rw [if_pos rfl]
  refine he i x H2 _ hx hb (s1.trans s2) fun H3 s3=>⟨_,s3 _ _ el2,by rw [List.length_map]; exact aI (Nat.le_trans (lz b hi hn) (by decide)),.inr ⟨_,rfl⟩,((s1.trans s2).trans s3).own hl,?_⟩
  rw [ah,List.range_succ,List.filter_append,List.filter_cons,hb]
  simp
theorem jp (b:Nat→Bool) (f:Nat→Int) (hn:n≤900)
  (ht:∀ i H R,i < n→Same H1 H→(∀ H',Same H H'→R (b i) H')→tt (σ0.set k (some (.int (lo+i)))) H R)
  (he:∀ i H Q,i < n→b i=true→Same H1 H→(∀ H',Same H H'→Q (.int (f i)) H')→te (σ0.set k (some (.int (lo+i)))) H Q)
  (hd:∀ l H,H1 l=none→Same H1 H→H l=some (.lst ((((List.range n).filter b).map f).map V.int))→fin l H):
  CompR (Itr lo n) (gName k) tt te fin σ0 H1:=
 uo b (fun i=>.int (f i)) hn ht he fun l H hl s1 el=>hd l H hl s1 (by rw [List.map_map]; exact el)
theorem xp (b:Int→Bool) (f:Int→Int) (xs:List Int):((List.range xs.length).filter fun i=>b (xs.getD i 0)).map (fun i=>V.int (f (xs.getD i 0)))=((xs.filter b).map f).map V.int:=by
 have e:xs=(List.range xs.length).map fun i=>xs.getD i 0:=by
  refine List.ext_getElem? fun i=>?_
  rw [List.getElem?_map]
  by_cases h:i < xs.length
  · rw [List.getElem?_range h,List.getElem?_eq_getElem h]
    simp [List.getD,h]
  · rw [List.getElem?_eq_none (by omega),List.getElem?_eq_none (by simpa using h)]; rfl
 conv=>rhs; rw [e]
 rw [List.filter_map,List.map_map,List.map_map]
 rfl
theorem dh {xs:List Int} (b:Int→Bool) (f:Int→Int) (hn:xs.length≤900) (hq:SqL K H1 a (xs.map V.int))
  (ht:∀ x H R,x∈xs→Same H1 H→(∀ H',Same H H'→R (b x) H')→tt (σ0.set k (some (.int x))) H R)
  (he:∀ x H Q,x∈xs→b x=true→Same H1 H→(∀ H',Same H H'→Q (.int (f x)) H')→te (σ0.set k (some (.int x))) H Q)
  (hd:∀ l H,H1 l=none→Same H1 H→H l=some (.lst (((xs.filter b).map f).map V.int))→fin l H):
  CompR (Itl K a) (gName k) tt te fin σ0 H1:=by
 refine ft (xs:=xs.map V.int) (fun i=>b (xs.getD i 0)) (fun i=>.int (f (xs.getD i 0))) (by rw [List.length_map]; exact hn) hq ?_ ?_ ?_
 · intro i x H R hx s1 h
   obtain ⟨z,hz,rfl⟩:=gY hx
   rw [mW hz] at h
   exact ht z H R (List.mem_of_getElem? hz) s1 h
 · intro i x H Q hx hb s1 h
   obtain ⟨z,hz,rfl⟩:=gY hx
   rw [mW hz] at h hb
   exact he z H Q (List.mem_of_getElem? hz) hb s1 h
 · intro l H hl s1 el
   refine hd l H hl s1 ?_
   rw [List.length_map] at el
   rw [el,xp]
structure NewAt (H1 H:Hp) (l:Addr) (as:List Addr) (os:List HO):Prop where
 len:as.length=os.length
 nd:as.Nodup
 nl:l∉as
 fr:∀ a∈as,H1 a=none
 at_:∀ (j:Nat) (a:Addr) (o:HO),as[j]? =some a→os[j]? =some o→H a=some o
theorem NewAt.nil {H1 H:Hp} {l:Addr}:NewAt H1 H l [] [] where
 len:=rfl
 nd:=List.nodup_nil
 nl:=by simp
 fr:=fun a h=>nomatch h
 at_:=fun j a o h=>by simp at h
theorem NewAt.same {H1 H H':Hp} {l:Addr} {as:List Addr} {os:List HO} (x:NewAt H1 H l as os) (s:Same H H'):NewAt H1 H' l as os:=
 ⟨x.len,x.nd,x.nl,x.fr,fun j a o h1 h2=>s _ _ (x.at_ j a o h1 h2)⟩
theorem NewAt.mem {H1 H:Hp} {l:Addr} {as:List Addr} {os:List HO} (x:NewAt H1 H l as os) {a:Addr} (h:a∈as):∃ o,H a=some o:=by
 obtain ⟨j,hj,e⟩:=List.mem_iff_getElem.mp h
 have hj2:j < os.length:=by rw [← x.len]; exact hj
 exact ⟨os[j],x.at_ j a os[j] (by rw [List.getElem?_eq_getElem hj,e]) (List.getElem?_eq_getElem hj2)⟩
theorem NewAt.more {H1 H H2:Hp} {l p:Addr} {as:List Addr} {os:List HO} {o u:HO} (x:NewAt H1 H l as os) (s1:Same H1 H) (s:Same H H2) (hp:H p=none) (e:H2 p=some o) (hl:H l=some u) (o':HO):NewAt H1 (upd H2 l o') l (as++[p]) (os++[o]):=by
 have npl:p≠l:=fun z=>by rw [z,hl] at hp; cases hp
 refine ⟨by simp [x.len],?_,?_,?_,?_⟩
 · refine List.nodup_append.mpr ⟨x.nd,by simp,fun a ha b hb z=>?_⟩
   rw [List.mem_singleton.mp hb] at z
   obtain ⟨o2,e2⟩:=x.mem ha
   rw [z,hp] at e2; cases e2
 · intro hm
   rcases List.mem_append.mp hm with hm | hm
   · exact x.nl hm
   · exact npl (List.mem_singleton.mp hm).symm
 · intro a ha
   rcases List.mem_append.mp ha with ha | ha
   · exact x.fr a ha
   · rw [List.mem_singleton.mp ha]
     cases q:H1 p with
     | none=>rfl
     | some v=>rw [s1 _ _ q] at hp; cases hp
 · intro j a o2 h1 h2
   have hlen:=x.len
   by_cases hj:j < as.length
   · rw [List.getElem?_append_left hj] at h1
     rw [List.getElem?_append_left (by omega)] at h2
     have nal:a≠l:=fun z=>x.nl (z ▸ List.mem_of_getElem? h1)
     rw [ar nal]
     exact s _ _ (x.at_ j a o2 h1 h2)
   · rw [List.getElem?_append_right (by omega)] at h1
     rw [List.getElem?_append_right (by omega)] at h2
     have e0:j - as.length=0:=by
      have:=(List.getElem?_eq_some_iff.mp h1).1
      simp at this
      omega
     rw [e0] at h1
     rw [show j - os.length=0 by omega] at h2
     simp at h1 h2
     subst h1 h2
     rw [ar npl]
     exact e
theorem uq (b:Nat→Bool) (o:Nat→HO) (hn:n≤900)
  (ht:∀ i H R,i < n→Same H1 H→(∀ H',Same H H'→R (b i) H')→tt (σ0.set k (some (.int (lo+i)))) H R)
  (he:∀ i H Q,i < n→b i=true→Same H1 H→(∀ a H',Same H H'→H a=none→H' a=some (o i)→Q (.ref a) H')→te (σ0.set k (some (.int (lo+i)))) H Q)
  (hd:∀ l as H,H1 l=none→Same H1 H→H l=some (.lst (as.map V.ref))→NewAt H1 H l as (((List.range n).filter b).map o)→fin l H):
  CompR (Itr lo n) (gName k) tt te fin σ0 H1:=by
 refine oS (fun l i σ H=>(σ=σ0∨∃ cv,σ=σ0.set k cv)∧Same H1 H∧∃ as:List Addr,H l=some (.lst (as.map V.ref))∧NewAt H1 H l as (((List.range i).filter b).map o)) (fun l hl=>⟨.inl rfl,(Same.refl H1).laid hl,[],by rw [ah]; rfl,NewAt.nil⟩) ?_ (fun l σ H hl ⟨_,s1,as,el,x⟩=>hd l as H hl s1 el x)
 rintro l i σ H hl hi ⟨hσ,s1,as,el,x⟩
 rw [db]
 have e:σ.set k (some (.int (lo+i)))=σ0.set k (some (.int (lo+i))):=by
  rcases hσ with rfl | ⟨cv,rfl⟩
  · rfl
  · exact List.set_set ..
 rw [e]
 refine ht i H _ hi s1 fun H2 s2=>?_
 have el2:=s2 _ _ el
 have x2:=x.same s2
 have s12:=s1.trans s2
 cases hb:b i with
 | false=>
  rw [if_neg Bool.false_ne_true]
  refine ⟨.inr ⟨_,rfl⟩,s12,as,el2,?_⟩
  rw [List.range_succ,List.filter_append,List.filter_cons,hb]
  simpa using x2
 | true=>
  rw [if_pos rfl]
  refine he i H2 _ hi hb s12 fun p H3 s3 hp ep=>⟨_,s3 _ _ el2,?_,.inr ⟨_,rfl⟩,(s12.trans s3).own hl,as++[p],?_,?_⟩
  · rw [List.length_map,x2.len,List.length_map]; exact aI (Nat.le_trans (lz b hi hn) (by decide))
  · rw [ah]; simp
  · have y:=x2.more s12 s3 hp ep el2 (.lst (as.map V.ref++[V.ref p]))
    rw [List.range_succ,List.filter_append,List.filter_cons,hb]
    simpa using y
end
theorem u6:∀ {ds:List PyData},(∀ d∈ds,PyData.canLay0 d=true)→PyData.canLayAll0 ds=true
 | [],_=>rfl
 | d::r,h=>by rw [PyData.canLayAll0,h d List.mem_cons_self,u6 fun e he=>h e (List.mem_cons_of_mem _ he)]; rfl
theorem qS {n:Nat}:∀ {ds:List PyData},(∀ d∈ds,PyData.depth d≤n)→PyData.depthAll ds≤n
 | [],_=>Nat.zero_le _
 | d::r,h=>by rw [PyData.depthAll]; exact Nat.max_le.mpr ⟨h d List.mem_cons_self,qS fun e he=>h e (List.mem_cons_of_mem _ he)⟩
theorem qt {α:Type} [DecidableEq α] (g:α→PyData) (hg:∀ a b,PyData.eqv (g a) (g b)=decide (a=b)):∀ xs ys:List α,PyData.eqvAll (xs.map g) (ys.map g)=decide (xs=ys)
 | [],[]=>rfl
 | [],_::_=>rfl
 | _::_,[]=>rfl
 | x::xs,y::ys=>by
  rw [List.map_cons,List.map_cons,PyData.eqvAll,hg,qt g hg xs ys,Bool.eq_iff_iff]
  simp
structure IsLL (H:Hp) (l:Addr) (as:List Addr) (xss:List (List Int)):Prop where
 top:H l=some (.lst (as.map V.ref))
 len:as.length=xss.length
 at_:∀ (j:Nat) (a:Addr) (xs:List Int),as[j]? =some a→xss[j]? =some xs→H a=some (.lst (xs.map V.int))
theorem IsLL.same {H H':Hp} {l:Addr} {as:List Addr} {xss:List (List Int)} (x:IsLL H l as xss) (s:Same H H'):IsLL H' l as xss:=
 ⟨s _ _ x.top,x.len,fun j a xs h1 h2=>s _ _ (x.at_ j a xs h1 h2)⟩
def b9 (K:PySem.W.Frag):Sp:=fun vs H Q _=>∃ (a:Addr) (h w g c:Int),vs=[.ref a,.int c]∧IsFl H a h w g∧0 < w∧w < 100∧∀ p,H p=none→Q (.ref p) (upd H p (.tup [.int (c / w),.int (c % w)]))
theorem vG {K:PySem.W.Frag} {vs:List V} {H:Hp} {Q:VK} {E:XK} (h:b9 K vs H Q E):vs.length=2:=by
 obtain ⟨_,_,_,_,_,rfl,_⟩:=h; rfl
def jX (K:PySem.W.Frag):TS:=
 (tSeq (tAsg (tOp cIx (tVar 0) (tC (.int 1))) (gName 2))
  (tRet (tTup (tCons (tOp cDiv (tVar 1) (tVar 2)) (tCons (tOp cMod (tVar 1) (tVar 2)) tNil)))))
theorem vH {K:PySem.W.Frag} {vs:List V} {H:Hp} {Q:VK} {E:XK} (h:b9 K vs H Q E):jX K { nx:=fun _ H'=>Q .non H',rt:=Q } (start ["floor","cell","wide"] vs) H:=by
 obtain ⟨a,h,w,g,c,rfl,ha,w0,w1,k⟩:=h
 show jX K _ [some (.ref a),some (.int c),none] H
 unfold jX
 walk_at "w"
 rw [h9 ha]
 refine bt (a:=V.int w) rfl ?_
 walk_at "w"
 refine ⟨⟨w0,by omega⟩,w0,aE (by show (2:Nat)≤1000; decide),k⟩
theorem sA (h w c:Int):(besL h w c).length≤4:=by
 unfold besL
 simp only [List.length_append]
 split <;> split <;> split <;> split <;> simp
def bF (K:PySem.W.Frag):Sp:=fun vs H Q _=>∃ (a:Addr) (h w g c:Int),vs=[.ref a,.int c]∧IsFl H a h w g∧0 < w∧w < 100∧∀ l H',Same H H'→H l=none→H' l=some (.lst ((besL h w c).map V.int))→Q (.ref l) H'
theorem xq {K:PySem.W.Frag} {vs:List V} {H:Hp} {Q:VK} {E:XK} (h:bF K vs H Q E):vs.length=2:=by
 obtain ⟨_,_,_,_,_,rfl,_⟩:=h; rfl
def kE (K:PySem.W.Frag):TS:=
 (tSeq (tAsg (tOp cIx (tVar 0) (tC (.int 0))) (gName 2))
  (tSeq (tAsg (tOp cIx (tVar 0) (tC (.int 1))) (gName 3))
  (tSeq (tAsg (tCall (b9 K) [] E0 (tCons (tVar 0) (tCons (tVar 1) tNil))) (gName 4))
  (tSeq (tAsg (tLst tNil) (gName 5))
  (tSeq (tIfS (tTest (tOp (cCmp fun i j=>decide (j < i)) (tOp cIx (tVar 4) (tC (.int 0))) (tC (.int 0)))) (tDrop (tBM K "list" bi (tVar 5) (tCons (tOp cSub (tVar 1) (tVar 3)) tNil))) tNext)
  (tSeq (tIfS (tTest (tOp (cCmp fun i j=>decide (j < i)) (tOp cIx (tVar 4) (tC (.int 1))) (tC (.int 0)))) (tDrop (tBM K "list" bi (tVar 5) (tCons (tOp cSub (tVar 1) (tC (.int 1))) tNil))) tNext)
  (tSeq (tIfS (tTest (tOp (cCmp fun i j=>decide (i < j)) (tOp cIx (tVar 4) (tC (.int 1))) (tOp cSub (tVar 3) (tC (.int 1))))) (tDrop (tBM K "list" bi (tVar 5) (tCons (tOp cAdd (tVar 1) (tC (.int 1))) tNil))) tNext)
  (tSeq (tIfS (tTest (tOp (cCmp fun i j=>decide (i < j)) (tOp cIx (tVar 4) (tC (.int 0))) (tOp cSub (tVar 2) (tC (.int 1))))) (tDrop (tBM K "list" bi (tVar 5) (tCons (tOp cAdd (tVar 1) (tVar 3)) tNil))) tNext)
  (tRet (tVar 5))))))))))
theorem mf {K:PySem.W.Frag} {D:Ends} {σ:St} {H:Hp} {t:TT} {e:TE} {b:Bool} {v:Int} {l:Addr} {i:Nat} {ns:List Int} (hσ:σ[i]? =some (some (.ref l))) (ht:∀ R,R b H→t σ H R) (hl:H l=some (.lst (ns.map V.int))) (hn:ns.length≤900)
  (he:∀ Q,Q (.int v) H→e σ H Q) (k:∀ H',(H' l=some (.lst ((ns++if b=true then [v] else []).map V.int)))→(∀ c,c≠l→H' c=H c)→D.nx σ H'):
  tIfS t (tDrop (tBM K "list" bi (tVar i) (tCons e tNil))) tNext D σ H:=by
 rw [aL]
 refine ht _ ?_
 cases b with
 | false=>
  refine iteF ?_
  rw [gT]
  exact k H (by simpa using hl) fun _ _=>rfl
 | true=>
  refine iteT ?_
  rw [gU,kN,jn]
  refine ⟨_,hσ,bq hl,?_⟩
  rw [gW]
  refine he _ ?_
  rw [jo,dA hl]
  refine ⟨by rw [List.length_map]; exact aI (by omega),k _ ?_ fun c hc=>ar hc⟩
  rw [ah]
  simp
theorem xt {K:PySem.W.Frag} {vs:List V} {H:Hp} {Q:VK} {E:XK} (h:bF K vs H Q E):kE K { nx:=fun _ H'=>Q .non H',rt:=Q } (start ["floor","cell","high","wide","spot","found"] vs) H:=by
 obtain ⟨a,h,w,g,c,rfl,ha,w0,w1,k⟩:=h
 show kE K _ [some (.ref a),some (.int c),none,none,none,none] H
 unfold kE
 walk_at "w"
 rw [h9 ha]
 refine bt (a:=V.int h) rfl ?_
 walk_at "w"
 rw [h9 ha]
 refine bt (a:=V.int w) rfl ?_
 walk_at "w"
 refine ⟨a,h,w,g,c,rfl,ha,w0,w1,fun p hp=>?_⟩
 walk_at "w"
 refine ⟨aE (by decide),fun l hl=>?_⟩
 have npl:p≠l:=fun e=>by rw [e,ah] at hl; cases hl
 have hl0:H l=none:=by rw [ar npl.symm] at hl; exact hl
 have hpS:∀ H':Hp,(∀ d,d≠l→H' d=upd H p (.tup [.int (c / w),.int (c % w)]) d)→H' p=some (.tup [.int (c / w),.int (c % w)]):=fun H' e=>by rw [e p npl,ah]
 refine mf (ns:=[]) (l:=l) (i:=5) (b:=decide (0 < c / w)) (v:=c - w) rfl (fun R q=>?_) ah (by decide) (fun Q q=>?_) fun H1 e1 f1=>?_
 · walk_at "w"
   rw [h9 (hpS _ fun d hd=>ar hd)]
   refine bt rfl ?_
   walk_at "w"
   exact q
 · walk_at "w"
   exact q
 walk_at "w"
 refine mf (l:=l) (i:=5) (b:=decide (0 < c % w)) (v:=c - 1) rfl (fun R q=>?_) e1 (by simp; split <;> simp) (fun Q q=>?_) fun H2 e2 f2=>?_
 · walk_at "w"
   rw [h9 (hpS _ fun d hd=>by rw [f1 d hd,ar hd])]
   refine bt rfl ?_
   walk_at "w"
   exact q
 · walk_at "w"
   exact q
 walk_at "w"
 refine mf (l:=l) (i:=5) (b:=decide (c % w < w - 1)) (v:=c+1) rfl (fun R q=>?_) e2 (by simp; split <;> split <;> simp) (fun Q q=>?_) fun H3 e3 f3=>?_
 · walk_at "w"
   rw [h9 (hpS _ fun d hd=>by rw [f2 d hd,f1 d hd,ar hd])]
   refine bt rfl ?_
   walk_at "w"
   exact q
 · walk_at "w"
   exact q
 walk_at "w"
 refine mf (l:=l) (i:=5) (b:=decide (c / w < h - 1)) (v:=c+w) rfl (fun R q=>?_) e3 (by simp; split <;> split <;> split <;> simp) (fun Q q=>?_) fun H4 e4 f4=>?_
 · walk_at "w"
   rw [h9 (hpS _ fun d hd=>by rw [f3 d hd,f2 d hd,f1 d hd,ar hd])]
   refine bt rfl ?_
   walk_at "w"
   exact q
 · walk_at "w"
   exact q
 walk_at "w"
 refine k l H4 (fun b o e=>?_) hl0 ?_
 · have nb:b≠l:=aG e hl0
   have nbp:b≠p:=aG e hp
   rw [f4 b nb,f3 b nb,f2 b nb,f1 b nb,ar nb,ar nbp]
   exact e
 · rw [e4]
   unfold besL
   simp [decide_eq_true_eq]
structure FlOk (h w g:Int):Prop where
 h0:1≤h
 h1:h≤6
 w0:1≤w
 w1:w≤6
 m:h*w≤16
 g0:1≤g
 g1:g≤6
section
variable {K:PySem.W.Frag} {H:Hp} {Q:VK}
theorem xu {p:Addr} {xs:List V} (hp:H p=some (.lst xs)) (h:Q (.bl true) H):kIsi [.ref p,.ty "list"] H Q:=by
 refine ⟨by decide,bt (a:="list") (by unfold kj; dsimp only; rw [hp]) ?_⟩
 rw [show isTy "list" "list"=true by decide]
 exact h
theorem xv {p:Addr} {xs:List V} (hp:H p=some (.tup xs)) (h:Q (.bl true) H):kIsi [.ref p,.ty "tuple"] H Q:=by
 refine ⟨by decide,bt (a:="tuple") (by unfold kj; dsimp only; rw [hp]) ?_⟩
 rw [show isTy "tuple" "tuple"=true by decide]
 exact h
theorem sB {n:Nat} {t:TGs} {σ:St} {k:St→Hp→Prop} {p:Addr} {xs:List V} (hp:H p=some (.tup xs)) (hn:xs.length=n) (h:t xs σ H k):gTup K n t (.ref p) σ H k:=⟨p,xs,rfl,SqT.of hp,hn,h⟩
theorem nQ {i j:Nat} {x y:V} {σ:St} {k:St→Hp→Prop}:gCons (gName i) (gCons (gName j) gNil) [x,y] σ H k=k ((σ.set i (some x)).set j (some y)) H:=by
 refine propext ⟨?_,fun h=>⟨x,[y],rfl,y,[],rfl,rfl,h⟩⟩
 rintro ⟨v,r,e,v2,r2,e2,e3,h⟩
 cases e
 cases e2
 exact h
end
end L2
namespace L2
open PySem PySem.Builtin PySem.Builtin.Str
def tx (l:List Nat):Str:=⟨l.toArray⟩
theorem oW (l:List Nat):(tx l).cps.toList=l:=by simp [tx]
theorem AQ (x:Str):tx x.cps.toList=x:=by cases x; simp [tx]
theorem xw {a b:List Nat} (h:tx a=tx b):a=b:=by rw [← oW a,h,oW]
theorem gz (l:List Nat):(tx l).length=l.length:=by simp [tx,Str.length]
theorem oX (a b:List Nat):tx a++tx b=tx (a++b):=by
 refine Str.ext' ?_
 rw [Str.cps_append]
 simp [tx]
theorem e7 (a b:List Nat):decide (tx a=tx b)=decide (a=b):=by
 by_cases h:a=b
 · subst h; simp
 · have:¬ tx a=tx b:=fun e=>h (xw e)
   rw [decide_eq_false h,decide_eq_false this]
def catL (c:Nat):List (List Nat)→List Nat
 | []=>[]
 | [x]=>x
 | x::y::r=>x++c::catL c (y::r)
theorem qu (c:Nat):∀ ts:List (List Nat),Str.join (tx [c]) (ts.map tx)=tx (catL c ts)
 | []=>rfl
 | [x]=>rfl
 | x::y::r=>by
  show tx x++tx [c]++Str.join (tx [c]) ((y::r).map tx)=_
  rw [qu c (y::r),oX,oX]
  show tx _=tx (x++c::catL c (y::r))
  rw [List.append_assoc]; rfl
theorem yw (sep:Str) (ts:List Str):Txt.join sep ts=Str.join sep ts:=StrLaws.glued_eq_join sep ts
theorem u8 {c:Nat}:∀ {a b x y:List Nat},c∉a→c∉b→a++c::x=b++c::y→a=b∧x=y
 | [],[],_,_,_,_,h=>⟨rfl,by simpa using h⟩
 | [],b::bs,_,_,_,hb,h=>by
  simp at h
  exact absurd (List.mem_cons.mpr (.inl h.1)) hb
 | a::as,[],_,_,ha,_,h=>by
  simp at h
  exact absurd (List.mem_cons.mpr (.inl h.1.symm)) ha
 | a::as,b::bs,x,y,ha,hb,h=>by
  simp at h
  have:=u8 (fun z=>ha (List.mem_cons_of_mem _ z)) (fun z=>hb (List.mem_cons_of_mem _ z)) h.2
  exact ⟨by rw [h.1,this.1],this.2⟩
theorem sC {c:Nat}:∀ {x:List Nat} {r:List (List Nat)} {y:List Nat},c∈catL c (x::y::r):=by
 intro x r y
 show c∈x++c::_
 simp
theorem sD {c:Nat}:∀ {xs ys:List (List Nat)},xs≠[]→ys≠[]→(∀ x∈xs,c∉x)→(∀ y∈ys,c∉y)→catL c xs=catL c ys→xs=ys
 | [],_,h,_,_,_,_=>absurd rfl h
 | _,[],_,h,_,_,_=>absurd rfl h
 | [x],[y],_,_,_,_,h=>by
  have h':x=y:=h
  rw [h']
 | [x],y::z::r,_,_,hx,_,h=>by
  have h':x=catL c (y::z::r):=h
  exact absurd (h' ▸ sC) (hx x List.mem_cons_self)
 | x::z::r,[y],_,_,_,hy,h=>by
  have h':catL c (x::z::r)=y:=h
  exact absurd (h' ▸ sC) (hy y List.mem_cons_self)
 | x::z::r,y::u::s,_,_,hx,hy,h=>by
  obtain ⟨e1,e2⟩:=u8 (hx x List.mem_cons_self) (hy y List.mem_cons_self) (show x++c::catL c (z::r)=y++c::catL c (u::s) from h)
  rw [e1,sD (by simp) (by simp) (fun w hw=>hx w (List.mem_cons_of_mem _ hw)) (fun w hw=>hy w (List.mem_cons_of_mem _ hw)) e2]
theorem yx (x y:Str):Txt.split x y≠[]:=by
 intro h
 unfold Txt.split at h
 split at h
 · cases h
 · split at h
   · cases h
   · rw [StrLaws.partsBetween_eq] at h
     obtain ⟨p,r,e⟩:=StrLaws.partsFrom_ne x y.length 0 (occurrences x y 0 x.length (x.length+1))
     rw [e] at h; cases h
theorem yy {c:Nat} {rows:List (List Nat)} (hne:rows≠[]) (hf:∀ r∈rows,c∉r):Txt.split (tx (catL c rows)) (tx [c])=rows.map tx:=by
 have h1:=StrLaws.join_split (tx (catL c rows)) (tx [c])
 have h2:∀ p∈Txt.split (tx (catL c rows)) (tx [c]),c∉p.cps.toList:=StrLaws.split_free _ c
 have h3:=yx (tx (catL c rows)) (tx [c])
 generalize Txt.split (tx (catL c rows)) (tx [c])=S at*
 have e:S=(S.map (·.cps.toList)).map tx:=by
  rw [List.map_map]
  conv=>lhs; rw [← List.map_id S]
  exact List.map_congr_left fun x _=>(AQ x).symm
 rw [e,qu] at h1
 have h4:=xw h1
 have h5:=sD (c:=c) (xs:=S.map (·.cps.toList)) (ys:=rows) (by simpa using h3) hne (fun x hx=>by obtain ⟨p,hp,rfl⟩:=List.mem_map.mp hx; exact h2 p hp) hf h4
 rw [e,h5]
end L2
namespace L2
end L2
namespace L2
open PySem PySem.Spec PyProof.Rows
local macro_rules | `(tactic| walk_at "w")=>`(tactic| (first | simp only [aV,gT,g7,db,jn,w_c,lq,ip,iq,gU,iu,w_b,w_not,jD,lr,iw,iy,jE,jo,gW,lu,iz,jF,jG,kN,jH,iA,iB,iC,iD,gP,gQ,e6,fj,fk,dS,jI,jJ,jK,jL,jM,jN,jO,jP,jQ,jR,jS,jT,lx,iE,fm,iF,ly,iG,gR,fq,jU,jV,iH,gX,iI,
 List.getElem?_cons_zero,List.getElem?_cons_succ,Option.some.injEq,exists_eq_left',exists_eq_left,List.set_cons_zero,List.set_cons_succ,d6,V.int.injEq,V.bl.injEq,V.ref.injEq,V.str.injEq,List.append_nil,List.nil_append,List.cons_append] | dsimp only | skip))
section
variable {k:Nat} {tt:TT} {te:TE} {fin:Addr→Hp→Prop} {σ0:St} {H1:Hp}
theorem xx {cs:List Nat} (b:Nat→Bool) (f:Nat→V) (hn:cs.length≤900)
  (ht:∀ i c H R,cs[i]? =some c→Same H1 H→(∀ H',Same H H'→R (b i) H')→tt (σ0.set k (some (.str (tx [c])))) H R)
  (he:∀ i c H Q,cs[i]? =some c→b i=true→Same H1 H→(∀ H',Same H H'→Q (f i) H')→te (σ0.set k (some (.str (tx [c])))) H Q)
  (hd:∀ l H,H1 l=none→Same H1 H→H l=some (.lst (((List.range cs.length).filter b).map f))→fin l H):
  CompR (Its (tx cs)) (gName k) tt te fin σ0 H1:=by
 intro l hl
 have hsz:(tx cs).cps.size=cs.length:=by simp [tx]
 refine ⟨fun i m σ H=>m=cs.length - i∧i≤cs.length∧(σ=σ0∨∃ cv,σ=σ0.set k cv)∧Same H1 H∧H l=some (.lst (((List.range i).filter b).map f)),⟨cs.length,by simp,Nat.zero_le _,.inl rfl,(Same.refl H1).laid hl,by rw [ah]; rfl⟩,?_⟩
 rintro i m σ H ⟨rfl,hi,hσ,s1,el⟩
 by_cases hlt:i < cs.length
 · refine .inr ⟨by show i < (tx cs).cps.size; rw [hsz]; exact hlt,fun σ H=>(σ=σ0∨∃ cv,σ=σ0.set k cv)∧Same H1 H∧H l=some (.lst (((List.range (i+1)).filter b).map f)),fun σ' H' p'=>⟨cs.length - (i+1),by omega,rfl,hlt,p'⟩,?_⟩
   rintro x H' ⟨rfl,c,hc,rfl⟩
   have hc':cs[i]? =some c:=by simpa [tx] using hc
   show gName k (.str (tx [c])) σ H' _
   rw [db]
   have e:σ.set k (some (.str (tx [c])))=σ0.set k (some (.str (tx [c]))):=by
    rcases hσ with rfl | ⟨cv,rfl⟩
    · rfl
    · exact List.set_set ..
   rw [e]
   refine ht i c H' _ hc' s1 fun H2 s2=>?_
   have el2:=s2 _ _ el
   cases hb:b i with
   | false=>
    rw [if_neg Bool.false_ne_true]
    refine ⟨.inr ⟨_,rfl⟩,s1.trans s2,?_⟩
    rw [List.range_succ,List.filter_append,List.filter_cons,hb]
    simpa using el2
   | true=>
    rw [if_pos rfl]
    refine he i c H2 _ hc' hb (s1.trans s2) fun H3 s3=>⟨_,s3 _ _ el2,by rw [List.length_map]; exact aI (Nat.le_trans (lz b hlt hn) (by decide)),.inr ⟨_,rfl⟩,((s1.trans s2).trans s3).own hl,?_⟩
    rw [ah,List.range_succ,List.filter_append,List.filter_cons,hb]
    simp
 · have e:i=cs.length:=by omega
   subst e
   exact .inl ⟨by show (tx cs).cps.size≤_; rw [hsz]; exact Nat.le_refl _,hd l H hl s1 el⟩
end
theorem rd {α:Type} (xs:List Int) (g:Int→α):(List.range xs.length).map (fun i=>g (xs.getD i 0))=xs.map g:=by
 have e:xs=(List.range xs.length).map fun i=>xs.getD i 0:=by
  refine List.ext_getElem? fun i=>?_
  rw [List.getElem?_map]
  by_cases h:i < xs.length
  · rw [List.getElem?_range h,List.getElem?_eq_getElem h]
    simp [List.getD,h]
  · rw [List.getElem?_eq_none (by omega),List.getElem?_eq_none (by simpa using h)]; rfl
 conv=>rhs; rw [e]
 rw [List.map_map]
 rfl
theorem sE {sep:Str} {ts:List Str} (h1:ts.length≤1000) (h2:∀ t∈ts,t.length≤1000) (h3:sep.length≤10):JoinOk sep ts=true:=by
 unfold JoinOk
 rw [Bool.not_eq_true']
 refine StrLaws.joinFits (B:=1000) h2 ?_
 have a1:ts.length*1000≤1000*1000:=Nat.mul_le_mul_right _ h1
 have a2:ts.length*sep.length≤1000*10:=Nat.mul_le_mul h1 h3
 omega
end L2
namespace L2
open PySem PySem.Spec PyProof.Rows
abbrev rIsN:R2:=fun x y H Q=>y=.non∧Q (.bl (decide (x=.non))) H
abbrev rNotN:R2:=fun x y H Q=>y=.non∧Q (.bl (!decide (x=.non))) H
def kStr:List V→Hp→VK→Prop
 | [.int i],H,Q=>i.natAbs.log2 < 1920∧Q (.str (Str.ofString (toString i))) H
 | _,_,_=>False
section
variable {X:Cx}
theorem kF:CallR X (.type "str") kStr:=by
 intro pins s σ H xs us Q I r h
 unfold kStr at h
 split at h
 · obtain ⟨hi,q⟩:=h
   cases r with
   | cons r0 rr=>
    cases rr
    obtain ⟨t,rfl⟩:=r0
    exact PySem.P.str_of_int hi ⟨.str _,H,I.tok _,⟨_,rfl⟩,q⟩
 · exact h.elim
end
section
variable {K:PySem.W.Frag} {H:Hp} {Q:VK}
theorem oY {x:V}:rIsN x .non H Q=Q (.bl (decide (x=.non))) H:=by simp [rIsN]
theorem mh {x:V}:rNotN x .non H Q=Q (.bl (!decide (x=.non))) H:=by simp [rNotN]
theorem mX {i:Int}:kStr [.int i] H Q=(i.natAbs.log2 < 1920∧Q (.str (Str.ofString (toString i))) H):=rfl
end
end L2
namespace L2
open PySem PySem.Spec PyProof.Rows
structure Bt2 (mg:Str→Option Value):Prop extends Bt mg where
 all_:mg "all"=none
 sum_:mg "sum"=none
 enumerate_:mg "enumerate"=none
section
variable {K:PySem.W.Frag} {H:Hp} {Q:VK} {D:Ends} {σ:St} {g:TG} {tb:TS} {ta:TA} {ix:List (Option Nat)} {tt:TT} {te tf:TE} {k:Nat}
theorem mY:tIf tt te tf σ H Q=tt σ H fun c H1=>if c=true then te σ H1 Q else tf σ H1 Q:=rfl
theorem jc:tComp ix (oK ta) g tt te σ H Q=ta σ H fun vs H1=>∃ i j:Int,vs=[.int i,.int j]∧(-(2^62)≤i∧i < 2^62∧ -(2^62)≤j∧j < 2^62)∧CompR (Itr i (j - i).toNat) g tt te (fun l H'=>Q (.ref l) H') (subσ ix σ) H1:=rfl
theorem ij:sComp k ix (oK ta) g tt te D σ H=ta σ H fun vs H1=>∃ i j:Int,vs=[.int i,.int j]∧(-(2^62)≤i∧i < 2^62∧ -(2^62)≤j∧j < 2^62)∧CompR (Itr i (j - i).toNat) g tt te (fun l H'=>D.nx (σ.set k (some (.ref l))) H') (subσ ix σ) H1:=rfl
theorem isiE {x:V} {n t:String} {b:Bool} (hx:kj H x=some t) (hn:mT n=true) (hb:isTy t n=b):kIsi [x,.ty n] H Q=Q (.bl b) H:=by
 subst hb
 show (mT n=true∧bnd (kj H x) fun t=>Q (.bl (isTy t n)) H)=_
 rw [hx]
 simp only [hn,true_and,d6]
theorem jd {i:Int}:kIsi [.int i,.ty "int"] H Q=Q (.bl true) H:=isiE (t:="int") rfl (by decide) (by decide)
theorem je {i:Int}:kIsi [.int i,.ty "bool"] H Q=Q (.bl false) H:=isiE (t:="int") rfl (by decide) (by decide)
theorem jf {i:Int}:kIsi [.int i,.ty "str"] H Q=Q (.bl false) H:=isiE (t:="int") rfl (by decide) (by decide)
theorem jg {i:Bool}:kIsi [.bl i,.ty "bool"] H Q=Q (.bl true) H:=isiE (t:="bool") rfl (by decide) (by decide)
theorem jh {i:Bool}:kIsi [.bl i,.ty "int"] H Q=Q (.bl true) H:=isiE (t:="bool") rfl (by decide) (by decide)
theorem ji {i:Str}:kIsi [.str i,.ty "str"] H Q=Q (.bl true) H:=isiE (t:="str") rfl (by decide) (by decide)
theorem jj {i:Bool}:kIsi [.bl i,.ty "str"] H Q=Q (.bl false) H:=isiE (t:="bool") rfl (by decide) (by decide)
theorem kY {A B:Prop}:(if true=true then A else B)=A:=if_pos rfl
theorem kZ {A B:Prop}:(if false=true then A else B)=B:=if_neg Bool.false_ne_true
theorem la {i:Int}:rU (fun i=>.int (-i)) (.int i) H Q=Q (.int (-i)) H:=by
 refine propext ⟨?_,fun h=>⟨i,rfl,h⟩⟩
 rintro ⟨j,e,h⟩
 cases e
 exact h
theorem ixT {p:Addr} {i:Int} {xs:List V} {v:V} (h:H p=some (.tup xs)) (e:atI xs i=some v) (q:Q v H):cIx (.ref p) (.int i) H Q:=by
 rw [h9 h]; exact bt e q
theorem ixL {p:Addr} {i:Int} {xs:List V} {v:V} (h:H p=some (.lst xs)) (e:atI xs i=some v) (q:Q v H):cIx (.ref p) (.int i) H Q:=by
 rw [yV h]; exact bt e q
theorem ixI {p:Addr} {i:Int} {ns:List Int} (h:H p=some (.lst (ns.map V.int))) (h0:0≤i) (h1:i < ns.length) (q:Q (.int (ns.getD i.toNat 0)) H):cIx (.ref p) (.int i) H Q:=ixL h (nO h0 h1) q
end
end L2
namespace L2
open PySem PySem.Spec PyProof.Rows
end L2
namespace L2
open PySem PySem.Spec PyProof.Rows
end L2
namespace L2
open PySem PySem.Spec PyProof.Rows
end L2
namespace L2
open PySem PySem.Spec PyProof.Rows
end L2
namespace L2
open PySem PySem.Spec PyProof.Rows
end L2
namespace L2
open PySem PySem.Spec PyProof.Rows
def cMulB:R2
 | .int i,.int j,H,Q=>IntMulOk i j∧Q (.int (i*j)) H
 | _,_,_,_=>False
end L2
namespace Att
open PySem PySem.W PySem.Calls PyProof.Rows
end Att
namespace L2
open PySem PySem.Spec PyProof.Rows
section
variable {K:PySem.W.Frag} {H:Hp} {Q:VK} {D:Ends} {σ:St}
theorem A1 {i j:Int}:cMulB (.int i) (.int j) H Q=(IntMulOk i j∧Q (.int (i*j)) H):=rfl
theorem oZ {i j:Int}:cPow (.int i) (.int j) H Q=(CPow i j∧Q (.int (i^j.toNat)) H):=rfl
theorem o0 {p q:Addr} {xs ys:List V} (hp:H p=some (.lst xs)) (hq:H q=some (.lst ys)) (hn:xs.length+ys.length≤1000) (h:∀ r,H r=none→Q (.ref r) (upd H r (.lst (xs++ys)))):cAdd (.ref p) (.ref q) H Q:=by
 show bnd (unM (H p)) _
 rw [hp]
 refine bt (a:=xs) rfl ?_
 rw [hq]
 exact bt (a:=ys) rfl ⟨Nat.le_of_lt (aI hn),h⟩
end
end L2
namespace L2
open PySem PySem.Spec PyProof.Rows
inductive RK where
 | Rule | Unlike | Sum | Rising | Seen | Count | Joined | NoSquare | Ring
 deriving DecidableEq
structure RCl (ι:Type) where
 A:ι→Addr
 ok:ι→Bool
section
variable {ι:Type}
def tFldK (c:RCl ι) (ta:TE) (f:Str):TE:=fun σ H Q=>ta σ H fun x H1=>∃ a k dx fs v,x=.ref a∧c.ok k=true∧H1 a=some (.ins (c.A k) dx fs)∧fs.lookup f=some v∧Q v H1
def sFldK (c:RCl ι) (ta tv:TE) (f:Str):TS:=fun D σ H=>tv σ H fun y H1=>ta σ H1 fun x H2=>∃ a k dx fs,x=.ref a∧c.ok k=true∧H2 a=some (.ins (c.A k) dx fs)∧fs.length < 1000∧
 D.nx σ (upd H2 a (.ins (c.A k) dx (putF f y fs)))
def cR (c:RCl ι) (okm:ι→Bool) (m:Str) (sp:ι→Sp) (ta:TE) (t:TA):TE:=fun σ H Q=>ta σ H fun x H1=>∃ a k dx fs,x=.ref a∧okm k=true∧H1 a=some (.ins (c.A k) dx fs)∧fs.lookup m=none∧
 t σ H1 fun vs H2=>sp k (x::vs) H2 Q E0
structure FldK (K:PySem.W.Frag) (c:RCl ι) (f:Str):Prop where
 ex:∀ k,c.ok k=true→Cls K (c.A k)∧NoAttr K (c.A k) f
structure MCal (P:Program) (w:World) (K:PySem.W.Frag) (mg:Str→Option Value) (base:Heap) (c:RCl ι) (okm:ι→Bool) (k:Nat) (m:Str) (ps:List Str) (sp:ι→Sp):Prop where
 ex:∀ i,okm i=true→∃ (f:Addr) (fd:FuncData),Cls K (c.A i)∧Meth K (c.A i) m f∧FnOk P w K mg base CX0 k f fd ps (sp i)∧Binds K fd ps []
structure KCal (P:Program) (w:World) (K:PySem.W.Frag) (mg:Str→Option Value) (base:Heap) (k:Nat) (x:Str) (C:Addr) (ps:List Str) (sp:Sp):Prop where
 ex:∃ (f:Addr) (fd:FuncData),Mk K C f∧FnOk P w K mg base CX0 k f fd ps sp∧mg x=some (.ref C)∧Binds K fd ps []
end
section
variable {ι:Type} {X:Cx} {c:RCl ι} {o e value:Expr} {es:List Expr} {f x m:Str} {p pos pos' apos:Pos} {ta tv:TE} {t:TA} {okm:ι→Bool} {k n:Nat} {ps:List Str} {sp:ι→Sp} {sp1:Sp} {C:Addr}
theorem ik (he:PE X e ta) (F:FldK X.K c f) (hb:attributeBase e f X.env (eval e X.env)=eval e X.env:=by rfl):PE X (.Attribute e f pos) (tFldK c ta f):=by
 intro pins s σ H Q I h
 refine za hb (thn (he pins s σ H _ I h) fun u s1 ⟨x,H1,I1,rx,a,k,dx,fs,v,ex,hk,ea,l,q⟩=>?_)
 subst ex
 obtain rfl:u=Value.ref a:=rx
 obtain ⟨cl,na⟩:=F.ex k hk
 exact vw I1 ea cl na l fun u' s2 I2 ru=>⟨v,H1,I2,ru,q⟩
theorem il (ha:PE X o ta) (hv:PE X value tv) (F:FldK X.K c f) (hs:swapsWith value (some (.Attribute o f pos')) pos.line X.env=pure false:=by rfl):PS X (.Assign [.Attribute o f pos'] value pos) (sFldK c ta tv f):=by
 intro pins s σ H D I h
 refine plainObj_wpAny_Assign_Attribute (thn (hv pins s σ H _ I h) fun u s1 ⟨y,H1,I1,ry,q⟩=>thn (ha pins s1 σ H1 _ I1 q) fun ov s2 ⟨x,H2,I2,rx,a,k,dx,fs,ex,hk,ea,l,q2⟩=>?_) hs
 subst ex
 obtain rfl:ov=Value.ref a:=rx
 obtain ⟨cl,na⟩:=F.ex k hk
 exact vy I2 ea cl na l ry fun s3 I3=>⟨σ,_,I3,q2⟩
theorem bN {pl:Sem Bool} (M:MCal X.prog X.w X.K X.mg X.base c okm k m ps sp) (hr:Room n X.A) (hk:k≤n) (he:PE X o ta)
  (ht:eval (.Call (.Attribute o m apos) [] [] pos) X.env=(do
   let ov ← eval o X.env
   standAt apos.atName
   let (f,first) ← holding [ov] (getMethod ov m pl)
   callWith pos f first (backTo pos (starEach [] X.env)) (backToKw pos (keywordEach [] X.env))):=by rfl):
  PE X (.Call (.Attribute o m apos) [] [] pos) (cR c okm m sp ta tNil):=by
 intro pins s σ H Q I h
 refine PySem.W.methodCall_KW (pl:=pl) (thn (he pins s σ H _ I h) fun u s1 ⟨x,H1,I1,rx,a,i,dx,fs,ex,hi,ea,l,q⟩=>?_) ht
 subst ex
 obtain rfl:u=Value.ref a:=rx
 obtain ⟨f,fd,cl,hm,F,hb⟩:=M.ex i hi
 refine vx I1 ea cl hm l ?_
 exact PySem.W.callWith_K0 (first:=[.ref a]) I1.kIn hm.kp (wT (us:=[.ref a]) (vs:=[.ref a]) F (hr.mono hk) hb .nil vC I1 (.cons rfl .nil) q)
theorem jY (M:KCal X.prog X.w X.K X.mg X.base k x C ps sp1) (hr:Room n X.A) (hk:k+1≤n) (hg:Gl X x) (ha:PA X (e::es) t)
  (hdb:(x==("__debug__":Str))=false:=by decide) (he:starEach (e::es) X.env=(false,eval e X.env)::starEach es X.env:=by rfl) (hpl:(backTo pos (starEach es X.env)).any (·.1)=false:=by rfl):
  PE X (.Call (.Name x p) (e::es) [] pos) (tMake C sp1 [] E0 t):=by
 obtain ⟨f,fd,mk,F,hm,hb⟩:=M.ex
 exact zc mk F (hr.mono hk) hg hm hb .nil vC ha hdb he hpl
end
def km (K:PySem.W.Frag):List V→Hp→VK→Prop
 | [.ref p],H,Q=>bnd (unM (H p)) fun ys=>∀ l,H l=none→Q (.ref l) (upd H l (.tup ys))
 | _,_,_=>False
def tInG (ws:List Str) (neg:Bool) (te:TE):TE:=fun σ H Q=>te σ H fun x H1=>∃ z,x=.str z∧Q (.bl (if neg then !decide (z∈ws) else decide (z∈ws))) H1
structure GTup (K:PySem.W.Frag) (mg:Str→Option Value) (x:Str) (ws:List Str):Prop where
 ex:∃ (p:Addr) (o:Obj) (its:Array Value) (n:Nat),mg x=some (.ref p)∧K.lookup p=some o∧o.cls=.type "tuple"∧o.data=.seq its n∧its.size≤sizeLine∧Vals (ws.map V.str) its.toList
theorem kG:∀ ns:List Str,(ns.map V.str).all flatV=true
 | []=>rfl
 | n::r=>by rw [List.map_cons,List.all_cons,kG r]; rfl
theorem lA (i:Str):∀ ns:List Str,inV (.str i) (ns.map V.str)=decide (i∈ns)
 | []=>by simp [inV]
 | n::r=>by
  have ih:=lA i r
  unfold inV at ih ⊢
  rw [List.map_cons,List.any_cons,ih]
  show ((n==i)||decide (i∈r))=decide (i∈n::r)
  rw [Bool.eq_iff_iff,Bool.or_eq_true,beq_iff_eq,decide_eq_true_eq,decide_eq_true_eq,List.mem_cons]
  exact ⟨fun h=>h.elim (fun e=>.inl e.symm) .inr,fun h=>h.elim (fun e=>.inl e.symm) .inr⟩
section
variable {X:Cx} {a:Expr} {ta:TE} {pos p:Pos} {x:Str} {ws:List Str}
theorem nD:CallR X (.type "tuple") (km X.K):=by
 intro pins s σ H xs us Q I r h
 unfold km at h
 split at h
 · obtain ⟨ys,e,q⟩:=bE h
   exact rb pins s σ H _ us Q I r ⟨_,ys,rfl,.inl ⟨SqL.of (kh e),q⟩⟩
 · exact h.elim
theorem Af {ws:List Str} {q:Addr} (hq:∃ (o:Obj) (its:Array Value) (n:Nat),X.K.lookup q=some o∧o.cls=.type "tuple"∧o.data=.seq its n∧its.size≤sizeLine∧Vals (ws.map V.str) its.toList):
  OpR X (compareOp .In) (fun x y H Q=>∃ z,x=.str z∧y=.ref q∧Q (.bl (decide (z∈ws))) H):=by
 intro pins s σ H x y v u Q I rx ry h
 obtain ⟨z,rfl,rfl,h⟩:=h
 refine lW pins s σ H _ _ v u Q I rx ry ⟨q,ws.map V.str,rfl,.inr (.inr hq),rfl,kG ws,?_⟩
 rw [lA]
 exact h
theorem zk {ws:List Str} {q:Addr} (hq:∃ (o:Obj) (its:Array Value) (n:Nat),X.K.lookup q=some o∧o.cls=.type "tuple"∧o.data=.seq its n∧its.size≤sizeLine∧Vals (ws.map V.str) its.toList):
  OpR X (compareOp .NotIn) (fun x y H Q=>∃ z,x=.str z∧y=.ref q∧Q (.bl (!decide (z∈ws))) H):=by
 intro pins s σ H x y v u Q I rx ry h
 obtain ⟨z,rfl,rfl,h⟩:=h
 refine lX pins s σ H _ _ v u Q I rx ry ⟨q,ws.map V.str,rfl,.inr (.inr hq),rfl,kG ws,?_⟩
 rw [lA]
 exact h
end
section
variable {ι:Type} {c:RCl ι} {ta tv:TE} {t:TA} {f m:Str} {σ:St} {H:Hp} {Q:VK} {D:Ends} {okm:ι→Bool} {sp:ι→Sp} {sp1:Sp} {C:Addr} {K:PySem.W.Frag}
theorem mj:tMake C sp1 [] E0 t σ H Q=t σ H fun vs H1=>∀ x dx,H1 x=none→H1 dx=none→dx≠x→sp1 (.ref x::(vs++[])) (upd (upd H1 dx (.own x)) x (.ins C dx [])) (fun v H2=>v=.non∧Q (.ref x) H2) E0:=rfl
theorem o1 {ws:List Str} {neg:Bool} {te:TE}:tInG ws neg te σ H Q=te σ H fun x H1=>∃ z,x=.str z∧Q (.bl (if neg then !decide (z∈ws) else decide (z∈ws))) H1:=rfl
theorem zm {p:Addr} {xs:List V} (hp:H p=some (.lst xs)) (h:∀ l,H l=none→Q (.ref l) (upd H l (.tup xs))):km K [.ref p] H Q:=by
 unfold km
 dsimp only
 rw [hp]
 exact h
end
end L2
namespace L2
open PySem PySem.Spec PyProof.Rows
def cntD (ns:List Int):Nat:=(firstMet (fun i=>ns.getD i 0) ns.length).length
def qv (te:TE):TE:=fun σ H Q=>te σ H fun x H1=>∃ p ns,x=.ref p∧H1 p=some (.lst (ns.map V.int))∧ns.length≤900∧Q (.int (cntD ns:Nat)) H1
theorem kn {te:TE} {σ:St} {H:Hp} {Q:VK}:qv te σ H Q=te σ H fun x H1=>∃ p ns,x=.ref p∧H1 p=some (.lst (ns.map V.int))∧ns.length≤900∧Q (.int (cntD ns:Nat)) H1:=rfl
theorem zn:bootBuiltins "set"=some (.type "set"):=by decide+kernel
theorem xy {X:Cx} {e:Expr} {te:TE} {p p2 pos pos2:Pos} (hc:X.calm=true) (hgl:Gl X "len") (hgs:Gl X "set") (hl:X.mg "len"=none) (hs:X.mg "set"=none) (he:PE X e te)
  (hs1:starEach [.Call (.Name "set" p2) [e] [] pos2] X.env=[(false,eval (.Call (.Name "set" p2) [e] [] pos2) X.env)]:=by rfl) (hs2:starEach [e] X.env=[(false,eval e X.env)]:=by rfl):
  PE X (.Call (.Name "len" p) [.Call (.Name "set" p2) [e] [] pos2] [] pos) (qv te):=by
 intro pins s σ H Q I h
 refine wpAny_Call_Name_kw (im I hgl hl aR ?_ (by decide) (by decide))
 refine PyProof.Rows.callWith_builtin1 ?_ hs1 rfl
 rw [hs1]
 show wpAny _ _ (spliced [(false,eval (.Call (.Name "set" p2) [e] [] pos2) X.env)]) _ _ s
 refine Calls.spliced_cons ?_
 refine wpAny_Call_Name_kw (im I hgs hs zn ?_ (by decide) (by decide))
 refine PyProof.Rows.callWith_type1 ?_ hs2 rfl
 rw [hs2]
 show wpAny _ _ (spliced [(false,eval e X.env)]) _ _ s
 refine Calls.spliced_cons (thn (he pins s σ H _ I h) fun u s1 ⟨x,H1,I1,r1,q1⟩=>?_)
 refine Calls.spliced_nil ?_
 obtain ⟨l,ns,rfl,hys,hn,q⟩:=q1
 cases r1
 obtain ⟨its,n,rv,ho,hz⟩:=I1.lst hys
 have hL:s1.heap.IsList l its.toArray:=⟨_,ho,rfl,n,rfl⟩
 have hI:IntsAre its ns:=oN rv
 have hlen:=rv.length
 rw [List.length_map] at hlen
 refine call_set_list (ns:=ns) (I.ok.hd hc) hL (by simpa using hI) (by rw [List.size_toArray,← hlen]; exact Nat.lt_of_le_of_lt (Nat.succ_le_succ hn) (by decide)) fun h' tk hS old=>?_
 refine Calls.spliced_nil ?_
 obtain ⟨o,es,ep,t,h1,h2,h3,h4,h5,h6,h7,h8⟩:=hS
 have hb:(firstMet (fun i=>ns.getD i 0) its.toArray.size).length≤900:=Nat.le_trans (firstMet_length_le _ _) (by rw [List.size_toArray,← hlen]; exact hn)
 refine call_len_set h1 h2 h3 h7 (by omega) ?_
 have I2:Inv X pins σ H1 { s1 with heap:=h',toks:=tk }:=I1.kept fun b o' e=>old b o' (Heap.lt_size e) e
 refine ⟨.int _,H1,I2.tok _,⟨_,rfl⟩,?_⟩
 rw [h8,List.size_toArray,← hlen]
 exact q
def mn:V→List V→Hp→VK→Prop
 | .str sep,[.ref p],H,Q=>bnd (unS (H p)) fun ys=>∃ ts:List Str,ys=ts.map V.str∧JoinOk sep ts=true∧Q (.str (Txt.join sep ts)) H
 | _,_,_,_=>False
theorem xz {X:Cx}:MtR X "str.join" mn:=by
 intro pins s σ H x vs v us Q I rx rv h
 unfold mn at h
 split at h
 · rename_i sep p
   obtain ⟨ys,e,ts,rfl,hok,q⟩:=bE h
   rcases kR (K:=X.K) e with hq | hq
   · obtain ⟨t,rfl⟩:=rx
     obtain ⟨u,rfl,ru⟩:=fX rv
     cases ru
     obtain ⟨its,rvv,pl,hz⟩:=I.list hq
     obtain ⟨l,rfl,hl⟩:=qr rvv
     exact SC.join pl.isList hl hok fun t' k=>⟨.str _,H,I.tok k,⟨t',rfl⟩,q⟩
   · obtain ⟨t,rfl⟩:=rx
     obtain ⟨u,rfl,ru⟩:=fX rv
     cases ru
     obtain ⟨its,rvv,pl,hz⟩:=I.tuple hq
     obtain ⟨l,rfl,hl⟩:=qr rvv
     subst hl
     obtain ⟨o,h1,h2,n,h3⟩:=pl
     have hok':=hok
     unfold JoinOk at hok'
     rw [Bool.not_eq_true'] at hok'
     exact call_meets F.slot_str_join (typeIs_str _ _ _) F.entry_str_join (F.args_str_join_2 _ _) (meets_str_join_tuple sep t p l hok') ⟨⟨o,n,h1,h2,h3⟩,post_join l ⟨joinFit_length hok',fun t' k=>⟨.str _,H,I.tok k,⟨t',rfl⟩,q⟩⟩⟩
 · exact h.elim
end L2
namespace L2
open PySem PySem.Spec PyProof.Rows
section
variable {X:Cx} {e:Expr} {te:TE} {p2 p3 p4 pos:Pos} {z0:Nat}
def o3:V→List V→Hp→VK→Prop
 | .ref l,[.int i],H,Q=>bnd (unM (H l)) fun xs=>0≤i∧i < xs.length∧bnd (xs[i.toNat]?) fun y=>Q y (upd H l (.lst (xs.eraseIdx i.toNat)))
 | _,_,_,_=>False
theorem seqIx {i:Int} {n:Nat} (h0:0≤i) (h1:i < n):seqIndex? i n=some i.toNat:=by
 obtain ⟨k,rfl⟩:=Int.eq_ofNat_of_zero_le h0
 have hk:k < n:=by omega
 unfold seqIndex?
 have hn:¬ ((k:Int) < 0):=by omega
 simp [hk,hn]
theorem xA:MtR X "list.pop" o3:=by
 intro pins s σ H x vs v us Q I rx rv h
 unfold o3 at h
 split at h
 · obtain ⟨xs,e,h0,h1,h⟩:=bE h
   obtain ⟨y,ey,q⟩:=bE h
   have hz:xs.length≤sizeLine:=(I.lstM (kh e)).1
   have hs:(sizeLine:Int) < 2^63:=by decide
   exact yp pins s σ H _ _ v us Q I rx rv ⟨_,xs,_,_,y,rfl,rfl,kh e,by omega,by omega,seqIx h0 h1,ey,q⟩
 · exact h.elim
def tRevL (te:TE):TE:=fun σ H Q=>te σ H fun x H1=>∃ p xs,x=.ref p∧H1 p=some (.lst xs)∧∀ l,H1 l=none→Q (.ref l) (upd H1 l (.lst xs.reverse))
end
section
variable {σ:St} {H:Hp} {Q:VK} {te:TE}
theorem o4 {i j:Int} {H:Hp} {Q:VK}:kMax [.int i,.int j] H Q=Q (.int (if j > i then j else i)) H:=rfl
theorem mq:tRevL te σ H Q=te σ H fun x H1=>∃ p xs,x=.ref p∧H1 p=some (.lst xs)∧∀ l,H1 l=none→Q (.ref l) (upd H1 l (.lst xs.reverse)):=rfl
theorem zo {l:Addr} {i:Int} {xs:List V} {y:V} (hl:H l=some (.lst xs)) (h0:0≤i) (h1:i < xs.length) (ey:xs[i.toNat]? =some y) (q:Q y (upd H l (.lst (xs.eraseIdx i.toNat)))):o3 (.ref l) [.int i] H Q:=by
 show bnd (unM (H l)) _
 rw [hl]
 exact bt (a:=xs) rfl ⟨h0,h1,bt ey q⟩
end
end L2
namespace L2
open PySem PySem.Spec PyProof.Rows
theorem vI:typeLookup (.type "str") (Str.ofString "__int__")=pure none:=by rw [typeLookup_type,builtinLookup_eq_fast]; kernel_rfl
theorem sF:typeLookup (.type "str") (Str.ofString "__index__")=pure none:=by rw [typeLookup_type,builtinLookup_eq_fast]; kernel_rfl
theorem sG:typeLookup (.type "str") (Str.ofString "__trunc__")=pure none:=by rw [typeLookup_type,builtinLookup_eq_fast]; kernel_rfl
def numC (n:Nat):List Nat:=if n < 10 then [48+n] else [48+n / 10,48+n % 10]
theorem xB {n:Nat} (h:n < 100):((tx (numC n)).cps.all fun x=>decide (x < 128))=true:=by
 have t:((List.range 100).all fun n=>(tx (numC n)).cps.all fun x=>decide (x < 128))=true:=by decide+kernel
 exact List.all_eq_true.mp t n (List.mem_range.mpr h)
theorem xC {α:Type} {M:Model} {A:Around} {E:Value→Shared→Prop} {s:Shared} {Q:α→Shared→Prop} {m m':Sem α} (e:m=m') (h:wpAny M A m' Q E s):wpAny M A m Q E s:=e ▸ h
set_option maxHeartbeats 4000000 in
theorem gis (n:Nat) (hn:n < 100) (u:Tok):Gives (Builtin.«int.__new__» ⟨[.type "int",.str (tx (numC n)) u],[]⟩) (.int n):=
 .of_wp fun M A E s Q h=>by
  obtain ⟨hp,g,d,tk,os⟩:=s
  have f1:=PySem.F.conv_sub_int
  have f2:=PySem.F.madeHere_int
  have f3:=vI
  have f4:=sF
  have f5:=sG
  iterate 44 (any_goals (first | assumption | wp_step))
  refine wpAny_bind (wpAny_of_eq (a:=some (tx (numC n))) rfl ?_)
  refine wpAny_of_eq (a:=some (numC n)) ?e1 ?_
  case e1=>
   show (pure (some (if ((tx (numC n)).cps.all fun x=>decide (x < 128))=true then (tx (numC n)).cps.toList else _)):Sem _)=_
   rw [if_pos (xB hn),oW]
  refine xC (m':=mkInt (n:Int)) ?e2 ?_
  case e2=>
   clear h f1 f2 f3 f4 f5
   match n,hn with | 0,_=>kernel_rfl | 1,_=>kernel_rfl | 2,_=>kernel_rfl | 3,_=>kernel_rfl | 4,_=>kernel_rfl | 5,_=>kernel_rfl | 6,_=>kernel_rfl | 7,_=>kernel_rfl | 8,_=>kernel_rfl | 9,_=>kernel_rfl | 10,_=>kernel_rfl | 11,_=>kernel_rfl | 12,_=>kernel_rfl | 13,_=>kernel_rfl | 14,_=>kernel_rfl | 15,_=>kernel_rfl | 16,_=>kernel_rfl | 17,_=>kernel_rfl | 18,_=>kernel_rfl | 19,_=>kernel_rfl | 20,_=>kernel_rfl | 21,_=>kernel_rfl | 22,_=>kernel_rfl | 23,_=>kernel_rfl | 24,_=>kernel_rfl | 25,_=>kernel_rfl | 26,_=>kernel_rfl | 27,_=>kernel_rfl | 28,_=>kernel_rfl | 29,_=>kernel_rfl | 30,_=>kernel_rfl | 31,_=>kernel_rfl | 32,_=>kernel_rfl | 33,_=>kernel_rfl | 34,_=>kernel_rfl | 35,_=>kernel_rfl | 36,_=>kernel_rfl | 37,_=>kernel_rfl | 38,_=>kernel_rfl | 39,_=>kernel_rfl | 40,_=>kernel_rfl | 41,_=>kernel_rfl | 42,_=>kernel_rfl | 43,_=>kernel_rfl | 44,_=>kernel_rfl | 45,_=>kernel_rfl | 46,_=>kernel_rfl | 47,_=>kernel_rfl | 48,_=>kernel_rfl | 49,_=>kernel_rfl | 50,_=>kernel_rfl | 51,_=>kernel_rfl | 52,_=>kernel_rfl | 53,_=>kernel_rfl | 54,_=>kernel_rfl | 55,_=>kernel_rfl | 56,_=>kernel_rfl | 57,_=>kernel_rfl | 58,_=>kernel_rfl | 59,_=>kernel_rfl | 60,_=>kernel_rfl | 61,_=>kernel_rfl | 62,_=>kernel_rfl | 63,_=>kernel_rfl | 64,_=>kernel_rfl | 65,_=>kernel_rfl | 66,_=>kernel_rfl | 67,_=>kernel_rfl | 68,_=>kernel_rfl | 69,_=>kernel_rfl | 70,_=>kernel_rfl | 71,_=>kernel_rfl | 72,_=>kernel_rfl | 73,_=>kernel_rfl | 74,_=>kernel_rfl | 75,_=>kernel_rfl | 76,_=>kernel_rfl | 77,_=>kernel_rfl | 78,_=>kernel_rfl | 79,_=>kernel_rfl | 80,_=>kernel_rfl | 81,_=>kernel_rfl | 82,_=>kernel_rfl | 83,_=>kernel_rfl | 84,_=>kernel_rfl | 85,_=>kernel_rfl | 86,_=>kernel_rfl | 87,_=>kernel_rfl | 88,_=>kernel_rfl | 89,_=>kernel_rfl | 90,_=>kernel_rfl | 91,_=>kernel_rfl | 92,_=>kernel_rfl | 93,_=>kernel_rfl | 94,_=>kernel_rfl | 95,_=>kernel_rfl | 96,_=>kernel_rfl | 97,_=>kernel_rfl | 98,_=>kernel_rfl | 99,_=>kernel_rfl | (m+100),hm=>exact absurd hm (by omega)
  repeat (any_goals (first | assumption | wp_step))
  all_goals first | exact ⟨_,rfl,h⟩ | skip
def mZ:List V→Hp→VK→Prop
 | [.int i],H,Q=>Q (.int i) H
 | [.bl k],H,Q=>Q (.int (if k then 1 else 0)) H
 | [.str z],H,Q=>∃ n:Nat,n < 100∧z=tx (numC n)∧Q (.int n) H
 | _,_,_=>False
theorem vJ {X:Cx}:CallR X (.type "int") mZ:=by
 intro pins s σ H xs us Q I r h
 unfold mZ at h
 split at h
 · exact qH pins s σ H _ us Q I r (.inl ⟨_,rfl,h⟩)
 · exact qH pins s σ H _ us Q I r (.inr ⟨_,rfl,h⟩)
 · obtain ⟨n,hn,rfl,q⟩:=h
   obtain ⟨u,rfl,ru⟩:=fX r
   obtain ⟨t,rfl⟩:=ru
   exact call_int_1 (gis n hn t).meets (show (Made.int (n:Int)).post _ s from ⟨rfl,⟨.int n,H,I.tok _,⟨_,rfl⟩,q⟩⟩)
 · exact h.elim
theorem lb {k:Bool} {H:Hp} {Q:VK}:mZ [.bl k] H Q=Q (.int (if k then 1 else 0)) H:=rfl
theorem lc {i:Int} {H:Hp} {Q:VK}:mZ [.int i] H Q=Q (.int i) H:=rfl
theorem m3 {n:Nat} (h:n < 100):Str.ofString (toString (n:Int))=tx (numC n):=by
 have t:((List.range 100).all fun (n:Nat)=>decide (Str.ofString (toString (n:Int))=tx (numC n)))=true:=by decide+kernel
 simpa using List.all_eq_true.mp t n (List.mem_range.mpr h)
theorem nR {n:Nat} (h:n < 100):32∉numC n:=by
 have t:((List.range 100).all fun (n:Nat)=>decide (32∉numC n))=true:=by decide+kernel
 simpa using List.all_eq_true.mp t n (List.mem_range.mpr h)
theorem Ag {n:Nat} (h:n < 100):numC n≠[]:=by unfold numC; split <;> simp
theorem jk {n:Nat}:(numC n).length≤2:=by unfold numC; split <;> simp
theorem yz {n:Nat} (h:n < 100):((numC n).head? =some 48→n=0)∧numC 0=[48]:=by
 have t:((List.range 100).all fun (n:Nat)=>decide ((numC n).head? =some 48→n=0))=true:=by decide+kernel
 exact ⟨of_decide_eq_true (List.all_eq_true.mp t n (List.mem_range.mpr h)),rfl⟩
theorem va {n:Nat} (h:n < 100):∀ c∈numC n,48≤c∧c≤57:=by
 have t:((List.range 100).all fun (n:Nat)=>(numC n).all fun c=>decide (48≤c∧c≤57))=true:=by decide+kernel
 intro c hc
 simpa using List.all_eq_true.mp (List.all_eq_true.mp t n (List.mem_range.mpr h)) c hc
end L2
namespace L2
open PySem PySem.Spec PyProof.Rows
local macro_rules | `(tactic| walk_at "w")=>`(tactic| (first | simp only [aV,gT,g7,db,jn,w_c,lq,ip,iq,gU,iu,w_b,w_not,jD,lr,iw,iy,jE,jo,gW,lu,iz,jF,jG,kN,jH,iA,iB,iC,iD,gP,gQ,e6,fj,fk,dS,jI,jJ,jK,jL,jM,jN,jO,jP,jQ,jR,jS,jT,lx,iE,fm,iF,ly,iG,gR,fq,jU,jV,iH,gX,iI,
 List.getElem?_cons_zero,List.getElem?_cons_succ,Option.some.injEq,exists_eq_left',exists_eq_left,List.set_cons_zero,List.set_cons_succ,d6,V.int.injEq,V.bl.injEq,V.ref.injEq,V.str.injEq,List.append_nil,List.nil_append,List.cons_append] | dsimp only | skip))
def aK (K:PySem.W.Frag):Sp:=fun vs H Q _=>∃ (a:Addr) (h w g:Int),vs=[.ref a]∧IsFl H a h w g∧1≤h∧h≤6∧Q (.int (h*w)) H
theorem re {K:PySem.W.Frag} {vs:List V} {H:Hp} {Q:VK} {E:XK} (h:aK K vs H Q E):vs.length=1:=by
 obtain ⟨_,_,_,_,rfl,_⟩:=h; rfl
def g8 (K:PySem.W.Frag):TS:=
 (tRet (tOp cMul (tOp cIx (tVar 0) (tC (.int 0))) (tOp cIx (tVar 0) (tC (.int 1)))))
theorem rf {K:PySem.W.Frag} {vs:List V} {H:Hp} {Q:VK} {E:XK} (h:aK K vs H Q E):g8 K { nx:=fun _ H'=>Q .non H',rt:=Q } (start ["floor"] vs) H:=by
 obtain ⟨a,h,w,g,rfl,ha,h0,h1,q⟩:=h
 show g8 K _ [some (.ref a)] H
 unfold g8
 walk_at "w"
 rw [h9 ha]
 refine bt (a:=V.int h) rfl ?_
 walk_at "w"
 rw [h9 ha]
 refine bt (a:=V.int w) rfl ?_
 walk_at "w"
 exact ⟨ii h0 h1,q⟩
def cornB (h w c:Int):Bool:=decide (c / w < h - 1)&&decide (c % w < w - 1)
def cS (K:PySem.W.Frag):Sp:=fun vs H Q _=>∃ (a:Addr) (h w g c:Int),vs=[.ref a,.int c]∧IsFl H a h w g∧0 < w∧w < 100∧∀ H',Same H H'→Q (.bl (cornB h w c)) H'
theorem sH {K:PySem.W.Frag} {vs:List V} {H:Hp} {Q:VK} {E:XK} (h:cS K vs H Q E):vs.length=2:=by
 obtain ⟨_,_,_,_,_,rfl,_⟩:=h; rfl
def iJ (K:PySem.W.Frag):TS:=
 (tSeq (tAsg (tCall (b9 K) [] E0 (tCons (tVar 0) (tCons (tVar 1) tNil))) (gName 2))
  (tRet (tAndV (tOp (cCmp fun i j=>decide (i < j)) (tOp cIx (tVar 2) (tC (.int 0))) (tOp cSub (tOp cIx (tVar 0) (tC (.int 0))) (tC (.int 1)))) (tOp (cCmp fun i j=>decide (i < j)) (tOp cIx (tVar 2) (tC (.int 1))) (tOp cSub (tOp cIx (tVar 0) (tC (.int 1))) (tC (.int 1)))))))
theorem sI {K:PySem.W.Frag} {vs:List V} {H:Hp} {Q:VK} {E:XK} (h:cS K vs H Q E):iJ K { nx:=fun _ H'=>Q .non H',rt:=Q } (start ["floor","cell","spot"] vs) H:=by
 obtain ⟨a,h,w,g,c,rfl,ha,w0,w1,k⟩:=h
 show iJ K _ [some (.ref a),some (.int c),none] H
 unfold iJ
 walk_at "w"
 refine ⟨a,h,w,g,c,rfl,ha,w0,w1,fun p hp=>?_⟩
 have s1:Same H (upd H p (.tup [.int (c / w),.int (c % w)])):=(Same.refl H).laid hp
 have k1:=k _ s1
 have ha1:=s1 _ _ ha
 have hp1:(upd H p (.tup [.int (c / w),.int (c % w)])) p=some (.tup [.int (c / w),.int (c % w)]):=ah
 generalize upd H p (.tup [.int (c / w),.int (c % w)])=H1 at*
 walk_at "w"
 rw [h9 hp1]
 refine bt (a:=V.int (c / w)) rfl ?_
 walk_at "w"
 rw [h9 ha1]
 refine bt (a:=V.int h) rfl ?_
 walk_at "w"
 unfold cornB at k1
 cases hb:decide (c / w < h - 1) with
 | false=>
  rw [hb,Bool.false_and] at k1
  exact iteF k1
 | true=>
  rw [hb,Bool.true_and] at k1
  refine iteT ?_
  rw [h9 hp1]
  refine bt (a:=V.int (c % w)) rfl ?_
  walk_at "w"
  rw [h9 ha1]
  refine bt (a:=V.int w) rfl ?_
  walk_at "w"
  exact k1
def sqL (w c:Int):List Int:=[c,c+1,c+w,c+w+1]
def cT (K:PySem.W.Frag):Sp:=fun vs H Q _=>∃ (a:Addr) (h w g c:Int),vs=[.ref a,.int c]∧IsFl H a h w g∧∀ p,H p=none→Q (.ref p) (upd H p (.lst ((sqL w c).map V.int)))
theorem sJ {K:PySem.W.Frag} {vs:List V} {H:Hp} {Q:VK} {E:XK} (h:cT K vs H Q E):vs.length=2:=by
 obtain ⟨_,_,_,_,_,rfl,_⟩:=h; rfl
def iK (K:PySem.W.Frag):TS:=
 (tSeq (tAsg (tOp cAdd (tVar 1) (tOp cIx (tVar 0) (tC (.int 1)))) (gName 2))
  (tRet (tLst (tCons (tVar 1) (tCons (tOp cAdd (tVar 1) (tC (.int 1))) (tCons (tVar 2) (tCons (tOp cAdd (tVar 2) (tC (.int 1))) tNil)))))))
theorem sK {K:PySem.W.Frag} {vs:List V} {H:Hp} {Q:VK} {E:XK} (h:cT K vs H Q E):iK K { nx:=fun _ H'=>Q .non H',rt:=Q } (start ["floor","corner","below"] vs) H:=by
 obtain ⟨a,h,w,g,c,rfl,ha,k⟩:=h
 show iK K _ [some (.ref a),some (.int c),none] H
 unfold iK
 walk_at "w"
 rw [h9 ha]
 refine bt (a:=V.int w) rfl ?_
 walk_at "w"
 exact ⟨aE (by show (4:Nat)≤1000; decide),k⟩
def squL (h w:Int):List (List Int):=((List.range (h*w).toNat).filter fun (i:Nat)=>cornB h w i).map fun (i:Nat)=>sqL w i
def dU (K:PySem.W.Frag):Sp:=fun vs H Q _=>∃ (a:Addr) (h w g:Int),vs=[.ref a]∧IsFl H a h w g∧FlOk h w g∧
 ∀ l as H',Same H H'→H l=none→IsLL H' l as (squL h w)→as.Nodup→l∉as→(∀ a∈as,H a=none)→Q (.ref l) H'
theorem vK {K:PySem.W.Frag} {vs:List V} {H:Hp} {Q:VK} {E:XK} (h:dU K vs H Q E):vs.length=1:=by
 obtain ⟨_,_,_,_,rfl,_⟩:=h; rfl
def jZ (K:PySem.W.Frag):TS:=
 (tRet (tComp [none,none,some 0] (eD (tCons (tCall (aK K) [] E0 (tCons (tVar 0) tNil)) tNil)) (gName 1) (tB (tCall (cS K) [] E0 (tCons (tVar 2) (tCons (tVar 1) tNil)))) (tCall (cT K) [] E0 (tCons (tVar 2) (tCons (tVar 1) tNil)))))
theorem NewAt.ll {H1 H:Hp} {l:Addr} {as:List Addr} {xss:List (List Int)} (x:NewAt H1 H l as (xss.map fun xs=>.lst (xs.map V.int))) (e:H l=some (.lst (as.map V.ref))):IsLL H l as xss:=
 ⟨e,by rw [x.len,List.length_map],fun j a xs h1 h2=>x.at_ j a _ h1 (by rw [List.getElem?_map,h2]; rfl)⟩
theorem vL {K:PySem.W.Frag} {vs:List V} {H:Hp} {Q:VK} {E:XK} (h:dU K vs H Q E):jZ K { nx:=fun _ H'=>Q .non H',rt:=Q } (start ["floor"] vs) H:=by
 obtain ⟨a,h,w,g,rfl,ha,F,k⟩:=h
 obtain ⟨h0,h1,w0,w1,m16,g0,g1⟩:=F
 have mpos:0≤h*w:=Int.mul_nonneg (by omega) (by omega)
 show jZ K _ [some (.ref a)] H
 unfold jZ
 walk_at "w"
 refine ⟨a,h,w,g,rfl,ha,h0,h1,?_⟩
 walk_at "w"
 refine ⟨h*w,rfl,by omega,by omega,?_⟩
 refine uq (fun (i:Nat)=>cornB h w i) (fun (i:Nat)=>.lst ((sqL w i).map V.int)) (by omega) ?_ ?_ ?_
 · intro i H1 R hi s1 k1
   show tB _ [none,some (.int (0+(i:Int))),some (.ref a)] H1 R
   walk_at "w"
   rw [Int.zero_add]
   exact ⟨a,h,w,g,_,rfl,s1 _ _ ha,by omega,by omega,fun H2 s2=>⟨_,rfl,k1 H2 s2⟩⟩
 · intro i H1 Q1 hi hb s1 k1
   show tCall _ _ _ _ [none,some (.int (0+(i:Int))),some (.ref a)] H1 Q1
   walk_at "w"
   rw [Int.zero_add]
   exact ⟨a,h,w,g,_,rfl,s1 _ _ ha,fun p hp=>k1 p _ ((Same.refl H1).laid hp) hp ah⟩
 · intro l as H2 hl s2 el x
   have x':NewAt H H2 l as ((squL h w).map fun xs=>.lst (xs.map V.int)):=by
    unfold squL
    rw [List.map_map]
    exact x
   exact k l as H2 s2 hl (x'.ll el) x.nd x.nl x.fr
end L2
namespace L2
open PySem PySem.Spec PyProof.Rows
local macro_rules | `(tactic| walk_at "w")=>`(tactic| (first | simp only [aV,mj,o1,kn,mq,lb,lc,o4,oY,mh,oZ,if_true,if_false,Bool.false_eq_true,decide_true,decide_false,kc,ke,mY,jc,ij,ka,kX,kb,jb,kU,kW,ja,mV,jd,je,jg,jh,ji,jj,jf,kY,kZ,la,kS,mX,Bool.not_true,Bool.not_false,gT,g7,db,jn,w_c,lq,ip,iq,gU,iu,w_b,w_not,jD,lr,iw,iy,jE,jo,gW,lu,iz,jF,jG,kN,jH,iA,iB,iC,iD,gP,gQ,e6,fj,fk,dS,jI,jJ,jK,jL,jM,jN,jO,jP,jQ,jR,jS,jT,lx,iE,fm,iF,ly,iG,gR,fq,jU,jV,iH,gX,iI,
 List.getElem?_cons_zero,List.getElem?_cons_succ,Option.some.injEq,exists_eq_left',exists_eq_left,List.set_cons_zero,List.set_cons_succ,d6,V.int.injEq,V.bl.injEq,V.ref.injEq,V.str.injEq,List.append_nil,List.nil_append,List.cons_append] | dsimp only | skip))
def nmC:RK→List Nat
 | .Rule=>[]
 | .Unlike=>[117,110,108,105,107,101]
 | .Sum=>[115,117,109]
 | .Rising=>[114,105,115,105,110,103]
 | .Seen=>[115,101,101,110]
 | .Count=>[99,111,117,110,116]
 | .Joined=>[106,111,105,110,101,100]
 | .NoSquare=>[110,111,115,113,117,97,114,101]
 | .Ring=>[114,105,110,103]
def e9:List Str:=[tx [115,117,109],tx [115,101,101,110],tx [99,111,117,110,116]]
def fb:List Str:=[tx [99,111,117,110,116],tx [106,111,105,110,101,100],tx [110,111,115,113,117,97,114,101],tx [114,105,110,103]]
def dW:List Str:=[tx [106,111,105,110,101,100],tx [110,111,115,113,117,97,114,101],tx [114,105,110,103]]
def rFs (p W C:Addr) (n m:Int):List (Str × V):=[("floor",.ref p),("words",.ref W),("cells",.ref C),("amount",.int n),("mark",.int m)]
structure IsRule (H:Hp) (c:RCl RK) (k:RK) (r p:Addr) (ws:List (List Nat)) (cs:List Int) (n m:Int):Prop where
 ok:c.ok k=true
 ex:∃ dx W C,H r=some (.ins (c.A k) dx (rFs p W C n m))∧H W=some (.tup ((ws.map tx).map V.str))∧H C=some (.tup (cs.map V.int))
theorem IsRule.same {H H':Hp} {c:RCl RK} {k:RK} {r p:Addr} {ws:List (List Nat)} {cs:List Int} {n m:Int} (x:IsRule H c k r p ws cs n m) (s:Same H H'):IsRule H' c k r p ws cs n m:=by
 obtain ⟨dx,W,C,h1,h2,h3⟩:=x.ex
 exact ⟨x.ok,dx,W,C,s _ _ h1,s _ _ h2,s _ _ h3⟩
section
variable {ι:Type} {c:RCl ι} {σ:St} {H:Hp} {Q:VK} {i:Nat} {r dx:Addr} {k:ι} {fs:List (Str × V)} {f m:Str} {v:V} {okm:ι→Bool} {sp:ι→Sp} {t:TA} {D:Ends} {tv:TE} {y:V} {H1:Hp}
theorem fldE (hσ:σ[i]? =some (some (.ref r))) (ok:c.ok k=true) (hr:H r=some (.ins (c.A k) dx fs)) (hl:fs.lookup f=some v) (q:Q v H):tFldK c (tVar i) f σ H Q:=⟨_,hσ,r,k,dx,fs,v,rfl,ok,hr,hl,q⟩
theorem methE (hσ:σ[i]? =some (some (.ref r))) (ok:okm k=true) (hr:H r=some (.ins (c.A k) dx fs)) (hl:fs.lookup m=none) (q:t σ H fun vs H2=>sp k (.ref r::vs) H2 Q E0):cR c okm m sp (tVar i) t σ H Q:=⟨_,hσ,r,k,dx,fs,rfl,ok,hr,hl,q⟩
theorem sfldV {j:Nat} {x:V} (hj:σ[j]? =some (some x)) (hσ:σ[i]? =some (some (.ref r))) (ok:c.ok k=true) (hr:H r=some (.ins (c.A k) dx fs)) (hn:fs.length < 1000) (q:D.nx σ (upd H r (.ins (c.A k) dx (putF f x fs)))):sFldK c (tVar i) (tVar j) f D σ H:=
 ⟨x,hj,_,hσ,r,k,dx,fs,rfl,ok,hr,hn,q⟩
theorem sfldT {K:PySem.W.Frag} {j:Nat} {p:Addr} {xs:List V} (hj:σ[j]? =some (some (.ref p))) (hp:H p=some (.lst xs)) (hσ:σ[i]? =some (some (.ref r))) (ok:c.ok k=true) (hr:H r=some (.ins (c.A k) dx fs)) (hn:fs.length < 1000)
  (q:∀ l,H l=none→D.nx σ (upd (upd H l (.tup xs)) r (.ins (c.A k) dx (putF f (.ref l) fs)))):sFldK c (tVar i) (tCB (km K) (tCons (tVar j) tNil)) f D σ H:=by
 unfold sFldK
 walk_at "w"
 refine ⟨_,hj,zm hp fun l hl=>?_⟩
 exact ⟨_,hσ,r,k,dx,fs,rfl,ok,by rw [ar (aG hr hl)]; exact hr,hn,q l hl⟩
end
theorem zp {H:Hp} {Q:VK} {p:Addr} {xs:List V} (hp:H p=some (.tup xs)) (h:∀ l,H l=none→Q (.ref l) (upd H l (.lst xs))):kList [.ref p] H Q:=by
 unfold kList
 dsimp only
 rw [hp]
 exact h
theorem zq {H:Hp} {Q:VK} {sep:Str} {p:Addr} {ts:List Str} (hp:H p=some (.lst (ts.map V.str))) (hok:JoinOk sep ts=true) (h:Q (.str (Txt.join sep ts)) H):mn (.str sep) [.ref p] H Q:=by
 unfold mn
 dsimp only
 rw [hp]
 exact ⟨ts,rfl,hok,h⟩
def ld (K:PySem.W.Frag) (c:RCl RK) (k:RK):Sp:=fun vs H Q _=>∃ (r p:Addr) (w:List Nat) (ws:List (List Nat)) (cs:List Int) (n m:Int),vs=[.ref r]∧IsRule H c k r p (w::ws) cs n m∧Q (.str (tx w)) H
def dB (K:PySem.W.Frag) (c:RCl RK) (k:RK):Sp:=fun vs H Q _=>∃ (r p:Addr) (ws:List (List Nat)) (cs:List Int) (n m:Int),vs=[.ref r]∧IsRule H c k r p ws cs n m∧∀ l,H l=none→Q (.ref l) (upd H l (.lst (cs.map V.int)))
def fc (K:PySem.W.Frag) (c:RCl RK) (k:RK):Sp:=fun vs H Q _=>∃ (r p:Addr) (ws:List (List Nat)) (cs:List Int) (n m:Int),vs=[.ref r]∧IsRule H c k r p ws cs n m∧Q (.int m) H
def sgAt (xs cs:List Int):List Int:=cs.map fun c=>xs.getD c.toNat 0
def cD (cs:List Int) (n:Nat):Prop:=cs.length≤63∧∀ c∈cs,0≤c∧c < n
def aq (K:PySem.W.Frag) (c:RCl RK):Sp:=fun vs H Q _=>∃ (k:RK) (x dx p W C:Addr) (ws:List (List Nat)) (cs:List Int) (n m:Int),vs=[.ref x,.ref p,.ref W,.ref C,.int n,.int m]∧c.ok k=true∧H x=some (.ins (c.A k) dx [])∧W≠x∧C≠x∧
 H W=some (.lst ((ws.map tx).map V.str))∧H C=some (.lst (cs.map V.int))∧∀ H',(∀ b o,b≠x→H b=some o→H' b=some o)→IsRule H' c k x p ws cs n m→Q .non H'
theorem nS {K:PySem.W.Frag} {c:RCl RK} {vs:List V} {H:Hp} {Q:VK} {E:XK} (h:aq K c vs H Q E):vs.length=6:=by
 obtain ⟨_,_,_,_,_,_,_,_,_,_,rfl,_⟩:=h; rfl
def fu (K:PySem.W.Frag) (c:RCl RK):TS:=
 (tSeq (sFldK c (tVar 0) (tVar 1) "floor")
  (tSeq (sFldK c (tVar 0) (tCB (km K) (tCons (tVar 2) tNil)) "words")
  (tSeq (sFldK c (tVar 0) (tCB (km K) (tCons (tVar 3) tNil)) "cells")
  (tSeq (sFldK c (tVar 0) (tVar 4) "amount")
  (sFldK c (tVar 0) (tVar 5) "mark")))))
theorem nV {K:PySem.W.Frag} {c:RCl RK} {vs:List V} {H:Hp} {Q:VK} {E:XK} (h:aq K c vs H Q E):fu K c { nx:=fun _ H'=>Q .non H',rt:=Q } (start ["self","floor","words","cells","amount","mark"] vs) H:=by
 obtain ⟨k,x,dx,p,W,C,ws,cs,n,m,rfl,ok,hx,nW,nC,hW,hC,q⟩:=h
 show fu K c _ [some (.ref x),some (.ref p),some (.ref W),some (.ref C),some (.int n),some (.int m)] H
 unfold fu
 walk_at "w"
 refine sfldV (k:=k) (j:=1) rfl rfl ok hx (by decide) ?_
 walk_at "w"
 refine sfldT (k:=k) (j:=2) (p:=W) rfl (by rw [ar nW]; exact hW) rfl ok ah (by show (1:Nat) < 1000; decide) fun l1 h1=>?_
 have n1:l1≠x:=fun e=>by rw [e,ah] at h1; cases h1
 have g1:H l1=none:=by rw [ar n1] at h1; exact h1
 walk_at "w"
 refine sfldT (k:=k) (j:=3) (p:=C) rfl (by rw [ar nC,ar (aG hC g1),ar nC]; exact hC) rfl ok ah (by show (2:Nat) < 1000; decide) fun l2 h2=>?_
 have n2:l2≠x:=fun e=>by rw [e,ah] at h2; cases h2
 have n21:l2≠l1:=fun e=>by rw [e,ar n1,ah] at h2; cases h2
 have g2:H l2=none:=by rw [ar n2,ar n21,ar n2] at h2; exact h2
 walk_at "w"
 refine sfldV (k:=k) (j:=4) rfl rfl ok ah (by show (3:Nat) < 1000; decide) ?_
 refine sfldV (k:=k) (j:=5) rfl rfl ok ah (by show (4:Nat) < 1000; decide) ?_
 refine q _ (fun b o hb e=>?_) ⟨ok,dx,l1,l2,by rw [ah]; rfl,?_,?_⟩
 · rw [ar hb,ar hb,ar hb,ar (aG e g2),ar hb,ar (aG e g1),ar hb]
   exact e
 · rw [ar n1,ar n1,ar n1,ar n21.symm,ar n1,ah]
 · rw [ar n2,ar n2,ar n2,ah]
def iL (K:PySem.W.Frag) (c:RCl RK):Sp:=fun vs H Q E=>∃ k,ld K c k vs H Q E
theorem sM {K:PySem.W.Frag} {c:RCl RK} {vs:List V} {H:Hp} {Q:VK} {E:XK} (h:iL K c vs H Q E):vs.length=1:=by
 obtain ⟨_,_,_,_,_,_,_,_,rfl,_⟩:=h; rfl
def iM (K:PySem.W.Frag) (c:RCl RK):TS:=
 (tRet (tOp cIx (tFldK c (tVar 0) "words") (tC (.int 0))))
theorem sN {K:PySem.W.Frag} {c:RCl RK} {vs:List V} {H:Hp} {Q:VK} {E:XK} (h:iL K c vs H Q E):iM K c { nx:=fun _ H'=>Q .non H',rt:=Q } (start ["self"] vs) H:=by
 obtain ⟨k,r,p,w,ws,cs,n,m,rfl,x,q⟩:=h
 obtain ⟨dx,W,C,h1,h2,h3⟩:=x.ex
 show iM K c _ [some (.ref r)] H
 unfold iM
 walk_at "w"
 refine fldE rfl x.ok h1 (v:=.ref W) (by rfl) ?_
 walk_at "w"
 have e0:atI (((w::ws).map tx).map V.str) 0=some (V.str (tx w)):=gO (j:=0) rfl
 exact ixT h2 e0 q
def g9 (K:PySem.W.Frag) (c:RCl RK):Sp:=fun vs H Q E=>∃ k,dB K c k vs H Q E
theorem rg {K:PySem.W.Frag} {c:RCl RK} {vs:List V} {H:Hp} {Q:VK} {E:XK} (h:g9 K c vs H Q E):vs.length=1:=by
 obtain ⟨_,_,_,_,_,_,_,rfl,_⟩:=h; rfl
def hE (K:PySem.W.Frag) (c:RCl RK):TS:=
 (tRet (tCB kList (tCons (tFldK c (tVar 0) "cells") tNil)))
theorem rh {K:PySem.W.Frag} {c:RCl RK} {vs:List V} {H:Hp} {Q:VK} {E:XK} (h:g9 K c vs H Q E):hE K c { nx:=fun _ H'=>Q .non H',rt:=Q } (start ["self"] vs) H:=by
 obtain ⟨k,r,p,ws,cs,n,m,rfl,x,q⟩:=h
 obtain ⟨dx,W,C,h1,h2,h3⟩:=x.ex
 show hE K c _ [some (.ref r)] H
 unfold hE
 walk_at "w"
 refine fldE rfl x.ok h1 (v:=.ref C) (by rfl) ?_
 walk_at "w"
 exact zp h3 q
def iN (K:PySem.W.Frag) (c:RCl RK):Sp:=fun vs H Q E=>∃ k,fc K c k vs H Q E
theorem sO {K:PySem.W.Frag} {c:RCl RK} {vs:List V} {H:Hp} {Q:VK} {E:XK} (h:iN K c vs H Q E):vs.length=1:=by
 obtain ⟨_,_,_,_,_,_,_,rfl,_⟩:=h; rfl
def iO (K:PySem.W.Frag) (c:RCl RK):TS:=
 (tRet (tFldK c (tVar 0) "mark"))
theorem sP {K:PySem.W.Frag} {c:RCl RK} {vs:List V} {H:Hp} {Q:VK} {E:XK} (h:iN K c vs H Q E):iO K c { nx:=fun _ H'=>Q .non H',rt:=Q } (start ["self"] vs) H:=by
 obtain ⟨k,r,p,ws,cs,n,m,rfl,x,q⟩:=h
 obtain ⟨dx,W,C,h1,h2,h3⟩:=x.ex
 show iO K c _ [some (.ref r)] H
 unfold iO
 walk_at "w"
 exact fldE rfl x.ok h1 (v:=.int m) (by rfl) q
def cU (K:PySem.W.Frag):Sp:=fun vs H Q _=>∃ n:Nat,vs=[.str (tx (numC n))]∧n < 100∧∀ H',Same H H'→Q (.int n) H'
theorem sQ {K:PySem.W.Frag} {vs:List V} {H:Hp} {Q:VK} {E:XK} (h:cU K vs H Q E):vs.length=1:=by
 obtain ⟨_,rfl,_⟩:=h; rfl
def iP (K:PySem.W.Frag):TS:=
 (tSeq (tIfS (tOr (tTest (tOp (cEq K) (tVar 0) (tC (.str (tx []))))) (tOr (tTest (tOp (cCmp fun i j=>decide (j < i)) (tCB kLen (tCons (tVar 0) tNil)) (tC (.int 9)))) (tAnd (tTest (tOp (cEq K) (tOp cIx (tVar 0) (tC (.int 0))) (tC (.str (tx [48]))))) (tTest (tOp (cNe K) (tVar 0) (tC (.str (tx [48])))))))) (tRet (tC .non)) tNext)
  (tSeq (tIfS (tNot (tB (tCB kAll (tCons (tComp [none,none] (iStr (tVar 0)) (gName 1) tTrue (tOp (cIn K false) (tVar 1) (tC (.str (tx [48,49,50,51,52,53,54,55,56,57]))))) tNil)))) (tRet (tC .non)) tNext)
  (tRet (tCB mZ (tCons (tVar 0) tNil)))))
theorem Ah {c:Nat} (h0:48≤c) (h1:c≤57):(!(Builtin.Str.occurrences (tx [48,49,50,51,52,53,54,55,56,57]) ⟨#[c]⟩ 0 (tx [48,49,50,51,52,53,54,55,56,57]).length 1).isEmpty)=true:=by
 have t:((List.range 58).all fun c=>!decide (48≤c)||!(Builtin.Str.occurrences (tx [48,49,50,51,52,53,54,55,56,57]) ⟨#[c]⟩ 0 (tx [48,49,50,51,52,53,54,55,56,57]).length 1).isEmpty)=true:=by decide+kernel
 have:=List.all_eq_true.mp t c (List.mem_range.mpr (by omega))
 simpa [h0] using this
theorem sR {K:PySem.W.Frag} {vs:List V} {H:Hp} {Q:VK} {E:XK} (h:cU K vs H Q E):iP K { nx:=fun _ H'=>Q .non H',rt:=Q } (start ["word"] vs) H:=by
 obtain ⟨n,rfl,hn,q⟩:=h
 have hne:=Ag hn
 have hl:=jk (n:=n)
 show iP K _ [some (.str (tx (numC n)))] H
 unfold iP
 rw [aV,aL]
 walk_at "w"
 rw [e7,decide_eq_false hne]
 refine iteF ⟨by rw [gz]; exact aE (by omega),?_⟩
 walk_at "w"
 rw [gz,decide_eq_false (show ¬ (9:Int) < ((numC n).length:Nat) by omega)]
 refine iteF ?_
 rw [AN,gz,oW]
 obtain ⟨c,r,ec⟩:∃ c r,numC n=c::r:=by
  cases e:numC n with
  | nil=>exact absurd e hne
  | cons c r=>exact ⟨c,r,rfl⟩
 refine ⟨aE (by omega),bt (a:=c) (by rw [ec]; exact gO (j:=0) rfl) ?_⟩
 walk_at "w"
 have e1:decide ((⟨#[c]⟩:Str)=tx [48])=decide (c=48):=by
  have:(⟨#[c]⟩:Str)=tx [c]:=rfl
  rw [this,e7]
  simp
 rw [e1,e7]
 have e2:(decide (c=48)=true→decide (numC n=[48])=true):=by
  intro h
  rw [decide_eq_true_eq] at h
  have:=(yz hn).1 (by rw [ec,h]; rfl)
  subst this
  decide
 have goal2:tSeq (tIfS (tNot (tB (tCB kAll (tCons (tComp [none,none] (iStr (tVar 0)) (gName 1) tTrue (tOp (cIn K false) (tVar 1) (tC (.str (tx [48,49,50,51,52,53,54,55,56,57]))))) tNil)))) (tRet (tC .non)) tNext) (tRet (tCB mZ (tCons (tVar 0) tNil)))
   { nx:=fun _ H'=>Q .non H',rt:=Q } [some (.str (tx (numC n)))] H:=by
  rw [aV,aL]
  walk_at "w"
  refine xx (cs:=numC n) (fun _=>true) (fun _=>.bl true) (by omega) ?_ ?_ ?_
  · intro i c H1 R hc s1 k1
    exact k1 _ (Same.refl _)
  · intro i c H1 Q1 hc hb s1 k1
    have hd:=va hn c (List.mem_of_getElem? hc)
    show tOp (cIn K false) _ _ [none,some (.str (tx [c]))] H1 Q1
    walk_at "w"
    have q1:=k1 _ (Same.refl H1)
    show Q1 (.bl (if false=true then _ else !(Builtin.Str.occurrences (tx [48,49,50,51,52,53,54,55,56,57]) (tx [c]) 0 (tx [48,49,50,51,52,53,54,55,56,57]).length 1).isEmpty)) H1
    rw [if_neg Bool.false_ne_true,show tx [c]=⟨#[c]⟩ from rfl,Ah hd.1 hd.2]
    exact q1
  · intro l H1 hl1 s1 el
    have eb:((List.range (numC n).length).filter fun _=>true).map (fun _=>V.bl true)=(List.replicate (numC n).length true).map V.bl:=by
     rw [gy,List.map_const',List.length_range,List.map_replicate]
    rw [eb] at el
    refine rT el ?_
    have ea:(List.replicate (numC n).length true).all id=true:=by
     rw [List.all_eq_true]
     intro b hb
     exact (List.mem_replicate.mp hb).2
    rw [ea]
    walk_at "w"
    exact ⟨n,hn,rfl,q _ s1⟩
 cases hc:decide (c=48) with
 | false=>
  refine iteF ?_
  exact goal2
 | true=>
  refine iteT ?_
  rw [e2 hc]
  exact goal2
def aZ (K:PySem.W.Frag):Sp:=fun vs H Q _=>∃ (n:Nat) (lo hi:Int),vs=[.str (tx (numC n)),.int lo,.int hi]∧n < 100∧lo≤n∧n≤hi∧∀ H',Same H H'→Q (.int n) H'
theorem nX {K:PySem.W.Frag} {vs:List V} {H:Hp} {Q:VK} {E:XK} (h:aZ K vs H Q E):vs.length=3:=by
 obtain ⟨_,_,_,rfl,_⟩:=h; rfl
def fv (K:PySem.W.Frag):TS:=
 (tSeq (tAsg (tCall (cU K) [] E0 (tCons (tVar 0) tNil)) (gName 3))
  (tSeq (tIfS (tOr (tTest (tOp rIsN (tVar 3) (tC .non))) (tOr (tTest (tOp (cCmp fun i j=>decide (i < j)) (tVar 3) (tVar 1))) (tTest (tOp (cCmp fun i j=>decide (j < i)) (tVar 3) (tVar 2))))) dz tNext)
  (tRet (tVar 3))))
theorem nY {K:PySem.W.Frag} {vs:List V} {H:Hp} {Q:VK} {E:XK} (h:aZ K vs H Q E):fv K { nx:=fun _ H'=>Q .non H',rt:=Q } (start ["word","least","most","number"] vs) H:=by
 obtain ⟨n,lo,hi,rfl,hn,h0,h1,q⟩:=h
 show fv K _ [some (.str (tx (numC n))),some (.int lo),some (.int hi),none] H
 unfold fv
 walk_at "w"
 refine ⟨n,rfl,hn,fun H1 s1=>?_⟩
 walk_at "w"
 rw [aL]
 walk_at "w"
 rw [decide_eq_false (show ¬ V.int n=V.non from fun e=>nomatch e)]
 refine iteF ?_
 rw [decide_eq_false (show ¬ (n:Int) < lo by omega)]
 refine iteF ?_
 rw [decide_eq_false (show ¬ hi < (n:Int) by omega)]
 refine iteF ?_
 walk_at "w"
 exact q _ s1
def WOk (ws:List (List Nat)):Prop:=∀ w∈ws,∀ c∈w,c < 128
theorem WOk.cons {w:List Nat} {ws:List (List Nat)} (h:∀ c∈w,c < 128) (hs:WOk ws):WOk (w::ws):=fun v hv=>by
 rcases List.mem_cons.mp hv with rfl | hv
 · exact h
 · exact hs v hv
theorem qw {n:Nat} (h:n < 100):∀ c∈numC n,c < 128:=fun c hc=>by have:=va h c hc; omega
theorem AR {w:List Nat} (h:∀ c∈w,c < 128):PyData.strOk (tx w)=true:=by
 unfold PyData.strOk
 simp [tx]
 intro c hc
 have:=h c hc
 omega
theorem WOk.strs {ws:List (List Nat)} (h:WOk ws):∀ x∈ws.map tx,PyData.strOk x=true:=fun x hx=>by
 obtain ⟨w,hw,rfl⟩:=List.mem_map.mp hx
 exact AR (h w hw)
def bj (K:PySem.W.Frag):Sp:=fun vs H Q _=>∃ (p:Addr) (n:Nat) (ws:List (List Nat)) (lo hi:Int),vs=[.ref p,.int lo,.int hi]∧H p=some (.lst (((numC n::ws).map tx).map V.str))∧n < 100∧WOk ws∧lo≤n∧n≤hi∧∀ H',Same H H'→Q (.int n) H'
theorem o5 {K:PySem.W.Frag} {vs:List V} {H:Hp} {Q:VK} {E:XK} (h:bj K vs H Q E):vs.length=3:=by
 obtain ⟨_,_,_,_,_,rfl,_⟩:=h; rfl
def fY (K:PySem.W.Frag):TS:=
 (tSeq (tIfS (tTest (tOp (cEq K) (tVar 0) (tLst tNil))) dz tNext)
  (tRet (tCall (aZ K) [] E0 (tCons (tOp cIx (tVar 0) (tC (.int 0))) (tCons (tVar 1) (tCons (tVar 2) tNil))))))
theorem DVs.strs {K:PySem.W.Frag} {H:Hp}:∀ ns:List Str,DVs K H (ns.map V.str) (ns.map PyData.str)
 | []=>.nil
 | n::r=>.cons (.str n) (DVs.strs r)
theorem qT (a b:Str):PyData.eqv (.str a) (.str b)=decide (a=b):=by
 rw [PyData.eqv]
 by_cases h:a=b
 · subst h; simp
 · simp [h]
theorem jq (ns:List Str) (hs:∀ x∈ns,PyData.strOk x=true):SeqAt.shaped (.list (ns.map PyData.str))=true:=by
 have h1:PyData.canLayAll0 (ns.map PyData.str)=true:=u6 fun d hd=>by obtain ⟨x,hx,rfl⟩:=List.mem_map.mp hd; rw [PyData.canLay0]; exact hs x hx
 have h2:PyData.depthAll (ns.map PyData.str)≤0:=qS fun d hd=>by obtain ⟨x,_,rfl⟩:=List.mem_map.mp hd; exact Nat.le_refl _
 simp [SeqAt.shaped,PyData.canLay0,h1,PyData.depth]
 omega
theorem Ai {K:PySem.W.Frag} {H:Hp} {Q:VK} {p q:Addr} {xs ys:List Str} (hp:H p=some (.lst (xs.map V.str))) (hq:H q=some (.lst (ys.map V.str))) (h1:∀ x∈xs,PyData.strOk x=true) (h2:∀ x∈ys,PyData.strOk x=true) (h:Q (.bl (decide (xs=ys))) H):cEq K (.ref p) (.ref q) H Q:=by
 show rEqD K (.ref p) (.ref q) H Q
 refine ⟨.list (xs.map PyData.str),.list (ys.map PyData.str),.lst (SqL.of hp) (.strs xs),.lst (SqL.of hq) (.strs ys),jq xs h1,jq ys h2,?_⟩
 rw [PyData.eqv,qt PyData.str qT]
 exact h
theorem Aj {K:PySem.W.Frag} {H:Hp} {Q:VK} {p q:Addr} {xs ys:List Str} (hp:H p=some (.lst (xs.map V.str))) (hq:H q=some (.lst (ys.map V.str))) (h1:∀ x∈xs,PyData.strOk x=true) (h2:∀ x∈ys,PyData.strOk x=true) (h:Q (.bl (!decide (xs=ys))) H):cNe K (.ref p) (.ref q) H Q:=by
 show rNeD K (.ref p) (.ref q) H Q
 refine ⟨.list (xs.map PyData.str),.list (ys.map PyData.str),.lst (SqL.of hp) (.strs xs),.lst (SqL.of hq) (.strs ys),jq xs h1,jq ys h2,?_⟩
 rw [PyData.eqv,qt PyData.str qT]
 exact h
theorem o6 {K:PySem.W.Frag} {vs:List V} {H:Hp} {Q:VK} {E:XK} (h:bj K vs H Q E):fY K { nx:=fun _ H'=>Q .non H',rt:=Q } (start ["words","least","most"] vs) H:=by
 obtain ⟨p,n,ws,lo,hi,rfl,hp,hn,hw,h0,h1,q⟩:=h
 show fY K _ [some (.ref p),some (.int lo),some (.int hi)] H
 unfold fY
 rw [aV,aL]
 walk_at "w"
 refine ⟨aE (by decide),fun l hl=>?_⟩
 have s1:Same H (upd H l (.lst [])):=(Same.refl H).laid hl
 refine Ai (s1 _ _ hp) (ys:=[]) ah (WOk.strs (WOk.cons (qw hn) hw)) (fun x hx=>nomatch hx) ?_
 generalize upd H l (.lst [])=H1 at*
 walk_at "w"
 rw [decide_eq_false (by simp)]
 refine iteF ?_
 walk_at "w"
 have e0:atI (((numC n::ws).map tx).map V.str) 0=some (V.str (tx (numC n))):=gO (j:=0) rfl
 refine ixL (s1 _ _ hp) e0 ?_
 walk_at "w"
 exact ⟨n,lo,hi,rfl,hn,h0,h1,fun H2 s2=>q _ (s1.trans s2)⟩
theorem yA (acc:List Int) (v:Int):(step_dedup acc v).length≤acc.length+1:=by
 unfold step_dedup
 split <;> simp
theorem sS:∀ (l acc:List Int),(l.foldl step_dedup acc).length≤acc.length+l.length
 | [],acc=>by simp
 | x::r,acc=>by
  have h1:=sS r (step_dedup acc x)
  have h2:=yA acc x
  rw [List.foldl_cons,List.length_cons]
  omega
theorem nE:∀ (l acc:List Int),acc.Nodup→((l.foldl step_dedup acc).length=acc.length+l.length↔(acc++l).Nodup)
 | [],acc,h=>by simpa using h
 | x::r,acc,h=>by
  rw [List.foldl_cons]
  by_cases hx:x∈acc
  · have e:step_dedup acc x=acc:=by
     unfold step_dedup
     rw [if_pos (by simpa using hx)]
    rw [e]
    have:=sS r acc
    constructor
    · intro z
      rw [List.length_cons] at z
      omega
    · intro z
      have:=(List.nodup_append.mp z).2.2 x hx x List.mem_cons_self
      exact absurd rfl this
  · have e:step_dedup acc x=acc++[x]:=by
     unfold step_dedup
     rw [if_neg (by simpa using hx)]
    rw [e]
    have hn:(acc++[x]).Nodup:=List.nodup_append.mpr ⟨h,by simp,fun a ha b hb z=>hx (by rw [List.mem_singleton.mp hb] at z; exact z ▸ ha)⟩
    have ih:=nE r (acc++[x]) hn
    rw [List.length_append,List.length_singleton] at ih
    rw [List.length_cons,show acc.length+(r.length+1)=acc.length+1+r.length by omega,show acc++x::r=acc++[x]++r by simp]
    exact ih
theorem qx (ns:List Int):(List.range ns.length).map (fun i=>ns.getD i 0)=ns:=by
 have:=rd ns (fun x=>x)
 simpa using this
theorem yB (ns:List Int):cntD ns=ns.length↔ns.Nodup:=by
 unfold cntD firstMet
 rw [qx]
 have:=nE ns [] List.nodup_nil
 simpa using this
def cx (K:PySem.W.Frag):Sp:=fun vs H Q _=>∃ (a p:Addr) (h w g:Int) (ns:List Nat),vs=[.ref a,.ref p]∧IsFl H a h w g∧FlOk h w g∧H p=some (.lst (((ns.map numC).map tx).map V.str))∧ns≠[]∧ns.length≤16∧(∀ n∈ns,(n:Int) < h*w)∧ns.Nodup∧
 ∀ l H',Same H H'→H l=none→H' l=some (.lst ((ns.map fun (n:Nat)=>(n:Int)).map V.int))→Q (.ref l) H'
theorem rj {K:PySem.W.Frag} {vs:List V} {H:Hp} {Q:VK} {E:XK} (h:cx K vs H Q E):vs.length=2:=by
 obtain ⟨_,_,_,_,_,_,rfl,_⟩:=h; rfl
def hJ (K:PySem.W.Frag):TS:=
 (tSeq (sComp 2 [none,none,some 0] (iList K (tVar 1)) (gName 1) tTrue (tCall (aZ K) [] E0 (tCons (tVar 1) (tCons (tC (.int 0)) (tCons (tOp cSub (tCall (aK K) [] E0 (tCons (tVar 2) tNil)) (tC (.int 1))) tNil)))))
  (tSeq (tIfS (tTest (tOp (cEq K) (tVar 2) (tLst tNil))) dz tNext)
  (tSeq (tIfS (tTest (tOp (cNe K) (qv (tVar 2)) (tCB kLen (tCons (tVar 2) tNil)))) dz tNext)
  (tRet (tVar 2)))))
theorem o7 {ns:List Nat} (h:ns.Nodup):(ns.map fun (n:Nat)=>(n:Int)).Nodup:=by
 induction ns with
 | nil=>exact List.nodup_nil
 | cons a r ih=>
  rw [List.nodup_cons] at h
  rw [List.map_cons,List.nodup_cons]
  refine ⟨fun z=>?_,ih h.2⟩
  obtain ⟨b,hb,e⟩:=List.mem_map.mp z
  exact h.1 (by have:b=a:=by omega
                exact this ▸ hb)
theorem rk {K:PySem.W.Frag} {vs:List V} {H:Hp} {Q:VK} {E:XK} (h:cx K vs H Q E):hJ K { nx:=fun _ H'=>Q .non H',rt:=Q } (start ["floor","words","cells"] vs) H:=by
 obtain ⟨a,p,h,w,g,ns,rfl,ha,F,hp,hne,hn16,hlt,hnd,q⟩:=h
 obtain ⟨h0,h1,w0,w1,m16,g0,g1⟩:=F
 show hJ K _ [some (.ref a),some (.ref p),none] H
 unfold hJ
 walk_at "w"
 refine ⟨⟨_,SqL.of hp⟩,?_⟩
 refine ft (xs:=((ns.map numC).map tx).map V.str) (fun _=>true) (fun i=>.int (ns.getD i 0:Nat)) (by simp; omega) (SqL.of hp) ?_ ?_ ?_
 · intro i x H1 R hx s1 k1
   exact k1 _ (Same.refl _)
 · intro i x H1 Q1 hx hb s1 k1
   rw [List.getElem?_map,List.getElem?_map,List.getElem?_map] at hx
   cases e:ns[i]? with
   | none=>rw [e] at hx; cases hx
   | some n=>
    rw [e] at hx
    cases hx
    have hm:=hlt n (List.mem_of_getElem? e)
    show tCall _ _ _ _ [none,some (.str (tx (numC n))),some (.ref a)] H1 Q1
    walk_at "w"
    refine ⟨a,h,w,g,rfl,s1 _ _ ha,h0,h1,?_⟩
    walk_at "w"
    refine ⟨n,0,_,rfl,by omega,by omega,by omega,fun H2 s2=>?_⟩
    have q1:=k1 _ s2
    have eg:ns.getD i 0=n:=by rw [List.getD,e]; rfl
    rw [eg] at q1
    exact q1
 · intro l H1 hl s1 el
   have ec:((List.range (((ns.map numC).map tx).map V.str).length).filter fun _=>true).map (fun i=>V.int (ns.getD i 0:Nat))=(ns.map fun (n:Nat)=>(n:Int)).map V.int:=by
    rw [gy,List.length_map,List.length_map,List.length_map,List.map_map]
    refine List.ext_getElem? fun i=>?_
    rw [List.getElem?_map,List.getElem?_map]
    by_cases h:i < ns.length
    · rw [List.getElem?_range h,List.getElem?_eq_getElem h]
      simp [List.getD,h]
    · rw [List.getElem?_eq_none (by simpa using h),List.getElem?_eq_none (by omega)]; rfl
   rw [ec] at el
   walk_at "w"
   rw [aL]
   walk_at "w"
   refine ⟨aE (by decide),fun z hz=>?_⟩
   have s2:Same H1 (upd H1 z (.lst [])):=(Same.refl H1).laid hz
   refine vE (s2 _ _ el) (ys:=[]) ah ?_
   generalize upd H1 z (.lst [])=H2 at*
   walk_at "w"
   rw [decide_eq_false (by simpa using hne)]
   refine iteF ?_
   walk_at "w"
   rw [aL]
   walk_at "w"
   refine ⟨l,_,rfl,s2 _ _ el,by rw [List.length_map]; omega,?_⟩
   rw [bv (s2 _ _ el),List.length_map]
   walk_at "w"
   rw [decide_eq_true (by rw [(yB _).mpr (o7 hnd)])]
   refine iteF ?_
   walk_at "w"
   exact q l _ (s1.trans s2) hl (s2 _ _ el)
def allK:RK→Bool
 | .Joined=>true
 | .NoSquare=>true
 | .Ring=>true
 | _=>false
def numK:RK→Bool
 | .Sum=>true
 | .Seen=>true
 | .Count=>true
 | _=>false
def sgnK:RK→Bool
 | .Count=>true
 | .Joined=>true
 | .NoSquare=>true
 | .Ring=>true
 | _=>false
theorem Ak (k:RK):decide (tx (nmC k)∈dW)=allK k:=by cases k <;> decide+kernel
theorem Al (k:RK):decide (tx (nmC k)∈e9)=numK k:=by cases k <;> decide+kernel
theorem Am (k:RK):decide (tx (nmC k)∈fb)=sgnK k:=by cases k <;> decide+kernel
structure qy (k:RK) (h w:Int) (ns:List Nat) (cs:List Int):Prop where
 told:allK k=false→ns≠[]∧ns.length≤16∧(∀ n∈ns,(n:Int) < h*w)∧ns.Nodup∧cs=ns.map fun (n:Nat)=>(n:Int)
 all:allK k=true→ns=[]∧cs=rngL 0 (h*w)
def dm (K:PySem.W.Frag):Sp:=fun vs H Q _=>∃ (k:RK) (a p:Addr) (h w g:Int) (ns:List Nat) (cs:List Int),vs=[.ref a,.str (tx (nmC k)),.ref p]∧IsFl H a h w g∧FlOk h w g∧H p=some (.lst (((ns.map numC).map tx).map V.str))∧qy k h w ns cs∧(∀ n∈ns,n < 100)∧
 ∀ l H',Same H H'→H l=none→H' l=some (.lst (cs.map V.int))→Q (.ref l) H'
theorem ur {K:PySem.W.Frag} {vs:List V} {H:Hp} {Q:VK} {E:XK} (h:dm K vs H Q E):vs.length=3:=by
 obtain ⟨_,_,_,_,_,_,_,_,rfl,_⟩:=h; rfl
def jr (K:PySem.W.Frag):TS:=
 (tSeq (tIfS (tB (tInG dW true (tVar 1))) (tRet (tCall (cx K) [] E0 (tCons (tVar 0) (tCons (tVar 2) tNil)))) tNext)
  (tSeq (tIfS (tTest (tOp (cNe K) (tVar 2) (tLst tNil))) dz tNext)
  (tRet (kD (tCons (tCall (aK K) [] E0 (tCons (tVar 0) tNil)) tNil)))))
theorem ut {K:PySem.W.Frag} {vs:List V} {H:Hp} {Q:VK} {E:XK} (h:dm K vs H Q E):jr K { nx:=fun _ H'=>Q .non H',rt:=Q } (start ["floor","name","words"] vs) H:=by
 obtain ⟨k,a,p,h,w,g,ns,cs,rfl,ha,F,hp,hc,hn,q⟩:=h
 obtain ⟨h0,h1,w0,w1,m16,g0,g1⟩:=id F
 have mpos:0≤h*w:=Int.mul_nonneg (by omega) (by omega)
 show jr K _ [some (.ref a),some (.str (tx (nmC k))),some (.ref p)] H
 unfold jr
 rw [aV,aL]
 walk_at "w"
 rw [Ak]
 cases hk:allK k with
 | false=>
  obtain ⟨c1,c2,c3,c4,rfl⟩:=hc.told hk
  walk_at "w"
  exact ⟨a,p,h,w,g,ns,rfl,ha,F,hp,c1,c2,c3,c4,q⟩
 | true=>
  obtain ⟨rfl,rfl⟩:=hc.all hk
  walk_at "w"
  rw [aL]
  walk_at "w"
  refine ⟨aE (by decide),fun z hz=>?_⟩
  have s1:Same H (upd H z (.lst [])):=(Same.refl H).laid hz
  refine Aj (xs:=[]) (ys:=[]) (s1 _ _ hp) ah (fun x hx=>nomatch hx) (fun x hx=>nomatch hx) ?_
  generalize upd H z (.lst [])=H1 at*
  walk_at "w"
  refine ⟨a,h,w,g,rfl,s1 _ _ ha,h0,h1,?_⟩
  walk_at "w"
  refine ⟨h*w,rfl,by omega,by omega,fun l hl=>?_⟩
  exact q l _ (s1.laid hl) (s1.free hl) ah
def dX (K:PySem.W.Frag) (c:RCl RK):Sp:=fun vs H Q _=>∃ (k:RK) (p W C:Addr) (ws:List (List Nat)) (cs:List Int) (n m:Int),vs=[.ref p,.ref W,.ref C,.int n,.int m]∧k≠.Rule∧c.ok k=true∧H W=some (.lst (((nmC k::ws).map tx).map V.str))∧H C=some (.lst (cs.map V.int))∧
 ∀ r H',Same H H'→H r=none→IsRule H' c k r p (nmC k::ws) cs n m→Q (.ref r) H'
theorem vM {K:PySem.W.Frag} {c:RCl RK} {vs:List V} {H:Hp} {Q:VK} {E:XK} (h:dX K c vs H Q E):vs.length=5:=by
 obtain ⟨_,_,_,_,_,_,_,_,rfl,_⟩:=h; rfl
def j2 (K:PySem.W.Frag) (c:RCl RK):TS:=
 (tSeq (tAsg (tOp cIx (tVar 1) (tC (.int 0))) (gName 5))
  (tSeq (tIfS (tTest (tOp (cEq K) (tVar 5) (tC (.str (tx [117,110,108,105,107,101]))))) (tRet (tMake (c.A .Unlike) (aq K c) [] E0 (tCons (tVar 0) (tCons (tVar 1) (tCons (tVar 2) (tCons (tVar 3) (tCons (tVar 4) tNil))))))) tNext)
  (tSeq (tIfS (tTest (tOp (cEq K) (tVar 5) (tC (.str (tx [115,117,109]))))) (tRet (tMake (c.A .Sum) (aq K c) [] E0 (tCons (tVar 0) (tCons (tVar 1) (tCons (tVar 2) (tCons (tVar 3) (tCons (tVar 4) tNil))))))) tNext)
  (tSeq (tIfS (tTest (tOp (cEq K) (tVar 5) (tC (.str (tx [114,105,115,105,110,103]))))) (tRet (tMake (c.A .Rising) (aq K c) [] E0 (tCons (tVar 0) (tCons (tVar 1) (tCons (tVar 2) (tCons (tVar 3) (tCons (tVar 4) tNil))))))) tNext)
  (tSeq (tIfS (tTest (tOp (cEq K) (tVar 5) (tC (.str (tx [115,101,101,110]))))) (tRet (tMake (c.A .Seen) (aq K c) [] E0 (tCons (tVar 0) (tCons (tVar 1) (tCons (tVar 2) (tCons (tVar 3) (tCons (tVar 4) tNil))))))) tNext)
  (tSeq (tIfS (tTest (tOp (cEq K) (tVar 5) (tC (.str (tx [99,111,117,110,116]))))) (tRet (tMake (c.A .Count) (aq K c) [] E0 (tCons (tVar 0) (tCons (tVar 1) (tCons (tVar 2) (tCons (tVar 3) (tCons (tVar 4) tNil))))))) tNext)
  (tSeq (tIfS (tTest (tOp (cEq K) (tVar 5) (tC (.str (tx [106,111,105,110,101,100]))))) (tRet (tMake (c.A .Joined) (aq K c) [] E0 (tCons (tVar 0) (tCons (tVar 1) (tCons (tVar 2) (tCons (tVar 3) (tCons (tVar 4) tNil))))))) tNext)
  (tSeq (tIfS (tTest (tOp (cEq K) (tVar 5) (tC (.str (tx [110,111,115,113,117,97,114,101]))))) (tRet (tMake (c.A .NoSquare) (aq K c) [] E0 (tCons (tVar 0) (tCons (tVar 1) (tCons (tVar 2) (tCons (tVar 3) (tCons (tVar 4) tNil))))))) tNext)
  (tSeq (tIfS (tTest (tOp (cEq K) (tVar 5) (tC (.str (tx [114,105,110,103]))))) (tRet (tMake (c.A .Ring) (aq K c) [] E0 (tCons (tVar 0) (tCons (tVar 1) (tCons (tVar 2) (tCons (tVar 3) (tCons (tVar 4) tNil))))))) tNext)
  dz)))))))))
theorem zr {K:PySem.W.Frag} {c:RCl RK} {H:Hp} {Q:VK} {k:RK} {p W C:Addr} {ws:List (List Nat)} {cs:List Int} {n m:Int} (ok:c.ok k=true) (hW:H W=some (.lst ((ws.map tx).map V.str))) (hC:H C=some (.lst (cs.map V.int))) (q:∀ r H',Same H H'→H r=none→IsRule H' c k r p ws cs n m→Q (.ref r) H'):
  ∀ x dx,H x=none→H dx=none→dx≠x→aq K c (.ref x::([.ref p,.ref W,.ref C,.int n,.int m]++[])) (upd (upd H dx (.own x)) x (.ins (c.A k) dx [])) (fun v H2=>v=.non∧Q (.ref x) H2) E0:=by
 intro x dx hx hd ne
 refine ⟨k,x,dx,p,W,C,ws,cs,n,m,rfl,ok,ah,aG hW hx,aG hC hx,?_,?_,fun H' hs hr=>⟨rfl,q x H' (fun b o e=>hs b o (aG e hx) ?_) hx hr⟩⟩
 · rw [ar (aG hW hx),ar (aG hW hd)]; exact hW
 · rw [ar (aG hC hx),ar (aG hC hd)]; exact hC
 · rw [ar (aG e hx),ar (aG e hd)]; exact e
theorem vN {K:PySem.W.Frag} {c:RCl RK} {vs:List V} {H:Hp} {Q:VK} {E:XK} (h:dX K c vs H Q E):j2 K c { nx:=fun _ H'=>Q .non H',rt:=Q } (start ["floor","words","cells","amount","mark","name"] vs) H:=by
 obtain ⟨k,p,W,C,ws,cs,n,m,rfl,hk,ok,hW,hC,q⟩:=h
 have mk:=zr (K:=K) ok hW hC q
 have e0:atI (((nmC k::ws).map tx).map V.str) 0=some (V.str (tx (nmC k))):=gO (j:=0) rfl
 show j2 K c _ [some (.ref p),some (.ref W),some (.ref C),some (.int n),some (.int m),none] H
 unfold j2
 walk_at "w"
 refine ixL hW e0 ?_
 have D:∀ (l:List Nat) (t:TS) (u:TS) (D:Ends) (b:Bool),decide (nmC k=l)=b→(if b=true then t D [some (.ref p),some (.ref W),some (.ref C),some (.int n),some (.int m),some (.str (tx (nmC k)))] H else u D [some (.ref p),some (.ref W),some (.ref C),some (.int n),some (.int m),some (.str (tx (nmC k)))] H)→
   tIfS (tTest (tOp (cEq K) (tVar 5) (tC (.str (tx l))))) t u D [some (.ref p),some (.ref W),some (.ref C),some (.int n),some (.int m),some (.str (tx (nmC k)))] H:=fun l t u D b hb hq=>by
  rw [aL]
  walk_at "w"
  rw [e7,hb]
  exact hq
 have R:∀ (D:Ends),D.rt=Q→tRet (tMake (c.A k) (aq K c) [] E0 (tCons (tVar 0) (tCons (tVar 1) (tCons (tVar 2) (tCons (tVar 3) (tCons (tVar 4) tNil)))))) D [some (.ref p),some (.ref W),some (.ref C),some (.int n),some (.int m),some (.str (tx (nmC k)))] H:=fun D hD=>by
  walk_at "w"
  rw [hD]
  exact mk
 cases k with
 | Rule=>exact absurd rfl hk
 | Unlike=>exact D _ _ _ _ true (by decide) (iteT (R _ rfl))
 | Sum=>exact D _ _ _ _ false (by decide) (iteF (D _ _ _ _ true (by decide) (iteT (R _ rfl))))
 | Rising=>exact D _ _ _ _ false (by decide) (iteF (D _ _ _ _ false (by decide) (iteF (D _ _ _ _ true (by decide) (iteT (R _ rfl))))))
 | Seen=>exact D _ _ _ _ false (by decide) (iteF (D _ _ _ _ false (by decide) (iteF (D _ _ _ _ false (by decide) (iteF (D _ _ _ _ true (by decide) (iteT (R _ rfl))))))))
 | Count=>exact D _ _ _ _ false (by decide) (iteF (D _ _ _ _ false (by decide) (iteF (D _ _ _ _ false (by decide) (iteF (D _ _ _ _ false (by decide) (iteF (D _ _ _ _ true (by decide) (iteT (R _ rfl))))))))))
 | Joined=>exact D _ _ _ _ false (by decide) (iteF (D _ _ _ _ false (by decide) (iteF (D _ _ _ _ false (by decide) (iteF (D _ _ _ _ false (by decide) (iteF (D _ _ _ _ false (by decide) (iteF (D _ _ _ _ true (by decide) (iteT (R _ rfl))))))))))))
 | NoSquare=>exact D _ _ _ _ false (by decide) (iteF (D _ _ _ _ false (by decide) (iteF (D _ _ _ _ false (by decide) (iteF (D _ _ _ _ false (by decide) (iteF (D _ _ _ _ false (by decide) (iteF (D _ _ _ _ false (by decide) (iteF (D _ _ _ _ true (by decide) (iteT (R _ rfl))))))))))))))
 | Ring=>exact D _ _ _ _ false (by decide) (iteF (D _ _ _ _ false (by decide) (iteF (D _ _ _ _ false (by decide) (iteF (D _ _ _ _ false (by decide) (iteF (D _ _ _ _ false (by decide) (iteF (D _ _ _ _ false (by decide) (iteF (D _ _ _ _ false (by decide) (iteF (D _ _ _ _ true (by decide) (iteT (R _ rfl))))))))))))))))
def rowW (k:RK) (n m:Nat) (ns:List Nat):List (List Nat):=nmC k::((if numK k then [numC n] else [])++(if sgnK k then [numC m] else [])++ns.map numC)
structure sT (k:RK) (h w g:Int) (n m:Nat) (ns:List Nat) (cs:List Int):Prop where
 k0:k≠.Rule
 n0:n≤99
 nz:numK k=false→n=0
 m0:sgnK k=true→1≤(m:Int)∧(m:Int)≤g
 mz:sgnK k=false→m=0
 cl:qy k h w ns cs
 ns0:∀ x∈ns,x < 100
 len:ns.length≤16
def cV (K:PySem.W.Frag) (c:RCl RK):Sp:=fun vs H Q _=>∃ (k:RK) (p:Addr) (h w g:Int) (n m:Nat) (ns:List Nat) (cs:List Int),vs=[.ref p,.str (tx (catL 32 (rowW k n m ns)))]∧IsFl H p h w g∧FlOk h w g∧sT k h w g n m ns cs∧c.ok k=true∧
 ∀ r H',Same H H'→H r=none→IsRule H' c k r p (rowW k n m ns) cs n m→Q (.ref r) H'
theorem sU {K:PySem.W.Frag} {c:RCl RK} {vs:List V} {H:Hp} {Q:VK} {E:XK} (h:cV K c vs H Q E):vs.length=2:=by
 obtain ⟨_,_,_,_,_,_,_,_,_,rfl,_⟩:=h; rfl
def fZ (K:PySem.W.Frag) (c:RCl RK):TS:=
 (tRet (tCall (dX K c) [] E0 (tCons (tVar 0) (tCons (tVar 2) (tCons (tCall (dm K) [] E0 (tCons (tVar 0) (tCons (tVar 3) (tCons (tVar 4) tNil)))) (tCons (tVar 5) (tCons (tVar 6) tNil)))))))
def iQ (K:PySem.W.Frag) (c:RCl RK):TS:=
 (tSeq (tAsg (tOp cIx (tVar 2) (tC (.int 0))) (gName 3))
  (tSeq (tAsg (tSl nN (tVar 2) (tPart (tC (.int 1))) j9) (gName 4))
  (tSeq (tAsg (tC (.int 0)) (gName 5))
  (tSeq (tAsg (tC (.int 0)) (gName 6))
  (tSeq (tIfS (tB (tInG e9 false (tVar 3))) (tSeq (tAsg (tCall (bj K) [] E0 (tCons (tVar 4) (tCons (tC (.int 0)) (tCons (tC (.int 99)) tNil)))) (gName 5))
  (tAsg (tSl nN (tVar 4) (tPart (tC (.int 1))) j9) (gName 4))) tNext)
  (tSeq (tIfS (tB (tInG fb false (tVar 3))) (tSeq (tAsg (tCall (bj K) [] E0 (tCons (tVar 4) (tCons (tC (.int 1)) (tCons (tOp cIx (tVar 0) (tC (.int 2))) tNil)))) (gName 6))
  (tAsg (tSl nN (tVar 4) (tPart (tC (.int 1))) j9) (gName 4))) tNext)
  (fZ K c)))))))
def iR (K:PySem.W.Frag) (c:RCl RK):TS:=
 (tSeq (tIfS (tNot (tB (tCB kIsi (tCons (tVar 1) (tCons (tC (.ty "str")) tNil))))) dz tNext)
  (tSeq (tAsg (tBM K "str" oT (tVar 1) (tCons (tC (.str (tx [32]))) tNil)) (gName 2))
  (iQ K c)))
theorem zt (k:RK):32∉nmC k:=by cases k <;> decide
theorem xD {k:RK} {n m:Nat} {ns:List Nat} (hn:n < 100) (hm:m < 100) (hs:∀ x∈ns,x < 100):∀ r∈rowW k n m ns,32∉r:=by
 intro r hr
 unfold rowW at hr
 rcases List.mem_cons.mp hr with rfl | hr
 · exact zt k
 rcases List.mem_append.mp hr with hr | hr
 · rcases List.mem_append.mp hr with hr | hr
   · split at hr
     · rw [List.mem_singleton.mp hr]; exact nR hn
     · cases hr
   · split at hr
     · rw [List.mem_singleton.mp hr]; exact nR hm
     · cases hr
 · obtain ⟨x,hx,rfl⟩:=List.mem_map.mp hr
   exact nR (hs x hx)
theorem yC (xs:List V):cutV xs (some 1) none=xs.drop 1:=by
 unfold cutV
 have h1:HT.sIx xs.length 0 (some 1)=min 1 xs.length:=HT.sIx_nat ..
 have h2:HT.sIx xs.length xs.length none=xs.length:=rfl
 rw [h1,h2]
 cases xs with
 | nil=>rfl
 | cons x r=>
  have:min 1 (x::r).length=1:=by simp
  rw [this]
  show (r).take _=r
  rw [List.take_of_length_le (by simp)]
theorem kH {K:PySem.W.Frag} {c:RCl RK} {H:Hp} {Q:VK} {k:RK} {p W R:Addr} {h w g:Int} {n m:Nat} {ws:List (List Nat)} {ns:List Nat} {cs:List Int} {lv:V} (F:FlOk h w g) (ha:IsFl H p h w g) (hW:H W=some (.lst (((nmC k::ws).map tx).map V.str))) (hR:H R=some (.lst (((ns.map numC).map tx).map V.str))) (hc:qy k h w ns cs) (hn:∀ x∈ns,x < 100) (k0:k≠.Rule) (ok:c.ok k=true)
  (q:∀ r H',Same H H'→H r=none→IsRule H' c k r p (nmC k::ws) cs n m→Q (.ref r) H'):
  fZ K c { nx:=fun _ H'=>Q .non H',rt:=Q } [some (.ref p),some lv,some (.ref W),some (.str (tx (nmC k))),some (.ref R),some (.int n),some (.int m)] H:=by
 unfold fZ
 walk_at "w"
 refine ⟨k,p,R,h,w,g,ns,cs,rfl,ha,F,hR,hc,hn,fun l H1 s1 hl el=>?_⟩
 walk_at "w"
 exact ⟨k,p,W,l,ws,cs,n,m,rfl,k0,ok,s1 _ _ hW,el,fun r H2 s2 hr x=>q r H2 (s1.trans s2) (s1.free hr) x⟩
theorem uu {k:RK} {n m:Nat} {ns:List Nat} (h:ns.length≤16):(rowW k n m ns).length≤100∧∀ w∈rowW k n m ns,w.length≤100:=by
 unfold rowW
 refine ⟨?_,fun w hw=>?_⟩
 · simp only [List.length_cons,List.length_append,List.length_map]
   split <;> split <;> simp <;> omega
 · rcases List.mem_cons.mp hw with rfl | hw
   · cases k <;> decide
   have h2:∀ x,(numC x).length≤100:=fun x=>Nat.le_trans jk (by decide)
   rcases List.mem_append.mp hw with hw | hw
   · rcases List.mem_append.mp hw with hw | hw
     · split at hw
       · rw [List.mem_singleton.mp hw]; exact h2 _
       · cases hw
     · split at hw
       · rw [List.mem_singleton.mp hw]; exact h2 _
       · cases hw
   · obtain ⟨x,hx,rfl⟩:=List.mem_map.mp hw
     exact h2 _
theorem o8:∀ (rows:List (List Nat)),(∀ r∈rows,r.length≤100)→(catL 32 rows).length≤101*rows.length
 | [],_=>Nat.zero_le _
 | [x],h=>by
  have:=h x List.mem_cons_self
  show x.length≤101*1
  omega
 | x::y::r,h=>by
  have h1:=h x List.mem_cons_self
  have ih:=o8 (y::r) fun z hz=>h z (List.mem_cons_of_mem _ hz)
  have e:catL 32 (x::y::r)=x++32::catL 32 (y::r):=by first | rfl | simp [catL]
  rw [e,List.length_append,List.length_cons,List.length_cons]
  omega
theorem qz {H:Hp} {Q:VK} {p:Addr} {x:Str} {xs:List Str} (hp:H p=some (.lst ((x::xs).map V.str))) (q:∀ l,H l=none→Q (.ref l) (upd H l (.lst (xs.map V.str)))):nN (.ref p) (some 1) none H Q:=by
 refine AO hp fun l hl=>?_
 rw [yC]
 exact q l hl
theorem o9 {K:PySem.W.Frag} {c:RCl RK} {H:Hp} {Q:VK} {k:RK} {p W:Addr} {h w g:Int} {n m:Nat} {ns:List Nat} {cs:List Int} {lv:V} (F:FlOk h w g) (ha:IsFl H p h w g) (hW:H W=some (.lst (((rowW k n m ns).map tx).map V.str))) (O:sT k h w g n m ns cs) (ok:c.ok k=true)
  (q:∀ r H',Same H H'→H r=none→IsRule H' c k r p (rowW k n m ns) cs n m→Q (.ref r) H'):
  iQ K c { nx:=fun _ H'=>Q .non H',rt:=Q } [some (.ref p),some lv,some (.ref W),none,none,none,none] H:=by
 obtain ⟨k0,n0,nz,m0,mz,cl,ns0,len⟩:=O
 obtain ⟨h0,h1,w0,w1,m16,g0,g1⟩:=id F
 have e0:atI (((rowW k n m ns).map tx).map V.str) 0=some (V.str (tx (nmC k))):=gO (j:=0) rfl
 have hns:WOk (ns.map numC):=fun v hv=>by obtain ⟨x,hx,rfl⟩:=List.mem_map.mp hv; exact qw (ns0 x hx)
 unfold iQ
 walk_at "w"
 refine ixL hW e0 ?_
 walk_at "w"
 refine qz hW fun R hR=>?_
 have s1:Same H (upd H R (.lst ((((if numK k then [numC n] else [])++(if sgnK k then [numC m] else [])++ns.map numC).map tx).map V.str))):=(Same.refl H).laid hR
 have eR:(upd H R (.lst ((((if numK k then [numC n] else [])++(if sgnK k then [numC m] else [])++ns.map numC).map tx).map V.str))) R=some (.lst ((((if numK k then [numC n] else [])++(if sgnK k then [numC m] else [])++ns.map numC).map tx).map V.str)):=ah
 generalize upd H R (.lst ((((if numK k then [numC n] else [])++(if sgnK k then [numC m] else [])++ns.map numC).map tx).map V.str))=H1 at*
 walk_at "w"
 have two:∀ {H2:Hp} {R2:Addr},Same H H2→H2 R2=some (.lst ((((if sgnK k then [numC m] else [])++ns.map numC).map tx).map V.str))→
   tSeq (tIfS (tB (tInG fb false (tVar 3))) (tSeq (tAsg (tCall (bj K) [] E0 (tCons (tVar 4) (tCons (tC (.int 1)) (tCons (tOp cIx (tVar 0) (tC (.int 2))) tNil)))) (gName 6)) (tAsg (tSl nN (tVar 4) (tPart (tC (.int 1))) j9) (gName 4))) tNext) (fZ K c) { nx:=fun _ H'=>Q .non H',rt:=Q }
    [some (.ref p),some lv,some (.ref W),some (.str (tx (nmC k))),some (.ref R2),some (.int n),some (.int 0)] H2:=by
  intro H2 R2 s2 eR2
  rw [aV,aL]
  walk_at "w"
  rw [Am]
  cases hs:sgnK k with
  | false=>
   rw [hs] at eR2
   have:=mz hs
   subst this
   walk_at "w"
   exact kH F (s2 _ _ ha) (s2 _ _ hW) eR2 cl ns0 k0 ok fun r H3 s3 hr x=>q r H3 (s2.trans s3) (s2.free hr) x
  | true=>
   rw [hs] at eR2
   have hm:=m0 hs
   walk_at "w"
   refine ixT (s2 _ _ ha) (v:=V.int g) rfl ?_
   walk_at "w"
   refine ⟨R2,m,ns.map numC,1,g,rfl,eR2,by omega,hns,hm.1,hm.2,fun H3 s3=>?_⟩
   walk_at "w"
   refine qz (s3 _ _ eR2) fun R3 hR3=>?_
   have s4:Same H3 (upd H3 R3 (.lst (((ns.map numC).map tx).map V.str))):=(Same.refl H3).laid hR3
   have s24:=(s2.trans s3).trans s4
   exact kH F (s24 _ _ ha) (s24 _ _ hW) ah cl ns0 k0 ok fun r H5 s5 hr x=>q r H5 (s24.trans s5) (s24.free hr) x
 rw [aL]
 walk_at "w"
 rw [Al]
 cases hn:numK k with
 | false=>
  rw [hn] at eR
  have:=nz hn
  subst this
  walk_at "w"
  exact two s1 eR
 | true=>
  rw [hn] at eR
  walk_at "w"
  refine ⟨R,n,(if sgnK k then [numC m] else [])++ns.map numC,0,99,rfl,eR,by omega,?_,by omega,by omega,fun H3 s3=>?_⟩
  · intro v hv
    rcases List.mem_append.mp hv with hv | hv
    · split at hv
      · rename_i hs
        have:=m0 hs
        rw [List.mem_singleton.mp hv]; exact qw (by omega)
      · cases hv
    · exact hns v hv
  walk_at "w"
  refine qz (s3 _ _ eR) fun R3 hR3=>?_
  have s4:Same H3 (upd H3 R3 (.lst ((((if sgnK k then [numC m] else [])++ns.map numC).map tx).map V.str))):=(Same.refl H3).laid hR3
  walk_at "w"
  exact two ((s1.trans s3).trans s4) ah
theorem sV {K:PySem.W.Frag} {c:RCl RK} {vs:List V} {H:Hp} {Q:VK} {E:XK} (h:cV K c vs H Q E):iR K c { nx:=fun _ H'=>Q .non H',rt:=Q } (start ["floor","line","words","name","rest","amount","mark"] vs) H:=by
 obtain ⟨k,p,h,w,g,n,m,ns,cs,rfl,ha,F,O,ok,q⟩:=h
 have hm:m < 100:=by
  by_cases hs:sgnK k=true
  · have:=(O.m0 hs).2
    have:=F.g1
    omega
  · have:=O.mz (by simpa using hs)
    omega
 have hsp:Txt.split (tx (catL 32 (rowW k n m ns))) (tx [32])=(rowW k n m ns).map tx:=yy (by simp [rowW]) (xD (by have:=O.n0; omega) hm O.ns0)
 have hl:=uu (k:=k) (n:=n) (m:=m) O.len
 have hl2:=o8 _ hl.2
 show iR K c _ [some (.ref p),some (.str (tx (catL 32 (rowW k n m ns)))),none,none,none,none,none] H
 unfold iR
 rw [aV,aL]
 walk_at "w"
 refine ⟨yY,?_⟩
 rw [zi,hsp]
 refine ⟨by rw [gz]; decide,by rw [gz]; exact Nat.le_of_lt (Nat.lt_of_le_of_lt hl2 (Nat.lt_of_le_of_lt (Nat.mul_le_mul_left 101 hl.1) (by decide))),by rw [List.length_map]; exact aE (by omega),fun W hW=>?_⟩
 have s1:Same H (upd H W (.lst (((rowW k n m ns).map tx).map V.str))):=(Same.refl H).laid hW
 exact o9 F (s1 _ _ ha) ah O ok fun r H2 s2 hr x=>q r H2 (s1.trans s2) (s1.free hr) x
theorem qU {α β:Type} (f:α→β):∀ (l:List α) (j:Nat),(l.map f).eraseIdx j=(l.eraseIdx j).map f
 | [],_=>rfl
 | _::_,0=>rfl
 | x::r,j+1=>by
  show f x::(r.map f).eraseIdx j=f x::(r.eraseIdx j).map f
  rw [qU f r j]
theorem pb {α:Type}:∀ (l:List α) (j:Nat) (h:j < l.length),(l[j]::l.eraseIdx j).Perm l
 | [],_,h=>absurd h (by simp)
 | x::r,0,_=>List.Perm.refl _
 | x::r,j+1,h=>by
  have hj:j < r.length:=by simpa using h
  have ih:=pb r j hj
  show (r[j]::x::r.eraseIdx j).Perm (x::r)
  exact (List.Perm.swap x r[j] (r.eraseIdx j)).trans (List.Perm.cons x ih)
theorem mr {α β:Type} (f:α→β):∀ {l:List α},(l.map f).Nodup→l.Nodup
 | [],_=>List.nodup_nil
 | a::r,h=>by
  rw [List.map_cons,List.nodup_cons] at h
  rw [List.nodup_cons]
  exact ⟨fun z=>h.1 (List.mem_map.mpr ⟨a,z,rfl⟩),mr f h.2⟩
theorem xE (n:Int):(rngL 0 n).Nodup:=by
 unfold rngL
 have e:(List.range (n - 0).toNat).map (fun (k:Nat)=>0+(k:Int))=(List.range (n - 0).toNat).map fun (k:Nat)=>(k:Int):=List.map_congr_left fun k _=>by omega
 rw [e]
 exact o7 List.nodup_range
theorem vb {n x:Int} (h:x∈rngL 0 n):0≤x∧x < n:=by
 unfold rngL at h
 obtain ⟨k,hk,rfl⟩:=List.mem_map.mp h
 have:=List.mem_range.mp hk
 omega
theorem uv (xs:List Int) (i:Nat) (y:Int):(xs.map V.int).set i (.int y)=(xs.set i y).map V.int:=by rw [List.map_set]
theorem m4 {n:Nat} (h:n < 100):((n:Int)).natAbs.log2 < 1920:=by
 have t:((List.range 100).all fun n=>decide (n.log2 < 1920))=true:=by decide+kernel
 have:=List.all_eq_true.mp t n (List.mem_range.mpr h)
 simpa using this
theorem zu {H:Hp} {Q:VK} {n:Nat} (h:n < 100) (q:Q (.str (tx (numC n))) H):kStr [.int (n:Int)] H Q:=by
 refine ⟨m4 h,?_⟩
 rw [m3 h]
 exact q
theorem xF {K:PySem.W.Frag} {H:Hp} {C:Addr} {cs:List Nat} {fin:Addr→Hp→Prop} (hC:H C=some (.lst ((cs.map fun (n:Nat)=>(n:Int)).map V.int))) (hl:cs.length≤100) (hc:∀ c∈cs,c < 100)
  (hd:∀ l H',H l=none→Same H H'→H' l=some (.lst (((cs.map numC).map tx).map V.str))→fin l H'):CompR (Itl K C) (gName 1) tTrue (tCB kStr (tCons (tVar 1) tNil)) fin [none,none] H:=by
 refine ft (xs:=(cs.map fun (n:Nat)=>(n:Int)).map V.int) (fun _=>true) (fun i=>.str (tx (numC (cs.getD i 0)))) (by simp; omega) (SqL.of hC) ?_ ?_ ?_
 · intro i x H1 R hx s1 k1
   exact k1 _ (Same.refl _)
 · intro i x H1 Q1 hx hb s1 k1
   rw [List.getElem?_map,List.getElem?_map] at hx
   cases e:cs[i]? with
   | none=>rw [e] at hx; cases hx
   | some n=>
    rw [e] at hx
    cases hx
    show tCB kStr _ [none,some (.int (n:Int))] H1 Q1
    walk_at "w"
    have q1:=k1 _ (Same.refl H1)
    have eg:cs.getD i 0=n:=by rw [List.getD,e]; rfl
    rw [eg] at q1
    have:=zu (H:=H1) (Q:=Q1) (hc n (List.mem_of_getElem? e)) q1
    exact this
 · intro l H1 hl1 s1 el
   refine hd l H1 hl1 s1 ?_
   rw [el,gy,List.length_map,List.length_map,List.map_map,List.map_map]
   congr 2
   refine List.ext_getElem? fun i=>?_
   rw [List.getElem?_map,List.getElem?_map]
   by_cases h:i < cs.length
   · rw [List.getElem?_range h,List.getElem?_eq_getElem h]
     simp [List.getD,h]
   · rw [List.getElem?_eq_none (by simpa using h),List.getElem?_eq_none (by omega)]; rfl
theorem nZ {c:Nat} {x:List Nat}:∀ {rs:List (List Nat)},rs≠[]→catL c (x::rs)=x++c::catL c rs
 | [],h=>absurd rfl h
 | y::r,_=>by first | rfl | simp [catL]
end L2
namespace L2
open PySem PySem.Spec PyProof.Rows
section
variable {X:Cx} {a:Expr} {ta:TE} {pos p:Pos} {x:Str} {ws:List Str}
theorem pc (G:GTup X.K X.mg x ws) (ha:PE X a ta) (hg:Gl X x) (hdb:(x==("__debug__":Str))=false:=by decide) (hm:behindInMarks .In (.Name x p)=false:=by with_unfolding_all rfl):PT X (.Compare a [.In] [.Name x p] pos) (tB (tInG ws false ta)):=by
 obtain ⟨q,o,its,n,h1,h2⟩:=G.ex
 have h0:=ap (pos:=pos) (Af ⟨o,its,n,h2⟩) ha (eJ (v:=V.ref q) hg h1 rfl hdb) hm
 intro pins s σ H Q I h
 refine h0 pins s σ H Q I ?_
 have e:(fun (x:V) (H1:Hp)=>∃ z,x=.str z∧∃ k,V.bl (if false=true then !decide (z∈ws) else decide (z∈ws))=.bl k∧Q k H1)=fun x H1=>∃ z,x=.str z∧(V.ref q=V.ref q)∧∃ k,V.bl (decide (z∈ws))=.bl k∧Q k H1:=by
  funext x H1; simp
 have h':ta σ H (fun (x:V) (H1:Hp)=>∃ z,x=.str z∧∃ k,V.bl (if false=true then !decide (z∈ws) else decide (z∈ws))=.bl k∧Q k H1):=h
 rw [e] at h'
 exact h'
theorem vc (G:GTup X.K X.mg x ws) (ha:PE X a ta) (hg:Gl X x) (hdb:(x==("__debug__":Str))=false:=by decide) (hm:behindInMarks .NotIn (.Name x p)=false:=by with_unfolding_all rfl):PT X (.Compare a [.NotIn] [.Name x p] pos) (tB (tInG ws true ta)):=by
 obtain ⟨q,o,its,n,h1,h2⟩:=G.ex
 have h0:=ap (pos:=pos) (zk ⟨o,its,n,h2⟩) ha (eJ (v:=V.ref q) hg h1 rfl hdb) hm
 intro pins s σ H Q I h
 refine h0 pins s σ H Q I ?_
 have e:(fun (x:V) (H1:Hp)=>∃ z,x=.str z∧∃ k,V.bl (if true=true then !decide (z∈ws) else decide (z∈ws))=.bl k∧Q k H1)=fun x H1=>∃ z,x=.str z∧(V.ref q=V.ref q)∧∃ k,V.bl (!decide (z∈ws))=.bl k∧Q k H1:=by
  funext x H1; simp
 have h':ta σ H (fun (x:V) (H1:Hp)=>∃ z,x=.str z∧∃ k,V.bl (if true=true then !decide (z∈ws) else decide (z∈ws))=.bl k∧Q k H1):=h
 rw [e] at h'
 exact h'
end
end L2
namespace L2
open PySem PySem.Spec PyProof.Rows
local macro_rules | `(tactic| walk_at "w")=>`(tactic| (first | simp only [aV,mj,o1,kn,mq,lb,lc,o4,oY,mh,oZ,if_true,if_false,Bool.false_eq_true,decide_true,decide_false,kc,ke,mY,jc,ij,ka,kX,kb,jb,kU,kW,ja,mV,jd,je,jg,jh,ji,jj,jf,kY,kZ,la,kS,mX,Bool.not_true,Bool.not_false,gT,g7,db,jn,w_c,lq,ip,iq,gU,iu,w_b,w_not,jD,lr,iw,iy,jE,jo,gW,lu,iz,jF,jG,kN,jH,iA,iB,iC,iD,gP,gQ,e6,fj,fk,dS,jI,jJ,jK,jL,jM,jN,jO,jP,jQ,jR,jS,jT,lx,iE,fm,iF,ly,iG,gR,fq,jU,jV,iH,gX,iI,
 List.getElem?_cons_zero,List.getElem?_cons_succ,Option.some.injEq,exists_eq_left',exists_eq_left,List.set_cons_zero,List.set_cons_succ,d6,V.int.injEq,V.bl.injEq,V.ref.injEq,V.str.injEq,List.append_nil,List.nil_append,List.cons_append] | dsimp only | skip))
inductive PzK where
 | Puzzle
 deriving DecidableEq
structure RR where
 k:RK
 n:Nat
 m:Nat
 ns:List Nat
 cs:List Int
def RR.ws (r:RR):List (List Nat):=rowW r.k r.n r.m r.ns
def RR.txt (r:RR):Str:=tx (catL 32 r.ws)
def RR.Ok (r:RR) (h w g:Int):Prop:=sT r.k h w g r.n r.m r.ns r.cs
structure IsRules (H:Hp) (c:RCl RK) (p L:Addr) (rs:List Addr) (rows:List RR):Prop where
 top:H L=some (.lst (rs.map V.ref))
 len:rs.length=rows.length
 at_:∀ (i:Nat) (r:Addr) (x:RR),rs[i]? =some r→rows[i]? =some x→IsRule H c x.k r p x.ws x.cs x.n x.m
theorem IsRules.same {H H':Hp} {c:RCl RK} {p L:Addr} {rs:List Addr} {rows:List RR} (x:IsRules H c p L rs rows) (s:Same H H'):IsRules H' c p L rs rows:=
 ⟨s _ _ x.top,x.len,fun i r y h1 h2=>(x.at_ i r y h1 h2).same s⟩
theorem IsRule.lst {H:Hp} {c:RCl RK} {k:RK} {r p a:Addr} {ws:List (List Nat)} {cs:List Int} {n m:Int} {xs:List V} {o:HO} (x:IsRule H c k r p ws cs n m) (ha:H a=some (.lst xs)):IsRule (upd H a o) c k r p ws cs n m:=by
 obtain ⟨dx,W,C,h1,h2,h3⟩:=x.ex
 refine ⟨x.ok,dx,W,C,?_,?_,?_⟩
 · rw [ar (fun e=>by rw [e,ha] at h1; cases h1)]; exact h1
 · rw [ar (fun e=>by rw [e,ha] at h2; cases h2)]; exact h2
 · rw [ar (fun e=>by rw [e,ha] at h3; cases h3)]; exact h3
def pFs (p L G:Addr):List (Str × V):=[("floor",.ref p),("laws",.ref L),("given",.ref G)]
structure ko (c:RCl RK) (h w g:Int) (rows:List RR):Prop where
 F:FlOk h w g
 n:rows.length≤12
 ok:∀ r∈rows,r.Ok h w g
 c:∀ r∈rows,c.ok r.k=true
structure CluesOk (h w g:Int) (cl:List Int):Prop where
 len:cl.length=(h*w).toNat
 ok:∀ x∈cl,0≤x∧x≤g
structure IsPz (H:Hp) (c:RCl RK) (d:RCl PzK) (P L G:Addr) (h w g:Int) (rows:List RR) (cl:List Int):Prop where
 ok:d.ok .Puzzle=true
 R:ko c h w g rows
 C:CluesOk h w g cl
 gv:H G=some (.lst (cl.map V.int))
 ex:∃ dx p rs,H P=some (.ins (d.A .Puzzle) dx (pFs p L G))∧IsFl H p h w g∧IsRules H c p L rs rows
theorem IsPz.same {H H':Hp} {c:RCl RK} {d:RCl PzK} {P L G:Addr} {h w g:Int} {rows:List RR} {cl:List Int} (x:IsPz H c d P L G h w g rows cl) (s:Same H H'):IsPz H' c d P L G h w g rows cl:=by
 obtain ⟨dx,p,rs,h1,h2,h3⟩:=x.ex
 exact ⟨x.ok,x.R,x.C,s _ _ x.gv,dx,p,rs,s _ _ h1,s _ _ h2,h3.same s⟩
def aQ (K:PySem.W.Frag):Sp:=fun vs H Q _=>∃ i:Int,vs=[.int i]∧Q (.bl true) H
theorem uw {K:PySem.W.Frag} {vs:List V} {H:Hp} {Q:VK} {E:XK} (h:aQ K vs H Q E):vs.length=1:=by
 obtain ⟨_,rfl,_⟩:=h; rfl
def js (K:PySem.W.Frag):TS:=
 (tRet (tAndV (tCB kIsi (tCons (tVar 0) (tCons (tC (.ty "int")) tNil))) (tNotV (tCB kIsi (tCons (tVar 0) (tCons (tC (.ty "bool")) tNil))))))
theorem ux {K:PySem.W.Frag} {vs:List V} {H:Hp} {Q:VK} {E:XK} (h:aQ K vs H Q E):js K { nx:=fun _ H'=>Q .non H',rt:=Q } (start ["value"] vs) H:=by
 obtain ⟨i,rfl,q⟩:=h
 show js K _ [some (.int i)] H
 unfold js
 walk_at "w"
 exact q
def aP (K:PySem.W.Frag):Sp:=fun vs H Q _=>∃ i m:Int,vs=[.int i,.int m]∧Q (.bl (decide (1≤i)&&decide (i≤m))) H
theorem m7 {K:PySem.W.Frag} {vs:List V} {H:Hp} {Q:VK} {E:XK} (h:aP K vs H Q E):vs.length=2:=by
 obtain ⟨_,_,rfl,_⟩:=h; rfl
def eE (K:PySem.W.Frag):TS:=
 (tRet (tAndV (tCall (aQ K) [] E0 (tCons (tVar 0) tNil)) (tAndV (tOp (cCmp fun i j=>decide (i≤j)) (tC (.int 1)) (tVar 0)) (tOp (cCmp fun i j=>decide (i≤j)) (tVar 0) (tVar 1)))))
theorem m8 {K:PySem.W.Frag} {vs:List V} {H:Hp} {Q:VK} {E:XK} (h:aP K vs H Q E):eE K { nx:=fun _ H'=>Q .non H',rt:=Q } (start ["value","most"] vs) H:=by
 obtain ⟨i,m,rfl,q⟩:=h
 show eE K _ [some (.int i),some (.int m)] H
 unfold eE
 walk_at "w"
 refine ⟨i,rfl,⟨true,rfl,iteT ?_⟩⟩
 walk_at "w"
 cases hb:decide (1≤i) with
 | false=>
  rw [hb,Bool.false_and] at q
  exact iteF q
 | true=>
  rw [hb,Bool.true_and] at q
  exact iteT q
def dn (K:PySem.W.Frag):Sp:=fun vs H Q _=>∃ h w g:Int,vs=[.int h,.int w,.int g]∧FlOk h w g∧∀ p,H p=none→Q (.ref p) (upd H p (.tup [.int h,.int w,.int g]))
theorem uy {K:PySem.W.Frag} {vs:List V} {H:Hp} {Q:VK} {E:XK} (h:dn K vs H Q E):vs.length=3:=by
 obtain ⟨_,_,_,rfl,_⟩:=h; rfl
def jt (K:PySem.W.Frag):TS:=
 (tSeq (tIfS (tNot (tB (tCall (aP K) [] E0 (tCons (tVar 0) (tCons (tC (.int 6)) tNil))))) dz tNext)
  (tSeq (tIfS (tNot (tB (tCall (aP K) [] E0 (tCons (tVar 1) (tCons (tC (.int 6)) tNil))))) dz tNext)
  (tSeq (tIfS (tTest (tOp (cCmp fun i j=>decide (j < i)) (tOp cMul (tVar 0) (tVar 1)) (tC (.int 16)))) dz tNext)
  (tSeq (tIfS (tNot (tB (tCall (aP K) [] E0 (tCons (tVar 2) (tCons (tC (.int 6)) tNil))))) dz tNext)
  (tRet (tTup (tCons (tVar 0) (tCons (tVar 1) (tCons (tVar 2) tNil)))))))))
theorem uz {K:PySem.W.Frag} {vs:List V} {H:Hp} {Q:VK} {E:XK} (h:dn K vs H Q E):jt K { nx:=fun _ H'=>Q .non H',rt:=Q } (start ["high","wide","signs"] vs) H:=by
 obtain ⟨h,w,g,rfl,F,q⟩:=h
 obtain ⟨h0,h1,w0,w1,m16,g0,g1⟩:=id F
 show jt K _ [some (.int h),some (.int w),some (.int g)] H
 unfold jt
 rw [aV,aL]
 walk_at "w"
 refine ⟨h,6,rfl,⟨_,rfl,?_⟩⟩
 rw [decide_eq_true h0,decide_eq_true h1,Bool.and_self]
 refine iteF ?_
 rw [aL]
 walk_at "w"
 refine ⟨w,6,rfl,⟨_,rfl,?_⟩⟩
 rw [decide_eq_true w0,decide_eq_true w1,Bool.and_self]
 refine iteF ?_
 rw [aL]
 walk_at "w"
 refine ⟨ii h0 h1,?_⟩
 rw [decide_eq_false (show ¬ (16:Int) < h*w by omega)]
 refine iteF ?_
 rw [aL]
 walk_at "w"
 refine ⟨g,6,rfl,⟨_,rfl,?_⟩⟩
 rw [decide_eq_true g0,decide_eq_true g1,Bool.and_self]
 refine iteF ?_
 walk_at "w"
 exact ⟨aE (by show (3:Nat)≤1000; decide),q⟩
def bU (K:PySem.W.Frag):Sp:=fun vs H Q _=>∃ (p:Addr) (h w g:Int),vs=[.ref p]∧IsFl H p h w g∧FlOk h w g∧∀ p,H p=none→Q (.ref p) (upd H p (.tup [.int h,.int w,.int g]))
theorem n5 {K:PySem.W.Frag} {vs:List V} {H:Hp} {Q:VK} {E:XK} (h:bU K vs H Q E):vs.length=1:=by
 obtain ⟨_,_,_,_,rfl,_⟩:=h; rfl
def fw (K:PySem.W.Frag):TS:=
 (tSeq (tIfS (tOr (tNot (tB (tCB kIsi (tCons (tVar 0) (tCons (tC (.ty "tuple")) tNil))))) (tTest (tOp (cNe K) (tCB kLen (tCons (tVar 0) tNil)) (tC (.int 3))))) dz tNext)
  (tRet (tCall (dn K) [] E0 (tCons (tOp cIx (tVar 0) (tC (.int 0))) (tCons (tOp cIx (tVar 0) (tC (.int 1))) (tCons (tOp cIx (tVar 0) (tC (.int 2))) tNil))))))
theorem n6 {K:PySem.W.Frag} {vs:List V} {H:Hp} {Q:VK} {E:XK} (h:bU K vs H Q E):fw K { nx:=fun _ H'=>Q .non H',rt:=Q } (start ["floor"] vs) H:=by
 obtain ⟨p,h,w,g,rfl,hp,F,q⟩:=h
 show fw K _ [some (.ref p)] H
 unfold fw
 rw [aV,aL]
 walk_at "w"
 refine xv hp ?_
 walk_at "w"
 rw [xk hp,show (([V.int h,V.int w,V.int g]:List V).length:Int)=3 from rfl]
 walk_at "w"
 refine ixT hp (v:=V.int h) rfl ?_
 walk_at "w"
 refine ixT hp (v:=V.int w) rfl ?_
 walk_at "w"
 refine ixT hp (v:=V.int g) rfl ?_
 walk_at "w"
 exact ⟨h,w,g,rfl,F,q⟩
def de (K:PySem.W.Frag) (c:RCl RK):Sp:=fun vs H Q _=>∃ (p a:Addr) (h w g:Int) (rows:List RR),vs=[.ref p,.ref a]∧IsFl H p h w g∧H a=some (.lst ((rows.map RR.txt).map V.str))∧ko c h w g rows∧
 ∀ l rs H',Same H H'→H l=none→IsRules H' c p l rs rows→Q (.ref l) H'
theorem rl {K:PySem.W.Frag} {c:RCl RK} {vs:List V} {H:Hp} {Q:VK} {E:XK} (h:de K c vs H Q E):vs.length=2:=by
 obtain ⟨_,_,_,_,_,_,rfl,_⟩:=h; rfl
def hV (K:PySem.W.Frag) (c:RCl RK):TS:=
 (tSeq (tIfS (tTest (tOp (cCmp fun i j=>decide (j < i)) (tCB kLen (tCons (tVar 1) tNil)) (tC (.int 12)))) dz tNext)
  (tRet (tComp [none,none,some 0] (iList K (tVar 1)) (gName 1) tTrue (tCall (cV K c) [] E0 (tCons (tVar 2) (tCons (tVar 1) tNil))))))
theorem rm {K:PySem.W.Frag} {c:RCl RK} {vs:List V} {H:Hp} {Q:VK} {E:XK} (h:de K c vs H Q E):hV K c { nx:=fun _ H'=>Q .non H',rt:=Q } (start ["floor","lines"] vs) H:=by
 obtain ⟨p,a,h,w,g,rows,rfl,hp,ha,O,q⟩:=h
 have hn:=O.n
 show hV K c _ [some (.ref p),some (.ref a)] H
 unfold hV
 rw [aV,aL]
 walk_at "w"
 rw [bv ha,List.length_map,List.length_map]
 walk_at "w"
 rw [decide_eq_false (show ¬ (12:Int) < (rows.length:Nat) by omega)]
 refine iteF ?_
 walk_at "w"
 refine ⟨⟨_,SqL.of ha⟩,?_⟩
 refine qP (xs:=(rows.map RR.txt).map V.str) (fun l i σ H'=>(∃ cv,σ=[none,cv,some (.ref p)])∧Same H H'∧∃ rs:List Addr,H' l=some (.lst (rs.map V.ref))∧rs.length=i∧∀ (j:Nat) (r:Addr) (x:RR),rs[j]? =some r→rows[j]? =some x→IsRule H' c x.k r p x.ws x.cs x.n x.m)
  (fun l hl=>⟨⟨none,rfl⟩,(Same.refl H).laid hl,[],by rw [ah]; rfl,rfl,fun j r x e=>by simp at e⟩) (fun l i σ H' _ _ x=>x.2.1.seq (SqL.of ha)) ?_ ?_
 · rintro l i x σ H1 hl hx ⟨⟨cv,rfl⟩,s1,rs,el,hlen,hat⟩
   rw [List.getElem?_map,List.getElem?_map] at hx
   cases e:rows[i]? with
   | none=>rw [e] at hx; cases hx
   | some y=>
    rw [e] at hx
    cases hx
    have hi:=(List.getElem?_eq_some_iff.mp e).1
    have hm:=List.mem_of_getElem? e
    rw [db]
    show tTrue [none,some (.str y.txt),some (.ref p)] H1 _
    walk_at "w"
    refine ⟨y.k,p,h,w,g,y.n,y.m,y.ns,y.cs,rfl,s1 _ _ hp,O.F,O.ok y hm,O.c y hm,fun r H2 s2 hr xr=>?_⟩
    have nrl:r≠l:=fun z=>by rw [z,el] at hr; cases hr
    refine ⟨_,s2 _ _ el,by rw [List.length_map]; exact aI (by omega),⟨_,rfl⟩,(s1.trans s2).own hl,rs++[r],by rw [ah]; simp,by simp [hlen],fun j r' x' h1 h2=>?_⟩
    by_cases hj:j < rs.length
    · rw [List.getElem?_append_left hj] at h1
      exact ((hat j r' x' h1 h2).same s2).lst (s2 _ _ el)
    · rw [List.getElem?_append_right (by omega)] at h1
      have hj0:j - rs.length=0:=by
       have:=(List.getElem?_eq_some_iff.mp h1).1
       simp at this
       omega
      rw [hj0] at h1
      have:j=i:=by omega
      subst this
      rw [e] at h2
      simp at h1
      cases h2
      subst h1
      exact xr.lst (s2 _ _ el)
 · rintro l σ H1 hl ⟨_,s1,rs,el,hlen,hat⟩
   exact q l rs H1 s1 hl ⟨el,by rw [hlen]; simp,hat⟩
def filB (least g:Int) (n:Nat) (xs:List Int):Bool:=decide (xs.length=n)&&xs.all fun x=>decide (least≤x)&&decide (x≤g)
def cy (K:PySem.W.Frag):Sp:=fun vs H Q _=>∃ (p a:Addr) (h w g least:Int) (xs:List Int),vs=[.ref p,.ref a,.int least]∧IsFl H p h w g∧FlOk h w g∧H a=some (.lst (xs.map V.int))∧xs.length≤100∧∀ H',Same H H'→Q (.bl (filB least g (h*w).toNat xs)) H'
theorem rn {K:PySem.W.Frag} {vs:List V} {H:Hp} {Q:VK} {E:XK} (h:cy K vs H Q E):vs.length=3:=by
 obtain ⟨_,_,_,_,_,_,_,rfl,_⟩:=h; rfl
def hX (K:PySem.W.Frag):TS:=
 (tSeq (tIfS (tOr (tNot (tB (tCB kIsi (tCons (tVar 1) (tCons (tC (.ty "list")) tNil))))) (tTest (tOp (cNe K) (tCB kLen (tCons (tVar 1) tNil)) (tCall (aK K) [] E0 (tCons (tVar 0) tNil))))) (tRet (tC (.bl false))) tNext)
  (tRet (tCB kAll (tCons (tComp [none,none,some 0,some 2] (iList K (tVar 1)) (gName 1) tTrue (tAndV (tCall (aQ K) [] E0 (tCons (tVar 1) tNil)) (tAndV (tOp (cCmp fun i j=>decide (i≤j)) (tVar 3) (tVar 1)) (tOp (cCmp fun i j=>decide (i≤j)) (tVar 1) (tOp cIx (tVar 2) (tC (.int 2))))))) tNil))))
theorem rp {K:PySem.W.Frag} {vs:List V} {H:Hp} {Q:VK} {E:XK} (h:cy K vs H Q E):hX K { nx:=fun _ H'=>Q .non H',rt:=Q } (start ["floor","filling","least"] vs) H:=by
 obtain ⟨p,a,h,w,g,least,xs,rfl,hp,F,ha,hn,q⟩:=h
 obtain ⟨h0,h1,w0,w1,m16,g0,g1⟩:=id F
 have mpos:0≤h*w:=Int.mul_nonneg (by omega) (by omega)
 show hX K _ [some (.ref p),some (.ref a),some (.int least)] H
 unfold hX
 rw [aV,aL]
 walk_at "w"
 refine xu ha ?_
 walk_at "w"
 rw [bv ha,List.length_map]
 walk_at "w"
 refine ⟨p,h,w,g,rfl,hp,h0,h1,?_⟩
 walk_at "w"
 unfold filB at q
 by_cases hl:xs.length=(h*w).toNat
 · rw [decide_eq_true (show (xs.length:Int)=h*w by omega)]
   rw [decide_eq_true hl] at q
   walk_at "w"
   refine ⟨⟨_,SqL.of ha⟩,?_⟩
   refine ft (xs:=xs.map V.int) (fun _=>true) (fun i=>.bl (decide (least≤xs.getD i 0)&&decide (xs.getD i 0≤g))) (by rw [List.length_map]; omega) (SqL.of ha) ?_ ?_ ?_
   · intro i x H1 R hx s1 k1
     exact k1 _ (Same.refl _)
   · intro i x H1 Q1 hx hb s1 k1
     obtain ⟨z,hz,rfl⟩:=gY hx
     have q1:=k1 _ (Same.refl H1)
     rw [mW hz] at q1
     show tAndV _ _ [none,some (.int z),some (.ref p),some (.int least)] H1 Q1
     walk_at "w"
     refine ⟨z,rfl,⟨true,rfl,iteT ?_⟩⟩
     walk_at "w"
     cases hb:decide (least≤z) with
     | false=>
      rw [hb,Bool.false_and] at q1
      exact iteF q1
     | true=>
      rw [hb,Bool.true_and] at q1
      refine iteT ?_
      walk_at "w"
      refine ixT (s1 _ _ hp) (v:=V.int g) rfl ?_
      walk_at "w"
      exact q1
   · intro l H1 hl1 s1 el
     have eb:((List.range (xs.map V.int).length).filter fun _=>true).map (fun i=>V.bl (decide (least≤xs.getD i 0)&&decide (xs.getD i 0≤g)))=(xs.map fun x=>decide (least≤x)&&decide (x≤g)).map V.bl:=by
      rw [gy,List.length_map]
      refine List.ext_getElem? fun i=>?_
      rw [List.getElem?_map,List.getElem?_map,List.getElem?_map]
      by_cases h:i < xs.length
      · rw [List.getElem?_range h,List.getElem?_eq_getElem h]
        simp [List.getD,h]
      · rw [List.getElem?_eq_none (by simpa using h),List.getElem?_eq_none (by omega)]; rfl
     rw [eb] at el
     refine rT el ?_
     have ea:(xs.map fun x=>decide (least≤x)&&decide (x≤g)).all id=xs.all fun x=>decide (least≤x)&&decide (x≤g):=by rw [List.all_map]; rfl
     rw [ea]
     exact q _ s1
 · rw [decide_eq_false (show ¬ (xs.length:Int)=h*w by omega)]
   rw [decide_eq_false hl] at q
   walk_at "w"
   exact q _ (Same.refl _)
def bV (K:PySem.W.Frag):Sp:=fun vs H Q _=>∃ (p a:Addr) (h w g:Int) (xs:List Int),vs=[.ref p,.ref a]∧IsFl H p h w g∧FlOk h w g∧H a=some (.lst (xs.map V.int))∧CluesOk h w g xs∧∀ l H',Same H H'→H l=none→H' l=some (.lst (xs.map V.int))→Q (.ref l) H'
theorem n9 {K:PySem.W.Frag} {vs:List V} {H:Hp} {Q:VK} {E:XK} (h:bV K vs H Q E):vs.length=2:=by
 obtain ⟨_,_,_,_,_,_,rfl,_⟩:=h; rfl
def fz (K:PySem.W.Frag):TS:=
 (tSeq (tIfS (tNot (tB (tCall (cy K) [] E0 (tCons (tVar 0) (tCons (tVar 1) (tCons (tC (.int 0)) tNil)))))) dz tNext)
  (tRet (tCB kList (tCons (tVar 1) tNil))))
theorem CluesOk.fil {h w g:Int} {xs:List Int} (C:CluesOk h w g xs):filB 0 g (h*w).toNat xs=true:=by
 unfold filB
 rw [decide_eq_true C.len,Bool.true_and,List.all_eq_true]
 intro x hx
 have:=C.ok x hx
 simp [this.1,this.2]
theorem oa {K:PySem.W.Frag} {vs:List V} {H:Hp} {Q:VK} {E:XK} (h:bV K vs H Q E):fz K { nx:=fun _ H'=>Q .non H',rt:=Q } (start ["floor","clues"] vs) H:=by
 obtain ⟨p,a,h,w,g,xs,rfl,hp,F,ha,C,q⟩:=h
 obtain ⟨h0,h1,w0,w1,m16,g0,g1⟩:=id F
 show fz K _ [some (.ref p),some (.ref a)] H
 unfold fz
 rw [aV,aL]
 walk_at "w"
 refine ⟨p,a,h,w,g,0,xs,rfl,hp,F,ha,by have:=C.len; omega,fun H1 s1=>?_⟩
 rw [C.fil]
 refine ⟨true,rfl,iteF ?_⟩
 walk_at "w"
 refine ss (s1 _ _ ha) fun l hl=>?_
 exact q l _ (s1.laid hl) (s1.free hl) ah
theorem IsRule.ins {H:Hp} {c:RCl RK} {k:RK} {r p a:Addr} {ws:List (List Nat)} {cs:List Int} {n m:Int} {C dx:Addr} {fs:List (Str × V)} {o:HO} (x:IsRule H c k r p ws cs n m) (ha:H a=some (.ins C dx fs)) (hf:fs.length≠5):IsRule (upd H a o) c k r p ws cs n m:=by
 obtain ⟨dx',W,C',h1,h2,h3⟩:=x.ex
 refine ⟨x.ok,dx',W,C',?_,?_,?_⟩
 · rw [ar (fun e=>by rw [e,ha] at h1; cases h1; exact hf rfl)]; exact h1
 · rw [ar (fun e=>by rw [e,ha] at h2; cases h2)]; exact h2
 · rw [ar (fun e=>by rw [e,ha] at h3; cases h3)]; exact h3
theorem IsRules.ins {H:Hp} {c:RCl RK} {p L a:Addr} {rs:List Addr} {rows:List RR} {C dx:Addr} {fs:List (Str × V)} {o:HO} (x:IsRules H c p L rs rows) (ha:H a=some (.ins C dx fs)) (hf:fs.length≠5):IsRules (upd H a o) c p L rs rows:=
 ⟨by rw [ar (fun e=>by have:=x.top; rw [e,ha] at this; cases this)]; exact x.top,x.len,fun i r y h1 h2=>(x.at_ i r y h1 h2).ins ha hf⟩
def ba (K:PySem.W.Frag) (c:RCl RK) (d:RCl PzK):Sp:=fun vs H Q _=>∃ (x dx p a b:Addr) (h w g:Int) (rows:List RR) (cl:List Int),vs=[.ref x,.ref p,.ref a,.ref b]∧d.ok .Puzzle=true∧H x=some (.ins (d.A .Puzzle) dx [])∧IsFl H p h w g∧H a=some (.lst ((rows.map RR.txt).map V.str))∧H b=some (.lst (cl.map V.int))∧ko c h w g rows∧CluesOk h w g cl∧
 ∀ L G H',(∀ y o,y≠x→H y=some o→H' y=some o)→H L=none→H G=none→IsPz H' c d x L G h w g rows cl→Q .non H'
theorem mt {K:PySem.W.Frag} {c:RCl RK} {d:RCl PzK} {vs:List V} {H:Hp} {Q:VK} {E:XK} (h:ba K c d vs H Q E):vs.length=4:=by
 obtain ⟨_,_,_,_,_,_,_,_,_,_,rfl,_⟩:=h; rfl
def dY (K:PySem.W.Frag) (c:RCl RK) (d:RCl PzK):TS:=
 (tSeq (sFldK d (tVar 0) (tCall (bU K) [] E0 (tCons (tVar 1) tNil)) "floor")
  (tSeq (sFldK d (tVar 0) (tCall (de K c) [] E0 (tCons (tFldK d (tVar 0) "floor") (tCons (tVar 2) tNil))) "laws")
  (sFldK d (tVar 0) (tCall (bV K) [] E0 (tCons (tFldK d (tVar 0) "floor") (tCons (tVar 3) tNil))) "given")))
theorem mw {K:PySem.W.Frag} {c:RCl RK} {d:RCl PzK} {vs:List V} {H:Hp} {Q:VK} {E:XK} (h:ba K c d vs H Q E):dY K c d { nx:=fun _ H'=>Q .non H',rt:=Q } (start ["self","floor","lines","clues"] vs) H:=by
 obtain ⟨x,dx,p,a,b,h,w,g,rows,cl,rfl,ok,hx,hp,ha,hb,R,C,q⟩:=h
 show dY K c d _ [some (.ref x),some (.ref p),some (.ref a),some (.ref b)] H
 unfold dY sFldK
 walk_at "w"
 refine ⟨p,h,w,g,rfl,hp,R.F,fun p1 hp1=>?_⟩
 have nxp:x≠p1:=aG hx hp1
 refine ⟨x,.Puzzle,dx,[],rfl,ok,by rw [ar nxp]; exact hx,by show (0:Nat) < 1000; decide,?_⟩
 have f1:∀ y o,y≠x→H y=some o→(upd (upd H p1 (.tup [.int h,.int w,.int g])) x (.ins (d.A .Puzzle) dx (putF "floor" (.ref p1) []))) y=some o:=fun y o ny e=>by
  rw [ar ny,ar (aG e hp1)]; exact e
 have hx1:(upd (upd H p1 (.tup [.int h,.int w,.int g])) x (.ins (d.A .Puzzle) dx (putF "floor" (.ref p1) []))) x=some (.ins (d.A .Puzzle) dx [("floor",.ref p1)]):=ah
 have hp1':IsFl (upd (upd H p1 (.tup [.int h,.int w,.int g])) x (.ins (d.A .Puzzle) dx (putF "floor" (.ref p1) []))) p1 h w g:=by
  show (upd (upd H p1 (.tup [.int h,.int w,.int g])) x _) p1=_
  rw [ar nxp.symm,ah]
 have fr1:∀ l,(upd (upd H p1 (.tup [.int h,.int w,.int g])) x (.ins (d.A .Puzzle) dx (putF "floor" (.ref p1) []))) l=none→H l=none:=fun l e=>by
  have n1:l≠x:=fun z=>by rw [z,ah] at e; cases e
  rw [ar n1] at e
  have n2:l≠p1:=fun z=>by rw [z,ah] at e; cases e
  rw [ar n2] at e
  exact e
 have nax:a≠x:=fun z=>by rw [z,hx] at ha; cases ha
 have nbx:b≠x:=fun z=>by rw [z,hx] at hb; cases hb
 generalize upd (upd H p1 (.tup [.int h,.int w,.int g])) x (.ins (d.A .Puzzle) dx (putF "floor" (.ref p1) []))=H1 at*
 refine fldE (c:=d) (k:=.Puzzle) rfl ok hx1 (v:=.ref p1) (by rfl) ?_
 walk_at "w"
 refine ⟨p1,a,h,w,g,rows,rfl,hp1',f1 a _ nax ha,R,fun L rs H2 s2 hL X=>?_⟩
 refine ⟨x,.Puzzle,dx,_,rfl,ok,s2 _ _ hx1,by show (1:Nat) < 1000; decide,?_⟩
 have nxL:L≠x:=fun z=>by rw [z,hx1] at hL; cases hL
 have X3:=X.ins (o:=.ins (d.A .Puzzle) dx (putF "laws" (.ref L) [("floor",.ref p1)])) (s2 _ _ hx1) (by show (1:Nat)≠5; decide)
 have f2:∀ y o,y≠x→H y=some o→(upd H2 x (.ins (d.A .Puzzle) dx (putF "laws" (.ref L) [("floor",.ref p1)]))) y=some o:=fun y o ny e=>by
  rw [ar ny]; exact s2 _ _ (f1 y o ny e)
 have hx3:(upd H2 x (.ins (d.A .Puzzle) dx (putF "laws" (.ref L) [("floor",.ref p1)]))) x=some (.ins (d.A .Puzzle) dx [("floor",.ref p1),("laws",.ref L)]):=ah
 have hp3:IsFl (upd H2 x (.ins (d.A .Puzzle) dx (putF "laws" (.ref L) [("floor",.ref p1)]))) p1 h w g:=by
  show (upd H2 x _) p1=_
  rw [ar nxp.symm]; exact s2 _ _ hp1'
 have fr3:∀ l,(upd H2 x (.ins (d.A .Puzzle) dx (putF "laws" (.ref L) [("floor",.ref p1)]))) l=none→H1 l=none:=fun l e=>by
  have n1:l≠x:=fun z=>by rw [z,ah] at e; cases e
  rw [ar n1] at e
  exact s2.free e
 generalize upd H2 x (.ins (d.A .Puzzle) dx (putF "laws" (.ref L) [("floor",.ref p1)]))=H3 at*
 refine fldE (c:=d) (k:=.Puzzle) rfl ok hx3 (v:=.ref p1) (by rfl) ?_
 walk_at "w"
 refine ⟨p1,b,h,w,g,cl,rfl,hp3,R.F,f2 b _ nbx hb,C,fun G H4 s4 hG eG=>?_⟩
 refine ⟨x,.Puzzle,dx,_,rfl,ok,s4 _ _ hx3,by show (2:Nat) < 1000; decide,?_⟩
 have nxG:G≠x:=fun z=>by rw [z,hx3] at hG; cases hG
 refine q L G _ (fun y o ny e=>?_) (fr1 L hL) (fr1 G (fr3 G hG)) ⟨ok,R,C,?_,dx,p1,rs,?_,?_,?_⟩
 · rw [ar ny]; exact s4 _ _ (f2 y o ny e)
 · rw [ar nxG]; exact eG
 · rw [ah]; rfl
 · show (upd H4 x _) p1=_
   rw [ar nxp.symm]; exact s4 _ _ hp3
 · exact (X3.same s4).ins (s4 _ _ hx3) (by show (2:Nat)≠5; decide)
theorem An {K:PySem.W.Frag} {c:RCl RK} {d:RCl PzK} {H:Hp} {Z:Addr→Hp→Prop} {p a b:Addr} {h w g:Int} {rows:List RR} {cl:List Int} (ok:d.ok .Puzzle=true) (hp:IsFl H p h w g) (ha:H a=some (.lst ((rows.map RR.txt).map V.str))) (hb:H b=some (.lst (cl.map V.int))) (R:ko c h w g rows) (C:CluesOk h w g cl)
  (q:∀ P L G H',Same H H'→H P=none→H L=none→H G=none→IsPz H' c d P L G h w g rows cl→Z P H'):
  ∀ x dx,H x=none→H dx=none→dx≠x→ba K c d (.ref x::([.ref p,.ref a,.ref b]++[])) (upd (upd H dx (.own x)) x (.ins (d.A .Puzzle) dx [])) (fun v H2=>v=.non∧Z x H2) E0:=by
 intro x dx hx hd ne
 have k:∀ y o,H y=some o→(upd (upd H dx (.own x)) x (.ins (d.A .Puzzle) dx [])) y=some o:=fun y o e=>by rw [ar (aG e hx),ar (aG e hd)]; exact e
 have fr:∀ y,(upd (upd H dx (.own x)) x (.ins (d.A .Puzzle) dx [])) y=none→H y=none:=fun y e=>by
  have n1:y≠x:=fun z=>by rw [z,ah] at e; cases e
  rw [ar n1] at e
  have n2:y≠dx:=fun z=>by rw [z,ah] at e; cases e
  rw [ar n2] at e
  exact e
 exact ⟨x,dx,p,a,b,h,w,g,rows,cl,rfl,ok,ah,k _ _ hp,k _ _ ha,k _ _ hb,R,C,fun L G H' hs hL hG X=>⟨rfl,q x L G H' (fun y o e=>hs y o (aG e hx) (k _ _ e)) hx (fr L hL) (fr G hG) X⟩⟩
def dC (K:PySem.W.Frag) (c:RCl RK) (d:RCl PzK) (_:PzK):Sp:=fun vs H Q _=>∃ (P L G:Addr) (h w g:Int) (rows:List RR) (cl:List Int),vs=[.ref P]∧IsPz H c d P L G h w g rows cl∧∀ p,IsFl H p h w g→Q (.ref p) H
def ga (K:PySem.W.Frag) (c:RCl RK) (d:RCl PzK):Sp:=dC K c d .Puzzle
theorem pe {K:PySem.W.Frag} {c:RCl RK} {d:RCl PzK} {vs:List V} {H:Hp} {Q:VK} {E:XK} (h:ga K c d vs H Q E):vs.length=1:=by
 obtain ⟨_,_,_,_,_,_,_,_,rfl,_⟩:=h; rfl
def gb (K:PySem.W.Frag) (c:RCl RK) (d:RCl PzK):TS:=
 (tRet (tFldK d (tVar 0) "floor"))
theorem pf {K:PySem.W.Frag} {c:RCl RK} {d:RCl PzK} {vs:List V} {H:Hp} {Q:VK} {E:XK} (h:ga K c d vs H Q E):gb K c d { nx:=fun _ H'=>Q .non H',rt:=Q } (start ["self"] vs) H:=by
 obtain ⟨P,L,G,h,w,g,rows,cl,rfl,x,q⟩:=h
 obtain ⟨dx,p,rs,h1,h2,h3⟩:=x.ex
 show gb K c d _ [some (.ref P)] H
 unfold gb
 walk_at "w"
 exact fldE (k:=.Puzzle) rfl x.ok h1 (v:=.ref p) (by rfl) (q p h2)
def kq (K:PySem.W.Frag) (c:RCl RK) (d:RCl PzK) (_:PzK):Sp:=fun vs H Q _=>∃ (P L G:Addr) (h w g:Int) (rows:List RR) (cl:List Int),vs=[.ref P]∧IsPz H c d P L G h w g rows cl∧∀ l,H l=none→Q (.ref l) (upd H l (.lst (cl.map V.int)))
def gc (K:PySem.W.Frag) (c:RCl RK) (d:RCl PzK):Sp:=kq K c d .Puzzle
theorem ph {K:PySem.W.Frag} {c:RCl RK} {d:RCl PzK} {vs:List V} {H:Hp} {Q:VK} {E:XK} (h:gc K c d vs H Q E):vs.length=1:=by
 obtain ⟨_,_,_,_,_,_,_,_,rfl,_⟩:=h; rfl
def gd (K:PySem.W.Frag) (c:RCl RK) (d:RCl PzK):TS:=
 (tRet (tCB kList (tCons (tFldK d (tVar 0) "given") tNil)))
theorem pi {K:PySem.W.Frag} {c:RCl RK} {d:RCl PzK} {vs:List V} {H:Hp} {Q:VK} {E:XK} (h:gc K c d vs H Q E):gd K c d { nx:=fun _ H'=>Q .non H',rt:=Q } (start ["self"] vs) H:=by
 obtain ⟨P,L,G,h,w,g,rows,cl,rfl,x,q⟩:=h
 obtain ⟨dx,p,rs,h1,h2,h3⟩:=x.ex
 show gd K c d _ [some (.ref P)] H
 unfold gd
 walk_at "w"
 refine fldE (k:=.Puzzle) rfl x.ok h1 (v:=.ref G) (by rfl) ?_
 walk_at "w"
 exact ss x.gv q
def dD (K:PySem.W.Frag) (c:RCl RK) (d:RCl PzK) (_:PzK):Sp:=fun vs H Q _=>∃ (P L G:Addr) (h w g:Int) (rows:List RR) (cl:List Int),vs=[.ref P]∧IsPz H c d P L G h w g rows cl∧∀ l p rs,H l=none→IsFl (upd H l (.lst (rs.map V.ref))) p h w g→IsRules (upd H l (.lst (rs.map V.ref))) c p l rs rows→Q (.ref l) (upd H l (.lst (rs.map V.ref)))
def ge (K:PySem.W.Frag) (c:RCl RK) (d:RCl PzK):Sp:=dD K c d .Puzzle
theorem pj {K:PySem.W.Frag} {c:RCl RK} {d:RCl PzK} {vs:List V} {H:Hp} {Q:VK} {E:XK} (h:ge K c d vs H Q E):vs.length=1:=by
 obtain ⟨_,_,_,_,_,_,_,_,rfl,_⟩:=h; rfl
def gf (K:PySem.W.Frag) (c:RCl RK) (d:RCl PzK):TS:=
 (tRet (tCB kList (tCons (tFldK d (tVar 0) "laws") tNil)))
theorem pk {K:PySem.W.Frag} {c:RCl RK} {d:RCl PzK} {vs:List V} {H:Hp} {Q:VK} {E:XK} (h:ge K c d vs H Q E):gf K c d { nx:=fun _ H'=>Q .non H',rt:=Q } (start ["self"] vs) H:=by
 obtain ⟨P,L,G,h,w,g,rows,cl,rfl,x,q⟩:=h
 obtain ⟨dx,p,rs,h1,h2,h3⟩:=x.ex
 show gf K c d _ [some (.ref P)] H
 unfold gf
 walk_at "w"
 refine fldE (k:=.Puzzle) rfl x.ok h1 (v:=.ref L) (by rfl) ?_
 walk_at "w"
 refine ss h3.top fun l hl=>?_
 have s1:Same H (upd H l (.lst (rs.map V.ref))):=(Same.refl H).laid hl
 exact q l p rs hl (s1 _ _ h2) ⟨ah,h3.len,fun i r y e1 e2=>(h3.at_ i r y e1 e2).same s1⟩
end L2
namespace L2
open PySem PySem.Spec PyProof.Rows
inductive DRows (w:World) (K:PySem.W.Frag):List DictEntry→List (Str × List Str)→Prop
 | nil:DRows w K [] []
 | cons {hsh:Int} {k:Str} {t:Tok} {q:Addr} {o:Obj} {its:Array Value} {n:Nat} {ws:List Str} {es:List DictEntry} {D:List (Str × List Str)}:hsh=hashStr w k→K.lookup q=some o→o.cls=.type "tuple"→o.data=.seq its n→its.size≤sizeLine→Vals (ws.map V.str) its.toList→DRows w K es D→DRows w K (⟨hsh,.str k t,.ref q⟩::es) ((k,ws)::D)
structure GDict (w:World) (K:PySem.W.Frag) (mg:Str→Option Value) (x:Str) (D:List (Str × List Str)):Prop where
 ex:∃ (p:Addr) (o:Obj) (es:Array DictEntry) (ep:Nat),mg x=some (.ref p)∧K.lookup p=some o∧o.ExactDict∧o.data=.dict es ep∧DRows w K es.toList D∧(D.map fun x=>x.1).Nodup
theorem DRows.of {P:Program} {w:World} {K:PySem.W.Frag} {es:List DictEntry} {D:List (Str × List Str)} (h:DRows w K es D):
  ∃ kvs:List (Str × Value),Pairs (strKind P w) es kvs∧kvs.map (fun x=>x.1)=D.map (fun x=>x.1)∧(∀ e∈es,∃ k,(strKind P w).is k e.key=true∧e.hash=(strKind P w).hash k)∧
   ∀ k ws,D.lookup k=some ws→∃ q,valueAt kvs k=some (.ref q)∧∃ (o:Obj) (its:Array Value) (n:Nat),K.lookup q=some o∧o.cls=.type "tuple"∧o.data=.seq its n∧its.size≤sizeLine∧Vals (ws.map V.str) its.toList:=by
 induction h with
 | nil=>exact ⟨[],.nil,rfl,fun e he=>(by cases he),fun k ws e=>(by cases e)⟩
 | @cons hsh k t q o its n ws es D h1 h2 h3 h4 h5 h6 _ ih=>
  obtain ⟨kvs,p1,p2,p3,p4⟩:=ih
  have hk:(strKind P w).is k (.str k t)=true:=by show (k==k)=true; simp
  refine ⟨(k,.ref q)::kvs,.cons hk rfl p1,by rw [List.map_cons,List.map_cons,p2],fun e he=>?_,fun k' ws' e=>?_⟩
  · rcases List.mem_cons.mp he with rfl | he
    · exact ⟨k,hk,h1⟩
    · exact p3 e he
  · rw [List.lookup_cons] at e
    unfold valueAt
    rw [List.find?_cons]
    by_cases hkk:k'=k
    · subst hkk
      simp at e
      subst e
      refine ⟨q,by simp,o,its,n,h2,h3,h4,h5,h6⟩
    · have hb:(k'==k)=false:=by simpa using hkk
      rw [hb] at e
      have hd:decide (k=k')=false:=decide_eq_false (fun z=>hkk z.symm)
      dsimp only
      rw [hd]
      exact p4 k' ws' e
def tIxG (K:PySem.W.Frag) (D:List (Str × List Str)) (te:TE):TE:=fun σ H Q=>te σ H fun y H1=>∃ k ws,y=.str k∧D.lookup k=some ws∧∀ q,SqT K H1 q (ws.map V.str)→Q (.ref q) H1
def rInS (K:PySem.W.Frag):R2:=fun x y H Q=>∃ (z:Str) (q:Addr) (ws:List Str),x=.str z∧y=.ref q∧SqT K H q (ws.map V.str)∧Q (.bl (decide (z∈ws))) H
section
variable {X:Cx} {a b:Expr} {ta tb:TE} {pos p:Pos} {x:Str} {D:List (Str × List Str)}
theorem Ao (G:GDict X.w X.K X.mg x D) (hb:PE X b tb) (hg:Gl X x) (hpi:u0 b) (hdb:(x==("__debug__":Str))=false:=by decide):PE X (.Subscript (.Name x p) b pos) (tIxG X.K D tb):=by
 obtain ⟨pd,o,es,ep,h1,h2,h3,h4,h5,h6⟩:=G.ex
 obtain ⟨kvs,p1,p2,p3,p4⟩:=h5.of (P:=X.prog)
 have ir:IxR X (fun x y H Q=>x=.ref pd∧∃ k ws,y=.str k∧D.lookup k=some ws∧∀ q,SqT X.K H q (ws.map V.str)→Q (.ref q) H):=by
  intro value slice pins s σ H x y v u Q I rx ry h hs
  obtain ⟨rfl,k,ws,rfl,hl,q⟩:=h
  cases (show v=Value.ref pd from rx)
  have hget:s.heap.get? pd=some o:=I.kIn pd o h2
  have dd:Heap.DictOf (strKind X.prog X.w) s.heap pd kvs:=⟨o,es,ep,hget,h3,h4,fun e he=>p3 e (Array.mem_toList_iff.mpr he),p1,by rw [p2]; exact h6⟩
  obtain ⟨qa,hv,o2,its,n,g1,g2,g3,g4,g5⟩:=p4 k ws hl
  obtain ⟨t,rfl⟩:∃ t,u=Value.str k t:=ry
  have hk:(strKind X.prog X.w).is k (.str k t)=true:=by show (k==k)=true; simp
  refine tail_any dd.typeIs PySem.F.slot_dict_getitem.lookup (wpAny_getItem_of hk dd.mapOf hv ?_) hs
  exact ⟨.ref qa,H,I.tok _,rfl,q qa (.inr ⟨o2,its,n,g1,g2,g3,g4,g5⟩)⟩
 have h0:=aj (pos:=pos) ir (eJ (pos:=p) (v:=V.ref pd) hg h1 rfl hdb) hb hpi
 intro pins s σ H Q I h
 refine h0 pins s σ H Q I ?_
 have e:(fun (y:V) (H1:Hp)=>∃ k ws,y=.str k∧D.lookup k=some ws∧∀ q,SqT X.K H1 q (ws.map V.str)→Q (.ref q) H1)=fun y H1=>(V.ref pd=V.ref pd)∧∃ k ws,y=.str k∧D.lookup k=some ws∧∀ q,SqT X.K H1 q (ws.map V.str)→Q (.ref q) H1:=by
  funext y H1; simp
 have h':tb σ H (fun (y:V) (H1:Hp)=>∃ k ws,y=.str k∧D.lookup k=some ws∧∀ q,SqT X.K H1 q (ws.map V.str)→Q (.ref q) H1):=h
 rw [e] at h'
 exact h'
theorem Ap:OpR X (compareOp .In) (rInS X.K):=by
 intro pins s σ H x y v u Q I rx ry h
 obtain ⟨z,q,ws,rfl,rfl,hq,h⟩:=h
 refine lW pins s σ H _ _ v u Q I rx ry ⟨q,ws.map V.str,rfl,.inr hq,rfl,kG ws,?_⟩
 rw [lA]
 exact h
end
section
variable {K:PySem.W.Frag} {σ:St} {H:Hp} {Q:VK} {te:TE} {D:List (Str × List Str)}
theorem AS:tIxG K D te σ H Q=te σ H fun y H1=>∃ k ws,y=.str k∧D.lookup k=some ws∧∀ q,SqT K H1 q (ws.map V.str)→Q (.ref q) H1:=rfl
end
end L2
namespace L2
open PySem PySem.Spec PyProof.Rows
local macro_rules | `(tactic| walk_at "w")=>`(tactic| (first | simp only [aV,if_true,if_false,Bool.false_eq_true,decide_true,decide_false,kc,ke,mY,jc,ij,ka,kX,kb,jb,kU,kW,ja,mV,jd,je,jg,jh,ji,jj,jf,kY,kZ,la,kS,mX,Bool.not_true,Bool.not_false,gT,g7,db,jn,w_c,lq,ip,iq,gU,iu,w_b,w_not,jD,lr,iw,iy,jE,jo,gW,lu,iz,jF,jG,kN,jH,iA,iB,iC,iD,gP,gQ,e6,fj,fk,dS,jI,jJ,jK,jL,jM,jN,jO,jP,jQ,jR,jS,jT,lx,iE,fm,iF,ly,iG,gR,fq,jU,jV,iH,gX,iI,
 List.getElem?_cons_zero,List.getElem?_cons_succ,Option.some.injEq,exists_eq_left',exists_eq_left,List.set_cons_zero,List.set_cons_succ,d6,V.int.injEq,V.bl.injEq,V.ref.injEq,V.str.injEq,List.append_nil,List.nil_append,List.cons_append] | dsimp only | skip))
def stB (m s:Int):Bool:=decide (1≤s)&&(decide (s≤((Builtin.Int.intBits m:Nat):Int))&&decide (m / 2^(s - 1).toNat % 2=1))
def bm (K:PySem.W.Frag):Sp:=fun vs H Q _=>∃ m s:Int,vs=[.int m,.int s]∧Q (.bl (stB m s)) H
theorem xG {K:PySem.W.Frag} {vs:List V} {H:Hp} {Q:VK} {E:XK} (h:bm K vs H Q E):vs.length=2:=by
 obtain ⟨_,_,rfl,_⟩:=h; rfl
def kI (K:PySem.W.Frag):TS:=
 (tRet (tAndV (tOp (cCmp fun i j=>decide (i≤j)) (tC (.int 1)) (tVar 1)) (tAndV (tOp (cCmp fun i j=>decide (i≤j)) (tVar 1) (vB K "int" kT (tVar 0))) (tOp (cEq K) (tOp cMod (tOp cShr (tVar 0) (tOp cSub (tVar 1) (tC (.int 1)))) (tC (.int 2))) (tC (.int 1))))))
theorem xH {K:PySem.W.Frag} {vs:List V} {H:Hp} {Q:VK} {E:XK} (h:bm K vs H Q E):kI K { nx:=fun _ H'=>Q .non H',rt:=Q } (start ["mask","sign"] vs) H:=by
 obtain ⟨m,s,rfl,q⟩:=h
 show kI K _ [some (.int m),some (.int s)] H
 unfold kI
 walk_at "w"
 unfold stB at q
 cases h1:decide (1≤s) with
 | false=>rw [h1,Bool.false_and] at q; exact iteF q
 | true=>
  refine iteT ⟨rfl,?_⟩
  walk_at "w"
  rw [h1,Bool.true_and] at q
  cases h2:decide (s≤((Builtin.Int.intBits m:Nat):Int)) with
  | false=>rw [h2,Bool.false_and] at q; exact iteF q
  | true=>
   rw [h2,Bool.true_and] at q
   exact iteT ⟨by have:=of_decide_eq_true h1; omega,by decide,q⟩
def fh (K:PySem.W.Frag):Sp:=fun vs H Q _=>∃ s:Int,vs=[.int s]∧1≤s∧s≤100000∧Q (.int (2^(s - 1).toNat)) H
theorem xI {K:PySem.W.Frag} {vs:List V} {H:Hp} {Q:VK} {E:XK} (h:fh K vs H Q E):vs.length=1:=by
 obtain ⟨_,rfl,_⟩:=h; rfl
def kJ (K:PySem.W.Frag):TS:=
 (tSeq (tAsg (tC (.int 1)) (gName 1))
  (tSeq (tFor (eD (tCons (tOp cSub (tVar 0) (tC (.int 1))) tNil)) (gName 2)
  (tAsg (tOp cMul (tVar 1) (tC (.int 2))) (gName 1)))
  (tRet (tVar 1))))
theorem xJ {K:PySem.W.Frag} {vs:List V} {H:Hp} {Q:VK} {E:XK} (h:fh K vs H Q E):kJ K { nx:=fun _ H'=>Q .non H',rt:=Q } (start ["sign","bit","step"] vs) H:=by
 obtain ⟨s,rfl,h1,h2,q⟩:=h
 show kJ K _ [some (.int s),none,none] H
 unfold kJ
 walk_at "w"
 refine ⟨s - 1,rfl,by omega,by omega,?_⟩
 refine fg (fun i σ H'=>∃ sv:Option V,σ=[some (.int s),some (.int (2^i)),sv]∧H'=H) ⟨none,rfl,rfl⟩ ?_ ?_
 · rintro i σ H' hi ⟨sv,rfl,rfl⟩
   walk_at "w"
   refine ⟨.inr ⟨by decide,by decide⟩,?_⟩
   simp [Int.pow_succ]
 · rintro σ H' ⟨sv,rfl,rfl⟩
   walk_at "w"
   exact q
def woI (m s:Int):Int:=if stB m s=true then m - 2^(s - 1).toNat else m
def dZ (K:PySem.W.Frag):Sp:=fun vs H Q _=>∃ m s:Int,vs=[.int m,.int s]∧s≤100000∧Q (.int (woI m s)) H
theorem vO {K:PySem.W.Frag} {vs:List V} {H:Hp} {Q:VK} {E:XK} (h:dZ K vs H Q E):vs.length=2:=by
 obtain ⟨_,_,rfl,_⟩:=h; rfl
def j3 (K:PySem.W.Frag):TS:=
 (tRet (tIf (tB (tCall (bm K) [] E0 (tCons (tVar 0) (tCons (tVar 1) tNil)))) (tOp cSub (tVar 0) (tCall (fh K) [] E0 (tCons (tVar 1) tNil))) (tVar 0)))
theorem vP {K:PySem.W.Frag} {vs:List V} {H:Hp} {Q:VK} {E:XK} (h:dZ K vs H Q E):j3 K { nx:=fun _ H'=>Q .non H',rt:=Q } (start ["mask","sign"] vs) H:=by
 obtain ⟨m,s,rfl,h2,q⟩:=h
 show j3 K _ [some (.int m),some (.int s)] H
 unfold j3
 walk_at "w"
 refine ⟨m,s,rfl,_,rfl,?_⟩
 unfold woI at q
 cases hb:stB m s with
 | false=>
  rw [hb,if_neg Bool.false_ne_true] at q
  exact iteF q
 | true=>
  rw [hb,if_pos rfl] at q
  refine iteT ⟨s,rfl,?_,h2,?_⟩
  · unfold stB at hb
    rw [Bool.and_eq_true,decide_eq_true_eq] at hb
    exact hb.1
  · walk_at "w"
    exact q
def aX (K:PySem.W.Frag):Sp:=fun vs H Q _=>∃ m s:Int,vs=[.int m,.int s]∧s≤100000∧Q (.bl (decide (woI m s=0))) H
theorem uA {K:PySem.W.Frag} {vs:List V} {H:Hp} {Q:VK} {E:XK} (h:aX K vs H Q E):vs.length=2:=by
 obtain ⟨_,_,rfl,_⟩:=h; rfl
def ju (K:PySem.W.Frag):TS:=
 (tRet (tOp (cEq K) (tCall (dZ K) [] E0 (tCons (tVar 0) (tCons (tVar 1) tNil))) (tC (.int 0))))
theorem uB {K:PySem.W.Frag} {vs:List V} {H:Hp} {Q:VK} {E:XK} (h:aX K vs H Q E):ju K { nx:=fun _ H'=>Q .non H',rt:=Q } (start ["mask","sign"] vs) H:=by
 obtain ⟨m,s,rfl,h2,q⟩:=h
 show ju K _ [some (.int m),some (.int s)] H
 unfold ju
 walk_at "w"
 refine ⟨m,s,rfl,h2,?_⟩
 walk_at "w"
 exact q
def sgL (m:Int):List Int:=((List.range (Builtin.Int.intBits m)).filter fun (i:Nat)=>stB m (1+(i:Int))).map fun (i:Nat)=>1+(i:Int)
def dq (K:PySem.W.Frag):Sp:=fun vs H Q _=>∃ m:Int,vs=[.int m]∧Builtin.Int.intBits m≤900∧∀ l H',Same H H'→H l=none→H' l=some (.lst ((sgL m).map V.int))→Q (.ref l) H'
theorem uC {K:PySem.W.Frag} {vs:List V} {H:Hp} {Q:VK} {E:XK} (h:dq K vs H Q E):vs.length=1:=by
 obtain ⟨_,rfl,_⟩:=h; rfl
def jv (K:PySem.W.Frag):TS:=
 (tRet (tComp [none,none,some 0] (oK (tCons (tC (.int 1)) (tCons (tOp cAdd (vB K "int" kT (tVar 0)) (tC (.int 1))) tNil))) (gName 1) (tB (tCall (bm K) [] E0 (tCons (tVar 2) (tCons (tVar 1) tNil)))) (tVar 1)))
theorem uD {K:PySem.W.Frag} {vs:List V} {H:Hp} {Q:VK} {E:XK} (h:dq K vs H Q E):jv K { nx:=fun _ H'=>Q .non H',rt:=Q } (start ["mask"] vs) H:=by
 obtain ⟨m,rfl,hb,k⟩:=h
 show jv K _ [some (.int m)] H
 unfold jv
 walk_at "w"
 refine ⟨rfl,1,_,rfl,by omega,?_⟩
 have en:(((Builtin.Int.intBits m:Nat):Int)+1 - 1).toNat=Builtin.Int.intBits m:=by omega
 rw [en]
 refine jp (fun (i:Nat)=>stB m (1+(i:Int))) (fun (i:Nat)=>1+(i:Int)) hb ?_ ?_ ?_
 · intro i H1 R hi s1 k1
   show tB _ [none,some (.int (1+(i:Int))),some (.int m)] H1 R
   walk_at "w"
   exact ⟨m,_,rfl,_,rfl,k1 _ (Same.refl _)⟩
 · intro i H1 Q1 hi hb s1 k1
   show tVar 1 [none,some (.int (1+(i:Int))),some (.int m)] H1 Q1
   exact ⟨_,rfl,k1 _ (Same.refl _)⟩
 · intro l H1 hl s1 el
   exact k l H1 s1 hl el
end L2
namespace L2
open PySem PySem.Spec PyProof.Rows
local macro_rules | `(tactic| walk_at "w")=>`(tactic| (first | simp only [aV,mj,o1,kn,mq,lb,lc,o4,oY,mh,oZ,if_true,if_false,Bool.false_eq_true,decide_true,decide_false,kc,ke,mY,jc,ij,ka,kX,kb,jb,kU,kW,ja,mV,jd,je,jg,jh,ji,jj,jf,kY,kZ,la,kS,mX,Bool.not_true,Bool.not_false,gT,g7,db,jn,w_c,lq,ip,iq,gU,iu,w_b,w_not,jD,lr,iw,iy,jE,jo,gW,lu,iz,jF,jG,kN,jH,iA,iB,iC,iD,gP,gQ,e6,fj,fk,dS,jI,jJ,jK,jL,jM,jN,jO,jP,jQ,jR,jS,jT,lx,iE,fm,iF,ly,iG,gR,fq,jU,jV,iH,gX,iI,
 List.getElem?_cons_zero,List.getElem?_cons_succ,Option.some.injEq,exists_eq_left',exists_eq_left,List.set_cons_zero,List.set_cons_succ,d6,V.int.injEq,V.bl.injEq,V.ref.injEq,V.str.injEq,List.append_nil,List.nil_append,List.cons_append] | dsimp only | skip))
inductive TK where
 | clue | only | place | count | step | sum | square | reach | turn | pair | ways
 deriving DecidableEq
def tkC:TK→List Nat
 | .clue=>[99,108,117,101]
 | .only=>[111,110,108,121]
 | .place=>[112,108,97,99,101]
 | .count=>[99,111,117,110,116]
 | .step=>[115,116,101,112]
 | .sum=>[115,117,109]
 | .square=>[115,113,117,97,114,101]
 | .reach=>[114,101,97,99,104]
 | .turn=>[116,117,114,110]
 | .pair=>[112,97,105,114]
 | .ways=>[119,97,121,115]
def kr:List Str:=[tx [99,108,117,101],tx [111,110,108,121],tx [112,108,97,99,101],tx [99,111,117,110,116],tx [115,116,101,112],tx [115,117,109],tx [115,113,117,97,114,101],tx [114,101,97,99,104],tx [116,117,114,110],tx [112,97,105,114],tx [119,97,121,115]]
def fP:List Str:=[tx [99,108,117,101],tx [111,110,108,121],tx [112,108,97,99,101],tx [115,116,101,112],tx [112,97,105,114]]
def d2:List Str:=[tx [99,111,117,110,116],tx [115,117,109],tx [119,97,121,115]]
def gd_RULES_OF_KIND:List (Str × List Str):=[(tx [111,110,108,121],[tx [117,110,108,105,107,101]]),(tx [112,108,97,99,101],[tx [117,110,108,105,107,101]]),(tx [99,111,117,110,116],[tx [99,111,117,110,116]]),(tx [115,116,101,112],[tx [114,105,115,105,110,103]]),(tx [115,117,109],[tx [115,117,109]]),(tx [115,113,117,97,114,101],[tx [110,111,115,113,117,97,114,101]]),(tx [114,101,97,99,104],[tx [106,111,105,110,101,100],tx [114,105,110,103]]),(tx [116,117,114,110],[tx [114,105,110,103]]),(tx [112,97,105,114],[tx [117,110,108,105,107,101]])]
def wsOf:TK→List Str
 | .only=>[tx [117,110,108,105,107,101]]
 | .place=>[tx [117,110,108,105,107,101]]
 | .count=>[tx [99,111,117,110,116]]
 | .step=>[tx [114,105,115,105,110,103]]
 | .sum=>[tx [115,117,109]]
 | .square=>[tx [110,111,115,113,117,97,114,101]]
 | .reach=>[tx [106,111,105,110,101,100],tx [114,105,110,103]]
 | .turn=>[tx [114,105,110,103]]
 | .pair=>[tx [117,110,108,105,107,101]]
 | _=>[]
def goesB:TK→RK→Bool
 | .ways,_=>true
 | .only,.Unlike=>true
 | .place,.Unlike=>true
 | .count,.Count=>true
 | .step,.Rising=>true
 | .sum,.Sum=>true
 | .square,.NoSquare=>true
 | .reach,.Joined=>true
 | .reach,.Ring=>true
 | .turn,.Ring=>true
 | .pair,.Unlike=>true
 | _,_=>false
def lineK:TK→Bool
 | .clue=>true
 | .only=>true
 | .place=>true
 | .step=>true
 | .pair=>true
 | _=>false
def nbrK:TK→Bool
 | .count=>true
 | .sum=>true
 | .ways=>true
 | _=>false
theorem yD (t:TK):decide (tx (tkC t)∈kr)=true:=by cases t <;> decide+kernel
theorem zv (t:TK):decide (tx (tkC t)∈fP)=lineK t:=by cases t <;> decide+kernel
theorem Aq (t:TK):decide (tx (tkC t)∈d2)=nbrK t:=by cases t <;> decide+kernel
theorem AT {t:TK} (h1:t≠.clue) (h2:t≠.ways):gd_RULES_OF_KIND.lookup (tx (tkC t))=some (wsOf t):=by
 cases t <;> first | exact absurd rfl h1 | exact absurd rfl h2 | decide+kernel
theorem zw {t:TK} (h2:t≠.ways) (k:RK):decide (tx (nmC k)∈wsOf t)=goesB t k:=by
 cases t <;> first | exact absurd rfl h2 | (cases k <;> decide+kernel)
theorem zx (t:TK):decide (tkC t=[119,97,121,115])=decide (t=.ways):=by cases t <;> decide
theorem vd (t:TK):decide (tkC t=[99,108,117,101])=decide (t=.clue):=by cases t <;> decide
theorem zy (t:TK):decide (tkC t=[111,110,108,121])=decide (t=.only):=by cases t <;> decide
def ca (K:PySem.W.Frag):Sp:=fun vs H Q _=>∃ (p:Addr) (h w g i:Int),vs=[.ref p,.int i]∧IsFl H p h w g∧FlOk h w g∧Q (.bl (decide (0≤i)&&decide (i < h*w))) H
theorem vQ {K:PySem.W.Frag} {vs:List V} {H:Hp} {Q:VK} {E:XK} (h:ca K vs H Q E):vs.length=2:=by
 obtain ⟨_,_,_,_,_,rfl,_⟩:=h; rfl
def j4 (K:PySem.W.Frag):TS:=
 (tRet (tAndV (tCall (aQ K) [] E0 (tCons (tVar 1) tNil)) (tAndV (tOp (cCmp fun i j=>decide (i≤j)) (tC (.int 0)) (tVar 1)) (tOp (cCmp fun i j=>decide (i < j)) (tVar 1) (tCall (aK K) [] E0 (tCons (tVar 0) tNil))))))
theorem vR {K:PySem.W.Frag} {vs:List V} {H:Hp} {Q:VK} {E:XK} (h:ca K vs H Q E):j4 K { nx:=fun _ H'=>Q .non H',rt:=Q } (start ["floor","value"] vs) H:=by
 obtain ⟨p,h,w,g,i,rfl,hp,F,q⟩:=h
 show j4 K _ [some (.ref p),some (.int i)] H
 unfold j4
 walk_at "w"
 refine ⟨i,rfl,⟨true,rfl,iteT ?_⟩⟩
 walk_at "w"
 cases hb:decide (0≤i) with
 | false=>
  rw [hb,Bool.false_and] at q
  exact iteF q
 | true=>
  rw [hb,Bool.true_and] at q
  refine iteT ?_
  walk_at "w"
  refine ⟨p,h,w,g,rfl,hp,F.h0,F.h1,?_⟩
  walk_at "w"
  exact q
def cb (K:PySem.W.Frag):Sp:=fun vs H Q _=>∃ (p:Addr) (h w g i:Int),vs=[.ref p,.int i]∧IsFl H p h w g∧Q (.bl (decide (1≤i)&&decide (i≤g))) H
theorem vS {K:PySem.W.Frag} {vs:List V} {H:Hp} {Q:VK} {E:XK} (h:cb K vs H Q E):vs.length=2:=by
 obtain ⟨_,_,_,_,_,rfl,_⟩:=h; rfl
def j5 (K:PySem.W.Frag):TS:=
 (tRet (tCall (aP K) [] E0 (tCons (tVar 1) (tCons (tOp cIx (tVar 0) (tC (.int 2))) tNil))))
theorem vT {K:PySem.W.Frag} {vs:List V} {H:Hp} {Q:VK} {E:XK} (h:cb K vs H Q E):j5 K { nx:=fun _ H'=>Q .non H',rt:=Q } (start ["floor","value"] vs) H:=by
 obtain ⟨p,h,w,g,i,rfl,hp,q⟩:=h
 show j5 K _ [some (.ref p),some (.int i)] H
 unfold j5
 walk_at "w"
 refine ixT hp (v:=V.int g) rfl ?_
 walk_at "w"
 exact ⟨i,g,rfl,q⟩
def d3 (K:PySem.W.Frag) (c:RCl RK):Sp:=fun vs H Q _=>∃ (t:TK) (k:RK) (r p:Addr) (ws:List (List Nat)) (cs:List Int) (n m:Int),vs=[.str (tx (tkC t)),.ref r]∧t≠.clue∧IsRule H c k r p (nmC k::ws) cs n m∧Q (.bl (goesB t k)) H
theorem vU {K:PySem.W.Frag} {c:RCl RK} {vs:List V} {H:Hp} {Q:VK} {E:XK} (h:d3 K c vs H Q E):vs.length=2:=by
 obtain ⟨_,_,_,_,_,_,_,_,rfl,_⟩:=h; rfl
def j6 (K:PySem.W.Frag) (c:RCl RK):TS:=
 (tRet (tOrV (tOp (cEq K) (tVar 0) (tC (.str (tx [119,97,121,115])))) (tOp (rInS K) (cR c c.ok "name" (ld K c) (tVar 1) tNil) (tIxG K gd_RULES_OF_KIND (tVar 0)))))
theorem vV {K:PySem.W.Frag} {c:RCl RK} {vs:List V} {H:Hp} {Q:VK} {E:XK} (h:d3 K c vs H Q E):j6 K c { nx:=fun _ H'=>Q .non H',rt:=Q } (start ["kind","rule"] vs) H:=by
 obtain ⟨t,k,r,p,ws,cs,n,m,rfl,t0,x,q⟩:=h
 obtain ⟨dx,W,C,h1,h2,h3⟩:=x.ex
 show j6 K c _ [some (.str (tx (tkC t))),some (.ref r)] H
 unfold j6
 walk_at "w"
 rw [e7,zx]
 by_cases hw:t=.ways
 · subst hw
   rw [decide_eq_true rfl]
   exact iteT q
 · rw [decide_eq_false hw]
   refine iteF ?_
   refine methE (k:=k) rfl x.ok h1 (by rfl) ?_
   walk_at "w"
   refine ⟨r,p,nmC k,ws,cs,n,m,rfl,x,?_⟩
   dsimp only
   rw [AS]
   walk_at "w"
   refine ⟨_,_,rfl,AT t0 hw,fun qa hq=>?_⟩
   refine ⟨_,qa,_,rfl,rfl,hq,?_⟩
   rw [zw hw]
   exact q
def bn (K:PySem.W.Frag) (c:RCl RK):Sp:=fun vs H Q _=>∃ (k:RK) (r p:Addr) (ws:List (List Nat)) (cs:List Int) (n m z:Int),vs=[.ref r,.int z]∧IsRule H c k r p ws cs n m∧cs.length≤63∧∀ l H',Same H H'→H l=none→H' l=some (.lst ((cs.filter fun x=>!decide (x=z)).map V.int))→Q (.ref l) H'
theorem xK {K:PySem.W.Frag} {c:RCl RK} {vs:List V} {H:Hp} {Q:VK} {E:XK} (h:bn K c vs H Q E):vs.length=2:=by
 obtain ⟨_,_,_,_,_,_,_,_,rfl,_⟩:=h; rfl
def kK (K:PySem.W.Frag) (c:RCl RK):TS:=
 (tRet (tComp [none,none,some 1] (iList K (cR c c.ok "spots" (dB K c) (tVar 0) tNil)) (gName 1) (tTest (tOp (cNe K) (tVar 1) (tVar 2))) (tVar 1)))
theorem xL {K:PySem.W.Frag} {c:RCl RK} {vs:List V} {H:Hp} {Q:VK} {E:XK} (h:bn K c vs H Q E):kK K c { nx:=fun _ H'=>Q .non H',rt:=Q } (start ["rule","cell"] vs) H:=by
 obtain ⟨k,r,p,ws,cs,n,m,z,rfl,x,hn,q⟩:=h
 obtain ⟨dx,W,C,h1,h2,h3⟩:=x.ex
 show kK K c _ [some (.ref r),some (.int z)] H
 unfold kK
 rw [ip,e6]
 refine methE (k:=k) rfl x.ok h1 (by rfl) ?_
 walk_at "w"
 refine ⟨r,p,ws,cs,n,m,rfl,x,fun l hl=>?_⟩
 have s1:Same H (upd H l (.lst (cs.map V.int))):=(Same.refl H).laid hl
 have el:(upd H l (.lst (cs.map V.int))) l=some (.lst (cs.map V.int)):=ah
 generalize upd H l (.lst (cs.map V.int))=H1 at*
 refine ⟨l,rfl,⟨_,SqL.of el⟩,?_⟩
 refine dh (xs:=cs) (fun x=>!decide (x=z)) (fun x=>x) (by omega) (SqL.of el) ?_ ?_ ?_
 · intro y H2 R hy s2 k2
   show tTest _ [none,some (.int y),some (.int z)] H2 R
   walk_at "w"
   exact k2 _ (Same.refl _)
 · intro y H2 Q2 hy hb s2 k2
   show tVar 1 [none,some (.int y),some (.int z)] H2 Q2
   walk_at "w"
   exact k2 _ (Same.refl _)
 · intro T H2 hT s2 eT
   rw [List.map_id'] at eT
   exact q T H2 (s1.trans s2) (s1.free hT) eT
def hitB (t:TK) (rows:List RR) (r z:Int):Bool:=if r < 0 then false else if t=.clue then decide (r=0) else match rows[r.toNat]? with
 | none=>false
 | some x=>goesB t x.k&&decide (z∈x.cs)
def bO (K:PySem.W.Frag) (c:RCl RK) (d:RCl PzK):Sp:=fun vs H Q _=>∃ (t:TK) (P L G:Addr) (h w g r z:Int) (rows:List RR) (cl:List Int),vs=[.ref P,.str (tx (tkC t)),.int r,.int z]∧IsPz H c d P L G h w g rows cl∧∀ H',Same H H'→Q (.bl (hitB t rows r z)) H'
theorem pp {K:PySem.W.Frag} {c:RCl RK} {d:RCl PzK} {vs:List V} {H:Hp} {Q:VK} {E:XK} (h:bO K c d vs H Q E):vs.length=4:=by
 obtain ⟨_,_,_,_,_,_,_,_,_,_,_,rfl,_⟩:=h; rfl
def gh (K:PySem.W.Frag) (c:RCl RK) (d:RCl PzK):TS:=
 (tSeq (tIfS (tOr (tNot (tB (tCall (aQ K) [] E0 (tCons (tVar 2) tNil)))) (tTest (tOp (cCmp fun i j=>decide (i < j)) (tVar 2) (tC (.int 0))))) (tRet (tC (.bl false))) tNext)
  (tSeq (tIfS (tTest (tOp (cEq K) (tVar 1) (tC (.str (tx [99,108,117,101]))))) (tRet (tOp (cEq K) (tVar 2) (tC (.int 0)))) tNext)
  (tSeq (tAsg (cR d d.ok "rules" (dD K c d) (tVar 0) tNil) (gName 4))
  (tSeq (tIfS (tTest (tOp (cCmp fun i j=>decide (j≤i)) (tVar 2) (tCB kLen (tCons (tVar 4) tNil)))) (tRet (tC (.bl false))) tNext)
  (tRet (tAndV (tCall (d3 K c) [] E0 (tCons (tVar 1) (tCons (tOp cIx (tVar 4) (tVar 2)) tNil))) (tOp (cIn K false) (tVar 3) (cR c c.ok "spots" (dB K c) (tOp cIx (tVar 4) (tVar 2)) tNil))))))))
theorem RR.ws_cons (r:RR):∃ t,r.ws=nmC r.k::t:=⟨_,rfl⟩
theorem pq {K:PySem.W.Frag} {c:RCl RK} {d:RCl PzK} {vs:List V} {H:Hp} {Q:VK} {E:XK} (h:bO K c d vs H Q E):gh K c d { nx:=fun _ H'=>Q .non H',rt:=Q } (start ["puzzle","kind","number","cell","rules"] vs) H:=by
 obtain ⟨t,P,L,G,h,w,g,r,z,rows,cl,rfl,x,q⟩:=h
 obtain ⟨dx,p,rs,h1,h2,h3⟩:=x.ex
 have hN:=x.R.F.m
 show gh K c d _ [some (.ref P),some (.str (tx (tkC t))),some (.int r),some (.int z),none] H
 unfold gh
 rw [aV,aL]
 walk_at "w"
 refine ⟨r,rfl,⟨true,rfl,iteF ?_⟩⟩
 walk_at "w"
 unfold hitB at q
 by_cases hr:r < 0
 · rw [if_pos hr] at q
   rw [decide_eq_true hr]
   exact iteT (q _ (Same.refl _))
 rw [if_neg hr] at q
 rw [decide_eq_false hr]
 refine iteF ?_
 rw [aL]
 walk_at "w"
 rw [e7,vd]
 by_cases ht:t=.clue
 · rw [if_pos ht] at q
   rw [decide_eq_true ht]
   exact iteT (q _ (Same.refl _))
 rw [if_neg ht] at q
 rw [decide_eq_false ht]
 refine iteF ?_
 refine methE (k:=.Puzzle) rfl x.ok h1 (by rfl) ?_
 walk_at "w"
 refine ⟨P,L,G,h,w,g,rows,cl,rfl,x,fun l p2 rs2 hl hp2 X=>?_⟩
 have s1:Same H (upd H l (.lst (rs2.map V.ref))):=(Same.refl H).laid hl
 generalize upd H l (.lst (rs2.map V.ref))=H1 at*
 have hlen:=X.len
 walk_at "w"
 rw [aL]
 walk_at "w"
 rw [bv X.top,List.length_map,hlen]
 walk_at "w"
 by_cases hge:(rows.length:Int)≤r
 · rw [decide_eq_true hge]
   have e:rows[r.toNat]? =none:=List.getElem?_eq_none (by omega)
   rw [e] at q
   exact iteT (q _ s1)
 rw [decide_eq_false hge]
 have hlt:r.toNat < rows.length:=by omega
 have er:rows[r.toNat]? =some rows[r.toNat]:=List.getElem?_eq_getElem hlt
 rw [er] at q
 have ea:rs2[r.toNat]? =some rs2[r.toNat]:=List.getElem?_eq_getElem (by omega)
 have X1:=X.at_ _ _ _ ea er
 obtain ⟨ws,ews⟩:=RR.ws_cons rows[r.toNat]
 rw [ews] at X1
 have eix:atI (rs2.map V.ref) r=some (V.ref rs2[r.toNat]):=nP (by omega) ea
 refine iteF ?_
 refine ixL X.top eix ?_
 walk_at "w"
 refine ⟨t,_,_,p2,ws,_,_,_,rfl,ht,X1,?_⟩
 dsimp only at q
 cases hg:goesB t rows[r.toNat].k with
 | false=>
  rw [hg,Bool.false_and] at q
  exact ⟨false,rfl,iteF (q _ s1)⟩
 | true=>
  rw [hg,Bool.true_and] at q
  refine ⟨true,rfl,iteT ?_⟩
  unfold cR
  walk_at "w"
  obtain ⟨dx1,W1,C1,g1,g2,g3⟩:=X1.ex
  refine ixL X.top eix ?_
  refine ⟨_,rows[r.toNat].k,dx1,_,rfl,X1.ok,g1,by rfl,?_⟩
  refine ⟨_,p2,_,_,_,_,rfl,X1,fun S hS=>?_⟩
  have s2:Same H1 (upd H1 S (.lst (rows[r.toNat].cs.map V.int))):=(Same.refl H1).laid hS
  have eS:(upd H1 S (.lst (rows[r.toNat].cs.map V.int))) S=some (.lst (rows[r.toNat].cs.map V.int)):=ah
  dsimp only
  rw [qq eS]
  exact q _ (s1.trans s2)
structure IsTh (H:Hp) (T M:Addr) (t:TK) (r z s:Int) (ms:List Int):Prop where
 T:H T=some (.tup [.str (tx (tkC t)),.int r,.int z,.int s,.ref M])
 M:H M=some (.lst (ms.map V.int))
 n:ms.length≤100
theorem IsTh.same {H H':Hp} {T M:Addr} {t:TK} {r z s:Int} {ms:List Int} (x:IsTh H T M t r z s ms) (s':Same H H'):IsTh H' T M t r z s ms:=⟨s' _ _ x.T,s' _ _ x.M,x.n⟩
def formB (h w g:Int) (rows:List RR) (t:TK) (r z s:Int):Bool:=(decide (0≤z)&&decide (z < h*w))&&((decide (1≤s)&&decide (s≤g))&&hitB t rows r z)
def cW (K:PySem.W.Frag) (c:RCl RK) (d:RCl PzK):Sp:=fun vs H Q _=>∃ (t:TK) (P L G T M:Addr) (h w g r z s:Int) (rows:List RR) (cl ms:List Int),vs=[.ref P,.ref T]∧IsPz H c d P L G h w g rows cl∧IsTh H T M t r z s ms∧∀ H',Same H H'→Q (.bl (formB h w g rows t r z s)) H'
theorem sW {K:PySem.W.Frag} {c:RCl RK} {d:RCl PzK} {vs:List V} {H:Hp} {Q:VK} {E:XK} (h:cW K c d vs H Q E):vs.length=2:=by
 obtain ⟨_,_,_,_,_,_,_,_,_,_,_,_,_,_,_,rfl,_⟩:=h; rfl
def iS (K:PySem.W.Frag) (c:RCl RK) (d:RCl PzK):TS:=
 (tRet (tAndV (tCB kIsi (tCons (tOp cIx (tVar 1) (tC (.int 4))) (tCons (tC (.ty "list")) tNil))) (tCB kAll (tCons (tComp [none,none] (iList K (tOp cIx (tVar 1) (tC (.int 4)))) (gName 1) tTrue (tCall (aQ K) [] E0 (tCons (tVar 1) tNil))) tNil))))
def iT (K:PySem.W.Frag) (c:RCl RK) (d:RCl PzK):TS:=
 (tSeq (tIfS (tOr (tNot (tB (tCB kIsi (tCons (tVar 1) (tCons (tC (.ty "tuple")) tNil))))) (tOr (tTest (tOp (cNe K) (tCB kLen (tCons (tVar 1) tNil)) (tC (.int 5)))) (tB (tInG kr true (tOp cIx (tVar 1) (tC (.int 0))))))) (tRet (tC (.bl false))) tNext)
  (tSeq (tAsg (cR d d.ok "place" (dC K c d) (tVar 0) tNil) (gName 2))
  (tSeq (tIfS (tOr (tNot (tB (tCall (ca K) [] E0 (tCons (tVar 2) (tCons (tOp cIx (tVar 1) (tC (.int 2))) tNil))))) (tNot (tB (tCall (cb K) [] E0 (tCons (tVar 2) (tCons (tOp cIx (tVar 1) (tC (.int 3))) tNil)))))) (tRet (tC (.bl false))) tNext)
  (tSeq (tIfS (tNot (tB (tCall (bO K c d) [] E0 (tCons (tVar 0) (tCons (tOp cIx (tVar 1) (tC (.int 0))) (tCons (tOp cIx (tVar 1) (tC (.int 1))) (tCons (tOp cIx (tVar 1) (tC (.int 2))) tNil))))))) (tRet (tC (.bl false))) tNext)
  (iS K c d)))))
theorem pr {K:PySem.W.Frag} {c:RCl RK} {d:RCl PzK} {H:Hp} {Q:VK} {P T M:Addr} {t:TK} {r z s:Int} {ms:List Int} {v2:Option V} (x:IsTh H T M t r z s ms) (q:∀ H',Same H H'→Q (.bl true) H'):
  iS K c d { nx:=fun _ H'=>Q .non H',rt:=Q } [some (.ref P),some (.ref T),v2] H:=by
 have hn:=x.n
 unfold iS
 walk_at "w"
 refine ixT x.T (v:=V.ref M) rfl ?_
 walk_at "w"
 refine xu x.M ?_
 walk_at "w"
 refine ixT x.T (v:=V.ref M) rfl ?_
 walk_at "w"
 refine ⟨⟨_,SqL.of x.M⟩,?_⟩
 refine ft (xs:=ms.map V.int) (fun _=>true) (fun _=>.bl true) (by rw [List.length_map]; omega) (SqL.of x.M) ?_ ?_ ?_
 · intro i y H1 R hy s1 k1
   exact k1 _ (Same.refl _)
 · intro i y H1 Q1 hy hb s1 k1
   obtain ⟨v,hv,rfl⟩:=gY hy
   show tCall _ _ _ _ [none,some (.int v)] H1 Q1
   walk_at "w"
   exact ⟨v,rfl,k1 _ (Same.refl _)⟩
 · intro l H1 hl s1 el
   have eb:((List.range (ms.map V.int).length).filter fun _=>true).map (fun _=>V.bl true)=(List.replicate (ms.map V.int).length true).map V.bl:=by
    rw [gy,List.map_const',List.length_range,List.map_replicate]
   rw [eb] at el
   refine rT el ?_
   have ea:(List.replicate (ms.map V.int).length true).all id=true:=by
    rw [List.all_eq_true]
    intro b hb
    exact (List.mem_replicate.mp hb).2
   rw [ea]
   exact q _ s1
theorem sX {K:PySem.W.Frag} {c:RCl RK} {d:RCl PzK} {vs:List V} {H:Hp} {Q:VK} {E:XK} (h:cW K c d vs H Q E):iT K c d { nx:=fun _ H'=>Q .non H',rt:=Q } (start ["puzzle","thought","floor"] vs) H:=by
 obtain ⟨t,P,L,G,T,M,h,w,g,r,z,s,rows,cl,ms,rfl,x,y,q⟩:=h
 obtain ⟨dx,p,rs,h1,h2,h3⟩:=x.ex
 show iT K c d _ [some (.ref P),some (.ref T),none] H
 unfold iT
 rw [aV,aL]
 walk_at "w"
 refine xv y.T ?_
 walk_at "w"
 rw [xk y.T,show (([.str (tx (tkC t)),.int r,.int z,.int s,.ref M]:List V).length:Int)=5 from rfl]
 walk_at "w"
 refine ixT y.T (v:=V.str (tx (tkC t))) rfl ?_
 walk_at "w"
 rw [yD]
 walk_at "w"
 refine methE (k:=.Puzzle) rfl x.ok h1 (by rfl) ?_
 walk_at "w"
 refine ⟨P,L,G,h,w,g,rows,cl,rfl,x,fun p1 hp1=>?_⟩
 walk_at "w"
 rw [aL]
 walk_at "w"
 refine ixT y.T (v:=V.int z) rfl ?_
 walk_at "w"
 refine ⟨p1,h,w,g,z,rfl,hp1,x.R.F,?_⟩
 unfold formB at q
 cases hb:(decide (0≤z)&&decide (z < h*w)) with
 | false=>
  rw [hb,Bool.false_and] at q
  exact ⟨false,rfl,iteT (q _ (Same.refl _))⟩
 | true=>
  rw [hb,Bool.true_and] at q
  refine ⟨true,rfl,iteF ?_⟩
  refine ixT y.T (v:=V.int s) rfl ?_
  walk_at "w"
  refine ⟨p1,h,w,g,s,rfl,hp1,?_⟩
  cases hb2:(decide (1≤s)&&decide (s≤g)) with
  | false=>
   rw [hb2,Bool.false_and] at q
   exact ⟨false,rfl,iteT (q _ (Same.refl _))⟩
  | true=>
   rw [hb2,Bool.true_and] at q
   refine ⟨true,rfl,iteF ?_⟩
   rw [aL]
   walk_at "w"
   refine ixT y.T (v:=V.str (tx (tkC t))) rfl ?_
   walk_at "w"
   refine ixT y.T (v:=V.int r) rfl ?_
   walk_at "w"
   refine ixT y.T (v:=V.int z) rfl ?_
   walk_at "w"
   refine ⟨t,P,L,G,h,w,g,r,z,rows,cl,rfl,x,fun H1 s1=>?_⟩
   cases hb3:hitB t rows r z with
   | false=>
    rw [hb3] at q
    exact ⟨false,rfl,iteT (q _ s1)⟩
   | true=>
    rw [hb3] at q
    refine ⟨true,rfl,iteF ?_⟩
    exact pr (y.same s1) fun H' s2=>q H' (s1.trans s2)
abbrev nsV (cs:List Nat):List V:=(cs.map fun (n:Nat)=>(n:Int)).map V.int
theorem mx {k:RK} {h w g:Int} {m:Nat} (hk:allK k=true) (k0:k≠.Rule) (hn:numK k=false) (hs:sgnK k=true) (m0:1≤(m:Int)) (m1:(m:Int)≤g):RR.Ok ⟨k,0,m,[],rngL 0 (h*w)⟩ h w g:=by
 refine ⟨k0,Nat.zero_le _,fun _=>rfl,fun _=>⟨m0,m1⟩,fun e=>?_,⟨fun e=>?_,fun _=>⟨rfl,rfl⟩⟩,fun x hx=>(by cases hx),Nat.zero_le _⟩
 · rw [show sgnK k=false from e] at hs; cases hs
 · rw [show allK k=false from e] at hk; cases hk
def qA:TE:=fun _ _ _=>False
theorem qV {X:Cx} {e:Expr}:PE X e qA:=fun _ _ _ _ _ _ h=>h.elim
def clueB (cl:List Int) (z s:Int) (ms:List Int):Bool:=decide (ms=[])&&(!decide (cl.getD z.toNat 0=0)&&!decide (cl.getD z.toNat 0=s))
def bP (K:PySem.W.Frag):Sp:=fun vs H Q _=>∃ (C M:Addr) (z s:Int) (cl ms:List Int),vs=[.ref C,.int z,.int s,.ref M]∧H C=some (.lst (cl.map V.int))∧0≤z∧z < cl.length∧H M=some (.lst (ms.map V.int))∧∀ H',Same H H'→Q (.bl (clueB cl z s ms)) H'
theorem pw {K:PySem.W.Frag} {vs:List V} {H:Hp} {Q:VK} {E:XK} (h:bP K vs H Q E):vs.length=4:=by
 obtain ⟨_,_,_,_,_,_,rfl,_⟩:=h; rfl
def gi (K:PySem.W.Frag):TS:=
 (tRet (tAndV (tOp (cEq K) (tVar 3) (tLst tNil)) (tAndV (tOp (cNe K) (tOp cIx (tVar 0) (tVar 1)) (tC (.int 0))) (tOp (cNe K) (tOp cIx (tVar 0) (tVar 1)) (tVar 2)))))
theorem px {K:PySem.W.Frag} {vs:List V} {H:Hp} {Q:VK} {E:XK} (h:bP K vs H Q E):gi K { nx:=fun _ H'=>Q .non H',rt:=Q } (start ["clues","cell","sign","more"] vs) H:=by
 obtain ⟨C,M,z,s,cl,ms,rfl,hC,z0,z1,hM,q⟩:=h
 show gi K _ [some (.ref C),some (.int z),some (.int s),some (.ref M)] H
 unfold gi
 walk_at "w"
 refine ⟨aE (by decide),fun l hl=>?_⟩
 have s1:Same H (upd H l (.lst [])):=(Same.refl H).laid hl
 have el:(upd H l (.lst [])) l=some (.lst (([]:List Int).map V.int)):=ah
 generalize upd H l (.lst [])=H1 at*
 refine vE (s1 _ _ hM) el ?_
 have q1:=q _ s1
 unfold clueB at q1
 cases hb:decide (ms=[]) with
 | false=>
  rw [hb,Bool.false_and] at q1
  exact ⟨false,rfl,iteF q1⟩
 | true=>
  rw [hb,Bool.true_and] at q1
  refine ⟨true,rfl,iteT ?_⟩
  walk_at "w"
  refine ixI (s1 _ _ hC) z0 z1 ?_
  walk_at "w"
  cases hb2:decide (cl.getD z.toNat 0=0) with
  | true=>
   rw [hb2,Bool.not_true,Bool.false_and] at q1
   exact iteF q1
  | false=>
   rw [hb2,Bool.not_false,Bool.true_and] at q1
   refine iteT ?_
   refine ixI (s1 _ _ hC) z0 z1 ?_
   walk_at "w"
   exact q1
def onlyB (cs masks:List Int) (z s:Int) (ms:List Int):Bool:=decide (ms.length=1)&&(decide (ms.getD 0 0∈cs.filter fun x=>!decide (x=z))&&decide (woI (masks.getD (ms.getD 0 0).toNat 0) s=0))
def bQ (K:PySem.W.Frag) (c:RCl RK):Sp:=fun vs H Q _=>∃ (k:RK) (r p A M:Addr) (ws:List (List Nat)) (cs masks ms:List Int) (n m z s:Int),vs=[.ref r,.ref A,.int z,.int s,.ref M]∧IsRule H c k r p ws cs n m∧cD cs masks.length∧H A=some (.lst (masks.map V.int))∧H M=some (.lst (ms.map V.int))∧s≤1000∧∀ H',Same H H'→Q (.bl (onlyB cs masks z s ms)) H'
theorem pA {K:PySem.W.Frag} {c:RCl RK} {vs:List V} {H:Hp} {Q:VK} {E:XK} (h:bQ K c vs H Q E):vs.length=5:=by
 obtain ⟨_,_,_,_,_,_,_,_,_,_,_,_,_,rfl,_⟩:=h; rfl
def gj (K:PySem.W.Frag) (c:RCl RK):TS:=
 (tRet (tAndV (tOp (cEq K) (tCB kLen (tCons (tVar 4) tNil)) (tC (.int 1))) (tAndV (tOp (cIn K false) (tOp cIx (tVar 4) (tC (.int 0))) (tCall (bn K c) [] E0 (tCons (tVar 0) (tCons (tVar 2) tNil)))) (tCall (aX K) [] E0 (tCons (tOp cIx (tVar 1) (tOp cIx (tVar 4) (tC (.int 0)))) (tCons (tVar 3) tNil))))))
theorem pB {K:PySem.W.Frag} {c:RCl RK} {vs:List V} {H:Hp} {Q:VK} {E:XK} (h:bQ K c vs H Q E):gj K c { nx:=fun _ H'=>Q .non H',rt:=Q } (start ["rule","masks","cell","sign","more"] vs) H:=by
 obtain ⟨k,r,p,A,M,ws,cs,masks,ms,n,m,z,s,rfl,x,hC,hA,hM,hs,q⟩:=h
 show gj K c _ [some (.ref r),some (.ref A),some (.int z),some (.int s),some (.ref M)] H
 unfold gj
 walk_at "w"
 rw [bv hM,List.length_map]
 walk_at "w"
 unfold onlyB at q
 have e1:decide ((ms.length:Int)=1)=decide (ms.length=1):=by
  rw [Bool.eq_iff_iff,decide_eq_true_eq,decide_eq_true_eq]; omega
 rw [e1]
 cases hb:decide (ms.length=1) with
 | false=>
  rw [hb,Bool.false_and] at q
  exact iteF (q _ (Same.refl _))
 | true=>
  rw [hb,Bool.true_and] at q
  have hl:=of_decide_eq_true hb
  refine iteT ?_
  refine ixI hM (by decide) (by omega) ?_
  rw [show (0:Int).toNat=0 from rfl]
  walk_at "w"
  refine ⟨k,r,p,ws,cs,n,m,z,rfl,x,hC.1,fun l H1 s1 hl1 el=>?_⟩
  dsimp only
  rw [qq el]
  cases hb2:decide (ms.getD 0 0∈cs.filter fun x=>!decide (x=z)) with
  | false=>
   rw [hb2,Bool.false_and] at q
   exact ⟨false,rfl,iteF (q _ s1)⟩
  | true=>
   rw [hb2,Bool.true_and] at q
   have hm:=List.mem_filter.mp (of_decide_eq_true hb2)
   have hc:=hC.2 _ hm.1
   refine ⟨true,rfl,iteT ?_⟩
   walk_at "w"
   refine ixI (s1 _ _ hM) (by decide) (by omega) ?_
   rw [show (0:Int).toNat=0 from rfl]
   walk_at "w"
   refine ixI (s1 _ _ hA) hc.1 hc.2 ?_
   walk_at "w"
   exact ⟨_,s,rfl,by omega,q _ s1⟩
theorem RR.cin22 {r:RR} {h w g:Int} (O:r.Ok h w g) (F:FlOk h w g):cD r.cs (h*w).toNat:=by
 obtain ⟨h0,h1,w0,w1,m16,g0,g1⟩:=id F
 have mpos:0≤h*w:=Int.mul_nonneg (by omega) (by omega)
 cases hk:allK r.k with
 | false=>
  obtain ⟨c1,c2,c3,c4,e⟩:=O.cl.told hk
  rw [e]
  refine ⟨by rw [List.length_map]; omega,fun c hc=>?_⟩
  obtain ⟨n,hn,rfl⟩:=List.mem_map.mp hc
  have:=c3 n hn
  omega
 | true=>
  obtain ⟨_,e⟩:=O.cl.all hk
  rw [e]
  refine ⟨by rw [kl]; omega,fun c hc=>?_⟩
  have:=vb hc
  omega
structure Asks (H:Hp) (c:RCl RK) (d:RCl PzK) (P L G A T M:Addr) (h w g:Int) (rows:List RR) (cl masks:List Int) (t:TK) (r z s:Int) (ms:List Int):Prop where
 P:IsPz H c d P L G h w g rows cl
 T:IsTh H T M t r z s ms
 A:H A=some (.lst (masks.map V.int))
 n:masks.length=(h*w).toNat
theorem Asks.same {H H':Hp} {c:RCl RK} {d:RCl PzK} {P L G A T M:Addr} {h w g:Int} {rows:List RR} {cl masks:List Int} {t:TK} {r z s:Int} {ms:List Int} (x:Asks H c d P L G A T M h w g rows cl masks t r z s ms) (s':Same H H'):Asks H' c d P L G A T M h w g rows cl masks t r z s ms:=⟨x.P.same s',x.T.same s',s' _ _ x.A,x.n⟩
theorem my {h w g:Int} {rows:List RR} {t:TK} {r z s:Int} (f:formB h w g rows t r z s=true):0≤z∧z < h*w∧1≤s∧s≤g∧hitB t rows r z=true:=by
 unfold formB at f
 simp only [Bool.and_eq_true,decide_eq_true_eq] at f
 exact ⟨f.1.1,f.1.2,f.2.1.1,f.2.1.2,f.2.2⟩
theorem m5 {t:TK} {rows:List RR} {r z:Int} (ht:t≠.clue) (f:hitB t rows r z=true):0≤r∧∃ x,rows[r.toNat]? =some x∧goesB t x.k=true∧z∈x.cs:=by
 unfold hitB at f
 by_cases hr:r < 0
 · rw [if_pos hr] at f; cases f
 rw [if_neg hr,if_neg ht] at f
 cases e:rows[r.toNat]? with
 | none=>rw [e] at f; cases f
 | some x=>
  rw [e] at f
  simp only [Bool.and_eq_true,decide_eq_true_eq] at f
  exact ⟨by omega,x,rfl,f.1,f.2⟩
def lawCA (ns:List Int) (k:Int):Int:=if (ns.length:Int)=0 then (k*k*40692+7*k) % 2147483647 else
 if k < (ns.length:Int) then ns.getD (k % ns.length).toNat 0 % 2305843009213693951 else (ns.getD (k % ns.length).toNat 0 % 2305843009213693951*48271+k*k*40692) % 2305843009213693951
theorem yE (ns:List Int) (k:Int):0≤lawCA ns k:=by
 unfold lawCA
 split
 · exact Int.emod_nonneg _ (by decide)
 · split
   · exact Int.emod_nonneg _ (by decide)
   · exact Int.emod_nonneg _ (by decide)
def aA (K:PySem.W.Frag):Sp:=fun vs H Q _=>∃ (a:Addr) (ns:List Int) (k:Int),vs=[.ref a,.int k]∧SqL K H a (ns.map V.int)∧ns.length≤63∧0≤k∧k≤10000∧Q (.int (lawCA ns k)) H
theorem pC {K:PySem.W.Frag} {vs:List V} {H:Hp} {Q:VK} {E:XK} (h:aA K vs H Q E):vs.length=2:=by
 obtain ⟨_,_,_,rfl,_⟩:=h; rfl
def gk (K:PySem.W.Frag):TS:=
 (tSeq (tIfS (tTest (tOp (cEq K) (tCB (kLenS K) (tCons (tVar 0) tNil)) (tC (.int 0)))) (tRet (tOp cMod (tOp cAdd (tOp cMul (tOp cMul (tVar 1) (tVar 1)) (tC (.int 40692))) (tOp cMul (tC (.int 7)) (tVar 1))) (tC (.int 2147483647)))) tNext)
  (tSeq (tAsg (tOp cMod (tOp (rIxL K) (tVar 0) (tOp cMod (tVar 1) (tCB (kLenS K) (tCons (tVar 0) tNil)))) (tC (.int 2305843009213693951))) (gName 2))
  (tSeq (tIfS (tTest (tOp (cCmp fun i j=>decide (i < j)) (tVar 1) (tCB (kLenS K) (tCons (tVar 0) tNil)))) (tRet (tVar 2)) tNext)
  (tRet (tOp cMod (tOp cAdd (tOp cMul (tVar 2) (tC (.int 48271))) (tOp cMul (tOp cMul (tVar 1) (tVar 1)) (tC (.int 40692)))) (tC (.int 2305843009213693951)))))))
theorem pD {K:PySem.W.Frag} {vs:List V} {H:Hp} {Q:VK} {E:XK} (h:aA K vs H Q E):gk K { nx:=fun _ H'=>Q .non H',rt:=Q } (start ["_law_script","_law_k","_law_number_here"] vs) H:=by
 obtain ⟨a,ns,k,rfl,hS,hn,k0,k1,q⟩:=h
 have kk:k*k≤10000*10000:=Int.mul_le_mul k1 k1 k0 (by decide)
 have kk0:0≤k*k:=Int.mul_nonneg k0 k0
 show gk K _ [some (.ref a),some (.int k),none] H
 unfold gk
 rw [aV,aL]
 walk_at "w"
 refine ⟨a,_,rfl,.inl hS,?_⟩
 walk_at "w"
 rw [List.length_map]
 unfold lawCA at q
 by_cases hl:(ns.length:Int)=0
 · rw [if_pos hl] at q
   rw [decide_eq_true hl]
   refine iteT ⟨.inl ⟨by omega,by omega⟩,.inr ⟨by decide,by decide⟩,.inl ⟨by decide,by decide⟩,?_⟩
   walk_at "w"
   exact ⟨by decide,q⟩
 · rw [if_neg hl] at q
   rw [decide_eq_false hl]
   have hpos:0 < (ns.length:Int):=by omega
   refine iteF ⟨a,_,rfl,.inl hS,?_⟩
   walk_at "w"
   rw [List.length_map]
   have m0:=Int.emod_nonneg k (Int.ne_of_gt hpos)
   have m1:=Int.emod_lt_of_pos k hpos
   refine ⟨hpos,a,_,_,_,rfl,rfl,hS,nO m0 m1,?_⟩
   walk_at "w"
   refine ⟨by decide,?_⟩
   rw [aL]
   walk_at "w"
   refine ⟨a,_,rfl,.inl hS,?_⟩
   walk_at "w"
   rw [List.length_map]
   by_cases hk:k < (ns.length:Int)
   · rw [if_pos hk] at q
     rw [decide_eq_true hk]
     exact iteT q
   · rw [if_neg hk] at q
     rw [decide_eq_false hk]
     refine iteF ⟨.inr ⟨by decide,by decide⟩,.inl ⟨by omega,by omega⟩,.inr ⟨by decide,by decide⟩,?_⟩
     walk_at "w"
     exact ⟨by decide,q⟩
theorem flZ (a b c:Int):FlOk (1+a % 6) (1+b % (if 16 / (1+a % 6) < 6 then 16 / (1+a % 6) else 6)) (1+c % 6)∧0 < (if 16 / (1+a % 6) < 6 then 16 / (1+a % 6) else (6:Int)):=by
 have a0:=Int.emod_nonneg a (by decide:(6:Int)≠0)
 have a1:=Int.emod_lt_of_pos a (by decide:(0:Int) < 6)
 have c0:=Int.emod_nonneg c (by decide:(6:Int)≠0)
 have c1:=Int.emod_lt_of_pos c (by decide:(0:Int) < 6)
 have hh:1+a % 6=1∨1+a % 6=2∨1+a % 6=3∨1+a % 6=4∨1+a % 6=5∨1+a % 6=6:=by omega
 generalize 1+a % 6=h at*
 have key:∀ m:Int,1≤m→m≤6→h*m≤16→(if 16 / h < 6 then 16 / h else 6)=m→FlOk h (1+b % (if 16 / h < 6 then 16 / h else 6)) (1+c % 6)∧0 < (if 16 / h < 6 then 16 / h else (6:Int)):=fun m m0 m1 m2 e=>by
  have b0:=Int.emod_nonneg b (by omega:m≠0)
  have b1:=Int.emod_lt_of_pos b (by omega:0 < m)
  rw [e]
  refine ⟨⟨by omega,by omega,by omega,by omega,?_,by omega,by omega⟩,by omega⟩
  exact Int.le_trans (Int.mul_le_mul_of_nonneg_left (show 1+b % m≤m by omega) (by omega)) m2
 rcases hh with e | e | e | e | e | e <;> subst e
 · exact key 6 (by decide) (by decide) (by decide) rfl
 · exact key 6 (by decide) (by decide) (by decide) rfl
 · exact key 5 (by decide) (by decide) (by decide) rfl
 · exact key 4 (by decide) (by decide) (by decide) rfl
 · exact key 3 (by decide) (by decide) (by decide) rfl
 · exact key 2 (by decide) (by decide) (by decide) rfl
def cc (K:PySem.W.Frag):Sp:=fun vs H Q _=>∃ z:Int,vs=[.int z]∧∀ (p:Addr) (H':Hp) (h w g:Int),Same H H'→H p=none→IsFl H' p h w g→FlOk h w g→Q (.ref p) H'
theorem pE {K:PySem.W.Frag} {vs:List V} {H:Hp} {Q:VK} {E:XK} (h:cc K vs H Q E):vs.length=1:=by
 obtain ⟨_,rfl,_⟩:=h; rfl
def gm (K:PySem.W.Frag):TS:=
 (tSeq (tAsg (tOp cAdd (tC (.int 1)) (tOp cMod (tVar 0) (tC (.int 6)))) (gName 1))
  (tSeq (tAsg (tOp cAdd (tC (.int 1)) (tOp cMod (tOp cDiv (tVar 0) (tC (.int 6))) (tCB kMin (tCons (tC (.int 6)) (tCons (tOp cDiv (tC (.int 16)) (tVar 1)) tNil))))) (gName 2))
  (tRet (tTup (tCons (tVar 1) (tCons (tVar 2) (tCons (tOp cAdd (tC (.int 1)) (tOp cMod (tOp cDiv (tVar 0) (tC (.int 36))) (tC (.int 6)))) tNil)))))))
theorem pF {K:PySem.W.Frag} {vs:List V} {H:Hp} {Q:VK} {E:XK} (h:cc K vs H Q E):gm K { nx:=fun _ H'=>Q .non H',rt:=Q } (start ["_law_cell","_law_high","_law_wide"] vs) H:=by
 obtain ⟨z,rfl,q⟩:=h
 obtain ⟨F,hm⟩:=flZ z (z / 6) (z / 36)
 have:=F.h0
 have:=F.h1
 show gm K _ [some (.int z),none,none] H
 unfold gm
 walk_at "w"
 refine ⟨by decide,⟨by decide,by decide⟩,?_⟩
 walk_at "w"
 refine ⟨⟨by omega,by omega⟩,hm,?_⟩
 walk_at "w"
 refine ⟨⟨by decide,by decide⟩,by decide,aE (by show (3:Nat)≤1000; decide),fun p hp=>?_⟩
 exact q p _ _ _ _ ((Same.refl H).laid hp) hp ah F
def bB (K:PySem.W.Frag):Sp:=fun vs H Q _=>∃ (a:Addr) (ns:List Int) (at_ many count:Int),vs=[.ref a,.int at_,.int many,.int count]∧SqL K H a (ns.map V.int)∧ns.length≤63∧0≤at_∧at_≤1000∧many≤16∧0≤count∧count≤many∧
 ∀ (l:Addr) (H':Hp) (cs:List Nat),Same H H'→H l=none→H' l=some (.lst (nsV cs))→cs.Nodup→(∀ c∈cs,(c:Int) < many)→(cs.length:Int)=count→Q (.ref l) H'
theorem pG {K:PySem.W.Frag} {vs:List V} {H:Hp} {Q:VK} {E:XK} (h:bB K vs H Q E):vs.length=4:=by
 obtain ⟨_,_,_,_,_,rfl,_⟩:=h; rfl
def gn (K:PySem.W.Frag):TS:=
 (tSeq (tAsg (kD (tCons (tVar 2) tNil)) (gName 4))
  (tSeq (tAsg (tLst tNil) (gName 5))
  (tSeq (tFor (eD (tCons (tVar 3) tNil)) (gName 6)
  (tDrop (tBM K "list" bi (tVar 5) (tCons (tBM K "list" o3 (tVar 4) (tCons (tOp cMod (tCall (aA K) [] E0 (tCons (tVar 0) (tCons (tOp cAdd (tVar 1) (tVar 6)) tNil))) (tCB kLen (tCons (tVar 4) tNil))) tNil)) tNil))))
  (tRet (tVar 5)))))
theorem pH {K:PySem.W.Frag} {vs:List V} {H:Hp} {Q:VK} {E:XK} (h:bB K vs H Q E):gn K { nx:=fun _ H'=>Q .non H',rt:=Q } (start ["_law_script","_law_at","_law_many","_law_size","_law_left","_law_found","_law_k"] vs) H:=by
 obtain ⟨a,ns,at_,many,count,rfl,hS,hn,a0,a1,m1,c0,c1,q⟩:=h
 show gn K _ [some (.ref a),some (.int at_),some (.int many),some (.int count),none,none,none] H
 unfold gn
 walk_at "w"
 refine ⟨many,rfl,by omega,by omega,fun L hL=>?_⟩
 have s1:Same H (upd H L (.lst ((rngL 0 many).map V.int))):=(Same.refl H).laid hL
 have eL:(upd H L (.lst ((rngL 0 many).map V.int))) L=some (.lst ((rngL 0 many).map V.int)):=ah
 generalize upd H L (.lst ((rngL 0 many).map V.int))=H1 at*
 walk_at "w"
 refine ⟨aE (by decide),fun R hR=>?_⟩
 have nRL:R≠L:=fun e=>by rw [e,eL] at hR; cases hR
 refine ⟨count,rfl,by omega,by omega,?_⟩
 refine fg (fun i σ H'=>∃ (kv:Option V) (fs ls:List Int),σ=[some (.ref a),some (.int at_),some (.int many),some (.int count),some (.ref L),some (.ref R),kv]∧Same H H'∧H' L=some (.lst (ls.map V.int))∧H' R=some (.lst (fs.map V.int))∧(fs++ls).Perm (rngL 0 many)∧fs.length=i)
  ⟨none,[],rngL 0 many,rfl,s1.laid hR,by rw [ar nRL.symm]; exact eL,by rw [ah]; rfl,List.Perm.refl _,rfl⟩ ?_ ?_
 · rintro i σ H2 hi ⟨kv,fs,ls,rfl,s2,e1,e2,hp,hl⟩
   have hlen:=hp.length_eq
   rw [List.length_append,kl] at hlen
   walk_at "w"
   refine ⟨bq e2,bq e1,a,ns,_,rfl,s2.seq hS,hn,by omega,by omega,?_⟩
   walk_at "w"
   rw [bv e1,List.length_map]
   have hpos:0 < (ls.length:Int):=by omega
   generalize lawCA ns (at_+(0+(i:Int)))=y at*
   have j0:=Int.emod_nonneg y (Int.ne_of_gt hpos)
   have j1:=Int.emod_lt_of_pos y hpos
   refine ⟨hpos,?_⟩
   generalize y % (ls.length:Int)=j at*
   have hj:j.toNat < ls.length:=by omega
   refine zo e1 j0 (by rw [List.length_map]; omega) (y:=V.int ls[j.toNat]) (by rw [List.getElem?_map,List.getElem?_eq_getElem hj]; rfl) ?_
   have e2':(upd H2 L (.lst ((ls.map V.int).eraseIdx j.toNat))) R=some (.lst (fs.map V.int)):=by rw [ar nRL]; exact e2
   walk_at "w"
   rw [dA e2']
   refine ⟨by rw [List.length_map]; exact aI (by omega),_,fs++[ls[j.toNat]],ls.eraseIdx j.toNat,rfl,(s2.own hL).own (s1.free hR),?_,?_,?_,by simp [hl]⟩
   · rw [ar nRL.symm,ah,qU]
   · rw [ah]; simp
   · have p1:=pb ls j.toNat hj
     have p2:=List.Perm.append_left fs p1
     refine List.Perm.trans ?_ hp
     rw [List.append_assoc]
     exact p2
 · rintro σ H2 ⟨kv,fs,ls,rfl,s2,e1,e2,hp,hl⟩
   walk_at "w"
   have hnd:(fs++ls).Nodup:=hp.nodup_iff.mpr (xE many)
   have hm:∀ x∈fs,0≤x∧x < many:=fun x hx=>vb (hp.mem_iff.mp (List.mem_append.mpr (.inl hx)))
   have ef:(fs.map Int.toNat).map (fun (n:Nat)=>(n:Int))=fs:=by
    rw [List.map_map]
    conv=>rhs; rw [← List.map_id fs]
    exact List.map_congr_left fun x hx=>by have:=hm x hx; show ((x.toNat:Nat):Int)=x; omega
   refine q R H2 (fs.map Int.toNat) s2 (s1.free hR) (by unfold nsV; rw [ef]; exact e2) ?_ ?_ ?_
   · have h1:=(List.nodup_append.mp hnd).1
     rw [← ef] at h1
     exact mr _ h1
   · intro c hc
     obtain ⟨x,hx,rfl⟩:=List.mem_map.mp hc
     have:=hm x hx
     omega
   · rw [List.length_map,hl]; omega
theorem AU {g:Int} (g0:1≤g) (g1:g≤6):0 < 1*(2:Int)^g.toNat∧1*(2:Int)^g.toNat≤64:=by
 have:g=1∨g=2∨g=3∨g=4∨g=5∨g=6:=by omega
 rcases this with rfl | rfl | rfl | rfl | rfl | rfl <;> decide
def ce (K:PySem.W.Frag):Sp:=fun vs H Q _=>∃ (a:Addr) (ns:List Int) (at_ many g:Int),vs=[.ref a,.int at_,.int many,.int g]∧SqL K H a (ns.map V.int)∧ns.length≤63∧0≤at_∧at_≤1000∧0≤many∧many≤16∧1≤g∧g≤6∧
 ∀ (l:Addr) (H':Hp) (ms:List Int),Same H H'→H l=none→H' l=some (.lst (ms.map V.int))→ms.length=many.toNat→(∀ m∈ms,0≤m∧m < 1*2^g.toNat)→Q (.ref l) H'
theorem pI {K:PySem.W.Frag} {vs:List V} {H:Hp} {Q:VK} {E:XK} (h:ce K vs H Q E):vs.length=4:=by
 obtain ⟨_,_,_,_,_,rfl,_⟩:=h; rfl
def gp (K:PySem.W.Frag):TS:=
 (tSeq (tAsg (tLst tNil) (gName 4))
  (tSeq (tFor (eD (tCons (tVar 2) tNil)) (gName 5)
  (tSeq (tAsg (tCall (aA K) [] E0 (tCons (tVar 0) (tCons (tOp cAdd (tVar 1) (tVar 5)) tNil))) (gName 6))
  (tSeq (tDrop (tBM K "list" bi (tVar 4) (tCons (tOp cMod (tOp cOr (tOp cDiv (tVar 6) (tC (.int 7))) (tOp cMul (tOp cMod (tOp cDiv (tVar 6) (tC (.int 5))) (tC (.int 2))) (tOp cDiv (tVar 6) (tC (.int 448))))) (tOp cShl (tC (.int 1)) (tVar 3))) tNil)))
  (tIfS (tTest (tOp (cCmp fun i j=>decide (j < i)) (tOp cMod (tVar 6) (tC (.int 5))) (tC (.int 1)))) (tAsg (tOp cShl (tC (.int 1)) (tOp cMod (tOp cDiv (tVar 6) (tC (.int 5))) (tVar 3))) (gSub (tVar 4) (tVar 5) cPut)) tNext))))
  (tRet (tVar 4))))
theorem sY {j g:Int} (j0:0≤j) (h:j < g):0≤1*(2:Int)^j.toNat∧1*(2:Int)^j.toNat < 1*2^g.toNat:=by
 rw [Int.one_mul,Int.one_mul]
 have e:((2:Int)^j.toNat)=((2^j.toNat:Nat):Int):=by simp
 have e2:((2:Int)^g.toNat)=((2^g.toNat:Nat):Int):=by simp
 rw [e,e2]
 have h1:=Nat.pow_lt_pow_right (a:=2) (by decide) (show j.toNat < g.toNat by omega)
 exact ⟨Int.natCast_nonneg _,Int.ofNat_lt.mpr h1⟩
theorem pJ {K:PySem.W.Frag} {vs:List V} {H:Hp} {Q:VK} {E:XK} (h:ce K vs H Q E):gp K { nx:=fun _ H'=>Q .non H',rt:=Q } (start ["_law_script","_law_at","_law_many","_law_signs","_law_masks_here","_law_k","_law_one"] vs) H:=by
 obtain ⟨a,ns,at_,many,g,rfl,hS,hn,a0,a1,m0,m1,g0,g1,q⟩:=h
 have pg:=AU g0 g1
 show gp K _ [some (.ref a),some (.int at_),some (.int many),some (.int g),none,none,none] H
 unfold gp
 walk_at "w"
 refine ⟨aE (by decide),fun L hL=>?_⟩
 refine ⟨many,rfl,by omega,by omega,?_⟩
 refine fg (fun i σ H'=>∃ (kv ov:Option V) (ms:List Int),σ=[some (.ref a),some (.int at_),some (.int many),some (.int g),some (.ref L),kv,ov]∧Same H H'∧H' L=some (.lst (ms.map V.int))∧ms.length=i∧∀ m∈ms,0≤m∧m < 1*2^g.toNat)
  ⟨none,none,[],rfl,(Same.refl H).laid hL,by rw [ah]; rfl,rfl,fun m hm=>by cases hm⟩ ?_ ?_
 · rintro i σ H1 hi ⟨kv,ov,ms,rfl,s1,el,hl,hm⟩
   walk_at "w"
   refine ⟨a,ns,_,rfl,s1.seq hS,hn,by omega,by omega,?_⟩
   generalize lawCA ns (at_+(0+(i:Int)))=y at*
   walk_at "w"
   refine ⟨bq el,⟨by decide,by decide⟩,⟨by decide,by decide⟩,by decide,⟨by decide,by decide⟩,.inl ⟨by omega,by omega⟩,⟨by omega,by omega,by decide⟩,pg.1,?_⟩
   generalize hx:Builtin.bitOr (y / 7) (y / 5 % 2*(y / 448)) % (1*2^g.toNat)=x at*
   have x0:0≤x:=by rw [← hx]; exact Int.emod_nonneg _ (by omega)
   have x1:x < 1*2^g.toNat:=by rw [← hx]; exact Int.emod_lt_of_pos _ pg.1
   rw [dA el]
   refine ⟨by rw [List.length_map]; exact aI (by omega),?_⟩
   have s2:=s1.own (o:=.lst (ms.map V.int++[V.int x])) hL
   have e2:(upd H1 L (.lst (ms.map V.int++[V.int x]))) L=some (.lst ((ms++[x]).map V.int)):=by rw [ah]; simp
   generalize upd H1 L (.lst (ms.map V.int++[V.int x]))=H2 at*
   have hm2:∀ m∈ms++[x],0≤m∧m < 1*2^g.toNat:=fun m hm'=>by
    rcases List.mem_append.mp hm' with hm' | hm'
    · exact hm m hm'
    · rw [List.mem_singleton.mp hm']; exact ⟨x0,x1⟩
   walk_at "w"
   rw [aL]
   walk_at "w"
   refine ⟨by decide,?_⟩
   cases decide ((1:Int) < y % 5) with
   | false=>exact iteF ⟨_,_,ms++[x],rfl,s2,e2,by simp [hl],hm2⟩
   | true=>
    have j0:=Int.emod_nonneg (y / 5) (show g≠0 by omega)
    have j1:=Int.emod_lt_of_pos (y / 5) (show 0 < g by omega)
    refine iteT ⟨⟨by decide,by decide⟩,by omega,⟨j0,by omega,by decide⟩,?_⟩
    refine yZ e2 (by omega) (by simp; omega) ?_
    rw [uv]
    refine ⟨_,_,_,rfl,s2.own hL,ah,by simp [hl],fun m hm'=>?_⟩
    rcases List.mem_or_eq_of_mem_set hm' with hm' | rfl
    · exact hm2 m hm'
    · exact sY j0 j1
 · rintro σ H1 ⟨kv,ov,ms,rfl,s1,el,hl,hm⟩
   walk_at "w"
   exact q L H1 ms s1 hL el hl hm
def cX (K:PySem.W.Frag):Sp:=fun vs H Q _=>∃ m s:Int,vs=[.int m,.int s]∧0≤m∧m < 64∧1≤s∧s≤6∧Q (.bl (decide (woI m s=0))) H
theorem sZ {K:PySem.W.Frag} {vs:List V} {H:Hp} {Q:VK} {E:XK} (h:cX K vs H Q E):vs.length=2:=by
 obtain ⟨_,_,rfl,_⟩:=h; rfl
def iV (K:PySem.W.Frag):TS:=
 (tRet (tOp (cEq K) (tOp cAnd (tVar 0) (tOp cShl (tC (.int 1)) (tOp cSub (tVar 1) (tC (.int 1))))) (tVar 0)))
theorem yF:((List.range 64).all fun m=>(List.range 6).all fun s=>decide (decide (Builtin.bitAnd (m:Int) (1*2^((1+(s:Int)) - 1).toNat)=(m:Int))=decide (woI (m:Int) (1+(s:Int))=0)))=true:=by decide+kernel
theorem zA {m s:Int} (m0:0≤m) (m1:m < 64) (s0:1≤s) (s1:s≤6):decide (Builtin.bitAnd m (1*2^(s - 1).toNat)=m)=decide (woI m s=0):=by
 have t:=List.all_eq_true.mp (List.all_eq_true.mp yF m.toNat (List.mem_range.mpr (by omega))) (s - 1).toNat (List.mem_range.mpr (by omega))
 have e1:((m.toNat:Nat):Int)=m:=by omega
 have e2:1+(((s - 1).toNat:Nat):Int)=s:=by omega
 rw [e1,e2] at t
 exact of_decide_eq_true t
theorem tm {K:PySem.W.Frag} {vs:List V} {H:Hp} {Q:VK} {E:XK} (h:cX K vs H Q E):iV K { nx:=fun _ H'=>Q .non H',rt:=Q } (start ["_law_mask","_law_sign"] vs) H:=by
 obtain ⟨m,s,rfl,m0,m1,s0,s1,q⟩:=h
 show iV K _ [some (.int m),some (.int s)] H
 unfold iV
 walk_at "w"
 refine ⟨⟨by omega,by omega,by decide⟩,?_⟩
 walk_at "w"
 rw [zA m0 m1 s0 s1]
 exact q
structure IsLN (H:Hp) (l:Addr) (as:List Addr) (css:List (List Nat)):Prop where
 top:H l=some (.lst (as.map V.ref))
 len:as.length=css.length
 at_:∀ (j:Nat) (a:Addr) (cs:List Nat),as[j]? =some a→css[j]? =some cs→H a=some (.lst (nsV cs))
theorem IsLN.same {H H':Hp} {l:Addr} {as:List Addr} {css:List (List Nat)} (x:IsLN H l as css) (s:Same H H'):IsLN H' l as css:=⟨s _ _ x.top,x.len,fun j a cs h1 h2=>s _ _ (x.at_ j a cs h1 h2)⟩
theorem IsLN.app {H H2:Hp} {l p:Addr} {as:List Addr} {css:List (List Nat)} {cs:List Nat} (x:IsLN H l as css) (nl:l∉as) (s:Same H H2) (npl:p≠l) (hp:H2 p=some (.lst (nsV cs))):IsLN (upd H2 l (.lst (as.map V.ref++[V.ref p]))) l (as++[p]) (css++[cs]):=by
 refine ⟨by rw [ah]; simp,by simp [x.len],fun j a xs h1 h2=>?_⟩
 have hlen:=x.len
 by_cases hj:j < as.length
 · rw [List.getElem?_append_left hj] at h1
   rw [List.getElem?_append_left (by omega)] at h2
   have nal:a≠l:=fun z=>nl (z ▸ List.mem_of_getElem? h1)
   rw [ar nal]
   exact s _ _ (x.at_ j a xs h1 h2)
 · rw [List.getElem?_append_right (by omega)] at h1
   rw [List.getElem?_append_right (by omega)] at h2
   have e0:j - as.length=0:=by
    have:=(List.getElem?_eq_some_iff.mp h1).1
    simp at this
    omega
   rw [e0] at h1
   rw [show j - css.length=0 by omega] at h2
   simp at h1 h2
   subst h1 h2
   rw [ar npl]
   exact hp
theorem tp {K:PySem.W.Frag} {H:Hp} {Q:VK} {q:Addr} {xs:List Int} {x:Int} (hq:H q=some (.lst (xs.map V.int))) (hm:x∈xs) (hn:xs.length≤900) (h:Q (.int (xs.findIdx (· ==x):Nat)) H):me K (.ref q) [.int x] H Q:=by
 have hlt:xs.findIdx (· ==x) < xs.length:=List.findIdx_lt_length_of_exists ⟨x,hm,by simp⟩
 have ev:∀ a b:Int,PyData.eqv (.int a) (.int b)=decide (a=b):=fun a b=>by
  rw [PyData.eqv]
  by_cases h:a=b
  · subst h; simp
  · simp [h]
 refine ⟨xs.map PyData.int,.int x,xs.findIdx (· ==x),.lst (SqL.of hq) (.ints xs),.int x,nI xs,rfl,?_,by omega,⟨PyData.int xs[xs.findIdx (· ==x)],?_,?_⟩,fun m e hm2 he=>?_,h⟩
 · rw [ln]; omega
 · rw [List.getElem?_map,List.getElem?_eq_getElem hlt]; rfl
 · have:=List.findIdx_getElem (w:=hlt)
   rw [ev,decide_eq_true_eq]
   simpa using this
 · have hml:m < xs.length:=by omega
   rw [List.getElem?_map,List.getElem?_eq_getElem hml] at he
   cases he
   have:=List.not_of_lt_findIdx hm2
   rw [ev,decide_eq_false_iff_not]
   simpa using this
def tq (xs:List Int) (x:Int):Nat:=xs.findIdx (· ==x)
def ordB (cs ms:List Int):Bool:=decide (ms.length=2)&&(decide (ms.getD 0 0∈cs)&&(decide (ms.getD 1 0∈cs)&&decide (tq cs (ms.getD 0 0) < tq cs (ms.getD 1 0))))
def bc (K:PySem.W.Frag):Sp:=fun vs H Q _=>∃ (C M:Addr) (cs ms:List Int),vs=[.ref C,.ref M]∧H C=some (.lst (cs.map V.int))∧cs.length≤63∧H M=some (.lst (ms.map V.int))∧Q (.bl (ordB cs ms)) H
theorem lB {K:PySem.W.Frag} {vs:List V} {H:Hp} {Q:VK} {E:XK} (h:bc K vs H Q E):vs.length=2:=by
 obtain ⟨_,_,_,_,rfl,_⟩:=h; rfl
def di (K:PySem.W.Frag):TS:=
 (tSeq (tIfS (tOr (tTest (tOp (cNe K) (tCB kLen (tCons (tVar 1) tNil)) (tC (.int 2)))) (tOr (tTest (tOp (cIn K true) (tOp cIx (tVar 1) (tC (.int 0))) (tVar 0))) (tTest (tOp (cIn K true) (tOp cIx (tVar 1) (tC (.int 1))) (tVar 0))))) (tRet (tC (.bl false))) tNext)
  (tRet (tOp (cCmp fun i j=>decide (i < j)) (tBM K "list" (me K) (tVar 0) (tCons (tOp cIx (tVar 1) (tC (.int 0))) tNil)) (tBM K "list" (me K) (tVar 0) (tCons (tOp cIx (tVar 1) (tC (.int 1))) tNil)))))
theorem lC {K:PySem.W.Frag} {vs:List V} {H:Hp} {Q:VK} {E:XK} (h:bc K vs H Q E):di K { nx:=fun _ H'=>Q .non H',rt:=Q } (start ["cells","more"] vs) H:=by
 obtain ⟨C,M,cs,ms,rfl,hC,hn,hM,q⟩:=h
 show di K _ [some (.ref C),some (.ref M)] H
 unfold di
 rw [aV,aL]
 walk_at "w"
 rw [bv hM,List.length_map]
 walk_at "w"
 unfold ordB at q
 have e1:decide ((ms.length:Int)=2)=decide (ms.length=2):=by
  rw [Bool.eq_iff_iff,decide_eq_true_eq,decide_eq_true_eq]; omega
 rw [e1]
 cases hb:decide (ms.length=2) with
 | false=>
  rw [hb,Bool.false_and] at q
  walk_at "w"
  exact q
 | true=>
  rw [hb,Bool.true_and] at q
  have hl:=of_decide_eq_true hb
  walk_at "w"
  refine ixI hM (by decide) (by omega) ?_
  rw [show (0:Int).toNat=0 from rfl]
  walk_at "w"
  rw [lw hC]
  cases hb2:decide (ms.getD 0 0∈cs) with
  | false=>
   rw [hb2,Bool.false_and] at q
   refine ⟨true,rfl,iteT ?_⟩
   walk_at "w"
   exact q
  | true=>
   rw [hb2,Bool.true_and] at q
   refine ⟨false,rfl,iteF ?_⟩
   walk_at "w"
   refine ixI hM (by decide) (by omega) ?_
   rw [show (1:Int).toNat=1 from rfl]
   walk_at "w"
   rw [lw hC]
   cases hb3:decide (ms.getD 1 0∈cs) with
   | false=>
    rw [hb3,Bool.false_and] at q
    refine ⟨true,rfl,iteT ?_⟩
    walk_at "w"
    exact q
   | true=>
    rw [hb3,Bool.true_and] at q
    refine ⟨false,rfl,iteF ?_⟩
    walk_at "w"
    refine ⟨bq hC,?_⟩
    refine ixI hM (by decide) (by omega) ?_
    rw [show (0:Int).toNat=0 from rfl]
    walk_at "w"
    refine tp hC (of_decide_eq_true hb2) (by omega) ?_
    walk_at "w"
    refine ⟨bq hC,?_⟩
    refine ixI hM (by decide) (by omega) ?_
    rw [show (1:Int).toNat=1 from rfl]
    walk_at "w"
    refine tp hC (of_decide_eq_true hb3) (by omega) ?_
    walk_at "w"
    have e2:decide (((cs.findIdx (· ==ms.getD 0 0):Nat):Int) < ((cs.findIdx (· ==ms.getD 1 0):Nat):Int))=decide (tq cs (ms.getD 0 0) < tq cs (ms.getD 1 0)):=by
     rw [Bool.eq_iff_iff,decide_eq_true_eq,decide_eq_true_eq]; unfold tq; omega
    rw [e2]
    exact q
def orM (masks:List Int) (ms:List Int):Int:=Builtin.bitOr (masks.getD (ms.getD 0 0).toNat 0) (masks.getD (ms.getD 1 0).toNat 0)
def pairB (cs masks:List Int) (z s:Int) (ms:List Int):Bool:=ordB (cs.filter fun x=>!decide (x=z)) ms&&decide (((sgL (orM masks ms)).filter fun x=>!decide (x=s)).length≤1)
theorem Ar:((List.range 64).all fun a=>(List.range 64).all fun b=>decide (0≤Builtin.bitOr (a:Int) (b:Int))&&decide (Builtin.bitOr (a:Int) (b:Int) < 64))=true:=by decide+kernel
theorem vW {a b:Int} (a0:0≤a) (a1:a < 64) (b0:0≤b) (b1:b < 64):0≤Builtin.bitOr a b∧Builtin.bitOr a b < 64:=by
 have t:=List.all_eq_true.mp (List.all_eq_true.mp Ar a.toNat (List.mem_range.mpr (by omega))) b.toNat (List.mem_range.mpr (by omega))
 have e1:((a.toNat:Nat):Int)=a:=by omega
 have e2:((b.toNat:Nat):Int)=b:=by omega
 rw [e1,e2] at t
 simpa using t
theorem As:((List.range 64).all fun m=>decide (Builtin.Int.intBits (m:Int)≤6)&&decide (sgL (m:Int)=(([0,1,2,3,4,5]:List Nat).filter fun (i:Nat)=>stB (m:Int) (1+(i:Int))).map fun (i:Nat)=>1+(i:Int)))=true:=by decide+kernel
theorem xM {m:Int} (m0:0≤m) (m1:m < 64):Builtin.Int.intBits m≤6∧sgL m=(([0,1,2,3,4,5]:List Nat).filter fun (i:Nat)=>stB m (1+(i:Int))).map fun (i:Nat)=>1+(i:Int):=by
 have t:=List.all_eq_true.mp As m.toNat (List.mem_range.mpr (by omega))
 have e1:((m.toNat:Nat):Int)=m:=by omega
 rw [e1,Bool.and_eq_true,decide_eq_true_eq,decide_eq_true_eq] at t
 exact t
theorem y1 {masks:List Int} {i:Int} (mm:∀ m∈masks,0≤m∧m < 64) (i0:0≤i) (i1:i < masks.length):0≤masks.getD i.toNat 0∧masks.getD i.toNat 0 < 64:=by
 have hlt:i.toNat < masks.length:=by omega
 rw [List.getD,List.getElem?_eq_getElem hlt]
 exact mm _ (List.getElem_mem hlt)
def bR (K:PySem.W.Frag) (c:RCl RK):Sp:=fun vs H Q _=>∃ (k:RK) (r p A M:Addr) (ws:List (List Nat)) (cs masks ms:List Int) (n m z s:Int),vs=[.ref r,.ref A,.int z,.int s,.ref M]∧IsRule H c k r p ws cs n m∧cD cs masks.length∧(∀ m∈masks,0≤m∧m < 64)∧H A=some (.lst (masks.map V.int))∧H M=some (.lst (ms.map V.int))∧∀ H',Same H H'→Q (.bl (pairB cs masks z s ms)) H'
theorem pK {K:PySem.W.Frag} {c:RCl RK} {vs:List V} {H:Hp} {Q:VK} {E:XK} (h:bR K c vs H Q E):vs.length=5:=by
 obtain ⟨_,_,_,_,_,_,_,_,_,_,_,_,_,rfl,_⟩:=h; rfl
def gA (K:PySem.W.Frag) (c:RCl RK):TS:=
 (tSeq (tAsg (tCall (dq K) [] E0 (tCons (tOp cOr (tOp cIx (tVar 1) (tOp cIx (tVar 4) (tC (.int 0)))) (tOp cIx (tVar 1) (tOp cIx (tVar 4) (tC (.int 1))))) tNil)) (gName 5))
  (tRet (tOp (cCmp fun i j=>decide (i≤j)) (tCB kLen (tCons (tComp [none,none,some 3] (iList K (tVar 5)) (gName 1) (tTest (tOp (cNe K) (tVar 1) (tVar 2))) (tVar 1)) tNil)) (tC (.int 1)))))
def gq (K:PySem.W.Frag) (c:RCl RK):TS:=
 (tSeq (tIfS (tNot (tB (tCall (bc K) [] E0 (tCons (tCall (bn K c) [] E0 (tCons (tVar 0) (tCons (tVar 2) tNil))) (tCons (tVar 4) tNil))))) (tRet (tC (.bl false))) tNext)
  (gA K c))
theorem mB {K:PySem.W.Frag} {c:RCl RK} {H:Hp} {Q:VK} {A M:Addr} {cs masks ms:List Int} {z s:Int} {v0:V} (hC:cD cs masks.length) (mm:∀ m∈masks,0≤m∧m < 64) (hA:H A=some (.lst (masks.map V.int))) (hM:H M=some (.lst (ms.map V.int))) (ho:ordB (cs.filter fun x=>!decide (x=z)) ms=true)
  (q:∀ H',Same H H'→Q (.bl (decide (((sgL (orM masks ms)).filter fun x=>!decide (x=s)).length≤1))) H'):
  gA K c { nx:=fun _ H'=>Q .non H',rt:=Q } [some v0,some (.ref A),some (.int z),some (.int s),some (.ref M),none] H:=by
 unfold ordB at ho
 simp only [Bool.and_eq_true,decide_eq_true_eq] at ho
 obtain ⟨hl,m0,m1,_⟩:=ho
 have c0:=hC.2 _ (List.mem_filter.mp m0).1
 have c1:=hC.2 _ (List.mem_filter.mp m1).1
 have k0:=y1 mm c0.1 c0.2
 have k1:=y1 mm c1.1 c1.2
 have ol:=vW k0.1 k0.2 k1.1 k1.2
 have sb:=(xM ol.1 ol.2).1
 unfold gA
 walk_at "w"
 refine ixI hM (by decide) (by omega) ?_
 rw [show (0:Int).toNat=0 from rfl]
 walk_at "w"
 refine ixI hA c0.1 c0.2 ?_
 walk_at "w"
 refine ixI hM (by decide) (by omega) ?_
 rw [show (1:Int).toNat=1 from rfl]
 walk_at "w"
 refine ixI hA c1.1 c1.2 ?_
 walk_at "w"
 refine ⟨_,rfl,by omega,fun l H1 s1 hl1 el=>?_⟩
 have el2:H1 l=some (.lst ((sgL (orM masks ms)).map V.int)):=el
 have hsl:(sgL (orM masks ms)).length≤6:=by
  unfold orM
  rw [(xM ol.1 ol.2).2,List.length_map]
  exact List.length_filter_le _ _
 walk_at "w"
 refine ⟨⟨_,SqL.of el2⟩,?_⟩
 refine dh (xs:=sgL (orM masks ms)) (fun x=>!decide (x=s)) (fun x=>x) (by omega) (SqL.of el2) ?_ ?_ ?_
 · intro x H2 R hx s2 k2
   show tTest _ [none,some (.int x),some (.int s)] H2 R
   walk_at "w"
   exact k2 _ (Same.refl _)
 · intro x H2 Q2 hx hb s2 k2
   show tVar 1 [none,some (.int x),some (.int s)] H2 Q2
   walk_at "w"
   exact k2 _ (Same.refl _)
 · intro T H2 hT s2 eT
   rw [List.map_id'] at eT
   walk_at "w"
   rw [bv eT,List.length_map]
   walk_at "w"
   have e2:decide ((((sgL (orM masks ms)).filter fun x=>!decide (x=s)).length:Int)≤1)=decide (((sgL (orM masks ms)).filter fun x=>!decide (x=s)).length≤1):=by
    rw [Bool.eq_iff_iff,decide_eq_true_eq,decide_eq_true_eq]; omega
   rw [e2]
   exact q _ (s1.trans s2)
theorem pL {K:PySem.W.Frag} {c:RCl RK} {vs:List V} {H:Hp} {Q:VK} {E:XK} (h:bR K c vs H Q E):gq K c { nx:=fun _ H'=>Q .non H',rt:=Q } (start ["rule","masks","cell","sign","more","together"] vs) H:=by
 obtain ⟨k,r,p,A,M,ws,cs,masks,ms,n,m,z,s,rfl,x,hC,mm,hA,hM,q⟩:=h
 show gq K c _ [some (.ref r),some (.ref A),some (.int z),some (.int s),some (.ref M),none] H
 unfold gq
 rw [aV,aL]
 walk_at "w"
 refine ⟨k,r,p,ws,cs,n,m,z,rfl,x,hC.1,fun O H1 s1 hO eO=>?_⟩
 walk_at "w"
 refine ⟨O,M,_,ms,rfl,eO,Nat.le_trans (List.length_filter_le _ _) hC.1,s1 _ _ hM,?_⟩
 unfold pairB at q
 cases hb:ordB (cs.filter fun x=>!decide (x=z)) ms with
 | false=>
  rw [hb,Bool.false_and] at q
  refine ⟨false,rfl,iteT ?_⟩
  walk_at "w"
  exact q _ s1
 | true=>
  rw [hb,Bool.true_and] at q
  refine ⟨true,rfl,iteF ?_⟩
  exact mB hC mm (s1 _ _ hA) (s1 _ _ hM) hb fun H' s2=>q H' (s1.trans s2)
theorem zB (t:TK):decide (tkC t=[115,116,101,112])=decide (t=.step):=by cases t <;> decide
def be (K:PySem.W.Frag):Sp:=fun vs H Q _=>∃ (A C:Addr) (masks cs:List Int),vs=[.ref A,.ref C]∧H A=some (.lst (masks.map V.int))∧H C=some (.lst (cs.map V.int))∧cD cs masks.length∧∀ l H',Same H H'→H l=none→H' l=some (.lst ((sgAt masks cs).map V.int))→Q (.ref l) H'
theorem uE {K:PySem.W.Frag} {vs:List V} {H:Hp} {Q:VK} {E:XK} (h:be K vs H Q E):vs.length=2:=by
 obtain ⟨_,_,_,_,rfl,_⟩:=h; rfl
def jw (K:PySem.W.Frag):TS:=
 (tRet (tComp [none,none,some 0] (iList K (tVar 1)) (gName 1) tTrue (tOp cIx (tVar 2) (tVar 1))))
theorem uF {K:PySem.W.Frag} {vs:List V} {H:Hp} {Q:VK} {E:XK} (h:be K vs H Q E):jw K { nx:=fun _ H'=>Q .non H',rt:=Q } (start ["masks","cells"] vs) H:=by
 obtain ⟨A,C,masks,cs,rfl,hA,hC,⟨hn,hc⟩,q⟩:=h
 show jw K _ [some (.ref A),some (.ref C)] H
 unfold jw
 walk_at "w"
 refine ⟨⟨_,SqL.of hC⟩,?_⟩
 refine dh (xs:=cs) (fun _=>true) (fun c=>masks.getD c.toNat 0) (by omega) (SqL.of hC) ?_ ?_ ?_
 · intro x H1 R hx s1 k1
   exact k1 _ (Same.refl _)
 · intro z H1 Q1 hz hb s1 k1
   show tOp cIx _ _ [none,some (.int z),some (.ref A)] H1 Q1
   walk_at "w"
   have:=hc z hz
   exact ixI (s1 _ _ hA) this.1 (by omega) (k1 _ (Same.refl _))
 · intro l H1 hl s1 el
   rw [gy] at el
   exact q l H1 s1 hl el
def bJ (K:PySem.W.Frag):Sp:=fun vs H Q _=>∃ (C:Addr) (ms:List Int) (s:Int),vs=[.ref C,.int s]∧H C=some (.lst (ms.map V.int))∧ms.length≤63∧∀ H',Same H H'→Q (.int ((ms.filter fun m=>stB m s).length:Nat)) H'
theorem uG {K:PySem.W.Frag} {vs:List V} {H:Hp} {Q:VK} {E:XK} (h:bJ K vs H Q E):vs.length=2:=by
 obtain ⟨_,_,_,rfl,_⟩:=h; rfl
def jx (K:PySem.W.Frag):TS:=
 (tRet (tCB kLen (tCons (tComp [none,none,some 1] (iList K (tVar 0)) (gName 1) (tB (tCall (bm K) [] E0 (tCons (tVar 1) (tCons (tVar 2) tNil)))) (tVar 1)) tNil)))
theorem uH {K:PySem.W.Frag} {vs:List V} {H:Hp} {Q:VK} {E:XK} (h:bJ K vs H Q E):jx K { nx:=fun _ H'=>Q .non H',rt:=Q } (start ["some","sign"] vs) H:=by
 obtain ⟨C,ms,s,rfl,hC,hn,q⟩:=h
 show jx K _ [some (.ref C),some (.int s)] H
 unfold jx
 walk_at "w"
 refine ⟨⟨_,SqL.of hC⟩,?_⟩
 refine dh (xs:=ms) (fun m=>stB m s) (fun m=>m) (by omega) (SqL.of hC) ?_ ?_ ?_
 · intro x H1 R hx s1 k1
   show tB _ [none,some (.int x),some (.int s)] H1 R
   walk_at "w"
   exact ⟨x,s,rfl,_,rfl,k1 _ (Same.refl _)⟩
 · intro z H1 Q1 hz hb s1 k1
   show tVar 1 [none,some (.int z),some (.int s)] H1 Q1
   walk_at "w"
   exact k1 _ (Same.refl _)
 · intro l H1 hl s1 el
   rw [List.map_id'] at el
   rw [bv el,List.length_map]
   exact q _ s1
def lf (g:Int) (cs masks:List Int) (z s:Int) (ms:List Int):Bool:=decide ((cs.length:Int)=g)&&(decide (ms.length=1)&&(!decide (ms.getD 0 0=s)&&((decide (1≤ms.getD 0 0)&&decide (ms.getD 0 0≤g))&&decide (((sgAt masks (cs.filter fun x=>!decide (x=z))).filter fun m=>stB m (ms.getD 0 0)).length=0))))
def bG (K:PySem.W.Frag) (c:RCl RK):Sp:=fun vs H Q _=>∃ (k:RK) (f r p A M:Addr) (ws:List (List Nat)) (cs masks ms:List Int) (n m z s h w g:Int),vs=[.ref f,.ref r,.ref A,.int z,.int s,.ref M]∧IsFl H f h w g∧IsRule H c k r p ws cs n m∧cD cs masks.length∧H A=some (.lst (masks.map V.int))∧H M=some (.lst (ms.map V.int))∧∀ H',Same H H'→Q (.bl (lf g cs masks z s ms)) H'
theorem oe {K:PySem.W.Frag} {c:RCl RK} {vs:List V} {H:Hp} {Q:VK} {E:XK} (h:bG K c vs H Q E):vs.length=6:=by
 obtain ⟨_,_,_,_,_,_,_,_,_,_,_,_,_,_,_,_,_,rfl,_⟩:=h; rfl
def fS (K:PySem.W.Frag) (c:RCl RK):TS:=
 (tRet (tOp (cEq K) (tCall (bJ K) [] E0 (tCons (tCall (be K) [] E0 (tCons (tVar 2) (tCons (tCall (bn K c) [] E0 (tCons (tVar 1) (tCons (tVar 3) tNil))) tNil))) (tCons (tOp cIx (tVar 5) (tC (.int 0))) tNil))) (tC (.int 0))))
def i6 (K:PySem.W.Frag) (c:RCl RK):TS:=
 (tSeq (tIfS (tOr (tTest (tOp (cEq K) (tOp cIx (tVar 5) (tC (.int 0))) (tVar 4))) (tNot (tB (tCall (cb K) [] E0 (tCons (tVar 0) (tCons (tOp cIx (tVar 5) (tC (.int 0))) tNil)))))) (tRet (tC (.bl false))) tNext)
  (fS K c))
def fA (K:PySem.W.Frag) (c:RCl RK):TS:=
 (tSeq (tIfS (tOr (tTest (tOp (cNe K) (tCB kLen (tCons (cR c c.ok "spots" (dB K c) (tVar 1) tNil) tNil)) (tOp cIx (tVar 0) (tC (.int 2))))) (tTest (tOp (cNe K) (tCB kLen (tCons (tVar 5) tNil)) (tC (.int 1))))) (tRet (tC (.bl false))) tNext)
  (i6 K c))
theorem lN {K:PySem.W.Frag} {c:RCl RK} {H:Hp} {Q:VK} {k:RK} {f r p A M:Addr} {ws:List (List Nat)} {cs masks ms:List Int} {n m z s:Int} (x:IsRule H c k r p ws cs n m) (hC:cD cs masks.length) (hA:H A=some (.lst (masks.map V.int))) (hM:H M=some (.lst (ms.map V.int))) (hl:ms.length=1)
  (q:∀ H',Same H H'→Q (.bl (decide (((sgAt masks (cs.filter fun x=>!decide (x=z))).filter fun m=>stB m (ms.getD 0 0)).length=0))) H'):
  fS K c { nx:=fun _ H'=>Q .non H',rt:=Q } [some (.ref f),some (.ref r),some (.ref A),some (.int z),some (.int s),some (.ref M)] H:=by
 unfold fS
 walk_at "w"
 refine ⟨k,r,p,ws,cs,n,m,z,rfl,x,hC.1,fun O H1 s1 hO eO=>?_⟩
 walk_at "w"
 have hC2:cD (cs.filter fun x=>!decide (x=z)) masks.length:=⟨Nat.le_trans (List.length_filter_le _ _) hC.1,fun y hy=>hC.2 y (List.mem_filter.mp hy).1⟩
 refine ⟨A,O,masks,_,rfl,s1 _ _ hA,eO,hC2,fun B H2 s2 hB eB=>?_⟩
 dsimp only
 refine ixI ((s1.trans s2) _ _ hM) (by decide) (by omega) ?_
 rw [show (0:Int).toNat=0 from rfl]
 walk_at "w"
 refine ⟨B,_,_,rfl,eB,by unfold sgAt; rw [List.length_map]; exact hC2.1,fun H3 s3=>?_⟩
 walk_at "w"
 have q1:=q H3 ((s1.trans s2).trans s3)
 have e:decide ((((sgAt masks (cs.filter fun x=>!decide (x=z))).filter fun m=>stB m (ms.getD 0 0)).length:Int)=0)=decide (((sgAt masks (cs.filter fun x=>!decide (x=z))).filter fun m=>stB m (ms.getD 0 0)).length=0):=by
  rw [Bool.eq_iff_iff,decide_eq_true_eq,decide_eq_true_eq]; omega
 rw [e]
 exact q1
theorem og {K:PySem.W.Frag} {c:RCl RK} {vs:List V} {H:Hp} {Q:VK} {E:XK} (h:bG K c vs H Q E):fA K c { nx:=fun _ H'=>Q .non H',rt:=Q } (start ["floor","rule","masks","cell","sign","more"] vs) H:=by
 obtain ⟨k,f,r,p,A,M,ws,cs,masks,ms,n,m,z,s,h,w,g,rfl,hf,x,hC,hA,hM,q⟩:=h
 obtain ⟨dx,W,C,h1,h2,h3⟩:=x.ex
 show fA K c _ [some (.ref f),some (.ref r),some (.ref A),some (.int z),some (.int s),some (.ref M)] H
 unfold fA
 rw [aV,aL]
 walk_at "w"
 refine methE (k:=k) rfl x.ok h1 (by rfl) ?_
 walk_at "w"
 refine ⟨r,p,ws,cs,n,m,rfl,x,fun l hl=>?_⟩
 have s1:Same H (upd H l (.lst (cs.map V.int))):=(Same.refl H).laid hl
 have el:(upd H l (.lst (cs.map V.int))) l=some (.lst (cs.map V.int)):=ah
 generalize upd H l (.lst (cs.map V.int))=H1 at*
 dsimp only
 rw [bv el,List.length_map]
 refine ixT (s1 _ _ hf) (v:=V.int g) rfl ?_
 walk_at "w"
 unfold lf at q
 cases hb:decide ((cs.length:Int)=g) with
 | false=>
  rw [hb,Bool.false_and] at q
  walk_at "w"
  exact q _ s1
 | true=>
  rw [hb,Bool.true_and] at q
  walk_at "w"
  rw [bv (s1 _ _ hM),List.length_map]
  walk_at "w"
  have e1:decide ((ms.length:Int)=1)=decide (ms.length=1):=by
   rw [Bool.eq_iff_iff,decide_eq_true_eq,decide_eq_true_eq]; omega
  rw [e1]
  cases hb2:decide (ms.length=1) with
  | false=>
   rw [hb2,Bool.false_and] at q
   walk_at "w"
   exact q _ s1
  | true=>
   rw [hb2,Bool.true_and] at q
   have hl1:=of_decide_eq_true hb2
   walk_at "w"
   unfold i6
   rw [aV,aL]
   walk_at "w"
   refine ixI (s1 _ _ hM) (by decide) (by omega) ?_
   rw [show (0:Int).toNat=0 from rfl]
   walk_at "w"
   cases hb3:decide (ms.getD 0 0=s) with
   | true=>
    rw [hb3,Bool.not_true,Bool.false_and] at q
    refine iteT ?_
    walk_at "w"
    exact q _ s1
   | false=>
    rw [hb3,Bool.not_false,Bool.true_and] at q
    refine iteF ?_
    refine ixI (s1 _ _ hM) (by decide) (by omega) ?_
    rw [show (0:Int).toNat=0 from rfl]
    walk_at "w"
    refine ⟨f,h,w,g,_,rfl,s1 _ _ hf,?_⟩
    cases hb4:(decide (1≤ms.getD 0 0)&&decide (ms.getD 0 0≤g)) with
    | false=>
     rw [hb4,Bool.false_and] at q
     refine ⟨false,rfl,iteT ?_⟩
     walk_at "w"
     exact q _ s1
    | true=>
     rw [hb4,Bool.true_and] at q
     refine ⟨true,rfl,iteF ?_⟩
     exact lN (x.same s1) hC (s1 _ _ hA) (s1 _ _ hM) hl1 fun H' s2=>q H' (s1.trans s2)
theorem yG (t:TK):decide (tkC t=[112,108,97,99,101])=decide (t=.place):=by cases t <;> decide
def pM (g:Int) (t:TK) (x:RR) (masks:List Int) (z s:Int) (ms:List Int):Bool:=match t with
 | .only=>onlyB x.cs masks z s ms
 | .place=>lf g x.cs masks z s ms
 | _=>pairB x.cs masks z s ms
def lg (g:Int) (rows:List RR) (cl masks:List Int) (t:TK) (r z s:Int) (ms:List Int):Bool:=match t with
 | .clue=>clueB cl z s ms
 | _=>match rows[r.toNat]? with
  | none=>false
  | some x=>pM g t x masks z s ms
abbrev K28 (t:TK):Prop:=t=.clue∨t=.only∨t=.place∨t=.pair
def bd (K:PySem.W.Frag) (c:RCl RK) (d:RCl PzK):Sp:=fun vs H Q _=>∃ (P L G A T M:Addr) (h w g:Int) (rows:List RR) (cl masks:List Int) (t:TK) (r z s:Int) (ms:List Int),vs=[.ref P,.ref A,.ref T]∧Asks H c d P L G A T M h w g rows cl masks t r z s ms∧K28 t∧(∀ m∈masks,0≤m∧m < 64)∧formB h w g rows t r z s=true∧∀ H',Same H H'→Q (.bl (lg g rows cl masks t r z s ms)) H'
theorem lD {K:PySem.W.Frag} {c:RCl RK} {d:RCl PzK} {vs:List V} {H:Hp} {Q:VK} {E:XK} (h:bd K c d vs H Q E):vs.length=3:=by
 obtain ⟨_,_,_,_,_,_,_,_,_,_,_,_,_,_,_,_,_,rfl,_⟩:=h; rfl
def dj (K:PySem.W.Frag) (c:RCl RK) (d:RCl PzK):TS:=
 (tSeq (tAsg (tOp cIx (tVar 2) (tC (.int 0))) (gName 3))
  (tSeq (tAsg (tOp cIx (tVar 2) (tC (.int 2))) (gName 4))
  (tSeq (tAsg (tOp cIx (tVar 2) (tC (.int 3))) (gName 5))
  (tSeq (tAsg (tOp cIx (tVar 2) (tC (.int 4))) (gName 6))
  (tSeq (tIfS (tTest (tOp (cEq K) (tVar 3) (tC (.str (tx [99,108,117,101]))))) (tRet (tCall (bP K) [] E0 (tCons (cR d d.ok "clues" (kq K c d) (tVar 0) tNil) (tCons (tVar 4) (tCons (tVar 5) (tCons (tVar 6) tNil)))))) tNext)
  (tSeq (tAsg (tOp cIx (cR d d.ok "rules" (dD K c d) (tVar 0) tNil) (tOp cIx (tVar 2) (tC (.int 1)))) (gName 7))
  (tSeq (tIfS (tTest (tOp (cEq K) (tVar 3) (tC (.str (tx [111,110,108,121]))))) (tRet (tCall (bQ K c) [] E0 (tCons (tVar 7) (tCons (tVar 1) (tCons (tVar 4) (tCons (tVar 5) (tCons (tVar 6) tNil))))))) tNext)
  (tSeq (tIfS (tTest (tOp (cEq K) (tVar 3) (tC (.str (tx [112,108,97,99,101]))))) (tRet (tCall (bG K c) [] E0 (tCons (cR d d.ok "place" (dC K c d) (tVar 0) tNil) (tCons (tVar 7) (tCons (tVar 1) (tCons (tVar 4) (tCons (tVar 5) (tCons (tVar 6) tNil)))))))) tNext)
  (tSeq (tIfS (tTest (tOp (cEq K) (tVar 3) (tC (.str (tx [115,116,101,112]))))) (tRet qA) tNext)
  (tRet (tCall (bR K c) [] E0 (tCons (tVar 7) (tCons (tVar 1) (tCons (tVar 4) (tCons (tVar 5) (tCons (tVar 6) tNil))))))))))))))))
theorem lE {K:PySem.W.Frag} {c:RCl RK} {d:RCl PzK} {vs:List V} {H:Hp} {Q:VK} {E:XK} (h:bd K c d vs H Q E):dj K c d { nx:=fun _ H'=>Q .non H',rt:=Q } (start ["puzzle","masks","thought","kind","cell","sign","more","rule"] vs) H:=by
 obtain ⟨P,L,G,A,T,M,h,w,g,rows,cl,masks,t,r,z,s,ms,rfl,X,ht,mm,f,q⟩:=h
 obtain ⟨dx,p,rs,h1,h2,h3⟩:=X.P.ex
 obtain ⟨z0,z1,s0,s1',hit⟩:=my f
 have hcl:=X.P.C.len
 have hg:=X.P.R.F.g1
 show dj K c d _ [some (.ref P),some (.ref A),some (.ref T),none,none,none,none,none] H
 unfold dj
 walk_at "w"
 refine ixT X.T.T (v:=V.str (tx (tkC t))) rfl ?_
 walk_at "w"
 refine ixT X.T.T (v:=V.int z) rfl ?_
 walk_at "w"
 refine ixT X.T.T (v:=V.int s) rfl ?_
 walk_at "w"
 refine ixT X.T.T (v:=V.ref M) rfl ?_
 walk_at "w"
 rw [aL]
 walk_at "w"
 rw [e7,vd]
 by_cases hc:t=.clue
 · subst hc
   rw [decide_eq_true rfl]
   refine iteT ?_
   refine methE (k:=.Puzzle) rfl X.P.ok h1 (by rfl) ?_
   walk_at "w"
   refine ⟨P,L,G,h,w,g,rows,cl,rfl,X.P,fun l hl=>?_⟩
   have s2:Same H (upd H l (.lst (cl.map V.int))):=(Same.refl H).laid hl
   exact ⟨l,M,z,s,cl,ms,rfl,ah,z0,by omega,s2 _ _ X.T.M,fun H' s3=>q H' (s2.trans s3)⟩
 · rw [decide_eq_false hc]
   obtain ⟨r0,y,ey,_,hz⟩:=m5 hc hit
   have q2:∀ H',Same H H'→Q (.bl (pM g t y masks z s ms)) H':=fun H' s'=>by
    have q1:=q H' s'
    have e:lg g rows cl masks t r z s ms=pM g t y masks z s ms:=by
     unfold lg
     cases t <;> first | exact absurd rfl hc | (dsimp only; rw [ey])
    rw [e] at q1
    exact q1
   refine iteF ?_
   refine methE (k:=.Puzzle) rfl X.P.ok h1 (by rfl) ?_
   walk_at "w"
   refine ⟨P,L,G,h,w,g,rows,cl,rfl,X.P,fun l p2 rs2 hl hp2 Y=>?_⟩
   have s2:Same H (upd H l (.lst (rs2.map V.ref))):=(Same.refl H).laid hl
   generalize upd H l (.lst (rs2.map V.ref))=H1 at*
   have hlt:=(List.getElem?_eq_some_iff.mp ey).1
   have hlen:=Y.len
   have ea:rs2[r.toNat]? =some rs2[r.toNat]:=List.getElem?_eq_getElem (by omega)
   have O:=X.P.R.ok y (List.mem_of_getElem? ey)
   have hin:cD y.cs masks.length:=by rw [X.n]; exact RR.cin22 O X.P.R.F
   dsimp only
   refine ixT (s2 _ _ X.T.T) (v:=V.int r) rfl ?_
   refine ixL Y.top (nP r0 ea) ?_
   walk_at "w"
   rw [aL]
   walk_at "w"
   rw [e7,zy]
   by_cases ho:t=.only
   · subst ho
     rw [decide_eq_true rfl]
     refine iteT ?_
     walk_at "w"
     exact ⟨_,_,p2,A,M,_,y.cs,masks,ms,_,_,z,s,rfl,Y.at_ _ _ _ ea ey,hin,s2 _ _ X.A,s2 _ _ X.T.M,by omega,fun H' s3=>q2 H' (s2.trans s3)⟩
   · rw [decide_eq_false ho]
     refine iteF ?_
     rw [aL]
     walk_at "w"
     rw [e7,yG]
     by_cases hp:t=.place
     · subst hp
       rw [decide_eq_true rfl]
       refine iteT ?_
       refine methE (k:=.Puzzle) rfl X.P.ok (s2 _ _ h1) (by rfl) ?_
       walk_at "w"
       refine ⟨P,L,G,h,w,g,rows,cl,rfl,X.P.same s2,fun p3 hp3=>?_⟩
       walk_at "w"
       exact ⟨_,p3,_,p2,A,M,_,y.cs,masks,ms,_,_,z,s,h,w,g,rfl,hp3,Y.at_ _ _ _ ea ey,hin,s2 _ _ X.A,s2 _ _ X.T.M,fun H' s3=>q2 H' (s2.trans s3)⟩
     · have hpr:t=.pair:=((ht.resolve_left hc).resolve_left ho).resolve_left hp
       subst hpr
       rw [decide_eq_false hp]
       refine iteF ?_
       rw [aL]
       walk_at "w"
       rw [e7,zB,decide_eq_false (show ¬ TK.pair=TK.step by decide)]
       refine iteF ?_
       walk_at "w"
       exact ⟨_,_,p2,A,M,_,y.cs,masks,ms,_,_,z,s,rfl,Y.at_ _ _ _ ea ey,hin,mm,s2 _ _ X.A,s2 _ _ X.T.M,fun H' s3=>q2 H' (s2.trans s3)⟩
end L2
namespace L2
open PySem PySem.Spec PyProof.Rows
def lh:List V→Hp→VK→Prop
 | [.int i,.int j],H,Q=>CDiv i j∧∀ p,H p=none→Q (.ref p) (upd H p (.tup [.int (i / j),.int (i % j)]))
 | _,_,_=>False
theorem mC {X:Cx}:CallR X (.builtin "divmod") lh:=by
 intro pins s σ H xs us Q I r h
 unfold lh at h
 split at h
 · exact ui pins s σ H _ us Q I r ⟨_,_,rfl,h.1,h.2⟩
 · exact h.elim
theorem qW:bootBuiltins "divmod"=some (.builtin "divmod"):=by decide+kernel
theorem tu {i j:Int} {H:Hp} {Q:VK}:lh [.int i,.int j] H Q=(CDiv i j∧∀ p,H p=none→Q (.ref p) (upd H p (.tup [.int (i / j),.int (i % j)]))):=rfl
end L2
namespace L2
open PySem PySem.Spec PyProof.Rows
local macro_rules | `(tactic| walk_at "w")=>`(tactic| (first | simp only [aV,mj,o1,kn,mq,lb,lc,o4,oY,mh,oZ,if_true,if_false,Bool.false_eq_true,decide_true,decide_false,kc,ke,mY,jc,ij,ka,kX,kb,jb,kU,kW,ja,mV,jd,je,jg,jh,ji,jj,jf,kY,kZ,la,kS,mX,Bool.not_true,Bool.not_false,gT,g7,db,jn,w_c,lq,ip,iq,gU,iu,w_b,w_not,jD,lr,iw,iy,jE,jo,gW,lu,iz,jF,jG,kN,jH,iA,iB,iC,iD,gP,gQ,e6,fj,fk,dS,jI,jJ,jK,jL,jM,jN,jO,jP,jQ,jR,jS,jT,lx,iE,fm,iF,ly,iG,gR,fq,jU,jV,iH,gX,iI,
 List.getElem?_cons_zero,List.getElem?_cons_succ,Option.some.injEq,exists_eq_left',exists_eq_left,List.set_cons_zero,List.set_cons_succ,d6,V.int.injEq,V.bl.injEq,V.ref.injEq,V.str.injEq,List.append_nil,List.nil_append,List.cons_append] | dsimp only | skip))
def bu (K:PySem.W.Frag):Sp:=fun vs H Q _=>∃ (C:Addr) (ms:List Int) (s:Int),vs=[.ref C,.int s]∧H C=some (.lst (ms.map V.int))∧ms.length≤63∧s≤100000∧∀ H',Same H H'→Q (.int ((ms.filter fun m=>decide (woI m s=0)).length:Nat)) H'
theorem tw {K:PySem.W.Frag} {vs:List V} {H:Hp} {Q:VK} {E:XK} (h:bu K vs H Q E):vs.length=2:=by
 obtain ⟨_,_,_,rfl,_⟩:=h; rfl
def iW (K:PySem.W.Frag):TS:=
 (tRet (tCB kLen (tCons (tComp [none,none,some 1] (iList K (tVar 0)) (gName 1) (tB (tCall (aX K) [] E0 (tCons (tVar 1) (tCons (tVar 2) tNil)))) (tVar 1)) tNil)))
theorem tz {K:PySem.W.Frag} {vs:List V} {H:Hp} {Q:VK} {E:XK} (h:bu K vs H Q E):iW K { nx:=fun _ H'=>Q .non H',rt:=Q } (start ["some","sign"] vs) H:=by
 obtain ⟨C,ms,s,rfl,hC,hn,hs,q⟩:=h
 show iW K _ [some (.ref C),some (.int s)] H
 unfold iW
 walk_at "w"
 refine ⟨⟨_,SqL.of hC⟩,?_⟩
 refine dh (xs:=ms) (fun m=>decide (woI m s=0)) (fun m=>m) (by omega) (SqL.of hC) ?_ ?_ ?_
 · intro x H1 R hx s1 k1
   show tB _ [none,some (.int x),some (.int s)] H1 R
   walk_at "w"
   exact ⟨x,s,rfl,hs,_,rfl,k1 _ (Same.refl _)⟩
 · intro z H1 Q1 hz hb s1 k1
   show tVar 1 [none,some (.int z),some (.int s)] H1 Q1
   walk_at "w"
   exact k1 _ (Same.refl _)
 · intro l H1 hl s1 el
   rw [List.map_id'] at el
   rw [bv el,List.length_map]
   exact q _ s1
def rosP (c z:Int) (q:List Int):Bool:=decide (q.getD 0 0=c)&&decide (z∈q)
def rosL (h w c z:Int):List Int:=match (squL h w).find? (rosP c z) with
 | none=>[]
 | some q=>q.filter fun x=>!decide (x=z)
theorem ve {h w:Int} {q:List Int} (hq:q∈squL h w):∃ i:Nat,i < (h*w).toNat∧cornB h w i=true∧q=sqL w i:=by
 unfold squL at hq
 obtain ⟨i,hi,rfl⟩:=List.mem_map.mp hq
 obtain ⟨hi,hc⟩:=List.mem_filter.mp hi
 exact ⟨i,List.mem_range.mp hi,hc,rfl⟩
theorem zC {h w c:Int} (w0:1≤w) (c0:0≤c) (hc:cornB h w c=true):c+w+1 < h*w:=by
 unfold cornB at hc
 rw [Bool.and_eq_true,decide_eq_true_eq,decide_eq_true_eq] at hc
 have e:=Int.mul_ediv_add_emod c w
 have m:=Int.mul_le_mul_of_nonneg_left (show c / w+2≤h by omega) (show 0≤w by omega)
 rw [Int.mul_add] at m
 rw [Int.mul_comm h w]
 omega
theorem AV {h w c x:Int} (w0:1≤w) (c0:0≤c) (hc:cornB h w c=true) (hx:x∈sqL w c):0≤x∧x < h*w:=by
 have:=zC w0 c0 hc
 simp [sqL] at hx
 omega
theorem At {h w g c z:Int} {n:Nat} (F:FlOk h w g) (hn:n=(h*w).toNat):cD (rosL h w c z) n:=by
 have w0:=F.w0
 unfold rosL
 cases e:(squL h w).find? (rosP c z) with
 | none=>exact ⟨by show (0:Nat)≤63; omega,fun x hx=>by cases hx⟩
 | some q=>
  obtain ⟨i,hi,hc,rfl⟩:=ve (List.mem_of_find?_eq_some e)
  refine ⟨Nat.le_trans (List.length_filter_le _ _) (by show (4:Nat)≤63; omega),fun x hx=>?_⟩
  have:=AV w0 (by omega) hc (List.mem_filter.mp hx).1
  omega
def bw (K:PySem.W.Frag):Sp:=fun vs H Q _=>∃ (f:Addr) (h w g c z:Int),vs=[.ref f,.int c,.int z]∧IsFl H f h w g∧FlOk h w g∧∀ l H',Same H H'→H l=none→H' l=some (.lst ((rosL h w c z).map V.int))→Q (.ref l) H'
theorem m9 {K:PySem.W.Frag} {vs:List V} {H:Hp} {Q:VK} {E:XK} (h:bw K vs H Q E):vs.length=3:=by
 obtain ⟨_,_,_,_,_,_,rfl,_⟩:=h; rfl
def eF (K:PySem.W.Frag):TS:=
 (tSeq (tFor (iList K (tCall (dU K) [] E0 (tCons (tVar 0) tNil))) (gName 3)
  (tIfS (tAnd (tTest (tOp (cEq K) (tOp cIx (tVar 3) (tC (.int 0))) (tVar 1))) (tTest (tOp (cIn K false) (tVar 2) (tVar 3)))) (tRet (tComp [none,none,some 2] (iList K (tVar 3)) (gName 1) (tTest (tOp (cNe K) (tVar 1) (tVar 2))) (tVar 1))) tNext))
  (tRet (tLst tNil)))
theorem nc {K:PySem.W.Frag} {vs:List V} {H:Hp} {Q:VK} {E:XK} (h:bw K vs H Q E):eF K { nx:=fun _ H'=>Q .non H',rt:=Q } (start ["floor","corner","cell","square"] vs) H:=by
 obtain ⟨f,h,w,g,c,z,rfl,hf,F,q⟩:=h
 show eF K _ [some (.ref f),some (.int c),some (.int z),none] H
 unfold eF
 rw [aV]
 walk_at "w"
 refine ⟨f,h,w,g,rfl,hf,F,fun l as H1 s1 hl x nd nl hn=>?_⟩
 refine ⟨l,rfl,⟨_,SqL.of x.top⟩,?_⟩
 refine li (K:=K) (xs:=as.map V.ref) (fun i σ H'=>∃ sv:Option V,σ=[some (.ref f),some (.int c),some (.int z),sv]∧Same H1 H'∧∀ (j:Nat) (q:List Int),j < i→(squL h w)[j]? =some q→rosP c z q=false) ⟨none,rfl,Same.refl _,fun j q hj=>by omega⟩ (fun i σ H' _ ⟨_,_,s,_⟩=>s.seq (SqL.of x.top)) ?_ ?_
 · rintro i v σ H2 hv ⟨sv,rfl,s2,hno⟩
   rw [List.getElem?_map] at hv
   cases ha:as[i]? with
   | none=>rw [ha] at hv; cases hv
   | some a=>
   rw [ha] at hv
   cases hv
   have hlt:i < (squL h w).length:=by rw [← x.len]; exact (List.getElem?_eq_some_iff.mp ha).1
   have eq:(squL h w)[i]? =some (squL h w)[i]:=List.getElem?_eq_getElem hlt
   have ea:=(x.same s2).at_ i a _ ha eq
   have q4:((squL h w)[i]).length=4:=by
    obtain ⟨k,_,_,e⟩:=ve (List.getElem_mem hlt)
    rw [e]; rfl
   have nx:rosP c z (squL h w)[i]=false→∀ (j:Nat) (q:List Int),j < i+1→(squL h w)[j]? =some q→rosP c z q=false:=fun hf j q hj hq=>by
    by_cases hji:j=i
    · subst hji
      rw [eq] at hq
      cases hq
      exact hf
    · exact hno j q (by omega) hq
   have fo:rosP c z (squL h w)[i]=true→rosL h w c z=(squL h w)[i].filter fun x=>!decide (x=z):=fun ht=>by
    have e:(squL h w).find? (rosP c z)=some (squL h w)[i]:=by
     rw [List.find?_eq_some_iff_getElem]
     refine ⟨ht,i,hlt,rfl,fun j hj=>?_⟩
     rw [hno j _ hj (List.getElem?_eq_getElem (by omega))]
     rfl
    unfold rosL
    rw [e]
   generalize (squL h w)[i]=sq at*
   unfold rosP at nx fo
   walk_at "w"
   rw [aL]
   walk_at "w"
   refine ixI ea (by decide) (by omega) ?_
   rw [show (0:Int).toNat=0 from rfl]
   walk_at "w"
   cases hb:decide (sq.getD 0 0=c) with
   | false=>
    rw [hb,Bool.false_and] at nx
    refine iteF ?_
    walk_at "w"
    exact ⟨_,rfl,s2,nx rfl⟩
   | true=>
    rw [hb,Bool.true_and] at nx fo
    refine iteT ?_
    rw [qq ea]
    cases hb2:decide (z∈sq) with
    | false=>
     rw [hb2] at nx
     refine ⟨false,rfl,?_⟩
     walk_at "w"
     exact ⟨_,rfl,s2,nx rfl⟩
    | true=>
     rw [hb2] at fo
     refine ⟨true,rfl,?_⟩
     walk_at "w"
     refine ⟨⟨_,SqL.of ea⟩,?_⟩
     refine dh (xs:=sq) (fun x=>!decide (x=z)) (fun x=>x) (by omega) (SqL.of ea) ?_ ?_ ?_
     · intro y H3 R hy s3 k3
       show tTest _ [none,some (.int y),some (.int z)] H3 R
       walk_at "w"
       exact k3 _ (Same.refl _)
     · intro y H3 Q3 hy hb s3 k3
       show tVar 1 [none,some (.int y),some (.int z)] H3 Q3
       walk_at "w"
       exact k3 _ (Same.refl _)
     · intro T H3 hT s3 eT
       rw [List.map_id',← fo rfl] at eT
       exact q T H3 ((s1.trans s2).trans s3) ((s1.trans s2).free hT) eT
 · rintro σ H2 ⟨sv,rfl,s2,hno⟩
   have e:rosL h w c z=[]:=by
    have e:(squL h w).find? (rosP c z)=none:=by
     rw [List.find?_eq_none]
     intro q hq
     obtain ⟨i,hi⟩:=List.getElem?_of_mem hq
     rw [hno i q (by rw [List.length_map,x.len]; exact (List.getElem?_eq_some_iff.mp hi).1) hi]
     decide
    unfold rosL
    rw [e]
   walk_at "w"
   refine ⟨aE (by decide),fun T hT=>?_⟩
   exact q T _ ((s1.trans s2).trans ((Same.refl H2).laid hT)) ((s1.trans s2).free hT) (by rw [ah,e]; rfl)
def squB (h w m:Int) (masks:List Int) (z s:Int) (ms:List Int):Bool:=decide (s=m)&&(decide (ms.length=1)&&(!decide (rosL h w (ms.getD 0 0) z=[])&&decide (((sgAt masks (rosL h w (ms.getD 0 0) z)).filter fun k=>decide (woI k s=0)).length=(rosL h w (ms.getD 0 0) z).length)))
def bx (K:PySem.W.Frag) (c:RCl RK):Sp:=fun vs H Q _=>∃ (k:RK) (f r p A M:Addr) (ws:List (List Nat)) (cs masks ms:List Int) (n m z s h w g:Int),vs=[.ref f,.ref r,.ref A,.int z,.int s,.ref M]∧IsFl H f h w g∧FlOk h w g∧IsRule H c k r p ws cs n m∧masks.length=(h*w).toNat∧H A=some (.lst (masks.map V.int))∧H M=some (.lst (ms.map V.int))∧s≤1000∧∀ H',Same H H'→Q (.bl (squB h w m masks z s ms)) H'
theorem ng {K:PySem.W.Frag} {c:RCl RK} {vs:List V} {H:Hp} {Q:VK} {E:XK} (h:bx K c vs H Q E):vs.length=6:=by
 obtain ⟨_,_,_,_,_,_,_,_,_,_,_,_,_,_,_,_,_,rfl,_⟩:=h; rfl
def fB (K:PySem.W.Frag) (c:RCl RK):TS:=
 (tSeq (tAsg (tCall (bw K) [] E0 (tCons (tVar 0) (tCons (tOp cIx (tVar 5) (tC (.int 0))) (tCons (tVar 3) tNil)))) (gName 6))
  (tRet (tAndV (tOp (cNe K) (tVar 6) (tLst tNil)) (tOp (cEq K) (tCall (bu K) [] E0 (tCons (tCall (be K) [] E0 (tCons (tVar 2) (tCons (tVar 6) tNil))) (tCons (tVar 4) tNil))) (tCB kLen (tCons (tVar 6) tNil))))))
def eI (K:PySem.W.Frag) (c:RCl RK):TS:=
 (tSeq (tIfS (tOr (tTest (tOp (cNe K) (tVar 4) (cR c c.ok "sign" (fc K c) (tVar 1) tNil))) (tTest (tOp (cNe K) (tCB kLen (tCons (tVar 5) tNil)) (tC (.int 1))))) (tRet (tC (.bl false))) tNext)
  (fB K c))
theorem lF {K:PySem.W.Frag} {c:RCl RK} {H:Hp} {Q:VK} {f A M:Addr} {v1:V} {masks ms:List Int} {z s h w g:Int} (hf:IsFl H f h w g) (F:FlOk h w g) (hml:masks.length=(h*w).toNat) (hA:H A=some (.lst (masks.map V.int))) (hM:H M=some (.lst (ms.map V.int))) (hl:ms.length=1) (hs:s≤1000)
  (q:∀ H',Same H H'→Q (.bl (!decide (rosL h w (ms.getD 0 0) z=[])&&decide (((sgAt masks (rosL h w (ms.getD 0 0) z)).filter fun k=>decide (woI k s=0)).length=(rosL h w (ms.getD 0 0) z).length))) H'):
  fB K c { nx:=fun _ H'=>Q .non H',rt:=Q } [some (.ref f),some v1,some (.ref A),some (.int z),some (.int s),some (.ref M),none] H:=by
 have hin:=At (c:=ms.getD 0 0) (z:=z) F hml
 unfold fB
 walk_at "w"
 refine ixI hM (by decide) (by omega) ?_
 rw [show (0:Int).toNat=0 from rfl]
 walk_at "w"
 refine ⟨f,h,w,g,_,z,rfl,hf,F,fun R H1 s1 hR eR=>?_⟩
 walk_at "w"
 refine ⟨aE (by decide),fun Z hZ=>?_⟩
 have s2:Same H1 (upd H1 Z (.lst [])):=(Same.refl H1).laid hZ
 have eZ:(upd H1 Z (.lst [])) Z=some (.lst (([]:List Int).map V.int)):=ah
 generalize upd H1 Z (.lst [])=H2 at*
 have s12:=s1.trans s2
 refine yW (s2 _ _ eR) eZ ?_
 generalize hros:rosL h w (ms.getD 0 0) z=ros at*
 cases hb:decide (ros=[]) with
 | true=>
  rw [hb,Bool.not_true] at q
  refine ⟨false,rfl,iteF ?_⟩
  exact q _ s12
 | false=>
  rw [hb,Bool.not_false] at q
  refine ⟨true,rfl,iteT ?_⟩
  walk_at "w"
  refine ⟨A,R,masks,ros,rfl,s12 _ _ hA,s2 _ _ eR,hin,fun B H3 s3 hB eB=>?_⟩
  dsimp only
  refine ⟨B,_,s,rfl,eB,by unfold sgAt; rw [List.length_map]; exact hin.1,by omega,fun H4 s4=>?_⟩
  walk_at "w"
  rw [bv (((s2.trans s3).trans s4) _ _ eR),List.length_map]
  walk_at "w"
  have q1:=q H4 ((s12.trans s3).trans s4)
  have e:decide ((((sgAt masks ros).filter fun k=>decide (woI k s=0)).length:Int)=(ros.length:Int))=decide (((sgAt masks ros).filter fun k=>decide (woI k s=0)).length=ros.length):=by
   rw [Bool.eq_iff_iff,decide_eq_true_eq,decide_eq_true_eq]; omega
  rw [e]
  exact q1
theorem nh {K:PySem.W.Frag} {c:RCl RK} {vs:List V} {H:Hp} {Q:VK} {E:XK} (h:bx K c vs H Q E):eI K c { nx:=fun _ H'=>Q .non H',rt:=Q } (start ["floor","rule","masks","cell","sign","more","rest"] vs) H:=by
 obtain ⟨k,f,r,p,A,M,ws,cs,masks,ms,n,m,z,s,h,w,g,rfl,hf,F,x,hml,hA,hM,hs,q⟩:=h
 obtain ⟨dx,W,C,h1,h2,h3⟩:=x.ex
 show eI K c _ [some (.ref f),some (.ref r),some (.ref A),some (.int z),some (.int s),some (.ref M),none] H
 unfold eI
 rw [aV,aL]
 walk_at "w"
 refine methE (k:=k) rfl x.ok h1 (by rfl) ?_
 walk_at "w"
 refine ⟨r,p,ws,cs,n,m,rfl,x,?_⟩
 walk_at "w"
 unfold squB at q
 cases hb:decide (s=m) with
 | false=>
  rw [hb,Bool.false_and] at q
  walk_at "w"
  exact q _ (Same.refl _)
 | true=>
  rw [hb,Bool.true_and] at q
  walk_at "w"
  rw [bv hM,List.length_map]
  walk_at "w"
  have e1:decide ((ms.length:Int)=1)=decide (ms.length=1):=by
   rw [Bool.eq_iff_iff,decide_eq_true_eq,decide_eq_true_eq]; omega
  rw [e1]
  cases hb2:decide (ms.length=1) with
  | false=>
   rw [hb2,Bool.false_and] at q
   walk_at "w"
   exact q _ (Same.refl _)
  | true=>
   rw [hb2,Bool.true_and] at q
   walk_at "w"
   exact lF hf F hml hA hM (of_decide_eq_true hb2) hs q
theorem xN (t:TK):decide (tkC t=[115,113,117,97,114,101])=decide (t=.square):=by cases t <;> decide
end L2
namespace L2
open PySem PySem.Spec PyProof.Rows
end L2
namespace L2
open PySem PySem.Spec PyProof.Rows
local macro_rules | `(tactic| walk_at "w")=>`(tactic| (first | simp only [aV,mj,o1,kn,mq,lb,lc,o4,oY,mh,oZ,if_true,if_false,Bool.false_eq_true,decide_true,decide_false,kc,ke,mY,jc,ij,ka,kX,kb,jb,kU,kW,ja,mV,jd,je,jg,jh,ji,jj,jf,kY,kZ,la,kS,mX,Bool.not_true,Bool.not_false,gT,g7,db,jn,w_c,lq,ip,iq,gU,iu,w_b,w_not,jD,lr,iw,iy,jE,jo,gW,lu,iz,jF,jG,kN,jH,iA,iB,iC,iD,gP,gQ,e6,fj,fk,dS,jI,jJ,jK,jL,jM,jN,jO,jP,jQ,jR,jS,jT,lx,iE,fm,iF,ly,iG,gR,fq,jU,jV,iH,gX,iI,
 List.getElem?_cons_zero,List.getElem?_cons_succ,Option.some.injEq,exists_eq_left',exists_eq_left,List.set_cons_zero,List.set_cons_succ,d6,V.int.injEq,V.bl.injEq,V.ref.injEq,V.str.injEq,List.append_nil,List.nil_append,List.cons_append] | dsimp only | skip))
def dk (K:PySem.W.Frag):Sp:=fun vs H Q _=>∃ (a l:Addr) (h w g st:Int) (cs:List Int),vs=[.ref a,.ref l,.int st]∧IsFl H a h w g∧0 < w∧w < 100∧H l=some (.lst (cs.map V.int))∧cs.length≤63∧
 ∀ (p:Addr) (H':Hp) (rs:List Int),Same H H'→H p=none→H' p=some (.lst (rs.map V.int))→rs.Pairwise (· < ·)→(∀ x,x∈rs↔RC h w cs st x)→Q (.ref p) H'
theorem vX {K:PySem.W.Frag} {vs:List V} {H:Hp} {Q:VK} {E:XK} (h:dk K vs H Q E):vs.length=3:=by
 obtain ⟨_,_,_,_,_,_,_,rfl,_⟩:=h; rfl
def j7 (K:PySem.W.Frag):TS:=
 (tSeq (tIfS (tTest (tOp (cIn K true) (tVar 2) (tVar 1))) (tRet (tLst tNil)) tNext)
  (tSeq (tAsg (tLst (tCons (tVar 2) tNil)) (gName 3))
  (tSeq (tAsg (tC (.int 0)) (gName 4))
  (tSeq (wJ (tTest (tOp (cCmp fun i j=>decide (i < j)) (tVar 4) (tCB kLen (tCons (tVar 3) tNil))))
  (tSeq (tFor (iList K (tCall (bF K) [] E0 (tCons (tVar 0) (tCons (tOp cIx (tVar 3) (tVar 4)) tNil)))) (gName 5)
  (tIfS (tAnd (tTest (tOp (cIn K false) (tVar 5) (tVar 1))) (tTest (tOp (cIn K true) (tVar 5) (tVar 3)))) (tDrop (tBM K "list" bi (tVar 3) (tCons (tVar 5) tNil))) tNext))
  (tAsg (tOp cAdd (tVar 4) (tC (.int 1))) (gName 4))))
  (tRet (tCB mS (tCons (tVar 3) tNil)))))))
theorem vY {K:PySem.W.Frag} {vs:List V} {H:Hp} {Q:VK} {E:XK} (h:dk K vs H Q E):j7 K { nx:=fun _ H'=>Q .non H',rt:=Q } (start ["floor","cells","start","found","place","cell"] vs) H:=by
 obtain ⟨a,l,h,w,g,st,cs,rfl,ha,w0,w1,hl,hn,k⟩:=h
 show j7 K _ [some (.ref a),some (.ref l),some (.int st),none,none,none] H
 unfold j7
 rw [aV,aL]
 walk_at "w"
 rw [lw hl]
 walk_at "w"
 by_cases hs:st∈cs
 · rw [if_neg (by simpa using hs)]
   walk_at "w"
   refine ⟨aE (by show (1:Nat)≤1000; decide),fun f hf=>?_⟩
   refine ⟨fun m σ H'=>∃ (fs:List Int) (pl:Nat) (cv:Option V),σ=[some (.ref a),some (.ref l),some (.int st),some (.ref f),some (.int pl),cv]∧Same H H'∧H' f=some (.lst (fs.map V.int))∧BI h w cs st fs pl∧m=cs.length - pl,
    ⟨_,[st],0,none,rfl,(Same.refl H).laid hf,ah,BI.start hs,rfl⟩,?_⟩
   rintro m σ H1 ⟨fs,pl,cv,rfl,s1,e1,B,rfl⟩
   have hfl:=B.len
   walk_at "w"
   rw [bv e1,List.length_map]
   walk_at "w"
   by_cases hp:pl < fs.length
   · rw [if_pos (by simpa using hp)]
     obtain ⟨x,hx⟩:∃ x,fs[pl]? =some x:=⟨fs[pl],by simp [hp]⟩
     have rx:RC h w cs st x:=B.rc x (List.mem_of_getElem? hx)
     refine ⟨fun σ H'=>∃ (fs:List Int) (cv:Option V),σ=[some (.ref a),some (.ref l),some (.int st),some (.ref f),some (.int ((pl:Int)+1)),cv]∧Same H H'∧H' f=some (.lst (fs.map V.int))∧BI h w cs st fs (pl+1),
      fun σ' H' ⟨fs',cv',e,s',e',B'⟩=>⟨_,by omega,fs',pl+1,cv',by rw [e]; rfl,s',e',B',rfl⟩,?_⟩
     walk_at "w"
     rw [yV e1]
     refine bt (nO (by omega) (by omega)) ?_
     walk_at "w"
     rw [show ((pl:Int)).toNat=pl from Int.toNat_natCast _,mW hx]
     refine ⟨a,h,w,g,x,rfl,s1 _ _ ha,w0,w1,fun b H2 s2 hb e2=>?_⟩
     have s12:=s1.trans s2
     refine ⟨b,rfl,⟨_,SqL.of e2⟩,li (K:=K) (xs:=(besL h w x).map V.int) (fun i σ H'=>∃ (f2:List Int) (cv:Option V),σ=[some (.ref a),some (.ref l),some (.int st),some (.ref f),some (.int pl),cv]∧Same H H'∧H' b=some (.lst ((besL h w x).map V.int))∧H' f=some (.lst (f2.map V.int))∧BJ h w cs st fs pl ((besL h w x).take i) f2)
      ⟨fs,cv,rfl,s12,e2,s2 _ _ e1,BJ.zero B⟩ (fun i σ H' _ ⟨_,_,_,_,q,_⟩=>SqL.of q) ?_ ?_⟩
     · rintro i y σ H3 hy ⟨f2,cv2,rfl,s3,eb,ef,J⟩
       rw [List.getElem?_map] at hy
       cases hz:(besL h w x)[i]? with
       | none=>rw [hz] at hy; cases hy
       | some z=>
        rw [hz] at hy
        cases hy
        have hlen2:f2.length≤63:=Nat.le_trans (jW J.nd fun x hx=>(J.rc x hx).mem) hn
        have hmem:z∈besL h w x:=List.mem_of_getElem? hz
        have htake:(besL h w x).take (i+1)=(besL h w x).take i++[z]:=by rw [List.take_add_one,hz]; rfl
        have J2:=J.more rx hmem
        rw [← htake] at J2
        walk_at "w"
        rw [aL]
        walk_at "w"
        rw [qq (s3 _ _ hl)]
        walk_at "w"
        have fin:∀ H4:Hp,H4 f=some (.lst ((addC cs f2 z).map V.int))→(∀ c,c≠f→H4 c=H3 c)→∃ (f2:List Int) (cv:Option V),[some (V.ref a),some (.ref l),some (.int st),some (.ref f),some (.int pl),some (.int z)]=[some (.ref a),some (.ref l),some (.int st),some (.ref f),some (.int pl),cv]∧Same H H4∧H4 b=some (.lst ((besL h w x).map V.int))∧H4 f=some (.lst (f2.map V.int))∧BJ h w cs st fs pl ((besL h w x).take (i+1)) f2:=fun H4 q1 q2=>
         ⟨_,_,rfl,fun c o e=>by rw [q2 c (aG e hf)]; exact s3 c o e,by rw [q2 b (fun e=>by rw [e] at hb; rw [e1] at hb; cases hb)]; exact eb,q1,J2⟩
        by_cases c1:z∈cs
        · rw [if_pos (by simpa using c1)]
          rw [lw ef]
          by_cases c2:z∈f2
          · simp only [c2,decide_true,Bool.not_true,if_neg Bool.false_ne_true,V.bl.injEq,exists_eq_left']
            refine fin H3 ?_ fun _ _=>rfl
            rw [ef,addC,if_neg (fun q=>q.2 c2)]
          · simp only [c2,decide_false,Bool.not_false,if_true,V.bl.injEq,exists_eq_left']
            walk_at "w"
            refine ⟨bq ef,?_⟩
            rw [dA ef]
            refine ⟨by rw [List.length_map]; exact aI (by omega),fin _ ?_ fun c hc=>ar hc⟩
            rw [ah,addC,if_pos ⟨c1,c2⟩]
            simp
        · rw [if_neg (by simpa using c1)]
          try simp only [if_neg Bool.false_ne_true]
          refine fin H3 ?_ fun _ _=>rfl
          rw [ef,addC,if_neg (fun q=>c1 q.1)]
     · rintro σ H3 ⟨f2,cv2,rfl,s3,eb,ef,J⟩
       rw [List.length_map,List.take_length] at J
       walk_at "w"
       exact ⟨f2,cv2,rfl,s3,ef,J.done B hx⟩
   · rw [if_neg (by simpa using hp)]
     walk_at "w"
     unfold mS
     dsimp only
     rw [e1]
     refine ⟨fs,rfl,by omega,fun rs p hpn pm ps=>?_⟩
     refine k p _ rs (s1.laid hpn) (s1.free hpn) ah (xo pm ps B.nd) fun x=>?_
     rw [pm.mem_iff]
     exact B.done hp x
 · rw [if_pos (by simpa using hs)]
   walk_at "w"
   refine ⟨Nat.zero_le _,fun p hp=>k p _ [] ((Same.refl H).laid hp) hp ah .nil fun x=>⟨(fun q=>nomatch q),fun r=>absurd (RC.st r) hs⟩⟩
noncomputable def rcB (h w:Int) (cs:List Int) (st x:Int):Bool:=@decide (RC h w cs st x) (Classical.propDecidable _)
theorem xO {h w:Int} {cs rs:List Int} {st x:Int} (hm:x∈rs↔RC h w cs st x):decide (x∈rs)=rcB h w cs st x:=by
 unfold rcB
 rw [Bool.eq_iff_iff,decide_eq_true_eq]
 exact hm.trans (@decide_eq_true_iff _ (Classical.propDecidable _)).symm
def anoB (h w:Int) (masks:List Int) (z m o:Int):Bool:=(decide (0≤o)&&decide (o < h*w))&&(!decide (o=z)&&decide (woI (masks.getD o.toNat 0) m=0))
def aU (K:PySem.W.Frag):Sp:=fun vs H Q _=>∃ (f A:Addr) (h w g z o m:Int) (masks:List Int),vs=[.ref f,.ref A,.int z,.int o,.int m]∧IsFl H f h w g∧FlOk h w g∧H A=some (.lst (masks.map V.int))∧masks.length=(h*w).toNat∧m≤1000∧Q (.bl (anoB h w masks z m o)) H
theorem ku {K:PySem.W.Frag} {vs:List V} {H:Hp} {Q:VK} {E:XK} (h:aU K vs H Q E):vs.length=5:=by
 obtain ⟨_,_,_,_,_,_,_,_,_,rfl,_⟩:=h; rfl
def cA (K:PySem.W.Frag):TS:=
 (tRet (tAndV (tCall (ca K) [] E0 (tCons (tVar 0) (tCons (tVar 3) tNil))) (tAndV (tOp (cNe K) (tVar 3) (tVar 2)) (tCall (aX K) [] E0 (tCons (tOp cIx (tVar 1) (tVar 3)) (tCons (tVar 4) tNil))))))
theorem kx {K:PySem.W.Frag} {vs:List V} {H:Hp} {Q:VK} {E:XK} (h:aU K vs H Q E):cA K { nx:=fun _ H'=>Q .non H',rt:=Q } (start ["floor","masks","cell","other","mark"] vs) H:=by
 obtain ⟨f,A,h,w,g,z,o,m,masks,rfl,hf,F,hA,hml,hm,q⟩:=h
 show cA K _ [some (.ref f),some (.ref A),some (.int z),some (.int o),some (.int m)] H
 unfold cA
 walk_at "w"
 refine ⟨f,h,w,g,o,rfl,hf,F,?_⟩
 unfold anoB at q
 cases hb:(decide (0≤o)&&decide (o < h*w)) with
 | false=>
  rw [hb,Bool.false_and] at q
  exact ⟨false,rfl,iteF q⟩
 | true=>
  rw [hb,Bool.true_and] at q
  rw [Bool.and_eq_true,decide_eq_true_eq,decide_eq_true_eq] at hb
  refine ⟨true,rfl,iteT ?_⟩
  walk_at "w"
  cases hb2:decide (o=z) with
  | true=>
   rw [hb2,Bool.not_true,Bool.false_and] at q
   walk_at "w"
   exact q
  | false=>
   rw [hb2,Bool.not_false,Bool.true_and] at q
   walk_at "w"
   refine ixI hA hb.1 (by omega) ?_
   walk_at "w"
   exact ⟨_,m,rfl,by omega,q⟩
def thrL (cs masks:List Int) (m z:Int):List Int:=(cs.filter fun x=>!decide (x=z)).filter fun x=>stB (masks.getD x.toNat 0) m
noncomputable def reaB (h w:Int) (cs:List Int) (m:Int) (masks:List Int) (z s:Int) (ms:List Int):Bool:=
 (ms.all fun o=>anoB h w masks z m o)&&(if s=m then decide (ms.length=1)&&!rcB h w (thrL cs masks m z++[z]) z (ms.getD 0 0)
  else decide (ms.length=2)&&(!decide (ms.getD 0 0=ms.getD 1 0)&&!rcB h w (thrL cs masks m z) (ms.getD 0 0) (ms.getD 1 0)))
def bH (K:PySem.W.Frag) (c:RCl RK):Sp:=fun vs H Q _=>∃ (k:RK) (f r p A M:Addr) (ws:List (List Nat)) (cs masks ms:List Int) (n m z s h w g:Int),vs=[.ref f,.ref r,.ref A,.int z,.int s,.ref M]∧IsFl H f h w g∧FlOk h w g∧IsRule H c k r p ws cs n m∧cD cs masks.length∧cs.length≤60∧masks.length=(h*w).toNat∧H A=some (.lst (masks.map V.int))∧H M=some (.lst (ms.map V.int))∧ms.length≤100∧m≤1000∧∀ H',Same H H'→Q (.bl (reaB h w cs m masks z s ms)) H'
theorem oh {K:PySem.W.Frag} {c:RCl RK} {vs:List V} {H:Hp} {Q:VK} {E:XK} (h:bH K c vs H Q E):vs.length=6:=by
 obtain ⟨_,_,_,_,_,_,_,_,_,_,_,_,_,_,_,_,_,rfl,_⟩:=h; rfl
def fT (K:PySem.W.Frag) (c:RCl RK):TS:=
 (tSeq (tIfS (tTest (tOp (cEq K) (tVar 4) (tVar 6))) (tRet (tAndV (tOp (cEq K) (tCB kLen (tCons (tVar 5) tNil)) (tC (.int 1))) (tOp (cIn K true) (tOp cIx (tVar 5) (tC (.int 0))) (tCall (dk K) [] E0 (tCons (tVar 0) (tCons (tOp cAdd (tVar 7) (tLst (tCons (tVar 3) tNil))) (tCons (tVar 3) tNil))))))) tNext)
  (tSeq (tIfS (tOr (tTest (tOp (cNe K) (tCB kLen (tCons (tVar 5) tNil)) (tC (.int 2)))) (tTest (tOp (cEq K) (tOp cIx (tVar 5) (tC (.int 0))) (tOp cIx (tVar 5) (tC (.int 1)))))) (tRet (tC (.bl false))) tNext)
  (tRet (tOp (cIn K true) (tOp cIx (tVar 5) (tC (.int 1))) (tCall (dk K) [] E0 (tCons (tVar 0) (tCons (tVar 7) (tCons (tOp cIx (tVar 5) (tC (.int 0))) tNil))))))))
def fU (K:PySem.W.Frag) (c:RCl RK):TS:=
 (tSeq (sComp 7 [none,none,some 6,some 2] (iList K (tCall (bn K c) [] E0 (tCons (tVar 1) (tCons (tVar 3) tNil)))) (gName 1) (tB (tCall (bm K) [] E0 (tCons (tOp cIx (tVar 3) (tVar 1)) (tCons (tVar 2) tNil)))) (tVar 1))
  (fT K c))
def fC (K:PySem.W.Frag) (c:RCl RK):TS:=
 (tSeq (tAsg (cR c c.ok "sign" (fc K c) (tVar 1) tNil) (gName 6))
  (tSeq (tIfS (tNot (tB (tCB kAll (tCons (tComp [none,none,some 3,some 0,some 6,some 2] (iList K (tVar 5)) (gName 1) tTrue (tCall (aU K) [] E0 (tCons (tVar 3) (tCons (tVar 5) (tCons (tVar 2) (tCons (tVar 1) (tCons (tVar 4) tNil))))))) tNil)))) (tRet (tC (.bl false))) tNext)
  (fU K c)))
theorem lO {K:PySem.W.Frag} {c:RCl RK} {H:Hp} {Q:VK} {f A M N:Addr} {v1:V} {T ms:List Int} {m z s h w g:Int} (hf:IsFl H f h w g) (F:FlOk h w g) (hM:H M=some (.lst (ms.map V.int))) (hN:H N=some (.lst (T.map V.int))) (hT:T.length≤60)
  (q:∀ H',Same H H'→Q (.bl (if s=m then decide (ms.length=1)&&!rcB h w (T++[z]) z (ms.getD 0 0) else decide (ms.length=2)&&(!decide (ms.getD 0 0=ms.getD 1 0)&&!rcB h w T (ms.getD 0 0) (ms.getD 1 0)))) H'):
  fT K c { nx:=fun _ H'=>Q .non H',rt:=Q } [some (.ref f),some v1,some (.ref A),some (.int z),some (.int s),some (.ref M),some (.int m),some (.ref N)] H:=by
 have w0:=F.w0
 have w1:=F.w1
 unfold fT
 rw [aV,aL]
 walk_at "w"
 by_cases hs:s=m
 · rw [if_pos hs] at q
   rw [decide_eq_true hs]
   walk_at "w"
   rw [bv hM,List.length_map]
   walk_at "w"
   have e1:decide ((ms.length:Int)=1)=decide (ms.length=1):=by
    rw [Bool.eq_iff_iff,decide_eq_true_eq,decide_eq_true_eq]; omega
   rw [e1]
   cases hb:decide (ms.length=1) with
   | false=>
    rw [hb,Bool.false_and] at q
    walk_at "w"
    exact q _ (Same.refl _)
   | true=>
    rw [hb,Bool.true_and] at q
    have hl:=of_decide_eq_true hb
    walk_at "w"
    refine ixI hM (by decide) (by omega) ?_
    rw [show (0:Int).toNat=0 from rfl]
    walk_at "w"
    refine ⟨aE (by show (1:Nat)≤1000; decide),fun l hl2=>?_⟩
    have s1:Same H (upd H l (.lst [V.int z])):=(Same.refl H).laid hl2
    have el:(upd H l (.lst [V.int z])) l=some (.lst [V.int z]):=ah
    generalize upd H l (.lst [V.int z])=H1 at*
    refine o0 (s1 _ _ hN) el (by simp; omega) fun Y hY=>?_
    have s2:Same H1 (upd H1 Y (.lst (T.map V.int++[V.int z]))):=(Same.refl H1).laid hY
    have eY:(upd H1 Y (.lst (T.map V.int++[V.int z]))) Y=some (.lst ((T++[z]).map V.int)):=by rw [ah]; simp
    generalize upd H1 Y (.lst (T.map V.int++[V.int z]))=H2 at*
    have s12:=s1.trans s2
    walk_at "w"
    refine ⟨f,Y,h,w,g,z,_,rfl,s12 _ _ hf,by omega,by omega,eY,by simp; omega,fun p H3 rs s3 hp ep _ hx=>?_⟩
    dsimp only
    rw [lw ep,xO (hx _)]
    exact q _ (s12.trans s3)
 · rw [if_neg hs] at q
   rw [decide_eq_false hs]
   walk_at "w"
   rw [aL]
   walk_at "w"
   rw [bv hM,List.length_map]
   walk_at "w"
   have e1:decide ((ms.length:Int)=2)=decide (ms.length=2):=by
    rw [Bool.eq_iff_iff,decide_eq_true_eq,decide_eq_true_eq]; omega
   rw [e1]
   cases hb:decide (ms.length=2) with
   | false=>
    rw [hb,Bool.false_and] at q
    walk_at "w"
    exact q _ (Same.refl _)
   | true=>
    rw [hb,Bool.true_and] at q
    have hl:=of_decide_eq_true hb
    walk_at "w"
    refine ixI hM (by decide) (by omega) ?_
    rw [show (0:Int).toNat=0 from rfl]
    walk_at "w"
    refine ixI hM (by decide) (by omega) ?_
    rw [show (1:Int).toNat=1 from rfl]
    walk_at "w"
    cases hb2:decide (ms.getD 0 0=ms.getD 1 0) with
    | true=>
     rw [hb2,Bool.not_true,Bool.false_and] at q
     walk_at "w"
     exact q _ (Same.refl _)
    | false=>
     rw [hb2,Bool.not_false,Bool.true_and] at q
     walk_at "w"
     refine ixI hM (by decide) (by omega) ?_
     rw [show (1:Int).toNat=1 from rfl]
     walk_at "w"
     refine ixI hM (by decide) (by omega) ?_
     rw [show (0:Int).toNat=0 from rfl]
     walk_at "w"
     refine ⟨f,N,h,w,g,_,_,rfl,hf,by omega,by omega,hN,by omega,fun p H3 rs s3 hp ep _ hx=>?_⟩
     dsimp only
     rw [lw ep,xO (hx _)]
     exact q _ s3
theorem lP {K:PySem.W.Frag} {c:RCl RK} {H:Hp} {Q:VK} {k:RK} {f r p A M:Addr} {ws:List (List Nat)} {cs masks ms:List Int} {n m z s h w g:Int} (hf:IsFl H f h w g) (F:FlOk h w g) (x:IsRule H c k r p ws cs n m) (hC:cD cs masks.length) (hml:masks.length=(h*w).toNat) (hA:H A=some (.lst (masks.map V.int))) (hM:H M=some (.lst (ms.map V.int)))
  (q:∀ H',Same H H'→Q (.bl (if s=m then decide (ms.length=1)&&!rcB h w (thrL cs masks m z++[z]) z (ms.getD 0 0) else decide (ms.length=2)&&(!decide (ms.getD 0 0=ms.getD 1 0)&&!rcB h w (thrL cs masks m z) (ms.getD 0 0) (ms.getD 1 0)))) H') (hcs:cs.length≤60):
  fU K c { nx:=fun _ H'=>Q .non H',rt:=Q } [some (.ref f),some (.ref r),some (.ref A),some (.int z),some (.int s),some (.ref M),some (.int m),none] H:=by
 unfold fU
 walk_at "w"
 refine ⟨k,r,p,ws,cs,n,m,z,rfl,x,hC.1,fun O H1 s1 hO eO=>?_⟩
 have hfl:=List.length_filter_le (fun x=>!decide (x=z)) cs
 refine ⟨O,rfl,⟨_,SqL.of eO⟩,?_⟩
 refine dh (xs:=cs.filter fun x=>!decide (x=z)) (fun x=>stB (masks.getD x.toNat 0) m) (fun x=>x) (by omega) (SqL.of eO) ?_ ?_ ?_
 · intro y H2 R hy s2 k2
   have hyc:=hC.2 y (List.mem_filter.mp hy).1
   show tB _ [none,some (.int y),some (.int m),some (.ref A)] H2 R
   walk_at "w"
   refine ixI ((s1.trans s2) _ _ hA) hyc.1 hyc.2 ?_
   walk_at "w"
   exact ⟨_,m,rfl,_,rfl,k2 _ (Same.refl _)⟩
 · intro y H2 Q2 hy hb s2 k2
   show tVar 1 [none,some (.int y),some (.int m),some (.ref A)] H2 Q2
   walk_at "w"
   exact k2 _ (Same.refl _)
 · intro N H2 hN s2 eN
   rw [List.map_id'] at eN
   have s12:=s1.trans s2
   walk_at "w"
   refine lO (s12 _ _ hf) F (s12 _ _ hM) (T:=thrL cs masks m z) eN ?_ fun H' s3=>q H' (s12.trans s3)
   unfold thrL
   have:=List.length_filter_le (fun x=>stB (masks.getD x.toNat 0) m) (cs.filter fun x=>!decide (x=z))
   omega
theorem oi {K:PySem.W.Frag} {c:RCl RK} {vs:List V} {H:Hp} {Q:VK} {E:XK} (h:bH K c vs H Q E):fC K c { nx:=fun _ H'=>Q .non H',rt:=Q } (start ["floor","rule","masks","cell","sign","more","mark","through"] vs) H:=by
 obtain ⟨k,f,r,p,A,M,ws,cs,masks,ms,n,m,z,s,h,w,g,rfl,hf,F,x,hC,hcs,hml,hA,hM,hmn,hm,q⟩:=h
 obtain ⟨dx,W,C,h1,h2,h3⟩:=x.ex
 show fC K c _ [some (.ref f),some (.ref r),some (.ref A),some (.int z),some (.int s),some (.ref M),none,none] H
 unfold fC
 rw [aV,g7]
 refine methE (k:=k) rfl x.ok h1 (by rfl) ?_
 walk_at "w"
 refine ⟨r,p,ws,cs,n,m,rfl,x,?_⟩
 walk_at "w"
 rw [aL]
 walk_at "w"
 refine ⟨⟨_,SqL.of hM⟩,?_⟩
 refine ft (xs:=ms.map V.int) (fun _=>true) (fun i=>.bl (anoB h w masks z m (ms.getD i 0))) (by rw [List.length_map]; omega) (SqL.of hM) ?_ ?_ ?_
 · intro i y H1 R hy s1 k1
   exact k1 _ (Same.refl _)
 · intro i y H1 Q1 hy hb s1 k1
   obtain ⟨v,hv,rfl⟩:=gY hy
   have eg:ms.getD i 0=v:=by rw [List.getD,hv]; rfl
   rw [eg] at k1
   show tCall _ _ _ _ [none,some (.int v),some (.int z),some (.ref f),some (.int m),some (.ref A)] H1 Q1
   walk_at "w"
   exact ⟨f,A,h,w,g,z,v,m,masks,rfl,s1 _ _ hf,F,s1 _ _ hA,hml,hm,k1 _ (Same.refl _)⟩
 · intro l H1 hl s1 el
   have eb:((List.range (ms.map V.int).length).filter fun _=>true).map (fun i=>V.bl (anoB h w masks z m (ms.getD i 0)))=(ms.map fun o=>anoB h w masks z m o).map V.bl:=by
    rw [gy,List.length_map,List.map_map]
    refine List.ext_getElem (by simp) fun i h1 h2=>?_
    have hi:i < ms.length:=by simpa using h2
    simp [List.getD,List.getElem?_eq_getElem hi]
   rw [eb] at el
   refine rT el ?_
   have ea:(ms.map fun o=>anoB h w masks z m o).all id=ms.all fun o=>anoB h w masks z m o:=by rw [List.all_map]; rfl
   rw [ea]
   unfold reaB at q
   cases hb:(ms.all fun o=>anoB h w masks z m o) with
   | false=>
    rw [hb,Bool.false_and] at q
    refine ⟨false,rfl,?_⟩
    walk_at "w"
    exact q _ s1
   | true=>
    rw [hb,Bool.true_and] at q
    refine ⟨true,rfl,?_⟩
    walk_at "w"
    exact lP (s1 _ _ hf) F (x.same s1) hC hml (s1 _ _ hA) (s1 _ _ hM) (fun H' s2=>q H' (s1.trans s2)) hcs
theorem qX {k:RK} (h:goesB .reach k=true):sgnK k=true:=by cases k <;> first | rfl | cases h
theorem RR.len26 {r:RR} {h w g:Int} (O:r.Ok h w g) (F:FlOk h w g):r.cs.length≤60:=by
 have m16:=F.m
 cases hk:allK r.k with
 | false=>
  obtain ⟨c1,c2,c3,c4,e⟩:=O.cl.told hk
  rw [e,List.length_map]; omega
 | true=>
  obtain ⟨_,e⟩:=O.cl.all hk
  rw [e,kl]; omega
def xP (p:Int→Int→Bool):Bool:=(List.range 7).all fun (h:Nat)=>(List.range 7).all fun (w:Nat)=>!(decide (1≤h)&&decide (1≤w)&&decide (h*w≤16))||p h w
theorem xQ {p:Int→Int→Bool} (a:xP p=true) {h w g:Int} (F:FlOk h w g):p h w=true:=by
 obtain ⟨h0,h1,w0,w1,m16,g0,g1⟩:=F
 obtain ⟨n,rfl⟩:=Int.eq_ofNat_of_zero_le (show 0≤h by omega)
 obtain ⟨m,rfl⟩:=Int.eq_ofNat_of_zero_le (show 0≤w by omega)
 have a1:=List.all_eq_true.mp a n (List.mem_range.mpr (by omega))
 have a2:=List.all_eq_true.mp a1 m (List.mem_range.mpr (by omega))
 have e1:1≤n:=by omega
 have e2:1≤m:=by omega
 have e3:n*m≤16:=by have:((n*m:Nat):Int)≤16:=by rw [Int.natCast_mul]; exact m16
                    omega
 simpa [e1,e2,e3] using a2
def nearS (h w d r:Int):List Int:=if (decide (0≤d)&&decide (d < h))&&(decide (0≤r)&&decide (r < w)) then [d*w+r] else []
def nearP (w c:Int):List (Int × Int):=[(c / w - 1,c % w),(c / w,c % w - 1),(c / w,c % w+1),(c / w+1,c % w)]
def nearL (h w c:Int):List Int:=(nearP w c).flatMap fun p=>nearS h w p.1 p.2
theorem vZ:xP (fun h w=>(List.range (h*w).toNat).all fun (c:Nat)=>decide (nearL h w c=besL h w c)&&(besL h w c).all fun x=>decide (0≤x)&&decide (x < h*w))=true:=by decide+kernel
theorem tD {h w g c:Int} (F:FlOk h w g) (c0:0≤c) (c1:c < h*w):nearL h w c=besL h w c∧∀ x∈besL h w c,0≤x∧x < h*w:=by
 have t:=List.all_eq_true.mp (xQ vZ F) c.toNat (List.mem_range.mpr (by omega))
 have e1:((c.toNat:Nat):Int)=c:=by omega
 rw [e1,Bool.and_eq_true,decide_eq_true_eq,List.all_eq_true] at t
 refine ⟨t.1,fun x hx=>?_⟩
 have:=t.2 x hx
 simpa using this
theorem tE {h w g c:Int} {n:Nat} (F:FlOk h w g) (c0:0≤c) (c1:c < h*w) (hn:n=(h*w).toNat):cD (besL h w c) n:=by
 refine ⟨Nat.le_trans (sA ..) (by decide),fun x hx=>?_⟩
 have:=(tD F c0 c1).2 x hx
 omega
def arL (h w o z:Int):List Int:=(besL h w o).filter fun x=>!decide (x=z)
def fi (K:PySem.W.Frag):Sp:=fun vs H Q _=>∃ (a:Addr) (h w g o z:Int),vs=[.ref a,.int o,.int z]∧IsFl H a h w g∧FlOk h w g∧∀ l H',Same H H'→H l=none→H' l=some (.lst ((arL h w o z).map V.int))→Q (.ref l) H'
theorem xR {K:PySem.W.Frag} {vs:List V} {H:Hp} {Q:VK} {E:XK} (h:fi K vs H Q E):vs.length=3:=by
 obtain ⟨_,_,_,_,_,_,rfl,_⟩:=h; rfl
def kL (K:PySem.W.Frag):TS:=
 (tRet (tComp [none,none,some 2] (iList K (tCall (bF K) [] E0 (tCons (tVar 0) (tCons (tVar 1) tNil)))) (gName 1) (tTest (tOp (cNe K) (tVar 1) (tVar 2))) (tVar 1)))
theorem xS {K:PySem.W.Frag} {vs:List V} {H:Hp} {Q:VK} {E:XK} (h:fi K vs H Q E):kL K { nx:=fun _ H'=>Q .non H',rt:=Q } (start ["floor","middle","cell"] vs) H:=by
 obtain ⟨a,h,w,g,o,z,rfl,ha,F,q⟩:=h
 have w0:=F.w0
 have w1:=F.w1
 show kL K _ [some (.ref a),some (.int o),some (.int z)] H
 unfold kL
 rw [ip,e6]
 walk_at "w"
 refine ⟨a,h,w,g,o,rfl,ha,by omega,by omega,fun l H1 s1 hl el=>?_⟩
 have hb:=sA h w o
 refine ⟨l,rfl,⟨_,SqL.of el⟩,?_⟩
 refine dh (xs:=besL h w o) (fun x=>!decide (x=z)) (fun x=>x) (by omega) (SqL.of el) ?_ ?_ ?_
 · intro y H2 R hy s2 k2
   show tTest _ [none,some (.int y),some (.int z)] H2 R
   walk_at "w"
   exact k2 _ (Same.refl _)
 · intro y H2 Q2 hy hb s2 k2
   show tVar 1 [none,some (.int y),some (.int z)] H2 Q2
   walk_at "w"
   exact k2 _ (Same.refl _)
 · intro T H2 hT s2 eT
   rw [List.map_id'] at eT
   exact q T H2 (s1.trans s2) (s1.free hT) eT
def mayN (masks:List Int) (m:Int) (cs:List Int):Nat:=((sgAt masks cs).filter fun k=>stB k m).length
def onlN (masks:List Int) (m:Int) (cs:List Int):Nat:=((sgAt masks cs).filter fun k=>decide (woI k m=0)).length
def turnB (h w m:Int) (masks:List Int) (z s:Int) (ms:List Int):Bool:=
 if ms=[] then decide (s=m)&&(decide ((mayN masks m (besL h w z):Int) < 2)||decide ((2:Int) < (onlN masks m (besL h w z):Int)))
 else decide (ms.length=1)&&(decide (ms.getD 0 0∈besL h w z)&&(decide (woI (masks.getD (ms.getD 0 0).toNat 0) m=0)&&
  (if s=m then decide ((2:Int)≤(onlN masks m (arL h w (ms.getD 0 0) z):Int)) else decide ((mayN masks m (arL h w (ms.getD 0 0) z):Int) < 2))))
def bS (K:PySem.W.Frag) (c:RCl RK):Sp:=fun vs H Q _=>∃ (k:RK) (f r p A M:Addr) (ws:List (List Nat)) (cs masks ms:List Int) (n m z s h w g:Int),vs=[.ref f,.ref r,.ref A,.int z,.int s,.ref M]∧IsFl H f h w g∧FlOk h w g∧IsRule H c k r p ws cs n m∧masks.length=(h*w).toNat∧H A=some (.lst (masks.map V.int))∧H M=some (.lst (ms.map V.int))∧m≤1000∧0≤z∧z < h*w∧∀ H',Same H H'→Q (.bl (turnB h w m masks z s ms)) H'
theorem pN {K:PySem.W.Frag} {c:RCl RK} {vs:List V} {H:Hp} {Q:VK} {E:XK} (h:bS K c vs H Q E):vs.length=6:=by
 obtain ⟨_,_,_,_,_,_,_,_,_,_,_,_,_,_,_,_,_,rfl,_⟩:=h; rfl
def gB (K:PySem.W.Frag) (c:RCl RK):TS:=
 (tSeq (tAsg (tCall (be K) [] E0 (tCons (tVar 2) (tCons (tCall (fi K) [] E0 (tCons (tVar 0) (tCons (tOp cIx (tVar 5) (tC (.int 0))) (tCons (tVar 3) tNil)))) tNil))) (gName 7))
  (tSeq (tIfS (tTest (tOp (cEq K) (tVar 4) (tVar 6))) (tRet (tOp (cCmp fun i j=>decide (j≤i)) (tCall (bu K) [] E0 (tCons (tVar 7) (tCons (tVar 6) tNil))) (tC (.int 2)))) tNext)
  (tRet (tOp (cCmp fun i j=>decide (i < j)) (tCall (bJ K) [] E0 (tCons (tVar 7) (tCons (tVar 6) tNil))) (tC (.int 2))))))
def gC (K:PySem.W.Frag) (c:RCl RK):TS:=
 (tSeq (tIfS (tOr (tTest (tOp (cNe K) (tCB kLen (tCons (tVar 5) tNil)) (tC (.int 1)))) (tOr (tTest (tOp (cIn K true) (tOp cIx (tVar 5) (tC (.int 0))) (tCall (bF K) [] E0 (tCons (tVar 0) (tCons (tVar 3) tNil))))) (tNot (tB (tCall (aX K) [] E0 (tCons (tOp cIx (tVar 2) (tOp cIx (tVar 5) (tC (.int 0)))) (tCons (tVar 6) tNil))))))) (tRet (tC (.bl false))) tNext)
  (gB K c))
def gr (K:PySem.W.Frag) (c:RCl RK):TS:=
 (tSeq (tAsg (cR c c.ok "sign" (fc K c) (tVar 1) tNil) (gName 6))
  (tSeq (tIfS (tTest (tOp (cEq K) (tVar 5) (tLst tNil))) (tSeq (tAsg (tCall (be K) [] E0 (tCons (tVar 2) (tCons (tCall (bF K) [] E0 (tCons (tVar 0) (tCons (tVar 3) tNil))) tNil))) (gName 7))
  (tRet (tAndV (tOp (cEq K) (tVar 4) (tVar 6)) (tOrV (tOp (cCmp fun i j=>decide (i < j)) (tCall (bJ K) [] E0 (tCons (tVar 7) (tCons (tVar 6) tNil))) (tC (.int 2))) (tOp (cCmp fun i j=>decide (j < i)) (tCall (bu K) [] E0 (tCons (tVar 7) (tCons (tVar 6) tNil))) (tC (.int 2))))))) tNext)
  (gC K c)))
theorem mD {K:PySem.W.Frag} {c:RCl RK} {H:Hp} {Q:VK} {f A M:Addr} {v1:V} {masks ms:List Int} {m z s h w g:Int} (hf:IsFl H f h w g) (F:FlOk h w g) (hml:masks.length=(h*w).toNat) (hA:H A=some (.lst (masks.map V.int))) (hM:H M=some (.lst (ms.map V.int))) (hl:ms.length=1) (hm:m≤1000) (z0:0≤z) (z1:z < h*w) (ho:ms.getD 0 0∈besL h w z)
  (q:∀ H',Same H H'→Q (.bl (if s=m then decide ((2:Int)≤(onlN masks m (arL h w (ms.getD 0 0) z):Int)) else decide ((mayN masks m (arL h w (ms.getD 0 0) z):Int) < 2))) H'):
  gB K c { nx:=fun _ H'=>Q .non H',rt:=Q } [some (.ref f),some v1,some (.ref A),some (.int z),some (.int s),some (.ref M),some (.int m),none] H:=by
 have oin:=(tD F z0 z1).2 _ ho
 have bin:=tE (n:=masks.length) F oin.1 oin.2 hml
 have hin:cD (arL h w (ms.getD 0 0) z) masks.length:=⟨Nat.le_trans (List.length_filter_le _ _) bin.1,fun x hx=>bin.2 x (List.mem_filter.mp hx).1⟩
 unfold gB
 walk_at "w"
 refine ixI hM (by decide) (by omega) ?_
 rw [show (0:Int).toNat=0 from rfl]
 walk_at "w"
 refine ⟨f,h,w,g,_,z,rfl,hf,F,fun R H1 s1 hR eR=>?_⟩
 walk_at "w"
 refine ⟨A,R,masks,_,rfl,s1 _ _ hA,eR,hin,fun B H3 s3 hB eB=>?_⟩
 have hlen:(sgAt masks (arL h w (ms.getD 0 0) z)).length≤63:=by unfold sgAt; rw [List.length_map]; exact hin.1
 walk_at "w"
 rw [aL]
 walk_at "w"
 by_cases hs:s=m
 · rw [decide_eq_true hs]
   rw [if_pos hs] at q
   walk_at "w"
   refine ⟨B,_,_,rfl,eB,hlen,by omega,fun H4 s4=>?_⟩
   walk_at "w"
   exact q _ ((s1.trans s3).trans s4)
 · rw [decide_eq_false hs]
   rw [if_neg hs] at q
   walk_at "w"
   refine ⟨B,_,_,rfl,eB,hlen,fun H4 s4=>?_⟩
   walk_at "w"
   exact q _ ((s1.trans s3).trans s4)
theorem mE {K:PySem.W.Frag} {c:RCl RK} {H:Hp} {Q:VK} {f A M:Addr} {v1:V} {masks ms:List Int} {m z s h w g:Int} (hf:IsFl H f h w g) (F:FlOk h w g) (hml:masks.length=(h*w).toNat) (hA:H A=some (.lst (masks.map V.int))) (hM:H M=some (.lst (ms.map V.int))) (hm:m≤1000) (z0:0≤z) (z1:z < h*w)
  (q:∀ H',Same H H'→Q (.bl (decide (ms.length=1)&&(decide (ms.getD 0 0∈besL h w z)&&(decide (woI (masks.getD (ms.getD 0 0).toNat 0) m=0)&&(if s=m then decide ((2:Int)≤(onlN masks m (arL h w (ms.getD 0 0) z):Int)) else decide ((mayN masks m (arL h w (ms.getD 0 0) z):Int) < 2)))))) H'):
  gC K c { nx:=fun _ H'=>Q .non H',rt:=Q } [some (.ref f),some v1,some (.ref A),some (.int z),some (.int s),some (.ref M),some (.int m),none] H:=by
 have w0:=F.w0
 have w1:=F.w1
 unfold gC
 rw [aV,aL]
 walk_at "w"
 rw [bv hM,List.length_map]
 walk_at "w"
 have e1:decide ((ms.length:Int)=1)=decide (ms.length=1):=by
  rw [Bool.eq_iff_iff,decide_eq_true_eq,decide_eq_true_eq]; omega
 rw [e1]
 cases hb:decide (ms.length=1) with
 | false=>
  rw [hb,Bool.false_and] at q
  walk_at "w"
  exact q _ (Same.refl _)
 | true=>
  rw [hb,Bool.true_and] at q
  have hl:=of_decide_eq_true hb
  walk_at "w"
  refine ixI hM (by decide) (by omega) ?_
  rw [show (0:Int).toNat=0 from rfl]
  walk_at "w"
  refine ⟨f,h,w,g,z,rfl,hf,by omega,by omega,fun R H1 s1 hR eR=>?_⟩
  dsimp only
  rw [lw eR]
  cases hb2:decide (ms.getD 0 0∈besL h w z) with
  | false=>
   rw [hb2,Bool.false_and] at q
   refine ⟨true,rfl,iteT ?_⟩
   walk_at "w"
   exact q _ s1
  | true=>
   rw [hb2,Bool.true_and] at q
   have ho:=of_decide_eq_true hb2
   have oin:=(tD F z0 z1).2 _ ho
   refine ⟨false,rfl,iteF ?_⟩
   walk_at "w"
   refine ixI (s1 _ _ hM) (by decide) (by omega) ?_
   rw [show (0:Int).toNat=0 from rfl]
   walk_at "w"
   refine ixI (s1 _ _ hA) (by omega) (by omega) ?_
   walk_at "w"
   refine ⟨_,m,rfl,by omega,?_⟩
   cases hb3:decide (woI (masks.getD (ms.getD 0 0).toNat 0) m=0) with
   | false=>
    rw [hb3,Bool.false_and] at q
    refine ⟨false,rfl,iteT ?_⟩
    walk_at "w"
    exact q _ s1
   | true=>
    rw [hb3,Bool.true_and] at q
    refine ⟨true,rfl,iteF ?_⟩
    exact mD (s1 _ _ hf) F hml (s1 _ _ hA) (s1 _ _ hM) hl hm z0 z1 ho fun H' s2=>q H' (s1.trans s2)
theorem pO {K:PySem.W.Frag} {c:RCl RK} {vs:List V} {H:Hp} {Q:VK} {E:XK} (h:bS K c vs H Q E):gr K c { nx:=fun _ H'=>Q .non H',rt:=Q } (start ["floor","rule","masks","cell","sign","more","mark","some"] vs) H:=by
 obtain ⟨k,f,r,p,A,M,ws,cs,masks,ms,n,m,z,s,h,w,g,rfl,hf,F,x,hml,hA,hM,hm,z0,z1,q⟩:=h
 obtain ⟨dx,W,C,h1,h2,h3⟩:=x.ex
 have w0:=F.w0
 have w1:=F.w1
 show gr K c _ [some (.ref f),some (.ref r),some (.ref A),some (.int z),some (.int s),some (.ref M),none,none] H
 unfold gr
 rw [aV,g7]
 refine methE (k:=k) rfl x.ok h1 (by rfl) ?_
 walk_at "w"
 refine ⟨r,p,ws,cs,n,m,rfl,x,?_⟩
 walk_at "w"
 rw [aL]
 walk_at "w"
 refine ⟨aE (by decide),fun Z hZ=>?_⟩
 have s1:Same H (upd H Z (.lst [])):=(Same.refl H).laid hZ
 have eZ:(upd H Z (.lst [])) Z=some (.lst (([]:List Int).map V.int)):=ah
 generalize upd H Z (.lst [])=H1 at*
 refine vE (s1 _ _ hM) eZ ?_
 unfold turnB at q
 by_cases hms:ms=[]
 · rw [if_pos hms] at q
   rw [decide_eq_true hms]
   refine ⟨true,rfl,?_⟩
   walk_at "w"
   refine ⟨f,h,w,g,z,rfl,s1 _ _ hf,by omega,by omega,fun R H2 s2 hR eR=>?_⟩
   have bin:=tE (n:=masks.length) F z0 z1 hml
   walk_at "w"
   refine ⟨A,R,masks,_,rfl,(s1.trans s2) _ _ hA,eR,bin,fun B H3 s3 hB eB=>?_⟩
   have hlen:(sgAt masks (besL h w z)).length≤63:=by unfold sgAt; rw [List.length_map]; exact bin.1
   have s13:=(s1.trans s2).trans s3
   walk_at "w"
   cases hb:decide (s=m) with
   | false=>
    rw [hb,Bool.false_and] at q
    walk_at "w"
    exact q _ s13
   | true=>
    rw [hb,Bool.true_and] at q
    walk_at "w"
    refine ⟨B,_,_,rfl,eB,hlen,fun H4 s4=>?_⟩
    walk_at "w"
    have e1:decide ((((sgAt masks (besL h w z)).filter fun k=>stB k m).length:Int) < 2)=decide ((mayN masks m (besL h w z):Int) < 2):=rfl
    rw [e1]
    cases hb2:decide ((mayN masks m (besL h w z):Int) < 2) with
    | true=>
     rw [hb2,Bool.true_or] at q
     walk_at "w"
     exact q _ (s13.trans s4)
    | false=>
     rw [hb2,Bool.false_or] at q
     walk_at "w"
     refine ⟨B,_,_,rfl,s4 _ _ eB,hlen,by omega,fun H5 s5=>?_⟩
     walk_at "w"
     exact q _ ((s13.trans s4).trans s5)
 · rw [if_neg hms] at q
   rw [decide_eq_false hms]
   refine ⟨false,rfl,?_⟩
   walk_at "w"
   exact mE (s1 _ _ hf) F hml (s1 _ _ hA) (s1 _ _ hM) hm z0 z1 fun H' s2=>q H' (s1.trans s2)
theorem tF (t:TK):decide (tkC t=[114,101,97,99,104])=decide (t=.reach):=by cases t <;> decide
theorem qY {k:RK} (h:goesB .turn k=true):sgnK k=true:=by cases k <;> first | rfl | cases h
noncomputable def xT (h w:Int) (t:TK) (x:RR) (masks:List Int) (z s:Int) (ms:List Int):Bool:=match t with
 | .square=>squB h w x.m masks z s ms
 | .reach=>reaB h w x.cs x.m masks z s ms
 | _=>turnB h w x.m masks z s ms
noncomputable def pP (h w:Int) (rows:List RR) (masks:List Int) (t:TK) (r z s:Int) (ms:List Int):Bool:=match rows[r.toNat]? with
 | none=>false
 | some x=>xT h w t x masks z s ms
abbrev Au (t:TK):Prop:=t=.square∨t=.reach∨t=.turn
abbrev K30 (t:TK):Prop:=K28 t∨Au t
def aY (K:PySem.W.Frag) (c:RCl RK) (d:RCl PzK):Sp:=fun vs H Q _=>∃ (P L G A T M:Addr) (h w g:Int) (rows:List RR) (cl masks:List Int) (t:TK) (r z s:Int) (ms:List Int),vs=[.ref P,.ref A,.ref T]∧Asks H c d P L G A T M h w g rows cl masks t r z s ms∧Au t∧formB h w g rows t r z s=true∧∀ H',Same H H'→Q (.bl (pP h w rows masks t r z s ms)) H'
theorem kO {K:PySem.W.Frag} {c:RCl RK} {d:RCl PzK} {vs:List V} {H:Hp} {Q:VK} {E:XK} (h:aY K c d vs H Q E):vs.length=3:=by
 obtain ⟨_,_,_,_,_,_,_,_,_,_,_,_,_,_,_,_,_,rfl,_⟩:=h; rfl
def cN (K:PySem.W.Frag) (c:RCl RK) (d:RCl PzK):TS:=
 (tSeq (tAsg (cR d d.ok "place" (dC K c d) (tVar 0) tNil) (gName 3))
  (tSeq (tAsg (tOp cIx (cR d d.ok "rules" (dD K c d) (tVar 0) tNil) (tOp cIx (tVar 2) (tC (.int 1)))) (gName 4))
  (tSeq (tIfS (tTest (tOp (cEq K) (tOp cIx (tVar 2) (tC (.int 0))) (tC (.str (tx [115,113,117,97,114,101]))))) (tRet (tCall (bx K c) [] E0 (tCons (tVar 3) (tCons (tVar 4) (tCons (tVar 1) (tCons (tOp cIx (tVar 2) (tC (.int 2))) (tCons (tOp cIx (tVar 2) (tC (.int 3))) (tCons (tOp cIx (tVar 2) (tC (.int 4))) tNil)))))))) tNext)
  (tSeq (tIfS (tTest (tOp (cEq K) (tOp cIx (tVar 2) (tC (.int 0))) (tC (.str (tx [114,101,97,99,104]))))) (tRet (tCall (bH K c) [] E0 (tCons (tVar 3) (tCons (tVar 4) (tCons (tVar 1) (tCons (tOp cIx (tVar 2) (tC (.int 2))) (tCons (tOp cIx (tVar 2) (tC (.int 3))) (tCons (tOp cIx (tVar 2) (tC (.int 4))) tNil)))))))) tNext)
  (tRet (tCall (bS K c) [] E0 (tCons (tVar 3) (tCons (tVar 4) (tCons (tVar 1) (tCons (tOp cIx (tVar 2) (tC (.int 2))) (tCons (tOp cIx (tVar 2) (tC (.int 3))) (tCons (tOp cIx (tVar 2) (tC (.int 4))) tNil))))))))))))
theorem kP {K:PySem.W.Frag} {c:RCl RK} {d:RCl PzK} {vs:List V} {H:Hp} {Q:VK} {E:XK} (h:aY K c d vs H Q E):cN K c d { nx:=fun _ H'=>Q .non H',rt:=Q } (start ["puzzle","masks","thought","floor","rule"] vs) H:=by
 obtain ⟨P,L,G,A,T,M,h,w,g,rows,cl,masks,t,r,z,s,ms,rfl,X,ht,f,q⟩:=h
 obtain ⟨dx,p,rs,h1,h2,h3⟩:=X.P.ex
 obtain ⟨z0,z1,s0,s1',hit⟩:=my f
 have hg:=X.P.R.F.g1
 have hnc:t≠.clue:=by rcases ht with rfl | rfl | rfl <;> decide
 obtain ⟨r0,y,ey,hgo,hz⟩:=m5 hnc hit
 have O:=X.P.R.ok y (List.mem_of_getElem? ey)
 have q2:∀ H',Same H H'→Q (.bl (xT h w t y masks z s ms)) H':=fun H' s'=>by
  have q1:=q H' s'
  unfold pP at q1
  rw [ey] at q1
  exact q1
 show cN K c d _ [some (.ref P),some (.ref A),some (.ref T),none,none] H
 unfold cN
 rw [aV,g7]
 refine methE (k:=.Puzzle) rfl X.P.ok h1 (by rfl) ?_
 walk_at "w"
 refine ⟨P,L,G,h,w,g,rows,cl,rfl,X.P,fun p3 hp3=>?_⟩
 walk_at "w"
 refine methE (k:=.Puzzle) rfl X.P.ok h1 (by rfl) ?_
 walk_at "w"
 refine ⟨P,L,G,h,w,g,rows,cl,rfl,X.P,fun l p2 rs2 hl hp2 Y=>?_⟩
 have s2:Same H (upd H l (.lst (rs2.map V.ref))):=(Same.refl H).laid hl
 generalize upd H l (.lst (rs2.map V.ref))=H1 at*
 have hlt:=(List.getElem?_eq_some_iff.mp ey).1
 have hlen:=Y.len
 have ea:rs2[r.toNat]? =some rs2[r.toNat]:=List.getElem?_eq_getElem (by omega)
 dsimp only
 refine ixT (s2 _ _ X.T.T) (v:=V.int r) rfl ?_
 refine ixL Y.top (nP r0 ea) ?_
 walk_at "w"
 rw [aL]
 walk_at "w"
 refine ixT (s2 _ _ X.T.T) (v:=V.str (tx (tkC t))) rfl ?_
 walk_at "w"
 rw [e7,xN]
 rcases ht with rfl | rfl | rfl
 · rw [decide_eq_true rfl]
   refine iteT ?_
   walk_at "w"
   refine ixT (s2 _ _ X.T.T) (v:=V.int z) rfl ?_
   walk_at "w"
   refine ixT (s2 _ _ X.T.T) (v:=V.int s) rfl ?_
   walk_at "w"
   refine ixT (s2 _ _ X.T.T) (v:=V.ref M) rfl ?_
   walk_at "w"
   exact ⟨_,p3,_,p2,A,M,_,y.cs,masks,ms,_,_,z,s,h,w,g,rfl,s2 _ _ hp3,X.P.R.F,Y.at_ _ _ _ ea ey,X.n,s2 _ _ X.A,s2 _ _ X.T.M,by omega,fun H' s3=>q2 H' (s2.trans s3)⟩
 · have ym:=(O.m0 (qX hgo)).2
   rw [decide_eq_false (show ¬ TK.reach=TK.square by decide)]
   refine iteF ?_
   rw [aL]
   walk_at "w"
   refine ixT (s2 _ _ X.T.T) (v:=V.str (tx (tkC .reach))) rfl ?_
   walk_at "w"
   rw [e7,tF,decide_eq_true rfl]
   refine iteT ?_
   walk_at "w"
   refine ixT (s2 _ _ X.T.T) (v:=V.int z) rfl ?_
   walk_at "w"
   refine ixT (s2 _ _ X.T.T) (v:=V.int s) rfl ?_
   walk_at "w"
   refine ixT (s2 _ _ X.T.T) (v:=V.ref M) rfl ?_
   walk_at "w"
   have hin:cD y.cs masks.length:=by rw [X.n]; exact RR.cin22 O X.P.R.F
   exact ⟨_,p3,_,p2,A,M,_,y.cs,masks,ms,_,_,z,s,h,w,g,rfl,s2 _ _ hp3,X.P.R.F,Y.at_ _ _ _ ea ey,hin,RR.len26 O X.P.R.F,X.n,s2 _ _ X.A,s2 _ _ X.T.M,X.T.n,by omega,fun H' s3=>q2 H' (s2.trans s3)⟩
 · have ym:=(O.m0 (qY hgo)).2
   rw [decide_eq_false (show ¬ TK.turn=TK.square by decide)]
   refine iteF ?_
   rw [aL]
   walk_at "w"
   refine ixT (s2 _ _ X.T.T) (v:=V.str (tx (tkC .turn))) rfl ?_
   walk_at "w"
   rw [e7,tF,decide_eq_false (show ¬ TK.turn=TK.reach by decide)]
   refine iteF ?_
   walk_at "w"
   refine ixT (s2 _ _ X.T.T) (v:=V.int z) rfl ?_
   walk_at "w"
   refine ixT (s2 _ _ X.T.T) (v:=V.int s) rfl ?_
   walk_at "w"
   refine ixT (s2 _ _ X.T.T) (v:=V.ref M) rfl ?_
   walk_at "w"
   exact ⟨_,p3,_,p2,A,M,_,y.cs,masks,ms,_,_,z,s,h,w,g,rfl,s2 _ _ hp3,X.P.R.F,Y.at_ _ _ _ ea ey,X.n,s2 _ _ X.A,s2 _ _ X.T.M,by omega,z0,z1,fun H' s3=>q2 H' (s2.trans s3)⟩
noncomputable def pQ (h w g:Int) (rows:List RR) (cl masks:List Int) (t:TK) (r z s:Int) (ms:List Int):Bool:=if lineK t then lg g rows cl masks t r z s ms else pP h w rows masks t r z s ms
def cY (K:PySem.W.Frag) (c:RCl RK) (d:RCl PzK):Sp:=fun vs H Q _=>∃ (P L G A T M:Addr) (h w g:Int) (rows:List RR) (cl masks:List Int) (t:TK) (r z s:Int) (ms:List Int),vs=[.ref P,.ref A,.ref T]∧Asks H c d P L G A T M h w g rows cl masks t r z s ms∧K30 t∧(∀ m∈masks,0≤m∧m < 64)∧formB h w g rows t r z s=true∧∀ H',Same H H'→Q (.bl (pQ h w g rows cl masks t r z s ms)) H'
theorem tG {K:PySem.W.Frag} {c:RCl RK} {d:RCl PzK} {vs:List V} {H:Hp} {Q:VK} {E:XK} (h:cY K c d vs H Q E):vs.length=3:=by
 obtain ⟨_,_,_,_,_,_,_,_,_,_,_,_,_,_,_,_,_,rfl,_⟩:=h; rfl
def iX (K:PySem.W.Frag) (c:RCl RK) (d:RCl PzK):TS:=
 (tSeq (tIfS (tB (tInG fP false (tOp cIx (tVar 2) (tC (.int 0))))) (tRet (tCall (bd K c d) [] E0 (tCons (tVar 0) (tCons (tVar 1) (tCons (tVar 2) tNil))))) tNext)
  (tSeq (tIfS (tB (tInG d2 false (tOp cIx (tVar 2) (tC (.int 0))))) (tRet qA) tNext)
  (tRet (tCall (aY K c d) [] E0 (tCons (tVar 0) (tCons (tVar 1) (tCons (tVar 2) tNil)))))))
theorem tH {K:PySem.W.Frag} {c:RCl RK} {d:RCl PzK} {vs:List V} {H:Hp} {Q:VK} {E:XK} (h:cY K c d vs H Q E):iX K c d { nx:=fun _ H'=>Q .non H',rt:=Q } (start ["puzzle","masks","thought"] vs) H:=by
 obtain ⟨P,L,G,A,T,M,h,w,g,rows,cl,masks,t,r,z,s,ms,rfl,X,ht,mm,f,q⟩:=h
 show iX K c d _ [some (.ref P),some (.ref A),some (.ref T)] H
 unfold iX
 rw [aV,aL]
 walk_at "w"
 refine ixT X.T.T (v:=V.str (tx (tkC t))) rfl ?_
 walk_at "w"
 rw [zv]
 unfold pQ at q
 rcases ht with ht | ht
 · have hl:lineK t=true:=by rcases ht with rfl | rfl | rfl | rfl <;> rfl
   rw [hl] at q
   rw [hl]
   walk_at "w"
   exact ⟨P,L,G,A,T,M,h,w,g,rows,cl,masks,t,r,z,s,ms,rfl,X,ht,mm,f,q⟩
 · have hl:lineK t=false:=by rcases ht with rfl | rfl | rfl <;> rfl
   have hb:nbrK t=false:=by rcases ht with rfl | rfl | rfl <;> rfl
   rw [hl] at q
   rw [hl]
   walk_at "w"
   rw [aL]
   walk_at "w"
   refine ixT X.T.T (v:=V.str (tx (tkC t))) rfl ?_
   walk_at "w"
   rw [Aq,hb]
   walk_at "w"
   exact ⟨P,L,G,A,T,M,h,w,g,rows,cl,masks,t,r,z,s,ms,rfl,X,ht,f,q⟩
noncomputable def iY (h w g:Int) (rows:List RR) (cl masks:List Int) (t:TK) (r z s:Int) (ms:List Int):Bool:=formB h w g rows t r z s&&pQ h w g rows cl masks t r z s ms
def cZ (K:PySem.W.Frag) (c:RCl RK) (d:RCl PzK):Sp:=fun vs H Q _=>∃ (P L G A T M:Addr) (h w g:Int) (rows:List RR) (cl masks:List Int) (t:TK) (r z s:Int) (ms:List Int),vs=[.ref P,.ref A,.ref T]∧Asks H c d P L G A T M h w g rows cl masks t r z s ms∧K30 t∧(∀ m∈masks,0≤m∧m < 64)∧∀ H',Same H H'→Q (.bl (iY h w g rows cl masks t r z s ms)) H'
theorem tI {K:PySem.W.Frag} {c:RCl RK} {d:RCl PzK} {vs:List V} {H:Hp} {Q:VK} {E:XK} (h:cZ K c d vs H Q E):vs.length=3:=by
 obtain ⟨_,_,_,_,_,_,_,_,_,_,_,_,_,_,_,_,_,rfl,_⟩:=h; rfl
def iZ (K:PySem.W.Frag) (c:RCl RK) (d:RCl PzK):TS:=
 (tRet (tAndV (tCall (cW K c d) [] E0 (tCons (tVar 0) (tCons (tVar 2) tNil))) (tCall (cY K c d) [] E0 (tCons (tVar 0) (tCons (tVar 1) (tCons (tVar 2) tNil))))))
theorem tJ {K:PySem.W.Frag} {c:RCl RK} {d:RCl PzK} {vs:List V} {H:Hp} {Q:VK} {E:XK} (h:cZ K c d vs H Q E):iZ K c d { nx:=fun _ H'=>Q .non H',rt:=Q } (start ["puzzle","masks","thought"] vs) H:=by
 obtain ⟨P,L,G,A,T,M,h,w,g,rows,cl,masks,t,r,z,s,ms,rfl,X,ht,mm,q⟩:=h
 show iZ K c d _ [some (.ref P),some (.ref A),some (.ref T)] H
 unfold iZ
 walk_at "w"
 refine ⟨t,P,L,G,T,M,h,w,g,r,z,s,rows,cl,ms,rfl,X.P,X.T,fun H1 s1=>?_⟩
 unfold iY at q
 cases hb:formB h w g rows t r z s with
 | false=>
  rw [hb,Bool.false_and] at q
  exact ⟨false,rfl,iteF (q _ s1)⟩
 | true=>
  rw [hb,Bool.true_and] at q
  refine ⟨true,rfl,iteT ?_⟩
  walk_at "w"
  exact ⟨P,L,G,A,T,M,h,w,g,rows,cl,masks,t,r,z,s,ms,rfl,X.same s1,ht,mm,hb,fun H' s2=>q H' (s1.trans s2)⟩
structure Sub30 (a b:Int):Prop where
 a0:0≤a
 a1:a < 64
 b0:0≤b
 b1:b < 64
 st:∀ s,stB a s=true→stB b s=true
theorem Av:((List.range 64).all fun m=>(List.range 6).all fun s=>decide (decide (woI (m:Int) (1+(s:Int))=0)=(List.range 6).all fun j=>!stB (m:Int) (1+(j:Int))||decide (j=s)))=true:=by decide+kernel
theorem xU {m s:Int} (m0:0≤m) (m1:m < 64) (s0:1≤s) (s6:s≤6):woI m s=0↔∀ j:Nat,j < 6→stB m (1+(j:Int))=true→j=(s - 1).toNat:=by
 have t:=of_decide_eq_true (List.all_eq_true.mp (List.all_eq_true.mp Av m.toNat (List.mem_range.mpr (by omega))) (s - 1).toNat (List.mem_range.mpr (by omega)))
 rw [show ((m.toNat:Nat):Int)=m by omega,show 1+(((s - 1).toNat:Nat):Int)=s by omega] at t
 rw [← decide_eq_true_iff (p:=woI m s=0),t,List.all_eq_true]
 constructor
 · intro h j hj hs
   have:=h j (List.mem_range.mpr hj)
   rw [hs] at this
   simpa using this
 · intro h j hj
   cases hs:stB m (1+(j:Int)) with
   | false=>rfl
   | true=>simpa using h j (List.mem_range.mp hj) hs
theorem Sub30.wo {a b s:Int} (X:Sub30 a b) (s0:1≤s) (s6:s≤6) (h:woI b s=0):woI a s=0:=
 (xU X.a0 X.a1 s0 s6).mpr fun j hj hs=>(xU X.b0 X.b1 s0 s6).mp h j hj (X.st _ hs)
theorem kt {f g:Int→Int} {p q:Int→Bool}:∀ {cs:List Int},(∀ c∈cs,p (f c)=true→q (g c)=true)→((cs.map f).filter p).length≤((cs.map g).filter q).length
 | [],_=>Nat.le_refl _
 | c::r,h=>by
  have ih:=kt (cs:=r) fun x hx=>h x (List.mem_cons_of_mem _ hx)
  have hc:=h c List.mem_cons_self
  rw [List.map_cons,List.map_cons,List.filter_cons,List.filter_cons]
  cases hp:p (f c) with
  | false=>
   rw [if_neg Bool.false_ne_true]
   split
   · rw [List.length_cons]; omega
   · exact ih
  | true=>
   rw [if_pos rfl,if_pos (hc hp),List.length_cons,List.length_cons]
   omega
theorem RC.less {h w:Int} {cs ds:List Int} {st x:Int} (sub:∀ c∈cs,c∈ds) (r:RC h w cs st x):RC h w ds st x:=by
 induction r with
 | start h=>exact .start (sub _ h)
 | step _ hb hc ih=>exact .step ih hb (sub _ hc)
abbrev Less30 (masks less:List Int):Prop:=∀ k:Nat,Sub30 (less.getD k 0) (masks.getD k 0)
theorem xV {cs masks less:List Int} {z s:Int} {ms:List Int} (X:Less30 masks less) (s0:1≤s) (s6:s≤6) (h:onlyB cs masks z s ms=true):onlyB cs less z s ms=true:=by
 unfold onlyB at h ⊢
 rw [Bool.and_eq_true,Bool.and_eq_true] at h ⊢
 exact ⟨h.1,h.2.1,decide_eq_true ((X _).wo s0 s6 (of_decide_eq_true h.2.2))⟩
theorem wa {g:Int} {cs masks less:List Int} {z s:Int} {ms:List Int} (X:Less30 masks less) (h:lf g cs masks z s ms=true):lf g cs less z s ms=true:=by
 unfold lf sgAt at h ⊢
 simp only [Bool.and_eq_true] at h ⊢
 refine ⟨h.1,h.2.1,h.2.2.1,h.2.2.2.1,decide_eq_true ?_⟩
 have:=of_decide_eq_true h.2.2.2.2
 have m:=kt (f:=fun c=>less.getD c.toNat 0) (g:=fun c=>masks.getD c.toNat 0) (p:=fun m=>stB m (ms.getD 0 0)) (q:=fun m=>stB m (ms.getD 0 0)) (cs:=cs.filter fun x=>!decide (x=z)) fun c _ hc=>(X _).st _ hc
 omega
theorem yH {h w m:Int} {masks less:List Int} {z s:Int} {ms:List Int} (X:Less30 masks less) (s0:1≤s) (s6:s≤6) (hb:squB h w m masks z s ms=true):squB h w m less z s ms=true:=by
 unfold squB sgAt at hb ⊢
 simp only [Bool.and_eq_true] at hb ⊢
 refine ⟨hb.1,hb.2.1,hb.2.2.1,decide_eq_true ?_⟩
 have:=of_decide_eq_true hb.2.2.2
 have mo:=kt (f:=fun c=>masks.getD c.toNat 0) (g:=fun c=>less.getD c.toNat 0) (p:=fun k=>decide (woI k s=0)) (q:=fun k=>decide (woI k s=0)) (cs:=rosL h w (ms.getD 0 0) z) fun c _ hc=>decide_eq_true ((X _).wo s0 s6 (of_decide_eq_true hc))
 have up:=List.length_filter_le (fun k=>decide (woI k s=0)) ((rosL h w (ms.getD 0 0) z).map fun c=>less.getD c.toNat 0)
 rw [List.length_map] at up
 omega
theorem yI {h w:Int} {masks less:List Int} {z m o:Int} (X:Less30 masks less) (m0:1≤m) (m6:m≤6) (hb:anoB h w masks z m o=true):anoB h w less z m o=true:=by
 unfold anoB at hb ⊢
 rw [Bool.and_eq_true,Bool.and_eq_true (a:=!decide (o=z))] at hb ⊢
 exact ⟨hb.1,hb.2.1,decide_eq_true ((X _).wo m0 m6 (of_decide_eq_true hb.2.2))⟩
theorem tK {cs masks less:List Int} {m z:Int} (X:Less30 masks less):∀ c∈thrL cs less m z,c∈thrL cs masks m z:=fun c hc=>by
 unfold thrL at hc ⊢
 rw [List.mem_filter] at hc ⊢
 exact ⟨hc.1,(X _).st _ hc.2⟩
theorem vf {h w:Int} {cs ds:List Int} {st x:Int} (sub:∀ c∈cs,c∈ds) (hb:(!rcB h w ds st x)=true):(!rcB h w cs st x)=true:=by
 unfold rcB at hb ⊢
 rw [Bool.not_eq_true'] at hb ⊢
 exact @decide_eq_false _ (Classical.propDecidable _) fun r=>(@of_decide_eq_false _ (Classical.propDecidable _) hb) (r.less sub)
theorem yJ {h w:Int} {cs:List Int} {m:Int} {masks less:List Int} {z s:Int} {ms:List Int} (X:Less30 masks less) (m0:1≤m) (m6:m≤6) (hb:reaB h w cs m masks z s ms=true):reaB h w cs m less z s ms=true:=by
 unfold reaB at hb ⊢
 rw [Bool.and_eq_true] at hb ⊢
 refine ⟨List.all_eq_true.mpr fun o ho=>yI X m0 m6 (List.all_eq_true.mp hb.1 o ho),?_⟩
 have h2:=hb.2
 by_cases e:s=m
 · rw [if_pos e] at h2 ⊢
   rw [Bool.and_eq_true] at h2 ⊢
   refine ⟨h2.1,vf (fun c hc=>?_) h2.2⟩
   rcases List.mem_append.mp hc with hc | hc
   · exact List.mem_append.mpr (.inl (tK X c hc))
   · exact List.mem_append.mpr (.inr hc)
 · rw [if_neg e] at h2 ⊢
   rw [Bool.and_eq_true,Bool.and_eq_true] at h2 ⊢
   exact ⟨h2.1,h2.2.1,vf (tK X) h2.2.2⟩
theorem tL {masks less cs:List Int} {m:Int} (X:Less30 masks less):mayN less m cs≤mayN masks m cs:=by
 unfold mayN sgAt
 exact kt fun c _ hc=>(X _).st _ hc
theorem tM {masks less cs:List Int} {m:Int} (X:Less30 masks less) (m0:1≤m) (m6:m≤6):onlN masks m cs≤onlN less m cs:=by
 unfold onlN sgAt
 exact kt fun c _ hc=>decide_eq_true ((X _).wo m0 m6 (of_decide_eq_true hc))
theorem xW {h w m:Int} {masks less:List Int} {z s:Int} {ms:List Int} (X:Less30 masks less) (m0:1≤m) (m6:m≤6) (hb:turnB h w m masks z s ms=true):turnB h w m less z s ms=true:=by
 unfold turnB at hb ⊢
 by_cases e:ms=[]
 · rw [if_pos e] at hb ⊢
   rw [Bool.and_eq_true,Bool.or_eq_true] at hb ⊢
   have a:=tL (cs:=besL h w z) (m:=m) X
   have b:=tM (cs:=besL h w z) X m0 m6
   refine ⟨hb.1,?_⟩
   rcases hb.2 with h1 | h1
   · have:=of_decide_eq_true h1; exact .inl (decide_eq_true (by omega))
   · have:=of_decide_eq_true h1; exact .inr (decide_eq_true (by omega))
 · rw [if_neg e] at hb ⊢
   rw [Bool.and_eq_true,Bool.and_eq_true,Bool.and_eq_true] at hb ⊢
   refine ⟨hb.1,hb.2.1,decide_eq_true ((X _).wo m0 m6 (of_decide_eq_true hb.2.2.1)),?_⟩
   have h3:=hb.2.2.2
   have a:=tL (cs:=arL h w (ms.getD 0 0) z) (m:=m) X
   have b:=tM (cs:=arL h w (ms.getD 0 0) z) X m0 m6
   by_cases e2:s=m
   · rw [if_pos e2] at h3 ⊢
     have:=of_decide_eq_true h3
     exact decide_eq_true (by omega)
   · rw [if_neg e2] at h3 ⊢
     have:=of_decide_eq_true h3
     exact decide_eq_true (by omega)
theorem vg {m:Int} (m0:0≤m) (x:Int):x∈sgL m↔stB m x=true:=by
 unfold sgL
 rw [List.mem_map]
 constructor
 · rintro ⟨i,hi,rfl⟩
   exact (List.mem_filter.mp hi).2
 · intro h
   have h':=h
   unfold stB at h'
   rw [Bool.and_eq_true,Bool.and_eq_true] at h'
   have a:=of_decide_eq_true h'.1
   have b:=of_decide_eq_true h'.2.1
   refine ⟨(x - 1).toNat,List.mem_filter.mpr ⟨List.mem_range.mpr (by omega),?_⟩,by omega⟩
   rw [show 1+(((x - 1).toNat:Nat):Int)=x by omega]
   exact h
theorem tN {f:Nat→Int} (hf:∀ a b,f a=f b→a=b):∀ {xs:List Nat},xs.Nodup→(xs.map f).Nodup
 | [],_=>List.nodup_nil
 | x::r,h=>by
  rw [List.nodup_cons] at h
  rw [List.map_cons,List.nodup_cons]
  refine ⟨fun hx=>?_,tN hf h.2⟩
  obtain ⟨y,hy,e⟩:=List.mem_map.mp hx
  exact h.1 (hf _ _ e ▸ hy)
theorem Aw (m:Int):(sgL m).Nodup:=by
 unfold sgL
 exact tN (f:=fun (i:Nat)=>1+(i:Int)) (fun a b e=>by have e':(1:Int)+(a:Int)=1+(b:Int):=e; omega) (List.Nodup.sublist List.filter_sublist List.nodup_range)
theorem yK:((List.range 64).all fun a=>(List.range 64).all fun b=>(List.range 6).all fun i=>decide (stB (Builtin.bitOr (a:Int) (b:Int)) (1+(i:Int))=(stB (a:Int) (1+(i:Int))||stB (b:Int) (1+(i:Int)))))=true:=by decide+kernel
theorem yL:((List.range 64).all fun m=>decide (Builtin.Int.intBits (m:Int)≤6))=true:=by decide+kernel
theorem st6 {m x:Int} (m0:0≤m) (m1:m < 64) (h:stB m x=true):1≤x∧x≤6:=by
 have t:=of_decide_eq_true (List.all_eq_true.mp yL m.toNat (List.mem_range.mpr (by omega)))
 rw [show ((m.toNat:Nat):Int)=m by omega] at t
 unfold stB at h
 rw [Bool.and_eq_true,Bool.and_eq_true] at h
 have a:=of_decide_eq_true h.1
 have b:=of_decide_eq_true h.2.1
 omega
theorem y2 {a b x:Int} (a0:0≤a) (a1:a < 64) (b0:0≤b) (b1:b < 64) (x0:1≤x) (x6:x≤6):stB (Builtin.bitOr a b) x=(stB a x||stB b x):=by
 have t:=of_decide_eq_true (List.all_eq_true.mp (List.all_eq_true.mp (List.all_eq_true.mp yK a.toNat (List.mem_range.mpr (by omega))) b.toNat (List.mem_range.mpr (by omega))) (x - 1).toNat (List.mem_range.mpr (by omega)))
 rw [show ((a.toNat:Nat):Int)=a by omega,show ((b.toNat:Nat):Int)=b by omega,show 1+(((x - 1).toNat:Nat):Int)=x by omega] at t
 exact t
theorem xX {cs masks less:List Int} {z s:Int} {ms:List Int} (X:Less30 masks less) (h:pairB cs masks z s ms=true):pairB cs less z s ms=true:=by
 unfold pairB orM at h ⊢
 rw [Bool.and_eq_true] at h ⊢
 refine ⟨h.1,decide_eq_true ?_⟩
 have h2:=of_decide_eq_true h.2
 have A:=X (ms.getD 0 0).toNat
 have B:=X (ms.getD 1 0).toNat
 generalize less.getD (ms.getD 0 0).toNat 0=a at*
 generalize less.getD (ms.getD 1 0).toNat 0=b at*
 generalize masks.getD (ms.getD 0 0).toNat 0=a' at*
 generalize masks.getD (ms.getD 1 0).toNat 0=b' at*
 have o:=vW A.a0 A.a1 B.a0 B.a1
 have o':=vW A.b0 A.b1 B.b0 B.b1
 have le:=jW (xs:=(sgL (Builtin.bitOr a b)).filter fun x=>!decide (x=s)) (ys:=(sgL (Builtin.bitOr a' b')).filter fun x=>!decide (x=s)) (List.Nodup.sublist List.filter_sublist (Aw _)) fun x hx=>by
  rw [List.mem_filter] at hx ⊢
  refine ⟨?_,hx.2⟩
  have st:=(vg o.1 x).mp hx.1
  have b6:=st6 o.1 o.2 st
  rw [y2 A.a0 A.a1 B.a0 B.a1 b6.1 b6.2,Bool.or_eq_true] at st
  refine (vg o'.1 x).mpr ?_
  rw [y2 A.b0 A.b1 B.b0 B.b1 b6.1 b6.2,Bool.or_eq_true]
  rcases st with st | st
  · exact .inl (A.st _ st)
  · exact .inr (B.st _ st)
 omega
theorem Ax {c:RCl RK} {h w g:Int} {rows:List RR} {cl masks less:List Int} {t:TK} {r z s:Int} {ms:List Int} (R:ko c h w g rows) (X:Less30 masks less) (ht:K30 t) (hb:iY h w g rows cl masks t r z s ms=true):iY h w g rows cl less t r z s ms=true:=by
 unfold iY at hb ⊢
 rw [Bool.and_eq_true] at hb ⊢
 obtain ⟨f,q⟩:=hb
 refine ⟨f,?_⟩
 obtain ⟨z0,z1,s0,s1,hit⟩:=my f
 have g6:=R.F.g1
 unfold pQ at q ⊢
 rcases ht with ht | ht
 · have hl:lineK t=true:=by rcases ht with rfl | rfl | rfl | rfl <;> rfl
   rw [hl,if_pos rfl] at q ⊢
   by_cases hc:t=.clue
   · subst hc
     exact q
   · obtain ⟨r0,y,ey,hgo,hz⟩:=m5 hc hit
     have e:∀ mk:List Int,lg g rows cl mk t r z s ms=pM g t y mk z s ms:=fun mk=>by
      unfold lg
      cases t <;> first | exact absurd rfl hc | (dsimp only; rw [ey])
     rw [e] at q ⊢
     rcases ht with rfl | rfl | rfl | rfl
     · exact absurd rfl hc
     · exact xV X s0 (by omega) q
     · exact wa X q
     · exact xX X q
 · have hl:lineK t=false:=by rcases ht with rfl | rfl | rfl <;> rfl
   have hnc:t≠.clue:=by rcases ht with rfl | rfl | rfl <;> decide
   rw [hl,if_neg Bool.false_ne_true] at q ⊢
   obtain ⟨r0,y,ey,hgo,hz⟩:=m5 hnc hit
   have O:=R.ok y (List.mem_of_getElem? ey)
   unfold pP at q ⊢
   rw [ey] at q ⊢
   rcases ht with rfl | rfl | rfl
   · exact yH X s0 (by omega) q
   · have ym:=O.m0 (qX hgo)
     exact yJ X ym.1 (by omega) q
   · have ym:=O.m0 (qY hgo)
     exact xW X ym.1 (by omega) q
theorem qZ:∀ (rs:List (List Nat)),(∀ r∈rs,r.length≤2)→(catL 32 rs).length≤3*rs.length
 | [],_=>by simp [catL]
 | [x],h=>by have:=h x List.mem_cons_self; simp [catL]; omega
 | x::y::r,h=>by
  rw [nZ (by simp)]
  have h1:=h x List.mem_cons_self
  have h2:=qZ (y::r) fun z hz=>h z (List.mem_cons_of_mem _ hz)
  simp only [List.length_append,List.length_cons] at*
  omega
theorem uI {cs:List Nat} (h:cs.length≤16):(catL 32 (cs.map numC)).length≤48:=by
 have:=qZ (cs.map numC) fun r hr=>by obtain ⟨x,_,rfl⟩:=List.mem_map.mp hr; exact jk
 rw [List.length_map] at this
 omega
theorem wb {k:RK} {h w g:Int} {n m:Nat} {ns:List Nat} (F:FlOk h w g) (ne:ns≠[]) (lt:∀ c∈ns,(c:Int) < h*w) (nd:ns.Nodup) (len:ns.length≤16) (hk:allK k=false) (k0:k≠.Rule) (n0:n≤99) (nz:numK k=false→n=0) (m0:sgnK k=true→1≤(m:Int)∧(m:Int)≤g) (mz:sgnK k=false→m=0):
  RR.Ok ⟨k,n,m,ns,ns.map fun (n:Nat)=>(n:Int)⟩ h w g:=by
 have m16:=F.m
 refine ⟨k0,n0,nz,m0,mz,⟨fun _=>⟨ne,len,lt,nd,rfl⟩,fun e=>?_⟩,fun x hx=>?_,len⟩
 · rw [show allK k=false from hk] at e; cases e
 · have:=lt x hx
   omega
theorem strL {Q:VK} {H:Hp} {a b:List Nat} (h1:a.length≤400) (h2:b.length≤400) (q:Q (.str (tx (a++b))) H):cAdd (.str (tx a)) (.str (tx b)) H Q:=by
 rw [gX,oX]
 exact ⟨by rw [gz,gz]; exact aE (by omega),q⟩
theorem pR {H:Hp} {l:Addr} {t:TK} {r z s:Int} {ms:List Int} {T:Addr} (hl:H l=some (.lst (ms.map V.int))) (hn:ms.length≤100) (hT:H T=none):IsTh (upd H T (.tup [.str (tx (tkC t)),.int r,.int z,.int s,.ref l])) T l t r z s ms:=⟨ah,by rw [ar (aG hl hT)]; exact hl,hn⟩
theorem yM:((List.range 64).all fun a=>(List.range 6).all fun j=>(decide (0≤Builtin.bitOr (a:Int) (1*2^j))&&decide (Builtin.bitOr (a:Int) (1*2^j) < 64))&&decide ((1:Int)*2^j≤Builtin.bitOr (a:Int) (1*2^j)))=true:=by decide+kernel
theorem AZ {a j:Int} (a0:0≤a) (a1:a < 64) (j0:0≤j) (j1:j < 6):(0≤Builtin.bitOr a (1*2^j.toNat)∧Builtin.bitOr a (1*2^j.toNat) < 64)∧1*2^j.toNat≤Builtin.bitOr a (1*2^j.toNat):=by
 have t:=List.all_eq_true.mp (List.all_eq_true.mp yM a.toNat (List.mem_range.mpr (by omega))) j.toNat (List.mem_range.mpr (by omega))
 have e1:((a.toNat:Nat):Int)=a:=by omega
 rw [e1] at t
 simp only [Bool.and_eq_true,decide_eq_true_eq] at t
 exact t
def da (K:PySem.W.Frag):Sp:=fun vs H Q _=>∃ (p:Addr) (h w g c:Int),vs=[.ref p,.int c]∧IsFl H p h w g∧FlOk h w g∧∀ l H',Same H H'→H l=none→H' l=some (.lst ((nearL h w c).map V.int))→Q (.ref l) H'
theorem tO {K:PySem.W.Frag} {vs:List V} {H:Hp} {Q:VK} {E:XK} (h:da K vs H Q E):vs.length=2:=by
 obtain ⟨_,_,_,_,_,rfl,_⟩:=h; rfl
def tnear (K:PySem.W.Frag):TS:=
 (tIfS (tAnd (tTest (oM (cCmp fun i j=>decide (i≤j)) (cCmp fun i j=>decide (i < j)) (tC (.int 0)) (tVar 5) (tOp cIx (tVar 0) (tC (.int 0))))) (tTest (oM (cCmp fun i j=>decide (i≤j)) (cCmp fun i j=>decide (i < j)) (tC (.int 0)) (tVar 6) (tOp cIx (tVar 0) (tC (.int 1)))))) (tDrop (tBM K "list" bi (tVar 4) (tCons (tOp cAdd (tOp cMul (tVar 5) (tOp cIx (tVar 0) (tC (.int 1)))) (tVar 6)) tNil))) tNext)
def i5 (K:PySem.W.Frag):TS:=
 (tSeq (tAsg (tCB lh (tCons (tVar 1) (tCons (tOp cIx (tVar 0) (tC (.int 1))) tNil))) (gTup K 2 (gCons (gName 2) (gCons (gName 3) gNil))))
  (tSeq (tAsg (tLst tNil) (gName 4))
  (tSeq (tFor (iList K (tLst (tCons (tTup (tCons (tOp cSub (tVar 2) (tC (.int 1))) (tCons (tVar 3) tNil))) (tCons (tTup (tCons (tVar 2) (tCons (tOp cSub (tVar 3) (tC (.int 1))) tNil))) (tCons (tTup (tCons (tVar 2) (tCons (tOp cAdd (tVar 3) (tC (.int 1))) tNil))) (tCons (tTup (tCons (tOp cAdd (tVar 2) (tC (.int 1))) (tCons (tVar 3) tNil))) tNil)))))) (gTup K 2 (gCons (gName 5) (gCons (gName 6) gNil)))
  (tnear K))
  (tRet (tVar 4)))))
theorem kM {K:PySem.W.Frag} {D:Ends} {H:Hp} {p L t:Addr} {h w g d r:Int} {found:List Int} {v1 v2 v3 v5 v6:Option V} (hp:IsFl H p h w g) (w1:w≤6) (w0:1≤w) (et:H t=some (.tup [.int d,.int r])) (eL:H L=some (.lst (found.map V.int))) (hn:found.length≤100)
  (k:∀ H',H' L=some (.lst ((found++nearS h w d r).map V.int))→(∀ b,b≠L→H' b=H b)→D.nx [some (.ref p),v1,v2,v3,some (.ref L),some (.int d),some (.int r)] H'):
  gTup K 2 (gCons (gName 5) (gCons (gName 6) gNil)) (V.ref t) [some (.ref p),v1,v2,v3,some (.ref L),v5,v6] H fun σ2 H2=>tnear K D σ2 H2:=by
 refine sB et rfl ?_
 rw [nQ]
 show tnear K D [some (.ref p),v1,v2,v3,some (.ref L),some (.int d),some (.int r)] H
 unfold tnear
 refine mf (b:=(decide (0≤d)&&decide (d < h))&&(decide (0≤r)&&decide (r < w))) (v:=d*w+r) (l:=L) (i:=4) rfl ?_ eL (by omega) ?_ ?_
 · intro R hR
   unfold oM
   walk_at "w"
   cases hb:decide (0≤d) with
   | false=>
    rw [hb,Bool.false_and,Bool.false_and] at hR
    walk_at "w"
    exact hR
   | true=>
    rw [hb,Bool.true_and] at hR
    walk_at "w"
    refine ixT hp (v:=V.int h) rfl ?_
    walk_at "w"
    cases hb2:decide (d < h) with
    | false=>
     rw [hb2,Bool.false_and] at hR
     walk_at "w"
     exact hR
    | true=>
     rw [hb2,Bool.true_and] at hR
     walk_at "w"
     cases hb3:decide (0≤r) with
     | false=>
      rw [hb3,Bool.false_and] at hR
      walk_at "w"
      exact hR
     | true=>
      rw [hb3,Bool.true_and] at hR
      walk_at "w"
      refine ixT hp (v:=V.int w) rfl ?_
      walk_at "w"
      exact hR
 · intro Q hQ
   walk_at "w"
   refine ixT hp (v:=V.int w) rfl ?_
   walk_at "w"
   exact ⟨.inr ⟨by omega,by omega⟩,hQ⟩
 · intro H' e1 e2
   refine k H' ?_ e2
   rw [e1]
   rfl
theorem lG (h w c:Int) {i:Nat} {d r:Int} (hi:(nearP w c)[i]? =some (d,r)):((nearP w c).take (i+1)).flatMap (fun p=>nearS h w p.1 p.2)=((nearP w c).take i).flatMap (fun p=>nearS h w p.1 p.2)++nearS h w d r:=by
 rw [List.take_add_one,hi,List.flatMap_append]
 simp
theorem tP {K:PySem.W.Frag} {vs:List V} {H:Hp} {Q:VK} {E:XK} (h:da K vs H Q E):i5 K { nx:=fun _ H'=>Q .non H',rt:=Q } (start ["_law_floor_here","_law_cell","_law_row","_law_column","_law_found","_law_down","_law_right"] vs) H:=by
 obtain ⟨p,h,w,g,c,rfl,hp,F,q⟩:=h
 obtain ⟨h0,h1,w0,w1,m16,g0,g1⟩:=id F
 show i5 K _ [some (.ref p),some (.int c),none,none,none,none,none] H
 unfold i5
 walk_at "w"
 refine ixT hp (v:=V.int w) rfl ?_
 walk_at "w"
 rw [tu]
 refine ⟨⟨by omega,by omega⟩,fun T hT=>?_⟩
 have s1:Same H (upd H T (.tup [.int (c / w),.int (c % w)])):=(Same.refl H).laid hT
 have eT:(upd H T (.tup [.int (c / w),.int (c % w)])) T=some (.tup [.int (c / w),.int (c % w)]):=ah
 generalize upd H T (.tup [.int (c / w),.int (c % w)])=H1 at*
 refine sB eT rfl ?_
 rw [nQ]
 walk_at "w"
 refine ⟨aE (by decide),fun L hL=>?_⟩
 have eL:(upd H1 L (.lst [])) L=some (.lst (([]:List Int).map V.int)):=ah
 have sL:Same H1 (upd H1 L (.lst [])):=(Same.refl H1).laid hL
 generalize upd H1 L (.lst [])=H2 at*
 refine ⟨aE (by show (2:Nat)≤1000; decide),fun t1 i1=>?_⟩
 have k1:Same H2 (upd H2 t1 (.tup [V.int (c / w - 1),V.int (c % w)])):=(Same.refl H2).laid i1
 have e1:(upd H2 t1 (.tup [V.int (c / w - 1),V.int (c % w)])) t1=some (.tup [V.int (c / w - 1),V.int (c % w)]):=ah
 generalize upd H2 t1 (.tup [V.int (c / w - 1),V.int (c % w)])=H3 at*
 refine ⟨aE (by show (2:Nat)≤1000; decide),fun t2 i2=>?_⟩
 have k2:Same H3 (upd H3 t2 (.tup [V.int (c / w),V.int (c % w - 1)])):=(Same.refl H3).laid i2
 have e2:(upd H3 t2 (.tup [V.int (c / w),V.int (c % w - 1)])) t2=some (.tup [V.int (c / w),V.int (c % w - 1)]):=ah
 generalize upd H3 t2 (.tup [V.int (c / w),V.int (c % w - 1)])=H4 at*
 refine ⟨aE (by show (2:Nat)≤1000; decide),fun t3 i3=>?_⟩
 have k3:Same H4 (upd H4 t3 (.tup [V.int (c / w),V.int (c % w+1)])):=(Same.refl H4).laid i3
 have e3:(upd H4 t3 (.tup [V.int (c / w),V.int (c % w+1)])) t3=some (.tup [V.int (c / w),V.int (c % w+1)]):=ah
 generalize upd H4 t3 (.tup [V.int (c / w),V.int (c % w+1)])=H5 at*
 refine ⟨aE (by show (2:Nat)≤1000; decide),fun t4 i4=>?_⟩
 have k4:Same H5 (upd H5 t4 (.tup [V.int (c / w+1),V.int (c % w)])):=(Same.refl H5).laid i4
 have e4:(upd H5 t4 (.tup [V.int (c / w+1),V.int (c % w)])) t4=some (.tup [V.int (c / w+1),V.int (c % w)]):=ah
 generalize upd H5 t4 (.tup [V.int (c / w+1),V.int (c % w)])=H6 at*
 refine ⟨aE (by show (4:Nat)≤1000; decide),fun U iU=>?_⟩
 have k5:Same H6 (upd H6 U (.lst [V.ref t1,V.ref t2,V.ref t3,V.ref t4])):=(Same.refl H6).laid iU
 have eU:(upd H6 U (.lst [V.ref t1,V.ref t2,V.ref t3,V.ref t4])) U=some (.lst [V.ref t1,V.ref t2,V.ref t3,V.ref t4]):=ah
 generalize upd H6 U (.lst [V.ref t1,V.ref t2,V.ref t3,V.ref t4])=H7 at*
 have f1:=k5 _ _ (k4 _ _ (k3 _ _ (k2 _ _ e1)))
 have f2:=k5 _ _ (k4 _ _ (k3 _ _ e2))
 have f3:=k5 _ _ (k4 _ _ e3)
 have f4:=k5 _ _ e4
 have k26:=((k1.trans k2).trans k3).trans k4
 have fL:=(k26.trans k5) _ _ eL
 have hpL:p≠L:=fun e=>by have:=s1 _ _ hp; rw [e,hL] at this; cases this
 have n1:t1≠L:=fun e=>by rw [e,eL] at i1; cases i1
 have n2:t2≠L:=fun e=>by rw [e,k1 _ _ eL] at i2; cases i2
 have n3:t3≠L:=fun e=>by rw [e,(k1.trans k2) _ _ eL] at i3; cases i3
 have n4:t4≠L:=fun e=>by rw [e,((k1.trans k2).trans k3) _ _ eL] at i4; cases i4
 have nU:U≠L:=fun e=>by rw [e,k26 _ _ eL] at iU; cases iU
 have fp:=(k26.trans k5) _ _ (sL _ _ (s1 _ _ hp))
 have s17:=(sL.trans k26).trans k5
 refine ⟨⟨_,SqL.of eU⟩,?_⟩
 refine li (K:=K) (xs:=[V.ref t1,V.ref t2,V.ref t3,V.ref t4]) (fun i σ H'=>∃ (v5 v6:Option V),σ=[some (.ref p),some (.int c),some (.int (c / w)),some (.int (c % w)),some (.ref L),v5,v6]∧(∀ b,b≠L→H' b=H7 b)∧H' L=some (.lst ((((nearP w c).take i).flatMap fun p=>nearS h w p.1 p.2).map V.int))) ⟨none,none,rfl,fun _ _=>rfl,fL⟩ (fun i σ H' _ ⟨_,_,_,hk,_⟩=>SqL.of (by rw [hk U nU]; exact eU)) ?_ ?_
 · rintro i v σ H8 hv ⟨v5,v6,rfl,hk,e8⟩
   have hnl:((((nearP w c).take i).flatMap fun p=>nearS h w p.1 p.2)).length≤100:=by
    have:∀ (ps:List (Int × Int)),(ps.flatMap fun p=>nearS h w p.1 p.2).length≤ps.length:=fun ps=>by
     induction ps with
     | nil=>exact Nat.le_refl _
     | cons a r ih=>
      rw [List.flatMap_cons,List.length_append,List.length_cons]
      have:(nearS h w a.1 a.2).length≤1:=by unfold nearS; split <;> simp
      omega
    have:=this ((nearP w c).take i)
    rw [List.length_take] at this
    have:(nearP w c).length=4:=rfl
    omega
   have fp8:IsFl H8 p h w g:=by unfold IsFl; rw [hk p hpL]; exact fp
   match i,hv,e8,hnl with
   | 0,hv,e8,hnl=>
    cases hv
    exact kM fp8 w1 w0 (by rw [hk _ n1]; exact f1) e8 hnl fun H' a1 a2=>⟨_,_,rfl,fun b hb=>(a2 b hb).trans (hk b hb),by rw [a1,lG h w c (i:=0) rfl]⟩
   | 1,hv,e8,hnl=>
    cases hv
    exact kM fp8 w1 w0 (by rw [hk _ n2]; exact f2) e8 hnl fun H' a1 a2=>⟨_,_,rfl,fun b hb=>(a2 b hb).trans (hk b hb),by rw [a1,lG h w c (i:=1) rfl]⟩
   | 2,hv,e8,hnl=>
    cases hv
    exact kM fp8 w1 w0 (by rw [hk _ n3]; exact f3) e8 hnl fun H' a1 a2=>⟨_,_,rfl,fun b hb=>(a2 b hb).trans (hk b hb),by rw [a1,lG h w c (i:=2) rfl]⟩
   | 3,hv,e8,hnl=>
    cases hv
    exact kM fp8 w1 w0 (by rw [hk _ n4]; exact f4) e8 hnl fun H' a1 a2=>⟨_,_,rfl,fun b hb=>(a2 b hb).trans (hk b hb),by rw [a1,lG h w c (i:=3) rfl]⟩
   | n+4,hv,_,_=>cases hv
 · rintro σ H8 ⟨v5,v6,rfl,hk,e8⟩
   walk_at "w"
   refine q L H8 (fun b o e=>?_) (s1.free hL) e8
   have hb:b≠L:=fun e'=>by rw [e'] at e; rw [s1 _ _ e] at hL; cases hL
   rw [hk b hb]
   exact s17 _ _ (s1 _ _ e)
theorem Ay {K:PySem.W.Frag} {tl:TE} {g:TG} {tb:TS} {D:Ends} {σ:St} {H:Hp}:tFor (iTup K tl) g tb D σ H=tl σ H fun x H1=>∃ a,x=.ref a∧(∃ xs,SqT K H1 a xs)∧LoopR (Itt K a) g tb D σ H1:=rfl
abbrev jA (cs:List Nat):List Int:=cs.map fun (n:Nat)=>(n:Int)
def LsOk (h w:Int) (css:List (List Nat)):Prop:=∀ cs∈css,cs.Nodup∧cs≠[]∧cs.length≤16∧∀ c∈cs,(c:Int) < h*w
theorem IsLN.put {H H2:Hp} {l p:Addr} {as:List Addr} {css:List (List Nat)} {cs:List Nat} {k:Nat} (x:IsLN H l as css) (nl:l∉as) (s:Same H H2) (npl:p≠l) (hp:H2 p=some (.lst (nsV cs))) (hk:k < as.length):IsLN (upd H2 l (.lst ((as.map V.ref).set k (V.ref p)))) l (as.set k p) (css.set k cs):=by
 have hlen:=x.len
 refine ⟨by rw [ah,List.map_set],by rw [List.length_set,List.length_set]; exact hlen,fun j a xs h1 h2=>?_⟩
 rw [List.getElem?_set] at h1 h2
 by_cases hj:k=j
 · rw [if_pos hj,if_pos hk] at h1
   rw [if_pos hj,if_pos (show k < css.length by omega)] at h2
   cases h1
   cases h2
   rw [ar npl]
   exact hp
 · rw [if_neg hj] at h1 h2
   have nal:a≠l:=fun z=>nl (z ▸ List.mem_of_getElem? h1)
   rw [ar nal]
   exact s _ _ (x.at_ j a xs h1 h2)
def cf (K:PySem.W.Frag):Sp:=fun vs H Q _=>∃ (a p:Addr) (ns:List Int) (h w g:Int),vs=[.ref a,.ref p]∧SqL K H a (ns.map V.int)∧ns.length≤63∧IsFl H p h w g∧FlOk h w g∧
 ∀ (Ls:Addr) (as:List Addr) (css:List (List Nat)) (H':Hp),Same H H'→IsLN H' Ls as css→css.length=2→LsOk h w css→Q (.ref Ls) H'
theorem pS {K:PySem.W.Frag} {vs:List V} {H:Hp} {Q:VK} {E:XK} (h:cf K vs H Q E):vs.length=2:=by
 obtain ⟨_,_,_,_,_,_,rfl,_⟩:=h; rfl
def gt (K:PySem.W.Frag):TS:=
 (tSeq (tAsg (tOp cMul (tOp cIx (tVar 1) (tC (.int 0))) (tOp cIx (tVar 1) (tC (.int 1)))) (gName 2))
  (tSeq (tAsg (tLst tNil) (gName 3))
  (tSeq (tFor (eD (tCons (tC (.int 2)) tNil)) (gName 4)
  (tSeq (tAsg (tCall (aA K) [] E0 (tCons (tVar 0) (tCons (tOp cAdd (tC (.int 1)) (tVar 4)) tNil))) (gName 5))
  (tDrop (tBM K "list" bi (tVar 3) (tCons (tCall (bB K) [] E0 (tCons (tVar 0) (tCons (tOp cAdd (tC (.int 4)) (tOp cMul (tC (.int 16)) (tVar 4))) (tCons (tVar 2) (tCons (tOp cAdd (tC (.int 1)) (tOp cMod (tVar 5) (tVar 2))) tNil))))) tNil)))))
  (tSeq (tIfS (tTest (tOp (cCmp fun i j=>decide (i≤j)) (tOp cIx (tVar 1) (tC (.int 2))) (tVar 2))) (tAsg (tCall (bB K) [] E0 (tCons (tVar 0) (tCons (tC (.int 36)) (tCons (tVar 2) (tCons (tOp cIx (tVar 1) (tC (.int 2))) tNil))))) (gSub (tVar 3) (tC (.int 1)) cPut)) tNext)
  (tRet (tVar 3))))))
theorem pT {K:PySem.W.Frag} {vs:List V} {H:Hp} {Q:VK} {E:XK} (h:cf K vs H Q E):gt K { nx:=fun _ H'=>Q .non H',rt:=Q } (start ["_law_script","_law_floor_here","_law_many","_law_found","_law_k","_law_cell"] vs) H:=by
 obtain ⟨a,p,ns,h,w,g,rfl,hS,hn,hp,F,q⟩:=h
 obtain ⟨h0,h1,w0,w1,m16,g0,g1⟩:=id F
 have mpos:1≤h*w:=Int.le_trans (by omega) (Int.mul_le_mul h0 w0 (by omega) (by omega))
 show gt K _ [some (.ref a),some (.ref p),none,none,none,none] H
 unfold gt
 walk_at "w"
 refine ixT hp (v:=V.int h) rfl ?_
 walk_at "w"
 refine ixT hp (v:=V.int w) rfl ?_
 walk_at "w"
 refine ⟨ii h0 h1,aE (by decide),fun L hL=>?_⟩
 refine ⟨2,rfl,by decide,by decide,?_⟩
 refine fg (fun i σ H'=>∃ (kv cv:Option V) (as:List Addr) (css:List (List Nat)),σ=[some (.ref a),some (.ref p),some (.int (h*w)),some (.ref L),kv,cv]∧Same H H'∧IsLN H' L as css∧L∉as∧css.length=i∧LsOk h w css)
  ⟨none,none,[],[],rfl,(Same.refl H).laid hL,⟨by rw [ah]; rfl,rfl,fun j b cs e _=>by simp at e⟩,by simp,rfl,fun cs hc=>by cases hc⟩ ?_ ?_
 · rintro i σ H1 hi ⟨kv,cv,as,css,rfl,s1,X,nL,hl,hcs⟩
   have hi2:i < 2:=hi
   have hal:=X.len
   walk_at "w"
   refine ⟨a,ns,_,rfl,s1.seq hS,hn,by omega,by omega,?_⟩
   generalize lawCA ns (1+(0+(i:Int)))=y at*
   walk_at "w"
   refine ⟨bq X.top,.inl ⟨by decide,by decide⟩,by omega,?_⟩
   have b0:=Int.emod_nonneg y (show h*w≠0 by omega)
   have b1:=Int.emod_lt_of_pos y (show 0 < h*w by omega)
   refine ⟨a,ns,_,_,_,rfl,s1.seq hS,hn,by omega,by omega,m16,by omega,by omega,fun l H2 cs s2 hl2 el nd lt len=>?_⟩
   have nlL:l≠L:=fun e=>by rw [e,X.top] at hl2; cases hl2
   walk_at "w"
   rw [dA (s2 _ _ X.top)]
   refine ⟨by rw [List.length_map]; exact aI (by omega),_,_,as++[l],css++[cs],rfl,(s1.trans s2).own hL,X.app nL s2 nlL el,fun hm=>?_,by simp [hl],fun c' hc'=>?_⟩
   · rcases List.mem_append.mp hm with hm | hm
     · exact nL hm
     · exact nlL (List.mem_singleton.mp hm).symm
   · rcases List.mem_append.mp hc' with hc' | hc'
     · exact hcs c' hc'
     · rw [List.mem_singleton.mp hc']
       refine ⟨nd,fun e=>?_,by omega,lt⟩
       rw [e] at len
       simp at len
       omega
 · rintro σ H1 ⟨kv,cv,as,css,rfl,s1,X,nL,hl,hcs⟩
   have hl2:css.length=2:=hl
   have hal:=X.len
   walk_at "w"
   rw [aL]
   walk_at "w"
   refine ixT (s1 _ _ hp) (v:=V.int g) rfl ?_
   walk_at "w"
   cases hb:decide (g≤h*w) with
   | false=>
    refine iteF ?_
    walk_at "w"
    exact q L as css H1 s1 X hl2 hcs
   | true=>
    have hg:=of_decide_eq_true hb
    refine iteT ?_
    walk_at "w"
    refine ixT (s1 _ _ hp) (v:=V.int g) rfl ?_
    walk_at "w"
    refine ⟨a,ns,_,_,_,rfl,s1.seq hS,hn,by decide,by decide,m16,by omega,hg,fun l H2 cs s2 hl3 el nd lt len=>?_⟩
    have nlL:l≠L:=fun e=>by rw [e,X.top] at hl3; cases hl3
    walk_at "w"
    refine yZ (s2 _ _ X.top) (by decide) (by rw [List.length_map]; omega) ?_
    walk_at "w"
    refine q L (as.set 1 l) (css.set 1 cs) _ ((s1.trans s2).own hL) (X.put (k:=1) nL s2 nlL el (by omega)) (by rw [List.length_set]; exact hl2) fun c' hc'=>?_
    rcases List.mem_or_eq_of_mem_set hc' with hc' | rfl
    · exact hcs c' hc'
    · refine ⟨nd,fun e=>?_,by omega,lt⟩
      rw [e] at len
      simp at len
      omega
abbrev jy (cs:List Nat):RR:=⟨.Unlike,0,0,cs,jA cs⟩
abbrev fe (k:RK) (h w:Int) (m:Nat):RR:=⟨k,0,m,[],rngL 0 (h*w)⟩
def d4 (h w:Int) (css:List (List Nat)) (gs:List Int):List RR:=css.map jy++[fe .Joined h w (gs.getD 0 0).toNat,fe .Ring h w (gs.getD 1 0).toNat,fe .NoSquare h w (gs.getD 2 0).toNat]
theorem xY {cs:List Nat} (ne:cs≠[]):nmC .Unlike++[32]++catL 32 (cs.map numC)=catL 32 (rowW .Unlike 0 0 cs):=by
 show _=catL 32 (nmC .Unlike::cs.map numC)
 rw [nZ (by simpa using ne)]
 simp
theorem xZ {c:RCl RK} {h w g:Int} {css:List (List Nat)} {gs:List Int} (F:FlOk h w g) (hk:∀ k,k≠.Rule→c.ok k=true) (n2:css.length=2) (ok:LsOk h w css) (g3:gs.length=3) (gg:∀ x∈gs,1≤x∧x≤g):ko c h w g (d4 h w css gs):=by
 have at_:∀ j,j < 3→1≤gs.getD j 0∧gs.getD j 0≤g:=fun j hj=>by
  rw [List.getD,List.getElem?_eq_getElem (by omega)]
  exact gg _ (List.getElem_mem _)
 have mem:∀ r∈d4 h w css gs,r.Ok h w g∧r.k≠.Rule:=fun r hr=>by
  unfold d4 at hr
  rcases List.mem_append.mp hr with hr | hr
  · obtain ⟨cs,hc,rfl⟩:=List.mem_map.mp hr
    obtain ⟨nd,ne,len,lt⟩:=ok cs hc
    exact ⟨wb F ne lt nd len rfl (by decide) (by decide) (fun _=>rfl) (fun e=>by cases e) (fun _=>rfl),fun e=>by cases e⟩
  · have a0:=at_ 0 (by decide)
    have a1:=at_ 1 (by decide)
    have a2:=at_ 2 (by decide)
    rcases List.mem_cons.mp hr with rfl | hr
    · exact ⟨mx rfl (by decide) rfl rfl (by omega) (by omega),fun e=>by cases e⟩
    · rcases List.mem_cons.mp hr with rfl | hr
      · exact ⟨mx rfl (by decide) rfl rfl (by omega) (by omega),fun e=>by cases e⟩
      · rw [List.mem_singleton.mp hr]
        exact ⟨mx rfl (by decide) rfl rfl (by omega) (by omega),fun e=>by cases e⟩
 exact ⟨F,by unfold d4; simp; omega,fun r hr=>(mem r hr).1,fun r hr=>hk _ (mem r hr).2⟩
def bW (K:PySem.W.Frag) (c:RCl RK) (d:RCl PzK):Sp:=fun vs H Q _=>∃ (a p Ls O:Addr) (as:List Addr) (css:List (List Nat)) (ns gs:List Int) (h w g:Int),vs=[.ref a,.ref p,.ref Ls,.ref O]∧SqL K H a (ns.map V.int)∧ns.length≤63∧IsFl H p h w g∧FlOk h w g∧IsLN H Ls as css∧css.length=2∧LsOk h w css∧H O=some (.lst (gs.map V.int))∧gs.length=3∧(∀ x∈gs,1≤x∧x≤g)∧(∀ k,k≠.Rule→c.ok k=true)∧d.ok .Puzzle=true∧
 ∀ (P L G:Addr) (cl:List Int) (H':Hp),Same H H'→IsPz H' c d P L G h w g (d4 h w css gs) cl→Q (.ref P) H'
theorem oj {K:PySem.W.Frag} {c:RCl RK} {d:RCl PzK} {vs:List V} {H:Hp} {Q:VK} {E:XK} (h:bW K c d vs H Q E):vs.length=4:=by
 obtain ⟨_,_,_,_,_,_,_,_,_,_,_,rfl,_⟩:=h; rfl
def fV (K:PySem.W.Frag) (c:RCl RK) (d:RCl PzK):TS:=
 (tSeq (sComp 5 [none,none,some 1,some 0] (eD (tCons (tOp cMul (tOp cIx (tVar 1) (tC (.int 0))) (tOp cIx (tVar 1) (tC (.int 1)))) tNil)) (gName 1) tTrue (tOp cMod (tOp cDiv (tCall (aA K) [] E0 (tCons (tVar 3) (tCons (tOp cAdd (tC (.int 56)) (tVar 1)) tNil))) (tC (.int 2))) (tOp cAdd (tOp cIx (tVar 2) (tC (.int 2))) (tC (.int 1)))))
  (tRet (tMake (d.A .Puzzle) (ba K c d) [] E0 (tCons (tVar 1) (tCons (tVar 4) (tCons (tVar 5) tNil))))))
def fW (K:PySem.W.Frag) (c:RCl RK) (d:RCl PzK):TS:=
 (tSeq (tAsg (tOp cAdd (tVar 4) (tLst (tCons (tOp cAdd (tC (.str (tx [106,111,105,110,101,100,32]))) (tCB kStr (tCons (tOp cIx (tVar 3) (tC (.int 0))) tNil))) (tCons (tOp cAdd (tC (.str (tx [114,105,110,103,32]))) (tCB kStr (tCons (tOp cIx (tVar 3) (tC (.int 1))) tNil))) (tCons (tOp cAdd (tC (.str (tx [110,111,115,113,117,97,114,101,32]))) (tCB kStr (tCons (tOp cIx (tVar 3) (tC (.int 2))) tNil))) tNil))))) (gName 4))
  (fV K c d))
def fD (K:PySem.W.Frag) (c:RCl RK) (d:RCl PzK):TS:=
 (tSeq (sComp 4 [none,none] (iList K (tVar 2)) (gName 1) tTrue (tOp cAdd (tC (.str (tx [117,110,108,105,107,101,32]))) (tBM K "str" mn (tC (.str (tx [32]))) (tCons (tComp [none,none] (iList K (tVar 1)) (gName 1) tTrue (tCB kStr (tCons (tVar 1) tNil))) tNil))))
  (fW K c d))
theorem lQ {K:PySem.W.Frag} {c:RCl RK} {d:RCl PzK} {H:Hp} {Q:VK} {a p Tl:Addr} {ns:List Int} {h w g:Int} {rows:List RR} {v2 v3:Option V} (hS:SqL K H a (ns.map V.int)) (hn:ns.length≤63) (hp:IsFl H p h w g) (R:ko c h w g rows) (ok:d.ok .Puzzle=true) (eT:H Tl=some (.lst ((rows.map RR.txt).map V.str)))
  (q:∀ (P L G:Addr) (cl:List Int) (H':Hp),Same H H'→IsPz H' c d P L G h w g rows cl→Q (.ref P) H'):
  fV K c d { nx:=fun _ H'=>Q .non H',rt:=Q } [some (.ref a),some (.ref p),v2,v3,some (.ref Tl),none] H:=by
 obtain ⟨h0,h1,w0,w1,m16,g0,g1⟩:=id R.F
 have mpos:1≤h*w:=Int.le_trans (by omega) (Int.mul_le_mul h0 w0 (by omega) (by omega))
 unfold fV
 walk_at "w"
 refine ixT hp (v:=V.int h) rfl ?_
 walk_at "w"
 refine ixT hp (v:=V.int w) rfl ?_
 walk_at "w"
 refine ⟨ii h0 h1,?_⟩
 refine ⟨h*w,rfl,by omega,by omega,?_⟩
 refine jp (fun _=>true) (fun i=>lawCA ns (56+(i:Int)) / 2 % (g+1)) (by omega) ?_ ?_ ?_
 · intro i H2 R2 hi s2 k2
   exact k2 _ (Same.refl _)
 · intro i H2 Q2 hi _ s2 k2
   have hil:i < (h*w).toNat:=hi
   rw [Int.zero_add]
   show tOp cMod _ _ [none,some (.int (i:Int)),some (.ref p),some (.ref a)] H2 Q2
   walk_at "w"
   refine ⟨a,ns,_,rfl,s2.seq hS,hn,by omega,by omega,?_⟩
   walk_at "w"
   refine ⟨⟨by decide,by decide⟩,?_⟩
   refine ixT (s2 _ _ hp) (v:=V.int g) rfl ?_
   walk_at "w"
   refine ⟨by omega,?_⟩
   exact k2 _ (Same.refl _)
 · intro C H2 hC s2 eC
   rw [List.filter_eq_self.mpr fun _ _=>rfl] at eC
   walk_at "w"
   refine An ok (s2 _ _ hp) (s2 _ _ eT) eC R ⟨by rw [List.length_map,List.length_range],fun x hx=>?_⟩ fun P L G H3 s3 hP hL2 hG X=>?_
   · obtain ⟨i,hi,rfl⟩:=List.mem_map.mp hx
     have b0:=Int.emod_nonneg (lawCA ns (56+(i:Int)) / 2) (show g+1≠0 by omega)
     have b1:=Int.emod_lt_of_pos (lawCA ns (56+(i:Int)) / 2) (show 0 < g+1 by omega)
     exact ⟨b0,by omega⟩
   · exact q P L G _ _ (s2.trans s3) X
theorem yN {x y:List Nat} (h:x.length+y.length≤1000):(tx x).length+(tx y).length≤sizeLine:=by rw [gz,gz]; exact aE h
theorem lR {K:PySem.W.Frag} {c:RCl RK} {d:RCl PzK} {H:Hp} {Q:VK} {a p O Tl:Addr} {ns:List Int} {h w g:Int} {css:List (List Nat)} {gs:List Int} {v2:Option V} (hS:SqL K H a (ns.map V.int)) (hn:ns.length≤63) (hp:IsFl H p h w g) (F:FlOk h w g) (n2:css.length=2) (lo:LsOk h w css) (eO:H O=some (.lst (gs.map V.int))) (g3:gs.length=3) (gg:∀ x∈gs,1≤x∧x≤g) (hk:∀ k,k≠.Rule→c.ok k=true) (ok:d.ok .Puzzle=true) (eT:H Tl=some (.lst (((css.map jy).map RR.txt).map V.str)))
  (q:∀ (P L G:Addr) (cl:List Int) (H':Hp),Same H H'→IsPz H' c d P L G h w g (d4 h w css gs) cl→Q (.ref P) H'):
  fW K c d { nx:=fun _ H'=>Q .non H',rt:=Q } [some (.ref a),some (.ref p),v2,some (.ref O),some (.ref Tl),none] H:=by
 have g6:=F.g1
 have at_:∀ j,j < 3→1≤gs.getD j 0∧gs.getD j 0≤g:=fun j hj=>by
  rw [List.getD,List.getElem?_eq_getElem (by omega)]
  exact gg _ (List.getElem_mem _)
 have nat_:∀ j,j < 3→∃ m:Nat,gs.getD j 0=(m:Int)∧m < 100:=fun j hj=>⟨(gs.getD j 0).toNat,by have:=at_ j hj; omega,by have:=at_ j hj; omega⟩
 obtain ⟨m0,e0,l0⟩:=nat_ 0 (by decide)
 obtain ⟨m1,e1,l1⟩:=nat_ 1 (by decide)
 obtain ⟨m2,e2,l2⟩:=nat_ 2 (by decide)
 have z0:(numC m0).length≤2:=jk
 have z1:(numC m1).length≤2:=jk
 have z2:(numC m2).length≤2:=jk
 unfold fW
 walk_at "w"
 refine ixI eO (by decide) (by omega) ?_
 rw [show gs.getD (0:Int).toNat 0=(m0:Int) from e0]
 walk_at "w"
 rw [m3 l0]
 refine ⟨m4 l0,yN (by simp; omega),?_⟩
 refine ixI eO (by decide) (by omega) ?_
 rw [show gs.getD (1:Int).toNat 0=(m1:Int) from e1]
 walk_at "w"
 rw [m3 l1]
 refine ⟨m4 l1,yN (by simp; omega),?_⟩
 refine ixI eO (by decide) (by omega) ?_
 rw [show gs.getD (2:Int).toNat 0=(m2:Int) from e2]
 walk_at "w"
 rw [m3 l2]
 refine ⟨m4 l2,yN (by simp; omega),aE (by show (3:Nat)≤1000; decide),fun U hU=>?_⟩
 have ex:∀ {k:RK} {m:Nat},numK k=false→sgnK k=true→(fe k h w m).txt=tx (nmC k++[32])++tx (numC m):=fun {k m} hn hs=>by
  rw [oX]
  show tx (catL 32 (rowW k 0 m []))=_
  unfold rowW
  rw [hn,hs]
  show tx (catL 32 [nmC k,numC m])=_
  rw [nZ (by simp)]
  simp [catL]
 have eU0:[V.str (tx [106,111,105,110,101,100,32]++tx (numC m0)),V.str (tx [114,105,110,103,32]++tx (numC m1)),V.str (tx [110,111,115,113,117,97,114,101,32]++tx (numC m2))]=(([fe .Joined h w (gs.getD 0 0).toNat,fe .Ring h w (gs.getD 1 0).toNat,fe .NoSquare h w (gs.getD 2 0).toNat]:List RR).map RR.txt).map V.str:=by
  rw [e0,e1,e2,Int.toNat_natCast,Int.toNat_natCast,Int.toNat_natCast]
  show _=[V.str (fe .Joined h w m0).txt,V.str (fe .Ring h w m1).txt,V.str (fe .NoSquare h w m2).txt]
  rw [ex rfl rfl,ex rfl rfl,ex rfl rfl]
  rfl
 rw [eU0]
 generalize hT3:([fe .Joined h w (gs.getD 0 0).toNat,fe .Ring h w (gs.getD 1 0).toNat,fe .NoSquare h w (gs.getD 2 0).toNat]:List RR)=t3 at*
 have t3l:t3.length=3:=by rw [← hT3]; rfl
 have s1:Same H (upd H U (.lst ((t3.map RR.txt).map V.str))):=(Same.refl H).laid hU
 have eU:(upd H U (.lst ((t3.map RR.txt).map V.str))) U=some (.lst ((t3.map RR.txt).map V.str)):=ah
 generalize upd H U (.lst ((t3.map RR.txt).map V.str))=H1 at*
 refine o0 (s1 _ _ eT) eU (by simp [t3l]; omega) fun Y hY=>?_
 have s2:Same H1 (upd H1 Y (.lst (((css.map jy).map RR.txt).map V.str++(t3.map RR.txt).map V.str))):=(Same.refl H1).laid hY
 have eY:(upd H1 Y (.lst (((css.map jy).map RR.txt).map V.str++(t3.map RR.txt).map V.str))) Y=some (.lst (((d4 h w css gs).map RR.txt).map V.str)):=by
  rw [ah]
  unfold d4
  rw [hT3,List.map_append,List.map_append]
 generalize upd H1 Y (.lst (((css.map jy).map RR.txt).map V.str++(t3.map RR.txt).map V.str))=H2 at*
 have s12:=s1.trans s2
 walk_at "w"
 exact lQ (s12.seq hS) hn (s12 _ _ hp) (xZ F hk n2 lo g3 gg) ok eY fun P L G cl H' s3 X=>q P L G cl H' (s12.trans s3) X
theorem om {K:PySem.W.Frag} {c:RCl RK} {d:RCl PzK} {vs:List V} {H:Hp} {Q:VK} {E:XK} (h:bW K c d vs H Q E):fD K c d { nx:=fun _ H'=>Q .non H',rt:=Q } (start ["_law_script","_law_floor_here","_law_lists_here","_law_goals","_law_lines","_law_clues"] vs) H:=by
 obtain ⟨a,p,Ls,O,as,css,ns,gs,h,w,g,rfl,hS,hn,hp,F,ll,n2,lo,eO,g3,gg,hk,ok,q⟩:=h
 have m16:=F.m
 have al:as.length=2:=by rw [ll.len,n2]
 show fD K c d _ [some (.ref a),some (.ref p),some (.ref Ls),some (.ref O),none,none] H
 unfold fD
 walk_at "w"
 refine ⟨⟨_,SqL.of ll.top⟩,?_⟩
 refine ft (xs:=as.map V.ref) (fun _=>true) (fun i=>V.str (jy (css.getD i [])).txt) (by rw [List.length_map]; omega) (SqL.of ll.top) ?_ ?_ ?_
 · intro i x H1 R hx s1 k1
   exact k1 _ (Same.refl _)
 · intro i x H1 Q1 hx _ s1 k1
   obtain ⟨b,hb,rfl⟩:=um hx
   have hi:i < as.length:=(List.getElem?_eq_some_iff.mp hb).1
   have ec:css[i]? =some css[i]:=List.getElem?_eq_getElem (by omega)
   have eb:=s1 _ _ (ll.at_ i _ _ hb ec)
   obtain ⟨nd,ne,cn,lt⟩:=lo _ (List.getElem_mem (show i < css.length by omega))
   have eg:css.getD i []=css[i]:=by rw [List.getD,ec]; rfl
   rw [eg] at k1
   generalize css[i]=cs at*
   show tOp cAdd _ _ [none,some (.ref b)] H1 Q1
   walk_at "w"
   refine ⟨yY,⟨_,SqL.of eb⟩,?_⟩
   refine xF eb (by omega) (fun c hc=>by have:=lt c hc; omega) fun l H2 hl s2 el=>?_
   walk_at "w"
   refine zq el (sE (by simp; omega) (fun t ht=>by
    obtain ⟨z,hz,rfl⟩:=List.mem_map.mp ht
    obtain ⟨x,_,rfl⟩:=List.mem_map.mp hz
    rw [gz]; exact Nat.le_trans jk (by decide)) (by rw [gz]; decide)) ?_
   rw [yw,qu]
   refine strL (a:=nmC .Unlike++[32]) (b:=catL 32 (cs.map numC)) (by decide) (by have:=uI cn; omega) ?_
   rw [xY ne]
   exact k1 _ s2
 · intro Tl H1 hTl s1 eT
   rw [List.filter_eq_self.mpr fun _ _=>rfl,List.length_map,al] at eT
   have eT2:H1 Tl=some (.lst (((css.map jy).map RR.txt).map V.str)):=by
    rw [eT,List.map_map,List.map_map]
    refine congrArg (fun x=>some (HO.lst x)) (List.ext_getElem? fun i=>?_)
    rw [List.getElem?_map,List.getElem?_map]
    by_cases hi:i < 2
    · rw [List.getElem?_range hi,List.getElem?_eq_getElem (by omega)]
      show some (V.str (jy (css.getD i [])).txt)=_
      rw [List.getD,List.getElem?_eq_getElem (by omega)]
      rfl
    · rw [List.getElem?_eq_none (by rw [List.length_range]; omega),List.getElem?_eq_none (by omega)]
      rfl
   walk_at "w"
   exact lR (s1.seq hS) hn (s1 _ _ hp) F n2 lo (s1 _ _ eO) g3 gg hk ok eT2 fun P L G cl H' s2 X=>q P L G cl H' (s1.trans s2) X
abbrev b7 (cs:List Nat) (z:Int):List Int:=(jA cs).filter fun y=>!decide (y=z)
inductive Fm30 (h w g:Int) (css:List (List Nat)) (z:Int):TK→Int→Int→List Int→Prop
 | clue {s:Int}:Fm30 h w g css z .clue 0 s []
 | only {i:Nat} {cs:List Nat} {s x:Int}:css[i]? =some cs→z∈jA cs→x∈b7 cs z→Fm30 h w g css z .only (i:Int) s [x]
 | pair {i:Nat} {cs:List Nat} {s:Int} {j k:Nat}:css[i]? =some cs→z∈jA cs→j < k→k < (b7 cs z).length→Fm30 h w g css z .pair (i:Int) s [(b7 cs z).getD j 0,(b7 cs z).getD k 0]
 | place {i:Nat} {cs:List Nat} {s x:Int}:css[i]? =some cs→z∈jA cs→((b7 cs z).length:Int)+1=g→1≤x→x≤g→x≠s→Fm30 h w g css z .place (i:Int) s [x]
 | turn {s:Int} {ms:List Int}:ms=[]∨(∃ x∈nearL h w z,ms=[x])→Fm30 h w g css z .turn 3 s ms
 | reach {r s:Int} {ms:List Int}:r=2∨r=3→ms≠[]→ms.length≤2→(∀ x∈ms,0≤x∧x < h*w∧x≠z)→Fm30 h w g css z .reach r s ms
 | square {s x:Int}:0≤x→x / w+1 < h→x % w+1 < w→z∈[x,x+1,x+w,x+w+1]→Fm30 h w g css z .square 4 s [x]
theorem Fm30.kd {h w g:Int} {css:List (List Nat)} {z:Int} {t:TK} {r s:Int} {ms:List Int} (x:Fm30 h w g css z t r s ms):K30 t:=by
 cases x <;> first | exact .inl (.inl rfl) | exact .inl (.inr (.inl rfl)) | exact .inl (.inr (.inr (.inl rfl))) | exact .inl (.inr (.inr (.inr rfl))) | exact .inr (.inl rfl) | exact .inr (.inr (.inl rfl)) | exact .inr (.inr (.inr rfl))
def F30 (h w g:Int) (css:List (List Nat)) (z:Int) (t:TK) (r y s:Int) (ms:List Int):Prop:=y=z∧1≤s∧s≤g∧Fm30 h w g css z t r s ms
abbrev ThP:=TK→Int→Int→Int→List Int→Prop
structure IsThs (U:ThP) (H:Hp) (L:Addr) (ts:List Addr):Prop where
 top:H L=some (.lst (ts.map V.ref))
 ok:∀ T∈ts,∃ (M:Addr) (t:TK) (r z s:Int) (ms:List Int),M≠L∧U t r z s ms∧IsTh H T M t r z s ms
theorem IsThs.same {U:ThP} {H H':Hp} {L:Addr} {ts:List Addr} (x:IsThs U H L ts) (e:Same H H'):IsThs U H' L ts:=⟨e _ _ x.top,fun T hT=>by
 obtain ⟨M,t,r,z,s,ms,n,p,th⟩:=x.ok T hT
 exact ⟨M,t,r,z,s,ms,n,p,th.same e⟩⟩
theorem on {U:ThP} {H:Hp} {L:Addr} {ts:List Addr} (hL:H L=none) (ok:∀ T∈ts,∃ (M:Addr) (t:TK) (r z s:Int) (ms:List Int),U t r z s ms∧IsTh H T M t r z s ms):IsThs U (upd H L (.lst (ts.map V.ref))) L ts:=⟨ah,fun T hT=>by
 obtain ⟨M,t,r,z,s,ms,p,th⟩:=ok T hT
 exact ⟨M,t,r,z,s,ms,aG th.M hL,p,th.same ((Same.refl H).laid hL)⟩⟩
theorem IsThs.app {U:ThP} {H H2:Hp} {L T M:Addr} {ts:List Addr} {t:TK} {r z s:Int} {ms:List Int} (x:IsThs U H L ts) (s1:Same H H2) (th:IsTh H2 T M t r z s ms) (nM:M≠L) (p:U t r z s ms):IsThs U (upd H2 L (.lst (ts.map V.ref++[V.ref T]))) L (ts++[T]):=by
 have keep:∀ {T' M':Addr} {t:TK} {r z s:Int} {ms:List Int},M'≠L→IsTh H2 T' M' t r z s ms→IsTh (upd H2 L (.lst (ts.map V.ref++[V.ref T]))) T' M' t r z s ms:=fun {T' M' t r z s ms} nM' th'=>by
  have nT:T'≠L:=fun e=>by
   have a:=th'.T
   rw [e,s1 _ _ x.top] at a
   cases a
  exact ⟨by rw [ar nT]; exact th'.T,by rw [ar nM']; exact th'.M,th'.n⟩
 refine ⟨by rw [ah,List.map_append]; rfl,fun T' hT'=>?_⟩
 rcases List.mem_append.mp hT' with hT' | hT'
 · obtain ⟨M',t',r',z',s',ms',n',p',th'⟩:=x.ok T' hT'
   exact ⟨M',t',r',z',s',ms',n',p',keep n' (th'.same s1)⟩
 · rw [List.mem_singleton.mp hT']
   exact ⟨M,t,r,z,s,ms,nM,p,keep nM th⟩
theorem jl {U:ThP} {Q:VK} {H0 H:Hp} {L M T:Addr} {ts:List Addr} (t:TK) {r z s:Int} (ms:List Int) {xs:List V} {wd:List Nat} (hL:H0 L=none) (s1:Same H0 H) (X:IsThs U H L ts) (p:U t r z s ms) (ew:wd=tkC t) (ex:xs=ms.map V.int) (hn:ms.length≤100) (hl:ts.length≤900) (hM:H M=none) (hT:(upd H M (.lst xs)) T=none)
  (k:∀ H',Same H0 H'→(∀ b x,b≠L→H b=some x→H' b=some x)→IsThs U H' L (ts++[T])→Q .non H'):
  bi (.ref L) [.ref T] (upd (upd H M (.lst xs)) T (.tup [.str (tx wd),.int r,.int z,.int s,.ref M])) Q:=by
 subst ew ex
 have t1:Same H (upd H M (.lst (ms.map V.int))):=(Same.refl H).laid hM
 have eM:(upd H M (.lst (ms.map V.int))) M=some (.lst (ms.map V.int)):=ah
 have th:=pR (t:=t) (r:=r) (z:=z) (s:=s) eM hn hT
 have t2:Same (upd H M (.lst (ms.map V.int))) (upd (upd H M (.lst (ms.map V.int))) T (.tup [.str (tx (tkC t)),.int r,.int z,.int s,.ref M])):=(Same.refl _).laid hT
 have t12:=t1.trans t2
 have nM:M≠L:=fun e=>by rw [e,X.top] at hM; cases hM
 rw [dA (t12 _ _ X.top)]
 refine ⟨by rw [List.length_map]; exact aI (by omega),k _ ((s1.trans t12).own hL) (fun b x nb e=>?_) (X.app t12 th nM p)⟩
 rw [ar nb]
 exact t12 _ _ e
def bI (K:PySem.W.Frag):Sp:=fun vs H Q _=>∃ (Ls:Addr) (as:List Addr) (css:List (List Nat)) (h w g n z s:Int),vs=[.int n,.ref Ls,.int z,.int s,.int g]∧IsLN H Ls as css∧css.length=2∧LsOk h w css∧1≤s∧s≤g∧g≤6∧
 ∀ (L:Addr) (ts:List Addr) (H':Hp),Same H H'→IsThs (F30 h w g css z) H' L ts→ts.length≤7→Q (.ref L) H'
theorem mF {K:PySem.W.Frag} {vs:List V} {H:Hp} {Q:VK} {E:XK} (h:bI K vs H Q E):vs.length=5:=by
 obtain ⟨_,_,_,_,_,_,_,_,_,rfl,_⟩:=h; rfl
def wc (K:PySem.W.Frag):TS:=
 (tSeq (tAsg (tOp cAdd (tC (.int 1)) (tOp cMod (tOp cDiv (tVar 0) (tC (.int 7))) (tVar 4))) (gName 10))
  (tIfS (tAnd (tTest (tOp (cEq K) (tOp cAdd (tCB kLen (tCons (tVar 8) tNil)) (tC (.int 1))) (tVar 4))) (tTest (tOp (cNe K) (tVar 10) (tVar 3)))) (tDrop (tBM K "list" bi (tVar 5) (tCons (tTup (tCons (tC (.str (tx [112,108,97,99,101]))) (tCons (tVar 6) (tCons (tVar 2) (tCons (tVar 3) (tCons (tLst (tCons (tVar 10) tNil)) tNil)))))) tNil))) tNext))
def we (K:PySem.W.Frag):TS:=
 (tSeq (tIfS (tTest (tOp (cCmp fun i j=>decide (j < i)) (tCB kLen (tCons (tVar 8) tNil)) (tC (.int 1)))) (tSeq (tAsg (tOp cMod (tVar 0) (tOp cSub (tCB kLen (tCons (tVar 8) tNil)) (tC (.int 1)))) (gName 7))
  (tSeq (tAsg (tOp cAdd (tOp cAdd (tVar 7) (tC (.int 1))) (tOp cMod (tOp cDiv (tVar 0) (tC (.int 16))) (tOp cSub (tOp cSub (tCB kLen (tCons (tVar 8) tNil)) (tC (.int 1))) (tVar 7)))) (gName 9))
  (tDrop (tBM K "list" bi (tVar 5) (tCons (tTup (tCons (tC (.str (tx [112,97,105,114]))) (tCons (tVar 6) (tCons (tVar 2) (tCons (tVar 3) (tCons (tLst (tCons (tOp cIx (tVar 8) (tVar 7)) (tCons (tOp cIx (tVar 8) (tVar 9)) tNil))) tNil)))))) tNil))))) tNext)
  (wc K))
def yO (K:PySem.W.Frag):TS:=
 (tSeq (tIfS (tTest (tOp (cCmp fun i j=>decide (j < i)) (tCB kLen (tCons (tVar 8) tNil)) (tC (.int 0)))) (tDrop (tBM K "list" bi (tVar 5) (tCons (tTup (tCons (tC (.str (tx [111,110,108,121]))) (tCons (tVar 6) (tCons (tVar 2) (tCons (tVar 3) (tCons (tLst (tCons (tOp cIx (tVar 8) (tOp cMod (tVar 0) (tCB kLen (tCons (tVar 8) tNil)))) tNil)) tNil)))))) tNil))) tNext)
  (we K))
def d5 (K:PySem.W.Frag):TS:=
 (tSeq (tAsg (tLst (tCons (tTup (tCons (tC (.str (tx [99,108,117,101]))) (tCons (tC (.int 0)) (tCons (tVar 2) (tCons (tVar 3) (tCons (tLst tNil) tNil)))))) tNil)) (gName 5))
  (tSeq (tFor (eD (tCons (tC (.int 2)) tNil)) (gName 6)
  (tIfS (tTest (tOp (cIn K false) (tVar 2) (tOp cIx (tVar 1) (tVar 6)))) (tSeq (sComp 8 [none,none,some 2] (iList K (tOp cIx (tVar 1) (tVar 6))) (gName 1) (tTest (tOp (cNe K) (tVar 1) (tVar 2))) (tVar 1))
  (yO K)) tNext))
  (tRet (tVar 5))))
theorem tQ {K:PySem.W.Frag} {D:Ends} {H0 H:Hp} {Ls L Sp:Addr} {css:List (List Nat)} {cs:List Nat} {ts:List Addr} {h w g n z s:Int} {i:Nat} {v7 v9 v10:Option V} (hL:H0 L=none) (s1:Same H0 H) (X:IsThs (F30 h w g css z) H L ts) (eSp:H Sp=some (.lst ((b7 cs z).map V.int))) (ec:css[i]? =some cs) (hz:z∈jA cs) (hl:ts.length≤100) (s0:1≤s) (sg:s≤g)
  (q:∀ (ts':List Addr) (v10:Option V) (H':Hp),Same H0 H'→IsThs (F30 h w g css z) H' L ts'→ts'.length≤ts.length+1→D.nx [some (.int n),some (.ref Ls),some (.int z),some (.int s),some (.int g),some (.ref L),some (.int (i:Int)),v7,some (.ref Sp),v9,v10] H'):
  wc K D [some (.int n),some (.ref Ls),some (.int z),some (.int s),some (.int g),some (.ref L),some (.int (i:Int)),v7,some (.ref Sp),v9,v10] H:=by
 unfold wc
 walk_at "w"
 refine ⟨⟨by decide,by decide⟩,?_⟩
 refine ⟨by omega,?_⟩
 have b0:=Int.emod_nonneg (n / 7) (show g≠0 by omega)
 have b1:=Int.emod_lt_of_pos (n / 7) (show 0 < g by omega)
 generalize n / 7 % g=x at*
 rw [aL]
 walk_at "w"
 rw [bv eSp,List.length_map]
 walk_at "w"
 by_cases c1:((b7 cs z).length:Int)+1=g
 · rw [decide_eq_true c1]
   walk_at "w"
   by_cases c2:1+x=s
   · rw [decide_eq_true c2]
     walk_at "w"
     exact q ts _ _ s1 X (by omega)
   · rw [decide_eq_false c2]
     walk_at "w"
     refine ⟨bq X.top,?_⟩
     walk_at "w"
     refine ⟨aE (by show (1:Nat)≤1000; decide),fun M hM=>?_⟩
     refine ⟨aE (by show (5:Nat)≤1000; decide),fun T hT=>?_⟩
     exact jl .place [1+x] hL s1 X ⟨rfl,s0,sg,.place ec hz c1 (by omega) (by omega) c2⟩ rfl rfl (by show (1:Nat)≤100; decide) (by omega) hM hT fun H' s2 _ X2=>q _ _ H' s2 X2 (by simp)
 · rw [decide_eq_false c1]
   walk_at "w"
   exact q ts _ _ s1 X (by omega)
theorem tR {K:PySem.W.Frag} {D:Ends} {H0 H:Hp} {Ls L Sp:Addr} {css:List (List Nat)} {cs:List Nat} {ts:List Addr} {h w g n z s:Int} {i:Nat} {v7 v9 v10:Option V} (hL:H0 L=none) (s1:Same H0 H) (X:IsThs (F30 h w g css z) H L ts) (eSp:H Sp=some (.lst ((b7 cs z).map V.int))) (nSp:Sp≠L) (ec:css[i]? =some cs) (hz:z∈jA cs) (hl:ts.length≤99) (s0:1≤s) (sg:s≤g)
  (q:∀ (ts':List Addr) (v7 v9 v10:Option V) (H':Hp),Same H0 H'→IsThs (F30 h w g css z) H' L ts'→ts'.length≤ts.length+2→D.nx [some (.int n),some (.ref Ls),some (.int z),some (.int s),some (.int g),some (.ref L),some (.int (i:Int)),v7,some (.ref Sp),v9,v10] H'):
  we K D [some (.int n),some (.ref Ls),some (.int z),some (.int s),some (.int g),some (.ref L),some (.int (i:Int)),v7,some (.ref Sp),v9,v10] H:=by
 unfold we
 rw [aV,aL]
 walk_at "w"
 rw [bv eSp,List.length_map]
 walk_at "w"
 by_cases c1:(1:Int) < ((b7 cs z).length:Int)
 · rw [decide_eq_true c1]
   walk_at "w"
   rw [bv eSp,List.length_map]
   walk_at "w"
   refine ⟨by omega,?_⟩
   have b0:=Int.emod_nonneg n (show ((b7 cs z).length:Int) - 1≠0 by omega)
   have b1:=Int.emod_lt_of_pos n (show (0:Int) < ((b7 cs z).length:Int) - 1 by omega)
   generalize n % (((b7 cs z).length:Int) - 1)=j at*
   refine ⟨⟨by decide,by decide⟩,?_⟩
   rw [bv eSp,List.length_map]
   walk_at "w"
   refine ⟨by omega,?_⟩
   have d0:=Int.emod_nonneg (n / 16) (show ((b7 cs z).length:Int) - 1 - j≠0 by omega)
   have d1:=Int.emod_lt_of_pos (n / 16) (show (0:Int) < ((b7 cs z).length:Int) - 1 - j by omega)
   generalize n / 16 % (((b7 cs z).length:Int) - 1 - j)=e at*
   refine ⟨bq X.top,?_⟩
   refine ixI eSp b0 (by omega) ?_
   walk_at "w"
   refine ixI eSp (by omega) (by omega) ?_
   walk_at "w"
   refine ⟨aE (by show (2:Nat)≤1000; decide),fun M hM=>?_⟩
   refine ⟨aE (by show (5:Nat)≤1000; decide),fun T hT=>?_⟩
   refine jl .pair [(b7 cs z).getD j.toNat 0,(b7 cs z).getD (j+1+e).toNat 0] hL s1 X ⟨rfl,s0,sg,.pair ec hz (by omega) (by omega)⟩ rfl rfl (by show (2:Nat)≤100; decide) (by omega) hM hT fun H' s2 kp X2=>?_
   walk_at "w"
   exact tQ hL s2 X2 (kp _ _ nSp eSp) ec hz (by simp; omega) s0 sg fun ts' v10 H3 s3 X3 l3=>q ts' _ _ _ H3 s3 X3 (by simp at l3; omega)
 · rw [decide_eq_false c1]
   walk_at "w"
   exact tQ hL s1 X eSp ec hz (by omega) s0 sg fun ts' v10 H3 s3 X3 l3=>q ts' _ _ _ H3 s3 X3 (by omega)
theorem zD {K:PySem.W.Frag} {D:Ends} {H0 H:Hp} {Ls L Sp:Addr} {css:List (List Nat)} {cs:List Nat} {ts:List Addr} {h w g n z s:Int} {i:Nat} {v7 v9 v10:Option V} (hL:H0 L=none) (s1:Same H0 H) (X:IsThs (F30 h w g css z) H L ts) (eSp:H Sp=some (.lst ((b7 cs z).map V.int))) (nSp:Sp≠L) (ec:css[i]? =some cs) (hz:z∈jA cs) (hl:ts.length≤98) (s0:1≤s) (sg:s≤g)
  (q:∀ (ts':List Addr) (v7 v9 v10:Option V) (H':Hp),Same H0 H'→IsThs (F30 h w g css z) H' L ts'→ts'.length≤ts.length+3→D.nx [some (.int n),some (.ref Ls),some (.int z),some (.int s),some (.int g),some (.ref L),some (.int (i:Int)),v7,some (.ref Sp),v9,v10] H'):
  yO K D [some (.int n),some (.ref Ls),some (.int z),some (.int s),some (.int g),some (.ref L),some (.int (i:Int)),v7,some (.ref Sp),v9,v10] H:=by
 unfold yO
 rw [aV,aL]
 walk_at "w"
 rw [bv eSp,List.length_map]
 walk_at "w"
 by_cases c1:(0:Int) < ((b7 cs z).length:Int)
 · rw [decide_eq_true c1]
   walk_at "w"
   refine ⟨bq X.top,?_⟩
   rw [bv eSp,List.length_map]
   walk_at "w"
   refine ⟨by omega,?_⟩
   have b0:=Int.emod_nonneg n (show ((b7 cs z).length:Int)≠0 by omega)
   have b1:=Int.emod_lt_of_pos n c1
   generalize n % ((b7 cs z).length:Int)=j at*
   refine ixI eSp b0 b1 ?_
   walk_at "w"
   have hx:(b7 cs z).getD j.toNat 0∈b7 cs z:=by
    rw [List.getD,List.getElem?_eq_getElem (by omega)]
    exact List.getElem_mem _
   refine ⟨aE (by show (1:Nat)≤1000; decide),fun M hM=>?_⟩
   refine ⟨aE (by show (5:Nat)≤1000; decide),fun T hT=>?_⟩
   refine jl .only [(b7 cs z).getD j.toNat 0] hL s1 X ⟨rfl,s0,sg,.only ec hz hx⟩ rfl rfl (by show (1:Nat)≤100; decide) (by omega) hM hT fun H' s2 kp X2=>?_
   walk_at "w"
   exact tR hL s2 X2 (kp _ _ nSp eSp) nSp ec hz (by simp; omega) s0 sg fun ts' v7 v9 v10 H3 s3 X3 l3=>q ts' _ _ _ H3 s3 X3 (by simp at l3; omega)
 · rw [decide_eq_false c1]
   walk_at "w"
   exact tR hL s1 X eSp nSp ec hz (by omega) s0 sg fun ts' v7 v9 v10 H3 s3 X3 l3=>q ts' _ _ _ H3 s3 X3 (by omega)
theorem mG {K:PySem.W.Frag} {vs:List V} {H:Hp} {Q:VK} {E:XK} (h:bI K vs H Q E):d5 K { nx:=fun _ H'=>Q .non H',rt:=Q } (start ["_law_number","_law_lists_here","_law_cell","_law_sign","_law_signs","_law_found","_law_rule","_law_one","_law_spots","_law_other","_law_place"] vs) H:=by
 obtain ⟨Ls,as,css,h,w,g,n,z,s,rfl,ll,n2,lo,s0,sg,g6,q⟩:=h
 have al:as.length=2:=by rw [ll.len,n2]
 show d5 K _ [some (.int n),some (.ref Ls),some (.int z),some (.int s),some (.int g),none,none,none,none,none,none] H
 unfold d5
 walk_at "w"
 refine ⟨aE (by decide),fun M hM=>?_⟩
 refine ⟨aE (by show (5:Nat)≤1000; decide),fun T hT=>?_⟩
 refine ⟨aE (by show (1:Nat)≤1000; decide),fun L hL=>?_⟩
 have t1:Same H (upd H M (.lst [])):=(Same.refl H).laid hM
 have eM:(upd H M (.lst [])) M=some (.lst (([]:List Int).map V.int)):=ah
 generalize upd H M (.lst [])=H1 at*
 have t2:Same H1 (upd H1 T (.tup [V.str (tx (tkC .clue)),V.int 0,V.int z,V.int s,V.ref M])):=(Same.refl H1).laid hT
 have Th:IsTh (upd H1 T (.tup [V.str (tx (tkC .clue)),V.int 0,V.int z,V.int s,V.ref M])) T M .clue 0 z s []:=pR eM (by decide) hT
 generalize hHq:upd H1 T (.tup [V.str (tx (tkC .clue)),V.int 0,V.int z,V.int s,V.ref M])=H2 at*
 have hHq':upd H1 T (.tup [V.str (tx [99,108,117,101]),V.int 0,V.int z,V.int s,V.ref M])=H2:=hHq
 rw [hHq'] at hL ⊢
 have X0:IsThs (F30 h w g css z) (upd H2 L (.lst [V.ref T])) L [T]:=on (ts:=[T]) hL fun T' hT'=>by
  rw [List.mem_singleton.mp hT']
  exact ⟨M,.clue,0,z,s,[],⟨rfl,s0,sg,.clue⟩,Th⟩
 have t12:=t1.trans t2
 have hL0:H L=none:=t12.free hL
 have s0':Same H (upd H2 L (.lst [V.ref T])):=t12.trans ((Same.refl H2).laid hL)
 generalize upd H2 L (.lst [V.ref T])=H3 at*
 refine ⟨2,rfl,by decide,by decide,?_⟩
 refine fg (fun i σ H'=>∃ (v6 v7 v8 v9 v10:Option V) (ts:List Addr),σ=[some (.int n),some (.ref Ls),some (.int z),some (.int s),some (.int g),some (.ref L),v6,v7,v8,v9,v10]∧Same H H'∧IsThs (F30 h w g css z) H' L ts∧ts.length≤1+3*i) ⟨none,none,none,none,none,[T],rfl,s0',X0,by show (1:Nat)≤1; decide⟩ ?_ ?_
 · rintro i σ H4 hi ⟨v6,v7,v8,v9,v10,ts,rfl,s1,X,hl⟩
   have hi2:i < 2:=hi
   have ea:as[i]? =some as[i]:=List.getElem?_eq_getElem (by omega)
   have ec:css[i]? =some css[i]:=List.getElem?_eq_getElem (by omega)
   have l1:=ll.same s1
   have eC:H4 as[i]=some (.lst ((jA css[i]).map V.int)):=l1.at_ i _ _ ea ec
   have cn:=(lo _ (List.getElem_mem (show i < css.length by omega))).2.2.1
   generalize css[i]=cs at*
   have zl:(jA cs).length≤16:=by rw [List.length_map]; exact cn
   rw [Int.zero_add]
   walk_at "w"
   rw [aL]
   walk_at "w"
   refine ixL l1.top (v:=V.ref as[i]) (gO (by rw [List.getElem?_map,ea]; rfl)) ?_
   walk_at "w"
   rw [qq eC]
   walk_at "w"
   by_cases hz:z∈jA cs
   · rw [decide_eq_true hz]
     walk_at "w"
     refine ixL l1.top (v:=V.ref as[i]) (gO (by rw [List.getElem?_map,ea]; rfl)) ?_
     walk_at "w"
     refine ⟨⟨_,SqL.of eC⟩,?_⟩
     refine dh (xs:=jA cs) (fun x=>!decide (x=z)) (fun x=>x) (by omega) (SqL.of eC) ?_ ?_ ?_
     · intro y H5 R hy s5 k5
       show tTest _ [none,some (.int y),some (.int z)] H5 R
       walk_at "w"
       exact k5 _ (Same.refl _)
     · intro y H5 Q5 hy hb s5 k5
       show tVar 1 [none,some (.int y),some (.int z)] H5 Q5
       walk_at "w"
       exact k5 _ (Same.refl _)
     · intro Sp H5 hSp s5 eSp
       rw [List.map_id'] at eSp
       have nSp:Sp≠L:=fun e=>by rw [e,X.top] at hSp; cases hSp
       walk_at "w"
       exact zD hL0 (s1.trans s5) (X.same s5) eSp nSp ec hz (by omega) s0 sg fun ts' u7 u9 u10 H6 s6 X6 l6=>⟨_,_,_,_,_,ts',rfl,s6,X6,by omega⟩
   · rw [decide_eq_false hz]
     walk_at "w"
     exact ⟨_,_,_,_,_,ts,rfl,s1,X,by omega⟩
 · rintro σ H4 ⟨v6,v7,v8,v9,v10,ts,rfl,s1,X,hl⟩
   walk_at "w"
   exact q L ts H4 s1 X hl
structure G30 (H:Hp) (p A O:Addr) (masks gs:List Int) (h w g z s:Int):Prop where
 fl:IsFl H p h w g
 F:FlOk h w g
 aa:H A=some (.lst (masks.map V.int))
 ml:masks.length=(h*w).toNat
 mm:∀ m∈masks,0≤m∧m < 64
 oo:H O=some (.lst (gs.map V.int))
 g3:gs.length=3
 gg:∀ x∈gs,1≤x∧x≤g
 z0:0≤z
 z1:z < h*w
 s0:1≤s
 s1:s≤g
theorem G30.same {H H':Hp} {p A O:Addr} {masks gs:List Int} {h w g z s:Int} (x:G30 H p A O masks gs h w g z s) (e:Same H H'):G30 H' p A O masks gs h w g z s:=⟨e _ _ x.fl,x.F,e _ _ x.aa,x.ml,x.mm,e _ _ x.oo,x.g3,x.gg,x.z0,x.z1,x.s0,x.s1⟩
theorem G30.at_ {H:Hp} {p A O:Addr} {masks gs:List Int} {h w g z s:Int} (x:G30 H p A O masks gs h w g z s) {j:Nat} (hj:j < 3):1≤gs.getD j 0∧gs.getD j 0≤g:=by
 have:=x.g3
 rw [List.getD,List.getElem?_eq_getElem (by omega)]
 exact x.gg _ (List.getElem_mem _)
def br (K:PySem.W.Frag):Sp:=fun vs H Q _=>∃ (p A O:Addr) (css:List (List Nat)) (masks gs:List Int) (h w g n z s:Int),vs=[.int n,.ref p,.ref A,.ref O,.int z,.int s]∧G30 H p A O masks gs h w g z s∧
 ∀ (L:Addr) (ts:List Addr) (H':Hp),Same H H'→IsThs (F30 h w g css z) H' L ts→ts.length≤8→Q (.ref L) H'
theorem lH {K:PySem.W.Frag} {vs:List V} {H:Hp} {Q:VK} {E:XK} (h:br K vs H Q E):vs.length=6:=by
 obtain ⟨_,_,_,_,_,_,_,_,_,_,_,_,rfl,_⟩:=h; rfl
def yP (K:PySem.W.Frag):TS:=
 (tIfS (tTest (tOp (cIn K false) (tVar 4) (tLst (tCons (tVar 14) (tCons (tOp cAdd (tVar 14) (tC (.int 1))) (tCons (tOp cAdd (tVar 14) (tOp cIx (tVar 1) (tC (.int 1)))) (tCons (tOp cAdd (tOp cAdd (tVar 14) (tOp cIx (tVar 1) (tC (.int 1)))) (tC (.int 1))) tNil))))))) (tDrop (tBM K "list" bi (tVar 7) (tCons (tTup (tCons (tC (.str (tx [115,113,117,97,114,101]))) (tCons (tC (.int 4)) (tCons (tVar 4) (tCons (tOp cIx (tVar 3) (tC (.int 2))) (tCons (tLst (tCons (tVar 14) tNil)) tNil)))))) tNil))) tNext)
def wf (K:PySem.W.Frag):TS:=
 (tIfS (tAnd (tTest (tOp (cNe K) (tVar 10) (tVar 12))) (tTest (tOp (cNe K) (tVar 5) (tVar 9)))) (tDrop (tBM K "list" bi (tVar 7) (tCons (tTup (tCons (tC (.str (tx [114,101,97,99,104]))) (tCons (tVar 8) (tCons (tVar 4) (tCons (tVar 5) (tCons (tLst (tCons (tVar 10) (tCons (tVar 12) tNil))) tNil)))))) tNil))) tNext)
def yQ (K:PySem.W.Frag):TS:=
 (tIfS (tTest (tOp (cCmp fun i j=>decide (j < i)) (tCB kLen (tCons (tVar 11) tNil)) (tC (.int 0)))) (tSeq (tAsg (tOp cIx (tVar 11) (tOp cMod (tOp cDiv (tVar 0) (tC (.int 9))) (tCB kLen (tCons (tVar 11) tNil)))) (gName 10))
  (tSeq (tAsg (tOp cIx (tVar 11) (tOp cMod (tOp cDiv (tVar 0) (tC (.int 144))) (tCB kLen (tCons (tVar 11) tNil)))) (gName 12))
  (tSeq (tDrop (tBM K "list" bi (tVar 7) (tCons (tTup (tCons (tC (.str (tx [114,101,97,99,104]))) (tCons (tVar 8) (tCons (tVar 4) (tCons (tVar 9) (tCons (tLst (tCons (tVar 10) tNil)) tNil)))))) tNil)))
  (wf K)))) tNext)
def dO (K:PySem.W.Frag):TS:=
 (tSeq (tIfS (tAnd (tTest (tOp (cCmp fun i j=>decide (j≤i)) (tVar 14) (tC (.int 0)))) (tAnd (tTest (tOp (cCmp fun i j=>decide (i < j)) (tOp cAdd (tVar 15) (tC (.int 1))) (tOp cIx (tVar 1) (tC (.int 0))))) (tTest (tOp (cCmp fun i j=>decide (i < j)) (tOp cAdd (tVar 16) (tC (.int 1))) (tOp cIx (tVar 1) (tC (.int 1))))))) (yP K) tNext)
  (tRet (tVar 7)))
def dP (K:PySem.W.Frag):TS:=
 (tSeq (tAsg (tOp cSub (tVar 4) (tOp cIx (tLst (tCons (tC (.int 0)) (tCons (tC (.int 1)) (tCons (tOp cIx (tVar 1) (tC (.int 1))) (tCons (tOp cAdd (tOp cIx (tVar 1) (tC (.int 1))) (tC (.int 1))) tNil))))) (tOp cMod (tOp cDiv (tVar 0) (tC (.int 13))) (tC (.int 4))))) (gName 14))
  (tSeq (tAsg (tCB lh (tCons (tVar 14) (tCons (tOp cIx (tVar 1) (tC (.int 1))) tNil))) (gTup K 2 (gCons (gName 15) (gCons (gName 16) gNil))))
  (dO K)))
def dQ (K:PySem.W.Frag):TS:=
 (tSeq (tAsg (tCall (da K) [] E0 (tCons (tVar 1) (tCons (tVar 4) tNil))) (gName 13))
  (tSeq (tIfS (tTest (tOp (cNe K) (tVar 13) (tLst tNil))) (tSeq (tAsg (tOp cIx (tVar 13) (tOp cMod (tOp cDiv (tVar 0) (tC (.int 11))) (tCB kLen (tCons (tVar 13) tNil)))) (gName 10))
  (tAsg (tOp cAdd (tVar 7) (tLst (tCons (tTup (tCons (tC (.str (tx [116,117,114,110]))) (tCons (tC (.int 3)) (tCons (tVar 4) (tCons (tOp cIx (tVar 3) (tC (.int 1))) (tCons (tLst (tCons (tVar 10) tNil)) tNil)))))) (tCons (tTup (tCons (tC (.str (tx [116,117,114,110]))) (tCons (tC (.int 3)) (tCons (tVar 4) (tCons (tVar 5) (tCons (tLst (tCons (tVar 10) tNil)) tNil)))))) tNil)))) (gName 7))) tNext)
  (dP K)))
def dl (K:PySem.W.Frag):TS:=
 (tSeq (tAsg (tOp cMul (tOp cIx (tVar 1) (tC (.int 0))) (tOp cIx (tVar 1) (tC (.int 1)))) (gName 6))
  (tSeq (tAsg (tLst (tCons (tTup (tCons (tC (.str (tx [116,117,114,110]))) (tCons (tC (.int 3)) (tCons (tVar 4) (tCons (tOp cIx (tVar 3) (tC (.int 1))) (tCons (tLst tNil) tNil)))))) tNil)) (gName 7))
  (tSeq (tFor (iTup K (tTup (tCons (tC (.int 2)) (tCons (tC (.int 3)) tNil)))) (gName 8)
  (tSeq (tAsg (tOp cIx (tVar 3) (tOp cSub (tVar 8) (tC (.int 2)))) (gName 9))
  (tSeq (sComp 11 [none,none,some 4,some 9,some 2,some 0] (eD (tCons (tVar 6) tNil)) (gName 1) (tAnd (tTest (tOp (cNe K) (tVar 1) (tVar 2))) (tOr (tB (tCall (cX K) [] E0 (tCons (tOp cIx (tVar 4) (tVar 1)) (tCons (tVar 3) tNil)))) (tTest (tOp (cEq K) (tOp cMod (tVar 5) (tC (.int 9))) (tC (.int 8)))))) (tVar 1))
  (yQ K))))
  (dQ K))))
theorem zE {K:PySem.W.Frag} {D:Ends} {H0 H:Hp} {p A O L:Addr} {css:List (List Nat)} {masks gs:List Int} {ts:List Addr} {h w g n z s x:Int} {v8 v9 v10 v11 v12 v13:Option V} (X:G30 H0 p A O masks gs h w g z s) (hL:H0 L=none) (s1:Same H0 H) (Y:IsThs (F30 h w g css z) H L ts) (hl:ts.length≤100) (x0:0≤x) (xr:x / w+1 < h) (xc:x % w+1 < w)
  (q:∀ (ts':List Addr) (H':Hp),Same H0 H'→IsThs (F30 h w g css z) H' L ts'→ts'.length≤ts.length+1→D.nx [some (.int n),some (.ref p),some (.ref A),some (.ref O),some (.int z),some (.int s),some (.int (h*w)),some (.ref L),v8,v9,v10,v11,v12,v13,some (.int x),some (.int (x / w)),some (.int (x % w))] H'):
  yP K D [some (.int n),some (.ref p),some (.ref A),some (.ref O),some (.int z),some (.int s),some (.int (h*w)),some (.ref L),v8,v9,v10,v11,v12,v13,some (.int x),some (.int (x / w)),some (.int (x % w))] H:=by
 have X1:=X.same s1
 unfold yP
 rw [aL]
 walk_at "w"
 refine ixT X1.fl (v:=V.int w) rfl ?_
 walk_at "w"
 refine ixT X1.fl (v:=V.int w) rfl ?_
 walk_at "w"
 refine ⟨aE (by show (4:Nat)≤1000; decide),fun W hW=>?_⟩
 have t1:Same H (upd H W (.lst [V.int x,V.int (x+1),V.int (x+w),V.int (x+w+1)])):=(Same.refl H).laid hW
 have eW:(upd H W (.lst [V.int x,V.int (x+1),V.int (x+w),V.int (x+w+1)])) W=some (.lst (([x,x+1,x+w,x+w+1]:List Int).map V.int)):=ah
 generalize upd H W (.lst [V.int x,V.int (x+1),V.int (x+w),V.int (x+w+1)])=H1 at*
 rw [qq eW]
 walk_at "w"
 have s2:=s1.trans t1
 have X2:=X.same s2
 have Y2:=Y.same t1
 have hg:=X.at_ (j:=2) (by decide)
 by_cases hz:z∈[x,x+1,x+w,x+w+1]
 · rw [decide_eq_true hz]
   walk_at "w"
   refine ⟨bq Y2.top,?_⟩
   refine ixI X2.oo (by decide) (by have:=X.g3; omega) ?_
   walk_at "w"
   refine ⟨aE (by show (1:Nat)≤1000; decide),fun M hM=>?_⟩
   refine ⟨aE (by show (5:Nat)≤1000; decide),fun T hT=>?_⟩
   exact jl .square [x] hL s2 Y2 ⟨rfl,hg.1,hg.2,.square x0 xr xc hz⟩ rfl rfl (by show (1:Nat)≤100; decide) (by omega) hM hT fun H' s3 _ Y3=>q _ H' s3 Y3 (by simp)
 · rw [decide_eq_false hz]
   walk_at "w"
   exact q ts _ s2 Y2 (by omega)
theorem ky {K:PySem.W.Frag} {Q:VK} {H0 H:Hp} {p A O L:Addr} {css:List (List Nat)} {masks gs:List Int} {ts:List Addr} {h w g n z s x:Int} {v8 v9 v10 v11 v12 v13:Option V} (X:G30 H0 p A O masks gs h w g z s) (hL:H0 L=none) (s1:Same H0 H) (Y:IsThs (F30 h w g css z) H L ts) (hl:ts.length≤7)
  (q:∀ (L:Addr) (ts:List Addr) (H':Hp),Same H0 H'→IsThs (F30 h w g css z) H' L ts→ts.length≤8→Q (.ref L) H'):
  dO K { nx:=fun _ H'=>Q .non H',rt:=Q } [some (.int n),some (.ref p),some (.ref A),some (.ref O),some (.int z),some (.int s),some (.int (h*w)),some (.ref L),v8,v9,v10,v11,v12,v13,some (.int x),some (.int (x / w)),some (.int (x % w))] H:=by
 have X1:=X.same s1
 have fin:∀ (ts':List Addr) (H':Hp),Same H0 H'→IsThs (F30 h w g css z) H' L ts'→ts'.length≤ts.length+1→tRet (tVar 7) { nx:=fun _ H'=>Q .non H',rt:=Q } [some (.int n),some (.ref p),some (.ref A),some (.ref O),some (.int z),some (.int s),some (.int (h*w)),some (.ref L),v8,v9,v10,v11,v12,v13,some (.int x),some (.int (x / w)),some (.int (x % w))] H':=fun ts' H' s2 Y2 l2=>by
  walk_at "w"
  exact q L ts' H' s2 Y2 (by omega)
 unfold dO
 rw [aV,aL]
 walk_at "w"
 by_cases c1:0≤x
 · rw [decide_eq_true c1]
   walk_at "w"
   refine ixT X1.fl (v:=V.int h) rfl ?_
   walk_at "w"
   by_cases c2:x / w+1 < h
   · rw [decide_eq_true c2]
     walk_at "w"
     refine ixT X1.fl (v:=V.int w) rfl ?_
     walk_at "w"
     by_cases c3:x % w+1 < w
     · rw [decide_eq_true c3]
       walk_at "w"
       exact zE X hL s1 Y (by omega) c1 c2 c3 fin
     · rw [decide_eq_false c3]
       walk_at "w"
       exact q L ts H s1 Y (by omega)
   · rw [decide_eq_false c2]
     walk_at "w"
     exact q L ts H s1 Y (by omega)
 · rw [decide_eq_false c1]
   walk_at "w"
   exact q L ts H s1 Y (by omega)
theorem gS {K:PySem.W.Frag} {Q:VK} {H0 H:Hp} {p A O L:Addr} {css:List (List Nat)} {masks gs:List Int} {ts:List Addr} {h w g n z s:Int} {v8 v9 v10 v11 v12 v13:Option V} (X:G30 H0 p A O masks gs h w g z s) (hL:H0 L=none) (s1:Same H0 H) (Y:IsThs (F30 h w g css z) H L ts) (hl:ts.length≤7)
  (q:∀ (L:Addr) (ts:List Addr) (H':Hp),Same H0 H'→IsThs (F30 h w g css z) H' L ts→ts.length≤8→Q (.ref L) H'):
  dP K { nx:=fun _ H'=>Q .non H',rt:=Q } [some (.int n),some (.ref p),some (.ref A),some (.ref O),some (.int z),some (.int s),some (.int (h*w)),some (.ref L),v8,v9,v10,v11,v12,v13,none,none,none] H:=by
 have X1:=X.same s1
 have w0:=X.F.w0
 have w6:=X.F.w1
 unfold dP
 walk_at "w"
 refine ixT X1.fl (v:=V.int w) rfl ?_
 walk_at "w"
 refine ixT X1.fl (v:=V.int w) rfl ?_
 walk_at "w"
 refine ⟨aE (by show (4:Nat)≤1000; decide),fun W hW=>?_⟩
 have t1:Same H (upd H W (.lst [V.int 0,V.int 1,V.int w,V.int (w+1)])):=(Same.refl H).laid hW
 have eW:(upd H W (.lst [V.int 0,V.int 1,V.int w,V.int (w+1)])) W=some (.lst [V.int 0,V.int 1,V.int w,V.int (w+1)]):=ah
 generalize upd H W (.lst [V.int 0,V.int 1,V.int w,V.int (w+1)])=H1 at*
 refine ⟨⟨by decide,by decide⟩,?_⟩
 refine ⟨by decide,?_⟩
 obtain ⟨v,hv⟩:∃ v:Int,atI [V.int 0,V.int 1,V.int w,V.int (w+1)] (n / 13 % 4)=some (V.int v):=by
  have e:n / 13 % 4=0∨n / 13 % 4=1∨n / 13 % 4=2∨n / 13 % 4=3:=by omega
  rcases e with e | e | e | e <;> rw [e]
  · exact ⟨0,rfl⟩
  · exact ⟨1,rfl⟩
  · exact ⟨w,rfl⟩
  · exact ⟨w+1,rfl⟩
 refine ixL eW hv ?_
 walk_at "w"
 generalize z - v=x at*
 have s2:=s1.trans t1
 have X2:=X.same s2
 refine ixT X2.fl (v:=V.int w) rfl ?_
 walk_at "w"
 rw [tu]
 refine ⟨⟨by omega,by omega⟩,fun T hT=>?_⟩
 have t2:Same H1 (upd H1 T (.tup [.int (x / w),.int (x % w)])):=(Same.refl H1).laid hT
 have eT:(upd H1 T (.tup [.int (x / w),.int (x % w)])) T=some (.tup [.int (x / w),.int (x % w)]):=ah
 generalize upd H1 T (.tup [.int (x / w),.int (x % w)])=H2 at*
 refine sB eT rfl ?_
 rw [nQ]
 walk_at "w"
 exact ky X hL (s2.trans t2) (Y.same (t1.trans t2)) hl q
theorem kz {K:PySem.W.Frag} {Q:VK} {H0 H:Hp} {p A O L:Addr} {css:List (List Nat)} {masks gs:List Int} {ts:List Addr} {h w g n z s:Int} {v8 v9 v10 v11 v12:Option V} (X:G30 H0 p A O masks gs h w g z s) (hL:H0 L=none) (s1:Same H0 H) (Y:IsThs (F30 h w g css z) H L ts) (hl:ts.length≤5)
  (q:∀ (L:Addr) (ts:List Addr) (H':Hp),Same H0 H'→IsThs (F30 h w g css z) H' L ts→ts.length≤8→Q (.ref L) H'):
  dQ K { nx:=fun _ H'=>Q .non H',rt:=Q } [some (.int n),some (.ref p),some (.ref A),some (.ref O),some (.int z),some (.int s),some (.int (h*w)),some (.ref L),v8,v9,v10,v11,v12,none,none,none,none] H:=by
 have X1:=X.same s1
 unfold dQ
 walk_at "w"
 refine ⟨p,h,w,g,z,rfl,X1.fl,X.F,fun N H1 t1 hN eN=>?_⟩
 have s2:=s1.trans t1
 have X2:=X.same s2
 have Y2:=Y.same t1
 walk_at "w"
 rw [aL]
 walk_at "w"
 refine ⟨aE (by decide),fun Z hZ=>?_⟩
 have t2:Same H1 (upd H1 Z (.lst [])):=(Same.refl H1).laid hZ
 have eZ:(upd H1 Z (.lst [])) Z=some (.lst (([]:List Int).map V.int)):=ah
 generalize upd H1 Z (.lst [])=H2 at*
 have s3:=s2.trans t2
 have X3:=X.same s3
 have Y3:=Y2.same t2
 have eN3:=t2 _ _ eN
 refine yW eN3 eZ ?_
 walk_at "w"
 by_cases c1:nearL h w z=[]
 · rw [decide_eq_true c1]
   walk_at "w"
   exact gS X hL s3 Y3 (by omega) q
 · rw [decide_eq_false c1]
   walk_at "w"
   have np:0 < (nearL h w z).length:=List.length_pos_iff.mpr c1
   refine ⟨⟨by decide,by decide⟩,?_⟩
   rw [bv eN3,List.length_map]
   walk_at "w"
   refine ⟨by omega,?_⟩
   have b0:=Int.emod_nonneg (n / 11) (show ((nearL h w z).length:Int)≠0 by omega)
   have b1:=Int.emod_lt_of_pos (n / 11) (show (0:Int) < ((nearL h w z).length:Int) by omega)
   generalize n / 11 % ((nearL h w z).length:Int)=j at*
   refine ixI eN3 b0 b1 ?_
   walk_at "w"
   have hx:(nearL h w z).getD j.toNat 0∈nearL h w z:=by
    rw [List.getD,List.getElem?_eq_getElem (by omega)]
    exact List.getElem_mem _
   generalize (nearL h w z).getD j.toNat 0=y at*
   have hg:=X.at_ (j:=1) (by decide)
   refine ixI X3.oo (by decide) (by have:=X.g3; omega) ?_
   walk_at "w"
   rw [show gs.getD (1:Int).toNat 0=gs.getD 1 0 from rfl]
   generalize gs.getD 1 0=gl at*
   refine ⟨aE (by show (1:Nat)≤1000; decide),fun M1 hM1=>?_⟩
   have k1:Same H2 (upd H2 M1 (.lst [V.int y])):=(Same.refl H2).laid hM1
   have e1:(upd H2 M1 (.lst [V.int y])) M1=some (.lst (([y]:List Int).map V.int)):=ah
   generalize upd H2 M1 (.lst [V.int y])=H3 at*
   refine ⟨aE (by show (5:Nat)≤1000; decide),fun T1 hT1=>?_⟩
   have k2:Same H3 (upd H3 T1 (.tup [V.str (tx (tkC .turn)),V.int 3,V.int z,V.int gl,V.ref M1])):=(Same.refl H3).laid hT1
   have th1:IsTh (upd H3 T1 (.tup [V.str (tx (tkC .turn)),V.int 3,V.int z,V.int gl,V.ref M1])) T1 M1 .turn 3 z gl [y]:=pR e1 (by show (1:Nat)≤100; decide) hT1
   generalize hHa:upd H3 T1 (.tup [V.str (tx (tkC .turn)),V.int 3,V.int z,V.int gl,V.ref M1])=H4 at*
   have hHa':upd H3 T1 (.tup [V.str (tx [116,117,114,110]),V.int 3,V.int z,V.int gl,V.ref M1])=H4:=hHa
   rw [hHa']
   refine ⟨aE (by show (1:Nat)≤1000; decide),fun M2 hM2=>?_⟩
   have k3:Same H4 (upd H4 M2 (.lst [V.int y])):=(Same.refl H4).laid hM2
   have e2:(upd H4 M2 (.lst [V.int y])) M2=some (.lst (([y]:List Int).map V.int)):=ah
   generalize upd H4 M2 (.lst [V.int y])=H5 at*
   refine ⟨aE (by show (5:Nat)≤1000; decide),fun T2 hT2=>?_⟩
   have k4:Same H5 (upd H5 T2 (.tup [V.str (tx (tkC .turn)),V.int 3,V.int z,V.int s,V.ref M2])):=(Same.refl H5).laid hT2
   have th2:IsTh (upd H5 T2 (.tup [V.str (tx (tkC .turn)),V.int 3,V.int z,V.int s,V.ref M2])) T2 M2 .turn 3 z s [y]:=pR e2 (by show (1:Nat)≤100; decide) hT2
   generalize hHb:upd H5 T2 (.tup [V.str (tx (tkC .turn)),V.int 3,V.int z,V.int s,V.ref M2])=H6 at*
   have hHb':upd H5 T2 (.tup [V.str (tx [116,117,114,110]),V.int 3,V.int z,V.int s,V.ref M2])=H6:=hHb
   rw [hHb']
   refine ⟨aE (by show (2:Nat)≤1000; decide),fun W hW=>?_⟩
   have k5:Same H6 (upd H6 W (.lst [V.ref T1,V.ref T2])):=(Same.refl H6).laid hW
   have e5:(upd H6 W (.lst [V.ref T1,V.ref T2])) W=some (.lst [V.ref T1,V.ref T2]):=ah
   generalize upd H6 W (.lst [V.ref T1,V.ref T2])=H7 at*
   have k15:=(((k1.trans k2).trans k3).trans k4).trans k5
   have s7:=s3.trans k15
   have Y7:=Y3.same k15
   refine o0 Y7.top e5 (by rw [List.length_map]; show ts.length+2≤1000; omega) fun N2 hN2=>?_
   have th1':=th1.same ((k3.trans k4).trans k5)
   have th2':=th2.same k5
   have k6:Same H7 (upd H7 N2 (.lst (ts.map V.ref++[V.ref T1,V.ref T2]))):=(Same.refl H7).laid hN2
   have Y8:IsThs (F30 h w g css z) (upd H7 N2 (.lst (ts.map V.ref++[V.ref T1,V.ref T2]))) N2 (ts++[T1,T2]):=by
    have y:=on (U:=(F30 h w g css z)) (ts:=ts++[T1,T2]) hN2 fun T hT=>by
     rcases List.mem_append.mp hT with hT | hT
     · obtain ⟨M,t,r,z',s',ms,n',p',th⟩:=Y7.ok T hT
       exact ⟨M,t,r,z',s',ms,p',th⟩
     · rcases List.mem_cons.mp hT with rfl | hT
       · exact ⟨M1,.turn,3,z,gl,[y],⟨rfl,hg.1,hg.2,.turn (.inr ⟨y,hx,rfl⟩)⟩,th1'⟩
       · rw [List.mem_singleton.mp hT]
         exact ⟨M2,.turn,3,z,s,[y],⟨rfl,X.s0,X.s1,.turn (.inr ⟨y,hx,rfl⟩)⟩,th2'⟩
    rw [List.map_append] at y
    exact y
   generalize upd H7 N2 (.lst (ts.map V.ref++[V.ref T1,V.ref T2]))=H8 at*
   walk_at "w"
   exact gS X (s7.free hN2) (s7.trans k6) Y8 (by rw [List.length_append]; show ts.length+2≤7; omega) q
theorem yR {K:PySem.W.Frag} {D:Ends} {H0 H:Hp} {p A O L:Addr} {css:List (List Nat)} {masks gs:List Int} {ts:List Addr} {h w g n z s r gl x y:Int} {v11 v13 v14 v15 v16:Option V} (X:G30 H0 p A O masks gs h w g z s) (hL:H0 L=none) (s1:Same H0 H) (Y:IsThs (F30 h w g css z) H L ts) (hl:ts.length≤100) (hr:r=2∨r=3) (hx:0≤x∧x < h*w∧x≠z) (hy:0≤y∧y < h*w∧y≠z)
  (q:∀ (ts':List Addr) (H':Hp),Same H0 H'→(∀ b x,b≠L→H b=some x→H' b=some x)→IsThs (F30 h w g css z) H' L ts'→ts'.length≤ts.length+1→D.nx [some (.int n),some (.ref p),some (.ref A),some (.ref O),some (.int z),some (.int s),some (.int (h*w)),some (.ref L),some (.int r),some (.int gl),some (.int x),v11,some (.int y),v13,v14,v15,v16] H'):
  wf K D [some (.int n),some (.ref p),some (.ref A),some (.ref O),some (.int z),some (.int s),some (.int (h*w)),some (.ref L),some (.int r),some (.int gl),some (.int x),v11,some (.int y),v13,v14,v15,v16] H:=by
 unfold wf
 rw [aL]
 walk_at "w"
 by_cases c1:x=y
 · rw [decide_eq_true c1]
   walk_at "w"
   exact q ts _ s1 (fun _ _ _ e=>e) Y (by omega)
 · rw [decide_eq_false c1]
   walk_at "w"
   by_cases c2:s=gl
   · rw [decide_eq_true c2]
     walk_at "w"
     exact q ts _ s1 (fun _ _ _ e=>e) Y (by omega)
   · rw [decide_eq_false c2]
     walk_at "w"
     refine ⟨bq Y.top,?_⟩
     walk_at "w"
     refine ⟨aE (by show (2:Nat)≤1000; decide),fun M hM=>?_⟩
     refine ⟨aE (by show (5:Nat)≤1000; decide),fun T hT=>?_⟩
     refine jl .reach [x,y] hL s1 Y ⟨rfl,X.s0,X.s1,.reach hr (by simp) (by show (2:Nat)≤2; decide) fun v hv=>?_⟩ rfl rfl (by show (2:Nat)≤100; decide) (by omega) hM hT fun H' s3 kp Y3=>q _ H' s3 kp Y3 (by simp)
     rcases List.mem_cons.mp hv with rfl | hv
     · exact hx
     · rw [List.mem_singleton.mp hv]; exact hy
theorem zF {K:PySem.W.Frag} {D:Ends} {H0 H:Hp} {p A O L N:Addr} {css:List (List Nat)} {masks gs must:List Int} {ts:List Addr} {h w g n z s r gl:Int} {v10 v12 v13 v14 v15 v16:Option V} (X:G30 H0 p A O masks gs h w g z s) (hL:H0 L=none) (s1:Same H0 H) (Y:IsThs (F30 h w g css z) H L ts) (hl:ts.length≤99) (hr:r=2∨r=3) (g0:1≤gl) (g1:gl≤g) (eN:H N=some (.lst (must.map V.int))) (hm:∀ x∈must,0≤x∧x < h*w∧x≠z)
  (q:∀ (ts':List Addr) (v10 v12:Option V) (H':Hp),Same H0 H'→(∀ b x,b≠L→H b=some x→H' b=some x)→IsThs (F30 h w g css z) H' L ts'→ts'.length≤ts.length+2→D.nx [some (.int n),some (.ref p),some (.ref A),some (.ref O),some (.int z),some (.int s),some (.int (h*w)),some (.ref L),some (.int r),some (.int gl),v10,some (.ref N),v12,v13,v14,v15,v16] H'):
  yQ K D [some (.int n),some (.ref p),some (.ref A),some (.ref O),some (.int z),some (.int s),some (.int (h*w)),some (.ref L),some (.int r),some (.int gl),v10,some (.ref N),v12,v13,v14,v15,v16] H:=by
 unfold yQ
 rw [aL]
 walk_at "w"
 rw [bv eN,List.length_map]
 walk_at "w"
 by_cases c1:(0:Int) < (must.length:Int)
 · rw [decide_eq_true c1]
   walk_at "w"
   refine ⟨⟨by decide,by decide⟩,?_⟩
   rw [bv eN,List.length_map]
   walk_at "w"
   refine ⟨by omega,?_⟩
   have el:∀ a:Int,must.getD (a % (must.length:Int)).toNat 0∈must:=fun a=>by
    have b0:=Int.emod_nonneg a (show (must.length:Int)≠0 by omega)
    have b1:=Int.emod_lt_of_pos a c1
    rw [List.getD,List.getElem?_eq_getElem (by omega)]
    exact List.getElem_mem _
   refine ixI eN (Int.emod_nonneg _ (by omega)) (Int.emod_lt_of_pos _ c1) ?_
   walk_at "w"
   have hx:=hm _ (el (n / 9))
   generalize must.getD (n / 9 % (must.length:Int)).toNat 0=x at*
   refine ⟨⟨by decide,by decide⟩,?_⟩
   rw [bv eN,List.length_map]
   walk_at "w"
   refine ⟨by omega,?_⟩
   refine ixI eN (Int.emod_nonneg _ (by omega)) (Int.emod_lt_of_pos _ c1) ?_
   walk_at "w"
   have hy:=hm _ (el (n / 144))
   generalize must.getD (n / 144 % (must.length:Int)).toNat 0=y at*
   refine ⟨bq Y.top,?_⟩
   walk_at "w"
   refine ⟨aE (by show (1:Nat)≤1000; decide),fun M hM=>?_⟩
   refine ⟨aE (by show (5:Nat)≤1000; decide),fun T hT=>?_⟩
   refine jl .reach [x] hL s1 Y ⟨rfl,g0,g1,.reach hr (by simp) (by show (1:Nat)≤2; decide) fun v hv=>by rw [List.mem_singleton.mp hv]; exact hx⟩ rfl rfl (by show (1:Nat)≤100; decide) (by omega) hM hT fun H' s3 kp Y3=>?_
   walk_at "w"
   exact yR X hL s3 Y3 (by rw [List.length_append]; show ts.length+1≤100; omega) hr hx hy fun ts' H4 s4 kp4 Y4 l4=>q ts' _ _ H4 s4 (fun b x nb e=>kp4 b x nb (kp b x nb e)) Y4 (by rw [List.length_append] at l4; have l5:ts'.length≤ts.length+1+1:=l4; omega)
 · rw [decide_eq_false c1]
   walk_at "w"
   exact q ts _ _ _ s1 (fun _ _ _ e=>e) Y (by omega)
theorem lI {K:PySem.W.Frag} {vs:List V} {H:Hp} {Q:VK} {E:XK} (h:br K vs H Q E):dl K { nx:=fun _ H'=>Q .non H',rt:=Q } (start ["_law_number","_law_floor_here","_law_masks_here","_law_goals","_law_cell","_law_sign","_law_many","_law_found","_law_rule","_law_goal","_law_one","_law_must","_law_other","_law_near_here","_law_corner","_law_row","_law_column"] vs) H:=by
 obtain ⟨p,A,O,css,masks,gs,h,w,g,n,z,s,rfl,X,q⟩:=h
 obtain ⟨h0,h1,w0,w1,m16,g0,g6⟩:=id X.F
 have mpos:1≤h*w:=Int.le_trans (by omega) (Int.mul_le_mul h0 w0 (by omega) (by omega))
 have g3:=X.g3
 have ml:=X.ml
 show dl K _ [some (.int n),some (.ref p),some (.ref A),some (.ref O),some (.int z),some (.int s),none,none,none,none,none,none,none,none,none,none,none] H
 unfold dl
 walk_at "w"
 refine ixT X.fl (v:=V.int h) rfl ?_
 walk_at "w"
 refine ixT X.fl (v:=V.int w) rfl ?_
 walk_at "w"
 refine ⟨ii h0 h1,?_⟩
 refine ixI X.oo (by decide) (by omega) ?_
 walk_at "w"
 have hg1:=X.at_ (j:=1) (by decide)
 rw [show gs.getD (1:Int).toNat 0=gs.getD 1 0 from rfl]
 generalize hgl:gs.getD 1 0=gl1 at*
 refine ⟨aE (by decide),fun M hM=>?_⟩
 refine ⟨aE (by show (5:Nat)≤1000; decide),fun T hT=>?_⟩
 refine ⟨aE (by show (1:Nat)≤1000; decide),fun L hL=>?_⟩
 have t1:Same H (upd H M (.lst [])):=(Same.refl H).laid hM
 have eM:(upd H M (.lst [])) M=some (.lst (([]:List Int).map V.int)):=ah
 generalize upd H M (.lst [])=H1 at*
 have t2:Same H1 (upd H1 T (.tup [V.str (tx (tkC .turn)),V.int 3,V.int z,V.int gl1,V.ref M])):=(Same.refl H1).laid hT
 have Th:IsTh (upd H1 T (.tup [V.str (tx (tkC .turn)),V.int 3,V.int z,V.int gl1,V.ref M])) T M .turn 3 z gl1 []:=pR eM (by decide) hT
 generalize hHq:upd H1 T (.tup [V.str (tx (tkC .turn)),V.int 3,V.int z,V.int gl1,V.ref M])=H2 at*
 have hHq':upd H1 T (.tup [V.str (tx [116,117,114,110]),V.int 3,V.int z,V.int gl1,V.ref M])=H2:=hHq
 rw [hHq'] at hL ⊢
 have X0:IsThs (F30 h w g css z) (upd H2 L (.lst [V.ref T])) L [T]:=on (ts:=[T]) hL fun T' hT'=>by
  rw [List.mem_singleton.mp hT']
  exact ⟨M,.turn,3,z,gl1,[],⟨rfl,hg1.1,hg1.2,.turn (.inl rfl)⟩,Th⟩
 have t12:=t1.trans t2
 have hL0:H L=none:=t12.free hL
 have s0':Same H (upd H2 L (.lst [V.ref T])):=t12.trans ((Same.refl H2).laid hL)
 generalize upd H2 L (.lst [V.ref T])=H3 at*
 rw [Ay]
 walk_at "w"
 refine ⟨aE (by show (2:Nat)≤1000; decide),fun W hW=>?_⟩
 have t3:Same H3 (upd H3 W (.tup [V.int 2,V.int 3])):=(Same.refl H3).laid hW
 have eW:(upd H3 W (.tup [V.int 2,V.int 3])) W=some (.tup [V.int 2,V.int 3]):=ah
 have nW:W≠L:=fun e=>by rw [e,X0.top] at hW; cases hW
 generalize upd H3 W (.tup [V.int 2,V.int 3])=H4 at*
 have X4:=X0.same t3
 have s4:=s0'.trans t3
 refine ⟨⟨_,SqT.of eW⟩,?_⟩
 refine y4 (K:=K) (xs:=[V.int 2,V.int 3]) (fun i σ H'=>∃ (v8 v9 v10 v11 v12:Option V) (ts:List Addr),σ=[some (.int n),some (.ref p),some (.ref A),some (.ref O),some (.int z),some (.int s),some (.int (h*w)),some (.ref L),v8,v9,v10,v11,v12,none,none,none,none]∧Same H H'∧H' W=some (.tup [V.int 2,V.int 3])∧IsThs (F30 h w g css z) H' L ts∧ts.length≤1+2*i) ⟨none,none,none,none,none,[T],rfl,s4,eW,X4,by show (1:Nat)≤1; decide⟩ (fun i σ H' _ ⟨_,_,_,_,_,_,_,_,e,_⟩=>SqT.of e) ?_ ?_
 · rintro i v σ H5 hv ⟨v8,v9,v10,v11,v12,ts,rfl,s5,eW5,Y,hl⟩
   have hi:i < 2:=(List.getElem?_eq_some_iff.mp hv).1
   obtain ⟨r,rfl,hr⟩:∃ r:Int,v=V.int r∧(r=2∨r=3):=by
    match i,hv with
    | 0,hv=>cases hv; exact ⟨2,rfl,.inl rfl⟩
    | 1,hv=>cases hv; exact ⟨3,rfl,.inr rfl⟩
    | n+2,hv=>cases hv
   have X5:=X.same s5
   walk_at "w"
   refine ixI X5.oo (by omega) (by omega) ?_
   walk_at "w"
   have hg:=X.at_ (j:=(r - 2).toNat) (by omega)
   generalize gs.getD (r - 2).toNat 0=gl at*
   refine ⟨h*w,rfl,by omega,by omega,?_⟩
   refine jp (fun i=>!decide ((i:Int)=z)&&(decide (woI (masks.getD i 0) gl=0)||decide (n % 9=8))) (fun i=>(i:Int)) (by omega) ?_ ?_ ?_
   · intro i H6 R hi s6 k6
     have hil:i < (h*w).toNat:=hi
     have mi:0≤masks.getD i 0∧masks.getD i 0 < 64:=by
      rw [List.getD,List.getElem?_eq_getElem (by omega)]; exact X.mm _ (List.getElem_mem _)
     rw [Int.zero_add]
     show tAnd _ _ [none,some (.int (i:Int)),some (.int z),some (.int gl),some (.ref A),some (.int n)] H6 R
     walk_at "w"
     cases hb:decide ((i:Int)=z) with
     | true=>
      rw [hb,Bool.not_true,Bool.false_and] at k6
      walk_at "w"
      exact k6 _ (Same.refl _)
     | false=>
      rw [hb,Bool.not_false,Bool.true_and] at k6
      walk_at "w"
      refine ixI ((s5.trans s6) _ _ X.aa) (by omega) (by omega) ?_
      rw [Int.toNat_natCast]
      walk_at "w"
      refine ⟨_,_,rfl,mi.1,mi.2,hg.1,by omega,?_⟩
      walk_at "w"
      cases hc:decide (woI (masks.getD i 0) gl=0) with
      | true=>
       rw [hc,Bool.true_or] at k6
       walk_at "w"
       exact k6 _ (Same.refl _)
      | false=>
       rw [hc,Bool.false_or] at k6
       walk_at "w"
       refine ⟨by decide,?_⟩
       exact k6 _ (Same.refl _)
   · intro i H6 Q6 hi _ s6 k6
     rw [Int.zero_add]
     show tVar 1 [none,some (.int (i:Int)),some (.int z),some (.int gl),some (.ref A),some (.int n)] H6 Q6
     walk_at "w"
     exact k6 _ (Same.refl _)
   · intro N H6 hN s6 eN
     have hm:∀ x∈((List.range (h*w).toNat).filter fun (i:Nat)=>!decide ((i:Int)=z)&&(decide (woI (masks.getD i 0) gl=0)||decide (n % 9=8))).map fun (i:Nat)=>(i:Int),0≤x∧x < h*w∧x≠z:=fun x hx=>by
      obtain ⟨j,hj,rfl⟩:=List.mem_map.mp hx
      obtain ⟨hj1,hj2⟩:=List.mem_filter.mp hj
      have:=List.mem_range.mp hj1
      rw [Bool.and_eq_true,Bool.not_eq_true',decide_eq_false_iff_not] at hj2
      exact ⟨by omega,by omega,hj2.1⟩
     walk_at "w"
     have s56:=s5.trans s6
     exact zF X hL0 s56 (Y.same s6) (by omega) hr hg.1 hg.2 eN hm fun ts' u10 u12 H7 s7 kp Y7 l7=>⟨_,_,_,_,_,ts',rfl,s7,kp _ _ nW (s6 _ _ eW5),Y7,by omega⟩
 · rintro σ H5 ⟨v8,v9,v10,v11,v12,ts,rfl,s5,eW5,Y,hl⟩
   exact kz X hL0 s5 Y hl q
theorem AW {g m:Int} (g0:1≤g) (g6:g≤6) (h:m < 1*2^g.toNat):m < 64:=by
 have e:g=1∨g=2∨g=3∨g=4∨g=5∨g=6:=by omega
 rcases e with rfl | rfl | rfl | rfl | rfl | rfl
 all_goals exact Int.lt_of_lt_of_le h (by decide)
theorem zG:((List.range 64).all fun m=>(List.range 6).all fun s=>decide (stB (m:Int) (1+(s:Int))=Nat.testBit m s))=true:=by decide+kernel
theorem vh {m s:Int} (m0:0≤m) (m1:m < 64) (s0:1≤s) (s6:s≤6):stB m s=Nat.testBit m.toNat (s - 1).toNat:=by
 have t:=List.all_eq_true.mp (List.all_eq_true.mp zG m.toNat (List.mem_range.mpr (by omega))) (s - 1).toNat (List.mem_range.mpr (by omega))
 rw [show ((m.toNat:Nat):Int)=m by omega,show 1+(((s - 1).toNat:Nat):Int)=s by omega] at t
 exact of_decide_eq_true t
theorem zH {m y:Int} (m0:0≤m) (m1:m < 64) (y0:0≤y):Sub30 (Builtin.bitAnd m y) m:=by
 have e:Builtin.bitAnd m y=((m.toNat&&& y.toNat:Nat):Int):=by
  unfold Builtin.bitAnd
  rw [decide_eq_true m0,decide_eq_true y0]
 have le:m.toNat&&& y.toNat≤m.toNat:=Nat.and_le_left
 have tb:∀ j,Nat.testBit (m.toNat&&& y.toNat) j=true→Nat.testBit m.toNat j=true:=fun j h=>by
  rw [Nat.testBit_and,Bool.and_eq_true] at h
  exact h.1
 rw [e]
 generalize m.toNat&&& y.toNat=k at*
 have a1:((k:Nat):Int) < 64:=by omega
 refine ⟨by omega,a1,m0,m1,fun s h=>?_⟩
 obtain ⟨s0,s6⟩:=st6 (by omega) a1 h
 rw [vh (by omega) a1 s0 s6,Int.toNat_natCast] at h
 rw [vh m0 m1 s0 s6]
 exact tb _ h
theorem Sub30.self {m:Int} (m0:0≤m) (m1:m < 64):Sub30 m m:=⟨m0,m1,m0,m1,fun _ h=>h⟩
theorem vi {less masks:List Int} {i:Nat} {x:Int} (hl:less.length=i) (hm:∀ k,k < i→Sub30 (less.getD k 0) (masks.getD k 0)) (hx:Sub30 x (masks.getD i 0)):∀ k,k < i+1→Sub30 ((less++[x]).getD k 0) (masks.getD k 0):=by
 intro k hk
 by_cases h:k < i
 · have e:(less++[x]).getD k 0=less.getD k 0:=by rw [List.getD,List.getElem?_append_left (by omega)]; rfl
   rw [e]
   exact hm k h
 · have e:k=i:=by omega
   have e2:(less++[x]).getD k 0=x:=by rw [List.getD,List.getElem?_append_right (by omega),show k - less.length=0 by omega]; rfl
   rw [e2,e]
   exact hx
def cg (K:PySem.W.Frag):Sp:=fun vs H Q _=>∃ (a A:Addr) (ns masks:List Int) (s:Int),vs=[.ref a,.ref A,.int s]∧SqL K H a (ns.map V.int)∧ns.length≤63∧1≤s∧s≤6∧H A=some (.lst (masks.map V.int))∧masks.length≤16∧(∀ m∈masks,0≤m∧m < 64)∧
 ∀ (l:Addr) (H':Hp) (ms:List Int),Same H H'→H' l=some (.lst (ms.map V.int))→ms.length=masks.length→(∀ m∈ms,0≤m∧m < 64)→Q (.ref l) H'
theorem pU {K:PySem.W.Frag} {vs:List V} {H:Hp} {Q:VK} {E:XK} (h:cg K vs H Q E):vs.length=3:=by
 obtain ⟨_,_,_,_,_,rfl,_⟩:=h; rfl
def wg (K:PySem.W.Frag):TS:=
 (tSeq (tIfS (tAnd (tTest (tOp (cCmp fun i j=>decide (j < i)) (tOp cMod (tVar 3) (tC (.int 3))) (tC (.int 0)))) (tTest (tOp (cEq K) (tOp cMod (tVar 8) (tC (.int 5))) (tC (.int 3))))) (tAsg (tOp cSub (tOp cOr (tVar 7) (tVar 4)) (tVar 4)) (gName 7)) tNext)
  (tDrop (tBM K "list" bi (tVar 5) (tCons (tVar 7) tNil))))
def gu (K:PySem.W.Frag):TS:=
 (tSeq (tAsg (tOp cDiv (tCall (aA K) [] E0 (tCons (tVar 0) (tCons (tC (.int 2)) tNil))) (tC (.int 1000))) (gName 3))
  (tSeq (tAsg (tOp cShl (tC (.int 1)) (tOp cSub (tVar 2) (tC (.int 1)))) (gName 4))
  (tSeq (tAsg (tLst tNil) (gName 5))
  (tSeq (tFor (eD (tCons (tCB kLen (tCons (tVar 1) tNil)) tNil)) (gName 6)
  (tSeq (tAsg (tOp cIx (tVar 1) (tVar 6)) (gName 7))
  (tSeq (tAsg (tOp cDiv (tCall (aA K) [] E0 (tCons (tVar 0) (tCons (tOp cAdd (tC (.int 160)) (tVar 6)) tNil))) (tC (.int 50))) (gName 8))
  (tSeq (tIfS (tAnd (tTest (tOp (cCmp fun i j=>decide (j < i)) (tOp cMod (tVar 3) (tC (.int 3))) (tC (.int 0)))) (tTest (tOp (cCmp fun i j=>decide (i < j)) (tOp cMod (tVar 8) (tC (.int 5))) (tC (.int 2))))) (tAsg (tVar 4) (gName 7)) tNext)
  (wg K)))))
  (tRet (tVar 5))))))
theorem oq {K:PySem.W.Frag} {D:Ends} {H1:Hp} {a A L:Addr} {s y n x kp:Int} {i:Nat} {ms:List Int} (s0:1≤s) (s6:s≤6) (ek:kp=1*2^(s - 1).toNat) (x0:0≤x) (x1:x < 64) (eL:H1 L=some (.lst (ms.map V.int))) (hl:ms.length≤100)
  (q:∀ x:Int,0≤x→x < 64→D.nx [some (.ref a),some (.ref A),some (.int s),some (.int y),some (.int kp),some (.ref L),some (.int (i:Int)),some (.int x),some (.int n)] (upd H1 L (.lst (ms.map V.int++[V.int x])))):
  wg K D [some (.ref a),some (.ref A),some (.int s),some (.int y),some (.int kp),some (.ref L),some (.int (i:Int)),some (.int x),some (.int n)] H1:=by
 have hlen:(ms.map V.int).length < sizeLine:=by rw [List.length_map]; exact aI (by omega)
 have o:=AZ x0 x1 (show 0≤s - 1 by omega) (show s - 1 < 6 by omega)
 rw [← ek] at o
 have kp0:0≤kp:=by rw [ek]; exact (sY (j:=s - 1) (g:=6) (by omega) (by omega)).1
 unfold wg
 rw [aV,aL]
 walk_at "w"
 refine ⟨by decide,?_⟩
 cases decide ((0:Int) < y % 3) with
 | false=>
  refine iteF ?_
  walk_at "w"
  refine ⟨bq eL,?_⟩
  rw [dA eL]
  exact ⟨hlen,q x x0 x1⟩
 | true=>
  refine iteT ⟨by decide,?_⟩
  cases decide (n % 5=3) with
  | false=>
   walk_at "w"
   refine ⟨bq eL,?_⟩
   rw [dA eL]
   exact ⟨hlen,q x x0 x1⟩
  | true=>
   walk_at "w"
   refine ⟨bq eL,?_⟩
   rw [dA eL]
   exact ⟨hlen,q _ (by omega) (by omega)⟩
theorem pV {K:PySem.W.Frag} {vs:List V} {H:Hp} {Q:VK} {E:XK} (h:cg K vs H Q E):gu K { nx:=fun _ H'=>Q .non H',rt:=Q } (start ["_law_script","_law_masks_here","_law_sign","_law_cell","_law_kept_bit","_law_found","_law_k","_law_mask","_law_number"] vs) H:=by
 obtain ⟨a,A,ns,masks,s,rfl,hS,hn,s0,s6,hA,hml,hmm,q⟩:=h
 show gu K _ [some (.ref a),some (.ref A),some (.int s),none,none,none,none,none,none] H
 unfold gu
 walk_at "w"
 refine ⟨a,ns,2,rfl,hS,hn,by decide,by decide,?_⟩
 walk_at "w"
 refine ⟨⟨by decide,by decide⟩,⟨by omega,by omega,by decide⟩,aE (by decide),fun L hL=>?_⟩
 generalize lawCA ns 2 / 1000=y at*
 have kp0:=sY (j:=s - 1) (g:=6) (by omega) (by omega)
 obtain ⟨kp,ek⟩:∃ kp:Int,kp=1*2^(s - 1).toNat:=⟨_,rfl⟩
 rw [← ek] at kp0 ⊢
 have eA2:(upd H L (.lst [])) A=some (.lst (masks.map V.int)):=by rw [ar (aG hA hL)]; exact hA
 rw [bv eA2,List.length_map]
 refine ⟨_,rfl,by omega,by omega,?_⟩
 rw [Int.toNat_natCast]
 refine fg (fun i σ H'=>∃ (kv mv nv:Option V) (ms:List Int),σ=[some (.ref a),some (.ref A),some (.int s),some (.int y),some (.int kp),some (.ref L),kv,mv,nv]∧Same H H'∧H' L=some (.lst (ms.map V.int))∧ms.length=i∧∀ m∈ms,0≤m∧m < 64)
  ⟨none,none,none,[],rfl,(Same.refl H).laid hL,by rw [ah]; rfl,rfl,fun m hm=>by cases hm⟩ ?_ ?_
 · rintro i σ H1 hi ⟨kv,mv,nv,ms,rfl,s1,eL,hl,hm⟩
   rw [Int.zero_add]
   have hmi:=hmm _ (List.getElem_mem hi)
   have eg:masks.getD (i:Int).toNat 0=masks[i]:=by rw [Int.toNat_natCast,List.getD,List.getElem?_eq_getElem hi]; rfl
   walk_at "w"
   refine ixI (s1 _ _ hA) (by omega) (by omega) ?_
   rw [eg]
   generalize masks[i]=mk at*
   walk_at "w"
   refine ⟨a,ns,_,rfl,s1.seq hS,hn,by omega,by omega,?_⟩
   walk_at "w"
   refine ⟨⟨by decide,by decide⟩,?_⟩
   generalize lawCA ns (160+(i:Int)) / 50=n at*
   rw [aL]
   walk_at "w"
   refine ⟨by decide,?_⟩
   cases decide ((0:Int) < y % 3) with
   | false=>
    refine iteF ?_
    walk_at "w"
    exact oq s0 s6 ek hmi.1 hmi.2 eL (by omega) fun z z0 z1=>⟨_,_,_,ms++[z],rfl,s1.own hL,by rw [ah]; simp,by simp [hl],fun m hm'=>by
     rcases List.mem_append.mp hm' with hm' | hm'
     · exact hm m hm'
     · rw [List.mem_singleton.mp hm']; exact ⟨z0,z1⟩⟩
   | true=>
    refine iteT ⟨by decide,?_⟩
    cases decide (n % 5 < 2) with
    | false=>
     walk_at "w"
     exact oq s0 s6 ek hmi.1 hmi.2 eL (by omega) fun z z0 z1=>⟨_,_,_,ms++[z],rfl,s1.own hL,by rw [ah]; simp,by simp [hl],fun m hm'=>by
      rcases List.mem_append.mp hm' with hm' | hm'
      · exact hm m hm'
      · rw [List.mem_singleton.mp hm']; exact ⟨z0,z1⟩⟩
    | true=>
     walk_at "w"
     exact oq s0 s6 ek kp0.1 kp0.2 eL (by omega) fun z z0 z1=>⟨_,_,_,ms++[z],rfl,s1.own hL,by rw [ah]; simp,by simp [hl],fun m hm'=>by
      rcases List.mem_append.mp hm' with hm' | hm'
      · exact hm m hm'
      · rw [List.mem_singleton.mp hm']; exact ⟨z0,z1⟩⟩
 · rintro σ H1 ⟨kv,mv,nv,ms,rfl,s1,eL,hl,hm⟩
   walk_at "w"
   exact q L H1 ms s1 eL hl hm
def bX (K:PySem.W.Frag):Sp:=fun vs H Q _=>∃ (a A:Addr) (ns masks:List Int),vs=[.ref a,.ref A]∧SqL K H a (ns.map V.int)∧ns.length≤63∧H A=some (.lst (masks.map V.int))∧masks.length≤16∧(∀ m∈masks,0≤m∧m < 64)∧
 ∀ (l:Addr) (H':Hp) (less:List Int),Same H H'→H' l=some (.lst (less.map V.int))→less.length=masks.length→Less30 masks less→Q (.ref l) H'
theorem or {K:PySem.W.Frag} {vs:List V} {H:Hp} {Q:VK} {E:XK} (h:bX K vs H Q E):vs.length=2:=by
 obtain ⟨_,_,_,_,rfl,_⟩:=h; rfl
def fE (K:PySem.W.Frag):TS:=
 (tSeq (tAsg (tLst tNil) (gName 2))
  (tSeq (tFor (eD (tCons (tCB kLen (tCons (tVar 1) tNil)) tNil)) (gName 3)
  (tSeq (tAsg (tCall (aA K) [] E0 (tCons (tVar 0) (tCons (tOp cAdd (tC (.int 180)) (tVar 3)) tNil))) (gName 4))
  (tSeq (tAsg (tOp cIx (tVar 1) (tVar 3)) (gName 5))
  (tSeq (tIfS (tTest (tOp (cEq K) (tOp cMod (tVar 4) (tC (.int 3))) (tC (.int 1)))) (tAsg (tOp cAnd (tVar 5) (tOp cDiv (tVar 4) (tC (.int 3)))) (gName 5)) tNext)
  (tDrop (tBM K "list" bi (tVar 2) (tCons (tVar 5) tNil)))))))
  (tRet (tVar 2))))
theorem ot {K:PySem.W.Frag} {vs:List V} {H:Hp} {Q:VK} {E:XK} (h:bX K vs H Q E):fE K { nx:=fun _ H'=>Q .non H',rt:=Q } (start ["_law_script","_law_masks_here","_law_found","_law_k","_law_number","_law_mask"] vs) H:=by
 obtain ⟨a,A,ns,masks,rfl,hS,hn,hA,hml,hmm,q⟩:=h
 show fE K _ [some (.ref a),some (.ref A),none,none,none,none] H
 unfold fE
 walk_at "w"
 refine ⟨aE (by decide),fun L hL=>?_⟩
 have eA2:(upd H L (.lst [])) A=some (.lst (masks.map V.int)):=by rw [ar (aG hA hL)]; exact hA
 rw [bv eA2,List.length_map]
 refine ⟨_,rfl,by omega,by omega,?_⟩
 rw [Int.toNat_natCast]
 refine fg (fun i σ H'=>∃ (kv nv mv:Option V) (less:List Int),σ=[some (.ref a),some (.ref A),some (.ref L),kv,nv,mv]∧Same H H'∧H' L=some (.lst (less.map V.int))∧less.length=i∧∀ k,k < i→Sub30 (less.getD k 0) (masks.getD k 0))
  ⟨none,none,none,[],rfl,(Same.refl H).laid hL,by rw [ah]; rfl,rfl,fun k hk=>absurd hk (by omega)⟩ ?_ ?_
 · rintro i σ H1 hi ⟨kv,nv,mv,less,rfl,s1,eL,hl,hm⟩
   have hi':i < masks.length:=hi
   have mi:0≤masks.getD i 0∧masks.getD i 0 < 64:=by
    rw [List.getD,List.getElem?_eq_getElem hi']; exact hmm _ (List.getElem_mem _)
   have hlen:(less.map V.int).length < sizeLine:=by rw [List.length_map]; exact aI (by omega)
   rw [Int.zero_add]
   walk_at "w"
   refine ⟨a,ns,_,rfl,s1.seq hS,hn,by omega,by omega,?_⟩
   have y0:=yE ns (180+(i:Int))
   generalize lawCA ns (180+(i:Int))=y at*
   walk_at "w"
   refine ixI (s1 _ _ hA) (by omega) (by omega) ?_
   rw [Int.toNat_natCast]
   walk_at "w"
   rw [aL]
   walk_at "w"
   refine ⟨by decide,?_⟩
   cases decide (y % 3=1) with
   | false=>
    refine iteF ?_
    walk_at "w"
    refine ⟨bq eL,?_⟩
    rw [dA eL]
    exact ⟨hlen,_,_,_,less++[masks.getD i 0],rfl,s1.own hL,by rw [ah]; simp,by simp [hl],vi hl hm (Sub30.self mi.1 mi.2)⟩
   | true=>
    refine iteT ?_
    walk_at "w"
    refine ⟨⟨by decide,by decide⟩,?_⟩
    walk_at "w"
    refine ⟨bq eL,?_⟩
    rw [dA eL]
    exact ⟨hlen,_,_,_,less++[Builtin.bitAnd (masks.getD i 0) (y / 3)],rfl,s1.own hL,by rw [ah]; simp,by simp [hl],vi hl hm (zH mi.1 mi.2 (by omega))⟩
 · rintro σ H1 ⟨kv,nv,mv,less,rfl,s1,eL,hl,hm⟩
   have hl':less.length=masks.length:=hl
   walk_at "w"
   refine q L H1 less s1 eL hl' fun k=>?_
   by_cases hk:k < masks.length
   · exact hm k hk
   · have e1:less.getD k 0=0:=by rw [List.getD,List.getElem?_eq_none (by omega)]; rfl
     have e2:masks.getD k 0=0:=by rw [List.getD,List.getElem?_eq_none (by omega)]; rfl
     rw [e1,e2]
     exact Sub30.self (by decide) (by decide)
def tS (K:PySem.W.Frag) (c:RCl RK) (d:RCl PzK):Sp:=fun vs H Q _=>∃ (a:Addr) (ns:List Int),vs=[.ref a]∧SqL K H a (ns.map V.int)∧ns.length≤63∧(∀ k,k≠.Rule→c.ok k=true)∧d.ok .Puzzle=true∧∀ H',Q (.bl true) H'
def qB (K:PySem.W.Frag):Sp:=fun vs H Q _=>∃ (a:Addr) (ns:List Int),vs=[.ref a]∧SqL K H a (ns.map V.int)∧ns.length≤63∧∀ H',Q (.bl true) H'
theorem Az {K:PySem.W.Frag} {c:RCl RK} {d:RCl PzK} {vs:List V} {H:Hp} {Q:VK} {E:XK} (h:tS K c d vs H Q E):vs.length=1:=by
 obtain ⟨_,_,rfl,_⟩:=h; rfl
def yS (K:PySem.W.Frag) (c:RCl RK) (d:RCl PzK):TS:=
 (tSeq (tAsg (tCall (cZ K c d) [] E0 (tCons (tVar 6) (tCons (tVar 7) (tCons (tVar 13) tNil)))) (gName 14))
  (tSeq (tAsg (tCall (cZ K c d) [] E0 (tCons (tVar 6) (tCons (tVar 8) (tCons (tVar 13) tNil)))) (gName 15))
  (tIfS (tOr (tNot (tB (tCB kIsi (tCons (tVar 14) (tCons (tC (.ty "bool")) tNil))))) (tOr (tNot (tB (tCB kIsi (tCons (tVar 15) (tCons (tC (.ty "bool")) tNil))))) (tAnd (tB (tVar 14)) (tNot (tB (tVar 15)))))) (tRet (tC (.bl false))) tNext)))
def mH (K:PySem.W.Frag) (c:RCl RK) (d:RCl PzK):TS:=
 (tSeq (tFor (eD (tCons (tC (.int 8)) tNil)) (gName 4)
  (tSeq (tAsg (tCall (aA K) [] E0 (tCons (tVar 0) (tCons (tOp cAdd (tC (.int 130)) (tVar 4)) tNil))) (gName 9))
  (tSeq (tAsg (tOp cMod (tVar 9) (tVar 2)) (gName 10))
  (tSeq (tAsg (tOp cAdd (tC (.int 1)) (tOp cMod (tOp cDiv (tVar 9) (tC (.int 16))) (tOp cIx (tVar 1) (tC (.int 2))))) (gName 11))
  (tSeq (tAsg (tCall (bI K) [] E0 (tCons (tOp cDiv (tVar 9) (tC (.int 96))) (tCons (tVar 3) (tCons (tVar 10) (tCons (tVar 11) (tCons (tOp cIx (tVar 1) (tC (.int 2))) tNil)))))) (gName 12))
  (tFor (iList K (tOp cAdd (tVar 12) (tCall (br K) [] E0 (tCons (tOp cDiv (tVar 9) (tC (.int 96))) (tCons (tVar 1) (tCons (tVar 7) (tCons (tVar 5) (tCons (tVar 10) (tCons (tVar 11) tNil))))))))) (gName 13)
  (yS K c d)))))))
  (tRet (tC (.bl true))))
def mI (K:PySem.W.Frag) (c:RCl RK) (d:RCl PzK):TS:=
 (tSeq (tAsg (tCall (cg K) [] E0 (tCons (tVar 0) (tCons (tCall (ce K) [] E0 (tCons (tVar 0) (tCons (tC (.int 90)) (tCons (tVar 2) (tCons (tOp cIx (tVar 1) (tC (.int 2))) tNil))))) (tCons (tOp cIx (tVar 5) (tOp cMod (tOp cDiv (tCall (aA K) [] E0 (tCons (tVar 0) (tCons (tC (.int 3)) tNil))) (tC (.int 16))) (tC (.int 3)))) tNil)))) (gName 7))
  (tSeq (tAsg (tCall (bX K) [] E0 (tCons (tVar 0) (tCons (tVar 7) tNil))) (gName 8))
  (mH K c d)))
def mJ (K:PySem.W.Frag) (c:RCl RK) (d:RCl PzK):TS:=
 (tSeq (sComp 5 [none,none,some 1,some 0] (eD (tCons (tC (.int 3)) tNil)) (gName 1) tTrue (tOp cAdd (tC (.int 1)) (tOp cMod (tCall (aA K) [] E0 (tCons (tVar 3) (tCons (tOp cAdd (tC (.int 52)) (tVar 1)) tNil))) (tOp cIx (tVar 2) (tC (.int 2))))))
  (tSeq (tAsg (tCall (bW K c d) [] E0 (tCons (tVar 0) (tCons (tVar 1) (tCons (tVar 3) (tCons (tVar 5) tNil))))) (gName 6))
  (mI K c d)))
def pW (K:PySem.W.Frag) (c:RCl RK) (d:RCl PzK):TS:=
 (tSeq (tAsg (tCall (cc K) [] E0 (tCons (tCall (aA K) [] E0 (tCons (tVar 0) (tCons (tC (.int 0)) tNil))) tNil)) (gName 1))
  (tSeq (tAsg (tOp cMul (tOp cIx (tVar 1) (tC (.int 0))) (tOp cIx (tVar 1) (tC (.int 1)))) (gName 2))
  (tSeq (tAsg (tCall (cf K) [] E0 (tCons (tVar 0) (tCons (tVar 1) tNil))) (gName 3))
  (mJ K c d))))
structure L30 (K:PySem.W.Frag) (H:Hp) (c:RCl RK) (d:RCl PzK) (a p Ls O P L G A B:Addr) (as:List Addr) (css:List (List Nat)) (ns gs cl masks less:List Int) (h w g:Int):Prop where
 S:SqL K H a (ns.map V.int)
 n:ns.length≤63
 fl:IsFl H p h w g
 F:FlOk h w g
 ll:IsLN H Ls as css
 n2:css.length=2
 lo:LsOk h w css
 oo:H O=some (.lst (gs.map V.int))
 g3:gs.length=3
 gg:∀ x∈gs,1≤x∧x≤g
 pz:IsPz H c d P L G h w g (d4 h w css gs) cl
 aa:H A=some (.lst (masks.map V.int))
 ml:masks.length=(h*w).toNat
 mm:∀ m∈masks,0≤m∧m < 64
 bb:H B=some (.lst (less.map V.int))
 bl:less.length=masks.length
 le:Less30 masks less
theorem L30.same {K:PySem.W.Frag} {H H':Hp} {c:RCl RK} {d:RCl PzK} {a p Ls O P L G A B:Addr} {as:List Addr} {css:List (List Nat)} {ns gs cl masks less:List Int} {h w g:Int} (X:L30 K H c d a p Ls O P L G A B as css ns gs cl masks less h w g) (e:Same H H'):L30 K H' c d a p Ls O P L G A B as css ns gs cl masks less h w g:=
 ⟨e.seq X.S,X.n,e _ _ X.fl,X.F,X.ll.same e,X.n2,X.lo,e _ _ X.oo,X.g3,X.gg,X.pz.same e,e _ _ X.aa,X.ml,X.mm,e _ _ X.bb,X.bl,X.le⟩
theorem Less30.lt {masks less:List Int} (x:Less30 masks less):∀ m∈less,0≤m∧m < 64:=fun m hm=>by
 obtain ⟨k,hk,rfl⟩:=List.mem_iff_getElem.mp hm
 have b:=x k
 have e:less.getD k 0=less[k]:=by rw [List.getD,List.getElem?_eq_getElem hk]; rfl
 rw [e] at b
 exact ⟨b.a0,b.a1⟩
theorem zI {K:PySem.W.Frag} {c:RCl RK} {d:RCl PzK} {D:Ends} {H:Hp} {a p Ls O P L G A B T M:Addr} {as:List Addr} {css:List (List Nat)} {ns gs cl masks less ms:List Int} {h w g r z s:Int} {t:TK} {v4 v9 v10 v11 v12 v14 v15:Option V} (X:L30 K H c d a p Ls O P L G A B as css ns gs cl masks less h w g) (Th:IsTh H T M t r z s ms) (ht:K30 t)
  (q:∀ (v14 v15:Option V) (H':Hp),Same H H'→D.nx [some (.ref a),some (.ref p),some (.int (h*w)),some (.ref Ls),v4,some (.ref O),some (.ref P),some (.ref A),some (.ref B),v9,v10,v11,v12,some (.ref T),v14,v15] H'):
  yS K c d D [some (.ref a),some (.ref p),some (.int (h*w)),some (.ref Ls),v4,some (.ref O),some (.ref P),some (.ref A),some (.ref B),v9,v10,v11,v12,some (.ref T),v14,v15] H:=by
 have le:iY h w g (d4 h w css gs) cl masks t r z s ms=true→iY h w g (d4 h w css gs) cl less t r z s ms=true:=Ax X.pz.R X.le ht
 unfold yS
 walk_at "w"
 refine ⟨P,L,G,A,T,M,h,w,g,_,cl,masks,t,r,z,s,ms,rfl,⟨X.pz,Th,X.aa,X.ml⟩,ht,X.mm,fun H1 s1=>?_⟩
 have X1:=X.same s1
 walk_at "w"
 refine ⟨P,L,G,B,T,M,h,w,g,_,cl,less,t,r,z,s,ms,rfl,⟨X1.pz,Th.same s1,X1.bb,by rw [X.bl,X.ml]⟩,ht,X.le.lt,fun H2 s2=>?_⟩
 walk_at "w"
 generalize iY h w g (d4 h w css gs) cl masks t r z s ms=b1 at*
 generalize iY h w g (d4 h w css gs) cl less t r z s ms=b2 at*
 rw [aL]
 cases b1 with
 | false=>
  walk_at "w"
  exact q _ _ _ (s1.trans s2)
 | true=>
  rw [le rfl]
  walk_at "w"
  exact q _ _ _ (s1.trans s2)
theorem x3 {K:PySem.W.Frag} {c:RCl RK} {d:RCl PzK} {H:Hp} {Q:VK} {a p Ls O P L G A B:Addr} {as:List Addr} {css:List (List Nat)} {ns gs cl masks less:List Int} {h w g:Int} (X:L30 K H c d a p Ls O P L G A B as css ns gs cl masks less h w g) (k:∀ H',Q (.bl true) H'):
  mH K c d { nx:=fun _ H'=>Q .non H',rt:=Q } [some (.ref a),some (.ref p),some (.int (h*w)),some (.ref Ls),none,some (.ref O),some (.ref P),some (.ref A),some (.ref B),none,none,none,none,none,none,none] H:=by
 obtain ⟨h0,h1,w0,w1,m16,g0,g6⟩:=id X.F
 have mpos:1≤h*w:=Int.le_trans (by omega) (Int.mul_le_mul h0 w0 (by omega) (by omega))
 unfold mH
 walk_at "w"
 refine ⟨8,rfl,by decide,by decide,?_⟩
 refine fg (fun i σ H'=>∃ v4 v9 v10 v11 v12 v13 v14 v15:Option V,σ=[some (.ref a),some (.ref p),some (.int (h*w)),some (.ref Ls),v4,some (.ref O),some (.ref P),some (.ref A),some (.ref B),v9,v10,v11,v12,v13,v14,v15]∧Same H H') ⟨_,_,_,_,_,_,_,_,rfl,Same.refl H⟩ ?_ ?_
 · rintro i σ H1 hi ⟨v4,v9,v10,v11,v12,v13,v14,v15,rfl,s1⟩
   have hi8:i < 8:=hi
   have X1:=X.same s1
   rw [Int.zero_add]
   walk_at "w"
   refine ⟨a,ns,_,rfl,X1.S,X.n,by omega,by omega,?_⟩
   generalize lawCA ns (130+(i:Int))=y at*
   walk_at "w"
   refine ⟨by omega,?_⟩
   have b0:=Int.emod_nonneg y (show h*w≠0 by omega)
   have b1:=Int.emod_lt_of_pos y (show 0 < h*w by omega)
   generalize y % (h*w)=z at*
   refine ⟨⟨by decide,by decide⟩,?_⟩
   refine ixT X1.fl (v:=V.int g) rfl ?_
   walk_at "w"
   refine ⟨by omega,?_⟩
   have d0:=Int.emod_nonneg (y / 16) (show g≠0 by omega)
   have d1:=Int.emod_lt_of_pos (y / 16) (show 0 < g by omega)
   obtain ⟨s,es⟩:∃ s,s=1+y / 16 % g:=⟨_,rfl⟩
   have s0:1≤s:=by omega
   have sg:s≤g:=by omega
   rw [← es]
   refine ⟨⟨by decide,by decide⟩,?_⟩
   refine ixT X1.fl (v:=V.int g) rfl ?_
   walk_at "w"
   refine ⟨Ls,as,css,h,w,g,_,z,s,rfl,X1.ll,X.n2,X.lo,s0,sg,g6,fun L1 ts1 H2 s2 Y1 l1=>?_⟩
   have X2:=X1.same s2
   walk_at "w"
   refine ⟨⟨by decide,by decide⟩,?_⟩
   refine ⟨p,A,O,css,masks,gs,h,w,g,_,z,s,rfl,⟨X2.fl,X2.F,X2.aa,X2.ml,X2.mm,X2.oo,X2.g3,X2.gg,b0,b1,s0,sg⟩,fun L2 ts2 H3 s3 Y2 l2=>?_⟩
   have Y1':=Y1.same s3
   walk_at "w"
   refine o0 Y1'.top Y2.top (by rw [List.length_map,List.length_map]; omega) fun W hW=>?_
   have s4:Same H3 (upd H3 W (.lst (ts1.map V.ref++ts2.map V.ref))):=(Same.refl H3).laid hW
   have eW:(upd H3 W (.lst (ts1.map V.ref++ts2.map V.ref))) W=some (.lst (ts1.map V.ref++ts2.map V.ref)):=ah
   generalize upd H3 W (.lst (ts1.map V.ref++ts2.map V.ref))=H4 at*
   have s14:=(s1.trans s2).trans (s3.trans s4)
   walk_at "w"
   refine ⟨⟨_,SqL.of eW⟩,?_⟩
   refine li (K:=K) (xs:=ts1.map V.ref++ts2.map V.ref) (fun i' σ H'=>∃ v13 v14 v15:Option V,σ=[some (.ref a),some (.ref p),some (.int (h*w)),some (.ref Ls),some (.int (i:Int)),some (.ref O),some (.ref P),some (.ref A),some (.ref B),some (.int y),some (.int z),some (.int s),some (.ref L1),v13,v14,v15]∧Same H4 H') ⟨_,_,_,rfl,Same.refl H4⟩ (fun i' σ H' _ ⟨_,_,_,_,e⟩=>e.seq (SqL.of eW)) ?_ ?_
   · rintro i' v σ H5 hv ⟨u13,u14,u15,rfl,s5⟩
     obtain ⟨T,M,t,r,z',s',ms,rfl,ht,Th⟩:∃ (T M:Addr) (t:TK) (r z' s':Int) (ms:List Int),v=V.ref T∧K30 t∧IsTh H5 T M t r z' s' ms:=by
      rcases List.mem_append.mp (List.mem_of_getElem? hv) with hm | hm
      · obtain ⟨T,hT,rfl⟩:=List.mem_map.mp hm
        obtain ⟨M,t,r,z',s',ms,_,p',th⟩:=Y1'.ok T hT
        exact ⟨T,M,t,r,z',s',ms,rfl,p'.2.2.2.kd,th.same (s4.trans s5)⟩
      · obtain ⟨T,hT,rfl⟩:=List.mem_map.mp hm
        obtain ⟨M,t,r,z',s',ms,_,p',th⟩:=Y2.ok T hT
        exact ⟨T,M,t,r,z',s',ms,rfl,p'.2.2.2.kd,th.same (s4.trans s5)⟩
     walk_at "w"
     exact zI (X.same (s14.trans s5)) Th ht fun u14 u15 H6 s6=>⟨_,_,_,rfl,s5.trans s6⟩
   · rintro σ H5 ⟨u13,u14,u15,rfl,s5⟩
     exact ⟨_,_,_,_,_,_,_,_,rfl,s14.trans s5⟩
 · rintro σ H1 ⟨v4,v9,v10,v11,v12,v13,v14,v15,rfl,s1⟩
   walk_at "w"
   exact k _
theorem x4 {K:PySem.W.Frag} {c:RCl RK} {d:RCl PzK} {H:Hp} {Q:VK} {a p Ls O P L G:Addr} {as:List Addr} {css:List (List Nat)} {ns gs cl:List Int} {h w g:Int} (hS:SqL K H a (ns.map V.int)) (hn:ns.length≤63) (hp:IsFl H p h w g) (F:FlOk h w g) (ll:IsLN H Ls as css) (n2:css.length=2) (lo:LsOk h w css) (oo:H O=some (.lst (gs.map V.int))) (g3:gs.length=3) (gg:∀ x∈gs,1≤x∧x≤g) (pz:IsPz H c d P L G h w g (d4 h w css gs) cl) (k:∀ H',Q (.bl true) H'):
  mI K c d { nx:=fun _ H'=>Q .non H',rt:=Q } [some (.ref a),some (.ref p),some (.int (h*w)),some (.ref Ls),none,some (.ref O),some (.ref P),none,none,none,none,none,none,none,none,none] H:=by
 obtain ⟨h0,h1,w0,w1,m16,g0,g6⟩:=id F
 have mpos:1≤h*w:=Int.le_trans (by omega) (Int.mul_le_mul h0 w0 (by omega) (by omega))
 unfold mI
 walk_at "w"
 refine ixT hp (v:=V.int g) rfl ?_
 walk_at "w"
 refine ⟨a,ns,90,h*w,g,rfl,hS,hn,by decide,by decide,by omega,m16,g0,g6,fun A0 H1 masks0 s1 hA0 eA0 ml0 mm0=>?_⟩
 walk_at "w"
 refine ⟨a,ns,3,rfl,s1.seq hS,hn,by decide,by decide,?_⟩
 walk_at "w"
 refine ⟨⟨by decide,by decide⟩,?_⟩
 refine ⟨by decide,?_⟩
 have j0:=Int.emod_nonneg (lawCA ns 3 / 16) (show (3:Int)≠0 by decide)
 have j1:=Int.emod_lt_of_pos (lawCA ns 3 / 16) (show (0:Int) < 3 by decide)
 generalize lawCA ns 3 / 16 % 3=j at*
 refine ixI (s1 _ _ oo) j0 (by omega) ?_
 walk_at "w"
 have hs:1≤gs.getD j.toNat 0∧gs.getD j.toNat 0≤g:=by
  rw [List.getD,List.getElem?_eq_getElem (by omega)]
  exact gg _ (List.getElem_mem _)
 refine ⟨a,A0,ns,masks0,_,rfl,s1.seq hS,hn,hs.1,by omega,eA0,by omega,fun m hm=>⟨(mm0 m hm).1,AW g0 g6 (mm0 m hm).2⟩,fun A H2 masks s2 eA ml mm=>?_⟩
 have s12:=s1.trans s2
 walk_at "w"
 refine ⟨a,A,ns,masks,rfl,s12.seq hS,hn,eA,by omega,mm,fun B H3 less s3 eB bl le=>?_⟩
 have s13:=s12.trans s3
 walk_at "w"
 exact x3 ⟨s13.seq hS,hn,s13 _ _ hp,F,ll.same s13,n2,lo,s13 _ _ oo,g3,gg,pz.same s13,s3 _ _ eA,by omega,mm,eB,bl,le⟩ k
theorem x5 {K:PySem.W.Frag} {c:RCl RK} {d:RCl PzK} {H:Hp} {Q:VK} {a p Ls:Addr} {as:List Addr} {css:List (List Nat)} {ns:List Int} {h w g:Int} (hS:SqL K H a (ns.map V.int)) (hn:ns.length≤63) (hp:IsFl H p h w g) (F:FlOk h w g) (ll:IsLN H Ls as css) (n2:css.length=2) (lo:LsOk h w css) (hk:∀ k,k≠.Rule→c.ok k=true) (ok:d.ok .Puzzle=true) (k:∀ H',Q (.bl true) H'):
  mJ K c d { nx:=fun _ H'=>Q .non H',rt:=Q } [some (.ref a),some (.ref p),some (.int (h*w)),some (.ref Ls),none,none,none,none,none,none,none,none,none,none,none,none] H:=by
 obtain ⟨h0,h1,w0,w1,m16,g0,g6⟩:=id F
 unfold mJ
 walk_at "w"
 refine ⟨3,rfl,by decide,by decide,?_⟩
 refine jp (fun _=>true) (fun i=>1+lawCA ns (52+(i:Int)) % g) (by decide) ?_ ?_ ?_
 · intro i H2 R hi s2 k2
   exact k2 _ (Same.refl _)
 · intro i H2 Q2 hi _ s2 k2
   have hil:i < 3:=hi
   rw [Int.zero_add]
   show tOp cAdd _ _ [none,some (.int (i:Int)),some (.ref p),some (.ref a)] H2 Q2
   walk_at "w"
   refine ⟨a,ns,_,rfl,s2.seq hS,hn,by omega,by omega,?_⟩
   walk_at "w"
   refine ixT (s2 _ _ hp) (v:=V.int g) rfl ?_
   walk_at "w"
   refine ⟨by omega,?_⟩
   exact k2 _ (Same.refl _)
 · intro O H2 hO s2 eO
   rw [List.filter_eq_self.mpr fun _ _=>rfl] at eO
   have g3:((List.range 3).map fun (i:Nat)=>1+lawCA ns (52+(i:Int)) % g).length=3:=by rw [List.length_map,List.length_range]
   have gg:∀ x∈(List.range 3).map fun (i:Nat)=>1+lawCA ns (52+(i:Int)) % g,1≤x∧x≤g:=fun x hx=>by
    obtain ⟨i,hi,rfl⟩:=List.mem_map.mp hx
    have b0:=Int.emod_nonneg (lawCA ns (52+(i:Int))) (show g≠0 by omega)
    have b1:=Int.emod_lt_of_pos (lawCA ns (52+(i:Int))) (show 0 < g by omega)
    omega
   have eO':H2 O=some (.lst (((List.range 3).map fun (i:Nat)=>1+lawCA ns (52+(i:Int)) % g).map V.int)):=eO
   clear eO
   generalize ((List.range 3).map fun (i:Nat)=>1+lawCA ns (52+(i:Int)) % g)=gs at*
   walk_at "w"
   refine ⟨a,p,Ls,O,as,css,ns,gs,h,w,g,rfl,s2.seq hS,hn,s2 _ _ hp,F,ll.same s2,n2,lo,eO',g3,gg,hk,ok,fun P L G cl H3 s3 pz=>?_⟩
   have s23:=s2.trans s3
   walk_at "w"
   exact x4 (s23.seq hS) hn (s23 _ _ hp) F (ll.same s23) n2 lo (s3 _ _ eO') g3 gg pz k
theorem AA {K:PySem.W.Frag} {c:RCl RK} {d:RCl PzK} {vs:List V} {H:Hp} {Q:VK} {E:XK} (h:tS K c d vs H Q E):pW K c d { nx:=fun _ H'=>Q .non H',rt:=Q } (start ["_law_script","_law_floor_here","_law_many","_law_lists_here","_law_k","_law_goals","_law_puzzle_here","_law_masks_here","_law_less","_law_number","_law_cell","_law_sign","_law_some","_law_thought","_law_one","_law_other"] vs) H:=by
 obtain ⟨a,ns,rfl,hS,hn,hk,ok,k⟩:=h
 show pW K c d _ [some (.ref a),none,none,none,none,none,none,none,none,none,none,none,none,none,none,none] H
 unfold pW
 walk_at "w"
 refine ⟨a,ns,0,rfl,hS,hn,by decide,by decide,?_⟩
 refine ⟨_,rfl,fun p H1 h w g s1 hp0 hp F=>?_⟩
 obtain ⟨h0,h1,w0,w1,m16,g0,g6⟩:=id F
 walk_at "w"
 refine ixT hp (v:=V.int h) rfl ?_
 walk_at "w"
 refine ixT hp (v:=V.int w) rfl ?_
 walk_at "w"
 refine ⟨ii h0 h1,?_⟩
 refine ⟨a,p,ns,h,w,g,rfl,s1.seq hS,hn,hp,F,fun Ls as css H2 s2 ll n2 lo=>?_⟩
 have s12:=s1.trans s2
 walk_at "w"
 exact x5 (s12.seq hS) hn (s2 _ _ hp) F ll n2 lo hk ok k
end L2
namespace L2
open PySem PySem.Spec PyProof.Rows
def top (i:Nat):Stmt:=PySem.Challenge.pw_cluemaker_k30_less_stands.main.body.getD i (.Pass ⟨0,0,0,0⟩)
def mtop (i j:Nat):Stmt:=match top i with
 | .ClassDef _ _ _ body _ _ _ _ _ _ _=>body.getD j (.Pass ⟨0,0,0,0⟩)
 | s=>s
abbrev fF:Stmt:=top 10
theorem sc_is_whole:ay ["value"] ["value"] (af fF):=⟨rfl,rfl,rfl,by decide+kernel,rfl,by decide+kernel,by decide+kernel⟩
set_option maxHeartbeats 4000000 in
theorem uJ {P:Program} {w:World} {K:PySem.W.Frag} {mg:Str→Option Value} {base:Heap} (B:Bt2 mg) {f:Addr} {fd:FuncData} (F:Fun K "is_whole" "is_whole" fF f fd):FnOk P w K mg base CX0 1 f fd ["value"] (aQ K):=by
 refine F.ok sc_is_whole (fun vs H Q E h=>uw h) (fun cdv A outer s H vs Q E hr h=>?_)
 have hu:=hr.units
 have nd:=sc_is_whole.nd
 refine ⟨js K,?_,ux h⟩
 exact (ag (ak (bK (aB dR rfl B.isinstance_ bT (ab (pv 0) (ab (gN (v:=.ty "int") rfl B.int_ xj rfl) ac))) (cO (zO (aB dR rfl B.isinstance_ bT (ab (pv 0) (ab (gN (v:=.ty "bool") rfl B.bool_ qp rfl) ac))))))))
theorem uK {P:Program} {w:World} {K:PySem.W.Frag} {mg:Str→Option Value} {base:Heap} (B:Bt2 mg) {f:Addr} {fd:FuncData} (F:Fun K "is_whole" "is_whole" fF f fd) (hm:mg "is_whole"=some (.ref f)):Cal P w K mg base 1 "is_whole" ["value"] (aQ K):=
 ⟨f,fd,uJ B F,hm,F.kp,F.binds (ps:=["value"]) fun _ _ _ _ _ _ us hl=>match us,hl with | [_],_=>rfl⟩
abbrev dE:Stmt:=top 13
theorem sc_many_cells:ay ["floor"] ["floor"] (af dE):=⟨rfl,rfl,rfl,by decide+kernel,rfl,by decide+kernel,by decide+kernel⟩
set_option maxHeartbeats 4000000 in
theorem rq {P:Program} {w:World} {K:PySem.W.Frag} {mg:Str→Option Value} {base:Heap} (B:Bt2 mg) {f:Addr} {fd:FuncData} (F:Fun K "many_cells" "many_cells" dE f fd):FnOk P w K mg base CX0 1 f fd ["floor"] (aK K):=by
 refine F.ok sc_many_cells (fun vs H Q E h=>re h) (fun cdv A outer s H vs Q E hr h=>?_)
 have hu:=hr.units
 have nd:=sc_many_cells.nd
 refine ⟨g8 K,?_,rf h⟩
 exact (ag (ak (ai cr (aj (aw hu) (pv 0) ad (fun _ _=>rfl)) (aj (aw hu) (pv 0) ad (fun _ _=>rfl)))))
theorem rz {P:Program} {w:World} {K:PySem.W.Frag} {mg:Str→Option Value} {base:Heap} (B:Bt2 mg) {f:Addr} {fd:FuncData} (F:Fun K "many_cells" "many_cells" dE f fd) (hm:mg "many_cells"=some (.ref f)):Cal P w K mg base 1 "many_cells" ["floor"] (aK K):=
 ⟨f,fd,rq B F,hm,F.kp,F.binds (ps:=["floor"]) fun _ _ _ _ _ _ us hl=>match us,hl with | [_],_=>rfl⟩
abbrev gD:Stmt:=top 14
theorem sc_spot_of:ay ["floor","cell","wide"] ["floor","cell"] (af gD):=⟨rfl,rfl,rfl,by decide+kernel,rfl,by decide+kernel,by decide+kernel⟩
set_option maxHeartbeats 4000000 in
theorem wj {P:Program} {w:World} {K:PySem.W.Frag} {mg:Str→Option Value} {base:Heap} (B:Bt2 mg) {f:Addr} {fd:FuncData} (F:Fun K "spot_of" "spot_of" gD f fd):FnOk P w K mg base CX0 1 f fd ["floor","cell"] (b9 K):=by
 refine F.ok sc_spot_of (fun vs H Q E h=>vG h) (fun cdv A outer s H vs Q E hr h=>?_)
 have hu:=hr.units
 have nd:=sc_spot_of.nd
 refine ⟨jX K,?_,vH h⟩
 exact (ae (az (i:=2) nd rfl (Or.inl rfl) (aj (aw hu) (pv 0) ad (fun _ _=>rfl)))
   (ag (ak (cB (ab (ai bo (pv 1) (pv 2)) (ab (ai aO (pv 1) (pv 2)) ac))))))
theorem wk {P:Program} {w:World} {K:PySem.W.Frag} {mg:Str→Option Value} {base:Heap} (B:Bt2 mg) {f:Addr} {fd:FuncData} (F:Fun K "spot_of" "spot_of" gD f fd) (hm:mg "spot_of"=some (.ref f)):Cal P w K mg base 1 "spot_of" ["floor","cell"] (b9 K):=
 ⟨f,fd,wj B F,hm,F.kp,F.binds (ps:=["floor","cell"]) fun _ _ _ _ _ _ us hl=>match us,hl with | [_,_],_=>rfl⟩
abbrev d7:Stmt:=top 17
theorem sc_square_at:ay ["floor","corner","below"] ["floor","corner"] (af d7):=⟨rfl,rfl,rfl,by decide+kernel,rfl,by decide+kernel,by decide+kernel⟩
set_option maxHeartbeats 4000000 in
theorem tT {P:Program} {w:World} {K:PySem.W.Frag} {mg:Str→Option Value} {base:Heap} (B:Bt2 mg) {f:Addr} {fd:FuncData} (F:Fun K "square_at" "square_at" d7 f fd):FnOk P w K mg base CX0 1 f fd ["floor","corner"] (cT K):=by
 refine F.ok sc_square_at (fun vs H Q E h=>sJ h) (fun cdv A outer s H vs Q E hr h=>?_)
 have hu:=hr.units
 have nd:=sc_square_at.nd
 refine ⟨iK K,?_,sK h⟩
 exact (ae (az (i:=2) nd rfl (Or.inl rfl) (ai aF (pv 1) (aj (aw hu) (pv 0) ad (fun _ _=>rfl))))
   (ag (ak (aS (ab (pv 1) (ab (ai aF (pv 1) ad) (ab (pv 2) (ab (ai aF (pv 2) ad) ac))))))))
theorem tU {P:Program} {w:World} {K:PySem.W.Frag} {mg:Str→Option Value} {base:Heap} (B:Bt2 mg) {f:Addr} {fd:FuncData} (F:Fun K "square_at" "square_at" d7 f fd) (hm:mg "square_at"=some (.ref f)):Cal P w K mg base 1 "square_at" ["floor","corner"] (cT K):=
 ⟨f,fd,tT B F,hm,F.kp,F.binds (ps:=["floor","corner"]) fun _ _ _ _ _ _ us hl=>match us,hl with | [_,_],_=>rfl⟩
abbrev ia:Stmt:=top 21
theorem sc_bit_of:ay ["sign","bit","step"] ["sign"] (af ia):=⟨rfl,rfl,rfl,by decide+kernel,rfl,by decide+kernel,by decide+kernel⟩
set_option maxHeartbeats 4000000 in
theorem x8 {P:Program} {w:World} {K:PySem.W.Frag} {mg:Str→Option Value} {base:Heap} (B:Bt2 mg) {f:Addr} {fd:FuncData} (F:Fun K "bit_of" "bit_of" ia f fd):FnOk P w K mg base CX0 1 f fd ["sign"] (fh K):=by
 refine F.ok sc_bit_of (fun vs H Q E h=>xI h) (fun cdv A outer s H vs Q E hr h=>?_)
 have hu:=hr.units
 have nd:=sc_bit_of.nd
 refine ⟨kJ K,?_,xJ h⟩
 exact (ae (az (i:=1) nd rfl (Or.inl rfl) ad)
   (ae (eP PassesOwn.never rfl (cw rfl B.range_ (ab (ai bD (pv 0) ad) ac)) (aJ (i:=2) nd rfl (Or.inl rfl))
   (ag (az (i:=1) nd rfl (Or.inl rfl) (ai cr (pv 1) ad))))
   (ag (ak (pv 1)))))
theorem x9 {P:Program} {w:World} {K:PySem.W.Frag} {mg:Str→Option Value} {base:Heap} (B:Bt2 mg) {f:Addr} {fd:FuncData} (F:Fun K "bit_of" "bit_of" ia f fd) (hm:mg "bit_of"=some (.ref f)):Cal P w K mg base 1 "bit_of" ["sign"] (fh K):=
 ⟨f,fd,x8 B F,hm,F.kp,F.binds (ps:=["sign"]) fun _ _ _ _ _ _ us hl=>match us,hl with | [_],_=>rfl⟩
abbrev ib:Stmt:=top 22
theorem sc_stands:ay ["mask","sign"] ["mask","sign"] (af ib):=⟨rfl,rfl,rfl,by decide+kernel,rfl,by decide+kernel,by decide+kernel⟩
set_option maxHeartbeats 4000000 in
theorem ya {P:Program} {w:World} {K:PySem.W.Frag} {mg:Str→Option Value} {base:Heap} (B:Bt2 mg) {f:Addr} {fd:FuncData} (F:Fun K "stands" "stands" ib f fd):FnOk P w K mg base CX0 1 f fd ["mask","sign"] (bm K):=by
 refine F.ok sc_stands (fun vs H Q E h=>xG h) (fun cdv A outer s H vs Q E hr h=>?_)
 have hu:=hr.units
 have nd:=sc_stands.nd
 refine ⟨kI K,?_,xH h⟩
 exact (ag (ak (bK (aM gw ad (pv 1) (ao _)) (bK (aM gw (pv 1) (wX PySem.F.plainAttrs_int PySem.F.slot_int_bit_length PySem.F.type_int_bit_length oU (pv 0)) (ao _)) (cO (aM (aN hu) (ai aO (ai zj (pv 0) (ai bD (pv 1) ad)) ad) ad (ao _)))))))
theorem yb {P:Program} {w:World} {K:PySem.W.Frag} {mg:Str→Option Value} {base:Heap} (B:Bt2 mg) {f:Addr} {fd:FuncData} (F:Fun K "stands" "stands" ib f fd) (hm:mg "stands"=some (.ref f)):Cal P w K mg base 1 "stands" ["mask","sign"] (bm K):=
 ⟨f,fd,ya B F,hm,F.kp,F.binds (ps:=["mask","sign"]) fun _ _ _ _ _ _ us hl=>match us,hl with | [_,_],_=>rfl⟩
abbrev fG:Stmt:=top 37
theorem sc_masks_at:ay ["masks","cells"] ["masks","cells"] (af fG):=⟨rfl,rfl,rfl,by decide+kernel,rfl,by decide+kernel,by decide+kernel⟩
set_option maxHeartbeats 4000000 in
theorem uL {P:Program} {w:World} {K:PySem.W.Frag} {mg:Str→Option Value} {base:Heap} (B:Bt2 mg) {f:Addr} {fd:FuncData} (F:Fun K "masks_at" "masks_at" fG f fd):FnOk P w K mg base CX0 1 f fd ["masks","cells"] (be K):=by
 refine F.ok sc_masks_at (fun vs H Q E h=>uE h) (fun cdv A outer s H vs Q E hr h=>?_)
 have hu:=hr.units
 have nd:=sc_masks_at.nd
 refine ⟨jw K,?_,uF h⟩
 exact (ag (ak (cC (ix:=[none,none,some 0]) [".0","cell","masks"] (bp rfl (by decide+kernel) rfl rfl rfl) rfl (bC (pv 1)) (fun cl s H fp=>(aJ (i:=1) (show ([".0","cell","masks"]:List Str).Nodup by decide+kernel) rfl (Or.inl rfl))) (fun cl s H fp=>eQ) (fun cl s H fp=>(aj (aw hu) (pv 2) (pv 1) (fun _ _=>rfl))))))
theorem uM {P:Program} {w:World} {K:PySem.W.Frag} {mg:Str→Option Value} {base:Heap} (B:Bt2 mg) {f:Addr} {fd:FuncData} (F:Fun K "masks_at" "masks_at" fG f fd) (hm:mg "masks_at"=some (.ref f)):Cal P w K mg base 1 "masks_at" ["masks","cells"] (be K):=
 ⟨f,fd,uL B F,hm,F.kp,F.binds (ps:=["masks","cells"]) fun _ _ _ _ _ _ us hl=>match us,hl with | [_,_],_=>rfl⟩
abbrev cE:Stmt:=top 42
theorem sc_clue_strikes:ay ["clues","cell","sign","more"] ["clues","cell","sign","more"] (af cE):=⟨rfl,rfl,rfl,by decide+kernel,rfl,by decide+kernel,by decide+kernel⟩
set_option maxHeartbeats 4000000 in
theorem pX {P:Program} {w:World} {K:PySem.W.Frag} {mg:Str→Option Value} {base:Heap} (B:Bt2 mg) {f:Addr} {fd:FuncData} (F:Fun K "clue_strikes" "clue_strikes" cE f fd):FnOk P w K mg base CX0 1 f fd ["clues","cell","sign","more"] (bP K):=by
 refine F.ok sc_clue_strikes (fun vs H Q E h=>pw h) (fun cdv A outer s H vs Q E hr h=>?_)
 have hu:=hr.units
 have nd:=sc_clue_strikes.nd
 refine ⟨gi K,?_,px h⟩
 exact (ag (ak (bK (aM (aN hu) (pv 3) (aS ac) (ao _)) (bK (aM (bh hu) (aj (aw hu) (pv 0) (pv 1) (fun _ _=>rfl)) ad (ao _)) (cO (aM (bh hu) (aj (aw hu) (pv 0) (pv 1) (fun _ _=>rfl)) (pv 2) (ao _)))))))
theorem pY {P:Program} {w:World} {K:PySem.W.Frag} {mg:Str→Option Value} {base:Heap} (B:Bt2 mg) {f:Addr} {fd:FuncData} (F:Fun K "clue_strikes" "clue_strikes" cE f fd) (hm:mg "clue_strikes"=some (.ref f)):Cal P w K mg base 1 "clue_strikes" ["clues","cell","sign","more"] (bP K):=
 ⟨f,fd,pX B F,hm,F.kp,F.binds (ps:=["clues","cell","sign","more"]) fun _ _ _ _ _ _ us hl=>match us,hl with | [_,_,_,_],_=>rfl⟩
abbrev bz:Stmt:=top 50
theorem sc_are_told_in_order:ay ["cells","more"] ["cells","more"] (af bz):=⟨rfl,rfl,rfl,by decide+kernel,rfl,by decide+kernel,by decide+kernel⟩
set_option maxHeartbeats 4000000 in
theorem lJ {P:Program} {w:World} {K:PySem.W.Frag} {mg:Str→Option Value} {base:Heap} (B:Bt2 mg) {f:Addr} {fd:FuncData} (F:Fun K "are_told_in_order" "are_told_in_order" bz f fd):FnOk P w K mg base CX0 1 f fd ["cells","more"] (bc K):=by
 refine F.ok sc_are_told_in_order (fun vs H Q E h=>lB h) (fun cdv A outer s H vs Q E hr h=>?_)
 have hu:=hr.units
 have nd:=sc_are_told_in_order.nd
 refine ⟨di K,?_,lC h⟩
 exact (ae (aD (PW.pt (cM (ap (bh hu) (aB aH rfl B.len_ aR (ab (pv 1) ac)) ad (ao _)) (cM (ap (gx hu) (aj (aw hu) (pv 1) ad (fun _ _=>rfl)) (pv 0) (by with_unfolding_all rfl)) (dy (ap (gx hu) (aj (aw hu) (pv 1) ad (fun _ _=>rfl)) (pv 0) (by with_unfolding_all rfl)))))) (ag (ak eu)) au)
   (ag (ak (aM cQ (cz PySem.F.plainAttrs_list PySem.F.slot_list_index PySem.F.type_list_index (qQ hu) (pv 0) (ab (aj (aw hu) (pv 1) ad (fun _ _=>rfl)) ac)) (cz PySem.F.plainAttrs_list PySem.F.slot_list_index PySem.F.type_list_index (qQ hu) (pv 0) (ab (aj (aw hu) (pv 1) ad (fun _ _=>rfl)) ac)) (ao _)))))
theorem lK {P:Program} {w:World} {K:PySem.W.Frag} {mg:Str→Option Value} {base:Heap} (B:Bt2 mg) {f:Addr} {fd:FuncData} (F:Fun K "are_told_in_order" "are_told_in_order" bz f fd) (hm:mg "are_told_in_order"=some (.ref f)):Cal P w K mg base 1 "are_told_in_order" ["cells","more"] (bc K):=
 ⟨f,fd,lJ B F,hm,F.kp,F.binds (ps:=["cells","more"]) fun _ _ _ _ _ _ us hl=>match us,hl with | [_,_],_=>rfl⟩
abbrev dc:Stmt:=mtop 75 0
theorem sc_Rule___init__:ay ["self","floor","words","cells","amount","mark"] ["self","floor","words","cells","amount","mark"] (af dc):=⟨rfl,rfl,rfl,by decide+kernel,rfl,by decide+kernel,by decide+kernel⟩
set_option maxHeartbeats 4000000 in
theorem ou {P:Program} {w:World} {K:PySem.W.Frag} {mg:Str→Option Value} {base:Heap} (B:Bt2 mg) {c:RCl RK} (FK_c_amount:FldK K c "amount") (FK_c_cells:FldK K c "cells") (FK_c_floor:FldK K c "floor") (FK_c_mark:FldK K c "mark") (FK_c_words:FldK K c "words") {f:Addr} {fd:FuncData} (F:Fun K "__init__" "Rule.__init__" dc f fd):FnOk P w K mg base CX0 1 f fd ["self","floor","words","cells","amount","mark"] (aq K c):=by
 refine F.ok sc_Rule___init__ (fun vs H Q E h=>nS h) (fun cdv A outer s H vs Q E hr h=>?_)
 have hu:=hr.units
 have nd:=sc_Rule___init__.nd
 refine ⟨fu K c,?_,nV h⟩
 exact (ae (il (pv 0) (pv 1) FK_c_floor)
   (ae (il (pv 0) (cP nD rfl B.tuple_ lp (ab (pv 2) ac)) FK_c_words)
   (ae (il (pv 0) (cP nD rfl B.tuple_ lp (ab (pv 3) ac)) FK_c_cells)
   (ae (il (pv 0) (pv 4) FK_c_amount)
   (ag (il (pv 0) (pv 5) FK_c_mark))))))
abbrev fQ:Stmt:=mtop 75 1
theorem sc_Rule_name:ay ["self"] ["self"] (af fQ):=⟨rfl,rfl,rfl,by decide+kernel,rfl,by decide+kernel,by decide+kernel⟩
set_option maxHeartbeats 4000000 in
theorem tV {P:Program} {w:World} {K:PySem.W.Frag} {mg:Str→Option Value} {base:Heap} (B:Bt2 mg) {c:RCl RK} (FK_c_words:FldK K c "words") {f:Addr} {fd:FuncData} (F:Fun K "name" "Rule.name" fQ f fd):FnOk P w K mg base CX0 1 f fd ["self"] (iL K c):=by
 refine F.ok sc_Rule_name (fun vs H Q E h=>sM h) (fun cdv A outer s H vs Q E hr h=>?_)
 have hu:=hr.units
 have nd:=sc_Rule_name.nd
 refine ⟨iM K c,?_,sN h⟩
 exact (ag (ak (aj (aw hu) (ik (pv 0) FK_c_words) ad (fun _ _=>rfl))))
abbrev ff:Stmt:=mtop 75 2
theorem sc_Rule_spots:ay ["self"] ["self"] (af ff):=⟨rfl,rfl,rfl,by decide+kernel,rfl,by decide+kernel,by decide+kernel⟩
set_option maxHeartbeats 4000000 in
theorem rA {P:Program} {w:World} {K:PySem.W.Frag} {mg:Str→Option Value} {base:Heap} (B:Bt2 mg) {c:RCl RK} (FK_c_cells:FldK K c "cells") {f:Addr} {fd:FuncData} (F:Fun K "spots" "Rule.spots" ff f fd):FnOk P w K mg base CX0 1 f fd ["self"] (g9 K c):=by
 refine F.ok sc_Rule_spots (fun vs H Q E h=>rg h) (fun cdv A outer s H vs Q E hr h=>?_)
 have hu:=hr.units
 have nd:=sc_Rule_spots.nd
 refine ⟨hE K c,?_,rh h⟩
 exact (ag (ak (cP jC rfl B.list_ i9 (ab (ik (pv 0) FK_c_cells) ac))))
abbrev fR:Stmt:=mtop 75 4
theorem sc_Rule_sign:ay ["self"] ["self"] (af fR):=⟨rfl,rfl,rfl,by decide+kernel,rfl,by decide+kernel,by decide+kernel⟩
set_option maxHeartbeats 4000000 in
theorem tW {P:Program} {w:World} {K:PySem.W.Frag} {mg:Str→Option Value} {base:Heap} (B:Bt2 mg) {c:RCl RK} (FK_c_mark:FldK K c "mark") {f:Addr} {fd:FuncData} (F:Fun K "sign" "Rule.sign" fR f fd):FnOk P w K mg base CX0 1 f fd ["self"] (iN K c):=by
 refine F.ok sc_Rule_sign (fun vs H Q E h=>sO h) (fun cdv A outer s H vs Q E hr h=>?_)
 have hu:=hr.units
 have nd:=sc_Rule_sign.nd
 refine ⟨iO K c,?_,sP h⟩
 exact (ag (ak (ik (pv 0) FK_c_mark)))
abbrev d8:Stmt:=top 91
theorem sc_number_in:ay ["word"] ["word"] (af d8):=⟨rfl,rfl,rfl,by decide+kernel,rfl,by decide+kernel,by decide+kernel⟩
set_option maxHeartbeats 4000000 in
theorem tX {P:Program} {w:World} {K:PySem.W.Frag} {mg:Str→Option Value} {base:Heap} (B:Bt2 mg) {t_FIGURES:Tok} (Du:mg "FIGURES"=some (.str (tx [48,49,50,51,52,53,54,55,56,57]) t_FIGURES)) {t_MOST_FIGURES:Tok} (BF:mg "MOST_FIGURES"=some (.int 9 t_MOST_FIGURES)) {f:Addr} {fd:FuncData} (F:Fun K "number_in" "number_in" d8 f fd):FnOk P w K mg base CX0 1 f fd ["word"] (cU K):=by
 refine F.ok sc_number_in (fun vs H Q E h=>sQ h) (fun cdv A outer s H vs Q E hr h=>?_)
 have hu:=hr.units
 have nd:=sc_number_in.nd
 refine ⟨iP K,?_,sR h⟩
 exact (ae (aD (PW.pt (cM (ap (aN hu) (pv 0) aT (ao _)) (cM (ap eX (aB aH rfl B.len_ aR (ab (pv 0) ac)) (eJ rfl BF ⟨t_MOST_FIGURES,rfl⟩) (ao _)) (dy (PW.pt (fN (ap (aN hu) (aj (aw hu) (pv 0) ad (fun _ _=>rfl)) aT (ao _)) (eK (ap (bh hu) (pv 0) aT (ao _))))))))) (ag (ak rX)) au)
   (ae (aD (b4 (bg (aB (kC rfl) rfl B.all_ oV (ab (cC (ix:=[none,none]) [".0","figure"] (bp rfl (by decide+kernel) rfl rfl rfl) rfl (Ae (pv 0)) (fun cl s H fp=>(aJ (i:=1) (show ([".0","figure"]:List Str).Nodup by decide+kernel) rfl (Or.inl rfl))) (fun cl s H fp=>eQ) (fun cl s H fp=>(aM (ki hu) (pv 1) (eJ rfl Du ⟨t_FIGURES,rfl⟩) (by with_unfolding_all rfl)))) ac)))) (ag (ak rX)) au)
   (ag (ak (cP vJ rfl B.int_ xj (ab (pv 0) ac))))))
theorem tY {P:Program} {w:World} {K:PySem.W.Frag} {mg:Str→Option Value} {base:Heap} (B:Bt2 mg) {t_FIGURES:Tok} (Du:mg "FIGURES"=some (.str (tx [48,49,50,51,52,53,54,55,56,57]) t_FIGURES)) {t_MOST_FIGURES:Tok} (BF:mg "MOST_FIGURES"=some (.int 9 t_MOST_FIGURES)) {f:Addr} {fd:FuncData} (F:Fun K "number_in" "number_in" d8 f fd) (hm:mg "number_in"=some (.ref f)):Cal P w K mg base 1 "number_in" ["word"] (cU K):=
 ⟨f,fd,tX B Du BF F,hm,F.kp,F.binds (ps:=["word"]) fun _ _ _ _ _ _ us hl=>match us,hl with | [_],_=>rfl⟩
abbrev du:Stmt:=mtop 104 1
theorem sc_Puzzle_place:ay ["self"] ["self"] (af du):=⟨rfl,rfl,rfl,by decide+kernel,rfl,by decide+kernel,by decide+kernel⟩
set_option maxHeartbeats 4000000 in
theorem pZ {P:Program} {w:World} {K:PySem.W.Frag} {mg:Str→Option Value} {base:Heap} (B:Bt2 mg) {c:RCl RK} {d:RCl PzK} (FK_d_floor:FldK K d "floor") {f:Addr} {fd:FuncData} (F:Fun K "place" "Puzzle.place" du f fd):FnOk P w K mg base CX0 1 f fd ["self"] (ga K c d):=by
 refine F.ok sc_Puzzle_place (fun vs H Q E h=>pe h) (fun cdv A outer s H vs Q E hr h=>?_)
 have hu:=hr.units
 have nd:=sc_Puzzle_place.nd
 refine ⟨gb K c d,?_,pf h⟩
 exact (ag (ak (ik (pv 0) FK_d_floor)))
abbrev dv:Stmt:=mtop 104 3
theorem sc_Puzzle_clues:ay ["self"] ["self"] (af dv):=⟨rfl,rfl,rfl,by decide+kernel,rfl,by decide+kernel,by decide+kernel⟩
set_option maxHeartbeats 4000000 in
theorem p0 {P:Program} {w:World} {K:PySem.W.Frag} {mg:Str→Option Value} {base:Heap} (B:Bt2 mg) {c:RCl RK} {d:RCl PzK} (FK_d_given:FldK K d "given") {f:Addr} {fd:FuncData} (F:Fun K "clues" "Puzzle.clues" dv f fd):FnOk P w K mg base CX0 1 f fd ["self"] (gc K c d):=by
 refine F.ok sc_Puzzle_clues (fun vs H Q E h=>ph h) (fun cdv A outer s H vs Q E hr h=>?_)
 have hu:=hr.units
 have nd:=sc_Puzzle_clues.nd
 refine ⟨gd K c d,?_,pi h⟩
 exact (ag (ak (cP jC rfl B.list_ i9 (ab (ik (pv 0) FK_d_given) ac))))
abbrev dw:Stmt:=mtop 104 4
theorem sc_Puzzle_rules:ay ["self"] ["self"] (af dw):=⟨rfl,rfl,rfl,by decide+kernel,rfl,by decide+kernel,by decide+kernel⟩
set_option maxHeartbeats 4000000 in
theorem p5 {P:Program} {w:World} {K:PySem.W.Frag} {mg:Str→Option Value} {base:Heap} (B:Bt2 mg) {c:RCl RK} {d:RCl PzK} (FK_d_laws:FldK K d "laws") {f:Addr} {fd:FuncData} (F:Fun K "rules" "Puzzle.rules" dw f fd):FnOk P w K mg base CX0 1 f fd ["self"] (ge K c d):=by
 refine F.ok sc_Puzzle_rules (fun vs H Q E h=>pj h) (fun cdv A outer s H vs Q E hr h=>?_)
 have hu:=hr.units
 have nd:=sc_Puzzle_rules.nd
 refine ⟨gf K c d,?_,pk h⟩
 exact (ag (ak (cP jC rfl B.list_ i9 (ab (ik (pv 0) FK_d_laws) ac))))
abbrev cF:Stmt:=top 106
theorem sc__law_cell_at:ay ["_law_script","_law_k","_law_number"] ["_law_script","_law_k"] (af cF):=⟨rfl,rfl,rfl,by decide+kernel,rfl,by decide+kernel,by decide+kernel⟩
set_option maxHeartbeats 4000000 in
theorem p6 {P:Program} {w:World} {K:PySem.W.Frag} {mg:Str→Option Value} {base:Heap} (B:Bt2 mg) {f:Addr} {fd:FuncData} (F:Fun K "_law_cell_at" "_law_cell_at" cF f fd):FnOk P w K mg base CX0 1 f fd ["_law_script","_law_k"] (aA K):=by
 refine F.ok sc__law_cell_at (fun vs H Q E h=>pC h) (fun cdv A outer s H vs Q E hr h=>?_)
 have hu:=hr.units
 have nd:=sc__law_cell_at.nd
 refine ⟨gk K,?_,pD h⟩
 exact (ae (aD (ap (aN hu) (aB io rfl B.len_ aR (ab (pv 0) ac)) ad (ao _)) (ag (ak (ai aO (ai aF (ai cr (ai cr (pv 1) (pv 1)) ad) (ai cr ad (pv 1))) ad))) au)
   (ae (az (i:=2) nd rfl (Or.inl rfl) (ai aO (aj u1 (pv 0) (ai aO (pv 1) (aB io rfl B.len_ aR (ab (pv 0) ac))) (fun _ _=>rfl)) ad))
   (ae (aD (ap cQ (pv 1) (aB io rfl B.len_ aR (ab (pv 0) ac)) (ao _)) (ag (ak (pv 2))) au)
   (ag (ak (ai aO (ai aF (ai cr (pv 2) ad) (ai cr (ai cr (pv 1) (pv 1)) ad)) ad))))))
theorem p7 {P:Program} {w:World} {K:PySem.W.Frag} {mg:Str→Option Value} {base:Heap} (B:Bt2 mg) {f:Addr} {fd:FuncData} (F:Fun K "_law_cell_at" "_law_cell_at" cF f fd) (hm:mg "_law_cell_at"=some (.ref f)):Cal P w K mg base 1 "_law_cell_at" ["_law_script","_law_k"] (aA K):=
 ⟨f,fd,p6 B F,hm,F.kp,F.binds (ps:=["_law_script","_law_k"]) fun _ _ _ _ _ _ us hl=>match us,hl with | [_,_],_=>rfl⟩
abbrev dF:Stmt:=top 107
theorem sc__law_floor:ay ["_law_cell","_law_high","_law_wide"] ["_law_cell"] (af dF):=⟨rfl,rfl,rfl,by decide+kernel,rfl,by decide+kernel,by decide+kernel⟩
set_option maxHeartbeats 4000000 in
theorem rB {P:Program} {w:World} {K:PySem.W.Frag} {mg:Str→Option Value} {base:Heap} (B:Bt2 mg) {f:Addr} {fd:FuncData} (F:Fun K "_law_floor" "_law_floor" dF f fd):FnOk P w K mg base CX0 1 f fd ["_law_cell"] (cc K):=by
 refine F.ok sc__law_floor (fun vs H Q E h=>pE h) (fun cdv A outer s H vs Q E hr h=>?_)
 have hu:=hr.units
 have nd:=sc__law_floor.nd
 refine ⟨gm K,?_,pF h⟩
 exact (ae (az (i:=1) nd rfl (Or.inl rfl) (ai aF ad (ai aO (pv 0) ad)))
   (ae (az (i:=2) nd rfl (Or.inl rfl) (ai aF ad (ai aO (ai bo (pv 0) ad) (aB (xg rfl) rfl B.min_ Ac (ab ad (ab (ai bo ad (pv 1)) ac))))))
   (ag (ak (cB (ab (pv 1) (ab (pv 2) (ab (ai aF ad (ai aO (ai bo (pv 0) ad) ad)) ac))))))))
theorem rC {P:Program} {w:World} {K:PySem.W.Frag} {mg:Str→Option Value} {base:Heap} (B:Bt2 mg) {f:Addr} {fd:FuncData} (F:Fun K "_law_floor" "_law_floor" dF f fd) (hm:mg "_law_floor"=some (.ref f)):Cal P w K mg base 1 "_law_floor" ["_law_cell"] (cc K):=
 ⟨f,fd,rB B F,hm,F.kp,F.binds (ps:=["_law_cell"]) fun _ _ _ _ _ _ us hl=>match us,hl with | [_],_=>rfl⟩
abbrev d9:Stmt:=top 110
theorem sc__law_only:ay ["_law_mask","_law_sign"] ["_law_mask","_law_sign"] (af d9):=⟨rfl,rfl,rfl,by decide+kernel,rfl,by decide+kernel,by decide+kernel⟩
set_option maxHeartbeats 4000000 in
theorem tZ {P:Program} {w:World} {K:PySem.W.Frag} {mg:Str→Option Value} {base:Heap} (B:Bt2 mg) {f:Addr} {fd:FuncData} (F:Fun K "_law_only" "_law_only" d9 f fd):FnOk P w K mg base CX0 1 f fd ["_law_mask","_law_sign"] (cX K):=by
 refine F.ok sc__law_only (fun vs H Q E h=>sZ h) (fun cdv A outer s H vs Q E hr h=>?_)
 have hu:=hr.units
 have nd:=sc__law_only.nd
 refine ⟨iV K,?_,tm h⟩
 exact (ag (ak (aM (aN hu) (ai u5 (pv 0) (ai mU ad (ai bD (pv 1) ad))) (pv 0) (ao _))))
theorem t5 {P:Program} {w:World} {K:PySem.W.Frag} {mg:Str→Option Value} {base:Heap} (B:Bt2 mg) {f:Addr} {fd:FuncData} (F:Fun K "_law_only" "_law_only" d9 f fd) (hm:mg "_law_only"=some (.ref f)):Cal P w K mg base 1 "_law_only" ["_law_mask","_law_sign"] (cX K):=
 ⟨f,fd,tZ B F,hm,F.kp,F.binds (ps:=["_law_mask","_law_sign"]) fun _ _ _ _ _ _ us hl=>match us,hl with | [_,_],_=>rfl⟩
abbrev ci:Stmt:=top 113
theorem sc__law_by_lines:ay ["_law_number","_law_lists_here","_law_cell","_law_sign","_law_signs","_law_found","_law_rule","_law_one","_law_spots","_law_other","_law_place"] ["_law_number","_law_lists_here","_law_cell","_law_sign","_law_signs"] (af ci):=⟨rfl,rfl,rfl,by decide+kernel,rfl,by decide+kernel,by decide+kernel⟩
set_option maxHeartbeats 4000000 in
theorem ow {P:Program} {w:World} {K:PySem.W.Frag} {mg:Str→Option Value} {base:Heap} (B:Bt2 mg) {f:Addr} {fd:FuncData} (F:Fun K "_law_by_lines" "_law_by_lines" ci f fd):FnOk P w K mg base CX0 1 f fd ["_law_number","_law_lists_here","_law_cell","_law_sign","_law_signs"] (bI K):=by
 refine F.ok sc__law_by_lines (fun vs H Q E h=>mF h) (fun cdv A outer s H vs Q E hr h=>?_)
 have hu:=hr.units
 have nd:=sc__law_by_lines.nd
 refine ⟨d5 K,?_,mG h⟩
 exact (ae (az (i:=5) nd rfl (Or.inl rfl) (aS (ab (cB (ab aT (ab ad (ab (pv 2) (ab (pv 3) (ab (aS ac) ac)))))) ac)))
   (ae (eP PassesOwn.never rfl (cw rfl B.range_ (ab ad ac)) (aJ (i:=6) nd rfl (Or.inl rfl))
   (ag (aD (ap (ki hu) (pv 2) (aj (aw hu) (pv 1) (pv 6) (fun _ _=>rfl)) (by with_unfolding_all rfl)) (ae (i8 (k:=8) nd rfl (Or.inl rfl) rfl (ix:=[none,none,some 2]) [".0","_law_one","_law_cell"] (bp rfl (by decide+kernel) rfl rfl rfl) rfl (bC (aj (aw hu) (pv 1) (pv 6) (fun _ _=>rfl))) (fun cl s H fp=>(aJ (i:=1) (show ([".0","_law_one","_law_cell"]:List Str).Nodup by decide+kernel) rfl (Or.inl rfl))) (fun cl s H fp=>(eV (ap (bh hu) (pv 1) (pv 2) (ao _)))) (fun cl s H fp=>(pv 1)))
   (ae (aD (ap eX (aB aH rfl B.len_ aR (ab (pv 8) ac)) ad (ao _)) (ag (b5 (cz PySem.F.plainAttrs_list PySem.F.slot_list_append PySem.F.type_list_append a9 (pv 5) (ab (cB (ab aT (ab (pv 6) (ab (pv 2) (ab (pv 3) (ab (aS (ab (aj (aw hu) (pv 8) (ai aO (pv 0) (aB aH rfl B.len_ aR (ab (pv 8) ac))) (fun _ _=>rfl)) ac)) ac)))))) ac)))) au)
   (ae (aD (ap eX (aB aH rfl B.len_ aR (ab (pv 8) ac)) ad (ao _)) (ae (az (i:=7) nd rfl (Or.inl rfl) (ai aO (pv 0) (ai bD (aB aH rfl B.len_ aR (ab (pv 8) ac)) ad)))
   (ae (az (i:=9) nd rfl (Or.inl rfl) (ai aF (ai aF (pv 7) ad) (ai aO (ai bo (pv 0) ad) (ai bD (ai bD (aB aH rfl B.len_ aR (ab (pv 8) ac)) ad) (pv 7)))))
   (ag (b5 (cz PySem.F.plainAttrs_list PySem.F.slot_list_append PySem.F.type_list_append a9 (pv 5) (ab (cB (ab aT (ab (pv 6) (ab (pv 2) (ab (pv 3) (ab (aS (ab (aj (aw hu) (pv 8) (pv 7) (fun _ _=>rfl)) (ab (aj (aw hu) (pv 8) (pv 9) (fun _ _=>rfl)) ac))) ac)))))) ac)))))) au)
   (ae (az (i:=10) nd rfl (Or.inl rfl) (ai aF ad (ai aO (ai bo (pv 0) ad) (pv 4))))
   (ag (aD (PW.pt (fN (ap (aN hu) (ai aF (aB aH rfl B.len_ aR (ab (pv 8) ac)) ad) (pv 4) (ao _)) (eK (ap (bh hu) (pv 10) (pv 3) (ao _))))) (ag (b5 (cz PySem.F.plainAttrs_list PySem.F.slot_list_append PySem.F.type_list_append a9 (pv 5) (ab (cB (ab aT (ab (pv 6) (ab (pv 2) (ab (pv 3) (ab (aS (ab (pv 10) ac)) ac)))))) ac)))) au)))))) au)))
   (ag (ak (pv 5)))))
theorem ox {P:Program} {w:World} {K:PySem.W.Frag} {mg:Str→Option Value} {base:Heap} (B:Bt2 mg) {f:Addr} {fd:FuncData} (F:Fun K "_law_by_lines" "_law_by_lines" ci f fd) (hm:mg "_law_by_lines"=some (.ref f)):Cal P w K mg base 1 "_law_by_lines" ["_law_number","_law_lists_here","_law_cell","_law_sign","_law_signs"] (bI K):=
 ⟨f,fd,ow B F,hm,F.kp,F.binds (ps:=["_law_number","_law_lists_here","_law_cell","_law_sign","_law_signs"]) fun _ _ _ _ _ _ us hl=>match us,hl with | [_,_,_,_,_],_=>rfl⟩
abbrev ed:Stmt:=top 114
theorem sc__law_near:ay ["_law_floor_here","_law_cell","_law_row","_law_column","_law_found","_law_down","_law_right"] ["_law_floor_here","_law_cell"] (af ed):=⟨rfl,rfl,rfl,by decide+kernel,rfl,by decide+kernel,by decide+kernel⟩
set_option maxHeartbeats 4000000 in
theorem t6 {P:Program} {w:World} {K:PySem.W.Frag} {mg:Str→Option Value} {base:Heap} (B:Bt2 mg) (BX_divmod:mg "divmod"=none) {f:Addr} {fd:FuncData} (F:Fun K "_law_near" "_law_near" ed f fd):FnOk P w K mg base CX0 1 f fd ["_law_floor_here","_law_cell"] (da K):=by
 refine F.ok sc__law_near (fun vs H Q E h=>tO h) (fun cdv A outer s H vs Q E hr h=>?_)
 have hu:=hr.units
 have nd:=sc__law_near.nd
 refine ⟨i5 K,?_,tP h⟩
 exact (ae (oJ (aB mC rfl BX_divmod qW (ab (pv 1) (ab (aj (aw hu) (pv 0) ad (fun _ _=>rfl)) ac))) (rY rfl (i7 (aJ (i:=2) nd rfl (Or.inl rfl)) (i7 (aJ (i:=3) nd rfl (Or.inl rfl)) qk))))
   (ae (az (i:=4) nd rfl (Or.inl rfl) (aS ac))
   (ae (eP PassesOwn.never rfl (bC (aS (ab (cB (ab (ai bD (pv 2) ad) (ab (pv 3) ac))) (ab (cB (ab (pv 2) (ab (ai bD (pv 3) ad) ac))) (ab (cB (ab (pv 2) (ab (ai aF (pv 3) ad) ac))) (ab (cB (ab (ai aF (pv 2) ad) (ab (pv 3) ac))) ac)))))) (rY rfl (i7 (aJ (i:=5) nd rfl (Or.inl rfl)) (i7 (aJ (i:=6) nd rfl (Or.inl rfl)) qk)))
   (ag (aD (PW.pt (fN (r8 gw cQ ad (pv 5) (aj (aw hu) (pv 0) ad (fun _ _=>rfl))) (eK (r8 gw cQ ad (pv 6) (aj (aw hu) (pv 0) ad (fun _ _=>rfl)))))) (ag (b5 (cz PySem.F.plainAttrs_list PySem.F.slot_list_append PySem.F.type_list_append a9 (pv 4) (ab (ai aF (ai cr (pv 5) (aj (aw hu) (pv 0) ad (fun _ _=>rfl))) (pv 6)) ac)))) au)))
   (ag (ak (pv 4))))))
theorem t7 {P:Program} {w:World} {K:PySem.W.Frag} {mg:Str→Option Value} {base:Heap} (B:Bt2 mg) (BX_divmod:mg "divmod"=none) {f:Addr} {fd:FuncData} (F:Fun K "_law_near" "_law_near" ed f fd) (hm:mg "_law_near"=some (.ref f)):Cal P w K mg base 1 "_law_near" ["_law_floor_here","_law_cell"] (da K):=
 ⟨f,fd,t6 B BX_divmod F,hm,F.kp,F.binds (ps:=["_law_floor_here","_law_cell"]) fun _ _ _ _ _ _ us hl=>match us,hl with | [_,_],_=>rfl⟩
abbrev bY:Stmt:=top 11
theorem sc_is_from_one_to:ay ["value","most"] ["value","most"] (af bY):=⟨rfl,rfl,rfl,by decide+kernel,rfl,by decide+kernel,by decide+kernel⟩
set_option maxHeartbeats 4000000 in
theorem ni {P:Program} {w:World} {K:PySem.W.Frag} {mg:Str→Option Value} {base:Heap} (B:Bt2 mg) (Bd:Cal P w K mg base 1 "is_whole" ["value"] (aQ K)) {f:Addr} {fd:FuncData} (F:Fun K "is_from_one_to" "is_from_one_to" bY f fd):FnOk P w K mg base CX0 2 f fd ["value","most"] (aP K):=by
 refine F.ok sc_is_from_one_to (fun vs H Q E h=>m7 h) (fun cdv A outer s H vs Q E hr h=>?_)
 have hu:=hr.units
 have nd:=sc_is_from_one_to.nd
 refine ⟨eE K,?_,m8 h⟩
 exact (ag (ak (bK (am Bd hr (by decide) rfl (ab (pv 0) ac)) (bK (aM gw ad (pv 0) (ao _)) (cO (aM gw (pv 0) (pv 1) (ao _)))))))
theorem nj {P:Program} {w:World} {K:PySem.W.Frag} {mg:Str→Option Value} {base:Heap} (B:Bt2 mg) (Bd:Cal P w K mg base 1 "is_whole" ["value"] (aQ K)) {f:Addr} {fd:FuncData} (F:Fun K "is_from_one_to" "is_from_one_to" bY f fd) (hm:mg "is_from_one_to"=some (.ref f)):Cal P w K mg base 2 "is_from_one_to" ["value","most"] (aP K):=
 ⟨f,fd,ni B Bd F,hm,F.kp,F.binds (ps:=["value","most"]) fun _ _ _ _ _ _ us hl=>match us,hl with | [_,_],_=>rfl⟩
abbrev ic:Stmt:=top 15
theorem sc_beside:ay ["floor","cell","high","wide","spot","found"] ["floor","cell"] (af ic):=⟨rfl,rfl,rfl,by decide+kernel,rfl,by decide+kernel,by decide+kernel⟩
set_option maxHeartbeats 4000000 in
theorem yc {P:Program} {w:World} {K:PySem.W.Frag} {mg:Str→Option Value} {base:Heap} (B:Bt2 mg) (Bv:Cal P w K mg base 1 "spot_of" ["floor","cell"] (b9 K)) {f:Addr} {fd:FuncData} (F:Fun K "beside" "beside" ic f fd):FnOk P w K mg base CX0 2 f fd ["floor","cell"] (bF K):=by
 refine F.ok sc_beside (fun vs H Q E h=>xq h) (fun cdv A outer s H vs Q E hr h=>?_)
 have hu:=hr.units
 have nd:=sc_beside.nd
 refine ⟨kE K,?_,xt h⟩
 exact (ae (az (i:=2) nd rfl (Or.inl rfl) (aj (aw hu) (pv 0) ad (fun _ _=>rfl)))
   (ae (az (i:=3) nd rfl (Or.inl rfl) (aj (aw hu) (pv 0) ad (fun _ _=>rfl)))
   (ae (az (i:=4) nd rfl (Or.inl rfl) (am Bv hr (by decide) rfl (ab (pv 0) (ab (pv 1) ac))))
   (ae (az (i:=5) nd rfl (Or.inl rfl) (aS ac))
   (ae (aD (ap eX (aj (aw hu) (pv 4) ad (fun _ _=>rfl)) ad (ao _)) (ag (b5 (cz PySem.F.plainAttrs_list PySem.F.slot_list_append PySem.F.type_list_append a9 (pv 5) (ab (ai bD (pv 1) (pv 3)) ac)))) au)
   (ae (aD (ap eX (aj (aw hu) (pv 4) ad (fun _ _=>rfl)) ad (ao _)) (ag (b5 (cz PySem.F.plainAttrs_list PySem.F.slot_list_append PySem.F.type_list_append a9 (pv 5) (ab (ai bD (pv 1) ad) ac)))) au)
   (ae (aD (ap cQ (aj (aw hu) (pv 4) ad (fun _ _=>rfl)) (ai bD (pv 3) ad) (ao _)) (ag (b5 (cz PySem.F.plainAttrs_list PySem.F.slot_list_append PySem.F.type_list_append a9 (pv 5) (ab (ai aF (pv 1) ad) ac)))) au)
   (ae (aD (ap cQ (aj (aw hu) (pv 4) ad (fun _ _=>rfl)) (ai bD (pv 2) ad) (ao _)) (ag (b5 (cz PySem.F.plainAttrs_list PySem.F.slot_list_append PySem.F.type_list_append a9 (pv 5) (ab (ai aF (pv 1) (pv 3)) ac)))) au)
   (ag (ak (pv 5)))))))))))
theorem yd {P:Program} {w:World} {K:PySem.W.Frag} {mg:Str→Option Value} {base:Heap} (B:Bt2 mg) (Bv:Cal P w K mg base 1 "spot_of" ["floor","cell"] (b9 K)) {f:Addr} {fd:FuncData} (F:Fun K "beside" "beside" ic f fd) (hm:mg "beside"=some (.ref f)):Cal P w K mg base 2 "beside" ["floor","cell"] (bF K):=
 ⟨f,fd,yc B Bv F,hm,F.kp,F.binds (ps:=["floor","cell"]) fun _ _ _ _ _ _ us hl=>match us,hl with | [_,_],_=>rfl⟩
abbrev ee:Stmt:=top 16
theorem sc_is_corner:ay ["floor","cell","spot"] ["floor","cell"] (af ee):=⟨rfl,rfl,rfl,by decide+kernel,rfl,by decide+kernel,by decide+kernel⟩
set_option maxHeartbeats 4000000 in
theorem t8 {P:Program} {w:World} {K:PySem.W.Frag} {mg:Str→Option Value} {base:Heap} (B:Bt2 mg) (Bv:Cal P w K mg base 1 "spot_of" ["floor","cell"] (b9 K)) {f:Addr} {fd:FuncData} (F:Fun K "is_corner" "is_corner" ee f fd):FnOk P w K mg base CX0 2 f fd ["floor","cell"] (cS K):=by
 refine F.ok sc_is_corner (fun vs H Q E h=>sH h) (fun cdv A outer s H vs Q E hr h=>?_)
 have hu:=hr.units
 have nd:=sc_is_corner.nd
 refine ⟨iJ K,?_,sI h⟩
 exact (ae (az (i:=2) nd rfl (Or.inl rfl) (am Bv hr (by decide) rfl (ab (pv 0) (ab (pv 1) ac))))
   (ag (ak (bK (aM cQ (aj (aw hu) (pv 2) ad (fun _ _=>rfl)) (ai bD (aj (aw hu) (pv 0) ad (fun _ _=>rfl)) ad) (ao _)) (cO (aM cQ (aj (aw hu) (pv 2) ad (fun _ _=>rfl)) (ai bD (aj (aw hu) (pv 0) ad (fun _ _=>rfl)) ad) (ao _)))))))
theorem t9 {P:Program} {w:World} {K:PySem.W.Frag} {mg:Str→Option Value} {base:Heap} (B:Bt2 mg) (Bv:Cal P w K mg base 1 "spot_of" ["floor","cell"] (b9 K)) {f:Addr} {fd:FuncData} (F:Fun K "is_corner" "is_corner" ee f fd) (hm:mg "is_corner"=some (.ref f)):Cal P w K mg base 2 "is_corner" ["floor","cell"] (cS K):=
 ⟨f,fd,t8 B Bv F,hm,F.kp,F.binds (ps:=["floor","cell"]) fun _ _ _ _ _ _ us hl=>match us,hl with | [_,_],_=>rfl⟩
abbrev gE:Stmt:=top 23
theorem sc_without:ay ["mask","sign"] ["mask","sign"] (af gE):=⟨rfl,rfl,rfl,by decide+kernel,rfl,by decide+kernel,by decide+kernel⟩
set_option maxHeartbeats 4000000 in
theorem wl {P:Program} {w:World} {K:PySem.W.Frag} {mg:Str→Option Value} {base:Heap} (B:Bt2 mg) (D2:Cal P w K mg base 1 "bit_of" ["sign"] (fh K)) (Bh:Cal P w K mg base 1 "stands" ["mask","sign"] (bm K)) {f:Addr} {fd:FuncData} (F:Fun K "without" "without" gE f fd):FnOk P w K mg base CX0 2 f fd ["mask","sign"] (dZ K):=by
 refine F.ok sc_without (fun vs H Q E h=>vO h) (fun cdv A outer s H vs Q E hr h=>?_)
 have hu:=hr.units
 have nd:=sc_without.nd
 refine ⟨j3 K,?_,vP h⟩
 exact (ag (ak (yj (bg (am Bh hr (by decide) rfl (ab (pv 0) (ab (pv 1) ac)))) (ai bD (pv 0) (am D2 hr (by decide) rfl (ab (pv 1) ac))) (pv 0))))
theorem wm {P:Program} {w:World} {K:PySem.W.Frag} {mg:Str→Option Value} {base:Heap} (B:Bt2 mg) (D2:Cal P w K mg base 1 "bit_of" ["sign"] (fh K)) (Bh:Cal P w K mg base 1 "stands" ["mask","sign"] (bm K)) {f:Addr} {fd:FuncData} (F:Fun K "without" "without" gE f fd) (hm:mg "without"=some (.ref f)):Cal P w K mg base 2 "without" ["mask","sign"] (dZ K):=
 ⟨f,fd,wl B D2 Bh F,hm,F.kp,F.binds (ps:=["mask","sign"]) fun _ _ _ _ _ _ us hl=>match us,hl with | [_,_],_=>rfl⟩
abbrev fH:Stmt:=top 25
theorem sc_signs_in:ay ["mask"] ["mask"] (af fH):=⟨rfl,rfl,rfl,by decide+kernel,rfl,by decide+kernel,by decide+kernel⟩
set_option maxHeartbeats 4000000 in
theorem uN {P:Program} {w:World} {K:PySem.W.Frag} {mg:Str→Option Value} {base:Heap} (B:Bt2 mg) (Bh:Cal P w K mg base 1 "stands" ["mask","sign"] (bm K)) {f:Addr} {fd:FuncData} (F:Fun K "signs_in" "signs_in" fH f fd):FnOk P w K mg base CX0 2 f fd ["mask"] (dq K):=by
 refine F.ok sc_signs_in (fun vs H Q E h=>uC h) (fun cdv A outer s H vs Q E hr h=>?_)
 have hu:=hr.units
 have nd:=sc_signs_in.nd
 refine ⟨jv K,?_,uD h⟩
 exact (ag (ak (cC (ix:=[none,none,some 0]) [".0","sign","mask"] (bp rfl (by decide+kernel) rfl rfl rfl) rfl (wL rfl B.range_ (ab ad (ab (ai aF (wX PySem.F.plainAttrs_int PySem.F.slot_int_bit_length PySem.F.type_int_bit_length oU (pv 0)) ad) ac))) (fun cl s H fp=>(aJ (i:=1) (show ([".0","sign","mask"]:List Str).Nodup by decide+kernel) rfl (Or.inl rfl))) (fun cl s H fp=>(eV (bg (am Bh hr (by decide) rfl (ab (pv 2) (ab (pv 1) ac)))))) (fun cl s H fp=>(pv 1)))))
theorem uO {P:Program} {w:World} {K:PySem.W.Frag} {mg:Str→Option Value} {base:Heap} (B:Bt2 mg) (Bh:Cal P w K mg base 1 "stands" ["mask","sign"] (bm K)) {f:Addr} {fd:FuncData} (F:Fun K "signs_in" "signs_in" fH f fd) (hm:mg "signs_in"=some (.ref f)):Cal P w K mg base 2 "signs_in" ["mask"] (dq K):=
 ⟨f,fd,uN B Bh F,hm,F.kp,F.binds (ps:=["mask"]) fun _ _ _ _ _ _ us hl=>match us,hl with | [_],_=>rfl⟩
abbrev gF:Stmt:=top 31
theorem sc_is_cell:ay ["floor","value"] ["floor","value"] (af gF):=⟨rfl,rfl,rfl,by decide+kernel,rfl,by decide+kernel,by decide+kernel⟩
set_option maxHeartbeats 4000000 in
theorem wn {P:Program} {w:World} {K:PySem.W.Frag} {mg:Str→Option Value} {base:Heap} (B:Bt2 mg) (Bd:Cal P w K mg base 1 "is_whole" ["value"] (aQ K)) (Bc:Cal P w K mg base 1 "many_cells" ["floor"] (aK K)) {f:Addr} {fd:FuncData} (F:Fun K "is_cell" "is_cell" gF f fd):FnOk P w K mg base CX0 2 f fd ["floor","value"] (ca K):=by
 refine F.ok sc_is_cell (fun vs H Q E h=>vQ h) (fun cdv A outer s H vs Q E hr h=>?_)
 have hu:=hr.units
 have nd:=sc_is_cell.nd
 refine ⟨j4 K,?_,vR h⟩
 exact (ag (ak (bK (am Bd hr (by decide) rfl (ab (pv 1) ac)) (bK (aM gw ad (pv 1) (ao _)) (cO (aM cQ (pv 1) (am Bc hr (by decide) rfl (ab (pv 0) ac)) (ao _)))))))
theorem wp {P:Program} {w:World} {K:PySem.W.Frag} {mg:Str→Option Value} {base:Heap} (B:Bt2 mg) (Bd:Cal P w K mg base 1 "is_whole" ["value"] (aQ K)) (Bc:Cal P w K mg base 1 "many_cells" ["floor"] (aK K)) {f:Addr} {fd:FuncData} (F:Fun K "is_cell" "is_cell" gF f fd) (hm:mg "is_cell"=some (.ref f)):Cal P w K mg base 2 "is_cell" ["floor","value"] (ca K):=
 ⟨f,fd,wn B Bd Bc F,hm,F.kp,F.binds (ps:=["floor","value"]) fun _ _ _ _ _ _ us hl=>match us,hl with | [_,_],_=>rfl⟩
abbrev gG:Stmt:=top 33
theorem sc_goes_by:ay ["kind","rule"] ["kind","rule"] (af gG):=⟨rfl,rfl,rfl,by decide+kernel,rfl,by decide+kernel,by decide+kernel⟩
set_option maxHeartbeats 4000000 in
theorem wq {P:Program} {w:World} {K:PySem.W.Frag} {mg:Str→Option Value} {base:Heap} (B:Bt2 mg) {c:RCl RK} (E7:MCal P w K mg base c c.ok 1 "name" ["self"] (ld K c)) (BC:GDict w K mg "RULES_OF_KIND" gd_RULES_OF_KIND) {f:Addr} {fd:FuncData} (F:Fun K "goes_by" "goes_by" gG f fd):FnOk P w K mg base CX0 2 f fd ["kind","rule"] (d3 K c):=by
 refine F.ok sc_goes_by (fun vs H Q E h=>vU h) (fun cdv A outer s H vs Q E hr h=>?_)
 have hu:=hr.units
 have nd:=sc_goes_by.nd
 refine ⟨j6 K c,?_,vV h⟩
 exact (ag (ak (yT (aM (aN hu) (pv 0) aT (ao _)) (cO (aM Ap (bN E7 hr (by decide) (pv 1)) (Ao BC (pv 0) rfl (fun _ _=>rfl)) (by with_unfolding_all rfl))))))
theorem wr {P:Program} {w:World} {K:PySem.W.Frag} {mg:Str→Option Value} {base:Heap} (B:Bt2 mg) {c:RCl RK} (E7:MCal P w K mg base c c.ok 1 "name" ["self"] (ld K c)) (BC:GDict w K mg "RULES_OF_KIND" gd_RULES_OF_KIND) {f:Addr} {fd:FuncData} (F:Fun K "goes_by" "goes_by" gG f fd) (hm:mg "goes_by"=some (.ref f)):Cal P w K mg base 2 "goes_by" ["kind","rule"] (d3 K c):=
 ⟨f,fd,wq B E7 BC F,hm,F.kp,F.binds (ps:=["kind","rule"]) fun _ _ _ _ _ _ us hl=>match us,hl with | [_,_],_=>rfl⟩
abbrev ie:Stmt:=top 36
theorem sc_others:ay ["rule","cell"] ["rule","cell"] (af ie):=⟨rfl,rfl,rfl,by decide+kernel,rfl,by decide+kernel,by decide+kernel⟩
set_option maxHeartbeats 4000000 in
theorem ye {P:Program} {w:World} {K:PySem.W.Frag} {mg:Str→Option Value} {base:Heap} (B:Bt2 mg) {c:RCl RK} (Bq:MCal P w K mg base c c.ok 1 "spots" ["self"] (dB K c)) {f:Addr} {fd:FuncData} (F:Fun K "others" "others" ie f fd):FnOk P w K mg base CX0 2 f fd ["rule","cell"] (bn K c):=by
 refine F.ok sc_others (fun vs H Q E h=>xK h) (fun cdv A outer s H vs Q E hr h=>?_)
 have hu:=hr.units
 have nd:=sc_others.nd
 refine ⟨kK K c,?_,xL h⟩
 exact (ag (ak (cC (ix:=[none,none,some 1]) [".0","spot","cell"] (bp rfl (by decide+kernel) rfl rfl rfl) rfl (bC (bN Bq hr (by decide) (pv 0))) (fun cl s H fp=>(aJ (i:=1) (show ([".0","spot","cell"]:List Str).Nodup by decide+kernel) rfl (Or.inl rfl))) (fun cl s H fp=>(eV (ap (bh hu) (pv 1) (pv 2) (ao _)))) (fun cl s H fp=>(pv 1)))))
theorem yf {P:Program} {w:World} {K:PySem.W.Frag} {mg:Str→Option Value} {base:Heap} (B:Bt2 mg) {c:RCl RK} (Bq:MCal P w K mg base c c.ok 1 "spots" ["self"] (dB K c)) {f:Addr} {fd:FuncData} (F:Fun K "others" "others" ie f fd) (hm:mg "others"=some (.ref f)):Cal P w K mg base 2 "others" ["rule","cell"] (bn K c):=
 ⟨f,fd,ye B Bq F,hm,F.kp,F.binds (ps:=["rule","cell"]) fun _ _ _ _ _ _ us hl=>match us,hl with | [_,_],_=>rfl⟩
abbrev fI:Stmt:=top 39
theorem sc_many_may:ay ["some","sign"] ["some","sign"] (af fI):=⟨rfl,rfl,rfl,by decide+kernel,rfl,by decide+kernel,by decide+kernel⟩
set_option maxHeartbeats 4000000 in
theorem uP {P:Program} {w:World} {K:PySem.W.Frag} {mg:Str→Option Value} {base:Heap} (B:Bt2 mg) (Bh:Cal P w K mg base 1 "stands" ["mask","sign"] (bm K)) {f:Addr} {fd:FuncData} (F:Fun K "many_may" "many_may" fI f fd):FnOk P w K mg base CX0 2 f fd ["some","sign"] (bJ K):=by
 refine F.ok sc_many_may (fun vs H Q E h=>uG h) (fun cdv A outer s H vs Q E hr h=>?_)
 have hu:=hr.units
 have nd:=sc_many_may.nd
 refine ⟨jx K,?_,uH h⟩
 exact (ag (ak (aB aH rfl B.len_ aR (ab (cC (ix:=[none,none,some 1]) [".0","mask","sign"] (bp rfl (by decide+kernel) rfl rfl rfl) rfl (bC (pv 0)) (fun cl s H fp=>(aJ (i:=1) (show ([".0","mask","sign"]:List Str).Nodup by decide+kernel) rfl (Or.inl rfl))) (fun cl s H fp=>(eV (bg (am Bh hr (by decide) rfl (ab (pv 1) (ab (pv 2) ac)))))) (fun cl s H fp=>(pv 1))) ac))))
theorem uQ {P:Program} {w:World} {K:PySem.W.Frag} {mg:Str→Option Value} {base:Heap} (B:Bt2 mg) (Bh:Cal P w K mg base 1 "stands" ["mask","sign"] (bm K)) {f:Addr} {fd:FuncData} (F:Fun K "many_may" "many_may" fI f fd) (hm:mg "many_may"=some (.ref f)):Cal P w K mg base 2 "many_may" ["some","sign"] (bJ K):=
 ⟨f,fd,uP B Bh F,hm,F.kp,F.binds (ps:=["some","sign"]) fun _ _ _ _ _ _ us hl=>match us,hl with | [_,_],_=>rfl⟩
abbrev cj:Stmt:=top 92
theorem sc_number_within:ay ["word","least","most","number"] ["word","least","most"] (af cj):=⟨rfl,rfl,rfl,by decide+kernel,rfl,by decide+kernel,by decide+kernel⟩
set_option maxHeartbeats 4000000 in
theorem oy {P:Program} {w:World} {K:PySem.W.Frag} {mg:Str→Option Value} {base:Heap} (B:Bt2 mg) (CB:Cal P w K mg base 1 "number_in" ["word"] (cU K)) {f:Addr} {fd:FuncData} (F:Fun K "number_within" "number_within" cj f fd):FnOk P w K mg base CX0 2 f fd ["word","least","most"] (aZ K):=by
 refine F.ok sc_number_within (fun vs H Q E h=>nX h) (fun cdv A outer s H vs Q E hr h=>?_)
 have hu:=hr.units
 have nd:=sc_number_within.nd
 refine ⟨fv K,?_,nY h⟩
 exact (ae (az (i:=3) nd rfl (Or.inl rfl) (am CB hr (by decide) rfl (ab (pv 0) ac)))
   (ae (aD (PW.pt (cM (ap zX (pv 3) rX (ao _)) (cM (ap cQ (pv 3) (pv 1) (ao _)) (dy (ap eX (pv 3) (pv 2) (ao _)))))) (ag b8) au)
   (ag (ak (pv 3)))))
theorem oz {P:Program} {w:World} {K:PySem.W.Frag} {mg:Str→Option Value} {base:Heap} (B:Bt2 mg) (CB:Cal P w K mg base 1 "number_in" ["word"] (cU K)) {f:Addr} {fd:FuncData} (F:Fun K "number_within" "number_within" cj f fd) (hm:mg "number_within"=some (.ref f)):Cal P w K mg base 2 "number_within" ["word","least","most"] (aZ K):=
 ⟨f,fd,oy B CB F,hm,F.kp,F.binds (ps:=["word","least","most"]) fun _ _ _ _ _ _ us hl=>match us,hl with | [_,_,_],_=>rfl⟩
abbrev dG:Stmt:=top 102
theorem sc_is_filling:ay ["floor","filling","least"] ["floor","filling","least"] (af dG):=⟨rfl,rfl,rfl,by decide+kernel,rfl,by decide+kernel,by decide+kernel⟩
set_option maxHeartbeats 4000000 in
theorem rD {P:Program} {w:World} {K:PySem.W.Frag} {mg:Str→Option Value} {base:Heap} (B:Bt2 mg) (Bd:Cal P w K mg base 1 "is_whole" ["value"] (aQ K)) (Bc:Cal P w K mg base 1 "many_cells" ["floor"] (aK K)) {f:Addr} {fd:FuncData} (F:Fun K "is_filling" "is_filling" dG f fd):FnOk P w K mg base CX0 2 f fd ["floor","filling","least"] (cy K):=by
 refine F.ok sc_is_filling (fun vs H Q E h=>rn h) (fun cdv A outer s H vs Q E hr h=>?_)
 have hu:=hr.units
 have nd:=sc_is_filling.nd
 refine ⟨hX K,?_,rp h⟩
 exact (ae (aD (PW.pt (cM (b4 (bg (aB dR rfl B.isinstance_ bT (ab (pv 1) (ab (gN (v:=.ty "list") rfl B.list_ i9 rfl) ac))))) (dy (ap (bh hu) (aB aH rfl B.len_ aR (ab (pv 1) ac)) (am Bc hr (by decide) rfl (ab (pv 0) ac)) (ao _))))) (ag (ak eu)) au)
   (ag (ak (aB (kC rfl) rfl B.all_ oV (ab (cC (ix:=[none,none,some 0,some 2]) [".0","sign","floor","least"] (bp rfl (by decide+kernel) rfl rfl rfl) rfl (bC (pv 1)) (fun cl s H fp=>(aJ (i:=1) (show ([".0","sign","floor","least"]:List Str).Nodup by decide+kernel) rfl (Or.inl rfl))) (fun cl s H fp=>eQ) (fun cl s H fp=>(bK (am Bd hr (by decide) rfl (ab (pv 1) ac)) (bK (aM gw (pv 3) (pv 1) (ao _)) (cO (aM gw (pv 1) (aj (aw hu) (pv 2) ad (fun _ _=>rfl)) (ao _))))))) ac)))))
theorem rE {P:Program} {w:World} {K:PySem.W.Frag} {mg:Str→Option Value} {base:Heap} (B:Bt2 mg) (Bd:Cal P w K mg base 1 "is_whole" ["value"] (aQ K)) (Bc:Cal P w K mg base 1 "many_cells" ["floor"] (aK K)) {f:Addr} {fd:FuncData} (F:Fun K "is_filling" "is_filling" dG f fd) (hm:mg "is_filling"=some (.ref f)):Cal P w K mg base 2 "is_filling" ["floor","filling","least"] (cy K):=
 ⟨f,fd,rD B Bd Bc F,hm,F.kp,F.binds (ps:=["floor","filling","least"]) fun _ _ _ _ _ _ us hl=>match us,hl with | [_,_,_],_=>rfl⟩
abbrev dH:Stmt:=top 108
theorem sc__law_cells:ay ["_law_script","_law_at","_law_many","_law_size","_law_left","_law_found","_law_k"] ["_law_script","_law_at","_law_many","_law_size"] (af dH):=⟨rfl,rfl,rfl,by decide+kernel,rfl,by decide+kernel,by decide+kernel⟩
set_option maxHeartbeats 4000000 in
theorem rF {P:Program} {w:World} {K:PySem.W.Frag} {mg:Str→Option Value} {base:Heap} (B:Bt2 mg) (Ba:Cal P w K mg base 1 "_law_cell_at" ["_law_script","_law_k"] (aA K)) {f:Addr} {fd:FuncData} (F:Fun K "_law_cells" "_law_cells" dH f fd):FnOk P w K mg base CX0 2 f fd ["_law_script","_law_at","_law_many","_law_size"] (bB K):=by
 refine F.ok sc__law_cells (fun vs H Q E h=>pG h) (fun cdv A outer s H vs Q E hr h=>?_)
 have hu:=hr.units
 have nd:=sc__law_cells.nd
 refine ⟨gn K,?_,pH h⟩
 exact (ae (az (i:=4) nd rfl (Or.inl rfl) (nB rfl rfl rfl B.list_ B.range_ (ab (pv 2) ac)))
   (ae (az (i:=5) nd rfl (Or.inl rfl) (aS ac))
   (ae (eP PassesOwn.never rfl (cw rfl B.range_ (ab (pv 3) ac)) (aJ (i:=6) nd rfl (Or.inl rfl))
   (ag (b5 (cz PySem.F.plainAttrs_list PySem.F.slot_list_append PySem.F.type_list_append a9 (pv 5) (ab (cz PySem.F.plainAttrs_list PySem.F.slot_list_pop PySem.F.type_list_pop xA (pv 4) (ab (ai aO (am Ba hr (by decide) rfl (ab (pv 0) (ab (ai aF (pv 1) (pv 6)) ac))) (aB aH rfl B.len_ aR (ab (pv 4) ac))) ac)) ac)))))
   (ag (ak (pv 5))))))
theorem rG {P:Program} {w:World} {K:PySem.W.Frag} {mg:Str→Option Value} {base:Heap} (B:Bt2 mg) (Ba:Cal P w K mg base 1 "_law_cell_at" ["_law_script","_law_k"] (aA K)) {f:Addr} {fd:FuncData} (F:Fun K "_law_cells" "_law_cells" dH f fd) (hm:mg "_law_cells"=some (.ref f)):Cal P w K mg base 2 "_law_cells" ["_law_script","_law_at","_law_many","_law_size"] (bB K):=
 ⟨f,fd,rF B Ba F,hm,F.kp,F.binds (ps:=["_law_script","_law_at","_law_many","_law_size"]) fun _ _ _ _ _ _ us hl=>match us,hl with | [_,_,_,_],_=>rfl⟩
abbrev dI:Stmt:=top 109
theorem sc__law_masks:ay ["_law_script","_law_at","_law_many","_law_signs","_law_masks_here","_law_k","_law_one"] ["_law_script","_law_at","_law_many","_law_signs"] (af dI):=⟨rfl,rfl,rfl,by decide+kernel,rfl,by decide+kernel,by decide+kernel⟩
set_option maxHeartbeats 4000000 in
theorem rH {P:Program} {w:World} {K:PySem.W.Frag} {mg:Str→Option Value} {base:Heap} (B:Bt2 mg) (Ba:Cal P w K mg base 1 "_law_cell_at" ["_law_script","_law_k"] (aA K)) {f:Addr} {fd:FuncData} (F:Fun K "_law_masks" "_law_masks" dI f fd):FnOk P w K mg base CX0 2 f fd ["_law_script","_law_at","_law_many","_law_signs"] (ce K):=by
 refine F.ok sc__law_masks (fun vs H Q E h=>pI h) (fun cdv A outer s H vs Q E hr h=>?_)
 have hu:=hr.units
 have nd:=sc__law_masks.nd
 refine ⟨gp K,?_,pJ h⟩
 exact (ae (az (i:=4) nd rfl (Or.inl rfl) (aS ac))
   (ae (eP PassesOwn.never rfl (cw rfl B.range_ (ab (pv 2) ac)) (aJ (i:=5) nd rfl (Or.inl rfl))
   (ae (az (i:=6) nd rfl (Or.inl rfl) (am Ba hr (by decide) rfl (ab (pv 0) (ab (ai aF (pv 1) (pv 5)) ac))))
   (ae (b5 (cz PySem.F.plainAttrs_list PySem.F.slot_list_append PySem.F.type_list_append a9 (pv 4) (ab (ai aO (ai sy (ai bo (pv 6) ad) (ai cr (ai aO (ai bo (pv 6) ad) ad) (ai bo (pv 6) ad))) (ai mU ad (pv 3))) ac)))
   (ag (aD (ap eX (ai aO (pv 6) ad) ad (ao _)) (ag (oJ (ai mU ad (ai aO (ai bo (pv 6) ad) (pv 3))) (wI (pv 4) (pv 5) (yX hu)))) au)))))
   (ag (ak (pv 4)))))
theorem rJ {P:Program} {w:World} {K:PySem.W.Frag} {mg:Str→Option Value} {base:Heap} (B:Bt2 mg) (Ba:Cal P w K mg base 1 "_law_cell_at" ["_law_script","_law_k"] (aA K)) {f:Addr} {fd:FuncData} (F:Fun K "_law_masks" "_law_masks" dI f fd) (hm:mg "_law_masks"=some (.ref f)):Cal P w K mg base 2 "_law_masks" ["_law_script","_law_at","_law_many","_law_signs"] (ce K):=
 ⟨f,fd,rH B Ba F,hm,F.kp,F.binds (ps:=["_law_script","_law_at","_law_many","_law_signs"]) fun _ _ _ _ _ _ us hl=>match us,hl with | [_,_,_,_],_=>rfl⟩
abbrev bL:Stmt:=top 115
theorem sc__law_by_regions:ay ["_law_number","_law_floor_here","_law_masks_here","_law_goals","_law_cell","_law_sign","_law_many","_law_found","_law_rule","_law_goal","_law_one","_law_must","_law_other","_law_near_here","_law_corner","_law_row","_law_column"] ["_law_number","_law_floor_here","_law_masks_here","_law_goals","_law_cell","_law_sign"] (af bL):=⟨rfl,rfl,rfl,by decide+kernel,rfl,by decide+kernel,by decide+kernel⟩
set_option maxHeartbeats 4000000 in
theorem mK {P:Program} {w:World} {K:PySem.W.Frag} {mg:Str→Option Value} {base:Heap} (B:Bt2 mg) (CC:Cal P w K mg base 1 "_law_near" ["_law_floor_here","_law_cell"] (da K)) (CD:Cal P w K mg base 1 "_law_only" ["_law_mask","_law_sign"] (cX K)) (BX_divmod:mg "divmod"=none) {f:Addr} {fd:FuncData} (F:Fun K "_law_by_regions" "_law_by_regions" bL f fd):FnOk P w K mg base CX0 2 f fd ["_law_number","_law_floor_here","_law_masks_here","_law_goals","_law_cell","_law_sign"] (br K):=by
 refine F.ok sc__law_by_regions (fun vs H Q E h=>lH h) (fun cdv A outer s H vs Q E hr h=>?_)
 have hu:=hr.units
 have nd:=sc__law_by_regions.nd
 refine ⟨dl K,?_,lI h⟩
 exact (ae (az (i:=6) nd rfl (Or.inl rfl) (ai cr (aj (aw hu) (pv 1) ad (fun _ _=>rfl)) (aj (aw hu) (pv 1) ad (fun _ _=>rfl))))
   (ae (az (i:=7) nd rfl (Or.inl rfl) (aS (ab (cB (ab aT (ab ad (ab (pv 4) (ab (aj (aw hu) (pv 3) ad (fun _ _=>rfl)) (ab (aS ac) ac)))))) ac)))
   (ae (eP PassesOwn.never rfl (zP (cB (ab ad (ab ad ac)))) (aJ (i:=8) nd rfl (Or.inl rfl))
   (ae (az (i:=9) nd rfl (Or.inr rfl) (aj (aw hu) (pv 3) (ai bD (pv 8) ad) (fun _ _=>rfl)))
   (ae (i8 (k:=11) nd rfl (Or.inl rfl) rfl (ix:=[none,none,some 4,some 9,some 2,some 0]) [".0","_law_one","_law_cell","_law_goal","_law_masks_here","_law_number"] (bp rfl (by decide+kernel) rfl rfl rfl) rfl (cw rfl B.range_ (ab (pv 6) ac)) (fun cl s H fp=>(aJ (i:=1) (show ([".0","_law_one","_law_cell","_law_goal","_law_masks_here","_law_number"]:List Str).Nodup by decide+kernel) rfl (Or.inl rfl))) (fun cl s H fp=>(eV (PW.pt (fN (ap (bh hu) (pv 1) (pv 2) (ao _)) (eK (PW.pt (cM (bg (am CD hr (by decide) rfl (ab (aj (aw hu) (pv 4) (pv 1) (fun _ _=>rfl)) (ab (pv 3) ac)))) (dy (ap (aN hu) (ai aO (pv 5) ad) ad (ao _)))))))))) (fun cl s H fp=>(pv 1)))
   (ag (aD (ap eX (aB aH rfl B.len_ aR (ab (pv 11) ac)) ad (ao _)) (ae (az (i:=10) nd rfl (Or.inl rfl) (aj (aw hu) (pv 11) (ai aO (ai bo (pv 0) ad) (aB aH rfl B.len_ aR (ab (pv 11) ac))) (fun _ _=>rfl)))
   (ae (az (i:=12) nd rfl (Or.inl rfl) (aj (aw hu) (pv 11) (ai aO (ai bo (pv 0) ad) (aB aH rfl B.len_ aR (ab (pv 11) ac))) (fun _ _=>rfl)))
   (ae (b5 (cz PySem.F.plainAttrs_list PySem.F.slot_list_append PySem.F.type_list_append a9 (pv 7) (ab (cB (ab aT (ab (pv 8) (ab (pv 4) (ab (pv 9) (ab (aS (ab (pv 10) ac)) ac)))))) ac)))
   (ag (aD (PW.pt (fN (ap (bh hu) (pv 10) (pv 12) (ao _)) (eK (ap (bh hu) (pv 5) (pv 9) (ao _))))) (ag (b5 (cz PySem.F.plainAttrs_list PySem.F.slot_list_append PySem.F.type_list_append a9 (pv 7) (ab (cB (ab aT (ab (pv 8) (ab (pv 4) (ab (pv 5) (ab (aS (ab (pv 10) (ab (pv 12) ac))) ac)))))) ac)))) au))))) au)))))
   (ae (az (i:=13) nd rfl (Or.inl rfl) (am CC hr (by decide) rfl (ab (pv 1) (ab (pv 4) ac))))
   (ae (aD (ap (bh hu) (pv 13) (aS ac) (ao _)) (ae (az (i:=10) nd rfl (Or.inl rfl) (aj (aw hu) (pv 13) (ai aO (ai bo (pv 0) ad) (aB aH rfl B.len_ aR (ab (pv 13) ac))) (fun _ _=>rfl)))
   (ag (az (i:=7) nd rfl (Or.inl rfl) (ai aF (pv 7) (aS (ab (cB (ab aT (ab ad (ab (pv 4) (ab (aj (aw hu) (pv 3) ad (fun _ _=>rfl)) (ab (aS (ab (pv 10) ac)) ac)))))) (ab (cB (ab aT (ab ad (ab (pv 4) (ab (pv 5) (ab (aS (ab (pv 10) ac)) ac)))))) ac))))))) au)
   (ae (az (i:=14) nd rfl (Or.inl rfl) (ai bD (pv 4) (aj (aw hu) (aS (ab ad (ab ad (ab (aj (aw hu) (pv 1) ad (fun _ _=>rfl)) (ab (ai aF (aj (aw hu) (pv 1) ad (fun _ _=>rfl)) ad) ac))))) (ai aO (ai bo (pv 0) ad) ad) (fun _ _=>rfl))))
   (ae (oJ (aB mC rfl BX_divmod qW (ab (pv 14) (ab (aj (aw hu) (pv 1) ad (fun _ _=>rfl)) ac))) (rY rfl (i7 (aJ (i:=15) nd rfl (Or.inl rfl)) (i7 (aJ (i:=16) nd rfl (Or.inl rfl)) qk))))
   (ae (aD (PW.pt (fN (ap so (pv 14) ad (ao _)) (fN (ap cQ (ai aF (pv 15) ad) (aj (aw hu) (pv 1) ad (fun _ _=>rfl)) (ao _)) (eK (ap cQ (ai aF (pv 16) ad) (aj (aw hu) (pv 1) ad (fun _ _=>rfl)) (ao _)))))) (ag (aD (ap (ki hu) (pv 4) (aS (ab (pv 14) (ab (ai aF (pv 14) ad) (ab (ai aF (pv 14) (aj (aw hu) (pv 1) ad (fun _ _=>rfl))) (ab (ai aF (ai aF (pv 14) (aj (aw hu) (pv 1) ad (fun _ _=>rfl))) ad) ac))))) (by with_unfolding_all rfl)) (ag (b5 (cz PySem.F.plainAttrs_list PySem.F.slot_list_append PySem.F.type_list_append a9 (pv 7) (ab (cB (ab aT (ab ad (ab (pv 4) (ab (aj (aw hu) (pv 3) ad (fun _ _=>rfl)) (ab (aS (ab (pv 14) ac)) ac)))))) ac)))) au)) au)
   (ag (ak (pv 7)))))))))))
theorem mL {P:Program} {w:World} {K:PySem.W.Frag} {mg:Str→Option Value} {base:Heap} (B:Bt2 mg) (CC:Cal P w K mg base 1 "_law_near" ["_law_floor_here","_law_cell"] (da K)) (CD:Cal P w K mg base 1 "_law_only" ["_law_mask","_law_sign"] (cX K)) (BX_divmod:mg "divmod"=none) {f:Addr} {fd:FuncData} (F:Fun K "_law_by_regions" "_law_by_regions" bL f fd) (hm:mg "_law_by_regions"=some (.ref f)):Cal P w K mg base 2 "_law_by_regions" ["_law_number","_law_floor_here","_law_masks_here","_law_goals","_law_cell","_law_sign"] (br K):=
 ⟨f,fd,mK B CC CD BX_divmod F,hm,F.kp,F.binds (ps:=["_law_number","_law_floor_here","_law_masks_here","_law_goals","_law_cell","_law_sign"]) fun _ _ _ _ _ _ us hl=>match us,hl with | [_,_,_,_,_,_],_=>rfl⟩
abbrev dJ:Stmt:=top 116
theorem sc__law_split:ay ["_law_script","_law_masks_here","_law_sign","_law_cell","_law_kept_bit","_law_found","_law_k","_law_mask","_law_number"] ["_law_script","_law_masks_here","_law_sign"] (af dJ):=⟨rfl,rfl,rfl,by decide+kernel,rfl,by decide+kernel,by decide+kernel⟩
set_option maxHeartbeats 4000000 in
theorem rK {P:Program} {w:World} {K:PySem.W.Frag} {mg:Str→Option Value} {base:Heap} (B:Bt2 mg) (Ba:Cal P w K mg base 1 "_law_cell_at" ["_law_script","_law_k"] (aA K)) {f:Addr} {fd:FuncData} (F:Fun K "_law_split" "_law_split" dJ f fd):FnOk P w K mg base CX0 2 f fd ["_law_script","_law_masks_here","_law_sign"] (cg K):=by
 refine F.ok sc__law_split (fun vs H Q E h=>pU h) (fun cdv A outer s H vs Q E hr h=>?_)
 have hu:=hr.units
 have nd:=sc__law_split.nd
 refine ⟨gu K,?_,pV h⟩
 exact (ae (az (i:=3) nd rfl (Or.inl rfl) (ai bo (am Ba hr (by decide) rfl (ab (pv 0) (ab ad ac))) ad))
   (ae (az (i:=4) nd rfl (Or.inl rfl) (ai mU ad (ai bD (pv 2) ad)))
   (ae (az (i:=5) nd rfl (Or.inl rfl) (aS ac))
   (ae (eP PassesOwn.never rfl (cw rfl B.range_ (ab (aB aH rfl B.len_ aR (ab (pv 1) ac)) ac)) (aJ (i:=6) nd rfl (Or.inl rfl))
   (ae (az (i:=7) nd rfl (Or.inl rfl) (aj (aw hu) (pv 1) (pv 6) (fun _ _=>rfl)))
   (ae (az (i:=8) nd rfl (Or.inl rfl) (ai bo (am Ba hr (by decide) rfl (ab (pv 0) (ab (ai aF ad (pv 6)) ac))) ad))
   (ae (aD (PW.pt (fN (ap eX (ai aO (pv 3) ad) ad (ao _)) (eK (ap cQ (ai aO (pv 8) ad) ad (ao _))))) (ag (az (i:=7) nd rfl (Or.inl rfl) (pv 4))) au)
   (ae (aD (PW.pt (fN (ap eX (ai aO (pv 3) ad) ad (ao _)) (eK (ap (aN hu) (ai aO (pv 8) ad) ad (ao _))))) (ag (az (i:=7) nd rfl (Or.inl rfl) (ai bD (ai sy (pv 7) (pv 4)) (pv 4)))) au)
   (ag (b5 (cz PySem.F.plainAttrs_list PySem.F.slot_list_append PySem.F.type_list_append a9 (pv 5) (ab (pv 7) ac)))))))))
   (ag (ak (pv 5)))))))
theorem rL {P:Program} {w:World} {K:PySem.W.Frag} {mg:Str→Option Value} {base:Heap} (B:Bt2 mg) (Ba:Cal P w K mg base 1 "_law_cell_at" ["_law_script","_law_k"] (aA K)) {f:Addr} {fd:FuncData} (F:Fun K "_law_split" "_law_split" dJ f fd) (hm:mg "_law_split"=some (.ref f)):Cal P w K mg base 2 "_law_split" ["_law_script","_law_masks_here","_law_sign"] (cg K):=
 ⟨f,fd,rK B Ba F,hm,F.kp,F.binds (ps:=["_law_script","_law_masks_here","_law_sign"]) fun _ _ _ _ _ _ us hl=>match us,hl with | [_,_,_],_=>rfl⟩
abbrev df:Stmt:=top 117
theorem sc__law_within:ay ["_law_script","_law_masks_here","_law_found","_law_k","_law_number","_law_mask"] ["_law_script","_law_masks_here"] (af df):=⟨rfl,rfl,rfl,by decide+kernel,rfl,by decide+kernel,by decide+kernel⟩
set_option maxHeartbeats 4000000 in
theorem qC {P:Program} {w:World} {K:PySem.W.Frag} {mg:Str→Option Value} {base:Heap} (B:Bt2 mg) (Ba:Cal P w K mg base 1 "_law_cell_at" ["_law_script","_law_k"] (aA K)) {f:Addr} {fd:FuncData} (F:Fun K "_law_within" "_law_within" df f fd):FnOk P w K mg base CX0 2 f fd ["_law_script","_law_masks_here"] (bX K):=by
 refine F.ok sc__law_within (fun vs H Q E h=>or h) (fun cdv A outer s H vs Q E hr h=>?_)
 have hu:=hr.units
 have nd:=sc__law_within.nd
 refine ⟨fE K,?_,ot h⟩
 exact (ae (az (i:=2) nd rfl (Or.inl rfl) (aS ac))
   (ae (eP PassesOwn.never rfl (cw rfl B.range_ (ab (aB aH rfl B.len_ aR (ab (pv 1) ac)) ac)) (aJ (i:=3) nd rfl (Or.inl rfl))
   (ae (az (i:=4) nd rfl (Or.inl rfl) (am Ba hr (by decide) rfl (ab (pv 0) (ab (ai aF ad (pv 3)) ac))))
   (ae (az (i:=5) nd rfl (Or.inl rfl) (aj (aw hu) (pv 1) (pv 3) (fun _ _=>rfl)))
   (ae (aD (ap (aN hu) (ai aO (pv 4) ad) ad (ao _)) (ag (az (i:=5) nd rfl (Or.inl rfl) (ai u5 (pv 5) (ai bo (pv 4) ad)))) au)
   (ag (b5 (cz PySem.F.plainAttrs_list PySem.F.slot_list_append PySem.F.type_list_append a9 (pv 2) (ab (pv 5) ac))))))))
   (ag (ak (pv 2)))))
theorem qD {P:Program} {w:World} {K:PySem.W.Frag} {mg:Str→Option Value} {base:Heap} (B:Bt2 mg) (Ba:Cal P w K mg base 1 "_law_cell_at" ["_law_script","_law_k"] (aA K)) {f:Addr} {fd:FuncData} (F:Fun K "_law_within" "_law_within" df f fd) (hm:mg "_law_within"=some (.ref f)):Cal P w K mg base 2 "_law_within" ["_law_script","_law_masks_here"] (bX K):=
 ⟨f,fd,qC B Ba F,hm,F.kp,F.binds (ps:=["_law_script","_law_masks_here"]) fun _ _ _ _ _ _ us hl=>match us,hl with | [_,_],_=>rfl⟩
abbrev fJ:Stmt:=top 12
theorem sc_floor_of:ay ["high","wide","signs"] ["high","wide","signs"] (af fJ):=⟨rfl,rfl,rfl,by decide+kernel,rfl,by decide+kernel,by decide+kernel⟩
set_option maxHeartbeats 4000000 in
theorem uR {P:Program} {w:World} {K:PySem.W.Frag} {mg:Str→Option Value} {base:Heap} (B:Bt2 mg) (Bf:Cal P w K mg base 2 "is_from_one_to" ["value","most"] (aP K)) {t_MOST_CELLS:Tok} (Cc:mg "MOST_CELLS"=some (.int 16 t_MOST_CELLS)) {t_MOST_SIDE:Tok} (BQ:mg "MOST_SIDE"=some (.int 6 t_MOST_SIDE)) {t_MOST_SIGNS:Tok} (Cd:mg "MOST_SIGNS"=some (.int 6 t_MOST_SIGNS)) {f:Addr} {fd:FuncData} (F:Fun K "floor_of" "floor_of" fJ f fd):FnOk P w K mg base CX0 3 f fd ["high","wide","signs"] (dn K):=by
 refine F.ok sc_floor_of (fun vs H Q E h=>uy h) (fun cdv A outer s H vs Q E hr h=>?_)
 have hu:=hr.units
 have nd:=sc_floor_of.nd
 refine ⟨jt K,?_,uz h⟩
 exact (ae (aD (b4 (bg (am Bf hr (by decide) rfl (ab (pv 0) (ab (eJ rfl BQ ⟨t_MOST_SIDE,rfl⟩) ac))))) (ag b8) au)
   (ae (aD (b4 (bg (am Bf hr (by decide) rfl (ab (pv 1) (ab (eJ rfl BQ ⟨t_MOST_SIDE,rfl⟩) ac))))) (ag b8) au)
   (ae (aD (ap eX (ai cr (pv 0) (pv 1)) (eJ rfl Cc ⟨t_MOST_CELLS,rfl⟩) (ao _)) (ag b8) au)
   (ae (aD (b4 (bg (am Bf hr (by decide) rfl (ab (pv 2) (ab (eJ rfl Cd ⟨t_MOST_SIGNS,rfl⟩) ac))))) (ag b8) au)
   (ag (ak (cB (ab (pv 0) (ab (pv 1) (ab (pv 2) ac))))))))))
theorem uS {P:Program} {w:World} {K:PySem.W.Frag} {mg:Str→Option Value} {base:Heap} (B:Bt2 mg) (Bf:Cal P w K mg base 2 "is_from_one_to" ["value","most"] (aP K)) {t_MOST_CELLS:Tok} (Cc:mg "MOST_CELLS"=some (.int 16 t_MOST_CELLS)) {t_MOST_SIDE:Tok} (BQ:mg "MOST_SIDE"=some (.int 6 t_MOST_SIDE)) {t_MOST_SIGNS:Tok} (Cd:mg "MOST_SIGNS"=some (.int 6 t_MOST_SIGNS)) {f:Addr} {fd:FuncData} (F:Fun K "floor_of" "floor_of" fJ f fd) (hm:mg "floor_of"=some (.ref f)):Cal P w K mg base 3 "floor_of" ["high","wide","signs"] (dn K):=
 ⟨f,fd,uR B Bf Cc BQ Cd F,hm,F.kp,F.binds (ps:=["high","wide","signs"]) fun _ _ _ _ _ _ us hl=>match us,hl with | [_,_,_],_=>rfl⟩
abbrev gH:Stmt:=top 18
theorem sc_squares:ay ["floor"] ["floor"] (af gH):=⟨rfl,rfl,rfl,by decide+kernel,rfl,by decide+kernel,by decide+kernel⟩
set_option maxHeartbeats 4000000 in
theorem wt {P:Program} {w:World} {K:PySem.W.Frag} {mg:Str→Option Value} {base:Heap} (B:Bt2 mg) (CF:Cal P w K mg base 2 "is_corner" ["floor","cell"] (cS K)) (Bc:Cal P w K mg base 1 "many_cells" ["floor"] (aK K)) (CG:Cal P w K mg base 1 "square_at" ["floor","corner"] (cT K)) {f:Addr} {fd:FuncData} (F:Fun K "squares" "squares" gH f fd):FnOk P w K mg base CX0 3 f fd ["floor"] (dU K):=by
 refine F.ok sc_squares (fun vs H Q E h=>vK h) (fun cdv A outer s H vs Q E hr h=>?_)
 have hu:=hr.units
 have nd:=sc_squares.nd
 refine ⟨jZ K,?_,vL h⟩
 exact (ag (ak (cC (ix:=[none,none,some 0]) [".0","cell","floor"] (bp rfl (by decide+kernel) rfl rfl rfl) rfl (cw rfl B.range_ (ab (am Bc hr (by decide) rfl (ab (pv 0) ac)) ac)) (fun cl s H fp=>(aJ (i:=1) (show ([".0","cell","floor"]:List Str).Nodup by decide+kernel) rfl (Or.inl rfl))) (fun cl s H fp=>(eV (bg (am CF hr (by decide) rfl (ab (pv 2) (ab (pv 1) ac)))))) (fun cl s H fp=>(am CG hr (by decide) rfl (ab (pv 2) (ab (pv 1) ac)))))))
theorem wu {P:Program} {w:World} {K:PySem.W.Frag} {mg:Str→Option Value} {base:Heap} (B:Bt2 mg) (CF:Cal P w K mg base 2 "is_corner" ["floor","cell"] (cS K)) (Bc:Cal P w K mg base 1 "many_cells" ["floor"] (aK K)) (CG:Cal P w K mg base 1 "square_at" ["floor","corner"] (cT K)) {f:Addr} {fd:FuncData} (F:Fun K "squares" "squares" gH f fd) (hm:mg "squares"=some (.ref f)):Cal P w K mg base 3 "squares" ["floor"] (dU K):=
 ⟨f,fd,wt B CF Bc CG F,hm,F.kp,F.binds (ps:=["floor"]) fun _ _ _ _ _ _ us hl=>match us,hl with | [_],_=>rfl⟩
abbrev gI:Stmt:=top 19
theorem sc_reached:ay ["floor","cells","start","found","place","cell"] ["floor","cells","start"] (af gI):=⟨rfl,rfl,rfl,by decide+kernel,rfl,by decide+kernel,by decide+kernel⟩
set_option maxHeartbeats 4000000 in
theorem wv {P:Program} {w:World} {K:PySem.W.Frag} {mg:Str→Option Value} {base:Heap} (B:Bt2 mg) (Bk:Cal P w K mg base 2 "beside" ["floor","cell"] (bF K)) {f:Addr} {fd:FuncData} (F:Fun K "reached" "reached" gI f fd):FnOk P w K mg base CX0 3 f fd ["floor","cells","start"] (dk K):=by
 refine F.ok sc_reached (fun vs H Q E h=>vX h) (fun cdv A outer s H vs Q E hr h=>?_)
 have hu:=hr.units
 have nd:=sc_reached.nd
 refine ⟨j7 K,?_,vY h⟩
 exact (ae (aD (ap (gx hu) (pv 2) (pv 1) (by with_unfolding_all rfl)) (ag (ak (aS ac))) au)
   (ae (az (i:=3) nd rfl (Or.inl rfl) (aS (ab (pv 2) ac)))
   (ae (az (i:=4) nd rfl (Or.inl rfl) ad)
   (ae (yk PassesOwn.never (ap cQ (pv 4) (aB aH rfl B.len_ aR (ab (pv 3) ac)) (ao _))
   (ae (eP PassesOwn.never rfl (bC (am Bk hr (by decide) rfl (ab (pv 0) (ab (aj (aw hu) (pv 3) (pv 4) (fun _ _=>rfl)) ac)))) (aJ (i:=5) nd rfl (Or.inl rfl))
   (ag (aD (PW.pt (fN (ap (ki hu) (pv 5) (pv 1) (by with_unfolding_all rfl)) (eK (ap (gx hu) (pv 5) (pv 3) (by with_unfolding_all rfl))))) (ag (b5 (cz PySem.F.plainAttrs_list PySem.F.slot_list_append PySem.F.type_list_append a9 (pv 3) (ab (pv 5) ac)))) au)))
   (ag (az (i:=4) nd rfl (Or.inl rfl) (ai aF (pv 4) ad)))))
   (ag (ak (aB sr rfl B.sorted_ xi (ab (pv 3) ac))))))))
theorem ww {P:Program} {w:World} {K:PySem.W.Frag} {mg:Str→Option Value} {base:Heap} (B:Bt2 mg) (Bk:Cal P w K mg base 2 "beside" ["floor","cell"] (bF K)) {f:Addr} {fd:FuncData} (F:Fun K "reached" "reached" gI f fd) (hm:mg "reached"=some (.ref f)):Cal P w K mg base 3 "reached" ["floor","cells","start"] (dk K):=
 ⟨f,fd,wv B Bk F,hm,F.kp,F.binds (ps:=["floor","cells","start"]) fun _ _ _ _ _ _ us hl=>match us,hl with | [_,_,_],_=>rfl⟩
abbrev fK:Stmt:=top 24
theorem sc_has_only:ay ["mask","sign"] ["mask","sign"] (af fK):=⟨rfl,rfl,rfl,by decide+kernel,rfl,by decide+kernel,by decide+kernel⟩
set_option maxHeartbeats 4000000 in
theorem uT {P:Program} {w:World} {K:PySem.W.Frag} {mg:Str→Option Value} {base:Heap} (B:Bt2 mg) (Dv:Cal P w K mg base 2 "without" ["mask","sign"] (dZ K)) {f:Addr} {fd:FuncData} (F:Fun K "has_only" "has_only" fK f fd):FnOk P w K mg base CX0 3 f fd ["mask","sign"] (aX K):=by
 refine F.ok sc_has_only (fun vs H Q E h=>uA h) (fun cdv A outer s H vs Q E hr h=>?_)
 have hu:=hr.units
 have nd:=sc_has_only.nd
 refine ⟨ju K,?_,uB h⟩
 exact (ag (ak (aM (aN hu) (am Dv hr (by decide) rfl (ab (pv 0) (ab (pv 1) ac))) ad (ao _))))
theorem uU {P:Program} {w:World} {K:PySem.W.Frag} {mg:Str→Option Value} {base:Heap} (B:Bt2 mg) (Dv:Cal P w K mg base 2 "without" ["mask","sign"] (dZ K)) {f:Addr} {fd:FuncData} (F:Fun K "has_only" "has_only" fK f fd) (hm:mg "has_only"=some (.ref f)):Cal P w K mg base 3 "has_only" ["mask","sign"] (aX K):=
 ⟨f,fd,uT B Dv F,hm,F.kp,F.binds (ps:=["mask","sign"]) fun _ _ _ _ _ _ us hl=>match us,hl with | [_,_],_=>rfl⟩
abbrev gJ:Stmt:=top 32
theorem sc_is_sign:ay ["floor","value"] ["floor","value"] (af gJ):=⟨rfl,rfl,rfl,by decide+kernel,rfl,by decide+kernel,by decide+kernel⟩
set_option maxHeartbeats 4000000 in
theorem wx {P:Program} {w:World} {K:PySem.W.Frag} {mg:Str→Option Value} {base:Heap} (B:Bt2 mg) (Bf:Cal P w K mg base 2 "is_from_one_to" ["value","most"] (aP K)) {f:Addr} {fd:FuncData} (F:Fun K "is_sign" "is_sign" gJ f fd):FnOk P w K mg base CX0 3 f fd ["floor","value"] (cb K):=by
 refine F.ok sc_is_sign (fun vs H Q E h=>vS h) (fun cdv A outer s H vs Q E hr h=>?_)
 have hu:=hr.units
 have nd:=sc_is_sign.nd
 refine ⟨j5 K,?_,vT h⟩
 exact (ag (ak (am Bf hr (by decide) rfl (ab (pv 1) (ab (aj (aw hu) (pv 0) ad (fun _ _=>rfl)) ac)))))
theorem wy {P:Program} {w:World} {K:PySem.W.Frag} {mg:Str→Option Value} {base:Heap} (B:Bt2 mg) (Bf:Cal P w K mg base 2 "is_from_one_to" ["value","most"] (aP K)) {f:Addr} {fd:FuncData} (F:Fun K "is_sign" "is_sign" gJ f fd) (hm:mg "is_sign"=some (.ref f)):Cal P w K mg base 3 "is_sign" ["floor","value"] (cb K):=
 ⟨f,fd,wx B Bf F,hm,F.kp,F.binds (ps:=["floor","value"]) fun _ _ _ _ _ _ us hl=>match us,hl with | [_,_],_=>rfl⟩
abbrev cG:Stmt:=top 34
theorem sc_has_its_rule:ay ["puzzle","kind","number","cell","rules"] ["puzzle","kind","number","cell"] (af cG):=⟨rfl,rfl,rfl,by decide+kernel,rfl,by decide+kernel,by decide+kernel⟩
set_option maxHeartbeats 4000000 in
theorem p8 {P:Program} {w:World} {K:PySem.W.Frag} {mg:Str→Option Value} {base:Heap} (B:Bt2 mg) {c:RCl RK} {d:RCl PzK} (Dw:Cal P w K mg base 2 "goes_by" ["kind","rule"] (d3 K c)) (Bd:Cal P w K mg base 1 "is_whole" ["value"] (aQ K)) (Br:MCal P w K mg base d d.ok 1 "rules" ["self"] (dD K c d)) (Bq:MCal P w K mg base c c.ok 1 "spots" ["self"] (dB K c)) {f:Addr} {fd:FuncData} (F:Fun K "has_its_rule" "has_its_rule" cG f fd):FnOk P w K mg base CX0 3 f fd ["puzzle","kind","number","cell"] (bO K c d):=by
 refine F.ok sc_has_its_rule (fun vs H Q E h=>pp h) (fun cdv A outer s H vs Q E hr h=>?_)
 have hu:=hr.units
 have nd:=sc_has_its_rule.nd
 refine ⟨gh K c d,?_,pq h⟩
 exact (ae (aD (PW.pt (cM (b4 (bg (am Bd hr (by decide) rfl (ab (pv 2) ac)))) (dy (ap cQ (pv 2) ad (ao _))))) (ag (ak eu)) au)
   (ae (aD (ap (aN hu) (pv 1) aT (ao _)) (ag (ak (aM (aN hu) (pv 2) ad (ao _)))) au)
   (ae (az (i:=4) nd rfl (Or.inl rfl) (bN Br hr (by decide) (pv 0)))
   (ae (aD (ap so (pv 2) (aB aH rfl B.len_ aR (ab (pv 4) ac)) (ao _)) (ag (ak eu)) au)
   (ag (ak (bK (am Dw hr (by decide) rfl (ab (pv 1) (ab (aj (aw hu) (pv 4) (pv 2) (fun _ _=>rfl)) ac))) (cO (aM (ki hu) (pv 3) (bN Bq hr (by decide) (aj (aw hu) (pv 4) (pv 2) (fun _ _=>rfl))) (by with_unfolding_all rfl))))))))))
theorem p9 {P:Program} {w:World} {K:PySem.W.Frag} {mg:Str→Option Value} {base:Heap} (B:Bt2 mg) {c:RCl RK} {d:RCl PzK} (Dw:Cal P w K mg base 2 "goes_by" ["kind","rule"] (d3 K c)) (Bd:Cal P w K mg base 1 "is_whole" ["value"] (aQ K)) (Br:MCal P w K mg base d d.ok 1 "rules" ["self"] (dD K c d)) (Bq:MCal P w K mg base c c.ok 1 "spots" ["self"] (dB K c)) {f:Addr} {fd:FuncData} (F:Fun K "has_its_rule" "has_its_rule" cG f fd) (hm:mg "has_its_rule"=some (.ref f)):Cal P w K mg base 3 "has_its_rule" ["puzzle","kind","number","cell"] (bO K c d):=
 ⟨f,fd,p8 B Dw Bd Br Bq F,hm,F.kp,F.binds (ps:=["puzzle","kind","number","cell"]) fun _ _ _ _ _ _ us hl=>match us,hl with | [_,_,_,_],_=>rfl⟩
abbrev cH:Stmt:=top 51
theorem sc_pair_strikes:ay ["rule","masks","cell","sign","more","together"] ["rule","masks","cell","sign","more"] (af cH):=⟨rfl,rfl,rfl,by decide+kernel,rfl,by decide+kernel,by decide+kernel⟩
set_option maxHeartbeats 4000000 in
theorem qb {P:Program} {w:World} {K:PySem.W.Frag} {mg:Str→Option Value} {base:Heap} (B:Bt2 mg) {c:RCl RK} (Bo:Cal P w K mg base 1 "are_told_in_order" ["cells","more"] (bc K)) (Bi:Cal P w K mg base 2 "others" ["rule","cell"] (bn K c)) (C0:Cal P w K mg base 2 "signs_in" ["mask"] (dq K)) {f:Addr} {fd:FuncData} (F:Fun K "pair_strikes" "pair_strikes" cH f fd):FnOk P w K mg base CX0 3 f fd ["rule","masks","cell","sign","more"] (bR K c):=by
 refine F.ok sc_pair_strikes (fun vs H Q E h=>pK h) (fun cdv A outer s H vs Q E hr h=>?_)
 have hu:=hr.units
 have nd:=sc_pair_strikes.nd
 refine ⟨gq K c,?_,pL h⟩
 exact (ae (aD (b4 (bg (am Bo hr (by decide) rfl (ab (am Bi hr (by decide) rfl (ab (pv 0) (ab (pv 2) ac))) (ab (pv 4) ac))))) (ag (ak eu)) au)
   (ae (az (i:=5) nd rfl (Or.inl rfl) (am C0 hr (by decide) rfl (ab (ai sy (aj (aw hu) (pv 1) (aj (aw hu) (pv 4) ad (fun _ _=>rfl)) (fun _ _=>rfl)) (aj (aw hu) (pv 1) (aj (aw hu) (pv 4) ad (fun _ _=>rfl)) (fun _ _=>rfl))) ac)))
   (ag (ak (aM gw (aB aH rfl B.len_ aR (ab (cC (ix:=[none,none,some 3]) [".0","other","sign"] (bp rfl (by decide+kernel) rfl rfl rfl) rfl (bC (pv 5)) (fun cl s H fp=>(aJ (i:=1) (show ([".0","other","sign"]:List Str).Nodup by decide+kernel) rfl (Or.inl rfl))) (fun cl s H fp=>(eV (ap (bh hu) (pv 1) (pv 2) (ao _)))) (fun cl s H fp=>(pv 1))) ac)) ad (ao _))))))
theorem qc {P:Program} {w:World} {K:PySem.W.Frag} {mg:Str→Option Value} {base:Heap} (B:Bt2 mg) {c:RCl RK} (Bo:Cal P w K mg base 1 "are_told_in_order" ["cells","more"] (bc K)) (Bi:Cal P w K mg base 2 "others" ["rule","cell"] (bn K c)) (C0:Cal P w K mg base 2 "signs_in" ["mask"] (dq K)) {f:Addr} {fd:FuncData} (F:Fun K "pair_strikes" "pair_strikes" cH f fd) (hm:mg "pair_strikes"=some (.ref f)):Cal P w K mg base 3 "pair_strikes" ["rule","masks","cell","sign","more"] (bR K c):=
 ⟨f,fd,qb B Bo Bi C0 F,hm,F.kp,F.binds (ps:=["rule","masks","cell","sign","more"]) fun _ _ _ _ _ _ us hl=>match us,hl with | [_,_,_,_,_],_=>rfl⟩
abbrev ig:Stmt:=top 67
theorem sc_around:ay ["floor","middle","cell"] ["floor","middle","cell"] (af ig):=⟨rfl,rfl,rfl,by decide+kernel,rfl,by decide+kernel,by decide+kernel⟩
set_option maxHeartbeats 4000000 in
theorem yg {P:Program} {w:World} {K:PySem.W.Frag} {mg:Str→Option Value} {base:Heap} (B:Bt2 mg) (Bk:Cal P w K mg base 2 "beside" ["floor","cell"] (bF K)) {f:Addr} {fd:FuncData} (F:Fun K "around" "around" ig f fd):FnOk P w K mg base CX0 3 f fd ["floor","middle","cell"] (fi K):=by
 refine F.ok sc_around (fun vs H Q E h=>xR h) (fun cdv A outer s H vs Q E hr h=>?_)
 have hu:=hr.units
 have nd:=sc_around.nd
 refine ⟨kL K,?_,xS h⟩
 exact (ag (ak (cC (ix:=[none,none,some 2]) [".0","other","cell"] (bp rfl (by decide+kernel) rfl rfl rfl) rfl (bC (am Bk hr (by decide) rfl (ab (pv 0) (ab (pv 1) ac)))) (fun cl s H fp=>(aJ (i:=1) (show ([".0","other","cell"]:List Str).Nodup by decide+kernel) rfl (Or.inl rfl))) (fun cl s H fp=>(eV (ap (bh hu) (pv 1) (pv 2) (ao _)))) (fun cl s H fp=>(pv 1)))))
theorem yh {P:Program} {w:World} {K:PySem.W.Frag} {mg:Str→Option Value} {base:Heap} (B:Bt2 mg) (Bk:Cal P w K mg base 2 "beside" ["floor","cell"] (bF K)) {f:Addr} {fd:FuncData} (F:Fun K "around" "around" ig f fd) (hm:mg "around"=some (.ref f)):Cal P w K mg base 3 "around" ["floor","middle","cell"] (fi K):=
 ⟨f,fd,yg B Bk F,hm,F.kp,F.binds (ps:=["floor","middle","cell"]) fun _ _ _ _ _ _ us hl=>match us,hl with | [_,_,_],_=>rfl⟩
abbrev cI:Stmt:=top 93
theorem sc_first_within:ay ["words","least","most"] ["words","least","most"] (af cI):=⟨rfl,rfl,rfl,by decide+kernel,rfl,by decide+kernel,by decide+kernel⟩
set_option maxHeartbeats 4000000 in
theorem qd {P:Program} {w:World} {K:PySem.W.Frag} {mg:Str→Option Value} {base:Heap} (B:Bt2 mg) (Bj:Cal P w K mg base 2 "number_within" ["word","least","most"] (aZ K)) {f:Addr} {fd:FuncData} (F:Fun K "first_within" "first_within" cI f fd):FnOk P w K mg base CX0 3 f fd ["words","least","most"] (bj K):=by
 refine F.ok sc_first_within (fun vs H Q E h=>o5 h) (fun cdv A outer s H vs Q E hr h=>?_)
 have hu:=hr.units
 have nd:=sc_first_within.nd
 refine ⟨fY K,?_,o6 h⟩
 exact (ae (aD (ap (aN hu) (pv 0) (aS ac) (ao _)) (ag b8) au)
   (ag (ak (am Bj hr (by decide) rfl (ab (aj (aw hu) (pv 0) ad (fun _ _=>rfl)) (ab (pv 1) (ab (pv 2) ac)))))))
theorem qe {P:Program} {w:World} {K:PySem.W.Frag} {mg:Str→Option Value} {base:Heap} (B:Bt2 mg) (Bj:Cal P w K mg base 2 "number_within" ["word","least","most"] (aZ K)) {f:Addr} {fd:FuncData} (F:Fun K "first_within" "first_within" cI f fd) (hm:mg "first_within"=some (.ref f)):Cal P w K mg base 3 "first_within" ["words","least","most"] (bj K):=
 ⟨f,fd,qd B Bj F,hm,F.kp,F.binds (ps:=["words","least","most"]) fun _ _ _ _ _ _ us hl=>match us,hl with | [_,_,_],_=>rfl⟩
abbrev dL:Stmt:=top 94
theorem sc_told_cells:ay ["floor","words","cells"] ["floor","words"] (af dL):=⟨rfl,rfl,rfl,by decide+kernel,rfl,by decide+kernel,by decide+kernel⟩
set_option maxHeartbeats 4000000 in
theorem rM {P:Program} {w:World} {K:PySem.W.Frag} {mg:Str→Option Value} {base:Heap} (B:Bt2 mg) (Bc:Cal P w K mg base 1 "many_cells" ["floor"] (aK K)) (Bj:Cal P w K mg base 2 "number_within" ["word","least","most"] (aZ K)) {f:Addr} {fd:FuncData} (F:Fun K "told_cells" "told_cells" dL f fd):FnOk P w K mg base CX0 3 f fd ["floor","words"] (cx K):=by
 refine F.ok sc_told_cells (fun vs H Q E h=>rj h) (fun cdv A outer s H vs Q E hr h=>?_)
 have hu:=hr.units
 have nd:=sc_told_cells.nd
 refine ⟨hJ K,?_,rk h⟩
 exact (ae (i8 (k:=2) nd rfl (Or.inl rfl) rfl (ix:=[none,none,some 0]) [".0","word","floor"] (bp rfl (by decide+kernel) rfl rfl rfl) rfl (bC (pv 1)) (fun cl s H fp=>(aJ (i:=1) (show ([".0","word","floor"]:List Str).Nodup by decide+kernel) rfl (Or.inl rfl))) (fun cl s H fp=>eQ) (fun cl s H fp=>(am Bj hr (by decide) rfl (ab (pv 1) (ab ad (ab (ai bD (am Bc hr (by decide) rfl (ab (pv 2) ac)) ad) ac))))))
   (ae (aD (ap (aN hu) (pv 2) (aS ac) (ao _)) (ag b8) au)
   (ae (aD (ap (bh hu) (xy rfl rfl rfl B.len_ B.set_ (pv 2)) (aB aH rfl B.len_ aR (ab (pv 2) ac)) (ao _)) (ag b8) au)
   (ag (ak (pv 2))))))
theorem rN {P:Program} {w:World} {K:PySem.W.Frag} {mg:Str→Option Value} {base:Heap} (B:Bt2 mg) (Bc:Cal P w K mg base 1 "many_cells" ["floor"] (aK K)) (Bj:Cal P w K mg base 2 "number_within" ["word","least","most"] (aZ K)) {f:Addr} {fd:FuncData} (F:Fun K "told_cells" "told_cells" dL f fd) (hm:mg "told_cells"=some (.ref f)):Cal P w K mg base 3 "told_cells" ["floor","words"] (cx K):=
 ⟨f,fd,rM B Bc Bj F,hm,F.kp,F.binds (ps:=["floor","words"]) fun _ _ _ _ _ _ us hl=>match us,hl with | [_,_],_=>rfl⟩
abbrev gK:Stmt:=top 96
theorem sc_rule_by:ay ["floor","words","cells","amount","mark","name"] ["floor","words","cells","amount","mark"] (af gK):=⟨rfl,rfl,rfl,by decide+kernel,rfl,by decide+kernel,by decide+kernel⟩
set_option maxHeartbeats 4000000 in
theorem wz {P:Program} {w:World} {K:PySem.W.Frag} {mg:Str→Option Value} {base:Heap} (B:Bt2 mg) {c:RCl RK} (En:KCal P w K mg base 1 "Count" (c.A .Count) ["self","floor","words","cells","amount","mark"] (aq K c)) (D3:KCal P w K mg base 1 "Joined" (c.A .Joined) ["self","floor","words","cells","amount","mark"] (aq K c)) (C2:KCal P w K mg base 1 "NoSquare" (c.A .NoSquare) ["self","floor","words","cells","amount","mark"] (aq K c)) (E8:KCal P w K mg base 1 "Ring" (c.A .Ring) ["self","floor","words","cells","amount","mark"] (aq K c)) (D4:KCal P w K mg base 1 "Rising" (c.A .Rising) ["self","floor","words","cells","amount","mark"] (aq K c)) (E9:KCal P w K mg base 1 "Seen" (c.A .Seen) ["self","floor","words","cells","amount","mark"] (aq K c)) (K_Sum:KCal P w K mg base 1 "Sum" (c.A .Sum) ["self","floor","words","cells","amount","mark"] (aq K c)) (D5:KCal P w K mg base 1 "Unlike" (c.A .Unlike) ["self","floor","words","cells","amount","mark"] (aq K c)) {f:Addr} {fd:FuncData} (F:Fun K "rule_by" "rule_by" gK f fd):FnOk P w K mg base CX0 3 f fd ["floor","words","cells","amount","mark"] (dX K c):=by
 refine F.ok sc_rule_by (fun vs H Q E h=>vM h) (fun cdv A outer s H vs Q E hr h=>?_)
 have hu:=hr.units
 have nd:=sc_rule_by.nd
 refine ⟨j2 K c,?_,vN h⟩
 exact (ae (az (i:=5) nd rfl (Or.inl rfl) (aj (aw hu) (pv 1) ad (fun _ _=>rfl)))
   (ae (aD (ap (aN hu) (pv 5) aT (ao _)) (ag (ak (jY D5 hr (by decide) rfl (ab (pv 0) (ab (pv 1) (ab (pv 2) (ab (pv 3) (ab (pv 4) ac)))))))) au)
   (ae (aD (ap (aN hu) (pv 5) aT (ao _)) (ag (ak (jY K_Sum hr (by decide) rfl (ab (pv 0) (ab (pv 1) (ab (pv 2) (ab (pv 3) (ab (pv 4) ac)))))))) au)
   (ae (aD (ap (aN hu) (pv 5) aT (ao _)) (ag (ak (jY D4 hr (by decide) rfl (ab (pv 0) (ab (pv 1) (ab (pv 2) (ab (pv 3) (ab (pv 4) ac)))))))) au)
   (ae (aD (ap (aN hu) (pv 5) aT (ao _)) (ag (ak (jY E9 hr (by decide) rfl (ab (pv 0) (ab (pv 1) (ab (pv 2) (ab (pv 3) (ab (pv 4) ac)))))))) au)
   (ae (aD (ap (aN hu) (pv 5) aT (ao _)) (ag (ak (jY En hr (by decide) rfl (ab (pv 0) (ab (pv 1) (ab (pv 2) (ab (pv 3) (ab (pv 4) ac)))))))) au)
   (ae (aD (ap (aN hu) (pv 5) aT (ao _)) (ag (ak (jY D3 hr (by decide) rfl (ab (pv 0) (ab (pv 1) (ab (pv 2) (ab (pv 3) (ab (pv 4) ac)))))))) au)
   (ae (aD (ap (aN hu) (pv 5) aT (ao _)) (ag (ak (jY C2 hr (by decide) rfl (ab (pv 0) (ab (pv 1) (ab (pv 2) (ab (pv 3) (ab (pv 4) ac)))))))) au)
   (ae (aD (ap (aN hu) (pv 5) aT (ao _)) (ag (ak (jY E8 hr (by decide) rfl (ab (pv 0) (ab (pv 1) (ab (pv 2) (ab (pv 3) (ab (pv 4) ac)))))))) au)
   (ag b8))))))))))
theorem wA {P:Program} {w:World} {K:PySem.W.Frag} {mg:Str→Option Value} {base:Heap} (B:Bt2 mg) {c:RCl RK} (En:KCal P w K mg base 1 "Count" (c.A .Count) ["self","floor","words","cells","amount","mark"] (aq K c)) (D3:KCal P w K mg base 1 "Joined" (c.A .Joined) ["self","floor","words","cells","amount","mark"] (aq K c)) (C2:KCal P w K mg base 1 "NoSquare" (c.A .NoSquare) ["self","floor","words","cells","amount","mark"] (aq K c)) (E8:KCal P w K mg base 1 "Ring" (c.A .Ring) ["self","floor","words","cells","amount","mark"] (aq K c)) (D4:KCal P w K mg base 1 "Rising" (c.A .Rising) ["self","floor","words","cells","amount","mark"] (aq K c)) (E9:KCal P w K mg base 1 "Seen" (c.A .Seen) ["self","floor","words","cells","amount","mark"] (aq K c)) (K_Sum:KCal P w K mg base 1 "Sum" (c.A .Sum) ["self","floor","words","cells","amount","mark"] (aq K c)) (D5:KCal P w K mg base 1 "Unlike" (c.A .Unlike) ["self","floor","words","cells","amount","mark"] (aq K c)) {f:Addr} {fd:FuncData} (F:Fun K "rule_by" "rule_by" gK f fd) (hm:mg "rule_by"=some (.ref f)):Cal P w K mg base 3 "rule_by" ["floor","words","cells","amount","mark"] (dX K c):=
 ⟨f,fd,wz B En D3 C2 E8 D4 E9 K_Sum D5 F,hm,F.kp,F.binds (ps:=["floor","words","cells","amount","mark"]) fun _ _ _ _ _ _ us hl=>match us,hl with | [_,_,_,_,_],_=>rfl⟩
abbrev ck:Stmt:=top 103
theorem sc_checked_clues:ay ["floor","clues"] ["floor","clues"] (af ck):=⟨rfl,rfl,rfl,by decide+kernel,rfl,by decide+kernel,by decide+kernel⟩
set_option maxHeartbeats 4000000 in
theorem oA {P:Program} {w:World} {K:PySem.W.Frag} {mg:Str→Option Value} {base:Heap} (B:Bt2 mg) (Ce:Cal P w K mg base 2 "is_filling" ["floor","filling","least"] (cy K)) {f:Addr} {fd:FuncData} (F:Fun K "checked_clues" "checked_clues" ck f fd):FnOk P w K mg base CX0 3 f fd ["floor","clues"] (bV K):=by
 refine F.ok sc_checked_clues (fun vs H Q E h=>n9 h) (fun cdv A outer s H vs Q E hr h=>?_)
 have hu:=hr.units
 have nd:=sc_checked_clues.nd
 refine ⟨fz K,?_,oa h⟩
 exact (ae (aD (b4 (bg (am Ce hr (by decide) rfl (ab (pv 0) (ab (pv 1) (ab ad ac)))))) (ag b8) au)
   (ag (ak (cP jC rfl B.list_ i9 (ab (pv 1) ac)))))
theorem oB {P:Program} {w:World} {K:PySem.W.Frag} {mg:Str→Option Value} {base:Heap} (B:Bt2 mg) (Ce:Cal P w K mg base 2 "is_filling" ["floor","filling","least"] (cy K)) {f:Addr} {fd:FuncData} (F:Fun K "checked_clues" "checked_clues" ck f fd) (hm:mg "checked_clues"=some (.ref f)):Cal P w K mg base 3 "checked_clues" ["floor","clues"] (bV K):=
 ⟨f,fd,oA B Ce F,hm,F.kp,F.binds (ps:=["floor","clues"]) fun _ _ _ _ _ _ us hl=>match us,hl with | [_,_],_=>rfl⟩
abbrev dM:Stmt:=top 111
theorem sc__law_lists:ay ["_law_script","_law_floor_here","_law_many","_law_found","_law_k","_law_cell"] ["_law_script","_law_floor_here"] (af dM):=⟨rfl,rfl,rfl,by decide+kernel,rfl,by decide+kernel,by decide+kernel⟩
set_option maxHeartbeats 4000000 in
theorem rO {P:Program} {w:World} {K:PySem.W.Frag} {mg:Str→Option Value} {base:Heap} (B:Bt2 mg) (Ba:Cal P w K mg base 1 "_law_cell_at" ["_law_script","_law_k"] (aA K)) (BG:Cal P w K mg base 2 "_law_cells" ["_law_script","_law_at","_law_many","_law_size"] (bB K)) {f:Addr} {fd:FuncData} (F:Fun K "_law_lists" "_law_lists" dM f fd):FnOk P w K mg base CX0 3 f fd ["_law_script","_law_floor_here"] (cf K):=by
 refine F.ok sc__law_lists (fun vs H Q E h=>pS h) (fun cdv A outer s H vs Q E hr h=>?_)
 have hu:=hr.units
 have nd:=sc__law_lists.nd
 refine ⟨gt K,?_,pT h⟩
 exact (ae (az (i:=2) nd rfl (Or.inl rfl) (ai cr (aj (aw hu) (pv 1) ad (fun _ _=>rfl)) (aj (aw hu) (pv 1) ad (fun _ _=>rfl))))
   (ae (az (i:=3) nd rfl (Or.inl rfl) (aS ac))
   (ae (eP PassesOwn.never rfl (cw rfl B.range_ (ab ad ac)) (aJ (i:=4) nd rfl (Or.inl rfl))
   (ae (az (i:=5) nd rfl (Or.inl rfl) (am Ba hr (by decide) rfl (ab (pv 0) (ab (ai aF ad (pv 4)) ac))))
   (ag (b5 (cz PySem.F.plainAttrs_list PySem.F.slot_list_append PySem.F.type_list_append a9 (pv 3) (ab (am BG hr (by decide) rfl (ab (pv 0) (ab (ai aF ad (ai cr ad (pv 4))) (ab (pv 2) (ab (ai aF ad (ai aO (pv 5) (pv 2))) ac))))) ac))))))
   (ae (aD (ap gw (aj (aw hu) (pv 1) ad (fun _ _=>rfl)) (pv 2) (ao _)) (ag (oJ (am BG hr (by decide) rfl (ab (pv 0) (ab ad (ab (pv 2) (ab (aj (aw hu) (pv 1) ad (fun _ _=>rfl)) ac))))) (wI (pv 3) ad (yX hu)))) au)
   (ag (ak (pv 3)))))))
theorem rP {P:Program} {w:World} {K:PySem.W.Frag} {mg:Str→Option Value} {base:Heap} (B:Bt2 mg) (Ba:Cal P w K mg base 1 "_law_cell_at" ["_law_script","_law_k"] (aA K)) (BG:Cal P w K mg base 2 "_law_cells" ["_law_script","_law_at","_law_many","_law_size"] (bB K)) {f:Addr} {fd:FuncData} (F:Fun K "_law_lists" "_law_lists" dM f fd) (hm:mg "_law_lists"=some (.ref f)):Cal P w K mg base 3 "_law_lists" ["_law_script","_law_floor_here"] (cf K):=
 ⟨f,fd,rO B Ba BG F,hm,F.kp,F.binds (ps:=["_law_script","_law_floor_here"]) fun _ _ _ _ _ _ us hl=>match us,hl with | [_,_],_=>rfl⟩
abbrev eh:Stmt:=top 35
theorem sc_is_formed:ay ["puzzle","thought","floor"] ["puzzle","thought"] (af eh):=⟨rfl,rfl,rfl,by decide+kernel,rfl,by decide+kernel,by decide+kernel⟩
set_option maxHeartbeats 4000000 in
theorem ua {P:Program} {w:World} {K:PySem.W.Frag} {mg:Str→Option Value} {base:Heap} (B:Bt2 mg) {c:RCl RK} {d:RCl PzK} (BH:Cal P w K mg base 3 "has_its_rule" ["puzzle","kind","number","cell"] (bO K c d)) (Bw:Cal P w K mg base 2 "is_cell" ["floor","value"] (ca K)) (Bx:Cal P w K mg base 3 "is_sign" ["floor","value"] (cb K)) (Bd:Cal P w K mg base 1 "is_whole" ["value"] (aQ K)) (Bs:MCal P w K mg base d d.ok 1 "place" ["self"] (dC K c d)) (G_KINDS:GTup K mg "KINDS" kr) {f:Addr} {fd:FuncData} (F:Fun K "is_formed" "is_formed" eh f fd):FnOk P w K mg base CX0 4 f fd ["puzzle","thought"] (cW K c d):=by
 refine F.ok sc_is_formed (fun vs H Q E h=>sW h) (fun cdv A outer s H vs Q E hr h=>?_)
 have hu:=hr.units
 have nd:=sc_is_formed.nd
 refine ⟨iT K c d,?_,sX h⟩
 exact (ae (aD (PW.pt (cM (b4 (bg (aB dR rfl B.isinstance_ bT (ab (pv 1) (ab (gN (v:=.ty "tuple") rfl B.tuple_ lp rfl) ac))))) (cM (ap (bh hu) (aB aH rfl B.len_ aR (ab (pv 1) ac)) ad (ao _)) (dy (vc G_KINDS (aj (aw hu) (pv 1) ad (fun _ _=>rfl)) rfl))))) (ag (ak eu)) au)
   (ae (az (i:=2) nd rfl (Or.inl rfl) (bN Bs hr (by decide) (pv 0)))
   (ae (aD (PW.pt (cM (b4 (bg (am Bw hr (by decide) rfl (ab (pv 2) (ab (aj (aw hu) (pv 1) ad (fun _ _=>rfl)) ac))))) (dy (b4 (bg (am Bx hr (by decide) rfl (ab (pv 2) (ab (aj (aw hu) (pv 1) ad (fun _ _=>rfl)) ac)))))))) (ag (ak eu)) au)
   (ae (aD (b4 (bg (am BH hr (by decide) rfl (ab (pv 0) (ab (aj (aw hu) (pv 1) ad (fun _ _=>rfl)) (ab (aj (aw hu) (pv 1) ad (fun _ _=>rfl)) (ab (aj (aw hu) (pv 1) ad (fun _ _=>rfl)) ac))))))) (ag (ak eu)) au)
   (ag (ak (bK (aB dR rfl B.isinstance_ bT (ab (aj (aw hu) (pv 1) ad (fun _ _=>rfl)) (ab (gN (v:=.ty "list") rfl B.list_ i9 rfl) ac))) (cO (aB (kC rfl) rfl B.all_ oV (ab (cC (ix:=[none,none]) [".0","part"] (bp rfl (by decide+kernel) rfl rfl rfl) rfl (bC (aj (aw hu) (pv 1) ad (fun _ _=>rfl))) (fun cl s H fp=>(aJ (i:=1) (show ([".0","part"]:List Str).Nodup by decide+kernel) rfl (Or.inl rfl))) (fun cl s H fp=>eQ) (fun cl s H fp=>(am Bd hr (by decide) rfl (ab (pv 1) ac)))) ac))))))))))
theorem ub {P:Program} {w:World} {K:PySem.W.Frag} {mg:Str→Option Value} {base:Heap} (B:Bt2 mg) {c:RCl RK} {d:RCl PzK} (BH:Cal P w K mg base 3 "has_its_rule" ["puzzle","kind","number","cell"] (bO K c d)) (Bw:Cal P w K mg base 2 "is_cell" ["floor","value"] (ca K)) (Bx:Cal P w K mg base 3 "is_sign" ["floor","value"] (cb K)) (Bd:Cal P w K mg base 1 "is_whole" ["value"] (aQ K)) (Bs:MCal P w K mg base d d.ok 1 "place" ["self"] (dC K c d)) (G_KINDS:GTup K mg "KINDS" kr) {f:Addr} {fd:FuncData} (F:Fun K "is_formed" "is_formed" eh f fd) (hm:mg "is_formed"=some (.ref f)):Cal P w K mg base 4 "is_formed" ["puzzle","thought"] (cW K c d):=
 ⟨f,fd,ua B BH Bw Bx Bd Bs G_KINDS F,hm,F.kp,F.binds (ps:=["puzzle","thought"]) fun _ _ _ _ _ _ us hl=>match us,hl with | [_,_],_=>rfl⟩
abbrev ei:Stmt:=top 38
theorem sc_many_only:ay ["some","sign"] ["some","sign"] (af ei):=⟨rfl,rfl,rfl,by decide+kernel,rfl,by decide+kernel,by decide+kernel⟩
set_option maxHeartbeats 4000000 in
theorem uc {P:Program} {w:World} {K:PySem.W.Frag} {mg:Str→Option Value} {base:Heap} (B:Bt2 mg) (Be:Cal P w K mg base 3 "has_only" ["mask","sign"] (aX K)) {f:Addr} {fd:FuncData} (F:Fun K "many_only" "many_only" ei f fd):FnOk P w K mg base CX0 4 f fd ["some","sign"] (bu K):=by
 refine F.ok sc_many_only (fun vs H Q E h=>tw h) (fun cdv A outer s H vs Q E hr h=>?_)
 have hu:=hr.units
 have nd:=sc_many_only.nd
 refine ⟨iW K,?_,tz h⟩
 exact (ag (ak (aB aH rfl B.len_ aR (ab (cC (ix:=[none,none,some 1]) [".0","mask","sign"] (bp rfl (by decide+kernel) rfl rfl rfl) rfl (bC (pv 0)) (fun cl s H fp=>(aJ (i:=1) (show ([".0","mask","sign"]:List Str).Nodup by decide+kernel) rfl (Or.inl rfl))) (fun cl s H fp=>(eV (bg (am Be hr (by decide) rfl (ab (pv 1) (ab (pv 2) ac)))))) (fun cl s H fp=>(pv 1))) ac))))
theorem ud {P:Program} {w:World} {K:PySem.W.Frag} {mg:Str→Option Value} {base:Heap} (B:Bt2 mg) (Be:Cal P w K mg base 3 "has_only" ["mask","sign"] (aX K)) {f:Addr} {fd:FuncData} (F:Fun K "many_only" "many_only" ei f fd) (hm:mg "many_only"=some (.ref f)):Cal P w K mg base 4 "many_only" ["some","sign"] (bu K):=
 ⟨f,fd,uc B Be F,hm,F.kp,F.binds (ps:=["some","sign"]) fun _ _ _ _ _ _ us hl=>match us,hl with | [_,_],_=>rfl⟩
abbrev cJ:Stmt:=top 43
theorem sc_only_strikes:ay ["rule","masks","cell","sign","more"] ["rule","masks","cell","sign","more"] (af cJ):=⟨rfl,rfl,rfl,by decide+kernel,rfl,by decide+kernel,by decide+kernel⟩
set_option maxHeartbeats 4000000 in
theorem qf {P:Program} {w:World} {K:PySem.W.Frag} {mg:Str→Option Value} {base:Heap} (B:Bt2 mg) {c:RCl RK} (Be:Cal P w K mg base 3 "has_only" ["mask","sign"] (aX K)) (Bi:Cal P w K mg base 2 "others" ["rule","cell"] (bn K c)) {f:Addr} {fd:FuncData} (F:Fun K "only_strikes" "only_strikes" cJ f fd):FnOk P w K mg base CX0 4 f fd ["rule","masks","cell","sign","more"] (bQ K c):=by
 refine F.ok sc_only_strikes (fun vs H Q E h=>pA h) (fun cdv A outer s H vs Q E hr h=>?_)
 have hu:=hr.units
 have nd:=sc_only_strikes.nd
 refine ⟨gj K c,?_,pB h⟩
 exact (ag (ak (bK (aM (aN hu) (aB aH rfl B.len_ aR (ab (pv 4) ac)) ad (ao _)) (bK (aM (ki hu) (aj (aw hu) (pv 4) ad (fun _ _=>rfl)) (am Bi hr (by decide) rfl (ab (pv 0) (ab (pv 2) ac))) (by with_unfolding_all rfl)) (cO (am Be hr (by decide) rfl (ab (aj (aw hu) (pv 1) (aj (aw hu) (pv 4) ad (fun _ _=>rfl)) (fun _ _=>rfl)) (ab (pv 3) ac))))))))
theorem qg {P:Program} {w:World} {K:PySem.W.Frag} {mg:Str→Option Value} {base:Heap} (B:Bt2 mg) {c:RCl RK} (Be:Cal P w K mg base 3 "has_only" ["mask","sign"] (aX K)) (Bi:Cal P w K mg base 2 "others" ["rule","cell"] (bn K c)) {f:Addr} {fd:FuncData} (F:Fun K "only_strikes" "only_strikes" cJ f fd) (hm:mg "only_strikes"=some (.ref f)):Cal P w K mg base 4 "only_strikes" ["rule","masks","cell","sign","more"] (bQ K c):=
 ⟨f,fd,qf B Be Bi F,hm,F.kp,F.binds (ps:=["rule","masks","cell","sign","more"]) fun _ _ _ _ _ _ us hl=>match us,hl with | [_,_,_,_,_],_=>rfl⟩
abbrev cm:Stmt:=top 44
theorem sc_place_strikes:ay ["floor","rule","masks","cell","sign","more"] ["floor","rule","masks","cell","sign","more"] (af cm):=⟨rfl,rfl,rfl,by decide+kernel,rfl,by decide+kernel,by decide+kernel⟩
set_option maxHeartbeats 4000000 in
theorem oC {P:Program} {w:World} {K:PySem.W.Frag} {mg:Str→Option Value} {base:Heap} (B:Bt2 mg) {c:RCl RK} (Bx:Cal P w K mg base 3 "is_sign" ["floor","value"] (cb K)) (Bn:Cal P w K mg base 2 "many_may" ["some","sign"] (bJ K)) (Bg:Cal P w K mg base 1 "masks_at" ["masks","cells"] (be K)) (Bi:Cal P w K mg base 2 "others" ["rule","cell"] (bn K c)) (Bq:MCal P w K mg base c c.ok 1 "spots" ["self"] (dB K c)) {f:Addr} {fd:FuncData} (F:Fun K "place_strikes" "place_strikes" cm f fd):FnOk P w K mg base CX0 4 f fd ["floor","rule","masks","cell","sign","more"] (bG K c):=by
 refine F.ok sc_place_strikes (fun vs H Q E h=>oe h) (fun cdv A outer s H vs Q E hr h=>?_)
 have hu:=hr.units
 have nd:=sc_place_strikes.nd
 refine ⟨fA K c,?_,og h⟩
 exact (ae (aD (PW.pt (cM (ap (bh hu) (aB aH rfl B.len_ aR (ab (bN Bq hr (by decide) (pv 1)) ac)) (aj (aw hu) (pv 0) ad (fun _ _=>rfl)) (ao _)) (dy (ap (bh hu) (aB aH rfl B.len_ aR (ab (pv 5) ac)) ad (ao _))))) (ag (ak eu)) au)
   (ae (aD (PW.pt (cM (ap (aN hu) (aj (aw hu) (pv 5) ad (fun _ _=>rfl)) (pv 4) (ao _)) (dy (b4 (bg (am Bx hr (by decide) rfl (ab (pv 0) (ab (aj (aw hu) (pv 5) ad (fun _ _=>rfl)) ac)))))))) (ag (ak eu)) au)
   (ag (ak (aM (aN hu) (am Bn hr (by decide) rfl (ab (am Bg hr (by decide) rfl (ab (pv 2) (ab (am Bi hr (by decide) rfl (ab (pv 1) (ab (pv 3) ac))) ac))) (ab (aj (aw hu) (pv 5) ad (fun _ _=>rfl)) ac))) ad (ao _))))))
theorem oE {P:Program} {w:World} {K:PySem.W.Frag} {mg:Str→Option Value} {base:Heap} (B:Bt2 mg) {c:RCl RK} (Bx:Cal P w K mg base 3 "is_sign" ["floor","value"] (cb K)) (Bn:Cal P w K mg base 2 "many_may" ["some","sign"] (bJ K)) (Bg:Cal P w K mg base 1 "masks_at" ["masks","cells"] (be K)) (Bi:Cal P w K mg base 2 "others" ["rule","cell"] (bn K c)) (Bq:MCal P w K mg base c c.ok 1 "spots" ["self"] (dB K c)) {f:Addr} {fd:FuncData} (F:Fun K "place_strikes" "place_strikes" cm f fd) (hm:mg "place_strikes"=some (.ref f)):Cal P w K mg base 4 "place_strikes" ["floor","rule","masks","cell","sign","more"] (bG K c):=
 ⟨f,fd,oC B Bx Bn Bg Bi Bq F,hm,F.kp,F.binds (ps:=["floor","rule","masks","cell","sign","more"]) fun _ _ _ _ _ _ us hl=>match us,hl with | [_,_,_,_,_,_],_=>rfl⟩
abbrev bZ:Stmt:=top 63
theorem sc_rest_of_square:ay ["floor","corner","cell","square"] ["floor","corner","cell"] (af bZ):=⟨rfl,rfl,rfl,by decide+kernel,rfl,by decide+kernel,by decide+kernel⟩
set_option maxHeartbeats 4000000 in
theorem nk {P:Program} {w:World} {K:PySem.W.Frag} {mg:Str→Option Value} {base:Heap} (B:Bt2 mg) (Dx:Cal P w K mg base 3 "squares" ["floor"] (dU K)) {f:Addr} {fd:FuncData} (F:Fun K "rest_of_square" "rest_of_square" bZ f fd):FnOk P w K mg base CX0 4 f fd ["floor","corner","cell"] (bw K):=by
 refine F.ok sc_rest_of_square (fun vs H Q E h=>m9 h) (fun cdv A outer s H vs Q E hr h=>?_)
 have hu:=hr.units
 have nd:=sc_rest_of_square.nd
 refine ⟨eF K,?_,nc h⟩
 exact (ae (eP PassesOwn.never rfl (bC (am Dx hr (by decide) rfl (ab (pv 0) ac))) (aJ (i:=3) nd rfl (Or.inl rfl))
   (ag (aD (PW.pt (fN (ap (aN hu) (aj (aw hu) (pv 3) ad (fun _ _=>rfl)) (pv 1) (ao _)) (eK (ap (ki hu) (pv 2) (pv 3) (by with_unfolding_all rfl))))) (ag (ak (cC (ix:=[none,none,some 2]) [".0","other","cell"] (bp rfl (by decide+kernel) rfl rfl rfl) rfl (bC (pv 3)) (fun cl s H fp=>(aJ (i:=1) (show ([".0","other","cell"]:List Str).Nodup by decide+kernel) rfl (Or.inl rfl))) (fun cl s H fp=>(eV (ap (bh hu) (pv 1) (pv 2) (ao _)))) (fun cl s H fp=>(pv 1))))) au)))
   (ag (ak (aS ac))))
theorem nn {P:Program} {w:World} {K:PySem.W.Frag} {mg:Str→Option Value} {base:Heap} (B:Bt2 mg) (Dx:Cal P w K mg base 3 "squares" ["floor"] (dU K)) {f:Addr} {fd:FuncData} (F:Fun K "rest_of_square" "rest_of_square" bZ f fd) (hm:mg "rest_of_square"=some (.ref f)):Cal P w K mg base 4 "rest_of_square" ["floor","corner","cell"] (bw K):=
 ⟨f,fd,nk B Dx F,hm,F.kp,F.binds (ps:=["floor","corner","cell"]) fun _ _ _ _ _ _ us hl=>match us,hl with | [_,_,_],_=>rfl⟩
abbrev bf:Stmt:=top 65
theorem sc_is_another_with_only:ay ["floor","masks","cell","other","mark"] ["floor","masks","cell","other","mark"] (af bf):=⟨rfl,rfl,rfl,by decide+kernel,rfl,by decide+kernel,by decide+kernel⟩
set_option maxHeartbeats 4000000 in
theorem kA {P:Program} {w:World} {K:PySem.W.Frag} {mg:Str→Option Value} {base:Heap} (B:Bt2 mg) (Be:Cal P w K mg base 3 "has_only" ["mask","sign"] (aX K)) (Bw:Cal P w K mg base 2 "is_cell" ["floor","value"] (ca K)) {f:Addr} {fd:FuncData} (F:Fun K "is_another_with_only" "is_another_with_only" bf f fd):FnOk P w K mg base CX0 4 f fd ["floor","masks","cell","other","mark"] (aU K):=by
 refine F.ok sc_is_another_with_only (fun vs H Q E h=>ku h) (fun cdv A outer s H vs Q E hr h=>?_)
 have hu:=hr.units
 have nd:=sc_is_another_with_only.nd
 refine ⟨cA K,?_,kx h⟩
 exact (ag (ak (bK (am Bw hr (by decide) rfl (ab (pv 0) (ab (pv 3) ac))) (bK (aM (bh hu) (pv 3) (pv 2) (ao _)) (cO (am Be hr (by decide) rfl (ab (aj (aw hu) (pv 1) (pv 3) (fun _ _=>rfl)) (ab (pv 4) ac))))))))
theorem kB {P:Program} {w:World} {K:PySem.W.Frag} {mg:Str→Option Value} {base:Heap} (B:Bt2 mg) (Be:Cal P w K mg base 3 "has_only" ["mask","sign"] (aX K)) (Bw:Cal P w K mg base 2 "is_cell" ["floor","value"] (ca K)) {f:Addr} {fd:FuncData} (F:Fun K "is_another_with_only" "is_another_with_only" bf f fd) (hm:mg "is_another_with_only"=some (.ref f)):Cal P w K mg base 4 "is_another_with_only" ["floor","masks","cell","other","mark"] (aU K):=
 ⟨f,fd,kA B Be Bw F,hm,F.kp,F.binds (ps:=["floor","masks","cell","other","mark"]) fun _ _ _ _ _ _ us hl=>match us,hl with | [_,_,_,_,_],_=>rfl⟩
abbrev fM:Stmt:=top 95
theorem sc_cells_of:ay ["floor","name","words"] ["floor","name","words"] (af fM):=⟨rfl,rfl,rfl,by decide+kernel,rfl,by decide+kernel,by decide+kernel⟩
set_option maxHeartbeats 4000000 in
theorem uV {P:Program} {w:World} {K:PySem.W.Frag} {mg:Str→Option Value} {base:Heap} (B:Bt2 mg) (Bc:Cal P w K mg base 1 "many_cells" ["floor"] (aK K)) (Cf:Cal P w K mg base 3 "told_cells" ["floor","words"] (cx K)) (G_OF_ALL_CELLS:GTup K mg "OF_ALL_CELLS" dW) {f:Addr} {fd:FuncData} (F:Fun K "cells_of" "cells_of" fM f fd):FnOk P w K mg base CX0 4 f fd ["floor","name","words"] (dm K):=by
 refine F.ok sc_cells_of (fun vs H Q E h=>ur h) (fun cdv A outer s H vs Q E hr h=>?_)
 have hu:=hr.units
 have nd:=sc_cells_of.nd
 refine ⟨jr K,?_,ut h⟩
 exact (ae (aD (vc G_OF_ALL_CELLS (pv 1) rfl) (ag (ak (am Cf hr (by decide) rfl (ab (pv 0) (ab (pv 2) ac))))) au)
   (ae (aD (ap (bh hu) (pv 2) (aS ac) (ao _)) (ag b8) au)
   (ag (ak (nB rfl rfl rfl B.list_ B.range_ (ab (am Bc hr (by decide) rfl (ab (pv 0) ac)) ac))))))
theorem uW {P:Program} {w:World} {K:PySem.W.Frag} {mg:Str→Option Value} {base:Heap} (B:Bt2 mg) (Bc:Cal P w K mg base 1 "many_cells" ["floor"] (aK K)) (Cf:Cal P w K mg base 3 "told_cells" ["floor","words"] (cx K)) (G_OF_ALL_CELLS:GTup K mg "OF_ALL_CELLS" dW) {f:Addr} {fd:FuncData} (F:Fun K "cells_of" "cells_of" fM f fd) (hm:mg "cells_of"=some (.ref f)):Cal P w K mg base 4 "cells_of" ["floor","name","words"] (dm K):=
 ⟨f,fd,uV B Bc Cf G_OF_ALL_CELLS F,hm,F.kp,F.binds (ps:=["floor","name","words"]) fun _ _ _ _ _ _ us hl=>match us,hl with | [_,_,_],_=>rfl⟩
abbrev cp:Stmt:=top 100
theorem sc_checked_floor:ay ["floor"] ["floor"] (af cp):=⟨rfl,rfl,rfl,by decide+kernel,rfl,by decide+kernel,by decide+kernel⟩
set_option maxHeartbeats 4000000 in
theorem oF {P:Program} {w:World} {K:PySem.W.Frag} {mg:Str→Option Value} {base:Heap} (B:Bt2 mg) (C3:Cal P w K mg base 3 "floor_of" ["high","wide","signs"] (dn K)) {f:Addr} {fd:FuncData} (F:Fun K "checked_floor" "checked_floor" cp f fd):FnOk P w K mg base CX0 4 f fd ["floor"] (bU K):=by
 refine F.ok sc_checked_floor (fun vs H Q E h=>n5 h) (fun cdv A outer s H vs Q E hr h=>?_)
 have hu:=hr.units
 have nd:=sc_checked_floor.nd
 refine ⟨fw K,?_,n6 h⟩
 exact (ae (aD (PW.pt (cM (b4 (bg (aB dR rfl B.isinstance_ bT (ab (pv 0) (ab (gN (v:=.ty "tuple") rfl B.tuple_ lp rfl) ac))))) (dy (ap (bh hu) (aB aH rfl B.len_ aR (ab (pv 0) ac)) ad (ao _))))) (ag b8) au)
   (ag (ak (am C3 hr (by decide) rfl (ab (aj (aw hu) (pv 0) ad (fun _ _=>rfl)) (ab (aj (aw hu) (pv 0) ad (fun _ _=>rfl)) (ab (aj (aw hu) (pv 0) ad (fun _ _=>rfl)) ac)))))))
theorem oG {P:Program} {w:World} {K:PySem.W.Frag} {mg:Str→Option Value} {base:Heap} (B:Bt2 mg) (C3:Cal P w K mg base 3 "floor_of" ["high","wide","signs"] (dn K)) {f:Addr} {fd:FuncData} (F:Fun K "checked_floor" "checked_floor" cp f fd) (hm:mg "checked_floor"=some (.ref f)):Cal P w K mg base 4 "checked_floor" ["floor"] (bU K):=
 ⟨f,fd,oF B C3 F,hm,F.kp,F.binds (ps:=["floor"]) fun _ _ _ _ _ _ us hl=>match us,hl with | [_],_=>rfl⟩
abbrev bM:Stmt:=top 52
theorem sc_strikes_by_line:ay ["puzzle","masks","thought","kind","cell","sign","more","rule"] ["puzzle","masks","thought"] (af bM):=⟨rfl,rfl,rfl,by decide+kernel,rfl,by decide+kernel,by decide+kernel⟩
set_option maxHeartbeats 4000000 in
theorem mM {P:Program} {w:World} {K:PySem.W.Frag} {mg:Str→Option Value} {base:Heap} (B:Bt2 mg) {c:RCl RK} {d:RCl PzK} (BK:Cal P w K mg base 1 "clue_strikes" ["clues","cell","sign","more"] (bP K)) (BL:Cal P w K mg base 4 "only_strikes" ["rule","masks","cell","sign","more"] (bQ K c)) (BM:Cal P w K mg base 3 "pair_strikes" ["rule","masks","cell","sign","more"] (bR K c)) (BD:Cal P w K mg base 4 "place_strikes" ["floor","rule","masks","cell","sign","more"] (bG K c)) (Eo:MCal P w K mg base d d.ok 1 "clues" ["self"] (kq K c d)) (Bs:MCal P w K mg base d d.ok 1 "place" ["self"] (dC K c d)) (Br:MCal P w K mg base d d.ok 1 "rules" ["self"] (dD K c d)) {f:Addr} {fd:FuncData} (F:Fun K "strikes_by_line" "strikes_by_line" bM f fd):FnOk P w K mg base CX0 5 f fd ["puzzle","masks","thought"] (bd K c d):=by
 refine F.ok sc_strikes_by_line (fun vs H Q E h=>lD h) (fun cdv A outer s H vs Q E hr h=>?_)
 have hu:=hr.units
 have nd:=sc_strikes_by_line.nd
 refine ⟨dj K c d,?_,lE h⟩
 exact (ae (az (i:=3) nd rfl (Or.inl rfl) (aj (aw hu) (pv 2) ad (fun _ _=>rfl)))
   (ae (az (i:=4) nd rfl (Or.inl rfl) (aj (aw hu) (pv 2) ad (fun _ _=>rfl)))
   (ae (az (i:=5) nd rfl (Or.inl rfl) (aj (aw hu) (pv 2) ad (fun _ _=>rfl)))
   (ae (az (i:=6) nd rfl (Or.inl rfl) (aj (aw hu) (pv 2) ad (fun _ _=>rfl)))
   (ae (aD (ap (aN hu) (pv 3) aT (ao _)) (ag (ak (am BK hr (by decide) rfl (ab (bN Eo hr (by decide) (pv 0)) (ab (pv 4) (ab (pv 5) (ab (pv 6) ac))))))) au)
   (ae (az (i:=7) nd rfl (Or.inl rfl) (aj (aw hu) (bN Br hr (by decide) (pv 0)) (aj (aw hu) (pv 2) ad (fun _ _=>rfl)) (fun _ _=>rfl)))
   (ae (aD (ap (aN hu) (pv 3) aT (ao _)) (ag (ak (am BL hr (by decide) rfl (ab (pv 7) (ab (pv 1) (ab (pv 4) (ab (pv 5) (ab (pv 6) ac)))))))) au)
   (ae (aD (ap (aN hu) (pv 3) aT (ao _)) (ag (ak (am BD hr (by decide) rfl (ab (bN Bs hr (by decide) (pv 0)) (ab (pv 7) (ab (pv 1) (ab (pv 4) (ab (pv 5) (ab (pv 6) ac))))))))) au)
   (ae (aD (ap (aN hu) (pv 3) aT (ao _)) (ag (ak qV)) au)
   (ag (ak (am BM hr (by decide) rfl (ab (pv 7) (ab (pv 1) (ab (pv 4) (ab (pv 5) (ab (pv 6) ac)))))))))))))))))
theorem mN {P:Program} {w:World} {K:PySem.W.Frag} {mg:Str→Option Value} {base:Heap} (B:Bt2 mg) {c:RCl RK} {d:RCl PzK} (BK:Cal P w K mg base 1 "clue_strikes" ["clues","cell","sign","more"] (bP K)) (BL:Cal P w K mg base 4 "only_strikes" ["rule","masks","cell","sign","more"] (bQ K c)) (BM:Cal P w K mg base 3 "pair_strikes" ["rule","masks","cell","sign","more"] (bR K c)) (BD:Cal P w K mg base 4 "place_strikes" ["floor","rule","masks","cell","sign","more"] (bG K c)) (Eo:MCal P w K mg base d d.ok 1 "clues" ["self"] (kq K c d)) (Bs:MCal P w K mg base d d.ok 1 "place" ["self"] (dC K c d)) (Br:MCal P w K mg base d d.ok 1 "rules" ["self"] (dD K c d)) {f:Addr} {fd:FuncData} (F:Fun K "strikes_by_line" "strikes_by_line" bM f fd) (hm:mg "strikes_by_line"=some (.ref f)):Cal P w K mg base 5 "strikes_by_line" ["puzzle","masks","thought"] (bd K c d):=
 ⟨f,fd,mM B BK BL BM BD Eo Bs Br F,hm,F.kp,F.binds (ps:=["puzzle","masks","thought"]) fun _ _ _ _ _ _ us hl=>match us,hl with | [_,_,_],_=>rfl⟩
abbrev b3:Stmt:=top 64
theorem sc_square_strikes:ay ["floor","rule","masks","cell","sign","more","rest"] ["floor","rule","masks","cell","sign","more"] (af b3):=⟨rfl,rfl,rfl,by decide+kernel,rfl,by decide+kernel,by decide+kernel⟩
set_option maxHeartbeats 4000000 in
theorem no {P:Program} {w:World} {K:PySem.W.Frag} {mg:Str→Option Value} {base:Heap} (B:Bt2 mg) {c:RCl RK} (Bl:Cal P w K mg base 4 "many_only" ["some","sign"] (bu K)) (Bg:Cal P w K mg base 1 "masks_at" ["masks","cells"] (be K)) (Bz:Cal P w K mg base 4 "rest_of_square" ["floor","corner","cell"] (bw K)) (BA:MCal P w K mg base c c.ok 1 "sign" ["self"] (fc K c)) {f:Addr} {fd:FuncData} (F:Fun K "square_strikes" "square_strikes" b3 f fd):FnOk P w K mg base CX0 5 f fd ["floor","rule","masks","cell","sign","more"] (bx K c):=by
 refine F.ok sc_square_strikes (fun vs H Q E h=>ng h) (fun cdv A outer s H vs Q E hr h=>?_)
 have hu:=hr.units
 have nd:=sc_square_strikes.nd
 refine ⟨eI K c,?_,nh h⟩
 exact (ae (aD (PW.pt (cM (ap (bh hu) (pv 4) (bN BA hr (by decide) (pv 1)) (ao _)) (dy (ap (bh hu) (aB aH rfl B.len_ aR (ab (pv 5) ac)) ad (ao _))))) (ag (ak eu)) au)
   (ae (az (i:=6) nd rfl (Or.inl rfl) (am Bz hr (by decide) rfl (ab (pv 0) (ab (aj (aw hu) (pv 5) ad (fun _ _=>rfl)) (ab (pv 3) ac)))))
   (ag (ak (bK (aM (bh hu) (pv 6) (aS ac) (ao _)) (cO (aM (aN hu) (am Bl hr (by decide) rfl (ab (am Bg hr (by decide) rfl (ab (pv 2) (ab (pv 6) ac))) (ab (pv 4) ac))) (aB aH rfl B.len_ aR (ab (pv 6) ac)) (ao _))))))))
theorem nq {P:Program} {w:World} {K:PySem.W.Frag} {mg:Str→Option Value} {base:Heap} (B:Bt2 mg) {c:RCl RK} (Bl:Cal P w K mg base 4 "many_only" ["some","sign"] (bu K)) (Bg:Cal P w K mg base 1 "masks_at" ["masks","cells"] (be K)) (Bz:Cal P w K mg base 4 "rest_of_square" ["floor","corner","cell"] (bw K)) (BA:MCal P w K mg base c c.ok 1 "sign" ["self"] (fc K c)) {f:Addr} {fd:FuncData} (F:Fun K "square_strikes" "square_strikes" b3 f fd) (hm:mg "square_strikes"=some (.ref f)):Cal P w K mg base 5 "square_strikes" ["floor","rule","masks","cell","sign","more"] (bx K c):=
 ⟨f,fd,no B Bl Bg Bz BA F,hm,F.kp,F.binds (ps:=["floor","rule","masks","cell","sign","more"]) fun _ _ _ _ _ _ us hl=>match us,hl with | [_,_,_,_,_,_],_=>rfl⟩
abbrev cq:Stmt:=top 66
theorem sc_reach_strikes:ay ["floor","rule","masks","cell","sign","more","mark","through"] ["floor","rule","masks","cell","sign","more"] (af cq):=⟨rfl,rfl,rfl,by decide+kernel,rfl,by decide+kernel,by decide+kernel⟩
set_option maxHeartbeats 4000000 in
theorem oH {P:Program} {w:World} {K:PySem.W.Frag} {mg:Str→Option Value} {base:Heap} (B:Bt2 mg) {c:RCl RK} (Bm:Cal P w K mg base 4 "is_another_with_only" ["floor","masks","cell","other","mark"] (aU K)) (Bi:Cal P w K mg base 2 "others" ["rule","cell"] (bn K c)) (CZ:Cal P w K mg base 3 "reached" ["floor","cells","start"] (dk K)) (Bh:Cal P w K mg base 1 "stands" ["mask","sign"] (bm K)) (BA:MCal P w K mg base c c.ok 1 "sign" ["self"] (fc K c)) {f:Addr} {fd:FuncData} (F:Fun K "reach_strikes" "reach_strikes" cq f fd):FnOk P w K mg base CX0 5 f fd ["floor","rule","masks","cell","sign","more"] (bH K c):=by
 refine F.ok sc_reach_strikes (fun vs H Q E h=>oh h) (fun cdv A outer s H vs Q E hr h=>?_)
 have hu:=hr.units
 have nd:=sc_reach_strikes.nd
 refine ⟨fC K c,?_,oi h⟩
 exact (ae (az (i:=6) nd rfl (Or.inr rfl) (bN BA hr (by decide) (pv 1)))
   (ae (aD (b4 (bg (aB (kC rfl) rfl B.all_ oV (ab (cC (ix:=[none,none,some 3,some 0,some 6,some 2]) [".0","other","cell","floor","mark","masks"] (bp rfl (by decide+kernel) rfl rfl rfl) rfl (bC (pv 5)) (fun cl s H fp=>(aJ (i:=1) (show ([".0","other","cell","floor","mark","masks"]:List Str).Nodup by decide+kernel) rfl (Or.inl rfl))) (fun cl s H fp=>eQ) (fun cl s H fp=>(am Bm hr (by decide) rfl (ab (pv 3) (ab (pv 5) (ab (pv 2) (ab (pv 1) (ab (pv 4) ac)))))))) ac)))) (ag (ak eu)) au)
   (ae (i8 (k:=7) nd rfl (Or.inl rfl) rfl (ix:=[none,none,some 6,some 2]) [".0","other","mark","masks"] (bp rfl (by decide+kernel) rfl rfl rfl) rfl (bC (am Bi hr (by decide) rfl (ab (pv 1) (ab (pv 3) ac)))) (fun cl s H fp=>(aJ (i:=1) (show ([".0","other","mark","masks"]:List Str).Nodup by decide+kernel) rfl (Or.inl rfl))) (fun cl s H fp=>(eV (bg (am Bh hr (by decide) rfl (ab (aj (aw hu) (pv 3) (pv 1) (fun _ _=>rfl)) (ab (pv 2) ac)))))) (fun cl s H fp=>(pv 1)))
   (ae (aD (ap (aN hu) (pv 4) (pv 6) (ao _)) (ag (ak (bK (aM (aN hu) (aB aH rfl B.len_ aR (ab (pv 5) ac)) ad (ao _)) (cO (aM (gx hu) (aj (aw hu) (pv 5) ad (fun _ _=>rfl)) (am CZ hr (by decide) rfl (ab (pv 0) (ab (ai aF (pv 7) (aS (ab (pv 3) ac))) (ab (pv 3) ac)))) (by with_unfolding_all rfl)))))) au)
   (ae (aD (PW.pt (cM (ap (bh hu) (aB aH rfl B.len_ aR (ab (pv 5) ac)) ad (ao _)) (dy (ap (aN hu) (aj (aw hu) (pv 5) ad (fun _ _=>rfl)) (aj (aw hu) (pv 5) ad (fun _ _=>rfl)) (ao _))))) (ag (ak eu)) au)
   (ag (ak (aM (gx hu) (aj (aw hu) (pv 5) ad (fun _ _=>rfl)) (am CZ hr (by decide) rfl (ab (pv 0) (ab (pv 7) (ab (aj (aw hu) (pv 5) ad (fun _ _=>rfl)) ac)))) (by with_unfolding_all rfl)))))))))
theorem oI {P:Program} {w:World} {K:PySem.W.Frag} {mg:Str→Option Value} {base:Heap} (B:Bt2 mg) {c:RCl RK} (Bm:Cal P w K mg base 4 "is_another_with_only" ["floor","masks","cell","other","mark"] (aU K)) (Bi:Cal P w K mg base 2 "others" ["rule","cell"] (bn K c)) (CZ:Cal P w K mg base 3 "reached" ["floor","cells","start"] (dk K)) (Bh:Cal P w K mg base 1 "stands" ["mask","sign"] (bm K)) (BA:MCal P w K mg base c c.ok 1 "sign" ["self"] (fc K c)) {f:Addr} {fd:FuncData} (F:Fun K "reach_strikes" "reach_strikes" cq f fd) (hm:mg "reach_strikes"=some (.ref f)):Cal P w K mg base 5 "reach_strikes" ["floor","rule","masks","cell","sign","more"] (bH K c):=
 ⟨f,fd,oH B Bm Bi CZ Bh BA F,hm,F.kp,F.binds (ps:=["floor","rule","masks","cell","sign","more"]) fun _ _ _ _ _ _ us hl=>match us,hl with | [_,_,_,_,_,_],_=>rfl⟩
abbrev cK:Stmt:=top 68
theorem sc_turn_strikes:ay ["floor","rule","masks","cell","sign","more","mark","some"] ["floor","rule","masks","cell","sign","more"] (af cK):=⟨rfl,rfl,rfl,by decide+kernel,rfl,by decide+kernel,by decide+kernel⟩
set_option maxHeartbeats 4000000 in
theorem qh {P:Program} {w:World} {K:PySem.W.Frag} {mg:Str→Option Value} {base:Heap} (B:Bt2 mg) {c:RCl RK} (D6:Cal P w K mg base 3 "around" ["floor","middle","cell"] (fi K)) (Bk:Cal P w K mg base 2 "beside" ["floor","cell"] (bF K)) (Be:Cal P w K mg base 3 "has_only" ["mask","sign"] (aX K)) (Bn:Cal P w K mg base 2 "many_may" ["some","sign"] (bJ K)) (Bl:Cal P w K mg base 4 "many_only" ["some","sign"] (bu K)) (Bg:Cal P w K mg base 1 "masks_at" ["masks","cells"] (be K)) (BA:MCal P w K mg base c c.ok 1 "sign" ["self"] (fc K c)) {f:Addr} {fd:FuncData} (F:Fun K "turn_strikes" "turn_strikes" cK f fd):FnOk P w K mg base CX0 5 f fd ["floor","rule","masks","cell","sign","more"] (bS K c):=by
 refine F.ok sc_turn_strikes (fun vs H Q E h=>pN h) (fun cdv A outer s H vs Q E hr h=>?_)
 have hu:=hr.units
 have nd:=sc_turn_strikes.nd
 refine ⟨gr K c,?_,pO h⟩
 exact (ae (az (i:=6) nd rfl (Or.inl rfl) (bN BA hr (by decide) (pv 1)))
   (ae (aD (ap (aN hu) (pv 5) (aS ac) (ao _)) (ae (az (i:=7) nd rfl (Or.inl rfl) (am Bg hr (by decide) rfl (ab (pv 2) (ab (am Bk hr (by decide) rfl (ab (pv 0) (ab (pv 3) ac))) ac))))
   (ag (ak (bK (aM (aN hu) (pv 4) (pv 6) (ao _)) (cO (yT (aM cQ (am Bn hr (by decide) rfl (ab (pv 7) (ab (pv 6) ac))) ad (ao _)) (cO (aM eX (am Bl hr (by decide) rfl (ab (pv 7) (ab (pv 6) ac))) ad (ao _))))))))) au)
   (ae (aD (PW.pt (cM (ap (bh hu) (aB aH rfl B.len_ aR (ab (pv 5) ac)) ad (ao _)) (cM (ap (gx hu) (aj (aw hu) (pv 5) ad (fun _ _=>rfl)) (am Bk hr (by decide) rfl (ab (pv 0) (ab (pv 3) ac))) (by with_unfolding_all rfl)) (dy (b4 (bg (am Be hr (by decide) rfl (ab (aj (aw hu) (pv 2) (aj (aw hu) (pv 5) ad (fun _ _=>rfl)) (fun _ _=>rfl)) (ab (pv 6) ac))))))))) (ag (ak eu)) au)
   (ae (az (i:=7) nd rfl (Or.inl rfl) (am Bg hr (by decide) rfl (ab (pv 2) (ab (am D6 hr (by decide) rfl (ab (pv 0) (ab (aj (aw hu) (pv 5) ad (fun _ _=>rfl)) (ab (pv 3) ac)))) ac))))
   (ae (aD (ap (aN hu) (pv 4) (pv 6) (ao _)) (ag (ak (aM so (am Bl hr (by decide) rfl (ab (pv 7) (ab (pv 6) ac))) ad (ao _)))) au)
   (ag (ak (aM cQ (am Bn hr (by decide) rfl (ab (pv 7) (ab (pv 6) ac))) ad (ao _)))))))))
theorem qi {P:Program} {w:World} {K:PySem.W.Frag} {mg:Str→Option Value} {base:Heap} (B:Bt2 mg) {c:RCl RK} (D6:Cal P w K mg base 3 "around" ["floor","middle","cell"] (fi K)) (Bk:Cal P w K mg base 2 "beside" ["floor","cell"] (bF K)) (Be:Cal P w K mg base 3 "has_only" ["mask","sign"] (aX K)) (Bn:Cal P w K mg base 2 "many_may" ["some","sign"] (bJ K)) (Bl:Cal P w K mg base 4 "many_only" ["some","sign"] (bu K)) (Bg:Cal P w K mg base 1 "masks_at" ["masks","cells"] (be K)) (BA:MCal P w K mg base c c.ok 1 "sign" ["self"] (fc K c)) {f:Addr} {fd:FuncData} (F:Fun K "turn_strikes" "turn_strikes" cK f fd) (hm:mg "turn_strikes"=some (.ref f)):Cal P w K mg base 5 "turn_strikes" ["floor","rule","masks","cell","sign","more"] (bS K c):=
 ⟨f,fd,qh B D6 Bk Be Bn Bl Bg BA F,hm,F.kp,F.binds (ps:=["floor","rule","masks","cell","sign","more"]) fun _ _ _ _ _ _ us hl=>match us,hl with | [_,_,_,_,_,_],_=>rfl⟩
abbrev em:Stmt:=top 97
theorem sc_read_rule:ay ["floor","line","words","name","rest","amount","mark"] ["floor","line"] (af em):=⟨rfl,rfl,rfl,by decide+kernel,rfl,by decide+kernel,by decide+kernel⟩
set_option maxHeartbeats 4000000 in
theorem ue {P:Program} {w:World} {K:PySem.W.Frag} {mg:Str→Option Value} {base:Heap} (B:Bt2 mg) {c:RCl RK} (C4:Cal P w K mg base 4 "cells_of" ["floor","name","words"] (dm K)) (By:Cal P w K mg base 3 "first_within" ["words","least","most"] (bj K)) (Dy:Cal P w K mg base 3 "rule_by" ["floor","words","cells","amount","mark"] (dX K c)) {t_MOST_NUMBER:Tok} (BP:mg "MOST_NUMBER"=some (.int 99 t_MOST_NUMBER)) (G_WITH_NUMBER:GTup K mg "WITH_NUMBER" e9) (G_WITH_SIGN:GTup K mg "WITH_SIGN" fb) {f:Addr} {fd:FuncData} (F:Fun K "read_rule" "read_rule" em f fd):FnOk P w K mg base CX0 5 f fd ["floor","line"] (cV K c):=by
 refine F.ok sc_read_rule (fun vs H Q E h=>sU h) (fun cdv A outer s H vs Q E hr h=>?_)
 have hu:=hr.units
 have nd:=sc_read_rule.nd
 refine ⟨iR K c,?_,sV h⟩
 exact (ae (aD (b4 (bg (aB dR rfl B.isinstance_ bT (ab (pv 1) (ab (gN (v:=.ty "str") rfl B.str_ ma rfl) ac))))) (ag b8) au)
   (ae (az (i:=2) nd rfl (Or.inl rfl) (cz PySem.F.plainAttrs_str PySem.F.slot_str_split PySem.F.type_str_split xl (pv 1) (ab aT ac)))
   (ae (az (i:=3) nd rfl (Or.inl rfl) (aj (aw hu) (pv 2) ad (fun _ _=>rfl)))
   (ae (az (i:=4) nd rfl (Or.inl rfl) (nF vF (pv 2) (qm ad) ql))
   (ae (az (i:=5) nd rfl (Or.inl rfl) ad)
   (ae (az (i:=6) nd rfl (Or.inl rfl) ad)
   (ae (aD (pc G_WITH_NUMBER (pv 3) rfl) (ae (az (i:=5) nd rfl (Or.inl rfl) (am By hr (by decide) rfl (ab (pv 4) (ab ad (ab (eJ rfl BP ⟨t_MOST_NUMBER,rfl⟩) ac)))))
   (ag (az (i:=4) nd rfl (Or.inl rfl) (nF vF (pv 4) (qm ad) ql)))) au)
   (ae (aD (pc G_WITH_SIGN (pv 3) rfl) (ae (az (i:=6) nd rfl (Or.inl rfl) (am By hr (by decide) rfl (ab (pv 4) (ab ad (ab (aj (aw hu) (pv 0) ad (fun _ _=>rfl)) ac)))))
   (ag (az (i:=4) nd rfl (Or.inl rfl) (nF vF (pv 4) (qm ad) ql)))) au)
   (ag (ak (am Dy hr (by decide) rfl (ab (pv 0) (ab (pv 2) (ab (am C4 hr (by decide) rfl (ab (pv 0) (ab (pv 3) (ab (pv 4) ac)))) (ab (pv 5) (ab (pv 6) ac))))))))))))))))
theorem uf {P:Program} {w:World} {K:PySem.W.Frag} {mg:Str→Option Value} {base:Heap} (B:Bt2 mg) {c:RCl RK} (C4:Cal P w K mg base 4 "cells_of" ["floor","name","words"] (dm K)) (By:Cal P w K mg base 3 "first_within" ["words","least","most"] (bj K)) (Dy:Cal P w K mg base 3 "rule_by" ["floor","words","cells","amount","mark"] (dX K c)) {t_MOST_NUMBER:Tok} (BP:mg "MOST_NUMBER"=some (.int 99 t_MOST_NUMBER)) (G_WITH_NUMBER:GTup K mg "WITH_NUMBER" e9) (G_WITH_SIGN:GTup K mg "WITH_SIGN" fb) {f:Addr} {fd:FuncData} (F:Fun K "read_rule" "read_rule" em f fd) (hm:mg "read_rule"=some (.ref f)):Cal P w K mg base 5 "read_rule" ["floor","line"] (cV K c):=
 ⟨f,fd,ue B C4 By Dy BP G_WITH_NUMBER G_WITH_SIGN F,hm,F.kp,F.binds (ps:=["floor","line"]) fun _ _ _ _ _ _ us hl=>match us,hl with | [_,_],_=>rfl⟩
abbrev bA:Stmt:=top 69
theorem sc_strikes_by_region:ay ["puzzle","masks","thought","floor","rule"] ["puzzle","masks","thought"] (af bA):=⟨rfl,rfl,rfl,by decide+kernel,rfl,by decide+kernel,by decide+kernel⟩
set_option maxHeartbeats 4000000 in
theorem lL {P:Program} {w:World} {K:PySem.W.Frag} {mg:Str→Option Value} {base:Heap} (B:Bt2 mg) {c:RCl RK} {d:RCl PzK} (BE:Cal P w K mg base 5 "reach_strikes" ["floor","rule","masks","cell","sign","more"] (bH K c)) (BB:Cal P w K mg base 5 "square_strikes" ["floor","rule","masks","cell","sign","more"] (bx K c)) (BN:Cal P w K mg base 5 "turn_strikes" ["floor","rule","masks","cell","sign","more"] (bS K c)) (Bs:MCal P w K mg base d d.ok 1 "place" ["self"] (dC K c d)) (Br:MCal P w K mg base d d.ok 1 "rules" ["self"] (dD K c d)) {f:Addr} {fd:FuncData} (F:Fun K "strikes_by_region" "strikes_by_region" bA f fd):FnOk P w K mg base CX0 6 f fd ["puzzle","masks","thought"] (aY K c d):=by
 refine F.ok sc_strikes_by_region (fun vs H Q E h=>kO h) (fun cdv A outer s H vs Q E hr h=>?_)
 have hu:=hr.units
 have nd:=sc_strikes_by_region.nd
 refine ⟨cN K c d,?_,kP h⟩
 exact (ae (az (i:=3) nd rfl (Or.inl rfl) (bN Bs hr (by decide) (pv 0)))
   (ae (az (i:=4) nd rfl (Or.inl rfl) (aj (aw hu) (bN Br hr (by decide) (pv 0)) (aj (aw hu) (pv 2) ad (fun _ _=>rfl)) (fun _ _=>rfl)))
   (ae (aD (ap (aN hu) (aj (aw hu) (pv 2) ad (fun _ _=>rfl)) aT (ao _)) (ag (ak (am BB hr (by decide) rfl (ab (pv 3) (ab (pv 4) (ab (pv 1) (ab (aj (aw hu) (pv 2) ad (fun _ _=>rfl)) (ab (aj (aw hu) (pv 2) ad (fun _ _=>rfl)) (ab (aj (aw hu) (pv 2) ad (fun _ _=>rfl)) ac))))))))) au)
   (ae (aD (ap (aN hu) (aj (aw hu) (pv 2) ad (fun _ _=>rfl)) aT (ao _)) (ag (ak (am BE hr (by decide) rfl (ab (pv 3) (ab (pv 4) (ab (pv 1) (ab (aj (aw hu) (pv 2) ad (fun _ _=>rfl)) (ab (aj (aw hu) (pv 2) ad (fun _ _=>rfl)) (ab (aj (aw hu) (pv 2) ad (fun _ _=>rfl)) ac))))))))) au)
   (ag (ak (am BN hr (by decide) rfl (ab (pv 3) (ab (pv 4) (ab (pv 1) (ab (aj (aw hu) (pv 2) ad (fun _ _=>rfl)) (ab (aj (aw hu) (pv 2) ad (fun _ _=>rfl)) (ab (aj (aw hu) (pv 2) ad (fun _ _=>rfl)) ac)))))))))))))
theorem lM {P:Program} {w:World} {K:PySem.W.Frag} {mg:Str→Option Value} {base:Heap} (B:Bt2 mg) {c:RCl RK} {d:RCl PzK} (BE:Cal P w K mg base 5 "reach_strikes" ["floor","rule","masks","cell","sign","more"] (bH K c)) (BB:Cal P w K mg base 5 "square_strikes" ["floor","rule","masks","cell","sign","more"] (bx K c)) (BN:Cal P w K mg base 5 "turn_strikes" ["floor","rule","masks","cell","sign","more"] (bS K c)) (Bs:MCal P w K mg base d d.ok 1 "place" ["self"] (dC K c d)) (Br:MCal P w K mg base d d.ok 1 "rules" ["self"] (dD K c d)) {f:Addr} {fd:FuncData} (F:Fun K "strikes_by_region" "strikes_by_region" bA f fd) (hm:mg "strikes_by_region"=some (.ref f)):Cal P w K mg base 6 "strikes_by_region" ["puzzle","masks","thought"] (aY K c d):=
 ⟨f,fd,lL B BE BB BN Bs Br F,hm,F.kp,F.binds (ps:=["puzzle","masks","thought"]) fun _ _ _ _ _ _ us hl=>match us,hl with | [_,_,_],_=>rfl⟩
abbrev dN:Stmt:=top 101
theorem sc_read_rules:ay ["floor","lines"] ["floor","lines"] (af dN):=⟨rfl,rfl,rfl,by decide+kernel,rfl,by decide+kernel,by decide+kernel⟩
set_option maxHeartbeats 4000000 in
theorem rQ {P:Program} {w:World} {K:PySem.W.Frag} {mg:Str→Option Value} {base:Heap} (B:Bt2 mg) {c:RCl RK} (CH:Cal P w K mg base 5 "read_rule" ["floor","line"] (cV K c)) {t_MOST_RULES:Tok} (Cg:mg "MOST_RULES"=some (.int 12 t_MOST_RULES)) {f:Addr} {fd:FuncData} (F:Fun K "read_rules" "read_rules" dN f fd):FnOk P w K mg base CX0 6 f fd ["floor","lines"] (de K c):=by
 refine F.ok sc_read_rules (fun vs H Q E h=>rl h) (fun cdv A outer s H vs Q E hr h=>?_)
 have hu:=hr.units
 have nd:=sc_read_rules.nd
 refine ⟨hV K c,?_,rm h⟩
 exact (ae (aD (ap eX (aB aH rfl B.len_ aR (ab (pv 1) ac)) (eJ rfl Cg ⟨t_MOST_RULES,rfl⟩) (ao _)) (ag b8) au)
   (ag (ak (cC (ix:=[none,none,some 0]) [".0","line","floor"] (bp rfl (by decide+kernel) rfl rfl rfl) rfl (bC (pv 1)) (fun cl s H fp=>(aJ (i:=1) (show ([".0","line","floor"]:List Str).Nodup by decide+kernel) rfl (Or.inl rfl))) (fun cl s H fp=>eQ) (fun cl s H fp=>(am CH hr (by decide) rfl (ab (pv 2) (ab (pv 1) ac))))))))
theorem rR {P:Program} {w:World} {K:PySem.W.Frag} {mg:Str→Option Value} {base:Heap} (B:Bt2 mg) {c:RCl RK} (CH:Cal P w K mg base 5 "read_rule" ["floor","line"] (cV K c)) {t_MOST_RULES:Tok} (Cg:mg "MOST_RULES"=some (.int 12 t_MOST_RULES)) {f:Addr} {fd:FuncData} (F:Fun K "read_rules" "read_rules" dN f fd) (hm:mg "read_rules"=some (.ref f)):Cal P w K mg base 6 "read_rules" ["floor","lines"] (de K c):=
 ⟨f,fd,rQ B CH Cg F,hm,F.kp,F.binds (ps:=["floor","lines"]) fun _ _ _ _ _ _ us hl=>match us,hl with | [_,_],_=>rfl⟩
abbrev gL:Stmt:=top 71
theorem sc_strikes:ay ["puzzle","masks","thought"] ["puzzle","masks","thought"] (af gL):=⟨rfl,rfl,rfl,by decide+kernel,rfl,by decide+kernel,by decide+kernel⟩
set_option maxHeartbeats 4000000 in
theorem wB {P:Program} {w:World} {K:PySem.W.Frag} {mg:Str→Option Value} {base:Heap} (B:Bt2 mg) {c:RCl RK} {d:RCl PzK} (Bu:Cal P w K mg base 5 "strikes_by_line" ["puzzle","masks","thought"] (bd K c d)) (Bp:Cal P w K mg base 6 "strikes_by_region" ["puzzle","masks","thought"] (aY K c d)) (G_LINE_KINDS:GTup K mg "LINE_KINDS" fP) (G_NUMBER_KINDS:GTup K mg "NUMBER_KINDS" d2) {f:Addr} {fd:FuncData} (F:Fun K "strikes" "strikes" gL f fd):FnOk P w K mg base CX0 7 f fd ["puzzle","masks","thought"] (cY K c d):=by
 refine F.ok sc_strikes (fun vs H Q E h=>tG h) (fun cdv A outer s H vs Q E hr h=>?_)
 have hu:=hr.units
 have nd:=sc_strikes.nd
 refine ⟨iX K c d,?_,tH h⟩
 exact (ae (aD (pc G_LINE_KINDS (aj (aw hu) (pv 2) ad (fun _ _=>rfl)) rfl) (ag (ak (am Bu hr (by decide) rfl (ab (pv 0) (ab (pv 1) (ab (pv 2) ac)))))) au)
   (ae (aD (pc G_NUMBER_KINDS (aj (aw hu) (pv 2) ad (fun _ _=>rfl)) rfl) (ag (ak qV)) au)
   (ag (ak (am Bp hr (by decide) rfl (ab (pv 0) (ab (pv 1) (ab (pv 2) ac))))))))
theorem wC {P:Program} {w:World} {K:PySem.W.Frag} {mg:Str→Option Value} {base:Heap} (B:Bt2 mg) {c:RCl RK} {d:RCl PzK} (Bu:Cal P w K mg base 5 "strikes_by_line" ["puzzle","masks","thought"] (bd K c d)) (Bp:Cal P w K mg base 6 "strikes_by_region" ["puzzle","masks","thought"] (aY K c d)) (G_LINE_KINDS:GTup K mg "LINE_KINDS" fP) (G_NUMBER_KINDS:GTup K mg "NUMBER_KINDS" d2) {f:Addr} {fd:FuncData} (F:Fun K "strikes" "strikes" gL f fd) (hm:mg "strikes"=some (.ref f)):Cal P w K mg base 7 "strikes" ["puzzle","masks","thought"] (cY K c d):=
 ⟨f,fd,wB B Bu Bp G_LINE_KINDS G_NUMBER_KINDS F,hm,F.kp,F.binds (ps:=["puzzle","masks","thought"]) fun _ _ _ _ _ _ us hl=>match us,hl with | [_,_,_],_=>rfl⟩
abbrev cu:Stmt:=mtop 104 0
theorem sc_Puzzle___init__:ay ["self","floor","lines","clues"] ["self","floor","lines","clues"] (af cu):=⟨rfl,rfl,rfl,by decide+kernel,rfl,by decide+kernel,by decide+kernel⟩
set_option maxHeartbeats 4000000 in
theorem mO {P:Program} {w:World} {K:PySem.W.Frag} {mg:Str→Option Value} {base:Heap} (B:Bt2 mg) {c:RCl RK} {d:RCl PzK} (C5:Cal P w K mg base 3 "checked_clues" ["floor","clues"] (bV K)) (C6:Cal P w K mg base 4 "checked_floor" ["floor"] (bU K)) (D7:Cal P w K mg base 6 "read_rules" ["floor","lines"] (de K c)) (FK_d_floor:FldK K d "floor") (FK_d_given:FldK K d "given") (FK_d_laws:FldK K d "laws") {f:Addr} {fd:FuncData} (F:Fun K "__init__" "Puzzle.__init__" cu f fd):FnOk P w K mg base CX0 7 f fd ["self","floor","lines","clues"] (ba K c d):=by
 refine F.ok sc_Puzzle___init__ (fun vs H Q E h=>mt h) (fun cdv A outer s H vs Q E hr h=>?_)
 have hu:=hr.units
 have nd:=sc_Puzzle___init__.nd
 refine ⟨dY K c d,?_,mw h⟩
 exact (ae (il (pv 0) (am C6 hr (by decide) rfl (ab (pv 1) ac)) FK_d_floor)
   (ae (il (pv 0) (am D7 hr (by decide) rfl (ab (ik (pv 0) FK_d_floor) (ab (pv 2) ac))) FK_d_laws)
   (ag (il (pv 0) (am C5 hr (by decide) rfl (ab (ik (pv 0) FK_d_floor) (ab (pv 3) ac))) FK_d_given))))
abbrev gM:Stmt:=top 72
theorem sc_allowed:ay ["puzzle","masks","thought"] ["puzzle","masks","thought"] (af gM):=⟨rfl,rfl,rfl,by decide+kernel,rfl,by decide+kernel,by decide+kernel⟩
set_option maxHeartbeats 4000000 in
theorem wD {P:Program} {w:World} {K:PySem.W.Frag} {mg:Str→Option Value} {base:Heap} (B:Bt2 mg) {c:RCl RK} {d:RCl PzK} (CI:Cal P w K mg base 4 "is_formed" ["puzzle","thought"] (cW K c d)) (Dz:Cal P w K mg base 7 "strikes" ["puzzle","masks","thought"] (cY K c d)) {f:Addr} {fd:FuncData} (F:Fun K "allowed" "allowed" gM f fd):FnOk P w K mg base CX0 8 f fd ["puzzle","masks","thought"] (cZ K c d):=by
 refine F.ok sc_allowed (fun vs H Q E h=>tI h) (fun cdv A outer s H vs Q E hr h=>?_)
 have hu:=hr.units
 have nd:=sc_allowed.nd
 refine ⟨iZ K c d,?_,tJ h⟩
 exact (ag (ak (bK (am CI hr (by decide) rfl (ab (pv 0) (ab (pv 2) ac))) (cO (am Dz hr (by decide) rfl (ab (pv 0) (ab (pv 1) (ab (pv 2) ac))))))))
theorem wE {P:Program} {w:World} {K:PySem.W.Frag} {mg:Str→Option Value} {base:Heap} (B:Bt2 mg) {c:RCl RK} {d:RCl PzK} (CI:Cal P w K mg base 4 "is_formed" ["puzzle","thought"] (cW K c d)) (Dz:Cal P w K mg base 7 "strikes" ["puzzle","masks","thought"] (cY K c d)) {f:Addr} {fd:FuncData} (F:Fun K "allowed" "allowed" gM f fd) (hm:mg "allowed"=some (.ref f)):Cal P w K mg base 8 "allowed" ["puzzle","masks","thought"] (cZ K c d):=
 ⟨f,fd,wD B CI Dz F,hm,F.kp,F.binds (ps:=["puzzle","masks","thought"]) fun _ _ _ _ _ _ us hl=>match us,hl with | [_,_,_],_=>rfl⟩
abbrev dg:Stmt:=top 112
theorem sc__law_puzzle:ay ["_law_script","_law_floor_here","_law_lists_here","_law_goals","_law_lines","_law_clues"] ["_law_script","_law_floor_here","_law_lists_here","_law_goals"] (af dg):=⟨rfl,rfl,rfl,by decide+kernel,rfl,by decide+kernel,by decide+kernel⟩
set_option maxHeartbeats 4000000 in
theorem qE {P:Program} {w:World} {K:PySem.W.Frag} {mg:Str→Option Value} {base:Heap} (B:Bt2 mg) {c:RCl RK} {d:RCl PzK} (Ba:Cal P w K mg base 1 "_law_cell_at" ["_law_script","_law_k"] (aA K)) (D8:KCal P w K mg base 7 "Puzzle" (d.A .Puzzle) ["self","floor","lines","clues"] (ba K c d)) {f:Addr} {fd:FuncData} (F:Fun K "_law_puzzle" "_law_puzzle" dg f fd):FnOk P w K mg base CX0 9 f fd ["_law_script","_law_floor_here","_law_lists_here","_law_goals"] (bW K c d):=by
 refine F.ok sc__law_puzzle (fun vs H Q E h=>oj h) (fun cdv A outer s H vs Q E hr h=>?_)
 have hu:=hr.units
 have nd:=sc__law_puzzle.nd
 refine ⟨fD K c d,?_,om h⟩
 exact (ae (i8 (k:=4) nd rfl (Or.inl rfl) rfl (ix:=[none,none]) [".0","_law_cells_here"] (bp rfl (by decide+kernel) rfl rfl rfl) rfl (bC (pv 2)) (fun cl s H fp=>(aJ (i:=1) (show ([".0","_law_cells_here"]:List Str).Nodup by decide+kernel) rfl (Or.inl rfl))) (fun cl s H fp=>eQ) (fun cl s H fp=>(ai aF aT (cz PySem.F.plainAttrs_str PySem.F.slot_str_join PySem.F.type_str_join xz aT (ab (cC (ix:=[none,none]) [".0","_law_one"] (bp rfl (by decide+kernel) rfl rfl rfl) rfl (bC (pv 1)) (fun cl s H fp=>(aJ (i:=1) (show ([".0","_law_one"]:List Str).Nodup by decide+kernel) rfl (Or.inl rfl))) (fun cl s H fp=>eQ) (fun cl s H fp=>(cP kF rfl B.str_ ma (ab (pv 1) ac)))) ac)))))
   (ae (az (i:=4) nd rfl (Or.inl rfl) (ai aF (pv 4) (aS (ab (ai aF aT (cP kF rfl B.str_ ma (ab (aj (aw hu) (pv 3) ad (fun _ _=>rfl)) ac))) (ab (ai aF aT (cP kF rfl B.str_ ma (ab (aj (aw hu) (pv 3) ad (fun _ _=>rfl)) ac))) (ab (ai aF aT (cP kF rfl B.str_ ma (ab (aj (aw hu) (pv 3) ad (fun _ _=>rfl)) ac))) ac))))))
   (ae (i8 (k:=5) nd rfl (Or.inl rfl) rfl (ix:=[none,none,some 1,some 0]) [".0","_law_k","_law_floor_here","_law_script"] (bp rfl (by decide+kernel) rfl rfl rfl) rfl (cw rfl B.range_ (ab (ai cr (aj (aw hu) (pv 1) ad (fun _ _=>rfl)) (aj (aw hu) (pv 1) ad (fun _ _=>rfl))) ac)) (fun cl s H fp=>(aJ (i:=1) (show ([".0","_law_k","_law_floor_here","_law_script"]:List Str).Nodup by decide+kernel) rfl (Or.inl rfl))) (fun cl s H fp=>eQ) (fun cl s H fp=>(ai aO (ai bo (am Ba hr (by decide) rfl (ab (pv 3) (ab (ai aF ad (pv 1)) ac))) ad) (ai aF (aj (aw hu) (pv 2) ad (fun _ _=>rfl)) ad))))
   (ag (ak (jY D8 hr (by decide) rfl (ab (pv 1) (ab (pv 4) (ab (pv 5) ac)))))))))
theorem qF {P:Program} {w:World} {K:PySem.W.Frag} {mg:Str→Option Value} {base:Heap} (B:Bt2 mg) {c:RCl RK} {d:RCl PzK} (Ba:Cal P w K mg base 1 "_law_cell_at" ["_law_script","_law_k"] (aA K)) (D8:KCal P w K mg base 7 "Puzzle" (d.A .Puzzle) ["self","floor","lines","clues"] (ba K c d)) {f:Addr} {fd:FuncData} (F:Fun K "_law_puzzle" "_law_puzzle" dg f fd) (hm:mg "_law_puzzle"=some (.ref f)):Cal P w K mg base 9 "_law_puzzle" ["_law_script","_law_floor_here","_law_lists_here","_law_goals"] (bW K c d):=
 ⟨f,fd,qE B Ba D8 F,hm,F.kp,F.binds (ps:=["_law_script","_law_floor_here","_law_lists_here","_law_goals"]) fun _ _ _ _ _ _ us hl=>match us,hl with | [_,_,_,_],_=>rfl⟩
abbrev j8:Stmt:=top 118
theorem sc_law:ay ["_law_script","_law_floor_here","_law_many","_law_lists_here","_law_k","_law_goals","_law_puzzle_here","_law_masks_here","_law_less","_law_number","_law_cell","_law_sign","_law_some","_law_thought","_law_one","_law_other"] ["_law_script"] (af j8):=⟨rfl,rfl,rfl,by decide+kernel,rfl,by decide+kernel,by decide+kernel⟩
set_option maxHeartbeats 4000000 in
theorem AB {P:Program} {w:World} {K:PySem.W.Frag} {mg:Str→Option Value} {base:Heap} (B:Bt2 mg) {c:RCl RK} {d:RCl PzK} (C7:Cal P w K mg base 1 "_law_by_lines" ["_law_number","_law_lists_here","_law_cell","_law_sign","_law_signs"] (bI K)) (Cl:Cal P w K mg base 2 "_law_by_regions" ["_law_number","_law_floor_here","_law_masks_here","_law_goals","_law_cell","_law_sign"] (br K)) (Ba:Cal P w K mg base 1 "_law_cell_at" ["_law_script","_law_k"] (aA K)) (D9:Cal P w K mg base 1 "_law_floor" ["_law_cell"] (cc K)) (Ea:Cal P w K mg base 3 "_law_lists" ["_law_script","_law_floor_here"] (cf K)) (Eb:Cal P w K mg base 2 "_law_masks" ["_law_script","_law_at","_law_many","_law_signs"] (ce K)) (DA:Cal P w K mg base 9 "_law_puzzle" ["_law_script","_law_floor_here","_law_lists_here","_law_goals"] (bW K c d)) (Ec:Cal P w K mg base 2 "_law_split" ["_law_script","_law_masks_here","_law_sign"] (cg K)) (DB:Cal P w K mg base 2 "_law_within" ["_law_script","_law_masks_here"] (bX K)) (Em:Cal P w K mg base 8 "allowed" ["puzzle","masks","thought"] (cZ K c d)) {f:Addr} {fd:FuncData} (F:Fun K "law" "law" j8 f fd):FnOk P w K mg base CX0 10 f fd ["_law_script"] (tS K c d):=by
 refine F.ok sc_law (fun vs H Q E h=>Az h) (fun cdv A outer s H vs Q E hr h=>?_)
 have hu:=hr.units
 have nd:=sc_law.nd
 refine ⟨pW K c d,?_,AA h⟩
 exact (ae (az (i:=1) nd rfl (Or.inr rfl) (am D9 hr (by decide) rfl (ab (am Ba hr (by decide) rfl (ab (pv 0) (ab ad ac))) ac)))
   (ae (az (i:=2) nd rfl (Or.inl rfl) (ai cr (aj (aw hu) (pv 1) ad (fun _ _=>rfl)) (aj (aw hu) (pv 1) ad (fun _ _=>rfl))))
   (ae (az (i:=3) nd rfl (Or.inl rfl) (am Ea hr (by decide) rfl (ab (pv 0) (ab (pv 1) ac))))
   (ae (i8 (k:=5) nd rfl (Or.inl rfl) rfl (ix:=[none,none,some 1,some 0]) [".0","_law_k","_law_floor_here","_law_script"] (bp rfl (by decide+kernel) rfl rfl rfl) rfl (cw rfl B.range_ (ab ad ac)) (fun cl s H fp=>(aJ (i:=1) (show ([".0","_law_k","_law_floor_here","_law_script"]:List Str).Nodup by decide+kernel) rfl (Or.inl rfl))) (fun cl s H fp=>eQ) (fun cl s H fp=>(ai aF ad (ai aO (am Ba hr (by decide) rfl (ab (pv 3) (ab (ai aF ad (pv 1)) ac))) (aj (aw hu) (pv 2) ad (fun _ _=>rfl))))))
   (ae (az (i:=6) nd rfl (Or.inl rfl) (am DA hr (by decide) rfl (ab (pv 0) (ab (pv 1) (ab (pv 3) (ab (pv 5) ac))))))
   (ae (az (i:=7) nd rfl (Or.inl rfl) (am Ec hr (by decide) rfl (ab (pv 0) (ab (am Eb hr (by decide) rfl (ab (pv 0) (ab ad (ab (pv 2) (ab (aj (aw hu) (pv 1) ad (fun _ _=>rfl)) ac))))) (ab (aj (aw hu) (pv 5) (ai aO (ai bo (am Ba hr (by decide) rfl (ab (pv 0) (ab ad ac))) ad) ad) (fun _ _=>rfl)) ac)))))
   (ae (az (i:=8) nd rfl (Or.inl rfl) (am DB hr (by decide) rfl (ab (pv 0) (ab (pv 7) ac))))
   (ae (eP PassesOwn.never rfl (cw rfl B.range_ (ab ad ac)) (aJ (i:=4) nd rfl (Or.inl rfl))
   (ae (az (i:=9) nd rfl (Or.inl rfl) (am Ba hr (by decide) rfl (ab (pv 0) (ab (ai aF ad (pv 4)) ac))))
   (ae (az (i:=10) nd rfl (Or.inl rfl) (ai aO (pv 9) (pv 2)))
   (ae (az (i:=11) nd rfl (Or.inl rfl) (ai aF ad (ai aO (ai bo (pv 9) ad) (aj (aw hu) (pv 1) ad (fun _ _=>rfl)))))
   (ae (az (i:=12) nd rfl (Or.inl rfl) (am C7 hr (by decide) rfl (ab (ai bo (pv 9) ad) (ab (pv 3) (ab (pv 10) (ab (pv 11) (ab (aj (aw hu) (pv 1) ad (fun _ _=>rfl)) ac)))))))
   (ag (eP PassesOwn.never rfl (bC (ai aF (pv 12) (am Cl hr (by decide) rfl (ab (ai bo (pv 9) ad) (ab (pv 1) (ab (pv 7) (ab (pv 5) (ab (pv 10) (ab (pv 11) ac))))))))) (aJ (i:=13) nd rfl (Or.inl rfl))
   (ae (az (i:=14) nd rfl (Or.inl rfl) (am Em hr (by decide) rfl (ab (pv 6) (ab (pv 7) (ab (pv 13) ac)))))
   (ae (az (i:=15) nd rfl (Or.inl rfl) (am Em hr (by decide) rfl (ab (pv 6) (ab (pv 8) (ab (pv 13) ac)))))
   (ag (aD (PW.pt (cM (b4 (bg (aB dR rfl B.isinstance_ bT (ab (pv 14) (ab (gN (v:=.ty "bool") rfl B.bool_ qp rfl) ac))))) (cM (b4 (bg (aB dR rfl B.isinstance_ bT (ab (pv 15) (ab (gN (v:=.ty "bool") rfl B.bool_ qp rfl) ac))))) (dy (PW.pt (fN (bg (pv 14)) (eK (b4 (bg (pv 15)))))))))) (ag (ak eu)) au)))))))))))
   (ag (ak eu))))))))))
def mkC (A3 A9 A4 A7 A6 A5 A2 A8:Addr):RCl RK:=⟨fun k=>match k with | .Rule=>A3 | .Unlike=>A3 | .Sum=>A9 | .Rising=>A4 | .Seen=>A7 | .Count=>A6 | .Joined=>A5 | .NoSquare=>A2 | .Ring=>A8,fun k=>match k with | .Rule=>false | _=>true⟩
def mkD (Bb:Addr):RCl PzK:=⟨fun _=>Bb,fun _=>true⟩
set_option maxHeartbeats 40000000 in
theorem AC {l:PySem.W.OpenLaw} {w:World} {K:PySem.W.Frag} {h:Heap} {mg:Str→Option Value} {fa:Addr} (X:K.In h) (G:h.Ns mainGlobals mg) (hfa:mg "law"=some (.ref fa))
  {f0:Addr} {od0 an0:Option Addr} {sl0:Array (Option Value)} {oc0 kV0 dc0 pm0 cd0 ct0:Value} {f1:Addr} {od1 an1:Option Addr} {sl1:Array (Option Value)} {oc1 kV1 dc1 pm1 cd1 ct1:Value} {f2:Addr} {od2 an2:Option Addr} {sl2:Array (Option Value)} {oc2 kV2 dc2 pm2 cd2 ct2:Value} {f3:Addr} {od3 an3:Option Addr} {sl3:Array (Option Value)} {oc3 kV3 dc3 pm3 cd3 ct3:Value} {f4:Addr} {od4 an4:Option Addr} {sl4:Array (Option Value)} {oc4 kV4 dc4 pm4 cd4 ct4:Value} {f5:Addr} {od5 an5:Option Addr} {sl5:Array (Option Value)} {oc5 kV5 dc5 pm5 cd5 ct5:Value} {f6:Addr} {od6 an6:Option Addr} {sl6:Array (Option Value)} {oc6 kV6 dc6 pm6 cd6 ct6:Value} {f7:Addr} {od7 an7:Option Addr} {sl7:Array (Option Value)} {oc7 kV7 dc7 pm7 cd7 ct7:Value} {f8:Addr} {od8 an8:Option Addr} {sl8:Array (Option Value)} {oc8 kV8 dc8 pm8 cd8 ct8:Value} {f9:Addr} {od9 an9:Option Addr} {sl9:Array (Option Value)} {oc9 kV9 dc9 pm9 cd9 ct9:Value} {f10:Addr} {od10 an10:Option Addr} {sl10:Array (Option Value)} {oc10 kV10 dc10 pm10 cd10 ct10:Value} {f11:Addr} {od11 an11:Option Addr} {sl11:Array (Option Value)} {oc11 kV11 dc11 pm11 cd11 ct11:Value} {f12:Addr} {od12 an12:Option Addr} {sl12:Array (Option Value)} {oc12 kV12 dc12 pm12 cd12 ct12:Value} {f13:Addr} {od13 an13:Option Addr} {sl13:Array (Option Value)} {oc13 kV13 dc13 pm13 cd13 ct13:Value} {f14:Addr} {od14 an14:Option Addr} {sl14:Array (Option Value)} {oc14 kV14 dc14 pm14 cd14 ct14:Value} {f15:Addr} {od15 an15:Option Addr} {sl15:Array (Option Value)} {oc15 kV15 dc15 pm15 cd15 ct15:Value} {f16:Addr} {od16 an16:Option Addr} {sl16:Array (Option Value)} {oc16 kV16 dc16 pm16 cd16 ct16:Value} {f17:Addr} {od17 an17:Option Addr} {sl17:Array (Option Value)} {oc17 kV17 dc17 pm17 cd17 ct17:Value} {f18:Addr} {od18 an18:Option Addr} {sl18:Array (Option Value)} {oc18 kV18 dc18 pm18 cd18 ct18:Value} {f19:Addr} {od19 an19:Option Addr} {sl19:Array (Option Value)} {oc19 kV19 dc19 pm19 cd19 ct19:Value} {f20:Addr} {od20 an20:Option Addr} {sl20:Array (Option Value)} {oc20 kV20 dc20 pm20 cd20 ct20:Value} {f21:Addr} {od21 an21:Option Addr} {sl21:Array (Option Value)} {oc21 kV21 dc21 pm21 cd21 ct21:Value} {f22:Addr} {od22 an22:Option Addr} {sl22:Array (Option Value)} {oc22 kV22 dc22 pm22 cd22 ct22:Value} {f23:Addr} {od23 an23:Option Addr} {sl23:Array (Option Value)} {oc23 kV23 dc23 pm23 cd23 ct23:Value} {f24:Addr} {od24 an24:Option Addr} {sl24:Array (Option Value)} {oc24 kV24 dc24 pm24 cd24 ct24:Value} {f25:Addr} {od25 an25:Option Addr} {sl25:Array (Option Value)} {oc25 kV25 dc25 pm25 cd25 ct25:Value} {f26:Addr} {od26 an26:Option Addr} {sl26:Array (Option Value)} {oc26 kV26 dc26 pm26 cd26 ct26:Value} {f27:Addr} {od27 an27:Option Addr} {sl27:Array (Option Value)} {oc27 kV27 dc27 pm27 cd27 ct27:Value} {f28:Addr} {od28 an28:Option Addr} {sl28:Array (Option Value)} {oc28 kV28 dc28 pm28 cd28 ct28:Value} {f29:Addr} {od29 an29:Option Addr} {sl29:Array (Option Value)} {oc29 kV29 dc29 pm29 cd29 ct29:Value} {f30:Addr} {od30 an30:Option Addr} {sl30:Array (Option Value)} {oc30 kV30 dc30 pm30 cd30 ct30:Value} {f31:Addr} {od31 an31:Option Addr} {sl31:Array (Option Value)} {oc31 kV31 dc31 pm31 cd31 ct31:Value} {f32:Addr} {od32 an32:Option Addr} {sl32:Array (Option Value)} {oc32 kV32 dc32 pm32 cd32 ct32:Value} {f33:Addr} {od33 an33:Option Addr} {sl33:Array (Option Value)} {oc33 kV33 dc33 pm33 cd33 ct33:Value} {f34:Addr} {od34 an34:Option Addr} {sl34:Array (Option Value)} {oc34 kV34 dc34 pm34 cd34 ct34:Value} {f35:Addr} {od35 an35:Option Addr} {sl35:Array (Option Value)} {oc35 kV35 dc35 pm35 cd35 ct35:Value} {f36:Addr} {od36 an36:Option Addr} {sl36:Array (Option Value)} {oc36 kV36 dc36 pm36 cd36 ct36:Value} {f37:Addr} {od37 an37:Option Addr} {sl37:Array (Option Value)} {oc37 kV37 dc37 pm37 cd37 ct37:Value} {f38:Addr} {od38 an38:Option Addr} {sl38:Array (Option Value)} {oc38 kV38 dc38 pm38 cd38 ct38:Value} {f39:Addr} {od39 an39:Option Addr} {sl39:Array (Option Value)} {oc39 kV39 dc39 pm39 cd39 ct39:Value} {f40:Addr} {od40 an40:Option Addr} {sl40:Array (Option Value)} {oc40 kV40 dc40 pm40 cd40 ct40:Value} {f41:Addr} {od41 an41:Option Addr} {sl41:Array (Option Value)} {oc41 kV41 dc41 pm41 cd41 ct41:Value} {f42:Addr} {od42 an42:Option Addr} {sl42:Array (Option Value)} {oc42 kV42 dc42 pm42 cd42 ct42:Value} {f43:Addr} {od43 an43:Option Addr} {sl43:Array (Option Value)} {oc43 kV43 dc43 pm43 cd43 ct43:Value} {f44:Addr} {od44 an44:Option Addr} {sl44:Array (Option Value)} {oc44 kV44 dc44 pm44 cd44 ct44:Value} {f45:Addr} {od45 an45:Option Addr} {sl45:Array (Option Value)} {oc45 kV45 dc45 pm45 cd45 ct45:Value} {f46:Addr} {od46 an46:Option Addr} {sl46:Array (Option Value)} {oc46 kV46 dc46 pm46 cd46 ct46:Value} {f47:Addr} {od47 an47:Option Addr} {sl47:Array (Option Value)} {oc47 kV47 dc47 pm47 cd47 ct47:Value} {f48:Addr} {od48 an48:Option Addr} {sl48:Array (Option Value)} {oc48 kV48 dc48 pm48 cd48 ct48:Value} {f49:Addr} {od49 an49:Option Addr} {sl49:Array (Option Value)} {oc49 kV49 dc49 pm49 cd49 ct49:Value} {f50:Addr} {od50 an50:Option Addr} {sl50:Array (Option Value)} {oc50 kV50 dc50 pm50 cd50 ct50:Value} {f51:Addr} {od51 an51:Option Addr} {sl51:Array (Option Value)} {oc51 kV51 dc51 pm51 cd51 ct51:Value} {f52:Addr} {od52 an52:Option Addr} {sl52:Array (Option Value)} {oc52 kV52 dc52 pm52 cd52 ct52:Value} {f53:Addr} {od53 an53:Option Addr} {sl53:Array (Option Value)} {oc53 kV53 dc53 pm53 cd53 ct53:Value} {f54:Addr} {od54 an54:Option Addr} {sl54:Array (Option Value)} {oc54 kV54 dc54 pm54 cd54 ct54:Value} {f55:Addr} {od55 an55:Option Addr} {sl55:Array (Option Value)} {oc55 kV55 dc55 pm55 cd55 ct55:Value} {f56:Addr} {od56 an56:Option Addr} {sl56:Array (Option Value)} {oc56 kV56 dc56 pm56 cd56 ct56:Value} {f57:Addr} {od57 an57:Option Addr} {sl57:Array (Option Value)} {oc57 kV57 dc57 pm57 cd57 ct57:Value} {f58:Addr} {od58 an58:Option Addr} {sl58:Array (Option Value)} {oc58 kV58 dc58 pm58 cd58 ct58:Value} {f59:Addr} {od59 an59:Option Addr} {sl59:Array (Option Value)} {oc59 kV59 dc59 pm59 cd59 ct59:Value} {f60:Addr} {od60 an60:Option Addr} {sl60:Array (Option Value)} {oc60 kV60 dc60 pm60 cd60 ct60:Value} {f61:Addr} {od61 an61:Option Addr} {sl61:Array (Option Value)} {oc61 kV61 dc61 pm61 cd61 ct61:Value} {f62:Addr} {od62 an62:Option Addr} {sl62:Array (Option Value)} {oc62 kV62 dc62 pm62 cd62 ct62:Value} {f63:Addr} {od63 an63:Option Addr} {sl63:Array (Option Value)} {oc63 kV63 dc63 pm63 cd63 ct63:Value} {f64:Addr} {od64 an64:Option Addr} {sl64:Array (Option Value)} {oc64 kV64 dc64 pm64 cd64 ct64:Value} {f65:Addr} {od65 an65:Option Addr} {sl65:Array (Option Value)} {oc65 kV65 dc65 pm65 cd65 ct65:Value} {f66:Addr} {od66 an66:Option Addr} {sl66:Array (Option Value)} {oc66 kV66 dc66 pm66 cd66 ct66:Value} {f67:Addr} {od67 an67:Option Addr} {sl67:Array (Option Value)} {oc67 kV67 dc67 pm67 cd67 ct67:Value} {f68:Addr} {od68 an68:Option Addr} {sl68:Array (Option Value)} {oc68 kV68 dc68 pm68 cd68 ct68:Value} {f69:Addr} {od69 an69:Option Addr} {sl69:Array (Option Value)} {oc69 kV69 dc69 pm69 cd69 ct69:Value} {f70:Addr} {od70 an70:Option Addr} {sl70:Array (Option Value)} {oc70 kV70 dc70 pm70 cd70 ct70:Value} {A3 A9 A4 A7 A6 A5 A2 A8 Bb:Addr} {FT:Addr} {G6:Option Addr} {G7:Nat} {G8:Array (Option Value)} {G9 Ha Hb Hc Hd He t6_KINDS t7_KINDS t8_KINDS t9_KINDS t10_KINDS:Tok} {DC:Addr} {GP:Option Addr} {GQ:Nat} {GR:Array (Option Value)} {GS GT GU GV GW:Tok} {C8:Addr} {Go:Option Addr} {Gp:Nat} {Gq:Array (Option Value)} {Gr Gs Gu:Tok} {C9:Addr} {Gv:Option Addr} {Gw:Nat} {Gx:Array (Option Value)} {Gy Gz GA:Tok} {Dl:Addr} {GB:Option Addr} {GC:Nat} {GD:Array (Option Value)} {GE GF GG:Tok} {Ed:Addr} {GX:Option Addr} {GY:Nat} {GZ:Array (Option Value)} {G0 G1 G2 G3:Tok} {CJ:Addr} {FU:Nat} {DJ:Int} {FB:Tok} {DK:Addr} {Fa:Option Addr} {FC:Nat} {Fb:Array (Option Value)} {EV:Tok} {DL:Int} {FD:Tok} {DM:Addr} {Fc:Option Addr} {FE:Nat} {Fd:Array (Option Value)} {EW:Tok} {DN:Int} {FF:Tok} {DO:Addr} {Fe:Option Addr} {FG:Nat} {Ff:Array (Option Value)} {EX:Tok} {DP:Int} {FH:Tok} {DQ:Addr} {Fg:Option Addr} {FI:Nat} {Fh:Array (Option Value)} {EY:Tok} {DR:Int} {FJ:Tok} {DS:Addr} {Fi:Option Addr} {FK:Nat} {Fj:Array (Option Value)} {EZ:Tok} {DT:Int} {FL:Tok} {DU:Addr} {Fk:Option Addr} {FM:Nat} {Fl:Array (Option Value)} {E2:Tok} {DW:Int} {FN:Tok} {DX:Addr} {Fm:Option Addr} {FO:Nat} {Fn:Array (Option Value)} {E3 E4:Tok} {DY:Int} {FP:Tok} {DZ:Addr} {Fo:Option Addr} {FQ:Nat} {Fp:Array (Option Value)} {E5:Tok} {D0:Int} {FR:Tok} {D1:Addr} {Fq:Option Addr} {FS:Nat} {Fr:Array (Option Value)} {E6:Tok} {tk_FIGURES:Tok} {tk_MOST_CELLS:Tok} {tk_MOST_FIGURES:Tok} {tk_MOST_NUMBER:Tok} {tk_MOST_RULES:Tok} {tk_MOST_SIDE:Tok} {tk_MOST_SIGNS:Tok}
  (FV:PySem.W.nsIn K mainGlobals "Unlike"=some (some (.ref A3))) (q_Sum:PySem.W.nsIn K mainGlobals "Sum"=some (some (.ref A9))) (FW:PySem.W.nsIn K mainGlobals "Rising"=some (some (.ref A4))) (G4:PySem.W.nsIn K mainGlobals "Seen"=some (some (.ref A7))) (GH:PySem.W.nsIn K mainGlobals "Count"=some (some (.ref A6))) (FX:PySem.W.nsIn K mainGlobals "Joined"=some (some (.ref A5))) (Ep:PySem.W.nsIn K mainGlobals "NoSquare"=some (some (.ref A2))) (G5:PySem.W.nsIn K mainGlobals "Ring"=some (some (.ref A8))) (FY:PySem.W.nsIn K mainGlobals "Puzzle"=some (some (.ref Bb))) (a0:PySem.W.nsIn K mainGlobals "is_whole"=some (some (.ref f0))) (a1:PySem.W.nsIn K mainGlobals "many_cells"=some (some (.ref f1))) (a2:PySem.W.nsIn K mainGlobals "spot_of"=some (some (.ref f2))) (a3:PySem.W.nsIn K mainGlobals "square_at"=some (some (.ref f3))) (a4:PySem.W.nsIn K mainGlobals "bit_of"=some (some (.ref f4))) (a5:PySem.W.nsIn K mainGlobals "stands"=some (some (.ref f5))) (a6:PySem.W.nsIn K mainGlobals "masks_at"=some (some (.ref f6))) (a7:PySem.W.nsIn K mainGlobals "clue_strikes"=some (some (.ref f7))) (a8:PySem.W.nsIn K mainGlobals "are_told_in_order"=some (some (.ref f8))) (Er:PySem.W.findIn K (.ref A3) "__init__"=some (some (.ref f9))) (GI:PySem.W.findIn K (.ref A9) "__init__"=some (some (.ref f9))) (Es:PySem.W.findIn K (.ref A4) "__init__"=some (some (.ref f9))) (FZ:PySem.W.findIn K (.ref A7) "__init__"=some (some (.ref f9))) (Fs:PySem.W.findIn K (.ref A6) "__init__"=some (some (.ref f9))) (Et:PySem.W.findIn K (.ref A5) "__init__"=some (some (.ref f9))) (Ee:PySem.W.findIn K (.ref A2) "__init__"=some (some (.ref f9))) (Ga:PySem.W.findIn K (.ref A8) "__init__"=some (some (.ref f9))) (a10_Unlike:PySem.W.findIn K (.ref A3) "name"=some (some (.ref f10))) (a10_Sum:PySem.W.findIn K (.ref A9) "name"=some (some (.ref f10))) (a10_Rising:PySem.W.findIn K (.ref A4) "name"=some (some (.ref f10))) (a10_Seen:PySem.W.findIn K (.ref A7) "name"=some (some (.ref f10))) (a10_Count:PySem.W.findIn K (.ref A6) "name"=some (some (.ref f10))) (a10_Joined:PySem.W.findIn K (.ref A5) "name"=some (some (.ref f10))) (a10_NoSquare:PySem.W.findIn K (.ref A2) "name"=some (some (.ref f10))) (a10_Ring:PySem.W.findIn K (.ref A8) "name"=some (some (.ref f10))) (a11_Unlike:PySem.W.findIn K (.ref A3) "spots"=some (some (.ref f11))) (a11_Sum:PySem.W.findIn K (.ref A9) "spots"=some (some (.ref f11))) (a11_Rising:PySem.W.findIn K (.ref A4) "spots"=some (some (.ref f11))) (a11_Seen:PySem.W.findIn K (.ref A7) "spots"=some (some (.ref f11))) (a11_Count:PySem.W.findIn K (.ref A6) "spots"=some (some (.ref f11))) (a11_Joined:PySem.W.findIn K (.ref A5) "spots"=some (some (.ref f11))) (a11_NoSquare:PySem.W.findIn K (.ref A2) "spots"=some (some (.ref f11))) (a11_Ring:PySem.W.findIn K (.ref A8) "spots"=some (some (.ref f11))) (a12_Unlike:PySem.W.findIn K (.ref A3) "sign"=some (some (.ref f12))) (a12_Sum:PySem.W.findIn K (.ref A9) "sign"=some (some (.ref f12))) (a12_Rising:PySem.W.findIn K (.ref A4) "sign"=some (some (.ref f12))) (a12_Seen:PySem.W.findIn K (.ref A7) "sign"=some (some (.ref f12))) (a12_Count:PySem.W.findIn K (.ref A6) "sign"=some (some (.ref f12))) (a12_Joined:PySem.W.findIn K (.ref A5) "sign"=some (some (.ref f12))) (a12_NoSquare:PySem.W.findIn K (.ref A2) "sign"=some (some (.ref f12))) (a12_Ring:PySem.W.findIn K (.ref A8) "sign"=some (some (.ref f12))) (a13:PySem.W.nsIn K mainGlobals "number_in"=some (some (.ref f13))) (a14_Puzzle:PySem.W.findIn K (.ref Bb) "place"=some (some (.ref f14))) (a15_Puzzle:PySem.W.findIn K (.ref Bb) "clues"=some (some (.ref f15))) (a16_Puzzle:PySem.W.findIn K (.ref Bb) "rules"=some (some (.ref f16))) (a17:PySem.W.nsIn K mainGlobals "_law_cell_at"=some (some (.ref f17))) (a18:PySem.W.nsIn K mainGlobals "_law_floor"=some (some (.ref f18))) (a19:PySem.W.nsIn K mainGlobals "_law_only"=some (some (.ref f19))) (a20:PySem.W.nsIn K mainGlobals "_law_by_lines"=some (some (.ref f20))) (a21:PySem.W.nsIn K mainGlobals "_law_near"=some (some (.ref f21))) (a22:PySem.W.nsIn K mainGlobals "is_from_one_to"=some (some (.ref f22))) (a23:PySem.W.nsIn K mainGlobals "beside"=some (some (.ref f23))) (a24:PySem.W.nsIn K mainGlobals "is_corner"=some (some (.ref f24))) (a25:PySem.W.nsIn K mainGlobals "without"=some (some (.ref f25))) (a26:PySem.W.nsIn K mainGlobals "signs_in"=some (some (.ref f26))) (a27:PySem.W.nsIn K mainGlobals "is_cell"=some (some (.ref f27))) (a28:PySem.W.nsIn K mainGlobals "goes_by"=some (some (.ref f28))) (a29:PySem.W.nsIn K mainGlobals "others"=some (some (.ref f29))) (a30:PySem.W.nsIn K mainGlobals "many_may"=some (some (.ref f30))) (a31:PySem.W.nsIn K mainGlobals "number_within"=some (some (.ref f31))) (a32:PySem.W.nsIn K mainGlobals "is_filling"=some (some (.ref f32))) (a33:PySem.W.nsIn K mainGlobals "_law_cells"=some (some (.ref f33))) (a34:PySem.W.nsIn K mainGlobals "_law_masks"=some (some (.ref f34))) (a35:PySem.W.nsIn K mainGlobals "_law_by_regions"=some (some (.ref f35))) (a36:PySem.W.nsIn K mainGlobals "_law_split"=some (some (.ref f36))) (a37:PySem.W.nsIn K mainGlobals "_law_within"=some (some (.ref f37))) (a38:PySem.W.nsIn K mainGlobals "floor_of"=some (some (.ref f38))) (a39:PySem.W.nsIn K mainGlobals "squares"=some (some (.ref f39))) (a40:PySem.W.nsIn K mainGlobals "reached"=some (some (.ref f40))) (a41:PySem.W.nsIn K mainGlobals "has_only"=some (some (.ref f41))) (a42:PySem.W.nsIn K mainGlobals "is_sign"=some (some (.ref f42))) (a43:PySem.W.nsIn K mainGlobals "has_its_rule"=some (some (.ref f43))) (a44:PySem.W.nsIn K mainGlobals "pair_strikes"=some (some (.ref f44))) (a45:PySem.W.nsIn K mainGlobals "around"=some (some (.ref f45))) (a46:PySem.W.nsIn K mainGlobals "first_within"=some (some (.ref f46))) (a47:PySem.W.nsIn K mainGlobals "told_cells"=some (some (.ref f47))) (a48:PySem.W.nsIn K mainGlobals "rule_by"=some (some (.ref f48))) (a49:PySem.W.nsIn K mainGlobals "checked_clues"=some (some (.ref f49))) (a50:PySem.W.nsIn K mainGlobals "_law_lists"=some (some (.ref f50))) (a51:PySem.W.nsIn K mainGlobals "is_formed"=some (some (.ref f51))) (a52:PySem.W.nsIn K mainGlobals "many_only"=some (some (.ref f52))) (a53:PySem.W.nsIn K mainGlobals "only_strikes"=some (some (.ref f53))) (a54:PySem.W.nsIn K mainGlobals "place_strikes"=some (some (.ref f54))) (a55:PySem.W.nsIn K mainGlobals "rest_of_square"=some (some (.ref f55))) (a56:PySem.W.nsIn K mainGlobals "is_another_with_only"=some (some (.ref f56))) (a57:PySem.W.nsIn K mainGlobals "cells_of"=some (some (.ref f57))) (a58:PySem.W.nsIn K mainGlobals "checked_floor"=some (some (.ref f58))) (a59:PySem.W.nsIn K mainGlobals "strikes_by_line"=some (some (.ref f59))) (a60:PySem.W.nsIn K mainGlobals "square_strikes"=some (some (.ref f60))) (a61:PySem.W.nsIn K mainGlobals "reach_strikes"=some (some (.ref f61))) (a62:PySem.W.nsIn K mainGlobals "turn_strikes"=some (some (.ref f62))) (a63:PySem.W.nsIn K mainGlobals "read_rule"=some (some (.ref f63))) (a64:PySem.W.nsIn K mainGlobals "strikes_by_region"=some (some (.ref f64))) (a65:PySem.W.nsIn K mainGlobals "read_rules"=some (some (.ref f65))) (a66:PySem.W.nsIn K mainGlobals "strikes"=some (some (.ref f66))) (Eu:PySem.W.findIn K (.ref Bb) "__init__"=some (some (.ref f67))) (a68:PySem.W.nsIn K mainGlobals "allowed"=some (some (.ref f68))) (a69:PySem.W.nsIn K mainGlobals "_law_puzzle"=some (some (.ref f69))) (a70:PySem.W.nsIn K mainGlobals "law"=some (some (.ref f70))) (l0:K.lookup f0=some ⟨oc0,od0,.func (PySem.W.fnOf "is_whole" "is_whole" (ax fF) (av fF) (af fF) .none kV0 dc0 pm0 an0 cd0 ct0),sl0⟩) (c0:PySem.W.codeIn K cd0 "is_whole"=true) (k0:PySem.W.keepIn K (.ref f0)=true) (l1:K.lookup f1=some ⟨oc1,od1,.func (PySem.W.fnOf "many_cells" "many_cells" (ax dE) (av dE) (af dE) .none kV1 dc1 pm1 an1 cd1 ct1),sl1⟩) (c1:PySem.W.codeIn K cd1 "many_cells"=true) (k1:PySem.W.keepIn K (.ref f1)=true) (l2:K.lookup f2=some ⟨oc2,od2,.func (PySem.W.fnOf "spot_of" "spot_of" (ax gD) (av gD) (af gD) .none kV2 dc2 pm2 an2 cd2 ct2),sl2⟩) (c2:PySem.W.codeIn K cd2 "spot_of"=true) (k2:PySem.W.keepIn K (.ref f2)=true) (l3:K.lookup f3=some ⟨oc3,od3,.func (PySem.W.fnOf "square_at" "square_at" (ax d7) (av d7) (af d7) .none kV3 dc3 pm3 an3 cd3 ct3),sl3⟩) (c3:PySem.W.codeIn K cd3 "square_at"=true) (k3:PySem.W.keepIn K (.ref f3)=true) (l4:K.lookup f4=some ⟨oc4,od4,.func (PySem.W.fnOf "bit_of" "bit_of" (ax ia) (av ia) (af ia) .none kV4 dc4 pm4 an4 cd4 ct4),sl4⟩) (c4:PySem.W.codeIn K cd4 "bit_of"=true) (k4:PySem.W.keepIn K (.ref f4)=true) (l5:K.lookup f5=some ⟨oc5,od5,.func (PySem.W.fnOf "stands" "stands" (ax ib) (av ib) (af ib) .none kV5 dc5 pm5 an5 cd5 ct5),sl5⟩) (c5:PySem.W.codeIn K cd5 "stands"=true) (k5:PySem.W.keepIn K (.ref f5)=true) (l6:K.lookup f6=some ⟨oc6,od6,.func (PySem.W.fnOf "masks_at" "masks_at" (ax fG) (av fG) (af fG) .none kV6 dc6 pm6 an6 cd6 ct6),sl6⟩) (c6:PySem.W.codeIn K cd6 "masks_at"=true) (k6:PySem.W.keepIn K (.ref f6)=true) (l7:K.lookup f7=some ⟨oc7,od7,.func (PySem.W.fnOf "clue_strikes" "clue_strikes" (ax cE) (av cE) (af cE) .none kV7 dc7 pm7 an7 cd7 ct7),sl7⟩) (c7:PySem.W.codeIn K cd7 "clue_strikes"=true) (k7:PySem.W.keepIn K (.ref f7)=true) (l8:K.lookup f8=some ⟨oc8,od8,.func (PySem.W.fnOf "are_told_in_order" "are_told_in_order" (ax bz) (av bz) (af bz) .none kV8 dc8 pm8 an8 cd8 ct8),sl8⟩) (c8:PySem.W.codeIn K cd8 "are_told_in_order"=true) (k8:PySem.W.keepIn K (.ref f8)=true) (l9:K.lookup f9=some ⟨oc9,od9,.func (PySem.W.fnOf "__init__" "Rule.__init__" (ax dc) (av dc) (af dc) .none kV9 dc9 pm9 an9 cd9 ct9),sl9⟩) (c9:PySem.W.codeIn K cd9 "Rule.__init__"=true) (k9:PySem.W.keepIn K (.ref f9)=true) (fn9:PySem.W.isFn K (.ref f9)=true) (l10:K.lookup f10=some ⟨oc10,od10,.func (PySem.W.fnOf "name" "Rule.name" (ax fQ) (av fQ) (af fQ) .none kV10 dc10 pm10 an10 cd10 ct10),sl10⟩) (c10:PySem.W.codeIn K cd10 "Rule.name"=true) (k10:PySem.W.keepIn K (.ref f10)=true) (fn10:PySem.W.isFn K (.ref f10)=true) (l11:K.lookup f11=some ⟨oc11,od11,.func (PySem.W.fnOf "spots" "Rule.spots" (ax ff) (av ff) (af ff) .none kV11 dc11 pm11 an11 cd11 ct11),sl11⟩) (c11:PySem.W.codeIn K cd11 "Rule.spots"=true) (k11:PySem.W.keepIn K (.ref f11)=true) (fn11:PySem.W.isFn K (.ref f11)=true) (l12:K.lookup f12=some ⟨oc12,od12,.func (PySem.W.fnOf "sign" "Rule.sign" (ax fR) (av fR) (af fR) .none kV12 dc12 pm12 an12 cd12 ct12),sl12⟩) (c12:PySem.W.codeIn K cd12 "Rule.sign"=true) (k12:PySem.W.keepIn K (.ref f12)=true) (fn12:PySem.W.isFn K (.ref f12)=true) (l13:K.lookup f13=some ⟨oc13,od13,.func (PySem.W.fnOf "number_in" "number_in" (ax d8) (av d8) (af d8) .none kV13 dc13 pm13 an13 cd13 ct13),sl13⟩) (c13:PySem.W.codeIn K cd13 "number_in"=true) (k13:PySem.W.keepIn K (.ref f13)=true) (l14:K.lookup f14=some ⟨oc14,od14,.func (PySem.W.fnOf "place" "Puzzle.place" (ax du) (av du) (af du) .none kV14 dc14 pm14 an14 cd14 ct14),sl14⟩) (c14:PySem.W.codeIn K cd14 "Puzzle.place"=true) (k14:PySem.W.keepIn K (.ref f14)=true) (fn14:PySem.W.isFn K (.ref f14)=true) (l15:K.lookup f15=some ⟨oc15,od15,.func (PySem.W.fnOf "clues" "Puzzle.clues" (ax dv) (av dv) (af dv) .none kV15 dc15 pm15 an15 cd15 ct15),sl15⟩) (c15:PySem.W.codeIn K cd15 "Puzzle.clues"=true) (k15:PySem.W.keepIn K (.ref f15)=true) (fn15:PySem.W.isFn K (.ref f15)=true) (l16:K.lookup f16=some ⟨oc16,od16,.func (PySem.W.fnOf "rules" "Puzzle.rules" (ax dw) (av dw) (af dw) .none kV16 dc16 pm16 an16 cd16 ct16),sl16⟩) (c16:PySem.W.codeIn K cd16 "Puzzle.rules"=true) (k16:PySem.W.keepIn K (.ref f16)=true) (fn16:PySem.W.isFn K (.ref f16)=true) (l17:K.lookup f17=some ⟨oc17,od17,.func (PySem.W.fnOf "_law_cell_at" "_law_cell_at" (ax cF) (av cF) (af cF) .none kV17 dc17 pm17 an17 cd17 ct17),sl17⟩) (c17:PySem.W.codeIn K cd17 "_law_cell_at"=true) (k17:PySem.W.keepIn K (.ref f17)=true) (l18:K.lookup f18=some ⟨oc18,od18,.func (PySem.W.fnOf "_law_floor" "_law_floor" (ax dF) (av dF) (af dF) .none kV18 dc18 pm18 an18 cd18 ct18),sl18⟩) (c18:PySem.W.codeIn K cd18 "_law_floor"=true) (k18:PySem.W.keepIn K (.ref f18)=true) (l19:K.lookup f19=some ⟨oc19,od19,.func (PySem.W.fnOf "_law_only" "_law_only" (ax d9) (av d9) (af d9) .none kV19 dc19 pm19 an19 cd19 ct19),sl19⟩) (c19:PySem.W.codeIn K cd19 "_law_only"=true) (k19:PySem.W.keepIn K (.ref f19)=true) (l20:K.lookup f20=some ⟨oc20,od20,.func (PySem.W.fnOf "_law_by_lines" "_law_by_lines" (ax ci) (av ci) (af ci) .none kV20 dc20 pm20 an20 cd20 ct20),sl20⟩) (c20:PySem.W.codeIn K cd20 "_law_by_lines"=true) (k20:PySem.W.keepIn K (.ref f20)=true) (l21:K.lookup f21=some ⟨oc21,od21,.func (PySem.W.fnOf "_law_near" "_law_near" (ax ed) (av ed) (af ed) .none kV21 dc21 pm21 an21 cd21 ct21),sl21⟩) (c21:PySem.W.codeIn K cd21 "_law_near"=true) (k21:PySem.W.keepIn K (.ref f21)=true) (l22:K.lookup f22=some ⟨oc22,od22,.func (PySem.W.fnOf "is_from_one_to" "is_from_one_to" (ax bY) (av bY) (af bY) .none kV22 dc22 pm22 an22 cd22 ct22),sl22⟩) (c22:PySem.W.codeIn K cd22 "is_from_one_to"=true) (k22:PySem.W.keepIn K (.ref f22)=true) (l23:K.lookup f23=some ⟨oc23,od23,.func (PySem.W.fnOf "beside" "beside" (ax ic) (av ic) (af ic) .none kV23 dc23 pm23 an23 cd23 ct23),sl23⟩) (c23:PySem.W.codeIn K cd23 "beside"=true) (k23:PySem.W.keepIn K (.ref f23)=true) (l24:K.lookup f24=some ⟨oc24,od24,.func (PySem.W.fnOf "is_corner" "is_corner" (ax ee) (av ee) (af ee) .none kV24 dc24 pm24 an24 cd24 ct24),sl24⟩) (c24:PySem.W.codeIn K cd24 "is_corner"=true) (k24:PySem.W.keepIn K (.ref f24)=true) (l25:K.lookup f25=some ⟨oc25,od25,.func (PySem.W.fnOf "without" "without" (ax gE) (av gE) (af gE) .none kV25 dc25 pm25 an25 cd25 ct25),sl25⟩) (c25:PySem.W.codeIn K cd25 "without"=true) (k25:PySem.W.keepIn K (.ref f25)=true) (l26:K.lookup f26=some ⟨oc26,od26,.func (PySem.W.fnOf "signs_in" "signs_in" (ax fH) (av fH) (af fH) .none kV26 dc26 pm26 an26 cd26 ct26),sl26⟩) (c26:PySem.W.codeIn K cd26 "signs_in"=true) (k26:PySem.W.keepIn K (.ref f26)=true) (l27:K.lookup f27=some ⟨oc27,od27,.func (PySem.W.fnOf "is_cell" "is_cell" (ax gF) (av gF) (af gF) .none kV27 dc27 pm27 an27 cd27 ct27),sl27⟩) (c27:PySem.W.codeIn K cd27 "is_cell"=true) (k27:PySem.W.keepIn K (.ref f27)=true) (l28:K.lookup f28=some ⟨oc28,od28,.func (PySem.W.fnOf "goes_by" "goes_by" (ax gG) (av gG) (af gG) .none kV28 dc28 pm28 an28 cd28 ct28),sl28⟩) (c28:PySem.W.codeIn K cd28 "goes_by"=true) (k28:PySem.W.keepIn K (.ref f28)=true) (l29:K.lookup f29=some ⟨oc29,od29,.func (PySem.W.fnOf "others" "others" (ax ie) (av ie) (af ie) .none kV29 dc29 pm29 an29 cd29 ct29),sl29⟩) (c29:PySem.W.codeIn K cd29 "others"=true) (k29:PySem.W.keepIn K (.ref f29)=true) (l30:K.lookup f30=some ⟨oc30,od30,.func (PySem.W.fnOf "many_may" "many_may" (ax fI) (av fI) (af fI) .none kV30 dc30 pm30 an30 cd30 ct30),sl30⟩) (c30:PySem.W.codeIn K cd30 "many_may"=true) (k30:PySem.W.keepIn K (.ref f30)=true) (l31:K.lookup f31=some ⟨oc31,od31,.func (PySem.W.fnOf "number_within" "number_within" (ax cj) (av cj) (af cj) .none kV31 dc31 pm31 an31 cd31 ct31),sl31⟩) (c31:PySem.W.codeIn K cd31 "number_within"=true) (k31:PySem.W.keepIn K (.ref f31)=true) (l32:K.lookup f32=some ⟨oc32,od32,.func (PySem.W.fnOf "is_filling" "is_filling" (ax dG) (av dG) (af dG) .none kV32 dc32 pm32 an32 cd32 ct32),sl32⟩) (c32:PySem.W.codeIn K cd32 "is_filling"=true) (k32:PySem.W.keepIn K (.ref f32)=true) (l33:K.lookup f33=some ⟨oc33,od33,.func (PySem.W.fnOf "_law_cells" "_law_cells" (ax dH) (av dH) (af dH) .none kV33 dc33 pm33 an33 cd33 ct33),sl33⟩) (c33:PySem.W.codeIn K cd33 "_law_cells"=true) (k33:PySem.W.keepIn K (.ref f33)=true) (l34:K.lookup f34=some ⟨oc34,od34,.func (PySem.W.fnOf "_law_masks" "_law_masks" (ax dI) (av dI) (af dI) .none kV34 dc34 pm34 an34 cd34 ct34),sl34⟩) (c34:PySem.W.codeIn K cd34 "_law_masks"=true) (k34:PySem.W.keepIn K (.ref f34)=true) (l35:K.lookup f35=some ⟨oc35,od35,.func (PySem.W.fnOf "_law_by_regions" "_law_by_regions" (ax bL) (av bL) (af bL) .none kV35 dc35 pm35 an35 cd35 ct35),sl35⟩) (c35:PySem.W.codeIn K cd35 "_law_by_regions"=true) (k35:PySem.W.keepIn K (.ref f35)=true) (l36:K.lookup f36=some ⟨oc36,od36,.func (PySem.W.fnOf "_law_split" "_law_split" (ax dJ) (av dJ) (af dJ) .none kV36 dc36 pm36 an36 cd36 ct36),sl36⟩) (c36:PySem.W.codeIn K cd36 "_law_split"=true) (k36:PySem.W.keepIn K (.ref f36)=true) (l37:K.lookup f37=some ⟨oc37,od37,.func (PySem.W.fnOf "_law_within" "_law_within" (ax df) (av df) (af df) .none kV37 dc37 pm37 an37 cd37 ct37),sl37⟩) (c37:PySem.W.codeIn K cd37 "_law_within"=true) (k37:PySem.W.keepIn K (.ref f37)=true) (l38:K.lookup f38=some ⟨oc38,od38,.func (PySem.W.fnOf "floor_of" "floor_of" (ax fJ) (av fJ) (af fJ) .none kV38 dc38 pm38 an38 cd38 ct38),sl38⟩) (c38:PySem.W.codeIn K cd38 "floor_of"=true) (k38:PySem.W.keepIn K (.ref f38)=true) (l39:K.lookup f39=some ⟨oc39,od39,.func (PySem.W.fnOf "squares" "squares" (ax gH) (av gH) (af gH) .none kV39 dc39 pm39 an39 cd39 ct39),sl39⟩) (c39:PySem.W.codeIn K cd39 "squares"=true) (k39:PySem.W.keepIn K (.ref f39)=true) (l40:K.lookup f40=some ⟨oc40,od40,.func (PySem.W.fnOf "reached" "reached" (ax gI) (av gI) (af gI) .none kV40 dc40 pm40 an40 cd40 ct40),sl40⟩) (c40:PySem.W.codeIn K cd40 "reached"=true) (k40:PySem.W.keepIn K (.ref f40)=true) (l41:K.lookup f41=some ⟨oc41,od41,.func (PySem.W.fnOf "has_only" "has_only" (ax fK) (av fK) (af fK) .none kV41 dc41 pm41 an41 cd41 ct41),sl41⟩) (c41:PySem.W.codeIn K cd41 "has_only"=true) (k41:PySem.W.keepIn K (.ref f41)=true) (l42:K.lookup f42=some ⟨oc42,od42,.func (PySem.W.fnOf "is_sign" "is_sign" (ax gJ) (av gJ) (af gJ) .none kV42 dc42 pm42 an42 cd42 ct42),sl42⟩) (c42:PySem.W.codeIn K cd42 "is_sign"=true) (k42:PySem.W.keepIn K (.ref f42)=true) (l43:K.lookup f43=some ⟨oc43,od43,.func (PySem.W.fnOf "has_its_rule" "has_its_rule" (ax cG) (av cG) (af cG) .none kV43 dc43 pm43 an43 cd43 ct43),sl43⟩) (c43:PySem.W.codeIn K cd43 "has_its_rule"=true) (k43:PySem.W.keepIn K (.ref f43)=true) (l44:K.lookup f44=some ⟨oc44,od44,.func (PySem.W.fnOf "pair_strikes" "pair_strikes" (ax cH) (av cH) (af cH) .none kV44 dc44 pm44 an44 cd44 ct44),sl44⟩) (c44:PySem.W.codeIn K cd44 "pair_strikes"=true) (k44:PySem.W.keepIn K (.ref f44)=true) (l45:K.lookup f45=some ⟨oc45,od45,.func (PySem.W.fnOf "around" "around" (ax ig) (av ig) (af ig) .none kV45 dc45 pm45 an45 cd45 ct45),sl45⟩) (c45:PySem.W.codeIn K cd45 "around"=true) (k45:PySem.W.keepIn K (.ref f45)=true) (l46:K.lookup f46=some ⟨oc46,od46,.func (PySem.W.fnOf "first_within" "first_within" (ax cI) (av cI) (af cI) .none kV46 dc46 pm46 an46 cd46 ct46),sl46⟩) (c46:PySem.W.codeIn K cd46 "first_within"=true) (k46:PySem.W.keepIn K (.ref f46)=true) (l47:K.lookup f47=some ⟨oc47,od47,.func (PySem.W.fnOf "told_cells" "told_cells" (ax dL) (av dL) (af dL) .none kV47 dc47 pm47 an47 cd47 ct47),sl47⟩) (c47:PySem.W.codeIn K cd47 "told_cells"=true) (k47:PySem.W.keepIn K (.ref f47)=true) (l48:K.lookup f48=some ⟨oc48,od48,.func (PySem.W.fnOf "rule_by" "rule_by" (ax gK) (av gK) (af gK) .none kV48 dc48 pm48 an48 cd48 ct48),sl48⟩) (c48:PySem.W.codeIn K cd48 "rule_by"=true) (k48:PySem.W.keepIn K (.ref f48)=true) (l49:K.lookup f49=some ⟨oc49,od49,.func (PySem.W.fnOf "checked_clues" "checked_clues" (ax ck) (av ck) (af ck) .none kV49 dc49 pm49 an49 cd49 ct49),sl49⟩) (c49:PySem.W.codeIn K cd49 "checked_clues"=true) (k49:PySem.W.keepIn K (.ref f49)=true) (l50:K.lookup f50=some ⟨oc50,od50,.func (PySem.W.fnOf "_law_lists" "_law_lists" (ax dM) (av dM) (af dM) .none kV50 dc50 pm50 an50 cd50 ct50),sl50⟩) (c50:PySem.W.codeIn K cd50 "_law_lists"=true) (k50:PySem.W.keepIn K (.ref f50)=true) (l51:K.lookup f51=some ⟨oc51,od51,.func (PySem.W.fnOf "is_formed" "is_formed" (ax eh) (av eh) (af eh) .none kV51 dc51 pm51 an51 cd51 ct51),sl51⟩) (c51:PySem.W.codeIn K cd51 "is_formed"=true) (k51:PySem.W.keepIn K (.ref f51)=true) (l52:K.lookup f52=some ⟨oc52,od52,.func (PySem.W.fnOf "many_only" "many_only" (ax ei) (av ei) (af ei) .none kV52 dc52 pm52 an52 cd52 ct52),sl52⟩) (c52:PySem.W.codeIn K cd52 "many_only"=true) (k52:PySem.W.keepIn K (.ref f52)=true) (l53:K.lookup f53=some ⟨oc53,od53,.func (PySem.W.fnOf "only_strikes" "only_strikes" (ax cJ) (av cJ) (af cJ) .none kV53 dc53 pm53 an53 cd53 ct53),sl53⟩) (c53:PySem.W.codeIn K cd53 "only_strikes"=true) (k53:PySem.W.keepIn K (.ref f53)=true) (l54:K.lookup f54=some ⟨oc54,od54,.func (PySem.W.fnOf "place_strikes" "place_strikes" (ax cm) (av cm) (af cm) .none kV54 dc54 pm54 an54 cd54 ct54),sl54⟩) (c54:PySem.W.codeIn K cd54 "place_strikes"=true) (k54:PySem.W.keepIn K (.ref f54)=true) (l55:K.lookup f55=some ⟨oc55,od55,.func (PySem.W.fnOf "rest_of_square" "rest_of_square" (ax bZ) (av bZ) (af bZ) .none kV55 dc55 pm55 an55 cd55 ct55),sl55⟩) (c55:PySem.W.codeIn K cd55 "rest_of_square"=true) (k55:PySem.W.keepIn K (.ref f55)=true) (l56:K.lookup f56=some ⟨oc56,od56,.func (PySem.W.fnOf "is_another_with_only" "is_another_with_only" (ax bf) (av bf) (af bf) .none kV56 dc56 pm56 an56 cd56 ct56),sl56⟩) (c56:PySem.W.codeIn K cd56 "is_another_with_only"=true) (k56:PySem.W.keepIn K (.ref f56)=true) (l57:K.lookup f57=some ⟨oc57,od57,.func (PySem.W.fnOf "cells_of" "cells_of" (ax fM) (av fM) (af fM) .none kV57 dc57 pm57 an57 cd57 ct57),sl57⟩) (c57:PySem.W.codeIn K cd57 "cells_of"=true) (k57:PySem.W.keepIn K (.ref f57)=true) (l58:K.lookup f58=some ⟨oc58,od58,.func (PySem.W.fnOf "checked_floor" "checked_floor" (ax cp) (av cp) (af cp) .none kV58 dc58 pm58 an58 cd58 ct58),sl58⟩) (c58:PySem.W.codeIn K cd58 "checked_floor"=true) (k58:PySem.W.keepIn K (.ref f58)=true) (l59:K.lookup f59=some ⟨oc59,od59,.func (PySem.W.fnOf "strikes_by_line" "strikes_by_line" (ax bM) (av bM) (af bM) .none kV59 dc59 pm59 an59 cd59 ct59),sl59⟩) (c59:PySem.W.codeIn K cd59 "strikes_by_line"=true) (k59:PySem.W.keepIn K (.ref f59)=true) (l60:K.lookup f60=some ⟨oc60,od60,.func (PySem.W.fnOf "square_strikes" "square_strikes" (ax b3) (av b3) (af b3) .none kV60 dc60 pm60 an60 cd60 ct60),sl60⟩) (c60:PySem.W.codeIn K cd60 "square_strikes"=true) (k60:PySem.W.keepIn K (.ref f60)=true) (l61:K.lookup f61=some ⟨oc61,od61,.func (PySem.W.fnOf "reach_strikes" "reach_strikes" (ax cq) (av cq) (af cq) .none kV61 dc61 pm61 an61 cd61 ct61),sl61⟩) (c61:PySem.W.codeIn K cd61 "reach_strikes"=true) (k61:PySem.W.keepIn K (.ref f61)=true) (l62:K.lookup f62=some ⟨oc62,od62,.func (PySem.W.fnOf "turn_strikes" "turn_strikes" (ax cK) (av cK) (af cK) .none kV62 dc62 pm62 an62 cd62 ct62),sl62⟩) (c62:PySem.W.codeIn K cd62 "turn_strikes"=true) (k62:PySem.W.keepIn K (.ref f62)=true) (l63:K.lookup f63=some ⟨oc63,od63,.func (PySem.W.fnOf "read_rule" "read_rule" (ax em) (av em) (af em) .none kV63 dc63 pm63 an63 cd63 ct63),sl63⟩) (c63:PySem.W.codeIn K cd63 "read_rule"=true) (k63:PySem.W.keepIn K (.ref f63)=true) (l64:K.lookup f64=some ⟨oc64,od64,.func (PySem.W.fnOf "strikes_by_region" "strikes_by_region" (ax bA) (av bA) (af bA) .none kV64 dc64 pm64 an64 cd64 ct64),sl64⟩) (c64:PySem.W.codeIn K cd64 "strikes_by_region"=true) (k64:PySem.W.keepIn K (.ref f64)=true) (l65:K.lookup f65=some ⟨oc65,od65,.func (PySem.W.fnOf "read_rules" "read_rules" (ax dN) (av dN) (af dN) .none kV65 dc65 pm65 an65 cd65 ct65),sl65⟩) (c65:PySem.W.codeIn K cd65 "read_rules"=true) (k65:PySem.W.keepIn K (.ref f65)=true) (l66:K.lookup f66=some ⟨oc66,od66,.func (PySem.W.fnOf "strikes" "strikes" (ax gL) (av gL) (af gL) .none kV66 dc66 pm66 an66 cd66 ct66),sl66⟩) (c66:PySem.W.codeIn K cd66 "strikes"=true) (k66:PySem.W.keepIn K (.ref f66)=true) (l67:K.lookup f67=some ⟨oc67,od67,.func (PySem.W.fnOf "__init__" "Puzzle.__init__" (ax cu) (av cu) (af cu) .none kV67 dc67 pm67 an67 cd67 ct67),sl67⟩) (c67:PySem.W.codeIn K cd67 "Puzzle.__init__"=true) (k67:PySem.W.keepIn K (.ref f67)=true) (fn67:PySem.W.isFn K (.ref f67)=true) (l68:K.lookup f68=some ⟨oc68,od68,.func (PySem.W.fnOf "allowed" "allowed" (ax gM) (av gM) (af gM) .none kV68 dc68 pm68 an68 cd68 ct68),sl68⟩) (c68:PySem.W.codeIn K cd68 "allowed"=true) (k68:PySem.W.keepIn K (.ref f68)=true) (l69:K.lookup f69=some ⟨oc69,od69,.func (PySem.W.fnOf "_law_puzzle" "_law_puzzle" (ax dg) (av dg) (af dg) .none kV69 dc69 pm69 an69 cd69 ct69),sl69⟩) (c69:PySem.W.codeIn K cd69 "_law_puzzle"=true) (k69:PySem.W.keepIn K (.ref f69)=true) (l70:K.lookup f70=some ⟨oc70,od70,.func (PySem.W.fnOf "law" "law" (ax j8) (av j8) (af j8) .none kV70 dc70 pm70 an70 cd70 ct70),sl70⟩) (c70:PySem.W.codeIn K cd70 "law"=true) (k70:PySem.W.keepIn K (.ref f70)=true) (Ev:PySem.W.makesIn K A3=true) (Ew:PySem.W.keepIn K (.ref A3)=true) (Ex:PySem.W.plainGet K A3 Str.empty=true) (Ey:PySem.W.hasDictIn K A3=true) (Ez:PySem.W.plainOver K A3=true) (EA:PySem.W.findIn K (.ref A3) "__setattr__"=some (some (.builtin "object.__setattr__"))) (GJ:PySem.W.makesIn K A9=true) (GK:PySem.W.keepIn K (.ref A9)=true) (GL:PySem.W.plainGet K A9 Str.empty=true) (GM:PySem.W.hasDictIn K A9=true) (GN:PySem.W.plainOver K A9=true) (GO:PySem.W.findIn K (.ref A9) "__setattr__"=some (some (.builtin "object.__setattr__"))) (EB:PySem.W.makesIn K A4=true) (EC:PySem.W.keepIn K (.ref A4)=true) (ED:PySem.W.plainGet K A4 Str.empty=true) (EE:PySem.W.hasDictIn K A4=true) (EF:PySem.W.plainOver K A4=true) (EG:PySem.W.findIn K (.ref A4) "__setattr__"=some (some (.builtin "object.__setattr__"))) (Gb:PySem.W.makesIn K A7=true) (Gc:PySem.W.keepIn K (.ref A7)=true) (Gd:PySem.W.plainGet K A7 Str.empty=true) (Ge:PySem.W.hasDictIn K A7=true) (Gf:PySem.W.plainOver K A7=true) (Gg:PySem.W.findIn K (.ref A7) "__setattr__"=some (some (.builtin "object.__setattr__"))) (Ft:PySem.W.makesIn K A6=true) (Fu:PySem.W.keepIn K (.ref A6)=true) (Fv:PySem.W.plainGet K A6 Str.empty=true) (Fw:PySem.W.hasDictIn K A6=true) (Fx:PySem.W.plainOver K A6=true) (Fy:PySem.W.findIn K (.ref A6) "__setattr__"=some (some (.builtin "object.__setattr__"))) (EH:PySem.W.makesIn K A5=true) (EI:PySem.W.keepIn K (.ref A5)=true) (EJ:PySem.W.plainGet K A5 Str.empty=true) (EK:PySem.W.hasDictIn K A5=true) (EL:PySem.W.plainOver K A5=true) (EM:PySem.W.findIn K (.ref A5) "__setattr__"=some (some (.builtin "object.__setattr__"))) (Ef:PySem.W.makesIn K A2=true) (Eg:PySem.W.keepIn K (.ref A2)=true) (Eh:PySem.W.plainGet K A2 Str.empty=true) (Ei:PySem.W.hasDictIn K A2=true) (Ej:PySem.W.plainOver K A2=true) (Ek:PySem.W.findIn K (.ref A2) "__setattr__"=some (some (.builtin "object.__setattr__"))) (Gh:PySem.W.makesIn K A8=true) (Gi:PySem.W.keepIn K (.ref A8)=true) (Gj:PySem.W.plainGet K A8 Str.empty=true) (Gk:PySem.W.hasDictIn K A8=true) (Gm:PySem.W.plainOver K A8=true) (Gn:PySem.W.findIn K (.ref A8) "__setattr__"=some (some (.builtin "object.__setattr__"))) (EN:PySem.W.makesIn K Bb=true) (EO:PySem.W.keepIn K (.ref Bb)=true) (EQ:PySem.W.plainGet K Bb Str.empty=true) (ER:PySem.W.hasDictIn K Bb=true) (ES:PySem.W.plainOver K Bb=true) (ET:PySem.W.findIn K (.ref Bb) "__setattr__"=some (some (.builtin "object.__setattr__"))) (Ch:PySem.W.findIn K (.ref A3) "amount"=some none) (Da:PySem.W.findIn K (.ref A9) "amount"=some none) (Ci:PySem.W.findIn K (.ref A4) "amount"=some none) (CK:PySem.W.findIn K (.ref A7) "amount"=some none) (Cm:PySem.W.findIn K (.ref A6) "amount"=some none) (Cj:PySem.W.findIn K (.ref A5) "amount"=some none) (BO:PySem.W.findIn K (.ref A2) "amount"=some none) (CL:PySem.W.findIn K (.ref A8) "amount"=some none) (Cn:PySem.W.findIn K (.ref A3) "cells"=some none) (Dm:PySem.W.findIn K (.ref A9) "cells"=some none) (Co:PySem.W.findIn K (.ref A4) "cells"=some none) (Db:PySem.W.findIn K (.ref A7) "cells"=some none) (CM:PySem.W.findIn K (.ref A6) "cells"=some none) (Cp:PySem.W.findIn K (.ref A5) "cells"=some none) (BR:PySem.W.findIn K (.ref A2) "cells"=some none) (Dc:PySem.W.findIn K (.ref A8) "cells"=some none) (Cq:PySem.W.findIn K (.ref A3) "floor"=some none) (Dn:PySem.W.findIn K (.ref A9) "floor"=some none) (Cr:PySem.W.findIn K (.ref A4) "floor"=some none) (Dd:PySem.W.findIn K (.ref A7) "floor"=some none) (CN:PySem.W.findIn K (.ref A6) "floor"=some none) (Cs:PySem.W.findIn K (.ref A5) "floor"=some none) (BS:PySem.W.findIn K (.ref A2) "floor"=some none) (De:PySem.W.findIn K (.ref A8) "floor"=some none) (CO:PySem.W.findIn K (.ref A3) "mark"=some none) (DD:PySem.W.findIn K (.ref A9) "mark"=some none) (CP:PySem.W.findIn K (.ref A4) "mark"=some none) (Do:PySem.W.findIn K (.ref A7) "mark"=some none) (Df:PySem.W.findIn K (.ref A6) "mark"=some none) (CQ:PySem.W.findIn K (.ref A5) "mark"=some none) (Ck:PySem.W.findIn K (.ref A2) "mark"=some none) (Dp:PySem.W.findIn K (.ref A8) "mark"=some none) (Ct:PySem.W.findIn K (.ref A3) "words"=some none) (Dq:PySem.W.findIn K (.ref A9) "words"=some none) (Cu:PySem.W.findIn K (.ref A4) "words"=some none) (Dg:PySem.W.findIn K (.ref A7) "words"=some none) (CS:PySem.W.findIn K (.ref A6) "words"=some none) (Cv:PySem.W.findIn K (.ref A5) "words"=some none) (BT:PySem.W.findIn K (.ref A2) "words"=some none) (Dh:PySem.W.findIn K (.ref A8) "words"=some none) (Cw:PySem.W.findIn K (.ref Bb) "floor"=some none) (Cy:PySem.W.findIn K (.ref Bb) "given"=some none) (CT:PySem.W.findIn K (.ref Bb) "laws"=some none) (Fz:PySem.W.nsIn K mainGlobals "KINDS"=some (some (.ref FT))) (FA:K.lookup FT=some ⟨.type "tuple",G6,.seq #[.str (tx [99,108,117,101]) G9,.str (tx [111,110,108,121]) Ha,.str (tx [112,108,97,99,101]) Hb,.str (tx [99,111,117,110,116]) Hc,.str (tx [115,116,101,112]) Hd,.str (tx [115,117,109]) He,.str (tx [115,113,117,97,114,101]) t6_KINDS,.str (tx [114,101,97,99,104]) t7_KINDS,.str (tx [116,117,114,110]) t8_KINDS,.str (tx [112,97,105,114]) t9_KINDS,.str (tx [119,97,121,115]) t10_KINDS] G7,G8⟩) (Dr:PySem.W.nsIn K mainGlobals "LINE_KINDS"=some (some (.ref DC))) (Ds:K.lookup DC=some ⟨.type "tuple",GP,.seq #[.str (tx [99,108,117,101]) GS,.str (tx [111,110,108,121]) GT,.str (tx [112,108,97,99,101]) GU,.str (tx [115,116,101,112]) GV,.str (tx [112,97,105,114]) GW] GQ,GR⟩) (CU:PySem.W.nsIn K mainGlobals "NUMBER_KINDS"=some (some (.ref C8))) (CV:K.lookup C8=some ⟨.type "tuple",Go,.seq #[.str (tx [99,111,117,110,116]) Gr,.str (tx [115,117,109]) Gs,.str (tx [119,97,121,115]) Gu] Gp,Gq⟩) (CW:PySem.W.nsIn K mainGlobals "OF_ALL_CELLS"=some (some (.ref C9))) (CY:K.lookup C9=some ⟨.type "tuple",Gv,.seq #[.str (tx [106,111,105,110,101,100]) Gy,.str (tx [110,111,115,113,117,97,114,101]) Gz,.str (tx [114,105,110,103]) GA] Gw,Gx⟩) (Di:PySem.W.nsIn K mainGlobals "WITH_NUMBER"=some (some (.ref Dl))) (Dj:K.lookup Dl=some ⟨.type "tuple",GB,.seq #[.str (tx [115,117,109]) GE,.str (tx [115,101,101,110]) GF,.str (tx [99,111,117,110,116]) GG] GC,GD⟩) (DE:PySem.W.nsIn K mainGlobals "WITH_SIGN"=some (some (.ref Ed))) (DF:K.lookup Ed=some ⟨.type "tuple",GX,.seq #[.str (tx [99,111,117,110,116]) G0,.str (tx [106,111,105,110,101,100]) G1,.str (tx [110,111,115,113,117,97,114,101]) G2,.str (tx [114,105,110,103]) G3] GY,GZ⟩) (Cz:PySem.W.nsIn K mainGlobals "RULES_OF_KIND"=some (some (.ref CJ))) (CA:K.lookup CJ=some ⟨.type "dict",none,.dict #[⟨DJ,.str (tx [111,110,108,121]) FB,.ref DK⟩,⟨DL,.str (tx [112,108,97,99,101]) FD,.ref DM⟩,⟨DN,.str (tx [99,111,117,110,116]) FF,.ref DO⟩,⟨DP,.str (tx [115,116,101,112]) FH,.ref DQ⟩,⟨DR,.str (tx [115,117,109]) FJ,.ref DS⟩,⟨DT,.str (tx [115,113,117,97,114,101]) FL,.ref DU⟩,⟨DW,.str (tx [114,101,97,99,104]) FN,.ref DX⟩,⟨DY,.str (tx [116,117,114,110]) FP,.ref DZ⟩,⟨D0,.str (tx [112,97,105,114]) FR,.ref D1⟩] FU,#[]⟩) (BU:K.lookup DK=some ⟨.type "tuple",Fa,.seq #[.str (tx [117,110,108,105,107,101]) EV] FC,Fb⟩) (BV:DJ=hashStr w (tx [111,110,108,121])) (BW:K.lookup DM=some ⟨.type "tuple",Fc,.seq #[.str (tx [117,110,108,105,107,101]) EW] FE,Fd⟩) (BX:DL=hashStr w (tx [112,108,97,99,101])) (BY:K.lookup DO=some ⟨.type "tuple",Fe,.seq #[.str (tx [99,111,117,110,116]) EX] FG,Ff⟩) (BZ:DN=hashStr w (tx [99,111,117,110,116])) (B0:K.lookup DQ=some ⟨.type "tuple",Fg,.seq #[.str (tx [114,105,115,105,110,103]) EY] FI,Fh⟩) (B1:DP=hashStr w (tx [115,116,101,112])) (B2:K.lookup DS=some ⟨.type "tuple",Fi,.seq #[.str (tx [115,117,109]) EZ] FK,Fj⟩) (B3:DR=hashStr w (tx [115,117,109])) (B4:K.lookup DU=some ⟨.type "tuple",Fk,.seq #[.str (tx [110,111,115,113,117,97,114,101]) E2] FM,Fl⟩) (B5:DT=hashStr w (tx [115,113,117,97,114,101])) (B6:K.lookup DX=some ⟨.type "tuple",Fm,.seq #[.str (tx [106,111,105,110,101,100]) E3,.str (tx [114,105,110,103]) E4] FO,Fn⟩) (B7:DW=hashStr w (tx [114,101,97,99,104])) (B8:K.lookup DZ=some ⟨.type "tuple",Fo,.seq #[.str (tx [114,105,110,103]) E5] FQ,Fp⟩) (B9:DY=hashStr w (tx [116,117,114,110])) (Ca:K.lookup D1=some ⟨.type "tuple",Fq,.seq #[.str (tx [117,110,108,105,107,101]) E6] FS,Fr⟩) (Cb:D0=hashStr w (tx [112,97,105,114])) (EU:PySem.W.nsIn K mainGlobals "FIGURES"=some (some (.str (tx [48,49,50,51,52,53,54,55,56,57]) tk_FIGURES))) (DG:PySem.W.nsIn K mainGlobals "MOST_CELLS"=some (some (.int 16 tk_MOST_CELLS))) (Dk:PySem.W.nsIn K mainGlobals "MOST_FIGURES"=some (some (.int 9 tk_MOST_FIGURES))) (Dt:PySem.W.nsIn K mainGlobals "MOST_NUMBER"=some (some (.int 99 tk_MOST_NUMBER))) (DH:PySem.W.nsIn K mainGlobals "MOST_RULES"=some (some (.int 12 tk_MOST_RULES))) (El:PySem.W.nsIn K mainGlobals "MOST_SIDE"=some (some (.int 6 tk_MOST_SIDE))) (DI:PySem.W.nsIn K mainGlobals "MOST_SIGNS"=some (some (.int 6 tk_MOST_SIGNS))) (z_len:PySem.W.nsIn K mainGlobals "len"=some none) (z_abs:PySem.W.nsIn K mainGlobals "abs"=some none) (z_min:PySem.W.nsIn K mainGlobals "min"=some none) (z_max:PySem.W.nsIn K mainGlobals "max"=some none) (z_sorted:PySem.W.nsIn K mainGlobals "sorted"=some none) (z_any:PySem.W.nsIn K mainGlobals "any"=some none) (z_isinstance:PySem.W.nsIn K mainGlobals "isinstance"=some none) (z_list:PySem.W.nsIn K mainGlobals "list"=some none) (z_int:PySem.W.nsIn K mainGlobals "int"=some none) (z_bool:PySem.W.nsIn K mainGlobals "bool"=some none) (z_str:PySem.W.nsIn K mainGlobals "str"=some none) (z_tuple:PySem.W.nsIn K mainGlobals "tuple"=some none) (z_reversed:PySem.W.nsIn K mainGlobals "reversed"=some none) (z_set:PySem.W.nsIn K mainGlobals "set"=some none) (z_range:PySem.W.nsIn K mainGlobals "range"=some none) (z_zip:PySem.W.nsIn K mainGlobals "zip"=some none) (z_all:PySem.W.nsIn K mainGlobals "all"=some none) (z_sum:PySem.W.nsIn K mainGlobals "sum"=some none) (z_enumerate:PySem.W.nsIn K mainGlobals "enumerate"=some none) (z_divmod:PySem.W.nsIn K mainGlobals "divmod"=some none):
  ∃ fd:FuncData,(∀ (s:Shared) (v:Value),BindsTo s fd ⟨[v],[]⟩ [("_law_script",v)])∧∀ base:Heap,K.In base→base.Ns mainGlobals mg→FnOk l.prog w K mg base CX0 10 fa fd ["_law_script"] (qB K):=by
 have e:=hfa.symm.trans (PySem.W.mg_of X G a70)
 cases e
 have B:Bt2 mg:=⟨⟨PySem.W.mg_none_of X G z_len,PySem.W.mg_none_of X G z_abs,PySem.W.mg_none_of X G z_min,PySem.W.mg_none_of X G z_max,PySem.W.mg_none_of X G z_sorted,PySem.W.mg_none_of X G z_any,PySem.W.mg_none_of X G z_isinstance,PySem.W.mg_none_of X G z_list,PySem.W.mg_none_of X G z_int,PySem.W.mg_none_of X G z_bool,PySem.W.mg_none_of X G z_str,PySem.W.mg_none_of X G z_tuple,PySem.W.mg_none_of X G z_reversed,PySem.W.mg_none_of X G z_set,PySem.W.mg_none_of X G z_range,PySem.W.mg_none_of X G z_zip⟩,PySem.W.mg_none_of X G z_all,PySem.W.mg_none_of X G z_sum,PySem.W.mg_none_of X G z_enumerate⟩
 have F0:=aC (st:=fF) l0 c0 k0
 have F1:=aC (st:=dE) l1 c1 k1
 have F2:=aC (st:=gD) l2 c2 k2
 have F3:=aC (st:=d7) l3 c3 k3
 have F4:=aC (st:=ia) l4 c4 k4
 have F5:=aC (st:=ib) l5 c5 k5
 have F6:=aC (st:=fG) l6 c6 k6
 have F7:=aC (st:=cE) l7 c7 k7
 have F8:=aC (st:=bz) l8 c8 k8
 have F9:=aC (st:=dc) l9 c9 k9
 have F10:=aC (st:=fQ) l10 c10 k10
 have F11:=aC (st:=ff) l11 c11 k11
 have F12:=aC (st:=fR) l12 c12 k12
 have F13:=aC (st:=d8) l13 c13 k13
 have F14:=aC (st:=du) l14 c14 k14
 have F15:=aC (st:=dv) l15 c15 k15
 have F16:=aC (st:=dw) l16 c16 k16
 have F17:=aC (st:=cF) l17 c17 k17
 have F18:=aC (st:=dF) l18 c18 k18
 have F19:=aC (st:=d9) l19 c19 k19
 have F20:=aC (st:=ci) l20 c20 k20
 have F21:=aC (st:=ed) l21 c21 k21
 have F22:=aC (st:=bY) l22 c22 k22
 have F23:=aC (st:=ic) l23 c23 k23
 have F24:=aC (st:=ee) l24 c24 k24
 have F25:=aC (st:=gE) l25 c25 k25
 have F26:=aC (st:=fH) l26 c26 k26
 have F27:=aC (st:=gF) l27 c27 k27
 have F28:=aC (st:=gG) l28 c28 k28
 have F29:=aC (st:=ie) l29 c29 k29
 have F30:=aC (st:=fI) l30 c30 k30
 have F31:=aC (st:=cj) l31 c31 k31
 have F32:=aC (st:=dG) l32 c32 k32
 have F33:=aC (st:=dH) l33 c33 k33
 have F34:=aC (st:=dI) l34 c34 k34
 have F35:=aC (st:=bL) l35 c35 k35
 have F36:=aC (st:=dJ) l36 c36 k36
 have F37:=aC (st:=df) l37 c37 k37
 have F38:=aC (st:=fJ) l38 c38 k38
 have F39:=aC (st:=gH) l39 c39 k39
 have F40:=aC (st:=gI) l40 c40 k40
 have F41:=aC (st:=fK) l41 c41 k41
 have F42:=aC (st:=gJ) l42 c42 k42
 have F43:=aC (st:=cG) l43 c43 k43
 have F44:=aC (st:=cH) l44 c44 k44
 have F45:=aC (st:=ig) l45 c45 k45
 have F46:=aC (st:=cI) l46 c46 k46
 have F47:=aC (st:=dL) l47 c47 k47
 have F48:=aC (st:=gK) l48 c48 k48
 have F49:=aC (st:=ck) l49 c49 k49
 have F50:=aC (st:=dM) l50 c50 k50
 have F51:=aC (st:=eh) l51 c51 k51
 have F52:=aC (st:=ei) l52 c52 k52
 have F53:=aC (st:=cJ) l53 c53 k53
 have F54:=aC (st:=cm) l54 c54 k54
 have F55:=aC (st:=bZ) l55 c55 k55
 have F56:=aC (st:=bf) l56 c56 k56
 have F57:=aC (st:=fM) l57 c57 k57
 have F58:=aC (st:=cp) l58 c58 k58
 have F59:=aC (st:=bM) l59 c59 k59
 have F60:=aC (st:=b3) l60 c60 k60
 have F61:=aC (st:=cq) l61 c61 k61
 have F62:=aC (st:=cK) l62 c62 k62
 have F63:=aC (st:=em) l63 c63 k63
 have F64:=aC (st:=bA) l64 c64 k64
 have F65:=aC (st:=dN) l65 c65 k65
 have F66:=aC (st:=gL) l66 c66 k66
 have F67:=aC (st:=cu) l67 c67 k67
 have F68:=aC (st:=gM) l68 c68 k68
 have F69:=aC (st:=dg) l69 c69 k69
 have F70:=aC (st:=j8) l70 c70 k70
 refine ⟨PySem.W.fnOf "law" "law" (ax j8) (av j8) (af j8) .none kV70 dc70 pm70 an70 cd70 ct70,fun s v=>.of_eq rfl,fun base _ _=>?_⟩
 have Du:=PySem.W.mg_of X G EU
 have Cc:=PySem.W.mg_of X G DG
 have BF:=PySem.W.mg_of X G Dk
 have BP:=PySem.W.mg_of X G Dt
 have Cg:=PySem.W.mg_of X G DH
 have BQ:=PySem.W.mg_of X G El
 have Cd:=PySem.W.mg_of X G DI
 have BX_divmod:=PySem.W.mg_none_of X G z_divmod
 have cls_Unlike:Cls K A3:=⟨Ex,Ey,Ez,EA⟩
 have cls_Sum:Cls K A9:=⟨GL,GM,GN,GO⟩
 have cls_Rising:Cls K A4:=⟨ED,EE,EF,EG⟩
 have cls_Seen:Cls K A7:=⟨Gd,Ge,Gf,Gg⟩
 have cls_Count:Cls K A6:=⟨Fv,Fw,Fx,Fy⟩
 have cls_Joined:Cls K A5:=⟨EJ,EK,EL,EM⟩
 have cls_NoSquare:Cls K A2:=⟨Eh,Ei,Ej,Ek⟩
 have cls_Ring:Cls K A8:=⟨Gj,Gk,Gm,Gn⟩
 have cls_Puzzle:Cls K Bb:=⟨EQ,ER,ES,ET⟩
 have FK_c_amount:FldK K (mkC A3 A9 A4 A7 A6 A5 A2 A8) "amount":=⟨fun i hi=>by cases i with | Rule=>exact (Bool.false_ne_true hi).elim | Unlike=>exact ⟨cls_Unlike,Ch⟩ | Sum=>exact ⟨cls_Sum,Da⟩ | Rising=>exact ⟨cls_Rising,Ci⟩ | Seen=>exact ⟨cls_Seen,CK⟩ | Count=>exact ⟨cls_Count,Cm⟩ | Joined=>exact ⟨cls_Joined,Cj⟩ | NoSquare=>exact ⟨cls_NoSquare,BO⟩ | Ring=>exact ⟨cls_Ring,CL⟩⟩
 have FK_c_cells:FldK K (mkC A3 A9 A4 A7 A6 A5 A2 A8) "cells":=⟨fun i hi=>by cases i with | Rule=>exact (Bool.false_ne_true hi).elim | Unlike=>exact ⟨cls_Unlike,Cn⟩ | Sum=>exact ⟨cls_Sum,Dm⟩ | Rising=>exact ⟨cls_Rising,Co⟩ | Seen=>exact ⟨cls_Seen,Db⟩ | Count=>exact ⟨cls_Count,CM⟩ | Joined=>exact ⟨cls_Joined,Cp⟩ | NoSquare=>exact ⟨cls_NoSquare,BR⟩ | Ring=>exact ⟨cls_Ring,Dc⟩⟩
 have FK_c_floor:FldK K (mkC A3 A9 A4 A7 A6 A5 A2 A8) "floor":=⟨fun i hi=>by cases i with | Rule=>exact (Bool.false_ne_true hi).elim | Unlike=>exact ⟨cls_Unlike,Cq⟩ | Sum=>exact ⟨cls_Sum,Dn⟩ | Rising=>exact ⟨cls_Rising,Cr⟩ | Seen=>exact ⟨cls_Seen,Dd⟩ | Count=>exact ⟨cls_Count,CN⟩ | Joined=>exact ⟨cls_Joined,Cs⟩ | NoSquare=>exact ⟨cls_NoSquare,BS⟩ | Ring=>exact ⟨cls_Ring,De⟩⟩
 have FK_c_mark:FldK K (mkC A3 A9 A4 A7 A6 A5 A2 A8) "mark":=⟨fun i hi=>by cases i with | Rule=>exact (Bool.false_ne_true hi).elim | Unlike=>exact ⟨cls_Unlike,CO⟩ | Sum=>exact ⟨cls_Sum,DD⟩ | Rising=>exact ⟨cls_Rising,CP⟩ | Seen=>exact ⟨cls_Seen,Do⟩ | Count=>exact ⟨cls_Count,Df⟩ | Joined=>exact ⟨cls_Joined,CQ⟩ | NoSquare=>exact ⟨cls_NoSquare,Ck⟩ | Ring=>exact ⟨cls_Ring,Dp⟩⟩
 have FK_c_words:FldK K (mkC A3 A9 A4 A7 A6 A5 A2 A8) "words":=⟨fun i hi=>by cases i with | Rule=>exact (Bool.false_ne_true hi).elim | Unlike=>exact ⟨cls_Unlike,Ct⟩ | Sum=>exact ⟨cls_Sum,Dq⟩ | Rising=>exact ⟨cls_Rising,Cu⟩ | Seen=>exact ⟨cls_Seen,Dg⟩ | Count=>exact ⟨cls_Count,CS⟩ | Joined=>exact ⟨cls_Joined,Cv⟩ | NoSquare=>exact ⟨cls_NoSquare,BT⟩ | Ring=>exact ⟨cls_Ring,Dh⟩⟩
 have FK_d_floor:FldK K (mkD Bb) "floor":=⟨fun i hi=>by cases i; exact ⟨cls_Puzzle,Cw⟩⟩
 have FK_d_given:FldK K (mkD Bb) "given":=⟨fun i hi=>by cases i; exact ⟨cls_Puzzle,Cy⟩⟩
 have FK_d_laws:FldK K (mkD Bb) "laws":=⟨fun i hi=>by cases i; exact ⟨cls_Puzzle,CT⟩⟩
 have G_KINDS:GTup K mg "KINDS" kr:=⟨FT,_,_,_,PySem.W.mg_of X G Fz,FA,rfl,rfl,Nat.le_of_lt (aI (by show (11:Nat)≤1000; decide)),(.cons ⟨_,rfl⟩ (.cons ⟨_,rfl⟩ (.cons ⟨_,rfl⟩ (.cons ⟨_,rfl⟩ (.cons ⟨_,rfl⟩ (.cons ⟨_,rfl⟩ (.cons ⟨_,rfl⟩ (.cons ⟨_,rfl⟩ (.cons ⟨_,rfl⟩ (.cons ⟨_,rfl⟩ (.cons ⟨_,rfl⟩ .nil)))))))))))⟩
 have G_LINE_KINDS:GTup K mg "LINE_KINDS" fP:=⟨DC,_,_,_,PySem.W.mg_of X G Dr,Ds,rfl,rfl,Nat.le_of_lt (aI (by show (5:Nat)≤1000; decide)),(.cons ⟨_,rfl⟩ (.cons ⟨_,rfl⟩ (.cons ⟨_,rfl⟩ (.cons ⟨_,rfl⟩ (.cons ⟨_,rfl⟩ .nil)))))⟩
 have G_NUMBER_KINDS:GTup K mg "NUMBER_KINDS" d2:=⟨C8,_,_,_,PySem.W.mg_of X G CU,CV,rfl,rfl,Nat.le_of_lt (aI (by show (3:Nat)≤1000; decide)),(.cons ⟨_,rfl⟩ (.cons ⟨_,rfl⟩ (.cons ⟨_,rfl⟩ .nil)))⟩
 have G_OF_ALL_CELLS:GTup K mg "OF_ALL_CELLS" dW:=⟨C9,_,_,_,PySem.W.mg_of X G CW,CY,rfl,rfl,Nat.le_of_lt (aI (by show (3:Nat)≤1000; decide)),(.cons ⟨_,rfl⟩ (.cons ⟨_,rfl⟩ (.cons ⟨_,rfl⟩ .nil)))⟩
 have G_WITH_NUMBER:GTup K mg "WITH_NUMBER" e9:=⟨Dl,_,_,_,PySem.W.mg_of X G Di,Dj,rfl,rfl,Nat.le_of_lt (aI (by show (3:Nat)≤1000; decide)),(.cons ⟨_,rfl⟩ (.cons ⟨_,rfl⟩ (.cons ⟨_,rfl⟩ .nil)))⟩
 have G_WITH_SIGN:GTup K mg "WITH_SIGN" fb:=⟨Ed,_,_,_,PySem.W.mg_of X G DE,DF,rfl,rfl,Nat.le_of_lt (aI (by show (4:Nat)≤1000; decide)),(.cons ⟨_,rfl⟩ (.cons ⟨_,rfl⟩ (.cons ⟨_,rfl⟩ (.cons ⟨_,rfl⟩ .nil))))⟩
 have BC:GDict w K mg "RULES_OF_KIND" gd_RULES_OF_KIND:=⟨CJ,_,_,_,PySem.W.mg_of X G Cz,CA,⟨rfl,rfl,rfl⟩,rfl,(.cons BV BU rfl rfl (Nat.le_of_lt (aI (by show (1:Nat)≤1000; decide))) (.cons ⟨_,rfl⟩ .nil) (.cons BX BW rfl rfl (Nat.le_of_lt (aI (by show (1:Nat)≤1000; decide))) (.cons ⟨_,rfl⟩ .nil) (.cons BZ BY rfl rfl (Nat.le_of_lt (aI (by show (1:Nat)≤1000; decide))) (.cons ⟨_,rfl⟩ .nil) (.cons B1 B0 rfl rfl (Nat.le_of_lt (aI (by show (1:Nat)≤1000; decide))) (.cons ⟨_,rfl⟩ .nil) (.cons B3 B2 rfl rfl (Nat.le_of_lt (aI (by show (1:Nat)≤1000; decide))) (.cons ⟨_,rfl⟩ .nil) (.cons B5 B4 rfl rfl (Nat.le_of_lt (aI (by show (1:Nat)≤1000; decide))) (.cons ⟨_,rfl⟩ .nil) (.cons B7 B6 rfl rfl (Nat.le_of_lt (aI (by show (2:Nat)≤1000; decide))) (.cons ⟨_,rfl⟩ (.cons ⟨_,rfl⟩ .nil)) (.cons B9 B8 rfl rfl (Nat.le_of_lt (aI (by show (1:Nat)≤1000; decide))) (.cons ⟨_,rfl⟩ .nil) (.cons Cb Ca rfl rfl (Nat.le_of_lt (aI (by show (1:Nat)≤1000; decide))) (.cons ⟨_,rfl⟩ .nil) .nil))))))))),by decide+kernel⟩
 have Bd:Cal l.prog w K mg base 1 "is_whole" ["value"] (aQ K):=uK B F0 (PySem.W.mg_of X G a0)
 have Bc:Cal l.prog w K mg base 1 "many_cells" ["floor"] (aK K):=rz B F1 (PySem.W.mg_of X G a1)
 have Bv:Cal l.prog w K mg base 1 "spot_of" ["floor","cell"] (b9 K):=wk B F2 (PySem.W.mg_of X G a2)
 have CG:Cal l.prog w K mg base 1 "square_at" ["floor","corner"] (cT K):=tU B F3 (PySem.W.mg_of X G a3)
 have D2:Cal l.prog w K mg base 1 "bit_of" ["sign"] (fh K):=x9 B F4 (PySem.W.mg_of X G a4)
 have Bh:Cal l.prog w K mg base 1 "stands" ["mask","sign"] (bm K):=yb B F5 (PySem.W.mg_of X G a5)
 have Bg:Cal l.prog w K mg base 1 "masks_at" ["masks","cells"] (be K):=uM B F6 (PySem.W.mg_of X G a6)
 have BK:Cal l.prog w K mg base 1 "clue_strikes" ["clues","cell","sign","more"] (bP K):=pY B F7 (PySem.W.mg_of X G a7)
 have Bo:Cal l.prog w K mg base 1 "are_told_in_order" ["cells","more"] (bc K):=lK B F8 (PySem.W.mg_of X G a8)
 have T9:FnOk l.prog w K mg base CX0 1 f9 _ ["self","floor","words","cells","amount","mark"] (aq K (mkC A3 A9 A4 A7 A6 A5 A2 A8)):=ou (c:=(mkC A3 A9 A4 A7 A6 A5 A2 A8)) B FK_c_amount FK_c_cells FK_c_floor FK_c_mark FK_c_words F9
 have D5:KCal l.prog w K mg base 1 "Unlike" ((mkC A3 A9 A4 A7 A6 A5 A2 A8).A .Unlike) ["self","floor","words","cells","amount","mark"] (aq K (mkC A3 A9 A4 A7 A6 A5 A2 A8)):=⟨f9,_,⟨Ev,Er,fn9,Ew⟩,T9,PySem.W.mg_of X G FV,F9.binds (ps:=["self","floor","words","cells","amount","mark"]) fun _ _ _ _ _ _ us hl=>match us,hl with | [_,_,_,_,_,_],_=>rfl⟩
 have K_Sum:KCal l.prog w K mg base 1 "Sum" ((mkC A3 A9 A4 A7 A6 A5 A2 A8).A .Sum) ["self","floor","words","cells","amount","mark"] (aq K (mkC A3 A9 A4 A7 A6 A5 A2 A8)):=⟨f9,_,⟨GJ,GI,fn9,GK⟩,T9,PySem.W.mg_of X G q_Sum,F9.binds (ps:=["self","floor","words","cells","amount","mark"]) fun _ _ _ _ _ _ us hl=>match us,hl with | [_,_,_,_,_,_],_=>rfl⟩
 have D4:KCal l.prog w K mg base 1 "Rising" ((mkC A3 A9 A4 A7 A6 A5 A2 A8).A .Rising) ["self","floor","words","cells","amount","mark"] (aq K (mkC A3 A9 A4 A7 A6 A5 A2 A8)):=⟨f9,_,⟨EB,Es,fn9,EC⟩,T9,PySem.W.mg_of X G FW,F9.binds (ps:=["self","floor","words","cells","amount","mark"]) fun _ _ _ _ _ _ us hl=>match us,hl with | [_,_,_,_,_,_],_=>rfl⟩
 have E9:KCal l.prog w K mg base 1 "Seen" ((mkC A3 A9 A4 A7 A6 A5 A2 A8).A .Seen) ["self","floor","words","cells","amount","mark"] (aq K (mkC A3 A9 A4 A7 A6 A5 A2 A8)):=⟨f9,_,⟨Gb,FZ,fn9,Gc⟩,T9,PySem.W.mg_of X G G4,F9.binds (ps:=["self","floor","words","cells","amount","mark"]) fun _ _ _ _ _ _ us hl=>match us,hl with | [_,_,_,_,_,_],_=>rfl⟩
 have En:KCal l.prog w K mg base 1 "Count" ((mkC A3 A9 A4 A7 A6 A5 A2 A8).A .Count) ["self","floor","words","cells","amount","mark"] (aq K (mkC A3 A9 A4 A7 A6 A5 A2 A8)):=⟨f9,_,⟨Ft,Fs,fn9,Fu⟩,T9,PySem.W.mg_of X G GH,F9.binds (ps:=["self","floor","words","cells","amount","mark"]) fun _ _ _ _ _ _ us hl=>match us,hl with | [_,_,_,_,_,_],_=>rfl⟩
 have D3:KCal l.prog w K mg base 1 "Joined" ((mkC A3 A9 A4 A7 A6 A5 A2 A8).A .Joined) ["self","floor","words","cells","amount","mark"] (aq K (mkC A3 A9 A4 A7 A6 A5 A2 A8)):=⟨f9,_,⟨EH,Et,fn9,EI⟩,T9,PySem.W.mg_of X G FX,F9.binds (ps:=["self","floor","words","cells","amount","mark"]) fun _ _ _ _ _ _ us hl=>match us,hl with | [_,_,_,_,_,_],_=>rfl⟩
 have C2:KCal l.prog w K mg base 1 "NoSquare" ((mkC A3 A9 A4 A7 A6 A5 A2 A8).A .NoSquare) ["self","floor","words","cells","amount","mark"] (aq K (mkC A3 A9 A4 A7 A6 A5 A2 A8)):=⟨f9,_,⟨Ef,Ee,fn9,Eg⟩,T9,PySem.W.mg_of X G Ep,F9.binds (ps:=["self","floor","words","cells","amount","mark"]) fun _ _ _ _ _ _ us hl=>match us,hl with | [_,_,_,_,_,_],_=>rfl⟩
 have E8:KCal l.prog w K mg base 1 "Ring" ((mkC A3 A9 A4 A7 A6 A5 A2 A8).A .Ring) ["self","floor","words","cells","amount","mark"] (aq K (mkC A3 A9 A4 A7 A6 A5 A2 A8)):=⟨f9,_,⟨Gh,Ga,fn9,Gi⟩,T9,PySem.W.mg_of X G G5,F9.binds (ps:=["self","floor","words","cells","amount","mark"]) fun _ _ _ _ _ _ us hl=>match us,hl with | [_,_,_,_,_,_],_=>rfl⟩
 have T10:FnOk l.prog w K mg base CX0 1 f10 _ ["self"] (iL K (mkC A3 A9 A4 A7 A6 A5 A2 A8)):=tV (c:=(mkC A3 A9 A4 A7 A6 A5 A2 A8)) B FK_c_words F10
 have E7:MCal l.prog w K mg base (mkC A3 A9 A4 A7 A6 A5 A2 A8) (mkC A3 A9 A4 A7 A6 A5 A2 A8).ok 1 "name" ["self"] (ld K (mkC A3 A9 A4 A7 A6 A5 A2 A8)):=⟨fun i hi=>by cases i with | Rule=>exact (Bool.false_ne_true hi).elim | Unlike=>exact ⟨f10,_,cls_Unlike,⟨a10_Unlike,fn10,k10⟩,(T10.mono (by decide)).imp (fun vs H Q E h=>⟨.Unlike,h⟩),F10.binds (ps:=["self"]) fun _ _ _ _ _ _ us hl=>match us,hl with | [_],_=>rfl⟩ | Sum=>exact ⟨f10,_,cls_Sum,⟨a10_Sum,fn10,k10⟩,(T10.mono (by decide)).imp (fun vs H Q E h=>⟨.Sum,h⟩),F10.binds (ps:=["self"]) fun _ _ _ _ _ _ us hl=>match us,hl with | [_],_=>rfl⟩ | Rising=>exact ⟨f10,_,cls_Rising,⟨a10_Rising,fn10,k10⟩,(T10.mono (by decide)).imp (fun vs H Q E h=>⟨.Rising,h⟩),F10.binds (ps:=["self"]) fun _ _ _ _ _ _ us hl=>match us,hl with | [_],_=>rfl⟩ | Seen=>exact ⟨f10,_,cls_Seen,⟨a10_Seen,fn10,k10⟩,(T10.mono (by decide)).imp (fun vs H Q E h=>⟨.Seen,h⟩),F10.binds (ps:=["self"]) fun _ _ _ _ _ _ us hl=>match us,hl with | [_],_=>rfl⟩ | Count=>exact ⟨f10,_,cls_Count,⟨a10_Count,fn10,k10⟩,(T10.mono (by decide)).imp (fun vs H Q E h=>⟨.Count,h⟩),F10.binds (ps:=["self"]) fun _ _ _ _ _ _ us hl=>match us,hl with | [_],_=>rfl⟩ | Joined=>exact ⟨f10,_,cls_Joined,⟨a10_Joined,fn10,k10⟩,(T10.mono (by decide)).imp (fun vs H Q E h=>⟨.Joined,h⟩),F10.binds (ps:=["self"]) fun _ _ _ _ _ _ us hl=>match us,hl with | [_],_=>rfl⟩ | NoSquare=>exact ⟨f10,_,cls_NoSquare,⟨a10_NoSquare,fn10,k10⟩,(T10.mono (by decide)).imp (fun vs H Q E h=>⟨.NoSquare,h⟩),F10.binds (ps:=["self"]) fun _ _ _ _ _ _ us hl=>match us,hl with | [_],_=>rfl⟩ | Ring=>exact ⟨f10,_,cls_Ring,⟨a10_Ring,fn10,k10⟩,(T10.mono (by decide)).imp (fun vs H Q E h=>⟨.Ring,h⟩),F10.binds (ps:=["self"]) fun _ _ _ _ _ _ us hl=>match us,hl with | [_],_=>rfl⟩⟩
 have T11:FnOk l.prog w K mg base CX0 1 f11 _ ["self"] (g9 K (mkC A3 A9 A4 A7 A6 A5 A2 A8)):=rA (c:=(mkC A3 A9 A4 A7 A6 A5 A2 A8)) B FK_c_cells F11
 have Bq:MCal l.prog w K mg base (mkC A3 A9 A4 A7 A6 A5 A2 A8) (mkC A3 A9 A4 A7 A6 A5 A2 A8).ok 1 "spots" ["self"] (dB K (mkC A3 A9 A4 A7 A6 A5 A2 A8)):=⟨fun i hi=>by cases i with | Rule=>exact (Bool.false_ne_true hi).elim | Unlike=>exact ⟨f11,_,cls_Unlike,⟨a11_Unlike,fn11,k11⟩,(T11.mono (by decide)).imp (fun vs H Q E h=>⟨.Unlike,h⟩),F11.binds (ps:=["self"]) fun _ _ _ _ _ _ us hl=>match us,hl with | [_],_=>rfl⟩ | Sum=>exact ⟨f11,_,cls_Sum,⟨a11_Sum,fn11,k11⟩,(T11.mono (by decide)).imp (fun vs H Q E h=>⟨.Sum,h⟩),F11.binds (ps:=["self"]) fun _ _ _ _ _ _ us hl=>match us,hl with | [_],_=>rfl⟩ | Rising=>exact ⟨f11,_,cls_Rising,⟨a11_Rising,fn11,k11⟩,(T11.mono (by decide)).imp (fun vs H Q E h=>⟨.Rising,h⟩),F11.binds (ps:=["self"]) fun _ _ _ _ _ _ us hl=>match us,hl with | [_],_=>rfl⟩ | Seen=>exact ⟨f11,_,cls_Seen,⟨a11_Seen,fn11,k11⟩,(T11.mono (by decide)).imp (fun vs H Q E h=>⟨.Seen,h⟩),F11.binds (ps:=["self"]) fun _ _ _ _ _ _ us hl=>match us,hl with | [_],_=>rfl⟩ | Count=>exact ⟨f11,_,cls_Count,⟨a11_Count,fn11,k11⟩,(T11.mono (by decide)).imp (fun vs H Q E h=>⟨.Count,h⟩),F11.binds (ps:=["self"]) fun _ _ _ _ _ _ us hl=>match us,hl with | [_],_=>rfl⟩ | Joined=>exact ⟨f11,_,cls_Joined,⟨a11_Joined,fn11,k11⟩,(T11.mono (by decide)).imp (fun vs H Q E h=>⟨.Joined,h⟩),F11.binds (ps:=["self"]) fun _ _ _ _ _ _ us hl=>match us,hl with | [_],_=>rfl⟩ | NoSquare=>exact ⟨f11,_,cls_NoSquare,⟨a11_NoSquare,fn11,k11⟩,(T11.mono (by decide)).imp (fun vs H Q E h=>⟨.NoSquare,h⟩),F11.binds (ps:=["self"]) fun _ _ _ _ _ _ us hl=>match us,hl with | [_],_=>rfl⟩ | Ring=>exact ⟨f11,_,cls_Ring,⟨a11_Ring,fn11,k11⟩,(T11.mono (by decide)).imp (fun vs H Q E h=>⟨.Ring,h⟩),F11.binds (ps:=["self"]) fun _ _ _ _ _ _ us hl=>match us,hl with | [_],_=>rfl⟩⟩
 have T12:FnOk l.prog w K mg base CX0 1 f12 _ ["self"] (iN K (mkC A3 A9 A4 A7 A6 A5 A2 A8)):=tW (c:=(mkC A3 A9 A4 A7 A6 A5 A2 A8)) B FK_c_mark F12
 have BA:MCal l.prog w K mg base (mkC A3 A9 A4 A7 A6 A5 A2 A8) (mkC A3 A9 A4 A7 A6 A5 A2 A8).ok 1 "sign" ["self"] (fc K (mkC A3 A9 A4 A7 A6 A5 A2 A8)):=⟨fun i hi=>by cases i with | Rule=>exact (Bool.false_ne_true hi).elim | Unlike=>exact ⟨f12,_,cls_Unlike,⟨a12_Unlike,fn12,k12⟩,(T12.mono (by decide)).imp (fun vs H Q E h=>⟨.Unlike,h⟩),F12.binds (ps:=["self"]) fun _ _ _ _ _ _ us hl=>match us,hl with | [_],_=>rfl⟩ | Sum=>exact ⟨f12,_,cls_Sum,⟨a12_Sum,fn12,k12⟩,(T12.mono (by decide)).imp (fun vs H Q E h=>⟨.Sum,h⟩),F12.binds (ps:=["self"]) fun _ _ _ _ _ _ us hl=>match us,hl with | [_],_=>rfl⟩ | Rising=>exact ⟨f12,_,cls_Rising,⟨a12_Rising,fn12,k12⟩,(T12.mono (by decide)).imp (fun vs H Q E h=>⟨.Rising,h⟩),F12.binds (ps:=["self"]) fun _ _ _ _ _ _ us hl=>match us,hl with | [_],_=>rfl⟩ | Seen=>exact ⟨f12,_,cls_Seen,⟨a12_Seen,fn12,k12⟩,(T12.mono (by decide)).imp (fun vs H Q E h=>⟨.Seen,h⟩),F12.binds (ps:=["self"]) fun _ _ _ _ _ _ us hl=>match us,hl with | [_],_=>rfl⟩ | Count=>exact ⟨f12,_,cls_Count,⟨a12_Count,fn12,k12⟩,(T12.mono (by decide)).imp (fun vs H Q E h=>⟨.Count,h⟩),F12.binds (ps:=["self"]) fun _ _ _ _ _ _ us hl=>match us,hl with | [_],_=>rfl⟩ | Joined=>exact ⟨f12,_,cls_Joined,⟨a12_Joined,fn12,k12⟩,(T12.mono (by decide)).imp (fun vs H Q E h=>⟨.Joined,h⟩),F12.binds (ps:=["self"]) fun _ _ _ _ _ _ us hl=>match us,hl with | [_],_=>rfl⟩ | NoSquare=>exact ⟨f12,_,cls_NoSquare,⟨a12_NoSquare,fn12,k12⟩,(T12.mono (by decide)).imp (fun vs H Q E h=>⟨.NoSquare,h⟩),F12.binds (ps:=["self"]) fun _ _ _ _ _ _ us hl=>match us,hl with | [_],_=>rfl⟩ | Ring=>exact ⟨f12,_,cls_Ring,⟨a12_Ring,fn12,k12⟩,(T12.mono (by decide)).imp (fun vs H Q E h=>⟨.Ring,h⟩),F12.binds (ps:=["self"]) fun _ _ _ _ _ _ us hl=>match us,hl with | [_],_=>rfl⟩⟩
 have CB:Cal l.prog w K mg base 1 "number_in" ["word"] (cU K):=tY B Du BF F13 (PySem.W.mg_of X G a13)
 have T14:FnOk l.prog w K mg base CX0 1 f14 _ ["self"] (ga K (mkC A3 A9 A4 A7 A6 A5 A2 A8) (mkD Bb)):=pZ (c:=(mkC A3 A9 A4 A7 A6 A5 A2 A8)) (d:=(mkD Bb)) B FK_d_floor F14
 have Bs:MCal l.prog w K mg base (mkD Bb) (mkD Bb).ok 1 "place" ["self"] (dC K (mkC A3 A9 A4 A7 A6 A5 A2 A8) (mkD Bb)):=⟨fun i hi=>by cases i; exact ⟨f14,_,cls_Puzzle,⟨a14_Puzzle,fn14,k14⟩,(T14.mono (by decide)).imp (fun vs H Q E h=>h),F14.binds (ps:=["self"]) fun _ _ _ _ _ _ us hl=>match us,hl with | [_],_=>rfl⟩⟩
 have T15:FnOk l.prog w K mg base CX0 1 f15 _ ["self"] (gc K (mkC A3 A9 A4 A7 A6 A5 A2 A8) (mkD Bb)):=p0 (c:=(mkC A3 A9 A4 A7 A6 A5 A2 A8)) (d:=(mkD Bb)) B FK_d_given F15
 have Eo:MCal l.prog w K mg base (mkD Bb) (mkD Bb).ok 1 "clues" ["self"] (kq K (mkC A3 A9 A4 A7 A6 A5 A2 A8) (mkD Bb)):=⟨fun i hi=>by cases i; exact ⟨f15,_,cls_Puzzle,⟨a15_Puzzle,fn15,k15⟩,(T15.mono (by decide)).imp (fun vs H Q E h=>h),F15.binds (ps:=["self"]) fun _ _ _ _ _ _ us hl=>match us,hl with | [_],_=>rfl⟩⟩
 have T16:FnOk l.prog w K mg base CX0 1 f16 _ ["self"] (ge K (mkC A3 A9 A4 A7 A6 A5 A2 A8) (mkD Bb)):=p5 (c:=(mkC A3 A9 A4 A7 A6 A5 A2 A8)) (d:=(mkD Bb)) B FK_d_laws F16
 have Br:MCal l.prog w K mg base (mkD Bb) (mkD Bb).ok 1 "rules" ["self"] (dD K (mkC A3 A9 A4 A7 A6 A5 A2 A8) (mkD Bb)):=⟨fun i hi=>by cases i; exact ⟨f16,_,cls_Puzzle,⟨a16_Puzzle,fn16,k16⟩,(T16.mono (by decide)).imp (fun vs H Q E h=>h),F16.binds (ps:=["self"]) fun _ _ _ _ _ _ us hl=>match us,hl with | [_],_=>rfl⟩⟩
 have Ba:Cal l.prog w K mg base 1 "_law_cell_at" ["_law_script","_law_k"] (aA K):=p7 B F17 (PySem.W.mg_of X G a17)
 have D9:Cal l.prog w K mg base 1 "_law_floor" ["_law_cell"] (cc K):=rC B F18 (PySem.W.mg_of X G a18)
 have CD:Cal l.prog w K mg base 1 "_law_only" ["_law_mask","_law_sign"] (cX K):=t5 B F19 (PySem.W.mg_of X G a19)
 have C7:Cal l.prog w K mg base 1 "_law_by_lines" ["_law_number","_law_lists_here","_law_cell","_law_sign","_law_signs"] (bI K):=ox B F20 (PySem.W.mg_of X G a20)
 have CC:Cal l.prog w K mg base 1 "_law_near" ["_law_floor_here","_law_cell"] (da K):=t7 B BX_divmod F21 (PySem.W.mg_of X G a21)
 have Bf:Cal l.prog w K mg base 2 "is_from_one_to" ["value","most"] (aP K):=nj B Bd F22 (PySem.W.mg_of X G a22)
 have Bk:Cal l.prog w K mg base 2 "beside" ["floor","cell"] (bF K):=yd B Bv F23 (PySem.W.mg_of X G a23)
 have CF:Cal l.prog w K mg base 2 "is_corner" ["floor","cell"] (cS K):=t9 B Bv F24 (PySem.W.mg_of X G a24)
 have Dv:Cal l.prog w K mg base 2 "without" ["mask","sign"] (dZ K):=wm B D2 Bh F25 (PySem.W.mg_of X G a25)
 have C0:Cal l.prog w K mg base 2 "signs_in" ["mask"] (dq K):=uO B Bh F26 (PySem.W.mg_of X G a26)
 have Bw:Cal l.prog w K mg base 2 "is_cell" ["floor","value"] (ca K):=wp B Bd Bc F27 (PySem.W.mg_of X G a27)
 have Dw:Cal l.prog w K mg base 2 "goes_by" ["kind","rule"] (d3 K (mkC A3 A9 A4 A7 A6 A5 A2 A8)):=wr (c:=(mkC A3 A9 A4 A7 A6 A5 A2 A8)) B E7 BC F28 (PySem.W.mg_of X G a28)
 have Bi:Cal l.prog w K mg base 2 "others" ["rule","cell"] (bn K (mkC A3 A9 A4 A7 A6 A5 A2 A8)):=yf (c:=(mkC A3 A9 A4 A7 A6 A5 A2 A8)) B Bq F29 (PySem.W.mg_of X G a29)
 have Bn:Cal l.prog w K mg base 2 "many_may" ["some","sign"] (bJ K):=uQ B Bh F30 (PySem.W.mg_of X G a30)
 have Bj:Cal l.prog w K mg base 2 "number_within" ["word","least","most"] (aZ K):=oz B CB F31 (PySem.W.mg_of X G a31)
 have Ce:Cal l.prog w K mg base 2 "is_filling" ["floor","filling","least"] (cy K):=rE B Bd Bc F32 (PySem.W.mg_of X G a32)
 have BG:Cal l.prog w K mg base 2 "_law_cells" ["_law_script","_law_at","_law_many","_law_size"] (bB K):=rG B Ba F33 (PySem.W.mg_of X G a33)
 have Eb:Cal l.prog w K mg base 2 "_law_masks" ["_law_script","_law_at","_law_many","_law_signs"] (ce K):=rJ B Ba F34 (PySem.W.mg_of X G a34)
 have Cl:Cal l.prog w K mg base 2 "_law_by_regions" ["_law_number","_law_floor_here","_law_masks_here","_law_goals","_law_cell","_law_sign"] (br K):=mL B CC CD BX_divmod F35 (PySem.W.mg_of X G a35)
 have Ec:Cal l.prog w K mg base 2 "_law_split" ["_law_script","_law_masks_here","_law_sign"] (cg K):=rL B Ba F36 (PySem.W.mg_of X G a36)
 have DB:Cal l.prog w K mg base 2 "_law_within" ["_law_script","_law_masks_here"] (bX K):=qD B Ba F37 (PySem.W.mg_of X G a37)
 have C3:Cal l.prog w K mg base 3 "floor_of" ["high","wide","signs"] (dn K):=uS B Bf Cc BQ Cd F38 (PySem.W.mg_of X G a38)
 have Dx:Cal l.prog w K mg base 3 "squares" ["floor"] (dU K):=wu B CF Bc CG F39 (PySem.W.mg_of X G a39)
 have CZ:Cal l.prog w K mg base 3 "reached" ["floor","cells","start"] (dk K):=ww B Bk F40 (PySem.W.mg_of X G a40)
 have Be:Cal l.prog w K mg base 3 "has_only" ["mask","sign"] (aX K):=uU B Dv F41 (PySem.W.mg_of X G a41)
 have Bx:Cal l.prog w K mg base 3 "is_sign" ["floor","value"] (cb K):=wy B Bf F42 (PySem.W.mg_of X G a42)
 have BH:Cal l.prog w K mg base 3 "has_its_rule" ["puzzle","kind","number","cell"] (bO K (mkC A3 A9 A4 A7 A6 A5 A2 A8) (mkD Bb)):=p9 (c:=(mkC A3 A9 A4 A7 A6 A5 A2 A8)) (d:=(mkD Bb)) B Dw Bd Br Bq F43 (PySem.W.mg_of X G a43)
 have BM:Cal l.prog w K mg base 3 "pair_strikes" ["rule","masks","cell","sign","more"] (bR K (mkC A3 A9 A4 A7 A6 A5 A2 A8)):=qc (c:=(mkC A3 A9 A4 A7 A6 A5 A2 A8)) B Bo Bi C0 F44 (PySem.W.mg_of X G a44)
 have D6:Cal l.prog w K mg base 3 "around" ["floor","middle","cell"] (fi K):=yh B Bk F45 (PySem.W.mg_of X G a45)
 have By:Cal l.prog w K mg base 3 "first_within" ["words","least","most"] (bj K):=qe B Bj F46 (PySem.W.mg_of X G a46)
 have Cf:Cal l.prog w K mg base 3 "told_cells" ["floor","words"] (cx K):=rN B Bc Bj F47 (PySem.W.mg_of X G a47)
 have Dy:Cal l.prog w K mg base 3 "rule_by" ["floor","words","cells","amount","mark"] (dX K (mkC A3 A9 A4 A7 A6 A5 A2 A8)):=wA (c:=(mkC A3 A9 A4 A7 A6 A5 A2 A8)) B En D3 C2 E8 D4 E9 K_Sum D5 F48 (PySem.W.mg_of X G a48)
 have C5:Cal l.prog w K mg base 3 "checked_clues" ["floor","clues"] (bV K):=oB B Ce F49 (PySem.W.mg_of X G a49)
 have Ea:Cal l.prog w K mg base 3 "_law_lists" ["_law_script","_law_floor_here"] (cf K):=rP B Ba BG F50 (PySem.W.mg_of X G a50)
 have CI:Cal l.prog w K mg base 4 "is_formed" ["puzzle","thought"] (cW K (mkC A3 A9 A4 A7 A6 A5 A2 A8) (mkD Bb)):=ub (c:=(mkC A3 A9 A4 A7 A6 A5 A2 A8)) (d:=(mkD Bb)) B BH Bw Bx Bd Bs G_KINDS F51 (PySem.W.mg_of X G a51)
 have Bl:Cal l.prog w K mg base 4 "many_only" ["some","sign"] (bu K):=ud B Be F52 (PySem.W.mg_of X G a52)
 have BL:Cal l.prog w K mg base 4 "only_strikes" ["rule","masks","cell","sign","more"] (bQ K (mkC A3 A9 A4 A7 A6 A5 A2 A8)):=qg (c:=(mkC A3 A9 A4 A7 A6 A5 A2 A8)) B Be Bi F53 (PySem.W.mg_of X G a53)
 have BD:Cal l.prog w K mg base 4 "place_strikes" ["floor","rule","masks","cell","sign","more"] (bG K (mkC A3 A9 A4 A7 A6 A5 A2 A8)):=oE (c:=(mkC A3 A9 A4 A7 A6 A5 A2 A8)) B Bx Bn Bg Bi Bq F54 (PySem.W.mg_of X G a54)
 have Bz:Cal l.prog w K mg base 4 "rest_of_square" ["floor","corner","cell"] (bw K):=nn B Dx F55 (PySem.W.mg_of X G a55)
 have Bm:Cal l.prog w K mg base 4 "is_another_with_only" ["floor","masks","cell","other","mark"] (aU K):=kB B Be Bw F56 (PySem.W.mg_of X G a56)
 have C4:Cal l.prog w K mg base 4 "cells_of" ["floor","name","words"] (dm K):=uW B Bc Cf G_OF_ALL_CELLS F57 (PySem.W.mg_of X G a57)
 have C6:Cal l.prog w K mg base 4 "checked_floor" ["floor"] (bU K):=oG B C3 F58 (PySem.W.mg_of X G a58)
 have Bu:Cal l.prog w K mg base 5 "strikes_by_line" ["puzzle","masks","thought"] (bd K (mkC A3 A9 A4 A7 A6 A5 A2 A8) (mkD Bb)):=mN (c:=(mkC A3 A9 A4 A7 A6 A5 A2 A8)) (d:=(mkD Bb)) B BK BL BM BD Eo Bs Br F59 (PySem.W.mg_of X G a59)
 have BB:Cal l.prog w K mg base 5 "square_strikes" ["floor","rule","masks","cell","sign","more"] (bx K (mkC A3 A9 A4 A7 A6 A5 A2 A8)):=nq (c:=(mkC A3 A9 A4 A7 A6 A5 A2 A8)) B Bl Bg Bz BA F60 (PySem.W.mg_of X G a60)
 have BE:Cal l.prog w K mg base 5 "reach_strikes" ["floor","rule","masks","cell","sign","more"] (bH K (mkC A3 A9 A4 A7 A6 A5 A2 A8)):=oI (c:=(mkC A3 A9 A4 A7 A6 A5 A2 A8)) B Bm Bi CZ Bh BA F61 (PySem.W.mg_of X G a61)
 have BN:Cal l.prog w K mg base 5 "turn_strikes" ["floor","rule","masks","cell","sign","more"] (bS K (mkC A3 A9 A4 A7 A6 A5 A2 A8)):=qi (c:=(mkC A3 A9 A4 A7 A6 A5 A2 A8)) B D6 Bk Be Bn Bl Bg BA F62 (PySem.W.mg_of X G a62)
 have CH:Cal l.prog w K mg base 5 "read_rule" ["floor","line"] (cV K (mkC A3 A9 A4 A7 A6 A5 A2 A8)):=uf (c:=(mkC A3 A9 A4 A7 A6 A5 A2 A8)) B C4 By Dy BP G_WITH_NUMBER G_WITH_SIGN F63 (PySem.W.mg_of X G a63)
 have Bp:Cal l.prog w K mg base 6 "strikes_by_region" ["puzzle","masks","thought"] (aY K (mkC A3 A9 A4 A7 A6 A5 A2 A8) (mkD Bb)):=lM (c:=(mkC A3 A9 A4 A7 A6 A5 A2 A8)) (d:=(mkD Bb)) B BE BB BN Bs Br F64 (PySem.W.mg_of X G a64)
 have D7:Cal l.prog w K mg base 6 "read_rules" ["floor","lines"] (de K (mkC A3 A9 A4 A7 A6 A5 A2 A8)):=rR (c:=(mkC A3 A9 A4 A7 A6 A5 A2 A8)) B CH Cg F65 (PySem.W.mg_of X G a65)
 have Dz:Cal l.prog w K mg base 7 "strikes" ["puzzle","masks","thought"] (cY K (mkC A3 A9 A4 A7 A6 A5 A2 A8) (mkD Bb)):=wC (c:=(mkC A3 A9 A4 A7 A6 A5 A2 A8)) (d:=(mkD Bb)) B Bu Bp G_LINE_KINDS G_NUMBER_KINDS F66 (PySem.W.mg_of X G a66)
 have T67:FnOk l.prog w K mg base CX0 7 f67 _ ["self","floor","lines","clues"] (ba K (mkC A3 A9 A4 A7 A6 A5 A2 A8) (mkD Bb)):=mO (c:=(mkC A3 A9 A4 A7 A6 A5 A2 A8)) (d:=(mkD Bb)) B C5 C6 D7 FK_d_floor FK_d_given FK_d_laws F67
 have D8:KCal l.prog w K mg base 7 "Puzzle" ((mkD Bb).A .Puzzle) ["self","floor","lines","clues"] (ba K (mkC A3 A9 A4 A7 A6 A5 A2 A8) (mkD Bb)):=⟨f67,_,⟨EN,Eu,fn67,EO⟩,T67,PySem.W.mg_of X G FY,F67.binds (ps:=["self","floor","lines","clues"]) fun _ _ _ _ _ _ us hl=>match us,hl with | [_,_,_,_],_=>rfl⟩
 have Em:Cal l.prog w K mg base 8 "allowed" ["puzzle","masks","thought"] (cZ K (mkC A3 A9 A4 A7 A6 A5 A2 A8) (mkD Bb)):=wE (c:=(mkC A3 A9 A4 A7 A6 A5 A2 A8)) (d:=(mkD Bb)) B CI Dz F68 (PySem.W.mg_of X G a68)
 have DA:Cal l.prog w K mg base 9 "_law_puzzle" ["_law_script","_law_floor_here","_law_lists_here","_law_goals"] (bW K (mkC A3 A9 A4 A7 A6 A5 A2 A8) (mkD Bb)):=qF (c:=(mkC A3 A9 A4 A7 A6 A5 A2 A8)) (d:=(mkD Bb)) B Ba D8 F69 (PySem.W.mg_of X G a69)
 exact (AB (c:=(mkC A3 A9 A4 A7 A6 A5 A2 A8)) (d:=(mkD Bb)) B C7 Cl Ba D9 Ea Eb DA Ec DB Em F70).imp fun vs H Q E h=>by obtain ⟨a,ns,e,hS,hn,k⟩:=h; exact ⟨a,ns,e,hS,hn,fun k hk=>by cases k <;> first | rfl | exact absurd rfl hk,rfl,k⟩
theorem walk {l:PySem.W.OpenLaw} {q:Program} {loose:List Str} {XP:(Str→Option Value)→Heap→Prop} {YP:World→Heap→Prop} {d:DefRec} {K:Params→PySem.W.Frag} (hn:l.most=some 63) (hdf:d.params.defaults=[])
  (hY:∀ (w:World) (h:Heap),YP w h→(K w.params).In h)
  (F:∀ (w:World) (mg:Str→Option Value) (fa:Addr) (h:Heap),(K w.params).In h→h.Ns mainGlobals mg→mg d.name=some (.ref fa)→
   ∃ fd:FuncData,(∀ (s:Shared) (u:Value),BindsTo s fd ⟨[u],[]⟩ [("_law_script",u)])∧∀ base:Heap,(K w.params).In base→base.Ns mainGlobals mg→FnOk l.prog w (K w.params) mg base CX0 10 fa fd ["_law_script"] (qB (K w.params))):
  PySem.W.WalkO q loose XP YP l.row.toRowW d [] (fun f vs=>PySem.call f vs):=
 L2.zg (n:=63) (k:=10) (x:="_law_script") (CX:=fun _=>CX0) (sp:=fun w=>qB (K w.params)) hn (by decide) hdf ⟨rfl,by decide,by decide⟩ hY F (fun _ _ a ns hl _ hS=>⟨a,ns,rfl,hS,hl,fun _=>rfl⟩) fun _ _ _ _ _ z=>z
end L2
open PySem PySem.W PyProof.Rows
set_option maxRecDepth 100000 in
def PySem.W.Fast.tw15427854119018445997:Unit:=()
def PySem.W.Fast.tw2977781694955377462:Unit:=()
def PySem.W.Fast.tw598656870555331016:Unit:=()
def PySem.W.Fast.tw15460187798338392233:Unit:=()
def PySem.W.Fast.tw3280558022434393681:Unit:=()
def PySem.W.Fast.tw721425344182583610:Unit:=()
def PySem.W.Fast.tw3090925539752663016:Unit:=()
def PySem.W.Fast.tw7473750274813220766:Unit:=()
def PySem.W.Fast.tw15479649130860866572:Unit:=()
def PySem.W.Fast.tw16030457417619565594:Unit:=()
def PySem.W.Fast.tw17058718150915151601:Unit:=()
def PySem.W.Fast.tw17013896579946769110:Unit:=()
def PySem.W.Fast.tw15588829786707652237:Unit:=()
def PySem.W.Fast.tw424382018826810588:Unit:=()
def PySem.W.Fast.tw1121119882882659042:Unit:=()
def PySem.W.Fast.tw17026807257765207823:Unit:=()
def PySem.W.Fast.tw10953493101559974675:Unit:=()
def PySem.W.Fast.tw8348811929403735483:Unit:=()
def PySem.W.Fast.tw12644156208419093981:Unit:=()
def PySem.W.Fast.tw9412345731097092543:Unit:=()
def PySem.W.Fast.tw17323995255390509890:Unit:=()
def PySem.W.Fast.tw775325511051618563:Unit:=()
def PySem.W.Fast.tw12518190421087471492:Unit:=()
def PySem.W.Fast.tw8946054018068437299:Unit:=()
def PySem.W.Fast.tw17402018575151325098:Unit:=()
def PySem.W.Fast.tw15196318614892275949:Unit:=()
def PySem.W.Fast.tw1397809951888854437:Unit:=()
def PySem.W.Fast.tw5886203783452218482:Unit:=()
def PySem.W.Fast.tw3771221457880832292:Unit:=()
def PySem.W.Fast.tw2032476226666360178:Unit:=()
def PySem.W.Fast.tw3642946524932316264:Unit:=()
def PySem.W.Fast.tw4205994657259656511:Unit:=()
def PySem.W.Fast.tw17994374704413372193:Unit:=()
def PySem.W.Fast.tw7632629091010356923:Unit:=()
def PySem.W.Fast.tw15804777346876386937:Unit:=()
def PySem.W.Fast.tw5749276449188705393:Unit:=()
def PySem.W.Fast.tw13957995464635758609:Unit:=()
def PySem.W.Fast.tw8337273242090924279:Unit:=()
def PySem.W.Fast.tw5931469485279664029:Unit:=()
def PySem.W.Fast.tw5430101388425124470:Unit:=()
def PySem.W.Fast.tw13642898028815954992:Unit:=()
def PySem.W.Fast.tw1274090502430017117:Unit:=()
def PySem.W.Fast.tw6313371561186802112:Unit:=()
def PySem.W.Fast.tw1949409163550000203:Unit:=()
def PySem.W.Fast.tw6220583608712817930:Unit:=()
def PySem.W.Fast.tw5891125305279761080:Unit:=()
def PySem.W.Fast.tw16478434960215752102:Unit:=()
def PySem.W.Fast.tw7142216004355241578:Unit:=()
def PySem.W.Fast.tw4018178052671872226:Unit:=()
def PySem.W.Fast.tw3805435421469350173:Unit:=()
def PySem.W.Fast.tw11751353091899983657:Unit:=()
def PySem.W.Fast.tw13704202666739406719:Unit:=()
def PySem.W.Fast.tw17261585735685204323:Unit:=()
def PySem.W.Fast.tw6076279323850569106:Unit:=()
def PySem.W.Fast.tw18040201050552843651:Unit:=()
def PySem.W.Fast.tw862591697050531445:Unit:=()
def PySem.W.Fast.tw3952987614398373912:Unit:=()
def PySem.W.Fast.tw18431231922008088760:Unit:=()
def PySem.W.Fast.tw17728595732327743661:Unit:=()
def PySem.W.Fast.tw7460441853388483700:Unit:=()
def PySem.W.Fast.tw16046879039985954606:Unit:=()
def PySem.W.Fast.tw6895021854268000979:Unit:=()
def PySem.W.Fast.tw2453982924877467178:Unit:=()
def PySem.W.Fast.tw15913917017653627305:Unit:=()
def PySem.W.Fast.tw12917787004942667532:Unit:=()
def PySem.W.Fast.tw16703565218905228602:Unit:=()
def PySem.W.Fast.tw14289802374256996651:Unit:=()
def PySem.W.Fast.tw12772092130176632506:Unit:=()
def PySem.W.Fast.tw7358545368948112191:Unit:=()
def PySem.W.Fast.tw10928952011953386001:Unit:=()
def PySem.W.Fast.tw8539233527117970283:Unit:=()
def PySem.W.Fast.tw9733315541328327149:Unit:=()
def PySem.W.Fast.tw8337440067697652587:Unit:=()
def PySem.W.Fast.tw11939639973733625959:Unit:=()
def PySem.W.Fast.tw18178314117817200562:Unit:=()
def PySem.W.Fast.tw2225069278826068726:Unit:=()
def PySem.W.Fast.tw7802266999969281199:Unit:=()
def PySem.W.Fast.tw13810010459980605886:Unit:=()
def PySem.W.Fast.tw11909235631390052573:Unit:=()
def PySem.W.Fast.tw3715075460875672220:Unit:=()
def PySem.W.Fast.tw15337238792770091332:Unit:=()
def PySem.W.Fast.tw4749325802731507141:Unit:=()
def PySem.W.Fast.tw8228681944670997392:Unit:=()
def PySem.W.Fast.tw2868759873650147521:Unit:=()
def PySem.W.Fast.tw8738062013555754779:Unit:=()
def PySem.W.Fast.tw18181965600166949729:Unit:=()
def PySem.W.Fast.tw16248964509147019797:Unit:=()
def PySem.W.Fast.tw988727846435919425:Unit:=()
def PySem.W.Fast.tw9073830796461244574:Unit:=()
def PySem.W.Fast.tw10368781056104473367:Unit:=()
def PySem.W.Fast.tw17822040006776102779:Unit:=()
def PySem.W.Fast.tw15406244021163932918:Unit:=()
def PySem.W.Fast.tw11692744208223809387:Unit:=()
def PySem.W.Fast.tw16447084688379087574:Unit:=()
def PySem.W.Fast.tw4247392807640685211:Unit:=()
def PySem.W.Fast.tw11709508349300580853:Unit:=()
def PySem.W.Fast.tw15492282151899067137:Unit:=()
def PySem.W.Fast.tw13338220888042772494:Unit:=()
def PySem.W.Fast.tw3683198427169381425:Unit:=()
def PySem.W.Fast.tw1012698251887644470:Unit:=()
def PySem.W.Fast.tw17855079099815184271:Unit:=()
def PySem.W.Fast.tw2649348750453765323:Unit:=()
def PySem.W.Fast.tw12781416412446052275:Unit:=()
def PySem.W.Fast.tw8138809762207706582:Unit:=()
def PySem.W.Fast.tw4985498780356123088:Unit:=()
def PySem.W.Fast.tw11124140501660536645:Unit:=()
def PySem.W.Fast.tw16485219362180909808:Unit:=()
def PySem.W.Fast.tw8954527288644732373:Unit:=()
def PySem.W.Fast.tw14098701593060551775:Unit:=()
def PySem.W.Fast.tw5106688155323304911:Unit:=()
def PySem.W.Fast.tw13594747821909187349:Unit:=()
def PySem.W.Fast.tw14521711710690863766:Unit:=()
def PySem.W.Fast.tw18236309206420595330:Unit:=()
def PySem.W.Fast.tw15977156482952101792:Unit:=()
def PySem.W.Fast.tw1234631284457462403:Unit:=()
def PySem.W.Fast.tw1780802382777658781:Unit:=()
def PySem.W.Fast.tw4998332558786083126:Unit:=()
def PySem.W.Fast.tw7463603874431302760:Unit:=()
def PySem.W.Fast.tw1787358804142798609:Unit:=()
def PySem.W.Fast.tw11539743046262856619:Unit:=()
def PySem.W.Fast.tw3743796201052724810:Unit:=()
def PySem.W.Fast.tw13756731838960548231:Unit:=()
def PySem.W.Fast.tw4745868597213873991:Unit:=()
def PySem.W.Fast.tw9457156059591939963:Unit:=()
def PySem.W.Fast.tw13828315234488224591:Unit:=()
def PySem.W.Fast.tw2964376565922653670:Unit:=()
def PySem.W.Fast.tw8846093223604949268:Unit:=()
def PySem.W.Fast.tw167480678079097480:Unit:=()
def PySem.W.Fast.tw4914288560751239881:Unit:=()
def PySem.W.Fast.tw11951037855843108485:Unit:=()
def PySem.W.Fast.tw6362025006776692460:Unit:=()
def PySem.W.Fast.tw15530394045856778237:Unit:=()
def PySem.W.Fast.tw12725671929481080654:Unit:=()
def PySem.W.Fast.tw6030291103975996811:Unit:=()
def PySem.W.Fast.tw5337639878395137266:Unit:=()
def PySem.W.Fast.tw13523188495705498839:Unit:=()
def PySem.W.Fast.tw1931173294907944050:Unit:=()
def PySem.W.Fast.tw15999721361047628707:Unit:=()
def PySem.W.Fast.tw15478864391875294543:Unit:=()
def PySem.W.Fast.tw18276141329026251380:Unit:=()
def PySem.W.Fast.tw16007610817267496364:Unit:=()
def PySem.W.Fast.tw6779737260879839932:Unit:=()
def PySem.W.Fast.tw3625951336169381162:Unit:=()
def PySem.W.Fast.tw12238368076702020786:Unit:=()
def PySem.W.Fast.tw969608780732394447:Unit:=()
def PySem.W.Fast.tw4912650232668045057:Unit:=()
def PySem.W.Fast.tw17192179069525967068:Unit:=()
def PySem.W.Fast.tw7100356791053739306:Unit:=()
def PySem.W.Fast.tw2120735899064341655:Unit:=()
def PySem.W.Fast.tw14392351774819071709:Unit:=()
def PySem.W.Fast.tw12119338333040189382:Unit:=()
def PySem.W.Fast.tw11640230768606114603:Unit:=()
def PySem.W.Fast.tw3705596337509957755:Unit:=()
def PySem.W.Fast.tw17631751559361183062:Unit:=()
def PySem.W.Fast.tw16002259914389127922:Unit:=()
def PySem.W.Fast.tw1096206481319565810:Unit:=()
def PySem.W.Fast.tw5336380210845171951:Unit:=()
def PySem.W.Fast.tw16917483035091249803:Unit:=()
def PySem.W.Fast.tw11479254876399950420:Unit:=()
def PySem.W.Fast.tw2812190536827440432:Unit:=()
def PySem.W.Fast.tw16222221780228165103:Unit:=()
def PySem.W.Fast.tw11998066867050568424:Unit:=()
def PySem.W.Fast.tw12411926408368759467:Unit:=()
def PySem.W.Fast.tw3587260914158551424:Unit:=()
def PySem.W.Fast.tw10047693055638356929:Unit:=()
def PySem.W.Fast.tw4847160782680210519:Unit:=()
def PySem.W.Fast.tw15361655379843864254:Unit:=()
def PySem.W.Fast.tw12977891046865582368:Unit:=()
def PySem.W.Fast.tw12111103152122745760:Unit:=()
def PySem.W.Fast.tw3336359343781251339:Unit:=()
def PySem.W.Fast.tw4125062211871404226:Unit:=()
def PySem.W.Fast.tw6829050470851614790:Unit:=()
def PySem.W.Fast.tw3028782375477978105:Unit:=()
def PySem.W.Fast.tw7129941249683121584:Unit:=()
def PySem.W.Fast.tw5521896541443639822:Unit:=()
def PySem.W.Fast.tw4107996139706785624:Unit:=()
def PySem.W.Fast.tw5949674871874478913:Unit:=()
def PySem.W.Fast.tw7586256810597698259:Unit:=()
def PySem.W.Fast.tw10510227934428421999:Unit:=()
def PySem.W.Fast.tw12827074619127568373:Unit:=()
def PySem.W.Fast.tw3942124454789843026:Unit:=()
def PySem.W.Fast.tw4901230467886163071:Unit:=()
def PySem.W.Fast.tw4374511040461500838:Unit:=()
def PySem.W.Fast.tw8876214092520565173:Unit:=()
def PySem.W.Fast.tw5647072014167784161:Unit:=()
def PySem.W.Fast.tw9923159570359585244:Unit:=()
def PySem.W.Fast.tw18064573081875134773:Unit:=()
def PySem.W.Fast.tw4280676654090095171:Unit:=()
def PySem.W.Fast.tw11666378698833840472:Unit:=()
def PySem.W.Fast.tw5161842173560132569:Unit:=()
def PySem.W.Fast.tw749934315188190539:Unit:=()
def PySem.W.Fast.tw4596226896383785984:Unit:=()
def PySem.W.Fast.tw10189296510888740316:Unit:=()
def PySem.W.Fast.tw6204424251109640785:Unit:=()
def PySem.W.Fast.tw18118891644832602782:Unit:=()
def PySem.W.Fast.tw11821395604424752996:Unit:=()
def PySem.W.Fast.tw443144745299618617:Unit:=()
def PySem.W.Fast.tw2783085514857141144:Unit:=()
def PySem.W.Fast.tw3831978333119134937:Unit:=()
def PySem.W.Fast.tw2952164491326091642:Unit:=()
def PySem.W.Fast.tw16376741120705382785:Unit:=()
def PySem.W.Fast.tw15482474126111759002:Unit:=()
def PySem.W.Fast.tw1115616045155617697:Unit:=()
def PySem.W.Fast.tw14105885437424804053:Unit:=()
def PySem.W.Fast.tw13881939434829196398:Unit:=()
def PySem.W.Fast.tw16665242455530385842:Unit:=()
def PySem.W.Fast.tw10550553758755922906:Unit:=()
def PySem.W.Fast.tw1331820512192700910:Unit:=()
def PySem.W.Fast.tw61418147805408276:Unit:=()
def PySem.W.Fast.tw10565245607860852748:Unit:=()
def PySem.W.Fast.tw9987037424074930510:Unit:=()
def PySem.W.Fast.tw14631185026017649935:Unit:=()
def PySem.W.Fast.tw12486658898157812310:Unit:=()
def PySem.W.Fast.tw604569422586805769:Unit:=()
def PySem.W.Fast.tw2721939831786014919:Unit:=()
def PySem.W.Fast.tw4650362691090300347:Unit:=()
def PySem.W.Fast.tw4125122688841722285:Unit:=()
def PySem.W.Fast.tw14990365105042015683:Unit:=()
def PySem.W.Fast.tw11487822482001448003:Unit:=()
def PySem.W.Fast.tw8434414191017455750:Unit:=()
def PySem.W.Fast.tw5669107599876969391:Unit:=()
def PySem.W.Fast.tw2717704612574902728:Unit:=()
def PySem.W.Fast.tw14628372049303676144:Unit:=()
def PySem.W.Fast.tw18369811451123146285:Unit:=()
def PySem.W.Fast.tw14571528888023424645:Unit:=()
def PySem.W.Fast.tw2368571867420494289:Unit:=()
def PySem.W.Fast.tw14504796025316302933:Unit:=()
def PySem.W.Fast.tw11523041671575869642:Unit:=()
def PySem.W.Fast.tw18142471846616235348:Unit:=()
def PySem.W.Fast.tw4473339047589363252:Unit:=()
def PySem.W.Fast.tw12664765815421808036:Unit:=()
def PySem.W.Fast.tw9473421787773350071:Unit:=()
def PySem.W.Fast.tw3390816195142403491:Unit:=()
def PySem.W.Fast.tw10965275121713079647:Unit:=()
def PySem.W.Fast.tw16119943092116945477:Unit:=()
def PySem.W.Fast.tw10511099456980509814:Unit:=()
def PySem.W.Fast.tw10328084167387782487:Unit:=()
def PySem.W.Fast.tw7184199444985780667:Unit:=()
def PySem.W.Fast.tw8960680357562440470:Unit:=()
def PySem.W.Fast.tw9797302903673722974:Unit:=()
def PySem.W.Fast.tw14293398848015147276:Unit:=()
def PySem.W.Fast.tw8091739343858438434:Unit:=()
def PySem.W.Fast.tw4987065630194007191:Unit:=()
def PySem.W.Fast.tw8694237852705343964:Unit:=()
def PySem.W.Fast.tw9581776671323651862:Unit:=()
def PySem.W.Fast.tw18225548337150832452:Unit:=()
def PySem.W.Fast.tw8927934029762166339:Unit:=()
def PySem.W.Fast.tw17514374028014837721:Unit:=()
def PySem.W.Fast.tw15403463698137016433:Unit:=()
def PySem.W.Fast.tw11681218114265223487:Unit:=()
def PySem.W.Fast.tw17878656851977085177:Unit:=()
def PySem.W.Fast.tw8114101699438389773:Unit:=()
def PySem.W.Fast.tw8389056577970586498:Unit:=()
def PySem.W.Fast.tw4115939436502328782:Unit:=()
def PySem.W.Fast.tw15611642088739055021:Unit:=()
def PySem.W.Fast.tw13842700366065524998:Unit:=()
def PySem.W.Fast.tw13672664654371794985:Unit:=()
def PySem.W.Fast.tw7349279303039640589:Unit:=()
def PySem.W.Fast.tw12173481710643027702:Unit:=()
def PySem.W.Fast.tw18114583626943883931:Unit:=()
def PySem.W.Fast.tw16513532166611113666:Unit:=()
def PySem.W.Fast.tw4549285643497169583:Unit:=()
def PySem.W.Fast.tw10302709236102050432:Unit:=()
def PySem.W.Fast.tw6713325340056798584:Unit:=()
def PySem.W.Fast.tw14696469048132489709:Unit:=()
def PySem.W.Fast.tw373339004955654877:Unit:=()
def PySem.W.Fast.tw5845287528622587526:Unit:=()
def PySem.W.Fast.tw10783002100509208628:Unit:=()
def PySem.W.Fast.tw485878696093460018:Unit:=()
def PySem.W.Fast.tw8536805777271259769:Unit:=()
def PySem.W.Fast.tw10056888922910375963:Unit:=()
def PySem.W.Fast.tw11853249373845175089:Unit:=()
def PySem.W.Fast.tw14997365437556619062:Unit:=()
def PySem.W.Fast.tw9044787352521905497:Unit:=()
def PySem.W.Fast.tw107448601510761709:Unit:=()
def PySem.W.Fast.tw159950989555520586:Unit:=()
def PySem.W.Fast.tw2139767333800554625:Unit:=()
def PySem.W.Fast.tw10505667818627160747:Unit:=()
def PySem.W.Fast.tw4522414543477196589:Unit:=()
def PySem.W.Fast.tw16488988252622808095:Unit:=()
def PySem.W.Fast.tw10853890304952754360:Unit:=()
def PySem.W.Fast.tw14995881062513356379:Unit:=()
def PySem.W.Fast.tw8408419562073020105:Unit:=()
def PySem.W.Fast.tw9188742019705558293:Unit:=()
set_option maxHeartbeats 0 in
theorem PySem.Challenge.cw_cluemaker_k30_less_stands_holds : PySem.Challenge.rw_cluemaker_k30_less_stands.Holds := by
  w_on; o_law; k_head; (case hw => w_witness2)
  k_fill
  refine L2.walk (l := PySem.Challenge.rw_cluemaker_k30_less_stands) rfl rfl (fun w h Y => PySem.W.kIn_of Y) ?F
  case F =>
    intro w mg fa h KX G hmg
    refine' L2.AC KX G hmg ?FV ?q_Sum ?FW ?G4 ?GH ?FX ?Ep ?G5 ?FY ?a0 ?a1 ?a2 ?a3 ?a4 ?a5 ?a6 ?a7 ?a8 ?Er ?GI ?Es ?FZ ?Fs ?Et ?Ee ?Ga ?a10_Unlike ?a10_Sum ?a10_Rising ?a10_Seen ?a10_Count ?a10_Joined ?a10_NoSquare ?a10_Ring ?a11_Unlike ?a11_Sum ?a11_Rising ?a11_Seen ?a11_Count ?a11_Joined ?a11_NoSquare ?a11_Ring ?a12_Unlike ?a12_Sum ?a12_Rising ?a12_Seen ?a12_Count ?a12_Joined ?a12_NoSquare ?a12_Ring ?a13 ?a14_Puzzle ?a15_Puzzle ?a16_Puzzle ?a17 ?a18 ?a19 ?a20 ?a21 ?a22 ?a23 ?a24 ?a25 ?a26 ?a27 ?a28 ?a29 ?a30 ?a31 ?a32 ?a33 ?a34 ?a35 ?a36 ?a37 ?a38 ?a39 ?a40 ?a41 ?a42 ?a43 ?a44 ?a45 ?a46 ?a47 ?a48 ?a49 ?a50 ?a51 ?a52 ?a53 ?a54 ?a55 ?a56 ?a57 ?a58 ?a59 ?a60 ?a61 ?a62 ?a63 ?a64 ?a65 ?a66 ?Eu ?a68 ?a69 ?a70 ?l0 ?c0 ?k0 ?l1 ?c1 ?k1 ?l2 ?c2 ?k2 ?l3 ?c3 ?k3 ?l4 ?c4 ?k4 ?l5 ?c5 ?k5 ?l6 ?c6 ?k6 ?l7 ?c7 ?k7 ?l8 ?c8 ?k8 ?l9 ?c9 ?k9 ?fn9 ?l10 ?c10 ?k10 ?fn10 ?l11 ?c11 ?k11 ?fn11 ?l12 ?c12 ?k12 ?fn12 ?l13 ?c13 ?k13 ?l14 ?c14 ?k14 ?fn14 ?l15 ?c15 ?k15 ?fn15 ?l16 ?c16 ?k16 ?fn16 ?l17 ?c17 ?k17 ?l18 ?c18 ?k18 ?l19 ?c19 ?k19 ?l20 ?c20 ?k20 ?l21 ?c21 ?k21 ?l22 ?c22 ?k22 ?l23 ?c23 ?k23 ?l24 ?c24 ?k24 ?l25 ?c25 ?k25 ?l26 ?c26 ?k26 ?l27 ?c27 ?k27 ?l28 ?c28 ?k28 ?l29 ?c29 ?k29 ?l30 ?c30 ?k30 ?l31 ?c31 ?k31 ?l32 ?c32 ?k32 ?l33 ?c33 ?k33 ?l34 ?c34 ?k34 ?l35 ?c35 ?k35 ?l36 ?c36 ?k36 ?l37 ?c37 ?k37 ?l38 ?c38 ?k38 ?l39 ?c39 ?k39 ?l40 ?c40 ?k40 ?l41 ?c41 ?k41 ?l42 ?c42 ?k42 ?l43 ?c43 ?k43 ?l44 ?c44 ?k44 ?l45 ?c45 ?k45 ?l46 ?c46 ?k46 ?l47 ?c47 ?k47 ?l48 ?c48 ?k48 ?l49 ?c49 ?k49 ?l50 ?c50 ?k50 ?l51 ?c51 ?k51 ?l52 ?c52 ?k52 ?l53 ?c53 ?k53 ?l54 ?c54 ?k54 ?l55 ?c55 ?k55 ?l56 ?c56 ?k56 ?l57 ?c57 ?k57 ?l58 ?c58 ?k58 ?l59 ?c59 ?k59 ?l60 ?c60 ?k60 ?l61 ?c61 ?k61 ?l62 ?c62 ?k62 ?l63 ?c63 ?k63 ?l64 ?c64 ?k64 ?l65 ?c65 ?k65 ?l66 ?c66 ?k66 ?l67 ?c67 ?k67 ?fn67 ?l68 ?c68 ?k68 ?l69 ?c69 ?k69 ?l70 ?c70 ?k70 ?Ev ?Ew ?Ex ?Ey ?Ez ?EA ?GJ ?GK ?GL ?GM ?GN ?GO ?EB ?EC ?ED ?EE ?EF ?EG ?Gb ?Gc ?Gd ?Ge ?Gf ?Gg ?Ft ?Fu ?Fv ?Fw ?Fx ?Fy ?EH ?EI ?EJ ?EK ?EL ?EM ?Ef ?Eg ?Eh ?Ei ?Ej ?Ek ?Gh ?Gi ?Gj ?Gk ?Gm ?Gn ?EN ?EO ?EQ ?ER ?ES ?ET ?Ch ?Da ?Ci ?CK ?Cm ?Cj ?BO ?CL ?Cn ?Dm ?Co ?Db ?CM ?Cp ?BR ?Dc ?Cq ?Dn ?Cr ?Dd ?CN ?Cs ?BS ?De ?CO ?DD ?CP ?Do ?Df ?CQ ?Ck ?Dp ?Ct ?Dq ?Cu ?Dg ?CS ?Cv ?BT ?Dh ?Cw ?Cy ?CT ?Fz ?FA ?Dr ?Ds ?CU ?CV ?CW ?CY ?Di ?Dj ?DE ?DF ?Cz ?CA ?BU ?BV ?BW ?BX ?BY ?BZ ?B0 ?B1 ?B2 ?B3 ?B4 ?B5 ?B6 ?B7 ?B8 ?B9 ?Ca ?Cb ?EU ?DG ?Dk ?Dt ?DH ?El ?DI ?z_len ?z_abs ?z_min ?z_max ?z_sorted ?z_any ?z_isinstance ?z_list ?z_int ?z_bool ?z_str ?z_tuple ?z_reversed ?z_set ?z_range ?z_zip ?z_all ?z_sum ?z_enumerate ?z_divmod
    (case FV => k_is)
    (case q_Sum => k_is)
    (case FW => k_is)
    (case G4 => k_is)
    (case GH => k_is)
    (case FX => k_is)
    (case Ep => k_is)
    (case G5 => k_is)
    (case FY => k_is)
    (case a0 => k_is)
    (case a1 => k_is)
    (case a2 => k_is)
    (case a3 => k_is)
    (case a4 => k_is)
    (case a5 => k_is)
    (case a6 => k_is)
    (case a7 => k_is)
    (case a8 => k_is)
    (case Er => k_is)
    (case GI => k_is)
    (case Es => k_is)
    (case FZ => k_is)
    (case Fs => k_is)
    (case Et => k_is)
    (case Ee => k_is)
    (case Ga => k_is)
    (case a10_Unlike => k_is)
    (case a10_Sum => k_is)
    (case a10_Rising => k_is)
    (case a10_Seen => k_is)
    (case a10_Count => k_is)
    (case a10_Joined => k_is)
    (case a10_NoSquare => k_is)
    (case a10_Ring => k_is)
    (case a11_Unlike => k_is)
    (case a11_Sum => k_is)
    (case a11_Rising => k_is)
    (case a11_Seen => k_is)
    (case a11_Count => k_is)
    (case a11_Joined => k_is)
    (case a11_NoSquare => k_is)
    (case a11_Ring => k_is)
    (case a12_Unlike => k_is)
    (case a12_Sum => k_is)
    (case a12_Rising => k_is)
    (case a12_Seen => k_is)
    (case a12_Count => k_is)
    (case a12_Joined => k_is)
    (case a12_NoSquare => k_is)
    (case a12_Ring => k_is)
    (case a13 => k_is)
    (case a14_Puzzle => k_is)
    (case a15_Puzzle => k_is)
    (case a16_Puzzle => k_is)
    (case a17 => k_is)
    (case a18 => k_is)
    (case a19 => k_is)
    (case a20 => k_is)
    (case a21 => k_is)
    (case a22 => k_is)
    (case a23 => k_is)
    (case a24 => k_is)
    (case a25 => k_is)
    (case a26 => k_is)
    (case a27 => k_is)
    (case a28 => k_is)
    (case a29 => k_is)
    (case a30 => k_is)
    (case a31 => k_is)
    (case a32 => k_is)
    (case a33 => k_is)
    (case a34 => k_is)
    (case a35 => k_is)
    (case a36 => k_is)
    (case a37 => k_is)
    (case a38 => k_is)
    (case a39 => k_is)
    (case a40 => k_is)
    (case a41 => k_is)
    (case a42 => k_is)
    (case a43 => k_is)
    (case a44 => k_is)
    (case a45 => k_is)
    (case a46 => k_is)
    (case a47 => k_is)
    (case a48 => k_is)
    (case a49 => k_is)
    (case a50 => k_is)
    (case a51 => k_is)
    (case a52 => k_is)
    (case a53 => k_is)
    (case a54 => k_is)
    (case a55 => k_is)
    (case a56 => k_is)
    (case a57 => k_is)
    (case a58 => k_is)
    (case a59 => k_is)
    (case a60 => k_is)
    (case a61 => k_is)
    (case a62 => k_is)
    (case a63 => k_is)
    (case a64 => k_is)
    (case a65 => k_is)
    (case a66 => k_is)
    (case Eu => k_is)
    (case a68 => k_is)
    (case a69 => k_is)
    (case a70 => k_is)
    (case l0 => k_is)
    (case c0 => k_is)
    (case k0 => k_is)
    (case l1 => k_is)
    (case c1 => k_is)
    (case k1 => k_is)
    (case l2 => k_is)
    (case c2 => k_is)
    (case k2 => k_is)
    (case l3 => k_is)
    (case c3 => k_is)
    (case k3 => k_is)
    (case l4 => k_is)
    (case c4 => k_is)
    (case k4 => k_is)
    (case l5 => k_is)
    (case c5 => k_is)
    (case k5 => k_is)
    (case l6 => k_is)
    (case c6 => k_is)
    (case k6 => k_is)
    (case l7 => k_is)
    (case c7 => k_is)
    (case k7 => k_is)
    (case l8 => k_is)
    (case c8 => k_is)
    (case k8 => k_is)
    (case l9 => k_is)
    (case c9 => k_is)
    (case k9 => k_is)
    (case fn9 => k_is)
    (case l10 => k_is)
    (case c10 => k_is)
    (case k10 => k_is)
    (case fn10 => k_is)
    (case l11 => k_is)
    (case c11 => k_is)
    (case k11 => k_is)
    (case fn11 => k_is)
    (case l12 => k_is)
    (case c12 => k_is)
    (case k12 => k_is)
    (case fn12 => k_is)
    (case l13 => k_is)
    (case c13 => k_is)
    (case k13 => k_is)
    (case l14 => k_is)
    (case c14 => k_is)
    (case k14 => k_is)
    (case fn14 => k_is)
    (case l15 => k_is)
    (case c15 => k_is)
    (case k15 => k_is)
    (case fn15 => k_is)
    (case l16 => k_is)
    (case c16 => k_is)
    (case k16 => k_is)
    (case fn16 => k_is)
    (case l17 => k_is)
    (case c17 => k_is)
    (case k17 => k_is)
    (case l18 => k_is)
    (case c18 => k_is)
    (case k18 => k_is)
    (case l19 => k_is)
    (case c19 => k_is)
    (case k19 => k_is)
    (case l20 => k_is)
    (case c20 => k_is)
    (case k20 => k_is)
    (case l21 => k_is)
    (case c21 => k_is)
    (case k21 => k_is)
    (case l22 => k_is)
    (case c22 => k_is)
    (case k22 => k_is)
    (case l23 => k_is)
    (case c23 => k_is)
    (case k23 => k_is)
    (case l24 => k_is)
    (case c24 => k_is)
    (case k24 => k_is)
    (case l25 => k_is)
    (case c25 => k_is)
    (case k25 => k_is)
    (case l26 => k_is)
    (case c26 => k_is)
    (case k26 => k_is)
    (case l27 => k_is)
    (case c27 => k_is)
    (case k27 => k_is)
    (case l28 => k_is)
    (case c28 => k_is)
    (case k28 => k_is)
    (case l29 => k_is)
    (case c29 => k_is)
    (case k29 => k_is)
    (case l30 => k_is)
    (case c30 => k_is)
    (case k30 => k_is)
    (case l31 => k_is)
    (case c31 => k_is)
    (case k31 => k_is)
    (case l32 => k_is)
    (case c32 => k_is)
    (case k32 => k_is)
    (case l33 => k_is)
    (case c33 => k_is)
    (case k33 => k_is)
    (case l34 => k_is)
    (case c34 => k_is)
    (case k34 => k_is)
    (case l35 => k_is)
    (case c35 => k_is)
    (case k35 => k_is)
    (case l36 => k_is)
    (case c36 => k_is)
    (case k36 => k_is)
    (case l37 => k_is)
    (case c37 => k_is)
    (case k37 => k_is)
    (case l38 => k_is)
    (case c38 => k_is)
    (case k38 => k_is)
    (case l39 => k_is)
    (case c39 => k_is)
    (case k39 => k_is)
    (case l40 => k_is)
    (case c40 => k_is)
    (case k40 => k_is)
    (case l41 => k_is)
    (case c41 => k_is)
    (case k41 => k_is)
    (case l42 => k_is)
    (case c42 => k_is)
    (case k42 => k_is)
    (case l43 => k_is)
    (case c43 => k_is)
    (case k43 => k_is)
    (case l44 => k_is)
    (case c44 => k_is)
    (case k44 => k_is)
    (case l45 => k_is)
    (case c45 => k_is)
    (case k45 => k_is)
    (case l46 => k_is)
    (case c46 => k_is)
    (case k46 => k_is)
    (case l47 => k_is)
    (case c47 => k_is)
    (case k47 => k_is)
    (case l48 => k_is)
    (case c48 => k_is)
    (case k48 => k_is)
    (case l49 => k_is)
    (case c49 => k_is)
    (case k49 => k_is)
    (case l50 => k_is)
    (case c50 => k_is)
    (case k50 => k_is)
    (case l51 => k_is)
    (case c51 => k_is)
    (case k51 => k_is)
    (case l52 => k_is)
    (case c52 => k_is)
    (case k52 => k_is)
    (case l53 => k_is)
    (case c53 => k_is)
    (case k53 => k_is)
    (case l54 => k_is)
    (case c54 => k_is)
    (case k54 => k_is)
    (case l55 => k_is)
    (case c55 => k_is)
    (case k55 => k_is)
    (case l56 => k_is)
    (case c56 => k_is)
    (case k56 => k_is)
    (case l57 => k_is)
    (case c57 => k_is)
    (case k57 => k_is)
    (case l58 => k_is)
    (case c58 => k_is)
    (case k58 => k_is)
    (case l59 => k_is)
    (case c59 => k_is)
    (case k59 => k_is)
    (case l60 => k_is)
    (case c60 => k_is)
    (case k60 => k_is)
    (case l61 => k_is)
    (case c61 => k_is)
    (case k61 => k_is)
    (case l62 => k_is)
    (case c62 => k_is)
    (case k62 => k_is)
    (case l63 => k_is)
    (case c63 => k_is)
    (case k63 => k_is)
    (case l64 => k_is)
    (case c64 => k_is)
    (case k64 => k_is)
    (case l65 => k_is)
    (case c65 => k_is)
    (case k65 => k_is)
    (case l66 => k_is)
    (case c66 => k_is)
    (case k66 => k_is)
    (case l67 => k_is)
    (case c67 => k_is)
    (case k67 => k_is)
    (case fn67 => k_is)
    (case l68 => k_is)
    (case c68 => k_is)
    (case k68 => k_is)
    (case l69 => k_is)
    (case c69 => k_is)
    (case k69 => k_is)
    (case l70 => k_is)
    (case c70 => k_is)
    (case k70 => k_is)
    (case Ev => k_is)
    (case Ew => k_is)
    (case Ex => k_is)
    (case Ey => k_is)
    (case Ez => k_is)
    (case EA => k_is)
    (case GJ => k_is)
    (case GK => k_is)
    (case GL => k_is)
    (case GM => k_is)
    (case GN => k_is)
    (case GO => k_is)
    (case EB => k_is)
    (case EC => k_is)
    (case ED => k_is)
    (case EE => k_is)
    (case EF => k_is)
    (case EG => k_is)
    (case Gb => k_is)
    (case Gc => k_is)
    (case Gd => k_is)
    (case Ge => k_is)
    (case Gf => k_is)
    (case Gg => k_is)
    (case Ft => k_is)
    (case Fu => k_is)
    (case Fv => k_is)
    (case Fw => k_is)
    (case Fx => k_is)
    (case Fy => k_is)
    (case EH => k_is)
    (case EI => k_is)
    (case EJ => k_is)
    (case EK => k_is)
    (case EL => k_is)
    (case EM => k_is)
    (case Ef => k_is)
    (case Eg => k_is)
    (case Eh => k_is)
    (case Ei => k_is)
    (case Ej => k_is)
    (case Ek => k_is)
    (case Gh => k_is)
    (case Gi => k_is)
    (case Gj => k_is)
    (case Gk => k_is)
    (case Gm => k_is)
    (case Gn => k_is)
    (case EN => k_is)
    (case EO => k_is)
    (case EQ => k_is)
    (case ER => k_is)
    (case ES => k_is)
    (case ET => k_is)
    (case Ch => k_is)
    (case Da => k_is)
    (case Ci => k_is)
    (case CK => k_is)
    (case Cm => k_is)
    (case Cj => k_is)
    (case BO => k_is)
    (case CL => k_is)
    (case Cn => k_is)
    (case Dm => k_is)
    (case Co => k_is)
    (case Db => k_is)
    (case CM => k_is)
    (case Cp => k_is)
    (case BR => k_is)
    (case Dc => k_is)
    (case Cq => k_is)
    (case Dn => k_is)
    (case Cr => k_is)
    (case Dd => k_is)
    (case CN => k_is)
    (case Cs => k_is)
    (case BS => k_is)
    (case De => k_is)
    (case CO => k_is)
    (case DD => k_is)
    (case CP => k_is)
    (case Do => k_is)
    (case Df => k_is)
    (case CQ => k_is)
    (case Ck => k_is)
    (case Dp => k_is)
    (case Ct => k_is)
    (case Dq => k_is)
    (case Cu => k_is)
    (case Dg => k_is)
    (case CS => k_is)
    (case Cv => k_is)
    (case BT => k_is)
    (case Dh => k_is)
    (case Cw => k_is)
    (case Cy => k_is)
    (case CT => k_is)
    (case Fz => k_is)
    (case FA => k_is)
    (case Dr => k_is)
    (case Ds => k_is)
    (case CU => k_is)
    (case CV => k_is)
    (case CW => k_is)
    (case CY => k_is)
    (case Di => k_is)
    (case Dj => k_is)
    (case DE => k_is)
    (case DF => k_is)
    (case Cz => k_is)
    (case CA => k_is)
    (case BU => k_is)
    (case BV => first | exact rfl | with_unfolding_all rfl)
    (case BW => k_is)
    (case BX => first | exact rfl | with_unfolding_all rfl)
    (case BY => k_is)
    (case BZ => first | exact rfl | with_unfolding_all rfl)
    (case B0 => k_is)
    (case B1 => first | exact rfl | with_unfolding_all rfl)
    (case B2 => k_is)
    (case B3 => first | exact rfl | with_unfolding_all rfl)
    (case B4 => k_is)
    (case B5 => first | exact rfl | with_unfolding_all rfl)
    (case B6 => k_is)
    (case B7 => first | exact rfl | with_unfolding_all rfl)
    (case B8 => k_is)
    (case B9 => first | exact rfl | with_unfolding_all rfl)
    (case Ca => k_is)
    (case Cb => first | exact rfl | with_unfolding_all rfl)
    (case EU => k_is)
    (case DG => k_is)
    (case Dk => k_is)
    (case Dt => k_is)
    (case DH => k_is)
    (case El => k_is)
    (case DI => k_is)
    (case z_len => k_is)
    (case z_abs => k_is)
    (case z_min => k_is)
    (case z_max => k_is)
    (case z_sorted => k_is)
    (case z_any => k_is)
    (case z_isinstance => k_is)
    (case z_list => k_is)
    (case z_int => k_is)
    (case z_bool => k_is)
    (case z_str => k_is)
    (case z_tuple => k_is)
    (case z_reversed => k_is)
    (case z_set => k_is)
    (case z_range => k_is)
    (case z_zip => k_is)
    (case z_all => k_is)
    (case z_sum => k_is)
    (case z_enumerate => k_is)
    (case z_divmod => k_is)
