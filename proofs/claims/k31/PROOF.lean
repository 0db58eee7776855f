import PyProof.Rows.All
import Wide.All
import OpenK.AllK
import Wide.FinOn
import Lean
import PyProof.EqAt
import PyProof.EqKinds
import PyProof.TupleCall
import PyProof.ZipIter
import PyProof.ConsumeS
import PyProof.StrCalls2
import PyProof.StrWalks
import PyProof.SliceStr2
import PyProof.StrBlock
import PyProof.StrBlockL
import PyProof.ListIndex
import PyProof.StrLawsTight
import PyProof.StrLawsChain
import PyProof.StrLaws
import PyProof.StrLawsFirst
import PyProof.StationsW
import PyProof.ExcClass3
import PyProof.NsDelKeeps
import PyProof.RulesAs
import PyProof.ExcBaseAll.ValueError
import PyProof.ExcArgsOwn
import PyProof.ExcAttrAll.ValueError
import KE.KTryMore
import KE.RegKTryMore
import KE.RegKIsAll
import PyProof.Rows.Range3
import PyProof.Rows.SumGenD
import PyProof.Rows.RuleM_int
import PyProof.EnumMake
import PyProof.EnumFor
import PyProof.EnumStmt
import PyProof.Rows.EnumRows
import KE.KRevIter
import PyProof.ListNew
import PyProof.CollectIter
import PyProof.ListRange
import PyProof.CallStr
import PyProof.StrBlock2
import PyProof.Rows.StrMadeLen
import PyProof.Rows.SetFrom
import PyProof.SetRoads
import PyProof.MeetsStr2
import KE.KRevSl
import PyProof.Conv_int
import PySem.Challenge.RW_cluemaker_k31_what_it_rests_on
set_option Elab.async false
set_option linter.all false
set_option maxRecDepth 100000
namespace L2
open PySem PySem.Spec PyProof.Rows
abbrev Key:=Sum Int Str
def keyIs:Key→Value→Bool
 | .inl k,v=>Value.isInt k v
 | .inr x,v=>Value.isStrOf x v
def keyH (w:World):Key→Int
 | .inl k=>hashInt k
 | .inr x=>hashStr w x
theorem ce:∀ {k:Key} {v:Value},keyIs k v=true→(∃ i t,k=Sum.inl i∧v=Value.int i t)∨(∃ x t,k=Sum.inr x∧v=Value.str x t)
 | .inl i,v,h=>by
  obtain ⟨t,e⟩:=Value.isInt_shape (k:=i) (v:=v) h
  exact .inl ⟨i,t,rfl,e⟩
 | .inr x,v,h=>by
  obtain ⟨t,e⟩:=Value.isStrOf_shape (x:=x) (v:=v) h
  exact .inr ⟨x,t,rfl,e⟩
theorem wu (i:Int) (t:Tok):keyIs (.inl i) (.int i t)=true:=by simp [keyIs,Value.isInt]
theorem wv (x:Str) (t:Tok):keyIs (.inr x) (.str x t)=true:=by simp [keyIs,Value.isStrOf]
theorem zp (a b:Int):decide ((Sum.inl a:Key)=Sum.inl b)=(a==b):=by
 by_cases e:a=b
 · subst e; simp
 · have h:¬ (Sum.inl a:Key)=Sum.inl b:=fun q=>e (Sum.inl.inj q)
   rw [decide_eq_false h]
   exact (beq_eq_false_iff_ne.mpr e).symm
theorem zq (a b:Str):decide ((Sum.inr a:Key)=Sum.inr b)=decide (a=b):=by
 by_cases e:a=b
 · subst e; simp
 · have h:¬ (Sum.inr a:Key)=Sum.inr b:=fun q=>e (Sum.inr.inj q)
   rw [decide_eq_false h,decide_eq_false e]
theorem zr (a:Int) (b:Str):decide ((Sum.inl a:Key)=Sum.inr b)=false:=decide_eq_false (fun q=>nomatch q)
theorem zt (a:Str) (b:Int):decide ((Sum.inr a:Key)=Sum.inl b)=false:=decide_eq_false (fun q=>nomatch q)
def cJ (prog:Program) (w:World):PySem.KeyKind prog w Key where
 is:=keyIs
 hash:=keyH w
 inj:=fun v a b ha hb=>by
  rcases ce ha with ⟨i,t,rfl,rfl⟩ | ⟨x,t,rfl,rfl⟩
  · rcases ce hb with ⟨j,u,rfl,e⟩ | ⟨y,u,rfl,e⟩
    · injection e with e1 _; rw [e1]
    · exact nomatch e
  · rcases ce hb with ⟨j,u,rfl,e⟩ | ⟨y,u,rfl,e⟩
    · exact nomatch e
    · injection e with e1 _; rw [e1]
 byValue:=fun k v h=>by
  rcases ce h with ⟨i,t,rfl,rfl⟩ | ⟨x,t,rfl,rfl⟩ <;> rfl
 pyHash:=fun hv h=>by
  rcases ce hv with ⟨i,t,rfl,rfl⟩ | ⟨x,t,rfl,rfl⟩
  · exact wpAny_pyHash_int h
  · exact wpAny_pyHash_str h
 eqBool:=fun hu hv h=>by
  rcases ce hu with ⟨i,t,rfl,rfl⟩ | ⟨x,t,rfl,rfl⟩
  · rcases ce hv with ⟨j,u,rfl,rfl⟩ | ⟨y,u,rfl,rfl⟩
    · rw [zp] at h; exact wpAny_eqBool_int h
    · rw [zr] at h; exact SeqAt.EqAt.int_str i t y u _ _ _ _ h
  · rcases ce hv with ⟨j,u,rfl,rfl⟩ | ⟨y,u,rfl,rfl⟩
    · rw [zt] at h; exact SeqAt.EqAt.str_int x t j u _ _ _ _ h
    · rw [zq] at h; exact wpAny_eqBool_str h
 «strs»:=fun k x t v h=>by
  rcases ce h with ⟨i,u,rfl,e⟩ | ⟨y,u,rfl,e⟩
  · exact nomatch e
  · injection e with e1 _
    subst e1
    cases v <;> rfl
theorem uj (prog:Program) (w:World) (i:Int) (t:Tok):(cJ prog w).is (.inl i) (.int i t)=true:=wu i t
theorem uk (prog:Program) (w:World) (x:Str) (t:Tok):(cJ prog w).is (.inr x) (.str x t)=true:=wv x t
end L2
namespace L2
open PySem PySem.Spec PyProof.Rows
inductive V where
 | non | bl (b:Bool) | int (i:Int) | str (x:Str) | byt (b:Array UInt8) | flt (b:UInt64) | ref (a:Addr) | ty (n:String)
 deriving DecidableEq
def RelV:V→Value→Prop
 | .non,u=>u=Value.none
 | .bl b,u=>u=Value.bool b
 | .int i,u=>∃ t,u=Value.int i t
 | .str x,u=>∃ t,u=Value.str x t
 | .byt b,u=>∃ t,u=Value.bytes b t
 | .flt b,u=>∃ t,u=Value.float b t
 | .ref a,u=>u=Value.ref a
 | .ty n,u=>u=Value.type n
abbrev Vals:List V→List Value→Prop:=Paired RelV
theorem Vals.length {xs:List V} {us:List Value} (r:Vals xs us):xs.length=us.length:=Paired.length r
theorem Vals.get:∀ {xs:List V} {us:List Value} {i:Nat} {x:V},Vals xs us→xs[i]? =some x→∃ u,us[i]? =some u∧RelV x u
 | _,_,_,_,.nil,e=>by simp at e
 | _,_,0,_,.cons r _,e=>by simp at e; subst e; exact ⟨_,rfl,r⟩
 | _,_,i+1,x,.cons _ t,e=>by
  obtain ⟨u,h1,h2⟩:=Vals.get (i:=i) (x:=x) t (by simpa using e)
  exact ⟨u,by simpa using h1,h2⟩
theorem Vals.append:∀ {xs ys:List V} {us ws:List Value},Vals xs us→Vals ys ws→Vals (xs++ys) (us++ws)
 | _,_,_,_,.nil,s=>s
 | _,_,_,_,.cons r t,s=>.cons r (Vals.append t s)
theorem Vals.take:∀ {xs:List V} {us:List Value} (n:Nat),Vals xs us→Vals (xs.take n) (us.take n)
 | _,_,0,_=>.nil
 | _,_,_+1,.nil=>.nil
 | _,_,n+1,.cons r t=>.cons r (Vals.take n t)
theorem Vals.drop:∀ {xs:List V} {us:List Value} (n:Nat),Vals xs us→Vals (xs.drop n) (us.drop n)
 | _,_,0,r=>r
 | _,_,_+1,.nil=>.nil
 | _,_,n+1,.cons _ t=>Vals.drop n t
def RelO:Option V→Option Value→Prop
 | some v,some u=>RelV v u
 | none,none=>True
 | _,_=>False
def KV {κ:Type}:List (κ × V)→List (κ × Value)→Prop:=Paired fun (p:κ × V) (q:κ × Value)=>p.1=q.1∧RelV p.2 q.2
def kV:Key→V
 | .inl i=>.int i
 | .inr x=>.str x
inductive HO where
  | lst (xs:List V)
  | tup (xs:List V)
  | dK (kvs:List (Key × V)) | dT (kvs:List (List Key × V))
  | set (S:Int→Bool) (n:Nat)
  | ins (C dx:Addr) (fs:List (Str × V))
  | own (x:Addr)
  | xd (fs:List (Str × V))
  | met (f x:Addr)
  | rng (lo hi:Int)
  | frz (o:Obj) (u:HO)
  | tbl (ps:Array Value)
  | ext (φ:Heap→Prop)
abbrev Hp:=Addr→Option HO
def upd (H:Hp) (a:Addr) (o:HO):Hp:=fun b=>if b=a then some o else H b
theorem ah {H:Hp} {a:Addr} {o:HO}:upd H a o a=some o:=by unfold upd; rw [if_pos rfl]
theorem av {H:Hp} {a b:Addr} {o:HO} (h:b≠a):upd H a o b=H b:=by unfold upd; rw [if_neg h]
theorem Aj {H:Hp} {a b:Addr} {o u:HO} (h:H a=some o) (h':H b=some u) (d:o≠u):a≠b:=by
 intro e; subst e; rw [h] at h'; exact d (Option.some.inj h')
theorem aH {H:Hp} {a b:Addr} {o:HO} (h:H a=some o) (h':H b=none):a≠b:=by
 intro e; subst e; rw [h] at h'; cases h'
section
variable (P:Program) (w:World)
def ObjOk (H:Hp) (h:Heap) (a:Addr):HO→Prop
 | .lst xs=>xs.length≤sizeLine∧∃ (its:List Value) (n:Nat),Vals xs its∧h.get? a=some { cls:=.type "list",data:=.seq its.toArray n }
 | .tup xs=>xs.length≤sizeLine∧∃ its:List Value,Vals xs its∧IsTup h a its.toArray
 | .dK kvs=>kvs.length≤sizeLine∧(a==sysModules)=false∧∃ vs,KV kvs vs∧h.DictOf (cJ P w) a vs
 | .dT kvs=>kvs.length≤sizeLine∧(a==sysModules)=false∧∃ xs:List (List Key × Addr × Value),
   Paired (fun (p:List Key × V) (q:List Key × Addr × Value)=>p.1=q.1∧H q.2.1=some (.tup (p.1.map kV))∧RelV p.2 q.2.2) kvs xs∧
   ∃ o es ep,h.get? a=some o∧o.ExactDict∧o.data=.dict es ep∧es.toList=xs.map (entryOfKey (tupleKind (cJ P w)))∧(xs.map (·.1)).Nodup
 | .set S n=>h.SetOf (intKind P w) a S n
 | .ins C dx fs=>H dx=some (.own a)∧fs.length≤1000∧dx≠a∧h.get? a=some (PySem.W.instObj C dx)∧
   ∃ mA,h.Ns1 dx mA∧(∀ f,RelO (fs.lookup f) (mA f))∧PySem.Within mA (fs.map (·.1))
 | .own _=>∃ o,h.get? a=some o
 | .xd fs=>∃ mA,h.Ns1 a mA∧∀ f,RelO (fs.lookup f) (mA f)
 | .rng lo hi=>∃ t u v,h.get? a=some { cls:=.type "range",data:=.fields #[.int lo t,.int hi u,.int 1 v] }
 | .frz o u=>h.get? a=some o∧ObjOk H h a u
 | .tbl ps=>h.get? a=some { cls:=.none,data:=.fields ps }
 | .met f x=>h.get? a=some (PySem.W.methodObj (.ref f) (.ref x))
 | .ext φ=>φ h∧(∃ o,h.get? a=some o)∧∀ h1 h2:Heap,φ h1→(∀ o,h1.get? a=some o→h2.get? a=some o)→φ h2
def HOk (H:Hp) (h:Heap):Prop:=∀ a o,H a=some o→ObjOk P w H h a o
end
section
variable {P:Program} {w:World} {H H':Hp} {h h':Heap} {a:Addr} {o:HO}
theorem ObjOk.lt (x:ObjOk P w H h a o):a < h.objs.size:=by
 cases o with
 | lst xs=>obtain ⟨_,_,_,_,e⟩:=x; exact Heap.lt_size e
 | tup xs=>obtain ⟨_,_,_,p⟩:=x; exact p.lt
 | dK kvs=>obtain ⟨_,_,_,_,o,_,_,e,_⟩:=x; exact Heap.lt_size e
 | dT kvs=>obtain ⟨_,_,_,_,o,_,_,e,_⟩:=x; exact Heap.lt_size e
 | set S n=>obtain ⟨o,_,_,_,e,_⟩:=x; exact Heap.lt_size e
 | ins C dx fs=>obtain ⟨_,_,_,e,_⟩:=x; exact Heap.lt_size e
 | own y=>obtain ⟨_,e⟩:=x; exact Heap.lt_size e
 | xd fs=>obtain ⟨_,⟨_,_,_,e,_⟩,_⟩:=x; exact Heap.lt_size e
 | rng lo hi=>obtain ⟨_,_,_,e⟩:=x; exact Heap.lt_size e
 | frz ob u=>obtain ⟨e,_⟩:=x; exact Heap.lt_size e
 | tbl ps=>exact Heap.lt_size (show h.get? a=some _ from x)
 | met f y=>exact Heap.lt_size (show h.get? a=some _ from x)
 | ext φ=>obtain ⟨_,⟨_,e⟩,_⟩:=x; exact Heap.lt_size e
theorem Paired.mapP {α β:Type} {F G:α→β→Prop}:∀ {l₁:List α} {l₂:List β},Paired F l₁ l₂→(∀ a b,F a b→G a b)→Paired G l₁ l₂
 | _,_,.nil,_=>.nil
 | _,_,.cons r t,f=>.cons (f _ _ r) (Paired.mapP t f)
theorem ObjOk.stay (x:ObjOk P w H h a o) (k:∀ b u,(b=a∨H b=some (.own a))→h.get? b=some u→h'.get? b=some u)
  (ho:∀ b,H b=some (.own a)→H' b=some (.own a)) (ht:∀ b xs,H b=some (.tup xs)→H' b=some (.tup xs)):ObjOk P w H' h' a o:=by
 induction o with
 | lst xs=>obtain ⟨z,its,n,r,e⟩:=x; exact ⟨z,its,n,r,k _ _ (.inl rfl) e⟩
 | tup xs=>obtain ⟨z,its,r,ob,e,c⟩:=x; exact ⟨z,its,r,ob,k _ _ (.inl rfl) e,c⟩
 | dK kvs=>obtain ⟨z,y,vs,r,ob,es,ep,e,c⟩:=x; exact ⟨z,y,vs,r,ob,es,ep,k _ _ (.inl rfl) e,c⟩
 | dT kvs=>
  obtain ⟨z,y,xs,r,ob,es,ep,e,c⟩:=x
  exact ⟨z,y,xs,Paired.mapP r fun p q z=>⟨z.1,ht _ _ z.2.1,z.2.2⟩,ob,es,ep,k _ _ (.inl rfl) e,c⟩
 | set S n=>obtain ⟨ob,es,ep,t,e,c⟩:=x; exact ⟨ob,es,ep,t,k _ _ (.inl rfl) e,c⟩
 | ins C dx fs=>
  obtain ⟨d,z,ne,e,mA,⟨od,es,ep,e2,c⟩,r⟩:=x
  exact ⟨ho _ d,z,ne,k _ _ (.inl rfl) e,mA,⟨od,es,ep,k _ _ (.inr d) e2,c⟩,r⟩
 | own y=>obtain ⟨ob,e⟩:=x; exact ⟨ob,k _ _ (.inl rfl) e⟩
 | xd fs=>obtain ⟨mA,⟨od,es,ep,e,c⟩,r⟩:=x; exact ⟨mA,⟨od,es,ep,k _ _ (.inl rfl) e,c⟩,r⟩
 | rng lo hi=>obtain ⟨t,u,v,e⟩:=x; exact ⟨t,u,v,k _ _ (.inl rfl) e⟩
 | frz ob u ih=>obtain ⟨e,q⟩:=x; exact ⟨k _ _ (.inl rfl) e,ih q⟩
 | tbl ps=>
  have e:h.get? a=some { cls:=.none,data:=.fields ps }:=x
  show h'.get? a=some { cls:=.none,data:=.fields ps }
  exact k a _ (.inl rfl) e
 | met f y=>
  have e:h.get? a=some (PySem.W.methodObj (.ref f) (.ref y)):=x
  show h'.get? a=some (PySem.W.methodObj (.ref f) (.ref y))
  exact k a _ (.inl rfl) e
 | ext φ=>obtain ⟨p,⟨o,e⟩,st⟩:=x; exact ⟨st _ _ p fun o q=>k _ _ (.inl rfl) q,⟨o,k _ _ (.inl rfl) e⟩,st⟩
theorem HOk.lt (x:HOk P w H h) (e:H a=some o):a < h.objs.size:=(x a o e).lt
theorem HOk.fresh (x:HOk P w H h) (e:h.objs.size≤a):H a=none:=by
 cases q:H a with
 | none=>rfl
 | some u=>exact absurd (Nat.lt_of_lt_of_le (x.lt q) e) (Nat.lt_irrefl _)
theorem HOk.kept (x:HOk P w H h) (k:∀ b u,h.get? b=some u→h'.get? b=some u):HOk P w H h':=fun a o e=>
 (x a o e).stay (fun b u _ q=>k b u q) (fun _ q=>q) fun _ _ q=>q
theorem HOk.laid (x:HOk P w H h) (k:∀ b u,h.get? b=some u→h'.get? b=some u) (hp:h.objs.size≤a) (new:ObjOk P w (upd H a o) h' a o):HOk P w (upd H a o) h':=fun b u e=>by
 have hn:=x.fresh hp
 by_cases hb:b=a
 · subst hb; rw [ah] at e; cases e; exact new
 · rw [av hb] at e
   exact (x b u e).stay (fun c v _ q=>k c v q) (fun c q=>by rw [av (aH q hn)]; exact q) fun c xs q=>by rw [av (aH q hn)]; exact q
end
def Rd (H:Hp) (a:Addr) (u:HO):Prop:=H a=some u∨∃ o,H a=some (.frz o u)
theorem Rd.ok {P:Program} {w:World} {H:Hp} {h:Heap} {a:Addr} {u:HO} (r:Rd H a u) (x:HOk P w H h):ObjOk P w H h a u:=by
 rcases r with r | ⟨o,r⟩
 · exact x a u r
 · obtain ⟨_,q⟩:=x a _ r
   exact q
def Mut:Option HO→Prop
 | some (.lst _)=>True
 | some (.dK _)=>True
 | some (.dT _)=>True
 | some (.set _ _)=>True
 | some (.ins _ _ _)=>True
 | some (.ext _)=>True
 | _=>False
section
variable {P:Program} {w:World} {H:Hp} {h h':Heap} {x e:Addr} {o':HO}
theorem HOk.write (ok:HOk P w H h) (mu:Mut (H x)) (he:e=x∨H e=some (.own x)) (k:∀ b u,b≠e→h.get? b=some u→h'.get? b=some u) (heo:∃ u,h'.get? e=some u)
  (new:ObjOk P w (upd H x o') h' x o'):HOk P w (upd H x o') h':=fun b u q=>by
 have nown:∀ c y,H c=some (.own y)→c≠x:=fun c y r z=>by subst z; rw [r] at mu; exact mu
 have ntup:∀ c xs,H c=some (.tup xs)→c≠x:=fun c xs r z=>by subst z; rw [r] at mu; exact mu
 by_cases hb:b=x
 · subst hb; rw [ah] at q; cases q; exact new
 · rw [av hb] at q
   by_cases hbe:b=e
   · have q':H b=some (.own x):=by
      rcases he with z | z
      · exact absurd (hbe.trans z) hb
      · rw [hbe]; exact z
     rw [q] at q'; cases q'
     obtain ⟨v,hv⟩:=heo
     exact ⟨v,by rw [hbe]; exact hv⟩
   · refine (ok b u q).stay (fun c v hc r=>k c v ?_ r) (fun c r=>by rw [av (nown c b r)]; exact r) fun c xs r=>by rw [av (ntup c xs r)]; exact r
     rcases hc with rfl | hc
     · exact hbe
     · rintro rfl
       rcases he with z | z
       · exact nown c b hc z
       · rw [hc] at z; cases z; exact hb rfl
end
structure Un (fs ex:List Addr) (H H':Hp) (h h':Heap):Prop where
 keep:∀ b o,h.get? b=some o→H b=none→b∉fs→b∉ex→h'.get? b=some o
 slot:∀ b o,h.get? b=some o→H b=none→b∈fs→b∉ex→∃ sl,h'.get? b=some { o with slots:=sl }
 free:∀ b o,h.get? b=some o→H b=none→b∉ex→H' b=none
 there:∀ b o,h.get? b=some o→b∉ex→∃ o',h'.get? b=some o'
 tups:∀ b xs,H b=some (.tup xs)→H' b=some (.tup xs)
 frzs:∀ b o u,H b=some (.frz o u)→H' b=some (.frz o u)
 tbls:∀ b ps,H b=some (.tbl ps)→∃ more,H' b=some (.tbl (ps++more))
section
variable {fs fs' ex ex':List Addr} {H H1 H2:Hp} {h h1 h2 h':Heap} {a x e:Addr} {o:HO}
theorem Un.any (u:Un fs ex H H1 h h1) {b:Addr} {ob:Obj} (q:h.get? b=some ob) (n:H b=none) (hx:b∉ex):∃ sl,h1.get? b=some { ob with slots:=sl }:=by
 by_cases hb:b∈fs
 · exact u.slot b ob q n hb hx
 · exact ⟨ob.slots,u.keep b ob q n hb hx⟩
theorem Un.kept (k:∀ b u,h.get? b=some u→h'.get? b=some u):Un fs ex H H h h':=
 ⟨fun b ob q _ _ _=>k b ob q,fun b ob q _ _ _=>⟨ob.slots,k b ob q⟩,fun _ _ _ n _=>n,fun b ob q _=>⟨ob,k b ob q⟩,fun _ _ q=>q,fun _ _ _ q=>q,fun _ ps q=>⟨#[],by rw [q]; simp⟩⟩
theorem Un.refl:Un fs ex H H h h:=Un.kept fun _ _ q=>q
theorem Un.laid (k:∀ b u,h.get? b=some u→h'.get? b=some u) (hp:h.objs.size≤a) (hn:H a=none):Un fs ex H (upd H a o) h h' where
 keep:=fun b u q _ _ _=>k b u q
 slot:=fun b u q _ _ _=>⟨u.slots,k b u q⟩
 free:=fun b u q n _=>by rw [av (Nat.ne_of_lt (Nat.lt_of_lt_of_le (Heap.lt_size q) hp))]; exact n
 there:=fun b u q _=>⟨u,k b u q⟩
 tups:=fun b xs q=>by rw [av (aH q hn)]; exact q
 frzs:=fun b u xs q=>by rw [av (aH q hn)]; exact q
 tbls:=fun b ps q=>⟨#[],by rw [av (aH q hn),q]; simp⟩
theorem Un.write (mu:Mut (H x)) (he:e=x∨H e=some (.own x)) (k:∀ b u,b≠e→h.get? b=some u→h'.get? b=some u) (heo:∃ u,h'.get? e=some u):Un fs ex H (upd H x o) h h':=by
 have hx:∀ b,H b=none→b≠x:=fun b n z=>by subst z; rw [n] at mu; exact mu
 have hb:∀ b,H b=none→b≠e:=fun b n z=>by
  subst z
  rcases he with r | r
  · exact hx b n r
  · rw [n] at r; cases r
 have hm:∀ b u,H b=some u→¬ Mut (some u)→b≠x:=fun b u q nm z=>by subst z; rw [q] at mu; exact nm mu
 refine ⟨fun b u q n _ _=>k b u (hb b n) q,fun b u q n _ _=>⟨u.slots,k b u (hb b n) q⟩,fun b u q n _=>by rw [av (hx b n)]; exact n,fun b u q _=>?_,
  fun b xs q=>by rw [av (hm b _ q fun z=>z)]; exact q,fun b u xs q=>by rw [av (hm b _ q fun z=>z)]; exact q,fun b ps q=>⟨#[],by rw [av (hm b _ q fun z=>z),q]; simp⟩⟩
 by_cases hbe:b=e
 · subst hbe; exact heo
 · exact ⟨u,k b u hbe q⟩
end
def trk (h:Heap) (H:Hp):List Addr:=(List.range h.objs.size).filter fun a=>(H a).isSome
def hidT (h:Heap) (H:Hp):Heap:=PySem.W.hideAll h (trk h H)
theorem ww (h:Heap) (H:Hp):(hidT h H).objs.size=h.objs.size:=PySem.W.hideAll_size _ _
theorem xY {h:Heap} {H:Hp} {b:Addr} {o:Obj} (e:h.get? b=some o) (n:H b=none):(hidT h H).get? b=some o:=
 PySem.W.hideAll_get _ e fun hm=>by
  have q:(H b).isSome=true:=(List.mem_filter.mp hm).2
  rw [n] at q; simp at q
theorem yK {h:Heap} {H:Hp} {b:Addr} {o:Obj} (e:(hidT h H).get? b=some o):h.get? b=some o∧H b=none:=by
 have e':h.get? b=some o:=PySem.W.of_hideAll (trk h H) e
 refine ⟨e',?_⟩
 cases q:H b with
 | none=>rfl
 | some x=>
  have hm:b∈trk h H:=List.mem_filter.mpr ⟨List.mem_range.mpr (Heap.lt_size e'),by simp [q]⟩
  have z:(hidT h H).get? b=none:=PySem.W.hideAll_none (trk h H) hm
  rw [z] at e; cases e
end L2
namespace L2
open PySem PySem.Spec PyProof.Rows
structure Mod (K:PySem.W.Frag) (mg:Str→Option Value) (base:Heap):Prop where
 kin:K.In base
 glob:base.Ns mainGlobals mg
 blt:∃ mb,base.Ns builtinsNs mb∧∀ x:Str,x≠"__name__"→mb x=bootBuiltins x
 nolimit:base.NoLimit
structure Cx where
 prog:Program
 w:World
 K:PySem.W.Frag
 mg:Str→Option Value
 base:Heap
 A:Around
 N:List Str
 s₀:Shared
 H₀:Hp
 env:Env
 outer:List Env
 stack:List Env
 ex:List Addr
 fn:Str→Bool
 calm:Bool
 pn:List (Addr × Obj)
 xe:Value→Shared→Prop
def frs (l:List Env):List Addr:=l.filterMap (·.frame)
abbrev Cx.fs (X:Cx):List Addr:=frs X.outer
def Vis (sc:Scope) (x:Str):Prop:=sc.names.lookup x=some .local∨sc.names.lookup x=some .cell∨sc.names.lookup x=some .free
def Loc (sc:Scope) (x:Str):Prop:=sc.names.lookup x=some .local∨sc.names.lookup x=some .cell
def Look (env:Env) (h:Heap) (m:Str→Option Value) (x:Str) (u:Value):Prop:=
 (env.kindOf x=some .local∧m x=some u)∨((env.kindOf x=some .cell∨env.kindOf x=some .free)∧∃ c,env.cells.lookup x=some c∧h.IsCell c (some u))
structure Cx.Ok (X:Cx):Prop where
 mod:Mod X.K X.mg X.base
 kind:X.env.scope.kind=.function
 glob:X.env.globals=mainGlobals
 blt:X.env.builtins=builtinsNs
 above:X.s₀.heap.objs.size≤X.env.locals
 inj:∀ x y c,X.env.cells.lookup x=some c→X.env.cells.lookup y=some c→x=y
 has:∀ x,(X.env.kindOf x=some .cell∨X.env.kindOf x=some .free)→∃ c,X.env.cells.lookup x=some c
 cab:∀ x c,X.fn x=true→X.env.cells.lookup x=some c→X.s₀.heap.objs.size≤c
 hd:X.calm=true→X.A.handled=none
 frames:X.A.frames=some X.stack
 stk:X.stack=X.outer∨(X.stack=X.env::X.outer∧X.env.frame=some X.env.locals)
 exf:∀ b∈X.ex,b≠X.env.locals∧∀ x c,X.env.cells.lookup x=some c→c≠b
 bs:∀ b o,X.base.get? b=some o→X.s₀.heap.get? b=some o∧X.H₀ b=none
 bsz:X.base.objs.size≤X.s₀.heap.objs.size
 noex:∀ b o,X.base.get? b=some o→b∉X.ex
 exfs:∀ b∈X.ex,b∉X.fs
 funs:X.s₀.heap.FunFrames X.base X.outer
 frf:∀ b∈X.fs,X.H₀ b=none
structure Inv (X:Cx) (pins:List (Addr × Obj)) (σ:List (Option V)) (H:Hp) (s:Shared):Prop where
 ok:X.Ok
 os:s.os=X.s₀.os
 bare:AllBare s.gens
 base:Un X.fs X.ex X.H₀ H X.s₀.heap s.heap
 loc:∃ m,s.heap.Ns X.env.locals m∧∀ (i:Nat) (x:Str) (v:V),X.N[i]? =some x→σ[i]? =some (some v)→Vis X.env.scope x→∃ u,RelV v u∧Look X.env s.heap m x u
 cell:∀ x c,X.env.cells.lookup x=some c→∃ v,s.heap.IsCell c v
 free:H X.env.locals=none
 freeC:∀ x c,X.env.cells.lookup x=some c→H c=none
 pin:∀ p∈X.pn++pins,s.heap.get? p.1=some p.2∧H p.1=none∧p.1≠X.env.locals∧p.1∉X.fs∧∀ v,p.2.data≠.cell v
 hok:HOk X.prog X.w H s.heap
 len:σ.length=X.N.length
section
variable {X:Cx} {pins:List (Addr × Obj)} {σ:List (Option V)} {H H':Hp} {s:Shared} {h':Heap}
theorem Cx.Ok.nofr (ok:X.Ok) {b:Addr} {o:Obj} (e:X.base.get? b=some o):b∉X.fs:=fun hb=>by
 have:=(ok.funs.mem hb).1
 rw [e] at this; cases this
theorem Inv.bs (I:Inv X pins σ H s):∀ b o,X.base.get? b=some o→s.heap.get? b=some o∧H b=none:=fun b o e=>
 ⟨I.base.keep b o (I.ok.bs b o e).1 (I.ok.bs b o e).2 (I.ok.nofr e) (I.ok.noex b o e),I.base.free b o (I.ok.bs b o e).1 (I.ok.bs b o e).2 (I.ok.noex b o e)⟩
theorem Inv.bk (I:Inv X pins σ H s):∀ b o,X.base.get? b=some o→s.heap.get? b=some o:=fun b o e=>(I.bs b o e).1
theorem Inv.mod (I:Inv X pins σ H s):Mod X.K X.mg X.base:=I.ok.mod
theorem Inv.kIn (I:Inv X pins σ H s):X.K.In s.heap:=I.ok.mod.kin.keeps I.bk
theorem Inv.lt (I:Inv X pins σ H s):X.env.locals < s.heap.objs.size:=let ⟨_,hn,_⟩:=I.loc; hn.lt
theorem Inv.sz (I:Inv X pins σ H s):X.s₀.heap.objs.size≤s.heap.objs.size:=Nat.le_trans I.ok.above (Nat.le_of_lt I.lt)
theorem Inv.nofs (I:Inv X pins σ H s) {a:Addr} (h:s.heap.objs.size≤a):a∉X.fs:=fun hb=>by
 obtain ⟨_,o,ho,_⟩:=I.ok.funs.mem hb
 exact absurd (Nat.lt_of_lt_of_le (Heap.lt_size ho) (Nat.le_trans I.sz h)) (Nat.lt_irrefl _)
theorem Inv.cne (I:Inv X pins σ H s):∀ x c,X.env.cells.lookup x=some c→c≠X.env.locals:=fun x c e z=>by
 obtain ⟨v,o,ho,hd⟩:=I.cell x c e
 obtain ⟨m,⟨o',es,ep,ho',hd',_⟩,_⟩:=I.loc
 rw [z,ho'] at ho; cases ho; rw [hd'] at hd; cases hd
theorem Inv.funs (I:Inv X pins σ H s):s.heap.FunFrames X.base X.outer:=by
 have all:∀ (l:List Env),(∀ b∈frs l,b∈X.fs)→X.s₀.heap.FunFrames X.base l→s.heap.FunFrames X.base l:=by
  intro l
  induction l with
  | nil=>intro _ _; trivial
  | cons env r ih=>
   intro hs hl
   obtain ⟨hk,⟨L,o,hf,hn,ho,hd⟩,hr⟩:=hl
   have hL:L∈X.fs:=hs L (by unfold frs; rw [List.filterMap_cons,hf]; exact List.mem_cons_self)
   obtain ⟨sl,e⟩:=I.base.slot L o ho (I.ok.frf L hL) hL fun z=>I.ok.exfs L z hL
   exact ⟨hk,⟨L,_,hf,hn,e,hd⟩,ih (fun b hb=>hs b (by unfold frs; rw [List.filterMap_cons,hf]; exact List.mem_cons_of_mem _ hb)) hr⟩
 exact all X.outer (fun _ hb=>hb) I.ok.funs
theorem Inv.stack (I:Inv X pins σ H s):s.heap.FunFrames X.base X.stack:=by
 rcases I.ok.stk with e | ⟨e,hf⟩
 · rw [e]; exact I.funs
 · rw [e]
   obtain ⟨m,hn,_⟩:=I.loc
   refine .cons (by rw [I.ok.kind]; decide) hf hn ?_ I.funs
   exact Heap.get?_none_of_le (Nat.le_trans I.ok.bsz I.ok.above)
theorem Inv.stkSub (I:Inv X pins σ H s):∀ b∈frs X.stack,b∈X.env.locals::X.fs:=fun b hb=>by
 rcases I.ok.stk with e | ⟨e,hf⟩
 · rw [e] at hb; exact List.mem_cons_of_mem _ hb
 · rw [e] at hb
   unfold frs at hb
   rw [List.filterMap_cons,hf] at hb
   exact hb
theorem Inv.stkFree (I:Inv X pins σ H s):∀ b∈frs X.stack,H b=none:=fun b hb=>by
 rcases List.mem_cons.mp (I.stkSub b hb) with e | hb
 · rw [e]; exact I.free
 · obtain ⟨_,o,ho,_⟩:=I.ok.funs.mem hb
   exact I.base.free b o ho (I.ok.frf b hb) fun z=>I.ok.exfs b z hb
theorem Inv.step {g':Array GenState} {t':Nat} {d':Drawn} {ch:List Addr} (I:Inv X pins σ H s)
  (hch:∀ b∈ch,(b∈X.ex∨X.s₀.heap.objs.size≤b)∧b≠X.env.locals∧(∀ x c,X.env.cells.lookup x=some c→c≠b)∧∀ p∈X.pn++pins,p.1≠b)
  (keep:∀ b o,b≠X.env.locals→b∉X.fs→b∉ch→s.heap.get? b=some o→H b=none→h'.get? b=some o)
  (slot:∀ b o,b≠X.env.locals→b∈X.fs→b∉ch→s.heap.get? b=some o→H b=none→∃ sl,h'.get? b=some { o with slots:=sl }) (free:∀ b o,b∉ch→s.heap.get? b=some o→H b=none→H' b=none)
  (there:∀ b o,b∉ch→s.heap.get? b=some o→∃ o',h'.get? b=some o')
  (tups:∀ b xs,H b=some (.tup xs)→H' b=some (.tup xs)) (frzs:∀ b o u,H b=some (.frz o u)→H' b=some (.frz o u)) (tbls:∀ b ps,H b=some (.tbl ps)→∃ more,H' b=some (.tbl (ps++more)))
  (ns:∀ m,s.heap.Ns X.env.locals m→h'.Ns X.env.locals m) (hok:HOk X.prog X.w H' h') (hg:AllBare g'):
  Inv X pins σ H' { s with heap:=h',gens:=g',drawn:=d',toks:=t' }:=by
 have neL:∀ b o,X.s₀.heap.get? b=some o→b≠X.env.locals:=fun b o e=>Nat.ne_of_lt (Nat.lt_of_lt_of_le (Heap.lt_size e) I.ok.above)
 have neC:∀ b o,X.s₀.heap.get? b=some o→b∉X.ex→b∉ch:=fun b o e hx hb=>by
  rcases (hch b hb).1 with z | z
  · exact hx z
  · exact absurd (Nat.lt_of_lt_of_le (Heap.lt_size e) z) (Nat.lt_irrefl _)
 have cellK:∀ x c,X.env.cells.lookup x=some c→∀ v,s.heap.IsCell c v→h'.IsCell c v:=fun x c e v ⟨o,ho,hd⟩=>by
  have nch:c∉ch:=fun z=>(hch c z).2.2.1 x c e rfl
  by_cases hc:c∈X.fs
  · obtain ⟨sl,q⟩:=slot c o (I.cne x c e) hc nch ho (I.freeC x c e)
    exact ⟨_,q,hd⟩
  · exact ⟨o,keep c o (I.cne x c e) hc nch ho (I.freeC x c e),hd⟩
 refine ⟨I.ok,I.os,hg,⟨fun b o e n hb hx=>?_,fun b o e n hb hx=>?_,fun b o e n hx=>?_,fun b o e hx=>?_,fun b xs e=>tups b xs (I.base.tups b xs e),fun b o xs e=>frzs b o xs (I.base.frzs b o xs e),fun b ps e=>?_⟩,?_,fun x c e=>?_,?_,fun x c e=>?_,fun p hp=>?_,hok,I.len⟩
 · exact keep b o (neL b o e) hb (neC b o e hx) (I.base.keep b o e n hb hx) (I.base.free b o e n hx)
 · obtain ⟨sl,e1⟩:=I.base.slot b o e n hb hx
   obtain ⟨sl',e2⟩:=slot b _ (neL b o e) hb (neC b o e hx) e1 (I.base.free b o e n hx)
   exact ⟨sl',e2⟩
 · obtain ⟨o',e1⟩:=I.base.there b o e hx
   exact free b o' (neC b o e hx) e1 (I.base.free b o e n hx)
 · obtain ⟨o',e1⟩:=I.base.there b o e hx
   exact there b o' (neC b o e hx) e1
 · obtain ⟨m1,e1⟩:=I.base.tbls b ps e
   obtain ⟨m2,e2⟩:=tbls b _ e1
   exact ⟨m1++m2,by rw [e2,Array.append_assoc]⟩
 · obtain ⟨m,hn,hl⟩:=I.loc
   refine ⟨m,ns m hn,fun i x v e1 e2 e3=>?_⟩
   obtain ⟨u,r,l⟩:=hl i x v e1 e2 e3
   refine ⟨u,r,?_⟩
   rcases l with l | ⟨k,c,e,z⟩
   · exact .inl l
   · exact .inr ⟨k,c,e,cellK x c e _ z⟩
 · obtain ⟨v,z⟩:=I.cell x c e
   exact ⟨v,cellK x c e v z⟩
 · obtain ⟨m,⟨o,_,_,ho,_⟩,_⟩:=I.loc
   exact free _ o (fun z=>(hch _ z).2.1 rfl) ho I.free
 · obtain ⟨v,o,ho,hd⟩:=I.cell x c e
   exact free c o (fun z=>(hch c z).2.2.1 x c e rfl) ho (I.freeC x c e)
 · obtain ⟨e,n,ne,nf,d⟩:=I.pin p hp
   have nch:p.1∉ch:=fun z=>(hch p.1 z).2.2.2 p hp rfl
   exact ⟨keep p.1 p.2 ne nf nch e n,free p.1 p.2 nch e n,ne,nf,d⟩
theorem Inv.un {t':Nat} (I:Inv X pins σ H s) (u:Un X.fs [] H H' s.heap h') (hok:HOk X.prog X.w H' h'):Inv X pins σ H' { s with heap:=h',toks:=t' }:=by
 obtain ⟨m,⟨o,es,ep,ho,r⟩,_⟩:=id I.loc
 obtain ⟨sl,hL⟩:=u.any ho I.free (by simp)
 exact I.step (g':=s.gens) (d':=s.drawn) (ch:=[]) (fun _ z=>nomatch z) (fun b o _ hb _ e n=>u.keep b o e n hb (by simp)) (fun b o _ hb _ e n=>u.slot b o e n hb (by simp)) (fun b o _ e n=>u.free b o e n (by simp)) (fun b o _ e=>u.there b o e (by simp)) u.tups u.frzs u.tbls (fun m' hm=>by
  obtain ⟨o',es',ep',ho',r'⟩:=hm
  rw [ho] at ho'; cases ho'
  exact ⟨_,es',ep',hL,r'⟩) hok I.bare
theorem Inv.call {g':Array GenState} {t':Nat} {d':Drawn} {ch:List Addr} (I:Inv X pins σ H s) (u:Un (frs X.stack) ch H H' s.heap h') (hok:HOk X.prog X.w H' h') (hg:AllBare g')
  (hch:∀ b∈ch,(b∈X.ex∨X.s₀.heap.objs.size≤b)∧b≠X.env.locals∧(∀ x c,X.env.cells.lookup x=some c→c≠b)∧∀ p∈X.pn++pins,p.1≠b):
  Inv X pins σ H' { s with heap:=h',gens:=g',drawn:=d',toks:=t' }:=by
 obtain ⟨m,⟨o,es,ep,ho,r⟩,_⟩:=id I.loc
 obtain ⟨sl,hL⟩:=u.any ho I.free fun z=>(hch _ z).2.1 rfl
 exact I.step (ch:=ch) hch (fun b o hL hb hc e n=>u.keep b o e n (fun z=>(List.mem_cons.mp (I.stkSub b z)).elim hL hb) hc) (fun b o _ _ hc e n=>u.any e n hc) (fun b o hc e n=>u.free b o e n hc) (fun b o hc e=>u.there b o e hc) u.tups u.frzs u.tbls (fun m' hm=>by
  obtain ⟨o',es',ep',ho',r'⟩:=hm
  rw [ho] at ho'; cases ho'
  exact ⟨_,es',ep',hL,r'⟩) hok hg
theorem Inv.turned {t':Nat} {it:Addr} (I:Inv X pins σ H s) (k:∀ b o,b≠it→s.heap.get? b=some o→h'.get? b=some o) (hn:H it=none) (hL:it≠X.env.locals)
  (h1:it∈X.ex∨X.s₀.heap.objs.size≤it) (h2:∀ x c,X.env.cells.lookup x=some c→c≠it) (h3:∀ p∈X.pn++pins,p.1≠it):Inv X pins σ H { s with heap:=h',toks:=t' }:=by
 have nit:∀ b u,H b=some u→b≠it:=fun b u e z=>by rw [z,hn] at e; cases e
 refine I.step (g':=s.gens) (d':=s.drawn) (ch:=[it]) (fun b hb=>?_) (fun b o _ _ hc e _=>k b o (fun z=>hc (by simp [z])) e) (fun b o _ _ hc e _=>⟨o.slots,k b o (fun z=>hc (by simp [z])) e⟩) (fun _ _ _ _ n=>n)
  (fun b o hc e=>⟨o,k b o (fun z=>hc (by simp [z])) e⟩) (fun _ _ e=>e) (fun _ _ _ e=>e) (fun b ps e=>⟨#[],by rw [e]; simp⟩) (fun m hm=>?_) (fun b u e=>?_) I.bare
 · have e:b=it:=by simpa using hb
   subst e
   exact ⟨h1,hL,h2,h3⟩
 · obtain ⟨o,es,ep,ho,r⟩:=hm
   exact ⟨o,es,ep,k _ o (Ne.symm hL) ho,r⟩
 · refine (I.hok b u e).stay (fun c v hc q=>k c v ?_ q) (fun _ q=>q) fun _ _ q=>q
   rcases hc with z | z
   · rw [z]; exact nit b u e
   · exact nit c _ z
theorem Inv.tok (I:Inv X pins σ H s) (t:Nat):Inv X pins σ H { s with toks:=t }:=I.un (h':=s.heap) (t':=t) Un.refl I.hok
theorem Inv.kept {t':Nat} (I:Inv X pins σ H s) (k:∀ b u,s.heap.get? b=some u→h'.get? b=some u):Inv X pins σ H { s with heap:=h',toks:=t' }:=I.un (Un.kept k) (I.hok.kept k)
theorem Inv.laid {a:Addr} {o:HO} {t':Nat} (I:Inv X pins σ H s) (k:∀ b u,s.heap.get? b=some u→h'.get? b=some u) (hp:s.heap.objs.size≤a) (new:ObjOk X.prog X.w (upd H a o) h' a o):
  Inv X pins σ (upd H a o) { s with heap:=h',toks:=t' }:=I.un (Un.laid k hp (I.hok.fresh hp)) (I.hok.laid k hp new)
theorem Inv.write {x e:Addr} {o:HO} {t':Nat} (I:Inv X pins σ H s) (mu:Mut (H x)) (he:e=x∨H e=some (.own x)) (k:∀ b u,b≠e→s.heap.get? b=some u→h'.get? b=some u) (heo:∃ u,h'.get? e=some u)
  (new:ObjOk X.prog X.w (upd H x o) h' x o):Inv X pins σ (upd H x o) { s with heap:=h',toks:=t' }:=I.un (Un.write mu he k heo) (I.hok.write mu he k heo new)
theorem Inv.pins_of {pins':List (Addr × Obj)} (I:Inv X pins σ H s) (h:∀ p∈pins',s.heap.get? p.1=some p.2∧H p.1=none∧p.1≠X.env.locals∧p.1∉X.fs∧∀ v,p.2.data≠.cell v):Inv X pins' σ H s:=
 ⟨I.ok,I.os,I.bare,I.base,I.loc,I.cell,I.free,I.freeC,fun p hp=>(List.mem_append.mp hp).elim (fun z=>I.pin p (List.mem_append_left _ z)) (h p),I.hok,I.len⟩
theorem sm {N:List Str} (hN:N.Nodup) {i j:Nat} {x:Str} (a:N[i]? =some x) (b:N[j]? =some x):i=j:=by
 obtain ⟨h1,e1⟩:=List.getElem?_eq_some_iff.mp a
 obtain ⟨h2,e2⟩:=List.getElem?_eq_some_iff.mp b
 exact (List.getElem_inj hN).mp (e1.trans e2.symm)
theorem qY {M:Model} {A:Around} {E:Value→Shared→Prop} {i:Nat} {x:Str} {v:V} {u:Value} {Q:Unit→Shared→Prop} (I:Inv X pins σ H s) (hN:X.N.Nodup) (hi:X.N[i]? =some x) (hx:Loc X.env.scope x) (r:RelV v u)
  (h:∀ s',Inv X pins (σ.set i (some v)) H s'→(∃ a,Heap.SameBut a s.heap s'.heap∧(a=X.env.locals∨X.env.cells.lookup x=some a))→Q () s') (hf:X.fn x=true∨X.env.scope.names.lookup x=some .local:=by first | exact .inl rfl | exact .inr rfl | assumption):wpAny M A (storeName X.env x u) Q E s:=by
 obtain ⟨m,hn,hl⟩:=id I.loc
 have hcls:(X.env.scope.kind==.class||(X.env.scope.kind==.module&&X.env.locals != X.env.globals))=false:=by rw [I.ok.kind]; rfl
 have hiσ:i < σ.length:=by rw [I.len]; exact (List.getElem?_eq_some_iff.mp hi).1
 have cne:=I.cne
 have tracked:∀ {a:Addr} {h':Heap},(∃ o,s.heap.get? a=some o∧H a=none)→Heap.SameBut a s.heap h'→HOk X.prog X.w H h':=fun {a h'} ha hs b ob e=>by
  obtain ⟨_,_,hfree⟩:=ha
  refine (I.hok b ob e).stay (fun c w' hc q=>(hs.2 c ?_).trans q) (fun _ q=>q) fun _ _ q=>q
  rintro rfl
  rcases hc with rfl | hc
  · rw [hfree] at e; cases e
  · rw [hfree] at hc; cases hc
 rcases hx with hk | hk
 · refine wpAny_storeName_local hk hn (fun h' hn' hs=>?_) hcls
   obtain ⟨oL,_,_,hoL,_⟩:=id hn
   refine h _ ⟨I.ok,I.os,I.bare,⟨fun b o e n hb hx=>?_,fun b o e n hb hx=>?_,I.base.free,fun b o e hx=>?_,I.base.tups,I.base.frzs,I.base.tbls⟩,⟨_,hn',fun j y v' e1 e2 e3=>?_⟩,fun y c e=>?_,I.free,I.freeC,fun p hp=>?_,tracked ⟨oL,hoL,I.free⟩ hs,by simpa using I.len⟩ ⟨_,hs,.inl rfl⟩
   · exact (hs.2 b (Nat.ne_of_lt (Nat.lt_of_lt_of_le (Heap.lt_size e) I.ok.above))).trans (I.base.keep b o e n hb hx)
   · obtain ⟨sl,e1⟩:=I.base.slot b o e n hb hx
     exact ⟨sl,(hs.2 b (Nat.ne_of_lt (Nat.lt_of_lt_of_le (Heap.lt_size e) I.ok.above))).trans e1⟩
   · obtain ⟨o',e1⟩:=I.base.there b o e hx
     exact ⟨o',(hs.2 b (Nat.ne_of_lt (Nat.lt_of_lt_of_le (Heap.lt_size e) I.ok.above))).trans e1⟩
   · by_cases hj:j=i
     · subst hj
       rw [hi] at e1; cases e1
       rw [List.getElem?_set_self hiσ] at e2
       cases e2
       exact ⟨u,r,.inl ⟨hk,by simp⟩⟩
     · rw [List.getElem?_set_ne (Ne.symm hj)] at e2
       obtain ⟨u',r',q⟩:=hl j y v' e1 e2 e3
       refine ⟨u',r',?_⟩
       rcases q with ⟨k,e⟩ | ⟨k,c,e,z⟩
       · refine .inl ⟨k,?_⟩
         have:y≠x:=fun e=>hj (sm hN e1 (e ▸ hi))
         simp [this,e]
       · exact .inr ⟨k,c,e,z.sameBut hs (cne y c e)⟩
   · obtain ⟨w',z⟩:=I.cell y c e
     exact ⟨w',z.sameBut hs (cne y c e)⟩
   · obtain ⟨e,n,ne,nf,d⟩:=I.pin p hp
     exact ⟨(hs.2 p.1 ne).trans e,n,ne,nf,d⟩
 · have hfn:X.fn x=true:=by
    rcases hf with z | z
    · exact z
    · rw [z] at hk; cases hk
   obtain ⟨c,hc⟩:=I.ok.has x (.inl hk)
   obtain ⟨w',z⟩:=I.cell x c hc
   refine wpAny_storeName_cell I.ok.kind hk hc z (fun h' hc' hs=>?_)
   obtain ⟨oc,hoc,hocd⟩:=id z
   refine h { s with heap:=h' } ⟨I.ok,I.os,I.bare,⟨fun b o e n hb hx=>?_,fun b o e n hb hx=>?_,I.base.free,fun b o e hx=>?_,I.base.tups,I.base.frzs,I.base.tbls⟩,⟨m,hn.sameBut hs (Ne.symm (cne x c hc)),fun j y v' e1 e2 e3=>?_⟩,fun y c' e=>?_,I.free,I.freeC,fun p hp=>?_,tracked ⟨oc,hoc,I.freeC x c hc⟩ hs,by simpa using I.len⟩ ⟨c,hs,.inr hc⟩
   · exact (hs.2 b (Nat.ne_of_lt (Nat.lt_of_lt_of_le (Heap.lt_size e) (I.ok.cab x c hfn hc)))).trans (I.base.keep b o e n hb hx)
   · obtain ⟨sl,e1⟩:=I.base.slot b o e n hb hx
     exact ⟨sl,(hs.2 b (Nat.ne_of_lt (Nat.lt_of_lt_of_le (Heap.lt_size e) (I.ok.cab x c hfn hc)))).trans e1⟩
   · obtain ⟨o',e1⟩:=I.base.there b o e hx
     exact ⟨o',(hs.2 b (Nat.ne_of_lt (Nat.lt_of_lt_of_le (Heap.lt_size e) (I.ok.cab x c hfn hc)))).trans e1⟩
   · by_cases hj:j=i
     · subst hj
       rw [hi] at e1; cases e1
       rw [List.getElem?_set_self hiσ] at e2
       cases e2
       exact ⟨u,r,.inr ⟨.inl hk,c,hc,hc'⟩⟩
     · rw [List.getElem?_set_ne (Ne.symm hj)] at e2
       obtain ⟨u',r',q⟩:=hl j y v' e1 e2 e3
       refine ⟨u',r',?_⟩
       rcases q with q | ⟨k,c',e,z'⟩
       · exact .inl q
       · refine .inr ⟨k,c',e,z'.sameBut hs ?_⟩
         rintro rfl
         exact hj (sm hN e1 (I.ok.inj _ _ _ e hc ▸ hi))
   · by_cases hcc:c'=c
     · subst hcc; exact ⟨_,hc'⟩
     · obtain ⟨w2,z2⟩:=I.cell y c' e
       exact ⟨w2,z2.sameBut hs hcc⟩
   · obtain ⟨e,n,ne,nf,d⟩:=I.pin p hp
     refine ⟨(hs.2 p.1 ?_).trans e,n,ne,nf,d⟩
     intro q
     rw [q,hoc] at e
     have q':oc=p.2:=Option.some.inj e
     exact d w' (by rw [← q']; exact hocd)
theorem sn {M:Model} {A:Around} {E:Value→Shared→Prop} {i:Nat} {x:Str} {v:V} {u:Value} {Q:Unit→Shared→Prop} (I:Inv X pins σ H s) (hN:X.N.Nodup) (hi:X.N[i]? =some x) (hx:Loc X.env.scope x) (r:RelV v u)
  (h:∀ s',Inv X pins (σ.set i (some v)) H s'→Q () s') (hf:X.fn x=true∨X.env.scope.names.lookup x=some .local:=by first | exact .inl rfl | exact .inr rfl | assumption):wpAny M A (storeName X.env x u) Q E s:=
 qY I hN hi hx r (fun s' I' _=>h s' I') hf
theorem Inv.call' {s':Shared} {ch:List Addr} (I:Inv X pins σ H s) (ho:s'.os=s.os) (u:Un (frs X.stack) ch H H' s.heap s'.heap) (hok:HOk X.prog X.w H' s'.heap) (hg:AllBare s'.gens)
  (hch:∀ b∈ch,(b∈X.ex∨X.s₀.heap.objs.size≤b)∧b≠X.env.locals∧(∀ x c,X.env.cells.lookup x=some c→c≠b)∧∀ p∈X.pn++pins,p.1≠b):Inv X pins σ H' s':=by
 obtain ⟨h',g',d',t',o'⟩:=s'
 have e:o'=s.os:=ho
 subst e
 exact I.call (g':=g') (t':=t') (d':=d') u hok hg hch
end
abbrev XK:=Value→Option Addr→Hp→Prop
abbrev St:=List (Option V)
abbrev VK:=V→Hp→Prop
abbrev TE:=St→Hp→VK→Prop
abbrev TT:=St→Hp→(Bool→Hp→Prop)→Prop
abbrev TA:=St→Hp→(List V→Hp→Prop)→Prop
structure Ends where
 nx:St→Hp→Prop
 rt:VK
 bk:St→Hp→Prop:=fun _ _=>False
 ct:St→Hp→Prop:=fun _ _=>False
abbrev TS:=Ends→St→Hp→Prop
def EP (X:Cx) (pins:List (Addr × Obj)) (σ:St) (Q:VK) (u:Value) (s':Shared):Prop:=∃ v H',Inv X pins σ H' s'∧RelV v u∧Q v H'
def TP (X:Cx) (pins:List (Addr × Obj)) (σ:St) (Q:Bool→Hp→Prop) (b:Bool) (s':Shared):Prop:=∃ H',Inv X pins σ H' s'∧Q b H'
def AP (X:Cx) (pins:List (Addr × Obj)) (σ:St) (Q:List V→Hp→Prop) (us:List Value) (s':Shared):Prop:=∃ vs H',Inv X pins σ H' s'∧Vals vs us∧Q vs H'
def SP (X:Cx) (pins:List (Addr × Obj)) (D:Ends) (f:Flow) (s':Shared):Prop:=
 match f with
 | .next=>∃ σ' H',Inv X pins σ' H' s'∧D.nx σ' H'
 | .brk=>∃ σ' H',Inv X pins σ' H' s'∧D.bk σ' H'
 | .cont=>∃ σ' H',Inv X pins σ' H' s'∧D.ct σ' H'
 | .ret u=>∃ v σ' H',Inv X pins σ' H' s'∧RelV v u∧D.rt v H'
def PE (X:Cx) (e:Expr) (t:TE):Prop:=
 ∀ (pins:List (Addr × Obj)) (s:Shared) (σ:St) (H:Hp) (Q:VK),Inv X pins σ H s→t σ H Q→wpAny (model X.prog X.w) X.A (eval e X.env) (EP X pins σ Q) X.xe s
def PT (X:Cx) (e:Expr) (t:TT):Prop:=
 ∀ (pins:List (Addr × Obj)) (s:Shared) (σ:St) (H:Hp) (Q:Bool→Hp→Prop),Inv X pins σ H s→t σ H Q→wpAny (model X.prog X.w) X.A (isTrue e X.env (eval e X.env)) (TP X pins σ Q) X.xe s
def PW (X:Cx) (e:Expr) (t:TT):Prop:=
 ∀ (whole:Sem Value) (pins:List (Addr × Obj)) (s:Shared) (σ:St) (H:Hp) (Q:Bool→Hp→Prop),Inv X pins σ H s→t σ H Q→wpAny (model X.prog X.w) X.A (isTrue e X.env whole) (TP X pins σ Q) X.xe s
theorem PW.pt {X:Cx} {e:Expr} {t:TT} (h:PW X e t):PT X e t:=h _
def PA (X:Cx) (es:List Expr) (t:TA):Prop:=
 ∀ (pos:Pos) (pins:List (Addr × Obj)) (s:Shared) (σ:St) (H:Hp) (Q:List V→Hp→Prop),Inv X pins σ H s→t σ H Q→wpAny (model X.prog X.w) X.A (spliced (backTo pos (starEach es X.env))) (AP X pins σ Q) X.xe s
def PS (X:Cx) (st:Stmt) (t:TS):Prop:=
 ∀ (pins:List (Addr × Obj)) (s:Shared) (σ:St) (H:Hp) (D:Ends),Inv X pins σ H s→t D σ H→wpAny (model X.prog X.w) X.A (exec st X.env) (SP X pins D) X.xe s
def PSs (X:Cx) (st:List Stmt) (t:TS):Prop:=
 ∀ (pins:List (Addr × Obj)) (s:Shared) (σ:St) (H:Hp) (D:Ends),Inv X pins σ H s→t D σ H→wpAny (model X.prog X.w) X.A (execs st X.env) (SP X pins D) X.xe s
theorem thn {α:Type} {t:Sem α} {Q Q':α→Shared→Prop} {M:Model} {A:Around} {E:Value→Shared→Prop} {s:Shared} (h:wpAny M A t Q E s) (hQ:∀ a s,Q a s→Q' a s):wpAny M A t Q' E s:=wpAny_mono h hQ fun _ _ x=>x
end L2
namespace L2
open PySem PySem.Spec PyProof.Rows
section
variable {X:Cx}
def tVar (i:Nat):TE:=fun σ H Q=>∃ v,σ[i]? =some (some v)∧Q v H
def tC (v:V):TE:=fun _ H Q=>Q v H
theorem zu {i:Nat} {x:Str} {pos:Pos} (hN:X.N[i]? =some x) (hv:Vis X.env.scope x) (hd:(x==("__debug__":Str))=false:=by decide) (hcd:(x==("__classdict__":Str))=false:=by decide):PE X (.Name x pos) (tVar i):=by
 intro pins s σ H Q I h
 obtain ⟨v,e,h⟩:=h
 obtain ⟨m,hn,hl⟩:=I.loc
 obtain ⟨u,r,l⟩:=hl i x v hN e hv
 have fin:EP X pins σ Q u s:=⟨v,H,I,r,h⟩
 rcases l with ⟨hk,hm⟩ | ⟨hk,c,hc,hcell⟩
 · exact wpAny_Name (wpAny_loadName_local I.ok.kind hk hn hm fin) hd
 · rcases hk with hk | hk
   · exact wpAny_Name (wpAny_loadName_cell I.ok.kind hk hc hcell fin) hd
   · exact wpAny_Name (wpAny_loadName_free I.ok.kind hk hc hcell fin hcd) hd
theorem ad {i j pos}:PE X (.Constant (.int i) j pos) (tC (.int i)):=fun _ _ _ H _ I h=>wpAny_Constant_int ⟨.int i,H,I.tok _,⟨_,rfl⟩,h⟩
theorem cE {b j pos}:PE X (.Constant (.bool b) j pos) (tC (.bl b)):=fun _ _ _ H _ I h=>Constant_bool ⟨.bl b,H,I,rfl,h⟩
theorem so {j pos}:PE X (.Constant .none j pos) (tC .non):=fun _ _ _ H _ I h=>Constant_none ⟨.non,H,I,rfl,h⟩
theorem aM {x j pos}:PE X (.Constant (.str x) j pos) (tC (.str x)):=fun _ _ _ H _ I h=>Calls.Constant_str ⟨.str x,H,I.tok _,⟨_,rfl⟩,h⟩
def Gl (X:Cx) (x:Str):Prop:=X.env.kindOf x=some .globalImplicit
theorem qH {E:Value→Shared→Prop} {pins:List (Addr × Obj)} {s:Shared} {σ:St} {H:Hp} {x:Str} {u:Value} {pos:Pos} {Q:Value→Shared→Prop} (I:Inv X pins σ H s) (hg:Gl X x) (hm:X.mg x=some u) (h:Q u s)
  (hd:(x==("__debug__":Str))=false:=by decide):wpAny (model X.prog X.w) X.A (eval (.Name x pos) X.env) Q E s:=
 Calls.Name_function_global I.ok.kind hg (Calls.loadGlobal_global (by rw [I.ok.glob]; exact I.mod.glob.keeps I.bk) hm h) hd
theorem gI {E:Value→Shared→Prop} {pins:List (Addr × Obj)} {s:Shared} {σ:St} {H:Hp} {x:Str} {u:Value} {pos:Pos} {Q:Value→Shared→Prop} (I:Inv X pins σ H s) (hg:Gl X x) (hm:X.mg x=none) (hv:bootBuiltins x=some u) (h:Q u s)
  (hn:x≠"__name__":=by decide) (hd:(x==("__debug__":Str))=false:=by decide):wpAny (model X.prog X.w) X.A (eval (.Name x pos) X.env) Q E s:=by
 obtain ⟨mb,h1,h2⟩:=I.mod.blt
 exact Calls.Name_function_global I.ok.kind hg (Calls.loadGlobal_builtin (by rw [I.ok.glob]; exact I.mod.glob.keeps I.bk) hm (by rw [I.ok.blt]; exact h1.keeps I.bk) ((h2 x hn).trans hv) h) hd
theorem dm {x:Str} {v:V} {u:Value} {pos:Pos} (hg:Gl X x) (hm:X.mg x=some u) (r:RelV v u) (hd:(x==("__debug__":Str))=false:=by decide):PE X (.Name x pos) (tC v):=
 fun _ _ _ H _ I h=>qH I hg hm ⟨v,H,I,r,h⟩ hd
theorem d5 {x:Str} {v:V} {u:Value} {pos:Pos} (hg:Gl X x) (hm:X.mg x=none) (hv:bootBuiltins x=some u) (r:RelV v u) (hn:x≠"__name__":=by decide) (hd:(x==("__debug__":Str))=false:=by decide):PE X (.Name x pos) (tC v):=
 fun _ _ _ H _ I h=>gI I hg hm hv ⟨v,H,I,r,h⟩ hn hd
variable {a b:Expr} {ta tb:TE} {pos:Pos}
def tB (t:TE):TT:=fun σ H Q=>t σ H fun x H1=>∃ c,x=.bl c∧Q c H1
theorem aZ {e:Expr} {t:TE} (h:PE X e t) (he:∀ whole,isTrue e X.env whole=(do let v ← whole; standAt e.pos; holding [v] (truthy v)):=by intro _; rfl):PT X e (tB t):=by
 intro pins s σ H Q I hw
 refine isTrue_plain (thn (h pins s σ H _ I hw) fun v s1 ⟨x,H1,I1,r1,q1⟩=>?_) (he _)
 obtain ⟨d,rfl,q⟩:=q1
 cases r1
 exact wpAny_truthy_bool ⟨H1,I1,q⟩
variable {tA tB':TT} {rest:List Expr}
def tAnd (t u:TT):TT:=fun σ H Q=>t σ H fun c H1=>if c=true then u σ H1 Q else Q false H1
def tOr (t u:TT):TT:=fun σ H Q=>t σ H fun c H1=>if c=true then Q true H1 else u σ H1 Q
def tNot (t:TT):TT:=fun σ H Q=>t σ H fun c H1=>Q (!c) H1
theorem d6 (ha:PT X a tA):PW X (.BoolOp .And [a] pos) tA:=by
 intro wh pins s σ H Q I h
 refine isTrue_and (thn (ha pins s σ H Q I h) fun c s1 e=>?_)
 cases c with
 | true=>exact isTrue_and_nil e
 | false=>exact e
theorem cj (ha:PT X a tA):PW X (.BoolOp .Or [a] pos) tA:=by
 intro wh pins s σ H Q I h
 refine isTrue_or (thn (ha pins s σ H Q I h) fun c s1 e=>?_)
 cases c with
 | false=>exact isTrue_or_nil e
 | true=>exact e
theorem fv (ha:PT X a tA) (hb:PW X (.BoolOp .And (b::rest) pos) tB'):PW X (.BoolOp .And (a::b::rest) pos) (tAnd tA tB'):=by
 intro wh pins s σ H Q I h
 refine isTrue_and (thn (ha pins s σ H _ I h) fun c s1 ⟨H1,I1,q1⟩=>?_)
 cases c with
 | true=>exact hb wh pins s1 σ H1 Q I1 q1
 | false=>exact ⟨H1,I1,q1⟩
theorem bY (ha:PT X a tA) (hb:PW X (.BoolOp .Or (b::rest) pos) tB'):PW X (.BoolOp .Or (a::b::rest) pos) (tOr tA tB'):=by
 intro wh pins s σ H Q I h
 refine isTrue_or (thn (ha pins s σ H _ I h) fun c s1 ⟨H1,I1,q1⟩=>?_)
 cases c with
 | true=>exact ⟨H1,I1,q1⟩
 | false=>exact hb wh pins s1 σ H1 Q I1 q1
theorem bH (ha:PT X a tA):PT X (.UnaryOp .Not a pos) (tNot tA):=by
 intro pins s σ H Q I h
 exact isTrue_not (ha pins s σ H (fun c H1=>Q (!c) H1) I h)
def tAndV (ta tb:TE):TE:=fun σ H Q=>ta σ H fun x H1=>∃ c,x=.bl c∧if c=true then tb σ H1 Q else Q (.bl false) H1
def tOrV (ta tb:TE):TE:=fun σ H Q=>ta σ H fun x H1=>∃ c,x=.bl c∧if c=true then Q (.bl true) H1 else tb σ H1 Q
def tNotV (ta:TE):TE:=fun σ H Q=>ta σ H fun x H1=>∃ c,x=.bl c∧Q (.bl (!c)) H1
theorem ck {op} {t:TE} (h:PE X a t):PE X (.BoolOp op [a] pos) t:=fun pins s σ H Q I hw=>BoolOp_one (h pins s σ H Q I hw)
theorem bz (ha:PE X a ta) (hb:PE X (.BoolOp .And (b::rest) pos) tb):PE X (.BoolOp .And (a::b::rest) pos) (tAndV ta tb):=by
 intro pins s σ H Q I h
 refine BoolOp_and (thn (ha pins s σ H _ I h) fun v s1 ⟨x,H1,I1,r1,q1⟩=>?_)
 obtain ⟨c,rfl,q1⟩:=q1
 cases r1
 refine wpAny_truthy_bool ?_
 cases c with
 | true=>exact hb pins s1 σ H1 Q I1 q1
 | false=>exact ⟨.bl false,H1,I1,rfl,q1⟩
theorem yB (ha:PE X a ta) (hb:PE X (.BoolOp .Or (b::rest) pos) tb):PE X (.BoolOp .Or (a::b::rest) pos) (tOrV ta tb):=by
 intro pins s σ H Q I h
 refine BoolOp_or (thn (ha pins s σ H _ I h) fun v s1 ⟨x,H1,I1,r1,q1⟩=>?_)
 obtain ⟨c,rfl,q1⟩:=q1
 cases r1
 refine wpAny_truthy_bool ?_
 cases c with
 | false=>exact hb pins s1 σ H1 Q I1 q1
 | true=>exact ⟨.bl true,H1,I1,rfl,q1⟩
theorem zv (ha:PE X a ta):PE X (.UnaryOp .Not a pos) (tNotV ta):=by
 intro pins s σ H Q I h
 refine UnaryOp_ (thn (ha pins s σ H _ I h) fun v s1 ⟨x,H1,I1,r1,q1⟩=>?_)
 obtain ⟨c,rfl,q1⟩:=q1
 cases r1
 exact not_of (wpAny_truthy_bool ⟨.bl (!c),H1,I1,rfl,q1⟩)
def tIf (t:TT) (ta tb:TE):TE:=fun σ H Q=>t σ H fun c H1=>if c=true then ta σ H1 Q else tb σ H1 Q
theorem xZ {c:Expr} (hc:PT X c tA) (ha:PE X a ta) (hb:PE X b tb):PE X (.IfExp c a b pos) (tIf tA ta tb):=by
 intro pins s σ H Q I h
 refine wpAny_IfExp (thn (hc pins s σ H _ I h) fun d s1 ⟨H1,I1,q1⟩=>?_)
 cases d with
 | true=>exact ha pins s1 σ H1 Q I1 q1
 | false=>exact hb pins s1 σ H1 Q I1 q1
end
end L2
namespace L2
open PySem PySem.Spec PyProof.Rows
def SqL (K:PySem.W.Frag) (H:Hp) (a:Addr) (xs:List V):Prop:=
 Rd H a (.lst xs)∨
  ∃ (o:Obj) (its:Array Value) (n:Nat),K.lookup a=some o∧o.cls=.type "list"∧o.dict=none∧o.data=.seq its n∧its.size≤sizeLine∧Vals xs its.toList
def SqT (K:PySem.W.Frag) (H:Hp) (a:Addr) (xs:List V):Prop:=
 Rd H a (.tup xs)∨
  ∃ (o:Obj) (its:Array Value) (n:Nat),K.lookup a=some o∧o.cls=.type "tuple"∧o.data=.seq its n∧its.size≤sizeLine∧Vals xs its.toList
def absV:Value→Option V
 | .none=>some .non
 | .bool b=>some (.bl b)
 | .int i _=>some (.int i)
 | .str x _=>some (.str x)
 | .bytes b _=>some (.byt b)
 | .float b _=>some (.flt b)
 | .ref a=>some (.ref a)
 | .type n=>some (.ty n)
 | _=>none
theorem RelV.abs {x:V} {u:Value} (r:RelV x u):absV u=some x:=by
 cases x with
 | non=>cases r; rfl
 | bl _=>cases r; rfl
 | int _=>obtain ⟨t,rfl⟩:=r; rfl
 | str _=>obtain ⟨t,rfl⟩:=r; rfl
 | byt _=>obtain ⟨t,rfl⟩:=r; rfl
 | flt _=>obtain ⟨t,rfl⟩:=r; rfl
 | ref _=>cases r; rfl
 | ty _=>cases r; rfl
theorem RelV.inj {x y:V} {u:Value} (r:RelV x u) (q:RelV y u):x=y:=Option.some.inj (r.abs.symm.trans q.abs)
theorem Vals.inj:∀ {xs ys:List V} {us:List Value},Vals xs us→Vals ys us→xs=ys
 | _,_,_,.nil,.nil=>rfl
 | _,_,_,.cons r t,.cons r' t'=>by rw [r.inj r',Vals.inj t t']
section
variable {X:Cx} {pins:List (Addr × Obj)} {σ:St} {H:Hp} {s:Shared} {a:Addr} {xs ys:List V}
theorem SqL.of {K:PySem.W.Frag} (h:H a=some (.lst xs)):SqL K H a xs:=.inl (.inl h)
theorem SqT.of {K:PySem.W.Frag} (h:H a=some (.tup xs)):SqT K H a xs:=.inl (.inl h)
theorem Inv.list (I:Inv X pins σ H s) (h:SqL X.K H a xs):∃ its:List Value,Vals xs its∧PlainL s.heap a its.toArray∧xs.length≤sizeLine:=by
 rcases h with h | ⟨o,its,n,hk,hc,hd,hs,hz,r⟩
 · obtain ⟨z,its,n,r,e⟩:=h.ok I.hok
   exact ⟨its,r,⟨_,n,e,rfl,rfl,rfl⟩,z⟩
 · refine ⟨its.toList,r,⟨o,n,I.kIn a o hk,hc,hd,by simpa using hs⟩,?_⟩
   have e:=r.length
   simp only [Array.length_toList] at e
   omega
theorem Inv.tuple (I:Inv X pins σ H s) (h:SqT X.K H a xs):∃ its:List Value,Vals xs its∧IsTup s.heap a its.toArray∧xs.length≤sizeLine:=by
 rcases h with h | ⟨o,its,n,hk,hc,hs,hz,r⟩
 · obtain ⟨z,its,r,p⟩:=h.ok I.hok
   exact ⟨its,r,p,z⟩
 · refine ⟨its.toList,r,⟨o,I.kIn a o hk,hc,n,by simpa using hs⟩,?_⟩
   have e:=r.length
   simp only [Array.length_toList] at e
   omega
theorem Inv.list_inj (I:Inv X pins σ H s) (h:SqL X.K H a xs) (h':SqL X.K H a ys):xs=ys:=by
 obtain ⟨its,r,⟨o,n,e,_,_,d⟩,_⟩:=I.list h
 obtain ⟨its',r',⟨o',n',e',_,_,d'⟩,_⟩:=I.list h'
 rw [e] at e'; cases e'
 rw [d] at d'
 injection d' with d1 _
 have:its=its':=by simpa using congrArg Array.toList d1
 subst this
 exact r.inj r'
theorem Inv.tuple_inj (I:Inv X pins σ H s) (h:SqT X.K H a xs) (h':SqT X.K H a ys):xs=ys:=by
 obtain ⟨its,r,⟨o,e,_,n,d⟩,_⟩:=I.tuple h
 obtain ⟨its',r',⟨o',e',_,n',d'⟩,_⟩:=I.tuple h'
 rw [e] at e'; cases e'
 rw [d] at d'
 injection d' with d1 _
 have:its=its':=by simpa using congrArg Array.toList d1
 subst this
 exact r.inj r'
end
abbrev Cx.wish (X:Cx) (E:Value→Shared→Prop):Cx:={ X with xe:=E }
abbrev Cx.nox (X:Cx):Cx:=X.wish fun _ _=>False
theorem Cx.Ok.wish {X:Cx} (ok:X.Ok) (E:Value→Shared→Prop):(X.wish E).Ok:=
 ⟨ok.mod,ok.kind,ok.glob,ok.blt,ok.above,ok.inj,ok.has,ok.cab,ok.hd,ok.frames,ok.stk,ok.exf,ok.bs,ok.bsz,ok.noex,ok.exfs,ok.funs,ok.frf⟩
theorem Cx.Ok.unwish {X:Cx} {E:Value→Shared→Prop} (ok:(X.wish E).Ok):X.Ok:=
 ⟨ok.mod,ok.kind,ok.glob,ok.blt,ok.above,ok.inj,ok.has,ok.cab,ok.hd,ok.frames,ok.stk,ok.exf,ok.bs,ok.bsz,ok.noex,ok.exfs,ok.funs,ok.frf⟩
section
variable {X:Cx} {pins:List (Addr × Obj)} {σ:St} {H:Hp} {s:Shared} {E:Value→Shared→Prop}
theorem Inv.wish (I:Inv X pins σ H s) (E:Value→Shared→Prop):Inv (X.wish E) pins σ H s:=⟨I.ok.wish E,I.os,I.bare,I.base,I.loc,I.cell,I.free,I.freeC,I.pin,I.hok,I.len⟩
theorem Inv.unwish (I:Inv (X.wish E) pins σ H s):Inv X pins σ H s:=⟨I.ok.unwish,I.os,I.bare,I.base,I.loc,I.cell,I.free,I.freeC,I.pin,I.hok,I.len⟩
theorem SP.unwish {D:Ends} {f:Flow} {s':Shared} (h:SP (X.wish E) pins D f s'):SP X pins D f s':=by
 cases f with
 | next=>obtain ⟨σ',H',I,q⟩:=h; exact ⟨σ',H',I.unwish,q⟩
 | brk=>obtain ⟨σ',H',I,q⟩:=h; exact ⟨σ',H',I.unwish,q⟩
 | cont=>obtain ⟨σ',H',I,q⟩:=h; exact ⟨σ',H',I.unwish,q⟩
 | ret u=>obtain ⟨v,σ',H',I,r,q⟩:=h; exact ⟨v,σ',H',I.unwish,r,q⟩
theorem PSs.nox {st:List Stmt} {t:TS} (h:PSs X.nox st t):PSs X st t:=fun pins s σ H D I hw=>
 wpAny_mono (h pins s σ H D (I.wish _) hw) (fun _ _ q=>q.unwish) fun _ _ z=>False.elim z
end
section
variable {X:Cx} {st:Stmt} {rest:List Stmt} {t u:TS} {e:Expr} {te:TE} {pos:Pos}
def tNext:TS:=fun D σ H=>D.nx σ H
def tSeq (t u:TS):TS:=fun D σ H=>t { D with nx:=u D } σ H
theorem au:PSs X [] tNext:=fun _ _ σ H _ I h=>wpAny_execs_nil ⟨σ,H,I,h⟩
theorem ae (h1:PS X st t) (h2:PSs X rest u):PSs X (st::rest) (tSeq t u):=by
 intro pins s σ H D I h
 refine wpAny_execs_cons (thn (h1 pins s σ H { D with nx:=u D } I h) fun f s1 q=>?_)
 cases f with
 | next=>
  obtain ⟨σ',H',I',q⟩:=q
  exact h2 pins s1 σ' H' D I' q
 | ret v=>exact q
 | brk=>exact q
 | cont=>exact q
theorem af (h1:PS X st t):PSs X [st] t:=by
 intro pins s σ H D I h
 refine wpAny_execs_cons (thn (h1 pins s σ H D I h) fun f s1 q=>?_)
 cases f with
 | next=>exact wpAny_execs_nil q
 | ret v=>exact q
 | brk=>exact q
 | cont=>exact q
theorem Inv.quiet {pins:List (Addr × Obj)} {σ:St} {H:Hp} {s:Shared} (I:Inv X pins σ H s):interactive X.env=false:=by simp [interactive,I.ok.kind]
def tDrop (te:TE):TS:=fun D σ H=>te σ H fun _ H1=>D.nx σ H1
theorem bI (he:PE X e te) (hs:swapsWith e none pos.line X.env=pure false:=by rfl):PS X (.Expr e pos) (tDrop te):=by
 intro pins s σ H D I h
 exact wpAny_Expr_any (thn (he pins s σ H _ I h) fun v s1 ⟨x,H1,I1,r1,q1⟩=>⟨σ,H1,I1,q1⟩) I.quiet hs
def tRet (te:TE):TS:=fun D σ H=>te σ H D.rt
theorem ak (he:PE X e te):PS X (.Return (some e) pos) (tRet te):=by
 intro pins s σ H D I h
 exact wpAny_Return_some (thn (he pins s σ H _ I h) fun v s1 ⟨x,H1,I1,r1,q1⟩=>⟨x,σ,H1,I1,r1,q1⟩)
def tRetN:TS:=fun D _ H=>D.rt .non H
def tIfS (c:TT) (t u:TS):TS:=fun D σ H=>c σ H fun b H1=>if b=true then t D σ H1 else u D σ H1
theorem aB {c:Expr} {a b:List Stmt} {tc:TT} (hc:PT X c tc) (ha:PSs X a t) (hb:PSs X b u):PS X (.If c a b pos) (tIfS tc t u):=by
 intro pins s σ H D I h
 refine wpAny_If (thn (hc pins s σ H _ I h) fun d s1 ⟨H1,I1,q1⟩=>?_)
 cases d with
 | true=>exact ha pins s1 σ H1 D I1 q1
 | false=>exact hb pins s1 σ H1 D I1 q1
def cM:TS:=fun _ _ _=>False
theorem bO:PS X st cM:=fun _ _ _ _ _ _ h=>h.elim
end
abbrev TG:=V→St→Hp→(St→Hp→Prop)→Prop
abbrev TGs:=List V→St→Hp→(St→Hp→Prop)→Prop
def PG (X:Cx) (target:Expr) (t:TG):Prop:=
 ∀ (pins:List (Addr × Obj)) (s:Shared) (σ:St) (H:Hp) (v:V) (u:Value) (Q:St→Hp→Prop),Inv X pins σ H s→RelV v u→t v σ H Q→
  wpAny (model X.prog X.w) X.A (assign target X.env u) (fun _ s'=>∃ σ' H',Inv X pins σ' H' s'∧Q σ' H') X.xe s
def PGs (X:Cx) (ts:List Expr) (t:TGs):Prop:=
 ∀ (pins:List (Addr × Obj)) (s:Shared) (σ:St) (H:Hp) (vs:List V) (us:List Value) (Q:St→Hp→Prop),Inv X pins σ H s→Vals vs us→t vs σ H Q→
  wpAny (model X.prog X.w) X.A (assignInOrder ((assignEach ts X.env).map (·.2)) us) (fun _ s'=>∃ σ' H',Inv X pins σ' H' s'∧Q σ' H') X.xe s
abbrev TSet:=V→V→V→Hp→(Hp→Prop)→Prop
def PSet (X:Cx) (t:TSet):Prop:=
 ∀ (pins:List (Addr × Obj)) (s:Shared) (σ:St) (H:Hp) (o i v:V) (ov iv u:Value) (Q:Hp→Prop),Inv X pins σ H s→RelV o ov→RelV i iv→RelV v u→t o i v H Q→
  wpAny (model X.prog X.w) X.A (setItem ov iv u) (fun _ s'=>∃ H',Inv X pins σ H' s'∧Q H') X.xe s
section
variable {X:Cx} {pos:Pos}
def gName (i:Nat):TG:=fun v σ H Q=>Q (σ.set i (some v)) H
theorem aI {i:Nat} {x:Str} (hN:X.N.Nodup) (hi:X.N[i]? =some x) (hx:Loc X.env.scope x) (hf:X.fn x=true∨X.env.scope.names.lookup x=some .local:=by first | exact .inl rfl | exact .inr rfl | assumption):PG X (.Name x pos) (gName i):=by
 intro pins s σ H v u Q I r h
 exact wpAny_assign_Name (sn I hN hi hx r (fun s' I'=>⟨_,H,I',h⟩) hf)
def gNil:TGs:=fun vs σ H Q=>vs=[]∧Q σ H
def gCons (t:TG) (u:TGs):TGs:=fun vs σ H Q=>∃ v r,vs=v::r∧t v σ H fun σ' H'=>u r σ' H' Q
theorem qI:PGs X [] gNil:=by
 intro pins s σ H vs us Q I r h
 obtain ⟨e,h⟩:=h
 subst e
 cases r
 exact assignInOrder_nil ⟨σ,H,I,h⟩
theorem iC {e:Expr} {es:List Expr} {t:TG} {u:TGs} (h1:PG X e t) (h2:PGs X es u)
  (hs:(assignEach (e::es) X.env).map (·.2)=assign e X.env::(assignEach es X.env).map (·.2):=by rfl):PGs X (e::es) (gCons t u):=by
 intro pins s σ H vs us Q I r h
 obtain ⟨v,vr,e1,h⟩:=h
 subst e1
 cases r with
 | cons r rr=>
  rw [hs]
  refine assignInOrder_cons (thn (h1 pins s σ H _ _ _ I r h) fun _ s1 ⟨σ1,H1,I1,q1⟩=>?_)
  exact h2 pins s1 σ1 H1 _ _ Q I1 rr q1
def gTup (K:PySem.W.Frag) (n:Nat) (t:TGs):TG:=fun v σ H Q=>∃ a xs,v=.ref a∧SqT K H a xs∧xs.length=n∧t xs σ H Q
theorem ss {es:List Expr} {k:Nat} {t:TGs} {n:Nat} (hc:X.calm=true) (h:PGs X es t)
  (hn:(assignEach es X.env).length=n:=by rfl) (hst:(assignEach es X.env).findIdx? (·.1)=none:=by rfl):PG X (.Tuple es k pos) (gTup X.K n t):=by
 intro pins s σ H v u Q I r hw
 obtain ⟨a,xs,e1,hq,hl,hw⟩:=hw
 subst e1
 cases r
 obtain ⟨its,rv,ht,hz⟩:=I.tuple hq
 refine assign_Tuple_tuple (I.ok.hd hc) ht (by simp [hn,← hl,rv.length]) hst fun h' hx=>?_
 have I1:Inv X pins σ H { s with heap:=h' }:=I.kept (t':=s.toks) fun b o e=>hx b o (Nat.ne_of_lt (Heap.lt_size e)) e
 exact h pins _ σ H xs _ Q I1 (by simpa using rv) hw
def gSub (to ti:TE) (t:TSet):TG:=fun v σ H Q=>to σ H fun o H1=>ti σ H1 fun i H2=>t o i v H2 fun H3=>Q σ H3
theorem wx {o i:Expr} {to ti:TE} {t:TSet} (ho:PE X o to) (hi:PE X i ti) (hs:PSet X t)
  (ha:∀ v,assign (.Subscript o i pos) X.env v=(do
   let ov ← holding [v] (eval o X.env)
   let iv ← holding [v,ov] (eval i X.env)
   standAt pos
   holding [v,ov,iv] (setItem ov iv v)
   release [v,ov,iv] []):=by intro _; rfl):PG X (.Subscript o i pos) (gSub to ti t):=by
 intro pins s σ H v u Q I r h
 rw [ha]
 refine wpAny_bind (wpAny_holding (thn (ho pins s σ H _ I h) fun ov s1 ⟨x,H1,I1,r1,q1⟩=>?_))
 refine wpAny_bind (wpAny_holding (thn (hi pins s1 σ H1 _ I1 q1) fun iv s2 ⟨y,H2,I2,r2,q2⟩=>?_))
 refine wpAny_bind (wpAny_standAt (wpAny_bind (wpAny_holding (thn (hs pins s2 σ H2 x y v ov iv u _ I2 r1 r2 r q2) fun _ s3 ⟨H3,I3,q3⟩=>?_))))
 exact wpAny_release ⟨σ,H3,I3,q3⟩
def tAsg (te:TE) (g:TG):TS:=fun D σ H=>te σ H fun x H1=>g x σ H1 D.nx
theorem pi {tg e:Expr} {te:TE} {g:TG} (he:PE X e te) (hg:PG X tg g) (hs:swapsWithSole [tg] e pos.line X.env=pure false:=by rfl) (hw:swappedStores [tg] e X.env=pure none:=by rfl)
  (h1:(assignEach [tg] X.env).map (·.2)=[assign tg X.env]:=by rfl):PS X (.Assign [tg] e pos) (tAsg te g):=by
 intro pins s σ H D I h
 refine wpAny_Assign_stores (thn (he pins s σ H _ I h) fun v s1 ⟨x,H1,I1,r1,q1⟩=>?_) hs hw
 rw [h1]
 exact thn (hg pins s1 σ H1 x v _ I1 r1 q1) fun _ s2 q=>q
theorem aw {i:Nat} {x:Str} {e:Expr} {te:TE} {pos':Pos} (hN:X.N.Nodup) (hi:X.N[i]? =some x) (hx:Loc X.env.scope x) (he:PE X e te) (hs:swapsWith e (some (.Name x pos')) pos.line X.env=pure false:=by rfl) (hf:X.fn x=true∨X.env.scope.names.lookup x=some .local:=by first | exact .inl rfl | exact .inr rfl | assumption):
  PS X (.Assign [.Name x pos'] e pos) (tAsg te (gName i)):=by
 intro pins s σ H D I h
 refine wpAny_Assign_Name (thn (he pins s σ H _ I h) fun v s1 ⟨y,H1,I1,r1,q1⟩=>?_) hs
 exact sn I1 hN hi hx r1 (fun s2 I2=>⟨_,H1,I2,q1⟩) hf
end
section
variable {X:Cx} {pos:Pos}
def wy (c:TT) (tb:TS):TS:=fun D σ H=>∃ W:Nat→St→Hp→Prop,(∃ m,W m σ H)∧∀ m σ H,W m σ H→
 c σ H fun b H1=>if b=true then ∃ N:St→Hp→Prop,(∀ σ' H',N σ' H'→∃ m',m' < m∧W m' σ' H')∧tb { D with nx:=N,ct:=N,bk:=D.nx } σ H1 else D.nx σ H1
theorem x3 {c:Expr} {body:List Stmt} {tc:TT} {tb:TS} (hp:PassesOwn (model X.prog X.w) X.A X.env X.xe) (hc:PT X c tc) (hb:PSs X body tb):PS X (.While c body [] pos) (wy tc tb):=by
 intro pins s σ H D I h
 obtain ⟨W,⟨m0,w0⟩,turn⟩:=h
 refine wpAny_While (codeAny_whileLoop (fun n s'=>∃ σ' H',Inv X pins σ' H' s'∧W n σ' H') ?_ m0 ⟨σ,H,I,w0⟩)
 rintro n s1 ⟨σ1,H1,I1,w1⟩
 refine wpAny_passesOwn hp (thn (hc pins s1 σ1 H1 _ I1 (turn n σ1 H1 w1)) fun b s2 ⟨H2,I2,q2⟩=>?_)
 cases b with
 | true=>
  obtain ⟨N,hN,q2⟩:=q2
  rw [if_pos rfl]
  refine wpAny_passesOwn hp (thn (hb pins s2 σ1 H2 _ I2 q2) fun f s3 q3=>?_)
  cases f with
  | next=>
   obtain ⟨σ3,H3,I3,n3⟩:=q3
   obtain ⟨m',hm,w3⟩:=hN σ3 H3 n3
   exact ⟨m',hm,σ3,H3,I3,w3⟩
  | cont=>
   obtain ⟨σ3,H3,I3,n3⟩:=q3
   obtain ⟨m',hm,w3⟩:=hN σ3 H3 n3
   exact ⟨m',hm,σ3,H3,I3,w3⟩
  | brk=>exact q3
  | ret v=>exact q3
 | false=>
  rw [if_neg Bool.false_ne_true]
  exact wpAny_execs_nil ⟨σ1,H2,I2,q2⟩
end
structure It where
 go:Nat→Hp→Prop
 yld:Nat→Hp→V→Hp→Prop
 stop:Nat→Hp→Prop
def FpOk (X:Cx) (pins:List (Addr × Obj)) (H:Hp) (b:Addr):Prop:=
 H b=none∧b≠X.env.locals∧b∉X.fs∧(b∈X.ex∨X.s₀.heap.objs.size≤b)∧(∀ x c,X.env.cells.lookup x=some c→c≠b)∧∀ p∈X.pn++pins,p.1≠b
theorem Inv.fpOk {X:Cx} {pins:List (Addr × Obj)} {σ:St} {H H':Hp} {s:Shared} {b:Addr} (I:Inv X pins σ H s) (hb:s.heap.objs.size≤b) (hn:H' b=none):FpOk X pins H' b:=by
 refine ⟨hn,Nat.ne_of_gt (Nat.lt_of_lt_of_le I.lt hb),I.nofs hb,.inr (Nat.le_trans I.sz hb),fun x c e z=>?_,fun p hp z=>?_⟩
 · obtain ⟨v,q⟩:=I.cell x c e
   exact absurd (Nat.lt_of_lt_of_le q.lt (by rw [z]; exact hb)) (Nat.lt_irrefl _)
 · exact absurd (Nat.lt_of_lt_of_le (Heap.lt_size (I.pin p hp).1) (by rw [z]; exact hb)) (Nat.lt_irrefl _)
structure Turn (P:Program) (w:World) (K:PySem.W.Frag) (tg:Expr) (J:It) (fp:List Addr) (it:Addr) (tn:Nat→Heap→Prop):Prop where
 mem:it∈fp
 obj:∀ i h,tn i h→∀ b∈fp,∃ o,h.get? b=some o∧∀ v,o.data≠.cell v
 keep:∀ i h h',tn i h→(∀ b∈fp,∀ o,h.get? b=some o→h'.get? b=some o)→tn i h'
 item:∀ (X:Cx),X.prog=P→X.w=w→X.K=K→X.calm=true→∀ (i:Nat) (pins:List (Addr × Obj)) (s:Shared) (σ:St) (H:Hp) (E:Value→Shared→Prop),Inv X pins σ H s→(∀ b∈fp,FpOk X pins H b)→tn i s.heap→J.go i H→
  wpAny (model P w) X.A (pyNext (.ref it)) (fun r s1=>∃ u,r=some u∧
   wpAny (model P w) X.A (letOwnedTupleGo tg (.ref it) u) (fun _ s2=>∃ x H',Inv X pins σ H' s2∧RelV x u∧J.yld i H x H'∧tn (i+1) s2.heap∧∀ b∈fp,H' b=none) E s1) E s
 done:∀ (X:Cx),X.prog=P→X.w=w→X.K=K→X.calm=true→∀ (i:Nat) (pins:List (Addr × Obj)) (s:Shared) (σ:St) (H:Hp) (E:Value→Shared→Prop),Inv X pins σ H s→(∀ b∈fp,FpOk X pins H b)→tn i s.heap→J.stop i H→
  wpAny (model P w) X.A (pyNext (.ref it)) (fun r s1=>r=none∧Inv X pins σ H s1) E s
 self:∀ (A:Around) (i:Nat) (s:Shared) (Q:Value→Shared→Prop) (E:Value→Shared→Prop),tn i s.heap→Q (.ref it) s→wpAny (model P w) A (pyIter (.ref it)) Q E s
abbrev TI:=St→Hp→(It→Hp→Prop)→Prop
def PIE (X:Cx) (pins:List (Addr × Obj)) (σ:St) (tg:Expr) (R:It→Hp→Prop) (itv:Value) (s2:Shared):Prop:=
 ∃ (it:Addr) (fp:List Addr) (tn:Nat→Heap→Prop) (J:It) (H':Hp),itv=.ref it∧Inv X pins σ H' s2∧Turn X.prog X.w X.K tg J fp it tn∧tn 0 s2.heap∧(∀ b∈fp,FpOk X pins H' b)∧R J H'
def PI (X:Cx) (tg iter:Expr) (wi:TI):Prop:=
 ∀ (pins:List (Addr × Obj)) (s:Shared) (σ:St) (H:Hp) (R:It→Hp→Prop),Inv X pins σ H s→wi σ H R→
  wpAny (model X.prog X.w) X.A (eval iter X.env) (fun v s1=>wpAny (model X.prog X.w) X.A (pyIter v) (PIE X pins σ tg R) X.xe s1) X.xe s
theorem sj {M:Model} {A:Around} {E:Value→Shared→Prop} {s:Shared} {tg:Expr} {it:Addr} {u:Value} {o:Obj} {n:String} {vs:Array Value} {Q:Unit→Shared→Prop} (ho:s.heap.get? it=some o) (hc:o.cls=.type n) (hd:o.data=.fields vs)
  (hn:["enumerate","zip","dict_itemiterator","dict_reverseitemiterator","odict_iterator","itertools.zip_longest","itertools.pairwise"].contains n=false) (hQ:Q () s):wpAny M A (letOwnedTupleGo tg (.ref it) u) Q E s:=by
 unfold letOwnedTupleGo
 cases tg <;> first
  | exact wpAny_pure hQ
  | (cases u <;> first
    | exact wpAny_pure hQ
    | (refine wpAny_bind (wpAny_load ho ?_)
       rw [hc,hd]
       show wpAny M A (if (["enumerate","zip","dict_itemiterator","dict_reverseitemiterator","odict_iterator","itertools.zip_longest","itertools.pairwise"].contains n&&vs[0]? ==some (rawInt _))=true then _ else _) Q E s
       rw [if_neg (by intro h; rw [hn,Bool.false_and] at h; cases h)]
       exact wpAny_pure hQ))
def Itl (K:PySem.W.Frag) (a:Addr):It:=
 ⟨fun i H=>∃ xs x,SqL K H a xs∧xs[i]? =some x,fun i H x H'=>H'=H∧∀ xs,SqL K H a xs→xs[i]? =some x,fun i H=>∃ xs,SqL K H a xs∧xs.length≤i⟩
def Itt (K:PySem.W.Frag) (a:Addr):It:=
 ⟨fun i H=>∃ xs x,SqT K H a xs∧xs[i]? =some x,fun i H x H'=>H'=H∧∀ xs,SqT K H a xs→xs[i]? =some x,fun i H=>∃ xs,SqT K H a xs∧xs.length≤i⟩
def Itr (lo:Int) (n:Nat):It:=⟨fun i _=>i < n,fun i H x H'=>H'=H∧x=.int (lo+i),fun i _=>n≤i⟩
theorem wz {P:Program} {w:World} {K:PySem.W.Frag} {tg:Expr} (a it:Addr):Turn P w K tg (Itl K a) [it] it (fun i h=>h.IsListIter it a i) where
 mem:=by simp
 obj:=fun i h st b hb=>by
  have e:b=it:=by simpa using hb
  subst e
  obtain ⟨o,e,c,d⟩:=st
  exact ⟨o,e,fun v z=>by rw [d] at z; cases z⟩
 keep:=fun i h h' st k=>st.at fun o e=>k it (by simp) o e
 item:=by
  intro X hP hw hK hc i pins s σ H E I hf st hg
  subst hP hw hK
  obtain ⟨xs,x,hq,hx⟩:=hg
  obtain ⟨its,rv,p,hz⟩:=I.list hq
  obtain ⟨u,hu,ru⟩:=rv.get hx
  obtain ⟨f0,f1,f2,f3,f4,f5⟩:=hf it (by simp)
  refine wpAny_pyNext_list_item st p.isList (x:=u) (by simpa using hu) fun h' st' sb=>?_
  have I1:Inv X pins σ H { s with heap:=h' }:=I.turned (t':=s.toks) (fun b o hb e=>(sb.2 b hb).trans e) f0 f1 f3 f4 f5
  obtain ⟨o,e,c,d⟩:=id st'
  exact ⟨u,rfl,sj (s:={ s with heap:=h' }) e c d (by decide) ⟨x,H,I1,ru,⟨rfl,fun ys hy=>by rw [I.list_inj hy hq]; exact hx⟩,st',fun b hb=>(hf b hb).1⟩⟩
 done:=by
  intro X hP hw hK hc i pins s σ H E I hf st hg
  subst hP hw hK
  obtain ⟨xs,hq,hx⟩:=hg
  obtain ⟨its,rv,p,hz⟩:=I.list hq
  obtain ⟨f0,f1,f2,f3,f4,f5⟩:=hf it (by simp)
  have hl:=rv.length
  exact wpAny_pyNext_list_end (I.ok.hd hc) st p.isList (by simp; omega) fun h' eb=>⟨rfl,I.turned (t':=s.toks) (fun b o hb e=>eb b o hb e) f0 f1 f3 f4 f5⟩
 self:=fun _ _ _ _ _ st h=>wpAny_pyIter_listiter st h
theorem vm {P:Program} {w:World} {K:PySem.W.Frag} {tg:Expr} (a it:Addr):Turn P w K tg (Itt K a) [it] it (fun i h=>h.IsTupleIter it a i) where
 mem:=by simp
 obj:=fun i h st b hb=>by
  have e:b=it:=by simpa using hb
  subst e
  obtain ⟨o,e,c,d⟩:=st
  exact ⟨o,e,fun v z=>by rw [d] at z; cases z⟩
 keep:=fun i h h' st k=>st.at fun o e=>k it (by simp) o e
 item:=by
  intro X hP hw hK hc i pins s σ H E I hf st hg
  subst hP hw hK
  obtain ⟨xs,x,hq,hx⟩:=hg
  obtain ⟨its,rv,p,hz⟩:=I.tuple hq
  obtain ⟨u,hu,ru⟩:=rv.get hx
  obtain ⟨f0,f1,f2,f3,f4,f5⟩:=hf it (by simp)
  refine wpAny_pyNext_tuple_item st (show s.heap.IsTuple a its.toArray from p) (x:=u) (by simpa using hu) fun h' st' sb=>?_
  have I1:Inv X pins σ H { s with heap:=h' }:=I.turned (t':=s.toks) (fun b o hb e=>(sb.2 b hb).trans e) f0 f1 f3 f4 f5
  obtain ⟨o,e,c,d⟩:=id st'
  exact ⟨u,rfl,sj (s:={ s with heap:=h' }) e c d (by decide) ⟨x,H,I1,ru,⟨rfl,fun ys hy=>by rw [I.tuple_inj hy hq]; exact hx⟩,st',fun b hb=>(hf b hb).1⟩⟩
 done:=by
  intro X hP hw hK hc i pins s σ H E I hf st hg
  subst hP hw hK
  obtain ⟨xs,hq,hx⟩:=hg
  obtain ⟨its,rv,p,hz⟩:=I.tuple hq
  obtain ⟨f0,f1,f2,f3,f4,f5⟩:=hf it (by simp)
  have hl:=rv.length
  exact wpAny_pyNext_tuple_end (I.ok.hd hc) st (show s.heap.IsTuple a its.toArray from p) (by simp; omega) fun h' eb=>⟨rfl,I.turned (t':=s.toks) (fun b o hb e=>eb b o hb e) f0 f1 f3 f4 f5⟩
 self:=fun _ _ _ _ _ st h=>wpAny_pyIter_tupleiter st h
theorem vn {P:Program} {w:World} {K:PySem.W.Frag} {tg:Expr} (it:Addr) (lo:Int) (n:Nat):Turn P w K tg (Itr lo n) [it] it (fun i h=>IsRangeIter h it (lo+(i:Nat)*1) ((n:Int) - (i:Nat)) 1) where
 mem:=by simp
 obj:=fun i h st b hb=>by
  have e:b=it:=by simpa using hb
  subst e
  exact ⟨_,st,fun v z=>by
   have z':Data.fields _=Data.cell v:=z
   cases z'⟩
 keep:=fun i h h' st k=>k it (by simp) _ st
 item:=by
  intro X hP hw hK hc i pins s σ H E I hf st hg
  subst hP hw hK
  obtain ⟨f0,f1,f2,f3,f4,f5⟩:=hf it (by simp)
  have W:=Walks.range (prog:=X.prog) (w:=X.w) (I.ok.hd hc) it lo 1 n
  refine W.item i s _ _ hg st fun v h' tk hv st' kk=>?_
  obtain ⟨t,rfl⟩:=hv
  have I1:Inv X pins σ H { s with heap:=h',toks:=tk }:=I.turned (fun b o hb e=>kk b o (by simpa using hb) e) f0 f1 f3 f4 f5
  refine ⟨_,rfl,sj (s:={ s with heap:=h',toks:=tk }) (n:="range_iterator") st' rfl rfl (by decide) ⟨.int (lo+i),H,I1,⟨t,?_⟩,⟨rfl,rfl⟩,st',fun b hb=>(hf b hb).1⟩⟩
  rw [Int.mul_one]
 done:=by
  intro X hP hw hK hc i pins s σ H E I hf st hg
  subst hP hw hK
  obtain ⟨f0,f1,f2,f3,f4,f5⟩:=hf it (by simp)
  exact wpAny_pyNext_range_end (I.ok.hd hc) st (by have:n≤i:=hg; omega) fun h' eb=>⟨rfl,I.turned (t':=s.toks) (fun b o hb e=>eb b o hb e) f0 f1 f3 f4 f5⟩
 self:=fun _ _ _ _ _ st h=>wpAny_pyIter_rangeiter st h
end L2
namespace L2
open PySem PySem.Spec PyProof.Rows
section
variable {X:Cx} {tg:Expr}
def iList (K:PySem.W.Frag) (tl:TE):TI:=fun σ H R=>tl σ H fun x H1=>∃ a,x=.ref a∧(∃ xs,SqL K H1 a xs)∧R (Itl K a) H1
def iTup (K:PySem.W.Frag) (tl:TE):TI:=fun σ H R=>tl σ H fun x H1=>∃ a,x=.ref a∧(∃ xs,SqT K H1 a xs)∧R (Itt K a) H1
theorem bc {l:Expr} {tl:TE} (hl:PE X l tl):PI X tg l (iList X.K tl):=by
 intro pins s σ H R I h
 refine thn (hl pins s σ H _ I h) fun v s1 ⟨x,H1,I1,r1,q1⟩=>?_
 obtain ⟨a,e,⟨xs,hq⟩,q⟩:=q1
 subst e
 cases r1
 obtain ⟨its,rv,p,hz⟩:=I1.list hq
 refine wpAny_pyIter_list p.isList ?_
 refine ⟨s1.heap.objs.size,[s1.heap.objs.size],_,_,H1,rfl,I1.kept (t':=s1.toks) fun b o e=>Heap.get?_push_of_some _ e,wz a _,⟨_,Heap.get?_push_size _ rfl,rfl,rfl⟩,fun b hb=>?_,q⟩
 have e:b=s1.heap.objs.size:=by simpa using hb
 subst e
 exact I1.fpOk (Nat.le_refl _) (I1.hok.fresh (Nat.le_refl _))
theorem zw {l:Expr} {tl:TE} (hl:PE X l tl):PI X tg l (iTup X.K tl):=by
 intro pins s σ H R I h
 refine thn (hl pins s σ H _ I h) fun v s1 ⟨x,H1,I1,r1,q1⟩=>?_
 obtain ⟨a,e,⟨xs,hq⟩,q⟩:=q1
 subst e
 cases r1
 obtain ⟨its,rv,p,hz⟩:=I1.tuple hq
 refine wpAny_pyIter_tuple (show s1.heap.IsTuple a its.toArray from p) ?_
 refine ⟨s1.heap.objs.size,[s1.heap.objs.size],_,_,H1,rfl,I1.kept (t':=s1.toks) fun b o e=>Heap.get?_push_of_some _ e,vm a _,⟨_,Heap.get?_push_size _ rfl,rfl,rfl⟩,fun b hb=>?_,q⟩
 have e:b=s1.heap.objs.size:=by simpa using hb
 subst e
 exact I1.fpOk (Nat.le_refl _) (I1.hok.fresh (Nat.le_refl _))
theorem su {pins:List (Addr × Obj)} {σ:St} {H:Hp} {s:Shared} {R:It→Hp→Prop} {E:Value→Shared→Prop} {lo hi:Int} {t u v:Tok} {tk:Nat} (I:Inv X pins σ H s) (h1: -(2^62)≤lo) (h2:lo < 2^62) (h3: -(2^62)≤hi) (h4:hi < 2^62)
  (q:R (Itr lo (hi - lo).toNat) H):wpAny (model X.prog X.w) X.A (pyIter (.ref s.heap.objs.size)) (PIE X pins σ tg R) E { s with heap:=s.heap.push { cls:=.type "range",data:=.fields #[.int lo t,.int hi u,.int 1 v] },toks:=tk }:=by
 refine wpAny_pyIter_range (IsRange.new ..) (small_one h1 h2 h3 h4) ?_
 have I1:Inv X pins σ H { s with heap:=s.heap.push { cls:=.type "range",data:=.fields #[.int lo t,.int hi u,.int 1 v] },toks:=tk }:=I.kept fun b o e=>Heap.get?_push_of_some _ e
 refine ⟨(s.heap.push { cls:=.type "range",data:=.fields #[.int lo t,.int hi u,.int 1 v] }).objs.size,[(s.heap.push { cls:=.type "range",data:=.fields #[.int lo t,.int hi u,.int 1 v] }).objs.size],_,_,H,rfl,
  I1.kept (t':=tk) fun b o e=>Heap.get?_push_of_some _ e,vn _ lo (hi - lo).toNat,?_,fun b hb=>?_,q⟩
 · have e1:lo+((0:Nat):Int)*1=lo:=by simp
   have e2:(((hi - lo).toNat:Nat):Int) - ((0:Nat):Int)=Builtin.Range.rangeSize lo hi 1:=by rw [rangeSize_one]; split <;> omega
   show IsRangeIter _ _ (lo+((0:Nat):Int)*1) ((((hi - lo).toNat:Nat):Int) - ((0:Nat):Int)) 1
   rw [e1,e2]
   exact Heap.get?_push_size _ rfl
 · have e:b=(s.heap.push { cls:=.type "range",data:=.fields #[.int lo t,.int hi u,.int 1 v] }).objs.size:=by simpa using hb
   subst e
   exact I1.fpOk (Nat.le_refl _) (I1.hok.fresh (Nat.le_refl _))
def di (ta:TA):TI:=fun σ H R=>ta σ H fun vs H1=>∃ j:Int,vs=[.int j]∧ -(2^62)≤j∧j < 2^62∧R (Itr 0 j.toNat) H1
def pj (ta:TA):TI:=fun σ H R=>ta σ H fun vs H1=>∃ i j:Int,vs=[.int i,.int j]∧(-(2^62)≤i∧i < 2^62∧ -(2^62)≤j∧j < 2^62)∧R (Itr i (j - i).toNat) H1
theorem bV {a:Expr} {ta:TA} {p pos:Pos} (hg:Gl X "range") (hm:X.mg "range"=none) (ha:PA X [a] ta) (hs:starEach [a] X.env=[(false,eval a X.env)]:=by rfl):PI X tg (.Call (.Name "range" p) [a] [] pos) (di ta):=by
 intro pins s σ H R I h
 refine Call_ (gI I hg hm boot_range (PyProof.Rows.callWith_type1 (thn (ha pos pins s σ H _ I h) fun us s1 ⟨vs,H1,I1,r1,q1⟩=>?_) hs rfl))
 obtain ⟨j,e,q1,q2,q⟩:=q1
 subst e
 cases r1 with
 | cons r rr=>
  cases rr
  obtain ⟨t,rfl⟩:=r
  exact call_range_1 (su I1 (by omega) (by omega) q1 q2 (by simpa using q))
theorem wA {a b:Expr} {ta:TA} {p pos:Pos} (hg:Gl X "range") (hm:X.mg "range"=none) (ha:PA X [a,b] ta) (hs:starEach [a,b] X.env=[(false,eval a X.env),(false,eval b X.env)]:=by rfl) (hs2:starEach [b] X.env=[(false,eval b X.env)]:=by rfl):
  PI X tg (.Call (.Name "range" p) [a,b] [] pos) (pj ta):=by
 intro pins s σ H R I h
 refine Call_ (gI I hg hm boot_range (PyProof.Rows.callWith_type1 (thn (ha pos pins s σ H _ I h) fun us s1 ⟨vs,H1,I1,r1,q1⟩=>?_) (by rw [hs,hs2]) (by rw [hs2]; rfl)))
 obtain ⟨i,j,e,⟨q1,q2,q3,q4⟩,q⟩:=q1
 subst e
 cases r1 with
 | cons r rr=>
  cases rr with
  | cons r' rr=>
   cases rr
   obtain ⟨t,rfl⟩:=r
   obtain ⟨t',rfl⟩:=r'
   exact call_range_2 (su I1 q1 q2 q3 q4 q)
def tFor (wi:TI) (g:TG) (tb:TS):TS:=fun D σ H=>wi σ H fun J H1=>∃ W:Nat→Nat→St→Hp→Prop,(∃ m,W 0 m σ H1)∧∀ i m σ H,W i m σ H→
 (J.stop i H∧D.nx σ H)∨(J.go i H∧∃ N:St→Hp→Prop,(∀ σ' H',N σ' H'→∃ m',m' < m∧W (i+1) m' σ' H')∧∀ x H',J.yld i H x H'→g x σ H' fun σ2 H2=>tb { D with nx:=N,ct:=N,bk:=D.nx } σ2 H2)
def mq (fp:List Addr) (h:Heap):List (Addr × Obj):=fp.filterMap fun b=>(h.get? b).map fun o=>(b,o)
theorem jp {fp:List Addr} {h:Heap} {b:Addr} {o:Obj} (hb:b∈fp) (e:h.get? b=some o):(b,o)∈mq fp h:=List.mem_filterMap.mpr ⟨b,hb,by rw [e]; rfl⟩
theorem wB {fp:List Addr} {h:Heap} {p:Addr × Obj} (hp:p∈mq fp h):p.1∈fp∧h.get? p.1=some p.2:=by
 obtain ⟨b,hb,e⟩:=List.mem_filterMap.mp hp
 cases q:h.get? b with
 | none=>rw [q] at e; cases e
 | some o=>
  rw [q] at e
  have e':(b,o)=p:=Option.some.inj e
  subst e'
  exact ⟨hb,q⟩
theorem Inv.pinned {pins:List (Addr × Obj)} {σ:St} {H:Hp} {s:Shared} {fp:List Addr} (I:Inv X pins σ H s) (hf:∀ b∈fp,FpOk X pins H b) (ho:∀ b∈fp,∃ o,s.heap.get? b=some o∧∀ v,o.data≠.cell v):Inv X (pins++mq fp s.heap) σ H s:=
 I.pins_of fun p hp=>(List.mem_append.mp hp).elim (fun z=>I.pin p (List.mem_append_right _ z)) fun z=>by
  obtain ⟨hb,e⟩:=wB z
  obtain ⟨f0,f1,f2,_⟩:=hf p.1 hb
  obtain ⟨o,e',d⟩:=ho p.1 hb
  rw [e] at e'; cases e'
  exact ⟨e,f0,f1,f2,d⟩
theorem Inv.unpinned {pins pl:List (Addr × Obj)} {σ:St} {H:Hp} {s:Shared} (I:Inv X (pins++pl) σ H s):Inv X pins σ H s:=I.pins_of fun p hp=>I.pin p (List.mem_append_right _ (List.mem_append_left _ hp))
theorem dZ {iter:Expr} {body:List Stmt} {wi:TI} {g:TG} {tb:TS} {pos:Pos} (hp:PassesOwn (model X.prog X.w) X.A X.env X.xe) (hc:X.calm=true) (hi:PI X tg iter wi) (hg:PG X tg g) (hb:PSs X body tb)
  (hs:∀ x,foldedSetIterable iter X.env x=pure x:=by intro _; rfl):PS X (.For tg iter body [] pos) (tFor wi g tb):=by
 intro pins s σ H D I h
 refine wpAny_For (thn (hi pins s σ H _ I h) fun v s1 h1=>thn h1 fun itv s2 h2=>?_) hs
 obtain ⟨it,fp,tn,J,H2,e,I2,T,st2,f2,W,⟨m0,w0⟩,turn⟩:=h2
 subst e
 have stat:∀ {H':Hp},(∀ b∈fp,H' b=none)→∀ b∈fp,FpOk X pins H' b:=fun hn b hb=>⟨hn b hb,(f2 b hb).2⟩
 refine codeAny_forLoop_any (fun n s'=>∃ i σ' H',Inv X pins σ' H' s'∧tn i s'.heap∧(∀ b∈fp,H' b=none)∧W i n σ' H') ?_ m0 ⟨0,σ,H2,I2,st2,fun b hb=>(f2 b hb).1,w0⟩
 rintro n s3 ⟨i,σ3,H3,I3,st3,fr3,w3⟩
 rcases turn i n σ3 H3 w3 with ⟨stop,qn⟩ | ⟨go,N,hN,step⟩
 · refine wpAny_passesOwn hp (thn (T.done X rfl rfl rfl hc i pins s3 σ3 H3 X.xe I3 (stat fr3) st3 stop) fun r s4 ⟨hr,I4⟩=>?_)
   subst hr
   exact wpAny_execs_nil ⟨σ3,H3,I4,qn⟩
 · refine wpAny_passesOwn hp (thn (T.item X rfl rfl rfl hc i pins s3 σ3 H3 X.xe I3 (stat fr3) st3 go) fun r s4 ⟨u,hr,h4⟩=>?_)
   subst hr
   refine wpAny_passesOwn hp (thn h4 fun _ s5 ⟨x,H5,I5,r5,y5,st5,fr5⟩=>?_)
   have I5':=I5.pinned (stat fr5) (T.obj _ _ st5)
   refine wpAny_passesOwn hp (thn (hg _ s5 σ3 H5 x u _ I5' r5 (step x H5 y5)) fun _ s6 ⟨σ6,H6,I6,q6⟩=>?_)
   refine wpAny_passesOwn hp (thn (hb _ s6 σ6 H6 _ I6 q6) fun f s7 q7=>?_)
   have again:∀ {σ7:St} {H7:Hp},Inv X (pins++mq fp s5.heap) σ7 H7 s7→N σ7 H7→∃ m,m < n∧∃ i σ' H',Inv X pins σ' H' s7∧tn i s7.heap∧(∀ b∈fp,H' b=none)∧W i m σ' H':=fun {σ7 H7} I7 n7=>by
    obtain ⟨m',hm,w7⟩:=hN σ7 H7 n7
    refine ⟨m',hm,i+1,σ7,H7,I7.unpinned,T.keep _ _ _ st5 fun b hb o e=>(I7.pin (b,o) (List.mem_append_right _ (List.mem_append_right _ (jp hb e)))).1,fun b hb=>?_,w7⟩
    obtain ⟨o,e,d⟩:=T.obj _ _ st5 b hb
    exact (I7.pin (b,o) (List.mem_append_right _ (List.mem_append_right _ (jp hb e)))).2.1
   cases f with
   | next=>obtain ⟨σ7,H7,I7,n7⟩:=q7; exact again I7 n7
   | cont=>obtain ⟨σ7,H7,I7,n7⟩:=q7; exact again I7 n7
   | brk=>obtain ⟨σ7,H7,I7,q7⟩:=q7; exact ⟨σ7,H7,I7.unpinned,q7⟩
   | ret v=>obtain ⟨x7,σ7,H7,I7,r7,q7⟩:=q7; exact ⟨x7,σ7,H7,I7.unpinned,r7,q7⟩
end
theorem ln {K:PySem.W.Frag} {a:Addr} {xs:List V} {g:TG} {tb:TS} {D:Ends} {σ:St} {H:Hp} (Pv:Nat→St→Hp→Prop) (h0:Pv 0 σ H) (hl:∀ i σ H,i≤xs.length→Pv i σ H→SqL K H a xs)
  (hs:∀ i x σ H,xs[i]? =some x→Pv i σ H→g x σ H fun σ2 H2=>tb { D with nx:=Pv (i+1),ct:=Pv (i+1),bk:=D.nx } σ2 H2) (hd:∀ σ H,Pv xs.length σ H→D.nx σ H):
  ∃ W:Nat→Nat→St→Hp→Prop,(∃ m,W 0 m σ H)∧∀ i m σ H,W i m σ H→
   ((Itl K a).stop i H∧D.nx σ H)∨((Itl K a).go i H∧∃ N:St→Hp→Prop,(∀ σ' H',N σ' H'→∃ m',m' < m∧W (i+1) m' σ' H')∧∀ x H',(Itl K a).yld i H x H'→g x σ H' fun σ2 H2=>tb { D with nx:=N,ct:=N,bk:=D.nx } σ2 H2):=by
 refine ⟨fun i m σ H=>m=xs.length - i∧i≤xs.length∧Pv i σ H,⟨xs.length,by simp,Nat.zero_le _,h0⟩,?_⟩
 rintro i m σ H ⟨rfl,hi,p⟩
 have q:=hl i σ H hi p
 by_cases hlt:i < xs.length
 · refine .inr ⟨⟨xs,xs[i],q,by simp [hlt]⟩,Pv (i+1),fun σ' H' p'=>⟨xs.length - (i+1),by omega,rfl,hlt,p'⟩,fun x H' y=>?_⟩
   obtain ⟨e,y⟩:=y
   subst e
   exact hs i x σ _ (y xs q) p
 · have e:i=xs.length:=by omega
   subst e
   exact .inl ⟨⟨xs,q,Nat.le_refl _⟩,hd σ H p⟩
theorem yL {K:PySem.W.Frag} {a:Addr} {xs:List V} {g:TG} {tb:TS} {D:Ends} {σ:St} {H:Hp} (Pv:Nat→St→Hp→Prop) (h0:Pv 0 σ H) (hl:∀ i σ H,i≤xs.length→Pv i σ H→SqT K H a xs)
  (hs:∀ i x σ H,xs[i]? =some x→Pv i σ H→g x σ H fun σ2 H2=>tb { D with nx:=Pv (i+1),ct:=Pv (i+1),bk:=D.nx } σ2 H2) (hd:∀ σ H,Pv xs.length σ H→D.nx σ H):
  ∃ W:Nat→Nat→St→Hp→Prop,(∃ m,W 0 m σ H)∧∀ i m σ H,W i m σ H→
   ((Itt K a).stop i H∧D.nx σ H)∨((Itt K a).go i H∧∃ N:St→Hp→Prop,(∀ σ' H',N σ' H'→∃ m',m' < m∧W (i+1) m' σ' H')∧∀ x H',(Itt K a).yld i H x H'→g x σ H' fun σ2 H2=>tb { D with nx:=N,ct:=N,bk:=D.nx } σ2 H2):=by
 refine ⟨fun i m σ H=>m=xs.length - i∧i≤xs.length∧Pv i σ H,⟨xs.length,by simp,Nat.zero_le _,h0⟩,?_⟩
 rintro i m σ H ⟨rfl,hi,p⟩
 have q:=hl i σ H hi p
 by_cases hlt:i < xs.length
 · refine .inr ⟨⟨xs,xs[i],q,by simp [hlt]⟩,Pv (i+1),fun σ' H' p'=>⟨xs.length - (i+1),by omega,rfl,hlt,p'⟩,fun x H' y=>?_⟩
   obtain ⟨e,y⟩:=y
   subst e
   exact hs i x σ _ (y xs q) p
 · have e:i=xs.length:=by omega
   subst e
   exact .inl ⟨⟨xs,q,Nat.le_refl _⟩,hd σ H p⟩
theorem fw {lo:Int} {n:Nat} {g:TG} {tb:TS} {D:Ends} {σ:St} {H:Hp} (Pv:Nat→St→Hp→Prop) (h0:Pv 0 σ H)
  (hs:∀ i σ H,i < n→Pv i σ H→g (.int (lo+i)) σ H fun σ2 H2=>tb { D with nx:=Pv (i+1),ct:=Pv (i+1),bk:=D.nx } σ2 H2) (hd:∀ σ H,Pv n σ H→D.nx σ H):
  ∃ W:Nat→Nat→St→Hp→Prop,(∃ m,W 0 m σ H)∧∀ i m σ H,W i m σ H→
   ((Itr lo n).stop i H∧D.nx σ H)∨((Itr lo n).go i H∧∃ N:St→Hp→Prop,(∀ σ' H',N σ' H'→∃ m',m' < m∧W (i+1) m' σ' H')∧∀ x H',(Itr lo n).yld i H x H'→g x σ H' fun σ2 H2=>tb { D with nx:=N,ct:=N,bk:=D.nx } σ2 H2):=by
 refine ⟨fun i m σ H=>m=n - i∧i≤n∧Pv i σ H,⟨n,by simp,Nat.zero_le _,h0⟩,?_⟩
 rintro i m σ H ⟨rfl,hi,p⟩
 by_cases hlt:i < n
 · refine .inr ⟨hlt,Pv (i+1),fun σ' H' p'=>⟨n - (i+1),by omega,rfl,hlt,p'⟩,fun x H' y=>?_⟩
   obtain ⟨e,y⟩:=y
   subst e y
   exact hs i σ _ hlt p
 · have e:i=n:=by omega
   subst e
   exact .inl ⟨Nat.le_refl _,hd σ H p⟩
end L2
namespace L2
open PySem PySem.Spec PyProof.Rows
abbrev R2:=V→V→Hp→VK→Prop
def OpR (X:Cx) (f:Value→Value→Sem Value) (r:R2):Prop:=
 ∀ (pins:List (Addr × Obj)) (s:Shared) (σ:St) (H:Hp) (x y:V) (v u:Value) (Q:VK),Inv X pins σ H s→RelV x v→RelV y u→r x y H Q→
  wpAny (model X.prog X.w) X.A (f v u) (EP X pins σ Q) X.xe s
def CallR (X:Cx) (f:Value) (r:List V→Hp→VK→Prop):Prop:=
 ∀ (pins:List (Addr × Obj)) (s:Shared) (σ:St) (H:Hp) (xs:List V) (us:List Value) (Q:VK),Inv X pins σ H s→Vals xs us→r xs H Q→
  wpAny (model X.prog X.w) X.A (call f us) (EP X pins σ Q) X.xe s
def tOp (r:R2) (ta tb:TE):TE:=fun σ H Q=>ta σ H fun x H1=>tb σ H1 fun y H2=>r x y H2 Q
def tUn (r:V→Hp→VK→Prop) (ta:TE):TE:=fun σ H Q=>ta σ H fun x H1=>r x H1 Q
def rI (C:Int→Int→Prop) (g:Int→Int→V):R2:=fun x y H Q=>∃ i j,x=.int i∧y=.int j∧C i j∧Q (g i j) H
def rI0 (g:Int→Int→V):R2:=fun x y H Q=>∃ i j,x=.int i∧y=.int j∧Q (g i j) H
def rU (g:Int→V):V→Hp→VK→Prop:=fun x H Q=>∃ i,x=.int i∧Q (g i) H
section
variable {X:Cx} {a b c:Expr} {ta tb tc:TE} {pos:Pos}
theorem binT (ha:PE X a ta) (hb:PE X b tb) {pins:List (Addr × Obj)} {s:Shared} {σ:St} {H:Hp} {R:V→V→Hp→Prop} (I:Inv X pins σ H s)
  (h:ta σ H fun x H1=>tb σ H1 fun y H2=>R x y H2) {Q:Value→Shared→Prop} {f:Value→Value→Sem Value}
  (hf:∀ v u s2 x y H2,Inv X pins σ H2 s2→RelV x v→RelV y u→R x y H2→wpAny (model X.prog X.w) X.A (f v u) Q X.xe s2):
  wpAny (model X.prog X.w) X.A (eval a X.env) (fun v s₁=>wpAny (model X.prog X.w) X.A (eval b X.env) (fun u s₂=>wpAny (model X.prog X.w) X.A (f v u) Q X.xe s₂) X.xe s₁) X.xe s:=by
 refine thn (ha pins s σ H _ I h) fun v s1 ⟨x,H1,I1,r1,q1⟩=>?_
 refine thn (hb pins s1 σ H1 _ I1 q1) fun u s2 ⟨y,H2,I2,r2,q2⟩=>?_
 exact hf v u s2 x y H2 I2 r1 r2 q2
theorem am {op:Operator} {r:R2} (ho:OpR X (binaryOp op) r) (ha:PE X a ta) (hb:PE X b tb):PE X (.BinOp a op b pos) (tOp r ta tb):=by
 intro pins s σ H Q I h
 exact wpAny_BinOp (binT ha hb I h fun v u s2 x y H2 I2 rx ry q=>ho pins s2 σ H2 x y v u Q I2 rx ry q)
theorem opI {f:Value→Value→Sem Value} {C:Int→Int→Prop} {g:Int→Int→Int}
  (rule:∀ (i j:Int) (t u:Tok) (s:Shared) (Q:Value→Shared→Prop) (E:Value→Shared→Prop),C i j→Q (.int (g i j) s.toks) { s with toks:=s.toks+1 }→wpAny (model X.prog X.w) X.A (f (.int i t) (.int j u)) Q E s):
  OpR X f (rI C fun i j=>.int (g i j)):=by
 intro pins s σ H x y v u Q I rx ry h
 obtain ⟨i,j,rfl,rfl,hc,q⟩:=h
 obtain ⟨t,rfl⟩:=rx
 obtain ⟨t',rfl⟩:=ry
 exact rule i j t t' s _ _ hc ⟨.int (g i j),H,I.tok _,⟨_,rfl⟩,q⟩
theorem vo {f:Value→Value→Sem Value} {g:Int→Int→Int}
  (rule:∀ (i j:Int) (t u:Tok) (s:Shared) (Q:Value→Shared→Prop) (E:Value→Shared→Prop),Q (.int (g i j) s.toks) { s with toks:=s.toks+1 }→wpAny (model X.prog X.w) X.A (f (.int i t) (.int j u)) Q E s):
  OpR X f (rI0 fun i j=>.int (g i j)):=by
 intro pins s σ H x y v u Q I rx ry h
 obtain ⟨i,j,rfl,rfl,q⟩:=h
 obtain ⟨t,rfl⟩:=rx
 obtain ⟨t',rfl⟩:=ry
 exact rule i j t t' s _ _ ⟨.int (g i j),H,I.tok _,⟨_,rfl⟩,q⟩
theorem vp {f:Value→Value→Sem Value} {g:Int→Int→Bool}
  (rule:∀ (i j:Int) (t u:Tok) (s:Shared) (Q:Value→Shared→Prop) (E:Value→Shared→Prop),Q (.bool (g i j)) s→wpAny (model X.prog X.w) X.A (f (.int i t) (.int j u)) Q E s):
  OpR X f (rI0 fun i j=>.bl (g i j)):=by
 intro pins s σ H x y v u Q I rx ry h
 obtain ⟨i,j,rfl,rfl,q⟩:=h
 obtain ⟨t,rfl⟩:=rx
 obtain ⟨t',rfl⟩:=ry
 exact rule i j t t' s _ _ ⟨.bl (g i j),H,I,rfl,q⟩
def CDiv (i j:Int):Prop:=0 < j∧j < 1073741824
def CPow (i j:Int):Prop:=0≤j∧j≤1000000∧i.natAbs < 2^64
def CMul (i j:Int):Prop:=(-(2^64) < i∧i < 2^64)∨(-(2^64) < j∧j < 2^64)
theorem CMul.ok {i j:Int} (h:CMul i j):IntMulOk i j:=by
 rcases h with ⟨h1,h2⟩ | ⟨h1,h2⟩
 · exact .of_left (intBits_le_64 h1 h2)
 · exact .of_right (intBits_le_64 h1 h2)
theorem vq (k:Nat):(0:Int)≤2^k:=by
 rw [two_pow_cast]
 exact Int.natCast_nonneg _
theorem zx:OpR X (binaryOp .Add) (rI0 fun i j=>.int (i+j)):=vo fun _ _ _ _ _ _ _ q=>add_int q
theorem zy:OpR X (binaryOp .Sub) (rI0 fun i j=>.int (i - j)):=vo fun _ _ _ _ _ _ _ q=>sub_int q
theorem zA:OpR X (binaryOp .Mult) (rI CMul fun i j=>.int (i*j)):=opI fun _ _ _ _ _ _ _ hc q=>mul_int q hc.ok
theorem yM:OpR X (binaryOp .FloorDiv) (rI CDiv fun i j=>.int (i / j)):=opI fun i j _ _ _ _ _ hc q=>by
 have h1:(0:Int) < j:=hc.1
 have h2:j < 1073741824:=hc.2
 exact floordiv_int (by omega) (by rw [Int.fdiv_eq_ediv_of_nonneg i (by omega)]; exact q) (.inl (PyProof.noPylong_small (by omega)))
theorem zB:OpR X (binaryOp .Mod) (rI (fun _ j=>0 < j) fun i j=>.int (i % j)):=opI fun i j _ _ _ _ _ hc q=>by
 have h1:(0:Int) < j:=hc
 exact mod_int' (by omega) (by rw [Int.fmod_eq_emod_of_nonneg i (by omega)]; exact q)
theorem zC:OpR X (binaryOp .LShift) (rI CPow fun i j=>.int (i*2^j.toNat)):=opI fun _ _ _ _ _ _ _ hc q=>lshift_int_small hc.1 hc.2.1 hc.2.2 q
theorem zD:OpR X (binaryOp .RShift) (rI (fun _ j=>0≤j) fun i j=>.int (i / 2^j.toNat)):=opI fun i j _ _ _ _ _ hc q=>
 rshift_int hc (by rw [Int.fdiv_eq_ediv_of_nonneg i (vq _)]; exact q)
theorem zE:OpR X (binaryOp .BitAnd) (rI0 fun i j=>.int (Builtin.bitAnd i j)):=vo fun _ _ _ _ _ _ _ q=>and_int q
theorem Ak:OpR X (binaryOp .BitOr) (rI0 fun i j=>.int (Builtin.bitOr i j)):=vo fun _ _ _ _ _ _ _ q=>or_int q
end
def scal:V→V→Bool
 | .non,.non=>true | .non,.int _=>true | .int _,.non=>true | .non,.bl _=>true | .bl _,.non=>true | .non,.str _=>true | .str _,.non=>true
 | .int _,.int _=>true | .bl _,.bl _=>true | .str _,.str _=>true | .byt _,.byt _=>true
 | .int _,.str _=>true | .str _,.int _=>true | .bl _,.str _=>true | .str _,.bl _=>true
 | _,_=>false
def rEq:R2:=fun x y H Q=>scal x y=true∧Q (.bl (decide (x=y))) H
def rNe:R2:=fun x y H Q=>scal x y=true∧Q (.bl (!decide (x=y))) H
theorem uW {i j:Int}:decide (V.int i=V.int j)=(i==j):=by
 rw [Bool.eq_iff_iff]
 simp
theorem wC {i j:Bool}:decide (V.bl i=V.bl j)=(i==j):=by
 rw [Bool.eq_iff_iff]
 simp
theorem uX {i j:Str}:decide (V.str i=V.str j)=(i==j):=by
 rw [Bool.eq_iff_iff]
 simp
theorem uY {i j:Array UInt8}:decide (V.byt i=V.byt j)=(i.toList==j.toList):=by
 rw [Bool.eq_iff_iff]
 cases i
 cases j
 simp
section
variable {X:Cx} {a b c:Expr} {ta tb tc:TE} {pos:Pos}
theorem aV {pins:List (Addr × Obj)} {σ:St} {H:Hp} {s:Shared} {Q:VK} {k k':Bool} (I:Inv X pins σ H s) (q:Q (.bl k) H) (e:k=k'):EP X pins σ Q (.bool k') s:=by
 subst e
 exact ⟨.bl k,H,I,rfl,q⟩
theorem vt:OpR X (compareOp .Eq) rEq:=by
 intro pins s σ H x y v u Q I rx ry h
 obtain ⟨hs,q⟩:=h
 cases x with
 | non=>
  cases rx
  cases y with
  | non=>cases ry; exact PySem.EqNone.eq_none_none (aV I q (by simp))
  | bl j=>cases ry; exact PySem.EqNone.eq_none_bool (aV I q (by simp))
  | int j=>obtain ⟨t',rfl⟩:=ry; exact PySem.EqNone.eq_none_int (aV I q (by simp))
  | str j=>obtain ⟨t',rfl⟩:=ry; exact PySem.EqNone.eq_none_str (aV I q (by simp))
  | _=>exact absurd (show false=true from hs) Bool.false_ne_true
 | bl i=>
  cases rx
  cases y with
  | non=>cases ry; exact PySem.EqNone.eq_bool_none (aV I q (by simp))
  | bl j=>cases ry; exact eq_bool (aV I q wC)
  | str j=>obtain ⟨t',rfl⟩:=ry; exact PySem.EqMixed.eq_bool_str (aV I q (by simp))
  | _=>exact absurd (show false=true from hs) Bool.false_ne_true
 | int i=>
  obtain ⟨t,rfl⟩:=rx
  cases y with
  | non=>cases ry; exact PySem.EqNone.eq_int_none (aV I q (by simp))
  | int j=>obtain ⟨t',rfl⟩:=ry; exact eq_int (aV I q uW)
  | str j=>obtain ⟨t',rfl⟩:=ry; exact PySem.EqMixed.eq_int_str (aV I q (by simp))
  | _=>exact absurd (show false=true from hs) Bool.false_ne_true
 | str i=>
  obtain ⟨t,rfl⟩:=rx
  cases y with
  | non=>cases ry; exact PySem.EqNone.eq_str_none (aV I q (by simp))
  | bl j=>cases ry; exact PySem.EqMixed.eq_str_bool (aV I q (by simp))
  | int j=>obtain ⟨t',rfl⟩:=ry; exact PySem.EqMixed.eq_str_int (aV I q (by simp))
  | str j=>obtain ⟨t',rfl⟩:=ry; exact eq_str (aV I q uX)
  | _=>exact absurd (show false=true from hs) Bool.false_ne_true
 | byt i=>
  obtain ⟨t,rfl⟩:=rx
  cases y with
  | byt j=>obtain ⟨t',rfl⟩:=ry; exact PySem.W.eq_bytes (aV I q uY)
  | _=>exact absurd (show false=true from hs) Bool.false_ne_true
 | _=>cases y <;> exact absurd (show false=true from hs) Bool.false_ne_true
theorem vv:OpR X (compareOp .NotEq) rNe:=by
 intro pins s σ H x y v u Q I rx ry h
 obtain ⟨hs,q⟩:=h
 cases x with
 | non=>
  cases rx
  cases y with
  | non=>cases ry; exact PySem.EqNone.ne_none_none (aV I q (by simp))
  | bl j=>cases ry; exact PySem.EqNone.ne_none_bool (aV I q (by simp))
  | int j=>obtain ⟨t',rfl⟩:=ry; exact PySem.EqNone.ne_none_int (aV I q (by simp))
  | str j=>obtain ⟨t',rfl⟩:=ry; exact PySem.EqNone.ne_none_str (aV I q (by simp))
  | _=>exact absurd (show false=true from hs) Bool.false_ne_true
 | bl i=>
  cases rx
  cases y with
  | non=>cases ry; exact PySem.EqNone.ne_bool_none (aV I q (by simp))
  | bl j=>cases ry; exact ne_bool (aV I q (congrArg not wC))
  | str j=>obtain ⟨t',rfl⟩:=ry; exact PySem.EqMixed.ne_bool_str (aV I q (by simp))
  | _=>exact absurd (show false=true from hs) Bool.false_ne_true
 | int i=>
  obtain ⟨t,rfl⟩:=rx
  cases y with
  | non=>cases ry; exact PySem.EqNone.ne_int_none (aV I q (by simp))
  | int j=>obtain ⟨t',rfl⟩:=ry; exact ne_int (aV I q (congrArg not uW))
  | str j=>obtain ⟨t',rfl⟩:=ry; exact PySem.EqMixed.ne_int_str (aV I q (by simp))
  | _=>exact absurd (show false=true from hs) Bool.false_ne_true
 | str i=>
  obtain ⟨t,rfl⟩:=rx
  cases y with
  | non=>cases ry; exact PySem.EqNone.ne_str_none (aV I q (by simp))
  | bl j=>cases ry; exact PySem.EqMixed.ne_str_bool (aV I q (by simp))
  | int j=>obtain ⟨t',rfl⟩:=ry; exact PySem.EqMixed.ne_str_int (aV I q (by simp))
  | str j=>obtain ⟨t',rfl⟩:=ry; exact ne_str (aV I q (congrArg not uX))
  | _=>exact absurd (show false=true from hs) Bool.false_ne_true
 | byt i=>
  obtain ⟨t,rfl⟩:=rx
  cases y with
  | byt j=>obtain ⟨t',rfl⟩:=ry; exact PySem.W.ne_bytes (aV I q (congrArg not uY))
  | _=>exact absurd (show false=true from hs) Bool.false_ne_true
 | _=>cases y <;> exact absurd (show false=true from hs) Bool.false_ne_true
theorem Al:OpR X (compareOp .Lt) (rI0 fun i j=>.bl (decide (i < j))):=vp fun _ _ _ _ _ _ _ q=>lt_int q
theorem Am:OpR X (compareOp .LtE) (rI0 fun i j=>.bl (decide (i≤j))):=vp fun _ _ _ _ _ _ _ q=>le_int q
theorem An:OpR X (compareOp .Gt) (rI0 fun i j=>.bl (decide (j < i))):=vp fun _ _ _ _ _ _ _ q=>gt_int q
theorem Ao:OpR X (compareOp .GtE) (rI0 fun i j=>.bl (decide (j≤i))):=vp fun _ _ _ _ _ _ _ q=>ge_int q
theorem wD:OpR X (compareOp .In) (fun x y H Q=>∃ i j,x=.str i∧y=.str j∧Q (.bl (!(Builtin.Str.occurrences j i 0 j.length 1).isEmpty)) H):=by
 intro pins s σ H x y v u Q I rx ry h
 obtain ⟨i,j,rfl,rfl,q⟩:=h
 obtain ⟨t,rfl⟩:=rx
 obtain ⟨t',rfl⟩:=ry
 exact in_str (aV I q rfl)
theorem zF:OpR X (compareOp .Is) (fun x y H Q=>y=.non∧Q (.bl (decide (x=.non))) H):=by
 intro pins s σ H x y v u Q I rx ry h
 obtain ⟨rfl,q⟩:=h
 cases ry
 refine is_none_gen (aV I q ?_)
 cases x <;> first
  | (cases rx; rfl)
  | (obtain ⟨t,rfl⟩:=rx; rfl)
theorem ao (b:Expr) {op:CmpOp} (h:op≠.In:=by decide) (h2:op≠.NotIn:=by decide):behindInMarks op b=false:=by
 have e1:(op==CmpOp.In)=false:=by cases op <;> first | rfl | exact absurd rfl h
 have e2:(op==CmpOp.NotIn)=false:=by cases op <;> first | rfl | exact absurd rfl h2
 cases b <;> simp [behindInMarks,e1,e2]
theorem aN {op:CmpOp} {r:R2} (ho:OpR X (compareOp op) r) (ha:PE X a ta) (hb:PE X b tb) (hm:behindInMarks op b=false):PE X (.Compare a [op] [b] pos) (tOp r ta tb):=by
 intro pins s σ H Q I h
 exact wpAny_Compare1 (binT ha hb I h fun v u s2 x y H2 I2 rx ry q=>ho pins s2 σ H2 x y v u Q I2 rx ry q) hm
def tTest (t:TE):TT:=fun σ H Q=>t σ H fun x H'=>∃ k,x=.bl k∧Q k H'
theorem ap {op:CmpOp} {r:R2} (ho:OpR X (compareOp op) r) (ha:PE X a ta) (hb:PE X b tb) (hm:behindInMarks op b=false):PT X (.Compare a [op] [b] pos) (tTest (tOp r ta tb)):=by
 intro pins s σ H Q I h
 refine wpAny_isTrue_Compare1 (thn (ha pins s σ H _ I h) fun v s1 ⟨x,H1,I1,r1,q1⟩=>thn (hb pins s1 σ H1 _ I1 q1) fun u s2 ⟨y,H2,I2,r2,q2⟩=>
  thn (ho pins s2 σ H2 x y v u _ I2 r1 r2 q2) fun c s3 ⟨z,H3,I3,r3,k,e,q3⟩=>?_) hm
 subst e
 cases r3
 exact wpAny_truthy_bool ⟨H3,I3,q3⟩
def pk (r r':R2) (ta tb tc:TE):TE:=fun σ H Q=>ta σ H fun x H1=>tb σ H1 fun y H2=>r x y H2 fun z H3=>∃ k,z=.bl k∧
 (if k=true then tc σ H3 fun w' H4=>r' y w' H4 Q else Q (.bl false) H3)
theorem sw {op op':CmpOp} {r r':R2} (ho:OpR X (compareOp op) r) (ho':OpR X (compareOp op') r') (ha:PE X a ta) (hb:PE X b tb) (hc:PE X c tc)
  (hm:lastMarks [op,op'] [b,c]=false:=by with_unfolding_all rfl):PT X (.Compare a [op,op'] [b,c] pos) (tTest (pk r r' ta tb tc)):=by
 intro pins s σ H Q I h
 refine isTrue_chain (thn (ha pins s σ H _ I h) fun v s1 ⟨x,H1,I1,r1,q1⟩=>test_link (thn (hb pins s1 σ H1 _ I1 q1) fun u s2 ⟨y,H2,I2,r2,q2⟩=>
  thn (ho pins s2 σ H2 x y v u _ I2 r1 r2 q2) fun d s3 ⟨z,H3,I3,r3,k,e,q3⟩=>?_)) hm
 subst e
 cases r3
 refine wpAny_truthy_bool ?_
 cases k with
 | false=>
  obtain ⟨k',e',q'⟩:=q3
  cases e'
  exact ite_ff ⟨H3,I3,q'⟩
 | true=>
  refine ite_tt (test_last (thn (hc pins s3 σ H3 _ I3 q3) fun w' s4 ⟨z',H4,I4,r4,q4⟩=>thn (ho' pins s4 σ H4 y z' u w' _ I4 r2 r4 q4) fun d' s5 ⟨z2,H5,I5,r5,k2,e2,q5⟩=>?_))
  subst e2
  cases r5
  exact wpAny_truthy_bool ⟨H5,I5,q5⟩
theorem mr:(sizeLine:Nat) < 2^63:=by rw [sizeLine_eq]; decide
theorem vw:OpR X (binaryOp .Add) (fun x y H Q=>∃ i j,x=.str i∧y=.str j∧i.length+j.length≤sizeLine∧Q (.str (i++j)) H):=by
 intro pins s σ H x y v u Q I rx ry h
 obtain ⟨i,j,rfl,rfl,hz,q⟩:=h
 obtain ⟨t,rfl⟩:=rx
 obtain ⟨t',rfl⟩:=ry
 exact add_str (fun t' tk=>⟨.str (i++j),H,I.tok _,⟨_,rfl⟩,q⟩) hz
theorem eJ {x:V} {us:List Value} (r:Vals [x] us):∃ u,us=[u]∧RelV x u:=by
 cases r with
 | cons r1 r2=>cases r2; exact ⟨_,rfl,r1⟩
theorem vx {x y:V} {us:List Value} (r:Vals [x,y] us):∃ u w',us=[u,w']∧RelV x u∧RelV y w':=by
 cases r with
 | cons r1 r2=>
  cases r2 with
  | cons r3 r4=>cases r4; exact ⟨_,_,rfl,r1,r3⟩
theorem wE (hc:X.calm=true):CallR X (.builtin "min") (fun xs H Q=>∃ i j,xs=[.int i,.int j]∧Q (.int (if j < i then j else i)) H):=by
 intro pins s σ H xs us Q I r h
 obtain ⟨i,j,rfl,q⟩:=h
 obtain ⟨u,w',rfl,⟨t,rfl⟩,⟨t',rfl⟩⟩:=vx r
 refine min_two_ints (I.ok.hd hc) fun h' tk k=>⟨_,H,I.kept k,?_,q⟩
 by_cases hj:j < i
 · rw [if_pos hj,if_pos hj]; exact ⟨_,rfl⟩
 · rw [if_neg hj,if_neg hj]; exact ⟨_,rfl⟩
theorem qZ:CallR X (.type "int") (fun xs H Q=>(∃ i,xs=[.int i]∧Q (.int i) H)∨∃ k,xs=[.bl k]∧Q (.int (if k then 1 else 0)) H):=by
 intro pins s σ H xs us Q I r h
 rcases h with ⟨i,rfl,q⟩ | ⟨k,rfl,q⟩
 · obtain ⟨u,rfl,t,rfl⟩:=eJ r
   exact call_int_int ⟨.int i,H,I,⟨_,rfl⟩,q⟩
 · obtain ⟨u,rfl,r1⟩:=eJ r
   cases r1
   exact call_int_bool ⟨.int (if k then 1 else 0),H,I.tok _,⟨_,rfl⟩,q⟩
theorem ul:CallR X (.builtin "divmod") (fun xs H Q=>∃ i j,xs=[.int i,.int j]∧CDiv i j∧∀ p,H p=none→Q (.ref p) (upd H p (.tup [.int (i / j),.int (i % j)]))):=by
 intro pins s σ H xs us Q I r h
 obtain ⟨i,j,rfl,⟨h1,h2⟩,q⟩:=h
 obtain ⟨u,w',rfl,⟨t,rfl⟩,⟨t',rfl⟩⟩:=vx r
 refine divmod_int (by omega) ?_ (.inl (PyProof.noPylong_small (by omega)))
 rw [Int.fdiv_eq_ediv_of_nonneg i (by omega),Int.fmod_eq_emod_of_nonneg i (by omega)]
 have hn:H s.heap.objs.size=none:=I.hok.fresh (Nat.le_refl _)
 refine ⟨.ref s.heap.objs.size,_,?_,rfl,q _ hn⟩
 refine I.laid (fun b o e=>Heap.get?_push_of_some _ e) (Nat.le_refl _) ⟨by simp only [List.length_cons,List.length_nil]; rw [sizeLine_eq]; decide,[.int (i / j) s.toks,.int (i % j) (s.toks+1)],.cons ⟨_,rfl⟩ (.cons ⟨_,rfl⟩ .nil),?_⟩
 exact ⟨_,Heap.get?_push_size s.heap rfl,rfl,0,rfl⟩
end
end L2
namespace L2
open PySem PySem.Spec PyProof.Rows
structure ObjM (h:Heap) (x dx C:Addr) (mA:Str→Option Value):Prop where
 obj:h.get? x=some (PySem.W.instObj C dx)
 ns:h.Ns1 dx mA
 ne:dx≠x
theorem wF {h:Heap} {dx:Addr} {mA:Str→Option Value} (n:h.Ns1 dx mA):∃ od,h.get? dx=some od∧∀ name,PySem.W.lookIn name od=some (mA name):=by
 obtain ⟨o,es,ep,ho,hd,hk,_,hm⟩:=n
 refine ⟨o,ho,fun name=>?_⟩
 have e:=hm name
 unfold nsFind findBy at e
 rw [← Array.find?_toList] at e
 unfold PySem.W.lookIn
 rw [hd]
 dsimp only
 split
 · rename_i y q
   rw [q] at e
   exact congrArg some e
 · rename_i q
   rw [q] at e
   have a:es.toList.any (·.refKey)=false:=by
    rw [List.any_eq_false]
    intro y hy
    obtain ⟨z,t,hkey⟩:=hk y (Array.mem_toList_iff.mp hy)
    simp [DictEntry.refKey,hkey]
   have a':¬ es.toList.any (·.refKey)=true:=by rw [a]; exact Bool.false_ne_true
   rw [if_neg a']
   exact congrArg some e
theorem ObjM.look {h:Heap} {x dx C:Addr} {mA:Str→Option Value} (I:ObjM h x dx C mA):∃ od,PySem.W.InstAt h x (PySem.W.instObj C dx) C (some od)∧∀ name,PySem.W.lookIn name od=some (mA name):=
 let ⟨od,ho,hl⟩:=wF I.ns
 ⟨od,⟨I.obj,rfl,rfl,ho⟩,hl⟩
section
variable {prog:Program} {w:World} {A:Around} {E:Value→Shared→Prop} {s:Shared} {K:PySem.W.Frag} {x dx C f:Addr} {mA:Str→Option Value} {name:Str} {v:Value}
theorem yN {expr:Bool} {Q:Value→Shared→Prop} (X:K.In s.heap) (I:ObjM s.heap x dx C mA) (hg:PySem.W.plainGet K C name=true) (hh:PySem.W.hasDictIn K C=true)
  (ha:PySem.W.findIn K (.ref C) name=some none) (hv:mA name=some v) (hv':PySem.W.handedIn v=true) (h:Q v { s with toks:=s.toks+1 }):
  wpAny (model prog w) A (getAttr (.ref x) name expr) Q E s:=by
 obtain ⟨od,J,hl⟩:=I.look
 exact PySem.W.get_value X J (PySem.W.plainGet_of hg).1 (PySem.W.findObj_own hh ha rfl (by rw [hl,hv])) hv' h
theorem x4 {pl:Sem Bool} {Q:Value × List Value→Shared→Prop} (X:K.In s.heap) (I:ObjM s.heap x dx C mA) (hg:PySem.W.plainGet K C name=true)
  (hf:PySem.W.findIn K (.ref C) name=some (some (.ref f))) (ht:PySem.W.isFn K (.ref f)=true) (hv:mA name=none) (h:Q (.ref f,[.ref x]) s):
  wpAny (model prog w) A (getMethod (.ref x) name pl) Q E s:=by
 obtain ⟨od,J,hl⟩:=I.look
 exact PySem.W.method_fn X J (PySem.W.plainGet_of hg).1 (PySem.W.plainGet_of hg).2 hf (beq_iff_eq.mp ht) (by show (PySem.W.lookIn name od).map (·.isSome)=some false; rw [hl,hv]; rfl) h
theorem yO {ns:List Str} {Q:Unit→Shared→Prop} (X:K.In s.heap) (I:ObjM s.heap x dx C mA)
  (hs:PySem.W.findIn K (.ref C) "__setattr__"=some (some (.builtin "object.__setattr__"))) (hp:PySem.W.plainOver K C=true) (ht:PySem.W.takerIn K C name=some none) (hh:PySem.W.hasDictIn K C=true)
  (hw:PySem.Within mA ns) (hsz:ns.length≤sizeLine)
  (h:∀ h',ObjM h' x dx C (fun y=>if y=name then some v else mA y)→Heap.SameBut dx s.heap h'→Q () { s with heap:=h',toks:=s.toks+2 }):
  wpAny (model prog w) A (setAttr (.ref x) name v) Q E s:=by
 obtain ⟨od,J,hl⟩:=I.look
 refine PySem.W.set_plain X J hs (PySem.W.osa_open (s:={ s with toks:=s.toks+1 }) (r:=none) X J hp ht fun b=>?_)
 obtain ⟨cd,hc,hd'⟩:=PySem.W.any_some hh
 have hx:s.heap.get? x=some ⟨.ref C,some dx,.plain,#[]⟩:=I.obj
 refine wpAny_bind (wpAny_pure (wpAny_bind (wpAny_bind (wpAny_loadPart hx (wpAny_bind (PySem.W.Looks.here (s:={ s with toks:=s.toks+1 }) (PySem.W.looks_clsIn X hc) ?_))))))
 rw [hd']
 refine wpAny_pure (a:=some dx) (wpAny_bind (wpAny_pure (wpAny_bind ?_)))
 refine wpAny_nsSet1 (s:={ s with toks:=s.toks+1 }) I.ns fun h' hn2 hs2=>?_
 obtain ⟨oD,esD,epD,hoD,hdD,hcD⟩:=hn2.count (PySem.Within.cons name v hw)
 refine wpAny_bind (wpAny_lookBehind hoD (by rw [hdD]; exact pastItsLine_dict (Nat.le_trans hcD (by rw [List.length_cons]; omega))) ?_)
 exact wpAny_pure (h _ ⟨(hs2.2 _ (Ne.symm I.ne)).trans I.obj,hn2,I.ne⟩ hs2)
theorem x5 {R:Result→Shared→Prop} {vs:List Value} {kw:List (Str × Value)} (X:K.In s.heap) (hm:PySem.W.makesIn K C=true)
  (hi:PySem.W.findIn K (.ref C) "__init__"=some (some (.ref f))) (hf:PySem.W.typeIn K (.ref f)=some (.type "function"))
  (h:codeAny (model prog w) (A.under (.builtin "type.__call__" ⟨.ref C::vs,kw⟩)) (.call (.ref f) ⟨.ref (s.heap.objs.size+1)::vs,kw⟩) (PySem.W.InitBack (s.heap.objs.size+1) R)
   { s with heap:=(s.heap.push PySem.W.emptyDict).push (PySem.W.instObj C s.heap.objs.size) }):
  codeAny (model prog w) A (.call (.ref C) ⟨vs,kw⟩) R s:=by
 obtain ⟨hh,g,d,t,os⟩:=s
 exact PySem.W.make_core (PySem.W.makes_of X hm) (PySem.W.looks_findIn X hi) (fun self=>PySem.W.bind_fn X self hf) (.inl rfl) h
end
def putF (f:Str) (v:V):List (Str × V)→List (Str × V)
 | []=>[(f,v)]
 | (g,x)::r=>if g=f then (g,v)::r else (g,x)::putF f v r
theorem og (f g:Str) (v:V):∀ fs:List (Str × V),(putF f v fs).lookup g=if g=f then some v else fs.lookup g
 | []=>by
  show List.lookup g [(f,v)]=_
  by_cases h:g=f
  · have hb:(g==f)=true:=beq_iff_eq.mpr h
    simp only [List.lookup,hb,if_pos h]
  · have hb:(g==f)=false:=beq_eq_false_iff_ne.mpr h
    simp only [List.lookup,hb,if_neg h]
 | (k,x)::r=>by
  have ih:=og f g v r
  rw [show putF f v ((k,x)::r)=(if k=f then (k,v)::r else (k,x)::putF f v r) from rfl]
  by_cases hk:k=f
  · rw [if_pos hk]
    by_cases h:g=k
    · have hb:(g==k)=true:=beq_iff_eq.mpr h
      simp only [List.lookup,hb,if_pos (h.trans hk)]
    · have hb:(g==k)=false:=beq_eq_false_iff_ne.mpr h
      simp only [List.lookup,hb,if_neg (fun e:g=f=>h (e.trans hk.symm))]
  · rw [if_neg hk]
    by_cases h:g=k
    · have hb:(g==k)=true:=beq_iff_eq.mpr h
      simp only [List.lookup,hb,if_neg (fun e:g=f=>hk (h.symm.trans e))]
    · have hb:(g==k)=false:=beq_eq_false_iff_ne.mpr h
      simp only [List.lookup,hb]
      exact ih
theorem mt (f:Str) (v:V):∀ fs:List (Str × V),f∈(putF f v fs).map (·.1)∧∀ g,g∈fs.map (·.1)→g∈(putF f v fs).map (·.1)
 | []=>⟨by simp [putF],fun g h=>by simp at h⟩
 | (k,x)::r=>by
  obtain ⟨i1,i2⟩:=mt f v r
  rw [show putF f v ((k,x)::r)=(if k=f then (k,v)::r else (k,x)::putF f v r) from rfl]
  by_cases hk:k=f
  · rw [if_pos hk]
    subst hk
    exact ⟨by simp,fun g h=>by simpa using h⟩
  · rw [if_neg hk]
    refine ⟨?_,fun g h=>?_⟩
    · rw [List.map_cons]
      exact List.mem_cons_of_mem _ i1
    · rw [List.map_cons] at h ⊢
      rcases List.mem_cons.mp h with e | e
      · exact List.mem_cons.mpr (.inl e)
      · exact List.mem_cons_of_mem _ (i2 g e)
theorem oh (f:Str) (v:V):∀ fs:List (Str × V),(putF f v fs).length≤fs.length+1
 | []=>by simp [putF]
 | (k,x)::r=>by
  have ih:=oh f v r
  rw [show putF f v ((k,x)::r)=(if k=f then (k,v)::r else (k,x)::putF f v r) from rfl]
  by_cases hk:k=f
  · rw [if_pos hk,List.length_cons,List.length_cons]; omega
  · rw [if_neg hk,List.length_cons,List.length_cons]; omega
theorem RelO.some_of {v:V} {o:Option Value} (r:RelO (some v) o):∃ u,o=some u∧RelV v u:=by
 cases o with
 | none=>exact (show False from r).elim
 | some u=>exact ⟨u,rfl,r⟩
theorem RelO.none_of {o:Option Value} (r:RelO none o):o=none:=by
 cases o with
 | none=>rfl
 | some u=>exact (show False from r).elim
theorem wG {v:V} {u:Value} (r:RelV v u):PySem.W.handedIn u=true:=by
 cases v with
 | non=>cases (show u=Value.none from r); rfl
 | bl b=>cases (show u=Value.bool b from r); rfl
 | int i=>obtain ⟨t,e⟩:=(show ∃ t,u=Value.int i t from r); cases e; rfl
 | str x=>obtain ⟨t,e⟩:=(show ∃ t,u=Value.str x t from r); cases e; rfl
 | byt b=>obtain ⟨t,e⟩:=(show ∃ t,u=Value.bytes b t from r); cases e; rfl
 | flt b=>obtain ⟨t,e⟩:=(show ∃ t,u=Value.float b t from r); cases e; rfl
 | ref a=>cases (show u=Value.ref a from r); rfl
 | ty n=>cases (show u=Value.type n from r); rfl
section
variable {P:Program} {w:World} {H H':Hp} {h h':Heap} {a C dx:Addr} {fs fs':List (Str × V)}
theorem nu (hok:HOk P w H h) (e:H a=some (.ins C dx fs)):∃ mA,ObjM h a dx C mA∧(∀ f,RelO (fs.lookup f) (mA f))∧PySem.Within mA (fs.map (·.1))∧fs.length≤1000∧H dx=some (.own a):=by
 obtain ⟨d,z,ne,ob,mA,n,r,q⟩:=(show ObjOk P w H h a (.ins C dx fs) from hok a _ e)
 exact ⟨mA,⟨ob,n,ne⟩,r,q,z,d⟩
end
structure Cls (K:PySem.W.Frag) (C:Addr):Prop where
 pg:PySem.W.plainGet K C Str.empty=true
 hd:PySem.W.hasDictIn K C=true
 po:PySem.W.plainOver K C=true
 sa:PySem.W.findIn K (.ref C) "__setattr__"=some (some (.builtin "object.__setattr__"))
theorem Cls.get {K:PySem.W.Frag} {C:Addr} (c:Cls K C) (f:Str):PySem.W.plainGet K C f=true:=c.pg
def NoAttr (K:PySem.W.Frag) (C:Addr) (f:Str):Prop:=PySem.W.findIn K (.ref C) f=some none
theorem NoAttr.taker {K:PySem.W.Frag} {C:Addr} {f:Str} (n:NoAttr K C f):PySem.W.takerIn K C f=some none:=by
 unfold PySem.W.takerIn
 rw [show PySem.W.findIn K (.ref C) f=some none from n]
 rfl
structure Meth (K:PySem.W.Frag) (C:Addr) (m:Str) (f:Addr):Prop where
 at_:PySem.W.findIn K (.ref C) m=some (some (.ref f))
 fn:PySem.W.isFn K (.ref f)=true
 kp:PySem.W.keepIn K (.ref f)=true
section
variable {X:Cx} {pins:List (Addr × Obj)} {σ:St} {H:Hp} {s:Shared} {a C dx:Addr} {fs:List (Str × V)} {f:Str} {v:V} {A:Around} {E:Value→Shared→Prop}
theorem vy {b:Bool} {Q:Value→Shared→Prop} (I:Inv X pins σ H s) (e:H a=some (.ins C dx fs)) (c:Cls X.K C) (n:NoAttr X.K C f) (l:fs.lookup f=some v)
  (h:∀ u s',Inv X pins σ H s'→RelV v u→Q u s'):wpAny (model X.prog X.w) A (getAttr (.ref a) f b) Q E s:=by
 obtain ⟨mA,O,r,_,_,_⟩:=nu I.hok e
 obtain ⟨u,hu,ru⟩:=RelO.some_of (v:=v) (o:=mA f) (by rw [← l]; exact r f)
 exact yN I.kIn O (c.get f) c.hd n hu (wG ru) (h u _ (I.tok _) ru)
theorem vz {m:Str} {g:Addr} {pl:Sem Bool} {Q:Value × List Value→Shared→Prop} (I:Inv X pins σ H s) (e:H a=some (.ins C dx fs)) (c:Cls X.K C) (k:Meth X.K C m g) (l:fs.lookup m=none)
  (h:Q (.ref g,[.ref a]) s):wpAny (model X.prog X.w) A (getMethod (.ref a) m pl) Q E s:=by
 obtain ⟨mA,O,r,_,_,_⟩:=nu I.hok e
 have hn:mA m=none:=RelO.none_of (by rw [← l]; exact r m)
 exact x4 I.kIn O (c.get m) k.at_ k.fn hn h
theorem vA {y:V} {u:Value} {Q:Unit→Shared→Prop} (I:Inv X pins σ H s) (e:H a=some (.ins C dx fs)) (c:Cls X.K C) (n:NoAttr X.K C f) (hl:fs.length < 1000) (ry:RelV y u)
  (h:∀ s',Inv X pins σ (upd H a (.ins C dx (putF f y fs))) s'→Q () s'):wpAny (model X.prog X.w) A (setAttr (.ref a) f u) Q E s:=by
 obtain ⟨mA,O,r,wi,_,ho⟩:=nu I.hok e
 have hz:(fs.map (·.1)).length≤sizeLine:=by rw [List.length_map,sizeLine_eq]; omega
 refine yO I.kIn O c.sa c.po n.taker c.hd wi hz fun h' O' sb=>h _ ?_
 have hd:∃ o,h'.get? dx=some o:=let ⟨o,_,_,e',_⟩:=O'.ns; ⟨o,e'⟩
 refine I.write (x:=a) (e:=dx) (by rw [e]; exact True.intro) (.inr ho) (fun b q hb z=>(sb.2 b hb).trans z) hd ?_
 refine ⟨by rw [av O.ne]; exact ho,?_,O.ne,O'.obj,_,O'.ns,fun g=>?_,fun g hg=>?_⟩
 · have:=oh f y fs; omega
 · show RelO ((putF f y fs).lookup g) (if g=f then some u else mA g)
   rw [og]
   by_cases q:g=f
   · rw [if_pos q,if_pos q]; exact ry
   · rw [if_neg q,if_neg q]; exact r g
 · by_cases q:g=f
   · rw [q]; exact (mt f y fs).1
   · refine (mt f y fs).2 g (wi g fun z=>hg ?_)
     show (if g=f then some u else mA g)=none
     rw [if_neg q]; exact z
theorem Inv.made (I:Inv X pins σ H s):Inv X pins σ (upd (upd H s.heap.objs.size (.own (s.heap.objs.size+1))) (s.heap.objs.size+1) (.ins C s.heap.objs.size []))
  { s with heap:=(s.heap.push PySem.W.emptyDict).push (PySem.W.instObj C s.heap.objs.size) }:=by
 have e1:(s.heap.push PySem.W.emptyDict).get? s.heap.objs.size=some PySem.W.emptyDict:=Heap.get?_push_size s.heap rfl
 have e2:((s.heap.push PySem.W.emptyDict).push (PySem.W.instObj C s.heap.objs.size)).get? (s.heap.objs.size+1)=some (PySem.W.instObj C s.heap.objs.size):=by
  have:=Heap.get?_push_size (s.heap.push PySem.W.emptyDict) (o:=PySem.W.instObj C s.heap.objs.size) rfl
  rwa [Heap.size_push] at this
 have e3:(s.heap.push PySem.W.emptyDict).Ns s.heap.objs.size (fun _=>none):=⟨PySem.W.emptyDict,#[],_,e1,rfl,(fun e he=>absurd he (by simp)),fun _=>rfl⟩
 have I1:=I.laid (a:=s.heap.objs.size) (o:=.own (s.heap.objs.size+1)) (h':=s.heap.push PySem.W.emptyDict) (t':=s.toks) (fun b u q=>Heap.get?_push_of_some _ q) (Nat.le_refl _) ⟨_,e1⟩
 refine I1.laid (a:=s.heap.objs.size+1) (o:=.ins C s.heap.objs.size []) (t':=s.toks) (fun b u q=>Heap.get?_push_of_some _ q) (Nat.le_of_eq (Heap.size_push _ _)) ?_
 have ne:s.heap.objs.size≠s.heap.objs.size+1:=Nat.ne_of_lt (Nat.lt_succ_self _)
 refine ⟨by rw [av ne,ah],Nat.zero_le _,ne,e2,fun _=>none,(Heap.Ns1.of_empty e3).at fun o q=>Heap.get?_push_of_some _ q,fun _=>True.intro,fun y hy=>absurd rfl hy⟩
theorem yP {prog:Program} {w:World} {env:Env} {e:Expr} {f:Str} {pos:Pos} {s:Shared} {Q:Value→Shared→Prop} (hb:attributeBase e f env (eval e env)=eval e env)
  (h:wpAny (model prog w) A (eval e env) (fun o s₁=>wpAny (model prog w) A (getAttr o f true) Q E s₁) E s):wpAny (model prog w) A (eval (.Attribute e f pos) env) Q E s:=
 Attribute_any_ h (by rw [arm_eval_Attribute,hb])
end
section
variable {X:Cx} {o e value:Expr} {f:Str} {pos pos' tpos:Pos} {ta tv:TE}
end
section
variable {X:Cx} {pins:List (Addr × Obj)} {σ:St} {H:Hp} {s:Shared} {A:Around} {E:Value→Shared→Prop} {Q:Value→Shared→Prop} {c:Value} {b:Bool}
inductive TyOf (K:PySem.W.Frag) (H:Hp):V→Value→Prop where
 | non:TyOf K H .non (.type "NoneType")
 | bl (x:Bool):TyOf K H (.bl x) (.type "bool")
 | int (i:Int):TyOf K H (.int i) (.type "int")
 | str (x:Str):TyOf K H (.str x) (.type "str")
 | flt (x:UInt64):TyOf K H (.flt x) (.type "float")
 | lst {a:Addr} {xs:List V} (e:H a=some (.lst xs)):TyOf K H (.ref a) (.type "list")
 | frz {a:Addr} {o:Obj} {xs:List V} (e:H a=some (.frz o (.lst xs))):TyOf K H (.ref a) (.type "list")
 | tup {a:Addr} {xs:List V} (e:H a=some (.tup xs)):TyOf K H (.ref a) (.type "tuple")
 | dK {a:Addr} {kvs:List (Key × V)} (e:H a=some (.dK kvs)):TyOf K H (.ref a) (.type "dict")
 | dT {a:Addr} {kvs:List (List Key × V)} (e:H a=some (.dT kvs)):TyOf K H (.ref a) (.type "dict")
 | ins {a C dx:Addr} {fs:List (Str × V)} (e:H a=some (.ins C dx fs)) (cl:Cls K C) (ha:PySem.W.findIn K (.ref C) "__class__"=some (some (.builtin "object.__class__")))
   (hn:PySem.W.specialIn K (.builtin "object.__class__") "__get__"=some (some (.builtin "getset_descriptor.__get__"))) (htk:PySem.W.takesIn K (.builtin "object.__class__")=some true)
   (hm:PySem.W.mroIn K C (.type "object")=some true):TyOf K H (.ref a) (.ref C)
theorem wH {x:V} {u t:Value} (I:Inv X pins σ H s) (rx:RelV x u) (ty:TyOf X.K H x t) (e:PySem.W.kitOne X.K t c=some b) (h:∀ tk,Q (.bool b) { s with toks:=tk }):
  wpAny (model X.prog X.w) A (call (.builtin "isinstance") [u,c]) Q E s:=by
 cases ty with
 | non=>cases (show u=Value.none from rx); exact PySem.W.kia_one PySem.W.kitx_none I.kIn True.intro e (fun z=>nomatch z) h
 | bl y=>cases (show u=Value.bool y from rx); exact PySem.W.kia_one PySem.W.kitx_bool I.kIn True.intro e (fun z=>nomatch z) h
 | int i=>obtain ⟨t,q⟩:=(show ∃ t,u=Value.int i t from rx); cases q; exact PySem.W.kia_one PySem.W.kitx_int I.kIn True.intro e (fun z=>nomatch z) h
 | str y=>obtain ⟨t,q⟩:=(show ∃ t,u=Value.str y t from rx); cases q; exact PySem.W.kia_one PySem.W.kitx_str I.kIn True.intro e (fun z=>nomatch z) h
 | flt y=>obtain ⟨t,q⟩:=(show ∃ t,u=Value.float y t from rx); cases q; exact PySem.W.kia_one PySem.W.kitx_float I.kIn True.intro e (fun z=>nomatch z) h
 | @lst a xs ea=>
  cases (show u=Value.ref a from rx)
  obtain ⟨_,_,n,_,h1⟩:=(show ObjOk X.prog X.w H s.heap a (.lst xs) from I.hok a _ ea)
  exact PySem.W.kia_one PySem.W.kitx_list I.kIn ⟨_,h1,rfl⟩ e (fun z=>nomatch z) h
 | @frz a ob xs ea=>
  cases (show u=Value.ref a from rx)
  obtain ⟨_,_,_,n,_,h1⟩:=(show ObjOk X.prog X.w H s.heap a (.frz ob (.lst xs)) from I.hok a _ ea)
  exact PySem.W.kia_one PySem.W.kitx_list I.kIn ⟨_,h1,rfl⟩ e (fun z=>nomatch z) h
 | @tup a xs ea=>
  cases (show u=Value.ref a from rx)
  obtain ⟨_,_,_,p⟩:=(show ObjOk X.prog X.w H s.heap a (.tup xs) from I.hok a _ ea)
  obtain ⟨o,h1,h2,_⟩:=p
  exact PySem.W.kia_one PySem.W.kitx_tuple I.kIn ⟨o,h1,h2⟩ e (fun z=>nomatch z) h
 | @dK a kvs ea=>
  cases (show u=Value.ref a from rx)
  obtain ⟨_,_,vs,_,p⟩:=(show ObjOk X.prog X.w H s.heap a (.dK kvs) from I.hok a _ ea)
  obtain ⟨o,es,ep,h1,h2,_⟩:=p
  exact PySem.W.kia_one PySem.W.kitx_dict I.kIn ⟨o,h1,h2.1⟩ e (fun z=>nomatch z) h
 | @dT a kvs ea=>
  cases (show u=Value.ref a from rx)
  obtain ⟨_,_,xs,_,o,es,ep,h1,h2,_⟩:=(show ObjOk X.prog X.w H s.heap a (.dT kvs) from I.hok a _ ea)
  exact PySem.W.kia_one PySem.W.kitx_dict I.kIn ⟨o,h1,h2.1⟩ e (fun z=>nomatch z) h
 | @ins a C dx fs ea cl ha hn htk hm=>
  cases (show u=Value.ref a from rx)
  obtain ⟨mA,O,_⟩:=nu I.hok ea
  obtain ⟨od,J,_⟩:=O.look
  exact PySem.W.kia_one (PySem.W.kitx_own (cl.get _) cl.hd ha hn htk hm) I.kIn J e (fun z=>nomatch z) h
end
end L2
namespace L2
open PySem PySem.Spec PyProof.Rows
structure Room (k:Nat) (A:Around):Prop where
 hd:A.handled=none
 dp:A.depth+3*k+5 < recursionLimit
 un:A.units+16*k+200 < cLine
theorem Room.mono {j k:Nat} {A:Around} (r:Room k A) (h:j≤k):Room j A:=⟨r.hd,by have:=r.dp; omega,by have:=r.un; omega⟩
theorem Room.deeper {k:Nat} {A:Around} (r:Room (k+1) A) (env:Env):Room k (A.deeper env):=
 ⟨r.hd,by have:=r.dp; show A.depth+1+3*k+5 < _; omega,by have:=r.un; show A.units+3+16*k+200 < _; omega⟩
theorem vB {A:Around} {C:Addr} {us:List Value} {kw:List (Str × Value)}:(A.under (.builtin "type.__call__" ⟨.ref C::us,kw⟩)).depth=A.depth+1:=by
 first | rfl | simp [Around.under,Code.weight,Code.isCreation,Code.isGuard,Code.isCaller,Code.frames,Code.isFrame,guardIds]
theorem vC {A:Around} {C:Addr} {us:List Value} {kw:List (Str × Value)}:(A.under (.builtin "type.__call__" ⟨.ref C::us,kw⟩)).units=A.units+1:=by
 first | rfl | simp [Around.under,Code.cUnits,Code.frames,Code.isFrame]
theorem Room.make {k:Nat} {A:Around} (r:Room (k+1) A) (C:Addr) (us:List Value) (kw:List (Str × Value)):Room k (A.under (.builtin "type.__call__" ⟨.ref C::us,kw⟩)):=
 ⟨r.hd,by have:=r.dp; rw [vB]; omega,by have:=r.un; rw [vC]; omega⟩
theorem Room.depth {k:Nat} {A:Around} (r:Room k A):A.depth < recursionLimit:=by have:=r.dp; omega
theorem Room.units {k:Nat} {A:Around} (r:Room k A):A.units+64 < cLine:=by have:=r.un; omega
def tNil:TA:=fun _ H Q=>Q [] H
def tCons (ta:TE) (tr:TA):TA:=fun σ H Q=>ta σ H fun x H1=>tr σ H1 fun xs H2=>Q (x::xs) H2
section
variable {X:Cx} {e:Expr} {es:List Expr} {te:TE} {t:TA} {pos:Pos}
theorem ac:PA X [] tNil:=fun _ _ _ _ H Q I h=>Calls.spliced_nil ⟨[],H,I,.nil,h⟩
theorem ab (ha:PE X e te) (hr:PA X es t) (hs:starEach (e::es) X.env=(false,eval e X.env)::starEach es X.env:=by rfl):PA X (e::es) (tCons te t):=by
 intro pos pins s σ H Q I h
 rw [hs]
 show wpAny _ _ (spliced ((false,eval e X.env)::backTo pos (starEach es X.env))) _ _ s
 refine Calls.spliced_cons (thn (ha pins s σ H _ I h) fun u s1 ⟨x,H1,I1,r1,q1⟩=>?_)
 exact thn (hr pos pins s1 σ H1 _ I1 q1) fun us s2 ⟨xs,H2,I2,r2,q2⟩=>⟨x::xs,H2,I2,.cons r1 r2,q2⟩
def tTup (t:TA):TE:=fun σ H Q=>t σ H fun xs H1=>xs.length≤sizeLine∧∀ p,H1 p=none→Q (.ref p) (upd H1 p (.tup xs))
def tLst (t:TA):TE:=fun σ H Q=>t σ H fun xs H1=>xs.length≤sizeLine∧∀ p,H1 p=none→Q (.ref p) (upd H1 p (.lst xs))
theorem b3 {x1} (h:PA X es t):PE X (.Tuple es x1 pos) (tTup t):=by
 intro pins s σ H Q I hq
 refine wpAny_Tuple_spliced (thn (h pos pins s σ H _ I hq) fun us s1 ⟨xs,H1,I1,r,z,q⟩=>⟨by rw [← r.length]; exact z,?_⟩)
 have hf:H1 s1.heap.objs.size=none:=I1.hok.fresh (Nat.le_refl _)
 refine ⟨.ref s1.heap.objs.size,upd H1 s1.heap.objs.size (.tup xs),I1.laid (t':=s1.toks) (fun b u e=>Heap.get?_push_of_some _ e) (Nat.le_refl _) ?_,rfl,q _ hf⟩
 exact ⟨z,us,r,⟨_,Heap.get?_push_size _ rfl,rfl,_,rfl⟩⟩
theorem aO (h:PA X es t):PE X (.List es pos) (tLst t):=by
 intro pins s σ H Q I hq
 refine wpAny_List_spliced (thn (h pos pins s σ H _ I hq) fun us s1 ⟨xs,H1,I1,r,z,q⟩=>⟨by rw [← r.length]; exact z,?_⟩)
 have hf:H1 s1.heap.objs.size=none:=I1.hok.fresh (Nat.le_refl _)
 refine ⟨.ref s1.heap.objs.size,upd H1 s1.heap.objs.size (.lst xs),I1.laid (t':=s1.toks) (fun b u e=>Heap.get?_push_of_some _ e) (Nat.le_refl _) ?_,rfl,q _ hf⟩
 exact ⟨z,us,0,r,Heap.get?_push_size _ rfl⟩
end
abbrev Sp:=List V→Hp→VK→XK→Prop
abbrev CXT:=List Env→Hp→Shared→XK→Value→Shared→Prop
structure Env0 (P:Program) (w:World) (K:PySem.W.Frag) (mg:Str→Option Value) (base:Heap) (A:Around) (outer:List Env) (s:Shared) (H:Hp):Prop where
 frames:A.frames=some outer
 mod:Mod K mg base
 bs:∀ b o,base.get? b=some o→s.heap.get? b=some o∧H b=none
 bsz:base.objs.size≤s.heap.objs.size
 funs:s.heap.FunFrames base outer
 frf:∀ b∈frs outer,H b=none
 hok:HOk P w H s.heap
 bare:AllBare s.gens
def CE (outer:List Env) (P:Program) (w:World) (H:Hp) (s:Shared) (Q:VK) (u:Value) (s':Shared):Prop:=
 ∃ v H',s'.os=s.os∧AllBare s'.gens∧Un (frs outer) [] H H' s.heap s'.heap∧HOk P w H' s'.heap∧RelV v u∧Q v H'
def CR (CX:CXT) (outer:List Env) (P:Program) (w:World) (H:Hp) (s:Shared) (Q:VK) (E:XK) (r:Result) (s':Shared):Prop:=
 match r with
 | .ok (.ret u)=>CE outer P w H s Q u s'
 | .ok _=>False
 | .error e=>CX outer H s E e s'
structure FnOk (P:Program) (w:World) (K:PySem.W.Frag) (mg:Str→Option Value) (base:Heap) (CX:CXT) (k:Nat) (f:Addr) (fd:FuncData) (ps:List Str) (sp:Sp):Prop where
 len:∀ vs H Q E,sp vs H Q E→vs.length=ps.length
 run:∀ (A:Around) (outer:List Env) (s:Shared) (H:Hp) (args:Args) (us:List Value) (vs:List V) (Q:VK) (E:XK),Room k A→Env0 P w K mg base A outer s H→BindsTo s fd args (ps.zip us)→Vals vs us→sp vs H Q E→
  codeAny (model P w) A (.call (.ref f) args) (CR CX outer P w H s Q E) s
theorem FnOk.mono {P:Program} {w:World} {K:PySem.W.Frag} {mg:Str→Option Value} {base:Heap} {CX:CXT} {j k:Nat} {f:Addr} {fd:FuncData} {ps:List Str} {sp:Sp} (F:FnOk P w K mg base CX j f fd ps sp) (h:j≤k):
  FnOk P w K mg base CX k f fd ps sp:=⟨F.len,fun A outer s H args us vs Q E hr=>F.run A outer s H args us vs Q E (hr.mono h)⟩
theorem FnOk.imp {P:Program} {w:World} {K:PySem.W.Frag} {mg:Str→Option Value} {base:Heap} {CX:CXT} {k:Nat} {f:Addr} {fd:FuncData} {ps:List Str} {sp sp':Sp} (F:FnOk P w K mg base CX k f fd ps sp)
  (h:∀ vs H Q E,sp' vs H Q E→sp vs H Q E):FnOk P w K mg base CX k f fd ps sp':=
 ⟨fun vs H Q E q=>F.len vs H Q E (h _ _ _ _ q),fun A outer s H args us vs Q E hr he hb hv hs=>F.run A outer s H args us vs Q E hr he hb hv (h _ _ _ _ hs)⟩
theorem Env0.make {P:Program} {w:World} {K:PySem.W.Frag} {mg:Str→Option Value} {base:Heap} {A:Around} {outer:List Env} {s:Shared} {H:Hp} (e:Env0 P w K mg base A outer s H) (C:Addr) (us:List Value) (kw:List (Str × Value)):
  Env0 P w K mg base (A.under (.builtin "type.__call__" ⟨.ref C::us,kw⟩)) outer s H:=⟨by first | exact e.frames | (simpa [Around.under,Code.envs,Code.isFrame,pushEnvs] using e.frames),e.mod,e.bs,e.bsz,e.funs,e.frf,e.hok,e.bare⟩
section
variable {X:Cx} {pins:List (Addr × Obj)} {σ:St} {H:Hp} {s s':Shared}
theorem Inv.env0 (I:Inv X pins σ H s):Env0 X.prog X.w X.K X.mg X.base X.A X.stack s H:=
 ⟨I.ok.frames,I.ok.mod,I.bs,Nat.le_trans I.ok.bsz I.sz,I.stack,I.stkFree,I.hok,I.bare⟩
theorem Inv.after {Q:VK} {u:Value} (I:Inv X pins σ H s) (h:CE X.stack X.prog X.w H s Q u s'):EP X pins σ Q u s':=by
 obtain ⟨v,H',os,bare,un,hok,r,q⟩:=h
 obtain ⟨hh,g,d,t,os'⟩:=s'
 obtain rfl:os'=s.os:=os
 exact ⟨v,H',I.call (h':=hh) (g':=g) (d':=d) (t':=t) (ch:=[]) un hok bare (fun b z=>absurd z (by simp)),r,q⟩
end
def tCall (sp:Sp) (dvs:List V) (E:XK) (t:TA):TE:=fun σ H Q=>t σ H fun vs H1=>sp (vs++dvs) H1 Q E
def tMake (C:Addr) (sp:Sp) (dvs:List V) (E:XK) (t:TA):TE:=fun σ H Q=>t σ H fun vs H1=>∀ x dx,H1 x=none→H1 dx=none→dx≠x→
 sp (.ref x::(vs++dvs)) (upd (upd H1 dx (.own x)) x (.ins C dx [])) (fun v H2=>v=.non∧Q (.ref x) H2) E
def Binds (K:PySem.W.Frag) (fd:FuncData) (ps:List Str) (ds:List Value):Prop:=
 ∀ (s:Shared) (us:List Value),K.In s.heap→(us++ds).length=ps.length→BindsTo s fd ⟨us,[]⟩ (ps.zip (us++ds))
theorem Binds.all {K:PySem.W.Frag} {fd:FuncData} {ps:List Str} (h:∀ us:List Value,us.length=ps.length→bindArgs fd ⟨us,[]⟩=pure (ps.zip us)):Binds K fd ps []:=fun s us _ hl=>by
 rw [List.append_nil] at hl ⊢
 exact .of_eq (h us hl)
def mw (CX:CXT) (X:Cx) (E:XK):Prop:=∀ (pins:List (Addr × Obj)) (σ:St) (H:Hp) (s:Shared) (e:Value) (s':Shared),Inv X pins σ H s→CX X.stack H s E e s'→X.xe e s'
section
variable {X:Cx} {CX:CXT} {k:Nat} {f C:Addr} {fd:FuncData} {ps:List Str} {sp:Sp} {dvs:List V} {ds:List Value} {E:XK} {x m:Str} {p pos apos:Pos} {e o:Expr} {es:List Expr} {ta:TE} {t:TA}
theorem wI {pins:List (Addr × Obj)} {σ:St} {H:Hp} {s:Shared} {Q:VK} {us:List Value} {vs:List V} (F:FnOk X.prog X.w X.K X.mg X.base CX k f fd ps sp) (hr:Room k X.A) (hb:Binds X.K fd ps ds) (hd:Vals dvs ds) (hx:mw CX X E)
  (I:Inv X pins σ H s) (r:Vals vs us) (h:sp (vs++dvs) H Q E):wpAny (model X.prog X.w) X.A (call (.ref f) us) (EP X pins σ Q) X.xe s:=by
 have r2:Vals (vs++dvs) (us++ds):=r.append hd
 have hl:(us++ds).length=ps.length:=by rw [← r2.length]; exact F.len _ _ _ _ h
 refine wpAny_call (codeAny_mono (F.run X.A X.stack s H ⟨us,[]⟩ (us++ds) (vs++dvs) Q E hr I.env0 (hb s us I.kIn hl) r2 h) fun r s' hq=>?_)
 cases r with
 | error e=>exact hx pins σ H s e s' I hq
 | ok fl=>
  cases fl with
  | ret u=>exact I.after hq
  | next=>exact False.elim hq
  | brk=>exact False.elim hq
  | cont=>exact False.elim hq
theorem yQ (F:FnOk X.prog X.w X.K X.mg X.base CX k f fd ps sp) (hr:Room k X.A) (hg:Gl X x) (hm:X.mg x=some (.ref f)) (hk:PySem.W.keepIn X.K (.ref f)=true) (hb:Binds X.K fd ps ds) (hd:Vals dvs ds) (hx:mw CX X E)
  (ha:PA X (e::es) t) (hdb:(x==("__debug__":Str))=false:=by decide) (he:starEach (e::es) X.env=(false,eval e X.env)::starEach es X.env:=by rfl) (hpl:(backTo pos (starEach es X.env)).any (·.1)=false:=by rfl):
  PE X (.Call (.Name x p) (e::es) [] pos) (tCall sp dvs E t):=by
 intro pins s σ H Q I h
 refine wpAny_Call_Name_kw (qH I hg hm ?_ hdb)
 refine PySem.W.callWith_K (h₀:=X.base) I.ok.mod.kin hk (thn (ha pos pins s σ H _ I h) fun us s1 ⟨vs,H1,I1,r,q⟩=>⟨I1.kIn,?_⟩) he hpl
 exact wI F hr hb hd hx I1 r q
structure Mk (K:PySem.W.Frag) (C f:Addr):Prop where
 makes:PySem.W.makesIn K C=true
 init:PySem.W.findIn K (.ref C) "__init__"=some (some (.ref f))
 fn:PySem.W.isFn K (.ref f)=true
 kp:PySem.W.keepIn K (.ref C)=true
theorem x6 {pins:List (Addr × Obj)} {σ:St} {H:Hp} {s:Shared} {Q:VK} {us:List Value} {vs:List V} (M:Mk X.K C f) (F:FnOk X.prog X.w X.K X.mg X.base CX k f fd ps sp) (hr:Room (k+1) X.A) (hb:Binds X.K fd ps ds) (hd:Vals dvs ds)
  (hx:mw CX X E) (I:Inv X pins σ H s) (r:Vals vs us)
  (h:∀ x dx,H x=none→H dx=none→dx≠x→sp (.ref x::(vs++dvs)) (upd (upd H dx (.own x)) x (.ins C dx [])) (fun v H2=>v=.non∧Q (.ref x) H2) E):
  wpAny (model X.prog X.w) X.A (call (.ref C) us) (EP X pins σ Q) X.xe s:=by
 have hq:=h (s.heap.objs.size+1) s.heap.objs.size (I.hok.fresh (Nat.le_succ _)) (I.hok.fresh (Nat.le_refl _)) (Nat.ne_of_lt (Nat.lt_succ_self _))
 have I2:=Inv.made (C:=C) I
 have r2:Vals (V.ref (s.heap.objs.size+1)::(vs++dvs)) (Value.ref (s.heap.objs.size+1)::(us++ds)):=.cons rfl (r.append hd)
 have hl:(Value.ref (s.heap.objs.size+1)::us++ds).length=ps.length:=by
  have e:=r2.length
  rw [F.len _ _ _ _ hq] at e
  exact e.symm
 refine wpAny_call (x5 (f:=f) I.kIn M.makes M.init (beq_iff_eq.mp M.fn) (codeAny_mono (F.run _ X.stack _ _ ⟨Value.ref (s.heap.objs.size+1)::us,[]⟩ (Value.ref (s.heap.objs.size+1)::(us++ds)) _ _ E (hr.make C us [])
  (I2.env0.make C us []) (hb _ (Value.ref (s.heap.objs.size+1)::us) I2.kIn hl) r2 hq) fun r s' hq'=>?_))
 cases r with
 | error e=>exact hx pins σ _ _ e s' I2 hq'
 | ok fl=>
  cases fl with
  | ret u=>
   obtain ⟨v,H',I3,rv,ev,q3⟩:=I2.after hq'
   subst ev
   exact ⟨rv,⟨V.ref (s.heap.objs.size+1),H',I3,rfl,q3⟩⟩
  | next=>exact False.elim hq'
  | brk=>exact False.elim hq'
  | cont=>exact False.elim hq'
theorem yR (M:Mk X.K C f) (F:FnOk X.prog X.w X.K X.mg X.base CX k f fd ps sp) (hr:Room (k+1) X.A) (hg:Gl X x) (hm:X.mg x=some (.ref C)) (hb:Binds X.K fd ps ds) (hd:Vals dvs ds) (hx:mw CX X E)
  (ha:PA X (e::es) t) (hdb:(x==("__debug__":Str))=false:=by decide) (he:starEach (e::es) X.env=(false,eval e X.env)::starEach es X.env:=by rfl) (hpl:(backTo pos (starEach es X.env)).any (·.1)=false:=by rfl):
  PE X (.Call (.Name x p) (e::es) [] pos) (tMake C sp dvs E t):=by
 intro pins s σ H Q I h
 refine wpAny_Call_Name_kw (qH I hg hm ?_ hdb)
 refine PySem.W.callWith_K (h₀:=X.base) I.ok.mod.kin M.kp (thn (ha pos pins s σ H _ I h) fun us s1 ⟨vs,H1,I1,r,q⟩=>⟨I1.kIn,?_⟩) he hpl
 exact x6 M F hr hb hd hx I1 r q
end
section
variable {X:Cx} {CX:CXT} {k:Nat} {f C:Addr} {fd:FuncData} {ps ks:List Str} {sp:Sp} {E:XK} {x m:Str} {p pos apos kpos:Pos} {e o:Expr} {es:List Expr} {kws:List Keyword} {te ta:TE} {t tk:TA} {nm:Option Str}
variable {g:List Value→List Value→List Value} {gV:List V→List V→List V}
end
structure ax (N P:List Str) (sc:Scope):Prop where
 kind:sc.kind=.function
 co:sc.isCoroutine=false
 gen:sc.isGenerator=false
 nd:N.Nodup
 pre:N.take P.length=P
 par:∀ x∈P,sc.names.lookup x=some .local∨sc.names.lookup x=some .cell
 nofree:∀ y∈sc.names,y.2≠.free
theorem ra {kindOf:Str→Option NameKind} {x:Str}:∀ {binds:List (Str × Value)} {m:Str→Option Value},(∀ v,(x,v)∉binds)→bindL kindOf binds m x=m x
 | [],_,_=>rfl
 | (n,v)::r,m,h=>by
  unfold bindL
  rw [ra fun w hw=>h w (List.mem_cons_of_mem _ hw)]
  split
  · have:x≠n:=by rintro rfl; exact h v List.mem_cons_self
    simp [this]
  · rfl
theorem rb {kindOf:Str→Option NameKind} {x:Str}:∀ {binds:List (Str × Value)} {m:Str→Option Value},(∀ v,(x,v)∉binds)→bindC kindOf binds m x=m x
 | [],_,_=>rfl
 | (n,v)::r,m,h=>by
  unfold bindC
  rw [rb fun w hw=>h w (List.mem_cons_of_mem _ hw)]
  split
  · rfl
  · have:x≠n:=by rintro rfl; exact h v List.mem_cons_self
    simp [this]
theorem rd {kindOf:Str→Option NameKind} {x:Str} {v:Value}:∀ {P:List Str} {vs:List Value} {i:Nat} {m:Str→Option Value},P.Nodup→P[i]? =some x→vs[i]? =some v→kindOf x=some .local→
  bindL kindOf (P.zip vs) m x=some v
 | [],_,_,_,_,h,_,_=>by simp at h
 | _::_,[],_,_,_,_,h,_=>by simp at h
 | p::P,w::vs,0,m,nd,h1,h2,hk=>by
  simp at h1 h2; subst h1; subst h2
  show bindL kindOf ((p,w)::P.zip vs) m p=_
  unfold bindL
  rw [ra fun v hv=>(List.nodup_cons.mp nd).1 (List.of_mem_zip hv).1,if_pos hk]
  simp
 | p::P,w::vs,i+1,m,nd,h1,h2,hk=>by
  show bindL kindOf ((p,w)::P.zip vs) m x=_
  unfold bindL
  exact rd (i:=i) (List.nodup_cons.mp nd).2 (by simpa using h1) (by simpa using h2) hk
theorem re {kindOf:Str→Option NameKind} {x:Str} {v:Value}:∀ {P:List Str} {vs:List Value} {i:Nat} {m:Str→Option Value},P.Nodup→P[i]? =some x→vs[i]? =some v→kindOf x≠some .local→
  bindC kindOf (P.zip vs) m x=some v
 | [],_,_,_,_,h,_,_=>by simp at h
 | _::_,[],_,_,_,_,h,_=>by simp at h
 | p::P,w::vs,0,m,nd,h1,h2,hk=>by
  simp at h1 h2; subst h1; subst h2
  show bindC kindOf ((p,w)::P.zip vs) m p=_
  unfold bindC
  rw [rb fun v hv=>(List.nodup_cons.mp nd).1 (List.of_mem_zip hv).1,if_neg hk]
  simp
 | p::P,w::vs,i+1,m,nd,h1,h2,hk=>by
  show bindC kindOf ((p,w)::P.zip vs) m x=_
  unfold bindC
  exact re (i:=i) (List.nodup_cons.mp nd).2 (by simpa using h1) (by simpa using h2) hk
def start (N:List Str) (vs:List V):St:=vs.map some++List.replicate (N.length - vs.length) none
def cxOf (CX:CXT) (P:Program) (w:World) (K:PySem.W.Frag) (mg:Str→Option Value) (base:Heap) (N:List Str) (qual:Str) (scope:Scope) (f:Addr) (cd:Value) (A:Around) (outer:List Env) (s:Shared) (H:Hp) (E:XK):Cx where
 prog:=P
 w:=w
 K:=K
 mg:=mg
 base:=base
 A:=A.deeper (envOfC qual scope s.heap.objs.size f cd)
 N:=N
 s₀:=s
 H₀:=H
 env:=envOfC qual scope s.heap.objs.size f cd
 outer:=outer
 stack:=envOfC qual scope s.heap.objs.size f cd::outer
 ex:=[]
 calm:=true
 fn:=fun _=>true
 pn:=[]
 xe:=fun e s'=>wpAny (model P w) (A.deeper (envOfC qual scope s.heap.objs.size f cd)) (leaving (envOfC qual scope s.heap.objs.size f cd) e) (fun _ s''=>CX outer H s E e s'') (fun e' s''=>CX outer H s E e' s'') s'
theorem lp {sc:Scope} {n:Nat} {x:Str} (h:sc.names.lookup x=some .cell):∃ c,(cellsFrom n sc.names []).lookup x=some c:=by
 have q:=PySem.W.cellsFrom_some sc.names n [] (.inl h)
 exact Option.isSome_iff_exists.mp q
theorem wJ {CX:CXT} {P:Program} {w:World} {K:PySem.W.Frag} {mg:Str→Option Value} {base:Heap} {N ps:List Str} {qual:Str} {scope:Scope} {f:Addr} {cd:Value} {A:Around} {outer:List Env} {s s1:Shared} {H:Hp} {E:XK} {us:List Value} {vs:List V}
  (S:ax N ps scope) (hd:A.handled=none) (e0:Env0 P w K mg base A outer s H) (hl:vs.length=ps.length) (r:Vals vs us)
  (x:InCallC s s.heap.objs.size (bindL (envOfC qual scope s.heap.objs.size f cd).kindOf (ps.zip us) fun _=>none) (cellsFrom (s.heap.objs.size+1) scope.names []) (bindC (envOfC qual scope s.heap.objs.size f cd).kindOf (ps.zip us) fun _=>none) s1):
  Inv (cxOf CX P w K mg base N qual scope f cd A outer s H E) [] (start N vs) H s1:=by
 have hpl:ps.length≤N.length:=by have:=congrArg List.length S.pre; rw [List.length_take] at this; omega
 obtain ⟨h1,tk,rfl,hk⟩:=x.done
 have noA:∀ b:Addr,b∉(cxOf CX P w K mg base N qual scope f cd A outer s H E).ex:=fun b z=>absurd (show b∈([]:List Addr) from z) (by simp)
 refine ⟨⟨e0.mod,S.kind,rfl,rfl,Nat.le_refl _,fun y z c h1 h2=>?_,fun y hy=>?_,fun y c _ h=>?_,fun _=>hd,Around.frames_deeper e0.frames,.inr ⟨rfl,rfl⟩,fun b z=>absurd z (noA b),e0.bs,e0.bsz,fun b _ _=>noA b,fun b z=>absurd z (noA b),e0.funs,e0.frf⟩,
  rfl,e0.bare,Un.kept hk,⟨_,x.toInCall.ns,fun i y v h1 h2 h3=>?_⟩,fun y c h=>⟨_,x.cell y c h⟩,e0.hok.fresh (Nat.le_refl _),fun y c h=>?_,fun p hp=>absurd (show p∈([]:List (Addr × Obj)) from hp) (by simp),e0.hok.kept hk,?_⟩
 · exact name_of_addr x.apart (PySem.mem_of_lookup h1) (PySem.mem_of_lookup h2)
 · have hy:scope.names.lookup y=some .cell∨scope.names.lookup y=some .free:=hy
   rcases hy with hy | hy
   · exact lp hy
   · exact absurd rfl (S.nofree _ (PySem.mem_of_lookup hy))
 · exact Nat.le_of_lt (x.above y c (PySem.mem_of_lookup h))
 · have hi:i < vs.length:=by
    unfold start at h2
    by_cases hi:i < vs.length
    · exact hi
    · rw [List.getElem?_append_right (by simpa using hi)] at h2
      rw [List.getElem?_replicate] at h2
      split at h2 <;> cases h2
   have ha:vs[i]? =some v:=by
    unfold start at h2
    rw [List.getElem?_append_left (by simpa using hi),List.getElem?_map] at h2
    cases e:vs[i]? with
    | none=>rw [e] at h2; cases h2
    | some a=>rw [e] at h2; cases h2; rfl
   obtain ⟨u,hu,rv⟩:=r.get ha
   have hp:ps[i]? =some y:=by
    rw [← S.pre,List.getElem?_take_of_lt (by omega)]; exact h1
   have ndP:ps.Nodup:=by rw [← S.pre]; exact S.nd.sublist (List.take_sublist _ _)
   refine ⟨u,rv,?_⟩
   rcases S.par y (List.mem_of_getElem? hp) with k | k
   · exact .inl ⟨k,rd ndP hp hu k⟩
   · obtain ⟨c,e⟩:=lp (n:=s.heap.objs.size+1) k
     refine .inr ⟨.inl k,c,e,?_⟩
     have q:=x.cell y c e
     rw [re ndP hp hu (by show scope.names.lookup y≠_; rw [k]; decide)] at q
     exact q
 · exact e0.hok.fresh (Nat.le_of_lt (x.above y c (PySem.mem_of_lookup h)))
 · unfold start
   show _=N.length
   rw [List.length_append,List.length_map,List.length_replicate]
   omega
theorem Ap {CX:CXT} {P:Program} {w:World} {K:PySem.W.Frag} {mg:Str→Option Value} {base:Heap} {k:Nat} {f:Addr} {name qual:Str} {params:Arguments} {body:List Stmt} {scope:Scope} {dV kV doc pm cdv ct oc:Value} {an od:Option Addr}
  {osl:Array (Option Value)} {N ps:List Str} {sp:Sp} (lk:K.lookup f=some ⟨oc,od,.func (PySem.W.fnOf name qual params body scope dV kV doc pm an cdv ct),osl⟩) (hcd:PySem.W.codeIn K cdv qual=true) (S:ax N ps scope)
  (len:∀ vs H Q E,sp vs H Q E→vs.length=ps.length)
  (hbody:∀ (A:Around) (outer:List Env) (s:Shared) (H:Hp) (vs:List V) (Q:VK) (E:XK),Room k (A.deeper (envOfC qual scope s.heap.objs.size f cdv))→sp vs H Q E→
   ∃ t,PSs (cxOf CX P w K mg base N qual scope f cdv A outer s H E) body t∧t { nx:=fun _ H'=>Q .non H',rt:=Q } (start N vs) H):
  FnOk P w K mg base CX (k+1) f (PySem.W.fnOf name qual params body scope dV kV doc pm an cdv ct) ps sp:=by
 refine ⟨len,fun A outer s H args us vs Q E hr e0 hb r hsp=>?_⟩
 have hl:=len _ _ _ _ hsp
 have KX:K.In s.heap:=e0.mod.kin.keeps fun b o e=>(e0.bs b o e).1
 have lim:s.heap.NoLimit:=e0.mod.nolimit.keeps fun b o e=>(e0.bs b o e).1
 have hkind:∀ y∈ps.zip us,scope.names.lookup y.1=some .local∨(scope.names.lookup y.1=some .cell∧((cellsFrom (s.heap.objs.size+1) scope.names []).lookup y.1).isSome=true):=fun ⟨n,v⟩ hy=>by
  rcases S.par n (List.of_mem_zip hy).1 with q | q
  · exact .inl q
  · exact .inr ⟨q,PySem.W.cellsFrom_some _ _ _ (.inl q)⟩
 refine codeAny_call_function hr.depth (KX _ _ lk) rfl S.co S.gen rfl (PySem.W.codeRec_of KX hcd) (hb _ _ _ _ ?_)
 refine wpAny_newFunctionEnv_cells S.kind hkind fun env he s1 x=>?_
 subst he
 refine ⟨lim.keeps x.toInCall.keep,codeAny_func ?_⟩
 obtain ⟨t,ht,hq⟩:=hbody A outer s H vs Q E (hr.deeper _) hsp
 have I:Inv (cxOf CX P w K mg base N qual scope f cdv A outer s H E) [] (start N vs) H s1:=wJ S hr.hd e0 hl r x
 refine wpAny_mono (ht [] s1 (start N vs) H _ I hq) (fun fl s' hs=>?_) fun e s' hs=>hs
 have fin:∀ {σ':St} {H':Hp} {v:V} {u:Value},Inv (cxOf CX P w K mg base N qual scope f cdv A outer s H E) [] σ' H' s'→RelV v u→Q v H'→CE outer P w H s Q u s':=
  fun {σ' H' v u} J rv q=>⟨v,H',J.os,J.bare,J.base,J.hok,rv,q⟩
 cases fl with
 | ret u=>
  obtain ⟨v,σ',H',J,rv,q⟩:=hs
  exact fin J rv q
 | next=>
  obtain ⟨σ',H',J,q⟩:=hs
  exact fin (v:=V.non) (u:=Value.none) J rfl q
 | brk=>
  obtain ⟨_,_,_,q⟩:=hs
  exact False.elim q
 | cont=>
  obtain ⟨_,_,_,q⟩:=hs
  exact False.elim q
end L2
namespace L2
open PySem PySem.Spec PyProof.Rows
section
variable {X:Cx} {x:Str} {p pos:Pos} {e:Expr} {es:List Expr} {t:TA} {id T:String} {r:List V→Hp→VK→Prop}
def tCB (r:List V→Hp→VK→Prop) (t:TA):TE:=fun σ H Q=>t σ H fun vs H1=>r vs H1 Q
theorem az (hc:CallR X (.builtin id) r) (hg:Gl X x) (hm:X.mg x=none) (hv:bootBuiltins x=some (.builtin id)) (ha:PA X (e::es) t) (hn:x≠"__name__":=by decide) (hdb:(x==("__debug__":Str))=false:=by decide)
  (he:starEach (e::es) X.env=(false,eval e X.env)::starEach es X.env:=by rfl) (hpl:(backTo pos (starEach es X.env)).any (·.1)=false:=by rfl):PE X (.Call (.Name x p) (e::es) [] pos) (tCB r t):=by
 intro pins s σ H Q I h
 refine wpAny_Call_Name_kw (gI I hg hm hv ?_ hn hdb)
 exact PyProof.Rows.callWith_builtin1 (thn (ha pos pins s σ H _ I h) fun us s1 ⟨vs,H1,I1,r1,q1⟩=>hc pins s1 σ H1 vs us Q I1 r1 q1) he hpl
theorem bJ (hc:CallR X (.type T) r) (hg:Gl X x) (hm:X.mg x=none) (hv:bootBuiltins x=some (.type T)) (ha:PA X (e::es) t) (hn:x≠"__name__":=by decide) (hdb:(x==("__debug__":Str))=false:=by decide)
  (he:starEach (e::es) X.env=(false,eval e X.env)::starEach es X.env:=by rfl) (hpl:(backTo pos (starEach es X.env)).any (·.1)=false:=by rfl):PE X (.Call (.Name x p) (e::es) [] pos) (tCB r t):=by
 intro pins s σ H Q I h
 refine wpAny_Call_Name_kw (gI I hg hm hv ?_ hn hdb)
 exact PyProof.Rows.callWith_type1 (thn (ha pos pins s σ H _ I h) fun us s1 ⟨vs,H1,I1,r1,q1⟩=>hc pins s1 σ H1 vs us Q I1 r1 q1) he hpl
end
end L2
namespace HT
open PySem PyProof.Rows
section
open PySem.SeqAt
open PySem.AutoSeq1 (wpAny_loadPart')
open PySem.MeetsSeq PySem.MeetsSeq2 PySem.MeetsSeq3
end
section
variable {prog:Program} {w:World} {A:Around} {E:Value→Shared→Prop} {s:Shared}
def sIx (n d:Nat):Option Int→Nat
 | none=>d
 | some v=>if v < 0 then (v+(n:Int)).toNat else min v.toNat n
theorem sIx_nat (n d k:Nat):sIx n d (some (k:Int))=min k n:=by
 show (if (k:Int) < 0 then ((k:Int)+(n:Int)).toNat else min (k:Int).toNat n)=min k n
 rw [if_neg (by omega),Int.toNat_natCast]
end
end HT
namespace L2
open PySem PySem.Spec PyProof.Rows
abbrev TO:=St→Hp→(Option Int→Hp→Prop)→Prop
def PO (X:Cx) (e:Option Expr) (t:TO):Prop:=
 ∀ (pins:List (Addr × Obj)) (s:Shared) (σ:St) (H:Hp) (Q:Option Int→Hp→Prop),Inv X pins σ H s→t σ H Q→
  wpAny (model X.prog X.w) X.A (evalPart e X.env) (fun u s'=>∃ o H',Inv X pins σ H' s'∧IsPart u o∧Q o H') X.xe s
def jT:TO:=fun _ H Q=>Q none H
def tPart (t:TE):TO:=fun σ H Q=>t σ H fun x H1=>∃ i,x=.int i∧Q (some i) H1
theorem pq {ns:List Int}:∀ {us:List Value},Vals (ns.map V.int) us→IntsAre us ns:=by
 induction ns with
 | nil=>intro us r; rw [List.map_nil] at r; cases r; exact .nil
 | cons n ns ih=>
  intro us r
  rw [List.map_cons] at r
  cases r with
  | cons r1 r2=>
   obtain ⟨t,e⟩:=r1
   subst e
   exact .cons n t (ih r2)
section
variable {X:Cx} {e:Expr} {te:TE} {lo hi:Option Expr} {tl th:TO} {pos p2:Pos}
theorem qJ:PO X none jT:=by
 intro pins s σ H Q I h
 rw [evalPart_none]
 exact wpAny_pure ⟨none,H,I,.none,h⟩
theorem qK (h:PE X e te):PO X (some e) (tPart te):=by
 intro pins s σ H Q I hw
 rw [evalPart_some]
 refine thn (h pins s σ H _ I hw) fun u s1 ⟨x,H1,I1,r1,q1⟩=>?_
 obtain ⟨i,rfl,q⟩:=q1
 obtain ⟨t,rfl⟩:=r1
 exact ⟨some i,H1,I1,.int i t,q⟩
def SlR (X:Cx) (r:V→Option Int→Option Int→Hp→VK→Prop):Prop:=
 ∀ (pins:List (Addr × Obj)) (s:Shared) (σ:St) (H:Hp) (x:V) (v vl vu:Value) (lo hi:Option Int) (sl:Addr) (Q:VK),Inv X pins σ H s→RelV x v→s.heap.IsSliceOf sl vl vu .none→IsPart vl lo→IsPart vu hi→r x lo hi H Q→
  ∃ T id,typeLookup (.type T) "__getitem__"=pure (some (.builtin id))∧s.TypeIs v T∧wpAny (model X.prog X.w) X.A (getItem v (.ref sl)) (EP X pins σ Q) X.xe s
def tSl (r:V→Option Int→Option Int→Hp→VK→Prop) (te:TE) (tl th:TO):TE:=fun σ H Q=>te σ H fun x H1=>tl σ H1 fun l H2=>th σ H2 fun u H3=>r x l u H3 Q
theorem ot {r:V→Option Int→Option Int→Hp→VK→Prop} (hr:SlR X r) (he:PE X e te) (hl:PO X lo tl) (hu:PO X hi th):PE X (.Subscript e (.Slice lo hi none p2) pos) (tSl r te tl th):=by
 intro pins s σ H Q I h
 refine Subscript_ (thn (he pins s σ H _ I h) fun v s1 ⟨x,H1,I1,r1,q1⟩=>?_)
 refine wpAny_Slice (thn (hl pins s1 σ H1 _ I1 q1) fun vl s2 ⟨l,H2,I2,pl,q2⟩=>thn (hu pins s2 σ H2 _ I2 q2) fun vu s3 ⟨u,H3,I3,pu,q3⟩=>?_)
 rw [evalPart_none]
 refine wpAny_pure ?_
 have I4:Inv X pins σ H3 { s3 with heap:=s3.heap.push { cls:=.type "slice",data:=.fields #[vl,vu,.none] } }:=I3.kept (t':=s3.toks) fun b ob q=>Heap.get?_push_of_some _ q
 obtain ⟨T,id,hT,ht,hg⟩:=hr pins { s3 with heap:=s3.heap.push { cls:=.type "slice",data:=.fields #[vl,vu,.none] } } σ H3 x v vl vu l u s3.heap.objs.size Q I4 r1 (Heap.IsSliceOf.new ..) pl pu q3
 show wpAny (model X.prog X.w) X.A (subscriptTail e (.Slice lo hi none p2) v (.ref s3.heap.objs.size)) (EP X pins σ Q) X.xe { s3 with heap:=s3.heap.push { cls:=.type "slice",data:=.fields #[vl,vu,.none] } }
 exact tail_any (ops:=[.ref s3.heap.objs.size,v]) ht hT hg (by with_unfolding_all rfl)
def cutV (xs:List V) (lo hi:Option Int):List V:=(xs.drop (HT.sIx xs.length 0 lo)).take (HT.sIx xs.length xs.length hi - HT.sIx xs.length 0 lo)
theorem um (xs:List V) (lo hi:Option Int):(cutV xs lo hi).length≤xs.length:=by
 unfold cutV
 rw [List.length_take,List.length_drop]
 omega
end
end L2
namespace L2
open PySem PySem.Spec PyProof.Rows
def ixN (n:Nat) (i:Int):Option Nat:=if 0≤i then (if i < n then some i.toNat else none) else if -(n:Int)≤i then some (i+n).toNat else none
def atI {α:Type} (xs:List α) (i:Int):Option α:=(ixN xs.length i).bind fun j=>xs[j]?
theorem yS {n:Nat} {i:Int} {j:Nat} (h:ixN n i=some j):seqIndex? i n=some j∧j < n∧ -(n:Int)≤i∧i < n:=by
 unfold ixN at h
 by_cases h0:0≤i
 · rw [if_pos h0] at h
   by_cases h1:i < n
   · rw [if_pos h1] at h
     have e:i.toNat=j:=Option.some.inj h
     exact ⟨by rw [seqIndex_of h0 h1,e],by omega,by omega,h1⟩
   · rw [if_neg h1] at h; cases h
 · rw [if_neg h0] at h
   by_cases h1: -(n:Int)≤i
   · rw [if_pos h1] at h
     have e:(i+n).toNat=j:=Option.some.inj h
     exact ⟨by rw [seqIndex_neg (by omega) h1,e],by omega,h1,by omega⟩
   · rw [if_neg h1] at h; cases h
theorem qL {α:Type} {xs:List α} {i:Int} {v:α} (h:atI xs i=some v):∃ j,seqIndex? i xs.length=some j∧xs[j]? =some v∧j < xs.length∧ -(xs.length:Int)≤i∧i < xs.length:=by
 unfold atI at h
 cases e:ixN xs.length i with
 | none=>rw [e] at h; cases h
 | some j=>
  rw [e] at h
  obtain ⟨h1,h2,h3,h4⟩:=yS e
  exact ⟨j,h1,h,h2,h3,h4⟩
theorem dn {α:Type} {xs:List α} {j:Nat} {v:α} (h:xs[j]? =some v):atI xs (j:Int)=some v:=by
 have hj:j < xs.length:=(List.getElem?_eq_some_iff.mp h).1
 have e:ixN xs.length (j:Int)=some j:=by
  unfold ixN
  rw [if_pos (by omega),if_pos (by omega)]; simp
 unfold atI; rw [e]; exact h
def uZ (b:Expr):Prop:=∀ o i,subscripted b false o i=operate [o,i] (getItem o i)
def IxR (X:Cx) (r:R2):Prop:=
 ∀ (value slice:Expr) (pins:List (Addr × Obj)) (s:Shared) (σ:St) (H:Hp) (x y:V) (v u:Value) (Q:VK),Inv X pins σ H s→RelV x v→RelV y u→r x y H Q→
  subscripted slice false v u=operate [v,u] (getItem v u)→wpAny (model X.prog X.w) X.A (subscriptTail value slice v u) (EP X pins σ Q) X.xe s
def MtR (X:Cx) (id:String) (r:V→List V→Hp→VK→Prop):Prop:=
 ∀ (pins:List (Addr × Obj)) (s:Shared) (σ:St) (H:Hp) (x:V) (xs:List V) (v:Value) (us:List Value) (Q:VK),Inv X pins σ H s→RelV x v→Vals xs us→r x xs H Q→
  wpAny (model X.prog X.w) X.A (call (.builtin id) (v::us)) (EP X pins σ Q) X.xe s
section
variable {X:Cx} {a b:Expr} {ta tb:TE} {pos:Pos}
theorem ai {r:R2} (hr:IxR X r) (ha:PE X a ta) (hb:PE X b tb) (hs:uZ b):PE X (.Subscript a b pos) (tOp r ta tb):=by
 intro pins s σ H Q I h
 exact Subscript_ (binT ha hb I h fun v u s2 x y H2 I2 rx ry q=>hr a b pins s2 σ H2 x y v u Q I2 rx ry q (hs _ _))
def rIxL (K:PySem.W.Frag):R2:=fun x y H Q=>∃ p xs i v,x=.ref p∧y=.int i∧SqL K H p xs∧atI xs i=some v∧Q v H
def rIxT (K:PySem.W.Frag):R2:=fun x y H Q=>∃ p xs i v,x=.ref p∧y=.int i∧SqT K H p xs∧atI xs i=some v∧Q v H
def rIxS:R2:=fun x y H Q=>∃ z i c,x=.str z∧y=.int i∧z.length≤sizeLine∧atI z.cps.toList i=some c∧Q (.str ⟨#[c]⟩) H
theorem u6:IxR X (rIxL X.K):=by
 intro value slice pins s σ H x y v u Q I rx ry h hs
 obtain ⟨p,xs,i,z,rfl,rfl,hq,he,q⟩:=h
 cases rx
 obtain ⟨t,rfl⟩:=ry
 obtain ⟨its,r,pl,hz⟩:=I.list hq
 obtain ⟨j,h1,h2,h3,h4,h5⟩:=qL he
 obtain ⟨w,ew,rw'⟩:=r.get h2
 have hl:=r.length
 have hn:=mr
 have fin:EP X pins σ Q w s:=⟨z,H,I,rw',q⟩
 by_cases h0:0≤i
 · have hj:i.toNat=j:=by
    rw [seqIndex_of h0 h5] at h1
    exact Option.some.inj h1
   exact item_listR pl.isList h0 (by omega) (by rw [hj]; simpa using ew) fin hs
 · have hj:(i+(its.toArray.size:Int)).toNat=j:=by
    rw [seqIndex_neg (by omega) h4] at h1
    rw [List.size_toArray,← hl]
    exact Option.some.inj h1
   exact subscriptTail_builtinR (x:=w) pl.isList.typeIs slot_list_getitem.lookup
    (wpAny_getItem_list_neg (Q:=fun r s'=>r=w∧EP X pins σ Q r s') pl.isList (by omega) (by rw [List.size_toArray] <;> omega) (by omega) (by rw [hj]; simpa using ew) ⟨rfl,fin⟩) hs
theorem zG:IxR X (rIxT X.K):=by
 intro value slice pins s σ H x y v u Q I rx ry h hs
 obtain ⟨p,xs,i,z,rfl,rfl,hq,he,q⟩:=h
 cases rx
 obtain ⟨t,rfl⟩:=ry
 obtain ⟨its,r,pl,hz⟩:=I.tuple hq
 obtain ⟨j,h1,h2,h3,h4,h5⟩:=qL he
 obtain ⟨w,ew,rw'⟩:=r.get h2
 have hl:=r.length
 have hn:=mr
 have fin:EP X pins σ Q w s:=⟨z,H,I,rw',q⟩
 exact subscriptTail_builtinR (x:=w) pl.typeIs slot_tuple_getitem.lookup
  (getItem_tuple (j:=j) (Q:=fun r s'=>r=w∧EP X pins σ Q r s') pl (by omega) (by omega) (by rw [List.size_toArray,← hl]; exact h1) (by simpa using ew) ⟨rfl,fin⟩) hs
theorem zH:IxR X rIxS:=by
 intro value slice pins s σ H x y v u Q I rx ry h hs
 obtain ⟨z,i,c,rfl,rfl,hz,he,q⟩:=h
 obtain ⟨t,rfl⟩:=rx
 obtain ⟨t',rfl⟩:=ry
 obtain ⟨j,h1,h2,h3,h4,h5⟩:=qL he
 have hl:z.cps.toList.length=z.length:=by simp [Str.length]
 rw [hl] at h1 h4 h5
 have hn:=mr
 exact tail_any (typeIs_str s z t) slot_str_getitem.lookup (getItem_str (c:=c) (by
  have e1:decide (i < -(2^63:Int))=false:=decide_eq_false (by omega)
  have e2:decide (i ≥ 2^63)=false:=decide_eq_false (by omega)
  rw [e1,e2,Bool.or_false]) (by rw [h1]; simpa using h2) ⟨.str ⟨#[c]⟩,H,I.tok _,⟨_,rfl⟩,q⟩) hs
theorem Inv.lst {pins:List (Addr × Obj)} {σ:St} {H:Hp} {s:Shared} {p:Addr} {xs:List V} (I:Inv X pins σ H s) (h:H p=some (.lst xs)):
  ∃ (its:List Value) (n:Nat),Vals xs its∧s.heap.get? p=some { cls:=.type "list",data:=.seq its.toArray n }∧xs.length≤sizeLine:=by
 obtain ⟨z,its,n,r,e⟩:=I.hok p _ h
 exact ⟨its,n,r,e,z⟩
theorem sx (lo hi:Option Int) (n:Nat):(sliceBounds lo hi none n).1=((HT.sIx n 0 lo:Nat):Int)∧(sliceBounds lo hi none n).2.1=((HT.sIx n n hi:Nat):Int)∧(sliceBounds lo hi none n).2.2=1:=by
 refine ⟨?_,?_,rfl⟩
 · cases lo with
   | none=>simp [sliceBounds,HT.sIx]
   | some i=>
    simp only [sliceBounds,HT.sIx,Option.getD_none,show (1:Int) > 0 by decide,if_true]
    by_cases h:i < 0
    · simp only [h,if_true] <;> omega
    · simp only [h,if_false] <;> omega
 · cases hi with
   | none=>simp [sliceBounds,HT.sIx]
   | some i=>
    simp only [sliceBounds,HT.sIx,Option.getD_none,show (1:Int) > 0 by decide,if_true]
    by_cases h:i < 0
    · simp only [h,if_true] <;> omega
    · simp only [h,if_false] <;> omega
theorem rF (its:List Value) (lo hi:Option Int):slicePick its.toArray lo hi none=((its.drop (HT.sIx its.length 0 lo)).take (HT.sIx its.length its.length hi - HT.sIx its.length 0 lo)).toArray:=by
 obtain ⟨h1,h2,h3⟩:=sx lo hi its.toArray.size
 unfold slicePick
 rw [h1,h2,h3]
 simp only [sliceRange_one,pick_run,List.size_toArray] <;> rfl
def rSlL (K:PySem.W.Frag):V→Option Int→Option Int→Hp→VK→Prop:=fun x lo hi H Q=>∃ a xs,x=.ref a∧SqL K H a xs∧∀ p,H p=none→Q (.ref p) (upd H p (.lst (cutV xs lo hi)))
theorem yT:SlR X (rSlL X.K):=by
 intro pins s σ H x v vl vu lo hi sl Q I rx hs pl pu h
 obtain ⟨a,xs,rfl,hx,q⟩:=h
 cases rx
 obtain ⟨its,r,ht,hz⟩:=I.list hx
 have hlen:=r.length
 refine ⟨"list",_,slot_list_getitem.lookup,ht.isList.typeIs,?_⟩
 refine wpAny_getItem_list_slice ht.isList hs pl pu .none (by simp) ?_ (by rw [List.size_toArray] <;> omega)
 rw [rF,← hlen]
 refine ⟨.ref s.heap.objs.size,_,I.laid (t':=s.toks) (o:=.lst (cutV xs lo hi)) (fun b ob q=>Heap.get?_push_of_some _ q) (Nat.le_refl _) ?_,rfl,q _ (I.hok.fresh (Nat.le_refl _))⟩
 exact ⟨Nat.le_trans (um xs lo hi) hz,_,0,(r.drop (HT.sIx xs.length 0 lo)).take (HT.sIx xs.length xs.length hi - HT.sIx xs.length 0 lo),Heap.get?_push_size _ rfl⟩
def flatV:V→Bool
 | .non=>true
 | .bl _=>true
 | .int _=>true
 | .str _=>true
 | _=>false
def eqV:V→V→Bool
 | .non,.non=>true
 | .bl a,.bl b=>a==b
 | .bl a,.int b=>(if a then 1 else 0)==b
 | .int a,.bl b=>a==(if b then 1 else 0)
 | .int a,.int b=>a==b
 | .str a,.str b=>a==b
 | _,_=>false
theorem zI {A:Around} {s:Shared} {y x:V} {u v:Value} (ry:RelV y u) (rx:RelV x v) (fy:flatV y=true) (fx:flatV x=true):SeqAt.EqAt A s u v (eqV y x):=by
 cases y with
 | non=>
  cases ry
  cases x with
  | non=>cases rx; exact SeqAt.EqAt.same _
  | bl b=>cases rx; exact SeqAt.EqAt.none_bool b
  | int b=>obtain ⟨t,rfl⟩:=rx; exact SeqAt.EqAt.none_int b t
  | str b=>obtain ⟨t,rfl⟩:=rx; exact SeqAt.EqAt.none_str b t
  | _=>exact absurd (show false=true from fx) Bool.false_ne_true
 | bl a=>
  cases ry
  cases x with
  | non=>cases rx; exact SeqAt.EqAt.bool_none a
  | bl b=>cases rx; exact SeqAt.EqAt.bool_bool a b
  | int b=>obtain ⟨t,rfl⟩:=rx; exact SeqAt.EqAt.bool_int a b t
  | str b=>obtain ⟨t,rfl⟩:=rx; exact SeqAt.EqAt.bool_str a b t
  | _=>exact absurd (show false=true from fx) Bool.false_ne_true
 | int a=>
  obtain ⟨t',rfl⟩:=ry
  cases x with
  | non=>cases rx; exact SeqAt.EqAt.int_none a t'
  | bl b=>cases rx; exact SeqAt.EqAt.int_bool a t' b
  | int b=>obtain ⟨t,rfl⟩:=rx; exact SeqAt.EqAt.int_int a t' b t
  | str b=>obtain ⟨t,rfl⟩:=rx; exact SeqAt.EqAt.int_str a t' b t
  | _=>exact absurd (show false=true from fx) Bool.false_ne_true
 | str a=>
  obtain ⟨t',rfl⟩:=ry
  cases x with
  | non=>cases rx; exact SeqAt.EqAt.str_none a t'
  | bl b=>cases rx; exact SeqAt.EqAt.str_bool a t' b
  | int b=>obtain ⟨t,rfl⟩:=rx; exact SeqAt.EqAt.str_int a t' b t
  | str b=>obtain ⟨t,rfl⟩:=rx; exact SeqAt.EqAt.str_str a t' b t
  | _=>exact absurd (show false=true from fx) Bool.false_ne_true
 | _=>exact absurd (show false=true from fy) Bool.false_ne_true
def eqU (x:V) (u:Value):Bool:=match u with
 | .none=>eqV .non x
 | .bool b=>eqV (.bl b) x
 | .int i _=>eqV (.int i) x
 | .str z _=>eqV (.str z) x
 | _=>false
theorem wK {x y:V} {u:Value} (r:RelV y u) (f:flatV y=true):eqU x u=eqV y x:=by
 cases y with
 | non=>cases r; rfl
 | bl b=>cases r; rfl
 | int i=>obtain ⟨t,rfl⟩:=r; rfl
 | str z=>obtain ⟨t,rfl⟩:=r; rfl
 | _=>exact absurd (show false=true from f) Bool.false_ne_true
theorem kS {x:V}:∀ {xs:List V} {us:List Value},Vals xs us→xs.all flatV=true→us.any (eqU x)=xs.any fun y=>eqV y x
 | _,_,.nil,_=>rfl
 | y::xs,u::us,.cons r t,f=>by
  rw [List.all_cons,Bool.and_eq_true] at f
  rw [List.any_cons,List.any_cons,wK r f.1,kS t f.2]
theorem j2 {A:Around} {s:Shared} {x:V} {v:Value} (rx:RelV x v) (fx:flatV x=true):∀ {xs:List V} {us:List Value},Vals xs us→xs.all flatV=true→∀ u∈us,SeqAt.EqAt A s u v (eqU x u)
 | _,_,.nil,_=>fun u hu=>by cases hu
 | y::xs,u::us,.cons r t,f=>fun u' hu=>by
  rw [List.all_cons,Bool.and_eq_true] at f
  rcases List.mem_cons.mp hu with rfl | hu
  · rw [wK r f.1]; exact zI r rx f.1 fx
  · exact j2 rx fx t f.2 u' hu
def inV (x:V) (xs:List V):Bool:=xs.any fun y=>eqV y x
def rIn (K:PySem.W.Frag) (neg:Bool):R2:=fun x y H Q=>∃ p xs,y=.ref p∧(SqL K H p xs∨SqT K H p xs)∧flatV x=true∧xs.all flatV=true∧Q (.bl (if neg then !inV x xs else inV x xs)) H
theorem mx:OpR X (compareOp .In) (rIn X.K false):=by
 intro pins s σ H x y v u Q I rx ry h
 obtain ⟨p,xs,rfl,hq,fx,fs,q⟩:=h
 cases ry
 rcases hq with hq | hq
 · obtain ⟨its,r,pl,hz⟩:=I.list hq
   refine SeqAt.in_listAt (eqU x) pl.isList (fun w hw=>j2 rx fx r fs w (by simpa using hw)) ⟨.bl _,H,I,rfl,?_⟩
   rw [show its.toArray.any (eqU x)=its.any (eqU x) by simp,kS r fs]
   exact q
 · obtain ⟨its,r,pl,hz⟩:=I.tuple hq
   refine SeqAt.in_tupleAt (eqU x) pl (fun w hw=>j2 rx fx r fs w (by simpa using hw)) ⟨.bl _,H,I,rfl,?_⟩
   rw [show its.toArray.any (eqU x)=its.any (eqU x) by simp,kS r fs]
   exact q
theorem my:OpR X (compareOp .NotIn) (rIn X.K true):=by
 intro pins s σ H x y v u Q I rx ry h
 obtain ⟨p,xs,rfl,hq,fx,fs,q⟩:=h
 cases ry
 rcases hq with hq | hq
 · obtain ⟨its,r,pl,hz⟩:=I.list hq
   refine SeqAt.notIn_listAt (eqU x) pl.isList (fun w hw=>j2 rx fx r fs w (by simpa using hw)) ⟨.bl _,H,I,rfl,?_⟩
   rw [show its.toArray.any (eqU x)=its.any (eqU x) by simp,kS r fs]
   exact q
 · obtain ⟨its,r,pl,hz⟩:=I.tuple hq
   refine SeqAt.notIn_tupleAt (eqU x) pl (fun w hw=>j2 rx fx r fs w (by simpa using hw)) ⟨.bl _,H,I,rfl,?_⟩
   rw [show its.toArray.any (eqU x)=its.any (eqU x) by simp,kS r fs]
   exact q
theorem sA:OpR X (compareOp .NotIn) (fun x y H Q=>∃ i j,x=.str i∧y=.str j∧Q (.bl (!(!(Builtin.Str.occurrences j i 0 j.length 1).isEmpty))) H):=by
 intro pins s σ H x y v u Q I rx ry h
 obtain ⟨i,j,rfl,rfl,q⟩:=h
 obtain ⟨t,rfl⟩:=rx
 obtain ⟨t',rfl⟩:=ry
 exact notIn_str ⟨.bl _,H,I,rfl,q⟩
theorem gJ:CallR X (.builtin "len") (fun xs H Q=>∃ p ys,xs=[.ref p]∧(SqL X.K H p ys∨SqT X.K H p ys)∧Q (.int ys.length) H):=by
 intro pins s σ H xs us Q I r h
 obtain ⟨p,ys,rfl,hq,q⟩:=h
 obtain ⟨u,rfl,rx⟩:=eJ r
 cases rx
 have hn:=mr
 rcases hq with hq | hq
 · obtain ⟨its,r',pl,hz⟩:=I.list hq
   have hlen:=r'.length
   exact Calls.call_len_list pl.isList (by simp only [List.size_toArray] <;> omega) ⟨.int ys.length,H,I.tok _,⟨s.toks+1,by rw [List.size_toArray,hlen]⟩,q⟩
 · obtain ⟨its,r',pl,hz⟩:=I.tuple hq
   have hlen:=r'.length
   exact len_tuple pl (by simp only [List.size_toArray] <;> omega) ⟨.int ys.length,H,I.tok _,⟨s.toks+1,by rw [List.size_toArray,hlen]⟩,q⟩
theorem sB:CallR X (.builtin "len") (fun xs H Q=>∃ z,xs=[.str z]∧z.length≤sizeLine∧Q (.int z.length) H):=by
 intro pins s σ H xs us Q I r h
 obtain ⟨z,rfl,hz,q⟩:=h
 obtain ⟨u,rfl,t,rfl⟩:=eJ r
 have hn:=mr
 exact len_str (by omega) ⟨.int z.length,H,I.tok _,⟨_,rfl⟩,q⟩
theorem sC:CallR X (.type "list") (fun xs H Q=>∃ p ys,xs=[.ref p]∧(SqL X.K H p ys∨SqT X.K H p ys)∧∀ l,H l=none→Q (.ref l) (upd H l (.lst ys))):=by
 intro pins s σ H xs us Q I r h
 obtain ⟨p,ys,rfl,hq,q⟩:=h
 obtain ⟨u,rfl,rx⟩:=eJ r
 cases rx
 have fin:∀ (its:List Value),Vals ys its→ys.length≤sizeLine→∀ (h':Heap) (c':Nat),(∀ b o',s.heap.get? b=some o'→h'.get? b=some o')→
   h'.get? s.heap.objs.size=some { cls:=.type "list",dict:=none,data:=.seq its.toArray c',slots:=#[] }→EP X pins σ Q (.ref s.heap.objs.size) { s with heap:=h' }:=fun its r' hz h' c' kp e=>
  ⟨.ref s.heap.objs.size,_,I.laid (t':=s.toks) kp (Nat.le_refl _) (show ObjOk X.prog X.w _ h' _ (.lst ys) from ⟨hz,its,c',r',e⟩),rfl,q _ (I.hok.fresh (Nat.le_refl _))⟩
 rcases hq with hq | hq
 · obtain ⟨its,r',pl,hz⟩:=I.list hq
   have hlen:=r'.length
   obtain ⟨o,ho,hc,n,hd⟩:=pl.isList
   exact call_list_seq p (.inl rfl) ho hc hd (fun h' c' kp e=>fin its r' hz h' c' kp e) (by simp only [List.size_toArray] <;> omega)
 · obtain ⟨its,r',pl,hz⟩:=I.tuple hq
   have hlen:=r'.length
   obtain ⟨o,ho,hc,n,hd⟩:=pl
   exact call_list_seq p (.inr rfl) ho hc hd (fun h' c' kp e=>fin its r' hz h' c' kp e) (by simp only [List.size_toArray] <;> omega)
theorem rG:CallR X (.type "tuple") (fun xs H Q=>∃ p ys,xs=[.ref p]∧((SqL X.K H p ys∧∀ l,H l=none→Q (.ref l) (upd H l (.tup ys)))∨(SqT X.K H p ys∧Q (.ref p) H))):=by
 intro pins s σ H xs us Q I r h
 obtain ⟨p,ys,rfl,h⟩:=h
 obtain ⟨u,rfl,rx⟩:=eJ r
 cases rx
 rcases h with ⟨hq,q⟩ | ⟨hq,q⟩
 · obtain ⟨its,r',pl,hz⟩:=I.list hq
   have hlen:=r'.length
   refine call_tuple_list pl.isList (fun h' kp=>?_) (by simp only [List.size_toArray] <;> omega)
   have I1:Inv X pins σ H { s with heap:=h' }:=I.kept (t':=s.toks) kp
   have I2:Inv X pins σ (upd H h'.objs.size (.tup ys)) { s with heap:=h'.push { cls:=.type "tuple",data:=.seq its.toArray } }:=
    I1.laid (t':=s.toks) (fun b o e=>Heap.get?_push_of_some _ e) (Nat.le_refl _) (show ObjOk X.prog X.w _ _ _ (.tup ys) from ⟨hz,its,r',IsTup.new _ _⟩)
   exact ⟨.ref h'.objs.size,_,I2,rfl,q _ (I1.hok.fresh (Nat.le_refl _))⟩
 · obtain ⟨its,r',pl,hz⟩:=I.tuple hq
   exact call_tuple_same pl ⟨.ref p,H,I,rfl,q⟩
def tyV (K:PySem.W.Frag) (T:String) (x:V) (H:Hp):Prop:=match x with
 | .str _=>T="str"
 | .int _=>T="int"
 | .ref p=>(T="list"∧∃ xs,SqL K H p xs)∨(T="tuple"∧∃ o,K.lookup p=some o∧o.cls=.type "tuple"∧o.dict=none)∨
   (T="dict"∧((∃ kvs,H p=some (.dK kvs))∨∃ kvs,H p=some (.dT kvs)))∨(T="set"∧∃ S n,H p=some (.set S n))
 | _=>False
theorem wL {pins:List (Addr × Obj)} {σ:St} {H:Hp} {s:Shared} {T:String} {x:V} {v:Value} (I:Inv X pins σ H s) (r:RelV x v) (ty:tyV X.K T x H):
  s.TypeIs v T∧∀ a,v=.ref a→∃ ob,s.heap.get? a=some ob∧ob.dict=none:=by
 cases x with
 | str z=>
  obtain ⟨t,rfl⟩:=r
  cases (show T="str" from ty)
  exact ⟨typeIs_str s z t,fun _ e=>nomatch e⟩
 | int i=>
  obtain ⟨t,rfl⟩:=r
  cases (show T="int" from ty)
  exact ⟨typeIs_int s i t,fun _ e=>nomatch e⟩
 | ref p=>
  cases r
  rcases ty with ⟨rfl,xs,hq⟩ | ⟨rfl,o,hk,hc,hd⟩ | ⟨rfl,hk⟩ | ⟨rfl,S,n,hk⟩
  · obtain ⟨its,_,pl,_⟩:=I.list hq
    refine ⟨pl.isList.typeIs,fun a e=>?_⟩
    cases e
    obtain ⟨o,n,e,c,hd,_⟩:=pl
    exact ⟨o,e,hd⟩
  · refine ⟨⟨o,I.kIn p o hk,hc⟩,fun a e=>?_⟩
    cases e
    exact ⟨o,I.kIn _ o hk,hd⟩
  · have z:∃ o,s.heap.get? p=some o∧o.ExactDict:=by
     rcases hk with ⟨kvs,hk⟩ | ⟨kvs,hk⟩
     · obtain ⟨_,_,_,_,o,_,_,e,ex,_⟩:=I.hok p _ hk
       exact ⟨o,e,ex⟩
     · obtain ⟨_,_,_,_,o,_,_,e,ex,_⟩:=I.hok p _ hk
       exact ⟨o,e,ex⟩
    obtain ⟨o,e,ex⟩:=z
    refine ⟨⟨o,e,ex.1⟩,fun a e2=>?_⟩
    cases e2
    exact ⟨o,e,ex.2.1⟩
  · obtain ⟨o,_,_,_,e,ex,_⟩:=I.hok p _ hk
    refine ⟨⟨o,e,ex.1⟩,fun a e2=>?_⟩
    cases e2
    exact ⟨o,e,ex.2.1⟩
 | _=>exact False.elim ty
def vD (K:PySem.W.Frag) (T:String) (r:V→List V→Hp→VK→Prop) (to:TE):TE:=fun σ H Q=>to σ H fun x H1=>tyV K T x H1∧r x [] H1 Q
def tBM (K:PySem.W.Frag) (T:String) (r:V→List V→Hp→VK→Prop) (to:TE) (t:TA):TE:=fun σ H Q=>to σ H fun x H1=>tyV K T x H1∧t σ H1 fun xs H2=>r x xs H2 Q
variable {o e:Expr} {es:List Expr} {to:TE} {t:TA} {name:Str} {apos cpos:Pos} {T id:String} {r:V→List V→Hp→VK→Prop}
theorem wM (pa:PlainAttrs T) (slot:Slot T name id) (hty:typeOf (.builtin id)=pure (.type "method_descriptor")) (hm:MtR X id r) (ho:PE X o to)
  (hbase:attributeBase o name X.env (eval o X.env)=eval o X.env:=by rfl) (hline:(apos.endLine==cpos.line)=true:=by rfl):PE X (.Call (.Attribute o name apos) [] [] cpos) (vD X.K T r to):=by
 intro pins s σ H Q I h
 refine wpAny_Call_method0_late hbase hline (thn (ho pins s σ H _ I h) fun v s1 ⟨x,H1,I1,r1,ty,q1⟩=>?_)
 obtain ⟨h1,h2⟩:=wL I1 r1 ty
 exact ⟨T,id,pa,slot,hty,h1,h2,Calls.callWith_builtin rfl (PySem.evalArgs_none (hm pins s1 σ H1 x [] v [] Q I1 r1 .nil q1))⟩
theorem bZ (pa:PlainAttrs T) (slot:Slot T name id) (hty:typeOf (.builtin id)=pure (.type "method_descriptor")) (hm:MtR X id r) (ho:PE X o to) (ha:PA X (e::es) t)
  (hbase:attributeBase o name X.env (eval o X.env)=eval o X.env:=by rfl)
  (hfew:((backTo cpos (starEach (e::es) X.env)).all (fun x=>!x.1)&&(backToKw cpos (keywordEach [] X.env)).all (fun x=>x.1.isSome)
   &&decide ((e::es).length+([]:List Keyword).length+(if ([]:List Keyword).isEmpty then 0 else 1) < 30))=true:=by rfl)
  (hline:(apos.endLine==cpos.line)=true:=by rfl) (hs:starEach (e::es) X.env=(false,eval e X.env)::starEach es X.env:=by rfl) (hplain:(backTo cpos (starEach es X.env)).any (·.1)=false:=by rfl):
  PE X (.Call (.Attribute o name apos) (e::es) [] cpos) (tBM X.K T r to t):=by
 intro pins s σ H Q I h
 refine wpAny_Call_method_late hbase hfew hline rfl (thn (ho pins s σ H _ I h) fun v s1 ⟨x,H1,I1,r1,ty,q1⟩=>?_)
 obtain ⟨h1,h2⟩:=wL I1 r1 ty
 refine ⟨T,id,pa,slot,hty,h1,h2,?_⟩
 have hA:=ha cpos pins s1 σ H1 _ I1 q1
 rw [hs] at hA ⊢
 refine Calls.callWith_builtin (by show (false||(backTo cpos (starEach es X.env)).any (·.1))=false; rw [hplain] <;> rfl) (Calls.evalArgs_plain ?_)
 exact thn hA fun us s2 ⟨vs,H2,I2,r2,q2⟩=>hm pins s2 σ H2 x vs v us Q I2 r1 r2 q2
end
end L2
namespace L2
open PySem PySem.Spec PyProof.Rows
def MtM (X:Cx) (id:String) (r:V→List V→Hp→VK→Prop):Prop:=
 ∀ (pins:List (Addr × Obj)) (s:Shared) (σ:St) (H:Hp) (x:V) (xs:List V) (v:Value) (us:List Value) (Q:VK),Inv X pins σ H s→RelV x v→Vals xs us→r x xs H Q→
  wpAny (model X.prog X.w) X.A (call (.builtin id) (v::us)) (EP X pins σ Q) X.xe s
theorem Vals.one:∀ {x:V} {us:List Value},Vals [x] us→∃ u,us=[u]∧RelV x u
 | _,_,.cons r .nil=>⟨_,rfl,r⟩
theorem Vals.eraseIdx:∀ {xs:List V} {us:List Value} (i:Nat),Vals xs us→Vals (xs.eraseIdx i) (us.eraseIdx i)
 | _,_,_,.nil=>.nil
 | _,_,0,.cons _ t=>t
 | _,_,i+1,.cons r t=>.cons r (Vals.eraseIdx i t)
theorem rf {α:Type}:∀ (l:List α) (i:Nat),(l.eraseIdx i).length≤l.length
 | [],_=>Nat.le_refl _
 | _::_,0=>Nat.le_succ _
 | _::r,i+1=>Nat.succ_le_succ (rf r i)
section
variable {X:Cx} {pins:List (Addr × Obj)} {σ:St} {H:Hp} {s:Shared} {l b:Addr} {xs ys zs:List V}
theorem Inv.lset {its its':List Value} {n:Nat} {f:Array Value→Array Value} {t':Nat} (I:Inv X pins σ H s) (hH:H l=some (.lst xs))
  (e:s.heap.get? l=some { cls:=.type "list",data:=.seq its.toArray n }) (hf:f its.toArray=its'.toArray) (hv:Vals ys its') (hz:ys.length≤sizeLine):
  Inv X pins σ (upd H l (.lst ys)) { s with heap:=s.heap.update l (Obj.mapSeq f),toks:=t' }:=by
 have q:=PySem.IsL.update e f
 rw [hf] at q
 refine I.write (x:=l) (e:=l) (by rw [hH]; exact trivial) (.inl rfl) (fun b' u hb hu=>(Heap.get?_update_other s.heap (Obj.mapSeq f) (Ne.symm hb)).trans hu) ⟨_,q⟩ ?_
 exact ⟨hz,its',_,hv,q⟩
theorem Inv.lnew {its:List Value} {t':Nat} (I:Inv X pins σ H s) (hv:Vals ys its) (hz:ys.length≤sizeLine):
  Inv X pins σ (upd H s.heap.objs.size (.lst ys)) { s with heap:=s.heap.push { cls:=.type "list",data:=.seq its.toArray },toks:=t' }:=
 I.laid (fun _ _ q=>Heap.get?_push_of_some _ q) (Nat.le_refl _) ⟨hz,its,0,hv,Heap.get?_push_size _ rfl⟩
theorem Inv.fresh (I:Inv X pins σ H s):H s.heap.objs.size=none:=I.hok.fresh (Nat.le_refl _)
theorem Inv.lstM (I:Inv X pins σ H s) (hH:H l=some (.lst xs)):xs.length≤sizeLine∧∃ (its:List Value) (n:Nat),Vals xs its∧xs.length=its.length∧s.heap.get? l=some { cls:=.type "list",data:=.seq its.toArray n }:=by
 obtain ⟨z,its,n,r,e⟩:=I.hok l _ hH
 exact ⟨z,its,n,r,r.length,e⟩
end
section
variable {X:Cx}
def yU:V→List V→Hp→VK→Prop:=fun x vs H Q=>∃ l xs y,x=.ref l∧vs=[y]∧H l=some (.lst xs)∧xs.length < sizeLine∧Q .non (upd H l (.lst (xs++[y])))
theorem rg:MtM X "list.append" yU:=by
 intro pins s σ H x vs v us Q I rx rv h
 obtain ⟨l,xs,y,rfl,rfl,hH,hz,q⟩:=h
 cases rx
 obtain ⟨u,rfl,ru⟩:=rv.one
 obtain ⟨z,its,n,r,hl,e⟩:=I.lstM hH
 refine call_meets F.slot_list_append ⟨_,e,rfl⟩ F.entry_list_append (F.args_list_append_2 _ _) (PySem.list_append l its.toArray n u (by rw [List.size_toArray]; omega)) ⟨e,?_⟩
 refine ⟨.non,_,I.lset (its':=its++[u]) hH e (by simp) (r.append (.cons ru .nil)) ?_,rfl,q⟩
 rw [List.length_append,List.length_singleton]
 omega
def zJ:V→List V→Hp→VK→Prop:=fun x vs H Q=>∃ l xs i k y,x=.ref l∧vs=[.int i]∧H l=some (.lst xs)∧ -(2^63)≤i∧i < 2^63∧seqIndex? i xs.length=some k∧xs[k]? =some y∧Q y (upd H l (.lst (xs.eraseIdx k)))
theorem x8:MtM X "list.pop" zJ:=by
 intro pins s σ H x vs v us Q I rx rv h
 obtain ⟨l,xs,i,k,y,rfl,rfl,hH,h1,h2,hk,hy,q⟩:=h
 cases rx
 obtain ⟨u,rfl,ru⟩:=rv.one
 obtain ⟨t,rfl⟩:=ru
 obtain ⟨z,its,n,r,hl,e⟩:=I.lstM hH
 obtain ⟨w,hw,rw'⟩:=r.get hy
 refine call_meets F.slot_list_pop ⟨_,e,rfl⟩ F.entry_list_pop (F.args_list_pop_2 _ _)
  (MeetsSeq.list_pop_at l its.toArray n i t k w (fitsIndex_both h1 h2) (by rw [List.size_toArray,← hl]; exact hk) (by rw [← Array.getElem?_toList]; exact hw) (by rw [List.size_toArray]; omega)) ⟨e,?_⟩
 refine ⟨y,_,I.lset (its':=its.eraseIdx k) hH e ?_ (r.eraseIdx k) ?_,rw',q⟩
 · show its.toArray.eraseIdxIfInBounds k=(its.eraseIdx k).toArray
   rw [List.eraseIdxIfInBounds_toArray]
 · have:=rf xs k
   omega
def rCat:R2:=fun x y H Q=>∃ l b xs zs,x=.ref l∧y=.ref b∧H l=some (.lst xs)∧H b=some (.lst zs)∧xs.length+zs.length≤sizeLine∧∀ p,H p=none→Q (.ref p) (upd H p (.lst (xs++zs)))
theorem zK:OpR X (binaryOp .Add) rCat:=by
 intro pins s σ H x y v u Q I rx ry h
 obtain ⟨l,b,xs,zs,rfl,rfl,hH,hB,hz,q⟩:=h
 cases rx
 cases ry
 obtain ⟨z,its,n,r,hl,e⟩:=I.lstM hH
 obtain ⟨z2,its2,n2,r2,hl2,e2⟩:=I.lstM hB
 refine PySem.P.add_list e e2 ?_ (by rw [List.size_toArray,List.size_toArray]; omega)
 have ea:its.toArray++its2.toArray=(its++its2).toArray:=by simp
 rw [ea]
 exact ⟨.ref _,_,I.lnew (t':=s.toks) (r.append r2) (by rw [List.length_append]; omega),rfl,q _ I.fresh⟩
end
end L2
namespace Att
open PySem PySem.W PySem.Calls PyProof.Rows
theorem ints_of_wellAll {P:Params} {h:Heap}:∀ (ns:List Int) (vs:List Value),WellAll P h vs (ns.map WData.int)→IntsAre vs ns:=by
 intro ns
 induction ns with
 | nil=>
  intro vs w
  rw [List.map_nil] at w
  cases w
  exact .nil
 | cons n ns ih=>
  intro vs w
  rw [List.map_cons] at w
  cases w with
  | cons a b=>
   cases a
   exact .cons _ _ (ih _ b)
theorem script_of {l:OpenLaw} {n:Nat} (hn:l.most=some n) {P:Params} {h:Heap} {args:List WData} {vals:List Value}
  (hpre:l.row.toRowW.claim.pre args=true) (hwl:WellAll P h vals args):
  ∃ a vs ns,vals=[Value.ref a]∧args=[WData.list (ns.map WData.int)]∧h.get? a=some { cls:=.type "list",data:=.seq vs.toArray }∧IntsAre vs ns∧ns.length≤n:=by
 have hsh:WShape.hasAll [] args [.list .int]=true:=(pre_splitW hpre).1
 have hc:l.pre.holds [] { args:=args }=true:=(pre_splitW hpre).2
 obtain ⟨d,r,rfl,h1,h2⟩:=hasAllW_cons hsh
 obtain rfl:=hasAllW_nil h2
 obtain ⟨xs,rfl,h3⟩:=hasW_list h1
 obtain ⟨ns,rfl⟩:=items_int h3
 have hlen:ns.length≤n:=by
  unfold OpenLaw.pre at hc
  have h4:(WTm.not (.lt (.lit (.int (n:Int))) (.len (.arg 0)))).holds [] { args:=[.list (ns.map .int)] }=true:=by
   have h4:=(holds_andW hc).1
   rw [hn] at h4
   exact h4
  have h5:=condW_of h4 (w_not (w_lt w_lit (w_len_list (w_arg rfl))))
  rw [List.length_map] at h5
  refine Nat.le_of_not_lt fun q=>?_
  have q':(n:Int) < ((ns.length:Nat):Int):=by omega
  first
   | (rw [decide_eq_true q'] at h5; exact absurd h5 (by decide))
   | (simp at h5; omega)
 cases hwl with
 | cons w1 w2=>
  cases w2
  cases w1 with
  | list ho hall=>exact ⟨_,_,ns,rfl,rfl,ho,ints_of_wellAll ns _ hall,hlen⟩
theorem post_true (l:OpenLaw) (args:List WData):l.row.toRowW.claim.post args (.bool true) args=true:=
 postW_of (r:=l.row.toRowW) (X:=(true==true))
  (show WShape.has [] (.bool true) .bool=true by first | rfl | decide | simp [WShape.has,WShape.arms,WShape.armsAll])
  (show (WTm.eq .res (.lit (.bool true))).value [] { args:=args,res:=some (.bool true),after:=args }=some (.bool (true==true)) from w_eq_bool (w_res rfl) w_lit) rfl
theorem attach_call {l:OpenLaw} {n:Nat} {q:Program} {loose:List Str} {XP:(Str→Option Value)→Heap→Prop} {YP:World→Heap→Prop} {d:DefRec}
  (hn:l.most=some n) (hdf:d.params.defaults=[])
  (call:∀ (w:World) (s₀ s₁:Shared) (mg mb:Str→Option Value) (fa:Addr) (o:Obj) (pm cd doc:Value) (a:Addr) (vs:List Value) (ns:List Int),
   Ground q loose [] XP w s₀ mg mb s₁.heap→YP w s₁.heap→
   s₁.heap.get? fa=some o→o.data=.func (docDef d.name d.params d.body d.scope pm cd doc)→s₁.heap.CodeRec cd d.name→mg d.name=some (.ref fa)→
   s₁.heap.get? a=some { cls:=.type "list",data:=.seq vs.toArray }→IntsAre vs ns→ns.length≤n→s₁.gens=#[]→
   codeAny (model l.prog w) callerA (.call (.ref fa) ⟨[.ref a],[]⟩) (fun r s'=>r=.ok (.ret (.bool true))∧OldK s₁.heap s'.heap∧s'.os=s₁.os∧AllBare s'.gens) s₁):
  WalkO q loose XP YP l.row.toRowW d [] (fun f vs=>PySem.call f vs):=by
 intro w s₀ s₁ mg mb G Y fa o pm cd doc dV kV ho hd hcd hD hmg hg args vals as hpre hlay hrd hwl hlo
 obtain rfl:dV=.none:=Dflts.none hD hdf
 obtain rfl:kV=.none:=Dflts.noKw hD
 obtain ⟨a,vs,ns,rfl,rfl,hobj,hints,hlen⟩:=script_of hn hpre hwl
 refine enter_call (codeAny_mono (call w s₀ s₁ mg mb fa o pm cd doc a vs ns G Y ho (fd_plain hd) hcd hmg hobj hints hlen hg) fun r s' hq=>?_)
 obtain ⟨rfl,h2,h3,h4⟩:=hq
 exact ⟨.inl ⟨.bool true,.bool true,[],rfl,fun _=>rfl,.bool true,post_true l _,fun _=>⟨List.Pairwise.nil,fun _ hm=>(nomatch hm)⟩⟩,h2,h3,h4⟩
section
variable {prog:Program} {w:World} {A:Around} {E:Value→Shared→Prop} {s:Shared} {K:Frag}
end
end Att
namespace L2
open PySem PySem.Spec PyProof.Rows
theorem mB:∀ {vs:List Value} {ns:List Int},IntsAre vs ns→Vals (ns.map V.int) vs
 | _,_,.nil=>.nil
 | _,_,.cons n t h=>.cons ⟨t,rfl⟩ (mB h)
def Only (H:Hp):Prop:=∀ b,H b=none∨∃ o xs,H b=some (.frz o (.lst xs))
theorem x9 {P:Program} {w:World} {K:PySem.W.Frag} {mg mb:Str→Option Value} {CX:CXT} {k:Nat} {fa a:Addr} {fd:FuncData} {x:Str} {sp:Sp} {s₁:Shared} {vs:List Value} {ns:List Int}
  (KX:K.In s₁.heap) (hns:s₁.heap.Ns mainGlobals mg) (hb:s₁.heap.Ns builtinsNs mb) (hbb:∀ x:Str,x≠"__name__"→mb x=bootBuiltins x) (hlim:s₁.heap.NoLimit) (hg:s₁.gens=#[])
  (ha:s₁.heap.get? a=some { cls:=.type "list",data:=.seq vs.toArray }) (hi:IntsAre vs ns) (hl:ns.length≤sizeLine) (hr:Room k callerA)
  (F:∀ base:Heap,K.In base→base.Ns mainGlobals mg→FnOk P w K mg base CX k fa fd [x] sp) (hbind:∀ (s:Shared) (u:Value),BindsTo s fd ⟨[u],[]⟩ [(x,u)])
  (hsp:∀ H:Hp,Only H→SqL K H a (ns.map V.int)→sp [.ref a] H (fun v _=>v=.bl true) fun _ _ _=>False)
  (hCX:∀ H e s',CX [] H s₁ (fun _ _ _=>False) e s'→False):
  codeAny (model P w) callerA (.call (.ref fa) ⟨[.ref a],[]⟩) (fun r s'=>r=.ok (.ret (.bool true))∧OldK s₁.heap s'.heap∧s'.os=s₁.os∧AllBare s'.gens) s₁:=by
 have rv:=mB hi
 have lenV:=hi.length
 have core:∀ H:Hp,Only H→SqL K H a (ns.map V.int)→HOk P w H s₁.heap→(∀ b,H b≠none→b=a)→(H a≠none→K.lookup a=none)→
   codeAny (model P w) callerA (.call (.ref fa) ⟨[.ref a],[]⟩) (fun r s'=>r=.ok (.ret (.bool true))∧OldK s₁.heap s'.heap∧s'.os=s₁.os∧AllBare s'.gens) s₁:=by
  intro H hO hS hok hA hK
  have base_of:∀ {b:Addr} {o:Obj},s₁.heap.get? b=some o→H b=none→(hidT s₁.heap H).get? b=some o:=fun e n=>xY e n
  have noA:∀ {b:Addr} {o:Obj} {es:Array DictEntry} {ep:Nat},s₁.heap.get? b=some o→o.data=.dict es ep→H b=none:=fun {b o es ep} e d=>by
   cases q:H b with
   | none=>rfl
   | some u=>
    have e':b=a:=hA b (by rw [q]; simp)
    subst e'
    rw [ha] at e; cases e
    have d':Data.seq vs.toArray _=Data.dict es ep:=d
    cases d'
  have nsK:∀ {b:Addr} {m:Str→Option Value},s₁.heap.Ns b m→(hidT s₁.heap H).Ns b m:=fun {b m} ⟨o,es,ep,e,d,r⟩=>⟨o,es,ep,base_of e (noA e d),d,r⟩
  have hKb:K.In (hidT s₁.heap H):=fun b o e=>base_of (KX b o e) (by
   cases q:H b with
   | none=>rfl
   | some u=>
    have e':b=a:=hA b (by rw [q]; simp)
    subst e'
    rw [hK (by rw [q]; simp)] at e; cases e)
  have hM:Mod K mg (hidT s₁.heap H):=⟨hKb,nsK hns,⟨mb,nsK hb,hbb⟩,let ⟨mc,h1,h2⟩:=hlim; ⟨mc,nsK h1,h2⟩⟩
  have e0:Env0 P w K mg (hidT s₁.heap H) callerA [] s₁ H:=⟨rfl,hM,fun b o e=>yK e,Nat.le_of_eq (ww _ _),trivial,fun b hb=>absurd (show b∈([]:List Addr) from hb) (by simp),hok,.of_eq hg⟩
  refine codeAny_mono ((F _ hKb (nsK hns)).run callerA [] s₁ H ⟨[.ref a],[]⟩ [.ref a] [.ref a] _ _ hr e0 (hbind s₁ (.ref a)) (.cons rfl .nil) (hsp H hO hS)) fun r s' h=>?_
  cases r with
  | error e=>exact (hCX H e s' h).elim
  | ok fl=>
   cases fl with
   | next=>exact False.elim h
   | brk=>exact False.elim h
   | cont=>exact False.elim h
   | ret u=>
    obtain ⟨v,H',os,bare,un,hok',r',q⟩:=h
    have q':v=.bl true:=q
    subst q'
    obtain rfl:u=Value.bool true:=r'
    refine ⟨rfl,OldK.of_keep fun b o e=>?_,os,bare⟩
    cases q:H b with
    | none=>exact un.keep b o e q (by intro z; exact absurd (show b∈([]:List Addr) from z) (by simp)) (by simp)
    | some u=>
     rcases hO b with z | ⟨ob,xs,z⟩
     · rw [q] at z; cases z
     · have z2:=un.frzs b ob _ z
       obtain ⟨e1,_⟩:=hok b _ z
       obtain ⟨e2,_⟩:=hok' b _ z2
       rw [e] at e1; cases e1
       exact e2
 cases hk:K.lookup a with
 | some o=>
  have e:=KX a o hk
  rw [ha] at e
  cases e
  refine core (fun _=>none) (fun _=>.inl rfl) (.inr ⟨_,vs.toArray,_,hk,rfl,rfl,rfl,by rw [List.size_toArray,lenV]; exact hl,by simpa using rv⟩) (fun b u z=>by have z':(none:Option HO)=some u:=z; cases z') (fun b z=>absurd rfl z) fun z=>absurd rfl z
 | none=>
  refine core (fun b=>if b=a then some (.frz { cls:=.type "list",data:=.seq vs.toArray } (.lst (ns.map V.int))) else none) (fun b=>?_) (.inl (.inr ⟨{ cls:=.type "list",data:=.seq vs.toArray },if_pos rfl⟩)) (fun b u z=>?_) (fun b z=>?_) fun _=>hk
  · by_cases hb:b=a
    · exact .inr ⟨_,_,if_pos hb⟩
    · exact .inl (if_neg hb)
  · by_cases hb:b=a
    · have z':=(if_pos hb).symm.trans z
      cases z'
      subst hb
      exact ⟨ha,by rw [List.length_map]; exact hl,vs,_,rv,ha⟩
    · have z':=(if_neg hb).symm.trans z
      cases z'
  · by_cases hb:b=a
    · exact hb
    · exact absurd (if_neg hb) z
end L2
namespace L2
open PySem PySem.Spec PyProof.Rows
theorem yV {l:PySem.W.OpenLaw} {n k:Nat} {q:Program} {loose:List Str} {XP:(Str→Option Value)→Heap→Prop} {YP:World→Heap→Prop} {d:DefRec} {K:Params→PySem.W.Frag} {CX:World→CXT} {sp:World→Sp} {x:Str}
  (hn:l.most=some n) (hn2:n≤sizeLine) (hdf:d.params.defaults=[]) (hr:Room k callerA)
  (hY:∀ (w:World) (h:Heap),YP w h→(K w.params).In h)
  (F:∀ (w:World) (mg:Str→Option Value) (fa:Addr) (h:Heap),(K w.params).In h→h.Ns mainGlobals mg→mg d.name=some (.ref fa)→
   ∃ fd:FuncData,(∀ (s:Shared) (u:Value),BindsTo s fd ⟨[u],[]⟩ [(x,u)])∧
    ∀ base:Heap,(K w.params).In base→base.Ns mainGlobals mg→FnOk l.prog w (K w.params) mg base (CX w) k fa fd [x] (sp w))
  (hsp:∀ (w:World) (H:Hp) (a:Addr) (ns:List Int),ns.length≤n→Only H→SqL (K w.params) H a (ns.map V.int)→sp w [.ref a] H (fun v _=>v=.bl true) fun _ _ _=>False)
  (hCX:∀ (w:World) (H:Hp) (s:Shared) (e:Value) (s':Shared),CX w [] H s (fun _ _ _=>False) e s'→False):
  PySem.W.WalkO q loose XP YP l.row.toRowW d [] (fun f vs=>PySem.call f vs):=by
 refine Att.attach_call hn hdf fun w s₀ s₁ mg mb fa o pm cd doc a vs ns G Y ho hd hcd hmg hobj hints hlen hg=>?_
 have KX:=hY w _ Y
 obtain ⟨fd,hb,hF⟩:=F w mg fa _ KX G.T.g hmg
 exact x9 KX G.T.g G.T.b G.T.builtins G.T.nolimit hg hobj hints (Nat.le_trans hlen hn2) hr hF hb (fun H hO hS=>hsp w H a ns hlen hO hS) fun H e s'=>hCX w H s₁ e s'
end L2
namespace L2
open PySem PySem.Spec PyProof.Rows
def bK (s:Stmt):Arguments:=match s with
 | .FunctionDef _ a _ _ _ _ _ _ _ _=>a
 | _=>{ posonlyargs:=[],args:=[],vararg:=none,kwonlyargs:=[],kw_defaults:=[],kwarg:=none,defaults:=[] }
def bC (s:Stmt):List Stmt:=match s with
 | .FunctionDef _ _ b _ _ _ _ _ _ _=>b
 | _=>[]
def aj (s:Stmt):Scope:=match s with
 | .FunctionDef _ _ _ _ _ _ sc _ _ _=>sc
 | _=>{ kind:=.function,names:=[],isGenerator:=false,isCoroutine:=false }
abbrev CX0:CXT:=fun _ _ _ _ _ _=>False
abbrev E0:XK:=fun _ _ _=>False
theorem vE {X:Cx}:mw CX0 X E0:=fun _ _ _ _ _ _ _ h=>h.elim
structure Fun (K:PySem.W.Frag) (x qual:Str) (st:Stmt) (f:Addr) (fd:FuncData):Prop where
 ex:∃ (oc:Value) (od:Option Addr) (kV doc pm:Value) (an:Option Addr) (cdv ct:Value) (osl:Array (Option Value)),
  fd=PySem.W.fnOf x qual (bK st) (bC st) (aj st) .none kV doc pm an cdv ct∧K.lookup f=some ⟨oc,od,.func fd,osl⟩∧PySem.W.codeIn K cdv qual=true
 kp:PySem.W.keepIn K (.ref f)=true
section
variable {P:Program} {w:World} {K:PySem.W.Frag} {mg:Str→Option Value} {base:Heap}
theorem Fun.ok {x qual:Str} {st:Stmt} {f:Addr} {fd:FuncData} {N ps:List Str} {k:Nat} {sp:Sp} (F:Fun K x qual st f fd) (S:ax N ps (aj st)) (len:∀ vs H Q E,sp vs H Q E→vs.length=ps.length)
  (hbody:∀ (cdv:Value) (A:Around) (outer:List Env) (s:Shared) (H:Hp) (vs:List V) (Q:VK) (E:XK),Room k (A.deeper (envOfC qual (aj st) s.heap.objs.size f cdv))→sp vs H Q E→
   ∃ t,PSs (cxOf CX0 P w K mg base N qual (aj st) f cdv A outer s H E).nox (bC st) t∧t { nx:=fun _ H'=>Q .non H',rt:=Q } (start N vs) H):FnOk P w K mg base CX0 (k+1) f fd ps sp:=by
 obtain ⟨oc,od,kV,doc,pm,an,cdv,ct,osl,rfl,lk,hcd⟩:=F.ex
 refine Ap lk hcd S len fun A outer s H vs Q E hr hsp=>?_
 obtain ⟨t,h,q⟩:=hbody cdv A outer s H vs Q E hr hsp
 exact ⟨t,h.nox,q⟩
theorem Fun.binds {x qual:Str} {st:Stmt} {f:Addr} {fd:FuncData} {ps:List Str} (F:Fun K x qual st f fd)
  (h:∀ (kV doc pm:Value) (an:Option Addr) (cdv ct:Value) (us:List Value),us.length=ps.length→bindArgs (PySem.W.fnOf x qual (bK st) (bC st) (aj st) .none kV doc pm an cdv ct) ⟨us,[]⟩=pure (ps.zip us)):Binds K fd ps []:=by
 obtain ⟨oc,od,kV,doc,pm,an,cdv,ct,osl,rfl,lk,hcd⟩:=F.ex
 exact .all (h kV doc pm an cdv ct)
theorem aC {x qual:Str} {st:Stmt} {f:Addr} {oc:Value} {od an:Option Addr} {osl:Array (Option Value)} {kV doc pm cdv ct:Value} (l:K.lookup f=some ⟨oc,od,.func (PySem.W.fnOf x qual (bK st) (bC st) (aj st) .none kV doc pm an cdv ct),osl⟩)
  (c:PySem.W.codeIn K cdv qual=true) (k:PySem.W.keepIn K (.ref f)=true):Fun K x qual st f (PySem.W.fnOf x qual (bK st) (bC st) (aj st) .none kV doc pm an cdv ct):=⟨⟨oc,od,kV,doc,pm,an,cdv,ct,osl,rfl,l,c⟩,k⟩
end
theorem aK {n:Nat} (h:n≤1000):n < sizeLine:=Nat.lt_of_le_of_lt h (by decide)
section
variable {X:Cx}
theorem pv (i:Nat) {x:Str} {pos:Pos} (hN:X.N[i]? =some x:=by rfl) (hv:Vis X.env.scope x:=by first | exact Or.inl rfl | exact Or.inr (Or.inl rfl) | exact Or.inr (Or.inr rfl)) (hd:(x==("__debug__":Str))=false:=by decide)
  (hcd:(x==("__classdict__":Str))=false:=by decide):PE X (.Name x pos) (tVar i):=zu hN hv hd hcd
end
theorem iteF {A B:Prop} (h:B):if false=true then A else B:=by
 rw [if_neg Bool.false_ne_true]
 exact h
theorem iteT {A B:Prop} (h:A):if true=true then A else B:=by
 rw [if_pos rfl]
 exact h
def Same (H H':Hp):Prop:=∀ b o,H b=some o→H' b=some o
theorem Same.refl (H:Hp):Same H H:=fun _ _ h=>h
theorem Same.trans {H H1 H2:Hp} (a:Same H H1) (b:Same H1 H2):Same H H2:=fun c o h=>b c o (a c o h)
theorem Same.free {H H':Hp} (e:Same H H') {l:Addr} (h:H' l=Option.none):H l=Option.none:=by
 cases q:H l with
 | none=>rfl
 | some o=>
  rw [e l o q] at h
  cases h
theorem Same.seq {K:PySem.W.Frag} {H H':Hp} {a:Addr} {xs:List V} (e:Same H H') (h:SqL K H a xs):SqL K H' a xs:=by
 rcases h with (h | ⟨o,h⟩) | h
 · exact .inl (.inl (e _ _ h))
 · exact .inl (.inr ⟨o,e _ _ h⟩)
 · exact .inr h
end L2
namespace L2
open PySem PySem.Spec PyProof.Rows
section
variable {κ:Type} [DecidableEq κ]
def valV (kvs:List (κ × V)) (k:κ):Option V:=(kvs.find? fun kv=>decide (kv.1=k)).map (·.2)
def putK (kvs:List (κ × V)) (k:κ) (v:V):List (κ × V):=
 if (kvs.any fun kv=>decide (kv.1=k))=true then kvs.map (fun kv=>if kv.1=k then (kv.1,v) else kv) else kvs++[(k,v)]
theorem ou {p:κ × V} {r:List (κ × V)} {k:κ} (e:p.1=k):valV (p::r) k=some p.2:=by simp [valV,List.find?_cons,e]
theorem ow {p:κ × V} {r:List (κ × V)} {k:κ} (e:¬ p.1=k):valV (p::r) k=valV r k:=by simp [valV,List.find?_cons,e]
theorem sD (k:κ):∀ kvs:List (κ × V),(kvs.any fun kv=>decide (kv.1=k))=(valV kvs k).isSome
 | []=>rfl
 | p::r=>by
  rw [List.any_cons]
  by_cases e:p.1=k
  · simp only [ou e,decide_eq_true e,Bool.true_or,Option.isSome_some]
  · rw [ow e,decide_eq_false e,Bool.false_or]; exact sD k r
theorem oi (kvs:List (κ × V)) (k:κ) (v:V):(putK kvs k v).length≤kvs.length+1:=by
 unfold putK
 split
 · rw [List.length_map]; omega
 · rw [List.length_append,List.length_cons,List.length_nil]; omega
theorem RelO.isSome_eq {o:Option V} {u:Option Value} (r:RelO o u):o.isSome=u.isSome:=by
 cases o with
 | none=>cases u with
  | none=>rfl
  | some _=>exact (show False from r).elim
 | some _=>cases u with
  | none=>exact (show False from r).elim
  | some _=>rfl
theorem KV.val {kvs:List (κ × V)} {vs:List (κ × Value)} (r:KV kvs vs) (k:κ):RelO (valV kvs k) (valueAt vs k):=by
 unfold KV at r
 induction r with
 | nil=>exact True.intro
 | @cons p q ps qs h t ih=>
  obtain ⟨h1,h2⟩:=h
  by_cases e:p.1=k
  · have e':q.1=k:=h1.symm.trans e
    have b:valueAt (q::qs) k=some q.2:=by simp [valueAt,List.find?_cons,e']
    rw [ou e,b]; exact h2
  · have e':¬ q.1=k:=fun z=>e (h1.trans z)
    have b:valueAt (q::qs) k=valueAt qs k:=by simp [valueAt,List.find?_cons,e']
    rw [ow e,b]; exact ih
theorem KV.any {kvs:List (κ × V)} {vs:List (κ × Value)} (r:KV kvs vs) (k:κ):(kvs.any fun kv=>decide (kv.1=k))=vs.any fun kv=>decide (kv.1=k):=by
 unfold KV at r
 induction r with
 | nil=>rfl
 | cons h t ih=>rw [List.any_cons,List.any_cons,ih,h.1]
theorem KV.repl {kvs:List (κ × V)} {vs:List (κ × Value)} (r:KV kvs vs) (k:κ) {y:V} {u:Value} (ry:RelV y u):
  KV (kvs.map fun kv=>if kv.1=k then (kv.1,y) else kv) (vs.map fun kv=>if kv.1=k then (kv.1,u) else kv):=by
 unfold KV at r ⊢
 induction r with
 | nil=>exact .nil
 | @cons p q ps qs h t ih=>
  rw [List.map_cons,List.map_cons]
  refine .cons ?_ ih
  obtain ⟨h1,h2⟩:=h
  by_cases e:p.1=k
  · rw [if_pos e,if_pos (h1.symm.trans e)]; exact ⟨h1,ry⟩
  · rw [if_neg e,if_neg (fun z=>e (h1.trans z))]; exact ⟨h1,h2⟩
theorem KV.put {kvs:List (κ × V)} {vs:List (κ × Value)} (r:KV kvs vs) (k:κ) {y:V} {u:Value} (ry:RelV y u):KV (putK kvs k y) (stored vs k u):=by
 unfold putK stored
 rw [r.any k]
 by_cases e:(vs.any fun kv=>decide (kv.1=k))=true
 · rw [if_pos e,if_pos e]; exact r.repl k ry
 · rw [if_neg e,if_neg e]; exact Paired.snoc r ⟨rfl,ry⟩
theorem KV.length {kvs:List (κ × V)} {vs:List (κ × Value)} (r:KV kvs vs):kvs.length=vs.length:=Paired.length r
end
theorem pr {P:Program} {w:World} {k:Key} {u:Value} (r:RelV (kV k) u):(cJ P w).is k u=true:=by
 cases k with
 | inl i=>obtain ⟨t,e⟩:=(show ∃ t,u=Value.int i t from r); subst e; exact uj P w i t
 | inr x=>obtain ⟨t,e⟩:=(show ∃ t,u=Value.str x t from r); subst e; exact uk P w x t
theorem rh {P:Program} {w:World}:∀ {ks:List Key} {us:List Value},Vals (ks.map kV) us→ItemsAre (cJ P w) ks us
 | [],_,r=>by rw [List.map_nil] at r; cases r; exact .nil
 | k::ks,_,r=>by
  rw [List.map_cons] at r
  cases r with
  | cons h t=>exact .cons (pr h) (rh t)
abbrev KT (H:Hp):List (List Key × V)→List (List Key × Addr × Value)→Prop:=Paired fun p q=>p.1=q.1∧H q.2.1=some (.tup (p.1.map kV))∧RelV p.2 q.2.2
theorem KT.val {H:Hp} {kvs:List (List Key × V)} {xs:List (List Key × Addr × Value)} (r:KT H kvs xs) (k:List Key):RelO (valV kvs k) ((atKey xs k).map (·.2)):=by
 induction r with
 | nil=>exact True.intro
 | @cons p q ps qs h t ih=>
  obtain ⟨h1,_,h2⟩:=h
  by_cases e:p.1=k
  · have e':q.1=k:=h1.symm.trans e
    have b:atKey (q::qs) k=some q.2:=by simp [atKey,List.find?_cons,e']
    rw [ou e,b]; exact h2
  · have e':¬ q.1=k:=fun z=>e (h1.trans z)
    have b:atKey (q::qs) k=atKey qs k:=by simp [atKey,List.find?_cons,e']
    rw [ow e,b]; exact ih
theorem KT.repl {H:Hp} {kvs:List (List Key × V)} {xs:List (List Key × Addr × Value)} (r:KT H kvs xs) (k:List Key) {y:V} {u:Value} (ry:RelV y u):
  KT H (kvs.map fun kv=>if kv.1=k then (kv.1,y) else kv) (xs.map (putAt k u)):=by
 induction r with
 | nil=>exact .nil
 | @cons p q ps qs h t ih=>
  rw [List.map_cons,List.map_cons]
  refine .cons ?_ ih
  obtain ⟨h1,h2,h3⟩:=h
  unfold putAt
  by_cases e:p.1=k
  · rw [if_pos e,if_pos (h1.symm.trans e)]; exact ⟨h1,h2,ry⟩
  · rw [if_neg e,if_neg (fun z=>e (h1.trans z))]; exact ⟨h1,h2,h3⟩
theorem KT.put {H:Hp} {kvs:List (List Key × V)} {xs:List (List Key × Addr × Value)} (r:KT H kvs xs) (k:List Key) {b:Addr} {y:V} {u:Value} (hb:H b=some (.tup (k.map kV))) (ry:RelV y u):
  KT H (putK kvs k y) (storedH xs k b u):=by
 have e:(kvs.any fun kv=>decide (kv.1=k))=(atKey xs k).isSome:=by
  rw [sD,(r.val k).isSome_eq,Option.isSome_map]
 unfold putK storedH
 rw [e]
 by_cases q:(atKey xs k).isSome=true
 · rw [if_pos q,if_pos q]; exact r.repl k ry
 · rw [if_neg q,if_neg q]; exact Paired.snoc r ⟨rfl,hb,ry⟩
theorem KT.keeps {H H':Hp} {kvs:List (List Key × V)} {xs:List (List Key × Addr × Value)} (r:KT H kvs xs) (ht:∀ b ys,H b=some (.tup ys)→H' b=some (.tup ys)):KT H' kvs xs:=
 Paired.mapP r fun _ _ z=>⟨z.1,ht _ _ z.2.1,z.2.2⟩
section
variable {P:Program} {w:World} {H:Hp} {h:Heap} {a:Addr}
theorem yC {u:HO} (ok:HOk P w H h) (e:Rd H a u):ObjOk P w H h a u:=e.ok ok
theorem nw {kvs:List (Key × V)} (ok:HOk P w H h) (e:Rd H a (.dK kvs)):kvs.length≤sizeLine∧(a==sysModules)=false∧∃ vs,KV kvs vs∧h.DictOf (cJ P w) a vs:=
 show ObjOk P w H h a (.dK kvs) from yC ok e
theorem Aq {kvs:List (Key × V)} (ok:HOk P w H h) (e:H a=some (.dK kvs)):kvs.length≤sizeLine∧(a==sysModules)=false∧∃ vs,KV kvs vs∧h.DictOf (cJ P w) a vs:=nw ok (.inl e)
theorem mC {ks:List Key} (ok:HOk P w H h) (e:H a=some (.tup (ks.map kV))):(tupleKind (cJ P w)).is h ks a:=by
 obtain ⟨_,its,r,o,h1,h2,n,h3⟩:=(show ObjOk P w H h a (.tup (ks.map kV)) from ok a _ e)
 exact ⟨o,its.toArray,n,h1,h2,h3,by simpa using rh r⟩
theorem px {kvs:List (List Key × V)} (ok:HOk P w H h) (e:Rd H a (.dT kvs)):kvs.length≤sizeLine∧(a==sysModules)=false∧
  ∃ xs,KT H kvs xs∧h.DictOfH (tupleKind (cJ P w)) a xs:=by
 obtain ⟨z,y,xs,r,o,es,ep,h1,h2,h3,h4,h5⟩:=(show ObjOk P w H h a (.dT kvs) from yC ok e)
 refine ⟨z,y,xs,r,o,es,ep,h1,h2,h3,h4,fun x hx=>?_,h5⟩
 have all:∀ {l:List (List Key × V)} {m:List (List Key × Addr × Value)},KT H l m→∀ x∈m,(tupleKind (cJ P w)).is h x.1 x.2.1:=by
  intro l m q
  induction q with
  | nil=>intro x hx; exact nomatch hx
  | @cons p q ps qs hq t ih=>
   intro x hx
   rcases List.mem_cons.mp hx with e | hx
   · subst e
     exact mC ok (by rw [← hq.1]; exact hq.2.1)
   · exact ih x hx
 exact all r x hx
theorem Ar {kvs:List (List Key × V)} (ok:HOk P w H h) (e:H a=some (.dT kvs)):kvs.length≤sizeLine∧(a==sysModules)=false∧
  ∃ xs,KT H kvs xs∧h.DictOfH (tupleKind (cJ P w)) a xs:=px ok (.inl e)
end
def DGet (H:Hp) (a:Addr) (y:V) (r:Option V):Prop:=
 (∃ kvs k,Rd H a (.dK kvs)∧y=kV k∧r=valV kvs k)∨∃ kvs k b,Rd H a (.dT kvs)∧y=.ref b∧H b=some (.tup (k.map kV))∧r=valV kvs k
def DPut (H:Hp) (a:Addr) (y v:V) (H':Hp):Prop:=
 (∃ kvs k,H a=some (.dK kvs)∧y=kV k∧kvs.length < sizeLine∧H'=upd H a (.dK (putK kvs k v)))∨
 ∃ kvs k b,H a=some (.dT kvs)∧y=.ref b∧H b=some (.tup (k.map kV))∧kvs.length < sizeLine∧H'=upd H a (.dT (putK kvs k v))
theorem DGet.k {H:Hp} {a:Addr} {kvs:List (Key × V)} {k:Key} (e:H a=some (.dK kvs)):DGet H a (kV k) (valV kvs k):=.inl ⟨kvs,k,.inl e,rfl,rfl⟩
section
variable {X:Cx} {pins:List (Addr × Obj)} {σ:St} {H:Hp} {s:Shared} {a:Addr} {y v:V} {u r:Value} {o:Option V} {A:Around} {E:Value→Shared→Prop}
theorem wN {Q:Value→Shared→Prop} (hu:A.units+1 < cLine) (I:Inv X pins σ H s) (g:DGet H a y (some v)) (ry:RelV y u) (h:∀ w' s',Inv X pins σ H s'→RelV v w'→Q w' s'):
  wpAny (model X.prog X.w) A (getItem (.ref a) u) Q E s:=by
 rcases g with ⟨kvs,k,e,ey,l⟩ | ⟨kvs,k,b,e,ey,eb,l⟩
 · subst ey
   obtain ⟨z,hd,vs,rel,dd⟩:=nw I.hok e
   obtain ⟨w',hw,rw'⟩:=RelO.some_of (v:=v) (o:=valueAt vs k) (by rw [l]; exact rel.val k)
   exact wpAny_getItem_of (pr ry) dd.mapOf hw (h w' _ (I.tok _) rw')
 · subst ey
   cases (show u=Value.ref b from ry)
   obtain ⟨z,hd,xs,rel,dd⟩:=px I.hok e
   obtain ⟨w',hw,rw'⟩:=RelO.some_of (v:=v) (o:=(atKey xs k).map (·.2)) (by rw [l]; exact rel.val k)
   obtain ⟨p,hp,hp2⟩:=Option.map_eq_some_iff.mp hw
   refine wpAny_getItem_heap (tupleKind_room_in1 hu) (mC I.hok eb) dd hp ?_
   rw [hp2]
   exact h w' _ (I.tok _) rw'
theorem AH {Q:Value→Shared→Prop} (hu:A.units+1 < cLine) (I:Inv X pins σ H s) (g:DGet H a y o) (ry:RelV y u) (h:∀ s',Inv X pins σ H s'→Q (.bool o.isSome) s'):
  wpAny (model X.prog X.w) A (compareOp .In u (.ref a)) Q E s:=by
 rcases g with ⟨kvs,k,e,ey,l⟩ | ⟨kvs,k,b,e,ey,eb,l⟩
 · subst ey
   obtain ⟨z,hd,vs,rel,dd⟩:=nw I.hok e
   refine wpAny_in_of (pr ry) hd dd.mapOf ?_
   rw [← (rel.val k).isSome_eq,← l]
   exact h _ (I.tok _)
 · subst ey
   cases (show u=Value.ref b from ry)
   obtain ⟨z,hd,xs,rel,dd⟩:=px I.hok e
   refine wpAny_in_heap (tupleKind_room_in1 hu) (mC I.hok eb) hd dd ?_
   have q:=(rel.val k).isSome_eq
   rw [Option.isSome_map] at q
   rw [← q,← l]
   exact h _ (I.tok _)
theorem yW {Q:Value→Shared→Prop} (hu:A.units+1 < cLine) (I:Inv X pins σ H s) (g:DGet H a y o) (ry:RelV y u) (h:∀ s',Inv X pins σ H s'→Q (.bool (!o.isSome)) s'):
  wpAny (model X.prog X.w) A (compareOp .NotIn u (.ref a)) Q E s:=by
 rcases g with ⟨kvs,k,e,ey,l⟩ | ⟨kvs,k,b,e,ey,eb,l⟩
 · subst ey
   obtain ⟨z,hd,vs,rel,dd⟩:=nw I.hok e
   refine wpAny_notIn_of (pr ry) hd dd.mapOf ?_
   rw [← (rel.val k).isSome_eq,← l]
   exact h _ (I.tok _)
 · subst ey
   cases (show u=Value.ref b from ry)
   obtain ⟨z,hd,xs,rel,dd⟩:=px I.hok e
   refine wpAny_notIn_heap (tupleKind_room_in1 hu) (mC I.hok eb) hd dd ?_
   have q:=(rel.val k).isSome_eq
   rw [Option.isSome_map] at q
   rw [← q,← l]
   exact h _ (I.tok _)
theorem u8 {h':Heap} {t':Nat} {ob:HO} (I:Inv X pins σ H s) (mu:Mut (H a)) (hs:Heap.SameBut a s.heap h') (he:∃ q,h'.get? a=some q) (new:ObjOk X.prog X.w (upd H a ob) h' a ob):
  Inv X pins σ (upd H a ob) { s with heap:=h',toks:=t' }:=
 I.write (x:=a) (e:=a) mu (.inl rfl) (fun b q hb z=>(hs.2 b hb).trans z) he new
theorem zL {P:Program} {w:World} {H':Hp} {h':Heap} {kvs:List (Key × V)} {vs:List (Key × Value)} (z:kvs.length≤sizeLine) (hd:(a==sysModules)=false) (rel:KV kvs vs) (dd:h'.DictOf (cJ P w) a vs):
  ObjOk P w H' h' a (.dK kvs):=⟨z,hd,vs,rel,dd⟩
theorem wO {H':Hp} {Q:Unit→Shared→Prop} (hu:A.units+1 < cLine) (I:Inv X pins σ H s) (g:DPut H a y v H') (ry:RelV y u) (rv:RelV v r) (h:∀ s',Inv X pins σ H' s'→Q () s'):
  wpAny (model X.prog X.w) A (setItem (.ref a) u r) Q E s:=by
 rcases g with ⟨kvs,k,e,ey,l,eH⟩ | ⟨kvs,k,b,e,ey,eb,l,eH⟩
 · subst ey eH
   obtain ⟨z,hd,vs,rel,dd⟩:=Aq I.hok e
   have hz:vs.length≤sizeLine:=by rw [← rel.length]; exact z
   have hl:(putK kvs k v).length≤sizeLine:=by have:=oi kvs k v; omega
   refine wpAny_setItem_pairs (hsz:=hz) (pr ry) dd fun h' dd' hs=>h _ ?_
   have he:∃ q,h'.get? a=some q:=let ⟨q,_,_,hq,_⟩:=dd'; ⟨q,hq⟩
   exact u8 I (by rw [e]; exact True.intro) hs he (zL hl hd (rel.put k rv) dd')
 · subst ey eH
   cases (show u=Value.ref b from ry)
   obtain ⟨z,hd,xs,rel,dd⟩:=Ar I.hok e
   have hz:xs.length≤sizeLine:=by rw [← Paired.length rel]; exact z
   have hl:(putK kvs k v).length≤sizeLine:=by have:=oi kvs k v; omega
   refine wpAny_setItem_heap (hsz:=hz) (tupleKind_room_in1 hu) (mC I.hok eb) dd fun h' dd' hs=>h _ ?_
   obtain ⟨q,es,ep,hq,h2,h3,h4,_,h5⟩:=dd'
   refine u8 I (by rw [e]; exact True.intro) hs ⟨q,hq⟩ ⟨hl,hd,_,(rel.put k eb rv).keeps fun c ys ec=>?_,q,es,ep,hq,h2,h3,h4,h5⟩
   rw [av (Aj ec e (fun z=>nomatch z))]
   exact ec
end
section
variable {X:Cx} {pins:List (Addr × Obj)} {σ:St} {H:Hp} {s:Shared} {a:Addr} {kvs:List (Key × V)} {k:Key} {u:Value} {A:Around} {E:Value→Shared→Prop}
theorem As {Q:Value→Shared→Prop} (I:Inv X pins σ H s) (e:Rd H a (.dK kvs)) (h:∀ t s',Inv X pins σ H s'→Q (.int kvs.length t) s'):wpAny (model X.prog X.w) A (call (.builtin "len") [.ref a]) Q E s:=by
 obtain ⟨z,hd,vs,rel,dd⟩:=nw I.hok e
 refine call_len_dict hd dd (by rw [← rel.length]; rw [sizeLine_eq] at z; omega) ?_
 rw [← rel.length]
 exact h _ _ (I.tok _)
end
theorem uo {X:Cx} {pins:List (Addr × Obj)} {σ:St} {H:Hp} {s:Shared} {a:Addr} {y:V} {o:Option V} (I:Inv X pins σ H s) (g:DGet H a y o):s.TypeIs (.ref a) "dict":=by
 rcases g with ⟨kvs,k,e,_,_⟩ | ⟨kvs,k,b,e,_,_,_⟩
 · obtain ⟨_,_,vs,_,dd⟩:=nw I.hok e
   exact dd.typeIs
 · obtain ⟨_,_,xs,_,dd⟩:=px I.hok e
   exact dd.typeIs
def sDPut (td ty tv:TE):TS:=fun D σ H=>tv σ H fun v H1=>td σ H1 fun x H2=>ty σ H2 fun y H3=>∃ a H4,x=.ref a∧DPut H3 a y v H4∧D.nx σ H4
def zM:TE:=fun _ H Q=>∀ p,H p=none→Q (.ref p) (upd H p (.dK []))
end L2
namespace L2
open PySem PySem.Spec PyProof.Rows
section
variable {X:Cx}
theorem wP:CallR X (.builtin "len") (fun xs H Q=>∃ a kvs,xs=[V.ref a]∧H a=some (.dK kvs)∧Q (.int kvs.length) H):=by
 intro pins s σ H xs us Q I r h
 obtain ⟨a,kvs,rfl,ha,q⟩:=h
 obtain ⟨u,rfl,ru⟩:=eJ r
 cases ru
 exact As I (.inl ha) fun t s' I'=>⟨.int kvs.length,H,I',⟨t,rfl⟩,q⟩
end
end L2
namespace L2
open PySem PySem.Spec PyProof.Rows
theorem cK {α:Type} (x:Str):∀ (a b:List (Str × α)),(a++b).lookup x=match a.lookup x with | some c=>some c | none=>b.lookup x
 | [],b=>rfl
 | (k,v)::r,b=>by
  rw [List.cons_append,List.lookup_cons,List.lookup_cons]
  cases x==k with
  | true=>rfl
  | false=>exact cK x r b
theorem jn:∀ (names:List (Str × NameKind)) (n:Nat) (acc cl:List (Str × Addr)),cellsFrom n names (acc++cl)=cellsFrom n names acc++cl
 | [],_,_,_=>rfl
 | (y,k)::r,n,acc,cl=>by
  unfold cellsFrom
  split
  · rw [← List.cons_append]; exact jn r _ _ cl
  · exact jn r _ _ cl
theorem gj {x:Str} {c:Addr}:∀ (names:List (Str × NameKind)) (n:Nat) (acc:List (Str × Addr)),(x,c)∈cellsFrom n names acc→(x,NameKind.cell)∈names∨(x,c)∈acc
 | [],_,_,h=>.inr h
 | (y,k)::r,n,acc,h=>by
  unfold cellsFrom at h
  split at h
  · rename_i hk
    have hk:k=.cell:=by simpa using hk
    subst hk
    rcases gj r _ _ h with z | z
    · exact .inl (List.mem_cons_of_mem _ z)
    · rcases List.mem_cons.mp z with z | z
      · cases z; exact .inl List.mem_cons_self
      · exact .inr z
  · rcases gj r _ _ h with z | z
    · exact .inl (List.mem_cons_of_mem _ z)
    · exact .inr z
theorem lq {env:Env} (f:Str × NameKind→List (Str × Addr)→Sem (ForInStep (List (Str × Addr))))
  (hf:∀ name kind cs,f (name,kind) cs=if kind==.free then (do let a ← cellOf env name; pure (.yield ((name,a)::cs))) else pure (.yield cs)):
  ∀ (names:List (Str × NameKind)) (acc:List (Str × Addr)),(∀ x,(x,NameKind.free)∈names→∃ c,env.cells.lookup x=some c)→(∀ x c,acc.lookup x=some c→env.cells.lookup x=some c)→
   ∃ cl,forIn names acc f=(pure cl:Sem _)∧(∀ x c,cl.lookup x=some c→env.cells.lookup x=some c)∧(∀ x,((x,NameKind.free)∈names∨∃ c,acc.lookup x=some c)→∃ c,cl.lookup x=some c)
 | [],acc,_,h2=>⟨acc,rfl,h2,fun x h=>h.elim (fun z=>nomatch z) id⟩
 | (y,k)::r,acc,h1,h2=>by
  rw [List.forIn_cons,hf]
  by_cases hk:(k==NameKind.free)=true
  · rw [if_pos hk]
    have hk':k=.free:=by simpa using hk
    subst hk'
    obtain ⟨c,hc⟩:=h1 y List.mem_cons_self
    have e:(cellOf env y:Sem Addr)=pure c:=by unfold cellOf; rw [hc]
    rw [e]
    obtain ⟨cl,e1,e2,e3⟩:=lq f hf r ((y,c)::acc) (fun x hx=>h1 x (List.mem_cons_of_mem _ hx)) (fun x c' hx=>by
     rw [List.lookup_cons] at hx
     cases hb:x==y with
     | true=>rw [hb] at hx; cases hx; rw [beq_iff_eq.mp hb]; exact hc
     | false=>rw [hb] at hx; exact h2 x c' hx)
    refine ⟨cl,?_,e2,fun x hx=>e3 x ?_⟩
    · exact e1
    · rcases hx with hx | ⟨c',hx⟩
      · rcases List.mem_cons.mp hx with z | z
        · cases z; exact .inr ⟨c,by rw [List.lookup_cons]; simp⟩
        · exact .inl z
      · cases hb:x==y with
        | true=>exact .inr ⟨c,by rw [List.lookup_cons,hb]⟩
        | false=>exact .inr ⟨c',by rw [List.lookup_cons,hb]; exact hx⟩
  · rw [if_neg hk]
    obtain ⟨cl,e1,e2,e3⟩:=lq f hf r acc (fun x hx=>h1 x (List.mem_cons_of_mem _ hx)) h2
    refine ⟨cl,e1,e2,fun x hx=>e3 x ?_⟩
    rcases hx with hx | hx
    · rcases List.mem_cons.mp hx with z | z
      · cases z; exact absurd rfl hk
      · exact .inl z
    · exact .inr hx
theorem vF {scope:Scope} {env:Env} (h:∀ x,(x,NameKind.free)∈scope.names→∃ c,env.cells.lookup x=some c):
  ∃ cl,closureFor scope env=pure cl∧(∀ x c,cl.lookup x=some c→env.cells.lookup x=some c)∧∀ x,(x,NameKind.free)∈scope.names→∃ c,cl.lookup x=some c:=by
 obtain ⟨cl,e1,e2,e3⟩:=lq (env:=env) (fun x cs=>match x with | (name,kind)=>if kind==.free then (do let a ← cellOf env name; pure (.yield ((name,a)::cs))) else pure (.yield cs)) (fun _ _ _=>rfl) scope.names [] h (fun x c hx=>nomatch hx)
 refine ⟨cl,?_,e2,fun x hx=>e3 x (.inl hx)⟩
 have:closureFor scope env=(forIn scope.names [] (fun x cs=>match x with | (name,kind)=>if kind==.free then (do let a ← cellOf env name; pure (.yield ((name,a)::cs))) else pure (.yield cs)) >>= fun cs=>pure cs):=by
  simp only [closureFor]
 rw [this,e1]
 rfl
def wQ (scope:Scope) (cl:List (Str × Addr)) (C:Addr) (env:Env):Env:=
 { newEnv scope C env.globals (cellsFrom (C+1) scope.names cl) env.qual none .none (some env) builtinsNs with scope:=relabel scope env }
theorem ya {M:Model} {A:Around} {E:Value→Shared→Prop} {s:Shared} {scope:Scope} {cl:List (Str × Addr)} {env:Env} {Q:Env→Shared→Prop}
  (hQ:Q (newEnv scope s.heap.objs.size env.globals (cellsFrom (s.heap.objs.size+1) scope.names cl) env.qual none .none (some env) builtinsNs) { s with heap:=pushCells (s.heap.push { cls:=.type "dict",data:=.dict #[] }) scope.names }):
  wpAny M A (newFunctionEnv scope env.globals cl [] env.qual none .none (some env)) Q E s:=by
 simp only [newFunctionEnv,Option.isSome_some,if_true]
 refine wpAny_bind (wpAny_alloc ?_)
 refine wpAny_bind (wpAny_layCells _ (fun name kind cells=>by cases hkc:kind==NameKind.cell <;> simp [hkc]) _ _ _ _ ?_)
 rw [show ({ s with heap:=s.heap.push { cls:=.type "dict",data:=.dict #[] } }:Shared).heap.objs.size=s.heap.objs.size+1 from Heap.size_push ..]
 refine wpAny_bind ?_
 rw [List.forIn_nil]
 exact wpAny_pure (wpAny_pure hQ)
section
variable {prog:Program} {w:World} {A:Around} {E:Value→Shared→Prop} {R:Result→Shared→Prop} {s:Shared}
theorem wR {elt target iter:Expr} {ifs:List Expr} {scope:Scope} {pos:Pos} {it acc:Value} {env:Env} (I:Nat→Shared→Prop)
  (turn:∀ n s,I n s→wpAny (model prog w) A (pyNext it) (fun r s₁=>match r with
   | none=>R (.ok .next) s₁
   | some v=>wpAny (model prog w) A (letOwnedTupleGo target it v) (fun _ s₁'=>wpAny (model prog w) A (assign target env v) (fun _ s₂=>
     wpAny (model prog w) A (forIn ifs true fun c r=>if r=true then do let ok ← isTrue c env (eval c env); pure (ForInStep.yield ok) else pure (ForInStep.yield r)) (fun ok s₃=>
      if ok=true then wpAny (model prog w) A (eval elt env) (fun x s₄=>
       wpAny (model prog w) A (call (.builtin "list.append") [acc,x]) (fun _ s₅=>∃ m,m < n∧I m s₅) (notedBy (model prog w) A env fun e s'=>R (.error e) s') s₄) (notedBy (model prog w) A env fun e s'=>R (.error e) s') s₃
      else ∃ m,m < n∧I m s₃) (notedBy (model prog w) A env fun e s'=>R (.error e) s') s₂) (notedBy (model prog w) A env fun e s'=>R (.error e) s') s₁') (notedBy (model prog w) A env fun e s'=>R (.error e) s') s₁) (notedBy (model prog w) A env fun e s'=>R (.error e) s') s)
  (n:Nat) (h:I n s):
  codeAny (model prog w) A (.compLoop (.ListComp elt [⟨target,iter,ifs,0⟩] scope pos) 0 it acc env) R s:=by
 refine codeAny_loop rfl I (fun n s hI=>?_) n h
 show wpAny _ A ((compTurn (.ListComp elt [⟨target,iter,ifs,0⟩] scope pos) 0 it acc env).onRaise (fun x=>do noteFrame x env; theTreesLotGoes x)) _ _ s
 refine wpAny_noted ?_
 rw [compTurn_list]
 refine wpAny_bind (wpAny_standAt (wpAny_bind (wpAny_mono (turn n s hI) (fun r s₁ h₁=>?_) fun _ _ h'=>h')))
 cases r with
 | none=>exact wpAny_pure h₁
 | some v=>
  refine wpAny_bind (wpAny_mono h₁ (fun _ s₁' h₁'=>?_) fun _ _ h'=>h')
  refine wpAny_bind (wpAny_mono h₁' (fun _ s₂ h₂=>wpAny_bind (wpAny_mono h₂ (fun ok s₃ h₃=>?_) fun _ _ h'=>h')) fun _ _ h'=>h')
  cases ok with
  | false=>exact wpAny_pure ⟨rfl,h₃⟩
  | true=>
   exact wpAny_bind (wpAny_bind (wpAny_mono h₃ (fun x s₄ h₄=>wpAny_bind (wpAny_mono h₄ (fun _ s₅ h₅=>wpAny_pure (wpAny_pure ⟨rfl,h₅⟩)) fun _ _ h'=>h')) fun _ _ h'=>h'))
end
end L2
namespace L2
open PySem PySem.Spec PyProof.Rows
theorem j3 {scope:Scope} {env:Env} {x:Str} {k:NameKind} (h:(relabel scope env).names.lookup x=some k):∃ k',scope.names.lookup x=some k'∧(k=k'∨(k'=.free∧k=.cell)):=by
 unfold relabel at h
 dsimp only at h
 generalize scope.names=names at h ⊢
 induction names with
 | nil=>cases h
 | cons p r ih=>
  obtain ⟨n,k0⟩:=p
  rw [List.map_cons] at h
  rw [List.lookup_cons]
  cases hb:x==n with
  | true=>
   refine ⟨k0,rfl,?_⟩
   dsimp only at h
   split at h
   · rename_i hc
     rw [List.lookup_cons,hb] at h
     cases h
     simp only [Bool.and_eq_true,beq_iff_eq] at hc
     exact .inr ⟨hc.1.1,rfl⟩
   · rw [List.lookup_cons,hb] at h
     cases h
     exact .inl rfl
  | false=>
   dsimp only at h
   refine ih ?_
   split at h
   · rw [List.lookup_cons,hb] at h; exact h
   · rw [List.lookup_cons,hb] at h; exact h
def blkCx (X:Cx) (N:List Str) (scope:Scope) (cl:List (Str × Addr)) (s:Shared) (H:Hp) (fp:List Addr):Cx where
 prog:=X.prog
 w:=X.w
 K:=X.K
 mg:=X.mg
 base:=X.base
 A:=X.A
 N:=N
 s₀:=s
 H₀:=H
 env:=wQ scope cl (s.heap.objs.size+1) X.env
 outer:=X.stack
 stack:=X.stack
 ex:=fp
 fn:=fun x=>scope.names.lookup x==some .cell
 calm:=X.calm
 pn:=[]
 xe:=fun e₀ s₁=>(∃ (pins:List (Addr × Obj)) (σ:St),Inv X pins σ H s∧∀ b∈fp,FpOk X pins H b)→notedBy (model X.prog X.w) X.A (wQ scope cl (s.heap.objs.size+1) X.env) (fun x s'=>∃ m,s'.heap.Ns (s.heap.objs.size+1) m∧∀ h',Heap.SameBut (s.heap.objs.size+1) s'.heap h'→∀ cenv:Env,cenv.locals=s.heap.objs.size+1→
  wpAny (model X.prog X.w) X.A (passOn "comprehension.variables-let-go" x cenv:Sem Value) (fun _ _=>False) X.xe { s' with heap:=h' }) e₀ s₁
def subσ (ix:List (Option Nat)) (σ:St):St:=ix.map fun o=>match o with | none=>none | some i=>match σ[i]? with | some v=>v | none=>none
structure BlkOk (X:Cx) (N:List Str) (ix:List (Option Nat)) (scope:Scope):Prop where
 kind:scope.kind=.function
 nd:N.Nodup
 len:ix.length=N.length
 names:(scope.names.map (·.1)).Nodup
 free:∀ x,(x,NameKind.free)∈scope.names→X.env.kindOf x=some .cell∨X.env.kindOf x=some .free
 at_:∀ (j i:Nat) (x:Str),N[j]? =some x→ix[j]? =some (some i)→X.N[i]? =some x∧(x,NameKind.free)∈scope.names
theorem d2 {α:Type}:∀ {l:List (Str × α)} {x:Str} {k:α},(l.map (·.1)).Nodup→(x,k)∈l→l.lookup x=some k
 | (y,k0)::r,x,k,nd,h=>by
  rw [List.map_cons,List.nodup_cons] at nd
  rw [List.lookup_cons]
  rcases List.mem_cons.mp h with e | e
  · cases e; simp
  · have:x≠y:=by
     rintro rfl
     exact nd.1 (List.mem_map.mpr ⟨(x,k),e,rfl⟩)
    have hb:(x==y)=false:=by simpa using this
    rw [hb]
    exact d2 nd.2 e
theorem wS {X:Cx} {pins:List (Addr × Obj)} {σ:St} {H:Hp} {s:Shared} {N:List Str} {ix:List (Option Nat)} {scope:Scope} {cl:List (Str × Addr)} {fp:List Addr} (B:BlkOk X N ix scope)
  (I:Inv X pins σ H s) (hcl:∀ x c,cl.lookup x=some c→X.env.cells.lookup x=some c) (hcf:∀ x,(x,NameKind.free)∈scope.names→∃ c,cl.lookup x=some c)
  (hfp:∀ b∈fp,FpOk X pins H b) (hob:∀ b∈fp,∃ o,s.heap.get? b=some o∧∀ v,o.data≠.cell v):
  Inv (blkCx X N scope cl s H fp) [] (subσ ix σ) (upd H s.heap.objs.size (.lst []))
   { s with heap:=pushCells ((s.heap.push { cls:=.type "list",data:=.seq #[] }).push { cls:=.type "dict",data:=.dict #[] }) scope.names }:=by
 have hs2:(s.heap.push { cls:=.type "list",data:=.seq #[] }).objs.size=s.heap.objs.size+1:=Heap.size_push ..
 have hs3:((s.heap.push { cls:=.type "list",data:=.seq #[] }).push { cls:=.type "dict",data:=.dict #[] }).objs.size=s.heap.objs.size+2:=by rw [Heap.size_push,hs2]
 have hk:∀ b o,s.heap.get? b=some o→(pushCells ((s.heap.push { cls:=.type "list",data:=.seq #[] }).push { cls:=.type "dict",data:=.dict #[] }) scope.names).get? b=some o:=
  fun b o e=>pushCells_keeps _ _ b o (Heap.get?_push_of_some _ (Heap.get?_push_of_some _ e))
 have hl:(pushCells ((s.heap.push { cls:=.type "list",data:=.seq #[] }).push { cls:=.type "dict",data:=.dict #[] }) scope.names).get? s.heap.objs.size=some { cls:=.type "list",data:=.seq #[] }:=
  pushCells_keeps _ _ _ _ (Heap.get?_push_of_some _ (Heap.get?_push_size _ rfl))
 have ok0:=cellsFrom_ok scope.names ((s.heap.push { cls:=.type "list",data:=.seq #[] }).push { cls:=.type "dict",data:=.dict #[] }) (s.heap.objs.size+2) [] ⟨fun _ _ hm=>(nomatch hm),List.Pairwise.nil⟩ (by rw [hs3]; exact Nat.le_refl _)
 rw [hs3] at ok0
 have hcells:(blkCx X N scope cl s H fp).env.cells=cellsFrom (s.heap.objs.size+2) scope.names []++cl:=by
  show cellsFrom (s.heap.objs.size+1+1) scope.names cl=_
  rw [← List.nil_append cl,jn]
  simp
 have cases_:∀ x c,(blkCx X N scope cl s H fp).env.cells.lookup x=some c→((x,c)∈cellsFrom (s.heap.objs.size+2) scope.names []∧(x,NameKind.cell)∈scope.names)∨((cellsFrom (s.heap.objs.size+2) scope.names []).lookup x=none∧cl.lookup x=some c):=fun x c e=>by
  rw [hcells,cK] at e
  cases q:(cellsFrom (s.heap.objs.size+2) scope.names []).lookup x with
  | none=>rw [q] at e; exact .inr ⟨rfl,e⟩
  | some c'=>
   rw [q] at e
   cases e
   have m:=PySem.mem_of_lookup q
   refine .inl ⟨m,?_⟩
   rcases gj _ _ _ m with z | z
   · exact z
   · exact nomatch z
 have oldc:∀ x c,cl.lookup x=some c→c < s.heap.objs.size:=fun x c e=>by
  obtain ⟨v,q⟩:=I.cell x c (hcl x c e)
  exact q.lt
 have hfree:H s.heap.objs.size=none:=I.hok.fresh (Nat.le_refl _)
 have hfix:∀ b,s.heap.objs.size < b→(upd H s.heap.objs.size (.lst [])) b=none:=fun b hb=>by
  rw [av (Nat.ne_of_gt hb)]
  exact I.hok.fresh (Nat.le_of_lt hb)
 have hlt:∀ b∈fp,b < s.heap.objs.size:=fun b hb=>by
  obtain ⟨o,e,_⟩:=hob b hb
  exact Heap.lt_size e
 have e0:=I.env0
 have isnew:∀ x c,(x,c)∈cellsFrom (s.heap.objs.size+2) scope.names []→s.heap.objs.size+2≤c:=fun x c m=>(ok0.empty x c m).2
 refine ⟨⟨I.ok.mod,B.kind,I.ok.glob,I.ok.blt,Nat.le_succ _,fun x y c e1 e2=>?_,fun x hx=>?_,fun x c hx e=>?_,I.ok.hd,I.ok.frames,.inl rfl,fun b hb=>⟨?_,fun x c e=>?_⟩,e0.bs,e0.bsz,fun b o e hb=>?_,fun b hb hb2=>?_,e0.funs,e0.frf⟩,
  rfl,I.bare,Un.laid hk (Nat.le_refl _) hfree,⟨fun _=>none,?_,fun j x v e1 e2 e3=>?_⟩,fun x c e=>?_,hfix _ (Nat.lt_succ_self _),fun x c e=>?_,fun p hp=>absurd (show p∈([]:List (Addr × Obj)) from hp) (by simp),?_,?_⟩
 · rcases cases_ x c e1 with ⟨m1,k1⟩ | ⟨n1,q1⟩ <;> rcases cases_ y c e2 with ⟨m2,k2⟩ | ⟨n2,q2⟩
   · exact name_of_addr ok0.apart m1 m2
   · exact absurd (Nat.lt_of_lt_of_le (oldc _ _ q2) (Nat.le_trans (Nat.le_add_right _ _) (isnew _ _ m1))) (Nat.lt_irrefl _)
   · exact absurd (Nat.lt_of_lt_of_le (oldc _ _ q1) (Nat.le_trans (Nat.le_add_right _ _) (isnew _ _ m2))) (Nat.lt_irrefl _)
   · exact I.ok.inj x y c (hcl _ _ q1) (hcl _ _ q2)
 · have hx':(relabel scope X.env).names.lookup x=some .cell∨(relabel scope X.env).names.lookup x=some .free:=hx
   have key:scope.names.lookup x=some .cell∨scope.names.lookup x=some .free:=by
    rcases hx' with z | z
    · obtain ⟨k',e,r | r⟩:=j3 z
      · rw [← r] at e; exact .inl e
      · rw [r.1] at e; exact .inr e
    · obtain ⟨k',e,r | r⟩:=j3 z
      · rw [← r] at e; exact .inr e
      · cases r.2
   rw [hcells]
   rcases key with z | z
   · obtain ⟨c,q⟩:=lp (n:=s.heap.objs.size+2) z
     exact ⟨c,by rw [cK,q]⟩
   · obtain ⟨c,q⟩:=hcf x (PySem.mem_of_lookup z)
     cases q2:(cellsFrom (s.heap.objs.size+2) scope.names []).lookup x with
     | none=>exact ⟨c,by rw [cK,q2]; exact q⟩
     | some c'=>exact ⟨c',by rw [cK,q2]⟩
 · have hx':scope.names.lookup x=some .cell:=by simpa [blkCx] using hx
   rcases cases_ x c e with ⟨m1,k1⟩ | ⟨n1,q1⟩
   · exact Nat.le_trans (Nat.le_add_right _ _) (isnew _ _ m1)
   · obtain ⟨c',q⟩:=lp (n:=s.heap.objs.size+2) hx'
     rw [q] at n1; cases n1
 · exact Nat.ne_of_lt (Nat.lt_succ_of_lt (hlt b hb))
 · rcases cases_ x c e with ⟨m1,k1⟩ | ⟨n1,q1⟩
   · exact Nat.ne_of_gt (Nat.lt_of_lt_of_le (hlt b hb) (Nat.le_trans (Nat.le_add_right _ _) (isnew _ _ m1)))
   · exact (hfp b hb).2.2.2.2.1 x c (hcl _ _ q1)
 · rcases (hfp b hb).2.2.2.1 with z | z
   · exact I.ok.noex b o e z
   · exact absurd (Nat.lt_of_lt_of_le (Heap.lt_size e) (Nat.le_trans I.ok.bsz z)) (Nat.lt_irrefl _)
 · rcases List.mem_cons.mp (I.stkSub b hb2) with z | z
   · exact (hfp b hb).2.1 z
   · exact (hfp b hb).2.2.1 z
 · show Heap.Ns _ (s.heap.objs.size+1) _
   rw [← hs2]
   exact (Heap.Ns.new _ (.type "dict")).keeps (pushCells_keeps _ _)
 ·
   unfold subσ at e2
   rw [List.getElem?_map] at e2
   cases q:ix[j]? with
   | none=>rw [q] at e2; cases e2
   | some o=>
    rw [q] at e2
    cases o with
    | none=>cases e2
    | some i=>
     simp only [Option.map_some,Option.some.injEq] at e2
     obtain ⟨hN,hm⟩:=B.at_ j i x e1 q
     have hσ:σ[i]? =some (some v):=by
      cases q2:σ[i]? with
      | none=>rw [q2] at e2; cases e2
      | some z=>rw [q2] at e2; exact congrArg some e2
     obtain ⟨m,hn,hl'⟩:=I.loc
     have hkind:=B.free x hm
     have hvis:Vis X.env.scope x:=hkind.elim (fun z=>.inr (.inl z)) fun z=>.inr (.inr z)
     obtain ⟨u,ru,lk⟩:=hl' i x v hN hσ hvis
     refine ⟨u,ru,?_⟩
     obtain ⟨c,hc⟩:=hcf x hm
     have hnone:(cellsFrom (s.heap.objs.size+2) scope.names []).lookup x=none:=by
      cases q2:(cellsFrom (s.heap.objs.size+2) scope.names []).lookup x with
      | none=>rfl
      | some c'=>
       rcases gj _ _ _ (PySem.mem_of_lookup q2) with z | z
       · have a1:=d2 B.names z
         have a2:=d2 B.names hm
         rw [a1] at a2; cases a2
       · exact nomatch z
     have hcell:(blkCx X N scope cl s H fp).env.cells.lookup x=some c:=by rw [hcells,cK,hnone]; exact hc
     have hkk:(blkCx X N scope cl s H fp).env.kindOf x=some .cell∨(blkCx X N scope cl s H fp).env.kindOf x=some .free:=by
      rcases e3 with z | z | z
      · obtain ⟨k',e,r | r⟩:=j3 (show (relabel scope X.env).names.lookup x=some .local from z)
        · rw [d2 B.names hm] at e; cases e; cases r
        · cases r.2
      · exact .inl z
      · exact .inr z
     refine .inr ⟨hkk,c,hcell,?_⟩
     rcases lk with ⟨k1,_⟩ | ⟨_,c2,e4,z⟩
     · rcases hkind with z | z <;> rw [k1] at z <;> cases z
     · rw [hcl x c hc] at e4; cases e4
       exact z.keeps hk
 · rcases cases_ x c e with ⟨m1,k1⟩ | ⟨n1,q1⟩
   · exact ⟨none,(ok0.empty x c m1).1⟩
   · obtain ⟨v,z⟩:=I.cell x c (hcl _ _ q1)
     exact ⟨v,z.keeps hk⟩
 · rcases cases_ x c e with ⟨m1,k1⟩ | ⟨n1,q1⟩
   · exact hfix c (Nat.lt_of_lt_of_le (Nat.lt_add_of_pos_right (by decide)) (isnew _ _ m1))
   · rw [av (Nat.ne_of_lt (oldc _ _ q1))]
     exact I.freeC x c (hcl _ _ q1)
 · exact I.hok.laid hk (Nat.le_refl _) ⟨Nat.zero_le _,[],0,.nil,hl⟩
 · show (subσ ix σ).length=N.length
   unfold subσ
   rw [List.length_map]
   exact B.len
end L2
namespace L2
open PySem PySem.Spec PyProof.Rows
def PTs (X:Cx) (ifs:List Expr) (t:TT):Prop:=
 ∀ (pins:List (Addr × Obj)) (s:Shared) (σ:St) (H:Hp) (Q:Bool→Hp→Prop),Inv X pins σ H s→t σ H Q→
  wpAny (model X.prog X.w) X.A (forIn ifs true fun c r=>if r=true then do let ok ← isTrue c X.env (eval c X.env); pure (ForInStep.yield ok) else pure (ForInStep.yield r)) (TP X pins σ Q) X.xe s
def tTrue:TT:=fun _ H Q=>Q true H
theorem dq {X:Cx}:PTs X [] tTrue:=fun _ _ _ H _ I h=>wpAny_tests_nil ⟨H,I,h⟩
theorem cm {X:Cx} {c:Expr} {t:TT} (h:PT X c t):PTs X [c] t:=fun pins s σ H Q I q=>wpAny_tests_one (h pins s σ H Q I q)
def sE (ix:List (Option Nat)) (wi:TI) (g:TG) (tt:TT) (te:TE) (fin:Addr→Hp→Prop):St→Hp→Prop:=fun σ H=>wi σ H fun J H1=>∀ l,H1 l=none→
 ∃ W:Nat→Nat→St→Hp→Prop,(∃ m,W 0 m (subσ ix σ) (upd H1 l (.lst [])))∧∀ i m σ' H',W i m σ' H'→
  (J.stop i H'∧fin l H')∨(J.go i H'∧∃ N:St→Hp→Prop,(∀ σ'' H'',N σ'' H''→∃ m',m' < m∧W (i+1) m' σ'' H'')∧∀ x H2,J.yld i H' x H2→g x σ' H2 fun σ2 H3=>tt σ2 H3 fun b H4=>
   if b=true then te σ2 H4 fun y H5=>∃ ys,H5 l=some (.lst ys)∧ys.length < sizeLine∧N σ2 (upd H5 l (.lst (ys++[y]))) else N σ2 H4)
section
variable {X:Cx} {pins:List (Addr × Obj)} {σ σ':St} {H H':Hp} {s s':Shared} {N:List Str} {scope:Scope} {cl:List (Str × Addr)} {fp:List Addr}
theorem va {h':Heap} (I:Inv X pins σ H s) (J:Inv (blkCx X N scope cl s H fp) [] σ' H' s') (hfp:∀ b∈fp,FpOk X pins H b) (sb:Heap.SameBut (s.heap.objs.size+1) s'.heap h'):Inv X pins σ H' { s' with heap:=h' }:=by
 have u:Un (frs X.stack) fp H H' s.heap s'.heap:=J.base
 have hC:H' (s.heap.objs.size+1)=none:=J.free
 have ne:∀ b o,s.heap.get? b=some o→b≠s.heap.objs.size+1:=fun b o e=>Nat.ne_of_lt (Nat.lt_succ_of_lt (Heap.lt_size e))
 refine I.call' (s':={ s' with heap:=h' }) (ch:=fp) J.os ⟨fun b o e n hb hx=>?_,fun b o e n hb hx=>?_,u.free,fun b o e hx=>?_,u.tups,u.frzs,u.tbls⟩ (fun b ob e=>?_) J.bare fun b hb=>?_
 · exact (sb.2 b (ne b o e)).trans (u.keep b o e n hb hx)
 · obtain ⟨sl,q⟩:=u.slot b o e n hb hx
   exact ⟨sl,(sb.2 b (ne b o e)).trans q⟩
 · obtain ⟨o',q⟩:=u.there b o e hx
   exact ⟨o',(sb.2 b (ne b o e)).trans q⟩
 · refine (J.hok b ob e).stay (fun c w' hc q=>(sb.2 c ?_).trans q) (fun _ q=>q) fun _ _ q=>q
   rintro rfl
   rcases hc with rfl | hc
   · rw [hC] at e; cases e
   · rw [hC] at hc; cases hc
 · obtain ⟨f0,f1,f2,f3,f4,f5⟩:=hfp b hb
   exact ⟨f3,f1,f4,f5⟩
theorem sF {tg iter elt:Expr} {ifs:List Expr} {pos:Pos} {ix:List (Option Nat)} {wi:TI} {g:TG} {tt:TT} {te:TE} {fin:Addr→Hp→Prop} {RR:Value→Addr→Result→Shared→Prop} (B:BlkOk X N ix scope) (hc:X.calm=true)
  (hi:PI X tg iter wi) (hg:∀ cl s H fp,PG (blkCx X N scope cl s H fp) tg g) (ht:∀ cl s H fp,PTs (blkCx X N scope cl s H fp) ifs tt) (he:∀ cl s H fp,PE (blkCx X N scope cl s H fp) elt te)
  (hcl:∀ x c,cl.lookup x=some c→X.env.cells.lookup x=some c) (hcf:∀ x,(x,NameKind.free)∈scope.names→∃ c,cl.lookup x=some c)
  (I:Inv X pins σ H s) (h:sE ix wi g tt te fin σ H)
  (ok:∀ (s2:Shared) (H2:Hp) (fp:List Addr) (σ3:St) (H3:Hp) (s3:Shared),Inv X pins σ H2 s2→(∀ b∈fp,FpOk X pins H2 b)→Inv (blkCx X N scope cl s2 H2 fp) [] σ3 H3 s3→fin s2.heap.objs.size H3→RR (.ref s2.heap.objs.size) (s2.heap.objs.size+1) (.ok .next) s3)
  (bad:∀ (a C:Addr) (x:Value) (s':Shared),(∃ m,s'.heap.Ns C m∧∀ h',Heap.SameBut C s'.heap h'→∀ cenv:Env,cenv.locals=C→wpAny (model X.prog X.w) X.A (passOn "comprehension.variables-let-go" x cenv:Sem Value) (fun _ _=>False) X.xe { s' with heap:=h' })→RR (.ref a) C (.error x) s'):
  wpAny (model X.prog X.w) X.A (eval iter X.env) (fun x s₁=>wpAny (model X.prog X.w) X.A (pyIter x) (fun it s₂=>wpAny (model X.prog X.w) X.A (newList []) (fun acc s₃=>
   wpAny (model X.prog X.w) X.A (newFunctionEnv scope X.env.globals cl [] X.env.qual none .none (some X.env)) (fun cenv s₄=>
    codeAny (model X.prog X.w) X.A (.compStart (.ListComp elt [⟨tg,iter,ifs,0⟩] scope pos) 0 it acc { cenv with scope:=relabel scope X.env }) (RR acc cenv.locals) s₄) X.xe s₃) X.xe s₂) X.xe s₁) X.xe s:=by
 refine thn (hi pins s σ H _ I h) fun v s1 h1=>thn h1 fun itv s2 h2=>?_
 obtain ⟨it,fp,tn,J,H2,e,I2,T,st2,f2,h2⟩:=h2
 subst e
 refine wpAny_newList (ya ?_) (Nat.zero_le _)
 have hs2:(s2.heap.push { cls:=.type "list",data:=.seq (([]:List Value)).toArray }).objs.size=s2.heap.objs.size+1:=Heap.size_push ..
 dsimp only
 rw [hs2]
 have I3:=wS (fp:=fp) B I2 hcl hcf f2 (T.obj _ _ st2)
 obtain ⟨W,⟨m0,w0⟩,turn⟩:=h2 s2.heap.objs.size I2.fresh
 have hk:∀ b o,s2.heap.get? b=some o→(pushCells ((s2.heap.push { cls:=.type "list",data:=.seq #[] }).push { cls:=.type "dict",data:=.dict #[] }) scope.names).get? b=some o:=
  fun b o e=>pushCells_keeps _ _ b o (Heap.get?_push_of_some _ (Heap.get?_push_of_some _ e))
 have st3:=T.keep _ _ _ st2 fun b _ o e=>hk b o e
 have fr3:∀ b∈fp,(upd H2 s2.heap.objs.size (.lst [])) b=none:=fun b hb=>by
  obtain ⟨o,e,_⟩:=T.obj _ _ st2 b hb
  rw [av (Nat.ne_of_lt (Heap.lt_size e))]
  exact (f2 b hb).1
 have stat:∀ {σ5:St} {H5:Hp} {s5:Shared},Inv (blkCx X N scope cl s2 H2 fp) [] σ5 H5 s5→(∀ b∈fp,H5 b=none)→∀ b∈fp,FpOk (blkCx X N scope cl s2 H2 fp) [] H5 b:=fun I5 hn b hb=>
  ⟨hn b hb,(I5.ok.exf b hb).1,I5.ok.exfs b hb,.inl hb,(I5.ok.exf b hb).2,fun p hp=>absurd (show p∈([]:List (Addr × Obj)) from hp) (by simp)⟩
 have loop:∀ s₃:Shared,s₃={ s2 with heap:=pushCells ((s2.heap.push { cls:=.type "list",data:=.seq #[] }).push { cls:=.type "dict",data:=.dict #[] }) scope.names }→
   codeAny (model X.prog X.w) X.A (.compLoop (.ListComp elt [⟨tg,iter,ifs,0⟩] scope pos) 0 (.ref it) (.ref s2.heap.objs.size) (blkCx X N scope cl s2 H2 fp).env) (RR (.ref s2.heap.objs.size) (s2.heap.objs.size+1)) s₃:=by
  rintro s₃ rfl
  refine wR (fun n s'=>∃ i σ' H',Inv (blkCx X N scope cl s2 H2 fp) [] σ' H' s'∧tn i s'.heap∧(∀ b∈fp,H' b=none)∧W i n σ' H') ?_ m0 ⟨0,_,_,I3,st3,fr3,w0⟩
  rintro n s4 ⟨i,σ4,H4,I4,st4,fr4,w4⟩
  have xe_:∀ x s',(blkCx X N scope cl s2 H2 fp).xe x s'→notedBy (model X.prog X.w) X.A (blkCx X N scope cl s2 H2 fp).env (fun e s'=>RR (.ref s2.heap.objs.size) (s2.heap.objs.size+1) (.error e) s') x s':=fun x s' hx=>
   wpAny_mono (hx ⟨pins,σ,I2,f2⟩) (fun _ s'' q=>bad _ _ _ _ q) fun e s'' q=>bad _ _ _ _ q
  rcases turn i n σ4 H4 w4 with ⟨stop,qn⟩ | ⟨go,Nx,hN,step⟩
  · refine wpAny_mono (T.done (blkCx X N scope cl s2 H2 fp) rfl rfl rfl hc i [] s4 σ4 H4 _ I4 (stat I4 fr4) st4 stop) (fun r s5 ⟨hr,I5⟩=>?_) xe_
    subst hr
    exact ok s2 H2 fp σ4 H4 s5 I2 f2 I5 qn
  · refine wpAny_mono (T.item (blkCx X N scope cl s2 H2 fp) rfl rfl rfl hc i [] s4 σ4 H4 _ I4 (stat I4 fr4) st4 go) (fun r s5 ⟨u,hr,h5⟩=>?_) xe_
    subst hr
    refine wpAny_mono h5 (fun _ s6 ⟨x,H6,I6,r6,y6,st6,fr6⟩=>?_) xe_
    have I6':=I6.pinned (stat I6 fr6) (T.obj _ _ st6)
    refine wpAny_mono (hg cl s2 H2 fp _ s6 σ4 H6 x u _ I6' r6 (step x H6 y6)) (fun _ s7 ⟨σ7,H7,I7,q7⟩=>?_) xe_
    have again:∀ {σ8:St} {H8:Hp} {s8:Shared},Inv (blkCx X N scope cl s2 H2 fp) ([]++mq fp s6.heap) σ8 H8 s8→Nx σ8 H8→∃ m,m < n∧∃ i σ' H',Inv (blkCx X N scope cl s2 H2 fp) [] σ' H' s8∧tn i s8.heap∧(∀ b∈fp,H' b=none)∧W i m σ' H':=fun {σ8 H8 s8} I8 n8=>by
     obtain ⟨m',hm,w8⟩:=hN σ8 H8 n8
     refine ⟨m',hm,i+1,σ8,H8,I8.unpinned,T.keep _ _ _ st6 fun b hb o e=>(I8.pin (b,o) (List.mem_append_right _ (List.mem_append_right _ (jp hb e)))).1,fun b hb=>?_,w8⟩
     obtain ⟨o,e,d⟩:=T.obj _ _ st6 b hb
     exact (I8.pin (b,o) (List.mem_append_right _ (List.mem_append_right _ (jp hb e)))).2.1
    refine wpAny_mono (ht cl s2 H2 fp _ s7 σ7 H7 _ I7 q7) (fun okb s8 ⟨H8,I8,q8⟩=>?_) xe_
    cases okb with
    | false=>exact again I8 q8
    | true=>
     refine wpAny_mono (he cl s2 H2 fp _ s8 σ7 H8 _ I8 q8) (fun y s9 ⟨yv,H9,I9,r9,ys,hl,hz,q9⟩=>?_) xe_
     refine wpAny_mono (rg (X:=blkCx X N scope cl s2 H2 fp) _ s9 σ7 H9 (.ref s2.heap.objs.size) [yv] (.ref s2.heap.objs.size) [y] (fun _ H10=>Nx σ7 H10) I9 rfl (.cons r9 .nil) ⟨_,ys,yv,rfl,rfl,hl,hz,q9⟩) (fun _ s10 ⟨_,H10,I10,_,q10⟩=>?_) xe_
     exact again I10 q10
 exact codeAny_compStart_list (loop _ rfl) (T.self _ 0 _ _ _ st3 (loop _ rfl))
def tComp (ix:List (Option Nat)) (wi:TI) (g:TG) (tt:TT) (te:TE):TE:=fun σ H Q=>sE ix wi g tt te (fun l H'=>Q (.ref l) H') σ H
def sComp (k:Nat) (ix:List (Option Nat)) (wi:TI) (g:TG) (tt:TT) (te:TE):TS:=fun D σ H=>sE ix wi g tt te (fun l H'=>D.nx (σ.set k (some (.ref l))) H') σ H
theorem vb (I:Inv X pins σ H s) {ix:List (Option Nat)} (B:BlkOk X N ix scope):∃ cl,closureFor scope X.env=pure cl∧(∀ x c,cl.lookup x=some c→X.env.cells.lookup x=some c)∧∀ x,(x,NameKind.free)∈scope.names→∃ c,cl.lookup x=some c:=
 vF fun x hx=>I.ok.has x (B.free x hx)
theorem oj {ix:List (Option Nat)} (B:BlkOk X N ix scope):∀ x∈scope.names,x.2=NameKind.local→scope.names.lookup x.1=some .local:=fun x hx e=>by
 obtain ⟨n,k⟩:=x
 cases e
 exact d2 B.names hx
theorem bD {tg iter elt:Expr} {ifs:List Expr} {pos:Pos} {ix:List (Option Nat)} {wi:TI} {g:TG} {tt:TT} {te:TE} (N:List Str) (B:BlkOk X N ix scope) (hc:X.calm=true)
  (hi:PI X tg iter wi) (hg:∀ cl s H fp,PG (blkCx X N scope cl s H fp) tg g) (ht:∀ cl s H fp,PTs (blkCx X N scope cl s H fp) ifs tt) (he:∀ cl s H fp,PE (blkCx X N scope cl s H fp) elt te)
  (hs:∀ x,foldedSetIterable iter X.env x=pure x:=by intro _; rfl):PE X (.ListComp elt [⟨tg,iter,ifs,0⟩] scope pos) (tComp ix wi g tt te):=by
 intro pins s σ H Q I h
 obtain ⟨cl,e1,e2,e3⟩:=vb I B
 rw [eval_ListComp]
 refine wpAny_comprehension_free (use:=none) rfl hs e1 B.kind (oj B) ?_
 refine sF (RR:=fun acc C=>compPost (model X.prog X.w) X.A X.xe none (EP X pins σ Q) acc C) B hc hi hg ht he e2 e3 I h (fun s2 H2 fp σ3 H3 s3 I2 f2 J q=>?_) (fun a C x s' q=>q)
 obtain ⟨m,hn,_⟩:=J.loc
 exact ⟨m,hn,fun h' sb=>⟨.ref _,H3,va I2 J f2 sb,rfl,q⟩⟩
theorem iD {y:Str} {py spos:Pos} {k:Nat} {tg iter elt:Expr} {ifs:List Expr} {pos:Pos} {ix:List (Option Nat)} {wi:TI} {g:TG} {tt:TT} {te:TE} (hN:X.N.Nodup) (hy:X.N[k]? =some y) (hx:Loc X.env.scope y)
  (hsw:swapsWith (.ListComp elt [⟨tg,iter,ifs,0⟩] scope pos) (some (.Name y py)) spos.line X.env=pure true) (N:List Str) (B:BlkOk X N ix scope) (hc:X.calm=true)
  (hi:PI X tg iter wi) (hg:∀ cl s H fp,PG (blkCx X N scope cl s H fp) tg g) (ht:∀ cl s H fp,PTs (blkCx X N scope cl s H fp) ifs tt) (he:∀ cl s H fp,PE (blkCx X N scope cl s H fp) elt te)
  (hs:∀ x,foldedSetIterable iter X.env x=pure x:=by intro _; rfl) (hf:X.fn y=true∨X.env.scope.names.lookup y=some .local:=by first | exact .inl rfl | exact .inr rfl | assumption):
  PS X (.Assign [.Name y py] (.ListComp elt [⟨tg,iter,ifs,0⟩] scope pos) spos) (sComp k ix wi g tt te):=by
 intro pins s σ H D I h
 obtain ⟨cl,e1,e2,e3⟩:=vb I B
 rw [exec_Assign_Name_used _ _ _ _ hsw]
 refine wpAny_bind (wpAny_standAt (wpAny_bind ?_))
 show wpAny _ X.A (do let _ ← comprehension (.ListComp elt [⟨tg,iter,ifs,0⟩] scope pos) scope X.env _ (newList []) false (eval iter X.env) (some (assign (.Name y py) X.env))) _ _ s
 refine wpAny_bind (wpAny_mono (wpAny_comprehension_free (use:=some (assign (.Name y py) X.env)) (Q:=fun _ s'=>SP X pins D .next s') rfl hs e1 B.kind (oj B) ?_) (fun _ s' hq=>wpAny_pure (wpAny_pure hq)) fun _ _ e=>e)
 refine sF (RR:=fun acc C=>compPost (model X.prog X.w) X.A X.xe (some (assign (.Name y py) X.env)) (fun _ s'=>SP X pins D .next s') acc C) B hc hi hg ht he e2 e3 I h (fun s2 H2 fp σ3 H3 s3 I2 f2 J q=>?_) (fun a C x s' q=>q)
 obtain ⟨m,hn,_⟩:=J.loc
 have I3:Inv X pins σ H3 { s3 with heap:=s3.heap }:=va I2 J f2 (Heap.SameBut.refl _ _)
 show wpAny _ X.A (assign (.Name y py) X.env (.ref _)) _ _ _
 refine wpAny_assign_Name (qY (v:=.ref _) I3 hN hy hx rfl (fun s4 I4 ⟨a,sb4,ha⟩=>?_) hf)
 have hlt:a < s2.heap.objs.size:=by
  rcases ha with rfl | ha
  · exact I2.lt
  · obtain ⟨v,z⟩:=I2.cell _ _ ha
    exact z.lt
 have hCa:s2.heap.objs.size+1≠a:=Nat.ne_of_gt (Nat.lt_succ_of_lt hlt)
 refine ⟨m,hn.sameBut sb4 hCa,fun h' sb=>?_⟩
 refine ⟨_,H3,I4.turned (t':=s4.toks) (it:=s2.heap.objs.size+1) (fun b o hb e=>(sb.2 b hb).trans e) J.free (Nat.ne_of_gt (Nat.lt_succ_of_lt I2.lt)) (.inr (Nat.le_trans I2.sz (Nat.le_succ _))) (fun x c e=>?_) (fun p hp=>?_),q⟩
 · obtain ⟨v,z⟩:=I2.cell x c e
   exact Nat.ne_of_lt (Nat.lt_succ_of_lt z.lt)
 · exact Nat.ne_of_lt (Nat.lt_succ_of_lt (Heap.lt_size (I2.pin p hp).1))
end
end L2
namespace L2
open PySem PySem.Spec PyProof.Rows
def bnd {α:Type}:Option α→(α→Prop)→Prop
 | some a,k=>k a
 | none,_=>False
theorem be {α:Type} {o:Option α} {a:α} {k:α→Prop} (h:o=some a) (q:k a):bnd o k:=by subst h; exact q
theorem bm {α:Type} {o:Option α} {k:α→Prop} (h:bnd o k):∃ a,o=some a∧k a:=by
 cases o with
 | none=>exact h.elim
 | some a=>exact ⟨a,rfl,h⟩
theorem dc {α:Type} {a:α} {k:α→Prop}:bnd (some a) k=k a:=rfl
def unM:Option HO→Option (List V)
 | some (.lst xs)=>some xs
 | _=>none
def unL:Option HO→Option (List V)
 | some (.lst xs)=>some xs
 | some (.frz _ (.lst xs))=>some xs
 | _=>none
def unS:Option HO→Option (List V)
 | some (.lst xs)=>some xs
 | some (.frz _ (.lst xs))=>some xs
 | some (.tup xs)=>some xs
 | _=>none
theorem j4 {o:Option HO} {xs:List V} (h:unM o=some xs):o=some (.lst xs):=by
 unfold unM at h; split at h
 · cases h; rfl
 · cases h
theorem sG {K:PySem.W.Frag} {H:Hp} {p:Addr} {xs:List V} (h:unL (H p)=some xs):SqL K H p xs:=by
 unfold unL at h; split at h
 · rename_i e; cases h; exact .inl (.inl e)
 · rename_i o _ e; cases h; exact .inl (.inr ⟨_,e⟩)
 · cases h
theorem kT {K:PySem.W.Frag} {H:Hp} {p:Addr} {xs:List V} (h:unS (H p)=some xs):SqL K H p xs∨SqT K H p xs:=by
 unfold unS at h; split at h
 · rename_i e; cases h; exact .inl (.inl (.inl e))
 · rename_i o _ e; cases h; exact .inl (.inl (.inr ⟨_,e⟩))
 · rename_i e; cases h; exact .inr (.inl (.inl e))
 · cases h
mutual
inductive DV (K:PySem.W.Frag) (H:Hp):V→PyData→Prop
 | non:DV K H .non .none
 | bl (b:Bool):DV K H (.bl b) (.bool b)
 | int (i:Int):DV K H (.int i) (.int i)
 | str (x:Str):DV K H (.str x) (.str x)
 | lst {a:Addr} {xs:List V} {ds:List PyData}:SqL K H a xs→DVs K H xs ds→DV K H (.ref a) (.list ds)
 | tup {a:Addr} {xs:List V} {ds:List PyData}:SqT K H a xs→DVs K H xs ds→DV K H (.ref a) (.tuple ds)
inductive DVs (K:PySem.W.Frag) (H:Hp):List V→List PyData→Prop
 | nil:DVs K H [] []
 | cons {x:V} {d:PyData} {xs:List V} {ds:List PyData}:DV K H x d→DVs K H xs ds→DVs K H (x::xs) (d::ds)
end
section
variable {X:Cx} {pins:List (Addr × Obj)} {σ:St} {H:Hp} {s:Shared}
mutual
theorem DV.reads (I:Inv X pins σ H s):∀ {x:V} {d:PyData} {v:Value},DV X.K H x d→RelV x v→∃ as,Reads s.heap v d as
 | _,_,_,.non,r=>by cases r; exact ⟨_,.none⟩
 | _,_,_,.bl b,r=>by cases r; exact ⟨_,.bool b⟩
 | _,_,_,.int i,r=>by obtain ⟨t,rfl⟩:=r; exact ⟨_,.int i t⟩
 | _,_,_,.str x,r=>by obtain ⟨t,rfl⟩:=r; exact ⟨_,.str x t⟩
 | _,_,_,.lst (a:=a) h hs,r=>by
  cases r
  obtain ⟨its,rv,p,_⟩:=I.list h
  obtain ⟨as,q⟩:=DVs.reads I hs rv
  obtain ⟨o,h1,h2,n,h3⟩:=p.isList
  exact ⟨_,.list h1 h2 h3 q⟩
 | _,_,_,.tup (a:=a) h hs,r=>by
  cases r
  obtain ⟨its,rv,p,_⟩:=I.tuple h
  obtain ⟨as,q⟩:=DVs.reads I hs rv
  obtain ⟨o,h1,h2,n,h3⟩:=p
  exact ⟨_,.tuple h1 h2 h3 q⟩
theorem DVs.reads (I:Inv X pins σ H s):∀ {xs:List V} {ds:List PyData} {us:List Value},DVs X.K H xs ds→Vals xs us→∃ as,ReadsAll s.heap us ds as
 | _,_,_,.nil,.nil=>⟨_,.nil⟩
 | _,_,_,.cons h hs,.cons r rs=>by
  obtain ⟨as,q⟩:=DV.reads I h r
  obtain ⟨bs,q2⟩:=DVs.reads I hs rs
  exact ⟨_,.cons q q2⟩
end
end
theorem DVs.ints {K:PySem.W.Frag} {H:Hp}:∀ ns:List Int,DVs K H (ns.map V.int) (ns.map PyData.int)
 | []=>.nil
 | n::r=>.cons (.int n) (DVs.ints r)
theorem sH:∀ ns ms:List Int,PyData.eqvAll (ns.map PyData.int) (ms.map PyData.int)=decide (ns=ms):=PySem.W.ked_eqvAll
theorem ox:∀ ns:List Int,PyData.canLayAll0 (ns.map PyData.int)=true
 | []=>rfl
 | n::r=>by rw [List.map_cons,PyData.canLayAll0,ox r]; rfl
theorem lr:∀ ns:List Int,PyData.depthAll (ns.map PyData.int)=0
 | []=>rfl
 | n::r=>by rw [List.map_cons,PyData.depthAll,lr r]; rfl
theorem i8 (ns:List Int):SeqAt.shaped (.list (ns.map PyData.int))=true:=by
 simp [SeqAt.shaped,PyData.canLay0,ox,PyData.depth,lr]
def cAdd:R2
 | .int i,.int j,H,Q=>Q (.int (i+j)) H
 | .str i,.str j,H,Q=>i.length+j.length≤sizeLine∧Q (.str (i++j)) H
 | .ref l,.ref b,H,Q=>bnd (unM (H l)) fun xs=>bnd (unM (H b)) fun zs=>xs.length+zs.length≤sizeLine∧∀ p,H p=none→Q (.ref p) (upd H p (.lst (xs++zs)))
 | _,_,_,_=>False
def cSub:R2
 | .int i,.int j,H,Q=>Q (.int (i - j)) H
 | _,_,_,_=>False
def cMul:R2
 | .int i,.int j,H,Q=>CMul i j∧Q (.int (i*j)) H
 | _,_,_,_=>False
def cDiv:R2
 | .int i,.int j,H,Q=>CDiv i j∧Q (.int (i / j)) H
 | _,_,_,_=>False
def cMod:R2
 | .int i,.int j,H,Q=>0 < j∧Q (.int (i % j)) H
 | _,_,_,_=>False
def cPow:R2
 | .int i,.int j,H,Q=>CPow i j∧Q (.int (i^j.toNat)) H
 | _,_,_,_=>False
def cCmp (g:Int→Int→Bool):R2
 | .int i,.int j,H,Q=>Q (.bl (g i j)) H
 | _,_,_,_=>False
def rEqD (K:PySem.W.Frag):R2:=fun x y H Q=>∃ d e,DV K H x d∧DV K H y e∧SeqAt.shaped d=true∧SeqAt.shaped e=true∧Q (.bl (PyData.eqv d e)) H
def rNeD (K:PySem.W.Frag):R2:=fun x y H Q=>∃ d e,DV K H x d∧DV K H y e∧SeqAt.shaped d=true∧SeqAt.shaped e=true∧Q (.bl (!PyData.eqv d e)) H
def cEq (K:PySem.W.Frag):R2
 | .int i,.int j,H,Q=>Q (.bl (decide (i=j))) H
 | .bl i,.bl j,H,Q=>Q (.bl (decide (i=j))) H
 | .str i,.str j,H,Q=>Q (.bl (decide (i=j))) H
 | x,y,H,Q=>rEqD K x y H Q
def cNe (K:PySem.W.Frag):R2
 | .int i,.int j,H,Q=>Q (.bl (!decide (i=j))) H
 | .bl i,.bl j,H,Q=>Q (.bl (!decide (i=j))) H
 | .str i,.str j,H,Q=>Q (.bl (!decide (i=j))) H
 | x,y,H,Q=>rNeD K x y H Q
def rInD (K:PySem.W.Frag) (neg:Bool):R2:=fun x y H Q=>∃ d ds,DV K H x d∧(DV K H y (.list ds)∨DV K H y (.tuple ds))∧PyData.canLayAll0 ds=true∧PyData.canLay0 d=true∧min (PyData.depthAll ds) d.depth≤62∧
 Q (.bl (if neg then !ds.any (fun y=>PyData.eqv y d) else ds.any fun y=>PyData.eqv y d)) H
def keyOf:V→Option Key
 | .int i=>some (.inl i)
 | .str x=>some (.inr x)
 | _=>none
def unD:Option HO→Option (List (Key × V))
 | some (.dK kvs)=>some kvs
 | _=>none
def cIn (K:PySem.W.Frag) (neg:Bool):R2
 | .ref a,y,H,Q=>rInD K neg (.ref a) y H Q
 | x,.ref p,H,Q=>(match unD (H p) with
  | some kvs=>bnd (keyOf x) fun k=>Q (.bl (if neg then !(valV kvs k).isSome else (valV kvs k).isSome)) H
  | none=>bnd (unS (H p)) fun xs=>flatV x=true∧xs.all flatV=true∧Q (.bl (if neg then !inV x xs else inV x xs)) H)
 | .str i,.str j,H,Q=>Q (.bl (if neg then !(!(Builtin.Str.occurrences j i 0 j.length 1).isEmpty) else !(Builtin.Str.occurrences j i 0 j.length 1).isEmpty)) H
 | _,_,_,_=>False
def cIx:R2
 | .ref p,y,H,Q=>(match unD (H p) with
  | some kvs=>bnd (keyOf y) fun k=>bnd (valV kvs k) fun v=>Q v H
  | none=>match y with
   | .int i=>bnd (unS (H p)) fun xs=>bnd (atI xs i) fun v=>Q v H
   | _=>False)
 | .str z,.int i,H,Q=>z.length≤sizeLine∧bnd (atI z.cps.toList i) fun c=>Q (.str ⟨#[c]⟩) H
 | _,_,_,_=>False
theorem pA {o:Option HO} {kvs:List (Key × V)} (h:unD o=some kvs):o=some (.dK kvs):=by
 unfold unD at h; split at h
 · cases h; rfl
 · cases h
theorem oy {x:V} {k:Key} (h:keyOf x=some k):x=kV k:=by
 unfold keyOf at h; split at h
 · cases h; rfl
 · cases h; rfl
 · cases h
section
variable {X:Cx} {a b c:Expr} {ta tb tc:TE} {pos:Pos}
theorem aE:OpR X (binaryOp .Add) cAdd:=by
 intro pins s σ H x y v u Q I rx ry h
 unfold cAdd at h
 split at h
 · exact zx pins s σ H _ _ v u Q I rx ry ⟨_,_,rfl,rfl,h⟩
 · exact vw pins s σ H _ _ v u Q I rx ry ⟨_,_,rfl,rfl,h.1,h.2⟩
 · obtain ⟨xs,e1,h⟩:=bm h
   obtain ⟨zs,e2,h⟩:=bm h
   exact zK pins s σ H _ _ v u Q I rx ry ⟨_,_,xs,zs,rfl,rfl,j4 e1,j4 e2,h.1,h.2⟩
 · exact h.elim
theorem bt:OpR X (binaryOp .Sub) cSub:=by
 intro pins s σ H x y v u Q I rx ry h
 unfold cSub at h
 split at h
 · exact zy pins s σ H _ _ v u Q I rx ry ⟨_,_,rfl,rfl,h⟩
 · exact h.elim
theorem bE:OpR X (binaryOp .Mult) cMul:=by
 intro pins s σ H x y v u Q I rx ry h
 unfold cMul at h
 split at h
 · exact zA pins s σ H _ _ v u Q I rx ry ⟨_,_,rfl,rfl,h.1,h.2⟩
 · exact h.elim
theorem bu:OpR X (binaryOp .FloorDiv) cDiv:=by
 intro pins s σ H x y v u Q I rx ry h
 unfold cDiv at h
 split at h
 · exact yM pins s σ H _ _ v u Q I rx ry ⟨_,_,rfl,rfl,h.1,h.2⟩
 · exact h.elim
theorem aT:OpR X (binaryOp .Mod) cMod:=by
 intro pins s σ H x y v u Q I rx ry h
 unfold cMod at h
 split at h
 · exact zB pins s σ H _ _ v u Q I rx ry ⟨_,_,rfl,rfl,h.1,h.2⟩
 · exact h.elim
theorem nA {op:CmpOp} {g:Int→Int→Bool} (o:OpR X (compareOp op) (rI0 fun i j=>.bl (g i j))):OpR X (compareOp op) (cCmp g):=by
 intro pins s σ H x y v u Q I rx ry h
 unfold cCmp at h
 split at h
 · exact o pins s σ H _ _ v u Q I rx ry ⟨_,_,rfl,rfl,h⟩
 · exact h.elim
theorem cD:OpR X (compareOp .Lt) (cCmp fun i j=>decide (i < j)):=nA Al
theorem fz:OpR X (compareOp .LtE) (cCmp fun i j=>decide (i≤j)):=nA Am
theorem fA:OpR X (compareOp .Gt) (cCmp fun i j=>decide (j < i)):=nA An
theorem sI:OpR X (compareOp .GtE) (cCmp fun i j=>decide (j≤i)):=nA Ao
theorem zN (hu:X.A.units+64 < cLine):OpR X (compareOp .Eq) (rEqD X.K):=by
 intro pins s σ H x y v u Q I rx ry h
 obtain ⟨d,e,h1,h2,h3,h4,q⟩:=h
 obtain ⟨as,r1⟩:=h1.reads I rx
 obtain ⟨bs,r2⟩:=h2.reads I ry
 exact eq_dataH r1 r2 h3 h4 hu ⟨.bl _,H,I,rfl,q⟩
theorem zO (hu:X.A.units+64 < cLine):OpR X (compareOp .NotEq) (rNeD X.K):=by
 intro pins s σ H x y v u Q I rx ry h
 obtain ⟨d,e,h1,h2,h3,h4,q⟩:=h
 obtain ⟨as,r1⟩:=h1.reads I rx
 obtain ⟨bs,r2⟩:=h2.reads I ry
 exact ne_dataH r1 r2 h3 h4 hu ⟨.bl _,H,I,rfl,q⟩
theorem aG (hu:X.A.units+64 < cLine):OpR X (compareOp .Eq) (cEq X.K):=by
 intro pins s σ H x y v u Q I rx ry h
 unfold cEq at h
 split at h
 · refine vt pins s σ H _ _ v u Q I rx ry ⟨rfl,?_⟩
   simpa using h
 · refine vt pins s σ H _ _ v u Q I rx ry ⟨rfl,?_⟩
   simpa using h
 · refine vt pins s σ H _ _ v u Q I rx ry ⟨rfl,?_⟩
   simpa using h
 · exact zN hu pins s σ H _ _ v u Q I rx ry h
theorem aU (hu:X.A.units+64 < cLine):OpR X (compareOp .NotEq) (cNe X.K):=by
 intro pins s σ H x y v u Q I rx ry h
 unfold cNe at h
 split at h
 · refine vv pins s σ H _ _ v u Q I rx ry ⟨rfl,?_⟩
   simpa using h
 · refine vv pins s σ H _ _ v u Q I rx ry ⟨rfl,?_⟩
   simpa using h
 · refine vv pins s σ H _ _ v u Q I rx ry ⟨rfl,?_⟩
   simpa using h
 · exact zO hu pins s σ H _ _ v u Q I rx ry h
theorem zP (hu:X.A.units+64 < cLine):OpR X (compareOp .In) (rInD X.K false):=by
 intro pins s σ H x y v u Q I rx ry h
 obtain ⟨d,ds,h1,h2,h3,h4,h5,q⟩:=h
 obtain ⟨as,r1⟩:=h1.reads I rx
 rcases h2 with h2 | h2
 · obtain ⟨bs,r2⟩:=h2.reads I ry
   exact SeqAt.in_list_reads r2 r1 h3 h4 (by omega) ⟨.bl _,H,I,rfl,q⟩
 · obtain ⟨bs,r2⟩:=h2.reads I ry
   exact SeqAt.in_tuple_reads r2 r1 h3 h4 (by omega) ⟨.bl _,H,I,rfl,q⟩
theorem wT (hu:X.A.units+64 < cLine):OpR X (compareOp .NotIn) (rInD X.K true):=by
 intro pins s σ H x y v u Q I rx ry h
 obtain ⟨d,ds,h1,h2,h3,h4,h5,q⟩:=h
 obtain ⟨as,r1⟩:=h1.reads I rx
 rcases h2 with h2 | h2
 · obtain ⟨bs,r2⟩:=h2.reads I ry
   exact SeqAt.notIn_list_reads r2 r1 h3 h4 (by omega) ⟨.bl _,H,I,rfl,q⟩
 · obtain ⟨bs,r2⟩:=h2.reads I ry
   exact SeqAt.notIn_tuple_reads r2 r1 h3 h4 (by omega) ⟨.bl _,H,I,rfl,q⟩
theorem jk (hu:X.A.units+64 < cLine):OpR X (compareOp .In) (cIn X.K false):=by
 intro pins s σ H x y v u Q I rx ry h
 unfold cIn at h
 split at h
 · exact zP hu pins s σ H _ _ v u Q I rx ry h
 · rename_i p hx
   split at h
   · rename_i kvs e
     obtain ⟨k,ek,q⟩:=bm h
     cases (show u=Value.ref p from ry)
     have g:DGet H p x (valV kvs k):=by rw [oy ek]; exact DGet.k (pA e)
     exact AH (Nat.lt_of_le_of_lt (Nat.add_le_add_left (by decide:1≤64) _) hu) I g rx fun s' I'=>⟨.bl _,H,I',rfl,q⟩
   · obtain ⟨xs,e,f1,f2,q⟩:=bm h
     exact mx pins s σ H _ _ v u Q I rx ry ⟨p,xs,rfl,kT e,f1,f2,q⟩
 · exact wD pins s σ H _ _ v u Q I rx ry ⟨_,_,rfl,rfl,h⟩
 · exact h.elim
theorem fB (hu:X.A.units+64 < cLine):OpR X (compareOp .NotIn) (cIn X.K true):=by
 intro pins s σ H x y v u Q I rx ry h
 unfold cIn at h
 split at h
 · exact wT hu pins s σ H _ _ v u Q I rx ry h
 · rename_i p hx
   split at h
   · rename_i kvs e
     obtain ⟨k,ek,q⟩:=bm h
     cases (show u=Value.ref p from ry)
     have g:DGet H p x (valV kvs k):=by rw [oy ek]; exact DGet.k (pA e)
     exact yW (Nat.lt_of_le_of_lt (Nat.add_le_add_left (by decide:1≤64) _) hu) I g rx fun s' I'=>⟨.bl _,H,I',rfl,q⟩
   · obtain ⟨xs,e,f1,f2,q⟩:=bm h
     exact my pins s σ H _ _ v u Q I rx ry ⟨p,xs,rfl,kT e,f1,f2,q⟩
 · exact sA pins s σ H _ _ v u Q I rx ry ⟨_,_,rfl,rfl,h⟩
 · exact h.elim
end
end L2
namespace L2
open PySem PySem.Spec PyProof.Rows
section
variable {X:Cx} {a b c:Expr} {ta tb tc:TE} {pos:Pos}
theorem ar (hu:X.A.units+64 < cLine):IxR X cIx:=by
 intro value slice pins s σ H x y v u Q I rx ry h hs
 cases x with
 | ref p=>
  unfold cIx at h
  dsimp only at h
  split at h
  · rename_i kvs e
    obtain ⟨k,ek,h⟩:=bm h
    obtain ⟨z,ez,q⟩:=bm h
    cases (show v=Value.ref p from rx)
    have g:DGet H p y (some z):=by rw [oy ek,← ez]; exact DGet.k (pA e)
    exact tail_any (uo I g) PySem.F.slot_dict_getitem.lookup (wN (Nat.lt_of_le_of_lt (Nat.add_le_add_left (by decide:1≤64) _) hu) I g ry fun w' s3 I3 rw'=>⟨z,H,I3,rw',q⟩) hs
  · split at h
    · obtain ⟨xs,e,h⟩:=bm h
      obtain ⟨z,ez,q⟩:=bm h
      rcases kT (K:=X.K) e with r | r
      · exact u6 value slice pins s σ H _ _ v u Q I rx ry ⟨p,xs,_,z,rfl,rfl,r,ez,q⟩ hs
      · exact zG value slice pins s σ H _ _ v u Q I rx ry ⟨p,xs,_,z,rfl,rfl,r,ez,q⟩ hs
    · exact h.elim
 | str zz=>
  cases y with
  | int i=>
   obtain ⟨hz,h⟩:=(show zz.length≤sizeLine∧bnd (atI zz.cps.toList i) fun c=>Q (.str ⟨#[c]⟩) H from h)
   obtain ⟨z,ez,q⟩:=bm h
   exact zH value slice pins s σ H _ _ v u Q I rx ry ⟨_,_,z,rfl,rfl,hz,ez,q⟩ hs
  | _=>exact False.elim h
 | _=>exact False.elim h
def kLen:List V→Hp→VK→Prop
 | [.ref p],H,Q=>(match unD (H p) with
  | some kvs=>Q (.int kvs.length) H
  | none=>bnd (unS (H p)) fun xs=>Q (.int xs.length) H)
 | [.str z],H,Q=>z.length≤sizeLine∧Q (.int z.length) H
 | _,_,_=>False
theorem aJ:CallR X (.builtin "len") kLen:=by
 intro pins s σ H xs us Q I r h
 unfold kLen at h
 split at h
 · split at h
   · rename_i kvs e
     exact wP pins s σ H _ us Q I r ⟨_,kvs,rfl,pA e,h⟩
   · obtain ⟨ys,e,q⟩:=bm h
     exact gJ pins s σ H _ us Q I r ⟨_,ys,rfl,kT e,q⟩
 · exact sB pins s σ H _ us Q I r ⟨_,rfl,h.1,h.2⟩
 · exact h.elim
def kAbs:List V→Hp→VK→Prop
 | [.int i],H,Q=>Q (.int (if i < 0 then -i else i)) H
 | _,_,_=>False
def kMin:List V→Hp→VK→Prop
 | [.int i,.int j],H,Q=>Q (.int (if j < i then j else i)) H
 | _,_,_=>False
theorem wU (hc:X.calm=true):CallR X (.builtin "min") kMin:=by
 intro pins s σ H xs us Q I r h
 unfold kMin at h
 split at h
 · exact wE hc pins s σ H _ us Q I r ⟨_,_,rfl,h⟩
 · exact h.elim
def kMax:List V→Hp→VK→Prop
 | [.int i,.int j],H,Q=>Q (.int (if j > i then j else i)) H
 | _,_,_=>False
def kList:List V→Hp→VK→Prop
 | [.ref p],H,Q=>bnd (unS (H p)) fun ys=>∀ l,H l=none→Q (.ref l) (upd H l (.lst ys))
 | _,_,_=>False
theorem fN:CallR X (.type "list") kList:=by
 intro pins s σ H xs us Q I r h
 unfold kList at h
 split at h
 · obtain ⟨ys,e,q⟩:=bm h
   exact sC pins s σ H _ us Q I r ⟨_,ys,rfl,kT e,q⟩
 · exact h.elim
def cL:List V→Hp→VK→Prop
 | [.ref p],H,Q=>bnd (unL (H p)) fun ys=>∃ ns:List Int,ys=ns.map V.int∧ns.length < 64∧∀ (ns':List Int) l,H l=none→ns'.Perm ns→ns'.Pairwise (· ≤·)→Q (.ref l) (upd H l (.lst (ns'.map V.int)))
 | _,_,_=>False
theorem cN:CallR X (.builtin "sorted") cL:=by
 intro pins s σ H xs us Q I r h
 unfold cL at h
 split at h
 · rename_i p
   obtain ⟨ys,e,ns,rfl,hlen,q⟩:=bm h
   obtain ⟨u,rfl,ru⟩:=eJ r
   cases ru
   obtain ⟨its,rv,pl,hz⟩:=I.list (sG e)
   have hI:IntsAre its ns:=pq rv
   have hl:=rv.length
   rw [List.length_map] at hl
   refine sorted_ints pl.isList hI (by omega) fun out ns' hI' hp hs=>?_
   have old:∀ b o,s.heap.get? b=some o→(sortedAll s.heap its out).get? b=some o:=fun b o e=>sortedAll_old e
   obtain ⟨n,at_⟩:=sortedAll_at s.heap its out
   have hfresh:H (s.heap.objs.size+1)=none:=I.hok.fresh (Nat.le_succ _)
   have hlen':(ns'.map V.int).length≤sizeLine:=by
    rw [List.length_map,hp.length_eq]
    exact Nat.le_of_lt (Nat.lt_trans hlen (by decide))
   refine ⟨.ref (s.heap.objs.size+1),_,I.laid (t':=s.toks) (a:=s.heap.objs.size+1) (o:=.lst (ns'.map V.int)) old (Nat.le_succ _) ⟨hlen',out.toList,n,mB hI',?_⟩,rfl,q ns' _ hfresh hp hs⟩
   rw [at_]
 · exact h.elim
def j5 (H:Hp):V→Option String
 | .non=>some "NoneType"
 | .bl _=>some "bool"
 | .int _=>some "int"
 | .str _=>some "str"
 | .ref p=>match H p with
  | some (.lst _)=>some "list"
  | some (.frz _ (.lst _))=>some "list"
  | some (.tup _)=>some "tuple"
  | some (.dK _)=>some "dict"
  | _=>none
 | _=>none
def isTy (t n:String):Bool:=t==n||(t=="bool"&&n=="int")
def nB (n:String):Bool:=["int","bool","str","list","tuple","dict"].contains n
theorem wV {K:PySem.W.Frag} {H:Hp} {x:V} {t:String} (h:j5 H x=some t):TyOf K H x (.type t)∧["NoneType","int","bool","str","list","tuple","dict"].contains t=true:=by
 cases x with
 | non=>cases h; exact ⟨.non,by decide⟩
 | bl b=>cases h; exact ⟨.bl b,by decide⟩
 | int i=>cases h; exact ⟨.int i,by decide⟩
 | str i=>cases h; exact ⟨.str i,by decide⟩
 | byt _=>cases h
 | flt _=>cases h
 | ty _=>cases h
 | ref p=>
  unfold j5 at h
  dsimp only at h
  split at h
  · rename_i e; cases h; exact ⟨.lst e,by decide⟩
  · rename_i e; cases h; exact ⟨.frz e,by decide⟩
  · rename_i e; cases h; exact ⟨.tup e,by decide⟩
  · rename_i e; cases h; exact ⟨.dK e,by decide⟩
  · cases h
theorem zQ (K:PySem.W.Frag):∀ t∈["NoneType","int","bool","str","list","tuple","dict"],∀ n∈["int","bool","str","list","tuple","dict"],PySem.W.kitOne K (.type t) (.type n)=some (isTy t n):=by
 intro t ht n hn
 simp only [List.mem_cons,List.not_mem_nil,or_false] at ht hn
 rcases ht with rfl | rfl | rfl | rfl | rfl | rfl | rfl <;> rcases hn with rfl | rfl | rfl | rfl | rfl | rfl <;> rfl
def kIsi:List V→Hp→VK→Prop
 | [x,.ty n],H,Q=>nB n=true∧bnd (j5 H x) fun t=>Q (.bl (isTy t n)) H
 | _,_,_=>False
theorem cI:CallR X (.builtin "isinstance") kIsi:=by
 intro pins s σ H xs us Q I r h
 unfold kIsi at h
 split at h
 · obtain ⟨hn,h⟩:=h
   obtain ⟨t,et,q⟩:=bm h
   obtain ⟨u,w,rfl,ru,rw'⟩:=vx r
   cases rw'
   obtain ⟨ty,ht⟩:=wV (K:=X.K) et
   exact wH I ru ty (zQ X.K t (by simpa using ht) _ (by simpa [nB] using hn)) fun tk=>⟨.bl _,H,I.tok tk,rfl,q⟩
 · exact h.elim
def a9:V→List V→Hp→VK→Prop
 | .ref l,[y],H,Q=>bnd (unM (H l)) fun xs=>xs.length < sizeLine∧Q .non (upd H l (.lst (xs++[y])))
 | _,_,_,_=>False
theorem aY:MtR X "list.append" a9:=by
 intro pins s σ H x vs v us Q I rx rv h
 unfold a9 at h
 split at h
 · obtain ⟨xs,e,h1,q⟩:=bm h
   exact rg pins s σ H _ _ v us Q I rx rv ⟨_,xs,_,rfl,rfl,j4 e,h1,q⟩
 · exact h.elim
theorem bn {K:PySem.W.Frag} {H:Hp} {p:Addr} {xs:List V} (h:H p=some (.lst xs)):tyV K "list" (.ref p) H:=.inl ⟨rfl,_,SqL.of h⟩
def cSl:V→Option Int→Option Int→Hp→VK→Prop
 | .ref p,lo,hi,H,Q=>bnd (unL (H p)) fun xs=>∀ l,H l=none→Q (.ref l) (upd H l (.lst (cutV xs lo hi)))
 | _,_,_,_,_=>False
theorem AI:SlR X cSl:=by
 intro pins s σ H x v vl vu lo hi sl Q I rx hs pl pu h
 unfold cSl at h
 split at h
 · obtain ⟨xs,e,q⟩:=bm h
   exact yT pins s σ H _ v vl vu lo hi sl Q I rx hs pl pu ⟨_,xs,rfl,sG e,q⟩
 · exact h.elim
end
structure Cal (P:Program) (w:World) (K:PySem.W.Frag) (mg:Str→Option Value) (base:Heap) (k:Nat) (x:Str) (ps:List Str) (sp:Sp):Prop where
 ex:∃ (f:Addr) (fd:FuncData),FnOk P w K mg base CX0 k f fd ps sp∧mg x=some (.ref f)∧PySem.W.keepIn K (.ref f)=true∧Binds K fd ps []
theorem aq {X:Cx} {k n:Nat} {x:Str} {ps:List Str} {sp:Sp} {p pos:Pos} {e:Expr} {es:List Expr} {t:TA} (C:Cal X.prog X.w X.K X.mg X.base k x ps sp) (hr:Room n X.A) (hk:k≤n) (hg:Gl X x) (ha:PA X (e::es) t)
  (hdb:(x==("__debug__":Str))=false:=by decide) (he:starEach (e::es) X.env=(false,eval e X.env)::starEach es X.env:=by rfl) (hpl:(backTo pos (starEach es X.env)).any (·.1)=false:=by rfl):
  PE X (.Call (.Name x p) (e::es) [] pos) (tCall sp [] E0 t):=by
 obtain ⟨f,fd,F,hm,hkp,hb⟩:=C.ex
 exact yQ F (hr.mono hk) hg hm hkp hb .nil vE ha hdb he hpl
end L2
namespace L2
open PySem PySem.Spec PyProof.Rows
theorem aQ:bootBuiltins "len"=some (.builtin "len"):=by decide+kernel
theorem zR:bootBuiltins "min"=some (.builtin "min"):=by decide+kernel
theorem fC:bootBuiltins "sorted"=some (.builtin "sorted"):=by decide+kernel
theorem bq:bootBuiltins "isinstance"=some (.builtin "isinstance"):=by decide+kernel
theorem d7:bootBuiltins "list"=some (.type "list"):=by decide+kernel
theorem sJ:bootBuiltins "int"=some (.type "int"):=by decide+kernel
theorem vc:bootBuiltins "bool"=some (.type "bool"):=by decide+kernel
theorem mD:bootBuiltins "str"=some (.type "str"):=by decide+kernel
theorem lu:bootBuiltins "tuple"=some (.type "tuple"):=by decide+kernel
def compN (scope:Scope):List Str:=(scope.names.filter fun p=>p.2==.local||p.2==.cell||p.2==.free).map (·.1)
def pB (N:List Str) (scope:Scope):List (Option Nat):=(compN scope).map fun x=>if scope.names.lookup x==some .free then N.findIdx? (· ==x) else none
def isCF:Option NameKind→Bool
 | some .cell=>true
 | some .free=>true
 | _=>false
theorem zS {X:Cx} {scope:Scope} (h1:scope.kind=.function) (h2:(scope.names.map (·.1)).Nodup) (h3:(scope.names.all fun p=>p.2 != .free||isCF (X.env.kindOf p.1))=true):BlkOk X (compN scope) (pB X.N scope) scope where
 kind:=h1
 nd:=h2.sublist (List.Sublist.map _ (List.filter_sublist ..))
 len:=by unfold pB; rw [List.length_map]
 names:=h2
 free:=fun x hx=>by
  have:=List.all_eq_true.mp h3 (x,.free) hx
  simp only [bne_self_eq_false,Bool.false_or] at this
  unfold isCF at this
  split at this
  · rename_i e; exact .inl e
  · rename_i e; exact .inr e
  · cases this
 at_:=fun j i x e1 e2=>by
  unfold pB at e2
  rw [List.getElem?_map,e1] at e2
  simp only [Option.map_some,Option.some.injEq] at e2
  split at e2
  · rename_i hf
    obtain ⟨hlt,hp,_⟩:=List.findIdx?_eq_some_iff_getElem.mp e2
    have hx:X.N[i]? =some x:=by
     rw [List.getElem?_eq_getElem hlt]
     have:X.N[i]=x:=by simpa using hp
     rw [this]
    refine ⟨hx,PySem.mem_of_lookup (by simpa using hf)⟩
  · cases e2
end L2
namespace L2
open PySem PySem.Spec PyProof.Rows
section
variable {t u:TS} {D:Ends} {σ:St} {H:Hp} {Q:VK} {ta tb:TE} {R:Bool→Hp→Prop} {c d:TT}
theorem aP:tSeq t u D σ H=t { D with nx:=u D } σ H:=rfl
theorem gc:tNext D σ H=D.nx σ H:=rfl
theorem fO {g:TG}:tAsg ta g D σ H=ta σ H fun x H1=>g x σ H1 D.nx:=rfl
theorem cp {i:Nat} {v:V} {k:St→Hp→Prop}:gName i v σ H k=k (σ.set i (some v)) H:=rfl
theorem i9 {i:Nat}:tVar i σ H Q=∃ v,σ[i]? =some (some v)∧Q v H:=rfl
theorem w_c {v:V}:tC v σ H Q=Q v H:=rfl
theorem lw {r:R2}:tOp r ta tb σ H Q=ta σ H fun x H1=>tb σ H1 fun y H2=>r x y H2 Q:=rfl
theorem gK:tRet ta D σ H=ta σ H D.rt:=rfl
theorem gL:tRetN D σ H=D.rt .non H:=rfl
theorem gd:tDrop ta D σ H=ta σ H fun _ H1=>D.nx σ H1:=rfl
theorem aA:tIfS c t u D σ H=c σ H fun b H1=>if b=true then t D σ H1 else u D σ H1:=rfl
theorem gM:tTest ta σ H R=ta σ H fun x H'=>∃ k,x=.bl k∧R k H':=rfl
theorem w_b:tB ta σ H R=ta σ H fun x H'=>∃ k,x=.bl k∧R k H':=rfl
theorem w_not:tNot c σ H R=c σ H fun k H1=>R (!k) H1:=rfl
theorem jq:tAnd c d σ H R=c σ H fun k H1=>if k=true then d σ H1 R else R false H1:=rfl
theorem lx:tOr c d σ H R=c σ H fun k H1=>if k=true then R true H1 else d σ H1 R:=rfl
theorem gN:tNotV ta σ H Q=ta σ H fun x H1=>∃ c,x=.bl c∧Q (.bl (!c)) H1:=rfl
theorem gO:tAndV ta tb σ H Q=ta σ H fun x H1=>∃ c,x=.bl c∧if c=true then tb σ H1 Q else Q (.bl false) H1:=rfl
theorem jr:tOrV ta tb σ H Q=ta σ H fun x H1=>∃ c,x=.bl c∧if c=true then Q (.bl true) H1 else tb σ H1 Q:=rfl
theorem ja {k:List V→Hp→Prop}:tNil σ H k=k [] H:=rfl
theorem ge {tr:TA} {k:List V→Hp→Prop}:tCons ta tr σ H k=ta σ H fun x H1=>tr σ H1 fun xs H2=>k (x::xs) H2:=rfl
theorem ly {r:List V→Hp→VK→Prop} {tr:TA}:tCB r tr σ H Q=tr σ H fun vs H1=>r vs H1 Q:=rfl
theorem gP {sp:Sp} {dvs:List V} {E:XK} {tr:TA}:tCall sp dvs E tr σ H Q=tr σ H fun vs H1=>sp (vs++dvs) H1 Q E:=rfl
theorem js {tr:TA}:tTup tr σ H Q=tr σ H fun xs H1=>xs.length≤sizeLine∧∀ p,H1 p=none→Q (.ref p) (upd H1 p (.tup xs)):=rfl
theorem jt {tr:TA}:tLst tr σ H Q=tr σ H fun xs H1=>xs.length≤sizeLine∧∀ p,H1 p=none→Q (.ref p) (upd H1 p (.lst xs)):=rfl
theorem kE {K:PySem.W.Frag} {T:String} {r:V→List V→Hp→VK→Prop} {tr:TA}:tBM K T r ta tr σ H Q=ta σ H fun x H1=>tyV K T x H1∧tr σ H1 fun xs H2=>r x xs H2 Q:=rfl
theorem ju {K:PySem.W.Frag} {T:String} {r:V→List V→Hp→VK→Prop}:vD K T r ta σ H Q=ta σ H fun x H1=>tyV K T x H1∧r x [] H1 Q:=rfl
theorem gQ:tTrue σ H R=R true H:=rfl
theorem gR:zM σ H Q=∀ p,H p=none→Q (.ref p) (upd H p (.dK [])):=rfl
theorem gS {td ty tv:TE}:sDPut td ty tv D σ H=tv σ H fun v H1=>td σ H1 fun x H2=>ty σ H2 fun y H3=>∃ a H4,x=.ref a∧DPut H3 a y v H4∧D.nx σ H4:=rfl
theorem jv {i j:Int}:cAdd (.int i) (.int j) H Q=Q (.int (i+j)) H:=rfl
theorem jw {i j:Int}:cSub (.int i) (.int j) H Q=Q (.int (i - j)) H:=rfl
theorem jx {i j:Int}:cMul (.int i) (.int j) H Q=(CMul i j∧Q (.int (i*j)) H):=rfl
theorem jy {i j:Int}:cDiv (.int i) (.int j) H Q=(CDiv i j∧Q (.int (i / j)) H):=rfl
theorem jz {i j:Int}:cMod (.int i) (.int j) H Q=(0 < j∧Q (.int (i % j)) H):=rfl
theorem jA {g:Int→Int→Bool} {i j:Int}:cCmp g (.int i) (.int j) H Q=Q (.bl (g i j)) H:=rfl
theorem jB {K:PySem.W.Frag} {i j:Int}:cEq K (.int i) (.int j) H Q=Q (.bl (decide (i=j))) H:=rfl
theorem jC {K:PySem.W.Frag} {i j:Int}:cNe K (.int i) (.int j) H Q=Q (.bl (!decide (i=j))) H:=rfl
theorem jD {K:PySem.W.Frag} {i j:Bool}:cEq K (.bl i) (.bl j) H Q=Q (.bl (decide (i=j))) H:=rfl
theorem jE {K:PySem.W.Frag} {i j:Bool}:cNe K (.bl i) (.bl j) H Q=Q (.bl (!decide (i=j))) H:=rfl
theorem gu {p:Addr} {i:Int} {xs:List V} (h:H p=some (.tup xs)):cIx (.ref p) (.int i) H Q=bnd (atI xs i) fun v=>Q v H:=by
 unfold cIx; dsimp only; rw [h]; rfl
theorem yD {p:Addr} {i:Int} {xs:List V} (h:H p=some (.lst xs)):cIx (.ref p) (.int i) H Q=bnd (atI xs i) fun v=>Q v H:=by
 unfold cIx; dsimp only; rw [h]; rfl
theorem jF {i:Int}:kAbs [.int i] H Q=Q (.int (if i < 0 then -i else i)) H:=rfl
theorem jG {i j:Int}:kMin [.int i,.int j] H Q=Q (.int (if j < i then j else i)) H:=rfl
theorem bi {p:Addr} {xs:List V} (h:H p=some (.lst xs)):kLen [.ref p] H Q=Q (.int xs.length) H:=by
 unfold kLen; dsimp only; rw [h]; rfl
theorem wW {p:Addr} {xs:List V} (h:H p=some (.tup xs)):kLen [.ref p] H Q=Q (.int xs.length) H:=by
 unfold kLen; dsimp only; rw [h]; rfl
theorem dF {p:Addr} {xs:List V} {y:V} (h:H p=some (.lst xs)):a9 (.ref p) [y] H Q=(xs.length < sizeLine∧Q .non (upd H p (.lst (xs++[y])))):=by
 unfold a9; dsimp only; rw [h]; rfl
theorem mE:∀ ns:List Int,(ns.map V.int).all flatV=true
 | []=>rfl
 | n::r=>by rw [List.map_cons,List.all_cons,mE r]; rfl
theorem oz (i:Int):∀ ns:List Int,inV (.int i) (ns.map V.int)=decide (i∈ns)
 | []=>by simp [inV]
 | n::r=>by
  have ih:=oz i r
  unfold inV at ih ⊢
  rw [List.map_cons,List.any_cons,ih]
  show ((n==i)||decide (i∈r))=decide (i∈n::r)
  rw [Bool.eq_iff_iff,Bool.or_eq_true,beq_iff_eq,decide_eq_true_eq,decide_eq_true_eq,List.mem_cons]
  exact ⟨fun h=>h.elim (fun e=>.inl e.symm) .inr,fun h=>h.elim (fun e=>.inl e.symm) .inr⟩
theorem oA {K:PySem.W.Frag} {p:Addr} {i:Int} {ns:List Int} (h:H p=some (.lst (ns.map V.int))):cIn K false (.int i) (.ref p) H Q=Q (.bl (decide (i∈ns))) H:=by
 unfold cIn; dsimp only; rw [h]; dsimp only [unD,unS,bnd]
 rw [oz,mE]
 simp [flatV]
theorem lz {K:PySem.W.Frag} {p:Addr} {i:Int} {ns:List Int} (h:H p=some (.lst (ns.map V.int))):cIn K true (.int i) (.ref p) H Q=Q (.bl (!decide (i∈ns))) H:=by
 unfold cIn; dsimp only; rw [h]; dsimp only [unD,unS,bnd]
 rw [oz,mE]
 simp [flatV]
end
def LoopR (J:It) (g:TG) (tb:TS) (D:Ends) (σ:St) (H1:Hp):Prop:=∃ W:Nat→Nat→St→Hp→Prop,(∃ m,W 0 m σ H1)∧∀ i m σ H,W i m σ H→
 (J.stop i H∧D.nx σ H)∨(J.go i H∧∃ N:St→Hp→Prop,(∀ σ' H',N σ' H'→∃ m',m' < m∧W (i+1) m' σ' H')∧∀ x H',J.yld i H x H'→g x σ H' fun σ2 H2=>tb { D with nx:=N,ct:=N,bk:=D.nx } σ2 H2)
def CompR (J:It) (g:TG) (tt:TT) (te:TE) (fin:Addr→Hp→Prop) (σ0:St) (H1:Hp):Prop:=∀ l,H1 l=none→
 ∃ W:Nat→Nat→St→Hp→Prop,(∃ m,W 0 m σ0 (upd H1 l (.lst [])))∧∀ i m σ' H',W i m σ' H'→
  (J.stop i H'∧fin l H')∨(J.go i H'∧∃ N:St→Hp→Prop,(∀ σ'' H'',N σ'' H''→∃ m',m' < m∧W (i+1) m' σ'' H'')∧∀ x H2,J.yld i H' x H2→g x σ' H2 fun σ2 H3=>tt σ2 H3 fun b H4=>
   if b=true then te σ2 H4 fun y H5=>∃ ys,H5 l=some (.lst ys)∧ys.length < sizeLine∧N σ2 (upd H5 l (.lst (ys++[y]))) else N σ2 H4)
section
variable {K:PySem.W.Frag} {g:TG} {tb:TS} {D:Ends} {σ:St} {H:Hp} {tl:TE} {ta:TA} {ix:List (Option Nat)} {tt:TT} {te:TE} {k:Nat} {Q:VK}
theorem gT:tFor (iList K tl) g tb D σ H=tl σ H fun x H1=>∃ a,x=.ref a∧(∃ xs,SqL K H1 a xs)∧LoopR (Itl K a) g tb D σ H1:=rfl
theorem fP:tFor (di ta) g tb D σ H=ta σ H fun vs H1=>∃ j:Int,vs=[.int j]∧ -(2^62)≤j∧j < 2^62∧LoopR (Itr 0 j.toNat) g tb D σ H1:=rfl
theorem fQ:tFor (pj ta) g tb D σ H=ta σ H fun vs H1=>∃ i j:Int,vs=[.int i,.int j]∧(-(2^62)≤i∧i < 2^62∧ -(2^62)≤j∧j < 2^62)∧LoopR (Itr i (j - i).toNat) g tb D σ H1:=rfl
theorem dt:tComp ix (iList K tl) g tt te σ H Q=tl σ H fun x H1=>∃ a,x=.ref a∧(∃ xs,SqL K H1 a xs)∧CompR (Itl K a) g tt te (fun l H'=>Q (.ref l) H') (subσ ix σ) H1:=rfl
theorem dG:tComp ix (di ta) g tt te σ H Q=ta σ H fun vs H1=>∃ j:Int,vs=[.int j]∧ -(2^62)≤j∧j < 2^62∧CompR (Itr 0 j.toNat) g tt te (fun l H'=>Q (.ref l) H') (subσ ix σ) H1:=rfl
theorem dH:sComp k ix (iList K tl) g tt te D σ H=tl σ H fun x H1=>∃ a,x=.ref a∧(∃ xs,SqL K H1 a xs)∧CompR (Itl K a) g tt te (fun l H'=>D.nx (σ.set k (some (.ref l))) H') (subσ ix σ) H1:=rfl
theorem cZ:sComp k ix (di ta) g tt te D σ H=ta σ H fun vs H1=>∃ j:Int,vs=[.int j]∧ -(2^62)≤j∧j < 2^62∧CompR (Itr 0 j.toNat) g tt te (fun l H'=>D.nx (σ.set k (some (.ref l))) H') (subσ ix σ) H1:=rfl
theorem pC {lo:Int} {n:Nat} {fin:Addr→Hp→Prop} {σ0:St} {H1:Hp} (Pv:Addr→Nat→St→Hp→Prop) (h0:∀ l,H1 l=none→Pv l 0 σ0 (upd H1 l (.lst [])))
  (hs:∀ l i σ H,H1 l=none→i < n→Pv l i σ H→g (.int (lo+i)) σ H fun σ2 H3=>tt σ2 H3 fun b H4=>if b=true then te σ2 H4 fun y H5=>∃ ys,H5 l=some (.lst ys)∧ys.length < sizeLine∧Pv l (i+1) σ2 (upd H5 l (.lst (ys++[y]))) else Pv l (i+1) σ2 H4)
  (hd:∀ l σ H,H1 l=none→Pv l n σ H→fin l H):CompR (Itr lo n) g tt te fin σ0 H1:=by
 intro l hl0
 refine ⟨fun i m σ H=>m=n - i∧i≤n∧Pv l i σ H,⟨n,by simp,Nat.zero_le _,h0 l hl0⟩,?_⟩
 rintro i m σ H ⟨rfl,hi,p⟩
 by_cases hlt:i < n
 · refine .inr ⟨hlt,Pv l (i+1),fun σ' H' p'=>⟨n - (i+1),by omega,rfl,hlt,p'⟩,fun x H' y=>?_⟩
   obtain ⟨e,y⟩:=y
   subst e y
   exact hs l i σ _ hl0 hlt p
 · have e:i=n:=by omega
   subst e
   exact .inl ⟨Nat.le_refl _,hd l σ H hl0 p⟩
theorem rj {a:Addr} {xs:List V} {fin:Addr→Hp→Prop} {σ0:St} {H1:Hp} (Pv:Addr→Nat→St→Hp→Prop) (h0:∀ l,H1 l=none→Pv l 0 σ0 (upd H1 l (.lst []))) (hq:∀ l i σ H,H1 l=none→i≤xs.length→Pv l i σ H→SqL K H a xs)
  (hs:∀ l i x σ H,H1 l=none→xs[i]? =some x→Pv l i σ H→g x σ H fun σ2 H3=>tt σ2 H3 fun b H4=>if b=true then te σ2 H4 fun y H5=>∃ ys,H5 l=some (.lst ys)∧ys.length < sizeLine∧Pv l (i+1) σ2 (upd H5 l (.lst (ys++[y]))) else Pv l (i+1) σ2 H4)
  (hd:∀ l σ H,H1 l=none→Pv l xs.length σ H→fin l H):CompR (Itl K a) g tt te fin σ0 H1:=by
 intro l hl0
 refine ⟨fun i m σ H=>m=xs.length - i∧i≤xs.length∧Pv l i σ H,⟨xs.length,by simp,Nat.zero_le _,h0 l hl0⟩,?_⟩
 rintro i m σ H ⟨rfl,hi,p⟩
 have q:=hq l i σ H hl0 hi p
 by_cases hlt:i < xs.length
 · refine .inr ⟨⟨xs,xs[i],q,by simp [hlt]⟩,Pv l (i+1),fun σ' H' p'=>⟨xs.length - (i+1),by omega,rfl,hlt,p'⟩,fun x H' y=>?_⟩
   obtain ⟨e,y⟩:=y
   subst e
   exact hs l i x σ _ hl0 (y xs q) p
 · have e:i=xs.length:=by omega
   subst e
   exact .inl ⟨⟨xs,q,Nat.le_refl _⟩,hd l σ H hl0 p⟩
theorem nD {p q:Addr} {xs ys:List Int} (hp:H p=some (.lst (xs.map V.int))) (hq:H q=some (.lst (ys.map V.int))) (h:Q (.bl (decide (xs=ys))) H):cEq K (.ref p) (.ref q) H Q:=by
 show rEqD K (.ref p) (.ref q) H Q
 refine ⟨.list (xs.map PyData.int),.list (ys.map PyData.int),.lst (SqL.of hp) (.ints xs),.lst (SqL.of hq) (.ints ys),i8 xs,i8 ys,?_⟩
 rw [PyData.eqv,sH]
 exact h
theorem nE {p q:Addr} {xs ys:List Int} (hp:H p=some (.lst (xs.map V.int))) (hq:H q=some (.lst (ys.map V.int))) (h:Q (.bl (!decide (xs=ys))) H):cNe K (.ref p) (.ref q) H Q:=by
 show rNeD K (.ref p) (.ref q) H Q
 refine ⟨.list (xs.map PyData.int),.list (ys.map PyData.int),.lst (SqL.of hp) (.ints xs),.lst (SqL.of hq) (.ints ys),i8 xs,i8 ys,?_⟩
 rw [PyData.eqv,sH]
 exact h
theorem yb {p:Addr} {ns:List Int} (hp:H p=some (.lst (ns.map V.int))) (hn:ns.length < 64) (h:∀ (ns':List Int) l,H l=none→ns'.Perm ns→ns'.Pairwise (· ≤·)→Q (.ref l) (upd H l (.lst (ns'.map V.int)))):cL [.ref p] H Q:=by
 unfold cL
 dsimp only
 rw [hp]
 exact ⟨ns,rfl,hn,h⟩
theorem mF {p:Addr} {xs:List V} (hp:H p=some (.lst xs)) (h:∀ l,H l=none→Q (.ref l) (upd H l (.lst xs))):kList [.ref p] H Q:=by
 unfold kList
 dsimp only
 rw [hp]
 exact h
end
theorem aX {X:Cx} {N:List Str} {ix:List (Option Nat)} {scope:Scope} (h1:scope.kind=.function) (h2:(scope.names.map (·.1)).Nodup) (h3:(scope.names.all fun p=>p.2 != .free||isCF (X.env.kindOf p.1))=true) (h4:N=compN scope) (h5:ix=pB X.N scope):BlkOk X N ix scope:=by
 subst h4 h5
 exact zS h1 h2 h3
def kLenS (K:PySem.W.Frag):List V→Hp→VK→Prop:=fun xs H Q=>∃ p ys,xs=[.ref p]∧(SqL K H p ys∨SqT K H p ys)∧Q (.int ys.length) H
structure Bt (mg:Str→Option Value):Prop where
 len_:mg "len"=none
 abs_:mg "abs"=none
 min_:mg "min"=none
 max_:mg "max"=none
 sorted_:mg "sorted"=none
 any_:mg "any"=none
 isinstance_:mg "isinstance"=none
 list_:mg "list"=none
 int_:mg "int"=none
 bool_:mg "bool"=none
 str_:mg "str"=none
 tuple_:mg "tuple"=none
 reversed_:mg "reversed"=none
 set_:mg "set"=none
 range_:mg "range"=none
 zip_:mg "zip"=none
end L2
namespace L2
open PySem PySem.Spec PyProof.Rows
theorem Vals.get':∀ {xs:List V} {us:List Value} {i:Nat} {u:Value},Vals xs us→us[i]? =some u→∃ x,xs[i]? =some x∧RelV x u
 | _,_,_,_,.nil,h=>by simp at h
 | _,_,0,_,.cons r _,h=>by simp at h; subst h; exact ⟨_,rfl,r⟩
 | _,_,i+1,_,.cons _ t,h=>by
  obtain ⟨x,hx,r⟩:=Vals.get' (i:=i) t (by simpa using h)
  exact ⟨x,by simpa using hx,r⟩
section
variable {X:Cx} {pins:List (Addr × Obj)} {σ:St} {H:Hp} {s s':Shared}
theorem Inv.kept' (I:Inv X pins σ H s) (k:∀ b u,s.heap.get? b=some u→s'.heap.get? b=some u) (ho:s'.os=s.os) (hg:AllBare s'.gens):Inv X pins σ H s':=
 I.call' (ch:=[]) ho (Un.kept k) (I.hok.kept k) hg fun b z=>absurd z (by simp)
theorem Inv.walked {l:Addr} {o:Obj} (I:Inv X pins σ H s) (hm:Moved [s.heap.objs.size] (fun a b=>b=a) { s with heap:=s.heap.push o } s'):Inv X pins σ H s':=by
 refine I.kept' (fun b u e=>hm.heap b u (fun z=>?_) (Heap.get?_push_of_some _ e)) hm.os (by rw [show s'.gens=s.gens from hm.gens]; exact I.bare)
 have:b=s.heap.objs.size:=by simpa using z
 exact absurd (Heap.lt_size e) (by rw [this]; exact Nat.lt_irrefl _)
def mG (K:PySem.W.Frag):V→List V→Hp→VK→Prop
 | .ref p,[y],H,Q=>∃ (ds:List PyData) (d:PyData) (j:Nat),DV K H (.ref p) (.list ds)∧DV K H y d∧PyData.canLayAll0 ds=true∧PyData.canLay0 d=true∧min (PyData.depthAll ds) d.depth≤62∧
   j≤1000∧(∃ e,ds[j]? =some e∧PyData.eqv e d=true)∧(∀ m e,m < j→ds[m]? =some e→PyData.eqv e d=false)∧Q (.int j) H
 | _,_,_,_=>False
theorem rk (hu:X.A.units+64 < cLine):MtR X "list.index" (mG X.K):=by
 intro pins s σ H x vs v us Q I rx rv h
 unfold mG at h
 split at h
 · rename_i p y
   obtain ⟨ds,d,j,hp,hy,hl,hd,hdep,hj,⟨e,ej,et⟩,hno,q⟩:=h
   cases rx
   obtain ⟨u,rfl,ru⟩:=eJ rv
   obtain ⟨as,rc⟩:=hp.reads I rfl
   obtain ⟨bs,rx⟩:=hy.reads I ru
   cases rc with
   | @list _ o its n _ _ h1 h2 h3 h4=>
    obtain ⟨oc,od,oda,osl⟩:=o
    dsimp only at h2 h3
    subst h2 h3
    have hmap:=SeqAt.readsAll_map ds _ _ hl h4
    have at_:∀ (m:Nat) (hm:m < its.size),ds[m]? =some (SeqAt.readOf s.heap its[m]):=fun m hm=>by
     rw [← hmap,List.getElem?_map,Array.getElem?_toList,Array.getElem?_eq_getElem hm]; rfl
    have hjs:j < its.size:=by
     have:=(List.getElem?_eq_some_iff.mp ej).1
     rw [← hmap,List.length_map,Array.length_toList] at this
     exact this
    refine call_meets F.slot_list_index ⟨_,h1,rfl⟩ F.entry_list_index (F.args_list_index_2 _ _) (SeqAt.list_indexAt p its n od osl u (fun y=>PyData.eqv (SeqAt.readOf s.heap y) d) j hjs (by omega) ?_ ?_) ⟨h1,SeqAt.items_eqAt h4 rx hl hd ?_,⟨.int j,H,I.tok _,⟨_,rfl⟩,q⟩⟩
    · have:=at_ j hjs
      rw [ej] at this
      cases this
      exact et
    · intro m hm hlt
      exact hno m _ hlt (at_ m hm)
    · omega
 · exact h.elim
end
end L2
namespace L2
open PySem PySem.Spec PyProof.Rows
open Builtin Builtin.Str
theorem qM:∀ {ts:List Str} {us:List Value},Vals (ts.map V.str) us→∃ l:List (Str × Tok),us=strValues l∧l.map (·.1)=ts
 | [],_,.nil=>⟨[],rfl,rfl⟩
 | t::ts,_,.cons r rs=>by
  obtain ⟨l,rfl,e⟩:=qM (ts:=ts) rs
  obtain ⟨u,rfl⟩:=r
  exact ⟨(t,u)::l,rfl,by rw [List.map_cons,e]⟩
theorem rm:∀ (l:List (Str × Tok)),Vals ((l.map (·.1)).map V.str) (strValues l)
 | []=>.nil
 | (t,u)::l=>.cons ⟨u,rfl⟩ (rm l)
section
variable {X:Cx}
def kFind:V→List V→Hp→VK→Prop
 | .str x,[.str y],H,Q=>Q (.int (Txt.find x y)) H
 | _,_,_,_=>False
def pD:V→List V→Hp→VK→Prop
 | .str x,[.str y],H,Q=>(y.length==0)=false∧x.length≤sizeLine∧(Txt.split x y).length≤sizeLine∧∀ l,H l=none→Q (.ref l) (upd H l (.lst ((Txt.split x y).map V.str)))
 | _,_,_,_=>False
theorem wX:MtR X "str.split" pD:=by
 intro pins s σ H x vs v us Q I rx rv h
 unfold pD at h
 split at h
 · rename_i x y
   obtain ⟨t,rfl⟩:=rx
   obtain ⟨u,rfl,ru⟩:=eJ rv
   obtain ⟨t2,rfl⟩:=ru
   obtain ⟨hy,hx,hn,q⟩:=h
   have fin:∀ (l:List (Str × Tok)) (k:Nat),l.map (·.1)=Txt.split x y→EP X pins σ Q (.ref s.heap.objs.size) { s with heap:=s.heap.push { cls:=.type "list",data:=.seq (strValues l).toArray },toks:=k }:=fun l k e=>by
    refine ⟨.ref s.heap.objs.size,_,I.lnew (t':=k) (ys:=(Txt.split x y).map V.str) (its:=strValues l) ?_ (by rw [List.length_map]; exact hn),rfl,q _ I.fresh⟩
    rw [← e]
    exact rm l
   cases h1:(decide (x.length < y.length)||decide (strKind x < strKind y))
   · cases hf:(occurrences x y 0 x.length (x.length+1)).isEmpty
     · have e3:Txt.split x y=partsBetween x (occurrences x y 0 x.length (x.length+1)) y.length:=(if_neg (ne_true_of_eq_false h1)).trans (if_neg (ne_true_of_eq_false hf))
       refine call_meets F.slot_str_split (typeIs_str _ _ _) F.entry_str_split (F.args_str_split_2 _ _) (meets_str_split_sep x y t t2 h1 hy hf hx (by rw [← e3]; exact hn)) ?_
       show wants _ _ _ { s with toks:=_,heap:=s.heap.push { cls:=.type "list",data:=.seq (strsFrom s.toks (partsBetween x (occurrences x y 0 x.length (x.length+1)) y.length)).toArray } }
       rw [strsFrom_eq]
       exact fin (numbered s.toks _) _ ((numbered_texts _ _).trans e3.symm)
     · exact call_meets F.slot_str_split (typeIs_str _ _ _) F.entry_str_split (F.args_str_split_2 _ _) (meets_str_split_not_found x y t t2 h1 hy hf)
        (fin [(x,t)] s.toks ((if_neg (ne_true_of_eq_false h1)).trans (if_pos hf)).symm)
   · exact call_meets F.slot_str_split (typeIs_str _ _ _) F.entry_str_split (F.args_str_split_2 _ _) (meets_str_split_cannot_occur x y t t2 h1)
      (fin [(x,t)] s.toks (if_pos h1).symm)
 · exact h.elim
def oB:V→Option Int→Option Int→Hp→VK→Prop
 | .ref p,lo,hi,H,Q=>cSl (.ref p) lo hi H Q
 | .str z,lo,hi,H,Q=>z.length≤sizeLine∧Q (.str (Txt.slice z lo hi)) H
 | _,_,_,_,_=>False
theorem vG:SlR X oB:=by
 intro pins s σ H x v vl vu lo hi sl Q I rx hs pl pu h
 cases x with
 | ref p=>exact AI pins s σ H _ v vl vu lo hi sl Q I rx hs pl pu h
 | str z=>
  obtain ⟨hz,q⟩:=(show z.length≤sizeLine∧Q (.str (Txt.slice z lo hi)) H from h)
  obtain ⟨t,rfl⟩:=rx
  have fin:∀ t' k,EP X pins σ Q (.str (Txt.slice z lo hi) t') { s with toks:=k }:=fun t' k=>⟨.str _,H,I.tok k,⟨t',rfl⟩,q⟩
  refine ⟨"str",_,F.slot_str_getitem.lookup,typeIs_str _ _ _,?_⟩
  cases pl with
  | none=>
   cases pu with
   | none=>exact wpAny_getItem_str_slice (l:=none) (u:=none) (st:=none) hs rfl (post_val_or_str ⟨Nat.le_trans (Txt.slice_le z _ _) hz,fin⟩)
   | int j tj=>exact wpAny_getItem_str_slice (l:=none) (u:=some (j,tj)) (st:=none) hs rfl (post_val_or_str ⟨Nat.le_trans (Txt.slice_le z _ _) hz,fin⟩)
  | int i ti=>
   cases pu with
   | none=>exact wpAny_getItem_str_slice (l:=some (i,ti)) (u:=none) (st:=none) hs rfl (post_val_or_str ⟨Nat.le_trans (Txt.slice_le z _ _) hz,fin⟩)
   | int j tj=>exact wpAny_getItem_str_slice (l:=some (i,ti)) (u:=some (j,tj)) (st:=none) hs rfl (post_val_or_str ⟨Nat.le_trans (Txt.slice_le z _ _) hz,fin⟩)
 | _=>exact False.elim h
def Its (x:Str):It:=⟨fun i _=>i < x.cps.size,fun i H v H'=>H'=H∧∃ c,x.cps[i]? =some c∧v=.str ⟨#[c]⟩,fun i _=>x.cps.size≤i⟩
theorem sK {P:Program} {w:World} {K:PySem.W.Frag} {tg:Expr} {x:Str} {t:Tok} (it:Addr) (ty:String) (hty:["enumerate","zip","dict_itemiterator","dict_reverseitemiterator","odict_iterator","itertools.zip_longest","itertools.pairwise"].contains ty=false)
  (W:∀ A:Around,A.handled=none→Walks P w A it [it] [it] x.cps.size (SignAt x) (fun i h=>h.IsStrIter it ty x t i))
  (slf:∀ (A:Around) (i:Nat) (s:Shared) (Q:Value→Shared→Prop) (E:Value→Shared→Prop),s.heap.IsStrIter it ty x t i→Q (.ref it) s→wpAny (model P w) A (pyIter (.ref it)) Q E s):
  Turn P w K tg (Its x) [it] it (fun i h=>i≤x.cps.size∧h.IsStrIter it ty x t i) where
 mem:=by simp
 obj:=fun i h st b hb=>by
  have e:b=it:=by simpa using hb
  subst e
  obtain ⟨_,o,e,c,d⟩:=st
  exact ⟨o,e,fun v z=>by rw [d] at z; cases z⟩
 keep:=fun i h h' st k=>by
  obtain ⟨hi,o,e,c,d⟩:=st
  exact ⟨hi,o,k it (by simp) o e,c,d⟩
 item:=by
  intro X hP hw hK hc i pins s σ H E I hf st hg
  subst hP hw hK
  obtain ⟨f0,f1,f2,f3,f4,f5⟩:=hf it (by simp)
  have hlt:i < x.cps.size:=hg
  refine (W X.A (I.ok.hd hc)).item i s _ _ hlt st.2 fun v h' tk hv st' kk=>?_
  obtain ⟨c,u,hcu,rfl⟩:=hv
  have I1:Inv X pins σ H { s with heap:=h',toks:=tk }:=I.turned (fun b o hb e=>kk b o (by simpa using hb) e) f0 f1 f3 f4 f5
  obtain ⟨o,e,c',d⟩:=id st'
  exact ⟨_,rfl,sj (s:={ s with heap:=h',toks:=tk }) e c' d hty ⟨.str ⟨#[c]⟩,H,I1,⟨u,rfl⟩,⟨rfl,c,hcu,rfl⟩,⟨hlt,st'⟩,fun b hb=>(hf b hb).1⟩⟩
 done:=by
  intro X hP hw hK hc i pins s σ H E I hf st hg
  subst hP hw hK
  obtain ⟨f0,f1,f2,f3,f4,f5⟩:=hf it (by simp)
  have hle:x.cps.size≤i:=hg
  have e:i=x.cps.size:=Nat.le_antisymm st.1 hle
  subst e
  exact (W X.A (I.ok.hd hc)).done s _ _ st.2 fun h' tk kk=>⟨rfl,I.turned (fun b o hb e=>kk b o (by simpa using hb) e) f0 f1 f3 f4 f5⟩
 self:=fun A i s Q E st h=>slf A i s Q E st.2 h
def iStr (tl:TE):TI:=fun σ H R=>tl σ H fun x H1=>∃ z,x=.str z∧R (Its z) H1
theorem zT {tg l:Expr} {tl:TE} (hl:PE X l tl):PI X tg l (iStr tl):=by
 intro pins s σ H R I h
 refine thn (hl pins s σ H _ I h) fun v s1 ⟨x,H1,I1,r1,q1⟩=>?_
 obtain ⟨z,rfl,q⟩:=q1
 obtain ⟨t,rfl⟩:=r1
 have fin:∀ b∈[s1.heap.objs.size],FpOk X pins H1 b:=fun b hb=>by
  have e:b=s1.heap.objs.size:=by simpa using hb
  subst e
  exact I1.fpOk (Nat.le_refl _) (I1.hok.fresh (Nat.le_refl _))
 cases ha:z.cps.all (· < 128)
 · refine wpAny_pyIter_wide ha ⟨s1.heap.objs.size,[s1.heap.objs.size],_,Its z,H1,rfl,I1.kept (t':=s1.toks) fun b o e=>Heap.get?_push_of_some _ e,sK (t:=t) _ "str_iterator" (by decide) (fun A' hA=>Walks.strWide hA _ z t) (fun A i s Q E st hq=>wpAny_pyIter_striter_wide st hq),⟨Nat.zero_le _,_,Heap.get?_push_size _ rfl,rfl,rfl⟩,fin,q⟩
 · refine wpAny_pyIter_ascii ha ⟨s1.heap.objs.size,[s1.heap.objs.size],_,Its z,H1,rfl,I1.kept (t':=s1.toks) fun b o e=>Heap.get?_push_of_some _ e,sK (t:=t) _ "str_ascii_iterator" (by decide) (fun A' hA=>Walks.strAscii hA _ z t) (fun A i s Q E st hq=>wpAny_pyIter_striter_ascii st hq),⟨Nat.zero_le _,_,Heap.get?_push_size _ rfl,rfl,rfl⟩,fin,q⟩
theorem up {prog:Program} {w:World} {A:Around} {E:Value→Shared→Prop} {s:Shared} {l:Addr} {items:Array Value} {k:Int} {t:Tok} {v:Value} {Q:Unit→Shared→Prop} (hl:s.heap.IsList l items)
  (h0:0≤k) (hfit:k < 2^63) (hn:k < items.size)
  (hQ:Q () { s with heap:=s.heap.update l (Obj.mapSeq (·.setIfInBounds k.toNat v)) }):
  wpAny (model prog w) A (setItem (.ref l) (.int k t) v) Q E s:=by
 obtain ⟨o,ho,hc,ne,hd⟩:=id hl
 unfold setItem
 try with_reducible refine wpAny_holding ?_
 first | refine wpAny_bind (wpAny_pure ?_) | skip
 refine wpAny_bind (wpAny_sequenceKey hl.typeIs (by decide) ?_)
 refine wpAny_bind (wpAny_callSpecial?_slot (name:=Str.ofString "__setitem__") hl.typeIs slot_list_setitem
  (wpAny_call_entry slot_list_setitem hl.typeIs entry_list_setitem ?_ (args_list_setitem _ _ _)))
 show wpAny _ _ (Builtin.List.listSubscript? (.int k t) >>= _) _ _ s
 refine wpAny_bind (wpAny_listSubscript_int (fitsIndex_of h0 hfit) ?_)
 clear hfit
 obtain ⟨j,rfl⟩:=Int.eq_ofNat_of_zero_le h0
 have hj:j < items.size:=by omega
 have hx':items[j]? =some items[j]:=Array.getElem?_eq_getElem hj
 show wpAny _ _ ((seqItemAt l j >>= fun r=>pure (r.map (j,·))) >>= _) _ _ s
 refine wpAny_bind (wpAny_bind (wpAny_seqItemAt ho hd (wpAny_pure ?_)))
 rw [hx']
 show wpAny _ _ (setSeqItemAt l j v >>= _) _ _ s
 refine wpAny_bind (wpAny_setSeqItemAt ho hd ?_)
 first
  | exact wpAny_bind (wpAny_pure (wpAny_pure ⟨.none,rfl,wpAny_pure hQ⟩))
  | exact wpAny_pure ⟨.none,rfl,wpAny_pure hQ⟩
theorem sM:∀ {xs:List V} {us:List Value} {x:V} {u:Value} (i:Nat),Vals xs us→RelV x u→Vals (xs.set i x) (us.set i u)
 | _,_,_,_,_,.nil,_=>.nil
 | _,_,_,_,0,.cons _ t,r=>.cons r t
 | _,_,_,_,i+1,.cons q t,r=>.cons q (sM i t r)
def cPut:TSet
 | .ref p,y,v,H,Q=>(match unD (H p) with
  | some _=>∃ H',DPut H p y v H'∧Q H'
  | none=>match y with
   | .int i=>bnd (unM (H p)) fun xs=>0≤i∧i < xs.length∧Q (upd H p (.lst (xs.set i.toNat v)))
   | _=>False)
 | _,_,_,_,_=>False
theorem yE (hu:X.A.units+64 < cLine):PSet X cPut:=by
 intro pins s σ H o i v ov iv u Q I ro ri rv h
 cases o with
 | ref p=>
  cases ro
  unfold cPut at h
  dsimp only at h
  split at h
  · obtain ⟨H',g,q⟩:=h
    exact wO (Nat.lt_of_le_of_lt (Nat.add_le_add_left (by decide:1≤64) _) hu) I g ri rv fun s' I'=>⟨H',I',q⟩
  · split at h
    · rename_i i
      obtain ⟨xs,e,h0,h1,q⟩:=bm h
      obtain ⟨t,rfl⟩:=ri
      have hH:=j4 e
      obtain ⟨z,its,n,r,hl,eo⟩:=I.lstM hH
      have hs:s.heap.IsList p its.toArray:=⟨_,eo,rfl,n,rfl⟩
      have hz:its.length≤sizeLine:=by rw [← hl]; exact z
      refine up hs h0 ?_ (by rw [List.size_toArray,← hl]; exact h1) ⟨_,I.lset (t':=s.toks) (ys:=xs.set i.toNat v) (its':=its.set i.toNat u) hH eo (by simp) (sM _ r rv) (by rw [List.length_set]; exact z),q⟩
      have:(sizeLine:Int) < 2^63:=by decide
      omega
    · exact h.elim
 | _=>exact False.elim h
end
section
variable {K:PySem.W.Frag} {g:TG} {tb:TS} {D:Ends} {σ:St} {H:Hp} {tl:TE} {ix:List (Option Nat)} {tt:TT} {te ta:TE} {k:Nat} {Q:VK}
theorem lA {r:V→Option Int→Option Int→Hp→VK→Prop} {a b:TO}:tSl r te a b σ H Q=te σ H fun x H1=>a σ H1 fun l H2=>b σ H2 fun u H3=>r x l u H3 Q:=rfl
theorem gU {R:Option Int→Hp→Prop}:tPart te σ H R=te σ H fun x H1=>∃ i,x=.int i∧R (some i) H1:=rfl
theorem dI {R:Option Int→Hp→Prop}:jT σ H R=R none H:=rfl
theorem gW {to ti:TE} {t:TSet} {v:V} {R:St→Hp→Prop}:gSub to ti t v σ H R=to σ H fun o H1=>ti σ H1 fun i H2=>t o i v H2 fun H3=>R σ H3:=rfl
theorem lB {r:V→Hp→VK→Prop}:tUn r te σ H Q=te σ H fun x H1=>r x H1 Q:=rfl
theorem gX:tFor (iStr tl) g tb D σ H=tl σ H fun x H1=>∃ z,x=.str z∧LoopR (Its z) g tb D σ H1:=rfl
theorem fR:tComp ix (iStr tl) g tt te σ H Q=tl σ H fun x H1=>∃ z,x=.str z∧CompR (Its z) g tt te (fun l H'=>Q (.ref l) H') (subσ ix σ) H1:=rfl
theorem dJ:sComp k ix (iStr tl) g tt te D σ H=tl σ H fun x H1=>∃ z,x=.str z∧CompR (Its z) g tt te (fun l H'=>D.nx (σ.set k (some (.ref l))) H') (subσ ix σ) H1:=rfl
theorem yF {x:Str}:tyV K "str" (.str x) H:=rfl
theorem jH {i j:Str}:cEq K (.str i) (.str j) H Q=Q (.bl (decide (i=j))) H:=rfl
theorem jI {i j:Str}:cNe K (.str i) (.str j) H Q=Q (.bl (!decide (i=j))) H:=rfl
theorem gY {z:Str}:kLen [.str z] H Q=(z.length≤sizeLine∧Q (.int z.length) H):=rfl
theorem gf {i j:Str}:cAdd (.str i) (.str j) H Q=(i.length+j.length≤sizeLine∧Q (.str (i++j)) H):=rfl
theorem At {z:Str} {i:Int}:cIx (.str z) (.int i) H Q=(z.length≤sizeLine∧bnd (atI z.cps.toList i) fun c=>Q (.str ⟨#[c]⟩) H):=rfl
theorem gZ {x y:Str}:kFind (.str x) [.str y] H Q=Q (.int (Txt.find x y)) H:=rfl
theorem yX {x y:Str}:pD (.str x) [.str y] H Q=((y.length==0)=false∧x.length≤sizeLine∧(Txt.split x y).length≤sizeLine∧∀ l,H l=none→Q (.ref l) (upd H l (.lst ((Txt.split x y).map V.str)))):=rfl
theorem yG {p:Addr} {i:Int} {v:V} {xs:List V} {R:Hp→Prop} (hp:H p=some (.lst xs)) (h0:0≤i) (h1:i < xs.length) (h:R (upd H p (.lst (xs.set i.toNat v)))):cPut (.ref p) (.int i) v H R:=by
 unfold cPut
 dsimp only
 rw [hp]
 exact ⟨h0,h1,h⟩
theorem Au {p:Addr} {lo hi:Option Int} {xs:List V} (hp:H p=some (.lst xs)) (h:∀ l,H l=none→Q (.ref l) (upd H l (.lst (cutV xs lo hi)))):oB (.ref p) lo hi H Q:=by
 show bnd (unL (H p)) _
 rw [hp]
 exact h
end
end L2
namespace L2
open PySem PySem.Spec PyProof.Rows
def cBitI (g:Int→Int→Int):R2
 | .int i,.int j,H,Q=>Q (.int (g i j)) H
 | _,_,_,_=>False
def cShl:R2
 | .int i,.int j,H,Q=>CPow i j∧Q (.int (i*2^j.toNat)) H
 | _,_,_,_=>False
def cShr:R2
 | .int i,.int j,H,Q=>0≤j∧Q (.int (i / 2^j.toNat)) H
 | _,_,_,_=>False
abbrev cAnd:R2:=cBitI Builtin.bitAnd
abbrev cOr:R2:=cBitI Builtin.bitOr
section
variable {X:Cx}
theorem sN {o:Operator} {g:Int→Int→Int} (h0:OpR X (binaryOp o) (rI0 fun i j=>.int (g i j))):OpR X (binaryOp o) (cBitI g):=by
 intro pins s σ H x y v u Q I rx ry h
 unfold cBitI at h
 split at h
 · exact h0 pins s σ H _ _ v u Q I rx ry ⟨_,_,rfl,rfl,h⟩
 · exact h.elim
theorem yY:OpR X (binaryOp .BitAnd) cAnd:=sN zE
theorem wY:OpR X (binaryOp .BitOr) cOr:=sN Ak
theorem kU:OpR X (binaryOp .LShift) cShl:=by
 intro pins s σ H x y v u Q I rx ry h
 unfold cShl at h
 split at h
 · exact zC pins s σ H _ _ v u Q I rx ry ⟨_,_,rfl,rfl,h.1,h.2⟩
 · exact h.elim
theorem yZ:OpR X (binaryOp .RShift) cShr:=by
 intro pins s σ H x y v u Q I rx ry h
 unfold cShr at h
 split at h
 · exact zD pins s σ H _ _ v u Q I rx ry ⟨_,_,rfl,rfl,h.1,h.2⟩
 · exact h.elim
end
section
variable {H:Hp} {Q:VK} {i j:Int}
theorem kW {g:Int→Int→Int}:cBitI g (.int i) (.int j) H Q=Q (.int (g i j)) H:=rfl
theorem nF:cShr (.int i) (.int j) H Q=(0≤j∧Q (.int (i / 2^j.toNat)) H):=rfl
end
end L2
namespace L2
open PySem PySem.Spec PyProof.Rows
section
variable {X:Cx}
def kInt:List V→Hp→VK→Prop
 | [.int i],H,Q=>Q (.int i) H
 | [.bl k],H,Q=>Q (.int (if k then 1 else 0)) H
 | _,_,_=>False
def kX:V→List V→Hp→VK→Prop
 | .int i,[],H,Q=>Q (.int (Builtin.Int.intBits i:Nat)) H
 | _,_,_,_=>False
theorem pE:MtR X "int.bit_length" kX:=by
 intro pins s σ H x vs v us Q I rx rv h
 unfold kX at h
 split at h
 · obtain ⟨t,rfl⟩:=rx
   cases rv
   exact call_int_bit_length ⟨.int _,H,I.tok _,⟨_,rfl⟩,h⟩
 · exact h.elim
def kAll:List V→Hp→VK→Prop
 | [.ref p],H,Q=>bnd (unL (H p)) fun ys=>∃ bs:List Bool,ys=bs.map V.bl∧Q (.bl (bs.all id)) H
 | _,_,_=>False
theorem wZ (bs:List Bool):(List.range bs.length).all (fun i=>bs.getD i false)=bs.all id:=by
 rw [Bool.eq_iff_iff,List.all_eq_true,List.all_eq_true]
 constructor
 · intro h b hb
   obtain ⟨i,hi,e⟩:=List.mem_iff_getElem.mp hb
   have:=h i (List.mem_range.mpr hi)
   rw [List.getD,List.getElem?_eq_getElem hi,e] at this
   exact this
 · intro h i hi
   have hi':i < bs.length:=List.mem_range.mp hi
   have:=h bs[i] (List.getElem_mem hi')
   simpa [List.getD,hi'] using this
theorem pF:bootBuiltins "all"=some (.builtin "all"):=by decide+kernel
theorem kr (hc:X.calm=true):CallR X (.builtin "all") kAll:=by
 intro pins s σ H xs us Q I r h
 unfold kAll at h
 split at h
 · rename_i p
   obtain ⟨ys,e,bs,rfl,q⟩:=bm h
   obtain ⟨u,rfl,ru⟩:=eJ r
   cases ru
   obtain ⟨its,rv,pl,hz⟩:=I.list (sG e)
   have hl:=rv.length
   rw [List.length_map] at hl
   have hlt:p < s.heap.objs.size:=by
    obtain ⟨o,h1,_⟩:=pl.isList
    exact Heap.lt_size h1
   refine call_all_walkS (wpAny_pyIter_list pl.isList ?_)
   refine ⟨s.heap.objs.size,_,_,_,its.toArray.size,_,_,fun i=>bs.getD i false,rfl,(Walks.list (A:=X.A.in1) (I.ok.hd hc) s.heap.objs.size p (Nat.ne_of_lt hlt) its.toArray).toS,⟨⟨_,Heap.get?_push_size _ rfl,rfl,rfl⟩,pl.isList.push _⟩,?_,fun s' hm=>?_⟩
   · intro i v s1 Q1 E1 hP hQ
     have hv:its[i]? =some v:=by simpa using hP
     obtain ⟨x,hx,rx⟩:=rv.get' hv
     obtain ⟨b,hb,rfl⟩:∃ b,bs[i]? =some b∧V.bl b=x:=by simpa using hx
     cases rx
     refine wpAny_truthy_bool ?_
     have e3:bs.getD i false=b:=by simp [List.getD,hb]
     rw [← e3]
     exact hQ
   · refine ⟨.bl _,H,I.walked (l:=p) hm,?_,q⟩
     have e2:its.toArray.size=bs.length:=by rw [List.size_toArray]; exact hl.symm
     rw [e2,wZ]
     rfl
 · exact h.elim
def Itd (hi:Int) (n:Nat):It:=⟨fun i _=>i < n,fun i H x H'=>H'=H∧x=.int (hi - i),fun i _=>n≤i⟩
def iRngD (ta:TA):TI:=fun σ H R=>ta σ H fun vs H1=>∃ i j:Int,vs=[.int i,.int j,.int (-1)]∧(-(2^60)≤i∧i < 2^60∧ -(2^60)≤j∧j < 2^60)∧R (Itd i (i - j).toNat) H1
end
section
variable {K:PySem.W.Frag} {g:TG} {tb:TS} {D:Ends} {σ:St} {H:Hp} {ta:TA} {Q:VK}
theorem kY {k:Bool}:kInt [.bl k] H Q=Q (.int (if k then 1 else 0)) H:=rfl
theorem kZ {i:Int}:kInt [.int i] H Q=Q (.int i) H:=rfl
theorem iE {i:Int}:kX (.int i) [] H Q=Q (.int (Builtin.Int.intBits i:Nat)) H:=rfl
theorem sk {p:Addr} {bs:List Bool} (hp:H p=some (.lst (bs.map V.bl))) (h:Q (.bl (bs.all id)) H):kAll [.ref p] H Q:=by
 show bnd (unL (H p)) _
 rw [hp]
 exact be (a:=bs.map V.bl) rfl ⟨bs,rfl,h⟩
theorem jU:tFor (iRngD ta) g tb D σ H=ta σ H fun vs H1=>∃ i j:Int,vs=[.int i,.int j,.int (-1)]∧(-(2^60)≤i∧i < 2^60∧ -(2^60)≤j∧j < 2^60)∧LoopR (Itd i (i - j).toNat) g tb D σ H1:=rfl
end
end L2
namespace L2
open PySem PySem.Spec PyProof.Rows
section
variable {X:Cx}
def Ite (K:PySem.W.Frag) (a:Addr):It:=
 ⟨fun i H=>∃ xs x,SqL K H a xs∧xs[i]? =some x,
  fun i H v H'=>∃ T x,v=.ref T∧H T=none∧H'=upd H T (.tup [.int i,x])∧∀ xs,SqL K H a xs→xs[i]? =some x,
  fun i H=>∃ xs,SqL K H a xs∧xs.length≤i⟩
def iEnum (K:PySem.W.Frag) (ta:TA):TI:=fun σ H R=>ta σ H fun vs H1=>∃ a,vs=[.ref a]∧(∃ xs,SqL K H1 a xs)∧R (Ite K a) H1
end
section
variable {K:PySem.W.Frag} {g:TG} {tb:TS} {D:Ends} {σ:St} {H:Hp} {ta:TA} {Q:VK} {ix:List (Option Nat)} {tt:TT} {te:TE} {k:Nat}
theorem k7:tFor (iEnum K ta) g tb D σ H=ta σ H fun vs H1=>∃ a,vs=[.ref a]∧(∃ xs,SqL K H1 a xs)∧LoopR (Ite K a) g tb D σ H1:=rfl
theorem jV:tComp ix (iEnum K ta) g tt te σ H Q=ta σ H fun vs H1=>∃ a,vs=[.ref a]∧(∃ xs,SqL K H1 a xs)∧CompR (Ite K a) g tt te (fun l H'=>Q (.ref l) H') (subσ ix σ) H1:=rfl
theorem iF:sComp k ix (iEnum K ta) g tt te D σ H=ta σ H fun vs H1=>∃ a,vs=[.ref a]∧(∃ xs,SqL K H1 a xs)∧CompR (Ite K a) g tt te (fun l H'=>D.nx (σ.set k (some (.ref l))) H') (subσ ix σ) H1:=rfl
end
end L2
namespace L2
open PySem PySem.Spec PyProof.Rows
end L2
namespace L2
open PySem PySem.Spec PyProof.Rows
end L2
namespace L2
open PySem PySem.Spec PyProof.Rows
def rngL (i j:Int):List Int:=(List.range (j - i).toNat).map fun (k:Nat)=>i+(k:Int)
theorem iG (i j:Int):(rngL i j).length=(j - i).toNat:=by unfold rngL; simp
theorem om:∀ {xs:List V} {us:List Value},xs.length=us.length→(∀ (i:Nat) x u,xs[i]? =some x→us[i]? =some u→RelV x u)→Vals xs us
 | [],[],_,_=>.nil
 | [],_::_,h,_=>by simp at h
 | _::_,[],h,_=>by simp at h
 | x::xs,u::us,h,f=>.cons (f 0 x u rfl rfl) (om (by simpa using h) fun i y e h1 h2=>f (i+1) y e (by simpa using h1) (by simpa using h2))
theorem yc {i j:Int} {acc:Array Value} (h:ItemsOf (fun k v=>∃ t,v=.int (i+k*1) t) acc (j - i).toNat):Vals ((rngL i j).map V.int) acc.toList:=by
 refine om (by rw [List.length_map,iG,Array.length_toList]; exact h.1.symm) fun k x u hx hu=>?_
 obtain ⟨t,rfl⟩:=h.2 k u (by simpa using hu)
 unfold rngL at hx
 rw [List.map_map,List.getElem?_map] at hx
 by_cases hk:k < (j - i).toNat
 · rw [List.getElem?_range hk] at hx
   cases hx
   exact ⟨t,by rw [Int.mul_one]⟩
 · rw [List.getElem?_eq_none (by simpa using hk)] at hx
   cases hx
section
variable {X:Cx}
def jl (ta:TA):TE:=fun σ H Q=>ta σ H fun vs H1=>∃ j:Int,vs=[.int j]∧ -(2^60)≤j∧j≤1000∧∀ l,H1 l=none→Q (.ref l) (upd H1 l (.lst ((rngL 0 j).map V.int)))
def w5 (ta:TA):TE:=fun σ H Q=>ta σ H fun vs H1=>∃ i j:Int,vs=[.int i,.int j]∧(0≤i∧i≤1000∧ -(2^60)≤j∧j≤1000)∧∀ l,H1 l=none→Q (.ref l) (upd H1 l (.lst ((rngL i j).map V.int)))
theorem yd {pins:List (Addr × Obj)} {σ:St} {H1:Hp} {s1:Shared} {Q:VK} {i j:Int} {t u v:Tok} {tk:Nat} {A:Around} {E:Value→Shared→Prop} (hh:A.handled=none) (I1:Inv X pins σ H1 s1) (h1:0≤i) (h2:i≤1000) (h3: -(2^60)≤j) (h4:j≤1000)
  (q:∀ l,H1 l=none→Q (.ref l) (upd H1 l (.lst ((rngL i j).map V.int)))):
  wpAny (model X.prog X.w) A (call (.type "list") [.ref s1.heap.objs.size]) (EP X pins σ Q) E { s1 with heap:=s1.heap.push { cls:=.type "range",data:=.fields #[.int i t,.int j u,.int 1 v] },toks:=tk }:=by
 have I2:Inv X pins σ H1 { s1 with heap:=s1.heap.push { cls:=.type "range",data:=.fields #[.int i t,.int j u,.int 1 v] },toks:=tk }:=I1.kept fun b o e=>Heap.get?_push_of_some _ e
 refine call_list_range (n:=(j - i).toNat) hh (IsRange.new ..) (small_one (by omega) (by omega) (by omega) (by omega)) (by rw [rangeSize_one]; split <;> omega) (by omega) fun h' tk' acc' c' old hS' hacc=>?_
 have hlen:((rngL i j).map V.int).length≤sizeLine:=by rw [List.length_map,iG]; exact Nat.le_of_lt (aK (by omega))
 exact ⟨.ref _,_,I2.laid (t':=tk') (o:=.lst ((rngL i j).map V.int)) old (Nat.le_refl _) ⟨hlen,acc'.toList,c',yc hacc,hS'⟩,rfl,q _ (I2.hok.fresh (Nat.le_refl _))⟩
theorem kF {a:Expr} {ta:TA} {p p2 pos pos2:Pos} (hc:X.calm=true) (hgl:Gl X "list") (hgr:Gl X "range") (hl:X.mg "list"=none) (hr:X.mg "range"=none) (ha:PA X [a] ta)
  (hs1:starEach [.Call (.Name "range" p2) [a] [] pos2] X.env=[(false,eval (.Call (.Name "range" p2) [a] [] pos2) X.env)]:=by rfl) (hs:starEach [a] X.env=[(false,eval a X.env)]:=by rfl):
  PE X (.Call (.Name "list" p) [.Call (.Name "range" p2) [a] [] pos2] [] pos) (jl ta):=by
 intro pins s σ H Q I h
 refine wpAny_Call_Name_kw (gI I hgl hl d7 ?_ (by decide) (by decide))
 refine PyProof.Rows.callWith_type1 ?_ hs1 rfl
 rw [hs1]
 show wpAny _ _ (spliced [(false,eval (.Call (.Name "range" p2) [a] [] pos2) X.env)]) _ _ s
 refine Calls.spliced_cons ?_
 refine Call_ (gI I hgr hr boot_range (PyProof.Rows.callWith_type1 (thn (ha pos2 pins s σ H _ I h) fun us s1 ⟨vs,H1,I1,r1,q1⟩=>?_) hs rfl))
 obtain ⟨j,e,q1,q2,q⟩:=q1
 subst e
 cases r1 with
 | cons r rr=>
  cases rr
  obtain ⟨t,rfl⟩:=r
  refine call_range_1 ?_
  refine Calls.spliced_nil ?_
  exact yd (I.ok.hd hc) I1 (by omega) (by omega) q1 q2 q
end
section
variable {σ:St} {H:Hp} {Q:VK} {ta:TA}
theorem jW:jl ta σ H Q=ta σ H fun vs H1=>∃ j:Int,vs=[.int j]∧ -(2^60)≤j∧j≤1000∧∀ l,H1 l=none→Q (.ref l) (upd H1 l (.lst ((rngL 0 j).map V.int))):=rfl
theorem jX:w5 ta σ H Q=ta σ H fun vs H1=>∃ i j:Int,vs=[.int i,.int j]∧(0≤i∧i≤1000∧ -(2^60)≤j∧j≤1000)∧∀ l,H1 l=none→Q (.ref l) (upd H1 l (.lst ((rngL i j).map V.int))):=rfl
end
end L2
namespace L2
def besL (h w c:Int):List Int:=(if 0 < c / w then [c - w] else [])++(if 0 < c % w then [c - 1] else [])++(if c % w < w - 1 then [c+1] else [])++(if c / w < h - 1 then [c+w] else [])
inductive RC (h w:Int) (cs:List Int) (st:Int):Int→Prop
 | start:st∈cs→RC h w cs st st
 | step {x y:Int}:RC h w cs st x→y∈besL h w x→y∈cs→RC h w cs st y
theorem RC.mem {h w:Int} {cs:List Int} {st x:Int} (r:RC h w cs st x):x∈cs:=by cases r <;> assumption
theorem RC.st {h w:Int} {cs:List Int} {st x:Int} (r:RC h w cs st x):st∈cs:=by
 induction r with
 | start h=>exact h
 | step _ _ _ ih=>exact ih
theorem lC:∀ {xs ys:List Int},xs.Nodup→(∀ x∈xs,x∈ys)→xs.length≤ys.length
 | [],_,_,_=>Nat.zero_le _
 | x::xs,ys,nd,h=>by
  have hx:=h x List.mem_cons_self
  have nd':=List.nodup_cons.mp nd
  have ih:=lC (xs:=xs) (ys:=ys.erase x) nd'.2 fun y hy=>by
   have ne:y≠x:=fun e=>nd'.1 (e ▸ hy)
   exact (List.mem_erase_of_ne ne).mpr (h y (List.mem_cons_of_mem _ hy))
  rw [List.length_erase_of_mem hx] at ih
  have:0 < ys.length:=List.length_pos_of_mem hx
  simp only [List.length_cons]
  omega
structure BI (h w:Int) (cs:List Int) (st:Int) (fs:List Int) (pl:Nat):Prop where
 nd:fs.Nodup
 rc:∀ x∈fs,RC h w cs st x
 hst:st∈fs
 le:pl≤fs.length
 cl:∀ (i:Nat) (x y:Int),i < pl→fs[i]? =some x→y∈besL h w x→y∈cs→y∈fs
theorem BI.len {h w:Int} {cs:List Int} {st:Int} {fs:List Int} {pl:Nat} (b:BI h w cs st fs pl):fs.length≤cs.length:=lC b.nd fun x hx=>(b.rc x hx).mem
theorem BI.start {h w:Int} {cs:List Int} {st:Int} (hs:st∈cs):BI h w cs st [st] 0:=
 ⟨by simp,fun x hx=>by rw [List.mem_singleton.mp hx]; exact .start hs,by simp,Nat.zero_le _,fun i x y hi=>absurd hi (Nat.not_lt_zero _)⟩
theorem BI.done {h w:Int} {cs:List Int} {st:Int} {fs:List Int} {pl:Nat} (b:BI h w cs st fs pl) (e:¬ pl < fs.length) (x:Int):x∈fs↔RC h w cs st x:=by
 refine ⟨b.rc x,fun r=>?_⟩
 induction r with
 | start _=>exact b.hst
 | step r hy hc ih=>
  obtain ⟨i,hi⟩:=List.getElem?_of_mem ih
  have hlt:i < fs.length:=(List.getElem?_eq_some_iff.mp hi).1
  exact b.cl i _ _ (by omega) hi hy hc
def addC (cs fs:List Int) (y:Int):List Int:=if y∈cs∧¬ y∈fs then fs++[y] else fs
structure BJ (h w:Int) (cs:List Int) (st:Int) (f0:List Int) (pl:Nat) (bs:List Int) (fs:List Int):Prop where
 nd:fs.Nodup
 rc:∀ x∈fs,RC h w cs st x
 pre:f0 <+:fs
 al:∀ y∈bs,y∈cs→y∈fs
theorem BJ.zero {h w:Int} {cs:List Int} {st:Int} {fs:List Int} {pl:Nat} (b:BI h w cs st fs pl):BJ h w cs st fs pl [] fs:=⟨b.nd,b.rc,List.prefix_refl _,fun y hy=>nomatch hy⟩
theorem BJ.more {h w:Int} {cs:List Int} {st:Int} {f0 fs bs:List Int} {pl:Nat} {x y:Int} (j:BJ h w cs st f0 pl bs fs) (hx:RC h w cs st x) (hy:y∈besL h w x):BJ h w cs st f0 pl (bs++[y]) (addC cs fs y):=by
 unfold addC
 split
 · rename_i hc
   refine ⟨?_,fun z hz=>?_,j.pre.trans (List.prefix_append _ _),fun z hz hzc=>?_⟩
   · refine List.nodup_append.mpr ⟨j.nd,by simp,fun a ha b hb=>?_⟩
     rw [List.mem_singleton.mp hb]
     intro e
     exact hc.2 (e ▸ ha)
   · rcases List.mem_append.mp hz with hz | hz
     · exact j.rc z hz
     · rw [List.mem_singleton.mp hz]
       exact .step hx hy hc.1
   · rcases List.mem_append.mp hz with hz | hz
     · exact List.mem_append_left _ (j.al z hz hzc)
     · rw [List.mem_singleton.mp hz]
       simp
 · rename_i hc
   refine ⟨j.nd,j.rc,j.pre,fun z hz hzc=>?_⟩
   rcases List.mem_append.mp hz with hz | hz
   · exact j.al z hz hzc
   · rw [List.mem_singleton.mp hz] at hzc ⊢
     exact Decidable.byContradiction fun n=>hc ⟨hzc,n⟩
theorem BJ.done {h w:Int} {cs:List Int} {st:Int} {f0 fs:List Int} {pl:Nat} {x:Int} (b:BI h w cs st f0 pl) (hx:f0[pl]? =some x) (j:BJ h w cs st f0 pl (besL h w x) fs):BI h w cs st fs (pl+1):=by
 have hlt:pl < f0.length:=(List.getElem?_eq_some_iff.mp hx).1
 have hle:=j.pre.length_le
 have get:∀ i,i < f0.length→fs[i]? =f0[i]? :=fun i hi=>by
  obtain ⟨t,e⟩:=j.pre
  rw [← e,List.getElem?_append_left hi]
 refine ⟨j.nd,j.rc,j.pre.subset b.hst,by omega,fun i z y hi hz hy hc=>?_⟩
 rw [get i (by omega)] at hz
 by_cases e:i < pl
 · exact j.pre.subset (b.cl i z y e hz hy hc)
 · have:i=pl:=by omega
   subst this
   rw [hx] at hz
   cases hz
   exact j.al y hy hc
theorem w9 {rs fs:List Int} (p:rs.Perm fs) (s:rs.Pairwise (· ≤·)) (nd:fs.Nodup):rs.Pairwise (· < ·):=by
 have nd':rs.Nodup:=p.nodup_iff.mpr nd
 refine (s.and nd').imp ?_
 intro a b h
 have:=h.1
 have:=h.2
 omega
theorem y1 {h w x y:Int}:y∈besL h w x↔(0 < x / w∧y=x - w)∨(0 < x % w∧y=x - 1)∨(x % w < w - 1∧y=x+1)∨(x / w < h - 1∧y=x+w):=by
 unfold besL
 simp only [List.mem_append]
 constructor
 · rintro (((q | q) | q) | q)
   · split at q
     · simp at q; exact .inl ⟨by assumption,q⟩
     · cases q
   · split at q
     · simp at q; exact .inr (.inl ⟨by assumption,q⟩)
     · cases q
   · split at q
     · simp at q; exact .inr (.inr (.inl ⟨by assumption,q⟩))
     · cases q
   · split at q
     · simp at q; exact .inr (.inr (.inr ⟨by assumption,q⟩))
     · cases q
 · rintro (⟨q,rfl⟩ | ⟨q,rfl⟩ | ⟨q,rfl⟩ | ⟨q,rfl⟩)
   · rw [if_pos q]; simp
   · rw [if_pos q]; simp
   · rw [if_pos q]; simp
   · rw [if_pos q]; simp
end L2
namespace L2
open PySem PySem.Spec PyProof.Rows
local macro_rules | `(tactic| walk_at "w")=>`(tactic| (first | simp only [aP,gc,fO,cp,i9,w_c,lw,gK,gL,gd,gM,w_b,w_not,jq,lx,gN,gO,jr,ja,ge,ly,gP,js,jt,kE,ju,gQ,gR,gS,gT,fP,fQ,dt,dG,dH,cZ,jv,jw,jx,jy,jz,jA,jB,jC,jD,jE,jF,jG,lA,gU,dI,gW,lB,gX,fR,dJ,jH,jI,gY,gf,gZ,
 List.getElem?_cons_zero,List.getElem?_cons_succ,Option.some.injEq,exists_eq_left',exists_eq_left,List.set_cons_zero,List.set_cons_succ,dc,V.int.injEq,V.bl.injEq,V.ref.injEq,V.str.injEq,List.append_nil,List.nil_append,List.cons_append] | dsimp only | skip))
theorem aD {n:Nat} (h:n≤1000):n≤sizeLine:=Nat.le_of_lt (aK h)
def IsFl (H:Hp) (a:Addr) (h w g:Int):Prop:=H a=some (.tup [.int h,.int w,.int g])
theorem Same.laid {H H':Hp} {p:Addr} {o:HO} (s:Same H H') (h:H' p=none):Same H (upd H' p o):=fun b u e=>by
 rw [av (aH (s b u e) h)]
 exact s b u e
theorem Same.own {H H':Hp} {p:Addr} {o:HO} (s:Same H H') (h:H p=none):Same H (upd H' p o):=fun b u e=>by
 rw [av (aH e h)]
 exact s b u e
theorem nG {l:List Int} {i:Nat} {x:Int} (h:l[i]? =some x):l.getD i 0=x:=by
 rw [List.getD,h]; rfl
theorem oC {ns:List Int} {k:Int} (h0:0≤k) (h1:k < ns.length):atI (ns.map V.int) k=some (.int (ns.getD k.toNat 0)):=by
 have e:((k.toNat:Nat):Int)=k:=Int.toNat_of_nonneg h0
 have hlt:k.toNat < ns.length:=by omega
 have:(ns.map V.int)[k.toNat]? =some (.int (ns.getD k.toNat 0)):=by
  rw [List.getElem?_map,List.getElem?_eq_getElem hlt]
  simp [List.getD,hlt]
 have q:=dn this
 rw [e] at q
 exact q
theorem fD {α:Type} (l:List α):l.filter (fun _=>true)=l:=List.filter_eq_self.mpr fun _ _=>rfl
theorem gh {l:List Int} {i:Nat} {y:V} (h:(l.map V.int)[i]? =some y):∃ z,l[i]? =some z∧y=.int z:=by
 rw [List.getElem?_map] at h
 cases e:l[i]? with
 | none=>rw [e] at h; cases h
 | some z=>rw [e] at h; cases h; exact ⟨z,rfl,rfl⟩
theorem uq {l:List Addr} {i:Nat} {y:V} (h:(l.map V.ref)[i]? =some y):∃ z,l[i]? =some z∧y=.ref z:=by
 rw [List.getElem?_map] at h
 cases e:l[i]? with
 | none=>rw [e] at h; cases h
 | some z=>rw [e] at h; cases h; exact ⟨z,rfl,rfl⟩
theorem fE {h w:Int} (h0:1≤h) (h1:h≤6):CMul h w:=.inl ⟨by omega,by omega⟩
theorem oE {ps:List Addr} {k:Int} {p:Addr} (h0:0≤k) (h:ps[k.toNat]? =some p):atI (ps.map V.ref) k=some (.ref p):=by
 have e:((k.toNat:Nat):Int)=k:=Int.toNat_of_nonneg h0
 have q0:(ps.map V.ref)[k.toNat]? =some (.ref p):=by rw [List.getElem?_map,h]; rfl
 have q:=dn q0
 rw [e] at q
 exact q
section
variable {k:Nat} {lo:Int} {n:Nat} {tt:TT} {te:TE} {fin:Addr→Hp→Prop} {σ0:St} {H1:Hp} {K:PySem.W.Frag} {a:Addr}
theorem lD {n i:Nat} (b:Nat→Bool) (h:i < n) (hn:n≤900):((List.range i).filter b).length≤900:=by
 have:=List.length_filter_le b (List.range i)
 rw [List.length_range] at this
 omega
theorem ur (b:Nat→Bool) (f:Nat→V) (hn:n≤900)
  (ht:∀ i H R,i < n→Same H1 H→(∀ H',Same H H'→R (b i) H')→tt (σ0.set k (some (.int (lo+i)))) H R)
  (he:∀ i H Q,i < n→b i=true→Same H1 H→(∀ H',Same H H'→Q (f i) H')→te (σ0.set k (some (.int (lo+i)))) H Q)
  (hd:∀ l H,H1 l=none→Same H1 H→H l=some (.lst (((List.range n).filter b).map f))→fin l H):
  CompR (Itr lo n) (gName k) tt te fin σ0 H1:=by
 refine pC (fun l i σ H=>(σ=σ0∨∃ cv,σ=σ0.set k cv)∧Same H1 H∧H l=some (.lst (((List.range i).filter b).map f))) (fun l hl=>⟨.inl rfl,(Same.refl H1).laid hl,by rw [ah]; rfl⟩) ?_ (fun l σ H hl p=>hd l H hl p.2.1 p.2.2)
 rintro l i σ H hl hi ⟨hσ,s1,el⟩
 rw [cp]
 have e:σ.set k (some (.int (lo+i)))=σ0.set k (some (.int (lo+i))):=by
  rcases hσ with rfl | ⟨cv,rfl⟩
  · rfl
  · exact List.set_set ..
 rw [e]
 refine ht i H _ hi s1 fun H2 s2=>?_
 have el2:=s2 _ _ el
 cases hb:b i with
 | false=>
  rw [if_neg Bool.false_ne_true]
  refine ⟨.inr ⟨_,rfl⟩,s1.trans s2,?_⟩
  rw [List.range_succ,List.filter_append,List.filter_cons,hb]
  simpa using el2
 | true=>
  rw [if_pos rfl]
  refine he i H2 _ hi hb (s1.trans s2) fun H3 s3=>⟨_,s3 _ _ el2,by rw [List.length_map]; exact aK (Nat.le_trans (lD b hi hn) (by decide)),.inr ⟨_,rfl⟩,((s1.trans s2).trans s3).own hl,?_⟩
  rw [ah,List.range_succ,List.filter_append,List.filter_cons,hb]
  simp
theorem dL {xs:List V} (b:Nat→Bool) (f:Nat→V) (hn:xs.length≤900) (hq:SqL K H1 a xs)
  (ht:∀ i x H R,xs[i]? =some x→Same H1 H→(∀ H',Same H H'→R (b i) H')→tt (σ0.set k (some x)) H R)
  (he:∀ i x H Q,xs[i]? =some x→b i=true→Same H1 H→(∀ H',Same H H'→Q (f i) H')→te (σ0.set k (some x)) H Q)
  (hd:∀ l H,H1 l=none→Same H1 H→H l=some (.lst (((List.range xs.length).filter b).map f))→fin l H):
  CompR (Itl K a) (gName k) tt te fin σ0 H1:=by
 refine rj (xs:=xs) (fun l i σ H=>(σ=σ0∨∃ cv,σ=σ0.set k cv)∧Same H1 H∧H l=some (.lst (((List.range i).filter b).map f))) (fun l hl=>⟨.inl rfl,(Same.refl H1).laid hl,by rw [ah]; rfl⟩) (fun l i σ H _ _ p=>p.2.1.seq hq) ?_ (fun l σ H hl p=>hd l H hl p.2.1 p.2.2)
 rintro l i x σ H hl hx ⟨hσ,s1,el⟩
 have hi:i < xs.length:=(List.getElem?_eq_some_iff.mp hx).1
 rw [cp]
 have e:σ.set k (some x)=σ0.set k (some x):=by
  rcases hσ with rfl | ⟨cv,rfl⟩
  · rfl
  · exact List.set_set ..
 rw [e]
 refine ht i x H _ hx s1 fun H2 s2=>?_
 have el2:=s2 _ _ el
 cases hb:b i with
 | false=>
  rw [if_neg Bool.false_ne_true]
  refine ⟨.inr ⟨_,rfl⟩,s1.trans s2,?_⟩
  rw [List.range_succ,List.filter_append,List.filter_cons,hb]
  simpa using el2
 | true=>
  rw [if_pos rfl]
  refine he i x H2 _ hx hb (s1.trans s2) fun H3 s3=>⟨_,s3 _ _ el2,by rw [List.length_map]; exact aK (Nat.le_trans (lD b hi hn) (by decide)),.inr ⟨_,rfl⟩,((s1.trans s2).trans s3).own hl,?_⟩
  rw [ah,List.range_succ,List.filter_append,List.filter_cons,hb]
  simp
theorem gi (b:Nat→Bool) (f:Nat→Int) (hn:n≤900)
  (ht:∀ i H R,i < n→Same H1 H→(∀ H',Same H H'→R (b i) H')→tt (σ0.set k (some (.int (lo+i)))) H R)
  (he:∀ i H Q,i < n→b i=true→Same H1 H→(∀ H',Same H H'→Q (.int (f i)) H')→te (σ0.set k (some (.int (lo+i)))) H Q)
  (hd:∀ l H,H1 l=none→Same H1 H→H l=some (.lst ((((List.range n).filter b).map f).map V.int))→fin l H):
  CompR (Itr lo n) (gName k) tt te fin σ0 H1:=
 ur b (fun i=>.int (f i)) hn ht he fun l H hl s1 el=>hd l H hl s1 (by rw [List.map_map]; exact el)
theorem xa (b:Int→Bool) (f:Int→Int) (xs:List Int):((List.range xs.length).filter fun i=>b (xs.getD i 0)).map (fun i=>V.int (f (xs.getD i 0)))=((xs.filter b).map f).map V.int:=by
 have e:xs=(List.range xs.length).map fun i=>xs.getD i 0:=by
  refine List.ext_getElem? fun i=>?_
  rw [List.getElem?_map]
  by_cases h:i < xs.length
  · rw [List.getElem?_range h,List.getElem?_eq_getElem h]
    simp [List.getD,h]
  · rw [List.getElem?_eq_none (by omega),List.getElem?_eq_none (by simpa using h)]; rfl
 conv=>rhs; rw [e]
 rw [List.filter_map,List.map_map,List.map_map]
 rfl
theorem bP {xs:List Int} (b:Int→Bool) (f:Int→Int) (hn:xs.length≤900) (hq:SqL K H1 a (xs.map V.int))
  (ht:∀ x H R,x∈xs→Same H1 H→(∀ H',Same H H'→R (b x) H')→tt (σ0.set k (some (.int x))) H R)
  (he:∀ x H Q,x∈xs→b x=true→Same H1 H→(∀ H',Same H H'→Q (.int (f x)) H')→te (σ0.set k (some (.int x))) H Q)
  (hd:∀ l H,H1 l=none→Same H1 H→H l=some (.lst (((xs.filter b).map f).map V.int))→fin l H):
  CompR (Itl K a) (gName k) tt te fin σ0 H1:=by
 refine dL (xs:=xs.map V.int) (fun i=>b (xs.getD i 0)) (fun i=>.int (f (xs.getD i 0))) (by rw [List.length_map]; exact hn) hq ?_ ?_ ?_
 · intro i x H R hx s1 h
   obtain ⟨z,hz,rfl⟩:=gh hx
   rw [nG hz] at h
   exact ht z H R (List.mem_of_getElem? hz) s1 h
 · intro i x H Q hx hb s1 h
   obtain ⟨z,hz,rfl⟩:=gh hx
   rw [nG hz] at h hb
   exact he z H Q (List.mem_of_getElem? hz) hb s1 h
 · intro l H hl s1 el
   refine hd l H hl s1 ?_
   rw [List.length_map] at el
   rw [el,xa]
structure NewAt (H1 H:Hp) (l:Addr) (as:List Addr) (os:List HO):Prop where
 len:as.length=os.length
 nd:as.Nodup
 nl:l∉as
 fr:∀ a∈as,H1 a=none
 at_:∀ (j:Nat) (a:Addr) (o:HO),as[j]? =some a→os[j]? =some o→H a=some o
theorem NewAt.nil {H1 H:Hp} {l:Addr}:NewAt H1 H l [] [] where
 len:=rfl
 nd:=List.nodup_nil
 nl:=by simp
 fr:=fun a h=>nomatch h
 at_:=fun j a o h=>by simp at h
theorem NewAt.same {H1 H H':Hp} {l:Addr} {as:List Addr} {os:List HO} (x:NewAt H1 H l as os) (s:Same H H'):NewAt H1 H' l as os:=
 ⟨x.len,x.nd,x.nl,x.fr,fun j a o h1 h2=>s _ _ (x.at_ j a o h1 h2)⟩
theorem NewAt.mem {H1 H:Hp} {l:Addr} {as:List Addr} {os:List HO} (x:NewAt H1 H l as os) {a:Addr} (h:a∈as):∃ o,H a=some o:=by
 obtain ⟨j,hj,e⟩:=List.mem_iff_getElem.mp h
 have hj2:j < os.length:=by rw [← x.len]; exact hj
 exact ⟨os[j],x.at_ j a os[j] (by rw [List.getElem?_eq_getElem hj,e]) (List.getElem?_eq_getElem hj2)⟩
theorem NewAt.more {H1 H H2:Hp} {l p:Addr} {as:List Addr} {os:List HO} {o u:HO} (x:NewAt H1 H l as os) (s1:Same H1 H) (s:Same H H2) (hp:H p=none) (e:H2 p=some o) (hl:H l=some u) (o':HO):NewAt H1 (upd H2 l o') l (as++[p]) (os++[o]):=by
 have npl:p≠l:=fun z=>by rw [z,hl] at hp; cases hp
 refine ⟨by simp [x.len],?_,?_,?_,?_⟩
 · refine List.nodup_append.mpr ⟨x.nd,by simp,fun a ha b hb z=>?_⟩
   rw [List.mem_singleton.mp hb] at z
   obtain ⟨o2,e2⟩:=x.mem ha
   rw [z,hp] at e2; cases e2
 · intro hm
   rcases List.mem_append.mp hm with hm | hm
   · exact x.nl hm
   · exact npl (List.mem_singleton.mp hm).symm
 · intro a ha
   rcases List.mem_append.mp ha with ha | ha
   · exact x.fr a ha
   · rw [List.mem_singleton.mp ha]
     cases q:H1 p with
     | none=>rfl
     | some v=>rw [s1 _ _ q] at hp; cases hp
 · intro j a o2 h1 h2
   have hlen:=x.len
   by_cases hj:j < as.length
   · rw [List.getElem?_append_left hj] at h1
     rw [List.getElem?_append_left (by omega)] at h2
     have nal:a≠l:=fun z=>x.nl (z ▸ List.mem_of_getElem? h1)
     rw [av nal]
     exact s _ _ (x.at_ j a o2 h1 h2)
   · rw [List.getElem?_append_right (by omega)] at h1
     rw [List.getElem?_append_right (by omega)] at h2
     have e0:j - as.length=0:=by
      have:=(List.getElem?_eq_some_iff.mp h1).1
      simp at this
      omega
     rw [e0] at h1
     rw [show j - os.length=0 by omega] at h2
     simp at h1 h2
     subst h1 h2
     rw [av npl]
     exact e
theorem ut (b:Nat→Bool) (o:Nat→HO) (hn:n≤900)
  (ht:∀ i H R,i < n→Same H1 H→(∀ H',Same H H'→R (b i) H')→tt (σ0.set k (some (.int (lo+i)))) H R)
  (he:∀ i H Q,i < n→b i=true→Same H1 H→(∀ a H',Same H H'→H a=none→H' a=some (o i)→Q (.ref a) H')→te (σ0.set k (some (.int (lo+i)))) H Q)
  (hd:∀ l as H,H1 l=none→Same H1 H→H l=some (.lst (as.map V.ref))→NewAt H1 H l as (((List.range n).filter b).map o)→fin l H):
  CompR (Itr lo n) (gName k) tt te fin σ0 H1:=by
 refine pC (fun l i σ H=>(σ=σ0∨∃ cv,σ=σ0.set k cv)∧Same H1 H∧∃ as:List Addr,H l=some (.lst (as.map V.ref))∧NewAt H1 H l as (((List.range i).filter b).map o)) (fun l hl=>⟨.inl rfl,(Same.refl H1).laid hl,[],by rw [ah]; rfl,NewAt.nil⟩) ?_ (fun l σ H hl ⟨_,s1,as,el,x⟩=>hd l as H hl s1 el x)
 rintro l i σ H hl hi ⟨hσ,s1,as,el,x⟩
 rw [cp]
 have e:σ.set k (some (.int (lo+i)))=σ0.set k (some (.int (lo+i))):=by
  rcases hσ with rfl | ⟨cv,rfl⟩
  · rfl
  · exact List.set_set ..
 rw [e]
 refine ht i H _ hi s1 fun H2 s2=>?_
 have el2:=s2 _ _ el
 have x2:=x.same s2
 have s12:=s1.trans s2
 cases hb:b i with
 | false=>
  rw [if_neg Bool.false_ne_true]
  refine ⟨.inr ⟨_,rfl⟩,s12,as,el2,?_⟩
  rw [List.range_succ,List.filter_append,List.filter_cons,hb]
  simpa using x2
 | true=>
  rw [if_pos rfl]
  refine he i H2 _ hi hb s12 fun p H3 s3 hp ep=>⟨_,s3 _ _ el2,?_,.inr ⟨_,rfl⟩,(s12.trans s3).own hl,as++[p],?_,?_⟩
  · rw [List.length_map,x2.len,List.length_map]; exact aK (Nat.le_trans (lD b hi hn) (by decide))
  · rw [ah]; simp
  · have y:=x2.more s12 s3 hp ep el2 (.lst (as.map V.ref++[V.ref p]))
    rw [List.range_succ,List.filter_append,List.filter_cons,hb]
    simpa using y
end
theorem vd:∀ {ds:List PyData},(∀ d∈ds,PyData.canLay0 d=true)→PyData.canLayAll0 ds=true
 | [],_=>rfl
 | d::r,h=>by rw [PyData.canLayAll0,h d List.mem_cons_self,vd fun e he=>h e (List.mem_cons_of_mem _ he)]; rfl
theorem rn {n:Nat}:∀ {ds:List PyData},(∀ d∈ds,PyData.depth d≤n)→PyData.depthAll ds≤n
 | [],_=>Nat.zero_le _
 | d::r,h=>by rw [PyData.depthAll]; exact Nat.max_le.mpr ⟨h d List.mem_cons_self,rn fun e he=>h e (List.mem_cons_of_mem _ he)⟩
theorem qN {α:Type} [DecidableEq α] (g:α→PyData) (hg:∀ a b,PyData.eqv (g a) (g b)=decide (a=b)):∀ xs ys:List α,PyData.eqvAll (xs.map g) (ys.map g)=decide (xs=ys)
 | [],[]=>rfl
 | [],_::_=>rfl
 | _::_,[]=>rfl
 | x::xs,y::ys=>by
  rw [List.map_cons,List.map_cons,PyData.eqvAll,hg,qN g hg xs ys,Bool.eq_iff_iff]
  simp
structure IsLL (H:Hp) (l:Addr) (as:List Addr) (xss:List (List Int)):Prop where
 top:H l=some (.lst (as.map V.ref))
 len:as.length=xss.length
 at_:∀ (j:Nat) (a:Addr) (xs:List Int),as[j]? =some a→xss[j]? =some xs→H a=some (.lst (xs.map V.int))
theorem IsLL.same {H H':Hp} {l:Addr} {as:List Addr} {xss:List (List Int)} (x:IsLL H l as xss) (s:Same H H'):IsLL H' l as xss:=
 ⟨s _ _ x.top,x.len,fun j a xs h1 h2=>s _ _ (x.at_ j a xs h1 h2)⟩
def c5 (K:PySem.W.Frag):Sp:=fun vs H Q _=>∃ (a:Addr) (h w g c:Int),vs=[.ref a,.int c]∧IsFl H a h w g∧0 < w∧w < 100∧∀ p,H p=none→Q (.ref p) (upd H p (.tup [.int (c / w),.int (c % w)]))
theorem vH {K:PySem.W.Frag} {vs:List V} {H:Hp} {Q:VK} {E:XK} (h:c5 K vs H Q E):vs.length=2:=by
 obtain ⟨_,_,_,_,_,rfl,_⟩:=h; rfl
def jJ (K:PySem.W.Frag):TS:=
 (tSeq (tAsg (tOp cIx (tVar 0) (tC (.int 1))) (gName 2))
  (tRet (tTup (tCons (tOp cDiv (tVar 1) (tVar 2)) (tCons (tOp cMod (tVar 1) (tVar 2)) tNil)))))
theorem vI {K:PySem.W.Frag} {vs:List V} {H:Hp} {Q:VK} {E:XK} (h:c5 K vs H Q E):jJ K { nx:=fun _ H'=>Q .non H',rt:=Q } (start ["floor","cell","wide"] vs) H:=by
 obtain ⟨a,h,w,g,c,rfl,ha,w0,w1,k⟩:=h
 show jJ K _ [some (.ref a),some (.int c),none] H
 unfold jJ
 walk_at "w"
 rw [gu ha]
 refine be (a:=V.int w) rfl ?_
 walk_at "w"
 refine ⟨⟨w0,by omega⟩,w0,aD (by show (2:Nat)≤1000; decide),k⟩
theorem sO (h w c:Int):(besL h w c).length≤4:=by
 unfold besL
 simp only [List.length_append]
 split <;> split <;> split <;> split <;> simp
def bL (K:PySem.W.Frag):Sp:=fun vs H Q _=>∃ (a:Addr) (h w g c:Int),vs=[.ref a,.int c]∧IsFl H a h w g∧0 < w∧w < 100∧∀ l H',Same H H'→H l=none→H' l=some (.lst ((besL h w c).map V.int))→Q (.ref l) H'
theorem xf {K:PySem.W.Frag} {vs:List V} {H:Hp} {Q:VK} {E:XK} (h:bL K vs H Q E):vs.length=2:=by
 obtain ⟨_,_,_,_,_,rfl,_⟩:=h; rfl
def kt (K:PySem.W.Frag):TS:=
 (tSeq (tAsg (tOp cIx (tVar 0) (tC (.int 0))) (gName 2))
  (tSeq (tAsg (tOp cIx (tVar 0) (tC (.int 1))) (gName 3))
  (tSeq (tAsg (tCall (c5 K) [] E0 (tCons (tVar 0) (tCons (tVar 1) tNil))) (gName 4))
  (tSeq (tAsg (tLst tNil) (gName 5))
  (tSeq (tIfS (tTest (tOp (cCmp fun i j=>decide (j < i)) (tOp cIx (tVar 4) (tC (.int 0))) (tC (.int 0)))) (tDrop (tBM K "list" a9 (tVar 5) (tCons (tOp cSub (tVar 1) (tVar 3)) tNil))) tNext)
  (tSeq (tIfS (tTest (tOp (cCmp fun i j=>decide (j < i)) (tOp cIx (tVar 4) (tC (.int 1))) (tC (.int 0)))) (tDrop (tBM K "list" a9 (tVar 5) (tCons (tOp cSub (tVar 1) (tC (.int 1))) tNil))) tNext)
  (tSeq (tIfS (tTest (tOp (cCmp fun i j=>decide (i < j)) (tOp cIx (tVar 4) (tC (.int 1))) (tOp cSub (tVar 3) (tC (.int 1))))) (tDrop (tBM K "list" a9 (tVar 5) (tCons (tOp cAdd (tVar 1) (tC (.int 1))) tNil))) tNext)
  (tSeq (tIfS (tTest (tOp (cCmp fun i j=>decide (i < j)) (tOp cIx (tVar 4) (tC (.int 0))) (tOp cSub (tVar 2) (tC (.int 1))))) (tDrop (tBM K "list" a9 (tVar 5) (tCons (tOp cAdd (tVar 1) (tVar 3)) tNil))) tNext)
  (tRet (tVar 5))))))))))
theorem mH {K:PySem.W.Frag} {D:Ends} {σ:St} {H:Hp} {t:TT} {e:TE} {b:Bool} {v:Int} {l:Addr} {i:Nat} {ns:List Int} (hσ:σ[i]? =some (some (.ref l))) (ht:∀ R,R b H→t σ H R) (hl:H l=some (.lst (ns.map V.int))) (hn:ns.length≤900)
  (he:∀ Q,Q (.int v) H→e σ H Q) (k:∀ H',(H' l=some (.lst ((ns++if b=true then [v] else []).map V.int)))→(∀ c,c≠l→H' c=H c)→D.nx σ H'):
  tIfS t (tDrop (tBM K "list" a9 (tVar i) (tCons e tNil))) tNext D σ H:=by
 rw [aA]
 refine ht _ ?_
 cases b with
 | false=>
  refine iteF ?_
  rw [gc]
  exact k H (by simpa using hl) fun _ _=>rfl
 | true=>
  refine iteT ?_
  rw [gd,kE,i9]
  refine ⟨_,hσ,bn hl,?_⟩
  rw [ge]
  refine he _ ?_
  rw [ja,dF hl]
  refine ⟨by rw [List.length_map]; exact aK (by omega),k _ ?_ fun c hc=>av hc⟩
  rw [ah]
  simp
theorem xg {K:PySem.W.Frag} {vs:List V} {H:Hp} {Q:VK} {E:XK} (h:bL K vs H Q E):kt K { nx:=fun _ H'=>Q .non H',rt:=Q } (start ["floor","cell","high","wide","spot","found"] vs) H:=by
 obtain ⟨a,h,w,g,c,rfl,ha,w0,w1,k⟩:=h
 show kt K _ [some (.ref a),some (.int c),none,none,none,none] H
 unfold kt
 walk_at "w"
 rw [gu ha]
 refine be (a:=V.int h) rfl ?_
 walk_at "w"
 rw [gu ha]
 refine be (a:=V.int w) rfl ?_
 walk_at "w"
 refine ⟨a,h,w,g,c,rfl,ha,w0,w1,fun p hp=>?_⟩
 walk_at "w"
 refine ⟨aD (by decide),fun l hl=>?_⟩
 have npl:p≠l:=fun e=>by rw [e,ah] at hl; cases hl
 have hl0:H l=none:=by rw [av npl.symm] at hl; exact hl
 have hpS:∀ H':Hp,(∀ d,d≠l→H' d=upd H p (.tup [.int (c / w),.int (c % w)]) d)→H' p=some (.tup [.int (c / w),.int (c % w)]):=fun H' e=>by rw [e p npl,ah]
 refine mH (ns:=[]) (l:=l) (i:=5) (b:=decide (0 < c / w)) (v:=c - w) rfl (fun R q=>?_) ah (by decide) (fun Q q=>?_) fun H1 e1 f1=>?_
 · walk_at "w"
   rw [gu (hpS _ fun d hd=>av hd)]
   refine be rfl ?_
   walk_at "w"
   exact q
 · walk_at "w"
   exact q
 walk_at "w"
 refine mH (l:=l) (i:=5) (b:=decide (0 < c % w)) (v:=c - 1) rfl (fun R q=>?_) e1 (by simp; split <;> simp) (fun Q q=>?_) fun H2 e2 f2=>?_
 · walk_at "w"
   rw [gu (hpS _ fun d hd=>by rw [f1 d hd,av hd])]
   refine be rfl ?_
   walk_at "w"
   exact q
 · walk_at "w"
   exact q
 walk_at "w"
 refine mH (l:=l) (i:=5) (b:=decide (c % w < w - 1)) (v:=c+1) rfl (fun R q=>?_) e2 (by simp; split <;> split <;> simp) (fun Q q=>?_) fun H3 e3 f3=>?_
 · walk_at "w"
   rw [gu (hpS _ fun d hd=>by rw [f2 d hd,f1 d hd,av hd])]
   refine be rfl ?_
   walk_at "w"
   exact q
 · walk_at "w"
   exact q
 walk_at "w"
 refine mH (l:=l) (i:=5) (b:=decide (c / w < h - 1)) (v:=c+w) rfl (fun R q=>?_) e3 (by simp; split <;> split <;> split <;> simp) (fun Q q=>?_) fun H4 e4 f4=>?_
 · walk_at "w"
   rw [gu (hpS _ fun d hd=>by rw [f3 d hd,f2 d hd,f1 d hd,av hd])]
   refine be rfl ?_
   walk_at "w"
   exact q
 · walk_at "w"
   exact q
 walk_at "w"
 refine k l H4 (fun b o e=>?_) hl0 ?_
 · have nb:b≠l:=aH e hl0
   have nbp:b≠p:=aH e hp
   rw [f4 b nb,f3 b nb,f2 b nb,f1 b nb,av nb,av nbp]
   exact e
 · rw [e4]
   unfold besL
   simp [decide_eq_true_eq]
structure FlOk (h w g:Int):Prop where
 h0:1≤h
 h1:h≤6
 w0:1≤w
 w1:w≤6
 m:h*w≤16
 g0:1≤g
 g1:g≤6
section
variable {K:PySem.W.Frag} {H:Hp} {Q:VK}
theorem sP {p:Addr} {xs:List V} (hp:H p=some (.lst xs)) (h:Q (.bl true) H):kIsi [.ref p,.ty "list"] H Q:=by
 refine ⟨by decide,be (a:="list") (by unfold j5; dsimp only; rw [hp]) ?_⟩
 rw [show isTy "list" "list"=true by decide]
 exact h
theorem xh {p:Addr} {xs:List V} (hp:H p=some (.tup xs)) (h:Q (.bl true) H):kIsi [.ref p,.ty "tuple"] H Q:=by
 refine ⟨by decide,be (a:="tuple") (by unfold j5; dsimp only; rw [hp]) ?_⟩
 rw [show isTy "tuple" "tuple"=true by decide]
 exact h
theorem sQ {n:Nat} {t:TGs} {σ:St} {k:St→Hp→Prop} {p:Addr} {xs:List V} (hp:H p=some (.tup xs)) (hn:xs.length=n) (h:t xs σ H k):gTup K n t (.ref p) σ H k:=⟨p,xs,rfl,SqT.of hp,hn,h⟩
theorem oF {i j:Nat} {x y:V} {σ:St} {k:St→Hp→Prop}:gCons (gName i) (gCons (gName j) gNil) [x,y] σ H k=k ((σ.set i (some x)).set j (some y)) H:=by
 refine propext ⟨?_,fun h=>⟨x,[y],rfl,y,[],rfl,rfl,h⟩⟩
 rintro ⟨v,r,e,v2,r2,e2,e3,h⟩
 cases e
 cases e2
 exact h
end
end L2
namespace L2
open PySem PySem.Builtin PySem.Builtin.Str
def tx (l:List Nat):Str:=⟨l.toArray⟩
theorem pG (l:List Nat):(tx l).cps.toList=l:=by simp [tx]
theorem Av (x:Str):tx x.cps.toList=x:=by cases x; simp [tx]
theorem xi {a b:List Nat} (h:tx a=tx b):a=b:=by rw [← pG a,h,pG]
theorem fF (l:List Nat):(tx l).length=l.length:=by simp [tx,Str.length]
theorem pH (a b:List Nat):tx a++tx b=tx (a++b):=by
 refine Str.ext' ?_
 rw [Str.cps_append]
 simp [tx]
theorem aF (a b:List Nat):decide (tx a=tx b)=decide (a=b):=by
 by_cases h:a=b
 · subst h; simp
 · have:¬ tx a=tx b:=fun e=>h (xi e)
   rw [decide_eq_false h,decide_eq_false this]
def catL (c:Nat):List (List Nat)→List Nat
 | []=>[]
 | [x]=>x
 | x::y::r=>x++c::catL c (y::r)
theorem qO (c:Nat):∀ ts:List (List Nat),Str.join (tx [c]) (ts.map tx)=tx (catL c ts)
 | []=>rfl
 | [x]=>rfl
 | x::y::r=>by
  show tx x++tx [c]++Str.join (tx [c]) ((y::r).map tx)=_
  rw [qO c (y::r),pH,pH]
  show tx _=tx (x++c::catL c (y::r))
  rw [List.append_assoc]; rfl
theorem ye (sep:Str) (ts:List Str):Txt.join sep ts=Str.join sep ts:=StrLaws.glued_eq_join sep ts
theorem ve {c:Nat}:∀ {a b x y:List Nat},c∉a→c∉b→a++c::x=b++c::y→a=b∧x=y
 | [],[],_,_,_,_,h=>⟨rfl,by simpa using h⟩
 | [],b::bs,_,_,_,hb,h=>by
  simp at h
  exact absurd (List.mem_cons.mpr (.inl h.1)) hb
 | a::as,[],_,_,ha,_,h=>by
  simp at h
  exact absurd (List.mem_cons.mpr (.inl h.1.symm)) ha
 | a::as,b::bs,x,y,ha,hb,h=>by
  simp at h
  have:=ve (fun z=>ha (List.mem_cons_of_mem _ z)) (fun z=>hb (List.mem_cons_of_mem _ z)) h.2
  exact ⟨by rw [h.1,this.1],this.2⟩
theorem sR {c:Nat}:∀ {x:List Nat} {r:List (List Nat)} {y:List Nat},c∈catL c (x::y::r):=by
 intro x r y
 show c∈x++c::_
 simp
theorem sS {c:Nat}:∀ {xs ys:List (List Nat)},xs≠[]→ys≠[]→(∀ x∈xs,c∉x)→(∀ y∈ys,c∉y)→catL c xs=catL c ys→xs=ys
 | [],_,h,_,_,_,_=>absurd rfl h
 | _,[],_,h,_,_,_=>absurd rfl h
 | [x],[y],_,_,_,_,h=>by
  have h':x=y:=h
  rw [h']
 | [x],y::z::r,_,_,hx,_,h=>by
  have h':x=catL c (y::z::r):=h
  exact absurd (h' ▸ sR) (hx x List.mem_cons_self)
 | x::z::r,[y],_,_,_,hy,h=>by
  have h':catL c (x::z::r)=y:=h
  exact absurd (h' ▸ sR) (hy y List.mem_cons_self)
 | x::z::r,y::u::s,_,_,hx,hy,h=>by
  obtain ⟨e1,e2⟩:=ve (hx x List.mem_cons_self) (hy y List.mem_cons_self) (show x++c::catL c (z::r)=y++c::catL c (u::s) from h)
  rw [e1,sS (by simp) (by simp) (fun w hw=>hx w (List.mem_cons_of_mem _ hw)) (fun w hw=>hy w (List.mem_cons_of_mem _ hw)) e2]
theorem yf (x y:Str):Txt.split x y≠[]:=by
 intro h
 unfold Txt.split at h
 split at h
 · cases h
 · split at h
   · cases h
   · rw [StrLaws.partsBetween_eq] at h
     obtain ⟨p,r,e⟩:=StrLaws.partsFrom_ne x y.length 0 (occurrences x y 0 x.length (x.length+1))
     rw [e] at h; cases h
theorem yg {c:Nat} {rows:List (List Nat)} (hne:rows≠[]) (hf:∀ r∈rows,c∉r):Txt.split (tx (catL c rows)) (tx [c])=rows.map tx:=by
 have h1:=StrLaws.join_split (tx (catL c rows)) (tx [c])
 have h2:∀ p∈Txt.split (tx (catL c rows)) (tx [c]),c∉p.cps.toList:=StrLaws.split_free _ c
 have h3:=yf (tx (catL c rows)) (tx [c])
 generalize Txt.split (tx (catL c rows)) (tx [c])=S at*
 have e:S=(S.map (·.cps.toList)).map tx:=by
  rw [List.map_map]
  conv=>lhs; rw [← List.map_id S]
  exact List.map_congr_left fun x _=>(Av x).symm
 rw [e,qO] at h1
 have h4:=xi h1
 have h5:=sS (c:=c) (xs:=S.map (·.cps.toList)) (ys:=rows) (by simpa using h3) hne (fun x hx=>by obtain ⟨p,hp,rfl⟩:=List.mem_map.mp hx; exact h2 p hp) hf h4
 rw [e,h5]
end L2
namespace L2
end L2
namespace L2
open PySem PySem.Spec PyProof.Rows
local macro_rules | `(tactic| walk_at "w")=>`(tactic| (first | simp only [aP,gc,fO,cp,i9,w_c,lw,gK,gL,gd,gM,w_b,w_not,jq,lx,gN,gO,jr,ja,ge,ly,gP,js,jt,kE,ju,gQ,gR,gS,gT,fP,fQ,dt,dG,dH,cZ,jv,jw,jx,jy,jz,jA,jB,jC,jD,jE,jF,jG,lA,gU,dI,gW,lB,gX,fR,dJ,jH,jI,gY,gf,gZ,
 List.getElem?_cons_zero,List.getElem?_cons_succ,Option.some.injEq,exists_eq_left',exists_eq_left,List.set_cons_zero,List.set_cons_succ,dc,V.int.injEq,V.bl.injEq,V.ref.injEq,V.str.injEq,List.append_nil,List.nil_append,List.cons_append] | dsimp only | skip))
section
variable {k:Nat} {tt:TT} {te:TE} {fin:Addr→Hp→Prop} {σ0:St} {H1:Hp}
theorem xj {cs:List Nat} (b:Nat→Bool) (f:Nat→V) (hn:cs.length≤900)
  (ht:∀ i c H R,cs[i]? =some c→Same H1 H→(∀ H',Same H H'→R (b i) H')→tt (σ0.set k (some (.str (tx [c])))) H R)
  (he:∀ i c H Q,cs[i]? =some c→b i=true→Same H1 H→(∀ H',Same H H'→Q (f i) H')→te (σ0.set k (some (.str (tx [c])))) H Q)
  (hd:∀ l H,H1 l=none→Same H1 H→H l=some (.lst (((List.range cs.length).filter b).map f))→fin l H):
  CompR (Its (tx cs)) (gName k) tt te fin σ0 H1:=by
 intro l hl
 have hsz:(tx cs).cps.size=cs.length:=by simp [tx]
 refine ⟨fun i m σ H=>m=cs.length - i∧i≤cs.length∧(σ=σ0∨∃ cv,σ=σ0.set k cv)∧Same H1 H∧H l=some (.lst (((List.range i).filter b).map f)),⟨cs.length,by simp,Nat.zero_le _,.inl rfl,(Same.refl H1).laid hl,by rw [ah]; rfl⟩,?_⟩
 rintro i m σ H ⟨rfl,hi,hσ,s1,el⟩
 by_cases hlt:i < cs.length
 · refine .inr ⟨by show i < (tx cs).cps.size; rw [hsz]; exact hlt,fun σ H=>(σ=σ0∨∃ cv,σ=σ0.set k cv)∧Same H1 H∧H l=some (.lst (((List.range (i+1)).filter b).map f)),fun σ' H' p'=>⟨cs.length - (i+1),by omega,rfl,hlt,p'⟩,?_⟩
   rintro x H' ⟨rfl,c,hc,rfl⟩
   have hc':cs[i]? =some c:=by simpa [tx] using hc
   show gName k (.str (tx [c])) σ H' _
   rw [cp]
   have e:σ.set k (some (.str (tx [c])))=σ0.set k (some (.str (tx [c]))):=by
    rcases hσ with rfl | ⟨cv,rfl⟩
    · rfl
    · exact List.set_set ..
   rw [e]
   refine ht i c H' _ hc' s1 fun H2 s2=>?_
   have el2:=s2 _ _ el
   cases hb:b i with
   | false=>
    rw [if_neg Bool.false_ne_true]
    refine ⟨.inr ⟨_,rfl⟩,s1.trans s2,?_⟩
    rw [List.range_succ,List.filter_append,List.filter_cons,hb]
    simpa using el2
   | true=>
    rw [if_pos rfl]
    refine he i c H2 _ hc' hb (s1.trans s2) fun H3 s3=>⟨_,s3 _ _ el2,by rw [List.length_map]; exact aK (Nat.le_trans (lD b hlt hn) (by decide)),.inr ⟨_,rfl⟩,((s1.trans s2).trans s3).own hl,?_⟩
    rw [ah,List.range_succ,List.filter_append,List.filter_cons,hb]
    simp
 · have e:i=cs.length:=by omega
   subst e
   exact .inl ⟨by show (tx cs).cps.size≤_; rw [hsz]; exact Nat.le_refl _,hd l H hl s1 el⟩
end
theorem rH {α:Type} (xs:List Int) (g:Int→α):(List.range xs.length).map (fun i=>g (xs.getD i 0))=xs.map g:=by
 have e:xs=(List.range xs.length).map fun i=>xs.getD i 0:=by
  refine List.ext_getElem? fun i=>?_
  rw [List.getElem?_map]
  by_cases h:i < xs.length
  · rw [List.getElem?_range h,List.getElem?_eq_getElem h]
    simp [List.getD,h]
  · rw [List.getElem?_eq_none (by omega),List.getElem?_eq_none (by simpa using h)]; rfl
 conv=>rhs; rw [e]
 rw [List.map_map]
 rfl
theorem sT {sep:Str} {ts:List Str} (h1:ts.length≤1000) (h2:∀ t∈ts,t.length≤1000) (h3:sep.length≤10):JoinOk sep ts=true:=by
 unfold JoinOk
 rw [Bool.not_eq_true']
 refine StrLaws.joinFits (B:=1000) h2 ?_
 have a1:ts.length*1000≤1000*1000:=Nat.mul_le_mul_right _ h1
 have a2:ts.length*sep.length≤1000*10:=Nat.mul_le_mul h1 h3
 omega
end L2
namespace L2
open PySem PySem.Spec PyProof.Rows
abbrev rIsN:R2:=fun x y H Q=>y=.non∧Q (.bl (decide (x=.non))) H
abbrev rNotN:R2:=fun x y H Q=>y=.non∧Q (.bl (!decide (x=.non))) H
def kStr:List V→Hp→VK→Prop
 | [.int i],H,Q=>i.natAbs.log2 < 1920∧Q (.str (Str.ofString (toString i))) H
 | _,_,_=>False
section
variable {X:Cx}
theorem ku:CallR X (.type "str") kStr:=by
 intro pins s σ H xs us Q I r h
 unfold kStr at h
 split at h
 · obtain ⟨hi,q⟩:=h
   cases r with
   | cons r0 rr=>
    cases rr
    obtain ⟨t,rfl⟩:=r0
    exact PySem.P.str_of_int hi ⟨.str _,H,I.tok _,⟨_,rfl⟩,q⟩
 · exact h.elim
end
section
variable {K:PySem.W.Frag} {H:Hp} {Q:VK}
theorem pI {x:V}:rIsN x .non H Q=Q (.bl (decide (x=.non))) H:=by simp [rIsN]
theorem mI {x:V}:rNotN x .non H Q=Q (.bl (!decide (x=.non))) H:=by simp [rNotN]
theorem nH {i:Int}:kStr [.int i] H Q=(i.natAbs.log2 < 1920∧Q (.str (Str.ofString (toString i))) H):=rfl
end
end L2
namespace L2
open PySem PySem.Spec PyProof.Rows
structure Bt2 (mg:Str→Option Value):Prop extends Bt mg where
 all_:mg "all"=none
 sum_:mg "sum"=none
 enumerate_:mg "enumerate"=none
section
variable {K:PySem.W.Frag} {H:Hp} {Q:VK} {D:Ends} {σ:St} {g:TG} {tb:TS} {ta:TA} {ix:List (Option Nat)} {tt:TT} {te tf:TE} {k:Nat}
theorem nI:tIf tt te tf σ H Q=tt σ H fun c H1=>if c=true then te σ H1 Q else tf σ H1 Q:=rfl
theorem iH:tComp ix (pj ta) g tt te σ H Q=ta σ H fun vs H1=>∃ i j:Int,vs=[.int i,.int j]∧(-(2^62)≤i∧i < 2^62∧ -(2^62)≤j∧j < 2^62)∧CompR (Itr i (j - i).toNat) g tt te (fun l H'=>Q (.ref l) H') (subσ ix σ) H1:=rfl
theorem gC:sComp k ix (pj ta) g tt te D σ H=ta σ H fun vs H1=>∃ i j:Int,vs=[.int i,.int j]∧(-(2^62)≤i∧i < 2^62∧ -(2^62)≤j∧j < 2^62)∧CompR (Itr i (j - i).toNat) g tt te (fun l H'=>D.nx (σ.set k (some (.ref l))) H') (subσ ix σ) H1:=rfl
theorem isiE {x:V} {n t:String} {b:Bool} (hx:j5 H x=some t) (hn:nB n=true) (hb:isTy t n=b):kIsi [x,.ty n] H Q=Q (.bl b) H:=by
 subst hb
 show (nB n=true∧bnd (j5 H x) fun t=>Q (.bl (isTy t n)) H)=_
 rw [hx]
 simp only [hn,true_and,dc]
theorem iI {i:Int}:kIsi [.int i,.ty "int"] H Q=Q (.bl true) H:=isiE (t:="int") rfl (by decide) (by decide)
theorem iJ {i:Int}:kIsi [.int i,.ty "bool"] H Q=Q (.bl false) H:=isiE (t:="int") rfl (by decide) (by decide)
theorem iK {i:Int}:kIsi [.int i,.ty "str"] H Q=Q (.bl false) H:=isiE (t:="int") rfl (by decide) (by decide)
theorem iL {i:Bool}:kIsi [.bl i,.ty "bool"] H Q=Q (.bl true) H:=isiE (t:="bool") rfl (by decide) (by decide)
theorem iM {i:Bool}:kIsi [.bl i,.ty "int"] H Q=Q (.bl true) H:=isiE (t:="bool") rfl (by decide) (by decide)
theorem iN {i:Str}:kIsi [.str i,.ty "str"] H Q=Q (.bl true) H:=isiE (t:="str") rfl (by decide) (by decide)
theorem iO {i:Bool}:kIsi [.bl i,.ty "str"] H Q=Q (.bl false) H:=isiE (t:="bool") rfl (by decide) (by decide)
theorem k8 {A B:Prop}:(if true=true then A else B)=A:=if_pos rfl
theorem k9 {A B:Prop}:(if false=true then A else B)=B:=if_neg Bool.false_ne_true
theorem la {i:Int}:rU (fun i=>.int (-i)) (.int i) H Q=Q (.int (-i)) H:=by
 refine propext ⟨?_,fun h=>⟨i,rfl,h⟩⟩
 rintro ⟨j,e,h⟩
 cases e
 exact h
theorem ixT {p:Addr} {i:Int} {xs:List V} {v:V} (h:H p=some (.tup xs)) (e:atI xs i=some v) (q:Q v H):cIx (.ref p) (.int i) H Q:=by
 rw [gu h]; exact be e q
theorem ixL {p:Addr} {i:Int} {xs:List V} {v:V} (h:H p=some (.lst xs)) (e:atI xs i=some v) (q:Q v H):cIx (.ref p) (.int i) H Q:=by
 rw [yD h]; exact be e q
theorem ixI {p:Addr} {i:Int} {ns:List Int} (h:H p=some (.lst (ns.map V.int))) (h0:0≤i) (h1:i < ns.length) (q:Q (.int (ns.getD i.toNat 0)) H):cIx (.ref p) (.int i) H Q:=ixL h (oC h0 h1) q
end
end L2
namespace L2
open PySem PySem.Spec PyProof.Rows
end L2
namespace L2
open PySem PySem.Spec PyProof.Rows
end L2
namespace L2
open PySem PySem.Spec PyProof.Rows
end L2
namespace L2
open PySem PySem.Spec PyProof.Rows
end L2
namespace L2
open PySem PySem.Spec PyProof.Rows
end L2
namespace L2
open PySem PySem.Spec PyProof.Rows
def cMulB:R2
 | .int i,.int j,H,Q=>IntMulOk i j∧Q (.int (i*j)) H
 | _,_,_,_=>False
end L2
namespace Att
open PySem PySem.W PySem.Calls PyProof.Rows
end Att
namespace L2
open PySem PySem.Spec PyProof.Rows
section
variable {K:PySem.W.Frag} {H:Hp} {Q:VK} {D:Ends} {σ:St}
theorem AJ {i j:Int}:cMulB (.int i) (.int j) H Q=(IntMulOk i j∧Q (.int (i*j)) H):=rfl
theorem pJ {i j:Int}:cPow (.int i) (.int j) H Q=(CPow i j∧Q (.int (i^j.toNat)) H):=rfl
theorem lb {p q:Addr} {xs ys:List V} (hp:H p=some (.lst xs)) (hq:H q=some (.lst ys)) (hn:xs.length+ys.length≤1000) (h:∀ r,H r=none→Q (.ref r) (upd H r (.lst (xs++ys)))):cAdd (.ref p) (.ref q) H Q:=by
 show bnd (unM (H p)) _
 rw [hp]
 refine be (a:=xs) rfl ?_
 rw [hq]
 exact be (a:=ys) rfl ⟨Nat.le_of_lt (aK hn),h⟩
end
end L2
namespace L2
open PySem PySem.Spec PyProof.Rows
inductive RK where
 | Rule | Unlike | Sum | Rising | Seen | Count | Joined | NoSquare | Ring
 deriving DecidableEq
structure RCl (ι:Type) where
 A:ι→Addr
 ok:ι→Bool
section
variable {ι:Type}
def tFldK (c:RCl ι) (ta:TE) (f:Str):TE:=fun σ H Q=>ta σ H fun x H1=>∃ a k dx fs v,x=.ref a∧c.ok k=true∧H1 a=some (.ins (c.A k) dx fs)∧fs.lookup f=some v∧Q v H1
def sFldK (c:RCl ι) (ta tv:TE) (f:Str):TS:=fun D σ H=>tv σ H fun y H1=>ta σ H1 fun x H2=>∃ a k dx fs,x=.ref a∧c.ok k=true∧H2 a=some (.ins (c.A k) dx fs)∧fs.length < 1000∧
 D.nx σ (upd H2 a (.ins (c.A k) dx (putF f y fs)))
def bQ (c:RCl ι) (okm:ι→Bool) (m:Str) (sp:ι→Sp) (ta:TE) (t:TA):TE:=fun σ H Q=>ta σ H fun x H1=>∃ a k dx fs,x=.ref a∧okm k=true∧H1 a=some (.ins (c.A k) dx fs)∧fs.lookup m=none∧
 t σ H1 fun vs H2=>sp k (x::vs) H2 Q E0
structure FldK (K:PySem.W.Frag) (c:RCl ι) (f:Str):Prop where
 ex:∀ k,c.ok k=true→Cls K (c.A k)∧NoAttr K (c.A k) f
structure MCal (P:Program) (w:World) (K:PySem.W.Frag) (mg:Str→Option Value) (base:Heap) (c:RCl ι) (okm:ι→Bool) (k:Nat) (m:Str) (ps:List Str) (sp:ι→Sp):Prop where
 ex:∀ i,okm i=true→∃ (f:Addr) (fd:FuncData),Cls K (c.A i)∧Meth K (c.A i) m f∧FnOk P w K mg base CX0 k f fd ps (sp i)∧Binds K fd ps []
structure KCal (P:Program) (w:World) (K:PySem.W.Frag) (mg:Str→Option Value) (base:Heap) (k:Nat) (x:Str) (C:Addr) (ps:List Str) (sp:Sp):Prop where
 ex:∃ (f:Addr) (fd:FuncData),Mk K C f∧FnOk P w K mg base CX0 k f fd ps sp∧mg x=some (.ref C)∧Binds K fd ps []
end
section
variable {ι:Type} {X:Cx} {c:RCl ι} {o e value:Expr} {es:List Expr} {f x m:Str} {p pos pos' apos:Pos} {ta tv:TE} {t:TA} {okm:ι→Bool} {k n:Nat} {ps:List Str} {sp:ι→Sp} {sp1:Sp} {C:Addr}
theorem gD (he:PE X e ta) (F:FldK X.K c f) (hb:attributeBase e f X.env (eval e X.env)=eval e X.env:=by rfl):PE X (.Attribute e f pos) (tFldK c ta f):=by
 intro pins s σ H Q I h
 refine yP hb (thn (he pins s σ H _ I h) fun u s1 ⟨x,H1,I1,rx,a,k,dx,fs,v,ex,hk,ea,l,q⟩=>?_)
 subst ex
 obtain rfl:u=Value.ref a:=rx
 obtain ⟨cl,na⟩:=F.ex k hk
 exact vy I1 ea cl na l fun u' s2 I2 ru=>⟨v,H1,I2,ru,q⟩
theorem gE (ha:PE X o ta) (hv:PE X value tv) (F:FldK X.K c f) (hs:swapsWith value (some (.Attribute o f pos')) pos.line X.env=pure false:=by rfl):PS X (.Assign [.Attribute o f pos'] value pos) (sFldK c ta tv f):=by
 intro pins s σ H D I h
 refine plainObj_wpAny_Assign_Attribute (thn (hv pins s σ H _ I h) fun u s1 ⟨y,H1,I1,ry,q⟩=>thn (ha pins s1 σ H1 _ I1 q) fun ov s2 ⟨x,H2,I2,rx,a,k,dx,fs,ex,hk,ea,l,q2⟩=>?_) hs
 subst ex
 obtain rfl:ov=Value.ref a:=rx
 obtain ⟨cl,na⟩:=F.ex k hk
 exact vA I2 ea cl na l ry fun s3 I3=>⟨σ,_,I3,q2⟩
theorem bg {pl:Sem Bool} (M:MCal X.prog X.w X.K X.mg X.base c okm k m ps sp) (hr:Room n X.A) (hk:k≤n) (he:PE X o ta)
  (ht:eval (.Call (.Attribute o m apos) [] [] pos) X.env=(do
   let ov ← eval o X.env
   standAt apos.atName
   let (f,first) ← holding [ov] (getMethod ov m pl)
   callWith pos f first (backTo pos (starEach [] X.env)) (backToKw pos (keywordEach [] X.env))):=by rfl):
  PE X (.Call (.Attribute o m apos) [] [] pos) (bQ c okm m sp ta tNil):=by
 intro pins s σ H Q I h
 refine PySem.W.methodCall_KW (pl:=pl) (thn (he pins s σ H _ I h) fun u s1 ⟨x,H1,I1,rx,a,i,dx,fs,ex,hi,ea,l,q⟩=>?_) ht
 subst ex
 obtain rfl:u=Value.ref a:=rx
 obtain ⟨f,fd,cl,hm,F,hb⟩:=M.ex i hi
 refine vz I1 ea cl hm l ?_
 exact PySem.W.callWith_K0 (first:=[.ref a]) I1.kIn hm.kp (wI (us:=[.ref a]) (vs:=[.ref a]) F (hr.mono hk) hb .nil vE I1 (.cons rfl .nil) q)
theorem jK (M:KCal X.prog X.w X.K X.mg X.base k x C ps sp1) (hr:Room n X.A) (hk:k+1≤n) (hg:Gl X x) (ha:PA X (e::es) t)
  (hdb:(x==("__debug__":Str))=false:=by decide) (he:starEach (e::es) X.env=(false,eval e X.env)::starEach es X.env:=by rfl) (hpl:(backTo pos (starEach es X.env)).any (·.1)=false:=by rfl):
  PE X (.Call (.Name x p) (e::es) [] pos) (tMake C sp1 [] E0 t):=by
 obtain ⟨f,fd,mk,F,hm,hb⟩:=M.ex
 exact yR mk F (hr.mono hk) hg hm hb .nil vE ha hdb he hpl
end
def j6 (K:PySem.W.Frag):List V→Hp→VK→Prop
 | [.ref p],H,Q=>bnd (unM (H p)) fun ys=>∀ l,H l=none→Q (.ref l) (upd H l (.tup ys))
 | _,_,_=>False
def tInG (ws:List Str) (neg:Bool) (te:TE):TE:=fun σ H Q=>te σ H fun x H1=>∃ z,x=.str z∧Q (.bl (if neg then !decide (z∈ws) else decide (z∈ws))) H1
structure GTup (K:PySem.W.Frag) (mg:Str→Option Value) (x:Str) (ws:List Str):Prop where
 ex:∃ (p:Addr) (o:Obj) (its:Array Value) (n:Nat),mg x=some (.ref p)∧K.lookup p=some o∧o.cls=.type "tuple"∧o.data=.seq its n∧its.size≤sizeLine∧Vals (ws.map V.str) its.toList
theorem kx:∀ ns:List Str,(ns.map V.str).all flatV=true
 | []=>rfl
 | n::r=>by rw [List.map_cons,List.all_cons,kx r]; rfl
theorem lE (i:Str):∀ ns:List Str,inV (.str i) (ns.map V.str)=decide (i∈ns)
 | []=>by simp [inV]
 | n::r=>by
  have ih:=lE i r
  unfold inV at ih ⊢
  rw [List.map_cons,List.any_cons,ih]
  show ((n==i)||decide (i∈r))=decide (i∈n::r)
  rw [Bool.eq_iff_iff,Bool.or_eq_true,beq_iff_eq,decide_eq_true_eq,decide_eq_true_eq,List.mem_cons]
  exact ⟨fun h=>h.elim (fun e=>.inl e.symm) .inr,fun h=>h.elim (fun e=>.inl e.symm) .inr⟩
section
variable {X:Cx} {a:Expr} {ta:TE} {pos p:Pos} {x:Str} {ws:List Str}
theorem on:CallR X (.type "tuple") (j6 X.K):=by
 intro pins s σ H xs us Q I r h
 unfold j6 at h
 split at h
 · obtain ⟨ys,e,q⟩:=bm h
   exact rG pins s σ H _ us Q I r ⟨_,ys,rfl,.inl ⟨SqL.of (j4 e),q⟩⟩
 · exact h.elim
theorem zU {ws:List Str} {q:Addr} (hq:∃ (o:Obj) (its:Array Value) (n:Nat),X.K.lookup q=some o∧o.cls=.type "tuple"∧o.data=.seq its n∧its.size≤sizeLine∧Vals (ws.map V.str) its.toList):
  OpR X (compareOp .In) (fun x y H Q=>∃ z,x=.str z∧y=.ref q∧Q (.bl (decide (z∈ws))) H):=by
 intro pins s σ H x y v u Q I rx ry h
 obtain ⟨z,rfl,rfl,h⟩:=h
 refine mx pins s σ H _ _ v u Q I rx ry ⟨q,ws.map V.str,rfl,.inr (.inr hq),rfl,kx ws,?_⟩
 rw [lE]
 exact h
theorem y2 {ws:List Str} {q:Addr} (hq:∃ (o:Obj) (its:Array Value) (n:Nat),X.K.lookup q=some o∧o.cls=.type "tuple"∧o.data=.seq its n∧its.size≤sizeLine∧Vals (ws.map V.str) its.toList):
  OpR X (compareOp .NotIn) (fun x y H Q=>∃ z,x=.str z∧y=.ref q∧Q (.bl (!decide (z∈ws))) H):=by
 intro pins s σ H x y v u Q I rx ry h
 obtain ⟨z,rfl,rfl,h⟩:=h
 refine my pins s σ H _ _ v u Q I rx ry ⟨q,ws.map V.str,rfl,.inr (.inr hq),rfl,kx ws,?_⟩
 rw [lE]
 exact h
end
section
variable {ι:Type} {c:RCl ι} {ta tv:TE} {t:TA} {f m:Str} {σ:St} {H:Hp} {Q:VK} {D:Ends} {okm:ι→Bool} {sp:ι→Sp} {sp1:Sp} {C:Addr} {K:PySem.W.Frag}
theorem mJ:tMake C sp1 [] E0 t σ H Q=t σ H fun vs H1=>∀ x dx,H1 x=none→H1 dx=none→dx≠x→sp1 (.ref x::(vs++[])) (upd (upd H1 dx (.own x)) x (.ins C dx [])) (fun v H2=>v=.non∧Q (.ref x) H2) E0:=rfl
theorem pK {ws:List Str} {neg:Bool} {te:TE}:tInG ws neg te σ H Q=te σ H fun x H1=>∃ z,x=.str z∧Q (.bl (if neg then !decide (z∈ws) else decide (z∈ws))) H1:=rfl
theorem y3 {p:Addr} {xs:List V} (hp:H p=some (.lst xs)) (h:∀ l,H l=none→Q (.ref l) (upd H l (.tup xs))):j6 K [.ref p] H Q:=by
 unfold j6
 dsimp only
 rw [hp]
 exact h
end
end L2
namespace L2
open PySem PySem.Spec PyProof.Rows
def cntD (ns:List Int):Nat:=(firstMet (fun i=>ns.getD i 0) ns.length).length
def qP (te:TE):TE:=fun σ H Q=>te σ H fun x H1=>∃ p ns,x=.ref p∧H1 p=some (.lst (ns.map V.int))∧ns.length≤900∧Q (.int (cntD ns:Nat)) H1
theorem j7 {te:TE} {σ:St} {H:Hp} {Q:VK}:qP te σ H Q=te σ H fun x H1=>∃ p ns,x=.ref p∧H1 p=some (.lst (ns.map V.int))∧ns.length≤900∧Q (.int (cntD ns:Nat)) H1:=rfl
theorem y4:bootBuiltins "set"=some (.type "set"):=by decide+kernel
theorem xk {X:Cx} {e:Expr} {te:TE} {p p2 pos pos2:Pos} (hc:X.calm=true) (hgl:Gl X "len") (hgs:Gl X "set") (hl:X.mg "len"=none) (hs:X.mg "set"=none) (he:PE X e te)
  (hs1:starEach [.Call (.Name "set" p2) [e] [] pos2] X.env=[(false,eval (.Call (.Name "set" p2) [e] [] pos2) X.env)]:=by rfl) (hs2:starEach [e] X.env=[(false,eval e X.env)]:=by rfl):
  PE X (.Call (.Name "len" p) [.Call (.Name "set" p2) [e] [] pos2] [] pos) (qP te):=by
 intro pins s σ H Q I h
 refine wpAny_Call_Name_kw (gI I hgl hl aQ ?_ (by decide) (by decide))
 refine PyProof.Rows.callWith_builtin1 ?_ hs1 rfl
 rw [hs1]
 show wpAny _ _ (spliced [(false,eval (.Call (.Name "set" p2) [e] [] pos2) X.env)]) _ _ s
 refine Calls.spliced_cons ?_
 refine wpAny_Call_Name_kw (gI I hgs hs y4 ?_ (by decide) (by decide))
 refine PyProof.Rows.callWith_type1 ?_ hs2 rfl
 rw [hs2]
 show wpAny _ _ (spliced [(false,eval e X.env)]) _ _ s
 refine Calls.spliced_cons (thn (he pins s σ H _ I h) fun u s1 ⟨x,H1,I1,r1,q1⟩=>?_)
 refine Calls.spliced_nil ?_
 obtain ⟨l,ns,rfl,hys,hn,q⟩:=q1
 cases r1
 obtain ⟨its,n,rv,ho,hz⟩:=I1.lst hys
 have hL:s1.heap.IsList l its.toArray:=⟨_,ho,rfl,n,rfl⟩
 have hI:IntsAre its ns:=pq rv
 have hlen:=rv.length
 rw [List.length_map] at hlen
 refine call_set_list (ns:=ns) (I.ok.hd hc) hL (by simpa using hI) (by rw [List.size_toArray,← hlen]; exact Nat.lt_of_le_of_lt (Nat.succ_le_succ hn) (by decide)) fun h' tk hS old=>?_
 refine Calls.spliced_nil ?_
 obtain ⟨o,es,ep,t,h1,h2,h3,h4,h5,h6,h7,h8⟩:=hS
 have hb:(firstMet (fun i=>ns.getD i 0) its.toArray.size).length≤900:=Nat.le_trans (firstMet_length_le _ _) (by rw [List.size_toArray,← hlen]; exact hn)
 refine call_len_set h1 h2 h3 h7 (by omega) ?_
 have I2:Inv X pins σ H1 { s1 with heap:=h',toks:=tk }:=I1.kept fun b o' e=>old b o' (Heap.lt_size e) e
 refine ⟨.int _,H1,I2.tok _,⟨_,rfl⟩,?_⟩
 rw [h8,List.size_toArray,← hlen]
 exact q
def mK:V→List V→Hp→VK→Prop
 | .str sep,[.ref p],H,Q=>bnd (unS (H p)) fun ys=>∃ ts:List Str,ys=ts.map V.str∧JoinOk sep ts=true∧Q (.str (Txt.join sep ts)) H
 | _,_,_,_=>False
theorem xm {X:Cx}:MtR X "str.join" mK:=by
 intro pins s σ H x vs v us Q I rx rv h
 unfold mK at h
 split at h
 · rename_i sep p
   obtain ⟨ys,e,ts,rfl,hok,q⟩:=bm h
   rcases kT (K:=X.K) e with hq | hq
   · obtain ⟨t,rfl⟩:=rx
     obtain ⟨u,rfl,ru⟩:=eJ rv
     cases ru
     obtain ⟨its,rvv,pl,hz⟩:=I.list hq
     obtain ⟨l,rfl,hl⟩:=qM rvv
     exact SC.join pl.isList hl hok fun t' k=>⟨.str _,H,I.tok k,⟨t',rfl⟩,q⟩
   · obtain ⟨t,rfl⟩:=rx
     obtain ⟨u,rfl,ru⟩:=eJ rv
     cases ru
     obtain ⟨its,rvv,pl,hz⟩:=I.tuple hq
     obtain ⟨l,rfl,hl⟩:=qM rvv
     subst hl
     obtain ⟨o,h1,h2,n,h3⟩:=pl
     have hok':=hok
     unfold JoinOk at hok'
     rw [Bool.not_eq_true'] at hok'
     exact call_meets F.slot_str_join (typeIs_str _ _ _) F.entry_str_join (F.args_str_join_2 _ _) (meets_str_join_tuple sep t p l hok') ⟨⟨o,n,h1,h2,h3⟩,post_join l ⟨joinFit_length hok',fun t' k=>⟨.str _,H,I.tok k,⟨t',rfl⟩,q⟩⟩⟩
 · exact h.elim
end L2
namespace L2
open PySem PySem.Spec PyProof.Rows
section
variable {X:Cx} {e:Expr} {te:TE} {p2 p3 p4 pos:Pos} {z0:Nat}
def pL:V→List V→Hp→VK→Prop
 | .ref l,[.int i],H,Q=>bnd (unM (H l)) fun xs=>0≤i∧i < xs.length∧bnd (xs[i.toNat]?) fun y=>Q y (upd H l (.lst (xs.eraseIdx i.toNat)))
 | _,_,_,_=>False
theorem seqIx {i:Int} {n:Nat} (h0:0≤i) (h1:i < n):seqIndex? i n=some i.toNat:=by
 obtain ⟨k,rfl⟩:=Int.eq_ofNat_of_zero_le h0
 have hk:k < n:=by omega
 unfold seqIndex?
 have hn:¬ ((k:Int) < 0):=by omega
 simp [hk,hn]
theorem xn:MtR X "list.pop" pL:=by
 intro pins s σ H x vs v us Q I rx rv h
 unfold pL at h
 split at h
 · obtain ⟨xs,e,h0,h1,h⟩:=bm h
   obtain ⟨y,ey,q⟩:=bm h
   have hz:xs.length≤sizeLine:=(I.lstM (j4 e)).1
   have hs:(sizeLine:Int) < 2^63:=by decide
   exact x8 pins s σ H _ _ v us Q I rx rv ⟨_,xs,_,_,y,rfl,rfl,j4 e,by omega,by omega,seqIx h0 h1,ey,q⟩
 · exact h.elim
def tRevL (te:TE):TE:=fun σ H Q=>te σ H fun x H1=>∃ p xs,x=.ref p∧H1 p=some (.lst xs)∧∀ l,H1 l=none→Q (.ref l) (upd H1 l (.lst xs.reverse))
end
section
variable {σ:St} {H:Hp} {Q:VK} {te:TE}
theorem pM {i j:Int} {H:Hp} {Q:VK}:kMax [.int i,.int j] H Q=Q (.int (if j > i then j else i)) H:=rfl
theorem mL:tRevL te σ H Q=te σ H fun x H1=>∃ p xs,x=.ref p∧H1 p=some (.lst xs)∧∀ l,H1 l=none→Q (.ref l) (upd H1 l (.lst xs.reverse)):=rfl
theorem y7 {l:Addr} {i:Int} {xs:List V} {y:V} (hl:H l=some (.lst xs)) (h0:0≤i) (h1:i < xs.length) (ey:xs[i.toNat]? =some y) (q:Q y (upd H l (.lst (xs.eraseIdx i.toNat)))):pL (.ref l) [.int i] H Q:=by
 show bnd (unM (H l)) _
 rw [hl]
 exact be (a:=xs) rfl ⟨h0,h1,be ey q⟩
end
end L2
namespace L2
open PySem PySem.Spec PyProof.Rows
theorem vJ:typeLookup (.type "str") (Str.ofString "__int__")=pure none:=by rw [typeLookup_type,builtinLookup_eq_fast]; kernel_rfl
theorem sU:typeLookup (.type "str") (Str.ofString "__index__")=pure none:=by rw [typeLookup_type,builtinLookup_eq_fast]; kernel_rfl
theorem sV:typeLookup (.type "str") (Str.ofString "__trunc__")=pure none:=by rw [typeLookup_type,builtinLookup_eq_fast]; kernel_rfl
def numC (n:Nat):List Nat:=if n < 10 then [48+n] else [48+n / 10,48+n % 10]
theorem xo {n:Nat} (h:n < 100):((tx (numC n)).cps.all fun x=>decide (x < 128))=true:=by
 have t:((List.range 100).all fun n=>(tx (numC n)).cps.all fun x=>decide (x < 128))=true:=by decide+kernel
 exact List.all_eq_true.mp t n (List.mem_range.mpr h)
theorem xp {α:Type} {M:Model} {A:Around} {E:Value→Shared→Prop} {s:Shared} {Q:α→Shared→Prop} {m m':Sem α} (e:m=m') (h:wpAny M A m' Q E s):wpAny M A m Q E s:=e ▸ h
set_option maxHeartbeats 4000000 in
theorem gis (n:Nat) (hn:n < 100) (u:Tok):Gives (Builtin.«int.__new__» ⟨[.type "int",.str (tx (numC n)) u],[]⟩) (.int n):=
 .of_wp fun M A E s Q h=>by
  obtain ⟨hp,g,d,tk,os⟩:=s
  have f1:=PySem.F.conv_sub_int
  have f2:=PySem.F.madeHere_int
  have f3:=vJ
  have f4:=sU
  have f5:=sV
  iterate 44 (any_goals (first | assumption | wp_step))
  refine wpAny_bind (wpAny_of_eq (a:=some (tx (numC n))) rfl ?_)
  refine wpAny_of_eq (a:=some (numC n)) ?e1 ?_
  case e1=>
   show (pure (some (if ((tx (numC n)).cps.all fun x=>decide (x < 128))=true then (tx (numC n)).cps.toList else _)):Sem _)=_
   rw [if_pos (xo hn),pG]
  refine xp (m':=mkInt (n:Int)) ?e2 ?_
  case e2=>
   clear h f1 f2 f3 f4 f5
   match n,hn with | 0,_=>kernel_rfl | 1,_=>kernel_rfl | 2,_=>kernel_rfl | 3,_=>kernel_rfl | 4,_=>kernel_rfl | 5,_=>kernel_rfl | 6,_=>kernel_rfl | 7,_=>kernel_rfl | 8,_=>kernel_rfl | 9,_=>kernel_rfl | 10,_=>kernel_rfl | 11,_=>kernel_rfl | 12,_=>kernel_rfl | 13,_=>kernel_rfl | 14,_=>kernel_rfl | 15,_=>kernel_rfl | 16,_=>kernel_rfl | 17,_=>kernel_rfl | 18,_=>kernel_rfl | 19,_=>kernel_rfl | 20,_=>kernel_rfl | 21,_=>kernel_rfl | 22,_=>kernel_rfl | 23,_=>kernel_rfl | 24,_=>kernel_rfl | 25,_=>kernel_rfl | 26,_=>kernel_rfl | 27,_=>kernel_rfl | 28,_=>kernel_rfl | 29,_=>kernel_rfl | 30,_=>kernel_rfl | 31,_=>kernel_rfl | 32,_=>kernel_rfl | 33,_=>kernel_rfl | 34,_=>kernel_rfl | 35,_=>kernel_rfl | 36,_=>kernel_rfl | 37,_=>kernel_rfl | 38,_=>kernel_rfl | 39,_=>kernel_rfl | 40,_=>kernel_rfl | 41,_=>kernel_rfl | 42,_=>kernel_rfl | 43,_=>kernel_rfl | 44,_=>kernel_rfl | 45,_=>kernel_rfl | 46,_=>kernel_rfl | 47,_=>kernel_rfl | 48,_=>kernel_rfl | 49,_=>kernel_rfl | 50,_=>kernel_rfl | 51,_=>kernel_rfl | 52,_=>kernel_rfl | 53,_=>kernel_rfl | 54,_=>kernel_rfl | 55,_=>kernel_rfl | 56,_=>kernel_rfl | 57,_=>kernel_rfl | 58,_=>kernel_rfl | 59,_=>kernel_rfl | 60,_=>kernel_rfl | 61,_=>kernel_rfl | 62,_=>kernel_rfl | 63,_=>kernel_rfl | 64,_=>kernel_rfl | 65,_=>kernel_rfl | 66,_=>kernel_rfl | 67,_=>kernel_rfl | 68,_=>kernel_rfl | 69,_=>kernel_rfl | 70,_=>kernel_rfl | 71,_=>kernel_rfl | 72,_=>kernel_rfl | 73,_=>kernel_rfl | 74,_=>kernel_rfl | 75,_=>kernel_rfl | 76,_=>kernel_rfl | 77,_=>kernel_rfl | 78,_=>kernel_rfl | 79,_=>kernel_rfl | 80,_=>kernel_rfl | 81,_=>kernel_rfl | 82,_=>kernel_rfl | 83,_=>kernel_rfl | 84,_=>kernel_rfl | 85,_=>kernel_rfl | 86,_=>kernel_rfl | 87,_=>kernel_rfl | 88,_=>kernel_rfl | 89,_=>kernel_rfl | 90,_=>kernel_rfl | 91,_=>kernel_rfl | 92,_=>kernel_rfl | 93,_=>kernel_rfl | 94,_=>kernel_rfl | 95,_=>kernel_rfl | 96,_=>kernel_rfl | 97,_=>kernel_rfl | 98,_=>kernel_rfl | 99,_=>kernel_rfl | (m+100),hm=>exact absurd hm (by omega)
  repeat (any_goals (first | assumption | wp_step))
  all_goals first | exact ⟨_,rfl,h⟩ | skip
def nJ:List V→Hp→VK→Prop
 | [.int i],H,Q=>Q (.int i) H
 | [.bl k],H,Q=>Q (.int (if k then 1 else 0)) H
 | [.str z],H,Q=>∃ n:Nat,n < 100∧z=tx (numC n)∧Q (.int n) H
 | _,_,_=>False
theorem vK {X:Cx}:CallR X (.type "int") nJ:=by
 intro pins s σ H xs us Q I r h
 unfold nJ at h
 split at h
 · exact qZ pins s σ H _ us Q I r (.inl ⟨_,rfl,h⟩)
 · exact qZ pins s σ H _ us Q I r (.inr ⟨_,rfl,h⟩)
 · obtain ⟨n,hn,rfl,q⟩:=h
   obtain ⟨u,rfl,ru⟩:=eJ r
   obtain ⟨t,rfl⟩:=ru
   exact call_int_1 (gis n hn t).meets (show (Made.int (n:Int)).post _ s from ⟨rfl,⟨.int n,H,I.tok _,⟨_,rfl⟩,q⟩⟩)
 · exact h.elim
theorem lc {k:Bool} {H:Hp} {Q:VK}:nJ [.bl k] H Q=Q (.int (if k then 1 else 0)) H:=rfl
theorem ld {i:Int} {H:Hp} {Q:VK}:nJ [.int i] H Q=Q (.int i) H:=rfl
theorem nK {n:Nat} (h:n < 100):Str.ofString (toString (n:Int))=tx (numC n):=by
 have t:((List.range 100).all fun (n:Nat)=>decide (Str.ofString (toString (n:Int))=tx (numC n)))=true:=by decide+kernel
 simpa using List.all_eq_true.mp t n (List.mem_range.mpr h)
theorem oG {n:Nat} (h:n < 100):32∉numC n:=by
 have t:((List.range 100).all fun (n:Nat)=>decide (32∉numC n))=true:=by decide+kernel
 simpa using List.all_eq_true.mp t n (List.mem_range.mpr h)
theorem zV {n:Nat} (h:n < 100):numC n≠[]:=by unfold numC; split <;> simp
theorem iP {n:Nat}:(numC n).length≤2:=by unfold numC; split <;> simp
theorem yh {n:Nat} (h:n < 100):((numC n).head? =some 48→n=0)∧numC 0=[48]:=by
 have t:((List.range 100).all fun (n:Nat)=>decide ((numC n).head? =some 48→n=0))=true:=by decide+kernel
 exact ⟨of_decide_eq_true (List.all_eq_true.mp t n (List.mem_range.mpr h)),rfl⟩
theorem vf {n:Nat} (h:n < 100):∀ c∈numC n,48≤c∧c≤57:=by
 have t:((List.range 100).all fun (n:Nat)=>(numC n).all fun c=>decide (48≤c∧c≤57))=true:=by decide+kernel
 intro c hc
 simpa using List.all_eq_true.mp (List.all_eq_true.mp t n (List.mem_range.mpr h)) c hc
end L2
namespace L2
open PySem PySem.Spec PyProof.Rows
local macro_rules | `(tactic| walk_at "w")=>`(tactic| (first | simp only [aP,gc,fO,cp,i9,w_c,lw,gK,gL,gd,gM,w_b,w_not,jq,lx,gN,gO,jr,ja,ge,ly,gP,js,jt,kE,ju,gQ,gR,gS,gT,fP,fQ,dt,dG,dH,cZ,jv,jw,jx,jy,jz,jA,jB,jC,jD,jE,jF,jG,lA,gU,dI,gW,lB,gX,fR,dJ,jH,jI,gY,gf,gZ,
 List.getElem?_cons_zero,List.getElem?_cons_succ,Option.some.injEq,exists_eq_left',exists_eq_left,List.set_cons_zero,List.set_cons_succ,dc,V.int.injEq,V.bl.injEq,V.ref.injEq,V.str.injEq,List.append_nil,List.nil_append,List.cons_append] | dsimp only | skip))
def aR (K:PySem.W.Frag):Sp:=fun vs H Q _=>∃ (a:Addr) (h w g:Int),vs=[.ref a]∧IsFl H a h w g∧1≤h∧h≤6∧Q (.int (h*w)) H
theorem rJ {K:PySem.W.Frag} {vs:List V} {H:Hp} {Q:VK} {E:XK} (h:aR K vs H Q E):vs.length=1:=by
 obtain ⟨_,_,_,_,rfl,_⟩:=h; rfl
def gk (K:PySem.W.Frag):TS:=
 (tRet (tOp cMul (tOp cIx (tVar 0) (tC (.int 0))) (tOp cIx (tVar 0) (tC (.int 1)))))
theorem rK {K:PySem.W.Frag} {vs:List V} {H:Hp} {Q:VK} {E:XK} (h:aR K vs H Q E):gk K { nx:=fun _ H'=>Q .non H',rt:=Q } (start ["floor"] vs) H:=by
 obtain ⟨a,h,w,g,rfl,ha,h0,h1,q⟩:=h
 show gk K _ [some (.ref a)] H
 unfold gk
 walk_at "w"
 rw [gu ha]
 refine be (a:=V.int h) rfl ?_
 walk_at "w"
 rw [gu ha]
 refine be (a:=V.int w) rfl ?_
 walk_at "w"
 exact ⟨fE h0 h1,q⟩
def cornB (h w c:Int):Bool:=decide (c / w < h - 1)&&decide (c % w < w - 1)
def du (K:PySem.W.Frag):Sp:=fun vs H Q _=>∃ (a:Addr) (h w g c:Int),vs=[.ref a,.int c]∧IsFl H a h w g∧0 < w∧w < 100∧∀ H',Same H H'→Q (.bl (cornB h w c)) H'
theorem sW {K:PySem.W.Frag} {vs:List V} {H:Hp} {Q:VK} {E:XK} (h:du K vs H Q E):vs.length=2:=by
 obtain ⟨_,_,_,_,_,rfl,_⟩:=h; rfl
def g7 (K:PySem.W.Frag):TS:=
 (tSeq (tAsg (tCall (c5 K) [] E0 (tCons (tVar 0) (tCons (tVar 1) tNil))) (gName 2))
  (tRet (tAndV (tOp (cCmp fun i j=>decide (i < j)) (tOp cIx (tVar 2) (tC (.int 0))) (tOp cSub (tOp cIx (tVar 0) (tC (.int 0))) (tC (.int 1)))) (tOp (cCmp fun i j=>decide (i < j)) (tOp cIx (tVar 2) (tC (.int 1))) (tOp cSub (tOp cIx (tVar 0) (tC (.int 1))) (tC (.int 1)))))))
theorem sX {K:PySem.W.Frag} {vs:List V} {H:Hp} {Q:VK} {E:XK} (h:du K vs H Q E):g7 K { nx:=fun _ H'=>Q .non H',rt:=Q } (start ["floor","cell","spot"] vs) H:=by
 obtain ⟨a,h,w,g,c,rfl,ha,w0,w1,k⟩:=h
 show g7 K _ [some (.ref a),some (.int c),none] H
 unfold g7
 walk_at "w"
 refine ⟨a,h,w,g,c,rfl,ha,w0,w1,fun p hp=>?_⟩
 have s1:Same H (upd H p (.tup [.int (c / w),.int (c % w)])):=(Same.refl H).laid hp
 have k1:=k _ s1
 have ha1:=s1 _ _ ha
 have hp1:(upd H p (.tup [.int (c / w),.int (c % w)])) p=some (.tup [.int (c / w),.int (c % w)]):=ah
 generalize upd H p (.tup [.int (c / w),.int (c % w)])=H1 at*
 walk_at "w"
 rw [gu hp1]
 refine be (a:=V.int (c / w)) rfl ?_
 walk_at "w"
 rw [gu ha1]
 refine be (a:=V.int h) rfl ?_
 walk_at "w"
 unfold cornB at k1
 cases hb:decide (c / w < h - 1) with
 | false=>
  rw [hb,Bool.false_and] at k1
  exact iteF k1
 | true=>
  rw [hb,Bool.true_and] at k1
  refine iteT ?_
  rw [gu hp1]
  refine be (a:=V.int (c % w)) rfl ?_
  walk_at "w"
  rw [gu ha1]
  refine be (a:=V.int w) rfl ?_
  walk_at "w"
  exact k1
def sqL (w c:Int):List Int:=[c,c+1,c+w,c+w+1]
def dv (K:PySem.W.Frag):Sp:=fun vs H Q _=>∃ (a:Addr) (h w g c:Int),vs=[.ref a,.int c]∧IsFl H a h w g∧∀ p,H p=none→Q (.ref p) (upd H p (.lst ((sqL w c).map V.int)))
theorem sY {K:PySem.W.Frag} {vs:List V} {H:Hp} {Q:VK} {E:XK} (h:dv K vs H Q E):vs.length=2:=by
 obtain ⟨_,_,_,_,_,rfl,_⟩:=h; rfl
def g8 (K:PySem.W.Frag):TS:=
 (tSeq (tAsg (tOp cAdd (tVar 1) (tOp cIx (tVar 0) (tC (.int 1)))) (gName 2))
  (tRet (tLst (tCons (tVar 1) (tCons (tOp cAdd (tVar 1) (tC (.int 1))) (tCons (tVar 2) (tCons (tOp cAdd (tVar 2) (tC (.int 1))) tNil)))))))
theorem sZ {K:PySem.W.Frag} {vs:List V} {H:Hp} {Q:VK} {E:XK} (h:dv K vs H Q E):g8 K { nx:=fun _ H'=>Q .non H',rt:=Q } (start ["floor","corner","below"] vs) H:=by
 obtain ⟨a,h,w,g,c,rfl,ha,k⟩:=h
 show g8 K _ [some (.ref a),some (.int c),none] H
 unfold g8
 walk_at "w"
 rw [gu ha]
 refine be (a:=V.int w) rfl ?_
 walk_at "w"
 exact ⟨aD (by show (4:Nat)≤1000; decide),k⟩
def squL (h w:Int):List (List Int):=((List.range (h*w).toNat).filter fun (i:Nat)=>cornB h w i).map fun (i:Nat)=>sqL w i
def fS (K:PySem.W.Frag):Sp:=fun vs H Q _=>∃ (a:Addr) (h w g:Int),vs=[.ref a]∧IsFl H a h w g∧FlOk h w g∧
 ∀ l as H',Same H H'→H l=none→IsLL H' l as (squL h w)→as.Nodup→l∉as→(∀ a∈as,H a=none)→Q (.ref l) H'
theorem vL {K:PySem.W.Frag} {vs:List V} {H:Hp} {Q:VK} {E:XK} (h:fS K vs H Q E):vs.length=1:=by
 obtain ⟨_,_,_,_,rfl,_⟩:=h; rfl
def jL (K:PySem.W.Frag):TS:=
 (tRet (tComp [none,none,some 0] (di (tCons (tCall (aR K) [] E0 (tCons (tVar 0) tNil)) tNil)) (gName 1) (tB (tCall (du K) [] E0 (tCons (tVar 2) (tCons (tVar 1) tNil)))) (tCall (dv K) [] E0 (tCons (tVar 2) (tCons (tVar 1) tNil)))))
theorem NewAt.ll {H1 H:Hp} {l:Addr} {as:List Addr} {xss:List (List Int)} (x:NewAt H1 H l as (xss.map fun xs=>.lst (xs.map V.int))) (e:H l=some (.lst (as.map V.ref))):IsLL H l as xss:=
 ⟨e,by rw [x.len,List.length_map],fun j a xs h1 h2=>x.at_ j a _ h1 (by rw [List.getElem?_map,h2]; rfl)⟩
theorem vM {K:PySem.W.Frag} {vs:List V} {H:Hp} {Q:VK} {E:XK} (h:fS K vs H Q E):jL K { nx:=fun _ H'=>Q .non H',rt:=Q } (start ["floor"] vs) H:=by
 obtain ⟨a,h,w,g,rfl,ha,F,k⟩:=h
 obtain ⟨h0,h1,w0,w1,m16,g0,g1⟩:=F
 have mpos:0≤h*w:=Int.mul_nonneg (by omega) (by omega)
 show jL K _ [some (.ref a)] H
 unfold jL
 walk_at "w"
 refine ⟨a,h,w,g,rfl,ha,h0,h1,?_⟩
 walk_at "w"
 refine ⟨h*w,rfl,by omega,by omega,?_⟩
 refine ut (fun (i:Nat)=>cornB h w i) (fun (i:Nat)=>.lst ((sqL w i).map V.int)) (by omega) ?_ ?_ ?_
 · intro i H1 R hi s1 k1
   show tB _ [none,some (.int (0+(i:Int))),some (.ref a)] H1 R
   walk_at "w"
   rw [Int.zero_add]
   exact ⟨a,h,w,g,_,rfl,s1 _ _ ha,by omega,by omega,fun H2 s2=>⟨_,rfl,k1 H2 s2⟩⟩
 · intro i H1 Q1 hi hb s1 k1
   show tCall _ _ _ _ [none,some (.int (0+(i:Int))),some (.ref a)] H1 Q1
   walk_at "w"
   rw [Int.zero_add]
   exact ⟨a,h,w,g,_,rfl,s1 _ _ ha,fun p hp=>k1 p _ ((Same.refl H1).laid hp) hp ah⟩
 · intro l as H2 hl s2 el x
   have x':NewAt H H2 l as ((squL h w).map fun xs=>.lst (xs.map V.int)):=by
    unfold squL
    rw [List.map_map]
    exact x
   exact k l as H2 s2 hl (x'.ll el) x.nd x.nl x.fr
end L2
namespace L2
open PySem PySem.Spec PyProof.Rows
local macro_rules | `(tactic| walk_at "w")=>`(tactic| (first | simp only [aP,mJ,pK,j7,mL,lc,ld,pM,pI,mI,pJ,if_true,if_false,Bool.false_eq_true,decide_true,decide_false,jW,jX,nI,iH,gC,jU,k7,jV,iF,kY,kZ,iE,nF,iI,iJ,iL,iM,iN,iO,iK,k8,k9,la,kW,nH,Bool.not_true,Bool.not_false,gc,fO,cp,i9,w_c,lw,gK,gL,gd,gM,w_b,w_not,jq,lx,gN,gO,jr,ja,ge,ly,gP,js,jt,kE,ju,gQ,gR,gS,gT,fP,fQ,dt,dG,dH,cZ,jv,jw,jx,jy,jz,jA,jB,jC,jD,jE,jF,jG,lA,gU,dI,gW,lB,gX,fR,dJ,jH,jI,gY,gf,gZ,
 List.getElem?_cons_zero,List.getElem?_cons_succ,Option.some.injEq,exists_eq_left',exists_eq_left,List.set_cons_zero,List.set_cons_succ,dc,V.int.injEq,V.bl.injEq,V.ref.injEq,V.str.injEq,List.append_nil,List.nil_append,List.cons_append] | dsimp only | skip))
def nmC:RK→List Nat
 | .Rule=>[]
 | .Unlike=>[117,110,108,105,107,101]
 | .Sum=>[115,117,109]
 | .Rising=>[114,105,115,105,110,103]
 | .Seen=>[115,101,101,110]
 | .Count=>[99,111,117,110,116]
 | .Joined=>[106,111,105,110,101,100]
 | .NoSquare=>[110,111,115,113,117,97,114,101]
 | .Ring=>[114,105,110,103]
def fT:List Str:=[tx [115,117,109],tx [115,101,101,110],tx [99,111,117,110,116]]
def fG:List Str:=[tx [99,111,117,110,116],tx [106,111,105,110,101,100],tx [110,111,115,113,117,97,114,101],tx [114,105,110,103]]
def eK:List Str:=[tx [106,111,105,110,101,100],tx [110,111,115,113,117,97,114,101],tx [114,105,110,103]]
def rFs (p W C:Addr) (n m:Int):List (Str × V):=[("floor",.ref p),("words",.ref W),("cells",.ref C),("amount",.int n),("mark",.int m)]
structure IsRule (H:Hp) (c:RCl RK) (k:RK) (r p:Addr) (ws:List (List Nat)) (cs:List Int) (n m:Int):Prop where
 ok:c.ok k=true
 ex:∃ dx W C,H r=some (.ins (c.A k) dx (rFs p W C n m))∧H W=some (.tup ((ws.map tx).map V.str))∧H C=some (.tup (cs.map V.int))
theorem IsRule.same {H H':Hp} {c:RCl RK} {k:RK} {r p:Addr} {ws:List (List Nat)} {cs:List Int} {n m:Int} (x:IsRule H c k r p ws cs n m) (s:Same H H'):IsRule H' c k r p ws cs n m:=by
 obtain ⟨dx,W,C,h1,h2,h3⟩:=x.ex
 exact ⟨x.ok,dx,W,C,s _ _ h1,s _ _ h2,s _ _ h3⟩
section
variable {ι:Type} {c:RCl ι} {σ:St} {H:Hp} {Q:VK} {i:Nat} {r dx:Addr} {k:ι} {fs:List (Str × V)} {f m:Str} {v:V} {okm:ι→Bool} {sp:ι→Sp} {t:TA} {D:Ends} {tv:TE} {y:V} {H1:Hp}
theorem fldE (hσ:σ[i]? =some (some (.ref r))) (ok:c.ok k=true) (hr:H r=some (.ins (c.A k) dx fs)) (hl:fs.lookup f=some v) (q:Q v H):tFldK c (tVar i) f σ H Q:=⟨_,hσ,r,k,dx,fs,v,rfl,ok,hr,hl,q⟩
theorem methE (hσ:σ[i]? =some (some (.ref r))) (ok:okm k=true) (hr:H r=some (.ins (c.A k) dx fs)) (hl:fs.lookup m=none) (q:t σ H fun vs H2=>sp k (.ref r::vs) H2 Q E0):bQ c okm m sp (tVar i) t σ H Q:=⟨_,hσ,r,k,dx,fs,rfl,ok,hr,hl,q⟩
theorem sfldV {j:Nat} {x:V} (hj:σ[j]? =some (some x)) (hσ:σ[i]? =some (some (.ref r))) (ok:c.ok k=true) (hr:H r=some (.ins (c.A k) dx fs)) (hn:fs.length < 1000) (q:D.nx σ (upd H r (.ins (c.A k) dx (putF f x fs)))):sFldK c (tVar i) (tVar j) f D σ H:=
 ⟨x,hj,_,hσ,r,k,dx,fs,rfl,ok,hr,hn,q⟩
theorem sfldT {K:PySem.W.Frag} {j:Nat} {p:Addr} {xs:List V} (hj:σ[j]? =some (some (.ref p))) (hp:H p=some (.lst xs)) (hσ:σ[i]? =some (some (.ref r))) (ok:c.ok k=true) (hr:H r=some (.ins (c.A k) dx fs)) (hn:fs.length < 1000)
  (q:∀ l,H l=none→D.nx σ (upd (upd H l (.tup xs)) r (.ins (c.A k) dx (putF f (.ref l) fs)))):sFldK c (tVar i) (tCB (j6 K) (tCons (tVar j) tNil)) f D σ H:=by
 unfold sFldK
 walk_at "w"
 refine ⟨_,hj,y3 hp fun l hl=>?_⟩
 exact ⟨_,hσ,r,k,dx,fs,rfl,ok,by rw [av (aH hr hl)]; exact hr,hn,q l hl⟩
end
theorem y8 {H:Hp} {Q:VK} {p:Addr} {xs:List V} (hp:H p=some (.tup xs)) (h:∀ l,H l=none→Q (.ref l) (upd H l (.lst xs))):kList [.ref p] H Q:=by
 unfold kList
 dsimp only
 rw [hp]
 exact h
theorem y9 {H:Hp} {Q:VK} {sep:Str} {p:Addr} {ts:List Str} (hp:H p=some (.lst (ts.map V.str))) (hok:JoinOk sep ts=true) (h:Q (.str (Txt.join sep ts)) H):mK (.str sep) [.ref p] H Q:=by
 unfold mK
 dsimp only
 rw [hp]
 exact ⟨ts,rfl,hok,h⟩
def nN (K:PySem.W.Frag) (c:RCl RK) (k:RK):Sp:=fun vs H Q _=>∃ (r p:Addr) (w:List Nat) (ws:List (List Nat)) (cs:List Int) (n m:Int),vs=[.ref r]∧IsRule H c k r p (w::ws) cs n m∧Q (.str (tx w)) H
def fH (K:PySem.W.Frag) (c:RCl RK) (k:RK):Sp:=fun vs H Q _=>∃ (r p:Addr) (ws:List (List Nat)) (cs:List Int) (n m:Int),vs=[.ref r]∧IsRule H c k r p ws cs n m∧∀ l,H l=none→Q (.ref l) (upd H l (.lst (cs.map V.int)))
def gF (K:PySem.W.Frag) (c:RCl RK) (k:RK):Sp:=fun vs H Q _=>∃ (r p:Addr) (ws:List (List Nat)) (cs:List Int) (n m:Int),vs=[.ref r]∧IsRule H c k r p ws cs n m∧Q (.int m) H
def sgAt (xs cs:List Int):List Int:=cs.map fun c=>xs.getD c.toNat 0
def b4 (cs:List Int) (n:Nat):Prop:=cs.length≤63∧∀ c∈cs,0≤c∧c < n
def ay (K:PySem.W.Frag) (c:RCl RK):Sp:=fun vs H Q _=>∃ (k:RK) (x dx p W C:Addr) (ws:List (List Nat)) (cs:List Int) (n m:Int),vs=[.ref x,.ref p,.ref W,.ref C,.int n,.int m]∧c.ok k=true∧H x=some (.ins (c.A k) dx [])∧W≠x∧C≠x∧
 H W=some (.lst ((ws.map tx).map V.str))∧H C=some (.lst (cs.map V.int))∧∀ H',(∀ b o,b≠x→H b=some o→H' b=some o)→IsRule H' c k x p ws cs n m→Q .non H'
theorem oH {K:PySem.W.Frag} {c:RCl RK} {vs:List V} {H:Hp} {Q:VK} {E:XK} (h:ay K c vs H Q E):vs.length=6:=by
 obtain ⟨_,_,_,_,_,_,_,_,_,_,rfl,_⟩:=h; rfl
def dM (K:PySem.W.Frag) (c:RCl RK):TS:=
 (tSeq (sFldK c (tVar 0) (tVar 1) "floor")
  (tSeq (sFldK c (tVar 0) (tCB (j6 K) (tCons (tVar 2) tNil)) "words")
  (tSeq (sFldK c (tVar 0) (tCB (j6 K) (tCons (tVar 3) tNil)) "cells")
  (tSeq (sFldK c (tVar 0) (tVar 4) "amount")
  (sFldK c (tVar 0) (tVar 5) "mark")))))
theorem oI {K:PySem.W.Frag} {c:RCl RK} {vs:List V} {H:Hp} {Q:VK} {E:XK} (h:ay K c vs H Q E):dM K c { nx:=fun _ H'=>Q .non H',rt:=Q } (start ["self","floor","words","cells","amount","mark"] vs) H:=by
 obtain ⟨k,x,dx,p,W,C,ws,cs,n,m,rfl,ok,hx,nW,nC,hW,hC,q⟩:=h
 show dM K c _ [some (.ref x),some (.ref p),some (.ref W),some (.ref C),some (.int n),some (.int m)] H
 unfold dM
 walk_at "w"
 refine sfldV (k:=k) (j:=1) rfl rfl ok hx (by decide) ?_
 walk_at "w"
 refine sfldT (k:=k) (j:=2) (p:=W) rfl (by rw [av nW]; exact hW) rfl ok ah (by show (1:Nat) < 1000; decide) fun l1 h1=>?_
 have n1:l1≠x:=fun e=>by rw [e,ah] at h1; cases h1
 have g1:H l1=none:=by rw [av n1] at h1; exact h1
 walk_at "w"
 refine sfldT (k:=k) (j:=3) (p:=C) rfl (by rw [av nC,av (aH hC g1),av nC]; exact hC) rfl ok ah (by show (2:Nat) < 1000; decide) fun l2 h2=>?_
 have n2:l2≠x:=fun e=>by rw [e,ah] at h2; cases h2
 have n21:l2≠l1:=fun e=>by rw [e,av n1,ah] at h2; cases h2
 have g2:H l2=none:=by rw [av n2,av n21,av n2] at h2; exact h2
 walk_at "w"
 refine sfldV (k:=k) (j:=4) rfl rfl ok ah (by show (3:Nat) < 1000; decide) ?_
 refine sfldV (k:=k) (j:=5) rfl rfl ok ah (by show (4:Nat) < 1000; decide) ?_
 refine q _ (fun b o hb e=>?_) ⟨ok,dx,l1,l2,by rw [ah]; rfl,?_,?_⟩
 · rw [av hb,av hb,av hb,av (aH e g2),av hb,av (aH e g1),av hb]
   exact e
 · rw [av n1,av n1,av n1,av n21.symm,av n1,ah]
 · rw [av n2,av n2,av n2,ah]
def g9 (K:PySem.W.Frag) (c:RCl RK):Sp:=fun vs H Q E=>∃ k,nN K c k vs H Q E
theorem tm {K:PySem.W.Frag} {c:RCl RK} {vs:List V} {H:Hp} {Q:VK} {E:XK} (h:g9 K c vs H Q E):vs.length=1:=by
 obtain ⟨_,_,_,_,_,_,_,_,rfl,_⟩:=h; rfl
def hE (K:PySem.W.Frag) (c:RCl RK):TS:=
 (tRet (tOp cIx (tFldK c (tVar 0) "words") (tC (.int 0))))
theorem tp {K:PySem.W.Frag} {c:RCl RK} {vs:List V} {H:Hp} {Q:VK} {E:XK} (h:g9 K c vs H Q E):hE K c { nx:=fun _ H'=>Q .non H',rt:=Q } (start ["self"] vs) H:=by
 obtain ⟨k,r,p,w,ws,cs,n,m,rfl,x,q⟩:=h
 obtain ⟨dx,W,C,h1,h2,h3⟩:=x.ex
 show hE K c _ [some (.ref r)] H
 unfold hE
 walk_at "w"
 refine fldE rfl x.ok h1 (v:=.ref W) (by rfl) ?_
 walk_at "w"
 have e0:atI (((w::ws).map tx).map V.str) 0=some (V.str (tx w)):=dn (j:=0) rfl
 exact ixT h2 e0 q
def gm (K:PySem.W.Frag) (c:RCl RK):Sp:=fun vs H Q E=>∃ k,fH K c k vs H Q E
theorem rL {K:PySem.W.Frag} {c:RCl RK} {vs:List V} {H:Hp} {Q:VK} {E:XK} (h:gm K c vs H Q E):vs.length=1:=by
 obtain ⟨_,_,_,_,_,_,_,rfl,_⟩:=h; rfl
def gn (K:PySem.W.Frag) (c:RCl RK):TS:=
 (tRet (tCB kList (tCons (tFldK c (tVar 0) "cells") tNil)))
theorem rM {K:PySem.W.Frag} {c:RCl RK} {vs:List V} {H:Hp} {Q:VK} {E:XK} (h:gm K c vs H Q E):gn K c { nx:=fun _ H'=>Q .non H',rt:=Q } (start ["self"] vs) H:=by
 obtain ⟨k,r,p,ws,cs,n,m,rfl,x,q⟩:=h
 obtain ⟨dx,W,C,h1,h2,h3⟩:=x.ex
 show gn K c _ [some (.ref r)] H
 unfold gn
 walk_at "w"
 refine fldE rfl x.ok h1 (v:=.ref C) (by rfl) ?_
 walk_at "w"
 exact y8 h3 q
def hJ (K:PySem.W.Frag) (c:RCl RK):Sp:=fun vs H Q E=>∃ k,gF K c k vs H Q E
theorem tq {K:PySem.W.Frag} {c:RCl RK} {vs:List V} {H:Hp} {Q:VK} {E:XK} (h:hJ K c vs H Q E):vs.length=1:=by
 obtain ⟨_,_,_,_,_,_,_,rfl,_⟩:=h; rfl
def hV (K:PySem.W.Frag) (c:RCl RK):TS:=
 (tRet (tFldK c (tVar 0) "mark"))
theorem tu {K:PySem.W.Frag} {c:RCl RK} {vs:List V} {H:Hp} {Q:VK} {E:XK} (h:hJ K c vs H Q E):hV K c { nx:=fun _ H'=>Q .non H',rt:=Q } (start ["self"] vs) H:=by
 obtain ⟨k,r,p,ws,cs,n,m,rfl,x,q⟩:=h
 obtain ⟨dx,W,C,h1,h2,h3⟩:=x.ex
 show hV K c _ [some (.ref r)] H
 unfold hV
 walk_at "w"
 exact fldE rfl x.ok h1 (v:=.int m) (by rfl) q
def dw (K:PySem.W.Frag):Sp:=fun vs H Q _=>∃ n:Nat,vs=[.str (tx (numC n))]∧n < 100∧∀ H',Same H H'→Q (.int n) H'
theorem tw {K:PySem.W.Frag} {vs:List V} {H:Hp} {Q:VK} {E:XK} (h:dw K vs H Q E):vs.length=1:=by
 obtain ⟨_,rfl,_⟩:=h; rfl
def hX (K:PySem.W.Frag):TS:=
 (tSeq (tIfS (tOr (tTest (tOp (cEq K) (tVar 0) (tC (.str (tx []))))) (tOr (tTest (tOp (cCmp fun i j=>decide (j < i)) (tCB kLen (tCons (tVar 0) tNil)) (tC (.int 9)))) (tAnd (tTest (tOp (cEq K) (tOp cIx (tVar 0) (tC (.int 0))) (tC (.str (tx [48]))))) (tTest (tOp (cNe K) (tVar 0) (tC (.str (tx [48])))))))) (tRet (tC .non)) tNext)
  (tSeq (tIfS (tNot (tB (tCB kAll (tCons (tComp [none,none] (iStr (tVar 0)) (gName 1) tTrue (tOp (cIn K false) (tVar 1) (tC (.str (tx [48,49,50,51,52,53,54,55,56,57]))))) tNil)))) (tRet (tC .non)) tNext)
  (tRet (tCB nJ (tCons (tVar 0) tNil)))))
theorem zW {c:Nat} (h0:48≤c) (h1:c≤57):(!(Builtin.Str.occurrences (tx [48,49,50,51,52,53,54,55,56,57]) ⟨#[c]⟩ 0 (tx [48,49,50,51,52,53,54,55,56,57]).length 1).isEmpty)=true:=by
 have t:((List.range 58).all fun c=>!decide (48≤c)||!(Builtin.Str.occurrences (tx [48,49,50,51,52,53,54,55,56,57]) ⟨#[c]⟩ 0 (tx [48,49,50,51,52,53,54,55,56,57]).length 1).isEmpty)=true:=by decide+kernel
 have:=List.all_eq_true.mp t c (List.mem_range.mpr (by omega))
 simpa [h0] using this
theorem tz {K:PySem.W.Frag} {vs:List V} {H:Hp} {Q:VK} {E:XK} (h:dw K vs H Q E):hX K { nx:=fun _ H'=>Q .non H',rt:=Q } (start ["word"] vs) H:=by
 obtain ⟨n,rfl,hn,q⟩:=h
 have hne:=zV hn
 have hl:=iP (n:=n)
 show hX K _ [some (.str (tx (numC n)))] H
 unfold hX
 rw [aP,aA]
 walk_at "w"
 rw [aF,decide_eq_false hne]
 refine iteF ⟨by rw [fF]; exact aD (by omega),?_⟩
 walk_at "w"
 rw [fF,decide_eq_false (show ¬ (9:Int) < ((numC n).length:Nat) by omega)]
 refine iteF ?_
 rw [At,fF,pG]
 obtain ⟨c,r,ec⟩:∃ c r,numC n=c::r:=by
  cases e:numC n with
  | nil=>exact absurd e hne
  | cons c r=>exact ⟨c,r,rfl⟩
 refine ⟨aD (by omega),be (a:=c) (by rw [ec]; exact dn (j:=0) rfl) ?_⟩
 walk_at "w"
 have e1:decide ((⟨#[c]⟩:Str)=tx [48])=decide (c=48):=by
  have:(⟨#[c]⟩:Str)=tx [c]:=rfl
  rw [this,aF]
  simp
 rw [e1,aF]
 have e2:(decide (c=48)=true→decide (numC n=[48])=true):=by
  intro h
  rw [decide_eq_true_eq] at h
  have:=(yh hn).1 (by rw [ec,h]; rfl)
  subst this
  decide
 have goal2:tSeq (tIfS (tNot (tB (tCB kAll (tCons (tComp [none,none] (iStr (tVar 0)) (gName 1) tTrue (tOp (cIn K false) (tVar 1) (tC (.str (tx [48,49,50,51,52,53,54,55,56,57]))))) tNil)))) (tRet (tC .non)) tNext) (tRet (tCB nJ (tCons (tVar 0) tNil)))
   { nx:=fun _ H'=>Q .non H',rt:=Q } [some (.str (tx (numC n)))] H:=by
  rw [aP,aA]
  walk_at "w"
  refine xj (cs:=numC n) (fun _=>true) (fun _=>.bl true) (by omega) ?_ ?_ ?_
  · intro i c H1 R hc s1 k1
    exact k1 _ (Same.refl _)
  · intro i c H1 Q1 hc hb s1 k1
    have hd:=vf hn c (List.mem_of_getElem? hc)
    show tOp (cIn K false) _ _ [none,some (.str (tx [c]))] H1 Q1
    walk_at "w"
    have q1:=k1 _ (Same.refl H1)
    show Q1 (.bl (if false=true then _ else !(Builtin.Str.occurrences (tx [48,49,50,51,52,53,54,55,56,57]) (tx [c]) 0 (tx [48,49,50,51,52,53,54,55,56,57]).length 1).isEmpty)) H1
    rw [if_neg Bool.false_ne_true,show tx [c]=⟨#[c]⟩ from rfl,zW hd.1 hd.2]
    exact q1
  · intro l H1 hl1 s1 el
    have eb:((List.range (numC n).length).filter fun _=>true).map (fun _=>V.bl true)=(List.replicate (numC n).length true).map V.bl:=by
     rw [fD,List.map_const',List.length_range,List.map_replicate]
    rw [eb] at el
    refine sk el ?_
    have ea:(List.replicate (numC n).length true).all id=true:=by
     rw [List.all_eq_true]
     intro b hb
     exact (List.mem_replicate.mp hb).2
    rw [ea]
    walk_at "w"
    exact ⟨n,hn,rfl,q _ s1⟩
 cases hc:decide (c=48) with
 | false=>
  refine iteF ?_
  exact goal2
 | true=>
  refine iteT ?_
  rw [e2 hc]
  exact goal2
def bo (K:PySem.W.Frag):Sp:=fun vs H Q _=>∃ (n:Nat) (lo hi:Int),vs=[.str (tx (numC n)),.int lo,.int hi]∧n < 100∧lo≤n∧n≤hi∧∀ H',Same H H'→Q (.int n) H'
theorem oJ {K:PySem.W.Frag} {vs:List V} {H:Hp} {Q:VK} {E:XK} (h:bo K vs H Q E):vs.length=3:=by
 obtain ⟨_,_,_,rfl,_⟩:=h; rfl
def dN (K:PySem.W.Frag):TS:=
 (tSeq (tAsg (tCall (dw K) [] E0 (tCons (tVar 0) tNil)) (gName 3))
  (tSeq (tIfS (tOr (tTest (tOp rIsN (tVar 3) (tC .non))) (tOr (tTest (tOp (cCmp fun i j=>decide (i < j)) (tVar 3) (tVar 1))) (tTest (tOp (cCmp fun i j=>decide (j < i)) (tVar 3) (tVar 2))))) cM tNext)
  (tRet (tVar 3))))
theorem oK {K:PySem.W.Frag} {vs:List V} {H:Hp} {Q:VK} {E:XK} (h:bo K vs H Q E):dN K { nx:=fun _ H'=>Q .non H',rt:=Q } (start ["word","least","most","number"] vs) H:=by
 obtain ⟨n,lo,hi,rfl,hn,h0,h1,q⟩:=h
 show dN K _ [some (.str (tx (numC n))),some (.int lo),some (.int hi),none] H
 unfold dN
 walk_at "w"
 refine ⟨n,rfl,hn,fun H1 s1=>?_⟩
 walk_at "w"
 rw [aA]
 walk_at "w"
 rw [decide_eq_false (show ¬ V.int n=V.non from fun e=>nomatch e)]
 refine iteF ?_
 rw [decide_eq_false (show ¬ (n:Int) < lo by omega)]
 refine iteF ?_
 rw [decide_eq_false (show ¬ hi < (n:Int) by omega)]
 refine iteF ?_
 walk_at "w"
 exact q _ s1
def WOk (ws:List (List Nat)):Prop:=∀ w∈ws,∀ c∈w,c < 128
theorem WOk.cons {w:List Nat} {ws:List (List Nat)} (h:∀ c∈w,c < 128) (hs:WOk ws):WOk (w::ws):=fun v hv=>by
 rcases List.mem_cons.mp hv with rfl | hv
 · exact h
 · exact hs v hv
theorem qQ {n:Nat} (h:n < 100):∀ c∈numC n,c < 128:=fun c hc=>by have:=vf h c hc; omega
theorem Aw {w:List Nat} (h:∀ c∈w,c < 128):PyData.strOk (tx w)=true:=by
 unfold PyData.strOk
 simp [tx]
 intro c hc
 have:=h c hc
 omega
theorem WOk.strs {ws:List (List Nat)} (h:WOk ws):∀ x∈ws.map tx,PyData.strOk x=true:=fun x hx=>by
 obtain ⟨w,hw,rfl⟩:=List.mem_map.mp hx
 exact Aw (h w hw)
def bA (K:PySem.W.Frag):Sp:=fun vs H Q _=>∃ (p:Addr) (n:Nat) (ws:List (List Nat)) (lo hi:Int),vs=[.ref p,.int lo,.int hi]∧H p=some (.lst (((numC n::ws).map tx).map V.str))∧n < 100∧WOk ws∧lo≤n∧n≤hi∧∀ H',Same H H'→Q (.int n) H'
theorem pN {K:PySem.W.Frag} {vs:List V} {H:Hp} {Q:VK} {E:XK} (h:bA K vs H Q E):vs.length=3:=by
 obtain ⟨_,_,_,_,_,rfl,_⟩:=h; rfl
def eP (K:PySem.W.Frag):TS:=
 (tSeq (tIfS (tTest (tOp (cEq K) (tVar 0) (tLst tNil))) cM tNext)
  (tRet (tCall (bo K) [] E0 (tCons (tOp cIx (tVar 0) (tC (.int 0))) (tCons (tVar 1) (tCons (tVar 2) tNil))))))
theorem DVs.strs {K:PySem.W.Frag} {H:Hp}:∀ ns:List Str,DVs K H (ns.map V.str) (ns.map PyData.str)
 | []=>.nil
 | n::r=>.cons (.str n) (DVs.strs r)
theorem rp (a b:Str):PyData.eqv (.str a) (.str b)=decide (a=b):=by
 rw [PyData.eqv]
 by_cases h:a=b
 · subst h; simp
 · simp [h]
theorem jb (ns:List Str) (hs:∀ x∈ns,PyData.strOk x=true):SeqAt.shaped (.list (ns.map PyData.str))=true:=by
 have h1:PyData.canLayAll0 (ns.map PyData.str)=true:=vd fun d hd=>by obtain ⟨x,hx,rfl⟩:=List.mem_map.mp hd; rw [PyData.canLay0]; exact hs x hx
 have h2:PyData.depthAll (ns.map PyData.str)≤0:=rn fun d hd=>by obtain ⟨x,_,rfl⟩:=List.mem_map.mp hd; exact Nat.le_refl _
 simp [SeqAt.shaped,PyData.canLay0,h1,PyData.depth]
 omega
theorem zX {K:PySem.W.Frag} {H:Hp} {Q:VK} {p q:Addr} {xs ys:List Str} (hp:H p=some (.lst (xs.map V.str))) (hq:H q=some (.lst (ys.map V.str))) (h1:∀ x∈xs,PyData.strOk x=true) (h2:∀ x∈ys,PyData.strOk x=true) (h:Q (.bl (decide (xs=ys))) H):cEq K (.ref p) (.ref q) H Q:=by
 show rEqD K (.ref p) (.ref q) H Q
 refine ⟨.list (xs.map PyData.str),.list (ys.map PyData.str),.lst (SqL.of hp) (.strs xs),.lst (SqL.of hq) (.strs ys),jb xs h1,jb ys h2,?_⟩
 rw [PyData.eqv,qN PyData.str rp]
 exact h
theorem zY {K:PySem.W.Frag} {H:Hp} {Q:VK} {p q:Addr} {xs ys:List Str} (hp:H p=some (.lst (xs.map V.str))) (hq:H q=some (.lst (ys.map V.str))) (h1:∀ x∈xs,PyData.strOk x=true) (h2:∀ x∈ys,PyData.strOk x=true) (h:Q (.bl (!decide (xs=ys))) H):cNe K (.ref p) (.ref q) H Q:=by
 show rNeD K (.ref p) (.ref q) H Q
 refine ⟨.list (xs.map PyData.str),.list (ys.map PyData.str),.lst (SqL.of hp) (.strs xs),.lst (SqL.of hq) (.strs ys),jb xs h1,jb ys h2,?_⟩
 rw [PyData.eqv,qN PyData.str rp]
 exact h
theorem pO {K:PySem.W.Frag} {vs:List V} {H:Hp} {Q:VK} {E:XK} (h:bA K vs H Q E):eP K { nx:=fun _ H'=>Q .non H',rt:=Q } (start ["words","least","most"] vs) H:=by
 obtain ⟨p,n,ws,lo,hi,rfl,hp,hn,hw,h0,h1,q⟩:=h
 show eP K _ [some (.ref p),some (.int lo),some (.int hi)] H
 unfold eP
 rw [aP,aA]
 walk_at "w"
 refine ⟨aD (by decide),fun l hl=>?_⟩
 have s1:Same H (upd H l (.lst [])):=(Same.refl H).laid hl
 refine zX (s1 _ _ hp) (ys:=[]) ah (WOk.strs (WOk.cons (qQ hn) hw)) (fun x hx=>nomatch hx) ?_
 generalize upd H l (.lst [])=H1 at*
 walk_at "w"
 rw [decide_eq_false (by simp)]
 refine iteF ?_
 walk_at "w"
 have e0:atI (((numC n::ws).map tx).map V.str) 0=some (V.str (tx (numC n))):=dn (j:=0) rfl
 refine ixL (s1 _ _ hp) e0 ?_
 walk_at "w"
 exact ⟨n,lo,hi,rfl,hn,h0,h1,fun H2 s2=>q _ (s1.trans s2)⟩
theorem yi (acc:List Int) (v:Int):(step_dedup acc v).length≤acc.length+1:=by
 unfold step_dedup
 split <;> simp
theorem tD:∀ (l acc:List Int),(l.foldl step_dedup acc).length≤acc.length+l.length
 | [],acc=>by simp
 | x::r,acc=>by
  have h1:=tD r (step_dedup acc x)
  have h2:=yi acc x
  rw [List.foldl_cons,List.length_cons]
  omega
theorem oq:∀ (l acc:List Int),acc.Nodup→((l.foldl step_dedup acc).length=acc.length+l.length↔(acc++l).Nodup)
 | [],acc,h=>by simpa using h
 | x::r,acc,h=>by
  rw [List.foldl_cons]
  by_cases hx:x∈acc
  · have e:step_dedup acc x=acc:=by
     unfold step_dedup
     rw [if_pos (by simpa using hx)]
    rw [e]
    have:=tD r acc
    constructor
    · intro z
      rw [List.length_cons] at z
      omega
    · intro z
      have:=(List.nodup_append.mp z).2.2 x hx x List.mem_cons_self
      exact absurd rfl this
  · have e:step_dedup acc x=acc++[x]:=by
     unfold step_dedup
     rw [if_neg (by simpa using hx)]
    rw [e]
    have hn:(acc++[x]).Nodup:=List.nodup_append.mpr ⟨h,by simp,fun a ha b hb z=>hx (by rw [List.mem_singleton.mp hb] at z; exact z ▸ ha)⟩
    have ih:=oq r (acc++[x]) hn
    rw [List.length_append,List.length_singleton] at ih
    rw [List.length_cons,show acc.length+(r.length+1)=acc.length+1+r.length by omega,show acc++x::r=acc++[x]++r by simp]
    exact ih
theorem qR (ns:List Int):(List.range ns.length).map (fun i=>ns.getD i 0)=ns:=by
 have:=rH ns (fun x=>x)
 simpa using this
theorem yj (ns:List Int):cntD ns=ns.length↔ns.Nodup:=by
 unfold cntD firstMet
 rw [qR]
 have:=oq ns [] List.nodup_nil
 simpa using this
def cU (K:PySem.W.Frag):Sp:=fun vs H Q _=>∃ (a p:Addr) (h w g:Int) (ns:List Nat),vs=[.ref a,.ref p]∧IsFl H a h w g∧FlOk h w g∧H p=some (.lst (((ns.map numC).map tx).map V.str))∧ns≠[]∧ns.length≤16∧(∀ n∈ns,(n:Int) < h*w)∧ns.Nodup∧
 ∀ l H',Same H H'→H l=none→H' l=some (.lst ((ns.map fun (n:Nat)=>(n:Int)).map V.int))→Q (.ref l) H'
theorem rN {K:PySem.W.Frag} {vs:List V} {H:Hp} {Q:VK} {E:XK} (h:cU K vs H Q E):vs.length=2:=by
 obtain ⟨_,_,_,_,_,_,rfl,_⟩:=h; rfl
def gp (K:PySem.W.Frag):TS:=
 (tSeq (sComp 2 [none,none,some 0] (iList K (tVar 1)) (gName 1) tTrue (tCall (bo K) [] E0 (tCons (tVar 1) (tCons (tC (.int 0)) (tCons (tOp cSub (tCall (aR K) [] E0 (tCons (tVar 2) tNil)) (tC (.int 1))) tNil)))))
  (tSeq (tIfS (tTest (tOp (cEq K) (tVar 2) (tLst tNil))) cM tNext)
  (tSeq (tIfS (tTest (tOp (cNe K) (qP (tVar 2)) (tCB kLen (tCons (tVar 2) tNil)))) cM tNext)
  (tRet (tVar 2)))))
theorem pP {ns:List Nat} (h:ns.Nodup):(ns.map fun (n:Nat)=>(n:Int)).Nodup:=by
 induction ns with
 | nil=>exact List.nodup_nil
 | cons a r ih=>
  rw [List.nodup_cons] at h
  rw [List.map_cons,List.nodup_cons]
  refine ⟨fun z=>?_,ih h.2⟩
  obtain ⟨b,hb,e⟩:=List.mem_map.mp z
  exact h.1 (by have:b=a:=by omega
                exact this ▸ hb)
theorem rO {K:PySem.W.Frag} {vs:List V} {H:Hp} {Q:VK} {E:XK} (h:cU K vs H Q E):gp K { nx:=fun _ H'=>Q .non H',rt:=Q } (start ["floor","words","cells"] vs) H:=by
 obtain ⟨a,p,h,w,g,ns,rfl,ha,F,hp,hne,hn16,hlt,hnd,q⟩:=h
 obtain ⟨h0,h1,w0,w1,m16,g0,g1⟩:=F
 show gp K _ [some (.ref a),some (.ref p),none] H
 unfold gp
 walk_at "w"
 refine ⟨⟨_,SqL.of hp⟩,?_⟩
 refine dL (xs:=((ns.map numC).map tx).map V.str) (fun _=>true) (fun i=>.int (ns.getD i 0:Nat)) (by simp; omega) (SqL.of hp) ?_ ?_ ?_
 · intro i x H1 R hx s1 k1
   exact k1 _ (Same.refl _)
 · intro i x H1 Q1 hx hb s1 k1
   rw [List.getElem?_map,List.getElem?_map,List.getElem?_map] at hx
   cases e:ns[i]? with
   | none=>rw [e] at hx; cases hx
   | some n=>
    rw [e] at hx
    cases hx
    have hm:=hlt n (List.mem_of_getElem? e)
    show tCall _ _ _ _ [none,some (.str (tx (numC n))),some (.ref a)] H1 Q1
    walk_at "w"
    refine ⟨a,h,w,g,rfl,s1 _ _ ha,h0,h1,?_⟩
    walk_at "w"
    refine ⟨n,0,_,rfl,by omega,by omega,by omega,fun H2 s2=>?_⟩
    have q1:=k1 _ s2
    have eg:ns.getD i 0=n:=by rw [List.getD,e]; rfl
    rw [eg] at q1
    exact q1
 · intro l H1 hl s1 el
   have ec:((List.range (((ns.map numC).map tx).map V.str).length).filter fun _=>true).map (fun i=>V.int (ns.getD i 0:Nat))=(ns.map fun (n:Nat)=>(n:Int)).map V.int:=by
    rw [fD,List.length_map,List.length_map,List.length_map,List.map_map]
    refine List.ext_getElem? fun i=>?_
    rw [List.getElem?_map,List.getElem?_map]
    by_cases h:i < ns.length
    · rw [List.getElem?_range h,List.getElem?_eq_getElem h]
      simp [List.getD,h]
    · rw [List.getElem?_eq_none (by simpa using h),List.getElem?_eq_none (by omega)]; rfl
   rw [ec] at el
   walk_at "w"
   rw [aA]
   walk_at "w"
   refine ⟨aD (by decide),fun z hz=>?_⟩
   have s2:Same H1 (upd H1 z (.lst [])):=(Same.refl H1).laid hz
   refine nD (s2 _ _ el) (ys:=[]) ah ?_
   generalize upd H1 z (.lst [])=H2 at*
   walk_at "w"
   rw [decide_eq_false (by simpa using hne)]
   refine iteF ?_
   walk_at "w"
   rw [aA]
   walk_at "w"
   refine ⟨l,_,rfl,s2 _ _ el,by rw [List.length_map]; omega,?_⟩
   rw [bi (s2 _ _ el),List.length_map]
   walk_at "w"
   rw [decide_eq_true (by rw [(yj _).mpr (pP hnd)])]
   refine iteF ?_
   walk_at "w"
   exact q l _ (s1.trans s2) hl (s2 _ _ el)
def allK:RK→Bool
 | .Joined=>true
 | .NoSquare=>true
 | .Ring=>true
 | _=>false
def numK:RK→Bool
 | .Sum=>true
 | .Seen=>true
 | .Count=>true
 | _=>false
def sgnK:RK→Bool
 | .Count=>true
 | .Joined=>true
 | .NoSquare=>true
 | .Ring=>true
 | _=>false
theorem zZ (k:RK):decide (tx (nmC k)∈eK)=allK k:=by cases k <;> decide+kernel
theorem z3 (k:RK):decide (tx (nmC k)∈fT)=numK k:=by cases k <;> decide+kernel
theorem z4 (k:RK):decide (tx (nmC k)∈fG)=sgnK k:=by cases k <;> decide+kernel
structure qS (k:RK) (h w:Int) (ns:List Nat) (cs:List Int):Prop where
 told:allK k=false→ns≠[]∧ns.length≤16∧(∀ n∈ns,(n:Int) < h*w)∧ns.Nodup∧cs=ns.map fun (n:Nat)=>(n:Int)
 all:allK k=true→ns=[]∧cs=rngL 0 (h*w)
def d8 (K:PySem.W.Frag):Sp:=fun vs H Q _=>∃ (k:RK) (a p:Addr) (h w g:Int) (ns:List Nat) (cs:List Int),vs=[.ref a,.str (tx (nmC k)),.ref p]∧IsFl H a h w g∧FlOk h w g∧H p=some (.lst (((ns.map numC).map tx).map V.str))∧qS k h w ns cs∧(∀ n∈ns,n < 100)∧
 ∀ l H',Same H H'→H l=none→H' l=some (.lst (cs.map V.int))→Q (.ref l) H'
theorem uu {K:PySem.W.Frag} {vs:List V} {H:Hp} {Q:VK} {E:XK} (h:d8 K vs H Q E):vs.length=3:=by
 obtain ⟨_,_,_,_,_,_,_,_,rfl,_⟩:=h; rfl
def jc (K:PySem.W.Frag):TS:=
 (tSeq (tIfS (tB (tInG eK true (tVar 1))) (tRet (tCall (cU K) [] E0 (tCons (tVar 0) (tCons (tVar 2) tNil)))) tNext)
  (tSeq (tIfS (tTest (tOp (cNe K) (tVar 2) (tLst tNil))) cM tNext)
  (tRet (jl (tCons (tCall (aR K) [] E0 (tCons (tVar 0) tNil)) tNil)))))
theorem uv {K:PySem.W.Frag} {vs:List V} {H:Hp} {Q:VK} {E:XK} (h:d8 K vs H Q E):jc K { nx:=fun _ H'=>Q .non H',rt:=Q } (start ["floor","name","words"] vs) H:=by
 obtain ⟨k,a,p,h,w,g,ns,cs,rfl,ha,F,hp,hc,hn,q⟩:=h
 obtain ⟨h0,h1,w0,w1,m16,g0,g1⟩:=id F
 have mpos:0≤h*w:=Int.mul_nonneg (by omega) (by omega)
 show jc K _ [some (.ref a),some (.str (tx (nmC k))),some (.ref p)] H
 unfold jc
 rw [aP,aA]
 walk_at "w"
 rw [zZ]
 cases hk:allK k with
 | false=>
  obtain ⟨c1,c2,c3,c4,rfl⟩:=hc.told hk
  walk_at "w"
  exact ⟨a,p,h,w,g,ns,rfl,ha,F,hp,c1,c2,c3,c4,q⟩
 | true=>
  obtain ⟨rfl,rfl⟩:=hc.all hk
  walk_at "w"
  rw [aA]
  walk_at "w"
  refine ⟨aD (by decide),fun z hz=>?_⟩
  have s1:Same H (upd H z (.lst [])):=(Same.refl H).laid hz
  refine zY (xs:=[]) (ys:=[]) (s1 _ _ hp) ah (fun x hx=>nomatch hx) (fun x hx=>nomatch hx) ?_
  generalize upd H z (.lst [])=H1 at*
  walk_at "w"
  refine ⟨a,h,w,g,rfl,s1 _ _ ha,h0,h1,?_⟩
  walk_at "w"
  refine ⟨h*w,rfl,by omega,by omega,fun l hl=>?_⟩
  exact q l _ (s1.laid hl) (s1.free hl) ah
def fU (K:PySem.W.Frag) (c:RCl RK):Sp:=fun vs H Q _=>∃ (k:RK) (p W C:Addr) (ws:List (List Nat)) (cs:List Int) (n m:Int),vs=[.ref p,.ref W,.ref C,.int n,.int m]∧k≠.Rule∧c.ok k=true∧H W=some (.lst (((nmC k::ws).map tx).map V.str))∧H C=some (.lst (cs.map V.int))∧
 ∀ r H',Same H H'→H r=none→IsRule H' c k r p (nmC k::ws) cs n m→Q (.ref r) H'
theorem vN {K:PySem.W.Frag} {c:RCl RK} {vs:List V} {H:Hp} {Q:VK} {E:XK} (h:fU K c vs H Q E):vs.length=5:=by
 obtain ⟨_,_,_,_,_,_,_,_,rfl,_⟩:=h; rfl
def jM (K:PySem.W.Frag) (c:RCl RK):TS:=
 (tSeq (tAsg (tOp cIx (tVar 1) (tC (.int 0))) (gName 5))
  (tSeq (tIfS (tTest (tOp (cEq K) (tVar 5) (tC (.str (tx [117,110,108,105,107,101]))))) (tRet (tMake (c.A .Unlike) (ay K c) [] E0 (tCons (tVar 0) (tCons (tVar 1) (tCons (tVar 2) (tCons (tVar 3) (tCons (tVar 4) tNil))))))) tNext)
  (tSeq (tIfS (tTest (tOp (cEq K) (tVar 5) (tC (.str (tx [115,117,109]))))) (tRet (tMake (c.A .Sum) (ay K c) [] E0 (tCons (tVar 0) (tCons (tVar 1) (tCons (tVar 2) (tCons (tVar 3) (tCons (tVar 4) tNil))))))) tNext)
  (tSeq (tIfS (tTest (tOp (cEq K) (tVar 5) (tC (.str (tx [114,105,115,105,110,103]))))) (tRet (tMake (c.A .Rising) (ay K c) [] E0 (tCons (tVar 0) (tCons (tVar 1) (tCons (tVar 2) (tCons (tVar 3) (tCons (tVar 4) tNil))))))) tNext)
  (tSeq (tIfS (tTest (tOp (cEq K) (tVar 5) (tC (.str (tx [115,101,101,110]))))) (tRet (tMake (c.A .Seen) (ay K c) [] E0 (tCons (tVar 0) (tCons (tVar 1) (tCons (tVar 2) (tCons (tVar 3) (tCons (tVar 4) tNil))))))) tNext)
  (tSeq (tIfS (tTest (tOp (cEq K) (tVar 5) (tC (.str (tx [99,111,117,110,116]))))) (tRet (tMake (c.A .Count) (ay K c) [] E0 (tCons (tVar 0) (tCons (tVar 1) (tCons (tVar 2) (tCons (tVar 3) (tCons (tVar 4) tNil))))))) tNext)
  (tSeq (tIfS (tTest (tOp (cEq K) (tVar 5) (tC (.str (tx [106,111,105,110,101,100]))))) (tRet (tMake (c.A .Joined) (ay K c) [] E0 (tCons (tVar 0) (tCons (tVar 1) (tCons (tVar 2) (tCons (tVar 3) (tCons (tVar 4) tNil))))))) tNext)
  (tSeq (tIfS (tTest (tOp (cEq K) (tVar 5) (tC (.str (tx [110,111,115,113,117,97,114,101]))))) (tRet (tMake (c.A .NoSquare) (ay K c) [] E0 (tCons (tVar 0) (tCons (tVar 1) (tCons (tVar 2) (tCons (tVar 3) (tCons (tVar 4) tNil))))))) tNext)
  (tSeq (tIfS (tTest (tOp (cEq K) (tVar 5) (tC (.str (tx [114,105,110,103]))))) (tRet (tMake (c.A .Ring) (ay K c) [] E0 (tCons (tVar 0) (tCons (tVar 1) (tCons (tVar 2) (tCons (tVar 3) (tCons (tVar 4) tNil))))))) tNext)
  cM)))))))))
theorem za {K:PySem.W.Frag} {c:RCl RK} {H:Hp} {Q:VK} {k:RK} {p W C:Addr} {ws:List (List Nat)} {cs:List Int} {n m:Int} (ok:c.ok k=true) (hW:H W=some (.lst ((ws.map tx).map V.str))) (hC:H C=some (.lst (cs.map V.int))) (q:∀ r H',Same H H'→H r=none→IsRule H' c k r p ws cs n m→Q (.ref r) H'):
  ∀ x dx,H x=none→H dx=none→dx≠x→ay K c (.ref x::([.ref p,.ref W,.ref C,.int n,.int m]++[])) (upd (upd H dx (.own x)) x (.ins (c.A k) dx [])) (fun v H2=>v=.non∧Q (.ref x) H2) E0:=by
 intro x dx hx hd ne
 refine ⟨k,x,dx,p,W,C,ws,cs,n,m,rfl,ok,ah,aH hW hx,aH hC hx,?_,?_,fun H' hs hr=>⟨rfl,q x H' (fun b o e=>hs b o (aH e hx) ?_) hx hr⟩⟩
 · rw [av (aH hW hx),av (aH hW hd)]; exact hW
 · rw [av (aH hC hx),av (aH hC hd)]; exact hC
 · rw [av (aH e hx),av (aH e hd)]; exact e
theorem vO {K:PySem.W.Frag} {c:RCl RK} {vs:List V} {H:Hp} {Q:VK} {E:XK} (h:fU K c vs H Q E):jM K c { nx:=fun _ H'=>Q .non H',rt:=Q } (start ["floor","words","cells","amount","mark","name"] vs) H:=by
 obtain ⟨k,p,W,C,ws,cs,n,m,rfl,hk,ok,hW,hC,q⟩:=h
 have mk:=za (K:=K) ok hW hC q
 have e0:atI (((nmC k::ws).map tx).map V.str) 0=some (V.str (tx (nmC k))):=dn (j:=0) rfl
 show jM K c _ [some (.ref p),some (.ref W),some (.ref C),some (.int n),some (.int m),none] H
 unfold jM
 walk_at "w"
 refine ixL hW e0 ?_
 have D:∀ (l:List Nat) (t:TS) (u:TS) (D:Ends) (b:Bool),decide (nmC k=l)=b→(if b=true then t D [some (.ref p),some (.ref W),some (.ref C),some (.int n),some (.int m),some (.str (tx (nmC k)))] H else u D [some (.ref p),some (.ref W),some (.ref C),some (.int n),some (.int m),some (.str (tx (nmC k)))] H)→
   tIfS (tTest (tOp (cEq K) (tVar 5) (tC (.str (tx l))))) t u D [some (.ref p),some (.ref W),some (.ref C),some (.int n),some (.int m),some (.str (tx (nmC k)))] H:=fun l t u D b hb hq=>by
  rw [aA]
  walk_at "w"
  rw [aF,hb]
  exact hq
 have R:∀ (D:Ends),D.rt=Q→tRet (tMake (c.A k) (ay K c) [] E0 (tCons (tVar 0) (tCons (tVar 1) (tCons (tVar 2) (tCons (tVar 3) (tCons (tVar 4) tNil)))))) D [some (.ref p),some (.ref W),some (.ref C),some (.int n),some (.int m),some (.str (tx (nmC k)))] H:=fun D hD=>by
  walk_at "w"
  rw [hD]
  exact mk
 cases k with
 | Rule=>exact absurd rfl hk
 | Unlike=>exact D _ _ _ _ true (by decide) (iteT (R _ rfl))
 | Sum=>exact D _ _ _ _ false (by decide) (iteF (D _ _ _ _ true (by decide) (iteT (R _ rfl))))
 | Rising=>exact D _ _ _ _ false (by decide) (iteF (D _ _ _ _ false (by decide) (iteF (D _ _ _ _ true (by decide) (iteT (R _ rfl))))))
 | Seen=>exact D _ _ _ _ false (by decide) (iteF (D _ _ _ _ false (by decide) (iteF (D _ _ _ _ false (by decide) (iteF (D _ _ _ _ true (by decide) (iteT (R _ rfl))))))))
 | Count=>exact D _ _ _ _ false (by decide) (iteF (D _ _ _ _ false (by decide) (iteF (D _ _ _ _ false (by decide) (iteF (D _ _ _ _ false (by decide) (iteF (D _ _ _ _ true (by decide) (iteT (R _ rfl))))))))))
 | Joined=>exact D _ _ _ _ false (by decide) (iteF (D _ _ _ _ false (by decide) (iteF (D _ _ _ _ false (by decide) (iteF (D _ _ _ _ false (by decide) (iteF (D _ _ _ _ false (by decide) (iteF (D _ _ _ _ true (by decide) (iteT (R _ rfl))))))))))))
 | NoSquare=>exact D _ _ _ _ false (by decide) (iteF (D _ _ _ _ false (by decide) (iteF (D _ _ _ _ false (by decide) (iteF (D _ _ _ _ false (by decide) (iteF (D _ _ _ _ false (by decide) (iteF (D _ _ _ _ false (by decide) (iteF (D _ _ _ _ true (by decide) (iteT (R _ rfl))))))))))))))
 | Ring=>exact D _ _ _ _ false (by decide) (iteF (D _ _ _ _ false (by decide) (iteF (D _ _ _ _ false (by decide) (iteF (D _ _ _ _ false (by decide) (iteF (D _ _ _ _ false (by decide) (iteF (D _ _ _ _ false (by decide) (iteF (D _ _ _ _ false (by decide) (iteF (D _ _ _ _ true (by decide) (iteT (R _ rfl))))))))))))))))
def rowW (k:RK) (n m:Nat) (ns:List Nat):List (List Nat):=nmC k::((if numK k then [numC n] else [])++(if sgnK k then [numC m] else [])++ns.map numC)
structure tE (k:RK) (h w g:Int) (n m:Nat) (ns:List Nat) (cs:List Int):Prop where
 k0:k≠.Rule
 n0:n≤99
 nz:numK k=false→n=0
 m0:sgnK k=true→1≤(m:Int)∧(m:Int)≤g
 mz:sgnK k=false→m=0
 cl:qS k h w ns cs
 ns0:∀ x∈ns,x < 100
 len:ns.length≤16
def dy (K:PySem.W.Frag) (c:RCl RK):Sp:=fun vs H Q _=>∃ (k:RK) (p:Addr) (h w g:Int) (n m:Nat) (ns:List Nat) (cs:List Int),vs=[.ref p,.str (tx (catL 32 (rowW k n m ns)))]∧IsFl H p h w g∧FlOk h w g∧tE k h w g n m ns cs∧c.ok k=true∧
 ∀ r H',Same H H'→H r=none→IsRule H' c k r p (rowW k n m ns) cs n m→Q (.ref r) H'
theorem tF {K:PySem.W.Frag} {c:RCl RK} {vs:List V} {H:Hp} {Q:VK} {E:XK} (h:dy K c vs H Q E):vs.length=2:=by
 obtain ⟨_,_,_,_,_,_,_,_,_,rfl,_⟩:=h; rfl
def eQ (K:PySem.W.Frag) (c:RCl RK):TS:=
 (tRet (tCall (fU K c) [] E0 (tCons (tVar 0) (tCons (tVar 2) (tCons (tCall (d8 K) [] E0 (tCons (tVar 0) (tCons (tVar 3) (tCons (tVar 4) tNil)))) (tCons (tVar 5) (tCons (tVar 6) tNil)))))))
def h9 (K:PySem.W.Frag) (c:RCl RK):TS:=
 (tSeq (tAsg (tOp cIx (tVar 2) (tC (.int 0))) (gName 3))
  (tSeq (tAsg (tSl oB (tVar 2) (tPart (tC (.int 1))) jT) (gName 4))
  (tSeq (tAsg (tC (.int 0)) (gName 5))
  (tSeq (tAsg (tC (.int 0)) (gName 6))
  (tSeq (tIfS (tB (tInG fT false (tVar 3))) (tSeq (tAsg (tCall (bA K) [] E0 (tCons (tVar 4) (tCons (tC (.int 0)) (tCons (tC (.int 99)) tNil)))) (gName 5))
  (tAsg (tSl oB (tVar 4) (tPart (tC (.int 1))) jT) (gName 4))) tNext)
  (tSeq (tIfS (tB (tInG fG false (tVar 3))) (tSeq (tAsg (tCall (bA K) [] E0 (tCons (tVar 4) (tCons (tC (.int 1)) (tCons (tOp cIx (tVar 0) (tC (.int 2))) tNil)))) (gName 6))
  (tAsg (tSl oB (tVar 4) (tPart (tC (.int 1))) jT) (gName 4))) tNext)
  (eQ K c)))))))
def ia (K:PySem.W.Frag) (c:RCl RK):TS:=
 (tSeq (tIfS (tNot (tB (tCB kIsi (tCons (tVar 1) (tCons (tC (.ty "str")) tNil))))) cM tNext)
  (tSeq (tAsg (tBM K "str" pD (tVar 1) (tCons (tC (.str (tx [32]))) tNil)) (gName 2))
  (h9 K c)))
theorem zb (k:RK):32∉nmC k:=by cases k <;> decide
theorem xq {k:RK} {n m:Nat} {ns:List Nat} (hn:n < 100) (hm:m < 100) (hs:∀ x∈ns,x < 100):∀ r∈rowW k n m ns,32∉r:=by
 intro r hr
 unfold rowW at hr
 rcases List.mem_cons.mp hr with rfl | hr
 · exact zb k
 rcases List.mem_append.mp hr with hr | hr
 · rcases List.mem_append.mp hr with hr | hr
   · split at hr
     · rw [List.mem_singleton.mp hr]; exact oG hn
     · cases hr
   · split at hr
     · rw [List.mem_singleton.mp hr]; exact oG hm
     · cases hr
 · obtain ⟨x,hx,rfl⟩:=List.mem_map.mp hr
   exact oG (hs x hx)
theorem yk (xs:List V):cutV xs (some 1) none=xs.drop 1:=by
 unfold cutV
 have h1:HT.sIx xs.length 0 (some 1)=min 1 xs.length:=HT.sIx_nat ..
 have h2:HT.sIx xs.length xs.length none=xs.length:=rfl
 rw [h1,h2]
 cases xs with
 | nil=>rfl
 | cons x r=>
  have:min 1 (x::r).length=1:=by simp
  rw [this]
  show (r).take _=r
  rw [List.take_of_length_le (by simp)]
theorem ky {K:PySem.W.Frag} {c:RCl RK} {H:Hp} {Q:VK} {k:RK} {p W R:Addr} {h w g:Int} {n m:Nat} {ws:List (List Nat)} {ns:List Nat} {cs:List Int} {lv:V} (F:FlOk h w g) (ha:IsFl H p h w g) (hW:H W=some (.lst (((nmC k::ws).map tx).map V.str))) (hR:H R=some (.lst (((ns.map numC).map tx).map V.str))) (hc:qS k h w ns cs) (hn:∀ x∈ns,x < 100) (k0:k≠.Rule) (ok:c.ok k=true)
  (q:∀ r H',Same H H'→H r=none→IsRule H' c k r p (nmC k::ws) cs n m→Q (.ref r) H'):
  eQ K c { nx:=fun _ H'=>Q .non H',rt:=Q } [some (.ref p),some lv,some (.ref W),some (.str (tx (nmC k))),some (.ref R),some (.int n),some (.int m)] H:=by
 unfold eQ
 walk_at "w"
 refine ⟨k,p,R,h,w,g,ns,cs,rfl,ha,F,hR,hc,hn,fun l H1 s1 hl el=>?_⟩
 walk_at "w"
 exact ⟨k,p,W,l,ws,cs,n,m,rfl,k0,ok,s1 _ _ hW,el,fun r H2 s2 hr x=>q r H2 (s1.trans s2) (s1.free hr) x⟩
theorem uw {k:RK} {n m:Nat} {ns:List Nat} (h:ns.length≤16):(rowW k n m ns).length≤100∧∀ w∈rowW k n m ns,w.length≤100:=by
 unfold rowW
 refine ⟨?_,fun w hw=>?_⟩
 · simp only [List.length_cons,List.length_append,List.length_map]
   split <;> split <;> simp <;> omega
 · rcases List.mem_cons.mp hw with rfl | hw
   · cases k <;> decide
   have h2:∀ x,(numC x).length≤100:=fun x=>Nat.le_trans iP (by decide)
   rcases List.mem_append.mp hw with hw | hw
   · rcases List.mem_append.mp hw with hw | hw
     · split at hw
       · rw [List.mem_singleton.mp hw]; exact h2 _
       · cases hw
     · split at hw
       · rw [List.mem_singleton.mp hw]; exact h2 _
       · cases hw
   · obtain ⟨x,hx,rfl⟩:=List.mem_map.mp hw
     exact h2 _
theorem pQ:∀ (rows:List (List Nat)),(∀ r∈rows,r.length≤100)→(catL 32 rows).length≤101*rows.length
 | [],_=>Nat.zero_le _
 | [x],h=>by
  have:=h x List.mem_cons_self
  show x.length≤101*1
  omega
 | x::y::r,h=>by
  have h1:=h x List.mem_cons_self
  have ih:=pQ (y::r) fun z hz=>h z (List.mem_cons_of_mem _ hz)
  have e:catL 32 (x::y::r)=x++32::catL 32 (y::r):=by first | rfl | simp [catL]
  rw [e,List.length_append,List.length_cons,List.length_cons]
  omega
theorem qT {H:Hp} {Q:VK} {p:Addr} {x:Str} {xs:List Str} (hp:H p=some (.lst ((x::xs).map V.str))) (q:∀ l,H l=none→Q (.ref l) (upd H l (.lst (xs.map V.str)))):oB (.ref p) (some 1) none H Q:=by
 refine Au hp fun l hl=>?_
 rw [yk]
 exact q l hl
theorem pR {K:PySem.W.Frag} {c:RCl RK} {H:Hp} {Q:VK} {k:RK} {p W:Addr} {h w g:Int} {n m:Nat} {ns:List Nat} {cs:List Int} {lv:V} (F:FlOk h w g) (ha:IsFl H p h w g) (hW:H W=some (.lst (((rowW k n m ns).map tx).map V.str))) (O:tE k h w g n m ns cs) (ok:c.ok k=true)
  (q:∀ r H',Same H H'→H r=none→IsRule H' c k r p (rowW k n m ns) cs n m→Q (.ref r) H'):
  h9 K c { nx:=fun _ H'=>Q .non H',rt:=Q } [some (.ref p),some lv,some (.ref W),none,none,none,none] H:=by
 obtain ⟨k0,n0,nz,m0,mz,cl,ns0,len⟩:=O
 obtain ⟨h0,h1,w0,w1,m16,g0,g1⟩:=id F
 have e0:atI (((rowW k n m ns).map tx).map V.str) 0=some (V.str (tx (nmC k))):=dn (j:=0) rfl
 have hns:WOk (ns.map numC):=fun v hv=>by obtain ⟨x,hx,rfl⟩:=List.mem_map.mp hv; exact qQ (ns0 x hx)
 unfold h9
 walk_at "w"
 refine ixL hW e0 ?_
 walk_at "w"
 refine qT hW fun R hR=>?_
 have s1:Same H (upd H R (.lst ((((if numK k then [numC n] else [])++(if sgnK k then [numC m] else [])++ns.map numC).map tx).map V.str))):=(Same.refl H).laid hR
 have eR:(upd H R (.lst ((((if numK k then [numC n] else [])++(if sgnK k then [numC m] else [])++ns.map numC).map tx).map V.str))) R=some (.lst ((((if numK k then [numC n] else [])++(if sgnK k then [numC m] else [])++ns.map numC).map tx).map V.str)):=ah
 generalize upd H R (.lst ((((if numK k then [numC n] else [])++(if sgnK k then [numC m] else [])++ns.map numC).map tx).map V.str))=H1 at*
 walk_at "w"
 have two:∀ {H2:Hp} {R2:Addr},Same H H2→H2 R2=some (.lst ((((if sgnK k then [numC m] else [])++ns.map numC).map tx).map V.str))→
   tSeq (tIfS (tB (tInG fG false (tVar 3))) (tSeq (tAsg (tCall (bA K) [] E0 (tCons (tVar 4) (tCons (tC (.int 1)) (tCons (tOp cIx (tVar 0) (tC (.int 2))) tNil)))) (gName 6)) (tAsg (tSl oB (tVar 4) (tPart (tC (.int 1))) jT) (gName 4))) tNext) (eQ K c) { nx:=fun _ H'=>Q .non H',rt:=Q }
    [some (.ref p),some lv,some (.ref W),some (.str (tx (nmC k))),some (.ref R2),some (.int n),some (.int 0)] H2:=by
  intro H2 R2 s2 eR2
  rw [aP,aA]
  walk_at "w"
  rw [z4]
  cases hs:sgnK k with
  | false=>
   rw [hs] at eR2
   have:=mz hs
   subst this
   walk_at "w"
   exact ky F (s2 _ _ ha) (s2 _ _ hW) eR2 cl ns0 k0 ok fun r H3 s3 hr x=>q r H3 (s2.trans s3) (s2.free hr) x
  | true=>
   rw [hs] at eR2
   have hm:=m0 hs
   walk_at "w"
   refine ixT (s2 _ _ ha) (v:=V.int g) rfl ?_
   walk_at "w"
   refine ⟨R2,m,ns.map numC,1,g,rfl,eR2,by omega,hns,hm.1,hm.2,fun H3 s3=>?_⟩
   walk_at "w"
   refine qT (s3 _ _ eR2) fun R3 hR3=>?_
   have s4:Same H3 (upd H3 R3 (.lst (((ns.map numC).map tx).map V.str))):=(Same.refl H3).laid hR3
   have s24:=(s2.trans s3).trans s4
   exact ky F (s24 _ _ ha) (s24 _ _ hW) ah cl ns0 k0 ok fun r H5 s5 hr x=>q r H5 (s24.trans s5) (s24.free hr) x
 rw [aA]
 walk_at "w"
 rw [z3]
 cases hn:numK k with
 | false=>
  rw [hn] at eR
  have:=nz hn
  subst this
  walk_at "w"
  exact two s1 eR
 | true=>
  rw [hn] at eR
  walk_at "w"
  refine ⟨R,n,(if sgnK k then [numC m] else [])++ns.map numC,0,99,rfl,eR,by omega,?_,by omega,by omega,fun H3 s3=>?_⟩
  · intro v hv
    rcases List.mem_append.mp hv with hv | hv
    · split at hv
      · rename_i hs
        have:=m0 hs
        rw [List.mem_singleton.mp hv]; exact qQ (by omega)
      · cases hv
    · exact hns v hv
  walk_at "w"
  refine qT (s3 _ _ eR) fun R3 hR3=>?_
  have s4:Same H3 (upd H3 R3 (.lst ((((if sgnK k then [numC m] else [])++ns.map numC).map tx).map V.str))):=(Same.refl H3).laid hR3
  walk_at "w"
  exact two ((s1.trans s3).trans s4) ah
theorem tG {K:PySem.W.Frag} {c:RCl RK} {vs:List V} {H:Hp} {Q:VK} {E:XK} (h:dy K c vs H Q E):ia K c { nx:=fun _ H'=>Q .non H',rt:=Q } (start ["floor","line","words","name","rest","amount","mark"] vs) H:=by
 obtain ⟨k,p,h,w,g,n,m,ns,cs,rfl,ha,F,O,ok,q⟩:=h
 have hm:m < 100:=by
  by_cases hs:sgnK k=true
  · have:=(O.m0 hs).2
    have:=F.g1
    omega
  · have:=O.mz (by simpa using hs)
    omega
 have hsp:Txt.split (tx (catL 32 (rowW k n m ns))) (tx [32])=(rowW k n m ns).map tx:=yg (by simp [rowW]) (xq (by have:=O.n0; omega) hm O.ns0)
 have hl:=uw (k:=k) (n:=n) (m:=m) O.len
 have hl2:=pQ _ hl.2
 show ia K c _ [some (.ref p),some (.str (tx (catL 32 (rowW k n m ns)))),none,none,none,none,none] H
 unfold ia
 rw [aP,aA]
 walk_at "w"
 refine ⟨yF,?_⟩
 rw [yX,hsp]
 refine ⟨by rw [fF]; decide,by rw [fF]; exact Nat.le_of_lt (Nat.lt_of_le_of_lt hl2 (Nat.lt_of_le_of_lt (Nat.mul_le_mul_left 101 hl.1) (by decide))),by rw [List.length_map]; exact aD (by omega),fun W hW=>?_⟩
 have s1:Same H (upd H W (.lst (((rowW k n m ns).map tx).map V.str))):=(Same.refl H).laid hW
 exact pR F (s1 _ _ ha) ah O ok fun r H2 s2 hr x=>q r H2 (s1.trans s2) (s1.free hr) x
theorem rq {α β:Type} (f:α→β):∀ (l:List α) (j:Nat),(l.map f).eraseIdx j=(l.eraseIdx j).map f
 | [],_=>rfl
 | _::_,0=>rfl
 | x::r,j+1=>by
  show f x::(r.map f).eraseIdx j=f x::(r.eraseIdx j).map f
  rw [rq f r j]
theorem pS {α:Type}:∀ (l:List α) (j:Nat) (h:j < l.length),(l[j]::l.eraseIdx j).Perm l
 | [],_,h=>absurd h (by simp)
 | x::r,0,_=>List.Perm.refl _
 | x::r,j+1,h=>by
  have hj:j < r.length:=by simpa using h
  have ih:=pS r j hj
  show (r[j]::x::r.eraseIdx j).Perm (x::r)
  exact (List.Perm.swap x r[j] (r.eraseIdx j)).trans (List.Perm.cons x ih)
theorem mM {α β:Type} (f:α→β):∀ {l:List α},(l.map f).Nodup→l.Nodup
 | [],_=>List.nodup_nil
 | a::r,h=>by
  rw [List.map_cons,List.nodup_cons] at h
  rw [List.nodup_cons]
  exact ⟨fun z=>h.1 (List.mem_map.mpr ⟨a,z,rfl⟩),mM f h.2⟩
theorem xt (n:Int):(rngL 0 n).Nodup:=by
 unfold rngL
 have e:(List.range (n - 0).toNat).map (fun (k:Nat)=>0+(k:Int))=(List.range (n - 0).toNat).map fun (k:Nat)=>(k:Int):=List.map_congr_left fun k _=>by omega
 rw [e]
 exact pP List.nodup_range
theorem vg {n x:Int} (h:x∈rngL 0 n):0≤x∧x < n:=by
 unfold rngL at h
 obtain ⟨k,hk,rfl⟩:=List.mem_map.mp h
 have:=List.mem_range.mp hk
 omega
theorem ux (xs:List Int) (i:Nat) (y:Int):(xs.map V.int).set i (.int y)=(xs.set i y).map V.int:=by rw [List.map_set]
theorem nO {n:Nat} (h:n < 100):((n:Int)).natAbs.log2 < 1920:=by
 have t:((List.range 100).all fun n=>decide (n.log2 < 1920))=true:=by decide+kernel
 have:=List.all_eq_true.mp t n (List.mem_range.mpr h)
 simpa using this
theorem zc {H:Hp} {Q:VK} {n:Nat} (h:n < 100) (q:Q (.str (tx (numC n))) H):kStr [.int (n:Int)] H Q:=by
 refine ⟨nO h,?_⟩
 rw [nK h]
 exact q
theorem xu {K:PySem.W.Frag} {H:Hp} {C:Addr} {cs:List Nat} {fin:Addr→Hp→Prop} (hC:H C=some (.lst ((cs.map fun (n:Nat)=>(n:Int)).map V.int))) (hl:cs.length≤100) (hc:∀ c∈cs,c < 100)
  (hd:∀ l H',H l=none→Same H H'→H' l=some (.lst (((cs.map numC).map tx).map V.str))→fin l H'):CompR (Itl K C) (gName 1) tTrue (tCB kStr (tCons (tVar 1) tNil)) fin [none,none] H:=by
 refine dL (xs:=(cs.map fun (n:Nat)=>(n:Int)).map V.int) (fun _=>true) (fun i=>.str (tx (numC (cs.getD i 0)))) (by simp; omega) (SqL.of hC) ?_ ?_ ?_
 · intro i x H1 R hx s1 k1
   exact k1 _ (Same.refl _)
 · intro i x H1 Q1 hx hb s1 k1
   rw [List.getElem?_map,List.getElem?_map] at hx
   cases e:cs[i]? with
   | none=>rw [e] at hx; cases hx
   | some n=>
    rw [e] at hx
    cases hx
    show tCB kStr _ [none,some (.int (n:Int))] H1 Q1
    walk_at "w"
    have q1:=k1 _ (Same.refl H1)
    have eg:cs.getD i 0=n:=by rw [List.getD,e]; rfl
    rw [eg] at q1
    have:=zc (H:=H1) (Q:=Q1) (hc n (List.mem_of_getElem? e)) q1
    exact this
 · intro l H1 hl1 s1 el
   refine hd l H1 hl1 s1 ?_
   rw [el,fD,List.length_map,List.length_map,List.map_map,List.map_map]
   congr 2
   refine List.ext_getElem? fun i=>?_
   rw [List.getElem?_map,List.getElem?_map]
   by_cases h:i < cs.length
   · rw [List.getElem?_range h,List.getElem?_eq_getElem h]
     simp [List.getD,h]
   · rw [List.getElem?_eq_none (by simpa using h),List.getElem?_eq_none (by omega)]; rfl
theorem oM {c:Nat} {x:List Nat}:∀ {rs:List (List Nat)},rs≠[]→catL c (x::rs)=x++c::catL c rs
 | [],h=>absurd rfl h
 | y::r,_=>by first | rfl | simp [catL]
end L2
namespace L2
open PySem PySem.Spec PyProof.Rows
section
variable {X:Cx} {a:Expr} {ta:TE} {pos p:Pos} {x:Str} {ws:List Str}
theorem lf (G:GTup X.K X.mg x ws) (ha:PE X a ta) (hg:Gl X x) (hdb:(x==("__debug__":Str))=false:=by decide) (hm:behindInMarks .In (.Name x p)=false:=by with_unfolding_all rfl):PT X (.Compare a [.In] [.Name x p] pos) (tB (tInG ws false ta)):=by
 obtain ⟨q,o,its,n,h1,h2⟩:=G.ex
 have h0:=ap (pos:=pos) (zU ⟨o,its,n,h2⟩) ha (dm (v:=V.ref q) hg h1 rfl hdb) hm
 intro pins s σ H Q I h
 refine h0 pins s σ H Q I ?_
 have e:(fun (x:V) (H1:Hp)=>∃ z,x=.str z∧∃ k,V.bl (if false=true then !decide (z∈ws) else decide (z∈ws))=.bl k∧Q k H1)=fun x H1=>∃ z,x=.str z∧(V.ref q=V.ref q)∧∃ k,V.bl (decide (z∈ws))=.bl k∧Q k H1:=by
  funext x H1; simp
 have h':ta σ H (fun (x:V) (H1:Hp)=>∃ z,x=.str z∧∃ k,V.bl (if false=true then !decide (z∈ws) else decide (z∈ws))=.bl k∧Q k H1):=h
 rw [e] at h'
 exact h'
theorem vh (G:GTup X.K X.mg x ws) (ha:PE X a ta) (hg:Gl X x) (hdb:(x==("__debug__":Str))=false:=by decide) (hm:behindInMarks .NotIn (.Name x p)=false:=by with_unfolding_all rfl):PT X (.Compare a [.NotIn] [.Name x p] pos) (tB (tInG ws true ta)):=by
 obtain ⟨q,o,its,n,h1,h2⟩:=G.ex
 have h0:=ap (pos:=pos) (y2 ⟨o,its,n,h2⟩) ha (dm (v:=V.ref q) hg h1 rfl hdb) hm
 intro pins s σ H Q I h
 refine h0 pins s σ H Q I ?_
 have e:(fun (x:V) (H1:Hp)=>∃ z,x=.str z∧∃ k,V.bl (if true=true then !decide (z∈ws) else decide (z∈ws))=.bl k∧Q k H1)=fun x H1=>∃ z,x=.str z∧(V.ref q=V.ref q)∧∃ k,V.bl (!decide (z∈ws))=.bl k∧Q k H1:=by
  funext x H1; simp
 have h':ta σ H (fun (x:V) (H1:Hp)=>∃ z,x=.str z∧∃ k,V.bl (if true=true then !decide (z∈ws) else decide (z∈ws))=.bl k∧Q k H1):=h
 rw [e] at h'
 exact h'
end
end L2
namespace L2
open PySem PySem.Spec PyProof.Rows
local macro_rules | `(tactic| walk_at "w")=>`(tactic| (first | simp only [aP,mJ,pK,j7,mL,lc,ld,pM,pI,mI,pJ,if_true,if_false,Bool.false_eq_true,decide_true,decide_false,jW,jX,nI,iH,gC,jU,k7,jV,iF,kY,kZ,iE,nF,iI,iJ,iL,iM,iN,iO,iK,k8,k9,la,kW,nH,Bool.not_true,Bool.not_false,gc,fO,cp,i9,w_c,lw,gK,gL,gd,gM,w_b,w_not,jq,lx,gN,gO,jr,ja,ge,ly,gP,js,jt,kE,ju,gQ,gR,gS,gT,fP,fQ,dt,dG,dH,cZ,jv,jw,jx,jy,jz,jA,jB,jC,jD,jE,jF,jG,lA,gU,dI,gW,lB,gX,fR,dJ,jH,jI,gY,gf,gZ,
 List.getElem?_cons_zero,List.getElem?_cons_succ,Option.some.injEq,exists_eq_left',exists_eq_left,List.set_cons_zero,List.set_cons_succ,dc,V.int.injEq,V.bl.injEq,V.ref.injEq,V.str.injEq,List.append_nil,List.nil_append,List.cons_append] | dsimp only | skip))
inductive PzK where
 | Puzzle
 deriving DecidableEq
structure RR where
 k:RK
 n:Nat
 m:Nat
 ns:List Nat
 cs:List Int
def RR.ws (r:RR):List (List Nat):=rowW r.k r.n r.m r.ns
def RR.txt (r:RR):Str:=tx (catL 32 r.ws)
def RR.Ok (r:RR) (h w g:Int):Prop:=tE r.k h w g r.n r.m r.ns r.cs
structure IsRules (H:Hp) (c:RCl RK) (p L:Addr) (rs:List Addr) (rows:List RR):Prop where
 top:H L=some (.lst (rs.map V.ref))
 len:rs.length=rows.length
 at_:∀ (i:Nat) (r:Addr) (x:RR),rs[i]? =some r→rows[i]? =some x→IsRule H c x.k r p x.ws x.cs x.n x.m
theorem IsRules.same {H H':Hp} {c:RCl RK} {p L:Addr} {rs:List Addr} {rows:List RR} (x:IsRules H c p L rs rows) (s:Same H H'):IsRules H' c p L rs rows:=
 ⟨s _ _ x.top,x.len,fun i r y h1 h2=>(x.at_ i r y h1 h2).same s⟩
theorem IsRule.lst {H:Hp} {c:RCl RK} {k:RK} {r p a:Addr} {ws:List (List Nat)} {cs:List Int} {n m:Int} {xs:List V} {o:HO} (x:IsRule H c k r p ws cs n m) (ha:H a=some (.lst xs)):IsRule (upd H a o) c k r p ws cs n m:=by
 obtain ⟨dx,W,C,h1,h2,h3⟩:=x.ex
 refine ⟨x.ok,dx,W,C,?_,?_,?_⟩
 · rw [av (fun e=>by rw [e,ha] at h1; cases h1)]; exact h1
 · rw [av (fun e=>by rw [e,ha] at h2; cases h2)]; exact h2
 · rw [av (fun e=>by rw [e,ha] at h3; cases h3)]; exact h3
def pFs (p L G:Addr):List (Str × V):=[("floor",.ref p),("laws",.ref L),("given",.ref G)]
structure j8 (c:RCl RK) (h w g:Int) (rows:List RR):Prop where
 F:FlOk h w g
 n:rows.length≤12
 ok:∀ r∈rows,r.Ok h w g
 c:∀ r∈rows,c.ok r.k=true
structure CluesOk (h w g:Int) (cl:List Int):Prop where
 len:cl.length=(h*w).toNat
 ok:∀ x∈cl,0≤x∧x≤g
structure IsPz (H:Hp) (c:RCl RK) (d:RCl PzK) (P L G:Addr) (h w g:Int) (rows:List RR) (cl:List Int):Prop where
 ok:d.ok .Puzzle=true
 R:j8 c h w g rows
 C:CluesOk h w g cl
 gv:H G=some (.lst (cl.map V.int))
 ex:∃ dx p rs,H P=some (.ins (d.A .Puzzle) dx (pFs p L G))∧IsFl H p h w g∧IsRules H c p L rs rows
theorem IsPz.same {H H':Hp} {c:RCl RK} {d:RCl PzK} {P L G:Addr} {h w g:Int} {rows:List RR} {cl:List Int} (x:IsPz H c d P L G h w g rows cl) (s:Same H H'):IsPz H' c d P L G h w g rows cl:=by
 obtain ⟨dx,p,rs,h1,h2,h3⟩:=x.ex
 exact ⟨x.ok,x.R,x.C,s _ _ x.gv,dx,p,rs,s _ _ h1,s _ _ h2,h3.same s⟩
def ba (K:PySem.W.Frag):Sp:=fun vs H Q _=>∃ i:Int,vs=[.int i]∧Q (.bl true) H
theorem uy {K:PySem.W.Frag} {vs:List V} {H:Hp} {Q:VK} {E:XK} (h:ba K vs H Q E):vs.length=1:=by
 obtain ⟨_,rfl,_⟩:=h; rfl
def jd (K:PySem.W.Frag):TS:=
 (tRet (tAndV (tCB kIsi (tCons (tVar 0) (tCons (tC (.ty "int")) tNil))) (tNotV (tCB kIsi (tCons (tVar 0) (tCons (tC (.ty "bool")) tNil))))))
theorem uz {K:PySem.W.Frag} {vs:List V} {H:Hp} {Q:VK} {E:XK} (h:ba K vs H Q E):jd K { nx:=fun _ H'=>Q .non H',rt:=Q } (start ["value"] vs) H:=by
 obtain ⟨i,rfl,q⟩:=h
 show jd K _ [some (.int i)] H
 unfold jd
 walk_at "w"
 exact q
def aW (K:PySem.W.Frag):Sp:=fun vs H Q _=>∃ i m:Int,vs=[.int i,.int m]∧Q (.bl (decide (1≤i)&&decide (i≤m))) H
theorem nS {K:PySem.W.Frag} {vs:List V} {H:Hp} {Q:VK} {E:XK} (h:aW K vs H Q E):vs.length=2:=by
 obtain ⟨_,_,rfl,_⟩:=h; rfl
def dj (K:PySem.W.Frag):TS:=
 (tRet (tAndV (tCall (ba K) [] E0 (tCons (tVar 0) tNil)) (tAndV (tOp (cCmp fun i j=>decide (i≤j)) (tC (.int 1)) (tVar 0)) (tOp (cCmp fun i j=>decide (i≤j)) (tVar 0) (tVar 1)))))
theorem nV {K:PySem.W.Frag} {vs:List V} {H:Hp} {Q:VK} {E:XK} (h:aW K vs H Q E):dj K { nx:=fun _ H'=>Q .non H',rt:=Q } (start ["value","most"] vs) H:=by
 obtain ⟨i,m,rfl,q⟩:=h
 show dj K _ [some (.int i),some (.int m)] H
 unfold dj
 walk_at "w"
 refine ⟨i,rfl,⟨true,rfl,iteT ?_⟩⟩
 walk_at "w"
 cases hb:decide (1≤i) with
 | false=>
  rw [hb,Bool.false_and] at q
  exact iteF q
 | true=>
  rw [hb,Bool.true_and] at q
  exact iteT q
def d9 (K:PySem.W.Frag):Sp:=fun vs H Q _=>∃ h w g:Int,vs=[.int h,.int w,.int g]∧FlOk h w g∧∀ p,H p=none→Q (.ref p) (upd H p (.tup [.int h,.int w,.int g]))
theorem uA {K:PySem.W.Frag} {vs:List V} {H:Hp} {Q:VK} {E:XK} (h:d9 K vs H Q E):vs.length=3:=by
 obtain ⟨_,_,_,rfl,_⟩:=h; rfl
def je (K:PySem.W.Frag):TS:=
 (tSeq (tIfS (tNot (tB (tCall (aW K) [] E0 (tCons (tVar 0) (tCons (tC (.int 6)) tNil))))) cM tNext)
  (tSeq (tIfS (tNot (tB (tCall (aW K) [] E0 (tCons (tVar 1) (tCons (tC (.int 6)) tNil))))) cM tNext)
  (tSeq (tIfS (tTest (tOp (cCmp fun i j=>decide (j < i)) (tOp cMul (tVar 0) (tVar 1)) (tC (.int 16)))) cM tNext)
  (tSeq (tIfS (tNot (tB (tCall (aW K) [] E0 (tCons (tVar 2) (tCons (tC (.int 6)) tNil))))) cM tNext)
  (tRet (tTup (tCons (tVar 0) (tCons (tVar 1) (tCons (tVar 2) tNil)))))))))
theorem uB {K:PySem.W.Frag} {vs:List V} {H:Hp} {Q:VK} {E:XK} (h:d9 K vs H Q E):je K { nx:=fun _ H'=>Q .non H',rt:=Q } (start ["high","wide","signs"] vs) H:=by
 obtain ⟨h,w,g,rfl,F,q⟩:=h
 obtain ⟨h0,h1,w0,w1,m16,g0,g1⟩:=id F
 show je K _ [some (.int h),some (.int w),some (.int g)] H
 unfold je
 rw [aP,aA]
 walk_at "w"
 refine ⟨h,6,rfl,⟨_,rfl,?_⟩⟩
 rw [decide_eq_true h0,decide_eq_true h1,Bool.and_self]
 refine iteF ?_
 rw [aA]
 walk_at "w"
 refine ⟨w,6,rfl,⟨_,rfl,?_⟩⟩
 rw [decide_eq_true w0,decide_eq_true w1,Bool.and_self]
 refine iteF ?_
 rw [aA]
 walk_at "w"
 refine ⟨fE h0 h1,?_⟩
 rw [decide_eq_false (show ¬ (16:Int) < h*w by omega)]
 refine iteF ?_
 rw [aA]
 walk_at "w"
 refine ⟨g,6,rfl,⟨_,rfl,?_⟩⟩
 rw [decide_eq_true g0,decide_eq_true g1,Bool.and_self]
 refine iteF ?_
 walk_at "w"
 exact ⟨aD (by show (3:Nat)≤1000; decide),q⟩
def b5 (K:PySem.W.Frag):Sp:=fun vs H Q _=>∃ (p:Addr) (h w g:Int),vs=[.ref p]∧IsFl H p h w g∧FlOk h w g∧∀ p,H p=none→Q (.ref p) (upd H p (.tup [.int h,.int w,.int g]))
theorem oN {K:PySem.W.Frag} {vs:List V} {H:Hp} {Q:VK} {E:XK} (h:b5 K vs H Q E):vs.length=1:=by
 obtain ⟨_,_,_,_,rfl,_⟩:=h; rfl
def dO (K:PySem.W.Frag):TS:=
 (tSeq (tIfS (tOr (tNot (tB (tCB kIsi (tCons (tVar 0) (tCons (tC (.ty "tuple")) tNil))))) (tTest (tOp (cNe K) (tCB kLen (tCons (tVar 0) tNil)) (tC (.int 3))))) cM tNext)
  (tRet (tCall (d9 K) [] E0 (tCons (tOp cIx (tVar 0) (tC (.int 0))) (tCons (tOp cIx (tVar 0) (tC (.int 1))) (tCons (tOp cIx (tVar 0) (tC (.int 2))) tNil))))))
theorem oO {K:PySem.W.Frag} {vs:List V} {H:Hp} {Q:VK} {E:XK} (h:b5 K vs H Q E):dO K { nx:=fun _ H'=>Q .non H',rt:=Q } (start ["floor"] vs) H:=by
 obtain ⟨p,h,w,g,rfl,hp,F,q⟩:=h
 show dO K _ [some (.ref p)] H
 unfold dO
 rw [aP,aA]
 walk_at "w"
 refine xh hp ?_
 walk_at "w"
 rw [wW hp,show (([V.int h,V.int w,V.int g]:List V).length:Int)=3 from rfl]
 walk_at "w"
 refine ixT hp (v:=V.int h) rfl ?_
 walk_at "w"
 refine ixT hp (v:=V.int w) rfl ?_
 walk_at "w"
 refine ixT hp (v:=V.int g) rfl ?_
 walk_at "w"
 exact ⟨h,w,g,rfl,F,q⟩
def cV (K:PySem.W.Frag) (c:RCl RK):Sp:=fun vs H Q _=>∃ (p a:Addr) (h w g:Int) (rows:List RR),vs=[.ref p,.ref a]∧IsFl H p h w g∧H a=some (.lst ((rows.map RR.txt).map V.str))∧j8 c h w g rows∧
 ∀ l rs H',Same H H'→H l=none→IsRules H' c p l rs rows→Q (.ref l) H'
theorem rP {K:PySem.W.Frag} {c:RCl RK} {vs:List V} {H:Hp} {Q:VK} {E:XK} (h:cV K c vs H Q E):vs.length=2:=by
 obtain ⟨_,_,_,_,_,_,rfl,_⟩:=h; rfl
def gq (K:PySem.W.Frag) (c:RCl RK):TS:=
 (tSeq (tIfS (tTest (tOp (cCmp fun i j=>decide (j < i)) (tCB kLen (tCons (tVar 1) tNil)) (tC (.int 12)))) cM tNext)
  (tRet (tComp [none,none,some 0] (iList K (tVar 1)) (gName 1) tTrue (tCall (dy K c) [] E0 (tCons (tVar 2) (tCons (tVar 1) tNil))))))
theorem rQ {K:PySem.W.Frag} {c:RCl RK} {vs:List V} {H:Hp} {Q:VK} {E:XK} (h:cV K c vs H Q E):gq K c { nx:=fun _ H'=>Q .non H',rt:=Q } (start ["floor","lines"] vs) H:=by
 obtain ⟨p,a,h,w,g,rows,rfl,hp,ha,O,q⟩:=h
 have hn:=O.n
 show gq K c _ [some (.ref p),some (.ref a)] H
 unfold gq
 rw [aP,aA]
 walk_at "w"
 rw [bi ha,List.length_map,List.length_map]
 walk_at "w"
 rw [decide_eq_false (show ¬ (12:Int) < (rows.length:Nat) by omega)]
 refine iteF ?_
 walk_at "w"
 refine ⟨⟨_,SqL.of ha⟩,?_⟩
 refine rj (xs:=(rows.map RR.txt).map V.str) (fun l i σ H'=>(∃ cv,σ=[none,cv,some (.ref p)])∧Same H H'∧∃ rs:List Addr,H' l=some (.lst (rs.map V.ref))∧rs.length=i∧∀ (j:Nat) (r:Addr) (x:RR),rs[j]? =some r→rows[j]? =some x→IsRule H' c x.k r p x.ws x.cs x.n x.m)
  (fun l hl=>⟨⟨none,rfl⟩,(Same.refl H).laid hl,[],by rw [ah]; rfl,rfl,fun j r x e=>by simp at e⟩) (fun l i σ H' _ _ x=>x.2.1.seq (SqL.of ha)) ?_ ?_
 · rintro l i x σ H1 hl hx ⟨⟨cv,rfl⟩,s1,rs,el,hlen,hat⟩
   rw [List.getElem?_map,List.getElem?_map] at hx
   cases e:rows[i]? with
   | none=>rw [e] at hx; cases hx
   | some y=>
    rw [e] at hx
    cases hx
    have hi:=(List.getElem?_eq_some_iff.mp e).1
    have hm:=List.mem_of_getElem? e
    rw [cp]
    show tTrue [none,some (.str y.txt),some (.ref p)] H1 _
    walk_at "w"
    refine ⟨y.k,p,h,w,g,y.n,y.m,y.ns,y.cs,rfl,s1 _ _ hp,O.F,O.ok y hm,O.c y hm,fun r H2 s2 hr xr=>?_⟩
    have nrl:r≠l:=fun z=>by rw [z,el] at hr; cases hr
    refine ⟨_,s2 _ _ el,by rw [List.length_map]; exact aK (by omega),⟨_,rfl⟩,(s1.trans s2).own hl,rs++[r],by rw [ah]; simp,by simp [hlen],fun j r' x' h1 h2=>?_⟩
    by_cases hj:j < rs.length
    · rw [List.getElem?_append_left hj] at h1
      exact ((hat j r' x' h1 h2).same s2).lst (s2 _ _ el)
    · rw [List.getElem?_append_right (by omega)] at h1
      have hj0:j - rs.length=0:=by
       have:=(List.getElem?_eq_some_iff.mp h1).1
       simp at this
       omega
      rw [hj0] at h1
      have:j=i:=by omega
      subst this
      rw [e] at h2
      simp at h1
      cases h2
      subst h1
      exact xr.lst (s2 _ _ el)
 · rintro l σ H1 hl ⟨_,s1,rs,el,hlen,hat⟩
   exact q l rs H1 s1 hl ⟨el,by rw [hlen]; simp,hat⟩
def filB (least g:Int) (n:Nat) (xs:List Int):Bool:=decide (xs.length=n)&&xs.all fun x=>decide (least≤x)&&decide (x≤g)
def cW (K:PySem.W.Frag):Sp:=fun vs H Q _=>∃ (p a:Addr) (h w g least:Int) (xs:List Int),vs=[.ref p,.ref a,.int least]∧IsFl H p h w g∧FlOk h w g∧H a=some (.lst (xs.map V.int))∧xs.length≤100∧∀ H',Same H H'→Q (.bl (filB least g (h*w).toNat xs)) H'
theorem rR {K:PySem.W.Frag} {vs:List V} {H:Hp} {Q:VK} {E:XK} (h:cW K vs H Q E):vs.length=3:=by
 obtain ⟨_,_,_,_,_,_,_,rfl,_⟩:=h; rfl
def gr (K:PySem.W.Frag):TS:=
 (tSeq (tIfS (tOr (tNot (tB (tCB kIsi (tCons (tVar 1) (tCons (tC (.ty "list")) tNil))))) (tTest (tOp (cNe K) (tCB kLen (tCons (tVar 1) tNil)) (tCall (aR K) [] E0 (tCons (tVar 0) tNil))))) (tRet (tC (.bl false))) tNext)
  (tRet (tCB kAll (tCons (tComp [none,none,some 0,some 2] (iList K (tVar 1)) (gName 1) tTrue (tAndV (tCall (ba K) [] E0 (tCons (tVar 1) tNil)) (tAndV (tOp (cCmp fun i j=>decide (i≤j)) (tVar 3) (tVar 1)) (tOp (cCmp fun i j=>decide (i≤j)) (tVar 1) (tOp cIx (tVar 2) (tC (.int 2))))))) tNil))))
theorem rS {K:PySem.W.Frag} {vs:List V} {H:Hp} {Q:VK} {E:XK} (h:cW K vs H Q E):gr K { nx:=fun _ H'=>Q .non H',rt:=Q } (start ["floor","filling","least"] vs) H:=by
 obtain ⟨p,a,h,w,g,least,xs,rfl,hp,F,ha,hn,q⟩:=h
 obtain ⟨h0,h1,w0,w1,m16,g0,g1⟩:=id F
 have mpos:0≤h*w:=Int.mul_nonneg (by omega) (by omega)
 show gr K _ [some (.ref p),some (.ref a),some (.int least)] H
 unfold gr
 rw [aP,aA]
 walk_at "w"
 refine sP ha ?_
 walk_at "w"
 rw [bi ha,List.length_map]
 walk_at "w"
 refine ⟨p,h,w,g,rfl,hp,h0,h1,?_⟩
 walk_at "w"
 unfold filB at q
 by_cases hl:xs.length=(h*w).toNat
 · rw [decide_eq_true (show (xs.length:Int)=h*w by omega)]
   rw [decide_eq_true hl] at q
   walk_at "w"
   refine ⟨⟨_,SqL.of ha⟩,?_⟩
   refine dL (xs:=xs.map V.int) (fun _=>true) (fun i=>.bl (decide (least≤xs.getD i 0)&&decide (xs.getD i 0≤g))) (by rw [List.length_map]; omega) (SqL.of ha) ?_ ?_ ?_
   · intro i x H1 R hx s1 k1
     exact k1 _ (Same.refl _)
   · intro i x H1 Q1 hx hb s1 k1
     obtain ⟨z,hz,rfl⟩:=gh hx
     have q1:=k1 _ (Same.refl H1)
     rw [nG hz] at q1
     show tAndV _ _ [none,some (.int z),some (.ref p),some (.int least)] H1 Q1
     walk_at "w"
     refine ⟨z,rfl,⟨true,rfl,iteT ?_⟩⟩
     walk_at "w"
     cases hb:decide (least≤z) with
     | false=>
      rw [hb,Bool.false_and] at q1
      exact iteF q1
     | true=>
      rw [hb,Bool.true_and] at q1
      refine iteT ?_
      walk_at "w"
      refine ixT (s1 _ _ hp) (v:=V.int g) rfl ?_
      walk_at "w"
      exact q1
   · intro l H1 hl1 s1 el
     have eb:((List.range (xs.map V.int).length).filter fun _=>true).map (fun i=>V.bl (decide (least≤xs.getD i 0)&&decide (xs.getD i 0≤g)))=(xs.map fun x=>decide (least≤x)&&decide (x≤g)).map V.bl:=by
      rw [fD,List.length_map]
      refine List.ext_getElem? fun i=>?_
      rw [List.getElem?_map,List.getElem?_map,List.getElem?_map]
      by_cases h:i < xs.length
      · rw [List.getElem?_range h,List.getElem?_eq_getElem h]
        simp [List.getD,h]
      · rw [List.getElem?_eq_none (by simpa using h),List.getElem?_eq_none (by omega)]; rfl
     rw [eb] at el
     refine sk el ?_
     have ea:(xs.map fun x=>decide (least≤x)&&decide (x≤g)).all id=xs.all fun x=>decide (least≤x)&&decide (x≤g):=by rw [List.all_map]; rfl
     rw [ea]
     exact q _ s1
 · rw [decide_eq_false (show ¬ (xs.length:Int)=h*w by omega)]
   rw [decide_eq_false hl] at q
   walk_at "w"
   exact q _ (Same.refl _)
def b6 (K:PySem.W.Frag):Sp:=fun vs H Q _=>∃ (p a:Addr) (h w g:Int) (xs:List Int),vs=[.ref p,.ref a]∧IsFl H p h w g∧FlOk h w g∧H a=some (.lst (xs.map V.int))∧CluesOk h w g xs∧∀ l H',Same H H'→H l=none→H' l=some (.lst (xs.map V.int))→Q (.ref l) H'
theorem oP {K:PySem.W.Frag} {vs:List V} {H:Hp} {Q:VK} {E:XK} (h:b6 K vs H Q E):vs.length=2:=by
 obtain ⟨_,_,_,_,_,_,rfl,_⟩:=h; rfl
def dP (K:PySem.W.Frag):TS:=
 (tSeq (tIfS (tNot (tB (tCall (cW K) [] E0 (tCons (tVar 0) (tCons (tVar 1) (tCons (tC (.int 0)) tNil)))))) cM tNext)
  (tRet (tCB kList (tCons (tVar 1) tNil))))
theorem CluesOk.fil {h w g:Int} {xs:List Int} (C:CluesOk h w g xs):filB 0 g (h*w).toNat xs=true:=by
 unfold filB
 rw [decide_eq_true C.len,Bool.true_and,List.all_eq_true]
 intro x hx
 have:=C.ok x hx
 simp [this.1,this.2]
theorem oQ {K:PySem.W.Frag} {vs:List V} {H:Hp} {Q:VK} {E:XK} (h:b6 K vs H Q E):dP K { nx:=fun _ H'=>Q .non H',rt:=Q } (start ["floor","clues"] vs) H:=by
 obtain ⟨p,a,h,w,g,xs,rfl,hp,F,ha,C,q⟩:=h
 obtain ⟨h0,h1,w0,w1,m16,g0,g1⟩:=id F
 show dP K _ [some (.ref p),some (.ref a)] H
 unfold dP
 rw [aP,aA]
 walk_at "w"
 refine ⟨p,a,h,w,g,0,xs,rfl,hp,F,ha,by have:=C.len; omega,fun H1 s1=>?_⟩
 rw [C.fil]
 refine ⟨true,rfl,iteF ?_⟩
 walk_at "w"
 refine mF (s1 _ _ ha) fun l hl=>?_
 exact q l _ (s1.laid hl) (s1.free hl) ah
theorem IsRule.ins {H:Hp} {c:RCl RK} {k:RK} {r p a:Addr} {ws:List (List Nat)} {cs:List Int} {n m:Int} {C dx:Addr} {fs:List (Str × V)} {o:HO} (x:IsRule H c k r p ws cs n m) (ha:H a=some (.ins C dx fs)) (hf:fs.length≠5):IsRule (upd H a o) c k r p ws cs n m:=by
 obtain ⟨dx',W,C',h1,h2,h3⟩:=x.ex
 refine ⟨x.ok,dx',W,C',?_,?_,?_⟩
 · rw [av (fun e=>by rw [e,ha] at h1; cases h1; exact hf rfl)]; exact h1
 · rw [av (fun e=>by rw [e,ha] at h2; cases h2)]; exact h2
 · rw [av (fun e=>by rw [e,ha] at h3; cases h3)]; exact h3
theorem IsRules.ins {H:Hp} {c:RCl RK} {p L a:Addr} {rs:List Addr} {rows:List RR} {C dx:Addr} {fs:List (Str × V)} {o:HO} (x:IsRules H c p L rs rows) (ha:H a=some (.ins C dx fs)) (hf:fs.length≠5):IsRules (upd H a o) c p L rs rows:=
 ⟨by rw [av (fun e=>by have:=x.top; rw [e,ha] at this; cases this)]; exact x.top,x.len,fun i r y h1 h2=>(x.at_ i r y h1 h2).ins ha hf⟩
def bb (K:PySem.W.Frag) (c:RCl RK) (d:RCl PzK):Sp:=fun vs H Q _=>∃ (x dx p a b:Addr) (h w g:Int) (rows:List RR) (cl:List Int),vs=[.ref x,.ref p,.ref a,.ref b]∧d.ok .Puzzle=true∧H x=some (.ins (d.A .Puzzle) dx [])∧IsFl H p h w g∧H a=some (.lst ((rows.map RR.txt).map V.str))∧H b=some (.lst (cl.map V.int))∧j8 c h w g rows∧CluesOk h w g cl∧
 ∀ L G H',(∀ y o,y≠x→H y=some o→H' y=some o)→H L=none→H G=none→IsPz H' c d x L G h w g rows cl→Q .non H'
theorem mN {K:PySem.W.Frag} {c:RCl RK} {d:RCl PzK} {vs:List V} {H:Hp} {Q:VK} {E:XK} (h:bb K c d vs H Q E):vs.length=4:=by
 obtain ⟨_,_,_,_,_,_,_,_,_,_,rfl,_⟩:=h; rfl
def c6 (K:PySem.W.Frag) (c:RCl RK) (d:RCl PzK):TS:=
 (tSeq (sFldK d (tVar 0) (tCall (b5 K) [] E0 (tCons (tVar 1) tNil)) "floor")
  (tSeq (sFldK d (tVar 0) (tCall (cV K c) [] E0 (tCons (tFldK d (tVar 0) "floor") (tCons (tVar 2) tNil))) "laws")
  (sFldK d (tVar 0) (tCall (b6 K) [] E0 (tCons (tFldK d (tVar 0) "floor") (tCons (tVar 3) tNil))) "given")))
theorem mO {K:PySem.W.Frag} {c:RCl RK} {d:RCl PzK} {vs:List V} {H:Hp} {Q:VK} {E:XK} (h:bb K c d vs H Q E):c6 K c d { nx:=fun _ H'=>Q .non H',rt:=Q } (start ["self","floor","lines","clues"] vs) H:=by
 obtain ⟨x,dx,p,a,b,h,w,g,rows,cl,rfl,ok,hx,hp,ha,hb,R,C,q⟩:=h
 show c6 K c d _ [some (.ref x),some (.ref p),some (.ref a),some (.ref b)] H
 unfold c6 sFldK
 walk_at "w"
 refine ⟨p,h,w,g,rfl,hp,R.F,fun p1 hp1=>?_⟩
 have nxp:x≠p1:=aH hx hp1
 refine ⟨x,.Puzzle,dx,[],rfl,ok,by rw [av nxp]; exact hx,by show (0:Nat) < 1000; decide,?_⟩
 have f1:∀ y o,y≠x→H y=some o→(upd (upd H p1 (.tup [.int h,.int w,.int g])) x (.ins (d.A .Puzzle) dx (putF "floor" (.ref p1) []))) y=some o:=fun y o ny e=>by
  rw [av ny,av (aH e hp1)]; exact e
 have hx1:(upd (upd H p1 (.tup [.int h,.int w,.int g])) x (.ins (d.A .Puzzle) dx (putF "floor" (.ref p1) []))) x=some (.ins (d.A .Puzzle) dx [("floor",.ref p1)]):=ah
 have hp1':IsFl (upd (upd H p1 (.tup [.int h,.int w,.int g])) x (.ins (d.A .Puzzle) dx (putF "floor" (.ref p1) []))) p1 h w g:=by
  show (upd (upd H p1 (.tup [.int h,.int w,.int g])) x _) p1=_
  rw [av nxp.symm,ah]
 have fr1:∀ l,(upd (upd H p1 (.tup [.int h,.int w,.int g])) x (.ins (d.A .Puzzle) dx (putF "floor" (.ref p1) []))) l=none→H l=none:=fun l e=>by
  have n1:l≠x:=fun z=>by rw [z,ah] at e; cases e
  rw [av n1] at e
  have n2:l≠p1:=fun z=>by rw [z,ah] at e; cases e
  rw [av n2] at e
  exact e
 have nax:a≠x:=fun z=>by rw [z,hx] at ha; cases ha
 have nbx:b≠x:=fun z=>by rw [z,hx] at hb; cases hb
 generalize upd (upd H p1 (.tup [.int h,.int w,.int g])) x (.ins (d.A .Puzzle) dx (putF "floor" (.ref p1) []))=H1 at*
 refine fldE (c:=d) (k:=.Puzzle) rfl ok hx1 (v:=.ref p1) (by rfl) ?_
 walk_at "w"
 refine ⟨p1,a,h,w,g,rows,rfl,hp1',f1 a _ nax ha,R,fun L rs H2 s2 hL X=>?_⟩
 refine ⟨x,.Puzzle,dx,_,rfl,ok,s2 _ _ hx1,by show (1:Nat) < 1000; decide,?_⟩
 have nxL:L≠x:=fun z=>by rw [z,hx1] at hL; cases hL
 have X3:=X.ins (o:=.ins (d.A .Puzzle) dx (putF "laws" (.ref L) [("floor",.ref p1)])) (s2 _ _ hx1) (by show (1:Nat)≠5; decide)
 have f2:∀ y o,y≠x→H y=some o→(upd H2 x (.ins (d.A .Puzzle) dx (putF "laws" (.ref L) [("floor",.ref p1)]))) y=some o:=fun y o ny e=>by
  rw [av ny]; exact s2 _ _ (f1 y o ny e)
 have hx3:(upd H2 x (.ins (d.A .Puzzle) dx (putF "laws" (.ref L) [("floor",.ref p1)]))) x=some (.ins (d.A .Puzzle) dx [("floor",.ref p1),("laws",.ref L)]):=ah
 have hp3:IsFl (upd H2 x (.ins (d.A .Puzzle) dx (putF "laws" (.ref L) [("floor",.ref p1)]))) p1 h w g:=by
  show (upd H2 x _) p1=_
  rw [av nxp.symm]; exact s2 _ _ hp1'
 have fr3:∀ l,(upd H2 x (.ins (d.A .Puzzle) dx (putF "laws" (.ref L) [("floor",.ref p1)]))) l=none→H1 l=none:=fun l e=>by
  have n1:l≠x:=fun z=>by rw [z,ah] at e; cases e
  rw [av n1] at e
  exact s2.free e
 generalize upd H2 x (.ins (d.A .Puzzle) dx (putF "laws" (.ref L) [("floor",.ref p1)]))=H3 at*
 refine fldE (c:=d) (k:=.Puzzle) rfl ok hx3 (v:=.ref p1) (by rfl) ?_
 walk_at "w"
 refine ⟨p1,b,h,w,g,cl,rfl,hp3,R.F,f2 b _ nbx hb,C,fun G H4 s4 hG eG=>?_⟩
 refine ⟨x,.Puzzle,dx,_,rfl,ok,s4 _ _ hx3,by show (2:Nat) < 1000; decide,?_⟩
 have nxG:G≠x:=fun z=>by rw [z,hx3] at hG; cases hG
 refine q L G _ (fun y o ny e=>?_) (fr1 L hL) (fr1 G (fr3 G hG)) ⟨ok,R,C,?_,dx,p1,rs,?_,?_,?_⟩
 · rw [av ny]; exact s4 _ _ (f2 y o ny e)
 · rw [av nxG]; exact eG
 · rw [ah]; rfl
 · show (upd H4 x _) p1=_
   rw [av nxp.symm]; exact s4 _ _ hp3
 · exact (X3.same s4).ins (s4 _ _ hx3) (by show (2:Nat)≠5; decide)
theorem z5 {K:PySem.W.Frag} {c:RCl RK} {d:RCl PzK} {H:Hp} {Z:Addr→Hp→Prop} {p a b:Addr} {h w g:Int} {rows:List RR} {cl:List Int} (ok:d.ok .Puzzle=true) (hp:IsFl H p h w g) (ha:H a=some (.lst ((rows.map RR.txt).map V.str))) (hb:H b=some (.lst (cl.map V.int))) (R:j8 c h w g rows) (C:CluesOk h w g cl)
  (q:∀ P L G H',Same H H'→H P=none→H L=none→H G=none→IsPz H' c d P L G h w g rows cl→Z P H'):
  ∀ x dx,H x=none→H dx=none→dx≠x→bb K c d (.ref x::([.ref p,.ref a,.ref b]++[])) (upd (upd H dx (.own x)) x (.ins (d.A .Puzzle) dx [])) (fun v H2=>v=.non∧Z x H2) E0:=by
 intro x dx hx hd ne
 have k:∀ y o,H y=some o→(upd (upd H dx (.own x)) x (.ins (d.A .Puzzle) dx [])) y=some o:=fun y o e=>by rw [av (aH e hx),av (aH e hd)]; exact e
 have fr:∀ y,(upd (upd H dx (.own x)) x (.ins (d.A .Puzzle) dx [])) y=none→H y=none:=fun y e=>by
  have n1:y≠x:=fun z=>by rw [z,ah] at e; cases e
  rw [av n1] at e
  have n2:y≠dx:=fun z=>by rw [z,ah] at e; cases e
  rw [av n2] at e
  exact e
 exact ⟨x,dx,p,a,b,h,w,g,rows,cl,rfl,ok,ah,k _ _ hp,k _ _ ha,k _ _ hb,R,C,fun L G H' hs hL hG X=>⟨rfl,q x L G H' (fun y o e=>hs y o (aH e hx) (k _ _ e)) hx (fr L hL) (fr G hG) X⟩⟩
def de (K:PySem.W.Frag) (c:RCl RK) (d:RCl PzK) (_:PzK):Sp:=fun vs H Q _=>∃ (P L G:Addr) (h w g:Int) (rows:List RR) (cl:List Int),vs=[.ref P]∧IsPz H c d P L G h w g rows cl∧∀ p,IsFl H p h w g→Q (.ref p) H
def eV (K:PySem.W.Frag) (c:RCl RK) (d:RCl PzK):Sp:=de K c d .Puzzle
theorem pT {K:PySem.W.Frag} {c:RCl RK} {d:RCl PzK} {vs:List V} {H:Hp} {Q:VK} {E:XK} (h:eV K c d vs H Q E):vs.length=1:=by
 obtain ⟨_,_,_,_,_,_,_,_,rfl,_⟩:=h; rfl
def eX (K:PySem.W.Frag) (c:RCl RK) (d:RCl PzK):TS:=
 (tRet (tFldK d (tVar 0) "floor"))
theorem pU {K:PySem.W.Frag} {c:RCl RK} {d:RCl PzK} {vs:List V} {H:Hp} {Q:VK} {E:XK} (h:eV K c d vs H Q E):eX K c d { nx:=fun _ H'=>Q .non H',rt:=Q } (start ["self"] vs) H:=by
 obtain ⟨P,L,G,h,w,g,rows,cl,rfl,x,q⟩:=h
 obtain ⟨dx,p,rs,h1,h2,h3⟩:=x.ex
 show eX K c d _ [some (.ref P)] H
 unfold eX
 walk_at "w"
 exact fldE (k:=.Puzzle) rfl x.ok h1 (v:=.ref p) (by rfl) (q p h2)
def lF (K:PySem.W.Frag) (c:RCl RK) (d:RCl PzK) (_:PzK):Sp:=fun vs H Q _=>∃ (P L G:Addr) (h w g:Int) (rows:List RR) (cl:List Int),vs=[.ref P]∧IsPz H c d P L G h w g rows cl∧∀ l,H l=none→Q (.ref l) (upd H l (.lst (cl.map V.int)))
def e6 (K:PySem.W.Frag) (c:RCl RK) (d:RCl PzK):Sp:=lF K c d .Puzzle
theorem pV {K:PySem.W.Frag} {c:RCl RK} {d:RCl PzK} {vs:List V} {H:Hp} {Q:VK} {E:XK} (h:e6 K c d vs H Q E):vs.length=1:=by
 obtain ⟨_,_,_,_,_,_,_,_,rfl,_⟩:=h; rfl
def e7 (K:PySem.W.Frag) (c:RCl RK) (d:RCl PzK):TS:=
 (tRet (tCB kList (tCons (tFldK d (tVar 0) "given") tNil)))
theorem pW {K:PySem.W.Frag} {c:RCl RK} {d:RCl PzK} {vs:List V} {H:Hp} {Q:VK} {E:XK} (h:e6 K c d vs H Q E):e7 K c d { nx:=fun _ H'=>Q .non H',rt:=Q } (start ["self"] vs) H:=by
 obtain ⟨P,L,G,h,w,g,rows,cl,rfl,x,q⟩:=h
 obtain ⟨dx,p,rs,h1,h2,h3⟩:=x.ex
 show e7 K c d _ [some (.ref P)] H
 unfold e7
 walk_at "w"
 refine fldE (k:=.Puzzle) rfl x.ok h1 (v:=.ref G) (by rfl) ?_
 walk_at "w"
 exact mF x.gv q
def df (K:PySem.W.Frag) (c:RCl RK) (d:RCl PzK) (_:PzK):Sp:=fun vs H Q _=>∃ (P L G:Addr) (h w g:Int) (rows:List RR) (cl:List Int),vs=[.ref P]∧IsPz H c d P L G h w g rows cl∧∀ l p rs,H l=none→IsFl (upd H l (.lst (rs.map V.ref))) p h w g→IsRules (upd H l (.lst (rs.map V.ref))) c p l rs rows→Q (.ref l) (upd H l (.lst (rs.map V.ref)))
def e9 (K:PySem.W.Frag) (c:RCl RK) (d:RCl PzK):Sp:=df K c d .Puzzle
theorem pX {K:PySem.W.Frag} {c:RCl RK} {d:RCl PzK} {vs:List V} {H:Hp} {Q:VK} {E:XK} (h:e9 K c d vs H Q E):vs.length=1:=by
 obtain ⟨_,_,_,_,_,_,_,_,rfl,_⟩:=h; rfl
def fb (K:PySem.W.Frag) (c:RCl RK) (d:RCl PzK):TS:=
 (tRet (tCB kList (tCons (tFldK d (tVar 0) "laws") tNil)))
theorem pY {K:PySem.W.Frag} {c:RCl RK} {d:RCl PzK} {vs:List V} {H:Hp} {Q:VK} {E:XK} (h:e9 K c d vs H Q E):fb K c d { nx:=fun _ H'=>Q .non H',rt:=Q } (start ["self"] vs) H:=by
 obtain ⟨P,L,G,h,w,g,rows,cl,rfl,x,q⟩:=h
 obtain ⟨dx,p,rs,h1,h2,h3⟩:=x.ex
 show fb K c d _ [some (.ref P)] H
 unfold fb
 walk_at "w"
 refine fldE (k:=.Puzzle) rfl x.ok h1 (v:=.ref L) (by rfl) ?_
 walk_at "w"
 refine mF h3.top fun l hl=>?_
 have s1:Same H (upd H l (.lst (rs.map V.ref))):=(Same.refl H).laid hl
 exact q l p rs hl (s1 _ _ h2) ⟨ah,h3.len,fun i r y e1 e2=>(h3.at_ i r y e1 e2).same s1⟩
end L2
namespace L2
open PySem PySem.Spec PyProof.Rows
inductive DRows (w:World) (K:PySem.W.Frag):List DictEntry→List (Str × List Str)→Prop
 | nil:DRows w K [] []
 | cons {hsh:Int} {k:Str} {t:Tok} {q:Addr} {o:Obj} {its:Array Value} {n:Nat} {ws:List Str} {es:List DictEntry} {D:List (Str × List Str)}:hsh=hashStr w k→K.lookup q=some o→o.cls=.type "tuple"→o.data=.seq its n→its.size≤sizeLine→Vals (ws.map V.str) its.toList→DRows w K es D→DRows w K (⟨hsh,.str k t,.ref q⟩::es) ((k,ws)::D)
structure GDict (w:World) (K:PySem.W.Frag) (mg:Str→Option Value) (x:Str) (D:List (Str × List Str)):Prop where
 ex:∃ (p:Addr) (o:Obj) (es:Array DictEntry) (ep:Nat),mg x=some (.ref p)∧K.lookup p=some o∧o.ExactDict∧o.data=.dict es ep∧DRows w K es.toList D∧(D.map fun x=>x.1).Nodup
theorem DRows.of {P:Program} {w:World} {K:PySem.W.Frag} {es:List DictEntry} {D:List (Str × List Str)} (h:DRows w K es D):
  ∃ kvs:List (Str × Value),Pairs (strKind P w) es kvs∧kvs.map (fun x=>x.1)=D.map (fun x=>x.1)∧(∀ e∈es,∃ k,(strKind P w).is k e.key=true∧e.hash=(strKind P w).hash k)∧
   ∀ k ws,D.lookup k=some ws→∃ q,valueAt kvs k=some (.ref q)∧∃ (o:Obj) (its:Array Value) (n:Nat),K.lookup q=some o∧o.cls=.type "tuple"∧o.data=.seq its n∧its.size≤sizeLine∧Vals (ws.map V.str) its.toList:=by
 induction h with
 | nil=>exact ⟨[],.nil,rfl,fun e he=>(by cases he),fun k ws e=>(by cases e)⟩
 | @cons hsh k t q o its n ws es D h1 h2 h3 h4 h5 h6 _ ih=>
  obtain ⟨kvs,p1,p2,p3,p4⟩:=ih
  have hk:(strKind P w).is k (.str k t)=true:=by show (k==k)=true; simp
  refine ⟨(k,.ref q)::kvs,.cons hk rfl p1,by rw [List.map_cons,List.map_cons,p2],fun e he=>?_,fun k' ws' e=>?_⟩
  · rcases List.mem_cons.mp he with rfl | he
    · exact ⟨k,hk,h1⟩
    · exact p3 e he
  · rw [List.lookup_cons] at e
    unfold valueAt
    rw [List.find?_cons]
    by_cases hkk:k'=k
    · subst hkk
      simp at e
      subst e
      refine ⟨q,by simp,o,its,n,h2,h3,h4,h5,h6⟩
    · have hb:(k'==k)=false:=by simpa using hkk
      rw [hb] at e
      have hd:decide (k=k')=false:=decide_eq_false (fun z=>hkk z.symm)
      dsimp only
      rw [hd]
      exact p4 k' ws' e
def tIxG (K:PySem.W.Frag) (D:List (Str × List Str)) (te:TE):TE:=fun σ H Q=>te σ H fun y H1=>∃ k ws,y=.str k∧D.lookup k=some ws∧∀ q,SqT K H1 q (ws.map V.str)→Q (.ref q) H1
def rInS (K:PySem.W.Frag):R2:=fun x y H Q=>∃ (z:Str) (q:Addr) (ws:List Str),x=.str z∧y=.ref q∧SqT K H q (ws.map V.str)∧Q (.bl (decide (z∈ws))) H
section
variable {X:Cx} {a b:Expr} {ta tb:TE} {pos p:Pos} {x:Str} {D:List (Str × List Str)}
theorem z6 (G:GDict X.w X.K X.mg x D) (hb:PE X b tb) (hg:Gl X x) (hpi:uZ b) (hdb:(x==("__debug__":Str))=false:=by decide):PE X (.Subscript (.Name x p) b pos) (tIxG X.K D tb):=by
 obtain ⟨pd,o,es,ep,h1,h2,h3,h4,h5,h6⟩:=G.ex
 obtain ⟨kvs,p1,p2,p3,p4⟩:=h5.of (P:=X.prog)
 have ir:IxR X (fun x y H Q=>x=.ref pd∧∃ k ws,y=.str k∧D.lookup k=some ws∧∀ q,SqT X.K H q (ws.map V.str)→Q (.ref q) H):=by
  intro value slice pins s σ H x y v u Q I rx ry h hs
  obtain ⟨rfl,k,ws,rfl,hl,q⟩:=h
  cases (show v=Value.ref pd from rx)
  have hget:s.heap.get? pd=some o:=I.kIn pd o h2
  have dd:Heap.DictOf (strKind X.prog X.w) s.heap pd kvs:=⟨o,es,ep,hget,h3,h4,fun e he=>p3 e (Array.mem_toList_iff.mpr he),p1,by rw [p2]; exact h6⟩
  obtain ⟨qa,hv,o2,its,n,g1,g2,g3,g4,g5⟩:=p4 k ws hl
  obtain ⟨t,rfl⟩:∃ t,u=Value.str k t:=ry
  have hk:(strKind X.prog X.w).is k (.str k t)=true:=by show (k==k)=true; simp
  refine tail_any dd.typeIs PySem.F.slot_dict_getitem.lookup (wpAny_getItem_of hk dd.mapOf hv ?_) hs
  exact ⟨.ref qa,H,I.tok _,rfl,q qa (.inr ⟨o2,its,n,g1,g2,g3,g4,g5⟩)⟩
 have h0:=ai (pos:=pos) ir (dm (pos:=p) (v:=V.ref pd) hg h1 rfl hdb) hb hpi
 intro pins s σ H Q I h
 refine h0 pins s σ H Q I ?_
 have e:(fun (y:V) (H1:Hp)=>∃ k ws,y=.str k∧D.lookup k=some ws∧∀ q,SqT X.K H1 q (ws.map V.str)→Q (.ref q) H1)=fun y H1=>(V.ref pd=V.ref pd)∧∃ k ws,y=.str k∧D.lookup k=some ws∧∀ q,SqT X.K H1 q (ws.map V.str)→Q (.ref q) H1:=by
  funext y H1; simp
 have h':tb σ H (fun (y:V) (H1:Hp)=>∃ k ws,y=.str k∧D.lookup k=some ws∧∀ q,SqT X.K H1 q (ws.map V.str)→Q (.ref q) H1):=h
 rw [e] at h'
 exact h'
theorem z7:OpR X (compareOp .In) (rInS X.K):=by
 intro pins s σ H x y v u Q I rx ry h
 obtain ⟨z,q,ws,rfl,rfl,hq,h⟩:=h
 refine mx pins s σ H _ _ v u Q I rx ry ⟨q,ws.map V.str,rfl,.inr hq,rfl,kx ws,?_⟩
 rw [lE]
 exact h
end
section
variable {K:PySem.W.Frag} {σ:St} {H:Hp} {Q:VK} {te:TE} {D:List (Str × List Str)}
theorem Ax:tIxG K D te σ H Q=te σ H fun y H1=>∃ k ws,y=.str k∧D.lookup k=some ws∧∀ q,SqT K H1 q (ws.map V.str)→Q (.ref q) H1:=rfl
end
end L2
namespace L2
open PySem PySem.Spec PyProof.Rows
local macro_rules | `(tactic| walk_at "w")=>`(tactic| (first | simp only [aP,if_true,if_false,Bool.false_eq_true,decide_true,decide_false,jW,jX,nI,iH,gC,jU,k7,jV,iF,kY,kZ,iE,nF,iI,iJ,iL,iM,iN,iO,iK,k8,k9,la,kW,nH,Bool.not_true,Bool.not_false,gc,fO,cp,i9,w_c,lw,gK,gL,gd,gM,w_b,w_not,jq,lx,gN,gO,jr,ja,ge,ly,gP,js,jt,kE,ju,gQ,gR,gS,gT,fP,fQ,dt,dG,dH,cZ,jv,jw,jx,jy,jz,jA,jB,jC,jD,jE,jF,jG,lA,gU,dI,gW,lB,gX,fR,dJ,jH,jI,gY,gf,gZ,
 List.getElem?_cons_zero,List.getElem?_cons_succ,Option.some.injEq,exists_eq_left',exists_eq_left,List.set_cons_zero,List.set_cons_succ,dc,V.int.injEq,V.bl.injEq,V.ref.injEq,V.str.injEq,List.append_nil,List.nil_append,List.cons_append] | dsimp only | skip))
def stB (m s:Int):Bool:=decide (1≤s)&&(decide (s≤((Builtin.Int.intBits m:Nat):Int))&&decide (m / 2^(s - 1).toNat % 2=1))
def bW (K:PySem.W.Frag):Sp:=fun vs H Q _=>∃ m s:Int,vs=[.int m,.int s]∧Q (.bl (stB m s)) H
theorem xv {K:PySem.W.Frag} {vs:List V} {H:Hp} {Q:VK} {E:XK} (h:bW K vs H Q E):vs.length=2:=by
 obtain ⟨_,_,rfl,_⟩:=h; rfl
def kz (K:PySem.W.Frag):TS:=
 (tRet (tAndV (tOp (cCmp fun i j=>decide (i≤j)) (tC (.int 1)) (tVar 1)) (tAndV (tOp (cCmp fun i j=>decide (i≤j)) (tVar 1) (vD K "int" kX (tVar 0))) (tOp (cEq K) (tOp cMod (tOp cShr (tVar 0) (tOp cSub (tVar 1) (tC (.int 1)))) (tC (.int 2))) (tC (.int 1))))))
theorem xw {K:PySem.W.Frag} {vs:List V} {H:Hp} {Q:VK} {E:XK} (h:bW K vs H Q E):kz K { nx:=fun _ H'=>Q .non H',rt:=Q } (start ["mask","sign"] vs) H:=by
 obtain ⟨m,s,rfl,q⟩:=h
 show kz K _ [some (.int m),some (.int s)] H
 unfold kz
 walk_at "w"
 unfold stB at q
 cases h1:decide (1≤s) with
 | false=>rw [h1,Bool.false_and] at q; exact iteF q
 | true=>
  refine iteT ⟨rfl,?_⟩
  walk_at "w"
  rw [h1,Bool.true_and] at q
  cases h2:decide (s≤((Builtin.Int.intBits m:Nat):Int)) with
  | false=>rw [h2,Bool.false_and] at q; exact iteF q
  | true=>
   rw [h2,Bool.true_and] at q
   exact iteT ⟨by have:=of_decide_eq_true h1; omega,by decide,q⟩
def gG (K:PySem.W.Frag):Sp:=fun vs H Q _=>∃ s:Int,vs=[.int s]∧1≤s∧s≤100000∧Q (.int (2^(s - 1).toNat)) H
theorem xx {K:PySem.W.Frag} {vs:List V} {H:Hp} {Q:VK} {E:XK} (h:gG K vs H Q E):vs.length=1:=by
 obtain ⟨_,rfl,_⟩:=h; rfl
def kA (K:PySem.W.Frag):TS:=
 (tSeq (tAsg (tC (.int 1)) (gName 1))
  (tSeq (tFor (di (tCons (tOp cSub (tVar 0) (tC (.int 1))) tNil)) (gName 2)
  (tAsg (tOp cMul (tVar 1) (tC (.int 2))) (gName 1)))
  (tRet (tVar 1))))
theorem xy {K:PySem.W.Frag} {vs:List V} {H:Hp} {Q:VK} {E:XK} (h:gG K vs H Q E):kA K { nx:=fun _ H'=>Q .non H',rt:=Q } (start ["sign","bit","step"] vs) H:=by
 obtain ⟨s,rfl,h1,h2,q⟩:=h
 show kA K _ [some (.int s),none,none] H
 unfold kA
 walk_at "w"
 refine ⟨s - 1,rfl,by omega,by omega,?_⟩
 refine fw (fun i σ H'=>∃ sv:Option V,σ=[some (.int s),some (.int (2^i)),sv]∧H'=H) ⟨none,rfl,rfl⟩ ?_ ?_
 · rintro i σ H' hi ⟨sv,rfl,rfl⟩
   walk_at "w"
   refine ⟨.inr ⟨by decide,by decide⟩,?_⟩
   simp [Int.pow_succ]
 · rintro σ H' ⟨sv,rfl,rfl⟩
   walk_at "w"
   exact q
def woI (m s:Int):Int:=if stB m s=true then m - 2^(s - 1).toNat else m
def fV (K:PySem.W.Frag):Sp:=fun vs H Q _=>∃ m s:Int,vs=[.int m,.int s]∧s≤100000∧Q (.int (woI m s)) H
theorem vP {K:PySem.W.Frag} {vs:List V} {H:Hp} {Q:VK} {E:XK} (h:fV K vs H Q E):vs.length=2:=by
 obtain ⟨_,_,rfl,_⟩:=h; rfl
def jN (K:PySem.W.Frag):TS:=
 (tRet (tIf (tB (tCall (bW K) [] E0 (tCons (tVar 0) (tCons (tVar 1) tNil)))) (tOp cSub (tVar 0) (tCall (gG K) [] E0 (tCons (tVar 1) tNil))) (tVar 0)))
theorem vQ {K:PySem.W.Frag} {vs:List V} {H:Hp} {Q:VK} {E:XK} (h:fV K vs H Q E):jN K { nx:=fun _ H'=>Q .non H',rt:=Q } (start ["mask","sign"] vs) H:=by
 obtain ⟨m,s,rfl,h2,q⟩:=h
 show jN K _ [some (.int m),some (.int s)] H
 unfold jN
 walk_at "w"
 refine ⟨m,s,rfl,_,rfl,?_⟩
 unfold woI at q
 cases hb:stB m s with
 | false=>
  rw [hb,if_neg Bool.false_ne_true] at q
  exact iteF q
 | true=>
  rw [hb,if_pos rfl] at q
  refine iteT ⟨s,rfl,?_,h2,?_⟩
  · unfold stB at hb
    rw [Bool.and_eq_true,decide_eq_true_eq] at hb
    exact hb.1
  · walk_at "w"
    exact q
def br (K:PySem.W.Frag):Sp:=fun vs H Q _=>∃ m s:Int,vs=[.int m,.int s]∧s≤100000∧Q (.bl (decide (woI m s=0))) H
theorem uC {K:PySem.W.Frag} {vs:List V} {H:Hp} {Q:VK} {E:XK} (h:br K vs H Q E):vs.length=2:=by
 obtain ⟨_,_,rfl,_⟩:=h; rfl
def jf (K:PySem.W.Frag):TS:=
 (tRet (tOp (cEq K) (tCall (fV K) [] E0 (tCons (tVar 0) (tCons (tVar 1) tNil))) (tC (.int 0))))
theorem uD {K:PySem.W.Frag} {vs:List V} {H:Hp} {Q:VK} {E:XK} (h:br K vs H Q E):jf K { nx:=fun _ H'=>Q .non H',rt:=Q } (start ["mask","sign"] vs) H:=by
 obtain ⟨m,s,rfl,h2,q⟩:=h
 show jf K _ [some (.int m),some (.int s)] H
 unfold jf
 walk_at "w"
 refine ⟨m,s,rfl,h2,?_⟩
 walk_at "w"
 exact q
def sgL (m:Int):List Int:=((List.range (Builtin.Int.intBits m)).filter fun (i:Nat)=>stB m (1+(i:Int))).map fun (i:Nat)=>1+(i:Int)
def ee (K:PySem.W.Frag):Sp:=fun vs H Q _=>∃ m:Int,vs=[.int m]∧Builtin.Int.intBits m≤900∧∀ l H',Same H H'→H l=none→H' l=some (.lst ((sgL m).map V.int))→Q (.ref l) H'
theorem uE {K:PySem.W.Frag} {vs:List V} {H:Hp} {Q:VK} {E:XK} (h:ee K vs H Q E):vs.length=1:=by
 obtain ⟨_,rfl,_⟩:=h; rfl
def jg (K:PySem.W.Frag):TS:=
 (tRet (tComp [none,none,some 0] (pj (tCons (tC (.int 1)) (tCons (tOp cAdd (vD K "int" kX (tVar 0)) (tC (.int 1))) tNil))) (gName 1) (tB (tCall (bW K) [] E0 (tCons (tVar 2) (tCons (tVar 1) tNil)))) (tVar 1)))
theorem uF {K:PySem.W.Frag} {vs:List V} {H:Hp} {Q:VK} {E:XK} (h:ee K vs H Q E):jg K { nx:=fun _ H'=>Q .non H',rt:=Q } (start ["mask"] vs) H:=by
 obtain ⟨m,rfl,hb,k⟩:=h
 show jg K _ [some (.int m)] H
 unfold jg
 walk_at "w"
 refine ⟨rfl,1,_,rfl,by omega,?_⟩
 have en:(((Builtin.Int.intBits m:Nat):Int)+1 - 1).toNat=Builtin.Int.intBits m:=by omega
 rw [en]
 refine gi (fun (i:Nat)=>stB m (1+(i:Int))) (fun (i:Nat)=>1+(i:Int)) hb ?_ ?_ ?_
 · intro i H1 R hi s1 k1
   show tB _ [none,some (.int (1+(i:Int))),some (.int m)] H1 R
   walk_at "w"
   exact ⟨m,_,rfl,_,rfl,k1 _ (Same.refl _)⟩
 · intro i H1 Q1 hi hb s1 k1
   show tVar 1 [none,some (.int (1+(i:Int))),some (.int m)] H1 Q1
   exact ⟨_,rfl,k1 _ (Same.refl _)⟩
 · intro l H1 hl s1 el
   exact k l H1 s1 hl el
end L2
namespace L2
open PySem PySem.Spec PyProof.Rows
local macro_rules | `(tactic| walk_at "w")=>`(tactic| (first | simp only [aP,mJ,pK,j7,mL,lc,ld,pM,pI,mI,pJ,if_true,if_false,Bool.false_eq_true,decide_true,decide_false,jW,jX,nI,iH,gC,jU,k7,jV,iF,kY,kZ,iE,nF,iI,iJ,iL,iM,iN,iO,iK,k8,k9,la,kW,nH,Bool.not_true,Bool.not_false,gc,fO,cp,i9,w_c,lw,gK,gL,gd,gM,w_b,w_not,jq,lx,gN,gO,jr,ja,ge,ly,gP,js,jt,kE,ju,gQ,gR,gS,gT,fP,fQ,dt,dG,dH,cZ,jv,jw,jx,jy,jz,jA,jB,jC,jD,jE,jF,jG,lA,gU,dI,gW,lB,gX,fR,dJ,jH,jI,gY,gf,gZ,
 List.getElem?_cons_zero,List.getElem?_cons_succ,Option.some.injEq,exists_eq_left',exists_eq_left,List.set_cons_zero,List.set_cons_succ,dc,V.int.injEq,V.bl.injEq,V.ref.injEq,V.str.injEq,List.append_nil,List.nil_append,List.cons_append] | dsimp only | skip))
inductive TK where
 | clue | only | place | count | step | sum | square | reach | turn | pair | ways
 deriving DecidableEq
def tkC:TK→List Nat
 | .clue=>[99,108,117,101]
 | .only=>[111,110,108,121]
 | .place=>[112,108,97,99,101]
 | .count=>[99,111,117,110,116]
 | .step=>[115,116,101,112]
 | .sum=>[115,117,109]
 | .square=>[115,113,117,97,114,101]
 | .reach=>[114,101,97,99,104]
 | .turn=>[116,117,114,110]
 | .pair=>[112,97,105,114]
 | .ways=>[119,97,121,115]
def lG:List Str:=[tx [99,108,117,101],tx [111,110,108,121],tx [112,108,97,99,101],tx [99,111,117,110,116],tx [115,116,101,112],tx [115,117,109],tx [115,113,117,97,114,101],tx [114,101,97,99,104],tx [116,117,114,110],tx [112,97,105,114],tx [119,97,121,115]]
def cX:List Str:=[tx [99,108,117,101],tx [111,110,108,121],tx [112,108,97,99,101],tx [115,116,101,112],tx [112,97,105,114]]
def cq:List Str:=[tx [99,111,117,110,116],tx [115,117,109],tx [119,97,121,115]]
def gd_RULES_OF_KIND:List (Str × List Str):=[(tx [111,110,108,121],[tx [117,110,108,105,107,101]]),(tx [112,108,97,99,101],[tx [117,110,108,105,107,101]]),(tx [99,111,117,110,116],[tx [99,111,117,110,116]]),(tx [115,116,101,112],[tx [114,105,115,105,110,103]]),(tx [115,117,109],[tx [115,117,109]]),(tx [115,113,117,97,114,101],[tx [110,111,115,113,117,97,114,101]]),(tx [114,101,97,99,104],[tx [106,111,105,110,101,100],tx [114,105,110,103]]),(tx [116,117,114,110],[tx [114,105,110,103]]),(tx [112,97,105,114],[tx [117,110,108,105,107,101]])]
def wsOf:TK→List Str
 | .only=>[tx [117,110,108,105,107,101]]
 | .place=>[tx [117,110,108,105,107,101]]
 | .count=>[tx [99,111,117,110,116]]
 | .step=>[tx [114,105,115,105,110,103]]
 | .sum=>[tx [115,117,109]]
 | .square=>[tx [110,111,115,113,117,97,114,101]]
 | .reach=>[tx [106,111,105,110,101,100],tx [114,105,110,103]]
 | .turn=>[tx [114,105,110,103]]
 | .pair=>[tx [117,110,108,105,107,101]]
 | _=>[]
def goesB:TK→RK→Bool
 | .ways,_=>true
 | .only,.Unlike=>true
 | .place,.Unlike=>true
 | .count,.Count=>true
 | .step,.Rising=>true
 | .sum,.Sum=>true
 | .square,.NoSquare=>true
 | .reach,.Joined=>true
 | .reach,.Ring=>true
 | .turn,.Ring=>true
 | .pair,.Unlike=>true
 | _,_=>false
def lineK:TK→Bool
 | .clue=>true
 | .only=>true
 | .place=>true
 | .step=>true
 | .pair=>true
 | _=>false
def nbrK:TK→Bool
 | .count=>true
 | .sum=>true
 | .ways=>true
 | _=>false
theorem yl (t:TK):decide (tx (tkC t)∈lG)=true:=by cases t <;> decide+kernel
theorem vi (t:TK):decide (tx (tkC t)∈cX)=lineK t:=by cases t <;> decide+kernel
theorem xA (t:TK):decide (tx (tkC t)∈cq)=nbrK t:=by cases t <;> decide+kernel
theorem Ay {t:TK} (h1:t≠.clue) (h2:t≠.ways):gd_RULES_OF_KIND.lookup (tx (tkC t))=some (wsOf t):=by
 cases t <;> first | exact absurd rfl h1 | exact absurd rfl h2 | decide+kernel
theorem zd {t:TK} (h2:t≠.ways) (k:RK):decide (tx (nmC k)∈wsOf t)=goesB t k:=by
 cases t <;> first | exact absurd rfl h2 | (cases k <;> decide+kernel)
theorem ze (t:TK):decide (tkC t=[119,97,121,115])=decide (t=.ways):=by cases t <;> decide
theorem qU (t:TK):decide (tkC t=[99,108,117,101])=decide (t=.clue):=by cases t <;> decide
theorem nP (t:TK):decide (tkC t=[111,110,108,121])=decide (t=.only):=by cases t <;> decide
def c7 (K:PySem.W.Frag):Sp:=fun vs H Q _=>∃ (p:Addr) (h w g i:Int),vs=[.ref p,.int i]∧IsFl H p h w g∧FlOk h w g∧Q (.bl (decide (0≤i)&&decide (i < h*w))) H
theorem vR {K:PySem.W.Frag} {vs:List V} {H:Hp} {Q:VK} {E:XK} (h:c7 K vs H Q E):vs.length=2:=by
 obtain ⟨_,_,_,_,_,rfl,_⟩:=h; rfl
def jO (K:PySem.W.Frag):TS:=
 (tRet (tAndV (tCall (ba K) [] E0 (tCons (tVar 1) tNil)) (tAndV (tOp (cCmp fun i j=>decide (i≤j)) (tC (.int 0)) (tVar 1)) (tOp (cCmp fun i j=>decide (i < j)) (tVar 1) (tCall (aR K) [] E0 (tCons (tVar 0) tNil))))))
theorem vS {K:PySem.W.Frag} {vs:List V} {H:Hp} {Q:VK} {E:XK} (h:c7 K vs H Q E):jO K { nx:=fun _ H'=>Q .non H',rt:=Q } (start ["floor","value"] vs) H:=by
 obtain ⟨p,h,w,g,i,rfl,hp,F,q⟩:=h
 show jO K _ [some (.ref p),some (.int i)] H
 unfold jO
 walk_at "w"
 refine ⟨i,rfl,⟨true,rfl,iteT ?_⟩⟩
 walk_at "w"
 cases hb:decide (0≤i) with
 | false=>
  rw [hb,Bool.false_and] at q
  exact iteF q
 | true=>
  rw [hb,Bool.true_and] at q
  refine iteT ?_
  walk_at "w"
  refine ⟨p,h,w,g,rfl,hp,F.h0,F.h1,?_⟩
  walk_at "w"
  exact q
def c8 (K:PySem.W.Frag):Sp:=fun vs H Q _=>∃ (p:Addr) (h w g i:Int),vs=[.ref p,.int i]∧IsFl H p h w g∧Q (.bl (decide (1≤i)&&decide (i≤g))) H
theorem vT {K:PySem.W.Frag} {vs:List V} {H:Hp} {Q:VK} {E:XK} (h:c8 K vs H Q E):vs.length=2:=by
 obtain ⟨_,_,_,_,_,rfl,_⟩:=h; rfl
def jP (K:PySem.W.Frag):TS:=
 (tRet (tCall (aW K) [] E0 (tCons (tVar 1) (tCons (tOp cIx (tVar 0) (tC (.int 2))) tNil))))
theorem vU {K:PySem.W.Frag} {vs:List V} {H:Hp} {Q:VK} {E:XK} (h:c8 K vs H Q E):jP K { nx:=fun _ H'=>Q .non H',rt:=Q } (start ["floor","value"] vs) H:=by
 obtain ⟨p,h,w,g,i,rfl,hp,q⟩:=h
 show jP K _ [some (.ref p),some (.int i)] H
 unfold jP
 walk_at "w"
 refine ixT hp (v:=V.int g) rfl ?_
 walk_at "w"
 exact ⟨i,g,rfl,q⟩
def fW (K:PySem.W.Frag) (c:RCl RK):Sp:=fun vs H Q _=>∃ (t:TK) (k:RK) (r p:Addr) (ws:List (List Nat)) (cs:List Int) (n m:Int),vs=[.str (tx (tkC t)),.ref r]∧t≠.clue∧IsRule H c k r p (nmC k::ws) cs n m∧Q (.bl (goesB t k)) H
theorem vV {K:PySem.W.Frag} {c:RCl RK} {vs:List V} {H:Hp} {Q:VK} {E:XK} (h:fW K c vs H Q E):vs.length=2:=by
 obtain ⟨_,_,_,_,_,_,_,_,rfl,_⟩:=h; rfl
def jQ (K:PySem.W.Frag) (c:RCl RK):TS:=
 (tRet (tOrV (tOp (cEq K) (tVar 0) (tC (.str (tx [119,97,121,115])))) (tOp (rInS K) (bQ c c.ok "name" (nN K c) (tVar 1) tNil) (tIxG K gd_RULES_OF_KIND (tVar 0)))))
theorem vW {K:PySem.W.Frag} {c:RCl RK} {vs:List V} {H:Hp} {Q:VK} {E:XK} (h:fW K c vs H Q E):jQ K c { nx:=fun _ H'=>Q .non H',rt:=Q } (start ["kind","rule"] vs) H:=by
 obtain ⟨t,k,r,p,ws,cs,n,m,rfl,t0,x,q⟩:=h
 obtain ⟨dx,W,C,h1,h2,h3⟩:=x.ex
 show jQ K c _ [some (.str (tx (tkC t))),some (.ref r)] H
 unfold jQ
 walk_at "w"
 rw [aF,ze]
 by_cases hw:t=.ways
 · subst hw
   rw [decide_eq_true rfl]
   exact iteT q
 · rw [decide_eq_false hw]
   refine iteF ?_
   refine methE (k:=k) rfl x.ok h1 (by rfl) ?_
   walk_at "w"
   refine ⟨r,p,nmC k,ws,cs,n,m,rfl,x,?_⟩
   dsimp only
   rw [Ax]
   walk_at "w"
   refine ⟨_,_,rfl,Ay t0 hw,fun qa hq=>?_⟩
   refine ⟨_,qa,_,rfl,rfl,hq,?_⟩
   rw [zd hw]
   exact q
def bB (K:PySem.W.Frag) (c:RCl RK):Sp:=fun vs H Q _=>∃ (k:RK) (r p:Addr) (ws:List (List Nat)) (cs:List Int) (n m z:Int),vs=[.ref r,.int z]∧IsRule H c k r p ws cs n m∧cs.length≤63∧∀ l H',Same H H'→H l=none→H' l=some (.lst ((cs.filter fun x=>!decide (x=z)).map V.int))→Q (.ref l) H'
theorem xB {K:PySem.W.Frag} {c:RCl RK} {vs:List V} {H:Hp} {Q:VK} {E:XK} (h:bB K c vs H Q E):vs.length=2:=by
 obtain ⟨_,_,_,_,_,_,_,_,rfl,_⟩:=h; rfl
def kB (K:PySem.W.Frag) (c:RCl RK):TS:=
 (tRet (tComp [none,none,some 1] (iList K (bQ c c.ok "spots" (fH K c) (tVar 0) tNil)) (gName 1) (tTest (tOp (cNe K) (tVar 1) (tVar 2))) (tVar 1)))
theorem xC {K:PySem.W.Frag} {c:RCl RK} {vs:List V} {H:Hp} {Q:VK} {E:XK} (h:bB K c vs H Q E):kB K c { nx:=fun _ H'=>Q .non H',rt:=Q } (start ["rule","cell"] vs) H:=by
 obtain ⟨k,r,p,ws,cs,n,m,z,rfl,x,hn,q⟩:=h
 obtain ⟨dx,W,C,h1,h2,h3⟩:=x.ex
 show kB K c _ [some (.ref r),some (.int z)] H
 unfold kB
 rw [gK,dt]
 refine methE (k:=k) rfl x.ok h1 (by rfl) ?_
 walk_at "w"
 refine ⟨r,p,ws,cs,n,m,rfl,x,fun l hl=>?_⟩
 have s1:Same H (upd H l (.lst (cs.map V.int))):=(Same.refl H).laid hl
 have el:(upd H l (.lst (cs.map V.int))) l=some (.lst (cs.map V.int)):=ah
 generalize upd H l (.lst (cs.map V.int))=H1 at*
 refine ⟨l,rfl,⟨_,SqL.of el⟩,?_⟩
 refine bP (xs:=cs) (fun x=>!decide (x=z)) (fun x=>x) (by omega) (SqL.of el) ?_ ?_ ?_
 · intro y H2 R hy s2 k2
   show tTest _ [none,some (.int y),some (.int z)] H2 R
   walk_at "w"
   exact k2 _ (Same.refl _)
 · intro y H2 Q2 hy hb s2 k2
   show tVar 1 [none,some (.int y),some (.int z)] H2 Q2
   walk_at "w"
   exact k2 _ (Same.refl _)
 · intro T H2 hT s2 eT
   rw [List.map_id'] at eT
   exact q T H2 (s1.trans s2) (s1.free hT) eT
def hitB (t:TK) (rows:List RR) (r z:Int):Bool:=if r < 0 then false else if t=.clue then decide (r=0) else match rows[r.toNat]? with
 | none=>false
 | some x=>goesB t x.k&&decide (z∈x.cs)
def cr (K:PySem.W.Frag) (c:RCl RK) (d:RCl PzK):Sp:=fun vs H Q _=>∃ (t:TK) (P L G:Addr) (h w g r z:Int) (rows:List RR) (cl:List Int),vs=[.ref P,.str (tx (tkC t)),.int r,.int z]∧IsPz H c d P L G h w g rows cl∧∀ H',Same H H'→Q (.bl (hitB t rows r z)) H'
theorem pZ {K:PySem.W.Frag} {c:RCl RK} {d:RCl PzK} {vs:List V} {H:Hp} {Q:VK} {E:XK} (h:cr K c d vs H Q E):vs.length=4:=by
 obtain ⟨_,_,_,_,_,_,_,_,_,_,_,rfl,_⟩:=h; rfl
def fc (K:PySem.W.Frag) (c:RCl RK) (d:RCl PzK):TS:=
 (tSeq (tIfS (tOr (tNot (tB (tCall (ba K) [] E0 (tCons (tVar 2) tNil)))) (tTest (tOp (cCmp fun i j=>decide (i < j)) (tVar 2) (tC (.int 0))))) (tRet (tC (.bl false))) tNext)
  (tSeq (tIfS (tTest (tOp (cEq K) (tVar 1) (tC (.str (tx [99,108,117,101]))))) (tRet (tOp (cEq K) (tVar 2) (tC (.int 0)))) tNext)
  (tSeq (tAsg (bQ d d.ok "rules" (df K c d) (tVar 0) tNil) (gName 4))
  (tSeq (tIfS (tTest (tOp (cCmp fun i j=>decide (j≤i)) (tVar 2) (tCB kLen (tCons (tVar 4) tNil)))) (tRet (tC (.bl false))) tNext)
  (tRet (tAndV (tCall (fW K c) [] E0 (tCons (tVar 1) (tCons (tOp cIx (tVar 4) (tVar 2)) tNil))) (tOp (cIn K false) (tVar 3) (bQ c c.ok "spots" (fH K c) (tOp cIx (tVar 4) (tVar 2)) tNil))))))))
theorem RR.ws_cons (r:RR):∃ t,r.ws=nmC r.k::t:=⟨_,rfl⟩
theorem p0 {K:PySem.W.Frag} {c:RCl RK} {d:RCl PzK} {vs:List V} {H:Hp} {Q:VK} {E:XK} (h:cr K c d vs H Q E):fc K c d { nx:=fun _ H'=>Q .non H',rt:=Q } (start ["puzzle","kind","number","cell","rules"] vs) H:=by
 obtain ⟨t,P,L,G,h,w,g,r,z,rows,cl,rfl,x,q⟩:=h
 obtain ⟨dx,p,rs,h1,h2,h3⟩:=x.ex
 have hN:=x.R.F.m
 show fc K c d _ [some (.ref P),some (.str (tx (tkC t))),some (.int r),some (.int z),none] H
 unfold fc
 rw [aP,aA]
 walk_at "w"
 refine ⟨r,rfl,⟨true,rfl,iteF ?_⟩⟩
 walk_at "w"
 unfold hitB at q
 by_cases hr:r < 0
 · rw [if_pos hr] at q
   rw [decide_eq_true hr]
   exact iteT (q _ (Same.refl _))
 rw [if_neg hr] at q
 rw [decide_eq_false hr]
 refine iteF ?_
 rw [aA]
 walk_at "w"
 rw [aF,qU]
 by_cases ht:t=.clue
 · rw [if_pos ht] at q
   rw [decide_eq_true ht]
   exact iteT (q _ (Same.refl _))
 rw [if_neg ht] at q
 rw [decide_eq_false ht]
 refine iteF ?_
 refine methE (k:=.Puzzle) rfl x.ok h1 (by rfl) ?_
 walk_at "w"
 refine ⟨P,L,G,h,w,g,rows,cl,rfl,x,fun l p2 rs2 hl hp2 X=>?_⟩
 have s1:Same H (upd H l (.lst (rs2.map V.ref))):=(Same.refl H).laid hl
 generalize upd H l (.lst (rs2.map V.ref))=H1 at*
 have hlen:=X.len
 walk_at "w"
 rw [aA]
 walk_at "w"
 rw [bi X.top,List.length_map,hlen]
 walk_at "w"
 by_cases hge:(rows.length:Int)≤r
 · rw [decide_eq_true hge]
   have e:rows[r.toNat]? =none:=List.getElem?_eq_none (by omega)
   rw [e] at q
   exact iteT (q _ s1)
 rw [decide_eq_false hge]
 have hlt:r.toNat < rows.length:=by omega
 have er:rows[r.toNat]? =some rows[r.toNat]:=List.getElem?_eq_getElem hlt
 rw [er] at q
 have ea:rs2[r.toNat]? =some rs2[r.toNat]:=List.getElem?_eq_getElem (by omega)
 have X1:=X.at_ _ _ _ ea er
 obtain ⟨ws,ews⟩:=RR.ws_cons rows[r.toNat]
 rw [ews] at X1
 have eix:atI (rs2.map V.ref) r=some (V.ref rs2[r.toNat]):=oE (by omega) ea
 refine iteF ?_
 refine ixL X.top eix ?_
 walk_at "w"
 refine ⟨t,_,_,p2,ws,_,_,_,rfl,ht,X1,?_⟩
 dsimp only at q
 cases hg:goesB t rows[r.toNat].k with
 | false=>
  rw [hg,Bool.false_and] at q
  exact ⟨false,rfl,iteF (q _ s1)⟩
 | true=>
  rw [hg,Bool.true_and] at q
  refine ⟨true,rfl,iteT ?_⟩
  unfold bQ
  walk_at "w"
  obtain ⟨dx1,W1,C1,g1,g2,g3⟩:=X1.ex
  refine ixL X.top eix ?_
  refine ⟨_,rows[r.toNat].k,dx1,_,rfl,X1.ok,g1,by rfl,?_⟩
  refine ⟨_,p2,_,_,_,_,rfl,X1,fun S hS=>?_⟩
  have s2:Same H1 (upd H1 S (.lst (rows[r.toNat].cs.map V.int))):=(Same.refl H1).laid hS
  have eS:(upd H1 S (.lst (rows[r.toNat].cs.map V.int))) S=some (.lst (rows[r.toNat].cs.map V.int)):=ah
  dsimp only
  rw [oA eS]
  exact q _ (s1.trans s2)
structure IsTh (H:Hp) (T M:Addr) (t:TK) (r z s:Int) (ms:List Int):Prop where
 T:H T=some (.tup [.str (tx (tkC t)),.int r,.int z,.int s,.ref M])
 M:H M=some (.lst (ms.map V.int))
 n:ms.length≤100
theorem IsTh.same {H H':Hp} {T M:Addr} {t:TK} {r z s:Int} {ms:List Int} (x:IsTh H T M t r z s ms) (s':Same H H'):IsTh H' T M t r z s ms:=⟨s' _ _ x.T,s' _ _ x.M,x.n⟩
def formB (h w g:Int) (rows:List RR) (t:TK) (r z s:Int):Bool:=(decide (0≤z)&&decide (z < h*w))&&((decide (1≤s)&&decide (s≤g))&&hitB t rows r z)
def dz (K:PySem.W.Frag) (c:RCl RK) (d:RCl PzK):Sp:=fun vs H Q _=>∃ (t:TK) (P L G T M:Addr) (h w g r z s:Int) (rows:List RR) (cl ms:List Int),vs=[.ref P,.ref T]∧IsPz H c d P L G h w g rows cl∧IsTh H T M t r z s ms∧∀ H',Same H H'→Q (.bl (formB h w g rows t r z s)) H'
theorem tH {K:PySem.W.Frag} {c:RCl RK} {d:RCl PzK} {vs:List V} {H:Hp} {Q:VK} {E:XK} (h:dz K c d vs H Q E):vs.length=2:=by
 obtain ⟨_,_,_,_,_,_,_,_,_,_,_,_,_,_,_,rfl,_⟩:=h; rfl
def ib (K:PySem.W.Frag) (c:RCl RK) (d:RCl PzK):TS:=
 (tRet (tAndV (tCB kIsi (tCons (tOp cIx (tVar 1) (tC (.int 4))) (tCons (tC (.ty "list")) tNil))) (tCB kAll (tCons (tComp [none,none] (iList K (tOp cIx (tVar 1) (tC (.int 4)))) (gName 1) tTrue (tCall (ba K) [] E0 (tCons (tVar 1) tNil))) tNil))))
def ic (K:PySem.W.Frag) (c:RCl RK) (d:RCl PzK):TS:=
 (tSeq (tIfS (tOr (tNot (tB (tCB kIsi (tCons (tVar 1) (tCons (tC (.ty "tuple")) tNil))))) (tOr (tTest (tOp (cNe K) (tCB kLen (tCons (tVar 1) tNil)) (tC (.int 5)))) (tB (tInG lG true (tOp cIx (tVar 1) (tC (.int 0))))))) (tRet (tC (.bl false))) tNext)
  (tSeq (tAsg (bQ d d.ok "place" (de K c d) (tVar 0) tNil) (gName 2))
  (tSeq (tIfS (tOr (tNot (tB (tCall (c7 K) [] E0 (tCons (tVar 2) (tCons (tOp cIx (tVar 1) (tC (.int 2))) tNil))))) (tNot (tB (tCall (c8 K) [] E0 (tCons (tVar 2) (tCons (tOp cIx (tVar 1) (tC (.int 3))) tNil)))))) (tRet (tC (.bl false))) tNext)
  (tSeq (tIfS (tNot (tB (tCall (cr K c d) [] E0 (tCons (tVar 0) (tCons (tOp cIx (tVar 1) (tC (.int 0))) (tCons (tOp cIx (tVar 1) (tC (.int 1))) (tCons (tOp cIx (tVar 1) (tC (.int 2))) tNil))))))) (tRet (tC (.bl false))) tNext)
  (ib K c d)))))
theorem p5 {K:PySem.W.Frag} {c:RCl RK} {d:RCl PzK} {H:Hp} {Q:VK} {P T M:Addr} {t:TK} {r z s:Int} {ms:List Int} {v2:Option V} (x:IsTh H T M t r z s ms) (q:∀ H',Same H H'→Q (.bl true) H'):
  ib K c d { nx:=fun _ H'=>Q .non H',rt:=Q } [some (.ref P),some (.ref T),v2] H:=by
 have hn:=x.n
 unfold ib
 walk_at "w"
 refine ixT x.T (v:=V.ref M) rfl ?_
 walk_at "w"
 refine sP x.M ?_
 walk_at "w"
 refine ixT x.T (v:=V.ref M) rfl ?_
 walk_at "w"
 refine ⟨⟨_,SqL.of x.M⟩,?_⟩
 refine dL (xs:=ms.map V.int) (fun _=>true) (fun _=>.bl true) (by rw [List.length_map]; omega) (SqL.of x.M) ?_ ?_ ?_
 · intro i y H1 R hy s1 k1
   exact k1 _ (Same.refl _)
 · intro i y H1 Q1 hy hb s1 k1
   obtain ⟨v,hv,rfl⟩:=gh hy
   show tCall _ _ _ _ [none,some (.int v)] H1 Q1
   walk_at "w"
   exact ⟨v,rfl,k1 _ (Same.refl _)⟩
 · intro l H1 hl s1 el
   have eb:((List.range (ms.map V.int).length).filter fun _=>true).map (fun _=>V.bl true)=(List.replicate (ms.map V.int).length true).map V.bl:=by
    rw [fD,List.map_const',List.length_range,List.map_replicate]
   rw [eb] at el
   refine sk el ?_
   have ea:(List.replicate (ms.map V.int).length true).all id=true:=by
    rw [List.all_eq_true]
    intro b hb
    exact (List.mem_replicate.mp hb).2
   rw [ea]
   exact q _ s1
theorem tI {K:PySem.W.Frag} {c:RCl RK} {d:RCl PzK} {vs:List V} {H:Hp} {Q:VK} {E:XK} (h:dz K c d vs H Q E):ic K c d { nx:=fun _ H'=>Q .non H',rt:=Q } (start ["puzzle","thought","floor"] vs) H:=by
 obtain ⟨t,P,L,G,T,M,h,w,g,r,z,s,rows,cl,ms,rfl,x,y,q⟩:=h
 obtain ⟨dx,p,rs,h1,h2,h3⟩:=x.ex
 show ic K c d _ [some (.ref P),some (.ref T),none] H
 unfold ic
 rw [aP,aA]
 walk_at "w"
 refine xh y.T ?_
 walk_at "w"
 rw [wW y.T,show (([.str (tx (tkC t)),.int r,.int z,.int s,.ref M]:List V).length:Int)=5 from rfl]
 walk_at "w"
 refine ixT y.T (v:=V.str (tx (tkC t))) rfl ?_
 walk_at "w"
 rw [yl]
 walk_at "w"
 refine methE (k:=.Puzzle) rfl x.ok h1 (by rfl) ?_
 walk_at "w"
 refine ⟨P,L,G,h,w,g,rows,cl,rfl,x,fun p1 hp1=>?_⟩
 walk_at "w"
 rw [aA]
 walk_at "w"
 refine ixT y.T (v:=V.int z) rfl ?_
 walk_at "w"
 refine ⟨p1,h,w,g,z,rfl,hp1,x.R.F,?_⟩
 unfold formB at q
 cases hb:(decide (0≤z)&&decide (z < h*w)) with
 | false=>
  rw [hb,Bool.false_and] at q
  exact ⟨false,rfl,iteT (q _ (Same.refl _))⟩
 | true=>
  rw [hb,Bool.true_and] at q
  refine ⟨true,rfl,iteF ?_⟩
  refine ixT y.T (v:=V.int s) rfl ?_
  walk_at "w"
  refine ⟨p1,h,w,g,s,rfl,hp1,?_⟩
  cases hb2:(decide (1≤s)&&decide (s≤g)) with
  | false=>
   rw [hb2,Bool.false_and] at q
   exact ⟨false,rfl,iteT (q _ (Same.refl _))⟩
  | true=>
   rw [hb2,Bool.true_and] at q
   refine ⟨true,rfl,iteF ?_⟩
   rw [aA]
   walk_at "w"
   refine ixT y.T (v:=V.str (tx (tkC t))) rfl ?_
   walk_at "w"
   refine ixT y.T (v:=V.int r) rfl ?_
   walk_at "w"
   refine ixT y.T (v:=V.int z) rfl ?_
   walk_at "w"
   refine ⟨t,P,L,G,h,w,g,r,z,rows,cl,rfl,x,fun H1 s1=>?_⟩
   cases hb3:hitB t rows r z with
   | false=>
    rw [hb3] at q
    exact ⟨false,rfl,iteT (q _ s1)⟩
   | true=>
    rw [hb3] at q
    refine ⟨true,rfl,iteF ?_⟩
    exact p5 (y.same s1) fun H' s2=>q H' (s1.trans s2)
abbrev nsV (cs:List Nat):List V:=(cs.map fun (n:Nat)=>(n:Int)).map V.int
theorem mP {k:RK} {h w g:Int} {m:Nat} (hk:allK k=true) (k0:k≠.Rule) (hn:numK k=false) (hs:sgnK k=true) (m0:1≤(m:Int)) (m1:(m:Int)≤g):RR.Ok ⟨k,0,m,[],rngL 0 (h*w)⟩ h w g:=by
 refine ⟨k0,Nat.zero_le _,fun _=>rfl,fun _=>⟨m0,m1⟩,fun e=>?_,⟨fun e=>?_,fun _=>⟨rfl,rfl⟩⟩,fun x hx=>(by cases hx),Nat.zero_le _⟩
 · rw [show sgnK k=false from e] at hs; cases hs
 · rw [show allK k=false from e] at hk; cases hk
def jY:TE:=fun _ _ _=>False
theorem jm {X:Cx} {e:Expr}:PE X e jY:=fun _ _ _ _ _ _ h=>h.elim
def clueB (cl:List Int) (z s:Int) (ms:List Int):Bool:=decide (ms=[])&&(!decide (cl.getD z.toNat 0=0)&&!decide (cl.getD z.toNat 0=s))
def cu (K:PySem.W.Frag):Sp:=fun vs H Q _=>∃ (C M:Addr) (z s:Int) (cl ms:List Int),vs=[.ref C,.int z,.int s,.ref M]∧H C=some (.lst (cl.map V.int))∧0≤z∧z < cl.length∧H M=some (.lst (ms.map V.int))∧∀ H',Same H H'→Q (.bl (clueB cl z s ms)) H'
theorem p6 {K:PySem.W.Frag} {vs:List V} {H:Hp} {Q:VK} {E:XK} (h:cu K vs H Q E):vs.length=4:=by
 obtain ⟨_,_,_,_,_,_,rfl,_⟩:=h; rfl
def fe (K:PySem.W.Frag):TS:=
 (tRet (tAndV (tOp (cEq K) (tVar 3) (tLst tNil)) (tAndV (tOp (cNe K) (tOp cIx (tVar 0) (tVar 1)) (tC (.int 0))) (tOp (cNe K) (tOp cIx (tVar 0) (tVar 1)) (tVar 2)))))
theorem p7 {K:PySem.W.Frag} {vs:List V} {H:Hp} {Q:VK} {E:XK} (h:cu K vs H Q E):fe K { nx:=fun _ H'=>Q .non H',rt:=Q } (start ["clues","cell","sign","more"] vs) H:=by
 obtain ⟨C,M,z,s,cl,ms,rfl,hC,z0,z1,hM,q⟩:=h
 show fe K _ [some (.ref C),some (.int z),some (.int s),some (.ref M)] H
 unfold fe
 walk_at "w"
 refine ⟨aD (by decide),fun l hl=>?_⟩
 have s1:Same H (upd H l (.lst [])):=(Same.refl H).laid hl
 have el:(upd H l (.lst [])) l=some (.lst (([]:List Int).map V.int)):=ah
 generalize upd H l (.lst [])=H1 at*
 refine nD (s1 _ _ hM) el ?_
 have q1:=q _ s1
 unfold clueB at q1
 cases hb:decide (ms=[]) with
 | false=>
  rw [hb,Bool.false_and] at q1
  exact ⟨false,rfl,iteF q1⟩
 | true=>
  rw [hb,Bool.true_and] at q1
  refine ⟨true,rfl,iteT ?_⟩
  walk_at "w"
  refine ixI (s1 _ _ hC) z0 z1 ?_
  walk_at "w"
  cases hb2:decide (cl.getD z.toNat 0=0) with
  | true=>
   rw [hb2,Bool.not_true,Bool.false_and] at q1
   exact iteF q1
  | false=>
   rw [hb2,Bool.not_false,Bool.true_and] at q1
   refine iteT ?_
   refine ixI (s1 _ _ hC) z0 z1 ?_
   walk_at "w"
   exact q1
def onlyB (cs masks:List Int) (z s:Int) (ms:List Int):Bool:=decide (ms.length=1)&&(decide (ms.getD 0 0∈cs.filter fun x=>!decide (x=z))&&decide (woI (masks.getD (ms.getD 0 0).toNat 0) s=0))
def cw (K:PySem.W.Frag) (c:RCl RK):Sp:=fun vs H Q _=>∃ (k:RK) (r p A M:Addr) (ws:List (List Nat)) (cs masks ms:List Int) (n m z s:Int),vs=[.ref r,.ref A,.int z,.int s,.ref M]∧IsRule H c k r p ws cs n m∧b4 cs masks.length∧H A=some (.lst (masks.map V.int))∧H M=some (.lst (ms.map V.int))∧s≤1000∧∀ H',Same H H'→Q (.bl (onlyB cs masks z s ms)) H'
theorem p8 {K:PySem.W.Frag} {c:RCl RK} {vs:List V} {H:Hp} {Q:VK} {E:XK} (h:cw K c vs H Q E):vs.length=5:=by
 obtain ⟨_,_,_,_,_,_,_,_,_,_,_,_,_,rfl,_⟩:=h; rfl
def ff (K:PySem.W.Frag) (c:RCl RK):TS:=
 (tRet (tAndV (tOp (cEq K) (tCB kLen (tCons (tVar 4) tNil)) (tC (.int 1))) (tAndV (tOp (cIn K false) (tOp cIx (tVar 4) (tC (.int 0))) (tCall (bB K c) [] E0 (tCons (tVar 0) (tCons (tVar 2) tNil)))) (tCall (br K) [] E0 (tCons (tOp cIx (tVar 1) (tOp cIx (tVar 4) (tC (.int 0)))) (tCons (tVar 3) tNil))))))
theorem p9 {K:PySem.W.Frag} {c:RCl RK} {vs:List V} {H:Hp} {Q:VK} {E:XK} (h:cw K c vs H Q E):ff K c { nx:=fun _ H'=>Q .non H',rt:=Q } (start ["rule","masks","cell","sign","more"] vs) H:=by
 obtain ⟨k,r,p,A,M,ws,cs,masks,ms,n,m,z,s,rfl,x,hC,hA,hM,hs,q⟩:=h
 show ff K c _ [some (.ref r),some (.ref A),some (.int z),some (.int s),some (.ref M)] H
 unfold ff
 walk_at "w"
 rw [bi hM,List.length_map]
 walk_at "w"
 unfold onlyB at q
 have e1:decide ((ms.length:Int)=1)=decide (ms.length=1):=by
  rw [Bool.eq_iff_iff,decide_eq_true_eq,decide_eq_true_eq]; omega
 rw [e1]
 cases hb:decide (ms.length=1) with
 | false=>
  rw [hb,Bool.false_and] at q
  exact iteF (q _ (Same.refl _))
 | true=>
  rw [hb,Bool.true_and] at q
  have hl:=of_decide_eq_true hb
  refine iteT ?_
  refine ixI hM (by decide) (by omega) ?_
  rw [show (0:Int).toNat=0 from rfl]
  walk_at "w"
  refine ⟨k,r,p,ws,cs,n,m,z,rfl,x,hC.1,fun l H1 s1 hl1 el=>?_⟩
  dsimp only
  rw [oA el]
  cases hb2:decide (ms.getD 0 0∈cs.filter fun x=>!decide (x=z)) with
  | false=>
   rw [hb2,Bool.false_and] at q
   exact ⟨false,rfl,iteF (q _ s1)⟩
  | true=>
   rw [hb2,Bool.true_and] at q
   have hm:=List.mem_filter.mp (of_decide_eq_true hb2)
   have hc:=hC.2 _ hm.1
   refine ⟨true,rfl,iteT ?_⟩
   walk_at "w"
   refine ixI (s1 _ _ hM) (by decide) (by omega) ?_
   rw [show (0:Int).toNat=0 from rfl]
   walk_at "w"
   refine ixI (s1 _ _ hA) hc.1 hc.2 ?_
   walk_at "w"
   exact ⟨_,s,rfl,by omega,q _ s1⟩
theorem RR.cin22 {r:RR} {h w g:Int} (O:r.Ok h w g) (F:FlOk h w g):b4 r.cs (h*w).toNat:=by
 obtain ⟨h0,h1,w0,w1,m16,g0,g1⟩:=id F
 have mpos:0≤h*w:=Int.mul_nonneg (by omega) (by omega)
 cases hk:allK r.k with
 | false=>
  obtain ⟨c1,c2,c3,c4,e⟩:=O.cl.told hk
  rw [e]
  refine ⟨by rw [List.length_map]; omega,fun c hc=>?_⟩
  obtain ⟨n,hn,rfl⟩:=List.mem_map.mp hc
  have:=c3 n hn
  omega
 | true=>
  obtain ⟨_,e⟩:=O.cl.all hk
  rw [e]
  refine ⟨by rw [iG]; omega,fun c hc=>?_⟩
  have:=vg hc
  omega
structure Asks (H:Hp) (c:RCl RK) (d:RCl PzK) (P L G A T M:Addr) (h w g:Int) (rows:List RR) (cl masks:List Int) (t:TK) (r z s:Int) (ms:List Int):Prop where
 P:IsPz H c d P L G h w g rows cl
 T:IsTh H T M t r z s ms
 A:H A=some (.lst (masks.map V.int))
 n:masks.length=(h*w).toNat
theorem Asks.same {H H':Hp} {c:RCl RK} {d:RCl PzK} {P L G A T M:Addr} {h w g:Int} {rows:List RR} {cl masks:List Int} {t:TK} {r z s:Int} {ms:List Int} (x:Asks H c d P L G A T M h w g rows cl masks t r z s ms) (s':Same H H'):Asks H' c d P L G A T M h w g rows cl masks t r z s ms:=⟨x.P.same s',x.T.same s',s' _ _ x.A,x.n⟩
theorem rz {h w g:Int} {rows:List RR} {t:TK} {r z s:Int} (f:formB h w g rows t r z s=true):0≤z∧z < h*w∧1≤s∧s≤g∧hitB t rows r z=true:=by
 unfold formB at f
 simp only [Bool.and_eq_true,decide_eq_true_eq] at f
 exact ⟨f.1.1,f.1.2,f.2.1.1,f.2.1.2,f.2.2⟩
theorem vj {t:TK} {rows:List RR} {r z:Int} (ht:t≠.clue) (f:hitB t rows r z=true):0≤r∧∃ x,rows[r.toNat]? =some x∧goesB t x.k=true∧z∈x.cs:=by
 unfold hitB at f
 by_cases hr:r < 0
 · rw [if_pos hr] at f; cases f
 rw [if_neg hr,if_neg ht] at f
 cases e:rows[r.toNat]? with
 | none=>rw [e] at f; cases f
 | some x=>
  rw [e] at f
  simp only [Bool.and_eq_true,decide_eq_true_eq] at f
  exact ⟨by omega,x,rfl,f.1,f.2⟩
def lawCA (ns:List Int) (k:Int):Int:=if (ns.length:Int)=0 then (k*k*40692+7*k) % 2147483647 else
 if k < (ns.length:Int) then ns.getD (k % ns.length).toNat 0 % 2305843009213693951 else (ns.getD (k % ns.length).toNat 0 % 2305843009213693951*48271+k*k*40692) % 2305843009213693951
def aL (K:PySem.W.Frag):Sp:=fun vs H Q _=>∃ (a:Addr) (ns:List Int) (k:Int),vs=[.ref a,.int k]∧SqL K H a (ns.map V.int)∧ns.length≤63∧0≤k∧k≤10000∧Q (.int (lawCA ns k)) H
theorem qb {K:PySem.W.Frag} {vs:List V} {H:Hp} {Q:VK} {E:XK} (h:aL K vs H Q E):vs.length=2:=by
 obtain ⟨_,_,_,rfl,_⟩:=h; rfl
def fg (K:PySem.W.Frag):TS:=
 (tSeq (tIfS (tTest (tOp (cEq K) (tCB (kLenS K) (tCons (tVar 0) tNil)) (tC (.int 0)))) (tRet (tOp cMod (tOp cAdd (tOp cMul (tOp cMul (tVar 1) (tVar 1)) (tC (.int 40692))) (tOp cMul (tC (.int 7)) (tVar 1))) (tC (.int 2147483647)))) tNext)
  (tSeq (tAsg (tOp cMod (tOp (rIxL K) (tVar 0) (tOp cMod (tVar 1) (tCB (kLenS K) (tCons (tVar 0) tNil)))) (tC (.int 2305843009213693951))) (gName 2))
  (tSeq (tIfS (tTest (tOp (cCmp fun i j=>decide (i < j)) (tVar 1) (tCB (kLenS K) (tCons (tVar 0) tNil)))) (tRet (tVar 2)) tNext)
  (tRet (tOp cMod (tOp cAdd (tOp cMul (tVar 2) (tC (.int 48271))) (tOp cMul (tOp cMul (tVar 1) (tVar 1)) (tC (.int 40692)))) (tC (.int 2305843009213693951)))))))
theorem qc {K:PySem.W.Frag} {vs:List V} {H:Hp} {Q:VK} {E:XK} (h:aL K vs H Q E):fg K { nx:=fun _ H'=>Q .non H',rt:=Q } (start ["_law_script","_law_k","_law_number_here"] vs) H:=by
 obtain ⟨a,ns,k,rfl,hS,hn,k0,k1,q⟩:=h
 have kk:k*k≤10000*10000:=Int.mul_le_mul k1 k1 k0 (by decide)
 have kk0:0≤k*k:=Int.mul_nonneg k0 k0
 show fg K _ [some (.ref a),some (.int k),none] H
 unfold fg
 rw [aP,aA]
 walk_at "w"
 refine ⟨a,_,rfl,.inl hS,?_⟩
 walk_at "w"
 rw [List.length_map]
 unfold lawCA at q
 by_cases hl:(ns.length:Int)=0
 · rw [if_pos hl] at q
   rw [decide_eq_true hl]
   refine iteT ⟨.inl ⟨by omega,by omega⟩,.inr ⟨by decide,by decide⟩,.inl ⟨by decide,by decide⟩,?_⟩
   walk_at "w"
   exact ⟨by decide,q⟩
 · rw [if_neg hl] at q
   rw [decide_eq_false hl]
   have hpos:0 < (ns.length:Int):=by omega
   refine iteF ⟨a,_,rfl,.inl hS,?_⟩
   walk_at "w"
   rw [List.length_map]
   have m0:=Int.emod_nonneg k (Int.ne_of_gt hpos)
   have m1:=Int.emod_lt_of_pos k hpos
   refine ⟨hpos,a,_,_,_,rfl,rfl,hS,oC m0 m1,?_⟩
   walk_at "w"
   refine ⟨by decide,?_⟩
   rw [aA]
   walk_at "w"
   refine ⟨a,_,rfl,.inl hS,?_⟩
   walk_at "w"
   rw [List.length_map]
   by_cases hk:k < (ns.length:Int)
   · rw [if_pos hk] at q
     rw [decide_eq_true hk]
     exact iteT q
   · rw [if_neg hk] at q
     rw [decide_eq_false hk]
     refine iteF ⟨.inr ⟨by decide,by decide⟩,.inl ⟨by omega,by omega⟩,.inr ⟨by decide,by decide⟩,?_⟩
     walk_at "w"
     exact ⟨by decide,q⟩
theorem flZ (a b c:Int):FlOk (1+a % 6) (1+b % (if 16 / (1+a % 6) < 6 then 16 / (1+a % 6) else 6)) (1+c % 6)∧0 < (if 16 / (1+a % 6) < 6 then 16 / (1+a % 6) else (6:Int)):=by
 have a0:=Int.emod_nonneg a (by decide:(6:Int)≠0)
 have a1:=Int.emod_lt_of_pos a (by decide:(0:Int) < 6)
 have c0:=Int.emod_nonneg c (by decide:(6:Int)≠0)
 have c1:=Int.emod_lt_of_pos c (by decide:(0:Int) < 6)
 have hh:1+a % 6=1∨1+a % 6=2∨1+a % 6=3∨1+a % 6=4∨1+a % 6=5∨1+a % 6=6:=by omega
 generalize 1+a % 6=h at*
 have key:∀ m:Int,1≤m→m≤6→h*m≤16→(if 16 / h < 6 then 16 / h else 6)=m→FlOk h (1+b % (if 16 / h < 6 then 16 / h else 6)) (1+c % 6)∧0 < (if 16 / h < 6 then 16 / h else (6:Int)):=fun m m0 m1 m2 e=>by
  have b0:=Int.emod_nonneg b (by omega:m≠0)
  have b1:=Int.emod_lt_of_pos b (by omega:0 < m)
  rw [e]
  refine ⟨⟨by omega,by omega,by omega,by omega,?_,by omega,by omega⟩,by omega⟩
  exact Int.le_trans (Int.mul_le_mul_of_nonneg_left (show 1+b % m≤m by omega) (by omega)) m2
 rcases hh with e | e | e | e | e | e <;> subst e
 · exact key 6 (by decide) (by decide) (by decide) rfl
 · exact key 6 (by decide) (by decide) (by decide) rfl
 · exact key 5 (by decide) (by decide) (by decide) rfl
 · exact key 4 (by decide) (by decide) (by decide) rfl
 · exact key 3 (by decide) (by decide) (by decide) rfl
 · exact key 2 (by decide) (by decide) (by decide) rfl
def cx (K:PySem.W.Frag):Sp:=fun vs H Q _=>∃ z:Int,vs=[.int z]∧∀ (p:Addr) (H':Hp) (h w g:Int),Same H H'→H p=none→IsFl H' p h w g→FlOk h w g→Q (.ref p) H'
theorem qd {K:PySem.W.Frag} {vs:List V} {H:Hp} {Q:VK} {E:XK} (h:cx K vs H Q E):vs.length=1:=by
 obtain ⟨_,rfl,_⟩:=h; rfl
def fh (K:PySem.W.Frag):TS:=
 (tSeq (tAsg (tOp cAdd (tC (.int 1)) (tOp cMod (tVar 0) (tC (.int 6)))) (gName 1))
  (tSeq (tAsg (tOp cAdd (tC (.int 1)) (tOp cMod (tOp cDiv (tVar 0) (tC (.int 6))) (tCB kMin (tCons (tC (.int 6)) (tCons (tOp cDiv (tC (.int 16)) (tVar 1)) tNil))))) (gName 2))
  (tRet (tTup (tCons (tVar 1) (tCons (tVar 2) (tCons (tOp cAdd (tC (.int 1)) (tOp cMod (tOp cDiv (tVar 0) (tC (.int 36))) (tC (.int 6)))) tNil)))))))
theorem qe {K:PySem.W.Frag} {vs:List V} {H:Hp} {Q:VK} {E:XK} (h:cx K vs H Q E):fh K { nx:=fun _ H'=>Q .non H',rt:=Q } (start ["_law_cell","_law_high","_law_wide"] vs) H:=by
 obtain ⟨z,rfl,q⟩:=h
 obtain ⟨F,hm⟩:=flZ z (z / 6) (z / 36)
 have:=F.h0
 have:=F.h1
 show fh K _ [some (.int z),none,none] H
 unfold fh
 walk_at "w"
 refine ⟨by decide,⟨by decide,by decide⟩,?_⟩
 walk_at "w"
 refine ⟨⟨by omega,by omega⟩,hm,?_⟩
 walk_at "w"
 refine ⟨⟨by decide,by decide⟩,by decide,aD (by show (3:Nat)≤1000; decide),fun p hp=>?_⟩
 exact q p _ _ _ _ ((Same.refl H).laid hp) hp ah F
def bR (K:PySem.W.Frag):Sp:=fun vs H Q _=>∃ (a:Addr) (ns:List Int) (at_ many count:Int),vs=[.ref a,.int at_,.int many,.int count]∧SqL K H a (ns.map V.int)∧ns.length≤63∧0≤at_∧at_≤1000∧many≤16∧0≤count∧count≤many∧
 ∀ (l:Addr) (H':Hp) (cs:List Nat),Same H H'→H l=none→H' l=some (.lst (nsV cs))→cs.Nodup→(∀ c∈cs,(c:Int) < many)→(cs.length:Int)=count→Q (.ref l) H'
theorem qf {K:PySem.W.Frag} {vs:List V} {H:Hp} {Q:VK} {E:XK} (h:bR K vs H Q E):vs.length=4:=by
 obtain ⟨_,_,_,_,_,rfl,_⟩:=h; rfl
def fi (K:PySem.W.Frag):TS:=
 (tSeq (tAsg (jl (tCons (tVar 2) tNil)) (gName 4))
  (tSeq (tAsg (tLst tNil) (gName 5))
  (tSeq (tFor (di (tCons (tVar 3) tNil)) (gName 6)
  (tDrop (tBM K "list" a9 (tVar 5) (tCons (tBM K "list" pL (tVar 4) (tCons (tOp cMod (tCall (aL K) [] E0 (tCons (tVar 0) (tCons (tOp cAdd (tVar 1) (tVar 6)) tNil))) (tCB kLen (tCons (tVar 4) tNil))) tNil)) tNil))))
  (tRet (tVar 5)))))
theorem qg {K:PySem.W.Frag} {vs:List V} {H:Hp} {Q:VK} {E:XK} (h:bR K vs H Q E):fi K { nx:=fun _ H'=>Q .non H',rt:=Q } (start ["_law_script","_law_at","_law_many","_law_size","_law_left","_law_found","_law_k"] vs) H:=by
 obtain ⟨a,ns,at_,many,count,rfl,hS,hn,a0,a1,m1,c0,c1,q⟩:=h
 show fi K _ [some (.ref a),some (.int at_),some (.int many),some (.int count),none,none,none] H
 unfold fi
 walk_at "w"
 refine ⟨many,rfl,by omega,by omega,fun L hL=>?_⟩
 have s1:Same H (upd H L (.lst ((rngL 0 many).map V.int))):=(Same.refl H).laid hL
 have eL:(upd H L (.lst ((rngL 0 many).map V.int))) L=some (.lst ((rngL 0 many).map V.int)):=ah
 generalize upd H L (.lst ((rngL 0 many).map V.int))=H1 at*
 walk_at "w"
 refine ⟨aD (by decide),fun R hR=>?_⟩
 have nRL:R≠L:=fun e=>by rw [e,eL] at hR; cases hR
 refine ⟨count,rfl,by omega,by omega,?_⟩
 refine fw (fun i σ H'=>∃ (kv:Option V) (fs ls:List Int),σ=[some (.ref a),some (.int at_),some (.int many),some (.int count),some (.ref L),some (.ref R),kv]∧Same H H'∧H' L=some (.lst (ls.map V.int))∧H' R=some (.lst (fs.map V.int))∧(fs++ls).Perm (rngL 0 many)∧fs.length=i)
  ⟨none,[],rngL 0 many,rfl,s1.laid hR,by rw [av nRL.symm]; exact eL,by rw [ah]; rfl,List.Perm.refl _,rfl⟩ ?_ ?_
 · rintro i σ H2 hi ⟨kv,fs,ls,rfl,s2,e1,e2,hp,hl⟩
   have hlen:=hp.length_eq
   rw [List.length_append,iG] at hlen
   walk_at "w"
   refine ⟨bn e2,bn e1,a,ns,_,rfl,s2.seq hS,hn,by omega,by omega,?_⟩
   walk_at "w"
   rw [bi e1,List.length_map]
   have hpos:0 < (ls.length:Int):=by omega
   generalize lawCA ns (at_+(0+(i:Int)))=y at*
   have j0:=Int.emod_nonneg y (Int.ne_of_gt hpos)
   have j1:=Int.emod_lt_of_pos y hpos
   refine ⟨hpos,?_⟩
   generalize y % (ls.length:Int)=j at*
   have hj:j.toNat < ls.length:=by omega
   refine y7 e1 j0 (by rw [List.length_map]; omega) (y:=V.int ls[j.toNat]) (by rw [List.getElem?_map,List.getElem?_eq_getElem hj]; rfl) ?_
   have e2':(upd H2 L (.lst ((ls.map V.int).eraseIdx j.toNat))) R=some (.lst (fs.map V.int)):=by rw [av nRL]; exact e2
   walk_at "w"
   rw [dF e2']
   refine ⟨by rw [List.length_map]; exact aK (by omega),_,fs++[ls[j.toNat]],ls.eraseIdx j.toNat,rfl,(s2.own hL).own (s1.free hR),?_,?_,?_,by simp [hl]⟩
   · rw [av nRL.symm,ah,rq]
   · rw [ah]; simp
   · have p1:=pS ls j.toNat hj
     have p2:=List.Perm.append_left fs p1
     refine List.Perm.trans ?_ hp
     rw [List.append_assoc]
     exact p2
 · rintro σ H2 ⟨kv,fs,ls,rfl,s2,e1,e2,hp,hl⟩
   walk_at "w"
   have hnd:(fs++ls).Nodup:=hp.nodup_iff.mpr (xt many)
   have hm:∀ x∈fs,0≤x∧x < many:=fun x hx=>vg (hp.mem_iff.mp (List.mem_append.mpr (.inl hx)))
   have ef:(fs.map Int.toNat).map (fun (n:Nat)=>(n:Int))=fs:=by
    rw [List.map_map]
    conv=>rhs; rw [← List.map_id fs]
    exact List.map_congr_left fun x hx=>by have:=hm x hx; show ((x.toNat:Nat):Int)=x; omega
   refine q R H2 (fs.map Int.toNat) s2 (s1.free hR) (by unfold nsV; rw [ef]; exact e2) ?_ ?_ ?_
   · have h1:=(List.nodup_append.mp hnd).1
     rw [← ef] at h1
     exact mM _ h1
   · intro c hc
     obtain ⟨x,hx,rfl⟩:=List.mem_map.mp hc
     have:=hm x hx
     omega
   · rw [List.length_map,hl]; omega
theorem Az {g:Int} (g0:1≤g) (g1:g≤6):0 < 1*(2:Int)^g.toNat∧1*(2:Int)^g.toNat≤64:=by
 have:g=1∨g=2∨g=3∨g=4∨g=5∨g=6:=by omega
 rcases this with rfl | rfl | rfl | rfl | rfl | rfl <;> decide
def cy (K:PySem.W.Frag):Sp:=fun vs H Q _=>∃ (a:Addr) (ns:List Int) (at_ many g:Int),vs=[.ref a,.int at_,.int many,.int g]∧SqL K H a (ns.map V.int)∧ns.length≤63∧0≤at_∧at_≤1000∧0≤many∧many≤16∧1≤g∧g≤6∧
 ∀ (l:Addr) (H':Hp) (ms:List Int),Same H H'→H l=none→H' l=some (.lst (ms.map V.int))→ms.length=many.toNat→(∀ m∈ms,0≤m∧m < 1*2^g.toNat)→Q (.ref l) H'
theorem qh {K:PySem.W.Frag} {vs:List V} {H:Hp} {Q:VK} {E:XK} (h:cy K vs H Q E):vs.length=4:=by
 obtain ⟨_,_,_,_,_,rfl,_⟩:=h; rfl
def fj (K:PySem.W.Frag):TS:=
 (tSeq (tAsg (tLst tNil) (gName 4))
  (tSeq (tFor (di (tCons (tVar 2) tNil)) (gName 5)
  (tSeq (tAsg (tCall (aL K) [] E0 (tCons (tVar 0) (tCons (tOp cAdd (tVar 1) (tVar 5)) tNil))) (gName 6))
  (tSeq (tDrop (tBM K "list" a9 (tVar 4) (tCons (tOp cMod (tOp cOr (tOp cDiv (tVar 6) (tC (.int 7))) (tOp cMul (tOp cMod (tOp cDiv (tVar 6) (tC (.int 5))) (tC (.int 2))) (tOp cDiv (tVar 6) (tC (.int 448))))) (tOp cShl (tC (.int 1)) (tVar 3))) tNil)))
  (tIfS (tTest (tOp (cCmp fun i j=>decide (j < i)) (tOp cMod (tVar 6) (tC (.int 5))) (tC (.int 1)))) (tAsg (tOp cShl (tC (.int 1)) (tOp cMod (tOp cDiv (tVar 6) (tC (.int 5))) (tVar 3))) (gSub (tVar 4) (tVar 5) cPut)) tNext))))
  (tRet (tVar 4))))
theorem z8 {j g:Int} (j0:0≤j) (h:j < g):0≤1*(2:Int)^j.toNat∧1*(2:Int)^j.toNat < 1*2^g.toNat:=by
 rw [Int.one_mul,Int.one_mul]
 have e:((2:Int)^j.toNat)=((2^j.toNat:Nat):Int):=by simp
 have e2:((2:Int)^g.toNat)=((2^g.toNat:Nat):Int):=by simp
 rw [e,e2]
 have h1:=Nat.pow_lt_pow_right (a:=2) (by decide) (show j.toNat < g.toNat by omega)
 exact ⟨Int.natCast_nonneg _,Int.ofNat_lt.mpr h1⟩
theorem qi {K:PySem.W.Frag} {vs:List V} {H:Hp} {Q:VK} {E:XK} (h:cy K vs H Q E):fj K { nx:=fun _ H'=>Q .non H',rt:=Q } (start ["_law_script","_law_at","_law_many","_law_signs","_law_masks_here","_law_k","_law_one"] vs) H:=by
 obtain ⟨a,ns,at_,many,g,rfl,hS,hn,a0,a1,m0,m1,g0,g1,q⟩:=h
 have pg:=Az g0 g1
 show fj K _ [some (.ref a),some (.int at_),some (.int many),some (.int g),none,none,none] H
 unfold fj
 walk_at "w"
 refine ⟨aD (by decide),fun L hL=>?_⟩
 refine ⟨many,rfl,by omega,by omega,?_⟩
 refine fw (fun i σ H'=>∃ (kv ov:Option V) (ms:List Int),σ=[some (.ref a),some (.int at_),some (.int many),some (.int g),some (.ref L),kv,ov]∧Same H H'∧H' L=some (.lst (ms.map V.int))∧ms.length=i∧∀ m∈ms,0≤m∧m < 1*2^g.toNat)
  ⟨none,none,[],rfl,(Same.refl H).laid hL,by rw [ah]; rfl,rfl,fun m hm=>by cases hm⟩ ?_ ?_
 · rintro i σ H1 hi ⟨kv,ov,ms,rfl,s1,el,hl,hm⟩
   walk_at "w"
   refine ⟨a,ns,_,rfl,s1.seq hS,hn,by omega,by omega,?_⟩
   generalize lawCA ns (at_+(0+(i:Int)))=y at*
   walk_at "w"
   refine ⟨bn el,⟨by decide,by decide⟩,⟨by decide,by decide⟩,by decide,⟨by decide,by decide⟩,.inl ⟨by omega,by omega⟩,⟨by omega,by omega,by decide⟩,pg.1,?_⟩
   generalize hx:Builtin.bitOr (y / 7) (y / 5 % 2*(y / 448)) % (1*2^g.toNat)=x at*
   have x0:0≤x:=by rw [← hx]; exact Int.emod_nonneg _ (by omega)
   have x1:x < 1*2^g.toNat:=by rw [← hx]; exact Int.emod_lt_of_pos _ pg.1
   rw [dF el]
   refine ⟨by rw [List.length_map]; exact aK (by omega),?_⟩
   have s2:=s1.own (o:=.lst (ms.map V.int++[V.int x])) hL
   have e2:(upd H1 L (.lst (ms.map V.int++[V.int x]))) L=some (.lst ((ms++[x]).map V.int)):=by rw [ah]; simp
   generalize upd H1 L (.lst (ms.map V.int++[V.int x]))=H2 at*
   have hm2:∀ m∈ms++[x],0≤m∧m < 1*2^g.toNat:=fun m hm'=>by
    rcases List.mem_append.mp hm' with hm' | hm'
    · exact hm m hm'
    · rw [List.mem_singleton.mp hm']; exact ⟨x0,x1⟩
   walk_at "w"
   rw [aA]
   walk_at "w"
   refine ⟨by decide,?_⟩
   cases decide ((1:Int) < y % 5) with
   | false=>exact iteF ⟨_,_,ms++[x],rfl,s2,e2,by simp [hl],hm2⟩
   | true=>
    have j0:=Int.emod_nonneg (y / 5) (show g≠0 by omega)
    have j1:=Int.emod_lt_of_pos (y / 5) (show 0 < g by omega)
    refine iteT ⟨⟨by decide,by decide⟩,by omega,⟨j0,by omega,by decide⟩,?_⟩
    refine yG e2 (by omega) (by simp; omega) ?_
    rw [ux]
    refine ⟨_,_,_,rfl,s2.own hL,ah,by simp [hl],fun m hm'=>?_⟩
    rcases List.mem_or_eq_of_mem_set hm' with hm' | rfl
    · exact hm2 m hm'
    · exact z8 j0 j1
 · rintro σ H1 ⟨kv,ov,ms,rfl,s1,el,hl,hm⟩
   walk_at "w"
   exact q L H1 ms s1 hL el hl hm
def dA (K:PySem.W.Frag):Sp:=fun vs H Q _=>∃ m s:Int,vs=[.int m,.int s]∧0≤m∧m < 64∧1≤s∧s≤6∧Q (.bl (decide (woI m s=0))) H
theorem tJ {K:PySem.W.Frag} {vs:List V} {H:Hp} {Q:VK} {E:XK} (h:dA K vs H Q E):vs.length=2:=by
 obtain ⟨_,_,rfl,_⟩:=h; rfl
def ie (K:PySem.W.Frag):TS:=
 (tRet (tOp (cEq K) (tOp cAnd (tVar 0) (tOp cShl (tC (.int 1)) (tOp cSub (tVar 1) (tC (.int 1))))) (tVar 0)))
theorem yn:((List.range 64).all fun m=>(List.range 6).all fun s=>decide (decide (Builtin.bitAnd (m:Int) (1*2^((1+(s:Int)) - 1).toNat)=(m:Int))=decide (woI (m:Int) (1+(s:Int))=0)))=true:=by decide+kernel
theorem zf {m s:Int} (m0:0≤m) (m1:m < 64) (s0:1≤s) (s1:s≤6):decide (Builtin.bitAnd m (1*2^(s - 1).toNat)=m)=decide (woI m s=0):=by
 have t:=List.all_eq_true.mp (List.all_eq_true.mp yn m.toNat (List.mem_range.mpr (by omega))) (s - 1).toNat (List.mem_range.mpr (by omega))
 have e1:((m.toNat:Nat):Int)=m:=by omega
 have e2:1+(((s - 1).toNat:Nat):Int)=s:=by omega
 rw [e1,e2] at t
 exact of_decide_eq_true t
theorem tK {K:PySem.W.Frag} {vs:List V} {H:Hp} {Q:VK} {E:XK} (h:dA K vs H Q E):ie K { nx:=fun _ H'=>Q .non H',rt:=Q } (start ["_law_mask","_law_sign"] vs) H:=by
 obtain ⟨m,s,rfl,m0,m1,s0,s1,q⟩:=h
 show ie K _ [some (.int m),some (.int s)] H
 unfold ie
 walk_at "w"
 refine ⟨⟨by omega,by omega,by decide⟩,?_⟩
 walk_at "w"
 rw [zf m0 m1 s0 s1]
 exact q
structure IsLN (H:Hp) (l:Addr) (as:List Addr) (css:List (List Nat)):Prop where
 top:H l=some (.lst (as.map V.ref))
 len:as.length=css.length
 at_:∀ (j:Nat) (a:Addr) (cs:List Nat),as[j]? =some a→css[j]? =some cs→H a=some (.lst (nsV cs))
theorem IsLN.same {H H':Hp} {l:Addr} {as:List Addr} {css:List (List Nat)} (x:IsLN H l as css) (s:Same H H'):IsLN H' l as css:=⟨s _ _ x.top,x.len,fun j a cs h1 h2=>s _ _ (x.at_ j a cs h1 h2)⟩
theorem IsLN.app {H H2:Hp} {l p:Addr} {as:List Addr} {css:List (List Nat)} {cs:List Nat} (x:IsLN H l as css) (nl:l∉as) (s:Same H H2) (npl:p≠l) (hp:H2 p=some (.lst (nsV cs))):IsLN (upd H2 l (.lst (as.map V.ref++[V.ref p]))) l (as++[p]) (css++[cs]):=by
 refine ⟨by rw [ah]; simp,by simp [x.len],fun j a xs h1 h2=>?_⟩
 have hlen:=x.len
 by_cases hj:j < as.length
 · rw [List.getElem?_append_left hj] at h1
   rw [List.getElem?_append_left (by omega)] at h2
   have nal:a≠l:=fun z=>nl (z ▸ List.mem_of_getElem? h1)
   rw [av nal]
   exact s _ _ (x.at_ j a xs h1 h2)
 · rw [List.getElem?_append_right (by omega)] at h1
   rw [List.getElem?_append_right (by omega)] at h2
   have e0:j - as.length=0:=by
    have:=(List.getElem?_eq_some_iff.mp h1).1
    simp at this
    omega
   rw [e0] at h1
   rw [show j - css.length=0 by omega] at h2
   simp at h1 h2
   subst h1 h2
   rw [av npl]
   exact hp
theorem tL {K:PySem.W.Frag} {H:Hp} {Q:VK} {q:Addr} {xs:List Int} {x:Int} (hq:H q=some (.lst (xs.map V.int))) (hm:x∈xs) (hn:xs.length≤900) (h:Q (.int (xs.findIdx (· ==x):Nat)) H):mG K (.ref q) [.int x] H Q:=by
 have hlt:xs.findIdx (· ==x) < xs.length:=List.findIdx_lt_length_of_exists ⟨x,hm,by simp⟩
 have ev:∀ a b:Int,PyData.eqv (.int a) (.int b)=decide (a=b):=fun a b=>by
  rw [PyData.eqv]
  by_cases h:a=b
  · subst h; simp
  · simp [h]
 refine ⟨xs.map PyData.int,.int x,xs.findIdx (· ==x),.lst (SqL.of hq) (.ints xs),.int x,ox xs,rfl,?_,by omega,⟨PyData.int xs[xs.findIdx (· ==x)],?_,?_⟩,fun m e hm2 he=>?_,h⟩
 · rw [lr]; omega
 · rw [List.getElem?_map,List.getElem?_eq_getElem hlt]; rfl
 · have:=List.findIdx_getElem (w:=hlt)
   rw [ev,decide_eq_true_eq]
   simpa using this
 · have hml:m < xs.length:=by omega
   rw [List.getElem?_map,List.getElem?_eq_getElem hml] at he
   cases he
   have:=List.not_of_lt_findIdx hm2
   rw [ev,decide_eq_false_iff_not]
   simpa using this
def tM (xs:List Int) (x:Int):Nat:=xs.findIdx (· ==x)
def ordB (cs ms:List Int):Bool:=decide (ms.length=2)&&(decide (ms.getD 0 0∈cs)&&(decide (ms.getD 1 0∈cs)&&decide (tM cs (ms.getD 0 0) < tM cs (ms.getD 1 0))))
def bv (K:PySem.W.Frag):Sp:=fun vs H Q _=>∃ (C M:Addr) (cs ms:List Int),vs=[.ref C,.ref M]∧H C=some (.lst (cs.map V.int))∧cs.length≤63∧H M=some (.lst (ms.map V.int))∧Q (.bl (ordB cs ms)) H
theorem lH {K:PySem.W.Frag} {vs:List V} {H:Hp} {Q:VK} {E:XK} (h:bv K vs H Q E):vs.length=2:=by
 obtain ⟨_,_,_,_,rfl,_⟩:=h; rfl
def cF (K:PySem.W.Frag):TS:=
 (tSeq (tIfS (tOr (tTest (tOp (cNe K) (tCB kLen (tCons (tVar 1) tNil)) (tC (.int 2)))) (tOr (tTest (tOp (cIn K true) (tOp cIx (tVar 1) (tC (.int 0))) (tVar 0))) (tTest (tOp (cIn K true) (tOp cIx (tVar 1) (tC (.int 1))) (tVar 0))))) (tRet (tC (.bl false))) tNext)
  (tRet (tOp (cCmp fun i j=>decide (i < j)) (tBM K "list" (mG K) (tVar 0) (tCons (tOp cIx (tVar 1) (tC (.int 0))) tNil)) (tBM K "list" (mG K) (tVar 0) (tCons (tOp cIx (tVar 1) (tC (.int 1))) tNil)))))
theorem lI {K:PySem.W.Frag} {vs:List V} {H:Hp} {Q:VK} {E:XK} (h:bv K vs H Q E):cF K { nx:=fun _ H'=>Q .non H',rt:=Q } (start ["cells","more"] vs) H:=by
 obtain ⟨C,M,cs,ms,rfl,hC,hn,hM,q⟩:=h
 show cF K _ [some (.ref C),some (.ref M)] H
 unfold cF
 rw [aP,aA]
 walk_at "w"
 rw [bi hM,List.length_map]
 walk_at "w"
 unfold ordB at q
 have e1:decide ((ms.length:Int)=2)=decide (ms.length=2):=by
  rw [Bool.eq_iff_iff,decide_eq_true_eq,decide_eq_true_eq]; omega
 rw [e1]
 cases hb:decide (ms.length=2) with
 | false=>
  rw [hb,Bool.false_and] at q
  walk_at "w"
  exact q
 | true=>
  rw [hb,Bool.true_and] at q
  have hl:=of_decide_eq_true hb
  walk_at "w"
  refine ixI hM (by decide) (by omega) ?_
  rw [show (0:Int).toNat=0 from rfl]
  walk_at "w"
  rw [lz hC]
  cases hb2:decide (ms.getD 0 0∈cs) with
  | false=>
   rw [hb2,Bool.false_and] at q
   refine ⟨true,rfl,iteT ?_⟩
   walk_at "w"
   exact q
  | true=>
   rw [hb2,Bool.true_and] at q
   refine ⟨false,rfl,iteF ?_⟩
   walk_at "w"
   refine ixI hM (by decide) (by omega) ?_
   rw [show (1:Int).toNat=1 from rfl]
   walk_at "w"
   rw [lz hC]
   cases hb3:decide (ms.getD 1 0∈cs) with
   | false=>
    rw [hb3,Bool.false_and] at q
    refine ⟨true,rfl,iteT ?_⟩
    walk_at "w"
    exact q
   | true=>
    rw [hb3,Bool.true_and] at q
    refine ⟨false,rfl,iteF ?_⟩
    walk_at "w"
    refine ⟨bn hC,?_⟩
    refine ixI hM (by decide) (by omega) ?_
    rw [show (0:Int).toNat=0 from rfl]
    walk_at "w"
    refine tL hC (of_decide_eq_true hb2) (by omega) ?_
    walk_at "w"
    refine ⟨bn hC,?_⟩
    refine ixI hM (by decide) (by omega) ?_
    rw [show (1:Int).toNat=1 from rfl]
    walk_at "w"
    refine tL hC (of_decide_eq_true hb3) (by omega) ?_
    walk_at "w"
    have e2:decide (((cs.findIdx (· ==ms.getD 0 0):Nat):Int) < ((cs.findIdx (· ==ms.getD 1 0):Nat):Int))=decide (tM cs (ms.getD 0 0) < tM cs (ms.getD 1 0)):=by
     rw [Bool.eq_iff_iff,decide_eq_true_eq,decide_eq_true_eq]; unfold tM; omega
    rw [e2]
    exact q
def orM (masks:List Int) (ms:List Int):Int:=Builtin.bitOr (masks.getD (ms.getD 0 0).toNat 0) (masks.getD (ms.getD 1 0).toNat 0)
def pairB (cs masks:List Int) (z s:Int) (ms:List Int):Bool:=ordB (cs.filter fun x=>!decide (x=z)) ms&&decide (((sgL (orM masks ms)).filter fun x=>!decide (x=s)).length≤1)
theorem z9:((List.range 64).all fun a=>(List.range 64).all fun b=>decide (0≤Builtin.bitOr (a:Int) (b:Int))&&decide (Builtin.bitOr (a:Int) (b:Int) < 64))=true:=by decide+kernel
theorem AA {a b:Int} (a0:0≤a) (a1:a < 64) (b0:0≤b) (b1:b < 64):0≤Builtin.bitOr a b∧Builtin.bitOr a b < 64:=by
 have t:=List.all_eq_true.mp (List.all_eq_true.mp z9 a.toNat (List.mem_range.mpr (by omega))) b.toNat (List.mem_range.mpr (by omega))
 have e1:((a.toNat:Nat):Int)=a:=by omega
 have e2:((b.toNat:Nat):Int)=b:=by omega
 rw [e1,e2] at t
 simpa using t
theorem Aa:((List.range 64).all fun m=>decide (Builtin.Int.intBits (m:Int)≤6)&&decide (sgL (m:Int)=(([0,1,2,3,4,5]:List Nat).filter fun (i:Nat)=>stB (m:Int) (1+(i:Int))).map fun (i:Nat)=>1+(i:Int)))=true:=by decide+kernel
theorem xD {m:Int} (m0:0≤m) (m1:m < 64):Builtin.Int.intBits m≤6∧sgL m=(([0,1,2,3,4,5]:List Nat).filter fun (i:Nat)=>stB m (1+(i:Int))).map fun (i:Nat)=>1+(i:Int):=by
 have t:=List.all_eq_true.mp Aa m.toNat (List.mem_range.mpr (by omega))
 have e1:((m.toNat:Nat):Int)=m:=by omega
 rw [e1,Bool.and_eq_true,decide_eq_true_eq,decide_eq_true_eq] at t
 exact t
theorem yH {masks:List Int} {i:Int} (mm:∀ m∈masks,0≤m∧m < 64) (i0:0≤i) (i1:i < masks.length):0≤masks.getD i.toNat 0∧masks.getD i.toNat 0 < 64:=by
 have hlt:i.toNat < masks.length:=by omega
 rw [List.getD,List.getElem?_eq_getElem hlt]
 exact mm _ (List.getElem_mem hlt)
def cz (K:PySem.W.Frag) (c:RCl RK):Sp:=fun vs H Q _=>∃ (k:RK) (r p A M:Addr) (ws:List (List Nat)) (cs masks ms:List Int) (n m z s:Int),vs=[.ref r,.ref A,.int z,.int s,.ref M]∧IsRule H c k r p ws cs n m∧b4 cs masks.length∧(∀ m∈masks,0≤m∧m < 64)∧H A=some (.lst (masks.map V.int))∧H M=some (.lst (ms.map V.int))∧∀ H',Same H H'→Q (.bl (pairB cs masks z s ms)) H'
theorem qj {K:PySem.W.Frag} {c:RCl RK} {vs:List V} {H:Hp} {Q:VK} {E:XK} (h:cz K c vs H Q E):vs.length=5:=by
 obtain ⟨_,_,_,_,_,_,_,_,_,_,_,_,_,rfl,_⟩:=h; rfl
def fI (K:PySem.W.Frag) (c:RCl RK):TS:=
 (tSeq (tAsg (tCall (ee K) [] E0 (tCons (tOp cOr (tOp cIx (tVar 1) (tOp cIx (tVar 4) (tC (.int 0)))) (tOp cIx (tVar 1) (tOp cIx (tVar 4) (tC (.int 1))))) tNil)) (gName 5))
  (tRet (tOp (cCmp fun i j=>decide (i≤j)) (tCB kLen (tCons (tComp [none,none,some 3] (iList K (tVar 5)) (gName 1) (tTest (tOp (cNe K) (tVar 1) (tVar 2))) (tVar 1)) tNil)) (tC (.int 1)))))
def fk (K:PySem.W.Frag) (c:RCl RK):TS:=
 (tSeq (tIfS (tNot (tB (tCall (bv K) [] E0 (tCons (tCall (bB K c) [] E0 (tCons (tVar 0) (tCons (tVar 2) tNil))) (tCons (tVar 4) tNil))))) (tRet (tC (.bl false))) tNext)
  (fI K c))
theorem mQ {K:PySem.W.Frag} {c:RCl RK} {H:Hp} {Q:VK} {A M:Addr} {cs masks ms:List Int} {z s:Int} {v0:V} (hC:b4 cs masks.length) (mm:∀ m∈masks,0≤m∧m < 64) (hA:H A=some (.lst (masks.map V.int))) (hM:H M=some (.lst (ms.map V.int))) (ho:ordB (cs.filter fun x=>!decide (x=z)) ms=true)
  (q:∀ H',Same H H'→Q (.bl (decide (((sgL (orM masks ms)).filter fun x=>!decide (x=s)).length≤1))) H'):
  fI K c { nx:=fun _ H'=>Q .non H',rt:=Q } [some v0,some (.ref A),some (.int z),some (.int s),some (.ref M),none] H:=by
 unfold ordB at ho
 simp only [Bool.and_eq_true,decide_eq_true_eq] at ho
 obtain ⟨hl,m0,m1,_⟩:=ho
 have c0:=hC.2 _ (List.mem_filter.mp m0).1
 have c1:=hC.2 _ (List.mem_filter.mp m1).1
 have k0:=yH mm c0.1 c0.2
 have k1:=yH mm c1.1 c1.2
 have ol:=AA k0.1 k0.2 k1.1 k1.2
 have sb:=(xD ol.1 ol.2).1
 unfold fI
 walk_at "w"
 refine ixI hM (by decide) (by omega) ?_
 rw [show (0:Int).toNat=0 from rfl]
 walk_at "w"
 refine ixI hA c0.1 c0.2 ?_
 walk_at "w"
 refine ixI hM (by decide) (by omega) ?_
 rw [show (1:Int).toNat=1 from rfl]
 walk_at "w"
 refine ixI hA c1.1 c1.2 ?_
 walk_at "w"
 refine ⟨_,rfl,by omega,fun l H1 s1 hl1 el=>?_⟩
 have el2:H1 l=some (.lst ((sgL (orM masks ms)).map V.int)):=el
 have hsl:(sgL (orM masks ms)).length≤6:=by
  unfold orM
  rw [(xD ol.1 ol.2).2,List.length_map]
  exact List.length_filter_le _ _
 walk_at "w"
 refine ⟨⟨_,SqL.of el2⟩,?_⟩
 refine bP (xs:=sgL (orM masks ms)) (fun x=>!decide (x=s)) (fun x=>x) (by omega) (SqL.of el2) ?_ ?_ ?_
 · intro x H2 R hx s2 k2
   show tTest _ [none,some (.int x),some (.int s)] H2 R
   walk_at "w"
   exact k2 _ (Same.refl _)
 · intro x H2 Q2 hx hb s2 k2
   show tVar 1 [none,some (.int x),some (.int s)] H2 Q2
   walk_at "w"
   exact k2 _ (Same.refl _)
 · intro T H2 hT s2 eT
   rw [List.map_id'] at eT
   walk_at "w"
   rw [bi eT,List.length_map]
   walk_at "w"
   have e2:decide ((((sgL (orM masks ms)).filter fun x=>!decide (x=s)).length:Int)≤1)=decide (((sgL (orM masks ms)).filter fun x=>!decide (x=s)).length≤1):=by
    rw [Bool.eq_iff_iff,decide_eq_true_eq,decide_eq_true_eq]; omega
   rw [e2]
   exact q _ (s1.trans s2)
theorem qk {K:PySem.W.Frag} {c:RCl RK} {vs:List V} {H:Hp} {Q:VK} {E:XK} (h:cz K c vs H Q E):fk K c { nx:=fun _ H'=>Q .non H',rt:=Q } (start ["rule","masks","cell","sign","more","together"] vs) H:=by
 obtain ⟨k,r,p,A,M,ws,cs,masks,ms,n,m,z,s,rfl,x,hC,mm,hA,hM,q⟩:=h
 show fk K c _ [some (.ref r),some (.ref A),some (.int z),some (.int s),some (.ref M),none] H
 unfold fk
 rw [aP,aA]
 walk_at "w"
 refine ⟨k,r,p,ws,cs,n,m,z,rfl,x,hC.1,fun O H1 s1 hO eO=>?_⟩
 walk_at "w"
 refine ⟨O,M,_,ms,rfl,eO,Nat.le_trans (List.length_filter_le _ _) hC.1,s1 _ _ hM,?_⟩
 unfold pairB at q
 cases hb:ordB (cs.filter fun x=>!decide (x=z)) ms with
 | false=>
  rw [hb,Bool.false_and] at q
  refine ⟨false,rfl,iteT ?_⟩
  walk_at "w"
  exact q _ s1
 | true=>
  rw [hb,Bool.true_and] at q
  refine ⟨true,rfl,iteF ?_⟩
  exact mQ hC mm (s1 _ _ hA) (s1 _ _ hM) hb fun H' s2=>q H' (s1.trans s2)
theorem zg (t:TK):decide (tkC t=[115,116,101,112])=decide (t=.step):=by cases t <;> decide
def bG (K:PySem.W.Frag):Sp:=fun vs H Q _=>∃ (A C:Addr) (masks cs:List Int),vs=[.ref A,.ref C]∧H A=some (.lst (masks.map V.int))∧H C=some (.lst (cs.map V.int))∧b4 cs masks.length∧∀ l H',Same H H'→H l=none→H' l=some (.lst ((sgAt masks cs).map V.int))→Q (.ref l) H'
theorem uG {K:PySem.W.Frag} {vs:List V} {H:Hp} {Q:VK} {E:XK} (h:bG K vs H Q E):vs.length=2:=by
 obtain ⟨_,_,_,_,rfl,_⟩:=h; rfl
def jh (K:PySem.W.Frag):TS:=
 (tRet (tComp [none,none,some 0] (iList K (tVar 1)) (gName 1) tTrue (tOp cIx (tVar 2) (tVar 1))))
theorem uH {K:PySem.W.Frag} {vs:List V} {H:Hp} {Q:VK} {E:XK} (h:bG K vs H Q E):jh K { nx:=fun _ H'=>Q .non H',rt:=Q } (start ["masks","cells"] vs) H:=by
 obtain ⟨A,C,masks,cs,rfl,hA,hC,⟨hn,hc⟩,q⟩:=h
 show jh K _ [some (.ref A),some (.ref C)] H
 unfold jh
 walk_at "w"
 refine ⟨⟨_,SqL.of hC⟩,?_⟩
 refine bP (xs:=cs) (fun _=>true) (fun c=>masks.getD c.toNat 0) (by omega) (SqL.of hC) ?_ ?_ ?_
 · intro x H1 R hx s1 k1
   exact k1 _ (Same.refl _)
 · intro z H1 Q1 hz hb s1 k1
   show tOp cIx _ _ [none,some (.int z),some (.ref A)] H1 Q1
   walk_at "w"
   have:=hc z hz
   exact ixI (s1 _ _ hA) this.1 (by omega) (k1 _ (Same.refl _))
 · intro l H1 hl s1 el
   rw [fD] at el
   exact q l H1 s1 hl el
def cf (K:PySem.W.Frag):Sp:=fun vs H Q _=>∃ (C:Addr) (ms:List Int) (s:Int),vs=[.ref C,.int s]∧H C=some (.lst (ms.map V.int))∧ms.length≤63∧∀ H',Same H H'→Q (.int ((ms.filter fun m=>stB m s).length:Nat)) H'
theorem uI {K:PySem.W.Frag} {vs:List V} {H:Hp} {Q:VK} {E:XK} (h:cf K vs H Q E):vs.length=2:=by
 obtain ⟨_,_,_,rfl,_⟩:=h; rfl
def ji (K:PySem.W.Frag):TS:=
 (tRet (tCB kLen (tCons (tComp [none,none,some 1] (iList K (tVar 0)) (gName 1) (tB (tCall (bW K) [] E0 (tCons (tVar 1) (tCons (tVar 2) tNil)))) (tVar 1)) tNil)))
theorem uJ {K:PySem.W.Frag} {vs:List V} {H:Hp} {Q:VK} {E:XK} (h:cf K vs H Q E):ji K { nx:=fun _ H'=>Q .non H',rt:=Q } (start ["some","sign"] vs) H:=by
 obtain ⟨C,ms,s,rfl,hC,hn,q⟩:=h
 show ji K _ [some (.ref C),some (.int s)] H
 unfold ji
 walk_at "w"
 refine ⟨⟨_,SqL.of hC⟩,?_⟩
 refine bP (xs:=ms) (fun m=>stB m s) (fun m=>m) (by omega) (SqL.of hC) ?_ ?_ ?_
 · intro x H1 R hx s1 k1
   show tB _ [none,some (.int x),some (.int s)] H1 R
   walk_at "w"
   exact ⟨x,s,rfl,_,rfl,k1 _ (Same.refl _)⟩
 · intro z H1 Q1 hz hb s1 k1
   show tVar 1 [none,some (.int z),some (.int s)] H1 Q1
   walk_at "w"
   exact k1 _ (Same.refl _)
 · intro l H1 hl s1 el
   rw [List.map_id'] at el
   rw [bi el,List.length_map]
   exact q _ s1
def lg (g:Int) (cs masks:List Int) (z s:Int) (ms:List Int):Bool:=decide ((cs.length:Int)=g)&&(decide (ms.length=1)&&(!decide (ms.getD 0 0=s)&&((decide (1≤ms.getD 0 0)&&decide (ms.getD 0 0≤g))&&decide (((sgAt masks (cs.filter fun x=>!decide (x=z))).filter fun m=>stB m (ms.getD 0 0)).length=0))))
def b7 (K:PySem.W.Frag) (c:RCl RK):Sp:=fun vs H Q _=>∃ (k:RK) (f r p A M:Addr) (ws:List (List Nat)) (cs masks ms:List Int) (n m z s h w g:Int),vs=[.ref f,.ref r,.ref A,.int z,.int s,.ref M]∧IsFl H f h w g∧IsRule H c k r p ws cs n m∧b4 cs masks.length∧H A=some (.lst (masks.map V.int))∧H M=some (.lst (ms.map V.int))∧∀ H',Same H H'→Q (.bl (lg g cs masks z s ms)) H'
theorem oR {K:PySem.W.Frag} {c:RCl RK} {vs:List V} {H:Hp} {Q:VK} {E:XK} (h:b7 K c vs H Q E):vs.length=6:=by
 obtain ⟨_,_,_,_,_,_,_,_,_,_,_,_,_,_,_,_,_,rfl,_⟩:=h; rfl
def eh (K:PySem.W.Frag) (c:RCl RK):TS:=
 (tRet (tOp (cEq K) (tCall (cf K) [] E0 (tCons (tCall (bG K) [] E0 (tCons (tVar 2) (tCons (tCall (bB K c) [] E0 (tCons (tVar 1) (tCons (tVar 3) tNil))) tNil))) (tCons (tOp cIx (tVar 5) (tC (.int 0))) tNil))) (tC (.int 0))))
def iB (K:PySem.W.Frag) (c:RCl RK):TS:=
 (tSeq (tIfS (tOr (tTest (tOp (cEq K) (tOp cIx (tVar 5) (tC (.int 0))) (tVar 4))) (tNot (tB (tCall (c8 K) [] E0 (tCons (tVar 0) (tCons (tOp cIx (tVar 5) (tC (.int 0))) tNil)))))) (tRet (tC (.bl false))) tNext)
  (eh K c))
def dQ (K:PySem.W.Frag) (c:RCl RK):TS:=
 (tSeq (tIfS (tOr (tTest (tOp (cNe K) (tCB kLen (tCons (bQ c c.ok "spots" (fH K c) (tVar 1) tNil) tNil)) (tOp cIx (tVar 0) (tC (.int 2))))) (tTest (tOp (cNe K) (tCB kLen (tCons (tVar 5) tNil)) (tC (.int 1))))) (tRet (tC (.bl false))) tNext)
  (iB K c))
theorem ma {K:PySem.W.Frag} {c:RCl RK} {H:Hp} {Q:VK} {k:RK} {f r p A M:Addr} {ws:List (List Nat)} {cs masks ms:List Int} {n m z s:Int} (x:IsRule H c k r p ws cs n m) (hC:b4 cs masks.length) (hA:H A=some (.lst (masks.map V.int))) (hM:H M=some (.lst (ms.map V.int))) (hl:ms.length=1)
  (q:∀ H',Same H H'→Q (.bl (decide (((sgAt masks (cs.filter fun x=>!decide (x=z))).filter fun m=>stB m (ms.getD 0 0)).length=0))) H'):
  eh K c { nx:=fun _ H'=>Q .non H',rt:=Q } [some (.ref f),some (.ref r),some (.ref A),some (.int z),some (.int s),some (.ref M)] H:=by
 unfold eh
 walk_at "w"
 refine ⟨k,r,p,ws,cs,n,m,z,rfl,x,hC.1,fun O H1 s1 hO eO=>?_⟩
 walk_at "w"
 have hC2:b4 (cs.filter fun x=>!decide (x=z)) masks.length:=⟨Nat.le_trans (List.length_filter_le _ _) hC.1,fun y hy=>hC.2 y (List.mem_filter.mp hy).1⟩
 refine ⟨A,O,masks,_,rfl,s1 _ _ hA,eO,hC2,fun B H2 s2 hB eB=>?_⟩
 dsimp only
 refine ixI ((s1.trans s2) _ _ hM) (by decide) (by omega) ?_
 rw [show (0:Int).toNat=0 from rfl]
 walk_at "w"
 refine ⟨B,_,_,rfl,eB,by unfold sgAt; rw [List.length_map]; exact hC2.1,fun H3 s3=>?_⟩
 walk_at "w"
 have q1:=q H3 ((s1.trans s2).trans s3)
 have e:decide ((((sgAt masks (cs.filter fun x=>!decide (x=z))).filter fun m=>stB m (ms.getD 0 0)).length:Int)=0)=decide (((sgAt masks (cs.filter fun x=>!decide (x=z))).filter fun m=>stB m (ms.getD 0 0)).length=0):=by
  rw [Bool.eq_iff_iff,decide_eq_true_eq,decide_eq_true_eq]; omega
 rw [e]
 exact q1
theorem oS {K:PySem.W.Frag} {c:RCl RK} {vs:List V} {H:Hp} {Q:VK} {E:XK} (h:b7 K c vs H Q E):dQ K c { nx:=fun _ H'=>Q .non H',rt:=Q } (start ["floor","rule","masks","cell","sign","more"] vs) H:=by
 obtain ⟨k,f,r,p,A,M,ws,cs,masks,ms,n,m,z,s,h,w,g,rfl,hf,x,hC,hA,hM,q⟩:=h
 obtain ⟨dx,W,C,h1,h2,h3⟩:=x.ex
 show dQ K c _ [some (.ref f),some (.ref r),some (.ref A),some (.int z),some (.int s),some (.ref M)] H
 unfold dQ
 rw [aP,aA]
 walk_at "w"
 refine methE (k:=k) rfl x.ok h1 (by rfl) ?_
 walk_at "w"
 refine ⟨r,p,ws,cs,n,m,rfl,x,fun l hl=>?_⟩
 have s1:Same H (upd H l (.lst (cs.map V.int))):=(Same.refl H).laid hl
 have el:(upd H l (.lst (cs.map V.int))) l=some (.lst (cs.map V.int)):=ah
 generalize upd H l (.lst (cs.map V.int))=H1 at*
 dsimp only
 rw [bi el,List.length_map]
 refine ixT (s1 _ _ hf) (v:=V.int g) rfl ?_
 walk_at "w"
 unfold lg at q
 cases hb:decide ((cs.length:Int)=g) with
 | false=>
  rw [hb,Bool.false_and] at q
  walk_at "w"
  exact q _ s1
 | true=>
  rw [hb,Bool.true_and] at q
  walk_at "w"
  rw [bi (s1 _ _ hM),List.length_map]
  walk_at "w"
  have e1:decide ((ms.length:Int)=1)=decide (ms.length=1):=by
   rw [Bool.eq_iff_iff,decide_eq_true_eq,decide_eq_true_eq]; omega
  rw [e1]
  cases hb2:decide (ms.length=1) with
  | false=>
   rw [hb2,Bool.false_and] at q
   walk_at "w"
   exact q _ s1
  | true=>
   rw [hb2,Bool.true_and] at q
   have hl1:=of_decide_eq_true hb2
   walk_at "w"
   unfold iB
   rw [aP,aA]
   walk_at "w"
   refine ixI (s1 _ _ hM) (by decide) (by omega) ?_
   rw [show (0:Int).toNat=0 from rfl]
   walk_at "w"
   cases hb3:decide (ms.getD 0 0=s) with
   | true=>
    rw [hb3,Bool.not_true,Bool.false_and] at q
    refine iteT ?_
    walk_at "w"
    exact q _ s1
   | false=>
    rw [hb3,Bool.not_false,Bool.true_and] at q
    refine iteF ?_
    refine ixI (s1 _ _ hM) (by decide) (by omega) ?_
    rw [show (0:Int).toNat=0 from rfl]
    walk_at "w"
    refine ⟨f,h,w,g,_,rfl,s1 _ _ hf,?_⟩
    cases hb4:(decide (1≤ms.getD 0 0)&&decide (ms.getD 0 0≤g)) with
    | false=>
     rw [hb4,Bool.false_and] at q
     refine ⟨false,rfl,iteT ?_⟩
     walk_at "w"
     exact q _ s1
    | true=>
     rw [hb4,Bool.true_and] at q
     refine ⟨true,rfl,iteF ?_⟩
     exact ma (x.same s1) hC (s1 _ _ hA) (s1 _ _ hM) hl1 fun H' s2=>q H' (s1.trans s2)
theorem dR (t:TK):decide (tkC t=[112,108,97,99,101])=decide (t=.place):=by cases t <;> decide
def ql (g:Int) (t:TK) (x:RR) (masks:List Int) (z s:Int) (ms:List Int):Bool:=match t with
 | .only=>onlyB x.cs masks z s ms
 | .place=>lg g x.cs masks z s ms
 | _=>pairB x.cs masks z s ms
def d3 (g:Int) (rows:List RR) (cl masks:List Int) (t:TK) (r z s:Int) (ms:List Int):Bool:=match t with
 | .clue=>clueB cl z s ms
 | _=>match rows[r.toNat]? with
  | none=>false
  | some x=>ql g t x masks z s ms
abbrev K28 (t:TK):Prop:=t=.clue∨t=.only∨t=.place∨t=.pair
def bw (K:PySem.W.Frag) (c:RCl RK) (d:RCl PzK):Sp:=fun vs H Q _=>∃ (P L G A T M:Addr) (h w g:Int) (rows:List RR) (cl masks:List Int) (t:TK) (r z s:Int) (ms:List Int),vs=[.ref P,.ref A,.ref T]∧Asks H c d P L G A T M h w g rows cl masks t r z s ms∧K28 t∧(∀ m∈masks,0≤m∧m < 64)∧formB h w g rows t r z s=true∧∀ H',Same H H'→Q (.bl (d3 g rows cl masks t r z s ms)) H'
theorem lJ {K:PySem.W.Frag} {c:RCl RK} {d:RCl PzK} {vs:List V} {H:Hp} {Q:VK} {E:XK} (h:bw K c d vs H Q E):vs.length=3:=by
 obtain ⟨_,_,_,_,_,_,_,_,_,_,_,_,_,_,_,_,_,rfl,_⟩:=h; rfl
def cG (K:PySem.W.Frag) (c:RCl RK) (d:RCl PzK):TS:=
 (tSeq (tAsg (tOp cIx (tVar 2) (tC (.int 0))) (gName 3))
  (tSeq (tAsg (tOp cIx (tVar 2) (tC (.int 2))) (gName 4))
  (tSeq (tAsg (tOp cIx (tVar 2) (tC (.int 3))) (gName 5))
  (tSeq (tAsg (tOp cIx (tVar 2) (tC (.int 4))) (gName 6))
  (tSeq (tIfS (tTest (tOp (cEq K) (tVar 3) (tC (.str (tx [99,108,117,101]))))) (tRet (tCall (cu K) [] E0 (tCons (bQ d d.ok "clues" (lF K c d) (tVar 0) tNil) (tCons (tVar 4) (tCons (tVar 5) (tCons (tVar 6) tNil)))))) tNext)
  (tSeq (tAsg (tOp cIx (bQ d d.ok "rules" (df K c d) (tVar 0) tNil) (tOp cIx (tVar 2) (tC (.int 1)))) (gName 7))
  (tSeq (tIfS (tTest (tOp (cEq K) (tVar 3) (tC (.str (tx [111,110,108,121]))))) (tRet (tCall (cw K c) [] E0 (tCons (tVar 7) (tCons (tVar 1) (tCons (tVar 4) (tCons (tVar 5) (tCons (tVar 6) tNil))))))) tNext)
  (tSeq (tIfS (tTest (tOp (cEq K) (tVar 3) (tC (.str (tx [112,108,97,99,101]))))) (tRet (tCall (b7 K c) [] E0 (tCons (bQ d d.ok "place" (de K c d) (tVar 0) tNil) (tCons (tVar 7) (tCons (tVar 1) (tCons (tVar 4) (tCons (tVar 5) (tCons (tVar 6) tNil)))))))) tNext)
  (tSeq (tIfS (tTest (tOp (cEq K) (tVar 3) (tC (.str (tx [115,116,101,112]))))) (tRet jY) tNext)
  (tRet (tCall (cz K c) [] E0 (tCons (tVar 7) (tCons (tVar 1) (tCons (tVar 4) (tCons (tVar 5) (tCons (tVar 6) tNil))))))))))))))))
theorem lK {K:PySem.W.Frag} {c:RCl RK} {d:RCl PzK} {vs:List V} {H:Hp} {Q:VK} {E:XK} (h:bw K c d vs H Q E):cG K c d { nx:=fun _ H'=>Q .non H',rt:=Q } (start ["puzzle","masks","thought","kind","cell","sign","more","rule"] vs) H:=by
 obtain ⟨P,L,G,A,T,M,h,w,g,rows,cl,masks,t,r,z,s,ms,rfl,X,ht,mm,f,q⟩:=h
 obtain ⟨dx,p,rs,h1,h2,h3⟩:=X.P.ex
 obtain ⟨z0,z1,s0,s1',hit⟩:=rz f
 have hcl:=X.P.C.len
 have hg:=X.P.R.F.g1
 show cG K c d _ [some (.ref P),some (.ref A),some (.ref T),none,none,none,none,none] H
 unfold cG
 walk_at "w"
 refine ixT X.T.T (v:=V.str (tx (tkC t))) rfl ?_
 walk_at "w"
 refine ixT X.T.T (v:=V.int z) rfl ?_
 walk_at "w"
 refine ixT X.T.T (v:=V.int s) rfl ?_
 walk_at "w"
 refine ixT X.T.T (v:=V.ref M) rfl ?_
 walk_at "w"
 rw [aA]
 walk_at "w"
 rw [aF,qU]
 by_cases hc:t=.clue
 · subst hc
   rw [decide_eq_true rfl]
   refine iteT ?_
   refine methE (k:=.Puzzle) rfl X.P.ok h1 (by rfl) ?_
   walk_at "w"
   refine ⟨P,L,G,h,w,g,rows,cl,rfl,X.P,fun l hl=>?_⟩
   have s2:Same H (upd H l (.lst (cl.map V.int))):=(Same.refl H).laid hl
   exact ⟨l,M,z,s,cl,ms,rfl,ah,z0,by omega,s2 _ _ X.T.M,fun H' s3=>q H' (s2.trans s3)⟩
 · rw [decide_eq_false hc]
   obtain ⟨r0,y,ey,_,hz⟩:=vj hc hit
   have q2:∀ H',Same H H'→Q (.bl (ql g t y masks z s ms)) H':=fun H' s'=>by
    have q1:=q H' s'
    have e:d3 g rows cl masks t r z s ms=ql g t y masks z s ms:=by
     unfold d3
     cases t <;> first | exact absurd rfl hc | (dsimp only; rw [ey])
    rw [e] at q1
    exact q1
   refine iteF ?_
   refine methE (k:=.Puzzle) rfl X.P.ok h1 (by rfl) ?_
   walk_at "w"
   refine ⟨P,L,G,h,w,g,rows,cl,rfl,X.P,fun l p2 rs2 hl hp2 Y=>?_⟩
   have s2:Same H (upd H l (.lst (rs2.map V.ref))):=(Same.refl H).laid hl
   generalize upd H l (.lst (rs2.map V.ref))=H1 at*
   have hlt:=(List.getElem?_eq_some_iff.mp ey).1
   have hlen:=Y.len
   have ea:rs2[r.toNat]? =some rs2[r.toNat]:=List.getElem?_eq_getElem (by omega)
   have O:=X.P.R.ok y (List.mem_of_getElem? ey)
   have hin:b4 y.cs masks.length:=by rw [X.n]; exact RR.cin22 O X.P.R.F
   dsimp only
   refine ixT (s2 _ _ X.T.T) (v:=V.int r) rfl ?_
   refine ixL Y.top (oE r0 ea) ?_
   walk_at "w"
   rw [aA]
   walk_at "w"
   rw [aF,nP]
   by_cases ho:t=.only
   · subst ho
     rw [decide_eq_true rfl]
     refine iteT ?_
     walk_at "w"
     exact ⟨_,_,p2,A,M,_,y.cs,masks,ms,_,_,z,s,rfl,Y.at_ _ _ _ ea ey,hin,s2 _ _ X.A,s2 _ _ X.T.M,by omega,fun H' s3=>q2 H' (s2.trans s3)⟩
   · rw [decide_eq_false ho]
     refine iteF ?_
     rw [aA]
     walk_at "w"
     rw [aF,dR]
     by_cases hp:t=.place
     · subst hp
       rw [decide_eq_true rfl]
       refine iteT ?_
       refine methE (k:=.Puzzle) rfl X.P.ok (s2 _ _ h1) (by rfl) ?_
       walk_at "w"
       refine ⟨P,L,G,h,w,g,rows,cl,rfl,X.P.same s2,fun p3 hp3=>?_⟩
       walk_at "w"
       exact ⟨_,p3,_,p2,A,M,_,y.cs,masks,ms,_,_,z,s,h,w,g,rfl,hp3,Y.at_ _ _ _ ea ey,hin,s2 _ _ X.A,s2 _ _ X.T.M,fun H' s3=>q2 H' (s2.trans s3)⟩
     · have hpr:t=.pair:=((ht.resolve_left hc).resolve_left ho).resolve_left hp
       subst hpr
       rw [decide_eq_false hp]
       refine iteF ?_
       rw [aA]
       walk_at "w"
       rw [aF,zg,decide_eq_false (show ¬ TK.pair=TK.step by decide)]
       refine iteF ?_
       walk_at "w"
       exact ⟨_,_,p2,A,M,_,y.cs,masks,ms,_,_,z,s,rfl,Y.at_ _ _ _ ea ey,hin,mm,s2 _ _ X.A,s2 _ _ X.T.M,fun H' s3=>q2 H' (s2.trans s3)⟩
end L2
namespace L2
open PySem PySem.Spec PyProof.Rows
def lh:List V→Hp→VK→Prop
 | [.int i,.int j],H,Q=>CDiv i j∧∀ p,H p=none→Q (.ref p) (upd H p (.tup [.int (i / j),.int (i % j)]))
 | _,_,_=>False
theorem mR {X:Cx}:CallR X (.builtin "divmod") lh:=by
 intro pins s σ H xs us Q I r h
 unfold lh at h
 split at h
 · exact ul pins s σ H _ us Q I r ⟨_,_,rfl,h.1,h.2⟩
 · exact h.elim
theorem rA:bootBuiltins "divmod"=some (.builtin "divmod"):=by decide+kernel
theorem tN {i j:Int} {H:Hp} {Q:VK}:lh [.int i,.int j] H Q=(CDiv i j∧∀ p,H p=none→Q (.ref p) (upd H p (.tup [.int (i / j),.int (i % j)]))):=rfl
end L2
namespace L2
open PySem PySem.Spec PyProof.Rows
local macro_rules | `(tactic| walk_at "w")=>`(tactic| (first | simp only [aP,mJ,pK,j7,mL,lc,ld,pM,pI,mI,pJ,if_true,if_false,Bool.false_eq_true,decide_true,decide_false,jW,jX,nI,iH,gC,jU,k7,jV,iF,kY,kZ,iE,nF,iI,iJ,iL,iM,iN,iO,iK,k8,k9,la,kW,nH,Bool.not_true,Bool.not_false,gc,fO,cp,i9,w_c,lw,gK,gL,gd,gM,w_b,w_not,jq,lx,gN,gO,jr,ja,ge,ly,gP,js,jt,kE,ju,gQ,gR,gS,gT,fP,fQ,dt,dG,dH,cZ,jv,jw,jx,jy,jz,jA,jB,jC,jD,jE,jF,jG,lA,gU,dI,gW,lB,gX,fR,dJ,jH,jI,gY,gf,gZ,
 List.getElem?_cons_zero,List.getElem?_cons_succ,Option.some.injEq,exists_eq_left',exists_eq_left,List.set_cons_zero,List.set_cons_succ,dc,V.int.injEq,V.bl.injEq,V.ref.injEq,V.str.injEq,List.append_nil,List.nil_append,List.cons_append] | dsimp only | skip))
def bS (K:PySem.W.Frag):Sp:=fun vs H Q _=>∃ (C:Addr) (ms:List Int) (s:Int),vs=[.ref C,.int s]∧H C=some (.lst (ms.map V.int))∧ms.length≤63∧s≤100000∧∀ H',Same H H'→Q (.int ((ms.filter fun m=>decide (woI m s=0)).length:Nat)) H'
theorem tO {K:PySem.W.Frag} {vs:List V} {H:Hp} {Q:VK} {E:XK} (h:bS K vs H Q E):vs.length=2:=by
 obtain ⟨_,_,_,rfl,_⟩:=h; rfl
def ig (K:PySem.W.Frag):TS:=
 (tRet (tCB kLen (tCons (tComp [none,none,some 1] (iList K (tVar 0)) (gName 1) (tB (tCall (br K) [] E0 (tCons (tVar 1) (tCons (tVar 2) tNil)))) (tVar 1)) tNil)))
theorem tP {K:PySem.W.Frag} {vs:List V} {H:Hp} {Q:VK} {E:XK} (h:bS K vs H Q E):ig K { nx:=fun _ H'=>Q .non H',rt:=Q } (start ["some","sign"] vs) H:=by
 obtain ⟨C,ms,s,rfl,hC,hn,hs,q⟩:=h
 show ig K _ [some (.ref C),some (.int s)] H
 unfold ig
 walk_at "w"
 refine ⟨⟨_,SqL.of hC⟩,?_⟩
 refine bP (xs:=ms) (fun m=>decide (woI m s=0)) (fun m=>m) (by omega) (SqL.of hC) ?_ ?_ ?_
 · intro x H1 R hx s1 k1
   show tB _ [none,some (.int x),some (.int s)] H1 R
   walk_at "w"
   exact ⟨x,s,rfl,hs,_,rfl,k1 _ (Same.refl _)⟩
 · intro z H1 Q1 hz hb s1 k1
   show tVar 1 [none,some (.int z),some (.int s)] H1 Q1
   walk_at "w"
   exact k1 _ (Same.refl _)
 · intro l H1 hl s1 el
   rw [List.map_id'] at el
   rw [bi el,List.length_map]
   exact q _ s1
def rosP (c z:Int) (q:List Int):Bool:=decide (q.getD 0 0=c)&&decide (z∈q)
def rosL (h w c z:Int):List Int:=match (squL h w).find? (rosP c z) with
 | none=>[]
 | some q=>q.filter fun x=>!decide (x=z)
theorem nQ {h w:Int} {q:List Int} (hq:q∈squL h w):∃ i:Nat,i < (h*w).toNat∧cornB h w i=true∧q=sqL w i:=by
 unfold squL at hq
 obtain ⟨i,hi,rfl⟩:=List.mem_map.mp hq
 obtain ⟨hi,hc⟩:=List.mem_filter.mp hi
 exact ⟨i,List.mem_range.mp hi,hc,rfl⟩
theorem zh {h w c:Int} (w0:1≤w) (c0:0≤c) (hc:cornB h w c=true):c+w+1 < h*w:=by
 unfold cornB at hc
 rw [Bool.and_eq_true,decide_eq_true_eq,decide_eq_true_eq] at hc
 have e:=Int.mul_ediv_add_emod c w
 have m:=Int.mul_le_mul_of_nonneg_left (show c / w+2≤h by omega) (show 0≤w by omega)
 rw [Int.mul_add] at m
 rw [Int.mul_comm h w]
 omega
theorem AB {h w c x:Int} (w0:1≤w) (c0:0≤c) (hc:cornB h w c=true) (hx:x∈sqL w c):0≤x∧x < h*w:=by
 have:=zh w0 c0 hc
 simp [sqL] at hx
 omega
theorem xE {h w g c z:Int} {n:Nat} (F:FlOk h w g) (hn:n=(h*w).toNat):b4 (rosL h w c z) n:=by
 have w0:=F.w0
 unfold rosL
 cases e:(squL h w).find? (rosP c z) with
 | none=>exact ⟨by show (0:Nat)≤63; omega,fun x hx=>by cases hx⟩
 | some q=>
  obtain ⟨i,hi,hc,rfl⟩:=nQ (List.mem_of_find?_eq_some e)
  refine ⟨Nat.le_trans (List.length_filter_le _ _) (by show (4:Nat)≤63; omega),fun x hx=>?_⟩
  have:=AB w0 (by omega) hc (List.mem_filter.mp hx).1
  omega
def bh (K:PySem.W.Frag):Sp:=fun vs H Q _=>∃ (f:Addr) (h w g c z:Int),vs=[.ref f,.int c,.int z]∧IsFl H f h w g∧FlOk h w g∧∀ l H',Same H H'→H l=none→H' l=some (.lst ((rosL h w c z).map V.int))→Q (.ref l) H'
theorem nX {K:PySem.W.Frag} {vs:List V} {H:Hp} {Q:VK} {E:XK} (h:bh K vs H Q E):vs.length=3:=by
 obtain ⟨_,_,_,_,_,_,rfl,_⟩:=h; rfl
def dk (K:PySem.W.Frag):TS:=
 (tSeq (tFor (iList K (tCall (fS K) [] E0 (tCons (tVar 0) tNil))) (gName 3)
  (tIfS (tAnd (tTest (tOp (cEq K) (tOp cIx (tVar 3) (tC (.int 0))) (tVar 1))) (tTest (tOp (cIn K false) (tVar 2) (tVar 3)))) (tRet (tComp [none,none,some 2] (iList K (tVar 3)) (gName 1) (tTest (tOp (cNe K) (tVar 1) (tVar 2))) (tVar 1))) tNext))
  (tRet (tLst tNil)))
theorem nY {K:PySem.W.Frag} {vs:List V} {H:Hp} {Q:VK} {E:XK} (h:bh K vs H Q E):dk K { nx:=fun _ H'=>Q .non H',rt:=Q } (start ["floor","corner","cell","square"] vs) H:=by
 obtain ⟨f,h,w,g,c,z,rfl,hf,F,q⟩:=h
 show dk K _ [some (.ref f),some (.int c),some (.int z),none] H
 unfold dk
 rw [aP]
 walk_at "w"
 refine ⟨f,h,w,g,rfl,hf,F,fun l as H1 s1 hl x nd nl hn=>?_⟩
 refine ⟨l,rfl,⟨_,SqL.of x.top⟩,?_⟩
 refine ln (K:=K) (xs:=as.map V.ref) (fun i σ H'=>∃ sv:Option V,σ=[some (.ref f),some (.int c),some (.int z),sv]∧Same H1 H'∧∀ (j:Nat) (q:List Int),j < i→(squL h w)[j]? =some q→rosP c z q=false) ⟨none,rfl,Same.refl _,fun j q hj=>by omega⟩ (fun i σ H' _ ⟨_,_,s,_⟩=>s.seq (SqL.of x.top)) ?_ ?_
 · rintro i v σ H2 hv ⟨sv,rfl,s2,hno⟩
   rw [List.getElem?_map] at hv
   cases ha:as[i]? with
   | none=>rw [ha] at hv; cases hv
   | some a=>
   rw [ha] at hv
   cases hv
   have hlt:i < (squL h w).length:=by rw [← x.len]; exact (List.getElem?_eq_some_iff.mp ha).1
   have eq:(squL h w)[i]? =some (squL h w)[i]:=List.getElem?_eq_getElem hlt
   have ea:=(x.same s2).at_ i a _ ha eq
   have q4:((squL h w)[i]).length=4:=by
    obtain ⟨k,_,_,e⟩:=nQ (List.getElem_mem hlt)
    rw [e]; rfl
   have nx:rosP c z (squL h w)[i]=false→∀ (j:Nat) (q:List Int),j < i+1→(squL h w)[j]? =some q→rosP c z q=false:=fun hf j q hj hq=>by
    by_cases hji:j=i
    · subst hji
      rw [eq] at hq
      cases hq
      exact hf
    · exact hno j q (by omega) hq
   have fo:rosP c z (squL h w)[i]=true→rosL h w c z=(squL h w)[i].filter fun x=>!decide (x=z):=fun ht=>by
    have e:(squL h w).find? (rosP c z)=some (squL h w)[i]:=by
     rw [List.find?_eq_some_iff_getElem]
     refine ⟨ht,i,hlt,rfl,fun j hj=>?_⟩
     rw [hno j _ hj (List.getElem?_eq_getElem (by omega))]
     rfl
    unfold rosL
    rw [e]
   generalize (squL h w)[i]=sq at*
   unfold rosP at nx fo
   walk_at "w"
   rw [aA]
   walk_at "w"
   refine ixI ea (by decide) (by omega) ?_
   rw [show (0:Int).toNat=0 from rfl]
   walk_at "w"
   cases hb:decide (sq.getD 0 0=c) with
   | false=>
    rw [hb,Bool.false_and] at nx
    refine iteF ?_
    walk_at "w"
    exact ⟨_,rfl,s2,nx rfl⟩
   | true=>
    rw [hb,Bool.true_and] at nx fo
    refine iteT ?_
    rw [oA ea]
    cases hb2:decide (z∈sq) with
    | false=>
     rw [hb2] at nx
     refine ⟨false,rfl,?_⟩
     walk_at "w"
     exact ⟨_,rfl,s2,nx rfl⟩
    | true=>
     rw [hb2] at fo
     refine ⟨true,rfl,?_⟩
     walk_at "w"
     refine ⟨⟨_,SqL.of ea⟩,?_⟩
     refine bP (xs:=sq) (fun x=>!decide (x=z)) (fun x=>x) (by omega) (SqL.of ea) ?_ ?_ ?_
     · intro y H3 R hy s3 k3
       show tTest _ [none,some (.int y),some (.int z)] H3 R
       walk_at "w"
       exact k3 _ (Same.refl _)
     · intro y H3 Q3 hy hb s3 k3
       show tVar 1 [none,some (.int y),some (.int z)] H3 Q3
       walk_at "w"
       exact k3 _ (Same.refl _)
     · intro T H3 hT s3 eT
       rw [List.map_id',← fo rfl] at eT
       exact q T H3 ((s1.trans s2).trans s3) ((s1.trans s2).free hT) eT
 · rintro σ H2 ⟨sv,rfl,s2,hno⟩
   have e:rosL h w c z=[]:=by
    have e:(squL h w).find? (rosP c z)=none:=by
     rw [List.find?_eq_none]
     intro q hq
     obtain ⟨i,hi⟩:=List.getElem?_of_mem hq
     rw [hno i q (by rw [List.length_map,x.len]; exact (List.getElem?_eq_some_iff.mp hi).1) hi]
     decide
    unfold rosL
    rw [e]
   walk_at "w"
   refine ⟨aD (by decide),fun T hT=>?_⟩
   exact q T _ ((s1.trans s2).trans ((Same.refl H2).laid hT)) ((s1.trans s2).free hT) (by rw [ah,e]; rfl)
def squB (h w m:Int) (masks:List Int) (z s:Int) (ms:List Int):Bool:=decide (s=m)&&(decide (ms.length=1)&&(!decide (rosL h w (ms.getD 0 0) z=[])&&decide (((sgAt masks (rosL h w (ms.getD 0 0) z)).filter fun k=>decide (woI k s=0)).length=(rosL h w (ms.getD 0 0) z).length)))
def bU (K:PySem.W.Frag) (c:RCl RK):Sp:=fun vs H Q _=>∃ (k:RK) (f r p A M:Addr) (ws:List (List Nat)) (cs masks ms:List Int) (n m z s h w g:Int),vs=[.ref f,.ref r,.ref A,.int z,.int s,.ref M]∧IsFl H f h w g∧FlOk h w g∧IsRule H c k r p ws cs n m∧masks.length=(h*w).toNat∧H A=some (.lst (masks.map V.int))∧H M=some (.lst (ms.map V.int))∧s≤1000∧∀ H',Same H H'→Q (.bl (squB h w m masks z s ms)) H'
theorem nZ {K:PySem.W.Frag} {c:RCl RK} {vs:List V} {H:Hp} {Q:VK} {E:XK} (h:bU K c vs H Q E):vs.length=6:=by
 obtain ⟨_,_,_,_,_,_,_,_,_,_,_,_,_,_,_,_,_,rfl,_⟩:=h; rfl
def dS (K:PySem.W.Frag) (c:RCl RK):TS:=
 (tSeq (tAsg (tCall (bh K) [] E0 (tCons (tVar 0) (tCons (tOp cIx (tVar 5) (tC (.int 0))) (tCons (tVar 3) tNil)))) (gName 6))
  (tRet (tAndV (tOp (cNe K) (tVar 6) (tLst tNil)) (tOp (cEq K) (tCall (bS K) [] E0 (tCons (tCall (bG K) [] E0 (tCons (tVar 2) (tCons (tVar 6) tNil))) (tCons (tVar 4) tNil))) (tCB kLen (tCons (tVar 6) tNil))))))
def dl (K:PySem.W.Frag) (c:RCl RK):TS:=
 (tSeq (tIfS (tOr (tTest (tOp (cNe K) (tVar 4) (bQ c c.ok "sign" (gF K c) (tVar 1) tNil))) (tTest (tOp (cNe K) (tCB kLen (tCons (tVar 5) tNil)) (tC (.int 1))))) (tRet (tC (.bl false))) tNext)
  (dS K c))
theorem lL {K:PySem.W.Frag} {c:RCl RK} {H:Hp} {Q:VK} {f A M:Addr} {v1:V} {masks ms:List Int} {z s h w g:Int} (hf:IsFl H f h w g) (F:FlOk h w g) (hml:masks.length=(h*w).toNat) (hA:H A=some (.lst (masks.map V.int))) (hM:H M=some (.lst (ms.map V.int))) (hl:ms.length=1) (hs:s≤1000)
  (q:∀ H',Same H H'→Q (.bl (!decide (rosL h w (ms.getD 0 0) z=[])&&decide (((sgAt masks (rosL h w (ms.getD 0 0) z)).filter fun k=>decide (woI k s=0)).length=(rosL h w (ms.getD 0 0) z).length))) H'):
  dS K c { nx:=fun _ H'=>Q .non H',rt:=Q } [some (.ref f),some v1,some (.ref A),some (.int z),some (.int s),some (.ref M),none] H:=by
 have hin:=xE (c:=ms.getD 0 0) (z:=z) F hml
 unfold dS
 walk_at "w"
 refine ixI hM (by decide) (by omega) ?_
 rw [show (0:Int).toNat=0 from rfl]
 walk_at "w"
 refine ⟨f,h,w,g,_,z,rfl,hf,F,fun R H1 s1 hR eR=>?_⟩
 walk_at "w"
 refine ⟨aD (by decide),fun Z hZ=>?_⟩
 have s2:Same H1 (upd H1 Z (.lst [])):=(Same.refl H1).laid hZ
 have eZ:(upd H1 Z (.lst [])) Z=some (.lst (([]:List Int).map V.int)):=ah
 generalize upd H1 Z (.lst [])=H2 at*
 have s12:=s1.trans s2
 refine nE (s2 _ _ eR) eZ ?_
 generalize hros:rosL h w (ms.getD 0 0) z=ros at*
 cases hb:decide (ros=[]) with
 | true=>
  rw [hb,Bool.not_true] at q
  refine ⟨false,rfl,iteF ?_⟩
  exact q _ s12
 | false=>
  rw [hb,Bool.not_false] at q
  refine ⟨true,rfl,iteT ?_⟩
  walk_at "w"
  refine ⟨A,R,masks,ros,rfl,s12 _ _ hA,s2 _ _ eR,hin,fun B H3 s3 hB eB=>?_⟩
  dsimp only
  refine ⟨B,_,s,rfl,eB,by unfold sgAt; rw [List.length_map]; exact hin.1,by omega,fun H4 s4=>?_⟩
  walk_at "w"
  rw [bi (((s2.trans s3).trans s4) _ _ eR),List.length_map]
  walk_at "w"
  have q1:=q H4 ((s12.trans s3).trans s4)
  have e:decide ((((sgAt masks ros).filter fun k=>decide (woI k s=0)).length:Int)=(ros.length:Int))=decide (((sgAt masks ros).filter fun k=>decide (woI k s=0)).length=ros.length):=by
   rw [Bool.eq_iff_iff,decide_eq_true_eq,decide_eq_true_eq]; omega
  rw [e]
  exact q1
theorem n5 {K:PySem.W.Frag} {c:RCl RK} {vs:List V} {H:Hp} {Q:VK} {E:XK} (h:bU K c vs H Q E):dl K c { nx:=fun _ H'=>Q .non H',rt:=Q } (start ["floor","rule","masks","cell","sign","more","rest"] vs) H:=by
 obtain ⟨k,f,r,p,A,M,ws,cs,masks,ms,n,m,z,s,h,w,g,rfl,hf,F,x,hml,hA,hM,hs,q⟩:=h
 obtain ⟨dx,W,C,h1,h2,h3⟩:=x.ex
 show dl K c _ [some (.ref f),some (.ref r),some (.ref A),some (.int z),some (.int s),some (.ref M),none] H
 unfold dl
 rw [aP,aA]
 walk_at "w"
 refine methE (k:=k) rfl x.ok h1 (by rfl) ?_
 walk_at "w"
 refine ⟨r,p,ws,cs,n,m,rfl,x,?_⟩
 walk_at "w"
 unfold squB at q
 cases hb:decide (s=m) with
 | false=>
  rw [hb,Bool.false_and] at q
  walk_at "w"
  exact q _ (Same.refl _)
 | true=>
  rw [hb,Bool.true_and] at q
  walk_at "w"
  rw [bi hM,List.length_map]
  walk_at "w"
  have e1:decide ((ms.length:Int)=1)=decide (ms.length=1):=by
   rw [Bool.eq_iff_iff,decide_eq_true_eq,decide_eq_true_eq]; omega
  rw [e1]
  cases hb2:decide (ms.length=1) with
  | false=>
   rw [hb2,Bool.false_and] at q
   walk_at "w"
   exact q _ (Same.refl _)
  | true=>
   rw [hb2,Bool.true_and] at q
   walk_at "w"
   exact lL hf F hml hA hM (of_decide_eq_true hb2) hs q
theorem c9 (t:TK):decide (tkC t=[115,113,117,97,114,101])=decide (t=.square):=by cases t <;> decide
end L2
namespace L2
open PySem PySem.Spec PyProof.Rows
end L2
namespace L2
open PySem PySem.Spec PyProof.Rows
local macro_rules | `(tactic| walk_at "w")=>`(tactic| (first | simp only [aP,mJ,pK,j7,mL,lc,ld,pM,pI,mI,pJ,if_true,if_false,Bool.false_eq_true,decide_true,decide_false,jW,jX,nI,iH,gC,jU,k7,jV,iF,kY,kZ,iE,nF,iI,iJ,iL,iM,iN,iO,iK,k8,k9,la,kW,nH,Bool.not_true,Bool.not_false,gc,fO,cp,i9,w_c,lw,gK,gL,gd,gM,w_b,w_not,jq,lx,gN,gO,jr,ja,ge,ly,gP,js,jt,kE,ju,gQ,gR,gS,gT,fP,fQ,dt,dG,dH,cZ,jv,jw,jx,jy,jz,jA,jB,jC,jD,jE,jF,jG,lA,gU,dI,gW,lB,gX,fR,dJ,jH,jI,gY,gf,gZ,
 List.getElem?_cons_zero,List.getElem?_cons_succ,Option.some.injEq,exists_eq_left',exists_eq_left,List.set_cons_zero,List.set_cons_succ,dc,V.int.injEq,V.bl.injEq,V.ref.injEq,V.str.injEq,List.append_nil,List.nil_append,List.cons_append] | dsimp only | skip))
def dU (K:PySem.W.Frag):Sp:=fun vs H Q _=>∃ (a l:Addr) (h w g st:Int) (cs:List Int),vs=[.ref a,.ref l,.int st]∧IsFl H a h w g∧0 < w∧w < 100∧H l=some (.lst (cs.map V.int))∧cs.length≤63∧
 ∀ (p:Addr) (H':Hp) (rs:List Int),Same H H'→H p=none→H' p=some (.lst (rs.map V.int))→rs.Pairwise (· < ·)→(∀ x,x∈rs↔RC h w cs st x)→Q (.ref p) H'
theorem vX {K:PySem.W.Frag} {vs:List V} {H:Hp} {Q:VK} {E:XK} (h:dU K vs H Q E):vs.length=3:=by
 obtain ⟨_,_,_,_,_,_,_,rfl,_⟩:=h; rfl
def jR (K:PySem.W.Frag):TS:=
 (tSeq (tIfS (tTest (tOp (cIn K true) (tVar 2) (tVar 1))) (tRet (tLst tNil)) tNext)
  (tSeq (tAsg (tLst (tCons (tVar 2) tNil)) (gName 3))
  (tSeq (tAsg (tC (.int 0)) (gName 4))
  (tSeq (wy (tTest (tOp (cCmp fun i j=>decide (i < j)) (tVar 4) (tCB kLen (tCons (tVar 3) tNil))))
  (tSeq (tFor (iList K (tCall (bL K) [] E0 (tCons (tVar 0) (tCons (tOp cIx (tVar 3) (tVar 4)) tNil)))) (gName 5)
  (tIfS (tAnd (tTest (tOp (cIn K false) (tVar 5) (tVar 1))) (tTest (tOp (cIn K true) (tVar 5) (tVar 3)))) (tDrop (tBM K "list" a9 (tVar 3) (tCons (tVar 5) tNil))) tNext))
  (tAsg (tOp cAdd (tVar 4) (tC (.int 1))) (gName 4))))
  (tRet (tCB cL (tCons (tVar 3) tNil)))))))
theorem vY {K:PySem.W.Frag} {vs:List V} {H:Hp} {Q:VK} {E:XK} (h:dU K vs H Q E):jR K { nx:=fun _ H'=>Q .non H',rt:=Q } (start ["floor","cells","start","found","place","cell"] vs) H:=by
 obtain ⟨a,l,h,w,g,st,cs,rfl,ha,w0,w1,hl,hn,k⟩:=h
 show jR K _ [some (.ref a),some (.ref l),some (.int st),none,none,none] H
 unfold jR
 rw [aP,aA]
 walk_at "w"
 rw [lz hl]
 walk_at "w"
 by_cases hs:st∈cs
 · rw [if_neg (by simpa using hs)]
   walk_at "w"
   refine ⟨aD (by show (1:Nat)≤1000; decide),fun f hf=>?_⟩
   refine ⟨fun m σ H'=>∃ (fs:List Int) (pl:Nat) (cv:Option V),σ=[some (.ref a),some (.ref l),some (.int st),some (.ref f),some (.int pl),cv]∧Same H H'∧H' f=some (.lst (fs.map V.int))∧BI h w cs st fs pl∧m=cs.length - pl,
    ⟨_,[st],0,none,rfl,(Same.refl H).laid hf,ah,BI.start hs,rfl⟩,?_⟩
   rintro m σ H1 ⟨fs,pl,cv,rfl,s1,e1,B,rfl⟩
   have hfl:=B.len
   walk_at "w"
   rw [bi e1,List.length_map]
   walk_at "w"
   by_cases hp:pl < fs.length
   · rw [if_pos (by simpa using hp)]
     obtain ⟨x,hx⟩:∃ x,fs[pl]? =some x:=⟨fs[pl],by simp [hp]⟩
     have rx:RC h w cs st x:=B.rc x (List.mem_of_getElem? hx)
     refine ⟨fun σ H'=>∃ (fs:List Int) (cv:Option V),σ=[some (.ref a),some (.ref l),some (.int st),some (.ref f),some (.int ((pl:Int)+1)),cv]∧Same H H'∧H' f=some (.lst (fs.map V.int))∧BI h w cs st fs (pl+1),
      fun σ' H' ⟨fs',cv',e,s',e',B'⟩=>⟨_,by omega,fs',pl+1,cv',by rw [e]; rfl,s',e',B',rfl⟩,?_⟩
     walk_at "w"
     rw [yD e1]
     refine be (oC (by omega) (by omega)) ?_
     walk_at "w"
     rw [show ((pl:Int)).toNat=pl from Int.toNat_natCast _,nG hx]
     refine ⟨a,h,w,g,x,rfl,s1 _ _ ha,w0,w1,fun b H2 s2 hb e2=>?_⟩
     have s12:=s1.trans s2
     refine ⟨b,rfl,⟨_,SqL.of e2⟩,ln (K:=K) (xs:=(besL h w x).map V.int) (fun i σ H'=>∃ (f2:List Int) (cv:Option V),σ=[some (.ref a),some (.ref l),some (.int st),some (.ref f),some (.int pl),cv]∧Same H H'∧H' b=some (.lst ((besL h w x).map V.int))∧H' f=some (.lst (f2.map V.int))∧BJ h w cs st fs pl ((besL h w x).take i) f2)
      ⟨fs,cv,rfl,s12,e2,s2 _ _ e1,BJ.zero B⟩ (fun i σ H' _ ⟨_,_,_,_,q,_⟩=>SqL.of q) ?_ ?_⟩
     · rintro i y σ H3 hy ⟨f2,cv2,rfl,s3,eb,ef,J⟩
       rw [List.getElem?_map] at hy
       cases hz:(besL h w x)[i]? with
       | none=>rw [hz] at hy; cases hy
       | some z=>
        rw [hz] at hy
        cases hy
        have hlen2:f2.length≤63:=Nat.le_trans (lC J.nd fun x hx=>(J.rc x hx).mem) hn
        have hmem:z∈besL h w x:=List.mem_of_getElem? hz
        have htake:(besL h w x).take (i+1)=(besL h w x).take i++[z]:=by rw [List.take_add_one,hz]; rfl
        have J2:=J.more rx hmem
        rw [← htake] at J2
        walk_at "w"
        rw [aA]
        walk_at "w"
        rw [oA (s3 _ _ hl)]
        walk_at "w"
        have fin:∀ H4:Hp,H4 f=some (.lst ((addC cs f2 z).map V.int))→(∀ c,c≠f→H4 c=H3 c)→∃ (f2:List Int) (cv:Option V),[some (V.ref a),some (.ref l),some (.int st),some (.ref f),some (.int pl),some (.int z)]=[some (.ref a),some (.ref l),some (.int st),some (.ref f),some (.int pl),cv]∧Same H H4∧H4 b=some (.lst ((besL h w x).map V.int))∧H4 f=some (.lst (f2.map V.int))∧BJ h w cs st fs pl ((besL h w x).take (i+1)) f2:=fun H4 q1 q2=>
         ⟨_,_,rfl,fun c o e=>by rw [q2 c (aH e hf)]; exact s3 c o e,by rw [q2 b (fun e=>by rw [e] at hb; rw [e1] at hb; cases hb)]; exact eb,q1,J2⟩
        by_cases c1:z∈cs
        · rw [if_pos (by simpa using c1)]
          rw [lz ef]
          by_cases c2:z∈f2
          · simp only [c2,decide_true,Bool.not_true,if_neg Bool.false_ne_true,V.bl.injEq,exists_eq_left']
            refine fin H3 ?_ fun _ _=>rfl
            rw [ef,addC,if_neg (fun q=>q.2 c2)]
          · simp only [c2,decide_false,Bool.not_false,if_true,V.bl.injEq,exists_eq_left']
            walk_at "w"
            refine ⟨bn ef,?_⟩
            rw [dF ef]
            refine ⟨by rw [List.length_map]; exact aK (by omega),fin _ ?_ fun c hc=>av hc⟩
            rw [ah,addC,if_pos ⟨c1,c2⟩]
            simp
        · rw [if_neg (by simpa using c1)]
          try simp only [if_neg Bool.false_ne_true]
          refine fin H3 ?_ fun _ _=>rfl
          rw [ef,addC,if_neg (fun q=>c1 q.1)]
     · rintro σ H3 ⟨f2,cv2,rfl,s3,eb,ef,J⟩
       rw [List.length_map,List.take_length] at J
       walk_at "w"
       exact ⟨f2,cv2,rfl,s3,ef,J.done B hx⟩
   · rw [if_neg (by simpa using hp)]
     walk_at "w"
     unfold cL
     dsimp only
     rw [e1]
     refine ⟨fs,rfl,by omega,fun rs p hpn pm ps=>?_⟩
     refine k p _ rs (s1.laid hpn) (s1.free hpn) ah (w9 pm ps B.nd) fun x=>?_
     rw [pm.mem_iff]
     exact B.done hp x
 · rw [if_pos (by simpa using hs)]
   walk_at "w"
   refine ⟨Nat.zero_le _,fun p hp=>k p _ [] ((Same.refl H).laid hp) hp ah .nil fun x=>⟨(fun q=>nomatch q),fun r=>absurd (RC.st r) hs⟩⟩
noncomputable def rcB (h w:Int) (cs:List Int) (st x:Int):Bool:=@decide (RC h w cs st x) (Classical.propDecidable _)
theorem xF {h w:Int} {cs rs:List Int} {st x:Int} (hm:x∈rs↔RC h w cs st x):decide (x∈rs)=rcB h w cs st x:=by
 unfold rcB
 rw [Bool.eq_iff_iff,decide_eq_true_eq]
 exact hm.trans (@decide_eq_true_iff _ (Classical.propDecidable _)).symm
def anoB (h w:Int) (masks:List Int) (z m o:Int):Bool:=(decide (0≤o)&&decide (o < h*w))&&(!decide (o=z)&&decide (woI (masks.getD o.toNat 0) m=0))
def bd (K:PySem.W.Frag):Sp:=fun vs H Q _=>∃ (f A:Addr) (h w g z o m:Int) (masks:List Int),vs=[.ref f,.ref A,.int z,.int o,.int m]∧IsFl H f h w g∧FlOk h w g∧H A=some (.lst (masks.map V.int))∧masks.length=(h*w).toNat∧m≤1000∧Q (.bl (anoB h w masks z m o)) H
theorem kl {K:PySem.W.Frag} {vs:List V} {H:Hp} {Q:VK} {E:XK} (h:bd K vs H Q E):vs.length=5:=by
 obtain ⟨_,_,_,_,_,_,_,_,_,rfl,_⟩:=h; rfl
def b2 (K:PySem.W.Frag):TS:=
 (tRet (tAndV (tCall (c7 K) [] E0 (tCons (tVar 0) (tCons (tVar 3) tNil))) (tAndV (tOp (cNe K) (tVar 3) (tVar 2)) (tCall (br K) [] E0 (tCons (tOp cIx (tVar 1) (tVar 3)) (tCons (tVar 4) tNil))))))
theorem km {K:PySem.W.Frag} {vs:List V} {H:Hp} {Q:VK} {E:XK} (h:bd K vs H Q E):b2 K { nx:=fun _ H'=>Q .non H',rt:=Q } (start ["floor","masks","cell","other","mark"] vs) H:=by
 obtain ⟨f,A,h,w,g,z,o,m,masks,rfl,hf,F,hA,hml,hm,q⟩:=h
 show b2 K _ [some (.ref f),some (.ref A),some (.int z),some (.int o),some (.int m)] H
 unfold b2
 walk_at "w"
 refine ⟨f,h,w,g,o,rfl,hf,F,?_⟩
 unfold anoB at q
 cases hb:(decide (0≤o)&&decide (o < h*w)) with
 | false=>
  rw [hb,Bool.false_and] at q
  exact ⟨false,rfl,iteF q⟩
 | true=>
  rw [hb,Bool.true_and] at q
  rw [Bool.and_eq_true,decide_eq_true_eq,decide_eq_true_eq] at hb
  refine ⟨true,rfl,iteT ?_⟩
  walk_at "w"
  cases hb2:decide (o=z) with
  | true=>
   rw [hb2,Bool.not_true,Bool.false_and] at q
   walk_at "w"
   exact q
  | false=>
   rw [hb2,Bool.not_false,Bool.true_and] at q
   walk_at "w"
   refine ixI hA hb.1 (by omega) ?_
   walk_at "w"
   exact ⟨_,m,rfl,by omega,q⟩
def thrL (cs masks:List Int) (m z:Int):List Int:=(cs.filter fun x=>!decide (x=z)).filter fun x=>stB (masks.getD x.toNat 0) m
noncomputable def reaB (h w:Int) (cs:List Int) (m:Int) (masks:List Int) (z s:Int) (ms:List Int):Bool:=
 (ms.all fun o=>anoB h w masks z m o)&&(if s=m then decide (ms.length=1)&&!rcB h w (thrL cs masks m z++[z]) z (ms.getD 0 0)
  else decide (ms.length=2)&&(!decide (ms.getD 0 0=ms.getD 1 0)&&!rcB h w (thrL cs masks m z) (ms.getD 0 0) (ms.getD 1 0)))
def b8 (K:PySem.W.Frag) (c:RCl RK):Sp:=fun vs H Q _=>∃ (k:RK) (f r p A M:Addr) (ws:List (List Nat)) (cs masks ms:List Int) (n m z s h w g:Int),vs=[.ref f,.ref r,.ref A,.int z,.int s,.ref M]∧IsFl H f h w g∧FlOk h w g∧IsRule H c k r p ws cs n m∧b4 cs masks.length∧cs.length≤60∧masks.length=(h*w).toNat∧H A=some (.lst (masks.map V.int))∧H M=some (.lst (ms.map V.int))∧ms.length≤100∧m≤1000∧∀ H',Same H H'→Q (.bl (reaB h w cs m masks z s ms)) H'
theorem oT {K:PySem.W.Frag} {c:RCl RK} {vs:List V} {H:Hp} {Q:VK} {E:XK} (h:b8 K c vs H Q E):vs.length=6:=by
 obtain ⟨_,_,_,_,_,_,_,_,_,_,_,_,_,_,_,_,_,rfl,_⟩:=h; rfl
def ei (K:PySem.W.Frag) (c:RCl RK):TS:=
 (tSeq (tIfS (tTest (tOp (cEq K) (tVar 4) (tVar 6))) (tRet (tAndV (tOp (cEq K) (tCB kLen (tCons (tVar 5) tNil)) (tC (.int 1))) (tOp (cIn K true) (tOp cIx (tVar 5) (tC (.int 0))) (tCall (dU K) [] E0 (tCons (tVar 0) (tCons (tOp cAdd (tVar 7) (tLst (tCons (tVar 3) tNil))) (tCons (tVar 3) tNil))))))) tNext)
  (tSeq (tIfS (tOr (tTest (tOp (cNe K) (tCB kLen (tCons (tVar 5) tNil)) (tC (.int 2)))) (tTest (tOp (cEq K) (tOp cIx (tVar 5) (tC (.int 0))) (tOp cIx (tVar 5) (tC (.int 1)))))) (tRet (tC (.bl false))) tNext)
  (tRet (tOp (cIn K true) (tOp cIx (tVar 5) (tC (.int 1))) (tCall (dU K) [] E0 (tCons (tVar 0) (tCons (tVar 7) (tCons (tOp cIx (tVar 5) (tC (.int 0))) tNil))))))))
def em (K:PySem.W.Frag) (c:RCl RK):TS:=
 (tSeq (sComp 7 [none,none,some 6,some 2] (iList K (tCall (bB K c) [] E0 (tCons (tVar 1) (tCons (tVar 3) tNil)))) (gName 1) (tB (tCall (bW K) [] E0 (tCons (tOp cIx (tVar 3) (tVar 1)) (tCons (tVar 2) tNil)))) (tVar 1))
  (ei K c))
def dW (K:PySem.W.Frag) (c:RCl RK):TS:=
 (tSeq (tAsg (bQ c c.ok "sign" (gF K c) (tVar 1) tNil) (gName 6))
  (tSeq (tIfS (tNot (tB (tCB kAll (tCons (tComp [none,none,some 3,some 0,some 6,some 2] (iList K (tVar 5)) (gName 1) tTrue (tCall (bd K) [] E0 (tCons (tVar 3) (tCons (tVar 5) (tCons (tVar 2) (tCons (tVar 1) (tCons (tVar 4) tNil))))))) tNil)))) (tRet (tC (.bl false))) tNext)
  (em K c)))
theorem md {K:PySem.W.Frag} {c:RCl RK} {H:Hp} {Q:VK} {f A M N:Addr} {v1:V} {T ms:List Int} {m z s h w g:Int} (hf:IsFl H f h w g) (F:FlOk h w g) (hM:H M=some (.lst (ms.map V.int))) (hN:H N=some (.lst (T.map V.int))) (hT:T.length≤60)
  (q:∀ H',Same H H'→Q (.bl (if s=m then decide (ms.length=1)&&!rcB h w (T++[z]) z (ms.getD 0 0) else decide (ms.length=2)&&(!decide (ms.getD 0 0=ms.getD 1 0)&&!rcB h w T (ms.getD 0 0) (ms.getD 1 0)))) H'):
  ei K c { nx:=fun _ H'=>Q .non H',rt:=Q } [some (.ref f),some v1,some (.ref A),some (.int z),some (.int s),some (.ref M),some (.int m),some (.ref N)] H:=by
 have w0:=F.w0
 have w1:=F.w1
 unfold ei
 rw [aP,aA]
 walk_at "w"
 by_cases hs:s=m
 · rw [if_pos hs] at q
   rw [decide_eq_true hs]
   walk_at "w"
   rw [bi hM,List.length_map]
   walk_at "w"
   have e1:decide ((ms.length:Int)=1)=decide (ms.length=1):=by
    rw [Bool.eq_iff_iff,decide_eq_true_eq,decide_eq_true_eq]; omega
   rw [e1]
   cases hb:decide (ms.length=1) with
   | false=>
    rw [hb,Bool.false_and] at q
    walk_at "w"
    exact q _ (Same.refl _)
   | true=>
    rw [hb,Bool.true_and] at q
    have hl:=of_decide_eq_true hb
    walk_at "w"
    refine ixI hM (by decide) (by omega) ?_
    rw [show (0:Int).toNat=0 from rfl]
    walk_at "w"
    refine ⟨aD (by show (1:Nat)≤1000; decide),fun l hl2=>?_⟩
    have s1:Same H (upd H l (.lst [V.int z])):=(Same.refl H).laid hl2
    have el:(upd H l (.lst [V.int z])) l=some (.lst [V.int z]):=ah
    generalize upd H l (.lst [V.int z])=H1 at*
    refine lb (s1 _ _ hN) el (by simp; omega) fun Y hY=>?_
    have s2:Same H1 (upd H1 Y (.lst (T.map V.int++[V.int z]))):=(Same.refl H1).laid hY
    have eY:(upd H1 Y (.lst (T.map V.int++[V.int z]))) Y=some (.lst ((T++[z]).map V.int)):=by rw [ah]; simp
    generalize upd H1 Y (.lst (T.map V.int++[V.int z]))=H2 at*
    have s12:=s1.trans s2
    walk_at "w"
    refine ⟨f,Y,h,w,g,z,_,rfl,s12 _ _ hf,by omega,by omega,eY,by simp; omega,fun p H3 rs s3 hp ep _ hx=>?_⟩
    dsimp only
    rw [lz ep,xF (hx _)]
    exact q _ (s12.trans s3)
 · rw [if_neg hs] at q
   rw [decide_eq_false hs]
   walk_at "w"
   rw [aA]
   walk_at "w"
   rw [bi hM,List.length_map]
   walk_at "w"
   have e1:decide ((ms.length:Int)=2)=decide (ms.length=2):=by
    rw [Bool.eq_iff_iff,decide_eq_true_eq,decide_eq_true_eq]; omega
   rw [e1]
   cases hb:decide (ms.length=2) with
   | false=>
    rw [hb,Bool.false_and] at q
    walk_at "w"
    exact q _ (Same.refl _)
   | true=>
    rw [hb,Bool.true_and] at q
    have hl:=of_decide_eq_true hb
    walk_at "w"
    refine ixI hM (by decide) (by omega) ?_
    rw [show (0:Int).toNat=0 from rfl]
    walk_at "w"
    refine ixI hM (by decide) (by omega) ?_
    rw [show (1:Int).toNat=1 from rfl]
    walk_at "w"
    cases hb2:decide (ms.getD 0 0=ms.getD 1 0) with
    | true=>
     rw [hb2,Bool.not_true,Bool.false_and] at q
     walk_at "w"
     exact q _ (Same.refl _)
    | false=>
     rw [hb2,Bool.not_false,Bool.true_and] at q
     walk_at "w"
     refine ixI hM (by decide) (by omega) ?_
     rw [show (1:Int).toNat=1 from rfl]
     walk_at "w"
     refine ixI hM (by decide) (by omega) ?_
     rw [show (0:Int).toNat=0 from rfl]
     walk_at "w"
     refine ⟨f,N,h,w,g,_,_,rfl,hf,by omega,by omega,hN,by omega,fun p H3 rs s3 hp ep _ hx=>?_⟩
     dsimp only
     rw [lz ep,xF (hx _)]
     exact q _ s3
theorem me {K:PySem.W.Frag} {c:RCl RK} {H:Hp} {Q:VK} {k:RK} {f r p A M:Addr} {ws:List (List Nat)} {cs masks ms:List Int} {n m z s h w g:Int} (hf:IsFl H f h w g) (F:FlOk h w g) (x:IsRule H c k r p ws cs n m) (hC:b4 cs masks.length) (hml:masks.length=(h*w).toNat) (hA:H A=some (.lst (masks.map V.int))) (hM:H M=some (.lst (ms.map V.int)))
  (q:∀ H',Same H H'→Q (.bl (if s=m then decide (ms.length=1)&&!rcB h w (thrL cs masks m z++[z]) z (ms.getD 0 0) else decide (ms.length=2)&&(!decide (ms.getD 0 0=ms.getD 1 0)&&!rcB h w (thrL cs masks m z) (ms.getD 0 0) (ms.getD 1 0)))) H') (hcs:cs.length≤60):
  em K c { nx:=fun _ H'=>Q .non H',rt:=Q } [some (.ref f),some (.ref r),some (.ref A),some (.int z),some (.int s),some (.ref M),some (.int m),none] H:=by
 unfold em
 walk_at "w"
 refine ⟨k,r,p,ws,cs,n,m,z,rfl,x,hC.1,fun O H1 s1 hO eO=>?_⟩
 have hfl:=List.length_filter_le (fun x=>!decide (x=z)) cs
 refine ⟨O,rfl,⟨_,SqL.of eO⟩,?_⟩
 refine bP (xs:=cs.filter fun x=>!decide (x=z)) (fun x=>stB (masks.getD x.toNat 0) m) (fun x=>x) (by omega) (SqL.of eO) ?_ ?_ ?_
 · intro y H2 R hy s2 k2
   have hyc:=hC.2 y (List.mem_filter.mp hy).1
   show tB _ [none,some (.int y),some (.int m),some (.ref A)] H2 R
   walk_at "w"
   refine ixI ((s1.trans s2) _ _ hA) hyc.1 hyc.2 ?_
   walk_at "w"
   exact ⟨_,m,rfl,_,rfl,k2 _ (Same.refl _)⟩
 · intro y H2 Q2 hy hb s2 k2
   show tVar 1 [none,some (.int y),some (.int m),some (.ref A)] H2 Q2
   walk_at "w"
   exact k2 _ (Same.refl _)
 · intro N H2 hN s2 eN
   rw [List.map_id'] at eN
   have s12:=s1.trans s2
   walk_at "w"
   refine md (s12 _ _ hf) F (s12 _ _ hM) (T:=thrL cs masks m z) eN ?_ fun H' s3=>q H' (s12.trans s3)
   unfold thrL
   have:=List.length_filter_le (fun x=>stB (masks.getD x.toNat 0) m) (cs.filter fun x=>!decide (x=z))
   omega
theorem oU {K:PySem.W.Frag} {c:RCl RK} {vs:List V} {H:Hp} {Q:VK} {E:XK} (h:b8 K c vs H Q E):dW K c { nx:=fun _ H'=>Q .non H',rt:=Q } (start ["floor","rule","masks","cell","sign","more","mark","through"] vs) H:=by
 obtain ⟨k,f,r,p,A,M,ws,cs,masks,ms,n,m,z,s,h,w,g,rfl,hf,F,x,hC,hcs,hml,hA,hM,hmn,hm,q⟩:=h
 obtain ⟨dx,W,C,h1,h2,h3⟩:=x.ex
 show dW K c _ [some (.ref f),some (.ref r),some (.ref A),some (.int z),some (.int s),some (.ref M),none,none] H
 unfold dW
 rw [aP,fO]
 refine methE (k:=k) rfl x.ok h1 (by rfl) ?_
 walk_at "w"
 refine ⟨r,p,ws,cs,n,m,rfl,x,?_⟩
 walk_at "w"
 rw [aA]
 walk_at "w"
 refine ⟨⟨_,SqL.of hM⟩,?_⟩
 refine dL (xs:=ms.map V.int) (fun _=>true) (fun i=>.bl (anoB h w masks z m (ms.getD i 0))) (by rw [List.length_map]; omega) (SqL.of hM) ?_ ?_ ?_
 · intro i y H1 R hy s1 k1
   exact k1 _ (Same.refl _)
 · intro i y H1 Q1 hy hb s1 k1
   obtain ⟨v,hv,rfl⟩:=gh hy
   have eg:ms.getD i 0=v:=by rw [List.getD,hv]; rfl
   rw [eg] at k1
   show tCall _ _ _ _ [none,some (.int v),some (.int z),some (.ref f),some (.int m),some (.ref A)] H1 Q1
   walk_at "w"
   exact ⟨f,A,h,w,g,z,v,m,masks,rfl,s1 _ _ hf,F,s1 _ _ hA,hml,hm,k1 _ (Same.refl _)⟩
 · intro l H1 hl s1 el
   have eb:((List.range (ms.map V.int).length).filter fun _=>true).map (fun i=>V.bl (anoB h w masks z m (ms.getD i 0)))=(ms.map fun o=>anoB h w masks z m o).map V.bl:=by
    rw [fD,List.length_map,List.map_map]
    refine List.ext_getElem (by simp) fun i h1 h2=>?_
    have hi:i < ms.length:=by simpa using h2
    simp [List.getD,List.getElem?_eq_getElem hi]
   rw [eb] at el
   refine sk el ?_
   have ea:(ms.map fun o=>anoB h w masks z m o).all id=ms.all fun o=>anoB h w masks z m o:=by rw [List.all_map]; rfl
   rw [ea]
   unfold reaB at q
   cases hb:(ms.all fun o=>anoB h w masks z m o) with
   | false=>
    rw [hb,Bool.false_and] at q
    refine ⟨false,rfl,?_⟩
    walk_at "w"
    exact q _ s1
   | true=>
    rw [hb,Bool.true_and] at q
    refine ⟨true,rfl,?_⟩
    walk_at "w"
    exact me (s1 _ _ hf) F (x.same s1) hC hml (s1 _ _ hA) (s1 _ _ hM) (fun H' s2=>q H' (s1.trans s2)) hcs
theorem xG {k:RK} (h:goesB .reach k=true):sgnK k=true:=by cases k <;> first | rfl | cases h
theorem RR.len26 {r:RR} {h w g:Int} (O:r.Ok h w g) (F:FlOk h w g):r.cs.length≤60:=by
 have m16:=F.m
 cases hk:allK r.k with
 | false=>
  obtain ⟨c1,c2,c3,c4,e⟩:=O.cl.told hk
  rw [e,List.length_map]; omega
 | true=>
  obtain ⟨_,e⟩:=O.cl.all hk
  rw [e,iG]; omega
def xH (p:Int→Int→Bool):Bool:=(List.range 7).all fun (h:Nat)=>(List.range 7).all fun (w:Nat)=>!(decide (1≤h)&&decide (1≤w)&&decide (h*w≤16))||p h w
theorem xI {p:Int→Int→Bool} (a:xH p=true) {h w g:Int} (F:FlOk h w g):p h w=true:=by
 obtain ⟨h0,h1,w0,w1,m16,g0,g1⟩:=F
 obtain ⟨n,rfl⟩:=Int.eq_ofNat_of_zero_le (show 0≤h by omega)
 obtain ⟨m,rfl⟩:=Int.eq_ofNat_of_zero_le (show 0≤w by omega)
 have a1:=List.all_eq_true.mp a n (List.mem_range.mpr (by omega))
 have a2:=List.all_eq_true.mp a1 m (List.mem_range.mpr (by omega))
 have e1:1≤n:=by omega
 have e2:1≤m:=by omega
 have e3:n*m≤16:=by have:((n*m:Nat):Int)≤16:=by rw [Int.natCast_mul]; exact m16
                    omega
 simpa [e1,e2,e3] using a2
def nearS (h w d r:Int):List Int:=if (decide (0≤d)&&decide (d < h))&&(decide (0≤r)&&decide (r < w)) then [d*w+r] else []
def nearP (w c:Int):List (Int × Int):=[(c / w - 1,c % w),(c / w,c % w - 1),(c / w,c % w+1),(c / w+1,c % w)]
def nearL (h w c:Int):List Int:=(nearP w c).flatMap fun p=>nearS h w p.1 p.2
theorem vZ:xH (fun h w=>(List.range (h*w).toNat).all fun (c:Nat)=>decide (nearL h w c=besL h w c)&&(besL h w c).all fun x=>decide (0≤x)&&decide (x < h*w))=true:=by decide+kernel
theorem fJ {h w g c:Int} (F:FlOk h w g) (c0:0≤c) (c1:c < h*w):nearL h w c=besL h w c∧∀ x∈besL h w c,0≤x∧x < h*w:=by
 have t:=List.all_eq_true.mp (xI vZ F) c.toNat (List.mem_range.mpr (by omega))
 have e1:((c.toNat:Nat):Int)=c:=by omega
 rw [e1,Bool.and_eq_true,decide_eq_true_eq,List.all_eq_true] at t
 refine ⟨t.1,fun x hx=>?_⟩
 have:=t.2 x hx
 simpa using this
theorem tQ {h w g c:Int} {n:Nat} (F:FlOk h w g) (c0:0≤c) (c1:c < h*w) (hn:n=(h*w).toNat):b4 (besL h w c) n:=by
 refine ⟨Nat.le_trans (sO ..) (by decide),fun x hx=>?_⟩
 have:=(fJ F c0 c1).2 x hx
 omega
def arL (h w o z:Int):List Int:=(besL h w o).filter fun x=>!decide (x=z)
def dE (K:PySem.W.Frag):Sp:=fun vs H Q _=>∃ (a:Addr) (h w g o z:Int),vs=[.ref a,.int o,.int z]∧IsFl H a h w g∧FlOk h w g∧∀ l H',Same H H'→H l=none→H' l=some (.lst ((arL h w o z).map V.int))→Q (.ref l) H'
theorem xJ {K:PySem.W.Frag} {vs:List V} {H:Hp} {Q:VK} {E:XK} (h:dE K vs H Q E):vs.length=3:=by
 obtain ⟨_,_,_,_,_,_,rfl,_⟩:=h; rfl
def kC (K:PySem.W.Frag):TS:=
 (tRet (tComp [none,none,some 2] (iList K (tCall (bL K) [] E0 (tCons (tVar 0) (tCons (tVar 1) tNil)))) (gName 1) (tTest (tOp (cNe K) (tVar 1) (tVar 2))) (tVar 1)))
theorem xK {K:PySem.W.Frag} {vs:List V} {H:Hp} {Q:VK} {E:XK} (h:dE K vs H Q E):kC K { nx:=fun _ H'=>Q .non H',rt:=Q } (start ["floor","middle","cell"] vs) H:=by
 obtain ⟨a,h,w,g,o,z,rfl,ha,F,q⟩:=h
 have w0:=F.w0
 have w1:=F.w1
 show kC K _ [some (.ref a),some (.int o),some (.int z)] H
 unfold kC
 rw [gK,dt]
 walk_at "w"
 refine ⟨a,h,w,g,o,rfl,ha,by omega,by omega,fun l H1 s1 hl el=>?_⟩
 have hb:=sO h w o
 refine ⟨l,rfl,⟨_,SqL.of el⟩,?_⟩
 refine bP (xs:=besL h w o) (fun x=>!decide (x=z)) (fun x=>x) (by omega) (SqL.of el) ?_ ?_ ?_
 · intro y H2 R hy s2 k2
   show tTest _ [none,some (.int y),some (.int z)] H2 R
   walk_at "w"
   exact k2 _ (Same.refl _)
 · intro y H2 Q2 hy hb s2 k2
   show tVar 1 [none,some (.int y),some (.int z)] H2 Q2
   walk_at "w"
   exact k2 _ (Same.refl _)
 · intro T H2 hT s2 eT
   rw [List.map_id'] at eT
   exact q T H2 (s1.trans s2) (s1.free hT) eT
def mayN (masks:List Int) (m:Int) (cs:List Int):Nat:=((sgAt masks cs).filter fun k=>stB k m).length
def onlN (masks:List Int) (m:Int) (cs:List Int):Nat:=((sgAt masks cs).filter fun k=>decide (woI k m=0)).length
def turnB (h w m:Int) (masks:List Int) (z s:Int) (ms:List Int):Bool:=
 if ms=[] then decide (s=m)&&(decide ((mayN masks m (besL h w z):Int) < 2)||decide ((2:Int) < (onlN masks m (besL h w z):Int)))
 else decide (ms.length=1)&&(decide (ms.getD 0 0∈besL h w z)&&(decide (woI (masks.getD (ms.getD 0 0).toNat 0) m=0)&&
  (if s=m then decide ((2:Int)≤(onlN masks m (arL h w (ms.getD 0 0) z):Int)) else decide ((mayN masks m (arL h w (ms.getD 0 0) z):Int) < 2))))
def cA (K:PySem.W.Frag) (c:RCl RK):Sp:=fun vs H Q _=>∃ (k:RK) (f r p A M:Addr) (ws:List (List Nat)) (cs masks ms:List Int) (n m z s h w g:Int),vs=[.ref f,.ref r,.ref A,.int z,.int s,.ref M]∧IsFl H f h w g∧FlOk h w g∧IsRule H c k r p ws cs n m∧masks.length=(h*w).toNat∧H A=some (.lst (masks.map V.int))∧H M=some (.lst (ms.map V.int))∧m≤1000∧0≤z∧z < h*w∧∀ H',Same H H'→Q (.bl (turnB h w m masks z s ms)) H'
theorem qm {K:PySem.W.Frag} {c:RCl RK} {vs:List V} {H:Hp} {Q:VK} {E:XK} (h:cA K c vs H Q E):vs.length=6:=by
 obtain ⟨_,_,_,_,_,_,_,_,_,_,_,_,_,_,_,_,_,rfl,_⟩:=h; rfl
def fK (K:PySem.W.Frag) (c:RCl RK):TS:=
 (tSeq (tAsg (tCall (bG K) [] E0 (tCons (tVar 2) (tCons (tCall (dE K) [] E0 (tCons (tVar 0) (tCons (tOp cIx (tVar 5) (tC (.int 0))) (tCons (tVar 3) tNil)))) tNil))) (gName 7))
  (tSeq (tIfS (tTest (tOp (cEq K) (tVar 4) (tVar 6))) (tRet (tOp (cCmp fun i j=>decide (j≤i)) (tCall (bS K) [] E0 (tCons (tVar 7) (tCons (tVar 6) tNil))) (tC (.int 2)))) tNext)
  (tRet (tOp (cCmp fun i j=>decide (i < j)) (tCall (cf K) [] E0 (tCons (tVar 7) (tCons (tVar 6) tNil))) (tC (.int 2))))))
def fM (K:PySem.W.Frag) (c:RCl RK):TS:=
 (tSeq (tIfS (tOr (tTest (tOp (cNe K) (tCB kLen (tCons (tVar 5) tNil)) (tC (.int 1)))) (tOr (tTest (tOp (cIn K true) (tOp cIx (tVar 5) (tC (.int 0))) (tCall (bL K) [] E0 (tCons (tVar 0) (tCons (tVar 3) tNil))))) (tNot (tB (tCall (br K) [] E0 (tCons (tOp cIx (tVar 2) (tOp cIx (tVar 5) (tC (.int 0)))) (tCons (tVar 6) tNil))))))) (tRet (tC (.bl false))) tNext)
  (fK K c))
def fq (K:PySem.W.Frag) (c:RCl RK):TS:=
 (tSeq (tAsg (bQ c c.ok "sign" (gF K c) (tVar 1) tNil) (gName 6))
  (tSeq (tIfS (tTest (tOp (cEq K) (tVar 5) (tLst tNil))) (tSeq (tAsg (tCall (bG K) [] E0 (tCons (tVar 2) (tCons (tCall (bL K) [] E0 (tCons (tVar 0) (tCons (tVar 3) tNil))) tNil))) (gName 7))
  (tRet (tAndV (tOp (cEq K) (tVar 4) (tVar 6)) (tOrV (tOp (cCmp fun i j=>decide (i < j)) (tCall (cf K) [] E0 (tCons (tVar 7) (tCons (tVar 6) tNil))) (tC (.int 2))) (tOp (cCmp fun i j=>decide (j < i)) (tCall (bS K) [] E0 (tCons (tVar 7) (tCons (tVar 6) tNil))) (tC (.int 2))))))) tNext)
  (fM K c)))
theorem mS {K:PySem.W.Frag} {c:RCl RK} {H:Hp} {Q:VK} {f A M:Addr} {v1:V} {masks ms:List Int} {m z s h w g:Int} (hf:IsFl H f h w g) (F:FlOk h w g) (hml:masks.length=(h*w).toNat) (hA:H A=some (.lst (masks.map V.int))) (hM:H M=some (.lst (ms.map V.int))) (hl:ms.length=1) (hm:m≤1000) (z0:0≤z) (z1:z < h*w) (ho:ms.getD 0 0∈besL h w z)
  (q:∀ H',Same H H'→Q (.bl (if s=m then decide ((2:Int)≤(onlN masks m (arL h w (ms.getD 0 0) z):Int)) else decide ((mayN masks m (arL h w (ms.getD 0 0) z):Int) < 2))) H'):
  fK K c { nx:=fun _ H'=>Q .non H',rt:=Q } [some (.ref f),some v1,some (.ref A),some (.int z),some (.int s),some (.ref M),some (.int m),none] H:=by
 have oin:=(fJ F z0 z1).2 _ ho
 have bin:=tQ (n:=masks.length) F oin.1 oin.2 hml
 have hin:b4 (arL h w (ms.getD 0 0) z) masks.length:=⟨Nat.le_trans (List.length_filter_le _ _) bin.1,fun x hx=>bin.2 x (List.mem_filter.mp hx).1⟩
 unfold fK
 walk_at "w"
 refine ixI hM (by decide) (by omega) ?_
 rw [show (0:Int).toNat=0 from rfl]
 walk_at "w"
 refine ⟨f,h,w,g,_,z,rfl,hf,F,fun R H1 s1 hR eR=>?_⟩
 walk_at "w"
 refine ⟨A,R,masks,_,rfl,s1 _ _ hA,eR,hin,fun B H3 s3 hB eB=>?_⟩
 have hlen:(sgAt masks (arL h w (ms.getD 0 0) z)).length≤63:=by unfold sgAt; rw [List.length_map]; exact hin.1
 walk_at "w"
 rw [aA]
 walk_at "w"
 by_cases hs:s=m
 · rw [decide_eq_true hs]
   rw [if_pos hs] at q
   walk_at "w"
   refine ⟨B,_,_,rfl,eB,hlen,by omega,fun H4 s4=>?_⟩
   walk_at "w"
   exact q _ ((s1.trans s3).trans s4)
 · rw [decide_eq_false hs]
   rw [if_neg hs] at q
   walk_at "w"
   refine ⟨B,_,_,rfl,eB,hlen,fun H4 s4=>?_⟩
   walk_at "w"
   exact q _ ((s1.trans s3).trans s4)
theorem mT {K:PySem.W.Frag} {c:RCl RK} {H:Hp} {Q:VK} {f A M:Addr} {v1:V} {masks ms:List Int} {m z s h w g:Int} (hf:IsFl H f h w g) (F:FlOk h w g) (hml:masks.length=(h*w).toNat) (hA:H A=some (.lst (masks.map V.int))) (hM:H M=some (.lst (ms.map V.int))) (hm:m≤1000) (z0:0≤z) (z1:z < h*w)
  (q:∀ H',Same H H'→Q (.bl (decide (ms.length=1)&&(decide (ms.getD 0 0∈besL h w z)&&(decide (woI (masks.getD (ms.getD 0 0).toNat 0) m=0)&&(if s=m then decide ((2:Int)≤(onlN masks m (arL h w (ms.getD 0 0) z):Int)) else decide ((mayN masks m (arL h w (ms.getD 0 0) z):Int) < 2)))))) H'):
  fM K c { nx:=fun _ H'=>Q .non H',rt:=Q } [some (.ref f),some v1,some (.ref A),some (.int z),some (.int s),some (.ref M),some (.int m),none] H:=by
 have w0:=F.w0
 have w1:=F.w1
 unfold fM
 rw [aP,aA]
 walk_at "w"
 rw [bi hM,List.length_map]
 walk_at "w"
 have e1:decide ((ms.length:Int)=1)=decide (ms.length=1):=by
  rw [Bool.eq_iff_iff,decide_eq_true_eq,decide_eq_true_eq]; omega
 rw [e1]
 cases hb:decide (ms.length=1) with
 | false=>
  rw [hb,Bool.false_and] at q
  walk_at "w"
  exact q _ (Same.refl _)
 | true=>
  rw [hb,Bool.true_and] at q
  have hl:=of_decide_eq_true hb
  walk_at "w"
  refine ixI hM (by decide) (by omega) ?_
  rw [show (0:Int).toNat=0 from rfl]
  walk_at "w"
  refine ⟨f,h,w,g,z,rfl,hf,by omega,by omega,fun R H1 s1 hR eR=>?_⟩
  dsimp only
  rw [lz eR]
  cases hb2:decide (ms.getD 0 0∈besL h w z) with
  | false=>
   rw [hb2,Bool.false_and] at q
   refine ⟨true,rfl,iteT ?_⟩
   walk_at "w"
   exact q _ s1
  | true=>
   rw [hb2,Bool.true_and] at q
   have ho:=of_decide_eq_true hb2
   have oin:=(fJ F z0 z1).2 _ ho
   refine ⟨false,rfl,iteF ?_⟩
   walk_at "w"
   refine ixI (s1 _ _ hM) (by decide) (by omega) ?_
   rw [show (0:Int).toNat=0 from rfl]
   walk_at "w"
   refine ixI (s1 _ _ hA) (by omega) (by omega) ?_
   walk_at "w"
   refine ⟨_,m,rfl,by omega,?_⟩
   cases hb3:decide (woI (masks.getD (ms.getD 0 0).toNat 0) m=0) with
   | false=>
    rw [hb3,Bool.false_and] at q
    refine ⟨false,rfl,iteT ?_⟩
    walk_at "w"
    exact q _ s1
   | true=>
    rw [hb3,Bool.true_and] at q
    refine ⟨true,rfl,iteF ?_⟩
    exact mS (s1 _ _ hf) F hml (s1 _ _ hA) (s1 _ _ hM) hl hm z0 z1 ho fun H' s2=>q H' (s1.trans s2)
theorem qo {K:PySem.W.Frag} {c:RCl RK} {vs:List V} {H:Hp} {Q:VK} {E:XK} (h:cA K c vs H Q E):fq K c { nx:=fun _ H'=>Q .non H',rt:=Q } (start ["floor","rule","masks","cell","sign","more","mark","some"] vs) H:=by
 obtain ⟨k,f,r,p,A,M,ws,cs,masks,ms,n,m,z,s,h,w,g,rfl,hf,F,x,hml,hA,hM,hm,z0,z1,q⟩:=h
 obtain ⟨dx,W,C,h1,h2,h3⟩:=x.ex
 have w0:=F.w0
 have w1:=F.w1
 show fq K c _ [some (.ref f),some (.ref r),some (.ref A),some (.int z),some (.int s),some (.ref M),none,none] H
 unfold fq
 rw [aP,fO]
 refine methE (k:=k) rfl x.ok h1 (by rfl) ?_
 walk_at "w"
 refine ⟨r,p,ws,cs,n,m,rfl,x,?_⟩
 walk_at "w"
 rw [aA]
 walk_at "w"
 refine ⟨aD (by decide),fun Z hZ=>?_⟩
 have s1:Same H (upd H Z (.lst [])):=(Same.refl H).laid hZ
 have eZ:(upd H Z (.lst [])) Z=some (.lst (([]:List Int).map V.int)):=ah
 generalize upd H Z (.lst [])=H1 at*
 refine nD (s1 _ _ hM) eZ ?_
 unfold turnB at q
 by_cases hms:ms=[]
 · rw [if_pos hms] at q
   rw [decide_eq_true hms]
   refine ⟨true,rfl,?_⟩
   walk_at "w"
   refine ⟨f,h,w,g,z,rfl,s1 _ _ hf,by omega,by omega,fun R H2 s2 hR eR=>?_⟩
   have bin:=tQ (n:=masks.length) F z0 z1 hml
   walk_at "w"
   refine ⟨A,R,masks,_,rfl,(s1.trans s2) _ _ hA,eR,bin,fun B H3 s3 hB eB=>?_⟩
   have hlen:(sgAt masks (besL h w z)).length≤63:=by unfold sgAt; rw [List.length_map]; exact bin.1
   have s13:=(s1.trans s2).trans s3
   walk_at "w"
   cases hb:decide (s=m) with
   | false=>
    rw [hb,Bool.false_and] at q
    walk_at "w"
    exact q _ s13
   | true=>
    rw [hb,Bool.true_and] at q
    walk_at "w"
    refine ⟨B,_,_,rfl,eB,hlen,fun H4 s4=>?_⟩
    walk_at "w"
    have e1:decide ((((sgAt masks (besL h w z)).filter fun k=>stB k m).length:Int) < 2)=decide ((mayN masks m (besL h w z):Int) < 2):=rfl
    rw [e1]
    cases hb2:decide ((mayN masks m (besL h w z):Int) < 2) with
    | true=>
     rw [hb2,Bool.true_or] at q
     walk_at "w"
     exact q _ (s13.trans s4)
    | false=>
     rw [hb2,Bool.false_or] at q
     walk_at "w"
     refine ⟨B,_,_,rfl,s4 _ _ eB,hlen,by omega,fun H5 s5=>?_⟩
     walk_at "w"
     exact q _ ((s13.trans s4).trans s5)
 · rw [if_neg hms] at q
   rw [decide_eq_false hms]
   refine ⟨false,rfl,?_⟩
   walk_at "w"
   exact mT (s1 _ _ hf) F hml (s1 _ _ hA) (s1 _ _ hM) hm z0 z1 fun H' s2=>q H' (s1.trans s2)
theorem cO (t:TK):decide (tkC t=[114,101,97,99,104])=decide (t=.reach):=by cases t <;> decide
theorem xL {k:RK} (h:goesB .turn k=true):sgnK k=true:=by cases k <;> first | rfl | cases h
noncomputable def xM (h w:Int) (t:TK) (x:RR) (masks:List Int) (z s:Int) (ms:List Int):Bool:=match t with
 | .square=>squB h w x.m masks z s ms
 | .reach=>reaB h w x.cs x.m masks z s ms
 | _=>turnB h w x.m masks z s ms
noncomputable def d4 (h w:Int) (rows:List RR) (masks:List Int) (t:TK) (r z s:Int) (ms:List Int):Bool:=match rows[r.toNat]? with
 | none=>false
 | some x=>xM h w t x masks z s ms
abbrev yo (t:TK):Prop:=t=.square∨t=.reach∨t=.turn
abbrev K30 (t:TK):Prop:=K28 t∨yo t
def bf (K:PySem.W.Frag) (c:RCl RK) (d:RCl PzK):Sp:=fun vs H Q _=>∃ (P L G A T M:Addr) (h w g:Int) (rows:List RR) (cl masks:List Int) (t:TK) (r z s:Int) (ms:List Int),vs=[.ref P,.ref A,.ref T]∧Asks H c d P L G A T M h w g rows cl masks t r z s ms∧yo t∧formB h w g rows t r z s=true∧∀ H',Same H H'→Q (.bl (d4 h w rows masks t r z s ms)) H'
theorem kG {K:PySem.W.Frag} {c:RCl RK} {d:RCl PzK} {vs:List V} {H:Hp} {Q:VK} {E:XK} (h:bf K c d vs H Q E):vs.length=3:=by
 obtain ⟨_,_,_,_,_,_,_,_,_,_,_,_,_,_,_,_,_,rfl,_⟩:=h; rfl
def cg (K:PySem.W.Frag) (c:RCl RK) (d:RCl PzK):TS:=
 (tSeq (tAsg (bQ d d.ok "place" (de K c d) (tVar 0) tNil) (gName 3))
  (tSeq (tAsg (tOp cIx (bQ d d.ok "rules" (df K c d) (tVar 0) tNil) (tOp cIx (tVar 2) (tC (.int 1)))) (gName 4))
  (tSeq (tIfS (tTest (tOp (cEq K) (tOp cIx (tVar 2) (tC (.int 0))) (tC (.str (tx [115,113,117,97,114,101]))))) (tRet (tCall (bU K c) [] E0 (tCons (tVar 3) (tCons (tVar 4) (tCons (tVar 1) (tCons (tOp cIx (tVar 2) (tC (.int 2))) (tCons (tOp cIx (tVar 2) (tC (.int 3))) (tCons (tOp cIx (tVar 2) (tC (.int 4))) tNil)))))))) tNext)
  (tSeq (tIfS (tTest (tOp (cEq K) (tOp cIx (tVar 2) (tC (.int 0))) (tC (.str (tx [114,101,97,99,104]))))) (tRet (tCall (b8 K c) [] E0 (tCons (tVar 3) (tCons (tVar 4) (tCons (tVar 1) (tCons (tOp cIx (tVar 2) (tC (.int 2))) (tCons (tOp cIx (tVar 2) (tC (.int 3))) (tCons (tOp cIx (tVar 2) (tC (.int 4))) tNil)))))))) tNext)
  (tRet (tCall (cA K c) [] E0 (tCons (tVar 3) (tCons (tVar 4) (tCons (tVar 1) (tCons (tOp cIx (tVar 2) (tC (.int 2))) (tCons (tOp cIx (tVar 2) (tC (.int 3))) (tCons (tOp cIx (tVar 2) (tC (.int 4))) tNil))))))))))))
theorem kH {K:PySem.W.Frag} {c:RCl RK} {d:RCl PzK} {vs:List V} {H:Hp} {Q:VK} {E:XK} (h:bf K c d vs H Q E):cg K c d { nx:=fun _ H'=>Q .non H',rt:=Q } (start ["puzzle","masks","thought","floor","rule"] vs) H:=by
 obtain ⟨P,L,G,A,T,M,h,w,g,rows,cl,masks,t,r,z,s,ms,rfl,X,ht,f,q⟩:=h
 obtain ⟨dx,p,rs,h1,h2,h3⟩:=X.P.ex
 obtain ⟨z0,z1,s0,s1',hit⟩:=rz f
 have hg:=X.P.R.F.g1
 have hnc:t≠.clue:=by rcases ht with rfl | rfl | rfl <;> decide
 obtain ⟨r0,y,ey,hgo,hz⟩:=vj hnc hit
 have O:=X.P.R.ok y (List.mem_of_getElem? ey)
 have q2:∀ H',Same H H'→Q (.bl (xM h w t y masks z s ms)) H':=fun H' s'=>by
  have q1:=q H' s'
  unfold d4 at q1
  rw [ey] at q1
  exact q1
 show cg K c d _ [some (.ref P),some (.ref A),some (.ref T),none,none] H
 unfold cg
 rw [aP,fO]
 refine methE (k:=.Puzzle) rfl X.P.ok h1 (by rfl) ?_
 walk_at "w"
 refine ⟨P,L,G,h,w,g,rows,cl,rfl,X.P,fun p3 hp3=>?_⟩
 walk_at "w"
 refine methE (k:=.Puzzle) rfl X.P.ok h1 (by rfl) ?_
 walk_at "w"
 refine ⟨P,L,G,h,w,g,rows,cl,rfl,X.P,fun l p2 rs2 hl hp2 Y=>?_⟩
 have s2:Same H (upd H l (.lst (rs2.map V.ref))):=(Same.refl H).laid hl
 generalize upd H l (.lst (rs2.map V.ref))=H1 at*
 have hlt:=(List.getElem?_eq_some_iff.mp ey).1
 have hlen:=Y.len
 have ea:rs2[r.toNat]? =some rs2[r.toNat]:=List.getElem?_eq_getElem (by omega)
 dsimp only
 refine ixT (s2 _ _ X.T.T) (v:=V.int r) rfl ?_
 refine ixL Y.top (oE r0 ea) ?_
 walk_at "w"
 rw [aA]
 walk_at "w"
 refine ixT (s2 _ _ X.T.T) (v:=V.str (tx (tkC t))) rfl ?_
 walk_at "w"
 rw [aF,c9]
 rcases ht with rfl | rfl | rfl
 · rw [decide_eq_true rfl]
   refine iteT ?_
   walk_at "w"
   refine ixT (s2 _ _ X.T.T) (v:=V.int z) rfl ?_
   walk_at "w"
   refine ixT (s2 _ _ X.T.T) (v:=V.int s) rfl ?_
   walk_at "w"
   refine ixT (s2 _ _ X.T.T) (v:=V.ref M) rfl ?_
   walk_at "w"
   exact ⟨_,p3,_,p2,A,M,_,y.cs,masks,ms,_,_,z,s,h,w,g,rfl,s2 _ _ hp3,X.P.R.F,Y.at_ _ _ _ ea ey,X.n,s2 _ _ X.A,s2 _ _ X.T.M,by omega,fun H' s3=>q2 H' (s2.trans s3)⟩
 · have ym:=(O.m0 (xG hgo)).2
   rw [decide_eq_false (show ¬ TK.reach=TK.square by decide)]
   refine iteF ?_
   rw [aA]
   walk_at "w"
   refine ixT (s2 _ _ X.T.T) (v:=V.str (tx (tkC .reach))) rfl ?_
   walk_at "w"
   rw [aF,cO,decide_eq_true rfl]
   refine iteT ?_
   walk_at "w"
   refine ixT (s2 _ _ X.T.T) (v:=V.int z) rfl ?_
   walk_at "w"
   refine ixT (s2 _ _ X.T.T) (v:=V.int s) rfl ?_
   walk_at "w"
   refine ixT (s2 _ _ X.T.T) (v:=V.ref M) rfl ?_
   walk_at "w"
   have hin:b4 y.cs masks.length:=by rw [X.n]; exact RR.cin22 O X.P.R.F
   exact ⟨_,p3,_,p2,A,M,_,y.cs,masks,ms,_,_,z,s,h,w,g,rfl,s2 _ _ hp3,X.P.R.F,Y.at_ _ _ _ ea ey,hin,RR.len26 O X.P.R.F,X.n,s2 _ _ X.A,s2 _ _ X.T.M,X.T.n,by omega,fun H' s3=>q2 H' (s2.trans s3)⟩
 · have ym:=(O.m0 (xL hgo)).2
   rw [decide_eq_false (show ¬ TK.turn=TK.square by decide)]
   refine iteF ?_
   rw [aA]
   walk_at "w"
   refine ixT (s2 _ _ X.T.T) (v:=V.str (tx (tkC .turn))) rfl ?_
   walk_at "w"
   rw [aF,cO,decide_eq_false (show ¬ TK.turn=TK.reach by decide)]
   refine iteF ?_
   walk_at "w"
   refine ixT (s2 _ _ X.T.T) (v:=V.int z) rfl ?_
   walk_at "w"
   refine ixT (s2 _ _ X.T.T) (v:=V.int s) rfl ?_
   walk_at "w"
   refine ixT (s2 _ _ X.T.T) (v:=V.ref M) rfl ?_
   walk_at "w"
   exact ⟨_,p3,_,p2,A,M,_,y.cs,masks,ms,_,_,z,s,h,w,g,rfl,s2 _ _ hp3,X.P.R.F,Y.at_ _ _ _ ea ey,X.n,s2 _ _ X.A,s2 _ _ X.T.M,by omega,z0,z1,fun H' s3=>q2 H' (s2.trans s3)⟩
noncomputable def li (h w g:Int) (rows:List RR) (cl masks:List Int) (t:TK) (r z s:Int) (ms:List Int):Bool:=if lineK t then d3 g rows cl masks t r z s ms else d4 h w rows masks t r z s ms
def dB (K:PySem.W.Frag) (c:RCl RK) (d:RCl PzK):Sp:=fun vs H Q _=>∃ (P L G A T M:Addr) (h w g:Int) (rows:List RR) (cl masks:List Int) (t:TK) (r z s:Int) (ms:List Int),vs=[.ref P,.ref A,.ref T]∧Asks H c d P L G A T M h w g rows cl masks t r z s ms∧K30 t∧(∀ m∈masks,0≤m∧m < 64)∧formB h w g rows t r z s=true∧∀ H',Same H H'→Q (.bl (li h w g rows cl masks t r z s ms)) H'
theorem tR {K:PySem.W.Frag} {c:RCl RK} {d:RCl PzK} {vs:List V} {H:Hp} {Q:VK} {E:XK} (h:dB K c d vs H Q E):vs.length=3:=by
 obtain ⟨_,_,_,_,_,_,_,_,_,_,_,_,_,_,_,_,_,rfl,_⟩:=h; rfl
def ii (K:PySem.W.Frag) (c:RCl RK) (d:RCl PzK):TS:=
 (tSeq (tIfS (tB (tInG cX false (tOp cIx (tVar 2) (tC (.int 0))))) (tRet (tCall (bw K c d) [] E0 (tCons (tVar 0) (tCons (tVar 1) (tCons (tVar 2) tNil))))) tNext)
  (tSeq (tIfS (tB (tInG cq false (tOp cIx (tVar 2) (tC (.int 0))))) (tRet jY) tNext)
  (tRet (tCall (bf K c d) [] E0 (tCons (tVar 0) (tCons (tVar 1) (tCons (tVar 2) tNil)))))))
theorem tS {K:PySem.W.Frag} {c:RCl RK} {d:RCl PzK} {vs:List V} {H:Hp} {Q:VK} {E:XK} (h:dB K c d vs H Q E):ii K c d { nx:=fun _ H'=>Q .non H',rt:=Q } (start ["puzzle","masks","thought"] vs) H:=by
 obtain ⟨P,L,G,A,T,M,h,w,g,rows,cl,masks,t,r,z,s,ms,rfl,X,ht,mm,f,q⟩:=h
 show ii K c d _ [some (.ref P),some (.ref A),some (.ref T)] H
 unfold ii
 rw [aP,aA]
 walk_at "w"
 refine ixT X.T.T (v:=V.str (tx (tkC t))) rfl ?_
 walk_at "w"
 rw [vi]
 unfold li at q
 rcases ht with ht | ht
 · have hl:lineK t=true:=by rcases ht with rfl | rfl | rfl | rfl <;> rfl
   rw [hl] at q
   rw [hl]
   walk_at "w"
   exact ⟨P,L,G,A,T,M,h,w,g,rows,cl,masks,t,r,z,s,ms,rfl,X,ht,mm,f,q⟩
 · have hl:lineK t=false:=by rcases ht with rfl | rfl | rfl <;> rfl
   have hb:nbrK t=false:=by rcases ht with rfl | rfl | rfl <;> rfl
   rw [hl] at q
   rw [hl]
   walk_at "w"
   rw [aA]
   walk_at "w"
   refine ixT X.T.T (v:=V.str (tx (tkC t))) rfl ?_
   walk_at "w"
   rw [xA,hb]
   walk_at "w"
   exact ⟨P,L,G,A,T,M,h,w,g,rows,cl,masks,t,r,z,s,ms,rfl,X,ht,f,q⟩
noncomputable def mU (h w g:Int) (rows:List RR) (cl masks:List Int) (t:TK) (r z s:Int) (ms:List Int):Bool:=formB h w g rows t r z s&&li h w g rows cl masks t r z s ms
def cP (K:PySem.W.Frag) (c:RCl RK) (d:RCl PzK):Sp:=fun vs H Q _=>∃ (P L G A T M:Addr) (h w g:Int) (rows:List RR) (cl masks:List Int) (t:TK) (r z s:Int) (ms:List Int),vs=[.ref P,.ref A,.ref T]∧Asks H c d P L G A T M h w g rows cl masks t r z s ms∧K30 t∧(∀ m∈masks,0≤m∧m < 64)∧∀ H',Same H H'→Q (.bl (mU h w g rows cl masks t r z s ms)) H'
theorem tT {K:PySem.W.Frag} {c:RCl RK} {d:RCl PzK} {vs:List V} {H:Hp} {Q:VK} {E:XK} (h:cP K c d vs H Q E):vs.length=3:=by
 obtain ⟨_,_,_,_,_,_,_,_,_,_,_,_,_,_,_,_,_,rfl,_⟩:=h; rfl
def ij (K:PySem.W.Frag) (c:RCl RK) (d:RCl PzK):TS:=
 (tRet (tAndV (tCall (dz K c d) [] E0 (tCons (tVar 0) (tCons (tVar 2) tNil))) (tCall (dB K c d) [] E0 (tCons (tVar 0) (tCons (tVar 1) (tCons (tVar 2) tNil))))))
theorem tU {K:PySem.W.Frag} {c:RCl RK} {d:RCl PzK} {vs:List V} {H:Hp} {Q:VK} {E:XK} (h:cP K c d vs H Q E):ij K c d { nx:=fun _ H'=>Q .non H',rt:=Q } (start ["puzzle","masks","thought"] vs) H:=by
 obtain ⟨P,L,G,A,T,M,h,w,g,rows,cl,masks,t,r,z,s,ms,rfl,X,ht,mm,q⟩:=h
 show ij K c d _ [some (.ref P),some (.ref A),some (.ref T)] H
 unfold ij
 walk_at "w"
 refine ⟨t,P,L,G,T,M,h,w,g,r,z,s,rows,cl,ms,rfl,X.P,X.T,fun H1 s1=>?_⟩
 unfold mU at q
 cases hb:formB h w g rows t r z s with
 | false=>
  rw [hb,Bool.false_and] at q
  exact ⟨false,rfl,iteF (q _ s1)⟩
 | true=>
  rw [hb,Bool.true_and] at q
  refine ⟨true,rfl,iteT ?_⟩
  walk_at "w"
  exact ⟨P,L,G,A,T,M,h,w,g,rows,cl,masks,t,r,z,s,ms,rfl,X.same s1,ht,mm,hb,fun H' s2=>q H' (s1.trans s2)⟩
theorem rB:∀ (rs:List (List Nat)),(∀ r∈rs,r.length≤2)→(catL 32 rs).length≤3*rs.length
 | [],_=>by simp [catL]
 | [x],h=>by have:=h x List.mem_cons_self; simp [catL]; omega
 | x::y::r,h=>by
  rw [oM (by simp)]
  have h1:=h x List.mem_cons_self
  have h2:=rB (y::r) fun z hz=>h z (List.mem_cons_of_mem _ hz)
  simp only [List.length_append,List.length_cons] at*
  omega
theorem uK {cs:List Nat} (h:cs.length≤16):(catL 32 (cs.map numC)).length≤48:=by
 have:=rB (cs.map numC) fun r hr=>by obtain ⟨x,_,rfl⟩:=List.mem_map.mp hr; exact iP
 rw [List.length_map] at this
 omega
theorem wa {k:RK} {h w g:Int} {n m:Nat} {ns:List Nat} (F:FlOk h w g) (ne:ns≠[]) (lt:∀ c∈ns,(c:Int) < h*w) (nd:ns.Nodup) (len:ns.length≤16) (hk:allK k=false) (k0:k≠.Rule) (n0:n≤99) (nz:numK k=false→n=0) (m0:sgnK k=true→1≤(m:Int)∧(m:Int)≤g) (mz:sgnK k=false→m=0):
  RR.Ok ⟨k,n,m,ns,ns.map fun (n:Nat)=>(n:Int)⟩ h w g:=by
 have m16:=F.m
 refine ⟨k0,n0,nz,m0,mz,⟨fun _=>⟨ne,len,lt,nd,rfl⟩,fun e=>?_⟩,fun x hx=>?_,len⟩
 · rw [show allK k=false from hk] at e; cases e
 · have:=lt x hx
   omega
theorem strL {Q:VK} {H:Hp} {a b:List Nat} (h1:a.length≤400) (h2:b.length≤400) (q:Q (.str (tx (a++b))) H):cAdd (.str (tx a)) (.str (tx b)) H Q:=by
 rw [gf,pH]
 exact ⟨by rw [fF,fF]; exact aD (by omega),q⟩
theorem qp {H:Hp} {l:Addr} {t:TK} {r z s:Int} {ms:List Int} {T:Addr} (hl:H l=some (.lst (ms.map V.int))) (hn:ms.length≤100) (hT:H T=none):IsTh (upd H T (.tup [.str (tx (tkC t)),.int r,.int z,.int s,.ref l])) T l t r z s ms:=⟨ah,by rw [av (aH hl hT)]; exact hl,hn⟩
def bT (K:PySem.W.Frag):Sp:=fun vs H Q _=>∃ (p:Addr) (h w g c:Int),vs=[.ref p,.int c]∧IsFl H p h w g∧FlOk h w g∧∀ l H',Same H H'→H l=none→H' l=some (.lst ((nearL h w c).map V.int))→Q (.ref l) H'
theorem tV {K:PySem.W.Frag} {vs:List V} {H:Hp} {Q:VK} {E:XK} (h:bT K vs H Q E):vs.length=2:=by
 obtain ⟨_,_,_,_,_,rfl,_⟩:=h; rfl
def tnear (K:PySem.W.Frag):TS:=
 (tIfS (tAnd (tTest (pk (cCmp fun i j=>decide (i≤j)) (cCmp fun i j=>decide (i < j)) (tC (.int 0)) (tVar 5) (tOp cIx (tVar 0) (tC (.int 0))))) (tTest (pk (cCmp fun i j=>decide (i≤j)) (cCmp fun i j=>decide (i < j)) (tC (.int 0)) (tVar 6) (tOp cIx (tVar 0) (tC (.int 1)))))) (tDrop (tBM K "list" a9 (tVar 4) (tCons (tOp cAdd (tOp cMul (tVar 5) (tOp cIx (tVar 0) (tC (.int 1)))) (tVar 6)) tNil))) tNext)
def ik (K:PySem.W.Frag):TS:=
 (tSeq (tAsg (tCB lh (tCons (tVar 1) (tCons (tOp cIx (tVar 0) (tC (.int 1))) tNil))) (gTup K 2 (gCons (gName 2) (gCons (gName 3) gNil))))
  (tSeq (tAsg (tLst tNil) (gName 4))
  (tSeq (tFor (iList K (tLst (tCons (tTup (tCons (tOp cSub (tVar 2) (tC (.int 1))) (tCons (tVar 3) tNil))) (tCons (tTup (tCons (tVar 2) (tCons (tOp cSub (tVar 3) (tC (.int 1))) tNil))) (tCons (tTup (tCons (tVar 2) (tCons (tOp cAdd (tVar 3) (tC (.int 1))) tNil))) (tCons (tTup (tCons (tOp cAdd (tVar 2) (tC (.int 1))) (tCons (tVar 3) tNil))) tNil)))))) (gTup K 2 (gCons (gName 5) (gCons (gName 6) gNil)))
  (tnear K))
  (tRet (tVar 4)))))
theorem kD {K:PySem.W.Frag} {D:Ends} {H:Hp} {p L t:Addr} {h w g d r:Int} {found:List Int} {v1 v2 v3 v5 v6:Option V} (hp:IsFl H p h w g) (w1:w≤6) (w0:1≤w) (et:H t=some (.tup [.int d,.int r])) (eL:H L=some (.lst (found.map V.int))) (hn:found.length≤100)
  (k:∀ H',H' L=some (.lst ((found++nearS h w d r).map V.int))→(∀ b,b≠L→H' b=H b)→D.nx [some (.ref p),v1,v2,v3,some (.ref L),some (.int d),some (.int r)] H'):
  gTup K 2 (gCons (gName 5) (gCons (gName 6) gNil)) (V.ref t) [some (.ref p),v1,v2,v3,some (.ref L),v5,v6] H fun σ2 H2=>tnear K D σ2 H2:=by
 refine sQ et rfl ?_
 rw [oF]
 show tnear K D [some (.ref p),v1,v2,v3,some (.ref L),some (.int d),some (.int r)] H
 unfold tnear
 refine mH (b:=(decide (0≤d)&&decide (d < h))&&(decide (0≤r)&&decide (r < w))) (v:=d*w+r) (l:=L) (i:=4) rfl ?_ eL (by omega) ?_ ?_
 · intro R hR
   unfold pk
   walk_at "w"
   cases hb:decide (0≤d) with
   | false=>
    rw [hb,Bool.false_and,Bool.false_and] at hR
    walk_at "w"
    exact hR
   | true=>
    rw [hb,Bool.true_and] at hR
    walk_at "w"
    refine ixT hp (v:=V.int h) rfl ?_
    walk_at "w"
    cases hb2:decide (d < h) with
    | false=>
     rw [hb2,Bool.false_and] at hR
     walk_at "w"
     exact hR
    | true=>
     rw [hb2,Bool.true_and] at hR
     walk_at "w"
     cases hb3:decide (0≤r) with
     | false=>
      rw [hb3,Bool.false_and] at hR
      walk_at "w"
      exact hR
     | true=>
      rw [hb3,Bool.true_and] at hR
      walk_at "w"
      refine ixT hp (v:=V.int w) rfl ?_
      walk_at "w"
      exact hR
 · intro Q hQ
   walk_at "w"
   refine ixT hp (v:=V.int w) rfl ?_
   walk_at "w"
   exact ⟨.inr ⟨by omega,by omega⟩,hQ⟩
 · intro H' e1 e2
   refine k H' ?_ e2
   rw [e1]
   rfl
theorem lM (h w c:Int) {i:Nat} {d r:Int} (hi:(nearP w c)[i]? =some (d,r)):((nearP w c).take (i+1)).flatMap (fun p=>nearS h w p.1 p.2)=((nearP w c).take i).flatMap (fun p=>nearS h w p.1 p.2)++nearS h w d r:=by
 rw [List.take_add_one,hi,List.flatMap_append]
 simp
theorem tW {K:PySem.W.Frag} {vs:List V} {H:Hp} {Q:VK} {E:XK} (h:bT K vs H Q E):ik K { nx:=fun _ H'=>Q .non H',rt:=Q } (start ["_law_floor_here","_law_cell","_law_row","_law_column","_law_found","_law_down","_law_right"] vs) H:=by
 obtain ⟨p,h,w,g,c,rfl,hp,F,q⟩:=h
 obtain ⟨h0,h1,w0,w1,m16,g0,g1⟩:=id F
 show ik K _ [some (.ref p),some (.int c),none,none,none,none,none] H
 unfold ik
 walk_at "w"
 refine ixT hp (v:=V.int w) rfl ?_
 walk_at "w"
 rw [tN]
 refine ⟨⟨by omega,by omega⟩,fun T hT=>?_⟩
 have s1:Same H (upd H T (.tup [.int (c / w),.int (c % w)])):=(Same.refl H).laid hT
 have eT:(upd H T (.tup [.int (c / w),.int (c % w)])) T=some (.tup [.int (c / w),.int (c % w)]):=ah
 generalize upd H T (.tup [.int (c / w),.int (c % w)])=H1 at*
 refine sQ eT rfl ?_
 rw [oF]
 walk_at "w"
 refine ⟨aD (by decide),fun L hL=>?_⟩
 have eL:(upd H1 L (.lst [])) L=some (.lst (([]:List Int).map V.int)):=ah
 have sL:Same H1 (upd H1 L (.lst [])):=(Same.refl H1).laid hL
 generalize upd H1 L (.lst [])=H2 at*
 refine ⟨aD (by show (2:Nat)≤1000; decide),fun t1 i1=>?_⟩
 have k1:Same H2 (upd H2 t1 (.tup [V.int (c / w - 1),V.int (c % w)])):=(Same.refl H2).laid i1
 have e1:(upd H2 t1 (.tup [V.int (c / w - 1),V.int (c % w)])) t1=some (.tup [V.int (c / w - 1),V.int (c % w)]):=ah
 generalize upd H2 t1 (.tup [V.int (c / w - 1),V.int (c % w)])=H3 at*
 refine ⟨aD (by show (2:Nat)≤1000; decide),fun t2 i2=>?_⟩
 have k2:Same H3 (upd H3 t2 (.tup [V.int (c / w),V.int (c % w - 1)])):=(Same.refl H3).laid i2
 have e2:(upd H3 t2 (.tup [V.int (c / w),V.int (c % w - 1)])) t2=some (.tup [V.int (c / w),V.int (c % w - 1)]):=ah
 generalize upd H3 t2 (.tup [V.int (c / w),V.int (c % w - 1)])=H4 at*
 refine ⟨aD (by show (2:Nat)≤1000; decide),fun t3 i3=>?_⟩
 have k3:Same H4 (upd H4 t3 (.tup [V.int (c / w),V.int (c % w+1)])):=(Same.refl H4).laid i3
 have e3:(upd H4 t3 (.tup [V.int (c / w),V.int (c % w+1)])) t3=some (.tup [V.int (c / w),V.int (c % w+1)]):=ah
 generalize upd H4 t3 (.tup [V.int (c / w),V.int (c % w+1)])=H5 at*
 refine ⟨aD (by show (2:Nat)≤1000; decide),fun t4 i4=>?_⟩
 have k4:Same H5 (upd H5 t4 (.tup [V.int (c / w+1),V.int (c % w)])):=(Same.refl H5).laid i4
 have e4:(upd H5 t4 (.tup [V.int (c / w+1),V.int (c % w)])) t4=some (.tup [V.int (c / w+1),V.int (c % w)]):=ah
 generalize upd H5 t4 (.tup [V.int (c / w+1),V.int (c % w)])=H6 at*
 refine ⟨aD (by show (4:Nat)≤1000; decide),fun U iU=>?_⟩
 have k5:Same H6 (upd H6 U (.lst [V.ref t1,V.ref t2,V.ref t3,V.ref t4])):=(Same.refl H6).laid iU
 have eU:(upd H6 U (.lst [V.ref t1,V.ref t2,V.ref t3,V.ref t4])) U=some (.lst [V.ref t1,V.ref t2,V.ref t3,V.ref t4]):=ah
 generalize upd H6 U (.lst [V.ref t1,V.ref t2,V.ref t3,V.ref t4])=H7 at*
 have f1:=k5 _ _ (k4 _ _ (k3 _ _ (k2 _ _ e1)))
 have f2:=k5 _ _ (k4 _ _ (k3 _ _ e2))
 have f3:=k5 _ _ (k4 _ _ e3)
 have f4:=k5 _ _ e4
 have k26:=((k1.trans k2).trans k3).trans k4
 have fL:=(k26.trans k5) _ _ eL
 have hpL:p≠L:=fun e=>by have:=s1 _ _ hp; rw [e,hL] at this; cases this
 have n1:t1≠L:=fun e=>by rw [e,eL] at i1; cases i1
 have n2:t2≠L:=fun e=>by rw [e,k1 _ _ eL] at i2; cases i2
 have n3:t3≠L:=fun e=>by rw [e,(k1.trans k2) _ _ eL] at i3; cases i3
 have n4:t4≠L:=fun e=>by rw [e,((k1.trans k2).trans k3) _ _ eL] at i4; cases i4
 have nU:U≠L:=fun e=>by rw [e,k26 _ _ eL] at iU; cases iU
 have fp:=(k26.trans k5) _ _ (sL _ _ (s1 _ _ hp))
 have s17:=(sL.trans k26).trans k5
 refine ⟨⟨_,SqL.of eU⟩,?_⟩
 refine ln (K:=K) (xs:=[V.ref t1,V.ref t2,V.ref t3,V.ref t4]) (fun i σ H'=>∃ (v5 v6:Option V),σ=[some (.ref p),some (.int c),some (.int (c / w)),some (.int (c % w)),some (.ref L),v5,v6]∧(∀ b,b≠L→H' b=H7 b)∧H' L=some (.lst ((((nearP w c).take i).flatMap fun p=>nearS h w p.1 p.2).map V.int))) ⟨none,none,rfl,fun _ _=>rfl,fL⟩ (fun i σ H' _ ⟨_,_,_,hk,_⟩=>SqL.of (by rw [hk U nU]; exact eU)) ?_ ?_
 · rintro i v σ H8 hv ⟨v5,v6,rfl,hk,e8⟩
   have hnl:((((nearP w c).take i).flatMap fun p=>nearS h w p.1 p.2)).length≤100:=by
    have:∀ (ps:List (Int × Int)),(ps.flatMap fun p=>nearS h w p.1 p.2).length≤ps.length:=fun ps=>by
     induction ps with
     | nil=>exact Nat.le_refl _
     | cons a r ih=>
      rw [List.flatMap_cons,List.length_append,List.length_cons]
      have:(nearS h w a.1 a.2).length≤1:=by unfold nearS; split <;> simp
      omega
    have:=this ((nearP w c).take i)
    rw [List.length_take] at this
    have:(nearP w c).length=4:=rfl
    omega
   have fp8:IsFl H8 p h w g:=by unfold IsFl; rw [hk p hpL]; exact fp
   match i,hv,e8,hnl with
   | 0,hv,e8,hnl=>
    cases hv
    exact kD fp8 w1 w0 (by rw [hk _ n1]; exact f1) e8 hnl fun H' a1 a2=>⟨_,_,rfl,fun b hb=>(a2 b hb).trans (hk b hb),by rw [a1,lM h w c (i:=0) rfl]⟩
   | 1,hv,e8,hnl=>
    cases hv
    exact kD fp8 w1 w0 (by rw [hk _ n2]; exact f2) e8 hnl fun H' a1 a2=>⟨_,_,rfl,fun b hb=>(a2 b hb).trans (hk b hb),by rw [a1,lM h w c (i:=1) rfl]⟩
   | 2,hv,e8,hnl=>
    cases hv
    exact kD fp8 w1 w0 (by rw [hk _ n3]; exact f3) e8 hnl fun H' a1 a2=>⟨_,_,rfl,fun b hb=>(a2 b hb).trans (hk b hb),by rw [a1,lM h w c (i:=2) rfl]⟩
   | 3,hv,e8,hnl=>
    cases hv
    exact kD fp8 w1 w0 (by rw [hk _ n4]; exact f4) e8 hnl fun H' a1 a2=>⟨_,_,rfl,fun b hb=>(a2 b hb).trans (hk b hb),by rw [a1,lM h w c (i:=3) rfl]⟩
   | n+4,hv,_,_=>cases hv
 · rintro σ H8 ⟨v5,v6,rfl,hk,e8⟩
   walk_at "w"
   refine q L H8 (fun b o e=>?_) (s1.free hL) e8
   have hb:b≠L:=fun e'=>by rw [e'] at e; rw [s1 _ _ e] at hL; cases hL
   rw [hk b hb]
   exact s17 _ _ (s1 _ _ e)
theorem Ab {K:PySem.W.Frag} {tl:TE} {g:TG} {tb:TS} {D:Ends} {σ:St} {H:Hp}:tFor (iTup K tl) g tb D σ H=tl σ H fun x H1=>∃ a,x=.ref a∧(∃ xs,SqT K H1 a xs)∧LoopR (Itt K a) g tb D σ H1:=rfl
abbrev b9 (cs:List Nat):List Int:=cs.map fun (n:Nat)=>(n:Int)
def LsOk (h w:Int) (css:List (List Nat)):Prop:=∀ cs∈css,cs.Nodup∧cs≠[]∧cs.length≤16∧∀ c∈cs,(c:Int) < h*w
theorem IsLN.put {H H2:Hp} {l p:Addr} {as:List Addr} {css:List (List Nat)} {cs:List Nat} {k:Nat} (x:IsLN H l as css) (nl:l∉as) (s:Same H H2) (npl:p≠l) (hp:H2 p=some (.lst (nsV cs))) (hk:k < as.length):IsLN (upd H2 l (.lst ((as.map V.ref).set k (V.ref p)))) l (as.set k p) (css.set k cs):=by
 have hlen:=x.len
 refine ⟨by rw [ah,List.map_set],by rw [List.length_set,List.length_set]; exact hlen,fun j a xs h1 h2=>?_⟩
 rw [List.getElem?_set] at h1 h2
 by_cases hj:k=j
 · rw [if_pos hj,if_pos hk] at h1
   rw [if_pos hj,if_pos (show k < css.length by omega)] at h2
   cases h1
   cases h2
   rw [av npl]
   exact hp
 · rw [if_neg hj] at h1 h2
   have nal:a≠l:=fun z=>nl (z ▸ List.mem_of_getElem? h1)
   rw [av nal]
   exact s _ _ (x.at_ j a xs h1 h2)
def cB (K:PySem.W.Frag):Sp:=fun vs H Q _=>∃ (a p:Addr) (ns:List Int) (h w g:Int),vs=[.ref a,.ref p]∧SqL K H a (ns.map V.int)∧ns.length≤63∧IsFl H p h w g∧FlOk h w g∧
 ∀ (Ls:Addr) (as:List Addr) (css:List (List Nat)) (H':Hp),Same H H'→IsLN H' Ls as css→css.length=2→LsOk h w css→Q (.ref Ls) H'
theorem qq {K:PySem.W.Frag} {vs:List V} {H:Hp} {Q:VK} {E:XK} (h:cB K vs H Q E):vs.length=2:=by
 obtain ⟨_,_,_,_,_,_,rfl,_⟩:=h; rfl
def ft (K:PySem.W.Frag):TS:=
 (tSeq (tAsg (tOp cMul (tOp cIx (tVar 1) (tC (.int 0))) (tOp cIx (tVar 1) (tC (.int 1)))) (gName 2))
  (tSeq (tAsg (tLst tNil) (gName 3))
  (tSeq (tFor (di (tCons (tC (.int 2)) tNil)) (gName 4)
  (tSeq (tAsg (tCall (aL K) [] E0 (tCons (tVar 0) (tCons (tOp cAdd (tC (.int 1)) (tVar 4)) tNil))) (gName 5))
  (tDrop (tBM K "list" a9 (tVar 3) (tCons (tCall (bR K) [] E0 (tCons (tVar 0) (tCons (tOp cAdd (tC (.int 4)) (tOp cMul (tC (.int 16)) (tVar 4))) (tCons (tVar 2) (tCons (tOp cAdd (tC (.int 1)) (tOp cMod (tVar 5) (tVar 2))) tNil))))) tNil)))))
  (tSeq (tIfS (tTest (tOp (cCmp fun i j=>decide (i≤j)) (tOp cIx (tVar 1) (tC (.int 2))) (tVar 2))) (tAsg (tCall (bR K) [] E0 (tCons (tVar 0) (tCons (tC (.int 36)) (tCons (tVar 2) (tCons (tOp cIx (tVar 1) (tC (.int 2))) tNil))))) (gSub (tVar 3) (tC (.int 1)) cPut)) tNext)
  (tRet (tVar 3))))))
theorem qr {K:PySem.W.Frag} {vs:List V} {H:Hp} {Q:VK} {E:XK} (h:cB K vs H Q E):ft K { nx:=fun _ H'=>Q .non H',rt:=Q } (start ["_law_script","_law_floor_here","_law_many","_law_found","_law_k","_law_cell"] vs) H:=by
 obtain ⟨a,p,ns,h,w,g,rfl,hS,hn,hp,F,q⟩:=h
 obtain ⟨h0,h1,w0,w1,m16,g0,g1⟩:=id F
 have mpos:1≤h*w:=Int.le_trans (by omega) (Int.mul_le_mul h0 w0 (by omega) (by omega))
 show ft K _ [some (.ref a),some (.ref p),none,none,none,none] H
 unfold ft
 walk_at "w"
 refine ixT hp (v:=V.int h) rfl ?_
 walk_at "w"
 refine ixT hp (v:=V.int w) rfl ?_
 walk_at "w"
 refine ⟨fE h0 h1,aD (by decide),fun L hL=>?_⟩
 refine ⟨2,rfl,by decide,by decide,?_⟩
 refine fw (fun i σ H'=>∃ (kv cv:Option V) (as:List Addr) (css:List (List Nat)),σ=[some (.ref a),some (.ref p),some (.int (h*w)),some (.ref L),kv,cv]∧Same H H'∧IsLN H' L as css∧L∉as∧css.length=i∧LsOk h w css)
  ⟨none,none,[],[],rfl,(Same.refl H).laid hL,⟨by rw [ah]; rfl,rfl,fun j b cs e _=>by simp at e⟩,by simp,rfl,fun cs hc=>by cases hc⟩ ?_ ?_
 · rintro i σ H1 hi ⟨kv,cv,as,css,rfl,s1,X,nL,hl,hcs⟩
   have hi2:i < 2:=hi
   have hal:=X.len
   walk_at "w"
   refine ⟨a,ns,_,rfl,s1.seq hS,hn,by omega,by omega,?_⟩
   generalize lawCA ns (1+(0+(i:Int)))=y at*
   walk_at "w"
   refine ⟨bn X.top,.inl ⟨by decide,by decide⟩,by omega,?_⟩
   have b0:=Int.emod_nonneg y (show h*w≠0 by omega)
   have b1:=Int.emod_lt_of_pos y (show 0 < h*w by omega)
   refine ⟨a,ns,_,_,_,rfl,s1.seq hS,hn,by omega,by omega,m16,by omega,by omega,fun l H2 cs s2 hl2 el nd lt len=>?_⟩
   have nlL:l≠L:=fun e=>by rw [e,X.top] at hl2; cases hl2
   walk_at "w"
   rw [dF (s2 _ _ X.top)]
   refine ⟨by rw [List.length_map]; exact aK (by omega),_,_,as++[l],css++[cs],rfl,(s1.trans s2).own hL,X.app nL s2 nlL el,fun hm=>?_,by simp [hl],fun c' hc'=>?_⟩
   · rcases List.mem_append.mp hm with hm | hm
     · exact nL hm
     · exact nlL (List.mem_singleton.mp hm).symm
   · rcases List.mem_append.mp hc' with hc' | hc'
     · exact hcs c' hc'
     · rw [List.mem_singleton.mp hc']
       refine ⟨nd,fun e=>?_,by omega,lt⟩
       rw [e] at len
       simp at len
       omega
 · rintro σ H1 ⟨kv,cv,as,css,rfl,s1,X,nL,hl,hcs⟩
   have hl2:css.length=2:=hl
   have hal:=X.len
   walk_at "w"
   rw [aA]
   walk_at "w"
   refine ixT (s1 _ _ hp) (v:=V.int g) rfl ?_
   walk_at "w"
   cases hb:decide (g≤h*w) with
   | false=>
    refine iteF ?_
    walk_at "w"
    exact q L as css H1 s1 X hl2 hcs
   | true=>
    have hg:=of_decide_eq_true hb
    refine iteT ?_
    walk_at "w"
    refine ixT (s1 _ _ hp) (v:=V.int g) rfl ?_
    walk_at "w"
    refine ⟨a,ns,_,_,_,rfl,s1.seq hS,hn,by decide,by decide,m16,by omega,hg,fun l H2 cs s2 hl3 el nd lt len=>?_⟩
    have nlL:l≠L:=fun e=>by rw [e,X.top] at hl3; cases hl3
    walk_at "w"
    refine yG (s2 _ _ X.top) (by decide) (by rw [List.length_map]; omega) ?_
    walk_at "w"
    refine q L (as.set 1 l) (css.set 1 cs) _ ((s1.trans s2).own hL) (X.put (k:=1) nL s2 nlL el (by omega)) (by rw [List.length_set]; exact hl2) fun c' hc'=>?_
    rcases List.mem_or_eq_of_mem_set hc' with hc' | rfl
    · exact hcs c' hc'
    · refine ⟨nd,fun e=>?_,by omega,lt⟩
      rw [e] at len
      simp at len
      omega
abbrev il (cs:List Nat):RR:=⟨.Unlike,0,0,cs,b9 cs⟩
abbrev dC (k:RK) (h w:Int) (m:Nat):RR:=⟨k,0,m,[],rngL 0 (h*w)⟩
def bj (h w:Int) (css:List (List Nat)) (gs:List Int):List RR:=css.map il++[dC .Joined h w (gs.getD 0 0).toNat,dC .Ring h w (gs.getD 1 0).toNat,dC .NoSquare h w (gs.getD 2 0).toNat]
theorem xN {cs:List Nat} (ne:cs≠[]):nmC .Unlike++[32]++catL 32 (cs.map numC)=catL 32 (rowW .Unlike 0 0 cs):=by
 show _=catL 32 (nmC .Unlike::cs.map numC)
 rw [oM (by simpa using ne)]
 simp
theorem xO {c:RCl RK} {h w g:Int} {css:List (List Nat)} {gs:List Int} (F:FlOk h w g) (hk:∀ k,k≠.Rule→c.ok k=true) (n2:css.length=2) (ok:LsOk h w css) (g3:gs.length=3) (gg:∀ x∈gs,1≤x∧x≤g):j8 c h w g (bj h w css gs):=by
 have at_:∀ j,j < 3→1≤gs.getD j 0∧gs.getD j 0≤g:=fun j hj=>by
  rw [List.getD,List.getElem?_eq_getElem (by omega)]
  exact gg _ (List.getElem_mem _)
 have mem:∀ r∈bj h w css gs,r.Ok h w g∧r.k≠.Rule:=fun r hr=>by
  unfold bj at hr
  rcases List.mem_append.mp hr with hr | hr
  · obtain ⟨cs,hc,rfl⟩:=List.mem_map.mp hr
    obtain ⟨nd,ne,len,lt⟩:=ok cs hc
    exact ⟨wa F ne lt nd len rfl (by decide) (by decide) (fun _=>rfl) (fun e=>by cases e) (fun _=>rfl),fun e=>by cases e⟩
  · have a0:=at_ 0 (by decide)
    have a1:=at_ 1 (by decide)
    have a2:=at_ 2 (by decide)
    rcases List.mem_cons.mp hr with rfl | hr
    · exact ⟨mP rfl (by decide) rfl rfl (by omega) (by omega),fun e=>by cases e⟩
    · rcases List.mem_cons.mp hr with rfl | hr
      · exact ⟨mP rfl (by decide) rfl rfl (by omega) (by omega),fun e=>by cases e⟩
      · rw [List.mem_singleton.mp hr]
        exact ⟨mP rfl (by decide) rfl rfl (by omega) (by omega),fun e=>by cases e⟩
 exact ⟨F,by unfold bj; simp; omega,fun r hr=>(mem r hr).1,fun r hr=>hk _ (mem r hr).2⟩
def ca (K:PySem.W.Frag) (c:RCl RK) (d:RCl PzK):Sp:=fun vs H Q _=>∃ (a p Ls O:Addr) (as:List Addr) (css:List (List Nat)) (ns gs:List Int) (h w g:Int),vs=[.ref a,.ref p,.ref Ls,.ref O]∧SqL K H a (ns.map V.int)∧ns.length≤63∧IsFl H p h w g∧FlOk h w g∧IsLN H Ls as css∧css.length=2∧LsOk h w css∧H O=some (.lst (gs.map V.int))∧gs.length=3∧(∀ x∈gs,1≤x∧x≤g)∧(∀ k,k≠.Rule→c.ok k=true)∧d.ok .Puzzle=true∧
 ∀ (P L G:Addr) (cl:List Int) (H':Hp),Same H H'→IsPz H' c d P L G h w g (bj h w css gs) cl→Q (.ref P) H'
theorem oV {K:PySem.W.Frag} {c:RCl RK} {d:RCl PzK} {vs:List V} {H:Hp} {Q:VK} {E:XK} (h:ca K c d vs H Q E):vs.length=4:=by
 obtain ⟨_,_,_,_,_,_,_,_,_,_,_,rfl,_⟩:=h; rfl
def eu (K:PySem.W.Frag) (c:RCl RK) (d:RCl PzK):TS:=
 (tSeq (sComp 5 [none,none,some 1,some 0] (di (tCons (tOp cMul (tOp cIx (tVar 1) (tC (.int 0))) (tOp cIx (tVar 1) (tC (.int 1)))) tNil)) (gName 1) tTrue (tOp cMod (tOp cDiv (tCall (aL K) [] E0 (tCons (tVar 3) (tCons (tOp cAdd (tC (.int 56)) (tVar 1)) tNil))) (tC (.int 2))) (tOp cAdd (tOp cIx (tVar 2) (tC (.int 2))) (tC (.int 1)))))
  (tRet (tMake (d.A .Puzzle) (bb K c d) [] E0 (tCons (tVar 1) (tCons (tVar 4) (tCons (tVar 5) tNil))))))
def eE (K:PySem.W.Frag) (c:RCl RK) (d:RCl PzK):TS:=
 (tSeq (tAsg (tOp cAdd (tVar 4) (tLst (tCons (tOp cAdd (tC (.str (tx [106,111,105,110,101,100,32]))) (tCB kStr (tCons (tOp cIx (tVar 3) (tC (.int 0))) tNil))) (tCons (tOp cAdd (tC (.str (tx [114,105,110,103,32]))) (tCB kStr (tCons (tOp cIx (tVar 3) (tC (.int 1))) tNil))) (tCons (tOp cAdd (tC (.str (tx [110,111,115,113,117,97,114,101,32]))) (tCB kStr (tCons (tOp cIx (tVar 3) (tC (.int 2))) tNil))) tNil))))) (gName 4))
  (eu K c d))
def dX (K:PySem.W.Frag) (c:RCl RK) (d:RCl PzK):TS:=
 (tSeq (sComp 4 [none,none] (iList K (tVar 2)) (gName 1) tTrue (tOp cAdd (tC (.str (tx [117,110,108,105,107,101,32]))) (tBM K "str" mK (tC (.str (tx [32]))) (tCons (tComp [none,none] (iList K (tVar 1)) (gName 1) tTrue (tCB kStr (tCons (tVar 1) tNil))) tNil))))
  (eE K c d))
theorem mf {K:PySem.W.Frag} {c:RCl RK} {d:RCl PzK} {H:Hp} {Q:VK} {a p Tl:Addr} {ns:List Int} {h w g:Int} {rows:List RR} {v2 v3:Option V} (hS:SqL K H a (ns.map V.int)) (hn:ns.length≤63) (hp:IsFl H p h w g) (R:j8 c h w g rows) (ok:d.ok .Puzzle=true) (eT:H Tl=some (.lst ((rows.map RR.txt).map V.str)))
  (q:∀ (P L G:Addr) (cl:List Int) (H':Hp),Same H H'→IsPz H' c d P L G h w g rows cl→Q (.ref P) H'):
  eu K c d { nx:=fun _ H'=>Q .non H',rt:=Q } [some (.ref a),some (.ref p),v2,v3,some (.ref Tl),none] H:=by
 obtain ⟨h0,h1,w0,w1,m16,g0,g1⟩:=id R.F
 have mpos:1≤h*w:=Int.le_trans (by omega) (Int.mul_le_mul h0 w0 (by omega) (by omega))
 unfold eu
 walk_at "w"
 refine ixT hp (v:=V.int h) rfl ?_
 walk_at "w"
 refine ixT hp (v:=V.int w) rfl ?_
 walk_at "w"
 refine ⟨fE h0 h1,?_⟩
 refine ⟨h*w,rfl,by omega,by omega,?_⟩
 refine gi (fun _=>true) (fun i=>lawCA ns (56+(i:Int)) / 2 % (g+1)) (by omega) ?_ ?_ ?_
 · intro i H2 R2 hi s2 k2
   exact k2 _ (Same.refl _)
 · intro i H2 Q2 hi _ s2 k2
   have hil:i < (h*w).toNat:=hi
   rw [Int.zero_add]
   show tOp cMod _ _ [none,some (.int (i:Int)),some (.ref p),some (.ref a)] H2 Q2
   walk_at "w"
   refine ⟨a,ns,_,rfl,s2.seq hS,hn,by omega,by omega,?_⟩
   walk_at "w"
   refine ⟨⟨by decide,by decide⟩,?_⟩
   refine ixT (s2 _ _ hp) (v:=V.int g) rfl ?_
   walk_at "w"
   refine ⟨by omega,?_⟩
   exact k2 _ (Same.refl _)
 · intro C H2 hC s2 eC
   rw [List.filter_eq_self.mpr fun _ _=>rfl] at eC
   walk_at "w"
   refine z5 ok (s2 _ _ hp) (s2 _ _ eT) eC R ⟨by rw [List.length_map,List.length_range],fun x hx=>?_⟩ fun P L G H3 s3 hP hL2 hG X=>?_
   · obtain ⟨i,hi,rfl⟩:=List.mem_map.mp hx
     have b0:=Int.emod_nonneg (lawCA ns (56+(i:Int)) / 2) (show g+1≠0 by omega)
     have b1:=Int.emod_lt_of_pos (lawCA ns (56+(i:Int)) / 2) (show 0 < g+1 by omega)
     exact ⟨b0,by omega⟩
   · exact q P L G _ _ (s2.trans s3) X
theorem yp {x y:List Nat} (h:x.length+y.length≤1000):(tx x).length+(tx y).length≤sizeLine:=by rw [fF,fF]; exact aD h
theorem mh {K:PySem.W.Frag} {c:RCl RK} {d:RCl PzK} {H:Hp} {Q:VK} {a p O Tl:Addr} {ns:List Int} {h w g:Int} {css:List (List Nat)} {gs:List Int} {v2:Option V} (hS:SqL K H a (ns.map V.int)) (hn:ns.length≤63) (hp:IsFl H p h w g) (F:FlOk h w g) (n2:css.length=2) (lo:LsOk h w css) (eO:H O=some (.lst (gs.map V.int))) (g3:gs.length=3) (gg:∀ x∈gs,1≤x∧x≤g) (hk:∀ k,k≠.Rule→c.ok k=true) (ok:d.ok .Puzzle=true) (eT:H Tl=some (.lst (((css.map il).map RR.txt).map V.str)))
  (q:∀ (P L G:Addr) (cl:List Int) (H':Hp),Same H H'→IsPz H' c d P L G h w g (bj h w css gs) cl→Q (.ref P) H'):
  eE K c d { nx:=fun _ H'=>Q .non H',rt:=Q } [some (.ref a),some (.ref p),v2,some (.ref O),some (.ref Tl),none] H:=by
 have g6:=F.g1
 have at_:∀ j,j < 3→1≤gs.getD j 0∧gs.getD j 0≤g:=fun j hj=>by
  rw [List.getD,List.getElem?_eq_getElem (by omega)]
  exact gg _ (List.getElem_mem _)
 have nat_:∀ j,j < 3→∃ m:Nat,gs.getD j 0=(m:Int)∧m < 100:=fun j hj=>⟨(gs.getD j 0).toNat,by have:=at_ j hj; omega,by have:=at_ j hj; omega⟩
 obtain ⟨m0,e0,l0⟩:=nat_ 0 (by decide)
 obtain ⟨m1,e1,l1⟩:=nat_ 1 (by decide)
 obtain ⟨m2,e2,l2⟩:=nat_ 2 (by decide)
 have z0:(numC m0).length≤2:=iP
 have z1:(numC m1).length≤2:=iP
 have z2:(numC m2).length≤2:=iP
 unfold eE
 walk_at "w"
 refine ixI eO (by decide) (by omega) ?_
 rw [show gs.getD (0:Int).toNat 0=(m0:Int) from e0]
 walk_at "w"
 rw [nK l0]
 refine ⟨nO l0,yp (by simp; omega),?_⟩
 refine ixI eO (by decide) (by omega) ?_
 rw [show gs.getD (1:Int).toNat 0=(m1:Int) from e1]
 walk_at "w"
 rw [nK l1]
 refine ⟨nO l1,yp (by simp; omega),?_⟩
 refine ixI eO (by decide) (by omega) ?_
 rw [show gs.getD (2:Int).toNat 0=(m2:Int) from e2]
 walk_at "w"
 rw [nK l2]
 refine ⟨nO l2,yp (by simp; omega),aD (by show (3:Nat)≤1000; decide),fun U hU=>?_⟩
 have ex:∀ {k:RK} {m:Nat},numK k=false→sgnK k=true→(dC k h w m).txt=tx (nmC k++[32])++tx (numC m):=fun {k m} hn hs=>by
  rw [pH]
  show tx (catL 32 (rowW k 0 m []))=_
  unfold rowW
  rw [hn,hs]
  show tx (catL 32 [nmC k,numC m])=_
  rw [oM (by simp)]
  simp [catL]
 have eU0:[V.str (tx [106,111,105,110,101,100,32]++tx (numC m0)),V.str (tx [114,105,110,103,32]++tx (numC m1)),V.str (tx [110,111,115,113,117,97,114,101,32]++tx (numC m2))]=(([dC .Joined h w (gs.getD 0 0).toNat,dC .Ring h w (gs.getD 1 0).toNat,dC .NoSquare h w (gs.getD 2 0).toNat]:List RR).map RR.txt).map V.str:=by
  rw [e0,e1,e2,Int.toNat_natCast,Int.toNat_natCast,Int.toNat_natCast]
  show _=[V.str (dC .Joined h w m0).txt,V.str (dC .Ring h w m1).txt,V.str (dC .NoSquare h w m2).txt]
  rw [ex rfl rfl,ex rfl rfl,ex rfl rfl]
  rfl
 rw [eU0]
 generalize hT3:([dC .Joined h w (gs.getD 0 0).toNat,dC .Ring h w (gs.getD 1 0).toNat,dC .NoSquare h w (gs.getD 2 0).toNat]:List RR)=t3 at*
 have t3l:t3.length=3:=by rw [← hT3]; rfl
 have s1:Same H (upd H U (.lst ((t3.map RR.txt).map V.str))):=(Same.refl H).laid hU
 have eU:(upd H U (.lst ((t3.map RR.txt).map V.str))) U=some (.lst ((t3.map RR.txt).map V.str)):=ah
 generalize upd H U (.lst ((t3.map RR.txt).map V.str))=H1 at*
 refine lb (s1 _ _ eT) eU (by simp [t3l]; omega) fun Y hY=>?_
 have s2:Same H1 (upd H1 Y (.lst (((css.map il).map RR.txt).map V.str++(t3.map RR.txt).map V.str))):=(Same.refl H1).laid hY
 have eY:(upd H1 Y (.lst (((css.map il).map RR.txt).map V.str++(t3.map RR.txt).map V.str))) Y=some (.lst (((bj h w css gs).map RR.txt).map V.str)):=by
  rw [ah]
  unfold bj
  rw [hT3,List.map_append,List.map_append]
 generalize upd H1 Y (.lst (((css.map il).map RR.txt).map V.str++(t3.map RR.txt).map V.str))=H2 at*
 have s12:=s1.trans s2
 walk_at "w"
 exact mf (s12.seq hS) hn (s12 _ _ hp) (xO F hk n2 lo g3 gg) ok eY fun P L G cl H' s3 X=>q P L G cl H' (s12.trans s3) X
theorem oW {K:PySem.W.Frag} {c:RCl RK} {d:RCl PzK} {vs:List V} {H:Hp} {Q:VK} {E:XK} (h:ca K c d vs H Q E):dX K c d { nx:=fun _ H'=>Q .non H',rt:=Q } (start ["_law_script","_law_floor_here","_law_lists_here","_law_goals","_law_lines","_law_clues"] vs) H:=by
 obtain ⟨a,p,Ls,O,as,css,ns,gs,h,w,g,rfl,hS,hn,hp,F,ll,n2,lo,eO,g3,gg,hk,ok,q⟩:=h
 have m16:=F.m
 have al:as.length=2:=by rw [ll.len,n2]
 show dX K c d _ [some (.ref a),some (.ref p),some (.ref Ls),some (.ref O),none,none] H
 unfold dX
 walk_at "w"
 refine ⟨⟨_,SqL.of ll.top⟩,?_⟩
 refine dL (xs:=as.map V.ref) (fun _=>true) (fun i=>V.str (il (css.getD i [])).txt) (by rw [List.length_map]; omega) (SqL.of ll.top) ?_ ?_ ?_
 · intro i x H1 R hx s1 k1
   exact k1 _ (Same.refl _)
 · intro i x H1 Q1 hx _ s1 k1
   obtain ⟨b,hb,rfl⟩:=uq hx
   have hi:i < as.length:=(List.getElem?_eq_some_iff.mp hb).1
   have ec:css[i]? =some css[i]:=List.getElem?_eq_getElem (by omega)
   have eb:=s1 _ _ (ll.at_ i _ _ hb ec)
   obtain ⟨nd,ne,cn,lt⟩:=lo _ (List.getElem_mem (show i < css.length by omega))
   have eg:css.getD i []=css[i]:=by rw [List.getD,ec]; rfl
   rw [eg] at k1
   generalize css[i]=cs at*
   show tOp cAdd _ _ [none,some (.ref b)] H1 Q1
   walk_at "w"
   refine ⟨yF,⟨_,SqL.of eb⟩,?_⟩
   refine xu eb (by omega) (fun c hc=>by have:=lt c hc; omega) fun l H2 hl s2 el=>?_
   walk_at "w"
   refine y9 el (sT (by simp; omega) (fun t ht=>by
    obtain ⟨z,hz,rfl⟩:=List.mem_map.mp ht
    obtain ⟨x,_,rfl⟩:=List.mem_map.mp hz
    rw [fF]; exact Nat.le_trans iP (by decide)) (by rw [fF]; decide)) ?_
   rw [ye,qO]
   refine strL (a:=nmC .Unlike++[32]) (b:=catL 32 (cs.map numC)) (by decide) (by have:=uK cn; omega) ?_
   rw [xN ne]
   exact k1 _ s2
 · intro Tl H1 hTl s1 eT
   rw [List.filter_eq_self.mpr fun _ _=>rfl,List.length_map,al] at eT
   have eT2:H1 Tl=some (.lst (((css.map il).map RR.txt).map V.str)):=by
    rw [eT,List.map_map,List.map_map]
    refine congrArg (fun x=>some (HO.lst x)) (List.ext_getElem? fun i=>?_)
    rw [List.getElem?_map,List.getElem?_map]
    by_cases hi:i < 2
    · rw [List.getElem?_range hi,List.getElem?_eq_getElem (by omega)]
      show some (V.str (il (css.getD i [])).txt)=_
      rw [List.getD,List.getElem?_eq_getElem (by omega)]
      rfl
    · rw [List.getElem?_eq_none (by rw [List.length_range]; omega),List.getElem?_eq_none (by omega)]
      rfl
   walk_at "w"
   exact mh (s1.seq hS) hn (s1 _ _ hp) F n2 lo (s1 _ _ eO) g3 gg hk ok eT2 fun P L G cl H' s2 X=>q P L G cl H' (s1.trans s2) X
abbrev aS (cs:List Nat) (z:Int):List Int:=(b9 cs).filter fun y=>!decide (y=z)
inductive Fm30 (h w g:Int) (css:List (List Nat)) (z:Int):TK→Int→Int→List Int→Prop
 | clue {s:Int}:Fm30 h w g css z .clue 0 s []
 | only {i:Nat} {cs:List Nat} {s x:Int}:css[i]? =some cs→z∈b9 cs→x∈aS cs z→Fm30 h w g css z .only (i:Int) s [x]
 | pair {i:Nat} {cs:List Nat} {s:Int} {j k:Nat}:css[i]? =some cs→z∈b9 cs→j < k→k < (aS cs z).length→Fm30 h w g css z .pair (i:Int) s [(aS cs z).getD j 0,(aS cs z).getD k 0]
 | place {i:Nat} {cs:List Nat} {s x:Int}:css[i]? =some cs→z∈b9 cs→((aS cs z).length:Int)+1=g→1≤x→x≤g→x≠s→Fm30 h w g css z .place (i:Int) s [x]
 | turn {s:Int} {ms:List Int}:ms=[]∨(∃ x∈nearL h w z,ms=[x])→Fm30 h w g css z .turn 3 s ms
 | reach {r s:Int} {ms:List Int}:r=2∨r=3→ms≠[]→ms.length≤2→(∀ x∈ms,0≤x∧x < h*w∧x≠z)→Fm30 h w g css z .reach r s ms
 | square {s x:Int}:0≤x→x / w+1 < h→x % w+1 < w→z∈[x,x+1,x+w,x+w+1]→Fm30 h w g css z .square 4 s [x]
theorem Fm30.kd {h w g:Int} {css:List (List Nat)} {z:Int} {t:TK} {r s:Int} {ms:List Int} (x:Fm30 h w g css z t r s ms):K30 t:=by
 cases x <;> first | exact .inl (.inl rfl) | exact .inl (.inr (.inl rfl)) | exact .inl (.inr (.inr (.inl rfl))) | exact .inl (.inr (.inr (.inr rfl))) | exact .inr (.inl rfl) | exact .inr (.inr (.inl rfl)) | exact .inr (.inr (.inr rfl))
def F30 (h w g:Int) (css:List (List Nat)) (z:Int) (t:TK) (r y s:Int) (ms:List Int):Prop:=y=z∧1≤s∧s≤g∧Fm30 h w g css z t r s ms
abbrev ThP:=TK→Int→Int→Int→List Int→Prop
structure IsThs (U:ThP) (H:Hp) (L:Addr) (ts:List Addr):Prop where
 top:H L=some (.lst (ts.map V.ref))
 ok:∀ T∈ts,∃ (M:Addr) (t:TK) (r z s:Int) (ms:List Int),M≠L∧U t r z s ms∧IsTh H T M t r z s ms
theorem IsThs.same {U:ThP} {H H':Hp} {L:Addr} {ts:List Addr} (x:IsThs U H L ts) (e:Same H H'):IsThs U H' L ts:=⟨e _ _ x.top,fun T hT=>by
 obtain ⟨M,t,r,z,s,ms,n,p,th⟩:=x.ok T hT
 exact ⟨M,t,r,z,s,ms,n,p,th.same e⟩⟩
theorem oX {U:ThP} {H:Hp} {L:Addr} {ts:List Addr} (hL:H L=none) (ok:∀ T∈ts,∃ (M:Addr) (t:TK) (r z s:Int) (ms:List Int),U t r z s ms∧IsTh H T M t r z s ms):IsThs U (upd H L (.lst (ts.map V.ref))) L ts:=⟨ah,fun T hT=>by
 obtain ⟨M,t,r,z,s,ms,p,th⟩:=ok T hT
 exact ⟨M,t,r,z,s,ms,aH th.M hL,p,th.same ((Same.refl H).laid hL)⟩⟩
theorem IsThs.app {U:ThP} {H H2:Hp} {L T M:Addr} {ts:List Addr} {t:TK} {r z s:Int} {ms:List Int} (x:IsThs U H L ts) (s1:Same H H2) (th:IsTh H2 T M t r z s ms) (nM:M≠L) (p:U t r z s ms):IsThs U (upd H2 L (.lst (ts.map V.ref++[V.ref T]))) L (ts++[T]):=by
 have keep:∀ {T' M':Addr} {t:TK} {r z s:Int} {ms:List Int},M'≠L→IsTh H2 T' M' t r z s ms→IsTh (upd H2 L (.lst (ts.map V.ref++[V.ref T]))) T' M' t r z s ms:=fun {T' M' t r z s ms} nM' th'=>by
  have nT:T'≠L:=fun e=>by
   have a:=th'.T
   rw [e,s1 _ _ x.top] at a
   cases a
  exact ⟨by rw [av nT]; exact th'.T,by rw [av nM']; exact th'.M,th'.n⟩
 refine ⟨by rw [ah,List.map_append]; rfl,fun T' hT'=>?_⟩
 rcases List.mem_append.mp hT' with hT' | hT'
 · obtain ⟨M',t',r',z',s',ms',n',p',th'⟩:=x.ok T' hT'
   exact ⟨M',t',r',z',s',ms',n',p',keep n' (th'.same s1)⟩
 · rw [List.mem_singleton.mp hT']
   exact ⟨M,t,r,z,s,ms,nM,p,keep nM th⟩
theorem iQ {U:ThP} {Q:VK} {H0 H:Hp} {L M T:Addr} {ts:List Addr} (t:TK) {r z s:Int} (ms:List Int) {xs:List V} {wd:List Nat} (hL:H0 L=none) (s1:Same H0 H) (X:IsThs U H L ts) (p:U t r z s ms) (ew:wd=tkC t) (ex:xs=ms.map V.int) (hn:ms.length≤100) (hl:ts.length≤900) (hM:H M=none) (hT:(upd H M (.lst xs)) T=none)
  (k:∀ H',Same H0 H'→(∀ b x,b≠L→H b=some x→H' b=some x)→IsThs U H' L (ts++[T])→Q .non H'):
  a9 (.ref L) [.ref T] (upd (upd H M (.lst xs)) T (.tup [.str (tx wd),.int r,.int z,.int s,.ref M])) Q:=by
 subst ew ex
 have t1:Same H (upd H M (.lst (ms.map V.int))):=(Same.refl H).laid hM
 have eM:(upd H M (.lst (ms.map V.int))) M=some (.lst (ms.map V.int)):=ah
 have th:=qp (t:=t) (r:=r) (z:=z) (s:=s) eM hn hT
 have t2:Same (upd H M (.lst (ms.map V.int))) (upd (upd H M (.lst (ms.map V.int))) T (.tup [.str (tx (tkC t)),.int r,.int z,.int s,.ref M])):=(Same.refl _).laid hT
 have t12:=t1.trans t2
 have nM:M≠L:=fun e=>by rw [e,X.top] at hM; cases hM
 rw [dF (t12 _ _ X.top)]
 refine ⟨by rw [List.length_map]; exact aK (by omega),k _ ((s1.trans t12).own hL) (fun b x nb e=>?_) (X.app t12 th nM p)⟩
 rw [av nb]
 exact t12 _ _ e
def bM (K:PySem.W.Frag):Sp:=fun vs H Q _=>∃ (Ls:Addr) (as:List Addr) (css:List (List Nat)) (h w g n z s:Int),vs=[.int n,.ref Ls,.int z,.int s,.int g]∧IsLN H Ls as css∧css.length=2∧LsOk h w css∧1≤s∧s≤g∧g≤6∧
 ∀ (L:Addr) (ts:List Addr) (H':Hp),Same H H'→IsThs (F30 h w g css z) H' L ts→ts.length≤7→Q (.ref L) H'
theorem mV {K:PySem.W.Frag} {vs:List V} {H:Hp} {Q:VK} {E:XK} (h:bM K vs H Q E):vs.length=5:=by
 obtain ⟨_,_,_,_,_,_,_,_,_,rfl,_⟩:=h; rfl
def wb (K:PySem.W.Frag):TS:=
 (tSeq (tAsg (tOp cAdd (tC (.int 1)) (tOp cMod (tOp cDiv (tVar 0) (tC (.int 7))) (tVar 4))) (gName 10))
  (tIfS (tAnd (tTest (tOp (cEq K) (tOp cAdd (tCB kLen (tCons (tVar 8) tNil)) (tC (.int 1))) (tVar 4))) (tTest (tOp (cNe K) (tVar 10) (tVar 3)))) (tDrop (tBM K "list" a9 (tVar 5) (tCons (tTup (tCons (tC (.str (tx [112,108,97,99,101]))) (tCons (tVar 6) (tCons (tVar 2) (tCons (tVar 3) (tCons (tLst (tCons (tVar 10) tNil)) tNil)))))) tNil))) tNext))
def wc (K:PySem.W.Frag):TS:=
 (tSeq (tIfS (tTest (tOp (cCmp fun i j=>decide (j < i)) (tCB kLen (tCons (tVar 8) tNil)) (tC (.int 1)))) (tSeq (tAsg (tOp cMod (tVar 0) (tOp cSub (tCB kLen (tCons (tVar 8) tNil)) (tC (.int 1)))) (gName 7))
  (tSeq (tAsg (tOp cAdd (tOp cAdd (tVar 7) (tC (.int 1))) (tOp cMod (tOp cDiv (tVar 0) (tC (.int 16))) (tOp cSub (tOp cSub (tCB kLen (tCons (tVar 8) tNil)) (tC (.int 1))) (tVar 7)))) (gName 9))
  (tDrop (tBM K "list" a9 (tVar 5) (tCons (tTup (tCons (tC (.str (tx [112,97,105,114]))) (tCons (tVar 6) (tCons (tVar 2) (tCons (tVar 3) (tCons (tLst (tCons (tOp cIx (tVar 8) (tVar 7)) (tCons (tOp cIx (tVar 8) (tVar 9)) tNil))) tNil)))))) tNil))))) tNext)
  (wb K))
def yq (K:PySem.W.Frag):TS:=
 (tSeq (tIfS (tTest (tOp (cCmp fun i j=>decide (j < i)) (tCB kLen (tCons (tVar 8) tNil)) (tC (.int 0)))) (tDrop (tBM K "list" a9 (tVar 5) (tCons (tTup (tCons (tC (.str (tx [111,110,108,121]))) (tCons (tVar 6) (tCons (tVar 2) (tCons (tVar 3) (tCons (tLst (tCons (tOp cIx (tVar 8) (tOp cMod (tVar 0) (tCB kLen (tCons (tVar 8) tNil)))) tNil)) tNil)))))) tNil))) tNext)
  (wc K))
def da (K:PySem.W.Frag):TS:=
 (tSeq (tAsg (tLst (tCons (tTup (tCons (tC (.str (tx [99,108,117,101]))) (tCons (tC (.int 0)) (tCons (tVar 2) (tCons (tVar 3) (tCons (tLst tNil) tNil)))))) tNil)) (gName 5))
  (tSeq (tFor (di (tCons (tC (.int 2)) tNil)) (gName 6)
  (tIfS (tTest (tOp (cIn K false) (tVar 2) (tOp cIx (tVar 1) (tVar 6)))) (tSeq (sComp 8 [none,none,some 2] (iList K (tOp cIx (tVar 1) (tVar 6))) (gName 1) (tTest (tOp (cNe K) (tVar 1) (tVar 2))) (tVar 1))
  (yq K)) tNext))
  (tRet (tVar 5))))
theorem tX {K:PySem.W.Frag} {D:Ends} {H0 H:Hp} {Ls L Sp:Addr} {css:List (List Nat)} {cs:List Nat} {ts:List Addr} {h w g n z s:Int} {i:Nat} {v7 v9 v10:Option V} (hL:H0 L=none) (s1:Same H0 H) (X:IsThs (F30 h w g css z) H L ts) (eSp:H Sp=some (.lst ((aS cs z).map V.int))) (ec:css[i]? =some cs) (hz:z∈b9 cs) (hl:ts.length≤100) (s0:1≤s) (sg:s≤g)
  (q:∀ (ts':List Addr) (v10:Option V) (H':Hp),Same H0 H'→IsThs (F30 h w g css z) H' L ts'→ts'.length≤ts.length+1→D.nx [some (.int n),some (.ref Ls),some (.int z),some (.int s),some (.int g),some (.ref L),some (.int (i:Int)),v7,some (.ref Sp),v9,v10] H'):
  wb K D [some (.int n),some (.ref Ls),some (.int z),some (.int s),some (.int g),some (.ref L),some (.int (i:Int)),v7,some (.ref Sp),v9,v10] H:=by
 unfold wb
 walk_at "w"
 refine ⟨⟨by decide,by decide⟩,?_⟩
 refine ⟨by omega,?_⟩
 have b0:=Int.emod_nonneg (n / 7) (show g≠0 by omega)
 have b1:=Int.emod_lt_of_pos (n / 7) (show 0 < g by omega)
 generalize n / 7 % g=x at*
 rw [aA]
 walk_at "w"
 rw [bi eSp,List.length_map]
 walk_at "w"
 by_cases c1:((aS cs z).length:Int)+1=g
 · rw [decide_eq_true c1]
   walk_at "w"
   by_cases c2:1+x=s
   · rw [decide_eq_true c2]
     walk_at "w"
     exact q ts _ _ s1 X (by omega)
   · rw [decide_eq_false c2]
     walk_at "w"
     refine ⟨bn X.top,?_⟩
     walk_at "w"
     refine ⟨aD (by show (1:Nat)≤1000; decide),fun M hM=>?_⟩
     refine ⟨aD (by show (5:Nat)≤1000; decide),fun T hT=>?_⟩
     exact iQ .place [1+x] hL s1 X ⟨rfl,s0,sg,.place ec hz c1 (by omega) (by omega) c2⟩ rfl rfl (by show (1:Nat)≤100; decide) (by omega) hM hT fun H' s2 _ X2=>q _ _ H' s2 X2 (by simp)
 · rw [decide_eq_false c1]
   walk_at "w"
   exact q ts _ _ s1 X (by omega)
theorem tY {K:PySem.W.Frag} {D:Ends} {H0 H:Hp} {Ls L Sp:Addr} {css:List (List Nat)} {cs:List Nat} {ts:List Addr} {h w g n z s:Int} {i:Nat} {v7 v9 v10:Option V} (hL:H0 L=none) (s1:Same H0 H) (X:IsThs (F30 h w g css z) H L ts) (eSp:H Sp=some (.lst ((aS cs z).map V.int))) (nSp:Sp≠L) (ec:css[i]? =some cs) (hz:z∈b9 cs) (hl:ts.length≤99) (s0:1≤s) (sg:s≤g)
  (q:∀ (ts':List Addr) (v7 v9 v10:Option V) (H':Hp),Same H0 H'→IsThs (F30 h w g css z) H' L ts'→ts'.length≤ts.length+2→D.nx [some (.int n),some (.ref Ls),some (.int z),some (.int s),some (.int g),some (.ref L),some (.int (i:Int)),v7,some (.ref Sp),v9,v10] H'):
  wc K D [some (.int n),some (.ref Ls),some (.int z),some (.int s),some (.int g),some (.ref L),some (.int (i:Int)),v7,some (.ref Sp),v9,v10] H:=by
 unfold wc
 rw [aP,aA]
 walk_at "w"
 rw [bi eSp,List.length_map]
 walk_at "w"
 by_cases c1:(1:Int) < ((aS cs z).length:Int)
 · rw [decide_eq_true c1]
   walk_at "w"
   rw [bi eSp,List.length_map]
   walk_at "w"
   refine ⟨by omega,?_⟩
   have b0:=Int.emod_nonneg n (show ((aS cs z).length:Int) - 1≠0 by omega)
   have b1:=Int.emod_lt_of_pos n (show (0:Int) < ((aS cs z).length:Int) - 1 by omega)
   generalize n % (((aS cs z).length:Int) - 1)=j at*
   refine ⟨⟨by decide,by decide⟩,?_⟩
   rw [bi eSp,List.length_map]
   walk_at "w"
   refine ⟨by omega,?_⟩
   have d0:=Int.emod_nonneg (n / 16) (show ((aS cs z).length:Int) - 1 - j≠0 by omega)
   have d1:=Int.emod_lt_of_pos (n / 16) (show (0:Int) < ((aS cs z).length:Int) - 1 - j by omega)
   generalize n / 16 % (((aS cs z).length:Int) - 1 - j)=e at*
   refine ⟨bn X.top,?_⟩
   refine ixI eSp b0 (by omega) ?_
   walk_at "w"
   refine ixI eSp (by omega) (by omega) ?_
   walk_at "w"
   refine ⟨aD (by show (2:Nat)≤1000; decide),fun M hM=>?_⟩
   refine ⟨aD (by show (5:Nat)≤1000; decide),fun T hT=>?_⟩
   refine iQ .pair [(aS cs z).getD j.toNat 0,(aS cs z).getD (j+1+e).toNat 0] hL s1 X ⟨rfl,s0,sg,.pair ec hz (by omega) (by omega)⟩ rfl rfl (by show (2:Nat)≤100; decide) (by omega) hM hT fun H' s2 kp X2=>?_
   walk_at "w"
   exact tX hL s2 X2 (kp _ _ nSp eSp) ec hz (by simp; omega) s0 sg fun ts' v10 H3 s3 X3 l3=>q ts' _ _ _ H3 s3 X3 (by simp at l3; omega)
 · rw [decide_eq_false c1]
   walk_at "w"
   exact tX hL s1 X eSp ec hz (by omega) s0 sg fun ts' v10 H3 s3 X3 l3=>q ts' _ _ _ H3 s3 X3 (by omega)
theorem zi {K:PySem.W.Frag} {D:Ends} {H0 H:Hp} {Ls L Sp:Addr} {css:List (List Nat)} {cs:List Nat} {ts:List Addr} {h w g n z s:Int} {i:Nat} {v7 v9 v10:Option V} (hL:H0 L=none) (s1:Same H0 H) (X:IsThs (F30 h w g css z) H L ts) (eSp:H Sp=some (.lst ((aS cs z).map V.int))) (nSp:Sp≠L) (ec:css[i]? =some cs) (hz:z∈b9 cs) (hl:ts.length≤98) (s0:1≤s) (sg:s≤g)
  (q:∀ (ts':List Addr) (v7 v9 v10:Option V) (H':Hp),Same H0 H'→IsThs (F30 h w g css z) H' L ts'→ts'.length≤ts.length+3→D.nx [some (.int n),some (.ref Ls),some (.int z),some (.int s),some (.int g),some (.ref L),some (.int (i:Int)),v7,some (.ref Sp),v9,v10] H'):
  yq K D [some (.int n),some (.ref Ls),some (.int z),some (.int s),some (.int g),some (.ref L),some (.int (i:Int)),v7,some (.ref Sp),v9,v10] H:=by
 unfold yq
 rw [aP,aA]
 walk_at "w"
 rw [bi eSp,List.length_map]
 walk_at "w"
 by_cases c1:(0:Int) < ((aS cs z).length:Int)
 · rw [decide_eq_true c1]
   walk_at "w"
   refine ⟨bn X.top,?_⟩
   rw [bi eSp,List.length_map]
   walk_at "w"
   refine ⟨by omega,?_⟩
   have b0:=Int.emod_nonneg n (show ((aS cs z).length:Int)≠0 by omega)
   have b1:=Int.emod_lt_of_pos n c1
   generalize n % ((aS cs z).length:Int)=j at*
   refine ixI eSp b0 b1 ?_
   walk_at "w"
   have hx:(aS cs z).getD j.toNat 0∈aS cs z:=by
    rw [List.getD,List.getElem?_eq_getElem (by omega)]
    exact List.getElem_mem _
   refine ⟨aD (by show (1:Nat)≤1000; decide),fun M hM=>?_⟩
   refine ⟨aD (by show (5:Nat)≤1000; decide),fun T hT=>?_⟩
   refine iQ .only [(aS cs z).getD j.toNat 0] hL s1 X ⟨rfl,s0,sg,.only ec hz hx⟩ rfl rfl (by show (1:Nat)≤100; decide) (by omega) hM hT fun H' s2 kp X2=>?_
   walk_at "w"
   exact tY hL s2 X2 (kp _ _ nSp eSp) nSp ec hz (by simp; omega) s0 sg fun ts' v7 v9 v10 H3 s3 X3 l3=>q ts' _ _ _ H3 s3 X3 (by simp at l3; omega)
 · rw [decide_eq_false c1]
   walk_at "w"
   exact tY hL s1 X eSp nSp ec hz (by omega) s0 sg fun ts' v7 v9 v10 H3 s3 X3 l3=>q ts' _ _ _ H3 s3 X3 (by omega)
theorem mW {K:PySem.W.Frag} {vs:List V} {H:Hp} {Q:VK} {E:XK} (h:bM K vs H Q E):da K { nx:=fun _ H'=>Q .non H',rt:=Q } (start ["_law_number","_law_lists_here","_law_cell","_law_sign","_law_signs","_law_found","_law_rule","_law_one","_law_spots","_law_other","_law_place"] vs) H:=by
 obtain ⟨Ls,as,css,h,w,g,n,z,s,rfl,ll,n2,lo,s0,sg,g6,q⟩:=h
 have al:as.length=2:=by rw [ll.len,n2]
 show da K _ [some (.int n),some (.ref Ls),some (.int z),some (.int s),some (.int g),none,none,none,none,none,none] H
 unfold da
 walk_at "w"
 refine ⟨aD (by decide),fun M hM=>?_⟩
 refine ⟨aD (by show (5:Nat)≤1000; decide),fun T hT=>?_⟩
 refine ⟨aD (by show (1:Nat)≤1000; decide),fun L hL=>?_⟩
 have t1:Same H (upd H M (.lst [])):=(Same.refl H).laid hM
 have eM:(upd H M (.lst [])) M=some (.lst (([]:List Int).map V.int)):=ah
 generalize upd H M (.lst [])=H1 at*
 have t2:Same H1 (upd H1 T (.tup [V.str (tx (tkC .clue)),V.int 0,V.int z,V.int s,V.ref M])):=(Same.refl H1).laid hT
 have Th:IsTh (upd H1 T (.tup [V.str (tx (tkC .clue)),V.int 0,V.int z,V.int s,V.ref M])) T M .clue 0 z s []:=qp eM (by decide) hT
 generalize hHq:upd H1 T (.tup [V.str (tx (tkC .clue)),V.int 0,V.int z,V.int s,V.ref M])=H2 at*
 have hHq':upd H1 T (.tup [V.str (tx [99,108,117,101]),V.int 0,V.int z,V.int s,V.ref M])=H2:=hHq
 rw [hHq'] at hL ⊢
 have X0:IsThs (F30 h w g css z) (upd H2 L (.lst [V.ref T])) L [T]:=oX (ts:=[T]) hL fun T' hT'=>by
  rw [List.mem_singleton.mp hT']
  exact ⟨M,.clue,0,z,s,[],⟨rfl,s0,sg,.clue⟩,Th⟩
 have t12:=t1.trans t2
 have hL0:H L=none:=t12.free hL
 have s0':Same H (upd H2 L (.lst [V.ref T])):=t12.trans ((Same.refl H2).laid hL)
 generalize upd H2 L (.lst [V.ref T])=H3 at*
 refine ⟨2,rfl,by decide,by decide,?_⟩
 refine fw (fun i σ H'=>∃ (v6 v7 v8 v9 v10:Option V) (ts:List Addr),σ=[some (.int n),some (.ref Ls),some (.int z),some (.int s),some (.int g),some (.ref L),v6,v7,v8,v9,v10]∧Same H H'∧IsThs (F30 h w g css z) H' L ts∧ts.length≤1+3*i) ⟨none,none,none,none,none,[T],rfl,s0',X0,by show (1:Nat)≤1; decide⟩ ?_ ?_
 · rintro i σ H4 hi ⟨v6,v7,v8,v9,v10,ts,rfl,s1,X,hl⟩
   have hi2:i < 2:=hi
   have ea:as[i]? =some as[i]:=List.getElem?_eq_getElem (by omega)
   have ec:css[i]? =some css[i]:=List.getElem?_eq_getElem (by omega)
   have l1:=ll.same s1
   have eC:H4 as[i]=some (.lst ((b9 css[i]).map V.int)):=l1.at_ i _ _ ea ec
   have cn:=(lo _ (List.getElem_mem (show i < css.length by omega))).2.2.1
   generalize css[i]=cs at*
   have zl:(b9 cs).length≤16:=by rw [List.length_map]; exact cn
   rw [Int.zero_add]
   walk_at "w"
   rw [aA]
   walk_at "w"
   refine ixL l1.top (v:=V.ref as[i]) (dn (by rw [List.getElem?_map,ea]; rfl)) ?_
   walk_at "w"
   rw [oA eC]
   walk_at "w"
   by_cases hz:z∈b9 cs
   · rw [decide_eq_true hz]
     walk_at "w"
     refine ixL l1.top (v:=V.ref as[i]) (dn (by rw [List.getElem?_map,ea]; rfl)) ?_
     walk_at "w"
     refine ⟨⟨_,SqL.of eC⟩,?_⟩
     refine bP (xs:=b9 cs) (fun x=>!decide (x=z)) (fun x=>x) (by omega) (SqL.of eC) ?_ ?_ ?_
     · intro y H5 R hy s5 k5
       show tTest _ [none,some (.int y),some (.int z)] H5 R
       walk_at "w"
       exact k5 _ (Same.refl _)
     · intro y H5 Q5 hy hb s5 k5
       show tVar 1 [none,some (.int y),some (.int z)] H5 Q5
       walk_at "w"
       exact k5 _ (Same.refl _)
     · intro Sp H5 hSp s5 eSp
       rw [List.map_id'] at eSp
       have nSp:Sp≠L:=fun e=>by rw [e,X.top] at hSp; cases hSp
       walk_at "w"
       exact zi hL0 (s1.trans s5) (X.same s5) eSp nSp ec hz (by omega) s0 sg fun ts' u7 u9 u10 H6 s6 X6 l6=>⟨_,_,_,_,_,ts',rfl,s6,X6,by omega⟩
   · rw [decide_eq_false hz]
     walk_at "w"
     exact ⟨_,_,_,_,_,ts,rfl,s1,X,by omega⟩
 · rintro σ H4 ⟨v6,v7,v8,v9,v10,ts,rfl,s1,X,hl⟩
   walk_at "w"
   exact q L ts H4 s1 X hl
structure G30 (H:Hp) (p A O:Addr) (masks gs:List Int) (h w g z s:Int):Prop where
 fl:IsFl H p h w g
 F:FlOk h w g
 aa:H A=some (.lst (masks.map V.int))
 ml:masks.length=(h*w).toNat
 mm:∀ m∈masks,0≤m∧m < 64
 oo:H O=some (.lst (gs.map V.int))
 g3:gs.length=3
 gg:∀ x∈gs,1≤x∧x≤g
 z0:0≤z
 z1:z < h*w
 s0:1≤s
 s1:s≤g
theorem G30.same {H H':Hp} {p A O:Addr} {masks gs:List Int} {h w g z s:Int} (x:G30 H p A O masks gs h w g z s) (e:Same H H'):G30 H' p A O masks gs h w g z s:=⟨e _ _ x.fl,x.F,e _ _ x.aa,x.ml,x.mm,e _ _ x.oo,x.g3,x.gg,x.z0,x.z1,x.s0,x.s1⟩
theorem G30.at_ {H:Hp} {p A O:Addr} {masks gs:List Int} {h w g z s:Int} (x:G30 H p A O masks gs h w g z s) {j:Nat} (hj:j < 3):1≤gs.getD j 0∧gs.getD j 0≤g:=by
 have:=x.g3
 rw [List.getD,List.getElem?_eq_getElem (by omega)]
 exact x.gg _ (List.getElem_mem _)
def bx (K:PySem.W.Frag):Sp:=fun vs H Q _=>∃ (p A O:Addr) (css:List (List Nat)) (masks gs:List Int) (h w g n z s:Int),vs=[.int n,.ref p,.ref A,.ref O,.int z,.int s]∧G30 H p A O masks gs h w g z s∧
 ∀ (L:Addr) (ts:List Addr) (H':Hp),Same H H'→IsThs (F30 h w g css z) H' L ts→ts.length≤8→Q (.ref L) H'
theorem lN {K:PySem.W.Frag} {vs:List V} {H:Hp} {Q:VK} {E:XK} (h:bx K vs H Q E):vs.length=6:=by
 obtain ⟨_,_,_,_,_,_,_,_,_,_,_,_,rfl,_⟩:=h; rfl
def yr (K:PySem.W.Frag):TS:=
 (tIfS (tTest (tOp (cIn K false) (tVar 4) (tLst (tCons (tVar 14) (tCons (tOp cAdd (tVar 14) (tC (.int 1))) (tCons (tOp cAdd (tVar 14) (tOp cIx (tVar 1) (tC (.int 1)))) (tCons (tOp cAdd (tOp cAdd (tVar 14) (tOp cIx (tVar 1) (tC (.int 1)))) (tC (.int 1))) tNil))))))) (tDrop (tBM K "list" a9 (tVar 7) (tCons (tTup (tCons (tC (.str (tx [115,113,117,97,114,101]))) (tCons (tC (.int 4)) (tCons (tVar 4) (tCons (tOp cIx (tVar 3) (tC (.int 2))) (tCons (tLst (tCons (tVar 14) tNil)) tNil)))))) tNil))) tNext)
def we (K:PySem.W.Frag):TS:=
 (tIfS (tAnd (tTest (tOp (cNe K) (tVar 10) (tVar 12))) (tTest (tOp (cNe K) (tVar 5) (tVar 9)))) (tDrop (tBM K "list" a9 (tVar 7) (tCons (tTup (tCons (tC (.str (tx [114,101,97,99,104]))) (tCons (tVar 8) (tCons (tVar 4) (tCons (tVar 5) (tCons (tLst (tCons (tVar 10) (tCons (tVar 12) tNil))) tNil)))))) tNil))) tNext)
def yt (K:PySem.W.Frag):TS:=
 (tIfS (tTest (tOp (cCmp fun i j=>decide (j < i)) (tCB kLen (tCons (tVar 11) tNil)) (tC (.int 0)))) (tSeq (tAsg (tOp cIx (tVar 11) (tOp cMod (tOp cDiv (tVar 0) (tC (.int 9))) (tCB kLen (tCons (tVar 11) tNil)))) (gName 10))
  (tSeq (tAsg (tOp cIx (tVar 11) (tOp cMod (tOp cDiv (tVar 0) (tC (.int 144))) (tCB kLen (tCons (tVar 11) tNil)))) (gName 12))
  (tSeq (tDrop (tBM K "list" a9 (tVar 7) (tCons (tTup (tCons (tC (.str (tx [114,101,97,99,104]))) (tCons (tVar 8) (tCons (tVar 4) (tCons (tVar 9) (tCons (tLst (tCons (tVar 10) tNil)) tNil)))))) tNil)))
  (we K)))) tNext)
def cR (K:PySem.W.Frag):TS:=
 (tSeq (tIfS (tAnd (tTest (tOp (cCmp fun i j=>decide (j≤i)) (tVar 14) (tC (.int 0)))) (tAnd (tTest (tOp (cCmp fun i j=>decide (i < j)) (tOp cAdd (tVar 15) (tC (.int 1))) (tOp cIx (tVar 1) (tC (.int 0))))) (tTest (tOp (cCmp fun i j=>decide (i < j)) (tOp cAdd (tVar 16) (tC (.int 1))) (tOp cIx (tVar 1) (tC (.int 1))))))) (yr K) tNext)
  (tRet (tVar 7)))
def cS (K:PySem.W.Frag):TS:=
 (tSeq (tAsg (tOp cSub (tVar 4) (tOp cIx (tLst (tCons (tC (.int 0)) (tCons (tC (.int 1)) (tCons (tOp cIx (tVar 1) (tC (.int 1))) (tCons (tOp cAdd (tOp cIx (tVar 1) (tC (.int 1))) (tC (.int 1))) tNil))))) (tOp cMod (tOp cDiv (tVar 0) (tC (.int 13))) (tC (.int 4))))) (gName 14))
  (tSeq (tAsg (tCB lh (tCons (tVar 14) (tCons (tOp cIx (tVar 1) (tC (.int 1))) tNil))) (gTup K 2 (gCons (gName 15) (gCons (gName 16) gNil))))
  (cR K)))
def cT (K:PySem.W.Frag):TS:=
 (tSeq (tAsg (tCall (bT K) [] E0 (tCons (tVar 1) (tCons (tVar 4) tNil))) (gName 13))
  (tSeq (tIfS (tTest (tOp (cNe K) (tVar 13) (tLst tNil))) (tSeq (tAsg (tOp cIx (tVar 13) (tOp cMod (tOp cDiv (tVar 0) (tC (.int 11))) (tCB kLen (tCons (tVar 13) tNil)))) (gName 10))
  (tAsg (tOp cAdd (tVar 7) (tLst (tCons (tTup (tCons (tC (.str (tx [116,117,114,110]))) (tCons (tC (.int 3)) (tCons (tVar 4) (tCons (tOp cIx (tVar 3) (tC (.int 1))) (tCons (tLst (tCons (tVar 10) tNil)) tNil)))))) (tCons (tTup (tCons (tC (.str (tx [116,117,114,110]))) (tCons (tC (.int 3)) (tCons (tVar 4) (tCons (tVar 5) (tCons (tLst (tCons (tVar 10) tNil)) tNil)))))) tNil)))) (gName 7))) tNext)
  (cS K)))
def cH (K:PySem.W.Frag):TS:=
 (tSeq (tAsg (tOp cMul (tOp cIx (tVar 1) (tC (.int 0))) (tOp cIx (tVar 1) (tC (.int 1)))) (gName 6))
  (tSeq (tAsg (tLst (tCons (tTup (tCons (tC (.str (tx [116,117,114,110]))) (tCons (tC (.int 3)) (tCons (tVar 4) (tCons (tOp cIx (tVar 3) (tC (.int 1))) (tCons (tLst tNil) tNil)))))) tNil)) (gName 7))
  (tSeq (tFor (iTup K (tTup (tCons (tC (.int 2)) (tCons (tC (.int 3)) tNil)))) (gName 8)
  (tSeq (tAsg (tOp cIx (tVar 3) (tOp cSub (tVar 8) (tC (.int 2)))) (gName 9))
  (tSeq (sComp 11 [none,none,some 4,some 9,some 2,some 0] (di (tCons (tVar 6) tNil)) (gName 1) (tAnd (tTest (tOp (cNe K) (tVar 1) (tVar 2))) (tOr (tB (tCall (dA K) [] E0 (tCons (tOp cIx (tVar 4) (tVar 1)) (tCons (tVar 3) tNil)))) (tTest (tOp (cEq K) (tOp cMod (tVar 5) (tC (.int 9))) (tC (.int 8)))))) (tVar 1))
  (yt K))))
  (cT K))))
theorem zj {K:PySem.W.Frag} {D:Ends} {H0 H:Hp} {p A O L:Addr} {css:List (List Nat)} {masks gs:List Int} {ts:List Addr} {h w g n z s x:Int} {v8 v9 v10 v11 v12 v13:Option V} (X:G30 H0 p A O masks gs h w g z s) (hL:H0 L=none) (s1:Same H0 H) (Y:IsThs (F30 h w g css z) H L ts) (hl:ts.length≤100) (x0:0≤x) (xr:x / w+1 < h) (xc:x % w+1 < w)
  (q:∀ (ts':List Addr) (H':Hp),Same H0 H'→IsThs (F30 h w g css z) H' L ts'→ts'.length≤ts.length+1→D.nx [some (.int n),some (.ref p),some (.ref A),some (.ref O),some (.int z),some (.int s),some (.int (h*w)),some (.ref L),v8,v9,v10,v11,v12,v13,some (.int x),some (.int (x / w)),some (.int (x % w))] H'):
  yr K D [some (.int n),some (.ref p),some (.ref A),some (.ref O),some (.int z),some (.int s),some (.int (h*w)),some (.ref L),v8,v9,v10,v11,v12,v13,some (.int x),some (.int (x / w)),some (.int (x % w))] H:=by
 have X1:=X.same s1
 unfold yr
 rw [aA]
 walk_at "w"
 refine ixT X1.fl (v:=V.int w) rfl ?_
 walk_at "w"
 refine ixT X1.fl (v:=V.int w) rfl ?_
 walk_at "w"
 refine ⟨aD (by show (4:Nat)≤1000; decide),fun W hW=>?_⟩
 have t1:Same H (upd H W (.lst [V.int x,V.int (x+1),V.int (x+w),V.int (x+w+1)])):=(Same.refl H).laid hW
 have eW:(upd H W (.lst [V.int x,V.int (x+1),V.int (x+w),V.int (x+w+1)])) W=some (.lst (([x,x+1,x+w,x+w+1]:List Int).map V.int)):=ah
 generalize upd H W (.lst [V.int x,V.int (x+1),V.int (x+w),V.int (x+w+1)])=H1 at*
 rw [oA eW]
 walk_at "w"
 have s2:=s1.trans t1
 have X2:=X.same s2
 have Y2:=Y.same t1
 have hg:=X.at_ (j:=2) (by decide)
 by_cases hz:z∈[x,x+1,x+w,x+w+1]
 · rw [decide_eq_true hz]
   walk_at "w"
   refine ⟨bn Y2.top,?_⟩
   refine ixI X2.oo (by decide) (by have:=X.g3; omega) ?_
   walk_at "w"
   refine ⟨aD (by show (1:Nat)≤1000; decide),fun M hM=>?_⟩
   refine ⟨aD (by show (5:Nat)≤1000; decide),fun T hT=>?_⟩
   exact iQ .square [x] hL s2 Y2 ⟨rfl,hg.1,hg.2,.square x0 xr xc hz⟩ rfl rfl (by show (1:Nat)≤100; decide) (by omega) hM hT fun H' s3 _ Y3=>q _ H' s3 Y3 (by simp)
 · rw [decide_eq_false hz]
   walk_at "w"
   exact q ts _ s2 Y2 (by omega)
theorem kn {K:PySem.W.Frag} {Q:VK} {H0 H:Hp} {p A O L:Addr} {css:List (List Nat)} {masks gs:List Int} {ts:List Addr} {h w g n z s x:Int} {v8 v9 v10 v11 v12 v13:Option V} (X:G30 H0 p A O masks gs h w g z s) (hL:H0 L=none) (s1:Same H0 H) (Y:IsThs (F30 h w g css z) H L ts) (hl:ts.length≤7)
  (q:∀ (L:Addr) (ts:List Addr) (H':Hp),Same H0 H'→IsThs (F30 h w g css z) H' L ts→ts.length≤8→Q (.ref L) H'):
  cR K { nx:=fun _ H'=>Q .non H',rt:=Q } [some (.int n),some (.ref p),some (.ref A),some (.ref O),some (.int z),some (.int s),some (.int (h*w)),some (.ref L),v8,v9,v10,v11,v12,v13,some (.int x),some (.int (x / w)),some (.int (x % w))] H:=by
 have X1:=X.same s1
 have fin:∀ (ts':List Addr) (H':Hp),Same H0 H'→IsThs (F30 h w g css z) H' L ts'→ts'.length≤ts.length+1→tRet (tVar 7) { nx:=fun _ H'=>Q .non H',rt:=Q } [some (.int n),some (.ref p),some (.ref A),some (.ref O),some (.int z),some (.int s),some (.int (h*w)),some (.ref L),v8,v9,v10,v11,v12,v13,some (.int x),some (.int (x / w)),some (.int (x % w))] H':=fun ts' H' s2 Y2 l2=>by
  walk_at "w"
  exact q L ts' H' s2 Y2 (by omega)
 unfold cR
 rw [aP,aA]
 walk_at "w"
 by_cases c1:0≤x
 · rw [decide_eq_true c1]
   walk_at "w"
   refine ixT X1.fl (v:=V.int h) rfl ?_
   walk_at "w"
   by_cases c2:x / w+1 < h
   · rw [decide_eq_true c2]
     walk_at "w"
     refine ixT X1.fl (v:=V.int w) rfl ?_
     walk_at "w"
     by_cases c3:x % w+1 < w
     · rw [decide_eq_true c3]
       walk_at "w"
       exact zj X hL s1 Y (by omega) c1 c2 c3 fin
     · rw [decide_eq_false c3]
       walk_at "w"
       exact q L ts H s1 Y (by omega)
   · rw [decide_eq_false c2]
     walk_at "w"
     exact q L ts H s1 Y (by omega)
 · rw [decide_eq_false c1]
   walk_at "w"
   exact q L ts H s1 Y (by omega)
theorem fX {K:PySem.W.Frag} {Q:VK} {H0 H:Hp} {p A O L:Addr} {css:List (List Nat)} {masks gs:List Int} {ts:List Addr} {h w g n z s:Int} {v8 v9 v10 v11 v12 v13:Option V} (X:G30 H0 p A O masks gs h w g z s) (hL:H0 L=none) (s1:Same H0 H) (Y:IsThs (F30 h w g css z) H L ts) (hl:ts.length≤7)
  (q:∀ (L:Addr) (ts:List Addr) (H':Hp),Same H0 H'→IsThs (F30 h w g css z) H' L ts→ts.length≤8→Q (.ref L) H'):
  cS K { nx:=fun _ H'=>Q .non H',rt:=Q } [some (.int n),some (.ref p),some (.ref A),some (.ref O),some (.int z),some (.int s),some (.int (h*w)),some (.ref L),v8,v9,v10,v11,v12,v13,none,none,none] H:=by
 have X1:=X.same s1
 have w0:=X.F.w0
 have w6:=X.F.w1
 unfold cS
 walk_at "w"
 refine ixT X1.fl (v:=V.int w) rfl ?_
 walk_at "w"
 refine ixT X1.fl (v:=V.int w) rfl ?_
 walk_at "w"
 refine ⟨aD (by show (4:Nat)≤1000; decide),fun W hW=>?_⟩
 have t1:Same H (upd H W (.lst [V.int 0,V.int 1,V.int w,V.int (w+1)])):=(Same.refl H).laid hW
 have eW:(upd H W (.lst [V.int 0,V.int 1,V.int w,V.int (w+1)])) W=some (.lst [V.int 0,V.int 1,V.int w,V.int (w+1)]):=ah
 generalize upd H W (.lst [V.int 0,V.int 1,V.int w,V.int (w+1)])=H1 at*
 refine ⟨⟨by decide,by decide⟩,?_⟩
 refine ⟨by decide,?_⟩
 obtain ⟨v,hv⟩:∃ v:Int,atI [V.int 0,V.int 1,V.int w,V.int (w+1)] (n / 13 % 4)=some (V.int v):=by
  have e:n / 13 % 4=0∨n / 13 % 4=1∨n / 13 % 4=2∨n / 13 % 4=3:=by omega
  rcases e with e | e | e | e <;> rw [e]
  · exact ⟨0,rfl⟩
  · exact ⟨1,rfl⟩
  · exact ⟨w,rfl⟩
  · exact ⟨w+1,rfl⟩
 refine ixL eW hv ?_
 walk_at "w"
 generalize z - v=x at*
 have s2:=s1.trans t1
 have X2:=X.same s2
 refine ixT X2.fl (v:=V.int w) rfl ?_
 walk_at "w"
 rw [tN]
 refine ⟨⟨by omega,by omega⟩,fun T hT=>?_⟩
 have t2:Same H1 (upd H1 T (.tup [.int (x / w),.int (x % w)])):=(Same.refl H1).laid hT
 have eT:(upd H1 T (.tup [.int (x / w),.int (x % w)])) T=some (.tup [.int (x / w),.int (x % w)]):=ah
 generalize upd H1 T (.tup [.int (x / w),.int (x % w)])=H2 at*
 refine sQ eT rfl ?_
 rw [oF]
 walk_at "w"
 exact kn X hL (s2.trans t2) (Y.same (t1.trans t2)) hl q
theorem ko {K:PySem.W.Frag} {Q:VK} {H0 H:Hp} {p A O L:Addr} {css:List (List Nat)} {masks gs:List Int} {ts:List Addr} {h w g n z s:Int} {v8 v9 v10 v11 v12:Option V} (X:G30 H0 p A O masks gs h w g z s) (hL:H0 L=none) (s1:Same H0 H) (Y:IsThs (F30 h w g css z) H L ts) (hl:ts.length≤5)
  (q:∀ (L:Addr) (ts:List Addr) (H':Hp),Same H0 H'→IsThs (F30 h w g css z) H' L ts→ts.length≤8→Q (.ref L) H'):
  cT K { nx:=fun _ H'=>Q .non H',rt:=Q } [some (.int n),some (.ref p),some (.ref A),some (.ref O),some (.int z),some (.int s),some (.int (h*w)),some (.ref L),v8,v9,v10,v11,v12,none,none,none,none] H:=by
 have X1:=X.same s1
 unfold cT
 walk_at "w"
 refine ⟨p,h,w,g,z,rfl,X1.fl,X.F,fun N H1 t1 hN eN=>?_⟩
 have s2:=s1.trans t1
 have X2:=X.same s2
 have Y2:=Y.same t1
 walk_at "w"
 rw [aA]
 walk_at "w"
 refine ⟨aD (by decide),fun Z hZ=>?_⟩
 have t2:Same H1 (upd H1 Z (.lst [])):=(Same.refl H1).laid hZ
 have eZ:(upd H1 Z (.lst [])) Z=some (.lst (([]:List Int).map V.int)):=ah
 generalize upd H1 Z (.lst [])=H2 at*
 have s3:=s2.trans t2
 have X3:=X.same s3
 have Y3:=Y2.same t2
 have eN3:=t2 _ _ eN
 refine nE eN3 eZ ?_
 walk_at "w"
 by_cases c1:nearL h w z=[]
 · rw [decide_eq_true c1]
   walk_at "w"
   exact fX X hL s3 Y3 (by omega) q
 · rw [decide_eq_false c1]
   walk_at "w"
   have np:0 < (nearL h w z).length:=List.length_pos_iff.mpr c1
   refine ⟨⟨by decide,by decide⟩,?_⟩
   rw [bi eN3,List.length_map]
   walk_at "w"
   refine ⟨by omega,?_⟩
   have b0:=Int.emod_nonneg (n / 11) (show ((nearL h w z).length:Int)≠0 by omega)
   have b1:=Int.emod_lt_of_pos (n / 11) (show (0:Int) < ((nearL h w z).length:Int) by omega)
   generalize n / 11 % ((nearL h w z).length:Int)=j at*
   refine ixI eN3 b0 b1 ?_
   walk_at "w"
   have hx:(nearL h w z).getD j.toNat 0∈nearL h w z:=by
    rw [List.getD,List.getElem?_eq_getElem (by omega)]
    exact List.getElem_mem _
   generalize (nearL h w z).getD j.toNat 0=y at*
   have hg:=X.at_ (j:=1) (by decide)
   refine ixI X3.oo (by decide) (by have:=X.g3; omega) ?_
   walk_at "w"
   rw [show gs.getD (1:Int).toNat 0=gs.getD 1 0 from rfl]
   generalize gs.getD 1 0=gl at*
   refine ⟨aD (by show (1:Nat)≤1000; decide),fun M1 hM1=>?_⟩
   have k1:Same H2 (upd H2 M1 (.lst [V.int y])):=(Same.refl H2).laid hM1
   have e1:(upd H2 M1 (.lst [V.int y])) M1=some (.lst (([y]:List Int).map V.int)):=ah
   generalize upd H2 M1 (.lst [V.int y])=H3 at*
   refine ⟨aD (by show (5:Nat)≤1000; decide),fun T1 hT1=>?_⟩
   have k2:Same H3 (upd H3 T1 (.tup [V.str (tx (tkC .turn)),V.int 3,V.int z,V.int gl,V.ref M1])):=(Same.refl H3).laid hT1
   have th1:IsTh (upd H3 T1 (.tup [V.str (tx (tkC .turn)),V.int 3,V.int z,V.int gl,V.ref M1])) T1 M1 .turn 3 z gl [y]:=qp e1 (by show (1:Nat)≤100; decide) hT1
   generalize hHa:upd H3 T1 (.tup [V.str (tx (tkC .turn)),V.int 3,V.int z,V.int gl,V.ref M1])=H4 at*
   have hHa':upd H3 T1 (.tup [V.str (tx [116,117,114,110]),V.int 3,V.int z,V.int gl,V.ref M1])=H4:=hHa
   rw [hHa']
   refine ⟨aD (by show (1:Nat)≤1000; decide),fun M2 hM2=>?_⟩
   have k3:Same H4 (upd H4 M2 (.lst [V.int y])):=(Same.refl H4).laid hM2
   have e2:(upd H4 M2 (.lst [V.int y])) M2=some (.lst (([y]:List Int).map V.int)):=ah
   generalize upd H4 M2 (.lst [V.int y])=H5 at*
   refine ⟨aD (by show (5:Nat)≤1000; decide),fun T2 hT2=>?_⟩
   have k4:Same H5 (upd H5 T2 (.tup [V.str (tx (tkC .turn)),V.int 3,V.int z,V.int s,V.ref M2])):=(Same.refl H5).laid hT2
   have th2:IsTh (upd H5 T2 (.tup [V.str (tx (tkC .turn)),V.int 3,V.int z,V.int s,V.ref M2])) T2 M2 .turn 3 z s [y]:=qp e2 (by show (1:Nat)≤100; decide) hT2
   generalize hHb:upd H5 T2 (.tup [V.str (tx (tkC .turn)),V.int 3,V.int z,V.int s,V.ref M2])=H6 at*
   have hHb':upd H5 T2 (.tup [V.str (tx [116,117,114,110]),V.int 3,V.int z,V.int s,V.ref M2])=H6:=hHb
   rw [hHb']
   refine ⟨aD (by show (2:Nat)≤1000; decide),fun W hW=>?_⟩
   have k5:Same H6 (upd H6 W (.lst [V.ref T1,V.ref T2])):=(Same.refl H6).laid hW
   have e5:(upd H6 W (.lst [V.ref T1,V.ref T2])) W=some (.lst [V.ref T1,V.ref T2]):=ah
   generalize upd H6 W (.lst [V.ref T1,V.ref T2])=H7 at*
   have k15:=(((k1.trans k2).trans k3).trans k4).trans k5
   have s7:=s3.trans k15
   have Y7:=Y3.same k15
   refine lb Y7.top e5 (by rw [List.length_map]; show ts.length+2≤1000; omega) fun N2 hN2=>?_
   have th1':=th1.same ((k3.trans k4).trans k5)
   have th2':=th2.same k5
   have k6:Same H7 (upd H7 N2 (.lst (ts.map V.ref++[V.ref T1,V.ref T2]))):=(Same.refl H7).laid hN2
   have Y8:IsThs (F30 h w g css z) (upd H7 N2 (.lst (ts.map V.ref++[V.ref T1,V.ref T2]))) N2 (ts++[T1,T2]):=by
    have y:=oX (U:=(F30 h w g css z)) (ts:=ts++[T1,T2]) hN2 fun T hT=>by
     rcases List.mem_append.mp hT with hT | hT
     · obtain ⟨M,t,r,z',s',ms,n',p',th⟩:=Y7.ok T hT
       exact ⟨M,t,r,z',s',ms,p',th⟩
     · rcases List.mem_cons.mp hT with rfl | hT
       · exact ⟨M1,.turn,3,z,gl,[y],⟨rfl,hg.1,hg.2,.turn (.inr ⟨y,hx,rfl⟩)⟩,th1'⟩
       · rw [List.mem_singleton.mp hT]
         exact ⟨M2,.turn,3,z,s,[y],⟨rfl,X.s0,X.s1,.turn (.inr ⟨y,hx,rfl⟩)⟩,th2'⟩
    rw [List.map_append] at y
    exact y
   generalize upd H7 N2 (.lst (ts.map V.ref++[V.ref T1,V.ref T2]))=H8 at*
   walk_at "w"
   exact fX X (s7.free hN2) (s7.trans k6) Y8 (by rw [List.length_append]; show ts.length+2≤7; omega) q
theorem yu {K:PySem.W.Frag} {D:Ends} {H0 H:Hp} {p A O L:Addr} {css:List (List Nat)} {masks gs:List Int} {ts:List Addr} {h w g n z s r gl x y:Int} {v11 v13 v14 v15 v16:Option V} (X:G30 H0 p A O masks gs h w g z s) (hL:H0 L=none) (s1:Same H0 H) (Y:IsThs (F30 h w g css z) H L ts) (hl:ts.length≤100) (hr:r=2∨r=3) (hx:0≤x∧x < h*w∧x≠z) (hy:0≤y∧y < h*w∧y≠z)
  (q:∀ (ts':List Addr) (H':Hp),Same H0 H'→(∀ b x,b≠L→H b=some x→H' b=some x)→IsThs (F30 h w g css z) H' L ts'→ts'.length≤ts.length+1→D.nx [some (.int n),some (.ref p),some (.ref A),some (.ref O),some (.int z),some (.int s),some (.int (h*w)),some (.ref L),some (.int r),some (.int gl),some (.int x),v11,some (.int y),v13,v14,v15,v16] H'):
  we K D [some (.int n),some (.ref p),some (.ref A),some (.ref O),some (.int z),some (.int s),some (.int (h*w)),some (.ref L),some (.int r),some (.int gl),some (.int x),v11,some (.int y),v13,v14,v15,v16] H:=by
 unfold we
 rw [aA]
 walk_at "w"
 by_cases c1:x=y
 · rw [decide_eq_true c1]
   walk_at "w"
   exact q ts _ s1 (fun _ _ _ e=>e) Y (by omega)
 · rw [decide_eq_false c1]
   walk_at "w"
   by_cases c2:s=gl
   · rw [decide_eq_true c2]
     walk_at "w"
     exact q ts _ s1 (fun _ _ _ e=>e) Y (by omega)
   · rw [decide_eq_false c2]
     walk_at "w"
     refine ⟨bn Y.top,?_⟩
     walk_at "w"
     refine ⟨aD (by show (2:Nat)≤1000; decide),fun M hM=>?_⟩
     refine ⟨aD (by show (5:Nat)≤1000; decide),fun T hT=>?_⟩
     refine iQ .reach [x,y] hL s1 Y ⟨rfl,X.s0,X.s1,.reach hr (by simp) (by show (2:Nat)≤2; decide) fun v hv=>?_⟩ rfl rfl (by show (2:Nat)≤100; decide) (by omega) hM hT fun H' s3 kp Y3=>q _ H' s3 kp Y3 (by simp)
     rcases List.mem_cons.mp hv with rfl | hv
     · exact hx
     · rw [List.mem_singleton.mp hv]; exact hy
theorem zk {K:PySem.W.Frag} {D:Ends} {H0 H:Hp} {p A O L N:Addr} {css:List (List Nat)} {masks gs must:List Int} {ts:List Addr} {h w g n z s r gl:Int} {v10 v12 v13 v14 v15 v16:Option V} (X:G30 H0 p A O masks gs h w g z s) (hL:H0 L=none) (s1:Same H0 H) (Y:IsThs (F30 h w g css z) H L ts) (hl:ts.length≤99) (hr:r=2∨r=3) (g0:1≤gl) (g1:gl≤g) (eN:H N=some (.lst (must.map V.int))) (hm:∀ x∈must,0≤x∧x < h*w∧x≠z)
  (q:∀ (ts':List Addr) (v10 v12:Option V) (H':Hp),Same H0 H'→(∀ b x,b≠L→H b=some x→H' b=some x)→IsThs (F30 h w g css z) H' L ts'→ts'.length≤ts.length+2→D.nx [some (.int n),some (.ref p),some (.ref A),some (.ref O),some (.int z),some (.int s),some (.int (h*w)),some (.ref L),some (.int r),some (.int gl),v10,some (.ref N),v12,v13,v14,v15,v16] H'):
  yt K D [some (.int n),some (.ref p),some (.ref A),some (.ref O),some (.int z),some (.int s),some (.int (h*w)),some (.ref L),some (.int r),some (.int gl),v10,some (.ref N),v12,v13,v14,v15,v16] H:=by
 unfold yt
 rw [aA]
 walk_at "w"
 rw [bi eN,List.length_map]
 walk_at "w"
 by_cases c1:(0:Int) < (must.length:Int)
 · rw [decide_eq_true c1]
   walk_at "w"
   refine ⟨⟨by decide,by decide⟩,?_⟩
   rw [bi eN,List.length_map]
   walk_at "w"
   refine ⟨by omega,?_⟩
   have el:∀ a:Int,must.getD (a % (must.length:Int)).toNat 0∈must:=fun a=>by
    have b0:=Int.emod_nonneg a (show (must.length:Int)≠0 by omega)
    have b1:=Int.emod_lt_of_pos a c1
    rw [List.getD,List.getElem?_eq_getElem (by omega)]
    exact List.getElem_mem _
   refine ixI eN (Int.emod_nonneg _ (by omega)) (Int.emod_lt_of_pos _ c1) ?_
   walk_at "w"
   have hx:=hm _ (el (n / 9))
   generalize must.getD (n / 9 % (must.length:Int)).toNat 0=x at*
   refine ⟨⟨by decide,by decide⟩,?_⟩
   rw [bi eN,List.length_map]
   walk_at "w"
   refine ⟨by omega,?_⟩
   refine ixI eN (Int.emod_nonneg _ (by omega)) (Int.emod_lt_of_pos _ c1) ?_
   walk_at "w"
   have hy:=hm _ (el (n / 144))
   generalize must.getD (n / 144 % (must.length:Int)).toNat 0=y at*
   refine ⟨bn Y.top,?_⟩
   walk_at "w"
   refine ⟨aD (by show (1:Nat)≤1000; decide),fun M hM=>?_⟩
   refine ⟨aD (by show (5:Nat)≤1000; decide),fun T hT=>?_⟩
   refine iQ .reach [x] hL s1 Y ⟨rfl,g0,g1,.reach hr (by simp) (by show (1:Nat)≤2; decide) fun v hv=>by rw [List.mem_singleton.mp hv]; exact hx⟩ rfl rfl (by show (1:Nat)≤100; decide) (by omega) hM hT fun H' s3 kp Y3=>?_
   walk_at "w"
   exact yu X hL s3 Y3 (by rw [List.length_append]; show ts.length+1≤100; omega) hr hx hy fun ts' H4 s4 kp4 Y4 l4=>q ts' _ _ H4 s4 (fun b x nb e=>kp4 b x nb (kp b x nb e)) Y4 (by rw [List.length_append] at l4; have l5:ts'.length≤ts.length+1+1:=l4; omega)
 · rw [decide_eq_false c1]
   walk_at "w"
   exact q ts _ _ _ s1 (fun _ _ _ e=>e) Y (by omega)
theorem lO {K:PySem.W.Frag} {vs:List V} {H:Hp} {Q:VK} {E:XK} (h:bx K vs H Q E):cH K { nx:=fun _ H'=>Q .non H',rt:=Q } (start ["_law_number","_law_floor_here","_law_masks_here","_law_goals","_law_cell","_law_sign","_law_many","_law_found","_law_rule","_law_goal","_law_one","_law_must","_law_other","_law_near_here","_law_corner","_law_row","_law_column"] vs) H:=by
 obtain ⟨p,A,O,css,masks,gs,h,w,g,n,z,s,rfl,X,q⟩:=h
 obtain ⟨h0,h1,w0,w1,m16,g0,g6⟩:=id X.F
 have mpos:1≤h*w:=Int.le_trans (by omega) (Int.mul_le_mul h0 w0 (by omega) (by omega))
 have g3:=X.g3
 have ml:=X.ml
 show cH K _ [some (.int n),some (.ref p),some (.ref A),some (.ref O),some (.int z),some (.int s),none,none,none,none,none,none,none,none,none,none,none] H
 unfold cH
 walk_at "w"
 refine ixT X.fl (v:=V.int h) rfl ?_
 walk_at "w"
 refine ixT X.fl (v:=V.int w) rfl ?_
 walk_at "w"
 refine ⟨fE h0 h1,?_⟩
 refine ixI X.oo (by decide) (by omega) ?_
 walk_at "w"
 have hg1:=X.at_ (j:=1) (by decide)
 rw [show gs.getD (1:Int).toNat 0=gs.getD 1 0 from rfl]
 generalize hgl:gs.getD 1 0=gl1 at*
 refine ⟨aD (by decide),fun M hM=>?_⟩
 refine ⟨aD (by show (5:Nat)≤1000; decide),fun T hT=>?_⟩
 refine ⟨aD (by show (1:Nat)≤1000; decide),fun L hL=>?_⟩
 have t1:Same H (upd H M (.lst [])):=(Same.refl H).laid hM
 have eM:(upd H M (.lst [])) M=some (.lst (([]:List Int).map V.int)):=ah
 generalize upd H M (.lst [])=H1 at*
 have t2:Same H1 (upd H1 T (.tup [V.str (tx (tkC .turn)),V.int 3,V.int z,V.int gl1,V.ref M])):=(Same.refl H1).laid hT
 have Th:IsTh (upd H1 T (.tup [V.str (tx (tkC .turn)),V.int 3,V.int z,V.int gl1,V.ref M])) T M .turn 3 z gl1 []:=qp eM (by decide) hT
 generalize hHq:upd H1 T (.tup [V.str (tx (tkC .turn)),V.int 3,V.int z,V.int gl1,V.ref M])=H2 at*
 have hHq':upd H1 T (.tup [V.str (tx [116,117,114,110]),V.int 3,V.int z,V.int gl1,V.ref M])=H2:=hHq
 rw [hHq'] at hL ⊢
 have X0:IsThs (F30 h w g css z) (upd H2 L (.lst [V.ref T])) L [T]:=oX (ts:=[T]) hL fun T' hT'=>by
  rw [List.mem_singleton.mp hT']
  exact ⟨M,.turn,3,z,gl1,[],⟨rfl,hg1.1,hg1.2,.turn (.inl rfl)⟩,Th⟩
 have t12:=t1.trans t2
 have hL0:H L=none:=t12.free hL
 have s0':Same H (upd H2 L (.lst [V.ref T])):=t12.trans ((Same.refl H2).laid hL)
 generalize upd H2 L (.lst [V.ref T])=H3 at*
 rw [Ab]
 walk_at "w"
 refine ⟨aD (by show (2:Nat)≤1000; decide),fun W hW=>?_⟩
 have t3:Same H3 (upd H3 W (.tup [V.int 2,V.int 3])):=(Same.refl H3).laid hW
 have eW:(upd H3 W (.tup [V.int 2,V.int 3])) W=some (.tup [V.int 2,V.int 3]):=ah
 have nW:W≠L:=fun e=>by rw [e,X0.top] at hW; cases hW
 generalize upd H3 W (.tup [V.int 2,V.int 3])=H4 at*
 have X4:=X0.same t3
 have s4:=s0'.trans t3
 refine ⟨⟨_,SqT.of eW⟩,?_⟩
 refine yL (K:=K) (xs:=[V.int 2,V.int 3]) (fun i σ H'=>∃ (v8 v9 v10 v11 v12:Option V) (ts:List Addr),σ=[some (.int n),some (.ref p),some (.ref A),some (.ref O),some (.int z),some (.int s),some (.int (h*w)),some (.ref L),v8,v9,v10,v11,v12,none,none,none,none]∧Same H H'∧H' W=some (.tup [V.int 2,V.int 3])∧IsThs (F30 h w g css z) H' L ts∧ts.length≤1+2*i) ⟨none,none,none,none,none,[T],rfl,s4,eW,X4,by show (1:Nat)≤1; decide⟩ (fun i σ H' _ ⟨_,_,_,_,_,_,_,_,e,_⟩=>SqT.of e) ?_ ?_
 · rintro i v σ H5 hv ⟨v8,v9,v10,v11,v12,ts,rfl,s5,eW5,Y,hl⟩
   have hi:i < 2:=(List.getElem?_eq_some_iff.mp hv).1
   obtain ⟨r,rfl,hr⟩:∃ r:Int,v=V.int r∧(r=2∨r=3):=by
    match i,hv with
    | 0,hv=>cases hv; exact ⟨2,rfl,.inl rfl⟩
    | 1,hv=>cases hv; exact ⟨3,rfl,.inr rfl⟩
    | n+2,hv=>cases hv
   have X5:=X.same s5
   walk_at "w"
   refine ixI X5.oo (by omega) (by omega) ?_
   walk_at "w"
   have hg:=X.at_ (j:=(r - 2).toNat) (by omega)
   generalize gs.getD (r - 2).toNat 0=gl at*
   refine ⟨h*w,rfl,by omega,by omega,?_⟩
   refine gi (fun i=>!decide ((i:Int)=z)&&(decide (woI (masks.getD i 0) gl=0)||decide (n % 9=8))) (fun i=>(i:Int)) (by omega) ?_ ?_ ?_
   · intro i H6 R hi s6 k6
     have hil:i < (h*w).toNat:=hi
     have mi:0≤masks.getD i 0∧masks.getD i 0 < 64:=by
      rw [List.getD,List.getElem?_eq_getElem (by omega)]; exact X.mm _ (List.getElem_mem _)
     rw [Int.zero_add]
     show tAnd _ _ [none,some (.int (i:Int)),some (.int z),some (.int gl),some (.ref A),some (.int n)] H6 R
     walk_at "w"
     cases hb:decide ((i:Int)=z) with
     | true=>
      rw [hb,Bool.not_true,Bool.false_and] at k6
      walk_at "w"
      exact k6 _ (Same.refl _)
     | false=>
      rw [hb,Bool.not_false,Bool.true_and] at k6
      walk_at "w"
      refine ixI ((s5.trans s6) _ _ X.aa) (by omega) (by omega) ?_
      rw [Int.toNat_natCast]
      walk_at "w"
      refine ⟨_,_,rfl,mi.1,mi.2,hg.1,by omega,?_⟩
      walk_at "w"
      cases hc:decide (woI (masks.getD i 0) gl=0) with
      | true=>
       rw [hc,Bool.true_or] at k6
       walk_at "w"
       exact k6 _ (Same.refl _)
      | false=>
       rw [hc,Bool.false_or] at k6
       walk_at "w"
       refine ⟨by decide,?_⟩
       exact k6 _ (Same.refl _)
   · intro i H6 Q6 hi _ s6 k6
     rw [Int.zero_add]
     show tVar 1 [none,some (.int (i:Int)),some (.int z),some (.int gl),some (.ref A),some (.int n)] H6 Q6
     walk_at "w"
     exact k6 _ (Same.refl _)
   · intro N H6 hN s6 eN
     have hm:∀ x∈((List.range (h*w).toNat).filter fun (i:Nat)=>!decide ((i:Int)=z)&&(decide (woI (masks.getD i 0) gl=0)||decide (n % 9=8))).map fun (i:Nat)=>(i:Int),0≤x∧x < h*w∧x≠z:=fun x hx=>by
      obtain ⟨j,hj,rfl⟩:=List.mem_map.mp hx
      obtain ⟨hj1,hj2⟩:=List.mem_filter.mp hj
      have:=List.mem_range.mp hj1
      rw [Bool.and_eq_true,Bool.not_eq_true',decide_eq_false_iff_not] at hj2
      exact ⟨by omega,by omega,hj2.1⟩
     walk_at "w"
     have s56:=s5.trans s6
     exact zk X hL0 s56 (Y.same s6) (by omega) hr hg.1 hg.2 eN hm fun ts' u10 u12 H7 s7 kp Y7 l7=>⟨_,_,_,_,_,ts',rfl,s7,kp _ _ nW (s6 _ _ eW5),Y7,by omega⟩
 · rintro σ H5 ⟨v8,v9,v10,v11,v12,ts,rfl,s5,eW5,Y,hl⟩
   exact ko X hL0 s5 Y hl q
theorem vk (t:TK):decide (tkC t=[112,97,105,114])=decide (t=.pair):=by cases t <;> decide
theorem cb (t:TK):decide (tkC t=[116,117,114,110])=decide (t=.turn):=by cases t <;> decide
abbrev allL (h w z:Int):List Int:=((List.range (h*w).toNat).filter fun (i:Nat)=>!decide ((i:Int)=z)).map fun (i:Nat)=>(i:Int)
def restL (h w:Int) (css:List (List Nat)) (t:TK) (r z:Int) (ms:List Int):List Int:=match t with
 | .clue=>[]
 | .only=>ms
 | .pair=>ms
 | .place=>aS (css.getD r.toNat []) z
 | .square=>rosL h w (ms.getD 0 0) z
 | .reach=>allL h w z
 | _=>if ms=[] then besL h w z else arL h w (ms.getD 0 0) z++[ms.getD 0 0]
theorem iR {h w:Int} {css:List (List Nat)} {gs:List Int} {i:Nat} {cs:List Nat} (ec:css[i]? =some cs):(bj h w css gs)[i]? =some (il cs):=by
 unfold bj
 rw [List.getElem?_append_left (by rw [List.length_map]; exact (List.getElem?_eq_some_iff.mp ec).1),List.getElem?_map,ec]
 rfl
theorem jS {h w:Int} {css:List (List Nat)} {i:Nat} {cs:List Nat} {z:Int} {ms:List Int} (ec:css[i]? =some cs):restL h w css .place (i:Int) z ms=aS cs z:=by
 show aS (css.getD i []) z=_
 rw [List.getD,ec]
 rfl
def RestP (Q:VK) (H:Hp) (rl:List Int):Prop:=∀ (l:Addr) (H':Hp) (xs:List Int),Same H H'→H l=none→H' l=some (.lst (xs.map V.int))→xs.Perm rl→xs.Pairwise (· ≤·)→Q (.ref l) H'
theorem gH {Q:VK} {H H1:Hp} {p:Addr} {ns rl:List Int} (s1:Same H H1) (hp:H1 p=some (.lst (ns.map V.int))) (hn:ns.length < 64) (pm:ns.Perm rl) (q:RestP Q H rl):cL [.ref p] H1 Q:=
 yb hp hn fun ns' l hl pp sr=>q l _ ns' (s1.trans ((Same.refl H1).laid hl)) (s1.free hl) ah (pp.trans pm) sr
theorem rC (h w c z:Int):(rosL h w c z).length≤4:=by
 unfold rosL
 split
 · exact Nat.zero_le _
 · rename_i q hq
   obtain ⟨i,_,_,e⟩:=nQ (List.mem_of_find?_eq_some hq)
   refine Nat.le_trans (List.length_filter_le _ _) ?_
   rw [e]
   exact Nat.le_refl 4
theorem mX (h w c:Int):(besL h w c).length≤4:=by
 unfold besL
 split <;> split <;> split <;> split <;> simp
theorem wf {h w c:Int} (w0:1≤w):(besL h w c).Pairwise (· ≤·):=by
 unfold besL
 split <;> split <;> split <;> split <;> simp <;> omega
theorem wg (h w z:Int):(allL h w z).Pairwise (· ≤·):=by
 unfold allL
 rw [List.pairwise_map]
 refine List.Pairwise.imp ?_ (List.pairwise_lt_range.filter _)
 intro a b hab
 omega
def cc (K:PySem.W.Frag) (c:RCl RK) (d:RCl PzK):Sp:=fun vs H Q _=>∃ (P L G T M:Addr) (h w g:Int) (css:List (List Nat)) (gs cl:List Int) (t:TK) (r z s:Int) (ms:List Int),vs=[.ref P,.ref T]∧IsPz H c d P L G h w g (bj h w css gs) cl∧IsTh H T M t r z s ms∧Fm30 h w g css z t r s ms∧K28 t∧RestP Q H (restL h w css t r z ms)
theorem oY {K:PySem.W.Frag} {c:RCl RK} {d:RCl PzK} {vs:List V} {H:Hp} {Q:VK} {E:XK} (h:cc K c d vs H Q E):vs.length=2:=by
 obtain ⟨_,_,_,_,_,_,_,_,_,_,_,_,_,_,_,_,rfl,_⟩:=h; rfl
def dY (K:PySem.W.Frag) (c:RCl RK) (d:RCl PzK):TS:=
 (tSeq (tAsg (tOp cIx (tVar 1) (tC (.int 0))) (gName 2))
  (tSeq (tIfS (tTest (tOp (cEq K) (tVar 2) (tC (.str (tx [99,108,117,101]))))) (tRet (tLst tNil)) tNext)
  (tSeq (tIfS (tOr (tTest (tOp (cEq K) (tVar 2) (tC (.str (tx [111,110,108,121]))))) (tTest (tOp (cEq K) (tVar 2) (tC (.str (tx [112,97,105,114])))))) (tRet (tCB cL (tCons (tOp cIx (tVar 1) (tC (.int 4))) tNil))) tNext)
  (tSeq (tAsg (tOp cIx (bQ d d.ok "rules" (df K c d) (tVar 0) tNil) (tOp cIx (tVar 1) (tC (.int 1)))) (gName 3))
  (tSeq (tIfS (tTest (tOp (cEq K) (tVar 2) (tC (.str (tx [112,108,97,99,101]))))) (tRet (tCB cL (tCons (tCall (bB K c) [] E0 (tCons (tVar 3) (tCons (tOp cIx (tVar 1) (tC (.int 2))) tNil))) tNil))) tNext)
  (tRet (tCB cL (tCons (tOp cAdd jY jY) tNil))))))))
theorem oZ {K:PySem.W.Frag} {c:RCl RK} {d:RCl PzK} {vs:List V} {H:Hp} {Q:VK} {E:XK} (h:cc K c d vs H Q E):dY K c d { nx:=fun _ H'=>Q .non H',rt:=Q } (start ["puzzle","thought","kind","rule"] vs) H:=by
 obtain ⟨P,L,G,T,M,h,w,g,css,gs,cl,t,r,z,s,ms,rfl,X,Th,fm,ht,q⟩:=h
 obtain ⟨dx,p,rs,h1,h2,h3⟩:=X.ex
 show dY K c d _ [some (.ref P),some (.ref T),none,none] H
 unfold dY
 walk_at "w"
 refine ixT Th.T (v:=V.str (tx (tkC t))) rfl ?_
 walk_at "w"
 rw [aA]
 walk_at "w"
 rw [aF,qU]
 cases fm with
 | clue=>
  rw [decide_eq_true rfl]
  refine iteT ?_
  walk_at "w"
  refine ⟨aD (by decide),fun l hl=>?_⟩
  exact q l _ [] ((Same.refl H).laid hl) hl (by rw [ah]; rfl) (.refl _) .nil
 | only ec hz hx=>
  rw [decide_eq_false (by decide)]
  refine iteF ?_
  walk_at "w"
  rw [aA]
  walk_at "w"
  rw [aF,nP,decide_eq_true rfl]
  walk_at "w"
  refine ixT Th.T (v:=V.ref M) rfl ?_
  walk_at "w"
  exact gH (Same.refl H) Th.M (by show (1:Nat) < 64; decide) (.refl _) q
 | pair ec hz hj hk=>
  rw [decide_eq_false (by decide)]
  refine iteF ?_
  walk_at "w"
  rw [aA]
  walk_at "w"
  rw [aF,nP,decide_eq_false (by decide)]
  walk_at "w"
  rw [aF,vk,decide_eq_true rfl]
  walk_at "w"
  refine ixT Th.T (v:=V.ref M) rfl ?_
  walk_at "w"
  exact gH (Same.refl H) Th.M (by show (2:Nat) < 64; decide) (.refl _) q
 | @place i cs s x ec hz hg x0 x1 xs=>
  rw [decide_eq_false (by decide)]
  refine iteF ?_
  walk_at "w"
  rw [aA]
  walk_at "w"
  rw [aF,nP,decide_eq_false (by decide)]
  walk_at "w"
  rw [aF,vk,decide_eq_false (by decide)]
  walk_at "w"
  refine methE (k:=.Puzzle) rfl X.ok h1 (by rfl) ?_
  walk_at "w"
  refine ⟨P,L,G,h,w,g,_,cl,rfl,X,fun l p2 rs2 hl hp2 Y=>?_⟩
  have s2:Same H (upd H l (.lst (rs2.map V.ref))):=(Same.refl H).laid hl
  generalize upd H l (.lst (rs2.map V.ref))=H1 at*
  have ey:=iR (h:=h) (w:=w) (gs:=gs) ec
  have hlt:=(List.getElem?_eq_some_iff.mp ey).1
  have hlen:=Y.len
  have ea:rs2[i]? =some rs2[i]:=List.getElem?_eq_getElem (by omega)
  have O:=X.R.ok _ (List.mem_of_getElem? ey)
  dsimp only
  refine ixT (s2 _ _ Th.T) (v:=V.int (i:Int)) rfl ?_
  refine ixL Y.top (v:=V.ref rs2[i]) (dn (by rw [List.getElem?_map,ea]; rfl)) ?_
  walk_at "w"
  rw [aA]
  walk_at "w"
  rw [aF,dR,decide_eq_true rfl]
  refine iteT ?_
  walk_at "w"
  refine ixT (s2 _ _ Th.T) (v:=V.int z) rfl ?_
  walk_at "w"
  have l60:=RR.len26 O X.R.F
  refine ⟨_,_,p2,_,b9 cs,_,_,z,rfl,Y.at_ _ _ _ ea ey,Nat.le_trans l60 (by decide),fun l2 H2 s3 hl2 el2=>?_⟩
  walk_at "w"
  rw [jS ec] at q
  exact gH (s2.trans s3) el2 (Nat.lt_of_le_of_lt (Nat.le_trans (List.length_filter_le _ _) l60) (by decide)) (.refl _) q
 | turn=>rcases ht with e | e | e | e <;> cases e
 | reach=>rcases ht with e | e | e | e <;> cases e
 | square=>rcases ht with e | e | e | e <;> cases e
def bN (K:PySem.W.Frag) (c:RCl RK) (d:RCl PzK):Sp:=fun vs H Q _=>∃ (P L G T M:Addr) (h w g:Int) (css:List (List Nat)) (gs cl:List Int) (t:TK) (r z s:Int) (ms:List Int),vs=[.ref P,.ref T]∧IsPz H c d P L G h w g (bj h w css gs) cl∧IsTh H T M t r z s ms∧Fm30 h w g css z t r s ms∧yo t∧RestP Q H (restL h w css t r z ms)
theorem mY {K:PySem.W.Frag} {c:RCl RK} {d:RCl PzK} {vs:List V} {H:Hp} {Q:VK} {E:XK} (h:bN K c d vs H Q E):vs.length=2:=by
 obtain ⟨_,_,_,_,_,_,_,_,_,_,_,_,_,_,_,_,rfl,_⟩:=h; rfl
def dD (K:PySem.W.Frag) (c:RCl RK) (d:RCl PzK):TS:=
 (tSeq (tIfS (tTest (tOp (cEq K) (tVar 4) (tLst tNil))) (tRet (tCall (bL K) [] E0 (tCons (tVar 2) (tCons (tVar 3) tNil)))) tNext)
  (tRet (tCB cL (tCons (tOp cAdd (tCall (dE K) [] E0 (tCons (tVar 2) (tCons (tOp cIx (tVar 4) (tC (.int 0))) (tCons (tVar 3) tNil)))) (tLst (tCons (tOp cIx (tVar 4) (tC (.int 0))) tNil))) tNil))))
def db (K:PySem.W.Frag) (c:RCl RK) (d:RCl PzK):TS:=
 (tSeq (tAsg (bQ d d.ok "place" (de K c d) (tVar 0) tNil) (gName 2))
  (tSeq (tAsg (tOp cIx (tVar 1) (tC (.int 2))) (gName 3))
  (tSeq (tAsg (tOp cIx (tVar 1) (tC (.int 4))) (gName 4))
  (tSeq (tIfS (tTest (tOp (cEq K) (tOp cIx (tVar 1) (tC (.int 0))) (tC (.str (tx [115,113,117,97,114,101]))))) (tRet (tCB cL (tCons (tCall (bh K) [] E0 (tCons (tVar 2) (tCons (tOp cIx (tVar 4) (tC (.int 0))) (tCons (tVar 3) tNil)))) tNil))) tNext)
  (tSeq (tIfS (tTest (tOp (cEq K) (tOp cIx (tVar 1) (tC (.int 0))) (tC (.str (tx [114,101,97,99,104]))))) (tRet (tComp [none,none,some 3] (di (tCons (tCall (aR K) [] E0 (tCons (tVar 2) tNil)) tNil)) (gName 1) (tTest (tOp (cNe K) (tVar 1) (tVar 2))) (tVar 1))) tNext)
  (dD K c d))))))
theorem lj {K:PySem.W.Frag} {c:RCl RK} {d:RCl PzK} {H:Hp} {Q:VK} {P L G T M p3:Addr} {h w g:Int} {css:List (List Nat)} {cl ms:List Int} {rows:List RR} {r z s:Int} (X:IsPz H c d P L G h w g rows cl) (Th:IsTh H T M .turn r z s ms) (hp3:IsFl H p3 h w g) (fm:ms=[]∨∃ x∈nearL h w z,ms=[x]) (q:RestP Q H (restL h w css .turn r z ms)):
  dD K c d { nx:=fun _ H'=>Q .non H',rt:=Q } [some (.ref P),some (.ref T),some (.ref p3),some (.int z),some (.ref M)] H:=by
 obtain ⟨h0,h1,w0,w1,m16,g0,g1⟩:=id X.R.F
 unfold dD
 rw [aP,aA]
 walk_at "w"
 refine ⟨aD (by decide),fun Z hZ=>?_⟩
 have s1:Same H (upd H Z (.lst [])):=(Same.refl H).laid hZ
 have eZ:(upd H Z (.lst [])) Z=some (.lst (([]:List Int).map V.int)):=ah
 generalize upd H Z (.lst [])=H1 at*
 refine nD (s1 _ _ Th.M) eZ ?_
 rcases fm with rfl | ⟨x,hx,rfl⟩
 · rw [decide_eq_true rfl]
   refine ⟨true,rfl,?_⟩
   walk_at "w"
   exact ⟨p3,h,w,g,z,rfl,s1 _ _ hp3,by omega,by omega,fun l H2 s2 hl el=>q l H2 _ (s1.trans s2) (s1.free hl) el (.refl _) (wf w0)⟩
 · rw [decide_eq_false (by simp)]
   refine ⟨false,rfl,?_⟩
   walk_at "w"
   refine ixI (s1 _ _ Th.M) (by decide) (by show (0:Int) < 1; decide) ?_
   walk_at "w"
   refine ⟨p3,h,w,g,_,z,rfl,s1 _ _ hp3,X.R.F,fun l H2 s2 hl el=>?_⟩
   have s12:=s1.trans s2
   walk_at "w"
   refine ixI (s12 _ _ Th.M) (by decide) (by show (0:Int) < 1; decide) ?_
   walk_at "w"
   refine ⟨aD (by show (1:Nat)≤1000; decide),fun W hW=>?_⟩
   have s3:Same H2 (upd H2 W (.lst [V.int x])):=(Same.refl H2).laid hW
   have eW:(upd H2 W (.lst [V.int x])) W=some (.lst [V.int x]):=ah
   generalize hHw:upd H2 W (.lst [V.int x])=H3 at*
   have hHw':upd H2 W (.lst [V.int (([x]:List Int).getD (0:Int).toNat 0)])=H3:=hHw
   rw [hHw']
   have al:(arL h w x z).length≤4:=Nat.le_trans (List.length_filter_le _ _) (mX h w x)
   have el':H2 l=some (.lst ((arL h w x z).map V.int)):=el
   refine lb (s3 _ _ el') eW (by rw [List.length_map]; show (arL h w x z).length+1≤1000; omega) fun Y hY=>?_
   have s4:Same H3 (upd H3 Y (.lst ((arL h w x z).map V.int++[V.int x]))):=(Same.refl H3).laid hY
   have eY:(upd H3 Y (.lst ((arL h w x z).map V.int++[V.int x]))) Y=some (.lst ((arL h w x z++[x]).map V.int)):=by rw [ah,List.map_append]; rfl
   generalize upd H3 Y (.lst ((arL h w x z).map V.int++[V.int x]))=H4 at*
   walk_at "w"
   have q':RestP Q H (arL h w x z++[x]):=q
   exact gH ((s12.trans s3).trans s4) eY (by rw [List.length_append]; show (arL h w x z).length+1 < 64; omega) (.refl _) q'
theorem mZ {K:PySem.W.Frag} {c:RCl RK} {d:RCl PzK} {vs:List V} {H:Hp} {Q:VK} {E:XK} (h:bN K c d vs H Q E):db K c d { nx:=fun _ H'=>Q .non H',rt:=Q } (start ["puzzle","thought","floor","cell","more"] vs) H:=by
 obtain ⟨P,L,G,T,M,h,w,g,css,gs,cl,t,r,z,s,ms,rfl,X,Th,fm,ht,q⟩:=h
 obtain ⟨dx,p,rs,h1,h2,h3⟩:=X.ex
 obtain ⟨h0,h6,w0,w1,m16,g0,g1⟩:=id X.R.F
 have mpos:1≤h*w:=Int.le_trans (by omega) (Int.mul_le_mul h0 w0 (by omega) (by omega))
 show db K c d _ [some (.ref P),some (.ref T),none,none,none] H
 unfold db
 rw [aP,fO]
 refine methE (k:=.Puzzle) rfl X.ok h1 (by rfl) ?_
 walk_at "w"
 refine ⟨P,L,G,h,w,g,_,cl,rfl,X,fun p3 hp3=>?_⟩
 walk_at "w"
 refine ixT Th.T (v:=V.int z) rfl ?_
 walk_at "w"
 refine ixT Th.T (v:=V.ref M) rfl ?_
 walk_at "w"
 rw [aA]
 walk_at "w"
 refine ixT Th.T (v:=V.str (tx (tkC t))) rfl ?_
 walk_at "w"
 rw [aF,c9]
 cases fm with
 | clue=>rcases ht with e | e | e <;> cases e
 | only=>rcases ht with e | e | e <;> cases e
 | pair=>rcases ht with e | e | e <;> cases e
 | place=>rcases ht with e | e | e <;> cases e
 | @square s x x0 xr xc hz=>
  rw [decide_eq_true rfl]
  refine iteT ?_
  walk_at "w"
  refine ixI Th.M (by decide) (by show (0:Int) < 1; decide) ?_
  walk_at "w"
  refine ⟨p3,h,w,g,_,z,rfl,hp3,X.R.F,fun l H2 s2 hl el=>?_⟩
  walk_at "w"
  exact gH s2 el (Nat.lt_of_le_of_lt (rC _ _ _ _) (by decide)) (.refl _) q
 | reach hr hne hl hm=>
  rw [decide_eq_false (by decide)]
  refine iteF ?_
  walk_at "w"
  rw [aA]
  walk_at "w"
  refine ixT Th.T (v:=V.str (tx (tkC .reach))) rfl ?_
  walk_at "w"
  rw [aF,cO,decide_eq_true rfl]
  refine iteT ?_
  walk_at "w"
  refine ⟨p3,h,w,g,rfl,hp3,h0,h6,?_⟩
  walk_at "w"
  refine ⟨h*w,rfl,by omega,by omega,?_⟩
  refine gi (fun i=>!decide ((i:Int)=z)) (fun i=>(i:Int)) (by omega) ?_ ?_ ?_
  · intro i H2 R hi s2 k2
    rw [Int.zero_add]
    show tTest _ [none,some (.int (i:Int)),some (.int z)] H2 R
    walk_at "w"
    exact k2 _ (Same.refl _)
  · intro i H2 Q2 hi _ s2 k2
    rw [Int.zero_add]
    show tVar 1 [none,some (.int (i:Int)),some (.int z)] H2 Q2
    walk_at "w"
    exact k2 _ (Same.refl _)
  · intro l H2 hl s2 el
    exact q l H2 _ s2 hl el (.refl _) (wg h w z)
 | turn fm=>
  rw [decide_eq_false (by decide)]
  refine iteF ?_
  walk_at "w"
  rw [aA]
  walk_at "w"
  refine ixT Th.T (v:=V.str (tx (tkC .turn))) rfl ?_
  walk_at "w"
  rw [aF,cO,decide_eq_false (by decide)]
  refine iteF ?_
  walk_at "w"
  exact lj X Th hp3 fm q
def dg (K:PySem.W.Frag) (c:RCl RK) (d:RCl PzK):Sp:=fun vs H Q _=>∃ (P L G T M:Addr) (h w g:Int) (css:List (List Nat)) (gs cl:List Int) (t:TK) (r z s:Int) (ms:List Int),vs=[.ref P,.ref T]∧IsPz H c d P L G h w g (bj h w css gs) cl∧IsTh H T M t r z s ms∧Fm30 h w g css z t r s ms∧RestP Q H (restL h w css t r z ms)
theorem uL {K:PySem.W.Frag} {c:RCl RK} {d:RCl PzK} {vs:List V} {H:Hp} {Q:VK} {E:XK} (h:dg K c d vs H Q E):vs.length=2:=by
 obtain ⟨_,_,_,_,_,_,_,_,_,_,_,_,_,_,_,_,rfl,_⟩:=h; rfl
def jj (K:PySem.W.Frag) (c:RCl RK) (d:RCl PzK):TS:=
 (tSeq (tIfS (tB (tInG cX false (tOp cIx (tVar 1) (tC (.int 0))))) (tRet (tCall (cc K c d) [] E0 (tCons (tVar 0) (tCons (tVar 1) tNil)))) tNext)
  (tSeq (tIfS (tB (tInG cq false (tOp cIx (tVar 1) (tC (.int 0))))) (tRet jY) tNext)
  (tRet (tCall (bN K c d) [] E0 (tCons (tVar 0) (tCons (tVar 1) tNil))))))
theorem uM {K:PySem.W.Frag} {c:RCl RK} {d:RCl PzK} {vs:List V} {H:Hp} {Q:VK} {E:XK} (h:dg K c d vs H Q E):jj K c d { nx:=fun _ H'=>Q .non H',rt:=Q } (start ["puzzle","thought"] vs) H:=by
 obtain ⟨P,L,G,T,M,h,w,g,css,gs,cl,t,r,z,s,ms,rfl,X,Th,fm,q⟩:=h
 show jj K c d _ [some (.ref P),some (.ref T)] H
 unfold jj
 rw [aP,aA]
 walk_at "w"
 refine ixT Th.T (v:=V.str (tx (tkC t))) rfl ?_
 walk_at "w"
 rw [vi]
 rcases fm.kd with ht | ht
 · have hl:lineK t=true:=by rcases ht with rfl | rfl | rfl | rfl <;> rfl
   rw [hl]
   walk_at "w"
   exact ⟨P,L,G,T,M,h,w,g,css,gs,cl,t,r,z,s,ms,rfl,X,Th,fm,ht,q⟩
 · have hl:lineK t=false:=by rcases ht with rfl | rfl | rfl <;> rfl
   have hb:nbrK t=false:=by rcases ht with rfl | rfl | rfl <;> rfl
   rw [hl]
   walk_at "w"
   rw [aA]
   walk_at "w"
   refine ixT Th.T (v:=V.str (tx (tkC t))) rfl ?_
   walk_at "w"
   rw [xA,hb]
   walk_at "w"
   exact ⟨P,L,G,T,M,h,w,g,css,gs,cl,t,r,z,s,ms,rfl,X,Th,fm,ht,q⟩
theorem or {xs ys zs:List Int} (p1:xs.Perm zs) (s1:xs.Pairwise (· ≤·)) (p2:ys.Perm zs) (s2:ys.Pairwise (· ≤·)):xs=ys:=
 List.Perm.eq_of_pairwise (fun _ _ _ _ h1 h2=>Int.le_antisymm h1 h2) s1 s2 (p1.trans p2.symm)
abbrev Agree (masks less rl:List Int):Prop:=∀ c∈rl,masks.getD c.toNat 0=less.getD c.toNat 0
theorem lP {masks less cs:List Int} (A:Agree masks less cs):sgAt masks cs=sgAt less cs:=List.map_congr_left A
theorem rD {masks less cs:List Int} {m:Int} (A:Agree masks less cs):mayN masks m cs=mayN less m cs:=by
 unfold mayN
 rw [lP A]
theorem rE {masks less cs:List Int} {m:Int} (A:Agree masks less cs):onlN masks m cs=onlN less m cs:=by
 unfold onlN
 rw [lP A]
theorem jZ {g:Int} {rows:List RR} {cl mk:List Int} {t:TK} {i:Nat} {y:RR} {z s:Int} {ms:List Int} (hc:t≠.clue) (ey:rows[i]? =some y):d3 g rows cl mk t (i:Int) z s ms=ql g t y mk z s ms:=by
 unfold d3
 cases t <;> first | exact absurd rfl hc | (dsimp only; rw [Int.toNat_natCast,ey])
theorem zm {h w z x:Int} (x0:0≤x) (x1:x < h*w) (xz:x≠z):x∈allL h w z:=by
 refine List.mem_map.mpr ⟨x.toNat,List.mem_filter.mpr ⟨List.mem_range.mpr (by omega),?_⟩,by omega⟩
 rw [show ((x.toNat:Nat):Int)=x by omega,decide_eq_false xz]
 rfl
theorem yw {c:RCl RK} {h w g:Int} {css:List (List Nat)} {gs cl masks less:List Int} {t:TK} {r z s:Int} {ms:List Int} (R:j8 c h w g (bj h w css gs)) (fm:Fm30 h w g css z t r s ms) (A:Agree masks less (restL h w css t r z ms)):mU h w g (bj h w css gs) cl masks t r z s ms=mU h w g (bj h w css gs) cl less t r z s ms:=by
 have key:li h w g (bj h w css gs) cl masks t r z s ms=li h w g (bj h w css gs) cl less t r z s ms:=by
  unfold li
  cases fm with
  | clue=>rfl
  | @only i cs s x ec hz hx=>
   show d3 g _ cl masks .only (i:Int) z s [x]=d3 g _ cl less .only (i:Int) z s [x]
   rw [jZ (by decide) (iR ec),jZ (by decide) (iR ec)]
   show onlyB (b9 cs) masks z s [x]=onlyB (b9 cs) less z s [x]
   have a:masks.getD x.toNat 0=less.getD x.toNat 0:=A x (List.mem_singleton.mpr rfl)
   unfold onlyB
   rw [show ([x]:List Int).getD 0 0=x from rfl,a]
  | @pair i cs s j k ec hz hj hk=>
   show d3 g _ cl masks .pair (i:Int) z s _=d3 g _ cl less .pair (i:Int) z s _
   rw [jZ (by decide) (iR ec),jZ (by decide) (iR ec)]
   have a:=A ((aS cs z).getD j 0) List.mem_cons_self
   have b:=A ((aS cs z).getD k 0) (List.mem_cons_of_mem _ List.mem_cons_self)
   generalize (aS cs z).getD j 0=x at*
   generalize (aS cs z).getD k 0=y at*
   have e:orM masks [x,y]=orM less [x,y]:=by
    show Builtin.bitOr (masks.getD x.toNat 0) (masks.getD y.toNat 0)=Builtin.bitOr (less.getD x.toNat 0) (less.getD y.toNat 0)
    rw [a,b]
   show pairB (b9 cs) masks z s [x,y]=pairB (b9 cs) less z s [x,y]
   unfold pairB
   rw [e]
  | @place i cs s x ec hz hg x0 x1 xs=>
   show d3 g _ cl masks .place (i:Int) z s [x]=d3 g _ cl less .place (i:Int) z s [x]
   rw [jZ (by decide) (iR ec),jZ (by decide) (iR ec)]
   rw [jS ec] at A
   show lg g (b9 cs) masks z s [x]=lg g (b9 cs) less z s [x]
   unfold lg
   rw [lP (cs:=(b9 cs).filter fun y=>!decide (y=z)) A]
  | @square s x x0 xr xc hz=>
   show d4 h w _ masks .square 4 z s [x]=d4 h w _ less .square 4 z s [x]
   unfold d4
   cases (bj h w css gs)[(4:Int).toNat]? with
   | none=>rfl
   | some y=>
    show squB h w y.m masks z s [x]=squB h w y.m less z s [x]
    unfold squB
    rw [lP (cs:=rosL h w (([x]:List Int).getD 0 0) z) A]
  | @reach r s ms hr hne hl hm=>
   show d4 h w _ masks .reach r z s ms=d4 h w _ less .reach r z s ms
   unfold d4
   cases ey:(bj h w css gs)[r.toNat]? with
   | none=>rfl
   | some y=>
    have ci:=RR.cin22 (R.ok y (List.mem_of_getElem? ey)) R.F
    have B:∀ x,0≤x→x < h*w→x≠z→masks.getD x.toNat 0=less.getD x.toNat 0:=fun x x0 x1 xz=>A x (zm x0 x1 xz)
    have e1:(ms.all fun o=>anoB h w masks z y.m o)=ms.all fun o=>anoB h w less z y.m o:=by
     rw [Bool.eq_iff_iff,List.all_eq_true,List.all_eq_true]
     refine forall_congr' fun o=>forall_congr' fun ho=>?_
     have:=hm o ho
     unfold anoB
     rw [B o this.1 this.2.1 this.2.2]
    have e2:thrL y.cs masks y.m z=thrL y.cs less y.m z:=by
     unfold thrL
     refine List.filter_congr fun x hx=>?_
     obtain ⟨hx1,hx2⟩:=List.mem_filter.mp hx
     have:=ci.2 x hx1
     rw [Bool.not_eq_true',decide_eq_false_iff_not] at hx2
     rw [B x this.1 (by omega) hx2]
    show reaB h w y.cs y.m masks z s ms=reaB h w y.cs y.m less z s ms
    unfold reaB
    rw [e1,e2]
  | @turn s ms fm=>
   show d4 h w _ masks .turn 3 z s ms=d4 h w _ less .turn 3 z s ms
   unfold d4
   cases (bj h w css gs)[(3:Int).toNat]? with
   | none=>rfl
   | some y=>
    show turnB h w y.m masks z s ms=turnB h w y.m less z s ms
    unfold turnB
    rcases fm with rfl | ⟨x,hx,rfl⟩
    · rw [if_pos rfl,if_pos rfl]
      have A':Agree masks less (besL h w z):=A
      rw [rD A',rE A']
    · have A':Agree masks less (arL h w x z++[x]):=A
      have a1:Agree masks less (arL h w x z):=fun c hc=>A' c (List.mem_append_left _ hc)
      have a2:=A' x (List.mem_append_right _ List.mem_cons_self)
      have n:¬ ([x]:List Int)=[]:=by simp
      rw [if_neg n,if_neg n,show ([x]:List Int).getD 0 0=x from rfl,a2,rD a1,rE a1]
 unfold mU
 rw [key]
def dueL (h w:Int) (css:List (List Nat)) (t:TK) (r z:Int) (ms:List Int):List Int:=match t with
 | .place=>b9 (css.getD r.toNat [])
 | .square=>[ms.getD 0 0,ms.getD 0 0+1,ms.getD 0 0+w,ms.getD 0 0+w+1]
 | .reach=>rngL 0 (h*w)
 | .turn=>if ms=[] then nearL h w z else ms++nearL h w (ms.getD 0 0)
 | _=>ms
theorem Ac {h w x z:Int} (w0:1≤w) (x0:0≤x) (x1:x < h*w) (xr:x / w+1 < h) (xc:x % w+1 < w) (hz:z∈[x,x+1,x+w,x+w+1]):rosL h w x z=[x,x+1,x+w,x+w+1].filter fun y=>!decide (y=z):=by
 have hc:cornB h w x=true:=by
  unfold cornB
  rw [decide_eq_true (by omega),decide_eq_true (by omega)]
  rfl
 have mem:sqL w x∈squL h w:=by
  unfold squL
  refine List.mem_map.mpr ⟨x.toNat,List.mem_filter.mpr ⟨List.mem_range.mpr (by omega),?_⟩,?_⟩
  · rw [show ((x.toNat:Nat):Int)=x by omega]; exact hc
  · rw [show ((x.toNat:Nat):Int)=x by omega]
 have pp:rosP x z (sqL w x)=true:=by
  unfold rosP
  rw [decide_eq_true (show (sqL w x).getD 0 0=x from rfl),decide_eq_true (show z∈sqL w x from hz)]
  rfl
 unfold rosL
 cases hf:(squL h w).find? (rosP x z) with
 | none=>
  have:=List.find?_eq_none.mp hf _ mem
  exact absurd pp this
 | some q=>
  obtain ⟨i,_,_,e⟩:=nQ (List.mem_of_find?_eq_some hf)
  have p2:=List.find?_some hf
  unfold rosP at p2
  rw [Bool.and_eq_true,decide_eq_true_eq] at p2
  have ex:(i:Int)=x:=by
   have:=p2.1
   rw [e] at this
   exact this
  rw [e,ex]
  rfl
theorem yx (n z:Int):(rngL 0 n).filter (fun x=>!decide (x=z))=((List.range n.toNat).filter fun (i:Nat)=>!decide ((i:Int)=z)).map fun (i:Nat)=>(i:Int):=by
 unfold rngL
 rw [List.filter_map,Int.sub_zero]
 have e:(fun (k:Nat)=>(0:Int)+(k:Int))=fun (k:Nat)=>(k:Int):=funext fun k=>Int.zero_add _
 rw [e]
 rfl
theorem xP {h w z x:Int} (w0:1≤w) (hx:x∈besL h w z):x≠z:=by
 rw [y1] at hx
 omega
theorem yy {h w g:Int} {css:List (List Nat)} {t:TK} {r z s:Int} {ms:List Int} (F:FlOk h w g) (z0:0≤z) (z1:z < h*w) (fm:Fm30 h w g css z t r s ms):((dueL h w css t r z ms).filter fun x=>!decide (x=z)).Perm (restL h w css t r z ms):=by
 have w0:=F.w0
 have ne:∀ {cs:List Nat} {x:Int},x∈aS cs z→(!decide (x=z))=true:=fun {cs x} hx=>(List.mem_filter.mp hx).2
 have nb:∀ {x:Int},x≠z→(!decide (x=z))=true:=fun {x} hx=>by rw [decide_eq_false hx]; rfl
 cases fm with
 | clue=>exact .refl _
 | @only i cs s x ec hz hx=>
  show ([x].filter _).Perm [x]
  rw [List.filter_eq_self.mpr fun y hy=>by rw [List.mem_singleton.mp hy]; exact ne hx]
 | @pair i cs s j k ec hz hj hk=>
  have mj:(aS cs z).getD j 0∈aS cs z:=by
   rw [List.getD,List.getElem?_eq_getElem (by omega)]; exact List.getElem_mem _
  have mk:(aS cs z).getD k 0∈aS cs z:=by
   rw [List.getD,List.getElem?_eq_getElem (by omega)]; exact List.getElem_mem _
  show ([(aS cs z).getD j 0,(aS cs z).getD k 0].filter _).Perm [(aS cs z).getD j 0,(aS cs z).getD k 0]
  rw [List.filter_eq_self.mpr fun y hy=>by
   rcases List.mem_cons.mp hy with rfl | hy
   · exact ne mj
   · rw [List.mem_singleton.mp hy]; exact ne mk]
 | place=>exact .refl _
 | @square s x x0 xr xc hz=>
  have x1:x < h*w:=by
   have e:=Int.emod_add_mul_ediv x w
   have m:w*(x / w+1)≤w*h:=Int.mul_le_mul_of_nonneg_left (by omega) (by omega)
   rw [Int.mul_add,Int.mul_one,Int.mul_comm w h] at m
   omega
  show ([x,x+1,x+w,x+w+1].filter _).Perm (rosL h w x z)
  rw [Ac w0 x0 x1 xr xc hz]
 | reach=>
  show ((rngL 0 (h*w)).filter _).Perm (allL h w z)
  rw [yx]
 | @turn s ms fm=>
  rcases fm with rfl | ⟨x,hx,rfl⟩
  · show ((nearL h w z).filter _).Perm (besL h w z)
    rw [(fJ F z0 z1).1,List.filter_eq_self.mpr fun y hy=>nb (xP w0 hy)]
  · rw [(fJ F z0 z1).1] at hx
    have xz:=xP w0 hx
    have xb:=(fJ F z0 z1).2 x hx
    show (([x]++nearL h w x).filter _).Perm (arL h w x z++[x])
    rw [(fJ F xb.1 xb.2).1,List.filter_append,List.filter_eq_self.mpr fun y hy=>by rw [List.mem_singleton.mp hy]; exact nb xz]
    exact List.perm_append_comm
theorem qt (h w c:Int):(nearL h w c).length≤4:=by
 have:∀ (ps:List (Int × Int)),(ps.flatMap fun p=>nearS h w p.1 p.2).length≤ps.length:=fun ps=>by
  induction ps with
  | nil=>exact Nat.le_refl _
  | cons a r ih=>
   rw [List.flatMap_cons,List.length_append,List.length_cons]
   have:(nearS h w a.1 a.2).length≤1:=by unfold nearS; split <;> simp
   omega
 exact this (nearP w c)
def cY (K:PySem.W.Frag):Sp:=fun vs H Q _=>∃ (T M p Ls:Addr) (as:List Addr) (css:List (List Nat)) (h w g:Int) (t:TK) (r z s:Int) (ms:List Int),vs=[.ref T,.ref p,.ref Ls]∧IsTh H T M t r z s ms∧IsFl H p h w g∧FlOk h w g∧IsLN H Ls as css∧LsOk h w css∧0≤z∧z < h*w∧Fm30 h w g css z t r s ms∧RestP Q H (restL h w css t r z ms)
theorem rT {K:PySem.W.Frag} {vs:List V} {H:Hp} {Q:VK} {E:XK} (h:cY K vs H Q E):vs.length=3:=by
 obtain ⟨_,_,_,_,_,_,_,_,_,_,_,_,_,_,rfl,_⟩:=h; rfl
def gw (K:PySem.W.Frag):TS:=
 (tRet (tCB cL (tCons (tComp [none,none,some 4] (iList K (tVar 6)) (gName 1) (tTest (tOp (cNe K) (tVar 1) (tVar 2))) (tVar 1)) tNil)))
def gx (K:PySem.W.Frag):TS:=
 (tSeq (tIfS (tTest (tOp (cEq K) (tVar 3) (tC (.str (tx [112,108,97,99,101]))))) (tAsg (tCB kList (tCons (tOp cIx (tVar 2) (tOp cIx (tVar 0) (tC (.int 1)))) tNil)) (gName 6)) tNext)
  (tSeq (tIfS (tTest (tOp (cEq K) (tVar 3) (tC (.str (tx [115,113,117,97,114,101]))))) (tAsg (tLst (tCons (tOp cIx (tVar 5) (tC (.int 0))) (tCons (tOp cAdd (tOp cIx (tVar 5) (tC (.int 0))) (tC (.int 1))) (tCons (tOp cAdd (tOp cIx (tVar 5) (tC (.int 0))) (tOp cIx (tVar 1) (tC (.int 1)))) (tCons (tOp cAdd (tOp cAdd (tOp cIx (tVar 5) (tC (.int 0))) (tOp cIx (tVar 1) (tC (.int 1)))) (tC (.int 1))) tNil))))) (gName 6)) tNext)
  (tSeq (tIfS (tTest (tOp (cEq K) (tVar 3) (tC (.str (tx [114,101,97,99,104]))))) (tAsg (jl (tCons (tOp cMul (tOp cIx (tVar 1) (tC (.int 0))) (tOp cIx (tVar 1) (tC (.int 1)))) tNil)) (gName 6)) tNext)
  (tSeq (tIfS (tAnd (tTest (tOp (cEq K) (tVar 3) (tC (.str (tx [116,117,114,110]))))) (tTest (tOp (cEq K) (tVar 5) (tLst tNil)))) (tAsg (tCall (bT K) [] E0 (tCons (tVar 1) (tCons (tVar 4) tNil))) (gName 6)) tNext)
  (tSeq (tIfS (tAnd (tTest (tOp (cEq K) (tVar 3) (tC (.str (tx [116,117,114,110]))))) (tTest (tOp (cNe K) (tVar 5) (tLst tNil)))) (tAsg (tOp cAdd (tVar 5) (tCall (bT K) [] E0 (tCons (tVar 1) (tCons (tOp cIx (tVar 5) (tC (.int 0))) tNil)))) (gName 6)) tNext)
  (gw K))))))
def gt (K:PySem.W.Frag):TS:=
 (tSeq (tAsg (tOp cIx (tVar 0) (tC (.int 0))) (gName 3))
  (tSeq (tAsg (tOp cIx (tVar 0) (tC (.int 2))) (gName 4))
  (tSeq (tAsg (tOp cIx (tVar 0) (tC (.int 4))) (gName 5))
  (tSeq (tAsg (tCB kList (tCons (tVar 5) tNil)) (gName 6))
  (gx K)))))
theorem bp {K:PySem.W.Frag} {Q:VK} {H0 H:Hp} {N:Addr} {xs rl:List Int} {z:Int} {v0 v1 v2 v3 v5:Option V} (s1:Same H0 H) (eN:H N=some (.lst (xs.map V.int))) (hl:xs.length < 64) (pm:(xs.filter fun x=>!decide (x=z)).Perm rl) (q:RestP Q H0 rl):
  gw K { nx:=fun _ H'=>Q .non H',rt:=Q } [v0,v1,v2,v3,some (.int z),v5,some (.ref N)] H:=by
 unfold gw
 walk_at "w"
 refine ⟨⟨_,SqL.of eN⟩,?_⟩
 refine bP (xs:=xs) (fun x=>!decide (x=z)) (fun x=>x) (by omega) (SqL.of eN) ?_ ?_ ?_
 · intro y H5 R hy s5 k5
   show tTest _ [none,some (.int y),some (.int z)] H5 R
   walk_at "w"
   exact k5 _ (Same.refl _)
 · intro y H5 Q5 hy hb s5 k5
   show tVar 1 [none,some (.int y),some (.int z)] H5 Q5
   walk_at "w"
   exact k5 _ (Same.refl _)
 · intro W H5 hW s5 eW
   rw [List.map_id'] at eW
   walk_at "w"
   exact gH (s1.trans s5) eW (Nat.lt_of_le_of_lt (List.length_filter_le _ _) hl) pm q
theorem o0 {K:PySem.W.Frag} {Q:VK} {H0 H:Hp} {T M N p Ls:Addr} {as:List Addr} {css:List (List Nat)} {h w g:Int} {t:TK} {r z s:Int} {ms:List Int} (s1:Same H0 H) (Th:IsTh H T M t r z s ms) (hp:IsFl H p h w g) (F:FlOk h w g) (ll:IsLN H Ls as css) (lo:LsOk h w css) (z0:0≤z) (z1:z < h*w) (fm:Fm30 h w g css z t r s ms) (eN:H N=some (.lst (ms.map V.int))) (q:RestP Q H0 (restL h w css t r z ms)):
  gx K { nx:=fun _ H'=>Q .non H',rt:=Q } [some (.ref T),some (.ref p),some (.ref Ls),some (.str (tx (tkC t))),some (.int z),some (.ref M),some (.ref N)] H:=by
 have dr:=yy F z0 z1 fm
 obtain ⟨h0,h6,w0,w1,m16,g0,g1⟩:=id F
 have mpos:1≤h*w:=Int.le_trans (by omega) (Int.mul_le_mul h0 w0 (by omega) (by omega))
 unfold gx
 rw [aP]
 cases fm with
 | clue=>
  rw [aA]
  walk_at "w"
  rw [aF,dR,decide_eq_false (by decide)]
  walk_at "w"
  rw [aA]
  walk_at "w"
  rw [aF,c9,decide_eq_false (by decide)]
  walk_at "w"
  rw [aA]
  walk_at "w"
  rw [aF,cO,decide_eq_false (by decide)]
  walk_at "w"
  rw [aA]
  walk_at "w"
  rw [aF,cb,decide_eq_false (by decide)]
  walk_at "w"
  rw [aA]
  walk_at "w"
  rw [aF,cb,decide_eq_false (by decide)]
  walk_at "w"
  exact bp s1 eN (by show (0:Nat) < 64; decide) dr q
 | only ec hz hx=>
  rw [aA]
  walk_at "w"
  rw [aF,dR,decide_eq_false (by decide)]
  walk_at "w"
  rw [aA]
  walk_at "w"
  rw [aF,c9,decide_eq_false (by decide)]
  walk_at "w"
  rw [aA]
  walk_at "w"
  rw [aF,cO,decide_eq_false (by decide)]
  walk_at "w"
  rw [aA]
  walk_at "w"
  rw [aF,cb,decide_eq_false (by decide)]
  walk_at "w"
  rw [aA]
  walk_at "w"
  rw [aF,cb,decide_eq_false (by decide)]
  walk_at "w"
  exact bp s1 eN (by show (1:Nat) < 64; decide) dr q
 | pair ec hz hj hk=>
  rw [aA]
  walk_at "w"
  rw [aF,dR,decide_eq_false (by decide)]
  walk_at "w"
  rw [aA]
  walk_at "w"
  rw [aF,c9,decide_eq_false (by decide)]
  walk_at "w"
  rw [aA]
  walk_at "w"
  rw [aF,cO,decide_eq_false (by decide)]
  walk_at "w"
  rw [aA]
  walk_at "w"
  rw [aF,cb,decide_eq_false (by decide)]
  walk_at "w"
  rw [aA]
  walk_at "w"
  rw [aF,cb,decide_eq_false (by decide)]
  walk_at "w"
  exact bp s1 eN (by show (2:Nat) < 64; decide) dr q
 | @place i cs s x ec hz hg x0 x1 xs=>
  rw [aA]
  walk_at "w"
  rw [aF,dR,decide_eq_true rfl]
  walk_at "w"
  have hal:=ll.len
  have hi:=(List.getElem?_eq_some_iff.mp ec).1
  have ea:as[i]? =some as[i]:=List.getElem?_eq_getElem (by omega)
  refine ixT Th.T (v:=V.int (i:Int)) rfl ?_
  walk_at "w"
  refine ixL ll.top (v:=V.ref as[i]) (dn (by rw [List.getElem?_map,ea]; rfl)) ?_
  walk_at "w"
  refine mF (ll.at_ i _ _ ea ec) fun W hW=>?_
  have t1:Same H (upd H W (.lst ((b9 cs).map V.int))):=(Same.refl H).laid hW
  have eW:(upd H W (.lst ((b9 cs).map V.int))) W=some (.lst ((b9 cs).map V.int)):=ah
  generalize upd H W (.lst ((b9 cs).map V.int))=H1 at*
  have cn:=(lo cs (List.mem_of_getElem? ec)).2.2.1
  walk_at "w"
  rw [aA]
  walk_at "w"
  rw [aF,c9,decide_eq_false (by decide)]
  walk_at "w"
  rw [aA]
  walk_at "w"
  rw [aF,cO,decide_eq_false (by decide)]
  walk_at "w"
  rw [aA]
  walk_at "w"
  rw [aF,cb,decide_eq_false (by decide)]
  walk_at "w"
  rw [aA]
  walk_at "w"
  rw [aF,cb,decide_eq_false (by decide)]
  walk_at "w"
  have ed:dueL h w css .place (i:Int) z [x]=b9 cs:=by
   show b9 (css.getD i [])=_
   rw [List.getD,ec]
   rfl
  rw [ed] at dr
  exact bp (s1.trans t1) eW (by rw [List.length_map]; omega) dr q
 | @square s x x0 xr xc hz=>
  rw [aA]
  walk_at "w"
  rw [aF,dR,decide_eq_false (by decide)]
  walk_at "w"
  rw [aA]
  walk_at "w"
  rw [aF,c9,decide_eq_true rfl]
  walk_at "w"
  refine ixI Th.M (by decide) (by show (0:Int) < 1; decide) ?_
  walk_at "w"
  refine ixI Th.M (by decide) (by show (0:Int) < 1; decide) ?_
  walk_at "w"
  refine ixI Th.M (by decide) (by show (0:Int) < 1; decide) ?_
  walk_at "w"
  refine ixT hp (v:=V.int w) rfl ?_
  walk_at "w"
  refine ixI Th.M (by decide) (by show (0:Int) < 1; decide) ?_
  walk_at "w"
  refine ixT hp (v:=V.int w) rfl ?_
  walk_at "w"
  refine ⟨aD (by show (4:Nat)≤1000; decide),fun W hW=>?_⟩
  have t1:Same H (upd H W (.lst [V.int x,V.int (x+1),V.int (x+w),V.int (x+w+1)])):=(Same.refl H).laid hW
  have eW:(upd H W (.lst [V.int x,V.int (x+1),V.int (x+w),V.int (x+w+1)])) W=some (.lst (([x,x+1,x+w,x+w+1]:List Int).map V.int)):=ah
  generalize hHw:upd H W (.lst [V.int x,V.int (x+1),V.int (x+w),V.int (x+w+1)])=H1 at*
  have hHw':upd H W (.lst [V.int (([x]:List Int).getD (0:Int).toNat 0),V.int (([x]:List Int).getD (0:Int).toNat 0+1),V.int (([x]:List Int).getD (0:Int).toNat 0+w),V.int (([x]:List Int).getD (0:Int).toNat 0+w+1)])=H1:=hHw
  rw [hHw']
  rw [aA]
  walk_at "w"
  rw [aF,cO,decide_eq_false (by decide)]
  walk_at "w"
  rw [aA]
  walk_at "w"
  rw [aF,cb,decide_eq_false (by decide)]
  walk_at "w"
  rw [aA]
  walk_at "w"
  rw [aF,cb,decide_eq_false (by decide)]
  walk_at "w"
  exact bp (s1.trans t1) eW (by show (4:Nat) < 64; decide) dr q
 | reach hr hne hl hm=>
  rw [aA]
  walk_at "w"
  rw [aF,dR,decide_eq_false (by decide)]
  walk_at "w"
  rw [aA]
  walk_at "w"
  rw [aF,c9,decide_eq_false (by decide)]
  walk_at "w"
  rw [aA]
  walk_at "w"
  rw [aF,cO,decide_eq_true rfl]
  walk_at "w"
  refine ixT hp (v:=V.int h) rfl ?_
  walk_at "w"
  refine ixT hp (v:=V.int w) rfl ?_
  walk_at "w"
  refine ⟨fE h0 h6,?_⟩
  refine ⟨h*w,rfl,by omega,by omega,fun W hW=>?_⟩
  have t1:Same H (upd H W (.lst ((rngL 0 (h*w)).map V.int))):=(Same.refl H).laid hW
  have eW:(upd H W (.lst ((rngL 0 (h*w)).map V.int))) W=some (.lst ((rngL 0 (h*w)).map V.int)):=ah
  generalize upd H W (.lst ((rngL 0 (h*w)).map V.int))=H1 at*
  walk_at "w"
  rw [aA]
  walk_at "w"
  rw [aF,cb,decide_eq_false (by decide)]
  walk_at "w"
  rw [aA]
  walk_at "w"
  rw [aF,cb,decide_eq_false (by decide)]
  walk_at "w"
  exact bp (s1.trans t1) eW (by rw [iG]; omega) dr q
 | @turn s ms fm=>
  rw [aA]
  walk_at "w"
  rw [aF,dR,decide_eq_false (by decide)]
  walk_at "w"
  rw [aA]
  walk_at "w"
  rw [aF,c9,decide_eq_false (by decide)]
  walk_at "w"
  rw [aA]
  walk_at "w"
  rw [aF,cO,decide_eq_false (by decide)]
  walk_at "w"
  rw [aA]
  walk_at "w"
  rw [aF,cb,decide_eq_true rfl]
  walk_at "w"
  refine ⟨aD (by decide),fun Z hZ=>?_⟩
  have t1:Same H (upd H Z (.lst [])):=(Same.refl H).laid hZ
  have eZ:(upd H Z (.lst [])) Z=some (.lst (([]:List Int).map V.int)):=ah
  generalize upd H Z (.lst [])=H1 at*
  have s2:=s1.trans t1
  refine nD (t1 _ _ Th.M) eZ ?_
  rcases fm with rfl | ⟨x,hx,rfl⟩
  · rw [decide_eq_true rfl]
    walk_at "w"
    refine ⟨p,h,w,g,z,rfl,t1 _ _ hp,F,fun W H2 t2 hW eW=>?_⟩
    have t12:=t1.trans t2
    walk_at "w"
    rw [aA]
    walk_at "w"
    rw [aF,cb,decide_eq_true rfl]
    walk_at "w"
    refine ⟨aD (by decide),fun Z2 hZ2=>?_⟩
    have t3:Same H2 (upd H2 Z2 (.lst [])):=(Same.refl H2).laid hZ2
    have eZ2:(upd H2 Z2 (.lst [])) Z2=some (.lst (([]:List Int).map V.int)):=ah
    generalize upd H2 Z2 (.lst [])=H3 at*
    refine nE ((t12.trans t3) _ _ Th.M) eZ2 ?_
    rw [decide_eq_true rfl]
    walk_at "w"
    exact bp (s1.trans (t12.trans t3)) (t3 _ _ eW) (Nat.lt_of_le_of_lt (qt h w z) (by decide)) dr q
  · rw [decide_eq_false (by simp)]
    walk_at "w"
    rw [aA]
    walk_at "w"
    rw [aF,cb,decide_eq_true rfl]
    walk_at "w"
    refine ⟨aD (by decide),fun Z2 hZ2=>?_⟩
    have t3:Same H1 (upd H1 Z2 (.lst [])):=(Same.refl H1).laid hZ2
    have eZ2:(upd H1 Z2 (.lst [])) Z2=some (.lst (([]:List Int).map V.int)):=ah
    generalize upd H1 Z2 (.lst [])=H2 at*
    have t13:=t1.trans t3
    refine nE (t13 _ _ Th.M) eZ2 ?_
    rw [decide_eq_false (by simp)]
    walk_at "w"
    refine ixI (t13 _ _ Th.M) (by decide) (by show (0:Int) < 1; decide) ?_
    walk_at "w"
    refine ⟨p,h,w,g,_,rfl,t13 _ _ hp,F,fun W H3 t4 hW eW=>?_⟩
    have t14:=t13.trans t4
    walk_at "w"
    have eW':H3 W=some (.lst ((nearL h w x).map V.int)):=eW
    have nl:=qt h w x
    refine lb (t14 _ _ Th.M) eW' (by rw [List.length_map,List.length_map]; show 1+(nearL h w x).length≤1000; omega) fun Y hY=>?_
    have t5:Same H3 (upd H3 Y (.lst (([x]:List Int).map V.int++(nearL h w x).map V.int))):=(Same.refl H3).laid hY
    have eY:(upd H3 Y (.lst (([x]:List Int).map V.int++(nearL h w x).map V.int))) Y=some (.lst (([x]++nearL h w x).map V.int)):=by rw [ah,List.map_append]
    generalize upd H3 Y (.lst (([x]:List Int).map V.int++(nearL h w x).map V.int))=H4 at*
    walk_at "w"
    exact bp (s1.trans (t14.trans t5)) eY (by rw [List.length_append]; show 1+(nearL h w x).length < 64; omega) dr q
theorem rV {K:PySem.W.Frag} {vs:List V} {H:Hp} {Q:VK} {E:XK} (h:cY K vs H Q E):gt K { nx:=fun _ H'=>Q .non H',rt:=Q } (start ["_law_thought","_law_floor_here","_law_lists_here","_law_kind","_law_cell","_law_more","_law_some"] vs) H:=by
 obtain ⟨T,M,p,Ls,as,css,h,w,g,t,r,z,s,ms,rfl,Th,hp,F,ll,lo,z0,z1,fm,q⟩:=h
 show gt K _ [some (.ref T),some (.ref p),some (.ref Ls),none,none,none,none] H
 unfold gt
 walk_at "w"
 refine ixT Th.T (v:=V.str (tx (tkC t))) rfl ?_
 walk_at "w"
 refine ixT Th.T (v:=V.int z) rfl ?_
 walk_at "w"
 refine ixT Th.T (v:=V.ref M) rfl ?_
 walk_at "w"
 refine mF Th.M fun N hN=>?_
 have s1:Same H (upd H N (.lst (ms.map V.int))):=(Same.refl H).laid hN
 have eN:(upd H N (.lst (ms.map V.int))) N=some (.lst (ms.map V.int)):=ah
 generalize upd H N (.lst (ms.map V.int))=H1 at*
 walk_at "w"
 exact o0 s1 (Th.same s1) (s1 _ _ hp) F (ll.same s1) lo z0 z1 fm eN q
theorem AC {g m:Int} (g0:1≤g) (g6:g≤6) (h:m < 1*2^g.toNat):m < 64:=by
 have e:g=1∨g=2∨g=3∨g=4∨g=5∨g=6:=by omega
 rcases e with rfl | rfl | rfl | rfl | rfl | rfl
 all_goals exact Int.lt_of_lt_of_le h (by decide)
theorem AD {g:Int} (g0:1≤g) (g6:g≤6):1 < (1:Int)*2^g.toNat∧(1:Int)*2^g.toNat≤64:=by
 have e:g=1∨g=2∨g=3∨g=4∨g=5∨g=6:=by omega
 rcases e with rfl | rfl | rfl | rfl | rfl | rfl
 all_goals decide
def bF (K:PySem.W.Frag):Sp:=fun vs H Q _=>∃ (a A R:Addr) (ns masks rl:List Int) (g at_:Int),vs=[.ref a,.ref A,.ref R,.int g,.int at_]∧SqL K H a (ns.map V.int)∧ns.length≤63∧H A=some (.lst (masks.map V.int))∧masks.length≤16∧(∀ m∈masks,0≤m∧m < 64)∧H R=some (.lst (rl.map V.int))∧1≤g∧g≤6∧0≤at_∧at_≤1000∧
 ∀ (l:Addr) (H':Hp) (less:List Int),Same H H'→H' l=some (.lst (less.map V.int))→less.length=masks.length→(∀ m∈less,0≤m∧m < 64)→(∀ k:Nat,k < masks.length→(k:Int)∈rl→masks.getD k 0=less.getD k 0)→Q (.ref l) H'
theorem mn {K:PySem.W.Frag} {vs:List V} {H:Hp} {Q:VK} {E:XK} (h:bF K vs H Q E):vs.length=5:=by
 obtain ⟨_,_,_,_,_,_,_,_,rfl,_⟩:=h; rfl
def Ad (K:PySem.W.Frag):TS:=
 (tSeq (tIfS (tTest (tOp (cIn K false) (tVar 6) (tVar 2))) (tAsg (tOp cIx (tVar 1) (tVar 6)) (gName 8)) tNext)
  (tDrop (tBM K "list" a9 (tVar 5) (tCons (tVar 8) tNil))))
def cQ (K:PySem.W.Frag):TS:=
 (tSeq (tAsg (tLst tNil) (gName 5))
  (tSeq (tFor (di (tCons (tCB kLen (tCons (tVar 1) tNil)) tNil)) (gName 6)
  (tSeq (tAsg (tCall (aL K) [] E0 (tCons (tVar 0) (tCons (tOp cAdd (tVar 4) (tVar 6)) tNil))) (gName 7))
  (tSeq (tAsg (tOp cIx (tLst (tCons (tC (.int 0)) (tCons (tOp cSub (tOp cShl (tC (.int 1)) (tVar 3)) (tC (.int 1))) (tCons (tOp cMod (tOp cDiv (tVar 7) (tC (.int 3))) (tOp cShl (tC (.int 1)) (tVar 3))) tNil)))) (tOp cMod (tVar 7) (tC (.int 3)))) (gName 8))
  (Ad K))))
  (tRet (tVar 5))))
theorem Ae {less masks rl:List Int} {i:Nat} {x:Int} (hl:less.length=i) (hm:∀ k:Nat,k < i→(k:Int)∈rl→masks.getD k 0=less.getD k 0) (hx:(i:Int)∈rl→masks.getD i 0=x):∀ k:Nat,k < i+1→(k:Int)∈rl→masks.getD k 0=(less++[x]).getD k 0:=by
 intro k hk hr
 by_cases h:k < i
 · have e:(less++[x]).getD k 0=less.getD k 0:=by rw [List.getD,List.getElem?_append_left (by omega)]; rfl
   rw [e]
   exact hm k h hr
 · have e:k=i:=by omega
   have e2:(less++[x]).getD k 0=x:=by rw [List.getD,List.getElem?_append_right (by omega),show k - less.length=0 by omega]; rfl
   rw [e2,e]
   rw [e] at hr
   exact hx hr
theorem mo {K:PySem.W.Frag} {vs:List V} {H:Hp} {Q:VK} {E:XK} (h:bF K vs H Q E):cQ K { nx:=fun _ H'=>Q .non H',rt:=Q } (start ["_law_script","_law_masks_here","_law_rests_here","_law_signs","_law_at","_law_found","_law_k","_law_number","_law_mask"] vs) H:=by
 obtain ⟨a,A,R,ns,masks,rl,g,at_,rfl,hS,hn,hA,hml,hmm,hR,g0,g6,a0,a1,q⟩:=h
 have pw:=AD g0 g6
 show cQ K _ [some (.ref a),some (.ref A),some (.ref R),some (.int g),some (.int at_),none,none,none,none] H
 unfold cQ
 walk_at "w"
 refine ⟨aD (by decide),fun L hL=>?_⟩
 have eA2:(upd H L (.lst [])) A=some (.lst (masks.map V.int)):=by rw [av (aH hA hL)]; exact hA
 rw [bi eA2,List.length_map]
 refine ⟨_,rfl,by omega,by omega,?_⟩
 rw [Int.toNat_natCast]
 refine fw (fun i σ H'=>∃ (kv nv mv:Option V) (less:List Int),σ=[some (.ref a),some (.ref A),some (.ref R),some (.int g),some (.int at_),some (.ref L),kv,nv,mv]∧Same H H'∧H' L=some (.lst (less.map V.int))∧less.length=i∧(∀ m∈less,0≤m∧m < 64)∧∀ k:Nat,k < i→(k:Int)∈rl→masks.getD k 0=less.getD k 0)
  ⟨none,none,none,[],rfl,(Same.refl H).laid hL,by rw [ah]; rfl,rfl,(fun m hm=>by cases hm),fun k hk=>absurd hk (by omega)⟩ ?_ ?_
 · rintro i σ H1 hi ⟨kv,nv,mv,less,rfl,s1,eL,hl,hm,hk⟩
   have hi':i < masks.length:=hi
   have mi:0≤masks.getD i 0∧masks.getD i 0 < 64:=by
    rw [List.getD,List.getElem?_eq_getElem hi']; exact hmm _ (List.getElem_mem _)
   have hlen:(less.map V.int).length < sizeLine:=by rw [List.length_map]; exact aK (by omega)
   rw [Int.zero_add]
   walk_at "w"
   refine ⟨a,ns,_,rfl,s1.seq hS,hn,by omega,by omega,?_⟩
   generalize lawCA ns (at_+(i:Int))=y at*
   walk_at "w"
   refine ⟨⟨by omega,by omega,by decide⟩,?_⟩
   refine ⟨⟨by decide,by decide⟩,?_⟩
   refine ⟨⟨by omega,by omega,by decide⟩,?_⟩
   refine ⟨by omega,?_⟩
   have b0:=Int.emod_nonneg (y / 3) (show (1:Int)*2^g.toNat≠0 by omega)
   have b1:=Int.emod_lt_of_pos (y / 3) (show (0:Int) < 1*2^g.toNat by omega)
   generalize (1:Int)*2^g.toNat=pg at*
   refine ⟨aD (by show (3:Nat)≤1000; decide),fun W hW=>?_⟩
   have t1:Same H1 (upd H1 W (.lst [V.int 0,V.int (pg - 1),V.int (y / 3 % pg)])):=(Same.refl H1).laid hW
   have eW:(upd H1 W (.lst [V.int 0,V.int (pg - 1),V.int (y / 3 % pg)])) W=some (.lst [V.int 0,V.int (pg - 1),V.int (y / 3 % pg)]):=ah
   generalize upd H1 W (.lst [V.int 0,V.int (pg - 1),V.int (y / 3 % pg)])=H2 at*
   refine ⟨by decide,?_⟩
   obtain ⟨v,hv,v0,v1⟩:∃ v:Int,atI [V.int 0,V.int (pg - 1),V.int (y / 3 % pg)] (y % 3)=some (V.int v)∧0≤v∧v < 64:=by
    have e:y % 3=0∨y % 3=1∨y % 3=2:=by omega
    rcases e with e | e | e <;> rw [e]
    · exact ⟨0,rfl,by omega,by omega⟩
    · exact ⟨pg - 1,rfl,by omega,by omega⟩
    · exact ⟨y / 3 % pg,rfl,by omega,by omega⟩
   refine ixL eW hv ?_
   walk_at "w"
   have s2:=s1.trans t1
   have eL2:=t1 _ _ eL
   have fin:∀ (x:Int) (k1:(i:Int)∈rl→masks.getD i 0=x) (x0:0≤x) (x1:x < 64),∃ (kv nv mv:Option V) (less':List Int),([some (.ref a),some (.ref A),some (.ref R),some (.int g),some (.int at_),some (.ref L),some (.int (i:Int)),some (.int y),some (.int x)]:St)=[some (.ref a),some (.ref A),some (.ref R),some (.int g),some (.int at_),some (.ref L),kv,nv,mv]∧Same H (upd H2 L (.lst (less.map V.int++[V.int x])))∧(upd H2 L (.lst (less.map V.int++[V.int x]))) L=some (.lst (less'.map V.int))∧less'.length=i+1∧(∀ m∈less',0≤m∧m < 64)∧∀ k:Nat,k < i+1→(k:Int)∈rl→masks.getD k 0=less'.getD k 0:=fun x k1 x0 x1=>
    ⟨_,_,_,less++[x],rfl,s2.own hL,by rw [ah]; simp,by simp [hl],(fun m hm'=>by
     rcases List.mem_append.mp hm' with hm' | hm'
     · exact hm m hm'
     · rw [List.mem_singleton.mp hm']; exact ⟨x0,x1⟩),Ae hl hk k1⟩
   unfold Ad
   rw [aP,aA]
   walk_at "w"
   rw [oA (s2 _ _ hR)]
   walk_at "w"
   by_cases hz:(i:Int)∈rl
   · rw [decide_eq_true hz]
     walk_at "w"
     refine ixI (s2 _ _ hA) (by omega) (by omega) ?_
     rw [Int.toNat_natCast]
     walk_at "w"
     refine ⟨bn eL2,?_⟩
     rw [dF eL2]
     exact ⟨hlen,fin _ (fun _=>rfl) mi.1 mi.2⟩
   · rw [decide_eq_false hz]
     walk_at "w"
     refine ⟨bn eL2,?_⟩
     rw [dF eL2]
     exact ⟨hlen,fin _ (fun h=>absurd h hz) v0 v1⟩
 · rintro σ H1 ⟨kv,nv,mv,less,rfl,s1,eL,hl,hm,hk⟩
   walk_at "w"
   exact q L H1 less s1 eL hl hm hk
def cC (K:PySem.W.Frag) (c:RCl RK) (d:RCl PzK):Sp:=fun vs H Q _=>∃ (P L G T M Dd:Addr) (h w g:Int) (css:List (List Nat)) (gs cl:List Int) (t:TK) (r z s:Int) (ms xs:List Int),vs=[.ref P,.ref T,.ref Dd]∧IsPz H c d P L G h w g (bj h w css gs) cl∧IsTh H T M t r z s ms∧Fm30 h w g css z t r s ms∧H Dd=some (.lst (xs.map V.int))∧xs.length≤100∧xs.Perm (restL h w css t r z ms)∧xs.Pairwise (· ≤·)∧∀ H',Same H H'→Q (.bl true) H'
theorem qu {K:PySem.W.Frag} {c:RCl RK} {d:RCl PzK} {vs:List V} {H:Hp} {Q:VK} {E:XK} (h:cC K c d vs H Q E):vs.length=3:=by
 obtain ⟨_,_,_,_,_,_,_,_,_,_,_,_,_,_,_,_,_,_,rfl,_⟩:=h; rfl
def fu (K:PySem.W.Frag) (c:RCl RK) (d:RCl PzK):TS:=
 (tSeq (tAsg (tCall (dg K c d) [] E0 (tCons (tVar 0) (tCons (tVar 1) tNil))) (gName 3))
  (tSeq (tIfS (tOr (tNot (tB (tCB kIsi (tCons (tVar 3) (tCons (tC (.ty "list")) tNil))))) (tTest (tOp (cNe K) (tVar 3) (tVar 2)))) (tRet (tC (.bl false))) tNext)
  (tSeq (tIfS (tTest (tOp (cNe K) (tComp [none,none] (iList K (tVar 3)) (gName 1) (tOr (tNot (tB (tCB kIsi (tCons (tVar 1) (tCons (tC (.ty "int")) tNil))))) (tB (tCB kIsi (tCons (tVar 1) (tCons (tC (.ty "bool")) tNil))))) (tVar 1)) (tLst tNil))) (tRet (tC (.bl false))) tNext)
  (tSeq (tDrop (tBM K "list" a9 (tVar 3) (tCons (tC (.int 0)) tNil)))
  (tRet (tOp (cEq K) (tCall (dg K c d) [] E0 (tCons (tVar 0) (tCons (tVar 1) tNil))) (tVar 2)))))))
theorem qv {K:PySem.W.Frag} {c:RCl RK} {d:RCl PzK} {vs:List V} {H:Hp} {Q:VK} {E:XK} (h:cC K c d vs H Q E):fu K c d { nx:=fun _ H'=>Q .non H',rt:=Q } (start ["_law_puzzle_here","_law_thought","_law_due_here","_law_found"] vs) H:=by
 obtain ⟨P,L,G,T,M,Dd,h,w,g,css,gs,cl,t,r,z,s,ms,xs,rfl,X,Th,fm,eD,xl,pm,sr,q⟩:=h
 show fu K c d _ [some (.ref P),some (.ref T),some (.ref Dd),none] H
 unfold fu
 walk_at "w"
 refine ⟨P,L,G,T,M,h,w,g,css,gs,cl,t,r,z,s,ms,rfl,X,Th,fm,fun l H1 ys s1 hl el py sy=>?_⟩
 have e:=or py sy pm sr
 subst e
 walk_at "w"
 rw [aA]
 walk_at "w"
 refine sP el ?_
 walk_at "w"
 refine nE el (s1 _ _ eD) ?_
 rw [decide_eq_true rfl]
 walk_at "w"
 rw [aA]
 walk_at "w"
 refine ⟨⟨_,SqL.of el⟩,?_⟩
 refine bP (xs:=ys) (fun _=>false) (fun x=>x) (by omega) (SqL.of el) ?_ ?_ ?_
 · intro y H5 R hy s5 k5
   show tOr _ _ [none,some (.int y)] H5 R
   walk_at "w"
   exact k5 _ (Same.refl _)
 · intro y H5 Q5 hy hb s5 k5
   cases hb
 · intro W H2 hW s2 eW
   have eW':H2 W=some (.lst (([]:List Int).map V.int)):=by
    rw [eW,List.filter_eq_nil_iff.mpr fun _ _=>Bool.false_ne_true]
    rfl
   walk_at "w"
   refine ⟨aD (by decide),fun Z hZ=>?_⟩
   have s3:Same H2 (upd H2 Z (.lst [])):=(Same.refl H2).laid hZ
   have eZ:(upd H2 Z (.lst [])) Z=some (.lst (([]:List Int).map V.int)):=ah
   generalize upd H2 Z (.lst [])=H3 at*
   refine nE (s3 _ _ eW') eZ ?_
   rw [decide_eq_true rfl]
   walk_at "w"
   have s13:=s1.trans (s2.trans s3)
   have el3:=s3 _ _ (s2 _ _ el)
   refine ⟨bn el3,?_⟩
   rw [dF el3]
   refine ⟨by rw [List.length_map]; exact aK (by omega),?_⟩
   have s4:Same H (upd H3 l (.lst (ys.map V.int++[V.int 0]))):=s13.own hl
   generalize upd H3 l (.lst (ys.map V.int++[V.int 0]))=H4 at*
   walk_at "w"
   refine ⟨P,L,G,T,M,h,w,g,css,gs,cl,t,r,z,s,ms,rfl,X.same s4,Th.same s4,fm,fun l2 H5 zs s5 hl2 el2 pz sz=>?_⟩
   have e:=or pz sz pm sr
   subst e
   walk_at "w"
   refine nD el2 ((s4.trans s5) _ _ eD) ?_
   rw [decide_eq_true rfl]
   exact q _ (s4.trans s5)
def tZ (K:PySem.W.Frag) (c:RCl RK) (d:RCl PzK):Sp:=fun vs H Q _=>∃ (a:Addr) (ns:List Int),vs=[.ref a]∧SqL K H a (ns.map V.int)∧ns.length≤63∧(∀ k,k≠.Rule→c.ok k=true)∧d.ok .Puzzle=true∧∀ H',Q (.bl true) H'
def qV (K:PySem.W.Frag):Sp:=fun vs H Q _=>∃ (a:Addr) (ns:List Int),vs=[.ref a]∧SqL K H a (ns.map V.int)∧ns.length≤63∧∀ H',Q (.bl true) H'
theorem Af {K:PySem.W.Frag} {c:RCl RK} {d:RCl PzK} {vs:List V} {H:Hp} {Q:VK} {E:XK} (h:tZ K c d vs H Q E):vs.length=1:=by
 obtain ⟨_,_,rfl,_⟩:=h; rfl
def yz (K:PySem.W.Frag) (c:RCl RK) (d:RCl PzK):TS:=
 (tSeq (tAsg (tCall (cY K) [] E0 (tCons (tVar 12) (tCons (tVar 1) (tCons (tVar 3) tNil)))) (gName 13))
  (tSeq (tIfS (tNot (tB (tCall (cC K c d) [] E0 (tCons (tVar 6) (tCons (tVar 12) (tCons (tVar 13) tNil)))))) (tRet (tC (.bl false))) tNext)
  (tSeq (tAsg (tCall (bF K) [] E0 (tCons (tVar 0) (tCons (tVar 7) (tCons (tVar 13) (tCons (tOp cIx (tVar 1) (tC (.int 2))) (tCons (tOp cAdd (tC (.int 150)) (tOp cMul (tC (.int 16)) (tVar 4))) tNil)))))) (gName 14))
  (tIfS (tTest (tOp (cNe K) (tCall (cP K c d) [] E0 (tCons (tVar 6) (tCons (tVar 7) (tCons (tVar 12) tNil)))) (tCall (cP K c d) [] E0 (tCons (tVar 6) (tCons (tVar 14) (tCons (tVar 12) tNil)))))) (tRet (tC (.bl false))) tNext))))
def m3 (K:PySem.W.Frag) (c:RCl RK) (d:RCl PzK):TS:=
 (tSeq (tFor (di (tCons (tC (.int 8)) tNil)) (gName 4)
  (tSeq (tAsg (tCall (aL K) [] E0 (tCons (tVar 0) (tCons (tOp cAdd (tC (.int 130)) (tVar 4)) tNil))) (gName 8))
  (tSeq (tAsg (tOp cMod (tVar 8) (tVar 2)) (gName 9))
  (tSeq (tAsg (tOp cAdd (tC (.int 1)) (tOp cMod (tOp cDiv (tVar 8) (tC (.int 16))) (tOp cIx (tVar 1) (tC (.int 2))))) (gName 10))
  (tSeq (tAsg (tCall (bM K) [] E0 (tCons (tOp cDiv (tVar 8) (tC (.int 96))) (tCons (tVar 3) (tCons (tVar 9) (tCons (tVar 10) (tCons (tOp cIx (tVar 1) (tC (.int 2))) tNil)))))) (gName 11))
  (tFor (iList K (tOp cAdd (tVar 11) (tCall (bx K) [] E0 (tCons (tOp cDiv (tVar 8) (tC (.int 96))) (tCons (tVar 1) (tCons (tVar 7) (tCons (tVar 5) (tCons (tVar 9) (tCons (tVar 10) tNil))))))))) (gName 12)
  (yz K c d)))))))
  (tRet (tC (.bl true))))
def m4 (K:PySem.W.Frag) (c:RCl RK) (d:RCl PzK):TS:=
 (tSeq (tAsg (tCall (cy K) [] E0 (tCons (tVar 0) (tCons (tC (.int 90)) (tCons (tVar 2) (tCons (tOp cIx (tVar 1) (tC (.int 2))) tNil))))) (gName 7))
  (m3 K c d))
def m5 (K:PySem.W.Frag) (c:RCl RK) (d:RCl PzK):TS:=
 (tSeq (sComp 5 [none,none,some 1,some 0] (di (tCons (tC (.int 3)) tNil)) (gName 1) tTrue (tOp cAdd (tC (.int 1)) (tOp cMod (tCall (aL K) [] E0 (tCons (tVar 3) (tCons (tOp cAdd (tC (.int 52)) (tVar 1)) tNil))) (tOp cIx (tVar 2) (tC (.int 2))))))
  (tSeq (tAsg (tCall (ca K c d) [] E0 (tCons (tVar 0) (tCons (tVar 1) (tCons (tVar 3) (tCons (tVar 5) tNil))))) (gName 6))
  (m4 K c d)))
def qw (K:PySem.W.Frag) (c:RCl RK) (d:RCl PzK):TS:=
 (tSeq (tAsg (tCall (cx K) [] E0 (tCons (tCall (aL K) [] E0 (tCons (tVar 0) (tCons (tC (.int 0)) tNil))) tNil)) (gName 1))
  (tSeq (tAsg (tOp cMul (tOp cIx (tVar 1) (tC (.int 0))) (tOp cIx (tVar 1) (tC (.int 1)))) (gName 2))
  (tSeq (tAsg (tCall (cB K) [] E0 (tCons (tVar 0) (tCons (tVar 1) tNil))) (gName 3))
  (m5 K c d))))
theorem yA {h w g:Int} {css:List (List Nat)} {t:TK} {r z s:Int} {ms:List Int} (F:FlOk h w g) (lo:LsOk h w css) (fm:Fm30 h w g css z t r s ms):(restL h w css t r z ms).length≤100:=by
 have m16:=F.m
 cases fm with
 | clue=>exact Nat.zero_le _
 | only=>show (1:Nat)≤100; decide
 | pair=>show (2:Nat)≤100; decide
 | @place i cs s x ec hz hg x0 x1 xs=>
  rw [jS ec]
  have cn:=(lo cs (List.mem_of_getElem? ec)).2.2.1
  refine Nat.le_trans (List.length_filter_le _ _) ?_
  rw [List.length_map]
  omega
 | square=>exact Nat.le_trans (rC _ _ _ _) (by decide)
 | reach=>
  show (allL h w z).length≤100
  rw [List.length_map]
  refine Nat.le_trans (List.length_filter_le _ _) ?_
  rw [List.length_range]
  omega
 | @turn s ms fm=>
  rcases fm with rfl | ⟨x,hx,rfl⟩
  · exact Nat.le_trans (mX h w z) (by decide)
  · show (arL h w x z++[x]).length≤100
    have al:(arL h w x z).length≤4:=Nat.le_trans (List.length_filter_le _ _) (mX h w x)
    rw [List.length_append]
    show (arL h w x z).length+1≤100
    omega
theorem t6 {cs:List Nat} {z x:Int} (hx:x∈aS cs z):0≤x:=by
 obtain ⟨n,_,rfl⟩:=List.mem_map.mp (List.mem_filter.mp hx).1
 omega
theorem zn {h w g:Int} {css:List (List Nat)} {t:TK} {r z s:Int} {ms:List Int} (F:FlOk h w g) (z0:0≤z) (z1:z < h*w) (fm:Fm30 h w g css z t r s ms):∀ c∈restL h w css t r z ms,0≤c:=by
 intro c hc
 cases fm with
 | clue=>cases hc
 | only ec hz hx=>rw [List.mem_singleton.mp hc]; exact t6 hx
 | @pair i cs s j k ec hz hj hk=>
  have m:∀ j,j < (aS cs z).length→0≤(aS cs z).getD j 0:=fun j hj=>by
   rw [List.getD,List.getElem?_eq_getElem hj]; exact t6 (List.getElem_mem _)
  rcases List.mem_cons.mp hc with rfl | hc
  · exact m j (by omega)
  · rw [List.mem_singleton.mp hc]; exact m k hk
 | place ec hz hg x0 x1 xs=>
  rw [jS ec] at hc
  exact t6 hc
 | square=>exact ((xE F rfl).2 c hc).1
 | reach=>
  obtain ⟨n,_,rfl⟩:=List.mem_map.mp hc
  omega
 | @turn s ms fm=>
  rcases fm with rfl | ⟨x,hx,rfl⟩
  · exact ((fJ F z0 z1).2 c hc).1
  · rw [(fJ F z0 z1).1] at hx
    have xb:=(fJ F z0 z1).2 x hx
    have hc':c∈arL h w x z++[x]:=hc
    rcases List.mem_append.mp hc' with hc' | hc'
    · exact ((fJ F xb.1 xb.2).2 c (List.mem_filter.mp hc').1).1
    · rw [List.mem_singleton.mp hc']; exact xb.1
structure L31 (K:PySem.W.Frag) (H:Hp) (c:RCl RK) (d:RCl PzK) (a p Ls O P L G A:Addr) (as:List Addr) (css:List (List Nat)) (ns gs cl masks:List Int) (h w g:Int):Prop where
 S:SqL K H a (ns.map V.int)
 n:ns.length≤63
 fl:IsFl H p h w g
 F:FlOk h w g
 ll:IsLN H Ls as css
 n2:css.length=2
 lo:LsOk h w css
 oo:H O=some (.lst (gs.map V.int))
 g3:gs.length=3
 gg:∀ x∈gs,1≤x∧x≤g
 pz:IsPz H c d P L G h w g (bj h w css gs) cl
 aa:H A=some (.lst (masks.map V.int))
 ml:masks.length=(h*w).toNat
 mm:∀ m∈masks,0≤m∧m < 64
theorem L31.same {K:PySem.W.Frag} {H H':Hp} {c:RCl RK} {d:RCl PzK} {a p Ls O P L G A:Addr} {as:List Addr} {css:List (List Nat)} {ns gs cl masks:List Int} {h w g:Int} (X:L31 K H c d a p Ls O P L G A as css ns gs cl masks h w g) (e:Same H H'):L31 K H' c d a p Ls O P L G A as css ns gs cl masks h w g:=
 ⟨e.seq X.S,X.n,e _ _ X.fl,X.F,X.ll.same e,X.n2,X.lo,e _ _ X.oo,X.g3,X.gg,X.pz.same e,e _ _ X.aa,X.ml,X.mm⟩
theorem zo {K:PySem.W.Frag} {c:RCl RK} {d:RCl PzK} {D:Ends} {H:Hp} {a p Ls O P L G A T M:Addr} {as:List Addr} {css:List (List Nat)} {ns gs cl masks ms:List Int} {h w g r z s:Int} {t:TK} {i:Nat} {v8 v9 v10 v11 v13 v14:Option V} (X:L31 K H c d a p Ls O P L G A as css ns gs cl masks h w g) (Th:IsTh H T M t r z s ms) (fm:Fm30 h w g css z t r s ms) (z0:0≤z) (z1:z < h*w) (hi:i < 8)
  (q:∀ (v13 v14:Option V) (H':Hp),Same H H'→D.nx [some (.ref a),some (.ref p),some (.int (h*w)),some (.ref Ls),some (.int (i:Int)),some (.ref O),some (.ref P),some (.ref A),v8,v9,v10,v11,some (.ref T),v13,v14] H'):
  yz K c d D [some (.ref a),some (.ref p),some (.int (h*w)),some (.ref Ls),some (.int (i:Int)),some (.ref O),some (.ref P),some (.ref A),v8,v9,v10,v11,some (.ref T),v13,v14] H:=by
 have m16:=X.F.m
 have ml:=X.ml
 unfold yz
 walk_at "w"
 refine ⟨T,M,p,Ls,as,css,h,w,g,t,r,z,s,ms,rfl,Th,X.fl,X.F,X.ll,X.lo,z0,z1,fm,fun Dd H1 xs s1 hD eD pm sr=>?_⟩
 have xl:xs.length≤100:=by rw [pm.length_eq]; exact yA X.F X.lo fm
 have X1:=X.same s1
 walk_at "w"
 rw [aA]
 walk_at "w"
 refine ⟨P,L,G,T,M,Dd,h,w,g,css,gs,cl,t,r,z,s,ms,xs,rfl,X1.pz,Th.same s1,fm,eD,xl,pm,sr,fun H2 s2=>?_⟩
 have s12:=s1.trans s2
 have X2:=X.same s12
 walk_at "w"
 refine ixT X2.fl (v:=V.int g) rfl ?_
 walk_at "w"
 refine ⟨.inl ⟨by decide,by decide⟩,?_⟩
 refine ⟨a,A,Dd,ns,masks,xs,g,_,rfl,X2.S,X2.n,X2.aa,by omega,X2.mm,s2 _ _ eD,X.F.g0,X.F.g1,by omega,by omega,fun B H3 less s3 eB bl lm ag=>?_⟩
 have s13:=s12.trans s3
 have X3:=X.same s13
 have A1:Agree masks less (restL h w css t r z ms):=fun y hy=>by
  have y0:=zn X.F z0 z1 fm y hy
  by_cases hk:y.toNat < masks.length
  · exact ag y.toNat hk (by rw [show ((y.toNat:Nat):Int)=y by omega]; exact pm.mem_iff.mpr hy)
  · rw [List.getD,List.getD,List.getElem?_eq_none (by omega),List.getElem?_eq_none (by omega)]
 have e:=yw (cl:=cl) X.pz.R fm A1
 walk_at "w"
 rw [aA]
 walk_at "w"
 refine ⟨P,L,G,A,T,M,h,w,g,_,cl,masks,t,r,z,s,ms,rfl,⟨X3.pz,Th.same s13,X3.aa,X3.ml⟩,fm.kd,X3.mm,fun H4 s4=>?_⟩
 have X4:=X3.same s4
 walk_at "w"
 refine ⟨P,L,G,B,T,M,h,w,g,_,cl,less,t,r,z,s,ms,rfl,⟨X4.pz,Th.same (s13.trans s4),s4 _ _ eB,by omega⟩,fm.kd,lm,fun H5 s5=>?_⟩
 rw [e]
 walk_at "w"
 exact q _ _ _ (s13.trans (s4.trans s5))
theorem xQ {K:PySem.W.Frag} {c:RCl RK} {d:RCl PzK} {H:Hp} {Q:VK} {a p Ls O P L G A:Addr} {as:List Addr} {css:List (List Nat)} {ns gs cl masks:List Int} {h w g:Int} (X:L31 K H c d a p Ls O P L G A as css ns gs cl masks h w g) (k:∀ H',Q (.bl true) H'):
  m3 K c d { nx:=fun _ H'=>Q .non H',rt:=Q } [some (.ref a),some (.ref p),some (.int (h*w)),some (.ref Ls),none,some (.ref O),some (.ref P),some (.ref A),none,none,none,none,none,none,none] H:=by
 obtain ⟨h0,h1,w0,w1,m16,g0,g6⟩:=id X.F
 have mpos:1≤h*w:=Int.le_trans (by omega) (Int.mul_le_mul h0 w0 (by omega) (by omega))
 unfold m3
 walk_at "w"
 refine ⟨8,rfl,by decide,by decide,?_⟩
 refine fw (fun i σ H'=>∃ v4 v8 v9 v10 v11 v12 v13 v14:Option V,σ=[some (.ref a),some (.ref p),some (.int (h*w)),some (.ref Ls),v4,some (.ref O),some (.ref P),some (.ref A),v8,v9,v10,v11,v12,v13,v14]∧Same H H') ⟨_,_,_,_,_,_,_,_,rfl,Same.refl H⟩ ?_ ?_
 · rintro i σ H1 hi ⟨v4,v8,v9,v10,v11,v12,v13,v14,rfl,s1⟩
   have hi8:i < 8:=hi
   have X1:=X.same s1
   rw [Int.zero_add]
   walk_at "w"
   refine ⟨a,ns,_,rfl,X1.S,X.n,by omega,by omega,?_⟩
   generalize lawCA ns (130+(i:Int))=y at*
   walk_at "w"
   refine ⟨by omega,?_⟩
   have b0:=Int.emod_nonneg y (show h*w≠0 by omega)
   have b1:=Int.emod_lt_of_pos y (show 0 < h*w by omega)
   generalize y % (h*w)=z at*
   refine ⟨⟨by decide,by decide⟩,?_⟩
   refine ixT X1.fl (v:=V.int g) rfl ?_
   walk_at "w"
   refine ⟨by omega,?_⟩
   have d0:=Int.emod_nonneg (y / 16) (show g≠0 by omega)
   have d1:=Int.emod_lt_of_pos (y / 16) (show 0 < g by omega)
   obtain ⟨s,es⟩:∃ s,s=1+y / 16 % g:=⟨_,rfl⟩
   have s0:1≤s:=by omega
   have sg:s≤g:=by omega
   rw [← es]
   refine ⟨⟨by decide,by decide⟩,?_⟩
   refine ixT X1.fl (v:=V.int g) rfl ?_
   walk_at "w"
   refine ⟨Ls,as,css,h,w,g,_,z,s,rfl,X1.ll,X.n2,X.lo,s0,sg,g6,fun L1 ts1 H2 s2 Y1 l1=>?_⟩
   have X2:=X1.same s2
   walk_at "w"
   refine ⟨⟨by decide,by decide⟩,?_⟩
   refine ⟨p,A,O,css,masks,gs,h,w,g,_,z,s,rfl,⟨X2.fl,X2.F,X2.aa,X2.ml,X2.mm,X2.oo,X2.g3,X2.gg,b0,b1,s0,sg⟩,fun L2 ts2 H3 s3 Y2 l2=>?_⟩
   have Y1':=Y1.same s3
   walk_at "w"
   refine lb Y1'.top Y2.top (by rw [List.length_map,List.length_map]; omega) fun W hW=>?_
   have s4:Same H3 (upd H3 W (.lst (ts1.map V.ref++ts2.map V.ref))):=(Same.refl H3).laid hW
   have eW:(upd H3 W (.lst (ts1.map V.ref++ts2.map V.ref))) W=some (.lst (ts1.map V.ref++ts2.map V.ref)):=ah
   generalize upd H3 W (.lst (ts1.map V.ref++ts2.map V.ref))=H4 at*
   have s14:=(s1.trans s2).trans (s3.trans s4)
   walk_at "w"
   refine ⟨⟨_,SqL.of eW⟩,?_⟩
   refine ln (K:=K) (xs:=ts1.map V.ref++ts2.map V.ref) (fun i' σ H'=>∃ v12 v13 v14:Option V,σ=[some (.ref a),some (.ref p),some (.int (h*w)),some (.ref Ls),some (.int (i:Int)),some (.ref O),some (.ref P),some (.ref A),some (.int y),some (.int z),some (.int s),some (.ref L1),v12,v13,v14]∧Same H4 H') ⟨_,_,_,rfl,Same.refl H4⟩ (fun i' σ H' _ ⟨_,_,_,_,e⟩=>e.seq (SqL.of eW)) ?_ ?_
   · rintro i' v σ H5 hv ⟨u12,u13,u14,rfl,s5⟩
     obtain ⟨T,M,t,r,s',ms,rfl,fm,Th⟩:∃ (T M:Addr) (t:TK) (r s':Int) (ms:List Int),v=V.ref T∧Fm30 h w g css z t r s' ms∧IsTh H5 T M t r z s' ms:=by
      rcases List.mem_append.mp (List.mem_of_getElem? hv) with hm | hm
      · obtain ⟨T,hT,rfl⟩:=List.mem_map.mp hm
        obtain ⟨M,t,r,z',s',ms,_,⟨ez,_,_,fm⟩,th⟩:=Y1'.ok T hT
        rw [ez] at th
        exact ⟨T,M,t,r,s',ms,rfl,fm,th.same (s4.trans s5)⟩
      · obtain ⟨T,hT,rfl⟩:=List.mem_map.mp hm
        obtain ⟨M,t,r,z',s',ms,_,⟨ez,_,_,fm⟩,th⟩:=Y2.ok T hT
        rw [ez] at th
        exact ⟨T,M,t,r,s',ms,rfl,fm,th.same (s4.trans s5)⟩
     walk_at "w"
     exact zo (X.same (s14.trans s5)) Th fm b0 b1 hi8 fun u13 u14 H6 s6=>⟨_,_,_,rfl,s5.trans s6⟩
   · rintro σ H5 ⟨u12,u13,u14,rfl,s5⟩
     exact ⟨_,_,_,_,_,_,_,_,rfl,s14.trans s5⟩
 · rintro σ H1 ⟨v4,v8,v9,v10,v11,v12,v13,v14,rfl,s1⟩
   walk_at "w"
   exact k _
theorem xR {K:PySem.W.Frag} {c:RCl RK} {d:RCl PzK} {H:Hp} {Q:VK} {a p Ls O P L G:Addr} {as:List Addr} {css:List (List Nat)} {ns gs cl:List Int} {h w g:Int} (hS:SqL K H a (ns.map V.int)) (hn:ns.length≤63) (hp:IsFl H p h w g) (F:FlOk h w g) (ll:IsLN H Ls as css) (n2:css.length=2) (lo:LsOk h w css) (oo:H O=some (.lst (gs.map V.int))) (g3:gs.length=3) (gg:∀ x∈gs,1≤x∧x≤g) (pz:IsPz H c d P L G h w g (bj h w css gs) cl) (k:∀ H',Q (.bl true) H'):
  m4 K c d { nx:=fun _ H'=>Q .non H',rt:=Q } [some (.ref a),some (.ref p),some (.int (h*w)),some (.ref Ls),none,some (.ref O),some (.ref P),none,none,none,none,none,none,none,none] H:=by
 obtain ⟨h0,h1,w0,w1,m16,g0,g6⟩:=id F
 have mpos:1≤h*w:=Int.le_trans (by omega) (Int.mul_le_mul h0 w0 (by omega) (by omega))
 unfold m4
 walk_at "w"
 refine ixT hp (v:=V.int g) rfl ?_
 walk_at "w"
 refine ⟨a,ns,90,h*w,g,rfl,hS,hn,by decide,by decide,by omega,m16,g0,g6,fun A H1 masks s1 hA eA ml mm=>?_⟩
 walk_at "w"
 exact xQ ⟨s1.seq hS,hn,s1 _ _ hp,F,ll.same s1,n2,lo,s1 _ _ oo,g3,gg,pz.same s1,eA,ml,fun m hm=>⟨(mm m hm).1,AC g0 g6 (mm m hm).2⟩⟩ k
theorem xS {K:PySem.W.Frag} {c:RCl RK} {d:RCl PzK} {H:Hp} {Q:VK} {a p Ls:Addr} {as:List Addr} {css:List (List Nat)} {ns:List Int} {h w g:Int} (hS:SqL K H a (ns.map V.int)) (hn:ns.length≤63) (hp:IsFl H p h w g) (F:FlOk h w g) (ll:IsLN H Ls as css) (n2:css.length=2) (lo:LsOk h w css) (hk:∀ k,k≠.Rule→c.ok k=true) (ok:d.ok .Puzzle=true) (k:∀ H',Q (.bl true) H'):
  m5 K c d { nx:=fun _ H'=>Q .non H',rt:=Q } [some (.ref a),some (.ref p),some (.int (h*w)),some (.ref Ls),none,none,none,none,none,none,none,none,none,none,none] H:=by
 obtain ⟨h0,h1,w0,w1,m16,g0,g6⟩:=id F
 unfold m5
 walk_at "w"
 refine ⟨3,rfl,by decide,by decide,?_⟩
 refine gi (fun _=>true) (fun i=>1+lawCA ns (52+(i:Int)) % g) (by decide) ?_ ?_ ?_
 · intro i H2 R hi s2 k2
   exact k2 _ (Same.refl _)
 · intro i H2 Q2 hi _ s2 k2
   have hil:i < 3:=hi
   rw [Int.zero_add]
   show tOp cAdd _ _ [none,some (.int (i:Int)),some (.ref p),some (.ref a)] H2 Q2
   walk_at "w"
   refine ⟨a,ns,_,rfl,s2.seq hS,hn,by omega,by omega,?_⟩
   walk_at "w"
   refine ixT (s2 _ _ hp) (v:=V.int g) rfl ?_
   walk_at "w"
   refine ⟨by omega,?_⟩
   exact k2 _ (Same.refl _)
 · intro O H2 hO s2 eO
   rw [List.filter_eq_self.mpr fun _ _=>rfl] at eO
   have g3:((List.range 3).map fun (i:Nat)=>1+lawCA ns (52+(i:Int)) % g).length=3:=by rw [List.length_map,List.length_range]
   have gg:∀ x∈(List.range 3).map fun (i:Nat)=>1+lawCA ns (52+(i:Int)) % g,1≤x∧x≤g:=fun x hx=>by
    obtain ⟨i,hi,rfl⟩:=List.mem_map.mp hx
    have b0:=Int.emod_nonneg (lawCA ns (52+(i:Int))) (show g≠0 by omega)
    have b1:=Int.emod_lt_of_pos (lawCA ns (52+(i:Int))) (show 0 < g by omega)
    omega
   have eO':H2 O=some (.lst (((List.range 3).map fun (i:Nat)=>1+lawCA ns (52+(i:Int)) % g).map V.int)):=eO
   clear eO
   generalize ((List.range 3).map fun (i:Nat)=>1+lawCA ns (52+(i:Int)) % g)=gs at*
   walk_at "w"
   refine ⟨a,p,Ls,O,as,css,ns,gs,h,w,g,rfl,s2.seq hS,hn,s2 _ _ hp,F,ll.same s2,n2,lo,eO',g3,gg,hk,ok,fun P L G cl H3 s3 pz=>?_⟩
   have s23:=s2.trans s3
   walk_at "w"
   exact xR (s23.seq hS) hn (s23 _ _ hp) F (ll.same s23) n2 lo (s3 _ _ eO') g3 gg pz k
theorem Ag {K:PySem.W.Frag} {c:RCl RK} {d:RCl PzK} {vs:List V} {H:Hp} {Q:VK} {E:XK} (h:tZ K c d vs H Q E):qw K c d { nx:=fun _ H'=>Q .non H',rt:=Q } (start ["_law_script","_law_floor_here","_law_many","_law_lists_here","_law_k","_law_goals","_law_puzzle_here","_law_masks_here","_law_number","_law_cell","_law_sign","_law_some","_law_thought","_law_due_here","_law_beside_them"] vs) H:=by
 obtain ⟨a,ns,rfl,hS,hn,hk,ok,k⟩:=h
 show qw K c d _ [some (.ref a),none,none,none,none,none,none,none,none,none,none,none,none,none,none] H
 unfold qw
 walk_at "w"
 refine ⟨a,ns,0,rfl,hS,hn,by decide,by decide,?_⟩
 refine ⟨_,rfl,fun p H1 h w g s1 hp0 hp F=>?_⟩
 obtain ⟨h0,h1,w0,w1,m16,g0,g6⟩:=id F
 walk_at "w"
 refine ixT hp (v:=V.int h) rfl ?_
 walk_at "w"
 refine ixT hp (v:=V.int w) rfl ?_
 walk_at "w"
 refine ⟨fE h0 h1,?_⟩
 refine ⟨a,p,ns,h,w,g,rfl,s1.seq hS,hn,hp,F,fun Ls as css H2 s2 ll n2 lo=>?_⟩
 have s12:=s1.trans s2
 walk_at "w"
 exact xS (s12.seq hS) hn (s2 _ _ hp) F ll n2 lo hk ok k
end L2
namespace L2
open PySem PySem.Spec PyProof.Rows
section
variable {P:Program} {w:World} {K:PySem.W.Frag} {mg:Str→Option Value} {base:Heap} {k:Nat} {x qual y:Str} {st:Stmt} {f:Addr} {fd:FuncData} {sp:Sp}
theorem lQ {a0:Str} (F:Fun K x qual st f fd) (h:∀ (kV doc pm:Value) (an:Option Addr) (cdv ct u0:Value),bindArgs (PySem.W.fnOf x qual (bK st) (bC st) (aj st) .none kV doc pm an cdv ct) ⟨[u0],[]⟩=pure (([a0]:List Str).zip [u0]):=by intros; rfl):Binds K fd [a0] []:=F.binds fun _ _ _ _ _ _ us hl=>match us,hl with | [u0],_=>h _ _ _ _ _ _ _
theorem m6 {a0:Str} (T:FnOk P w K mg base CX0 k f fd [a0] sp) (F:Fun K x qual st f fd) (hm:mg y=some (.ref f)) (h:∀ (kV doc pm:Value) (an:Option Addr) (cdv ct u0:Value),bindArgs (PySem.W.fnOf x qual (bK st) (bC st) (aj st) .none kV doc pm an cdv ct) ⟨[u0],[]⟩=pure (([a0]:List Str).zip [u0]):=by intros; rfl):Cal P w K mg base k y [a0] sp:=⟨f,fd,T,hm,F.kp,lQ F h⟩
theorem AE {a0 a1:Str} (F:Fun K x qual st f fd) (h:∀ (kV doc pm:Value) (an:Option Addr) (cdv ct u0 u1:Value),bindArgs (PySem.W.fnOf x qual (bK st) (bC st) (aj st) .none kV doc pm an cdv ct) ⟨[u0,u1],[]⟩=pure (([a0,a1]:List Str).zip [u0,u1]):=by intros; rfl):Binds K fd [a0,a1] []:=F.binds fun _ _ _ _ _ _ us hl=>match us,hl with | [u0,u1],_=>h _ _ _ _ _ _ _ _
theorem bX {a0 a1:Str} (T:FnOk P w K mg base CX0 k f fd [a0,a1] sp) (F:Fun K x qual st f fd) (hm:mg y=some (.ref f)) (h:∀ (kV doc pm:Value) (an:Option Addr) (cdv ct u0 u1:Value),bindArgs (PySem.W.fnOf x qual (bK st) (bC st) (aj st) .none kV doc pm an cdv ct) ⟨[u0,u1],[]⟩=pure (([a0,a1]:List Str).zip [u0,u1]):=by intros; rfl):Cal P w K mg base k y [a0,a1] sp:=⟨f,fd,T,hm,F.kp,AE F h⟩
theorem AF {a0 a1 a2:Str} (F:Fun K x qual st f fd) (h:∀ (kV doc pm:Value) (an:Option Addr) (cdv ct u0 u1 u2:Value),bindArgs (PySem.W.fnOf x qual (bK st) (bC st) (aj st) .none kV doc pm an cdv ct) ⟨[u0,u1,u2],[]⟩=pure (([a0,a1,a2]:List Str).zip [u0,u1,u2]):=by intros; rfl):Binds K fd [a0,a1,a2] []:=F.binds fun _ _ _ _ _ _ us hl=>match us,hl with | [u0,u1,u2],_=>h _ _ _ _ _ _ _ _ _
theorem im {a0 a1 a2:Str} (T:FnOk P w K mg base CX0 k f fd [a0,a1,a2] sp) (F:Fun K x qual st f fd) (hm:mg y=some (.ref f)) (h:∀ (kV doc pm:Value) (an:Option Addr) (cdv ct u0 u1 u2:Value),bindArgs (PySem.W.fnOf x qual (bK st) (bC st) (aj st) .none kV doc pm an cdv ct) ⟨[u0,u1,u2],[]⟩=pure (([a0,a1,a2]:List Str).zip [u0,u1,u2]):=by intros; rfl):Cal P w K mg base k y [a0,a1,a2] sp:=⟨f,fd,T,hm,F.kp,AF F h⟩
theorem yI {a0 a1 a2 a3:Str} (F:Fun K x qual st f fd) (h:∀ (kV doc pm:Value) (an:Option Addr) (cdv ct u0 u1 u2 u3:Value),bindArgs (PySem.W.fnOf x qual (bK st) (bC st) (aj st) .none kV doc pm an cdv ct) ⟨[u0,u1,u2,u3],[]⟩=pure (([a0,a1,a2,a3]:List Str).zip [u0,u1,u2,u3]):=by intros; rfl):Binds K fd [a0,a1,a2,a3] []:=F.binds fun _ _ _ _ _ _ us hl=>match us,hl with | [u0,u1,u2,u3],_=>h _ _ _ _ _ _ _ _ _ _
theorem t7 {a0 a1 a2 a3:Str} (T:FnOk P w K mg base CX0 k f fd [a0,a1,a2,a3] sp) (F:Fun K x qual st f fd) (hm:mg y=some (.ref f)) (h:∀ (kV doc pm:Value) (an:Option Addr) (cdv ct u0 u1 u2 u3:Value),bindArgs (PySem.W.fnOf x qual (bK st) (bC st) (aj st) .none kV doc pm an cdv ct) ⟨[u0,u1,u2,u3],[]⟩=pure (([a0,a1,a2,a3]:List Str).zip [u0,u1,u2,u3]):=by intros; rfl):Cal P w K mg base k y [a0,a1,a2,a3] sp:=⟨f,fd,T,hm,F.kp,yI F h⟩
theorem AG {a0 a1 a2 a3 a4:Str} (F:Fun K x qual st f fd) (h:∀ (kV doc pm:Value) (an:Option Addr) (cdv ct u0 u1 u2 u3 u4:Value),bindArgs (PySem.W.fnOf x qual (bK st) (bC st) (aj st) .none kV doc pm an cdv ct) ⟨[u0,u1,u2,u3,u4],[]⟩=pure (([a0,a1,a2,a3,a4]:List Str).zip [u0,u1,u2,u3,u4]):=by intros; rfl):Binds K fd [a0,a1,a2,a3,a4] []:=F.binds fun _ _ _ _ _ _ us hl=>match us,hl with | [u0,u1,u2,u3,u4],_=>h _ _ _ _ _ _ _ _ _ _ _
theorem qW {a0 a1 a2 a3 a4:Str} (T:FnOk P w K mg base CX0 k f fd [a0,a1,a2,a3,a4] sp) (F:Fun K x qual st f fd) (hm:mg y=some (.ref f)) (h:∀ (kV doc pm:Value) (an:Option Addr) (cdv ct u0 u1 u2 u3 u4:Value),bindArgs (PySem.W.fnOf x qual (bK st) (bC st) (aj st) .none kV doc pm an cdv ct) ⟨[u0,u1,u2,u3,u4],[]⟩=pure (([a0,a1,a2,a3,a4]:List Str).zip [u0,u1,u2,u3,u4]):=by intros; rfl):Cal P w K mg base k y [a0,a1,a2,a3,a4] sp:=⟨f,fd,T,hm,F.kp,AG F h⟩
theorem yJ {a0 a1 a2 a3 a4 a5:Str} (F:Fun K x qual st f fd) (h:∀ (kV doc pm:Value) (an:Option Addr) (cdv ct u0 u1 u2 u3 u4 u5:Value),bindArgs (PySem.W.fnOf x qual (bK st) (bC st) (aj st) .none kV doc pm an cdv ct) ⟨[u0,u1,u2,u3,u4,u5],[]⟩=pure (([a0,a1,a2,a3,a4,a5]:List Str).zip [u0,u1,u2,u3,u4,u5]):=by intros; rfl):Binds K fd [a0,a1,a2,a3,a4,a5] []:=F.binds fun _ _ _ _ _ _ us hl=>match us,hl with | [u0,u1,u2,u3,u4,u5],_=>h _ _ _ _ _ _ _ _ _ _ _ _
theorem t8 {a0 a1 a2 a3 a4 a5:Str} (T:FnOk P w K mg base CX0 k f fd [a0,a1,a2,a3,a4,a5] sp) (F:Fun K x qual st f fd) (hm:mg y=some (.ref f)) (h:∀ (kV doc pm:Value) (an:Option Addr) (cdv ct u0 u1 u2 u3 u4 u5:Value),bindArgs (PySem.W.fnOf x qual (bK st) (bC st) (aj st) .none kV doc pm an cdv ct) ⟨[u0,u1,u2,u3,u4,u5],[]⟩=pure (([a0,a1,a2,a3,a4,a5]:List Str).zip [u0,u1,u2,u3,u4,u5]):=by intros; rfl):Cal P w K mg base k y [a0,a1,a2,a3,a4,a5] sp:=⟨f,fd,T,hm,F.kp,yJ F h⟩
end
end L2
namespace L2
open PySem PySem.Spec PyProof.Rows
def top (i:Nat):Stmt:=PySem.Challenge.pw_cluemaker_k31_what_it_rests_on.main.body.getD i (.Pass ⟨0,0,0,0⟩)
def mtop (i j:Nat):Stmt:=match top i with
 | .ClassDef _ _ _ body _ _ _ _ _ _ _=>body.getD j (.Pass ⟨0,0,0,0⟩)
 | s=>s
abbrev lR:Stmt:=top 10
theorem sc_is_whole:ax ["value"] ["value"] (aj lR):=⟨rfl,rfl,rfl,by decide+kernel,rfl,by decide+kernel,by decide+kernel⟩
set_option maxHeartbeats 4000000 in
theorem uN {P:Program} {w:World} {K:PySem.W.Frag} {mg:Str→Option Value} {base:Heap} (B:Bt2 mg) {f:Addr} {fd:FuncData} (F:Fun K "is_whole" "is_whole" lR f fd):FnOk P w K mg base CX0 1 f fd ["value"] (ba K):=by
 refine F.ok sc_is_whole (fun vs H Q E h=>uy h) (fun cdv A outer s H vs Q E hr h=>?_)
 have hu:=hr.units
 have nd:=sc_is_whole.nd
 refine ⟨jd K,?_,uz h⟩
 exact (af (ak (bz (az cI rfl B.isinstance_ bq (ab (pv 0) (ab (d5 (v:=.ty "int") rfl B.int_ sJ rfl) ac))) (ck (zv (az cI rfl B.isinstance_ bq (ab (pv 0) (ab (d5 (v:=.ty "bool") rfl B.bool_ vc rfl) ac))))))))
abbrev j9:Stmt:=top 13
theorem sc_many_cells:ax ["floor"] ["floor"] (aj j9):=⟨rfl,rfl,rfl,by decide+kernel,rfl,by decide+kernel,by decide+kernel⟩
set_option maxHeartbeats 4000000 in
theorem rW {P:Program} {w:World} {K:PySem.W.Frag} {mg:Str→Option Value} {base:Heap} (B:Bt2 mg) {f:Addr} {fd:FuncData} (F:Fun K "many_cells" "many_cells" j9 f fd):FnOk P w K mg base CX0 1 f fd ["floor"] (aR K):=by
 refine F.ok sc_many_cells (fun vs H Q E h=>rJ h) (fun cdv A outer s H vs Q E hr h=>?_)
 have hu:=hr.units
 have nd:=sc_many_cells.nd
 refine ⟨gk K,?_,rK h⟩
 exact (af (ak (am bE (ai (ar hu) (pv 0) ad (fun _ _=>rfl)) (ai (ar hu) (pv 0) ad (fun _ _=>rfl)))))
abbrev m7:Stmt:=top 14
theorem sc_spot_of:ax ["floor","cell","wide"] ["floor","cell"] (aj m7):=⟨rfl,rfl,rfl,by decide+kernel,rfl,by decide+kernel,by decide+kernel⟩
set_option maxHeartbeats 4000000 in
theorem wj {P:Program} {w:World} {K:PySem.W.Frag} {mg:Str→Option Value} {base:Heap} (B:Bt2 mg) {f:Addr} {fd:FuncData} (F:Fun K "spot_of" "spot_of" m7 f fd):FnOk P w K mg base CX0 1 f fd ["floor","cell"] (c5 K):=by
 refine F.ok sc_spot_of (fun vs H Q E h=>vH h) (fun cdv A outer s H vs Q E hr h=>?_)
 have hu:=hr.units
 have nd:=sc_spot_of.nd
 refine ⟨jJ K,?_,vI h⟩
 exact (ae (aw (i:=2) nd rfl (Or.inl rfl) (ai (ar hu) (pv 0) ad (fun _ _=>rfl)))
   (af (ak (b3 (ab (am bu (pv 1) (pv 2)) (ab (am aT (pv 1) (pv 2)) ac))))))
abbrev kI:Stmt:=top 17
theorem sc_square_at:ax ["floor","corner","below"] ["floor","corner"] (aj kI):=⟨rfl,rfl,rfl,by decide+kernel,rfl,by decide+kernel,by decide+kernel⟩
set_option maxHeartbeats 4000000 in
theorem t9 {P:Program} {w:World} {K:PySem.W.Frag} {mg:Str→Option Value} {base:Heap} (B:Bt2 mg) {f:Addr} {fd:FuncData} (F:Fun K "square_at" "square_at" kI f fd):FnOk P w K mg base CX0 1 f fd ["floor","corner"] (dv K):=by
 refine F.ok sc_square_at (fun vs H Q E h=>sY h) (fun cdv A outer s H vs Q E hr h=>?_)
 have hu:=hr.units
 have nd:=sc_square_at.nd
 refine ⟨g8 K,?_,sZ h⟩
 exact (ae (aw (i:=2) nd rfl (Or.inl rfl) (am aE (pv 1) (ai (ar hu) (pv 0) ad (fun _ _=>rfl))))
   (af (ak (aO (ab (pv 1) (ab (am aE (pv 1) ad) (ab (pv 2) (ab (am aE (pv 2) ad) ac))))))))
abbrev o1:Stmt:=top 21
theorem sc_bit_of:ax ["sign","bit","step"] ["sign"] (aj o1):=⟨rfl,rfl,rfl,by decide+kernel,rfl,by decide+kernel,by decide+kernel⟩
set_option maxHeartbeats 4000000 in
theorem xT {P:Program} {w:World} {K:PySem.W.Frag} {mg:Str→Option Value} {base:Heap} (B:Bt2 mg) {f:Addr} {fd:FuncData} (F:Fun K "bit_of" "bit_of" o1 f fd):FnOk P w K mg base CX0 1 f fd ["sign"] (gG K):=by
 refine F.ok sc_bit_of (fun vs H Q E h=>xx h) (fun cdv A outer s H vs Q E hr h=>?_)
 have hu:=hr.units
 have nd:=sc_bit_of.nd
 refine ⟨kA K,?_,xy h⟩
 exact (ae (aw (i:=1) nd rfl (Or.inl rfl) ad)
   (ae (dZ PassesOwn.never rfl (bV rfl B.range_ (ab (am bt (pv 0) ad) ac)) (aI (i:=2) nd rfl (Or.inl rfl))
   (af (aw (i:=1) nd rfl (Or.inl rfl) (am bE (pv 1) ad))))
   (af (ak (pv 1)))))
abbrev o3:Stmt:=top 22
theorem sc_stands:ax ["mask","sign"] ["mask","sign"] (aj o3):=⟨rfl,rfl,rfl,by decide+kernel,rfl,by decide+kernel,by decide+kernel⟩
set_option maxHeartbeats 4000000 in
theorem xU {P:Program} {w:World} {K:PySem.W.Frag} {mg:Str→Option Value} {base:Heap} (B:Bt2 mg) {f:Addr} {fd:FuncData} (F:Fun K "stands" "stands" o3 f fd):FnOk P w K mg base CX0 1 f fd ["mask","sign"] (bW K):=by
 refine F.ok sc_stands (fun vs H Q E h=>xv h) (fun cdv A outer s H vs Q E hr h=>?_)
 have hu:=hr.units
 have nd:=sc_stands.nd
 refine ⟨kz K,?_,xw h⟩
 exact (af (ak (bz (aN fz ad (pv 1) (ao _)) (bz (aN fz (pv 1) (wM PySem.F.plainAttrs_int PySem.F.slot_int_bit_length PySem.F.type_int_bit_length pE (pv 0)) (ao _)) (ck (aN (aG hu) (am aT (am yZ (pv 0) (am bt (pv 1) ad)) ad) ad (ao _)))))))
abbrev lS:Stmt:=top 37
theorem sc_masks_at:ax ["masks","cells"] ["masks","cells"] (aj lS):=⟨rfl,rfl,rfl,by decide+kernel,rfl,by decide+kernel,by decide+kernel⟩
set_option maxHeartbeats 4000000 in
theorem uO {P:Program} {w:World} {K:PySem.W.Frag} {mg:Str→Option Value} {base:Heap} (B:Bt2 mg) {f:Addr} {fd:FuncData} (F:Fun K "masks_at" "masks_at" lS f fd):FnOk P w K mg base CX0 1 f fd ["masks","cells"] (bG K):=by
 refine F.ok sc_masks_at (fun vs H Q E h=>uG h) (fun cdv A outer s H vs Q E hr h=>?_)
 have hu:=hr.units
 have nd:=sc_masks_at.nd
 refine ⟨jh K,?_,uH h⟩
 exact (af (ak (bD (ix:=[none,none,some 0]) [".0","cell","masks"] (aX rfl (by decide+kernel) rfl rfl rfl) rfl (bc (pv 1)) (fun cl s H fp=>(aI (i:=1) (show ([".0","cell","masks"]:List Str).Nodup by decide+kernel) rfl (Or.inl rfl))) (fun cl s H fp=>dq) (fun cl s H fp=>(ai (ar hu) (pv 2) (pv 1) (fun _ _=>rfl))))))
abbrev iS:Stmt:=top 42
theorem sc_clue_strikes:ax ["clues","cell","sign","more"] ["clues","cell","sign","more"] (aj iS):=⟨rfl,rfl,rfl,by decide+kernel,rfl,by decide+kernel,by decide+kernel⟩
set_option maxHeartbeats 4000000 in
theorem qx {P:Program} {w:World} {K:PySem.W.Frag} {mg:Str→Option Value} {base:Heap} (B:Bt2 mg) {f:Addr} {fd:FuncData} (F:Fun K "clue_strikes" "clue_strikes" iS f fd):FnOk P w K mg base CX0 1 f fd ["clues","cell","sign","more"] (cu K):=by
 refine F.ok sc_clue_strikes (fun vs H Q E h=>p6 h) (fun cdv A outer s H vs Q E hr h=>?_)
 have hu:=hr.units
 have nd:=sc_clue_strikes.nd
 refine ⟨fe K,?_,p7 h⟩
 exact (af (ak (bz (aN (aG hu) (pv 3) (aO ac) (ao _)) (bz (aN (aU hu) (ai (ar hu) (pv 0) (pv 1) (fun _ _=>rfl)) ad (ao _)) (ck (aN (aU hu) (ai (ar hu) (pv 0) (pv 1) (fun _ _=>rfl)) (pv 2) (ao _)))))))
abbrev eF:Stmt:=top 50
theorem sc_are_told_in_order:ax ["cells","more"] ["cells","more"] (aj eF):=⟨rfl,rfl,rfl,by decide+kernel,rfl,by decide+kernel,by decide+kernel⟩
set_option maxHeartbeats 4000000 in
theorem lT {P:Program} {w:World} {K:PySem.W.Frag} {mg:Str→Option Value} {base:Heap} (B:Bt2 mg) {f:Addr} {fd:FuncData} (F:Fun K "are_told_in_order" "are_told_in_order" eF f fd):FnOk P w K mg base CX0 1 f fd ["cells","more"] (bv K):=by
 refine F.ok sc_are_told_in_order (fun vs H Q E h=>lH h) (fun cdv A outer s H vs Q E hr h=>?_)
 have hu:=hr.units
 have nd:=sc_are_told_in_order.nd
 refine ⟨cF K,?_,lI h⟩
 exact (ae (aB (PW.pt (bY (ap (aU hu) (az aJ rfl B.len_ aQ (ab (pv 1) ac)) ad (ao _)) (bY (ap (fB hu) (ai (ar hu) (pv 1) ad (fun _ _=>rfl)) (pv 0) (by with_unfolding_all rfl)) (cj (ap (fB hu) (ai (ar hu) (pv 1) ad (fun _ _=>rfl)) (pv 0) (by with_unfolding_all rfl)))))) (af (ak cE)) au)
   (af (ak (aN cD (bZ PySem.F.plainAttrs_list PySem.F.slot_list_index PySem.F.type_list_index (rk hu) (pv 0) (ab (ai (ar hu) (pv 1) ad (fun _ _=>rfl)) ac)) (bZ PySem.F.plainAttrs_list PySem.F.slot_list_index PySem.F.type_list_index (rk hu) (pv 0) (ab (ai (ar hu) (pv 1) ad (fun _ _=>rfl)) ac)) (ao _)))))
abbrev io:Stmt:=mtop 79 0
theorem sc_Rule___init__:ax ["self","floor","words","cells","amount","mark"] ["self","floor","words","cells","amount","mark"] (aj io):=⟨rfl,rfl,rfl,by decide+kernel,rfl,by decide+kernel,by decide+kernel⟩
set_option maxHeartbeats 4000000 in
theorem o4 {P:Program} {w:World} {K:PySem.W.Frag} {mg:Str→Option Value} {base:Heap} (B:Bt2 mg) {c:RCl RK} (FK_c_amount:FldK K c "amount") (FK_c_cells:FldK K c "cells") (FK_c_floor:FldK K c "floor") (FK_c_mark:FldK K c "mark") (FK_c_words:FldK K c "words") {f:Addr} {fd:FuncData} (F:Fun K "__init__" "Rule.__init__" io f fd):FnOk P w K mg base CX0 1 f fd ["self","floor","words","cells","amount","mark"] (ay K c):=by
 refine F.ok sc_Rule___init__ (fun vs H Q E h=>oH h) (fun cdv A outer s H vs Q E hr h=>?_)
 have hu:=hr.units
 have nd:=sc_Rule___init__.nd
 refine ⟨dM K c,?_,oI h⟩
 exact (ae (gE (pv 0) (pv 1) FK_c_floor)
   (ae (gE (pv 0) (bJ on rfl B.tuple_ lu (ab (pv 2) ac)) FK_c_words)
   (ae (gE (pv 0) (bJ on rfl B.tuple_ lu (ab (pv 3) ac)) FK_c_cells)
   (ae (gE (pv 0) (pv 4) FK_c_amount)
   (af (gE (pv 0) (pv 5) FK_c_mark))))))
abbrev kJ:Stmt:=mtop 79 1
theorem sc_Rule_name:ax ["self"] ["self"] (aj kJ):=⟨rfl,rfl,rfl,by decide+kernel,rfl,by decide+kernel,by decide+kernel⟩
set_option maxHeartbeats 4000000 in
theorem ua {P:Program} {w:World} {K:PySem.W.Frag} {mg:Str→Option Value} {base:Heap} (B:Bt2 mg) {c:RCl RK} (FK_c_words:FldK K c "words") {f:Addr} {fd:FuncData} (F:Fun K "name" "Rule.name" kJ f fd):FnOk P w K mg base CX0 1 f fd ["self"] (g9 K c):=by
 refine F.ok sc_Rule_name (fun vs H Q E h=>tm h) (fun cdv A outer s H vs Q E hr h=>?_)
 have hu:=hr.units
 have nd:=sc_Rule_name.nd
 refine ⟨hE K c,?_,tp h⟩
 exact (af (ak (ai (ar hu) (gD (pv 0) FK_c_words) ad (fun _ _=>rfl))))
abbrev ka:Stmt:=mtop 79 2
theorem sc_Rule_spots:ax ["self"] ["self"] (aj ka):=⟨rfl,rfl,rfl,by decide+kernel,rfl,by decide+kernel,by decide+kernel⟩
set_option maxHeartbeats 4000000 in
theorem rX {P:Program} {w:World} {K:PySem.W.Frag} {mg:Str→Option Value} {base:Heap} (B:Bt2 mg) {c:RCl RK} (FK_c_cells:FldK K c "cells") {f:Addr} {fd:FuncData} (F:Fun K "spots" "Rule.spots" ka f fd):FnOk P w K mg base CX0 1 f fd ["self"] (gm K c):=by
 refine F.ok sc_Rule_spots (fun vs H Q E h=>rL h) (fun cdv A outer s H vs Q E hr h=>?_)
 have hu:=hr.units
 have nd:=sc_Rule_spots.nd
 refine ⟨gn K c,?_,rM h⟩
 exact (af (ak (bJ fN rfl B.list_ d7 (ab (gD (pv 0) FK_c_cells) ac))))
abbrev kK:Stmt:=mtop 79 4
theorem sc_Rule_sign:ax ["self"] ["self"] (aj kK):=⟨rfl,rfl,rfl,by decide+kernel,rfl,by decide+kernel,by decide+kernel⟩
set_option maxHeartbeats 4000000 in
theorem ub {P:Program} {w:World} {K:PySem.W.Frag} {mg:Str→Option Value} {base:Heap} (B:Bt2 mg) {c:RCl RK} (FK_c_mark:FldK K c "mark") {f:Addr} {fd:FuncData} (F:Fun K "sign" "Rule.sign" kK f fd):FnOk P w K mg base CX0 1 f fd ["self"] (hJ K c):=by
 refine F.ok sc_Rule_sign (fun vs H Q E h=>tq h) (fun cdv A outer s H vs Q E hr h=>?_)
 have hu:=hr.units
 have nd:=sc_Rule_sign.nd
 refine ⟨hV K c,?_,tu h⟩
 exact (af (ak (gD (pv 0) FK_c_mark)))
abbrev kL:Stmt:=top 95
theorem sc_number_in:ax ["word"] ["word"] (aj kL):=⟨rfl,rfl,rfl,by decide+kernel,rfl,by decide+kernel,by decide+kernel⟩
set_option maxHeartbeats 4000000 in
theorem uc {P:Program} {w:World} {K:PySem.W.Frag} {mg:Str→Option Value} {base:Heap} (B:Bt2 mg) {t_FIGURES:Tok} (EG:mg "FIGURES"=some (.str (tx [48,49,50,51,52,53,54,55,56,57]) t_FIGURES)) {t_MOST_FIGURES:Tok} (CH:mg "MOST_FIGURES"=some (.int 9 t_MOST_FIGURES)) {f:Addr} {fd:FuncData} (F:Fun K "number_in" "number_in" kL f fd):FnOk P w K mg base CX0 1 f fd ["word"] (dw K):=by
 refine F.ok sc_number_in (fun vs H Q E h=>tw h) (fun cdv A outer s H vs Q E hr h=>?_)
 have hu:=hr.units
 have nd:=sc_number_in.nd
 refine ⟨hX K,?_,tz h⟩
 exact (ae (aB (PW.pt (bY (ap (aG hu) (pv 0) aM (ao _)) (bY (ap fA (az aJ rfl B.len_ aQ (ab (pv 0) ac)) (dm rfl CH ⟨t_MOST_FIGURES,rfl⟩) (ao _)) (cj (PW.pt (fv (ap (aG hu) (ai (ar hu) (pv 0) ad (fun _ _=>rfl)) aM (ao _)) (d6 (ap (aU hu) (pv 0) aM (ao _))))))))) (af (ak so)) au)
   (ae (aB (bH (aZ (az (kr rfl) rfl B.all_ pF (ab (bD (ix:=[none,none]) [".0","figure"] (aX rfl (by decide+kernel) rfl rfl rfl) rfl (zT (pv 0)) (fun cl s H fp=>(aI (i:=1) (show ([".0","figure"]:List Str).Nodup by decide+kernel) rfl (Or.inl rfl))) (fun cl s H fp=>dq) (fun cl s H fp=>(aN (jk hu) (pv 1) (dm rfl EG ⟨t_FIGURES,rfl⟩) (by with_unfolding_all rfl)))) ac)))) (af (ak so)) au)
   (af (ak (bJ vK rfl B.int_ sJ (ab (pv 0) ac))))))
abbrev iT:Stmt:=mtop 108 1
theorem sc_Puzzle_place:ax ["self"] ["self"] (aj iT):=⟨rfl,rfl,rfl,by decide+kernel,rfl,by decide+kernel,by decide+kernel⟩
set_option maxHeartbeats 4000000 in
theorem qy {P:Program} {w:World} {K:PySem.W.Frag} {mg:Str→Option Value} {base:Heap} (B:Bt2 mg) {c:RCl RK} {d:RCl PzK} (FK_d_floor:FldK K d "floor") {f:Addr} {fd:FuncData} (F:Fun K "place" "Puzzle.place" iT f fd):FnOk P w K mg base CX0 1 f fd ["self"] (eV K c d):=by
 refine F.ok sc_Puzzle_place (fun vs H Q E h=>pT h) (fun cdv A outer s H vs Q E hr h=>?_)
 have hu:=hr.units
 have nd:=sc_Puzzle_place.nd
 refine ⟨eX K c d,?_,pU h⟩
 exact (af (ak (gD (pv 0) FK_d_floor)))
abbrev iV:Stmt:=mtop 108 3
theorem sc_Puzzle_clues:ax ["self"] ["self"] (aj iV):=⟨rfl,rfl,rfl,by decide+kernel,rfl,by decide+kernel,by decide+kernel⟩
set_option maxHeartbeats 4000000 in
theorem qz {P:Program} {w:World} {K:PySem.W.Frag} {mg:Str→Option Value} {base:Heap} (B:Bt2 mg) {c:RCl RK} {d:RCl PzK} (FK_d_given:FldK K d "given") {f:Addr} {fd:FuncData} (F:Fun K "clues" "Puzzle.clues" iV f fd):FnOk P w K mg base CX0 1 f fd ["self"] (e6 K c d):=by
 refine F.ok sc_Puzzle_clues (fun vs H Q E h=>pV h) (fun cdv A outer s H vs Q E hr h=>?_)
 have hu:=hr.units
 have nd:=sc_Puzzle_clues.nd
 refine ⟨e7 K c d,?_,pW h⟩
 exact (af (ak (bJ fN rfl B.list_ d7 (ab (gD (pv 0) FK_d_given) ac))))
abbrev iW:Stmt:=mtop 108 4
theorem sc_Puzzle_rules:ax ["self"] ["self"] (aj iW):=⟨rfl,rfl,rfl,by decide+kernel,rfl,by decide+kernel,by decide+kernel⟩
set_option maxHeartbeats 4000000 in
theorem qA {P:Program} {w:World} {K:PySem.W.Frag} {mg:Str→Option Value} {base:Heap} (B:Bt2 mg) {c:RCl RK} {d:RCl PzK} (FK_d_laws:FldK K d "laws") {f:Addr} {fd:FuncData} (F:Fun K "rules" "Puzzle.rules" iW f fd):FnOk P w K mg base CX0 1 f fd ["self"] (e9 K c d):=by
 refine F.ok sc_Puzzle_rules (fun vs H Q E h=>pX h) (fun cdv A outer s H vs Q E hr h=>?_)
 have hu:=hr.units
 have nd:=sc_Puzzle_rules.nd
 refine ⟨fb K c d,?_,pY h⟩
 exact (af (ak (bJ fN rfl B.list_ d7 (ab (gD (pv 0) FK_d_laws) ac))))
abbrev iX:Stmt:=top 110
theorem sc__law_cell_at:ax ["_law_script","_law_k","_law_number"] ["_law_script","_law_k"] (aj iX):=⟨rfl,rfl,rfl,by decide+kernel,rfl,by decide+kernel,by decide+kernel⟩
set_option maxHeartbeats 4000000 in
theorem qB {P:Program} {w:World} {K:PySem.W.Frag} {mg:Str→Option Value} {base:Heap} (B:Bt2 mg) {f:Addr} {fd:FuncData} (F:Fun K "_law_cell_at" "_law_cell_at" iX f fd):FnOk P w K mg base CX0 1 f fd ["_law_script","_law_k"] (aL K):=by
 refine F.ok sc__law_cell_at (fun vs H Q E h=>qb h) (fun cdv A outer s H vs Q E hr h=>?_)
 have hu:=hr.units
 have nd:=sc__law_cell_at.nd
 refine ⟨fg K,?_,qc h⟩
 exact (ae (aB (ap (aG hu) (az gJ rfl B.len_ aQ (ab (pv 0) ac)) ad (ao _)) (af (ak (am aT (am aE (am bE (am bE (pv 1) (pv 1)) ad) (am bE ad (pv 1))) ad))) au)
   (ae (aw (i:=2) nd rfl (Or.inl rfl) (am aT (ai u6 (pv 0) (am aT (pv 1) (az gJ rfl B.len_ aQ (ab (pv 0) ac))) (fun _ _=>rfl)) ad))
   (ae (aB (ap cD (pv 1) (az gJ rfl B.len_ aQ (ab (pv 0) ac)) (ao _)) (af (ak (pv 2))) au)
   (af (ak (am aT (am aE (am bE (pv 2) ad) (am bE (am bE (pv 1) (pv 1)) ad)) ad))))))
abbrev kb:Stmt:=top 111
theorem sc__law_floor:ax ["_law_cell","_law_high","_law_wide"] ["_law_cell"] (aj kb):=⟨rfl,rfl,rfl,by decide+kernel,rfl,by decide+kernel,by decide+kernel⟩
set_option maxHeartbeats 4000000 in
theorem rY {P:Program} {w:World} {K:PySem.W.Frag} {mg:Str→Option Value} {base:Heap} (B:Bt2 mg) {f:Addr} {fd:FuncData} (F:Fun K "_law_floor" "_law_floor" kb f fd):FnOk P w K mg base CX0 1 f fd ["_law_cell"] (cx K):=by
 refine F.ok sc__law_floor (fun vs H Q E h=>qd h) (fun cdv A outer s H vs Q E hr h=>?_)
 have hu:=hr.units
 have nd:=sc__law_floor.nd
 refine ⟨fh K,?_,qe h⟩
 exact (ae (aw (i:=1) nd rfl (Or.inl rfl) (am aE ad (am aT (pv 0) ad)))
   (ae (aw (i:=2) nd rfl (Or.inl rfl) (am aE ad (am aT (am bu (pv 0) ad) (az (wU rfl) rfl B.min_ zR (ab ad (ab (am bu ad (pv 1)) ac))))))
   (af (ak (b3 (ab (pv 1) (ab (pv 2) (ab (am aE ad (am aT (am bu (pv 0) ad) ad)) ac))))))))
abbrev kM:Stmt:=top 114
theorem sc__law_only:ax ["_law_mask","_law_sign"] ["_law_mask","_law_sign"] (aj kM):=⟨rfl,rfl,rfl,by decide+kernel,rfl,by decide+kernel,by decide+kernel⟩
set_option maxHeartbeats 4000000 in
theorem ud {P:Program} {w:World} {K:PySem.W.Frag} {mg:Str→Option Value} {base:Heap} (B:Bt2 mg) {f:Addr} {fd:FuncData} (F:Fun K "_law_only" "_law_only" kM f fd):FnOk P w K mg base CX0 1 f fd ["_law_mask","_law_sign"] (dA K):=by
 refine F.ok sc__law_only (fun vs H Q E h=>tJ h) (fun cdv A outer s H vs Q E hr h=>?_)
 have hu:=hr.units
 have nd:=sc__law_only.nd
 refine ⟨ie K,?_,tK h⟩
 exact (af (ak (aN (aG hu) (am yY (pv 0) (am kU ad (am bt (pv 1) ad))) (pv 0) (ao _))))
abbrev ip:Stmt:=top 117
theorem sc__law_by_lines:ax ["_law_number","_law_lists_here","_law_cell","_law_sign","_law_signs","_law_found","_law_rule","_law_one","_law_spots","_law_other","_law_place"] ["_law_number","_law_lists_here","_law_cell","_law_sign","_law_signs"] (aj ip):=⟨rfl,rfl,rfl,by decide+kernel,rfl,by decide+kernel,by decide+kernel⟩
set_option maxHeartbeats 4000000 in
theorem o5 {P:Program} {w:World} {K:PySem.W.Frag} {mg:Str→Option Value} {base:Heap} (B:Bt2 mg) {f:Addr} {fd:FuncData} (F:Fun K "_law_by_lines" "_law_by_lines" ip f fd):FnOk P w K mg base CX0 1 f fd ["_law_number","_law_lists_here","_law_cell","_law_sign","_law_signs"] (bM K):=by
 refine F.ok sc__law_by_lines (fun vs H Q E h=>mV h) (fun cdv A outer s H vs Q E hr h=>?_)
 have hu:=hr.units
 have nd:=sc__law_by_lines.nd
 refine ⟨da K,?_,mW h⟩
 exact (ae (aw (i:=5) nd rfl (Or.inl rfl) (aO (ab (b3 (ab aM (ab ad (ab (pv 2) (ab (pv 3) (ab (aO ac) ac)))))) ac)))
   (ae (dZ PassesOwn.never rfl (bV rfl B.range_ (ab ad ac)) (aI (i:=6) nd rfl (Or.inl rfl))
   (af (aB (ap (jk hu) (pv 2) (ai (ar hu) (pv 1) (pv 6) (fun _ _=>rfl)) (by with_unfolding_all rfl)) (ae (iD (k:=8) nd rfl (Or.inl rfl) rfl (ix:=[none,none,some 2]) [".0","_law_one","_law_cell"] (aX rfl (by decide+kernel) rfl rfl rfl) rfl (bc (ai (ar hu) (pv 1) (pv 6) (fun _ _=>rfl))) (fun cl s H fp=>(aI (i:=1) (show ([".0","_law_one","_law_cell"]:List Str).Nodup by decide+kernel) rfl (Or.inl rfl))) (fun cl s H fp=>(cm (ap (aU hu) (pv 1) (pv 2) (ao _)))) (fun cl s H fp=>(pv 1)))
   (ae (aB (ap fA (az aJ rfl B.len_ aQ (ab (pv 8) ac)) ad (ao _)) (af (bI (bZ PySem.F.plainAttrs_list PySem.F.slot_list_append PySem.F.type_list_append aY (pv 5) (ab (b3 (ab aM (ab (pv 6) (ab (pv 2) (ab (pv 3) (ab (aO (ab (ai (ar hu) (pv 8) (am aT (pv 0) (az aJ rfl B.len_ aQ (ab (pv 8) ac))) (fun _ _=>rfl)) ac)) ac)))))) ac)))) au)
   (ae (aB (ap fA (az aJ rfl B.len_ aQ (ab (pv 8) ac)) ad (ao _)) (ae (aw (i:=7) nd rfl (Or.inl rfl) (am aT (pv 0) (am bt (az aJ rfl B.len_ aQ (ab (pv 8) ac)) ad)))
   (ae (aw (i:=9) nd rfl (Or.inl rfl) (am aE (am aE (pv 7) ad) (am aT (am bu (pv 0) ad) (am bt (am bt (az aJ rfl B.len_ aQ (ab (pv 8) ac)) ad) (pv 7)))))
   (af (bI (bZ PySem.F.plainAttrs_list PySem.F.slot_list_append PySem.F.type_list_append aY (pv 5) (ab (b3 (ab aM (ab (pv 6) (ab (pv 2) (ab (pv 3) (ab (aO (ab (ai (ar hu) (pv 8) (pv 7) (fun _ _=>rfl)) (ab (ai (ar hu) (pv 8) (pv 9) (fun _ _=>rfl)) ac))) ac)))))) ac)))))) au)
   (ae (aw (i:=10) nd rfl (Or.inl rfl) (am aE ad (am aT (am bu (pv 0) ad) (pv 4))))
   (af (aB (PW.pt (fv (ap (aG hu) (am aE (az aJ rfl B.len_ aQ (ab (pv 8) ac)) ad) (pv 4) (ao _)) (d6 (ap (aU hu) (pv 10) (pv 3) (ao _))))) (af (bI (bZ PySem.F.plainAttrs_list PySem.F.slot_list_append PySem.F.type_list_append aY (pv 5) (ab (b3 (ab aM (ab (pv 6) (ab (pv 2) (ab (pv 3) (ab (aO (ab (pv 10) ac)) ac)))))) ac)))) au)))))) au)))
   (af (ak (pv 5)))))
abbrev kN:Stmt:=top 118
theorem sc__law_near:ax ["_law_floor_here","_law_cell","_law_row","_law_column","_law_found","_law_down","_law_right"] ["_law_floor_here","_law_cell"] (aj kN):=⟨rfl,rfl,rfl,by decide+kernel,rfl,by decide+kernel,by decide+kernel⟩
set_option maxHeartbeats 4000000 in
theorem ue {P:Program} {w:World} {K:PySem.W.Frag} {mg:Str→Option Value} {base:Heap} (B:Bt2 mg) (BX_divmod:mg "divmod"=none) {f:Addr} {fd:FuncData} (F:Fun K "_law_near" "_law_near" kN f fd):FnOk P w K mg base CX0 1 f fd ["_law_floor_here","_law_cell"] (bT K):=by
 refine F.ok sc__law_near (fun vs H Q E h=>tV h) (fun cdv A outer s H vs Q E hr h=>?_)
 have hu:=hr.units
 have nd:=sc__law_near.nd
 refine ⟨ik K,?_,tW h⟩
 exact (ae (pi (az mR rfl BX_divmod rA (ab (pv 1) (ab (ai (ar hu) (pv 0) ad (fun _ _=>rfl)) ac))) (ss rfl (iC (aI (i:=2) nd rfl (Or.inl rfl)) (iC (aI (i:=3) nd rfl (Or.inl rfl)) qI))))
   (ae (aw (i:=4) nd rfl (Or.inl rfl) (aO ac))
   (ae (dZ PassesOwn.never rfl (bc (aO (ab (b3 (ab (am bt (pv 2) ad) (ab (pv 3) ac))) (ab (b3 (ab (pv 2) (ab (am bt (pv 3) ad) ac))) (ab (b3 (ab (pv 2) (ab (am aE (pv 3) ad) ac))) (ab (b3 (ab (am aE (pv 2) ad) (ab (pv 3) ac))) ac)))))) (ss rfl (iC (aI (i:=5) nd rfl (Or.inl rfl)) (iC (aI (i:=6) nd rfl (Or.inl rfl)) qI)))
   (af (aB (PW.pt (fv (sw fz cD ad (pv 5) (ai (ar hu) (pv 0) ad (fun _ _=>rfl))) (d6 (sw fz cD ad (pv 6) (ai (ar hu) (pv 0) ad (fun _ _=>rfl)))))) (af (bI (bZ PySem.F.plainAttrs_list PySem.F.slot_list_append PySem.F.type_list_append aY (pv 4) (ab (am aE (am bE (pv 5) (ai (ar hu) (pv 0) ad (fun _ _=>rfl))) (pv 6)) ac)))) au)))
   (af (ak (pv 4))))))
abbrev gy:Stmt:=top 11
theorem sc_is_from_one_to:ax ["value","most"] ["value","most"] (aj gy):=⟨rfl,rfl,rfl,by decide+kernel,rfl,by decide+kernel,by decide+kernel⟩
set_option maxHeartbeats 4000000 in
theorem n6 {P:Program} {w:World} {K:PySem.W.Frag} {mg:Str→Option Value} {base:Heap} (B:Bt2 mg) (AT:Cal P w K mg base 1 "is_whole" ["value"] (ba K)) {f:Addr} {fd:FuncData} (F:Fun K "is_from_one_to" "is_from_one_to" gy f fd):FnOk P w K mg base CX0 2 f fd ["value","most"] (aW K):=by
 refine F.ok sc_is_from_one_to (fun vs H Q E h=>nS h) (fun cdv A outer s H vs Q E hr h=>?_)
 have hu:=hr.units
 have nd:=sc_is_from_one_to.nd
 refine ⟨dj K,?_,nV h⟩
 exact (af (ak (bz (aq AT hr (by decide) rfl (ab (pv 0) ac)) (bz (aN fz ad (pv 0) (ao _)) (ck (aN fz (pv 0) (pv 1) (ao _)))))))
abbrev o6:Stmt:=top 15
theorem sc_beside:ax ["floor","cell","high","wide","spot","found"] ["floor","cell"] (aj o6):=⟨rfl,rfl,rfl,by decide+kernel,rfl,by decide+kernel,by decide+kernel⟩
set_option maxHeartbeats 4000000 in
theorem xV {P:Program} {w:World} {K:PySem.W.Frag} {mg:Str→Option Value} {base:Heap} (B:Bt2 mg) (Cg:Cal P w K mg base 1 "spot_of" ["floor","cell"] (c5 K)) {f:Addr} {fd:FuncData} (F:Fun K "beside" "beside" o6 f fd):FnOk P w K mg base CX0 2 f fd ["floor","cell"] (bL K):=by
 refine F.ok sc_beside (fun vs H Q E h=>xf h) (fun cdv A outer s H vs Q E hr h=>?_)
 have hu:=hr.units
 have nd:=sc_beside.nd
 refine ⟨kt K,?_,xg h⟩
 exact (ae (aw (i:=2) nd rfl (Or.inl rfl) (ai (ar hu) (pv 0) ad (fun _ _=>rfl)))
   (ae (aw (i:=3) nd rfl (Or.inl rfl) (ai (ar hu) (pv 0) ad (fun _ _=>rfl)))
   (ae (aw (i:=4) nd rfl (Or.inl rfl) (aq Cg hr (by decide) rfl (ab (pv 0) (ab (pv 1) ac))))
   (ae (aw (i:=5) nd rfl (Or.inl rfl) (aO ac))
   (ae (aB (ap fA (ai (ar hu) (pv 4) ad (fun _ _=>rfl)) ad (ao _)) (af (bI (bZ PySem.F.plainAttrs_list PySem.F.slot_list_append PySem.F.type_list_append aY (pv 5) (ab (am bt (pv 1) (pv 3)) ac)))) au)
   (ae (aB (ap fA (ai (ar hu) (pv 4) ad (fun _ _=>rfl)) ad (ao _)) (af (bI (bZ PySem.F.plainAttrs_list PySem.F.slot_list_append PySem.F.type_list_append aY (pv 5) (ab (am bt (pv 1) ad) ac)))) au)
   (ae (aB (ap cD (ai (ar hu) (pv 4) ad (fun _ _=>rfl)) (am bt (pv 3) ad) (ao _)) (af (bI (bZ PySem.F.plainAttrs_list PySem.F.slot_list_append PySem.F.type_list_append aY (pv 5) (ab (am aE (pv 1) ad) ac)))) au)
   (ae (aB (ap cD (ai (ar hu) (pv 4) ad (fun _ _=>rfl)) (am bt (pv 2) ad) (ao _)) (af (bI (bZ PySem.F.plainAttrs_list PySem.F.slot_list_append PySem.F.type_list_append aY (pv 5) (ab (am aE (pv 1) (pv 3)) ac)))) au)
   (af (ak (pv 5)))))))))))
abbrev kO:Stmt:=top 16
theorem sc_is_corner:ax ["floor","cell","spot"] ["floor","cell"] (aj kO):=⟨rfl,rfl,rfl,by decide+kernel,rfl,by decide+kernel,by decide+kernel⟩
set_option maxHeartbeats 4000000 in
theorem uf {P:Program} {w:World} {K:PySem.W.Frag} {mg:Str→Option Value} {base:Heap} (B:Bt2 mg) (Cg:Cal P w K mg base 1 "spot_of" ["floor","cell"] (c5 K)) {f:Addr} {fd:FuncData} (F:Fun K "is_corner" "is_corner" kO f fd):FnOk P w K mg base CX0 2 f fd ["floor","cell"] (du K):=by
 refine F.ok sc_is_corner (fun vs H Q E h=>sW h) (fun cdv A outer s H vs Q E hr h=>?_)
 have hu:=hr.units
 have nd:=sc_is_corner.nd
 refine ⟨g7 K,?_,sX h⟩
 exact (ae (aw (i:=2) nd rfl (Or.inl rfl) (aq Cg hr (by decide) rfl (ab (pv 0) (ab (pv 1) ac))))
   (af (ak (bz (aN cD (ai (ar hu) (pv 2) ad (fun _ _=>rfl)) (am bt (ai (ar hu) (pv 0) ad (fun _ _=>rfl)) ad) (ao _)) (ck (aN cD (ai (ar hu) (pv 2) ad (fun _ _=>rfl)) (am bt (ai (ar hu) (pv 0) ad (fun _ _=>rfl)) ad) (ao _)))))))
abbrev m8:Stmt:=top 23
theorem sc_without:ax ["mask","sign"] ["mask","sign"] (aj m8):=⟨rfl,rfl,rfl,by decide+kernel,rfl,by decide+kernel,by decide+kernel⟩
set_option maxHeartbeats 4000000 in
theorem wk {P:Program} {w:World} {K:PySem.W.Frag} {mg:Str→Option Value} {base:Heap} (B:Bt2 mg) (Fy:Cal P w K mg base 1 "bit_of" ["sign"] (gG K)) (A5:Cal P w K mg base 1 "stands" ["mask","sign"] (bW K)) {f:Addr} {fd:FuncData} (F:Fun K "without" "without" m8 f fd):FnOk P w K mg base CX0 2 f fd ["mask","sign"] (fV K):=by
 refine F.ok sc_without (fun vs H Q E h=>vP h) (fun cdv A outer s H vs Q E hr h=>?_)
 have hu:=hr.units
 have nd:=sc_without.nd
 refine ⟨jN K,?_,vQ h⟩
 exact (af (ak (xZ (aZ (aq A5 hr (by decide) rfl (ab (pv 0) (ab (pv 1) ac)))) (am bt (pv 0) (aq Fy hr (by decide) rfl (ab (pv 1) ac))) (pv 0))))
abbrev lU:Stmt:=top 25
theorem sc_signs_in:ax ["mask"] ["mask"] (aj lU):=⟨rfl,rfl,rfl,by decide+kernel,rfl,by decide+kernel,by decide+kernel⟩
set_option maxHeartbeats 4000000 in
theorem uP {P:Program} {w:World} {K:PySem.W.Frag} {mg:Str→Option Value} {base:Heap} (B:Bt2 mg) (A5:Cal P w K mg base 1 "stands" ["mask","sign"] (bW K)) {f:Addr} {fd:FuncData} (F:Fun K "signs_in" "signs_in" lU f fd):FnOk P w K mg base CX0 2 f fd ["mask"] (ee K):=by
 refine F.ok sc_signs_in (fun vs H Q E h=>uE h) (fun cdv A outer s H vs Q E hr h=>?_)
 have hu:=hr.units
 have nd:=sc_signs_in.nd
 refine ⟨jg K,?_,uF h⟩
 exact (af (ak (bD (ix:=[none,none,some 0]) [".0","sign","mask"] (aX rfl (by decide+kernel) rfl rfl rfl) rfl (wA rfl B.range_ (ab ad (ab (am aE (wM PySem.F.plainAttrs_int PySem.F.slot_int_bit_length PySem.F.type_int_bit_length pE (pv 0)) ad) ac))) (fun cl s H fp=>(aI (i:=1) (show ([".0","sign","mask"]:List Str).Nodup by decide+kernel) rfl (Or.inl rfl))) (fun cl s H fp=>(cm (aZ (aq A5 hr (by decide) rfl (ab (pv 2) (ab (pv 1) ac)))))) (fun cl s H fp=>(pv 1)))))
abbrev m9:Stmt:=top 31
theorem sc_is_cell:ax ["floor","value"] ["floor","value"] (aj m9):=⟨rfl,rfl,rfl,by decide+kernel,rfl,by decide+kernel,by decide+kernel⟩
set_option maxHeartbeats 4000000 in
theorem wl {P:Program} {w:World} {K:PySem.W.Frag} {mg:Str→Option Value} {base:Heap} (B:Bt2 mg) (AT:Cal P w K mg base 1 "is_whole" ["value"] (ba K)) (AM:Cal P w K mg base 1 "many_cells" ["floor"] (aR K)) {f:Addr} {fd:FuncData} (F:Fun K "is_cell" "is_cell" m9 f fd):FnOk P w K mg base CX0 2 f fd ["floor","value"] (c7 K):=by
 refine F.ok sc_is_cell (fun vs H Q E h=>vR h) (fun cdv A outer s H vs Q E hr h=>?_)
 have hu:=hr.units
 have nd:=sc_is_cell.nd
 refine ⟨jO K,?_,vS h⟩
 exact (af (ak (bz (aq AT hr (by decide) rfl (ab (pv 1) ac)) (bz (aN fz ad (pv 1) (ao _)) (ck (aN cD (pv 1) (aq AM hr (by decide) rfl (ab (pv 0) ac)) (ao _)))))))
abbrev nc:Stmt:=top 33
theorem sc_goes_by:ax ["kind","rule"] ["kind","rule"] (aj nc):=⟨rfl,rfl,rfl,by decide+kernel,rfl,by decide+kernel,by decide+kernel⟩
set_option maxHeartbeats 4000000 in
theorem wm {P:Program} {w:World} {K:PySem.W.Frag} {mg:Str→Option Value} {base:Heap} (B:Bt2 mg) {c:RCl RK} (GJ:MCal P w K mg base c c.ok 1 "name" ["self"] (nN K c)) (Cj:GDict w K mg "RULES_OF_KIND" gd_RULES_OF_KIND) {f:Addr} {fd:FuncData} (F:Fun K "goes_by" "goes_by" nc f fd):FnOk P w K mg base CX0 2 f fd ["kind","rule"] (fW K c):=by
 refine F.ok sc_goes_by (fun vs H Q E h=>vV h) (fun cdv A outer s H vs Q E hr h=>?_)
 have hu:=hr.units
 have nd:=sc_goes_by.nd
 refine ⟨jQ K c,?_,vW h⟩
 exact (af (ak (yB (aN (aG hu) (pv 0) aM (ao _)) (ck (aN z7 (bg GJ hr (by decide) (pv 1)) (z6 Cj (pv 0) rfl (fun _ _=>rfl)) (by with_unfolding_all rfl))))))
abbrev o7:Stmt:=top 36
theorem sc_others:ax ["rule","cell"] ["rule","cell"] (aj o7):=⟨rfl,rfl,rfl,by decide+kernel,rfl,by decide+kernel,by decide+kernel⟩
set_option maxHeartbeats 4000000 in
theorem xW {P:Program} {w:World} {K:PySem.W.Frag} {mg:Str→Option Value} {base:Heap} (B:Bt2 mg) {c:RCl RK} (BF:MCal P w K mg base c c.ok 1 "spots" ["self"] (fH K c)) {f:Addr} {fd:FuncData} (F:Fun K "others" "others" o7 f fd):FnOk P w K mg base CX0 2 f fd ["rule","cell"] (bB K c):=by
 refine F.ok sc_others (fun vs H Q E h=>xB h) (fun cdv A outer s H vs Q E hr h=>?_)
 have hu:=hr.units
 have nd:=sc_others.nd
 refine ⟨kB K c,?_,xC h⟩
 exact (af (ak (bD (ix:=[none,none,some 1]) [".0","spot","cell"] (aX rfl (by decide+kernel) rfl rfl rfl) rfl (bc (bg BF hr (by decide) (pv 0))) (fun cl s H fp=>(aI (i:=1) (show ([".0","spot","cell"]:List Str).Nodup by decide+kernel) rfl (Or.inl rfl))) (fun cl s H fp=>(cm (ap (aU hu) (pv 1) (pv 2) (ao _)))) (fun cl s H fp=>(pv 1)))))
abbrev lV:Stmt:=top 39
theorem sc_many_may:ax ["some","sign"] ["some","sign"] (aj lV):=⟨rfl,rfl,rfl,by decide+kernel,rfl,by decide+kernel,by decide+kernel⟩
set_option maxHeartbeats 4000000 in
theorem uQ {P:Program} {w:World} {K:PySem.W.Frag} {mg:Str→Option Value} {base:Heap} (B:Bt2 mg) (A5:Cal P w K mg base 1 "stands" ["mask","sign"] (bW K)) {f:Addr} {fd:FuncData} (F:Fun K "many_may" "many_may" lV f fd):FnOk P w K mg base CX0 2 f fd ["some","sign"] (cf K):=by
 refine F.ok sc_many_may (fun vs H Q E h=>uI h) (fun cdv A outer s H vs Q E hr h=>?_)
 have hu:=hr.units
 have nd:=sc_many_may.nd
 refine ⟨ji K,?_,uJ h⟩
 exact (af (ak (az aJ rfl B.len_ aQ (ab (bD (ix:=[none,none,some 1]) [".0","mask","sign"] (aX rfl (by decide+kernel) rfl rfl rfl) rfl (bc (pv 0)) (fun cl s H fp=>(aI (i:=1) (show ([".0","mask","sign"]:List Str).Nodup by decide+kernel) rfl (Or.inl rfl))) (fun cl s H fp=>(cm (aZ (aq A5 hr (by decide) rfl (ab (pv 1) (ab (pv 2) ac)))))) (fun cl s H fp=>(pv 1))) ac))))
abbrev iq:Stmt:=top 96
theorem sc_number_within:ax ["word","least","most","number"] ["word","least","most"] (aj iq):=⟨rfl,rfl,rfl,by decide+kernel,rfl,by decide+kernel,by decide+kernel⟩
set_option maxHeartbeats 4000000 in
theorem o8 {P:Program} {w:World} {K:PySem.W.Frag} {mg:Str→Option Value} {base:Heap} (B:Bt2 mg) (DP:Cal P w K mg base 1 "number_in" ["word"] (dw K)) {f:Addr} {fd:FuncData} (F:Fun K "number_within" "number_within" iq f fd):FnOk P w K mg base CX0 2 f fd ["word","least","most"] (bo K):=by
 refine F.ok sc_number_within (fun vs H Q E h=>oJ h) (fun cdv A outer s H vs Q E hr h=>?_)
 have hu:=hr.units
 have nd:=sc_number_within.nd
 refine ⟨dN K,?_,oK h⟩
 exact (ae (aw (i:=3) nd rfl (Or.inl rfl) (aq DP hr (by decide) rfl (ab (pv 0) ac)))
   (ae (aB (PW.pt (bY (ap zF (pv 3) so (ao _)) (bY (ap cD (pv 3) (pv 1) (ao _)) (cj (ap fA (pv 3) (pv 2) (ao _)))))) (af bO) au)
   (af (ak (pv 3)))))
abbrev kc:Stmt:=top 106
theorem sc_is_filling:ax ["floor","filling","least"] ["floor","filling","least"] (aj kc):=⟨rfl,rfl,rfl,by decide+kernel,rfl,by decide+kernel,by decide+kernel⟩
set_option maxHeartbeats 4000000 in
theorem rZ {P:Program} {w:World} {K:PySem.W.Frag} {mg:Str→Option Value} {base:Heap} (B:Bt2 mg) (AT:Cal P w K mg base 1 "is_whole" ["value"] (ba K)) (AM:Cal P w K mg base 1 "many_cells" ["floor"] (aR K)) {f:Addr} {fd:FuncData} (F:Fun K "is_filling" "is_filling" kc f fd):FnOk P w K mg base CX0 2 f fd ["floor","filling","least"] (cW K):=by
 refine F.ok sc_is_filling (fun vs H Q E h=>rR h) (fun cdv A outer s H vs Q E hr h=>?_)
 have hu:=hr.units
 have nd:=sc_is_filling.nd
 refine ⟨gr K,?_,rS h⟩
 exact (ae (aB (PW.pt (bY (bH (aZ (az cI rfl B.isinstance_ bq (ab (pv 1) (ab (d5 (v:=.ty "list") rfl B.list_ d7 rfl) ac))))) (cj (ap (aU hu) (az aJ rfl B.len_ aQ (ab (pv 1) ac)) (aq AM hr (by decide) rfl (ab (pv 0) ac)) (ao _))))) (af (ak cE)) au)
   (af (ak (az (kr rfl) rfl B.all_ pF (ab (bD (ix:=[none,none,some 0,some 2]) [".0","sign","floor","least"] (aX rfl (by decide+kernel) rfl rfl rfl) rfl (bc (pv 1)) (fun cl s H fp=>(aI (i:=1) (show ([".0","sign","floor","least"]:List Str).Nodup by decide+kernel) rfl (Or.inl rfl))) (fun cl s H fp=>dq) (fun cl s H fp=>(bz (aq AT hr (by decide) rfl (ab (pv 1) ac)) (bz (aN fz (pv 3) (pv 1) (ao _)) (ck (aN fz (pv 1) (ai (ar hu) (pv 2) ad (fun _ _=>rfl)) (ao _))))))) ac)))))
abbrev ke:Stmt:=top 112
theorem sc__law_cells:ax ["_law_script","_law_at","_law_many","_law_size","_law_left","_law_found","_law_k"] ["_law_script","_law_at","_law_many","_law_size"] (aj ke):=⟨rfl,rfl,rfl,by decide+kernel,rfl,by decide+kernel,by decide+kernel⟩
set_option maxHeartbeats 4000000 in
theorem r8 {P:Program} {w:World} {K:PySem.W.Frag} {mg:Str→Option Value} {base:Heap} (B:Bt2 mg) (AK:Cal P w K mg base 1 "_law_cell_at" ["_law_script","_law_k"] (aL K)) {f:Addr} {fd:FuncData} (F:Fun K "_law_cells" "_law_cells" ke f fd):FnOk P w K mg base CX0 2 f fd ["_law_script","_law_at","_law_many","_law_size"] (bR K):=by
 refine F.ok sc__law_cells (fun vs H Q E h=>qf h) (fun cdv A outer s H vs Q E hr h=>?_)
 have hu:=hr.units
 have nd:=sc__law_cells.nd
 refine ⟨fi K,?_,qg h⟩
 exact (ae (aw (i:=4) nd rfl (Or.inl rfl) (kF rfl rfl rfl B.list_ B.range_ (ab (pv 2) ac)))
   (ae (aw (i:=5) nd rfl (Or.inl rfl) (aO ac))
   (ae (dZ PassesOwn.never rfl (bV rfl B.range_ (ab (pv 3) ac)) (aI (i:=6) nd rfl (Or.inl rfl))
   (af (bI (bZ PySem.F.plainAttrs_list PySem.F.slot_list_append PySem.F.type_list_append aY (pv 5) (ab (bZ PySem.F.plainAttrs_list PySem.F.slot_list_pop PySem.F.type_list_pop xn (pv 4) (ab (am aT (aq AK hr (by decide) rfl (ab (pv 0) (ab (am aE (pv 1) (pv 6)) ac))) (az aJ rfl B.len_ aQ (ab (pv 4) ac))) ac)) ac)))))
   (af (ak (pv 5))))))
abbrev kf:Stmt:=top 113
theorem sc__law_masks:ax ["_law_script","_law_at","_law_many","_law_signs","_law_masks_here","_law_k","_law_one"] ["_law_script","_law_at","_law_many","_law_signs"] (aj kf):=⟨rfl,rfl,rfl,by decide+kernel,rfl,by decide+kernel,by decide+kernel⟩
set_option maxHeartbeats 4000000 in
theorem sd {P:Program} {w:World} {K:PySem.W.Frag} {mg:Str→Option Value} {base:Heap} (B:Bt2 mg) (AK:Cal P w K mg base 1 "_law_cell_at" ["_law_script","_law_k"] (aL K)) {f:Addr} {fd:FuncData} (F:Fun K "_law_masks" "_law_masks" kf f fd):FnOk P w K mg base CX0 2 f fd ["_law_script","_law_at","_law_many","_law_signs"] (cy K):=by
 refine F.ok sc__law_masks (fun vs H Q E h=>qh h) (fun cdv A outer s H vs Q E hr h=>?_)
 have hu:=hr.units
 have nd:=sc__law_masks.nd
 refine ⟨fj K,?_,qi h⟩
 exact (ae (aw (i:=4) nd rfl (Or.inl rfl) (aO ac))
   (ae (dZ PassesOwn.never rfl (bV rfl B.range_ (ab (pv 2) ac)) (aI (i:=5) nd rfl (Or.inl rfl))
   (ae (aw (i:=6) nd rfl (Or.inl rfl) (aq AK hr (by decide) rfl (ab (pv 0) (ab (am aE (pv 1) (pv 5)) ac))))
   (ae (bI (bZ PySem.F.plainAttrs_list PySem.F.slot_list_append PySem.F.type_list_append aY (pv 4) (ab (am aT (am wY (am bu (pv 6) ad) (am bE (am aT (am bu (pv 6) ad) ad) (am bu (pv 6) ad))) (am kU ad (pv 3))) ac)))
   (af (aB (ap fA (am aT (pv 6) ad) ad (ao _)) (af (pi (am kU ad (am aT (am bu (pv 6) ad) (pv 3))) (wx (pv 4) (pv 5) (yE hu)))) au)))))
   (af (ak (pv 4)))))
abbrev fY:Stmt:=top 119
theorem sc__law_by_regions:ax ["_law_number","_law_floor_here","_law_masks_here","_law_goals","_law_cell","_law_sign","_law_many","_law_found","_law_rule","_law_goal","_law_one","_law_must","_law_other","_law_near_here","_law_corner","_law_row","_law_column"] ["_law_number","_law_floor_here","_law_masks_here","_law_goals","_law_cell","_law_sign"] (aj fY):=⟨rfl,rfl,rfl,by decide+kernel,rfl,by decide+kernel,by decide+kernel⟩
set_option maxHeartbeats 4000000 in
theorem ng {P:Program} {w:World} {K:PySem.W.Frag} {mg:Str→Option Value} {base:Heap} (B:Bt2 mg) (A8:Cal P w K mg base 1 "_law_near" ["_law_floor_here","_law_cell"] (bT K)) (DQ:Cal P w K mg base 1 "_law_only" ["_law_mask","_law_sign"] (dA K)) (BX_divmod:mg "divmod"=none) {f:Addr} {fd:FuncData} (F:Fun K "_law_by_regions" "_law_by_regions" fY f fd):FnOk P w K mg base CX0 2 f fd ["_law_number","_law_floor_here","_law_masks_here","_law_goals","_law_cell","_law_sign"] (bx K):=by
 refine F.ok sc__law_by_regions (fun vs H Q E h=>lN h) (fun cdv A outer s H vs Q E hr h=>?_)
 have hu:=hr.units
 have nd:=sc__law_by_regions.nd
 refine ⟨cH K,?_,lO h⟩
 exact (ae (aw (i:=6) nd rfl (Or.inl rfl) (am bE (ai (ar hu) (pv 1) ad (fun _ _=>rfl)) (ai (ar hu) (pv 1) ad (fun _ _=>rfl))))
   (ae (aw (i:=7) nd rfl (Or.inl rfl) (aO (ab (b3 (ab aM (ab ad (ab (pv 4) (ab (ai (ar hu) (pv 3) ad (fun _ _=>rfl)) (ab (aO ac) ac)))))) ac)))
   (ae (dZ PassesOwn.never rfl (zw (b3 (ab ad (ab ad ac)))) (aI (i:=8) nd rfl (Or.inl rfl))
   (ae (aw (i:=9) nd rfl (Or.inr rfl) (ai (ar hu) (pv 3) (am bt (pv 8) ad) (fun _ _=>rfl)))
   (ae (iD (k:=11) nd rfl (Or.inl rfl) rfl (ix:=[none,none,some 4,some 9,some 2,some 0]) [".0","_law_one","_law_cell","_law_goal","_law_masks_here","_law_number"] (aX rfl (by decide+kernel) rfl rfl rfl) rfl (bV rfl B.range_ (ab (pv 6) ac)) (fun cl s H fp=>(aI (i:=1) (show ([".0","_law_one","_law_cell","_law_goal","_law_masks_here","_law_number"]:List Str).Nodup by decide+kernel) rfl (Or.inl rfl))) (fun cl s H fp=>(cm (PW.pt (fv (ap (aU hu) (pv 1) (pv 2) (ao _)) (d6 (PW.pt (bY (aZ (aq DQ hr (by decide) rfl (ab (ai (ar hu) (pv 4) (pv 1) (fun _ _=>rfl)) (ab (pv 3) ac)))) (cj (ap (aG hu) (am aT (pv 5) ad) ad (ao _)))))))))) (fun cl s H fp=>(pv 1)))
   (af (aB (ap fA (az aJ rfl B.len_ aQ (ab (pv 11) ac)) ad (ao _)) (ae (aw (i:=10) nd rfl (Or.inl rfl) (ai (ar hu) (pv 11) (am aT (am bu (pv 0) ad) (az aJ rfl B.len_ aQ (ab (pv 11) ac))) (fun _ _=>rfl)))
   (ae (aw (i:=12) nd rfl (Or.inl rfl) (ai (ar hu) (pv 11) (am aT (am bu (pv 0) ad) (az aJ rfl B.len_ aQ (ab (pv 11) ac))) (fun _ _=>rfl)))
   (ae (bI (bZ PySem.F.plainAttrs_list PySem.F.slot_list_append PySem.F.type_list_append aY (pv 7) (ab (b3 (ab aM (ab (pv 8) (ab (pv 4) (ab (pv 9) (ab (aO (ab (pv 10) ac)) ac)))))) ac)))
   (af (aB (PW.pt (fv (ap (aU hu) (pv 10) (pv 12) (ao _)) (d6 (ap (aU hu) (pv 5) (pv 9) (ao _))))) (af (bI (bZ PySem.F.plainAttrs_list PySem.F.slot_list_append PySem.F.type_list_append aY (pv 7) (ab (b3 (ab aM (ab (pv 8) (ab (pv 4) (ab (pv 5) (ab (aO (ab (pv 10) (ab (pv 12) ac))) ac)))))) ac)))) au))))) au)))))
   (ae (aw (i:=13) nd rfl (Or.inl rfl) (aq A8 hr (by decide) rfl (ab (pv 1) (ab (pv 4) ac))))
   (ae (aB (ap (aU hu) (pv 13) (aO ac) (ao _)) (ae (aw (i:=10) nd rfl (Or.inl rfl) (ai (ar hu) (pv 13) (am aT (am bu (pv 0) ad) (az aJ rfl B.len_ aQ (ab (pv 13) ac))) (fun _ _=>rfl)))
   (af (aw (i:=7) nd rfl (Or.inl rfl) (am aE (pv 7) (aO (ab (b3 (ab aM (ab ad (ab (pv 4) (ab (ai (ar hu) (pv 3) ad (fun _ _=>rfl)) (ab (aO (ab (pv 10) ac)) ac)))))) (ab (b3 (ab aM (ab ad (ab (pv 4) (ab (pv 5) (ab (aO (ab (pv 10) ac)) ac)))))) ac))))))) au)
   (ae (aw (i:=14) nd rfl (Or.inl rfl) (am bt (pv 4) (ai (ar hu) (aO (ab ad (ab ad (ab (ai (ar hu) (pv 1) ad (fun _ _=>rfl)) (ab (am aE (ai (ar hu) (pv 1) ad (fun _ _=>rfl)) ad) ac))))) (am aT (am bu (pv 0) ad) ad) (fun _ _=>rfl))))
   (ae (pi (az mR rfl BX_divmod rA (ab (pv 14) (ab (ai (ar hu) (pv 1) ad (fun _ _=>rfl)) ac))) (ss rfl (iC (aI (i:=15) nd rfl (Or.inl rfl)) (iC (aI (i:=16) nd rfl (Or.inl rfl)) qI))))
   (ae (aB (PW.pt (fv (ap sI (pv 14) ad (ao _)) (fv (ap cD (am aE (pv 15) ad) (ai (ar hu) (pv 1) ad (fun _ _=>rfl)) (ao _)) (d6 (ap cD (am aE (pv 16) ad) (ai (ar hu) (pv 1) ad (fun _ _=>rfl)) (ao _)))))) (af (aB (ap (jk hu) (pv 4) (aO (ab (pv 14) (ab (am aE (pv 14) ad) (ab (am aE (pv 14) (ai (ar hu) (pv 1) ad (fun _ _=>rfl))) (ab (am aE (am aE (pv 14) (ai (ar hu) (pv 1) ad (fun _ _=>rfl))) ad) ac))))) (by with_unfolding_all rfl)) (af (bI (bZ PySem.F.plainAttrs_list PySem.F.slot_list_append PySem.F.type_list_append aY (pv 7) (ab (b3 (ab aM (ab ad (ab (pv 4) (ab (ai (ar hu) (pv 3) ad (fun _ _=>rfl)) (ab (aO (ab (pv 14) ac)) ac)))))) ac)))) au)) au)
   (af (ak (pv 7)))))))))))
abbrev lW:Stmt:=top 120
theorem sc__law_due:ax ["_law_thought","_law_floor_here","_law_lists_here","_law_kind","_law_cell","_law_more","_law_some"] ["_law_thought","_law_floor_here","_law_lists_here"] (aj lW):=⟨rfl,rfl,rfl,by decide+kernel,rfl,by decide+kernel,by decide+kernel⟩
set_option maxHeartbeats 4000000 in
theorem uR {P:Program} {w:World} {K:PySem.W.Frag} {mg:Str→Option Value} {base:Heap} (B:Bt2 mg) (A8:Cal P w K mg base 1 "_law_near" ["_law_floor_here","_law_cell"] (bT K)) {f:Addr} {fd:FuncData} (F:Fun K "_law_due" "_law_due" lW f fd):FnOk P w K mg base CX0 2 f fd ["_law_thought","_law_floor_here","_law_lists_here"] (cY K):=by
 refine F.ok sc__law_due (fun vs H Q E h=>rT h) (fun cdv A outer s H vs Q E hr h=>?_)
 have hu:=hr.units
 have nd:=sc__law_due.nd
 refine ⟨gt K,?_,rV h⟩
 exact (ae (aw (i:=3) nd rfl (Or.inl rfl) (ai (ar hu) (pv 0) ad (fun _ _=>rfl)))
   (ae (aw (i:=4) nd rfl (Or.inr rfl) (ai (ar hu) (pv 0) ad (fun _ _=>rfl)))
   (ae (aw (i:=5) nd rfl (Or.inl rfl) (ai (ar hu) (pv 0) ad (fun _ _=>rfl)))
   (ae (aw (i:=6) nd rfl (Or.inl rfl) (bJ fN rfl B.list_ d7 (ab (pv 5) ac)))
   (ae (aB (ap (aG hu) (pv 3) aM (ao _)) (af (aw (i:=6) nd rfl (Or.inl rfl) (bJ fN rfl B.list_ d7 (ab (ai (ar hu) (pv 2) (ai (ar hu) (pv 0) ad (fun _ _=>rfl)) (fun _ _=>rfl)) ac)))) au)
   (ae (aB (ap (aG hu) (pv 3) aM (ao _)) (af (aw (i:=6) nd rfl (Or.inl rfl) (aO (ab (ai (ar hu) (pv 5) ad (fun _ _=>rfl)) (ab (am aE (ai (ar hu) (pv 5) ad (fun _ _=>rfl)) ad) (ab (am aE (ai (ar hu) (pv 5) ad (fun _ _=>rfl)) (ai (ar hu) (pv 1) ad (fun _ _=>rfl))) (ab (am aE (am aE (ai (ar hu) (pv 5) ad (fun _ _=>rfl)) (ai (ar hu) (pv 1) ad (fun _ _=>rfl))) ad) ac))))))) au)
   (ae (aB (ap (aG hu) (pv 3) aM (ao _)) (af (aw (i:=6) nd rfl (Or.inl rfl) (kF rfl rfl rfl B.list_ B.range_ (ab (am bE (ai (ar hu) (pv 1) ad (fun _ _=>rfl)) (ai (ar hu) (pv 1) ad (fun _ _=>rfl))) ac)))) au)
   (ae (aB (PW.pt (fv (ap (aG hu) (pv 3) aM (ao _)) (d6 (ap (aG hu) (pv 5) (aO ac) (ao _))))) (af (aw (i:=6) nd rfl (Or.inl rfl) (aq A8 hr (by decide) rfl (ab (pv 1) (ab (pv 4) ac))))) au)
   (ae (aB (PW.pt (fv (ap (aG hu) (pv 3) aM (ao _)) (d6 (ap (aU hu) (pv 5) (aO ac) (ao _))))) (af (aw (i:=6) nd rfl (Or.inl rfl) (am aE (pv 5) (aq A8 hr (by decide) rfl (ab (pv 1) (ab (ai (ar hu) (pv 5) ad (fun _ _=>rfl)) ac)))))) au)
   (af (ak (az cN rfl B.sorted_ fC (ab (bD (ix:=[none,none,some 4]) [".0","_law_one","_law_cell"] (aX rfl (by decide+kernel) rfl rfl rfl) rfl (bc (pv 6)) (fun cl s H fp=>(aI (i:=1) (show ([".0","_law_one","_law_cell"]:List Str).Nodup by decide+kernel) rfl (Or.inl rfl))) (fun cl s H fp=>(cm (ap (aU hu) (pv 1) (pv 2) (ao _)))) (fun cl s H fp=>(pv 1))) ac)))))))))))))
abbrev gz:Stmt:=top 121
theorem sc__law_elsewhere:ax ["_law_script","_law_masks_here","_law_rests_here","_law_signs","_law_at","_law_found","_law_k","_law_number","_law_mask"] ["_law_script","_law_masks_here","_law_rests_here","_law_signs","_law_at"] (aj gz):=⟨rfl,rfl,rfl,by decide+kernel,rfl,by decide+kernel,by decide+kernel⟩
set_option maxHeartbeats 4000000 in
theorem n9 {P:Program} {w:World} {K:PySem.W.Frag} {mg:Str→Option Value} {base:Heap} (B:Bt2 mg) (AK:Cal P w K mg base 1 "_law_cell_at" ["_law_script","_law_k"] (aL K)) {f:Addr} {fd:FuncData} (F:Fun K "_law_elsewhere" "_law_elsewhere" gz f fd):FnOk P w K mg base CX0 2 f fd ["_law_script","_law_masks_here","_law_rests_here","_law_signs","_law_at"] (bF K):=by
 refine F.ok sc__law_elsewhere (fun vs H Q E h=>mn h) (fun cdv A outer s H vs Q E hr h=>?_)
 have hu:=hr.units
 have nd:=sc__law_elsewhere.nd
 refine ⟨cQ K,?_,mo h⟩
 exact (ae (aw (i:=5) nd rfl (Or.inl rfl) (aO ac))
   (ae (dZ PassesOwn.never rfl (bV rfl B.range_ (ab (az aJ rfl B.len_ aQ (ab (pv 1) ac)) ac)) (aI (i:=6) nd rfl (Or.inl rfl))
   (ae (aw (i:=7) nd rfl (Or.inl rfl) (aq AK hr (by decide) rfl (ab (pv 0) (ab (am aE (pv 4) (pv 6)) ac))))
   (ae (aw (i:=8) nd rfl (Or.inl rfl) (ai (ar hu) (aO (ab ad (ab (am bt (am kU ad (pv 3)) ad) (ab (am aT (am bu (pv 7) ad) (am kU ad (pv 3))) ac)))) (am aT (pv 7) ad) (fun _ _=>rfl)))
   (ae (aB (ap (jk hu) (pv 6) (pv 2) (by with_unfolding_all rfl)) (af (aw (i:=8) nd rfl (Or.inl rfl) (ai (ar hu) (pv 1) (pv 6) (fun _ _=>rfl)))) au)
   (af (bI (bZ PySem.F.plainAttrs_list PySem.F.slot_list_append PySem.F.type_list_append aY (pv 5) (ab (pv 8) ac))))))))
   (af (ak (pv 5)))))
abbrev lX:Stmt:=top 12
theorem sc_floor_of:ax ["high","wide","signs"] ["high","wide","signs"] (aj lX):=⟨rfl,rfl,rfl,by decide+kernel,rfl,by decide+kernel,by decide+kernel⟩
set_option maxHeartbeats 4000000 in
theorem uS {P:Program} {w:World} {K:PySem.W.Frag} {mg:Str→Option Value} {base:Heap} (B:Bt2 mg) (AW:Cal P w K mg base 2 "is_from_one_to" ["value","most"] (aW K)) {t_MOST_CELLS:Tok} (Du:mg "MOST_CELLS"=some (.int 16 t_MOST_CELLS)) {t_MOST_SIDE:Tok} (CZ:mg "MOST_SIDE"=some (.int 6 t_MOST_SIDE)) {t_MOST_SIGNS:Tok} (Dv:mg "MOST_SIGNS"=some (.int 6 t_MOST_SIGNS)) {f:Addr} {fd:FuncData} (F:Fun K "floor_of" "floor_of" lX f fd):FnOk P w K mg base CX0 3 f fd ["high","wide","signs"] (d9 K):=by
 refine F.ok sc_floor_of (fun vs H Q E h=>uA h) (fun cdv A outer s H vs Q E hr h=>?_)
 have hu:=hr.units
 have nd:=sc_floor_of.nd
 refine ⟨je K,?_,uB h⟩
 exact (ae (aB (bH (aZ (aq AW hr (by decide) rfl (ab (pv 0) (ab (dm rfl CZ ⟨t_MOST_SIDE,rfl⟩) ac))))) (af bO) au)
   (ae (aB (bH (aZ (aq AW hr (by decide) rfl (ab (pv 1) (ab (dm rfl CZ ⟨t_MOST_SIDE,rfl⟩) ac))))) (af bO) au)
   (ae (aB (ap fA (am bE (pv 0) (pv 1)) (dm rfl Du ⟨t_MOST_CELLS,rfl⟩) (ao _)) (af bO) au)
   (ae (aB (bH (aZ (aq AW hr (by decide) rfl (ab (pv 2) (ab (dm rfl Dv ⟨t_MOST_SIGNS,rfl⟩) ac))))) (af bO) au)
   (af (ak (b3 (ab (pv 0) (ab (pv 1) (ab (pv 2) ac))))))))))
abbrev nh:Stmt:=top 18
theorem sc_squares:ax ["floor"] ["floor"] (aj nh):=⟨rfl,rfl,rfl,by decide+kernel,rfl,by decide+kernel,by decide+kernel⟩
set_option maxHeartbeats 4000000 in
theorem wn {P:Program} {w:World} {K:PySem.W.Frag} {mg:Str→Option Value} {base:Heap} (B:Bt2 mg) (DR:Cal P w K mg base 2 "is_corner" ["floor","cell"] (du K)) (AM:Cal P w K mg base 1 "many_cells" ["floor"] (aR K)) (DS:Cal P w K mg base 1 "square_at" ["floor","corner"] (dv K)) {f:Addr} {fd:FuncData} (F:Fun K "squares" "squares" nh f fd):FnOk P w K mg base CX0 3 f fd ["floor"] (fS K):=by
 refine F.ok sc_squares (fun vs H Q E h=>vL h) (fun cdv A outer s H vs Q E hr h=>?_)
 have hu:=hr.units
 have nd:=sc_squares.nd
 refine ⟨jL K,?_,vM h⟩
 exact (af (ak (bD (ix:=[none,none,some 0]) [".0","cell","floor"] (aX rfl (by decide+kernel) rfl rfl rfl) rfl (bV rfl B.range_ (ab (aq AM hr (by decide) rfl (ab (pv 0) ac)) ac)) (fun cl s H fp=>(aI (i:=1) (show ([".0","cell","floor"]:List Str).Nodup by decide+kernel) rfl (Or.inl rfl))) (fun cl s H fp=>(cm (aZ (aq DR hr (by decide) rfl (ab (pv 2) (ab (pv 1) ac)))))) (fun cl s H fp=>(aq DS hr (by decide) rfl (ab (pv 2) (ab (pv 1) ac)))))))
abbrev ni:Stmt:=top 19
theorem sc_reached:ax ["floor","cells","start","found","place","cell"] ["floor","cells","start"] (aj ni):=⟨rfl,rfl,rfl,by decide+kernel,rfl,by decide+kernel,by decide+kernel⟩
set_option maxHeartbeats 4000000 in
theorem wo {P:Program} {w:World} {K:PySem.W.Frag} {mg:Str→Option Value} {base:Heap} (B:Bt2 mg) (A0:Cal P w K mg base 2 "beside" ["floor","cell"] (bL K)) {f:Addr} {fd:FuncData} (F:Fun K "reached" "reached" ni f fd):FnOk P w K mg base CX0 3 f fd ["floor","cells","start"] (dU K):=by
 refine F.ok sc_reached (fun vs H Q E h=>vX h) (fun cdv A outer s H vs Q E hr h=>?_)
 have hu:=hr.units
 have nd:=sc_reached.nd
 refine ⟨jR K,?_,vY h⟩
 exact (ae (aB (ap (fB hu) (pv 2) (pv 1) (by with_unfolding_all rfl)) (af (ak (aO ac))) au)
   (ae (aw (i:=3) nd rfl (Or.inl rfl) (aO (ab (pv 2) ac)))
   (ae (aw (i:=4) nd rfl (Or.inl rfl) ad)
   (ae (x3 PassesOwn.never (ap cD (pv 4) (az aJ rfl B.len_ aQ (ab (pv 3) ac)) (ao _))
   (ae (dZ PassesOwn.never rfl (bc (aq A0 hr (by decide) rfl (ab (pv 0) (ab (ai (ar hu) (pv 3) (pv 4) (fun _ _=>rfl)) ac)))) (aI (i:=5) nd rfl (Or.inl rfl))
   (af (aB (PW.pt (fv (ap (jk hu) (pv 5) (pv 1) (by with_unfolding_all rfl)) (d6 (ap (fB hu) (pv 5) (pv 3) (by with_unfolding_all rfl))))) (af (bI (bZ PySem.F.plainAttrs_list PySem.F.slot_list_append PySem.F.type_list_append aY (pv 3) (ab (pv 5) ac)))) au)))
   (af (aw (i:=4) nd rfl (Or.inl rfl) (am aE (pv 4) ad)))))
   (af (ak (az cN rfl B.sorted_ fC (ab (pv 3) ac))))))))
abbrev lY:Stmt:=top 24
theorem sc_has_only:ax ["mask","sign"] ["mask","sign"] (aj lY):=⟨rfl,rfl,rfl,by decide+kernel,rfl,by decide+kernel,by decide+kernel⟩
set_option maxHeartbeats 4000000 in
theorem uT {P:Program} {w:World} {K:PySem.W.Frag} {mg:Str→Option Value} {base:Heap} (B:Bt2 mg) (EH:Cal P w K mg base 2 "without" ["mask","sign"] (fV K)) {f:Addr} {fd:FuncData} (F:Fun K "has_only" "has_only" lY f fd):FnOk P w K mg base CX0 3 f fd ["mask","sign"] (br K):=by
 refine F.ok sc_has_only (fun vs H Q E h=>uC h) (fun cdv A outer s H vs Q E hr h=>?_)
 have hu:=hr.units
 have nd:=sc_has_only.nd
 refine ⟨jf K,?_,uD h⟩
 exact (af (ak (aN (aG hu) (aq EH hr (by decide) rfl (ab (pv 0) (ab (pv 1) ac))) ad (ao _))))
abbrev nj:Stmt:=top 32
theorem sc_is_sign:ax ["floor","value"] ["floor","value"] (aj nj):=⟨rfl,rfl,rfl,by decide+kernel,rfl,by decide+kernel,by decide+kernel⟩
set_option maxHeartbeats 4000000 in
theorem wp {P:Program} {w:World} {K:PySem.W.Frag} {mg:Str→Option Value} {base:Heap} (B:Bt2 mg) (AW:Cal P w K mg base 2 "is_from_one_to" ["value","most"] (aW K)) {f:Addr} {fd:FuncData} (F:Fun K "is_sign" "is_sign" nj f fd):FnOk P w K mg base CX0 3 f fd ["floor","value"] (c8 K):=by
 refine F.ok sc_is_sign (fun vs H Q E h=>vT h) (fun cdv A outer s H vs Q E hr h=>?_)
 have hu:=hr.units
 have nd:=sc_is_sign.nd
 refine ⟨jP K,?_,vU h⟩
 exact (af (ak (aq AW hr (by decide) rfl (ab (pv 1) (ab (ai (ar hu) (pv 0) ad (fun _ _=>rfl)) ac)))))
abbrev iY:Stmt:=top 34
theorem sc_has_its_rule:ax ["puzzle","kind","number","cell","rules"] ["puzzle","kind","number","cell"] (aj iY):=⟨rfl,rfl,rfl,by decide+kernel,rfl,by decide+kernel,by decide+kernel⟩
set_option maxHeartbeats 4000000 in
theorem qC {P:Program} {w:World} {K:PySem.W.Frag} {mg:Str→Option Value} {base:Heap} (B:Bt2 mg) {c:RCl RK} {d:RCl PzK} (EI:Cal P w K mg base 2 "goes_by" ["kind","rule"] (fW K c)) (AT:Cal P w K mg base 1 "is_whole" ["value"] (ba K)) (A6:MCal P w K mg base d d.ok 1 "rules" ["self"] (df K c d)) (BF:MCal P w K mg base c c.ok 1 "spots" ["self"] (fH K c)) {f:Addr} {fd:FuncData} (F:Fun K "has_its_rule" "has_its_rule" iY f fd):FnOk P w K mg base CX0 3 f fd ["puzzle","kind","number","cell"] (cr K c d):=by
 refine F.ok sc_has_its_rule (fun vs H Q E h=>pZ h) (fun cdv A outer s H vs Q E hr h=>?_)
 have hu:=hr.units
 have nd:=sc_has_its_rule.nd
 refine ⟨fc K c d,?_,p0 h⟩
 exact (ae (aB (PW.pt (bY (bH (aZ (aq AT hr (by decide) rfl (ab (pv 2) ac)))) (cj (ap cD (pv 2) ad (ao _))))) (af (ak cE)) au)
   (ae (aB (ap (aG hu) (pv 1) aM (ao _)) (af (ak (aN (aG hu) (pv 2) ad (ao _)))) au)
   (ae (aw (i:=4) nd rfl (Or.inl rfl) (bg A6 hr (by decide) (pv 0)))
   (ae (aB (ap sI (pv 2) (az aJ rfl B.len_ aQ (ab (pv 4) ac)) (ao _)) (af (ak cE)) au)
   (af (ak (bz (aq EI hr (by decide) rfl (ab (pv 1) (ab (ai (ar hu) (pv 4) (pv 2) (fun _ _=>rfl)) ac))) (ck (aN (jk hu) (pv 3) (bg BF hr (by decide) (ai (ar hu) (pv 4) (pv 2) (fun _ _=>rfl))) (by with_unfolding_all rfl))))))))))
abbrev iZ:Stmt:=top 51
theorem sc_pair_strikes:ax ["rule","masks","cell","sign","more","together"] ["rule","masks","cell","sign","more"] (aj iZ):=⟨rfl,rfl,rfl,by decide+kernel,rfl,by decide+kernel,by decide+kernel⟩
set_option maxHeartbeats 4000000 in
theorem qD {P:Program} {w:World} {K:PySem.W.Frag} {mg:Str→Option Value} {base:Heap} (B:Bt2 mg) {c:RCl RK} (Bd:Cal P w K mg base 1 "are_told_in_order" ["cells","more"] (bv K)) (AY:Cal P w K mg base 2 "others" ["rule","cell"] (bB K c)) (DW:Cal P w K mg base 2 "signs_in" ["mask"] (ee K)) {f:Addr} {fd:FuncData} (F:Fun K "pair_strikes" "pair_strikes" iZ f fd):FnOk P w K mg base CX0 3 f fd ["rule","masks","cell","sign","more"] (cz K c):=by
 refine F.ok sc_pair_strikes (fun vs H Q E h=>qj h) (fun cdv A outer s H vs Q E hr h=>?_)
 have hu:=hr.units
 have nd:=sc_pair_strikes.nd
 refine ⟨fk K c,?_,qk h⟩
 exact (ae (aB (bH (aZ (aq Bd hr (by decide) rfl (ab (aq AY hr (by decide) rfl (ab (pv 0) (ab (pv 2) ac))) (ab (pv 4) ac))))) (af (ak cE)) au)
   (ae (aw (i:=5) nd rfl (Or.inl rfl) (aq DW hr (by decide) rfl (ab (am wY (ai (ar hu) (pv 1) (ai (ar hu) (pv 4) ad (fun _ _=>rfl)) (fun _ _=>rfl)) (ai (ar hu) (pv 1) (ai (ar hu) (pv 4) ad (fun _ _=>rfl)) (fun _ _=>rfl))) ac)))
   (af (ak (aN fz (az aJ rfl B.len_ aQ (ab (bD (ix:=[none,none,some 3]) [".0","other","sign"] (aX rfl (by decide+kernel) rfl rfl rfl) rfl (bc (pv 5)) (fun cl s H fp=>(aI (i:=1) (show ([".0","other","sign"]:List Str).Nodup by decide+kernel) rfl (Or.inl rfl))) (fun cl s H fp=>(cm (ap (aU hu) (pv 1) (pv 2) (ao _)))) (fun cl s H fp=>(pv 1))) ac)) ad (ao _))))))
abbrev iu:Stmt:=top 53
theorem sc_rests_by_line:ax ["puzzle","thought","kind","rule"] ["puzzle","thought"] (aj iu):=⟨rfl,rfl,rfl,by decide+kernel,rfl,by decide+kernel,by decide+kernel⟩
set_option maxHeartbeats 4000000 in
theorem o9 {P:Program} {w:World} {K:PySem.W.Frag} {mg:Str→Option Value} {base:Heap} (B:Bt2 mg) {c:RCl RK} {d:RCl PzK} (AY:Cal P w K mg base 2 "others" ["rule","cell"] (bB K c)) (A6:MCal P w K mg base d d.ok 1 "rules" ["self"] (df K c d)) {f:Addr} {fd:FuncData} (F:Fun K "rests_by_line" "rests_by_line" iu f fd):FnOk P w K mg base CX0 3 f fd ["puzzle","thought"] (cc K c d):=by
 refine F.ok sc_rests_by_line (fun vs H Q E h=>oY h) (fun cdv A outer s H vs Q E hr h=>?_)
 have hu:=hr.units
 have nd:=sc_rests_by_line.nd
 refine ⟨dY K c d,?_,oZ h⟩
 exact (ae (aw (i:=2) nd rfl (Or.inl rfl) (ai (ar hu) (pv 1) ad (fun _ _=>rfl)))
   (ae (aB (ap (aG hu) (pv 2) aM (ao _)) (af (ak (aO ac))) au)
   (ae (aB (PW.pt (bY (ap (aG hu) (pv 2) aM (ao _)) (cj (ap (aG hu) (pv 2) aM (ao _))))) (af (ak (az cN rfl B.sorted_ fC (ab (ai (ar hu) (pv 1) ad (fun _ _=>rfl)) ac)))) au)
   (ae (aw (i:=3) nd rfl (Or.inl rfl) (ai (ar hu) (bg A6 hr (by decide) (pv 0)) (ai (ar hu) (pv 1) ad (fun _ _=>rfl)) (fun _ _=>rfl)))
   (ae (aB (ap (aG hu) (pv 2) aM (ao _)) (af (ak (az cN rfl B.sorted_ fC (ab (aq AY hr (by decide) rfl (ab (pv 3) (ab (ai (ar hu) (pv 1) ad (fun _ _=>rfl)) ac))) ac)))) au)
   (af (ak (az cN rfl B.sorted_ fC (ab (am aE jm jm) ac)))))))))
abbrev pb:Stmt:=top 69
theorem sc_around:ax ["floor","middle","cell"] ["floor","middle","cell"] (aj pb):=⟨rfl,rfl,rfl,by decide+kernel,rfl,by decide+kernel,by decide+kernel⟩
set_option maxHeartbeats 4000000 in
theorem xX {P:Program} {w:World} {K:PySem.W.Frag} {mg:Str→Option Value} {base:Heap} (B:Bt2 mg) (A0:Cal P w K mg base 2 "beside" ["floor","cell"] (bL K)) {f:Addr} {fd:FuncData} (F:Fun K "around" "around" pb f fd):FnOk P w K mg base CX0 3 f fd ["floor","middle","cell"] (dE K):=by
 refine F.ok sc_around (fun vs H Q E h=>xJ h) (fun cdv A outer s H vs Q E hr h=>?_)
 have hu:=hr.units
 have nd:=sc_around.nd
 refine ⟨kC K,?_,xK h⟩
 exact (af (ak (bD (ix:=[none,none,some 2]) [".0","other","cell"] (aX rfl (by decide+kernel) rfl rfl rfl) rfl (bc (aq A0 hr (by decide) rfl (ab (pv 0) (ab (pv 1) ac)))) (fun cl s H fp=>(aI (i:=1) (show ([".0","other","cell"]:List Str).Nodup by decide+kernel) rfl (Or.inl rfl))) (fun cl s H fp=>(cm (ap (aU hu) (pv 1) (pv 2) (ao _)))) (fun cl s H fp=>(pv 1)))))
abbrev i5:Stmt:=top 97
theorem sc_first_within:ax ["words","least","most"] ["words","least","most"] (aj i5):=⟨rfl,rfl,rfl,by decide+kernel,rfl,by decide+kernel,by decide+kernel⟩
set_option maxHeartbeats 4000000 in
theorem qE {P:Program} {w:World} {K:PySem.W.Frag} {mg:Str→Option Value} {base:Heap} (B:Bt2 mg) (A4:Cal P w K mg base 2 "number_within" ["word","least","most"] (bo K)) {f:Addr} {fd:FuncData} (F:Fun K "first_within" "first_within" i5 f fd):FnOk P w K mg base CX0 3 f fd ["words","least","most"] (bA K):=by
 refine F.ok sc_first_within (fun vs H Q E h=>pN h) (fun cdv A outer s H vs Q E hr h=>?_)
 have hu:=hr.units
 have nd:=sc_first_within.nd
 refine ⟨eP K,?_,pO h⟩
 exact (ae (aB (ap (aG hu) (pv 0) (aO ac) (ao _)) (af bO) au)
   (af (ak (aq A4 hr (by decide) rfl (ab (ai (ar hu) (pv 0) ad (fun _ _=>rfl)) (ab (pv 1) (ab (pv 2) ac)))))))
abbrev kg:Stmt:=top 98
theorem sc_told_cells:ax ["floor","words","cells"] ["floor","words"] (aj kg):=⟨rfl,rfl,rfl,by decide+kernel,rfl,by decide+kernel,by decide+kernel⟩
set_option maxHeartbeats 4000000 in
theorem se {P:Program} {w:World} {K:PySem.W.Frag} {mg:Str→Option Value} {base:Heap} (B:Bt2 mg) (AM:Cal P w K mg base 1 "many_cells" ["floor"] (aR K)) (A4:Cal P w K mg base 2 "number_within" ["word","least","most"] (bo K)) {f:Addr} {fd:FuncData} (F:Fun K "told_cells" "told_cells" kg f fd):FnOk P w K mg base CX0 3 f fd ["floor","words"] (cU K):=by
 refine F.ok sc_told_cells (fun vs H Q E h=>rN h) (fun cdv A outer s H vs Q E hr h=>?_)
 have hu:=hr.units
 have nd:=sc_told_cells.nd
 refine ⟨gp K,?_,rO h⟩
 exact (ae (iD (k:=2) nd rfl (Or.inl rfl) rfl (ix:=[none,none,some 0]) [".0","word","floor"] (aX rfl (by decide+kernel) rfl rfl rfl) rfl (bc (pv 1)) (fun cl s H fp=>(aI (i:=1) (show ([".0","word","floor"]:List Str).Nodup by decide+kernel) rfl (Or.inl rfl))) (fun cl s H fp=>dq) (fun cl s H fp=>(aq A4 hr (by decide) rfl (ab (pv 1) (ab ad (ab (am bt (aq AM hr (by decide) rfl (ab (pv 2) ac)) ad) ac))))))
   (ae (aB (ap (aG hu) (pv 2) (aO ac) (ao _)) (af bO) au)
   (ae (aB (ap (aU hu) (xk rfl rfl rfl B.len_ B.set_ (pv 2)) (az aJ rfl B.len_ aQ (ab (pv 2) ac)) (ao _)) (af bO) au)
   (af (ak (pv 2))))))
abbrev nk:Stmt:=top 100
theorem sc_rule_by:ax ["floor","words","cells","amount","mark","name"] ["floor","words","cells","amount","mark"] (aj nk):=⟨rfl,rfl,rfl,by decide+kernel,rfl,by decide+kernel,by decide+kernel⟩
set_option maxHeartbeats 4000000 in
theorem wq {P:Program} {w:World} {K:PySem.W.Frag} {mg:Str→Option Value} {base:Heap} (B:Bt2 mg) {c:RCl RK} (Gj:KCal P w K mg base 1 "Count" (c.A .Count) ["self","floor","words","cells","amount","mark"] (ay K c)) (Fz:KCal P w K mg base 1 "Joined" (c.A .Joined) ["self","floor","words","cells","amount","mark"] (ay K c)) (DX:KCal P w K mg base 1 "NoSquare" (c.A .NoSquare) ["self","floor","words","cells","amount","mark"] (ay K c)) (GK:KCal P w K mg base 1 "Ring" (c.A .Ring) ["self","floor","words","cells","amount","mark"] (ay K c)) (FA:KCal P w K mg base 1 "Rising" (c.A .Rising) ["self","floor","words","cells","amount","mark"] (ay K c)) (GL:KCal P w K mg base 1 "Seen" (c.A .Seen) ["self","floor","words","cells","amount","mark"] (ay K c)) (K_Sum:KCal P w K mg base 1 "Sum" (c.A .Sum) ["self","floor","words","cells","amount","mark"] (ay K c)) (FB:KCal P w K mg base 1 "Unlike" (c.A .Unlike) ["self","floor","words","cells","amount","mark"] (ay K c)) {f:Addr} {fd:FuncData} (F:Fun K "rule_by" "rule_by" nk f fd):FnOk P w K mg base CX0 3 f fd ["floor","words","cells","amount","mark"] (fU K c):=by
 refine F.ok sc_rule_by (fun vs H Q E h=>vN h) (fun cdv A outer s H vs Q E hr h=>?_)
 have hu:=hr.units
 have nd:=sc_rule_by.nd
 refine ⟨jM K c,?_,vO h⟩
 exact (ae (aw (i:=5) nd rfl (Or.inl rfl) (ai (ar hu) (pv 1) ad (fun _ _=>rfl)))
   (ae (aB (ap (aG hu) (pv 5) aM (ao _)) (af (ak (jK FB hr (by decide) rfl (ab (pv 0) (ab (pv 1) (ab (pv 2) (ab (pv 3) (ab (pv 4) ac)))))))) au)
   (ae (aB (ap (aG hu) (pv 5) aM (ao _)) (af (ak (jK K_Sum hr (by decide) rfl (ab (pv 0) (ab (pv 1) (ab (pv 2) (ab (pv 3) (ab (pv 4) ac)))))))) au)
   (ae (aB (ap (aG hu) (pv 5) aM (ao _)) (af (ak (jK FA hr (by decide) rfl (ab (pv 0) (ab (pv 1) (ab (pv 2) (ab (pv 3) (ab (pv 4) ac)))))))) au)
   (ae (aB (ap (aG hu) (pv 5) aM (ao _)) (af (ak (jK GL hr (by decide) rfl (ab (pv 0) (ab (pv 1) (ab (pv 2) (ab (pv 3) (ab (pv 4) ac)))))))) au)
   (ae (aB (ap (aG hu) (pv 5) aM (ao _)) (af (ak (jK Gj hr (by decide) rfl (ab (pv 0) (ab (pv 1) (ab (pv 2) (ab (pv 3) (ab (pv 4) ac)))))))) au)
   (ae (aB (ap (aG hu) (pv 5) aM (ao _)) (af (ak (jK Fz hr (by decide) rfl (ab (pv 0) (ab (pv 1) (ab (pv 2) (ab (pv 3) (ab (pv 4) ac)))))))) au)
   (ae (aB (ap (aG hu) (pv 5) aM (ao _)) (af (ak (jK DX hr (by decide) rfl (ab (pv 0) (ab (pv 1) (ab (pv 2) (ab (pv 3) (ab (pv 4) ac)))))))) au)
   (ae (aB (ap (aG hu) (pv 5) aM (ao _)) (af (ak (jK GK hr (by decide) rfl (ab (pv 0) (ab (pv 1) (ab (pv 2) (ab (pv 3) (ab (pv 4) ac)))))))) au)
   (af bO))))))))))
abbrev iw:Stmt:=top 107
theorem sc_checked_clues:ax ["floor","clues"] ["floor","clues"] (aj iw):=⟨rfl,rfl,rfl,by decide+kernel,rfl,by decide+kernel,by decide+kernel⟩
set_option maxHeartbeats 4000000 in
theorem pc {P:Program} {w:World} {K:PySem.W.Frag} {mg:Str→Option Value} {base:Heap} (B:Bt2 mg) (Dw:Cal P w K mg base 2 "is_filling" ["floor","filling","least"] (cW K)) {f:Addr} {fd:FuncData} (F:Fun K "checked_clues" "checked_clues" iw f fd):FnOk P w K mg base CX0 3 f fd ["floor","clues"] (b6 K):=by
 refine F.ok sc_checked_clues (fun vs H Q E h=>oP h) (fun cdv A outer s H vs Q E hr h=>?_)
 have hu:=hr.units
 have nd:=sc_checked_clues.nd
 refine ⟨dP K,?_,oQ h⟩
 exact (ae (aB (bH (aZ (aq Dw hr (by decide) rfl (ab (pv 0) (ab (pv 1) (ab ad ac)))))) (af bO) au)
   (af (ak (bJ fN rfl B.list_ d7 (ab (pv 1) ac)))))
abbrev kh:Stmt:=top 115
theorem sc__law_lists:ax ["_law_script","_law_floor_here","_law_many","_law_found","_law_k","_law_cell"] ["_law_script","_law_floor_here"] (aj kh):=⟨rfl,rfl,rfl,by decide+kernel,rfl,by decide+kernel,by decide+kernel⟩
set_option maxHeartbeats 4000000 in
theorem sf {P:Program} {w:World} {K:PySem.W.Frag} {mg:Str→Option Value} {base:Heap} (B:Bt2 mg) (AK:Cal P w K mg base 1 "_law_cell_at" ["_law_script","_law_k"] (aL K)) (Ck:Cal P w K mg base 2 "_law_cells" ["_law_script","_law_at","_law_many","_law_size"] (bR K)) {f:Addr} {fd:FuncData} (F:Fun K "_law_lists" "_law_lists" kh f fd):FnOk P w K mg base CX0 3 f fd ["_law_script","_law_floor_here"] (cB K):=by
 refine F.ok sc__law_lists (fun vs H Q E h=>qq h) (fun cdv A outer s H vs Q E hr h=>?_)
 have hu:=hr.units
 have nd:=sc__law_lists.nd
 refine ⟨ft K,?_,qr h⟩
 exact (ae (aw (i:=2) nd rfl (Or.inl rfl) (am bE (ai (ar hu) (pv 1) ad (fun _ _=>rfl)) (ai (ar hu) (pv 1) ad (fun _ _=>rfl))))
   (ae (aw (i:=3) nd rfl (Or.inl rfl) (aO ac))
   (ae (dZ PassesOwn.never rfl (bV rfl B.range_ (ab ad ac)) (aI (i:=4) nd rfl (Or.inl rfl))
   (ae (aw (i:=5) nd rfl (Or.inl rfl) (aq AK hr (by decide) rfl (ab (pv 0) (ab (am aE ad (pv 4)) ac))))
   (af (bI (bZ PySem.F.plainAttrs_list PySem.F.slot_list_append PySem.F.type_list_append aY (pv 3) (ab (aq Ck hr (by decide) rfl (ab (pv 0) (ab (am aE ad (am bE ad (pv 4))) (ab (pv 2) (ab (am aE ad (am aT (pv 5) (pv 2))) ac))))) ac))))))
   (ae (aB (ap fz (ai (ar hu) (pv 1) ad (fun _ _=>rfl)) (pv 2) (ao _)) (af (pi (aq Ck hr (by decide) rfl (ab (pv 0) (ab ad (ab (pv 2) (ab (ai (ar hu) (pv 1) ad (fun _ _=>rfl)) ac))))) (wx (pv 3) ad (yE hu)))) au)
   (af (ak (pv 3)))))))
abbrev kP:Stmt:=top 35
theorem sc_is_formed:ax ["puzzle","thought","floor"] ["puzzle","thought"] (aj kP):=⟨rfl,rfl,rfl,by decide+kernel,rfl,by decide+kernel,by decide+kernel⟩
set_option maxHeartbeats 4000000 in
theorem ug {P:Program} {w:World} {K:PySem.W.Frag} {mg:Str→Option Value} {base:Heap} (B:Bt2 mg) {c:RCl RK} {d:RCl PzK} (CI:Cal P w K mg base 3 "has_its_rule" ["puzzle","kind","number","cell"] (cr K c d)) (Ch:Cal P w K mg base 2 "is_cell" ["floor","value"] (c7 K)) (Ci:Cal P w K mg base 3 "is_sign" ["floor","value"] (c8 K)) (AT:Cal P w K mg base 1 "is_whole" ["value"] (ba K)) (A7:MCal P w K mg base d d.ok 1 "place" ["self"] (de K c d)) (G_KINDS:GTup K mg "KINDS" lG) {f:Addr} {fd:FuncData} (F:Fun K "is_formed" "is_formed" kP f fd):FnOk P w K mg base CX0 4 f fd ["puzzle","thought"] (dz K c d):=by
 refine F.ok sc_is_formed (fun vs H Q E h=>tH h) (fun cdv A outer s H vs Q E hr h=>?_)
 have hu:=hr.units
 have nd:=sc_is_formed.nd
 refine ⟨ic K c d,?_,tI h⟩
 exact (ae (aB (PW.pt (bY (bH (aZ (az cI rfl B.isinstance_ bq (ab (pv 1) (ab (d5 (v:=.ty "tuple") rfl B.tuple_ lu rfl) ac))))) (bY (ap (aU hu) (az aJ rfl B.len_ aQ (ab (pv 1) ac)) ad (ao _)) (cj (vh G_KINDS (ai (ar hu) (pv 1) ad (fun _ _=>rfl)) rfl))))) (af (ak cE)) au)
   (ae (aw (i:=2) nd rfl (Or.inl rfl) (bg A7 hr (by decide) (pv 0)))
   (ae (aB (PW.pt (bY (bH (aZ (aq Ch hr (by decide) rfl (ab (pv 2) (ab (ai (ar hu) (pv 1) ad (fun _ _=>rfl)) ac))))) (cj (bH (aZ (aq Ci hr (by decide) rfl (ab (pv 2) (ab (ai (ar hu) (pv 1) ad (fun _ _=>rfl)) ac)))))))) (af (ak cE)) au)
   (ae (aB (bH (aZ (aq CI hr (by decide) rfl (ab (pv 0) (ab (ai (ar hu) (pv 1) ad (fun _ _=>rfl)) (ab (ai (ar hu) (pv 1) ad (fun _ _=>rfl)) (ab (ai (ar hu) (pv 1) ad (fun _ _=>rfl)) ac))))))) (af (ak cE)) au)
   (af (ak (bz (az cI rfl B.isinstance_ bq (ab (ai (ar hu) (pv 1) ad (fun _ _=>rfl)) (ab (d5 (v:=.ty "list") rfl B.list_ d7 rfl) ac))) (ck (az (kr rfl) rfl B.all_ pF (ab (bD (ix:=[none,none]) [".0","part"] (aX rfl (by decide+kernel) rfl rfl rfl) rfl (bc (ai (ar hu) (pv 1) ad (fun _ _=>rfl))) (fun cl s H fp=>(aI (i:=1) (show ([".0","part"]:List Str).Nodup by decide+kernel) rfl (Or.inl rfl))) (fun cl s H fp=>dq) (fun cl s H fp=>(aq AT hr (by decide) rfl (ab (pv 1) ac)))) ac))))))))))
abbrev kQ:Stmt:=top 38
theorem sc_many_only:ax ["some","sign"] ["some","sign"] (aj kQ):=⟨rfl,rfl,rfl,by decide+kernel,rfl,by decide+kernel,by decide+kernel⟩
set_option maxHeartbeats 4000000 in
theorem uh {P:Program} {w:World} {K:PySem.W.Frag} {mg:Str→Option Value} {base:Heap} (B:Bt2 mg) (AX:Cal P w K mg base 3 "has_only" ["mask","sign"] (br K)) {f:Addr} {fd:FuncData} (F:Fun K "many_only" "many_only" kQ f fd):FnOk P w K mg base CX0 4 f fd ["some","sign"] (bS K):=by
 refine F.ok sc_many_only (fun vs H Q E h=>tO h) (fun cdv A outer s H vs Q E hr h=>?_)
 have hu:=hr.units
 have nd:=sc_many_only.nd
 refine ⟨ig K,?_,tP h⟩
 exact (af (ak (az aJ rfl B.len_ aQ (ab (bD (ix:=[none,none,some 1]) [".0","mask","sign"] (aX rfl (by decide+kernel) rfl rfl rfl) rfl (bc (pv 0)) (fun cl s H fp=>(aI (i:=1) (show ([".0","mask","sign"]:List Str).Nodup by decide+kernel) rfl (Or.inl rfl))) (fun cl s H fp=>(cm (aZ (aq AX hr (by decide) rfl (ab (pv 1) (ab (pv 2) ac)))))) (fun cl s H fp=>(pv 1))) ac))))
abbrev i6:Stmt:=top 43
theorem sc_only_strikes:ax ["rule","masks","cell","sign","more"] ["rule","masks","cell","sign","more"] (aj i6):=⟨rfl,rfl,rfl,by decide+kernel,rfl,by decide+kernel,by decide+kernel⟩
set_option maxHeartbeats 4000000 in
theorem qF {P:Program} {w:World} {K:PySem.W.Frag} {mg:Str→Option Value} {base:Heap} (B:Bt2 mg) {c:RCl RK} (AX:Cal P w K mg base 3 "has_only" ["mask","sign"] (br K)) (AY:Cal P w K mg base 2 "others" ["rule","cell"] (bB K c)) {f:Addr} {fd:FuncData} (F:Fun K "only_strikes" "only_strikes" i6 f fd):FnOk P w K mg base CX0 4 f fd ["rule","masks","cell","sign","more"] (cw K c):=by
 refine F.ok sc_only_strikes (fun vs H Q E h=>p8 h) (fun cdv A outer s H vs Q E hr h=>?_)
 have hu:=hr.units
 have nd:=sc_only_strikes.nd
 refine ⟨ff K c,?_,p9 h⟩
 exact (af (ak (bz (aN (aG hu) (az aJ rfl B.len_ aQ (ab (pv 4) ac)) ad (ao _)) (bz (aN (jk hu) (ai (ar hu) (pv 4) ad (fun _ _=>rfl)) (aq AY hr (by decide) rfl (ab (pv 0) (ab (pv 2) ac))) (by with_unfolding_all rfl)) (ck (aq AX hr (by decide) rfl (ab (ai (ar hu) (pv 1) (ai (ar hu) (pv 4) ad (fun _ _=>rfl)) (fun _ _=>rfl)) (ab (pv 3) ac))))))))
abbrev iy:Stmt:=top 44
theorem sc_place_strikes:ax ["floor","rule","masks","cell","sign","more"] ["floor","rule","masks","cell","sign","more"] (aj iy):=⟨rfl,rfl,rfl,by decide+kernel,rfl,by decide+kernel,by decide+kernel⟩
set_option maxHeartbeats 4000000 in
theorem pe {P:Program} {w:World} {K:PySem.W.Frag} {mg:Str→Option Value} {base:Heap} (B:Bt2 mg) {c:RCl RK} (Ci:Cal P w K mg base 3 "is_sign" ["floor","value"] (c8 K)) (Bb:Cal P w K mg base 2 "many_may" ["some","sign"] (cf K)) (A3:Cal P w K mg base 1 "masks_at" ["masks","cells"] (bG K)) (AY:Cal P w K mg base 2 "others" ["rule","cell"] (bB K c)) (BF:MCal P w K mg base c c.ok 1 "spots" ["self"] (fH K c)) {f:Addr} {fd:FuncData} (F:Fun K "place_strikes" "place_strikes" iy f fd):FnOk P w K mg base CX0 4 f fd ["floor","rule","masks","cell","sign","more"] (b7 K c):=by
 refine F.ok sc_place_strikes (fun vs H Q E h=>oR h) (fun cdv A outer s H vs Q E hr h=>?_)
 have hu:=hr.units
 have nd:=sc_place_strikes.nd
 refine ⟨dQ K c,?_,oS h⟩
 exact (ae (aB (PW.pt (bY (ap (aU hu) (az aJ rfl B.len_ aQ (ab (bg BF hr (by decide) (pv 1)) ac)) (ai (ar hu) (pv 0) ad (fun _ _=>rfl)) (ao _)) (cj (ap (aU hu) (az aJ rfl B.len_ aQ (ab (pv 5) ac)) ad (ao _))))) (af (ak cE)) au)
   (ae (aB (PW.pt (bY (ap (aG hu) (ai (ar hu) (pv 5) ad (fun _ _=>rfl)) (pv 4) (ao _)) (cj (bH (aZ (aq Ci hr (by decide) rfl (ab (pv 0) (ab (ai (ar hu) (pv 5) ad (fun _ _=>rfl)) ac)))))))) (af (ak cE)) au)
   (af (ak (aN (aG hu) (aq Bb hr (by decide) rfl (ab (aq A3 hr (by decide) rfl (ab (pv 2) (ab (aq AY hr (by decide) rfl (ab (pv 1) (ab (pv 3) ac))) ac))) (ab (ai (ar hu) (pv 5) ad (fun _ _=>rfl)) ac))) ad (ao _))))))
abbrev gA:Stmt:=top 65
theorem sc_rest_of_square:ax ["floor","corner","cell","square"] ["floor","corner","cell"] (aj gA):=⟨rfl,rfl,rfl,by decide+kernel,rfl,by decide+kernel,by decide+kernel⟩
set_option maxHeartbeats 4000000 in
theorem oa {P:Program} {w:World} {K:PySem.W.Frag} {mg:Str→Option Value} {base:Heap} (B:Bt2 mg) (EJ:Cal P w K mg base 3 "squares" ["floor"] (fS K)) {f:Addr} {fd:FuncData} (F:Fun K "rest_of_square" "rest_of_square" gA f fd):FnOk P w K mg base CX0 4 f fd ["floor","corner","cell"] (bh K):=by
 refine F.ok sc_rest_of_square (fun vs H Q E h=>nX h) (fun cdv A outer s H vs Q E hr h=>?_)
 have hu:=hr.units
 have nd:=sc_rest_of_square.nd
 refine ⟨dk K,?_,nY h⟩
 exact (ae (dZ PassesOwn.never rfl (bc (aq EJ hr (by decide) rfl (ab (pv 0) ac))) (aI (i:=3) nd rfl (Or.inl rfl))
   (af (aB (PW.pt (fv (ap (aG hu) (ai (ar hu) (pv 3) ad (fun _ _=>rfl)) (pv 1) (ao _)) (d6 (ap (jk hu) (pv 2) (pv 3) (by with_unfolding_all rfl))))) (af (ak (bD (ix:=[none,none,some 2]) [".0","other","cell"] (aX rfl (by decide+kernel) rfl rfl rfl) rfl (bc (pv 3)) (fun cl s H fp=>(aI (i:=1) (show ([".0","other","cell"]:List Str).Nodup by decide+kernel) rfl (Or.inl rfl))) (fun cl s H fp=>(cm (ap (aU hu) (pv 1) (pv 2) (ao _)))) (fun cl s H fp=>(pv 1))))) au)))
   (af (ak (aO ac))))
abbrev dh:Stmt:=top 67
theorem sc_is_another_with_only:ax ["floor","masks","cell","other","mark"] ["floor","masks","cell","other","mark"] (aj dh):=⟨rfl,rfl,rfl,by decide+kernel,rfl,by decide+kernel,by decide+kernel⟩
set_option maxHeartbeats 4000000 in
theorem kq {P:Program} {w:World} {K:PySem.W.Frag} {mg:Str→Option Value} {base:Heap} (B:Bt2 mg) (AX:Cal P w K mg base 3 "has_only" ["mask","sign"] (br K)) (Ch:Cal P w K mg base 2 "is_cell" ["floor","value"] (c7 K)) {f:Addr} {fd:FuncData} (F:Fun K "is_another_with_only" "is_another_with_only" dh f fd):FnOk P w K mg base CX0 4 f fd ["floor","masks","cell","other","mark"] (bd K):=by
 refine F.ok sc_is_another_with_only (fun vs H Q E h=>kl h) (fun cdv A outer s H vs Q E hr h=>?_)
 have hu:=hr.units
 have nd:=sc_is_another_with_only.nd
 refine ⟨b2 K,?_,km h⟩
 exact (af (ak (bz (aq Ch hr (by decide) rfl (ab (pv 0) (ab (pv 3) ac))) (bz (aN (aU hu) (pv 3) (pv 2) (ao _)) (ck (aq AX hr (by decide) rfl (ab (ai (ar hu) (pv 1) (pv 3) (fun _ _=>rfl)) (ab (pv 4) ac))))))))
abbrev lZ:Stmt:=top 99
theorem sc_cells_of:ax ["floor","name","words"] ["floor","name","words"] (aj lZ):=⟨rfl,rfl,rfl,by decide+kernel,rfl,by decide+kernel,by decide+kernel⟩
set_option maxHeartbeats 4000000 in
theorem uU {P:Program} {w:World} {K:PySem.W.Frag} {mg:Str→Option Value} {base:Heap} (B:Bt2 mg) (AM:Cal P w K mg base 1 "many_cells" ["floor"] (aR K)) (Dx:Cal P w K mg base 3 "told_cells" ["floor","words"] (cU K)) (G_OF_ALL_CELLS:GTup K mg "OF_ALL_CELLS" eK) {f:Addr} {fd:FuncData} (F:Fun K "cells_of" "cells_of" lZ f fd):FnOk P w K mg base CX0 4 f fd ["floor","name","words"] (d8 K):=by
 refine F.ok sc_cells_of (fun vs H Q E h=>uu h) (fun cdv A outer s H vs Q E hr h=>?_)
 have hu:=hr.units
 have nd:=sc_cells_of.nd
 refine ⟨jc K,?_,uv h⟩
 exact (ae (aB (vh G_OF_ALL_CELLS (pv 1) rfl) (af (ak (aq Dx hr (by decide) rfl (ab (pv 0) (ab (pv 2) ac))))) au)
   (ae (aB (ap (aU hu) (pv 2) (aO ac) (ao _)) (af bO) au)
   (af (ak (kF rfl rfl rfl B.list_ B.range_ (ab (aq AM hr (by decide) rfl (ab (pv 0) ac)) ac))))))
abbrev iz:Stmt:=top 104
theorem sc_checked_floor:ax ["floor"] ["floor"] (aj iz):=⟨rfl,rfl,rfl,by decide+kernel,rfl,by decide+kernel,by decide+kernel⟩
set_option maxHeartbeats 4000000 in
theorem pf {P:Program} {w:World} {K:PySem.W.Frag} {mg:Str→Option Value} {base:Heap} (B:Bt2 mg) (DY:Cal P w K mg base 3 "floor_of" ["high","wide","signs"] (d9 K)) {f:Addr} {fd:FuncData} (F:Fun K "checked_floor" "checked_floor" iz f fd):FnOk P w K mg base CX0 4 f fd ["floor"] (b5 K):=by
 refine F.ok sc_checked_floor (fun vs H Q E h=>oN h) (fun cdv A outer s H vs Q E hr h=>?_)
 have hu:=hr.units
 have nd:=sc_checked_floor.nd
 refine ⟨dO K,?_,oO h⟩
 exact (ae (aB (PW.pt (bY (bH (aZ (az cI rfl B.isinstance_ bq (ab (pv 0) (ab (d5 (v:=.ty "tuple") rfl B.tuple_ lu rfl) ac))))) (cj (ap (aU hu) (az aJ rfl B.len_ aQ (ab (pv 0) ac)) ad (ao _))))) (af bO) au)
   (af (ak (aq DY hr (by decide) rfl (ab (ai (ar hu) (pv 0) ad (fun _ _=>rfl)) (ab (ai (ar hu) (pv 0) ad (fun _ _=>rfl)) (ab (ai (ar hu) (pv 0) ad (fun _ _=>rfl)) ac)))))))
abbrev fZ:Stmt:=top 52
theorem sc_strikes_by_line:ax ["puzzle","masks","thought","kind","cell","sign","more","rule"] ["puzzle","masks","thought"] (aj fZ):=⟨rfl,rfl,rfl,by decide+kernel,rfl,by decide+kernel,by decide+kernel⟩
set_option maxHeartbeats 4000000 in
theorem nn {P:Program} {w:World} {K:PySem.W.Frag} {mg:Str→Option Value} {base:Heap} (B:Bt2 mg) {c:RCl RK} {d:RCl PzK} (CJ:Cal P w K mg base 1 "clue_strikes" ["clues","cell","sign","more"] (cu K)) (CK:Cal P w K mg base 4 "only_strikes" ["rule","masks","cell","sign","more"] (cw K c)) (CL:Cal P w K mg base 3 "pair_strikes" ["rule","masks","cell","sign","more"] (cz K c)) (Cl:Cal P w K mg base 4 "place_strikes" ["floor","rule","masks","cell","sign","more"] (b7 K c)) (Gk:MCal P w K mg base d d.ok 1 "clues" ["self"] (lF K c d)) (A7:MCal P w K mg base d d.ok 1 "place" ["self"] (de K c d)) (A6:MCal P w K mg base d d.ok 1 "rules" ["self"] (df K c d)) {f:Addr} {fd:FuncData} (F:Fun K "strikes_by_line" "strikes_by_line" fZ f fd):FnOk P w K mg base CX0 5 f fd ["puzzle","masks","thought"] (bw K c d):=by
 refine F.ok sc_strikes_by_line (fun vs H Q E h=>lJ h) (fun cdv A outer s H vs Q E hr h=>?_)
 have hu:=hr.units
 have nd:=sc_strikes_by_line.nd
 refine ⟨cG K c d,?_,lK h⟩
 exact (ae (aw (i:=3) nd rfl (Or.inl rfl) (ai (ar hu) (pv 2) ad (fun _ _=>rfl)))
   (ae (aw (i:=4) nd rfl (Or.inl rfl) (ai (ar hu) (pv 2) ad (fun _ _=>rfl)))
   (ae (aw (i:=5) nd rfl (Or.inl rfl) (ai (ar hu) (pv 2) ad (fun _ _=>rfl)))
   (ae (aw (i:=6) nd rfl (Or.inl rfl) (ai (ar hu) (pv 2) ad (fun _ _=>rfl)))
   (ae (aB (ap (aG hu) (pv 3) aM (ao _)) (af (ak (aq CJ hr (by decide) rfl (ab (bg Gk hr (by decide) (pv 0)) (ab (pv 4) (ab (pv 5) (ab (pv 6) ac))))))) au)
   (ae (aw (i:=7) nd rfl (Or.inl rfl) (ai (ar hu) (bg A6 hr (by decide) (pv 0)) (ai (ar hu) (pv 2) ad (fun _ _=>rfl)) (fun _ _=>rfl)))
   (ae (aB (ap (aG hu) (pv 3) aM (ao _)) (af (ak (aq CK hr (by decide) rfl (ab (pv 7) (ab (pv 1) (ab (pv 4) (ab (pv 5) (ab (pv 6) ac)))))))) au)
   (ae (aB (ap (aG hu) (pv 3) aM (ao _)) (af (ak (aq Cl hr (by decide) rfl (ab (bg A7 hr (by decide) (pv 0)) (ab (pv 7) (ab (pv 1) (ab (pv 4) (ab (pv 5) (ab (pv 6) ac))))))))) au)
   (ae (aB (ap (aG hu) (pv 3) aM (ao _)) (af (ak jm)) au)
   (af (ak (aq CL hr (by decide) rfl (ab (pv 7) (ab (pv 1) (ab (pv 4) (ab (pv 5) (ab (pv 6) ac)))))))))))))))))
abbrev gB:Stmt:=top 66
theorem sc_square_strikes:ax ["floor","rule","masks","cell","sign","more","rest"] ["floor","rule","masks","cell","sign","more"] (aj gB):=⟨rfl,rfl,rfl,by decide+kernel,rfl,by decide+kernel,by decide+kernel⟩
set_option maxHeartbeats 4000000 in
theorem oe {P:Program} {w:World} {K:PySem.W.Frag} {mg:Str→Option Value} {base:Heap} (B:Bt2 mg) {c:RCl RK} (A9:Cal P w K mg base 4 "many_only" ["some","sign"] (bS K)) (A3:Cal P w K mg base 1 "masks_at" ["masks","cells"] (bG K)) (A2:Cal P w K mg base 4 "rest_of_square" ["floor","corner","cell"] (bh K)) (Cm:MCal P w K mg base c c.ok 1 "sign" ["self"] (gF K c)) {f:Addr} {fd:FuncData} (F:Fun K "square_strikes" "square_strikes" gB f fd):FnOk P w K mg base CX0 5 f fd ["floor","rule","masks","cell","sign","more"] (bU K c):=by
 refine F.ok sc_square_strikes (fun vs H Q E h=>nZ h) (fun cdv A outer s H vs Q E hr h=>?_)
 have hu:=hr.units
 have nd:=sc_square_strikes.nd
 refine ⟨dl K c,?_,n5 h⟩
 exact (ae (aB (PW.pt (bY (ap (aU hu) (pv 4) (bg Cm hr (by decide) (pv 1)) (ao _)) (cj (ap (aU hu) (az aJ rfl B.len_ aQ (ab (pv 5) ac)) ad (ao _))))) (af (ak cE)) au)
   (ae (aw (i:=6) nd rfl (Or.inl rfl) (aq A2 hr (by decide) rfl (ab (pv 0) (ab (ai (ar hu) (pv 5) ad (fun _ _=>rfl)) (ab (pv 3) ac)))))
   (af (ak (bz (aN (aU hu) (pv 6) (aO ac) (ao _)) (ck (aN (aG hu) (aq A9 hr (by decide) rfl (ab (aq A3 hr (by decide) rfl (ab (pv 2) (ab (pv 6) ac))) (ab (pv 4) ac))) (az aJ rfl B.len_ aQ (ab (pv 6) ac)) (ao _))))))))
abbrev iA:Stmt:=top 68
theorem sc_reach_strikes:ax ["floor","rule","masks","cell","sign","more","mark","through"] ["floor","rule","masks","cell","sign","more"] (aj iA):=⟨rfl,rfl,rfl,by decide+kernel,rfl,by decide+kernel,by decide+kernel⟩
set_option maxHeartbeats 4000000 in
theorem ph {P:Program} {w:World} {K:PySem.W.Frag} {mg:Str→Option Value} {base:Heap} (B:Bt2 mg) {c:RCl RK} (Ba:Cal P w K mg base 4 "is_another_with_only" ["floor","masks","cell","other","mark"] (bd K)) (AY:Cal P w K mg base 2 "others" ["rule","cell"] (bB K c)) (DN:Cal P w K mg base 3 "reached" ["floor","cells","start"] (dU K)) (A5:Cal P w K mg base 1 "stands" ["mask","sign"] (bW K)) (Cm:MCal P w K mg base c c.ok 1 "sign" ["self"] (gF K c)) {f:Addr} {fd:FuncData} (F:Fun K "reach_strikes" "reach_strikes" iA f fd):FnOk P w K mg base CX0 5 f fd ["floor","rule","masks","cell","sign","more"] (b8 K c):=by
 refine F.ok sc_reach_strikes (fun vs H Q E h=>oT h) (fun cdv A outer s H vs Q E hr h=>?_)
 have hu:=hr.units
 have nd:=sc_reach_strikes.nd
 refine ⟨dW K c,?_,oU h⟩
 exact (ae (aw (i:=6) nd rfl (Or.inr rfl) (bg Cm hr (by decide) (pv 1)))
   (ae (aB (bH (aZ (az (kr rfl) rfl B.all_ pF (ab (bD (ix:=[none,none,some 3,some 0,some 6,some 2]) [".0","other","cell","floor","mark","masks"] (aX rfl (by decide+kernel) rfl rfl rfl) rfl (bc (pv 5)) (fun cl s H fp=>(aI (i:=1) (show ([".0","other","cell","floor","mark","masks"]:List Str).Nodup by decide+kernel) rfl (Or.inl rfl))) (fun cl s H fp=>dq) (fun cl s H fp=>(aq Ba hr (by decide) rfl (ab (pv 3) (ab (pv 5) (ab (pv 2) (ab (pv 1) (ab (pv 4) ac)))))))) ac)))) (af (ak cE)) au)
   (ae (iD (k:=7) nd rfl (Or.inl rfl) rfl (ix:=[none,none,some 6,some 2]) [".0","other","mark","masks"] (aX rfl (by decide+kernel) rfl rfl rfl) rfl (bc (aq AY hr (by decide) rfl (ab (pv 1) (ab (pv 3) ac)))) (fun cl s H fp=>(aI (i:=1) (show ([".0","other","mark","masks"]:List Str).Nodup by decide+kernel) rfl (Or.inl rfl))) (fun cl s H fp=>(cm (aZ (aq A5 hr (by decide) rfl (ab (ai (ar hu) (pv 3) (pv 1) (fun _ _=>rfl)) (ab (pv 2) ac)))))) (fun cl s H fp=>(pv 1)))
   (ae (aB (ap (aG hu) (pv 4) (pv 6) (ao _)) (af (ak (bz (aN (aG hu) (az aJ rfl B.len_ aQ (ab (pv 5) ac)) ad (ao _)) (ck (aN (fB hu) (ai (ar hu) (pv 5) ad (fun _ _=>rfl)) (aq DN hr (by decide) rfl (ab (pv 0) (ab (am aE (pv 7) (aO (ab (pv 3) ac))) (ab (pv 3) ac)))) (by with_unfolding_all rfl)))))) au)
   (ae (aB (PW.pt (bY (ap (aU hu) (az aJ rfl B.len_ aQ (ab (pv 5) ac)) ad (ao _)) (cj (ap (aG hu) (ai (ar hu) (pv 5) ad (fun _ _=>rfl)) (ai (ar hu) (pv 5) ad (fun _ _=>rfl)) (ao _))))) (af (ak cE)) au)
   (af (ak (aN (fB hu) (ai (ar hu) (pv 5) ad (fun _ _=>rfl)) (aq DN hr (by decide) rfl (ab (pv 0) (ab (pv 7) (ab (ai (ar hu) (pv 5) ad (fun _ _=>rfl)) ac)))) (by with_unfolding_all rfl)))))))))
abbrev i7:Stmt:=top 70
theorem sc_turn_strikes:ax ["floor","rule","masks","cell","sign","more","mark","some"] ["floor","rule","masks","cell","sign","more"] (aj i7):=⟨rfl,rfl,rfl,by decide+kernel,rfl,by decide+kernel,by decide+kernel⟩
set_option maxHeartbeats 4000000 in
theorem qG {P:Program} {w:World} {K:PySem.W.Frag} {mg:Str→Option Value} {base:Heap} (B:Bt2 mg) {c:RCl RK} (CM:Cal P w K mg base 3 "around" ["floor","middle","cell"] (dE K)) (A0:Cal P w K mg base 2 "beside" ["floor","cell"] (bL K)) (AX:Cal P w K mg base 3 "has_only" ["mask","sign"] (br K)) (Bb:Cal P w K mg base 2 "many_may" ["some","sign"] (cf K)) (A9:Cal P w K mg base 4 "many_only" ["some","sign"] (bS K)) (A3:Cal P w K mg base 1 "masks_at" ["masks","cells"] (bG K)) (Cm:MCal P w K mg base c c.ok 1 "sign" ["self"] (gF K c)) {f:Addr} {fd:FuncData} (F:Fun K "turn_strikes" "turn_strikes" i7 f fd):FnOk P w K mg base CX0 5 f fd ["floor","rule","masks","cell","sign","more"] (cA K c):=by
 refine F.ok sc_turn_strikes (fun vs H Q E h=>qm h) (fun cdv A outer s H vs Q E hr h=>?_)
 have hu:=hr.units
 have nd:=sc_turn_strikes.nd
 refine ⟨fq K c,?_,qo h⟩
 exact (ae (aw (i:=6) nd rfl (Or.inl rfl) (bg Cm hr (by decide) (pv 1)))
   (ae (aB (ap (aG hu) (pv 5) (aO ac) (ao _)) (ae (aw (i:=7) nd rfl (Or.inl rfl) (aq A3 hr (by decide) rfl (ab (pv 2) (ab (aq A0 hr (by decide) rfl (ab (pv 0) (ab (pv 3) ac))) ac))))
   (af (ak (bz (aN (aG hu) (pv 4) (pv 6) (ao _)) (ck (yB (aN cD (aq Bb hr (by decide) rfl (ab (pv 7) (ab (pv 6) ac))) ad (ao _)) (ck (aN fA (aq A9 hr (by decide) rfl (ab (pv 7) (ab (pv 6) ac))) ad (ao _))))))))) au)
   (ae (aB (PW.pt (bY (ap (aU hu) (az aJ rfl B.len_ aQ (ab (pv 5) ac)) ad (ao _)) (bY (ap (fB hu) (ai (ar hu) (pv 5) ad (fun _ _=>rfl)) (aq A0 hr (by decide) rfl (ab (pv 0) (ab (pv 3) ac))) (by with_unfolding_all rfl)) (cj (bH (aZ (aq AX hr (by decide) rfl (ab (ai (ar hu) (pv 2) (ai (ar hu) (pv 5) ad (fun _ _=>rfl)) (fun _ _=>rfl)) (ab (pv 6) ac))))))))) (af (ak cE)) au)
   (ae (aw (i:=7) nd rfl (Or.inl rfl) (aq A3 hr (by decide) rfl (ab (pv 2) (ab (aq CM hr (by decide) rfl (ab (pv 0) (ab (ai (ar hu) (pv 5) ad (fun _ _=>rfl)) (ab (pv 3) ac)))) ac))))
   (ae (aB (ap (aG hu) (pv 4) (pv 6) (ao _)) (af (ak (aN sI (aq A9 hr (by decide) rfl (ab (pv 7) (ab (pv 6) ac))) ad (ao _)))) au)
   (af (ak (aN cD (aq Bb hr (by decide) rfl (ab (pv 7) (ab (pv 6) ac))) ad (ao _)))))))))
abbrev ga:Stmt:=top 72
theorem sc_rests_by_region:ax ["puzzle","thought","floor","cell","more"] ["puzzle","thought"] (aj ga):=⟨rfl,rfl,rfl,by decide+kernel,rfl,by decide+kernel,by decide+kernel⟩
set_option maxHeartbeats 4000000 in
theorem no {P:Program} {w:World} {K:PySem.W.Frag} {mg:Str→Option Value} {base:Heap} (B:Bt2 mg) {c:RCl RK} {d:RCl PzK} (CM:Cal P w K mg base 3 "around" ["floor","middle","cell"] (dE K)) (A0:Cal P w K mg base 2 "beside" ["floor","cell"] (bL K)) (AM:Cal P w K mg base 1 "many_cells" ["floor"] (aR K)) (A2:Cal P w K mg base 4 "rest_of_square" ["floor","corner","cell"] (bh K)) (A7:MCal P w K mg base d d.ok 1 "place" ["self"] (de K c d)) {f:Addr} {fd:FuncData} (F:Fun K "rests_by_region" "rests_by_region" ga f fd):FnOk P w K mg base CX0 5 f fd ["puzzle","thought"] (bN K c d):=by
 refine F.ok sc_rests_by_region (fun vs H Q E h=>mY h) (fun cdv A outer s H vs Q E hr h=>?_)
 have hu:=hr.units
 have nd:=sc_rests_by_region.nd
 refine ⟨db K c d,?_,mZ h⟩
 exact (ae (aw (i:=2) nd rfl (Or.inl rfl) (bg A7 hr (by decide) (pv 0)))
   (ae (aw (i:=3) nd rfl (Or.inr rfl) (ai (ar hu) (pv 1) ad (fun _ _=>rfl)))
   (ae (aw (i:=4) nd rfl (Or.inl rfl) (ai (ar hu) (pv 1) ad (fun _ _=>rfl)))
   (ae (aB (ap (aG hu) (ai (ar hu) (pv 1) ad (fun _ _=>rfl)) aM (ao _)) (af (ak (az cN rfl B.sorted_ fC (ab (aq A2 hr (by decide) rfl (ab (pv 2) (ab (ai (ar hu) (pv 4) ad (fun _ _=>rfl)) (ab (pv 3) ac)))) ac)))) au)
   (ae (aB (ap (aG hu) (ai (ar hu) (pv 1) ad (fun _ _=>rfl)) aM (ao _)) (af (ak (bD (ix:=[none,none,some 3]) [".0","other","cell"] (aX rfl (by decide+kernel) rfl rfl rfl) rfl (bV rfl B.range_ (ab (aq AM hr (by decide) rfl (ab (pv 2) ac)) ac)) (fun cl s H fp=>(aI (i:=1) (show ([".0","other","cell"]:List Str).Nodup by decide+kernel) rfl (Or.inl rfl))) (fun cl s H fp=>(cm (ap (aU hu) (pv 1) (pv 2) (ao _)))) (fun cl s H fp=>(pv 1))))) au)
   (ae (aB (ap (aG hu) (pv 4) (aO ac) (ao _)) (af (ak (aq A0 hr (by decide) rfl (ab (pv 2) (ab (pv 3) ac))))) au)
   (af (ak (az cN rfl B.sorted_ fC (ab (am aE (aq CM hr (by decide) rfl (ab (pv 2) (ab (ai (ar hu) (pv 4) ad (fun _ _=>rfl)) (ab (pv 3) ac)))) (aO (ab (ai (ar hu) (pv 4) ad (fun _ _=>rfl)) ac))) ac))))))))))
abbrev kR:Stmt:=top 101
theorem sc_read_rule:ax ["floor","line","words","name","rest","amount","mark"] ["floor","line"] (aj kR):=⟨rfl,rfl,rfl,by decide+kernel,rfl,by decide+kernel,by decide+kernel⟩
set_option maxHeartbeats 4000000 in
theorem ui {P:Program} {w:World} {K:PySem.W.Frag} {mg:Str→Option Value} {base:Heap} (B:Bt2 mg) {c:RCl RK} (DZ:Cal P w K mg base 4 "cells_of" ["floor","name","words"] (d8 K)) (BG:Cal P w K mg base 3 "first_within" ["words","least","most"] (bA K)) (EK:Cal P w K mg base 3 "rule_by" ["floor","words","cells","amount","mark"] (fU K c)) {t_MOST_NUMBER:Tok} (C0:mg "MOST_NUMBER"=some (.int 99 t_MOST_NUMBER)) (G_WITH_NUMBER:GTup K mg "WITH_NUMBER" fT) (G_WITH_SIGN:GTup K mg "WITH_SIGN" fG) {f:Addr} {fd:FuncData} (F:Fun K "read_rule" "read_rule" kR f fd):FnOk P w K mg base CX0 5 f fd ["floor","line"] (dy K c):=by
 refine F.ok sc_read_rule (fun vs H Q E h=>tF h) (fun cdv A outer s H vs Q E hr h=>?_)
 have hu:=hr.units
 have nd:=sc_read_rule.nd
 refine ⟨ia K c,?_,tG h⟩
 exact (ae (aB (bH (aZ (az cI rfl B.isinstance_ bq (ab (pv 1) (ab (d5 (v:=.ty "str") rfl B.str_ mD rfl) ac))))) (af bO) au)
   (ae (aw (i:=2) nd rfl (Or.inl rfl) (bZ PySem.F.plainAttrs_str PySem.F.slot_str_split PySem.F.type_str_split wX (pv 1) (ab aM ac)))
   (ae (aw (i:=3) nd rfl (Or.inl rfl) (ai (ar hu) (pv 2) ad (fun _ _=>rfl)))
   (ae (aw (i:=4) nd rfl (Or.inl rfl) (ot vG (pv 2) (qK ad) qJ))
   (ae (aw (i:=5) nd rfl (Or.inl rfl) ad)
   (ae (aw (i:=6) nd rfl (Or.inl rfl) ad)
   (ae (aB (lf G_WITH_NUMBER (pv 3) rfl) (ae (aw (i:=5) nd rfl (Or.inl rfl) (aq BG hr (by decide) rfl (ab (pv 4) (ab ad (ab (dm rfl C0 ⟨t_MOST_NUMBER,rfl⟩) ac)))))
   (af (aw (i:=4) nd rfl (Or.inl rfl) (ot vG (pv 4) (qK ad) qJ)))) au)
   (ae (aB (lf G_WITH_SIGN (pv 3) rfl) (ae (aw (i:=6) nd rfl (Or.inl rfl) (aq BG hr (by decide) rfl (ab (pv 4) (ab ad (ab (ai (ar hu) (pv 0) ad (fun _ _=>rfl)) ac)))))
   (af (aw (i:=4) nd rfl (Or.inl rfl) (ot vG (pv 4) (qK ad) qJ)))) au)
   (af (ak (aq EK hr (by decide) rfl (ab (pv 0) (ab (pv 2) (ab (aq DZ hr (by decide) rfl (ab (pv 0) (ab (pv 3) (ab (pv 4) ac)))) (ab (pv 5) (ab (pv 6) ac))))))))))))))))
abbrev eI:Stmt:=top 71
theorem sc_strikes_by_region:ax ["puzzle","masks","thought","floor","rule"] ["puzzle","masks","thought"] (aj eI):=⟨rfl,rfl,rfl,by decide+kernel,rfl,by decide+kernel,by decide+kernel⟩
set_option maxHeartbeats 4000000 in
theorem l8 {P:Program} {w:World} {K:PySem.W.Frag} {mg:Str→Option Value} {base:Heap} (B:Bt2 mg) {c:RCl RK} {d:RCl PzK} (Cn:Cal P w K mg base 5 "reach_strikes" ["floor","rule","masks","cell","sign","more"] (b8 K c)) (B0:Cal P w K mg base 5 "square_strikes" ["floor","rule","masks","cell","sign","more"] (bU K c)) (CN:Cal P w K mg base 5 "turn_strikes" ["floor","rule","masks","cell","sign","more"] (cA K c)) (A7:MCal P w K mg base d d.ok 1 "place" ["self"] (de K c d)) (A6:MCal P w K mg base d d.ok 1 "rules" ["self"] (df K c d)) {f:Addr} {fd:FuncData} (F:Fun K "strikes_by_region" "strikes_by_region" eI f fd):FnOk P w K mg base CX0 6 f fd ["puzzle","masks","thought"] (bf K c d):=by
 refine F.ok sc_strikes_by_region (fun vs H Q E h=>kG h) (fun cdv A outer s H vs Q E hr h=>?_)
 have hu:=hr.units
 have nd:=sc_strikes_by_region.nd
 refine ⟨cg K c d,?_,kH h⟩
 exact (ae (aw (i:=3) nd rfl (Or.inl rfl) (bg A7 hr (by decide) (pv 0)))
   (ae (aw (i:=4) nd rfl (Or.inl rfl) (ai (ar hu) (bg A6 hr (by decide) (pv 0)) (ai (ar hu) (pv 2) ad (fun _ _=>rfl)) (fun _ _=>rfl)))
   (ae (aB (ap (aG hu) (ai (ar hu) (pv 2) ad (fun _ _=>rfl)) aM (ao _)) (af (ak (aq B0 hr (by decide) rfl (ab (pv 3) (ab (pv 4) (ab (pv 1) (ab (ai (ar hu) (pv 2) ad (fun _ _=>rfl)) (ab (ai (ar hu) (pv 2) ad (fun _ _=>rfl)) (ab (ai (ar hu) (pv 2) ad (fun _ _=>rfl)) ac))))))))) au)
   (ae (aB (ap (aG hu) (ai (ar hu) (pv 2) ad (fun _ _=>rfl)) aM (ao _)) (af (ak (aq Cn hr (by decide) rfl (ab (pv 3) (ab (pv 4) (ab (pv 1) (ab (ai (ar hu) (pv 2) ad (fun _ _=>rfl)) (ab (ai (ar hu) (pv 2) ad (fun _ _=>rfl)) (ab (ai (ar hu) (pv 2) ad (fun _ _=>rfl)) ac))))))))) au)
   (af (ak (aq CN hr (by decide) rfl (ab (pv 3) (ab (pv 4) (ab (pv 1) (ab (ai (ar hu) (pv 2) ad (fun _ _=>rfl)) (ab (ai (ar hu) (pv 2) ad (fun _ _=>rfl)) (ab (ai (ar hu) (pv 2) ad (fun _ _=>rfl)) ac)))))))))))))
abbrev l9:Stmt:=top 76
theorem sc_rests_on:ax ["puzzle","thought"] ["puzzle","thought"] (aj l9):=⟨rfl,rfl,rfl,by decide+kernel,rfl,by decide+kernel,by decide+kernel⟩
set_option maxHeartbeats 4000000 in
theorem uV {P:Program} {w:World} {K:PySem.W.Frag} {mg:Str→Option Value} {base:Heap} (B:Bt2 mg) {c:RCl RK} {d:RCl PzK} (Co:Cal P w K mg base 3 "rests_by_line" ["puzzle","thought"] (cc K c d)) (BH:Cal P w K mg base 5 "rests_by_region" ["puzzle","thought"] (bN K c d)) (G_LINE_KINDS:GTup K mg "LINE_KINDS" cX) (G_NUMBER_KINDS:GTup K mg "NUMBER_KINDS" cq) {f:Addr} {fd:FuncData} (F:Fun K "rests_on" "rests_on" l9 f fd):FnOk P w K mg base CX0 6 f fd ["puzzle","thought"] (dg K c d):=by
 refine F.ok sc_rests_on (fun vs H Q E h=>uL h) (fun cdv A outer s H vs Q E hr h=>?_)
 have hu:=hr.units
 have nd:=sc_rests_on.nd
 refine ⟨jj K c d,?_,uM h⟩
 exact (ae (aB (lf G_LINE_KINDS (ai (ar hu) (pv 1) ad (fun _ _=>rfl)) rfl) (af (ak (aq Co hr (by decide) rfl (ab (pv 0) (ab (pv 1) ac))))) au)
   (ae (aB (lf G_NUMBER_KINDS (ai (ar hu) (pv 1) ad (fun _ _=>rfl)) rfl) (af (ak jm)) au)
   (af (ak (aq BH hr (by decide) rfl (ab (pv 0) (ab (pv 1) ac)))))))
abbrev ki:Stmt:=top 105
theorem sc_read_rules:ax ["floor","lines"] ["floor","lines"] (aj ki):=⟨rfl,rfl,rfl,by decide+kernel,rfl,by decide+kernel,by decide+kernel⟩
set_option maxHeartbeats 4000000 in
theorem sh {P:Program} {w:World} {K:PySem.W.Frag} {mg:Str→Option Value} {base:Heap} (B:Bt2 mg) {c:RCl RK} (DT:Cal P w K mg base 5 "read_rule" ["floor","line"] (dy K c)) {t_MOST_RULES:Tok} (Dy:mg "MOST_RULES"=some (.int 12 t_MOST_RULES)) {f:Addr} {fd:FuncData} (F:Fun K "read_rules" "read_rules" ki f fd):FnOk P w K mg base CX0 6 f fd ["floor","lines"] (cV K c):=by
 refine F.ok sc_read_rules (fun vs H Q E h=>rP h) (fun cdv A outer s H vs Q E hr h=>?_)
 have hu:=hr.units
 have nd:=sc_read_rules.nd
 refine ⟨gq K c,?_,rQ h⟩
 exact (ae (aB (ap fA (az aJ rfl B.len_ aQ (ab (pv 1) ac)) (dm rfl Dy ⟨t_MOST_RULES,rfl⟩) (ao _)) (af bO) au)
   (af (ak (bD (ix:=[none,none,some 0]) [".0","line","floor"] (aX rfl (by decide+kernel) rfl rfl rfl) rfl (bc (pv 1)) (fun cl s H fp=>(aI (i:=1) (show ([".0","line","floor"]:List Str).Nodup by decide+kernel) rfl (Or.inl rfl))) (fun cl s H fp=>dq) (fun cl s H fp=>(aq DT hr (by decide) rfl (ab (pv 2) (ab (pv 1) ac))))))))
abbrev nq:Stmt:=top 74
theorem sc_strikes:ax ["puzzle","masks","thought"] ["puzzle","masks","thought"] (aj nq):=⟨rfl,rfl,rfl,by decide+kernel,rfl,by decide+kernel,by decide+kernel⟩
set_option maxHeartbeats 4000000 in
theorem wr {P:Program} {w:World} {K:PySem.W.Frag} {mg:Str→Option Value} {base:Heap} (B:Bt2 mg) {c:RCl RK} {d:RCl PzK} (BK:Cal P w K mg base 5 "strikes_by_line" ["puzzle","masks","thought"] (bw K c d)) (Be:Cal P w K mg base 6 "strikes_by_region" ["puzzle","masks","thought"] (bf K c d)) (G_LINE_KINDS:GTup K mg "LINE_KINDS" cX) (G_NUMBER_KINDS:GTup K mg "NUMBER_KINDS" cq) {f:Addr} {fd:FuncData} (F:Fun K "strikes" "strikes" nq f fd):FnOk P w K mg base CX0 7 f fd ["puzzle","masks","thought"] (dB K c d):=by
 refine F.ok sc_strikes (fun vs H Q E h=>tR h) (fun cdv A outer s H vs Q E hr h=>?_)
 have hu:=hr.units
 have nd:=sc_strikes.nd
 refine ⟨ii K c d,?_,tS h⟩
 exact (ae (aB (lf G_LINE_KINDS (ai (ar hu) (pv 2) ad (fun _ _=>rfl)) rfl) (af (ak (aq BK hr (by decide) rfl (ab (pv 0) (ab (pv 1) (ab (pv 2) ac)))))) au)
   (ae (aB (lf G_NUMBER_KINDS (ai (ar hu) (pv 2) ad (fun _ _=>rfl)) rfl) (af (ak jm)) au)
   (af (ak (aq Be hr (by decide) rfl (ab (pv 0) (ab (pv 1) (ab (pv 2) ac))))))))
abbrev gb:Stmt:=mtop 108 0
theorem sc_Puzzle___init__:ax ["self","floor","lines","clues"] ["self","floor","lines","clues"] (aj gb):=⟨rfl,rfl,rfl,by decide+kernel,rfl,by decide+kernel,by decide+kernel⟩
set_option maxHeartbeats 4000000 in
theorem nr {P:Program} {w:World} {K:PySem.W.Frag} {mg:Str→Option Value} {base:Heap} (B:Bt2 mg) {c:RCl RK} {d:RCl PzK} (Cp:Cal P w K mg base 3 "checked_clues" ["floor","clues"] (b6 K)) (Cq:Cal P w K mg base 4 "checked_floor" ["floor"] (b5 K)) (Dz:Cal P w K mg base 6 "read_rules" ["floor","lines"] (cV K c)) (FK_d_floor:FldK K d "floor") (FK_d_given:FldK K d "given") (FK_d_laws:FldK K d "laws") {f:Addr} {fd:FuncData} (F:Fun K "__init__" "Puzzle.__init__" gb f fd):FnOk P w K mg base CX0 7 f fd ["self","floor","lines","clues"] (bb K c d):=by
 refine F.ok sc_Puzzle___init__ (fun vs H Q E h=>mN h) (fun cdv A outer s H vs Q E hr h=>?_)
 have hu:=hr.units
 have nd:=sc_Puzzle___init__.nd
 refine ⟨c6 K c d,?_,mO h⟩
 exact (ae (gE (pv 0) (aq Cq hr (by decide) rfl (ab (pv 1) ac)) FK_d_floor)
   (ae (gE (pv 0) (aq Dz hr (by decide) rfl (ab (gD (pv 0) FK_d_floor) (ab (pv 2) ac))) FK_d_laws)
   (af (gE (pv 0) (aq Cp hr (by decide) rfl (ab (gD (pv 0) FK_d_floor) (ab (pv 3) ac))) FK_d_given))))
abbrev kj:Stmt:=top 122
theorem sc__law_rests:ax ["_law_puzzle_here","_law_thought","_law_due_here","_law_found"] ["_law_puzzle_here","_law_thought","_law_due_here"] (aj kj):=⟨rfl,rfl,rfl,by decide+kernel,rfl,by decide+kernel,by decide+kernel⟩
set_option maxHeartbeats 4000000 in
theorem si {P:Program} {w:World} {K:PySem.W.Frag} {mg:Str→Option Value} {base:Heap} (B:Bt2 mg) {c:RCl RK} {d:RCl PzK} (Dt:Cal P w K mg base 6 "rests_on" ["puzzle","thought"] (dg K c d)) {f:Addr} {fd:FuncData} (F:Fun K "_law_rests" "_law_rests" kj f fd):FnOk P w K mg base CX0 7 f fd ["_law_puzzle_here","_law_thought","_law_due_here"] (cC K c d):=by
 refine F.ok sc__law_rests (fun vs H Q E h=>qu h) (fun cdv A outer s H vs Q E hr h=>?_)
 have hu:=hr.units
 have nd:=sc__law_rests.nd
 refine ⟨fu K c d,?_,qv h⟩
 exact (ae (aw (i:=3) nd rfl (Or.inl rfl) (aq Dt hr (by decide) rfl (ab (pv 0) (ab (pv 1) ac))))
   (ae (aB (PW.pt (bY (bH (aZ (az cI rfl B.isinstance_ bq (ab (pv 3) (ab (d5 (v:=.ty "list") rfl B.list_ d7 rfl) ac))))) (cj (ap (aU hu) (pv 3) (pv 2) (ao _))))) (af (ak cE)) au)
   (ae (aB (ap (aU hu) (bD (ix:=[none,none]) [".0","_law_one"] (aX rfl (by decide+kernel) rfl rfl rfl) rfl (bc (pv 3)) (fun cl s H fp=>(aI (i:=1) (show ([".0","_law_one"]:List Str).Nodup by decide+kernel) rfl (Or.inl rfl))) (fun cl s H fp=>(cm (PW.pt (bY (bH (aZ (az cI rfl B.isinstance_ bq (ab (pv 1) (ab (d5 (v:=.ty "int") rfl B.int_ sJ rfl) ac))))) (cj (aZ (az cI rfl B.isinstance_ bq (ab (pv 1) (ab (d5 (v:=.ty "bool") rfl B.bool_ vc rfl) ac))))))))) (fun cl s H fp=>(pv 1))) (aO ac) (ao _)) (af (ak cE)) au)
   (ae (bI (bZ PySem.F.plainAttrs_list PySem.F.slot_list_append PySem.F.type_list_append aY (pv 3) (ab ad ac)))
   (af (ak (aN (aG hu) (aq Dt hr (by decide) rfl (ab (pv 0) (ab (pv 1) ac))) (pv 2) (ao _))))))))
abbrev nt:Stmt:=top 75
theorem sc_allowed:ax ["puzzle","masks","thought"] ["puzzle","masks","thought"] (aj nt):=⟨rfl,rfl,rfl,by decide+kernel,rfl,by decide+kernel,by decide+kernel⟩
set_option maxHeartbeats 4000000 in
theorem wt {P:Program} {w:World} {K:PySem.W.Frag} {mg:Str→Option Value} {base:Heap} (B:Bt2 mg) {c:RCl RK} {d:RCl PzK} (DU:Cal P w K mg base 4 "is_formed" ["puzzle","thought"] (dz K c d)) (EL:Cal P w K mg base 7 "strikes" ["puzzle","masks","thought"] (dB K c d)) {f:Addr} {fd:FuncData} (F:Fun K "allowed" "allowed" nt f fd):FnOk P w K mg base CX0 8 f fd ["puzzle","masks","thought"] (cP K c d):=by
 refine F.ok sc_allowed (fun vs H Q E h=>tT h) (fun cdv A outer s H vs Q E hr h=>?_)
 have hu:=hr.units
 have nd:=sc_allowed.nd
 refine ⟨ij K c d,?_,tU h⟩
 exact (af (ak (bz (aq DU hr (by decide) rfl (ab (pv 0) (ab (pv 2) ac))) (ck (aq EL hr (by decide) rfl (ab (pv 0) (ab (pv 1) (ab (pv 2) ac))))))))
abbrev jo:Stmt:=top 116
theorem sc__law_puzzle:ax ["_law_script","_law_floor_here","_law_lists_here","_law_goals","_law_lines","_law_clues"] ["_law_script","_law_floor_here","_law_lists_here","_law_goals"] (aj jo):=⟨rfl,rfl,rfl,by decide+kernel,rfl,by decide+kernel,by decide+kernel⟩
set_option maxHeartbeats 4000000 in
theorem qX {P:Program} {w:World} {K:PySem.W.Frag} {mg:Str→Option Value} {base:Heap} (B:Bt2 mg) {c:RCl RK} {d:RCl PzK} (AK:Cal P w K mg base 1 "_law_cell_at" ["_law_script","_law_k"] (aL K)) (FC:KCal P w K mg base 7 "Puzzle" (d.A .Puzzle) ["self","floor","lines","clues"] (bb K c d)) {f:Addr} {fd:FuncData} (F:Fun K "_law_puzzle" "_law_puzzle" jo f fd):FnOk P w K mg base CX0 9 f fd ["_law_script","_law_floor_here","_law_lists_here","_law_goals"] (ca K c d):=by
 refine F.ok sc__law_puzzle (fun vs H Q E h=>oV h) (fun cdv A outer s H vs Q E hr h=>?_)
 have hu:=hr.units
 have nd:=sc__law_puzzle.nd
 refine ⟨dX K c d,?_,oW h⟩
 exact (ae (iD (k:=4) nd rfl (Or.inl rfl) rfl (ix:=[none,none]) [".0","_law_cells_here"] (aX rfl (by decide+kernel) rfl rfl rfl) rfl (bc (pv 2)) (fun cl s H fp=>(aI (i:=1) (show ([".0","_law_cells_here"]:List Str).Nodup by decide+kernel) rfl (Or.inl rfl))) (fun cl s H fp=>dq) (fun cl s H fp=>(am aE aM (bZ PySem.F.plainAttrs_str PySem.F.slot_str_join PySem.F.type_str_join xm aM (ab (bD (ix:=[none,none]) [".0","_law_one"] (aX rfl (by decide+kernel) rfl rfl rfl) rfl (bc (pv 1)) (fun cl s H fp=>(aI (i:=1) (show ([".0","_law_one"]:List Str).Nodup by decide+kernel) rfl (Or.inl rfl))) (fun cl s H fp=>dq) (fun cl s H fp=>(bJ ku rfl B.str_ mD (ab (pv 1) ac)))) ac)))))
   (ae (aw (i:=4) nd rfl (Or.inl rfl) (am aE (pv 4) (aO (ab (am aE aM (bJ ku rfl B.str_ mD (ab (ai (ar hu) (pv 3) ad (fun _ _=>rfl)) ac))) (ab (am aE aM (bJ ku rfl B.str_ mD (ab (ai (ar hu) (pv 3) ad (fun _ _=>rfl)) ac))) (ab (am aE aM (bJ ku rfl B.str_ mD (ab (ai (ar hu) (pv 3) ad (fun _ _=>rfl)) ac))) ac))))))
   (ae (iD (k:=5) nd rfl (Or.inl rfl) rfl (ix:=[none,none,some 1,some 0]) [".0","_law_k","_law_floor_here","_law_script"] (aX rfl (by decide+kernel) rfl rfl rfl) rfl (bV rfl B.range_ (ab (am bE (ai (ar hu) (pv 1) ad (fun _ _=>rfl)) (ai (ar hu) (pv 1) ad (fun _ _=>rfl))) ac)) (fun cl s H fp=>(aI (i:=1) (show ([".0","_law_k","_law_floor_here","_law_script"]:List Str).Nodup by decide+kernel) rfl (Or.inl rfl))) (fun cl s H fp=>dq) (fun cl s H fp=>(am aT (am bu (aq AK hr (by decide) rfl (ab (pv 3) (ab (am aE ad (pv 1)) ac))) ad) (am aE (ai (ar hu) (pv 2) ad (fun _ _=>rfl)) ad))))
   (af (ak (jK FC hr (by decide) rfl (ab (pv 1) (ab (pv 4) (ab (pv 5) ac)))))))))
abbrev nR:Stmt:=top 123
theorem sc_law:ax ["_law_script","_law_floor_here","_law_many","_law_lists_here","_law_k","_law_goals","_law_puzzle_here","_law_masks_here","_law_number","_law_cell","_law_sign","_law_some","_law_thought","_law_due_here","_law_beside_them"] ["_law_script"] (aj nR):=⟨rfl,rfl,rfl,by decide+kernel,rfl,by decide+kernel,by decide+kernel⟩
set_option maxHeartbeats 4000000 in
theorem Ah {P:Program} {w:World} {K:PySem.W.Frag} {mg:Str→Option Value} {base:Heap} (B:Bt2 mg) {c:RCl RK} {d:RCl PzK} (Cr:Cal P w K mg base 1 "_law_by_lines" ["_law_number","_law_lists_here","_law_cell","_law_sign","_law_signs"] (bM K)) (BL:Cal P w K mg base 2 "_law_by_regions" ["_law_number","_law_floor_here","_law_masks_here","_law_goals","_law_cell","_law_sign"] (bx K)) (AK:Cal P w K mg base 1 "_law_cell_at" ["_law_script","_law_k"] (aL K)) (D0:Cal P w K mg base 2 "_law_due" ["_law_thought","_law_floor_here","_law_lists_here"] (cY K)) (B1:Cal P w K mg base 2 "_law_elsewhere" ["_law_script","_law_masks_here","_law_rests_here","_law_signs","_law_at"] (bF K)) (DA:Cal P w K mg base 1 "_law_floor" ["_law_cell"] (cx K)) (DB:Cal P w K mg base 3 "_law_lists" ["_law_script","_law_floor_here"] (cB K)) (DC:Cal P w K mg base 2 "_law_masks" ["_law_script","_law_at","_law_many","_law_signs"] (cy K)) (C2:Cal P w K mg base 9 "_law_puzzle" ["_law_script","_law_floor_here","_law_lists_here","_law_goals"] (ca K c d)) (DD:Cal P w K mg base 7 "_law_rests" ["_law_puzzle_here","_law_thought","_law_due_here"] (cC K c d)) (DO:Cal P w K mg base 8 "allowed" ["puzzle","masks","thought"] (cP K c d)) {f:Addr} {fd:FuncData} (F:Fun K "law" "law" nR f fd):FnOk P w K mg base CX0 10 f fd ["_law_script"] (tZ K c d):=by
 refine F.ok sc_law (fun vs H Q E h=>Af h) (fun cdv A outer s H vs Q E hr h=>?_)
 have hu:=hr.units
 have nd:=sc_law.nd
 refine ⟨qw K c d,?_,Ag h⟩
 exact (ae (aw (i:=1) nd rfl (Or.inr rfl) (aq DA hr (by decide) rfl (ab (aq AK hr (by decide) rfl (ab (pv 0) (ab ad ac))) ac)))
   (ae (aw (i:=2) nd rfl (Or.inl rfl) (am bE (ai (ar hu) (pv 1) ad (fun _ _=>rfl)) (ai (ar hu) (pv 1) ad (fun _ _=>rfl))))
   (ae (aw (i:=3) nd rfl (Or.inl rfl) (aq DB hr (by decide) rfl (ab (pv 0) (ab (pv 1) ac))))
   (ae (iD (k:=5) nd rfl (Or.inl rfl) rfl (ix:=[none,none,some 1,some 0]) [".0","_law_k","_law_floor_here","_law_script"] (aX rfl (by decide+kernel) rfl rfl rfl) rfl (bV rfl B.range_ (ab ad ac)) (fun cl s H fp=>(aI (i:=1) (show ([".0","_law_k","_law_floor_here","_law_script"]:List Str).Nodup by decide+kernel) rfl (Or.inl rfl))) (fun cl s H fp=>dq) (fun cl s H fp=>(am aE ad (am aT (aq AK hr (by decide) rfl (ab (pv 3) (ab (am aE ad (pv 1)) ac))) (ai (ar hu) (pv 2) ad (fun _ _=>rfl))))))
   (ae (aw (i:=6) nd rfl (Or.inl rfl) (aq C2 hr (by decide) rfl (ab (pv 0) (ab (pv 1) (ab (pv 3) (ab (pv 5) ac))))))
   (ae (aw (i:=7) nd rfl (Or.inl rfl) (aq DC hr (by decide) rfl (ab (pv 0) (ab ad (ab (pv 2) (ab (ai (ar hu) (pv 1) ad (fun _ _=>rfl)) ac))))))
   (ae (dZ PassesOwn.never rfl (bV rfl B.range_ (ab ad ac)) (aI (i:=4) nd rfl (Or.inl rfl))
   (ae (aw (i:=8) nd rfl (Or.inl rfl) (aq AK hr (by decide) rfl (ab (pv 0) (ab (am aE ad (pv 4)) ac))))
   (ae (aw (i:=9) nd rfl (Or.inl rfl) (am aT (pv 8) (pv 2)))
   (ae (aw (i:=10) nd rfl (Or.inl rfl) (am aE ad (am aT (am bu (pv 8) ad) (ai (ar hu) (pv 1) ad (fun _ _=>rfl)))))
   (ae (aw (i:=11) nd rfl (Or.inl rfl) (aq Cr hr (by decide) rfl (ab (am bu (pv 8) ad) (ab (pv 3) (ab (pv 9) (ab (pv 10) (ab (ai (ar hu) (pv 1) ad (fun _ _=>rfl)) ac)))))))
   (af (dZ PassesOwn.never rfl (bc (am aE (pv 11) (aq BL hr (by decide) rfl (ab (am bu (pv 8) ad) (ab (pv 1) (ab (pv 7) (ab (pv 5) (ab (pv 9) (ab (pv 10) ac))))))))) (aI (i:=12) nd rfl (Or.inl rfl))
   (ae (aw (i:=13) nd rfl (Or.inl rfl) (aq D0 hr (by decide) rfl (ab (pv 12) (ab (pv 1) (ab (pv 3) ac)))))
   (ae (aB (bH (aZ (aq DD hr (by decide) rfl (ab (pv 6) (ab (pv 12) (ab (pv 13) ac)))))) (af (ak cE)) au)
   (ae (aw (i:=14) nd rfl (Or.inl rfl) (aq B1 hr (by decide) rfl (ab (pv 0) (ab (pv 7) (ab (pv 13) (ab (ai (ar hu) (pv 1) ad (fun _ _=>rfl)) (ab (am aE ad (am bE ad (pv 4))) ac)))))))
   (af (aB (ap (aU hu) (aq DO hr (by decide) rfl (ab (pv 6) (ab (pv 7) (ab (pv 12) ac)))) (aq DO hr (by decide) rfl (ab (pv 6) (ab (pv 14) (ab (pv 12) ac)))) (ao _)) (af (ak cE)) au))))))))))))
   (af (ak cE)))))))))
def mkC (AN AZ AO AU AS AQ AL AV:Addr):RCl RK:=⟨fun k=>match k with | .Rule=>AN | .Unlike=>AN | .Sum=>AZ | .Rising=>AO | .Seen=>AU | .Count=>AS | .Joined=>AQ | .NoSquare=>AL | .Ring=>AV,fun k=>match k with | .Rule=>false | _=>true⟩
def mkD (AR:Addr):RCl PzK:=⟨fun _=>AR,fun _=>true⟩
set_option maxHeartbeats 40000000 in
theorem Ai {l:PySem.W.OpenLaw} {w:World} {K:PySem.W.Frag} {h:Heap} {mg:Str→Option Value} {fa:Addr} (X:K.In h) (G:h.Ns mainGlobals mg) (hfa:mg "law"=some (.ref fa))
  {f0 f1 f2 f3 f4 f5 f6 f7 f8 f9 f10 f11 f12 f13 f14 f15 f16 f17 f18 f19 f20 f21 f22 f23 f24 f25 f26 f27 f28 f29 f30 f31 f32 f33 f34 f35 f36 f37 f38 f39 f40 f41 f42 f43 f44 f45 f46 f47 f48 f49 f50 f51 f52 f53 f54 f55 f56 f57 f58 f59 f60 f61 f62 f63 f64 f65 f66 f67 f68 f69 f70 f71 f72 f73 f74:Addr} {fd0 fd1 fd2 fd3 fd4 fd5 fd6 fd7 fd8 fd9 fd10 fd11 fd12 fd13 fd14 fd15 fd16 fd17 fd18 fd19 fd20 fd21 fd22 fd23 fd24 fd25 fd26 fd27 fd28 fd29 fd30 fd31 fd32 fd33 fd34 fd35 fd36 fd37 fd38 fd39 fd40 fd41 fd42 fd43 fd44 fd45 fd46 fd47 fd48 fd49 fd50 fd51 fd52 fd53 fd54 fd55 fd56 fd57 fd58 fd59 fd60 fd61 fd62 fd63 fd64 fd65 fd66 fd67 fd68 fd69 fd70 fd71 fd72 fd73 fd74:FuncData} {AN AZ AO AU AS AQ AL AV AR:Addr} {FD:Addr} {GV:Option Addr} {GW:Nat} {GX:Array (Option Value)} {GY GZ G0 G1 G2 G3 t6_KINDS t7_KINDS t8_KINDS t9_KINDS t10_KINDS:Tok} {C3:Addr} {GB:Option Addr} {GC:Nat} {GD:Array (Option Value)} {GE GF GG GH GI:Tok} {Cs:Addr} {FX:Option Addr} {FY:Nat} {FZ:Array (Option Value)} {Ga Gb Gc:Tok} {Ct:Addr} {Gd:Option Addr} {Ge:Nat} {Gf:Array (Option Value)} {Gg Gh Gi:Tok} {CO:Addr} {Gm:Option Addr} {Gn:Nat} {Go:Array (Option Value)} {Gp Gq Gr:Tok} {DE:Addr} {GM:Option Addr} {GN:Nat} {GO:Array (Option Value)} {GP GQ GR GS:Tok} {B2:Addr} {FE:Nat} {Da:Int} {Fg:Tok} {Db:Addr} {EM:Option Addr} {Fh:Nat} {EN:Array (Option Value)} {Ew:Tok} {Dc:Int} {Fi:Tok} {De:Addr} {EO:Option Addr} {Fj:Nat} {EQ:Array (Option Value)} {Ex:Tok} {Df:Int} {Fk:Tok} {Dg:Addr} {ER:Option Addr} {Fl:Nat} {ES:Array (Option Value)} {Ey:Tok} {Dh:Int} {Fm:Tok} {Di:Addr} {ET:Option Addr} {Fn:Nat} {EU:Array (Option Value)} {Ez:Tok} {Dj:Int} {Fo:Tok} {Dk:Addr} {EV:Option Addr} {Fp:Nat} {EW:Array (Option Value)} {EA:Tok} {Dl:Int} {Fq:Tok} {Dm:Addr} {EX:Option Addr} {Fr:Nat} {EY:Array (Option Value)} {EB:Tok} {Dn:Int} {Fs:Tok} {Do:Addr} {EZ:Option Addr} {Ft:Nat} {E2:Array (Option Value)} {EC ED:Tok} {Dp:Int} {Fu:Tok} {Dq:Addr} {E3:Option Addr} {Fv:Nat} {E4:Array (Option Value)} {EE:Tok} {Dr:Int} {Fw:Tok} {Ds:Addr} {E5:Option Addr} {Fx:Nat} {E6:Array (Option Value)} {EF:Tok} {tk_FIGURES:Tok} {tk_MOST_CELLS:Tok} {tk_MOST_FIGURES:Tok} {tk_MOST_NUMBER:Tok} {tk_MOST_RULES:Tok} {tk_MOST_SIDE:Tok} {tk_MOST_SIGNS:Tok}
  (FF:PySem.W.nsIn K mainGlobals "Unlike"=some (some (.ref AN))) (q_Sum:PySem.W.nsIn K mainGlobals "Sum"=some (some (.ref AZ))) (FG:PySem.W.nsIn K mainGlobals "Rising"=some (some (.ref AO))) (GT:PySem.W.nsIn K mainGlobals "Seen"=some (some (.ref AU))) (Gs:PySem.W.nsIn K mainGlobals "Count"=some (some (.ref AS))) (FH:PySem.W.nsIn K mainGlobals "Joined"=some (some (.ref AQ))) (D1:PySem.W.nsIn K mainGlobals "NoSquare"=some (some (.ref AL))) (GU:PySem.W.nsIn K mainGlobals "Ring"=some (some (.ref AV))) (FI:PySem.W.nsIn K mainGlobals "Puzzle"=some (some (.ref AR))) (a0:PySem.W.nsIn K mainGlobals "is_whole"=some (some (.ref f0))) (a1:PySem.W.nsIn K mainGlobals "many_cells"=some (some (.ref f1))) (a2:PySem.W.nsIn K mainGlobals "spot_of"=some (some (.ref f2))) (a3:PySem.W.nsIn K mainGlobals "square_at"=some (some (.ref f3))) (a4:PySem.W.nsIn K mainGlobals "bit_of"=some (some (.ref f4))) (a5:PySem.W.nsIn K mainGlobals "stands"=some (some (.ref f5))) (a6:PySem.W.nsIn K mainGlobals "masks_at"=some (some (.ref f6))) (a7:PySem.W.nsIn K mainGlobals "clue_strikes"=some (some (.ref f7))) (a8:PySem.W.nsIn K mainGlobals "are_told_in_order"=some (some (.ref f8))) (D2:PySem.W.findIn K (.ref AN) "__init__"=some (some (.ref f9))) (Gu:PySem.W.findIn K (.ref AZ) "__init__"=some (some (.ref f9))) (D3:PySem.W.findIn K (.ref AO) "__init__"=some (some (.ref f9))) (FJ:PySem.W.findIn K (.ref AU) "__init__"=some (some (.ref f9))) (E7:PySem.W.findIn K (.ref AS) "__init__"=some (some (.ref f9))) (D4:PySem.W.findIn K (.ref AQ) "__init__"=some (some (.ref f9))) (DF:PySem.W.findIn K (.ref AL) "__init__"=some (some (.ref f9))) (FK:PySem.W.findIn K (.ref AV) "__init__"=some (some (.ref f9))) (a10_Unlike:PySem.W.findIn K (.ref AN) "name"=some (some (.ref f10))) (a10_Sum:PySem.W.findIn K (.ref AZ) "name"=some (some (.ref f10))) (a10_Rising:PySem.W.findIn K (.ref AO) "name"=some (some (.ref f10))) (a10_Seen:PySem.W.findIn K (.ref AU) "name"=some (some (.ref f10))) (a10_Count:PySem.W.findIn K (.ref AS) "name"=some (some (.ref f10))) (a10_Joined:PySem.W.findIn K (.ref AQ) "name"=some (some (.ref f10))) (a10_NoSquare:PySem.W.findIn K (.ref AL) "name"=some (some (.ref f10))) (a10_Ring:PySem.W.findIn K (.ref AV) "name"=some (some (.ref f10))) (a11_Unlike:PySem.W.findIn K (.ref AN) "spots"=some (some (.ref f11))) (a11_Sum:PySem.W.findIn K (.ref AZ) "spots"=some (some (.ref f11))) (a11_Rising:PySem.W.findIn K (.ref AO) "spots"=some (some (.ref f11))) (a11_Seen:PySem.W.findIn K (.ref AU) "spots"=some (some (.ref f11))) (a11_Count:PySem.W.findIn K (.ref AS) "spots"=some (some (.ref f11))) (a11_Joined:PySem.W.findIn K (.ref AQ) "spots"=some (some (.ref f11))) (a11_NoSquare:PySem.W.findIn K (.ref AL) "spots"=some (some (.ref f11))) (a11_Ring:PySem.W.findIn K (.ref AV) "spots"=some (some (.ref f11))) (a12_Unlike:PySem.W.findIn K (.ref AN) "sign"=some (some (.ref f12))) (a12_Sum:PySem.W.findIn K (.ref AZ) "sign"=some (some (.ref f12))) (a12_Rising:PySem.W.findIn K (.ref AO) "sign"=some (some (.ref f12))) (a12_Seen:PySem.W.findIn K (.ref AU) "sign"=some (some (.ref f12))) (a12_Count:PySem.W.findIn K (.ref AS) "sign"=some (some (.ref f12))) (a12_Joined:PySem.W.findIn K (.ref AQ) "sign"=some (some (.ref f12))) (a12_NoSquare:PySem.W.findIn K (.ref AL) "sign"=some (some (.ref f12))) (a12_Ring:PySem.W.findIn K (.ref AV) "sign"=some (some (.ref f12))) (a13:PySem.W.nsIn K mainGlobals "number_in"=some (some (.ref f13))) (a14_Puzzle:PySem.W.findIn K (.ref AR) "place"=some (some (.ref f14))) (a15_Puzzle:PySem.W.findIn K (.ref AR) "clues"=some (some (.ref f15))) (a16_Puzzle:PySem.W.findIn K (.ref AR) "rules"=some (some (.ref f16))) (a17:PySem.W.nsIn K mainGlobals "_law_cell_at"=some (some (.ref f17))) (a18:PySem.W.nsIn K mainGlobals "_law_floor"=some (some (.ref f18))) (a19:PySem.W.nsIn K mainGlobals "_law_only"=some (some (.ref f19))) (a20:PySem.W.nsIn K mainGlobals "_law_by_lines"=some (some (.ref f20))) (a21:PySem.W.nsIn K mainGlobals "_law_near"=some (some (.ref f21))) (a22:PySem.W.nsIn K mainGlobals "is_from_one_to"=some (some (.ref f22))) (a23:PySem.W.nsIn K mainGlobals "beside"=some (some (.ref f23))) (a24:PySem.W.nsIn K mainGlobals "is_corner"=some (some (.ref f24))) (a25:PySem.W.nsIn K mainGlobals "without"=some (some (.ref f25))) (a26:PySem.W.nsIn K mainGlobals "signs_in"=some (some (.ref f26))) (a27:PySem.W.nsIn K mainGlobals "is_cell"=some (some (.ref f27))) (a28:PySem.W.nsIn K mainGlobals "goes_by"=some (some (.ref f28))) (a29:PySem.W.nsIn K mainGlobals "others"=some (some (.ref f29))) (a30:PySem.W.nsIn K mainGlobals "many_may"=some (some (.ref f30))) (a31:PySem.W.nsIn K mainGlobals "number_within"=some (some (.ref f31))) (a32:PySem.W.nsIn K mainGlobals "is_filling"=some (some (.ref f32))) (a33:PySem.W.nsIn K mainGlobals "_law_cells"=some (some (.ref f33))) (a34:PySem.W.nsIn K mainGlobals "_law_masks"=some (some (.ref f34))) (a35:PySem.W.nsIn K mainGlobals "_law_by_regions"=some (some (.ref f35))) (a36:PySem.W.nsIn K mainGlobals "_law_due"=some (some (.ref f36))) (a37:PySem.W.nsIn K mainGlobals "_law_elsewhere"=some (some (.ref f37))) (a38:PySem.W.nsIn K mainGlobals "floor_of"=some (some (.ref f38))) (a39:PySem.W.nsIn K mainGlobals "squares"=some (some (.ref f39))) (a40:PySem.W.nsIn K mainGlobals "reached"=some (some (.ref f40))) (a41:PySem.W.nsIn K mainGlobals "has_only"=some (some (.ref f41))) (a42:PySem.W.nsIn K mainGlobals "is_sign"=some (some (.ref f42))) (a43:PySem.W.nsIn K mainGlobals "has_its_rule"=some (some (.ref f43))) (a44:PySem.W.nsIn K mainGlobals "pair_strikes"=some (some (.ref f44))) (a45:PySem.W.nsIn K mainGlobals "rests_by_line"=some (some (.ref f45))) (a46:PySem.W.nsIn K mainGlobals "around"=some (some (.ref f46))) (a47:PySem.W.nsIn K mainGlobals "first_within"=some (some (.ref f47))) (a48:PySem.W.nsIn K mainGlobals "told_cells"=some (some (.ref f48))) (a49:PySem.W.nsIn K mainGlobals "rule_by"=some (some (.ref f49))) (a50:PySem.W.nsIn K mainGlobals "checked_clues"=some (some (.ref f50))) (a51:PySem.W.nsIn K mainGlobals "_law_lists"=some (some (.ref f51))) (a52:PySem.W.nsIn K mainGlobals "is_formed"=some (some (.ref f52))) (a53:PySem.W.nsIn K mainGlobals "many_only"=some (some (.ref f53))) (a54:PySem.W.nsIn K mainGlobals "only_strikes"=some (some (.ref f54))) (a55:PySem.W.nsIn K mainGlobals "place_strikes"=some (some (.ref f55))) (a56:PySem.W.nsIn K mainGlobals "rest_of_square"=some (some (.ref f56))) (a57:PySem.W.nsIn K mainGlobals "is_another_with_only"=some (some (.ref f57))) (a58:PySem.W.nsIn K mainGlobals "cells_of"=some (some (.ref f58))) (a59:PySem.W.nsIn K mainGlobals "checked_floor"=some (some (.ref f59))) (a60:PySem.W.nsIn K mainGlobals "strikes_by_line"=some (some (.ref f60))) (a61:PySem.W.nsIn K mainGlobals "square_strikes"=some (some (.ref f61))) (a62:PySem.W.nsIn K mainGlobals "reach_strikes"=some (some (.ref f62))) (a63:PySem.W.nsIn K mainGlobals "turn_strikes"=some (some (.ref f63))) (a64:PySem.W.nsIn K mainGlobals "rests_by_region"=some (some (.ref f64))) (a65:PySem.W.nsIn K mainGlobals "read_rule"=some (some (.ref f65))) (a66:PySem.W.nsIn K mainGlobals "strikes_by_region"=some (some (.ref f66))) (a67:PySem.W.nsIn K mainGlobals "rests_on"=some (some (.ref f67))) (a68:PySem.W.nsIn K mainGlobals "read_rules"=some (some (.ref f68))) (a69:PySem.W.nsIn K mainGlobals "strikes"=some (some (.ref f69))) (D5:PySem.W.findIn K (.ref AR) "__init__"=some (some (.ref f70))) (a71:PySem.W.nsIn K mainGlobals "_law_rests"=some (some (.ref f71))) (a72:PySem.W.nsIn K mainGlobals "allowed"=some (some (.ref f72))) (a73:PySem.W.nsIn K mainGlobals "_law_puzzle"=some (some (.ref f73))) (a74:PySem.W.nsIn K mainGlobals "law"=some (some (.ref f74))) (F0:Fun K "is_whole" "is_whole" lR f0 fd0) (F1:Fun K "many_cells" "many_cells" j9 f1 fd1) (F2:Fun K "spot_of" "spot_of" m7 f2 fd2) (F3:Fun K "square_at" "square_at" kI f3 fd3) (F4:Fun K "bit_of" "bit_of" o1 f4 fd4) (F5:Fun K "stands" "stands" o3 f5 fd5) (F6:Fun K "masks_at" "masks_at" lS f6 fd6) (F7:Fun K "clue_strikes" "clue_strikes" iS f7 fd7) (F8:Fun K "are_told_in_order" "are_told_in_order" eF f8 fd8) (F9:Fun K "__init__" "Rule.__init__" io f9 fd9) (fn9:PySem.W.isFn K (.ref f9)=true) (F10:Fun K "name" "Rule.name" kJ f10 fd10) (fn10:PySem.W.isFn K (.ref f10)=true) (F11:Fun K "spots" "Rule.spots" ka f11 fd11) (fn11:PySem.W.isFn K (.ref f11)=true) (F12:Fun K "sign" "Rule.sign" kK f12 fd12) (fn12:PySem.W.isFn K (.ref f12)=true) (F13:Fun K "number_in" "number_in" kL f13 fd13) (F14:Fun K "place" "Puzzle.place" iT f14 fd14) (fn14:PySem.W.isFn K (.ref f14)=true) (F15:Fun K "clues" "Puzzle.clues" iV f15 fd15) (fn15:PySem.W.isFn K (.ref f15)=true) (F16:Fun K "rules" "Puzzle.rules" iW f16 fd16) (fn16:PySem.W.isFn K (.ref f16)=true) (F17:Fun K "_law_cell_at" "_law_cell_at" iX f17 fd17) (F18:Fun K "_law_floor" "_law_floor" kb f18 fd18) (F19:Fun K "_law_only" "_law_only" kM f19 fd19) (F20:Fun K "_law_by_lines" "_law_by_lines" ip f20 fd20) (F21:Fun K "_law_near" "_law_near" kN f21 fd21) (F22:Fun K "is_from_one_to" "is_from_one_to" gy f22 fd22) (F23:Fun K "beside" "beside" o6 f23 fd23) (F24:Fun K "is_corner" "is_corner" kO f24 fd24) (F25:Fun K "without" "without" m8 f25 fd25) (F26:Fun K "signs_in" "signs_in" lU f26 fd26) (F27:Fun K "is_cell" "is_cell" m9 f27 fd27) (F28:Fun K "goes_by" "goes_by" nc f28 fd28) (F29:Fun K "others" "others" o7 f29 fd29) (F30:Fun K "many_may" "many_may" lV f30 fd30) (F31:Fun K "number_within" "number_within" iq f31 fd31) (F32:Fun K "is_filling" "is_filling" kc f32 fd32) (F33:Fun K "_law_cells" "_law_cells" ke f33 fd33) (F34:Fun K "_law_masks" "_law_masks" kf f34 fd34) (F35:Fun K "_law_by_regions" "_law_by_regions" fY f35 fd35) (F36:Fun K "_law_due" "_law_due" lW f36 fd36) (F37:Fun K "_law_elsewhere" "_law_elsewhere" gz f37 fd37) (F38:Fun K "floor_of" "floor_of" lX f38 fd38) (F39:Fun K "squares" "squares" nh f39 fd39) (F40:Fun K "reached" "reached" ni f40 fd40) (F41:Fun K "has_only" "has_only" lY f41 fd41) (F42:Fun K "is_sign" "is_sign" nj f42 fd42) (F43:Fun K "has_its_rule" "has_its_rule" iY f43 fd43) (F44:Fun K "pair_strikes" "pair_strikes" iZ f44 fd44) (F45:Fun K "rests_by_line" "rests_by_line" iu f45 fd45) (F46:Fun K "around" "around" pb f46 fd46) (F47:Fun K "first_within" "first_within" i5 f47 fd47) (F48:Fun K "told_cells" "told_cells" kg f48 fd48) (F49:Fun K "rule_by" "rule_by" nk f49 fd49) (F50:Fun K "checked_clues" "checked_clues" iw f50 fd50) (F51:Fun K "_law_lists" "_law_lists" kh f51 fd51) (F52:Fun K "is_formed" "is_formed" kP f52 fd52) (F53:Fun K "many_only" "many_only" kQ f53 fd53) (F54:Fun K "only_strikes" "only_strikes" i6 f54 fd54) (F55:Fun K "place_strikes" "place_strikes" iy f55 fd55) (F56:Fun K "rest_of_square" "rest_of_square" gA f56 fd56) (F57:Fun K "is_another_with_only" "is_another_with_only" dh f57 fd57) (F58:Fun K "cells_of" "cells_of" lZ f58 fd58) (F59:Fun K "checked_floor" "checked_floor" iz f59 fd59) (F60:Fun K "strikes_by_line" "strikes_by_line" fZ f60 fd60) (F61:Fun K "square_strikes" "square_strikes" gB f61 fd61) (F62:Fun K "reach_strikes" "reach_strikes" iA f62 fd62) (F63:Fun K "turn_strikes" "turn_strikes" i7 f63 fd63) (F64:Fun K "rests_by_region" "rests_by_region" ga f64 fd64) (F65:Fun K "read_rule" "read_rule" kR f65 fd65) (F66:Fun K "strikes_by_region" "strikes_by_region" eI f66 fd66) (F67:Fun K "rests_on" "rests_on" l9 f67 fd67) (F68:Fun K "read_rules" "read_rules" ki f68 fd68) (F69:Fun K "strikes" "strikes" nq f69 fd69) (F70:Fun K "__init__" "Puzzle.__init__" gb f70 fd70) (fn70:PySem.W.isFn K (.ref f70)=true) (F71:Fun K "_law_rests" "_law_rests" kj f71 fd71) (F72:Fun K "allowed" "allowed" nt f72 fd72) (F73:Fun K "_law_puzzle" "_law_puzzle" jo f73 fd73) (F74:Fun K "law" "law" nR f74 fd74) (D6:PySem.W.makesIn K AN=true) (D7:PySem.W.keepIn K (.ref AN)=true) (D8:PySem.W.plainGet K AN Str.empty=true) (D9:PySem.W.hasDictIn K AN=true) (Ea:PySem.W.plainOver K AN=true) (Eb:PySem.W.findIn K (.ref AN) "__setattr__"=some (some (.builtin "object.__setattr__"))) (Gv:PySem.W.makesIn K AZ=true) (Gw:PySem.W.keepIn K (.ref AZ)=true) (Gx:PySem.W.plainGet K AZ Str.empty=true) (Gy:PySem.W.hasDictIn K AZ=true) (Gz:PySem.W.plainOver K AZ=true) (GA:PySem.W.findIn K (.ref AZ) "__setattr__"=some (some (.builtin "object.__setattr__"))) (Ec:PySem.W.makesIn K AO=true) (Ed:PySem.W.keepIn K (.ref AO)=true) (Ee:PySem.W.plainGet K AO Str.empty=true) (Ef:PySem.W.hasDictIn K AO=true) (Eg:PySem.W.plainOver K AO=true) (Eh:PySem.W.findIn K (.ref AO) "__setattr__"=some (some (.builtin "object.__setattr__"))) (FL:PySem.W.makesIn K AU=true) (FM:PySem.W.keepIn K (.ref AU)=true) (FN:PySem.W.plainGet K AU Str.empty=true) (FO:PySem.W.hasDictIn K AU=true) (FP:PySem.W.plainOver K AU=true) (FQ:PySem.W.findIn K (.ref AU) "__setattr__"=some (some (.builtin "object.__setattr__"))) (E8:PySem.W.makesIn K AS=true) (E9:PySem.W.keepIn K (.ref AS)=true) (Fa:PySem.W.plainGet K AS Str.empty=true) (Fb:PySem.W.hasDictIn K AS=true) (Fc:PySem.W.plainOver K AS=true) (Fd:PySem.W.findIn K (.ref AS) "__setattr__"=some (some (.builtin "object.__setattr__"))) (Ei:PySem.W.makesIn K AQ=true) (Ej:PySem.W.keepIn K (.ref AQ)=true) (Ek:PySem.W.plainGet K AQ Str.empty=true) (El:PySem.W.hasDictIn K AQ=true) (Em:PySem.W.plainOver K AQ=true) (En:PySem.W.findIn K (.ref AQ) "__setattr__"=some (some (.builtin "object.__setattr__"))) (DG:PySem.W.makesIn K AL=true) (DH:PySem.W.keepIn K (.ref AL)=true) (DI:PySem.W.plainGet K AL Str.empty=true) (DJ:PySem.W.hasDictIn K AL=true) (DK:PySem.W.plainOver K AL=true) (DL:PySem.W.findIn K (.ref AL) "__setattr__"=some (some (.builtin "object.__setattr__"))) (FR:PySem.W.makesIn K AV=true) (FS:PySem.W.keepIn K (.ref AV)=true) (FT:PySem.W.plainGet K AV Str.empty=true) (FU:PySem.W.hasDictIn K AV=true) (FV:PySem.W.plainOver K AV=true) (FW:PySem.W.findIn K (.ref AV) "__setattr__"=some (some (.builtin "object.__setattr__"))) (Eo:PySem.W.makesIn K AR=true) (Ep:PySem.W.keepIn K (.ref AR)=true) (Er:PySem.W.plainGet K AR Str.empty=true) (Es:PySem.W.hasDictIn K AR=true) (Et:PySem.W.plainOver K AR=true) (Eu:PySem.W.findIn K (.ref AR) "__setattr__"=some (some (.builtin "object.__setattr__"))) (BB:PySem.W.findIn K (.ref AN) "amount"=some none) (Cu:PySem.W.findIn K (.ref AZ) "amount"=some none) (BC:PySem.W.findIn K (.ref AO) "amount"=some none) (B3:PySem.W.findIn K (.ref AU) "amount"=some none) (BM:PySem.W.findIn K (.ref AS) "amount"=some none) (BD:PySem.W.findIn K (.ref AQ) "amount"=some none) (Bc:PySem.W.findIn K (.ref AL) "amount"=some none) (B4:PySem.W.findIn K (.ref AV) "amount"=some none) (BN:PySem.W.findIn K (.ref AN) "cells"=some none) (CP:PySem.W.findIn K (.ref AZ) "cells"=some none) (BO:PySem.W.findIn K (.ref AO) "cells"=some none) (Cv:PySem.W.findIn K (.ref AU) "cells"=some none) (B5:PySem.W.findIn K (.ref AS) "cells"=some none) (BP:PySem.W.findIn K (.ref AQ) "cells"=some none) (Bf:PySem.W.findIn K (.ref AL) "cells"=some none) (Cw:PySem.W.findIn K (.ref AV) "cells"=some none) (BQ:PySem.W.findIn K (.ref AN) "floor"=some none) (CQ:PySem.W.findIn K (.ref AZ) "floor"=some none) (BR:PySem.W.findIn K (.ref AO) "floor"=some none) (Cy:PySem.W.findIn K (.ref AU) "floor"=some none) (B6:PySem.W.findIn K (.ref AS) "floor"=some none) (BS:PySem.W.findIn K (.ref AQ) "floor"=some none) (Bg:PySem.W.findIn K (.ref AL) "floor"=some none) (Cz:PySem.W.findIn K (.ref AV) "floor"=some none) (B7:PySem.W.findIn K (.ref AN) "mark"=some none) (C4:PySem.W.findIn K (.ref AZ) "mark"=some none) (B8:PySem.W.findIn K (.ref AO) "mark"=some none) (CS:PySem.W.findIn K (.ref AU) "mark"=some none) (CA:PySem.W.findIn K (.ref AS) "mark"=some none) (B9:PySem.W.findIn K (.ref AQ) "mark"=some none) (BE:PySem.W.findIn K (.ref AL) "mark"=some none) (CT:PySem.W.findIn K (.ref AV) "mark"=some none) (BT:PySem.W.findIn K (.ref AN) "words"=some none) (CU:PySem.W.findIn K (.ref AZ) "words"=some none) (BU:PySem.W.findIn K (.ref AO) "words"=some none) (CB:PySem.W.findIn K (.ref AU) "words"=some none) (Ca:PySem.W.findIn K (.ref AS) "words"=some none) (BV:PySem.W.findIn K (.ref AQ) "words"=some none) (Bh:PySem.W.findIn K (.ref AL) "words"=some none) (CC:PySem.W.findIn K (.ref AV) "words"=some none) (BW:PySem.W.findIn K (.ref AR) "floor"=some none) (BX:PySem.W.findIn K (.ref AR) "given"=some none) (Cb:PySem.W.findIn K (.ref AR) "laws"=some none) (Fe:PySem.W.nsIn K mainGlobals "KINDS"=some (some (.ref FD))) (Ff:K.lookup FD=some ⟨.type "tuple",GV,.seq #[.str (tx [99,108,117,101]) GY,.str (tx [111,110,108,121]) GZ,.str (tx [112,108,97,99,101]) G0,.str (tx [99,111,117,110,116]) G1,.str (tx [115,116,101,112]) G2,.str (tx [115,117,109]) G3,.str (tx [115,113,117,97,114,101]) t6_KINDS,.str (tx [114,101,97,99,104]) t7_KINDS,.str (tx [116,117,114,110]) t8_KINDS,.str (tx [112,97,105,114]) t9_KINDS,.str (tx [119,97,121,115]) t10_KINDS] GW,GX⟩) (CV:PySem.W.nsIn K mainGlobals "LINE_KINDS"=some (some (.ref C3))) (CW:K.lookup C3=some ⟨.type "tuple",GB,.seq #[.str (tx [99,108,117,101]) GE,.str (tx [111,110,108,121]) GF,.str (tx [112,108,97,99,101]) GG,.str (tx [115,116,101,112]) GH,.str (tx [112,97,105,114]) GI] GC,GD⟩) (Cc:PySem.W.nsIn K mainGlobals "NUMBER_KINDS"=some (some (.ref Cs))) (Cd:K.lookup Cs=some ⟨.type "tuple",FX,.seq #[.str (tx [99,111,117,110,116]) Ga,.str (tx [115,117,109]) Gb,.str (tx [119,97,121,115]) Gc] FY,FZ⟩) (Ce:PySem.W.nsIn K mainGlobals "OF_ALL_CELLS"=some (some (.ref Ct))) (Cf:K.lookup Ct=some ⟨.type "tuple",Gd,.seq #[.str (tx [106,111,105,110,101,100]) Gg,.str (tx [110,111,115,113,117,97,114,101]) Gh,.str (tx [114,105,110,103]) Gi] Ge,Gf⟩) (CD:PySem.W.nsIn K mainGlobals "WITH_NUMBER"=some (some (.ref CO))) (CF:K.lookup CO=some ⟨.type "tuple",Gm,.seq #[.str (tx [115,117,109]) Gp,.str (tx [115,101,101,110]) Gq,.str (tx [99,111,117,110,116]) Gr] Gn,Go⟩) (C5:PySem.W.nsIn K mainGlobals "WITH_SIGN"=some (some (.ref DE))) (C6:K.lookup DE=some ⟨.type "tuple",GM,.seq #[.str (tx [99,111,117,110,116]) GP,.str (tx [106,111,105,110,101,100]) GQ,.str (tx [110,111,115,113,117,97,114,101]) GR,.str (tx [114,105,110,103]) GS] GN,GO⟩) (BY:PySem.W.nsIn K mainGlobals "RULES_OF_KIND"=some (some (.ref B2))) (BZ:K.lookup B2=some ⟨.type "dict",none,.dict #[⟨Da,.str (tx [111,110,108,121]) Fg,.ref Db⟩,⟨Dc,.str (tx [112,108,97,99,101]) Fi,.ref De⟩,⟨Df,.str (tx [99,111,117,110,116]) Fk,.ref Dg⟩,⟨Dh,.str (tx [115,116,101,112]) Fm,.ref Di⟩,⟨Dj,.str (tx [115,117,109]) Fo,.ref Dk⟩,⟨Dl,.str (tx [115,113,117,97,114,101]) Fq,.ref Dm⟩,⟨Dn,.str (tx [114,101,97,99,104]) Fs,.ref Do⟩,⟨Dp,.str (tx [116,117,114,110]) Fu,.ref Dq⟩,⟨Dr,.str (tx [112,97,105,114]) Fw,.ref Ds⟩] FE,#[]⟩) (Bi:K.lookup Db=some ⟨.type "tuple",EM,.seq #[.str (tx [117,110,108,105,107,101]) Ew] Fh,EN⟩) (Bj:Da=hashStr w (tx [111,110,108,121])) (Bk:K.lookup De=some ⟨.type "tuple",EO,.seq #[.str (tx [117,110,108,105,107,101]) Ex] Fj,EQ⟩) (Bl:Dc=hashStr w (tx [112,108,97,99,101])) (Bm:K.lookup Dg=some ⟨.type "tuple",ER,.seq #[.str (tx [99,111,117,110,116]) Ey] Fl,ES⟩) (Bn:Df=hashStr w (tx [99,111,117,110,116])) (Bo:K.lookup Di=some ⟨.type "tuple",ET,.seq #[.str (tx [114,105,115,105,110,103]) Ez] Fn,EU⟩) (Bp:Dh=hashStr w (tx [115,116,101,112])) (Bq:K.lookup Dk=some ⟨.type "tuple",EV,.seq #[.str (tx [115,117,109]) EA] Fp,EW⟩) (Br:Dj=hashStr w (tx [115,117,109])) (Bs:K.lookup Dm=some ⟨.type "tuple",EX,.seq #[.str (tx [110,111,115,113,117,97,114,101]) EB] Fr,EY⟩) (Bu:Dl=hashStr w (tx [115,113,117,97,114,101])) (Bv:K.lookup Do=some ⟨.type "tuple",EZ,.seq #[.str (tx [106,111,105,110,101,100]) EC,.str (tx [114,105,110,103]) ED] Ft,E2⟩) (Bw:Dn=hashStr w (tx [114,101,97,99,104])) (Bx:K.lookup Dq=some ⟨.type "tuple",E3,.seq #[.str (tx [114,105,110,103]) EE] Fv,E4⟩) (By:Dp=hashStr w (tx [116,117,114,110])) (Bz:K.lookup Ds=some ⟨.type "tuple",E5,.seq #[.str (tx [117,110,108,105,107,101]) EF] Fx,E6⟩) (BA:Dr=hashStr w (tx [112,97,105,114])) (Ev:PySem.W.nsIn K mainGlobals "FIGURES"=some (some (.str (tx [48,49,50,51,52,53,54,55,56,57]) tk_FIGURES))) (C7:PySem.W.nsIn K mainGlobals "MOST_CELLS"=some (some (.int 16 tk_MOST_CELLS))) (CG:PySem.W.nsIn K mainGlobals "MOST_FIGURES"=some (some (.int 9 tk_MOST_FIGURES))) (CY:PySem.W.nsIn K mainGlobals "MOST_NUMBER"=some (some (.int 99 tk_MOST_NUMBER))) (C8:PySem.W.nsIn K mainGlobals "MOST_RULES"=some (some (.int 12 tk_MOST_RULES))) (DM:PySem.W.nsIn K mainGlobals "MOST_SIDE"=some (some (.int 6 tk_MOST_SIDE))) (C9:PySem.W.nsIn K mainGlobals "MOST_SIGNS"=some (some (.int 6 tk_MOST_SIGNS))) (z_len:PySem.W.nsIn K mainGlobals "len"=some none) (z_abs:PySem.W.nsIn K mainGlobals "abs"=some none) (z_min:PySem.W.nsIn K mainGlobals "min"=some none) (z_max:PySem.W.nsIn K mainGlobals "max"=some none) (z_sorted:PySem.W.nsIn K mainGlobals "sorted"=some none) (z_any:PySem.W.nsIn K mainGlobals "any"=some none) (z_isinstance:PySem.W.nsIn K mainGlobals "isinstance"=some none) (z_list:PySem.W.nsIn K mainGlobals "list"=some none) (z_int:PySem.W.nsIn K mainGlobals "int"=some none) (z_bool:PySem.W.nsIn K mainGlobals "bool"=some none) (z_str:PySem.W.nsIn K mainGlobals "str"=some none) (z_tuple:PySem.W.nsIn K mainGlobals "tuple"=some none) (z_reversed:PySem.W.nsIn K mainGlobals "reversed"=some none) (z_set:PySem.W.nsIn K mainGlobals "set"=some none) (z_range:PySem.W.nsIn K mainGlobals "range"=some none) (z_zip:PySem.W.nsIn K mainGlobals "zip"=some none) (z_all:PySem.W.nsIn K mainGlobals "all"=some none) (z_sum:PySem.W.nsIn K mainGlobals "sum"=some none) (z_enumerate:PySem.W.nsIn K mainGlobals "enumerate"=some none) (z_divmod:PySem.W.nsIn K mainGlobals "divmod"=some none):
  ∃ fd:FuncData,(∀ (s:Shared) (v:Value),BindsTo s fd ⟨[v],[]⟩ [("_law_script",v)])∧∀ base:Heap,K.In base→base.Ns mainGlobals mg→FnOk l.prog w K mg base CX0 10 fa fd ["_law_script"] (qV K):=by
 have e:=hfa.symm.trans (PySem.W.mg_of X G a74)
 cases e
 have B:Bt2 mg:=⟨⟨PySem.W.mg_none_of X G z_len,PySem.W.mg_none_of X G z_abs,PySem.W.mg_none_of X G z_min,PySem.W.mg_none_of X G z_max,PySem.W.mg_none_of X G z_sorted,PySem.W.mg_none_of X G z_any,PySem.W.mg_none_of X G z_isinstance,PySem.W.mg_none_of X G z_list,PySem.W.mg_none_of X G z_int,PySem.W.mg_none_of X G z_bool,PySem.W.mg_none_of X G z_str,PySem.W.mg_none_of X G z_tuple,PySem.W.mg_none_of X G z_reversed,PySem.W.mg_none_of X G z_set,PySem.W.mg_none_of X G z_range,PySem.W.mg_none_of X G z_zip⟩,PySem.W.mg_none_of X G z_all,PySem.W.mg_none_of X G z_sum,PySem.W.mg_none_of X G z_enumerate⟩
 obtain ⟨oc,od,kV,doc,pm,an,cdv,ct,osl,rfl,lk,hcd⟩:=F74.ex
 refine ⟨PySem.W.fnOf "law" "law" (bK nR) (bC nR) (aj nR) .none kV doc pm an cdv ct,fun s v=>.of_eq rfl,fun base _ _=>?_⟩
 let c:RCl RK:=mkC AN AZ AO AU AS AQ AL AV
 let d:RCl PzK:=mkD AR
 have EG:=PySem.W.mg_of X G Ev
 have Du:=PySem.W.mg_of X G C7
 have CH:=PySem.W.mg_of X G CG
 have C0:=PySem.W.mg_of X G CY
 have Dy:=PySem.W.mg_of X G C8
 have CZ:=PySem.W.mg_of X G DM
 have Dv:=PySem.W.mg_of X G C9
 have BX_divmod:=PySem.W.mg_none_of X G z_divmod
 have cls_Unlike:Cls K AN:=⟨D8,D9,Ea,Eb⟩
 have cls_Sum:Cls K AZ:=⟨Gx,Gy,Gz,GA⟩
 have cls_Rising:Cls K AO:=⟨Ee,Ef,Eg,Eh⟩
 have cls_Seen:Cls K AU:=⟨FN,FO,FP,FQ⟩
 have cls_Count:Cls K AS:=⟨Fa,Fb,Fc,Fd⟩
 have cls_Joined:Cls K AQ:=⟨Ek,El,Em,En⟩
 have cls_NoSquare:Cls K AL:=⟨DI,DJ,DK,DL⟩
 have cls_Ring:Cls K AV:=⟨FT,FU,FV,FW⟩
 have cls_Puzzle:Cls K AR:=⟨Er,Es,Et,Eu⟩
 have FK_c_amount:FldK K c "amount":=⟨fun i hi=>by cases i with | Rule=>exact (Bool.false_ne_true hi).elim | Unlike=>exact ⟨cls_Unlike,BB⟩ | Sum=>exact ⟨cls_Sum,Cu⟩ | Rising=>exact ⟨cls_Rising,BC⟩ | Seen=>exact ⟨cls_Seen,B3⟩ | Count=>exact ⟨cls_Count,BM⟩ | Joined=>exact ⟨cls_Joined,BD⟩ | NoSquare=>exact ⟨cls_NoSquare,Bc⟩ | Ring=>exact ⟨cls_Ring,B4⟩⟩
 have FK_c_cells:FldK K c "cells":=⟨fun i hi=>by cases i with | Rule=>exact (Bool.false_ne_true hi).elim | Unlike=>exact ⟨cls_Unlike,BN⟩ | Sum=>exact ⟨cls_Sum,CP⟩ | Rising=>exact ⟨cls_Rising,BO⟩ | Seen=>exact ⟨cls_Seen,Cv⟩ | Count=>exact ⟨cls_Count,B5⟩ | Joined=>exact ⟨cls_Joined,BP⟩ | NoSquare=>exact ⟨cls_NoSquare,Bf⟩ | Ring=>exact ⟨cls_Ring,Cw⟩⟩
 have FK_c_floor:FldK K c "floor":=⟨fun i hi=>by cases i with | Rule=>exact (Bool.false_ne_true hi).elim | Unlike=>exact ⟨cls_Unlike,BQ⟩ | Sum=>exact ⟨cls_Sum,CQ⟩ | Rising=>exact ⟨cls_Rising,BR⟩ | Seen=>exact ⟨cls_Seen,Cy⟩ | Count=>exact ⟨cls_Count,B6⟩ | Joined=>exact ⟨cls_Joined,BS⟩ | NoSquare=>exact ⟨cls_NoSquare,Bg⟩ | Ring=>exact ⟨cls_Ring,Cz⟩⟩
 have FK_c_mark:FldK K c "mark":=⟨fun i hi=>by cases i with | Rule=>exact (Bool.false_ne_true hi).elim | Unlike=>exact ⟨cls_Unlike,B7⟩ | Sum=>exact ⟨cls_Sum,C4⟩ | Rising=>exact ⟨cls_Rising,B8⟩ | Seen=>exact ⟨cls_Seen,CS⟩ | Count=>exact ⟨cls_Count,CA⟩ | Joined=>exact ⟨cls_Joined,B9⟩ | NoSquare=>exact ⟨cls_NoSquare,BE⟩ | Ring=>exact ⟨cls_Ring,CT⟩⟩
 have FK_c_words:FldK K c "words":=⟨fun i hi=>by cases i with | Rule=>exact (Bool.false_ne_true hi).elim | Unlike=>exact ⟨cls_Unlike,BT⟩ | Sum=>exact ⟨cls_Sum,CU⟩ | Rising=>exact ⟨cls_Rising,BU⟩ | Seen=>exact ⟨cls_Seen,CB⟩ | Count=>exact ⟨cls_Count,Ca⟩ | Joined=>exact ⟨cls_Joined,BV⟩ | NoSquare=>exact ⟨cls_NoSquare,Bh⟩ | Ring=>exact ⟨cls_Ring,CC⟩⟩
 have FK_d_floor:FldK K d "floor":=⟨fun i hi=>by cases i; exact ⟨cls_Puzzle,BW⟩⟩
 have FK_d_given:FldK K d "given":=⟨fun i hi=>by cases i; exact ⟨cls_Puzzle,BX⟩⟩
 have FK_d_laws:FldK K d "laws":=⟨fun i hi=>by cases i; exact ⟨cls_Puzzle,Cb⟩⟩
 have G_KINDS:GTup K mg "KINDS" lG:=⟨FD,_,_,_,PySem.W.mg_of X G Fe,Ff,rfl,rfl,Nat.le_of_lt (aK (by show (11:Nat)≤1000; decide)),(.cons ⟨_,rfl⟩ (.cons ⟨_,rfl⟩ (.cons ⟨_,rfl⟩ (.cons ⟨_,rfl⟩ (.cons ⟨_,rfl⟩ (.cons ⟨_,rfl⟩ (.cons ⟨_,rfl⟩ (.cons ⟨_,rfl⟩ (.cons ⟨_,rfl⟩ (.cons ⟨_,rfl⟩ (.cons ⟨_,rfl⟩ .nil)))))))))))⟩
 have G_LINE_KINDS:GTup K mg "LINE_KINDS" cX:=⟨C3,_,_,_,PySem.W.mg_of X G CV,CW,rfl,rfl,Nat.le_of_lt (aK (by show (5:Nat)≤1000; decide)),(.cons ⟨_,rfl⟩ (.cons ⟨_,rfl⟩ (.cons ⟨_,rfl⟩ (.cons ⟨_,rfl⟩ (.cons ⟨_,rfl⟩ .nil)))))⟩
 have G_NUMBER_KINDS:GTup K mg "NUMBER_KINDS" cq:=⟨Cs,_,_,_,PySem.W.mg_of X G Cc,Cd,rfl,rfl,Nat.le_of_lt (aK (by show (3:Nat)≤1000; decide)),(.cons ⟨_,rfl⟩ (.cons ⟨_,rfl⟩ (.cons ⟨_,rfl⟩ .nil)))⟩
 have G_OF_ALL_CELLS:GTup K mg "OF_ALL_CELLS" eK:=⟨Ct,_,_,_,PySem.W.mg_of X G Ce,Cf,rfl,rfl,Nat.le_of_lt (aK (by show (3:Nat)≤1000; decide)),(.cons ⟨_,rfl⟩ (.cons ⟨_,rfl⟩ (.cons ⟨_,rfl⟩ .nil)))⟩
 have G_WITH_NUMBER:GTup K mg "WITH_NUMBER" fT:=⟨CO,_,_,_,PySem.W.mg_of X G CD,CF,rfl,rfl,Nat.le_of_lt (aK (by show (3:Nat)≤1000; decide)),(.cons ⟨_,rfl⟩ (.cons ⟨_,rfl⟩ (.cons ⟨_,rfl⟩ .nil)))⟩
 have G_WITH_SIGN:GTup K mg "WITH_SIGN" fG:=⟨DE,_,_,_,PySem.W.mg_of X G C5,C6,rfl,rfl,Nat.le_of_lt (aK (by show (4:Nat)≤1000; decide)),(.cons ⟨_,rfl⟩ (.cons ⟨_,rfl⟩ (.cons ⟨_,rfl⟩ (.cons ⟨_,rfl⟩ .nil))))⟩
 have Cj:GDict w K mg "RULES_OF_KIND" gd_RULES_OF_KIND:=⟨B2,_,_,_,PySem.W.mg_of X G BY,BZ,⟨rfl,rfl,rfl⟩,rfl,(.cons Bj Bi rfl rfl (Nat.le_of_lt (aK (by show (1:Nat)≤1000; decide))) (.cons ⟨_,rfl⟩ .nil) (.cons Bl Bk rfl rfl (Nat.le_of_lt (aK (by show (1:Nat)≤1000; decide))) (.cons ⟨_,rfl⟩ .nil) (.cons Bn Bm rfl rfl (Nat.le_of_lt (aK (by show (1:Nat)≤1000; decide))) (.cons ⟨_,rfl⟩ .nil) (.cons Bp Bo rfl rfl (Nat.le_of_lt (aK (by show (1:Nat)≤1000; decide))) (.cons ⟨_,rfl⟩ .nil) (.cons Br Bq rfl rfl (Nat.le_of_lt (aK (by show (1:Nat)≤1000; decide))) (.cons ⟨_,rfl⟩ .nil) (.cons Bu Bs rfl rfl (Nat.le_of_lt (aK (by show (1:Nat)≤1000; decide))) (.cons ⟨_,rfl⟩ .nil) (.cons Bw Bv rfl rfl (Nat.le_of_lt (aK (by show (2:Nat)≤1000; decide))) (.cons ⟨_,rfl⟩ (.cons ⟨_,rfl⟩ .nil)) (.cons By Bx rfl rfl (Nat.le_of_lt (aK (by show (1:Nat)≤1000; decide))) (.cons ⟨_,rfl⟩ .nil) (.cons BA Bz rfl rfl (Nat.le_of_lt (aK (by show (1:Nat)≤1000; decide))) (.cons ⟨_,rfl⟩ .nil) .nil))))))))),by decide+kernel⟩
 have AT:Cal l.prog w K mg base _ _ _ (ba K):=m6 (uN B F0) F0 (PySem.W.mg_of X G a0)
 have AM:Cal l.prog w K mg base _ _ _ (aR K):=m6 (rW B F1) F1 (PySem.W.mg_of X G a1)
 have Cg:Cal l.prog w K mg base _ _ _ (c5 K):=bX (wj B F2) F2 (PySem.W.mg_of X G a2)
 have DS:Cal l.prog w K mg base _ _ _ (dv K):=bX (t9 B F3) F3 (PySem.W.mg_of X G a3)
 have Fy:Cal l.prog w K mg base _ _ _ (gG K):=m6 (xT B F4) F4 (PySem.W.mg_of X G a4)
 have A5:Cal l.prog w K mg base _ _ _ (bW K):=bX (xU B F5) F5 (PySem.W.mg_of X G a5)
 have A3:Cal l.prog w K mg base _ _ _ (bG K):=bX (uO B F6) F6 (PySem.W.mg_of X G a6)
 have CJ:Cal l.prog w K mg base _ _ _ (cu K):=t7 (qx B F7) F7 (PySem.W.mg_of X G a7)
 have Bd:Cal l.prog w K mg base _ _ _ (bv K):=bX (lT B F8) F8 (PySem.W.mg_of X G a8)
 have bd9:Binds K fd9 ["self","floor","words","cells","amount","mark"] []:=yJ F9
 have T9:FnOk l.prog w K mg base CX0 1 f9 fd9 _ (ay K c):=o4 (c:=c) B FK_c_amount FK_c_cells FK_c_floor FK_c_mark FK_c_words F9
 have FB:KCal l.prog w K mg base _ "Unlike" (c.A .Unlike) _ (ay K c):=⟨f9,_,⟨D6,D2,fn9,D7⟩,T9,PySem.W.mg_of X G FF,bd9⟩
 have K_Sum:KCal l.prog w K mg base _ "Sum" (c.A .Sum) _ (ay K c):=⟨f9,_,⟨Gv,Gu,fn9,Gw⟩,T9,PySem.W.mg_of X G q_Sum,bd9⟩
 have FA:KCal l.prog w K mg base _ "Rising" (c.A .Rising) _ (ay K c):=⟨f9,_,⟨Ec,D3,fn9,Ed⟩,T9,PySem.W.mg_of X G FG,bd9⟩
 have GL:KCal l.prog w K mg base _ "Seen" (c.A .Seen) _ (ay K c):=⟨f9,_,⟨FL,FJ,fn9,FM⟩,T9,PySem.W.mg_of X G GT,bd9⟩
 have Gj:KCal l.prog w K mg base _ "Count" (c.A .Count) _ (ay K c):=⟨f9,_,⟨E8,E7,fn9,E9⟩,T9,PySem.W.mg_of X G Gs,bd9⟩
 have Fz:KCal l.prog w K mg base _ "Joined" (c.A .Joined) _ (ay K c):=⟨f9,_,⟨Ei,D4,fn9,Ej⟩,T9,PySem.W.mg_of X G FH,bd9⟩
 have DX:KCal l.prog w K mg base _ "NoSquare" (c.A .NoSquare) _ (ay K c):=⟨f9,_,⟨DG,DF,fn9,DH⟩,T9,PySem.W.mg_of X G D1,bd9⟩
 have GK:KCal l.prog w K mg base _ "Ring" (c.A .Ring) _ (ay K c):=⟨f9,_,⟨FR,FK,fn9,FS⟩,T9,PySem.W.mg_of X G GU,bd9⟩
 have bd10:Binds K fd10 ["self"] []:=lQ F10
 have T10:FnOk l.prog w K mg base CX0 1 f10 fd10 _ (g9 K c):=ua (c:=c) B FK_c_words F10
 have GJ:MCal l.prog w K mg base c c.ok 1 "name" ["self"] (nN K c):=⟨fun i hi=>by cases i with | Rule=>exact (Bool.false_ne_true hi).elim | Unlike=>exact ⟨f10,_,cls_Unlike,⟨a10_Unlike,fn10,F10.kp⟩,(T10.mono (by decide)).imp (fun vs H Q E h=>⟨.Unlike,h⟩),bd10⟩ | Sum=>exact ⟨f10,_,cls_Sum,⟨a10_Sum,fn10,F10.kp⟩,(T10.mono (by decide)).imp (fun vs H Q E h=>⟨.Sum,h⟩),bd10⟩ | Rising=>exact ⟨f10,_,cls_Rising,⟨a10_Rising,fn10,F10.kp⟩,(T10.mono (by decide)).imp (fun vs H Q E h=>⟨.Rising,h⟩),bd10⟩ | Seen=>exact ⟨f10,_,cls_Seen,⟨a10_Seen,fn10,F10.kp⟩,(T10.mono (by decide)).imp (fun vs H Q E h=>⟨.Seen,h⟩),bd10⟩ | Count=>exact ⟨f10,_,cls_Count,⟨a10_Count,fn10,F10.kp⟩,(T10.mono (by decide)).imp (fun vs H Q E h=>⟨.Count,h⟩),bd10⟩ | Joined=>exact ⟨f10,_,cls_Joined,⟨a10_Joined,fn10,F10.kp⟩,(T10.mono (by decide)).imp (fun vs H Q E h=>⟨.Joined,h⟩),bd10⟩ | NoSquare=>exact ⟨f10,_,cls_NoSquare,⟨a10_NoSquare,fn10,F10.kp⟩,(T10.mono (by decide)).imp (fun vs H Q E h=>⟨.NoSquare,h⟩),bd10⟩ | Ring=>exact ⟨f10,_,cls_Ring,⟨a10_Ring,fn10,F10.kp⟩,(T10.mono (by decide)).imp (fun vs H Q E h=>⟨.Ring,h⟩),bd10⟩⟩
 have bd11:Binds K fd11 ["self"] []:=lQ F11
 have T11:FnOk l.prog w K mg base CX0 1 f11 fd11 _ (gm K c):=rX (c:=c) B FK_c_cells F11
 have BF:MCal l.prog w K mg base c c.ok 1 "spots" ["self"] (fH K c):=⟨fun i hi=>by cases i with | Rule=>exact (Bool.false_ne_true hi).elim | Unlike=>exact ⟨f11,_,cls_Unlike,⟨a11_Unlike,fn11,F11.kp⟩,(T11.mono (by decide)).imp (fun vs H Q E h=>⟨.Unlike,h⟩),bd11⟩ | Sum=>exact ⟨f11,_,cls_Sum,⟨a11_Sum,fn11,F11.kp⟩,(T11.mono (by decide)).imp (fun vs H Q E h=>⟨.Sum,h⟩),bd11⟩ | Rising=>exact ⟨f11,_,cls_Rising,⟨a11_Rising,fn11,F11.kp⟩,(T11.mono (by decide)).imp (fun vs H Q E h=>⟨.Rising,h⟩),bd11⟩ | Seen=>exact ⟨f11,_,cls_Seen,⟨a11_Seen,fn11,F11.kp⟩,(T11.mono (by decide)).imp (fun vs H Q E h=>⟨.Seen,h⟩),bd11⟩ | Count=>exact ⟨f11,_,cls_Count,⟨a11_Count,fn11,F11.kp⟩,(T11.mono (by decide)).imp (fun vs H Q E h=>⟨.Count,h⟩),bd11⟩ | Joined=>exact ⟨f11,_,cls_Joined,⟨a11_Joined,fn11,F11.kp⟩,(T11.mono (by decide)).imp (fun vs H Q E h=>⟨.Joined,h⟩),bd11⟩ | NoSquare=>exact ⟨f11,_,cls_NoSquare,⟨a11_NoSquare,fn11,F11.kp⟩,(T11.mono (by decide)).imp (fun vs H Q E h=>⟨.NoSquare,h⟩),bd11⟩ | Ring=>exact ⟨f11,_,cls_Ring,⟨a11_Ring,fn11,F11.kp⟩,(T11.mono (by decide)).imp (fun vs H Q E h=>⟨.Ring,h⟩),bd11⟩⟩
 have bd12:Binds K fd12 ["self"] []:=lQ F12
 have T12:FnOk l.prog w K mg base CX0 1 f12 fd12 _ (hJ K c):=ub (c:=c) B FK_c_mark F12
 have Cm:MCal l.prog w K mg base c c.ok 1 "sign" ["self"] (gF K c):=⟨fun i hi=>by cases i with | Rule=>exact (Bool.false_ne_true hi).elim | Unlike=>exact ⟨f12,_,cls_Unlike,⟨a12_Unlike,fn12,F12.kp⟩,(T12.mono (by decide)).imp (fun vs H Q E h=>⟨.Unlike,h⟩),bd12⟩ | Sum=>exact ⟨f12,_,cls_Sum,⟨a12_Sum,fn12,F12.kp⟩,(T12.mono (by decide)).imp (fun vs H Q E h=>⟨.Sum,h⟩),bd12⟩ | Rising=>exact ⟨f12,_,cls_Rising,⟨a12_Rising,fn12,F12.kp⟩,(T12.mono (by decide)).imp (fun vs H Q E h=>⟨.Rising,h⟩),bd12⟩ | Seen=>exact ⟨f12,_,cls_Seen,⟨a12_Seen,fn12,F12.kp⟩,(T12.mono (by decide)).imp (fun vs H Q E h=>⟨.Seen,h⟩),bd12⟩ | Count=>exact ⟨f12,_,cls_Count,⟨a12_Count,fn12,F12.kp⟩,(T12.mono (by decide)).imp (fun vs H Q E h=>⟨.Count,h⟩),bd12⟩ | Joined=>exact ⟨f12,_,cls_Joined,⟨a12_Joined,fn12,F12.kp⟩,(T12.mono (by decide)).imp (fun vs H Q E h=>⟨.Joined,h⟩),bd12⟩ | NoSquare=>exact ⟨f12,_,cls_NoSquare,⟨a12_NoSquare,fn12,F12.kp⟩,(T12.mono (by decide)).imp (fun vs H Q E h=>⟨.NoSquare,h⟩),bd12⟩ | Ring=>exact ⟨f12,_,cls_Ring,⟨a12_Ring,fn12,F12.kp⟩,(T12.mono (by decide)).imp (fun vs H Q E h=>⟨.Ring,h⟩),bd12⟩⟩
 have DP:Cal l.prog w K mg base _ _ _ (dw K):=m6 (uc B EG CH F13) F13 (PySem.W.mg_of X G a13)
 have bd14:Binds K fd14 ["self"] []:=lQ F14
 have T14:FnOk l.prog w K mg base CX0 1 f14 fd14 _ (eV K c d):=qy (c:=c) (d:=d) B FK_d_floor F14
 have A7:MCal l.prog w K mg base d d.ok 1 "place" ["self"] (de K c d):=⟨fun i hi=>by cases i; exact ⟨f14,_,cls_Puzzle,⟨a14_Puzzle,fn14,F14.kp⟩,(T14.mono (by decide)).imp (fun vs H Q E h=>h),bd14⟩⟩
 have bd15:Binds K fd15 ["self"] []:=lQ F15
 have T15:FnOk l.prog w K mg base CX0 1 f15 fd15 _ (e6 K c d):=qz (c:=c) (d:=d) B FK_d_given F15
 have Gk:MCal l.prog w K mg base d d.ok 1 "clues" ["self"] (lF K c d):=⟨fun i hi=>by cases i; exact ⟨f15,_,cls_Puzzle,⟨a15_Puzzle,fn15,F15.kp⟩,(T15.mono (by decide)).imp (fun vs H Q E h=>h),bd15⟩⟩
 have bd16:Binds K fd16 ["self"] []:=lQ F16
 have T16:FnOk l.prog w K mg base CX0 1 f16 fd16 _ (e9 K c d):=qA (c:=c) (d:=d) B FK_d_laws F16
 have A6:MCal l.prog w K mg base d d.ok 1 "rules" ["self"] (df K c d):=⟨fun i hi=>by cases i; exact ⟨f16,_,cls_Puzzle,⟨a16_Puzzle,fn16,F16.kp⟩,(T16.mono (by decide)).imp (fun vs H Q E h=>h),bd16⟩⟩
 have AK:Cal l.prog w K mg base _ _ _ (aL K):=bX (qB B F17) F17 (PySem.W.mg_of X G a17)
 have DA:Cal l.prog w K mg base _ _ _ (cx K):=m6 (rY B F18) F18 (PySem.W.mg_of X G a18)
 have DQ:Cal l.prog w K mg base _ _ _ (dA K):=bX (ud B F19) F19 (PySem.W.mg_of X G a19)
 have Cr:Cal l.prog w K mg base _ _ _ (bM K):=qW (o5 B F20) F20 (PySem.W.mg_of X G a20)
 have A8:Cal l.prog w K mg base _ _ _ (bT K):=bX (ue B BX_divmod F21) F21 (PySem.W.mg_of X G a21)
 have AW:Cal l.prog w K mg base _ _ _ (aW K):=bX (n6 B AT F22) F22 (PySem.W.mg_of X G a22)
 have A0:Cal l.prog w K mg base _ _ _ (bL K):=bX (xV B Cg F23) F23 (PySem.W.mg_of X G a23)
 have DR:Cal l.prog w K mg base _ _ _ (du K):=bX (uf B Cg F24) F24 (PySem.W.mg_of X G a24)
 have EH:Cal l.prog w K mg base _ _ _ (fV K):=bX (wk B Fy A5 F25) F25 (PySem.W.mg_of X G a25)
 have DW:Cal l.prog w K mg base _ _ _ (ee K):=m6 (uP B A5 F26) F26 (PySem.W.mg_of X G a26)
 have Ch:Cal l.prog w K mg base _ _ _ (c7 K):=bX (wl B AT AM F27) F27 (PySem.W.mg_of X G a27)
 have EI:Cal l.prog w K mg base _ _ _ (fW K c):=bX (wm (c:=c) B GJ Cj F28) F28 (PySem.W.mg_of X G a28)
 have AY:Cal l.prog w K mg base _ _ _ (bB K c):=bX (xW (c:=c) B BF F29) F29 (PySem.W.mg_of X G a29)
 have Bb:Cal l.prog w K mg base _ _ _ (cf K):=bX (uQ B A5 F30) F30 (PySem.W.mg_of X G a30)
 have A4:Cal l.prog w K mg base _ _ _ (bo K):=im (o8 B DP F31) F31 (PySem.W.mg_of X G a31)
 have Dw:Cal l.prog w K mg base _ _ _ (cW K):=im (rZ B AT AM F32) F32 (PySem.W.mg_of X G a32)
 have Ck:Cal l.prog w K mg base _ _ _ (bR K):=t7 (r8 B AK F33) F33 (PySem.W.mg_of X G a33)
 have DC:Cal l.prog w K mg base _ _ _ (cy K):=t7 (sd B AK F34) F34 (PySem.W.mg_of X G a34)
 have BL:Cal l.prog w K mg base _ _ _ (bx K):=t8 (ng B A8 DQ BX_divmod F35) F35 (PySem.W.mg_of X G a35)
 have D0:Cal l.prog w K mg base _ _ _ (cY K):=im (uR B A8 F36) F36 (PySem.W.mg_of X G a36)
 have B1:Cal l.prog w K mg base _ _ _ (bF K):=qW (n9 B AK F37) F37 (PySem.W.mg_of X G a37)
 have DY:Cal l.prog w K mg base _ _ _ (d9 K):=im (uS B AW Du CZ Dv F38) F38 (PySem.W.mg_of X G a38)
 have EJ:Cal l.prog w K mg base _ _ _ (fS K):=m6 (wn B DR AM DS F39) F39 (PySem.W.mg_of X G a39)
 have DN:Cal l.prog w K mg base _ _ _ (dU K):=im (wo B A0 F40) F40 (PySem.W.mg_of X G a40)
 have AX:Cal l.prog w K mg base _ _ _ (br K):=bX (uT B EH F41) F41 (PySem.W.mg_of X G a41)
 have Ci:Cal l.prog w K mg base _ _ _ (c8 K):=bX (wp B AW F42) F42 (PySem.W.mg_of X G a42)
 have CI:Cal l.prog w K mg base _ _ _ (cr K c d):=t7 (qC (c:=c) (d:=d) B EI AT A6 BF F43) F43 (PySem.W.mg_of X G a43)
 have CL:Cal l.prog w K mg base _ _ _ (cz K c):=qW (qD (c:=c) B Bd AY DW F44) F44 (PySem.W.mg_of X G a44)
 have Co:Cal l.prog w K mg base _ _ _ (cc K c d):=bX (o9 (c:=c) (d:=d) B AY A6 F45) F45 (PySem.W.mg_of X G a45)
 have CM:Cal l.prog w K mg base _ _ _ (dE K):=im (xX B A0 F46) F46 (PySem.W.mg_of X G a46)
 have BG:Cal l.prog w K mg base _ _ _ (bA K):=im (qE B A4 F47) F47 (PySem.W.mg_of X G a47)
 have Dx:Cal l.prog w K mg base _ _ _ (cU K):=bX (se B AM A4 F48) F48 (PySem.W.mg_of X G a48)
 have EK:Cal l.prog w K mg base _ _ _ (fU K c):=qW (wq (c:=c) B Gj Fz DX GK FA GL K_Sum FB F49) F49 (PySem.W.mg_of X G a49)
 have Cp:Cal l.prog w K mg base _ _ _ (b6 K):=bX (pc B Dw F50) F50 (PySem.W.mg_of X G a50)
 have DB:Cal l.prog w K mg base _ _ _ (cB K):=bX (sf B AK Ck F51) F51 (PySem.W.mg_of X G a51)
 have DU:Cal l.prog w K mg base _ _ _ (dz K c d):=bX (ug (c:=c) (d:=d) B CI Ch Ci AT A7 G_KINDS F52) F52 (PySem.W.mg_of X G a52)
 have A9:Cal l.prog w K mg base _ _ _ (bS K):=bX (uh B AX F53) F53 (PySem.W.mg_of X G a53)
 have CK:Cal l.prog w K mg base _ _ _ (cw K c):=qW (qF (c:=c) B AX AY F54) F54 (PySem.W.mg_of X G a54)
 have Cl:Cal l.prog w K mg base _ _ _ (b7 K c):=t8 (pe (c:=c) B Ci Bb A3 AY BF F55) F55 (PySem.W.mg_of X G a55)
 have A2:Cal l.prog w K mg base _ _ _ (bh K):=im (oa B EJ F56) F56 (PySem.W.mg_of X G a56)
 have Ba:Cal l.prog w K mg base _ _ _ (bd K):=qW (kq B AX Ch F57) F57 (PySem.W.mg_of X G a57)
 have DZ:Cal l.prog w K mg base _ _ _ (d8 K):=im (uU B AM Dx G_OF_ALL_CELLS F58) F58 (PySem.W.mg_of X G a58)
 have Cq:Cal l.prog w K mg base _ _ _ (b5 K):=m6 (pf B DY F59) F59 (PySem.W.mg_of X G a59)
 have BK:Cal l.prog w K mg base _ _ _ (bw K c d):=im (nn (c:=c) (d:=d) B CJ CK CL Cl Gk A7 A6 F60) F60 (PySem.W.mg_of X G a60)
 have B0:Cal l.prog w K mg base _ _ _ (bU K c):=t8 (oe (c:=c) B A9 A3 A2 Cm F61) F61 (PySem.W.mg_of X G a61)
 have Cn:Cal l.prog w K mg base _ _ _ (b8 K c):=t8 (ph (c:=c) B Ba AY DN A5 Cm F62) F62 (PySem.W.mg_of X G a62)
 have CN:Cal l.prog w K mg base _ _ _ (cA K c):=t8 (qG (c:=c) B CM A0 AX Bb A9 A3 Cm F63) F63 (PySem.W.mg_of X G a63)
 have BH:Cal l.prog w K mg base _ _ _ (bN K c d):=bX (no (c:=c) (d:=d) B CM A0 AM A2 A7 F64) F64 (PySem.W.mg_of X G a64)
 have DT:Cal l.prog w K mg base _ _ _ (dy K c):=bX (ui (c:=c) B DZ BG EK C0 G_WITH_NUMBER G_WITH_SIGN F65) F65 (PySem.W.mg_of X G a65)
 have Be:Cal l.prog w K mg base _ _ _ (bf K c d):=im (l8 (c:=c) (d:=d) B Cn B0 CN A7 A6 F66) F66 (PySem.W.mg_of X G a66)
 have Dt:Cal l.prog w K mg base _ _ _ (dg K c d):=bX (uV (c:=c) (d:=d) B Co BH G_LINE_KINDS G_NUMBER_KINDS F67) F67 (PySem.W.mg_of X G a67)
 have Dz:Cal l.prog w K mg base _ _ _ (cV K c):=bX (sh (c:=c) B DT Dy F68) F68 (PySem.W.mg_of X G a68)
 have EL:Cal l.prog w K mg base _ _ _ (dB K c d):=im (wr (c:=c) (d:=d) B BK Be G_LINE_KINDS G_NUMBER_KINDS F69) F69 (PySem.W.mg_of X G a69)
 have bd70:Binds K fd70 ["self","floor","lines","clues"] []:=yI F70
 have T70:FnOk l.prog w K mg base CX0 7 f70 fd70 _ (bb K c d):=nr (c:=c) (d:=d) B Cp Cq Dz FK_d_floor FK_d_given FK_d_laws F70
 have FC:KCal l.prog w K mg base _ "Puzzle" (d.A .Puzzle) _ (bb K c d):=⟨f70,_,⟨Eo,D5,fn70,Ep⟩,T70,PySem.W.mg_of X G FI,bd70⟩
 have DD:Cal l.prog w K mg base _ _ _ (cC K c d):=im (si (c:=c) (d:=d) B Dt F71) F71 (PySem.W.mg_of X G a71)
 have DO:Cal l.prog w K mg base _ _ _ (cP K c d):=im (wt (c:=c) (d:=d) B DU EL F72) F72 (PySem.W.mg_of X G a72)
 have C2:Cal l.prog w K mg base _ _ _ (ca K c d):=t7 (qX (c:=c) (d:=d) B AK FC F73) F73 (PySem.W.mg_of X G a73)
 exact (Ah (c:=c) (d:=d) B Cr BL AK D0 B1 DA DB DC C2 DD DO F74).imp fun vs H Q E h=>by obtain ⟨a,ns,e,hS,hn,k⟩:=h; exact ⟨a,ns,e,hS,hn,fun k hk=>by cases k <;> first | rfl | exact absurd rfl hk,rfl,k⟩
theorem walk {l:PySem.W.OpenLaw} {q:Program} {loose:List Str} {XP:(Str→Option Value)→Heap→Prop} {YP:World→Heap→Prop} {d:DefRec} {K:Params→PySem.W.Frag} (hn:l.most=some 63) (hdf:d.params.defaults=[])
  (hY:∀ (w:World) (h:Heap),YP w h→(K w.params).In h)
  (F:∀ (w:World) (mg:Str→Option Value) (fa:Addr) (h:Heap),(K w.params).In h→h.Ns mainGlobals mg→mg d.name=some (.ref fa)→
   ∃ fd:FuncData,(∀ (s:Shared) (u:Value),BindsTo s fd ⟨[u],[]⟩ [("_law_script",u)])∧∀ base:Heap,(K w.params).In base→base.Ns mainGlobals mg→FnOk l.prog w (K w.params) mg base CX0 10 fa fd ["_law_script"] (qV (K w.params))):
  PySem.W.WalkO q loose XP YP l.row.toRowW d [] (fun f vs=>PySem.call f vs):=
 L2.yV (n:=63) (k:=10) (x:="_law_script") (CX:=fun _=>CX0) (sp:=fun w=>qV (K w.params)) hn (by decide) hdf ⟨rfl,by decide,by decide⟩ hY F (fun _ _ a ns hl _ hS=>⟨a,ns,rfl,hS,hl,fun _=>rfl⟩) fun _ _ _ _ _ z=>z
end L2
namespace PySem.W.Fast
def tw4078036796896311290:=()
def tw9368655938505645023:=()
def tw8721708645655914775:=()
def tw8185593061165274325:=()
def tw6721046565461524627:=()
def tw6923466039550035166:=()
def tw6710189964360732997:=()
def tw17496981672902326239:=()
def tw16877471296158409053:=()
def tw5576675337426977586:=()
def tw5896583345389269192:=()
def tw13448215462170312777:=()
def tw3213914130755887840:=()
def tw9194598077048045124:=()
def tw5697911732190719352:=()
def tw8765949331853265958:=()
def tw9024347159155401587:=()
def tw2433406254045532122:=()
def tw8172075068849054072:=()
def tw17127985625045596292:=()
def tw10372250210748949336:=()
def tw3170012092355627495:=()
def tw14547885561306332469:=()
def tw8033521546077355670:=()
def tw12006209471191407893:=()
def tw6994383436555522800:=()
def tw15183863952762418413:=()
def tw15536654114102884231:=()
def tw5481552489997660148:=()
def tw4700256083398494619:=()
def tw114764393929153421:=()
def tw7984843677775082718:=()
def tw13444481161339323167:=()
def tw4174124960283633369:=()
def tw1099561559618629903:=()
def tw12132331298347896469:=()
def tw8102935973345092989:=()
def tw11301782262299453767:=()
def tw10737139577986766026:=()
def tw15334461727404759261:=()
def tw12612421928955192733:=()
def tw898709777246480979:=()
def tw15922242848819394489:=()
def tw5336887028497081575:=()
def tw12654240236964819579:=()
def tw13972520560647075206:=()
def tw3205447547636688784:=()
def tw15320361123820570996:=()
def tw16877373809927674619:=()
def tw7410897899863694841:=()
def tw8712417774543815961:=()
def tw2709095394664570198:=()
def tw7367459263104067098:=()
def tw14737746730898902517:=()
def tw551622505963490981:=()
def tw16903835572667650435:=()
def tw1134342503487201938:=()
def tw15535275264667042864:=()
def tw534443772149610832:=()
def tw14574689929158907741:=()
def tw9314716555542910567:=()
def tw7884913377869418999:=()
def tw4982982151613531318:=()
def tw8521367914503374498:=()
def tw11313430711571207162:=()
def tw10893912721647507589:=()
def tw11433671959348126717:=()
def tw3153624235270485915:=()
def tw4853613817736610300:=()
def tw11363400510089911219:=()
def tw392404520655784962:=()
def tw15288394166411932212:=()
def tw3255065625743880329:=()
def tw14753857794837197323:=()
def tw13007318555324512858:=()
def tw12803723820003567280:=()
def tw7932187458918633102:=()
def tw17570445561791071754:=()
def tw10176882485898049836:=()
def tw14495024287505290282:=()
def tw7130613794855922827:=()
def tw7755080319855520339:=()
def tw2448350380670666432:=()
def tw1306252764817130871:=()
def tw3051623111345654310:=()
def tw3304394419137349480:=()
def tw12521939108080038736:=()
def tw13716952820926807653:=()
def tw1246502701775995895:=()
def tw5003716587352277892:=()
def tw14509757185023104815:=()
def tw16594414836681060448:=()
def tw6105329304019330801:=()
def tw10867532174499744324:=()
def tw692789370530310546:=()
def tw2917136332926680097:=()
def tw8949899743420936798:=()
def tw10326292633069407730:=()
def tw11855135525944186858:=()
def tw3507640779707070432:=()
def tw6372251055024866291:=()
def tw17878817989031670864:=()
def tw11608336814255392683:=()
def tw18081711138766536531:=()
def tw7625840197434328152:=()
def tw3083468339144720900:=()
def tw5339961886098103340:=()
def tw16670912463462834670:=()
def tw11978572372984066647:=()
def tw2303118287507601778:=()
def tw16895466810761430409:=()
def tw15468012516794214015:=()
def tw16969413034020707301:=()
def tw16831030907360995388:=()
def tw15727913339088411947:=()
def tw10274683345561770700:=()
def tw15993227505532981602:=()
def tw18187925246883201931:=()
def tw2238853896166096351:=()
def tw6778213643937945164:=()
def tw9594964803476084475:=()
def tw5947434083509441220:=()
def tw10763519940149302943:=()
def tw17199695674719239286:=()
def tw253711277641503242:=()
def tw2688849216779413210:=()
def tw2871008029515045805:=()
def tw4532063343958335822:=()
def tw16511574454841189952:=()
def tw11338207449113532095:=()
def tw7240476491130438214:=()
def tw10639130895258843151:=()
def tw12294658751594175938:=()
def tw9806675335070895073:=()
def tw9932103969447260492:=()
def tw6072548538830481759:=()
def tw6910412212085605504:=()
def tw7432570751848507397:=()
def tw8583377170857526785:=()
def tw844446079419994513:=()
def tw1383550787212164019:=()
def tw9409223953025321450:=()
def tw288490319624573501:=()
def tw4313481808809562019:=()
def tw1947873894563133614:=()
def tw1079758199011413087:=()
def tw9153944790465951391:=()
def tw6008429862074119280:=()
def tw12885615799873097830:=()
def tw12331030513239924764:=()
def tw17485323440931429199:=()
def tw14851498248816698710:=()
def tw16637314917392824417:=()
def tw7308814620634469694:=()
def tw15500042281776902563:=()
def tw8900387168438135086:=()
def tw12676834039499186791:=()
def tw12074865314474014846:=()
def tw3359701429298091123:=()
def tw7057066195495315013:=()
def tw16553842094573370532:=()
def tw11322183039503950031:=()
def tw932545869688720022:=()
def tw4729017255225240031:=()
def tw9863086358143291468:=()
def tw4507283998722636195:=()
def tw11408160345096167155:=()
def tw125884038434300847:=()
def tw3421434134500529449:=()
def tw4549593420149222748:=()
def tw17183991885692829636:=()
def tw7346540809993467711:=()
def tw14361080360689195457:=()
def tw15873309611456523546:=()
def tw14660914761663863626:=()
def tw14516299999173653158:=()
def tw17549492405942066878:=()
def tw7333388958687099438:=()
def tw7383539266199569594:=()
def tw7310315562230601244:=()
def tw16619650239383991887:=()
def tw15505985702464955597:=()
def tw6851163073187131545:=()
def tw8791274852719966296:=()
def tw2205218205887622376:=()
def tw5799704163685619337:=()
def tw4874900395330970243:=()
def tw17886292254572728545:=()
def tw13473563075884057388:=()
def tw18163648214343215619:=()
def tw15428013721632435594:=()
def tw17048503165385706115:=()
def tw2292582807947121182:=()
def tw7645663211639302953:=()
def tw12640194432533959239:=()
def tw9905764332379612533:=()
def tw4020047639099323173:=()
def tw10403857134010528907:=()
def tw12481125343999052995:=()
def tw2530283513796208107:=()
def tw16650503028330369440:=()
def tw16484113293954444391:=()
def tw12936911693992208511:=()
def tw2344882136410664158:=()
def tw17083251347100801476:=()
def tw10826518177804563085:=()
def tw8042326579587423346:=()
def tw17809855645682932089:=()
def tw11909380165650963386:=()
def tw9043467361572914207:=()
def tw12565217804876313603:=()
def tw15509748128434743383:=()
def tw7040638956520854940:=()
def tw6079996297741985578:=()
def tw15507246431783459651:=()
def tw17990797208716348913:=()
def tw9802999431888138274:=()
def tw8487371310819211355:=()
def tw7888145146886739018:=()
def tw13537412757237773493:=()
def tw13990594711444805380:=()
def tw17754437350972814806:=()
def tw11931202160372136047:=()
def tw3852343082641201025:=()
def tw6644905667265068289:=()
def tw3106904704867008534:=()
def tw10686298140688123443:=()
def tw9158167461441363631:=()
def tw11253278195415945704:=()
def tw221826813836703089:=()
def tw11917203549922726439:=()
def tw5024575074787163081:=()
def tw761150619495573586:=()
def tw17762751216427179929:=()
def tw12546406599111610722:=()
def tw14162980470107562502:=()
def tw4406830549583730259:=()
def tw17731462380809393465:=()
def tw9154183372270169683:=()
def tw15048923383990296591:=()
def tw15614395607953798847:=()
def tw17940120432789635134:=()
def tw15813629582569378117:=()
def tw16668831589806380908:=()
def tw16018562816348862258:=()
def tw13077213894931239369:=()
def tw1824386929606114504:=()
def tw16348385969147698922:=()
def tw14060307502236741473:=()
def tw16076446197282751527:=()
def tw1256199299497110416:=()
def tw17424770342134062167:=()
def tw15059798520674956925:=()
def tw15906187582150524968:=()
def tw5996878126137048329:=()
def tw14499732251615073224:=()
def tw4014953770698123100:=()
def tw5673130938130433824:=()
def tw11168586732486282866:=()
def tw12437228134945059499:=()
def tw13339609749917572118:=()
def tw16518562739578654302:=()
def tw7552586216180766048:=()
def tw12063400965182414570:=()
def tw17307316192413588891:=()
def tw10182482936038716773:=()
def tw17749226380672474754:=()
def tw612538769075788289:=()
def tw9794362103119529957:=()
def tw9481794144802804351:=()
def tw4176783508129144202:=()
def tw2199408356873333657:=()
def tw11208365106710405958:=()
def tw17364660176273876724:=()
def tw11210209424163572664:=()
def tw4846672679081047346:=()
def tw10918458859352983522:=()
def tw8040377254001148250:=()
def tw9509079990522582959:=()
def tw17161780484468364773:=()
def tw7050039400226723736:=()
def tw11156982718643583865:=()
def tw3714696489612163350:=()
def tw10907022454634264953:=()
def tw15926960974513298987:=()
def tw13756269833971619212:=()
def tw13266604031066864880:=()
def tw16530269913227648550:=()
def tw17114252906269270270:=()
def tw16131339078895019182:=()
def tw4482024711318021550:=()
def tw10577669643015795919:=()
def tw9349300622361832767:=()
def tw549088086833060254:=()
end PySem.W.Fast
open PySem PySem.W PyProof.Rows
set_option maxRecDepth 100000 in
set_option maxHeartbeats 0 in
theorem PySem.Challenge.cw_cluemaker_k31_what_it_rests_on_holds : PySem.Challenge.rw_cluemaker_k31_what_it_rests_on.Holds := by
  w_on; o_law; k_head; (case hw => w_witness2)
  k_fill
  refine L2.walk (l := PySem.Challenge.rw_cluemaker_k31_what_it_rests_on) rfl rfl (fun w h Y => PySem.W.kIn_of Y) ?F
  case F =>
    intro w mg fa h KX G hmg
    refine' L2.Ai KX G hmg ?FF ?q_Sum ?FG ?GT ?Gs ?FH ?D1 ?GU ?FI ?a0 ?a1 ?a2 ?a3 ?a4 ?a5 ?a6 ?a7 ?a8 ?D2 ?Gu ?D3 ?FJ ?E7 ?D4 ?DF ?FK ?a10_Unlike ?a10_Sum ?a10_Rising ?a10_Seen ?a10_Count ?a10_Joined ?a10_NoSquare ?a10_Ring ?a11_Unlike ?a11_Sum ?a11_Rising ?a11_Seen ?a11_Count ?a11_Joined ?a11_NoSquare ?a11_Ring ?a12_Unlike ?a12_Sum ?a12_Rising ?a12_Seen ?a12_Count ?a12_Joined ?a12_NoSquare ?a12_Ring ?a13 ?a14_Puzzle ?a15_Puzzle ?a16_Puzzle ?a17 ?a18 ?a19 ?a20 ?a21 ?a22 ?a23 ?a24 ?a25 ?a26 ?a27 ?a28 ?a29 ?a30 ?a31 ?a32 ?a33 ?a34 ?a35 ?a36 ?a37 ?a38 ?a39 ?a40 ?a41 ?a42 ?a43 ?a44 ?a45 ?a46 ?a47 ?a48 ?a49 ?a50 ?a51 ?a52 ?a53 ?a54 ?a55 ?a56 ?a57 ?a58 ?a59 ?a60 ?a61 ?a62 ?a63 ?a64 ?a65 ?a66 ?a67 ?a68 ?a69 ?D5 ?a71 ?a72 ?a73 ?a74 ?F0 ?F1 ?F2 ?F3 ?F4 ?F5 ?F6 ?F7 ?F8 ?F9 ?fn9 ?F10 ?fn10 ?F11 ?fn11 ?F12 ?fn12 ?F13 ?F14 ?fn14 ?F15 ?fn15 ?F16 ?fn16 ?F17 ?F18 ?F19 ?F20 ?F21 ?F22 ?F23 ?F24 ?F25 ?F26 ?F27 ?F28 ?F29 ?F30 ?F31 ?F32 ?F33 ?F34 ?F35 ?F36 ?F37 ?F38 ?F39 ?F40 ?F41 ?F42 ?F43 ?F44 ?F45 ?F46 ?F47 ?F48 ?F49 ?F50 ?F51 ?F52 ?F53 ?F54 ?F55 ?F56 ?F57 ?F58 ?F59 ?F60 ?F61 ?F62 ?F63 ?F64 ?F65 ?F66 ?F67 ?F68 ?F69 ?F70 ?fn70 ?F71 ?F72 ?F73 ?F74 ?D6 ?D7 ?D8 ?D9 ?Ea ?Eb ?Gv ?Gw ?Gx ?Gy ?Gz ?GA ?Ec ?Ed ?Ee ?Ef ?Eg ?Eh ?FL ?FM ?FN ?FO ?FP ?FQ ?E8 ?E9 ?Fa ?Fb ?Fc ?Fd ?Ei ?Ej ?Ek ?El ?Em ?En ?DG ?DH ?DI ?DJ ?DK ?DL ?FR ?FS ?FT ?FU ?FV ?FW ?Eo ?Ep ?Er ?Es ?Et ?Eu ?BB ?Cu ?BC ?B3 ?BM ?BD ?Bc ?B4 ?BN ?CP ?BO ?Cv ?B5 ?BP ?Bf ?Cw ?BQ ?CQ ?BR ?Cy ?B6 ?BS ?Bg ?Cz ?B7 ?C4 ?B8 ?CS ?CA ?B9 ?BE ?CT ?BT ?CU ?BU ?CB ?Ca ?BV ?Bh ?CC ?BW ?BX ?Cb ?Fe ?Ff ?CV ?CW ?Cc ?Cd ?Ce ?Cf ?CD ?CF ?C5 ?C6 ?BY ?BZ ?Bi ?Bj ?Bk ?Bl ?Bm ?Bn ?Bo ?Bp ?Bq ?Br ?Bs ?Bu ?Bv ?Bw ?Bx ?By ?Bz ?BA ?Ev ?C7 ?CG ?CY ?C8 ?DM ?C9 ?z_len ?z_abs ?z_min ?z_max ?z_sorted ?z_any ?z_isinstance ?z_list ?z_int ?z_bool ?z_str ?z_tuple ?z_reversed ?z_set ?z_range ?z_zip ?z_all ?z_sum ?z_enumerate ?z_divmod
    (case FF => k_is)
    (case q_Sum => k_is)
    (case FG => k_is)
    (case GT => k_is)
    (case Gs => k_is)
    (case FH => k_is)
    (case D1 => k_is)
    (case GU => k_is)
    (case FI => k_is)
    (case a0 => k_is)
    (case a1 => k_is)
    (case a2 => k_is)
    (case a3 => k_is)
    (case a4 => k_is)
    (case a5 => k_is)
    (case a6 => k_is)
    (case a7 => k_is)
    (case a8 => k_is)
    (case D2 => k_is)
    (case Gu => k_is)
    (case D3 => k_is)
    (case FJ => k_is)
    (case E7 => k_is)
    (case D4 => k_is)
    (case DF => k_is)
    (case FK => k_is)
    (case a10_Unlike => k_is)
    (case a10_Sum => k_is)
    (case a10_Rising => k_is)
    (case a10_Seen => k_is)
    (case a10_Count => k_is)
    (case a10_Joined => k_is)
    (case a10_NoSquare => k_is)
    (case a10_Ring => k_is)
    (case a11_Unlike => k_is)
    (case a11_Sum => k_is)
    (case a11_Rising => k_is)
    (case a11_Seen => k_is)
    (case a11_Count => k_is)
    (case a11_Joined => k_is)
    (case a11_NoSquare => k_is)
    (case a11_Ring => k_is)
    (case a12_Unlike => k_is)
    (case a12_Sum => k_is)
    (case a12_Rising => k_is)
    (case a12_Seen => k_is)
    (case a12_Count => k_is)
    (case a12_Joined => k_is)
    (case a12_NoSquare => k_is)
    (case a12_Ring => k_is)
    (case a13 => k_is)
    (case a14_Puzzle => k_is)
    (case a15_Puzzle => k_is)
    (case a16_Puzzle => k_is)
    (case a17 => k_is)
    (case a18 => k_is)
    (case a19 => k_is)
    (case a20 => k_is)
    (case a21 => k_is)
    (case a22 => k_is)
    (case a23 => k_is)
    (case a24 => k_is)
    (case a25 => k_is)
    (case a26 => k_is)
    (case a27 => k_is)
    (case a28 => k_is)
    (case a29 => k_is)
    (case a30 => k_is)
    (case a31 => k_is)
    (case a32 => k_is)
    (case a33 => k_is)
    (case a34 => k_is)
    (case a35 => k_is)
    (case a36 => k_is)
    (case a37 => k_is)
    (case a38 => k_is)
    (case a39 => k_is)
    (case a40 => k_is)
    (case a41 => k_is)
    (case a42 => k_is)
    (case a43 => k_is)
    (case a44 => k_is)
    (case a45 => k_is)
    (case a46 => k_is)
    (case a47 => k_is)
    (case a48 => k_is)
    (case a49 => k_is)
    (case a50 => k_is)
    (case a51 => k_is)
    (case a52 => k_is)
    (case a53 => k_is)
    (case a54 => k_is)
    (case a55 => k_is)
    (case a56 => k_is)
    (case a57 => k_is)
    (case a58 => k_is)
    (case a59 => k_is)
    (case a60 => k_is)
    (case a61 => k_is)
    (case a62 => k_is)
    (case a63 => k_is)
    (case a64 => k_is)
    (case a65 => k_is)
    (case a66 => k_is)
    (case a67 => k_is)
    (case a68 => k_is)
    (case a69 => k_is)
    (case D5 => k_is)
    (case a71 => k_is)
    (case a72 => k_is)
    (case a73 => k_is)
    (case a74 => k_is)
    (case F0 => (refine' L2.aC ?l ?c ?k; (case l => k_is); (case c => k_is); case k => k_is))
    (case F1 => (refine' L2.aC ?l ?c ?k; (case l => k_is); (case c => k_is); case k => k_is))
    (case F2 => (refine' L2.aC ?l ?c ?k; (case l => k_is); (case c => k_is); case k => k_is))
    (case F3 => (refine' L2.aC ?l ?c ?k; (case l => k_is); (case c => k_is); case k => k_is))
    (case F4 => (refine' L2.aC ?l ?c ?k; (case l => k_is); (case c => k_is); case k => k_is))
    (case F5 => (refine' L2.aC ?l ?c ?k; (case l => k_is); (case c => k_is); case k => k_is))
    (case F6 => (refine' L2.aC ?l ?c ?k; (case l => k_is); (case c => k_is); case k => k_is))
    (case F7 => (refine' L2.aC ?l ?c ?k; (case l => k_is); (case c => k_is); case k => k_is))
    (case F8 => (refine' L2.aC ?l ?c ?k; (case l => k_is); (case c => k_is); case k => k_is))
    (case F9 => (refine' L2.aC ?l ?c ?k; (case l => k_is); (case c => k_is); case k => k_is))
    (case fn9 => k_is)
    (case F10 => (refine' L2.aC ?l ?c ?k; (case l => k_is); (case c => k_is); case k => k_is))
    (case fn10 => k_is)
    (case F11 => (refine' L2.aC ?l ?c ?k; (case l => k_is); (case c => k_is); case k => k_is))
    (case fn11 => k_is)
    (case F12 => (refine' L2.aC ?l ?c ?k; (case l => k_is); (case c => k_is); case k => k_is))
    (case fn12 => k_is)
    (case F13 => (refine' L2.aC ?l ?c ?k; (case l => k_is); (case c => k_is); case k => k_is))
    (case F14 => (refine' L2.aC ?l ?c ?k; (case l => k_is); (case c => k_is); case k => k_is))
    (case fn14 => k_is)
    (case F15 => (refine' L2.aC ?l ?c ?k; (case l => k_is); (case c => k_is); case k => k_is))
    (case fn15 => k_is)
    (case F16 => (refine' L2.aC ?l ?c ?k; (case l => k_is); (case c => k_is); case k => k_is))
    (case fn16 => k_is)
    (case F17 => (refine' L2.aC ?l ?c ?k; (case l => k_is); (case c => k_is); case k => k_is))
    (case F18 => (refine' L2.aC ?l ?c ?k; (case l => k_is); (case c => k_is); case k => k_is))
    (case F19 => (refine' L2.aC ?l ?c ?k; (case l => k_is); (case c => k_is); case k => k_is))
    (case F20 => (refine' L2.aC ?l ?c ?k; (case l => k_is); (case c => k_is); case k => k_is))
    (case F21 => (refine' L2.aC ?l ?c ?k; (case l => k_is); (case c => k_is); case k => k_is))
    (case F22 => (refine' L2.aC ?l ?c ?k; (case l => k_is); (case c => k_is); case k => k_is))
    (case F23 => (refine' L2.aC ?l ?c ?k; (case l => k_is); (case c => k_is); case k => k_is))
    (case F24 => (refine' L2.aC ?l ?c ?k; (case l => k_is); (case c => k_is); case k => k_is))
    (case F25 => (refine' L2.aC ?l ?c ?k; (case l => k_is); (case c => k_is); case k => k_is))
    (case F26 => (refine' L2.aC ?l ?c ?k; (case l => k_is); (case c => k_is); case k => k_is))
    (case F27 => (refine' L2.aC ?l ?c ?k; (case l => k_is); (case c => k_is); case k => k_is))
    (case F28 => (refine' L2.aC ?l ?c ?k; (case l => k_is); (case c => k_is); case k => k_is))
    (case F29 => (refine' L2.aC ?l ?c ?k; (case l => k_is); (case c => k_is); case k => k_is))
    (case F30 => (refine' L2.aC ?l ?c ?k; (case l => k_is); (case c => k_is); case k => k_is))
    (case F31 => (refine' L2.aC ?l ?c ?k; (case l => k_is); (case c => k_is); case k => k_is))
    (case F32 => (refine' L2.aC ?l ?c ?k; (case l => k_is); (case c => k_is); case k => k_is))
    (case F33 => (refine' L2.aC ?l ?c ?k; (case l => k_is); (case c => k_is); case k => k_is))
    (case F34 => (refine' L2.aC ?l ?c ?k; (case l => k_is); (case c => k_is); case k => k_is))
    (case F35 => (refine' L2.aC ?l ?c ?k; (case l => k_is); (case c => k_is); case k => k_is))
    (case F36 => (refine' L2.aC ?l ?c ?k; (case l => k_is); (case c => k_is); case k => k_is))
    (case F37 => (refine' L2.aC ?l ?c ?k; (case l => k_is); (case c => k_is); case k => k_is))
    (case F38 => (refine' L2.aC ?l ?c ?k; (case l => k_is); (case c => k_is); case k => k_is))
    (case F39 => (refine' L2.aC ?l ?c ?k; (case l => k_is); (case c => k_is); case k => k_is))
    (case F40 => (refine' L2.aC ?l ?c ?k; (case l => k_is); (case c => k_is); case k => k_is))
    (case F41 => (refine' L2.aC ?l ?c ?k; (case l => k_is); (case c => k_is); case k => k_is))
    (case F42 => (refine' L2.aC ?l ?c ?k; (case l => k_is); (case c => k_is); case k => k_is))
    (case F43 => (refine' L2.aC ?l ?c ?k; (case l => k_is); (case c => k_is); case k => k_is))
    (case F44 => (refine' L2.aC ?l ?c ?k; (case l => k_is); (case c => k_is); case k => k_is))
    (case F45 => (refine' L2.aC ?l ?c ?k; (case l => k_is); (case c => k_is); case k => k_is))
    (case F46 => (refine' L2.aC ?l ?c ?k; (case l => k_is); (case c => k_is); case k => k_is))
    (case F47 => (refine' L2.aC ?l ?c ?k; (case l => k_is); (case c => k_is); case k => k_is))
    (case F48 => (refine' L2.aC ?l ?c ?k; (case l => k_is); (case c => k_is); case k => k_is))
    (case F49 => (refine' L2.aC ?l ?c ?k; (case l => k_is); (case c => k_is); case k => k_is))
    (case F50 => (refine' L2.aC ?l ?c ?k; (case l => k_is); (case c => k_is); case k => k_is))
    (case F51 => (refine' L2.aC ?l ?c ?k; (case l => k_is); (case c => k_is); case k => k_is))
    (case F52 => (refine' L2.aC ?l ?c ?k; (case l => k_is); (case c => k_is); case k => k_is))
    (case F53 => (refine' L2.aC ?l ?c ?k; (case l => k_is); (case c => k_is); case k => k_is))
    (case F54 => (refine' L2.aC ?l ?c ?k; (case l => k_is); (case c => k_is); case k => k_is))
    (case F55 => (refine' L2.aC ?l ?c ?k; (case l => k_is); (case c => k_is); case k => k_is))
    (case F56 => (refine' L2.aC ?l ?c ?k; (case l => k_is); (case c => k_is); case k => k_is))
    (case F57 => (refine' L2.aC ?l ?c ?k; (case l => k_is); (case c => k_is); case k => k_is))
    (case F58 => (refine' L2.aC ?l ?c ?k; (case l => k_is); (case c => k_is); case k => k_is))
    (case F59 => (refine' L2.aC ?l ?c ?k; (case l => k_is); (case c => k_is); case k => k_is))
    (case F60 => (refine' L2.aC ?l ?c ?k; (case l => k_is); (case c => k_is); case k => k_is))
    (case F61 => (refine' L2.aC ?l ?c ?k; (case l => k_is); (case c => k_is); case k => k_is))
    (case F62 => (refine' L2.aC ?l ?c ?k; (case l => k_is); (case c => k_is); case k => k_is))
    (case F63 => (refine' L2.aC ?l ?c ?k; (case l => k_is); (case c => k_is); case k => k_is))
    (case F64 => (refine' L2.aC ?l ?c ?k; (case l => k_is); (case c => k_is); case k => k_is))
    (case F65 => (refine' L2.aC ?l ?c ?k; (case l => k_is); (case c => k_is); case k => k_is))
    (case F66 => (refine' L2.aC ?l ?c ?k; (case l => k_is); (case c => k_is); case k => k_is))
    (case F67 => (refine' L2.aC ?l ?c ?k; (case l => k_is); (case c => k_is); case k => k_is))
    (case F68 => (refine' L2.aC ?l ?c ?k; (case l => k_is); (case c => k_is); case k => k_is))
    (case F69 => (refine' L2.aC ?l ?c ?k; (case l => k_is); (case c => k_is); case k => k_is))
    (case F70 => (refine' L2.aC ?l ?c ?k; (case l => k_is); (case c => k_is); case k => k_is))
    (case fn70 => k_is)
    (case F71 => (refine' L2.aC ?l ?c ?k; (case l => k_is); (case c => k_is); case k => k_is))
    (case F72 => (refine' L2.aC ?l ?c ?k; (case l => k_is); (case c => k_is); case k => k_is))
    (case F73 => (refine' L2.aC ?l ?c ?k; (case l => k_is); (case c => k_is); case k => k_is))
    (case F74 => (refine' L2.aC ?l ?c ?k; (case l => k_is); (case c => k_is); case k => k_is))
    (case D6 => k_is)
    (case D7 => k_is)
    (case D8 => k_is)
    (case D9 => k_is)
    (case Ea => k_is)
    (case Eb => k_is)
    (case Gv => k_is)
    (case Gw => k_is)
    (case Gx => k_is)
    (case Gy => k_is)
    (case Gz => k_is)
    (case GA => k_is)
    (case Ec => k_is)
    (case Ed => k_is)
    (case Ee => k_is)
    (case Ef => k_is)
    (case Eg => k_is)
    (case Eh => k_is)
    (case FL => k_is)
    (case FM => k_is)
    (case FN => k_is)
    (case FO => k_is)
    (case FP => k_is)
    (case FQ => k_is)
    (case E8 => k_is)
    (case E9 => k_is)
    (case Fa => k_is)
    (case Fb => k_is)
    (case Fc => k_is)
    (case Fd => k_is)
    (case Ei => k_is)
    (case Ej => k_is)
    (case Ek => k_is)
    (case El => k_is)
    (case Em => k_is)
    (case En => k_is)
    (case DG => k_is)
    (case DH => k_is)
    (case DI => k_is)
    (case DJ => k_is)
    (case DK => k_is)
    (case DL => k_is)
    (case FR => k_is)
    (case FS => k_is)
    (case FT => k_is)
    (case FU => k_is)
    (case FV => k_is)
    (case FW => k_is)
    (case Eo => k_is)
    (case Ep => k_is)
    (case Er => k_is)
    (case Es => k_is)
    (case Et => k_is)
    (case Eu => k_is)
    (case BB => k_is)
    (case Cu => k_is)
    (case BC => k_is)
    (case B3 => k_is)
    (case BM => k_is)
    (case BD => k_is)
    (case Bc => k_is)
    (case B4 => k_is)
    (case BN => k_is)
    (case CP => k_is)
    (case BO => k_is)
    (case Cv => k_is)
    (case B5 => k_is)
    (case BP => k_is)
    (case Bf => k_is)
    (case Cw => k_is)
    (case BQ => k_is)
    (case CQ => k_is)
    (case BR => k_is)
    (case Cy => k_is)
    (case B6 => k_is)
    (case BS => k_is)
    (case Bg => k_is)
    (case Cz => k_is)
    (case B7 => k_is)
    (case C4 => k_is)
    (case B8 => k_is)
    (case CS => k_is)
    (case CA => k_is)
    (case B9 => k_is)
    (case BE => k_is)
    (case CT => k_is)
    (case BT => k_is)
    (case CU => k_is)
    (case BU => k_is)
    (case CB => k_is)
    (case Ca => k_is)
    (case BV => k_is)
    (case Bh => k_is)
    (case CC => k_is)
    (case BW => k_is)
    (case BX => k_is)
    (case Cb => k_is)
    (case Fe => k_is)
    (case Ff => k_is)
    (case CV => k_is)
    (case CW => k_is)
    (case Cc => k_is)
    (case Cd => k_is)
    (case Ce => k_is)
    (case Cf => k_is)
    (case CD => k_is)
    (case CF => k_is)
    (case C5 => k_is)
    (case C6 => k_is)
    (case BY => k_is)
    (case BZ => k_is)
    (case Bi => k_is)
    (case Bj => first | exact rfl | with_unfolding_all rfl)
    (case Bk => k_is)
    (case Bl => first | exact rfl | with_unfolding_all rfl)
    (case Bm => k_is)
    (case Bn => first | exact rfl | with_unfolding_all rfl)
    (case Bo => k_is)
    (case Bp => first | exact rfl | with_unfolding_all rfl)
    (case Bq => k_is)
    (case Br => first | exact rfl | with_unfolding_all rfl)
    (case Bs => k_is)
    (case Bu => first | exact rfl | with_unfolding_all rfl)
    (case Bv => k_is)
    (case Bw => first | exact rfl | with_unfolding_all rfl)
    (case Bx => k_is)
    (case By => first | exact rfl | with_unfolding_all rfl)
    (case Bz => k_is)
    (case BA => first | exact rfl | with_unfolding_all rfl)
    (case Ev => k_is)
    (case C7 => k_is)
    (case CG => k_is)
    (case CY => k_is)
    (case C8 => k_is)
    (case DM => k_is)
    (case C9 => k_is)
    (case z_len => k_is)
    (case z_abs => k_is)
    (case z_min => k_is)
    (case z_max => k_is)
    (case z_sorted => k_is)
    (case z_any => k_is)
    (case z_isinstance => k_is)
    (case z_list => k_is)
    (case z_int => k_is)
    (case z_bool => k_is)
    (case z_str => k_is)
    (case z_tuple => k_is)
    (case z_reversed => k_is)
    (case z_set => k_is)
    (case z_range => k_is)
    (case z_zip => k_is)
    (case z_all => k_is)
    (case z_sum => k_is)
    (case z_enumerate => k_is)
    (case z_divmod => k_is)
