import PyProof.Rows.All
import Wide.All
import OpenK.AllK
import Wide.FinOn
import Lean
import PyProof.EqAt
import PyProof.EqKinds
import PyProof.TupleCall
import PyProof.ZipIter
import PyProof.ConsumeS
import PyProof.StrCalls2
import PyProof.StrWalks
import PyProof.SliceStr2
import PyProof.StrBlock
import PyProof.StrBlockL
import PyProof.ListIndex
import PyProof.StrLawsTight
import PyProof.StrLawsChain
import PyProof.StrLaws
import PyProof.StrLawsFirst
import PyProof.StationsW
import PyProof.ExcClass3
import PyProof.NsDelKeeps
import PyProof.RulesAs
import PyProof.ExcBaseAll.ValueError
import PyProof.ExcArgsOwn
import PyProof.ExcAttrAll.ValueError
import KE.KTryMore
import KE.RegKTryMore
import KE.RegKIsAll
import PyProof.Rows.Range3
import PyProof.Rows.SumGenD
import PyProof.Rows.RuleM_int
import PyProof.EnumMake
import PyProof.EnumFor
import PyProof.EnumStmt
import PyProof.Rows.EnumRows
import KE.KRevIter
import PyProof.ListNew
import PyProof.CollectIter
import PyProof.ListRange
import PyProof.CallStr
import PyProof.StrBlock2
import PyProof.Rows.StrMadeLen
import PyProof.Rows.SetFrom
import PyProof.SetRoads
import PyProof.MeetsStr2
import KE.KRevSl
import PyProof.Conv_int
import PySem.Challenge.RW_cluemaker_k72_puzzles_as_texts
set_option Elab.async false
set_option linter.all false
set_option maxRecDepth 100000
namespace L2
open PySem PySem.Spec PyProof.Rows
abbrev Key:=Sum Int Str
def keyIs:Key→Value→Bool
 | .inl k,v=>Value.isInt k v
 | .inr x,v=>Value.isStrOf x v
def keyH (w:World):Key→Int
 | .inl k=>hashInt k
 | .inr x=>hashStr w x
theorem bo:∀ {k:Key} {v:Value},keyIs k v=true→(∃ i t,k=Sum.inl i∧v=Value.int i t)∨(∃ x t,k=Sum.inr x∧v=Value.str x t)
 | .inl i,v,h=>by
  obtain ⟨t,e⟩:=Value.isInt_shape (k:=i) (v:=v) h
  exact .inl ⟨i,t,rfl,e⟩
 | .inr x,v,h=>by
  obtain ⟨t,e⟩:=Value.isStrOf_shape (x:=x) (v:=v) h
  exact .inr ⟨x,t,rfl,e⟩
theorem oz (i:Int) (t:Tok):keyIs (.inl i) (.int i t)=true:=by simp [keyIs,Value.isInt]
theorem oA (x:Str) (t:Tok):keyIs (.inr x) (.str x t)=true:=by simp [keyIs,Value.isStrOf]
theorem qX (a b:Int):decide ((Sum.inl a:Key)=Sum.inl b)=(a==b):=by
 by_cases e:a=b
 · subst e; simp
 · have h:¬ (Sum.inl a:Key)=Sum.inl b:=fun q=>e (Sum.inl.inj q)
   rw [decide_eq_false h]
   exact (beq_eq_false_iff_ne.mpr e).symm
theorem qY (a b:Str):decide ((Sum.inr a:Key)=Sum.inr b)=decide (a=b):=by
 by_cases e:a=b
 · subst e; simp
 · have h:¬ (Sum.inr a:Key)=Sum.inr b:=fun q=>e (Sum.inr.inj q)
   rw [decide_eq_false h,decide_eq_false e]
theorem qZ (a:Int) (b:Str):decide ((Sum.inl a:Key)=Sum.inr b)=false:=decide_eq_false (fun q=>nomatch q)
theorem q0 (a:Str) (b:Int):decide ((Sum.inr a:Key)=Sum.inl b)=false:=decide_eq_false (fun q=>nomatch q)
def cr (prog:Program) (w:World):PySem.KeyKind prog w Key where
 is:=keyIs
 hash:=keyH w
 inj:=fun v a b ha hb=>by
  rcases bo ha with ⟨i,t,rfl,rfl⟩ | ⟨x,t,rfl,rfl⟩
  · rcases bo hb with ⟨j,u,rfl,e⟩ | ⟨y,u,rfl,e⟩
    · injection e with e1 _; rw [e1]
    · exact nomatch e
  · rcases bo hb with ⟨j,u,rfl,e⟩ | ⟨y,u,rfl,e⟩
    · exact nomatch e
    · injection e with e1 _; rw [e1]
 byValue:=fun k v h=>by
  rcases bo h with ⟨i,t,rfl,rfl⟩ | ⟨x,t,rfl,rfl⟩ <;> rfl
 pyHash:=fun hv h=>by
  rcases bo hv with ⟨i,t,rfl,rfl⟩ | ⟨x,t,rfl,rfl⟩
  · exact wpAny_pyHash_int h
  · exact wpAny_pyHash_str h
 eqBool:=fun hu hv h=>by
  rcases bo hu with ⟨i,t,rfl,rfl⟩ | ⟨x,t,rfl,rfl⟩
  · rcases bo hv with ⟨j,u,rfl,rfl⟩ | ⟨y,u,rfl,rfl⟩
    · rw [qX] at h; exact wpAny_eqBool_int h
    · rw [qZ] at h; exact SeqAt.EqAt.int_str i t y u _ _ _ _ h
  · rcases bo hv with ⟨j,u,rfl,rfl⟩ | ⟨y,u,rfl,rfl⟩
    · rw [q0] at h; exact SeqAt.EqAt.str_int x t j u _ _ _ _ h
    · rw [qY] at h; exact wpAny_eqBool_str h
 «strs»:=fun k x t v h=>by
  rcases bo h with ⟨i,u,rfl,e⟩ | ⟨y,u,rfl,e⟩
  · exact nomatch e
  · injection e with e1 _
    subst e1
    cases v <;> rfl
theorem ng (prog:Program) (w:World) (i:Int) (t:Tok):(cr prog w).is (.inl i) (.int i t)=true:=oz i t
theorem nh (prog:Program) (w:World) (x:Str) (t:Tok):(cr prog w).is (.inr x) (.str x t)=true:=oA x t
end L2
namespace L2
open PySem PySem.Spec PyProof.Rows
inductive V where
 | non | bl (b:Bool) | int (i:Int) | str (x:Str) | byt (b:Array UInt8) | flt (b:UInt64) | ref (a:Addr) | ty (n:String)
 deriving DecidableEq
def RelV:V→Value→Prop
 | .non,u=>u=Value.none
 | .bl b,u=>u=Value.bool b
 | .int i,u=>∃ t,u=Value.int i t
 | .str x,u=>∃ t,u=Value.str x t
 | .byt b,u=>∃ t,u=Value.bytes b t
 | .flt b,u=>∃ t,u=Value.float b t
 | .ref a,u=>u=Value.ref a
 | .ty n,u=>u=Value.type n
abbrev Vals:List V→List Value→Prop:=Paired RelV
theorem Vals.length {xs:List V} {us:List Value} (r:Vals xs us):xs.length=us.length:=Paired.length r
theorem Vals.get:∀ {xs:List V} {us:List Value} {i:Nat} {x:V},Vals xs us→xs[i]? =some x→∃ u,us[i]? =some u∧RelV x u
 | _,_,_,_,.nil,e=>by simp at e
 | _,_,0,_,.cons r _,e=>by simp at e; subst e; exact ⟨_,rfl,r⟩
 | _,_,i+1,x,.cons _ t,e=>by
  obtain ⟨u,h1,h2⟩:=Vals.get (i:=i) (x:=x) t (by simpa using e)
  exact ⟨u,by simpa using h1,h2⟩
theorem Vals.append:∀ {xs ys:List V} {us ws:List Value},Vals xs us→Vals ys ws→Vals (xs++ys) (us++ws)
 | _,_,_,_,.nil,s=>s
 | _,_,_,_,.cons r t,s=>.cons r (Vals.append t s)
theorem Vals.take:∀ {xs:List V} {us:List Value} (n:Nat),Vals xs us→Vals (xs.take n) (us.take n)
 | _,_,0,_=>.nil
 | _,_,_+1,.nil=>.nil
 | _,_,n+1,.cons r t=>.cons r (Vals.take n t)
theorem Vals.drop:∀ {xs:List V} {us:List Value} (n:Nat),Vals xs us→Vals (xs.drop n) (us.drop n)
 | _,_,0,r=>r
 | _,_,_+1,.nil=>.nil
 | _,_,n+1,.cons _ t=>Vals.drop n t
def RelO:Option V→Option Value→Prop
 | some v,some u=>RelV v u
 | none,none=>True
 | _,_=>False
def KV {κ:Type}:List (κ × V)→List (κ × Value)→Prop:=Paired fun (p:κ × V) (q:κ × Value)=>p.1=q.1∧RelV p.2 q.2
def kV:Key→V
 | .inl i=>.int i
 | .inr x=>.str x
inductive HO where
  | lst (xs:List V)
  | tup (xs:List V)
  | dK (kvs:List (Key × V)) | dT (kvs:List (List Key × V))
  | set (S:Int→Bool) (n:Nat)
  | ins (C dx:Addr) (fs:List (Str × V))
  | own (x:Addr)
  | xd (fs:List (Str × V))
  | met (f x:Addr)
  | rng (lo hi:Int)
  | frz (o:Obj) (u:HO)
  | tbl (ps:Array Value)
  | ext (φ:Heap→Prop)
abbrev Hp:=Addr→Option HO
def upd (H:Hp) (a:Addr) (o:HO):Hp:=fun b=>if b=a then some o else H b
theorem ad {H:Hp} {a:Addr} {o:HO}:upd H a o a=some o:=by unfold upd; rw [if_pos rfl]
theorem ah {H:Hp} {a b:Addr} {o:HO} (h:b≠a):upd H a o b=H b:=by unfold upd; rw [if_neg h]
theorem aw {H:Hp} {a b:Addr} {o:HO} (h:H a=some o) (h':H b=none):a≠b:=by
 intro e; subst e; rw [h] at h'; cases h'
section
variable (P:Program) (w:World)
def ObjOk (H:Hp) (h:Heap) (a:Addr):HO→Prop
 | .lst xs=>xs.length≤sizeLine∧∃ (its:List Value) (n:Nat),Vals xs its∧h.get? a=some { cls:=.type "list",data:=.seq its.toArray n }
 | .tup xs=>xs.length≤sizeLine∧∃ its:List Value,Vals xs its∧IsTup h a its.toArray
 | .dK kvs=>kvs.length≤sizeLine∧(a==sysModules)=false∧∃ vs,KV kvs vs∧h.DictOf (cr P w) a vs
 | .dT kvs=>kvs.length≤sizeLine∧(a==sysModules)=false∧∃ xs:List (List Key × Addr × Value),
   Paired (fun (p:List Key × V) (q:List Key × Addr × Value)=>p.1=q.1∧H q.2.1=some (.tup (p.1.map kV))∧RelV p.2 q.2.2) kvs xs∧
   ∃ o es ep,h.get? a=some o∧o.ExactDict∧o.data=.dict es ep∧es.toList=xs.map (entryOfKey (tupleKind (cr P w)))∧(xs.map (·.1)).Nodup
 | .set S n=>h.SetOf (intKind P w) a S n
 | .ins C dx fs=>H dx=some (.own a)∧fs.length≤1000∧dx≠a∧h.get? a=some (PySem.W.instObj C dx)∧
   ∃ mA,h.Ns1 dx mA∧(∀ f,RelO (fs.lookup f) (mA f))∧PySem.Within mA (fs.map (·.1))
 | .own _=>∃ o,h.get? a=some o
 | .xd fs=>∃ mA,h.Ns1 a mA∧∀ f,RelO (fs.lookup f) (mA f)
 | .rng lo hi=>∃ t u v,h.get? a=some { cls:=.type "range",data:=.fields #[.int lo t,.int hi u,.int 1 v] }
 | .frz o u=>h.get? a=some o∧ObjOk H h a u
 | .tbl ps=>h.get? a=some { cls:=.none,data:=.fields ps }
 | .met f x=>h.get? a=some (PySem.W.methodObj (.ref f) (.ref x))
 | .ext φ=>φ h∧(∃ o,h.get? a=some o)∧∀ h1 h2:Heap,φ h1→(∀ o,h1.get? a=some o→h2.get? a=some o)→φ h2
def HOk (H:Hp) (h:Heap):Prop:=∀ a o,H a=some o→ObjOk P w H h a o
end
section
variable {P:Program} {w:World} {H H':Hp} {h h':Heap} {a:Addr} {o:HO}
theorem ObjOk.lt (x:ObjOk P w H h a o):a < h.objs.size:=by
 cases o with
 | lst xs=>obtain ⟨_,_,_,_,e⟩:=x; exact Heap.lt_size e
 | tup xs=>obtain ⟨_,_,_,p⟩:=x; exact p.lt
 | dK kvs=>obtain ⟨_,_,_,_,o,_,_,e,_⟩:=x; exact Heap.lt_size e
 | dT kvs=>obtain ⟨_,_,_,_,o,_,_,e,_⟩:=x; exact Heap.lt_size e
 | set S n=>obtain ⟨o,_,_,_,e,_⟩:=x; exact Heap.lt_size e
 | ins C dx fs=>obtain ⟨_,_,_,e,_⟩:=x; exact Heap.lt_size e
 | own y=>obtain ⟨_,e⟩:=x; exact Heap.lt_size e
 | xd fs=>obtain ⟨_,⟨_,_,_,e,_⟩,_⟩:=x; exact Heap.lt_size e
 | rng lo hi=>obtain ⟨_,_,_,e⟩:=x; exact Heap.lt_size e
 | frz ob u=>obtain ⟨e,_⟩:=x; exact Heap.lt_size e
 | tbl ps=>exact Heap.lt_size (show h.get? a=some _ from x)
 | met f y=>exact Heap.lt_size (show h.get? a=some _ from x)
 | ext φ=>obtain ⟨_,⟨_,e⟩,_⟩:=x; exact Heap.lt_size e
theorem Paired.mapP {α β:Type} {F G:α→β→Prop}:∀ {l₁:List α} {l₂:List β},Paired F l₁ l₂→(∀ a b,F a b→G a b)→Paired G l₁ l₂
 | _,_,.nil,_=>.nil
 | _,_,.cons r t,f=>.cons (f _ _ r) (Paired.mapP t f)
theorem ObjOk.stay (x:ObjOk P w H h a o) (k:∀ b u,(b=a∨H b=some (.own a))→h.get? b=some u→h'.get? b=some u)
  (ho:∀ b,H b=some (.own a)→H' b=some (.own a)) (ht:∀ b xs,H b=some (.tup xs)→H' b=some (.tup xs)):ObjOk P w H' h' a o:=by
 induction o with
 | lst xs=>obtain ⟨z,its,n,r,e⟩:=x; exact ⟨z,its,n,r,k _ _ (.inl rfl) e⟩
 | tup xs=>obtain ⟨z,its,r,ob,e,c⟩:=x; exact ⟨z,its,r,ob,k _ _ (.inl rfl) e,c⟩
 | dK kvs=>obtain ⟨z,y,vs,r,ob,es,ep,e,c⟩:=x; exact ⟨z,y,vs,r,ob,es,ep,k _ _ (.inl rfl) e,c⟩
 | dT kvs=>
  obtain ⟨z,y,xs,r,ob,es,ep,e,c⟩:=x
  exact ⟨z,y,xs,Paired.mapP r fun p q z=>⟨z.1,ht _ _ z.2.1,z.2.2⟩,ob,es,ep,k _ _ (.inl rfl) e,c⟩
 | set S n=>obtain ⟨ob,es,ep,t,e,c⟩:=x; exact ⟨ob,es,ep,t,k _ _ (.inl rfl) e,c⟩
 | ins C dx fs=>
  obtain ⟨d,z,ne,e,mA,⟨od,es,ep,e2,c⟩,r⟩:=x
  exact ⟨ho _ d,z,ne,k _ _ (.inl rfl) e,mA,⟨od,es,ep,k _ _ (.inr d) e2,c⟩,r⟩
 | own y=>obtain ⟨ob,e⟩:=x; exact ⟨ob,k _ _ (.inl rfl) e⟩
 | xd fs=>obtain ⟨mA,⟨od,es,ep,e,c⟩,r⟩:=x; exact ⟨mA,⟨od,es,ep,k _ _ (.inl rfl) e,c⟩,r⟩
 | rng lo hi=>obtain ⟨t,u,v,e⟩:=x; exact ⟨t,u,v,k _ _ (.inl rfl) e⟩
 | frz ob u ih=>obtain ⟨e,q⟩:=x; exact ⟨k _ _ (.inl rfl) e,ih q⟩
 | tbl ps=>
  have e:h.get? a=some { cls:=.none,data:=.fields ps }:=x
  show h'.get? a=some { cls:=.none,data:=.fields ps }
  exact k a _ (.inl rfl) e
 | met f y=>
  have e:h.get? a=some (PySem.W.methodObj (.ref f) (.ref y)):=x
  show h'.get? a=some (PySem.W.methodObj (.ref f) (.ref y))
  exact k a _ (.inl rfl) e
 | ext φ=>obtain ⟨p,⟨o,e⟩,st⟩:=x; exact ⟨st _ _ p fun o q=>k _ _ (.inl rfl) q,⟨o,k _ _ (.inl rfl) e⟩,st⟩
theorem HOk.lt (x:HOk P w H h) (e:H a=some o):a < h.objs.size:=(x a o e).lt
theorem HOk.fresh (x:HOk P w H h) (e:h.objs.size≤a):H a=none:=by
 cases q:H a with
 | none=>rfl
 | some u=>exact absurd (Nat.lt_of_lt_of_le (x.lt q) e) (Nat.lt_irrefl _)
theorem HOk.kept (x:HOk P w H h) (k:∀ b u,h.get? b=some u→h'.get? b=some u):HOk P w H h':=fun a o e=>
 (x a o e).stay (fun b u _ q=>k b u q) (fun _ q=>q) fun _ _ q=>q
theorem HOk.laid (x:HOk P w H h) (k:∀ b u,h.get? b=some u→h'.get? b=some u) (hp:h.objs.size≤a) (new:ObjOk P w (upd H a o) h' a o):HOk P w (upd H a o) h':=fun b u e=>by
 have hn:=x.fresh hp
 by_cases hb:b=a
 · subst hb; rw [ad] at e; cases e; exact new
 · rw [ah hb] at e
   exact (x b u e).stay (fun c v _ q=>k c v q) (fun c q=>by rw [ah (aw q hn)]; exact q) fun c xs q=>by rw [ah (aw q hn)]; exact q
end
def Rd (H:Hp) (a:Addr) (u:HO):Prop:=H a=some u∨∃ o,H a=some (.frz o u)
theorem Rd.ok {P:Program} {w:World} {H:Hp} {h:Heap} {a:Addr} {u:HO} (r:Rd H a u) (x:HOk P w H h):ObjOk P w H h a u:=by
 rcases r with r | ⟨o,r⟩
 · exact x a u r
 · obtain ⟨_,q⟩:=x a _ r
   exact q
def Mut:Option HO→Prop
 | some (.lst _)=>True
 | some (.dK _)=>True
 | some (.dT _)=>True
 | some (.set _ _)=>True
 | some (.ins _ _ _)=>True
 | some (.ext _)=>True
 | _=>False
section
variable {P:Program} {w:World} {H:Hp} {h h':Heap} {x e:Addr} {o':HO}
theorem HOk.write (ok:HOk P w H h) (mu:Mut (H x)) (he:e=x∨H e=some (.own x)) (k:∀ b u,b≠e→h.get? b=some u→h'.get? b=some u) (heo:∃ u,h'.get? e=some u)
  (new:ObjOk P w (upd H x o') h' x o'):HOk P w (upd H x o') h':=fun b u q=>by
 have nown:∀ c y,H c=some (.own y)→c≠x:=fun c y r z=>by subst z; rw [r] at mu; exact mu
 have ntup:∀ c xs,H c=some (.tup xs)→c≠x:=fun c xs r z=>by subst z; rw [r] at mu; exact mu
 by_cases hb:b=x
 · subst hb; rw [ad] at q; cases q; exact new
 · rw [ah hb] at q
   by_cases hbe:b=e
   · have q':H b=some (.own x):=by
      rcases he with z | z
      · exact absurd (hbe.trans z) hb
      · rw [hbe]; exact z
     rw [q] at q'; cases q'
     obtain ⟨v,hv⟩:=heo
     exact ⟨v,by rw [hbe]; exact hv⟩
   · refine (ok b u q).stay (fun c v hc r=>k c v ?_ r) (fun c r=>by rw [ah (nown c b r)]; exact r) fun c xs r=>by rw [ah (ntup c xs r)]; exact r
     rcases hc with rfl | hc
     · exact hbe
     · rintro rfl
       rcases he with z | z
       · exact nown c b hc z
       · rw [hc] at z; cases z; exact hb rfl
end
structure Un (fs ex:List Addr) (H H':Hp) (h h':Heap):Prop where
 keep:∀ b o,h.get? b=some o→H b=none→b∉fs→b∉ex→h'.get? b=some o
 slot:∀ b o,h.get? b=some o→H b=none→b∈fs→b∉ex→∃ sl,h'.get? b=some { o with slots:=sl }
 free:∀ b o,h.get? b=some o→H b=none→b∉ex→H' b=none
 there:∀ b o,h.get? b=some o→b∉ex→∃ o',h'.get? b=some o'
 tups:∀ b xs,H b=some (.tup xs)→H' b=some (.tup xs)
 frzs:∀ b o u,H b=some (.frz o u)→H' b=some (.frz o u)
 tbls:∀ b ps,H b=some (.tbl ps)→∃ more,H' b=some (.tbl (ps++more))
section
variable {fs fs' ex ex':List Addr} {H H1 H2:Hp} {h h1 h2 h':Heap} {a x e:Addr} {o:HO}
theorem Un.any (u:Un fs ex H H1 h h1) {b:Addr} {ob:Obj} (q:h.get? b=some ob) (n:H b=none) (hx:b∉ex):∃ sl,h1.get? b=some { ob with slots:=sl }:=by
 by_cases hb:b∈fs
 · exact u.slot b ob q n hb hx
 · exact ⟨ob.slots,u.keep b ob q n hb hx⟩
theorem Un.kept (k:∀ b u,h.get? b=some u→h'.get? b=some u):Un fs ex H H h h':=
 ⟨fun b ob q _ _ _=>k b ob q,fun b ob q _ _ _=>⟨ob.slots,k b ob q⟩,fun _ _ _ n _=>n,fun b ob q _=>⟨ob,k b ob q⟩,fun _ _ q=>q,fun _ _ _ q=>q,fun _ ps q=>⟨#[],by rw [q]; simp⟩⟩
theorem Un.refl:Un fs ex H H h h:=Un.kept fun _ _ q=>q
theorem Un.laid (k:∀ b u,h.get? b=some u→h'.get? b=some u) (hp:h.objs.size≤a) (hn:H a=none):Un fs ex H (upd H a o) h h' where
 keep:=fun b u q _ _ _=>k b u q
 slot:=fun b u q _ _ _=>⟨u.slots,k b u q⟩
 free:=fun b u q n _=>by rw [ah (Nat.ne_of_lt (Nat.lt_of_lt_of_le (Heap.lt_size q) hp))]; exact n
 there:=fun b u q _=>⟨u,k b u q⟩
 tups:=fun b xs q=>by rw [ah (aw q hn)]; exact q
 frzs:=fun b u xs q=>by rw [ah (aw q hn)]; exact q
 tbls:=fun b ps q=>⟨#[],by rw [ah (aw q hn),q]; simp⟩
theorem Un.write (mu:Mut (H x)) (he:e=x∨H e=some (.own x)) (k:∀ b u,b≠e→h.get? b=some u→h'.get? b=some u) (heo:∃ u,h'.get? e=some u):Un fs ex H (upd H x o) h h':=by
 have hx:∀ b,H b=none→b≠x:=fun b n z=>by subst z; rw [n] at mu; exact mu
 have hb:∀ b,H b=none→b≠e:=fun b n z=>by
  subst z
  rcases he with r | r
  · exact hx b n r
  · rw [n] at r; cases r
 have hm:∀ b u,H b=some u→¬ Mut (some u)→b≠x:=fun b u q nm z=>by subst z; rw [q] at mu; exact nm mu
 refine ⟨fun b u q n _ _=>k b u (hb b n) q,fun b u q n _ _=>⟨u.slots,k b u (hb b n) q⟩,fun b u q n _=>by rw [ah (hx b n)]; exact n,fun b u q _=>?_,
  fun b xs q=>by rw [ah (hm b _ q fun z=>z)]; exact q,fun b u xs q=>by rw [ah (hm b _ q fun z=>z)]; exact q,fun b ps q=>⟨#[],by rw [ah (hm b _ q fun z=>z),q]; simp⟩⟩
 by_cases hbe:b=e
 · subst hbe; exact heo
 · exact ⟨u,k b u hbe q⟩
end
def trk (h:Heap) (H:Hp):List Addr:=(List.range h.objs.size).filter fun a=>(H a).isSome
def hidT (h:Heap) (H:Hp):Heap:=PySem.W.hideAll h (trk h H)
theorem oB (h:Heap) (H:Hp):(hidT h H).objs.size=h.objs.size:=PySem.W.hideAll_size _ _
theorem pG {h:Heap} {H:Hp} {b:Addr} {o:Obj} (e:h.get? b=some o) (n:H b=none):(hidT h H).get? b=some o:=
 PySem.W.hideAll_get _ e fun hm=>by
  have q:(H b).isSome=true:=(List.mem_filter.mp hm).2
  rw [n] at q; simp at q
theorem qk {h:Heap} {H:Hp} {b:Addr} {o:Obj} (e:(hidT h H).get? b=some o):h.get? b=some o∧H b=none:=by
 have e':h.get? b=some o:=PySem.W.of_hideAll (trk h H) e
 refine ⟨e',?_⟩
 cases q:H b with
 | none=>rfl
 | some x=>
  have hm:b∈trk h H:=List.mem_filter.mpr ⟨List.mem_range.mpr (Heap.lt_size e'),by simp [q]⟩
  have z:(hidT h H).get? b=none:=PySem.W.hideAll_none (trk h H) hm
  rw [z] at e; cases e
end L2
namespace L2
open PySem PySem.Spec PyProof.Rows
structure Mod (K:PySem.W.Frag) (mg:Str→Option Value) (base:Heap):Prop where
 kin:K.In base
 glob:base.Ns mainGlobals mg
 blt:∃ mb,base.Ns builtinsNs mb∧∀ x:Str,x≠"__name__"→mb x=bootBuiltins x
 nolimit:base.NoLimit
structure Cx where
 prog:Program
 w:World
 K:PySem.W.Frag
 mg:Str→Option Value
 base:Heap
 A:Around
 N:List Str
 s₀:Shared
 H₀:Hp
 env:Env
 outer:List Env
 stack:List Env
 ex:List Addr
 fn:Str→Bool
 calm:Bool
 pn:List (Addr × Obj)
 xe:Value→Shared→Prop
def frs (l:List Env):List Addr:=l.filterMap (·.frame)
abbrev Cx.fs (X:Cx):List Addr:=frs X.outer
def Vis (sc:Scope) (x:Str):Prop:=sc.names.lookup x=some .local∨sc.names.lookup x=some .cell∨sc.names.lookup x=some .free
def Loc (sc:Scope) (x:Str):Prop:=sc.names.lookup x=some .local∨sc.names.lookup x=some .cell
def Look (env:Env) (h:Heap) (m:Str→Option Value) (x:Str) (u:Value):Prop:=
 (env.kindOf x=some .local∧m x=some u)∨((env.kindOf x=some .cell∨env.kindOf x=some .free)∧∃ c,env.cells.lookup x=some c∧h.IsCell c (some u))
structure Cx.Ok (X:Cx):Prop where
 mod:Mod X.K X.mg X.base
 kind:X.env.scope.kind=.function
 glob:X.env.globals=mainGlobals
 blt:X.env.builtins=builtinsNs
 above:X.s₀.heap.objs.size≤X.env.locals
 inj:∀ x y c,X.env.cells.lookup x=some c→X.env.cells.lookup y=some c→x=y
 has:∀ x,(X.env.kindOf x=some .cell∨X.env.kindOf x=some .free)→∃ c,X.env.cells.lookup x=some c
 cab:∀ x c,X.fn x=true→X.env.cells.lookup x=some c→X.s₀.heap.objs.size≤c
 hd:X.calm=true→X.A.handled=none
 frames:X.A.frames=some X.stack
 stk:X.stack=X.outer∨(X.stack=X.env::X.outer∧X.env.frame=some X.env.locals)
 exf:∀ b∈X.ex,b≠X.env.locals∧∀ x c,X.env.cells.lookup x=some c→c≠b
 bs:∀ b o,X.base.get? b=some o→X.s₀.heap.get? b=some o∧X.H₀ b=none
 bsz:X.base.objs.size≤X.s₀.heap.objs.size
 noex:∀ b o,X.base.get? b=some o→b∉X.ex
 exfs:∀ b∈X.ex,b∉X.fs
 funs:X.s₀.heap.FunFrames X.base X.outer
 frf:∀ b∈X.fs,X.H₀ b=none
structure Inv (X:Cx) (pins:List (Addr × Obj)) (σ:List (Option V)) (H:Hp) (s:Shared):Prop where
 ok:X.Ok
 os:s.os=X.s₀.os
 bare:AllBare s.gens
 base:Un X.fs X.ex X.H₀ H X.s₀.heap s.heap
 loc:∃ m,s.heap.Ns X.env.locals m∧∀ (i:Nat) (x:Str) (v:V),X.N[i]? =some x→σ[i]? =some (some v)→Vis X.env.scope x→∃ u,RelV v u∧Look X.env s.heap m x u
 cell:∀ x c,X.env.cells.lookup x=some c→∃ v,s.heap.IsCell c v
 free:H X.env.locals=none
 freeC:∀ x c,X.env.cells.lookup x=some c→H c=none
 pin:∀ p∈X.pn++pins,s.heap.get? p.1=some p.2∧H p.1=none∧p.1≠X.env.locals∧p.1∉X.fs∧∀ v,p.2.data≠.cell v
 hok:HOk X.prog X.w H s.heap
 len:σ.length=X.N.length
section
variable {X:Cx} {pins:List (Addr × Obj)} {σ:List (Option V)} {H H':Hp} {s:Shared} {h':Heap}
theorem Cx.Ok.nofr (ok:X.Ok) {b:Addr} {o:Obj} (e:X.base.get? b=some o):b∉X.fs:=fun hb=>by
 have:=(ok.funs.mem hb).1
 rw [e] at this; cases this
theorem Inv.bs (I:Inv X pins σ H s):∀ b o,X.base.get? b=some o→s.heap.get? b=some o∧H b=none:=fun b o e=>
 ⟨I.base.keep b o (I.ok.bs b o e).1 (I.ok.bs b o e).2 (I.ok.nofr e) (I.ok.noex b o e),I.base.free b o (I.ok.bs b o e).1 (I.ok.bs b o e).2 (I.ok.noex b o e)⟩
theorem Inv.bk (I:Inv X pins σ H s):∀ b o,X.base.get? b=some o→s.heap.get? b=some o:=fun b o e=>(I.bs b o e).1
theorem Inv.mod (I:Inv X pins σ H s):Mod X.K X.mg X.base:=I.ok.mod
theorem Inv.kIn (I:Inv X pins σ H s):X.K.In s.heap:=I.ok.mod.kin.keeps I.bk
theorem Inv.lt (I:Inv X pins σ H s):X.env.locals < s.heap.objs.size:=let ⟨_,hn,_⟩:=I.loc; hn.lt
theorem Inv.sz (I:Inv X pins σ H s):X.s₀.heap.objs.size≤s.heap.objs.size:=Nat.le_trans I.ok.above (Nat.le_of_lt I.lt)
theorem Inv.nofs (I:Inv X pins σ H s) {a:Addr} (h:s.heap.objs.size≤a):a∉X.fs:=fun hb=>by
 obtain ⟨_,o,ho,_⟩:=I.ok.funs.mem hb
 exact absurd (Nat.lt_of_lt_of_le (Heap.lt_size ho) (Nat.le_trans I.sz h)) (Nat.lt_irrefl _)
theorem Inv.cne (I:Inv X pins σ H s):∀ x c,X.env.cells.lookup x=some c→c≠X.env.locals:=fun x c e z=>by
 obtain ⟨v,o,ho,hd⟩:=I.cell x c e
 obtain ⟨m,⟨o',es,ep,ho',hd',_⟩,_⟩:=I.loc
 rw [z,ho'] at ho; cases ho; rw [hd'] at hd; cases hd
theorem Inv.funs (I:Inv X pins σ H s):s.heap.FunFrames X.base X.outer:=by
 have all:∀ (l:List Env),(∀ b∈frs l,b∈X.fs)→X.s₀.heap.FunFrames X.base l→s.heap.FunFrames X.base l:=by
  intro l
  induction l with
  | nil=>intro _ _; trivial
  | cons env r ih=>
   intro hs hl
   obtain ⟨hk,⟨L,o,hf,hn,ho,hd⟩,hr⟩:=hl
   have hL:L∈X.fs:=hs L (by unfold frs; rw [List.filterMap_cons,hf]; exact List.mem_cons_self)
   obtain ⟨sl,e⟩:=I.base.slot L o ho (I.ok.frf L hL) hL fun z=>I.ok.exfs L z hL
   exact ⟨hk,⟨L,_,hf,hn,e,hd⟩,ih (fun b hb=>hs b (by unfold frs; rw [List.filterMap_cons,hf]; exact List.mem_cons_of_mem _ hb)) hr⟩
 exact all X.outer (fun _ hb=>hb) I.ok.funs
theorem Inv.stack (I:Inv X pins σ H s):s.heap.FunFrames X.base X.stack:=by
 rcases I.ok.stk with e | ⟨e,hf⟩
 · rw [e]; exact I.funs
 · rw [e]
   obtain ⟨m,hn,_⟩:=I.loc
   refine .cons (by rw [I.ok.kind]; decide) hf hn ?_ I.funs
   exact Heap.get?_none_of_le (Nat.le_trans I.ok.bsz I.ok.above)
theorem Inv.stkSub (I:Inv X pins σ H s):∀ b∈frs X.stack,b∈X.env.locals::X.fs:=fun b hb=>by
 rcases I.ok.stk with e | ⟨e,hf⟩
 · rw [e] at hb; exact List.mem_cons_of_mem _ hb
 · rw [e] at hb
   unfold frs at hb
   rw [List.filterMap_cons,hf] at hb
   exact hb
theorem Inv.stkFree (I:Inv X pins σ H s):∀ b∈frs X.stack,H b=none:=fun b hb=>by
 rcases List.mem_cons.mp (I.stkSub b hb) with e | hb
 · rw [e]; exact I.free
 · obtain ⟨_,o,ho,_⟩:=I.ok.funs.mem hb
   exact I.base.free b o ho (I.ok.frf b hb) fun z=>I.ok.exfs b z hb
theorem Inv.step {g':Array GenState} {t':Nat} {d':Drawn} {ch:List Addr} (I:Inv X pins σ H s)
  (hch:∀ b∈ch,(b∈X.ex∨X.s₀.heap.objs.size≤b)∧b≠X.env.locals∧(∀ x c,X.env.cells.lookup x=some c→c≠b)∧∀ p∈X.pn++pins,p.1≠b)
  (keep:∀ b o,b≠X.env.locals→b∉X.fs→b∉ch→s.heap.get? b=some o→H b=none→h'.get? b=some o)
  (slot:∀ b o,b≠X.env.locals→b∈X.fs→b∉ch→s.heap.get? b=some o→H b=none→∃ sl,h'.get? b=some { o with slots:=sl }) (free:∀ b o,b∉ch→s.heap.get? b=some o→H b=none→H' b=none)
  (there:∀ b o,b∉ch→s.heap.get? b=some o→∃ o',h'.get? b=some o')
  (tups:∀ b xs,H b=some (.tup xs)→H' b=some (.tup xs)) (frzs:∀ b o u,H b=some (.frz o u)→H' b=some (.frz o u)) (tbls:∀ b ps,H b=some (.tbl ps)→∃ more,H' b=some (.tbl (ps++more)))
  (ns:∀ m,s.heap.Ns X.env.locals m→h'.Ns X.env.locals m) (hok:HOk X.prog X.w H' h') (hg:AllBare g'):
  Inv X pins σ H' { s with heap:=h',gens:=g',drawn:=d',toks:=t' }:=by
 have neL:∀ b o,X.s₀.heap.get? b=some o→b≠X.env.locals:=fun b o e=>Nat.ne_of_lt (Nat.lt_of_lt_of_le (Heap.lt_size e) I.ok.above)
 have neC:∀ b o,X.s₀.heap.get? b=some o→b∉X.ex→b∉ch:=fun b o e hx hb=>by
  rcases (hch b hb).1 with z | z
  · exact hx z
  · exact absurd (Nat.lt_of_lt_of_le (Heap.lt_size e) z) (Nat.lt_irrefl _)
 have cellK:∀ x c,X.env.cells.lookup x=some c→∀ v,s.heap.IsCell c v→h'.IsCell c v:=fun x c e v ⟨o,ho,hd⟩=>by
  have nch:c∉ch:=fun z=>(hch c z).2.2.1 x c e rfl
  by_cases hc:c∈X.fs
  · obtain ⟨sl,q⟩:=slot c o (I.cne x c e) hc nch ho (I.freeC x c e)
    exact ⟨_,q,hd⟩
  · exact ⟨o,keep c o (I.cne x c e) hc nch ho (I.freeC x c e),hd⟩
 refine ⟨I.ok,I.os,hg,⟨fun b o e n hb hx=>?_,fun b o e n hb hx=>?_,fun b o e n hx=>?_,fun b o e hx=>?_,fun b xs e=>tups b xs (I.base.tups b xs e),fun b o xs e=>frzs b o xs (I.base.frzs b o xs e),fun b ps e=>?_⟩,?_,fun x c e=>?_,?_,fun x c e=>?_,fun p hp=>?_,hok,I.len⟩
 · exact keep b o (neL b o e) hb (neC b o e hx) (I.base.keep b o e n hb hx) (I.base.free b o e n hx)
 · obtain ⟨sl,e1⟩:=I.base.slot b o e n hb hx
   obtain ⟨sl',e2⟩:=slot b _ (neL b o e) hb (neC b o e hx) e1 (I.base.free b o e n hx)
   exact ⟨sl',e2⟩
 · obtain ⟨o',e1⟩:=I.base.there b o e hx
   exact free b o' (neC b o e hx) e1 (I.base.free b o e n hx)
 · obtain ⟨o',e1⟩:=I.base.there b o e hx
   exact there b o' (neC b o e hx) e1
 · obtain ⟨m1,e1⟩:=I.base.tbls b ps e
   obtain ⟨m2,e2⟩:=tbls b _ e1
   exact ⟨m1++m2,by rw [e2,Array.append_assoc]⟩
 · obtain ⟨m,hn,hl⟩:=I.loc
   refine ⟨m,ns m hn,fun i x v e1 e2 e3=>?_⟩
   obtain ⟨u,r,l⟩:=hl i x v e1 e2 e3
   refine ⟨u,r,?_⟩
   rcases l with l | ⟨k,c,e,z⟩
   · exact .inl l
   · exact .inr ⟨k,c,e,cellK x c e _ z⟩
 · obtain ⟨v,z⟩:=I.cell x c e
   exact ⟨v,cellK x c e v z⟩
 · obtain ⟨m,⟨o,_,_,ho,_⟩,_⟩:=I.loc
   exact free _ o (fun z=>(hch _ z).2.1 rfl) ho I.free
 · obtain ⟨v,o,ho,hd⟩:=I.cell x c e
   exact free c o (fun z=>(hch c z).2.2.1 x c e rfl) ho (I.freeC x c e)
 · obtain ⟨e,n,ne,nf,d⟩:=I.pin p hp
   have nch:p.1∉ch:=fun z=>(hch p.1 z).2.2.2 p hp rfl
   exact ⟨keep p.1 p.2 ne nf nch e n,free p.1 p.2 nch e n,ne,nf,d⟩
theorem Inv.un {t':Nat} (I:Inv X pins σ H s) (u:Un X.fs [] H H' s.heap h') (hok:HOk X.prog X.w H' h'):Inv X pins σ H' { s with heap:=h',toks:=t' }:=by
 obtain ⟨m,⟨o,es,ep,ho,r⟩,_⟩:=id I.loc
 obtain ⟨sl,hL⟩:=u.any ho I.free (by simp)
 exact I.step (g':=s.gens) (d':=s.drawn) (ch:=[]) (fun _ z=>nomatch z) (fun b o _ hb _ e n=>u.keep b o e n hb (by simp)) (fun b o _ hb _ e n=>u.slot b o e n hb (by simp)) (fun b o _ e n=>u.free b o e n (by simp)) (fun b o _ e=>u.there b o e (by simp)) u.tups u.frzs u.tbls (fun m' hm=>by
  obtain ⟨o',es',ep',ho',r'⟩:=hm
  rw [ho] at ho'; cases ho'
  exact ⟨_,es',ep',hL,r'⟩) hok I.bare
theorem Inv.call {g':Array GenState} {t':Nat} {d':Drawn} {ch:List Addr} (I:Inv X pins σ H s) (u:Un (frs X.stack) ch H H' s.heap h') (hok:HOk X.prog X.w H' h') (hg:AllBare g')
  (hch:∀ b∈ch,(b∈X.ex∨X.s₀.heap.objs.size≤b)∧b≠X.env.locals∧(∀ x c,X.env.cells.lookup x=some c→c≠b)∧∀ p∈X.pn++pins,p.1≠b):
  Inv X pins σ H' { s with heap:=h',gens:=g',drawn:=d',toks:=t' }:=by
 obtain ⟨m,⟨o,es,ep,ho,r⟩,_⟩:=id I.loc
 obtain ⟨sl,hL⟩:=u.any ho I.free fun z=>(hch _ z).2.1 rfl
 exact I.step (ch:=ch) hch (fun b o hL hb hc e n=>u.keep b o e n (fun z=>(List.mem_cons.mp (I.stkSub b z)).elim hL hb) hc) (fun b o _ _ hc e n=>u.any e n hc) (fun b o hc e n=>u.free b o e n hc) (fun b o hc e=>u.there b o e hc) u.tups u.frzs u.tbls (fun m' hm=>by
  obtain ⟨o',es',ep',ho',r'⟩:=hm
  rw [ho] at ho'; cases ho'
  exact ⟨_,es',ep',hL,r'⟩) hok hg
theorem Inv.turned {t':Nat} {it:Addr} (I:Inv X pins σ H s) (k:∀ b o,b≠it→s.heap.get? b=some o→h'.get? b=some o) (hn:H it=none) (hL:it≠X.env.locals)
  (h1:it∈X.ex∨X.s₀.heap.objs.size≤it) (h2:∀ x c,X.env.cells.lookup x=some c→c≠it) (h3:∀ p∈X.pn++pins,p.1≠it):Inv X pins σ H { s with heap:=h',toks:=t' }:=by
 have nit:∀ b u,H b=some u→b≠it:=fun b u e z=>by rw [z,hn] at e; cases e
 refine I.step (g':=s.gens) (d':=s.drawn) (ch:=[it]) (fun b hb=>?_) (fun b o _ _ hc e _=>k b o (fun z=>hc (by simp [z])) e) (fun b o _ _ hc e _=>⟨o.slots,k b o (fun z=>hc (by simp [z])) e⟩) (fun _ _ _ _ n=>n)
  (fun b o hc e=>⟨o,k b o (fun z=>hc (by simp [z])) e⟩) (fun _ _ e=>e) (fun _ _ _ e=>e) (fun b ps e=>⟨#[],by rw [e]; simp⟩) (fun m hm=>?_) (fun b u e=>?_) I.bare
 · have e:b=it:=by simpa using hb
   subst e
   exact ⟨h1,hL,h2,h3⟩
 · obtain ⟨o,es,ep,ho,r⟩:=hm
   exact ⟨o,es,ep,k _ o (Ne.symm hL) ho,r⟩
 · refine (I.hok b u e).stay (fun c v hc q=>k c v ?_ q) (fun _ q=>q) fun _ _ q=>q
   rcases hc with z | z
   · rw [z]; exact nit b u e
   · exact nit c _ z
theorem Inv.tok (I:Inv X pins σ H s) (t:Nat):Inv X pins σ H { s with toks:=t }:=I.un (h':=s.heap) (t':=t) Un.refl I.hok
theorem Inv.kept {t':Nat} (I:Inv X pins σ H s) (k:∀ b u,s.heap.get? b=some u→h'.get? b=some u):Inv X pins σ H { s with heap:=h',toks:=t' }:=I.un (Un.kept k) (I.hok.kept k)
theorem Inv.laid {a:Addr} {o:HO} {t':Nat} (I:Inv X pins σ H s) (k:∀ b u,s.heap.get? b=some u→h'.get? b=some u) (hp:s.heap.objs.size≤a) (new:ObjOk X.prog X.w (upd H a o) h' a o):
  Inv X pins σ (upd H a o) { s with heap:=h',toks:=t' }:=I.un (Un.laid k hp (I.hok.fresh hp)) (I.hok.laid k hp new)
theorem Inv.write {x e:Addr} {o:HO} {t':Nat} (I:Inv X pins σ H s) (mu:Mut (H x)) (he:e=x∨H e=some (.own x)) (k:∀ b u,b≠e→s.heap.get? b=some u→h'.get? b=some u) (heo:∃ u,h'.get? e=some u)
  (new:ObjOk X.prog X.w (upd H x o) h' x o):Inv X pins σ (upd H x o) { s with heap:=h',toks:=t' }:=I.un (Un.write mu he k heo) (I.hok.write mu he k heo new)
theorem Inv.pins_of {pins':List (Addr × Obj)} (I:Inv X pins σ H s) (h:∀ p∈pins',s.heap.get? p.1=some p.2∧H p.1=none∧p.1≠X.env.locals∧p.1∉X.fs∧∀ v,p.2.data≠.cell v):Inv X pins' σ H s:=
 ⟨I.ok,I.os,I.bare,I.base,I.loc,I.cell,I.free,I.freeC,fun p hp=>(List.mem_append.mp hp).elim (fun z=>I.pin p (List.mem_append_left _ z)) (h p),I.hok,I.len⟩
theorem mh {N:List Str} (hN:N.Nodup) {i j:Nat} {x:Str} (a:N[i]? =some x) (b:N[j]? =some x):i=j:=by
 obtain ⟨h1,e1⟩:=List.getElem?_eq_some_iff.mp a
 obtain ⟨h2,e2⟩:=List.getElem?_eq_some_iff.mp b
 exact (List.getElem_inj hN).mp (e1.trans e2.symm)
theorem lu {M:Model} {A:Around} {E:Value→Shared→Prop} {i:Nat} {x:Str} {v:V} {u:Value} {Q:Unit→Shared→Prop} (I:Inv X pins σ H s) (hN:X.N.Nodup) (hi:X.N[i]? =some x) (hx:Loc X.env.scope x) (r:RelV v u)
  (h:∀ s',Inv X pins (σ.set i (some v)) H s'→(∃ a,Heap.SameBut a s.heap s'.heap∧(a=X.env.locals∨X.env.cells.lookup x=some a))→Q () s') (hf:X.fn x=true∨X.env.scope.names.lookup x=some .local:=by first | exact .inl rfl | exact .inr rfl | assumption):wpAny M A (storeName X.env x u) Q E s:=by
 obtain ⟨m,hn,hl⟩:=id I.loc
 have hcls:(X.env.scope.kind==.class||(X.env.scope.kind==.module&&X.env.locals != X.env.globals))=false:=by rw [I.ok.kind]; rfl
 have hiσ:i < σ.length:=by rw [I.len]; exact (List.getElem?_eq_some_iff.mp hi).1
 have cne:=I.cne
 have tracked:∀ {a:Addr} {h':Heap},(∃ o,s.heap.get? a=some o∧H a=none)→Heap.SameBut a s.heap h'→HOk X.prog X.w H h':=fun {a h'} ha hs b ob e=>by
  obtain ⟨_,_,hfree⟩:=ha
  refine (I.hok b ob e).stay (fun c w' hc q=>(hs.2 c ?_).trans q) (fun _ q=>q) fun _ _ q=>q
  rintro rfl
  rcases hc with rfl | hc
  · rw [hfree] at e; cases e
  · rw [hfree] at hc; cases hc
 rcases hx with hk | hk
 · refine wpAny_storeName_local hk hn (fun h' hn' hs=>?_) hcls
   obtain ⟨oL,_,_,hoL,_⟩:=id hn
   refine h _ ⟨I.ok,I.os,I.bare,⟨fun b o e n hb hx=>?_,fun b o e n hb hx=>?_,I.base.free,fun b o e hx=>?_,I.base.tups,I.base.frzs,I.base.tbls⟩,⟨_,hn',fun j y v' e1 e2 e3=>?_⟩,fun y c e=>?_,I.free,I.freeC,fun p hp=>?_,tracked ⟨oL,hoL,I.free⟩ hs,by simpa using I.len⟩ ⟨_,hs,.inl rfl⟩
   · exact (hs.2 b (Nat.ne_of_lt (Nat.lt_of_lt_of_le (Heap.lt_size e) I.ok.above))).trans (I.base.keep b o e n hb hx)
   · obtain ⟨sl,e1⟩:=I.base.slot b o e n hb hx
     exact ⟨sl,(hs.2 b (Nat.ne_of_lt (Nat.lt_of_lt_of_le (Heap.lt_size e) I.ok.above))).trans e1⟩
   · obtain ⟨o',e1⟩:=I.base.there b o e hx
     exact ⟨o',(hs.2 b (Nat.ne_of_lt (Nat.lt_of_lt_of_le (Heap.lt_size e) I.ok.above))).trans e1⟩
   · by_cases hj:j=i
     · subst hj
       rw [hi] at e1; cases e1
       rw [List.getElem?_set_self hiσ] at e2
       cases e2
       exact ⟨u,r,.inl ⟨hk,by simp⟩⟩
     · rw [List.getElem?_set_ne (Ne.symm hj)] at e2
       obtain ⟨u',r',q⟩:=hl j y v' e1 e2 e3
       refine ⟨u',r',?_⟩
       rcases q with ⟨k,e⟩ | ⟨k,c,e,z⟩
       · refine .inl ⟨k,?_⟩
         have:y≠x:=fun e=>hj (mh hN e1 (e ▸ hi))
         simp [this,e]
       · exact .inr ⟨k,c,e,z.sameBut hs (cne y c e)⟩
   · obtain ⟨w',z⟩:=I.cell y c e
     exact ⟨w',z.sameBut hs (cne y c e)⟩
   · obtain ⟨e,n,ne,nf,d⟩:=I.pin p hp
     exact ⟨(hs.2 p.1 ne).trans e,n,ne,nf,d⟩
 · have hfn:X.fn x=true:=by
    rcases hf with z | z
    · exact z
    · rw [z] at hk; cases hk
   obtain ⟨c,hc⟩:=I.ok.has x (.inl hk)
   obtain ⟨w',z⟩:=I.cell x c hc
   refine wpAny_storeName_cell I.ok.kind hk hc z (fun h' hc' hs=>?_)
   obtain ⟨oc,hoc,hocd⟩:=id z
   refine h { s with heap:=h' } ⟨I.ok,I.os,I.bare,⟨fun b o e n hb hx=>?_,fun b o e n hb hx=>?_,I.base.free,fun b o e hx=>?_,I.base.tups,I.base.frzs,I.base.tbls⟩,⟨m,hn.sameBut hs (Ne.symm (cne x c hc)),fun j y v' e1 e2 e3=>?_⟩,fun y c' e=>?_,I.free,I.freeC,fun p hp=>?_,tracked ⟨oc,hoc,I.freeC x c hc⟩ hs,by simpa using I.len⟩ ⟨c,hs,.inr hc⟩
   · exact (hs.2 b (Nat.ne_of_lt (Nat.lt_of_lt_of_le (Heap.lt_size e) (I.ok.cab x c hfn hc)))).trans (I.base.keep b o e n hb hx)
   · obtain ⟨sl,e1⟩:=I.base.slot b o e n hb hx
     exact ⟨sl,(hs.2 b (Nat.ne_of_lt (Nat.lt_of_lt_of_le (Heap.lt_size e) (I.ok.cab x c hfn hc)))).trans e1⟩
   · obtain ⟨o',e1⟩:=I.base.there b o e hx
     exact ⟨o',(hs.2 b (Nat.ne_of_lt (Nat.lt_of_lt_of_le (Heap.lt_size e) (I.ok.cab x c hfn hc)))).trans e1⟩
   · by_cases hj:j=i
     · subst hj
       rw [hi] at e1; cases e1
       rw [List.getElem?_set_self hiσ] at e2
       cases e2
       exact ⟨u,r,.inr ⟨.inl hk,c,hc,hc'⟩⟩
     · rw [List.getElem?_set_ne (Ne.symm hj)] at e2
       obtain ⟨u',r',q⟩:=hl j y v' e1 e2 e3
       refine ⟨u',r',?_⟩
       rcases q with q | ⟨k,c',e,z'⟩
       · exact .inl q
       · refine .inr ⟨k,c',e,z'.sameBut hs ?_⟩
         rintro rfl
         exact hj (mh hN e1 (I.ok.inj _ _ _ e hc ▸ hi))
   · by_cases hcc:c'=c
     · subst hcc; exact ⟨_,hc'⟩
     · obtain ⟨w2,z2⟩:=I.cell y c' e
       exact ⟨w2,z2.sameBut hs hcc⟩
   · obtain ⟨e,n,ne,nf,d⟩:=I.pin p hp
     refine ⟨(hs.2 p.1 ?_).trans e,n,ne,nf,d⟩
     intro q
     rw [q,hoc] at e
     have q':oc=p.2:=Option.some.inj e
     exact d w' (by rw [← q']; exact hocd)
theorem mi {M:Model} {A:Around} {E:Value→Shared→Prop} {i:Nat} {x:Str} {v:V} {u:Value} {Q:Unit→Shared→Prop} (I:Inv X pins σ H s) (hN:X.N.Nodup) (hi:X.N[i]? =some x) (hx:Loc X.env.scope x) (r:RelV v u)
  (h:∀ s',Inv X pins (σ.set i (some v)) H s'→Q () s') (hf:X.fn x=true∨X.env.scope.names.lookup x=some .local:=by first | exact .inl rfl | exact .inr rfl | assumption):wpAny M A (storeName X.env x u) Q E s:=
 lu I hN hi hx r (fun s' I' _=>h s' I') hf
theorem Inv.call' {s':Shared} {ch:List Addr} (I:Inv X pins σ H s) (ho:s'.os=s.os) (u:Un (frs X.stack) ch H H' s.heap s'.heap) (hok:HOk X.prog X.w H' s'.heap) (hg:AllBare s'.gens)
  (hch:∀ b∈ch,(b∈X.ex∨X.s₀.heap.objs.size≤b)∧b≠X.env.locals∧(∀ x c,X.env.cells.lookup x=some c→c≠b)∧∀ p∈X.pn++pins,p.1≠b):Inv X pins σ H' s':=by
 obtain ⟨h',g',d',t',o'⟩:=s'
 have e:o'=s.os:=ho
 subst e
 exact I.call (g':=g') (t':=t') (d':=d') u hok hg hch
end
abbrev XK:=Value→Option Addr→Hp→Prop
abbrev St:=List (Option V)
abbrev VK:=V→Hp→Prop
abbrev TE:=St→Hp→VK→Prop
abbrev TT:=St→Hp→(Bool→Hp→Prop)→Prop
abbrev TA:=St→Hp→(List V→Hp→Prop)→Prop
structure Ends where
 nx:St→Hp→Prop
 rt:VK
 bk:St→Hp→Prop:=fun _ _=>False
 ct:St→Hp→Prop:=fun _ _=>False
abbrev TS:=Ends→St→Hp→Prop
def EP (X:Cx) (pins:List (Addr × Obj)) (σ:St) (Q:VK) (u:Value) (s':Shared):Prop:=∃ v H',Inv X pins σ H' s'∧RelV v u∧Q v H'
def TP (X:Cx) (pins:List (Addr × Obj)) (σ:St) (Q:Bool→Hp→Prop) (b:Bool) (s':Shared):Prop:=∃ H',Inv X pins σ H' s'∧Q b H'
def AP (X:Cx) (pins:List (Addr × Obj)) (σ:St) (Q:List V→Hp→Prop) (us:List Value) (s':Shared):Prop:=∃ vs H',Inv X pins σ H' s'∧Vals vs us∧Q vs H'
def SP (X:Cx) (pins:List (Addr × Obj)) (D:Ends) (f:Flow) (s':Shared):Prop:=
 match f with
 | .next=>∃ σ' H',Inv X pins σ' H' s'∧D.nx σ' H'
 | .brk=>∃ σ' H',Inv X pins σ' H' s'∧D.bk σ' H'
 | .cont=>∃ σ' H',Inv X pins σ' H' s'∧D.ct σ' H'
 | .ret u=>∃ v σ' H',Inv X pins σ' H' s'∧RelV v u∧D.rt v H'
def PE (X:Cx) (e:Expr) (t:TE):Prop:=
 ∀ (pins:List (Addr × Obj)) (s:Shared) (σ:St) (H:Hp) (Q:VK),Inv X pins σ H s→t σ H Q→wpAny (model X.prog X.w) X.A (eval e X.env) (EP X pins σ Q) X.xe s
def PT (X:Cx) (e:Expr) (t:TT):Prop:=
 ∀ (pins:List (Addr × Obj)) (s:Shared) (σ:St) (H:Hp) (Q:Bool→Hp→Prop),Inv X pins σ H s→t σ H Q→wpAny (model X.prog X.w) X.A (isTrue e X.env (eval e X.env)) (TP X pins σ Q) X.xe s
def PW (X:Cx) (e:Expr) (t:TT):Prop:=
 ∀ (whole:Sem Value) (pins:List (Addr × Obj)) (s:Shared) (σ:St) (H:Hp) (Q:Bool→Hp→Prop),Inv X pins σ H s→t σ H Q→wpAny (model X.prog X.w) X.A (isTrue e X.env whole) (TP X pins σ Q) X.xe s
theorem PW.pt {X:Cx} {e:Expr} {t:TT} (h:PW X e t):PT X e t:=h _
def PA (X:Cx) (es:List Expr) (t:TA):Prop:=
 ∀ (pos:Pos) (pins:List (Addr × Obj)) (s:Shared) (σ:St) (H:Hp) (Q:List V→Hp→Prop),Inv X pins σ H s→t σ H Q→wpAny (model X.prog X.w) X.A (spliced (backTo pos (starEach es X.env))) (AP X pins σ Q) X.xe s
def PS (X:Cx) (st:Stmt) (t:TS):Prop:=
 ∀ (pins:List (Addr × Obj)) (s:Shared) (σ:St) (H:Hp) (D:Ends),Inv X pins σ H s→t D σ H→wpAny (model X.prog X.w) X.A (exec st X.env) (SP X pins D) X.xe s
def PSs (X:Cx) (st:List Stmt) (t:TS):Prop:=
 ∀ (pins:List (Addr × Obj)) (s:Shared) (σ:St) (H:Hp) (D:Ends),Inv X pins σ H s→t D σ H→wpAny (model X.prog X.w) X.A (execs st X.env) (SP X pins D) X.xe s
theorem thn {α:Type} {t:Sem α} {Q Q':α→Shared→Prop} {M:Model} {A:Around} {E:Value→Shared→Prop} {s:Shared} (h:wpAny M A t Q E s) (hQ:∀ a s,Q a s→Q' a s):wpAny M A t Q' E s:=wpAny_mono h hQ fun _ _ x=>x
end L2
namespace L2
open PySem PySem.Spec PyProof.Rows
section
variable {X:Cx}
def tVar (i:Nat):TE:=fun σ H Q=>∃ v,σ[i]? =some (some v)∧Q v H
def tC (v:V):TE:=fun _ H Q=>Q v H
theorem q4 {i:Nat} {x:Str} {pos:Pos} (hN:X.N[i]? =some x) (hv:Vis X.env.scope x) (hd:(x==("__debug__":Str))=false:=by decide) (hcd:(x==("__classdict__":Str))=false:=by decide):PE X (.Name x pos) (tVar i):=by
 intro pins s σ H Q I h
 obtain ⟨v,e,h⟩:=h
 obtain ⟨m,hn,hl⟩:=I.loc
 obtain ⟨u,r,l⟩:=hl i x v hN e hv
 have fin:EP X pins σ Q u s:=⟨v,H,I,r,h⟩
 rcases l with ⟨hk,hm⟩ | ⟨hk,c,hc,hcell⟩
 · exact wpAny_Name (wpAny_loadName_local I.ok.kind hk hn hm fin) hd
 · rcases hk with hk | hk
   · exact wpAny_Name (wpAny_loadName_cell I.ok.kind hk hc hcell fin) hd
   · exact wpAny_Name (wpAny_loadName_free I.ok.kind hk hc hcell fin hcd) hd
theorem af {i j pos}:PE X (.Constant (.int i) j pos) (tC (.int i)):=fun _ _ _ H _ I h=>wpAny_Constant_int ⟨.int i,H,I.tok _,⟨_,rfl⟩,h⟩
theorem jR {b j pos}:PE X (.Constant (.bool b) j pos) (tC (.bl b)):=fun _ _ _ H _ I h=>Constant_bool ⟨.bl b,H,I,rfl,h⟩
theorem jS {j pos}:PE X (.Constant .none j pos) (tC .non):=fun _ _ _ H _ I h=>Constant_none ⟨.non,H,I,rfl,h⟩
theorem ax {x j pos}:PE X (.Constant (.str x) j pos) (tC (.str x)):=fun _ _ _ H _ I h=>Calls.Constant_str ⟨.str x,H,I.tok _,⟨_,rfl⟩,h⟩
def Gl (X:Cx) (x:Str):Prop:=X.env.kindOf x=some .globalImplicit
theorem kR {E:Value→Shared→Prop} {pins:List (Addr × Obj)} {s:Shared} {σ:St} {H:Hp} {x:Str} {u:Value} {pos:Pos} {Q:Value→Shared→Prop} (I:Inv X pins σ H s) (hg:Gl X x) (hm:X.mg x=some u) (h:Q u s)
  (hd:(x==("__debug__":Str))=false:=by decide):wpAny (model X.prog X.w) X.A (eval (.Name x pos) X.env) Q E s:=
 Calls.Name_function_global I.ok.kind hg (Calls.loadGlobal_global (by rw [I.ok.glob]; exact I.mod.glob.keeps I.bk) hm h) hd
theorem fR {E:Value→Shared→Prop} {pins:List (Addr × Obj)} {s:Shared} {σ:St} {H:Hp} {x:Str} {u:Value} {pos:Pos} {Q:Value→Shared→Prop} (I:Inv X pins σ H s) (hg:Gl X x) (hm:X.mg x=none) (hv:bootBuiltins x=some u) (h:Q u s)
  (hn:x≠"__name__":=by decide) (hd:(x==("__debug__":Str))=false:=by decide):wpAny (model X.prog X.w) X.A (eval (.Name x pos) X.env) Q E s:=by
 obtain ⟨mb,h1,h2⟩:=I.mod.blt
 exact Calls.Name_function_global I.ok.kind hg (Calls.loadGlobal_builtin (by rw [I.ok.glob]; exact I.mod.glob.keeps I.bk) hm (by rw [I.ok.blt]; exact h1.keeps I.bk) ((h2 x hn).trans hv) h) hd
theorem aV {x:Str} {v:V} {u:Value} {pos:Pos} (hg:Gl X x) (hm:X.mg x=some u) (r:RelV v u) (hd:(x==("__debug__":Str))=false:=by decide):PE X (.Name x pos) (tC v):=
 fun _ _ _ H _ I h=>kR I hg hm ⟨v,H,I,r,h⟩ hd
theorem b5 {x:Str} {v:V} {u:Value} {pos:Pos} (hg:Gl X x) (hm:X.mg x=none) (hv:bootBuiltins x=some u) (r:RelV v u) (hn:x≠"__name__":=by decide) (hd:(x==("__debug__":Str))=false:=by decide):PE X (.Name x pos) (tC v):=
 fun _ _ _ H _ I h=>fR I hg hm hv ⟨v,H,I,r,h⟩ hn hd
variable {a b:Expr} {ta tb:TE} {pos:Pos}
def tB (t:TE):TT:=fun σ H Q=>t σ H fun x H1=>∃ c,x=.bl c∧Q c H1
theorem bA {e:Expr} {t:TE} (h:PE X e t) (he:∀ whole,isTrue e X.env whole=(do let v ← whole; standAt e.pos; holding [v] (truthy v)):=by intro _; rfl):PT X e (tB t):=by
 intro pins s σ H Q I hw
 refine isTrue_plain (thn (h pins s σ H _ I hw) fun v s1 ⟨x,H1,I1,r1,q1⟩=>?_) (he _)
 obtain ⟨d,rfl,q⟩:=q1
 cases r1
 exact wpAny_truthy_bool ⟨H1,I1,q⟩
variable {tA tB':TT} {rest:List Expr}
def tAnd (t u:TT):TT:=fun σ H Q=>t σ H fun c H1=>if c=true then u σ H1 Q else Q false H1
def tOr (t u:TT):TT:=fun σ H Q=>t σ H fun c H1=>if c=true then Q true H1 else u σ H1 Q
def tNot (t:TT):TT:=fun σ H Q=>t σ H fun c H1=>Q (!c) H1
theorem ql (ha:PT X a tA):PW X (.BoolOp .And [a] pos) tA:=by
 intro wh pins s σ H Q I h
 refine isTrue_and (thn (ha pins s σ H Q I h) fun c s1 e=>?_)
 cases c with
 | true=>exact isTrue_and_nil e
 | false=>exact e
theorem fS (ha:PT X a tA):PW X (.BoolOp .Or [a] pos) tA:=by
 intro wh pins s σ H Q I h
 refine isTrue_or (thn (ha pins s σ H Q I h) fun c s1 e=>?_)
 cases c with
 | false=>exact isTrue_or_nil e
 | true=>exact e
theorem q5 (ha:PT X a tA) (hb:PW X (.BoolOp .And (b::rest) pos) tB'):PW X (.BoolOp .And (a::b::rest) pos) (tAnd tA tB'):=by
 intro wh pins s σ H Q I h
 refine isTrue_and (thn (ha pins s σ H _ I h) fun c s1 ⟨H1,I1,q1⟩=>?_)
 cases c with
 | true=>exact hb wh pins s1 σ H1 Q I1 q1
 | false=>exact ⟨H1,I1,q1⟩
theorem d3 (ha:PT X a tA) (hb:PW X (.BoolOp .Or (b::rest) pos) tB'):PW X (.BoolOp .Or (a::b::rest) pos) (tOr tA tB'):=by
 intro wh pins s σ H Q I h
 refine isTrue_or (thn (ha pins s σ H _ I h) fun c s1 ⟨H1,I1,q1⟩=>?_)
 cases c with
 | true=>exact ⟨H1,I1,q1⟩
 | false=>exact hb wh pins s1 σ H1 Q I1 q1
theorem bB (ha:PT X a tA):PT X (.UnaryOp .Not a pos) (tNot tA):=by
 intro pins s σ H Q I h
 exact isTrue_not (ha pins s σ H (fun c H1=>Q (!c) H1) I h)
def tAndV (ta tb:TE):TE:=fun σ H Q=>ta σ H fun x H1=>∃ c,x=.bl c∧if c=true then tb σ H1 Q else Q (.bl false) H1
def tOrV (ta tb:TE):TE:=fun σ H Q=>ta σ H fun x H1=>∃ c,x=.bl c∧if c=true then Q (.bl true) H1 else tb σ H1 Q
def tNotV (ta:TE):TE:=fun σ H Q=>ta σ H fun x H1=>∃ c,x=.bl c∧Q (.bl (!c)) H1
theorem iB {op} {t:TE} (h:PE X a t):PE X (.BoolOp op [a] pos) t:=fun pins s σ H Q I hw=>BoolOp_one (h pins s σ H Q I hw)
theorem fT (ha:PE X a ta) (hb:PE X (.BoolOp .And (b::rest) pos) tb):PE X (.BoolOp .And (a::b::rest) pos) (tAndV ta tb):=by
 intro pins s σ H Q I h
 refine BoolOp_and (thn (ha pins s σ H _ I h) fun v s1 ⟨x,H1,I1,r1,q1⟩=>?_)
 obtain ⟨c,rfl,q1⟩:=q1
 cases r1
 refine wpAny_truthy_bool ?_
 cases c with
 | true=>exact hb pins s1 σ H1 Q I1 q1
 | false=>exact ⟨.bl false,H1,I1,rfl,q1⟩
theorem ra (ha:PE X a ta):PE X (.UnaryOp .Not a pos) (tNotV ta):=by
 intro pins s σ H Q I h
 refine UnaryOp_ (thn (ha pins s σ H _ I h) fun v s1 ⟨x,H1,I1,r1,q1⟩=>?_)
 obtain ⟨c,rfl,q1⟩:=q1
 cases r1
 exact not_of (wpAny_truthy_bool ⟨.bl (!c),H1,I1,rfl,q1⟩)
def tIf (t:TT) (ta tb:TE):TE:=fun σ H Q=>t σ H fun c H1=>if c=true then ta σ H1 Q else tb σ H1 Q
theorem pH {c:Expr} (hc:PT X c tA) (ha:PE X a ta) (hb:PE X b tb):PE X (.IfExp c a b pos) (tIf tA ta tb):=by
 intro pins s σ H Q I h
 refine wpAny_IfExp (thn (hc pins s σ H _ I h) fun d s1 ⟨H1,I1,q1⟩=>?_)
 cases d with
 | true=>exact ha pins s1 σ H1 Q I1 q1
 | false=>exact hb pins s1 σ H1 Q I1 q1
end
end L2
namespace L2
open PySem PySem.Spec PyProof.Rows
def SqL (K:PySem.W.Frag) (H:Hp) (a:Addr) (xs:List V):Prop:=
 Rd H a (.lst xs)∨
  ∃ (o:Obj) (its:Array Value) (n:Nat),K.lookup a=some o∧o.cls=.type "list"∧o.dict=none∧o.data=.seq its n∧its.size≤sizeLine∧Vals xs its.toList
def SqT (K:PySem.W.Frag) (H:Hp) (a:Addr) (xs:List V):Prop:=
 Rd H a (.tup xs)∨
  ∃ (o:Obj) (its:Array Value) (n:Nat),K.lookup a=some o∧o.cls=.type "tuple"∧o.data=.seq its n∧its.size≤sizeLine∧Vals xs its.toList
def absV:Value→Option V
 | .none=>some .non
 | .bool b=>some (.bl b)
 | .int i _=>some (.int i)
 | .str x _=>some (.str x)
 | .bytes b _=>some (.byt b)
 | .float b _=>some (.flt b)
 | .ref a=>some (.ref a)
 | .type n=>some (.ty n)
 | _=>none
theorem RelV.abs {x:V} {u:Value} (r:RelV x u):absV u=some x:=by
 cases x with
 | non=>cases r; rfl
 | bl _=>cases r; rfl
 | int _=>obtain ⟨t,rfl⟩:=r; rfl
 | str _=>obtain ⟨t,rfl⟩:=r; rfl
 | byt _=>obtain ⟨t,rfl⟩:=r; rfl
 | flt _=>obtain ⟨t,rfl⟩:=r; rfl
 | ref _=>cases r; rfl
 | ty _=>cases r; rfl
theorem RelV.inj {x y:V} {u:Value} (r:RelV x u) (q:RelV y u):x=y:=Option.some.inj (r.abs.symm.trans q.abs)
theorem Vals.inj:∀ {xs ys:List V} {us:List Value},Vals xs us→Vals ys us→xs=ys
 | _,_,_,.nil,.nil=>rfl
 | _,_,_,.cons r t,.cons r' t'=>by rw [r.inj r',Vals.inj t t']
section
variable {X:Cx} {pins:List (Addr × Obj)} {σ:St} {H:Hp} {s:Shared} {a:Addr} {xs ys:List V}
theorem SqL.of {K:PySem.W.Frag} (h:H a=some (.lst xs)):SqL K H a xs:=.inl (.inl h)
theorem SqT.of {K:PySem.W.Frag} (h:H a=some (.tup xs)):SqT K H a xs:=.inl (.inl h)
theorem Inv.list (I:Inv X pins σ H s) (h:SqL X.K H a xs):∃ its:List Value,Vals xs its∧PlainL s.heap a its.toArray∧xs.length≤sizeLine:=by
 rcases h with h | ⟨o,its,n,hk,hc,hd,hs,hz,r⟩
 · obtain ⟨z,its,n,r,e⟩:=h.ok I.hok
   exact ⟨its,r,⟨_,n,e,rfl,rfl,rfl⟩,z⟩
 · refine ⟨its.toList,r,⟨o,n,I.kIn a o hk,hc,hd,by simpa using hs⟩,?_⟩
   have e:=r.length
   simp only [Array.length_toList] at e
   omega
theorem Inv.tuple (I:Inv X pins σ H s) (h:SqT X.K H a xs):∃ its:List Value,Vals xs its∧IsTup s.heap a its.toArray∧xs.length≤sizeLine:=by
 rcases h with h | ⟨o,its,n,hk,hc,hs,hz,r⟩
 · obtain ⟨z,its,r,p⟩:=h.ok I.hok
   exact ⟨its,r,p,z⟩
 · refine ⟨its.toList,r,⟨o,I.kIn a o hk,hc,n,by simpa using hs⟩,?_⟩
   have e:=r.length
   simp only [Array.length_toList] at e
   omega
theorem Inv.list_inj (I:Inv X pins σ H s) (h:SqL X.K H a xs) (h':SqL X.K H a ys):xs=ys:=by
 obtain ⟨its,r,⟨o,n,e,_,_,d⟩,_⟩:=I.list h
 obtain ⟨its',r',⟨o',n',e',_,_,d'⟩,_⟩:=I.list h'
 rw [e] at e'; cases e'
 rw [d] at d'
 injection d' with d1 _
 have:its=its':=by simpa using congrArg Array.toList d1
 subst this
 exact r.inj r'
theorem Inv.tuple_inj (I:Inv X pins σ H s) (h:SqT X.K H a xs) (h':SqT X.K H a ys):xs=ys:=by
 obtain ⟨its,r,⟨o,e,_,n,d⟩,_⟩:=I.tuple h
 obtain ⟨its',r',⟨o',e',_,n',d'⟩,_⟩:=I.tuple h'
 rw [e] at e'; cases e'
 rw [d] at d'
 injection d' with d1 _
 have:its=its':=by simpa using congrArg Array.toList d1
 subst this
 exact r.inj r'
end
abbrev Cx.wish (X:Cx) (E:Value→Shared→Prop):Cx:={ X with xe:=E }
abbrev Cx.nox (X:Cx):Cx:=X.wish fun _ _=>False
theorem Cx.Ok.wish {X:Cx} (ok:X.Ok) (E:Value→Shared→Prop):(X.wish E).Ok:=
 ⟨ok.mod,ok.kind,ok.glob,ok.blt,ok.above,ok.inj,ok.has,ok.cab,ok.hd,ok.frames,ok.stk,ok.exf,ok.bs,ok.bsz,ok.noex,ok.exfs,ok.funs,ok.frf⟩
theorem Cx.Ok.unwish {X:Cx} {E:Value→Shared→Prop} (ok:(X.wish E).Ok):X.Ok:=
 ⟨ok.mod,ok.kind,ok.glob,ok.blt,ok.above,ok.inj,ok.has,ok.cab,ok.hd,ok.frames,ok.stk,ok.exf,ok.bs,ok.bsz,ok.noex,ok.exfs,ok.funs,ok.frf⟩
section
variable {X:Cx} {pins:List (Addr × Obj)} {σ:St} {H:Hp} {s:Shared} {E:Value→Shared→Prop}
theorem Inv.wish (I:Inv X pins σ H s) (E:Value→Shared→Prop):Inv (X.wish E) pins σ H s:=⟨I.ok.wish E,I.os,I.bare,I.base,I.loc,I.cell,I.free,I.freeC,I.pin,I.hok,I.len⟩
theorem Inv.unwish (I:Inv (X.wish E) pins σ H s):Inv X pins σ H s:=⟨I.ok.unwish,I.os,I.bare,I.base,I.loc,I.cell,I.free,I.freeC,I.pin,I.hok,I.len⟩
theorem SP.unwish {D:Ends} {f:Flow} {s':Shared} (h:SP (X.wish E) pins D f s'):SP X pins D f s':=by
 cases f with
 | next=>obtain ⟨σ',H',I,q⟩:=h; exact ⟨σ',H',I.unwish,q⟩
 | brk=>obtain ⟨σ',H',I,q⟩:=h; exact ⟨σ',H',I.unwish,q⟩
 | cont=>obtain ⟨σ',H',I,q⟩:=h; exact ⟨σ',H',I.unwish,q⟩
 | ret u=>obtain ⟨v,σ',H',I,r,q⟩:=h; exact ⟨v,σ',H',I.unwish,r,q⟩
theorem PSs.nox {st:List Stmt} {t:TS} (h:PSs X.nox st t):PSs X st t:=fun pins s σ H D I hw=>
 wpAny_mono (h pins s σ H D (I.wish _) hw) (fun _ _ q=>q.unwish) fun _ _ z=>False.elim z
end
section
variable {X:Cx} {st:Stmt} {rest:List Stmt} {t u:TS} {e:Expr} {te:TE} {pos:Pos}
def tNext:TS:=fun D σ H=>D.nx σ H
def tSeq (t u:TS):TS:=fun D σ H=>t { D with nx:=u D } σ H
theorem aq:PSs X [] tNext:=fun _ _ σ H _ I h=>wpAny_execs_nil ⟨σ,H,I,h⟩
theorem ac (h1:PS X st t) (h2:PSs X rest u):PSs X (st::rest) (tSeq t u):=by
 intro pins s σ H D I h
 refine wpAny_execs_cons (thn (h1 pins s σ H { D with nx:=u D } I h) fun f s1 q=>?_)
 cases f with
 | next=>
  obtain ⟨σ',H',I',q⟩:=q
  exact h2 pins s1 σ' H' D I' q
 | ret v=>exact q
 | brk=>exact q
 | cont=>exact q
theorem ae (h1:PS X st t):PSs X [st] t:=by
 intro pins s σ H D I h
 refine wpAny_execs_cons (thn (h1 pins s σ H D I h) fun f s1 q=>?_)
 cases f with
 | next=>exact wpAny_execs_nil q
 | ret v=>exact q
 | brk=>exact q
 | cont=>exact q
theorem Inv.quiet {pins:List (Addr × Obj)} {σ:St} {H:Hp} {s:Shared} (I:Inv X pins σ H s):interactive X.env=false:=by simp [interactive,I.ok.kind]
def tDrop (te:TE):TS:=fun D σ H=>te σ H fun _ H1=>D.nx σ H1
theorem en (he:PE X e te) (hs:swapsWith e none pos.line X.env=pure false:=by rfl):PS X (.Expr e pos) (tDrop te):=by
 intro pins s σ H D I h
 exact wpAny_Expr_any (thn (he pins s σ H _ I h) fun v s1 ⟨x,H1,I1,r1,q1⟩=>⟨σ,H1,I1,q1⟩) I.quiet hs
def tRet (te:TE):TS:=fun D σ H=>te σ H D.rt
theorem am (he:PE X e te):PS X (.Return (some e) pos) (tRet te):=by
 intro pins s σ H D I h
 exact wpAny_Return_some (thn (he pins s σ H _ I h) fun v s1 ⟨x,H1,I1,r1,q1⟩=>⟨x,σ,H1,I1,r1,q1⟩)
def tRetN:TS:=fun D _ H=>D.rt .non H
def tIfS (c:TT) (t u:TS):TS:=fun D σ H=>c σ H fun b H1=>if b=true then t D σ H1 else u D σ H1
theorem aC {c:Expr} {a b:List Stmt} {tc:TT} (hc:PT X c tc) (ha:PSs X a t) (hb:PSs X b u):PS X (.If c a b pos) (tIfS tc t u):=by
 intro pins s σ H D I h
 refine wpAny_If (thn (hc pins s σ H _ I h) fun d s1 ⟨H1,I1,q1⟩=>?_)
 cases d with
 | true=>exact ha pins s1 σ H1 D I1 q1
 | false=>exact hb pins s1 σ H1 D I1 q1
def aO:TS:=fun _ _ _=>False
theorem aH:PS X st aO:=fun _ _ _ _ _ _ h=>h.elim
end
abbrev TG:=V→St→Hp→(St→Hp→Prop)→Prop
def PG (X:Cx) (target:Expr) (t:TG):Prop:=
 ∀ (pins:List (Addr × Obj)) (s:Shared) (σ:St) (H:Hp) (v:V) (u:Value) (Q:St→Hp→Prop),Inv X pins σ H s→RelV v u→t v σ H Q→
  wpAny (model X.prog X.w) X.A (assign target X.env u) (fun _ s'=>∃ σ' H',Inv X pins σ' H' s'∧Q σ' H') X.xe s
abbrev TSet:=V→V→V→Hp→(Hp→Prop)→Prop
section
variable {X:Cx} {pos:Pos}
def gName (i:Nat):TG:=fun v σ H Q=>Q (σ.set i (some v)) H
theorem aW {i:Nat} {x:Str} (hN:X.N.Nodup) (hi:X.N[i]? =some x) (hx:Loc X.env.scope x) (hf:X.fn x=true∨X.env.scope.names.lookup x=some .local:=by first | exact .inl rfl | exact .inr rfl | assumption):PG X (.Name x pos) (gName i):=by
 intro pins s σ H v u Q I r h
 exact wpAny_assign_Name (mi I hN hi hx r (fun s' I'=>⟨_,H,I',h⟩) hf)
def gSub (to ti:TE) (t:TSet):TG:=fun v σ H Q=>to σ H fun o H1=>ti σ H1 fun i H2=>t o i v H2 fun H3=>Q σ H3
def tAsg (te:TE) (g:TG):TS:=fun D σ H=>te σ H fun x H1=>g x σ H1 D.nx
theorem au {i:Nat} {x:Str} {e:Expr} {te:TE} {pos':Pos} (hN:X.N.Nodup) (hi:X.N[i]? =some x) (hx:Loc X.env.scope x) (he:PE X e te) (hs:swapsWith e (some (.Name x pos')) pos.line X.env=pure false:=by rfl) (hf:X.fn x=true∨X.env.scope.names.lookup x=some .local:=by first | exact .inl rfl | exact .inr rfl | assumption):
  PS X (.Assign [.Name x pos'] e pos) (tAsg te (gName i)):=by
 intro pins s σ H D I h
 refine wpAny_Assign_Name (thn (he pins s σ H _ I h) fun v s1 ⟨y,H1,I1,r1,q1⟩=>?_) hs
 exact mi I1 hN hi hx r1 (fun s2 I2=>⟨_,H1,I2,q1⟩) hf
end
structure It where
 go:Nat→Hp→Prop
 yld:Nat→Hp→V→Hp→Prop
 stop:Nat→Hp→Prop
def FpOk (X:Cx) (pins:List (Addr × Obj)) (H:Hp) (b:Addr):Prop:=
 H b=none∧b≠X.env.locals∧b∉X.fs∧(b∈X.ex∨X.s₀.heap.objs.size≤b)∧(∀ x c,X.env.cells.lookup x=some c→c≠b)∧∀ p∈X.pn++pins,p.1≠b
theorem Inv.fpOk {X:Cx} {pins:List (Addr × Obj)} {σ:St} {H H':Hp} {s:Shared} {b:Addr} (I:Inv X pins σ H s) (hb:s.heap.objs.size≤b) (hn:H' b=none):FpOk X pins H' b:=by
 refine ⟨hn,Nat.ne_of_gt (Nat.lt_of_lt_of_le I.lt hb),I.nofs hb,.inr (Nat.le_trans I.sz hb),fun x c e z=>?_,fun p hp z=>?_⟩
 · obtain ⟨v,q⟩:=I.cell x c e
   exact absurd (Nat.lt_of_lt_of_le q.lt (by rw [z]; exact hb)) (Nat.lt_irrefl _)
 · exact absurd (Nat.lt_of_lt_of_le (Heap.lt_size (I.pin p hp).1) (by rw [z]; exact hb)) (Nat.lt_irrefl _)
structure Turn (P:Program) (w:World) (K:PySem.W.Frag) (tg:Expr) (J:It) (fp:List Addr) (it:Addr) (tn:Nat→Heap→Prop):Prop where
 mem:it∈fp
 obj:∀ i h,tn i h→∀ b∈fp,∃ o,h.get? b=some o∧∀ v,o.data≠.cell v
 keep:∀ i h h',tn i h→(∀ b∈fp,∀ o,h.get? b=some o→h'.get? b=some o)→tn i h'
 item:∀ (X:Cx),X.prog=P→X.w=w→X.K=K→X.calm=true→∀ (i:Nat) (pins:List (Addr × Obj)) (s:Shared) (σ:St) (H:Hp) (E:Value→Shared→Prop),Inv X pins σ H s→(∀ b∈fp,FpOk X pins H b)→tn i s.heap→J.go i H→
  wpAny (model P w) X.A (pyNext (.ref it)) (fun r s1=>∃ u,r=some u∧
   wpAny (model P w) X.A (letOwnedTupleGo tg (.ref it) u) (fun _ s2=>∃ x H',Inv X pins σ H' s2∧RelV x u∧J.yld i H x H'∧tn (i+1) s2.heap∧∀ b∈fp,H' b=none) E s1) E s
 done:∀ (X:Cx),X.prog=P→X.w=w→X.K=K→X.calm=true→∀ (i:Nat) (pins:List (Addr × Obj)) (s:Shared) (σ:St) (H:Hp) (E:Value→Shared→Prop),Inv X pins σ H s→(∀ b∈fp,FpOk X pins H b)→tn i s.heap→J.stop i H→
  wpAny (model P w) X.A (pyNext (.ref it)) (fun r s1=>r=none∧Inv X pins σ H s1) E s
 self:∀ (A:Around) (i:Nat) (s:Shared) (Q:Value→Shared→Prop) (E:Value→Shared→Prop),tn i s.heap→Q (.ref it) s→wpAny (model P w) A (pyIter (.ref it)) Q E s
abbrev TI:=St→Hp→(It→Hp→Prop)→Prop
def PIE (X:Cx) (pins:List (Addr × Obj)) (σ:St) (tg:Expr) (R:It→Hp→Prop) (itv:Value) (s2:Shared):Prop:=
 ∃ (it:Addr) (fp:List Addr) (tn:Nat→Heap→Prop) (J:It) (H':Hp),itv=.ref it∧Inv X pins σ H' s2∧Turn X.prog X.w X.K tg J fp it tn∧tn 0 s2.heap∧(∀ b∈fp,FpOk X pins H' b)∧R J H'
def PI (X:Cx) (tg iter:Expr) (wi:TI):Prop:=
 ∀ (pins:List (Addr × Obj)) (s:Shared) (σ:St) (H:Hp) (R:It→Hp→Prop),Inv X pins σ H s→wi σ H R→
  wpAny (model X.prog X.w) X.A (eval iter X.env) (fun v s1=>wpAny (model X.prog X.w) X.A (pyIter v) (PIE X pins σ tg R) X.xe s1) X.xe s
theorem md {M:Model} {A:Around} {E:Value→Shared→Prop} {s:Shared} {tg:Expr} {it:Addr} {u:Value} {o:Obj} {n:String} {vs:Array Value} {Q:Unit→Shared→Prop} (ho:s.heap.get? it=some o) (hc:o.cls=.type n) (hd:o.data=.fields vs)
  (hn:["enumerate","zip","dict_itemiterator","dict_reverseitemiterator","odict_iterator","itertools.zip_longest","itertools.pairwise"].contains n=false) (hQ:Q () s):wpAny M A (letOwnedTupleGo tg (.ref it) u) Q E s:=by
 unfold letOwnedTupleGo
 cases tg <;> first
  | exact wpAny_pure hQ
  | (cases u <;> first
    | exact wpAny_pure hQ
    | (refine wpAny_bind (wpAny_load ho ?_)
       rw [hc,hd]
       show wpAny M A (if (["enumerate","zip","dict_itemiterator","dict_reverseitemiterator","odict_iterator","itertools.zip_longest","itertools.pairwise"].contains n&&vs[0]? ==some (rawInt _))=true then _ else _) Q E s
       rw [if_neg (by intro h; rw [hn,Bool.false_and] at h; cases h)]
       exact wpAny_pure hQ))
def Itl (K:PySem.W.Frag) (a:Addr):It:=
 ⟨fun i H=>∃ xs x,SqL K H a xs∧xs[i]? =some x,fun i H x H'=>H'=H∧∀ xs,SqL K H a xs→xs[i]? =some x,fun i H=>∃ xs,SqL K H a xs∧xs.length≤i⟩
def Itt (K:PySem.W.Frag) (a:Addr):It:=
 ⟨fun i H=>∃ xs x,SqT K H a xs∧xs[i]? =some x,fun i H x H'=>H'=H∧∀ xs,SqT K H a xs→xs[i]? =some x,fun i H=>∃ xs,SqT K H a xs∧xs.length≤i⟩
def Itr (lo:Int) (n:Nat):It:=⟨fun i _=>i < n,fun i H x H'=>H'=H∧x=.int (lo+i),fun i _=>n≤i⟩
theorem oC {P:Program} {w:World} {K:PySem.W.Frag} {tg:Expr} (a it:Addr):Turn P w K tg (Itl K a) [it] it (fun i h=>h.IsListIter it a i) where
 mem:=by simp
 obj:=fun i h st b hb=>by
  have e:b=it:=by simpa using hb
  subst e
  obtain ⟨o,e,c,d⟩:=st
  exact ⟨o,e,fun v z=>by rw [d] at z; cases z⟩
 keep:=fun i h h' st k=>st.at fun o e=>k it (by simp) o e
 item:=by
  intro X hP hw hK hc i pins s σ H E I hf st hg
  subst hP hw hK
  obtain ⟨xs,x,hq,hx⟩:=hg
  obtain ⟨its,rv,p,hz⟩:=I.list hq
  obtain ⟨u,hu,ru⟩:=rv.get hx
  obtain ⟨f0,f1,f2,f3,f4,f5⟩:=hf it (by simp)
  refine wpAny_pyNext_list_item st p.isList (x:=u) (by simpa using hu) fun h' st' sb=>?_
  have I1:Inv X pins σ H { s with heap:=h' }:=I.turned (t':=s.toks) (fun b o hb e=>(sb.2 b hb).trans e) f0 f1 f3 f4 f5
  obtain ⟨o,e,c,d⟩:=id st'
  exact ⟨u,rfl,md (s:={ s with heap:=h' }) e c d (by decide) ⟨x,H,I1,ru,⟨rfl,fun ys hy=>by rw [I.list_inj hy hq]; exact hx⟩,st',fun b hb=>(hf b hb).1⟩⟩
 done:=by
  intro X hP hw hK hc i pins s σ H E I hf st hg
  subst hP hw hK
  obtain ⟨xs,hq,hx⟩:=hg
  obtain ⟨its,rv,p,hz⟩:=I.list hq
  obtain ⟨f0,f1,f2,f3,f4,f5⟩:=hf it (by simp)
  have hl:=rv.length
  exact wpAny_pyNext_list_end (I.ok.hd hc) st p.isList (by simp; omega) fun h' eb=>⟨rfl,I.turned (t':=s.toks) (fun b o hb e=>eb b o hb e) f0 f1 f3 f4 f5⟩
 self:=fun _ _ _ _ _ st h=>wpAny_pyIter_listiter st h
theorem nV {P:Program} {w:World} {K:PySem.W.Frag} {tg:Expr} (a it:Addr):Turn P w K tg (Itt K a) [it] it (fun i h=>h.IsTupleIter it a i) where
 mem:=by simp
 obj:=fun i h st b hb=>by
  have e:b=it:=by simpa using hb
  subst e
  obtain ⟨o,e,c,d⟩:=st
  exact ⟨o,e,fun v z=>by rw [d] at z; cases z⟩
 keep:=fun i h h' st k=>st.at fun o e=>k it (by simp) o e
 item:=by
  intro X hP hw hK hc i pins s σ H E I hf st hg
  subst hP hw hK
  obtain ⟨xs,x,hq,hx⟩:=hg
  obtain ⟨its,rv,p,hz⟩:=I.tuple hq
  obtain ⟨u,hu,ru⟩:=rv.get hx
  obtain ⟨f0,f1,f2,f3,f4,f5⟩:=hf it (by simp)
  refine wpAny_pyNext_tuple_item st (show s.heap.IsTuple a its.toArray from p) (x:=u) (by simpa using hu) fun h' st' sb=>?_
  have I1:Inv X pins σ H { s with heap:=h' }:=I.turned (t':=s.toks) (fun b o hb e=>(sb.2 b hb).trans e) f0 f1 f3 f4 f5
  obtain ⟨o,e,c,d⟩:=id st'
  exact ⟨u,rfl,md (s:={ s with heap:=h' }) e c d (by decide) ⟨x,H,I1,ru,⟨rfl,fun ys hy=>by rw [I.tuple_inj hy hq]; exact hx⟩,st',fun b hb=>(hf b hb).1⟩⟩
 done:=by
  intro X hP hw hK hc i pins s σ H E I hf st hg
  subst hP hw hK
  obtain ⟨xs,hq,hx⟩:=hg
  obtain ⟨its,rv,p,hz⟩:=I.tuple hq
  obtain ⟨f0,f1,f2,f3,f4,f5⟩:=hf it (by simp)
  have hl:=rv.length
  exact wpAny_pyNext_tuple_end (I.ok.hd hc) st (show s.heap.IsTuple a its.toArray from p) (by simp; omega) fun h' eb=>⟨rfl,I.turned (t':=s.toks) (fun b o hb e=>eb b o hb e) f0 f1 f3 f4 f5⟩
 self:=fun _ _ _ _ _ st h=>wpAny_pyIter_tupleiter st h
theorem nX {P:Program} {w:World} {K:PySem.W.Frag} {tg:Expr} (it:Addr) (lo:Int) (n:Nat):Turn P w K tg (Itr lo n) [it] it (fun i h=>IsRangeIter h it (lo+(i:Nat)*1) ((n:Int) - (i:Nat)) 1) where
 mem:=by simp
 obj:=fun i h st b hb=>by
  have e:b=it:=by simpa using hb
  subst e
  exact ⟨_,st,fun v z=>by
   have z':Data.fields _=Data.cell v:=z
   cases z'⟩
 keep:=fun i h h' st k=>k it (by simp) _ st
 item:=by
  intro X hP hw hK hc i pins s σ H E I hf st hg
  subst hP hw hK
  obtain ⟨f0,f1,f2,f3,f4,f5⟩:=hf it (by simp)
  have W:=Walks.range (prog:=X.prog) (w:=X.w) (I.ok.hd hc) it lo 1 n
  refine W.item i s _ _ hg st fun v h' tk hv st' kk=>?_
  obtain ⟨t,rfl⟩:=hv
  have I1:Inv X pins σ H { s with heap:=h',toks:=tk }:=I.turned (fun b o hb e=>kk b o (by simpa using hb) e) f0 f1 f3 f4 f5
  refine ⟨_,rfl,md (s:={ s with heap:=h',toks:=tk }) (n:="range_iterator") st' rfl rfl (by decide) ⟨.int (lo+i),H,I1,⟨t,?_⟩,⟨rfl,rfl⟩,st',fun b hb=>(hf b hb).1⟩⟩
  rw [Int.mul_one]
 done:=by
  intro X hP hw hK hc i pins s σ H E I hf st hg
  subst hP hw hK
  obtain ⟨f0,f1,f2,f3,f4,f5⟩:=hf it (by simp)
  exact wpAny_pyNext_range_end (I.ok.hd hc) st (by have:n≤i:=hg; omega) fun h' eb=>⟨rfl,I.turned (t':=s.toks) (fun b o hb e=>eb b o hb e) f0 f1 f3 f4 f5⟩
 self:=fun _ _ _ _ _ st h=>wpAny_pyIter_rangeiter st h
end L2
namespace L2
open PySem PySem.Spec PyProof.Rows
section
variable {X:Cx} {tg:Expr}
def iList (K:PySem.W.Frag) (tl:TE):TI:=fun σ H R=>tl σ H fun x H1=>∃ a,x=.ref a∧(∃ xs,SqL K H1 a xs)∧R (Itl K a) H1
def iTup (K:PySem.W.Frag) (tl:TE):TI:=fun σ H R=>tl σ H fun x H1=>∃ a,x=.ref a∧(∃ xs,SqT K H1 a xs)∧R (Itt K a) H1
theorem cY {l:Expr} {tl:TE} (hl:PE X l tl):PI X tg l (iList X.K tl):=by
 intro pins s σ H R I h
 refine thn (hl pins s σ H _ I h) fun v s1 ⟨x,H1,I1,r1,q1⟩=>?_
 obtain ⟨a,e,⟨xs,hq⟩,q⟩:=q1
 subst e
 cases r1
 obtain ⟨its,rv,p,hz⟩:=I1.list hq
 refine wpAny_pyIter_list p.isList ?_
 refine ⟨s1.heap.objs.size,[s1.heap.objs.size],_,_,H1,rfl,I1.kept (t':=s1.toks) fun b o e=>Heap.get?_push_of_some _ e,oC a _,⟨_,Heap.get?_push_size _ rfl,rfl,rfl⟩,fun b hb=>?_,q⟩
 have e:b=s1.heap.objs.size:=by simpa using hb
 subst e
 exact I1.fpOk (Nat.le_refl _) (I1.hok.fresh (Nat.le_refl _))
theorem rb {l:Expr} {tl:TE} (hl:PE X l tl):PI X tg l (iTup X.K tl):=by
 intro pins s σ H R I h
 refine thn (hl pins s σ H _ I h) fun v s1 ⟨x,H1,I1,r1,q1⟩=>?_
 obtain ⟨a,e,⟨xs,hq⟩,q⟩:=q1
 subst e
 cases r1
 obtain ⟨its,rv,p,hz⟩:=I1.tuple hq
 refine wpAny_pyIter_tuple (show s1.heap.IsTuple a its.toArray from p) ?_
 refine ⟨s1.heap.objs.size,[s1.heap.objs.size],_,_,H1,rfl,I1.kept (t':=s1.toks) fun b o e=>Heap.get?_push_of_some _ e,nV a _,⟨_,Heap.get?_push_size _ rfl,rfl,rfl⟩,fun b hb=>?_,q⟩
 have e:b=s1.heap.objs.size:=by simpa using hb
 subst e
 exact I1.fpOk (Nat.le_refl _) (I1.hok.fresh (Nat.le_refl _))
theorem pI {pins:List (Addr × Obj)} {σ:St} {H:Hp} {s:Shared} {R:It→Hp→Prop} {E:Value→Shared→Prop} {lo hi:Int} {t u v:Tok} {tk:Nat} (I:Inv X pins σ H s) (h1: -(2^62)≤lo) (h2:lo < 2^62) (h3: -(2^62)≤hi) (h4:hi < 2^62)
  (q:R (Itr lo (hi - lo).toNat) H):wpAny (model X.prog X.w) X.A (pyIter (.ref s.heap.objs.size)) (PIE X pins σ tg R) E { s with heap:=s.heap.push { cls:=.type "range",data:=.fields #[.int lo t,.int hi u,.int 1 v] },toks:=tk }:=by
 refine wpAny_pyIter_range (IsRange.new ..) (small_one h1 h2 h3 h4) ?_
 have I1:Inv X pins σ H { s with heap:=s.heap.push { cls:=.type "range",data:=.fields #[.int lo t,.int hi u,.int 1 v] },toks:=tk }:=I.kept fun b o e=>Heap.get?_push_of_some _ e
 refine ⟨(s.heap.push { cls:=.type "range",data:=.fields #[.int lo t,.int hi u,.int 1 v] }).objs.size,[(s.heap.push { cls:=.type "range",data:=.fields #[.int lo t,.int hi u,.int 1 v] }).objs.size],_,_,H,rfl,
  I1.kept (t':=tk) fun b o e=>Heap.get?_push_of_some _ e,nX _ lo (hi - lo).toNat,?_,fun b hb=>?_,q⟩
 · have e1:lo+((0:Nat):Int)*1=lo:=by simp
   have e2:(((hi - lo).toNat:Nat):Int) - ((0:Nat):Int)=Builtin.Range.rangeSize lo hi 1:=by rw [rangeSize_one]; split <;> omega
   show IsRangeIter _ _ (lo+((0:Nat):Int)*1) ((((hi - lo).toNat:Nat):Int) - ((0:Nat):Int)) 1
   rw [e1,e2]
   exact Heap.get?_push_size _ rfl
 · have e:b=(s.heap.push { cls:=.type "range",data:=.fields #[.int lo t,.int hi u,.int 1 v] }).objs.size:=by simpa using hb
   subst e
   exact I1.fpOk (Nat.le_refl _) (I1.hok.fresh (Nat.le_refl _))
def gj (ta:TA):TI:=fun σ H R=>ta σ H fun vs H1=>∃ j:Int,vs=[.int j]∧ -(2^62)≤j∧j < 2^62∧R (Itr 0 j.toNat) H1
def nY (ta:TA):TI:=fun σ H R=>ta σ H fun vs H1=>∃ i j:Int,vs=[.int i,.int j]∧(-(2^62)≤i∧i < 2^62∧ -(2^62)≤j∧j < 2^62)∧R (Itr i (j - i).toNat) H1
theorem fU {a:Expr} {ta:TA} {p pos:Pos} (hg:Gl X "range") (hm:X.mg "range"=none) (ha:PA X [a] ta) (hs:starEach [a] X.env=[(false,eval a X.env)]:=by rfl):PI X tg (.Call (.Name "range" p) [a] [] pos) (gj ta):=by
 intro pins s σ H R I h
 refine Call_ (fR I hg hm boot_range (PyProof.Rows.callWith_type1 (thn (ha pos pins s σ H _ I h) fun us s1 ⟨vs,H1,I1,r1,q1⟩=>?_) hs rfl))
 obtain ⟨j,e,q1,q2,q⟩:=q1
 subst e
 cases r1 with
 | cons r rr=>
  cases rr
  obtain ⟨t,rfl⟩:=r
  exact call_range_1 (pI I1 (by omega) (by omega) q1 q2 (by simpa using q))
def tFor (wi:TI) (g:TG) (tb:TS):TS:=fun D σ H=>wi σ H fun J H1=>∃ W:Nat→Nat→St→Hp→Prop,(∃ m,W 0 m σ H1)∧∀ i m σ H,W i m σ H→
 (J.stop i H∧D.nx σ H)∨(J.go i H∧∃ N:St→Hp→Prop,(∀ σ' H',N σ' H'→∃ m',m' < m∧W (i+1) m' σ' H')∧∀ x H',J.yld i H x H'→g x σ H' fun σ2 H2=>tb { D with nx:=N,ct:=N,bk:=D.nx } σ2 H2)
def iC (fp:List Addr) (h:Heap):List (Addr × Obj):=fp.filterMap fun b=>(h.get? b).map fun o=>(b,o)
theorem gk {fp:List Addr} {h:Heap} {b:Addr} {o:Obj} (hb:b∈fp) (e:h.get? b=some o):(b,o)∈iC fp h:=List.mem_filterMap.mpr ⟨b,hb,by rw [e]; rfl⟩
theorem oE {fp:List Addr} {h:Heap} {p:Addr × Obj} (hp:p∈iC fp h):p.1∈fp∧h.get? p.1=some p.2:=by
 obtain ⟨b,hb,e⟩:=List.mem_filterMap.mp hp
 cases q:h.get? b with
 | none=>rw [q] at e; cases e
 | some o=>
  rw [q] at e
  have e':(b,o)=p:=Option.some.inj e
  subst e'
  exact ⟨hb,q⟩
theorem Inv.pinned {pins:List (Addr × Obj)} {σ:St} {H:Hp} {s:Shared} {fp:List Addr} (I:Inv X pins σ H s) (hf:∀ b∈fp,FpOk X pins H b) (ho:∀ b∈fp,∃ o,s.heap.get? b=some o∧∀ v,o.data≠.cell v):Inv X (pins++iC fp s.heap) σ H s:=
 I.pins_of fun p hp=>(List.mem_append.mp hp).elim (fun z=>I.pin p (List.mem_append_right _ z)) fun z=>by
  obtain ⟨hb,e⟩:=oE z
  obtain ⟨f0,f1,f2,_⟩:=hf p.1 hb
  obtain ⟨o,e',d⟩:=ho p.1 hb
  rw [e] at e'; cases e'
  exact ⟨e,f0,f1,f2,d⟩
theorem Inv.unpinned {pins pl:List (Addr × Obj)} {σ:St} {H:Hp} {s:Shared} (I:Inv X (pins++pl) σ H s):Inv X pins σ H s:=I.pins_of fun p hp=>I.pin p (List.mem_append_right _ (List.mem_append_left _ hp))
theorem iD {iter:Expr} {body:List Stmt} {wi:TI} {g:TG} {tb:TS} {pos:Pos} (hp:PassesOwn (model X.prog X.w) X.A X.env X.xe) (hc:X.calm=true) (hi:PI X tg iter wi) (hg:PG X tg g) (hb:PSs X body tb)
  (hs:∀ x,foldedSetIterable iter X.env x=pure x:=by intro _; rfl):PS X (.For tg iter body [] pos) (tFor wi g tb):=by
 intro pins s σ H D I h
 refine wpAny_For (thn (hi pins s σ H _ I h) fun v s1 h1=>thn h1 fun itv s2 h2=>?_) hs
 obtain ⟨it,fp,tn,J,H2,e,I2,T,st2,f2,W,⟨m0,w0⟩,turn⟩:=h2
 subst e
 have stat:∀ {H':Hp},(∀ b∈fp,H' b=none)→∀ b∈fp,FpOk X pins H' b:=fun hn b hb=>⟨hn b hb,(f2 b hb).2⟩
 refine codeAny_forLoop_any (fun n s'=>∃ i σ' H',Inv X pins σ' H' s'∧tn i s'.heap∧(∀ b∈fp,H' b=none)∧W i n σ' H') ?_ m0 ⟨0,σ,H2,I2,st2,fun b hb=>(f2 b hb).1,w0⟩
 rintro n s3 ⟨i,σ3,H3,I3,st3,fr3,w3⟩
 rcases turn i n σ3 H3 w3 with ⟨stop,qn⟩ | ⟨go,N,hN,step⟩
 · refine wpAny_passesOwn hp (thn (T.done X rfl rfl rfl hc i pins s3 σ3 H3 X.xe I3 (stat fr3) st3 stop) fun r s4 ⟨hr,I4⟩=>?_)
   subst hr
   exact wpAny_execs_nil ⟨σ3,H3,I4,qn⟩
 · refine wpAny_passesOwn hp (thn (T.item X rfl rfl rfl hc i pins s3 σ3 H3 X.xe I3 (stat fr3) st3 go) fun r s4 ⟨u,hr,h4⟩=>?_)
   subst hr
   refine wpAny_passesOwn hp (thn h4 fun _ s5 ⟨x,H5,I5,r5,y5,st5,fr5⟩=>?_)
   have I5':=I5.pinned (stat fr5) (T.obj _ _ st5)
   refine wpAny_passesOwn hp (thn (hg _ s5 σ3 H5 x u _ I5' r5 (step x H5 y5)) fun _ s6 ⟨σ6,H6,I6,q6⟩=>?_)
   refine wpAny_passesOwn hp (thn (hb _ s6 σ6 H6 _ I6 q6) fun f s7 q7=>?_)
   have again:∀ {σ7:St} {H7:Hp},Inv X (pins++iC fp s5.heap) σ7 H7 s7→N σ7 H7→∃ m,m < n∧∃ i σ' H',Inv X pins σ' H' s7∧tn i s7.heap∧(∀ b∈fp,H' b=none)∧W i m σ' H':=fun {σ7 H7} I7 n7=>by
    obtain ⟨m',hm,w7⟩:=hN σ7 H7 n7
    refine ⟨m',hm,i+1,σ7,H7,I7.unpinned,T.keep _ _ _ st5 fun b hb o e=>(I7.pin (b,o) (List.mem_append_right _ (List.mem_append_right _ (gk hb e)))).1,fun b hb=>?_,w7⟩
    obtain ⟨o,e,d⟩:=T.obj _ _ st5 b hb
    exact (I7.pin (b,o) (List.mem_append_right _ (List.mem_append_right _ (gk hb e)))).2.1
   cases f with
   | next=>obtain ⟨σ7,H7,I7,n7⟩:=q7; exact again I7 n7
   | cont=>obtain ⟨σ7,H7,I7,n7⟩:=q7; exact again I7 n7
   | brk=>obtain ⟨σ7,H7,I7,q7⟩:=q7; exact ⟨σ7,H7,I7.unpinned,q7⟩
   | ret v=>obtain ⟨x7,σ7,H7,I7,r7,q7⟩:=q7; exact ⟨x7,σ7,H7,I7.unpinned,r7,q7⟩
end
theorem mj {K:PySem.W.Frag} {a:Addr} {xs:List V} {g:TG} {tb:TS} {D:Ends} {σ:St} {H:Hp} (Pv:Nat→St→Hp→Prop) (h0:Pv 0 σ H) (hl:∀ i σ H,i≤xs.length→Pv i σ H→SqL K H a xs)
  (hs:∀ i x σ H,xs[i]? =some x→Pv i σ H→g x σ H fun σ2 H2=>tb { D with nx:=Pv (i+1),ct:=Pv (i+1),bk:=D.nx } σ2 H2) (hd:∀ σ H,Pv xs.length σ H→D.nx σ H):
  ∃ W:Nat→Nat→St→Hp→Prop,(∃ m,W 0 m σ H)∧∀ i m σ H,W i m σ H→
   ((Itl K a).stop i H∧D.nx σ H)∨((Itl K a).go i H∧∃ N:St→Hp→Prop,(∀ σ' H',N σ' H'→∃ m',m' < m∧W (i+1) m' σ' H')∧∀ x H',(Itl K a).yld i H x H'→g x σ H' fun σ2 H2=>tb { D with nx:=N,ct:=N,bk:=D.nx } σ2 H2):=by
 refine ⟨fun i m σ H=>m=xs.length - i∧i≤xs.length∧Pv i σ H,⟨xs.length,by simp,Nat.zero_le _,h0⟩,?_⟩
 rintro i m σ H ⟨rfl,hi,p⟩
 have q:=hl i σ H hi p
 by_cases hlt:i < xs.length
 · refine .inr ⟨⟨xs,xs[i],q,by simp [hlt]⟩,Pv (i+1),fun σ' H' p'=>⟨xs.length - (i+1),by omega,rfl,hlt,p'⟩,fun x H' y=>?_⟩
   obtain ⟨e,y⟩:=y
   subst e
   exact hs i x σ _ (y xs q) p
 · have e:i=xs.length:=by omega
   subst e
   exact .inl ⟨⟨xs,q,Nat.le_refl _⟩,hd σ H p⟩
theorem iE {lo:Int} {n:Nat} {g:TG} {tb:TS} {D:Ends} {σ:St} {H:Hp} (Pv:Nat→St→Hp→Prop) (h0:Pv 0 σ H)
  (hs:∀ i σ H,i < n→Pv i σ H→g (.int (lo+i)) σ H fun σ2 H2=>tb { D with nx:=Pv (i+1),ct:=Pv (i+1),bk:=D.nx } σ2 H2) (hd:∀ σ H,Pv n σ H→D.nx σ H):
  ∃ W:Nat→Nat→St→Hp→Prop,(∃ m,W 0 m σ H)∧∀ i m σ H,W i m σ H→
   ((Itr lo n).stop i H∧D.nx σ H)∨((Itr lo n).go i H∧∃ N:St→Hp→Prop,(∀ σ' H',N σ' H'→∃ m',m' < m∧W (i+1) m' σ' H')∧∀ x H',(Itr lo n).yld i H x H'→g x σ H' fun σ2 H2=>tb { D with nx:=N,ct:=N,bk:=D.nx } σ2 H2):=by
 refine ⟨fun i m σ H=>m=n - i∧i≤n∧Pv i σ H,⟨n,by simp,Nat.zero_le _,h0⟩,?_⟩
 rintro i m σ H ⟨rfl,hi,p⟩
 by_cases hlt:i < n
 · refine .inr ⟨hlt,Pv (i+1),fun σ' H' p'=>⟨n - (i+1),by omega,rfl,hlt,p'⟩,fun x H' y=>?_⟩
   obtain ⟨e,y⟩:=y
   subst e y
   exact hs i σ _ hlt p
 · have e:i=n:=by omega
   subst e
   exact .inl ⟨Nat.le_refl _,hd σ H p⟩
end L2
namespace L2
open PySem PySem.Spec PyProof.Rows
abbrev R2:=V→V→Hp→VK→Prop
def OpR (X:Cx) (f:Value→Value→Sem Value) (r:R2):Prop:=
 ∀ (pins:List (Addr × Obj)) (s:Shared) (σ:St) (H:Hp) (x y:V) (v u:Value) (Q:VK),Inv X pins σ H s→RelV x v→RelV y u→r x y H Q→
  wpAny (model X.prog X.w) X.A (f v u) (EP X pins σ Q) X.xe s
def CallR (X:Cx) (f:Value) (r:List V→Hp→VK→Prop):Prop:=
 ∀ (pins:List (Addr × Obj)) (s:Shared) (σ:St) (H:Hp) (xs:List V) (us:List Value) (Q:VK),Inv X pins σ H s→Vals xs us→r xs H Q→
  wpAny (model X.prog X.w) X.A (call f us) (EP X pins σ Q) X.xe s
def tOp (r:R2) (ta tb:TE):TE:=fun σ H Q=>ta σ H fun x H1=>tb σ H1 fun y H2=>r x y H2 Q
def tUn (r:V→Hp→VK→Prop) (ta:TE):TE:=fun σ H Q=>ta σ H fun x H1=>r x H1 Q
def rI (C:Int→Int→Prop) (g:Int→Int→V):R2:=fun x y H Q=>∃ i j,x=.int i∧y=.int j∧C i j∧Q (g i j) H
def rI0 (g:Int→Int→V):R2:=fun x y H Q=>∃ i j,x=.int i∧y=.int j∧Q (g i j) H
def rU (g:Int→V):V→Hp→VK→Prop:=fun x H Q=>∃ i,x=.int i∧Q (g i) H
section
variable {X:Cx} {a b c:Expr} {ta tb tc:TE} {pos:Pos}
theorem binT (ha:PE X a ta) (hb:PE X b tb) {pins:List (Addr × Obj)} {s:Shared} {σ:St} {H:Hp} {R:V→V→Hp→Prop} (I:Inv X pins σ H s)
  (h:ta σ H fun x H1=>tb σ H1 fun y H2=>R x y H2) {Q:Value→Shared→Prop} {f:Value→Value→Sem Value}
  (hf:∀ v u s2 x y H2,Inv X pins σ H2 s2→RelV x v→RelV y u→R x y H2→wpAny (model X.prog X.w) X.A (f v u) Q X.xe s2):
  wpAny (model X.prog X.w) X.A (eval a X.env) (fun v s₁=>wpAny (model X.prog X.w) X.A (eval b X.env) (fun u s₂=>wpAny (model X.prog X.w) X.A (f v u) Q X.xe s₂) X.xe s₁) X.xe s:=by
 refine thn (ha pins s σ H _ I h) fun v s1 ⟨x,H1,I1,r1,q1⟩=>?_
 refine thn (hb pins s1 σ H1 _ I1 q1) fun u s2 ⟨y,H2,I2,r2,q2⟩=>?_
 exact hf v u s2 x y H2 I2 r1 r2 q2
theorem aj {op:Operator} {r:R2} (ho:OpR X (binaryOp op) r) (ha:PE X a ta) (hb:PE X b tb):PE X (.BinOp a op b pos) (tOp r ta tb):=by
 intro pins s σ H Q I h
 exact wpAny_BinOp (binT ha hb I h fun v u s2 x y H2 I2 rx ry q=>ho pins s2 σ H2 x y v u Q I2 rx ry q)
theorem opI {f:Value→Value→Sem Value} {C:Int→Int→Prop} {g:Int→Int→Int}
  (rule:∀ (i j:Int) (t u:Tok) (s:Shared) (Q:Value→Shared→Prop) (E:Value→Shared→Prop),C i j→Q (.int (g i j) s.toks) { s with toks:=s.toks+1 }→wpAny (model X.prog X.w) X.A (f (.int i t) (.int j u)) Q E s):
  OpR X f (rI C fun i j=>.int (g i j)):=by
 intro pins s σ H x y v u Q I rx ry h
 obtain ⟨i,j,rfl,rfl,hc,q⟩:=h
 obtain ⟨t,rfl⟩:=rx
 obtain ⟨t',rfl⟩:=ry
 exact rule i j t t' s _ _ hc ⟨.int (g i j),H,I.tok _,⟨_,rfl⟩,q⟩
theorem rc {f:Value→Value→Sem Value} {g:Int→Int→Int}
  (rule:∀ (i j:Int) (t u:Tok) (s:Shared) (Q:Value→Shared→Prop) (E:Value→Shared→Prop),Q (.int (g i j) s.toks) { s with toks:=s.toks+1 }→wpAny (model X.prog X.w) X.A (f (.int i t) (.int j u)) Q E s):
  OpR X f (rI0 fun i j=>.int (g i j)):=by
 intro pins s σ H x y v u Q I rx ry h
 obtain ⟨i,j,rfl,rfl,q⟩:=h
 obtain ⟨t,rfl⟩:=rx
 obtain ⟨t',rfl⟩:=ry
 exact rule i j t t' s _ _ ⟨.int (g i j),H,I.tok _,⟨_,rfl⟩,q⟩
theorem pJ {f:Value→Value→Sem Value} {g:Int→Int→Bool}
  (rule:∀ (i j:Int) (t u:Tok) (s:Shared) (Q:Value→Shared→Prop) (E:Value→Shared→Prop),Q (.bool (g i j)) s→wpAny (model X.prog X.w) X.A (f (.int i t) (.int j u)) Q E s):
  OpR X f (rI0 fun i j=>.bl (g i j)):=by
 intro pins s σ H x y v u Q I rx ry h
 obtain ⟨i,j,rfl,rfl,q⟩:=h
 obtain ⟨t,rfl⟩:=rx
 obtain ⟨t',rfl⟩:=ry
 exact rule i j t t' s _ _ ⟨.bl (g i j),H,I,rfl,q⟩
def CDiv (i j:Int):Prop:=0 < j∧j < 1073741824
def CPow (i j:Int):Prop:=0≤j∧j≤1000000∧i.natAbs < 2^64
def CMul (i j:Int):Prop:=(-(2^64) < i∧i < 2^64)∨(-(2^64) < j∧j < 2^64)
theorem CMul.ok {i j:Int} (h:CMul i j):IntMulOk i j:=by
 rcases h with ⟨h1,h2⟩ | ⟨h1,h2⟩
 · exact .of_left (intBits_le_64 h1 h2)
 · exact .of_right (intBits_le_64 h1 h2)
theorem rd:OpR X (binaryOp .Add) (rI0 fun i j=>.int (i+j)):=rc fun _ _ _ _ _ _ _ q=>add_int q
theorem re:OpR X (binaryOp .Sub) (rI0 fun i j=>.int (i - j)):=rc fun _ _ _ _ _ _ _ q=>sub_int q
theorem rf:OpR X (binaryOp .Mult) (rI CMul fun i j=>.int (i*j)):=opI fun _ _ _ _ _ _ _ hc q=>mul_int q hc.ok
theorem qm:OpR X (binaryOp .FloorDiv) (rI CDiv fun i j=>.int (i / j)):=opI fun i j _ _ _ _ _ hc q=>by
 have h1:(0:Int) < j:=hc.1
 have h2:j < 1073741824:=hc.2
 exact floordiv_int (by omega) (by rw [Int.fdiv_eq_ediv_of_nonneg i (by omega)]; exact q) (.inl (PyProof.noPylong_small (by omega)))
theorem rg:OpR X (binaryOp .Mod) (rI (fun _ j=>0 < j) fun i j=>.int (i % j)):=opI fun i j _ _ _ _ _ hc q=>by
 have h1:(0:Int) < j:=hc
 exact mod_int' (by omega) (by rw [Int.fmod_eq_emod_of_nonneg i (by omega)]; exact q)
end
def scal:V→V→Bool
 | .non,.non=>true | .non,.int _=>true | .int _,.non=>true | .non,.bl _=>true | .bl _,.non=>true | .non,.str _=>true | .str _,.non=>true
 | .int _,.int _=>true | .bl _,.bl _=>true | .str _,.str _=>true | .byt _,.byt _=>true
 | .int _,.str _=>true | .str _,.int _=>true | .bl _,.str _=>true | .str _,.bl _=>true
 | _,_=>false
def rEq:R2:=fun x y H Q=>scal x y=true∧Q (.bl (decide (x=y))) H
def rNe:R2:=fun x y H Q=>scal x y=true∧Q (.bl (!decide (x=y))) H
theorem nI {i j:Int}:decide (V.int i=V.int j)=(i==j):=by
 rw [Bool.eq_iff_iff]
 simp
theorem oF {i j:Bool}:decide (V.bl i=V.bl j)=(i==j):=by
 rw [Bool.eq_iff_iff]
 simp
theorem nJ {i j:Str}:decide (V.str i=V.str j)=(i==j):=by
 rw [Bool.eq_iff_iff]
 simp
theorem nK {i j:Array UInt8}:decide (V.byt i=V.byt j)=(i.toList==j.toList):=by
 rw [Bool.eq_iff_iff]
 cases i
 cases j
 simp
section
variable {X:Cx} {a b c:Expr} {ta tb tc:TE} {pos:Pos}
theorem aE {pins:List (Addr × Obj)} {σ:St} {H:Hp} {s:Shared} {Q:VK} {k k':Bool} (I:Inv X pins σ H s) (q:Q (.bl k) H) (e:k=k'):EP X pins σ Q (.bool k') s:=by
 subst e
 exact ⟨.bl k,H,I,rfl,q⟩
theorem nZ:OpR X (compareOp .Eq) rEq:=by
 intro pins s σ H x y v u Q I rx ry h
 obtain ⟨hs,q⟩:=h
 cases x with
 | non=>
  cases rx
  cases y with
  | non=>cases ry; exact PySem.EqNone.eq_none_none (aE I q (by simp))
  | bl j=>cases ry; exact PySem.EqNone.eq_none_bool (aE I q (by simp))
  | int j=>obtain ⟨t',rfl⟩:=ry; exact PySem.EqNone.eq_none_int (aE I q (by simp))
  | str j=>obtain ⟨t',rfl⟩:=ry; exact PySem.EqNone.eq_none_str (aE I q (by simp))
  | _=>exact absurd (show false=true from hs) Bool.false_ne_true
 | bl i=>
  cases rx
  cases y with
  | non=>cases ry; exact PySem.EqNone.eq_bool_none (aE I q (by simp))
  | bl j=>cases ry; exact eq_bool (aE I q oF)
  | str j=>obtain ⟨t',rfl⟩:=ry; exact PySem.EqMixed.eq_bool_str (aE I q (by simp))
  | _=>exact absurd (show false=true from hs) Bool.false_ne_true
 | int i=>
  obtain ⟨t,rfl⟩:=rx
  cases y with
  | non=>cases ry; exact PySem.EqNone.eq_int_none (aE I q (by simp))
  | int j=>obtain ⟨t',rfl⟩:=ry; exact eq_int (aE I q nI)
  | str j=>obtain ⟨t',rfl⟩:=ry; exact PySem.EqMixed.eq_int_str (aE I q (by simp))
  | _=>exact absurd (show false=true from hs) Bool.false_ne_true
 | str i=>
  obtain ⟨t,rfl⟩:=rx
  cases y with
  | non=>cases ry; exact PySem.EqNone.eq_str_none (aE I q (by simp))
  | bl j=>cases ry; exact PySem.EqMixed.eq_str_bool (aE I q (by simp))
  | int j=>obtain ⟨t',rfl⟩:=ry; exact PySem.EqMixed.eq_str_int (aE I q (by simp))
  | str j=>obtain ⟨t',rfl⟩:=ry; exact eq_str (aE I q nJ)
  | _=>exact absurd (show false=true from hs) Bool.false_ne_true
 | byt i=>
  obtain ⟨t,rfl⟩:=rx
  cases y with
  | byt j=>obtain ⟨t',rfl⟩:=ry; exact PySem.W.eq_bytes (aE I q nK)
  | _=>exact absurd (show false=true from hs) Bool.false_ne_true
 | _=>cases y <;> exact absurd (show false=true from hs) Bool.false_ne_true
theorem n3:OpR X (compareOp .NotEq) rNe:=by
 intro pins s σ H x y v u Q I rx ry h
 obtain ⟨hs,q⟩:=h
 cases x with
 | non=>
  cases rx
  cases y with
  | non=>cases ry; exact PySem.EqNone.ne_none_none (aE I q (by simp))
  | bl j=>cases ry; exact PySem.EqNone.ne_none_bool (aE I q (by simp))
  | int j=>obtain ⟨t',rfl⟩:=ry; exact PySem.EqNone.ne_none_int (aE I q (by simp))
  | str j=>obtain ⟨t',rfl⟩:=ry; exact PySem.EqNone.ne_none_str (aE I q (by simp))
  | _=>exact absurd (show false=true from hs) Bool.false_ne_true
 | bl i=>
  cases rx
  cases y with
  | non=>cases ry; exact PySem.EqNone.ne_bool_none (aE I q (by simp))
  | bl j=>cases ry; exact ne_bool (aE I q (congrArg not oF))
  | str j=>obtain ⟨t',rfl⟩:=ry; exact PySem.EqMixed.ne_bool_str (aE I q (by simp))
  | _=>exact absurd (show false=true from hs) Bool.false_ne_true
 | int i=>
  obtain ⟨t,rfl⟩:=rx
  cases y with
  | non=>cases ry; exact PySem.EqNone.ne_int_none (aE I q (by simp))
  | int j=>obtain ⟨t',rfl⟩:=ry; exact ne_int (aE I q (congrArg not nI))
  | str j=>obtain ⟨t',rfl⟩:=ry; exact PySem.EqMixed.ne_int_str (aE I q (by simp))
  | _=>exact absurd (show false=true from hs) Bool.false_ne_true
 | str i=>
  obtain ⟨t,rfl⟩:=rx
  cases y with
  | non=>cases ry; exact PySem.EqNone.ne_str_none (aE I q (by simp))
  | bl j=>cases ry; exact PySem.EqMixed.ne_str_bool (aE I q (by simp))
  | int j=>obtain ⟨t',rfl⟩:=ry; exact PySem.EqMixed.ne_str_int (aE I q (by simp))
  | str j=>obtain ⟨t',rfl⟩:=ry; exact ne_str (aE I q (congrArg not nJ))
  | _=>exact absurd (show false=true from hs) Bool.false_ne_true
 | byt i=>
  obtain ⟨t,rfl⟩:=rx
  cases y with
  | byt j=>obtain ⟨t',rfl⟩:=ry; exact PySem.W.ne_bytes (aE I q (congrArg not nK))
  | _=>exact absurd (show false=true from hs) Bool.false_ne_true
 | _=>cases y <;> exact absurd (show false=true from hs) Bool.false_ne_true
theorem r8:OpR X (compareOp .Lt) (rI0 fun i j=>.bl (decide (i < j))):=pJ fun _ _ _ _ _ _ _ q=>lt_int q
theorem sd:OpR X (compareOp .LtE) (rI0 fun i j=>.bl (decide (i≤j))):=pJ fun _ _ _ _ _ _ _ q=>le_int q
theorem se:OpR X (compareOp .Gt) (rI0 fun i j=>.bl (decide (j < i))):=pJ fun _ _ _ _ _ _ _ q=>gt_int q
theorem oG:OpR X (compareOp .In) (fun x y H Q=>∃ i j,x=.str i∧y=.str j∧Q (.bl (!(Builtin.Str.occurrences j i 0 j.length 1).isEmpty)) H):=by
 intro pins s σ H x y v u Q I rx ry h
 obtain ⟨i,j,rfl,rfl,q⟩:=h
 obtain ⟨t,rfl⟩:=rx
 obtain ⟨t',rfl⟩:=ry
 exact in_str (aE I q rfl)
theorem rh:OpR X (compareOp .Is) (fun x y H Q=>y=.non∧Q (.bl (decide (x=.non))) H):=by
 intro pins s σ H x y v u Q I rx ry h
 obtain ⟨rfl,q⟩:=h
 cases ry
 refine is_none_gen (aE I q ?_)
 cases x <;> first
  | (cases rx; rfl)
  | (obtain ⟨t,rfl⟩:=rx; rfl)
theorem ay (b:Expr) {op:CmpOp} (h:op≠.In:=by decide) (h2:op≠.NotIn:=by decide):behindInMarks op b=false:=by
 have e1:(op==CmpOp.In)=false:=by cases op <;> first | rfl | exact absurd rfl h
 have e2:(op==CmpOp.NotIn)=false:=by cases op <;> first | rfl | exact absurd rfl h2
 cases b <;> simp [behindInMarks,e1,e2]
theorem dW {op:CmpOp} {r:R2} (ho:OpR X (compareOp op) r) (ha:PE X a ta) (hb:PE X b tb) (hm:behindInMarks op b=false):PE X (.Compare a [op] [b] pos) (tOp r ta tb):=by
 intro pins s σ H Q I h
 exact wpAny_Compare1 (binT ha hb I h fun v u s2 x y H2 I2 rx ry q=>ho pins s2 σ H2 x y v u Q I2 rx ry q) hm
def tTest (t:TE):TT:=fun σ H Q=>t σ H fun x H'=>∃ k,x=.bl k∧Q k H'
theorem av {op:CmpOp} {r:R2} (ho:OpR X (compareOp op) r) (ha:PE X a ta) (hb:PE X b tb) (hm:behindInMarks op b=false):PT X (.Compare a [op] [b] pos) (tTest (tOp r ta tb)):=by
 intro pins s σ H Q I h
 refine wpAny_isTrue_Compare1 (thn (ha pins s σ H _ I h) fun v s1 ⟨x,H1,I1,r1,q1⟩=>thn (hb pins s1 σ H1 _ I1 q1) fun u s2 ⟨y,H2,I2,r2,q2⟩=>
  thn (ho pins s2 σ H2 x y v u _ I2 r1 r2 q2) fun c s3 ⟨z,H3,I3,r3,k,e,q3⟩=>?_) hm
 subst e
 cases r3
 exact wpAny_truthy_bool ⟨H3,I3,q3⟩
theorem iF:(sizeLine:Nat) < 2^63:=by rw [sizeLine_eq]; decide
theorem n4:OpR X (binaryOp .Add) (fun x y H Q=>∃ i j,x=.str i∧y=.str j∧i.length+j.length≤sizeLine∧Q (.str (i++j)) H):=by
 intro pins s σ H x y v u Q I rx ry h
 obtain ⟨i,j,rfl,rfl,hz,q⟩:=h
 obtain ⟨t,rfl⟩:=rx
 obtain ⟨t',rfl⟩:=ry
 exact add_str (fun t' tk=>⟨.str (i++j),H,I.tok _,⟨_,rfl⟩,q⟩) hz
theorem cB {x:V} {us:List Value} (r:Vals [x] us):∃ u,us=[u]∧RelV x u:=by
 cases r with
 | cons r1 r2=>cases r2; exact ⟨_,rfl,r1⟩
theorem n5 {x y:V} {us:List Value} (r:Vals [x,y] us):∃ u w',us=[u,w']∧RelV x u∧RelV y w':=by
 cases r with
 | cons r1 r2=>
  cases r2 with
  | cons r3 r4=>cases r4; exact ⟨_,_,rfl,r1,r3⟩
theorem oH (hc:X.calm=true):CallR X (.builtin "min") (fun xs H Q=>∃ i j,xs=[.int i,.int j]∧Q (.int (if j < i then j else i)) H):=by
 intro pins s σ H xs us Q I r h
 obtain ⟨i,j,rfl,q⟩:=h
 obtain ⟨u,w',rfl,⟨t,rfl⟩,⟨t',rfl⟩⟩:=n5 r
 refine min_two_ints (I.ok.hd hc) fun h' tk k=>⟨_,H,I.kept k,?_,q⟩
 by_cases hj:j < i
 · rw [if_pos hj,if_pos hj]; exact ⟨_,rfl⟩
 · rw [if_neg hj,if_neg hj]; exact ⟨_,rfl⟩
theorem lw:CallR X (.type "int") (fun xs H Q=>(∃ i,xs=[.int i]∧Q (.int i) H)∨∃ k,xs=[.bl k]∧Q (.int (if k then 1 else 0)) H):=by
 intro pins s σ H xs us Q I r h
 rcases h with ⟨i,rfl,q⟩ | ⟨k,rfl,q⟩
 · obtain ⟨u,rfl,t,rfl⟩:=cB r
   exact call_int_int ⟨.int i,H,I,⟨_,rfl⟩,q⟩
 · obtain ⟨u,rfl,r1⟩:=cB r
   cases r1
   exact call_int_bool ⟨.int (if k then 1 else 0),H,I.tok _,⟨_,rfl⟩,q⟩
end
end L2
namespace L2
open PySem PySem.Spec PyProof.Rows
structure ObjM (h:Heap) (x dx C:Addr) (mA:Str→Option Value):Prop where
 obj:h.get? x=some (PySem.W.instObj C dx)
 ns:h.Ns1 dx mA
 ne:dx≠x
theorem oI {h:Heap} {dx:Addr} {mA:Str→Option Value} (n:h.Ns1 dx mA):∃ od,h.get? dx=some od∧∀ name,PySem.W.lookIn name od=some (mA name):=by
 obtain ⟨o,es,ep,ho,hd,hk,_,hm⟩:=n
 refine ⟨o,ho,fun name=>?_⟩
 have e:=hm name
 unfold nsFind findBy at e
 rw [← Array.find?_toList] at e
 unfold PySem.W.lookIn
 rw [hd]
 dsimp only
 split
 · rename_i y q
   rw [q] at e
   exact congrArg some e
 · rename_i q
   rw [q] at e
   have a:es.toList.any (·.refKey)=false:=by
    rw [List.any_eq_false]
    intro y hy
    obtain ⟨z,t,hkey⟩:=hk y (Array.mem_toList_iff.mp hy)
    simp [DictEntry.refKey,hkey]
   have a':¬ es.toList.any (·.refKey)=true:=by rw [a]; exact Bool.false_ne_true
   rw [if_neg a']
   exact congrArg some e
theorem ObjM.look {h:Heap} {x dx C:Addr} {mA:Str→Option Value} (I:ObjM h x dx C mA):∃ od,PySem.W.InstAt h x (PySem.W.instObj C dx) C (some od)∧∀ name,PySem.W.lookIn name od=some (mA name):=
 let ⟨od,ho,hl⟩:=oI I.ns
 ⟨od,⟨I.obj,rfl,rfl,ho⟩,hl⟩
section
variable {prog:Program} {w:World} {A:Around} {E:Value→Shared→Prop} {s:Shared} {K:PySem.W.Frag} {x dx C f:Addr} {mA:Str→Option Value} {name:Str} {v:Value}
theorem qo {expr:Bool} {Q:Value→Shared→Prop} (X:K.In s.heap) (I:ObjM s.heap x dx C mA) (hg:PySem.W.plainGet K C name=true) (hh:PySem.W.hasDictIn K C=true)
  (ha:PySem.W.findIn K (.ref C) name=some none) (hv:mA name=some v) (hv':PySem.W.handedIn v=true) (h:Q v { s with toks:=s.toks+1 }):
  wpAny (model prog w) A (getAttr (.ref x) name expr) Q E s:=by
 obtain ⟨od,J,hl⟩:=I.look
 exact PySem.W.get_value X J (PySem.W.plainGet_of hg).1 (PySem.W.findObj_own hh ha rfl (by rw [hl,hv])) hv' h
theorem pK {pl:Sem Bool} {Q:Value × List Value→Shared→Prop} (X:K.In s.heap) (I:ObjM s.heap x dx C mA) (hg:PySem.W.plainGet K C name=true)
  (hf:PySem.W.findIn K (.ref C) name=some (some (.ref f))) (ht:PySem.W.isFn K (.ref f)=true) (hv:mA name=none) (h:Q (.ref f,[.ref x]) s):
  wpAny (model prog w) A (getMethod (.ref x) name pl) Q E s:=by
 obtain ⟨od,J,hl⟩:=I.look
 exact PySem.W.method_fn X J (PySem.W.plainGet_of hg).1 (PySem.W.plainGet_of hg).2 hf (beq_iff_eq.mp ht) (by show (PySem.W.lookIn name od).map (·.isSome)=some false; rw [hl,hv]; rfl) h
theorem qp {ns:List Str} {Q:Unit→Shared→Prop} (X:K.In s.heap) (I:ObjM s.heap x dx C mA)
  (hs:PySem.W.findIn K (.ref C) "__setattr__"=some (some (.builtin "object.__setattr__"))) (hp:PySem.W.plainOver K C=true) (ht:PySem.W.takerIn K C name=some none) (hh:PySem.W.hasDictIn K C=true)
  (hw:PySem.Within mA ns) (hsz:ns.length≤sizeLine)
  (h:∀ h',ObjM h' x dx C (fun y=>if y=name then some v else mA y)→Heap.SameBut dx s.heap h'→Q () { s with heap:=h',toks:=s.toks+2 }):
  wpAny (model prog w) A (setAttr (.ref x) name v) Q E s:=by
 obtain ⟨od,J,hl⟩:=I.look
 refine PySem.W.set_plain X J hs (PySem.W.osa_open (s:={ s with toks:=s.toks+1 }) (r:=none) X J hp ht fun b=>?_)
 obtain ⟨cd,hc,hd'⟩:=PySem.W.any_some hh
 have hx:s.heap.get? x=some ⟨.ref C,some dx,.plain,#[]⟩:=I.obj
 refine wpAny_bind (wpAny_pure (wpAny_bind (wpAny_bind (wpAny_loadPart hx (wpAny_bind (PySem.W.Looks.here (s:={ s with toks:=s.toks+1 }) (PySem.W.looks_clsIn X hc) ?_))))))
 rw [hd']
 refine wpAny_pure (a:=some dx) (wpAny_bind (wpAny_pure (wpAny_bind ?_)))
 refine wpAny_nsSet1 (s:={ s with toks:=s.toks+1 }) I.ns fun h' hn2 hs2=>?_
 obtain ⟨oD,esD,epD,hoD,hdD,hcD⟩:=hn2.count (PySem.Within.cons name v hw)
 refine wpAny_bind (wpAny_lookBehind hoD (by rw [hdD]; exact pastItsLine_dict (Nat.le_trans hcD (by rw [List.length_cons]; omega))) ?_)
 exact wpAny_pure (h _ ⟨(hs2.2 _ (Ne.symm I.ne)).trans I.obj,hn2,I.ne⟩ hs2)
theorem pL {R:Result→Shared→Prop} {vs:List Value} {kw:List (Str × Value)} (X:K.In s.heap) (hm:PySem.W.makesIn K C=true)
  (hi:PySem.W.findIn K (.ref C) "__init__"=some (some (.ref f))) (hf:PySem.W.typeIn K (.ref f)=some (.type "function"))
  (h:codeAny (model prog w) (A.under (.builtin "type.__call__" ⟨.ref C::vs,kw⟩)) (.call (.ref f) ⟨.ref (s.heap.objs.size+1)::vs,kw⟩) (PySem.W.InitBack (s.heap.objs.size+1) R)
   { s with heap:=(s.heap.push PySem.W.emptyDict).push (PySem.W.instObj C s.heap.objs.size) }):
  codeAny (model prog w) A (.call (.ref C) ⟨vs,kw⟩) R s:=by
 obtain ⟨hh,g,d,t,os⟩:=s
 exact PySem.W.make_core (PySem.W.makes_of X hm) (PySem.W.looks_findIn X hi) (fun self=>PySem.W.bind_fn X self hf) (.inl rfl) h
end
def putF (f:Str) (v:V):List (Str × V)→List (Str × V)
 | []=>[(f,v)]
 | (g,x)::r=>if g=f then (g,v)::r else (g,x)::putF f v r
theorem jo (f g:Str) (v:V):∀ fs:List (Str × V),(putF f v fs).lookup g=if g=f then some v else fs.lookup g
 | []=>by
  show List.lookup g [(f,v)]=_
  by_cases h:g=f
  · have hb:(g==f)=true:=beq_iff_eq.mpr h
    simp only [List.lookup,hb,if_pos h]
  · have hb:(g==f)=false:=beq_eq_false_iff_ne.mpr h
    simp only [List.lookup,hb,if_neg h]
 | (k,x)::r=>by
  have ih:=jo f g v r
  rw [show putF f v ((k,x)::r)=(if k=f then (k,v)::r else (k,x)::putF f v r) from rfl]
  by_cases hk:k=f
  · rw [if_pos hk]
    by_cases h:g=k
    · have hb:(g==k)=true:=beq_iff_eq.mpr h
      simp only [List.lookup,hb,if_pos (h.trans hk)]
    · have hb:(g==k)=false:=beq_eq_false_iff_ne.mpr h
      simp only [List.lookup,hb,if_neg (fun e:g=f=>h (e.trans hk.symm))]
  · rw [if_neg hk]
    by_cases h:g=k
    · have hb:(g==k)=true:=beq_iff_eq.mpr h
      simp only [List.lookup,hb,if_neg (fun e:g=f=>hk (h.symm.trans e))]
    · have hb:(g==k)=false:=beq_eq_false_iff_ne.mpr h
      simp only [List.lookup,hb]
      exact ih
theorem iG (f:Str) (v:V):∀ fs:List (Str × V),f∈(putF f v fs).map (·.1)∧∀ g,g∈fs.map (·.1)→g∈(putF f v fs).map (·.1)
 | []=>⟨by simp [putF],fun g h=>by simp at h⟩
 | (k,x)::r=>by
  obtain ⟨i1,i2⟩:=iG f v r
  rw [show putF f v ((k,x)::r)=(if k=f then (k,v)::r else (k,x)::putF f v r) from rfl]
  by_cases hk:k=f
  · rw [if_pos hk]
    subst hk
    exact ⟨by simp,fun g h=>by simpa using h⟩
  · rw [if_neg hk]
    refine ⟨?_,fun g h=>?_⟩
    · rw [List.map_cons]
      exact List.mem_cons_of_mem _ i1
    · rw [List.map_cons] at h ⊢
      rcases List.mem_cons.mp h with e | e
      · exact List.mem_cons.mpr (.inl e)
      · exact List.mem_cons_of_mem _ (i2 g e)
theorem jp (f:Str) (v:V):∀ fs:List (Str × V),(putF f v fs).length≤fs.length+1
 | []=>by simp [putF]
 | (k,x)::r=>by
  have ih:=jp f v r
  rw [show putF f v ((k,x)::r)=(if k=f then (k,v)::r else (k,x)::putF f v r) from rfl]
  by_cases hk:k=f
  · rw [if_pos hk,List.length_cons,List.length_cons]; omega
  · rw [if_neg hk,List.length_cons,List.length_cons]; omega
theorem RelO.some_of {v:V} {o:Option Value} (r:RelO (some v) o):∃ u,o=some u∧RelV v u:=by
 cases o with
 | none=>exact (show False from r).elim
 | some u=>exact ⟨u,rfl,r⟩
theorem RelO.none_of {o:Option Value} (r:RelO none o):o=none:=by
 cases o with
 | none=>rfl
 | some u=>exact (show False from r).elim
theorem oJ {v:V} {u:Value} (r:RelV v u):PySem.W.handedIn u=true:=by
 cases v with
 | non=>cases (show u=Value.none from r); rfl
 | bl b=>cases (show u=Value.bool b from r); rfl
 | int i=>obtain ⟨t,e⟩:=(show ∃ t,u=Value.int i t from r); cases e; rfl
 | str x=>obtain ⟨t,e⟩:=(show ∃ t,u=Value.str x t from r); cases e; rfl
 | byt b=>obtain ⟨t,e⟩:=(show ∃ t,u=Value.bytes b t from r); cases e; rfl
 | flt b=>obtain ⟨t,e⟩:=(show ∃ t,u=Value.float b t from r); cases e; rfl
 | ref a=>cases (show u=Value.ref a from r); rfl
 | ty n=>cases (show u=Value.type n from r); rfl
section
variable {P:Program} {w:World} {H H':Hp} {h h':Heap} {a C dx:Addr} {fs fs':List (Str × V)}
theorem g6 (hok:HOk P w H h) (e:H a=some (.ins C dx fs)):∃ mA,ObjM h a dx C mA∧(∀ f,RelO (fs.lookup f) (mA f))∧PySem.Within mA (fs.map (·.1))∧fs.length≤1000∧H dx=some (.own a):=by
 obtain ⟨d,z,ne,ob,mA,n,r,q⟩:=(show ObjOk P w H h a (.ins C dx fs) from hok a _ e)
 exact ⟨mA,⟨ob,n,ne⟩,r,q,z,d⟩
end
structure Cls (K:PySem.W.Frag) (C:Addr):Prop where
 pg:PySem.W.plainGet K C Str.empty=true
 hd:PySem.W.hasDictIn K C=true
 po:PySem.W.plainOver K C=true
 sa:PySem.W.findIn K (.ref C) "__setattr__"=some (some (.builtin "object.__setattr__"))
theorem Cls.get {K:PySem.W.Frag} {C:Addr} (c:Cls K C) (f:Str):PySem.W.plainGet K C f=true:=c.pg
def NoAttr (K:PySem.W.Frag) (C:Addr) (f:Str):Prop:=PySem.W.findIn K (.ref C) f=some none
theorem NoAttr.taker {K:PySem.W.Frag} {C:Addr} {f:Str} (n:NoAttr K C f):PySem.W.takerIn K C f=some none:=by
 unfold PySem.W.takerIn
 rw [show PySem.W.findIn K (.ref C) f=some none from n]
 rfl
structure Meth (K:PySem.W.Frag) (C:Addr) (m:Str) (f:Addr):Prop where
 at_:PySem.W.findIn K (.ref C) m=some (some (.ref f))
 fn:PySem.W.isFn K (.ref f)=true
 kp:PySem.W.keepIn K (.ref f)=true
section
variable {X:Cx} {pins:List (Addr × Obj)} {σ:St} {H:Hp} {s:Shared} {a C dx:Addr} {fs:List (Str × V)} {f:Str} {v:V} {A:Around} {E:Value→Shared→Prop}
theorem n6 {b:Bool} {Q:Value→Shared→Prop} (I:Inv X pins σ H s) (e:H a=some (.ins C dx fs)) (c:Cls X.K C) (n:NoAttr X.K C f) (l:fs.lookup f=some v)
  (h:∀ u s',Inv X pins σ H s'→RelV v u→Q u s'):wpAny (model X.prog X.w) A (getAttr (.ref a) f b) Q E s:=by
 obtain ⟨mA,O,r,_,_,_⟩:=g6 I.hok e
 obtain ⟨u,hu,ru⟩:=RelO.some_of (v:=v) (o:=mA f) (by rw [← l]; exact r f)
 exact qo I.kIn O (c.get f) c.hd n hu (oJ ru) (h u _ (I.tok _) ru)
theorem jT {m:Str} {g:Addr} {pl:Sem Bool} {Q:Value × List Value→Shared→Prop} (I:Inv X pins σ H s) (e:H a=some (.ins C dx fs)) (c:Cls X.K C) (k:Meth X.K C m g) (l:fs.lookup m=none)
  (h:Q (.ref g,[.ref a]) s):wpAny (model X.prog X.w) A (getMethod (.ref a) m pl) Q E s:=by
 obtain ⟨mA,O,r,_,_,_⟩:=g6 I.hok e
 have hn:mA m=none:=RelO.none_of (by rw [← l]; exact r m)
 exact pK I.kIn O (c.get m) k.at_ k.fn hn h
theorem oa {y:V} {u:Value} {Q:Unit→Shared→Prop} (I:Inv X pins σ H s) (e:H a=some (.ins C dx fs)) (c:Cls X.K C) (n:NoAttr X.K C f) (hl:fs.length < 1000) (ry:RelV y u)
  (h:∀ s',Inv X pins σ (upd H a (.ins C dx (putF f y fs))) s'→Q () s'):wpAny (model X.prog X.w) A (setAttr (.ref a) f u) Q E s:=by
 obtain ⟨mA,O,r,wi,_,ho⟩:=g6 I.hok e
 have hz:(fs.map (·.1)).length≤sizeLine:=by rw [List.length_map,sizeLine_eq]; omega
 refine qp I.kIn O c.sa c.po n.taker c.hd wi hz fun h' O' sb=>h _ ?_
 have hd:∃ o,h'.get? dx=some o:=let ⟨o,_,_,e',_⟩:=O'.ns; ⟨o,e'⟩
 refine I.write (x:=a) (e:=dx) (by rw [e]; exact True.intro) (.inr ho) (fun b q hb z=>(sb.2 b hb).trans z) hd ?_
 refine ⟨by rw [ah O.ne]; exact ho,?_,O.ne,O'.obj,_,O'.ns,fun g=>?_,fun g hg=>?_⟩
 · have:=jp f y fs; omega
 · show RelO ((putF f y fs).lookup g) (if g=f then some u else mA g)
   rw [jo]
   by_cases q:g=f
   · rw [if_pos q,if_pos q]; exact ry
   · rw [if_neg q,if_neg q]; exact r g
 · by_cases q:g=f
   · rw [q]; exact (iG f y fs).1
   · refine (iG f y fs).2 g (wi g fun z=>hg ?_)
     show (if g=f then some u else mA g)=none
     rw [if_neg q]; exact z
theorem Inv.made (I:Inv X pins σ H s):Inv X pins σ (upd (upd H s.heap.objs.size (.own (s.heap.objs.size+1))) (s.heap.objs.size+1) (.ins C s.heap.objs.size []))
  { s with heap:=(s.heap.push PySem.W.emptyDict).push (PySem.W.instObj C s.heap.objs.size) }:=by
 have e1:(s.heap.push PySem.W.emptyDict).get? s.heap.objs.size=some PySem.W.emptyDict:=Heap.get?_push_size s.heap rfl
 have e2:((s.heap.push PySem.W.emptyDict).push (PySem.W.instObj C s.heap.objs.size)).get? (s.heap.objs.size+1)=some (PySem.W.instObj C s.heap.objs.size):=by
  have:=Heap.get?_push_size (s.heap.push PySem.W.emptyDict) (o:=PySem.W.instObj C s.heap.objs.size) rfl
  rwa [Heap.size_push] at this
 have e3:(s.heap.push PySem.W.emptyDict).Ns s.heap.objs.size (fun _=>none):=⟨PySem.W.emptyDict,#[],_,e1,rfl,(fun e he=>absurd he (by simp)),fun _=>rfl⟩
 have I1:=I.laid (a:=s.heap.objs.size) (o:=.own (s.heap.objs.size+1)) (h':=s.heap.push PySem.W.emptyDict) (t':=s.toks) (fun b u q=>Heap.get?_push_of_some _ q) (Nat.le_refl _) ⟨_,e1⟩
 refine I1.laid (a:=s.heap.objs.size+1) (o:=.ins C s.heap.objs.size []) (t':=s.toks) (fun b u q=>Heap.get?_push_of_some _ q) (Nat.le_of_eq (Heap.size_push _ _)) ?_
 have ne:s.heap.objs.size≠s.heap.objs.size+1:=Nat.ne_of_lt (Nat.lt_succ_self _)
 refine ⟨by rw [ah ne,ad],Nat.zero_le _,ne,e2,fun _=>none,(Heap.Ns1.of_empty e3).at fun o q=>Heap.get?_push_of_some _ q,fun _=>True.intro,fun y hy=>absurd rfl hy⟩
theorem qq {prog:Program} {w:World} {env:Env} {e:Expr} {f:Str} {pos:Pos} {s:Shared} {Q:Value→Shared→Prop} (hb:attributeBase e f env (eval e env)=eval e env)
  (h:wpAny (model prog w) A (eval e env) (fun o s₁=>wpAny (model prog w) A (getAttr o f true) Q E s₁) E s):wpAny (model prog w) A (eval (.Attribute e f pos) env) Q E s:=
 Attribute_any_ h (by rw [arm_eval_Attribute,hb])
end
section
variable {X:Cx} {o e value:Expr} {f:Str} {pos pos' tpos:Pos} {ta tv:TE}
end
section
variable {X:Cx} {pins:List (Addr × Obj)} {σ:St} {H:Hp} {s:Shared} {A:Around} {E:Value→Shared→Prop} {Q:Value→Shared→Prop} {c:Value} {b:Bool}
inductive TyOf (K:PySem.W.Frag) (H:Hp):V→Value→Prop where
 | non:TyOf K H .non (.type "NoneType")
 | bl (x:Bool):TyOf K H (.bl x) (.type "bool")
 | int (i:Int):TyOf K H (.int i) (.type "int")
 | str (x:Str):TyOf K H (.str x) (.type "str")
 | flt (x:UInt64):TyOf K H (.flt x) (.type "float")
 | lst {a:Addr} {xs:List V} (e:H a=some (.lst xs)):TyOf K H (.ref a) (.type "list")
 | frz {a:Addr} {o:Obj} {xs:List V} (e:H a=some (.frz o (.lst xs))):TyOf K H (.ref a) (.type "list")
 | tup {a:Addr} {xs:List V} (e:H a=some (.tup xs)):TyOf K H (.ref a) (.type "tuple")
 | dK {a:Addr} {kvs:List (Key × V)} (e:H a=some (.dK kvs)):TyOf K H (.ref a) (.type "dict")
 | dT {a:Addr} {kvs:List (List Key × V)} (e:H a=some (.dT kvs)):TyOf K H (.ref a) (.type "dict")
 | ins {a C dx:Addr} {fs:List (Str × V)} (e:H a=some (.ins C dx fs)) (cl:Cls K C) (ha:PySem.W.findIn K (.ref C) "__class__"=some (some (.builtin "object.__class__")))
   (hn:PySem.W.specialIn K (.builtin "object.__class__") "__get__"=some (some (.builtin "getset_descriptor.__get__"))) (htk:PySem.W.takesIn K (.builtin "object.__class__")=some true)
   (hm:PySem.W.mroIn K C (.type "object")=some true):TyOf K H (.ref a) (.ref C)
theorem oK {x:V} {u t:Value} (I:Inv X pins σ H s) (rx:RelV x u) (ty:TyOf X.K H x t) (e:PySem.W.kitOne X.K t c=some b) (h:∀ tk,Q (.bool b) { s with toks:=tk }):
  wpAny (model X.prog X.w) A (call (.builtin "isinstance") [u,c]) Q E s:=by
 cases ty with
 | non=>cases (show u=Value.none from rx); exact PySem.W.kia_one PySem.W.kitx_none I.kIn True.intro e (fun z=>nomatch z) h
 | bl y=>cases (show u=Value.bool y from rx); exact PySem.W.kia_one PySem.W.kitx_bool I.kIn True.intro e (fun z=>nomatch z) h
 | int i=>obtain ⟨t,q⟩:=(show ∃ t,u=Value.int i t from rx); cases q; exact PySem.W.kia_one PySem.W.kitx_int I.kIn True.intro e (fun z=>nomatch z) h
 | str y=>obtain ⟨t,q⟩:=(show ∃ t,u=Value.str y t from rx); cases q; exact PySem.W.kia_one PySem.W.kitx_str I.kIn True.intro e (fun z=>nomatch z) h
 | flt y=>obtain ⟨t,q⟩:=(show ∃ t,u=Value.float y t from rx); cases q; exact PySem.W.kia_one PySem.W.kitx_float I.kIn True.intro e (fun z=>nomatch z) h
 | @lst a xs ea=>
  cases (show u=Value.ref a from rx)
  obtain ⟨_,_,n,_,h1⟩:=(show ObjOk X.prog X.w H s.heap a (.lst xs) from I.hok a _ ea)
  exact PySem.W.kia_one PySem.W.kitx_list I.kIn ⟨_,h1,rfl⟩ e (fun z=>nomatch z) h
 | @frz a ob xs ea=>
  cases (show u=Value.ref a from rx)
  obtain ⟨_,_,_,n,_,h1⟩:=(show ObjOk X.prog X.w H s.heap a (.frz ob (.lst xs)) from I.hok a _ ea)
  exact PySem.W.kia_one PySem.W.kitx_list I.kIn ⟨_,h1,rfl⟩ e (fun z=>nomatch z) h
 | @tup a xs ea=>
  cases (show u=Value.ref a from rx)
  obtain ⟨_,_,_,p⟩:=(show ObjOk X.prog X.w H s.heap a (.tup xs) from I.hok a _ ea)
  obtain ⟨o,h1,h2,_⟩:=p
  exact PySem.W.kia_one PySem.W.kitx_tuple I.kIn ⟨o,h1,h2⟩ e (fun z=>nomatch z) h
 | @dK a kvs ea=>
  cases (show u=Value.ref a from rx)
  obtain ⟨_,_,vs,_,p⟩:=(show ObjOk X.prog X.w H s.heap a (.dK kvs) from I.hok a _ ea)
  obtain ⟨o,es,ep,h1,h2,_⟩:=p
  exact PySem.W.kia_one PySem.W.kitx_dict I.kIn ⟨o,h1,h2.1⟩ e (fun z=>nomatch z) h
 | @dT a kvs ea=>
  cases (show u=Value.ref a from rx)
  obtain ⟨_,_,xs,_,o,es,ep,h1,h2,_⟩:=(show ObjOk X.prog X.w H s.heap a (.dT kvs) from I.hok a _ ea)
  exact PySem.W.kia_one PySem.W.kitx_dict I.kIn ⟨o,h1,h2.1⟩ e (fun z=>nomatch z) h
 | @ins a C dx fs ea cl ha hn htk hm=>
  cases (show u=Value.ref a from rx)
  obtain ⟨mA,O,_⟩:=g6 I.hok ea
  obtain ⟨od,J,_⟩:=O.look
  exact PySem.W.kia_one (PySem.W.kitx_own (cl.get _) cl.hd ha hn htk hm) I.kIn J e (fun z=>nomatch z) h
end
end L2
namespace L2
open PySem PySem.Spec PyProof.Rows
structure Room (k:Nat) (A:Around):Prop where
 hd:A.handled=none
 dp:A.depth+3*k+5 < recursionLimit
 un:A.units+16*k+200 < cLine
theorem Room.mono {j k:Nat} {A:Around} (r:Room k A) (h:j≤k):Room j A:=⟨r.hd,by have:=r.dp; omega,by have:=r.un; omega⟩
theorem Room.deeper {k:Nat} {A:Around} (r:Room (k+1) A) (env:Env):Room k (A.deeper env):=
 ⟨r.hd,by have:=r.dp; show A.depth+1+3*k+5 < _; omega,by have:=r.un; show A.units+3+16*k+200 < _; omega⟩
theorem oe {A:Around} {C:Addr} {us:List Value} {kw:List (Str × Value)}:(A.under (.builtin "type.__call__" ⟨.ref C::us,kw⟩)).depth=A.depth+1:=by
 first | rfl | simp [Around.under,Code.weight,Code.isCreation,Code.isGuard,Code.isCaller,Code.frames,Code.isFrame,guardIds]
theorem og {A:Around} {C:Addr} {us:List Value} {kw:List (Str × Value)}:(A.under (.builtin "type.__call__" ⟨.ref C::us,kw⟩)).units=A.units+1:=by
 first | rfl | simp [Around.under,Code.cUnits,Code.frames,Code.isFrame]
theorem Room.make {k:Nat} {A:Around} (r:Room (k+1) A) (C:Addr) (us:List Value) (kw:List (Str × Value)):Room k (A.under (.builtin "type.__call__" ⟨.ref C::us,kw⟩)):=
 ⟨r.hd,by have:=r.dp; rw [oe]; omega,by have:=r.un; rw [og]; omega⟩
theorem Room.depth {k:Nat} {A:Around} (r:Room k A):A.depth < recursionLimit:=by have:=r.dp; omega
theorem Room.units {k:Nat} {A:Around} (r:Room k A):A.units+64 < cLine:=by have:=r.un; omega
def tNil:TA:=fun _ H Q=>Q [] H
def tCons (ta:TE) (tr:TA):TA:=fun σ H Q=>ta σ H fun x H1=>tr σ H1 fun xs H2=>Q (x::xs) H2
section
variable {X:Cx} {e:Expr} {es:List Expr} {te:TE} {t:TA} {pos:Pos}
theorem ab:PA X [] tNil:=fun _ _ _ _ H Q I h=>Calls.spliced_nil ⟨[],H,I,.nil,h⟩
theorem aa (ha:PE X e te) (hr:PA X es t) (hs:starEach (e::es) X.env=(false,eval e X.env)::starEach es X.env:=by rfl):PA X (e::es) (tCons te t):=by
 intro pos pins s σ H Q I h
 rw [hs]
 show wpAny _ _ (spliced ((false,eval e X.env)::backTo pos (starEach es X.env))) _ _ s
 refine Calls.spliced_cons (thn (ha pins s σ H _ I h) fun u s1 ⟨x,H1,I1,r1,q1⟩=>?_)
 exact thn (hr pos pins s1 σ H1 _ I1 q1) fun us s2 ⟨xs,H2,I2,r2,q2⟩=>⟨x::xs,H2,I2,.cons r1 r2,q2⟩
def tTup (t:TA):TE:=fun σ H Q=>t σ H fun xs H1=>xs.length≤sizeLine∧∀ p,H1 p=none→Q (.ref p) (upd H1 p (.tup xs))
def tLst (t:TA):TE:=fun σ H Q=>t σ H fun xs H1=>xs.length≤sizeLine∧∀ p,H1 p=none→Q (.ref p) (upd H1 p (.lst xs))
theorem oM {x1} (h:PA X es t):PE X (.Tuple es x1 pos) (tTup t):=by
 intro pins s σ H Q I hq
 refine wpAny_Tuple_spliced (thn (h pos pins s σ H _ I hq) fun us s1 ⟨xs,H1,I1,r,z,q⟩=>⟨by rw [← r.length]; exact z,?_⟩)
 have hf:H1 s1.heap.objs.size=none:=I1.hok.fresh (Nat.le_refl _)
 refine ⟨.ref s1.heap.objs.size,upd H1 s1.heap.objs.size (.tup xs),I1.laid (t':=s1.toks) (fun b u e=>Heap.get?_push_of_some _ e) (Nat.le_refl _) ?_,rfl,q _ hf⟩
 exact ⟨z,us,r,⟨_,Heap.get?_push_size _ rfl,rfl,_,rfl⟩⟩
theorem cj (h:PA X es t):PE X (.List es pos) (tLst t):=by
 intro pins s σ H Q I hq
 refine wpAny_List_spliced (thn (h pos pins s σ H _ I hq) fun us s1 ⟨xs,H1,I1,r,z,q⟩=>⟨by rw [← r.length]; exact z,?_⟩)
 have hf:H1 s1.heap.objs.size=none:=I1.hok.fresh (Nat.le_refl _)
 refine ⟨.ref s1.heap.objs.size,upd H1 s1.heap.objs.size (.lst xs),I1.laid (t':=s1.toks) (fun b u e=>Heap.get?_push_of_some _ e) (Nat.le_refl _) ?_,rfl,q _ hf⟩
 exact ⟨z,us,0,r,Heap.get?_push_size _ rfl⟩
end
abbrev Sp:=List V→Hp→VK→XK→Prop
abbrev CXT:=List Env→Hp→Shared→XK→Value→Shared→Prop
structure Env0 (P:Program) (w:World) (K:PySem.W.Frag) (mg:Str→Option Value) (base:Heap) (A:Around) (outer:List Env) (s:Shared) (H:Hp):Prop where
 frames:A.frames=some outer
 mod:Mod K mg base
 bs:∀ b o,base.get? b=some o→s.heap.get? b=some o∧H b=none
 bsz:base.objs.size≤s.heap.objs.size
 funs:s.heap.FunFrames base outer
 frf:∀ b∈frs outer,H b=none
 hok:HOk P w H s.heap
 bare:AllBare s.gens
def CE (outer:List Env) (P:Program) (w:World) (H:Hp) (s:Shared) (Q:VK) (u:Value) (s':Shared):Prop:=
 ∃ v H',s'.os=s.os∧AllBare s'.gens∧Un (frs outer) [] H H' s.heap s'.heap∧HOk P w H' s'.heap∧RelV v u∧Q v H'
def CR (CX:CXT) (outer:List Env) (P:Program) (w:World) (H:Hp) (s:Shared) (Q:VK) (E:XK) (r:Result) (s':Shared):Prop:=
 match r with
 | .ok (.ret u)=>CE outer P w H s Q u s'
 | .ok _=>False
 | .error e=>CX outer H s E e s'
structure FnOk (P:Program) (w:World) (K:PySem.W.Frag) (mg:Str→Option Value) (base:Heap) (CX:CXT) (k:Nat) (f:Addr) (fd:FuncData) (ps:List Str) (sp:Sp):Prop where
 len:∀ vs H Q E,sp vs H Q E→vs.length=ps.length
 run:∀ (A:Around) (outer:List Env) (s:Shared) (H:Hp) (args:Args) (us:List Value) (vs:List V) (Q:VK) (E:XK),Room k A→Env0 P w K mg base A outer s H→BindsTo s fd args (ps.zip us)→Vals vs us→sp vs H Q E→
  codeAny (model P w) A (.call (.ref f) args) (CR CX outer P w H s Q E) s
theorem FnOk.mono {P:Program} {w:World} {K:PySem.W.Frag} {mg:Str→Option Value} {base:Heap} {CX:CXT} {j k:Nat} {f:Addr} {fd:FuncData} {ps:List Str} {sp:Sp} (F:FnOk P w K mg base CX j f fd ps sp) (h:j≤k):
  FnOk P w K mg base CX k f fd ps sp:=⟨F.len,fun A outer s H args us vs Q E hr=>F.run A outer s H args us vs Q E (hr.mono h)⟩
theorem FnOk.imp {P:Program} {w:World} {K:PySem.W.Frag} {mg:Str→Option Value} {base:Heap} {CX:CXT} {k:Nat} {f:Addr} {fd:FuncData} {ps:List Str} {sp sp':Sp} (F:FnOk P w K mg base CX k f fd ps sp)
  (h:∀ vs H Q E,sp' vs H Q E→sp vs H Q E):FnOk P w K mg base CX k f fd ps sp':=
 ⟨fun vs H Q E q=>F.len vs H Q E (h _ _ _ _ q),fun A outer s H args us vs Q E hr he hb hv hs=>F.run A outer s H args us vs Q E hr he hb hv (h _ _ _ _ hs)⟩
theorem Env0.make {P:Program} {w:World} {K:PySem.W.Frag} {mg:Str→Option Value} {base:Heap} {A:Around} {outer:List Env} {s:Shared} {H:Hp} (e:Env0 P w K mg base A outer s H) (C:Addr) (us:List Value) (kw:List (Str × Value)):
  Env0 P w K mg base (A.under (.builtin "type.__call__" ⟨.ref C::us,kw⟩)) outer s H:=⟨by first | exact e.frames | (simpa [Around.under,Code.envs,Code.isFrame,pushEnvs] using e.frames),e.mod,e.bs,e.bsz,e.funs,e.frf,e.hok,e.bare⟩
section
variable {X:Cx} {pins:List (Addr × Obj)} {σ:St} {H:Hp} {s s':Shared}
theorem Inv.env0 (I:Inv X pins σ H s):Env0 X.prog X.w X.K X.mg X.base X.A X.stack s H:=
 ⟨I.ok.frames,I.ok.mod,I.bs,Nat.le_trans I.ok.bsz I.sz,I.stack,I.stkFree,I.hok,I.bare⟩
theorem Inv.after {Q:VK} {u:Value} (I:Inv X pins σ H s) (h:CE X.stack X.prog X.w H s Q u s'):EP X pins σ Q u s':=by
 obtain ⟨v,H',os,bare,un,hok,r,q⟩:=h
 obtain ⟨hh,g,d,t,os'⟩:=s'
 obtain rfl:os'=s.os:=os
 exact ⟨v,H',I.call (h':=hh) (g':=g) (d':=d) (t':=t) (ch:=[]) un hok bare (fun b z=>absurd z (by simp)),r,q⟩
end
def tCall (sp:Sp) (dvs:List V) (E:XK) (t:TA):TE:=fun σ H Q=>t σ H fun vs H1=>sp (vs++dvs) H1 Q E
def tMake (C:Addr) (sp:Sp) (dvs:List V) (E:XK) (t:TA):TE:=fun σ H Q=>t σ H fun vs H1=>∀ x dx,H1 x=none→H1 dx=none→dx≠x→
 sp (.ref x::(vs++dvs)) (upd (upd H1 dx (.own x)) x (.ins C dx [])) (fun v H2=>v=.non∧Q (.ref x) H2) E
def Binds (K:PySem.W.Frag) (fd:FuncData) (ps:List Str) (ds:List Value):Prop:=
 ∀ (s:Shared) (us:List Value),K.In s.heap→(us++ds).length=ps.length→BindsTo s fd ⟨us,[]⟩ (ps.zip (us++ds))
theorem Binds.all {K:PySem.W.Frag} {fd:FuncData} {ps:List Str} (h:∀ us:List Value,us.length=ps.length→bindArgs fd ⟨us,[]⟩=pure (ps.zip us)):Binds K fd ps []:=fun s us _ hl=>by
 rw [List.append_nil] at hl ⊢
 exact .of_eq (h us hl)
def iH (CX:CXT) (X:Cx) (E:XK):Prop:=∀ (pins:List (Addr × Obj)) (σ:St) (H:Hp) (s:Shared) (e:Value) (s':Shared),Inv X pins σ H s→CX X.stack H s E e s'→X.xe e s'
section
variable {X:Cx} {CX:CXT} {k:Nat} {f C:Addr} {fd:FuncData} {ps:List Str} {sp:Sp} {dvs:List V} {ds:List Value} {E:XK} {x m:Str} {p pos apos:Pos} {e o:Expr} {es:List Expr} {ta:TE} {t:TA}
theorem ml {pins:List (Addr × Obj)} {σ:St} {H:Hp} {s:Shared} {Q:VK} {us:List Value} {vs:List V} (F:FnOk X.prog X.w X.K X.mg X.base CX k f fd ps sp) (hr:Room k X.A) (hb:Binds X.K fd ps ds) (hd:Vals dvs ds) (hx:iH CX X E)
  (I:Inv X pins σ H s) (r:Vals vs us) (h:sp (vs++dvs) H Q E):wpAny (model X.prog X.w) X.A (call (.ref f) us) (EP X pins σ Q) X.xe s:=by
 have r2:Vals (vs++dvs) (us++ds):=r.append hd
 have hl:(us++ds).length=ps.length:=by rw [← r2.length]; exact F.len _ _ _ _ h
 refine wpAny_call (codeAny_mono (F.run X.A X.stack s H ⟨us,[]⟩ (us++ds) (vs++dvs) Q E hr I.env0 (hb s us I.kIn hl) r2 h) fun r s' hq=>?_)
 cases r with
 | error e=>exact hx pins σ H s e s' I hq
 | ok fl=>
  cases fl with
  | ret u=>exact I.after hq
  | next=>exact False.elim hq
  | brk=>exact False.elim hq
  | cont=>exact False.elim hq
theorem qr (F:FnOk X.prog X.w X.K X.mg X.base CX k f fd ps sp) (hr:Room k X.A) (hg:Gl X x) (hm:X.mg x=some (.ref f)) (hk:PySem.W.keepIn X.K (.ref f)=true) (hb:Binds X.K fd ps ds) (hd:Vals dvs ds) (hx:iH CX X E)
  (ha:PA X (e::es) t) (hdb:(x==("__debug__":Str))=false:=by decide) (he:starEach (e::es) X.env=(false,eval e X.env)::starEach es X.env:=by rfl) (hpl:(backTo pos (starEach es X.env)).any (·.1)=false:=by rfl):
  PE X (.Call (.Name x p) (e::es) [] pos) (tCall sp dvs E t):=by
 intro pins s σ H Q I h
 refine wpAny_Call_Name_kw (kR I hg hm ?_ hdb)
 refine PySem.W.callWith_K (h₀:=X.base) I.ok.mod.kin hk (thn (ha pos pins s σ H _ I h) fun us s1 ⟨vs,H1,I1,r,q⟩=>⟨I1.kIn,?_⟩) he hpl
 exact ml F hr hb hd hx I1 r q
structure Mk (K:PySem.W.Frag) (C f:Addr):Prop where
 makes:PySem.W.makesIn K C=true
 init:PySem.W.findIn K (.ref C) "__init__"=some (some (.ref f))
 fn:PySem.W.isFn K (.ref f)=true
 kp:PySem.W.keepIn K (.ref C)=true
theorem pM {pins:List (Addr × Obj)} {σ:St} {H:Hp} {s:Shared} {Q:VK} {us:List Value} {vs:List V} (M:Mk X.K C f) (F:FnOk X.prog X.w X.K X.mg X.base CX k f fd ps sp) (hr:Room (k+1) X.A) (hb:Binds X.K fd ps ds) (hd:Vals dvs ds)
  (hx:iH CX X E) (I:Inv X pins σ H s) (r:Vals vs us)
  (h:∀ x dx,H x=none→H dx=none→dx≠x→sp (.ref x::(vs++dvs)) (upd (upd H dx (.own x)) x (.ins C dx [])) (fun v H2=>v=.non∧Q (.ref x) H2) E):
  wpAny (model X.prog X.w) X.A (call (.ref C) us) (EP X pins σ Q) X.xe s:=by
 have hq:=h (s.heap.objs.size+1) s.heap.objs.size (I.hok.fresh (Nat.le_succ _)) (I.hok.fresh (Nat.le_refl _)) (Nat.ne_of_lt (Nat.lt_succ_self _))
 have I2:=Inv.made (C:=C) I
 have r2:Vals (V.ref (s.heap.objs.size+1)::(vs++dvs)) (Value.ref (s.heap.objs.size+1)::(us++ds)):=.cons rfl (r.append hd)
 have hl:(Value.ref (s.heap.objs.size+1)::us++ds).length=ps.length:=by
  have e:=r2.length
  rw [F.len _ _ _ _ hq] at e
  exact e.symm
 refine wpAny_call (pL (f:=f) I.kIn M.makes M.init (beq_iff_eq.mp M.fn) (codeAny_mono (F.run _ X.stack _ _ ⟨Value.ref (s.heap.objs.size+1)::us,[]⟩ (Value.ref (s.heap.objs.size+1)::(us++ds)) _ _ E (hr.make C us [])
  (I2.env0.make C us []) (hb _ (Value.ref (s.heap.objs.size+1)::us) I2.kIn hl) r2 hq) fun r s' hq'=>?_))
 cases r with
 | error e=>exact hx pins σ _ _ e s' I2 hq'
 | ok fl=>
  cases fl with
  | ret u=>
   obtain ⟨v,H',I3,rv,ev,q3⟩:=I2.after hq'
   subst ev
   exact ⟨rv,⟨V.ref (s.heap.objs.size+1),H',I3,rfl,q3⟩⟩
  | next=>exact False.elim hq'
  | brk=>exact False.elim hq'
  | cont=>exact False.elim hq'
theorem qt (M:Mk X.K C f) (F:FnOk X.prog X.w X.K X.mg X.base CX k f fd ps sp) (hr:Room (k+1) X.A) (hg:Gl X x) (hm:X.mg x=some (.ref C)) (hb:Binds X.K fd ps ds) (hd:Vals dvs ds) (hx:iH CX X E)
  (ha:PA X (e::es) t) (hdb:(x==("__debug__":Str))=false:=by decide) (he:starEach (e::es) X.env=(false,eval e X.env)::starEach es X.env:=by rfl) (hpl:(backTo pos (starEach es X.env)).any (·.1)=false:=by rfl):
  PE X (.Call (.Name x p) (e::es) [] pos) (tMake C sp dvs E t):=by
 intro pins s σ H Q I h
 refine wpAny_Call_Name_kw (kR I hg hm ?_ hdb)
 refine PySem.W.callWith_K (h₀:=X.base) I.ok.mod.kin M.kp (thn (ha pos pins s σ H _ I h) fun us s1 ⟨vs,H1,I1,r,q⟩=>⟨I1.kIn,?_⟩) he hpl
 exact pM M F hr hb hd hx I1 r q
end
section
variable {X:Cx} {CX:CXT} {k:Nat} {f C:Addr} {fd:FuncData} {ps ks:List Str} {sp:Sp} {E:XK} {x m:Str} {p pos apos kpos:Pos} {e o:Expr} {es:List Expr} {kws:List Keyword} {te ta:TE} {t tk:TA} {nm:Option Str}
variable {g:List Value→List Value→List Value} {gV:List V→List V→List V}
end
structure ap (N P:List Str) (sc:Scope):Prop where
 kind:sc.kind=.function
 co:sc.isCoroutine=false
 gen:sc.isGenerator=false
 nd:N.Nodup
 pre:N.take P.length=P
 par:∀ x∈P,sc.names.lookup x=some .local∨sc.names.lookup x=some .cell
 nofree:∀ y∈sc.names,y.2≠.free
theorem lx {kindOf:Str→Option NameKind} {x:Str}:∀ {binds:List (Str × Value)} {m:Str→Option Value},(∀ v,(x,v)∉binds)→bindL kindOf binds m x=m x
 | [],_,_=>rfl
 | (n,v)::r,m,h=>by
  unfold bindL
  rw [lx fun w hw=>h w (List.mem_cons_of_mem _ hw)]
  split
  · have:x≠n:=by rintro rfl; exact h v List.mem_cons_self
    simp [this]
  · rfl
theorem ly {kindOf:Str→Option NameKind} {x:Str}:∀ {binds:List (Str × Value)} {m:Str→Option Value},(∀ v,(x,v)∉binds)→bindC kindOf binds m x=m x
 | [],_,_=>rfl
 | (n,v)::r,m,h=>by
  unfold bindC
  rw [ly fun w hw=>h w (List.mem_cons_of_mem _ hw)]
  split
  · rfl
  · have:x≠n:=by rintro rfl; exact h v List.mem_cons_self
    simp [this]
theorem lz {kindOf:Str→Option NameKind} {x:Str} {v:Value}:∀ {P:List Str} {vs:List Value} {i:Nat} {m:Str→Option Value},P.Nodup→P[i]? =some x→vs[i]? =some v→kindOf x=some .local→
  bindL kindOf (P.zip vs) m x=some v
 | [],_,_,_,_,h,_,_=>by simp at h
 | _::_,[],_,_,_,_,h,_=>by simp at h
 | p::P,w::vs,0,m,nd,h1,h2,hk=>by
  simp at h1 h2; subst h1; subst h2
  show bindL kindOf ((p,w)::P.zip vs) m p=_
  unfold bindL
  rw [lx fun v hv=>(List.nodup_cons.mp nd).1 (List.of_mem_zip hv).1,if_pos hk]
  simp
 | p::P,w::vs,i+1,m,nd,h1,h2,hk=>by
  show bindL kindOf ((p,w)::P.zip vs) m x=_
  unfold bindL
  exact lz (i:=i) (List.nodup_cons.mp nd).2 (by simpa using h1) (by simpa using h2) hk
theorem lA {kindOf:Str→Option NameKind} {x:Str} {v:Value}:∀ {P:List Str} {vs:List Value} {i:Nat} {m:Str→Option Value},P.Nodup→P[i]? =some x→vs[i]? =some v→kindOf x≠some .local→
  bindC kindOf (P.zip vs) m x=some v
 | [],_,_,_,_,h,_,_=>by simp at h
 | _::_,[],_,_,_,_,h,_=>by simp at h
 | p::P,w::vs,0,m,nd,h1,h2,hk=>by
  simp at h1 h2; subst h1; subst h2
  show bindC kindOf ((p,w)::P.zip vs) m p=_
  unfold bindC
  rw [ly fun v hv=>(List.nodup_cons.mp nd).1 (List.of_mem_zip hv).1,if_neg hk]
  simp
 | p::P,w::vs,i+1,m,nd,h1,h2,hk=>by
  show bindC kindOf ((p,w)::P.zip vs) m x=_
  unfold bindC
  exact lA (i:=i) (List.nodup_cons.mp nd).2 (by simpa using h1) (by simpa using h2) hk
def start (N:List Str) (vs:List V):St:=vs.map some++List.replicate (N.length - vs.length) none
def cxOf (CX:CXT) (P:Program) (w:World) (K:PySem.W.Frag) (mg:Str→Option Value) (base:Heap) (N:List Str) (qual:Str) (scope:Scope) (f:Addr) (cd:Value) (A:Around) (outer:List Env) (s:Shared) (H:Hp) (E:XK):Cx where
 prog:=P
 w:=w
 K:=K
 mg:=mg
 base:=base
 A:=A.deeper (envOfC qual scope s.heap.objs.size f cd)
 N:=N
 s₀:=s
 H₀:=H
 env:=envOfC qual scope s.heap.objs.size f cd
 outer:=outer
 stack:=envOfC qual scope s.heap.objs.size f cd::outer
 ex:=[]
 calm:=true
 fn:=fun _=>true
 pn:=[]
 xe:=fun e s'=>wpAny (model P w) (A.deeper (envOfC qual scope s.heap.objs.size f cd)) (leaving (envOfC qual scope s.heap.objs.size f cd) e) (fun _ s''=>CX outer H s E e s'') (fun e' s''=>CX outer H s E e' s'') s'
theorem ii {sc:Scope} {n:Nat} {x:Str} (h:sc.names.lookup x=some .cell):∃ c,(cellsFrom n sc.names []).lookup x=some c:=by
 have q:=PySem.W.cellsFrom_some sc.names n [] (.inl h)
 exact Option.isSome_iff_exists.mp q
theorem oN {CX:CXT} {P:Program} {w:World} {K:PySem.W.Frag} {mg:Str→Option Value} {base:Heap} {N ps:List Str} {qual:Str} {scope:Scope} {f:Addr} {cd:Value} {A:Around} {outer:List Env} {s s1:Shared} {H:Hp} {E:XK} {us:List Value} {vs:List V}
  (S:ap N ps scope) (hd:A.handled=none) (e0:Env0 P w K mg base A outer s H) (hl:vs.length=ps.length) (r:Vals vs us)
  (x:InCallC s s.heap.objs.size (bindL (envOfC qual scope s.heap.objs.size f cd).kindOf (ps.zip us) fun _=>none) (cellsFrom (s.heap.objs.size+1) scope.names []) (bindC (envOfC qual scope s.heap.objs.size f cd).kindOf (ps.zip us) fun _=>none) s1):
  Inv (cxOf CX P w K mg base N qual scope f cd A outer s H E) [] (start N vs) H s1:=by
 have hpl:ps.length≤N.length:=by have:=congrArg List.length S.pre; rw [List.length_take] at this; omega
 obtain ⟨h1,tk,rfl,hk⟩:=x.done
 have noA:∀ b:Addr,b∉(cxOf CX P w K mg base N qual scope f cd A outer s H E).ex:=fun b z=>absurd (show b∈([]:List Addr) from z) (by simp)
 refine ⟨⟨e0.mod,S.kind,rfl,rfl,Nat.le_refl _,fun y z c h1 h2=>?_,fun y hy=>?_,fun y c _ h=>?_,fun _=>hd,Around.frames_deeper e0.frames,.inr ⟨rfl,rfl⟩,fun b z=>absurd z (noA b),e0.bs,e0.bsz,fun b _ _=>noA b,fun b z=>absurd z (noA b),e0.funs,e0.frf⟩,
  rfl,e0.bare,Un.kept hk,⟨_,x.toInCall.ns,fun i y v h1 h2 h3=>?_⟩,fun y c h=>⟨_,x.cell y c h⟩,e0.hok.fresh (Nat.le_refl _),fun y c h=>?_,fun p hp=>absurd (show p∈([]:List (Addr × Obj)) from hp) (by simp),e0.hok.kept hk,?_⟩
 · exact name_of_addr x.apart (PySem.mem_of_lookup h1) (PySem.mem_of_lookup h2)
 · have hy:scope.names.lookup y=some .cell∨scope.names.lookup y=some .free:=hy
   rcases hy with hy | hy
   · exact ii hy
   · exact absurd rfl (S.nofree _ (PySem.mem_of_lookup hy))
 · exact Nat.le_of_lt (x.above y c (PySem.mem_of_lookup h))
 · have hi:i < vs.length:=by
    unfold start at h2
    by_cases hi:i < vs.length
    · exact hi
    · rw [List.getElem?_append_right (by simpa using hi)] at h2
      rw [List.getElem?_replicate] at h2
      split at h2 <;> cases h2
   have ha:vs[i]? =some v:=by
    unfold start at h2
    rw [List.getElem?_append_left (by simpa using hi),List.getElem?_map] at h2
    cases e:vs[i]? with
    | none=>rw [e] at h2; cases h2
    | some a=>rw [e] at h2; cases h2; rfl
   obtain ⟨u,hu,rv⟩:=r.get ha
   have hp:ps[i]? =some y:=by
    rw [← S.pre,List.getElem?_take_of_lt (by omega)]; exact h1
   have ndP:ps.Nodup:=by rw [← S.pre]; exact S.nd.sublist (List.take_sublist _ _)
   refine ⟨u,rv,?_⟩
   rcases S.par y (List.mem_of_getElem? hp) with k | k
   · exact .inl ⟨k,lz ndP hp hu k⟩
   · obtain ⟨c,e⟩:=ii (n:=s.heap.objs.size+1) k
     refine .inr ⟨.inl k,c,e,?_⟩
     have q:=x.cell y c e
     rw [lA ndP hp hu (by show scope.names.lookup y≠_; rw [k]; decide)] at q
     exact q
 · exact e0.hok.fresh (Nat.le_of_lt (x.above y c (PySem.mem_of_lookup h)))
 · unfold start
   show _=N.length
   rw [List.length_append,List.length_map,List.length_replicate]
   omega
theorem sf {CX:CXT} {P:Program} {w:World} {K:PySem.W.Frag} {mg:Str→Option Value} {base:Heap} {k:Nat} {f:Addr} {name qual:Str} {params:Arguments} {body:List Stmt} {scope:Scope} {dV kV doc pm cdv ct oc:Value} {an od:Option Addr}
  {osl:Array (Option Value)} {N ps:List Str} {sp:Sp} (lk:K.lookup f=some ⟨oc,od,.func (PySem.W.fnOf name qual params body scope dV kV doc pm an cdv ct),osl⟩) (hcd:PySem.W.codeIn K cdv qual=true) (S:ap N ps scope)
  (len:∀ vs H Q E,sp vs H Q E→vs.length=ps.length)
  (hbody:∀ (A:Around) (outer:List Env) (s:Shared) (H:Hp) (vs:List V) (Q:VK) (E:XK),Room k (A.deeper (envOfC qual scope s.heap.objs.size f cdv))→sp vs H Q E→
   ∃ t,PSs (cxOf CX P w K mg base N qual scope f cdv A outer s H E) body t∧t { nx:=fun _ H'=>Q .non H',rt:=Q } (start N vs) H):
  FnOk P w K mg base CX (k+1) f (PySem.W.fnOf name qual params body scope dV kV doc pm an cdv ct) ps sp:=by
 refine ⟨len,fun A outer s H args us vs Q E hr e0 hb r hsp=>?_⟩
 have hl:=len _ _ _ _ hsp
 have KX:K.In s.heap:=e0.mod.kin.keeps fun b o e=>(e0.bs b o e).1
 have lim:s.heap.NoLimit:=e0.mod.nolimit.keeps fun b o e=>(e0.bs b o e).1
 have hkind:∀ y∈ps.zip us,scope.names.lookup y.1=some .local∨(scope.names.lookup y.1=some .cell∧((cellsFrom (s.heap.objs.size+1) scope.names []).lookup y.1).isSome=true):=fun ⟨n,v⟩ hy=>by
  rcases S.par n (List.of_mem_zip hy).1 with q | q
  · exact .inl q
  · exact .inr ⟨q,PySem.W.cellsFrom_some _ _ _ (.inl q)⟩
 refine codeAny_call_function hr.depth (KX _ _ lk) rfl S.co S.gen rfl (PySem.W.codeRec_of KX hcd) (hb _ _ _ _ ?_)
 refine wpAny_newFunctionEnv_cells S.kind hkind fun env he s1 x=>?_
 subst he
 refine ⟨lim.keeps x.toInCall.keep,codeAny_func ?_⟩
 obtain ⟨t,ht,hq⟩:=hbody A outer s H vs Q E (hr.deeper _) hsp
 have I:Inv (cxOf CX P w K mg base N qual scope f cdv A outer s H E) [] (start N vs) H s1:=oN S hr.hd e0 hl r x
 refine wpAny_mono (ht [] s1 (start N vs) H _ I hq) (fun fl s' hs=>?_) fun e s' hs=>hs
 have fin:∀ {σ':St} {H':Hp} {v:V} {u:Value},Inv (cxOf CX P w K mg base N qual scope f cdv A outer s H E) [] σ' H' s'→RelV v u→Q v H'→CE outer P w H s Q u s':=
  fun {σ' H' v u} J rv q=>⟨v,H',J.os,J.bare,J.base,J.hok,rv,q⟩
 cases fl with
 | ret u=>
  obtain ⟨v,σ',H',J,rv,q⟩:=hs
  exact fin J rv q
 | next=>
  obtain ⟨σ',H',J,q⟩:=hs
  exact fin (v:=V.non) (u:=Value.none) J rfl q
 | brk=>
  obtain ⟨_,_,_,q⟩:=hs
  exact False.elim q
 | cont=>
  obtain ⟨_,_,_,q⟩:=hs
  exact False.elim q
end L2
namespace L2
open PySem PySem.Spec PyProof.Rows
section
variable {X:Cx} {x:Str} {p pos:Pos} {e:Expr} {es:List Expr} {t:TA} {id T:String} {r:List V→Hp→VK→Prop}
def tCB (r:List V→Hp→VK→Prop) (t:TA):TE:=fun σ H Q=>t σ H fun vs H1=>r vs H1 Q
theorem aB (hc:CallR X (.builtin id) r) (hg:Gl X x) (hm:X.mg x=none) (hv:bootBuiltins x=some (.builtin id)) (ha:PA X (e::es) t) (hn:x≠"__name__":=by decide) (hdb:(x==("__debug__":Str))=false:=by decide)
  (he:starEach (e::es) X.env=(false,eval e X.env)::starEach es X.env:=by rfl) (hpl:(backTo pos (starEach es X.env)).any (·.1)=false:=by rfl):PE X (.Call (.Name x p) (e::es) [] pos) (tCB r t):=by
 intro pins s σ H Q I h
 refine wpAny_Call_Name_kw (fR I hg hm hv ?_ hn hdb)
 exact PyProof.Rows.callWith_builtin1 (thn (ha pos pins s σ H _ I h) fun us s1 ⟨vs,H1,I1,r1,q1⟩=>hc pins s1 σ H1 vs us Q I1 r1 q1) he hpl
theorem aS (hc:CallR X (.type T) r) (hg:Gl X x) (hm:X.mg x=none) (hv:bootBuiltins x=some (.type T)) (ha:PA X (e::es) t) (hn:x≠"__name__":=by decide) (hdb:(x==("__debug__":Str))=false:=by decide)
  (he:starEach (e::es) X.env=(false,eval e X.env)::starEach es X.env:=by rfl) (hpl:(backTo pos (starEach es X.env)).any (·.1)=false:=by rfl):PE X (.Call (.Name x p) (e::es) [] pos) (tCB r t):=by
 intro pins s σ H Q I h
 refine wpAny_Call_Name_kw (fR I hg hm hv ?_ hn hdb)
 exact PyProof.Rows.callWith_type1 (thn (ha pos pins s σ H _ I h) fun us s1 ⟨vs,H1,I1,r1,q1⟩=>hc pins s1 σ H1 vs us Q I1 r1 q1) he hpl
end
end L2
namespace HT
open PySem PyProof.Rows
section
open PySem.SeqAt
open PySem.AutoSeq1 (wpAny_loadPart')
open PySem.MeetsSeq PySem.MeetsSeq2 PySem.MeetsSeq3
end
section
variable {prog:Program} {w:World} {A:Around} {E:Value→Shared→Prop} {s:Shared}
def sIx (n d:Nat):Option Int→Nat
 | none=>d
 | some v=>if v < 0 then (v+(n:Int)).toNat else min v.toNat n
theorem sIx_nat (n d k:Nat):sIx n d (some (k:Int))=min k n:=by
 show (if (k:Int) < 0 then ((k:Int)+(n:Int)).toNat else min (k:Int).toNat n)=min k n
 rw [if_neg (by omega),Int.toNat_natCast]
end
end HT
namespace L2
open PySem PySem.Spec PyProof.Rows
abbrev TO:=St→Hp→(Option Int→Hp→Prop)→Prop
def PO (X:Cx) (e:Option Expr) (t:TO):Prop:=
 ∀ (pins:List (Addr × Obj)) (s:Shared) (σ:St) (H:Hp) (Q:Option Int→Hp→Prop),Inv X pins σ H s→t σ H Q→
  wpAny (model X.prog X.w) X.A (evalPart e X.env) (fun u s'=>∃ o H',Inv X pins σ H' s'∧IsPart u o∧Q o H') X.xe s
def gp:TO:=fun _ H Q=>Q none H
def tPart (t:TE):TO:=fun σ H Q=>t σ H fun x H1=>∃ i,x=.int i∧Q (some i) H1
theorem oh {ns:List Int}:∀ {us:List Value},Vals (ns.map V.int) us→IntsAre us ns:=by
 induction ns with
 | nil=>intro us r; rw [List.map_nil] at r; cases r; exact .nil
 | cons n ns ih=>
  intro us r
  rw [List.map_cons] at r
  cases r with
  | cons r1 r2=>
   obtain ⟨t,e⟩:=r1
   subst e
   exact .cons n t (ih r2)
section
variable {X:Cx} {e:Expr} {te:TE} {lo hi:Option Expr} {tl th:TO} {pos p2:Pos}
theorem kS:PO X none gp:=by
 intro pins s σ H Q I h
 rw [evalPart_none]
 exact wpAny_pure ⟨none,H,I,.none,h⟩
theorem eo (h:PE X e te):PO X (some e) (tPart te):=by
 intro pins s σ H Q I hw
 rw [evalPart_some]
 refine thn (h pins s σ H _ I hw) fun u s1 ⟨x,H1,I1,r1,q1⟩=>?_
 obtain ⟨i,rfl,q⟩:=q1
 obtain ⟨t,rfl⟩:=r1
 exact ⟨some i,H1,I1,.int i t,q⟩
def SlR (X:Cx) (r:V→Option Int→Option Int→Hp→VK→Prop):Prop:=
 ∀ (pins:List (Addr × Obj)) (s:Shared) (σ:St) (H:Hp) (x:V) (v vl vu:Value) (lo hi:Option Int) (sl:Addr) (Q:VK),Inv X pins σ H s→RelV x v→s.heap.IsSliceOf sl vl vu .none→IsPart vl lo→IsPart vu hi→r x lo hi H Q→
  ∃ T id,typeLookup (.type T) "__getitem__"=pure (some (.builtin id))∧s.TypeIs v T∧wpAny (model X.prog X.w) X.A (getItem v (.ref sl)) (EP X pins σ Q) X.xe s
def tSl (r:V→Option Int→Option Int→Hp→VK→Prop) (te:TE) (tl th:TO):TE:=fun σ H Q=>te σ H fun x H1=>tl σ H1 fun l H2=>th σ H2 fun u H3=>r x l u H3 Q
theorem gx {r:V→Option Int→Option Int→Hp→VK→Prop} (hr:SlR X r) (he:PE X e te) (hl:PO X lo tl) (hu:PO X hi th):PE X (.Subscript e (.Slice lo hi none p2) pos) (tSl r te tl th):=by
 intro pins s σ H Q I h
 refine Subscript_ (thn (he pins s σ H _ I h) fun v s1 ⟨x,H1,I1,r1,q1⟩=>?_)
 refine wpAny_Slice (thn (hl pins s1 σ H1 _ I1 q1) fun vl s2 ⟨l,H2,I2,pl,q2⟩=>thn (hu pins s2 σ H2 _ I2 q2) fun vu s3 ⟨u,H3,I3,pu,q3⟩=>?_)
 rw [evalPart_none]
 refine wpAny_pure ?_
 have I4:Inv X pins σ H3 { s3 with heap:=s3.heap.push { cls:=.type "slice",data:=.fields #[vl,vu,.none] } }:=I3.kept (t':=s3.toks) fun b ob q=>Heap.get?_push_of_some _ q
 obtain ⟨T,id,hT,ht,hg⟩:=hr pins { s3 with heap:=s3.heap.push { cls:=.type "slice",data:=.fields #[vl,vu,.none] } } σ H3 x v vl vu l u s3.heap.objs.size Q I4 r1 (Heap.IsSliceOf.new ..) pl pu q3
 show wpAny (model X.prog X.w) X.A (subscriptTail e (.Slice lo hi none p2) v (.ref s3.heap.objs.size)) (EP X pins σ Q) X.xe { s3 with heap:=s3.heap.push { cls:=.type "slice",data:=.fields #[vl,vu,.none] } }
 exact tail_any (ops:=[.ref s3.heap.objs.size,v]) ht hT hg (by with_unfolding_all rfl)
def cutV (xs:List V) (lo hi:Option Int):List V:=(xs.drop (HT.sIx xs.length 0 lo)).take (HT.sIx xs.length xs.length hi - HT.sIx xs.length 0 lo)
theorem ni (xs:List V) (lo hi:Option Int):(cutV xs lo hi).length≤xs.length:=by
 unfold cutV
 rw [List.length_take,List.length_drop]
 omega
end
end L2
namespace L2
open PySem PySem.Spec PyProof.Rows
def ixN (n:Nat) (i:Int):Option Nat:=if 0≤i then (if i < n then some i.toNat else none) else if -(n:Int)≤i then some (i+n).toNat else none
def atI {α:Type} (xs:List α) (i:Int):Option α:=(ixN xs.length i).bind fun j=>xs[j]?
theorem qu {n:Nat} {i:Int} {j:Nat} (h:ixN n i=some j):seqIndex? i n=some j∧j < n∧ -(n:Int)≤i∧i < n:=by
 unfold ixN at h
 by_cases h0:0≤i
 · rw [if_pos h0] at h
   by_cases h1:i < n
   · rw [if_pos h1] at h
     have e:i.toNat=j:=Option.some.inj h
     exact ⟨by rw [seqIndex_of h0 h1,e],by omega,by omega,h1⟩
   · rw [if_neg h1] at h; cases h
 · rw [if_neg h0] at h
   by_cases h1: -(n:Int)≤i
   · rw [if_pos h1] at h
     have e:(i+n).toNat=j:=Option.some.inj h
     exact ⟨by rw [seqIndex_neg (by omega) h1,e],by omega,h1,by omega⟩
   · rw [if_neg h1] at h; cases h
theorem kT {α:Type} {xs:List α} {i:Int} {v:α} (h:atI xs i=some v):∃ j,seqIndex? i xs.length=some j∧xs[j]? =some v∧j < xs.length∧ -(xs.length:Int)≤i∧i < xs.length:=by
 unfold atI at h
 cases e:ixN xs.length i with
 | none=>rw [e] at h; cases h
 | some j=>
  rw [e] at h
  obtain ⟨h1,h2,h3,h4⟩:=qu e
  exact ⟨j,h1,h,h2,h3,h4⟩
theorem g7 {α:Type} {xs:List α} {j:Nat} {v:α} (h:xs[j]? =some v):atI xs (j:Int)=some v:=by
 have hj:j < xs.length:=(List.getElem?_eq_some_iff.mp h).1
 have e:ixN xs.length (j:Int)=some j:=by
  unfold ixN
  rw [if_pos (by omega),if_pos (by omega)]; simp
 unfold atI; rw [e]; exact h
def qv (b:Expr):Prop:=∀ o i,subscripted b false o i=operate [o,i] (getItem o i)
def IxR (X:Cx) (r:R2):Prop:=
 ∀ (value slice:Expr) (pins:List (Addr × Obj)) (s:Shared) (σ:St) (H:Hp) (x y:V) (v u:Value) (Q:VK),Inv X pins σ H s→RelV x v→RelV y u→r x y H Q→
  subscripted slice false v u=operate [v,u] (getItem v u)→wpAny (model X.prog X.w) X.A (subscriptTail value slice v u) (EP X pins σ Q) X.xe s
def MtR (X:Cx) (id:String) (r:V→List V→Hp→VK→Prop):Prop:=
 ∀ (pins:List (Addr × Obj)) (s:Shared) (σ:St) (H:Hp) (x:V) (xs:List V) (v:Value) (us:List Value) (Q:VK),Inv X pins σ H s→RelV x v→Vals xs us→r x xs H Q→
  wpAny (model X.prog X.w) X.A (call (.builtin id) (v::us)) (EP X pins σ Q) X.xe s
section
variable {X:Cx} {a b:Expr} {ta tb:TE} {pos:Pos}
theorem aD {r:R2} (hr:IxR X r) (ha:PE X a ta) (hb:PE X b tb) (hs:qv b):PE X (.Subscript a b pos) (tOp r ta tb):=by
 intro pins s σ H Q I h
 exact Subscript_ (binT ha hb I h fun v u s2 x y H2 I2 rx ry q=>hr a b pins s2 σ H2 x y v u Q I2 rx ry q (hs _ _))
def rIxL (K:PySem.W.Frag):R2:=fun x y H Q=>∃ p xs i v,x=.ref p∧y=.int i∧SqL K H p xs∧atI xs i=some v∧Q v H
def rIxT (K:PySem.W.Frag):R2:=fun x y H Q=>∃ p xs i v,x=.ref p∧y=.int i∧SqT K H p xs∧atI xs i=some v∧Q v H
def rIxS:R2:=fun x y H Q=>∃ z i c,x=.str z∧y=.int i∧z.length≤sizeLine∧atI z.cps.toList i=some c∧Q (.str ⟨#[c]⟩) H
theorem nL:IxR X (rIxL X.K):=by
 intro value slice pins s σ H x y v u Q I rx ry h hs
 obtain ⟨p,xs,i,z,rfl,rfl,hq,he,q⟩:=h
 cases rx
 obtain ⟨t,rfl⟩:=ry
 obtain ⟨its,r,pl,hz⟩:=I.list hq
 obtain ⟨j,h1,h2,h3,h4,h5⟩:=kT he
 obtain ⟨w,ew,rw'⟩:=r.get h2
 have hl:=r.length
 have hn:=iF
 have fin:EP X pins σ Q w s:=⟨z,H,I,rw',q⟩
 by_cases h0:0≤i
 · have hj:i.toNat=j:=by
    rw [seqIndex_of h0 h5] at h1
    exact Option.some.inj h1
   exact item_listR pl.isList h0 (by omega) (by rw [hj]; simpa using ew) fin hs
 · have hj:(i+(its.toArray.size:Int)).toNat=j:=by
    rw [seqIndex_neg (by omega) h4] at h1
    rw [List.size_toArray,← hl]
    exact Option.some.inj h1
   exact subscriptTail_builtinR (x:=w) pl.isList.typeIs slot_list_getitem.lookup
    (wpAny_getItem_list_neg (Q:=fun r s'=>r=w∧EP X pins σ Q r s') pl.isList (by omega) (by rw [List.size_toArray] <;> omega) (by omega) (by rw [hj]; simpa using ew) ⟨rfl,fin⟩) hs
theorem ri:IxR X (rIxT X.K):=by
 intro value slice pins s σ H x y v u Q I rx ry h hs
 obtain ⟨p,xs,i,z,rfl,rfl,hq,he,q⟩:=h
 cases rx
 obtain ⟨t,rfl⟩:=ry
 obtain ⟨its,r,pl,hz⟩:=I.tuple hq
 obtain ⟨j,h1,h2,h3,h4,h5⟩:=kT he
 obtain ⟨w,ew,rw'⟩:=r.get h2
 have hl:=r.length
 have hn:=iF
 have fin:EP X pins σ Q w s:=⟨z,H,I,rw',q⟩
 exact subscriptTail_builtinR (x:=w) pl.typeIs slot_tuple_getitem.lookup
  (getItem_tuple (j:=j) (Q:=fun r s'=>r=w∧EP X pins σ Q r s') pl (by omega) (by omega) (by rw [List.size_toArray,← hl]; exact h1) (by simpa using ew) ⟨rfl,fin⟩) hs
theorem rj:IxR X rIxS:=by
 intro value slice pins s σ H x y v u Q I rx ry h hs
 obtain ⟨z,i,c,rfl,rfl,hz,he,q⟩:=h
 obtain ⟨t,rfl⟩:=rx
 obtain ⟨t',rfl⟩:=ry
 obtain ⟨j,h1,h2,h3,h4,h5⟩:=kT he
 have hl:z.cps.toList.length=z.length:=by simp [Str.length]
 rw [hl] at h1 h4 h5
 have hn:=iF
 exact tail_any (typeIs_str s z t) slot_str_getitem.lookup (getItem_str (c:=c) (by
  have e1:decide (i < -(2^63:Int))=false:=decide_eq_false (by omega)
  have e2:decide (i ≥ 2^63)=false:=decide_eq_false (by omega)
  rw [e1,e2,Bool.or_false]) (by rw [h1]; simpa using h2) ⟨.str ⟨#[c]⟩,H,I.tok _,⟨_,rfl⟩,q⟩) hs
theorem Inv.lst {pins:List (Addr × Obj)} {σ:St} {H:Hp} {s:Shared} {p:Addr} {xs:List V} (I:Inv X pins σ H s) (h:H p=some (.lst xs)):
  ∃ (its:List Value) (n:Nat),Vals xs its∧s.heap.get? p=some { cls:=.type "list",data:=.seq its.toArray n }∧xs.length≤sizeLine:=by
 obtain ⟨z,its,n,r,e⟩:=I.hok p _ h
 exact ⟨its,n,r,e,z⟩
theorem mn (lo hi:Option Int) (n:Nat):(sliceBounds lo hi none n).1=((HT.sIx n 0 lo:Nat):Int)∧(sliceBounds lo hi none n).2.1=((HT.sIx n n hi:Nat):Int)∧(sliceBounds lo hi none n).2.2=1:=by
 refine ⟨?_,?_,rfl⟩
 · cases lo with
   | none=>simp [sliceBounds,HT.sIx]
   | some i=>
    simp only [sliceBounds,HT.sIx,Option.getD_none,show (1:Int) > 0 by decide,if_true]
    by_cases h:i < 0
    · simp only [h,if_true] <;> omega
    · simp only [h,if_false] <;> omega
 · cases hi with
   | none=>simp [sliceBounds,HT.sIx]
   | some i=>
    simp only [sliceBounds,HT.sIx,Option.getD_none,show (1:Int) > 0 by decide,if_true]
    by_cases h:i < 0
    · simp only [h,if_true] <;> omega
    · simp only [h,if_false] <;> omega
theorem lQ (its:List Value) (lo hi:Option Int):slicePick its.toArray lo hi none=((its.drop (HT.sIx its.length 0 lo)).take (HT.sIx its.length its.length hi - HT.sIx its.length 0 lo)).toArray:=by
 obtain ⟨h1,h2,h3⟩:=mn lo hi its.toArray.size
 unfold slicePick
 rw [h1,h2,h3]
 simp only [sliceRange_one,pick_run,List.size_toArray] <;> rfl
def rSlL (K:PySem.W.Frag):V→Option Int→Option Int→Hp→VK→Prop:=fun x lo hi H Q=>∃ a xs,x=.ref a∧SqL K H a xs∧∀ p,H p=none→Q (.ref p) (upd H p (.lst (cutV xs lo hi)))
theorem qw:SlR X (rSlL X.K):=by
 intro pins s σ H x v vl vu lo hi sl Q I rx hs pl pu h
 obtain ⟨a,xs,rfl,hx,q⟩:=h
 cases rx
 obtain ⟨its,r,ht,hz⟩:=I.list hx
 have hlen:=r.length
 refine ⟨"list",_,slot_list_getitem.lookup,ht.isList.typeIs,?_⟩
 refine wpAny_getItem_list_slice ht.isList hs pl pu .none (by simp) ?_ (by rw [List.size_toArray] <;> omega)
 rw [lQ,← hlen]
 refine ⟨.ref s.heap.objs.size,_,I.laid (t':=s.toks) (o:=.lst (cutV xs lo hi)) (fun b ob q=>Heap.get?_push_of_some _ q) (Nat.le_refl _) ?_,rfl,q _ (I.hok.fresh (Nat.le_refl _))⟩
 exact ⟨Nat.le_trans (ni xs lo hi) hz,_,0,(r.drop (HT.sIx xs.length 0 lo)).take (HT.sIx xs.length xs.length hi - HT.sIx xs.length 0 lo),Heap.get?_push_size _ rfl⟩
def flatV:V→Bool
 | .non=>true
 | .bl _=>true
 | .int _=>true
 | .str _=>true
 | _=>false
def eqV:V→V→Bool
 | .non,.non=>true
 | .bl a,.bl b=>a==b
 | .bl a,.int b=>(if a then 1 else 0)==b
 | .int a,.bl b=>a==(if b then 1 else 0)
 | .int a,.int b=>a==b
 | .str a,.str b=>a==b
 | _,_=>false
theorem rk {A:Around} {s:Shared} {y x:V} {u v:Value} (ry:RelV y u) (rx:RelV x v) (fy:flatV y=true) (fx:flatV x=true):SeqAt.EqAt A s u v (eqV y x):=by
 cases y with
 | non=>
  cases ry
  cases x with
  | non=>cases rx; exact SeqAt.EqAt.same _
  | bl b=>cases rx; exact SeqAt.EqAt.none_bool b
  | int b=>obtain ⟨t,rfl⟩:=rx; exact SeqAt.EqAt.none_int b t
  | str b=>obtain ⟨t,rfl⟩:=rx; exact SeqAt.EqAt.none_str b t
  | _=>exact absurd (show false=true from fx) Bool.false_ne_true
 | bl a=>
  cases ry
  cases x with
  | non=>cases rx; exact SeqAt.EqAt.bool_none a
  | bl b=>cases rx; exact SeqAt.EqAt.bool_bool a b
  | int b=>obtain ⟨t,rfl⟩:=rx; exact SeqAt.EqAt.bool_int a b t
  | str b=>obtain ⟨t,rfl⟩:=rx; exact SeqAt.EqAt.bool_str a b t
  | _=>exact absurd (show false=true from fx) Bool.false_ne_true
 | int a=>
  obtain ⟨t',rfl⟩:=ry
  cases x with
  | non=>cases rx; exact SeqAt.EqAt.int_none a t'
  | bl b=>cases rx; exact SeqAt.EqAt.int_bool a t' b
  | int b=>obtain ⟨t,rfl⟩:=rx; exact SeqAt.EqAt.int_int a t' b t
  | str b=>obtain ⟨t,rfl⟩:=rx; exact SeqAt.EqAt.int_str a t' b t
  | _=>exact absurd (show false=true from fx) Bool.false_ne_true
 | str a=>
  obtain ⟨t',rfl⟩:=ry
  cases x with
  | non=>cases rx; exact SeqAt.EqAt.str_none a t'
  | bl b=>cases rx; exact SeqAt.EqAt.str_bool a t' b
  | int b=>obtain ⟨t,rfl⟩:=rx; exact SeqAt.EqAt.str_int a t' b t
  | str b=>obtain ⟨t,rfl⟩:=rx; exact SeqAt.EqAt.str_str a t' b t
  | _=>exact absurd (show false=true from fx) Bool.false_ne_true
 | _=>exact absurd (show false=true from fy) Bool.false_ne_true
def eqU (x:V) (u:Value):Bool:=match u with
 | .none=>eqV .non x
 | .bool b=>eqV (.bl b) x
 | .int i _=>eqV (.int i) x
 | .str z _=>eqV (.str z) x
 | _=>false
theorem oO {x y:V} {u:Value} (r:RelV y u) (f:flatV y=true):eqU x u=eqV y x:=by
 cases y with
 | non=>cases r; rfl
 | bl b=>cases r; rfl
 | int i=>obtain ⟨t,rfl⟩:=r; rfl
 | str z=>obtain ⟨t,rfl⟩:=r; rfl
 | _=>exact absurd (show false=true from f) Bool.false_ne_true
theorem g8 {x:V}:∀ {xs:List V} {us:List Value},Vals xs us→xs.all flatV=true→us.any (eqU x)=xs.any fun y=>eqV y x
 | _,_,.nil,_=>rfl
 | y::xs,u::us,.cons r t,f=>by
  rw [List.all_cons,Bool.and_eq_true] at f
  rw [List.any_cons,List.any_cons,oO r f.1,g8 t f.2]
theorem gy {A:Around} {s:Shared} {x:V} {v:Value} (rx:RelV x v) (fx:flatV x=true):∀ {xs:List V} {us:List Value},Vals xs us→xs.all flatV=true→∀ u∈us,SeqAt.EqAt A s u v (eqU x u)
 | _,_,.nil,_=>fun u hu=>by cases hu
 | y::xs,u::us,.cons r t,f=>fun u' hu=>by
  rw [List.all_cons,Bool.and_eq_true] at f
  rcases List.mem_cons.mp hu with rfl | hu
  · rw [oO r f.1]; exact rk r rx f.1 fx
  · exact gy rx fx t f.2 u' hu
def inV (x:V) (xs:List V):Bool:=xs.any fun y=>eqV y x
def rIn (K:PySem.W.Frag) (neg:Bool):R2:=fun x y H Q=>∃ p xs,y=.ref p∧(SqL K H p xs∨SqT K H p xs)∧flatV x=true∧xs.all flatV=true∧Q (.bl (if neg then !inV x xs else inV x xs)) H
theorem lB:OpR X (compareOp .In) (rIn X.K false):=by
 intro pins s σ H x y v u Q I rx ry h
 obtain ⟨p,xs,rfl,hq,fx,fs,q⟩:=h
 cases ry
 rcases hq with hq | hq
 · obtain ⟨its,r,pl,hz⟩:=I.list hq
   refine SeqAt.in_listAt (eqU x) pl.isList (fun w hw=>gy rx fx r fs w (by simpa using hw)) ⟨.bl _,H,I,rfl,?_⟩
   rw [show its.toArray.any (eqU x)=its.any (eqU x) by simp,g8 r fs]
   exact q
 · obtain ⟨its,r,pl,hz⟩:=I.tuple hq
   refine SeqAt.in_tupleAt (eqU x) pl (fun w hw=>gy rx fx r fs w (by simpa using hw)) ⟨.bl _,H,I,rfl,?_⟩
   rw [show its.toArray.any (eqU x)=its.any (eqU x) by simp,g8 r fs]
   exact q
theorem mo:OpR X (compareOp .NotIn) (rIn X.K true):=by
 intro pins s σ H x y v u Q I rx ry h
 obtain ⟨p,xs,rfl,hq,fx,fs,q⟩:=h
 cases ry
 rcases hq with hq | hq
 · obtain ⟨its,r,pl,hz⟩:=I.list hq
   refine SeqAt.notIn_listAt (eqU x) pl.isList (fun w hw=>gy rx fx r fs w (by simpa using hw)) ⟨.bl _,H,I,rfl,?_⟩
   rw [show its.toArray.any (eqU x)=its.any (eqU x) by simp,g8 r fs]
   exact q
 · obtain ⟨its,r,pl,hz⟩:=I.tuple hq
   refine SeqAt.notIn_tupleAt (eqU x) pl (fun w hw=>gy rx fx r fs w (by simpa using hw)) ⟨.bl _,H,I,rfl,?_⟩
   rw [show its.toArray.any (eqU x)=its.any (eqU x) by simp,g8 r fs]
   exact q
theorem d4:CallR X (.builtin "len") (fun xs H Q=>∃ p ys,xs=[.ref p]∧(SqL X.K H p ys∨SqT X.K H p ys)∧Q (.int ys.length) H):=by
 intro pins s σ H xs us Q I r h
 obtain ⟨p,ys,rfl,hq,q⟩:=h
 obtain ⟨u,rfl,rx⟩:=cB r
 cases rx
 have hn:=iF
 rcases hq with hq | hq
 · obtain ⟨its,r',pl,hz⟩:=I.list hq
   have hlen:=r'.length
   exact Calls.call_len_list pl.isList (by simp only [List.size_toArray] <;> omega) ⟨.int ys.length,H,I.tok _,⟨s.toks+1,by rw [List.size_toArray,hlen]⟩,q⟩
 · obtain ⟨its,r',pl,hz⟩:=I.tuple hq
   have hlen:=r'.length
   exact len_tuple pl (by simp only [List.size_toArray] <;> omega) ⟨.int ys.length,H,I.tok _,⟨s.toks+1,by rw [List.size_toArray,hlen]⟩,q⟩
theorem mq:CallR X (.builtin "len") (fun xs H Q=>∃ z,xs=[.str z]∧z.length≤sizeLine∧Q (.int z.length) H):=by
 intro pins s σ H xs us Q I r h
 obtain ⟨z,rfl,hz,q⟩:=h
 obtain ⟨u,rfl,t,rfl⟩:=cB r
 have hn:=iF
 exact len_str (by omega) ⟨.int z.length,H,I.tok _,⟨_,rfl⟩,q⟩
theorem mr:CallR X (.type "list") (fun xs H Q=>∃ p ys,xs=[.ref p]∧(SqL X.K H p ys∨SqT X.K H p ys)∧∀ l,H l=none→Q (.ref l) (upd H l (.lst ys))):=by
 intro pins s σ H xs us Q I r h
 obtain ⟨p,ys,rfl,hq,q⟩:=h
 obtain ⟨u,rfl,rx⟩:=cB r
 cases rx
 have fin:∀ (its:List Value),Vals ys its→ys.length≤sizeLine→∀ (h':Heap) (c':Nat),(∀ b o',s.heap.get? b=some o'→h'.get? b=some o')→
   h'.get? s.heap.objs.size=some { cls:=.type "list",dict:=none,data:=.seq its.toArray c',slots:=#[] }→EP X pins σ Q (.ref s.heap.objs.size) { s with heap:=h' }:=fun its r' hz h' c' kp e=>
  ⟨.ref s.heap.objs.size,_,I.laid (t':=s.toks) kp (Nat.le_refl _) (show ObjOk X.prog X.w _ h' _ (.lst ys) from ⟨hz,its,c',r',e⟩),rfl,q _ (I.hok.fresh (Nat.le_refl _))⟩
 rcases hq with hq | hq
 · obtain ⟨its,r',pl,hz⟩:=I.list hq
   have hlen:=r'.length
   obtain ⟨o,ho,hc,n,hd⟩:=pl.isList
   exact call_list_seq p (.inl rfl) ho hc hd (fun h' c' kp e=>fin its r' hz h' c' kp e) (by simp only [List.size_toArray] <;> omega)
 · obtain ⟨its,r',pl,hz⟩:=I.tuple hq
   have hlen:=r'.length
   obtain ⟨o,ho,hc,n,hd⟩:=pl
   exact call_list_seq p (.inr rfl) ho hc hd (fun h' c' kp e=>fin its r' hz h' c' kp e) (by simp only [List.size_toArray] <;> omega)
theorem lR:CallR X (.type "tuple") (fun xs H Q=>∃ p ys,xs=[.ref p]∧((SqL X.K H p ys∧∀ l,H l=none→Q (.ref l) (upd H l (.tup ys)))∨(SqT X.K H p ys∧Q (.ref p) H))):=by
 intro pins s σ H xs us Q I r h
 obtain ⟨p,ys,rfl,h⟩:=h
 obtain ⟨u,rfl,rx⟩:=cB r
 cases rx
 rcases h with ⟨hq,q⟩ | ⟨hq,q⟩
 · obtain ⟨its,r',pl,hz⟩:=I.list hq
   have hlen:=r'.length
   refine call_tuple_list pl.isList (fun h' kp=>?_) (by simp only [List.size_toArray] <;> omega)
   have I1:Inv X pins σ H { s with heap:=h' }:=I.kept (t':=s.toks) kp
   have I2:Inv X pins σ (upd H h'.objs.size (.tup ys)) { s with heap:=h'.push { cls:=.type "tuple",data:=.seq its.toArray } }:=
    I1.laid (t':=s.toks) (fun b o e=>Heap.get?_push_of_some _ e) (Nat.le_refl _) (show ObjOk X.prog X.w _ _ _ (.tup ys) from ⟨hz,its,r',IsTup.new _ _⟩)
   exact ⟨.ref h'.objs.size,_,I2,rfl,q _ (I1.hok.fresh (Nat.le_refl _))⟩
 · obtain ⟨its,r',pl,hz⟩:=I.tuple hq
   exact call_tuple_same pl ⟨.ref p,H,I,rfl,q⟩
def tyV (K:PySem.W.Frag) (T:String) (x:V) (H:Hp):Prop:=match x with
 | .str _=>T="str"
 | .int _=>T="int"
 | .ref p=>(T="list"∧∃ xs,SqL K H p xs)∨(T="tuple"∧∃ o,K.lookup p=some o∧o.cls=.type "tuple"∧o.dict=none)∨
   (T="dict"∧((∃ kvs,H p=some (.dK kvs))∨∃ kvs,H p=some (.dT kvs)))∨(T="set"∧∃ S n,H p=some (.set S n))
 | _=>False
theorem oP {pins:List (Addr × Obj)} {σ:St} {H:Hp} {s:Shared} {T:String} {x:V} {v:Value} (I:Inv X pins σ H s) (r:RelV x v) (ty:tyV X.K T x H):
  s.TypeIs v T∧∀ a,v=.ref a→∃ ob,s.heap.get? a=some ob∧ob.dict=none:=by
 cases x with
 | str z=>
  obtain ⟨t,rfl⟩:=r
  cases (show T="str" from ty)
  exact ⟨typeIs_str s z t,fun _ e=>nomatch e⟩
 | int i=>
  obtain ⟨t,rfl⟩:=r
  cases (show T="int" from ty)
  exact ⟨typeIs_int s i t,fun _ e=>nomatch e⟩
 | ref p=>
  cases r
  rcases ty with ⟨rfl,xs,hq⟩ | ⟨rfl,o,hk,hc,hd⟩ | ⟨rfl,hk⟩ | ⟨rfl,S,n,hk⟩
  · obtain ⟨its,_,pl,_⟩:=I.list hq
    refine ⟨pl.isList.typeIs,fun a e=>?_⟩
    cases e
    obtain ⟨o,n,e,c,hd,_⟩:=pl
    exact ⟨o,e,hd⟩
  · refine ⟨⟨o,I.kIn p o hk,hc⟩,fun a e=>?_⟩
    cases e
    exact ⟨o,I.kIn _ o hk,hd⟩
  · have z:∃ o,s.heap.get? p=some o∧o.ExactDict:=by
     rcases hk with ⟨kvs,hk⟩ | ⟨kvs,hk⟩
     · obtain ⟨_,_,_,_,o,_,_,e,ex,_⟩:=I.hok p _ hk
       exact ⟨o,e,ex⟩
     · obtain ⟨_,_,_,_,o,_,_,e,ex,_⟩:=I.hok p _ hk
       exact ⟨o,e,ex⟩
    obtain ⟨o,e,ex⟩:=z
    refine ⟨⟨o,e,ex.1⟩,fun a e2=>?_⟩
    cases e2
    exact ⟨o,e,ex.2.1⟩
  · obtain ⟨o,_,_,_,e,ex,_⟩:=I.hok p _ hk
    refine ⟨⟨o,e,ex.1⟩,fun a e2=>?_⟩
    cases e2
    exact ⟨o,e,ex.2.1⟩
 | _=>exact False.elim ty
def pN (K:PySem.W.Frag) (T:String) (r:V→List V→Hp→VK→Prop) (to:TE):TE:=fun σ H Q=>to σ H fun x H1=>tyV K T x H1∧r x [] H1 Q
def tBM (K:PySem.W.Frag) (T:String) (r:V→List V→Hp→VK→Prop) (to:TE) (t:TA):TE:=fun σ H Q=>to σ H fun x H1=>tyV K T x H1∧t σ H1 fun xs H2=>r x xs H2 Q
variable {o e:Expr} {es:List Expr} {to:TE} {t:TA} {name:Str} {apos cpos:Pos} {T id:String} {r:V→List V→Hp→VK→Prop}
theorem rm (pa:PlainAttrs T) (slot:Slot T name id) (hty:typeOf (.builtin id)=pure (.type "method_descriptor")) (hm:MtR X id r) (ho:PE X o to)
  (hbase:attributeBase o name X.env (eval o X.env)=eval o X.env:=by rfl) (hline:(apos.endLine==cpos.line)=true:=by rfl):PE X (.Call (.Attribute o name apos) [] [] cpos) (pN X.K T r to):=by
 intro pins s σ H Q I h
 refine wpAny_Call_method0_late hbase hline (thn (ho pins s σ H _ I h) fun v s1 ⟨x,H1,I1,r1,ty,q1⟩=>?_)
 obtain ⟨h1,h2⟩:=oP I1 r1 ty
 exact ⟨T,id,pa,slot,hty,h1,h2,Calls.callWith_builtin rfl (PySem.evalArgs_none (hm pins s1 σ H1 x [] v [] Q I1 r1 .nil q1))⟩
theorem bp (pa:PlainAttrs T) (slot:Slot T name id) (hty:typeOf (.builtin id)=pure (.type "method_descriptor")) (hm:MtR X id r) (ho:PE X o to) (ha:PA X (e::es) t)
  (hbase:attributeBase o name X.env (eval o X.env)=eval o X.env:=by rfl)
  (hfew:((backTo cpos (starEach (e::es) X.env)).all (fun x=>!x.1)&&(backToKw cpos (keywordEach [] X.env)).all (fun x=>x.1.isSome)
   &&decide ((e::es).length+([]:List Keyword).length+(if ([]:List Keyword).isEmpty then 0 else 1) < 30))=true:=by rfl)
  (hline:(apos.endLine==cpos.line)=true:=by rfl) (hs:starEach (e::es) X.env=(false,eval e X.env)::starEach es X.env:=by rfl) (hplain:(backTo cpos (starEach es X.env)).any (·.1)=false:=by rfl):
  PE X (.Call (.Attribute o name apos) (e::es) [] cpos) (tBM X.K T r to t):=by
 intro pins s σ H Q I h
 refine wpAny_Call_method_late hbase hfew hline rfl (thn (ho pins s σ H _ I h) fun v s1 ⟨x,H1,I1,r1,ty,q1⟩=>?_)
 obtain ⟨h1,h2⟩:=oP I1 r1 ty
 refine ⟨T,id,pa,slot,hty,h1,h2,?_⟩
 have hA:=ha cpos pins s1 σ H1 _ I1 q1
 rw [hs] at hA ⊢
 refine Calls.callWith_builtin (by show (false||(backTo cpos (starEach es X.env)).any (·.1))=false; rw [hplain] <;> rfl) (Calls.evalArgs_plain ?_)
 exact thn hA fun us s2 ⟨vs,H2,I2,r2,q2⟩=>hm pins s2 σ H2 x vs v us Q I2 r1 r2 q2
end
end L2
namespace L2
open PySem PySem.Spec PyProof.Rows
def MtM (X:Cx) (id:String) (r:V→List V→Hp→VK→Prop):Prop:=
 ∀ (pins:List (Addr × Obj)) (s:Shared) (σ:St) (H:Hp) (x:V) (xs:List V) (v:Value) (us:List Value) (Q:VK),Inv X pins σ H s→RelV x v→Vals xs us→r x xs H Q→
  wpAny (model X.prog X.w) X.A (call (.builtin id) (v::us)) (EP X pins σ Q) X.xe s
theorem Vals.one:∀ {x:V} {us:List Value},Vals [x] us→∃ u,us=[u]∧RelV x u
 | _,_,.cons r .nil=>⟨_,rfl,r⟩
theorem Vals.zero:∀ {us:List Value},Vals [] us→us=[]
 | _,.nil=>rfl
theorem Vals.eraseIdx:∀ {xs:List V} {us:List Value} (i:Nat),Vals xs us→Vals (xs.eraseIdx i) (us.eraseIdx i)
 | _,_,_,.nil=>.nil
 | _,_,0,.cons _ t=>t
 | _,_,i+1,.cons r t=>.cons r (Vals.eraseIdx i t)
theorem Vals.rep {xs:List V} {us:List Value} (h:Vals xs us):∀ k:Nat,Vals (List.replicate k xs).flatten (List.replicate k us).flatten
 | 0=>.nil
 | k+1=>by
  rw [List.replicate_succ,List.replicate_succ,List.flatten_cons,List.flatten_cons]
  exact Vals.append h (Vals.rep h k)
theorem lC {α:Type}:∀ (l:List α) (i:Nat),(l.eraseIdx i).length≤l.length
 | [],_=>Nat.le_refl _
 | _::_,0=>Nat.le_succ _
 | _::r,i+1=>Nat.succ_le_succ (lC r i)
theorem lD (its:List Value):∀ (k:Nat) (acc:List Value),
  List.foldl (fun x1 x2=>x1++x2) acc.toArray (List.replicate k its.toArray)=(acc++(List.replicate k its).flatten).toArray
 | 0,acc=>by simp
 | k+1,acc=>by
  have e:acc.toArray++its.toArray=(acc++its).toArray:=by simp
  have e2:(acc++its)++(List.replicate k its).flatten=acc++(List.replicate (k+1) its).flatten:=by
   rw [List.replicate_succ,List.flatten_cons,List.append_assoc]
  rw [← e2,← lD its k (acc++its),← e,List.replicate_succ,List.foldl_cons]
section
variable {X:Cx} {pins:List (Addr × Obj)} {σ:St} {H:Hp} {s:Shared} {l b:Addr} {xs ys zs:List V}
theorem Inv.lset {its its':List Value} {n:Nat} {f:Array Value→Array Value} {t':Nat} (I:Inv X pins σ H s) (hH:H l=some (.lst xs))
  (e:s.heap.get? l=some { cls:=.type "list",data:=.seq its.toArray n }) (hf:f its.toArray=its'.toArray) (hv:Vals ys its') (hz:ys.length≤sizeLine):
  Inv X pins σ (upd H l (.lst ys)) { s with heap:=s.heap.update l (Obj.mapSeq f),toks:=t' }:=by
 have q:=PySem.IsL.update e f
 rw [hf] at q
 refine I.write (x:=l) (e:=l) (by rw [hH]; exact trivial) (.inl rfl) (fun b' u hb hu=>(Heap.get?_update_other s.heap (Obj.mapSeq f) (Ne.symm hb)).trans hu) ⟨_,q⟩ ?_
 exact ⟨hz,its',_,hv,q⟩
theorem Inv.lnew {its:List Value} {t':Nat} (I:Inv X pins σ H s) (hv:Vals ys its) (hz:ys.length≤sizeLine):
  Inv X pins σ (upd H s.heap.objs.size (.lst ys)) { s with heap:=s.heap.push { cls:=.type "list",data:=.seq its.toArray },toks:=t' }:=
 I.laid (fun _ _ q=>Heap.get?_push_of_some _ q) (Nat.le_refl _) ⟨hz,its,0,hv,Heap.get?_push_size _ rfl⟩
theorem Inv.fresh (I:Inv X pins σ H s):H s.heap.objs.size=none:=I.hok.fresh (Nat.le_refl _)
theorem Inv.lstM (I:Inv X pins σ H s) (hH:H l=some (.lst xs)):xs.length≤sizeLine∧∃ (its:List Value) (n:Nat),Vals xs its∧xs.length=its.length∧s.heap.get? l=some { cls:=.type "list",data:=.seq its.toArray n }:=by
 obtain ⟨z,its,n,r,e⟩:=I.hok l _ hH
 exact ⟨z,its,n,r,r.length,e⟩
theorem mt {n:Nat} (h:n≤sizeLine):Builtin.List.listTooLong n=false:=by
 unfold Builtin.List.listTooLong
 exact decide_eq_false (by omega)
end
section
variable {X:Cx}
def qx:V→List V→Hp→VK→Prop:=fun x vs H Q=>∃ l xs y,x=.ref l∧vs=[y]∧H l=some (.lst xs)∧xs.length < sizeLine∧Q .non (upd H l (.lst (xs++[y])))
theorem lE:MtM X "list.append" qx:=by
 intro pins s σ H x vs v us Q I rx rv h
 obtain ⟨l,xs,y,rfl,rfl,hH,hz,q⟩:=h
 cases rx
 obtain ⟨u,rfl,ru⟩:=rv.one
 obtain ⟨z,its,n,r,hl,e⟩:=I.lstM hH
 refine call_meets F.slot_list_append ⟨_,e,rfl⟩ F.entry_list_append (F.args_list_append_2 _ _) (PySem.list_append l its.toArray n u (by rw [List.size_toArray]; omega)) ⟨e,?_⟩
 refine ⟨.non,_,I.lset (its':=its++[u]) hH e (by simp) (r.append (.cons ru .nil)) ?_,rfl,q⟩
 rw [List.length_append,List.length_singleton]
 omega
def qy:V→List V→Hp→VK→Prop:=fun x vs H Q=>∃ l b xs zs,x=.ref l∧vs=[.ref b]∧H l=some (.lst xs)∧H b=some (.lst zs)∧xs.length+zs.length≤sizeLine∧Q .non (upd H l (.lst (xs++zs)))
theorem oQ:MtM X "list.extend" qy:=by
 intro pins s σ H x vs v us Q I rx rv h
 obtain ⟨l,b,xs,zs,rfl,rfl,hH,hB,hz,q⟩:=h
 cases rx
 obtain ⟨u,rfl,ru⟩:=rv.one
 cases ru
 obtain ⟨z,its,n,r,hl,e⟩:=I.lstM hH
 obtain ⟨z2,its2,n2,r2,hl2,e2⟩:=I.lstM hB
 have hsz:its.toArray.size+its2.toArray.size≤sizeLine:=by rw [List.size_toArray,List.size_toArray]; omega
 have hlong:¬ (!its.toArray.isEmpty&&Builtin.List.listTooLong (its.toArray.size+its2.toArray.size))=true:=by
  rw [mt hsz,Bool.and_false]
  exact Bool.false_ne_true
 refine call_meets F.slot_list_extend ⟨_,e,rfl⟩ F.entry_list_extend (F.args_list_extend_2 _ _)
  (AutoSeq1.list_extend_list_list_0 l its.toArray n b its2.toArray n2 hlong (by rw [List.size_toArray]; omega) (by omega)) ⟨e,e2,?_⟩
 refine ⟨.non,_,I.lset (its':=its++its2) hH e (by simp) (r.append r2) ?_,rfl,q⟩
 rw [List.length_append]
 omega
def rn:V→List V→Hp→VK→Prop:=fun x vs H Q=>∃ l xs i k y,x=.ref l∧vs=[.int i]∧H l=some (.lst xs)∧ -(2^63)≤i∧i < 2^63∧seqIndex? i xs.length=some k∧xs[k]? =some y∧Q y (upd H l (.lst (xs.eraseIdx k)))
theorem pO:MtM X "list.pop" rn:=by
 intro pins s σ H x vs v us Q I rx rv h
 obtain ⟨l,xs,i,k,y,rfl,rfl,hH,h1,h2,hk,hy,q⟩:=h
 cases rx
 obtain ⟨u,rfl,ru⟩:=rv.one
 obtain ⟨t,rfl⟩:=ru
 obtain ⟨z,its,n,r,hl,e⟩:=I.lstM hH
 obtain ⟨w,hw,rw'⟩:=r.get hy
 refine call_meets F.slot_list_pop ⟨_,e,rfl⟩ F.entry_list_pop (F.args_list_pop_2 _ _)
  (MeetsSeq.list_pop_at l its.toArray n i t k w (fitsIndex_both h1 h2) (by rw [List.size_toArray,← hl]; exact hk) (by rw [← Array.getElem?_toList]; exact hw) (by rw [List.size_toArray]; omega)) ⟨e,?_⟩
 refine ⟨y,_,I.lset (its':=its.eraseIdx k) hH e ?_ (r.eraseIdx k) ?_,rw',q⟩
 · show its.toArray.eraseIdxIfInBounds k=(its.eraseIdx k).toArray
   rw [List.eraseIdxIfInBounds_toArray]
 · have:=lC xs k
   omega
def ro:V→List V→Hp→VK→Prop:=fun x vs H Q=>∃ l xs,x=.ref l∧vs=[]∧H l=some (.lst xs)∧Q .non (upd H l (.lst []))
theorem pP:MtM X "list.clear" ro:=by
 intro pins s σ H x vs v us Q I rx rv h
 obtain ⟨l,xs,rfl,rfl,hH,q⟩:=h
 cases rx
 have hus:=rv.zero
 subst hus
 obtain ⟨z,its,n,r,hl,e⟩:=I.lstM hH
 refine call_meets F.slot_list_clear ⟨_,e,rfl⟩ F.entry_list_clear (F.args_list_clear_1 _) (AutoSeq1.list_clear_list_0 l its.toArray n (by rw [List.size_toArray]; omega)) ⟨e,?_⟩
 exact ⟨.non,_,I.lset (its':=[]) (ys:=[]) hH e rfl .nil (Nat.zero_le _),rfl,q⟩
def rCat:R2:=fun x y H Q=>∃ l b xs zs,x=.ref l∧y=.ref b∧H l=some (.lst xs)∧H b=some (.lst zs)∧xs.length+zs.length≤sizeLine∧∀ p,H p=none→Q (.ref p) (upd H p (.lst (xs++zs)))
theorem rp:OpR X (binaryOp .Add) rCat:=by
 intro pins s σ H x y v u Q I rx ry h
 obtain ⟨l,b,xs,zs,rfl,rfl,hH,hB,hz,q⟩:=h
 cases rx
 cases ry
 obtain ⟨z,its,n,r,hl,e⟩:=I.lstM hH
 obtain ⟨z2,its2,n2,r2,hl2,e2⟩:=I.lstM hB
 refine PySem.P.add_list e e2 ?_ (by rw [List.size_toArray,List.size_toArray]; omega)
 have ea:its.toArray++its2.toArray=(its++its2).toArray:=by simp
 rw [ea]
 exact ⟨.ref _,_,I.lnew (t':=s.toks) (r.append r2) (by rw [List.length_append]; omega),rfl,q _ I.fresh⟩
def rRep:R2:=fun x y H Q=>∃ l k xs,x=.ref l∧y=.int k∧H l=some (.lst xs)∧ -(2^63)≤k∧k < 2^63∧xs.length*k.toNat≤sizeLine∧
 ∀ p,H p=none→Q (.ref p) (upd H p (.lst (List.replicate k.toNat xs).flatten))
theorem qz {α:Type} (xs:List α) (k:Nat):(List.replicate k xs).flatten.length=k*xs.length:=by
 induction k with
 | zero=>simp
 | succ k ih=>rw [List.replicate_succ,List.flatten_cons,List.length_append,ih,Nat.succ_mul,Nat.add_comm]
theorem rq:OpR X (binaryOp .Mult) rRep:=by
 intro pins s σ H x y v u Q I rx ry h
 obtain ⟨l,k,xs,rfl,rfl,hH,h1,h2,hz,q⟩:=h
 cases rx
 obtain ⟨t,rfl⟩:=ry
 obtain ⟨z,its,n,r,hl,e⟩:=I.lstM hH
 have hlen:its.toArray.size*k.toNat≤sizeLine:=by rw [List.size_toArray,← hl]; exact hz
 have hcap:¬ its.toArray.size*k.toNat > (2^63 - 1) / 8:=by
  have:(sizeLine:Nat)≤(2^63 - 1) / 8:=by decide
  omega
 have hfit:¬ (!Builtin.List.listFitsIndex k)=true:=by
  rw [fitsIndex_both h1 h2]
  exact Bool.false_ne_true
 have hlong:¬ Builtin.List.listTooLong (its.toArray.size*k.toNat)=true:=by
  rw [mt hlen]
  exact Bool.false_ne_true
 have hnew:List.foldl (fun x1 x2=>x1++x2) #[] (List.replicate (if its.toArray.isEmpty=true then 0 else k.toNat) its.toArray)=(List.replicate k.toNat its).flatten.toArray:=by
  have f0:∀ m:Nat,List.foldl (fun x1 x2=>x1++x2) #[] (List.replicate m its.toArray)=(List.replicate m its).flatten.toArray:=fun m=>by
   have:=lD its m []
   rw [List.nil_append] at this
   exact this
  rw [f0]
  cases its with
  | nil=>simp
  | cons a r'=>rw [if_neg (by simp)]
 refine wpAny_binaryOp_repeat_ref (T:="list") (U:="int") (by decide) ⟨_,e,rfl⟩ (fun s'=>typeIs_int s' k t) noFill_list_mul F.fills_int_mul F.slot_int_rmul repeat_list F.slot_int_index.lookup
  (call_meets F.slot_int_rmul (typeIs_int s k t) F.entry_int_rmul (F.args_int_rmul_2 _ _) (int___rmul___int_list k t l its.toArray n)
   ⟨e,rfl,⟨_,e,rfl⟩,call_meets F.slot_list_mul ⟨_,e,rfl⟩ F.entry_list_mul (F.args_list_mul_2 _ _) (AutoListH.list___mul___list_int_3 l its.toArray n k t hfit hcap hlong) ⟨e,?_⟩⟩)
 rw [hnew]
 exact ⟨.ref _,_,I.lnew (t':=s.toks) (r.rep k.toNat) (by rw [qz,Nat.mul_comm]; exact hz),rfl,q _ I.fresh⟩
end
end L2
namespace Att
open PySem PySem.W PySem.Calls PyProof.Rows
theorem ints_of_wellAll {P:Params} {h:Heap}:∀ (ns:List Int) (vs:List Value),WellAll P h vs (ns.map WData.int)→IntsAre vs ns:=by
 intro ns
 induction ns with
 | nil=>
  intro vs w
  rw [List.map_nil] at w
  cases w
  exact .nil
 | cons n ns ih=>
  intro vs w
  rw [List.map_cons] at w
  cases w with
  | cons a b=>
   cases a
   exact .cons _ _ (ih _ b)
theorem script_of {l:OpenLaw} {n:Nat} (hn:l.most=some n) {P:Params} {h:Heap} {args:List WData} {vals:List Value}
  (hpre:l.row.toRowW.claim.pre args=true) (hwl:WellAll P h vals args):
  ∃ a vs ns,vals=[Value.ref a]∧args=[WData.list (ns.map WData.int)]∧h.get? a=some { cls:=.type "list",data:=.seq vs.toArray }∧IntsAre vs ns∧ns.length≤n:=by
 have hsh:WShape.hasAll [] args [.list .int]=true:=(pre_splitW hpre).1
 have hc:l.pre.holds [] { args:=args }=true:=(pre_splitW hpre).2
 obtain ⟨d,r,rfl,h1,h2⟩:=hasAllW_cons hsh
 obtain rfl:=hasAllW_nil h2
 obtain ⟨xs,rfl,h3⟩:=hasW_list h1
 obtain ⟨ns,rfl⟩:=items_int h3
 have hlen:ns.length≤n:=by
  unfold OpenLaw.pre at hc
  have h4:(WTm.not (.lt (.lit (.int (n:Int))) (.len (.arg 0)))).holds [] { args:=[.list (ns.map .int)] }=true:=by
   have h4:=(holds_andW hc).1
   rw [hn] at h4
   exact h4
  have h5:=condW_of h4 (w_not (w_lt w_lit (w_len_list (w_arg rfl))))
  rw [List.length_map] at h5
  refine Nat.le_of_not_lt fun q=>?_
  have q':(n:Int) < ((ns.length:Nat):Int):=by omega
  first
   | (rw [decide_eq_true q'] at h5; exact absurd h5 (by decide))
   | (simp at h5; omega)
 cases hwl with
 | cons w1 w2=>
  cases w2
  cases w1 with
  | list ho hall=>exact ⟨_,_,ns,rfl,rfl,ho,ints_of_wellAll ns _ hall,hlen⟩
theorem post_true (l:OpenLaw) (args:List WData):l.row.toRowW.claim.post args (.bool true) args=true:=
 postW_of (r:=l.row.toRowW) (X:=(true==true))
  (show WShape.has [] (.bool true) .bool=true by first | rfl | decide | simp [WShape.has,WShape.arms,WShape.armsAll])
  (show (WTm.eq .res (.lit (.bool true))).value [] { args:=args,res:=some (.bool true),after:=args }=some (.bool (true==true)) from w_eq_bool (w_res rfl) w_lit) rfl
theorem attach_call {l:OpenLaw} {n:Nat} {q:Program} {loose:List Str} {XP:(Str→Option Value)→Heap→Prop} {YP:World→Heap→Prop} {d:DefRec}
  (hn:l.most=some n) (hdf:d.params.defaults=[])
  (call:∀ (w:World) (s₀ s₁:Shared) (mg mb:Str→Option Value) (fa:Addr) (o:Obj) (pm cd doc:Value) (a:Addr) (vs:List Value) (ns:List Int),
   Ground q loose [] XP w s₀ mg mb s₁.heap→YP w s₁.heap→
   s₁.heap.get? fa=some o→o.data=.func (docDef d.name d.params d.body d.scope pm cd doc)→s₁.heap.CodeRec cd d.name→mg d.name=some (.ref fa)→
   s₁.heap.get? a=some { cls:=.type "list",data:=.seq vs.toArray }→IntsAre vs ns→ns.length≤n→s₁.gens=#[]→
   codeAny (model l.prog w) callerA (.call (.ref fa) ⟨[.ref a],[]⟩) (fun r s'=>r=.ok (.ret (.bool true))∧OldK s₁.heap s'.heap∧s'.os=s₁.os∧AllBare s'.gens) s₁):
  WalkO q loose XP YP l.row.toRowW d [] (fun f vs=>PySem.call f vs):=by
 intro w s₀ s₁ mg mb G Y fa o pm cd doc dV kV ho hd hcd hD hmg hg args vals as hpre hlay hrd hwl hlo
 obtain rfl:dV=.none:=Dflts.none hD hdf
 obtain rfl:kV=.none:=Dflts.noKw hD
 obtain ⟨a,vs,ns,rfl,rfl,hobj,hints,hlen⟩:=script_of hn hpre hwl
 refine enter_call (codeAny_mono (call w s₀ s₁ mg mb fa o pm cd doc a vs ns G Y ho (fd_plain hd) hcd hmg hobj hints hlen hg) fun r s' hq=>?_)
 obtain ⟨rfl,h2,h3,h4⟩:=hq
 exact ⟨.inl ⟨.bool true,.bool true,[],rfl,fun _=>rfl,.bool true,post_true l _,fun _=>⟨List.Pairwise.nil,fun _ hm=>(nomatch hm)⟩⟩,h2,h3,h4⟩
section
variable {prog:Program} {w:World} {A:Around} {E:Value→Shared→Prop} {s:Shared} {K:Frag}
end
end Att
namespace L2
open PySem PySem.Spec PyProof.Rows
theorem lF:∀ {vs:List Value} {ns:List Int},IntsAre vs ns→Vals (ns.map V.int) vs
 | _,_,.nil=>.nil
 | _,_,.cons n t h=>.cons ⟨t,rfl⟩ (lF h)
def Only (H:Hp):Prop:=∀ b,H b=none∨∃ o xs,H b=some (.frz o (.lst xs))
theorem pQ {P:Program} {w:World} {K:PySem.W.Frag} {mg mb:Str→Option Value} {CX:CXT} {k:Nat} {fa a:Addr} {fd:FuncData} {x:Str} {sp:Sp} {s₁:Shared} {vs:List Value} {ns:List Int}
  (KX:K.In s₁.heap) (hns:s₁.heap.Ns mainGlobals mg) (hb:s₁.heap.Ns builtinsNs mb) (hbb:∀ x:Str,x≠"__name__"→mb x=bootBuiltins x) (hlim:s₁.heap.NoLimit) (hg:s₁.gens=#[])
  (ha:s₁.heap.get? a=some { cls:=.type "list",data:=.seq vs.toArray }) (hi:IntsAre vs ns) (hl:ns.length≤sizeLine) (hr:Room k callerA)
  (F:∀ base:Heap,K.In base→base.Ns mainGlobals mg→FnOk P w K mg base CX k fa fd [x] sp) (hbind:∀ (s:Shared) (u:Value),BindsTo s fd ⟨[u],[]⟩ [(x,u)])
  (hsp:∀ H:Hp,Only H→SqL K H a (ns.map V.int)→sp [.ref a] H (fun v _=>v=.bl true) fun _ _ _=>False)
  (hCX:∀ H e s',CX [] H s₁ (fun _ _ _=>False) e s'→False):
  codeAny (model P w) callerA (.call (.ref fa) ⟨[.ref a],[]⟩) (fun r s'=>r=.ok (.ret (.bool true))∧OldK s₁.heap s'.heap∧s'.os=s₁.os∧AllBare s'.gens) s₁:=by
 have rv:=lF hi
 have lenV:=hi.length
 have core:∀ H:Hp,Only H→SqL K H a (ns.map V.int)→HOk P w H s₁.heap→(∀ b,H b≠none→b=a)→(H a≠none→K.lookup a=none)→
   codeAny (model P w) callerA (.call (.ref fa) ⟨[.ref a],[]⟩) (fun r s'=>r=.ok (.ret (.bool true))∧OldK s₁.heap s'.heap∧s'.os=s₁.os∧AllBare s'.gens) s₁:=by
  intro H hO hS hok hA hK
  have base_of:∀ {b:Addr} {o:Obj},s₁.heap.get? b=some o→H b=none→(hidT s₁.heap H).get? b=some o:=fun e n=>pG e n
  have noA:∀ {b:Addr} {o:Obj} {es:Array DictEntry} {ep:Nat},s₁.heap.get? b=some o→o.data=.dict es ep→H b=none:=fun {b o es ep} e d=>by
   cases q:H b with
   | none=>rfl
   | some u=>
    have e':b=a:=hA b (by rw [q]; simp)
    subst e'
    rw [ha] at e; cases e
    have d':Data.seq vs.toArray _=Data.dict es ep:=d
    cases d'
  have nsK:∀ {b:Addr} {m:Str→Option Value},s₁.heap.Ns b m→(hidT s₁.heap H).Ns b m:=fun {b m} ⟨o,es,ep,e,d,r⟩=>⟨o,es,ep,base_of e (noA e d),d,r⟩
  have hKb:K.In (hidT s₁.heap H):=fun b o e=>base_of (KX b o e) (by
   cases q:H b with
   | none=>rfl
   | some u=>
    have e':b=a:=hA b (by rw [q]; simp)
    subst e'
    rw [hK (by rw [q]; simp)] at e; cases e)
  have hM:Mod K mg (hidT s₁.heap H):=⟨hKb,nsK hns,⟨mb,nsK hb,hbb⟩,let ⟨mc,h1,h2⟩:=hlim; ⟨mc,nsK h1,h2⟩⟩
  have e0:Env0 P w K mg (hidT s₁.heap H) callerA [] s₁ H:=⟨rfl,hM,fun b o e=>qk e,Nat.le_of_eq (oB _ _),trivial,fun b hb=>absurd (show b∈([]:List Addr) from hb) (by simp),hok,.of_eq hg⟩
  refine codeAny_mono ((F _ hKb (nsK hns)).run callerA [] s₁ H ⟨[.ref a],[]⟩ [.ref a] [.ref a] _ _ hr e0 (hbind s₁ (.ref a)) (.cons rfl .nil) (hsp H hO hS)) fun r s' h=>?_
  cases r with
  | error e=>exact (hCX H e s' h).elim
  | ok fl=>
   cases fl with
   | next=>exact False.elim h
   | brk=>exact False.elim h
   | cont=>exact False.elim h
   | ret u=>
    obtain ⟨v,H',os,bare,un,hok',r',q⟩:=h
    have q':v=.bl true:=q
    subst q'
    obtain rfl:u=Value.bool true:=r'
    refine ⟨rfl,OldK.of_keep fun b o e=>?_,os,bare⟩
    cases q:H b with
    | none=>exact un.keep b o e q (by intro z; exact absurd (show b∈([]:List Addr) from z) (by simp)) (by simp)
    | some u=>
     rcases hO b with z | ⟨ob,xs,z⟩
     · rw [q] at z; cases z
     · have z2:=un.frzs b ob _ z
       obtain ⟨e1,_⟩:=hok b _ z
       obtain ⟨e2,_⟩:=hok' b _ z2
       rw [e] at e1; cases e1
       exact e2
 cases hk:K.lookup a with
 | some o=>
  have e:=KX a o hk
  rw [ha] at e
  cases e
  refine core (fun _=>none) (fun _=>.inl rfl) (.inr ⟨_,vs.toArray,_,hk,rfl,rfl,rfl,by rw [List.size_toArray,lenV]; exact hl,by simpa using rv⟩) (fun b u z=>by have z':(none:Option HO)=some u:=z; cases z') (fun b z=>absurd rfl z) fun z=>absurd rfl z
 | none=>
  refine core (fun b=>if b=a then some (.frz { cls:=.type "list",data:=.seq vs.toArray } (.lst (ns.map V.int))) else none) (fun b=>?_) (.inl (.inr ⟨{ cls:=.type "list",data:=.seq vs.toArray },if_pos rfl⟩)) (fun b u z=>?_) (fun b z=>?_) fun _=>hk
  · by_cases hb:b=a
    · exact .inr ⟨_,_,if_pos hb⟩
    · exact .inl (if_neg hb)
  · by_cases hb:b=a
    · have z':=(if_pos hb).symm.trans z
      cases z'
      subst hb
      exact ⟨ha,by rw [List.length_map]; exact hl,vs,_,rv,ha⟩
    · have z':=(if_neg hb).symm.trans z
      cases z'
  · by_cases hb:b=a
    · exact hb
    · exact absurd (if_neg hb) z
end L2
namespace L2
open PySem PySem.Spec PyProof.Rows
theorem qA {l:PySem.W.OpenLaw} {n k:Nat} {q:Program} {loose:List Str} {XP:(Str→Option Value)→Heap→Prop} {YP:World→Heap→Prop} {d:DefRec} {K:Params→PySem.W.Frag} {CX:World→CXT} {sp:World→Sp} {x:Str}
  (hn:l.most=some n) (hn2:n≤sizeLine) (hdf:d.params.defaults=[]) (hr:Room k callerA)
  (hY:∀ (w:World) (h:Heap),YP w h→(K w.params).In h)
  (F:∀ (w:World) (mg:Str→Option Value) (fa:Addr) (h:Heap),(K w.params).In h→h.Ns mainGlobals mg→mg d.name=some (.ref fa)→
   ∃ fd:FuncData,(∀ (s:Shared) (u:Value),BindsTo s fd ⟨[u],[]⟩ [(x,u)])∧
    ∀ base:Heap,(K w.params).In base→base.Ns mainGlobals mg→FnOk l.prog w (K w.params) mg base (CX w) k fa fd [x] (sp w))
  (hsp:∀ (w:World) (H:Hp) (a:Addr) (ns:List Int),ns.length≤n→Only H→SqL (K w.params) H a (ns.map V.int)→sp w [.ref a] H (fun v _=>v=.bl true) fun _ _ _=>False)
  (hCX:∀ (w:World) (H:Hp) (s:Shared) (e:Value) (s':Shared),CX w [] H s (fun _ _ _=>False) e s'→False):
  PySem.W.WalkO q loose XP YP l.row.toRowW d [] (fun f vs=>PySem.call f vs):=by
 refine Att.attach_call hn hdf fun w s₀ s₁ mg mb fa o pm cd doc a vs ns G Y ho hd hcd hmg hobj hints hlen hg=>?_
 have KX:=hY w _ Y
 obtain ⟨fd,hb,hF⟩:=F w mg fa _ KX G.T.g hmg
 exact pQ KX G.T.g G.T.b G.T.builtins G.T.nolimit hg hobj hints (Nat.le_trans hlen hn2) hr hF hb (fun H hO hS=>hsp w H a ns hlen hO hS) fun H e s'=>hCX w H s₁ e s'
end L2
namespace L2
open PySem PySem.Spec PyProof.Rows
def bd (s:Stmt):Arguments:=match s with
 | .FunctionDef _ a _ _ _ _ _ _ _ _=>a
 | _=>{ posonlyargs:=[],args:=[],vararg:=none,kwonlyargs:=[],kw_defaults:=[],kwarg:=none,defaults:=[] }
def aX (s:Stmt):List Stmt:=match s with
 | .FunctionDef _ _ b _ _ _ _ _ _ _=>b
 | _=>[]
def ai (s:Stmt):Scope:=match s with
 | .FunctionDef _ _ _ _ _ _ sc _ _ _=>sc
 | _=>{ kind:=.function,names:=[],isGenerator:=false,isCoroutine:=false }
abbrev CX0:CXT:=fun _ _ _ _ _ _=>False
abbrev E0:XK:=fun _ _ _=>False
theorem me {X:Cx}:iH CX0 X E0:=fun _ _ _ _ _ _ _ h=>h.elim
structure Fun (K:PySem.W.Frag) (x qual:Str) (st:Stmt) (f:Addr) (fd:FuncData):Prop where
 ex:∃ (oc:Value) (od:Option Addr) (kV doc pm:Value) (an:Option Addr) (cdv ct:Value) (osl:Array (Option Value)),
  fd=PySem.W.fnOf x qual (bd st) (aX st) (ai st) .none kV doc pm an cdv ct∧K.lookup f=some ⟨oc,od,.func fd,osl⟩∧PySem.W.codeIn K cdv qual=true
 kp:PySem.W.keepIn K (.ref f)=true
section
variable {P:Program} {w:World} {K:PySem.W.Frag} {mg:Str→Option Value} {base:Heap}
theorem Fun.ok {x qual:Str} {st:Stmt} {f:Addr} {fd:FuncData} {N ps:List Str} {k:Nat} {sp:Sp} (F:Fun K x qual st f fd) (S:ap N ps (ai st)) (len:∀ vs H Q E,sp vs H Q E→vs.length=ps.length)
  (hbody:∀ (cdv:Value) (A:Around) (outer:List Env) (s:Shared) (H:Hp) (vs:List V) (Q:VK) (E:XK),Room k (A.deeper (envOfC qual (ai st) s.heap.objs.size f cdv))→sp vs H Q E→
   ∃ t,PSs (cxOf CX0 P w K mg base N qual (ai st) f cdv A outer s H E).nox (aX st) t∧t { nx:=fun _ H'=>Q .non H',rt:=Q } (start N vs) H):FnOk P w K mg base CX0 (k+1) f fd ps sp:=by
 obtain ⟨oc,od,kV,doc,pm,an,cdv,ct,osl,rfl,lk,hcd⟩:=F.ex
 refine sf lk hcd S len fun A outer s H vs Q E hr hsp=>?_
 obtain ⟨t,h,q⟩:=hbody cdv A outer s H vs Q E hr hsp
 exact ⟨t,h.nox,q⟩
theorem Fun.binds {x qual:Str} {st:Stmt} {f:Addr} {fd:FuncData} {ps:List Str} (F:Fun K x qual st f fd)
  (h:∀ (kV doc pm:Value) (an:Option Addr) (cdv ct:Value) (us:List Value),us.length=ps.length→bindArgs (PySem.W.fnOf x qual (bd st) (aX st) (ai st) .none kV doc pm an cdv ct) ⟨us,[]⟩=pure (ps.zip us)):Binds K fd ps []:=by
 obtain ⟨oc,od,kV,doc,pm,an,cdv,ct,osl,rfl,lk,hcd⟩:=F.ex
 exact .all (h kV doc pm an cdv ct)
theorem az {x qual:Str} {st:Stmt} {f:Addr} {oc:Value} {od an:Option Addr} {osl:Array (Option Value)} {kV doc pm cdv ct:Value} (l:K.lookup f=some ⟨oc,od,.func (PySem.W.fnOf x qual (bd st) (aX st) (ai st) .none kV doc pm an cdv ct),osl⟩)
  (c:PySem.W.codeIn K cdv qual=true) (k:PySem.W.keepIn K (.ref f)=true):Fun K x qual st f (PySem.W.fnOf x qual (bd st) (aX st) (ai st) .none kV doc pm an cdv ct):=⟨⟨oc,od,kV,doc,pm,an,cdv,ct,osl,rfl,l,c⟩,k⟩
end
theorem aI {n:Nat} (h:n≤1000):n < sizeLine:=Nat.lt_of_le_of_lt h (by decide)
section
variable {X:Cx}
theorem pv (i:Nat) {x:Str} {pos:Pos} (hN:X.N[i]? =some x:=by rfl) (hv:Vis X.env.scope x:=by first | exact Or.inl rfl | exact Or.inr (Or.inl rfl) | exact Or.inr (Or.inr rfl)) (hd:(x==("__debug__":Str))=false:=by decide)
  (hcd:(x==("__classdict__":Str))=false:=by decide):PE X (.Name x pos) (tVar i):=q4 hN hv hd hcd
end
theorem iteF {A B:Prop} (h:B):if false=true then A else B:=by
 rw [if_neg Bool.false_ne_true]
 exact h
theorem iteT {A B:Prop} (h:A):if true=true then A else B:=by
 rw [if_pos rfl]
 exact h
def Same (H H':Hp):Prop:=∀ b o,H b=some o→H' b=some o
theorem Same.refl (H:Hp):Same H H:=fun _ _ h=>h
theorem Same.trans {H H1 H2:Hp} (a:Same H H1) (b:Same H1 H2):Same H H2:=fun c o h=>b c o (a c o h)
theorem Same.free {H H':Hp} (e:Same H H') {l:Addr} (h:H' l=Option.none):H l=Option.none:=by
 cases q:H l with
 | none=>rfl
 | some o=>
  rw [e l o q] at h
  cases h
theorem Same.seq {K:PySem.W.Frag} {H H':Hp} {a:Addr} {xs:List V} (e:Same H H') (h:SqL K H a xs):SqL K H' a xs:=by
 rcases h with (h | ⟨o,h⟩) | h
 · exact .inl (.inl (e _ _ h))
 · exact .inl (.inr ⟨o,e _ _ h⟩)
 · exact .inr h
end L2
namespace L2
open PySem PySem.Spec PyProof.Rows
section
variable {κ:Type} [DecidableEq κ]
def valV (kvs:List (κ × V)) (k:κ):Option V:=(kvs.find? fun kv=>decide (kv.1=k)).map (·.2)
def putK (kvs:List (κ × V)) (k:κ) (v:V):List (κ × V):=
 if (kvs.any fun kv=>decide (kv.1=k))=true then kvs.map (fun kv=>if kv.1=k then (kv.1,v) else kv) else kvs++[(k,v)]
theorem mv {p:κ × V} {r:List (κ × V)} {k:κ} (e:p.1=k):valV (p::r) k=some p.2:=by simp [valV,List.find?_cons,e]
theorem mw {p:κ × V} {r:List (κ × V)} {k:κ} (e:¬ p.1=k):valV (p::r) k=valV r k:=by simp [valV,List.find?_cons,e]
theorem RelO.isSome_eq {o:Option V} {u:Option Value} (r:RelO o u):o.isSome=u.isSome:=by
 cases o with
 | none=>cases u with
  | none=>rfl
  | some _=>exact (show False from r).elim
 | some _=>cases u with
  | none=>exact (show False from r).elim
  | some _=>rfl
theorem KV.val {kvs:List (κ × V)} {vs:List (κ × Value)} (r:KV kvs vs) (k:κ):RelO (valV kvs k) (valueAt vs k):=by
 unfold KV at r
 induction r with
 | nil=>exact True.intro
 | @cons p q ps qs h t ih=>
  obtain ⟨h1,h2⟩:=h
  by_cases e:p.1=k
  · have e':q.1=k:=h1.symm.trans e
    have b:valueAt (q::qs) k=some q.2:=by simp [valueAt,List.find?_cons,e']
    rw [mv e,b]; exact h2
  · have e':¬ q.1=k:=fun z=>e (h1.trans z)
    have b:valueAt (q::qs) k=valueAt qs k:=by simp [valueAt,List.find?_cons,e']
    rw [mw e,b]; exact ih
theorem KV.length {kvs:List (κ × V)} {vs:List (κ × Value)} (r:KV kvs vs):kvs.length=vs.length:=Paired.length r
end
theorem oi {P:Program} {w:World} {k:Key} {u:Value} (r:RelV (kV k) u):(cr P w).is k u=true:=by
 cases k with
 | inl i=>obtain ⟨t,e⟩:=(show ∃ t,u=Value.int i t from r); subst e; exact ng P w i t
 | inr x=>obtain ⟨t,e⟩:=(show ∃ t,u=Value.str x t from r); subst e; exact nh P w x t
theorem lG {P:Program} {w:World}:∀ {ks:List Key} {us:List Value},Vals (ks.map kV) us→ItemsAre (cr P w) ks us
 | [],_,r=>by rw [List.map_nil] at r; cases r; exact .nil
 | k::ks,_,r=>by
  rw [List.map_cons] at r
  cases r with
  | cons h t=>exact .cons (oi h) (lG t)
abbrev KT (H:Hp):List (List Key × V)→List (List Key × Addr × Value)→Prop:=Paired fun p q=>p.1=q.1∧H q.2.1=some (.tup (p.1.map kV))∧RelV p.2 q.2.2
theorem KT.val {H:Hp} {kvs:List (List Key × V)} {xs:List (List Key × Addr × Value)} (r:KT H kvs xs) (k:List Key):RelO (valV kvs k) ((atKey xs k).map (·.2)):=by
 induction r with
 | nil=>exact True.intro
 | @cons p q ps qs h t ih=>
  obtain ⟨h1,_,h2⟩:=h
  by_cases e:p.1=k
  · have e':q.1=k:=h1.symm.trans e
    have b:atKey (q::qs) k=some q.2:=by simp [atKey,List.find?_cons,e']
    rw [mv e,b]; exact h2
  · have e':¬ q.1=k:=fun z=>e (h1.trans z)
    have b:atKey (q::qs) k=atKey qs k:=by simp [atKey,List.find?_cons,e']
    rw [mw e,b]; exact ih
section
variable {P:Program} {w:World} {H:Hp} {h:Heap} {a:Addr}
theorem qd {u:HO} (ok:HOk P w H h) (e:Rd H a u):ObjOk P w H h a u:=e.ok ok
theorem mf {kvs:List (Key × V)} (ok:HOk P w H h) (e:Rd H a (.dK kvs)):kvs.length≤sizeLine∧(a==sysModules)=false∧∃ vs,KV kvs vs∧h.DictOf (cr P w) a vs:=
 show ObjOk P w H h a (.dK kvs) from qd ok e
theorem mx {ks:List Key} (ok:HOk P w H h) (e:H a=some (.tup (ks.map kV))):(tupleKind (cr P w)).is h ks a:=by
 obtain ⟨_,its,r,o,h1,h2,n,h3⟩:=(show ObjOk P w H h a (.tup (ks.map kV)) from ok a _ e)
 exact ⟨o,its.toArray,n,h1,h2,h3,by simpa using lG r⟩
theorem oj {kvs:List (List Key × V)} (ok:HOk P w H h) (e:Rd H a (.dT kvs)):kvs.length≤sizeLine∧(a==sysModules)=false∧
  ∃ xs,KT H kvs xs∧h.DictOfH (tupleKind (cr P w)) a xs:=by
 obtain ⟨z,y,xs,r,o,es,ep,h1,h2,h3,h4,h5⟩:=(show ObjOk P w H h a (.dT kvs) from qd ok e)
 refine ⟨z,y,xs,r,o,es,ep,h1,h2,h3,h4,fun x hx=>?_,h5⟩
 have all:∀ {l:List (List Key × V)} {m:List (List Key × Addr × Value)},KT H l m→∀ x∈m,(tupleKind (cr P w)).is h x.1 x.2.1:=by
  intro l m q
  induction q with
  | nil=>intro x hx; exact nomatch hx
  | @cons p q ps qs hq t ih=>
   intro x hx
   rcases List.mem_cons.mp hx with e | hx
   · subst e
     exact mx ok (by rw [← hq.1]; exact hq.2.1)
   · exact ih x hx
 exact all r x hx
end
def DGet (H:Hp) (a:Addr) (y:V) (r:Option V):Prop:=
 (∃ kvs k,Rd H a (.dK kvs)∧y=kV k∧r=valV kvs k)∨∃ kvs k b,Rd H a (.dT kvs)∧y=.ref b∧H b=some (.tup (k.map kV))∧r=valV kvs k
def DPut (H:Hp) (a:Addr) (y v:V) (H':Hp):Prop:=
 (∃ kvs k,H a=some (.dK kvs)∧y=kV k∧kvs.length < sizeLine∧H'=upd H a (.dK (putK kvs k v)))∨
 ∃ kvs k b,H a=some (.dT kvs)∧y=.ref b∧H b=some (.tup (k.map kV))∧kvs.length < sizeLine∧H'=upd H a (.dT (putK kvs k v))
theorem DGet.k {H:Hp} {a:Addr} {kvs:List (Key × V)} {k:Key} (e:H a=some (.dK kvs)):DGet H a (kV k) (valV kvs k):=.inl ⟨kvs,k,.inl e,rfl,rfl⟩
section
variable {X:Cx} {pins:List (Addr × Obj)} {σ:St} {H:Hp} {s:Shared} {a:Addr} {y v:V} {u r:Value} {o:Option V} {A:Around} {E:Value→Shared→Prop}
theorem oR {Q:Value→Shared→Prop} (hu:A.units+1 < cLine) (I:Inv X pins σ H s) (g:DGet H a y (some v)) (ry:RelV y u) (h:∀ w' s',Inv X pins σ H s'→RelV v w'→Q w' s'):
  wpAny (model X.prog X.w) A (getItem (.ref a) u) Q E s:=by
 rcases g with ⟨kvs,k,e,ey,l⟩ | ⟨kvs,k,b,e,ey,eb,l⟩
 · subst ey
   obtain ⟨z,hd,vs,rel,dd⟩:=mf I.hok e
   obtain ⟨w',hw,rw'⟩:=RelO.some_of (v:=v) (o:=valueAt vs k) (by rw [l]; exact rel.val k)
   exact wpAny_getItem_of (oi ry) dd.mapOf hw (h w' _ (I.tok _) rw')
 · subst ey
   cases (show u=Value.ref b from ry)
   obtain ⟨z,hd,xs,rel,dd⟩:=oj I.hok e
   obtain ⟨w',hw,rw'⟩:=RelO.some_of (v:=v) (o:=(atKey xs k).map (·.2)) (by rw [l]; exact rel.val k)
   obtain ⟨p,hp,hp2⟩:=Option.map_eq_some_iff.mp hw
   refine wpAny_getItem_heap (tupleKind_room_in1 hu) (mx I.hok eb) dd hp ?_
   rw [hp2]
   exact h w' _ (I.tok _) rw'
theorem sq {Q:Value→Shared→Prop} (hu:A.units+1 < cLine) (I:Inv X pins σ H s) (g:DGet H a y o) (ry:RelV y u) (h:∀ s',Inv X pins σ H s'→Q (.bool o.isSome) s'):
  wpAny (model X.prog X.w) A (compareOp .In u (.ref a)) Q E s:=by
 rcases g with ⟨kvs,k,e,ey,l⟩ | ⟨kvs,k,b,e,ey,eb,l⟩
 · subst ey
   obtain ⟨z,hd,vs,rel,dd⟩:=mf I.hok e
   refine wpAny_in_of (oi ry) hd dd.mapOf ?_
   rw [← (rel.val k).isSome_eq,← l]
   exact h _ (I.tok _)
 · subst ey
   cases (show u=Value.ref b from ry)
   obtain ⟨z,hd,xs,rel,dd⟩:=oj I.hok e
   refine wpAny_in_heap (tupleKind_room_in1 hu) (mx I.hok eb) hd dd ?_
   have q:=(rel.val k).isSome_eq
   rw [Option.isSome_map] at q
   rw [← q,← l]
   exact h _ (I.tok _)
end
section
variable {X:Cx} {pins:List (Addr × Obj)} {σ:St} {H:Hp} {s:Shared} {a:Addr} {kvs:List (Key × V)} {k:Key} {u:Value} {A:Around} {E:Value→Shared→Prop}
theorem sg {Q:Value→Shared→Prop} (I:Inv X pins σ H s) (e:Rd H a (.dK kvs)) (h:∀ t s',Inv X pins σ H s'→Q (.int kvs.length t) s'):wpAny (model X.prog X.w) A (call (.builtin "len") [.ref a]) Q E s:=by
 obtain ⟨z,hd,vs,rel,dd⟩:=mf I.hok e
 refine call_len_dict hd dd (by rw [← rel.length]; rw [sizeLine_eq] at z; omega) ?_
 rw [← rel.length]
 exact h _ _ (I.tok _)
end
theorem nj {X:Cx} {pins:List (Addr × Obj)} {σ:St} {H:Hp} {s:Shared} {a:Addr} {y:V} {o:Option V} (I:Inv X pins σ H s) (g:DGet H a y o):s.TypeIs (.ref a) "dict":=by
 rcases g with ⟨kvs,k,e,_,_⟩ | ⟨kvs,k,b,e,_,_,_⟩
 · obtain ⟨_,_,vs,_,dd⟩:=mf I.hok e
   exact dd.typeIs
 · obtain ⟨_,_,xs,_,dd⟩:=oj I.hok e
   exact dd.typeIs
def sDPut (td ty tv:TE):TS:=fun D σ H=>tv σ H fun v H1=>td σ H1 fun x H2=>ty σ H2 fun y H3=>∃ a H4,x=.ref a∧DPut H3 a y v H4∧D.nx σ H4
def rz:TE:=fun _ H Q=>∀ p,H p=none→Q (.ref p) (upd H p (.dK []))
end L2
namespace L2
open PySem PySem.Spec PyProof.Rows
section
variable {X:Cx}
theorem oS:CallR X (.builtin "len") (fun xs H Q=>∃ a kvs,xs=[V.ref a]∧H a=some (.dK kvs)∧Q (.int kvs.length) H):=by
 intro pins s σ H xs us Q I r h
 obtain ⟨a,kvs,rfl,ha,q⟩:=h
 obtain ⟨u,rfl,ru⟩:=cB r
 cases ru
 exact sg I (.inl ha) fun t s' I'=>⟨.int kvs.length,H,I',⟨t,rfl⟩,q⟩
end
end L2
namespace L2
open PySem PySem.Spec PyProof.Rows
theorem bH {α:Type} (x:Str):∀ (a b:List (Str × α)),(a++b).lookup x=match a.lookup x with | some c=>some c | none=>b.lookup x
 | [],b=>rfl
 | (k,v)::r,b=>by
  rw [List.cons_append,List.lookup_cons,List.lookup_cons]
  cases x==k with
  | true=>rfl
  | false=>exact bH x r b
theorem fX:∀ (names:List (Str × NameKind)) (n:Nat) (acc cl:List (Str × Addr)),cellsFrom n names (acc++cl)=cellsFrom n names acc++cl
 | [],_,_,_=>rfl
 | (y,k)::r,n,acc,cl=>by
  unfold cellsFrom
  split
  · rw [← List.cons_append]; exact fX r _ _ cl
  · exact fX r _ _ cl
theorem dH {x:Str} {c:Addr}:∀ (names:List (Str × NameKind)) (n:Nat) (acc:List (Str × Addr)),(x,c)∈cellsFrom n names acc→(x,NameKind.cell)∈names∨(x,c)∈acc
 | [],_,_,h=>.inr h
 | (y,k)::r,n,acc,h=>by
  unfold cellsFrom at h
  split at h
  · rename_i hk
    have hk:k=.cell:=by simpa using hk
    subst hk
    rcases dH r _ _ h with z | z
    · exact .inl (List.mem_cons_of_mem _ z)
    · rcases List.mem_cons.mp z with z | z
      · cases z; exact .inl List.mem_cons_self
      · exact .inr z
  · rcases dH r _ _ h with z | z
    · exact .inl (List.mem_cons_of_mem _ z)
    · exact .inr z
theorem ij {env:Env} (f:Str × NameKind→List (Str × Addr)→Sem (ForInStep (List (Str × Addr))))
  (hf:∀ name kind cs,f (name,kind) cs=if kind==.free then (do let a ← cellOf env name; pure (.yield ((name,a)::cs))) else pure (.yield cs)):
  ∀ (names:List (Str × NameKind)) (acc:List (Str × Addr)),(∀ x,(x,NameKind.free)∈names→∃ c,env.cells.lookup x=some c)→(∀ x c,acc.lookup x=some c→env.cells.lookup x=some c)→
   ∃ cl,forIn names acc f=(pure cl:Sem _)∧(∀ x c,cl.lookup x=some c→env.cells.lookup x=some c)∧(∀ x,((x,NameKind.free)∈names∨∃ c,acc.lookup x=some c)→∃ c,cl.lookup x=some c)
 | [],acc,_,h2=>⟨acc,rfl,h2,fun x h=>h.elim (fun z=>nomatch z) id⟩
 | (y,k)::r,acc,h1,h2=>by
  rw [List.forIn_cons,hf]
  by_cases hk:(k==NameKind.free)=true
  · rw [if_pos hk]
    have hk':k=.free:=by simpa using hk
    subst hk'
    obtain ⟨c,hc⟩:=h1 y List.mem_cons_self
    have e:(cellOf env y:Sem Addr)=pure c:=by unfold cellOf; rw [hc]
    rw [e]
    obtain ⟨cl,e1,e2,e3⟩:=ij f hf r ((y,c)::acc) (fun x hx=>h1 x (List.mem_cons_of_mem _ hx)) (fun x c' hx=>by
     rw [List.lookup_cons] at hx
     cases hb:x==y with
     | true=>rw [hb] at hx; cases hx; rw [beq_iff_eq.mp hb]; exact hc
     | false=>rw [hb] at hx; exact h2 x c' hx)
    refine ⟨cl,?_,e2,fun x hx=>e3 x ?_⟩
    · exact e1
    · rcases hx with hx | ⟨c',hx⟩
      · rcases List.mem_cons.mp hx with z | z
        · cases z; exact .inr ⟨c,by rw [List.lookup_cons]; simp⟩
        · exact .inl z
      · cases hb:x==y with
        | true=>exact .inr ⟨c,by rw [List.lookup_cons,hb]⟩
        | false=>exact .inr ⟨c',by rw [List.lookup_cons,hb]; exact hx⟩
  · rw [if_neg hk]
    obtain ⟨cl,e1,e2,e3⟩:=ij f hf r acc (fun x hx=>h1 x (List.mem_cons_of_mem _ hx)) h2
    refine ⟨cl,e1,e2,fun x hx=>e3 x ?_⟩
    rcases hx with hx | hx
    · rcases List.mem_cons.mp hx with z | z
      · cases z; exact absurd rfl hk
      · exact .inl z
    · exact .inr hx
theorem ol {scope:Scope} {env:Env} (h:∀ x,(x,NameKind.free)∈scope.names→∃ c,env.cells.lookup x=some c):
  ∃ cl,closureFor scope env=pure cl∧(∀ x c,cl.lookup x=some c→env.cells.lookup x=some c)∧∀ x,(x,NameKind.free)∈scope.names→∃ c,cl.lookup x=some c:=by
 obtain ⟨cl,e1,e2,e3⟩:=ij (env:=env) (fun x cs=>match x with | (name,kind)=>if kind==.free then (do let a ← cellOf env name; pure (.yield ((name,a)::cs))) else pure (.yield cs)) (fun _ _ _=>rfl) scope.names [] h (fun x c hx=>nomatch hx)
 refine ⟨cl,?_,e2,fun x hx=>e3 x (.inl hx)⟩
 have:closureFor scope env=(forIn scope.names [] (fun x cs=>match x with | (name,kind)=>if kind==.free then (do let a ← cellOf env name; pure (.yield ((name,a)::cs))) else pure (.yield cs)) >>= fun cs=>pure cs):=by
  simp only [closureFor]
 rw [this,e1]
 rfl
def oT (scope:Scope) (cl:List (Str × Addr)) (C:Addr) (env:Env):Env:=
 { newEnv scope C env.globals (cellsFrom (C+1) scope.names cl) env.qual none .none (some env) builtinsNs with scope:=relabel scope env }
theorem pR {M:Model} {A:Around} {E:Value→Shared→Prop} {s:Shared} {scope:Scope} {cl:List (Str × Addr)} {env:Env} {Q:Env→Shared→Prop}
  (hQ:Q (newEnv scope s.heap.objs.size env.globals (cellsFrom (s.heap.objs.size+1) scope.names cl) env.qual none .none (some env) builtinsNs) { s with heap:=pushCells (s.heap.push { cls:=.type "dict",data:=.dict #[] }) scope.names }):
  wpAny M A (newFunctionEnv scope env.globals cl [] env.qual none .none (some env)) Q E s:=by
 simp only [newFunctionEnv,Option.isSome_some,if_true]
 refine wpAny_bind (wpAny_alloc ?_)
 refine wpAny_bind (wpAny_layCells _ (fun name kind cells=>by cases hkc:kind==NameKind.cell <;> simp [hkc]) _ _ _ _ ?_)
 rw [show ({ s with heap:=s.heap.push { cls:=.type "dict",data:=.dict #[] } }:Shared).heap.objs.size=s.heap.objs.size+1 from Heap.size_push ..]
 refine wpAny_bind ?_
 rw [List.forIn_nil]
 exact wpAny_pure (wpAny_pure hQ)
section
variable {prog:Program} {w:World} {A:Around} {E:Value→Shared→Prop} {R:Result→Shared→Prop} {s:Shared}
theorem oU {elt target iter:Expr} {ifs:List Expr} {scope:Scope} {pos:Pos} {it acc:Value} {env:Env} (I:Nat→Shared→Prop)
  (turn:∀ n s,I n s→wpAny (model prog w) A (pyNext it) (fun r s₁=>match r with
   | none=>R (.ok .next) s₁
   | some v=>wpAny (model prog w) A (letOwnedTupleGo target it v) (fun _ s₁'=>wpAny (model prog w) A (assign target env v) (fun _ s₂=>
     wpAny (model prog w) A (forIn ifs true fun c r=>if r=true then do let ok ← isTrue c env (eval c env); pure (ForInStep.yield ok) else pure (ForInStep.yield r)) (fun ok s₃=>
      if ok=true then wpAny (model prog w) A (eval elt env) (fun x s₄=>
       wpAny (model prog w) A (call (.builtin "list.append") [acc,x]) (fun _ s₅=>∃ m,m < n∧I m s₅) (notedBy (model prog w) A env fun e s'=>R (.error e) s') s₄) (notedBy (model prog w) A env fun e s'=>R (.error e) s') s₃
      else ∃ m,m < n∧I m s₃) (notedBy (model prog w) A env fun e s'=>R (.error e) s') s₂) (notedBy (model prog w) A env fun e s'=>R (.error e) s') s₁') (notedBy (model prog w) A env fun e s'=>R (.error e) s') s₁) (notedBy (model prog w) A env fun e s'=>R (.error e) s') s)
  (n:Nat) (h:I n s):
  codeAny (model prog w) A (.compLoop (.ListComp elt [⟨target,iter,ifs,0⟩] scope pos) 0 it acc env) R s:=by
 refine codeAny_loop rfl I (fun n s hI=>?_) n h
 show wpAny _ A ((compTurn (.ListComp elt [⟨target,iter,ifs,0⟩] scope pos) 0 it acc env).onRaise (fun x=>do noteFrame x env; theTreesLotGoes x)) _ _ s
 refine wpAny_noted ?_
 rw [compTurn_list]
 refine wpAny_bind (wpAny_standAt (wpAny_bind (wpAny_mono (turn n s hI) (fun r s₁ h₁=>?_) fun _ _ h'=>h')))
 cases r with
 | none=>exact wpAny_pure h₁
 | some v=>
  refine wpAny_bind (wpAny_mono h₁ (fun _ s₁' h₁'=>?_) fun _ _ h'=>h')
  refine wpAny_bind (wpAny_mono h₁' (fun _ s₂ h₂=>wpAny_bind (wpAny_mono h₂ (fun ok s₃ h₃=>?_) fun _ _ h'=>h')) fun _ _ h'=>h')
  cases ok with
  | false=>exact wpAny_pure ⟨rfl,h₃⟩
  | true=>
   exact wpAny_bind (wpAny_bind (wpAny_mono h₃ (fun x s₄ h₄=>wpAny_bind (wpAny_mono h₄ (fun _ s₅ h₅=>wpAny_pure (wpAny_pure ⟨rfl,h₅⟩)) fun _ _ h'=>h')) fun _ _ h'=>h'))
end
end L2
namespace L2
open PySem PySem.Spec PyProof.Rows
theorem gz {scope:Scope} {env:Env} {x:Str} {k:NameKind} (h:(relabel scope env).names.lookup x=some k):∃ k',scope.names.lookup x=some k'∧(k=k'∨(k'=.free∧k=.cell)):=by
 unfold relabel at h
 dsimp only at h
 generalize scope.names=names at h ⊢
 induction names with
 | nil=>cases h
 | cons p r ih=>
  obtain ⟨n,k0⟩:=p
  rw [List.map_cons] at h
  rw [List.lookup_cons]
  cases hb:x==n with
  | true=>
   refine ⟨k0,rfl,?_⟩
   dsimp only at h
   split at h
   · rename_i hc
     rw [List.lookup_cons,hb] at h
     cases h
     simp only [Bool.and_eq_true,beq_iff_eq] at hc
     exact .inr ⟨hc.1.1,rfl⟩
   · rw [List.lookup_cons,hb] at h
     cases h
     exact .inl rfl
  | false=>
   dsimp only at h
   refine ih ?_
   split at h
   · rw [List.lookup_cons,hb] at h; exact h
   · rw [List.lookup_cons,hb] at h; exact h
def blkCx (X:Cx) (N:List Str) (scope:Scope) (cl:List (Str × Addr)) (s:Shared) (H:Hp) (fp:List Addr):Cx where
 prog:=X.prog
 w:=X.w
 K:=X.K
 mg:=X.mg
 base:=X.base
 A:=X.A
 N:=N
 s₀:=s
 H₀:=H
 env:=oT scope cl (s.heap.objs.size+1) X.env
 outer:=X.stack
 stack:=X.stack
 ex:=fp
 fn:=fun x=>scope.names.lookup x==some .cell
 calm:=X.calm
 pn:=[]
 xe:=fun e₀ s₁=>(∃ (pins:List (Addr × Obj)) (σ:St),Inv X pins σ H s∧∀ b∈fp,FpOk X pins H b)→notedBy (model X.prog X.w) X.A (oT scope cl (s.heap.objs.size+1) X.env) (fun x s'=>∃ m,s'.heap.Ns (s.heap.objs.size+1) m∧∀ h',Heap.SameBut (s.heap.objs.size+1) s'.heap h'→∀ cenv:Env,cenv.locals=s.heap.objs.size+1→
  wpAny (model X.prog X.w) X.A (passOn "comprehension.variables-let-go" x cenv:Sem Value) (fun _ _=>False) X.xe { s' with heap:=h' }) e₀ s₁
def subσ (ix:List (Option Nat)) (σ:St):St:=ix.map fun o=>match o with | none=>none | some i=>match σ[i]? with | some v=>v | none=>none
structure BlkOk (X:Cx) (N:List Str) (ix:List (Option Nat)) (scope:Scope):Prop where
 kind:scope.kind=.function
 nd:N.Nodup
 len:ix.length=N.length
 names:(scope.names.map (·.1)).Nodup
 free:∀ x,(x,NameKind.free)∈scope.names→X.env.kindOf x=some .cell∨X.env.kindOf x=some .free
 at_:∀ (j i:Nat) (x:Str),N[j]? =some x→ix[j]? =some (some i)→X.N[i]? =some x∧(x,NameKind.free)∈scope.names
theorem ck {α:Type}:∀ {l:List (Str × α)} {x:Str} {k:α},(l.map (·.1)).Nodup→(x,k)∈l→l.lookup x=some k
 | (y,k0)::r,x,k,nd,h=>by
  rw [List.map_cons,List.nodup_cons] at nd
  rw [List.lookup_cons]
  rcases List.mem_cons.mp h with e | e
  · cases e; simp
  · have:x≠y:=by
     rintro rfl
     exact nd.1 (List.mem_map.mpr ⟨(x,k),e,rfl⟩)
    have hb:(x==y)=false:=by simpa using this
    rw [hb]
    exact ck nd.2 e
theorem oV {X:Cx} {pins:List (Addr × Obj)} {σ:St} {H:Hp} {s:Shared} {N:List Str} {ix:List (Option Nat)} {scope:Scope} {cl:List (Str × Addr)} {fp:List Addr} (B:BlkOk X N ix scope)
  (I:Inv X pins σ H s) (hcl:∀ x c,cl.lookup x=some c→X.env.cells.lookup x=some c) (hcf:∀ x,(x,NameKind.free)∈scope.names→∃ c,cl.lookup x=some c)
  (hfp:∀ b∈fp,FpOk X pins H b) (hob:∀ b∈fp,∃ o,s.heap.get? b=some o∧∀ v,o.data≠.cell v):
  Inv (blkCx X N scope cl s H fp) [] (subσ ix σ) (upd H s.heap.objs.size (.lst []))
   { s with heap:=pushCells ((s.heap.push { cls:=.type "list",data:=.seq #[] }).push { cls:=.type "dict",data:=.dict #[] }) scope.names }:=by
 have hs2:(s.heap.push { cls:=.type "list",data:=.seq #[] }).objs.size=s.heap.objs.size+1:=Heap.size_push ..
 have hs3:((s.heap.push { cls:=.type "list",data:=.seq #[] }).push { cls:=.type "dict",data:=.dict #[] }).objs.size=s.heap.objs.size+2:=by rw [Heap.size_push,hs2]
 have hk:∀ b o,s.heap.get? b=some o→(pushCells ((s.heap.push { cls:=.type "list",data:=.seq #[] }).push { cls:=.type "dict",data:=.dict #[] }) scope.names).get? b=some o:=
  fun b o e=>pushCells_keeps _ _ b o (Heap.get?_push_of_some _ (Heap.get?_push_of_some _ e))
 have hl:(pushCells ((s.heap.push { cls:=.type "list",data:=.seq #[] }).push { cls:=.type "dict",data:=.dict #[] }) scope.names).get? s.heap.objs.size=some { cls:=.type "list",data:=.seq #[] }:=
  pushCells_keeps _ _ _ _ (Heap.get?_push_of_some _ (Heap.get?_push_size _ rfl))
 have ok0:=cellsFrom_ok scope.names ((s.heap.push { cls:=.type "list",data:=.seq #[] }).push { cls:=.type "dict",data:=.dict #[] }) (s.heap.objs.size+2) [] ⟨fun _ _ hm=>(nomatch hm),List.Pairwise.nil⟩ (by rw [hs3]; exact Nat.le_refl _)
 rw [hs3] at ok0
 have hcells:(blkCx X N scope cl s H fp).env.cells=cellsFrom (s.heap.objs.size+2) scope.names []++cl:=by
  show cellsFrom (s.heap.objs.size+1+1) scope.names cl=_
  rw [← List.nil_append cl,fX]
  simp
 have cases_:∀ x c,(blkCx X N scope cl s H fp).env.cells.lookup x=some c→((x,c)∈cellsFrom (s.heap.objs.size+2) scope.names []∧(x,NameKind.cell)∈scope.names)∨((cellsFrom (s.heap.objs.size+2) scope.names []).lookup x=none∧cl.lookup x=some c):=fun x c e=>by
  rw [hcells,bH] at e
  cases q:(cellsFrom (s.heap.objs.size+2) scope.names []).lookup x with
  | none=>rw [q] at e; exact .inr ⟨rfl,e⟩
  | some c'=>
   rw [q] at e
   cases e
   have m:=PySem.mem_of_lookup q
   refine .inl ⟨m,?_⟩
   rcases dH _ _ _ m with z | z
   · exact z
   · exact nomatch z
 have oldc:∀ x c,cl.lookup x=some c→c < s.heap.objs.size:=fun x c e=>by
  obtain ⟨v,q⟩:=I.cell x c (hcl x c e)
  exact q.lt
 have hfree:H s.heap.objs.size=none:=I.hok.fresh (Nat.le_refl _)
 have hfix:∀ b,s.heap.objs.size < b→(upd H s.heap.objs.size (.lst [])) b=none:=fun b hb=>by
  rw [ah (Nat.ne_of_gt hb)]
  exact I.hok.fresh (Nat.le_of_lt hb)
 have hlt:∀ b∈fp,b < s.heap.objs.size:=fun b hb=>by
  obtain ⟨o,e,_⟩:=hob b hb
  exact Heap.lt_size e
 have e0:=I.env0
 have isnew:∀ x c,(x,c)∈cellsFrom (s.heap.objs.size+2) scope.names []→s.heap.objs.size+2≤c:=fun x c m=>(ok0.empty x c m).2
 refine ⟨⟨I.ok.mod,B.kind,I.ok.glob,I.ok.blt,Nat.le_succ _,fun x y c e1 e2=>?_,fun x hx=>?_,fun x c hx e=>?_,I.ok.hd,I.ok.frames,.inl rfl,fun b hb=>⟨?_,fun x c e=>?_⟩,e0.bs,e0.bsz,fun b o e hb=>?_,fun b hb hb2=>?_,e0.funs,e0.frf⟩,
  rfl,I.bare,Un.laid hk (Nat.le_refl _) hfree,⟨fun _=>none,?_,fun j x v e1 e2 e3=>?_⟩,fun x c e=>?_,hfix _ (Nat.lt_succ_self _),fun x c e=>?_,fun p hp=>absurd (show p∈([]:List (Addr × Obj)) from hp) (by simp),?_,?_⟩
 · rcases cases_ x c e1 with ⟨m1,k1⟩ | ⟨n1,q1⟩ <;> rcases cases_ y c e2 with ⟨m2,k2⟩ | ⟨n2,q2⟩
   · exact name_of_addr ok0.apart m1 m2
   · exact absurd (Nat.lt_of_lt_of_le (oldc _ _ q2) (Nat.le_trans (Nat.le_add_right _ _) (isnew _ _ m1))) (Nat.lt_irrefl _)
   · exact absurd (Nat.lt_of_lt_of_le (oldc _ _ q1) (Nat.le_trans (Nat.le_add_right _ _) (isnew _ _ m2))) (Nat.lt_irrefl _)
   · exact I.ok.inj x y c (hcl _ _ q1) (hcl _ _ q2)
 · have hx':(relabel scope X.env).names.lookup x=some .cell∨(relabel scope X.env).names.lookup x=some .free:=hx
   have key:scope.names.lookup x=some .cell∨scope.names.lookup x=some .free:=by
    rcases hx' with z | z
    · obtain ⟨k',e,r | r⟩:=gz z
      · rw [← r] at e; exact .inl e
      · rw [r.1] at e; exact .inr e
    · obtain ⟨k',e,r | r⟩:=gz z
      · rw [← r] at e; exact .inr e
      · cases r.2
   rw [hcells]
   rcases key with z | z
   · obtain ⟨c,q⟩:=ii (n:=s.heap.objs.size+2) z
     exact ⟨c,by rw [bH,q]⟩
   · obtain ⟨c,q⟩:=hcf x (PySem.mem_of_lookup z)
     cases q2:(cellsFrom (s.heap.objs.size+2) scope.names []).lookup x with
     | none=>exact ⟨c,by rw [bH,q2]; exact q⟩
     | some c'=>exact ⟨c',by rw [bH,q2]⟩
 · have hx':scope.names.lookup x=some .cell:=by simpa [blkCx] using hx
   rcases cases_ x c e with ⟨m1,k1⟩ | ⟨n1,q1⟩
   · exact Nat.le_trans (Nat.le_add_right _ _) (isnew _ _ m1)
   · obtain ⟨c',q⟩:=ii (n:=s.heap.objs.size+2) hx'
     rw [q] at n1; cases n1
 · exact Nat.ne_of_lt (Nat.lt_succ_of_lt (hlt b hb))
 · rcases cases_ x c e with ⟨m1,k1⟩ | ⟨n1,q1⟩
   · exact Nat.ne_of_gt (Nat.lt_of_lt_of_le (hlt b hb) (Nat.le_trans (Nat.le_add_right _ _) (isnew _ _ m1)))
   · exact (hfp b hb).2.2.2.2.1 x c (hcl _ _ q1)
 · rcases (hfp b hb).2.2.2.1 with z | z
   · exact I.ok.noex b o e z
   · exact absurd (Nat.lt_of_lt_of_le (Heap.lt_size e) (Nat.le_trans I.ok.bsz z)) (Nat.lt_irrefl _)
 · rcases List.mem_cons.mp (I.stkSub b hb2) with z | z
   · exact (hfp b hb).2.1 z
   · exact (hfp b hb).2.2.1 z
 · show Heap.Ns _ (s.heap.objs.size+1) _
   rw [← hs2]
   exact (Heap.Ns.new _ (.type "dict")).keeps (pushCells_keeps _ _)
 ·
   unfold subσ at e2
   rw [List.getElem?_map] at e2
   cases q:ix[j]? with
   | none=>rw [q] at e2; cases e2
   | some o=>
    rw [q] at e2
    cases o with
    | none=>cases e2
    | some i=>
     simp only [Option.map_some,Option.some.injEq] at e2
     obtain ⟨hN,hm⟩:=B.at_ j i x e1 q
     have hσ:σ[i]? =some (some v):=by
      cases q2:σ[i]? with
      | none=>rw [q2] at e2; cases e2
      | some z=>rw [q2] at e2; exact congrArg some e2
     obtain ⟨m,hn,hl'⟩:=I.loc
     have hkind:=B.free x hm
     have hvis:Vis X.env.scope x:=hkind.elim (fun z=>.inr (.inl z)) fun z=>.inr (.inr z)
     obtain ⟨u,ru,lk⟩:=hl' i x v hN hσ hvis
     refine ⟨u,ru,?_⟩
     obtain ⟨c,hc⟩:=hcf x hm
     have hnone:(cellsFrom (s.heap.objs.size+2) scope.names []).lookup x=none:=by
      cases q2:(cellsFrom (s.heap.objs.size+2) scope.names []).lookup x with
      | none=>rfl
      | some c'=>
       rcases dH _ _ _ (PySem.mem_of_lookup q2) with z | z
       · have a1:=ck B.names z
         have a2:=ck B.names hm
         rw [a1] at a2; cases a2
       · exact nomatch z
     have hcell:(blkCx X N scope cl s H fp).env.cells.lookup x=some c:=by rw [hcells,bH,hnone]; exact hc
     have hkk:(blkCx X N scope cl s H fp).env.kindOf x=some .cell∨(blkCx X N scope cl s H fp).env.kindOf x=some .free:=by
      rcases e3 with z | z | z
      · obtain ⟨k',e,r | r⟩:=gz (show (relabel scope X.env).names.lookup x=some .local from z)
        · rw [ck B.names hm] at e; cases e; cases r
        · cases r.2
      · exact .inl z
      · exact .inr z
     refine .inr ⟨hkk,c,hcell,?_⟩
     rcases lk with ⟨k1,_⟩ | ⟨_,c2,e4,z⟩
     · rcases hkind with z | z <;> rw [k1] at z <;> cases z
     · rw [hcl x c hc] at e4; cases e4
       exact z.keeps hk
 · rcases cases_ x c e with ⟨m1,k1⟩ | ⟨n1,q1⟩
   · exact ⟨none,(ok0.empty x c m1).1⟩
   · obtain ⟨v,z⟩:=I.cell x c (hcl _ _ q1)
     exact ⟨v,z.keeps hk⟩
 · rcases cases_ x c e with ⟨m1,k1⟩ | ⟨n1,q1⟩
   · exact hfix c (Nat.lt_of_lt_of_le (Nat.lt_add_of_pos_right (by decide)) (isnew _ _ m1))
   · rw [ah (Nat.ne_of_lt (oldc _ _ q1))]
     exact I.freeC x c (hcl _ _ q1)
 · exact I.hok.laid hk (Nat.le_refl _) ⟨Nat.zero_le _,[],0,.nil,hl⟩
 · show (subσ ix σ).length=N.length
   unfold subσ
   rw [List.length_map]
   exact B.len
end L2
namespace L2
open PySem PySem.Spec PyProof.Rows
def PTs (X:Cx) (ifs:List Expr) (t:TT):Prop:=
 ∀ (pins:List (Addr × Obj)) (s:Shared) (σ:St) (H:Hp) (Q:Bool→Hp→Prop),Inv X pins σ H s→t σ H Q→
  wpAny (model X.prog X.w) X.A (forIn ifs true fun c r=>if r=true then do let ok ← isTrue c X.env (eval c X.env); pure (ForInStep.yield ok) else pure (ForInStep.yield r)) (TP X pins σ Q) X.xe s
def tTrue:TT:=fun _ H Q=>Q true H
theorem bO {X:Cx}:PTs X [] tTrue:=fun _ _ _ H _ I h=>wpAny_tests_nil ⟨H,I,h⟩
def my (ix:List (Option Nat)) (wi:TI) (g:TG) (tt:TT) (te:TE) (fin:Addr→Hp→Prop):St→Hp→Prop:=fun σ H=>wi σ H fun J H1=>∀ l,H1 l=none→
 ∃ W:Nat→Nat→St→Hp→Prop,(∃ m,W 0 m (subσ ix σ) (upd H1 l (.lst [])))∧∀ i m σ' H',W i m σ' H'→
  (J.stop i H'∧fin l H')∨(J.go i H'∧∃ N:St→Hp→Prop,(∀ σ'' H'',N σ'' H''→∃ m',m' < m∧W (i+1) m' σ'' H'')∧∀ x H2,J.yld i H' x H2→g x σ' H2 fun σ2 H3=>tt σ2 H3 fun b H4=>
   if b=true then te σ2 H4 fun y H5=>∃ ys,H5 l=some (.lst ys)∧ys.length < sizeLine∧N σ2 (upd H5 l (.lst (ys++[y]))) else N σ2 H4)
section
variable {X:Cx} {pins:List (Addr × Obj)} {σ σ':St} {H H':Hp} {s s':Shared} {N:List Str} {scope:Scope} {cl:List (Str × Addr)} {fp:List Addr}
theorem nM {h':Heap} (I:Inv X pins σ H s) (J:Inv (blkCx X N scope cl s H fp) [] σ' H' s') (hfp:∀ b∈fp,FpOk X pins H b) (sb:Heap.SameBut (s.heap.objs.size+1) s'.heap h'):Inv X pins σ H' { s' with heap:=h' }:=by
 have u:Un (frs X.stack) fp H H' s.heap s'.heap:=J.base
 have hC:H' (s.heap.objs.size+1)=none:=J.free
 have ne:∀ b o,s.heap.get? b=some o→b≠s.heap.objs.size+1:=fun b o e=>Nat.ne_of_lt (Nat.lt_succ_of_lt (Heap.lt_size e))
 refine I.call' (s':={ s' with heap:=h' }) (ch:=fp) J.os ⟨fun b o e n hb hx=>?_,fun b o e n hb hx=>?_,u.free,fun b o e hx=>?_,u.tups,u.frzs,u.tbls⟩ (fun b ob e=>?_) J.bare fun b hb=>?_
 · exact (sb.2 b (ne b o e)).trans (u.keep b o e n hb hx)
 · obtain ⟨sl,q⟩:=u.slot b o e n hb hx
   exact ⟨sl,(sb.2 b (ne b o e)).trans q⟩
 · obtain ⟨o',q⟩:=u.there b o e hx
   exact ⟨o',(sb.2 b (ne b o e)).trans q⟩
 · refine (J.hok b ob e).stay (fun c w' hc q=>(sb.2 c ?_).trans q) (fun _ q=>q) fun _ _ q=>q
   rintro rfl
   rcases hc with rfl | hc
   · rw [hC] at e; cases e
   · rw [hC] at hc; cases hc
 · obtain ⟨f0,f1,f2,f3,f4,f5⟩:=hfp b hb
   exact ⟨f3,f1,f4,f5⟩
theorem mB {tg iter elt:Expr} {ifs:List Expr} {pos:Pos} {ix:List (Option Nat)} {wi:TI} {g:TG} {tt:TT} {te:TE} {fin:Addr→Hp→Prop} {RR:Value→Addr→Result→Shared→Prop} (B:BlkOk X N ix scope) (hc:X.calm=true)
  (hi:PI X tg iter wi) (hg:∀ cl s H fp,PG (blkCx X N scope cl s H fp) tg g) (ht:∀ cl s H fp,PTs (blkCx X N scope cl s H fp) ifs tt) (he:∀ cl s H fp,PE (blkCx X N scope cl s H fp) elt te)
  (hcl:∀ x c,cl.lookup x=some c→X.env.cells.lookup x=some c) (hcf:∀ x,(x,NameKind.free)∈scope.names→∃ c,cl.lookup x=some c)
  (I:Inv X pins σ H s) (h:my ix wi g tt te fin σ H)
  (ok:∀ (s2:Shared) (H2:Hp) (fp:List Addr) (σ3:St) (H3:Hp) (s3:Shared),Inv X pins σ H2 s2→(∀ b∈fp,FpOk X pins H2 b)→Inv (blkCx X N scope cl s2 H2 fp) [] σ3 H3 s3→fin s2.heap.objs.size H3→RR (.ref s2.heap.objs.size) (s2.heap.objs.size+1) (.ok .next) s3)
  (bad:∀ (a C:Addr) (x:Value) (s':Shared),(∃ m,s'.heap.Ns C m∧∀ h',Heap.SameBut C s'.heap h'→∀ cenv:Env,cenv.locals=C→wpAny (model X.prog X.w) X.A (passOn "comprehension.variables-let-go" x cenv:Sem Value) (fun _ _=>False) X.xe { s' with heap:=h' })→RR (.ref a) C (.error x) s'):
  wpAny (model X.prog X.w) X.A (eval iter X.env) (fun x s₁=>wpAny (model X.prog X.w) X.A (pyIter x) (fun it s₂=>wpAny (model X.prog X.w) X.A (newList []) (fun acc s₃=>
   wpAny (model X.prog X.w) X.A (newFunctionEnv scope X.env.globals cl [] X.env.qual none .none (some X.env)) (fun cenv s₄=>
    codeAny (model X.prog X.w) X.A (.compStart (.ListComp elt [⟨tg,iter,ifs,0⟩] scope pos) 0 it acc { cenv with scope:=relabel scope X.env }) (RR acc cenv.locals) s₄) X.xe s₃) X.xe s₂) X.xe s₁) X.xe s:=by
 refine thn (hi pins s σ H _ I h) fun v s1 h1=>thn h1 fun itv s2 h2=>?_
 obtain ⟨it,fp,tn,J,H2,e,I2,T,st2,f2,h2⟩:=h2
 subst e
 refine wpAny_newList (pR ?_) (Nat.zero_le _)
 have hs2:(s2.heap.push { cls:=.type "list",data:=.seq (([]:List Value)).toArray }).objs.size=s2.heap.objs.size+1:=Heap.size_push ..
 dsimp only
 rw [hs2]
 have I3:=oV (fp:=fp) B I2 hcl hcf f2 (T.obj _ _ st2)
 obtain ⟨W,⟨m0,w0⟩,turn⟩:=h2 s2.heap.objs.size I2.fresh
 have hk:∀ b o,s2.heap.get? b=some o→(pushCells ((s2.heap.push { cls:=.type "list",data:=.seq #[] }).push { cls:=.type "dict",data:=.dict #[] }) scope.names).get? b=some o:=
  fun b o e=>pushCells_keeps _ _ b o (Heap.get?_push_of_some _ (Heap.get?_push_of_some _ e))
 have st3:=T.keep _ _ _ st2 fun b _ o e=>hk b o e
 have fr3:∀ b∈fp,(upd H2 s2.heap.objs.size (.lst [])) b=none:=fun b hb=>by
  obtain ⟨o,e,_⟩:=T.obj _ _ st2 b hb
  rw [ah (Nat.ne_of_lt (Heap.lt_size e))]
  exact (f2 b hb).1
 have stat:∀ {σ5:St} {H5:Hp} {s5:Shared},Inv (blkCx X N scope cl s2 H2 fp) [] σ5 H5 s5→(∀ b∈fp,H5 b=none)→∀ b∈fp,FpOk (blkCx X N scope cl s2 H2 fp) [] H5 b:=fun I5 hn b hb=>
  ⟨hn b hb,(I5.ok.exf b hb).1,I5.ok.exfs b hb,.inl hb,(I5.ok.exf b hb).2,fun p hp=>absurd (show p∈([]:List (Addr × Obj)) from hp) (by simp)⟩
 have loop:∀ s₃:Shared,s₃={ s2 with heap:=pushCells ((s2.heap.push { cls:=.type "list",data:=.seq #[] }).push { cls:=.type "dict",data:=.dict #[] }) scope.names }→
   codeAny (model X.prog X.w) X.A (.compLoop (.ListComp elt [⟨tg,iter,ifs,0⟩] scope pos) 0 (.ref it) (.ref s2.heap.objs.size) (blkCx X N scope cl s2 H2 fp).env) (RR (.ref s2.heap.objs.size) (s2.heap.objs.size+1)) s₃:=by
  rintro s₃ rfl
  refine oU (fun n s'=>∃ i σ' H',Inv (blkCx X N scope cl s2 H2 fp) [] σ' H' s'∧tn i s'.heap∧(∀ b∈fp,H' b=none)∧W i n σ' H') ?_ m0 ⟨0,_,_,I3,st3,fr3,w0⟩
  rintro n s4 ⟨i,σ4,H4,I4,st4,fr4,w4⟩
  have xe_:∀ x s',(blkCx X N scope cl s2 H2 fp).xe x s'→notedBy (model X.prog X.w) X.A (blkCx X N scope cl s2 H2 fp).env (fun e s'=>RR (.ref s2.heap.objs.size) (s2.heap.objs.size+1) (.error e) s') x s':=fun x s' hx=>
   wpAny_mono (hx ⟨pins,σ,I2,f2⟩) (fun _ s'' q=>bad _ _ _ _ q) fun e s'' q=>bad _ _ _ _ q
  rcases turn i n σ4 H4 w4 with ⟨stop,qn⟩ | ⟨go,Nx,hN,step⟩
  · refine wpAny_mono (T.done (blkCx X N scope cl s2 H2 fp) rfl rfl rfl hc i [] s4 σ4 H4 _ I4 (stat I4 fr4) st4 stop) (fun r s5 ⟨hr,I5⟩=>?_) xe_
    subst hr
    exact ok s2 H2 fp σ4 H4 s5 I2 f2 I5 qn
  · refine wpAny_mono (T.item (blkCx X N scope cl s2 H2 fp) rfl rfl rfl hc i [] s4 σ4 H4 _ I4 (stat I4 fr4) st4 go) (fun r s5 ⟨u,hr,h5⟩=>?_) xe_
    subst hr
    refine wpAny_mono h5 (fun _ s6 ⟨x,H6,I6,r6,y6,st6,fr6⟩=>?_) xe_
    have I6':=I6.pinned (stat I6 fr6) (T.obj _ _ st6)
    refine wpAny_mono (hg cl s2 H2 fp _ s6 σ4 H6 x u _ I6' r6 (step x H6 y6)) (fun _ s7 ⟨σ7,H7,I7,q7⟩=>?_) xe_
    have again:∀ {σ8:St} {H8:Hp} {s8:Shared},Inv (blkCx X N scope cl s2 H2 fp) ([]++iC fp s6.heap) σ8 H8 s8→Nx σ8 H8→∃ m,m < n∧∃ i σ' H',Inv (blkCx X N scope cl s2 H2 fp) [] σ' H' s8∧tn i s8.heap∧(∀ b∈fp,H' b=none)∧W i m σ' H':=fun {σ8 H8 s8} I8 n8=>by
     obtain ⟨m',hm,w8⟩:=hN σ8 H8 n8
     refine ⟨m',hm,i+1,σ8,H8,I8.unpinned,T.keep _ _ _ st6 fun b hb o e=>(I8.pin (b,o) (List.mem_append_right _ (List.mem_append_right _ (gk hb e)))).1,fun b hb=>?_,w8⟩
     obtain ⟨o,e,d⟩:=T.obj _ _ st6 b hb
     exact (I8.pin (b,o) (List.mem_append_right _ (List.mem_append_right _ (gk hb e)))).2.1
    refine wpAny_mono (ht cl s2 H2 fp _ s7 σ7 H7 _ I7 q7) (fun okb s8 ⟨H8,I8,q8⟩=>?_) xe_
    cases okb with
    | false=>exact again I8 q8
    | true=>
     refine wpAny_mono (he cl s2 H2 fp _ s8 σ7 H8 _ I8 q8) (fun y s9 ⟨yv,H9,I9,r9,ys,hl,hz,q9⟩=>?_) xe_
     refine wpAny_mono (lE (X:=blkCx X N scope cl s2 H2 fp) _ s9 σ7 H9 (.ref s2.heap.objs.size) [yv] (.ref s2.heap.objs.size) [y] (fun _ H10=>Nx σ7 H10) I9 rfl (.cons r9 .nil) ⟨_,ys,yv,rfl,rfl,hl,hz,q9⟩) (fun _ s10 ⟨_,H10,I10,_,q10⟩=>?_) xe_
     exact again I10 q10
 exact codeAny_compStart_list (loop _ rfl) (T.self _ 0 _ _ _ st3 (loop _ rfl))
def tComp (ix:List (Option Nat)) (wi:TI) (g:TG) (tt:TT) (te:TE):TE:=fun σ H Q=>my ix wi g tt te (fun l H'=>Q (.ref l) H') σ H
def sComp (k:Nat) (ix:List (Option Nat)) (wi:TI) (g:TG) (tt:TT) (te:TE):TS:=fun D σ H=>my ix wi g tt te (fun l H'=>D.nx (σ.set k (some (.ref l))) H') σ H
theorem nN (I:Inv X pins σ H s) {ix:List (Option Nat)} (B:BlkOk X N ix scope):∃ cl,closureFor scope X.env=pure cl∧(∀ x c,cl.lookup x=some c→X.env.cells.lookup x=some c)∧∀ x,(x,NameKind.free)∈scope.names→∃ c,cl.lookup x=some c:=
 ol fun x hx=>I.ok.has x (B.free x hx)
theorem jq {ix:List (Option Nat)} (B:BlkOk X N ix scope):∀ x∈scope.names,x.2=NameKind.local→scope.names.lookup x.1=some .local:=fun x hx e=>by
 obtain ⟨n,k⟩:=x
 cases e
 exact ck B.names hx
theorem cZ {tg iter elt:Expr} {ifs:List Expr} {pos:Pos} {ix:List (Option Nat)} {wi:TI} {g:TG} {tt:TT} {te:TE} (N:List Str) (B:BlkOk X N ix scope) (hc:X.calm=true)
  (hi:PI X tg iter wi) (hg:∀ cl s H fp,PG (blkCx X N scope cl s H fp) tg g) (ht:∀ cl s H fp,PTs (blkCx X N scope cl s H fp) ifs tt) (he:∀ cl s H fp,PE (blkCx X N scope cl s H fp) elt te)
  (hs:∀ x,foldedSetIterable iter X.env x=pure x:=by intro _; rfl):PE X (.ListComp elt [⟨tg,iter,ifs,0⟩] scope pos) (tComp ix wi g tt te):=by
 intro pins s σ H Q I h
 obtain ⟨cl,e1,e2,e3⟩:=nN I B
 rw [eval_ListComp]
 refine wpAny_comprehension_free (use:=none) rfl hs e1 B.kind (jq B) ?_
 refine mB (RR:=fun acc C=>compPost (model X.prog X.w) X.A X.xe none (EP X pins σ Q) acc C) B hc hi hg ht he e2 e3 I h (fun s2 H2 fp σ3 H3 s3 I2 f2 J q=>?_) (fun a C x s' q=>q)
 obtain ⟨m,hn,_⟩:=J.loc
 exact ⟨m,hn,fun h' sb=>⟨.ref _,H3,nM I2 J f2 sb,rfl,q⟩⟩
theorem kU {y:Str} {py spos:Pos} {k:Nat} {tg iter elt:Expr} {ifs:List Expr} {pos:Pos} {ix:List (Option Nat)} {wi:TI} {g:TG} {tt:TT} {te:TE} (hN:X.N.Nodup) (hy:X.N[k]? =some y) (hx:Loc X.env.scope y)
  (hsw:swapsWith (.ListComp elt [⟨tg,iter,ifs,0⟩] scope pos) (some (.Name y py)) spos.line X.env=pure true) (N:List Str) (B:BlkOk X N ix scope) (hc:X.calm=true)
  (hi:PI X tg iter wi) (hg:∀ cl s H fp,PG (blkCx X N scope cl s H fp) tg g) (ht:∀ cl s H fp,PTs (blkCx X N scope cl s H fp) ifs tt) (he:∀ cl s H fp,PE (blkCx X N scope cl s H fp) elt te)
  (hs:∀ x,foldedSetIterable iter X.env x=pure x:=by intro _; rfl) (hf:X.fn y=true∨X.env.scope.names.lookup y=some .local:=by first | exact .inl rfl | exact .inr rfl | assumption):
  PS X (.Assign [.Name y py] (.ListComp elt [⟨tg,iter,ifs,0⟩] scope pos) spos) (sComp k ix wi g tt te):=by
 intro pins s σ H D I h
 obtain ⟨cl,e1,e2,e3⟩:=nN I B
 rw [exec_Assign_Name_used _ _ _ _ hsw]
 refine wpAny_bind (wpAny_standAt (wpAny_bind ?_))
 show wpAny _ X.A (do let _ ← comprehension (.ListComp elt [⟨tg,iter,ifs,0⟩] scope pos) scope X.env _ (newList []) false (eval iter X.env) (some (assign (.Name y py) X.env))) _ _ s
 refine wpAny_bind (wpAny_mono (wpAny_comprehension_free (use:=some (assign (.Name y py) X.env)) (Q:=fun _ s'=>SP X pins D .next s') rfl hs e1 B.kind (jq B) ?_) (fun _ s' hq=>wpAny_pure (wpAny_pure hq)) fun _ _ e=>e)
 refine mB (RR:=fun acc C=>compPost (model X.prog X.w) X.A X.xe (some (assign (.Name y py) X.env)) (fun _ s'=>SP X pins D .next s') acc C) B hc hi hg ht he e2 e3 I h (fun s2 H2 fp σ3 H3 s3 I2 f2 J q=>?_) (fun a C x s' q=>q)
 obtain ⟨m,hn,_⟩:=J.loc
 have I3:Inv X pins σ H3 { s3 with heap:=s3.heap }:=nM I2 J f2 (Heap.SameBut.refl _ _)
 show wpAny _ X.A (assign (.Name y py) X.env (.ref _)) _ _ _
 refine wpAny_assign_Name (lu (v:=.ref _) I3 hN hy hx rfl (fun s4 I4 ⟨a,sb4,ha⟩=>?_) hf)
 have hlt:a < s2.heap.objs.size:=by
  rcases ha with rfl | ha
  · exact I2.lt
  · obtain ⟨v,z⟩:=I2.cell _ _ ha
    exact z.lt
 have hCa:s2.heap.objs.size+1≠a:=Nat.ne_of_gt (Nat.lt_succ_of_lt hlt)
 refine ⟨m,hn.sameBut sb4 hCa,fun h' sb=>?_⟩
 refine ⟨_,H3,I4.turned (t':=s4.toks) (it:=s2.heap.objs.size+1) (fun b o hb e=>(sb.2 b hb).trans e) J.free (Nat.ne_of_gt (Nat.lt_succ_of_lt I2.lt)) (.inr (Nat.le_trans I2.sz (Nat.le_succ _))) (fun x c e=>?_) (fun p hp=>?_),q⟩
 · obtain ⟨v,z⟩:=I2.cell x c e
   exact Nat.ne_of_lt (Nat.lt_succ_of_lt z.lt)
 · exact Nat.ne_of_lt (Nat.lt_succ_of_lt (Heap.lt_size (I2.pin p hp).1))
end
end L2
namespace L2
open PySem PySem.Spec PyProof.Rows
def bnd {α:Type}:Option α→(α→Prop)→Prop
 | some a,k=>k a
 | none,_=>False
theorem aU {α:Type} {o:Option α} {a:α} {k:α→Prop} (h:o=some a) (q:k a):bnd o k:=by subst h; exact q
theorem aN {α:Type} {o:Option α} {k:α→Prop} (h:bnd o k):∃ a,o=some a∧k a:=by
 cases o with
 | none=>exact h.elim
 | some a=>exact ⟨a,rfl,h⟩
theorem bK {α:Type} {a:α} {k:α→Prop}:bnd (some a) k=k a:=rfl
def unM:Option HO→Option (List V)
 | some (.lst xs)=>some xs
 | _=>none
def unL:Option HO→Option (List V)
 | some (.lst xs)=>some xs
 | some (.frz _ (.lst xs))=>some xs
 | _=>none
def unS:Option HO→Option (List V)
 | some (.lst xs)=>some xs
 | some (.frz _ (.lst xs))=>some xs
 | some (.tup xs)=>some xs
 | _=>none
theorem dl {o:Option HO} {xs:List V} (h:unM o=some xs):o=some (.lst xs):=by
 unfold unM at h; split at h
 · cases h; rfl
 · cases h
theorem mC {K:PySem.W.Frag} {H:Hp} {p:Addr} {xs:List V} (h:unL (H p)=some xs):SqL K H p xs:=by
 unfold unL at h; split at h
 · rename_i e; cases h; exact .inl (.inl e)
 · rename_i o _ e; cases h; exact .inl (.inr ⟨_,e⟩)
 · cases h
theorem iI {K:PySem.W.Frag} {H:Hp} {p:Addr} {xs:List V} (h:unS (H p)=some xs):SqL K H p xs∨SqT K H p xs:=by
 unfold unS at h; split at h
 · rename_i e; cases h; exact .inl (.inl (.inl e))
 · rename_i o _ e; cases h; exact .inl (.inl (.inr ⟨_,e⟩))
 · rename_i e; cases h; exact .inr (.inl (.inl e))
 · cases h
mutual
inductive DV (K:PySem.W.Frag) (H:Hp):V→PyData→Prop
 | non:DV K H .non .none
 | bl (b:Bool):DV K H (.bl b) (.bool b)
 | int (i:Int):DV K H (.int i) (.int i)
 | str (x:Str):DV K H (.str x) (.str x)
 | lst {a:Addr} {xs:List V} {ds:List PyData}:SqL K H a xs→DVs K H xs ds→DV K H (.ref a) (.list ds)
 | tup {a:Addr} {xs:List V} {ds:List PyData}:SqT K H a xs→DVs K H xs ds→DV K H (.ref a) (.tuple ds)
inductive DVs (K:PySem.W.Frag) (H:Hp):List V→List PyData→Prop
 | nil:DVs K H [] []
 | cons {x:V} {d:PyData} {xs:List V} {ds:List PyData}:DV K H x d→DVs K H xs ds→DVs K H (x::xs) (d::ds)
end
section
variable {X:Cx} {pins:List (Addr × Obj)} {σ:St} {H:Hp} {s:Shared}
mutual
theorem DV.reads (I:Inv X pins σ H s):∀ {x:V} {d:PyData} {v:Value},DV X.K H x d→RelV x v→∃ as,Reads s.heap v d as
 | _,_,_,.non,r=>by cases r; exact ⟨_,.none⟩
 | _,_,_,.bl b,r=>by cases r; exact ⟨_,.bool b⟩
 | _,_,_,.int i,r=>by obtain ⟨t,rfl⟩:=r; exact ⟨_,.int i t⟩
 | _,_,_,.str x,r=>by obtain ⟨t,rfl⟩:=r; exact ⟨_,.str x t⟩
 | _,_,_,.lst (a:=a) h hs,r=>by
  cases r
  obtain ⟨its,rv,p,_⟩:=I.list h
  obtain ⟨as,q⟩:=DVs.reads I hs rv
  obtain ⟨o,h1,h2,n,h3⟩:=p.isList
  exact ⟨_,.list h1 h2 h3 q⟩
 | _,_,_,.tup (a:=a) h hs,r=>by
  cases r
  obtain ⟨its,rv,p,_⟩:=I.tuple h
  obtain ⟨as,q⟩:=DVs.reads I hs rv
  obtain ⟨o,h1,h2,n,h3⟩:=p
  exact ⟨_,.tuple h1 h2 h3 q⟩
theorem DVs.reads (I:Inv X pins σ H s):∀ {xs:List V} {ds:List PyData} {us:List Value},DVs X.K H xs ds→Vals xs us→∃ as,ReadsAll s.heap us ds as
 | _,_,_,.nil,.nil=>⟨_,.nil⟩
 | _,_,_,.cons h hs,.cons r rs=>by
  obtain ⟨as,q⟩:=DV.reads I h r
  obtain ⟨bs,q2⟩:=DVs.reads I hs rs
  exact ⟨_,.cons q q2⟩
end
end
theorem DVs.ints {K:PySem.W.Frag} {H:Hp}:∀ ns:List Int,DVs K H (ns.map V.int) (ns.map PyData.int)
 | []=>.nil
 | n::r=>.cons (.int n) (DVs.ints r)
theorem mD:∀ ns ms:List Int,PyData.eqvAll (ns.map PyData.int) (ms.map PyData.int)=decide (ns=ms):=PySem.W.ked_eqvAll
theorem jx:∀ ns:List Int,PyData.canLayAll0 (ns.map PyData.int)=true
 | []=>rfl
 | n::r=>by rw [List.map_cons,PyData.canLayAll0,jx r]; rfl
theorem ik:∀ ns:List Int,PyData.depthAll (ns.map PyData.int)=0
 | []=>rfl
 | n::r=>by rw [List.map_cons,PyData.depthAll,ik r]; rfl
theorem jr (ns:List Int):SeqAt.shaped (.list (ns.map PyData.int))=true:=by
 simp [SeqAt.shaped,PyData.canLay0,jx,PyData.depth,ik]
theorem iJ (ns:List Int):SeqAt.shaped (.tuple (ns.map PyData.int))=true:=by
 simp [SeqAt.shaped,PyData.canLay0,jx,PyData.depth,ik]
def cAdd:R2
 | .int i,.int j,H,Q=>Q (.int (i+j)) H
 | .str i,.str j,H,Q=>i.length+j.length≤sizeLine∧Q (.str (i++j)) H
 | .ref l,.ref b,H,Q=>bnd (unM (H l)) fun xs=>bnd (unM (H b)) fun zs=>xs.length+zs.length≤sizeLine∧∀ p,H p=none→Q (.ref p) (upd H p (.lst (xs++zs)))
 | _,_,_,_=>False
def cSub:R2
 | .int i,.int j,H,Q=>Q (.int (i - j)) H
 | _,_,_,_=>False
def cMul:R2
 | .int i,.int j,H,Q=>CMul i j∧Q (.int (i*j)) H
 | _,_,_,_=>False
def cDiv:R2
 | .int i,.int j,H,Q=>CDiv i j∧Q (.int (i / j)) H
 | _,_,_,_=>False
def cMod:R2
 | .int i,.int j,H,Q=>0 < j∧Q (.int (i % j)) H
 | _,_,_,_=>False
def cPow:R2
 | .int i,.int j,H,Q=>CPow i j∧Q (.int (i^j.toNat)) H
 | _,_,_,_=>False
def cCmp (g:Int→Int→Bool):R2
 | .int i,.int j,H,Q=>Q (.bl (g i j)) H
 | _,_,_,_=>False
def rEqD (K:PySem.W.Frag):R2:=fun x y H Q=>∃ d e,DV K H x d∧DV K H y e∧SeqAt.shaped d=true∧SeqAt.shaped e=true∧Q (.bl (PyData.eqv d e)) H
def rNeD (K:PySem.W.Frag):R2:=fun x y H Q=>∃ d e,DV K H x d∧DV K H y e∧SeqAt.shaped d=true∧SeqAt.shaped e=true∧Q (.bl (!PyData.eqv d e)) H
def cEq (K:PySem.W.Frag):R2
 | .int i,.int j,H,Q=>Q (.bl (decide (i=j))) H
 | .bl i,.bl j,H,Q=>Q (.bl (decide (i=j))) H
 | .str i,.str j,H,Q=>Q (.bl (decide (i=j))) H
 | x,y,H,Q=>rEqD K x y H Q
def cNe (K:PySem.W.Frag):R2
 | .int i,.int j,H,Q=>Q (.bl (!decide (i=j))) H
 | .bl i,.bl j,H,Q=>Q (.bl (!decide (i=j))) H
 | .str i,.str j,H,Q=>Q (.bl (!decide (i=j))) H
 | x,y,H,Q=>rNeD K x y H Q
def rInD (K:PySem.W.Frag) (neg:Bool):R2:=fun x y H Q=>∃ d ds,DV K H x d∧(DV K H y (.list ds)∨DV K H y (.tuple ds))∧PyData.canLayAll0 ds=true∧PyData.canLay0 d=true∧min (PyData.depthAll ds) d.depth≤62∧
 Q (.bl (if neg then !ds.any (fun y=>PyData.eqv y d) else ds.any fun y=>PyData.eqv y d)) H
def keyOf:V→Option Key
 | .int i=>some (.inl i)
 | .str x=>some (.inr x)
 | _=>none
def unD:Option HO→Option (List (Key × V))
 | some (.dK kvs)=>some kvs
 | _=>none
def cIn (K:PySem.W.Frag) (neg:Bool):R2
 | .ref a,y,H,Q=>rInD K neg (.ref a) y H Q
 | x,.ref p,H,Q=>(match unD (H p) with
  | some kvs=>bnd (keyOf x) fun k=>Q (.bl (if neg then !(valV kvs k).isSome else (valV kvs k).isSome)) H
  | none=>bnd (unS (H p)) fun xs=>flatV x=true∧xs.all flatV=true∧Q (.bl (if neg then !inV x xs else inV x xs)) H)
 | .str i,.str j,H,Q=>Q (.bl (if neg then !(!(Builtin.Str.occurrences j i 0 j.length 1).isEmpty) else !(Builtin.Str.occurrences j i 0 j.length 1).isEmpty)) H
 | _,_,_,_=>False
def cIx:R2
 | .ref p,y,H,Q=>(match unD (H p) with
  | some kvs=>bnd (keyOf y) fun k=>bnd (valV kvs k) fun v=>Q v H
  | none=>match y with
   | .int i=>bnd (unS (H p)) fun xs=>bnd (atI xs i) fun v=>Q v H
   | _=>False)
 | .str z,.int i,H,Q=>z.length≤sizeLine∧bnd (atI z.cps.toList i) fun c=>Q (.str ⟨#[c]⟩) H
 | _,_,_,_=>False
theorem mE {o:Option HO} {kvs:List (Key × V)} (h:unD o=some kvs):o=some (.dK kvs):=by
 unfold unD at h; split at h
 · cases h; rfl
 · cases h
theorem mF {x:V} {k:Key} (h:keyOf x=some k):x=kV k:=by
 unfold keyOf at h; split at h
 · cases h; rfl
 · cases h; rfl
 · cases h
section
variable {X:Cx} {a b c:Expr} {ta tb tc:TE} {pos:Pos}
theorem ar:OpR X (binaryOp .Add) cAdd:=by
 intro pins s σ H x y v u Q I rx ry h
 unfold cAdd at h
 split at h
 · exact rd pins s σ H _ _ v u Q I rx ry ⟨_,_,rfl,rfl,h⟩
 · exact n4 pins s σ H _ _ v u Q I rx ry ⟨_,_,rfl,rfl,h.1,h.2⟩
 · obtain ⟨xs,e1,h⟩:=aN h
   obtain ⟨zs,e2,h⟩:=aN h
   exact rp pins s σ H _ _ v u Q I rx ry ⟨_,_,xs,zs,rfl,rfl,dl e1,dl e2,h.1,h.2⟩
 · exact h.elim
theorem qB:OpR X (binaryOp .Sub) cSub:=by
 intro pins s σ H x y v u Q I rx ry h
 unfold cSub at h
 split at h
 · exact re pins s σ H _ _ v u Q I rx ry ⟨_,_,rfl,rfl,h⟩
 · exact h.elim
theorem be:OpR X (binaryOp .Mult) cMul:=by
 intro pins s σ H x y v u Q I rx ry h
 unfold cMul at h
 split at h
 · exact rf pins s σ H _ _ v u Q I rx ry ⟨_,_,rfl,rfl,h.1,h.2⟩
 · exact h.elim
theorem eu:OpR X (binaryOp .FloorDiv) cDiv:=by
 intro pins s σ H x y v u Q I rx ry h
 unfold cDiv at h
 split at h
 · exact qm pins s σ H _ _ v u Q I rx ry ⟨_,_,rfl,rfl,h.1,h.2⟩
 · exact h.elim
theorem bi:OpR X (binaryOp .Mod) cMod:=by
 intro pins s σ H x y v u Q I rx ry h
 unfold cMod at h
 split at h
 · exact rg pins s σ H _ _ v u Q I rx ry ⟨_,_,rfl,rfl,h.1,h.2⟩
 · exact h.elim
theorem kW {op:CmpOp} {g:Int→Int→Bool} (o:OpR X (compareOp op) (rI0 fun i j=>.bl (g i j))):OpR X (compareOp op) (cCmp g):=by
 intro pins s σ H x y v u Q I rx ry h
 unfold cCmp at h
 split at h
 · exact o pins s σ H _ _ v u Q I rx ry ⟨_,_,rfl,rfl,h⟩
 · exact h.elim
theorem mG:OpR X (compareOp .Lt) (cCmp fun i j=>decide (i < j)):=kW r8
theorem jU:OpR X (compareOp .LtE) (cCmp fun i j=>decide (i≤j)):=kW sd
theorem iK:OpR X (compareOp .Gt) (cCmp fun i j=>decide (j < i)):=kW se
theorem rA (hu:X.A.units+64 < cLine):OpR X (compareOp .Eq) (rEqD X.K):=by
 intro pins s σ H x y v u Q I rx ry h
 obtain ⟨d,e,h1,h2,h3,h4,q⟩:=h
 obtain ⟨as,r1⟩:=h1.reads I rx
 obtain ⟨bs,r2⟩:=h2.reads I ry
 exact eq_dataH r1 r2 h3 h4 hu ⟨.bl _,H,I,rfl,q⟩
theorem rB (hu:X.A.units+64 < cLine):OpR X (compareOp .NotEq) (rNeD X.K):=by
 intro pins s σ H x y v u Q I rx ry h
 obtain ⟨d,e,h1,h2,h3,h4,q⟩:=h
 obtain ⟨as,r1⟩:=h1.reads I rx
 obtain ⟨bs,r2⟩:=h2.reads I ry
 exact ne_dataH r1 r2 h3 h4 hu ⟨.bl _,H,I,rfl,q⟩
theorem bC (hu:X.A.units+64 < cLine):OpR X (compareOp .Eq) (cEq X.K):=by
 intro pins s σ H x y v u Q I rx ry h
 unfold cEq at h
 split at h
 · refine nZ pins s σ H _ _ v u Q I rx ry ⟨rfl,?_⟩
   simpa using h
 · refine nZ pins s σ H _ _ v u Q I rx ry ⟨rfl,?_⟩
   simpa using h
 · refine nZ pins s σ H _ _ v u Q I rx ry ⟨rfl,?_⟩
   simpa using h
 · exact rA hu pins s σ H _ _ v u Q I rx ry h
theorem cm (hu:X.A.units+64 < cLine):OpR X (compareOp .NotEq) (cNe X.K):=by
 intro pins s σ H x y v u Q I rx ry h
 unfold cNe at h
 split at h
 · refine n3 pins s σ H _ _ v u Q I rx ry ⟨rfl,?_⟩
   simpa using h
 · refine n3 pins s σ H _ _ v u Q I rx ry ⟨rfl,?_⟩
   simpa using h
 · refine n3 pins s σ H _ _ v u Q I rx ry ⟨rfl,?_⟩
   simpa using h
 · exact rB hu pins s σ H _ _ v u Q I rx ry h
theorem rC (hu:X.A.units+64 < cLine):OpR X (compareOp .In) (rInD X.K false):=by
 intro pins s σ H x y v u Q I rx ry h
 obtain ⟨d,ds,h1,h2,h3,h4,h5,q⟩:=h
 obtain ⟨as,r1⟩:=h1.reads I rx
 rcases h2 with h2 | h2
 · obtain ⟨bs,r2⟩:=h2.reads I ry
   exact SeqAt.in_list_reads r2 r1 h3 h4 (by omega) ⟨.bl _,H,I,rfl,q⟩
 · obtain ⟨bs,r2⟩:=h2.reads I ry
   exact SeqAt.in_tuple_reads r2 r1 h3 h4 (by omega) ⟨.bl _,H,I,rfl,q⟩
theorem oW (hu:X.A.units+64 < cLine):OpR X (compareOp .In) (cIn X.K false):=by
 intro pins s σ H x y v u Q I rx ry h
 unfold cIn at h
 split at h
 · exact rC hu pins s σ H _ _ v u Q I rx ry h
 · rename_i p hx
   split at h
   · rename_i kvs e
     obtain ⟨k,ek,q⟩:=aN h
     cases (show u=Value.ref p from ry)
     have g:DGet H p x (valV kvs k):=by rw [mF ek]; exact DGet.k (mE e)
     exact sq (Nat.lt_of_le_of_lt (Nat.add_le_add_left (by decide:1≤64) _) hu) I g rx fun s' I'=>⟨.bl _,H,I',rfl,q⟩
   · obtain ⟨xs,e,f1,f2,q⟩:=aN h
     exact lB pins s σ H _ _ v u Q I rx ry ⟨p,xs,rfl,iI e,f1,f2,q⟩
 · exact oG pins s σ H _ _ v u Q I rx ry ⟨_,_,rfl,rfl,h⟩
 · exact h.elim
end
end L2
namespace L2
open PySem PySem.Spec PyProof.Rows
section
variable {X:Cx} {a b c:Expr} {ta tb tc:TE} {pos:Pos}
theorem aL (hu:X.A.units+64 < cLine):IxR X cIx:=by
 intro value slice pins s σ H x y v u Q I rx ry h hs
 cases x with
 | ref p=>
  unfold cIx at h
  dsimp only at h
  split at h
  · rename_i kvs e
    obtain ⟨k,ek,h⟩:=aN h
    obtain ⟨z,ez,q⟩:=aN h
    cases (show v=Value.ref p from rx)
    have g:DGet H p y (some z):=by rw [mF ek,← ez]; exact DGet.k (mE e)
    exact tail_any (nj I g) PySem.F.slot_dict_getitem.lookup (oR (Nat.lt_of_le_of_lt (Nat.add_le_add_left (by decide:1≤64) _) hu) I g ry fun w' s3 I3 rw'=>⟨z,H,I3,rw',q⟩) hs
  · split at h
    · obtain ⟨xs,e,h⟩:=aN h
      obtain ⟨z,ez,q⟩:=aN h
      rcases iI (K:=X.K) e with r | r
      · exact nL value slice pins s σ H _ _ v u Q I rx ry ⟨p,xs,_,z,rfl,rfl,r,ez,q⟩ hs
      · exact ri value slice pins s σ H _ _ v u Q I rx ry ⟨p,xs,_,z,rfl,rfl,r,ez,q⟩ hs
    · exact h.elim
 | str zz=>
  cases y with
  | int i=>
   obtain ⟨hz,h⟩:=(show zz.length≤sizeLine∧bnd (atI zz.cps.toList i) fun c=>Q (.str ⟨#[c]⟩) H from h)
   obtain ⟨z,ez,q⟩:=aN h
   exact rj value slice pins s σ H _ _ v u Q I rx ry ⟨_,_,z,rfl,rfl,hz,ez,q⟩ hs
  | _=>exact False.elim h
 | _=>exact False.elim h
def kLen:List V→Hp→VK→Prop
 | [.ref p],H,Q=>(match unD (H p) with
  | some kvs=>Q (.int kvs.length) H
  | none=>bnd (unS (H p)) fun xs=>Q (.int xs.length) H)
 | [.str z],H,Q=>z.length≤sizeLine∧Q (.int z.length) H
 | _,_,_=>False
theorem bD:CallR X (.builtin "len") kLen:=by
 intro pins s σ H xs us Q I r h
 unfold kLen at h
 split at h
 · split at h
   · rename_i kvs e
     exact oS pins s σ H _ us Q I r ⟨_,kvs,rfl,mE e,h⟩
   · obtain ⟨ys,e,q⟩:=aN h
     exact d4 pins s σ H _ us Q I r ⟨_,ys,rfl,iI e,q⟩
 · exact mq pins s σ H _ us Q I r ⟨_,rfl,h.1,h.2⟩
 · exact h.elim
def kAbs:List V→Hp→VK→Prop
 | [.int i],H,Q=>Q (.int (if i < 0 then -i else i)) H
 | _,_,_=>False
def kMin:List V→Hp→VK→Prop
 | [.int i,.int j],H,Q=>Q (.int (if j < i then j else i)) H
 | _,_,_=>False
theorem oX (hc:X.calm=true):CallR X (.builtin "min") kMin:=by
 intro pins s σ H xs us Q I r h
 unfold kMin at h
 split at h
 · exact oH hc pins s σ H _ us Q I r ⟨_,_,rfl,h⟩
 · exact h.elim
def kMax:List V→Hp→VK→Prop
 | [.int i,.int j],H,Q=>Q (.int (if j > i then j else i)) H
 | _,_,_=>False
def kList:List V→Hp→VK→Prop
 | [.ref p],H,Q=>bnd (unS (H p)) fun ys=>∀ l,H l=none→Q (.ref l) (upd H l (.lst ys))
 | _,_,_=>False
theorem gl:CallR X (.type "list") kList:=by
 intro pins s σ H xs us Q I r h
 unfold kList at h
 split at h
 · obtain ⟨ys,e,q⟩:=aN h
   exact mr pins s σ H _ us Q I r ⟨_,ys,rfl,iI e,q⟩
 · exact h.elim
def gA (H:Hp):V→Option String
 | .non=>some "NoneType"
 | .bl _=>some "bool"
 | .int _=>some "int"
 | .str _=>some "str"
 | .ref p=>match H p with
  | some (.lst _)=>some "list"
  | some (.frz _ (.lst _))=>some "list"
  | some (.tup _)=>some "tuple"
  | some (.dK _)=>some "dict"
  | _=>none
 | _=>none
def isTy (t n:String):Bool:=t==n||(t=="bool"&&n=="int")
def i4 (n:String):Bool:=["int","bool","str","list","tuple","dict"].contains n
theorem oY {K:PySem.W.Frag} {H:Hp} {x:V} {t:String} (h:gA H x=some t):TyOf K H x (.type t)∧["NoneType","int","bool","str","list","tuple","dict"].contains t=true:=by
 cases x with
 | non=>cases h; exact ⟨.non,by decide⟩
 | bl b=>cases h; exact ⟨.bl b,by decide⟩
 | int i=>cases h; exact ⟨.int i,by decide⟩
 | str i=>cases h; exact ⟨.str i,by decide⟩
 | byt _=>cases h
 | flt _=>cases h
 | ty _=>cases h
 | ref p=>
  unfold gA at h
  dsimp only at h
  split at h
  · rename_i e; cases h; exact ⟨.lst e,by decide⟩
  · rename_i e; cases h; exact ⟨.frz e,by decide⟩
  · rename_i e; cases h; exact ⟨.tup e,by decide⟩
  · rename_i e; cases h; exact ⟨.dK e,by decide⟩
  · cases h
theorem rD (K:PySem.W.Frag):∀ t∈["NoneType","int","bool","str","list","tuple","dict"],∀ n∈["int","bool","str","list","tuple","dict"],PySem.W.kitOne K (.type t) (.type n)=some (isTy t n):=by
 intro t ht n hn
 simp only [List.mem_cons,List.not_mem_nil,or_false] at ht hn
 rcases ht with rfl | rfl | rfl | rfl | rfl | rfl | rfl <;> rcases hn with rfl | rfl | rfl | rfl | rfl | rfl <;> rfl
def kIsi:List V→Hp→VK→Prop
 | [x,.ty n],H,Q=>i4 n=true∧bnd (gA H x) fun t=>Q (.bl (isTy t n)) H
 | _,_,_=>False
theorem bq:CallR X (.builtin "isinstance") kIsi:=by
 intro pins s σ H xs us Q I r h
 unfold kIsi at h
 split at h
 · obtain ⟨hn,h⟩:=h
   obtain ⟨t,et,q⟩:=aN h
   obtain ⟨u,w,rfl,ru,rw'⟩:=n5 r
   cases rw'
   obtain ⟨ty,ht⟩:=oY (K:=X.K) et
   exact oK I ru ty (rD X.K t (by simpa using ht) _ (by simpa [i4] using hn)) fun tk=>⟨.bl _,H,I.tok tk,rfl,q⟩
 · exact h.elim
def dX:V→List V→Hp→VK→Prop
 | .ref l,[y],H,Q=>bnd (unM (H l)) fun xs=>xs.length < sizeLine∧Q .non (upd H l (.lst (xs++[y])))
 | _,_,_,_=>False
theorem gm:MtR X "list.append" dX:=by
 intro pins s σ H x vs v us Q I rx rv h
 unfold dX at h
 split at h
 · obtain ⟨xs,e,h1,q⟩:=aN h
   exact lE pins s σ H _ _ v us Q I rx rv ⟨_,xs,_,rfl,rfl,dl e,h1,q⟩
 · exact h.elim
def i5:V→List V→Hp→VK→Prop
 | .ref l,[.ref b],H,Q=>bnd (unM (H l)) fun xs=>bnd (unM (H b)) fun zs=>xs.length+zs.length≤sizeLine∧Q .non (upd H l (.lst (xs++zs)))
 | _,_,_,_=>False
theorem om:MtR X "list.extend" i5:=by
 intro pins s σ H x vs v us Q I rx rv h
 unfold i5 at h
 split at h
 · obtain ⟨xs,e,h⟩:=aN h
   obtain ⟨zs,e2,h1,q⟩:=aN h
   exact oQ pins s σ H _ _ v us Q I rx rv ⟨_,_,xs,zs,rfl,rfl,dl e,dl e2,h1,q⟩
 · exact h.elim
def jV:V→List V→Hp→VK→Prop
 | .ref l,[],H,Q=>bnd (unM (H l)) fun _=>Q .non (upd H l (.lst []))
 | _,_,_,_=>False
theorem oZ:MtR X "list.clear" jV:=by
 intro pins s σ H x vs v us Q I rx rv h
 unfold jV at h
 split at h
 · obtain ⟨xs,e,q⟩:=aN h
   exact pP pins s σ H _ _ v us Q I rx rv ⟨_,xs,rfl,rfl,dl e,q⟩
 · exact h.elim
theorem dP {K:PySem.W.Frag} {H:Hp} {p:Addr} {xs:List V} (h:H p=some (.lst xs)):tyV K "list" (.ref p) H:=.inl ⟨rfl,_,SqL.of h⟩
def cSl:V→Option Int→Option Int→Hp→VK→Prop
 | .ref p,lo,hi,H,Q=>bnd (unL (H p)) fun xs=>∀ l,H l=none→Q (.ref l) (upd H l (.lst (cutV xs lo hi)))
 | _,_,_,_,_=>False
theorem sr:SlR X cSl:=by
 intro pins s σ H x v vl vu lo hi sl Q I rx hs pl pu h
 unfold cSl at h
 split at h
 · obtain ⟨xs,e,q⟩:=aN h
   exact qw pins s σ H _ v vl vu lo hi sl Q I rx hs pl pu ⟨_,xs,rfl,mC e,q⟩
 · exact h.elim
end
structure Cal (P:Program) (w:World) (K:PySem.W.Frag) (mg:Str→Option Value) (base:Heap) (k:Nat) (x:Str) (ps:List Str) (sp:Sp):Prop where
 ex:∃ (f:Addr) (fd:FuncData),FnOk P w K mg base CX0 k f fd ps sp∧mg x=some (.ref f)∧PySem.W.keepIn K (.ref f)=true∧Binds K fd ps []
theorem ao {X:Cx} {k n:Nat} {x:Str} {ps:List Str} {sp:Sp} {p pos:Pos} {e:Expr} {es:List Expr} {t:TA} (C:Cal X.prog X.w X.K X.mg X.base k x ps sp) (hr:Room n X.A) (hk:k≤n) (hg:Gl X x) (ha:PA X (e::es) t)
  (hdb:(x==("__debug__":Str))=false:=by decide) (he:starEach (e::es) X.env=(false,eval e X.env)::starEach es X.env:=by rfl) (hpl:(backTo pos (starEach es X.env)).any (·.1)=false:=by rfl):
  PE X (.Call (.Name x p) (e::es) [] pos) (tCall sp [] E0 t):=by
 obtain ⟨f,fd,F,hm,hkp,hb⟩:=C.ex
 exact qr F (hr.mono hk) hg hm hkp hb .nil me ha hdb he hpl
end L2
namespace L2
open PySem PySem.Spec PyProof.Rows
theorem bU:bootBuiltins "len"=some (.builtin "len"):=by decide+kernel
theorem rE:bootBuiltins "min"=some (.builtin "min"):=by decide+kernel
theorem aJ:bootBuiltins "isinstance"=some (.builtin "isinstance"):=by decide+kernel
theorem dY:bootBuiltins "list"=some (.type "list"):=by decide+kernel
theorem o0:bootBuiltins "int"=some (.type "int"):=by decide+kernel
theorem qC:bootBuiltins "bool"=some (.type "bool"):=by decide+kernel
theorem cU:bootBuiltins "str"=some (.type "str"):=by decide+kernel
theorem il:bootBuiltins "tuple"=some (.type "tuple"):=by decide+kernel
def compN (scope:Scope):List Str:=(scope.names.filter fun p=>p.2==.local||p.2==.cell||p.2==.free).map (·.1)
def jW (N:List Str) (scope:Scope):List (Option Nat):=(compN scope).map fun x=>if scope.names.lookup x==some .free then N.findIdx? (· ==x) else none
def isCF:Option NameKind→Bool
 | some .cell=>true
 | some .free=>true
 | _=>false
theorem rF {X:Cx} {scope:Scope} (h1:scope.kind=.function) (h2:(scope.names.map (·.1)).Nodup) (h3:(scope.names.all fun p=>p.2 != .free||isCF (X.env.kindOf p.1))=true):BlkOk X (compN scope) (jW X.N scope) scope where
 kind:=h1
 nd:=h2.sublist (List.Sublist.map _ (List.filter_sublist ..))
 len:=by unfold jW; rw [List.length_map]
 names:=h2
 free:=fun x hx=>by
  have:=List.all_eq_true.mp h3 (x,.free) hx
  simp only [bne_self_eq_false,Bool.false_or] at this
  unfold isCF at this
  split at this
  · rename_i e; exact .inl e
  · rename_i e; exact .inr e
  · cases this
 at_:=fun j i x e1 e2=>by
  unfold jW at e2
  rw [List.getElem?_map,e1] at e2
  simp only [Option.map_some,Option.some.injEq] at e2
  split at e2
  · rename_i hf
    obtain ⟨hlt,hp,_⟩:=List.findIdx?_eq_some_iff_getElem.mp e2
    have hx:X.N[i]? =some x:=by
     rw [List.getElem?_eq_getElem hlt]
     have:X.N[i]=x:=by simpa using hp
     rw [this]
    refine ⟨hx,PySem.mem_of_lookup (by simpa using hf)⟩
  · cases e2
end L2
namespace L2
open PySem PySem.Spec PyProof.Rows
section
variable {t u:TS} {D:Ends} {σ:St} {H:Hp} {Q:VK} {ta tb:TE} {R:Bool→Hp→Prop} {c d:TT}
theorem aQ:tSeq t u D σ H=t { D with nx:=u D } σ H:=rfl
theorem dm:tNext D σ H=D.nx σ H:=rfl
theorem fh {g:TG}:tAsg ta g D σ H=ta σ H fun x H1=>g x σ H1 D.nx:=rfl
theorem bf {i:Nat} {v:V} {k:St→Hp→Prop}:gName i v σ H k=k (σ.set i (some v)) H:=rfl
theorem fi {i:Nat}:tVar i σ H Q=∃ v,σ[i]? =some (some v)∧Q v H:=rfl
theorem w_c {v:V}:tC v σ H Q=Q v H:=rfl
theorem gQ {r:R2}:tOp r ta tb σ H Q=ta σ H fun x H1=>tb σ H1 fun y H2=>r x y H2 Q:=rfl
theorem dI:tRet ta D σ H=ta σ H D.rt:=rfl
theorem dn:tRetN D σ H=D.rt .non H:=rfl
theorem dq:tDrop ta D σ H=ta σ H fun _ H1=>D.nx σ H1:=rfl
theorem aR:tIfS c t u D σ H=c σ H fun b H1=>if b=true then t D σ H1 else u D σ H1:=rfl
theorem dr:tTest ta σ H R=ta σ H fun x H'=>∃ k,x=.bl k∧R k H':=rfl
theorem w_b:tB ta σ H R=ta σ H fun x H'=>∃ k,x=.bl k∧R k H':=rfl
theorem w_not:tNot c σ H R=c σ H fun k H1=>R (!k) H1:=rfl
theorem fj:tAnd c d σ H R=c σ H fun k H1=>if k=true then d σ H1 R else R false H1:=rfl
theorem gR:tOr c d σ H R=c σ H fun k H1=>if k=true then R true H1 else d σ H1 R:=rfl
theorem dt:tNotV ta σ H Q=ta σ H fun x H1=>∃ c,x=.bl c∧Q (.bl (!c)) H1:=rfl
theorem du:tAndV ta tb σ H Q=ta σ H fun x H1=>∃ c,x=.bl c∧if c=true then tb σ H1 Q else Q (.bl false) H1:=rfl
theorem fk:tOrV ta tb σ H Q=ta σ H fun x H1=>∃ c,x=.bl c∧if c=true then Q (.bl true) H1 else tb σ H1 Q:=rfl
theorem fm {k:List V→Hp→Prop}:tNil σ H k=k [] H:=rfl
theorem dv {tr:TA} {k:List V→Hp→Prop}:tCons ta tr σ H k=ta σ H fun x H1=>tr σ H1 fun xs H2=>k (x::xs) H2:=rfl
theorem gS {r:List V→Hp→VK→Prop} {tr:TA}:tCB r tr σ H Q=tr σ H fun vs H1=>r vs H1 Q:=rfl
theorem dw {sp:Sp} {dvs:List V} {E:XK} {tr:TA}:tCall sp dvs E tr σ H Q=tr σ H fun vs H1=>sp (vs++dvs) H1 Q E:=rfl
theorem fo {tr:TA}:tTup tr σ H Q=tr σ H fun xs H1=>xs.length≤sizeLine∧∀ p,H1 p=none→Q (.ref p) (upd H1 p (.tup xs)):=rfl
theorem fq {tr:TA}:tLst tr σ H Q=tr σ H fun xs H1=>xs.length≤sizeLine∧∀ p,H1 p=none→Q (.ref p) (upd H1 p (.lst xs)):=rfl
theorem gB {K:PySem.W.Frag} {T:String} {r:V→List V→Hp→VK→Prop} {tr:TA}:tBM K T r ta tr σ H Q=ta σ H fun x H1=>tyV K T x H1∧tr σ H1 fun xs H2=>r x xs H2 Q:=rfl
theorem ft {K:PySem.W.Frag} {T:String} {r:V→List V→Hp→VK→Prop}:pN K T r ta σ H Q=ta σ H fun x H1=>tyV K T x H1∧r x [] H1 Q:=rfl
theorem cp:tTrue σ H R=R true H:=rfl
theorem dy:rz σ H Q=∀ p,H p=none→Q (.ref p) (upd H p (.dK [])):=rfl
theorem dz {td ty tv:TE}:sDPut td ty tv D σ H=tv σ H fun v H1=>td σ H1 fun x H2=>ty σ H2 fun y H3=>∃ a H4,x=.ref a∧DPut H3 a y v H4∧D.nx σ H4:=rfl
theorem fu {i j:Int}:cAdd (.int i) (.int j) H Q=Q (.int (i+j)) H:=rfl
theorem fv {i j:Int}:cSub (.int i) (.int j) H Q=Q (.int (i - j)) H:=rfl
theorem fw {i j:Int}:cMul (.int i) (.int j) H Q=(CMul i j∧Q (.int (i*j)) H):=rfl
theorem fz {i j:Int}:cDiv (.int i) (.int j) H Q=(CDiv i j∧Q (.int (i / j)) H):=rfl
theorem fA {i j:Int}:cMod (.int i) (.int j) H Q=(0 < j∧Q (.int (i % j)) H):=rfl
theorem fB {g:Int→Int→Bool} {i j:Int}:cCmp g (.int i) (.int j) H Q=Q (.bl (g i j)) H:=rfl
theorem fC {K:PySem.W.Frag} {i j:Int}:cEq K (.int i) (.int j) H Q=Q (.bl (decide (i=j))) H:=rfl
theorem fD {K:PySem.W.Frag} {i j:Int}:cNe K (.int i) (.int j) H Q=Q (.bl (!decide (i=j))) H:=rfl
theorem fE {K:PySem.W.Frag} {i j:Bool}:cEq K (.bl i) (.bl j) H Q=Q (.bl (decide (i=j))) H:=rfl
theorem fF {K:PySem.W.Frag} {i j:Bool}:cNe K (.bl i) (.bl j) H Q=Q (.bl (!decide (i=j))) H:=rfl
theorem iL {p:Addr} {i:Int} {xs:List V} (h:H p=some (.tup xs)):cIx (.ref p) (.int i) H Q=bnd (atI xs i) fun v=>Q v H:=by
 unfold cIx; dsimp only; rw [h]; rfl
theorem sh {p:Addr} {i:Int} {xs:List V} (h:H p=some (.lst xs)):cIx (.ref p) (.int i) H Q=bnd (atI xs i) fun v=>Q v H:=by
 unfold cIx; dsimp only; rw [h]; rfl
theorem fG {i:Int}:kAbs [.int i] H Q=Q (.int (if i < 0 then -i else i)) H:=rfl
theorem fH {i j:Int}:kMin [.int i,.int j] H Q=Q (.int (if j < i then j else i)) H:=rfl
theorem im {p:Addr} {xs:List V} (h:H p=some (.lst xs)):kLen [.ref p] H Q=Q (.int xs.length) H:=by
 unfold kLen; dsimp only; rw [h]; rfl
theorem rG {p:Addr} {xs:List V} (h:H p=some (.tup xs)):kLen [.ref p] H Q=Q (.int xs.length) H:=by
 unfold kLen; dsimp only; rw [h]; rfl
theorem io {p:Addr} {xs:List V} {y:V} (h:H p=some (.lst xs)):dX (.ref p) [y] H Q=(xs.length < sizeLine∧Q .non (upd H p (.lst (xs++[y])))):=by
 unfold dX; dsimp only; rw [h]; rfl
theorem lH:∀ ns:List Int,(ns.map V.int).all flatV=true
 | []=>rfl
 | n::r=>by rw [List.map_cons,List.all_cons,lH r]; rfl
end
def LoopR (J:It) (g:TG) (tb:TS) (D:Ends) (σ:St) (H1:Hp):Prop:=∃ W:Nat→Nat→St→Hp→Prop,(∃ m,W 0 m σ H1)∧∀ i m σ H,W i m σ H→
 (J.stop i H∧D.nx σ H)∨(J.go i H∧∃ N:St→Hp→Prop,(∀ σ' H',N σ' H'→∃ m',m' < m∧W (i+1) m' σ' H')∧∀ x H',J.yld i H x H'→g x σ H' fun σ2 H2=>tb { D with nx:=N,ct:=N,bk:=D.nx } σ2 H2)
def CompR (J:It) (g:TG) (tt:TT) (te:TE) (fin:Addr→Hp→Prop) (σ0:St) (H1:Hp):Prop:=∀ l,H1 l=none→
 ∃ W:Nat→Nat→St→Hp→Prop,(∃ m,W 0 m σ0 (upd H1 l (.lst [])))∧∀ i m σ' H',W i m σ' H'→
  (J.stop i H'∧fin l H')∨(J.go i H'∧∃ N:St→Hp→Prop,(∀ σ'' H'',N σ'' H''→∃ m',m' < m∧W (i+1) m' σ'' H'')∧∀ x H2,J.yld i H' x H2→g x σ' H2 fun σ2 H3=>tt σ2 H3 fun b H4=>
   if b=true then te σ2 H4 fun y H5=>∃ ys,H5 l=some (.lst ys)∧ys.length < sizeLine∧N σ2 (upd H5 l (.lst (ys++[y]))) else N σ2 H4)
section
variable {K:PySem.W.Frag} {g:TG} {tb:TS} {D:Ends} {σ:St} {H:Hp} {tl:TE} {ta:TA} {ix:List (Option Nat)} {tt:TT} {te:TE} {k:Nat} {Q:VK}
theorem dA:tFor (iList K tl) g tb D σ H=tl σ H fun x H1=>∃ a,x=.ref a∧(∃ xs,SqL K H1 a xs)∧LoopR (Itl K a) g tb D σ H1:=rfl
theorem cu:tFor (gj ta) g tb D σ H=ta σ H fun vs H1=>∃ j:Int,vs=[.int j]∧ -(2^62)≤j∧j < 2^62∧LoopR (Itr 0 j.toNat) g tb D σ H1:=rfl
theorem cw:tFor (nY ta) g tb D σ H=ta σ H fun vs H1=>∃ i j:Int,vs=[.int i,.int j]∧(-(2^62)≤i∧i < 2^62∧ -(2^62)≤j∧j < 2^62)∧LoopR (Itr i (j - i).toNat) g tb D σ H1:=rfl
theorem b6:tComp ix (iList K tl) g tt te σ H Q=tl σ H fun x H1=>∃ a,x=.ref a∧(∃ xs,SqL K H1 a xs)∧CompR (Itl K a) g tt te (fun l H'=>Q (.ref l) H') (subσ ix σ) H1:=rfl
theorem bX:tComp ix (gj ta) g tt te σ H Q=ta σ H fun vs H1=>∃ j:Int,vs=[.int j]∧ -(2^62)≤j∧j < 2^62∧CompR (Itr 0 j.toNat) g tt te (fun l H'=>Q (.ref l) H') (subσ ix σ) H1:=rfl
theorem bY:sComp k ix (iList K tl) g tt te D σ H=tl σ H fun x H1=>∃ a,x=.ref a∧(∃ xs,SqL K H1 a xs)∧CompR (Itl K a) g tt te (fun l H'=>D.nx (σ.set k (some (.ref l))) H') (subσ ix σ) H1:=rfl
theorem bE:sComp k ix (gj ta) g tt te D σ H=ta σ H fun vs H1=>∃ j:Int,vs=[.int j]∧ -(2^62)≤j∧j < 2^62∧CompR (Itr 0 j.toNat) g tt te (fun l H'=>D.nx (σ.set k (some (.ref l))) H') (subσ ix σ) H1:=rfl
theorem jX {lo:Int} {n:Nat} {fin:Addr→Hp→Prop} {σ0:St} {H1:Hp} (Pv:Addr→Nat→St→Hp→Prop) (h0:∀ l,H1 l=none→Pv l 0 σ0 (upd H1 l (.lst [])))
  (hs:∀ l i σ H,H1 l=none→i < n→Pv l i σ H→g (.int (lo+i)) σ H fun σ2 H3=>tt σ2 H3 fun b H4=>if b=true then te σ2 H4 fun y H5=>∃ ys,H5 l=some (.lst ys)∧ys.length < sizeLine∧Pv l (i+1) σ2 (upd H5 l (.lst (ys++[y]))) else Pv l (i+1) σ2 H4)
  (hd:∀ l σ H,H1 l=none→Pv l n σ H→fin l H):CompR (Itr lo n) g tt te fin σ0 H1:=by
 intro l hl0
 refine ⟨fun i m σ H=>m=n - i∧i≤n∧Pv l i σ H,⟨n,by simp,Nat.zero_le _,h0 l hl0⟩,?_⟩
 rintro i m σ H ⟨rfl,hi,p⟩
 by_cases hlt:i < n
 · refine .inr ⟨hlt,Pv l (i+1),fun σ' H' p'=>⟨n - (i+1),by omega,rfl,hlt,p'⟩,fun x H' y=>?_⟩
   obtain ⟨e,y⟩:=y
   subst e y
   exact hs l i σ _ hl0 hlt p
 · have e:i=n:=by omega
   subst e
   exact .inl ⟨Nat.le_refl _,hd l σ H hl0 p⟩
theorem lI {a:Addr} {xs:List V} {fin:Addr→Hp→Prop} {σ0:St} {H1:Hp} (Pv:Addr→Nat→St→Hp→Prop) (h0:∀ l,H1 l=none→Pv l 0 σ0 (upd H1 l (.lst []))) (hq:∀ l i σ H,H1 l=none→i≤xs.length→Pv l i σ H→SqL K H a xs)
  (hs:∀ l i x σ H,H1 l=none→xs[i]? =some x→Pv l i σ H→g x σ H fun σ2 H3=>tt σ2 H3 fun b H4=>if b=true then te σ2 H4 fun y H5=>∃ ys,H5 l=some (.lst ys)∧ys.length < sizeLine∧Pv l (i+1) σ2 (upd H5 l (.lst (ys++[y]))) else Pv l (i+1) σ2 H4)
  (hd:∀ l σ H,H1 l=none→Pv l xs.length σ H→fin l H):CompR (Itl K a) g tt te fin σ0 H1:=by
 intro l hl0
 refine ⟨fun i m σ H=>m=xs.length - i∧i≤xs.length∧Pv l i σ H,⟨xs.length,by simp,Nat.zero_le _,h0 l hl0⟩,?_⟩
 rintro i m σ H ⟨rfl,hi,p⟩
 have q:=hq l i σ H hl0 hi p
 by_cases hlt:i < xs.length
 · refine .inr ⟨⟨xs,xs[i],q,by simp [hlt]⟩,Pv l (i+1),fun σ' H' p'=>⟨xs.length - (i+1),by omega,rfl,hlt,p'⟩,fun x H' y=>?_⟩
   obtain ⟨e,y⟩:=y
   subst e
   exact hs l i x σ _ hl0 (y xs q) p
 · have e:i=xs.length:=by omega
   subst e
   exact .inl ⟨⟨xs,q,Nat.le_refl _⟩,hd l σ H hl0 p⟩
theorem qe {p q:Addr} {xs ys:List Int} (hp:H p=some (.lst (xs.map V.int))) (hq:H q=some (.lst (ys.map V.int))) (h:Q (.bl (decide (xs=ys))) H):cEq K (.ref p) (.ref q) H Q:=by
 show rEqD K (.ref p) (.ref q) H Q
 refine ⟨.list (xs.map PyData.int),.list (ys.map PyData.int),.lst (SqL.of hp) (.ints xs),.lst (SqL.of hq) (.ints ys),jr xs,jr ys,?_⟩
 rw [PyData.eqv,mD]
 exact h
theorem jY {p:Addr} {xs:List V} (hp:H p=some (.lst xs)) (h:∀ l,H l=none→Q (.ref l) (upd H l (.lst xs))):kList [.ref p] H Q:=by
 unfold kList
 dsimp only
 rw [hp]
 exact h
end
theorem bP {X:Cx} {N:List Str} {ix:List (Option Nat)} {scope:Scope} (h1:scope.kind=.function) (h2:(scope.names.map (·.1)).Nodup) (h3:(scope.names.all fun p=>p.2 != .free||isCF (X.env.kindOf p.1))=true) (h4:N=compN scope) (h5:ix=jW X.N scope):BlkOk X N ix scope:=by
 subst h4 h5
 exact rF h1 h2 h3
def kLenS (K:PySem.W.Frag):List V→Hp→VK→Prop:=fun xs H Q=>∃ p ys,xs=[.ref p]∧(SqL K H p ys∨SqT K H p ys)∧Q (.int ys.length) H
structure Bt (mg:Str→Option Value):Prop where
 len_:mg "len"=none
 abs_:mg "abs"=none
 min_:mg "min"=none
 max_:mg "max"=none
 sorted_:mg "sorted"=none
 any_:mg "any"=none
 isinstance_:mg "isinstance"=none
 list_:mg "list"=none
 int_:mg "int"=none
 bool_:mg "bool"=none
 str_:mg "str"=none
 tuple_:mg "tuple"=none
 reversed_:mg "reversed"=none
 set_:mg "set"=none
 range_:mg "range"=none
 zip_:mg "zip"=none
end L2
namespace L2
open PySem PySem.Spec PyProof.Rows
theorem Vals.get':∀ {xs:List V} {us:List Value} {i:Nat} {u:Value},Vals xs us→us[i]? =some u→∃ x,xs[i]? =some x∧RelV x u
 | _,_,_,_,.nil,h=>by simp at h
 | _,_,0,_,.cons r _,h=>by simp at h; subst h; exact ⟨_,rfl,r⟩
 | _,_,i+1,_,.cons _ t,h=>by
  obtain ⟨x,hx,r⟩:=Vals.get' (i:=i) t (by simpa using h)
  exact ⟨x,by simpa using hx,r⟩
section
variable {X:Cx} {pins:List (Addr × Obj)} {σ:St} {H:Hp} {s s':Shared}
theorem Inv.kept' (I:Inv X pins σ H s) (k:∀ b u,s.heap.get? b=some u→s'.heap.get? b=some u) (ho:s'.os=s.os) (hg:AllBare s'.gens):Inv X pins σ H s':=
 I.call' (ch:=[]) ho (Un.kept k) (I.hok.kept k) hg fun b z=>absurd z (by simp)
theorem Inv.walked {l:Addr} {o:Obj} (I:Inv X pins σ H s) (hm:Moved [s.heap.objs.size] (fun a b=>b=a) { s with heap:=s.heap.push o } s'):Inv X pins σ H s':=by
 refine I.kept' (fun b u e=>hm.heap b u (fun z=>?_) (Heap.get?_push_of_some _ e)) hm.os (by rw [show s'.gens=s.gens from hm.gens]; exact I.bare)
 have:b=s.heap.objs.size:=by simpa using z
 exact absurd (Heap.lt_size e) (by rw [this]; exact Nat.lt_irrefl _)
end
end L2
namespace L2
open PySem PySem.Spec PyProof.Rows
open Builtin Builtin.Str
theorem i6:∀ {ts:List Str} {us:List Value},Vals (ts.map V.str) us→∃ l:List (Str × Tok),us=strValues l∧l.map (·.1)=ts
 | [],_,.nil=>⟨[],rfl,rfl⟩
 | t::ts,_,.cons r rs=>by
  obtain ⟨l,rfl,e⟩:=i6 (ts:=ts) rs
  obtain ⟨u,rfl⟩:=r
  exact ⟨(t,u)::l,rfl,by rw [List.map_cons,e]⟩
theorem lJ:∀ (l:List (Str × Tok)),Vals ((l.map (·.1)).map V.str) (strValues l)
 | []=>.nil
 | (t,u)::l=>.cons ⟨u,rfl⟩ (lJ l)
section
variable {X:Cx}
def kJoin:V→List V→Hp→VK→Prop
 | .str sep,[.ref p],H,Q=>bnd (unL (H p)) fun ys=>∃ ts:List Str,ys=ts.map V.str∧JoinOk sep ts=true∧Q (.str (Txt.join sep ts)) H
 | _,_,_,_=>False
theorem mH:MtR X "str.join" kJoin:=by
 intro pins s σ H x vs v us Q I rx rv h
 unfold kJoin at h
 split at h
 · rename_i sep p
   obtain ⟨ys,e,ts,rfl,hok,q⟩:=aN h
   obtain ⟨t,rfl⟩:=rx
   obtain ⟨u,rfl,ru⟩:=cB rv
   cases ru
   obtain ⟨its,rvv,pl,hz⟩:=I.list (mC e)
   obtain ⟨l,rfl,hl⟩:=i6 rvv
   exact SC.join pl.isList hl hok fun t' k=>⟨.str _,H,I.tok k,⟨t',rfl⟩,q⟩
 · exact h.elim
def kFind:V→List V→Hp→VK→Prop
 | .str x,[.str y],H,Q=>Q (.int (Txt.find x y)) H
 | _,_,_,_=>False
theorem pS:MtR X "str.find" kFind:=by
 intro pins s σ H x vs v us Q I rx rv h
 unfold kFind at h
 split at h
 · obtain ⟨t,rfl⟩:=rx
   obtain ⟨u,rfl,ru⟩:=cB rv
   obtain ⟨t2,rfl⟩:=ru
   exact SC.find ⟨.int _,H,I.tok _,⟨_,rfl⟩,h⟩
 · exact h.elim
def fV:V→List V→Hp→VK→Prop
 | .str x,[.str y],H,Q=>(y.length==0)=false∧x.length≤sizeLine∧(Txt.split x y).length≤sizeLine∧∀ l,H l=none→Q (.ref l) (upd H l (.lst ((Txt.split x y).map V.str)))
 | _,_,_,_=>False
theorem fW:MtR X "str.split" fV:=by
 intro pins s σ H x vs v us Q I rx rv h
 unfold fV at h
 split at h
 · rename_i x y
   obtain ⟨t,rfl⟩:=rx
   obtain ⟨u,rfl,ru⟩:=cB rv
   obtain ⟨t2,rfl⟩:=ru
   obtain ⟨hy,hx,hn,q⟩:=h
   have fin:∀ (l:List (Str × Tok)) (k:Nat),l.map (·.1)=Txt.split x y→EP X pins σ Q (.ref s.heap.objs.size) { s with heap:=s.heap.push { cls:=.type "list",data:=.seq (strValues l).toArray },toks:=k }:=fun l k e=>by
    refine ⟨.ref s.heap.objs.size,_,I.lnew (t':=k) (ys:=(Txt.split x y).map V.str) (its:=strValues l) ?_ (by rw [List.length_map]; exact hn),rfl,q _ I.fresh⟩
    rw [← e]
    exact lJ l
   cases h1:(decide (x.length < y.length)||decide (strKind x < strKind y))
   · cases hf:(occurrences x y 0 x.length (x.length+1)).isEmpty
     · have e3:Txt.split x y=partsBetween x (occurrences x y 0 x.length (x.length+1)) y.length:=(if_neg (ne_true_of_eq_false h1)).trans (if_neg (ne_true_of_eq_false hf))
       refine call_meets F.slot_str_split (typeIs_str _ _ _) F.entry_str_split (F.args_str_split_2 _ _) (meets_str_split_sep x y t t2 h1 hy hf hx (by rw [← e3]; exact hn)) ?_
       show wants _ _ _ { s with toks:=_,heap:=s.heap.push { cls:=.type "list",data:=.seq (strsFrom s.toks (partsBetween x (occurrences x y 0 x.length (x.length+1)) y.length)).toArray } }
       rw [strsFrom_eq]
       exact fin (numbered s.toks _) _ ((numbered_texts _ _).trans e3.symm)
     · exact call_meets F.slot_str_split (typeIs_str _ _ _) F.entry_str_split (F.args_str_split_2 _ _) (meets_str_split_not_found x y t t2 h1 hy hf)
        (fin [(x,t)] s.toks ((if_neg (ne_true_of_eq_false h1)).trans (if_pos hf)).symm)
   · exact call_meets F.slot_str_split (typeIs_str _ _ _) F.entry_str_split (F.args_str_split_2 _ _) (meets_str_split_cannot_occur x y t t2 h1)
      (fin [(x,t)] s.toks (if_pos h1).symm)
 · exact h.elim
def ip:V→Option Int→Option Int→Hp→VK→Prop
 | .ref p,lo,hi,H,Q=>cSl (.ref p) lo hi H Q
 | .str z,lo,hi,H,Q=>z.length≤sizeLine∧Q (.str (Txt.slice z lo hi)) H
 | _,_,_,_,_=>False
theorem jZ:SlR X ip:=by
 intro pins s σ H x v vl vu lo hi sl Q I rx hs pl pu h
 cases x with
 | ref p=>exact sr pins s σ H _ v vl vu lo hi sl Q I rx hs pl pu h
 | str z=>
  obtain ⟨hz,q⟩:=(show z.length≤sizeLine∧Q (.str (Txt.slice z lo hi)) H from h)
  obtain ⟨t,rfl⟩:=rx
  have fin:∀ t' k,EP X pins σ Q (.str (Txt.slice z lo hi) t') { s with toks:=k }:=fun t' k=>⟨.str _,H,I.tok k,⟨t',rfl⟩,q⟩
  refine ⟨"str",_,F.slot_str_getitem.lookup,typeIs_str _ _ _,?_⟩
  cases pl with
  | none=>
   cases pu with
   | none=>exact wpAny_getItem_str_slice (l:=none) (u:=none) (st:=none) hs rfl (post_val_or_str ⟨Nat.le_trans (Txt.slice_le z _ _) hz,fin⟩)
   | int j tj=>exact wpAny_getItem_str_slice (l:=none) (u:=some (j,tj)) (st:=none) hs rfl (post_val_or_str ⟨Nat.le_trans (Txt.slice_le z _ _) hz,fin⟩)
  | int i ti=>
   cases pu with
   | none=>exact wpAny_getItem_str_slice (l:=some (i,ti)) (u:=none) (st:=none) hs rfl (post_val_or_str ⟨Nat.le_trans (Txt.slice_le z _ _) hz,fin⟩)
   | int j tj=>exact wpAny_getItem_str_slice (l:=some (i,ti)) (u:=some (j,tj)) (st:=none) hs rfl (post_val_or_str ⟨Nat.le_trans (Txt.slice_le z _ _) hz,fin⟩)
 | _=>exact False.elim h
def Its (x:Str):It:=⟨fun i _=>i < x.cps.size,fun i H v H'=>H'=H∧∃ c,x.cps[i]? =some c∧v=.str ⟨#[c]⟩,fun i _=>x.cps.size≤i⟩
theorem mI {P:Program} {w:World} {K:PySem.W.Frag} {tg:Expr} {x:Str} {t:Tok} (it:Addr) (ty:String) (hty:["enumerate","zip","dict_itemiterator","dict_reverseitemiterator","odict_iterator","itertools.zip_longest","itertools.pairwise"].contains ty=false)
  (W:∀ A:Around,A.handled=none→Walks P w A it [it] [it] x.cps.size (SignAt x) (fun i h=>h.IsStrIter it ty x t i))
  (slf:∀ (A:Around) (i:Nat) (s:Shared) (Q:Value→Shared→Prop) (E:Value→Shared→Prop),s.heap.IsStrIter it ty x t i→Q (.ref it) s→wpAny (model P w) A (pyIter (.ref it)) Q E s):
  Turn P w K tg (Its x) [it] it (fun i h=>i≤x.cps.size∧h.IsStrIter it ty x t i) where
 mem:=by simp
 obj:=fun i h st b hb=>by
  have e:b=it:=by simpa using hb
  subst e
  obtain ⟨_,o,e,c,d⟩:=st
  exact ⟨o,e,fun v z=>by rw [d] at z; cases z⟩
 keep:=fun i h h' st k=>by
  obtain ⟨hi,o,e,c,d⟩:=st
  exact ⟨hi,o,k it (by simp) o e,c,d⟩
 item:=by
  intro X hP hw hK hc i pins s σ H E I hf st hg
  subst hP hw hK
  obtain ⟨f0,f1,f2,f3,f4,f5⟩:=hf it (by simp)
  have hlt:i < x.cps.size:=hg
  refine (W X.A (I.ok.hd hc)).item i s _ _ hlt st.2 fun v h' tk hv st' kk=>?_
  obtain ⟨c,u,hcu,rfl⟩:=hv
  have I1:Inv X pins σ H { s with heap:=h',toks:=tk }:=I.turned (fun b o hb e=>kk b o (by simpa using hb) e) f0 f1 f3 f4 f5
  obtain ⟨o,e,c',d⟩:=id st'
  exact ⟨_,rfl,md (s:={ s with heap:=h',toks:=tk }) e c' d hty ⟨.str ⟨#[c]⟩,H,I1,⟨u,rfl⟩,⟨rfl,c,hcu,rfl⟩,⟨hlt,st'⟩,fun b hb=>(hf b hb).1⟩⟩
 done:=by
  intro X hP hw hK hc i pins s σ H E I hf st hg
  subst hP hw hK
  obtain ⟨f0,f1,f2,f3,f4,f5⟩:=hf it (by simp)
  have hle:x.cps.size≤i:=hg
  have e:i=x.cps.size:=Nat.le_antisymm st.1 hle
  subst e
  exact (W X.A (I.ok.hd hc)).done s _ _ st.2 fun h' tk kk=>⟨rfl,I.turned (fun b o hb e=>kk b o (by simpa using hb) e) f0 f1 f3 f4 f5⟩
 self:=fun A i s Q E st h=>slf A i s Q E st.2 h
def iStr (tl:TE):TI:=fun σ H R=>tl σ H fun x H1=>∃ z,x=.str z∧R (Its z) H1
theorem o1 {tg l:Expr} {tl:TE} (hl:PE X l tl):PI X tg l (iStr tl):=by
 intro pins s σ H R I h
 refine thn (hl pins s σ H _ I h) fun v s1 ⟨x,H1,I1,r1,q1⟩=>?_
 obtain ⟨z,rfl,q⟩:=q1
 obtain ⟨t,rfl⟩:=r1
 have fin:∀ b∈[s1.heap.objs.size],FpOk X pins H1 b:=fun b hb=>by
  have e:b=s1.heap.objs.size:=by simpa using hb
  subst e
  exact I1.fpOk (Nat.le_refl _) (I1.hok.fresh (Nat.le_refl _))
 cases ha:z.cps.all (· < 128)
 · refine wpAny_pyIter_wide ha ⟨s1.heap.objs.size,[s1.heap.objs.size],_,Its z,H1,rfl,I1.kept (t':=s1.toks) fun b o e=>Heap.get?_push_of_some _ e,mI (t:=t) _ "str_iterator" (by decide) (fun A' hA=>Walks.strWide hA _ z t) (fun A i s Q E st hq=>wpAny_pyIter_striter_wide st hq),⟨Nat.zero_le _,_,Heap.get?_push_size _ rfl,rfl,rfl⟩,fin,q⟩
 · refine wpAny_pyIter_ascii ha ⟨s1.heap.objs.size,[s1.heap.objs.size],_,Its z,H1,rfl,I1.kept (t':=s1.toks) fun b o e=>Heap.get?_push_of_some _ e,mI (t:=t) _ "str_ascii_iterator" (by decide) (fun A' hA=>Walks.strAscii hA _ z t) (fun A i s Q E st hq=>wpAny_pyIter_striter_ascii st hq),⟨Nat.zero_le _,_,Heap.get?_push_size _ rfl,rfl,rfl⟩,fin,q⟩
end
section
variable {K:PySem.W.Frag} {g:TG} {tb:TS} {D:Ends} {σ:St} {H:Hp} {tl:TE} {ix:List (Option Nat)} {tt:TT} {te ta:TE} {k:Nat} {Q:VK}
theorem gT {r:V→Option Int→Option Int→Hp→VK→Prop} {a b:TO}:tSl r te a b σ H Q=te σ H fun x H1=>a σ H1 fun l H2=>b σ H2 fun u H3=>r x l u H3 Q:=rfl
theorem dB {R:Option Int→Hp→Prop}:tPart te σ H R=te σ H fun x H1=>∃ i,x=.int i∧R (some i) H1:=rfl
theorem bZ {R:Option Int→Hp→Prop}:gp σ H R=R none H:=rfl
theorem dC {to ti:TE} {t:TSet} {v:V} {R:St→Hp→Prop}:gSub to ti t v σ H R=to σ H fun o H1=>ti σ H1 fun i H2=>t o i v H2 fun H3=>R σ H3:=rfl
theorem gU {r:V→Hp→VK→Prop}:tUn r te σ H Q=te σ H fun x H1=>r x H1 Q:=rfl
theorem dD:tFor (iStr tl) g tb D σ H=tl σ H fun x H1=>∃ z,x=.str z∧LoopR (Its z) g tb D σ H1:=rfl
theorem cx:tComp ix (iStr tl) g tt te σ H Q=tl σ H fun x H1=>∃ z,x=.str z∧CompR (Its z) g tt te (fun l H'=>Q (.ref l) H') (subσ ix σ) H1:=rfl
theorem b2:sComp k ix (iStr tl) g tt te D σ H=tl σ H fun x H1=>∃ z,x=.str z∧CompR (Its z) g tt te (fun l H'=>D.nx (σ.set k (some (.ref l))) H') (subσ ix σ) H1:=rfl
theorem b9 {x:Str}:tyV K "str" (.str x) H:=rfl
theorem fI {i j:Str}:cEq K (.str i) (.str j) H Q=Q (.bl (decide (i=j))) H:=rfl
theorem fJ {i j:Str}:cNe K (.str i) (.str j) H Q=Q (.bl (!decide (i=j))) H:=rfl
theorem dE {z:Str}:kLen [.str z] H Q=(z.length≤sizeLine∧Q (.int z.length) H):=rfl
theorem cq {i j:Str}:cAdd (.str i) (.str j) H Q=(i.length+j.length≤sizeLine∧Q (.str (i++j)) H):=rfl
theorem on {z:Str} {i:Int}:cIx (.str z) (.int i) H Q=(z.length≤sizeLine∧bnd (atI z.cps.toList i) fun c=>Q (.str ⟨#[c]⟩) H):=rfl
theorem dF {x y:Str}:kFind (.str x) [.str y] H Q=Q (.int (Txt.find x y)) H:=rfl
theorem g9 {x y:Str}:fV (.str x) [.str y] H Q=((y.length==0)=false∧x.length≤sizeLine∧(Txt.split x y).length≤sizeLine∧∀ l,H l=none→Q (.ref l) (upd H l (.lst ((Txt.split x y).map V.str)))):=rfl
theorem o2 {sep:Str} {p:Addr} {ts:List Str} (hp:H p=some (.lst (ts.map V.str))) (hok:JoinOk sep ts=true) (h:Q (.str (Txt.join sep ts)) H):kJoin (.str sep) [.ref p] H Q:=by
 unfold kJoin
 dsimp only
 rw [hp]
 exact ⟨ts,rfl,hok,h⟩
theorem oo {p:Addr} {lo hi:Option Int} {xs:List V} (hp:H p=some (.lst xs)) (h:∀ l,H l=none→Q (.ref l) (upd H l (.lst (cutV xs lo hi)))):ip (.ref p) lo hi H Q:=by
 show bnd (unL (H p)) _
 rw [hp]
 exact h
end
end L2
namespace L2
open PySem PySem.Spec PyProof.Rows
def cBitI (g:Int→Int→Int):R2
 | .int i,.int j,H,Q=>Q (.int (g i j)) H
 | _,_,_,_=>False
def cShr:R2
 | .int i,.int j,H,Q=>0≤j∧Q (.int (i / 2^j.toNat)) H
 | _,_,_,_=>False
section
variable {H:Hp} {Q:VK} {i j:Int}
theorem hE {g:Int→Int→Int}:cBitI g (.int i) (.int j) H Q=Q (.int (g i j)) H:=rfl
theorem i7:cShr (.int i) (.int j) H Q=(0≤j∧Q (.int (i / 2^j.toNat)) H):=rfl
end
end L2
namespace L2
open PySem PySem.Spec PyProof.Rows
section
variable {X:Cx}
def kInt:List V→Hp→VK→Prop
 | [.int i],H,Q=>Q (.int i) H
 | [.bl k],H,Q=>Q (.int (if k then 1 else 0)) H
 | _,_,_=>False
def qD:V→List V→Hp→VK→Prop
 | .int i,[],H,Q=>Q (.int (Builtin.Int.intBits i:Nat)) H
 | _,_,_,_=>False
def cRepL:R2
 | .ref l,.int k,H,Q=>bnd (unM (H l)) fun xs=> -(2^63)≤k∧k < 2^63∧xs.length*k.toNat≤sizeLine∧∀ p,H p=none→Q (.ref p) (upd H p (.lst (List.replicate k.toNat xs).flatten))
 | _,_,_,_=>False
theorem pT:OpR X (binaryOp .Mult) cRepL:=by
 intro pins s σ H x y v u Q I rx ry h
 unfold cRepL at h
 split at h
 · obtain ⟨xs,e,h1,h2,h3,q⟩:=aN h
   exact rq pins s σ H _ _ v u Q I rx ry ⟨_,_,xs,rfl,rfl,dl e,h1,h2,h3,q⟩
 · exact h.elim
def kAll:List V→Hp→VK→Prop
 | [.ref p],H,Q=>bnd (unL (H p)) fun ys=>∃ bs:List Bool,ys=bs.map V.bl∧Q (.bl (bs.all id)) H
 | _,_,_=>False
theorem o3 (bs:List Bool):(List.range bs.length).all (fun i=>bs.getD i false)=bs.all id:=by
 rw [Bool.eq_iff_iff,List.all_eq_true,List.all_eq_true]
 constructor
 · intro h b hb
   obtain ⟨i,hi,e⟩:=List.mem_iff_getElem.mp hb
   have:=h i (List.mem_range.mpr hi)
   rw [List.getD,List.getElem?_eq_getElem hi,e] at this
   exact this
 · intro h i hi
   have hi':i < bs.length:=List.mem_range.mp hi
   have:=h bs[i] (List.getElem_mem hi')
   simpa [List.getD,hi'] using this
theorem o4:bootBuiltins "all"=some (.builtin "all"):=by decide+kernel
theorem lK (hc:X.calm=true):CallR X (.builtin "all") kAll:=by
 intro pins s σ H xs us Q I r h
 unfold kAll at h
 split at h
 · rename_i p
   obtain ⟨ys,e,bs,rfl,q⟩:=aN h
   obtain ⟨u,rfl,ru⟩:=cB r
   cases ru
   obtain ⟨its,rv,pl,hz⟩:=I.list (mC e)
   have hl:=rv.length
   rw [List.length_map] at hl
   have hlt:p < s.heap.objs.size:=by
    obtain ⟨o,h1,_⟩:=pl.isList
    exact Heap.lt_size h1
   refine call_all_walkS (wpAny_pyIter_list pl.isList ?_)
   refine ⟨s.heap.objs.size,_,_,_,its.toArray.size,_,_,fun i=>bs.getD i false,rfl,(Walks.list (A:=X.A.in1) (I.ok.hd hc) s.heap.objs.size p (Nat.ne_of_lt hlt) its.toArray).toS,⟨⟨_,Heap.get?_push_size _ rfl,rfl,rfl⟩,pl.isList.push _⟩,?_,fun s' hm=>?_⟩
   · intro i v s1 Q1 E1 hP hQ
     have hv:its[i]? =some v:=by simpa using hP
     obtain ⟨x,hx,rx⟩:=rv.get' hv
     obtain ⟨b,hb,rfl⟩:∃ b,bs[i]? =some b∧V.bl b=x:=by simpa using hx
     cases rx
     refine wpAny_truthy_bool ?_
     have e3:bs.getD i false=b:=by simp [List.getD,hb]
     rw [← e3]
     exact hQ
   · refine ⟨.bl _,H,I.walked (l:=p) hm,?_,q⟩
     have e2:its.toArray.size=bs.length:=by rw [List.size_toArray]; exact hl.symm
     rw [e2,o3]
     rfl
 · exact h.elim
def Itd (hi:Int) (n:Nat):It:=⟨fun i _=>i < n,fun i H x H'=>H'=H∧x=.int (hi - i),fun i _=>n≤i⟩
def iRngD (ta:TA):TI:=fun σ H R=>ta σ H fun vs H1=>∃ i j:Int,vs=[.int i,.int j,.int (-1)]∧(-(2^60)≤i∧i < 2^60∧ -(2^60)≤j∧j < 2^60)∧R (Itd i (i - j).toNat) H1
end
section
variable {K:PySem.W.Frag} {g:TG} {tb:TS} {D:Ends} {σ:St} {H:Hp} {ta:TA} {Q:VK}
theorem hJ {k:Bool}:kInt [.bl k] H Q=Q (.int (if k then 1 else 0)) H:=rfl
theorem hV {i:Int}:kInt [.int i] H Q=Q (.int i) H:=rfl
theorem eC {i:Int}:qD (.int i) [] H Q=Q (.int (Builtin.Int.intBits i:Nat)) H:=rfl
theorem qf {p:Addr} {bs:List Bool} (hp:H p=some (.lst (bs.map V.bl))) (h:Q (.bl (bs.all id)) H):kAll [.ref p] H Q:=by
 show bnd (unL (H p)) _
 rw [hp]
 exact aU (a:=bs.map V.bl) rfl ⟨bs,rfl,h⟩
theorem rH {p:Addr} {xs:List V} {k:Int} (hp:H p=some (.lst xs)) (h0:0≤k) (h1:k≤1000) (hn:xs.length≤1) (h:∀ l,H l=none→Q (.ref l) (upd H l (.lst (List.replicate k.toNat xs).flatten))):cRepL (.ref p) (.int k) H Q:=by
 show bnd (unM (H p)) _
 rw [hp]
 refine aU (a:=xs) rfl ⟨by omega,by omega,?_,h⟩
 refine Nat.le_of_lt (aI (Nat.le_trans (Nat.mul_le_mul_right _ hn) ?_))
 omega
theorem gq:tFor (iRngD ta) g tb D σ H=ta σ H fun vs H1=>∃ i j:Int,vs=[.int i,.int j,.int (-1)]∧(-(2^60)≤i∧i < 2^60∧ -(2^60)≤j∧j < 2^60)∧LoopR (Itd i (i - j).toNat) g tb D σ H1:=rfl
end
end L2
namespace L2
open PySem PySem.Spec PyProof.Rows
section
variable {X:Cx}
def Ite (K:PySem.W.Frag) (a:Addr):It:=
 ⟨fun i H=>∃ xs x,SqL K H a xs∧xs[i]? =some x,
  fun i H v H'=>∃ T x,v=.ref T∧H T=none∧H'=upd H T (.tup [.int i,x])∧∀ xs,SqL K H a xs→xs[i]? =some x,
  fun i H=>∃ xs,SqL K H a xs∧xs.length≤i⟩
def iEnum (K:PySem.W.Frag) (ta:TA):TI:=fun σ H R=>ta σ H fun vs H1=>∃ a,vs=[.ref a]∧(∃ xs,SqL K H1 a xs)∧R (Ite K a) H1
end
section
variable {K:PySem.W.Frag} {g:TG} {tb:TS} {D:Ends} {σ:St} {H:Hp} {ta:TA} {Q:VK} {ix:List (Option Nat)} {tt:TT} {te:TE} {k:Nat}
theorem hX:tFor (iEnum K ta) g tb D σ H=ta σ H fun vs H1=>∃ a,vs=[.ref a]∧(∃ xs,SqL K H1 a xs)∧LoopR (Ite K a) g tb D σ H1:=rfl
theorem gr:tComp ix (iEnum K ta) g tt te σ H Q=ta σ H fun vs H1=>∃ a,vs=[.ref a]∧(∃ xs,SqL K H1 a xs)∧CompR (Ite K a) g tt te (fun l H'=>Q (.ref l) H') (subσ ix σ) H1:=rfl
theorem eD:sComp k ix (iEnum K ta) g tt te D σ H=ta σ H fun vs H1=>∃ a,vs=[.ref a]∧(∃ xs,SqL K H1 a xs)∧CompR (Ite K a) g tt te (fun l H'=>D.nx (σ.set k (some (.ref l))) H') (subσ ix σ) H1:=rfl
end
end L2
namespace L2
open PySem PySem.Spec PyProof.Rows
end L2
namespace L2
open PySem PySem.Spec PyProof.Rows
end L2
namespace L2
open PySem PySem.Spec PyProof.Rows
def rngL (i j:Int):List Int:=(List.range (j - i).toNat).map fun (k:Nat)=>i+(k:Int)
theorem jy (i j:Int):(rngL i j).length=(j - i).toNat:=by unfold rngL; simp
theorem js:∀ {xs:List V} {us:List Value},xs.length=us.length→(∀ (i:Nat) x u,xs[i]? =some x→us[i]? =some u→RelV x u)→Vals xs us
 | [],[],_,_=>.nil
 | [],_::_,h,_=>by simp at h
 | _::_,[],h,_=>by simp at h
 | x::xs,u::us,h,f=>.cons (f 0 x u rfl rfl) (js (by simpa using h) fun i y e h1 h2=>f (i+1) y e (by simpa using h1) (by simpa using h2))
theorem pU {i j:Int} {acc:Array Value} (h:ItemsOf (fun k v=>∃ t,v=.int (i+k*1) t) acc (j - i).toNat):Vals ((rngL i j).map V.int) acc.toList:=by
 refine js (by rw [List.length_map,jy,Array.length_toList]; exact h.1.symm) fun k x u hx hu=>?_
 obtain ⟨t,rfl⟩:=h.2 k u (by simpa using hu)
 unfold rngL at hx
 rw [List.map_map,List.getElem?_map] at hx
 by_cases hk:k < (j - i).toNat
 · rw [List.getElem?_range hk] at hx
   cases hx
   exact ⟨t,by rw [Int.mul_one]⟩
 · rw [List.getElem?_eq_none (by simpa using hk)] at hx
   cases hx
section
variable {X:Cx}
def gL (ta:TA):TE:=fun σ H Q=>ta σ H fun vs H1=>∃ j:Int,vs=[.int j]∧ -(2^60)≤j∧j≤1000∧∀ l,H1 l=none→Q (.ref l) (upd H1 l (.lst ((rngL 0 j).map V.int)))
def o5 (ta:TA):TE:=fun σ H Q=>ta σ H fun vs H1=>∃ i j:Int,vs=[.int i,.int j]∧(0≤i∧i≤1000∧ -(2^60)≤j∧j≤1000)∧∀ l,H1 l=none→Q (.ref l) (upd H1 l (.lst ((rngL i j).map V.int)))
theorem pV {pins:List (Addr × Obj)} {σ:St} {H1:Hp} {s1:Shared} {Q:VK} {i j:Int} {t u v:Tok} {tk:Nat} {A:Around} {E:Value→Shared→Prop} (hh:A.handled=none) (I1:Inv X pins σ H1 s1) (h1:0≤i) (h2:i≤1000) (h3: -(2^60)≤j) (h4:j≤1000)
  (q:∀ l,H1 l=none→Q (.ref l) (upd H1 l (.lst ((rngL i j).map V.int)))):
  wpAny (model X.prog X.w) A (call (.type "list") [.ref s1.heap.objs.size]) (EP X pins σ Q) E { s1 with heap:=s1.heap.push { cls:=.type "range",data:=.fields #[.int i t,.int j u,.int 1 v] },toks:=tk }:=by
 have I2:Inv X pins σ H1 { s1 with heap:=s1.heap.push { cls:=.type "range",data:=.fields #[.int i t,.int j u,.int 1 v] },toks:=tk }:=I1.kept fun b o e=>Heap.get?_push_of_some _ e
 refine call_list_range (n:=(j - i).toNat) hh (IsRange.new ..) (small_one (by omega) (by omega) (by omega) (by omega)) (by rw [rangeSize_one]; split <;> omega) (by omega) fun h' tk' acc' c' old hS' hacc=>?_
 have hlen:((rngL i j).map V.int).length≤sizeLine:=by rw [List.length_map,jy]; exact Nat.le_of_lt (aI (by omega))
 exact ⟨.ref _,_,I2.laid (t':=tk') (o:=.lst ((rngL i j).map V.int)) old (Nat.le_refl _) ⟨hlen,acc'.toList,c',pU hacc,hS'⟩,rfl,q _ (I2.hok.fresh (Nat.le_refl _))⟩
theorem jt {a:Expr} {ta:TA} {p p2 pos pos2:Pos} (hc:X.calm=true) (hgl:Gl X "list") (hgr:Gl X "range") (hl:X.mg "list"=none) (hr:X.mg "range"=none) (ha:PA X [a] ta)
  (hs1:starEach [.Call (.Name "range" p2) [a] [] pos2] X.env=[(false,eval (.Call (.Name "range" p2) [a] [] pos2) X.env)]:=by rfl) (hs:starEach [a] X.env=[(false,eval a X.env)]:=by rfl):
  PE X (.Call (.Name "list" p) [.Call (.Name "range" p2) [a] [] pos2] [] pos) (gL ta):=by
 intro pins s σ H Q I h
 refine wpAny_Call_Name_kw (fR I hgl hl dY ?_ (by decide) (by decide))
 refine PyProof.Rows.callWith_type1 ?_ hs1 rfl
 rw [hs1]
 show wpAny _ _ (spliced [(false,eval (.Call (.Name "range" p2) [a] [] pos2) X.env)]) _ _ s
 refine Calls.spliced_cons ?_
 refine Call_ (fR I hgr hr boot_range (PyProof.Rows.callWith_type1 (thn (ha pos2 pins s σ H _ I h) fun us s1 ⟨vs,H1,I1,r1,q1⟩=>?_) hs rfl))
 obtain ⟨j,e,q1,q2,q⟩:=q1
 subst e
 cases r1 with
 | cons r rr=>
  cases rr
  obtain ⟨t,rfl⟩:=r
  refine call_range_1 ?_
  refine Calls.spliced_nil ?_
  exact pV (I.ok.hd hc) I1 (by omega) (by omega) q1 q2 q
end
section
variable {σ:St} {H:Hp} {Q:VK} {ta:TA}
theorem gs:gL ta σ H Q=ta σ H fun vs H1=>∃ j:Int,vs=[.int j]∧ -(2^60)≤j∧j≤1000∧∀ l,H1 l=none→Q (.ref l) (upd H1 l (.lst ((rngL 0 j).map V.int))):=rfl
theorem gt:o5 ta σ H Q=ta σ H fun vs H1=>∃ i j:Int,vs=[.int i,.int j]∧(0≤i∧i≤1000∧ -(2^60)≤j∧j≤1000)∧∀ l,H1 l=none→Q (.ref l) (upd H1 l (.lst ((rngL i j).map V.int))):=rfl
end
end L2
namespace L2
end L2
namespace L2
open PySem PySem.Spec PyProof.Rows
local macro_rules | `(tactic| walk_at "w")=>`(tactic| (first | simp only [aQ,dm,fh,bf,fi,w_c,gQ,dI,dn,dq,dr,w_b,w_not,fj,gR,dt,du,fk,fm,dv,gS,dw,fo,fq,gB,ft,cp,dy,dz,dA,cu,cw,b6,bX,bY,bE,fu,fv,fw,fz,fA,fB,fC,fD,fE,fF,fG,fH,gT,dB,bZ,dC,gU,dD,cx,b2,fI,fJ,dE,cq,dF,
 List.getElem?_cons_zero,List.getElem?_cons_succ,Option.some.injEq,exists_eq_left',exists_eq_left,List.set_cons_zero,List.set_cons_succ,bK,V.int.injEq,V.bl.injEq,V.ref.injEq,V.str.injEq,List.append_nil,List.nil_append,List.cons_append] | dsimp only | skip))
theorem aF {n:Nat} (h:n≤1000):n≤sizeLine:=Nat.le_of_lt (aI h)
def IsFl (H:Hp) (a:Addr) (h w g:Int):Prop:=H a=some (.tup [.int h,.int w,.int g])
theorem Same.laid {H H':Hp} {p:Addr} {o:HO} (s:Same H H') (h:H' p=none):Same H (upd H' p o):=fun b u e=>by
 rw [ah (aw (s b u e) h)]
 exact s b u e
theorem Same.own {H H':Hp} {p:Addr} {o:HO} (s:Same H H') (h:H p=none):Same H (upd H' p o):=fun b u e=>by
 rw [ah (aw e h)]
 exact s b u e
theorem kX {l:List Int} {i:Nat} {x:Int} (h:l[i]? =some x):l.getD i 0=x:=by
 rw [List.getD,h]; rfl
theorem mJ {ns:List Int} {k:Int} (h0:0≤k) (h1:k < ns.length):atI (ns.map V.int) k=some (.int (ns.getD k.toNat 0)):=by
 have e:((k.toNat:Nat):Int)=k:=Int.toNat_of_nonneg h0
 have hlt:k.toNat < ns.length:=by omega
 have:(ns.map V.int)[k.toNat]? =some (.int (ns.getD k.toNat 0)):=by
  rw [List.getElem?_map,List.getElem?_eq_getElem hlt]
  simp [List.getD,hlt]
 have q:=g7 this
 rw [e] at q
 exact q
theorem bV {α:Type} (l:List α):l.filter (fun _=>true)=l:=List.filter_eq_self.mpr fun _ _=>rfl
theorem fK {l:List Int} {i:Nat} {y:V} (h:(l.map V.int)[i]? =some y):∃ z,l[i]? =some z∧y=.int z:=by
 rw [List.getElem?_map] at h
 cases e:l[i]? with
 | none=>rw [e] at h; cases h
 | some z=>rw [e] at h; cases h; exact ⟨z,rfl,rfl⟩
theorem gM {h w:Int} (h0:1≤h) (h1:h≤6):CMul h w:=.inl ⟨by omega,by omega⟩
section
variable {k:Nat} {lo:Int} {n:Nat} {tt:TT} {te:TE} {fin:Addr→Hp→Prop} {σ0:St} {H1:Hp} {K:PySem.W.Frag} {a:Addr}
theorem jz {n i:Nat} (b:Nat→Bool) (h:i < n) (hn:n≤900):((List.range i).filter b).length≤900:=by
 have:=List.length_filter_le b (List.range i)
 rw [List.length_range] at this
 omega
theorem nk (b:Nat→Bool) (f:Nat→V) (hn:n≤900)
  (ht:∀ i H R,i < n→Same H1 H→(∀ H',Same H H'→R (b i) H')→tt (σ0.set k (some (.int (lo+i)))) H R)
  (he:∀ i H Q,i < n→b i=true→Same H1 H→(∀ H',Same H H'→Q (f i) H')→te (σ0.set k (some (.int (lo+i)))) H Q)
  (hd:∀ l H,H1 l=none→Same H1 H→H l=some (.lst (((List.range n).filter b).map f))→fin l H):
  CompR (Itr lo n) (gName k) tt te fin σ0 H1:=by
 refine jX (fun l i σ H=>(σ=σ0∨∃ cv,σ=σ0.set k cv)∧Same H1 H∧H l=some (.lst (((List.range i).filter b).map f))) (fun l hl=>⟨.inl rfl,(Same.refl H1).laid hl,by rw [ad]; rfl⟩) ?_ (fun l σ H hl p=>hd l H hl p.2.1 p.2.2)
 rintro l i σ H hl hi ⟨hσ,s1,el⟩
 rw [bf]
 have e:σ.set k (some (.int (lo+i)))=σ0.set k (some (.int (lo+i))):=by
  rcases hσ with rfl | ⟨cv,rfl⟩
  · rfl
  · exact List.set_set ..
 rw [e]
 refine ht i H _ hi s1 fun H2 s2=>?_
 have el2:=s2 _ _ el
 cases hb:b i with
 | false=>
  rw [if_neg Bool.false_ne_true]
  refine ⟨.inr ⟨_,rfl⟩,s1.trans s2,?_⟩
  rw [List.range_succ,List.filter_append,List.filter_cons,hb]
  simpa using el2
 | true=>
  rw [if_pos rfl]
  refine he i H2 _ hi hb (s1.trans s2) fun H3 s3=>⟨_,s3 _ _ el2,by rw [List.length_map]; exact aI (Nat.le_trans (jz b hi hn) (by decide)),.inr ⟨_,rfl⟩,((s1.trans s2).trans s3).own hl,?_⟩
  rw [ad,List.range_succ,List.filter_append,List.filter_cons,hb]
  simp
theorem c5 {xs:List V} (b:Nat→Bool) (f:Nat→V) (hn:xs.length≤900) (hq:SqL K H1 a xs)
  (ht:∀ i x H R,xs[i]? =some x→Same H1 H→(∀ H',Same H H'→R (b i) H')→tt (σ0.set k (some x)) H R)
  (he:∀ i x H Q,xs[i]? =some x→b i=true→Same H1 H→(∀ H',Same H H'→Q (f i) H')→te (σ0.set k (some x)) H Q)
  (hd:∀ l H,H1 l=none→Same H1 H→H l=some (.lst (((List.range xs.length).filter b).map f))→fin l H):
  CompR (Itl K a) (gName k) tt te fin σ0 H1:=by
 refine lI (xs:=xs) (fun l i σ H=>(σ=σ0∨∃ cv,σ=σ0.set k cv)∧Same H1 H∧H l=some (.lst (((List.range i).filter b).map f))) (fun l hl=>⟨.inl rfl,(Same.refl H1).laid hl,by rw [ad]; rfl⟩) (fun l i σ H _ _ p=>p.2.1.seq hq) ?_ (fun l σ H hl p=>hd l H hl p.2.1 p.2.2)
 rintro l i x σ H hl hx ⟨hσ,s1,el⟩
 have hi:i < xs.length:=(List.getElem?_eq_some_iff.mp hx).1
 rw [bf]
 have e:σ.set k (some x)=σ0.set k (some x):=by
  rcases hσ with rfl | ⟨cv,rfl⟩
  · rfl
  · exact List.set_set ..
 rw [e]
 refine ht i x H _ hx s1 fun H2 s2=>?_
 have el2:=s2 _ _ el
 cases hb:b i with
 | false=>
  rw [if_neg Bool.false_ne_true]
  refine ⟨.inr ⟨_,rfl⟩,s1.trans s2,?_⟩
  rw [List.range_succ,List.filter_append,List.filter_cons,hb]
  simpa using el2
 | true=>
  rw [if_pos rfl]
  refine he i x H2 _ hx hb (s1.trans s2) fun H3 s3=>⟨_,s3 _ _ el2,by rw [List.length_map]; exact aI (Nat.le_trans (jz b hi hn) (by decide)),.inr ⟨_,rfl⟩,((s1.trans s2).trans s3).own hl,?_⟩
  rw [ad,List.range_succ,List.filter_append,List.filter_cons,hb]
  simp
end
theorem nO:∀ {ds:List PyData},(∀ d∈ds,PyData.canLay0 d=true)→PyData.canLayAll0 ds=true
 | [],_=>rfl
 | d::r,h=>by rw [PyData.canLayAll0,h d List.mem_cons_self,nO fun e he=>h e (List.mem_cons_of_mem _ he)]; rfl
theorem lL {n:Nat}:∀ {ds:List PyData},(∀ d∈ds,PyData.depth d≤n)→PyData.depthAll ds≤n
 | [],_=>Nat.zero_le _
 | d::r,h=>by rw [PyData.depthAll]; exact Nat.max_le.mpr ⟨h d List.mem_cons_self,lL fun e he=>h e (List.mem_cons_of_mem _ he)⟩
theorem kY {α:Type} [DecidableEq α] (g:α→PyData) (hg:∀ a b,PyData.eqv (g a) (g b)=decide (a=b)):∀ xs ys:List α,PyData.eqvAll (xs.map g) (ys.map g)=decide (xs=ys)
 | [],[]=>rfl
 | [],_::_=>rfl
 | _::_,[]=>rfl
 | x::xs,y::ys=>by
  rw [List.map_cons,List.map_cons,PyData.eqvAll,hg,kY g hg xs ys,Bool.eq_iff_iff]
  simp
structure FlOk (h w g:Int):Prop where
 h0:1≤h
 h1:h≤6
 w0:1≤w
 w1:w≤6
 m:h*w≤16
 g0:1≤g
 g1:g≤6
section
variable {K:PySem.W.Frag} {H:Hp} {Q:VK}
theorem mK {p:Addr} {xs:List V} (hp:H p=some (.lst xs)) (h:Q (.bl true) H):kIsi [.ref p,.ty "list"] H Q:=by
 refine ⟨by decide,aU (a:="list") (by unfold gA; dsimp only; rw [hp]) ?_⟩
 rw [show isTy "list" "list"=true by decide]
 exact h
theorem o6 {p:Addr} {xs:List V} (hp:H p=some (.tup xs)) (h:Q (.bl true) H):kIsi [.ref p,.ty "tuple"] H Q:=by
 refine ⟨by decide,aU (a:="tuple") (by unfold gA; dsimp only; rw [hp]) ?_⟩
 rw [show isTy "tuple" "tuple"=true by decide]
 exact h
theorem rJ {x:Str} (h:Q (.bl true) H):kIsi [.str x,.ty "str"] H Q:=by
 refine ⟨by decide,aU (a:="str") rfl ?_⟩
 rw [show isTy "str" "str"=true by decide]
 exact h
theorem pW {p q:Addr} {xs ys:List V} (hp:H p=some (.lst xs)) (hq:H q=some (.lst ys)) (hn:xs.length+ys.length≤1000) (h:Q .non (upd H p (.lst (xs++ys)))):i5 (.ref p) [.ref q] H Q:=by
 show bnd (unM (H p)) _
 rw [hp]
 show bnd (unM (H q)) _
 rw [hq]
 exact ⟨Nat.le_of_lt (aI hn),h⟩
theorem qE {p:Addr} {xs:List V} (hp:H p=some (.lst xs)) (h:Q .non (upd H p (.lst []))):jV (.ref p) [] H Q:=by
 show bnd (unM (H p)) _
 rw [hp]
 exact h
end
end L2
namespace L2
open PySem PySem.Builtin PySem.Builtin.Str
def tx (l:List Nat):Str:=⟨l.toArray⟩
theorem dG (l:List Nat):(tx l).cps.toList=l:=by simp [tx]
theorem qg (x:Str):tx x.cps.toList=x:=by cases x; simp [tx]
theorem o7 {a b:List Nat} (h:tx a=tx b):a=b:=by rw [← dG a,h,dG]
theorem ak (l:List Nat):(tx l).length=l.length:=by simp [tx,Str.length]
theorem bL (a b:List Nat):tx a++tx b=tx (a++b):=by
 refine Str.ext' ?_
 rw [Str.cps_append]
 simp [tx]
theorem iM (a b:List Nat):decide (tx a=tx b)=decide (a=b):=by
 by_cases h:a=b
 · subst h; simp
 · have:¬ tx a=tx b:=fun e=>h (o7 e)
   rw [decide_eq_false h,decide_eq_false this]
def catL (c:Nat):List (List Nat)→List Nat
 | []=>[]
 | [x]=>x
 | x::y::r=>x++c::catL c (y::r)
theorem eE (c:Nat):∀ ts:List (List Nat),Str.join (tx [c]) (ts.map tx)=tx (catL c ts)
 | []=>rfl
 | [x]=>rfl
 | x::y::r=>by
  show tx x++tx [c]++Str.join (tx [c]) ((y::r).map tx)=_
  rw [eE c (y::r),bL,bL]
  show tx _=tx (x++c::catL c (y::r))
  rw [List.append_assoc]; rfl
theorem mL:∀ ts:List (List Nat),Str.join (tx []) (ts.map tx)=tx ts.flatten
 | []=>rfl
 | [x]=>by show tx x=tx [x].flatten; simp
 | x::y::r=>by
  show tx x++tx []++Str.join (tx []) ((y::r).map tx)=_
  rw [mL (y::r),bL,bL]
  simp
theorem ca (sep:Str) (ts:List Str):Txt.join sep ts=Str.join sep ts:=StrLaws.glued_eq_join sep ts
theorem nP {c:Nat}:∀ {a b x y:List Nat},c∉a→c∉b→a++c::x=b++c::y→a=b∧x=y
 | [],[],_,_,_,_,h=>⟨rfl,by simpa using h⟩
 | [],b::bs,_,_,_,hb,h=>by
  simp at h
  exact absurd (List.mem_cons.mpr (.inl h.1)) hb
 | a::as,[],_,_,ha,_,h=>by
  simp at h
  exact absurd (List.mem_cons.mpr (.inl h.1.symm)) ha
 | a::as,b::bs,x,y,ha,hb,h=>by
  simp at h
  have:=nP (fun z=>ha (List.mem_cons_of_mem _ z)) (fun z=>hb (List.mem_cons_of_mem _ z)) h.2
  exact ⟨by rw [h.1,this.1],this.2⟩
theorem mM {c:Nat}:∀ {x:List Nat} {r:List (List Nat)} {y:List Nat},c∈catL c (x::y::r):=by
 intro x r y
 show c∈x++c::_
 simp
theorem mN {c:Nat}:∀ {xs ys:List (List Nat)},xs≠[]→ys≠[]→(∀ x∈xs,c∉x)→(∀ y∈ys,c∉y)→catL c xs=catL c ys→xs=ys
 | [],_,h,_,_,_,_=>absurd rfl h
 | _,[],_,h,_,_,_=>absurd rfl h
 | [x],[y],_,_,_,_,h=>by
  have h':x=y:=h
  rw [h']
 | [x],y::z::r,_,_,hx,_,h=>by
  have h':x=catL c (y::z::r):=h
  exact absurd (h' ▸ mM) (hx x List.mem_cons_self)
 | x::z::r,[y],_,_,_,hy,h=>by
  have h':catL c (x::z::r)=y:=h
  exact absurd (h' ▸ mM) (hy y List.mem_cons_self)
 | x::z::r,y::u::s,_,_,hx,hy,h=>by
  obtain ⟨e1,e2⟩:=nP (hx x List.mem_cons_self) (hy y List.mem_cons_self) (show x++c::catL c (z::r)=y++c::catL c (u::s) from h)
  rw [e1,mN (by simp) (by simp) (fun w hw=>hx w (List.mem_cons_of_mem _ hw)) (fun w hw=>hy w (List.mem_cons_of_mem _ hw)) e2]
theorem pX (x y:Str):Txt.split x y≠[]:=by
 intro h
 unfold Txt.split at h
 split at h
 · cases h
 · split at h
   · cases h
   · rw [StrLaws.partsBetween_eq] at h
     obtain ⟨p,r,e⟩:=StrLaws.partsFrom_ne x y.length 0 (occurrences x y 0 x.length (x.length+1))
     rw [e] at h; cases h
theorem jA {c:Nat} {rows:List (List Nat)} (hne:rows≠[]) (hf:∀ r∈rows,c∉r):Txt.split (tx (catL c rows)) (tx [c])=rows.map tx:=by
 have h1:=StrLaws.join_split (tx (catL c rows)) (tx [c])
 have h2:∀ p∈Txt.split (tx (catL c rows)) (tx [c]),c∉p.cps.toList:=StrLaws.split_free _ c
 have h3:=pX (tx (catL c rows)) (tx [c])
 generalize Txt.split (tx (catL c rows)) (tx [c])=S at*
 have e:S=(S.map (·.cps.toList)).map tx:=by
  rw [List.map_map]
  conv=>lhs; rw [← List.map_id S]
  exact List.map_congr_left fun x _=>(qg x).symm
 rw [e,eE] at h1
 have h4:=o7 h1
 have h5:=mN (c:=c) (xs:=S.map (·.cps.toList)) (ys:=rows) (by simpa using h3) hne (fun x hx=>by obtain ⟨p,hp,rfl⟩:=List.mem_map.mp hx; exact h2 p hp) hf h4
 rw [e,h5]
theorem qF (l:List Nat) (c:Nat):Txt.find (tx l) (tx [c])=if c∈l then ((l.idxOf c:Nat):Int) else -1:=by
 have at_:∀ i,StrLaws.At (tx l) (tx [c]) (tx l).length i↔l[i]? =some c:=fun i=>by
  unfold StrLaws.At
  rw [StrLaws.subAt_eq,dG,dG,ak,ak]
  show i+1≤l.length∧((l.drop i).take 1==[c])=true↔_
  rw [StrLaws.take1_drop]
  refine ⟨fun h=>h.2,fun h=>⟨?_,h⟩⟩
  have:=(List.getElem?_eq_some_iff.mp h).1
  omega
 unfold Txt.find
 rcases StrLaws.occ_head (tx l) (tx [c]) 1 (Nat.le_refl _) with ⟨e,h⟩ | ⟨i,r,e,h,hn⟩
 · rw [e]
   have:c∉l:=fun m=>by
    obtain ⟨i,hi,e⟩:=List.mem_iff_getElem.mp m
    exact h i ((at_ i).mpr (by rw [List.getElem?_eq_getElem hi,e]))
   rw [if_neg this]
 · rw [e]
   have hi:=(at_ i).mp h
   rw [if_pos (List.mem_of_getElem? hi)]
   have h1:l.idxOf c=i:=by
    obtain ⟨hlt,he⟩:=List.getElem?_eq_some_iff.mp hi
    have hm:c∈l:=List.mem_of_getElem? hi
    have h2:=List.idxOf_lt_length_of_mem hm
    have h3:l[l.idxOf c]? =some c:=by rw [List.getElem?_eq_getElem h2,List.getElem_idxOf h2]
    rcases Nat.lt_trichotomy (l.idxOf c) i with q | q | q
    · exact absurd ((at_ _).mpr h3) (hn _ q)
    · exact q
    · have h4:=List.not_of_lt_findIdx (p:=(· ==c)) (xs:=l) (i:=i) q
      simp [he] at h4
   show ((i:Nat):Int)=_
   rw [h1]
end L2
namespace L2
def figc (s:Int):Nat:=[46,49,50,51,52,53,54].getD s.toNat 0
def rowAt (w:Nat) (xs:List Int) (r:Nat):List Int:=(xs.drop (r*w)).take w
def rowsL (h w:Nat) (xs:List Int):List (List Int):=(List.range h).map (rowAt w xs)
def showL (h w:Nat) (xs:List Int):List Nat:=catL 47 ((rowsL h w xs).map (·.map figc))
theorem qG {s:Int}:figc s≠47:=by
 unfold figc
 generalize s.toNat=n
 match n with
 | 0 | 1 | 2 | 3 | 4 | 5 | 6=>decide
 | n+7=>simp
theorem nQ (c:Nat):∀ rows:List (List Nat),(catL c rows).length≤(rows.map (·.length)).sum+rows.length
 | []=>Nat.zero_le _
 | [x]=>by simp [catL]
 | x::y::r=>by
  have:=nQ c (y::r)
  show (x++c::catL c (y::r)).length≤_
  rw [List.length_append,List.length_cons]
  simp only [List.map_cons,List.sum_cons,List.length_cons] at this ⊢
  omega
theorem iN (w:Nat) (xs:List Int):∀ h:Nat,h*w≤xs.length→(rowsL h w xs).flatten=xs.take (h*w)
 | 0,_=>by simp [rowsL]
 | h+1,hl=>by
  have hl':h*w+w≤xs.length:=by rw [Nat.succ_mul] at hl; exact hl
  have ih:=iN w xs h (by omega)
  unfold rowsL at ih ⊢
  rw [List.range_succ,List.map_append,List.flatten_append,ih,Nat.succ_mul,List.take_add]
  simp [rowAt]
theorem qH {w:Nat} {xs:List Int} {h r:Nat} (hr:r < h) (hl:h*w≤xs.length):(rowAt w xs r).length=w:=by
 unfold rowAt
 rw [List.length_take,List.length_drop]
 have:(r+1)*w≤h*w:=Nat.mul_le_mul_right _ hr
 rw [Nat.succ_mul] at this
 omega
theorem kZ {w:Nat} {xs:List Int} {r:Nat} {x:Int} (h:x∈rowAt w xs r):x∈xs:=List.mem_of_mem_drop (List.mem_of_mem_take h)
theorem gN {h w:Nat} {xs:List Int} (h6:h≤6) (w6:w≤6):(showL h w xs).length≤100:=by
 refine Nat.le_trans (nQ ..) ?_
 have hb:∀ l:List (List Nat),(∀ r∈l,r.length≤6)→(l.map (·.length)).sum≤6*l.length:=by
  intro l hl
  induction l with
  | nil=>simp
  | cons a r ih=>
   have h1:=hl a List.mem_cons_self
   have h2:=ih fun x hx=>hl x (List.mem_cons_of_mem _ hx)
   simp only [List.map_cons,List.sum_cons,List.length_cons]
   omega
 have:=hb ((rowsL h w xs).map (·.map figc)) (fun r hr=>by
  obtain ⟨y,hy,rfl⟩:=List.mem_map.mp hr
  unfold rowsL at hy
  obtain ⟨i,_,rfl⟩:=List.mem_map.mp hy
  rw [List.length_map]
  unfold rowAt
  rw [List.length_take]
  omega)
 have hlen:((rowsL h w xs).map (·.map figc)).length=h:=by simp [rowsL]
 rw [hlen] at this ⊢
 omega
theorem pY {s:Int} (h0:0≤s) (h6:s≤6):PySem.Txt.find (tx [46,49,50,51,52,53,54]) (tx [figc s])=s:=by
 rw [qF]
 have:s=0∨s=1∨s=2∨s=3∨s=4∨s=5∨s=6:=by omega
 rcases this with rfl | rfl | rfl | rfl | rfl | rfl | rfl <;> decide
end L2
namespace L2
open PySem PySem.Spec PyProof.Rows
local macro_rules | `(tactic| walk_at "w")=>`(tactic| (first | simp only [aQ,dm,fh,bf,fi,w_c,gQ,dI,dn,dq,dr,w_b,w_not,fj,gR,dt,du,fk,fm,dv,gS,dw,fo,fq,gB,ft,cp,dy,dz,dA,cu,cw,b6,bX,bY,bE,fu,fv,fw,fz,fA,fB,fC,fD,fE,fF,fG,fH,gT,dB,bZ,dC,gU,dD,cx,b2,fI,fJ,dE,cq,dF,
 List.getElem?_cons_zero,List.getElem?_cons_succ,Option.some.injEq,exists_eq_left',exists_eq_left,List.set_cons_zero,List.set_cons_succ,bK,V.int.injEq,V.bl.injEq,V.ref.injEq,V.str.injEq,List.append_nil,List.nil_append,List.cons_append] | dsimp only | skip))
section
variable {k:Nat} {tt:TT} {te:TE} {fin:Addr→Hp→Prop} {σ0:St} {H1:Hp}
theorem lM {cs:List Nat} (b:Nat→Bool) (f:Nat→V) (hn:cs.length≤900)
  (ht:∀ i c H R,cs[i]? =some c→Same H1 H→(∀ H',Same H H'→R (b i) H')→tt (σ0.set k (some (.str (tx [c])))) H R)
  (he:∀ i c H Q,cs[i]? =some c→b i=true→Same H1 H→(∀ H',Same H H'→Q (f i) H')→te (σ0.set k (some (.str (tx [c])))) H Q)
  (hd:∀ l H,H1 l=none→Same H1 H→H l=some (.lst (((List.range cs.length).filter b).map f))→fin l H):
  CompR (Its (tx cs)) (gName k) tt te fin σ0 H1:=by
 intro l hl
 have hsz:(tx cs).cps.size=cs.length:=by simp [tx]
 refine ⟨fun i m σ H=>m=cs.length - i∧i≤cs.length∧(σ=σ0∨∃ cv,σ=σ0.set k cv)∧Same H1 H∧H l=some (.lst (((List.range i).filter b).map f)),⟨cs.length,by simp,Nat.zero_le _,.inl rfl,(Same.refl H1).laid hl,by rw [ad]; rfl⟩,?_⟩
 rintro i m σ H ⟨rfl,hi,hσ,s1,el⟩
 by_cases hlt:i < cs.length
 · refine .inr ⟨by show i < (tx cs).cps.size; rw [hsz]; exact hlt,fun σ H=>(σ=σ0∨∃ cv,σ=σ0.set k cv)∧Same H1 H∧H l=some (.lst (((List.range (i+1)).filter b).map f)),fun σ' H' p'=>⟨cs.length - (i+1),by omega,rfl,hlt,p'⟩,?_⟩
   rintro x H' ⟨rfl,c,hc,rfl⟩
   have hc':cs[i]? =some c:=by simpa [tx] using hc
   show gName k (.str (tx [c])) σ H' _
   rw [bf]
   have e:σ.set k (some (.str (tx [c])))=σ0.set k (some (.str (tx [c]))):=by
    rcases hσ with rfl | ⟨cv,rfl⟩
    · rfl
    · exact List.set_set ..
   rw [e]
   refine ht i c H' _ hc' s1 fun H2 s2=>?_
   have el2:=s2 _ _ el
   cases hb:b i with
   | false=>
    rw [if_neg Bool.false_ne_true]
    refine ⟨.inr ⟨_,rfl⟩,s1.trans s2,?_⟩
    rw [List.range_succ,List.filter_append,List.filter_cons,hb]
    simpa using el2
   | true=>
    rw [if_pos rfl]
    refine he i c H2 _ hc' hb (s1.trans s2) fun H3 s3=>⟨_,s3 _ _ el2,by rw [List.length_map]; exact aI (Nat.le_trans (jz b hlt hn) (by decide)),.inr ⟨_,rfl⟩,((s1.trans s2).trans s3).own hl,?_⟩
    rw [ad,List.range_succ,List.filter_append,List.filter_cons,hb]
    simp
 · have e:i=cs.length:=by omega
   subst e
   exact .inl ⟨by show (tx cs).cps.size≤_; rw [hsz]; exact Nat.le_refl _,hd l H hl s1 el⟩
end
theorem fY {α:Type} (xs:List Int) (g:Int→α):(List.range xs.length).map (fun i=>g (xs.getD i 0))=xs.map g:=by
 have e:xs=(List.range xs.length).map fun i=>xs.getD i 0:=by
  refine List.ext_getElem? fun i=>?_
  rw [List.getElem?_map]
  by_cases h:i < xs.length
  · rw [List.getElem?_range h,List.getElem?_eq_getElem h]
    simp [List.getD,h]
  · rw [List.getElem?_eq_none (by omega),List.getElem?_eq_none (by simpa using h)]; rfl
 conv=>rhs; rw [e]
 rw [List.map_map]
 rfl
theorem nR {xs:List V} {a b:Nat} (hab:a≤b) (hb:b≤xs.length):cutV xs (some (a:Int)) (some (b:Int))=(xs.drop a).take (b - a):=by
 have h1:HT.sIx xs.length 0 (some (a:Int))=a:=by rw [HT.sIx_nat]; omega
 have h2:HT.sIx xs.length xs.length (some (b:Int))=b:=by rw [HT.sIx_nat]; omega
 unfold cutV
 rw [h1,h2]
theorem ba {sep:Str} {ts:List Str} (h1:ts.length≤1000) (h2:∀ t∈ts,t.length≤1000) (h3:sep.length≤10):JoinOk sep ts=true:=by
 unfold JoinOk
 rw [Bool.not_eq_true']
 refine StrLaws.joinFits (B:=1000) h2 ?_
 have a1:ts.length*1000≤1000*1000:=Nat.mul_le_mul_right _ h1
 have a2:ts.length*sep.length≤1000*10:=Nat.mul_le_mul h1 h3
 omega
end L2
namespace L2
open PySem PySem.Spec PyProof.Rows
abbrev rIsN:R2:=fun x y H Q=>y=.non∧Q (.bl (decide (x=.non))) H
abbrev rNotN:R2:=fun x y H Q=>y=.non∧Q (.bl (!decide (x=.non))) H
def kStr:List V→Hp→VK→Prop
 | [.int i],H,Q=>i.natAbs.log2 < 1920∧Q (.str (Str.ofString (toString i))) H
 | _,_,_=>False
section
variable {X:Cx}
theorem cV:CallR X (.type "str") kStr:=by
 intro pins s σ H xs us Q I r h
 unfold kStr at h
 split at h
 · obtain ⟨hi,q⟩:=h
   cases r with
   | cons r0 rr=>
    cases rr
    obtain ⟨t,rfl⟩:=r0
    exact PySem.P.str_of_int hi ⟨.str _,H,I.tok _,⟨_,rfl⟩,q⟩
 · exact h.elim
end
section
variable {K:PySem.W.Frag} {H:Hp} {Q:VK}
theorem j2 {x:V}:rIsN x .non H Q=Q (.bl (decide (x=.non))) H:=by simp [rIsN]
theorem iO {x:V}:rNotN x .non H Q=Q (.bl (!decide (x=.non))) H:=by simp [rNotN]
theorem i8 {i:Int}:kStr [.int i] H Q=(i.natAbs.log2 < 1920∧Q (.str (Str.ofString (toString i))) H):=rfl
end
end L2
namespace L2
open PySem PySem.Spec PyProof.Rows
structure Bt2 (mg:Str→Option Value):Prop extends Bt mg where
 all_:mg "all"=none
 sum_:mg "sum"=none
 enumerate_:mg "enumerate"=none
section
variable {K:PySem.W.Frag} {H:Hp} {Q:VK} {D:Ends} {σ:St} {g:TG} {tb:TS} {ta:TA} {ix:List (Option Nat)} {tt:TT} {te tf:TE} {k:Nat}
theorem i9:tIf tt te tf σ H Q=tt σ H fun c H1=>if c=true then te σ H1 Q else tf σ H1 Q:=rfl
theorem eH:tComp ix (nY ta) g tt te σ H Q=ta σ H fun vs H1=>∃ i j:Int,vs=[.int i,.int j]∧(-(2^62)≤i∧i < 2^62∧ -(2^62)≤j∧j < 2^62)∧CompR (Itr i (j - i).toNat) g tt te (fun l H'=>Q (.ref l) H') (subσ ix σ) H1:=rfl
theorem dZ:sComp k ix (nY ta) g tt te D σ H=ta σ H fun vs H1=>∃ i j:Int,vs=[.int i,.int j]∧(-(2^62)≤i∧i < 2^62∧ -(2^62)≤j∧j < 2^62)∧CompR (Itr i (j - i).toNat) g tt te (fun l H'=>D.nx (σ.set k (some (.ref l))) H') (subσ ix σ) H1:=rfl
theorem isiE {x:V} {n t:String} {b:Bool} (hx:gA H x=some t) (hn:i4 n=true) (hb:isTy t n=b):kIsi [x,.ty n] H Q=Q (.bl b) H:=by
 subst hb
 show (i4 n=true∧bnd (gA H x) fun t=>Q (.bl (isTy t n)) H)=_
 rw [hx]
 simp only [hn,true_and,bK]
theorem eI {i:Int}:kIsi [.int i,.ty "int"] H Q=Q (.bl true) H:=isiE (t:="int") rfl (by decide) (by decide)
theorem eJ {i:Int}:kIsi [.int i,.ty "bool"] H Q=Q (.bl false) H:=isiE (t:="int") rfl (by decide) (by decide)
theorem eK {i:Int}:kIsi [.int i,.ty "str"] H Q=Q (.bl false) H:=isiE (t:="int") rfl (by decide) (by decide)
theorem eM {i:Bool}:kIsi [.bl i,.ty "bool"] H Q=Q (.bl true) H:=isiE (t:="bool") rfl (by decide) (by decide)
theorem eN {i:Bool}:kIsi [.bl i,.ty "int"] H Q=Q (.bl true) H:=isiE (t:="bool") rfl (by decide) (by decide)
theorem eP {i:Str}:kIsi [.str i,.ty "str"] H Q=Q (.bl true) H:=isiE (t:="str") rfl (by decide) (by decide)
theorem eQ {i:Bool}:kIsi [.bl i,.ty "str"] H Q=Q (.bl false) H:=isiE (t:="bool") rfl (by decide) (by decide)
theorem h9 {A B:Prop}:(if true=true then A else B)=A:=if_pos rfl
theorem ia {A B:Prop}:(if false=true then A else B)=B:=if_neg Bool.false_ne_true
theorem ib {i:Int}:rU (fun i=>.int (-i)) (.int i) H Q=Q (.int (-i)) H:=by
 refine propext ⟨?_,fun h=>⟨i,rfl,h⟩⟩
 rintro ⟨j,e,h⟩
 cases e
 exact h
theorem ixT {p:Addr} {i:Int} {xs:List V} {v:V} (h:H p=some (.tup xs)) (e:atI xs i=some v) (q:Q v H):cIx (.ref p) (.int i) H Q:=by
 rw [iL h]; exact aU e q
theorem ixL {p:Addr} {i:Int} {xs:List V} {v:V} (h:H p=some (.lst xs)) (e:atI xs i=some v) (q:Q v H):cIx (.ref p) (.int i) H Q:=by
 rw [sh h]; exact aU e q
theorem ixI {p:Addr} {i:Int} {ns:List Int} (h:H p=some (.lst (ns.map V.int))) (h0:0≤i) (h1:i < ns.length) (q:Q (.int (ns.getD i.toNat 0)) H):cIx (.ref p) (.int i) H Q:=ixL h (mJ h0 h1) q
end
end L2
namespace L2
open PySem PySem.Spec PyProof.Rows
end L2
namespace L2
open PySem PySem.Spec PyProof.Rows
end L2
namespace L2
open PySem PySem.Spec PyProof.Rows
end L2
namespace L2
open PySem PySem.Spec PyProof.Rows
end L2
namespace L2
open PySem PySem.Spec PyProof.Rows
end L2
namespace L2
open PySem PySem.Spec PyProof.Rows
def cMulB:R2
 | .int i,.int j,H,Q=>IntMulOk i j∧Q (.int (i*j)) H
 | _,_,_,_=>False
end L2
namespace Att
open PySem PySem.W PySem.Calls PyProof.Rows
end Att
namespace L2
open PySem PySem.Spec PyProof.Rows
section
variable {K:PySem.W.Frag} {H:Hp} {Q:VK} {D:Ends} {σ:St}
theorem sv {i j:Int}:cMulB (.int i) (.int j) H Q=(IntMulOk i j∧Q (.int (i*j)) H):=rfl
theorem j3 {i j:Int}:cPow (.int i) (.int j) H Q=(CPow i j∧Q (.int (i^j.toNat)) H):=rfl
theorem qI {ix:List (Option Nat)} {tl:TE} {g:TG} {tt:TT} {te:TE}:tComp ix (iTup K tl) g tt te σ H Q=tl σ H fun x H1=>∃ a,x=.ref a∧(∃ xs,SqT K H1 a xs)∧CompR (Itt K a) g tt te (fun l H'=>Q (.ref l) H') (subσ ix σ) H1:=rfl
theorem si {p q:Addr} {xs ys:List Int} (hp:H p=some (.tup (xs.map V.int))) (hq:H q=some (.tup (ys.map V.int))) (h:Q (.bl (!decide (xs=ys))) H):cNe K (.ref p) (.ref q) H Q:=by
 show rNeD K (.ref p) (.ref q) H Q
 refine ⟨.tuple (xs.map PyData.int),.tuple (ys.map PyData.int),.tup (SqT.of hp) (.ints xs),.tup (SqT.of hq) (.ints ys),iJ xs,iJ ys,?_⟩
 rw [PyData.eqv,mD]
 exact h
theorem rK {p q:Addr} {xs ys:List V} (hp:H p=some (.lst xs)) (hq:H q=some (.lst ys)) (hn:xs.length+ys.length≤1000) (h:∀ r,H r=none→Q (.ref r) (upd H r (.lst (xs++ys)))):cAdd (.ref p) (.ref q) H Q:=by
 show bnd (unM (H p)) _
 rw [hp]
 refine aU (a:=xs) rfl ?_
 rw [hq]
 exact aU (a:=ys) rfl ⟨Nat.le_of_lt (aI hn),h⟩
theorem pZ {g:TG} {tt:TT} {te:TE} {a:Addr} {xs:List V} {fin:Addr→Hp→Prop} {σ0:St} {H1:Hp} (Pv:Addr→Nat→St→Hp→Prop) (h0:∀ l,H1 l=none→Pv l 0 σ0 (upd H1 l (.lst []))) (hq:∀ l i σ H,H1 l=none→i≤xs.length→Pv l i σ H→SqT K H a xs)
  (hs:∀ l i x σ H,H1 l=none→xs[i]? =some x→Pv l i σ H→g x σ H fun σ2 H3=>tt σ2 H3 fun b H4=>if b=true then te σ2 H4 fun y H5=>∃ ys,H5 l=some (.lst ys)∧ys.length < sizeLine∧Pv l (i+1) σ2 (upd H5 l (.lst (ys++[y]))) else Pv l (i+1) σ2 H4)
  (hd:∀ l σ H,H1 l=none→Pv l xs.length σ H→fin l H):CompR (Itt K a) g tt te fin σ0 H1:=by
 intro l hl0
 refine ⟨fun i m σ H=>m=xs.length - i∧i≤xs.length∧Pv l i σ H,⟨xs.length,by simp,Nat.zero_le _,h0 l hl0⟩,?_⟩
 rintro i m σ H ⟨rfl,hi,p⟩
 have q:=hq l i σ H hl0 hi p
 by_cases hlt:i < xs.length
 · refine .inr ⟨⟨xs,xs[i],q,by simp [hlt]⟩,Pv l (i+1),fun σ' H' p'=>⟨xs.length - (i+1),by omega,rfl,hlt,p'⟩,fun x H' y=>?_⟩
   obtain ⟨e,y⟩:=y
   subst e
   exact hs l i x σ _ hl0 (y xs q) p
 · have e:i=xs.length:=by omega
   subst e
   exact .inl ⟨⟨xs,q,Nat.le_refl _⟩,hd l σ H hl0 p⟩
end
end L2
namespace L2
open PySem PySem.Spec PyProof.Rows
inductive RK where
 | Rule | Unlike | Sum | Rising | Seen | Count | Joined | NoSquare | Ring
 deriving DecidableEq
structure RCl (ι:Type) where
 A:ι→Addr
 ok:ι→Bool
section
variable {ι:Type}
def tFldK (c:RCl ι) (ta:TE) (f:Str):TE:=fun σ H Q=>ta σ H fun x H1=>∃ a k dx fs v,x=.ref a∧c.ok k=true∧H1 a=some (.ins (c.A k) dx fs)∧fs.lookup f=some v∧Q v H1
def sFldK (c:RCl ι) (ta tv:TE) (f:Str):TS:=fun D σ H=>tv σ H fun y H1=>ta σ H1 fun x H2=>∃ a k dx fs,x=.ref a∧c.ok k=true∧H2 a=some (.ins (c.A k) dx fs)∧fs.length < 1000∧
 D.nx σ (upd H2 a (.ins (c.A k) dx (putF f y fs)))
def bb (c:RCl ι) (okm:ι→Bool) (m:Str) (sp:ι→Sp) (ta:TE) (t:TA):TE:=fun σ H Q=>ta σ H fun x H1=>∃ a k dx fs,x=.ref a∧okm k=true∧H1 a=some (.ins (c.A k) dx fs)∧fs.lookup m=none∧
 t σ H1 fun vs H2=>sp k (x::vs) H2 Q E0
structure FldK (K:PySem.W.Frag) (c:RCl ι) (f:Str):Prop where
 ex:∀ k,c.ok k=true→Cls K (c.A k)∧NoAttr K (c.A k) f
structure MCal (P:Program) (w:World) (K:PySem.W.Frag) (mg:Str→Option Value) (base:Heap) (c:RCl ι) (okm:ι→Bool) (k:Nat) (m:Str) (ps:List Str) (sp:ι→Sp):Prop where
 ex:∀ i,okm i=true→∃ (f:Addr) (fd:FuncData),Cls K (c.A i)∧Meth K (c.A i) m f∧FnOk P w K mg base CX0 k f fd ps (sp i)∧Binds K fd ps []
structure KCal (P:Program) (w:World) (K:PySem.W.Frag) (mg:Str→Option Value) (base:Heap) (k:Nat) (x:Str) (C:Addr) (ps:List Str) (sp:Sp):Prop where
 ex:∃ (f:Addr) (fd:FuncData),Mk K C f∧FnOk P w K mg base CX0 k f fd ps sp∧mg x=some (.ref C)∧Binds K fd ps []
end
section
variable {ι:Type} {X:Cx} {c:RCl ι} {o e value:Expr} {es:List Expr} {f x m:Str} {p pos pos' apos:Pos} {ta tv:TE} {t:TA} {okm:ι→Bool} {k n:Nat} {ps:List Str} {sp:ι→Sp} {sp1:Sp} {C:Addr}
theorem eT (he:PE X e ta) (F:FldK X.K c f) (hb:attributeBase e f X.env (eval e X.env)=eval e X.env:=by rfl):PE X (.Attribute e f pos) (tFldK c ta f):=by
 intro pins s σ H Q I h
 refine qq hb (thn (he pins s σ H _ I h) fun u s1 ⟨x,H1,I1,rx,a,k,dx,fs,v,ex,hk,ea,l,q⟩=>?_)
 subst ex
 obtain rfl:u=Value.ref a:=rx
 obtain ⟨cl,na⟩:=F.ex k hk
 exact n6 I1 ea cl na l fun u' s2 I2 ru=>⟨v,H1,I2,ru,q⟩
theorem d2 (ha:PE X o ta) (hv:PE X value tv) (F:FldK X.K c f) (hs:swapsWith value (some (.Attribute o f pos')) pos.line X.env=pure false:=by rfl):PS X (.Assign [.Attribute o f pos'] value pos) (sFldK c ta tv f):=by
 intro pins s σ H D I h
 refine plainObj_wpAny_Assign_Attribute (thn (hv pins s σ H _ I h) fun u s1 ⟨y,H1,I1,ry,q⟩=>thn (ha pins s1 σ H1 _ I1 q) fun ov s2 ⟨x,H2,I2,rx,a,k,dx,fs,ex,hk,ea,l,q2⟩=>?_) hs
 subst ex
 obtain rfl:ov=Value.ref a:=rx
 obtain ⟨cl,na⟩:=F.ex k hk
 exact oa I2 ea cl na l ry fun s3 I3=>⟨σ,_,I3,q2⟩
theorem p5 {pl:Sem Bool} (M:MCal X.prog X.w X.K X.mg X.base c okm k m ps sp) (hr:Room n X.A) (hk:k≤n) (he:PE X o ta) (ha:PA X (e::es) t)
  (hst:starEach (e::es) X.env=(false,eval e X.env)::starEach es X.env:=by rfl) (hpl:(backTo pos (starEach es X.env)).any (·.1)=false:=by rfl)
  (ht:eval (.Call (.Attribute o m apos) (e::es) [] pos) X.env=(do
   let ov ← eval o X.env
   standAt apos.atName
   let (f,first) ← holding [ov] (getMethod ov m pl)
   callWith pos f first (backTo pos (starEach (e::es) X.env)) (backToKw pos (keywordEach [] X.env))):=by rfl):
  PE X (.Call (.Attribute o m apos) (e::es) [] pos) (bb c okm m sp ta t):=by
 intro pins s σ H Q I h
 refine PySem.W.methodCall_KW (pl:=pl) (thn (he pins s σ H _ I h) fun u s1 ⟨x,H1,I1,rx,a,i,dx,fs,ex,hi,ea,l,q⟩=>?_) ht
 subst ex
 obtain rfl:u=Value.ref a:=rx
 obtain ⟨f,fd,cl,hm,F,hb⟩:=M.ex i hi
 refine jT I1 ea cl hm l ?_
 refine PySem.W.callWith_K (first:=[.ref a]) (h₀:=X.base) I.ok.mod.kin hm.kp (thn (ha pos pins s1 σ H1 _ I1 q) fun us s2 ⟨vs,H2,I2,r,q2⟩=>⟨I2.kIn,?_⟩) hst hpl
 exact ml (us:=.ref a::us) (vs:=.ref a::vs) F (hr.mono hk) hb .nil me I2 (.cons rfl r) (by rw [List.append_nil]; exact q2)
theorem aY {pl:Sem Bool} (M:MCal X.prog X.w X.K X.mg X.base c okm k m ps sp) (hr:Room n X.A) (hk:k≤n) (he:PE X o ta)
  (ht:eval (.Call (.Attribute o m apos) [] [] pos) X.env=(do
   let ov ← eval o X.env
   standAt apos.atName
   let (f,first) ← holding [ov] (getMethod ov m pl)
   callWith pos f first (backTo pos (starEach [] X.env)) (backToKw pos (keywordEach [] X.env))):=by rfl):
  PE X (.Call (.Attribute o m apos) [] [] pos) (bb c okm m sp ta tNil):=by
 intro pins s σ H Q I h
 refine PySem.W.methodCall_KW (pl:=pl) (thn (he pins s σ H _ I h) fun u s1 ⟨x,H1,I1,rx,a,i,dx,fs,ex,hi,ea,l,q⟩=>?_) ht
 subst ex
 obtain rfl:u=Value.ref a:=rx
 obtain ⟨f,fd,cl,hm,F,hb⟩:=M.ex i hi
 refine jT I1 ea cl hm l ?_
 exact PySem.W.callWith_K0 (first:=[.ref a]) I1.kIn hm.kp (ml (us:=[.ref a]) (vs:=[.ref a]) F (hr.mono hk) hb .nil me I1 (.cons rfl .nil) q)
theorem d5 (M:KCal X.prog X.w X.K X.mg X.base k x C ps sp1) (hr:Room n X.A) (hk:k+1≤n) (hg:Gl X x) (ha:PA X (e::es) t)
  (hdb:(x==("__debug__":Str))=false:=by decide) (he:starEach (e::es) X.env=(false,eval e X.env)::starEach es X.env:=by rfl) (hpl:(backTo pos (starEach es X.env)).any (·.1)=false:=by rfl):
  PE X (.Call (.Name x p) (e::es) [] pos) (tMake C sp1 [] E0 t):=by
 obtain ⟨f,fd,mk,F,hm,hb⟩:=M.ex
 exact qt mk F (hr.mono hk) hg hm hb .nil me ha hdb he hpl
end
def gC (K:PySem.W.Frag):List V→Hp→VK→Prop
 | [.ref p],H,Q=>bnd (unM (H p)) fun ys=>∀ l,H l=none→Q (.ref l) (upd H l (.tup ys))
 | _,_,_=>False
def tInG (ws:List Str) (neg:Bool) (te:TE):TE:=fun σ H Q=>te σ H fun x H1=>∃ z,x=.str z∧Q (.bl (if neg then !decide (z∈ws) else decide (z∈ws))) H1
structure GTup (K:PySem.W.Frag) (mg:Str→Option Value) (x:Str) (ws:List Str):Prop where
 ex:∃ (p:Addr) (o:Obj) (its:Array Value) (n:Nat),mg x=some (.ref p)∧K.lookup p=some o∧o.cls=.type "tuple"∧o.data=.seq its n∧its.size≤sizeLine∧Vals (ws.map V.str) its.toList
theorem iP:∀ ns:List Str,(ns.map V.str).all flatV=true
 | []=>rfl
 | n::r=>by rw [List.map_cons,List.all_cons,iP r]; rfl
theorem jB (i:Str):∀ ns:List Str,inV (.str i) (ns.map V.str)=decide (i∈ns)
 | []=>by simp [inV]
 | n::r=>by
  have ih:=jB i r
  unfold inV at ih ⊢
  rw [List.map_cons,List.any_cons,ih]
  show ((n==i)||decide (i∈r))=decide (i∈n::r)
  rw [Bool.eq_iff_iff,Bool.or_eq_true,beq_iff_eq,decide_eq_true_eq,decide_eq_true_eq,List.mem_cons]
  exact ⟨fun h=>h.elim (fun e=>.inl e.symm) .inr,fun h=>h.elim (fun e=>.inl e.symm) .inr⟩
section
variable {X:Cx} {a:Expr} {ta:TE} {pos p:Pos} {x:Str} {ws:List Str}
theorem ju:CallR X (.type "tuple") (gC X.K):=by
 intro pins s σ H xs us Q I r h
 unfold gC at h
 split at h
 · obtain ⟨ys,e,q⟩:=aN h
   exact lR pins s σ H _ us Q I r ⟨_,ys,rfl,.inl ⟨SqL.of (dl e),q⟩⟩
 · exact h.elim
theorem rL {ws:List Str} {q:Addr} (hq:∃ (o:Obj) (its:Array Value) (n:Nat),X.K.lookup q=some o∧o.cls=.type "tuple"∧o.data=.seq its n∧its.size≤sizeLine∧Vals (ws.map V.str) its.toList):
  OpR X (compareOp .In) (fun x y H Q=>∃ z,x=.str z∧y=.ref q∧Q (.bl (decide (z∈ws))) H):=by
 intro pins s σ H x y v u Q I rx ry h
 obtain ⟨z,rfl,rfl,h⟩:=h
 refine lB pins s σ H _ _ v u Q I rx ry ⟨q,ws.map V.str,rfl,.inr (.inr hq),rfl,iP ws,?_⟩
 rw [jB]
 exact h
theorem qJ {ws:List Str} {q:Addr} (hq:∃ (o:Obj) (its:Array Value) (n:Nat),X.K.lookup q=some o∧o.cls=.type "tuple"∧o.data=.seq its n∧its.size≤sizeLine∧Vals (ws.map V.str) its.toList):
  OpR X (compareOp .NotIn) (fun x y H Q=>∃ z,x=.str z∧y=.ref q∧Q (.bl (!decide (z∈ws))) H):=by
 intro pins s σ H x y v u Q I rx ry h
 obtain ⟨z,rfl,rfl,h⟩:=h
 refine mo pins s σ H _ _ v u Q I rx ry ⟨q,ws.map V.str,rfl,.inr (.inr hq),rfl,iP ws,?_⟩
 rw [jB]
 exact h
end
section
variable {ι:Type} {c:RCl ι} {ta tv:TE} {t:TA} {f m:Str} {σ:St} {H:Hp} {Q:VK} {D:Ends} {okm:ι→Bool} {sp:ι→Sp} {sp1:Sp} {C:Addr} {K:PySem.W.Frag}
theorem iQ:tMake C sp1 [] E0 t σ H Q=t σ H fun vs H1=>∀ x dx,H1 x=none→H1 dx=none→dx≠x→sp1 (.ref x::(vs++[])) (upd (upd H1 dx (.own x)) x (.ins C dx [])) (fun v H2=>v=.non∧Q (.ref x) H2) E0:=rfl
theorem j4 {ws:List Str} {neg:Bool} {te:TE}:tInG ws neg te σ H Q=te σ H fun x H1=>∃ z,x=.str z∧Q (.bl (if neg then !decide (z∈ws) else decide (z∈ws))) H1:=rfl
theorem qK {p:Addr} {xs:List V} (hp:H p=some (.lst xs)) (h:∀ l,H l=none→Q (.ref l) (upd H l (.tup xs))):gC K [.ref p] H Q:=by
 unfold gC
 dsimp only
 rw [hp]
 exact h
end
end L2
namespace L2
open PySem PySem.Spec PyProof.Rows
def cntD (ns:List Int):Nat:=(firstMet (fun i=>ns.getD i 0) ns.length).length
def k4 (te:TE):TE:=fun σ H Q=>te σ H fun x H1=>∃ p ns,x=.ref p∧H1 p=some (.lst (ns.map V.int))∧ns.length≤900∧Q (.int (cntD ns:Nat)) H1
theorem gD {te:TE} {σ:St} {H:Hp} {Q:VK}:k4 te σ H Q=te σ H fun x H1=>∃ p ns,x=.ref p∧H1 p=some (.lst (ns.map V.int))∧ns.length≤900∧Q (.int (cntD ns:Nat)) H1:=rfl
theorem qL:bootBuiltins "set"=some (.type "set"):=by decide+kernel
theorem o8 {X:Cx} {e:Expr} {te:TE} {p p2 pos pos2:Pos} (hc:X.calm=true) (hgl:Gl X "len") (hgs:Gl X "set") (hl:X.mg "len"=none) (hs:X.mg "set"=none) (he:PE X e te)
  (hs1:starEach [.Call (.Name "set" p2) [e] [] pos2] X.env=[(false,eval (.Call (.Name "set" p2) [e] [] pos2) X.env)]:=by rfl) (hs2:starEach [e] X.env=[(false,eval e X.env)]:=by rfl):
  PE X (.Call (.Name "len" p) [.Call (.Name "set" p2) [e] [] pos2] [] pos) (k4 te):=by
 intro pins s σ H Q I h
 refine wpAny_Call_Name_kw (fR I hgl hl bU ?_ (by decide) (by decide))
 refine PyProof.Rows.callWith_builtin1 ?_ hs1 rfl
 rw [hs1]
 show wpAny _ _ (spliced [(false,eval (.Call (.Name "set" p2) [e] [] pos2) X.env)]) _ _ s
 refine Calls.spliced_cons ?_
 refine wpAny_Call_Name_kw (fR I hgs hs qL ?_ (by decide) (by decide))
 refine PyProof.Rows.callWith_type1 ?_ hs2 rfl
 rw [hs2]
 show wpAny _ _ (spliced [(false,eval e X.env)]) _ _ s
 refine Calls.spliced_cons (thn (he pins s σ H _ I h) fun u s1 ⟨x,H1,I1,r1,q1⟩=>?_)
 refine Calls.spliced_nil ?_
 obtain ⟨l,ns,rfl,hys,hn,q⟩:=q1
 cases r1
 obtain ⟨its,n,rv,ho,hz⟩:=I1.lst hys
 have hL:s1.heap.IsList l its.toArray:=⟨_,ho,rfl,n,rfl⟩
 have hI:IntsAre its ns:=oh rv
 have hlen:=rv.length
 rw [List.length_map] at hlen
 refine call_set_list (ns:=ns) (I.ok.hd hc) hL (by simpa using hI) (by rw [List.size_toArray,← hlen]; exact Nat.lt_of_le_of_lt (Nat.succ_le_succ hn) (by decide)) fun h' tk hS old=>?_
 refine Calls.spliced_nil ?_
 obtain ⟨o,es,ep,t,h1,h2,h3,h4,h5,h6,h7,h8⟩:=hS
 have hb:(firstMet (fun i=>ns.getD i 0) its.toArray.size).length≤900:=Nat.le_trans (firstMet_length_le _ _) (by rw [List.size_toArray,← hlen]; exact hn)
 refine call_len_set h1 h2 h3 h7 (by omega) ?_
 have I2:Inv X pins σ H1 { s1 with heap:=h',toks:=tk }:=I1.kept fun b o' e=>old b o' (Heap.lt_size e) e
 refine ⟨.int _,H1,I2.tok _,⟨_,rfl⟩,?_⟩
 rw [h8,List.size_toArray,← hlen]
 exact q
def b7:V→List V→Hp→VK→Prop
 | .str sep,[.ref p],H,Q=>bnd (unS (H p)) fun ys=>∃ ts:List Str,ys=ts.map V.str∧JoinOk sep ts=true∧Q (.str (Txt.join sep ts)) H
 | _,_,_,_=>False
theorem cW {X:Cx}:MtR X "str.join" b7:=by
 intro pins s σ H x vs v us Q I rx rv h
 unfold b7 at h
 split at h
 · rename_i sep p
   obtain ⟨ys,e,ts,rfl,hok,q⟩:=aN h
   rcases iI (K:=X.K) e with hq | hq
   · obtain ⟨t,rfl⟩:=rx
     obtain ⟨u,rfl,ru⟩:=cB rv
     cases ru
     obtain ⟨its,rvv,pl,hz⟩:=I.list hq
     obtain ⟨l,rfl,hl⟩:=i6 rvv
     exact SC.join pl.isList hl hok fun t' k=>⟨.str _,H,I.tok k,⟨t',rfl⟩,q⟩
   · obtain ⟨t,rfl⟩:=rx
     obtain ⟨u,rfl,ru⟩:=cB rv
     cases ru
     obtain ⟨its,rvv,pl,hz⟩:=I.tuple hq
     obtain ⟨l,rfl,hl⟩:=i6 rvv
     subst hl
     obtain ⟨o,h1,h2,n,h3⟩:=pl
     have hok':=hok
     unfold JoinOk at hok'
     rw [Bool.not_eq_true'] at hok'
     exact call_meets F.slot_str_join (typeIs_str _ _ _) F.entry_str_join (F.args_str_join_2 _ _) (meets_str_join_tuple sep t p l hok') ⟨⟨o,n,h1,h2,h3⟩,post_join l ⟨joinFit_length hok',fun t' k=>⟨.str _,H,I.tok k,⟨t',rfl⟩,q⟩⟩⟩
 · exact h.elim
end L2
namespace L2
open PySem PySem.Spec PyProof.Rows
section
variable {X:Cx} {e:Expr} {te:TE} {p2 p3 p4 pos:Pos} {z0:Nat}
def j5:V→List V→Hp→VK→Prop
 | .ref l,[.int i],H,Q=>bnd (unM (H l)) fun xs=>0≤i∧i < xs.length∧bnd (xs[i.toNat]?) fun y=>Q y (upd H l (.lst (xs.eraseIdx i.toNat)))
 | _,_,_,_=>False
theorem seqIx {i:Int} {n:Nat} (h0:0≤i) (h1:i < n):seqIndex? i n=some i.toNat:=by
 obtain ⟨k,rfl⟩:=Int.eq_ofNat_of_zero_le h0
 have hk:k < n:=by omega
 unfold seqIndex?
 have hn:¬ ((k:Int) < 0):=by omega
 simp [hk,hn]
theorem o9:MtR X "list.pop" j5:=by
 intro pins s σ H x vs v us Q I rx rv h
 unfold j5 at h
 split at h
 · obtain ⟨xs,e,h0,h1,h⟩:=aN h
   obtain ⟨y,ey,q⟩:=aN h
   have hz:xs.length≤sizeLine:=(I.lstM (dl e)).1
   have hs:(sizeLine:Int) < 2^63:=by decide
   exact pO pins s σ H _ _ v us Q I rx rv ⟨_,xs,_,_,y,rfl,rfl,dl e,by omega,by omega,seqIx h0 h1,ey,q⟩
 · exact h.elim
def tRevL (te:TE):TE:=fun σ H Q=>te σ H fun x H1=>∃ p xs,x=.ref p∧H1 p=some (.lst xs)∧∀ l,H1 l=none→Q (.ref l) (upd H1 l (.lst xs.reverse))
end
section
variable {σ:St} {H:Hp} {Q:VK} {te:TE}
theorem j6 {i j:Int} {H:Hp} {Q:VK}:kMax [.int i,.int j] H Q=Q (.int (if j > i then j else i)) H:=rfl
theorem iR:tRevL te σ H Q=te σ H fun x H1=>∃ p xs,x=.ref p∧H1 p=some (.lst xs)∧∀ l,H1 l=none→Q (.ref l) (upd H1 l (.lst xs.reverse)):=rfl
theorem qM {l:Addr} {i:Int} {xs:List V} {y:V} (hl:H l=some (.lst xs)) (h0:0≤i) (h1:i < xs.length) (ey:xs[i.toNat]? =some y) (q:Q y (upd H l (.lst (xs.eraseIdx i.toNat)))):j5 (.ref l) [.int i] H Q:=by
 show bnd (unM (H l)) _
 rw [hl]
 exact aU (a:=xs) rfl ⟨h0,h1,aU ey q⟩
end
end L2
namespace L2
open PySem PySem.Spec PyProof.Rows
theorem oq:typeLookup (.type "str") (Str.ofString "__int__")=pure none:=by rw [typeLookup_type,builtinLookup_eq_fast]; kernel_rfl
theorem mO:typeLookup (.type "str") (Str.ofString "__index__")=pure none:=by rw [typeLookup_type,builtinLookup_eq_fast]; kernel_rfl
theorem mP:typeLookup (.type "str") (Str.ofString "__trunc__")=pure none:=by rw [typeLookup_type,builtinLookup_eq_fast]; kernel_rfl
def numC (n:Nat):List Nat:=if n < 10 then [48+n] else [48+n / 10,48+n % 10]
theorem pb {n:Nat} (h:n < 100):((tx (numC n)).cps.all fun x=>decide (x < 128))=true:=by
 have t:((List.range 100).all fun n=>(tx (numC n)).cps.all fun x=>decide (x < 128))=true:=by decide+kernel
 exact List.all_eq_true.mp t n (List.mem_range.mpr h)
theorem pc {α:Type} {M:Model} {A:Around} {E:Value→Shared→Prop} {s:Shared} {Q:α→Shared→Prop} {m m':Sem α} (e:m=m') (h:wpAny M A m' Q E s):wpAny M A m Q E s:=e ▸ h
set_option maxHeartbeats 4000000 in
theorem gis (n:Nat) (hn:n < 100) (u:Tok):Gives (Builtin.«int.__new__» ⟨[.type "int",.str (tx (numC n)) u],[]⟩) (.int n):=
 .of_wp fun M A E s Q h=>by
  obtain ⟨hp,g,d,tk,os⟩:=s
  have f1:=PySem.F.conv_sub_int
  have f2:=PySem.F.madeHere_int
  have f3:=oq
  have f4:=mO
  have f5:=mP
  iterate 44 (any_goals (first | assumption | wp_step))
  refine wpAny_bind (wpAny_of_eq (a:=some (tx (numC n))) rfl ?_)
  refine wpAny_of_eq (a:=some (numC n)) ?e1 ?_
  case e1=>
   show (pure (some (if ((tx (numC n)).cps.all fun x=>decide (x < 128))=true then (tx (numC n)).cps.toList else _)):Sem _)=_
   rw [if_pos (pb hn),dG]
  refine pc (m':=mkInt (n:Int)) ?e2 ?_
  case e2=>
   clear h f1 f2 f3 f4 f5
   match n,hn with | 0,_=>kernel_rfl | 1,_=>kernel_rfl | 2,_=>kernel_rfl | 3,_=>kernel_rfl | 4,_=>kernel_rfl | 5,_=>kernel_rfl | 6,_=>kernel_rfl | 7,_=>kernel_rfl | 8,_=>kernel_rfl | 9,_=>kernel_rfl | 10,_=>kernel_rfl | 11,_=>kernel_rfl | 12,_=>kernel_rfl | 13,_=>kernel_rfl | 14,_=>kernel_rfl | 15,_=>kernel_rfl | 16,_=>kernel_rfl | 17,_=>kernel_rfl | 18,_=>kernel_rfl | 19,_=>kernel_rfl | 20,_=>kernel_rfl | 21,_=>kernel_rfl | 22,_=>kernel_rfl | 23,_=>kernel_rfl | 24,_=>kernel_rfl | 25,_=>kernel_rfl | 26,_=>kernel_rfl | 27,_=>kernel_rfl | 28,_=>kernel_rfl | 29,_=>kernel_rfl | 30,_=>kernel_rfl | 31,_=>kernel_rfl | 32,_=>kernel_rfl | 33,_=>kernel_rfl | 34,_=>kernel_rfl | 35,_=>kernel_rfl | 36,_=>kernel_rfl | 37,_=>kernel_rfl | 38,_=>kernel_rfl | 39,_=>kernel_rfl | 40,_=>kernel_rfl | 41,_=>kernel_rfl | 42,_=>kernel_rfl | 43,_=>kernel_rfl | 44,_=>kernel_rfl | 45,_=>kernel_rfl | 46,_=>kernel_rfl | 47,_=>kernel_rfl | 48,_=>kernel_rfl | 49,_=>kernel_rfl | 50,_=>kernel_rfl | 51,_=>kernel_rfl | 52,_=>kernel_rfl | 53,_=>kernel_rfl | 54,_=>kernel_rfl | 55,_=>kernel_rfl | 56,_=>kernel_rfl | 57,_=>kernel_rfl | 58,_=>kernel_rfl | 59,_=>kernel_rfl | 60,_=>kernel_rfl | 61,_=>kernel_rfl | 62,_=>kernel_rfl | 63,_=>kernel_rfl | 64,_=>kernel_rfl | 65,_=>kernel_rfl | 66,_=>kernel_rfl | 67,_=>kernel_rfl | 68,_=>kernel_rfl | 69,_=>kernel_rfl | 70,_=>kernel_rfl | 71,_=>kernel_rfl | 72,_=>kernel_rfl | 73,_=>kernel_rfl | 74,_=>kernel_rfl | 75,_=>kernel_rfl | 76,_=>kernel_rfl | 77,_=>kernel_rfl | 78,_=>kernel_rfl | 79,_=>kernel_rfl | 80,_=>kernel_rfl | 81,_=>kernel_rfl | 82,_=>kernel_rfl | 83,_=>kernel_rfl | 84,_=>kernel_rfl | 85,_=>kernel_rfl | 86,_=>kernel_rfl | 87,_=>kernel_rfl | 88,_=>kernel_rfl | 89,_=>kernel_rfl | 90,_=>kernel_rfl | 91,_=>kernel_rfl | 92,_=>kernel_rfl | 93,_=>kernel_rfl | 94,_=>kernel_rfl | 95,_=>kernel_rfl | 96,_=>kernel_rfl | 97,_=>kernel_rfl | 98,_=>kernel_rfl | 99,_=>kernel_rfl | (m+100),hm=>exact absurd hm (by omega)
  repeat (any_goals (first | assumption | wp_step))
  all_goals first | exact ⟨_,rfl,h⟩ | skip
def ja:List V→Hp→VK→Prop
 | [.int i],H,Q=>Q (.int i) H
 | [.bl k],H,Q=>Q (.int (if k then 1 else 0)) H
 | [.str z],H,Q=>∃ n:Nat,n < 100∧z=tx (numC n)∧Q (.int n) H
 | _,_,_=>False
theorem or {X:Cx}:CallR X (.type "int") ja:=by
 intro pins s σ H xs us Q I r h
 unfold ja at h
 split at h
 · exact lw pins s σ H _ us Q I r (.inl ⟨_,rfl,h⟩)
 · exact lw pins s σ H _ us Q I r (.inr ⟨_,rfl,h⟩)
 · obtain ⟨n,hn,rfl,q⟩:=h
   obtain ⟨u,rfl,ru⟩:=cB r
   obtain ⟨t,rfl⟩:=ru
   exact call_int_1 (gis n hn t).meets (show (Made.int (n:Int)).post _ s from ⟨rfl,⟨.int n,H,I.tok _,⟨_,rfl⟩,q⟩⟩)
 · exact h.elim
theorem ic {k:Bool} {H:Hp} {Q:VK}:ja [.bl k] H Q=Q (.int (if k then 1 else 0)) H:=rfl
theorem ie {i:Int} {H:Hp} {Q:VK}:ja [.int i] H Q=Q (.int i) H:=rfl
theorem eV {n:Nat} (h:n < 100):Str.ofString (toString (n:Int))=tx (numC n):=by
 have t:((List.range 100).all fun (n:Nat)=>decide (Str.ofString (toString (n:Int))=tx (numC n)))=true:=by decide+kernel
 simpa using List.all_eq_true.mp t n (List.mem_range.mpr h)
theorem iq {n:Nat} (h:n < 100):32∉numC n:=by
 have t:((List.range 100).all fun (n:Nat)=>decide (32∉numC n))=true:=by decide+kernel
 simpa using List.all_eq_true.mp t n (List.mem_range.mpr h)
theorem rM {n:Nat} (h:n < 100):numC n≠[]:=by unfold numC; split <;> simp
theorem bg {n:Nat}:(numC n).length≤2:=by unfold numC; split <;> simp
theorem p6 {n:Nat} (h:n < 100):((numC n).head? =some 48→n=0)∧numC 0=[48]:=by
 have t:((List.range 100).all fun (n:Nat)=>decide ((numC n).head? =some 48→n=0))=true:=by decide+kernel
 exact ⟨of_decide_eq_true (List.all_eq_true.mp t n (List.mem_range.mpr h)),rfl⟩
theorem nS {n:Nat} (h:n < 100):∀ c∈numC n,48≤c∧c≤57:=by
 have t:((List.range 100).all fun (n:Nat)=>(numC n).all fun c=>decide (48≤c∧c≤57))=true:=by decide+kernel
 intro c hc
 simpa using List.all_eq_true.mp (List.all_eq_true.mp t n (List.mem_range.mpr h)) c hc
end L2
namespace L2
open PySem PySem.Spec PyProof.Rows
local macro_rules | `(tactic| walk_at "w")=>`(tactic| (first | simp only [aQ,dm,fh,bf,fi,w_c,gQ,dI,dn,dq,dr,w_b,w_not,fj,gR,dt,du,fk,fm,dv,gS,dw,fo,fq,gB,ft,cp,dy,dz,dA,cu,cw,b6,bX,bY,bE,fu,fv,fw,fz,fA,fB,fC,fD,fE,fF,fG,fH,gT,dB,bZ,dC,gU,dD,cx,b2,fI,fJ,dE,cq,dF,
 List.getElem?_cons_zero,List.getElem?_cons_succ,Option.some.injEq,exists_eq_left',exists_eq_left,List.set_cons_zero,List.set_cons_succ,bK,V.int.injEq,V.bl.injEq,V.ref.injEq,V.str.injEq,List.append_nil,List.nil_append,List.cons_append] | dsimp only | skip))
def aK (K:PySem.W.Frag):Sp:=fun vs H Q _=>∃ (a:Addr) (h w g:Int),vs=[.ref a]∧IsFl H a h w g∧1≤h∧h≤6∧Q (.int (h*w)) H
theorem lS {K:PySem.W.Frag} {vs:List V} {H:Hp} {Q:VK} {E:XK} (h:aK K vs H Q E):vs.length=1:=by
 obtain ⟨_,_,_,_,rfl,_⟩:=h; rfl
def dJ (K:PySem.W.Frag):TS:=
 (tRet (tOp cMul (tOp cIx (tVar 0) (tC (.int 0))) (tOp cIx (tVar 0) (tC (.int 1)))))
theorem lT {K:PySem.W.Frag} {vs:List V} {H:Hp} {Q:VK} {E:XK} (h:aK K vs H Q E):dJ K { nx:=fun _ H'=>Q .non H',rt:=Q } (start ["floor"] vs) H:=by
 obtain ⟨a,h,w,g,rfl,ha,h0,h1,q⟩:=h
 show dJ K _ [some (.ref a)] H
 unfold dJ
 walk_at "w"
 rw [iL ha]
 refine aU (a:=V.int h) rfl ?_
 walk_at "w"
 rw [iL ha]
 refine aU (a:=V.int w) rfl ?_
 walk_at "w"
 exact ⟨gM h0 h1,q⟩
end L2
namespace L2
open PySem PySem.Spec PyProof.Rows
local macro_rules | `(tactic| walk_at "w")=>`(tactic| (first | simp only [aQ,iQ,j4,gD,iR,ic,ie,j6,j2,iO,j3,if_true,if_false,Bool.false_eq_true,decide_true,decide_false,gs,gt,i9,eH,dZ,gq,hX,gr,eD,hJ,hV,eC,i7,eI,eJ,eM,eN,eP,eQ,eK,h9,ia,ib,hE,i8,Bool.not_true,Bool.not_false,dm,fh,bf,fi,w_c,gQ,dI,dn,dq,dr,w_b,w_not,fj,gR,dt,du,fk,fm,dv,gS,dw,fo,fq,gB,ft,cp,dy,dz,dA,cu,cw,b6,bX,bY,bE,fu,fv,fw,fz,fA,fB,fC,fD,fE,fF,fG,fH,gT,dB,bZ,dC,gU,dD,cx,b2,fI,fJ,dE,cq,dF,
 List.getElem?_cons_zero,List.getElem?_cons_succ,Option.some.injEq,exists_eq_left',exists_eq_left,List.set_cons_zero,List.set_cons_succ,bK,V.int.injEq,V.bl.injEq,V.ref.injEq,V.str.injEq,List.append_nil,List.nil_append,List.cons_append] | dsimp only | skip))
def nmC:RK→List Nat
 | .Rule=>[]
 | .Unlike=>[117,110,108,105,107,101]
 | .Sum=>[115,117,109]
 | .Rising=>[114,105,115,105,110,103]
 | .Seen=>[115,101,101,110]
 | .Count=>[99,111,117,110,116]
 | .Joined=>[106,111,105,110,101,100]
 | .NoSquare=>[110,111,115,113,117,97,114,101]
 | .Ring=>[114,105,110,103]
def c6:List Str:=[tx [115,117,109],tx [115,101,101,110],tx [99,111,117,110,116]]
def cX:List Str:=[tx [99,111,117,110,116],tx [106,111,105,110,101,100],tx [110,111,115,113,117,97,114,101],tx [114,105,110,103]]
def cC:List Str:=[tx [106,111,105,110,101,100],tx [110,111,115,113,117,97,114,101],tx [114,105,110,103]]
def rFs (p W C:Addr) (n m:Int):List (Str × V):=[("floor",.ref p),("words",.ref W),("cells",.ref C),("amount",.int n),("mark",.int m)]
structure IsRule (H:Hp) (c:RCl RK) (k:RK) (r p:Addr) (ws:List (List Nat)) (cs:List Int) (n m:Int):Prop where
 ok:c.ok k=true
 ex:∃ dx W C,H r=some (.ins (c.A k) dx (rFs p W C n m))∧H W=some (.tup ((ws.map tx).map V.str))∧H C=some (.tup (cs.map V.int))
theorem IsRule.same {H H':Hp} {c:RCl RK} {k:RK} {r p:Addr} {ws:List (List Nat)} {cs:List Int} {n m:Int} (x:IsRule H c k r p ws cs n m) (s:Same H H'):IsRule H' c k r p ws cs n m:=by
 obtain ⟨dx,W,C,h1,h2,h3⟩:=x.ex
 exact ⟨x.ok,dx,W,C,s _ _ h1,s _ _ h2,s _ _ h3⟩
section
variable {ι:Type} {c:RCl ι} {σ:St} {H:Hp} {Q:VK} {i:Nat} {r dx:Addr} {k:ι} {fs:List (Str × V)} {f m:Str} {v:V} {okm:ι→Bool} {sp:ι→Sp} {t:TA} {D:Ends} {tv:TE} {y:V} {H1:Hp}
theorem fldE (hσ:σ[i]? =some (some (.ref r))) (ok:c.ok k=true) (hr:H r=some (.ins (c.A k) dx fs)) (hl:fs.lookup f=some v) (q:Q v H):tFldK c (tVar i) f σ H Q:=⟨_,hσ,r,k,dx,fs,v,rfl,ok,hr,hl,q⟩
theorem methE (hσ:σ[i]? =some (some (.ref r))) (ok:okm k=true) (hr:H r=some (.ins (c.A k) dx fs)) (hl:fs.lookup m=none) (q:t σ H fun vs H2=>sp k (.ref r::vs) H2 Q E0):bb c okm m sp (tVar i) t σ H Q:=⟨_,hσ,r,k,dx,fs,rfl,ok,hr,hl,q⟩
theorem sfldV {j:Nat} {x:V} (hj:σ[j]? =some (some x)) (hσ:σ[i]? =some (some (.ref r))) (ok:c.ok k=true) (hr:H r=some (.ins (c.A k) dx fs)) (hn:fs.length < 1000) (q:D.nx σ (upd H r (.ins (c.A k) dx (putF f x fs)))):sFldK c (tVar i) (tVar j) f D σ H:=
 ⟨x,hj,_,hσ,r,k,dx,fs,rfl,ok,hr,hn,q⟩
theorem sfldT {K:PySem.W.Frag} {j:Nat} {p:Addr} {xs:List V} (hj:σ[j]? =some (some (.ref p))) (hp:H p=some (.lst xs)) (hσ:σ[i]? =some (some (.ref r))) (ok:c.ok k=true) (hr:H r=some (.ins (c.A k) dx fs)) (hn:fs.length < 1000)
  (q:∀ l,H l=none→D.nx σ (upd (upd H l (.tup xs)) r (.ins (c.A k) dx (putF f (.ref l) fs)))):sFldK c (tVar i) (tCB (gC K) (tCons (tVar j) tNil)) f D σ H:=by
 unfold sFldK
 walk_at "w"
 refine ⟨_,hj,qK hp fun l hl=>?_⟩
 exact ⟨_,hσ,r,k,dx,fs,rfl,ok,by rw [ah (aw hr hl)]; exact hr,hn,q l hl⟩
end
theorem qN {H:Hp} {Q:VK} {sep:Str} {p:Addr} {ts:List Str} (hp:H p=some (.tup (ts.map V.str))) (hok:JoinOk sep ts=true) (h:Q (.str (Txt.join sep ts)) H):b7 (.str sep) [.ref p] H Q:=by
 unfold b7
 dsimp only
 rw [hp]
 exact ⟨ts,rfl,hok,h⟩
theorem gu {H:Hp} {Q:VK} {sep:Str} {p:Addr} {ts:List Str} (hp:H p=some (.lst (ts.map V.str))) (hok:JoinOk sep ts=true) (h:Q (.str (Txt.join sep ts)) H):b7 (.str sep) [.ref p] H Q:=by
 unfold b7
 dsimp only
 rw [hp]
 exact ⟨ts,rfl,hok,h⟩
def ig (K:PySem.W.Frag) (c:RCl RK) (k:RK):Sp:=fun vs H Q _=>∃ (r p:Addr) (ws:List (List Nat)) (cs:List Int) (n m:Int),vs=[.ref r]∧IsRule H c k r p ws cs n m∧ws.length≤100∧(∀ w∈ws,w.length≤100)∧Q (.str (tx (catL 32 ws))) H
def ag (K:PySem.W.Frag) (c:RCl RK):Sp:=fun vs H Q _=>∃ (k:RK) (x dx p W C:Addr) (ws:List (List Nat)) (cs:List Int) (n m:Int),vs=[.ref x,.ref p,.ref W,.ref C,.int n,.int m]∧c.ok k=true∧H x=some (.ins (c.A k) dx [])∧W≠x∧C≠x∧
 H W=some (.lst ((ws.map tx).map V.str))∧H C=some (.lst (cs.map V.int))∧∀ H',(∀ b o,b≠x→H b=some o→H' b=some o)→IsRule H' c k x p ws cs n m→Q .non H'
theorem jC {K:PySem.W.Frag} {c:RCl RK} {vs:List V} {H:Hp} {Q:VK} {E:XK} (h:ag K c vs H Q E):vs.length=6:=by
 obtain ⟨_,_,_,_,_,_,_,_,_,_,rfl,_⟩:=h; rfl
def cb (K:PySem.W.Frag) (c:RCl RK):TS:=
 (tSeq (sFldK c (tVar 0) (tVar 1) "floor")
  (tSeq (sFldK c (tVar 0) (tCB (gC K) (tCons (tVar 2) tNil)) "words")
  (tSeq (sFldK c (tVar 0) (tCB (gC K) (tCons (tVar 3) tNil)) "cells")
  (tSeq (sFldK c (tVar 0) (tVar 4) "amount")
  (sFldK c (tVar 0) (tVar 5) "mark")))))
theorem jD {K:PySem.W.Frag} {c:RCl RK} {vs:List V} {H:Hp} {Q:VK} {E:XK} (h:ag K c vs H Q E):cb K c { nx:=fun _ H'=>Q .non H',rt:=Q } (start ["self","floor","words","cells","amount","mark"] vs) H:=by
 obtain ⟨k,x,dx,p,W,C,ws,cs,n,m,rfl,ok,hx,nW,nC,hW,hC,q⟩:=h
 show cb K c _ [some (.ref x),some (.ref p),some (.ref W),some (.ref C),some (.int n),some (.int m)] H
 unfold cb
 walk_at "w"
 refine sfldV (k:=k) (j:=1) rfl rfl ok hx (by decide) ?_
 walk_at "w"
 refine sfldT (k:=k) (j:=2) (p:=W) rfl (by rw [ah nW]; exact hW) rfl ok ad (by show (1:Nat) < 1000; decide) fun l1 h1=>?_
 have n1:l1≠x:=fun e=>by rw [e,ad] at h1; cases h1
 have g1:H l1=none:=by rw [ah n1] at h1; exact h1
 walk_at "w"
 refine sfldT (k:=k) (j:=3) (p:=C) rfl (by rw [ah nC,ah (aw hC g1),ah nC]; exact hC) rfl ok ad (by show (2:Nat) < 1000; decide) fun l2 h2=>?_
 have n2:l2≠x:=fun e=>by rw [e,ad] at h2; cases h2
 have n21:l2≠l1:=fun e=>by rw [e,ah n1,ad] at h2; cases h2
 have g2:H l2=none:=by rw [ah n2,ah n21,ah n2] at h2; exact h2
 walk_at "w"
 refine sfldV (k:=k) (j:=4) rfl rfl ok ad (by show (3:Nat) < 1000; decide) ?_
 refine sfldV (k:=k) (j:=5) rfl rfl ok ad (by show (4:Nat) < 1000; decide) ?_
 refine q _ (fun b o hb e=>?_) ⟨ok,dx,l1,l2,by rw [ad]; rfl,?_,?_⟩
 · rw [ah hb,ah hb,ah hb,ah (aw e g2),ah hb,ah (aw e g1),ah hb]
   exact e
 · rw [ah n1,ah n1,ah n1,ah n21.symm,ah n1,ad]
 · rw [ah n2,ah n2,ah n2,ad]
def d6 (K:PySem.W.Frag) (c:RCl RK):Sp:=fun vs H Q E=>∃ k,ig K c k vs H Q E
theorem mQ {K:PySem.W.Frag} {c:RCl RK} {vs:List V} {H:Hp} {Q:VK} {E:XK} (h:d6 K c vs H Q E):vs.length=1:=by
 obtain ⟨_,_,_,_,_,_,_,rfl,_⟩:=h; rfl
def d7 (K:PySem.W.Frag) (c:RCl RK):TS:=
 (tRet (tBM K "str" b7 (tC (.str (tx [32]))) (tCons (tFldK c (tVar 0) "words") tNil)))
theorem mR {K:PySem.W.Frag} {c:RCl RK} {vs:List V} {H:Hp} {Q:VK} {E:XK} (h:d6 K c vs H Q E):d7 K c { nx:=fun _ H'=>Q .non H',rt:=Q } (start ["self"] vs) H:=by
 obtain ⟨k,r,p,ws,cs,n,m,rfl,x,hn,hw,q⟩:=h
 obtain ⟨dx,W,C,h1,h2,h3⟩:=x.ex
 show d7 K c _ [some (.ref r)] H
 unfold d7
 walk_at "w"
 refine ⟨b9,fldE rfl x.ok h1 (v:=.ref W) (by rfl) ?_⟩
 walk_at "w"
 refine qN h2 (ba (by rw [List.length_map]; omega) (fun t ht=>by obtain ⟨y,hy,rfl⟩:=List.mem_map.mp ht; rw [ak]; have:=hw y hy; omega) (by rw [ak]; decide)) ?_
 rw [ca,eE]
 exact q
def br (K:PySem.W.Frag):Sp:=fun vs H Q _=>∃ n:Nat,vs=[.str (tx (numC n))]∧n < 100∧∀ H',Same H H'→Q (.int n) H'
theorem mS {K:PySem.W.Frag} {vs:List V} {H:Hp} {Q:VK} {E:XK} (h:br K vs H Q E):vs.length=1:=by
 obtain ⟨_,rfl,_⟩:=h; rfl
def d8 (K:PySem.W.Frag):TS:=
 (tSeq (tIfS (tOr (tTest (tOp (cEq K) (tVar 0) (tC (.str (tx []))))) (tOr (tTest (tOp (cCmp fun i j=>decide (j < i)) (tCB kLen (tCons (tVar 0) tNil)) (tC (.int 9)))) (tAnd (tTest (tOp (cEq K) (tOp cIx (tVar 0) (tC (.int 0))) (tC (.str (tx [48]))))) (tTest (tOp (cNe K) (tVar 0) (tC (.str (tx [48])))))))) (tRet (tC .non)) tNext)
  (tSeq (tIfS (tNot (tB (tCB kAll (tCons (tComp [none,none] (iStr (tVar 0)) (gName 1) tTrue (tOp (cIn K false) (tVar 1) (tC (.str (tx [48,49,50,51,52,53,54,55,56,57]))))) tNil)))) (tRet (tC .non)) tNext)
  (tRet (tCB ja (tCons (tVar 0) tNil)))))
theorem rN {c:Nat} (h0:48≤c) (h1:c≤57):(!(Builtin.Str.occurrences (tx [48,49,50,51,52,53,54,55,56,57]) ⟨#[c]⟩ 0 (tx [48,49,50,51,52,53,54,55,56,57]).length 1).isEmpty)=true:=by
 have t:((List.range 58).all fun c=>!decide (48≤c)||!(Builtin.Str.occurrences (tx [48,49,50,51,52,53,54,55,56,57]) ⟨#[c]⟩ 0 (tx [48,49,50,51,52,53,54,55,56,57]).length 1).isEmpty)=true:=by decide+kernel
 have:=List.all_eq_true.mp t c (List.mem_range.mpr (by omega))
 simpa [h0] using this
theorem mT {K:PySem.W.Frag} {vs:List V} {H:Hp} {Q:VK} {E:XK} (h:br K vs H Q E):d8 K { nx:=fun _ H'=>Q .non H',rt:=Q } (start ["word"] vs) H:=by
 obtain ⟨n,rfl,hn,q⟩:=h
 have hne:=rM hn
 have hl:=bg (n:=n)
 show d8 K _ [some (.str (tx (numC n)))] H
 unfold d8
 rw [aQ,aR]
 walk_at "w"
 rw [iM,decide_eq_false hne]
 refine iteF ⟨by rw [ak]; exact aF (by omega),?_⟩
 walk_at "w"
 rw [ak,decide_eq_false (show ¬ (9:Int) < ((numC n).length:Nat) by omega)]
 refine iteF ?_
 rw [on,ak,dG]
 obtain ⟨c,r,ec⟩:∃ c r,numC n=c::r:=by
  cases e:numC n with
  | nil=>exact absurd e hne
  | cons c r=>exact ⟨c,r,rfl⟩
 refine ⟨aF (by omega),aU (a:=c) (by rw [ec]; exact g7 (j:=0) rfl) ?_⟩
 walk_at "w"
 have e1:decide ((⟨#[c]⟩:Str)=tx [48])=decide (c=48):=by
  have:(⟨#[c]⟩:Str)=tx [c]:=rfl
  rw [this,iM]
  simp
 rw [e1,iM]
 have e2:(decide (c=48)=true→decide (numC n=[48])=true):=by
  intro h
  rw [decide_eq_true_eq] at h
  have:=(p6 hn).1 (by rw [ec,h]; rfl)
  subst this
  decide
 have goal2:tSeq (tIfS (tNot (tB (tCB kAll (tCons (tComp [none,none] (iStr (tVar 0)) (gName 1) tTrue (tOp (cIn K false) (tVar 1) (tC (.str (tx [48,49,50,51,52,53,54,55,56,57]))))) tNil)))) (tRet (tC .non)) tNext) (tRet (tCB ja (tCons (tVar 0) tNil)))
   { nx:=fun _ H'=>Q .non H',rt:=Q } [some (.str (tx (numC n)))] H:=by
  rw [aQ,aR]
  walk_at "w"
  refine lM (cs:=numC n) (fun _=>true) (fun _=>.bl true) (by omega) ?_ ?_ ?_
  · intro i c H1 R hc s1 k1
    exact k1 _ (Same.refl _)
  · intro i c H1 Q1 hc hb s1 k1
    have hd:=nS hn c (List.mem_of_getElem? hc)
    show tOp (cIn K false) _ _ [none,some (.str (tx [c]))] H1 Q1
    walk_at "w"
    have q1:=k1 _ (Same.refl H1)
    show Q1 (.bl (if false=true then _ else !(Builtin.Str.occurrences (tx [48,49,50,51,52,53,54,55,56,57]) (tx [c]) 0 (tx [48,49,50,51,52,53,54,55,56,57]).length 1).isEmpty)) H1
    rw [if_neg Bool.false_ne_true,show tx [c]=⟨#[c]⟩ from rfl,rN hd.1 hd.2]
    exact q1
  · intro l H1 hl1 s1 el
    have eb:((List.range (numC n).length).filter fun _=>true).map (fun _=>V.bl true)=(List.replicate (numC n).length true).map V.bl:=by
     rw [bV,List.map_const',List.length_range,List.map_replicate]
    rw [eb] at el
    refine qf el ?_
    have ea:(List.replicate (numC n).length true).all id=true:=by
     rw [List.all_eq_true]
     intro b hb
     exact (List.mem_replicate.mp hb).2
    rw [ea]
    walk_at "w"
    exact ⟨n,hn,rfl,q _ s1⟩
 cases hc:decide (c=48) with
 | false=>
  refine iteF ?_
  exact goal2
 | true=>
  refine iteT ?_
  rw [e2 hc]
  exact goal2
def aP (K:PySem.W.Frag):Sp:=fun vs H Q _=>∃ (n:Nat) (lo hi:Int),vs=[.str (tx (numC n)),.int lo,.int hi]∧n < 100∧lo≤n∧n≤hi∧∀ H',Same H H'→Q (.int n) H'
theorem jE {K:PySem.W.Frag} {vs:List V} {H:Hp} {Q:VK} {E:XK} (h:aP K vs H Q E):vs.length=3:=by
 obtain ⟨_,_,_,rfl,_⟩:=h; rfl
def cc (K:PySem.W.Frag):TS:=
 (tSeq (tAsg (tCall (br K) [] E0 (tCons (tVar 0) tNil)) (gName 3))
  (tSeq (tIfS (tOr (tTest (tOp rIsN (tVar 3) (tC .non))) (tOr (tTest (tOp (cCmp fun i j=>decide (i < j)) (tVar 3) (tVar 1))) (tTest (tOp (cCmp fun i j=>decide (j < i)) (tVar 3) (tVar 2))))) aO tNext)
  (tRet (tVar 3))))
theorem jF {K:PySem.W.Frag} {vs:List V} {H:Hp} {Q:VK} {E:XK} (h:aP K vs H Q E):cc K { nx:=fun _ H'=>Q .non H',rt:=Q } (start ["word","least","most","number"] vs) H:=by
 obtain ⟨n,lo,hi,rfl,hn,h0,h1,q⟩:=h
 show cc K _ [some (.str (tx (numC n))),some (.int lo),some (.int hi),none] H
 unfold cc
 walk_at "w"
 refine ⟨n,rfl,hn,fun H1 s1=>?_⟩
 walk_at "w"
 rw [aR]
 walk_at "w"
 rw [decide_eq_false (show ¬ V.int n=V.non from fun e=>nomatch e)]
 refine iteF ?_
 rw [decide_eq_false (show ¬ (n:Int) < lo by omega)]
 refine iteF ?_
 rw [decide_eq_false (show ¬ hi < (n:Int) by omega)]
 refine iteF ?_
 walk_at "w"
 exact q _ s1
def WOk (ws:List (List Nat)):Prop:=∀ w∈ws,∀ c∈w,c < 128
theorem WOk.cons {w:List Nat} {ws:List (List Nat)} (h:∀ c∈w,c < 128) (hs:WOk ws):WOk (w::ws):=fun v hv=>by
 rcases List.mem_cons.mp hv with rfl | hv
 · exact h
 · exact hs v hv
theorem gw {n:Nat} (h:n < 100):∀ c∈numC n,c < 128:=fun c hc=>by have:=nS h c hc; omega
theorem qh {w:List Nat} (h:∀ c∈w,c < 128):PyData.strOk (tx w)=true:=by
 unfold PyData.strOk
 simp [tx]
 intro c hc
 have:=h c hc
 omega
theorem WOk.strs {ws:List (List Nat)} (h:WOk ws):∀ x∈ws.map tx,PyData.strOk x=true:=fun x hx=>by
 obtain ⟨w,hw,rfl⟩:=List.mem_map.mp hx
 exact qh (h w hw)
def aT (K:PySem.W.Frag):Sp:=fun vs H Q _=>∃ (p:Addr) (n:Nat) (ws:List (List Nat)) (lo hi:Int),vs=[.ref p,.int lo,.int hi]∧H p=some (.lst (((numC n::ws).map tx).map V.str))∧n < 100∧WOk ws∧lo≤n∧n≤hi∧∀ H',Same H H'→Q (.int n) H'
theorem j7 {K:PySem.W.Frag} {vs:List V} {H:Hp} {Q:VK} {E:XK} (h:aT K vs H Q E):vs.length=3:=by
 obtain ⟨_,_,_,_,_,rfl,_⟩:=h; rfl
def cD (K:PySem.W.Frag):TS:=
 (tSeq (tIfS (tTest (tOp (cEq K) (tVar 0) (tLst tNil))) aO tNext)
  (tRet (tCall (aP K) [] E0 (tCons (tOp cIx (tVar 0) (tC (.int 0))) (tCons (tVar 1) (tCons (tVar 2) tNil))))))
theorem DVs.strs {K:PySem.W.Frag} {H:Hp}:∀ ns:List Str,DVs K H (ns.map V.str) (ns.map PyData.str)
 | []=>.nil
 | n::r=>.cons (.str n) (DVs.strs r)
theorem lN (a b:Str):PyData.eqv (.str a) (.str b)=decide (a=b):=by
 rw [PyData.eqv]
 by_cases h:a=b
 · subst h; simp
 · simp [h]
theorem fL (ns:List Str) (hs:∀ x∈ns,PyData.strOk x=true):SeqAt.shaped (.list (ns.map PyData.str))=true:=by
 have h1:PyData.canLayAll0 (ns.map PyData.str)=true:=nO fun d hd=>by obtain ⟨x,hx,rfl⟩:=List.mem_map.mp hd; rw [PyData.canLay0]; exact hs x hx
 have h2:PyData.depthAll (ns.map PyData.str)≤0:=lL fun d hd=>by obtain ⟨x,_,rfl⟩:=List.mem_map.mp hd; exact Nat.le_refl _
 simp [SeqAt.shaped,PyData.canLay0,h1,PyData.depth]
 omega
theorem pd {K:PySem.W.Frag} {H:Hp} {Q:VK} {p q:Addr} {xs ys:List Str} (hp:H p=some (.lst (xs.map V.str))) (hq:H q=some (.lst (ys.map V.str))) (h1:∀ x∈xs,PyData.strOk x=true) (h2:∀ x∈ys,PyData.strOk x=true) (h:Q (.bl (decide (xs=ys))) H):cEq K (.ref p) (.ref q) H Q:=by
 show rEqD K (.ref p) (.ref q) H Q
 refine ⟨.list (xs.map PyData.str),.list (ys.map PyData.str),.lst (SqL.of hp) (.strs xs),.lst (SqL.of hq) (.strs ys),fL xs h1,fL ys h2,?_⟩
 rw [PyData.eqv,kY PyData.str lN]
 exact h
theorem rO {K:PySem.W.Frag} {H:Hp} {Q:VK} {p q:Addr} {xs ys:List Str} (hp:H p=some (.lst (xs.map V.str))) (hq:H q=some (.lst (ys.map V.str))) (h1:∀ x∈xs,PyData.strOk x=true) (h2:∀ x∈ys,PyData.strOk x=true) (h:Q (.bl (!decide (xs=ys))) H):cNe K (.ref p) (.ref q) H Q:=by
 show rNeD K (.ref p) (.ref q) H Q
 refine ⟨.list (xs.map PyData.str),.list (ys.map PyData.str),.lst (SqL.of hp) (.strs xs),.lst (SqL.of hq) (.strs ys),fL xs h1,fL ys h2,?_⟩
 rw [PyData.eqv,kY PyData.str lN]
 exact h
theorem j9 {K:PySem.W.Frag} {vs:List V} {H:Hp} {Q:VK} {E:XK} (h:aT K vs H Q E):cD K { nx:=fun _ H'=>Q .non H',rt:=Q } (start ["words","least","most"] vs) H:=by
 obtain ⟨p,n,ws,lo,hi,rfl,hp,hn,hw,h0,h1,q⟩:=h
 show cD K _ [some (.ref p),some (.int lo),some (.int hi)] H
 unfold cD
 rw [aQ,aR]
 walk_at "w"
 refine ⟨aF (by decide),fun l hl=>?_⟩
 have s1:Same H (upd H l (.lst [])):=(Same.refl H).laid hl
 refine pd (s1 _ _ hp) (ys:=[]) ad (WOk.strs (WOk.cons (gw hn) hw)) (fun x hx=>nomatch hx) ?_
 generalize upd H l (.lst [])=H1 at*
 walk_at "w"
 rw [decide_eq_false (by simp)]
 refine iteF ?_
 walk_at "w"
 have e0:atI (((numC n::ws).map tx).map V.str) 0=some (V.str (tx (numC n))):=g7 (j:=0) rfl
 refine ixL (s1 _ _ hp) e0 ?_
 walk_at "w"
 exact ⟨n,lo,hi,rfl,hn,h0,h1,fun H2 s2=>q _ (s1.trans s2)⟩
theorem p7 (acc:List Int) (v:Int):(step_dedup acc v).length≤acc.length+1:=by
 unfold step_dedup
 split <;> simp
theorem mU:∀ (l acc:List Int),(l.foldl step_dedup acc).length≤acc.length+l.length
 | [],acc=>by simp
 | x::r,acc=>by
  have h1:=mU r (step_dedup acc x)
  have h2:=p7 acc x
  rw [List.foldl_cons,List.length_cons]
  omega
theorem jv:∀ (l acc:List Int),acc.Nodup→((l.foldl step_dedup acc).length=acc.length+l.length↔(acc++l).Nodup)
 | [],acc,h=>by simpa using h
 | x::r,acc,h=>by
  rw [List.foldl_cons]
  by_cases hx:x∈acc
  · have e:step_dedup acc x=acc:=by
     unfold step_dedup
     rw [if_pos (by simpa using hx)]
    rw [e]
    have:=mU r acc
    constructor
    · intro z
      rw [List.length_cons] at z
      omega
    · intro z
      have:=(List.nodup_append.mp z).2.2 x hx x List.mem_cons_self
      exact absurd rfl this
  · have e:step_dedup acc x=acc++[x]:=by
     unfold step_dedup
     rw [if_neg (by simpa using hx)]
    rw [e]
    have hn:(acc++[x]).Nodup:=List.nodup_append.mpr ⟨h,by simp,fun a ha b hb z=>hx (by rw [List.mem_singleton.mp hb] at z; exact z ▸ ha)⟩
    have ih:=jv r (acc++[x]) hn
    rw [List.length_append,List.length_singleton] at ih
    rw [List.length_cons,show acc.length+(r.length+1)=acc.length+1+r.length by omega,show acc++x::r=acc++[x]++r by simp]
    exact ih
theorem k5 (ns:List Int):(List.range ns.length).map (fun i=>ns.getD i 0)=ns:=by
 have:=fY ns (fun x=>x)
 simpa using this
theorem p8 (ns:List Int):cntD ns=ns.length↔ns.Nodup:=by
 unfold cntD firstMet
 rw [k5]
 have:=jv ns [] List.nodup_nil
 simpa using this
def bQ (K:PySem.W.Frag):Sp:=fun vs H Q _=>∃ (a p:Addr) (h w g:Int) (ns:List Nat),vs=[.ref a,.ref p]∧IsFl H a h w g∧FlOk h w g∧H p=some (.lst (((ns.map numC).map tx).map V.str))∧ns≠[]∧ns.length≤16∧(∀ n∈ns,(n:Int) < h*w)∧ns.Nodup∧
 ∀ l H',Same H H'→H l=none→H' l=some (.lst ((ns.map fun (n:Nat)=>(n:Int)).map V.int))→Q (.ref l) H'
theorem lU {K:PySem.W.Frag} {vs:List V} {H:Hp} {Q:VK} {E:XK} (h:bQ K vs H Q E):vs.length=2:=by
 obtain ⟨_,_,_,_,_,_,rfl,_⟩:=h; rfl
def dL (K:PySem.W.Frag):TS:=
 (tSeq (sComp 2 [none,none,some 0] (iList K (tVar 1)) (gName 1) tTrue (tCall (aP K) [] E0 (tCons (tVar 1) (tCons (tC (.int 0)) (tCons (tOp cSub (tCall (aK K) [] E0 (tCons (tVar 2) tNil)) (tC (.int 1))) tNil)))))
  (tSeq (tIfS (tTest (tOp (cEq K) (tVar 2) (tLst tNil))) aO tNext)
  (tSeq (tIfS (tTest (tOp (cNe K) (k4 (tVar 2)) (tCB kLen (tCons (tVar 2) tNil)))) aO tNext)
  (tRet (tVar 2)))))
theorem ka {ns:List Nat} (h:ns.Nodup):(ns.map fun (n:Nat)=>(n:Int)).Nodup:=by
 induction ns with
 | nil=>exact List.nodup_nil
 | cons a r ih=>
  rw [List.nodup_cons] at h
  rw [List.map_cons,List.nodup_cons]
  refine ⟨fun z=>?_,ih h.2⟩
  obtain ⟨b,hb,e⟩:=List.mem_map.mp z
  exact h.1 (by have:b=a:=by omega
                exact this ▸ hb)
theorem lV {K:PySem.W.Frag} {vs:List V} {H:Hp} {Q:VK} {E:XK} (h:bQ K vs H Q E):dL K { nx:=fun _ H'=>Q .non H',rt:=Q } (start ["floor","words","cells"] vs) H:=by
 obtain ⟨a,p,h,w,g,ns,rfl,ha,F,hp,hne,hn16,hlt,hnd,q⟩:=h
 obtain ⟨h0,h1,w0,w1,m16,g0,g1⟩:=F
 show dL K _ [some (.ref a),some (.ref p),none] H
 unfold dL
 walk_at "w"
 refine ⟨⟨_,SqL.of hp⟩,?_⟩
 refine c5 (xs:=((ns.map numC).map tx).map V.str) (fun _=>true) (fun i=>.int (ns.getD i 0:Nat)) (by simp; omega) (SqL.of hp) ?_ ?_ ?_
 · intro i x H1 R hx s1 k1
   exact k1 _ (Same.refl _)
 · intro i x H1 Q1 hx hb s1 k1
   rw [List.getElem?_map,List.getElem?_map,List.getElem?_map] at hx
   cases e:ns[i]? with
   | none=>rw [e] at hx; cases hx
   | some n=>
    rw [e] at hx
    cases hx
    have hm:=hlt n (List.mem_of_getElem? e)
    show tCall _ _ _ _ [none,some (.str (tx (numC n))),some (.ref a)] H1 Q1
    walk_at "w"
    refine ⟨a,h,w,g,rfl,s1 _ _ ha,h0,h1,?_⟩
    walk_at "w"
    refine ⟨n,0,_,rfl,by omega,by omega,by omega,fun H2 s2=>?_⟩
    have q1:=k1 _ s2
    have eg:ns.getD i 0=n:=by rw [List.getD,e]; rfl
    rw [eg] at q1
    exact q1
 · intro l H1 hl s1 el
   have ec:((List.range (((ns.map numC).map tx).map V.str).length).filter fun _=>true).map (fun i=>V.int (ns.getD i 0:Nat))=(ns.map fun (n:Nat)=>(n:Int)).map V.int:=by
    rw [bV,List.length_map,List.length_map,List.length_map,List.map_map]
    refine List.ext_getElem? fun i=>?_
    rw [List.getElem?_map,List.getElem?_map]
    by_cases h:i < ns.length
    · rw [List.getElem?_range h,List.getElem?_eq_getElem h]
      simp [List.getD,h]
    · rw [List.getElem?_eq_none (by simpa using h),List.getElem?_eq_none (by omega)]; rfl
   rw [ec] at el
   walk_at "w"
   rw [aR]
   walk_at "w"
   refine ⟨aF (by decide),fun z hz=>?_⟩
   have s2:Same H1 (upd H1 z (.lst [])):=(Same.refl H1).laid hz
   refine qe (s2 _ _ el) (ys:=[]) ad ?_
   generalize upd H1 z (.lst [])=H2 at*
   walk_at "w"
   rw [decide_eq_false (by simpa using hne)]
   refine iteF ?_
   walk_at "w"
   rw [aR]
   walk_at "w"
   refine ⟨l,_,rfl,s2 _ _ el,by rw [List.length_map]; omega,?_⟩
   rw [im (s2 _ _ el),List.length_map]
   walk_at "w"
   rw [decide_eq_true (by rw [(p8 _).mpr (ka hnd)])]
   refine iteF ?_
   walk_at "w"
   exact q l _ (s1.trans s2) hl (s2 _ _ el)
def allK:RK→Bool
 | .Joined=>true
 | .NoSquare=>true
 | .Ring=>true
 | _=>false
def numK:RK→Bool
 | .Sum=>true
 | .Seen=>true
 | .Count=>true
 | _=>false
def sgnK:RK→Bool
 | .Count=>true
 | .Joined=>true
 | .NoSquare=>true
 | .Ring=>true
 | _=>false
theorem rP (k:RK):decide (tx (nmC k)∈cC)=allK k:=by cases k <;> decide+kernel
theorem rQ (k:RK):decide (tx (nmC k)∈c6)=numK k:=by cases k <;> decide+kernel
theorem rR (k:RK):decide (tx (nmC k)∈cX)=sgnK k:=by cases k <;> decide+kernel
structure k6 (k:RK) (h w:Int) (ns:List Nat) (cs:List Int):Prop where
 told:allK k=false→ns≠[]∧ns.length≤16∧(∀ n∈ns,(n:Int) < h*w)∧ns.Nodup∧cs=ns.map fun (n:Nat)=>(n:Int)
 all:allK k=true→ns=[]∧cs=rngL 0 (h*w)
def cy (K:PySem.W.Frag):Sp:=fun vs H Q _=>∃ (k:RK) (a p:Addr) (h w g:Int) (ns:List Nat) (cs:List Int),vs=[.ref a,.str (tx (nmC k)),.ref p]∧IsFl H a h w g∧FlOk h w g∧H p=some (.lst (((ns.map numC).map tx).map V.str))∧k6 k h w ns cs∧(∀ n∈ns,n < 100)∧
 ∀ l H',Same H H'→H l=none→H' l=some (.lst (cs.map V.int))→Q (.ref l) H'
theorem nl {K:PySem.W.Frag} {vs:List V} {H:Hp} {Q:VK} {E:XK} (h:cy K vs H Q E):vs.length=3:=by
 obtain ⟨_,_,_,_,_,_,_,_,rfl,_⟩:=h; rfl
def fM (K:PySem.W.Frag):TS:=
 (tSeq (tIfS (tB (tInG cC true (tVar 1))) (tRet (tCall (bQ K) [] E0 (tCons (tVar 0) (tCons (tVar 2) tNil)))) tNext)
  (tSeq (tIfS (tTest (tOp (cNe K) (tVar 2) (tLst tNil))) aO tNext)
  (tRet (gL (tCons (tCall (aK K) [] E0 (tCons (tVar 0) tNil)) tNil)))))
theorem no {K:PySem.W.Frag} {vs:List V} {H:Hp} {Q:VK} {E:XK} (h:cy K vs H Q E):fM K { nx:=fun _ H'=>Q .non H',rt:=Q } (start ["floor","name","words"] vs) H:=by
 obtain ⟨k,a,p,h,w,g,ns,cs,rfl,ha,F,hp,hc,hn,q⟩:=h
 obtain ⟨h0,h1,w0,w1,m16,g0,g1⟩:=id F
 have mpos:0≤h*w:=Int.mul_nonneg (by omega) (by omega)
 show fM K _ [some (.ref a),some (.str (tx (nmC k))),some (.ref p)] H
 unfold fM
 rw [aQ,aR]
 walk_at "w"
 rw [rP]
 cases hk:allK k with
 | false=>
  obtain ⟨c1,c2,c3,c4,rfl⟩:=hc.told hk
  walk_at "w"
  exact ⟨a,p,h,w,g,ns,rfl,ha,F,hp,c1,c2,c3,c4,q⟩
 | true=>
  obtain ⟨rfl,rfl⟩:=hc.all hk
  walk_at "w"
  rw [aR]
  walk_at "w"
  refine ⟨aF (by decide),fun z hz=>?_⟩
  have s1:Same H (upd H z (.lst [])):=(Same.refl H).laid hz
  refine rO (xs:=[]) (ys:=[]) (s1 _ _ hp) ad (fun x hx=>nomatch hx) (fun x hx=>nomatch hx) ?_
  generalize upd H z (.lst [])=H1 at*
  walk_at "w"
  refine ⟨a,h,w,g,rfl,s1 _ _ ha,h0,h1,?_⟩
  walk_at "w"
  refine ⟨h*w,rfl,by omega,by omega,fun l hl=>?_⟩
  exact q l _ (s1.laid hl) (s1.free hl) ad
def c7 (K:PySem.W.Frag) (c:RCl RK):Sp:=fun vs H Q _=>∃ (k:RK) (p W C:Addr) (ws:List (List Nat)) (cs:List Int) (n m:Int),vs=[.ref p,.ref W,.ref C,.int n,.int m]∧k≠.Rule∧c.ok k=true∧H W=some (.lst (((nmC k::ws).map tx).map V.str))∧H C=some (.lst (cs.map V.int))∧
 ∀ r H',Same H H'→H r=none→IsRule H' c k r p (nmC k::ws) cs n m→Q (.ref r) H'
theorem ot {K:PySem.W.Frag} {c:RCl RK} {vs:List V} {H:Hp} {Q:VK} {E:XK} (h:c7 K c vs H Q E):vs.length=5:=by
 obtain ⟨_,_,_,_,_,_,_,_,rfl,_⟩:=h; rfl
def gn (K:PySem.W.Frag) (c:RCl RK):TS:=
 (tSeq (tAsg (tOp cIx (tVar 1) (tC (.int 0))) (gName 5))
  (tSeq (tIfS (tTest (tOp (cEq K) (tVar 5) (tC (.str (tx [117,110,108,105,107,101]))))) (tRet (tMake (c.A .Unlike) (ag K c) [] E0 (tCons (tVar 0) (tCons (tVar 1) (tCons (tVar 2) (tCons (tVar 3) (tCons (tVar 4) tNil))))))) tNext)
  (tSeq (tIfS (tTest (tOp (cEq K) (tVar 5) (tC (.str (tx [115,117,109]))))) (tRet (tMake (c.A .Sum) (ag K c) [] E0 (tCons (tVar 0) (tCons (tVar 1) (tCons (tVar 2) (tCons (tVar 3) (tCons (tVar 4) tNil))))))) tNext)
  (tSeq (tIfS (tTest (tOp (cEq K) (tVar 5) (tC (.str (tx [114,105,115,105,110,103]))))) (tRet (tMake (c.A .Rising) (ag K c) [] E0 (tCons (tVar 0) (tCons (tVar 1) (tCons (tVar 2) (tCons (tVar 3) (tCons (tVar 4) tNil))))))) tNext)
  (tSeq (tIfS (tTest (tOp (cEq K) (tVar 5) (tC (.str (tx [115,101,101,110]))))) (tRet (tMake (c.A .Seen) (ag K c) [] E0 (tCons (tVar 0) (tCons (tVar 1) (tCons (tVar 2) (tCons (tVar 3) (tCons (tVar 4) tNil))))))) tNext)
  (tSeq (tIfS (tTest (tOp (cEq K) (tVar 5) (tC (.str (tx [99,111,117,110,116]))))) (tRet (tMake (c.A .Count) (ag K c) [] E0 (tCons (tVar 0) (tCons (tVar 1) (tCons (tVar 2) (tCons (tVar 3) (tCons (tVar 4) tNil))))))) tNext)
  (tSeq (tIfS (tTest (tOp (cEq K) (tVar 5) (tC (.str (tx [106,111,105,110,101,100]))))) (tRet (tMake (c.A .Joined) (ag K c) [] E0 (tCons (tVar 0) (tCons (tVar 1) (tCons (tVar 2) (tCons (tVar 3) (tCons (tVar 4) tNil))))))) tNext)
  (tSeq (tIfS (tTest (tOp (cEq K) (tVar 5) (tC (.str (tx [110,111,115,113,117,97,114,101]))))) (tRet (tMake (c.A .NoSquare) (ag K c) [] E0 (tCons (tVar 0) (tCons (tVar 1) (tCons (tVar 2) (tCons (tVar 3) (tCons (tVar 4) tNil))))))) tNext)
  (tSeq (tIfS (tTest (tOp (cEq K) (tVar 5) (tC (.str (tx [114,105,110,103]))))) (tRet (tMake (c.A .Ring) (ag K c) [] E0 (tCons (tVar 0) (tCons (tVar 1) (tCons (tVar 2) (tCons (tVar 3) (tCons (tVar 4) tNil))))))) tNext)
  aO)))))))))
theorem qO {K:PySem.W.Frag} {c:RCl RK} {H:Hp} {Q:VK} {k:RK} {p W C:Addr} {ws:List (List Nat)} {cs:List Int} {n m:Int} (ok:c.ok k=true) (hW:H W=some (.lst ((ws.map tx).map V.str))) (hC:H C=some (.lst (cs.map V.int))) (q:∀ r H',Same H H'→H r=none→IsRule H' c k r p ws cs n m→Q (.ref r) H'):
  ∀ x dx,H x=none→H dx=none→dx≠x→ag K c (.ref x::([.ref p,.ref W,.ref C,.int n,.int m]++[])) (upd (upd H dx (.own x)) x (.ins (c.A k) dx [])) (fun v H2=>v=.non∧Q (.ref x) H2) E0:=by
 intro x dx hx hd ne
 refine ⟨k,x,dx,p,W,C,ws,cs,n,m,rfl,ok,ad,aw hW hx,aw hC hx,?_,?_,fun H' hs hr=>⟨rfl,q x H' (fun b o e=>hs b o (aw e hx) ?_) hx hr⟩⟩
 · rw [ah (aw hW hx),ah (aw hW hd)]; exact hW
 · rw [ah (aw hC hx),ah (aw hC hd)]; exact hC
 · rw [ah (aw e hx),ah (aw e hd)]; exact e
theorem ou {K:PySem.W.Frag} {c:RCl RK} {vs:List V} {H:Hp} {Q:VK} {E:XK} (h:c7 K c vs H Q E):gn K c { nx:=fun _ H'=>Q .non H',rt:=Q } (start ["floor","words","cells","amount","mark","name"] vs) H:=by
 obtain ⟨k,p,W,C,ws,cs,n,m,rfl,hk,ok,hW,hC,q⟩:=h
 have mk:=qO (K:=K) ok hW hC q
 have e0:atI (((nmC k::ws).map tx).map V.str) 0=some (V.str (tx (nmC k))):=g7 (j:=0) rfl
 show gn K c _ [some (.ref p),some (.ref W),some (.ref C),some (.int n),some (.int m),none] H
 unfold gn
 walk_at "w"
 refine ixL hW e0 ?_
 have D:∀ (l:List Nat) (t:TS) (u:TS) (D:Ends) (b:Bool),decide (nmC k=l)=b→(if b=true then t D [some (.ref p),some (.ref W),some (.ref C),some (.int n),some (.int m),some (.str (tx (nmC k)))] H else u D [some (.ref p),some (.ref W),some (.ref C),some (.int n),some (.int m),some (.str (tx (nmC k)))] H)→
   tIfS (tTest (tOp (cEq K) (tVar 5) (tC (.str (tx l))))) t u D [some (.ref p),some (.ref W),some (.ref C),some (.int n),some (.int m),some (.str (tx (nmC k)))] H:=fun l t u D b hb hq=>by
  rw [aR]
  walk_at "w"
  rw [iM,hb]
  exact hq
 have R:∀ (D:Ends),D.rt=Q→tRet (tMake (c.A k) (ag K c) [] E0 (tCons (tVar 0) (tCons (tVar 1) (tCons (tVar 2) (tCons (tVar 3) (tCons (tVar 4) tNil)))))) D [some (.ref p),some (.ref W),some (.ref C),some (.int n),some (.int m),some (.str (tx (nmC k)))] H:=fun D hD=>by
  walk_at "w"
  rw [hD]
  exact mk
 cases k with
 | Rule=>exact absurd rfl hk
 | Unlike=>exact D _ _ _ _ true (by decide) (iteT (R _ rfl))
 | Sum=>exact D _ _ _ _ false (by decide) (iteF (D _ _ _ _ true (by decide) (iteT (R _ rfl))))
 | Rising=>exact D _ _ _ _ false (by decide) (iteF (D _ _ _ _ false (by decide) (iteF (D _ _ _ _ true (by decide) (iteT (R _ rfl))))))
 | Seen=>exact D _ _ _ _ false (by decide) (iteF (D _ _ _ _ false (by decide) (iteF (D _ _ _ _ false (by decide) (iteF (D _ _ _ _ true (by decide) (iteT (R _ rfl))))))))
 | Count=>exact D _ _ _ _ false (by decide) (iteF (D _ _ _ _ false (by decide) (iteF (D _ _ _ _ false (by decide) (iteF (D _ _ _ _ false (by decide) (iteF (D _ _ _ _ true (by decide) (iteT (R _ rfl))))))))))
 | Joined=>exact D _ _ _ _ false (by decide) (iteF (D _ _ _ _ false (by decide) (iteF (D _ _ _ _ false (by decide) (iteF (D _ _ _ _ false (by decide) (iteF (D _ _ _ _ false (by decide) (iteF (D _ _ _ _ true (by decide) (iteT (R _ rfl))))))))))))
 | NoSquare=>exact D _ _ _ _ false (by decide) (iteF (D _ _ _ _ false (by decide) (iteF (D _ _ _ _ false (by decide) (iteF (D _ _ _ _ false (by decide) (iteF (D _ _ _ _ false (by decide) (iteF (D _ _ _ _ false (by decide) (iteF (D _ _ _ _ true (by decide) (iteT (R _ rfl))))))))))))))
 | Ring=>exact D _ _ _ _ false (by decide) (iteF (D _ _ _ _ false (by decide) (iteF (D _ _ _ _ false (by decide) (iteF (D _ _ _ _ false (by decide) (iteF (D _ _ _ _ false (by decide) (iteF (D _ _ _ _ false (by decide) (iteF (D _ _ _ _ false (by decide) (iteF (D _ _ _ _ true (by decide) (iteT (R _ rfl))))))))))))))))
def rowW (k:RK) (n m:Nat) (ns:List Nat):List (List Nat):=nmC k::((if numK k then [numC n] else [])++(if sgnK k then [numC m] else [])++ns.map numC)
structure mV (k:RK) (h w g:Int) (n m:Nat) (ns:List Nat) (cs:List Int):Prop where
 k0:k≠.Rule
 n0:n≤99
 nz:numK k=false→n=0
 m0:sgnK k=true→1≤(m:Int)∧(m:Int)≤g
 mz:sgnK k=false→m=0
 cl:k6 k h w ns cs
 ns0:∀ x∈ns,x < 100
 len:ns.length≤16
def b8 (K:PySem.W.Frag) (c:RCl RK):Sp:=fun vs H Q _=>∃ (k:RK) (p:Addr) (h w g:Int) (n m:Nat) (ns:List Nat) (cs:List Int),vs=[.ref p,.str (tx (catL 32 (rowW k n m ns)))]∧IsFl H p h w g∧FlOk h w g∧mV k h w g n m ns cs∧c.ok k=true∧
 ∀ r H',Same H H'→H r=none→IsRule H' c k r p (rowW k n m ns) cs n m→Q (.ref r) H'
theorem mW {K:PySem.W.Frag} {c:RCl RK} {vs:List V} {H:Hp} {Q:VK} {E:XK} (h:b8 K c vs H Q E):vs.length=2:=by
 obtain ⟨_,_,_,_,_,_,_,_,_,rfl,_⟩:=h; rfl
def cE (K:PySem.W.Frag) (c:RCl RK):TS:=
 (tRet (tCall (c7 K c) [] E0 (tCons (tVar 0) (tCons (tVar 2) (tCons (tCall (cy K) [] E0 (tCons (tVar 0) (tCons (tVar 3) (tCons (tVar 4) tNil)))) (tCons (tVar 5) (tCons (tVar 6) tNil)))))))
def d9 (K:PySem.W.Frag) (c:RCl RK):TS:=
 (tSeq (tAsg (tOp cIx (tVar 2) (tC (.int 0))) (gName 3))
  (tSeq (tAsg (tSl ip (tVar 2) (tPart (tC (.int 1))) gp) (gName 4))
  (tSeq (tAsg (tC (.int 0)) (gName 5))
  (tSeq (tAsg (tC (.int 0)) (gName 6))
  (tSeq (tIfS (tB (tInG c6 false (tVar 3))) (tSeq (tAsg (tCall (aT K) [] E0 (tCons (tVar 4) (tCons (tC (.int 0)) (tCons (tC (.int 99)) tNil)))) (gName 5))
  (tAsg (tSl ip (tVar 4) (tPart (tC (.int 1))) gp) (gName 4))) tNext)
  (tSeq (tIfS (tB (tInG cX false (tVar 3))) (tSeq (tAsg (tCall (aT K) [] E0 (tCons (tVar 4) (tCons (tC (.int 1)) (tCons (tOp cIx (tVar 0) (tC (.int 2))) tNil)))) (gName 6))
  (tAsg (tSl ip (tVar 4) (tPart (tC (.int 1))) gp) (gName 4))) tNext)
  (cE K c)))))))
def ed (K:PySem.W.Frag) (c:RCl RK):TS:=
 (tSeq (tIfS (tNot (tB (tCB kIsi (tCons (tVar 1) (tCons (tC (.ty "str")) tNil))))) aO tNext)
  (tSeq (tAsg (tBM K "str" fV (tVar 1) (tCons (tC (.str (tx [32]))) tNil)) (gName 2))
  (d9 K c)))
theorem qP (k:RK):32∉nmC k:=by cases k <;> decide
theorem sj (k:RK):∀ c∈nmC k,c < 128:=by cases k <;> decide
theorem pe {k:RK} {n m:Nat} {ns:List Nat} (hn:n < 100) (hm:m < 100) (hs:∀ x∈ns,x < 100):∀ r∈rowW k n m ns,32∉r:=by
 intro r hr
 unfold rowW at hr
 rcases List.mem_cons.mp hr with rfl | hr
 · exact qP k
 rcases List.mem_append.mp hr with hr | hr
 · rcases List.mem_append.mp hr with hr | hr
   · split at hr
     · rw [List.mem_singleton.mp hr]; exact iq hn
     · cases hr
   · split at hr
     · rw [List.mem_singleton.mp hr]; exact iq hm
     · cases hr
 · obtain ⟨x,hx,rfl⟩:=List.mem_map.mp hr
   exact iq (hs x hx)
theorem p9 (xs:List V):cutV xs (some 1) none=xs.drop 1:=by
 unfold cutV
 have h1:HT.sIx xs.length 0 (some 1)=min 1 xs.length:=HT.sIx_nat ..
 have h2:HT.sIx xs.length xs.length none=xs.length:=rfl
 rw [h1,h2]
 cases xs with
 | nil=>rfl
 | cons x r=>
  have:min 1 (x::r).length=1:=by simp
  rw [this]
  show (r).take _=r
  rw [List.take_of_length_le (by simp)]
theorem gO {K:PySem.W.Frag} {c:RCl RK} {H:Hp} {Q:VK} {k:RK} {p W R:Addr} {h w g:Int} {n m:Nat} {ws:List (List Nat)} {ns:List Nat} {cs:List Int} {lv:V} (F:FlOk h w g) (ha:IsFl H p h w g) (hW:H W=some (.lst (((nmC k::ws).map tx).map V.str))) (hR:H R=some (.lst (((ns.map numC).map tx).map V.str))) (hc:k6 k h w ns cs) (hn:∀ x∈ns,x < 100) (k0:k≠.Rule) (ok:c.ok k=true)
  (q:∀ r H',Same H H'→H r=none→IsRule H' c k r p (nmC k::ws) cs n m→Q (.ref r) H'):
  cE K c { nx:=fun _ H'=>Q .non H',rt:=Q } [some (.ref p),some lv,some (.ref W),some (.str (tx (nmC k))),some (.ref R),some (.int n),some (.int m)] H:=by
 unfold cE
 walk_at "w"
 refine ⟨k,p,R,h,w,g,ns,cs,rfl,ha,F,hR,hc,hn,fun l H1 s1 hl el=>?_⟩
 walk_at "w"
 exact ⟨k,p,W,l,ws,cs,n,m,rfl,k0,ok,s1 _ _ hW,el,fun r H2 s2 hr x=>q r H2 (s1.trans s2) (s1.free hr) x⟩
theorem jw {k:RK} {n m:Nat} {ns:List Nat} (h:ns.length≤16):(rowW k n m ns).length≤100∧∀ w∈rowW k n m ns,w.length≤100:=by
 unfold rowW
 refine ⟨?_,fun w hw=>?_⟩
 · simp only [List.length_cons,List.length_append,List.length_map]
   split <;> split <;> simp <;> omega
 · rcases List.mem_cons.mp hw with rfl | hw
   · cases k <;> decide
   have h2:∀ x,(numC x).length≤100:=fun x=>Nat.le_trans bg (by decide)
   rcases List.mem_append.mp hw with hw | hw
   · rcases List.mem_append.mp hw with hw | hw
     · split at hw
       · rw [List.mem_singleton.mp hw]; exact h2 _
       · cases hw
     · split at hw
       · rw [List.mem_singleton.mp hw]; exact h2 _
       · cases hw
   · obtain ⟨x,hx,rfl⟩:=List.mem_map.mp hw
     exact h2 _
theorem kb:∀ (rows:List (List Nat)),(∀ r∈rows,r.length≤100)→(catL 32 rows).length≤101*rows.length
 | [],_=>Nat.zero_le _
 | [x],h=>by
  have:=h x List.mem_cons_self
  show x.length≤101*1
  omega
 | x::y::r,h=>by
  have h1:=h x List.mem_cons_self
  have ih:=kb (y::r) fun z hz=>h z (List.mem_cons_of_mem _ hz)
  have e:catL 32 (x::y::r)=x++32::catL 32 (y::r):=by first | rfl | simp [catL]
  rw [e,List.length_append,List.length_cons,List.length_cons]
  omega
theorem k7 {H:Hp} {Q:VK} {p:Addr} {x:Str} {xs:List Str} (hp:H p=some (.lst ((x::xs).map V.str))) (q:∀ l,H l=none→Q (.ref l) (upd H l (.lst (xs.map V.str)))):ip (.ref p) (some 1) none H Q:=by
 refine oo hp fun l hl=>?_
 rw [p9]
 exact q l hl
theorem kc {K:PySem.W.Frag} {c:RCl RK} {H:Hp} {Q:VK} {k:RK} {p W:Addr} {h w g:Int} {n m:Nat} {ns:List Nat} {cs:List Int} {lv:V} (F:FlOk h w g) (ha:IsFl H p h w g) (hW:H W=some (.lst (((rowW k n m ns).map tx).map V.str))) (O:mV k h w g n m ns cs) (ok:c.ok k=true)
  (q:∀ r H',Same H H'→H r=none→IsRule H' c k r p (rowW k n m ns) cs n m→Q (.ref r) H'):
  d9 K c { nx:=fun _ H'=>Q .non H',rt:=Q } [some (.ref p),some lv,some (.ref W),none,none,none,none] H:=by
 obtain ⟨k0,n0,nz,m0,mz,cl,ns0,len⟩:=O
 obtain ⟨h0,h1,w0,w1,m16,g0,g1⟩:=id F
 have e0:atI (((rowW k n m ns).map tx).map V.str) 0=some (V.str (tx (nmC k))):=g7 (j:=0) rfl
 have hns:WOk (ns.map numC):=fun v hv=>by obtain ⟨x,hx,rfl⟩:=List.mem_map.mp hv; exact gw (ns0 x hx)
 unfold d9
 walk_at "w"
 refine ixL hW e0 ?_
 walk_at "w"
 refine k7 hW fun R hR=>?_
 have s1:Same H (upd H R (.lst ((((if numK k then [numC n] else [])++(if sgnK k then [numC m] else [])++ns.map numC).map tx).map V.str))):=(Same.refl H).laid hR
 have eR:(upd H R (.lst ((((if numK k then [numC n] else [])++(if sgnK k then [numC m] else [])++ns.map numC).map tx).map V.str))) R=some (.lst ((((if numK k then [numC n] else [])++(if sgnK k then [numC m] else [])++ns.map numC).map tx).map V.str)):=ad
 generalize upd H R (.lst ((((if numK k then [numC n] else [])++(if sgnK k then [numC m] else [])++ns.map numC).map tx).map V.str))=H1 at*
 walk_at "w"
 have two:∀ {H2:Hp} {R2:Addr},Same H H2→H2 R2=some (.lst ((((if sgnK k then [numC m] else [])++ns.map numC).map tx).map V.str))→
   tSeq (tIfS (tB (tInG cX false (tVar 3))) (tSeq (tAsg (tCall (aT K) [] E0 (tCons (tVar 4) (tCons (tC (.int 1)) (tCons (tOp cIx (tVar 0) (tC (.int 2))) tNil)))) (gName 6)) (tAsg (tSl ip (tVar 4) (tPart (tC (.int 1))) gp) (gName 4))) tNext) (cE K c) { nx:=fun _ H'=>Q .non H',rt:=Q }
    [some (.ref p),some lv,some (.ref W),some (.str (tx (nmC k))),some (.ref R2),some (.int n),some (.int 0)] H2:=by
  intro H2 R2 s2 eR2
  rw [aQ,aR]
  walk_at "w"
  rw [rR]
  cases hs:sgnK k with
  | false=>
   rw [hs] at eR2
   have:=mz hs
   subst this
   walk_at "w"
   exact gO F (s2 _ _ ha) (s2 _ _ hW) eR2 cl ns0 k0 ok fun r H3 s3 hr x=>q r H3 (s2.trans s3) (s2.free hr) x
  | true=>
   rw [hs] at eR2
   have hm:=m0 hs
   walk_at "w"
   refine ixT (s2 _ _ ha) (v:=V.int g) rfl ?_
   walk_at "w"
   refine ⟨R2,m,ns.map numC,1,g,rfl,eR2,by omega,hns,hm.1,hm.2,fun H3 s3=>?_⟩
   walk_at "w"
   refine k7 (s3 _ _ eR2) fun R3 hR3=>?_
   have s4:Same H3 (upd H3 R3 (.lst (((ns.map numC).map tx).map V.str))):=(Same.refl H3).laid hR3
   have s24:=(s2.trans s3).trans s4
   exact gO F (s24 _ _ ha) (s24 _ _ hW) ad cl ns0 k0 ok fun r H5 s5 hr x=>q r H5 (s24.trans s5) (s24.free hr) x
 rw [aR]
 walk_at "w"
 rw [rQ]
 cases hn:numK k with
 | false=>
  rw [hn] at eR
  have:=nz hn
  subst this
  walk_at "w"
  exact two s1 eR
 | true=>
  rw [hn] at eR
  walk_at "w"
  refine ⟨R,n,(if sgnK k then [numC m] else [])++ns.map numC,0,99,rfl,eR,by omega,?_,by omega,by omega,fun H3 s3=>?_⟩
  · intro v hv
    rcases List.mem_append.mp hv with hv | hv
    · split at hv
      · rename_i hs
        have:=m0 hs
        rw [List.mem_singleton.mp hv]; exact gw (by omega)
      · cases hv
    · exact hns v hv
  walk_at "w"
  refine k7 (s3 _ _ eR) fun R3 hR3=>?_
  have s4:Same H3 (upd H3 R3 (.lst ((((if sgnK k then [numC m] else [])++ns.map numC).map tx).map V.str))):=(Same.refl H3).laid hR3
  walk_at "w"
  exact two ((s1.trans s3).trans s4) ad
theorem mX {K:PySem.W.Frag} {c:RCl RK} {vs:List V} {H:Hp} {Q:VK} {E:XK} (h:b8 K c vs H Q E):ed K c { nx:=fun _ H'=>Q .non H',rt:=Q } (start ["floor","line","words","name","rest","amount","mark"] vs) H:=by
 obtain ⟨k,p,h,w,g,n,m,ns,cs,rfl,ha,F,O,ok,q⟩:=h
 have hm:m < 100:=by
  by_cases hs:sgnK k=true
  · have:=(O.m0 hs).2
    have:=F.g1
    omega
  · have:=O.mz (by simpa using hs)
    omega
 have hsp:Txt.split (tx (catL 32 (rowW k n m ns))) (tx [32])=(rowW k n m ns).map tx:=jA (by simp [rowW]) (pe (by have:=O.n0; omega) hm O.ns0)
 have hl:=jw (k:=k) (n:=n) (m:=m) O.len
 have hl2:=kb _ hl.2
 show ed K c _ [some (.ref p),some (.str (tx (catL 32 (rowW k n m ns)))),none,none,none,none,none] H
 unfold ed
 rw [aQ,aR]
 walk_at "w"
 refine ⟨b9,?_⟩
 rw [g9,hsp]
 refine ⟨by rw [ak]; decide,by rw [ak]; exact Nat.le_of_lt (Nat.lt_of_le_of_lt hl2 (Nat.lt_of_le_of_lt (Nat.mul_le_mul_left 101 hl.1) (by decide))),by rw [List.length_map]; exact aF (by omega),fun W hW=>?_⟩
 have s1:Same H (upd H W (.lst (((rowW k n m ns).map tx).map V.str))):=(Same.refl H).laid hW
 exact kc F (s1 _ _ ha) ad O ok fun r H2 s2 hr x=>q r H2 (s1.trans s2) (s1.free hr) x
theorem lO {α β:Type} (f:α→β):∀ (l:List α) (j:Nat),(l.map f).eraseIdx j=(l.eraseIdx j).map f
 | [],_=>rfl
 | _::_,0=>rfl
 | x::r,j+1=>by
  show f x::(r.map f).eraseIdx j=f x::(r.eraseIdx j).map f
  rw [lO f r j]
theorem kd {α:Type}:∀ (l:List α) (j:Nat) (h:j < l.length),(l[j]::l.eraseIdx j).Perm l
 | [],_,h=>absurd h (by simp)
 | x::r,0,_=>List.Perm.refl _
 | x::r,j+1,h=>by
  have hj:j < r.length:=by simpa using h
  have ih:=kd r j hj
  show (r[j]::x::r.eraseIdx j).Perm (x::r)
  exact (List.Perm.swap x r[j] (r.eraseIdx j)).trans (List.Perm.cons x ih)
theorem iS {α β:Type} (f:α→β):∀ {l:List α},(l.map f).Nodup→l.Nodup
 | [],_=>List.nodup_nil
 | a::r,h=>by
  rw [List.map_cons,List.nodup_cons] at h
  rw [List.nodup_cons]
  exact ⟨fun z=>h.1 (List.mem_map.mpr ⟨a,z,rfl⟩),iS f h.2⟩
theorem pf (n:Int):(rngL 0 n).Nodup:=by
 unfold rngL
 have e:(List.range (n - 0).toNat).map (fun (k:Nat)=>0+(k:Int))=(List.range (n - 0).toNat).map fun (k:Nat)=>(k:Int):=List.map_congr_left fun k _=>by omega
 rw [e]
 exact ka List.nodup_range
theorem qQ {n x:Int} (h:x∈rngL 0 n):0≤x∧x < n:=by
 unfold rngL at h
 obtain ⟨k,hk,rfl⟩:=List.mem_map.mp h
 have:=List.mem_range.mp hk
 omega
theorem eX {n:Nat} (h:n < 100):((n:Int)).natAbs.log2 < 1920:=by
 have t:((List.range 100).all fun n=>decide (n.log2 < 1920))=true:=by decide+kernel
 have:=List.all_eq_true.mp t n (List.mem_range.mpr h)
 simpa using this
theorem qR {H:Hp} {Q:VK} {n:Nat} (h:n < 100) (q:Q (.str (tx (numC n))) H):kStr [.int (n:Int)] H Q:=by
 refine ⟨eX h,?_⟩
 rw [eV h]
 exact q
theorem ph {K:PySem.W.Frag} {H:Hp} {C:Addr} {cs:List Nat} {fin:Addr→Hp→Prop} (hC:H C=some (.lst ((cs.map fun (n:Nat)=>(n:Int)).map V.int))) (hl:cs.length≤100) (hc:∀ c∈cs,c < 100)
  (hd:∀ l H',H l=none→Same H H'→H' l=some (.lst (((cs.map numC).map tx).map V.str))→fin l H'):CompR (Itl K C) (gName 1) tTrue (tCB kStr (tCons (tVar 1) tNil)) fin [none,none] H:=by
 refine c5 (xs:=(cs.map fun (n:Nat)=>(n:Int)).map V.int) (fun _=>true) (fun i=>.str (tx (numC (cs.getD i 0)))) (by simp; omega) (SqL.of hC) ?_ ?_ ?_
 · intro i x H1 R hx s1 k1
   exact k1 _ (Same.refl _)
 · intro i x H1 Q1 hx hb s1 k1
   rw [List.getElem?_map,List.getElem?_map] at hx
   cases e:cs[i]? with
   | none=>rw [e] at hx; cases hx
   | some n=>
    rw [e] at hx
    cases hx
    show tCB kStr _ [none,some (.int (n:Int))] H1 Q1
    walk_at "w"
    have q1:=k1 _ (Same.refl H1)
    have eg:cs.getD i 0=n:=by rw [List.getD,e]; rfl
    rw [eg] at q1
    have:=qR (H:=H1) (Q:=Q1) (hc n (List.mem_of_getElem? e)) q1
    exact this
 · intro l H1 hl1 s1 el
   refine hd l H1 hl1 s1 ?_
   rw [el,bV,List.length_map,List.length_map,List.map_map,List.map_map]
   congr 2
   refine List.ext_getElem? fun i=>?_
   rw [List.getElem?_map,List.getElem?_map]
   by_cases h:i < cs.length
   · rw [List.getElem?_range h,List.getElem?_eq_getElem h]
     simp [List.getD,h]
   · rw [List.getElem?_eq_none (by simpa using h),List.getElem?_eq_none (by omega)]; rfl
theorem bc {c:Nat} {x:List Nat}:∀ {rs:List (List Nat)},rs≠[]→catL c (x::rs)=x++c::catL c rs
 | [],h=>absurd rfl h
 | y::r,_=>by first | rfl | simp [catL]
end L2
namespace L2
open PySem PySem.Spec PyProof.Rows
section
variable {X:Cx} {a:Expr} {ta:TE} {pos p:Pos} {x:Str} {ws:List Str}
theorem pi (G:GTup X.K X.mg x ws) (ha:PE X a ta) (hg:Gl X x) (hdb:(x==("__debug__":Str))=false:=by decide) (hm:behindInMarks .In (.Name x p)=false:=by with_unfolding_all rfl):PT X (.Compare a [.In] [.Name x p] pos) (tB (tInG ws false ta)):=by
 obtain ⟨q,o,its,n,h1,h2⟩:=G.ex
 have h0:=av (pos:=pos) (rL ⟨o,its,n,h2⟩) ha (aV (v:=V.ref q) hg h1 rfl hdb) hm
 intro pins s σ H Q I h
 refine h0 pins s σ H Q I ?_
 have e:(fun (x:V) (H1:Hp)=>∃ z,x=.str z∧∃ k,V.bl (if false=true then !decide (z∈ws) else decide (z∈ws))=.bl k∧Q k H1)=fun x H1=>∃ z,x=.str z∧(V.ref q=V.ref q)∧∃ k,V.bl (decide (z∈ws))=.bl k∧Q k H1:=by
  funext x H1; simp
 have h':ta σ H (fun (x:V) (H1:Hp)=>∃ z,x=.str z∧∃ k,V.bl (if false=true then !decide (z∈ws) else decide (z∈ws))=.bl k∧Q k H1):=h
 rw [e] at h'
 exact h'
theorem qS (G:GTup X.K X.mg x ws) (ha:PE X a ta) (hg:Gl X x) (hdb:(x==("__debug__":Str))=false:=by decide) (hm:behindInMarks .NotIn (.Name x p)=false:=by with_unfolding_all rfl):PT X (.Compare a [.NotIn] [.Name x p] pos) (tB (tInG ws true ta)):=by
 obtain ⟨q,o,its,n,h1,h2⟩:=G.ex
 have h0:=av (pos:=pos) (qJ ⟨o,its,n,h2⟩) ha (aV (v:=V.ref q) hg h1 rfl hdb) hm
 intro pins s σ H Q I h
 refine h0 pins s σ H Q I ?_
 have e:(fun (x:V) (H1:Hp)=>∃ z,x=.str z∧∃ k,V.bl (if true=true then !decide (z∈ws) else decide (z∈ws))=.bl k∧Q k H1)=fun x H1=>∃ z,x=.str z∧(V.ref q=V.ref q)∧∃ k,V.bl (!decide (z∈ws))=.bl k∧Q k H1:=by
  funext x H1; simp
 have h':ta σ H (fun (x:V) (H1:Hp)=>∃ z,x=.str z∧∃ k,V.bl (if true=true then !decide (z∈ws) else decide (z∈ws))=.bl k∧Q k H1):=h
 rw [e] at h'
 exact h'
end
end L2
namespace L2
open PySem PySem.Spec PyProof.Rows
local macro_rules | `(tactic| walk_at "w")=>`(tactic| (first | simp only [aQ,iQ,j4,gD,iR,ic,ie,j6,j2,iO,j3,if_true,if_false,Bool.false_eq_true,decide_true,decide_false,gs,gt,i9,eH,dZ,gq,hX,gr,eD,hJ,hV,eC,i7,eI,eJ,eM,eN,eP,eQ,eK,h9,ia,ib,hE,i8,Bool.not_true,Bool.not_false,dm,fh,bf,fi,w_c,gQ,dI,dn,dq,dr,w_b,w_not,fj,gR,dt,du,fk,fm,dv,gS,dw,fo,fq,gB,ft,cp,dy,dz,dA,cu,cw,b6,bX,bY,bE,fu,fv,fw,fz,fA,fB,fC,fD,fE,fF,fG,fH,gT,dB,bZ,dC,gU,dD,cx,b2,fI,fJ,dE,cq,dF,
 List.getElem?_cons_zero,List.getElem?_cons_succ,Option.some.injEq,exists_eq_left',exists_eq_left,List.set_cons_zero,List.set_cons_succ,bK,V.int.injEq,V.bl.injEq,V.ref.injEq,V.str.injEq,List.append_nil,List.nil_append,List.cons_append] | dsimp only | skip))
inductive PzK where
 | Puzzle
 deriving DecidableEq
structure RR where
 k:RK
 n:Nat
 m:Nat
 ns:List Nat
 cs:List Int
def RR.ws (r:RR):List (List Nat):=rowW r.k r.n r.m r.ns
def RR.txt (r:RR):Str:=tx (catL 32 r.ws)
def RR.Ok (r:RR) (h w g:Int):Prop:=mV r.k h w g r.n r.m r.ns r.cs
theorem pj:∀ {rs:List (List Nat)},(∀ r∈rs,∀ c∈r,c < 128)→∀ c∈catL 32 rs,c < 128
 | [],_,c,hc=>by simp [catL] at hc
 | [x],h,c,hc=>h x List.mem_cons_self c (by first | exact hc | simpa [catL] using hc)
 | x::y::r,h,c,hc=>by
  rw [bc (by simp)] at hc
  rcases List.mem_append.mp hc with hc | hc
  · exact h x List.mem_cons_self c hc
  rcases List.mem_cons.mp hc with rfl | hc
  · decide
  · exact pj (fun z hz=>h z (List.mem_cons_of_mem _ hz)) c hc
theorem RR.wok {r:RR} {h w g:Int} (F:FlOk h w g) (O:r.Ok h w g):∀ x∈r.ws,∀ c∈x,c < 128:=by
 intro x hx
 unfold RR.ws rowW at hx
 have hm:r.m < 100:=by
  by_cases hs:sgnK r.k=true
  · have:=(O.m0 hs).2
    have:=F.g1
    omega
  · have:=O.mz (by simpa using hs)
    omega
 have hn:=O.n0
 rcases List.mem_cons.mp hx with rfl | hx
 · exact sj r.k
 rcases List.mem_append.mp hx with hx | hx
 · rcases List.mem_append.mp hx with hx | hx
   · split at hx
     · rw [List.mem_singleton.mp hx]; exact gw (by omega)
     · cases hx
   · split at hx
     · rw [List.mem_singleton.mp hx]; exact gw hm
     · cases hx
 · obtain ⟨y,hy,rfl⟩:=List.mem_map.mp hx
   exact gw (O.ns0 y hy)
theorem RR.sok {r:RR} {h w g:Int} (F:FlOk h w g) (O:r.Ok h w g):PyData.strOk r.txt=true:=qh (pj (RR.wok F O))
structure IsRules (H:Hp) (c:RCl RK) (p L:Addr) (rs:List Addr) (rows:List RR):Prop where
 top:H L=some (.lst (rs.map V.ref))
 len:rs.length=rows.length
 at_:∀ (i:Nat) (r:Addr) (x:RR),rs[i]? =some r→rows[i]? =some x→IsRule H c x.k r p x.ws x.cs x.n x.m
theorem IsRules.same {H H':Hp} {c:RCl RK} {p L:Addr} {rs:List Addr} {rows:List RR} (x:IsRules H c p L rs rows) (s:Same H H'):IsRules H' c p L rs rows:=
 ⟨s _ _ x.top,x.len,fun i r y h1 h2=>(x.at_ i r y h1 h2).same s⟩
theorem IsRule.lst {H:Hp} {c:RCl RK} {k:RK} {r p a:Addr} {ws:List (List Nat)} {cs:List Int} {n m:Int} {xs:List V} {o:HO} (x:IsRule H c k r p ws cs n m) (ha:H a=some (.lst xs)):IsRule (upd H a o) c k r p ws cs n m:=by
 obtain ⟨dx,W,C,h1,h2,h3⟩:=x.ex
 refine ⟨x.ok,dx,W,C,?_,?_,?_⟩
 · rw [ah (fun e=>by rw [e,ha] at h1; cases h1)]; exact h1
 · rw [ah (fun e=>by rw [e,ha] at h2; cases h2)]; exact h2
 · rw [ah (fun e=>by rw [e,ha] at h3; cases h3)]; exact h3
def pFs (p L G:Addr):List (Str × V):=[("floor",.ref p),("laws",.ref L),("given",.ref G)]
structure bM (c:RCl RK) (h w g:Int) (rows:List RR):Prop where
 F:FlOk h w g
 n:rows.length≤12
 ok:∀ r∈rows,r.Ok h w g
 c:∀ r∈rows,c.ok r.k=true
structure CluesOk (h w g:Int) (cl:List Int):Prop where
 len:cl.length=(h*w).toNat
 ok:∀ x∈cl,0≤x∧x≤g
structure IsPz (H:Hp) (c:RCl RK) (d:RCl PzK) (P L G:Addr) (h w g:Int) (rows:List RR) (cl:List Int):Prop where
 ok:d.ok .Puzzle=true
 R:bM c h w g rows
 C:CluesOk h w g cl
 gv:H G=some (.lst (cl.map V.int))
 ex:∃ dx p rs,H P=some (.ins (d.A .Puzzle) dx (pFs p L G))∧IsFl H p h w g∧IsRules H c p L rs rows
theorem IsPz.same {H H':Hp} {c:RCl RK} {d:RCl PzK} {P L G:Addr} {h w g:Int} {rows:List RR} {cl:List Int} (x:IsPz H c d P L G h w g rows cl) (s:Same H H'):IsPz H' c d P L G h w g rows cl:=by
 obtain ⟨dx,p,rs,h1,h2,h3⟩:=x.ex
 exact ⟨x.ok,x.R,x.C,s _ _ x.gv,dx,p,rs,s _ _ h1,s _ _ h2,h3.same s⟩
def bF (K:PySem.W.Frag):Sp:=fun vs H Q _=>∃ i:Int,vs=[.int i]∧Q (.bl true) H
theorem np {K:PySem.W.Frag} {vs:List V} {H:Hp} {Q:VK} {E:XK} (h:bF K vs H Q E):vs.length=1:=by
 obtain ⟨_,rfl,_⟩:=h; rfl
def fN (K:PySem.W.Frag):TS:=
 (tRet (tAndV (tCB kIsi (tCons (tVar 0) (tCons (tC (.ty "int")) tNil))) (tNotV (tCB kIsi (tCons (tVar 0) (tCons (tC (.ty "bool")) tNil))))))
theorem nq {K:PySem.W.Frag} {vs:List V} {H:Hp} {Q:VK} {E:XK} (h:bF K vs H Q E):fN K { nx:=fun _ H'=>Q .non H',rt:=Q } (start ["value"] vs) H:=by
 obtain ⟨i,rfl,q⟩:=h
 show fN K _ [some (.int i)] H
 unfold fN
 walk_at "w"
 exact q
def aM (K:PySem.W.Frag):Sp:=fun vs H Q _=>∃ i m:Int,vs=[.int i,.int m]∧Q (.bl (decide (1≤i)&&decide (i≤m))) H
theorem je {K:PySem.W.Frag} {vs:List V} {H:Hp} {Q:VK} {E:XK} (h:aM K vs H Q E):vs.length=2:=by
 obtain ⟨_,_,rfl,_⟩:=h; rfl
def b3 (K:PySem.W.Frag):TS:=
 (tRet (tAndV (tCall (bF K) [] E0 (tCons (tVar 0) tNil)) (tAndV (tOp (cCmp fun i j=>decide (i≤j)) (tC (.int 1)) (tVar 0)) (tOp (cCmp fun i j=>decide (i≤j)) (tVar 0) (tVar 1)))))
theorem jf {K:PySem.W.Frag} {vs:List V} {H:Hp} {Q:VK} {E:XK} (h:aM K vs H Q E):b3 K { nx:=fun _ H'=>Q .non H',rt:=Q } (start ["value","most"] vs) H:=by
 obtain ⟨i,m,rfl,q⟩:=h
 show b3 K _ [some (.int i),some (.int m)] H
 unfold b3
 walk_at "w"
 refine ⟨i,rfl,⟨true,rfl,iteT ?_⟩⟩
 walk_at "w"
 cases hb:decide (1≤i) with
 | false=>
  rw [hb,Bool.false_and] at q
  exact iteF q
 | true=>
  rw [hb,Bool.true_and] at q
  exact iteT q
def bG (K:PySem.W.Frag):Sp:=fun vs H Q _=>∃ h w g:Int,vs=[.int h,.int w,.int g]∧FlOk h w g∧∀ p,H p=none→Q (.ref p) (upd H p (.tup [.int h,.int w,.int g]))
theorem nr {K:PySem.W.Frag} {vs:List V} {H:Hp} {Q:VK} {E:XK} (h:bG K vs H Q E):vs.length=3:=by
 obtain ⟨_,_,_,rfl,_⟩:=h; rfl
def fO (K:PySem.W.Frag):TS:=
 (tSeq (tIfS (tNot (tB (tCall (aM K) [] E0 (tCons (tVar 0) (tCons (tC (.int 6)) tNil))))) aO tNext)
  (tSeq (tIfS (tNot (tB (tCall (aM K) [] E0 (tCons (tVar 1) (tCons (tC (.int 6)) tNil))))) aO tNext)
  (tSeq (tIfS (tTest (tOp (cCmp fun i j=>decide (j < i)) (tOp cMul (tVar 0) (tVar 1)) (tC (.int 16)))) aO tNext)
  (tSeq (tIfS (tNot (tB (tCall (aM K) [] E0 (tCons (tVar 2) (tCons (tC (.int 6)) tNil))))) aO tNext)
  (tRet (tTup (tCons (tVar 0) (tCons (tVar 1) (tCons (tVar 2) tNil)))))))))
theorem nt {K:PySem.W.Frag} {vs:List V} {H:Hp} {Q:VK} {E:XK} (h:bG K vs H Q E):fO K { nx:=fun _ H'=>Q .non H',rt:=Q } (start ["high","wide","signs"] vs) H:=by
 obtain ⟨h,w,g,rfl,F,q⟩:=h
 obtain ⟨h0,h1,w0,w1,m16,g0,g1⟩:=id F
 show fO K _ [some (.int h),some (.int w),some (.int g)] H
 unfold fO
 rw [aQ,aR]
 walk_at "w"
 refine ⟨h,6,rfl,⟨_,rfl,?_⟩⟩
 rw [decide_eq_true h0,decide_eq_true h1,Bool.and_self]
 refine iteF ?_
 rw [aR]
 walk_at "w"
 refine ⟨w,6,rfl,⟨_,rfl,?_⟩⟩
 rw [decide_eq_true w0,decide_eq_true w1,Bool.and_self]
 refine iteF ?_
 rw [aR]
 walk_at "w"
 refine ⟨gM h0 h1,?_⟩
 rw [decide_eq_false (show ¬ (16:Int) < h*w by omega)]
 refine iteF ?_
 rw [aR]
 walk_at "w"
 refine ⟨g,6,rfl,⟨_,rfl,?_⟩⟩
 rw [decide_eq_true g0,decide_eq_true g1,Bool.and_self]
 refine iteF ?_
 walk_at "w"
 exact ⟨aF (by show (3:Nat)≤1000; decide),q⟩
def bj (K:PySem.W.Frag):Sp:=fun vs H Q _=>∃ (p:Addr) (h w g:Int),vs=[.ref p]∧IsFl H p h w g∧FlOk h w g∧∀ p,H p=none→Q (.ref p) (upd H p (.tup [.int h,.int w,.int g]))
theorem jG {K:PySem.W.Frag} {vs:List V} {H:Hp} {Q:VK} {E:XK} (h:bj K vs H Q E):vs.length=1:=by
 obtain ⟨_,_,_,_,rfl,_⟩:=h; rfl
def ce (K:PySem.W.Frag):TS:=
 (tSeq (tIfS (tOr (tNot (tB (tCB kIsi (tCons (tVar 0) (tCons (tC (.ty "tuple")) tNil))))) (tTest (tOp (cNe K) (tCB kLen (tCons (tVar 0) tNil)) (tC (.int 3))))) aO tNext)
  (tRet (tCall (bG K) [] E0 (tCons (tOp cIx (tVar 0) (tC (.int 0))) (tCons (tOp cIx (tVar 0) (tC (.int 1))) (tCons (tOp cIx (tVar 0) (tC (.int 2))) tNil))))))
theorem jH {K:PySem.W.Frag} {vs:List V} {H:Hp} {Q:VK} {E:XK} (h:bj K vs H Q E):ce K { nx:=fun _ H'=>Q .non H',rt:=Q } (start ["floor"] vs) H:=by
 obtain ⟨p,h,w,g,rfl,hp,F,q⟩:=h
 show ce K _ [some (.ref p)] H
 unfold ce
 rw [aQ,aR]
 walk_at "w"
 refine o6 hp ?_
 walk_at "w"
 rw [rG hp,show (([V.int h,V.int w,V.int g]:List V).length:Int)=3 from rfl]
 walk_at "w"
 refine ixT hp (v:=V.int h) rfl ?_
 walk_at "w"
 refine ixT hp (v:=V.int w) rfl ?_
 walk_at "w"
 refine ixT hp (v:=V.int g) rfl ?_
 walk_at "w"
 exact ⟨h,w,g,rfl,F,q⟩
def bR (K:PySem.W.Frag) (c:RCl RK):Sp:=fun vs H Q _=>∃ (p a:Addr) (h w g:Int) (rows:List RR),vs=[.ref p,.ref a]∧IsFl H p h w g∧H a=some (.lst ((rows.map RR.txt).map V.str))∧bM c h w g rows∧
 ∀ l rs H',Same H H'→H l=none→IsRules H' c p l rs rows→Q (.ref l) H'
theorem lW {K:PySem.W.Frag} {c:RCl RK} {vs:List V} {H:Hp} {Q:VK} {E:XK} (h:bR K c vs H Q E):vs.length=2:=by
 obtain ⟨_,_,_,_,_,_,rfl,_⟩:=h; rfl
def dM (K:PySem.W.Frag) (c:RCl RK):TS:=
 (tSeq (tIfS (tTest (tOp (cCmp fun i j=>decide (j < i)) (tCB kLen (tCons (tVar 1) tNil)) (tC (.int 12)))) aO tNext)
  (tRet (tComp [none,none,some 0] (iList K (tVar 1)) (gName 1) tTrue (tCall (b8 K c) [] E0 (tCons (tVar 2) (tCons (tVar 1) tNil))))))
theorem lX {K:PySem.W.Frag} {c:RCl RK} {vs:List V} {H:Hp} {Q:VK} {E:XK} (h:bR K c vs H Q E):dM K c { nx:=fun _ H'=>Q .non H',rt:=Q } (start ["floor","lines"] vs) H:=by
 obtain ⟨p,a,h,w,g,rows,rfl,hp,ha,O,q⟩:=h
 have hn:=O.n
 show dM K c _ [some (.ref p),some (.ref a)] H
 unfold dM
 rw [aQ,aR]
 walk_at "w"
 rw [im ha,List.length_map,List.length_map]
 walk_at "w"
 rw [decide_eq_false (show ¬ (12:Int) < (rows.length:Nat) by omega)]
 refine iteF ?_
 walk_at "w"
 refine ⟨⟨_,SqL.of ha⟩,?_⟩
 refine lI (xs:=(rows.map RR.txt).map V.str) (fun l i σ H'=>(∃ cv,σ=[none,cv,some (.ref p)])∧Same H H'∧∃ rs:List Addr,H' l=some (.lst (rs.map V.ref))∧rs.length=i∧∀ (j:Nat) (r:Addr) (x:RR),rs[j]? =some r→rows[j]? =some x→IsRule H' c x.k r p x.ws x.cs x.n x.m)
  (fun l hl=>⟨⟨none,rfl⟩,(Same.refl H).laid hl,[],by rw [ad]; rfl,rfl,fun j r x e=>by simp at e⟩) (fun l i σ H' _ _ x=>x.2.1.seq (SqL.of ha)) ?_ ?_
 · rintro l i x σ H1 hl hx ⟨⟨cv,rfl⟩,s1,rs,el,hlen,hat⟩
   rw [List.getElem?_map,List.getElem?_map] at hx
   cases e:rows[i]? with
   | none=>rw [e] at hx; cases hx
   | some y=>
    rw [e] at hx
    cases hx
    have hi:=(List.getElem?_eq_some_iff.mp e).1
    have hm:=List.mem_of_getElem? e
    rw [bf]
    show tTrue [none,some (.str y.txt),some (.ref p)] H1 _
    walk_at "w"
    refine ⟨y.k,p,h,w,g,y.n,y.m,y.ns,y.cs,rfl,s1 _ _ hp,O.F,O.ok y hm,O.c y hm,fun r H2 s2 hr xr=>?_⟩
    have nrl:r≠l:=fun z=>by rw [z,el] at hr; cases hr
    refine ⟨_,s2 _ _ el,by rw [List.length_map]; exact aI (by omega),⟨_,rfl⟩,(s1.trans s2).own hl,rs++[r],by rw [ad]; simp,by simp [hlen],fun j r' x' h1 h2=>?_⟩
    by_cases hj:j < rs.length
    · rw [List.getElem?_append_left hj] at h1
      exact ((hat j r' x' h1 h2).same s2).lst (s2 _ _ el)
    · rw [List.getElem?_append_right (by omega)] at h1
      have hj0:j - rs.length=0:=by
       have:=(List.getElem?_eq_some_iff.mp h1).1
       simp at this
       omega
      rw [hj0] at h1
      have:j=i:=by omega
      subst this
      rw [e] at h2
      simp at h1
      cases h2
      subst h1
      exact xr.lst (s2 _ _ el)
 · rintro l σ H1 hl ⟨_,s1,rs,el,hlen,hat⟩
   exact q l rs H1 s1 hl ⟨el,by rw [hlen]; simp,hat⟩
def filB (least g:Int) (n:Nat) (xs:List Int):Bool:=decide (xs.length=n)&&xs.all fun x=>decide (least≤x)&&decide (x≤g)
def bS (K:PySem.W.Frag):Sp:=fun vs H Q _=>∃ (p a:Addr) (h w g least:Int) (xs:List Int),vs=[.ref p,.ref a,.int least]∧IsFl H p h w g∧FlOk h w g∧H a=some (.lst (xs.map V.int))∧xs.length≤100∧∀ H',Same H H'→Q (.bl (filB least g (h*w).toNat xs)) H'
theorem lY {K:PySem.W.Frag} {vs:List V} {H:Hp} {Q:VK} {E:XK} (h:bS K vs H Q E):vs.length=3:=by
 obtain ⟨_,_,_,_,_,_,_,rfl,_⟩:=h; rfl
def dN (K:PySem.W.Frag):TS:=
 (tSeq (tIfS (tOr (tNot (tB (tCB kIsi (tCons (tVar 1) (tCons (tC (.ty "list")) tNil))))) (tTest (tOp (cNe K) (tCB kLen (tCons (tVar 1) tNil)) (tCall (aK K) [] E0 (tCons (tVar 0) tNil))))) (tRet (tC (.bl false))) tNext)
  (tRet (tCB kAll (tCons (tComp [none,none,some 0,some 2] (iList K (tVar 1)) (gName 1) tTrue (tAndV (tCall (bF K) [] E0 (tCons (tVar 1) tNil)) (tAndV (tOp (cCmp fun i j=>decide (i≤j)) (tVar 3) (tVar 1)) (tOp (cCmp fun i j=>decide (i≤j)) (tVar 1) (tOp cIx (tVar 2) (tC (.int 2))))))) tNil))))
theorem lZ {K:PySem.W.Frag} {vs:List V} {H:Hp} {Q:VK} {E:XK} (h:bS K vs H Q E):dN K { nx:=fun _ H'=>Q .non H',rt:=Q } (start ["floor","filling","least"] vs) H:=by
 obtain ⟨p,a,h,w,g,least,xs,rfl,hp,F,ha,hn,q⟩:=h
 obtain ⟨h0,h1,w0,w1,m16,g0,g1⟩:=id F
 have mpos:0≤h*w:=Int.mul_nonneg (by omega) (by omega)
 show dN K _ [some (.ref p),some (.ref a),some (.int least)] H
 unfold dN
 rw [aQ,aR]
 walk_at "w"
 refine mK ha ?_
 walk_at "w"
 rw [im ha,List.length_map]
 walk_at "w"
 refine ⟨p,h,w,g,rfl,hp,h0,h1,?_⟩
 walk_at "w"
 unfold filB at q
 by_cases hl:xs.length=(h*w).toNat
 · rw [decide_eq_true (show (xs.length:Int)=h*w by omega)]
   rw [decide_eq_true hl] at q
   walk_at "w"
   refine ⟨⟨_,SqL.of ha⟩,?_⟩
   refine c5 (xs:=xs.map V.int) (fun _=>true) (fun i=>.bl (decide (least≤xs.getD i 0)&&decide (xs.getD i 0≤g))) (by rw [List.length_map]; omega) (SqL.of ha) ?_ ?_ ?_
   · intro i x H1 R hx s1 k1
     exact k1 _ (Same.refl _)
   · intro i x H1 Q1 hx hb s1 k1
     obtain ⟨z,hz,rfl⟩:=fK hx
     have q1:=k1 _ (Same.refl H1)
     rw [kX hz] at q1
     show tAndV _ _ [none,some (.int z),some (.ref p),some (.int least)] H1 Q1
     walk_at "w"
     refine ⟨z,rfl,⟨true,rfl,iteT ?_⟩⟩
     walk_at "w"
     cases hb:decide (least≤z) with
     | false=>
      rw [hb,Bool.false_and] at q1
      exact iteF q1
     | true=>
      rw [hb,Bool.true_and] at q1
      refine iteT ?_
      walk_at "w"
      refine ixT (s1 _ _ hp) (v:=V.int g) rfl ?_
      walk_at "w"
      exact q1
   · intro l H1 hl1 s1 el
     have eb:((List.range (xs.map V.int).length).filter fun _=>true).map (fun i=>V.bl (decide (least≤xs.getD i 0)&&decide (xs.getD i 0≤g)))=(xs.map fun x=>decide (least≤x)&&decide (x≤g)).map V.bl:=by
      rw [bV,List.length_map]
      refine List.ext_getElem? fun i=>?_
      rw [List.getElem?_map,List.getElem?_map,List.getElem?_map]
      by_cases h:i < xs.length
      · rw [List.getElem?_range h,List.getElem?_eq_getElem h]
        simp [List.getD,h]
      · rw [List.getElem?_eq_none (by simpa using h),List.getElem?_eq_none (by omega)]; rfl
     rw [eb] at el
     refine qf el ?_
     have ea:(xs.map fun x=>decide (least≤x)&&decide (x≤g)).all id=xs.all fun x=>decide (least≤x)&&decide (x≤g):=by rw [List.all_map]; rfl
     rw [ea]
     exact q _ s1
 · rw [decide_eq_false (show ¬ (xs.length:Int)=h*w by omega)]
   rw [decide_eq_false hl] at q
   walk_at "w"
   exact q _ (Same.refl _)
def bm (K:PySem.W.Frag):Sp:=fun vs H Q _=>∃ (p a:Addr) (h w g:Int) (xs:List Int),vs=[.ref p,.ref a]∧IsFl H p h w g∧FlOk h w g∧H a=some (.lst (xs.map V.int))∧CluesOk h w g xs∧∀ l H',Same H H'→H l=none→H' l=some (.lst (xs.map V.int))→Q (.ref l) H'
theorem jI {K:PySem.W.Frag} {vs:List V} {H:Hp} {Q:VK} {E:XK} (h:bm K vs H Q E):vs.length=2:=by
 obtain ⟨_,_,_,_,_,_,rfl,_⟩:=h; rfl
def cf (K:PySem.W.Frag):TS:=
 (tSeq (tIfS (tNot (tB (tCall (bS K) [] E0 (tCons (tVar 0) (tCons (tVar 1) (tCons (tC (.int 0)) tNil)))))) aO tNext)
  (tRet (tCB kList (tCons (tVar 1) tNil))))
theorem CluesOk.fil {h w g:Int} {xs:List Int} (C:CluesOk h w g xs):filB 0 g (h*w).toNat xs=true:=by
 unfold filB
 rw [decide_eq_true C.len,Bool.true_and,List.all_eq_true]
 intro x hx
 have:=C.ok x hx
 simp [this.1,this.2]
theorem jJ {K:PySem.W.Frag} {vs:List V} {H:Hp} {Q:VK} {E:XK} (h:bm K vs H Q E):cf K { nx:=fun _ H'=>Q .non H',rt:=Q } (start ["floor","clues"] vs) H:=by
 obtain ⟨p,a,h,w,g,xs,rfl,hp,F,ha,C,q⟩:=h
 obtain ⟨h0,h1,w0,w1,m16,g0,g1⟩:=id F
 show cf K _ [some (.ref p),some (.ref a)] H
 unfold cf
 rw [aQ,aR]
 walk_at "w"
 refine ⟨p,a,h,w,g,0,xs,rfl,hp,F,ha,by have:=C.len; omega,fun H1 s1=>?_⟩
 rw [C.fil]
 refine ⟨true,rfl,iteF ?_⟩
 walk_at "w"
 refine jY (s1 _ _ ha) fun l hl=>?_
 exact q l _ (s1.laid hl) (s1.free hl) ad
theorem IsRule.ins {H:Hp} {c:RCl RK} {k:RK} {r p a:Addr} {ws:List (List Nat)} {cs:List Int} {n m:Int} {C dx:Addr} {fs:List (Str × V)} {o:HO} (x:IsRule H c k r p ws cs n m) (ha:H a=some (.ins C dx fs)) (hf:fs.length≠5):IsRule (upd H a o) c k r p ws cs n m:=by
 obtain ⟨dx',W,C',h1,h2,h3⟩:=x.ex
 refine ⟨x.ok,dx',W,C',?_,?_,?_⟩
 · rw [ah (fun e=>by rw [e,ha] at h1; cases h1; exact hf rfl)]; exact h1
 · rw [ah (fun e=>by rw [e,ha] at h2; cases h2)]; exact h2
 · rw [ah (fun e=>by rw [e,ha] at h3; cases h3)]; exact h3
theorem IsRules.ins {H:Hp} {c:RCl RK} {p L a:Addr} {rs:List Addr} {rows:List RR} {C dx:Addr} {fs:List (Str × V)} {o:HO} (x:IsRules H c p L rs rows) (ha:H a=some (.ins C dx fs)) (hf:fs.length≠5):IsRules (upd H a o) c p L rs rows:=
 ⟨by rw [ah (fun e=>by have:=x.top; rw [e,ha] at this; cases this)]; exact x.top,x.len,fun i r y h1 h2=>(x.at_ i r y h1 h2).ins ha hf⟩
def aA (K:PySem.W.Frag) (c:RCl RK) (d:RCl PzK):Sp:=fun vs H Q _=>∃ (x dx p a b:Addr) (h w g:Int) (rows:List RR) (cl:List Int),vs=[.ref x,.ref p,.ref a,.ref b]∧d.ok .Puzzle=true∧H x=some (.ins (d.A .Puzzle) dx [])∧IsFl H p h w g∧H a=some (.lst ((rows.map RR.txt).map V.str))∧H b=some (.lst (cl.map V.int))∧bM c h w g rows∧CluesOk h w g cl∧
 ∀ L G H',(∀ y o,y≠x→H y=some o→H' y=some o)→H L=none→H G=none→IsPz H' c d x L G h w g rows cl→Q .non H'
theorem iT {K:PySem.W.Frag} {c:RCl RK} {d:RCl PzK} {vs:List V} {H:Hp} {Q:VK} {E:XK} (h:aA K c d vs H Q E):vs.length=4:=by
 obtain ⟨_,_,_,_,_,_,_,_,_,_,rfl,_⟩:=h; rfl
def bW (K:PySem.W.Frag) (c:RCl RK) (d:RCl PzK):TS:=
 (tSeq (sFldK d (tVar 0) (tCall (bj K) [] E0 (tCons (tVar 1) tNil)) "floor")
  (tSeq (sFldK d (tVar 0) (tCall (bR K c) [] E0 (tCons (tFldK d (tVar 0) "floor") (tCons (tVar 2) tNil))) "laws")
  (sFldK d (tVar 0) (tCall (bm K) [] E0 (tCons (tFldK d (tVar 0) "floor") (tCons (tVar 3) tNil))) "given")))
theorem iU {K:PySem.W.Frag} {c:RCl RK} {d:RCl PzK} {vs:List V} {H:Hp} {Q:VK} {E:XK} (h:aA K c d vs H Q E):bW K c d { nx:=fun _ H'=>Q .non H',rt:=Q } (start ["self","floor","lines","clues"] vs) H:=by
 obtain ⟨x,dx,p,a,b,h,w,g,rows,cl,rfl,ok,hx,hp,ha,hb,R,C,q⟩:=h
 show bW K c d _ [some (.ref x),some (.ref p),some (.ref a),some (.ref b)] H
 unfold bW sFldK
 walk_at "w"
 refine ⟨p,h,w,g,rfl,hp,R.F,fun p1 hp1=>?_⟩
 have nxp:x≠p1:=aw hx hp1
 refine ⟨x,.Puzzle,dx,[],rfl,ok,by rw [ah nxp]; exact hx,by show (0:Nat) < 1000; decide,?_⟩
 have f1:∀ y o,y≠x→H y=some o→(upd (upd H p1 (.tup [.int h,.int w,.int g])) x (.ins (d.A .Puzzle) dx (putF "floor" (.ref p1) []))) y=some o:=fun y o ny e=>by
  rw [ah ny,ah (aw e hp1)]; exact e
 have hx1:(upd (upd H p1 (.tup [.int h,.int w,.int g])) x (.ins (d.A .Puzzle) dx (putF "floor" (.ref p1) []))) x=some (.ins (d.A .Puzzle) dx [("floor",.ref p1)]):=ad
 have hp1':IsFl (upd (upd H p1 (.tup [.int h,.int w,.int g])) x (.ins (d.A .Puzzle) dx (putF "floor" (.ref p1) []))) p1 h w g:=by
  show (upd (upd H p1 (.tup [.int h,.int w,.int g])) x _) p1=_
  rw [ah nxp.symm,ad]
 have fr1:∀ l,(upd (upd H p1 (.tup [.int h,.int w,.int g])) x (.ins (d.A .Puzzle) dx (putF "floor" (.ref p1) []))) l=none→H l=none:=fun l e=>by
  have n1:l≠x:=fun z=>by rw [z,ad] at e; cases e
  rw [ah n1] at e
  have n2:l≠p1:=fun z=>by rw [z,ad] at e; cases e
  rw [ah n2] at e
  exact e
 have nax:a≠x:=fun z=>by rw [z,hx] at ha; cases ha
 have nbx:b≠x:=fun z=>by rw [z,hx] at hb; cases hb
 generalize upd (upd H p1 (.tup [.int h,.int w,.int g])) x (.ins (d.A .Puzzle) dx (putF "floor" (.ref p1) []))=H1 at*
 refine fldE (c:=d) (k:=.Puzzle) rfl ok hx1 (v:=.ref p1) (by rfl) ?_
 walk_at "w"
 refine ⟨p1,a,h,w,g,rows,rfl,hp1',f1 a _ nax ha,R,fun L rs H2 s2 hL X=>?_⟩
 refine ⟨x,.Puzzle,dx,_,rfl,ok,s2 _ _ hx1,by show (1:Nat) < 1000; decide,?_⟩
 have nxL:L≠x:=fun z=>by rw [z,hx1] at hL; cases hL
 have X3:=X.ins (o:=.ins (d.A .Puzzle) dx (putF "laws" (.ref L) [("floor",.ref p1)])) (s2 _ _ hx1) (by show (1:Nat)≠5; decide)
 have f2:∀ y o,y≠x→H y=some o→(upd H2 x (.ins (d.A .Puzzle) dx (putF "laws" (.ref L) [("floor",.ref p1)]))) y=some o:=fun y o ny e=>by
  rw [ah ny]; exact s2 _ _ (f1 y o ny e)
 have hx3:(upd H2 x (.ins (d.A .Puzzle) dx (putF "laws" (.ref L) [("floor",.ref p1)]))) x=some (.ins (d.A .Puzzle) dx [("floor",.ref p1),("laws",.ref L)]):=ad
 have hp3:IsFl (upd H2 x (.ins (d.A .Puzzle) dx (putF "laws" (.ref L) [("floor",.ref p1)]))) p1 h w g:=by
  show (upd H2 x _) p1=_
  rw [ah nxp.symm]; exact s2 _ _ hp1'
 have fr3:∀ l,(upd H2 x (.ins (d.A .Puzzle) dx (putF "laws" (.ref L) [("floor",.ref p1)]))) l=none→H1 l=none:=fun l e=>by
  have n1:l≠x:=fun z=>by rw [z,ad] at e; cases e
  rw [ah n1] at e
  exact s2.free e
 generalize upd H2 x (.ins (d.A .Puzzle) dx (putF "laws" (.ref L) [("floor",.ref p1)]))=H3 at*
 refine fldE (c:=d) (k:=.Puzzle) rfl ok hx3 (v:=.ref p1) (by rfl) ?_
 walk_at "w"
 refine ⟨p1,b,h,w,g,cl,rfl,hp3,R.F,f2 b _ nbx hb,C,fun G H4 s4 hG eG=>?_⟩
 refine ⟨x,.Puzzle,dx,_,rfl,ok,s4 _ _ hx3,by show (2:Nat) < 1000; decide,?_⟩
 have nxG:G≠x:=fun z=>by rw [z,hx3] at hG; cases hG
 refine q L G _ (fun y o ny e=>?_) (fr1 L hL) (fr1 G (fr3 G hG)) ⟨ok,R,C,?_,dx,p1,rs,?_,?_,?_⟩
 · rw [ah ny]; exact s4 _ _ (f2 y o ny e)
 · rw [ah nxG]; exact eG
 · rw [ad]; rfl
 · show (upd H4 x _) p1=_
   rw [ah nxp.symm]; exact s4 _ _ hp3
 · exact (X3.same s4).ins (s4 _ _ hx3) (by show (2:Nat)≠5; decide)
theorem mY {K:PySem.W.Frag} {c:RCl RK} {d:RCl PzK} {H:Hp} {Z:Addr→Hp→Prop} {p a b:Addr} {h w g:Int} {rows:List RR} {cl:List Int} (ok:d.ok .Puzzle=true) (hp:IsFl H p h w g) (ha:H a=some (.lst ((rows.map RR.txt).map V.str))) (hb:H b=some (.lst (cl.map V.int))) (R:bM c h w g rows) (C:CluesOk h w g cl)
  (q:∀ P L G H',Same H H'→H P=none→H L=none→H G=none→IsPz H' c d P L G h w g rows cl→Z P H'):
  ∀ x dx,H x=none→H dx=none→dx≠x→aA K c d (.ref x::([.ref p,.ref a,.ref b]++[])) (upd (upd H dx (.own x)) x (.ins (d.A .Puzzle) dx [])) (fun v H2=>v=.non∧Z x H2) E0:=by
 intro x dx hx hd ne
 have k:∀ y o,H y=some o→(upd (upd H dx (.own x)) x (.ins (d.A .Puzzle) dx [])) y=some o:=fun y o e=>by rw [ah (aw e hx),ah (aw e hd)]; exact e
 have fr:∀ y,(upd (upd H dx (.own x)) x (.ins (d.A .Puzzle) dx [])) y=none→H y=none:=fun y e=>by
  have n1:y≠x:=fun z=>by rw [z,ad] at e; cases e
  rw [ah n1] at e
  have n2:y≠dx:=fun z=>by rw [z,ad] at e; cases e
  rw [ah n2] at e
  exact e
 exact ⟨x,dx,p,a,b,h,w,g,rows,cl,rfl,ok,ad,k _ _ hp,k _ _ ha,k _ _ hb,R,C,fun L G H' hs hL hG X=>⟨rfl,q x L G H' (fun y o e=>hs y o (aw e hx) (k _ _ e)) hx (fr L hL) (fr G hG) X⟩⟩
def dQ (K:PySem.W.Frag) (c:RCl RK) (d:RCl PzK) (_:PzK):Sp:=fun vs H Q _=>∃ (P L G:Addr) (h w g:Int) (rows:List RR) (cl:List Int),vs=[.ref P]∧IsPz H c d P L G h w g rows cl∧∀ p,IsFl H p h w g→Q (.ref p) H
def cF (K:PySem.W.Frag) (c:RCl RK) (d:RCl PzK):Sp:=dQ K c d .Puzzle
theorem ke {K:PySem.W.Frag} {c:RCl RK} {d:RCl PzK} {vs:List V} {H:Hp} {Q:VK} {E:XK} (h:cF K c d vs H Q E):vs.length=1:=by
 obtain ⟨_,_,_,_,_,_,_,_,rfl,_⟩:=h; rfl
def cG (K:PySem.W.Frag) (c:RCl RK) (d:RCl PzK):TS:=
 (tRet (tFldK d (tVar 0) "floor"))
theorem kf {K:PySem.W.Frag} {c:RCl RK} {d:RCl PzK} {vs:List V} {H:Hp} {Q:VK} {E:XK} (h:cF K c d vs H Q E):cG K c d { nx:=fun _ H'=>Q .non H',rt:=Q } (start ["self"] vs) H:=by
 obtain ⟨P,L,G,h,w,g,rows,cl,rfl,x,q⟩:=h
 obtain ⟨dx,p,rs,h1,h2,h3⟩:=x.ex
 show cG K c d _ [some (.ref P)] H
 unfold cG
 walk_at "w"
 exact fldE (k:=.Puzzle) rfl x.ok h1 (v:=.ref p) (by rfl) (q p h2)
def cg (K:PySem.W.Frag) (c:RCl RK) (d:RCl PzK) (_:PzK):Sp:=fun vs H Q _=>∃ (P L G:Addr) (h w g:Int) (rows:List RR) (cl:List Int),vs=[.ref P]∧IsPz H c d P L G h w g rows cl∧∀ l,H l=none→Q (.ref l) (upd H l (.lst (cl.map V.int)))
def cH (K:PySem.W.Frag) (c:RCl RK) (d:RCl PzK):Sp:=cg K c d .Puzzle
theorem kg {K:PySem.W.Frag} {c:RCl RK} {d:RCl PzK} {vs:List V} {H:Hp} {Q:VK} {E:XK} (h:cH K c d vs H Q E):vs.length=1:=by
 obtain ⟨_,_,_,_,_,_,_,_,rfl,_⟩:=h; rfl
def cI (K:PySem.W.Frag) (c:RCl RK) (d:RCl PzK):TS:=
 (tRet (tCB kList (tCons (tFldK d (tVar 0) "given") tNil)))
theorem kh {K:PySem.W.Frag} {c:RCl RK} {d:RCl PzK} {vs:List V} {H:Hp} {Q:VK} {E:XK} (h:cH K c d vs H Q E):cI K c d { nx:=fun _ H'=>Q .non H',rt:=Q } (start ["self"] vs) H:=by
 obtain ⟨P,L,G,h,w,g,rows,cl,rfl,x,q⟩:=h
 obtain ⟨dx,p,rs,h1,h2,h3⟩:=x.ex
 show cI K c d _ [some (.ref P)] H
 unfold cI
 walk_at "w"
 refine fldE (k:=.Puzzle) rfl x.ok h1 (v:=.ref G) (by rfl) ?_
 walk_at "w"
 exact jY x.gv q
theorem ow {K:PySem.W.Frag} {c:RCl RK} {H:Hp} {p L:Addr} {rs:List Addr} {rows:List RR} {h w g:Int} {fin:Addr→Hp→Prop} (X:IsRules H c p L rs rows) (R:bM c h w g rows)
  (hd:∀ l H',H l=none→Same H H'→H' l=some (.lst ((rows.map RR.txt).map V.str))→fin l H'):CompR (Itl K L) (gName 1) tTrue (bb c c.ok "line" (ig K c) (tVar 1) tNil) fin [none,none] H:=by
 have hn:=R.n
 have hlen:=X.len
 refine c5 (xs:=rs.map V.ref) (fun _=>true) (fun i=>.str ((rows.map RR.txt).getD i (tx []))) (by rw [List.length_map]; omega) (SqL.of X.top) ?_ ?_ ?_
 · intro i x H1 R hx s1 k1
   exact k1 _ (Same.refl _)
 · intro i x H1 Q1 hx hb s1 k1
   rw [List.getElem?_map] at hx
   cases e:rs[i]? with
   | none=>rw [e] at hx; cases hx
   | some r=>
    rw [e] at hx
    cases hx
    have hi:=(List.getElem?_eq_some_iff.mp e).1
    have er:rows[i]? =some rows[i]:=List.getElem?_eq_getElem (by omega)
    have X1:=X.at_ i r _ e er
    obtain ⟨dx,W,C,h1,h2,h3⟩:=X1.ex
    have q1:=k1 _ (Same.refl H1)
    have eg:(rows.map RR.txt).getD i (tx [])=rows[i].txt:=by rw [List.getD,List.getElem?_map,er]; rfl
    rw [eg] at q1
    have O:=R.ok _ (List.mem_of_getElem? er)
    have ln:=jw (k:=rows[i].k) (n:=rows[i].n) (m:=rows[i].m) O.len
    show bb c c.ok "line" _ _ _ [none,some (.ref r)] H1 Q1
    refine methE (k:=rows[i].k) rfl X1.ok (s1 _ _ h1) (by rfl) ?_
    walk_at "w"
    exact ⟨r,p,_,_,_,_,rfl,X1.same s1,ln.1,ln.2,q1⟩
 · intro l H1 hl s1 el
   refine hd l H1 hl s1 ?_
   rw [el,bV,List.length_map,hlen]
   congr 2
   refine List.ext_getElem? fun i=>?_
   rw [List.getElem?_map,List.getElem?_map,List.getElem?_map]
   by_cases h:i < rows.length
   · rw [List.getElem?_range h,List.getElem?_eq_getElem h]
     simp [List.getD,h]
   · rw [List.getElem?_eq_none (by simpa using h),List.getElem?_eq_none (by omega)]; rfl
def bN (K:PySem.W.Frag) (c:RCl RK) (d:RCl PzK) (_:PzK):Sp:=fun vs H Q _=>∃ (P L G:Addr) (h w g:Int) (rows:List RR) (cl:List Int),vs=[.ref P]∧IsPz H c d P L G h w g rows cl∧∀ l H',Same H H'→H l=none→H' l=some (.lst ((rows.map RR.txt).map V.str))→Q (.ref l) H'
def cJ (K:PySem.W.Frag) (c:RCl RK) (d:RCl PzK):Sp:=bN K c d .Puzzle
theorem ki {K:PySem.W.Frag} {c:RCl RK} {d:RCl PzK} {vs:List V} {H:Hp} {Q:VK} {E:XK} (h:cJ K c d vs H Q E):vs.length=1:=by
 obtain ⟨_,_,_,_,_,_,_,_,rfl,_⟩:=h; rfl
def cK (K:PySem.W.Frag) (c:RCl RK) (d:RCl PzK):TS:=
 (tRet (tComp [none,none] (iList K (tFldK d (tVar 0) "laws")) (gName 1) tTrue (bb c c.ok "line" (ig K c) (tVar 1) tNil)))
theorem kj {K:PySem.W.Frag} {c:RCl RK} {d:RCl PzK} {vs:List V} {H:Hp} {Q:VK} {E:XK} (h:cJ K c d vs H Q E):cK K c d { nx:=fun _ H'=>Q .non H',rt:=Q } (start ["self"] vs) H:=by
 obtain ⟨P,L,G,h,w,g,rows,cl,rfl,x,q⟩:=h
 obtain ⟨dx,p,rs,h1,h2,h3⟩:=x.ex
 show cK K c d _ [some (.ref P)] H
 unfold cK
 rw [dI,b6]
 refine fldE (k:=.Puzzle) rfl x.ok h1 (v:=.ref L) (by rfl) ?_
 refine ⟨L,rfl,⟨_,SqL.of h3.top⟩,?_⟩
 exact ow h3 x.R fun l H1 hl s1 el=>q l H1 s1 hl el
def ir (K:PySem.W.Frag) (c:RCl RK) (d:RCl PzK) (_:PzK):Sp:=fun vs H Q _=>∃ (P L G b:Addr) (h w g:Int) (rows:List RR) (cl cl2:List Int),vs=[.ref P,.ref b]∧IsPz H c d P L G h w g rows cl∧H b=some (.lst (cl2.map V.int))∧CluesOk h w g cl2∧
 ∀ P' L' G' H',Same H H'→H P'=none→H L'=none→H G'=none→IsPz H' c d P' L' G' h w g rows cl2→Q (.ref P') H'
def cL (K:PySem.W.Frag) (c:RCl RK) (d:RCl PzK):Sp:=ir K c d .Puzzle
theorem kl {K:PySem.W.Frag} {c:RCl RK} {d:RCl PzK} {vs:List V} {H:Hp} {Q:VK} {E:XK} (h:cL K c d vs H Q E):vs.length=2:=by
 obtain ⟨_,_,_,_,_,_,_,_,_,_,rfl,_⟩:=h; rfl
def cM (K:PySem.W.Frag) (c:RCl RK) (d:RCl PzK):TS:=
 (tRet (tMake (d.A .Puzzle) (aA K c d) [] E0 (tCons (tFldK d (tVar 0) "floor") (tCons (bb d d.ok "lines" (bN K c d) (tVar 0) tNil) (tCons (tVar 1) tNil)))))
theorem km {K:PySem.W.Frag} {c:RCl RK} {d:RCl PzK} {vs:List V} {H:Hp} {Q:VK} {E:XK} (h:cL K c d vs H Q E):cM K c d { nx:=fun _ H'=>Q .non H',rt:=Q } (start ["self","clues"] vs) H:=by
 obtain ⟨P,L,G,b,h,w,g,rows,cl,cl2,rfl,x,hb,C2,q⟩:=h
 obtain ⟨dx,p,rs,h1,h2,h3⟩:=x.ex
 show cM K c d _ [some (.ref P),some (.ref b)] H
 unfold cM
 walk_at "w"
 refine fldE (k:=.Puzzle) rfl x.ok h1 (v:=.ref p) (by rfl) ?_
 walk_at "w"
 refine methE (k:=.Puzzle) rfl x.ok h1 (by rfl) ?_
 walk_at "w"
 refine ⟨P,L,G,h,w,g,rows,cl,rfl,x,fun l H1 s1 hl el=>?_⟩
 walk_at "w"
 exact mY x.ok (s1 _ _ h2) el (s1 _ _ hb) x.R C2 fun P' L' G' H' s2 e1 e2 e3 X=>q P' L' G' H' (s1.trans s2) (s1.free e1) (s1.free e2) (s1.free e3) X
end L2
namespace L2
open PySem PySem.Spec PyProof.Rows
end L2
namespace L2
open PySem PySem.Spec PyProof.Rows
local macro_rules | `(tactic| walk_at "w")=>`(tactic| (first | simp only [aQ,if_true,if_false,Bool.false_eq_true,decide_true,decide_false,gs,gt,i9,eH,dZ,gq,hX,gr,eD,hJ,hV,eC,i7,eI,eJ,eM,eN,eP,eQ,eK,h9,ia,ib,hE,i8,Bool.not_true,Bool.not_false,dm,fh,bf,fi,w_c,gQ,dI,dn,dq,dr,w_b,w_not,fj,gR,dt,du,fk,fm,dv,gS,dw,fo,fq,gB,ft,cp,dy,dz,dA,cu,cw,b6,bX,bY,bE,fu,fv,fw,fz,fA,fB,fC,fD,fE,fF,fG,fH,gT,dB,bZ,dC,gU,dD,cx,b2,fI,fJ,dE,cq,dF,
 List.getElem?_cons_zero,List.getElem?_cons_succ,Option.some.injEq,exists_eq_left',exists_eq_left,List.set_cons_zero,List.set_cons_succ,bK,V.int.injEq,V.bl.injEq,V.ref.injEq,V.str.injEq,List.append_nil,List.nil_append,List.cons_append] | dsimp only | skip))
end L2
namespace L2
open PySem PySem.Spec PyProof.Rows
local macro_rules | `(tactic| walk_at "w")=>`(tactic| (first | simp only [aQ,iQ,j4,gD,iR,ic,ie,j6,j2,iO,j3,if_true,if_false,Bool.false_eq_true,decide_true,decide_false,gs,gt,i9,eH,dZ,gq,hX,gr,eD,hJ,hV,eC,i7,eI,eJ,eM,eN,eP,eQ,eK,h9,ia,ib,hE,i8,Bool.not_true,Bool.not_false,dm,fh,bf,fi,w_c,gQ,dI,dn,dq,dr,w_b,w_not,fj,gR,dt,du,fk,fm,dv,gS,dw,fo,fq,gB,ft,cp,dy,dz,dA,cu,cw,b6,bX,bY,bE,fu,fv,fw,fz,fA,fB,fC,fD,fE,fF,fG,fH,gT,dB,bZ,dC,gU,dD,cx,b2,fI,fJ,dE,cq,dF,
 List.getElem?_cons_zero,List.getElem?_cons_succ,Option.some.injEq,exists_eq_left',exists_eq_left,List.set_cons_zero,List.set_cons_succ,bK,V.int.injEq,V.bl.injEq,V.ref.injEq,V.str.injEq,List.append_nil,List.nil_append,List.cons_append] | dsimp only | skip))
abbrev nsV (cs:List Nat):List V:=(cs.map fun (n:Nat)=>(n:Int)).map V.int
theorem pp {k:RK} {h w g:Int} {m:Nat} (hk:allK k=true) (k0:k≠.Rule) (hn:numK k=false) (hs:sgnK k=true) (m0:1≤(m:Int)) (m1:(m:Int)≤g):RR.Ok ⟨k,0,m,[],rngL 0 (h*w)⟩ h w g:=by
 refine ⟨k0,Nat.zero_le _,fun _=>rfl,fun _=>⟨m0,m1⟩,fun e=>?_,⟨fun e=>?_,fun _=>⟨rfl,rfl⟩⟩,fun x hx=>(by cases hx),Nat.zero_le _⟩
 · rw [show sgnK k=false from e] at hs; cases hs
 · rw [show allK k=false from e] at hk; cases hk
def lawCA (ns:List Int) (k:Int):Int:=if (ns.length:Int)=0 then (k*k*40692+7*k) % 2147483647 else
 if k < (ns.length:Int) then ns.getD (k % ns.length).toNat 0 % 2305843009213693951 else (ns.getD (k % ns.length).toNat 0 % 2305843009213693951*48271+k*k*40692) % 2305843009213693951
def aG (K:PySem.W.Frag):Sp:=fun vs H Q _=>∃ (a:Addr) (ns:List Int) (k:Int),vs=[.ref a,.int k]∧SqL K H a (ns.map V.int)∧ns.length≤63∧0≤k∧k≤10000∧Q (.int (lawCA ns k)) H
theorem kn {K:PySem.W.Frag} {vs:List V} {H:Hp} {Q:VK} {E:XK} (h:aG K vs H Q E):vs.length=2:=by
 obtain ⟨_,_,_,rfl,_⟩:=h; rfl
def cN (K:PySem.W.Frag):TS:=
 (tSeq (tIfS (tTest (tOp (cEq K) (tCB (kLenS K) (tCons (tVar 0) tNil)) (tC (.int 0)))) (tRet (tOp cMod (tOp cAdd (tOp cMul (tOp cMul (tVar 1) (tVar 1)) (tC (.int 40692))) (tOp cMul (tC (.int 7)) (tVar 1))) (tC (.int 2147483647)))) tNext)
  (tSeq (tAsg (tOp cMod (tOp (rIxL K) (tVar 0) (tOp cMod (tVar 1) (tCB (kLenS K) (tCons (tVar 0) tNil)))) (tC (.int 2305843009213693951))) (gName 2))
  (tSeq (tIfS (tTest (tOp (cCmp fun i j=>decide (i < j)) (tVar 1) (tCB (kLenS K) (tCons (tVar 0) tNil)))) (tRet (tVar 2)) tNext)
  (tRet (tOp cMod (tOp cAdd (tOp cMul (tVar 2) (tC (.int 48271))) (tOp cMul (tOp cMul (tVar 1) (tVar 1)) (tC (.int 40692)))) (tC (.int 2305843009213693951)))))))
theorem ko {K:PySem.W.Frag} {vs:List V} {H:Hp} {Q:VK} {E:XK} (h:aG K vs H Q E):cN K { nx:=fun _ H'=>Q .non H',rt:=Q } (start ["_law_script","_law_k","_law_number_here"] vs) H:=by
 obtain ⟨a,ns,k,rfl,hS,hn,k0,k1,q⟩:=h
 have kk:k*k≤10000*10000:=Int.mul_le_mul k1 k1 k0 (by decide)
 have kk0:0≤k*k:=Int.mul_nonneg k0 k0
 show cN K _ [some (.ref a),some (.int k),none] H
 unfold cN
 rw [aQ,aR]
 walk_at "w"
 refine ⟨a,_,rfl,.inl hS,?_⟩
 walk_at "w"
 rw [List.length_map]
 unfold lawCA at q
 by_cases hl:(ns.length:Int)=0
 · rw [if_pos hl] at q
   rw [decide_eq_true hl]
   refine iteT ⟨.inl ⟨by omega,by omega⟩,.inr ⟨by decide,by decide⟩,.inl ⟨by decide,by decide⟩,?_⟩
   walk_at "w"
   exact ⟨by decide,q⟩
 · rw [if_neg hl] at q
   rw [decide_eq_false hl]
   have hpos:0 < (ns.length:Int):=by omega
   refine iteF ⟨a,_,rfl,.inl hS,?_⟩
   walk_at "w"
   rw [List.length_map]
   have m0:=Int.emod_nonneg k (Int.ne_of_gt hpos)
   have m1:=Int.emod_lt_of_pos k hpos
   refine ⟨hpos,a,_,_,_,rfl,rfl,hS,mJ m0 m1,?_⟩
   walk_at "w"
   refine ⟨by decide,?_⟩
   rw [aR]
   walk_at "w"
   refine ⟨a,_,rfl,.inl hS,?_⟩
   walk_at "w"
   rw [List.length_map]
   by_cases hk:k < (ns.length:Int)
   · rw [if_pos hk] at q
     rw [decide_eq_true hk]
     exact iteT q
   · rw [if_neg hk] at q
     rw [decide_eq_false hk]
     refine iteF ⟨.inr ⟨by decide,by decide⟩,.inl ⟨by omega,by omega⟩,.inr ⟨by decide,by decide⟩,?_⟩
     walk_at "w"
     exact ⟨by decide,q⟩
theorem flZ (a b c:Int):FlOk (1+a % 6) (1+b % (if 16 / (1+a % 6) < 6 then 16 / (1+a % 6) else 6)) (1+c % 6)∧0 < (if 16 / (1+a % 6) < 6 then 16 / (1+a % 6) else (6:Int)):=by
 have a0:=Int.emod_nonneg a (by decide:(6:Int)≠0)
 have a1:=Int.emod_lt_of_pos a (by decide:(0:Int) < 6)
 have c0:=Int.emod_nonneg c (by decide:(6:Int)≠0)
 have c1:=Int.emod_lt_of_pos c (by decide:(0:Int) < 6)
 have hh:1+a % 6=1∨1+a % 6=2∨1+a % 6=3∨1+a % 6=4∨1+a % 6=5∨1+a % 6=6:=by omega
 generalize 1+a % 6=h at*
 have key:∀ m:Int,1≤m→m≤6→h*m≤16→(if 16 / h < 6 then 16 / h else 6)=m→FlOk h (1+b % (if 16 / h < 6 then 16 / h else 6)) (1+c % 6)∧0 < (if 16 / h < 6 then 16 / h else (6:Int)):=fun m m0 m1 m2 e=>by
  have b0:=Int.emod_nonneg b (by omega:m≠0)
  have b1:=Int.emod_lt_of_pos b (by omega:0 < m)
  rw [e]
  refine ⟨⟨by omega,by omega,by omega,by omega,?_,by omega,by omega⟩,by omega⟩
  exact Int.le_trans (Int.mul_le_mul_of_nonneg_left (show 1+b % m≤m by omega) (by omega)) m2
 rcases hh with e | e | e | e | e | e <;> subst e
 · exact key 6 (by decide) (by decide) (by decide) rfl
 · exact key 6 (by decide) (by decide) (by decide) rfl
 · exact key 5 (by decide) (by decide) (by decide) rfl
 · exact key 4 (by decide) (by decide) (by decide) rfl
 · exact key 3 (by decide) (by decide) (by decide) rfl
 · exact key 2 (by decide) (by decide) (by decide) rfl
def bt (K:PySem.W.Frag):Sp:=fun vs H Q _=>∃ z:Int,vs=[.int z]∧∀ (p:Addr) (H':Hp) (h w g:Int),Same H H'→H p=none→IsFl H' p h w g→FlOk h w g→Q (.ref p) H'
theorem kq {K:PySem.W.Frag} {vs:List V} {H:Hp} {Q:VK} {E:XK} (h:bt K vs H Q E):vs.length=1:=by
 obtain ⟨_,rfl,_⟩:=h; rfl
def cO (K:PySem.W.Frag):TS:=
 (tSeq (tAsg (tOp cAdd (tC (.int 1)) (tOp cMod (tVar 0) (tC (.int 6)))) (gName 1))
  (tSeq (tAsg (tOp cAdd (tC (.int 1)) (tOp cMod (tOp cDiv (tVar 0) (tC (.int 6))) (tCB kMin (tCons (tC (.int 6)) (tCons (tOp cDiv (tC (.int 16)) (tVar 1)) tNil))))) (gName 2))
  (tRet (tTup (tCons (tVar 1) (tCons (tVar 2) (tCons (tOp cAdd (tC (.int 1)) (tOp cMod (tOp cDiv (tVar 0) (tC (.int 36))) (tC (.int 6)))) tNil)))))))
theorem kr {K:PySem.W.Frag} {vs:List V} {H:Hp} {Q:VK} {E:XK} (h:bt K vs H Q E):cO K { nx:=fun _ H'=>Q .non H',rt:=Q } (start ["_law_cell","_law_high","_law_wide"] vs) H:=by
 obtain ⟨z,rfl,q⟩:=h
 obtain ⟨F,hm⟩:=flZ z (z / 6) (z / 36)
 have:=F.h0
 have:=F.h1
 show cO K _ [some (.int z),none,none] H
 unfold cO
 walk_at "w"
 refine ⟨by decide,⟨by decide,by decide⟩,?_⟩
 walk_at "w"
 refine ⟨⟨by omega,by omega⟩,hm,?_⟩
 walk_at "w"
 refine ⟨⟨by decide,by decide⟩,by decide,aF (by show (3:Nat)≤1000; decide),fun p hp=>?_⟩
 exact q p _ _ _ _ ((Same.refl H).laid hp) hp ad F
def bu (K:PySem.W.Frag):Sp:=fun vs H Q _=>∃ (a:Addr) (ns:List Int) (at_ many count:Int),vs=[.ref a,.int at_,.int many,.int count]∧SqL K H a (ns.map V.int)∧ns.length≤63∧0≤at_∧at_≤1000∧many≤16∧0≤count∧count≤many∧
 ∀ (l:Addr) (H':Hp) (cs:List Nat),Same H H'→H l=none→H' l=some (.lst (nsV cs))→cs.Nodup→(∀ c∈cs,(c:Int) < many)→(cs.length:Int)=count→Q (.ref l) H'
theorem kt {K:PySem.W.Frag} {vs:List V} {H:Hp} {Q:VK} {E:XK} (h:bu K vs H Q E):vs.length=4:=by
 obtain ⟨_,_,_,_,_,rfl,_⟩:=h; rfl
def cP (K:PySem.W.Frag):TS:=
 (tSeq (tAsg (gL (tCons (tVar 2) tNil)) (gName 4))
  (tSeq (tAsg (tLst tNil) (gName 5))
  (tSeq (tFor (gj (tCons (tVar 3) tNil)) (gName 6)
  (tDrop (tBM K "list" dX (tVar 5) (tCons (tBM K "list" j5 (tVar 4) (tCons (tOp cMod (tCall (aG K) [] E0 (tCons (tVar 0) (tCons (tOp cAdd (tVar 1) (tVar 6)) tNil))) (tCB kLen (tCons (tVar 4) tNil))) tNil)) tNil))))
  (tRet (tVar 5)))))
theorem ku {K:PySem.W.Frag} {vs:List V} {H:Hp} {Q:VK} {E:XK} (h:bu K vs H Q E):cP K { nx:=fun _ H'=>Q .non H',rt:=Q } (start ["_law_script","_law_at","_law_many","_law_size","_law_left","_law_found","_law_k"] vs) H:=by
 obtain ⟨a,ns,at_,many,count,rfl,hS,hn,a0,a1,m1,c0,c1,q⟩:=h
 show cP K _ [some (.ref a),some (.int at_),some (.int many),some (.int count),none,none,none] H
 unfold cP
 walk_at "w"
 refine ⟨many,rfl,by omega,by omega,fun L hL=>?_⟩
 have s1:Same H (upd H L (.lst ((rngL 0 many).map V.int))):=(Same.refl H).laid hL
 have eL:(upd H L (.lst ((rngL 0 many).map V.int))) L=some (.lst ((rngL 0 many).map V.int)):=ad
 generalize upd H L (.lst ((rngL 0 many).map V.int))=H1 at*
 walk_at "w"
 refine ⟨aF (by decide),fun R hR=>?_⟩
 have nRL:R≠L:=fun e=>by rw [e,eL] at hR; cases hR
 refine ⟨count,rfl,by omega,by omega,?_⟩
 refine iE (fun i σ H'=>∃ (kv:Option V) (fs ls:List Int),σ=[some (.ref a),some (.int at_),some (.int many),some (.int count),some (.ref L),some (.ref R),kv]∧Same H H'∧H' L=some (.lst (ls.map V.int))∧H' R=some (.lst (fs.map V.int))∧(fs++ls).Perm (rngL 0 many)∧fs.length=i)
  ⟨none,[],rngL 0 many,rfl,s1.laid hR,by rw [ah nRL.symm]; exact eL,by rw [ad]; rfl,List.Perm.refl _,rfl⟩ ?_ ?_
 · rintro i σ H2 hi ⟨kv,fs,ls,rfl,s2,e1,e2,hp,hl⟩
   have hlen:=hp.length_eq
   rw [List.length_append,jy] at hlen
   walk_at "w"
   refine ⟨dP e2,dP e1,a,ns,_,rfl,s2.seq hS,hn,by omega,by omega,?_⟩
   walk_at "w"
   rw [im e1,List.length_map]
   have hpos:0 < (ls.length:Int):=by omega
   generalize lawCA ns (at_+(0+(i:Int)))=y at*
   have j0:=Int.emod_nonneg y (Int.ne_of_gt hpos)
   have j1:=Int.emod_lt_of_pos y hpos
   refine ⟨hpos,?_⟩
   generalize y % (ls.length:Int)=j at*
   have hj:j.toNat < ls.length:=by omega
   refine qM e1 j0 (by rw [List.length_map]; omega) (y:=V.int ls[j.toNat]) (by rw [List.getElem?_map,List.getElem?_eq_getElem hj]; rfl) ?_
   have e2':(upd H2 L (.lst ((ls.map V.int).eraseIdx j.toNat))) R=some (.lst (fs.map V.int)):=by rw [ah nRL]; exact e2
   walk_at "w"
   rw [io e2']
   refine ⟨by rw [List.length_map]; exact aI (by omega),_,fs++[ls[j.toNat]],ls.eraseIdx j.toNat,rfl,(s2.own hL).own (s1.free hR),?_,?_,?_,by simp [hl]⟩
   · rw [ah nRL.symm,ad,lO]
   · rw [ad]; simp
   · have p1:=kd ls j.toNat hj
     have p2:=List.Perm.append_left fs p1
     refine List.Perm.trans ?_ hp
     rw [List.append_assoc]
     exact p2
 · rintro σ H2 ⟨kv,fs,ls,rfl,s2,e1,e2,hp,hl⟩
   walk_at "w"
   have hnd:(fs++ls).Nodup:=hp.nodup_iff.mpr (pf many)
   have hm:∀ x∈fs,0≤x∧x < many:=fun x hx=>qQ (hp.mem_iff.mp (List.mem_append.mpr (.inl hx)))
   have ef:(fs.map Int.toNat).map (fun (n:Nat)=>(n:Int))=fs:=by
    rw [List.map_map]
    conv=>rhs; rw [← List.map_id fs]
    exact List.map_congr_left fun x hx=>by have:=hm x hx; show ((x.toNat:Nat):Int)=x; omega
   refine q R H2 (fs.map Int.toNat) s2 (s1.free hR) (by unfold nsV; rw [ef]; exact e2) ?_ ?_ ?_
   · have h1:=(List.nodup_append.mp hnd).1
     rw [← ef] at h1
     exact iS _ h1
   · intro c hc
     obtain ⟨x,hx,rfl⟩:=List.mem_map.mp hc
     have:=hm x hx
     omega
   · rw [List.length_map,hl]; omega
end L2
namespace L2
open PySem PySem.Spec PyProof.Rows
end L2
namespace L2
open PySem PySem.Spec PyProof.Rows
local macro_rules | `(tactic| walk_at "w")=>`(tactic| (first | simp only [aQ,iQ,j4,gD,iR,ic,ie,j6,j2,iO,j3,if_true,if_false,Bool.false_eq_true,decide_true,decide_false,gs,gt,i9,eH,dZ,gq,hX,gr,eD,hJ,hV,eC,i7,eI,eJ,eM,eN,eP,eQ,eK,h9,ia,ib,hE,i8,Bool.not_true,Bool.not_false,dm,fh,bf,fi,w_c,gQ,dI,dn,dq,dr,w_b,w_not,fj,gR,dt,du,fk,fm,dv,gS,dw,fo,fq,gB,ft,cp,dy,dz,dA,cu,cw,b6,bX,bY,bE,fu,fv,fw,fz,fA,fB,fC,fD,fE,fF,fG,fH,gT,dB,bZ,dC,gU,dD,cx,b2,fI,fJ,dE,cq,dF,
 List.getElem?_cons_zero,List.getElem?_cons_succ,Option.some.injEq,exists_eq_left',exists_eq_left,List.set_cons_zero,List.set_cons_succ,bK,V.int.injEq,V.bl.injEq,V.ref.injEq,V.str.injEq,List.append_nil,List.nil_append,List.cons_append] | dsimp only | skip))
theorem iV:∀ (rs:List (List Nat)),(∀ r∈rs,r.length≤2)→(catL 32 rs).length≤3*rs.length
 | [],_=>by simp [catL]
 | [x],h=>by have:=h x List.mem_cons_self; simp [catL]; omega
 | x::y::r,h=>by
  rw [bc (by simp)]
  have h1:=h x List.mem_cons_self
  have h2:=iV (y::r) fun z hz=>h z (List.mem_cons_of_mem _ hz)
  simp only [List.length_append,List.length_cons] at*
  omega
theorem nu {cs:List Nat} (h:cs.length≤16):(catL 32 (cs.map numC)).length≤48:=by
 have:=iV (cs.map numC) fun r hr=>by obtain ⟨x,_,rfl⟩:=List.mem_map.mp hr; exact bg
 rw [List.length_map] at this
 omega
theorem ee {k:RK} {h w g:Int} {n m:Nat} {ns:List Nat} (F:FlOk h w g) (ne:ns≠[]) (lt:∀ c∈ns,(c:Int) < h*w) (nd:ns.Nodup) (len:ns.length≤16) (hk:allK k=false) (k0:k≠.Rule) (n0:n≤99) (nz:numK k=false→n=0) (m0:sgnK k=true→1≤(m:Int)∧(m:Int)≤g) (mz:sgnK k=false→m=0):
  RR.Ok ⟨k,n,m,ns,ns.map fun (n:Nat)=>(n:Int)⟩ h w g:=by
 have m16:=F.m
 refine ⟨k0,n0,nz,m0,mz,⟨fun _=>⟨ne,len,lt,nd,rfl⟩,fun e=>?_⟩,fun x hx=>?_,len⟩
 · rw [show allK k=false from hk] at e; cases e
 · have:=lt x hx
   omega
theorem strL {Q:VK} {H:Hp} {a b:List Nat} (h1:a.length≤400) (h2:b.length≤400) (q:Q (.str (tx (a++b))) H):cAdd (.str (tx a)) (.str (tx b)) H Q:=by
 rw [cq,bL]
 exact ⟨by rw [ak,ak]; exact aF (by omega),q⟩
end L2
namespace L2
open PySem PySem.Spec PyProof.Rows
local macro_rules | `(tactic| walk_at "w")=>`(tactic| (first | simp only [aQ,dm,fh,bf,fi,w_c,gQ,dI,dn,dq,dr,w_b,w_not,fj,gR,dt,du,fk,fm,dv,gS,dw,fo,fq,gB,ft,cp,dy,dz,dA,cu,cw,b6,bX,bY,bE,fu,fv,fw,fz,fA,fB,fC,fD,fE,fF,fG,fH,gT,dB,bZ,dC,gU,dD,cx,b2,fI,fJ,dE,cq,dF,
 List.getElem?_cons_zero,List.getElem?_cons_succ,Option.some.injEq,exists_eq_left',exists_eq_left,List.set_cons_zero,List.set_cons_succ,bK,V.int.injEq,V.bl.injEq,V.ref.injEq,V.str.injEq,List.append_nil,List.nil_append,List.cons_append] | dsimp only | skip))
theorem pq {x:Int} (h0:0≤x) (h6:x≤6):atI (tx [46,49,50,51,52,53,54]).cps.toList x=some (figc x):=by
 rw [dG]
 have:x=0∨x=1∨x=2∨x=3∨x=4∨x=5∨x=6:=by omega
 rcases this with rfl | rfl | rfl | rfl | rfl | rfl | rfl <;> rfl
def cz (K:PySem.W.Frag):Sp:=fun vs H Q _=>∃ (p:Addr) (xs:List Int),vs=[.ref p]∧H p=some (.lst (xs.map V.int))∧xs.length≤100∧(∀ x∈xs,0≤x∧x≤6)∧∀ H',Same H H'→Q (.str (tx (xs.map figc))) H'
theorem nv {K:PySem.W.Frag} {vs:List V} {H:Hp} {Q:VK} {E:XK} (h:cz K vs H Q E):vs.length=1:=by
 obtain ⟨_,_,rfl,_⟩:=h; rfl
def fP (K:PySem.W.Frag):TS:=
 (tRet (tBM K "str" kJoin (tC (.str (tx []))) (tCons (tComp [none,none] (iList K (tVar 0)) (gName 1) tTrue (tOp cIx (tC (.str (tx [46,49,50,51,52,53,54]))) (tVar 1))) tNil)))
theorem nw {K:PySem.W.Frag} {vs:List V} {H:Hp} {Q:VK} {E:XK} (h:cz K vs H Q E):fP K { nx:=fun _ H'=>Q .non H',rt:=Q } (start ["signs"] vs) H:=by
 obtain ⟨p,xs,rfl,hp,hn,hx,k⟩:=h
 show fP K _ [some (.ref p)] H
 unfold fP
 walk_at "w"
 refine ⟨b9,⟨_,SqL.of hp⟩,?_⟩
 refine c5 (xs:=xs.map V.int) (fun _=>true) (fun i=>.str (tx [figc (xs.getD i 0)])) (by rw [List.length_map]; omega) (SqL.of hp) ?_ ?_ ?_
 · intro i x H1 R hx s1 k1
   exact k1 _ (Same.refl _)
 · intro i x H1 Q1 hi hb s1 k1
   obtain ⟨z,hz,rfl⟩:=fK hi
   have:=hx z (List.mem_of_getElem? hz)
   show tOp cIx _ _ [none,some (.int z)] H1 Q1
   walk_at "w"
   rw [on]
   refine ⟨by rw [ak]; exact aF (by decide),aU (pq this.1 this.2) ?_⟩
   have q:=k1 _ (Same.refl H1)
   rw [kX hz] at q
   exact q
 · intro l H1 hl s1 el
   have e:(List.filter (fun _=>true) (List.range (xs.map V.int).length)).map (fun i=>V.str (tx [figc (xs.getD i 0)]))=(xs.map fun x=>tx [figc x]).map V.str:=by
    rw [bV,List.length_map,List.map_map,← fY xs (V.str ∘ fun x=>tx [figc x])]
    rfl
   rw [e] at el
   refine o2 el (ba (by rw [List.length_map]; omega) (fun t ht=>by obtain ⟨x,_,rfl⟩:=List.mem_map.mp ht; rw [ak]; show (1:Nat)≤1000; decide) (by rw [ak]; decide)) ?_
   rw [ca,show (xs.map fun x=>tx [figc x])=(xs.map fun x=>[figc x]).map tx by rw [List.map_map]; rfl,mL]
   have e2:(xs.map fun x=>[figc x]).flatten=xs.map figc:=by
    clear hx k hn e el hp
    induction xs with
    | nil=>rfl
    | cons x r ih=>rw [List.map_cons,List.flatten_cons,ih]; rfl
   rw [e2]
   exact k _ s1
theorem mulN {a b:Int} (h0:0≤a) (h1:0≤b):(a*b).toNat=a.toNat*b.toNat:=by
 obtain ⟨n,rfl⟩:=Int.eq_ofNat_of_zero_le h0
 obtain ⟨m,rfl⟩:=Int.eq_ofNat_of_zero_le h1
 rw [← Int.natCast_mul,Int.toNat_natCast,Int.toNat_natCast,Int.toNat_natCast]
def bv (K:PySem.W.Frag):Sp:=fun vs H Q _=>∃ (a p:Addr) (h w g:Int) (xs:List Int),vs=[.ref a,.ref p]∧IsFl H a h w g∧FlOk h w g∧H p=some (.lst (xs.map V.int))∧xs.length=h.toNat*w.toNat∧(∀ x∈xs,0≤x∧x≤6)∧∀ H',Same H H'→Q (.str (tx (showL h.toNat w.toNat xs))) H'
theorem kx {K:PySem.W.Frag} {vs:List V} {H:Hp} {Q:VK} {E:XK} (h:bv K vs H Q E):vs.length=2:=by
 obtain ⟨_,_,_,_,_,_,rfl,_⟩:=h; rfl
def cQ (K:PySem.W.Frag):TS:=
 (tSeq (tAsg (tOp cIx (tVar 0) (tC (.int 1))) (gName 2))
  (tRet (tBM K "str" kJoin (tC (.str (tx [47]))) (tCons (tComp [none,none,some 1,some 2] (gj (tCons (tOp cIx (tVar 0) (tC (.int 0))) tNil)) (gName 1) tTrue (tCall (cz K) [] E0 (tCons (tSl ip (tVar 2) (tPart (tOp cMul (tVar 1) (tVar 3))) (tPart (tOp cAdd (tOp cMul (tVar 1) (tVar 3)) (tVar 3)))) tNil))) tNil))))
theorem ky {K:PySem.W.Frag} {vs:List V} {H:Hp} {Q:VK} {E:XK} (h:bv K vs H Q E):cQ K { nx:=fun _ H'=>Q .non H',rt:=Q } (start ["floor","filling","wide"] vs) H:=by
 obtain ⟨a,p,h,w,g,xs,rfl,ha,F,hp,hl,hx,k⟩:=h
 obtain ⟨h0,h1,w0,w1,m16,g0,g1⟩:=F
 show cQ K _ [some (.ref a),some (.ref p),none] H
 unfold cQ
 walk_at "w"
 rw [iL ha]
 refine aU (a:=V.int w) rfl ?_
 walk_at "w"
 refine ⟨b9,?_⟩
 rw [iL ha]
 refine aU (a:=V.int h) rfl ?_
 walk_at "w"
 refine ⟨h,rfl,by omega,by omega,?_⟩
 refine nk (fun _=>true) (fun r=>.str (tx ((rowAt w.toNat xs r).map figc))) (by omega) ?_ ?_ ?_
 · intro r H1 R hr s1 k1
   exact k1 _ (Same.refl _)
 · intro r H1 Q1 hr hb s1 k1
   show tCall _ _ _ _ [none,some (.int (0+(r:Int))),some (.ref p),some (.int w)] H1 Q1
   rw [Int.zero_add]
   walk_at "w"
   refine ⟨.inl ⟨by omega,by omega⟩,.inl ⟨by omega,by omega⟩,?_⟩
   have hrw:(r:Int)*w=((r*w.toNat:Nat):Int):=by rw [Int.natCast_mul,Int.toNat_of_nonneg (by omega)]
   have hrw2:(r:Int)*w+w=((r*w.toNat+w.toNat:Nat):Int):=by rw [Int.natCast_add,← hrw,Int.toNat_of_nonneg (by omega)]
   rw [hrw2,hrw]
   refine oo (s1 _ _ hp) fun l hl1=>?_
   have hle:r*w.toNat+w.toNat≤xs.length:=by
    rw [hl,← Nat.succ_mul]
    exact Nat.mul_le_mul_right _ hr
   have ecut:cutV (xs.map V.int) (some ((r*w.toNat:Nat):Int)) (some ((r*w.toNat+w.toNat:Nat):Int))=(rowAt w.toNat xs r).map V.int:=by
    rw [nR (by omega) (by rw [List.length_map]; exact hle),Nat.add_sub_cancel_left]
    unfold rowAt
    rw [List.map_take,List.map_drop]
   rw [ecut]
   have s2:Same H1 (upd H1 l (.lst ((rowAt w.toNat xs r).map V.int))):=(Same.refl H1).laid hl1
   refine ⟨l,rowAt w.toNat xs r,rfl,ad,?_,fun x hm=>hx x (kZ hm),fun H3 s3=>k1 _ (s2.trans s3)⟩
   unfold rowAt
   rw [List.length_take]
   omega
 · intro l H1 hl1 s1 el
   have e:(List.filter (fun _=>true) (List.range h.toNat)).map (fun r=>V.str (tx ((rowAt w.toNat xs r).map figc)))=(((rowsL h.toNat w.toNat xs).map (·.map figc)).map tx).map V.str:=by
    rw [bV]
    unfold rowsL
    rw [List.map_map,List.map_map,List.map_map]
    rfl
   rw [e] at el
   have hrl:∀ r∈(rowsL h.toNat w.toNat xs).map (·.map figc),r.length≤6:=fun r hr=>by
    obtain ⟨y,hy,rfl⟩:=List.mem_map.mp hr
    unfold rowsL at hy
    obtain ⟨i,_,rfl⟩:=List.mem_map.mp hy
    rw [List.length_map]
    unfold rowAt
    rw [List.length_take]
    omega
   refine o2 el (ba (by simp [rowsL]; omega) (fun t ht=>by obtain ⟨x,hx,rfl⟩:=List.mem_map.mp ht; rw [ak]; have:=hrl x hx; omega) (by rw [ak]; decide)) ?_
   rw [ca,eE]
   exact k _ s1
def bI (K:PySem.W.Frag):Sp:=fun vs H Q _=>∃ (a:Addr) (h w g s:Int),vs=[.ref a,.str (tx [figc s])]∧IsFl H a h w g∧0≤s∧s≤g∧g≤6∧Q (.int s) H
theorem k8 {K:PySem.W.Frag} {vs:List V} {H:Hp} {Q:VK} {E:XK} (h:bI K vs H Q E):vs.length=2:=by
 obtain ⟨_,_,_,_,_,rfl,_⟩:=h; rfl
def c8 (K:PySem.W.Frag):TS:=
 (tSeq (tAsg (tBM K "str" kFind (tC (.str (tx [46,49,50,51,52,53,54]))) (tCons (tVar 1) tNil)) (gName 2))
  (tSeq (tIfS (tOr (tTest (tOp (cCmp fun i j=>decide (i < j)) (tVar 2) (tC (.int 0)))) (tTest (tOp (cCmp fun i j=>decide (j < i)) (tVar 2) (tOp cIx (tVar 0) (tC (.int 2)))))) aO tNext)
  (tRet (tVar 2))))
theorem k9 {K:PySem.W.Frag} {vs:List V} {H:Hp} {Q:VK} {E:XK} (h:bI K vs H Q E):c8 K { nx:=fun _ H'=>Q .non H',rt:=Q } (start ["floor","figure","sign"] vs) H:=by
 obtain ⟨a,h,w,g,s,rfl,ha,h0,h1,h2,q⟩:=h
 show c8 K _ [some (.ref a),some (.str (tx [figc s])),none] H
 unfold c8
 walk_at "w"
 refine ⟨b9,?_⟩
 rw [pY h0 (by omega),aR]
 walk_at "w"
 rw [decide_eq_false (show ¬ s < 0 by omega)]
 refine iteF ?_
 rw [iL ha]
 refine aU (a:=V.int g) rfl ?_
 walk_at "w"
 rw [decide_eq_false (show ¬ g < s by omega)]
 refine iteF ?_
 exact q
def cA (K:PySem.W.Frag):Sp:=fun vs H Q _=>∃ (a:Addr) (h w g:Int) (xs:List Int),vs=[.ref a,.str (tx (xs.map figc))]∧IsFl H a h w g∧FlOk h w g∧xs.length=w.toNat∧(∀ x∈xs,0≤x∧x≤g)∧∀ l H',Same H H'→H l=none→H' l=some (.lst (xs.map V.int))→Q (.ref l) H'
theorem nA {K:PySem.W.Frag} {vs:List V} {H:Hp} {Q:VK} {E:XK} (h:cA K vs H Q E):vs.length=2:=by
 obtain ⟨_,_,_,_,_,rfl,_⟩:=h; rfl
def fQ (K:PySem.W.Frag):TS:=
 (tSeq (tIfS (tTest (tOp (cNe K) (tCB kLen (tCons (tVar 1) tNil)) (tOp cIx (tVar 0) (tC (.int 1))))) aO tNext)
  (tRet (tComp [none,none,some 0] (iStr (tVar 1)) (gName 1) tTrue (tCall (bI K) [] E0 (tCons (tVar 2) (tCons (tVar 1) tNil))))))
theorem nB {K:PySem.W.Frag} {vs:List V} {H:Hp} {Q:VK} {E:XK} (h:cA K vs H Q E):fQ K { nx:=fun _ H'=>Q .non H',rt:=Q } (start ["floor","row"] vs) H:=by
 obtain ⟨a,h,w,g,xs,rfl,ha,F,hl,hx,k⟩:=h
 obtain ⟨h0,h1,w0,w1,m16,g0,g1⟩:=F
 show fQ K _ [some (.ref a),some (.str (tx (xs.map figc)))] H
 unfold fQ
 rw [aQ,aR]
 walk_at "w"
 refine ⟨by rw [ak,List.length_map]; exact aF (by omega),?_⟩
 rw [iL ha]
 refine aU (a:=V.int w) rfl ?_
 walk_at "w"
 rw [ak,List.length_map,hl,decide_eq_true (show ((w.toNat:Nat):Int)=w by omega)]
 refine iteF ?_
 walk_at "w"
 refine lM (cs:=xs.map figc) (fun _=>true) (fun i=>.int (xs.getD i 0)) (by rw [List.length_map]; omega) ?_ ?_ ?_
 · intro i c H1 R hc s1 k1
   exact k1 _ (Same.refl _)
 · intro i c H1 Q1 hc hb s1 k1
   rw [List.getElem?_map] at hc
   cases hz:xs[i]? with
   | none=>rw [hz] at hc; cases hc
   | some z=>
    rw [hz] at hc
    cases hc
    have:=hx z (List.mem_of_getElem? hz)
    show tCall _ _ _ _ [none,some (.str (tx [figc z])),some (.ref a)] H1 Q1
    walk_at "w"
    have q:=k1 _ (Same.refl H1)
    rw [kX hz] at q
    exact ⟨a,h,w,g,z,rfl,s1 _ _ ha,this.1,this.2,g1,q⟩
 · intro l H1 hl1 s1 el
   refine k l H1 s1 hl1 ?_
   rw [bV,List.length_map] at el
   rw [el,← fY xs V.int]
def bw (K:PySem.W.Frag):Sp:=fun vs H Q _=>∃ (a:Addr) (h w g:Int) (xs:List Int),vs=[.ref a,.str (tx (showL h.toNat w.toNat xs))]∧IsFl H a h w g∧FlOk h w g∧xs.length=h.toNat*w.toNat∧(∀ x∈xs,0≤x∧x≤g)∧∀ l H',Same H H'→H l=none→H' l=some (.lst (xs.map V.int))→Q (.ref l) H'
theorem kz {K:PySem.W.Frag} {vs:List V} {H:Hp} {Q:VK} {E:XK} (h:bw K vs H Q E):vs.length=2:=by
 obtain ⟨_,_,_,_,_,rfl,_⟩:=h; rfl
def cR (K:PySem.W.Frag):TS:=
 (tSeq (tIfS (tNot (tB (tCB kIsi (tCons (tVar 1) (tCons (tC (.ty "str")) tNil))))) aO tNext)
  (tSeq (tAsg (tBM K "str" fV (tVar 1) (tCons (tC (.str (tx [47]))) tNil)) (gName 2))
  (tSeq (tIfS (tTest (tOp (cNe K) (tCB kLen (tCons (tVar 2) tNil)) (tOp cIx (tVar 0) (tC (.int 0))))) aO tNext)
  (tSeq (tAsg (tLst tNil) (gName 3))
  (tSeq (tFor (iList K (tVar 2)) (gName 4)
  (tDrop (tBM K "list" i5 (tVar 3) (tCons (tCall (cA K) [] E0 (tCons (tVar 0) (tCons (tVar 4) tNil))) tNil))))
  (tRet (tVar 3)))))))
theorem kA {K:PySem.W.Frag} {vs:List V} {H:Hp} {Q:VK} {E:XK} (h:bw K vs H Q E):cR K { nx:=fun _ H'=>Q .non H',rt:=Q } (start ["floor","text","rows","filling","row"] vs) H:=by
 obtain ⟨a,h,w,g,xs,rfl,ha,F,hl,hx,k⟩:=h
 obtain ⟨h0,h1,w0,w1,m16,g0,g1⟩:=id F
 have hsp:Txt.split (tx (showL h.toNat w.toNat xs)) (tx [47])=((rowsL h.toNat w.toNat xs).map (·.map figc)).map tx:=by
  refine jA (by simp [rowsL]; omega) fun r hr=>?_
  obtain ⟨y,_,rfl⟩:=List.mem_map.mp hr
  intro z
  obtain ⟨x,_,e⟩:=List.mem_map.mp z
  exact qG e
 have hrl:(rowsL h.toNat w.toNat xs).length=h.toNat:=by simp [rowsL]
 show cR K _ [some (.ref a),some (.str (tx (showL h.toNat w.toNat xs))),none,none,none] H
 unfold cR
 rw [aQ,aR]
 walk_at "w"
 refine rJ ?_
 walk_at "w"
 refine iteF ?_
 walk_at "w"
 refine ⟨b9,?_⟩
 rw [g9,hsp]
 refine ⟨by rw [ak]; decide,by rw [ak]; exact aF (Nat.le_trans (gN (by omega) (by omega)) (by decide)),by rw [List.length_map,List.length_map,hrl]; exact aF (by omega),fun L hL=>?_⟩
 have s1:Same H (upd H L (.lst ((((rowsL h.toNat w.toNat xs).map (·.map figc)).map tx).map V.str))):=(Same.refl H).laid hL
 have eL:(upd H L (.lst ((((rowsL h.toNat w.toNat xs).map (·.map figc)).map tx).map V.str))) L=some (.lst ((((rowsL h.toNat w.toNat xs).map (·.map figc)).map tx).map V.str)):=ad
 generalize upd H L (.lst ((((rowsL h.toNat w.toNat xs).map (·.map figc)).map tx).map V.str))=H1 at*
 walk_at "w"
 rw [aR]
 walk_at "w"
 rw [im eL]
 walk_at "w"
 rw [iL (s1 _ _ ha)]
 refine aU (a:=V.int h) rfl ?_
 walk_at "w"
 rw [List.length_map,List.length_map,List.length_map,hrl,decide_eq_true (show ((h.toNat:Nat):Int)=h by omega)]
 refine iteF ?_
 walk_at "w"
 refine ⟨Nat.zero_le _,fun f hf=>?_⟩
 have s2:Same H1 (upd H1 f (.lst [])):=(Same.refl H1).laid hf
 have hfH:H f=none:=s1.free hf
 walk_at "w"
 refine ⟨⟨_,SqL.of (s2 _ _ eL)⟩,mj (K:=K) (xs:=(((rowsL h.toNat w.toNat xs).map (·.map figc)).map tx).map V.str) (fun i σ H'=>∃ rv:Option V,σ=[some (.ref a),some (.str (tx (showL h.toNat w.toNat xs))),some (.ref L),some (.ref f),rv]∧Same H H'∧H' L=some (.lst ((((rowsL h.toNat w.toNat xs).map (·.map figc)).map tx).map V.str))∧H' f=some (.lst (((rowsL h.toNat w.toNat xs).take i).flatten.map V.int)))
  ⟨none,rfl,s1.trans s2,s2 _ _ eL,ad⟩ (fun i σ H' _ ⟨_,_,_,e',_⟩=>SqL.of e') ?_ ?_⟩
 · rintro i y σ H2 hy ⟨rv,rfl,s3,eL2,ef2⟩
   rw [List.map_map,List.map_map,List.getElem?_map] at hy
   have hi:i < h.toNat:=by
    cases hz:(rowsL h.toNat w.toNat xs)[i]? with
    | none=>rw [hz] at hy; cases hy
    | some z=>have:=(List.getElem?_eq_some_iff.mp hz).1; rw [hrl] at this; exact this
   have hrow:(rowsL h.toNat w.toNat xs)[i]? =some (rowAt w.toNat xs i):=by unfold rowsL; rw [List.getElem?_map,List.getElem?_range hi]; rfl
   rw [hrow] at hy
   cases hy
   walk_at "w"
   refine ⟨dP ef2,?_⟩
   have hrlen:(rowAt w.toNat xs i).length=w.toNat:=qH hi (by omega)
   refine ⟨a,h,w,g,rowAt w.toNat xs i,rfl,s3 _ _ ha,F,hrlen,fun x hm=>hx x (kZ hm),fun l H3 s4 hl3 el=>?_⟩
   walk_at "w"
   have nfl:l≠f:=fun z=>by rw [z,ef2] at hl3; cases hl3
   have hflat:(((rowsL h.toNat w.toNat xs).take i).flatten).length≤100:=by
    have:=iN w.toNat xs h.toNat (by omega)
    have h2:(((rowsL h.toNat w.toNat xs).take i).flatten).length≤((rowsL h.toNat w.toNat xs).flatten).length:=by
     conv=>rhs; rw [← List.take_append_drop i (rowsL h.toNat w.toNat xs),List.flatten_append,List.length_append]
     omega
    have h3:h.toNat*w.toNat≤6*6:=Nat.mul_le_mul (by omega) (by omega)
    rw [this,List.length_take] at h2
    omega
   refine pW (s4 _ _ ef2) el (by rw [List.length_map,List.length_map]; omega) ?_
   refine ⟨_,rfl,(s3.trans s4).own hfH,?_,?_⟩
   · have nLf:L≠f:=fun z=>by rw [← z,eL] at hf; cases hf
     rw [ah nLf]
     exact s4 _ _ eL2
   · rw [ad,List.take_add_one,hrow,List.flatten_append,List.map_append]
     simp
 · rintro σ H2 ⟨rv,rfl,s3,eL2,ef2⟩
   walk_at "w"
   rw [List.length_map,List.length_map,List.length_map,List.take_length,iN w.toNat xs h.toNat (by omega),← hl,List.take_length] at ef2
   exact k f H2 s3 hfH ef2
end L2
namespace L2
open PySem PySem.Builtin PySem.Builtin.Str
def catS (s:List Nat):List (List Nat)→List Nat
 | []=>[]
 | [x]=>x
 | x::y::r=>x++(s++catS s (y::r))
theorem iu (s:List Nat):∀ ts:List (List Nat),Str.join (tx s) (ts.map tx)=tx (catS s ts)
 | []=>rfl
 | [x]=>rfl
 | x::y::r=>by
  show tx x++tx s++Str.join (tx s) ((y::r).map tx)=_
  rw [iu s (y::r),bL,bL]
  show tx _=tx (x++(s++catS s (y::r)))
  rw [List.append_assoc]
theorem at_iff {x s:List Nat} {k:Nat}:StrLaws.At (tx x) (tx s) (tx x).length k↔k+s.length≤x.length∧(x.drop k).take s.length=s:=by
 unfold StrLaws.At
 rw [StrLaws.subAt_eq,ak,ak,dG,dG,beq_iff_eq]
theorem pr (x:List Nat) (a b:Nat):strSub (tx x) a b=tx ((x.drop a).take (b - a)):=by
 rw [← qg (strSub (tx x) a b),StrLaws.strSub_toList,dG]
theorem nT {x s:List Nat} {c j k:Nat} (hj:s[j]? =some c) (h:StrLaws.At (tx x) (tx s) (tx x).length k):x[k+j]? =some c:=by
 have h2:=(at_iff.mp h).2
 have hl:=(List.getElem?_eq_some_iff.mp hj).1
 rw [← h2,List.getElem?_take_of_lt hl,List.getElem?_drop] at hj
 exact hj
theorem mZ {x s:List Nat} {c j:Nat} (hj:s[j]? =some c) (hf:∀ i,i < j→s[i]? ≠some c):∀ (rows:List (List Nat)) (a f:Nat) (cuts:List Nat),rows≠[]→(∀ r∈rows,c∉r)→x.drop a=catS s rows→a≤x.length→StrLaws.ChainG (tx x) (tx s) (tx x).length a cuts f→(∀ k,f≤k→¬ StrLaws.At (tx x) (tx s) (tx x).length k)→StrLaws.partsFrom (tx x) (tx s).length a cuts=rows.map tx
 | [],_,_,_,h,_,_,_,_,_=>absurd rfl h
 | [r],a,f,cuts,_,hr,e,ha,hc,hn=>by
  have e:x.drop a=r:=e
  match cuts,hc with
  | [],hc=>
   show [strSub (tx x) a (tx x).length]=[tx r]
   rw [pr,e,ak,List.take_of_length_le (by rw [← e,List.length_drop]; omega)]
  | d::t,hc=>
   have m:=nT hj hc.2.1
   have:c∈r:=by
    rw [← e]
    have h1:(x.drop a)[d+j - a]? =some c:=by rw [List.getElem?_drop,show a+(d+j - a)=d+j by have:=hc.1; omega]; exact m
    exact List.mem_of_getElem? h1
   exact absurd this (hr r List.mem_cons_self)
 | r::r2::t,a,f,cuts,_,hr,e,ha,hc,hn=>by
  have e:x.drop a=r++(s++catS s (r2::t)):=e
  have hjl:=(List.getElem?_eq_some_iff.mp hj).1
  have hlen:x.length - a=r.length+(s.length+(catS s (r2::t)).length):=by
   have:=congrArg List.length e
   rw [List.length_drop,List.length_append,List.length_append] at this
   exact this
  have here:StrLaws.At (tx x) (tx s) (tx x).length (a+r.length):=at_iff.mpr ⟨by omega,by rw [← List.drop_drop,e,List.drop_left,List.take_left]⟩
  have none_before:∀ k,a≤k→k < a+r.length→¬ StrLaws.At (tx x) (tx s) (tx x).length k:=fun k h1 h2 hA=>by
   have m:=nT hj hA
   have h3:(x.drop a)[k+j - a]? =some c:=by rw [List.getElem?_drop,show a+(k+j - a)=k+j by omega]; exact m
   rw [e] at h3
   by_cases hk:k+j - a < r.length
   · rw [List.getElem?_append_left hk] at h3
     exact hr r List.mem_cons_self (List.mem_of_getElem? h3)
   · rw [List.getElem?_append_right (by omega),List.getElem?_append_left (by omega)] at h3
     exact hf _ (by omega) h3
  match cuts,hc with
  | [],hc=>
   have ef:f=a:=hc
   exact absurd here (hn _ (by omega))
  | d::u,hc=>
   have hd:d=a+r.length:=by
    by_cases h1:d < a+r.length
    · exact absurd hc.2.1 (none_before d hc.1 h1)
    · by_cases h2:a+r.length < d
      · exact absurd here (hc.2.2.1 _ (by omega) h2)
      · omega
   subst hd
   have ih:=mZ hj hf (r2::t) (a+r.length+s.length) f u (by simp) (fun z hz=>hr z (List.mem_cons_of_mem _ hz)) (by rw [← List.drop_drop,← List.drop_drop,e,List.drop_left,List.drop_left]) (by omega) (by have:=hc.2.2.2; rw [ak] at this; exact this) hn
   show strSub (tx x) a (a+r.length)::StrLaws.partsFrom (tx x) (tx s).length (a+r.length+(tx s).length) u=tx r::(r2::t).map tx
   rw [ak] at ih ⊢
   rw [ih,pr,e,show a+r.length - a=r.length by omega,List.take_left]
theorem lP {s:List Nat} {c j:Nat} {rows:List (List Nat)} (hj:s[j]? =some c) (hf:∀ i,i < j→s[i]? ≠some c) (hk:PySem.Builtin.Str.strKind (tx s)≤1) (hne:rows≠[]) (hr:∀ r∈rows,c∉r):Txt.split (tx (catS s rows)) (tx s)=rows.map tx:=by
 have hjl:=(List.getElem?_eq_some_iff.mp hj).1
 obtain ⟨f,hG,hn⟩:=StrLaws.occ_tight (tx (catS s rows)) (tx s) (by rw [ak]; omega)
 have key:=mZ (x:=catS s rows) hj hf rows 0 f _ hne hr (by simp) (by omega) hG hn
 unfold Txt.split
 split
 · rename_i hc
   rw [Bool.or_eq_true,decide_eq_true_eq,decide_eq_true_eq] at hc
   match rows,hne,hr with
   | [r],_,_=>rfl
   | r::r2::t,_,_=>
    exfalso
    rcases hc with h | h
    · rw [ak,ak] at h
      have:(catS s (r::r2::t)).length=(r++(s++catS s (r2::t))).length:=rfl
      rw [this,List.length_append,List.length_append] at h
      omega
    · have:1≤PySem.Builtin.Str.strKind (tx (catS s (r::r2::t))):=by
       unfold PySem.Builtin.Str.strKind
       split
       · exact Nat.le_refl _
       · split <;> decide
      omega
 · split
   · rename_i he
     rw [List.isEmpty_iff.mp he] at key
     have:StrLaws.partsFrom (tx (catS s rows)) (tx s).length 0 []=[tx (catS s rows)]:=by
      show [strSub (tx (catS s rows)) 0 (tx (catS s rows)).length]=_
      rw [StrLaws.sub_whole]
     rw [← key,this]
   · rw [StrLaws.partsBetween_eq]
     exact key
theorem pw {rows:List (List Nat)} (hne:rows≠[]) (hr:∀ r∈rows,124∉r):Txt.split (tx (catS [32,124,32] rows)) (tx [32,124,32])=rows.map tx:=
 lP (j:=1) rfl (fun i hi=>by have:i=0:=by omega
                             subst this; decide) (by decide+kernel) hne hr
theorem ox {rows:List (List Nat)} (hne:rows≠[]) (hr:∀ r∈rows,59∉r):Txt.split (tx (catS [59,32] rows)) (tx [59,32])=rows.map tx:=
 lP (j:=0) rfl (fun i hi=>by omega) (by decide+kernel) hne hr
end L2
namespace L2
open PySem PySem.Spec PyProof.Rows
section
variable {P:Program} {w:World} {K:PySem.W.Frag} {mg:Str→Option Value} {base:Heap} {k:Nat} {x qual y:Str} {st:Stmt} {f:Addr} {fd:FuncData} {sp:Sp}
theorem kB {a0:Str} (F:Fun K x qual st f fd) (h:∀ (kV doc pm:Value) (an:Option Addr) (cdv ct u0:Value),bindArgs (PySem.W.fnOf x qual (bd st) (aX st) (ai st) .none kV doc pm an cdv ct) ⟨[u0],[]⟩=pure (([a0]:List Str).zip [u0]):=by intros; rfl):Binds K fd [a0] []:=F.binds fun _ _ _ _ _ _ us hl=>match us,hl with | [u0],_=>h _ _ _ _ _ _ _
theorem fZ {a0:Str} (T:FnOk P w K mg base CX0 k f fd [a0] sp) (F:Fun K x qual st f fd) (hm:mg y=some (.ref f)) (h:∀ (kV doc pm:Value) (an:Option Addr) (cdv ct u0:Value),bindArgs (PySem.W.fnOf x qual (bd st) (aX st) (ai st) .none kV doc pm an cdv ct) ⟨[u0],[]⟩=pure (([a0]:List Str).zip [u0]):=by intros; rfl):Cal P w K mg base k y [a0] sp:=⟨f,fd,T,hm,F.kp,kB F h⟩
theorem qi {a0 a1:Str} (F:Fun K x qual st f fd) (h:∀ (kV doc pm:Value) (an:Option Addr) (cdv ct u0 u1:Value),bindArgs (PySem.W.fnOf x qual (bd st) (aX st) (ai st) .none kV doc pm an cdv ct) ⟨[u0,u1],[]⟩=pure (([a0,a1]:List Str).zip [u0,u1]):=by intros; rfl):Binds K fd [a0,a1] []:=F.binds fun _ _ _ _ _ _ us hl=>match us,hl with | [u0,u1],_=>h _ _ _ _ _ _ _ _
theorem gW {a0 a1:Str} (T:FnOk P w K mg base CX0 k f fd [a0,a1] sp) (F:Fun K x qual st f fd) (hm:mg y=some (.ref f)) (h:∀ (kV doc pm:Value) (an:Option Addr) (cdv ct u0 u1:Value),bindArgs (PySem.W.fnOf x qual (bd st) (aX st) (ai st) .none kV doc pm an cdv ct) ⟨[u0,u1],[]⟩=pure (([a0,a1]:List Str).zip [u0,u1]):=by intros; rfl):Cal P w K mg base k y [a0,a1] sp:=⟨f,fd,T,hm,F.kp,qi F h⟩
theorem sk {a0 a1 a2:Str} (F:Fun K x qual st f fd) (h:∀ (kV doc pm:Value) (an:Option Addr) (cdv ct u0 u1 u2:Value),bindArgs (PySem.W.fnOf x qual (bd st) (aX st) (ai st) .none kV doc pm an cdv ct) ⟨[u0,u1,u2],[]⟩=pure (([a0,a1,a2]:List Str).zip [u0,u1,u2]):=by intros; rfl):Binds K fd [a0,a1,a2] []:=F.binds fun _ _ _ _ _ _ us hl=>match us,hl with | [u0,u1,u2],_=>h _ _ _ _ _ _ _ _ _
theorem jK {a0 a1 a2:Str} (T:FnOk P w K mg base CX0 k f fd [a0,a1,a2] sp) (F:Fun K x qual st f fd) (hm:mg y=some (.ref f)) (h:∀ (kV doc pm:Value) (an:Option Addr) (cdv ct u0 u1 u2:Value),bindArgs (PySem.W.fnOf x qual (bd st) (aX st) (ai st) .none kV doc pm an cdv ct) ⟨[u0,u1,u2],[]⟩=pure (([a0,a1,a2]:List Str).zip [u0,u1,u2]):=by intros; rfl):Cal P w K mg base k y [a0,a1,a2] sp:=⟨f,fd,T,hm,F.kp,sk F h⟩
theorem qj {a0 a1 a2 a3:Str} (F:Fun K x qual st f fd) (h:∀ (kV doc pm:Value) (an:Option Addr) (cdv ct u0 u1 u2 u3:Value),bindArgs (PySem.W.fnOf x qual (bd st) (aX st) (ai st) .none kV doc pm an cdv ct) ⟨[u0,u1,u2,u3],[]⟩=pure (([a0,a1,a2,a3]:List Str).zip [u0,u1,u2,u3]):=by intros; rfl):Binds K fd [a0,a1,a2,a3] []:=F.binds fun _ _ _ _ _ _ us hl=>match us,hl with | [u0,u1,u2,u3],_=>h _ _ _ _ _ _ _ _ _ _
theorem rS {a0 a1 a2 a3:Str} (T:FnOk P w K mg base CX0 k f fd [a0,a1,a2,a3] sp) (F:Fun K x qual st f fd) (hm:mg y=some (.ref f)) (h:∀ (kV doc pm:Value) (an:Option Addr) (cdv ct u0 u1 u2 u3:Value),bindArgs (PySem.W.fnOf x qual (bd st) (aX st) (ai st) .none kV doc pm an cdv ct) ⟨[u0,u1,u2,u3],[]⟩=pure (([a0,a1,a2,a3]:List Str).zip [u0,u1,u2,u3]):=by intros; rfl):Cal P w K mg base k y [a0,a1,a2,a3] sp:=⟨f,fd,T,hm,F.kp,qj F h⟩
theorem sm {a0 a1 a2 a3 a4:Str} (F:Fun K x qual st f fd) (h:∀ (kV doc pm:Value) (an:Option Addr) (cdv ct u0 u1 u2 u3 u4:Value),bindArgs (PySem.W.fnOf x qual (bd st) (aX st) (ai st) .none kV doc pm an cdv ct) ⟨[u0,u1,u2,u3,u4],[]⟩=pure (([a0,a1,a2,a3,a4]:List Str).zip [u0,u1,u2,u3,u4]):=by intros; rfl):Binds K fd [a0,a1,a2,a3,a4] []:=F.binds fun _ _ _ _ _ _ us hl=>match us,hl with | [u0,u1,u2,u3,u4],_=>h _ _ _ _ _ _ _ _ _ _ _
theorem ss {a0 a1 a2 a3 a4:Str} (T:FnOk P w K mg base CX0 k f fd [a0,a1,a2,a3,a4] sp) (F:Fun K x qual st f fd) (hm:mg y=some (.ref f)) (h:∀ (kV doc pm:Value) (an:Option Addr) (cdv ct u0 u1 u2 u3 u4:Value),bindArgs (PySem.W.fnOf x qual (bd st) (aX st) (ai st) .none kV doc pm an cdv ct) ⟨[u0,u1,u2,u3,u4],[]⟩=pure (([a0,a1,a2,a3,a4]:List Str).zip [u0,u1,u2,u3,u4]):=by intros; rfl):Cal P w K mg base k y [a0,a1,a2,a3,a4] sp:=⟨f,fd,T,hm,F.kp,sm F h⟩
theorem sn {a0 a1 a2 a3 a4 a5:Str} (F:Fun K x qual st f fd) (h:∀ (kV doc pm:Value) (an:Option Addr) (cdv ct u0 u1 u2 u3 u4 u5:Value),bindArgs (PySem.W.fnOf x qual (bd st) (aX st) (ai st) .none kV doc pm an cdv ct) ⟨[u0,u1,u2,u3,u4,u5],[]⟩=pure (([a0,a1,a2,a3,a4,a5]:List Str).zip [u0,u1,u2,u3,u4,u5]):=by intros; rfl):Binds K fd [a0,a1,a2,a3,a4,a5] []:=F.binds fun _ _ _ _ _ _ us hl=>match us,hl with | [u0,u1,u2,u3,u4,u5],_=>h _ _ _ _ _ _ _ _ _ _ _ _
end
end L2
namespace L2
open PySem PySem.Spec PyProof.Rows
structure IsO (K:PySem.W.Frag) (D:Addr):Prop where
 hg:PySem.W.plainGet K D "__class__"=true
 hd:PySem.W.hasDictIn K D=true
 ha:PySem.W.findIn K (.ref D) "__class__"=some (some (.builtin "object.__class__"))
 hn:PySem.W.specialIn K (.builtin "object.__class__") "__get__"=some (some (.builtin "getset_descriptor.__get__"))
 ht:PySem.W.takesIn K (.builtin "object.__class__")=some true
 hm:PySem.W.mroIn K D (.type "object")=some true
 k1:PySem.W.kitOne K (.ref D) (.ref D)=some true
structure GIs (K:PySem.W.Frag) (mg:Str→Option Value) (x:Str) (D:Addr):Prop where
 at_:mg x=some (.ref D)
 is_:IsO K D
def kIsO (D:Addr):List V→Hp→VK→Prop:=fun vs H Q=>∃ a dx fs,vs=[.ref a,.ref D]∧H a=some (.ins D dx fs)∧Q (.bl true) H
theorem px {X:Cx} {D:Addr} (Z:IsO X.K D):CallR X (.builtin "isinstance") (kIsO D):=by
 intro pins s σ H xs us Q I r h
 obtain ⟨a,dx,fs,rfl,hH,q⟩:=h
 obtain ⟨u,w',rfl,ru,rw'⟩:=n5 r
 cases ru
 cases rw'
 obtain ⟨mA,O,_⟩:=g6 I.hok hH
 obtain ⟨od,J,_⟩:=O.look
 exact PySem.W.kia_one (PySem.W.kitx_own Z.hg Z.hd Z.ha Z.hn Z.ht Z.hm) I.kIn J Z.k1 (fun z=>nomatch z) fun tk=>⟨.bl true,H,I.tok tk,rfl,q⟩
theorem so {D a dx:Addr} {fs:List (Str × V)} {H:Hp} {Q:VK} (e:H a=some (.ins D dx fs)) (q:Q (.bl true) H):kIsO D [.ref a,.ref D] H Q:=⟨a,dx,fs,rfl,e,q⟩
end L2
namespace L2
open PySem PySem.Spec PyProof.Rows
local macro_rules | `(tactic| walk_at "w")=>`(tactic| (first | simp only [aQ,iQ,j4,gD,iR,ic,ie,j6,j2,iO,j3,if_true,if_false,Bool.false_eq_true,decide_true,decide_false,gs,gt,i9,eH,dZ,gq,hX,gr,eD,hJ,hV,eC,i7,eI,eJ,eM,eN,eP,eQ,eK,h9,ia,ib,hE,i8,Bool.not_true,Bool.not_false,dm,fh,bf,fi,w_c,gQ,dI,dn,dq,dr,w_b,w_not,fj,gR,dt,du,fk,fm,dv,gS,dw,fo,fq,gB,ft,cp,dy,dz,dA,cu,cw,b6,bX,bY,bE,fu,fv,fw,fz,fA,fB,fC,fD,fE,fF,fG,fH,gT,dB,bZ,dC,gU,dD,cx,b2,fI,fJ,dE,cq,dF,
 List.getElem?_cons_zero,List.getElem?_cons_succ,Option.some.injEq,exists_eq_left',exists_eq_left,List.set_cons_zero,List.set_cons_succ,bK,V.int.injEq,V.bl.injEq,V.ref.injEq,V.str.injEq,List.append_nil,List.nil_append,List.cons_append] | dsimp only | skip))
theorem qa {K:PySem.W.Frag} {H:Hp} {p:Addr} {cs:List Nat} {fin:Addr→Hp→Prop} (hp:H p=some (.tup ((cs.map fun (n:Nat)=>(n:Int)).map V.int))) (hl:cs.length≤100) (hc:∀ c∈cs,c < 100)
  (hd:∀ l H',H l=none→Same H H'→H' l=some (.lst (((cs.map numC).map tx).map V.str))→fin l H'):CompR (Itt K p) (gName 1) tTrue (tCB kStr (tCons (tVar 1) tNil)) fin [none,none] H:=by
 refine pZ (xs:=(cs.map fun (n:Nat)=>(n:Int)).map V.int) (fun l i σ H'=>(σ=[none,none]∨∃ cv,σ=([none,none]:St).set 1 cv)∧Same H H'∧H' l=some (.lst ((((cs.take i).map numC).map tx).map V.str))) (fun l hl=>⟨.inl rfl,(Same.refl H).laid hl,by rw [ad]; rfl⟩) (fun l i σ H' _ _ q=>SqT.of (q.2.1 _ _ hp)) ?_ (fun l σ H' hl q=>hd l H' hl q.2.1 (by have:=q.2.2; rw [List.length_map,List.length_map,List.take_length] at this; exact this))
 rintro l i x σ H2 hl2 hx ⟨hσ,s1,el⟩
 obtain ⟨z,hz,rfl⟩:=fK hx
 rw [List.getElem?_map] at hz
 cases e:cs[i]? with
 | none=>rw [e] at hz; cases hz
 | some n=>
  rw [e] at hz
  cases hz
  have et:cs.take (i+1)=cs.take i++[n]:=by rw [List.take_succ,e]; rfl
  rw [bf]
  have e2:σ.set 1 (some (.int (n:Int)))=[none,some (.int (n:Int))]:=by
   rcases hσ with rfl | ⟨cv,rfl⟩
   · rfl
   · rfl
  rw [e2,cp,if_pos rfl]
  walk_at "w"
  have hcn:=hc n (List.mem_of_getElem? e)
  rw [eV hcn]
  refine ⟨eX hcn,_,el,by simp; exact aI (by omega),.inr ⟨_,rfl⟩,s1.own hl2,?_⟩
  rw [ad,et]
  simp
def flT (h w g:Int):List Nat:=catL 32 [numC h.toNat,numC w.toNat,numC g.toNat]
theorem jb (h w g:Int):(flT h w g).length≤8:=by
 show (numC h.toNat++32::(numC w.toNat++32::numC g.toNat)).length≤8
 have a:=bg (n:=h.toNat)
 have b:=bg (n:=w.toNat)
 have c:=bg (n:=g.toNat)
 simp
 omega
def RR.cod (r:RR):List Nat:=catL 32 r.ws
theorem RR.txts (rows:List RR):rows.map RR.txt=(rows.map RR.cod).map tx:=by rw [List.map_map]; rfl
theorem pz {ws:List (List Nat)} {k:Nat} (h:∀ r∈ws,r.length≤2) (hk:ws.length≤k):(catL 32 ws).length≤3*k:=Nat.le_trans (iV ws h) (Nat.mul_le_mul_left 3 hk)
theorem RR.cod_len {r:RR} {h w g:Int} (O:r.Ok h w g):r.cod.length≤63:=by
 have hk:(nmC r.k).length≤8:=by cases r.k <;> decide
 have hl:=O.len
 have e:r.ws=nmC r.k::((if numK r.k then [numC r.n] else [])++(if sgnK r.k then [numC r.m] else [])++r.ns.map numC):=rfl
 unfold RR.cod
 rw [e]
 generalize ht:(if numK r.k then [numC r.n] else [])++(if sgnK r.k then [numC r.m] else [])++r.ns.map numC=t
 have h2:∀ x∈t,x.length≤2:=fun x hx=>by
  rw [← ht] at hx
  rcases List.mem_append.mp hx with hx | hx
  · rcases List.mem_append.mp hx with hx | hx
    · split at hx
      · rw [List.mem_singleton.mp hx]; exact bg
      · cases hx
    · split at hx
      · rw [List.mem_singleton.mp hx]; exact bg
      · cases hx
  · obtain ⟨y,_,rfl⟩:=List.mem_map.mp hx
    exact bg
 have h3:t.length≤18:=by
  rw [← ht,List.length_append,List.length_append,List.length_map]
  split <;> split <;> simp <;> omega
 match t,h2,h3 with
 | [],_,_=>show (nmC r.k).length≤63; omega
 | a::u,h2,h3=>
  rw [bc (by simp)]
  have:=pz h2 h3
  rw [List.length_append,List.length_cons]
  omega
theorem m3 {s:List Nat} {b:Nat}:∀ {rs:List (List Nat)},(∀ r∈rs,r.length≤b)→(catS s rs).length≤rs.length*(b+s.length)
 | [],_=>by simp [catS]
 | [x],h=>by have:=h x List.mem_cons_self; simp [catS]; omega
 | x::y::r,h=>by
  have h1:=h x List.mem_cons_self
  have h2:=m3 (s:=s) (rs:=y::r) fun z hz=>h z (List.mem_cons_of_mem _ hz)
  show (x++(s++catS s (y::r))).length≤_
  rw [List.length_append,List.length_append,List.length_cons,Nat.succ_mul]
  omega
def rowT (rows:List RR):List Nat:=catS [59,32] (rows.map RR.cod)
theorem jL {c:RCl RK} {h w g:Int} {rows:List RR} (R:bM c h w g rows):(rowT rows).length≤780:=by
 have h1:∀ x∈rows.map RR.cod,x.length≤63:=fun x hx=>by
  obtain ⟨r,hr,rfl⟩:=List.mem_map.mp hx
  exact RR.cod_len (R.ok r hr)
 have:=m3 (s:=[59,32]) h1
 have hn:=R.n
 rw [List.length_map] at this
 refine Nat.le_trans this ?_
 show rows.length*65≤780
 omega
def pzP (h w g:Int) (rows:List RR) (cl:List Int):List (List Nat):=[flT h w g,rowT rows,showL h.toNat w.toNat cl]
def pzT (h w g:Int) (rows:List RR) (cl:List Int):List Nat:=catS [32,124,32] (pzP h w g rows cl)
theorem jc {c x:Nat}:∀ {rs:List (List Nat)},x∈catL c rs→x=c∨∃ r∈rs,x∈r
 | [],h=>by simp [catL] at h
 | [y],h=>.inr ⟨y,List.mem_cons_self,h⟩
 | y::z::r,h=>by
  rw [bc (by simp)] at h
  rcases List.mem_append.mp h with h | h
  · exact .inr ⟨y,List.mem_cons_self,h⟩
  · rcases List.mem_cons.mp h with h | h
    · exact .inl h
    · rcases jc h with h | ⟨u,hu,h⟩
      · exact .inl h
      · exact .inr ⟨u,List.mem_cons_of_mem _ hu,h⟩
theorem m4 {s:List Nat} {x:Nat}:∀ {rs:List (List Nat)},x∈catS s rs→x∈s∨∃ r∈rs,x∈r
 | [],h=>by simp [catS] at h
 | [y],h=>.inr ⟨y,List.mem_cons_self,h⟩
 | y::z::r,h=>by
  have h:x∈y++(s++catS s (z::r)):=h
  rcases List.mem_append.mp h with h | h
  · exact .inr ⟨y,List.mem_cons_self,h⟩
  · rcases List.mem_append.mp h with h | h
    · exact .inl h
    · rcases m4 h with h | ⟨u,hu,h⟩
      · exact .inl h
      · exact .inr ⟨u,List.mem_cons_of_mem _ hu,h⟩
theorem gP {n:Nat} (h:n < 100):∀ c∈numC n,48≤c∧c≤57:=by
 have t:((List.range 100).all fun (n:Nat)=>(numC n).all fun c=>decide (48≤c)&&decide (c≤57))=true:=by decide+kernel
 intro c hc
 have:=List.all_eq_true.mp (List.all_eq_true.mp t n (List.mem_range.mpr h)) c hc
 rw [Bool.and_eq_true,decide_eq_true_eq,decide_eq_true_eq] at this
 exact this
theorem rT (k:RK):∀ c∈nmC k,97≤c∧c≤122:=by
 have:(nmC k).all (fun c=>decide (97≤c)&&decide (c≤122))=true∨k=.Rule:=by cases k <;> first | exact .inl (by decide) | exact .inr rfl
 rcases this with t | rfl
 · intro c hc
   have:=List.all_eq_true.mp t c hc
   rw [Bool.and_eq_true,decide_eq_true_eq,decide_eq_true_eq] at this
   exact this
 · intro c hc; revert c; decide
theorem RR.cod_mem {r:RR} {h w g:Int} (F:FlOk h w g) (O:r.Ok h w g):∀ x∈r.cod,x=32∨(48≤x∧x≤57)∨(97≤x∧x≤122):=fun x hx=>by
 have hn:=O.n0
 have hm:r.m < 100:=by
  cases e:sgnK r.k with
  | true=>have:=O.m0 e; have:=F.g1; omega
  | false=>rw [O.mz e]; decide
 rcases jc hx with h | ⟨u,hu,h⟩
 · exact .inl h
 · rcases List.mem_cons.mp (show u∈nmC r.k::((if numK r.k then [numC r.n] else [])++(if sgnK r.k then [numC r.m] else [])++r.ns.map numC) from hu) with rfl | hu
   · exact .inr (.inr (rT _ x h))
   · refine .inr (.inl ?_)
     rcases List.mem_append.mp hu with hu | hu
     · rcases List.mem_append.mp hu with hu | hu
       · split at hu
         · rw [List.mem_singleton.mp hu] at h; exact gP (by omega) x h
         · cases hu
       · split at hu
         · rw [List.mem_singleton.mp hu] at h; exact gP hm x h
         · cases hu
     · obtain ⟨y,hy,rfl⟩:=List.mem_map.mp hu
       exact gP (O.ns0 y hy) x h
theorem qT {h w g:Int} (F:FlOk h w g):∀ x∈flT h w g,x=32∨(48≤x∧x≤57):=fun x hx=>by
 obtain ⟨h0,h1,w0,w1,m16,g0,g1⟩:=F
 rcases jc hx with h | ⟨u,hu,hm⟩
 · exact .inl h
 · refine .inr ?_
   simp at hu
   rcases hu with rfl | rfl | rfl <;> exact gP (by omega) x hm
theorem qU (s:Int):figc s=46∨(figc s≤54):=by
 unfold figc
 by_cases h:s.toNat < 7
 · have:s.toNat=0∨s.toNat=1∨s.toNat=2∨s.toNat=3∨s.toNat=4∨s.toNat=5∨s.toNat=6:=by omega
   rcases this with e | e | e | e | e | e | e <;> rw [e] <;> decide
 · rw [List.getD,List.getElem?_eq_none (by show 7≤s.toNat; omega)]; decide
theorem pA {h w:Nat} {xs:List Int}:∀ x∈showL h w xs,x≤54:=fun x hx=>by
 rcases jc hx with h | ⟨u,hu,hm⟩
 · omega
 · obtain ⟨y,_,rfl⟩:=List.mem_map.mp hu
   obtain ⟨z,_,rfl⟩:=List.mem_map.mp hm
   rcases qU z with e | e <;> omega
theorem qb {c:RCl RK} {h w g:Int} {rows:List RR} (R:bM c h w g rows):∀ r∈rows.map RR.cod,59∉r:=fun r hr hm=>by
 obtain ⟨x,hx,rfl⟩:=List.mem_map.mp hr
 rcases RR.cod_mem R.F (R.ok x hx) 59 hm with e | e | e <;> omega
theorem qV {c:RCl RK} {h w g:Int} {rows:List RR} {cl:List Int} (R:bM c h w g rows):∀ r∈pzP h w g rows cl,124∉r:=fun r hr hm=>by
 simp [pzP] at hr
 rcases hr with rfl | rfl | rfl
 · rcases qT R.F 124 hm with e | e <;> omega
 · rcases m4 hm with e | ⟨u,hu,hm⟩
   · simp at e
   · obtain ⟨x,hx,rfl⟩:=List.mem_map.mp hu
     rcases RR.cod_mem R.F (R.ok x hx) 124 hm with e | e | e <;> omega
 · have:=pA 124 hm
   omega
def bx (K:PySem.W.Frag):Sp:=fun vs H Q _=>∃ (p:Addr) (h w g:Int),vs=[.ref p]∧IsFl H p h w g∧FlOk h w g∧∀ H',Same H H'→Q (.str (tx (flT h w g))) H'
theorem kC {K:PySem.W.Frag} {vs:List V} {H:Hp} {Q:VK} {E:XK} (h:bx K vs H Q E):vs.length=1:=by
 obtain ⟨_,_,_,_,rfl,_⟩:=h; rfl
def cS (K:PySem.W.Frag):TS:=
 (tRet (tBM K "str" b7 (tC (.str (tx [32]))) (tCons (tComp [none,none] (iTup K (tVar 0)) (gName 1) tTrue (tCB kStr (tCons (tVar 1) tNil))) tNil)))
theorem kD {K:PySem.W.Frag} {vs:List V} {H:Hp} {Q:VK} {E:XK} (h:bx K vs H Q E):cS K { nx:=fun _ H'=>Q .non H',rt:=Q } (start ["numbers"] vs) H:=by
 obtain ⟨p,h,w,g,rfl,hp,F,q⟩:=h
 obtain ⟨h0,h1,w0,w1,m16,g0,g1⟩:=id F
 have ep:H p=some (.tup ((([h.toNat,w.toNat,g.toNat]:List Nat).map fun (n:Nat)=>(n:Int)).map V.int)):=by
  have e:H p=some (.tup [.int h,.int w,.int g]):=hp
  rw [e]
  simp only [List.map_cons,List.map_nil]
  rw [show ((h.toNat:Nat):Int)=h by omega,show ((w.toNat:Nat):Int)=w by omega,show ((g.toNat:Nat):Int)=g by omega]
 show cS K _ [some (.ref p)] H
 unfold cS
 rw [dI,gB]
 walk_at "w"
 refine ⟨b9,?_⟩
 rw [qI]
 walk_at "w"
 refine ⟨⟨_,SqT.of ep⟩,?_⟩
 refine qa ep (by simp) (fun c hc=>by simp at hc; omega) fun l H1 hl s1 el=>?_
 walk_at "w"
 refine gu el (ba (by simp) (fun t ht=>by
  obtain ⟨z,hz,rfl⟩:=List.mem_map.mp ht
  obtain ⟨x,_,rfl⟩:=List.mem_map.mp hz
  rw [ak]; exact Nat.le_trans bg (by decide)) (by rw [ak]; decide)) ?_
 rw [ca,eE]
 exact q _ s1
def aZ (K:PySem.W.Frag) (c:RCl RK) (d:RCl PzK):Sp:=fun vs H Q _=>∃ (P L G:Addr) (h w g:Int) (rows:List RR) (cl:List Int),vs=[.ref P]∧IsPz H c d P L G h w g rows cl∧∀ H',Same H H'→Q (.str (tx (pzT h w g rows cl))) H'
theorem la {K:PySem.W.Frag} {c:RCl RK} {d:RCl PzK} {vs:List V} {H:Hp} {Q:VK} {E:XK} (h:aZ K c d vs H Q E):vs.length=1:=by
 obtain ⟨_,_,_,_,_,_,_,_,rfl,_⟩:=h; rfl
def gd (K:PySem.W.Frag) (c:RCl RK) (d:RCl PzK):TS:=
 (tRet (tBM K "str" b7 (tC (.str (tx [32,124,32]))) (tCons (tLst (tCons (tCall (bx K) [] E0 (tCons (tVar 1) tNil)) (tCons (tVar 2) (tCons (tCall (bv K) [] E0 (tCons (tVar 1) (tCons (bb d d.ok "clues" (cg K c d) (tVar 0) tNil) tNil))) tNil)))) tNil)))
def c9 (K:PySem.W.Frag) (c:RCl RK) (d:RCl PzK):TS:=
 (tSeq (tAsg (bb d d.ok "place" (dQ K c d) (tVar 0) tNil) (gName 1))
  (tSeq (tAsg (tBM K "str" b7 (tC (.str (tx [59,32]))) (tCons (bb d d.ok "lines" (bN K c d) (tVar 0) tNil) tNil)) (gName 2))
  (gd K c d)))
theorem jM {h w g:Int} {cl:List Int} (F:FlOk h w g) (C:CluesOk h w g cl):cl.length=h.toNat*w.toNat:=by
 rw [C.len,mulN (by have:=F.h0; omega) (by have:=F.w0; omega)]
theorem lb {K:PySem.W.Frag} {c:RCl RK} {d:RCl PzK} {vs:List V} {H:Hp} {Q:VK} {E:XK} (h:aZ K c d vs H Q E):c9 K c d { nx:=fun _ H'=>Q .non H',rt:=Q } (start ["puzzle","floor","rules"] vs) H:=by
 obtain ⟨P,L,G,h,w,g,rows,cl,rfl,x,q⟩:=h
 obtain ⟨dx,p,rs,h1,h2,h3⟩:=x.ex
 have hn:=x.R.n
 have fg:=x.R.F.g1
 have rl:=jL x.R
 have fl:=jb h w g
 have shl:(showL h.toNat w.toNat cl).length≤100:=gN (by have:=x.R.F.h1; omega) (by have:=x.R.F.w1; omega)
 have sok:∀ t∈rows.map RR.cod,t.length≤63:=fun t ht=>by obtain ⟨r,hr,rfl⟩:=List.mem_map.mp ht; exact RR.cod_len (x.R.ok r hr)
 show c9 K c d _ [some (.ref P),none,none] H
 unfold c9
 walk_at "w"
 refine methE (k:=.Puzzle) rfl x.ok h1 (by rfl) ?_
 walk_at "w"
 refine ⟨P,L,G,h,w,g,rows,cl,rfl,x,fun p1 hp1=>?_⟩
 walk_at "w"
 refine ⟨b9,?_⟩
 refine methE (k:=.Puzzle) rfl x.ok h1 (by rfl) ?_
 walk_at "w"
 refine ⟨P,L,G,h,w,g,rows,cl,rfl,x,fun R H1 s1 hR eR=>?_⟩
 rw [RR.txts] at eR
 walk_at "w"
 refine gu eR (ba (by simp; omega) (fun t ht=>by
  obtain ⟨z,hz,rfl⟩:=List.mem_map.mp ht
  rw [ak]; exact Nat.le_trans (sok z hz) (by decide)) (by rw [ak]; decide)) ?_
 rw [ca,iu]
 unfold gd
 walk_at "w"
 refine ⟨b9,?_⟩
 refine ⟨p1,h,w,g,rfl,s1 _ _ hp1,x.R.F,fun H2 s2=>?_⟩
 have s12:=s1.trans s2
 walk_at "w"
 refine methE (k:=.Puzzle) rfl x.ok (s12 _ _ h1) (by rfl) ?_
 walk_at "w"
 refine ⟨P,L,G,h,w,g,rows,cl,rfl,x.same s12,fun S hS=>?_⟩
 have s3:Same H2 (upd H2 S (.lst (cl.map V.int))):=(Same.refl H2).laid hS
 have eS:(upd H2 S (.lst (cl.map V.int))) S=some (.lst (cl.map V.int)):=ad
 generalize upd H2 S (.lst (cl.map V.int))=H3 at*
 have s13:=s12.trans s3
 walk_at "w"
 refine ⟨p1,S,h,w,g,cl,rfl,s13 _ _ hp1,x.R.F,eS,jM x.R.F x.C,fun y hy=>by have:=x.C.ok y hy; omega,fun H4 s4=>?_⟩
 walk_at "w"
 refine ⟨aF (by show (3:Nat)≤1000; decide),fun U hU=>?_⟩
 have s5:Same H4 (upd H4 U (.lst [V.str (tx (flT h w g)),V.str (tx (catS [59,32] (rows.map RR.cod))),V.str (tx (showL h.toNat w.toNat cl))])):=(Same.refl H4).laid hU
 have eU:(upd H4 U (.lst [V.str (tx (flT h w g)),V.str (tx (catS [59,32] (rows.map RR.cod))),V.str (tx (showL h.toNat w.toNat cl))])) U=some (.lst (((pzP h w g rows cl).map tx).map V.str)):=ad
 generalize upd H4 U (.lst [V.str (tx (flT h w g)),V.str (tx (catS [59,32] (rows.map RR.cod))),V.str (tx (showL h.toNat w.toNat cl))])=H5 at*
 refine gu eU (ba (by simp [pzP]) (fun t ht=>by
  obtain ⟨z,hz,rfl⟩:=List.mem_map.mp ht
  rw [ak]
  simp [pzP] at hz
  rcases hz with rfl | rfl | rfl <;> omega) (by rw [ak]; decide)) ?_
 rw [ca,iu]
 exact q _ ((s13.trans s4).trans s5)
theorem pB {c:RCl RK} {H1:Hp} {n:Nat} {σ0:St} {te:TE} {fin:Addr→Hp→Prop} {h w g:Int} (F:FlOk h w g) (hn:n≤12) (hk:∀ k,k≠.Rule→c.ok k=true)
  (he:∀ i H Q,i < n→Same H1 H→(∀ (r:RR) (H':Hp),Same H H'→r.Ok h w g→Q (.str r.txt) H')→te (σ0.set 1 (some (.int (0+(i:Int))))) H Q)
  (hd:∀ l rows H,H1 l=none→Same H1 H→H l=some (.lst ((rows.map RR.txt).map V.str))→rows.length=n→bM c h w g rows→fin l H):
  CompR (Itr 0 n) (gName 1) tTrue te fin σ0 H1:=by
 refine jX (fun l i σ H=>(σ=σ0∨∃ cv,σ=σ0.set 1 cv)∧Same H1 H∧∃ rows:List RR,H l=some (.lst ((rows.map RR.txt).map V.str))∧rows.length=i∧∀ r∈rows,r.Ok h w g) (fun l hl=>⟨.inl rfl,(Same.refl H1).laid hl,[],by rw [ad]; rfl,rfl,fun _ h=>nomatch h⟩) ?_ (fun l σ H hl ⟨_,s1,rows,el,hl2,hP⟩=>hd l rows H hl s1 el hl2 ⟨F,by omega,hP,fun r hr=>hk _ (hP r hr).k0⟩)
 rintro l i σ H hl hi ⟨hσ,s1,rows,el,hl2,hP⟩
 rw [bf]
 have e:σ.set 1 (some (.int (0+(i:Int))))=σ0.set 1 (some (.int (0+(i:Int)))):=by
  rcases hσ with rfl | ⟨cv,rfl⟩
  · rfl
  · exact List.set_set ..
 rw [e,cp,if_pos rfl]
 refine he i H _ hi s1 fun r H2 s2 hr=>⟨_,s2 _ _ el,by simp; exact aI (by omega),.inr ⟨_,rfl⟩,(s1.trans s2).own hl,rows++[r],by rw [ad]; simp,by simp [hl2],fun z hz=>?_⟩
 rcases List.mem_append.mp hz with hz | hz
 · exact hP z hz
 · rw [List.mem_singleton.mp hz]; exact hr
theorem nU:∀ ns:List Int,inV .non (ns.map V.int)=false
 | []=>rfl
 | n::r=>by
  have ih:=nU r
  unfold inV at ih ⊢
  rw [List.map_cons,List.any_cons,ih]
  rfl
theorem qW {K:PySem.W.Frag} {H:Hp} {Q:VK} {p:Addr} {ns:List Int} (h:H p=some (.lst (ns.map V.int))):cIn K false .non (.ref p) H Q=Q (.bl false) H:=by
 unfold cIn; dsimp only; rw [h]; dsimp only [unD,unS,bnd]
 rw [nU,lH]
 simp [flatV]
def bh (K:PySem.W.Frag):Sp:=fun vs H Q _=>∃ t:Str,vs=[.str t]∧Q .non H
theorem jg {K:PySem.W.Frag} {vs:List V} {H:Hp} {Q:VK} {E:XK} (h:bh K vs H Q E):vs.length=1:=by
 obtain ⟨_,rfl,_⟩:=h; rfl
def b4 (K:PySem.W.Frag):TS:=
 (tIfS (tNot (tB (tCB kIsi (tCons (tVar 0) (tCons (tC (.ty "str")) tNil))))) aO tNext)
theorem jh {K:PySem.W.Frag} {vs:List V} {H:Hp} {Q:VK} {E:XK} (h:bh K vs H Q E):b4 K { nx:=fun _ H'=>Q .non H',rt:=Q } (start ["text"] vs) H:=by
 obtain ⟨t,rfl,q⟩:=h
 show b4 K _ [some (.str t)] H
 unfold b4
 rw [aR]
 walk_at "w"
 exact q
def bz (K:PySem.W.Frag):Sp:=fun vs H Q _=>∃ (W:Addr) (ns:List Nat),vs=[.ref W]∧H W=some (.lst (((ns.map numC).map tx).map V.str))∧ns.length≤100∧(∀ n∈ns,n < 100)∧
 ∀ l H',Same H H'→H l=none→H' l=some (.lst ((ns.map fun (n:Nat)=>(n:Int)).map V.int))→Q (.ref l) H'
theorem kE {K:PySem.W.Frag} {vs:List V} {H:Hp} {Q:VK} {E:XK} (h:bz K vs H Q E):vs.length=1:=by
 obtain ⟨_,_,rfl,_⟩:=h; rfl
def cT (K:PySem.W.Frag):TS:=
 (tSeq (sComp 1 [none,none] (iList K (tVar 0)) (gName 1) tTrue (tCall (br K) [] E0 (tCons (tVar 1) tNil)))
  (tSeq (tIfS (tTest (tOp (cIn K false) (tC .non) (tVar 1))) aO tNext)
  (tRet (tVar 1))))
theorem kF {K:PySem.W.Frag} {vs:List V} {H:Hp} {Q:VK} {E:XK} (h:bz K vs H Q E):cT K { nx:=fun _ H'=>Q .non H',rt:=Q } (start ["words","numbers"] vs) H:=by
 obtain ⟨W,ns,rfl,hW,hl,hn,q⟩:=h
 show cT K _ [some (.ref W),none] H
 unfold cT
 walk_at "w"
 refine ⟨⟨_,SqL.of hW⟩,?_⟩
 refine c5 (xs:=((ns.map numC).map tx).map V.str) (fun _=>true) (fun i=>.int ((ns.getD i 0:Nat):Int)) (by simp; omega) (SqL.of hW) ?_ ?_ ?_
 · intro i x H1 R hx s1 k1
   exact k1 _ (Same.refl _)
 · intro i x H1 Q1 hx hb s1 k1
   rw [List.getElem?_map,List.getElem?_map,List.getElem?_map] at hx
   cases e:ns[i]? with
   | none=>rw [e] at hx; cases hx
   | some n=>
    rw [e] at hx
    cases hx
    show tCall _ _ _ _ [none,some (.str (tx (numC n)))] H1 Q1
    walk_at "w"
    have eg:ns.getD i 0=n:=by rw [List.getD,e]; rfl
    rw [eg] at k1
    exact ⟨n,rfl,hn n (List.mem_of_getElem? e),k1⟩
 · intro l H1 hl1 s1 el
   have el2:H1 l=some (.lst ((ns.map fun (n:Nat)=>(n:Int)).map V.int)):=by
    rw [el,bV,List.length_map,List.length_map,List.length_map,List.map_map]
    congr 2
    refine List.ext_getElem? fun i=>?_
    rw [List.getElem?_map,List.getElem?_map]
    by_cases h:i < ns.length
    · rw [List.getElem?_range h,List.getElem?_eq_getElem h]
      simp [List.getD,h]
    · rw [List.getElem?_eq_none (by simpa using h),List.getElem?_eq_none (by omega)]; rfl
   walk_at "w"
   rw [aR]
   walk_at "w"
   rw [qW el2]
   refine ⟨false,rfl,iteF ?_⟩
   walk_at "w"
   exact q l H1 s1 hl1 el2
def bT (K:PySem.W.Frag):Sp:=fun vs H Q _=>∃ h w g:Int,vs=[.str (tx (flT h w g))]∧FlOk h w g∧∀ p H',Same H H'→IsFl H' p h w g→Q (.ref p) H'
theorem l0 {K:PySem.W.Frag} {vs:List V} {H:Hp} {Q:VK} {E:XK} (h:bT K vs H Q E):vs.length=1:=by
 obtain ⟨_,_,_,rfl,_⟩:=h; rfl
def dO (K:PySem.W.Frag):TS:=
 (tSeq (tAsg (tCall (bz K) [] E0 (tCons (tBM K "str" fV (tVar 0) (tCons (tC (.str (tx [32]))) tNil)) tNil)) (gName 1))
  (tSeq (tIfS (tTest (tOp (cNe K) (tCB kLen (tCons (tVar 1) tNil)) (tC (.int 3)))) aO tNext)
  (tRet (tCall (bG K) [] E0 (tCons (tOp cIx (tVar 1) (tC (.int 0))) (tCons (tOp cIx (tVar 1) (tC (.int 1))) (tCons (tOp cIx (tVar 1) (tC (.int 2))) tNil)))))))
theorem l3 {K:PySem.W.Frag} {vs:List V} {H:Hp} {Q:VK} {E:XK} (h:bT K vs H Q E):dO K { nx:=fun _ H'=>Q .non H',rt:=Q } (start ["text","numbers"] vs) H:=by
 obtain ⟨h,w,g,rfl,F,q⟩:=h
 obtain ⟨h0,h1,w0,w1,m16,g0,g1⟩:=id F
 have hsp:Txt.split (tx (flT h w g)) (tx [32])=(([h.toNat,w.toNat,g.toNat]:List Nat).map numC).map tx:=jA (by simp) fun r hr=>by
  simp at hr
  rcases hr with rfl | rfl | rfl <;> exact iq (by omega)
 have fl:=jb h w g
 show dO K _ [some (.str (tx (flT h w g))),none] H
 unfold dO
 walk_at "w"
 refine ⟨b9,?_⟩
 rw [g9,hsp]
 refine ⟨by rw [ak]; decide,by rw [ak]; exact aF (by omega),by simp; exact aF (by decide),fun W hW=>?_⟩
 have s1:Same H (upd H W (.lst (((([h.toNat,w.toNat,g.toNat]:List Nat).map numC).map tx).map V.str))):=(Same.refl H).laid hW
 have eW:(upd H W (.lst (((([h.toNat,w.toNat,g.toNat]:List Nat).map numC).map tx).map V.str))) W=some (.lst (((([h.toNat,w.toNat,g.toNat]:List Nat).map numC).map tx).map V.str)):=ad
 generalize upd H W (.lst (((([h.toNat,w.toNat,g.toNat]:List Nat).map numC).map tx).map V.str))=H1 at*
 walk_at "w"
 refine ⟨W,_,rfl,eW,by simp,fun n hn=>by simp at hn; omega,fun l H2 s2 hl el=>?_⟩
 have el:H2 l=some (.lst (([h,w,g]:List Int).map V.int)):=by
  rw [el]
  simp only [List.map_cons,List.map_nil]
  rw [show ((h.toNat:Nat):Int)=h by omega,show ((w.toNat:Nat):Int)=w by omega,show ((g.toNat:Nat):Int)=g by omega]
 walk_at "w"
 rw [aR]
 walk_at "w"
 rw [im el]
 walk_at "w"
 refine iteF ?_
 refine ixI el (by decide) (by simp) ?_
 walk_at "w"
 refine ixI el (by decide) (by simp) ?_
 walk_at "w"
 refine ixI el (by decide) (by simp) ?_
 walk_at "w"
 exact ⟨h,w,g,rfl,F,fun p hp=>q p _ ((s1.trans s2).trans ((Same.refl H2).laid hp)) ad⟩
def bn (K:PySem.W.Frag) (c:RCl RK) (d:RCl PzK):Sp:=fun vs H Q _=>∃ (h w g:Int) (rows:List RR) (cl:List Int),vs=[.str (tx (pzT h w g rows cl))]∧bM c h w g rows∧CluesOk h w g cl∧d.ok .Puzzle=true∧
 ∀ P L G H',Same H H'→H P=none→H L=none→H G=none→IsPz H' c d P L G h w g rows cl→Q (.ref P) H'
theorem lc {K:PySem.W.Frag} {c:RCl RK} {d:RCl PzK} {vs:List V} {H:Hp} {Q:VK} {E:XK} (h:bn K c d vs H Q E):vs.length=1:=by
 obtain ⟨_,_,_,_,_,rfl,_⟩:=h; rfl
def df (K:PySem.W.Frag) (c:RCl RK) (d:RCl PzK):TS:=
 (tSeq (tAsg (tMake (d.A .Puzzle) (aA K c d) [] E0 (tCons (tVar 2) (tCons (tVar 3) (tCons (tOp cRepL (tLst (tCons (tC (.int 0)) tNil)) (tCall (aK K) [] E0 (tCons (tVar 2) tNil))) tNil)))) (gName 4))
  (tRet (bb d d.ok "clued" (ir K c d) (tVar 4) (tCons (tCall (bw K) [] E0 (tCons (tVar 2) (tCons (tOp cIx (tVar 1) (tC (.int 2))) tNil))) tNil))))
def ge (K:PySem.W.Frag) (c:RCl RK) (d:RCl PzK):TS:=
 (tSeq (tAsg (tIf (tTest (tOp (cNe K) (tOp cIx (tVar 1) (tC (.int 1))) (tC (.str (tx []))))) (tBM K "str" fV (tOp cIx (tVar 1) (tC (.int 1))) (tCons (tC (.str (tx [59,32]))) tNil)) (tLst tNil)) (gName 3))
  (df K c d))
def da (K:PySem.W.Frag) (c:RCl RK) (d:RCl PzK):TS:=
 (tSeq (tDrop (tCall (bh K) [] E0 (tCons (tVar 0) tNil)))
  (tSeq (tAsg (tBM K "str" fV (tVar 0) (tCons (tC (.str (tx [32,124,32]))) tNil)) (gName 1))
  (tSeq (tIfS (tTest (tOp (cNe K) (tCB kLen (tCons (tVar 1) tNil)) (tC (.int 3)))) aO tNext)
  (tSeq (tAsg (tCall (bT K) [] E0 (tCons (tOp cIx (tVar 1) (tC (.int 0))) tNil)) (gName 2))
  (ge K c d)))))
theorem qc {rows:List RR} (hR:∀ r∈rows,r.k≠.Rule):rowT rows=[]↔rows=[]:=by
 constructor
 · intro h
   match rows,h,hR with
   | [],_,_=>rfl
   | [r],h,hR=>
    exfalso
    have h:catL 32 r.ws=[]:=h
    obtain ⟨t,e⟩:∃ t,r.ws=nmC r.k::t:=⟨_,rfl⟩
    rw [e] at h
    have hk:nmC r.k≠[]:=by
     have:=hR r List.mem_cons_self
     revert this
     cases r.k <;> decide
    match t,h with
    | [],h=>exact hk h
    | a::u,h=>rw [bc (by simp)] at h; simp at h
   | r::s::t,h,_=>
    exfalso
    have h:r.cod++([59,32]++catS [59,32] ((s::t).map RR.cod))=[]:=h
    simp at h
 · rintro rfl; rfl
theorem su (k:Nat):(List.replicate k [V.int 0]).flatten=(List.replicate k (0:Int)).map V.int:=by
 rw [List.map_replicate]
 induction k with
 | zero=>rfl
 | succ n ih=>rw [List.replicate_succ,List.flatten_cons,ih,List.replicate_succ]; rfl
theorem gf {K:PySem.W.Frag} {c:RCl RK} {d:RCl PzK} {H:Hp} {Q:VK} {U p A:Addr} {h w g:Int} {rows:List RR} {cl:List Int} {v0:Option V} (R:bM c h w g rows) (C:CluesOk h w g cl) (ok:d.ok .Puzzle=true) (eU:H U=some (.lst (((pzP h w g rows cl).map tx).map V.str))) (ep:IsFl H p h w g) (eA:H A=some (.lst ((rows.map RR.txt).map V.str)))
  (q:∀ P L G H',Same H H'→H P=none→H L=none→H G=none→IsPz H' c d P L G h w g rows cl→Q (.ref P) H'):
  df K c d { nx:=fun _ H'=>Q .non H',rt:=Q } [v0,some (.ref U),some (.ref p),some (.ref A),none] H:=by
 obtain ⟨h0,h1,w0,w1,m16,g0,g1⟩:=id R.F
 have mpos:0≤h*w:=Int.mul_nonneg (by omega) (by omega)
 unfold df
 walk_at "w"
 refine ⟨aF (by show (1:Nat)≤1000; decide),fun Z hZ=>?_⟩
 have s1:Same H (upd H Z (.lst [V.int 0])):=(Same.refl H).laid hZ
 have eZ:(upd H Z (.lst [V.int 0])) Z=some (.lst [V.int 0]):=ad
 generalize upd H Z (.lst [V.int 0])=H1 at*
 refine ⟨p,h,w,g,rfl,s1 _ _ ep,h0,h1,?_⟩
 refine rH eZ mpos (by omega) (by simp) fun B hB=>?_
 rw [su]
 have s2:Same H1 (upd H1 B (.lst ((List.replicate (h*w).toNat (0:Int)).map V.int))):=(Same.refl H1).laid hB
 have eB:(upd H1 B (.lst ((List.replicate (h*w).toNat (0:Int)).map V.int))) B=some (.lst ((List.replicate (h*w).toNat (0:Int)).map V.int)):=ad
 generalize upd H1 B (.lst ((List.replicate (h*w).toNat (0:Int)).map V.int))=H2 at*
 have s12:=s1.trans s2
 walk_at "w"
 refine mY ok (s12 _ _ ep) (s12 _ _ eA) eB R ⟨by simp,fun x hx=>by rw [List.eq_of_mem_replicate hx]; omega⟩ fun P L G H3 s3 hP hL hG X=>?_
 obtain ⟨dx,p1,rs,e1,e2,e3⟩:=X.ex
 have s13:=s12.trans s3
 walk_at "w"
 refine methE (k:=.Puzzle) rfl X.ok e1 (by rfl) ?_
 walk_at "w"
 refine ixL (s13 _ _ eU) (v:=V.str (tx (showL h.toNat w.toNat cl))) rfl ?_
 walk_at "w"
 refine ⟨p,h,w,g,cl,rfl,s13 _ _ ep,R.F,jM R.F C,C.ok,fun F H4 s4 hF eF=>?_⟩
 walk_at "w"
 refine ⟨P,L,G,F,h,w,g,rows,_,cl,rfl,X.same s4,eF,C,fun P2 L2 G2 H5 s5 hP2 hL2 hG2 X2=>?_⟩
 have s14:=s13.trans s4
 exact q P2 L2 G2 H5 (s14.trans s5) (s14.free hP2) (s14.free hL2) (s14.free hG2) X2
theorem ld {K:PySem.W.Frag} {c:RCl RK} {d:RCl PzK} {vs:List V} {H:Hp} {Q:VK} {E:XK} (h:bn K c d vs H Q E):da K c d { nx:=fun _ H'=>Q .non H',rt:=Q } (start ["text","parts","floor","lines","bare"] vs) H:=by
 obtain ⟨h,w,g,rows,cl,rfl,R,C,ok,q⟩:=h
 have rl:=jL R
 have fl:=jb h w g
 have hn:=R.n
 have shl:(showL h.toNat w.toNat cl).length≤100:=gN (by have:=R.F.h1; omega) (by have:=R.F.w1; omega)
 have hsp:Txt.split (tx (pzT h w g rows cl)) (tx [32,124,32])=(pzP h w g rows cl).map tx:=pw (by simp [pzP]) (qV R)
 have len:(pzT h w g rows cl).length≤900:=by
  show (flT h w g++([32,124,32]++(rowT rows++([32,124,32]++showL h.toNat w.toNat cl)))).length≤900
  simp
  omega
 show da K c d _ [some (.str (tx (pzT h w g rows cl))),none,none,none,none] H
 unfold da
 walk_at "w"
 refine ⟨_,rfl,?_⟩
 walk_at "w"
 refine ⟨b9,?_⟩
 rw [g9,hsp]
 refine ⟨by rw [ak]; decide,by rw [ak]; exact aF (by omega),by simp [pzP]; exact aF (by decide),fun U hU=>?_⟩
 have s1:Same H (upd H U (.lst (((pzP h w g rows cl).map tx).map V.str))):=(Same.refl H).laid hU
 have eU:(upd H U (.lst (((pzP h w g rows cl).map tx).map V.str))) U=some (.lst (((pzP h w g rows cl).map tx).map V.str)):=ad
 generalize upd H U (.lst (((pzP h w g rows cl).map tx).map V.str))=H1 at*
 walk_at "w"
 rw [aR]
 walk_at "w"
 rw [im eU]
 walk_at "w"
 refine iteF ?_
 refine ixL eU (v:=V.str (tx (flT h w g))) rfl ?_
 walk_at "w"
 refine ⟨h,w,g,rfl,R.F,fun p H2 s2 ep=>?_⟩
 have s12:=s1.trans s2
 unfold ge
 walk_at "w"
 refine ixL (s2 _ _ eU) (v:=V.str (tx (rowT rows))) rfl ?_
 walk_at "w"
 rw [iM]
 by_cases hr:rows=[]
 · subst hr
   rw [decide_eq_true (show rowT []=[] from rfl)]
   walk_at "w"
   refine ⟨aF (by decide),fun A hA=>?_⟩
   have s3:Same H2 (upd H2 A (.lst [])):=(Same.refl H2).laid hA
   have s13:=s12.trans s3
   exact gf R C ok (s3 _ _ (s2 _ _ eU)) (s3 _ _ ep) (show (upd H2 A (.lst [])) A=some (.lst ((([]:List RR).map RR.txt).map V.str)) from ad) fun P L G H' s4 a1 a2 a3 X=>q P L G H' (s13.trans s4) (s13.free a1) (s13.free a2) (s13.free a3) X
 · rw [decide_eq_false (fun e=>hr ((qc fun r hr=>(R.ok r hr).k0).mp e))]
   walk_at "w"
   refine ixL (s2 _ _ eU) (v:=V.str (tx (rowT rows))) rfl ?_
   walk_at "w"
   refine ⟨b9,?_⟩
   have hs2:Txt.split (tx (rowT rows)) (tx [59,32])=(rows.map RR.cod).map tx:=ox (by simpa using hr) (qb R)
   rw [g9,hs2]
   refine ⟨by rw [ak]; decide,by rw [ak]; exact aF (by omega),by simp; exact aF (by omega),fun A hA=>?_⟩
   rw [← RR.txts]
   have s3:Same H2 (upd H2 A (.lst ((rows.map RR.txt).map V.str))):=(Same.refl H2).laid hA
   have s13:=s12.trans s3
   exact gf R C ok (s3 _ _ (s2 _ _ eU)) (s3 _ _ ep) ad fun P L G H' s4 a1 a2 a3 X=>q P L G H' (s13.trans s4) (s13.free a1) (s13.free a2) (s13.free a3) X
def dR (C m n:List Nat):List V:=[V.str (tx ([117,110,108,105,107,101,32]++C)),V.str (tx ([115,117,109,32]++n++[32]++C)),V.str (tx ([114,105,115,105,110,103,32]++C)),V.str (tx ([115,101,101,110,32]++n++[32]++C)),V.str (tx ([99,111,117,110,116,32]++n++[32]++m++[32]++C)),V.str (tx ([106,111,105,110,101,100,32]++m)),V.str (tx ([110,111,115,113,117,97,114,101,32]++m)),V.str (tx ([114,105,110,103,32]++m))]
theorem rV {h w g:Int} {cs:List Nat} {m n:Nat} {j:Int} (F:FlOk h w g) (c0:cs≠[]) (ci:∀ c∈cs,(c:Int) < h*w) (nd:cs.Nodup) (cn:cs.length≤16) (n9:n≤99) (m0:1≤(m:Int)) (m1:(m:Int)≤g) (j0:0≤j) (j8:j < 8):
  ∃ r:RR,r.Ok h w g∧atI (dR (catL 32 (cs.map numC)) (numC m) (numC n)) j=some (V.str r.txt):=by
 have ne:cs.map numC≠[]:=by simpa using c0
 have:j=0∨j=1∨j=2∨j=3∨j=4∨j=5∨j=6∨j=7:=by omega
 have al:∀ k:RK,allK k=true→k≠.Rule→numK k=false→sgnK k=true→RR.Ok ⟨k,0,m,[],rngL 0 (h*w)⟩ h w g:=fun k a b c d=>pp a b c d m0 m1
 rcases this with rfl | rfl | rfl | rfl | rfl | rfl | rfl | rfl
 · refine ⟨⟨.Unlike,0,0,cs,cs.map fun (n:Nat)=>(n:Int)⟩,ee F c0 ci nd cn rfl (by decide) (by decide) (fun _=>rfl) (fun e=>by cases e) (fun _=>rfl),?_⟩
   show some (V.str (tx ([117,110,108,105,107,101,32]++catL 32 (cs.map numC))))=some (V.str (tx (catL 32 (nmC .Unlike::cs.map numC))))
   rw [bc ne]; rfl
 · refine ⟨⟨.Sum,n,0,cs,cs.map fun (n:Nat)=>(n:Int)⟩,ee F c0 ci nd cn rfl (by decide) n9 (fun e=>by cases e) (fun e=>by cases e) (fun _=>rfl),?_⟩
   show some (V.str (tx ([115,117,109,32]++numC n++[32]++catL 32 (cs.map numC))))=some (V.str (tx (catL 32 (nmC .Sum::numC n::cs.map numC))))
   rw [bc (by simp),bc ne,show nmC .Sum=[115,117,109] from rfl]; simp
 · refine ⟨⟨.Rising,0,0,cs,cs.map fun (n:Nat)=>(n:Int)⟩,ee F c0 ci nd cn rfl (by decide) (by decide) (fun _=>rfl) (fun e=>by cases e) (fun _=>rfl),?_⟩
   show some (V.str (tx ([114,105,115,105,110,103,32]++catL 32 (cs.map numC))))=some (V.str (tx (catL 32 (nmC .Rising::cs.map numC))))
   rw [bc ne]; rfl
 · refine ⟨⟨.Seen,n,0,cs,cs.map fun (n:Nat)=>(n:Int)⟩,ee F c0 ci nd cn rfl (by decide) n9 (fun e=>by cases e) (fun e=>by cases e) (fun _=>rfl),?_⟩
   show some (V.str (tx ([115,101,101,110,32]++numC n++[32]++catL 32 (cs.map numC))))=some (V.str (tx (catL 32 (nmC .Seen::numC n::cs.map numC))))
   rw [bc (by simp),bc ne,show nmC .Seen=[115,101,101,110] from rfl]; simp
 · refine ⟨⟨.Count,n,m,cs,cs.map fun (n:Nat)=>(n:Int)⟩,ee F c0 ci nd cn rfl (by decide) n9 (fun e=>by cases e) (fun _=>⟨m0,m1⟩) (fun e=>by cases e),?_⟩
   show some (V.str (tx ([99,111,117,110,116,32]++numC n++[32]++numC m++[32]++catL 32 (cs.map numC))))=some (V.str (tx (catL 32 (nmC .Count::numC n::numC m::cs.map numC))))
   rw [bc (by simp),bc (by simp),bc ne,show nmC .Count=[99,111,117,110,116] from rfl]; simp
 · exact ⟨_,al .Joined rfl (by decide) rfl rfl,rfl⟩
 · exact ⟨_,al .NoSquare rfl (by decide) rfl rfl,rfl⟩
 · exact ⟨_,al .Ring rfl (by decide) rfl rfl,rfl⟩
def bJ (K:PySem.W.Frag):Sp:=fun vs H Q _=>∃ (a p:Addr) (ns:List Int) (at_ h w g:Int),vs=[.ref a,.int at_,.ref p]∧SqL K H a (ns.map V.int)∧ns.length≤63∧0≤at_∧at_≤300∧IsFl H p h w g∧FlOk h w g∧
 ∀ (r:RR) (H':Hp),Same H H'→r.Ok h w g→Q (.str r.txt) H'
theorem le {K:PySem.W.Frag} {vs:List V} {H:Hp} {Q:VK} {E:XK} (h:bJ K vs H Q E):vs.length=3:=by
 obtain ⟨_,_,_,_,_,_,_,rfl,_⟩:=h; rfl
def gg (K:PySem.W.Frag):TS:=
 (tSeq (tAsg (tOp cAdd (tVar 9) (tLst (tCons (tOp cAdd (tOp cAdd (tOp cAdd (tOp cAdd (tOp cAdd (tC (.str (tx [99,111,117,110,116,32]))) (tVar 8)) (tC (.str (tx [32])))) (tVar 7)) (tC (.str (tx [32])))) (tVar 6)) (tCons (tOp cAdd (tC (.str (tx [106,111,105,110,101,100,32]))) (tVar 7)) (tCons (tOp cAdd (tC (.str (tx [110,111,115,113,117,97,114,101,32]))) (tVar 7)) (tCons (tOp cAdd (tC (.str (tx [114,105,110,103,32]))) (tVar 7)) tNil)))))) (gName 9))
  (tRet (tOp cIx (tVar 9) (tOp cMod (tVar 3) (tC (.int 8))))))
def dg (K:PySem.W.Frag):TS:=
 (tSeq (tAsg (tLst (tCons (tOp cAdd (tC (.str (tx [117,110,108,105,107,101,32]))) (tVar 6)) (tCons (tOp cAdd (tOp cAdd (tOp cAdd (tC (.str (tx [115,117,109,32]))) (tVar 8)) (tC (.str (tx [32])))) (tVar 6)) (tCons (tOp cAdd (tC (.str (tx [114,105,115,105,110,103,32]))) (tVar 6)) (tCons (tOp cAdd (tOp cAdd (tOp cAdd (tC (.str (tx [115,101,101,110,32]))) (tVar 8)) (tC (.str (tx [32])))) (tVar 6)) tNil))))) (gName 9))
  (gg K))
def gh (K:PySem.W.Frag):TS:=
 (tSeq (tAsg (tCB kStr (tCons (tOp cAdd (tC (.int 1)) (tOp cMod (tOp cDiv (tVar 3) (tC (.int 128))) (tOp cIx (tVar 2) (tC (.int 2))))) tNil)) (gName 7))
  (tSeq (tAsg (tCB kStr (tCons (tOp cMod (tOp cDiv (tVar 3) (tC (.int 768))) (tC (.int 100))) tNil)) (gName 8))
  (dg K)))
def db (K:PySem.W.Frag):TS:=
 (tSeq (tAsg (tCall (aG K) [] E0 (tCons (tVar 0) (tCons (tVar 1) tNil))) (gName 3))
  (tSeq (tAsg (tOp cMul (tOp cIx (tVar 2) (tC (.int 0))) (tOp cIx (tVar 2) (tC (.int 1)))) (gName 4))
  (tSeq (tAsg (tOp cAdd (tC (.int 1)) (tOp cMod (tOp cDiv (tVar 3) (tC (.int 8))) (tVar 4))) (gName 5))
  (tSeq (tAsg (tBM K "str" b7 (tC (.str (tx [32]))) (tCons (tComp [none,none] (iList K (tCall (bu K) [] E0 (tCons (tVar 0) (tCons (tOp cAdd (tVar 1) (tC (.int 1))) (tCons (tVar 4) (tCons (tVar 5) tNil)))))) (gName 1) tTrue (tCB kStr (tCons (tVar 1) tNil))) tNil)) (gName 6))
  (gh K)))))
theorem ji {K:PySem.W.Frag} {H:Hp} {Q:VK} {v0 v1 v2 v4 v5:Option V} {y h w g:Int} {cs:List Nat} {m n:Nat} (F:FlOk h w g) (c0:cs≠[]) (ci:∀ c∈cs,(c:Int) < h*w) (nd:cs.Nodup) (cn:cs.length≤16) (n9:n≤99) (m0:1≤(m:Int)) (m1:(m:Int)≤g)
  (q:∀ (r:RR) (H':Hp),Same H H'→r.Ok h w g→Q (.str r.txt) H'):
  dg K { nx:=fun _ H'=>Q .non H',rt:=Q } [v0,v1,v2,some (.int y),v4,v5,some (.str (tx (catL 32 (cs.map numC)))),some (.str (tx (numC m))),some (.str (tx (numC n))),none] H:=by
 have hcl:=nu cn
 have lm:(numC m).length≤2:=bg
 have ln:(numC n).length≤2:=bg
 have sz:∀ x y:List Nat,x.length+y.length≤1000→(tx x).length+(tx y).length≤sizeLine:=fun x y h=>by rw [ak,ak]; exact aF h
 have pk:=fun {j:Int}=>rV (j:=j) F c0 ci nd cn n9 m0 m1
 generalize catL 32 (cs.map numC)=C at*
 generalize numC m=mm at*
 generalize numC n=nn at*
 unfold dg
 walk_at "w"
 simp only [bL]
 refine ⟨sz _ _ (by simp; omega),sz _ _ (by simp; omega),sz _ _ (by simp; omega),sz _ _ (by simp; omega),sz _ _ (by simp; omega),sz _ _ (by simp; omega),sz _ _ (by simp; omega),sz _ _ (by simp; omega),aF (by show (4:Nat)≤1000; decide),fun U hU=>?_⟩
 have s1:Same H (upd H U (.lst ((dR C mm nn).take 4))):=(Same.refl H).laid hU
 have eU:(upd H U (.lst ((dR C mm nn).take 4))) U=some (.lst ((dR C mm nn).take 4)):=ad
 generalize hH1:upd H U (.lst ((dR C mm nn).take 4))=H1 at*
 have hH1':=hH1
 unfold dR at hH1'
 simp only [List.take_succ_cons,List.take_zero] at hH1'
 rw [hH1']
 unfold gg
 walk_at "w"
 simp only [bL]
 refine ⟨sz _ _ (by simp; omega),sz _ _ (by simp; omega),sz _ _ (by simp; omega),sz _ _ (by simp; omega),sz _ _ (by simp; omega),sz _ _ (by simp; omega),sz _ _ (by simp; omega),sz _ _ (by simp; omega),aF (by show (4:Nat)≤1000; decide),fun U2 hU2=>?_⟩
 have s2:Same H1 (upd H1 U2 (.lst ((dR C mm nn).drop 4))):=(Same.refl H1).laid hU2
 have eU2:(upd H1 U2 (.lst ((dR C mm nn).drop 4))) U2=some (.lst ((dR C mm nn).drop 4)):=ad
 generalize hH2:upd H1 U2 (.lst ((dR C mm nn).drop 4))=H2 at*
 have hH2':=hH2
 unfold dR at hH2'
 simp only [List.drop_succ_cons,List.drop_zero] at hH2'
 rw [hH2']
 refine rK (s2 _ _ eU) eU2 (by show (8:Nat)≤1000; decide) fun U3 hU3=>?_
 rw [List.take_append_drop]
 have s3:Same H2 (upd H2 U3 (.lst (dR C mm nn))):=(Same.refl H2).laid hU3
 have eU3:(upd H2 U3 (.lst (dR C mm nn))) U3=some (.lst (dR C mm nn)):=ad
 generalize upd H2 U3 (.lst (dR C mm nn))=H3 at*
 walk_at "w"
 refine ⟨by decide,?_⟩
 obtain ⟨r,hr,er⟩:=pk (Int.emod_nonneg y (show (8:Int)≠0 by decide)) (Int.emod_lt_of_pos y (show (0:Int) < 8 by decide))
 exact ixL eU3 er (q r H3 ((s1.trans s2).trans s3) hr)
theorem lf {K:PySem.W.Frag} {vs:List V} {H:Hp} {Q:VK} {E:XK} (h:bJ K vs H Q E):db K { nx:=fun _ H'=>Q .non H',rt:=Q } (start ["_law_script","_law_at","_law_floor_here","_law_cell","_law_many","_law_size","_law_cells_here","_law_sign","_law_number","_law_words"] vs) H:=by
 obtain ⟨a,p,ns,at_,h,w,g,rfl,hS,hn,a0,a1,hp,F,q⟩:=h
 obtain ⟨h0,h1,w0,w1,m16,g0,g1⟩:=id F
 have mpos:1≤h*w:=Int.le_trans (by omega) (Int.mul_le_mul h0 w0 (by omega) (by omega))
 show db K _ [some (.ref a),some (.int at_),some (.ref p),none,none,none,none,none,none,none] H
 unfold db
 walk_at "w"
 refine ⟨a,ns,_,rfl,hS,hn,by omega,by omega,?_⟩
 generalize lawCA ns at_=y at*
 walk_at "w"
 refine ixT hp (v:=V.int h) rfl ?_
 walk_at "w"
 refine ixT hp (v:=V.int w) rfl ?_
 walk_at "w"
 refine ⟨gM h0 h1,⟨by decide,by decide⟩,by omega,?_⟩
 have b0:=Int.emod_nonneg (y / 8) (show h*w≠0 by omega)
 have b1:=Int.emod_lt_of_pos (y / 8) (show 0 < h*w by omega)
 refine ⟨b9,?_⟩
 refine ⟨a,ns,_,_,_,rfl,hS,hn,by omega,by omega,m16,by omega,by omega,fun O H1 cs s1 hO eO nd ci cl=>?_⟩
 have eO:H1 O=some (.lst ((cs.map fun (n:Nat)=>(n:Int)).map V.int)):=eO
 have c0:cs≠[]:=fun e=>by rw [e] at cl; simp at cl; omega
 have cn:cs.length≤16:=by omega
 have hc100:∀ c∈cs,c < 100:=fun c hc=>by have:=ci c hc; omega
 walk_at "w"
 refine ⟨⟨_,SqL.of eO⟩,?_⟩
 refine ph eO (by omega) hc100 fun l H2 hl s2 el=>?_
 have s12:=s1.trans s2
 walk_at "w"
 refine gu el (ba (by simp; omega) (fun t ht=>by
  obtain ⟨z,hz,rfl⟩:=List.mem_map.mp ht
  obtain ⟨x,_,rfl⟩:=List.mem_map.mp hz
  rw [ak]; exact Nat.le_trans bg (by decide)) (by rw [ak]; decide)) ?_
 rw [ca,eE]
 unfold gh
 walk_at "w"
 refine ⟨⟨by decide,by decide⟩,?_⟩
 refine ixT (s12 _ _ hp) (v:=V.int g) rfl ?_
 walk_at "w"
 refine ⟨by omega,?_⟩
 have d0:=Int.emod_nonneg (y / 128) (show g≠0 by omega)
 have d1:=Int.emod_lt_of_pos (y / 128) (show 0 < g by omega)
 obtain ⟨m,hm⟩:=Int.eq_ofNat_of_zero_le (show 0≤1+y / 128 % g by omega)
 have m0:1≤(m:Int):=by rw [← hm]; omega
 have m1:(m:Int)≤g:=by rw [← hm]; omega
 have e0:=Int.emod_nonneg (y / 768) (show (100:Int)≠0 by decide)
 have e1:=Int.emod_lt_of_pos (y / 768) (show (0:Int) < 100 by decide)
 obtain ⟨n,hn'⟩:=Int.eq_ofNat_of_zero_le e0
 have n9:n≤99:=by omega
 rw [hm,eV (show m < 100 by omega)]
 refine ⟨eX (by omega),⟨by decide,by decide⟩,by decide,?_⟩
 rw [hn',eV (show n < 100 by omega)]
 refine ⟨eX (by omega),?_⟩
 exact ji F c0 ci nd cn n9 m0 m1 fun r H' s3 hr=>q r H' (s12.trans s3) hr
theorem strM {Q:VK} {H:Hp} {a b:List Nat} (h1:a.length+b.length≤1000) (q:Q (.str (tx (a++b))) H):cAdd (.str (tx a)) (.str (tx b)) H Q:=by
 rw [cq,bL]
 exact ⟨by rw [ak,ak]; exact aF h1,q⟩
def a7 (K:PySem.W.Frag):Sp:=fun vs H Q _=>∃ (c:RCl RK) (p Ll Cl:Addr) (h w g:Int) (rows:List RR) (cl:List Int),vs=[.ref p,.ref Ll,.ref Cl]∧IsFl H p h w g∧bM c h w g rows∧CluesOk h w g cl∧H Ll=some (.lst ((rows.map RR.txt).map V.str))∧H Cl=some (.lst (cl.map V.int))∧∀ H',Same H H'→Q (.str (tx (pzT h w g rows cl))) H'
theorem lg {K:PySem.W.Frag} {vs:List V} {H:Hp} {Q:VK} {E:XK} (h:a7 K vs H Q E):vs.length=3:=by
 obtain ⟨_,_,_,_,_,_,_,_,_,rfl,_⟩:=h; rfl
def dh (K:PySem.W.Frag):TS:=
 (tRet (tOp cAdd (tOp cAdd (tOp cAdd (tOp cAdd (tVar 7) (tC (.str (tx [32,124,32])))) (tBM K "str" b7 (tC (.str (tx [59,32]))) (tCons (tVar 1) tNil))) (tC (.str (tx [32,124,32])))) (tBM K "str" b7 (tC (.str (tx [47]))) (tCons (tVar 3) tNil))))
def gi (K:PySem.W.Frag):TS:=
 (tSeq (tAsg (tOp cAdd (tOp cAdd (tOp cAdd (tOp cAdd (tCB kStr (tCons (tOp cIx (tVar 0) (tC (.int 0))) tNil)) (tC (.str (tx [32])))) (tCB kStr (tCons (tOp cIx (tVar 0) (tC (.int 1))) tNil))) (tC (.str (tx [32])))) (tCB kStr (tCons (tOp cIx (tVar 0) (tC (.int 2))) tNil))) (gName 7))
  (dh K))
def dc (K:PySem.W.Frag):TS:=
 (tSeq (tAsg (tLst tNil) (gName 3))
  (tSeq (tFor (gj (tCons (tOp cIx (tVar 0) (tC (.int 0))) tNil)) (gName 4)
  (tSeq (tAsg (tC (.str (tx []))) (gName 5))
  (tSeq (tFor (iList K (tSl ip (tVar 2) (tPart (tOp cMul (tVar 4) (tOp cIx (tVar 0) (tC (.int 1))))) (tPart (tOp cMul (tOp cAdd (tVar 4) (tC (.int 1))) (tOp cIx (tVar 0) (tC (.int 1))))))) (gName 6)
  (tAsg (tOp cAdd (tVar 5) (tOp cIx (tC (.str (tx [46,49,50,51,52,53,54]))) (tVar 6))) (gName 5)))
  (tDrop (tBM K "list" dX (tVar 3) (tCons (tVar 5) tNil))))))
  (gi K)))
theorem jj {K:PySem.W.Frag} {c:RCl RK} {H:Hp} {Q:VK} {p Ll Cl R:Addr} {h w g:Int} {rows:List RR} {cl:List Int} {v4 v5 v6:Option V} (RO:bM c h w g rows) (hL:H Ll=some (.lst ((rows.map RR.txt).map V.str))) (eR:H R=some (.lst ((((rowsL h.toNat w.toNat cl).map (·.map figc)).map tx).map V.str))) (q:Q (.str (tx (pzT h w g rows cl))) H):
  dh K { nx:=fun _ H'=>Q .non H',rt:=Q } [some (.ref p),some (.ref Ll),some (.ref Cl),some (.ref R),v4,v5,v6,some (.str (tx (flT h w g)))] H:=by
 obtain ⟨h0,h1,w0,w1,m16,g0,g1⟩:=id RO.F
 have rl:=jL RO
 have fl:=jb h w g
 have hn:=RO.n
 have shl:(showL h.toNat w.toNat cl).length≤100:=gN (by omega) (by omega)
 have sok:∀ t∈rows.map RR.cod,t.length≤63:=fun t ht=>by obtain ⟨r,hr,rfl⟩:=List.mem_map.mp ht; exact RR.cod_len (RO.ok r hr)
 have sz:∀ x y:List Nat,x.length+y.length≤1000→(tx x).length+(tx y).length≤sizeLine:=fun x y h=>by rw [ak,ak]; exact aF h
 have hrl:∀ r∈(rowsL h.toNat w.toNat cl).map (·.map figc),r.length≤6:=fun r hr=>by
  obtain ⟨y,hy,rfl⟩:=List.mem_map.mp hr
  unfold rowsL at hy
  obtain ⟨i,_,rfl⟩:=List.mem_map.mp hy
  rw [List.length_map]
  unfold rowAt
  rw [List.length_take]
  omega
 rw [RR.txts] at hL
 unfold dh
 walk_at "w"
 simp only [bL]
 refine ⟨sz _ _ (by simp; omega),b9,?_⟩
 refine gu hL (ba (by simp; omega) (fun t ht=>by
  obtain ⟨z,hz,rfl⟩:=List.mem_map.mp ht
  rw [ak]; exact Nat.le_trans (sok z hz) (by decide)) (by rw [ak]; decide)) ?_
 rw [ca,iu]
 have rl:(catS [59,32] (rows.map RR.cod)).length≤780:=rl
 walk_at "w"
 simp only [bL]
 refine ⟨sz _ _ (by simp; omega),sz _ _ (by simp; omega),b9,?_⟩
 refine gu eR (ba (by simp [rowsL]; omega) (fun t ht=>by obtain ⟨x,hx,rfl⟩:=List.mem_map.mp ht; rw [ak]; have:=hrl x hx; omega) (by rw [ak]; decide)) ?_
 rw [ca,eE]
 refine strM (a:=flT h w g++[32,124,32]++catS [59,32] (rows.map RR.cod)++[32,124,32]) (b:=showL h.toNat w.toNat cl) ?_ ?_
 · simp; omega
 · have e:flT h w g++[32,124,32]++catS [59,32] (rows.map RR.cod)++[32,124,32]++showL h.toNat w.toNat cl=pzT h w g rows cl:=by
    show _=flT h w g++([32,124,32]++(rowT rows++([32,124,32]++showL h.toNat w.toNat cl)))
    simp [rowT]
   rw [e]
   exact q
theorem lh {K:PySem.W.Frag} {vs:List V} {H:Hp} {Q:VK} {E:XK} (h:a7 K vs H Q E):dc K { nx:=fun _ H'=>Q .non H',rt:=Q } (start ["_law_floor_here","_law_lines","_law_clues","_law_rows","_law_k","_law_row","_law_sign","_law_head"] vs) H:=by
 obtain ⟨c,p,Ll,Cl,h,w,g,rows,cl,rfl,hp,RO,CO,hL,hC,q⟩:=h
 obtain ⟨h0,h1,w0,w1,m16,g0,g1⟩:=id RO.F
 have hl:=jM RO.F CO
 show dc K _ [some (.ref p),some (.ref Ll),some (.ref Cl),none,none,none,none,none] H
 unfold dc
 walk_at "w"
 refine ⟨aF (by decide),fun R hR=>?_⟩
 have ep:∀ H',Same H H'→H' p=some (.tup [.int h,.int w,.int g]):=fun H' s=>s _ _ hp
 have s0:Same H (upd H R (.lst [])):=(Same.refl H).laid hR
 refine ixT (ep _ s0) (v:=V.int h) rfl ?_
 walk_at "w"
 refine ⟨h,rfl,by omega,by omega,?_⟩
 refine iE (fun i σ H'=>∃ v4 v5 v6:Option V,σ=[some (.ref p),some (.ref Ll),some (.ref Cl),some (.ref R),v4,v5,v6,none]∧Same H H'∧H' R=some (.lst (((((List.range i).map (rowAt w.toNat cl)).map (·.map figc)).map tx).map V.str)))
  ⟨none,none,none,rfl,s0,by rw [ad]; rfl⟩ ?_ ?_
 · rintro i σ H1 hi ⟨v4,v5,v6,rfl,s1,eR⟩
   have hi':i < h.toNat:=hi
   rw [Int.zero_add]
   walk_at "w"
   refine ixT (ep _ s1) (v:=V.int w) rfl ?_
   walk_at "w"
   refine ⟨.inl ⟨by omega,by omega⟩,?_⟩
   refine ixT (ep _ s1) (v:=V.int w) rfl ?_
   walk_at "w"
   refine ⟨.inl ⟨by omega,by omega⟩,?_⟩
   have hrw:(i:Int)*w=((i*w.toNat:Nat):Int):=by rw [Int.natCast_mul,Int.toNat_of_nonneg (by omega)]
   have hrw2:((i:Int)+1)*w=((i*w.toNat+w.toNat:Nat):Int):=by rw [Int.natCast_add,← hrw,Int.toNat_of_nonneg (by omega),Int.add_mul,Int.one_mul]
   rw [hrw2,hrw]
   refine oo (s1 _ _ hC) fun S hS=>?_
   have hle:i*w.toNat+w.toNat≤cl.length:=by
    rw [hl,← Nat.succ_mul]
    exact Nat.mul_le_mul_right _ hi'
   have ecut:cutV (cl.map V.int) (some ((i*w.toNat:Nat):Int)) (some ((i*w.toNat+w.toNat:Nat):Int))=(rowAt w.toNat cl i).map V.int:=by
    rw [nR (by omega) (by rw [List.length_map]; exact hle),Nat.add_sub_cancel_left]
    unfold rowAt
    rw [List.map_take,List.map_drop]
   rw [ecut]
   have xs6:∀ x∈rowAt w.toNat cl i,0≤x∧x≤6:=fun x hm=>by have:=CO.ok x (kZ hm); omega
   have xl:(rowAt w.toNat cl i).length≤6:=by unfold rowAt; rw [List.length_take]; omega
   have e3:(((List.range (i+1)).map (rowAt w.toNat cl)).map (·.map figc)).map tx=(((List.range i).map (rowAt w.toNat cl)).map (·.map figc)).map tx++[tx ((rowAt w.toNat cl i).map figc)]:=by rw [List.range_succ]; simp
   generalize rowAt w.toNat cl i=xs at*
   have s2:Same H1 (upd H1 S (.lst (xs.map V.int))):=(Same.refl H1).laid hS
   have eS:(upd H1 S (.lst (xs.map V.int))) S=some (.lst (xs.map V.int)):=ad
   generalize upd H1 S (.lst (xs.map V.int))=H2 at*
   walk_at "w"
   refine ⟨⟨_,SqL.of eS⟩,?_⟩
   refine mj (K:=K) (xs:=xs.map V.int) (fun j σ H'=>∃ v6:Option V,σ=[some (.ref p),some (.ref Ll),some (.ref Cl),some (.ref R),some (.int (i:Int)),some (.str (tx ((xs.take j).map figc))),v6,none]∧H'=H2) ⟨_,rfl,rfl⟩ (fun j σ' H' _ ⟨_,_,e⟩=>by rw [e]; exact SqL.of eS) ?_ ?_
   · rintro j x σ' H3 hx ⟨v6,rfl,rfl⟩
     obtain ⟨z,hz,rfl⟩:=fK hx
     have zz:=xs6 z (List.mem_of_getElem? hz)
     walk_at "w"
     rw [on]
     refine ⟨by rw [ak]; exact aF (by decide),aU (pq zz.1 zz.2) ?_⟩
     refine strL (a:=(xs.take j).map figc) (b:=[figc z]) (by rw [List.length_map,List.length_take]; omega) (by simp) ?_
     have et:(xs.take (j+1)).map figc=(xs.take j).map figc++[figc z]:=by rw [List.take_succ,hz]; simp
     rw [← et]
     exact ⟨_,rfl,rfl⟩
   · rintro σ' H3 ⟨v6,rfl,rfl⟩
     rw [List.length_map,List.take_length]
     walk_at "w"
     refine ⟨dP (s2 _ _ eR),?_⟩
     rw [io (s2 _ _ eR)]
     refine ⟨by simp; exact aI (by omega),_,_,_,rfl,(s1.trans s2).own hR,?_⟩
     rw [ad,e3]
     simp
 · rintro σ H1 ⟨v4,v5,v6,rfl,s1,eR⟩
   have sz:∀ x y:List Nat,x.length+y.length≤1000→(tx x).length+(tx y).length≤sizeLine:=fun x y h=>by rw [ak,ak]; exact aF h
   have a1:=bg (n:=h.toNat)
   have a2:=bg (n:=w.toNat)
   have a3:=bg (n:=g.toNat)
   unfold gi
   walk_at "w"
   refine ixT (ep _ s1) (v:=V.int ((h.toNat:Nat):Int)) (by rw [show ((h.toNat:Nat):Int)=h by omega]; rfl) ?_
   walk_at "w"
   rw [eV (show h.toNat < 100 by omega)]
   refine ⟨eX (by omega),?_⟩
   simp only [bL]
   refine ⟨sz _ _ (by simp; omega),?_⟩
   refine ixT (ep _ s1) (v:=V.int ((w.toNat:Nat):Int)) (by rw [show ((w.toNat:Nat):Int)=w by omega]; rfl) ?_
   walk_at "w"
   rw [eV (show w.toNat < 100 by omega)]
   refine ⟨eX (by omega),?_⟩
   simp only [bL]
   refine ⟨sz _ _ (by simp; omega),sz _ _ (by simp; omega),?_⟩
   refine ixT (ep _ s1) (v:=V.int ((g.toNat:Nat):Int)) (by rw [show ((g.toNat:Nat):Int)=g by omega]; rfl) ?_
   walk_at "w"
   rw [eV (show g.toNat < 100 by omega)]
   refine ⟨eX (by omega),?_⟩
   simp only [bL]
   refine ⟨sz _ _ (by simp; omega),?_⟩
   have e:numC h.toNat++[32]++numC w.toNat++[32]++numC g.toNat=flT h w g:=by
    show _=numC h.toNat++32::(numC w.toNat++32::numC g.toNat)
    simp
   rw [e]
   exact jj RO (s1 _ _ hL) eR (q _ s1)
def a8 (K:PySem.W.Frag) (c:RCl RK) (d:RCl PzK):Sp:=fun vs H Q _=>∃ (P L G p0 Ll Cl:Addr) (h w g:Int) (rows:List RR) (cl:List Int),vs=[.ref P,.ref p0,.ref Ll,.ref Cl]∧IsPz H c d P L G h w g rows cl∧IsFl H p0 h w g∧H Ll=some (.lst ((rows.map RR.txt).map V.str))∧H Cl=some (.lst (cl.map V.int))∧
 ∀ H',Same H H'→Q (.bl true) H'
theorem li {K:PySem.W.Frag} {c:RCl RK} {d:RCl PzK} {vs:List V} {H:Hp} {Q:VK} {E:XK} (h:a8 K c d vs H Q E):vs.length=4:=by
 obtain ⟨_,_,_,_,_,_,_,_,_,_,_,rfl,_⟩:=h; rfl
def di (K:PySem.W.Frag) (c:RCl RK) (d:RCl PzK):TS:=
 (tRet (tAndV (tOp (cEq K) (bb d d.ok "lines" (bN K c d) (tVar 0) tNil) (tVar 2)) (tAndV (tOp (cEq K) (bb d d.ok "clues" (cg K c d) (tVar 0) tNil) (tVar 3)) (tOp (cEq K) (tCall (aZ K c d) [] E0 (tCons (tVar 0) tNil)) (tCall (a7 K) [] E0 (tCons (tVar 1) (tCons (tVar 2) (tCons (tVar 3) tNil))))))))
def dj (K:PySem.W.Frag) (c:RCl RK) (d:RCl PzK):TS:=
 (tSeq (tIfS (tOr (tNot (tB (tCB kIsi (tCons (bb d d.ok "lines" (bN K c d) (tVar 0) tNil) (tCons (tC (.ty "list")) tNil))))) (tNot (tB (tCB kIsi (tCons (bb d d.ok "clues" (cg K c d) (tVar 0) tNil) (tCons (tC (.ty "list")) tNil)))))) (tRet (tC (.bl false))) tNext)
  (di K c d))
def de (K:PySem.W.Frag) (c:RCl RK) (d:RCl PzK):TS:=
 (tSeq (tIfS (tOr (tNot (tB (tCB (kIsO (d.A .Puzzle)) (tCons (tVar 0) (tCons (tC (.ref (d.A .Puzzle))) tNil))))) (tOr (tNot (tB (tCB kIsi (tCons (bb d d.ok "place" (dQ K c d) (tVar 0) tNil) (tCons (tC (.ty "tuple")) tNil))))) (tTest (tOp (cNe K) (bb d d.ok "place" (dQ K c d) (tVar 0) tNil) (tVar 1))))) (tRet (tC (.bl false))) tNext)
  (dj K c d))
theorem jk {K:PySem.W.Frag} {c:RCl RK} {d:RCl PzK} {H:Hp} {Q:VK} {P L G p0 Ll Cl:Addr} {h w g:Int} {rows:List RR} {cl:List Int} (x:IsPz H c d P L G h w g rows cl) (hp0:IsFl H p0 h w g) (hL:H Ll=some (.lst ((rows.map RR.txt).map V.str))) (hC:H Cl=some (.lst (cl.map V.int))) (q:∀ H',Same H H'→Q (.bl true) H'):
  di K c d { nx:=fun _ H'=>Q .non H',rt:=Q } [some (.ref P),some (.ref p0),some (.ref Ll),some (.ref Cl)] H:=by
 obtain ⟨dx,p,rs,h1,h2,h3⟩:=x.ex
 have sok:∀ t∈rows.map RR.txt,PyData.strOk t=true:=fun t ht=>by obtain ⟨r,hr,rfl⟩:=List.mem_map.mp ht; exact RR.sok x.R.F (x.R.ok r hr)
 unfold di
 walk_at "w"
 refine methE (k:=.Puzzle) rfl x.ok h1 (by rfl) ?_
 walk_at "w"
 refine ⟨P,L,G,h,w,g,rows,cl,rfl,x,fun R H1 s1 hR eR=>?_⟩
 walk_at "w"
 refine pd eR (s1 _ _ hL) sok sok ?_
 rw [decide_eq_true rfl]
 refine ⟨true,rfl,?_⟩
 rw [if_pos rfl]
 refine methE (k:=.Puzzle) rfl x.ok (s1 _ _ h1) (by rfl) ?_
 walk_at "w"
 refine ⟨P,L,G,h,w,g,rows,cl,rfl,x.same s1,fun S hS=>?_⟩
 have s2:Same H1 (upd H1 S (.lst (cl.map V.int))):=(Same.refl H1).laid hS
 have eS:(upd H1 S (.lst (cl.map V.int))) S=some (.lst (cl.map V.int)):=ad
 generalize upd H1 S (.lst (cl.map V.int))=H2 at*
 have s12:=s1.trans s2
 walk_at "w"
 refine qe eS (s12 _ _ hC) ?_
 rw [decide_eq_true rfl]
 refine ⟨true,rfl,?_⟩
 rw [if_pos rfl]
 walk_at "w"
 refine ⟨P,L,G,h,w,g,rows,cl,rfl,x.same s12,fun H3 s3=>?_⟩
 have s13:=s12.trans s3
 walk_at "w"
 refine ⟨c,p0,Ll,Cl,h,w,g,rows,cl,rfl,s13 _ _ hp0,x.R,x.C,s13 _ _ hL,s13 _ _ hC,fun H4 s4=>?_⟩
 walk_at "w"
 exact q _ (s13.trans s4)
theorem jl {K:PySem.W.Frag} {c:RCl RK} {d:RCl PzK} {H:Hp} {Q:VK} {P L G p0 Ll Cl:Addr} {h w g:Int} {rows:List RR} {cl:List Int} (x:IsPz H c d P L G h w g rows cl) (hp0:IsFl H p0 h w g) (hL:H Ll=some (.lst ((rows.map RR.txt).map V.str))) (hC:H Cl=some (.lst (cl.map V.int))) (q:∀ H',Same H H'→Q (.bl true) H'):
  dj K c d { nx:=fun _ H'=>Q .non H',rt:=Q } [some (.ref P),some (.ref p0),some (.ref Ll),some (.ref Cl)] H:=by
 obtain ⟨dx,p,rs,h1,h2,h3⟩:=x.ex
 unfold dj
 rw [aQ,aR]
 walk_at "w"
 refine methE (k:=.Puzzle) rfl x.ok h1 (by rfl) ?_
 walk_at "w"
 refine ⟨P,L,G,h,w,g,rows,cl,rfl,x,fun R H1 s1 hR eR=>?_⟩
 walk_at "w"
 refine mK eR ?_
 refine ⟨true,rfl,iteF ?_⟩
 refine methE (k:=.Puzzle) rfl x.ok (s1 _ _ h1) (by rfl) ?_
 walk_at "w"
 refine ⟨P,L,G,h,w,g,rows,cl,rfl,x.same s1,fun S hS=>?_⟩
 have s2:Same H1 (upd H1 S (.lst (cl.map V.int))):=(Same.refl H1).laid hS
 have eS:(upd H1 S (.lst (cl.map V.int))) S=some (.lst (cl.map V.int)):=ad
 generalize upd H1 S (.lst (cl.map V.int))=H2 at*
 have s12:=s1.trans s2
 walk_at "w"
 refine mK eS ?_
 refine ⟨true,rfl,iteF ?_⟩
 exact jk (x.same s12) (s12 _ _ hp0) (s12 _ _ hL) (s12 _ _ hC) fun H' s3=>q H' (s12.trans s3)
theorem lj {K:PySem.W.Frag} {c:RCl RK} {d:RCl PzK} {vs:List V} {H:Hp} {Q:VK} {E:XK} (h:a8 K c d vs H Q E):de K c d { nx:=fun _ H'=>Q .non H',rt:=Q } (start ["_law_puzzle","_law_floor_here","_law_lines","_law_clues"] vs) H:=by
 obtain ⟨P,L,G,p0,Ll,Cl,h,w,g,rows,cl,rfl,x,hp0,hL,hC,q⟩:=h
 obtain ⟨dx,p,rs,h1,h2,h3⟩:=x.ex
 have e0:H p0=some (.tup (([h,w,g]:List Int).map V.int)):=hp0
 show de K c d _ [some (.ref P),some (.ref p0),some (.ref Ll),some (.ref Cl)] H
 unfold de
 rw [aQ,aR]
 walk_at "w"
 refine so h1 ?_
 refine ⟨true,rfl,iteF ?_⟩
 refine methE (k:=.Puzzle) rfl x.ok h1 (by rfl) ?_
 walk_at "w"
 refine ⟨P,L,G,h,w,g,rows,cl,rfl,x,fun p1 hp1=>?_⟩
 have e1:H p1=some (.tup (([h,w,g]:List Int).map V.int)):=hp1
 walk_at "w"
 refine o6 e1 ?_
 refine ⟨true,rfl,iteF ?_⟩
 refine methE (k:=.Puzzle) rfl x.ok h1 (by rfl) ?_
 walk_at "w"
 refine ⟨P,L,G,h,w,g,rows,cl,rfl,x,fun p2 hp2=>?_⟩
 have e2:H p2=some (.tup (([h,w,g]:List Int).map V.int)):=hp2
 walk_at "w"
 refine si e2 e0 ?_
 rw [decide_eq_true rfl]
 refine ⟨false,rfl,iteF ?_⟩
 exact jl x hp0 hL hC q
def m5 (K:PySem.W.Frag) (c:RCl RK) (d:RCl PzK):Sp:=fun vs H Q _=>∃ (a:Addr) (ns:List Int),vs=[.ref a]∧SqL K H a (ns.map V.int)∧ns.length≤63∧(∀ k,k≠.Rule→c.ok k=true)∧d.ok .Puzzle=true∧∀ H',Q (.bl true) H'
def ll (K:PySem.W.Frag):Sp:=fun vs H Q _=>∃ (a:Addr) (ns:List Int),vs=[.ref a]∧SqL K H a (ns.map V.int)∧ns.length≤63∧∀ H',Q (.bl true) H'
theorem rW {K:PySem.W.Frag} {c:RCl RK} {d:RCl PzK} {vs:List V} {H:Hp} {Q:VK} {E:XK} (h:m5 K c d vs H Q E):vs.length=1:=by
 obtain ⟨_,_,rfl,_⟩:=h; rfl
def iW (K:PySem.W.Frag) (c:RCl RK) (d:RCl PzK):TS:=
 (tSeq (tDrop (tBM K "list" dX (bb d d.ok "lines" (bN K c d) (tVar 7) tNil) (tCons (tC (.str (tx [114,105,110,103,32,49]))) tNil)))
  (tSeq (tDrop (pN K "list" jV (bb d d.ok "clues" (cg K c d) (tVar 7) tNil)))
  (tRet (tAndV (tCall (a8 K c d) [] E0 (tCons (tVar 7) (tCons (tVar 1) (tCons (tVar 3) (tCons (tVar 4) tNil))))) (tCall (a8 K c d) [] E0 (tCons (tCall (bn K c d) [] E0 (tCons (tVar 6) tNil)) (tCons (tVar 1) (tCons (tVar 3) (tCons (tVar 4) tNil)))))))))
def iX (K:PySem.W.Frag) (c:RCl RK) (d:RCl PzK):TS:=
 (tSeq (tIfS (tOr (tNot (tB (tCB kIsi (tCons (tVar 6) (tCons (tC (.ty "str")) tNil))))) (tTest (tOp (cNe K) (tVar 6) (tCall (a7 K) [] E0 (tCons (tVar 1) (tCons (tVar 3) (tCons (tVar 4) tNil))))))) (tRet (tC (.bl false))) tNext)
  (tSeq (tAsg (tCall (bn K c d) [] E0 (tCons (tVar 6) tNil)) (gName 7))
  (tSeq (tIfS (tNot (tB (tCall (a8 K c d) [] E0 (tCons (tVar 7) (tCons (tVar 1) (tCons (tVar 3) (tCons (tVar 4) tNil))))))) (tRet (tC (.bl false))) tNext)
  (iW K c d))))
def iY (K:PySem.W.Frag) (c:RCl RK) (d:RCl PzK):TS:=
 (tSeq (tAsg (tCall (aZ K c d) [] E0 (tCons (tMake (d.A .Puzzle) (aA K c d) [] E0 (tCons (tVar 1) (tCons (tCB kList (tCons (tVar 3) tNil)) (tCons (tCB kList (tCons (tVar 4) tNil)) tNil)))) tNil)) (gName 6))
  (iX K c d))
def iZ (K:PySem.W.Frag) (c:RCl RK) (d:RCl PzK):TS:=
 (tSeq (tAsg (tLst tNil) (gName 4))
  (tSeq (tFor (gj (tCons (tOp cMul (tOp cIx (tVar 1) (tC (.int 0))) (tOp cIx (tVar 1) (tC (.int 1)))) tNil)) (gName 2)
  (tSeq (tAsg (tCall (aG K) [] E0 (tCons (tVar 0) (tCons (tOp cAdd (tC (.int 2)) (tVar 2)) tNil))) (gName 5))
  (tDrop (tBM K "list" dX (tVar 4) (tCons (tOp cMul (tOp cMod (tOp cDiv (tVar 5) (tC (.int 2))) (tOp cAdd (tOp cIx (tVar 1) (tC (.int 2))) (tC (.int 1)))) (tOp cMod (tVar 5) (tC (.int 2)))) tNil)))))
  (iY K c d)))
def kG (K:PySem.W.Frag) (c:RCl RK) (d:RCl PzK):TS:=
 (tSeq (tAsg (tCall (bt K) [] E0 (tCons (tCall (aG K) [] E0 (tCons (tVar 0) (tCons (tC (.int 0)) tNil))) tNil)) (gName 1))
  (tSeq (sComp 3 [none,none,some 1,some 0] (gj (tCons (tOp cMod (tCall (aG K) [] E0 (tCons (tVar 0) (tCons (tC (.int 1)) tNil))) (tC (.int 13))) tNil)) (gName 1) tTrue (tCall (bJ K) [] E0 (tCons (tVar 3) (tCons (tOp cAdd (tC (.int 20)) (tOp cMul (tC (.int 17)) (tVar 1))) (tCons (tVar 2) tNil)))))
  (iZ K c d)))
structure L72 (H:Hp) (c:RCl RK) (p Ll Cl:Addr) (h w g:Int) (rows:List RR) (cl:List Int):Prop where
 fl:IsFl H p h w g
 R:bM c h w g rows
 C:CluesOk h w g cl
 hL:H Ll=some (.lst ((rows.map RR.txt).map V.str))
 hC:H Cl=some (.lst (cl.map V.int))
theorem L72.same {H H':Hp} {c:RCl RK} {p Ll Cl:Addr} {h w g:Int} {rows:List RR} {cl:List Int} (x:L72 H c p Ll Cl h w g rows cl) (s:Same H H'):L72 H' c p Ll Cl h w g rows cl:=
 ⟨s _ _ x.fl,x.R,x.C,s _ _ x.hL,s _ _ x.hC⟩
theorem pC {K:PySem.W.Frag} {c:RCl RK} {d:RCl PzK} {H:Hp} {Q:VK} {p Ll Cl P L G:Addr} {h w g:Int} {rows:List RR} {cl:List Int} {v0 v2 v5:Option V} (X:L72 H c p Ll Cl h w g rows cl) (x:IsPz H c d P L G h w g rows cl) (ok:d.ok .Puzzle=true) (k:∀ H',Q (.bl true) H'):
  iW K c d { nx:=fun _ H'=>Q .non H',rt:=Q } [v0,some (.ref p),v2,some (.ref Ll),some (.ref Cl),v5,some (.str (tx (pzT h w g rows cl))),some (.ref P)] H:=by
 obtain ⟨dx,p1,rs,e1,_,_⟩:=x.ex
 have hn:=X.R.n
 unfold iW
 walk_at "w"
 refine methE (k:=.Puzzle) rfl x.ok e1 (by rfl) ?_
 walk_at "w"
 refine ⟨P,L,G,h,w,g,rows,cl,rfl,x,fun A HA sA hA eA=>?_⟩
 walk_at "w"
 refine ⟨dP eA,?_⟩
 rw [io eA]
 refine ⟨by simp; exact aI (by omega),?_⟩
 have s1:=sA.own (o:=.lst ((rows.map RR.txt).map V.str++[V.str (tx [114,105,110,103,32,49])])) hA
 generalize upd HA A (.lst ((rows.map RR.txt).map V.str++[V.str (tx [114,105,110,103,32,49])]))=H1 at*
 walk_at "w"
 refine methE (k:=.Puzzle) rfl x.ok (s1 _ _ e1) (by rfl) ?_
 walk_at "w"
 refine ⟨P,L,G,h,w,g,rows,cl,rfl,x.same s1,fun B hB=>?_⟩
 have eB:(upd H1 B (.lst (cl.map V.int))) B=some (.lst (cl.map V.int)):=ad
 have sB:Same H1 (upd H1 B (.lst (cl.map V.int))):=(Same.refl H1).laid hB
 generalize upd H1 B (.lst (cl.map V.int))=HB at*
 walk_at "w"
 refine ⟨dP eB,?_⟩
 refine qE eB ?_
 have s2:=s1.trans (sB.own (o:=.lst []) hB)
 generalize upd HB B (.lst [])=H2 at*
 have X2:=X.same s2
 walk_at "w"
 refine ⟨P,L,G,p,Ll,Cl,h,w,g,rows,cl,rfl,x.same s2,X2.fl,X2.hL,X2.hC,fun H3 s3=>?_⟩
 have X3:=X2.same s3
 refine ⟨true,rfl,?_⟩
 rw [if_pos rfl]
 refine ⟨h,w,g,rows,cl,rfl,X.R,X.C,ok,fun P2 L2 G2 H4 s4 _ _ _ x4=>?_⟩
 have X4:=X3.same s4
 walk_at "w"
 exact ⟨P2,L2,G2,p,Ll,Cl,h,w,g,rows,cl,rfl,x4,X4.fl,X4.hL,X4.hC,fun H5 s5=>k _⟩
theorem pD {K:PySem.W.Frag} {c:RCl RK} {d:RCl PzK} {H:Hp} {Q:VK} {p Ll Cl:Addr} {h w g:Int} {rows:List RR} {cl:List Int} {v0 v2 v5:Option V} (X:L72 H c p Ll Cl h w g rows cl) (ok:d.ok .Puzzle=true) (k:∀ H',Q (.bl true) H'):
  iX K c d { nx:=fun _ H'=>Q .non H',rt:=Q } [v0,some (.ref p),v2,some (.ref Ll),some (.ref Cl),v5,some (.str (tx (pzT h w g rows cl))),none] H:=by
 unfold iX
 rw [aQ,aR]
 walk_at "w"
 refine ⟨c,p,Ll,Cl,h,w,g,rows,cl,rfl,X.fl,X.R,X.C,X.hL,X.hC,fun H1 s1=>?_⟩
 have X1:=X.same s1
 walk_at "w"
 refine ⟨h,w,g,rows,cl,rfl,X.R,X.C,ok,fun P L G H2 s2 _ _ _ x2=>?_⟩
 have X2:=X1.same s2
 walk_at "w"
 rw [aR]
 walk_at "w"
 refine ⟨P,L,G,p,Ll,Cl,h,w,g,rows,cl,rfl,x2,X2.fl,X2.hL,X2.hC,fun H3 s3=>?_⟩
 refine ⟨true,rfl,iteF ?_⟩
 exact pC (X2.same s3) (x2.same s3) ok k
theorem pE {K:PySem.W.Frag} {c:RCl RK} {d:RCl PzK} {H:Hp} {Q:VK} {p Ll Cl:Addr} {h w g:Int} {rows:List RR} {cl:List Int} {v0 v2 v5:Option V} (X:L72 H c p Ll Cl h w g rows cl) (ok:d.ok .Puzzle=true) (k:∀ H',Q (.bl true) H'):
  iY K c d { nx:=fun _ H'=>Q .non H',rt:=Q } [v0,some (.ref p),v2,some (.ref Ll),some (.ref Cl),v5,none,none] H:=by
 unfold iY
 walk_at "w"
 refine jY X.hL fun A hA=>?_
 have s1:Same H (upd H A (.lst ((rows.map RR.txt).map V.str))):=(Same.refl H).laid hA
 have eA:(upd H A (.lst ((rows.map RR.txt).map V.str))) A=some (.lst ((rows.map RR.txt).map V.str)):=ad
 generalize upd H A (.lst ((rows.map RR.txt).map V.str))=H1 at*
 have X1:=X.same s1
 walk_at "w"
 refine jY X1.hC fun B hB=>?_
 have s2:Same H1 (upd H1 B (.lst (cl.map V.int))):=(Same.refl H1).laid hB
 have eB:(upd H1 B (.lst (cl.map V.int))) B=some (.lst (cl.map V.int)):=ad
 generalize upd H1 B (.lst (cl.map V.int))=H2 at*
 have X2:=X1.same s2
 walk_at "w"
 refine mY ok X2.fl (s2 _ _ eA) eB X.R X.C fun P L G H3 s3 hP hL hG x3=>?_
 have X3:=X2.same s3
 walk_at "w"
 refine ⟨P,L,G,h,w,g,rows,cl,rfl,x3,fun H4 s4=>?_⟩
 exact pD (X3.same s4) ok k
theorem pF {K:PySem.W.Frag} {c:RCl RK} {d:RCl PzK} {H:Hp} {Q:VK} {a p Ll:Addr} {ns:List Int} {h w g:Int} {rows:List RR} (hS:SqL K H a (ns.map V.int)) (hn:ns.length≤63) (hp:IsFl H p h w g) (R:bM c h w g rows) (hL:H Ll=some (.lst ((rows.map RR.txt).map V.str))) (ok:d.ok .Puzzle=true) (k:∀ H',Q (.bl true) H'):
  iZ K c d { nx:=fun _ H'=>Q .non H',rt:=Q } [some (.ref a),some (.ref p),none,some (.ref Ll),none,none,none,none] H:=by
 obtain ⟨h0,h1,w0,w1,m16,g0,g1⟩:=id R.F
 have mpos:0≤h*w:=Int.mul_nonneg (by omega) (by omega)
 unfold iZ
 walk_at "w"
 refine ⟨aF (by decide),fun Cl hCl=>?_⟩
 have s0:Same H (upd H Cl (.lst [])):=(Same.refl H).laid hCl
 refine ixT (s0 _ _ hp) (v:=V.int h) rfl ?_
 walk_at "w"
 refine ixT (s0 _ _ hp) (v:=V.int w) rfl ?_
 walk_at "w"
 refine ⟨gM h0 h1,_,rfl,by omega,by omega,?_⟩
 refine iE (fun i σ H'=>∃ (v2 v5:Option V) (cl:List Int),σ=[some (.ref a),some (.ref p),v2,some (.ref Ll),some (.ref Cl),v5,none,none]∧Same H H'∧H' Cl=some (.lst (cl.map V.int))∧cl.length=i∧∀ x∈cl,0≤x∧x≤g)
  ⟨none,none,[],rfl,s0,by rw [ad]; rfl,rfl,fun m hm=>by cases hm⟩ ?_ ?_
 · rintro i σ H1 hi ⟨v2,v5,cl,rfl,s1,eL,hl,hm⟩
   have hi':i < (h*w).toNat:=hi
   rw [Int.zero_add]
   walk_at "w"
   refine ⟨a,ns,_,rfl,s1.seq hS,hn,by omega,by omega,?_⟩
   generalize lawCA ns (2+(i:Int))=y at*
   walk_at "w"
   refine ⟨dP eL,⟨by decide,by decide⟩,?_⟩
   refine ixT (s1 _ _ hp) (v:=V.int g) rfl ?_
   walk_at "w"
   have d0:=Int.emod_nonneg (y / 2) (show g+1≠0 by omega)
   have d1:=Int.emod_lt_of_pos (y / 2) (show 0 < g+1 by omega)
   refine ⟨by omega,by decide,?_⟩
   generalize y / 2 % (g+1)=u at*
   have b:y % 2=0∨y % 2=1:=by omega
   generalize y % 2=t at*
   refine ⟨.inr ⟨by omega,by omega⟩,?_⟩
   have x0:0≤u*t∧u*t≤g:=by
    rcases b with rfl | rfl
    · rw [Int.mul_zero]; omega
    · rw [Int.mul_one]; omega
   generalize u*t=x at*
   rw [io eL]
   refine ⟨by rw [List.length_map]; exact aI (by omega),_,_,cl++[x],rfl,s1.own hCl,by rw [ad]; simp,by simp [hl],fun m hm'=>?_⟩
   rcases List.mem_append.mp hm' with hm' | hm'
   · exact hm m hm'
   · rw [List.mem_singleton.mp hm']; exact x0
 · rintro σ H1 ⟨v2,v5,cl,rfl,s1,eL,hl,hm⟩
   exact pE ⟨s1 _ _ hp,R,⟨hl,hm⟩,s1 _ _ hL,eL⟩ ok k
theorem rX {K:PySem.W.Frag} {c:RCl RK} {d:RCl PzK} {vs:List V} {H:Hp} {Q:VK} {E:XK} (h:m5 K c d vs H Q E):kG K c d { nx:=fun _ H'=>Q .non H',rt:=Q } (start ["_law_script","_law_floor_here","_law_k","_law_lines","_law_clues","_law_cell","_law_text_here","_law_found"] vs) H:=by
 obtain ⟨a,ns,rfl,hS,hn,hk,ok,k⟩:=h
 show kG K c d _ [some (.ref a),none,none,none,none,none,none,none] H
 unfold kG
 walk_at "w"
 refine ⟨a,ns,0,rfl,hS,hn,by decide,by decide,?_⟩
 walk_at "w"
 refine ⟨_,rfl,fun p H1 h w g s1 _ hp F=>?_⟩
 walk_at "w"
 refine ⟨a,ns,1,rfl,s1.seq hS,hn,by decide,by decide,?_⟩
 walk_at "w"
 have b0:=Int.emod_nonneg (lawCA ns 1) (show (13:Int)≠0 by decide)
 have b1:=Int.emod_lt_of_pos (lawCA ns 1) (show (0:Int) < 13 by decide)
 refine ⟨by decide,_,rfl,by omega,by omega,?_⟩
 refine pB (h:=h) (w:=w) (g:=g) F (by omega) hk ?_ ?_
 · intro i H3 Q3 hi s3 k3
   have hi':(i:Int) < 13:=by have:i < (lawCA ns 1 % 13).toNat:=hi; omega
   show tCall _ _ _ _ [none,some (.int (0+(i:Int))),some (.ref p),some (.ref a)] H3 Q3
   rw [Int.zero_add]
   walk_at "w"
   refine ⟨.inl ⟨by decide,by decide⟩,?_⟩
   exact ⟨a,p,ns,_,h,w,g,rfl,(s1.trans s3).seq hS,hn,by omega,by omega,s3 _ _ hp,F,k3⟩
 · intro Ll rows H3 hL s3 eLl hrl R
   walk_at "w"
   exact pF ((s1.trans s3).seq hS) hn (s3 _ _ hp) R eLl ok k
end L2
namespace L2
open PySem PySem.Spec PyProof.Rows
end L2
namespace L2
open PySem PySem.Spec PyProof.Rows
end L2
namespace L2
open PySem PySem.Spec PyProof.Rows
end L2
namespace L2
open PySem PySem.Spec PyProof.Rows
def top (i:Nat):Stmt:=PySem.Challenge.pw_cluemaker_k72_puzzles_as_texts.main.body.getD i (.Pass ⟨0,0,0,0⟩)
def mtop (i j:Nat):Stmt:=match top i with
 | .ClassDef _ _ _ body _ _ _ _ _ _ _=>body.getD j (.Pass ⟨0,0,0,0⟩)
 | s=>s
abbrev iv:Stmt:=top 12
theorem sc_is_whole:ap ["value"] ["value"] (ai iv):=⟨rfl,rfl,rfl,by decide+kernel,rfl,by decide+kernel,by decide+kernel⟩
set_option maxHeartbeats 4000000 in
theorem nD {P:Program} {w:World} {K:PySem.W.Frag} {mg:Str→Option Value} {base:Heap} (B:Bt2 mg) {f:Addr} {fd:FuncData} (F:Fun K "is_whole" "is_whole" iv f fd):FnOk P w K mg base CX0 1 f fd ["value"] (bF K):=by
 refine F.ok sc_is_whole (fun vs H Q E h=>np h) (fun cdv A outer s H vs Q E hr h=>?_)
 have hu:=hr.units
 have nd:=sc_is_whole.nd
 refine ⟨fN K,?_,nq h⟩
 exact (ae (am (fT (aB bq rfl B.isinstance_ aJ (aa (pv 0) (aa (b5 (v:=.ty "int") rfl B.int_ o0 rfl) ab))) (iB (ra (aB bq rfl B.isinstance_ aJ (aa (pv 0) (aa (b5 (v:=.ty "bool") rfl B.bool_ qC rfl) ab))))))))
abbrev gE:Stmt:=top 15
theorem sc_many_cells:ap ["floor"] ["floor"] (ai gE):=⟨rfl,rfl,rfl,by decide+kernel,rfl,by decide+kernel,by decide+kernel⟩
set_option maxHeartbeats 4000000 in
theorem l4 {P:Program} {w:World} {K:PySem.W.Frag} {mg:Str→Option Value} {base:Heap} (B:Bt2 mg) {f:Addr} {fd:FuncData} (F:Fun K "many_cells" "many_cells" gE f fd):FnOk P w K mg base CX0 1 f fd ["floor"] (aK K):=by
 refine F.ok sc_many_cells (fun vs H Q E h=>lS h) (fun cdv A outer s H vs Q E hr h=>?_)
 have hu:=hr.units
 have nd:=sc_many_cells.nd
 refine ⟨dJ K,?_,lT h⟩
 exact (ae (am (aj be (aD (aL hu) (pv 0) af (fun _ _=>rfl)) (aD (aL hu) (pv 0) af (fun _ _=>rfl)))))
abbrev iw:Stmt:=top 18
theorem sc_show_row:ap ["signs"] ["signs"] (ai iw):=⟨rfl,rfl,rfl,by decide+kernel,rfl,by decide+kernel,by decide+kernel⟩
set_option maxHeartbeats 4000000 in
theorem nE {P:Program} {w:World} {K:PySem.W.Frag} {mg:Str→Option Value} {base:Heap} (B:Bt2 mg) {t_FIGURES_fillings:Tok} (sJ:mg "FIGURES_fillings"=some (.str (tx [46,49,50,51,52,53,54]) t_FIGURES_fillings)) {f:Addr} {fd:FuncData} (F:Fun K "show_row" "show_row" iw f fd):FnOk P w K mg base CX0 1 f fd ["signs"] (cz K):=by
 refine F.ok sc_show_row (fun vs H Q E h=>nv h) (fun cdv A outer s H vs Q E hr h=>?_)
 have hu:=hr.units
 have nd:=sc_show_row.nd
 refine ⟨fP K,?_,nw h⟩
 exact (ae (am (bp PySem.F.plainAttrs_str PySem.F.slot_str_join PySem.F.type_str_join mH ax (aa (cZ (ix:=[none,none]) [".0","sign"] (bP rfl (by decide+kernel) rfl rfl rfl) rfl (cY (pv 0)) (fun cl s H fp=>(aW (i:=1) (show ([".0","sign"]:List Str).Nodup by decide+kernel) rfl (Or.inl rfl))) (fun cl s H fp=>bO) (fun cl s H fp=>(aD (aL hu) (aV rfl sJ ⟨t_FIGURES_fillings,rfl⟩) (pv 1) (fun _ _=>rfl)))) ab))))
abbrev ga:Stmt:=top 20
theorem sc_read_figure:ap ["floor","figure","sign"] ["floor","figure"] (ai ga):=⟨rfl,rfl,rfl,by decide+kernel,rfl,by decide+kernel,by decide+kernel⟩
set_option maxHeartbeats 4000000 in
theorem lp {P:Program} {w:World} {K:PySem.W.Frag} {mg:Str→Option Value} {base:Heap} (B:Bt2 mg) {t_FIGURES_fillings:Tok} (sJ:mg "FIGURES_fillings"=some (.str (tx [46,49,50,51,52,53,54]) t_FIGURES_fillings)) {f:Addr} {fd:FuncData} (F:Fun K "read_figure" "read_figure" ga f fd):FnOk P w K mg base CX0 1 f fd ["floor","figure"] (bI K):=by
 refine F.ok sc_read_figure (fun vs H Q E h=>k8 h) (fun cdv A outer s H vs Q E hr h=>?_)
 have hu:=hr.units
 have nd:=sc_read_figure.nd
 refine ⟨c8 K,?_,k9 h⟩
 exact (ac (au (i:=2) nd rfl (Or.inl rfl) (bp PySem.F.plainAttrs_str PySem.F.slot_str_find PySem.F.type_str_find pS (aV rfl sJ ⟨t_FIGURES_fillings,rfl⟩) (aa (pv 1) ab)))
   (ac (aC (PW.pt (d3 (av mG (pv 2) af (ay _)) (fS (av iK (pv 2) (aD (aL hu) (pv 0) af (fun _ _=>rfl)) (ay _))))) (ae aH) aq)
   (ae (am (pv 2)))))
abbrev eh:Stmt:=mtop 24 0
theorem sc_Rule___init__:ap ["self","floor","words","cells","amount","mark"] ["self","floor","words","cells","amount","mark"] (ai eh):=⟨rfl,rfl,rfl,by decide+kernel,rfl,by decide+kernel,by decide+kernel⟩
set_option maxHeartbeats 4000000 in
theorem jN {P:Program} {w:World} {K:PySem.W.Frag} {mg:Str→Option Value} {base:Heap} (B:Bt2 mg) {c:RCl RK} (FK_c_amount:FldK K c "amount") (FK_c_cells:FldK K c "cells") (FK_c_floor:FldK K c "floor") (FK_c_mark:FldK K c "mark") (FK_c_words:FldK K c "words") {f:Addr} {fd:FuncData} (F:Fun K "__init__" "Rule.__init__" eh f fd):FnOk P w K mg base CX0 1 f fd ["self","floor","words","cells","amount","mark"] (ag K c):=by
 refine F.ok sc_Rule___init__ (fun vs H Q E h=>jC h) (fun cdv A outer s H vs Q E hr h=>?_)
 have hu:=hr.units
 have nd:=sc_Rule___init__.nd
 refine ⟨cb K c,?_,jD h⟩
 exact (ac (d2 (pv 0) (pv 1) FK_c_floor)
   (ac (d2 (pv 0) (aS ju rfl B.tuple_ il (aa (pv 2) ab)) FK_c_words)
   (ac (d2 (pv 0) (aS ju rfl B.tuple_ il (aa (pv 3) ab)) FK_c_cells)
   (ac (d2 (pv 0) (pv 4) FK_c_amount)
   (ae (d2 (pv 0) (pv 5) FK_c_mark))))))
abbrev gX:Stmt:=mtop 24 5
theorem sc_Rule_line:ap ["self"] ["self"] (ai gX):=⟨rfl,rfl,rfl,by decide+kernel,rfl,by decide+kernel,by decide+kernel⟩
set_option maxHeartbeats 4000000 in
theorem m6 {P:Program} {w:World} {K:PySem.W.Frag} {mg:Str→Option Value} {base:Heap} (B:Bt2 mg) {c:RCl RK} (FK_c_words:FldK K c "words") {f:Addr} {fd:FuncData} (F:Fun K "line" "Rule.line" gX f fd):FnOk P w K mg base CX0 1 f fd ["self"] (d6 K c):=by
 refine F.ok sc_Rule_line (fun vs H Q E h=>mQ h) (fun cdv A outer s H vs Q E hr h=>?_)
 have hu:=hr.units
 have nd:=sc_Rule_line.nd
 refine ⟨d7 K c,?_,mR h⟩
 exact (ae (am (bp PySem.F.plainAttrs_str PySem.F.slot_str_join PySem.F.type_str_join cW ax (aa (eT (pv 0) FK_c_words) ab))))
abbrev gY:Stmt:=top 40
theorem sc_number_in:ap ["word"] ["word"] (ai gY):=⟨rfl,rfl,rfl,by decide+kernel,rfl,by decide+kernel,by decide+kernel⟩
set_option maxHeartbeats 4000000 in
theorem m7 {P:Program} {w:World} {K:PySem.W.Frag} {mg:Str→Option Value} {base:Heap} (B:Bt2 mg) {t_FIGURES_rows:Tok} (um:mg "FIGURES_rows"=some (.str (tx [48,49,50,51,52,53,54,55,56,57]) t_FIGURES_rows)) {t_MOST_FIGURES:Tok} (uo:mg "MOST_FIGURES"=some (.int 9 t_MOST_FIGURES)) {f:Addr} {fd:FuncData} (F:Fun K "number_in" "number_in" gY f fd):FnOk P w K mg base CX0 1 f fd ["word"] (br K):=by
 refine F.ok sc_number_in (fun vs H Q E h=>mS h) (fun cdv A outer s H vs Q E hr h=>?_)
 have hu:=hr.units
 have nd:=sc_number_in.nd
 refine ⟨d8 K,?_,mT h⟩
 exact (ac (aC (PW.pt (d3 (av (bC hu) (pv 0) ax (ay _)) (d3 (av iK (aB bD rfl B.len_ bU (aa (pv 0) ab)) (aV rfl uo ⟨t_MOST_FIGURES,rfl⟩) (ay _)) (fS (PW.pt (q5 (av (bC hu) (aD (aL hu) (pv 0) af (fun _ _=>rfl)) ax (ay _)) (ql (av (cm hu) (pv 0) ax (ay _))))))))) (ae (am jS)) aq)
   (ac (aC (bB (bA (aB (lK rfl) rfl B.all_ o4 (aa (cZ (ix:=[none,none]) [".0","figure"] (bP rfl (by decide+kernel) rfl rfl rfl) rfl (o1 (pv 0)) (fun cl s H fp=>(aW (i:=1) (show ([".0","figure"]:List Str).Nodup by decide+kernel) rfl (Or.inl rfl))) (fun cl s H fp=>bO) (fun cl s H fp=>(dW (oW hu) (pv 1) (aV rfl um ⟨t_FIGURES_rows,rfl⟩) (by with_unfolding_all rfl)))) ab)))) (ae (am jS)) aq)
   (ae (am (aS or rfl B.int_ o0 (aa (pv 0) ab))))))
abbrev eY:Stmt:=mtop 53 1
theorem sc_Puzzle_place:ap ["self"] ["self"] (ai eY):=⟨rfl,rfl,rfl,by decide+kernel,rfl,by decide+kernel,by decide+kernel⟩
set_option maxHeartbeats 4000000 in
theorem kH {P:Program} {w:World} {K:PySem.W.Frag} {mg:Str→Option Value} {base:Heap} (B:Bt2 mg) {c:RCl RK} {d:RCl PzK} (FK_d_floor:FldK K d "floor") {f:Addr} {fd:FuncData} (F:Fun K "place" "Puzzle.place" eY f fd):FnOk P w K mg base CX0 1 f fd ["self"] (cF K c d):=by
 refine F.ok sc_Puzzle_place (fun vs H Q E h=>ke h) (fun cdv A outer s H vs Q E hr h=>?_)
 have hu:=hr.units
 have nd:=sc_Puzzle_place.nd
 refine ⟨cG K c d,?_,kf h⟩
 exact (ae (am (eT (pv 0) FK_d_floor)))
abbrev e5:Stmt:=mtop 53 3
theorem sc_Puzzle_clues:ap ["self"] ["self"] (ai e5):=⟨rfl,rfl,rfl,by decide+kernel,rfl,by decide+kernel,by decide+kernel⟩
set_option maxHeartbeats 4000000 in
theorem kI {P:Program} {w:World} {K:PySem.W.Frag} {mg:Str→Option Value} {base:Heap} (B:Bt2 mg) {c:RCl RK} {d:RCl PzK} (FK_d_given:FldK K d "given") {f:Addr} {fd:FuncData} (F:Fun K "clues" "Puzzle.clues" e5 f fd):FnOk P w K mg base CX0 1 f fd ["self"] (cH K c d):=by
 refine F.ok sc_Puzzle_clues (fun vs H Q E h=>kg h) (fun cdv A outer s H vs Q E hr h=>?_)
 have hu:=hr.units
 have nd:=sc_Puzzle_clues.nd
 refine ⟨cI K c d,?_,kh h⟩
 exact (ae (am (aS gl rfl B.list_ dY (aa (eT (pv 0) FK_d_given) ab))))
abbrev e6:Stmt:=top 57
theorem sc_show_numbers:ap ["numbers"] ["numbers"] (ai e6):=⟨rfl,rfl,rfl,by decide+kernel,rfl,by decide+kernel,by decide+kernel⟩
set_option maxHeartbeats 4000000 in
theorem kJ {P:Program} {w:World} {K:PySem.W.Frag} {mg:Str→Option Value} {base:Heap} (B:Bt2 mg) {f:Addr} {fd:FuncData} (F:Fun K "show_numbers" "show_numbers" e6 f fd):FnOk P w K mg base CX0 1 f fd ["numbers"] (bx K):=by
 refine F.ok sc_show_numbers (fun vs H Q E h=>kC h) (fun cdv A outer s H vs Q E hr h=>?_)
 have hu:=hr.units
 have nd:=sc_show_numbers.nd
 refine ⟨cS K,?_,kD h⟩
 exact (ae (am (bp PySem.F.plainAttrs_str PySem.F.slot_str_join PySem.F.type_str_join cW ax (aa (cZ (ix:=[none,none]) [".0","number"] (bP rfl (by decide+kernel) rfl rfl rfl) rfl (rb (pv 0)) (fun cl s H fp=>(aW (i:=1) (show ([".0","number"]:List Str).Nodup by decide+kernel) rfl (Or.inl rfl))) (fun cl s H fp=>bO) (fun cl s H fp=>(aS cV rfl B.str_ cU (aa (pv 1) ab)))) ab))))
abbrev dS:Stmt:=top 59
theorem sc_refuse_no_text:ap ["text"] ["text"] (ai dS):=⟨rfl,rfl,rfl,by decide+kernel,rfl,by decide+kernel,by decide+kernel⟩
set_option maxHeartbeats 4000000 in
theorem jm {P:Program} {w:World} {K:PySem.W.Frag} {mg:Str→Option Value} {base:Heap} (B:Bt2 mg) {f:Addr} {fd:FuncData} (F:Fun K "refuse_no_text" "refuse_no_text" dS f fd):FnOk P w K mg base CX0 1 f fd ["text"] (bh K):=by
 refine F.ok sc_refuse_no_text (fun vs H Q E h=>jg h) (fun cdv A outer s H vs Q E hr h=>?_)
 have hu:=hr.units
 have nd:=sc_refuse_no_text.nd
 refine ⟨b4 K,?_,jh h⟩
 exact (ae (aC (bB (bA (aB bq rfl B.isinstance_ aJ (aa (pv 0) (aa (b5 (v:=.ty "str") rfl B.str_ cU rfl) ab))))) (ae aH) aq))
abbrev e7:Stmt:=top 64
theorem sc__law_cell_at:ap ["_law_script","_law_k","_law_number"] ["_law_script","_law_k"] (ai e7):=⟨rfl,rfl,rfl,by decide+kernel,rfl,by decide+kernel,by decide+kernel⟩
set_option maxHeartbeats 4000000 in
theorem kK {P:Program} {w:World} {K:PySem.W.Frag} {mg:Str→Option Value} {base:Heap} (B:Bt2 mg) {f:Addr} {fd:FuncData} (F:Fun K "_law_cell_at" "_law_cell_at" e7 f fd):FnOk P w K mg base CX0 1 f fd ["_law_script","_law_k"] (aG K):=by
 refine F.ok sc__law_cell_at (fun vs H Q E h=>kn h) (fun cdv A outer s H vs Q E hr h=>?_)
 have hu:=hr.units
 have nd:=sc__law_cell_at.nd
 refine ⟨cN K,?_,ko h⟩
 exact (ac (aC (av (bC hu) (aB d4 rfl B.len_ bU (aa (pv 0) ab)) af (ay _)) (ae (am (aj bi (aj ar (aj be (aj be (pv 1) (pv 1)) af) (aj be af (pv 1))) af))) aq)
   (ac (au (i:=2) nd rfl (Or.inl rfl) (aj bi (aD nL (pv 0) (aj bi (pv 1) (aB d4 rfl B.len_ bU (aa (pv 0) ab))) (fun _ _=>rfl)) af))
   (ac (aC (av mG (pv 1) (aB d4 rfl B.len_ bU (aa (pv 0) ab)) (ay _)) (ae (am (pv 2))) aq)
   (ae (am (aj bi (aj ar (aj be (pv 2) af) (aj be (aj be (pv 1) (pv 1)) af)) af))))))
abbrev gF:Stmt:=top 65
theorem sc__law_floor:ap ["_law_cell","_law_high","_law_wide"] ["_law_cell"] (ai gF):=⟨rfl,rfl,rfl,by decide+kernel,rfl,by decide+kernel,by decide+kernel⟩
set_option maxHeartbeats 4000000 in
theorem l5 {P:Program} {w:World} {K:PySem.W.Frag} {mg:Str→Option Value} {base:Heap} (B:Bt2 mg) {f:Addr} {fd:FuncData} (F:Fun K "_law_floor" "_law_floor" gF f fd):FnOk P w K mg base CX0 1 f fd ["_law_cell"] (bt K):=by
 refine F.ok sc__law_floor (fun vs H Q E h=>kq h) (fun cdv A outer s H vs Q E hr h=>?_)
 have hu:=hr.units
 have nd:=sc__law_floor.nd
 refine ⟨cO K,?_,kr h⟩
 exact (ac (au (i:=1) nd rfl (Or.inl rfl) (aj ar af (aj bi (pv 0) af)))
   (ac (au (i:=2) nd rfl (Or.inl rfl) (aj ar af (aj bi (aj eu (pv 0) af) (aB (oX rfl) rfl B.min_ rE (aa af (aa (aj eu af (pv 1)) ab))))))
   (ae (am (oM (aa (pv 1) (aa (pv 2) (aa (aj ar af (aj bi (aj eu (pv 0) af) af)) ab))))))))
abbrev gZ:Stmt:=top 68
theorem sc__law_text:ap ["_law_floor_here","_law_lines","_law_clues","_law_rows","_law_k","_law_row","_law_sign","_law_head"] ["_law_floor_here","_law_lines","_law_clues"] (ai gZ):=⟨rfl,rfl,rfl,by decide+kernel,rfl,by decide+kernel,by decide+kernel⟩
set_option maxHeartbeats 4000000 in
theorem m8 {P:Program} {w:World} {K:PySem.W.Frag} {mg:Str→Option Value} {base:Heap} (B:Bt2 mg) {f:Addr} {fd:FuncData} (F:Fun K "_law_text" "_law_text" gZ f fd):FnOk P w K mg base CX0 1 f fd ["_law_floor_here","_law_lines","_law_clues"] (a7 K):=by
 refine F.ok sc__law_text (fun vs H Q E h=>lg h) (fun cdv A outer s H vs Q E hr h=>?_)
 have hu:=hr.units
 have nd:=sc__law_text.nd
 refine ⟨dc K,?_,lh h⟩
 exact (ac (au (i:=3) nd rfl (Or.inl rfl) (cj ab))
   (ac (iD PassesOwn.never rfl (fU rfl B.range_ (aa (aD (aL hu) (pv 0) af (fun _ _=>rfl)) ab)) (aW (i:=4) nd rfl (Or.inl rfl))
   (ac (au (i:=5) nd rfl (Or.inl rfl) ax)
   (ac (iD PassesOwn.never rfl (cY (gx jZ (pv 2) (eo (aj be (pv 4) (aD (aL hu) (pv 0) af (fun _ _=>rfl)))) (eo (aj be (aj ar (pv 4) af) (aD (aL hu) (pv 0) af (fun _ _=>rfl)))))) (aW (i:=6) nd rfl (Or.inl rfl))
   (ae (au (i:=5) nd rfl (Or.inl rfl) (aj ar (pv 5) (aD (aL hu) ax (pv 6) (fun _ _=>rfl))))))
   (ae (en (bp PySem.F.plainAttrs_list PySem.F.slot_list_append PySem.F.type_list_append gm (pv 3) (aa (pv 5) ab)))))))
   (ac (au (i:=7) nd rfl (Or.inl rfl) (aj ar (aj ar (aj ar (aj ar (aS cV rfl B.str_ cU (aa (aD (aL hu) (pv 0) af (fun _ _=>rfl)) ab)) ax) (aS cV rfl B.str_ cU (aa (aD (aL hu) (pv 0) af (fun _ _=>rfl)) ab))) ax) (aS cV rfl B.str_ cU (aa (aD (aL hu) (pv 0) af (fun _ _=>rfl)) ab))))
   (ae (am (aj ar (aj ar (aj ar (aj ar (pv 7) ax) (bp PySem.F.plainAttrs_str PySem.F.slot_str_join PySem.F.type_str_join cW ax (aa (pv 1) ab))) ax) (bp PySem.F.plainAttrs_str PySem.F.slot_str_join PySem.F.type_str_join cW ax (aa (pv 3) ab))))))))
abbrev dU:Stmt:=top 13
theorem sc_is_from_one_to:ap ["value","most"] ["value","most"] (ai dU):=⟨rfl,rfl,rfl,by decide+kernel,rfl,by decide+kernel,by decide+kernel⟩
set_option maxHeartbeats 4000000 in
theorem jn {P:Program} {w:World} {K:PySem.W.Frag} {mg:Str→Option Value} {base:Heap} (B:Bt2 mg) (tw:Cal P w K mg base 1 "is_whole" ["value"] (bF K)) {f:Addr} {fd:FuncData} (F:Fun K "is_from_one_to" "is_from_one_to" dU f fd):FnOk P w K mg base CX0 2 f fd ["value","most"] (aM K):=by
 refine F.ok sc_is_from_one_to (fun vs H Q E h=>je h) (fun cdv A outer s H vs Q E hr h=>?_)
 have hu:=hr.units
 have nd:=sc_is_from_one_to.nd
 refine ⟨b3 K,?_,jf h⟩
 exact (ae (am (fT (ao tw hr (by decide) rfl (aa (pv 0) ab)) (fT (dW jU af (pv 0) (ay _)) (iB (dW jU (pv 0) (pv 1) (ay _)))))))
abbrev e8:Stmt:=top 19
theorem sc_show_filling:ap ["floor","filling","wide"] ["floor","filling"] (ai e8):=⟨rfl,rfl,rfl,by decide+kernel,rfl,by decide+kernel,by decide+kernel⟩
set_option maxHeartbeats 4000000 in
theorem kL {P:Program} {w:World} {K:PySem.W.Frag} {mg:Str→Option Value} {base:Heap} (B:Bt2 mg) (vc:Cal P w K mg base 1 "show_row" ["signs"] (cz K)) {f:Addr} {fd:FuncData} (F:Fun K "show_filling" "show_filling" e8 f fd):FnOk P w K mg base CX0 2 f fd ["floor","filling"] (bv K):=by
 refine F.ok sc_show_filling (fun vs H Q E h=>kx h) (fun cdv A outer s H vs Q E hr h=>?_)
 have hu:=hr.units
 have nd:=sc_show_filling.nd
 refine ⟨cQ K,?_,ky h⟩
 exact (ac (au (i:=2) nd rfl (Or.inr rfl) (aD (aL hu) (pv 0) af (fun _ _=>rfl)))
   (ae (am (bp PySem.F.plainAttrs_str PySem.F.slot_str_join PySem.F.type_str_join mH ax (aa (cZ (ix:=[none,none,some 1,some 2]) [".0","row","filling","wide"] (bP rfl (by decide+kernel) rfl rfl rfl) rfl (fU rfl B.range_ (aa (aD (aL hu) (pv 0) af (fun _ _=>rfl)) ab)) (fun cl s H fp=>(aW (i:=1) (show ([".0","row","filling","wide"]:List Str).Nodup by decide+kernel) rfl (Or.inl rfl))) (fun cl s H fp=>bO) (fun cl s H fp=>(ao vc hr (by decide) rfl (aa (gx jZ (pv 2) (eo (aj be (pv 1) (pv 3))) (eo (aj ar (aj be (pv 1) (pv 3)) (pv 3)))) ab)))) ab)))))
abbrev iy:Stmt:=top 21
theorem sc_read_row:ap ["floor","row"] ["floor","row"] (ai iy):=⟨rfl,rfl,rfl,by decide+kernel,rfl,by decide+kernel,by decide+kernel⟩
set_option maxHeartbeats 4000000 in
theorem nF {P:Program} {w:World} {K:PySem.W.Frag} {mg:Str→Option Value} {base:Heap} (B:Bt2 mg) (uD:Cal P w K mg base 1 "read_figure" ["floor","figure"] (bI K)) {f:Addr} {fd:FuncData} (F:Fun K "read_row" "read_row" iy f fd):FnOk P w K mg base CX0 2 f fd ["floor","row"] (cA K):=by
 refine F.ok sc_read_row (fun vs H Q E h=>nA h) (fun cdv A outer s H vs Q E hr h=>?_)
 have hu:=hr.units
 have nd:=sc_read_row.nd
 refine ⟨fQ K,?_,nB h⟩
 exact (ac (aC (av (cm hu) (aB bD rfl B.len_ bU (aa (pv 1) ab)) (aD (aL hu) (pv 0) af (fun _ _=>rfl)) (ay _)) (ae aH) aq)
   (ae (am (cZ (ix:=[none,none,some 0]) [".0","figure","floor"] (bP rfl (by decide+kernel) rfl rfl rfl) rfl (o1 (pv 1)) (fun cl s H fp=>(aW (i:=1) (show ([".0","figure","floor"]:List Str).Nodup by decide+kernel) rfl (Or.inl rfl))) (fun cl s H fp=>bO) (fun cl s H fp=>(ao uD hr (by decide) rfl (aa (pv 2) (aa (pv 1) ab))))))))
abbrev ei:Stmt:=top 41
theorem sc_number_within:ap ["word","least","most","number"] ["word","least","most"] (ai ei):=⟨rfl,rfl,rfl,by decide+kernel,rfl,by decide+kernel,by decide+kernel⟩
set_option maxHeartbeats 4000000 in
theorem jO {P:Program} {w:World} {K:PySem.W.Frag} {mg:Str→Option Value} {base:Heap} (B:Bt2 mg) (sT:Cal P w K mg base 1 "number_in" ["word"] (br K)) {f:Addr} {fd:FuncData} (F:Fun K "number_within" "number_within" ei f fd):FnOk P w K mg base CX0 2 f fd ["word","least","most"] (aP K):=by
 refine F.ok sc_number_within (fun vs H Q E h=>jE h) (fun cdv A outer s H vs Q E hr h=>?_)
 have hu:=hr.units
 have nd:=sc_number_within.nd
 refine ⟨cc K,?_,jF h⟩
 exact (ac (au (i:=3) nd rfl (Or.inl rfl) (ao sT hr (by decide) rfl (aa (pv 0) ab)))
   (ac (aC (PW.pt (d3 (av rh (pv 3) jS (ay _)) (d3 (av mG (pv 3) (pv 1) (ay _)) (fS (av iK (pv 3) (pv 2) (ay _)))))) (ae aH) aq)
   (ae (am (pv 3)))))
abbrev gG:Stmt:=top 51
theorem sc_is_filling:ap ["floor","filling","least"] ["floor","filling","least"] (ai gG):=⟨rfl,rfl,rfl,by decide+kernel,rfl,by decide+kernel,by decide+kernel⟩
set_option maxHeartbeats 4000000 in
theorem l6 {P:Program} {w:World} {K:PySem.W.Frag} {mg:Str→Option Value} {base:Heap} (B:Bt2 mg) (tw:Cal P w K mg base 1 "is_whole" ["value"] (bF K)) (sF:Cal P w K mg base 1 "many_cells" ["floor"] (aK K)) {f:Addr} {fd:FuncData} (F:Fun K "is_filling" "is_filling" gG f fd):FnOk P w K mg base CX0 2 f fd ["floor","filling","least"] (bS K):=by
 refine F.ok sc_is_filling (fun vs H Q E h=>lY h) (fun cdv A outer s H vs Q E hr h=>?_)
 have hu:=hr.units
 have nd:=sc_is_filling.nd
 refine ⟨dN K,?_,lZ h⟩
 exact (ac (aC (PW.pt (d3 (bB (bA (aB bq rfl B.isinstance_ aJ (aa (pv 1) (aa (b5 (v:=.ty "list") rfl B.list_ dY rfl) ab))))) (fS (av (cm hu) (aB bD rfl B.len_ bU (aa (pv 1) ab)) (ao sF hr (by decide) rfl (aa (pv 0) ab)) (ay _))))) (ae (am jR)) aq)
   (ae (am (aB (lK rfl) rfl B.all_ o4 (aa (cZ (ix:=[none,none,some 0,some 2]) [".0","sign","floor","least"] (bP rfl (by decide+kernel) rfl rfl rfl) rfl (cY (pv 1)) (fun cl s H fp=>(aW (i:=1) (show ([".0","sign","floor","least"]:List Str).Nodup by decide+kernel) rfl (Or.inl rfl))) (fun cl s H fp=>bO) (fun cl s H fp=>(fT (ao tw hr (by decide) rfl (aa (pv 1) ab)) (fT (dW jU (pv 3) (pv 1) (ay _)) (iB (dW jU (pv 1) (aD (aL hu) (pv 2) af (fun _ _=>rfl)) (ay _))))))) ab)))))
abbrev e9:Stmt:=mtop 53 2
theorem sc_Puzzle_lines:ap ["self"] ["self"] (ai e9):=⟨rfl,rfl,rfl,by decide+kernel,rfl,by decide+kernel,by decide+kernel⟩
set_option maxHeartbeats 4000000 in
theorem kM {P:Program} {w:World} {K:PySem.W.Frag} {mg:Str→Option Value} {base:Heap} (B:Bt2 mg) {c:RCl RK} {d:RCl PzK} (FK_d_laws:FldK K d "laws") (wJ:MCal P w K mg base c c.ok 1 "line" ["self"] (ig K c)) {f:Addr} {fd:FuncData} (F:Fun K "lines" "Puzzle.lines" e9 f fd):FnOk P w K mg base CX0 2 f fd ["self"] (cJ K c d):=by
 refine F.ok sc_Puzzle_lines (fun vs H Q E h=>ki h) (fun cdv A outer s H vs Q E hr h=>?_)
 have hu:=hr.units
 have nd:=sc_Puzzle_lines.nd
 refine ⟨cK K c d,?_,kj h⟩
 exact (ae (am (cZ (ix:=[none,none]) [".0","rule"] (bP rfl (by decide+kernel) rfl rfl rfl) rfl (cY (eT (pv 0) FK_d_laws)) (fun cl s H fp=>(aW (i:=1) (show ([".0","rule"]:List Str).Nodup by decide+kernel) rfl (Or.inl rfl))) (fun cl s H fp=>bO) (fun cl s H fp=>(aY wJ hr (by decide) (pv 1))))))
abbrev fb:Stmt:=top 60
theorem sc_read_numbers:ap ["words","numbers"] ["words"] (ai fb):=⟨rfl,rfl,rfl,by decide+kernel,rfl,by decide+kernel,by decide+kernel⟩
set_option maxHeartbeats 4000000 in
theorem kN {P:Program} {w:World} {K:PySem.W.Frag} {mg:Str→Option Value} {base:Heap} (B:Bt2 mg) (sT:Cal P w K mg base 1 "number_in" ["word"] (br K)) {f:Addr} {fd:FuncData} (F:Fun K "read_numbers" "read_numbers" fb f fd):FnOk P w K mg base CX0 2 f fd ["words"] (bz K):=by
 refine F.ok sc_read_numbers (fun vs H Q E h=>kE h) (fun cdv A outer s H vs Q E hr h=>?_)
 have hu:=hr.units
 have nd:=sc_read_numbers.nd
 refine ⟨cT K,?_,kF h⟩
 exact (ac (kU (k:=1) nd rfl (Or.inl rfl) rfl (ix:=[none,none]) [".0","word"] (bP rfl (by decide+kernel) rfl rfl rfl) rfl (cY (pv 0)) (fun cl s H fp=>(aW (i:=1) (show ([".0","word"]:List Str).Nodup by decide+kernel) rfl (Or.inl rfl))) (fun cl s H fp=>bO) (fun cl s H fp=>(ao sT hr (by decide) rfl (aa (pv 1) ab))))
   (ac (aC (av (oW hu) jS (pv 1) (by with_unfolding_all rfl)) (ae aH) aq)
   (ae (am (pv 1)))))
abbrev gH:Stmt:=top 66
theorem sc__law_cells:ap ["_law_script","_law_at","_law_many","_law_size","_law_left","_law_found","_law_k"] ["_law_script","_law_at","_law_many","_law_size"] (ai gH):=⟨rfl,rfl,rfl,by decide+kernel,rfl,by decide+kernel,by decide+kernel⟩
set_option maxHeartbeats 4000000 in
theorem l7 {P:Program} {w:World} {K:PySem.W.Frag} {mg:Str→Option Value} {base:Heap} (B:Bt2 mg) (sE:Cal P w K mg base 1 "_law_cell_at" ["_law_script","_law_k"] (aG K)) {f:Addr} {fd:FuncData} (F:Fun K "_law_cells" "_law_cells" gH f fd):FnOk P w K mg base CX0 2 f fd ["_law_script","_law_at","_law_many","_law_size"] (bu K):=by
 refine F.ok sc__law_cells (fun vs H Q E h=>kt h) (fun cdv A outer s H vs Q E hr h=>?_)
 have hu:=hr.units
 have nd:=sc__law_cells.nd
 refine ⟨cP K,?_,ku h⟩
 exact (ac (au (i:=4) nd rfl (Or.inl rfl) (jt rfl rfl rfl B.list_ B.range_ (aa (pv 2) ab)))
   (ac (au (i:=5) nd rfl (Or.inl rfl) (cj ab))
   (ac (iD PassesOwn.never rfl (fU rfl B.range_ (aa (pv 3) ab)) (aW (i:=6) nd rfl (Or.inl rfl))
   (ae (en (bp PySem.F.plainAttrs_list PySem.F.slot_list_append PySem.F.type_list_append gm (pv 5) (aa (bp PySem.F.plainAttrs_list PySem.F.slot_list_pop PySem.F.type_list_pop o9 (pv 4) (aa (aj bi (ao sE hr (by decide) rfl (aa (pv 0) (aa (aj ar (pv 1) (pv 6)) ab))) (aB bD rfl B.len_ bU (aa (pv 4) ab))) ab)) ab)))))
   (ae (am (pv 5))))))
abbrev iz:Stmt:=top 14
theorem sc_floor_of:ap ["high","wide","signs"] ["high","wide","signs"] (ai iz):=⟨rfl,rfl,rfl,by decide+kernel,rfl,by decide+kernel,by decide+kernel⟩
set_option maxHeartbeats 4000000 in
theorem nG {P:Program} {w:World} {K:PySem.W.Frag} {mg:Str→Option Value} {base:Heap} (B:Bt2 mg) (sP:Cal P w K mg base 2 "is_from_one_to" ["value","most"] (aM K)) {t_MOST_CELLS:Tok} (uM:mg "MOST_CELLS"=some (.int 16 t_MOST_CELLS)) {t_MOST_SIDE:Tok} (uC:mg "MOST_SIDE"=some (.int 6 t_MOST_SIDE)) {t_MOST_SIGNS:Tok} (uN:mg "MOST_SIGNS"=some (.int 6 t_MOST_SIGNS)) {f:Addr} {fd:FuncData} (F:Fun K "floor_of" "floor_of" iz f fd):FnOk P w K mg base CX0 3 f fd ["high","wide","signs"] (bG K):=by
 refine F.ok sc_floor_of (fun vs H Q E h=>nr h) (fun cdv A outer s H vs Q E hr h=>?_)
 have hu:=hr.units
 have nd:=sc_floor_of.nd
 refine ⟨fO K,?_,nt h⟩
 exact (ac (aC (bB (bA (ao sP hr (by decide) rfl (aa (pv 0) (aa (aV rfl uC ⟨t_MOST_SIDE,rfl⟩) ab))))) (ae aH) aq)
   (ac (aC (bB (bA (ao sP hr (by decide) rfl (aa (pv 1) (aa (aV rfl uC ⟨t_MOST_SIDE,rfl⟩) ab))))) (ae aH) aq)
   (ac (aC (av iK (aj be (pv 0) (pv 1)) (aV rfl uM ⟨t_MOST_CELLS,rfl⟩) (ay _)) (ae aH) aq)
   (ac (aC (bB (bA (ao sP hr (by decide) rfl (aa (pv 2) (aa (aV rfl uN ⟨t_MOST_SIGNS,rfl⟩) ab))))) (ae aH) aq)
   (ae (am (oM (aa (pv 0) (aa (pv 1) (aa (pv 2) ab))))))))))
abbrev fc:Stmt:=top 22
theorem sc_read_filling:ap ["floor","text","rows","filling","row"] ["floor","text"] (ai fc):=⟨rfl,rfl,rfl,by decide+kernel,rfl,by decide+kernel,by decide+kernel⟩
set_option maxHeartbeats 4000000 in
theorem kO {P:Program} {w:World} {K:PySem.W.Frag} {mg:Str→Option Value} {base:Heap} (B:Bt2 mg) (vd:Cal P w K mg base 2 "read_row" ["floor","row"] (cA K)) {f:Addr} {fd:FuncData} (F:Fun K "read_filling" "read_filling" fc f fd):FnOk P w K mg base CX0 3 f fd ["floor","text"] (bw K):=by
 refine F.ok sc_read_filling (fun vs H Q E h=>kz h) (fun cdv A outer s H vs Q E hr h=>?_)
 have hu:=hr.units
 have nd:=sc_read_filling.nd
 refine ⟨cR K,?_,kA h⟩
 exact (ac (aC (bB (bA (aB bq rfl B.isinstance_ aJ (aa (pv 1) (aa (b5 (v:=.ty "str") rfl B.str_ cU rfl) ab))))) (ae aH) aq)
   (ac (au (i:=2) nd rfl (Or.inl rfl) (bp PySem.F.plainAttrs_str PySem.F.slot_str_split PySem.F.type_str_split fW (pv 1) (aa ax ab)))
   (ac (aC (av (cm hu) (aB bD rfl B.len_ bU (aa (pv 2) ab)) (aD (aL hu) (pv 0) af (fun _ _=>rfl)) (ay _)) (ae aH) aq)
   (ac (au (i:=3) nd rfl (Or.inl rfl) (cj ab))
   (ac (iD PassesOwn.never rfl (cY (pv 2)) (aW (i:=4) nd rfl (Or.inl rfl))
   (ae (en (bp PySem.F.plainAttrs_list PySem.F.slot_list_extend PySem.F.type_list_extend om (pv 3) (aa (ao vd hr (by decide) rfl (aa (pv 0) (aa (pv 4) ab))) ab)))))
   (ae (am (pv 3))))))))
abbrev fe:Stmt:=top 42
theorem sc_first_within:ap ["words","least","most"] ["words","least","most"] (ai fe):=⟨rfl,rfl,rfl,by decide+kernel,rfl,by decide+kernel,by decide+kernel⟩
set_option maxHeartbeats 4000000 in
theorem kP {P:Program} {w:World} {K:PySem.W.Frag} {mg:Str→Option Value} {base:Heap} (B:Bt2 mg) (sL:Cal P w K mg base 2 "number_within" ["word","least","most"] (aP K)) {f:Addr} {fd:FuncData} (F:Fun K "first_within" "first_within" fe f fd):FnOk P w K mg base CX0 3 f fd ["words","least","most"] (aT K):=by
 refine F.ok sc_first_within (fun vs H Q E h=>j7 h) (fun cdv A outer s H vs Q E hr h=>?_)
 have hu:=hr.units
 have nd:=sc_first_within.nd
 refine ⟨cD K,?_,j9 h⟩
 exact (ac (aC (av (bC hu) (pv 0) (cj ab) (ay _)) (ae aH) aq)
   (ae (am (ao sL hr (by decide) rfl (aa (aD (aL hu) (pv 0) af (fun _ _=>rfl)) (aa (pv 1) (aa (pv 2) ab)))))))
abbrev gI:Stmt:=top 43
theorem sc_told_cells:ap ["floor","words","cells"] ["floor","words"] (ai gI):=⟨rfl,rfl,rfl,by decide+kernel,rfl,by decide+kernel,by decide+kernel⟩
set_option maxHeartbeats 4000000 in
theorem l8 {P:Program} {w:World} {K:PySem.W.Frag} {mg:Str→Option Value} {base:Heap} (B:Bt2 mg) (sF:Cal P w K mg base 1 "many_cells" ["floor"] (aK K)) (sL:Cal P w K mg base 2 "number_within" ["word","least","most"] (aP K)) {f:Addr} {fd:FuncData} (F:Fun K "told_cells" "told_cells" gI f fd):FnOk P w K mg base CX0 3 f fd ["floor","words"] (bQ K):=by
 refine F.ok sc_told_cells (fun vs H Q E h=>lU h) (fun cdv A outer s H vs Q E hr h=>?_)
 have hu:=hr.units
 have nd:=sc_told_cells.nd
 refine ⟨dL K,?_,lV h⟩
 exact (ac (kU (k:=2) nd rfl (Or.inl rfl) rfl (ix:=[none,none,some 0]) [".0","word","floor"] (bP rfl (by decide+kernel) rfl rfl rfl) rfl (cY (pv 1)) (fun cl s H fp=>(aW (i:=1) (show ([".0","word","floor"]:List Str).Nodup by decide+kernel) rfl (Or.inl rfl))) (fun cl s H fp=>bO) (fun cl s H fp=>(ao sL hr (by decide) rfl (aa (pv 1) (aa af (aa (aj qB (ao sF hr (by decide) rfl (aa (pv 2) ab)) af) ab))))))
   (ac (aC (av (bC hu) (pv 2) (cj ab) (ay _)) (ae aH) aq)
   (ac (aC (av (cm hu) (o8 rfl rfl rfl B.len_ B.set_ (pv 2)) (aB bD rfl B.len_ bU (aa (pv 2) ab)) (ay _)) (ae aH) aq)
   (ae (am (pv 2))))))
abbrev i0:Stmt:=top 45
theorem sc_rule_by:ap ["floor","words","cells","amount","mark","name"] ["floor","words","cells","amount","mark"] (ai i0):=⟨rfl,rfl,rfl,by decide+kernel,rfl,by decide+kernel,by decide+kernel⟩
set_option maxHeartbeats 4000000 in
theorem oy {P:Program} {w:World} {K:PySem.W.Frag} {mg:Str→Option Value} {base:Heap} (B:Bt2 mg) {c:RCl RK} (wt:KCal P w K mg base 1 "Count" (c.A .Count) ["self","floor","words","cells","amount","mark"] (ag K c)) (vU:KCal P w K mg base 1 "Joined" (c.A .Joined) ["self","floor","words","cells","amount","mark"] (ag K c)) (ve:KCal P w K mg base 1 "NoSquare" (c.A .NoSquare) ["self","floor","words","cells","amount","mark"] (ag K c)) (wK:KCal P w K mg base 1 "Ring" (c.A .Ring) ["self","floor","words","cells","amount","mark"] (ag K c)) (vV:KCal P w K mg base 1 "Rising" (c.A .Rising) ["self","floor","words","cells","amount","mark"] (ag K c)) (wL:KCal P w K mg base 1 "Seen" (c.A .Seen) ["self","floor","words","cells","amount","mark"] (ag K c)) (K_Sum:KCal P w K mg base 1 "Sum" (c.A .Sum) ["self","floor","words","cells","amount","mark"] (ag K c)) (vW:KCal P w K mg base 1 "Unlike" (c.A .Unlike) ["self","floor","words","cells","amount","mark"] (ag K c)) {f:Addr} {fd:FuncData} (F:Fun K "rule_by" "rule_by" i0 f fd):FnOk P w K mg base CX0 3 f fd ["floor","words","cells","amount","mark"] (c7 K c):=by
 refine F.ok sc_rule_by (fun vs H Q E h=>ot h) (fun cdv A outer s H vs Q E hr h=>?_)
 have hu:=hr.units
 have nd:=sc_rule_by.nd
 refine ⟨gn K c,?_,ou h⟩
 exact (ac (au (i:=5) nd rfl (Or.inl rfl) (aD (aL hu) (pv 1) af (fun _ _=>rfl)))
   (ac (aC (av (bC hu) (pv 5) ax (ay _)) (ae (am (d5 vW hr (by decide) rfl (aa (pv 0) (aa (pv 1) (aa (pv 2) (aa (pv 3) (aa (pv 4) ab)))))))) aq)
   (ac (aC (av (bC hu) (pv 5) ax (ay _)) (ae (am (d5 K_Sum hr (by decide) rfl (aa (pv 0) (aa (pv 1) (aa (pv 2) (aa (pv 3) (aa (pv 4) ab)))))))) aq)
   (ac (aC (av (bC hu) (pv 5) ax (ay _)) (ae (am (d5 vV hr (by decide) rfl (aa (pv 0) (aa (pv 1) (aa (pv 2) (aa (pv 3) (aa (pv 4) ab)))))))) aq)
   (ac (aC (av (bC hu) (pv 5) ax (ay _)) (ae (am (d5 wL hr (by decide) rfl (aa (pv 0) (aa (pv 1) (aa (pv 2) (aa (pv 3) (aa (pv 4) ab)))))))) aq)
   (ac (aC (av (bC hu) (pv 5) ax (ay _)) (ae (am (d5 wt hr (by decide) rfl (aa (pv 0) (aa (pv 1) (aa (pv 2) (aa (pv 3) (aa (pv 4) ab)))))))) aq)
   (ac (aC (av (bC hu) (pv 5) ax (ay _)) (ae (am (d5 vU hr (by decide) rfl (aa (pv 0) (aa (pv 1) (aa (pv 2) (aa (pv 3) (aa (pv 4) ab)))))))) aq)
   (ac (aC (av (bC hu) (pv 5) ax (ay _)) (ae (am (d5 ve hr (by decide) rfl (aa (pv 0) (aa (pv 1) (aa (pv 2) (aa (pv 3) (aa (pv 4) ab)))))))) aq)
   (ac (aC (av (bC hu) (pv 5) ax (ay _)) (ae (am (d5 wK hr (by decide) rfl (aa (pv 0) (aa (pv 1) (aa (pv 2) (aa (pv 3) (aa (pv 4) ab)))))))) aq)
   (ae aH))))))))))
abbrev ej:Stmt:=top 52
theorem sc_checked_clues:ap ["floor","clues"] ["floor","clues"] (ai ej):=⟨rfl,rfl,rfl,by decide+kernel,rfl,by decide+kernel,by decide+kernel⟩
set_option maxHeartbeats 4000000 in
theorem jP {P:Program} {w:World} {K:PySem.W.Frag} {mg:Str→Option Value} {base:Heap} (B:Bt2 mg) (uO:Cal P w K mg base 2 "is_filling" ["floor","filling","least"] (bS K)) {f:Addr} {fd:FuncData} (F:Fun K "checked_clues" "checked_clues" ej f fd):FnOk P w K mg base CX0 3 f fd ["floor","clues"] (bm K):=by
 refine F.ok sc_checked_clues (fun vs H Q E h=>jI h) (fun cdv A outer s H vs Q E hr h=>?_)
 have hu:=hr.units
 have nd:=sc_checked_clues.nd
 refine ⟨cf K,?_,jJ h⟩
 exact (ac (aC (bB (bA (ao uO hr (by decide) rfl (aa (pv 0) (aa (pv 1) (aa af ab)))))) (ae aH) aq)
   (ae (am (aS gl rfl B.list_ dY (aa (pv 1) ab)))))
abbrev gb:Stmt:=top 58
theorem sc_show_puzzle:ap ["puzzle","floor","rules"] ["puzzle"] (ai gb):=⟨rfl,rfl,rfl,by decide+kernel,rfl,by decide+kernel,by decide+kernel⟩
set_option maxHeartbeats 4000000 in
theorem lq {P:Program} {w:World} {K:PySem.W.Frag} {mg:Str→Option Value} {base:Heap} (B:Bt2 mg) {c:RCl RK} {d:RCl PzK} (up:Cal P w K mg base 2 "show_filling" ["floor","filling"] (bv K)) (uq:Cal P w K mg base 1 "show_numbers" ["numbers"] (bx K)) {t_BETWEEN_PARTS:Tok} (sM:mg "BETWEEN_PARTS"=some (.str (tx [32,124,32]) t_BETWEEN_PARTS)) {t_BETWEEN_ROWS:Tok} (sN:mg "BETWEEN_ROWS"=some (.str (tx [59,32]) t_BETWEEN_ROWS)) (sU:MCal P w K mg base d d.ok 1 "clues" ["self"] (cg K c d)) (sO:MCal P w K mg base d d.ok 2 "lines" ["self"] (bN K c d)) (ur:MCal P w K mg base d d.ok 1 "place" ["self"] (dQ K c d)) {f:Addr} {fd:FuncData} (F:Fun K "show_puzzle" "show_puzzle" gb f fd):FnOk P w K mg base CX0 3 f fd ["puzzle"] (aZ K c d):=by
 refine F.ok sc_show_puzzle (fun vs H Q E h=>la h) (fun cdv A outer s H vs Q E hr h=>?_)
 have hu:=hr.units
 have nd:=sc_show_puzzle.nd
 refine ⟨c9 K c d,?_,lb h⟩
 exact (ac (au (i:=1) nd rfl (Or.inl rfl) (aY ur hr (by decide) (pv 0)))
   (ac (au (i:=2) nd rfl (Or.inl rfl) (bp PySem.F.plainAttrs_str PySem.F.slot_str_join PySem.F.type_str_join cW (aV rfl sN ⟨t_BETWEEN_ROWS,rfl⟩) (aa (aY sO hr (by decide) (pv 0)) ab)))
   (ae (am (bp PySem.F.plainAttrs_str PySem.F.slot_str_join PySem.F.type_str_join cW (aV rfl sM ⟨t_BETWEEN_PARTS,rfl⟩) (aa (cj (aa (ao uq hr (by decide) rfl (aa (pv 1) ab)) (aa (pv 2) (aa (ao up hr (by decide) rfl (aa (pv 1) (aa (aY sU hr (by decide) (pv 0)) ab))) ab)))) ab))))))
abbrev g3:Stmt:=top 67
theorem sc__law_rule:ap ["_law_script","_law_at","_law_floor_here","_law_cell","_law_many","_law_size","_law_cells_here","_law_sign","_law_number","_law_words"] ["_law_script","_law_at","_law_floor_here"] (ai g3):=⟨rfl,rfl,rfl,by decide+kernel,rfl,by decide+kernel,by decide+kernel⟩
set_option maxHeartbeats 4000000 in
theorem m9 {P:Program} {w:World} {K:PySem.W.Frag} {mg:Str→Option Value} {base:Heap} (B:Bt2 mg) (sE:Cal P w K mg base 1 "_law_cell_at" ["_law_script","_law_k"] (aG K)) (uP:Cal P w K mg base 2 "_law_cells" ["_law_script","_law_at","_law_many","_law_size"] (bu K)) {f:Addr} {fd:FuncData} (F:Fun K "_law_rule" "_law_rule" g3 f fd):FnOk P w K mg base CX0 3 f fd ["_law_script","_law_at","_law_floor_here"] (bJ K):=by
 refine F.ok sc__law_rule (fun vs H Q E h=>le h) (fun cdv A outer s H vs Q E hr h=>?_)
 have hu:=hr.units
 have nd:=sc__law_rule.nd
 refine ⟨db K,?_,lf h⟩
 exact (ac (au (i:=3) nd rfl (Or.inl rfl) (ao sE hr (by decide) rfl (aa (pv 0) (aa (pv 1) ab))))
   (ac (au (i:=4) nd rfl (Or.inl rfl) (aj be (aD (aL hu) (pv 2) af (fun _ _=>rfl)) (aD (aL hu) (pv 2) af (fun _ _=>rfl))))
   (ac (au (i:=5) nd rfl (Or.inl rfl) (aj ar af (aj bi (aj eu (pv 3) af) (pv 4))))
   (ac (au (i:=6) nd rfl (Or.inl rfl) (bp PySem.F.plainAttrs_str PySem.F.slot_str_join PySem.F.type_str_join cW ax (aa (cZ (ix:=[none,none]) [".0","_law_one"] (bP rfl (by decide+kernel) rfl rfl rfl) rfl (cY (ao uP hr (by decide) rfl (aa (pv 0) (aa (aj ar (pv 1) af) (aa (pv 4) (aa (pv 5) ab)))))) (fun cl s H fp=>(aW (i:=1) (show ([".0","_law_one"]:List Str).Nodup by decide+kernel) rfl (Or.inl rfl))) (fun cl s H fp=>bO) (fun cl s H fp=>(aS cV rfl B.str_ cU (aa (pv 1) ab)))) ab)))
   (ac (au (i:=7) nd rfl (Or.inl rfl) (aS cV rfl B.str_ cU (aa (aj ar af (aj bi (aj eu (pv 3) af) (aD (aL hu) (pv 2) af (fun _ _=>rfl)))) ab)))
   (ac (au (i:=8) nd rfl (Or.inl rfl) (aS cV rfl B.str_ cU (aa (aj bi (aj eu (pv 3) af) af) ab)))
   (ac (au (i:=9) nd rfl (Or.inl rfl) (cj (aa (aj ar ax (pv 6)) (aa (aj ar (aj ar (aj ar ax (pv 8)) ax) (pv 6)) (aa (aj ar ax (pv 6)) (aa (aj ar (aj ar (aj ar ax (pv 8)) ax) (pv 6)) ab))))))
   (ac (au (i:=9) nd rfl (Or.inl rfl) (aj ar (pv 9) (cj (aa (aj ar (aj ar (aj ar (aj ar (aj ar ax (pv 8)) ax) (pv 7)) ax) (pv 6)) (aa (aj ar ax (pv 7)) (aa (aj ar ax (pv 7)) (aa (aj ar ax (pv 7)) ab)))))))
   (ae (am (aD (aL hu) (pv 9) (aj bi (pv 3) af) (fun _ _=>rfl))))))))))))
abbrev iA:Stmt:=top 44
theorem sc_cells_of:ap ["floor","name","words"] ["floor","name","words"] (ai iA):=⟨rfl,rfl,rfl,by decide+kernel,rfl,by decide+kernel,by decide+kernel⟩
set_option maxHeartbeats 4000000 in
theorem nH {P:Program} {w:World} {K:PySem.W.Frag} {mg:Str→Option Value} {base:Heap} (B:Bt2 mg) (sF:Cal P w K mg base 1 "many_cells" ["floor"] (aK K)) (uQ:Cal P w K mg base 3 "told_cells" ["floor","words"] (bQ K)) (G_OF_ALL_CELLS:GTup K mg "OF_ALL_CELLS" cC) {f:Addr} {fd:FuncData} (F:Fun K "cells_of" "cells_of" iA f fd):FnOk P w K mg base CX0 4 f fd ["floor","name","words"] (cy K):=by
 refine F.ok sc_cells_of (fun vs H Q E h=>nl h) (fun cdv A outer s H vs Q E hr h=>?_)
 have hu:=hr.units
 have nd:=sc_cells_of.nd
 refine ⟨fM K,?_,no h⟩
 exact (ac (aC (qS G_OF_ALL_CELLS (pv 1) rfl) (ae (am (ao uQ hr (by decide) rfl (aa (pv 0) (aa (pv 2) ab))))) aq)
   (ac (aC (av (cm hu) (pv 2) (cj ab) (ay _)) (ae aH) aq)
   (ae (am (jt rfl rfl rfl B.list_ B.range_ (aa (ao sF hr (by decide) rfl (aa (pv 0) ab)) ab))))))
abbrev em:Stmt:=top 49
theorem sc_checked_floor:ap ["floor"] ["floor"] (ai em):=⟨rfl,rfl,rfl,by decide+kernel,rfl,by decide+kernel,by decide+kernel⟩
set_option maxHeartbeats 4000000 in
theorem jQ {P:Program} {w:World} {K:PySem.W.Frag} {mg:Str→Option Value} {base:Heap} (B:Bt2 mg) (tz:Cal P w K mg base 3 "floor_of" ["high","wide","signs"] (bG K)) {f:Addr} {fd:FuncData} (F:Fun K "checked_floor" "checked_floor" em f fd):FnOk P w K mg base CX0 4 f fd ["floor"] (bj K):=by
 refine F.ok sc_checked_floor (fun vs H Q E h=>jG h) (fun cdv A outer s H vs Q E hr h=>?_)
 have hu:=hr.units
 have nd:=sc_checked_floor.nd
 refine ⟨ce K,?_,jH h⟩
 exact (ac (aC (PW.pt (d3 (bB (bA (aB bq rfl B.isinstance_ aJ (aa (pv 0) (aa (b5 (v:=.ty "tuple") rfl B.tuple_ il rfl) ab))))) (fS (av (cm hu) (aB bD rfl B.len_ bU (aa (pv 0) ab)) af (ay _))))) (ae aH) aq)
   (ae (am (ao tz hr (by decide) rfl (aa (aD (aL hu) (pv 0) af (fun _ _=>rfl)) (aa (aD (aL hu) (pv 0) af (fun _ _=>rfl)) (aa (aD (aL hu) (pv 0) af (fun _ _=>rfl)) ab)))))))
abbrev gJ:Stmt:=top 61
theorem sc_read_floor:ap ["text","numbers"] ["text"] (ai gJ):=⟨rfl,rfl,rfl,by decide+kernel,rfl,by decide+kernel,by decide+kernel⟩
set_option maxHeartbeats 4000000 in
theorem l9 {P:Program} {w:World} {K:PySem.W.Frag} {mg:Str→Option Value} {base:Heap} (B:Bt2 mg) (tz:Cal P w K mg base 3 "floor_of" ["high","wide","signs"] (bG K)) (ut:Cal P w K mg base 2 "read_numbers" ["words"] (bz K)) {f:Addr} {fd:FuncData} (F:Fun K "read_floor" "read_floor" gJ f fd):FnOk P w K mg base CX0 4 f fd ["text"] (bT K):=by
 refine F.ok sc_read_floor (fun vs H Q E h=>l0 h) (fun cdv A outer s H vs Q E hr h=>?_)
 have hu:=hr.units
 have nd:=sc_read_floor.nd
 refine ⟨dO K,?_,l3 h⟩
 exact (ac (au (i:=1) nd rfl (Or.inl rfl) (ao ut hr (by decide) rfl (aa (bp PySem.F.plainAttrs_str PySem.F.slot_str_split PySem.F.type_str_split fW (pv 0) (aa ax ab)) ab)))
   (ac (aC (av (cm hu) (aB bD rfl B.len_ bU (aa (pv 1) ab)) af (ay _)) (ae aH) aq)
   (ae (am (ao tz hr (by decide) rfl (aa (aD (aL hu) (pv 1) af (fun _ _=>rfl)) (aa (aD (aL hu) (pv 1) af (fun _ _=>rfl)) (aa (aD (aL hu) (pv 1) af (fun _ _=>rfl)) ab))))))))
abbrev g4:Stmt:=top 69
theorem sc__law_told:ap ["_law_puzzle","_law_floor_here","_law_lines","_law_clues"] ["_law_puzzle","_law_floor_here","_law_lines","_law_clues"] (ai g4):=⟨rfl,rfl,rfl,by decide+kernel,rfl,by decide+kernel,by decide+kernel⟩
set_option maxHeartbeats 4000000 in
theorem nb {P:Program} {w:World} {K:PySem.W.Frag} {mg:Str→Option Value} {base:Heap} (B:Bt2 mg) {c:RCl RK} {d:RCl PzK} (sV:Cal P w K mg base 1 "_law_text" ["_law_floor_here","_law_lines","_law_clues"] (a7 K)) (sQ:Cal P w K mg base 3 "show_puzzle" ["puzzle"] (aZ K c d)) (sU:MCal P w K mg base d d.ok 1 "clues" ["self"] (cg K c d)) (sO:MCal P w K mg base d d.ok 2 "lines" ["self"] (bN K c d)) (ur:MCal P w K mg base d d.ok 1 "place" ["self"] (dQ K c d)) (IS_Puzzle:GIs K mg "Puzzle" (d.A .Puzzle)) {f:Addr} {fd:FuncData} (F:Fun K "_law_told" "_law_told" g4 f fd):FnOk P w K mg base CX0 4 f fd ["_law_puzzle","_law_floor_here","_law_lines","_law_clues"] (a8 K c d):=by
 refine F.ok sc__law_told (fun vs H Q E h=>li h) (fun cdv A outer s H vs Q E hr h=>?_)
 have hu:=hr.units
 have nd:=sc__law_told.nd
 refine ⟨de K c d,?_,lj h⟩
 exact (ac (aC (PW.pt (d3 (bB (bA (aB (px IS_Puzzle.is_) rfl B.isinstance_ aJ (aa (pv 0) (aa (aV rfl IS_Puzzle.at_ rfl) ab))))) (d3 (bB (bA (aB bq rfl B.isinstance_ aJ (aa (aY ur hr (by decide) (pv 0)) (aa (b5 (v:=.ty "tuple") rfl B.tuple_ il rfl) ab))))) (fS (av (cm hu) (aY ur hr (by decide) (pv 0)) (pv 1) (ay _)))))) (ae (am jR)) aq)
   (ac (aC (PW.pt (d3 (bB (bA (aB bq rfl B.isinstance_ aJ (aa (aY sO hr (by decide) (pv 0)) (aa (b5 (v:=.ty "list") rfl B.list_ dY rfl) ab))))) (fS (bB (bA (aB bq rfl B.isinstance_ aJ (aa (aY sU hr (by decide) (pv 0)) (aa (b5 (v:=.ty "list") rfl B.list_ dY rfl) ab)))))))) (ae (am jR)) aq)
   (ae (am (fT (dW (bC hu) (aY sO hr (by decide) (pv 0)) (pv 2) (ay _)) (fT (dW (bC hu) (aY sU hr (by decide) (pv 0)) (pv 3) (ay _)) (iB (dW (bC hu) (ao sQ hr (by decide) rfl (aa (pv 0) ab)) (ao sV hr (by decide) rfl (aa (pv 1) (aa (pv 2) (aa (pv 3) ab)))) (ay _)))))))))
abbrev g5:Stmt:=top 46
theorem sc_read_rule:ap ["floor","line","words","name","rest","amount","mark"] ["floor","line"] (ai g5):=⟨rfl,rfl,rfl,by decide+kernel,rfl,by decide+kernel,by decide+kernel⟩
set_option maxHeartbeats 4000000 in
theorem nc {P:Program} {w:World} {K:PySem.W.Frag} {mg:Str→Option Value} {base:Heap} (B:Bt2 mg) {c:RCl RK} (vf:Cal P w K mg base 4 "cells_of" ["floor","name","words"] (cy K)) (tD:Cal P w K mg base 3 "first_within" ["words","least","most"] (aT K)) (vM:Cal P w K mg base 3 "rule_by" ["floor","words","cells","amount","mark"] (c7 K c)) {t_MOST_NUMBER:Tok} (uE:mg "MOST_NUMBER"=some (.int 99 t_MOST_NUMBER)) (G_WITH_NUMBER:GTup K mg "WITH_NUMBER" c6) (G_WITH_SIGN:GTup K mg "WITH_SIGN" cX) {f:Addr} {fd:FuncData} (F:Fun K "read_rule" "read_rule" g5 f fd):FnOk P w K mg base CX0 5 f fd ["floor","line"] (b8 K c):=by
 refine F.ok sc_read_rule (fun vs H Q E h=>mW h) (fun cdv A outer s H vs Q E hr h=>?_)
 have hu:=hr.units
 have nd:=sc_read_rule.nd
 refine ⟨ed K c,?_,mX h⟩
 exact (ac (aC (bB (bA (aB bq rfl B.isinstance_ aJ (aa (pv 1) (aa (b5 (v:=.ty "str") rfl B.str_ cU rfl) ab))))) (ae aH) aq)
   (ac (au (i:=2) nd rfl (Or.inl rfl) (bp PySem.F.plainAttrs_str PySem.F.slot_str_split PySem.F.type_str_split fW (pv 1) (aa ax ab)))
   (ac (au (i:=3) nd rfl (Or.inl rfl) (aD (aL hu) (pv 2) af (fun _ _=>rfl)))
   (ac (au (i:=4) nd rfl (Or.inl rfl) (gx jZ (pv 2) (eo af) kS))
   (ac (au (i:=5) nd rfl (Or.inl rfl) af)
   (ac (au (i:=6) nd rfl (Or.inl rfl) af)
   (ac (aC (pi G_WITH_NUMBER (pv 3) rfl) (ac (au (i:=5) nd rfl (Or.inl rfl) (ao tD hr (by decide) rfl (aa (pv 4) (aa af (aa (aV rfl uE ⟨t_MOST_NUMBER,rfl⟩) ab)))))
   (ae (au (i:=4) nd rfl (Or.inl rfl) (gx jZ (pv 4) (eo af) kS)))) aq)
   (ac (aC (pi G_WITH_SIGN (pv 3) rfl) (ac (au (i:=6) nd rfl (Or.inl rfl) (ao tD hr (by decide) rfl (aa (pv 4) (aa af (aa (aD (aL hu) (pv 0) af (fun _ _=>rfl)) ab)))))
   (ae (au (i:=4) nd rfl (Or.inl rfl) (gx jZ (pv 4) (eo af) kS)))) aq)
   (ae (am (ao vM hr (by decide) rfl (aa (pv 0) (aa (pv 2) (aa (ao vf hr (by decide) rfl (aa (pv 0) (aa (pv 3) (aa (pv 4) ab)))) (aa (pv 5) (aa (pv 6) ab))))))))))))))))
abbrev gK:Stmt:=top 50
theorem sc_read_rules:ap ["floor","lines"] ["floor","lines"] (ai gK):=⟨rfl,rfl,rfl,by decide+kernel,rfl,by decide+kernel,by decide+kernel⟩
set_option maxHeartbeats 4000000 in
theorem ma {P:Program} {w:World} {K:PySem.W.Frag} {mg:Str→Option Value} {base:Heap} (B:Bt2 mg) {c:RCl RK} (va:Cal P w K mg base 5 "read_rule" ["floor","line"] (b8 K c)) {t_MOST_RULES:Tok} (uR:mg "MOST_RULES"=some (.int 12 t_MOST_RULES)) {f:Addr} {fd:FuncData} (F:Fun K "read_rules" "read_rules" gK f fd):FnOk P w K mg base CX0 6 f fd ["floor","lines"] (bR K c):=by
 refine F.ok sc_read_rules (fun vs H Q E h=>lW h) (fun cdv A outer s H vs Q E hr h=>?_)
 have hu:=hr.units
 have nd:=sc_read_rules.nd
 refine ⟨dM K c,?_,lX h⟩
 exact (ac (aC (av iK (aB bD rfl B.len_ bU (aa (pv 1) ab)) (aV rfl uR ⟨t_MOST_RULES,rfl⟩) (ay _)) (ae aH) aq)
   (ae (am (cZ (ix:=[none,none,some 0]) [".0","line","floor"] (bP rfl (by decide+kernel) rfl rfl rfl) rfl (cY (pv 1)) (fun cl s H fp=>(aW (i:=1) (show ([".0","line","floor"]:List Str).Nodup by decide+kernel) rfl (Or.inl rfl))) (fun cl s H fp=>bO) (fun cl s H fp=>(ao va hr (by decide) rfl (aa (pv 2) (aa (pv 1) ab))))))))
abbrev dk:Stmt:=mtop 53 0
theorem sc_Puzzle___init__:ap ["self","floor","lines","clues"] ["self","floor","lines","clues"] (ai dk):=⟨rfl,rfl,rfl,by decide+kernel,rfl,by decide+kernel,by decide+kernel⟩
set_option maxHeartbeats 4000000 in
theorem i3 {P:Program} {w:World} {K:PySem.W.Frag} {mg:Str→Option Value} {base:Heap} (B:Bt2 mg) {c:RCl RK} {d:RCl PzK} (t6:Cal P w K mg base 3 "checked_clues" ["floor","clues"] (bm K)) (t7:Cal P w K mg base 4 "checked_floor" ["floor"] (bj K)) (uS:Cal P w K mg base 6 "read_rules" ["floor","lines"] (bR K c)) (FK_d_floor:FldK K d "floor") (FK_d_given:FldK K d "given") (FK_d_laws:FldK K d "laws") {f:Addr} {fd:FuncData} (F:Fun K "__init__" "Puzzle.__init__" dk f fd):FnOk P w K mg base CX0 7 f fd ["self","floor","lines","clues"] (aA K c d):=by
 refine F.ok sc_Puzzle___init__ (fun vs H Q E h=>iT h) (fun cdv A outer s H vs Q E hr h=>?_)
 have hu:=hr.units
 have nd:=sc_Puzzle___init__.nd
 refine ⟨bW K c d,?_,iU h⟩
 exact (ac (d2 (pv 0) (ao t7 hr (by decide) rfl (aa (pv 1) ab)) FK_d_floor)
   (ac (d2 (pv 0) (ao uS hr (by decide) rfl (aa (eT (pv 0) FK_d_floor) (aa (pv 2) ab))) FK_d_laws)
   (ae (d2 (pv 0) (ao t6 hr (by decide) rfl (aa (eT (pv 0) FK_d_floor) (aa (pv 3) ab))) FK_d_given))))
abbrev ff:Stmt:=mtop 53 7
theorem sc_Puzzle_clued:ap ["self","clues"] ["self","clues"] (ai ff):=⟨rfl,rfl,rfl,by decide+kernel,rfl,by decide+kernel,by decide+kernel⟩
set_option maxHeartbeats 4000000 in
theorem kQ {P:Program} {w:World} {K:PySem.W.Frag} {mg:Str→Option Value} {base:Heap} (B:Bt2 mg) {c:RCl RK} {d:RCl PzK} (FK_d_floor:FldK K d "floor") (sO:MCal P w K mg base d d.ok 2 "lines" ["self"] (bN K c d)) (sR:KCal P w K mg base 7 "Puzzle" (d.A .Puzzle) ["self","floor","lines","clues"] (aA K c d)) {f:Addr} {fd:FuncData} (F:Fun K "clued" "Puzzle.clued" ff f fd):FnOk P w K mg base CX0 9 f fd ["self","clues"] (cL K c d):=by
 refine F.ok sc_Puzzle_clued (fun vs H Q E h=>kl h) (fun cdv A outer s H vs Q E hr h=>?_)
 have hu:=hr.units
 have nd:=sc_Puzzle_clued.nd
 refine ⟨cM K c d,?_,km h⟩
 exact (ae (am (d5 sR hr (by decide) rfl (aa (eT (pv 0) FK_d_floor) (aa (aY sO hr (by decide) (pv 0)) (aa (pv 1) ab))))))
abbrev gc:Stmt:=top 62
theorem sc_read_puzzle:ap ["text","parts","floor","lines","bare"] ["text"] (ai gc):=⟨rfl,rfl,rfl,by decide+kernel,rfl,by decide+kernel,by decide+kernel⟩
set_option maxHeartbeats 4000000 in
theorem lr {P:Program} {w:World} {K:PySem.W.Frag} {mg:Str→Option Value} {base:Heap} (B:Bt2 mg) {c:RCl RK} {d:RCl PzK} (sF:Cal P w K mg base 1 "many_cells" ["floor"] (aK K)) (uu:Cal P w K mg base 3 "read_filling" ["floor","text"] (bw K)) (uT:Cal P w K mg base 4 "read_floor" ["text"] (bT K)) (tS:Cal P w K mg base 1 "refuse_no_text" ["text"] (bh K)) {t_BETWEEN_PARTS:Tok} (sM:mg "BETWEEN_PARTS"=some (.str (tx [32,124,32]) t_BETWEEN_PARTS)) {t_BETWEEN_ROWS:Tok} (sN:mg "BETWEEN_ROWS"=some (.str (tx [59,32]) t_BETWEEN_ROWS)) (wu:MCal P w K mg base d d.ok 9 "clued" ["self","clues"] (ir K c d)) (sR:KCal P w K mg base 7 "Puzzle" (d.A .Puzzle) ["self","floor","lines","clues"] (aA K c d)) {f:Addr} {fd:FuncData} (F:Fun K "read_puzzle" "read_puzzle" gc f fd):FnOk P w K mg base CX0 10 f fd ["text"] (bn K c d):=by
 refine F.ok sc_read_puzzle (fun vs H Q E h=>lc h) (fun cdv A outer s H vs Q E hr h=>?_)
 have hu:=hr.units
 have nd:=sc_read_puzzle.nd
 refine ⟨da K c d,?_,ld h⟩
 exact (ac (en (ao tS hr (by decide) rfl (aa (pv 0) ab)))
   (ac (au (i:=1) nd rfl (Or.inl rfl) (bp PySem.F.plainAttrs_str PySem.F.slot_str_split PySem.F.type_str_split fW (pv 0) (aa (aV rfl sM ⟨t_BETWEEN_PARTS,rfl⟩) ab)))
   (ac (aC (av (cm hu) (aB bD rfl B.len_ bU (aa (pv 1) ab)) af (ay _)) (ae aH) aq)
   (ac (au (i:=2) nd rfl (Or.inl rfl) (ao uT hr (by decide) rfl (aa (aD (aL hu) (pv 1) af (fun _ _=>rfl)) ab)))
   (ac (au (i:=3) nd rfl (Or.inl rfl) (pH (av (cm hu) (aD (aL hu) (pv 1) af (fun _ _=>rfl)) ax (ay _)) (bp PySem.F.plainAttrs_str PySem.F.slot_str_split PySem.F.type_str_split fW (aD (aL hu) (pv 1) af (fun _ _=>rfl)) (aa (aV rfl sN ⟨t_BETWEEN_ROWS,rfl⟩) ab)) (cj ab)))
   (ac (au (i:=4) nd rfl (Or.inl rfl) (d5 sR hr (by decide) rfl (aa (pv 2) (aa (pv 3) (aa (aj pT (cj (aa af ab)) (ao sF hr (by decide) rfl (aa (pv 2) ab))) ab)))))
   (ae (am (p5 wu hr (by decide) (pv 4) (aa (ao uu hr (by decide) rfl (aa (pv 2) (aa (aD (aL hu) (pv 1) af (fun _ _=>rfl)) ab))) ab))))))))))
abbrev jd:Stmt:=top 70
theorem sc_law:ap ["_law_script","_law_floor_here","_law_k","_law_lines","_law_clues","_law_cell","_law_text_here","_law_found"] ["_law_script"] (ai jd):=⟨rfl,rfl,rfl,by decide+kernel,rfl,by decide+kernel,by decide+kernel⟩
set_option maxHeartbeats 4000000 in
theorem rY {P:Program} {w:World} {K:PySem.W.Frag} {mg:Str→Option Value} {base:Heap} (B:Bt2 mg) {c:RCl RK} {d:RCl PzK} (sE:Cal P w K mg base 1 "_law_cell_at" ["_law_script","_law_k"] (aG K)) (uU:Cal P w K mg base 1 "_law_floor" ["_law_cell"] (bt K)) (vb:Cal P w K mg base 3 "_law_rule" ["_law_script","_law_at","_law_floor_here"] (bJ K)) (sV:Cal P w K mg base 1 "_law_text" ["_law_floor_here","_law_lines","_law_clues"] (a7 K)) (tQ:Cal P w K mg base 4 "_law_told" ["_law_puzzle","_law_floor_here","_law_lines","_law_clues"] (a8 K c d)) (tR:Cal P w K mg base 10 "read_puzzle" ["text"] (bn K c d)) (sQ:Cal P w K mg base 3 "show_puzzle" ["puzzle"] (aZ K c d)) (sU:MCal P w K mg base d d.ok 1 "clues" ["self"] (cg K c d)) (sO:MCal P w K mg base d d.ok 2 "lines" ["self"] (bN K c d)) (sR:KCal P w K mg base 7 "Puzzle" (d.A .Puzzle) ["self","floor","lines","clues"] (aA K c d)) {f:Addr} {fd:FuncData} (F:Fun K "law" "law" jd f fd):FnOk P w K mg base CX0 11 f fd ["_law_script"] (m5 K c d):=by
 refine F.ok sc_law (fun vs H Q E h=>rW h) (fun cdv A outer s H vs Q E hr h=>?_)
 have hu:=hr.units
 have nd:=sc_law.nd
 refine ⟨kG K c d,?_,rX h⟩
 exact (ac (au (i:=1) nd rfl (Or.inr rfl) (ao uU hr (by decide) rfl (aa (ao sE hr (by decide) rfl (aa (pv 0) (aa af ab))) ab)))
   (ac (kU (k:=3) nd rfl (Or.inl rfl) rfl (ix:=[none,none,some 1,some 0]) [".0","_law_k","_law_floor_here","_law_script"] (bP rfl (by decide+kernel) rfl rfl rfl) rfl (fU rfl B.range_ (aa (aj bi (ao sE hr (by decide) rfl (aa (pv 0) (aa af ab))) af) ab)) (fun cl s H fp=>(aW (i:=1) (show ([".0","_law_k","_law_floor_here","_law_script"]:List Str).Nodup by decide+kernel) rfl (Or.inl rfl))) (fun cl s H fp=>bO) (fun cl s H fp=>(ao vb hr (by decide) rfl (aa (pv 3) (aa (aj ar af (aj be af (pv 1))) (aa (pv 2) ab))))))
   (ac (au (i:=4) nd rfl (Or.inl rfl) (cj ab))
   (ac (iD PassesOwn.never rfl (fU rfl B.range_ (aa (aj be (aD (aL hu) (pv 1) af (fun _ _=>rfl)) (aD (aL hu) (pv 1) af (fun _ _=>rfl))) ab)) (aW (i:=2) nd rfl (Or.inl rfl))
   (ac (au (i:=5) nd rfl (Or.inl rfl) (ao sE hr (by decide) rfl (aa (pv 0) (aa (aj ar af (pv 2)) ab))))
   (ae (en (bp PySem.F.plainAttrs_list PySem.F.slot_list_append PySem.F.type_list_append gm (pv 4) (aa (aj be (aj bi (aj eu (pv 5) af) (aj ar (aD (aL hu) (pv 1) af (fun _ _=>rfl)) af)) (aj bi (pv 5) af)) ab))))))
   (ac (au (i:=6) nd rfl (Or.inl rfl) (ao sQ hr (by decide) rfl (aa (d5 sR hr (by decide) rfl (aa (pv 1) (aa (aS gl rfl B.list_ dY (aa (pv 3) ab)) (aa (aS gl rfl B.list_ dY (aa (pv 4) ab)) ab)))) ab)))
   (ac (aC (PW.pt (d3 (bB (bA (aB bq rfl B.isinstance_ aJ (aa (pv 6) (aa (b5 (v:=.ty "str") rfl B.str_ cU rfl) ab))))) (fS (av (cm hu) (pv 6) (ao sV hr (by decide) rfl (aa (pv 1) (aa (pv 3) (aa (pv 4) ab)))) (ay _))))) (ae (am jR)) aq)
   (ac (au (i:=7) nd rfl (Or.inl rfl) (ao tR hr (by decide) rfl (aa (pv 6) ab)))
   (ac (aC (bB (bA (ao tQ hr (by decide) rfl (aa (pv 7) (aa (pv 1) (aa (pv 3) (aa (pv 4) ab))))))) (ae (am jR)) aq)
   (ac (en (bp PySem.F.plainAttrs_list PySem.F.slot_list_append PySem.F.type_list_append gm (aY sO hr (by decide) (pv 7)) (aa ax ab)))
   (ac (en (rm PySem.F.plainAttrs_list PySem.F.slot_list_clear PySem.F.type_list_clear oZ (aY sU hr (by decide) (pv 7))))
   (ae (am (fT (ao tQ hr (by decide) rfl (aa (pv 7) (aa (pv 1) (aa (pv 3) (aa (pv 4) ab))))) (iB (ao tQ hr (by decide) rfl (aa (ao tR hr (by decide) rfl (aa (pv 6) ab)) (aa (pv 1) (aa (pv 3) (aa (pv 4) ab)))))))))))))))))))
def mkC (sy sK sC sH sG sD sx sI:Addr):RCl RK:=⟨fun k=>match k with | .Rule=>sy | .Unlike=>sy | .Sum=>sK | .Rising=>sC | .Seen=>sH | .Count=>sG | .Joined=>sD | .NoSquare=>sx | .Ring=>sI,fun k=>match k with | .Rule=>false | _=>true⟩
def mkD (sw:Addr):RCl PzK:=⟨fun _=>sw,fun _=>true⟩
set_option maxHeartbeats 40000000 in
theorem rZ {l:PySem.W.OpenLaw} {w:World} {K:PySem.W.Frag} {h:Heap} {mg:Str→Option Value} {fa:Addr} (X:K.In h) (G:h.Ns mainGlobals mg) (hfa:mg "law"=some (.ref fa))
  {f0 f1 f2 f3 f4 f5 f6 f7 f8 f9 f10 f11 f12 f13 f14 f15 f16 f17 f18 f19 f20 f21 f22 f23 f24 f25 f26 f27 f28 f29 f30 f31 f32 f33 f34 f35 f36 f37 f38 f39:Addr} {fd0 fd1 fd2 fd3 fd4 fd5 fd6 fd7 fd8 fd9 fd10 fd11 fd12 fd13 fd14 fd15 fd16 fd17 fd18 fd19 fd20 fd21 fd22 fd23 fd24 fd25 fd26 fd27 fd28 fd29 fd30 fd31 fd32 fd33 fd34 fd35 fd36 fd37 fd38 fd39:FuncData} {sy sK sC sH sG sD sx sI sw:Addr} {t8:Addr} {wm:Option Addr} {wn:Nat} {wo:Array (Option Value)} {wp wq wr:Tok} {uv:Addr} {wv:Option Addr} {ww:Nat} {wx:Array (Option Value)} {wy wz wA:Tok} {uV:Addr} {wM:Option Addr} {wN:Nat} {wO:Array (Option Value)} {wP wQ wR wS:Tok} {tk_BETWEEN_PARTS:Tok} {tk_BETWEEN_ROWS:Tok} {tk_FIGURES_fillings:Tok} {tk_FIGURES_rows:Tok} {tk_MOST_CELLS:Tok} {tk_MOST_FIGURES:Tok} {tk_MOST_NUMBER:Tok} {tk_MOST_RULES:Tok} {tk_MOST_SIDE:Tok} {tk_MOST_SIGNS:Tok}
  (vX:PySem.W.nsIn K mainGlobals "Unlike"=some (some (.ref sy))) (q_Sum:PySem.W.nsIn K mainGlobals "Sum"=some (some (.ref sK))) (vY:PySem.W.nsIn K mainGlobals "Rising"=some (some (.ref sC))) (wT:PySem.W.nsIn K mainGlobals "Seen"=some (some (.ref sH))) (wB:PySem.W.nsIn K mainGlobals "Count"=some (some (.ref sG))) (vZ:PySem.W.nsIn K mainGlobals "Joined"=some (some (.ref sD))) (vg:PySem.W.nsIn K mainGlobals "NoSquare"=some (some (.ref sx))) (wU:PySem.W.nsIn K mainGlobals "Ring"=some (some (.ref sI))) (vh:PySem.W.nsIn K mainGlobals "Puzzle"=some (some (.ref sw))) (a0:PySem.W.nsIn K mainGlobals "is_whole"=some (some (.ref f0))) (a1:PySem.W.nsIn K mainGlobals "many_cells"=some (some (.ref f1))) (a2:PySem.W.nsIn K mainGlobals "show_row"=some (some (.ref f2))) (a3:PySem.W.nsIn K mainGlobals "read_figure"=some (some (.ref f3))) (vi:PySem.W.findIn K (.ref sy) "__init__"=some (some (.ref f4))) (wC:PySem.W.findIn K (.ref sK) "__init__"=some (some (.ref f4))) (vj:PySem.W.findIn K (.ref sC) "__init__"=some (some (.ref f4))) (v3:PySem.W.findIn K (.ref sH) "__init__"=some (some (.ref f4))) (vN:PySem.W.findIn K (.ref sG) "__init__"=some (some (.ref f4))) (vk:PySem.W.findIn K (.ref sD) "__init__"=some (some (.ref f4))) (uW:PySem.W.findIn K (.ref sx) "__init__"=some (some (.ref f4))) (v7:PySem.W.findIn K (.ref sI) "__init__"=some (some (.ref f4))) (a5_Unlike:PySem.W.findIn K (.ref sy) "line"=some (some (.ref f5))) (a5_Sum:PySem.W.findIn K (.ref sK) "line"=some (some (.ref f5))) (a5_Rising:PySem.W.findIn K (.ref sC) "line"=some (some (.ref f5))) (a5_Seen:PySem.W.findIn K (.ref sH) "line"=some (some (.ref f5))) (a5_Count:PySem.W.findIn K (.ref sG) "line"=some (some (.ref f5))) (a5_Joined:PySem.W.findIn K (.ref sD) "line"=some (some (.ref f5))) (a5_NoSquare:PySem.W.findIn K (.ref sx) "line"=some (some (.ref f5))) (a5_Ring:PySem.W.findIn K (.ref sI) "line"=some (some (.ref f5))) (a6:PySem.W.nsIn K mainGlobals "number_in"=some (some (.ref f6))) (a7_Puzzle:PySem.W.findIn K (.ref sw) "place"=some (some (.ref f7))) (a8_Puzzle:PySem.W.findIn K (.ref sw) "clues"=some (some (.ref f8))) (a9:PySem.W.nsIn K mainGlobals "show_numbers"=some (some (.ref f9))) (a10:PySem.W.nsIn K mainGlobals "refuse_no_text"=some (some (.ref f10))) (a11:PySem.W.nsIn K mainGlobals "_law_cell_at"=some (some (.ref f11))) (a12:PySem.W.nsIn K mainGlobals "_law_floor"=some (some (.ref f12))) (a13:PySem.W.nsIn K mainGlobals "_law_text"=some (some (.ref f13))) (a14:PySem.W.nsIn K mainGlobals "is_from_one_to"=some (some (.ref f14))) (a15:PySem.W.nsIn K mainGlobals "show_filling"=some (some (.ref f15))) (a16:PySem.W.nsIn K mainGlobals "read_row"=some (some (.ref f16))) (a17:PySem.W.nsIn K mainGlobals "number_within"=some (some (.ref f17))) (a18:PySem.W.nsIn K mainGlobals "is_filling"=some (some (.ref f18))) (a19_Puzzle:PySem.W.findIn K (.ref sw) "lines"=some (some (.ref f19))) (a20:PySem.W.nsIn K mainGlobals "read_numbers"=some (some (.ref f20))) (a21:PySem.W.nsIn K mainGlobals "_law_cells"=some (some (.ref f21))) (a22:PySem.W.nsIn K mainGlobals "floor_of"=some (some (.ref f22))) (a23:PySem.W.nsIn K mainGlobals "read_filling"=some (some (.ref f23))) (a24:PySem.W.nsIn K mainGlobals "first_within"=some (some (.ref f24))) (a25:PySem.W.nsIn K mainGlobals "told_cells"=some (some (.ref f25))) (a26:PySem.W.nsIn K mainGlobals "rule_by"=some (some (.ref f26))) (a27:PySem.W.nsIn K mainGlobals "checked_clues"=some (some (.ref f27))) (a28:PySem.W.nsIn K mainGlobals "show_puzzle"=some (some (.ref f28))) (a29:PySem.W.nsIn K mainGlobals "_law_rule"=some (some (.ref f29))) (a30:PySem.W.nsIn K mainGlobals "cells_of"=some (some (.ref f30))) (a31:PySem.W.nsIn K mainGlobals "checked_floor"=some (some (.ref f31))) (a32:PySem.W.nsIn K mainGlobals "read_floor"=some (some (.ref f32))) (a33:PySem.W.nsIn K mainGlobals "_law_told"=some (some (.ref f33))) (a34:PySem.W.nsIn K mainGlobals "read_rule"=some (some (.ref f34))) (a35:PySem.W.nsIn K mainGlobals "read_rules"=some (some (.ref f35))) (vm:PySem.W.findIn K (.ref sw) "__init__"=some (some (.ref f36))) (a37_Puzzle:PySem.W.findIn K (.ref sw) "clued"=some (some (.ref f37))) (a38:PySem.W.nsIn K mainGlobals "read_puzzle"=some (some (.ref f38))) (a39:PySem.W.nsIn K mainGlobals "law"=some (some (.ref f39))) (F0:Fun K "is_whole" "is_whole" iv f0 fd0) (F1:Fun K "many_cells" "many_cells" gE f1 fd1) (F2:Fun K "show_row" "show_row" iw f2 fd2) (F3:Fun K "read_figure" "read_figure" ga f3 fd3) (F4:Fun K "__init__" "Rule.__init__" eh f4 fd4) (fn4:PySem.W.isFn K (.ref f4)=true) (F5:Fun K "line" "Rule.line" gX f5 fd5) (fn5:PySem.W.isFn K (.ref f5)=true) (F6:Fun K "number_in" "number_in" gY f6 fd6) (F7:Fun K "place" "Puzzle.place" eY f7 fd7) (fn7:PySem.W.isFn K (.ref f7)=true) (F8:Fun K "clues" "Puzzle.clues" e5 f8 fd8) (fn8:PySem.W.isFn K (.ref f8)=true) (F9:Fun K "show_numbers" "show_numbers" e6 f9 fd9) (F10:Fun K "refuse_no_text" "refuse_no_text" dS f10 fd10) (F11:Fun K "_law_cell_at" "_law_cell_at" e7 f11 fd11) (F12:Fun K "_law_floor" "_law_floor" gF f12 fd12) (F13:Fun K "_law_text" "_law_text" gZ f13 fd13) (F14:Fun K "is_from_one_to" "is_from_one_to" dU f14 fd14) (F15:Fun K "show_filling" "show_filling" e8 f15 fd15) (F16:Fun K "read_row" "read_row" iy f16 fd16) (F17:Fun K "number_within" "number_within" ei f17 fd17) (F18:Fun K "is_filling" "is_filling" gG f18 fd18) (F19:Fun K "lines" "Puzzle.lines" e9 f19 fd19) (fn19:PySem.W.isFn K (.ref f19)=true) (F20:Fun K "read_numbers" "read_numbers" fb f20 fd20) (F21:Fun K "_law_cells" "_law_cells" gH f21 fd21) (F22:Fun K "floor_of" "floor_of" iz f22 fd22) (F23:Fun K "read_filling" "read_filling" fc f23 fd23) (F24:Fun K "first_within" "first_within" fe f24 fd24) (F25:Fun K "told_cells" "told_cells" gI f25 fd25) (F26:Fun K "rule_by" "rule_by" i0 f26 fd26) (F27:Fun K "checked_clues" "checked_clues" ej f27 fd27) (F28:Fun K "show_puzzle" "show_puzzle" gb f28 fd28) (F29:Fun K "_law_rule" "_law_rule" g3 f29 fd29) (F30:Fun K "cells_of" "cells_of" iA f30 fd30) (F31:Fun K "checked_floor" "checked_floor" em f31 fd31) (F32:Fun K "read_floor" "read_floor" gJ f32 fd32) (F33:Fun K "_law_told" "_law_told" g4 f33 fd33) (F34:Fun K "read_rule" "read_rule" g5 f34 fd34) (F35:Fun K "read_rules" "read_rules" gK f35 fd35) (F36:Fun K "__init__" "Puzzle.__init__" dk f36 fd36) (fn36:PySem.W.isFn K (.ref f36)=true) (F37:Fun K "clued" "Puzzle.clued" ff f37 fd37) (fn37:PySem.W.isFn K (.ref f37)=true) (F38:Fun K "read_puzzle" "read_puzzle" gc f38 fd38) (F39:Fun K "law" "law" jd f39 fd39) (vn:PySem.W.makesIn K sy=true) (vo:PySem.W.keepIn K (.ref sy)=true) (vp:PySem.W.plainGet K sy Str.empty=true) (vq:PySem.W.hasDictIn K sy=true) (vr:PySem.W.plainOver K sy=true) (vt:PySem.W.findIn K (.ref sy) "__setattr__"=some (some (.builtin "object.__setattr__"))) (wD:PySem.W.makesIn K sK=true) (wE:PySem.W.keepIn K (.ref sK)=true) (wF:PySem.W.plainGet K sK Str.empty=true) (wG:PySem.W.hasDictIn K sK=true) (wH:PySem.W.plainOver K sK=true) (wI:PySem.W.findIn K (.ref sK) "__setattr__"=some (some (.builtin "object.__setattr__"))) (vv:PySem.W.makesIn K sC=true) (vw:PySem.W.keepIn K (.ref sC)=true) (vx:PySem.W.plainGet K sC Str.empty=true) (vy:PySem.W.hasDictIn K sC=true) (vz:PySem.W.plainOver K sC=true) (vA:PySem.W.findIn K (.ref sC) "__setattr__"=some (some (.builtin "object.__setattr__"))) (v8:PySem.W.makesIn K sH=true) (v9:PySem.W.keepIn K (.ref sH)=true) (wa:PySem.W.plainGet K sH Str.empty=true) (wb:PySem.W.hasDictIn K sH=true) (wc:PySem.W.plainOver K sH=true) (wd:PySem.W.findIn K (.ref sH) "__setattr__"=some (some (.builtin "object.__setattr__"))) (vO:PySem.W.makesIn K sG=true) (vP:PySem.W.keepIn K (.ref sG)=true) (vQ:PySem.W.plainGet K sG Str.empty=true) (vR:PySem.W.hasDictIn K sG=true) (vS:PySem.W.plainOver K sG=true) (vT:PySem.W.findIn K (.ref sG) "__setattr__"=some (some (.builtin "object.__setattr__"))) (vB:PySem.W.makesIn K sD=true) (vC:PySem.W.keepIn K (.ref sD)=true) (vD:PySem.W.plainGet K sD Str.empty=true) (vE:PySem.W.hasDictIn K sD=true) (vF:PySem.W.plainOver K sD=true) (vG:PySem.W.findIn K (.ref sD) "__setattr__"=some (some (.builtin "object.__setattr__"))) (uX:PySem.W.makesIn K sx=true) (uY:PySem.W.keepIn K (.ref sx)=true) (uZ:PySem.W.plainGet K sx Str.empty=true) (u6:PySem.W.hasDictIn K sx=true) (u7:PySem.W.plainOver K sx=true) (u8:PySem.W.findIn K (.ref sx) "__setattr__"=some (some (.builtin "object.__setattr__"))) (we:PySem.W.makesIn K sI=true) (wf:PySem.W.keepIn K (.ref sI)=true) (wg:PySem.W.plainGet K sI Str.empty=true) (wj:PySem.W.hasDictIn K sI=true) (wk:PySem.W.plainOver K sI=true) (wl:PySem.W.findIn K (.ref sI) "__setattr__"=some (some (.builtin "object.__setattr__"))) (vH:PySem.W.makesIn K sw=true) (vI:PySem.W.keepIn K (.ref sw)=true) (vJ:PySem.W.plainGet K sw Str.empty=true) (uL:PySem.W.hasDictIn K sw=true) (vK:PySem.W.plainOver K sw=true) (vL:PySem.W.findIn K (.ref sw) "__setattr__"=some (some (.builtin "object.__setattr__"))) (io1_Puzzle:PySem.W.plainGet K sw "__class__"=true) (io2_Puzzle:PySem.W.findIn K (.ref sw) "__class__"=some (some (.builtin "object.__class__"))) (io3_Puzzle:PySem.W.specialIn K (.builtin "object.__class__") "__get__"=some (some (.builtin "getset_descriptor.__get__"))) (io4_Puzzle:PySem.W.takesIn K (.builtin "object.__class__")=some true) (io5_Puzzle:PySem.W.mroIn K sw (.type "object")=some true) (io6_Puzzle:PySem.W.kitOne K (.ref sw) (.ref sw)=some true) (tm:PySem.W.findIn K (.ref sy) "amount"=some none) (t9:PySem.W.findIn K (.ref sK) "amount"=some none) (tp:PySem.W.findIn K (.ref sC) "amount"=some none) (tT:PySem.W.findIn K (.ref sH) "amount"=some none) (tE:PySem.W.findIn K (.ref sG) "amount"=some none) (tq:PySem.W.findIn K (.ref sD) "amount"=some none) (sS:PySem.W.findIn K (.ref sx) "amount"=some none) (tU:PySem.W.findIn K (.ref sI) "amount"=some none) (tF:PySem.W.findIn K (.ref sy) "cells"=some none) (uw:PySem.W.findIn K (.ref sK) "cells"=some none) (tG:PySem.W.findIn K (.ref sC) "cells"=some none) (ua:PySem.W.findIn K (.ref sH) "cells"=some none) (tV:PySem.W.findIn K (.ref sG) "cells"=some none) (tH:PySem.W.findIn K (.ref sD) "cells"=some none) (sW:PySem.W.findIn K (.ref sx) "cells"=some none) (ub:PySem.W.findIn K (.ref sI) "cells"=some none) (tI:PySem.W.findIn K (.ref sy) "floor"=some none) (ux:PySem.W.findIn K (.ref sK) "floor"=some none) (tJ:PySem.W.findIn K (.ref sC) "floor"=some none) (uc:PySem.W.findIn K (.ref sH) "floor"=some none) (tW:PySem.W.findIn K (.ref sG) "floor"=some none) (tK:PySem.W.findIn K (.ref sD) "floor"=some none) (sX:PySem.W.findIn K (.ref sx) "floor"=some none) (ud:PySem.W.findIn K (.ref sI) "floor"=some none) (tX:PySem.W.findIn K (.ref sy) "mark"=some none) (uF:PySem.W.findIn K (.ref sK) "mark"=some none) (tY:PySem.W.findIn K (.ref sC) "mark"=some none) (uy:PySem.W.findIn K (.ref sH) "mark"=some none) (ue:PySem.W.findIn K (.ref sG) "mark"=some none) (tZ:PySem.W.findIn K (.ref sD) "mark"=some none) (tu:PySem.W.findIn K (.ref sx) "mark"=some none) (uz:PySem.W.findIn K (.ref sI) "mark"=some none) (tL:PySem.W.findIn K (.ref sy) "words"=some none) (uA:PySem.W.findIn K (.ref sK) "words"=some none) (tM:PySem.W.findIn K (.ref sC) "words"=some none) (uf:PySem.W.findIn K (.ref sH) "words"=some none) (t0:PySem.W.findIn K (.ref sG) "words"=some none) (tN:PySem.W.findIn K (.ref sD) "words"=some none) (sY:PySem.W.findIn K (.ref sx) "words"=some none) (ug:PySem.W.findIn K (.ref sI) "words"=some none) (tO:PySem.W.findIn K (.ref sw) "floor"=some none) (tP:PySem.W.findIn K (.ref sw) "given"=some none) (t1:PySem.W.findIn K (.ref sw) "laws"=some none) (t3:PySem.W.nsIn K mainGlobals "OF_ALL_CELLS"=some (some (.ref t8))) (t4:K.lookup t8=some ⟨.type "tuple",wm,.seq #[.str (tx [106,111,105,110,101,100]) wp,.str (tx [110,111,115,113,117,97,114,101]) wq,.str (tx [114,105,110,103]) wr] wn,wo⟩) (uh:PySem.W.nsIn K mainGlobals "WITH_NUMBER"=some (some (.ref uv))) (ui:K.lookup uv=some ⟨.type "tuple",wv,.seq #[.str (tx [115,117,109]) wy,.str (tx [115,101,101,110]) wz,.str (tx [99,111,117,110,116]) wA] ww,wx⟩) (uG:PySem.W.nsIn K mainGlobals "WITH_SIGN"=some (some (.ref uV))) (uH:K.lookup uV=some ⟨.type "tuple",wM,.seq #[.str (tx [99,111,117,110,116]) wP,.str (tx [106,111,105,110,101,100]) wQ,.str (tx [110,111,115,113,117,97,114,101]) wR,.str (tx [114,105,110,103]) wS] wN,wO⟩) (t5:PySem.W.nsIn K mainGlobals "BETWEEN_PARTS"=some (some (.str (tx [32,124,32]) tk_BETWEEN_PARTS))) (uj:PySem.W.nsIn K mainGlobals "BETWEEN_ROWS"=some (some (.str (tx [59,32]) tk_BETWEEN_ROWS))) (sZ:PySem.W.nsIn K mainGlobals "FIGURES_fillings"=some (some (.str (tx [46,49,50,51,52,53,54]) tk_FIGURES_fillings))) (uk:PySem.W.nsIn K mainGlobals "FIGURES_rows"=some (some (.str (tx [48,49,50,51,52,53,54,55,56,57]) tk_FIGURES_rows))) (uI:PySem.W.nsIn K mainGlobals "MOST_CELLS"=some (some (.int 16 tk_MOST_CELLS))) (ul:PySem.W.nsIn K mainGlobals "MOST_FIGURES"=some (some (.int 9 tk_MOST_FIGURES))) (uB:PySem.W.nsIn K mainGlobals "MOST_NUMBER"=some (some (.int 99 tk_MOST_NUMBER))) (uJ:PySem.W.nsIn K mainGlobals "MOST_RULES"=some (some (.int 12 tk_MOST_RULES))) (u9:PySem.W.nsIn K mainGlobals "MOST_SIDE"=some (some (.int 6 tk_MOST_SIDE))) (uK:PySem.W.nsIn K mainGlobals "MOST_SIGNS"=some (some (.int 6 tk_MOST_SIGNS))) (z_len:PySem.W.nsIn K mainGlobals "len"=some none) (z_abs:PySem.W.nsIn K mainGlobals "abs"=some none) (z_min:PySem.W.nsIn K mainGlobals "min"=some none) (z_max:PySem.W.nsIn K mainGlobals "max"=some none) (z_sorted:PySem.W.nsIn K mainGlobals "sorted"=some none) (z_any:PySem.W.nsIn K mainGlobals "any"=some none) (z_isinstance:PySem.W.nsIn K mainGlobals "isinstance"=some none) (z_list:PySem.W.nsIn K mainGlobals "list"=some none) (z_int:PySem.W.nsIn K mainGlobals "int"=some none) (z_bool:PySem.W.nsIn K mainGlobals "bool"=some none) (z_str:PySem.W.nsIn K mainGlobals "str"=some none) (z_tuple:PySem.W.nsIn K mainGlobals "tuple"=some none) (z_reversed:PySem.W.nsIn K mainGlobals "reversed"=some none) (z_set:PySem.W.nsIn K mainGlobals "set"=some none) (z_range:PySem.W.nsIn K mainGlobals "range"=some none) (z_zip:PySem.W.nsIn K mainGlobals "zip"=some none) (z_all:PySem.W.nsIn K mainGlobals "all"=some none) (z_sum:PySem.W.nsIn K mainGlobals "sum"=some none) (z_enumerate:PySem.W.nsIn K mainGlobals "enumerate"=some none):
  ∃ fd:FuncData,(∀ (s:Shared) (v:Value),BindsTo s fd ⟨[v],[]⟩ [("_law_script",v)])∧∀ base:Heap,K.In base→base.Ns mainGlobals mg→FnOk l.prog w K mg base CX0 11 fa fd ["_law_script"] (ll K):=by
 have e:=hfa.symm.trans (PySem.W.mg_of X G a39)
 cases e
 have B:Bt2 mg:=⟨⟨PySem.W.mg_none_of X G z_len,PySem.W.mg_none_of X G z_abs,PySem.W.mg_none_of X G z_min,PySem.W.mg_none_of X G z_max,PySem.W.mg_none_of X G z_sorted,PySem.W.mg_none_of X G z_any,PySem.W.mg_none_of X G z_isinstance,PySem.W.mg_none_of X G z_list,PySem.W.mg_none_of X G z_int,PySem.W.mg_none_of X G z_bool,PySem.W.mg_none_of X G z_str,PySem.W.mg_none_of X G z_tuple,PySem.W.mg_none_of X G z_reversed,PySem.W.mg_none_of X G z_set,PySem.W.mg_none_of X G z_range,PySem.W.mg_none_of X G z_zip⟩,PySem.W.mg_none_of X G z_all,PySem.W.mg_none_of X G z_sum,PySem.W.mg_none_of X G z_enumerate⟩
 obtain ⟨oc,od,kV,doc,pm,an,cdv,ct,osl,rfl,lk,hcd⟩:=F39.ex
 refine ⟨PySem.W.fnOf "law" "law" (bd jd) (aX jd) (ai jd) .none kV doc pm an cdv ct,fun s v=>.of_eq rfl,fun base _ _=>?_⟩
 let c:RCl RK:=mkC sy sK sC sH sG sD sx sI
 let d:RCl PzK:=mkD sw
 have sM:=PySem.W.mg_of X G t5
 have sN:=PySem.W.mg_of X G uj
 have sJ:=PySem.W.mg_of X G sZ
 have um:=PySem.W.mg_of X G uk
 have uM:=PySem.W.mg_of X G uI
 have uo:=PySem.W.mg_of X G ul
 have uE:=PySem.W.mg_of X G uB
 have uR:=PySem.W.mg_of X G uJ
 have uC:=PySem.W.mg_of X G u9
 have uN:=PySem.W.mg_of X G uK
 have cls_Unlike:Cls K sy:=⟨vp,vq,vr,vt⟩
 have cls_Sum:Cls K sK:=⟨wF,wG,wH,wI⟩
 have cls_Rising:Cls K sC:=⟨vx,vy,vz,vA⟩
 have cls_Seen:Cls K sH:=⟨wa,wb,wc,wd⟩
 have cls_Count:Cls K sG:=⟨vQ,vR,vS,vT⟩
 have cls_Joined:Cls K sD:=⟨vD,vE,vF,vG⟩
 have cls_NoSquare:Cls K sx:=⟨uZ,u6,u7,u8⟩
 have cls_Ring:Cls K sI:=⟨wg,wj,wk,wl⟩
 have cls_Puzzle:Cls K sw:=⟨vJ,uL,vK,vL⟩
 have IS_Puzzle:GIs K mg "Puzzle" (d.A .Puzzle):=⟨PySem.W.mg_of X G vh,⟨io1_Puzzle,uL,io2_Puzzle,io3_Puzzle,io4_Puzzle,io5_Puzzle,io6_Puzzle⟩⟩
 have FK_c_amount:FldK K c "amount":=⟨fun i hi=>by cases i with | Rule=>exact (Bool.false_ne_true hi).elim | Unlike=>exact ⟨cls_Unlike,tm⟩ | Sum=>exact ⟨cls_Sum,t9⟩ | Rising=>exact ⟨cls_Rising,tp⟩ | Seen=>exact ⟨cls_Seen,tT⟩ | Count=>exact ⟨cls_Count,tE⟩ | Joined=>exact ⟨cls_Joined,tq⟩ | NoSquare=>exact ⟨cls_NoSquare,sS⟩ | Ring=>exact ⟨cls_Ring,tU⟩⟩
 have FK_c_cells:FldK K c "cells":=⟨fun i hi=>by cases i with | Rule=>exact (Bool.false_ne_true hi).elim | Unlike=>exact ⟨cls_Unlike,tF⟩ | Sum=>exact ⟨cls_Sum,uw⟩ | Rising=>exact ⟨cls_Rising,tG⟩ | Seen=>exact ⟨cls_Seen,ua⟩ | Count=>exact ⟨cls_Count,tV⟩ | Joined=>exact ⟨cls_Joined,tH⟩ | NoSquare=>exact ⟨cls_NoSquare,sW⟩ | Ring=>exact ⟨cls_Ring,ub⟩⟩
 have FK_c_floor:FldK K c "floor":=⟨fun i hi=>by cases i with | Rule=>exact (Bool.false_ne_true hi).elim | Unlike=>exact ⟨cls_Unlike,tI⟩ | Sum=>exact ⟨cls_Sum,ux⟩ | Rising=>exact ⟨cls_Rising,tJ⟩ | Seen=>exact ⟨cls_Seen,uc⟩ | Count=>exact ⟨cls_Count,tW⟩ | Joined=>exact ⟨cls_Joined,tK⟩ | NoSquare=>exact ⟨cls_NoSquare,sX⟩ | Ring=>exact ⟨cls_Ring,ud⟩⟩
 have FK_c_mark:FldK K c "mark":=⟨fun i hi=>by cases i with | Rule=>exact (Bool.false_ne_true hi).elim | Unlike=>exact ⟨cls_Unlike,tX⟩ | Sum=>exact ⟨cls_Sum,uF⟩ | Rising=>exact ⟨cls_Rising,tY⟩ | Seen=>exact ⟨cls_Seen,uy⟩ | Count=>exact ⟨cls_Count,ue⟩ | Joined=>exact ⟨cls_Joined,tZ⟩ | NoSquare=>exact ⟨cls_NoSquare,tu⟩ | Ring=>exact ⟨cls_Ring,uz⟩⟩
 have FK_c_words:FldK K c "words":=⟨fun i hi=>by cases i with | Rule=>exact (Bool.false_ne_true hi).elim | Unlike=>exact ⟨cls_Unlike,tL⟩ | Sum=>exact ⟨cls_Sum,uA⟩ | Rising=>exact ⟨cls_Rising,tM⟩ | Seen=>exact ⟨cls_Seen,uf⟩ | Count=>exact ⟨cls_Count,t0⟩ | Joined=>exact ⟨cls_Joined,tN⟩ | NoSquare=>exact ⟨cls_NoSquare,sY⟩ | Ring=>exact ⟨cls_Ring,ug⟩⟩
 have FK_d_floor:FldK K d "floor":=⟨fun i hi=>by cases i; exact ⟨cls_Puzzle,tO⟩⟩
 have FK_d_given:FldK K d "given":=⟨fun i hi=>by cases i; exact ⟨cls_Puzzle,tP⟩⟩
 have FK_d_laws:FldK K d "laws":=⟨fun i hi=>by cases i; exact ⟨cls_Puzzle,t1⟩⟩
 have G_OF_ALL_CELLS:GTup K mg "OF_ALL_CELLS" cC:=⟨t8,_,_,_,PySem.W.mg_of X G t3,t4,rfl,rfl,Nat.le_of_lt (aI (by show (3:Nat)≤1000; decide)),(.cons ⟨_,rfl⟩ (.cons ⟨_,rfl⟩ (.cons ⟨_,rfl⟩ .nil)))⟩
 have G_WITH_NUMBER:GTup K mg "WITH_NUMBER" c6:=⟨uv,_,_,_,PySem.W.mg_of X G uh,ui,rfl,rfl,Nat.le_of_lt (aI (by show (3:Nat)≤1000; decide)),(.cons ⟨_,rfl⟩ (.cons ⟨_,rfl⟩ (.cons ⟨_,rfl⟩ .nil)))⟩
 have G_WITH_SIGN:GTup K mg "WITH_SIGN" cX:=⟨uV,_,_,_,PySem.W.mg_of X G uG,uH,rfl,rfl,Nat.le_of_lt (aI (by show (4:Nat)≤1000; decide)),(.cons ⟨_,rfl⟩ (.cons ⟨_,rfl⟩ (.cons ⟨_,rfl⟩ (.cons ⟨_,rfl⟩ .nil))))⟩
 have tw:Cal l.prog w K mg base _ _ _ (bF K):=fZ (nD B F0) F0 (PySem.W.mg_of X G a0)
 have sF:Cal l.prog w K mg base _ _ _ (aK K):=fZ (l4 B F1) F1 (PySem.W.mg_of X G a1)
 have vc:Cal l.prog w K mg base _ _ _ (cz K):=fZ (nE B sJ F2) F2 (PySem.W.mg_of X G a2)
 have uD:Cal l.prog w K mg base _ _ _ (bI K):=gW (lp B sJ F3) F3 (PySem.W.mg_of X G a3)
 have bd4:Binds K fd4 ["self","floor","words","cells","amount","mark"] []:=sn F4
 have T4:FnOk l.prog w K mg base CX0 1 f4 fd4 _ (ag K c):=jN (c:=c) B FK_c_amount FK_c_cells FK_c_floor FK_c_mark FK_c_words F4
 have vW:KCal l.prog w K mg base _ "Unlike" (c.A .Unlike) _ (ag K c):=⟨f4,_,⟨vn,vi,fn4,vo⟩,T4,PySem.W.mg_of X G vX,bd4⟩
 have K_Sum:KCal l.prog w K mg base _ "Sum" (c.A .Sum) _ (ag K c):=⟨f4,_,⟨wD,wC,fn4,wE⟩,T4,PySem.W.mg_of X G q_Sum,bd4⟩
 have vV:KCal l.prog w K mg base _ "Rising" (c.A .Rising) _ (ag K c):=⟨f4,_,⟨vv,vj,fn4,vw⟩,T4,PySem.W.mg_of X G vY,bd4⟩
 have wL:KCal l.prog w K mg base _ "Seen" (c.A .Seen) _ (ag K c):=⟨f4,_,⟨v8,v3,fn4,v9⟩,T4,PySem.W.mg_of X G wT,bd4⟩
 have wt:KCal l.prog w K mg base _ "Count" (c.A .Count) _ (ag K c):=⟨f4,_,⟨vO,vN,fn4,vP⟩,T4,PySem.W.mg_of X G wB,bd4⟩
 have vU:KCal l.prog w K mg base _ "Joined" (c.A .Joined) _ (ag K c):=⟨f4,_,⟨vB,vk,fn4,vC⟩,T4,PySem.W.mg_of X G vZ,bd4⟩
 have ve:KCal l.prog w K mg base _ "NoSquare" (c.A .NoSquare) _ (ag K c):=⟨f4,_,⟨uX,uW,fn4,uY⟩,T4,PySem.W.mg_of X G vg,bd4⟩
 have wK:KCal l.prog w K mg base _ "Ring" (c.A .Ring) _ (ag K c):=⟨f4,_,⟨we,v7,fn4,wf⟩,T4,PySem.W.mg_of X G wU,bd4⟩
 have bd5:Binds K fd5 ["self"] []:=kB F5
 have T5:FnOk l.prog w K mg base CX0 1 f5 fd5 _ (d6 K c):=m6 (c:=c) B FK_c_words F5
 have wJ:MCal l.prog w K mg base c c.ok 1 "line" ["self"] (ig K c):=⟨fun i hi=>by cases i with | Rule=>exact (Bool.false_ne_true hi).elim | Unlike=>exact ⟨f5,_,cls_Unlike,⟨a5_Unlike,fn5,F5.kp⟩,(T5.mono (by decide)).imp (fun vs H Q E h=>⟨.Unlike,h⟩),bd5⟩ | Sum=>exact ⟨f5,_,cls_Sum,⟨a5_Sum,fn5,F5.kp⟩,(T5.mono (by decide)).imp (fun vs H Q E h=>⟨.Sum,h⟩),bd5⟩ | Rising=>exact ⟨f5,_,cls_Rising,⟨a5_Rising,fn5,F5.kp⟩,(T5.mono (by decide)).imp (fun vs H Q E h=>⟨.Rising,h⟩),bd5⟩ | Seen=>exact ⟨f5,_,cls_Seen,⟨a5_Seen,fn5,F5.kp⟩,(T5.mono (by decide)).imp (fun vs H Q E h=>⟨.Seen,h⟩),bd5⟩ | Count=>exact ⟨f5,_,cls_Count,⟨a5_Count,fn5,F5.kp⟩,(T5.mono (by decide)).imp (fun vs H Q E h=>⟨.Count,h⟩),bd5⟩ | Joined=>exact ⟨f5,_,cls_Joined,⟨a5_Joined,fn5,F5.kp⟩,(T5.mono (by decide)).imp (fun vs H Q E h=>⟨.Joined,h⟩),bd5⟩ | NoSquare=>exact ⟨f5,_,cls_NoSquare,⟨a5_NoSquare,fn5,F5.kp⟩,(T5.mono (by decide)).imp (fun vs H Q E h=>⟨.NoSquare,h⟩),bd5⟩ | Ring=>exact ⟨f5,_,cls_Ring,⟨a5_Ring,fn5,F5.kp⟩,(T5.mono (by decide)).imp (fun vs H Q E h=>⟨.Ring,h⟩),bd5⟩⟩
 have sT:Cal l.prog w K mg base _ _ _ (br K):=fZ (m7 B um uo F6) F6 (PySem.W.mg_of X G a6)
 have bd7:Binds K fd7 ["self"] []:=kB F7
 have T7:FnOk l.prog w K mg base CX0 1 f7 fd7 _ (cF K c d):=kH (c:=c) (d:=d) B FK_d_floor F7
 have ur:MCal l.prog w K mg base d d.ok 1 "place" ["self"] (dQ K c d):=⟨fun i hi=>by cases i; exact ⟨f7,_,cls_Puzzle,⟨a7_Puzzle,fn7,F7.kp⟩,(T7.mono (by decide)).imp (fun vs H Q E h=>h),bd7⟩⟩
 have bd8:Binds K fd8 ["self"] []:=kB F8
 have T8:FnOk l.prog w K mg base CX0 1 f8 fd8 _ (cH K c d):=kI (c:=c) (d:=d) B FK_d_given F8
 have sU:MCal l.prog w K mg base d d.ok 1 "clues" ["self"] (cg K c d):=⟨fun i hi=>by cases i; exact ⟨f8,_,cls_Puzzle,⟨a8_Puzzle,fn8,F8.kp⟩,(T8.mono (by decide)).imp (fun vs H Q E h=>h),bd8⟩⟩
 have uq:Cal l.prog w K mg base _ _ _ (bx K):=fZ (kJ B F9) F9 (PySem.W.mg_of X G a9)
 have tS:Cal l.prog w K mg base _ _ _ (bh K):=fZ (jm B F10) F10 (PySem.W.mg_of X G a10)
 have sE:Cal l.prog w K mg base _ _ _ (aG K):=gW (kK B F11) F11 (PySem.W.mg_of X G a11)
 have uU:Cal l.prog w K mg base _ _ _ (bt K):=fZ (l5 B F12) F12 (PySem.W.mg_of X G a12)
 have sV:Cal l.prog w K mg base _ _ _ (a7 K):=jK (m8 B F13) F13 (PySem.W.mg_of X G a13)
 have sP:Cal l.prog w K mg base _ _ _ (aM K):=gW (jn B tw F14) F14 (PySem.W.mg_of X G a14)
 have up:Cal l.prog w K mg base _ _ _ (bv K):=gW (kL B vc F15) F15 (PySem.W.mg_of X G a15)
 have vd:Cal l.prog w K mg base _ _ _ (cA K):=gW (nF B uD F16) F16 (PySem.W.mg_of X G a16)
 have sL:Cal l.prog w K mg base _ _ _ (aP K):=jK (jO B sT F17) F17 (PySem.W.mg_of X G a17)
 have uO:Cal l.prog w K mg base _ _ _ (bS K):=jK (l6 B tw sF F18) F18 (PySem.W.mg_of X G a18)
 have bd19:Binds K fd19 ["self"] []:=kB F19
 have T19:FnOk l.prog w K mg base CX0 2 f19 fd19 _ (cJ K c d):=kM (c:=c) (d:=d) B FK_d_laws wJ F19
 have sO:MCal l.prog w K mg base d d.ok 2 "lines" ["self"] (bN K c d):=⟨fun i hi=>by cases i; exact ⟨f19,_,cls_Puzzle,⟨a19_Puzzle,fn19,F19.kp⟩,(T19.mono (by decide)).imp (fun vs H Q E h=>h),bd19⟩⟩
 have ut:Cal l.prog w K mg base _ _ _ (bz K):=fZ (kN B sT F20) F20 (PySem.W.mg_of X G a20)
 have uP:Cal l.prog w K mg base _ _ _ (bu K):=rS (l7 B sE F21) F21 (PySem.W.mg_of X G a21)
 have tz:Cal l.prog w K mg base _ _ _ (bG K):=jK (nG B sP uM uC uN F22) F22 (PySem.W.mg_of X G a22)
 have uu:Cal l.prog w K mg base _ _ _ (bw K):=gW (kO B vd F23) F23 (PySem.W.mg_of X G a23)
 have tD:Cal l.prog w K mg base _ _ _ (aT K):=jK (kP B sL F24) F24 (PySem.W.mg_of X G a24)
 have uQ:Cal l.prog w K mg base _ _ _ (bQ K):=gW (l8 B sF sL F25) F25 (PySem.W.mg_of X G a25)
 have vM:Cal l.prog w K mg base _ _ _ (c7 K c):=ss (oy (c:=c) B wt vU ve wK vV wL K_Sum vW F26) F26 (PySem.W.mg_of X G a26)
 have t6:Cal l.prog w K mg base _ _ _ (bm K):=gW (jP B uO F27) F27 (PySem.W.mg_of X G a27)
 have sQ:Cal l.prog w K mg base _ _ _ (aZ K c d):=fZ (lq (c:=c) (d:=d) B up uq sM sN sU sO ur F28) F28 (PySem.W.mg_of X G a28)
 have vb:Cal l.prog w K mg base _ _ _ (bJ K):=jK (m9 B sE uP F29) F29 (PySem.W.mg_of X G a29)
 have vf:Cal l.prog w K mg base _ _ _ (cy K):=jK (nH B sF uQ G_OF_ALL_CELLS F30) F30 (PySem.W.mg_of X G a30)
 have t7:Cal l.prog w K mg base _ _ _ (bj K):=fZ (jQ B tz F31) F31 (PySem.W.mg_of X G a31)
 have uT:Cal l.prog w K mg base _ _ _ (bT K):=fZ (l9 B tz ut F32) F32 (PySem.W.mg_of X G a32)
 have tQ:Cal l.prog w K mg base _ _ _ (a8 K c d):=rS (nb (c:=c) (d:=d) B sV sQ sU sO ur IS_Puzzle F33) F33 (PySem.W.mg_of X G a33)
 have va:Cal l.prog w K mg base _ _ _ (b8 K c):=gW (nc (c:=c) B vf tD vM uE G_WITH_NUMBER G_WITH_SIGN F34) F34 (PySem.W.mg_of X G a34)
 have uS:Cal l.prog w K mg base _ _ _ (bR K c):=gW (ma (c:=c) B va uR F35) F35 (PySem.W.mg_of X G a35)
 have bd36:Binds K fd36 ["self","floor","lines","clues"] []:=qj F36
 have T36:FnOk l.prog w K mg base CX0 7 f36 fd36 _ (aA K c d):=i3 (c:=c) (d:=d) B t6 t7 uS FK_d_floor FK_d_given FK_d_laws F36
 have sR:KCal l.prog w K mg base _ "Puzzle" (d.A .Puzzle) _ (aA K c d):=⟨f36,_,⟨vH,vm,fn36,vI⟩,T36,PySem.W.mg_of X G vh,bd36⟩
 have bd37:Binds K fd37 ["self","clues"] []:=qi F37
 have T37:FnOk l.prog w K mg base CX0 9 f37 fd37 _ (cL K c d):=kQ (c:=c) (d:=d) B FK_d_floor sO sR F37
 have wu:MCal l.prog w K mg base d d.ok 9 "clued" ["self","clues"] (ir K c d):=⟨fun i hi=>by cases i; exact ⟨f37,_,cls_Puzzle,⟨a37_Puzzle,fn37,F37.kp⟩,(T37.mono (by decide)).imp (fun vs H Q E h=>h),bd37⟩⟩
 have tR:Cal l.prog w K mg base _ _ _ (bn K c d):=fZ (lr (c:=c) (d:=d) B sF uu uT tS sM sN wu sR F38) F38 (PySem.W.mg_of X G a38)
 exact (rY (c:=c) (d:=d) B sE uU vb sV tQ tR sQ sU sO sR F39).imp fun vs H Q E h=>by obtain ⟨a,ns,e,hS,hn,k⟩:=h; exact ⟨a,ns,e,hS,hn,fun k hk=>by cases k <;> first | rfl | exact absurd rfl hk,rfl,k⟩
theorem walk {l:PySem.W.OpenLaw} {q:Program} {loose:List Str} {XP:(Str→Option Value)→Heap→Prop} {YP:World→Heap→Prop} {d:DefRec} {K:Params→PySem.W.Frag} (hn:l.most=some 63) (hdf:d.params.defaults=[])
  (hY:∀ (w:World) (h:Heap),YP w h→(K w.params).In h)
  (F:∀ (w:World) (mg:Str→Option Value) (fa:Addr) (h:Heap),(K w.params).In h→h.Ns mainGlobals mg→mg d.name=some (.ref fa)→
   ∃ fd:FuncData,(∀ (s:Shared) (u:Value),BindsTo s fd ⟨[u],[]⟩ [("_law_script",u)])∧∀ base:Heap,(K w.params).In base→base.Ns mainGlobals mg→FnOk l.prog w (K w.params) mg base CX0 11 fa fd ["_law_script"] (ll (K w.params))):
  PySem.W.WalkO q loose XP YP l.row.toRowW d [] (fun f vs=>PySem.call f vs):=
 L2.qA (n:=63) (k:=11) (x:="_law_script") (CX:=fun _=>CX0) (sp:=fun w=>ll (K w.params)) hn (by decide) hdf ⟨rfl,by decide,by decide⟩ hY F (fun _ _ a ns hl _ hS=>⟨a,ns,rfl,hS,hl,fun _=>rfl⟩) fun _ _ _ _ _ z=>z
end L2
namespace PySem.W.Fast
def tw5614882781370827260:=()
def tw8700250169064434817:=()
def tw18366969921825008073:=()
def tw15815457197607516363:=()
def tw11972224223638613133:=()
def tw679512616245429464:=()
def tw9388068122089701787:=()
def tw16240233380736532576:=()
def tw5084405862732175217:=()
def tw16447153546792963032:=()
def tw16114973500097454036:=()
def tw2182009865928402623:=()
def tw2940346152783429442:=()
def tw17770130933368488093:=()
def tw5036884999583784218:=()
def tw15375989727156858589:=()
def tw14899911727258541452:=()
def tw6304820776438379707:=()
def tw811900398593357254:=()
def tw6145373618237471543:=()
def tw17567873300211655461:=()
def tw16658963075448510938:=()
def tw2128736765941970506:=()
def tw13391214874532129573:=()
def tw6613071795018369304:=()
def tw14429324344095539404:=()
def tw591912773815043865:=()
def tw4263035872883412234:=()
def tw3950286369177583220:=()
def tw15421684494547803746:=()
def tw6781479755713362207:=()
def tw13764919901943890335:=()
def tw3072572125214619334:=()
def tw17881726960321311273:=()
def tw14152688280203908159:=()
def tw16966652727065665132:=()
def tw9373739655787404204:=()
def tw8514413831763479123:=()
def tw2925105127286978975:=()
def tw3147122211673793609:=()
def tw17300205926413199779:=()
def tw13924480906958333942:=()
def tw9695074473229012724:=()
def tw893386216332979137:=()
def tw14232294682687276772:=()
def tw15390884209003583025:=()
def tw744335291524109397:=()
def tw1332867358695861822:=()
def tw8732869748980181892:=()
def tw7934963472214574666:=()
def tw10231519936696192763:=()
def tw7608916355257418336:=()
def tw10976951373345294071:=()
def tw16518308730651849229:=()
def tw1984682332477461894:=()
def tw6150493746723718948:=()
def tw14054330039793208116:=()
def tw17067627812232386257:=()
def tw9875603821567299854:=()
def tw4931954206931557304:=()
def tw7971649271956665102:=()
def tw8412079588367792218:=()
def tw11462523824164871990:=()
def tw11964456209924899182:=()
def tw16272618476976526460:=()
def tw16548402151479074492:=()
def tw6606564432209122114:=()
def tw10739126810435223480:=()
def tw3434906625374975348:=()
def tw7259175535954910640:=()
def tw7497928821042617754:=()
def tw10135929012394053927:=()
def tw3426553914886599120:=()
def tw10364203688736809805:=()
def tw17647484261909447343:=()
def tw14626376136225709973:=()
def tw16952496663274649460:=()
def tw8258303806580850142:=()
def tw18037295138070348570:=()
def tw9114349744797956040:=()
def tw5359991040253652648:=()
def tw1501207111307926625:=()
def tw18099548424706504201:=()
def tw11693902535533994046:=()
def tw9017979562213625624:=()
def tw12371775821589062664:=()
def tw1108746463339111186:=()
def tw11304586883758274011:=()
def tw9212198995376887390:=()
def tw6091942008565435375:=()
def tw11294764819382022069:=()
def tw6311511121060432294:=()
def tw13765462913548327975:=()
def tw1782143118131579700:=()
def tw14569968323021647315:=()
def tw11965690398729146851:=()
def tw3554134725228466525:=()
def tw14263065496232563893:=()
def tw15604850598292551447:=()
def tw14085753287373255661:=()
def tw4131661915402034060:=()
def tw18339340680143806396:=()
def tw16429282293109340043:=()
def tw14969153749604975596:=()
def tw8702333504232425517:=()
def tw14355133355131804994:=()
def tw11939546980300639766:=()
def tw2474748863343516034:=()
def tw9281787013455254633:=()
def tw14451936219779546269:=()
def tw18356481417998604346:=()
def tw12155985187213535325:=()
def tw8869076796262789744:=()
def tw15599646027063362771:=()
def tw5415188390983855520:=()
def tw16086116310811952083:=()
def tw15291295529615226416:=()
def tw14868554321884043203:=()
def tw13535011727996829610:=()
def tw11807952311236150042:=()
def tw7325459871763198821:=()
def tw223208941502010968:=()
def tw4008457235398360820:=()
def tw17449071012822721727:=()
def tw16077199403232698697:=()
def tw985000049408486986:=()
def tw13533823950436829658:=()
def tw120362279835975685:=()
def tw6228865485906002428:=()
def tw7282781922064804543:=()
def tw2428406847794148001:=()
def tw18199085088799036180:=()
def tw7489370870685460350:=()
def tw8544567705402645068:=()
def tw15136861296070433060:=()
def tw3075433996939869736:=()
def tw11710122659410881786:=()
def tw7067514884798208689:=()
def tw15811320714441470963:=()
def tw2598374079647332268:=()
def tw3954471116752378712:=()
def tw3627541543905942399:=()
def tw13055720628512355376:=()
def tw1391433524080286229:=()
def tw12967305356532120846:=()
def tw16905341658607040038:=()
def tw2782302151264180140:=()
def tw10369358011652302069:=()
def tw7607965748423115597:=()
def tw2666489414880222092:=()
def tw10056112479698106564:=()
def tw9215044138026347768:=()
def tw15984642705528400014:=()
def tw15342954594177086903:=()
def tw4441742757916304754:=()
def tw5302560176092784119:=()
def tw6303894277984464561:=()
def tw7287048538211015545:=()
def tw17235177132506010899:=()
def tw1451892164399365360:=()
def tw18044839602463729974:=()
def tw4905669028199578854:=()
def tw13426624215353769693:=()
def tw11098403552441740257:=()
def tw10855194760594766017:=()
def tw3131298025947073018:=()
def tw3364006238874481500:=()
def tw6447793983924541098:=()
def tw6874614650945703426:=()
def tw4081272613735116567:=()
def tw17673769606109029254:=()
def tw6862582124007590092:=()
def tw5314685818744023295:=()
def tw3925664712041433679:=()
def tw4484239354840325504:=()
def tw1172373177599908575:=()
def tw4100172772590044568:=()
end PySem.W.Fast
open PySem PySem.W PyProof.Rows
set_option maxRecDepth 100000 in
set_option maxHeartbeats 0 in
theorem PySem.Challenge.cw_cluemaker_k72_puzzles_as_texts_holds : PySem.Challenge.rw_cluemaker_k72_puzzles_as_texts.Holds := by
  w_on; o_law; k_head; (case hw => w_witness2)
  k_fill
  refine L2.walk (l := PySem.Challenge.rw_cluemaker_k72_puzzles_as_texts) rfl rfl (fun w h Y => PySem.W.kIn_of Y) ?F
  case F =>
    intro w mg fa h KX G hmg
    refine' L2.rZ KX G hmg ?vX ?q_Sum ?vY ?wT ?wB ?vZ ?vg ?wU ?vh ?a0 ?a1 ?a2 ?a3 ?vi ?wC ?vj ?v3 ?vN ?vk ?uW ?v7 ?a5_Unlike ?a5_Sum ?a5_Rising ?a5_Seen ?a5_Count ?a5_Joined ?a5_NoSquare ?a5_Ring ?a6 ?a7_Puzzle ?a8_Puzzle ?a9 ?a10 ?a11 ?a12 ?a13 ?a14 ?a15 ?a16 ?a17 ?a18 ?a19_Puzzle ?a20 ?a21 ?a22 ?a23 ?a24 ?a25 ?a26 ?a27 ?a28 ?a29 ?a30 ?a31 ?a32 ?a33 ?a34 ?a35 ?vm ?a37_Puzzle ?a38 ?a39 ?F0 ?F1 ?F2 ?F3 ?F4 ?fn4 ?F5 ?fn5 ?F6 ?F7 ?fn7 ?F8 ?fn8 ?F9 ?F10 ?F11 ?F12 ?F13 ?F14 ?F15 ?F16 ?F17 ?F18 ?F19 ?fn19 ?F20 ?F21 ?F22 ?F23 ?F24 ?F25 ?F26 ?F27 ?F28 ?F29 ?F30 ?F31 ?F32 ?F33 ?F34 ?F35 ?F36 ?fn36 ?F37 ?fn37 ?F38 ?F39 ?vn ?vo ?vp ?vq ?vr ?vt ?wD ?wE ?wF ?wG ?wH ?wI ?vv ?vw ?vx ?vy ?vz ?vA ?v8 ?v9 ?wa ?wb ?wc ?wd ?vO ?vP ?vQ ?vR ?vS ?vT ?vB ?vC ?vD ?vE ?vF ?vG ?uX ?uY ?uZ ?u6 ?u7 ?u8 ?we ?wf ?wg ?wj ?wk ?wl ?vH ?vI ?vJ ?uL ?vK ?vL ?io1_Puzzle ?io2_Puzzle ?io3_Puzzle ?io4_Puzzle ?io5_Puzzle ?io6_Puzzle ?tm ?t9 ?tp ?tT ?tE ?tq ?sS ?tU ?tF ?uw ?tG ?ua ?tV ?tH ?sW ?ub ?tI ?ux ?tJ ?uc ?tW ?tK ?sX ?ud ?tX ?uF ?tY ?uy ?ue ?tZ ?tu ?uz ?tL ?uA ?tM ?uf ?t0 ?tN ?sY ?ug ?tO ?tP ?t1 ?t3 ?t4 ?uh ?ui ?uG ?uH ?t5 ?uj ?sZ ?uk ?uI ?ul ?uB ?uJ ?u9 ?uK ?z_len ?z_abs ?z_min ?z_max ?z_sorted ?z_any ?z_isinstance ?z_list ?z_int ?z_bool ?z_str ?z_tuple ?z_reversed ?z_set ?z_range ?z_zip ?z_all ?z_sum ?z_enumerate
    (case vX => k_is)
    (case q_Sum => k_is)
    (case vY => k_is)
    (case wT => k_is)
    (case wB => k_is)
    (case vZ => k_is)
    (case vg => k_is)
    (case wU => k_is)
    (case vh => k_is)
    (case a0 => k_is)
    (case a1 => k_is)
    (case a2 => k_is)
    (case a3 => k_is)
    (case vi => k_is)
    (case wC => k_is)
    (case vj => k_is)
    (case v3 => k_is)
    (case vN => k_is)
    (case vk => k_is)
    (case uW => k_is)
    (case v7 => k_is)
    (case a5_Unlike => k_is)
    (case a5_Sum => k_is)
    (case a5_Rising => k_is)
    (case a5_Seen => k_is)
    (case a5_Count => k_is)
    (case a5_Joined => k_is)
    (case a5_NoSquare => k_is)
    (case a5_Ring => k_is)
    (case a6 => k_is)
    (case a7_Puzzle => k_is)
    (case a8_Puzzle => k_is)
    (case a9 => k_is)
    (case a10 => k_is)
    (case a11 => k_is)
    (case a12 => k_is)
    (case a13 => k_is)
    (case a14 => k_is)
    (case a15 => k_is)
    (case a16 => k_is)
    (case a17 => k_is)
    (case a18 => k_is)
    (case a19_Puzzle => k_is)
    (case a20 => k_is)
    (case a21 => k_is)
    (case a22 => k_is)
    (case a23 => k_is)
    (case a24 => k_is)
    (case a25 => k_is)
    (case a26 => k_is)
    (case a27 => k_is)
    (case a28 => k_is)
    (case a29 => k_is)
    (case a30 => k_is)
    (case a31 => k_is)
    (case a32 => k_is)
    (case a33 => k_is)
    (case a34 => k_is)
    (case a35 => k_is)
    (case vm => k_is)
    (case a37_Puzzle => k_is)
    (case a38 => k_is)
    (case a39 => k_is)
    (case F0 => (refine' L2.az ?l ?c ?k; (case l => k_is); (case c => k_is); case k => k_is))
    (case F1 => (refine' L2.az ?l ?c ?k; (case l => k_is); (case c => k_is); case k => k_is))
    (case F2 => (refine' L2.az ?l ?c ?k; (case l => k_is); (case c => k_is); case k => k_is))
    (case F3 => (refine' L2.az ?l ?c ?k; (case l => k_is); (case c => k_is); case k => k_is))
    (case F4 => (refine' L2.az ?l ?c ?k; (case l => k_is); (case c => k_is); case k => k_is))
    (case fn4 => k_is)
    (case F5 => (refine' L2.az ?l ?c ?k; (case l => k_is); (case c => k_is); case k => k_is))
    (case fn5 => k_is)
    (case F6 => (refine' L2.az ?l ?c ?k; (case l => k_is); (case c => k_is); case k => k_is))
    (case F7 => (refine' L2.az ?l ?c ?k; (case l => k_is); (case c => k_is); case k => k_is))
    (case fn7 => k_is)
    (case F8 => (refine' L2.az ?l ?c ?k; (case l => k_is); (case c => k_is); case k => k_is))
    (case fn8 => k_is)
    (case F9 => (refine' L2.az ?l ?c ?k; (case l => k_is); (case c => k_is); case k => k_is))
    (case F10 => (refine' L2.az ?l ?c ?k; (case l => k_is); (case c => k_is); case k => k_is))
    (case F11 => (refine' L2.az ?l ?c ?k; (case l => k_is); (case c => k_is); case k => k_is))
    (case F12 => (refine' L2.az ?l ?c ?k; (case l => k_is); (case c => k_is); case k => k_is))
    (case F13 => (refine' L2.az ?l ?c ?k; (case l => k_is); (case c => k_is); case k => k_is))
    (case F14 => (refine' L2.az ?l ?c ?k; (case l => k_is); (case c => k_is); case k => k_is))
    (case F15 => (refine' L2.az ?l ?c ?k; (case l => k_is); (case c => k_is); case k => k_is))
    (case F16 => (refine' L2.az ?l ?c ?k; (case l => k_is); (case c => k_is); case k => k_is))
    (case F17 => (refine' L2.az ?l ?c ?k; (case l => k_is); (case c => k_is); case k => k_is))
    (case F18 => (refine' L2.az ?l ?c ?k; (case l => k_is); (case c => k_is); case k => k_is))
    (case F19 => (refine' L2.az ?l ?c ?k; (case l => k_is); (case c => k_is); case k => k_is))
    (case fn19 => k_is)
    (case F20 => (refine' L2.az ?l ?c ?k; (case l => k_is); (case c => k_is); case k => k_is))
    (case F21 => (refine' L2.az ?l ?c ?k; (case l => k_is); (case c => k_is); case k => k_is))
    (case F22 => (refine' L2.az ?l ?c ?k; (case l => k_is); (case c => k_is); case k => k_is))
    (case F23 => (refine' L2.az ?l ?c ?k; (case l => k_is); (case c => k_is); case k => k_is))
    (case F24 => (refine' L2.az ?l ?c ?k; (case l => k_is); (case c => k_is); case k => k_is))
    (case F25 => (refine' L2.az ?l ?c ?k; (case l => k_is); (case c => k_is); case k => k_is))
    (case F26 => (refine' L2.az ?l ?c ?k; (case l => k_is); (case c => k_is); case k => k_is))
    (case F27 => (refine' L2.az ?l ?c ?k; (case l => k_is); (case c => k_is); case k => k_is))
    (case F28 => (refine' L2.az ?l ?c ?k; (case l => k_is); (case c => k_is); case k => k_is))
    (case F29 => (refine' L2.az ?l ?c ?k; (case l => k_is); (case c => k_is); case k => k_is))
    (case F30 => (refine' L2.az ?l ?c ?k; (case l => k_is); (case c => k_is); case k => k_is))
    (case F31 => (refine' L2.az ?l ?c ?k; (case l => k_is); (case c => k_is); case k => k_is))
    (case F32 => (refine' L2.az ?l ?c ?k; (case l => k_is); (case c => k_is); case k => k_is))
    (case F33 => (refine' L2.az ?l ?c ?k; (case l => k_is); (case c => k_is); case k => k_is))
    (case F34 => (refine' L2.az ?l ?c ?k; (case l => k_is); (case c => k_is); case k => k_is))
    (case F35 => (refine' L2.az ?l ?c ?k; (case l => k_is); (case c => k_is); case k => k_is))
    (case F36 => (refine' L2.az ?l ?c ?k; (case l => k_is); (case c => k_is); case k => k_is))
    (case fn36 => k_is)
    (case F37 => (refine' L2.az ?l ?c ?k; (case l => k_is); (case c => k_is); case k => k_is))
    (case fn37 => k_is)
    (case F38 => (refine' L2.az ?l ?c ?k; (case l => k_is); (case c => k_is); case k => k_is))
    (case F39 => (refine' L2.az ?l ?c ?k; (case l => k_is); (case c => k_is); case k => k_is))
    (case vn => k_is)
    (case vo => k_is)
    (case vp => k_is)
    (case vq => k_is)
    (case vr => k_is)
    (case vt => k_is)
    (case wD => k_is)
    (case wE => k_is)
    (case wF => k_is)
    (case wG => k_is)
    (case wH => k_is)
    (case wI => k_is)
    (case vv => k_is)
    (case vw => k_is)
    (case vx => k_is)
    (case vy => k_is)
    (case vz => k_is)
    (case vA => k_is)
    (case v8 => k_is)
    (case v9 => k_is)
    (case wa => k_is)
    (case wb => k_is)
    (case wc => k_is)
    (case wd => k_is)
    (case vO => k_is)
    (case vP => k_is)
    (case vQ => k_is)
    (case vR => k_is)
    (case vS => k_is)
    (case vT => k_is)
    (case vB => k_is)
    (case vC => k_is)
    (case vD => k_is)
    (case vE => k_is)
    (case vF => k_is)
    (case vG => k_is)
    (case uX => k_is)
    (case uY => k_is)
    (case uZ => k_is)
    (case u6 => k_is)
    (case u7 => k_is)
    (case u8 => k_is)
    (case we => k_is)
    (case wf => k_is)
    (case wg => k_is)
    (case wj => k_is)
    (case wk => k_is)
    (case wl => k_is)
    (case vH => k_is)
    (case vI => k_is)
    (case vJ => k_is)
    (case uL => k_is)
    (case vK => k_is)
    (case vL => k_is)
    (case io1_Puzzle => k_is)
    (case io2_Puzzle => k_is)
    (case io3_Puzzle => k_is)
    (case io4_Puzzle => k_is)
    (case io5_Puzzle => k_is)
    (case io6_Puzzle => kit_is)
    (case tm => k_is)
    (case t9 => k_is)
    (case tp => k_is)
    (case tT => k_is)
    (case tE => k_is)
    (case tq => k_is)
    (case sS => k_is)
    (case tU => k_is)
    (case tF => k_is)
    (case uw => k_is)
    (case tG => k_is)
    (case ua => k_is)
    (case tV => k_is)
    (case tH => k_is)
    (case sW => k_is)
    (case ub => k_is)
    (case tI => k_is)
    (case ux => k_is)
    (case tJ => k_is)
    (case uc => k_is)
    (case tW => k_is)
    (case tK => k_is)
    (case sX => k_is)
    (case ud => k_is)
    (case tX => k_is)
    (case uF => k_is)
    (case tY => k_is)
    (case uy => k_is)
    (case ue => k_is)
    (case tZ => k_is)
    (case tu => k_is)
    (case uz => k_is)
    (case tL => k_is)
    (case uA => k_is)
    (case tM => k_is)
    (case uf => k_is)
    (case t0 => k_is)
    (case tN => k_is)
    (case sY => k_is)
    (case ug => k_is)
    (case tO => k_is)
    (case tP => k_is)
    (case t1 => k_is)
    (case t3 => k_is)
    (case t4 => k_is)
    (case uh => k_is)
    (case ui => k_is)
    (case uG => k_is)
    (case uH => k_is)
    (case t5 => k_is)
    (case uj => k_is)
    (case sZ => k_is)
    (case uk => k_is)
    (case uI => k_is)
    (case ul => k_is)
    (case uB => k_is)
    (case uJ => k_is)
    (case u9 => k_is)
    (case uK => k_is)
    (case z_len => k_is)
    (case z_abs => k_is)
    (case z_min => k_is)
    (case z_max => k_is)
    (case z_sorted => k_is)
    (case z_any => k_is)
    (case z_isinstance => k_is)
    (case z_list => k_is)
    (case z_int => k_is)
    (case z_bool => k_is)
    (case z_str => k_is)
    (case z_tuple => k_is)
    (case z_reversed => k_is)
    (case z_set => k_is)
    (case z_range => k_is)
    (case z_zip => k_is)
    (case z_all => k_is)
    (case z_sum => k_is)
    (case z_enumerate => k_is)
