import PyProof.Rows.All
import Wide.All
import OpenK.AllK
import Wide.FinOn
import Lean
import PyProof.EqAt
import PyProof.EqKinds
import PyProof.TupleCall
import PyProof.ZipIter
import PyProof.ConsumeS
import PyProof.StrCalls2
import PyProof.StrWalks
import PyProof.SliceStr2
import PyProof.StrBlock
import PyProof.StrBlockL
import PyProof.ListIndex
import PyProof.StrLawsTight
import PyProof.StrLawsChain
import PyProof.StrLaws
import PyProof.StrLawsFirst
import PyProof.StationsW
import PyProof.ExcClass3
import PyProof.NsDelKeeps
import PyProof.RulesAs
import PyProof.ExcBaseAll.ValueError
import PyProof.ExcArgsOwn
import PyProof.ExcAttrAll.ValueError
import KE.KTryMore
import KE.RegKTryMore
import KE.RegKIsAll
import PyProof.Rows.Range3
import PyProof.Rows.SumGenD
import PyProof.Rows.RuleM_int
import PyProof.EnumMake
import PyProof.EnumFor
import PyProof.EnumStmt
import PyProof.Rows.EnumRows
import KE.KRevIter
import PyProof.ListNew
import PyProof.CollectIter
import PyProof.ListRange
import PyProof.CallStr
import PyProof.StrBlock2
import PyProof.Rows.StrMadeLen
import PyProof.Rows.SetFrom
import PyProof.SetRoads
import PyProof.MeetsStr2
import KE.KRevSl
import PyProof.Conv_int
import PySem.Challenge.RW_cluemaker_k73_texts_of_puzzles_refused
set_option Elab.async false
set_option linter.all false
set_option maxRecDepth 100000
namespace L2
open PySem PySem.Spec PyProof.Rows
abbrev Key:=Sum Int Str
def keyIs:Key→Value→Bool
 | .inl k,v=>Value.isInt k v
 | .inr x,v=>Value.isStrOf x v
def keyH (w:World):Key→Int
 | .inl k=>hashInt k
 | .inr x=>hashStr w x
theorem bL:∀ {k:Key} {v:Value},keyIs k v=true→(∃ i t,k=Sum.inl i∧v=Value.int i t)∨(∃ x t,k=Sum.inr x∧v=Value.str x t)
 | .inl i,v,h=>by
  obtain ⟨t,e⟩:=Value.isInt_shape (k:=i) (v:=v) h
  exact .inl ⟨i,t,rfl,e⟩
 | .inr x,v,h=>by
  obtain ⟨t,e⟩:=Value.isStrOf_shape (x:=x) (v:=v) h
  exact .inr ⟨x,t,rfl,e⟩
theorem sU (i:Int) (t:Tok):keyIs (.inl i) (.int i t)=true:=by simp [keyIs,Value.isInt]
theorem sV (x:Str) (t:Tok):keyIs (.inr x) (.str x t)=true:=by simp [keyIs,Value.isStrOf]
theorem vZ (a b:Int):decide ((Sum.inl a:Key)=Sum.inl b)=(a==b):=by
 by_cases e:a=b
 · subst e; simp
 · have h:¬ (Sum.inl a:Key)=Sum.inl b:=fun q=>e (Sum.inl.inj q)
   rw [decide_eq_false h]
   exact (beq_eq_false_iff_ne.mpr e).symm
theorem wa (a b:Str):decide ((Sum.inr a:Key)=Sum.inr b)=decide (a=b):=by
 by_cases e:a=b
 · subst e; simp
 · have h:¬ (Sum.inr a:Key)=Sum.inr b:=fun q=>e (Sum.inr.inj q)
   rw [decide_eq_false h,decide_eq_false e]
theorem wb (a:Int) (b:Str):decide ((Sum.inl a:Key)=Sum.inr b)=false:=decide_eq_false (fun q=>nomatch q)
theorem wc (a:Str) (b:Int):decide ((Sum.inr a:Key)=Sum.inl b)=false:=decide_eq_false (fun q=>nomatch q)
def dz (prog:Program) (w:World):PySem.KeyKind prog w Key where
 is:=keyIs
 hash:=keyH w
 inj:=fun v a b ha hb=>by
  rcases bL ha with ⟨i,t,rfl,rfl⟩ | ⟨x,t,rfl,rfl⟩
  · rcases bL hb with ⟨j,u,rfl,e⟩ | ⟨y,u,rfl,e⟩
    · injection e with e1 _; rw [e1]
    · exact nomatch e
  · rcases bL hb with ⟨j,u,rfl,e⟩ | ⟨y,u,rfl,e⟩
    · exact nomatch e
    · injection e with e1 _; rw [e1]
 byValue:=fun k v h=>by
  rcases bL h with ⟨i,t,rfl,rfl⟩ | ⟨x,t,rfl,rfl⟩ <;> rfl
 pyHash:=fun hv h=>by
  rcases bL hv with ⟨i,t,rfl,rfl⟩ | ⟨x,t,rfl,rfl⟩
  · exact wpAny_pyHash_int h
  · exact wpAny_pyHash_str h
 eqBool:=fun hu hv h=>by
  rcases bL hu with ⟨i,t,rfl,rfl⟩ | ⟨x,t,rfl,rfl⟩
  · rcases bL hv with ⟨j,u,rfl,rfl⟩ | ⟨y,u,rfl,rfl⟩
    · rw [vZ] at h; exact wpAny_eqBool_int h
    · rw [wb] at h; exact SeqAt.EqAt.int_str i t y u _ _ _ _ h
  · rcases bL hv with ⟨j,u,rfl,rfl⟩ | ⟨y,u,rfl,rfl⟩
    · rw [wc] at h; exact SeqAt.EqAt.str_int x t j u _ _ _ _ h
    · rw [wa] at h; exact wpAny_eqBool_str h
 «strs»:=fun k x t v h=>by
  rcases bL h with ⟨i,u,rfl,e⟩ | ⟨y,u,rfl,e⟩
  · exact nomatch e
  · injection e with e1 _
    subst e1
    cases v <;> rfl
theorem ri (prog:Program) (w:World) (i:Int) (t:Tok):(dz prog w).is (.inl i) (.int i t)=true:=sU i t
theorem rj (prog:Program) (w:World) (x:Str) (t:Tok):(dz prog w).is (.inr x) (.str x t)=true:=sV x t
end L2
namespace L2
open PySem PySem.Spec PyProof.Rows
inductive V where
 | non | bl (b:Bool) | int (i:Int) | str (x:Str) | byt (b:Array UInt8) | flt (b:UInt64) | ref (a:Addr) | ty (n:String)
 deriving DecidableEq
def RelV:V→Value→Prop
 | .non,u=>u=Value.none
 | .bl b,u=>u=Value.bool b
 | .int i,u=>∃ t,u=Value.int i t
 | .str x,u=>∃ t,u=Value.str x t
 | .byt b,u=>∃ t,u=Value.bytes b t
 | .flt b,u=>∃ t,u=Value.float b t
 | .ref a,u=>u=Value.ref a
 | .ty n,u=>u=Value.type n
abbrev Vals:List V→List Value→Prop:=Paired RelV
theorem Vals.length {xs:List V} {us:List Value} (r:Vals xs us):xs.length=us.length:=Paired.length r
theorem Vals.get:∀ {xs:List V} {us:List Value} {i:Nat} {x:V},Vals xs us→xs[i]? =some x→∃ u,us[i]? =some u∧RelV x u
 | _,_,_,_,.nil,e=>by simp at e
 | _,_,0,_,.cons r _,e=>by simp at e; subst e; exact ⟨_,rfl,r⟩
 | _,_,i+1,x,.cons _ t,e=>by
  obtain ⟨u,h1,h2⟩:=Vals.get (i:=i) (x:=x) t (by simpa using e)
  exact ⟨u,by simpa using h1,h2⟩
theorem Vals.append:∀ {xs ys:List V} {us ws:List Value},Vals xs us→Vals ys ws→Vals (xs++ys) (us++ws)
 | _,_,_,_,.nil,s=>s
 | _,_,_,_,.cons r t,s=>.cons r (Vals.append t s)
theorem Vals.take:∀ {xs:List V} {us:List Value} (n:Nat),Vals xs us→Vals (xs.take n) (us.take n)
 | _,_,0,_=>.nil
 | _,_,_+1,.nil=>.nil
 | _,_,n+1,.cons r t=>.cons r (Vals.take n t)
theorem Vals.drop:∀ {xs:List V} {us:List Value} (n:Nat),Vals xs us→Vals (xs.drop n) (us.drop n)
 | _,_,0,r=>r
 | _,_,_+1,.nil=>.nil
 | _,_,n+1,.cons _ t=>Vals.drop n t
def RelO:Option V→Option Value→Prop
 | some v,some u=>RelV v u
 | none,none=>True
 | _,_=>False
def KV {κ:Type}:List (κ × V)→List (κ × Value)→Prop:=Paired fun (p:κ × V) (q:κ × Value)=>p.1=q.1∧RelV p.2 q.2
def kV:Key→V
 | .inl i=>.int i
 | .inr x=>.str x
inductive HO where
  | lst (xs:List V)
  | tup (xs:List V)
  | dK (kvs:List (Key × V)) | dT (kvs:List (List Key × V))
  | set (S:Int→Bool) (n:Nat)
  | ins (C dx:Addr) (fs:List (Str × V))
  | own (x:Addr)
  | xd (fs:List (Str × V))
  | met (f x:Addr)
  | rng (lo hi:Int)
  | frz (o:Obj) (u:HO)
  | tbl (ps:Array Value)
  | ext (φ:Heap→Prop)
abbrev Hp:=Addr→Option HO
def upd (H:Hp) (a:Addr) (o:HO):Hp:=fun b=>if b=a then some o else H b
theorem af {H:Hp} {a:Addr} {o:HO}:upd H a o a=some o:=by unfold upd; rw [if_pos rfl]
theorem am {H:Hp} {a b:Addr} {o:HO} (h:b≠a):upd H a o b=H b:=by unfold upd; rw [if_neg h]
theorem aB {H:Hp} {a b:Addr} {o:HO} (h:H a=some o) (h':H b=none):a≠b:=by
 intro e; subst e; rw [h] at h'; cases h'
section
variable (P:Program) (w:World)
def ObjOk (H:Hp) (h:Heap) (a:Addr):HO→Prop
 | .lst xs=>xs.length≤sizeLine∧∃ (its:List Value) (n:Nat),Vals xs its∧h.get? a=some { cls:=.type "list",data:=.seq its.toArray n }
 | .tup xs=>xs.length≤sizeLine∧∃ its:List Value,Vals xs its∧IsTup h a its.toArray
 | .dK kvs=>kvs.length≤sizeLine∧(a==sysModules)=false∧∃ vs,KV kvs vs∧h.DictOf (dz P w) a vs
 | .dT kvs=>kvs.length≤sizeLine∧(a==sysModules)=false∧∃ xs:List (List Key × Addr × Value),
   Paired (fun (p:List Key × V) (q:List Key × Addr × Value)=>p.1=q.1∧H q.2.1=some (.tup (p.1.map kV))∧RelV p.2 q.2.2) kvs xs∧
   ∃ o es ep,h.get? a=some o∧o.ExactDict∧o.data=.dict es ep∧es.toList=xs.map (entryOfKey (tupleKind (dz P w)))∧(xs.map (·.1)).Nodup
 | .set S n=>h.SetOf (intKind P w) a S n
 | .ins C dx fs=>H dx=some (.own a)∧fs.length≤1000∧dx≠a∧h.get? a=some (PySem.W.instObj C dx)∧
   ∃ mA,h.Ns1 dx mA∧(∀ f,RelO (fs.lookup f) (mA f))∧PySem.Within mA (fs.map (·.1))
 | .own _=>∃ o,h.get? a=some o
 | .xd fs=>∃ mA,h.Ns1 a mA∧∀ f,RelO (fs.lookup f) (mA f)
 | .rng lo hi=>∃ t u v,h.get? a=some { cls:=.type "range",data:=.fields #[.int lo t,.int hi u,.int 1 v] }
 | .frz o u=>h.get? a=some o∧ObjOk H h a u
 | .tbl ps=>h.get? a=some { cls:=.none,data:=.fields ps }
 | .met f x=>h.get? a=some (PySem.W.methodObj (.ref f) (.ref x))
 | .ext φ=>φ h∧(∃ o,h.get? a=some o)∧∀ h1 h2:Heap,φ h1→(∀ o,h1.get? a=some o→h2.get? a=some o)→φ h2
def HOk (H:Hp) (h:Heap):Prop:=∀ a o,H a=some o→ObjOk P w H h a o
end
section
variable {P:Program} {w:World} {H H':Hp} {h h':Heap} {a:Addr} {o:HO}
theorem ObjOk.lt (x:ObjOk P w H h a o):a < h.objs.size:=by
 cases o with
 | lst xs=>obtain ⟨_,_,_,_,e⟩:=x; exact Heap.lt_size e
 | tup xs=>obtain ⟨_,_,_,p⟩:=x; exact p.lt
 | dK kvs=>obtain ⟨_,_,_,_,o,_,_,e,_⟩:=x; exact Heap.lt_size e
 | dT kvs=>obtain ⟨_,_,_,_,o,_,_,e,_⟩:=x; exact Heap.lt_size e
 | set S n=>obtain ⟨o,_,_,_,e,_⟩:=x; exact Heap.lt_size e
 | ins C dx fs=>obtain ⟨_,_,_,e,_⟩:=x; exact Heap.lt_size e
 | own y=>obtain ⟨_,e⟩:=x; exact Heap.lt_size e
 | xd fs=>obtain ⟨_,⟨_,_,_,e,_⟩,_⟩:=x; exact Heap.lt_size e
 | rng lo hi=>obtain ⟨_,_,_,e⟩:=x; exact Heap.lt_size e
 | frz ob u=>obtain ⟨e,_⟩:=x; exact Heap.lt_size e
 | tbl ps=>exact Heap.lt_size (show h.get? a=some _ from x)
 | met f y=>exact Heap.lt_size (show h.get? a=some _ from x)
 | ext φ=>obtain ⟨_,⟨_,e⟩,_⟩:=x; exact Heap.lt_size e
theorem Paired.mapP {α β:Type} {F G:α→β→Prop}:∀ {l₁:List α} {l₂:List β},Paired F l₁ l₂→(∀ a b,F a b→G a b)→Paired G l₁ l₂
 | _,_,.nil,_=>.nil
 | _,_,.cons r t,f=>.cons (f _ _ r) (Paired.mapP t f)
theorem ObjOk.stay (x:ObjOk P w H h a o) (k:∀ b u,(b=a∨H b=some (.own a))→h.get? b=some u→h'.get? b=some u)
  (ho:∀ b,H b=some (.own a)→H' b=some (.own a)) (ht:∀ b xs,H b=some (.tup xs)→H' b=some (.tup xs)):ObjOk P w H' h' a o:=by
 induction o with
 | lst xs=>obtain ⟨z,its,n,r,e⟩:=x; exact ⟨z,its,n,r,k _ _ (.inl rfl) e⟩
 | tup xs=>obtain ⟨z,its,r,ob,e,c⟩:=x; exact ⟨z,its,r,ob,k _ _ (.inl rfl) e,c⟩
 | dK kvs=>obtain ⟨z,y,vs,r,ob,es,ep,e,c⟩:=x; exact ⟨z,y,vs,r,ob,es,ep,k _ _ (.inl rfl) e,c⟩
 | dT kvs=>
  obtain ⟨z,y,xs,r,ob,es,ep,e,c⟩:=x
  exact ⟨z,y,xs,Paired.mapP r fun p q z=>⟨z.1,ht _ _ z.2.1,z.2.2⟩,ob,es,ep,k _ _ (.inl rfl) e,c⟩
 | set S n=>obtain ⟨ob,es,ep,t,e,c⟩:=x; exact ⟨ob,es,ep,t,k _ _ (.inl rfl) e,c⟩
 | ins C dx fs=>
  obtain ⟨d,z,ne,e,mA,⟨od,es,ep,e2,c⟩,r⟩:=x
  exact ⟨ho _ d,z,ne,k _ _ (.inl rfl) e,mA,⟨od,es,ep,k _ _ (.inr d) e2,c⟩,r⟩
 | own y=>obtain ⟨ob,e⟩:=x; exact ⟨ob,k _ _ (.inl rfl) e⟩
 | xd fs=>obtain ⟨mA,⟨od,es,ep,e,c⟩,r⟩:=x; exact ⟨mA,⟨od,es,ep,k _ _ (.inl rfl) e,c⟩,r⟩
 | rng lo hi=>obtain ⟨t,u,v,e⟩:=x; exact ⟨t,u,v,k _ _ (.inl rfl) e⟩
 | frz ob u ih=>obtain ⟨e,q⟩:=x; exact ⟨k _ _ (.inl rfl) e,ih q⟩
 | tbl ps=>
  have e:h.get? a=some { cls:=.none,data:=.fields ps }:=x
  show h'.get? a=some { cls:=.none,data:=.fields ps }
  exact k a _ (.inl rfl) e
 | met f y=>
  have e:h.get? a=some (PySem.W.methodObj (.ref f) (.ref y)):=x
  show h'.get? a=some (PySem.W.methodObj (.ref f) (.ref y))
  exact k a _ (.inl rfl) e
 | ext φ=>obtain ⟨p,⟨o,e⟩,st⟩:=x; exact ⟨st _ _ p fun o q=>k _ _ (.inl rfl) q,⟨o,k _ _ (.inl rfl) e⟩,st⟩
theorem HOk.lt (x:HOk P w H h) (e:H a=some o):a < h.objs.size:=(x a o e).lt
theorem HOk.fresh (x:HOk P w H h) (e:h.objs.size≤a):H a=none:=by
 cases q:H a with
 | none=>rfl
 | some u=>exact absurd (Nat.lt_of_lt_of_le (x.lt q) e) (Nat.lt_irrefl _)
theorem HOk.kept (x:HOk P w H h) (k:∀ b u,h.get? b=some u→h'.get? b=some u):HOk P w H h':=fun a o e=>
 (x a o e).stay (fun b u _ q=>k b u q) (fun _ q=>q) fun _ _ q=>q
theorem HOk.laid (x:HOk P w H h) (k:∀ b u,h.get? b=some u→h'.get? b=some u) (hp:h.objs.size≤a) (new:ObjOk P w (upd H a o) h' a o):HOk P w (upd H a o) h':=fun b u e=>by
 have hn:=x.fresh hp
 by_cases hb:b=a
 · subst hb; rw [af] at e; cases e; exact new
 · rw [am hb] at e
   exact (x b u e).stay (fun c v _ q=>k c v q) (fun c q=>by rw [am (aB q hn)]; exact q) fun c xs q=>by rw [am (aB q hn)]; exact q
end
def Rd (H:Hp) (a:Addr) (u:HO):Prop:=H a=some u∨∃ o,H a=some (.frz o u)
theorem Rd.ok {P:Program} {w:World} {H:Hp} {h:Heap} {a:Addr} {u:HO} (r:Rd H a u) (x:HOk P w H h):ObjOk P w H h a u:=by
 rcases r with r | ⟨o,r⟩
 · exact x a u r
 · obtain ⟨_,q⟩:=x a _ r
   exact q
def Mut:Option HO→Prop
 | some (.lst _)=>True
 | some (.dK _)=>True
 | some (.dT _)=>True
 | some (.set _ _)=>True
 | some (.ins _ _ _)=>True
 | some (.ext _)=>True
 | _=>False
section
variable {P:Program} {w:World} {H:Hp} {h h':Heap} {x e:Addr} {o':HO}
theorem HOk.write (ok:HOk P w H h) (mu:Mut (H x)) (he:e=x∨H e=some (.own x)) (k:∀ b u,b≠e→h.get? b=some u→h'.get? b=some u) (heo:∃ u,h'.get? e=some u)
  (new:ObjOk P w (upd H x o') h' x o'):HOk P w (upd H x o') h':=fun b u q=>by
 have nown:∀ c y,H c=some (.own y)→c≠x:=fun c y r z=>by subst z; rw [r] at mu; exact mu
 have ntup:∀ c xs,H c=some (.tup xs)→c≠x:=fun c xs r z=>by subst z; rw [r] at mu; exact mu
 by_cases hb:b=x
 · subst hb; rw [af] at q; cases q; exact new
 · rw [am hb] at q
   by_cases hbe:b=e
   · have q':H b=some (.own x):=by
      rcases he with z | z
      · exact absurd (hbe.trans z) hb
      · rw [hbe]; exact z
     rw [q] at q'; cases q'
     obtain ⟨v,hv⟩:=heo
     exact ⟨v,by rw [hbe]; exact hv⟩
   · refine (ok b u q).stay (fun c v hc r=>k c v ?_ r) (fun c r=>by rw [am (nown c b r)]; exact r) fun c xs r=>by rw [am (ntup c xs r)]; exact r
     rcases hc with rfl | hc
     · exact hbe
     · rintro rfl
       rcases he with z | z
       · exact nown c b hc z
       · rw [hc] at z; cases z; exact hb rfl
end
structure Un (fs ex:List Addr) (H H':Hp) (h h':Heap):Prop where
 keep:∀ b o,h.get? b=some o→H b=none→b∉fs→b∉ex→h'.get? b=some o
 slot:∀ b o,h.get? b=some o→H b=none→b∈fs→b∉ex→∃ sl,h'.get? b=some { o with slots:=sl }
 free:∀ b o,h.get? b=some o→H b=none→b∉ex→H' b=none
 there:∀ b o,h.get? b=some o→b∉ex→∃ o',h'.get? b=some o'
 tups:∀ b xs,H b=some (.tup xs)→H' b=some (.tup xs)
 frzs:∀ b o u,H b=some (.frz o u)→H' b=some (.frz o u)
 tbls:∀ b ps,H b=some (.tbl ps)→∃ more,H' b=some (.tbl (ps++more))
section
variable {fs fs' ex ex':List Addr} {H H1 H2:Hp} {h h1 h2 h':Heap} {a x e:Addr} {o:HO}
theorem Un.any (u:Un fs ex H H1 h h1) {b:Addr} {ob:Obj} (q:h.get? b=some ob) (n:H b=none) (hx:b∉ex):∃ sl,h1.get? b=some { ob with slots:=sl }:=by
 by_cases hb:b∈fs
 · exact u.slot b ob q n hb hx
 · exact ⟨ob.slots,u.keep b ob q n hb hx⟩
theorem Un.trans (a:Un fs ex H H1 h h1) (b:Un fs ex H1 H2 h1 h2):Un fs ex H H2 h h2 where
 keep:=fun c ob q n hc hx=>b.keep c ob (a.keep c ob q n hc hx) (a.free c ob q n hx) hc hx
 slot:=fun c ob q n hc hx=>by
  obtain ⟨sl,e1⟩:=a.slot c ob q n hc hx
  obtain ⟨sl',e2⟩:=b.slot c _ e1 (a.free c ob q n hx) hc hx
  exact ⟨sl',e2⟩
 free:=fun c ob q n hx=>by
  obtain ⟨o',e1⟩:=a.there c ob q hx
  exact b.free c o' e1 (a.free c ob q n hx) hx
 there:=fun c ob q hx=>by
  obtain ⟨o',e1⟩:=a.there c ob q hx
  exact b.there c o' e1 hx
 tups:=fun c xs q=>b.tups c xs (a.tups c xs q)
 frzs:=fun c ob xs q=>b.frzs c ob xs (a.frzs c ob xs q)
 tbls:=fun c ps q=>by
  obtain ⟨m1,e1⟩:=a.tbls c ps q
  obtain ⟨m2,e2⟩:=b.tbls c _ e1
  exact ⟨m1++m2,by rw [e2,Array.append_assoc]⟩
theorem Un.kept (k:∀ b u,h.get? b=some u→h'.get? b=some u):Un fs ex H H h h':=
 ⟨fun b ob q _ _ _=>k b ob q,fun b ob q _ _ _=>⟨ob.slots,k b ob q⟩,fun _ _ _ n _=>n,fun b ob q _=>⟨ob,k b ob q⟩,fun _ _ q=>q,fun _ _ _ q=>q,fun _ ps q=>⟨#[],by rw [q]; simp⟩⟩
theorem Un.refl:Un fs ex H H h h:=Un.kept fun _ _ q=>q
theorem Un.laid (k:∀ b u,h.get? b=some u→h'.get? b=some u) (hp:h.objs.size≤a) (hn:H a=none):Un fs ex H (upd H a o) h h' where
 keep:=fun b u q _ _ _=>k b u q
 slot:=fun b u q _ _ _=>⟨u.slots,k b u q⟩
 free:=fun b u q n _=>by rw [am (Nat.ne_of_lt (Nat.lt_of_lt_of_le (Heap.lt_size q) hp))]; exact n
 there:=fun b u q _=>⟨u,k b u q⟩
 tups:=fun b xs q=>by rw [am (aB q hn)]; exact q
 frzs:=fun b u xs q=>by rw [am (aB q hn)]; exact q
 tbls:=fun b ps q=>⟨#[],by rw [am (aB q hn),q]; simp⟩
theorem Un.write (mu:Mut (H x)) (he:e=x∨H e=some (.own x)) (k:∀ b u,b≠e→h.get? b=some u→h'.get? b=some u) (heo:∃ u,h'.get? e=some u):Un fs ex H (upd H x o) h h':=by
 have hx:∀ b,H b=none→b≠x:=fun b n z=>by subst z; rw [n] at mu; exact mu
 have hb:∀ b,H b=none→b≠e:=fun b n z=>by
  subst z
  rcases he with r | r
  · exact hx b n r
  · rw [n] at r; cases r
 have hm:∀ b u,H b=some u→¬ Mut (some u)→b≠x:=fun b u q nm z=>by subst z; rw [q] at mu; exact nm mu
 refine ⟨fun b u q n _ _=>k b u (hb b n) q,fun b u q n _ _=>⟨u.slots,k b u (hb b n) q⟩,fun b u q n _=>by rw [am (hx b n)]; exact n,fun b u q _=>?_,
  fun b xs q=>by rw [am (hm b _ q fun z=>z)]; exact q,fun b u xs q=>by rw [am (hm b _ q fun z=>z)]; exact q,fun b ps q=>⟨#[],by rw [am (hm b _ q fun z=>z),q]; simp⟩⟩
 by_cases hbe:b=e
 · subst hbe; exact heo
 · exact ⟨u,k b u hbe q⟩
theorem Un.mono (u:Un fs ex H H1 h h1) (hs:∀ b∈fs,b∈fs') (hx:∀ b∈ex,b∈ex'):Un fs' ex' H H1 h h1:=
 ⟨fun b ob q n hb he=>u.keep b ob q n (fun z=>hb (hs b z)) fun z=>he (hx b z),fun _ _ q n _ he=>u.any q n fun z=>he (hx _ z),fun b ob q n he=>u.free b ob q n fun z=>he (hx b z),fun b ob q he=>u.there b ob q fun z=>he (hx b z),u.tups,u.frzs,u.tbls⟩
end
def trk (h:Heap) (H:Hp):List Addr:=(List.range h.objs.size).filter fun a=>(H a).isSome
def hidT (h:Heap) (H:Hp):Heap:=PySem.W.hideAll h (trk h H)
theorem sW (h:Heap) (H:Hp):(hidT h H).objs.size=h.objs.size:=PySem.W.hideAll_size _ _
theorem um {h:Heap} {H:Hp} {b:Addr} {o:Obj} (e:h.get? b=some o) (n:H b=none):(hidT h H).get? b=some o:=
 PySem.W.hideAll_get _ e fun hm=>by
  have q:(H b).isSome=true:=(List.mem_filter.mp hm).2
  rw [n] at q; simp at q
theorem vi {h:Heap} {H:Hp} {b:Addr} {o:Obj} (e:(hidT h H).get? b=some o):h.get? b=some o∧H b=none:=by
 have e':h.get? b=some o:=PySem.W.of_hideAll (trk h H) e
 refine ⟨e',?_⟩
 cases q:H b with
 | none=>rfl
 | some x=>
  have hm:b∈trk h H:=List.mem_filter.mpr ⟨List.mem_range.mpr (Heap.lt_size e'),by simp [q]⟩
  have z:(hidT h H).get? b=none:=PySem.W.hideAll_none (trk h H) hm
  rw [z] at e; cases e
end L2
namespace L2
open PySem PySem.Spec PyProof.Rows
structure Mod (K:PySem.W.Frag) (mg:Str→Option Value) (base:Heap):Prop where
 kin:K.In base
 glob:base.Ns mainGlobals mg
 blt:∃ mb,base.Ns builtinsNs mb∧∀ x:Str,x≠"__name__"→mb x=bootBuiltins x
 nolimit:base.NoLimit
structure Cx where
 prog:Program
 w:World
 K:PySem.W.Frag
 mg:Str→Option Value
 base:Heap
 A:Around
 N:List Str
 s₀:Shared
 H₀:Hp
 env:Env
 outer:List Env
 stack:List Env
 ex:List Addr
 fn:Str→Bool
 calm:Bool
 pn:List (Addr × Obj)
 xe:Value→Shared→Prop
def frs (l:List Env):List Addr:=l.filterMap (·.frame)
abbrev Cx.fs (X:Cx):List Addr:=frs X.outer
def Vis (sc:Scope) (x:Str):Prop:=sc.names.lookup x=some .local∨sc.names.lookup x=some .cell∨sc.names.lookup x=some .free
def Loc (sc:Scope) (x:Str):Prop:=sc.names.lookup x=some .local∨sc.names.lookup x=some .cell
def Look (env:Env) (h:Heap) (m:Str→Option Value) (x:Str) (u:Value):Prop:=
 (env.kindOf x=some .local∧m x=some u)∨((env.kindOf x=some .cell∨env.kindOf x=some .free)∧∃ c,env.cells.lookup x=some c∧h.IsCell c (some u))
structure Cx.Ok (X:Cx):Prop where
 mod:Mod X.K X.mg X.base
 kind:X.env.scope.kind=.function
 glob:X.env.globals=mainGlobals
 blt:X.env.builtins=builtinsNs
 above:X.s₀.heap.objs.size≤X.env.locals
 inj:∀ x y c,X.env.cells.lookup x=some c→X.env.cells.lookup y=some c→x=y
 has:∀ x,(X.env.kindOf x=some .cell∨X.env.kindOf x=some .free)→∃ c,X.env.cells.lookup x=some c
 cab:∀ x c,X.fn x=true→X.env.cells.lookup x=some c→X.s₀.heap.objs.size≤c
 hd:X.calm=true→X.A.handled=none
 frames:X.A.frames=some X.stack
 stk:X.stack=X.outer∨(X.stack=X.env::X.outer∧X.env.frame=some X.env.locals)
 exf:∀ b∈X.ex,b≠X.env.locals∧∀ x c,X.env.cells.lookup x=some c→c≠b
 bs:∀ b o,X.base.get? b=some o→X.s₀.heap.get? b=some o∧X.H₀ b=none
 bsz:X.base.objs.size≤X.s₀.heap.objs.size
 noex:∀ b o,X.base.get? b=some o→b∉X.ex
 exfs:∀ b∈X.ex,b∉X.fs
 funs:X.s₀.heap.FunFrames X.base X.outer
 frf:∀ b∈X.fs,X.H₀ b=none
structure Inv (X:Cx) (pins:List (Addr × Obj)) (σ:List (Option V)) (H:Hp) (s:Shared):Prop where
 ok:X.Ok
 os:s.os=X.s₀.os
 bare:AllBare s.gens
 base:Un X.fs X.ex X.H₀ H X.s₀.heap s.heap
 loc:∃ m,s.heap.Ns X.env.locals m∧∀ (i:Nat) (x:Str) (v:V),X.N[i]? =some x→σ[i]? =some (some v)→Vis X.env.scope x→∃ u,RelV v u∧Look X.env s.heap m x u
 cell:∀ x c,X.env.cells.lookup x=some c→∃ v,s.heap.IsCell c v
 free:H X.env.locals=none
 freeC:∀ x c,X.env.cells.lookup x=some c→H c=none
 pin:∀ p∈X.pn++pins,s.heap.get? p.1=some p.2∧H p.1=none∧p.1≠X.env.locals∧p.1∉X.fs∧∀ v,p.2.data≠.cell v
 hok:HOk X.prog X.w H s.heap
 len:σ.length=X.N.length
section
variable {X:Cx} {pins:List (Addr × Obj)} {σ:List (Option V)} {H H':Hp} {s:Shared} {h':Heap}
theorem Cx.Ok.nofr (ok:X.Ok) {b:Addr} {o:Obj} (e:X.base.get? b=some o):b∉X.fs:=fun hb=>by
 have:=(ok.funs.mem hb).1
 rw [e] at this; cases this
theorem Inv.bs (I:Inv X pins σ H s):∀ b o,X.base.get? b=some o→s.heap.get? b=some o∧H b=none:=fun b o e=>
 ⟨I.base.keep b o (I.ok.bs b o e).1 (I.ok.bs b o e).2 (I.ok.nofr e) (I.ok.noex b o e),I.base.free b o (I.ok.bs b o e).1 (I.ok.bs b o e).2 (I.ok.noex b o e)⟩
theorem Inv.bk (I:Inv X pins σ H s):∀ b o,X.base.get? b=some o→s.heap.get? b=some o:=fun b o e=>(I.bs b o e).1
theorem Inv.mod (I:Inv X pins σ H s):Mod X.K X.mg X.base:=I.ok.mod
theorem Inv.kIn (I:Inv X pins σ H s):X.K.In s.heap:=I.ok.mod.kin.keeps I.bk
theorem Inv.lt (I:Inv X pins σ H s):X.env.locals < s.heap.objs.size:=let ⟨_,hn,_⟩:=I.loc; hn.lt
theorem Inv.sz (I:Inv X pins σ H s):X.s₀.heap.objs.size≤s.heap.objs.size:=Nat.le_trans I.ok.above (Nat.le_of_lt I.lt)
theorem Inv.nofs (I:Inv X pins σ H s) {a:Addr} (h:s.heap.objs.size≤a):a∉X.fs:=fun hb=>by
 obtain ⟨_,o,ho,_⟩:=I.ok.funs.mem hb
 exact absurd (Nat.lt_of_lt_of_le (Heap.lt_size ho) (Nat.le_trans I.sz h)) (Nat.lt_irrefl _)
theorem Inv.cne (I:Inv X pins σ H s):∀ x c,X.env.cells.lookup x=some c→c≠X.env.locals:=fun x c e z=>by
 obtain ⟨v,o,ho,hd⟩:=I.cell x c e
 obtain ⟨m,⟨o',es,ep,ho',hd',_⟩,_⟩:=I.loc
 rw [z,ho'] at ho; cases ho; rw [hd'] at hd; cases hd
theorem Inv.funs (I:Inv X pins σ H s):s.heap.FunFrames X.base X.outer:=by
 have all:∀ (l:List Env),(∀ b∈frs l,b∈X.fs)→X.s₀.heap.FunFrames X.base l→s.heap.FunFrames X.base l:=by
  intro l
  induction l with
  | nil=>intro _ _; trivial
  | cons env r ih=>
   intro hs hl
   obtain ⟨hk,⟨L,o,hf,hn,ho,hd⟩,hr⟩:=hl
   have hL:L∈X.fs:=hs L (by unfold frs; rw [List.filterMap_cons,hf]; exact List.mem_cons_self)
   obtain ⟨sl,e⟩:=I.base.slot L o ho (I.ok.frf L hL) hL fun z=>I.ok.exfs L z hL
   exact ⟨hk,⟨L,_,hf,hn,e,hd⟩,ih (fun b hb=>hs b (by unfold frs; rw [List.filterMap_cons,hf]; exact List.mem_cons_of_mem _ hb)) hr⟩
 exact all X.outer (fun _ hb=>hb) I.ok.funs
theorem Inv.stack (I:Inv X pins σ H s):s.heap.FunFrames X.base X.stack:=by
 rcases I.ok.stk with e | ⟨e,hf⟩
 · rw [e]; exact I.funs
 · rw [e]
   obtain ⟨m,hn,_⟩:=I.loc
   refine .cons (by rw [I.ok.kind]; decide) hf hn ?_ I.funs
   exact Heap.get?_none_of_le (Nat.le_trans I.ok.bsz I.ok.above)
theorem Inv.stkSub (I:Inv X pins σ H s):∀ b∈frs X.stack,b∈X.env.locals::X.fs:=fun b hb=>by
 rcases I.ok.stk with e | ⟨e,hf⟩
 · rw [e] at hb; exact List.mem_cons_of_mem _ hb
 · rw [e] at hb
   unfold frs at hb
   rw [List.filterMap_cons,hf] at hb
   exact hb
theorem Inv.stkFree (I:Inv X pins σ H s):∀ b∈frs X.stack,H b=none:=fun b hb=>by
 rcases List.mem_cons.mp (I.stkSub b hb) with e | hb
 · rw [e]; exact I.free
 · obtain ⟨_,o,ho,_⟩:=I.ok.funs.mem hb
   exact I.base.free b o ho (I.ok.frf b hb) fun z=>I.ok.exfs b z hb
theorem Inv.step {g':Array GenState} {t':Nat} {d':Drawn} {ch:List Addr} (I:Inv X pins σ H s)
  (hch:∀ b∈ch,(b∈X.ex∨X.s₀.heap.objs.size≤b)∧b≠X.env.locals∧(∀ x c,X.env.cells.lookup x=some c→c≠b)∧∀ p∈X.pn++pins,p.1≠b)
  (keep:∀ b o,b≠X.env.locals→b∉X.fs→b∉ch→s.heap.get? b=some o→H b=none→h'.get? b=some o)
  (slot:∀ b o,b≠X.env.locals→b∈X.fs→b∉ch→s.heap.get? b=some o→H b=none→∃ sl,h'.get? b=some { o with slots:=sl }) (free:∀ b o,b∉ch→s.heap.get? b=some o→H b=none→H' b=none)
  (there:∀ b o,b∉ch→s.heap.get? b=some o→∃ o',h'.get? b=some o')
  (tups:∀ b xs,H b=some (.tup xs)→H' b=some (.tup xs)) (frzs:∀ b o u,H b=some (.frz o u)→H' b=some (.frz o u)) (tbls:∀ b ps,H b=some (.tbl ps)→∃ more,H' b=some (.tbl (ps++more)))
  (ns:∀ m,s.heap.Ns X.env.locals m→h'.Ns X.env.locals m) (hok:HOk X.prog X.w H' h') (hg:AllBare g'):
  Inv X pins σ H' { s with heap:=h',gens:=g',drawn:=d',toks:=t' }:=by
 have neL:∀ b o,X.s₀.heap.get? b=some o→b≠X.env.locals:=fun b o e=>Nat.ne_of_lt (Nat.lt_of_lt_of_le (Heap.lt_size e) I.ok.above)
 have neC:∀ b o,X.s₀.heap.get? b=some o→b∉X.ex→b∉ch:=fun b o e hx hb=>by
  rcases (hch b hb).1 with z | z
  · exact hx z
  · exact absurd (Nat.lt_of_lt_of_le (Heap.lt_size e) z) (Nat.lt_irrefl _)
 have cellK:∀ x c,X.env.cells.lookup x=some c→∀ v,s.heap.IsCell c v→h'.IsCell c v:=fun x c e v ⟨o,ho,hd⟩=>by
  have nch:c∉ch:=fun z=>(hch c z).2.2.1 x c e rfl
  by_cases hc:c∈X.fs
  · obtain ⟨sl,q⟩:=slot c o (I.cne x c e) hc nch ho (I.freeC x c e)
    exact ⟨_,q,hd⟩
  · exact ⟨o,keep c o (I.cne x c e) hc nch ho (I.freeC x c e),hd⟩
 refine ⟨I.ok,I.os,hg,⟨fun b o e n hb hx=>?_,fun b o e n hb hx=>?_,fun b o e n hx=>?_,fun b o e hx=>?_,fun b xs e=>tups b xs (I.base.tups b xs e),fun b o xs e=>frzs b o xs (I.base.frzs b o xs e),fun b ps e=>?_⟩,?_,fun x c e=>?_,?_,fun x c e=>?_,fun p hp=>?_,hok,I.len⟩
 · exact keep b o (neL b o e) hb (neC b o e hx) (I.base.keep b o e n hb hx) (I.base.free b o e n hx)
 · obtain ⟨sl,e1⟩:=I.base.slot b o e n hb hx
   obtain ⟨sl',e2⟩:=slot b _ (neL b o e) hb (neC b o e hx) e1 (I.base.free b o e n hx)
   exact ⟨sl',e2⟩
 · obtain ⟨o',e1⟩:=I.base.there b o e hx
   exact free b o' (neC b o e hx) e1 (I.base.free b o e n hx)
 · obtain ⟨o',e1⟩:=I.base.there b o e hx
   exact there b o' (neC b o e hx) e1
 · obtain ⟨m1,e1⟩:=I.base.tbls b ps e
   obtain ⟨m2,e2⟩:=tbls b _ e1
   exact ⟨m1++m2,by rw [e2,Array.append_assoc]⟩
 · obtain ⟨m,hn,hl⟩:=I.loc
   refine ⟨m,ns m hn,fun i x v e1 e2 e3=>?_⟩
   obtain ⟨u,r,l⟩:=hl i x v e1 e2 e3
   refine ⟨u,r,?_⟩
   rcases l with l | ⟨k,c,e,z⟩
   · exact .inl l
   · exact .inr ⟨k,c,e,cellK x c e _ z⟩
 · obtain ⟨v,z⟩:=I.cell x c e
   exact ⟨v,cellK x c e v z⟩
 · obtain ⟨m,⟨o,_,_,ho,_⟩,_⟩:=I.loc
   exact free _ o (fun z=>(hch _ z).2.1 rfl) ho I.free
 · obtain ⟨v,o,ho,hd⟩:=I.cell x c e
   exact free c o (fun z=>(hch c z).2.2.1 x c e rfl) ho (I.freeC x c e)
 · obtain ⟨e,n,ne,nf,d⟩:=I.pin p hp
   have nch:p.1∉ch:=fun z=>(hch p.1 z).2.2.2 p hp rfl
   exact ⟨keep p.1 p.2 ne nf nch e n,free p.1 p.2 nch e n,ne,nf,d⟩
theorem Inv.un {t':Nat} (I:Inv X pins σ H s) (u:Un X.fs [] H H' s.heap h') (hok:HOk X.prog X.w H' h'):Inv X pins σ H' { s with heap:=h',toks:=t' }:=by
 obtain ⟨m,⟨o,es,ep,ho,r⟩,_⟩:=id I.loc
 obtain ⟨sl,hL⟩:=u.any ho I.free (by simp)
 exact I.step (g':=s.gens) (d':=s.drawn) (ch:=[]) (fun _ z=>nomatch z) (fun b o _ hb _ e n=>u.keep b o e n hb (by simp)) (fun b o _ hb _ e n=>u.slot b o e n hb (by simp)) (fun b o _ e n=>u.free b o e n (by simp)) (fun b o _ e=>u.there b o e (by simp)) u.tups u.frzs u.tbls (fun m' hm=>by
  obtain ⟨o',es',ep',ho',r'⟩:=hm
  rw [ho] at ho'; cases ho'
  exact ⟨_,es',ep',hL,r'⟩) hok I.bare
theorem Inv.call {g':Array GenState} {t':Nat} {d':Drawn} {ch:List Addr} (I:Inv X pins σ H s) (u:Un (frs X.stack) ch H H' s.heap h') (hok:HOk X.prog X.w H' h') (hg:AllBare g')
  (hch:∀ b∈ch,(b∈X.ex∨X.s₀.heap.objs.size≤b)∧b≠X.env.locals∧(∀ x c,X.env.cells.lookup x=some c→c≠b)∧∀ p∈X.pn++pins,p.1≠b):
  Inv X pins σ H' { s with heap:=h',gens:=g',drawn:=d',toks:=t' }:=by
 obtain ⟨m,⟨o,es,ep,ho,r⟩,_⟩:=id I.loc
 obtain ⟨sl,hL⟩:=u.any ho I.free fun z=>(hch _ z).2.1 rfl
 exact I.step (ch:=ch) hch (fun b o hL hb hc e n=>u.keep b o e n (fun z=>(List.mem_cons.mp (I.stkSub b z)).elim hL hb) hc) (fun b o _ _ hc e n=>u.any e n hc) (fun b o hc e n=>u.free b o e n hc) (fun b o hc e=>u.there b o e hc) u.tups u.frzs u.tbls (fun m' hm=>by
  obtain ⟨o',es',ep',ho',r'⟩:=hm
  rw [ho] at ho'; cases ho'
  exact ⟨_,es',ep',hL,r'⟩) hok hg
theorem Inv.turned {t':Nat} {it:Addr} (I:Inv X pins σ H s) (k:∀ b o,b≠it→s.heap.get? b=some o→h'.get? b=some o) (hn:H it=none) (hL:it≠X.env.locals)
  (h1:it∈X.ex∨X.s₀.heap.objs.size≤it) (h2:∀ x c,X.env.cells.lookup x=some c→c≠it) (h3:∀ p∈X.pn++pins,p.1≠it):Inv X pins σ H { s with heap:=h',toks:=t' }:=by
 have nit:∀ b u,H b=some u→b≠it:=fun b u e z=>by rw [z,hn] at e; cases e
 refine I.step (g':=s.gens) (d':=s.drawn) (ch:=[it]) (fun b hb=>?_) (fun b o _ _ hc e _=>k b o (fun z=>hc (by simp [z])) e) (fun b o _ _ hc e _=>⟨o.slots,k b o (fun z=>hc (by simp [z])) e⟩) (fun _ _ _ _ n=>n)
  (fun b o hc e=>⟨o,k b o (fun z=>hc (by simp [z])) e⟩) (fun _ _ e=>e) (fun _ _ _ e=>e) (fun b ps e=>⟨#[],by rw [e]; simp⟩) (fun m hm=>?_) (fun b u e=>?_) I.bare
 · have e:b=it:=by simpa using hb
   subst e
   exact ⟨h1,hL,h2,h3⟩
 · obtain ⟨o,es,ep,ho,r⟩:=hm
   exact ⟨o,es,ep,k _ o (Ne.symm hL) ho,r⟩
 · refine (I.hok b u e).stay (fun c v hc q=>k c v ?_ q) (fun _ q=>q) fun _ _ q=>q
   rcases hc with z | z
   · rw [z]; exact nit b u e
   · exact nit c _ z
theorem Inv.tok (I:Inv X pins σ H s) (t:Nat):Inv X pins σ H { s with toks:=t }:=I.un (h':=s.heap) (t':=t) Un.refl I.hok
theorem Inv.kept {t':Nat} (I:Inv X pins σ H s) (k:∀ b u,s.heap.get? b=some u→h'.get? b=some u):Inv X pins σ H { s with heap:=h',toks:=t' }:=I.un (Un.kept k) (I.hok.kept k)
theorem Inv.laid {a:Addr} {o:HO} {t':Nat} (I:Inv X pins σ H s) (k:∀ b u,s.heap.get? b=some u→h'.get? b=some u) (hp:s.heap.objs.size≤a) (new:ObjOk X.prog X.w (upd H a o) h' a o):
  Inv X pins σ (upd H a o) { s with heap:=h',toks:=t' }:=I.un (Un.laid k hp (I.hok.fresh hp)) (I.hok.laid k hp new)
theorem Inv.write {x e:Addr} {o:HO} {t':Nat} (I:Inv X pins σ H s) (mu:Mut (H x)) (he:e=x∨H e=some (.own x)) (k:∀ b u,b≠e→s.heap.get? b=some u→h'.get? b=some u) (heo:∃ u,h'.get? e=some u)
  (new:ObjOk X.prog X.w (upd H x o) h' x o):Inv X pins σ (upd H x o) { s with heap:=h',toks:=t' }:=I.un (Un.write mu he k heo) (I.hok.write mu he k heo new)
theorem Inv.pins_of {pins':List (Addr × Obj)} (I:Inv X pins σ H s) (h:∀ p∈pins',s.heap.get? p.1=some p.2∧H p.1=none∧p.1≠X.env.locals∧p.1∉X.fs∧∀ v,p.2.data≠.cell v):Inv X pins' σ H s:=
 ⟨I.ok,I.os,I.bare,I.base,I.loc,I.cell,I.free,I.freeC,fun p hp=>(List.mem_append.mp hp).elim (fun z=>I.pin p (List.mem_append_left _ z)) (h p),I.hok,I.len⟩
theorem mj {N:List Str} (hN:N.Nodup) {i j:Nat} {x:Str} (a:N[i]? =some x) (b:N[j]? =some x):i=j:=by
 obtain ⟨h1,e1⟩:=List.getElem?_eq_some_iff.mp a
 obtain ⟨h2,e2⟩:=List.getElem?_eq_some_iff.mp b
 exact (List.getElem_inj hN).mp (e1.trans e2.symm)
theorem oR {M:Model} {A:Around} {E:Value→Shared→Prop} {i:Nat} {x:Str} {v:V} {u:Value} {Q:Unit→Shared→Prop} (I:Inv X pins σ H s) (hN:X.N.Nodup) (hi:X.N[i]? =some x) (hx:Loc X.env.scope x) (r:RelV v u)
  (h:∀ s',Inv X pins (σ.set i (some v)) H s'→(∃ a,Heap.SameBut a s.heap s'.heap∧(a=X.env.locals∨X.env.cells.lookup x=some a))→Q () s') (hf:X.fn x=true∨X.env.scope.names.lookup x=some .local:=by first | exact .inl rfl | exact .inr rfl | assumption):wpAny M A (storeName X.env x u) Q E s:=by
 obtain ⟨m,hn,hl⟩:=id I.loc
 have hcls:(X.env.scope.kind==.class||(X.env.scope.kind==.module&&X.env.locals != X.env.globals))=false:=by rw [I.ok.kind]; rfl
 have hiσ:i < σ.length:=by rw [I.len]; exact (List.getElem?_eq_some_iff.mp hi).1
 have cne:=I.cne
 have tracked:∀ {a:Addr} {h':Heap},(∃ o,s.heap.get? a=some o∧H a=none)→Heap.SameBut a s.heap h'→HOk X.prog X.w H h':=fun {a h'} ha hs b ob e=>by
  obtain ⟨_,_,hfree⟩:=ha
  refine (I.hok b ob e).stay (fun c w' hc q=>(hs.2 c ?_).trans q) (fun _ q=>q) fun _ _ q=>q
  rintro rfl
  rcases hc with rfl | hc
  · rw [hfree] at e; cases e
  · rw [hfree] at hc; cases hc
 rcases hx with hk | hk
 · refine wpAny_storeName_local hk hn (fun h' hn' hs=>?_) hcls
   obtain ⟨oL,_,_,hoL,_⟩:=id hn
   refine h _ ⟨I.ok,I.os,I.bare,⟨fun b o e n hb hx=>?_,fun b o e n hb hx=>?_,I.base.free,fun b o e hx=>?_,I.base.tups,I.base.frzs,I.base.tbls⟩,⟨_,hn',fun j y v' e1 e2 e3=>?_⟩,fun y c e=>?_,I.free,I.freeC,fun p hp=>?_,tracked ⟨oL,hoL,I.free⟩ hs,by simpa using I.len⟩ ⟨_,hs,.inl rfl⟩
   · exact (hs.2 b (Nat.ne_of_lt (Nat.lt_of_lt_of_le (Heap.lt_size e) I.ok.above))).trans (I.base.keep b o e n hb hx)
   · obtain ⟨sl,e1⟩:=I.base.slot b o e n hb hx
     exact ⟨sl,(hs.2 b (Nat.ne_of_lt (Nat.lt_of_lt_of_le (Heap.lt_size e) I.ok.above))).trans e1⟩
   · obtain ⟨o',e1⟩:=I.base.there b o e hx
     exact ⟨o',(hs.2 b (Nat.ne_of_lt (Nat.lt_of_lt_of_le (Heap.lt_size e) I.ok.above))).trans e1⟩
   · by_cases hj:j=i
     · subst hj
       rw [hi] at e1; cases e1
       rw [List.getElem?_set_self hiσ] at e2
       cases e2
       exact ⟨u,r,.inl ⟨hk,by simp⟩⟩
     · rw [List.getElem?_set_ne (Ne.symm hj)] at e2
       obtain ⟨u',r',q⟩:=hl j y v' e1 e2 e3
       refine ⟨u',r',?_⟩
       rcases q with ⟨k,e⟩ | ⟨k,c,e,z⟩
       · refine .inl ⟨k,?_⟩
         have:y≠x:=fun e=>hj (mj hN e1 (e ▸ hi))
         simp [this,e]
       · exact .inr ⟨k,c,e,z.sameBut hs (cne y c e)⟩
   · obtain ⟨w',z⟩:=I.cell y c e
     exact ⟨w',z.sameBut hs (cne y c e)⟩
   · obtain ⟨e,n,ne,nf,d⟩:=I.pin p hp
     exact ⟨(hs.2 p.1 ne).trans e,n,ne,nf,d⟩
 · have hfn:X.fn x=true:=by
    rcases hf with z | z
    · exact z
    · rw [z] at hk; cases hk
   obtain ⟨c,hc⟩:=I.ok.has x (.inl hk)
   obtain ⟨w',z⟩:=I.cell x c hc
   refine wpAny_storeName_cell I.ok.kind hk hc z (fun h' hc' hs=>?_)
   obtain ⟨oc,hoc,hocd⟩:=id z
   refine h { s with heap:=h' } ⟨I.ok,I.os,I.bare,⟨fun b o e n hb hx=>?_,fun b o e n hb hx=>?_,I.base.free,fun b o e hx=>?_,I.base.tups,I.base.frzs,I.base.tbls⟩,⟨m,hn.sameBut hs (Ne.symm (cne x c hc)),fun j y v' e1 e2 e3=>?_⟩,fun y c' e=>?_,I.free,I.freeC,fun p hp=>?_,tracked ⟨oc,hoc,I.freeC x c hc⟩ hs,by simpa using I.len⟩ ⟨c,hs,.inr hc⟩
   · exact (hs.2 b (Nat.ne_of_lt (Nat.lt_of_lt_of_le (Heap.lt_size e) (I.ok.cab x c hfn hc)))).trans (I.base.keep b o e n hb hx)
   · obtain ⟨sl,e1⟩:=I.base.slot b o e n hb hx
     exact ⟨sl,(hs.2 b (Nat.ne_of_lt (Nat.lt_of_lt_of_le (Heap.lt_size e) (I.ok.cab x c hfn hc)))).trans e1⟩
   · obtain ⟨o',e1⟩:=I.base.there b o e hx
     exact ⟨o',(hs.2 b (Nat.ne_of_lt (Nat.lt_of_lt_of_le (Heap.lt_size e) (I.ok.cab x c hfn hc)))).trans e1⟩
   · by_cases hj:j=i
     · subst hj
       rw [hi] at e1; cases e1
       rw [List.getElem?_set_self hiσ] at e2
       cases e2
       exact ⟨u,r,.inr ⟨.inl hk,c,hc,hc'⟩⟩
     · rw [List.getElem?_set_ne (Ne.symm hj)] at e2
       obtain ⟨u',r',q⟩:=hl j y v' e1 e2 e3
       refine ⟨u',r',?_⟩
       rcases q with q | ⟨k,c',e,z'⟩
       · exact .inl q
       · refine .inr ⟨k,c',e,z'.sameBut hs ?_⟩
         rintro rfl
         exact hj (mj hN e1 (I.ok.inj _ _ _ e hc ▸ hi))
   · by_cases hcc:c'=c
     · subst hcc; exact ⟨_,hc'⟩
     · obtain ⟨w2,z2⟩:=I.cell y c' e
       exact ⟨w2,z2.sameBut hs hcc⟩
   · obtain ⟨e,n,ne,nf,d⟩:=I.pin p hp
     refine ⟨(hs.2 p.1 ?_).trans e,n,ne,nf,d⟩
     intro q
     rw [q,hoc] at e
     have q':oc=p.2:=Option.some.inj e
     exact d w' (by rw [← q']; exact hocd)
theorem ml {M:Model} {A:Around} {E:Value→Shared→Prop} {i:Nat} {x:Str} {v:V} {u:Value} {Q:Unit→Shared→Prop} (I:Inv X pins σ H s) (hN:X.N.Nodup) (hi:X.N[i]? =some x) (hx:Loc X.env.scope x) (r:RelV v u)
  (h:∀ s',Inv X pins (σ.set i (some v)) H s'→Q () s') (hf:X.fn x=true∨X.env.scope.names.lookup x=some .local:=by first | exact .inl rfl | exact .inr rfl | assumption):wpAny M A (storeName X.env x u) Q E s:=
 oR I hN hi hx r (fun s' I' _=>h s' I') hf
theorem Inv.call' {s':Shared} {ch:List Addr} (I:Inv X pins σ H s) (ho:s'.os=s.os) (u:Un (frs X.stack) ch H H' s.heap s'.heap) (hok:HOk X.prog X.w H' s'.heap) (hg:AllBare s'.gens)
  (hch:∀ b∈ch,(b∈X.ex∨X.s₀.heap.objs.size≤b)∧b≠X.env.locals∧(∀ x c,X.env.cells.lookup x=some c→c≠b)∧∀ p∈X.pn++pins,p.1≠b):Inv X pins σ H' s':=by
 obtain ⟨h',g',d',t',o'⟩:=s'
 have e:o'=s.os:=ho
 subst e
 exact I.call (g':=g') (t':=t') (d':=d') u hok hg hch
end
abbrev XK:=Value→Option Addr→Hp→Prop
abbrev St:=List (Option V)
abbrev VK:=V→Hp→Prop
abbrev TE:=St→Hp→VK→Prop
abbrev TT:=St→Hp→(Bool→Hp→Prop)→Prop
abbrev TA:=St→Hp→(List V→Hp→Prop)→Prop
structure Ends where
 nx:St→Hp→Prop
 rt:VK
 bk:St→Hp→Prop:=fun _ _=>False
 ct:St→Hp→Prop:=fun _ _=>False
abbrev TS:=Ends→St→Hp→Prop
def EP (X:Cx) (pins:List (Addr × Obj)) (σ:St) (Q:VK) (u:Value) (s':Shared):Prop:=∃ v H',Inv X pins σ H' s'∧RelV v u∧Q v H'
def TP (X:Cx) (pins:List (Addr × Obj)) (σ:St) (Q:Bool→Hp→Prop) (b:Bool) (s':Shared):Prop:=∃ H',Inv X pins σ H' s'∧Q b H'
def AP (X:Cx) (pins:List (Addr × Obj)) (σ:St) (Q:List V→Hp→Prop) (us:List Value) (s':Shared):Prop:=∃ vs H',Inv X pins σ H' s'∧Vals vs us∧Q vs H'
def SP (X:Cx) (pins:List (Addr × Obj)) (D:Ends) (f:Flow) (s':Shared):Prop:=
 match f with
 | .next=>∃ σ' H',Inv X pins σ' H' s'∧D.nx σ' H'
 | .brk=>∃ σ' H',Inv X pins σ' H' s'∧D.bk σ' H'
 | .cont=>∃ σ' H',Inv X pins σ' H' s'∧D.ct σ' H'
 | .ret u=>∃ v σ' H',Inv X pins σ' H' s'∧RelV v u∧D.rt v H'
def PE (X:Cx) (e:Expr) (t:TE):Prop:=
 ∀ (pins:List (Addr × Obj)) (s:Shared) (σ:St) (H:Hp) (Q:VK),Inv X pins σ H s→t σ H Q→wpAny (model X.prog X.w) X.A (eval e X.env) (EP X pins σ Q) X.xe s
def PT (X:Cx) (e:Expr) (t:TT):Prop:=
 ∀ (pins:List (Addr × Obj)) (s:Shared) (σ:St) (H:Hp) (Q:Bool→Hp→Prop),Inv X pins σ H s→t σ H Q→wpAny (model X.prog X.w) X.A (isTrue e X.env (eval e X.env)) (TP X pins σ Q) X.xe s
def PW (X:Cx) (e:Expr) (t:TT):Prop:=
 ∀ (whole:Sem Value) (pins:List (Addr × Obj)) (s:Shared) (σ:St) (H:Hp) (Q:Bool→Hp→Prop),Inv X pins σ H s→t σ H Q→wpAny (model X.prog X.w) X.A (isTrue e X.env whole) (TP X pins σ Q) X.xe s
theorem PW.pt {X:Cx} {e:Expr} {t:TT} (h:PW X e t):PT X e t:=h _
def PA (X:Cx) (es:List Expr) (t:TA):Prop:=
 ∀ (pos:Pos) (pins:List (Addr × Obj)) (s:Shared) (σ:St) (H:Hp) (Q:List V→Hp→Prop),Inv X pins σ H s→t σ H Q→wpAny (model X.prog X.w) X.A (spliced (backTo pos (starEach es X.env))) (AP X pins σ Q) X.xe s
def PS (X:Cx) (st:Stmt) (t:TS):Prop:=
 ∀ (pins:List (Addr × Obj)) (s:Shared) (σ:St) (H:Hp) (D:Ends),Inv X pins σ H s→t D σ H→wpAny (model X.prog X.w) X.A (exec st X.env) (SP X pins D) X.xe s
def PSs (X:Cx) (st:List Stmt) (t:TS):Prop:=
 ∀ (pins:List (Addr × Obj)) (s:Shared) (σ:St) (H:Hp) (D:Ends),Inv X pins σ H s→t D σ H→wpAny (model X.prog X.w) X.A (execs st X.env) (SP X pins D) X.xe s
theorem thn {α:Type} {t:Sem α} {Q Q':α→Shared→Prop} {M:Model} {A:Around} {E:Value→Shared→Prop} {s:Shared} (h:wpAny M A t Q E s) (hQ:∀ a s,Q a s→Q' a s):wpAny M A t Q' E s:=wpAny_mono h hQ fun _ _ x=>x
end L2
namespace L2
open PySem PySem.Spec PyProof.Rows
section
variable {X:Cx}
def tVar (i:Nat):TE:=fun σ H Q=>∃ v,σ[i]? =some (some v)∧Q v H
def tC (v:V):TE:=fun _ H Q=>Q v H
theorem we {i:Nat} {x:Str} {pos:Pos} (hN:X.N[i]? =some x) (hv:Vis X.env.scope x) (hd:(x==("__debug__":Str))=false:=by decide) (hcd:(x==("__classdict__":Str))=false:=by decide):PE X (.Name x pos) (tVar i):=by
 intro pins s σ H Q I h
 obtain ⟨v,e,h⟩:=h
 obtain ⟨m,hn,hl⟩:=I.loc
 obtain ⟨u,r,l⟩:=hl i x v hN e hv
 have fin:EP X pins σ Q u s:=⟨v,H,I,r,h⟩
 rcases l with ⟨hk,hm⟩ | ⟨hk,c,hc,hcell⟩
 · exact wpAny_Name (wpAny_loadName_local I.ok.kind hk hn hm fin) hd
 · rcases hk with hk | hk
   · exact wpAny_Name (wpAny_loadName_cell I.ok.kind hk hc hcell fin) hd
   · exact wpAny_Name (wpAny_loadName_free I.ok.kind hk hc hcell fin hcd) hd
theorem ae {i j pos}:PE X (.Constant (.int i) j pos) (tC (.int i)):=fun _ _ _ H _ I h=>wpAny_Constant_int ⟨.int i,H,I.tok _,⟨_,rfl⟩,h⟩
theorem pX {b j pos}:PE X (.Constant (.bool b) j pos) (tC (.bl b)):=fun _ _ _ H _ I h=>Constant_bool ⟨.bl b,H,I,rfl,h⟩
theorem jS {j pos}:PE X (.Constant .none j pos) (tC .non):=fun _ _ _ H _ I h=>Constant_none ⟨.non,H,I,rfl,h⟩
theorem ah {x j pos}:PE X (.Constant (.str x) j pos) (tC (.str x)):=fun _ _ _ H _ I h=>Calls.Constant_str ⟨.str x,H,I.tok _,⟨_,rfl⟩,h⟩
def Gl (X:Cx) (x:Str):Prop:=X.env.kindOf x=some .globalImplicit
theorem i4 {E:Value→Shared→Prop} {pins:List (Addr × Obj)} {s:Shared} {σ:St} {H:Hp} {x:Str} {u:Value} {pos:Pos} {Q:Value→Shared→Prop} (I:Inv X pins σ H s) (hg:Gl X x) (hm:X.mg x=some u) (h:Q u s)
  (hd:(x==("__debug__":Str))=false:=by decide):wpAny (model X.prog X.w) X.A (eval (.Name x pos) X.env) Q E s:=
 Calls.Name_function_global I.ok.kind hg (Calls.loadGlobal_global (by rw [I.ok.glob]; exact I.mod.glob.keeps I.bk) hm h) hd
theorem iw {E:Value→Shared→Prop} {pins:List (Addr × Obj)} {s:Shared} {σ:St} {H:Hp} {x:Str} {u:Value} {pos:Pos} {Q:Value→Shared→Prop} (I:Inv X pins σ H s) (hg:Gl X x) (hm:X.mg x=none) (hv:bootBuiltins x=some u) (h:Q u s)
  (hn:x≠"__name__":=by decide) (hd:(x==("__debug__":Str))=false:=by decide):wpAny (model X.prog X.w) X.A (eval (.Name x pos) X.env) Q E s:=by
 obtain ⟨mb,h1,h2⟩:=I.mod.blt
 exact Calls.Name_function_global I.ok.kind hg (Calls.loadGlobal_builtin (by rw [I.ok.glob]; exact I.mod.glob.keeps I.bk) hm (by rw [I.ok.blt]; exact h1.keeps I.bk) ((h2 x hn).trans hv) h) hd
theorem aU {x:Str} {v:V} {u:Value} {pos:Pos} (hg:Gl X x) (hm:X.mg x=some u) (r:RelV v u) (hd:(x==("__debug__":Str))=false:=by decide):PE X (.Name x pos) (tC v):=
 fun _ _ _ H _ I h=>i4 I hg hm ⟨v,H,I,r,h⟩ hd
theorem gh {x:Str} {v:V} {u:Value} {pos:Pos} (hg:Gl X x) (hm:X.mg x=none) (hv:bootBuiltins x=some u) (r:RelV v u) (hn:x≠"__name__":=by decide) (hd:(x==("__debug__":Str))=false:=by decide):PE X (.Name x pos) (tC v):=
 fun _ _ _ H _ I h=>iw I hg hm hv ⟨v,H,I,r,h⟩ hn hd
variable {a b:Expr} {ta tb:TE} {pos:Pos}
def tB (t:TE):TT:=fun σ H Q=>t σ H fun x H1=>∃ c,x=.bl c∧Q c H1
theorem cF {e:Expr} {t:TE} (h:PE X e t) (he:∀ whole,isTrue e X.env whole=(do let v ← whole; standAt e.pos; holding [v] (truthy v)):=by intro _; rfl):PT X e (tB t):=by
 intro pins s σ H Q I hw
 refine isTrue_plain (thn (h pins s σ H _ I hw) fun v s1 ⟨x,H1,I1,r1,q1⟩=>?_) (he _)
 obtain ⟨d,rfl,q⟩:=q1
 cases r1
 exact wpAny_truthy_bool ⟨H1,I1,q⟩
variable {tA tB':TT} {rest:List Expr}
def tAnd (t u:TT):TT:=fun σ H Q=>t σ H fun c H1=>if c=true then u σ H1 Q else Q false H1
def tOr (t u:TT):TT:=fun σ H Q=>t σ H fun c H1=>if c=true then Q true H1 else u σ H1 Q
def tNot (t:TT):TT:=fun σ H Q=>t σ H fun c H1=>Q (!c) H1
theorem rF (ha:PT X a tA):PW X (.BoolOp .And [a] pos) tA:=by
 intro wh pins s σ H Q I h
 refine isTrue_and (thn (ha pins s σ H Q I h) fun c s1 e=>?_)
 cases c with
 | true=>exact isTrue_and_nil e
 | false=>exact e
theorem jT (ha:PT X a tA):PW X (.BoolOp .Or [a] pos) tA:=by
 intro wh pins s σ H Q I h
 refine isTrue_or (thn (ha pins s σ H Q I h) fun c s1 e=>?_)
 cases c with
 | false=>exact isTrue_or_nil e
 | true=>exact e
theorem sX (ha:PT X a tA) (hb:PW X (.BoolOp .And (b::rest) pos) tB'):PW X (.BoolOp .And (a::b::rest) pos) (tAnd tA tB'):=by
 intro wh pins s σ H Q I h
 refine isTrue_and (thn (ha pins s σ H _ I h) fun c s1 ⟨H1,I1,q1⟩=>?_)
 cases c with
 | true=>exact hb wh pins s1 σ H1 Q I1 q1
 | false=>exact ⟨H1,I1,q1⟩
theorem iY (ha:PT X a tA) (hb:PW X (.BoolOp .Or (b::rest) pos) tB'):PW X (.BoolOp .Or (a::b::rest) pos) (tOr tA tB'):=by
 intro wh pins s σ H Q I h
 refine isTrue_or (thn (ha pins s σ H _ I h) fun c s1 ⟨H1,I1,q1⟩=>?_)
 cases c with
 | true=>exact ⟨H1,I1,q1⟩
 | false=>exact hb wh pins s1 σ H1 Q I1 q1
theorem du (ha:PT X a tA):PT X (.UnaryOp .Not a pos) (tNot tA):=by
 intro pins s σ H Q I h
 exact isTrue_not (ha pins s σ H (fun c H1=>Q (!c) H1) I h)
def tAndV (ta tb:TE):TE:=fun σ H Q=>ta σ H fun x H1=>∃ c,x=.bl c∧if c=true then tb σ H1 Q else Q (.bl false) H1
def tOrV (ta tb:TE):TE:=fun σ H Q=>ta σ H fun x H1=>∃ c,x=.bl c∧if c=true then Q (.bl true) H1 else tb σ H1 Q
def tNotV (ta:TE):TE:=fun σ H Q=>ta σ H fun x H1=>∃ c,x=.bl c∧Q (.bl (!c)) H1
theorem kx {op} {t:TE} (h:PE X a t):PE X (.BoolOp op [a] pos) t:=fun pins s σ H Q I hw=>BoolOp_one (h pins s σ H Q I hw)
theorem iy (ha:PE X a ta) (hb:PE X (.BoolOp .And (b::rest) pos) tb):PE X (.BoolOp .And (a::b::rest) pos) (tAndV ta tb):=by
 intro pins s σ H Q I h
 refine BoolOp_and (thn (ha pins s σ H _ I h) fun v s1 ⟨x,H1,I1,r1,q1⟩=>?_)
 obtain ⟨c,rfl,q1⟩:=q1
 cases r1
 refine wpAny_truthy_bool ?_
 cases c with
 | true=>exact hb pins s1 σ H1 Q I1 q1
 | false=>exact ⟨.bl false,H1,I1,rfl,q1⟩
theorem wf (ha:PE X a ta):PE X (.UnaryOp .Not a pos) (tNotV ta):=by
 intro pins s σ H Q I h
 refine UnaryOp_ (thn (ha pins s σ H _ I h) fun v s1 ⟨x,H1,I1,r1,q1⟩=>?_)
 obtain ⟨c,rfl,q1⟩:=q1
 cases r1
 exact not_of (wpAny_truthy_bool ⟨.bl (!c),H1,I1,rfl,q1⟩)
def tIf (t:TT) (ta tb:TE):TE:=fun σ H Q=>t σ H fun c H1=>if c=true then ta σ H1 Q else tb σ H1 Q
theorem uo {c:Expr} (hc:PT X c tA) (ha:PE X a ta) (hb:PE X b tb):PE X (.IfExp c a b pos) (tIf tA ta tb):=by
 intro pins s σ H Q I h
 refine wpAny_IfExp (thn (hc pins s σ H _ I h) fun d s1 ⟨H1,I1,q1⟩=>?_)
 cases d with
 | true=>exact ha pins s1 σ H1 Q I1 q1
 | false=>exact hb pins s1 σ H1 Q I1 q1
end
end L2
namespace L2
open PySem PySem.Spec PyProof.Rows
def SqL (K:PySem.W.Frag) (H:Hp) (a:Addr) (xs:List V):Prop:=
 Rd H a (.lst xs)∨
  ∃ (o:Obj) (its:Array Value) (n:Nat),K.lookup a=some o∧o.cls=.type "list"∧o.dict=none∧o.data=.seq its n∧its.size≤sizeLine∧Vals xs its.toList
def SqT (K:PySem.W.Frag) (H:Hp) (a:Addr) (xs:List V):Prop:=
 Rd H a (.tup xs)∨
  ∃ (o:Obj) (its:Array Value) (n:Nat),K.lookup a=some o∧o.cls=.type "tuple"∧o.data=.seq its n∧its.size≤sizeLine∧Vals xs its.toList
def absV:Value→Option V
 | .none=>some .non
 | .bool b=>some (.bl b)
 | .int i _=>some (.int i)
 | .str x _=>some (.str x)
 | .bytes b _=>some (.byt b)
 | .float b _=>some (.flt b)
 | .ref a=>some (.ref a)
 | .type n=>some (.ty n)
 | _=>none
theorem RelV.abs {x:V} {u:Value} (r:RelV x u):absV u=some x:=by
 cases x with
 | non=>cases r; rfl
 | bl _=>cases r; rfl
 | int _=>obtain ⟨t,rfl⟩:=r; rfl
 | str _=>obtain ⟨t,rfl⟩:=r; rfl
 | byt _=>obtain ⟨t,rfl⟩:=r; rfl
 | flt _=>obtain ⟨t,rfl⟩:=r; rfl
 | ref _=>cases r; rfl
 | ty _=>cases r; rfl
theorem RelV.inj {x y:V} {u:Value} (r:RelV x u) (q:RelV y u):x=y:=Option.some.inj (r.abs.symm.trans q.abs)
theorem Vals.inj:∀ {xs ys:List V} {us:List Value},Vals xs us→Vals ys us→xs=ys
 | _,_,_,.nil,.nil=>rfl
 | _,_,_,.cons r t,.cons r' t'=>by rw [r.inj r',Vals.inj t t']
section
variable {X:Cx} {pins:List (Addr × Obj)} {σ:St} {H:Hp} {s:Shared} {a:Addr} {xs ys:List V}
theorem SqL.of {K:PySem.W.Frag} (h:H a=some (.lst xs)):SqL K H a xs:=.inl (.inl h)
theorem SqT.of {K:PySem.W.Frag} (h:H a=some (.tup xs)):SqT K H a xs:=.inl (.inl h)
theorem Inv.list (I:Inv X pins σ H s) (h:SqL X.K H a xs):∃ its:List Value,Vals xs its∧PlainL s.heap a its.toArray∧xs.length≤sizeLine:=by
 rcases h with h | ⟨o,its,n,hk,hc,hd,hs,hz,r⟩
 · obtain ⟨z,its,n,r,e⟩:=h.ok I.hok
   exact ⟨its,r,⟨_,n,e,rfl,rfl,rfl⟩,z⟩
 · refine ⟨its.toList,r,⟨o,n,I.kIn a o hk,hc,hd,by simpa using hs⟩,?_⟩
   have e:=r.length
   simp only [Array.length_toList] at e
   omega
theorem Inv.tuple (I:Inv X pins σ H s) (h:SqT X.K H a xs):∃ its:List Value,Vals xs its∧IsTup s.heap a its.toArray∧xs.length≤sizeLine:=by
 rcases h with h | ⟨o,its,n,hk,hc,hs,hz,r⟩
 · obtain ⟨z,its,r,p⟩:=h.ok I.hok
   exact ⟨its,r,p,z⟩
 · refine ⟨its.toList,r,⟨o,I.kIn a o hk,hc,n,by simpa using hs⟩,?_⟩
   have e:=r.length
   simp only [Array.length_toList] at e
   omega
theorem Inv.list_inj (I:Inv X pins σ H s) (h:SqL X.K H a xs) (h':SqL X.K H a ys):xs=ys:=by
 obtain ⟨its,r,⟨o,n,e,_,_,d⟩,_⟩:=I.list h
 obtain ⟨its',r',⟨o',n',e',_,_,d'⟩,_⟩:=I.list h'
 rw [e] at e'; cases e'
 rw [d] at d'
 injection d' with d1 _
 have:its=its':=by simpa using congrArg Array.toList d1
 subst this
 exact r.inj r'
theorem Inv.tuple_inj (I:Inv X pins σ H s) (h:SqT X.K H a xs) (h':SqT X.K H a ys):xs=ys:=by
 obtain ⟨its,r,⟨o,e,_,n,d⟩,_⟩:=I.tuple h
 obtain ⟨its',r',⟨o',e',_,n',d'⟩,_⟩:=I.tuple h'
 rw [e] at e'; cases e'
 rw [d] at d'
 injection d' with d1 _
 have:its=its':=by simpa using congrArg Array.toList d1
 subst this
 exact r.inj r'
end
abbrev Cx.wish (X:Cx) (E:Value→Shared→Prop):Cx:={ X with xe:=E }
abbrev Cx.nox (X:Cx):Cx:=X.wish fun _ _=>False
theorem Cx.Ok.wish {X:Cx} (ok:X.Ok) (E:Value→Shared→Prop):(X.wish E).Ok:=
 ⟨ok.mod,ok.kind,ok.glob,ok.blt,ok.above,ok.inj,ok.has,ok.cab,ok.hd,ok.frames,ok.stk,ok.exf,ok.bs,ok.bsz,ok.noex,ok.exfs,ok.funs,ok.frf⟩
theorem Cx.Ok.unwish {X:Cx} {E:Value→Shared→Prop} (ok:(X.wish E).Ok):X.Ok:=
 ⟨ok.mod,ok.kind,ok.glob,ok.blt,ok.above,ok.inj,ok.has,ok.cab,ok.hd,ok.frames,ok.stk,ok.exf,ok.bs,ok.bsz,ok.noex,ok.exfs,ok.funs,ok.frf⟩
section
variable {X:Cx} {pins:List (Addr × Obj)} {σ:St} {H:Hp} {s:Shared} {E:Value→Shared→Prop}
theorem Inv.wish (I:Inv X pins σ H s) (E:Value→Shared→Prop):Inv (X.wish E) pins σ H s:=⟨I.ok.wish E,I.os,I.bare,I.base,I.loc,I.cell,I.free,I.freeC,I.pin,I.hok,I.len⟩
theorem Inv.unwish (I:Inv (X.wish E) pins σ H s):Inv X pins σ H s:=⟨I.ok.unwish,I.os,I.bare,I.base,I.loc,I.cell,I.free,I.freeC,I.pin,I.hok,I.len⟩
theorem SP.unwish {D:Ends} {f:Flow} {s':Shared} (h:SP (X.wish E) pins D f s'):SP X pins D f s':=by
 cases f with
 | next=>obtain ⟨σ',H',I,q⟩:=h; exact ⟨σ',H',I.unwish,q⟩
 | brk=>obtain ⟨σ',H',I,q⟩:=h; exact ⟨σ',H',I.unwish,q⟩
 | cont=>obtain ⟨σ',H',I,q⟩:=h; exact ⟨σ',H',I.unwish,q⟩
 | ret u=>obtain ⟨v,σ',H',I,r,q⟩:=h; exact ⟨v,σ',H',I.unwish,r,q⟩
theorem PSs.nox {st:List Stmt} {t:TS} (h:PSs X.nox st t):PSs X st t:=fun pins s σ H D I hw=>
 wpAny_mono (h pins s σ H D (I.wish _) hw) (fun _ _ q=>q.unwish) fun _ _ z=>False.elim z
end
section
variable {X:Cx} {st:Stmt} {rest:List Stmt} {t u:TS} {e:Expr} {te:TE} {pos:Pos}
def tNext:TS:=fun D σ H=>D.nx σ H
def tSeq (t u:TS):TS:=fun D σ H=>t { D with nx:=u D } σ H
theorem au:PSs X [] tNext:=fun _ _ σ H _ I h=>wpAny_execs_nil ⟨σ,H,I,h⟩
theorem ad (h1:PS X st t) (h2:PSs X rest u):PSs X (st::rest) (tSeq t u):=by
 intro pins s σ H D I h
 refine wpAny_execs_cons (thn (h1 pins s σ H { D with nx:=u D } I h) fun f s1 q=>?_)
 cases f with
 | next=>
  obtain ⟨σ',H',I',q⟩:=q
  exact h2 pins s1 σ' H' D I' q
 | ret v=>exact q
 | brk=>exact q
 | cont=>exact q
theorem ai (h1:PS X st t):PSs X [st] t:=by
 intro pins s σ H D I h
 refine wpAny_execs_cons (thn (h1 pins s σ H D I h) fun f s1 q=>?_)
 cases f with
 | next=>exact wpAny_execs_nil q
 | ret v=>exact q
 | brk=>exact q
 | cont=>exact q
theorem Inv.quiet {pins:List (Addr × Obj)} {σ:St} {H:Hp} {s:Shared} (I:Inv X pins σ H s):interactive X.env=false:=by simp [interactive,I.ok.kind]
def tDrop (te:TE):TS:=fun D σ H=>te σ H fun _ H1=>D.nx σ H1
theorem lf (he:PE X e te) (hs:swapsWith e none pos.line X.env=pure false:=by rfl):PS X (.Expr e pos) (tDrop te):=by
 intro pins s σ H D I h
 exact wpAny_Expr_any (thn (he pins s σ H _ I h) fun v s1 ⟨x,H1,I1,r1,q1⟩=>⟨σ,H1,I1,q1⟩) I.quiet hs
def tRet (te:TE):TS:=fun D σ H=>te σ H D.rt
theorem av (he:PE X e te):PS X (.Return (some e) pos) (tRet te):=by
 intro pins s σ H D I h
 exact wpAny_Return_some (thn (he pins s σ H _ I h) fun v s1 ⟨x,H1,I1,r1,q1⟩=>⟨x,σ,H1,I1,r1,q1⟩)
def tRetN:TS:=fun D _ H=>D.rt .non H
def tIfS (c:TT) (t u:TS):TS:=fun D σ H=>c σ H fun b H1=>if b=true then t D σ H1 else u D σ H1
theorem aC {c:Expr} {a b:List Stmt} {tc:TT} (hc:PT X c tc) (ha:PSs X a t) (hb:PSs X b u):PS X (.If c a b pos) (tIfS tc t u):=by
 intro pins s σ H D I h
 refine wpAny_If (thn (hc pins s σ H _ I h) fun d s1 ⟨H1,I1,q1⟩=>?_)
 cases d with
 | true=>exact ha pins s1 σ H1 D I1 q1
 | false=>exact hb pins s1 σ H1 D I1 q1
end
abbrev TG:=V→St→Hp→(St→Hp→Prop)→Prop
abbrev TGs:=List V→St→Hp→(St→Hp→Prop)→Prop
def PG (X:Cx) (target:Expr) (t:TG):Prop:=
 ∀ (pins:List (Addr × Obj)) (s:Shared) (σ:St) (H:Hp) (v:V) (u:Value) (Q:St→Hp→Prop),Inv X pins σ H s→RelV v u→t v σ H Q→
  wpAny (model X.prog X.w) X.A (assign target X.env u) (fun _ s'=>∃ σ' H',Inv X pins σ' H' s'∧Q σ' H') X.xe s
def PGs (X:Cx) (ts:List Expr) (t:TGs):Prop:=
 ∀ (pins:List (Addr × Obj)) (s:Shared) (σ:St) (H:Hp) (vs:List V) (us:List Value) (Q:St→Hp→Prop),Inv X pins σ H s→Vals vs us→t vs σ H Q→
  wpAny (model X.prog X.w) X.A (assignInOrder ((assignEach ts X.env).map (·.2)) us) (fun _ s'=>∃ σ' H',Inv X pins σ' H' s'∧Q σ' H') X.xe s
abbrev TSet:=V→V→V→Hp→(Hp→Prop)→Prop
section
variable {X:Cx} {pos:Pos}
def gName (i:Nat):TG:=fun v σ H Q=>Q (σ.set i (some v)) H
theorem aI {i:Nat} {x:Str} (hN:X.N.Nodup) (hi:X.N[i]? =some x) (hx:Loc X.env.scope x) (hf:X.fn x=true∨X.env.scope.names.lookup x=some .local:=by first | exact .inl rfl | exact .inr rfl | assumption):PG X (.Name x pos) (gName i):=by
 intro pins s σ H v u Q I r h
 exact wpAny_assign_Name (ml I hN hi hx r (fun s' I'=>⟨_,H,I',h⟩) hf)
def gNil:TGs:=fun vs σ H Q=>vs=[]∧Q σ H
def gCons (t:TG) (u:TGs):TGs:=fun vs σ H Q=>∃ v r,vs=v::r∧t v σ H fun σ' H'=>u r σ' H' Q
theorem li:PGs X [] gNil:=by
 intro pins s σ H vs us Q I r h
 obtain ⟨e,h⟩:=h
 subst e
 cases r
 exact assignInOrder_nil ⟨σ,H,I,h⟩
theorem cm {e:Expr} {es:List Expr} {t:TG} {u:TGs} (h1:PG X e t) (h2:PGs X es u)
  (hs:(assignEach (e::es) X.env).map (·.2)=assign e X.env::(assignEach es X.env).map (·.2):=by rfl):PGs X (e::es) (gCons t u):=by
 intro pins s σ H vs us Q I r h
 obtain ⟨v,vr,e1,h⟩:=h
 subst e1
 cases r with
 | cons r rr=>
  rw [hs]
  refine assignInOrder_cons (thn (h1 pins s σ H _ _ _ I r h) fun _ s1 ⟨σ1,H1,I1,q1⟩=>?_)
  exact h2 pins s1 σ1 H1 _ _ Q I1 rr q1
def gTup (K:PySem.W.Frag) (n:Nat) (t:TGs):TG:=fun v σ H Q=>∃ a xs,v=.ref a∧SqT K H a xs∧xs.length=n∧t xs σ H Q
theorem qa {es:List Expr} {k:Nat} {t:TGs} {n:Nat} (hc:X.calm=true) (h:PGs X es t)
  (hn:(assignEach es X.env).length=n:=by rfl) (hst:(assignEach es X.env).findIdx? (·.1)=none:=by rfl):PG X (.Tuple es k pos) (gTup X.K n t):=by
 intro pins s σ H v u Q I r hw
 obtain ⟨a,xs,e1,hq,hl,hw⟩:=hw
 subst e1
 cases r
 obtain ⟨its,rv,ht,hz⟩:=I.tuple hq
 refine assign_Tuple_tuple (I.ok.hd hc) ht (by simp [hn,← hl,rv.length]) hst fun h' hx=>?_
 have I1:Inv X pins σ H { s with heap:=h' }:=I.kept (t':=s.toks) fun b o e=>hx b o (Nat.ne_of_lt (Heap.lt_size e)) e
 exact h pins _ σ H xs _ Q I1 (by simpa using rv) hw
def gSub (to ti:TE) (t:TSet):TG:=fun v σ H Q=>to σ H fun o H1=>ti σ H1 fun i H2=>t o i v H2 fun H3=>Q σ H3
def tAsg (te:TE) (g:TG):TS:=fun D σ H=>te σ H fun x H1=>g x σ H1 D.nx
theorem mS {tg e:Expr} {te:TE} {g:TG} (he:PE X e te) (hg:PG X tg g) (hs:swapsWithSole [tg] e pos.line X.env=pure false:=by rfl) (hw:swappedStores [tg] e X.env=pure none:=by rfl)
  (h1:(assignEach [tg] X.env).map (·.2)=[assign tg X.env]:=by rfl):PS X (.Assign [tg] e pos) (tAsg te g):=by
 intro pins s σ H D I h
 refine wpAny_Assign_stores (thn (he pins s σ H _ I h) fun v s1 ⟨x,H1,I1,r1,q1⟩=>?_) hs hw
 rw [h1]
 exact thn (hg pins s1 σ H1 x v _ I1 r1 q1) fun _ s2 q=>q
theorem ar {i:Nat} {x:Str} {e:Expr} {te:TE} {pos':Pos} (hN:X.N.Nodup) (hi:X.N[i]? =some x) (hx:Loc X.env.scope x) (he:PE X e te) (hs:swapsWith e (some (.Name x pos')) pos.line X.env=pure false:=by rfl) (hf:X.fn x=true∨X.env.scope.names.lookup x=some .local:=by first | exact .inl rfl | exact .inr rfl | assumption):
  PS X (.Assign [.Name x pos'] e pos) (tAsg te (gName i)):=by
 intro pins s σ H D I h
 refine wpAny_Assign_Name (thn (he pins s σ H _ I h) fun v s1 ⟨y,H1,I1,r1,q1⟩=>?_) hs
 exact ml I1 hN hi hx r1 (fun s2 I2=>⟨_,H1,I2,q1⟩) hf
end
structure It where
 go:Nat→Hp→Prop
 yld:Nat→Hp→V→Hp→Prop
 stop:Nat→Hp→Prop
def FpOk (X:Cx) (pins:List (Addr × Obj)) (H:Hp) (b:Addr):Prop:=
 H b=none∧b≠X.env.locals∧b∉X.fs∧(b∈X.ex∨X.s₀.heap.objs.size≤b)∧(∀ x c,X.env.cells.lookup x=some c→c≠b)∧∀ p∈X.pn++pins,p.1≠b
theorem Inv.fpOk {X:Cx} {pins:List (Addr × Obj)} {σ:St} {H H':Hp} {s:Shared} {b:Addr} (I:Inv X pins σ H s) (hb:s.heap.objs.size≤b) (hn:H' b=none):FpOk X pins H' b:=by
 refine ⟨hn,Nat.ne_of_gt (Nat.lt_of_lt_of_le I.lt hb),I.nofs hb,.inr (Nat.le_trans I.sz hb),fun x c e z=>?_,fun p hp z=>?_⟩
 · obtain ⟨v,q⟩:=I.cell x c e
   exact absurd (Nat.lt_of_lt_of_le q.lt (by rw [z]; exact hb)) (Nat.lt_irrefl _)
 · exact absurd (Nat.lt_of_lt_of_le (Heap.lt_size (I.pin p hp).1) (by rw [z]; exact hb)) (Nat.lt_irrefl _)
structure Turn (P:Program) (w:World) (K:PySem.W.Frag) (tg:Expr) (J:It) (fp:List Addr) (it:Addr) (tn:Nat→Heap→Prop):Prop where
 mem:it∈fp
 obj:∀ i h,tn i h→∀ b∈fp,∃ o,h.get? b=some o∧∀ v,o.data≠.cell v
 keep:∀ i h h',tn i h→(∀ b∈fp,∀ o,h.get? b=some o→h'.get? b=some o)→tn i h'
 item:∀ (X:Cx),X.prog=P→X.w=w→X.K=K→X.calm=true→∀ (i:Nat) (pins:List (Addr × Obj)) (s:Shared) (σ:St) (H:Hp) (E:Value→Shared→Prop),Inv X pins σ H s→(∀ b∈fp,FpOk X pins H b)→tn i s.heap→J.go i H→
  wpAny (model P w) X.A (pyNext (.ref it)) (fun r s1=>∃ u,r=some u∧
   wpAny (model P w) X.A (letOwnedTupleGo tg (.ref it) u) (fun _ s2=>∃ x H',Inv X pins σ H' s2∧RelV x u∧J.yld i H x H'∧tn (i+1) s2.heap∧∀ b∈fp,H' b=none) E s1) E s
 done:∀ (X:Cx),X.prog=P→X.w=w→X.K=K→X.calm=true→∀ (i:Nat) (pins:List (Addr × Obj)) (s:Shared) (σ:St) (H:Hp) (E:Value→Shared→Prop),Inv X pins σ H s→(∀ b∈fp,FpOk X pins H b)→tn i s.heap→J.stop i H→
  wpAny (model P w) X.A (pyNext (.ref it)) (fun r s1=>r=none∧Inv X pins σ H s1) E s
 self:∀ (A:Around) (i:Nat) (s:Shared) (Q:Value→Shared→Prop) (E:Value→Shared→Prop),tn i s.heap→Q (.ref it) s→wpAny (model P w) A (pyIter (.ref it)) Q E s
abbrev TI:=St→Hp→(It→Hp→Prop)→Prop
def PIE (X:Cx) (pins:List (Addr × Obj)) (σ:St) (tg:Expr) (R:It→Hp→Prop) (itv:Value) (s2:Shared):Prop:=
 ∃ (it:Addr) (fp:List Addr) (tn:Nat→Heap→Prop) (J:It) (H':Hp),itv=.ref it∧Inv X pins σ H' s2∧Turn X.prog X.w X.K tg J fp it tn∧tn 0 s2.heap∧(∀ b∈fp,FpOk X pins H' b)∧R J H'
def PI (X:Cx) (tg iter:Expr) (wi:TI):Prop:=
 ∀ (pins:List (Addr × Obj)) (s:Shared) (σ:St) (H:Hp) (R:It→Hp→Prop),Inv X pins σ H s→wi σ H R→
  wpAny (model X.prog X.w) X.A (eval iter X.env) (fun v s1=>wpAny (model X.prog X.w) X.A (pyIter v) (PIE X pins σ tg R) X.xe s1) X.xe s
theorem pY {M:Model} {A:Around} {E:Value→Shared→Prop} {s:Shared} {tg:Expr} {it:Addr} {u:Value} {o:Obj} {n:String} {vs:Array Value} {Q:Unit→Shared→Prop} (ho:s.heap.get? it=some o) (hc:o.cls=.type n) (hd:o.data=.fields vs)
  (hn:["enumerate","zip","dict_itemiterator","dict_reverseitemiterator","odict_iterator","itertools.zip_longest","itertools.pairwise"].contains n=false) (hQ:Q () s):wpAny M A (letOwnedTupleGo tg (.ref it) u) Q E s:=by
 unfold letOwnedTupleGo
 cases tg <;> first
  | exact wpAny_pure hQ
  | (cases u <;> first
    | exact wpAny_pure hQ
    | (refine wpAny_bind (wpAny_load ho ?_)
       rw [hc,hd]
       show wpAny M A (if (["enumerate","zip","dict_itemiterator","dict_reverseitemiterator","odict_iterator","itertools.zip_longest","itertools.pairwise"].contains n&&vs[0]? ==some (rawInt _))=true then _ else _) Q E s
       rw [if_neg (by intro h; rw [hn,Bool.false_and] at h; cases h)]
       exact wpAny_pure hQ))
def Itl (K:PySem.W.Frag) (a:Addr):It:=
 ⟨fun i H=>∃ xs x,SqL K H a xs∧xs[i]? =some x,fun i H x H'=>H'=H∧∀ xs,SqL K H a xs→xs[i]? =some x,fun i H=>∃ xs,SqL K H a xs∧xs.length≤i⟩
def Itt (K:PySem.W.Frag) (a:Addr):It:=
 ⟨fun i H=>∃ xs x,SqT K H a xs∧xs[i]? =some x,fun i H x H'=>H'=H∧∀ xs,SqT K H a xs→xs[i]? =some x,fun i H=>∃ xs,SqT K H a xs∧xs.length≤i⟩
def Itr (lo:Int) (n:Nat):It:=⟨fun i _=>i < n,fun i H x H'=>H'=H∧x=.int (lo+i),fun i _=>n≤i⟩
theorem sY {P:Program} {w:World} {K:PySem.W.Frag} {tg:Expr} (a it:Addr):Turn P w K tg (Itl K a) [it] it (fun i h=>h.IsListIter it a i) where
 mem:=by simp
 obj:=fun i h st b hb=>by
  have e:b=it:=by simpa using hb
  subst e
  obtain ⟨o,e,c,d⟩:=st
  exact ⟨o,e,fun v z=>by rw [d] at z; cases z⟩
 keep:=fun i h h' st k=>st.at fun o e=>k it (by simp) o e
 item:=by
  intro X hP hw hK hc i pins s σ H E I hf st hg
  subst hP hw hK
  obtain ⟨xs,x,hq,hx⟩:=hg
  obtain ⟨its,rv,p,hz⟩:=I.list hq
  obtain ⟨u,hu,ru⟩:=rv.get hx
  obtain ⟨f0,f1,f2,f3,f4,f5⟩:=hf it (by simp)
  refine wpAny_pyNext_list_item st p.isList (x:=u) (by simpa using hu) fun h' st' sb=>?_
  have I1:Inv X pins σ H { s with heap:=h' }:=I.turned (t':=s.toks) (fun b o hb e=>(sb.2 b hb).trans e) f0 f1 f3 f4 f5
  obtain ⟨o,e,c,d⟩:=id st'
  exact ⟨u,rfl,pY (s:={ s with heap:=h' }) e c d (by decide) ⟨x,H,I1,ru,⟨rfl,fun ys hy=>by rw [I.list_inj hy hq]; exact hx⟩,st',fun b hb=>(hf b hb).1⟩⟩
 done:=by
  intro X hP hw hK hc i pins s σ H E I hf st hg
  subst hP hw hK
  obtain ⟨xs,hq,hx⟩:=hg
  obtain ⟨its,rv,p,hz⟩:=I.list hq
  obtain ⟨f0,f1,f2,f3,f4,f5⟩:=hf it (by simp)
  have hl:=rv.length
  exact wpAny_pyNext_list_end (I.ok.hd hc) st p.isList (by simp; omega) fun h' eb=>⟨rfl,I.turned (t':=s.toks) (fun b o hb e=>eb b o hb e) f0 f1 f3 f4 f5⟩
 self:=fun _ _ _ _ _ st h=>wpAny_pyIter_listiter st h
theorem r8 {P:Program} {w:World} {K:PySem.W.Frag} {tg:Expr} (a it:Addr):Turn P w K tg (Itt K a) [it] it (fun i h=>h.IsTupleIter it a i) where
 mem:=by simp
 obj:=fun i h st b hb=>by
  have e:b=it:=by simpa using hb
  subst e
  obtain ⟨o,e,c,d⟩:=st
  exact ⟨o,e,fun v z=>by rw [d] at z; cases z⟩
 keep:=fun i h h' st k=>st.at fun o e=>k it (by simp) o e
 item:=by
  intro X hP hw hK hc i pins s σ H E I hf st hg
  subst hP hw hK
  obtain ⟨xs,x,hq,hx⟩:=hg
  obtain ⟨its,rv,p,hz⟩:=I.tuple hq
  obtain ⟨u,hu,ru⟩:=rv.get hx
  obtain ⟨f0,f1,f2,f3,f4,f5⟩:=hf it (by simp)
  refine wpAny_pyNext_tuple_item st (show s.heap.IsTuple a its.toArray from p) (x:=u) (by simpa using hu) fun h' st' sb=>?_
  have I1:Inv X pins σ H { s with heap:=h' }:=I.turned (t':=s.toks) (fun b o hb e=>(sb.2 b hb).trans e) f0 f1 f3 f4 f5
  obtain ⟨o,e,c,d⟩:=id st'
  exact ⟨u,rfl,pY (s:={ s with heap:=h' }) e c d (by decide) ⟨x,H,I1,ru,⟨rfl,fun ys hy=>by rw [I.tuple_inj hy hq]; exact hx⟩,st',fun b hb=>(hf b hb).1⟩⟩
 done:=by
  intro X hP hw hK hc i pins s σ H E I hf st hg
  subst hP hw hK
  obtain ⟨xs,hq,hx⟩:=hg
  obtain ⟨its,rv,p,hz⟩:=I.tuple hq
  obtain ⟨f0,f1,f2,f3,f4,f5⟩:=hf it (by simp)
  have hl:=rv.length
  exact wpAny_pyNext_tuple_end (I.ok.hd hc) st (show s.heap.IsTuple a its.toArray from p) (by simp; omega) fun h' eb=>⟨rfl,I.turned (t':=s.toks) (fun b o hb e=>eb b o hb e) f0 f1 f3 f4 f5⟩
 self:=fun _ _ _ _ _ st h=>wpAny_pyIter_tupleiter st h
theorem sd {P:Program} {w:World} {K:PySem.W.Frag} {tg:Expr} (it:Addr) (lo:Int) (n:Nat):Turn P w K tg (Itr lo n) [it] it (fun i h=>IsRangeIter h it (lo+(i:Nat)*1) ((n:Int) - (i:Nat)) 1) where
 mem:=by simp
 obj:=fun i h st b hb=>by
  have e:b=it:=by simpa using hb
  subst e
  exact ⟨_,st,fun v z=>by
   have z':Data.fields _=Data.cell v:=z
   cases z'⟩
 keep:=fun i h h' st k=>k it (by simp) _ st
 item:=by
  intro X hP hw hK hc i pins s σ H E I hf st hg
  subst hP hw hK
  obtain ⟨f0,f1,f2,f3,f4,f5⟩:=hf it (by simp)
  have W:=Walks.range (prog:=X.prog) (w:=X.w) (I.ok.hd hc) it lo 1 n
  refine W.item i s _ _ hg st fun v h' tk hv st' kk=>?_
  obtain ⟨t,rfl⟩:=hv
  have I1:Inv X pins σ H { s with heap:=h',toks:=tk }:=I.turned (fun b o hb e=>kk b o (by simpa using hb) e) f0 f1 f3 f4 f5
  refine ⟨_,rfl,pY (s:={ s with heap:=h',toks:=tk }) (n:="range_iterator") st' rfl rfl (by decide) ⟨.int (lo+i),H,I1,⟨t,?_⟩,⟨rfl,rfl⟩,st',fun b hb=>(hf b hb).1⟩⟩
  rw [Int.mul_one]
 done:=by
  intro X hP hw hK hc i pins s σ H E I hf st hg
  subst hP hw hK
  obtain ⟨f0,f1,f2,f3,f4,f5⟩:=hf it (by simp)
  exact wpAny_pyNext_range_end (I.ok.hd hc) st (by have:n≤i:=hg; omega) fun h' eb=>⟨rfl,I.turned (t':=s.toks) (fun b o hb e=>eb b o hb e) f0 f1 f3 f4 f5⟩
 self:=fun _ _ _ _ _ st h=>wpAny_pyIter_rangeiter st h
end L2
namespace L2
open PySem PySem.Spec PyProof.Rows
section
variable {X:Cx} {tg:Expr}
def iList (K:PySem.W.Frag) (tl:TE):TI:=fun σ H R=>tl σ H fun x H1=>∃ a,x=.ref a∧(∃ xs,SqL K H1 a xs)∧R (Itl K a) H1
def iTup (K:PySem.W.Frag) (tl:TE):TI:=fun σ H R=>tl σ H fun x H1=>∃ a,x=.ref a∧(∃ xs,SqT K H1 a xs)∧R (Itt K a) H1
theorem g7 {l:Expr} {tl:TE} (hl:PE X l tl):PI X tg l (iList X.K tl):=by
 intro pins s σ H R I h
 refine thn (hl pins s σ H _ I h) fun v s1 ⟨x,H1,I1,r1,q1⟩=>?_
 obtain ⟨a,e,⟨xs,hq⟩,q⟩:=q1
 subst e
 cases r1
 obtain ⟨its,rv,p,hz⟩:=I1.list hq
 refine wpAny_pyIter_list p.isList ?_
 refine ⟨s1.heap.objs.size,[s1.heap.objs.size],_,_,H1,rfl,I1.kept (t':=s1.toks) fun b o e=>Heap.get?_push_of_some _ e,sY a _,⟨_,Heap.get?_push_size _ rfl,rfl,rfl⟩,fun b hb=>?_,q⟩
 have e:b=s1.heap.objs.size:=by simpa using hb
 subst e
 exact I1.fpOk (Nat.le_refl _) (I1.hok.fresh (Nat.le_refl _))
theorem sZ {l:Expr} {tl:TE} (hl:PE X l tl):PI X tg l (iTup X.K tl):=by
 intro pins s σ H R I h
 refine thn (hl pins s σ H _ I h) fun v s1 ⟨x,H1,I1,r1,q1⟩=>?_
 obtain ⟨a,e,⟨xs,hq⟩,q⟩:=q1
 subst e
 cases r1
 obtain ⟨its,rv,p,hz⟩:=I1.tuple hq
 refine wpAny_pyIter_tuple (show s1.heap.IsTuple a its.toArray from p) ?_
 refine ⟨s1.heap.objs.size,[s1.heap.objs.size],_,_,H1,rfl,I1.kept (t':=s1.toks) fun b o e=>Heap.get?_push_of_some _ e,r8 a _,⟨_,Heap.get?_push_size _ rfl,rfl,rfl⟩,fun b hb=>?_,q⟩
 have e:b=s1.heap.objs.size:=by simpa using hb
 subst e
 exact I1.fpOk (Nat.le_refl _) (I1.hok.fresh (Nat.le_refl _))
theorem uq {pins:List (Addr × Obj)} {σ:St} {H:Hp} {s:Shared} {R:It→Hp→Prop} {E:Value→Shared→Prop} {lo hi:Int} {t u v:Tok} {tk:Nat} (I:Inv X pins σ H s) (h1: -(2^62)≤lo) (h2:lo < 2^62) (h3: -(2^62)≤hi) (h4:hi < 2^62)
  (q:R (Itr lo (hi - lo).toNat) H):wpAny (model X.prog X.w) X.A (pyIter (.ref s.heap.objs.size)) (PIE X pins σ tg R) E { s with heap:=s.heap.push { cls:=.type "range",data:=.fields #[.int lo t,.int hi u,.int 1 v] },toks:=tk }:=by
 refine wpAny_pyIter_range (IsRange.new ..) (small_one h1 h2 h3 h4) ?_
 have I1:Inv X pins σ H { s with heap:=s.heap.push { cls:=.type "range",data:=.fields #[.int lo t,.int hi u,.int 1 v] },toks:=tk }:=I.kept fun b o e=>Heap.get?_push_of_some _ e
 refine ⟨(s.heap.push { cls:=.type "range",data:=.fields #[.int lo t,.int hi u,.int 1 v] }).objs.size,[(s.heap.push { cls:=.type "range",data:=.fields #[.int lo t,.int hi u,.int 1 v] }).objs.size],_,_,H,rfl,
  I1.kept (t':=tk) fun b o e=>Heap.get?_push_of_some _ e,sd _ lo (hi - lo).toNat,?_,fun b hb=>?_,q⟩
 · have e1:lo+((0:Nat):Int)*1=lo:=by simp
   have e2:(((hi - lo).toNat:Nat):Int) - ((0:Nat):Int)=Builtin.Range.rangeSize lo hi 1:=by rw [rangeSize_one]; split <;> omega
   show IsRangeIter _ _ (lo+((0:Nat):Int)*1) ((((hi - lo).toNat:Nat):Int) - ((0:Nat):Int)) 1
   rw [e1,e2]
   exact Heap.get?_push_size _ rfl
 · have e:b=(s.heap.push { cls:=.type "range",data:=.fields #[.int lo t,.int hi u,.int 1 v] }).objs.size:=by simpa using hb
   subst e
   exact I1.fpOk (Nat.le_refl _) (I1.hok.fresh (Nat.le_refl _))
def io (ta:TA):TI:=fun σ H R=>ta σ H fun vs H1=>∃ j:Int,vs=[.int j]∧ -(2^62)≤j∧j < 2^62∧R (Itr 0 j.toNat) H1
def se (ta:TA):TI:=fun σ H R=>ta σ H fun vs H1=>∃ i j:Int,vs=[.int i,.int j]∧(-(2^62)≤i∧i < 2^62∧ -(2^62)≤j∧j < 2^62)∧R (Itr i (j - i).toNat) H1
theorem gi {a:Expr} {ta:TA} {p pos:Pos} (hg:Gl X "range") (hm:X.mg "range"=none) (ha:PA X [a] ta) (hs:starEach [a] X.env=[(false,eval a X.env)]:=by rfl):PI X tg (.Call (.Name "range" p) [a] [] pos) (io ta):=by
 intro pins s σ H R I h
 refine Call_ (iw I hg hm boot_range (PyProof.Rows.callWith_type1 (thn (ha pos pins s σ H _ I h) fun us s1 ⟨vs,H1,I1,r1,q1⟩=>?_) hs rfl))
 obtain ⟨j,e,q1,q2,q⟩:=q1
 subst e
 cases r1 with
 | cons r rr=>
  cases rr
  obtain ⟨t,rfl⟩:=r
  exact call_range_1 (uq I1 (by omega) (by omega) q1 q2 (by simpa using q))
def tFor (wi:TI) (g:TG) (tb:TS):TS:=fun D σ H=>wi σ H fun J H1=>∃ W:Nat→Nat→St→Hp→Prop,(∃ m,W 0 m σ H1)∧∀ i m σ H,W i m σ H→
 (J.stop i H∧D.nx σ H)∨(J.go i H∧∃ N:St→Hp→Prop,(∀ σ' H',N σ' H'→∃ m',m' < m∧W (i+1) m' σ' H')∧∀ x H',J.yld i H x H'→g x σ H' fun σ2 H2=>tb { D with nx:=N,ct:=N,bk:=D.nx } σ2 H2)
def ky (fp:List Addr) (h:Heap):List (Addr × Obj):=fp.filterMap fun b=>(h.get? b).map fun o=>(b,o)
theorem iZ {fp:List Addr} {h:Heap} {b:Addr} {o:Obj} (hb:b∈fp) (e:h.get? b=some o):(b,o)∈ky fp h:=List.mem_filterMap.mpr ⟨b,hb,by rw [e]; rfl⟩
theorem tm {fp:List Addr} {h:Heap} {p:Addr × Obj} (hp:p∈ky fp h):p.1∈fp∧h.get? p.1=some p.2:=by
 obtain ⟨b,hb,e⟩:=List.mem_filterMap.mp hp
 cases q:h.get? b with
 | none=>rw [q] at e; cases e
 | some o=>
  rw [q] at e
  have e':(b,o)=p:=Option.some.inj e
  subst e'
  exact ⟨hb,q⟩
theorem Inv.pinned {pins:List (Addr × Obj)} {σ:St} {H:Hp} {s:Shared} {fp:List Addr} (I:Inv X pins σ H s) (hf:∀ b∈fp,FpOk X pins H b) (ho:∀ b∈fp,∃ o,s.heap.get? b=some o∧∀ v,o.data≠.cell v):Inv X (pins++ky fp s.heap) σ H s:=
 I.pins_of fun p hp=>(List.mem_append.mp hp).elim (fun z=>I.pin p (List.mem_append_right _ z)) fun z=>by
  obtain ⟨hb,e⟩:=tm z
  obtain ⟨f0,f1,f2,_⟩:=hf p.1 hb
  obtain ⟨o,e',d⟩:=ho p.1 hb
  rw [e] at e'; cases e'
  exact ⟨e,f0,f1,f2,d⟩
theorem Inv.unpinned {pins pl:List (Addr × Obj)} {σ:St} {H:Hp} {s:Shared} (I:Inv X (pins++pl) σ H s):Inv X pins σ H s:=I.pins_of fun p hp=>I.pin p (List.mem_append_right _ (List.mem_append_left _ hp))
theorem qb {iter:Expr} {body:List Stmt} {wi:TI} {g:TG} {tb:TS} {pos:Pos} (hp:PassesOwn (model X.prog X.w) X.A X.env X.xe) (hc:X.calm=true) (hi:PI X tg iter wi) (hg:PG X tg g) (hb:PSs X body tb)
  (hs:∀ x,foldedSetIterable iter X.env x=pure x:=by intro _; rfl):PS X (.For tg iter body [] pos) (tFor wi g tb):=by
 intro pins s σ H D I h
 refine wpAny_For (thn (hi pins s σ H _ I h) fun v s1 h1=>thn h1 fun itv s2 h2=>?_) hs
 obtain ⟨it,fp,tn,J,H2,e,I2,T,st2,f2,W,⟨m0,w0⟩,turn⟩:=h2
 subst e
 have stat:∀ {H':Hp},(∀ b∈fp,H' b=none)→∀ b∈fp,FpOk X pins H' b:=fun hn b hb=>⟨hn b hb,(f2 b hb).2⟩
 refine codeAny_forLoop_any (fun n s'=>∃ i σ' H',Inv X pins σ' H' s'∧tn i s'.heap∧(∀ b∈fp,H' b=none)∧W i n σ' H') ?_ m0 ⟨0,σ,H2,I2,st2,fun b hb=>(f2 b hb).1,w0⟩
 rintro n s3 ⟨i,σ3,H3,I3,st3,fr3,w3⟩
 rcases turn i n σ3 H3 w3 with ⟨stop,qn⟩ | ⟨go,N,hN,step⟩
 · refine wpAny_passesOwn hp (thn (T.done X rfl rfl rfl hc i pins s3 σ3 H3 X.xe I3 (stat fr3) st3 stop) fun r s4 ⟨hr,I4⟩=>?_)
   subst hr
   exact wpAny_execs_nil ⟨σ3,H3,I4,qn⟩
 · refine wpAny_passesOwn hp (thn (T.item X rfl rfl rfl hc i pins s3 σ3 H3 X.xe I3 (stat fr3) st3 go) fun r s4 ⟨u,hr,h4⟩=>?_)
   subst hr
   refine wpAny_passesOwn hp (thn h4 fun _ s5 ⟨x,H5,I5,r5,y5,st5,fr5⟩=>?_)
   have I5':=I5.pinned (stat fr5) (T.obj _ _ st5)
   refine wpAny_passesOwn hp (thn (hg _ s5 σ3 H5 x u _ I5' r5 (step x H5 y5)) fun _ s6 ⟨σ6,H6,I6,q6⟩=>?_)
   refine wpAny_passesOwn hp (thn (hb _ s6 σ6 H6 _ I6 q6) fun f s7 q7=>?_)
   have again:∀ {σ7:St} {H7:Hp},Inv X (pins++ky fp s5.heap) σ7 H7 s7→N σ7 H7→∃ m,m < n∧∃ i σ' H',Inv X pins σ' H' s7∧tn i s7.heap∧(∀ b∈fp,H' b=none)∧W i m σ' H':=fun {σ7 H7} I7 n7=>by
    obtain ⟨m',hm,w7⟩:=hN σ7 H7 n7
    refine ⟨m',hm,i+1,σ7,H7,I7.unpinned,T.keep _ _ _ st5 fun b hb o e=>(I7.pin (b,o) (List.mem_append_right _ (List.mem_append_right _ (iZ hb e)))).1,fun b hb=>?_,w7⟩
    obtain ⟨o,e,d⟩:=T.obj _ _ st5 b hb
    exact (I7.pin (b,o) (List.mem_append_right _ (List.mem_append_right _ (iZ hb e)))).2.1
   cases f with
   | next=>obtain ⟨σ7,H7,I7,n7⟩:=q7; exact again I7 n7
   | cont=>obtain ⟨σ7,H7,I7,n7⟩:=q7; exact again I7 n7
   | brk=>obtain ⟨σ7,H7,I7,q7⟩:=q7; exact ⟨σ7,H7,I7.unpinned,q7⟩
   | ret v=>obtain ⟨x7,σ7,H7,I7,r7,q7⟩:=q7; exact ⟨x7,σ7,H7,I7.unpinned,r7,q7⟩
end
theorem ur {K:PySem.W.Frag} {a:Addr} {xs:List V} {g:TG} {tb:TS} {D:Ends} {σ:St} {H:Hp} (Pv:Nat→St→Hp→Prop) (h0:Pv 0 σ H) (hl:∀ i σ H,i≤xs.length→Pv i σ H→SqL K H a xs)
  (hs:∀ i x σ H,xs[i]? =some x→Pv i σ H→g x σ H fun σ2 H2=>tb { D with nx:=Pv (i+1),ct:=Pv (i+1),bk:=D.nx } σ2 H2) (hd:∀ σ H,Pv xs.length σ H→D.nx σ H):
  ∃ W:Nat→Nat→St→Hp→Prop,(∃ m,W 0 m σ H)∧∀ i m σ H,W i m σ H→
   ((Itl K a).stop i H∧D.nx σ H)∨((Itl K a).go i H∧∃ N:St→Hp→Prop,(∀ σ' H',N σ' H'→∃ m',m' < m∧W (i+1) m' σ' H')∧∀ x H',(Itl K a).yld i H x H'→g x σ H' fun σ2 H2=>tb { D with nx:=N,ct:=N,bk:=D.nx } σ2 H2):=by
 refine ⟨fun i m σ H=>m=xs.length - i∧i≤xs.length∧Pv i σ H,⟨xs.length,by simp,Nat.zero_le _,h0⟩,?_⟩
 rintro i m σ H ⟨rfl,hi,p⟩
 have q:=hl i σ H hi p
 by_cases hlt:i < xs.length
 · refine .inr ⟨⟨xs,xs[i],q,by simp [hlt]⟩,Pv (i+1),fun σ' H' p'=>⟨xs.length - (i+1),by omega,rfl,hlt,p'⟩,fun x H' y=>?_⟩
   obtain ⟨e,y⟩:=y
   subst e
   exact hs i x σ _ (y xs q) p
 · have e:i=xs.length:=by omega
   subst e
   exact .inl ⟨⟨xs,q,Nat.le_refl _⟩,hd σ H p⟩
theorem oS {lo:Int} {n:Nat} {g:TG} {tb:TS} {D:Ends} {σ:St} {H:Hp} (Pv:Nat→St→Hp→Prop) (h0:Pv 0 σ H)
  (hs:∀ i σ H,i < n→Pv i σ H→g (.int (lo+i)) σ H fun σ2 H2=>tb { D with nx:=Pv (i+1),ct:=Pv (i+1),bk:=D.nx } σ2 H2) (hd:∀ σ H,Pv n σ H→D.nx σ H):
  ∃ W:Nat→Nat→St→Hp→Prop,(∃ m,W 0 m σ H)∧∀ i m σ H,W i m σ H→
   ((Itr lo n).stop i H∧D.nx σ H)∨((Itr lo n).go i H∧∃ N:St→Hp→Prop,(∀ σ' H',N σ' H'→∃ m',m' < m∧W (i+1) m' σ' H')∧∀ x H',(Itr lo n).yld i H x H'→g x σ H' fun σ2 H2=>tb { D with nx:=N,ct:=N,bk:=D.nx } σ2 H2):=by
 refine ⟨fun i m σ H=>m=n - i∧i≤n∧Pv i σ H,⟨n,by simp,Nat.zero_le _,h0⟩,?_⟩
 rintro i m σ H ⟨rfl,hi,p⟩
 by_cases hlt:i < n
 · refine .inr ⟨hlt,Pv (i+1),fun σ' H' p'=>⟨n - (i+1),by omega,rfl,hlt,p'⟩,fun x H' y=>?_⟩
   obtain ⟨e,y⟩:=y
   subst e y
   exact hs i σ _ hlt p
 · have e:i=n:=by omega
   subst e
   exact .inl ⟨Nat.le_refl _,hd σ H p⟩
end L2
namespace L2
open PySem PySem.Spec PyProof.Rows
abbrev R2:=V→V→Hp→VK→Prop
def OpR (X:Cx) (f:Value→Value→Sem Value) (r:R2):Prop:=
 ∀ (pins:List (Addr × Obj)) (s:Shared) (σ:St) (H:Hp) (x y:V) (v u:Value) (Q:VK),Inv X pins σ H s→RelV x v→RelV y u→r x y H Q→
  wpAny (model X.prog X.w) X.A (f v u) (EP X pins σ Q) X.xe s
def UnR (X:Cx) (f:Value→Sem Value) (r:V→Hp→VK→Prop):Prop:=
 ∀ (pins:List (Addr × Obj)) (s:Shared) (σ:St) (H:Hp) (x:V) (v:Value) (Q:VK),Inv X pins σ H s→RelV x v→r x H Q→
  wpAny (model X.prog X.w) X.A (f v) (EP X pins σ Q) X.xe s
def CallR (X:Cx) (f:Value) (r:List V→Hp→VK→Prop):Prop:=
 ∀ (pins:List (Addr × Obj)) (s:Shared) (σ:St) (H:Hp) (xs:List V) (us:List Value) (Q:VK),Inv X pins σ H s→Vals xs us→r xs H Q→
  wpAny (model X.prog X.w) X.A (call f us) (EP X pins σ Q) X.xe s
def tOp (r:R2) (ta tb:TE):TE:=fun σ H Q=>ta σ H fun x H1=>tb σ H1 fun y H2=>r x y H2 Q
def tUn (r:V→Hp→VK→Prop) (ta:TE):TE:=fun σ H Q=>ta σ H fun x H1=>r x H1 Q
def rI (C:Int→Int→Prop) (g:Int→Int→V):R2:=fun x y H Q=>∃ i j,x=.int i∧y=.int j∧C i j∧Q (g i j) H
def rI0 (g:Int→Int→V):R2:=fun x y H Q=>∃ i j,x=.int i∧y=.int j∧Q (g i j) H
def rU (g:Int→V):V→Hp→VK→Prop:=fun x H Q=>∃ i,x=.int i∧Q (g i) H
section
variable {X:Cx} {a b c:Expr} {ta tb tc:TE} {pos:Pos}
theorem binT (ha:PE X a ta) (hb:PE X b tb) {pins:List (Addr × Obj)} {s:Shared} {σ:St} {H:Hp} {R:V→V→Hp→Prop} (I:Inv X pins σ H s)
  (h:ta σ H fun x H1=>tb σ H1 fun y H2=>R x y H2) {Q:Value→Shared→Prop} {f:Value→Value→Sem Value}
  (hf:∀ v u s2 x y H2,Inv X pins σ H2 s2→RelV x v→RelV y u→R x y H2→wpAny (model X.prog X.w) X.A (f v u) Q X.xe s2):
  wpAny (model X.prog X.w) X.A (eval a X.env) (fun v s₁=>wpAny (model X.prog X.w) X.A (eval b X.env) (fun u s₂=>wpAny (model X.prog X.w) X.A (f v u) Q X.xe s₂) X.xe s₁) X.xe s:=by
 refine thn (ha pins s σ H _ I h) fun v s1 ⟨x,H1,I1,r1,q1⟩=>?_
 refine thn (hb pins s1 σ H1 _ I1 q1) fun u s2 ⟨y,H2,I2,r2,q2⟩=>?_
 exact hf v u s2 x y H2 I2 r1 r2 q2
theorem ag {op:Operator} {r:R2} (ho:OpR X (binaryOp op) r) (ha:PE X a ta) (hb:PE X b tb):PE X (.BinOp a op b pos) (tOp r ta tb):=by
 intro pins s σ H Q I h
 exact wpAny_BinOp (binT ha hb I h fun v u s2 x y H2 I2 rx ry q=>ho pins s2 σ H2 x y v u Q I2 rx ry q)
theorem pZ {op:UnaryOp} {r:V→Hp→VK→Prop} (ho:UnR X (unaryOp op) r) (ha:PE X a ta):PE X (.UnaryOp op a pos) (tUn r ta):=by
 intro pins s σ H Q I h
 exact UnaryOp_ (thn (ha pins s σ H _ I h) fun v s1 ⟨x,H1,I1,r1,q1⟩=>ho pins s1 σ H1 x v Q I1 r1 q1)
theorem opI {f:Value→Value→Sem Value} {C:Int→Int→Prop} {g:Int→Int→Int}
  (rule:∀ (i j:Int) (t u:Tok) (s:Shared) (Q:Value→Shared→Prop) (E:Value→Shared→Prop),C i j→Q (.int (g i j) s.toks) { s with toks:=s.toks+1 }→wpAny (model X.prog X.w) X.A (f (.int i t) (.int j u)) Q E s):
  OpR X f (rI C fun i j=>.int (g i j)):=by
 intro pins s σ H x y v u Q I rx ry h
 obtain ⟨i,j,rfl,rfl,hc,q⟩:=h
 obtain ⟨t,rfl⟩:=rx
 obtain ⟨t',rfl⟩:=ry
 exact rule i j t t' s _ _ hc ⟨.int (g i j),H,I.tok _,⟨_,rfl⟩,q⟩
theorem wg {f:Value→Value→Sem Value} {g:Int→Int→Int}
  (rule:∀ (i j:Int) (t u:Tok) (s:Shared) (Q:Value→Shared→Prop) (E:Value→Shared→Prop),Q (.int (g i j) s.toks) { s with toks:=s.toks+1 }→wpAny (model X.prog X.w) X.A (f (.int i t) (.int j u)) Q E s):
  OpR X f (rI0 fun i j=>.int (g i j)):=by
 intro pins s σ H x y v u Q I rx ry h
 obtain ⟨i,j,rfl,rfl,q⟩:=h
 obtain ⟨t,rfl⟩:=rx
 obtain ⟨t',rfl⟩:=ry
 exact rule i j t t' s _ _ ⟨.int (g i j),H,I.tok _,⟨_,rfl⟩,q⟩
theorem ut {f:Value→Value→Sem Value} {g:Int→Int→Bool}
  (rule:∀ (i j:Int) (t u:Tok) (s:Shared) (Q:Value→Shared→Prop) (E:Value→Shared→Prop),Q (.bool (g i j)) s→wpAny (model X.prog X.w) X.A (f (.int i t) (.int j u)) Q E s):
  OpR X f (rI0 fun i j=>.bl (g i j)):=by
 intro pins s σ H x y v u Q I rx ry h
 obtain ⟨i,j,rfl,rfl,q⟩:=h
 obtain ⟨t,rfl⟩:=rx
 obtain ⟨t',rfl⟩:=ry
 exact rule i j t t' s _ _ ⟨.bl (g i j),H,I,rfl,q⟩
def CDiv (i j:Int):Prop:=0 < j∧j < 1073741824
def CPow (i j:Int):Prop:=0≤j∧j≤1000000∧i.natAbs < 2^64
def CMul (i j:Int):Prop:=(-(2^64) < i∧i < 2^64)∨(-(2^64) < j∧j < 2^64)
theorem CMul.ok {i j:Int} (h:CMul i j):IntMulOk i j:=by
 rcases h with ⟨h1,h2⟩ | ⟨h1,h2⟩
 · exact .of_left (intBits_le_64 h1 h2)
 · exact .of_right (intBits_le_64 h1 h2)
theorem wj:OpR X (binaryOp .Add) (rI0 fun i j=>.int (i+j)):=wg fun _ _ _ _ _ _ _ q=>add_int q
theorem wk:OpR X (binaryOp .Sub) (rI0 fun i j=>.int (i - j)):=wg fun _ _ _ _ _ _ _ q=>sub_int q
theorem wl:OpR X (binaryOp .Mult) (rI CMul fun i j=>.int (i*j)):=opI fun _ _ _ _ _ _ _ hc q=>mul_int q hc.ok
theorem vj:OpR X (binaryOp .FloorDiv) (rI CDiv fun i j=>.int (i / j)):=opI fun i j _ _ _ _ _ hc q=>by
 have h1:(0:Int) < j:=hc.1
 have h2:j < 1073741824:=hc.2
 exact floordiv_int (by omega) (by rw [Int.fdiv_eq_ediv_of_nonneg i (by omega)]; exact q) (.inl (PyProof.noPylong_small (by omega)))
theorem wm:OpR X (binaryOp .Mod) (rI (fun _ j=>0 < j) fun i j=>.int (i % j)):=opI fun i j _ _ _ _ _ hc q=>by
 have h1:(0:Int) < j:=hc
 exact mod_int' (by omega) (by rw [Int.fmod_eq_emod_of_nonneg i (by omega)]; exact q)
theorem unI {f:Value→Sem Value} {g:Int→Int}
  (rule:∀ (i:Int) (t:Tok) (s:Shared) (Q:Value→Shared→Prop) (E:Value→Shared→Prop),Q (.int (g i) s.toks) { s with toks:=s.toks+1 }→wpAny (model X.prog X.w) X.A (f (.int i t)) Q E s):
  UnR X f (rU fun i=>.int (g i)):=by
 intro pins s σ H x v Q I rx h
 obtain ⟨i,rfl,q⟩:=h
 obtain ⟨t,rfl⟩:=rx
 exact rule i t s _ _ ⟨.int (g i),H,I.tok _,⟨_,rfl⟩,q⟩
theorem mT:UnR X (unaryOp .USub) (rU fun i=>.int (-i)):=unI fun _ _ _ _ _ q=>neg_int q
end
def scal:V→V→Bool
 | .non,.non=>true | .non,.int _=>true | .int _,.non=>true | .non,.bl _=>true | .bl _,.non=>true | .non,.str _=>true | .str _,.non=>true
 | .int _,.int _=>true | .bl _,.bl _=>true | .str _,.str _=>true | .byt _,.byt _=>true
 | .int _,.str _=>true | .str _,.int _=>true | .bl _,.str _=>true | .str _,.bl _=>true
 | _,_=>false
def rEq:R2:=fun x y H Q=>scal x y=true∧Q (.bl (decide (x=y))) H
def rNe:R2:=fun x y H Q=>scal x y=true∧Q (.bl (!decide (x=y))) H
theorem rG {i j:Int}:decide (V.int i=V.int j)=(i==j):=by
 rw [Bool.eq_iff_iff]
 simp
theorem tq {i j:Bool}:decide (V.bl i=V.bl j)=(i==j):=by
 rw [Bool.eq_iff_iff]
 simp
theorem rH {i j:Str}:decide (V.str i=V.str j)=(i==j):=by
 rw [Bool.eq_iff_iff]
 simp
theorem rJ {i j:Array UInt8}:decide (V.byt i=V.byt j)=(i.toList==j.toList):=by
 rw [Bool.eq_iff_iff]
 cases i
 cases j
 simp
section
variable {X:Cx} {a b c:Expr} {ta tb tc:TE} {pos:Pos}
theorem aJ {pins:List (Addr × Obj)} {σ:St} {H:Hp} {s:Shared} {Q:VK} {k k':Bool} (I:Inv X pins σ H s) (q:Q (.bl k) H) (e:k=k'):EP X pins σ Q (.bool k') s:=by
 subst e
 exact ⟨.bl k,H,I,rfl,q⟩
theorem sf:OpR X (compareOp .Eq) rEq:=by
 intro pins s σ H x y v u Q I rx ry h
 obtain ⟨hs,q⟩:=h
 cases x with
 | non=>
  cases rx
  cases y with
  | non=>cases ry; exact PySem.EqNone.eq_none_none (aJ I q (by simp))
  | bl j=>cases ry; exact PySem.EqNone.eq_none_bool (aJ I q (by simp))
  | int j=>obtain ⟨t',rfl⟩:=ry; exact PySem.EqNone.eq_none_int (aJ I q (by simp))
  | str j=>obtain ⟨t',rfl⟩:=ry; exact PySem.EqNone.eq_none_str (aJ I q (by simp))
  | _=>exact absurd (show false=true from hs) Bool.false_ne_true
 | bl i=>
  cases rx
  cases y with
  | non=>cases ry; exact PySem.EqNone.eq_bool_none (aJ I q (by simp))
  | bl j=>cases ry; exact eq_bool (aJ I q tq)
  | str j=>obtain ⟨t',rfl⟩:=ry; exact PySem.EqMixed.eq_bool_str (aJ I q (by simp))
  | _=>exact absurd (show false=true from hs) Bool.false_ne_true
 | int i=>
  obtain ⟨t,rfl⟩:=rx
  cases y with
  | non=>cases ry; exact PySem.EqNone.eq_int_none (aJ I q (by simp))
  | int j=>obtain ⟨t',rfl⟩:=ry; exact eq_int (aJ I q rG)
  | str j=>obtain ⟨t',rfl⟩:=ry; exact PySem.EqMixed.eq_int_str (aJ I q (by simp))
  | _=>exact absurd (show false=true from hs) Bool.false_ne_true
 | str i=>
  obtain ⟨t,rfl⟩:=rx
  cases y with
  | non=>cases ry; exact PySem.EqNone.eq_str_none (aJ I q (by simp))
  | bl j=>cases ry; exact PySem.EqMixed.eq_str_bool (aJ I q (by simp))
  | int j=>obtain ⟨t',rfl⟩:=ry; exact PySem.EqMixed.eq_str_int (aJ I q (by simp))
  | str j=>obtain ⟨t',rfl⟩:=ry; exact eq_str (aJ I q rH)
  | _=>exact absurd (show false=true from hs) Bool.false_ne_true
 | byt i=>
  obtain ⟨t,rfl⟩:=rx
  cases y with
  | byt j=>obtain ⟨t',rfl⟩:=ry; exact PySem.W.eq_bytes (aJ I q rJ)
  | _=>exact absurd (show false=true from hs) Bool.false_ne_true
 | _=>cases y <;> exact absurd (show false=true from hs) Bool.false_ne_true
theorem si:OpR X (compareOp .NotEq) rNe:=by
 intro pins s σ H x y v u Q I rx ry h
 obtain ⟨hs,q⟩:=h
 cases x with
 | non=>
  cases rx
  cases y with
  | non=>cases ry; exact PySem.EqNone.ne_none_none (aJ I q (by simp))
  | bl j=>cases ry; exact PySem.EqNone.ne_none_bool (aJ I q (by simp))
  | int j=>obtain ⟨t',rfl⟩:=ry; exact PySem.EqNone.ne_none_int (aJ I q (by simp))
  | str j=>obtain ⟨t',rfl⟩:=ry; exact PySem.EqNone.ne_none_str (aJ I q (by simp))
  | _=>exact absurd (show false=true from hs) Bool.false_ne_true
 | bl i=>
  cases rx
  cases y with
  | non=>cases ry; exact PySem.EqNone.ne_bool_none (aJ I q (by simp))
  | bl j=>cases ry; exact ne_bool (aJ I q (congrArg not tq))
  | str j=>obtain ⟨t',rfl⟩:=ry; exact PySem.EqMixed.ne_bool_str (aJ I q (by simp))
  | _=>exact absurd (show false=true from hs) Bool.false_ne_true
 | int i=>
  obtain ⟨t,rfl⟩:=rx
  cases y with
  | non=>cases ry; exact PySem.EqNone.ne_int_none (aJ I q (by simp))
  | int j=>obtain ⟨t',rfl⟩:=ry; exact ne_int (aJ I q (congrArg not rG))
  | str j=>obtain ⟨t',rfl⟩:=ry; exact PySem.EqMixed.ne_int_str (aJ I q (by simp))
  | _=>exact absurd (show false=true from hs) Bool.false_ne_true
 | str i=>
  obtain ⟨t,rfl⟩:=rx
  cases y with
  | non=>cases ry; exact PySem.EqNone.ne_str_none (aJ I q (by simp))
  | bl j=>cases ry; exact PySem.EqMixed.ne_str_bool (aJ I q (by simp))
  | int j=>obtain ⟨t',rfl⟩:=ry; exact PySem.EqMixed.ne_str_int (aJ I q (by simp))
  | str j=>obtain ⟨t',rfl⟩:=ry; exact ne_str (aJ I q (congrArg not rH))
  | _=>exact absurd (show false=true from hs) Bool.false_ne_true
 | byt i=>
  obtain ⟨t,rfl⟩:=rx
  cases y with
  | byt j=>obtain ⟨t',rfl⟩:=ry; exact PySem.W.ne_bytes (aJ I q (congrArg not rJ))
  | _=>exact absurd (show false=true from hs) Bool.false_ne_true
 | _=>cases y <;> exact absurd (show false=true from hs) Bool.false_ne_true
theorem w6:OpR X (compareOp .Lt) (rI0 fun i j=>.bl (decide (i < j))):=ut fun _ _ _ _ _ _ _ q=>lt_int q
theorem w9:OpR X (compareOp .LtE) (rI0 fun i j=>.bl (decide (i≤j))):=ut fun _ _ _ _ _ _ _ q=>le_int q
theorem xa:OpR X (compareOp .Gt) (rI0 fun i j=>.bl (decide (j < i))):=ut fun _ _ _ _ _ _ _ q=>gt_int q
theorem tu:OpR X (compareOp .In) (fun x y H Q=>∃ i j,x=.str i∧y=.str j∧Q (.bl (!(Builtin.Str.occurrences j i 0 j.length 1).isEmpty)) H):=by
 intro pins s σ H x y v u Q I rx ry h
 obtain ⟨i,j,rfl,rfl,q⟩:=h
 obtain ⟨t,rfl⟩:=rx
 obtain ⟨t',rfl⟩:=ry
 exact in_str (aJ I q rfl)
theorem tw:OpR X (compareOp .Is) (fun x y H Q=>y=.non∧Q (.bl (decide (x=.non))) H):=by
 intro pins s σ H x y v u Q I rx ry h
 obtain ⟨rfl,q⟩:=h
 cases ry
 refine is_none_gen (aJ I q ?_)
 cases x <;> first
  | (cases rx; rfl)
  | (obtain ⟨t,rfl⟩:=rx; rfl)
theorem az (b:Expr) {op:CmpOp} (h:op≠.In:=by decide) (h2:op≠.NotIn:=by decide):behindInMarks op b=false:=by
 have e1:(op==CmpOp.In)=false:=by cases op <;> first | rfl | exact absurd rfl h
 have e2:(op==CmpOp.NotIn)=false:=by cases op <;> first | rfl | exact absurd rfl h2
 cases b <;> simp [behindInMarks,e1,e2]
theorem db {op:CmpOp} {r:R2} (ho:OpR X (compareOp op) r) (ha:PE X a ta) (hb:PE X b tb) (hm:behindInMarks op b=false):PE X (.Compare a [op] [b] pos) (tOp r ta tb):=by
 intro pins s σ H Q I h
 exact wpAny_Compare1 (binT ha hb I h fun v u s2 x y H2 I2 rx ry q=>ho pins s2 σ H2 x y v u Q I2 rx ry q) hm
def tTest (t:TE):TT:=fun σ H Q=>t σ H fun x H'=>∃ k,x=.bl k∧Q k H'
theorem ax {op:CmpOp} {r:R2} (ho:OpR X (compareOp op) r) (ha:PE X a ta) (hb:PE X b tb) (hm:behindInMarks op b=false):PT X (.Compare a [op] [b] pos) (tTest (tOp r ta tb)):=by
 intro pins s σ H Q I h
 refine wpAny_isTrue_Compare1 (thn (ha pins s σ H _ I h) fun v s1 ⟨x,H1,I1,r1,q1⟩=>thn (hb pins s1 σ H1 _ I1 q1) fun u s2 ⟨y,H2,I2,r2,q2⟩=>
  thn (ho pins s2 σ H2 x y v u _ I2 r1 r2 q2) fun c s3 ⟨z,H3,I3,r3,k,e,q3⟩=>?_) hm
 subst e
 cases r3
 exact wpAny_truthy_bool ⟨H3,I3,q3⟩
theorem kz:(sizeLine:Nat) < 2^63:=by rw [sizeLine_eq]; decide
theorem sj:OpR X (binaryOp .Add) (fun x y H Q=>∃ i j,x=.str i∧y=.str j∧i.length+j.length≤sizeLine∧Q (.str (i++j)) H):=by
 intro pins s σ H x y v u Q I rx ry h
 obtain ⟨i,j,rfl,rfl,hz,q⟩:=h
 obtain ⟨t,rfl⟩:=rx
 obtain ⟨t',rfl⟩:=ry
 exact add_str (fun t' tk=>⟨.str (i++j),H,I.tok _,⟨_,rfl⟩,q⟩) hz
theorem fz {x:V} {us:List Value} (r:Vals [x] us):∃ u,us=[u]∧RelV x u:=by
 cases r with
 | cons r1 r2=>cases r2; exact ⟨_,rfl,r1⟩
theorem p5 {x y:V} {us:List Value} (r:Vals [x,y] us):∃ u w',us=[u,w']∧RelV x u∧RelV y w':=by
 cases r with
 | cons r1 r2=>
  cases r2 with
  | cons r3 r4=>cases r4; exact ⟨_,_,rfl,r1,r3⟩
theorem tz (hc:X.calm=true):CallR X (.builtin "min") (fun xs H Q=>∃ i j,xs=[.int i,.int j]∧Q (.int (if j < i then j else i)) H):=by
 intro pins s σ H xs us Q I r h
 obtain ⟨i,j,rfl,q⟩:=h
 obtain ⟨u,w',rfl,⟨t,rfl⟩,⟨t',rfl⟩⟩:=p5 r
 refine min_two_ints (I.ok.hd hc) fun h' tk k=>⟨_,H,I.kept k,?_,q⟩
 by_cases hj:j < i
 · rw [if_pos hj,if_pos hj]; exact ⟨_,rfl⟩
 · rw [if_neg hj,if_neg hj]; exact ⟨_,rfl⟩
theorem oU:CallR X (.type "int") (fun xs H Q=>(∃ i,xs=[.int i]∧Q (.int i) H)∨∃ k,xs=[.bl k]∧Q (.int (if k then 1 else 0)) H):=by
 intro pins s σ H xs us Q I r h
 rcases h with ⟨i,rfl,q⟩ | ⟨k,rfl,q⟩
 · obtain ⟨u,rfl,t,rfl⟩:=fz r
   exact call_int_int ⟨.int i,H,I,⟨_,rfl⟩,q⟩
 · obtain ⟨u,rfl,r1⟩:=fz r
   cases r1
   exact call_int_bool ⟨.int (if k then 1 else 0),H,I.tok _,⟨_,rfl⟩,q⟩
end
end L2
namespace L2
open PySem PySem.Spec PyProof.Rows
structure ObjM (h:Heap) (x dx C:Addr) (mA:Str→Option Value):Prop where
 obj:h.get? x=some (PySem.W.instObj C dx)
 ns:h.Ns1 dx mA
 ne:dx≠x
theorem tD {h:Heap} {dx:Addr} {mA:Str→Option Value} (n:h.Ns1 dx mA):∃ od,h.get? dx=some od∧∀ name,PySem.W.lookIn name od=some (mA name):=by
 obtain ⟨o,es,ep,ho,hd,hk,_,hm⟩:=n
 refine ⟨o,ho,fun name=>?_⟩
 have e:=hm name
 unfold nsFind findBy at e
 rw [← Array.find?_toList] at e
 unfold PySem.W.lookIn
 rw [hd]
 dsimp only
 split
 · rename_i y q
   rw [q] at e
   exact congrArg some e
 · rename_i q
   rw [q] at e
   have a:es.toList.any (·.refKey)=false:=by
    rw [List.any_eq_false]
    intro y hy
    obtain ⟨z,t,hkey⟩:=hk y (Array.mem_toList_iff.mp hy)
    simp [DictEntry.refKey,hkey]
   have a':¬ es.toList.any (·.refKey)=true:=by rw [a]; exact Bool.false_ne_true
   rw [if_neg a']
   exact congrArg some e
theorem ObjM.look {h:Heap} {x dx C:Addr} {mA:Str→Option Value} (I:ObjM h x dx C mA):∃ od,PySem.W.InstAt h x (PySem.W.instObj C dx) C (some od)∧∀ name,PySem.W.lookIn name od=some (mA name):=
 let ⟨od,ho,hl⟩:=tD I.ns
 ⟨od,⟨I.obj,rfl,rfl,ho⟩,hl⟩
section
variable {prog:Program} {w:World} {A:Around} {E:Value→Shared→Prop} {s:Shared} {K:PySem.W.Frag} {x dx C f:Addr} {mA:Str→Option Value} {name:Str} {v:Value}
theorem vk {expr:Bool} {Q:Value→Shared→Prop} (X:K.In s.heap) (I:ObjM s.heap x dx C mA) (hg:PySem.W.plainGet K C name=true) (hh:PySem.W.hasDictIn K C=true)
  (ha:PySem.W.findIn K (.ref C) name=some none) (hv:mA name=some v) (hv':PySem.W.handedIn v=true) (h:Q v { s with toks:=s.toks+1 }):
  wpAny (model prog w) A (getAttr (.ref x) name expr) Q E s:=by
 obtain ⟨od,J,hl⟩:=I.look
 exact PySem.W.get_value X J (PySem.W.plainGet_of hg).1 (PySem.W.findObj_own hh ha rfl (by rw [hl,hv])) hv' h
theorem uu {pl:Sem Bool} {Q:Value × List Value→Shared→Prop} (X:K.In s.heap) (I:ObjM s.heap x dx C mA) (hg:PySem.W.plainGet K C name=true)
  (hf:PySem.W.findIn K (.ref C) name=some (some (.ref f))) (ht:PySem.W.isFn K (.ref f)=true) (hv:mA name=none) (h:Q (.ref f,[.ref x]) s):
  wpAny (model prog w) A (getMethod (.ref x) name pl) Q E s:=by
 obtain ⟨od,J,hl⟩:=I.look
 exact PySem.W.method_fn X J (PySem.W.plainGet_of hg).1 (PySem.W.plainGet_of hg).2 hf (beq_iff_eq.mp ht) (by show (PySem.W.lookIn name od).map (·.isSome)=some false; rw [hl,hv]; rfl) h
theorem vm {ns:List Str} {Q:Unit→Shared→Prop} (X:K.In s.heap) (I:ObjM s.heap x dx C mA)
  (hs:PySem.W.findIn K (.ref C) "__setattr__"=some (some (.builtin "object.__setattr__"))) (hp:PySem.W.plainOver K C=true) (ht:PySem.W.takerIn K C name=some none) (hh:PySem.W.hasDictIn K C=true)
  (hw:PySem.Within mA ns) (hsz:ns.length≤sizeLine)
  (h:∀ h',ObjM h' x dx C (fun y=>if y=name then some v else mA y)→Heap.SameBut dx s.heap h'→Q () { s with heap:=h',toks:=s.toks+2 }):
  wpAny (model prog w) A (setAttr (.ref x) name v) Q E s:=by
 obtain ⟨od,J,hl⟩:=I.look
 refine PySem.W.set_plain X J hs (PySem.W.osa_open (s:={ s with toks:=s.toks+1 }) (r:=none) X J hp ht fun b=>?_)
 obtain ⟨cd,hc,hd'⟩:=PySem.W.any_some hh
 have hx:s.heap.get? x=some ⟨.ref C,some dx,.plain,#[]⟩:=I.obj
 refine wpAny_bind (wpAny_pure (wpAny_bind (wpAny_bind (wpAny_loadPart hx (wpAny_bind (PySem.W.Looks.here (s:={ s with toks:=s.toks+1 }) (PySem.W.looks_clsIn X hc) ?_))))))
 rw [hd']
 refine wpAny_pure (a:=some dx) (wpAny_bind (wpAny_pure (wpAny_bind ?_)))
 refine wpAny_nsSet1 (s:={ s with toks:=s.toks+1 }) I.ns fun h' hn2 hs2=>?_
 obtain ⟨oD,esD,epD,hoD,hdD,hcD⟩:=hn2.count (PySem.Within.cons name v hw)
 refine wpAny_bind (wpAny_lookBehind hoD (by rw [hdD]; exact pastItsLine_dict (Nat.le_trans hcD (by rw [List.length_cons]; omega))) ?_)
 exact wpAny_pure (h _ ⟨(hs2.2 _ (Ne.symm I.ne)).trans I.obj,hn2,I.ne⟩ hs2)
theorem uv {R:Result→Shared→Prop} {vs:List Value} {kw:List (Str × Value)} (X:K.In s.heap) (hm:PySem.W.makesIn K C=true)
  (hi:PySem.W.findIn K (.ref C) "__init__"=some (some (.ref f))) (hf:PySem.W.typeIn K (.ref f)=some (.type "function"))
  (h:codeAny (model prog w) (A.under (.builtin "type.__call__" ⟨.ref C::vs,kw⟩)) (.call (.ref f) ⟨.ref (s.heap.objs.size+1)::vs,kw⟩) (PySem.W.InitBack (s.heap.objs.size+1) R)
   { s with heap:=(s.heap.push PySem.W.emptyDict).push (PySem.W.instObj C s.heap.objs.size) }):
  codeAny (model prog w) A (.call (.ref C) ⟨vs,kw⟩) R s:=by
 obtain ⟨hh,g,d,t,os⟩:=s
 exact PySem.W.make_core (PySem.W.makes_of X hm) (PySem.W.looks_findIn X hi) (fun self=>PySem.W.bind_fn X self hf) (.inl rfl) h
end
def putF (f:Str) (v:V):List (Str × V)→List (Str × V)
 | []=>[(f,v)]
 | (g,x)::r=>if g=f then (g,v)::r else (g,x)::putF f v r
theorem l0 (f g:Str) (v:V):∀ fs:List (Str × V),(putF f v fs).lookup g=if g=f then some v else fs.lookup g
 | []=>by
  show List.lookup g [(f,v)]=_
  by_cases h:g=f
  · have hb:(g==f)=true:=beq_iff_eq.mpr h
    simp only [List.lookup,hb,if_pos h]
  · have hb:(g==f)=false:=beq_eq_false_iff_ne.mpr h
    simp only [List.lookup,hb,if_neg h]
 | (k,x)::r=>by
  have ih:=l0 f g v r
  rw [show putF f v ((k,x)::r)=(if k=f then (k,v)::r else (k,x)::putF f v r) from rfl]
  by_cases hk:k=f
  · rw [if_pos hk]
    by_cases h:g=k
    · have hb:(g==k)=true:=beq_iff_eq.mpr h
      simp only [List.lookup,hb,if_pos (h.trans hk)]
    · have hb:(g==k)=false:=beq_eq_false_iff_ne.mpr h
      simp only [List.lookup,hb,if_neg (fun e:g=f=>h (e.trans hk.symm))]
  · rw [if_neg hk]
    by_cases h:g=k
    · have hb:(g==k)=true:=beq_iff_eq.mpr h
      simp only [List.lookup,hb,if_neg (fun e:g=f=>hk (h.symm.trans e))]
    · have hb:(g==k)=false:=beq_eq_false_iff_ne.mpr h
      simp only [List.lookup,hb]
      exact ih
theorem kA (f:Str) (v:V):∀ fs:List (Str × V),f∈(putF f v fs).map (·.1)∧∀ g,g∈fs.map (·.1)→g∈(putF f v fs).map (·.1)
 | []=>⟨by simp [putF],fun g h=>by simp at h⟩
 | (k,x)::r=>by
  obtain ⟨i1,i2⟩:=kA f v r
  rw [show putF f v ((k,x)::r)=(if k=f then (k,v)::r else (k,x)::putF f v r) from rfl]
  by_cases hk:k=f
  · rw [if_pos hk]
    subst hk
    exact ⟨by simp,fun g h=>by simpa using h⟩
  · rw [if_neg hk]
    refine ⟨?_,fun g h=>?_⟩
    · rw [List.map_cons]
      exact List.mem_cons_of_mem _ i1
    · rw [List.map_cons] at h ⊢
      rcases List.mem_cons.mp h with e | e
      · exact List.mem_cons.mpr (.inl e)
      · exact List.mem_cons_of_mem _ (i2 g e)
theorem l8 (f:Str) (v:V):∀ fs:List (Str × V),(putF f v fs).length≤fs.length+1
 | []=>by simp [putF]
 | (k,x)::r=>by
  have ih:=l8 f v r
  rw [show putF f v ((k,x)::r)=(if k=f then (k,v)::r else (k,x)::putF f v r) from rfl]
  by_cases hk:k=f
  · rw [if_pos hk,List.length_cons,List.length_cons]; omega
  · rw [if_neg hk,List.length_cons,List.length_cons]; omega
theorem RelO.some_of {v:V} {o:Option Value} (r:RelO (some v) o):∃ u,o=some u∧RelV v u:=by
 cases o with
 | none=>exact (show False from r).elim
 | some u=>exact ⟨u,rfl,r⟩
theorem RelO.none_of {o:Option Value} (r:RelO none o):o=none:=by
 cases o with
 | none=>rfl
 | some u=>exact (show False from r).elim
theorem tE {v:V} {u:Value} (r:RelV v u):PySem.W.handedIn u=true:=by
 cases v with
 | non=>cases (show u=Value.none from r); rfl
 | bl b=>cases (show u=Value.bool b from r); rfl
 | int i=>obtain ⟨t,e⟩:=(show ∃ t,u=Value.int i t from r); cases e; rfl
 | str x=>obtain ⟨t,e⟩:=(show ∃ t,u=Value.str x t from r); cases e; rfl
 | byt b=>obtain ⟨t,e⟩:=(show ∃ t,u=Value.bytes b t from r); cases e; rfl
 | flt b=>obtain ⟨t,e⟩:=(show ∃ t,u=Value.float b t from r); cases e; rfl
 | ref a=>cases (show u=Value.ref a from r); rfl
 | ty n=>cases (show u=Value.type n from r); rfl
section
variable {P:Program} {w:World} {H H':Hp} {h h':Heap} {a C dx:Addr} {fs fs':List (Str × V)}
theorem jU (hok:HOk P w H h) (e:H a=some (.ins C dx fs)):∃ mA,ObjM h a dx C mA∧(∀ f,RelO (fs.lookup f) (mA f))∧PySem.Within mA (fs.map (·.1))∧fs.length≤1000∧H dx=some (.own a):=by
 obtain ⟨d,z,ne,ob,mA,n,r,q⟩:=(show ObjOk P w H h a (.ins C dx fs) from hok a _ e)
 exact ⟨mA,⟨ob,n,ne⟩,r,q,z,d⟩
end
structure Cls (K:PySem.W.Frag) (C:Addr):Prop where
 pg:PySem.W.plainGet K C Str.empty=true
 hd:PySem.W.hasDictIn K C=true
 po:PySem.W.plainOver K C=true
 sa:PySem.W.findIn K (.ref C) "__setattr__"=some (some (.builtin "object.__setattr__"))
theorem Cls.get {K:PySem.W.Frag} {C:Addr} (c:Cls K C) (f:Str):PySem.W.plainGet K C f=true:=c.pg
def NoAttr (K:PySem.W.Frag) (C:Addr) (f:Str):Prop:=PySem.W.findIn K (.ref C) f=some none
theorem NoAttr.taker {K:PySem.W.Frag} {C:Addr} {f:Str} (n:NoAttr K C f):PySem.W.takerIn K C f=some none:=by
 unfold PySem.W.takerIn
 rw [show PySem.W.findIn K (.ref C) f=some none from n]
 rfl
structure Meth (K:PySem.W.Frag) (C:Addr) (m:Str) (f:Addr):Prop where
 at_:PySem.W.findIn K (.ref C) m=some (some (.ref f))
 fn:PySem.W.isFn K (.ref f)=true
 kp:PySem.W.keepIn K (.ref f)=true
section
variable {X:Cx} {pins:List (Addr × Obj)} {σ:St} {H:Hp} {s:Shared} {a C dx:Addr} {fs:List (Str × V)} {f:Str} {v:V} {A:Around} {E:Value→Shared→Prop}
theorem sk {b:Bool} {Q:Value→Shared→Prop} (I:Inv X pins σ H s) (e:H a=some (.ins C dx fs)) (c:Cls X.K C) (n:NoAttr X.K C f) (l:fs.lookup f=some v)
  (h:∀ u s',Inv X pins σ H s'→RelV v u→Q u s'):wpAny (model X.prog X.w) A (getAttr (.ref a) f b) Q E s:=by
 obtain ⟨mA,O,r,_,_,_⟩:=jU I.hok e
 obtain ⟨u,hu,ru⟩:=RelO.some_of (v:=v) (o:=mA f) (by rw [← l]; exact r f)
 exact vk I.kIn O (c.get f) c.hd n hu (tE ru) (h u _ (I.tok _) ru)
theorem mU {m:Str} {g:Addr} {pl:Sem Bool} {Q:Value × List Value→Shared→Prop} (I:Inv X pins σ H s) (e:H a=some (.ins C dx fs)) (c:Cls X.K C) (k:Meth X.K C m g) (l:fs.lookup m=none)
  (h:Q (.ref g,[.ref a]) s):wpAny (model X.prog X.w) A (getMethod (.ref a) m pl) Q E s:=by
 obtain ⟨mA,O,r,_,_,_⟩:=jU I.hok e
 have hn:mA m=none:=RelO.none_of (by rw [← l]; exact r m)
 exact uu I.kIn O (c.get m) k.at_ k.fn hn h
theorem so {y:V} {u:Value} {Q:Unit→Shared→Prop} (I:Inv X pins σ H s) (e:H a=some (.ins C dx fs)) (c:Cls X.K C) (n:NoAttr X.K C f) (hl:fs.length < 1000) (ry:RelV y u)
  (h:∀ s',Inv X pins σ (upd H a (.ins C dx (putF f y fs))) s'→Q () s'):wpAny (model X.prog X.w) A (setAttr (.ref a) f u) Q E s:=by
 obtain ⟨mA,O,r,wi,_,ho⟩:=jU I.hok e
 have hz:(fs.map (·.1)).length≤sizeLine:=by rw [List.length_map,sizeLine_eq]; omega
 refine vm I.kIn O c.sa c.po n.taker c.hd wi hz fun h' O' sb=>h _ ?_
 have hd:∃ o,h'.get? dx=some o:=let ⟨o,_,_,e',_⟩:=O'.ns; ⟨o,e'⟩
 refine I.write (x:=a) (e:=dx) (by rw [e]; exact True.intro) (.inr ho) (fun b q hb z=>(sb.2 b hb).trans z) hd ?_
 refine ⟨by rw [am O.ne]; exact ho,?_,O.ne,O'.obj,_,O'.ns,fun g=>?_,fun g hg=>?_⟩
 · have:=l8 f y fs; omega
 · show RelO ((putF f y fs).lookup g) (if g=f then some u else mA g)
   rw [l0]
   by_cases q:g=f
   · rw [if_pos q,if_pos q]; exact ry
   · rw [if_neg q,if_neg q]; exact r g
 · by_cases q:g=f
   · rw [q]; exact (kA f y fs).1
   · refine (kA f y fs).2 g (wi g fun z=>hg ?_)
     show (if g=f then some u else mA g)=none
     rw [if_neg q]; exact z
theorem Inv.made (I:Inv X pins σ H s):Inv X pins σ (upd (upd H s.heap.objs.size (.own (s.heap.objs.size+1))) (s.heap.objs.size+1) (.ins C s.heap.objs.size []))
  { s with heap:=(s.heap.push PySem.W.emptyDict).push (PySem.W.instObj C s.heap.objs.size) }:=by
 have e1:(s.heap.push PySem.W.emptyDict).get? s.heap.objs.size=some PySem.W.emptyDict:=Heap.get?_push_size s.heap rfl
 have e2:((s.heap.push PySem.W.emptyDict).push (PySem.W.instObj C s.heap.objs.size)).get? (s.heap.objs.size+1)=some (PySem.W.instObj C s.heap.objs.size):=by
  have:=Heap.get?_push_size (s.heap.push PySem.W.emptyDict) (o:=PySem.W.instObj C s.heap.objs.size) rfl
  rwa [Heap.size_push] at this
 have e3:(s.heap.push PySem.W.emptyDict).Ns s.heap.objs.size (fun _=>none):=⟨PySem.W.emptyDict,#[],_,e1,rfl,(fun e he=>absurd he (by simp)),fun _=>rfl⟩
 have I1:=I.laid (a:=s.heap.objs.size) (o:=.own (s.heap.objs.size+1)) (h':=s.heap.push PySem.W.emptyDict) (t':=s.toks) (fun b u q=>Heap.get?_push_of_some _ q) (Nat.le_refl _) ⟨_,e1⟩
 refine I1.laid (a:=s.heap.objs.size+1) (o:=.ins C s.heap.objs.size []) (t':=s.toks) (fun b u q=>Heap.get?_push_of_some _ q) (Nat.le_of_eq (Heap.size_push _ _)) ?_
 have ne:s.heap.objs.size≠s.heap.objs.size+1:=Nat.ne_of_lt (Nat.lt_succ_self _)
 refine ⟨by rw [am ne,af],Nat.zero_le _,ne,e2,fun _=>none,(Heap.Ns1.of_empty e3).at fun o q=>Heap.get?_push_of_some _ q,fun _=>True.intro,fun y hy=>absurd rfl hy⟩
theorem vn {prog:Program} {w:World} {env:Env} {e:Expr} {f:Str} {pos:Pos} {s:Shared} {Q:Value→Shared→Prop} (hb:attributeBase e f env (eval e env)=eval e env)
  (h:wpAny (model prog w) A (eval e env) (fun o s₁=>wpAny (model prog w) A (getAttr o f true) Q E s₁) E s):wpAny (model prog w) A (eval (.Attribute e f pos) env) Q E s:=
 Attribute_any_ h (by rw [arm_eval_Attribute,hb])
end
section
variable {X:Cx} {o e value:Expr} {f:Str} {pos pos' tpos:Pos} {ta tv:TE}
end
section
variable {X:Cx} {pins:List (Addr × Obj)} {σ:St} {H:Hp} {s:Shared} {A:Around} {E:Value→Shared→Prop} {Q:Value→Shared→Prop} {c:Value} {b:Bool}
inductive TyOf (K:PySem.W.Frag) (H:Hp):V→Value→Prop where
 | non:TyOf K H .non (.type "NoneType")
 | bl (x:Bool):TyOf K H (.bl x) (.type "bool")
 | int (i:Int):TyOf K H (.int i) (.type "int")
 | str (x:Str):TyOf K H (.str x) (.type "str")
 | flt (x:UInt64):TyOf K H (.flt x) (.type "float")
 | lst {a:Addr} {xs:List V} (e:H a=some (.lst xs)):TyOf K H (.ref a) (.type "list")
 | frz {a:Addr} {o:Obj} {xs:List V} (e:H a=some (.frz o (.lst xs))):TyOf K H (.ref a) (.type "list")
 | tup {a:Addr} {xs:List V} (e:H a=some (.tup xs)):TyOf K H (.ref a) (.type "tuple")
 | dK {a:Addr} {kvs:List (Key × V)} (e:H a=some (.dK kvs)):TyOf K H (.ref a) (.type "dict")
 | dT {a:Addr} {kvs:List (List Key × V)} (e:H a=some (.dT kvs)):TyOf K H (.ref a) (.type "dict")
 | ins {a C dx:Addr} {fs:List (Str × V)} (e:H a=some (.ins C dx fs)) (cl:Cls K C) (ha:PySem.W.findIn K (.ref C) "__class__"=some (some (.builtin "object.__class__")))
   (hn:PySem.W.specialIn K (.builtin "object.__class__") "__get__"=some (some (.builtin "getset_descriptor.__get__"))) (htk:PySem.W.takesIn K (.builtin "object.__class__")=some true)
   (hm:PySem.W.mroIn K C (.type "object")=some true):TyOf K H (.ref a) (.ref C)
theorem tF {x:V} {u t:Value} (I:Inv X pins σ H s) (rx:RelV x u) (ty:TyOf X.K H x t) (e:PySem.W.kitOne X.K t c=some b) (h:∀ tk,Q (.bool b) { s with toks:=tk }):
  wpAny (model X.prog X.w) A (call (.builtin "isinstance") [u,c]) Q E s:=by
 cases ty with
 | non=>cases (show u=Value.none from rx); exact PySem.W.kia_one PySem.W.kitx_none I.kIn True.intro e (fun z=>nomatch z) h
 | bl y=>cases (show u=Value.bool y from rx); exact PySem.W.kia_one PySem.W.kitx_bool I.kIn True.intro e (fun z=>nomatch z) h
 | int i=>obtain ⟨t,q⟩:=(show ∃ t,u=Value.int i t from rx); cases q; exact PySem.W.kia_one PySem.W.kitx_int I.kIn True.intro e (fun z=>nomatch z) h
 | str y=>obtain ⟨t,q⟩:=(show ∃ t,u=Value.str y t from rx); cases q; exact PySem.W.kia_one PySem.W.kitx_str I.kIn True.intro e (fun z=>nomatch z) h
 | flt y=>obtain ⟨t,q⟩:=(show ∃ t,u=Value.float y t from rx); cases q; exact PySem.W.kia_one PySem.W.kitx_float I.kIn True.intro e (fun z=>nomatch z) h
 | @lst a xs ea=>
  cases (show u=Value.ref a from rx)
  obtain ⟨_,_,n,_,h1⟩:=(show ObjOk X.prog X.w H s.heap a (.lst xs) from I.hok a _ ea)
  exact PySem.W.kia_one PySem.W.kitx_list I.kIn ⟨_,h1,rfl⟩ e (fun z=>nomatch z) h
 | @frz a ob xs ea=>
  cases (show u=Value.ref a from rx)
  obtain ⟨_,_,_,n,_,h1⟩:=(show ObjOk X.prog X.w H s.heap a (.frz ob (.lst xs)) from I.hok a _ ea)
  exact PySem.W.kia_one PySem.W.kitx_list I.kIn ⟨_,h1,rfl⟩ e (fun z=>nomatch z) h
 | @tup a xs ea=>
  cases (show u=Value.ref a from rx)
  obtain ⟨_,_,_,p⟩:=(show ObjOk X.prog X.w H s.heap a (.tup xs) from I.hok a _ ea)
  obtain ⟨o,h1,h2,_⟩:=p
  exact PySem.W.kia_one PySem.W.kitx_tuple I.kIn ⟨o,h1,h2⟩ e (fun z=>nomatch z) h
 | @dK a kvs ea=>
  cases (show u=Value.ref a from rx)
  obtain ⟨_,_,vs,_,p⟩:=(show ObjOk X.prog X.w H s.heap a (.dK kvs) from I.hok a _ ea)
  obtain ⟨o,es,ep,h1,h2,_⟩:=p
  exact PySem.W.kia_one PySem.W.kitx_dict I.kIn ⟨o,h1,h2.1⟩ e (fun z=>nomatch z) h
 | @dT a kvs ea=>
  cases (show u=Value.ref a from rx)
  obtain ⟨_,_,xs,_,o,es,ep,h1,h2,_⟩:=(show ObjOk X.prog X.w H s.heap a (.dT kvs) from I.hok a _ ea)
  exact PySem.W.kia_one PySem.W.kitx_dict I.kIn ⟨o,h1,h2.1⟩ e (fun z=>nomatch z) h
 | @ins a C dx fs ea cl ha hn htk hm=>
  cases (show u=Value.ref a from rx)
  obtain ⟨mA,O,_⟩:=jU I.hok ea
  obtain ⟨od,J,_⟩:=O.look
  exact PySem.W.kia_one (PySem.W.kitx_own (cl.get _) cl.hd ha hn htk hm) I.kIn J e (fun z=>nomatch z) h
end
end L2
namespace L2
open PySem PySem.Spec PyProof.Rows
structure Room (k:Nat) (A:Around):Prop where
 hd:A.handled=none
 dp:A.depth+3*k+5 < recursionLimit
 un:A.units+16*k+200 < cLine
theorem Room.mono {j k:Nat} {A:Around} (r:Room k A) (h:j≤k):Room j A:=⟨r.hd,by have:=r.dp; omega,by have:=r.un; omega⟩
theorem Room.deeper {k:Nat} {A:Around} (r:Room (k+1) A) (env:Env):Room k (A.deeper env):=
 ⟨r.hd,by have:=r.dp; show A.depth+1+3*k+5 < _; omega,by have:=r.un; show A.units+3+16*k+200 < _; omega⟩
theorem sq {A:Around} {C:Addr} {us:List Value} {kw:List (Str × Value)}:(A.under (.builtin "type.__call__" ⟨.ref C::us,kw⟩)).depth=A.depth+1:=by
 first | rfl | simp [Around.under,Code.weight,Code.isCreation,Code.isGuard,Code.isCaller,Code.frames,Code.isFrame,guardIds]
theorem sr {A:Around} {C:Addr} {us:List Value} {kw:List (Str × Value)}:(A.under (.builtin "type.__call__" ⟨.ref C::us,kw⟩)).units=A.units+1:=by
 first | rfl | simp [Around.under,Code.cUnits,Code.frames,Code.isFrame]
theorem Room.make {k:Nat} {A:Around} (r:Room (k+1) A) (C:Addr) (us:List Value) (kw:List (Str × Value)):Room k (A.under (.builtin "type.__call__" ⟨.ref C::us,kw⟩)):=
 ⟨r.hd,by have:=r.dp; rw [sq]; omega,by have:=r.un; rw [sr]; omega⟩
theorem Room.depth {k:Nat} {A:Around} (r:Room k A):A.depth < recursionLimit:=by have:=r.dp; omega
theorem Room.units {k:Nat} {A:Around} (r:Room k A):A.units+64 < cLine:=by have:=r.un; omega
def tNil:TA:=fun _ H Q=>Q [] H
def tCons (ta:TE) (tr:TA):TA:=fun σ H Q=>ta σ H fun x H1=>tr σ H1 fun xs H2=>Q (x::xs) H2
section
variable {X:Cx} {e:Expr} {es:List Expr} {te:TE} {t:TA} {pos:Pos}
theorem ac:PA X [] tNil:=fun _ _ _ _ H Q I h=>Calls.spliced_nil ⟨[],H,I,.nil,h⟩
theorem aa (ha:PE X e te) (hr:PA X es t) (hs:starEach (e::es) X.env=(false,eval e X.env)::starEach es X.env:=by rfl):PA X (e::es) (tCons te t):=by
 intro pos pins s σ H Q I h
 rw [hs]
 show wpAny _ _ (spliced ((false,eval e X.env)::backTo pos (starEach es X.env))) _ _ s
 refine Calls.spliced_cons (thn (ha pins s σ H _ I h) fun u s1 ⟨x,H1,I1,r1,q1⟩=>?_)
 exact thn (hr pos pins s1 σ H1 _ I1 q1) fun us s2 ⟨xs,H2,I2,r2,q2⟩=>⟨x::xs,H2,I2,.cons r1 r2,q2⟩
def tTup (t:TA):TE:=fun σ H Q=>t σ H fun xs H1=>xs.length≤sizeLine∧∀ p,H1 p=none→Q (.ref p) (upd H1 p (.tup xs))
def tLst (t:TA):TE:=fun σ H Q=>t σ H fun xs H1=>xs.length≤sizeLine∧∀ p,H1 p=none→Q (.ref p) (upd H1 p (.lst xs))
theorem fO {x1} (h:PA X es t):PE X (.Tuple es x1 pos) (tTup t):=by
 intro pins s σ H Q I hq
 refine wpAny_Tuple_spliced (thn (h pos pins s σ H _ I hq) fun us s1 ⟨xs,H1,I1,r,z,q⟩=>⟨by rw [← r.length]; exact z,?_⟩)
 have hf:H1 s1.heap.objs.size=none:=I1.hok.fresh (Nat.le_refl _)
 refine ⟨.ref s1.heap.objs.size,upd H1 s1.heap.objs.size (.tup xs),I1.laid (t':=s1.toks) (fun b u e=>Heap.get?_push_of_some _ e) (Nat.le_refl _) ?_,rfl,q _ hf⟩
 exact ⟨z,us,r,⟨_,Heap.get?_push_size _ rfl,rfl,_,rfl⟩⟩
theorem bf (h:PA X es t):PE X (.List es pos) (tLst t):=by
 intro pins s σ H Q I hq
 refine wpAny_List_spliced (thn (h pos pins s σ H _ I hq) fun us s1 ⟨xs,H1,I1,r,z,q⟩=>⟨by rw [← r.length]; exact z,?_⟩)
 have hf:H1 s1.heap.objs.size=none:=I1.hok.fresh (Nat.le_refl _)
 refine ⟨.ref s1.heap.objs.size,upd H1 s1.heap.objs.size (.lst xs),I1.laid (t':=s1.toks) (fun b u e=>Heap.get?_push_of_some _ e) (Nat.le_refl _) ?_,rfl,q _ hf⟩
 exact ⟨z,us,0,r,Heap.get?_push_size _ rfl⟩
end
abbrev Sp:=List V→Hp→VK→XK→Prop
abbrev CXT:=List Env→Hp→Shared→XK→Value→Shared→Prop
structure Env0 (P:Program) (w:World) (K:PySem.W.Frag) (mg:Str→Option Value) (base:Heap) (A:Around) (outer:List Env) (s:Shared) (H:Hp):Prop where
 frames:A.frames=some outer
 mod:Mod K mg base
 bs:∀ b o,base.get? b=some o→s.heap.get? b=some o∧H b=none
 bsz:base.objs.size≤s.heap.objs.size
 funs:s.heap.FunFrames base outer
 frf:∀ b∈frs outer,H b=none
 hok:HOk P w H s.heap
 bare:AllBare s.gens
def CE (outer:List Env) (P:Program) (w:World) (H:Hp) (s:Shared) (Q:VK) (u:Value) (s':Shared):Prop:=
 ∃ v H',s'.os=s.os∧AllBare s'.gens∧Un (frs outer) [] H H' s.heap s'.heap∧HOk P w H' s'.heap∧RelV v u∧Q v H'
def CR (CX:CXT) (outer:List Env) (P:Program) (w:World) (H:Hp) (s:Shared) (Q:VK) (E:XK) (r:Result) (s':Shared):Prop:=
 match r with
 | .ok (.ret u)=>CE outer P w H s Q u s'
 | .ok _=>False
 | .error e=>CX outer H s E e s'
structure FnOk (P:Program) (w:World) (K:PySem.W.Frag) (mg:Str→Option Value) (base:Heap) (CX:CXT) (k:Nat) (f:Addr) (fd:FuncData) (ps:List Str) (sp:Sp):Prop where
 len:∀ vs H Q E,sp vs H Q E→vs.length=ps.length
 run:∀ (A:Around) (outer:List Env) (s:Shared) (H:Hp) (args:Args) (us:List Value) (vs:List V) (Q:VK) (E:XK),Room k A→Env0 P w K mg base A outer s H→BindsTo s fd args (ps.zip us)→Vals vs us→sp vs H Q E→
  codeAny (model P w) A (.call (.ref f) args) (CR CX outer P w H s Q E) s
theorem FnOk.mono {P:Program} {w:World} {K:PySem.W.Frag} {mg:Str→Option Value} {base:Heap} {CX:CXT} {j k:Nat} {f:Addr} {fd:FuncData} {ps:List Str} {sp:Sp} (F:FnOk P w K mg base CX j f fd ps sp) (h:j≤k):
  FnOk P w K mg base CX k f fd ps sp:=⟨F.len,fun A outer s H args us vs Q E hr=>F.run A outer s H args us vs Q E (hr.mono h)⟩
theorem FnOk.imp {P:Program} {w:World} {K:PySem.W.Frag} {mg:Str→Option Value} {base:Heap} {CX:CXT} {k:Nat} {f:Addr} {fd:FuncData} {ps:List Str} {sp sp':Sp} (F:FnOk P w K mg base CX k f fd ps sp)
  (h:∀ vs H Q E,sp' vs H Q E→sp vs H Q E):FnOk P w K mg base CX k f fd ps sp':=
 ⟨fun vs H Q E q=>F.len vs H Q E (h _ _ _ _ q),fun A outer s H args us vs Q E hr he hb hv hs=>F.run A outer s H args us vs Q E hr he hb hv (h _ _ _ _ hs)⟩
theorem Env0.make {P:Program} {w:World} {K:PySem.W.Frag} {mg:Str→Option Value} {base:Heap} {A:Around} {outer:List Env} {s:Shared} {H:Hp} (e:Env0 P w K mg base A outer s H) (C:Addr) (us:List Value) (kw:List (Str × Value)):
  Env0 P w K mg base (A.under (.builtin "type.__call__" ⟨.ref C::us,kw⟩)) outer s H:=⟨by first | exact e.frames | (simpa [Around.under,Code.envs,Code.isFrame,pushEnvs] using e.frames),e.mod,e.bs,e.bsz,e.funs,e.frf,e.hok,e.bare⟩
section
variable {X:Cx} {pins:List (Addr × Obj)} {σ:St} {H:Hp} {s s':Shared}
theorem Inv.env0 (I:Inv X pins σ H s):Env0 X.prog X.w X.K X.mg X.base X.A X.stack s H:=
 ⟨I.ok.frames,I.ok.mod,I.bs,Nat.le_trans I.ok.bsz I.sz,I.stack,I.stkFree,I.hok,I.bare⟩
theorem Inv.after {Q:VK} {u:Value} (I:Inv X pins σ H s) (h:CE X.stack X.prog X.w H s Q u s'):EP X pins σ Q u s':=by
 obtain ⟨v,H',os,bare,un,hok,r,q⟩:=h
 obtain ⟨hh,g,d,t,os'⟩:=s'
 obtain rfl:os'=s.os:=os
 exact ⟨v,H',I.call (h':=hh) (g':=g) (d':=d) (t':=t) (ch:=[]) un hok bare (fun b z=>absurd z (by simp)),r,q⟩
end
def tCall (sp:Sp) (dvs:List V) (E:XK) (t:TA):TE:=fun σ H Q=>t σ H fun vs H1=>sp (vs++dvs) H1 Q E
def tMake (C:Addr) (sp:Sp) (dvs:List V) (E:XK) (t:TA):TE:=fun σ H Q=>t σ H fun vs H1=>∀ x dx,H1 x=none→H1 dx=none→dx≠x→
 sp (.ref x::(vs++dvs)) (upd (upd H1 dx (.own x)) x (.ins C dx [])) (fun v H2=>v=.non∧Q (.ref x) H2) E
def Binds (K:PySem.W.Frag) (fd:FuncData) (ps:List Str) (ds:List Value):Prop:=
 ∀ (s:Shared) (us:List Value),K.In s.heap→(us++ds).length=ps.length→BindsTo s fd ⟨us,[]⟩ (ps.zip (us++ds))
theorem Binds.all {K:PySem.W.Frag} {fd:FuncData} {ps:List Str} (h:∀ us:List Value,us.length=ps.length→bindArgs fd ⟨us,[]⟩=pure (ps.zip us)):Binds K fd ps []:=fun s us _ hl=>by
 rw [List.append_nil] at hl ⊢
 exact .of_eq (h us hl)
def dY (CX:CXT) (X:Cx) (E:XK):Prop:=∀ (pins:List (Addr × Obj)) (σ:St) (H:Hp) (s:Shared) (e:Value) (s':Shared),Inv X pins σ H s→CX X.stack H s E e s'→X.xe e s'
section
variable {X:Cx} {CX:CXT} {k:Nat} {f C:Addr} {fd:FuncData} {ps:List Str} {sp:Sp} {dvs:List V} {ds:List Value} {E:XK} {x m:Str} {p pos apos:Pos} {e o:Expr} {es:List Expr} {ta:TE} {t:TA}
theorem qc {pins:List (Addr × Obj)} {σ:St} {H:Hp} {s:Shared} {Q:VK} {us:List Value} {vs:List V} (F:FnOk X.prog X.w X.K X.mg X.base CX k f fd ps sp) (hr:Room k X.A) (hb:Binds X.K fd ps ds) (hd:Vals dvs ds) (hx:dY CX X E)
  (I:Inv X pins σ H s) (r:Vals vs us) (h:sp (vs++dvs) H Q E):wpAny (model X.prog X.w) X.A (call (.ref f) us) (EP X pins σ Q) X.xe s:=by
 have r2:Vals (vs++dvs) (us++ds):=r.append hd
 have hl:(us++ds).length=ps.length:=by rw [← r2.length]; exact F.len _ _ _ _ h
 refine wpAny_call (codeAny_mono (F.run X.A X.stack s H ⟨us,[]⟩ (us++ds) (vs++dvs) Q E hr I.env0 (hb s us I.kIn hl) r2 h) fun r s' hq=>?_)
 cases r with
 | error e=>exact hx pins σ H s e s' I hq
 | ok fl=>
  cases fl with
  | ret u=>exact I.after hq
  | next=>exact False.elim hq
  | brk=>exact False.elim hq
  | cont=>exact False.elim hq
theorem rK (F:FnOk X.prog X.w X.K X.mg X.base CX k f fd ps sp) (hr:Room k X.A) (hg:Gl X x) (hm:X.mg x=some (.ref f)) (hk:PySem.W.keepIn X.K (.ref f)=true) (hb:Binds X.K fd ps ds) (hd:Vals dvs ds) (hx:dY CX X E)
  (ha:PA X (e::es) t) (hdb:(x==("__debug__":Str))=false:=by decide) (he:starEach (e::es) X.env=(false,eval e X.env)::starEach es X.env:=by rfl) (hpl:(backTo pos (starEach es X.env)).any (·.1)=false:=by rfl):
  PE X (.Call (.Name x p) (e::es) [] pos) (tCall sp dvs E t):=by
 intro pins s σ H Q I h
 refine wpAny_Call_Name_kw (i4 I hg hm ?_ hdb)
 refine PySem.W.callWith_K (h₀:=X.base) I.ok.mod.kin hk (thn (ha pos pins s σ H _ I h) fun us s1 ⟨vs,H1,I1,r,q⟩=>⟨I1.kIn,?_⟩) he hpl
 exact qc F hr hb hd hx I1 r q
structure Mk (K:PySem.W.Frag) (C f:Addr):Prop where
 makes:PySem.W.makesIn K C=true
 init:PySem.W.findIn K (.ref C) "__init__"=some (some (.ref f))
 fn:PySem.W.isFn K (.ref f)=true
 kp:PySem.W.keepIn K (.ref C)=true
theorem uw {pins:List (Addr × Obj)} {σ:St} {H:Hp} {s:Shared} {Q:VK} {us:List Value} {vs:List V} (M:Mk X.K C f) (F:FnOk X.prog X.w X.K X.mg X.base CX k f fd ps sp) (hr:Room (k+1) X.A) (hb:Binds X.K fd ps ds) (hd:Vals dvs ds)
  (hx:dY CX X E) (I:Inv X pins σ H s) (r:Vals vs us)
  (h:∀ x dx,H x=none→H dx=none→dx≠x→sp (.ref x::(vs++dvs)) (upd (upd H dx (.own x)) x (.ins C dx [])) (fun v H2=>v=.non∧Q (.ref x) H2) E):
  wpAny (model X.prog X.w) X.A (call (.ref C) us) (EP X pins σ Q) X.xe s:=by
 have hq:=h (s.heap.objs.size+1) s.heap.objs.size (I.hok.fresh (Nat.le_succ _)) (I.hok.fresh (Nat.le_refl _)) (Nat.ne_of_lt (Nat.lt_succ_self _))
 have I2:=Inv.made (C:=C) I
 have r2:Vals (V.ref (s.heap.objs.size+1)::(vs++dvs)) (Value.ref (s.heap.objs.size+1)::(us++ds)):=.cons rfl (r.append hd)
 have hl:(Value.ref (s.heap.objs.size+1)::us++ds).length=ps.length:=by
  have e:=r2.length
  rw [F.len _ _ _ _ hq] at e
  exact e.symm
 refine wpAny_call (uv (f:=f) I.kIn M.makes M.init (beq_iff_eq.mp M.fn) (codeAny_mono (F.run _ X.stack _ _ ⟨Value.ref (s.heap.objs.size+1)::us,[]⟩ (Value.ref (s.heap.objs.size+1)::(us++ds)) _ _ E (hr.make C us [])
  (I2.env0.make C us []) (hb _ (Value.ref (s.heap.objs.size+1)::us) I2.kIn hl) r2 hq) fun r s' hq'=>?_))
 cases r with
 | error e=>exact hx pins σ _ _ e s' I2 hq'
 | ok fl=>
  cases fl with
  | ret u=>
   obtain ⟨v,H',I3,rv,ev,q3⟩:=I2.after hq'
   subst ev
   exact ⟨rv,⟨V.ref (s.heap.objs.size+1),H',I3,rfl,q3⟩⟩
  | next=>exact False.elim hq'
  | brk=>exact False.elim hq'
  | cont=>exact False.elim hq'
theorem rL (M:Mk X.K C f) (F:FnOk X.prog X.w X.K X.mg X.base CX k f fd ps sp) (hr:Room (k+1) X.A) (hg:Gl X x) (hm:X.mg x=some (.ref C)) (hb:Binds X.K fd ps ds) (hd:Vals dvs ds) (hx:dY CX X E)
  (ha:PA X (e::es) t) (hdb:(x==("__debug__":Str))=false:=by decide) (he:starEach (e::es) X.env=(false,eval e X.env)::starEach es X.env:=by rfl) (hpl:(backTo pos (starEach es X.env)).any (·.1)=false:=by rfl):
  PE X (.Call (.Name x p) (e::es) [] pos) (tMake C sp dvs E t):=by
 intro pins s σ H Q I h
 refine wpAny_Call_Name_kw (i4 I hg hm ?_ hdb)
 refine PySem.W.callWith_K (h₀:=X.base) I.ok.mod.kin M.kp (thn (ha pos pins s σ H _ I h) fun us s1 ⟨vs,H1,I1,r,q⟩=>⟨I1.kIn,?_⟩) he hpl
 exact uw M F hr hb hd hx I1 r q
end
section
variable {X:Cx} {CX:CXT} {k:Nat} {f C:Addr} {fd:FuncData} {ps ks:List Str} {sp:Sp} {E:XK} {x m:Str} {p pos apos kpos:Pos} {e o:Expr} {es:List Expr} {kws:List Keyword} {te ta:TE} {t tk:TA} {nm:Option Str}
variable {g:List Value→List Value→List Value} {gV:List V→List V→List V}
end
structure aA (N P:List Str) (sc:Scope):Prop where
 kind:sc.kind=.function
 co:sc.isCoroutine=false
 gen:sc.isGenerator=false
 nd:N.Nodup
 pre:N.take P.length=P
 par:∀ x∈P,sc.names.lookup x=some .local∨sc.names.lookup x=some .cell
 nofree:∀ y∈sc.names,y.2≠.free
theorem oV {kindOf:Str→Option NameKind} {x:Str}:∀ {binds:List (Str × Value)} {m:Str→Option Value},(∀ v,(x,v)∉binds)→bindL kindOf binds m x=m x
 | [],_,_=>rfl
 | (n,v)::r,m,h=>by
  unfold bindL
  rw [oV fun w hw=>h w (List.mem_cons_of_mem _ hw)]
  split
  · have:x≠n:=by rintro rfl; exact h v List.mem_cons_self
    simp [this]
  · rfl
theorem oW {kindOf:Str→Option NameKind} {x:Str}:∀ {binds:List (Str × Value)} {m:Str→Option Value},(∀ v,(x,v)∉binds)→bindC kindOf binds m x=m x
 | [],_,_=>rfl
 | (n,v)::r,m,h=>by
  unfold bindC
  rw [oW fun w hw=>h w (List.mem_cons_of_mem _ hw)]
  split
  · rfl
  · have:x≠n:=by rintro rfl; exact h v List.mem_cons_self
    simp [this]
theorem oX {kindOf:Str→Option NameKind} {x:Str} {v:Value}:∀ {P:List Str} {vs:List Value} {i:Nat} {m:Str→Option Value},P.Nodup→P[i]? =some x→vs[i]? =some v→kindOf x=some .local→
  bindL kindOf (P.zip vs) m x=some v
 | [],_,_,_,_,h,_,_=>by simp at h
 | _::_,[],_,_,_,_,h,_=>by simp at h
 | p::P,w::vs,0,m,nd,h1,h2,hk=>by
  simp at h1 h2; subst h1; subst h2
  show bindL kindOf ((p,w)::P.zip vs) m p=_
  unfold bindL
  rw [oV fun v hv=>(List.nodup_cons.mp nd).1 (List.of_mem_zip hv).1,if_pos hk]
  simp
 | p::P,w::vs,i+1,m,nd,h1,h2,hk=>by
  show bindL kindOf ((p,w)::P.zip vs) m x=_
  unfold bindL
  exact oX (i:=i) (List.nodup_cons.mp nd).2 (by simpa using h1) (by simpa using h2) hk
theorem oY {kindOf:Str→Option NameKind} {x:Str} {v:Value}:∀ {P:List Str} {vs:List Value} {i:Nat} {m:Str→Option Value},P.Nodup→P[i]? =some x→vs[i]? =some v→kindOf x≠some .local→
  bindC kindOf (P.zip vs) m x=some v
 | [],_,_,_,_,h,_,_=>by simp at h
 | _::_,[],_,_,_,_,h,_=>by simp at h
 | p::P,w::vs,0,m,nd,h1,h2,hk=>by
  simp at h1 h2; subst h1; subst h2
  show bindC kindOf ((p,w)::P.zip vs) m p=_
  unfold bindC
  rw [oW fun v hv=>(List.nodup_cons.mp nd).1 (List.of_mem_zip hv).1,if_neg hk]
  simp
 | p::P,w::vs,i+1,m,nd,h1,h2,hk=>by
  show bindC kindOf ((p,w)::P.zip vs) m x=_
  unfold bindC
  exact oY (i:=i) (List.nodup_cons.mp nd).2 (by simpa using h1) (by simpa using h2) hk
def start (N:List Str) (vs:List V):St:=vs.map some++List.replicate (N.length - vs.length) none
def cxOf (CX:CXT) (P:Program) (w:World) (K:PySem.W.Frag) (mg:Str→Option Value) (base:Heap) (N:List Str) (qual:Str) (scope:Scope) (f:Addr) (cd:Value) (A:Around) (outer:List Env) (s:Shared) (H:Hp) (E:XK):Cx where
 prog:=P
 w:=w
 K:=K
 mg:=mg
 base:=base
 A:=A.deeper (envOfC qual scope s.heap.objs.size f cd)
 N:=N
 s₀:=s
 H₀:=H
 env:=envOfC qual scope s.heap.objs.size f cd
 outer:=outer
 stack:=envOfC qual scope s.heap.objs.size f cd::outer
 ex:=[]
 calm:=true
 fn:=fun _=>true
 pn:=[]
 xe:=fun e s'=>wpAny (model P w) (A.deeper (envOfC qual scope s.heap.objs.size f cd)) (leaving (envOfC qual scope s.heap.objs.size f cd) e) (fun _ s''=>CX outer H s E e s'') (fun e' s''=>CX outer H s E e' s'') s'
theorem j5 {sc:Scope} {n:Nat} {x:Str} (h:sc.names.lookup x=some .cell):∃ c,(cellsFrom n sc.names []).lookup x=some c:=by
 have q:=PySem.W.cellsFrom_some sc.names n [] (.inl h)
 exact Option.isSome_iff_exists.mp q
theorem tG {CX:CXT} {P:Program} {w:World} {K:PySem.W.Frag} {mg:Str→Option Value} {base:Heap} {N ps:List Str} {qual:Str} {scope:Scope} {f:Addr} {cd:Value} {A:Around} {outer:List Env} {s s1:Shared} {H:Hp} {E:XK} {us:List Value} {vs:List V}
  (S:aA N ps scope) (hd:A.handled=none) (e0:Env0 P w K mg base A outer s H) (hl:vs.length=ps.length) (r:Vals vs us)
  (x:InCallC s s.heap.objs.size (bindL (envOfC qual scope s.heap.objs.size f cd).kindOf (ps.zip us) fun _=>none) (cellsFrom (s.heap.objs.size+1) scope.names []) (bindC (envOfC qual scope s.heap.objs.size f cd).kindOf (ps.zip us) fun _=>none) s1):
  Inv (cxOf CX P w K mg base N qual scope f cd A outer s H E) [] (start N vs) H s1:=by
 have hpl:ps.length≤N.length:=by have:=congrArg List.length S.pre; rw [List.length_take] at this; omega
 obtain ⟨h1,tk,rfl,hk⟩:=x.done
 have noA:∀ b:Addr,b∉(cxOf CX P w K mg base N qual scope f cd A outer s H E).ex:=fun b z=>absurd (show b∈([]:List Addr) from z) (by simp)
 refine ⟨⟨e0.mod,S.kind,rfl,rfl,Nat.le_refl _,fun y z c h1 h2=>?_,fun y hy=>?_,fun y c _ h=>?_,fun _=>hd,Around.frames_deeper e0.frames,.inr ⟨rfl,rfl⟩,fun b z=>absurd z (noA b),e0.bs,e0.bsz,fun b _ _=>noA b,fun b z=>absurd z (noA b),e0.funs,e0.frf⟩,
  rfl,e0.bare,Un.kept hk,⟨_,x.toInCall.ns,fun i y v h1 h2 h3=>?_⟩,fun y c h=>⟨_,x.cell y c h⟩,e0.hok.fresh (Nat.le_refl _),fun y c h=>?_,fun p hp=>absurd (show p∈([]:List (Addr × Obj)) from hp) (by simp),e0.hok.kept hk,?_⟩
 · exact name_of_addr x.apart (PySem.mem_of_lookup h1) (PySem.mem_of_lookup h2)
 · have hy:scope.names.lookup y=some .cell∨scope.names.lookup y=some .free:=hy
   rcases hy with hy | hy
   · exact j5 hy
   · exact absurd rfl (S.nofree _ (PySem.mem_of_lookup hy))
 · exact Nat.le_of_lt (x.above y c (PySem.mem_of_lookup h))
 · have hi:i < vs.length:=by
    unfold start at h2
    by_cases hi:i < vs.length
    · exact hi
    · rw [List.getElem?_append_right (by simpa using hi)] at h2
      rw [List.getElem?_replicate] at h2
      split at h2 <;> cases h2
   have ha:vs[i]? =some v:=by
    unfold start at h2
    rw [List.getElem?_append_left (by simpa using hi),List.getElem?_map] at h2
    cases e:vs[i]? with
    | none=>rw [e] at h2; cases h2
    | some a=>rw [e] at h2; cases h2; rfl
   obtain ⟨u,hu,rv⟩:=r.get ha
   have hp:ps[i]? =some y:=by
    rw [← S.pre,List.getElem?_take_of_lt (by omega)]; exact h1
   have ndP:ps.Nodup:=by rw [← S.pre]; exact S.nd.sublist (List.take_sublist _ _)
   refine ⟨u,rv,?_⟩
   rcases S.par y (List.mem_of_getElem? hp) with k | k
   · exact .inl ⟨k,oX ndP hp hu k⟩
   · obtain ⟨c,e⟩:=j5 (n:=s.heap.objs.size+1) k
     refine .inr ⟨.inl k,c,e,?_⟩
     have q:=x.cell y c e
     rw [oY ndP hp hu (by show scope.names.lookup y≠_; rw [k]; decide)] at q
     exact q
 · exact e0.hok.fresh (Nat.le_of_lt (x.above y c (PySem.mem_of_lookup h)))
 · unfold start
   show _=N.length
   rw [List.length_append,List.length_map,List.length_replicate]
   omega
theorem uY {CX:CXT} {P:Program} {w:World} {K:PySem.W.Frag} {mg:Str→Option Value} {base:Heap} {k:Nat} {f:Addr} {name qual:Str} {params:Arguments} {body:List Stmt} {scope:Scope} {dV kV doc pm cdv ct oc:Value} {an od:Option Addr}
  {osl:Array (Option Value)} {N ps:List Str} {sp:Sp} (lk:K.lookup f=some ⟨oc,od,.func (PySem.W.fnOf name qual params body scope dV kV doc pm an cdv ct),osl⟩) (hcd:PySem.W.codeIn K cdv qual=true) (S:aA N ps scope)
  (len:∀ vs H Q E,sp vs H Q E→vs.length=ps.length)
  (hbody:∀ (A:Around) (outer:List Env) (s:Shared) (H:Hp) (vs:List V) (Q:VK) (E:XK),Room k (A.deeper (envOfC qual scope s.heap.objs.size f cdv))→sp vs H Q E→
   ∃ t,PSs (cxOf CX P w K mg base N qual scope f cdv A outer s H E) body t∧t { nx:=fun _ H'=>Q .non H',rt:=Q } (start N vs) H):
  FnOk P w K mg base CX (k+1) f (PySem.W.fnOf name qual params body scope dV kV doc pm an cdv ct) ps sp:=by
 refine ⟨len,fun A outer s H args us vs Q E hr e0 hb r hsp=>?_⟩
 have hl:=len _ _ _ _ hsp
 have KX:K.In s.heap:=e0.mod.kin.keeps fun b o e=>(e0.bs b o e).1
 have lim:s.heap.NoLimit:=e0.mod.nolimit.keeps fun b o e=>(e0.bs b o e).1
 have hkind:∀ y∈ps.zip us,scope.names.lookup y.1=some .local∨(scope.names.lookup y.1=some .cell∧((cellsFrom (s.heap.objs.size+1) scope.names []).lookup y.1).isSome=true):=fun ⟨n,v⟩ hy=>by
  rcases S.par n (List.of_mem_zip hy).1 with q | q
  · exact .inl q
  · exact .inr ⟨q,PySem.W.cellsFrom_some _ _ _ (.inl q)⟩
 refine codeAny_call_function hr.depth (KX _ _ lk) rfl S.co S.gen rfl (PySem.W.codeRec_of KX hcd) (hb _ _ _ _ ?_)
 refine wpAny_newFunctionEnv_cells S.kind hkind fun env he s1 x=>?_
 subst he
 refine ⟨lim.keeps x.toInCall.keep,codeAny_func ?_⟩
 obtain ⟨t,ht,hq⟩:=hbody A outer s H vs Q E (hr.deeper _) hsp
 have I:Inv (cxOf CX P w K mg base N qual scope f cdv A outer s H E) [] (start N vs) H s1:=tG S hr.hd e0 hl r x
 refine wpAny_mono (ht [] s1 (start N vs) H _ I hq) (fun fl s' hs=>?_) fun e s' hs=>hs
 have fin:∀ {σ':St} {H':Hp} {v:V} {u:Value},Inv (cxOf CX P w K mg base N qual scope f cdv A outer s H E) [] σ' H' s'→RelV v u→Q v H'→CE outer P w H s Q u s':=
  fun {σ' H' v u} J rv q=>⟨v,H',J.os,J.bare,J.base,J.hok,rv,q⟩
 cases fl with
 | ret u=>
  obtain ⟨v,σ',H',J,rv,q⟩:=hs
  exact fin J rv q
 | next=>
  obtain ⟨σ',H',J,q⟩:=hs
  exact fin (v:=V.non) (u:=Value.none) J rfl q
 | brk=>
  obtain ⟨_,_,_,q⟩:=hs
  exact False.elim q
 | cont=>
  obtain ⟨_,_,_,q⟩:=hs
  exact False.elim q
end L2
namespace L2
open PySem PySem.Spec PyProof.Rows
section
variable {X:Cx} {x:Str} {p pos:Pos} {e:Expr} {es:List Expr} {t:TA} {id T:String} {r:List V→Hp→VK→Prop}
def tCB (r:List V→Hp→VK→Prop) (t:TA):TE:=fun σ H Q=>t σ H fun vs H1=>r vs H1 Q
theorem aw (hc:CallR X (.builtin id) r) (hg:Gl X x) (hm:X.mg x=none) (hv:bootBuiltins x=some (.builtin id)) (ha:PA X (e::es) t) (hn:x≠"__name__":=by decide) (hdb:(x==("__debug__":Str))=false:=by decide)
  (he:starEach (e::es) X.env=(false,eval e X.env)::starEach es X.env:=by rfl) (hpl:(backTo pos (starEach es X.env)).any (·.1)=false:=by rfl):PE X (.Call (.Name x p) (e::es) [] pos) (tCB r t):=by
 intro pins s σ H Q I h
 refine wpAny_Call_Name_kw (iw I hg hm hv ?_ hn hdb)
 exact PyProof.Rows.callWith_builtin1 (thn (ha pos pins s σ H _ I h) fun us s1 ⟨vs,H1,I1,r1,q1⟩=>hc pins s1 σ H1 vs us Q I1 r1 q1) he hpl
theorem aX (hc:CallR X (.type T) r) (hg:Gl X x) (hm:X.mg x=none) (hv:bootBuiltins x=some (.type T)) (ha:PA X (e::es) t) (hn:x≠"__name__":=by decide) (hdb:(x==("__debug__":Str))=false:=by decide)
  (he:starEach (e::es) X.env=(false,eval e X.env)::starEach es X.env:=by rfl) (hpl:(backTo pos (starEach es X.env)).any (·.1)=false:=by rfl):PE X (.Call (.Name x p) (e::es) [] pos) (tCB r t):=by
 intro pins s σ H Q I h
 refine wpAny_Call_Name_kw (iw I hg hm hv ?_ hn hdb)
 exact PyProof.Rows.callWith_type1 (thn (ha pos pins s σ H _ I h) fun us s1 ⟨vs,H1,I1,r1,q1⟩=>hc pins s1 σ H1 vs us Q I1 r1 q1) he hpl
end
end L2
namespace HT
open PySem PyProof.Rows
section
open PySem.SeqAt
open PySem.AutoSeq1 (wpAny_loadPart')
open PySem.MeetsSeq PySem.MeetsSeq2 PySem.MeetsSeq3
end
section
variable {prog:Program} {w:World} {A:Around} {E:Value→Shared→Prop} {s:Shared}
def sIx (n d:Nat):Option Int→Nat
 | none=>d
 | some v=>if v < 0 then (v+(n:Int)).toNat else min v.toNat n
theorem sIx_none (n d:Nat):sIx n d none=d:=rfl
theorem sIx_nat (n d k:Nat):sIx n d (some (k:Int))=min k n:=by
 show (if (k:Int) < 0 then ((k:Int)+(n:Int)).toNat else min (k:Int).toNat n)=min k n
 rw [if_neg (by omega),Int.toNat_natCast]
end
end HT
namespace L2
open PySem PySem.Spec PyProof.Rows
abbrev TO:=St→Hp→(Option Int→Hp→Prop)→Prop
def PO (X:Cx) (e:Option Expr) (t:TO):Prop:=
 ∀ (pins:List (Addr × Obj)) (s:Shared) (σ:St) (H:Hp) (Q:Option Int→Hp→Prop),Inv X pins σ H s→t σ H Q→
  wpAny (model X.prog X.w) X.A (evalPart e X.env) (fun u s'=>∃ o H',Inv X pins σ H' s'∧IsPart u o∧Q o H') X.xe s
def cx:TO:=fun _ H Q=>Q none H
def tPart (t:TE):TO:=fun σ H Q=>t σ H fun x H1=>∃ i,x=.int i∧Q (some i) H1
theorem ss {ns:List Int}:∀ {us:List Value},Vals (ns.map V.int) us→IntsAre us ns:=by
 induction ns with
 | nil=>intro us r; rw [List.map_nil] at r; cases r; exact .nil
 | cons n ns ih=>
  intro us r
  rw [List.map_cons] at r
  cases r with
  | cons r1 r2=>
   obtain ⟨t,e⟩:=r1
   subst e
   exact .cons n t (ih r2)
section
variable {X:Cx} {e:Expr} {te:TE} {lo hi:Option Expr} {tl th:TO} {pos p2:Pos}
theorem dA:PO X none cx:=by
 intro pins s σ H Q I h
 rw [evalPart_none]
 exact wpAny_pure ⟨none,H,I,.none,h⟩
theorem dB (h:PE X e te):PO X (some e) (tPart te):=by
 intro pins s σ H Q I hw
 rw [evalPart_some]
 refine thn (h pins s σ H _ I hw) fun u s1 ⟨x,H1,I1,r1,q1⟩=>?_
 obtain ⟨i,rfl,q⟩:=q1
 obtain ⟨t,rfl⟩:=r1
 exact ⟨some i,H1,I1,.int i t,q⟩
def SlR (X:Cx) (r:V→Option Int→Option Int→Hp→VK→Prop):Prop:=
 ∀ (pins:List (Addr × Obj)) (s:Shared) (σ:St) (H:Hp) (x:V) (v vl vu:Value) (lo hi:Option Int) (sl:Addr) (Q:VK),Inv X pins σ H s→RelV x v→s.heap.IsSliceOf sl vl vu .none→IsPart vl lo→IsPart vu hi→r x lo hi H Q→
  ∃ T id,typeLookup (.type T) "__getitem__"=pure (some (.builtin id))∧s.TypeIs v T∧wpAny (model X.prog X.w) X.A (getItem v (.ref sl)) (EP X pins σ Q) X.xe s
def tSl (r:V→Option Int→Option Int→Hp→VK→Prop) (te:TE) (tl th:TO):TE:=fun σ H Q=>te σ H fun x H1=>tl σ H1 fun l H2=>th σ H2 fun u H3=>r x l u H3 Q
theorem cP {r:V→Option Int→Option Int→Hp→VK→Prop} (hr:SlR X r) (he:PE X e te) (hl:PO X lo tl) (hu:PO X hi th):PE X (.Subscript e (.Slice lo hi none p2) pos) (tSl r te tl th):=by
 intro pins s σ H Q I h
 refine Subscript_ (thn (he pins s σ H _ I h) fun v s1 ⟨x,H1,I1,r1,q1⟩=>?_)
 refine wpAny_Slice (thn (hl pins s1 σ H1 _ I1 q1) fun vl s2 ⟨l,H2,I2,pl,q2⟩=>thn (hu pins s2 σ H2 _ I2 q2) fun vu s3 ⟨u,H3,I3,pu,q3⟩=>?_)
 rw [evalPart_none]
 refine wpAny_pure ?_
 have I4:Inv X pins σ H3 { s3 with heap:=s3.heap.push { cls:=.type "slice",data:=.fields #[vl,vu,.none] } }:=I3.kept (t':=s3.toks) fun b ob q=>Heap.get?_push_of_some _ q
 obtain ⟨T,id,hT,ht,hg⟩:=hr pins { s3 with heap:=s3.heap.push { cls:=.type "slice",data:=.fields #[vl,vu,.none] } } σ H3 x v vl vu l u s3.heap.objs.size Q I4 r1 (Heap.IsSliceOf.new ..) pl pu q3
 show wpAny (model X.prog X.w) X.A (subscriptTail e (.Slice lo hi none p2) v (.ref s3.heap.objs.size)) (EP X pins σ Q) X.xe { s3 with heap:=s3.heap.push { cls:=.type "slice",data:=.fields #[vl,vu,.none] } }
 exact tail_any (ops:=[.ref s3.heap.objs.size,v]) ht hT hg (by with_unfolding_all rfl)
def cutV (xs:List V) (lo hi:Option Int):List V:=(xs.drop (HT.sIx xs.length 0 lo)).take (HT.sIx xs.length xs.length hi - HT.sIx xs.length 0 lo)
theorem rk (xs:List V) (lo hi:Option Int):(cutV xs lo hi).length≤xs.length:=by
 unfold cutV
 rw [List.length_take,List.length_drop]
 omega
end
end L2
namespace L2
open PySem PySem.Spec PyProof.Rows
def ixN (n:Nat) (i:Int):Option Nat:=if 0≤i then (if i < n then some i.toNat else none) else if -(n:Int)≤i then some (i+n).toNat else none
def atI {α:Type} (xs:List α) (i:Int):Option α:=(ixN xs.length i).bind fun j=>xs[j]?
theorem vo {n:Nat} {i:Int} {j:Nat} (h:ixN n i=some j):seqIndex? i n=some j∧j < n∧ -(n:Int)≤i∧i < n:=by
 unfold ixN at h
 by_cases h0:0≤i
 · rw [if_pos h0] at h
   by_cases h1:i < n
   · rw [if_pos h1] at h
     have e:i.toNat=j:=Option.some.inj h
     exact ⟨by rw [seqIndex_of h0 h1,e],by omega,by omega,h1⟩
   · rw [if_neg h1] at h; cases h
 · rw [if_neg h0] at h
   by_cases h1: -(n:Int)≤i
   · rw [if_pos h1] at h
     have e:(i+n).toNat=j:=Option.some.inj h
     exact ⟨by rw [seqIndex_neg (by omega) h1,e],by omega,h1,by omega⟩
   · rw [if_neg h1] at h; cases h
theorem oo {α:Type} {xs:List α} {i:Int} {v:α} (h:atI xs i=some v):∃ j,seqIndex? i xs.length=some j∧xs[j]? =some v∧j < xs.length∧ -(xs.length:Int)≤i∧i < xs.length:=by
 unfold atI at h
 cases e:ixN xs.length i with
 | none=>rw [e] at h; cases h
 | some j=>
  rw [e] at h
  obtain ⟨h1,h2,h3,h4⟩:=vo e
  exact ⟨j,h1,h,h2,h3,h4⟩
theorem aG {α:Type} {xs:List α} {j:Nat} {v:α} (h:xs[j]? =some v):atI xs (j:Int)=some v:=by
 have hj:j < xs.length:=(List.getElem?_eq_some_iff.mp h).1
 have e:ixN xs.length (j:Int)=some j:=by
  unfold ixN
  rw [if_pos (by omega),if_pos (by omega)]; simp
 unfold atI; rw [e]; exact h
def vp (b:Expr):Prop:=∀ o i,subscripted b false o i=operate [o,i] (getItem o i)
def IxR (X:Cx) (r:R2):Prop:=
 ∀ (value slice:Expr) (pins:List (Addr × Obj)) (s:Shared) (σ:St) (H:Hp) (x y:V) (v u:Value) (Q:VK),Inv X pins σ H s→RelV x v→RelV y u→r x y H Q→
  subscripted slice false v u=operate [v,u] (getItem v u)→wpAny (model X.prog X.w) X.A (subscriptTail value slice v u) (EP X pins σ Q) X.xe s
def MtR (X:Cx) (id:String) (r:V→List V→Hp→VK→Prop):Prop:=
 ∀ (pins:List (Addr × Obj)) (s:Shared) (σ:St) (H:Hp) (x:V) (xs:List V) (v:Value) (us:List Value) (Q:VK),Inv X pins σ H s→RelV x v→Vals xs us→r x xs H Q→
  wpAny (model X.prog X.w) X.A (call (.builtin id) (v::us)) (EP X pins σ Q) X.xe s
section
variable {X:Cx} {a b:Expr} {ta tb:TE} {pos:Pos}
theorem aH {r:R2} (hr:IxR X r) (ha:PE X a ta) (hb:PE X b tb) (hs:vp b):PE X (.Subscript a b pos) (tOp r ta tb):=by
 intro pins s σ H Q I h
 exact Subscript_ (binT ha hb I h fun v u s2 x y H2 I2 rx ry q=>hr a b pins s2 σ H2 x y v u Q I2 rx ry q (hs _ _))
def rIxL (K:PySem.W.Frag):R2:=fun x y H Q=>∃ p xs i v,x=.ref p∧y=.int i∧SqL K H p xs∧atI xs i=some v∧Q v H
def rIxT (K:PySem.W.Frag):R2:=fun x y H Q=>∃ p xs i v,x=.ref p∧y=.int i∧SqT K H p xs∧atI xs i=some v∧Q v H
def rIxS:R2:=fun x y H Q=>∃ z i c,x=.str z∧y=.int i∧z.length≤sizeLine∧atI z.cps.toList i=some c∧Q (.str ⟨#[c]⟩) H
theorem rM:IxR X (rIxL X.K):=by
 intro value slice pins s σ H x y v u Q I rx ry h hs
 obtain ⟨p,xs,i,z,rfl,rfl,hq,he,q⟩:=h
 cases rx
 obtain ⟨t,rfl⟩:=ry
 obtain ⟨its,r,pl,hz⟩:=I.list hq
 obtain ⟨j,h1,h2,h3,h4,h5⟩:=oo he
 obtain ⟨w,ew,rw'⟩:=r.get h2
 have hl:=r.length
 have hn:=kz
 have fin:EP X pins σ Q w s:=⟨z,H,I,rw',q⟩
 by_cases h0:0≤i
 · have hj:i.toNat=j:=by
    rw [seqIndex_of h0 h5] at h1
    exact Option.some.inj h1
   exact item_listR pl.isList h0 (by omega) (by rw [hj]; simpa using ew) fin hs
 · have hj:(i+(its.toArray.size:Int)).toNat=j:=by
    rw [seqIndex_neg (by omega) h4] at h1
    rw [List.size_toArray,← hl]
    exact Option.some.inj h1
   exact subscriptTail_builtinR (x:=w) pl.isList.typeIs slot_list_getitem.lookup
    (wpAny_getItem_list_neg (Q:=fun r s'=>r=w∧EP X pins σ Q r s') pl.isList (by omega) (by rw [List.size_toArray] <;> omega) (by omega) (by rw [hj]; simpa using ew) ⟨rfl,fin⟩) hs
theorem wn:IxR X (rIxT X.K):=by
 intro value slice pins s σ H x y v u Q I rx ry h hs
 obtain ⟨p,xs,i,z,rfl,rfl,hq,he,q⟩:=h
 cases rx
 obtain ⟨t,rfl⟩:=ry
 obtain ⟨its,r,pl,hz⟩:=I.tuple hq
 obtain ⟨j,h1,h2,h3,h4,h5⟩:=oo he
 obtain ⟨w,ew,rw'⟩:=r.get h2
 have hl:=r.length
 have hn:=kz
 have fin:EP X pins σ Q w s:=⟨z,H,I,rw',q⟩
 exact subscriptTail_builtinR (x:=w) pl.typeIs slot_tuple_getitem.lookup
  (getItem_tuple (j:=j) (Q:=fun r s'=>r=w∧EP X pins σ Q r s') pl (by omega) (by omega) (by rw [List.size_toArray,← hl]; exact h1) (by simpa using ew) ⟨rfl,fin⟩) hs
theorem wo:IxR X rIxS:=by
 intro value slice pins s σ H x y v u Q I rx ry h hs
 obtain ⟨z,i,c,rfl,rfl,hz,he,q⟩:=h
 obtain ⟨t,rfl⟩:=rx
 obtain ⟨t',rfl⟩:=ry
 obtain ⟨j,h1,h2,h3,h4,h5⟩:=oo he
 have hl:z.cps.toList.length=z.length:=by simp [Str.length]
 rw [hl] at h1 h4 h5
 have hn:=kz
 exact tail_any (typeIs_str s z t) slot_str_getitem.lookup (getItem_str (c:=c) (by
  have e1:decide (i < -(2^63:Int))=false:=decide_eq_false (by omega)
  have e2:decide (i ≥ 2^63)=false:=decide_eq_false (by omega)
  rw [e1,e2,Bool.or_false]) (by rw [h1]; simpa using h2) ⟨.str ⟨#[c]⟩,H,I.tok _,⟨_,rfl⟩,q⟩) hs
theorem Inv.lst {pins:List (Addr × Obj)} {σ:St} {H:Hp} {s:Shared} {p:Addr} {xs:List V} (I:Inv X pins σ H s) (h:H p=some (.lst xs)):
  ∃ (its:List Value) (n:Nat),Vals xs its∧s.heap.get? p=some { cls:=.type "list",data:=.seq its.toArray n }∧xs.length≤sizeLine:=by
 obtain ⟨z,its,n,r,e⟩:=I.hok p _ h
 exact ⟨its,n,r,e,z⟩
theorem qd (lo hi:Option Int) (n:Nat):(sliceBounds lo hi none n).1=((HT.sIx n 0 lo:Nat):Int)∧(sliceBounds lo hi none n).2.1=((HT.sIx n n hi:Nat):Int)∧(sliceBounds lo hi none n).2.2=1:=by
 refine ⟨?_,?_,rfl⟩
 · cases lo with
   | none=>simp [sliceBounds,HT.sIx]
   | some i=>
    simp only [sliceBounds,HT.sIx,Option.getD_none,show (1:Int) > 0 by decide,if_true]
    by_cases h:i < 0
    · simp only [h,if_true] <;> omega
    · simp only [h,if_false] <;> omega
 · cases hi with
   | none=>simp [sliceBounds,HT.sIx]
   | some i=>
    simp only [sliceBounds,HT.sIx,Option.getD_none,show (1:Int) > 0 by decide,if_true]
    by_cases h:i < 0
    · simp only [h,if_true] <;> omega
    · simp only [h,if_false] <;> omega
theorem pB (its:List Value) (lo hi:Option Int):slicePick its.toArray lo hi none=((its.drop (HT.sIx its.length 0 lo)).take (HT.sIx its.length its.length hi - HT.sIx its.length 0 lo)).toArray:=by
 obtain ⟨h1,h2,h3⟩:=qd lo hi its.toArray.size
 unfold slicePick
 rw [h1,h2,h3]
 simp only [sliceRange_one,pick_run,List.size_toArray] <;> rfl
def rSlL (K:PySem.W.Frag):V→Option Int→Option Int→Hp→VK→Prop:=fun x lo hi H Q=>∃ a xs,x=.ref a∧SqL K H a xs∧∀ p,H p=none→Q (.ref p) (upd H p (.lst (cutV xs lo hi)))
theorem vq:SlR X (rSlL X.K):=by
 intro pins s σ H x v vl vu lo hi sl Q I rx hs pl pu h
 obtain ⟨a,xs,rfl,hx,q⟩:=h
 cases rx
 obtain ⟨its,r,ht,hz⟩:=I.list hx
 have hlen:=r.length
 refine ⟨"list",_,slot_list_getitem.lookup,ht.isList.typeIs,?_⟩
 refine wpAny_getItem_list_slice ht.isList hs pl pu .none (by simp) ?_ (by rw [List.size_toArray] <;> omega)
 rw [pB,← hlen]
 refine ⟨.ref s.heap.objs.size,_,I.laid (t':=s.toks) (o:=.lst (cutV xs lo hi)) (fun b ob q=>Heap.get?_push_of_some _ q) (Nat.le_refl _) ?_,rfl,q _ (I.hok.fresh (Nat.le_refl _))⟩
 exact ⟨Nat.le_trans (rk xs lo hi) hz,_,0,(r.drop (HT.sIx xs.length 0 lo)).take (HT.sIx xs.length xs.length hi - HT.sIx xs.length 0 lo),Heap.get?_push_size _ rfl⟩
def flatV:V→Bool
 | .non=>true
 | .bl _=>true
 | .int _=>true
 | .str _=>true
 | _=>false
def eqV:V→V→Bool
 | .non,.non=>true
 | .bl a,.bl b=>a==b
 | .bl a,.int b=>(if a then 1 else 0)==b
 | .int a,.bl b=>a==(if b then 1 else 0)
 | .int a,.int b=>a==b
 | .str a,.str b=>a==b
 | _,_=>false
theorem wp {A:Around} {s:Shared} {y x:V} {u v:Value} (ry:RelV y u) (rx:RelV x v) (fy:flatV y=true) (fx:flatV x=true):SeqAt.EqAt A s u v (eqV y x):=by
 cases y with
 | non=>
  cases ry
  cases x with
  | non=>cases rx; exact SeqAt.EqAt.same _
  | bl b=>cases rx; exact SeqAt.EqAt.none_bool b
  | int b=>obtain ⟨t,rfl⟩:=rx; exact SeqAt.EqAt.none_int b t
  | str b=>obtain ⟨t,rfl⟩:=rx; exact SeqAt.EqAt.none_str b t
  | _=>exact absurd (show false=true from fx) Bool.false_ne_true
 | bl a=>
  cases ry
  cases x with
  | non=>cases rx; exact SeqAt.EqAt.bool_none a
  | bl b=>cases rx; exact SeqAt.EqAt.bool_bool a b
  | int b=>obtain ⟨t,rfl⟩:=rx; exact SeqAt.EqAt.bool_int a b t
  | str b=>obtain ⟨t,rfl⟩:=rx; exact SeqAt.EqAt.bool_str a b t
  | _=>exact absurd (show false=true from fx) Bool.false_ne_true
 | int a=>
  obtain ⟨t',rfl⟩:=ry
  cases x with
  | non=>cases rx; exact SeqAt.EqAt.int_none a t'
  | bl b=>cases rx; exact SeqAt.EqAt.int_bool a t' b
  | int b=>obtain ⟨t,rfl⟩:=rx; exact SeqAt.EqAt.int_int a t' b t
  | str b=>obtain ⟨t,rfl⟩:=rx; exact SeqAt.EqAt.int_str a t' b t
  | _=>exact absurd (show false=true from fx) Bool.false_ne_true
 | str a=>
  obtain ⟨t',rfl⟩:=ry
  cases x with
  | non=>cases rx; exact SeqAt.EqAt.str_none a t'
  | bl b=>cases rx; exact SeqAt.EqAt.str_bool a t' b
  | int b=>obtain ⟨t,rfl⟩:=rx; exact SeqAt.EqAt.str_int a t' b t
  | str b=>obtain ⟨t,rfl⟩:=rx; exact SeqAt.EqAt.str_str a t' b t
  | _=>exact absurd (show false=true from fx) Bool.false_ne_true
 | _=>exact absurd (show false=true from fy) Bool.false_ne_true
def eqU (x:V) (u:Value):Bool:=match u with
 | .none=>eqV .non x
 | .bool b=>eqV (.bl b) x
 | .int i _=>eqV (.int i) x
 | .str z _=>eqV (.str z) x
 | _=>false
theorem tH {x y:V} {u:Value} (r:RelV y u) (f:flatV y=true):eqU x u=eqV y x:=by
 cases y with
 | non=>cases r; rfl
 | bl b=>cases r; rfl
 | int i=>obtain ⟨t,rfl⟩:=r; rfl
 | str z=>obtain ⟨t,rfl⟩:=r; rfl
 | _=>exact absurd (show false=true from f) Bool.false_ne_true
theorem jV {x:V}:∀ {xs:List V} {us:List Value},Vals xs us→xs.all flatV=true→us.any (eqU x)=xs.any fun y=>eqV y x
 | _,_,.nil,_=>rfl
 | y::xs,u::us,.cons r t,f=>by
  rw [List.all_cons,Bool.and_eq_true] at f
  rw [List.any_cons,List.any_cons,tH r f.1,jV t f.2]
theorem i9 {A:Around} {s:Shared} {x:V} {v:Value} (rx:RelV x v) (fx:flatV x=true):∀ {xs:List V} {us:List Value},Vals xs us→xs.all flatV=true→∀ u∈us,SeqAt.EqAt A s u v (eqU x u)
 | _,_,.nil,_=>fun u hu=>by cases hu
 | y::xs,u::us,.cons r t,f=>fun u' hu=>by
  rw [List.all_cons,Bool.and_eq_true] at f
  rcases List.mem_cons.mp hu with rfl | hu
  · rw [tH r f.1]; exact wp r rx f.1 fx
  · exact i9 rx fx t f.2 u' hu
def inV (x:V) (xs:List V):Bool:=xs.any fun y=>eqV y x
def rIn (K:PySem.W.Frag) (neg:Bool):R2:=fun x y H Q=>∃ p xs,y=.ref p∧(SqL K H p xs∨SqT K H p xs)∧flatV x=true∧xs.all flatV=true∧Q (.bl (if neg then !inV x xs else inV x xs)) H
theorem oZ:OpR X (compareOp .In) (rIn X.K false):=by
 intro pins s σ H x y v u Q I rx ry h
 obtain ⟨p,xs,rfl,hq,fx,fs,q⟩:=h
 cases ry
 rcases hq with hq | hq
 · obtain ⟨its,r,pl,hz⟩:=I.list hq
   refine SeqAt.in_listAt (eqU x) pl.isList (fun w hw=>i9 rx fx r fs w (by simpa using hw)) ⟨.bl _,H,I,rfl,?_⟩
   rw [show its.toArray.any (eqU x)=its.any (eqU x) by simp,jV r fs]
   exact q
 · obtain ⟨its,r,pl,hz⟩:=I.tuple hq
   refine SeqAt.in_tupleAt (eqU x) pl (fun w hw=>i9 rx fx r fs w (by simpa using hw)) ⟨.bl _,H,I,rfl,?_⟩
   rw [show its.toArray.any (eqU x)=its.any (eqU x) by simp,jV r fs]
   exact q
theorem qe:OpR X (compareOp .NotIn) (rIn X.K true):=by
 intro pins s σ H x y v u Q I rx ry h
 obtain ⟨p,xs,rfl,hq,fx,fs,q⟩:=h
 cases ry
 rcases hq with hq | hq
 · obtain ⟨its,r,pl,hz⟩:=I.list hq
   refine SeqAt.notIn_listAt (eqU x) pl.isList (fun w hw=>i9 rx fx r fs w (by simpa using hw)) ⟨.bl _,H,I,rfl,?_⟩
   rw [show its.toArray.any (eqU x)=its.any (eqU x) by simp,jV r fs]
   exact q
 · obtain ⟨its,r,pl,hz⟩:=I.tuple hq
   refine SeqAt.notIn_tupleAt (eqU x) pl (fun w hw=>i9 rx fx r fs w (by simpa using hw)) ⟨.bl _,H,I,rfl,?_⟩
   rw [show its.toArray.any (eqU x)=its.any (eqU x) by simp,jV r fs]
   exact q
theorem dZ:CallR X (.builtin "len") (fun xs H Q=>∃ p ys,xs=[.ref p]∧(SqL X.K H p ys∨SqT X.K H p ys)∧Q (.int ys.length) H):=by
 intro pins s σ H xs us Q I r h
 obtain ⟨p,ys,rfl,hq,q⟩:=h
 obtain ⟨u,rfl,rx⟩:=fz r
 cases rx
 have hn:=kz
 rcases hq with hq | hq
 · obtain ⟨its,r',pl,hz⟩:=I.list hq
   have hlen:=r'.length
   exact Calls.call_len_list pl.isList (by simp only [List.size_toArray] <;> omega) ⟨.int ys.length,H,I.tok _,⟨s.toks+1,by rw [List.size_toArray,hlen]⟩,q⟩
 · obtain ⟨its,r',pl,hz⟩:=I.tuple hq
   have hlen:=r'.length
   exact len_tuple pl (by simp only [List.size_toArray] <;> omega) ⟨.int ys.length,H,I.tok _,⟨s.toks+1,by rw [List.size_toArray,hlen]⟩,q⟩
theorem qf:CallR X (.builtin "len") (fun xs H Q=>∃ z,xs=[.str z]∧z.length≤sizeLine∧Q (.int z.length) H):=by
 intro pins s σ H xs us Q I r h
 obtain ⟨z,rfl,hz,q⟩:=h
 obtain ⟨u,rfl,t,rfl⟩:=fz r
 have hn:=kz
 exact len_str (by omega) ⟨.int z.length,H,I.tok _,⟨_,rfl⟩,q⟩
theorem qh:CallR X (.type "list") (fun xs H Q=>∃ p ys,xs=[.ref p]∧(SqL X.K H p ys∨SqT X.K H p ys)∧∀ l,H l=none→Q (.ref l) (upd H l (.lst ys))):=by
 intro pins s σ H xs us Q I r h
 obtain ⟨p,ys,rfl,hq,q⟩:=h
 obtain ⟨u,rfl,rx⟩:=fz r
 cases rx
 have fin:∀ (its:List Value),Vals ys its→ys.length≤sizeLine→∀ (h':Heap) (c':Nat),(∀ b o',s.heap.get? b=some o'→h'.get? b=some o')→
   h'.get? s.heap.objs.size=some { cls:=.type "list",dict:=none,data:=.seq its.toArray c',slots:=#[] }→EP X pins σ Q (.ref s.heap.objs.size) { s with heap:=h' }:=fun its r' hz h' c' kp e=>
  ⟨.ref s.heap.objs.size,_,I.laid (t':=s.toks) kp (Nat.le_refl _) (show ObjOk X.prog X.w _ h' _ (.lst ys) from ⟨hz,its,c',r',e⟩),rfl,q _ (I.hok.fresh (Nat.le_refl _))⟩
 rcases hq with hq | hq
 · obtain ⟨its,r',pl,hz⟩:=I.list hq
   have hlen:=r'.length
   obtain ⟨o,ho,hc,n,hd⟩:=pl.isList
   exact call_list_seq p (.inl rfl) ho hc hd (fun h' c' kp e=>fin its r' hz h' c' kp e) (by simp only [List.size_toArray] <;> omega)
 · obtain ⟨its,r',pl,hz⟩:=I.tuple hq
   have hlen:=r'.length
   obtain ⟨o,ho,hc,n,hd⟩:=pl
   exact call_list_seq p (.inr rfl) ho hc hd (fun h' c' kp e=>fin its r' hz h' c' kp e) (by simp only [List.size_toArray] <;> omega)
theorem pC:CallR X (.type "tuple") (fun xs H Q=>∃ p ys,xs=[.ref p]∧((SqL X.K H p ys∧∀ l,H l=none→Q (.ref l) (upd H l (.tup ys)))∨(SqT X.K H p ys∧Q (.ref p) H))):=by
 intro pins s σ H xs us Q I r h
 obtain ⟨p,ys,rfl,h⟩:=h
 obtain ⟨u,rfl,rx⟩:=fz r
 cases rx
 rcases h with ⟨hq,q⟩ | ⟨hq,q⟩
 · obtain ⟨its,r',pl,hz⟩:=I.list hq
   have hlen:=r'.length
   refine call_tuple_list pl.isList (fun h' kp=>?_) (by simp only [List.size_toArray] <;> omega)
   have I1:Inv X pins σ H { s with heap:=h' }:=I.kept (t':=s.toks) kp
   have I2:Inv X pins σ (upd H h'.objs.size (.tup ys)) { s with heap:=h'.push { cls:=.type "tuple",data:=.seq its.toArray } }:=
    I1.laid (t':=s.toks) (fun b o e=>Heap.get?_push_of_some _ e) (Nat.le_refl _) (show ObjOk X.prog X.w _ _ _ (.tup ys) from ⟨hz,its,r',IsTup.new _ _⟩)
   exact ⟨.ref h'.objs.size,_,I2,rfl,q _ (I1.hok.fresh (Nat.le_refl _))⟩
 · obtain ⟨its,r',pl,hz⟩:=I.tuple hq
   exact call_tuple_same pl ⟨.ref p,H,I,rfl,q⟩
def tyV (K:PySem.W.Frag) (T:String) (x:V) (H:Hp):Prop:=match x with
 | .str _=>T="str"
 | .int _=>T="int"
 | .ref p=>(T="list"∧∃ xs,SqL K H p xs)∨(T="tuple"∧∃ o,K.lookup p=some o∧o.cls=.type "tuple"∧o.dict=none)∨
   (T="dict"∧((∃ kvs,H p=some (.dK kvs))∨∃ kvs,H p=some (.dT kvs)))∨(T="set"∧∃ S n,H p=some (.set S n))
 | _=>False
theorem wq {pins:List (Addr × Obj)} {σ:St} {H:Hp} {s:Shared} {T:String} {x:V} {v:Value} (I:Inv X pins σ H s) (r:RelV x v) (ty:tyV X.K T x H):
  s.TypeIs v T∧∀ a,v=.ref a→∃ ob,s.heap.get? a=some ob∧ob.dict=none:=by
 cases x with
 | str z=>
  obtain ⟨t,rfl⟩:=r
  cases (show T="str" from ty)
  exact ⟨typeIs_str s z t,fun _ e=>nomatch e⟩
 | int i=>
  obtain ⟨t,rfl⟩:=r
  cases (show T="int" from ty)
  exact ⟨typeIs_int s i t,fun _ e=>nomatch e⟩
 | ref p=>
  cases r
  rcases ty with ⟨rfl,xs,hq⟩ | ⟨rfl,o,hk,hc,hd⟩ | ⟨rfl,hk⟩ | ⟨rfl,S,n,hk⟩
  · obtain ⟨its,_,pl,_⟩:=I.list hq
    refine ⟨pl.isList.typeIs,fun a e=>?_⟩
    cases e
    obtain ⟨o,n,e,c,hd,_⟩:=pl
    exact ⟨o,e,hd⟩
  · refine ⟨⟨o,I.kIn p o hk,hc⟩,fun a e=>?_⟩
    cases e
    exact ⟨o,I.kIn _ o hk,hd⟩
  · have z:∃ o,s.heap.get? p=some o∧o.ExactDict:=by
     rcases hk with ⟨kvs,hk⟩ | ⟨kvs,hk⟩
     · obtain ⟨_,_,_,_,o,_,_,e,ex,_⟩:=I.hok p _ hk
       exact ⟨o,e,ex⟩
     · obtain ⟨_,_,_,_,o,_,_,e,ex,_⟩:=I.hok p _ hk
       exact ⟨o,e,ex⟩
    obtain ⟨o,e,ex⟩:=z
    refine ⟨⟨o,e,ex.1⟩,fun a e2=>?_⟩
    cases e2
    exact ⟨o,e,ex.2.1⟩
  · obtain ⟨o,_,_,_,e,ex,_⟩:=I.hok p _ hk
    refine ⟨⟨o,e,ex.1⟩,fun a e2=>?_⟩
    cases e2
    exact ⟨o,e,ex.2.1⟩
 | _=>exact False.elim ty
def xq (K:PySem.W.Frag) (T:String) (r:V→List V→Hp→VK→Prop) (to:TE):TE:=fun σ H Q=>to σ H fun x H1=>tyV K T x H1∧r x [] H1 Q
def tBM (K:PySem.W.Frag) (T:String) (r:V→List V→Hp→VK→Prop) (to:TE) (t:TA):TE:=fun σ H Q=>to σ H fun x H1=>tyV K T x H1∧t σ H1 fun xs H2=>r x xs H2 Q
variable {o e:Expr} {es:List Expr} {to:TE} {t:TA} {name:Str} {apos cpos:Pos} {T id:String} {r:V→List V→Hp→VK→Prop}
theorem cR (pa:PlainAttrs T) (slot:Slot T name id) (hty:typeOf (.builtin id)=pure (.type "method_descriptor")) (hm:MtR X id r) (ho:PE X o to) (ha:PA X (e::es) t)
  (hbase:attributeBase o name X.env (eval o X.env)=eval o X.env:=by rfl)
  (hfew:((backTo cpos (starEach (e::es) X.env)).all (fun x=>!x.1)&&(backToKw cpos (keywordEach [] X.env)).all (fun x=>x.1.isSome)
   &&decide ((e::es).length+([]:List Keyword).length+(if ([]:List Keyword).isEmpty then 0 else 1) < 30))=true:=by rfl)
  (hline:(apos.endLine==cpos.line)=true:=by rfl) (hs:starEach (e::es) X.env=(false,eval e X.env)::starEach es X.env:=by rfl) (hplain:(backTo cpos (starEach es X.env)).any (·.1)=false:=by rfl):
  PE X (.Call (.Attribute o name apos) (e::es) [] cpos) (tBM X.K T r to t):=by
 intro pins s σ H Q I h
 refine wpAny_Call_method_late hbase hfew hline rfl (thn (ho pins s σ H _ I h) fun v s1 ⟨x,H1,I1,r1,ty,q1⟩=>?_)
 obtain ⟨h1,h2⟩:=wq I1 r1 ty
 refine ⟨T,id,pa,slot,hty,h1,h2,?_⟩
 have hA:=ha cpos pins s1 σ H1 _ I1 q1
 rw [hs] at hA ⊢
 refine Calls.callWith_builtin (by show (false||(backTo cpos (starEach es X.env)).any (·.1))=false; rw [hplain] <;> rfl) (Calls.evalArgs_plain ?_)
 exact thn hA fun us s2 ⟨vs,H2,I2,r2,q2⟩=>hm pins s2 σ H2 x vs v us Q I2 r1 r2 q2
end
end L2
namespace L2
open PySem PySem.Spec PyProof.Rows
def MtM (X:Cx) (id:String) (r:V→List V→Hp→VK→Prop):Prop:=
 ∀ (pins:List (Addr × Obj)) (s:Shared) (σ:St) (H:Hp) (x:V) (xs:List V) (v:Value) (us:List Value) (Q:VK),Inv X pins σ H s→RelV x v→Vals xs us→r x xs H Q→
  wpAny (model X.prog X.w) X.A (call (.builtin id) (v::us)) (EP X pins σ Q) X.xe s
theorem Vals.one:∀ {x:V} {us:List Value},Vals [x] us→∃ u,us=[u]∧RelV x u
 | _,_,.cons r .nil=>⟨_,rfl,r⟩
theorem Vals.rep {xs:List V} {us:List Value} (h:Vals xs us):∀ k:Nat,Vals (List.replicate k xs).flatten (List.replicate k us).flatten
 | 0=>.nil
 | k+1=>by
  rw [List.replicate_succ,List.replicate_succ,List.flatten_cons,List.flatten_cons]
  exact Vals.append h (Vals.rep h k)
theorem o0 (its:List Value):∀ (k:Nat) (acc:List Value),
  List.foldl (fun x1 x2=>x1++x2) acc.toArray (List.replicate k its.toArray)=(acc++(List.replicate k its).flatten).toArray
 | 0,acc=>by simp
 | k+1,acc=>by
  have e:acc.toArray++its.toArray=(acc++its).toArray:=by simp
  have e2:(acc++its)++(List.replicate k its).flatten=acc++(List.replicate (k+1) its).flatten:=by
   rw [List.replicate_succ,List.flatten_cons,List.append_assoc]
  rw [← e2,← o0 its k (acc++its),← e,List.replicate_succ,List.foldl_cons]
section
variable {X:Cx} {pins:List (Addr × Obj)} {σ:St} {H:Hp} {s:Shared} {l b:Addr} {xs ys zs:List V}
theorem Inv.lset {its its':List Value} {n:Nat} {f:Array Value→Array Value} {t':Nat} (I:Inv X pins σ H s) (hH:H l=some (.lst xs))
  (e:s.heap.get? l=some { cls:=.type "list",data:=.seq its.toArray n }) (hf:f its.toArray=its'.toArray) (hv:Vals ys its') (hz:ys.length≤sizeLine):
  Inv X pins σ (upd H l (.lst ys)) { s with heap:=s.heap.update l (Obj.mapSeq f),toks:=t' }:=by
 have q:=PySem.IsL.update e f
 rw [hf] at q
 refine I.write (x:=l) (e:=l) (by rw [hH]; exact trivial) (.inl rfl) (fun b' u hb hu=>(Heap.get?_update_other s.heap (Obj.mapSeq f) (Ne.symm hb)).trans hu) ⟨_,q⟩ ?_
 exact ⟨hz,its',_,hv,q⟩
theorem Inv.lnew {its:List Value} {t':Nat} (I:Inv X pins σ H s) (hv:Vals ys its) (hz:ys.length≤sizeLine):
  Inv X pins σ (upd H s.heap.objs.size (.lst ys)) { s with heap:=s.heap.push { cls:=.type "list",data:=.seq its.toArray },toks:=t' }:=
 I.laid (fun _ _ q=>Heap.get?_push_of_some _ q) (Nat.le_refl _) ⟨hz,its,0,hv,Heap.get?_push_size _ rfl⟩
theorem Inv.fresh (I:Inv X pins σ H s):H s.heap.objs.size=none:=I.hok.fresh (Nat.le_refl _)
theorem Inv.lstM (I:Inv X pins σ H s) (hH:H l=some (.lst xs)):xs.length≤sizeLine∧∃ (its:List Value) (n:Nat),Vals xs its∧xs.length=its.length∧s.heap.get? l=some { cls:=.type "list",data:=.seq its.toArray n }:=by
 obtain ⟨z,its,n,r,e⟩:=I.hok l _ hH
 exact ⟨z,its,n,r,r.length,e⟩
theorem qi {n:Nat} (h:n≤sizeLine):Builtin.List.listTooLong n=false:=by
 unfold Builtin.List.listTooLong
 exact decide_eq_false (by omega)
end
section
variable {X:Cx}
def vt:V→List V→Hp→VK→Prop:=fun x vs H Q=>∃ l xs y,x=.ref l∧vs=[y]∧H l=some (.lst xs)∧xs.length < sizeLine∧Q .non (upd H l (.lst (xs++[y])))
theorem o6:MtM X "list.append" vt:=by
 intro pins s σ H x vs v us Q I rx rv h
 obtain ⟨l,xs,y,rfl,rfl,hH,hz,q⟩:=h
 cases rx
 obtain ⟨u,rfl,ru⟩:=rv.one
 obtain ⟨z,its,n,r,hl,e⟩:=I.lstM hH
 refine call_meets F.slot_list_append ⟨_,e,rfl⟩ F.entry_list_append (F.args_list_append_2 _ _) (PySem.list_append l its.toArray n u (by rw [List.size_toArray]; omega)) ⟨e,?_⟩
 refine ⟨.non,_,I.lset (its':=its++[u]) hH e (by simp) (r.append (.cons ru .nil)) ?_,rfl,q⟩
 rw [List.length_append,List.length_singleton]
 omega
def vv:V→List V→Hp→VK→Prop:=fun x vs H Q=>∃ l b xs zs,x=.ref l∧vs=[.ref b]∧H l=some (.lst xs)∧H b=some (.lst zs)∧xs.length+zs.length≤sizeLine∧Q .non (upd H l (.lst (xs++zs)))
theorem tI:MtM X "list.extend" vv:=by
 intro pins s σ H x vs v us Q I rx rv h
 obtain ⟨l,b,xs,zs,rfl,rfl,hH,hB,hz,q⟩:=h
 cases rx
 obtain ⟨u,rfl,ru⟩:=rv.one
 cases ru
 obtain ⟨z,its,n,r,hl,e⟩:=I.lstM hH
 obtain ⟨z2,its2,n2,r2,hl2,e2⟩:=I.lstM hB
 have hsz:its.toArray.size+its2.toArray.size≤sizeLine:=by rw [List.size_toArray,List.size_toArray]; omega
 have hlong:¬ (!its.toArray.isEmpty&&Builtin.List.listTooLong (its.toArray.size+its2.toArray.size))=true:=by
  rw [qi hsz,Bool.and_false]
  exact Bool.false_ne_true
 refine call_meets F.slot_list_extend ⟨_,e,rfl⟩ F.entry_list_extend (F.args_list_extend_2 _ _)
  (AutoSeq1.list_extend_list_list_0 l its.toArray n b its2.toArray n2 hlong (by rw [List.size_toArray]; omega) (by omega)) ⟨e,e2,?_⟩
 refine ⟨.non,_,I.lset (its':=its++its2) hH e (by simp) (r.append r2) ?_,rfl,q⟩
 rw [List.length_append]
 omega
def rCat:R2:=fun x y H Q=>∃ l b xs zs,x=.ref l∧y=.ref b∧H l=some (.lst xs)∧H b=some (.lst zs)∧xs.length+zs.length≤sizeLine∧∀ p,H p=none→Q (.ref p) (upd H p (.lst (xs++zs)))
theorem wr:OpR X (binaryOp .Add) rCat:=by
 intro pins s σ H x y v u Q I rx ry h
 obtain ⟨l,b,xs,zs,rfl,rfl,hH,hB,hz,q⟩:=h
 cases rx
 cases ry
 obtain ⟨z,its,n,r,hl,e⟩:=I.lstM hH
 obtain ⟨z2,its2,n2,r2,hl2,e2⟩:=I.lstM hB
 refine PySem.P.add_list e e2 ?_ (by rw [List.size_toArray,List.size_toArray]; omega)
 have ea:its.toArray++its2.toArray=(its++its2).toArray:=by simp
 rw [ea]
 exact ⟨.ref _,_,I.lnew (t':=s.toks) (r.append r2) (by rw [List.length_append]; omega),rfl,q _ I.fresh⟩
def rRep:R2:=fun x y H Q=>∃ l k xs,x=.ref l∧y=.int k∧H l=some (.lst xs)∧ -(2^63)≤k∧k < 2^63∧xs.length*k.toNat≤sizeLine∧
 ∀ p,H p=none→Q (.ref p) (upd H p (.lst (List.replicate k.toNat xs).flatten))
theorem vw {α:Type} (xs:List α) (k:Nat):(List.replicate k xs).flatten.length=k*xs.length:=by
 induction k with
 | zero=>simp
 | succ k ih=>rw [List.replicate_succ,List.flatten_cons,List.length_append,ih,Nat.succ_mul,Nat.add_comm]
theorem wt:OpR X (binaryOp .Mult) rRep:=by
 intro pins s σ H x y v u Q I rx ry h
 obtain ⟨l,k,xs,rfl,rfl,hH,h1,h2,hz,q⟩:=h
 cases rx
 obtain ⟨t,rfl⟩:=ry
 obtain ⟨z,its,n,r,hl,e⟩:=I.lstM hH
 have hlen:its.toArray.size*k.toNat≤sizeLine:=by rw [List.size_toArray,← hl]; exact hz
 have hcap:¬ its.toArray.size*k.toNat > (2^63 - 1) / 8:=by
  have:(sizeLine:Nat)≤(2^63 - 1) / 8:=by decide
  omega
 have hfit:¬ (!Builtin.List.listFitsIndex k)=true:=by
  rw [fitsIndex_both h1 h2]
  exact Bool.false_ne_true
 have hlong:¬ Builtin.List.listTooLong (its.toArray.size*k.toNat)=true:=by
  rw [qi hlen]
  exact Bool.false_ne_true
 have hnew:List.foldl (fun x1 x2=>x1++x2) #[] (List.replicate (if its.toArray.isEmpty=true then 0 else k.toNat) its.toArray)=(List.replicate k.toNat its).flatten.toArray:=by
  have f0:∀ m:Nat,List.foldl (fun x1 x2=>x1++x2) #[] (List.replicate m its.toArray)=(List.replicate m its).flatten.toArray:=fun m=>by
   have:=o0 its m []
   rw [List.nil_append] at this
   exact this
  rw [f0]
  cases its with
  | nil=>simp
  | cons a r'=>rw [if_neg (by simp)]
 refine wpAny_binaryOp_repeat_ref (T:="list") (U:="int") (by decide) ⟨_,e,rfl⟩ (fun s'=>typeIs_int s' k t) noFill_list_mul F.fills_int_mul F.slot_int_rmul repeat_list F.slot_int_index.lookup
  (call_meets F.slot_int_rmul (typeIs_int s k t) F.entry_int_rmul (F.args_int_rmul_2 _ _) (int___rmul___int_list k t l its.toArray n)
   ⟨e,rfl,⟨_,e,rfl⟩,call_meets F.slot_list_mul ⟨_,e,rfl⟩ F.entry_list_mul (F.args_list_mul_2 _ _) (AutoListH.list___mul___list_int_3 l its.toArray n k t hfit hcap hlong) ⟨e,?_⟩⟩)
 rw [hnew]
 exact ⟨.ref _,_,I.lnew (t':=s.toks) (r.rep k.toNat) (by rw [vw,Nat.mul_comm]; exact hz),rfl,q _ I.fresh⟩
end
end L2
namespace Att
open PySem PySem.W PySem.Calls PyProof.Rows
theorem ints_of_wellAll {P:Params} {h:Heap}:∀ (ns:List Int) (vs:List Value),WellAll P h vs (ns.map WData.int)→IntsAre vs ns:=by
 intro ns
 induction ns with
 | nil=>
  intro vs w
  rw [List.map_nil] at w
  cases w
  exact .nil
 | cons n ns ih=>
  intro vs w
  rw [List.map_cons] at w
  cases w with
  | cons a b=>
   cases a
   exact .cons _ _ (ih _ b)
theorem script_of {l:OpenLaw} {n:Nat} (hn:l.most=some n) {P:Params} {h:Heap} {args:List WData} {vals:List Value}
  (hpre:l.row.toRowW.claim.pre args=true) (hwl:WellAll P h vals args):
  ∃ a vs ns,vals=[Value.ref a]∧args=[WData.list (ns.map WData.int)]∧h.get? a=some { cls:=.type "list",data:=.seq vs.toArray }∧IntsAre vs ns∧ns.length≤n:=by
 have hsh:WShape.hasAll [] args [.list .int]=true:=(pre_splitW hpre).1
 have hc:l.pre.holds [] { args:=args }=true:=(pre_splitW hpre).2
 obtain ⟨d,r,rfl,h1,h2⟩:=hasAllW_cons hsh
 obtain rfl:=hasAllW_nil h2
 obtain ⟨xs,rfl,h3⟩:=hasW_list h1
 obtain ⟨ns,rfl⟩:=items_int h3
 have hlen:ns.length≤n:=by
  unfold OpenLaw.pre at hc
  have h4:(WTm.not (.lt (.lit (.int (n:Int))) (.len (.arg 0)))).holds [] { args:=[.list (ns.map .int)] }=true:=by
   have h4:=(holds_andW hc).1
   rw [hn] at h4
   exact h4
  have h5:=condW_of h4 (w_not (w_lt w_lit (w_len_list (w_arg rfl))))
  rw [List.length_map] at h5
  refine Nat.le_of_not_lt fun q=>?_
  have q':(n:Int) < ((ns.length:Nat):Int):=by omega
  first
   | (rw [decide_eq_true q'] at h5; exact absurd h5 (by decide))
   | (simp at h5; omega)
 cases hwl with
 | cons w1 w2=>
  cases w2
  cases w1 with
  | list ho hall=>exact ⟨_,_,ns,rfl,rfl,ho,ints_of_wellAll ns _ hall,hlen⟩
theorem post_true (l:OpenLaw) (args:List WData):l.row.toRowW.claim.post args (.bool true) args=true:=
 postW_of (r:=l.row.toRowW) (X:=(true==true))
  (show WShape.has [] (.bool true) .bool=true by first | rfl | decide | simp [WShape.has,WShape.arms,WShape.armsAll])
  (show (WTm.eq .res (.lit (.bool true))).value [] { args:=args,res:=some (.bool true),after:=args }=some (.bool (true==true)) from w_eq_bool (w_res rfl) w_lit) rfl
theorem attach_call {l:OpenLaw} {n:Nat} {q:Program} {loose:List Str} {XP:(Str→Option Value)→Heap→Prop} {YP:World→Heap→Prop} {d:DefRec}
  (hn:l.most=some n) (hdf:d.params.defaults=[])
  (call:∀ (w:World) (s₀ s₁:Shared) (mg mb:Str→Option Value) (fa:Addr) (o:Obj) (pm cd doc:Value) (a:Addr) (vs:List Value) (ns:List Int),
   Ground q loose [] XP w s₀ mg mb s₁.heap→YP w s₁.heap→
   s₁.heap.get? fa=some o→o.data=.func (docDef d.name d.params d.body d.scope pm cd doc)→s₁.heap.CodeRec cd d.name→mg d.name=some (.ref fa)→
   s₁.heap.get? a=some { cls:=.type "list",data:=.seq vs.toArray }→IntsAre vs ns→ns.length≤n→s₁.gens=#[]→
   codeAny (model l.prog w) callerA (.call (.ref fa) ⟨[.ref a],[]⟩) (fun r s'=>r=.ok (.ret (.bool true))∧OldK s₁.heap s'.heap∧s'.os=s₁.os∧AllBare s'.gens) s₁):
  WalkO q loose XP YP l.row.toRowW d [] (fun f vs=>PySem.call f vs):=by
 intro w s₀ s₁ mg mb G Y fa o pm cd doc dV kV ho hd hcd hD hmg hg args vals as hpre hlay hrd hwl hlo
 obtain rfl:dV=.none:=Dflts.none hD hdf
 obtain rfl:kV=.none:=Dflts.noKw hD
 obtain ⟨a,vs,ns,rfl,rfl,hobj,hints,hlen⟩:=script_of hn hpre hwl
 refine enter_call (codeAny_mono (call w s₀ s₁ mg mb fa o pm cd doc a vs ns G Y ho (fd_plain hd) hcd hmg hobj hints hlen hg) fun r s' hq=>?_)
 obtain ⟨rfl,h2,h3,h4⟩:=hq
 exact ⟨.inl ⟨.bool true,.bool true,[],rfl,fun _=>rfl,.bool true,post_true l _,fun _=>⟨List.Pairwise.nil,fun _ hm=>(nomatch hm)⟩⟩,h2,h3,h4⟩
section
variable {prog:Program} {w:World} {A:Around} {E:Value→Shared→Prop} {s:Shared} {K:Frag}
end
end Att
namespace L2
open PySem PySem.Spec PyProof.Rows
theorem o7:∀ {vs:List Value} {ns:List Int},IntsAre vs ns→Vals (ns.map V.int) vs
 | _,_,.nil=>.nil
 | _,_,.cons n t h=>.cons ⟨t,rfl⟩ (o7 h)
def Only (H:Hp):Prop:=∀ b,H b=none∨∃ o xs,H b=some (.frz o (.lst xs))
theorem ux {P:Program} {w:World} {K:PySem.W.Frag} {mg mb:Str→Option Value} {CX:CXT} {k:Nat} {fa a:Addr} {fd:FuncData} {x:Str} {sp:Sp} {s₁:Shared} {vs:List Value} {ns:List Int}
  (KX:K.In s₁.heap) (hns:s₁.heap.Ns mainGlobals mg) (hb:s₁.heap.Ns builtinsNs mb) (hbb:∀ x:Str,x≠"__name__"→mb x=bootBuiltins x) (hlim:s₁.heap.NoLimit) (hg:s₁.gens=#[])
  (ha:s₁.heap.get? a=some { cls:=.type "list",data:=.seq vs.toArray }) (hi:IntsAre vs ns) (hl:ns.length≤sizeLine) (hr:Room k callerA)
  (F:∀ base:Heap,K.In base→base.Ns mainGlobals mg→FnOk P w K mg base CX k fa fd [x] sp) (hbind:∀ (s:Shared) (u:Value),BindsTo s fd ⟨[u],[]⟩ [(x,u)])
  (hsp:∀ H:Hp,Only H→SqL K H a (ns.map V.int)→sp [.ref a] H (fun v _=>v=.bl true) fun _ _ _=>False)
  (hCX:∀ H e s',CX [] H s₁ (fun _ _ _=>False) e s'→False):
  codeAny (model P w) callerA (.call (.ref fa) ⟨[.ref a],[]⟩) (fun r s'=>r=.ok (.ret (.bool true))∧OldK s₁.heap s'.heap∧s'.os=s₁.os∧AllBare s'.gens) s₁:=by
 have rv:=o7 hi
 have lenV:=hi.length
 have core:∀ H:Hp,Only H→SqL K H a (ns.map V.int)→HOk P w H s₁.heap→(∀ b,H b≠none→b=a)→(H a≠none→K.lookup a=none)→
   codeAny (model P w) callerA (.call (.ref fa) ⟨[.ref a],[]⟩) (fun r s'=>r=.ok (.ret (.bool true))∧OldK s₁.heap s'.heap∧s'.os=s₁.os∧AllBare s'.gens) s₁:=by
  intro H hO hS hok hA hK
  have base_of:∀ {b:Addr} {o:Obj},s₁.heap.get? b=some o→H b=none→(hidT s₁.heap H).get? b=some o:=fun e n=>um e n
  have noA:∀ {b:Addr} {o:Obj} {es:Array DictEntry} {ep:Nat},s₁.heap.get? b=some o→o.data=.dict es ep→H b=none:=fun {b o es ep} e d=>by
   cases q:H b with
   | none=>rfl
   | some u=>
    have e':b=a:=hA b (by rw [q]; simp)
    subst e'
    rw [ha] at e; cases e
    have d':Data.seq vs.toArray _=Data.dict es ep:=d
    cases d'
  have nsK:∀ {b:Addr} {m:Str→Option Value},s₁.heap.Ns b m→(hidT s₁.heap H).Ns b m:=fun {b m} ⟨o,es,ep,e,d,r⟩=>⟨o,es,ep,base_of e (noA e d),d,r⟩
  have hKb:K.In (hidT s₁.heap H):=fun b o e=>base_of (KX b o e) (by
   cases q:H b with
   | none=>rfl
   | some u=>
    have e':b=a:=hA b (by rw [q]; simp)
    subst e'
    rw [hK (by rw [q]; simp)] at e; cases e)
  have hM:Mod K mg (hidT s₁.heap H):=⟨hKb,nsK hns,⟨mb,nsK hb,hbb⟩,let ⟨mc,h1,h2⟩:=hlim; ⟨mc,nsK h1,h2⟩⟩
  have e0:Env0 P w K mg (hidT s₁.heap H) callerA [] s₁ H:=⟨rfl,hM,fun b o e=>vi e,Nat.le_of_eq (sW _ _),trivial,fun b hb=>absurd (show b∈([]:List Addr) from hb) (by simp),hok,.of_eq hg⟩
  refine codeAny_mono ((F _ hKb (nsK hns)).run callerA [] s₁ H ⟨[.ref a],[]⟩ [.ref a] [.ref a] _ _ hr e0 (hbind s₁ (.ref a)) (.cons rfl .nil) (hsp H hO hS)) fun r s' h=>?_
  cases r with
  | error e=>exact (hCX H e s' h).elim
  | ok fl=>
   cases fl with
   | next=>exact False.elim h
   | brk=>exact False.elim h
   | cont=>exact False.elim h
   | ret u=>
    obtain ⟨v,H',os,bare,un,hok',r',q⟩:=h
    have q':v=.bl true:=q
    subst q'
    obtain rfl:u=Value.bool true:=r'
    refine ⟨rfl,OldK.of_keep fun b o e=>?_,os,bare⟩
    cases q:H b with
    | none=>exact un.keep b o e q (by intro z; exact absurd (show b∈([]:List Addr) from z) (by simp)) (by simp)
    | some u=>
     rcases hO b with z | ⟨ob,xs,z⟩
     · rw [q] at z; cases z
     · have z2:=un.frzs b ob _ z
       obtain ⟨e1,_⟩:=hok b _ z
       obtain ⟨e2,_⟩:=hok' b _ z2
       rw [e] at e1; cases e1
       exact e2
 cases hk:K.lookup a with
 | some o=>
  have e:=KX a o hk
  rw [ha] at e
  cases e
  refine core (fun _=>none) (fun _=>.inl rfl) (.inr ⟨_,vs.toArray,_,hk,rfl,rfl,rfl,by rw [List.size_toArray,lenV]; exact hl,by simpa using rv⟩) (fun b u z=>by have z':(none:Option HO)=some u:=z; cases z') (fun b z=>absurd rfl z) fun z=>absurd rfl z
 | none=>
  refine core (fun b=>if b=a then some (.frz { cls:=.type "list",data:=.seq vs.toArray } (.lst (ns.map V.int))) else none) (fun b=>?_) (.inl (.inr ⟨{ cls:=.type "list",data:=.seq vs.toArray },if_pos rfl⟩)) (fun b u z=>?_) (fun b z=>?_) fun _=>hk
  · by_cases hb:b=a
    · exact .inr ⟨_,_,if_pos hb⟩
    · exact .inl (if_neg hb)
  · by_cases hb:b=a
    · have z':=(if_pos hb).symm.trans z
      cases z'
      subst hb
      exact ⟨ha,by rw [List.length_map]; exact hl,vs,_,rv,ha⟩
    · have z':=(if_neg hb).symm.trans z
      cases z'
  · by_cases hb:b=a
    · exact hb
    · exact absurd (if_neg hb) z
end L2
namespace L2
open PySem PySem.Spec PyProof.Rows
theorem vx {l:PySem.W.OpenLaw} {n k:Nat} {q:Program} {loose:List Str} {XP:(Str→Option Value)→Heap→Prop} {YP:World→Heap→Prop} {d:DefRec} {K:Params→PySem.W.Frag} {CX:World→CXT} {sp:World→Sp} {x:Str}
  (hn:l.most=some n) (hn2:n≤sizeLine) (hdf:d.params.defaults=[]) (hr:Room k callerA)
  (hY:∀ (w:World) (h:Heap),YP w h→(K w.params).In h)
  (F:∀ (w:World) (mg:Str→Option Value) (fa:Addr) (h:Heap),(K w.params).In h→h.Ns mainGlobals mg→mg d.name=some (.ref fa)→
   ∃ fd:FuncData,(∀ (s:Shared) (u:Value),BindsTo s fd ⟨[u],[]⟩ [(x,u)])∧
    ∀ base:Heap,(K w.params).In base→base.Ns mainGlobals mg→FnOk l.prog w (K w.params) mg base (CX w) k fa fd [x] (sp w))
  (hsp:∀ (w:World) (H:Hp) (a:Addr) (ns:List Int),ns.length≤n→Only H→SqL (K w.params) H a (ns.map V.int)→sp w [.ref a] H (fun v _=>v=.bl true) fun _ _ _=>False)
  (hCX:∀ (w:World) (H:Hp) (s:Shared) (e:Value) (s':Shared),CX w [] H s (fun _ _ _=>False) e s'→False):
  PySem.W.WalkO q loose XP YP l.row.toRowW d [] (fun f vs=>PySem.call f vs):=by
 refine Att.attach_call hn hdf fun w s₀ s₁ mg mb fa o pm cd doc a vs ns G Y ho hd hcd hmg hobj hints hlen hg=>?_
 have KX:=hY w _ Y
 obtain ⟨fd,hb,hF⟩:=F w mg fa _ KX G.T.g hmg
 exact ux KX G.T.g G.T.b G.T.builtins G.T.nolimit hg hobj hints (Nat.le_trans hlen hn2) hr hF hb (fun H hO hS=>hsp w H a ns hlen hO hS) fun H e s'=>hCX w H s₁ e s'
end L2
namespace L2
open PySem PySem.Spec PyProof.Rows
def bh (s:Stmt):Arguments:=match s with
 | .FunctionDef _ a _ _ _ _ _ _ _ _=>a
 | _=>{ posonlyargs:=[],args:=[],vararg:=none,kwonlyargs:=[],kw_defaults:=[],kwarg:=none,defaults:=[] }
def aV (s:Stmt):List Stmt:=match s with
 | .FunctionDef _ _ b _ _ _ _ _ _ _=>b
 | _=>[]
def ao (s:Stmt):Scope:=match s with
 | .FunctionDef _ _ _ _ _ _ sc _ _ _=>sc
 | _=>{ kind:=.function,names:=[],isGenerator:=false,isCoroutine:=false }
abbrev CX0:CXT:=fun _ _ _ _ _ _=>False
abbrev E0:XK:=fun _ _ _=>False
theorem su {X:Cx}:dY CX0 X E0:=fun _ _ _ _ _ _ _ h=>h.elim
structure Fun (K:PySem.W.Frag) (x qual:Str) (st:Stmt) (f:Addr) (fd:FuncData):Prop where
 ex:∃ (oc:Value) (od:Option Addr) (kV doc pm:Value) (an:Option Addr) (cdv ct:Value) (osl:Array (Option Value)),
  fd=PySem.W.fnOf x qual (bh st) (aV st) (ao st) .none kV doc pm an cdv ct∧K.lookup f=some ⟨oc,od,.func fd,osl⟩∧PySem.W.codeIn K cdv qual=true
 kp:PySem.W.keepIn K (.ref f)=true
section
variable {P:Program} {w:World} {K:PySem.W.Frag} {mg:Str→Option Value} {base:Heap}
theorem Fun.ok {x qual:Str} {st:Stmt} {f:Addr} {fd:FuncData} {N ps:List Str} {k:Nat} {sp:Sp} (F:Fun K x qual st f fd) (S:aA N ps (ao st)) (len:∀ vs H Q E,sp vs H Q E→vs.length=ps.length)
  (hbody:∀ (cdv:Value) (A:Around) (outer:List Env) (s:Shared) (H:Hp) (vs:List V) (Q:VK) (E:XK),Room k (A.deeper (envOfC qual (ao st) s.heap.objs.size f cdv))→sp vs H Q E→
   ∃ t,PSs (cxOf CX0 P w K mg base N qual (ao st) f cdv A outer s H E).nox (aV st) t∧t { nx:=fun _ H'=>Q .non H',rt:=Q } (start N vs) H):FnOk P w K mg base CX0 (k+1) f fd ps sp:=by
 obtain ⟨oc,od,kV,doc,pm,an,cdv,ct,osl,rfl,lk,hcd⟩:=F.ex
 refine uY lk hcd S len fun A outer s H vs Q E hr hsp=>?_
 obtain ⟨t,h,q⟩:=hbody cdv A outer s H vs Q E hr hsp
 exact ⟨t,h.nox,q⟩
theorem Fun.binds {x qual:Str} {st:Stmt} {f:Addr} {fd:FuncData} {ps:List Str} (F:Fun K x qual st f fd)
  (h:∀ (kV doc pm:Value) (an:Option Addr) (cdv ct:Value) (us:List Value),us.length=ps.length→bindArgs (PySem.W.fnOf x qual (bh st) (aV st) (ao st) .none kV doc pm an cdv ct) ⟨us,[]⟩=pure (ps.zip us)):Binds K fd ps []:=by
 obtain ⟨oc,od,kV,doc,pm,an,cdv,ct,osl,rfl,lk,hcd⟩:=F.ex
 exact .all (h kV doc pm an cdv ct)
theorem aD {x qual:Str} {st:Stmt} {f:Addr} {oc:Value} {od an:Option Addr} {osl:Array (Option Value)} {kV doc pm cdv ct:Value} (l:K.lookup f=some ⟨oc,od,.func (PySem.W.fnOf x qual (bh st) (aV st) (ao st) .none kV doc pm an cdv ct),osl⟩)
  (c:PySem.W.codeIn K cdv qual=true) (k:PySem.W.keepIn K (.ref f)=true):Fun K x qual st f (PySem.W.fnOf x qual (bh st) (aV st) (ao st) .none kV doc pm an cdv ct):=⟨⟨oc,od,kV,doc,pm,an,cdv,ct,osl,rfl,l,c⟩,k⟩
end
theorem aS {n:Nat} (h:n≤1000):n < sizeLine:=Nat.lt_of_le_of_lt h (by decide)
section
variable {X:Cx}
theorem pv (i:Nat) {x:Str} {pos:Pos} (hN:X.N[i]? =some x:=by rfl) (hv:Vis X.env.scope x:=by first | exact Or.inl rfl | exact Or.inr (Or.inl rfl) | exact Or.inr (Or.inr rfl)) (hd:(x==("__debug__":Str))=false:=by decide)
  (hcd:(x==("__classdict__":Str))=false:=by decide):PE X (.Name x pos) (tVar i):=we hN hv hd hcd
end
theorem iteF {A B:Prop} (h:B):if false=true then A else B:=by
 rw [if_neg Bool.false_ne_true]
 exact h
theorem iteT {A B:Prop} (h:A):if true=true then A else B:=by
 rw [if_pos rfl]
 exact h
def Same (H H':Hp):Prop:=∀ b o,H b=some o→H' b=some o
theorem Same.refl (H:Hp):Same H H:=fun _ _ h=>h
theorem Same.trans {H H1 H2:Hp} (a:Same H H1) (b:Same H1 H2):Same H H2:=fun c o h=>b c o (a c o h)
theorem Same.free {H H':Hp} (e:Same H H') {l:Addr} (h:H' l=Option.none):H l=Option.none:=by
 cases q:H l with
 | none=>rfl
 | some o=>
  rw [e l o q] at h
  cases h
theorem Same.seq {K:PySem.W.Frag} {H H':Hp} {a:Addr} {xs:List V} (e:Same H H') (h:SqL K H a xs):SqL K H' a xs:=by
 rcases h with (h | ⟨o,h⟩) | h
 · exact .inl (.inl (e _ _ h))
 · exact .inl (.inr ⟨o,e _ _ h⟩)
 · exact .inr h
end L2
namespace L2
open PySem PySem.Spec PyProof.Rows
section
variable {κ:Type} [DecidableEq κ]
def valV (kvs:List (κ × V)) (k:κ):Option V:=(kvs.find? fun kv=>decide (kv.1=k)).map (·.2)
def putK (kvs:List (κ × V)) (k:κ) (v:V):List (κ × V):=
 if (kvs.any fun kv=>decide (kv.1=k))=true then kvs.map (fun kv=>if kv.1=k then (kv.1,v) else kv) else kvs++[(k,v)]
theorem qj {p:κ × V} {r:List (κ × V)} {k:κ} (e:p.1=k):valV (p::r) k=some p.2:=by simp [valV,List.find?_cons,e]
theorem qk {p:κ × V} {r:List (κ × V)} {k:κ} (e:¬ p.1=k):valV (p::r) k=valV r k:=by simp [valV,List.find?_cons,e]
theorem RelO.isSome_eq {o:Option V} {u:Option Value} (r:RelO o u):o.isSome=u.isSome:=by
 cases o with
 | none=>cases u with
  | none=>rfl
  | some _=>exact (show False from r).elim
 | some _=>cases u with
  | none=>exact (show False from r).elim
  | some _=>rfl
theorem KV.val {kvs:List (κ × V)} {vs:List (κ × Value)} (r:KV kvs vs) (k:κ):RelO (valV kvs k) (valueAt vs k):=by
 unfold KV at r
 induction r with
 | nil=>exact True.intro
 | @cons p q ps qs h t ih=>
  obtain ⟨h1,h2⟩:=h
  by_cases e:p.1=k
  · have e':q.1=k:=h1.symm.trans e
    have b:valueAt (q::qs) k=some q.2:=by simp [valueAt,List.find?_cons,e']
    rw [qj e,b]; exact h2
  · have e':¬ q.1=k:=fun z=>e (h1.trans z)
    have b:valueAt (q::qs) k=valueAt qs k:=by simp [valueAt,List.find?_cons,e']
    rw [qk e,b]; exact ih
theorem KV.length {kvs:List (κ × V)} {vs:List (κ × Value)} (r:KV kvs vs):kvs.length=vs.length:=Paired.length r
end
theorem sv {P:Program} {w:World} {k:Key} {u:Value} (r:RelV (kV k) u):(dz P w).is k u=true:=by
 cases k with
 | inl i=>obtain ⟨t,e⟩:=(show ∃ t,u=Value.int i t from r); subst e; exact ri P w i t
 | inr x=>obtain ⟨t,e⟩:=(show ∃ t,u=Value.str x t from r); subst e; exact rj P w x t
theorem o8 {P:Program} {w:World}:∀ {ks:List Key} {us:List Value},Vals (ks.map kV) us→ItemsAre (dz P w) ks us
 | [],_,r=>by rw [List.map_nil] at r; cases r; exact .nil
 | k::ks,_,r=>by
  rw [List.map_cons] at r
  cases r with
  | cons h t=>exact .cons (sv h) (o8 t)
abbrev KT (H:Hp):List (List Key × V)→List (List Key × Addr × Value)→Prop:=Paired fun p q=>p.1=q.1∧H q.2.1=some (.tup (p.1.map kV))∧RelV p.2 q.2.2
theorem KT.val {H:Hp} {kvs:List (List Key × V)} {xs:List (List Key × Addr × Value)} (r:KT H kvs xs) (k:List Key):RelO (valV kvs k) ((atKey xs k).map (·.2)):=by
 induction r with
 | nil=>exact True.intro
 | @cons p q ps qs h t ih=>
  obtain ⟨h1,_,h2⟩:=h
  by_cases e:p.1=k
  · have e':q.1=k:=h1.symm.trans e
    have b:atKey (q::qs) k=some q.2:=by simp [atKey,List.find?_cons,e']
    rw [qj e,b]; exact h2
  · have e':¬ q.1=k:=fun z=>e (h1.trans z)
    have b:atKey (q::qs) k=atKey qs k:=by simp [atKey,List.find?_cons,e']
    rw [qk e,b]; exact ih
section
variable {P:Program} {w:World} {H:Hp} {h:Heap} {a:Addr}
theorem uZ {u:HO} (ok:HOk P w H h) (e:Rd H a u):ObjOk P w H h a u:=e.ok ok
theorem p6 {kvs:List (Key × V)} (ok:HOk P w H h) (e:Rd H a (.dK kvs)):kvs.length≤sizeLine∧(a==sysModules)=false∧∃ vs,KV kvs vs∧h.DictOf (dz P w) a vs:=
 show ObjOk P w H h a (.dK kvs) from uZ ok e
theorem ql {ks:List Key} (ok:HOk P w H h) (e:H a=some (.tup (ks.map kV))):(tupleKind (dz P w)).is h ks a:=by
 obtain ⟨_,its,r,o,h1,h2,n,h3⟩:=(show ObjOk P w H h a (.tup (ks.map kV)) from ok a _ e)
 exact ⟨o,its.toArray,n,h1,h2,h3,by simpa using o8 r⟩
theorem sx {kvs:List (List Key × V)} (ok:HOk P w H h) (e:Rd H a (.dT kvs)):kvs.length≤sizeLine∧(a==sysModules)=false∧
  ∃ xs,KT H kvs xs∧h.DictOfH (tupleKind (dz P w)) a xs:=by
 obtain ⟨z,y,xs,r,o,es,ep,h1,h2,h3,h4,h5⟩:=(show ObjOk P w H h a (.dT kvs) from uZ ok e)
 refine ⟨z,y,xs,r,o,es,ep,h1,h2,h3,h4,fun x hx=>?_,h5⟩
 have all:∀ {l:List (List Key × V)} {m:List (List Key × Addr × Value)},KT H l m→∀ x∈m,(tupleKind (dz P w)).is h x.1 x.2.1:=by
  intro l m q
  induction q with
  | nil=>intro x hx; exact nomatch hx
  | @cons p q ps qs hq t ih=>
   intro x hx
   rcases List.mem_cons.mp hx with e | hx
   · subst e
     exact ql ok (by rw [← hq.1]; exact hq.2.1)
   · exact ih x hx
 exact all r x hx
end
def DGet (H:Hp) (a:Addr) (y:V) (r:Option V):Prop:=
 (∃ kvs k,Rd H a (.dK kvs)∧y=kV k∧r=valV kvs k)∨∃ kvs k b,Rd H a (.dT kvs)∧y=.ref b∧H b=some (.tup (k.map kV))∧r=valV kvs k
def DPut (H:Hp) (a:Addr) (y v:V) (H':Hp):Prop:=
 (∃ kvs k,H a=some (.dK kvs)∧y=kV k∧kvs.length < sizeLine∧H'=upd H a (.dK (putK kvs k v)))∨
 ∃ kvs k b,H a=some (.dT kvs)∧y=.ref b∧H b=some (.tup (k.map kV))∧kvs.length < sizeLine∧H'=upd H a (.dT (putK kvs k v))
theorem DGet.k {H:Hp} {a:Addr} {kvs:List (Key × V)} {k:Key} (e:H a=some (.dK kvs)):DGet H a (kV k) (valV kvs k):=.inl ⟨kvs,k,.inl e,rfl,rfl⟩
section
variable {X:Cx} {pins:List (Addr × Obj)} {σ:St} {H:Hp} {s:Shared} {a:Addr} {y v:V} {u r:Value} {o:Option V} {A:Around} {E:Value→Shared→Prop}
theorem tJ {Q:Value→Shared→Prop} (hu:A.units+1 < cLine) (I:Inv X pins σ H s) (g:DGet H a y (some v)) (ry:RelV y u) (h:∀ w' s',Inv X pins σ H s'→RelV v w'→Q w' s'):
  wpAny (model X.prog X.w) A (getItem (.ref a) u) Q E s:=by
 rcases g with ⟨kvs,k,e,ey,l⟩ | ⟨kvs,k,b,e,ey,eb,l⟩
 · subst ey
   obtain ⟨z,hd,vs,rel,dd⟩:=p6 I.hok e
   obtain ⟨w',hw,rw'⟩:=RelO.some_of (v:=v) (o:=valueAt vs k) (by rw [l]; exact rel.val k)
   exact wpAny_getItem_of (sv ry) dd.mapOf hw (h w' _ (I.tok _) rw')
 · subst ey
   cases (show u=Value.ref b from ry)
   obtain ⟨z,hd,xs,rel,dd⟩:=sx I.hok e
   obtain ⟨w',hw,rw'⟩:=RelO.some_of (v:=v) (o:=(atKey xs k).map (·.2)) (by rw [l]; exact rel.val k)
   obtain ⟨p,hp,hp2⟩:=Option.map_eq_some_iff.mp hw
   refine wpAny_getItem_heap (tupleKind_room_in1 hu) (ql I.hok eb) dd hp ?_
   rw [hp2]
   exact h w' _ (I.tok _) rw'
theorem xt {Q:Value→Shared→Prop} (hu:A.units+1 < cLine) (I:Inv X pins σ H s) (g:DGet H a y o) (ry:RelV y u) (h:∀ s',Inv X pins σ H s'→Q (.bool o.isSome) s'):
  wpAny (model X.prog X.w) A (compareOp .In u (.ref a)) Q E s:=by
 rcases g with ⟨kvs,k,e,ey,l⟩ | ⟨kvs,k,b,e,ey,eb,l⟩
 · subst ey
   obtain ⟨z,hd,vs,rel,dd⟩:=p6 I.hok e
   refine wpAny_in_of (sv ry) hd dd.mapOf ?_
   rw [← (rel.val k).isSome_eq,← l]
   exact h _ (I.tok _)
 · subst ey
   cases (show u=Value.ref b from ry)
   obtain ⟨z,hd,xs,rel,dd⟩:=sx I.hok e
   refine wpAny_in_heap (tupleKind_room_in1 hu) (ql I.hok eb) hd dd ?_
   have q:=(rel.val k).isSome_eq
   rw [Option.isSome_map] at q
   rw [← q,← l]
   exact h _ (I.tok _)
end
section
variable {X:Cx} {pins:List (Addr × Obj)} {σ:St} {H:Hp} {s:Shared} {a:Addr} {kvs:List (Key × V)} {k:Key} {u:Value} {A:Around} {E:Value→Shared→Prop}
theorem xb {Q:Value→Shared→Prop} (I:Inv X pins σ H s) (e:Rd H a (.dK kvs)) (h:∀ t s',Inv X pins σ H s'→Q (.int kvs.length t) s'):wpAny (model X.prog X.w) A (call (.builtin "len") [.ref a]) Q E s:=by
 obtain ⟨z,hd,vs,rel,dd⟩:=p6 I.hok e
 refine call_len_dict hd dd (by rw [← rel.length]; rw [sizeLine_eq] at z; omega) ?_
 rw [← rel.length]
 exact h _ _ (I.tok _)
end
theorem rl {X:Cx} {pins:List (Addr × Obj)} {σ:St} {H:Hp} {s:Shared} {a:Addr} {y:V} {o:Option V} (I:Inv X pins σ H s) (g:DGet H a y o):s.TypeIs (.ref a) "dict":=by
 rcases g with ⟨kvs,k,e,_,_⟩ | ⟨kvs,k,b,e,_,_,_⟩
 · obtain ⟨_,_,vs,_,dd⟩:=p6 I.hok e
   exact dd.typeIs
 · obtain ⟨_,_,xs,_,dd⟩:=sx I.hok e
   exact dd.typeIs
def sDPut (td ty tv:TE):TS:=fun D σ H=>tv σ H fun v H1=>td σ H1 fun x H2=>ty σ H2 fun y H3=>∃ a H4,x=.ref a∧DPut H3 a y v H4∧D.nx σ H4
def wu:TE:=fun _ H Q=>∀ p,H p=none→Q (.ref p) (upd H p (.dK []))
end L2
namespace L2
open PySem PySem.Spec PyProof.Rows
section
variable {X:Cx}
theorem tK:CallR X (.builtin "len") (fun xs H Q=>∃ a kvs,xs=[V.ref a]∧H a=some (.dK kvs)∧Q (.int kvs.length) H):=by
 intro pins s σ H xs us Q I r h
 obtain ⟨a,kvs,rfl,ha,q⟩:=h
 obtain ⟨u,rfl,ru⟩:=fz r
 cases ru
 exact xb I (.inl ha) fun t s' I'=>⟨.int kvs.length,H,I',⟨t,rfl⟩,q⟩
end
end L2
namespace L2
open PySem PySem.Spec PyProof.Rows
theorem cf {α:Type} (x:Str):∀ (a b:List (Str × α)),(a++b).lookup x=match a.lookup x with | some c=>some c | none=>b.lookup x
 | [],b=>rfl
 | (k,v)::r,b=>by
  rw [List.cons_append,List.lookup_cons,List.lookup_cons]
  cases x==k with
  | true=>rfl
  | false=>exact cf x r b
theorem iM:∀ (names:List (Str × NameKind)) (n:Nat) (acc cl:List (Str × Addr)),cellsFrom n names (acc++cl)=cellsFrom n names acc++cl
 | [],_,_,_=>rfl
 | (y,k)::r,n,acc,cl=>by
  unfold cellsFrom
  split
  · rw [← List.cons_append]; exact iM r _ _ cl
  · exact iM r _ _ cl
theorem fU {x:Str} {c:Addr}:∀ (names:List (Str × NameKind)) (n:Nat) (acc:List (Str × Addr)),(x,c)∈cellsFrom n names acc→(x,NameKind.cell)∈names∨(x,c)∈acc
 | [],_,_,h=>.inr h
 | (y,k)::r,n,acc,h=>by
  unfold cellsFrom at h
  split at h
  · rename_i hk
    have hk:k=.cell:=by simpa using hk
    subst hk
    rcases fU r _ _ h with z | z
    · exact .inl (List.mem_cons_of_mem _ z)
    · rcases List.mem_cons.mp z with z | z
      · cases z; exact .inl List.mem_cons_self
      · exact .inr z
  · rcases fU r _ _ h with z | z
    · exact .inl (List.mem_cons_of_mem _ z)
    · exact .inr z
theorem j6 {env:Env} (f:Str × NameKind→List (Str × Addr)→Sem (ForInStep (List (Str × Addr))))
  (hf:∀ name kind cs,f (name,kind) cs=if kind==.free then (do let a ← cellOf env name; pure (.yield ((name,a)::cs))) else pure (.yield cs)):
  ∀ (names:List (Str × NameKind)) (acc:List (Str × Addr)),(∀ x,(x,NameKind.free)∈names→∃ c,env.cells.lookup x=some c)→(∀ x c,acc.lookup x=some c→env.cells.lookup x=some c)→
   ∃ cl,forIn names acc f=(pure cl:Sem _)∧(∀ x c,cl.lookup x=some c→env.cells.lookup x=some c)∧(∀ x,((x,NameKind.free)∈names∨∃ c,acc.lookup x=some c)→∃ c,cl.lookup x=some c)
 | [],acc,_,h2=>⟨acc,rfl,h2,fun x h=>h.elim (fun z=>nomatch z) id⟩
 | (y,k)::r,acc,h1,h2=>by
  rw [List.forIn_cons,hf]
  by_cases hk:(k==NameKind.free)=true
  · rw [if_pos hk]
    have hk':k=.free:=by simpa using hk
    subst hk'
    obtain ⟨c,hc⟩:=h1 y List.mem_cons_self
    have e:(cellOf env y:Sem Addr)=pure c:=by unfold cellOf; rw [hc]
    rw [e]
    obtain ⟨cl,e1,e2,e3⟩:=j6 f hf r ((y,c)::acc) (fun x hx=>h1 x (List.mem_cons_of_mem _ hx)) (fun x c' hx=>by
     rw [List.lookup_cons] at hx
     cases hb:x==y with
     | true=>rw [hb] at hx; cases hx; rw [beq_iff_eq.mp hb]; exact hc
     | false=>rw [hb] at hx; exact h2 x c' hx)
    refine ⟨cl,?_,e2,fun x hx=>e3 x ?_⟩
    · exact e1
    · rcases hx with hx | ⟨c',hx⟩
      · rcases List.mem_cons.mp hx with z | z
        · cases z; exact .inr ⟨c,by rw [List.lookup_cons]; simp⟩
        · exact .inl z
      · cases hb:x==y with
        | true=>exact .inr ⟨c,by rw [List.lookup_cons,hb]⟩
        | false=>exact .inr ⟨c',by rw [List.lookup_cons,hb]; exact hx⟩
  · rw [if_neg hk]
    obtain ⟨cl,e1,e2,e3⟩:=j6 f hf r acc (fun x hx=>h1 x (List.mem_cons_of_mem _ hx)) h2
    refine ⟨cl,e1,e2,fun x hx=>e3 x ?_⟩
    rcases hx with hx | hx
    · rcases List.mem_cons.mp hx with z | z
      · cases z; exact absurd rfl hk
      · exact .inl z
    · exact .inr hx
theorem sy {scope:Scope} {env:Env} (h:∀ x,(x,NameKind.free)∈scope.names→∃ c,env.cells.lookup x=some c):
  ∃ cl,closureFor scope env=pure cl∧(∀ x c,cl.lookup x=some c→env.cells.lookup x=some c)∧∀ x,(x,NameKind.free)∈scope.names→∃ c,cl.lookup x=some c:=by
 obtain ⟨cl,e1,e2,e3⟩:=j6 (env:=env) (fun x cs=>match x with | (name,kind)=>if kind==.free then (do let a ← cellOf env name; pure (.yield ((name,a)::cs))) else pure (.yield cs)) (fun _ _ _=>rfl) scope.names [] h (fun x c hx=>nomatch hx)
 refine ⟨cl,?_,e2,fun x hx=>e3 x (.inl hx)⟩
 have:closureFor scope env=(forIn scope.names [] (fun x cs=>match x with | (name,kind)=>if kind==.free then (do let a ← cellOf env name; pure (.yield ((name,a)::cs))) else pure (.yield cs)) >>= fun cs=>pure cs):=by
  simp only [closureFor]
 rw [this,e1]
 rfl
def mV (scope:Scope) (cl:List (Str × Addr)) (C:Addr) (env:Env):Env:=
 { newEnv scope C env.globals (cellsFrom (C+1) scope.names cl) env.qual none .none (some env) builtinsNs with scope:=relabel scope env }
theorem uy {M:Model} {A:Around} {E:Value→Shared→Prop} {s:Shared} {scope:Scope} {cl:List (Str × Addr)} {env:Env} {Q:Env→Shared→Prop}
  (hQ:Q (newEnv scope s.heap.objs.size env.globals (cellsFrom (s.heap.objs.size+1) scope.names cl) env.qual none .none (some env) builtinsNs) { s with heap:=pushCells (s.heap.push { cls:=.type "dict",data:=.dict #[] }) scope.names }):
  wpAny M A (newFunctionEnv scope env.globals cl [] env.qual none .none (some env)) Q E s:=by
 simp only [newFunctionEnv,Option.isSome_some,if_true]
 refine wpAny_bind (wpAny_alloc ?_)
 refine wpAny_bind (wpAny_layCells _ (fun name kind cells=>by cases hkc:kind==NameKind.cell <;> simp [hkc]) _ _ _ _ ?_)
 rw [show ({ s with heap:=s.heap.push { cls:=.type "dict",data:=.dict #[] } }:Shared).heap.objs.size=s.heap.objs.size+1 from Heap.size_push ..]
 refine wpAny_bind ?_
 rw [List.forIn_nil]
 exact wpAny_pure (wpAny_pure hQ)
section
variable {prog:Program} {w:World} {A:Around} {E:Value→Shared→Prop} {R:Result→Shared→Prop} {s:Shared}
theorem tL {elt target iter:Expr} {ifs:List Expr} {scope:Scope} {pos:Pos} {it acc:Value} {env:Env} (I:Nat→Shared→Prop)
  (turn:∀ n s,I n s→wpAny (model prog w) A (pyNext it) (fun r s₁=>match r with
   | none=>R (.ok .next) s₁
   | some v=>wpAny (model prog w) A (letOwnedTupleGo target it v) (fun _ s₁'=>wpAny (model prog w) A (assign target env v) (fun _ s₂=>
     wpAny (model prog w) A (forIn ifs true fun c r=>if r=true then do let ok ← isTrue c env (eval c env); pure (ForInStep.yield ok) else pure (ForInStep.yield r)) (fun ok s₃=>
      if ok=true then wpAny (model prog w) A (eval elt env) (fun x s₄=>
       wpAny (model prog w) A (call (.builtin "list.append") [acc,x]) (fun _ s₅=>∃ m,m < n∧I m s₅) (notedBy (model prog w) A env fun e s'=>R (.error e) s') s₄) (notedBy (model prog w) A env fun e s'=>R (.error e) s') s₃
      else ∃ m,m < n∧I m s₃) (notedBy (model prog w) A env fun e s'=>R (.error e) s') s₂) (notedBy (model prog w) A env fun e s'=>R (.error e) s') s₁') (notedBy (model prog w) A env fun e s'=>R (.error e) s') s₁) (notedBy (model prog w) A env fun e s'=>R (.error e) s') s)
  (n:Nat) (h:I n s):
  codeAny (model prog w) A (.compLoop (.ListComp elt [⟨target,iter,ifs,0⟩] scope pos) 0 it acc env) R s:=by
 refine codeAny_loop rfl I (fun n s hI=>?_) n h
 show wpAny _ A ((compTurn (.ListComp elt [⟨target,iter,ifs,0⟩] scope pos) 0 it acc env).onRaise (fun x=>do noteFrame x env; theTreesLotGoes x)) _ _ s
 refine wpAny_noted ?_
 rw [compTurn_list]
 refine wpAny_bind (wpAny_standAt (wpAny_bind (wpAny_mono (turn n s hI) (fun r s₁ h₁=>?_) fun _ _ h'=>h')))
 cases r with
 | none=>exact wpAny_pure h₁
 | some v=>
  refine wpAny_bind (wpAny_mono h₁ (fun _ s₁' h₁'=>?_) fun _ _ h'=>h')
  refine wpAny_bind (wpAny_mono h₁' (fun _ s₂ h₂=>wpAny_bind (wpAny_mono h₂ (fun ok s₃ h₃=>?_) fun _ _ h'=>h')) fun _ _ h'=>h')
  cases ok with
  | false=>exact wpAny_pure ⟨rfl,h₃⟩
  | true=>
   exact wpAny_bind (wpAny_bind (wpAny_mono h₃ (fun x s₄ h₄=>wpAny_bind (wpAny_mono h₄ (fun _ s₅ h₅=>wpAny_pure (wpAny_pure ⟨rfl,h₅⟩)) fun _ _ h'=>h')) fun _ _ h'=>h'))
end
end L2
namespace L2
open PySem PySem.Spec PyProof.Rows
theorem ja {scope:Scope} {env:Env} {x:Str} {k:NameKind} (h:(relabel scope env).names.lookup x=some k):∃ k',scope.names.lookup x=some k'∧(k=k'∨(k'=.free∧k=.cell)):=by
 unfold relabel at h
 dsimp only at h
 generalize scope.names=names at h ⊢
 induction names with
 | nil=>cases h
 | cons p r ih=>
  obtain ⟨n,k0⟩:=p
  rw [List.map_cons] at h
  rw [List.lookup_cons]
  cases hb:x==n with
  | true=>
   refine ⟨k0,rfl,?_⟩
   dsimp only at h
   split at h
   · rename_i hc
     rw [List.lookup_cons,hb] at h
     cases h
     simp only [Bool.and_eq_true,beq_iff_eq] at hc
     exact .inr ⟨hc.1.1,rfl⟩
   · rw [List.lookup_cons,hb] at h
     cases h
     exact .inl rfl
  | false=>
   dsimp only at h
   refine ih ?_
   split at h
   · rw [List.lookup_cons,hb] at h; exact h
   · rw [List.lookup_cons,hb] at h; exact h
def blkCx (X:Cx) (N:List Str) (scope:Scope) (cl:List (Str × Addr)) (s:Shared) (H:Hp) (fp:List Addr):Cx where
 prog:=X.prog
 w:=X.w
 K:=X.K
 mg:=X.mg
 base:=X.base
 A:=X.A
 N:=N
 s₀:=s
 H₀:=H
 env:=mV scope cl (s.heap.objs.size+1) X.env
 outer:=X.stack
 stack:=X.stack
 ex:=fp
 fn:=fun x=>scope.names.lookup x==some .cell
 calm:=X.calm
 pn:=[]
 xe:=fun e₀ s₁=>(∃ (pins:List (Addr × Obj)) (σ:St),Inv X pins σ H s∧∀ b∈fp,FpOk X pins H b)→notedBy (model X.prog X.w) X.A (mV scope cl (s.heap.objs.size+1) X.env) (fun x s'=>∃ m,s'.heap.Ns (s.heap.objs.size+1) m∧∀ h',Heap.SameBut (s.heap.objs.size+1) s'.heap h'→∀ cenv:Env,cenv.locals=s.heap.objs.size+1→
  wpAny (model X.prog X.w) X.A (passOn "comprehension.variables-let-go" x cenv:Sem Value) (fun _ _=>False) X.xe { s' with heap:=h' }) e₀ s₁
def subσ (ix:List (Option Nat)) (σ:St):St:=ix.map fun o=>match o with | none=>none | some i=>match σ[i]? with | some v=>v | none=>none
structure BlkOk (X:Cx) (N:List Str) (ix:List (Option Nat)) (scope:Scope):Prop where
 kind:scope.kind=.function
 nd:N.Nodup
 len:ix.length=N.length
 names:(scope.names.map (·.1)).Nodup
 free:∀ x,(x,NameKind.free)∈scope.names→X.env.kindOf x=some .cell∨X.env.kindOf x=some .free
 at_:∀ (j i:Nat) (x:Str),N[j]? =some x→ix[j]? =some (some i)→X.N[i]? =some x∧(x,NameKind.free)∈scope.names
theorem dv {α:Type}:∀ {l:List (Str × α)} {x:Str} {k:α},(l.map (·.1)).Nodup→(x,k)∈l→l.lookup x=some k
 | (y,k0)::r,x,k,nd,h=>by
  rw [List.map_cons,List.nodup_cons] at nd
  rw [List.lookup_cons]
  rcases List.mem_cons.mp h with e | e
  · cases e; simp
  · have:x≠y:=by
     rintro rfl
     exact nd.1 (List.mem_map.mpr ⟨(x,k),e,rfl⟩)
    have hb:(x==y)=false:=by simpa using this
    rw [hb]
    exact dv nd.2 e
theorem tM {X:Cx} {pins:List (Addr × Obj)} {σ:St} {H:Hp} {s:Shared} {N:List Str} {ix:List (Option Nat)} {scope:Scope} {cl:List (Str × Addr)} {fp:List Addr} (B:BlkOk X N ix scope)
  (I:Inv X pins σ H s) (hcl:∀ x c,cl.lookup x=some c→X.env.cells.lookup x=some c) (hcf:∀ x,(x,NameKind.free)∈scope.names→∃ c,cl.lookup x=some c)
  (hfp:∀ b∈fp,FpOk X pins H b) (hob:∀ b∈fp,∃ o,s.heap.get? b=some o∧∀ v,o.data≠.cell v):
  Inv (blkCx X N scope cl s H fp) [] (subσ ix σ) (upd H s.heap.objs.size (.lst []))
   { s with heap:=pushCells ((s.heap.push { cls:=.type "list",data:=.seq #[] }).push { cls:=.type "dict",data:=.dict #[] }) scope.names }:=by
 have hs2:(s.heap.push { cls:=.type "list",data:=.seq #[] }).objs.size=s.heap.objs.size+1:=Heap.size_push ..
 have hs3:((s.heap.push { cls:=.type "list",data:=.seq #[] }).push { cls:=.type "dict",data:=.dict #[] }).objs.size=s.heap.objs.size+2:=by rw [Heap.size_push,hs2]
 have hk:∀ b o,s.heap.get? b=some o→(pushCells ((s.heap.push { cls:=.type "list",data:=.seq #[] }).push { cls:=.type "dict",data:=.dict #[] }) scope.names).get? b=some o:=
  fun b o e=>pushCells_keeps _ _ b o (Heap.get?_push_of_some _ (Heap.get?_push_of_some _ e))
 have hl:(pushCells ((s.heap.push { cls:=.type "list",data:=.seq #[] }).push { cls:=.type "dict",data:=.dict #[] }) scope.names).get? s.heap.objs.size=some { cls:=.type "list",data:=.seq #[] }:=
  pushCells_keeps _ _ _ _ (Heap.get?_push_of_some _ (Heap.get?_push_size _ rfl))
 have ok0:=cellsFrom_ok scope.names ((s.heap.push { cls:=.type "list",data:=.seq #[] }).push { cls:=.type "dict",data:=.dict #[] }) (s.heap.objs.size+2) [] ⟨fun _ _ hm=>(nomatch hm),List.Pairwise.nil⟩ (by rw [hs3]; exact Nat.le_refl _)
 rw [hs3] at ok0
 have hcells:(blkCx X N scope cl s H fp).env.cells=cellsFrom (s.heap.objs.size+2) scope.names []++cl:=by
  show cellsFrom (s.heap.objs.size+1+1) scope.names cl=_
  rw [← List.nil_append cl,iM]
  simp
 have cases_:∀ x c,(blkCx X N scope cl s H fp).env.cells.lookup x=some c→((x,c)∈cellsFrom (s.heap.objs.size+2) scope.names []∧(x,NameKind.cell)∈scope.names)∨((cellsFrom (s.heap.objs.size+2) scope.names []).lookup x=none∧cl.lookup x=some c):=fun x c e=>by
  rw [hcells,cf] at e
  cases q:(cellsFrom (s.heap.objs.size+2) scope.names []).lookup x with
  | none=>rw [q] at e; exact .inr ⟨rfl,e⟩
  | some c'=>
   rw [q] at e
   cases e
   have m:=PySem.mem_of_lookup q
   refine .inl ⟨m,?_⟩
   rcases fU _ _ _ m with z | z
   · exact z
   · exact nomatch z
 have oldc:∀ x c,cl.lookup x=some c→c < s.heap.objs.size:=fun x c e=>by
  obtain ⟨v,q⟩:=I.cell x c (hcl x c e)
  exact q.lt
 have hfree:H s.heap.objs.size=none:=I.hok.fresh (Nat.le_refl _)
 have hfix:∀ b,s.heap.objs.size < b→(upd H s.heap.objs.size (.lst [])) b=none:=fun b hb=>by
  rw [am (Nat.ne_of_gt hb)]
  exact I.hok.fresh (Nat.le_of_lt hb)
 have hlt:∀ b∈fp,b < s.heap.objs.size:=fun b hb=>by
  obtain ⟨o,e,_⟩:=hob b hb
  exact Heap.lt_size e
 have e0:=I.env0
 have isnew:∀ x c,(x,c)∈cellsFrom (s.heap.objs.size+2) scope.names []→s.heap.objs.size+2≤c:=fun x c m=>(ok0.empty x c m).2
 refine ⟨⟨I.ok.mod,B.kind,I.ok.glob,I.ok.blt,Nat.le_succ _,fun x y c e1 e2=>?_,fun x hx=>?_,fun x c hx e=>?_,I.ok.hd,I.ok.frames,.inl rfl,fun b hb=>⟨?_,fun x c e=>?_⟩,e0.bs,e0.bsz,fun b o e hb=>?_,fun b hb hb2=>?_,e0.funs,e0.frf⟩,
  rfl,I.bare,Un.laid hk (Nat.le_refl _) hfree,⟨fun _=>none,?_,fun j x v e1 e2 e3=>?_⟩,fun x c e=>?_,hfix _ (Nat.lt_succ_self _),fun x c e=>?_,fun p hp=>absurd (show p∈([]:List (Addr × Obj)) from hp) (by simp),?_,?_⟩
 · rcases cases_ x c e1 with ⟨m1,k1⟩ | ⟨n1,q1⟩ <;> rcases cases_ y c e2 with ⟨m2,k2⟩ | ⟨n2,q2⟩
   · exact name_of_addr ok0.apart m1 m2
   · exact absurd (Nat.lt_of_lt_of_le (oldc _ _ q2) (Nat.le_trans (Nat.le_add_right _ _) (isnew _ _ m1))) (Nat.lt_irrefl _)
   · exact absurd (Nat.lt_of_lt_of_le (oldc _ _ q1) (Nat.le_trans (Nat.le_add_right _ _) (isnew _ _ m2))) (Nat.lt_irrefl _)
   · exact I.ok.inj x y c (hcl _ _ q1) (hcl _ _ q2)
 · have hx':(relabel scope X.env).names.lookup x=some .cell∨(relabel scope X.env).names.lookup x=some .free:=hx
   have key:scope.names.lookup x=some .cell∨scope.names.lookup x=some .free:=by
    rcases hx' with z | z
    · obtain ⟨k',e,r | r⟩:=ja z
      · rw [← r] at e; exact .inl e
      · rw [r.1] at e; exact .inr e
    · obtain ⟨k',e,r | r⟩:=ja z
      · rw [← r] at e; exact .inr e
      · cases r.2
   rw [hcells]
   rcases key with z | z
   · obtain ⟨c,q⟩:=j5 (n:=s.heap.objs.size+2) z
     exact ⟨c,by rw [cf,q]⟩
   · obtain ⟨c,q⟩:=hcf x (PySem.mem_of_lookup z)
     cases q2:(cellsFrom (s.heap.objs.size+2) scope.names []).lookup x with
     | none=>exact ⟨c,by rw [cf,q2]; exact q⟩
     | some c'=>exact ⟨c',by rw [cf,q2]⟩
 · have hx':scope.names.lookup x=some .cell:=by simpa [blkCx] using hx
   rcases cases_ x c e with ⟨m1,k1⟩ | ⟨n1,q1⟩
   · exact Nat.le_trans (Nat.le_add_right _ _) (isnew _ _ m1)
   · obtain ⟨c',q⟩:=j5 (n:=s.heap.objs.size+2) hx'
     rw [q] at n1; cases n1
 · exact Nat.ne_of_lt (Nat.lt_succ_of_lt (hlt b hb))
 · rcases cases_ x c e with ⟨m1,k1⟩ | ⟨n1,q1⟩
   · exact Nat.ne_of_gt (Nat.lt_of_lt_of_le (hlt b hb) (Nat.le_trans (Nat.le_add_right _ _) (isnew _ _ m1)))
   · exact (hfp b hb).2.2.2.2.1 x c (hcl _ _ q1)
 · rcases (hfp b hb).2.2.2.1 with z | z
   · exact I.ok.noex b o e z
   · exact absurd (Nat.lt_of_lt_of_le (Heap.lt_size e) (Nat.le_trans I.ok.bsz z)) (Nat.lt_irrefl _)
 · rcases List.mem_cons.mp (I.stkSub b hb2) with z | z
   · exact (hfp b hb).2.1 z
   · exact (hfp b hb).2.2.1 z
 · show Heap.Ns _ (s.heap.objs.size+1) _
   rw [← hs2]
   exact (Heap.Ns.new _ (.type "dict")).keeps (pushCells_keeps _ _)
 ·
   unfold subσ at e2
   rw [List.getElem?_map] at e2
   cases q:ix[j]? with
   | none=>rw [q] at e2; cases e2
   | some o=>
    rw [q] at e2
    cases o with
    | none=>cases e2
    | some i=>
     simp only [Option.map_some,Option.some.injEq] at e2
     obtain ⟨hN,hm⟩:=B.at_ j i x e1 q
     have hσ:σ[i]? =some (some v):=by
      cases q2:σ[i]? with
      | none=>rw [q2] at e2; cases e2
      | some z=>rw [q2] at e2; exact congrArg some e2
     obtain ⟨m,hn,hl'⟩:=I.loc
     have hkind:=B.free x hm
     have hvis:Vis X.env.scope x:=hkind.elim (fun z=>.inr (.inl z)) fun z=>.inr (.inr z)
     obtain ⟨u,ru,lk⟩:=hl' i x v hN hσ hvis
     refine ⟨u,ru,?_⟩
     obtain ⟨c,hc⟩:=hcf x hm
     have hnone:(cellsFrom (s.heap.objs.size+2) scope.names []).lookup x=none:=by
      cases q2:(cellsFrom (s.heap.objs.size+2) scope.names []).lookup x with
      | none=>rfl
      | some c'=>
       rcases fU _ _ _ (PySem.mem_of_lookup q2) with z | z
       · have a1:=dv B.names z
         have a2:=dv B.names hm
         rw [a1] at a2; cases a2
       · exact nomatch z
     have hcell:(blkCx X N scope cl s H fp).env.cells.lookup x=some c:=by rw [hcells,cf,hnone]; exact hc
     have hkk:(blkCx X N scope cl s H fp).env.kindOf x=some .cell∨(blkCx X N scope cl s H fp).env.kindOf x=some .free:=by
      rcases e3 with z | z | z
      · obtain ⟨k',e,r | r⟩:=ja (show (relabel scope X.env).names.lookup x=some .local from z)
        · rw [dv B.names hm] at e; cases e; cases r
        · cases r.2
      · exact .inl z
      · exact .inr z
     refine .inr ⟨hkk,c,hcell,?_⟩
     rcases lk with ⟨k1,_⟩ | ⟨_,c2,e4,z⟩
     · rcases hkind with z | z <;> rw [k1] at z <;> cases z
     · rw [hcl x c hc] at e4; cases e4
       exact z.keeps hk
 · rcases cases_ x c e with ⟨m1,k1⟩ | ⟨n1,q1⟩
   · exact ⟨none,(ok0.empty x c m1).1⟩
   · obtain ⟨v,z⟩:=I.cell x c (hcl _ _ q1)
     exact ⟨v,z.keeps hk⟩
 · rcases cases_ x c e with ⟨m1,k1⟩ | ⟨n1,q1⟩
   · exact hfix c (Nat.lt_of_lt_of_le (Nat.lt_add_of_pos_right (by decide)) (isnew _ _ m1))
   · rw [am (Nat.ne_of_lt (oldc _ _ q1))]
     exact I.freeC x c (hcl _ _ q1)
 · exact I.hok.laid hk (Nat.le_refl _) ⟨Nat.zero_le _,[],0,.nil,hl⟩
 · show (subσ ix σ).length=N.length
   unfold subσ
   rw [List.length_map]
   exact B.len
end L2
namespace L2
open PySem PySem.Spec PyProof.Rows
def PTs (X:Cx) (ifs:List Expr) (t:TT):Prop:=
 ∀ (pins:List (Addr × Obj)) (s:Shared) (σ:St) (H:Hp) (Q:Bool→Hp→Prop),Inv X pins σ H s→t σ H Q→
  wpAny (model X.prog X.w) X.A (forIn ifs true fun c r=>if r=true then do let ok ← isTrue c X.env (eval c X.env); pure (ForInStep.yield ok) else pure (ForInStep.yield r)) (TP X pins σ Q) X.xe s
def tTrue:TT:=fun _ H Q=>Q true H
theorem bP {X:Cx}:PTs X [] tTrue:=fun _ _ _ H _ I h=>wpAny_tests_nil ⟨H,I,h⟩
def qm (ix:List (Option Nat)) (wi:TI) (g:TG) (tt:TT) (te:TE) (fin:Addr→Hp→Prop):St→Hp→Prop:=fun σ H=>wi σ H fun J H1=>∀ l,H1 l=none→
 ∃ W:Nat→Nat→St→Hp→Prop,(∃ m,W 0 m (subσ ix σ) (upd H1 l (.lst [])))∧∀ i m σ' H',W i m σ' H'→
  (J.stop i H'∧fin l H')∨(J.go i H'∧∃ N:St→Hp→Prop,(∀ σ'' H'',N σ'' H''→∃ m',m' < m∧W (i+1) m' σ'' H'')∧∀ x H2,J.yld i H' x H2→g x σ' H2 fun σ2 H3=>tt σ2 H3 fun b H4=>
   if b=true then te σ2 H4 fun y H5=>∃ ys,H5 l=some (.lst ys)∧ys.length < sizeLine∧N σ2 (upd H5 l (.lst (ys++[y]))) else N σ2 H4)
section
variable {X:Cx} {pins:List (Addr × Obj)} {σ σ':St} {H H':Hp} {s s':Shared} {N:List Str} {scope:Scope} {cl:List (Str × Addr)} {fp:List Addr}
theorem rN {h':Heap} (I:Inv X pins σ H s) (J:Inv (blkCx X N scope cl s H fp) [] σ' H' s') (hfp:∀ b∈fp,FpOk X pins H b) (sb:Heap.SameBut (s.heap.objs.size+1) s'.heap h'):Inv X pins σ H' { s' with heap:=h' }:=by
 have u:Un (frs X.stack) fp H H' s.heap s'.heap:=J.base
 have hC:H' (s.heap.objs.size+1)=none:=J.free
 have ne:∀ b o,s.heap.get? b=some o→b≠s.heap.objs.size+1:=fun b o e=>Nat.ne_of_lt (Nat.lt_succ_of_lt (Heap.lt_size e))
 refine I.call' (s':={ s' with heap:=h' }) (ch:=fp) J.os ⟨fun b o e n hb hx=>?_,fun b o e n hb hx=>?_,u.free,fun b o e hx=>?_,u.tups,u.frzs,u.tbls⟩ (fun b ob e=>?_) J.bare fun b hb=>?_
 · exact (sb.2 b (ne b o e)).trans (u.keep b o e n hb hx)
 · obtain ⟨sl,q⟩:=u.slot b o e n hb hx
   exact ⟨sl,(sb.2 b (ne b o e)).trans q⟩
 · obtain ⟨o',q⟩:=u.there b o e hx
   exact ⟨o',(sb.2 b (ne b o e)).trans q⟩
 · refine (J.hok b ob e).stay (fun c w' hc q=>(sb.2 c ?_).trans q) (fun _ q=>q) fun _ _ q=>q
   rintro rfl
   rcases hc with rfl | hc
   · rw [hC] at e; cases e
   · rw [hC] at hc; cases hc
 · obtain ⟨f0,f1,f2,f3,f4,f5⟩:=hfp b hb
   exact ⟨f3,f1,f4,f5⟩
theorem qo {tg iter elt:Expr} {ifs:List Expr} {pos:Pos} {ix:List (Option Nat)} {wi:TI} {g:TG} {tt:TT} {te:TE} {fin:Addr→Hp→Prop} {RR:Value→Addr→Result→Shared→Prop} (B:BlkOk X N ix scope) (hc:X.calm=true)
  (hi:PI X tg iter wi) (hg:∀ cl s H fp,PG (blkCx X N scope cl s H fp) tg g) (ht:∀ cl s H fp,PTs (blkCx X N scope cl s H fp) ifs tt) (he:∀ cl s H fp,PE (blkCx X N scope cl s H fp) elt te)
  (hcl:∀ x c,cl.lookup x=some c→X.env.cells.lookup x=some c) (hcf:∀ x,(x,NameKind.free)∈scope.names→∃ c,cl.lookup x=some c)
  (I:Inv X pins σ H s) (h:qm ix wi g tt te fin σ H)
  (ok:∀ (s2:Shared) (H2:Hp) (fp:List Addr) (σ3:St) (H3:Hp) (s3:Shared),Inv X pins σ H2 s2→(∀ b∈fp,FpOk X pins H2 b)→Inv (blkCx X N scope cl s2 H2 fp) [] σ3 H3 s3→fin s2.heap.objs.size H3→RR (.ref s2.heap.objs.size) (s2.heap.objs.size+1) (.ok .next) s3)
  (bad:∀ (a C:Addr) (x:Value) (s':Shared),(∃ m,s'.heap.Ns C m∧∀ h',Heap.SameBut C s'.heap h'→∀ cenv:Env,cenv.locals=C→wpAny (model X.prog X.w) X.A (passOn "comprehension.variables-let-go" x cenv:Sem Value) (fun _ _=>False) X.xe { s' with heap:=h' })→RR (.ref a) C (.error x) s'):
  wpAny (model X.prog X.w) X.A (eval iter X.env) (fun x s₁=>wpAny (model X.prog X.w) X.A (pyIter x) (fun it s₂=>wpAny (model X.prog X.w) X.A (newList []) (fun acc s₃=>
   wpAny (model X.prog X.w) X.A (newFunctionEnv scope X.env.globals cl [] X.env.qual none .none (some X.env)) (fun cenv s₄=>
    codeAny (model X.prog X.w) X.A (.compStart (.ListComp elt [⟨tg,iter,ifs,0⟩] scope pos) 0 it acc { cenv with scope:=relabel scope X.env }) (RR acc cenv.locals) s₄) X.xe s₃) X.xe s₂) X.xe s₁) X.xe s:=by
 refine thn (hi pins s σ H _ I h) fun v s1 h1=>thn h1 fun itv s2 h2=>?_
 obtain ⟨it,fp,tn,J,H2,e,I2,T,st2,f2,h2⟩:=h2
 subst e
 refine wpAny_newList (uy ?_) (Nat.zero_le _)
 have hs2:(s2.heap.push { cls:=.type "list",data:=.seq (([]:List Value)).toArray }).objs.size=s2.heap.objs.size+1:=Heap.size_push ..
 dsimp only
 rw [hs2]
 have I3:=tM (fp:=fp) B I2 hcl hcf f2 (T.obj _ _ st2)
 obtain ⟨W,⟨m0,w0⟩,turn⟩:=h2 s2.heap.objs.size I2.fresh
 have hk:∀ b o,s2.heap.get? b=some o→(pushCells ((s2.heap.push { cls:=.type "list",data:=.seq #[] }).push { cls:=.type "dict",data:=.dict #[] }) scope.names).get? b=some o:=
  fun b o e=>pushCells_keeps _ _ b o (Heap.get?_push_of_some _ (Heap.get?_push_of_some _ e))
 have st3:=T.keep _ _ _ st2 fun b _ o e=>hk b o e
 have fr3:∀ b∈fp,(upd H2 s2.heap.objs.size (.lst [])) b=none:=fun b hb=>by
  obtain ⟨o,e,_⟩:=T.obj _ _ st2 b hb
  rw [am (Nat.ne_of_lt (Heap.lt_size e))]
  exact (f2 b hb).1
 have stat:∀ {σ5:St} {H5:Hp} {s5:Shared},Inv (blkCx X N scope cl s2 H2 fp) [] σ5 H5 s5→(∀ b∈fp,H5 b=none)→∀ b∈fp,FpOk (blkCx X N scope cl s2 H2 fp) [] H5 b:=fun I5 hn b hb=>
  ⟨hn b hb,(I5.ok.exf b hb).1,I5.ok.exfs b hb,.inl hb,(I5.ok.exf b hb).2,fun p hp=>absurd (show p∈([]:List (Addr × Obj)) from hp) (by simp)⟩
 have loop:∀ s₃:Shared,s₃={ s2 with heap:=pushCells ((s2.heap.push { cls:=.type "list",data:=.seq #[] }).push { cls:=.type "dict",data:=.dict #[] }) scope.names }→
   codeAny (model X.prog X.w) X.A (.compLoop (.ListComp elt [⟨tg,iter,ifs,0⟩] scope pos) 0 (.ref it) (.ref s2.heap.objs.size) (blkCx X N scope cl s2 H2 fp).env) (RR (.ref s2.heap.objs.size) (s2.heap.objs.size+1)) s₃:=by
  rintro s₃ rfl
  refine tL (fun n s'=>∃ i σ' H',Inv (blkCx X N scope cl s2 H2 fp) [] σ' H' s'∧tn i s'.heap∧(∀ b∈fp,H' b=none)∧W i n σ' H') ?_ m0 ⟨0,_,_,I3,st3,fr3,w0⟩
  rintro n s4 ⟨i,σ4,H4,I4,st4,fr4,w4⟩
  have xe_:∀ x s',(blkCx X N scope cl s2 H2 fp).xe x s'→notedBy (model X.prog X.w) X.A (blkCx X N scope cl s2 H2 fp).env (fun e s'=>RR (.ref s2.heap.objs.size) (s2.heap.objs.size+1) (.error e) s') x s':=fun x s' hx=>
   wpAny_mono (hx ⟨pins,σ,I2,f2⟩) (fun _ s'' q=>bad _ _ _ _ q) fun e s'' q=>bad _ _ _ _ q
  rcases turn i n σ4 H4 w4 with ⟨stop,qn⟩ | ⟨go,Nx,hN,step⟩
  · refine wpAny_mono (T.done (blkCx X N scope cl s2 H2 fp) rfl rfl rfl hc i [] s4 σ4 H4 _ I4 (stat I4 fr4) st4 stop) (fun r s5 ⟨hr,I5⟩=>?_) xe_
    subst hr
    exact ok s2 H2 fp σ4 H4 s5 I2 f2 I5 qn
  · refine wpAny_mono (T.item (blkCx X N scope cl s2 H2 fp) rfl rfl rfl hc i [] s4 σ4 H4 _ I4 (stat I4 fr4) st4 go) (fun r s5 ⟨u,hr,h5⟩=>?_) xe_
    subst hr
    refine wpAny_mono h5 (fun _ s6 ⟨x,H6,I6,r6,y6,st6,fr6⟩=>?_) xe_
    have I6':=I6.pinned (stat I6 fr6) (T.obj _ _ st6)
    refine wpAny_mono (hg cl s2 H2 fp _ s6 σ4 H6 x u _ I6' r6 (step x H6 y6)) (fun _ s7 ⟨σ7,H7,I7,q7⟩=>?_) xe_
    have again:∀ {σ8:St} {H8:Hp} {s8:Shared},Inv (blkCx X N scope cl s2 H2 fp) ([]++ky fp s6.heap) σ8 H8 s8→Nx σ8 H8→∃ m,m < n∧∃ i σ' H',Inv (blkCx X N scope cl s2 H2 fp) [] σ' H' s8∧tn i s8.heap∧(∀ b∈fp,H' b=none)∧W i m σ' H':=fun {σ8 H8 s8} I8 n8=>by
     obtain ⟨m',hm,w8⟩:=hN σ8 H8 n8
     refine ⟨m',hm,i+1,σ8,H8,I8.unpinned,T.keep _ _ _ st6 fun b hb o e=>(I8.pin (b,o) (List.mem_append_right _ (List.mem_append_right _ (iZ hb e)))).1,fun b hb=>?_,w8⟩
     obtain ⟨o,e,d⟩:=T.obj _ _ st6 b hb
     exact (I8.pin (b,o) (List.mem_append_right _ (List.mem_append_right _ (iZ hb e)))).2.1
    refine wpAny_mono (ht cl s2 H2 fp _ s7 σ7 H7 _ I7 q7) (fun okb s8 ⟨H8,I8,q8⟩=>?_) xe_
    cases okb with
    | false=>exact again I8 q8
    | true=>
     refine wpAny_mono (he cl s2 H2 fp _ s8 σ7 H8 _ I8 q8) (fun y s9 ⟨yv,H9,I9,r9,ys,hl,hz,q9⟩=>?_) xe_
     refine wpAny_mono (o6 (X:=blkCx X N scope cl s2 H2 fp) _ s9 σ7 H9 (.ref s2.heap.objs.size) [yv] (.ref s2.heap.objs.size) [y] (fun _ H10=>Nx σ7 H10) I9 rfl (.cons r9 .nil) ⟨_,ys,yv,rfl,rfl,hl,hz,q9⟩) (fun _ s10 ⟨_,H10,I10,_,q10⟩=>?_) xe_
     exact again I10 q10
 exact codeAny_compStart_list (loop _ rfl) (T.self _ 0 _ _ _ st3 (loop _ rfl))
def tComp (ix:List (Option Nat)) (wi:TI) (g:TG) (tt:TT) (te:TE):TE:=fun σ H Q=>qm ix wi g tt te (fun l H'=>Q (.ref l) H') σ H
def sComp (k:Nat) (ix:List (Option Nat)) (wi:TI) (g:TG) (tt:TT) (te:TE):TS:=fun D σ H=>qm ix wi g tt te (fun l H'=>D.nx (σ.set k (some (.ref l))) H') σ H
theorem rO (I:Inv X pins σ H s) {ix:List (Option Nat)} (B:BlkOk X N ix scope):∃ cl,closureFor scope X.env=pure cl∧(∀ x c,cl.lookup x=some c→X.env.cells.lookup x=some c)∧∀ x,(x,NameKind.free)∈scope.names→∃ c,cl.lookup x=some c:=
 sy fun x hx=>I.ok.has x (B.free x hx)
theorem l9 {ix:List (Option Nat)} (B:BlkOk X N ix scope):∀ x∈scope.names,x.2=NameKind.local→scope.names.lookup x.1=some .local:=fun x hx e=>by
 obtain ⟨n,k⟩:=x
 cases e
 exact dv B.names hx
theorem dC {tg iter elt:Expr} {ifs:List Expr} {pos:Pos} {ix:List (Option Nat)} {wi:TI} {g:TG} {tt:TT} {te:TE} (N:List Str) (B:BlkOk X N ix scope) (hc:X.calm=true)
  (hi:PI X tg iter wi) (hg:∀ cl s H fp,PG (blkCx X N scope cl s H fp) tg g) (ht:∀ cl s H fp,PTs (blkCx X N scope cl s H fp) ifs tt) (he:∀ cl s H fp,PE (blkCx X N scope cl s H fp) elt te)
  (hs:∀ x,foldedSetIterable iter X.env x=pure x:=by intro _; rfl):PE X (.ListComp elt [⟨tg,iter,ifs,0⟩] scope pos) (tComp ix wi g tt te):=by
 intro pins s σ H Q I h
 obtain ⟨cl,e1,e2,e3⟩:=rO I B
 rw [eval_ListComp]
 refine wpAny_comprehension_free (use:=none) rfl hs e1 B.kind (l9 B) ?_
 refine qo (RR:=fun acc C=>compPost (model X.prog X.w) X.A X.xe none (EP X pins σ Q) acc C) B hc hi hg ht he e2 e3 I h (fun s2 H2 fp σ3 H3 s3 I2 f2 J q=>?_) (fun a C x s' q=>q)
 obtain ⟨m,hn,_⟩:=J.loc
 exact ⟨m,hn,fun h' sb=>⟨.ref _,H3,rN I2 J f2 sb,rfl,q⟩⟩
theorem lj {y:Str} {py spos:Pos} {k:Nat} {tg iter elt:Expr} {ifs:List Expr} {pos:Pos} {ix:List (Option Nat)} {wi:TI} {g:TG} {tt:TT} {te:TE} (hN:X.N.Nodup) (hy:X.N[k]? =some y) (hx:Loc X.env.scope y)
  (hsw:swapsWith (.ListComp elt [⟨tg,iter,ifs,0⟩] scope pos) (some (.Name y py)) spos.line X.env=pure true) (N:List Str) (B:BlkOk X N ix scope) (hc:X.calm=true)
  (hi:PI X tg iter wi) (hg:∀ cl s H fp,PG (blkCx X N scope cl s H fp) tg g) (ht:∀ cl s H fp,PTs (blkCx X N scope cl s H fp) ifs tt) (he:∀ cl s H fp,PE (blkCx X N scope cl s H fp) elt te)
  (hs:∀ x,foldedSetIterable iter X.env x=pure x:=by intro _; rfl) (hf:X.fn y=true∨X.env.scope.names.lookup y=some .local:=by first | exact .inl rfl | exact .inr rfl | assumption):
  PS X (.Assign [.Name y py] (.ListComp elt [⟨tg,iter,ifs,0⟩] scope pos) spos) (sComp k ix wi g tt te):=by
 intro pins s σ H D I h
 obtain ⟨cl,e1,e2,e3⟩:=rO I B
 rw [exec_Assign_Name_used _ _ _ _ hsw]
 refine wpAny_bind (wpAny_standAt (wpAny_bind ?_))
 show wpAny _ X.A (do let _ ← comprehension (.ListComp elt [⟨tg,iter,ifs,0⟩] scope pos) scope X.env _ (newList []) false (eval iter X.env) (some (assign (.Name y py) X.env))) _ _ s
 refine wpAny_bind (wpAny_mono (wpAny_comprehension_free (use:=some (assign (.Name y py) X.env)) (Q:=fun _ s'=>SP X pins D .next s') rfl hs e1 B.kind (l9 B) ?_) (fun _ s' hq=>wpAny_pure (wpAny_pure hq)) fun _ _ e=>e)
 refine qo (RR:=fun acc C=>compPost (model X.prog X.w) X.A X.xe (some (assign (.Name y py) X.env)) (fun _ s'=>SP X pins D .next s') acc C) B hc hi hg ht he e2 e3 I h (fun s2 H2 fp σ3 H3 s3 I2 f2 J q=>?_) (fun a C x s' q=>q)
 obtain ⟨m,hn,_⟩:=J.loc
 have I3:Inv X pins σ H3 { s3 with heap:=s3.heap }:=rN I2 J f2 (Heap.SameBut.refl _ _)
 show wpAny _ X.A (assign (.Name y py) X.env (.ref _)) _ _ _
 refine wpAny_assign_Name (oR (v:=.ref _) I3 hN hy hx rfl (fun s4 I4 ⟨a,sb4,ha⟩=>?_) hf)
 have hlt:a < s2.heap.objs.size:=by
  rcases ha with rfl | ha
  · exact I2.lt
  · obtain ⟨v,z⟩:=I2.cell _ _ ha
    exact z.lt
 have hCa:s2.heap.objs.size+1≠a:=Nat.ne_of_gt (Nat.lt_succ_of_lt hlt)
 refine ⟨m,hn.sameBut sb4 hCa,fun h' sb=>?_⟩
 refine ⟨_,H3,I4.turned (t':=s4.toks) (it:=s2.heap.objs.size+1) (fun b o hb e=>(sb.2 b hb).trans e) J.free (Nat.ne_of_gt (Nat.lt_succ_of_lt I2.lt)) (.inr (Nat.le_trans I2.sz (Nat.le_succ _))) (fun x c e=>?_) (fun p hp=>?_),q⟩
 · obtain ⟨v,z⟩:=I2.cell x c e
   exact Nat.ne_of_lt (Nat.lt_succ_of_lt z.lt)
 · exact Nat.ne_of_lt (Nat.lt_succ_of_lt (Heap.lt_size (I2.pin p hp).1))
end
end L2
namespace L2
open PySem PySem.Spec PyProof.Rows
def bnd {α:Type}:Option α→(α→Prop)→Prop
 | some a,k=>k a
 | none,_=>False
theorem bo {α:Type} {o:Option α} {a:α} {k:α→Prop} (h:o=some a) (q:k a):bnd o k:=by subst h; exact q
theorem bB {α:Type} {o:Option α} {k:α→Prop} (h:bnd o k):∃ a,o=some a∧k a:=by
 cases o with
 | none=>exact h.elim
 | some a=>exact ⟨a,rfl,h⟩
theorem bY {α:Type} {a:α} {k:α→Prop}:bnd (some a) k=k a:=rfl
def unM:Option HO→Option (List V)
 | some (.lst xs)=>some xs
 | _=>none
def unL:Option HO→Option (List V)
 | some (.lst xs)=>some xs
 | some (.frz _ (.lst xs))=>some xs
 | _=>none
def unS:Option HO→Option (List V)
 | some (.lst xs)=>some xs
 | some (.frz _ (.lst xs))=>some xs
 | some (.tup xs)=>some xs
 | _=>none
theorem jb {o:Option HO} {xs:List V} (h:unM o=some xs):o=some (.lst xs):=by
 unfold unM at h; split at h
 · cases h; rfl
 · cases h
theorem tN {K:PySem.W.Frag} {H:Hp} {p:Addr} {xs:List V} (h:unL (H p)=some xs):SqL K H p xs:=by
 unfold unL at h; split at h
 · rename_i e; cases h; exact .inl (.inl e)
 · rename_i o _ e; cases h; exact .inl (.inr ⟨_,e⟩)
 · cases h
theorem kB {K:PySem.W.Frag} {H:Hp} {p:Addr} {xs:List V} (h:unS (H p)=some xs):SqL K H p xs∨SqT K H p xs:=by
 unfold unS at h; split at h
 · rename_i e; cases h; exact .inl (.inl (.inl e))
 · rename_i o _ e; cases h; exact .inl (.inl (.inr ⟨_,e⟩))
 · rename_i e; cases h; exact .inr (.inl (.inl e))
 · cases h
mutual
inductive DV (K:PySem.W.Frag) (H:Hp):V→PyData→Prop
 | non:DV K H .non .none
 | bl (b:Bool):DV K H (.bl b) (.bool b)
 | int (i:Int):DV K H (.int i) (.int i)
 | str (x:Str):DV K H (.str x) (.str x)
 | lst {a:Addr} {xs:List V} {ds:List PyData}:SqL K H a xs→DVs K H xs ds→DV K H (.ref a) (.list ds)
 | tup {a:Addr} {xs:List V} {ds:List PyData}:SqT K H a xs→DVs K H xs ds→DV K H (.ref a) (.tuple ds)
inductive DVs (K:PySem.W.Frag) (H:Hp):List V→List PyData→Prop
 | nil:DVs K H [] []
 | cons {x:V} {d:PyData} {xs:List V} {ds:List PyData}:DV K H x d→DVs K H xs ds→DVs K H (x::xs) (d::ds)
end
section
variable {X:Cx} {pins:List (Addr × Obj)} {σ:St} {H:Hp} {s:Shared}
mutual
theorem DV.reads (I:Inv X pins σ H s):∀ {x:V} {d:PyData} {v:Value},DV X.K H x d→RelV x v→∃ as,Reads s.heap v d as
 | _,_,_,.non,r=>by cases r; exact ⟨_,.none⟩
 | _,_,_,.bl b,r=>by cases r; exact ⟨_,.bool b⟩
 | _,_,_,.int i,r=>by obtain ⟨t,rfl⟩:=r; exact ⟨_,.int i t⟩
 | _,_,_,.str x,r=>by obtain ⟨t,rfl⟩:=r; exact ⟨_,.str x t⟩
 | _,_,_,.lst (a:=a) h hs,r=>by
  cases r
  obtain ⟨its,rv,p,_⟩:=I.list h
  obtain ⟨as,q⟩:=DVs.reads I hs rv
  obtain ⟨o,h1,h2,n,h3⟩:=p.isList
  exact ⟨_,.list h1 h2 h3 q⟩
 | _,_,_,.tup (a:=a) h hs,r=>by
  cases r
  obtain ⟨its,rv,p,_⟩:=I.tuple h
  obtain ⟨as,q⟩:=DVs.reads I hs rv
  obtain ⟨o,h1,h2,n,h3⟩:=p
  exact ⟨_,.tuple h1 h2 h3 q⟩
theorem DVs.reads (I:Inv X pins σ H s):∀ {xs:List V} {ds:List PyData} {us:List Value},DVs X.K H xs ds→Vals xs us→∃ as,ReadsAll s.heap us ds as
 | _,_,_,.nil,.nil=>⟨_,.nil⟩
 | _,_,_,.cons h hs,.cons r rs=>by
  obtain ⟨as,q⟩:=DV.reads I h r
  obtain ⟨bs,q2⟩:=DVs.reads I hs rs
  exact ⟨_,.cons q q2⟩
end
end
theorem DVs.ints {K:PySem.W.Frag} {H:Hp}:∀ ns:List Int,DVs K H (ns.map V.int) (ns.map PyData.int)
 | []=>.nil
 | n::r=>.cons (.int n) (DVs.ints r)
theorem uz:∀ ns ms:List Int,PyData.eqvAll (ns.map PyData.int) (ms.map PyData.int)=decide (ns=ms):=PySem.W.ked_eqvAll
theorem qp:∀ ns:List Int,PyData.canLayAll0 (ns.map PyData.int)=true
 | []=>rfl
 | n::r=>by rw [List.map_cons,PyData.canLayAll0,qp r]; rfl
theorem mW:∀ ns:List Int,PyData.depthAll (ns.map PyData.int)=0
 | []=>rfl
 | n::r=>by rw [List.map_cons,PyData.depthAll,mW r]; rfl
theorem ma (ns:List Int):SeqAt.shaped (.list (ns.map PyData.int))=true:=by
 simp [SeqAt.shaped,PyData.canLay0,qp,PyData.depth,mW]
def cAdd:R2
 | .int i,.int j,H,Q=>Q (.int (i+j)) H
 | .str i,.str j,H,Q=>i.length+j.length≤sizeLine∧Q (.str (i++j)) H
 | .ref l,.ref b,H,Q=>bnd (unM (H l)) fun xs=>bnd (unM (H b)) fun zs=>xs.length+zs.length≤sizeLine∧∀ p,H p=none→Q (.ref p) (upd H p (.lst (xs++zs)))
 | _,_,_,_=>False
def cSub:R2
 | .int i,.int j,H,Q=>Q (.int (i - j)) H
 | _,_,_,_=>False
def cMul:R2
 | .int i,.int j,H,Q=>CMul i j∧Q (.int (i*j)) H
 | _,_,_,_=>False
def cDiv:R2
 | .int i,.int j,H,Q=>CDiv i j∧Q (.int (i / j)) H
 | _,_,_,_=>False
def cMod:R2
 | .int i,.int j,H,Q=>0 < j∧Q (.int (i % j)) H
 | _,_,_,_=>False
def cPow:R2
 | .int i,.int j,H,Q=>CPow i j∧Q (.int (i^j.toNat)) H
 | _,_,_,_=>False
def cCmp (g:Int→Int→Bool):R2
 | .int i,.int j,H,Q=>Q (.bl (g i j)) H
 | _,_,_,_=>False
def rEqD (K:PySem.W.Frag):R2:=fun x y H Q=>∃ d e,DV K H x d∧DV K H y e∧SeqAt.shaped d=true∧SeqAt.shaped e=true∧Q (.bl (PyData.eqv d e)) H
def rNeD (K:PySem.W.Frag):R2:=fun x y H Q=>∃ d e,DV K H x d∧DV K H y e∧SeqAt.shaped d=true∧SeqAt.shaped e=true∧Q (.bl (!PyData.eqv d e)) H
def cEq (K:PySem.W.Frag):R2
 | .int i,.int j,H,Q=>Q (.bl (decide (i=j))) H
 | .bl i,.bl j,H,Q=>Q (.bl (decide (i=j))) H
 | .str i,.str j,H,Q=>Q (.bl (decide (i=j))) H
 | x,y,H,Q=>rEqD K x y H Q
def cNe (K:PySem.W.Frag):R2
 | .int i,.int j,H,Q=>Q (.bl (!decide (i=j))) H
 | .bl i,.bl j,H,Q=>Q (.bl (!decide (i=j))) H
 | .str i,.str j,H,Q=>Q (.bl (!decide (i=j))) H
 | x,y,H,Q=>rNeD K x y H Q
def rInD (K:PySem.W.Frag) (neg:Bool):R2:=fun x y H Q=>∃ d ds,DV K H x d∧(DV K H y (.list ds)∨DV K H y (.tuple ds))∧PyData.canLayAll0 ds=true∧PyData.canLay0 d=true∧min (PyData.depthAll ds) d.depth≤62∧
 Q (.bl (if neg then !ds.any (fun y=>PyData.eqv y d) else ds.any fun y=>PyData.eqv y d)) H
def keyOf:V→Option Key
 | .int i=>some (.inl i)
 | .str x=>some (.inr x)
 | _=>none
def unD:Option HO→Option (List (Key × V))
 | some (.dK kvs)=>some kvs
 | _=>none
def cIn (K:PySem.W.Frag) (neg:Bool):R2
 | .ref a,y,H,Q=>rInD K neg (.ref a) y H Q
 | x,.ref p,H,Q=>(match unD (H p) with
  | some kvs=>bnd (keyOf x) fun k=>Q (.bl (if neg then !(valV kvs k).isSome else (valV kvs k).isSome)) H
  | none=>bnd (unS (H p)) fun xs=>flatV x=true∧xs.all flatV=true∧Q (.bl (if neg then !inV x xs else inV x xs)) H)
 | .str i,.str j,H,Q=>Q (.bl (if neg then !(!(Builtin.Str.occurrences j i 0 j.length 1).isEmpty) else !(Builtin.Str.occurrences j i 0 j.length 1).isEmpty)) H
 | _,_,_,_=>False
def cIx:R2
 | .ref p,y,H,Q=>(match unD (H p) with
  | some kvs=>bnd (keyOf y) fun k=>bnd (valV kvs k) fun v=>Q v H
  | none=>match y with
   | .int i=>bnd (unS (H p)) fun xs=>bnd (atI xs i) fun v=>Q v H
   | _=>False)
 | .str z,.int i,H,Q=>z.length≤sizeLine∧bnd (atI z.cps.toList i) fun c=>Q (.str ⟨#[c]⟩) H
 | _,_,_,_=>False
theorem qr {o:Option HO} {kvs:List (Key × V)} (h:unD o=some kvs):o=some (.dK kvs):=by
 unfold unD at h; split at h
 · cases h; rfl
 · cases h
theorem qt {x:V} {k:Key} (h:keyOf x=some k):x=kV k:=by
 unfold keyOf at h; split at h
 · cases h; rfl
 · cases h; rfl
 · cases h
section
variable {X:Cx} {a b c:Expr} {ta tb tc:TE} {pos:Pos}
theorem aj:OpR X (binaryOp .Add) cAdd:=by
 intro pins s σ H x y v u Q I rx ry h
 unfold cAdd at h
 split at h
 · exact wj pins s σ H _ _ v u Q I rx ry ⟨_,_,rfl,rfl,h⟩
 · exact sj pins s σ H _ _ v u Q I rx ry ⟨_,_,rfl,rfl,h.1,h.2⟩
 · obtain ⟨xs,e1,h⟩:=bB h
   obtain ⟨zs,e2,h⟩:=bB h
   exact wr pins s σ H _ _ v u Q I rx ry ⟨_,_,xs,zs,rfl,rfl,jb e1,jb e2,h.1,h.2⟩
 · exact h.elim
theorem rP:OpR X (binaryOp .Sub) cSub:=by
 intro pins s σ H x y v u Q I rx ry h
 unfold cSub at h
 split at h
 · exact wk pins s σ H _ _ v u Q I rx ry ⟨_,_,rfl,rfl,h⟩
 · exact h.elim
theorem cy:OpR X (binaryOp .Mult) cMul:=by
 intro pins s σ H x y v u Q I rx ry h
 unfold cMul at h
 split at h
 · exact wl pins s σ H _ _ v u Q I rx ry ⟨_,_,rfl,rfl,h.1,h.2⟩
 · exact h.elim
theorem dG:OpR X (binaryOp .FloorDiv) cDiv:=by
 intro pins s σ H x y v u Q I rx ry h
 unfold cDiv at h
 split at h
 · exact vj pins s σ H _ _ v u Q I rx ry ⟨_,_,rfl,rfl,h.1,h.2⟩
 · exact h.elim
theorem aW:OpR X (binaryOp .Mod) cMod:=by
 intro pins s σ H x y v u Q I rx ry h
 unfold cMod at h
 split at h
 · exact wm pins s σ H _ _ v u Q I rx ry ⟨_,_,rfl,rfl,h.1,h.2⟩
 · exact h.elim
theorem oq {op:CmpOp} {g:Int→Int→Bool} (o:OpR X (compareOp op) (rI0 fun i j=>.bl (g i j))):OpR X (compareOp op) (cCmp g):=by
 intro pins s σ H x y v u Q I rx ry h
 unfold cCmp at h
 split at h
 · exact o pins s σ H _ _ v u Q I rx ry ⟨_,_,rfl,rfl,h⟩
 · exact h.elim
theorem mX:OpR X (compareOp .Lt) (cCmp fun i j=>decide (i < j)):=oq w6
theorem mY:OpR X (compareOp .LtE) (cCmp fun i j=>decide (i≤j)):=oq w9
theorem jW:OpR X (compareOp .Gt) (cCmp fun i j=>decide (j < i)):=oq xa
theorem wv (hu:X.A.units+64 < cLine):OpR X (compareOp .Eq) (rEqD X.K):=by
 intro pins s σ H x y v u Q I rx ry h
 obtain ⟨d,e,h1,h2,h3,h4,q⟩:=h
 obtain ⟨as,r1⟩:=h1.reads I rx
 obtain ⟨bs,r2⟩:=h2.reads I ry
 exact eq_dataH r1 r2 h3 h4 hu ⟨.bl _,H,I,rfl,q⟩
theorem ww (hu:X.A.units+64 < cLine):OpR X (compareOp .NotEq) (rNeD X.K):=by
 intro pins s σ H x y v u Q I rx ry h
 obtain ⟨d,e,h1,h2,h3,h4,q⟩:=h
 obtain ⟨as,r1⟩:=h1.reads I rx
 obtain ⟨bs,r2⟩:=h2.reads I ry
 exact ne_dataH r1 r2 h3 h4 hu ⟨.bl _,H,I,rfl,q⟩
theorem bA (hu:X.A.units+64 < cLine):OpR X (compareOp .Eq) (cEq X.K):=by
 intro pins s σ H x y v u Q I rx ry h
 unfold cEq at h
 split at h
 · refine sf pins s σ H _ _ v u Q I rx ry ⟨rfl,?_⟩
   simpa using h
 · refine sf pins s σ H _ _ v u Q I rx ry ⟨rfl,?_⟩
   simpa using h
 · refine sf pins s σ H _ _ v u Q I rx ry ⟨rfl,?_⟩
   simpa using h
 · exact wv hu pins s σ H _ _ v u Q I rx ry h
theorem fP (hu:X.A.units+64 < cLine):OpR X (compareOp .NotEq) (cNe X.K):=by
 intro pins s σ H x y v u Q I rx ry h
 unfold cNe at h
 split at h
 · refine si pins s σ H _ _ v u Q I rx ry ⟨rfl,?_⟩
   simpa using h
 · refine si pins s σ H _ _ v u Q I rx ry ⟨rfl,?_⟩
   simpa using h
 · refine si pins s σ H _ _ v u Q I rx ry ⟨rfl,?_⟩
   simpa using h
 · exact ww hu pins s σ H _ _ v u Q I rx ry h
theorem wx (hu:X.A.units+64 < cLine):OpR X (compareOp .In) (rInD X.K false):=by
 intro pins s σ H x y v u Q I rx ry h
 obtain ⟨d,ds,h1,h2,h3,h4,h5,q⟩:=h
 obtain ⟨as,r1⟩:=h1.reads I rx
 rcases h2 with h2 | h2
 · obtain ⟨bs,r2⟩:=h2.reads I ry
   exact SeqAt.in_list_reads r2 r1 h3 h4 (by omega) ⟨.bl _,H,I,rfl,q⟩
 · obtain ⟨bs,r2⟩:=h2.reads I ry
   exact SeqAt.in_tuple_reads r2 r1 h3 h4 (by omega) ⟨.bl _,H,I,rfl,q⟩
theorem kC (hu:X.A.units+64 < cLine):OpR X (compareOp .In) (cIn X.K false):=by
 intro pins s σ H x y v u Q I rx ry h
 unfold cIn at h
 split at h
 · exact wx hu pins s σ H _ _ v u Q I rx ry h
 · rename_i p hx
   split at h
   · rename_i kvs e
     obtain ⟨k,ek,q⟩:=bB h
     cases (show u=Value.ref p from ry)
     have g:DGet H p x (valV kvs k):=by rw [qt ek]; exact DGet.k (qr e)
     exact xt (Nat.lt_of_le_of_lt (Nat.add_le_add_left (by decide:1≤64) _) hu) I g rx fun s' I'=>⟨.bl _,H,I',rfl,q⟩
   · obtain ⟨xs,e,f1,f2,q⟩:=bB h
     exact oZ pins s σ H _ _ v u Q I rx ry ⟨p,xs,rfl,kB e,f1,f2,q⟩
 · exact tu pins s σ H _ _ v u Q I rx ry ⟨_,_,rfl,rfl,h⟩
 · exact h.elim
end
end L2
namespace L2
open PySem PySem.Spec PyProof.Rows
section
variable {X:Cx} {a b c:Expr} {ta tb tc:TE} {pos:Pos}
theorem aR (hu:X.A.units+64 < cLine):IxR X cIx:=by
 intro value slice pins s σ H x y v u Q I rx ry h hs
 cases x with
 | ref p=>
  unfold cIx at h
  dsimp only at h
  split at h
  · rename_i kvs e
    obtain ⟨k,ek,h⟩:=bB h
    obtain ⟨z,ez,q⟩:=bB h
    cases (show v=Value.ref p from rx)
    have g:DGet H p y (some z):=by rw [qt ek,← ez]; exact DGet.k (qr e)
    exact tail_any (rl I g) PySem.F.slot_dict_getitem.lookup (tJ (Nat.lt_of_le_of_lt (Nat.add_le_add_left (by decide:1≤64) _) hu) I g ry fun w' s3 I3 rw'=>⟨z,H,I3,rw',q⟩) hs
  · split at h
    · obtain ⟨xs,e,h⟩:=bB h
      obtain ⟨z,ez,q⟩:=bB h
      rcases kB (K:=X.K) e with r | r
      · exact rM value slice pins s σ H _ _ v u Q I rx ry ⟨p,xs,_,z,rfl,rfl,r,ez,q⟩ hs
      · exact wn value slice pins s σ H _ _ v u Q I rx ry ⟨p,xs,_,z,rfl,rfl,r,ez,q⟩ hs
    · exact h.elim
 | str zz=>
  cases y with
  | int i=>
   obtain ⟨hz,h⟩:=(show zz.length≤sizeLine∧bnd (atI zz.cps.toList i) fun c=>Q (.str ⟨#[c]⟩) H from h)
   obtain ⟨z,ez,q⟩:=bB h
   exact wo value slice pins s σ H _ _ v u Q I rx ry ⟨_,_,z,rfl,rfl,hz,ez,q⟩ hs
  | _=>exact False.elim h
 | _=>exact False.elim h
def kLen:List V→Hp→VK→Prop
 | [.ref p],H,Q=>(match unD (H p) with
  | some kvs=>Q (.int kvs.length) H
  | none=>bnd (unS (H p)) fun xs=>Q (.int xs.length) H)
 | [.str z],H,Q=>z.length≤sizeLine∧Q (.int z.length) H
 | _,_,_=>False
theorem bI:CallR X (.builtin "len") kLen:=by
 intro pins s σ H xs us Q I r h
 unfold kLen at h
 split at h
 · split at h
   · rename_i kvs e
     exact tK pins s σ H _ us Q I r ⟨_,kvs,rfl,qr e,h⟩
   · obtain ⟨ys,e,q⟩:=bB h
     exact dZ pins s σ H _ us Q I r ⟨_,ys,rfl,kB e,q⟩
 · exact qf pins s σ H _ us Q I r ⟨_,rfl,h.1,h.2⟩
 · exact h.elim
def kAbs:List V→Hp→VK→Prop
 | [.int i],H,Q=>Q (.int (if i < 0 then -i else i)) H
 | _,_,_=>False
def kMin:List V→Hp→VK→Prop
 | [.int i,.int j],H,Q=>Q (.int (if j < i then j else i)) H
 | _,_,_=>False
theorem jC (hc:X.calm=true):CallR X (.builtin "min") kMin:=by
 intro pins s σ H xs us Q I r h
 unfold kMin at h
 split at h
 · exact tz hc pins s σ H _ us Q I r ⟨_,_,rfl,h⟩
 · exact h.elim
def kMax:List V→Hp→VK→Prop
 | [.int i,.int j],H,Q=>Q (.int (if j > i then j else i)) H
 | _,_,_=>False
def kList:List V→Hp→VK→Prop
 | [.ref p],H,Q=>bnd (unS (H p)) fun ys=>∀ l,H l=none→Q (.ref l) (upd H l (.lst ys))
 | _,_,_=>False
theorem j7:CallR X (.type "list") kList:=by
 intro pins s σ H xs us Q I r h
 unfold kList at h
 split at h
 · obtain ⟨ys,e,q⟩:=bB h
   exact qh pins s σ H _ us Q I r ⟨_,ys,rfl,kB e,q⟩
 · exact h.elim
def fQ (H:Hp):V→Option String
 | .non=>some "NoneType"
 | .bl _=>some "bool"
 | .int _=>some "int"
 | .str _=>some "str"
 | .ref p=>match H p with
  | some (.lst _)=>some "list"
  | some (.frz _ (.lst _))=>some "list"
  | some (.tup _)=>some "tuple"
  | some (.dK _)=>some "dict"
  | _=>none
 | _=>none
def isTy (t n:String):Bool:=t==n||(t=="bool"&&n=="int")
def lp (n:String):Bool:=["int","bool","str","list","tuple","dict"].contains n
theorem tO {K:PySem.W.Frag} {H:Hp} {x:V} {t:String} (h:fQ H x=some t):TyOf K H x (.type t)∧["NoneType","int","bool","str","list","tuple","dict"].contains t=true:=by
 cases x with
 | non=>cases h; exact ⟨.non,by decide⟩
 | bl b=>cases h; exact ⟨.bl b,by decide⟩
 | int i=>cases h; exact ⟨.int i,by decide⟩
 | str i=>cases h; exact ⟨.str i,by decide⟩
 | byt _=>cases h
 | flt _=>cases h
 | ty _=>cases h
 | ref p=>
  unfold fQ at h
  dsimp only at h
  split at h
  · rename_i e; cases h; exact ⟨.lst e,by decide⟩
  · rename_i e; cases h; exact ⟨.frz e,by decide⟩
  · rename_i e; cases h; exact ⟨.tup e,by decide⟩
  · rename_i e; cases h; exact ⟨.dK e,by decide⟩
  · cases h
theorem wy (K:PySem.W.Frag):∀ t∈["NoneType","int","bool","str","list","tuple","dict"],∀ n∈["int","bool","str","list","tuple","dict"],PySem.W.kitOne K (.type t) (.type n)=some (isTy t n):=by
 intro t ht n hn
 simp only [List.mem_cons,List.not_mem_nil,or_false] at ht hn
 rcases ht with rfl | rfl | rfl | rfl | rfl | rfl | rfl <;> rcases hn with rfl | rfl | rfl | rfl | rfl | rfl <;> rfl
def kIsi:List V→Hp→VK→Prop
 | [x,.ty n],H,Q=>lp n=true∧bnd (fQ H x) fun t=>Q (.bl (isTy t n)) H
 | _,_,_=>False
theorem ee:CallR X (.builtin "isinstance") kIsi:=by
 intro pins s σ H xs us Q I r h
 unfold kIsi at h
 split at h
 · obtain ⟨hn,h⟩:=h
   obtain ⟨t,et,q⟩:=bB h
   obtain ⟨u,w,rfl,ru,rw'⟩:=p5 r
   cases rw'
   obtain ⟨ty,ht⟩:=tO (K:=X.K) et
   exact tF I ru ty (wy X.K t (by simpa using ht) _ (by simpa [lp] using hn)) fun tk=>⟨.bl _,H,I.tok tk,rfl,q⟩
 · exact h.elim
def i5:V→List V→Hp→VK→Prop
 | .ref l,[y],H,Q=>bnd (unM (H l)) fun xs=>xs.length < sizeLine∧Q .non (upd H l (.lst (xs++[y])))
 | _,_,_,_=>False
theorem mZ:MtR X "list.append" i5:=by
 intro pins s σ H x vs v us Q I rx rv h
 unfold i5 at h
 split at h
 · obtain ⟨xs,e,h1,q⟩:=bB h
   exact o6 pins s σ H _ _ v us Q I rx rv ⟨_,xs,_,rfl,rfl,jb e,h1,q⟩
 · exact h.elim
def lq:V→List V→Hp→VK→Prop
 | .ref l,[.ref b],H,Q=>bnd (unM (H l)) fun xs=>bnd (unM (H b)) fun zs=>xs.length+zs.length≤sizeLine∧Q .non (upd H l (.lst (xs++zs)))
 | _,_,_,_=>False
theorem sB:MtR X "list.extend" lq:=by
 intro pins s σ H x vs v us Q I rx rv h
 unfold lq at h
 split at h
 · obtain ⟨xs,e,h⟩:=bB h
   obtain ⟨zs,e2,h1,q⟩:=bB h
   exact tI pins s σ H _ _ v us Q I rx rv ⟨_,_,xs,zs,rfl,rfl,jb e,jb e2,h1,q⟩
 · exact h.elim
theorem mm {K:PySem.W.Frag} {H:Hp} {p:Addr} {xs:List V} (h:H p=some (.lst xs)):tyV K "list" (.ref p) H:=.inl ⟨rfl,_,SqL.of h⟩
def cSl:V→Option Int→Option Int→Hp→VK→Prop
 | .ref p,lo,hi,H,Q=>bnd (unL (H p)) fun xs=>∀ l,H l=none→Q (.ref l) (upd H l (.lst (cutV xs lo hi)))
 | _,_,_,_,_=>False
theorem xu:SlR X cSl:=by
 intro pins s σ H x v vl vu lo hi sl Q I rx hs pl pu h
 unfold cSl at h
 split at h
 · obtain ⟨xs,e,q⟩:=bB h
   exact vq pins s σ H _ v vl vu lo hi sl Q I rx hs pl pu ⟨_,xs,rfl,tN e,q⟩
 · exact h.elim
end
structure Cal (P:Program) (w:World) (K:PySem.W.Frag) (mg:Str→Option Value) (base:Heap) (k:Nat) (x:Str) (ps:List Str) (sp:Sp):Prop where
 ex:∃ (f:Addr) (fd:FuncData),FnOk P w K mg base CX0 k f fd ps sp∧mg x=some (.ref f)∧PySem.W.keepIn K (.ref f)=true∧Binds K fd ps []
theorem ba {X:Cx} {k n:Nat} {x:Str} {ps:List Str} {sp:Sp} {p pos:Pos} {e:Expr} {es:List Expr} {t:TA} (C:Cal X.prog X.w X.K X.mg X.base k x ps sp) (hr:Room n X.A) (hk:k≤n) (hg:Gl X x) (ha:PA X (e::es) t)
  (hdb:(x==("__debug__":Str))=false:=by decide) (he:starEach (e::es) X.env=(false,eval e X.env)::starEach es X.env:=by rfl) (hpl:(backTo pos (starEach es X.env)).any (·.1)=false:=by rfl):
  PE X (.Call (.Name x p) (e::es) [] pos) (tCall sp [] E0 t):=by
 obtain ⟨f,fd,F,hm,hkp,hb⟩:=C.ex
 exact rK F (hr.mono hk) hg hm hkp hb .nil su ha hdb he hpl
end L2
namespace L2
open PySem PySem.Spec PyProof.Rows
theorem bM:bootBuiltins "len"=some (.builtin "len"):=by decide+kernel
theorem m3:bootBuiltins "min"=some (.builtin "min"):=by decide+kernel
theorem aE:bootBuiltins "isinstance"=some (.builtin "isinstance"):=by decide+kernel
theorem jX:bootBuiltins "list"=some (.type "list"):=by decide+kernel
theorem m4:bootBuiltins "int"=some (.type "int"):=by decide+kernel
theorem vy:bootBuiltins "bool"=some (.type "bool"):=by decide+kernel
theorem ei:bootBuiltins "str"=some (.type "str"):=by decide+kernel
theorem mn:bootBuiltins "tuple"=some (.type "tuple"):=by decide+kernel
def compN (scope:Scope):List Str:=(scope.names.filter fun p=>p.2==.local||p.2==.cell||p.2==.free).map (·.1)
def m5 (N:List Str) (scope:Scope):List (Option Nat):=(compN scope).map fun x=>if scope.names.lookup x==some .free then N.findIdx? (· ==x) else none
def isCF:Option NameKind→Bool
 | some .cell=>true
 | some .free=>true
 | _=>false
theorem wz {X:Cx} {scope:Scope} (h1:scope.kind=.function) (h2:(scope.names.map (·.1)).Nodup) (h3:(scope.names.all fun p=>p.2 != .free||isCF (X.env.kindOf p.1))=true):BlkOk X (compN scope) (m5 X.N scope) scope where
 kind:=h1
 nd:=h2.sublist (List.Sublist.map _ (List.filter_sublist ..))
 len:=by unfold m5; rw [List.length_map]
 names:=h2
 free:=fun x hx=>by
  have:=List.all_eq_true.mp h3 (x,.free) hx
  simp only [bne_self_eq_false,Bool.false_or] at this
  unfold isCF at this
  split at this
  · rename_i e; exact .inl e
  · rename_i e; exact .inr e
  · cases this
 at_:=fun j i x e1 e2=>by
  unfold m5 at e2
  rw [List.getElem?_map,e1] at e2
  simp only [Option.map_some,Option.some.injEq] at e2
  split at e2
  · rename_i hf
    obtain ⟨hlt,hp,_⟩:=List.findIdx?_eq_some_iff_getElem.mp e2
    have hx:X.N[i]? =some x:=by
     rw [List.getElem?_eq_getElem hlt]
     have:X.N[i]=x:=by simpa using hp
     rw [this]
    refine ⟨hx,PySem.mem_of_lookup (by simpa using hf)⟩
  · cases e2
end L2
namespace L2
open PySem PySem.Spec PyProof.Rows
section
variable {t u:TS} {D:Ends} {σ:St} {H:Hp} {Q:VK} {ta tb:TE} {R:Bool→Hp→Prop} {c d:TT}
theorem aM:tSeq t u D σ H=t { D with nx:=u D } σ H:=rfl
theorem eu:tNext D σ H=D.nx σ H:=rfl
theorem fV {g:TG}:tAsg ta g D σ H=ta σ H fun x H1=>g x σ H1 D.nx:=rfl
theorem bi {i:Nat} {v:V} {k:St→Hp→Prop}:gName i v σ H k=k (σ.set i (some v)) H:=rfl
theorem gs {i:Nat}:tVar i σ H Q=∃ v,σ[i]? =some (some v)∧Q v H:=rfl
theorem w_c {v:V}:tC v σ H Q=Q v H:=rfl
theorem jc {r:R2}:tOp r ta tb σ H Q=ta σ H fun x H1=>tb σ H1 fun y H2=>r x y H2 Q:=rfl
theorem fW:tRet ta D σ H=ta σ H D.rt:=rfl
theorem eC:tRetN D σ H=D.rt .non H:=rfl
theorem eD:tDrop ta D σ H=ta σ H fun _ H1=>D.nx σ H1:=rfl
theorem aO:tIfS c t u D σ H=c σ H fun b H1=>if b=true then t D σ H1 else u D σ H1:=rfl
theorem eE:tTest ta σ H R=ta σ H fun x H'=>∃ k,x=.bl k∧R k H':=rfl
theorem w_b:tB ta σ H R=ta σ H fun x H'=>∃ k,x=.bl k∧R k H':=rfl
theorem w_not:tNot c σ H R=c σ H fun k H1=>R (!k) H1:=rfl
theorem gt:tAnd c d σ H R=c σ H fun k H1=>if k=true then d σ H1 R else R false H1:=rfl
theorem jd:tOr c d σ H R=c σ H fun k H1=>if k=true then R true H1 else d σ H1 R:=rfl
theorem eF:tNotV ta σ H Q=ta σ H fun x H1=>∃ c,x=.bl c∧Q (.bl (!c)) H1:=rfl
theorem eH:tAndV ta tb σ H Q=ta σ H fun x H1=>∃ c,x=.bl c∧if c=true then tb σ H1 Q else Q (.bl false) H1:=rfl
theorem gu:tOrV ta tb σ H Q=ta σ H fun x H1=>∃ c,x=.bl c∧if c=true then Q (.bl true) H1 else tb σ H1 Q:=rfl
theorem gw {k:List V→Hp→Prop}:tNil σ H k=k [] H:=rfl
theorem eI {tr:TA} {k:List V→Hp→Prop}:tCons ta tr σ H k=ta σ H fun x H1=>tr σ H1 fun xs H2=>k (x::xs) H2:=rfl
theorem je {r:List V→Hp→VK→Prop} {tr:TA}:tCB r tr σ H Q=tr σ H fun vs H1=>r vs H1 Q:=rfl
theorem eJ {sp:Sp} {dvs:List V} {E:XK} {tr:TA}:tCall sp dvs E tr σ H Q=tr σ H fun vs H1=>sp (vs++dvs) H1 Q E:=rfl
theorem gy {tr:TA}:tTup tr σ H Q=tr σ H fun xs H1=>xs.length≤sizeLine∧∀ p,H1 p=none→Q (.ref p) (upd H1 p (.tup xs)):=rfl
theorem gz {tr:TA}:tLst tr σ H Q=tr σ H fun xs H1=>xs.length≤sizeLine∧∀ p,H1 p=none→Q (.ref p) (upd H1 p (.lst xs)):=rfl
theorem jf {K:PySem.W.Frag} {T:String} {r:V→List V→Hp→VK→Prop} {tr:TA}:tBM K T r ta tr σ H Q=ta σ H fun x H1=>tyV K T x H1∧tr σ H1 fun xs H2=>r x xs H2 Q:=rfl
theorem gA {K:PySem.W.Frag} {T:String} {r:V→List V→Hp→VK→Prop}:xq K T r ta σ H Q=ta σ H fun x H1=>tyV K T x H1∧r x [] H1 Q:=rfl
theorem dc:tTrue σ H R=R true H:=rfl
theorem eK:wu σ H Q=∀ p,H p=none→Q (.ref p) (upd H p (.dK [])):=rfl
theorem eM {td ty tv:TE}:sDPut td ty tv D σ H=tv σ H fun v H1=>td σ H1 fun x H2=>ty σ H2 fun y H3=>∃ a H4,x=.ref a∧DPut H3 a y v H4∧D.nx σ H4:=rfl
theorem gB {i j:Int}:cAdd (.int i) (.int j) H Q=Q (.int (i+j)) H:=rfl
theorem gD {i j:Int}:cSub (.int i) (.int j) H Q=Q (.int (i - j)) H:=rfl
theorem gE {i j:Int}:cMul (.int i) (.int j) H Q=(CMul i j∧Q (.int (i*j)) H):=rfl
theorem gF {i j:Int}:cDiv (.int i) (.int j) H Q=(CDiv i j∧Q (.int (i / j)) H):=rfl
theorem gG {i j:Int}:cMod (.int i) (.int j) H Q=(0 < j∧Q (.int (i % j)) H):=rfl
theorem gH {g:Int→Int→Bool} {i j:Int}:cCmp g (.int i) (.int j) H Q=Q (.bl (g i j)) H:=rfl
theorem gI {K:PySem.W.Frag} {i j:Int}:cEq K (.int i) (.int j) H Q=Q (.bl (decide (i=j))) H:=rfl
theorem gJ {K:PySem.W.Frag} {i j:Int}:cNe K (.int i) (.int j) H Q=Q (.bl (!decide (i=j))) H:=rfl
theorem gK {K:PySem.W.Frag} {i j:Bool}:cEq K (.bl i) (.bl j) H Q=Q (.bl (decide (i=j))) H:=rfl
theorem gL {K:PySem.W.Frag} {i j:Bool}:cNe K (.bl i) (.bl j) H Q=Q (.bl (!decide (i=j))) H:=rfl
theorem mq {p:Addr} {i:Int} {xs:List V} (h:H p=some (.tup xs)):cIx (.ref p) (.int i) H Q=bnd (atI xs i) fun v=>Q v H:=by
 unfold cIx; dsimp only; rw [h]; rfl
theorem xf {p:Addr} {i:Int} {xs:List V} (h:H p=some (.lst xs)):cIx (.ref p) (.int i) H Q=bnd (atI xs i) fun v=>Q v H:=by
 unfold cIx; dsimp only; rw [h]; rfl
theorem gM {i:Int}:kAbs [.int i] H Q=Q (.int (if i < 0 then -i else i)) H:=rfl
theorem gN {i j:Int}:kMin [.int i,.int j] H Q=Q (.int (if j < i then j else i)) H:=rfl
theorem ip {p:Addr} {xs:List V} (h:H p=some (.lst xs)):kLen [.ref p] H Q=Q (.int xs.length) H:=by
 unfold kLen; dsimp only; rw [h]; rfl
theorem wA {p:Addr} {xs:List V} (h:H p=some (.tup xs)):kLen [.ref p] H Q=Q (.int xs.length) H:=by
 unfold kLen; dsimp only; rw [h]; rfl
theorem qu {p:Addr} {xs:List V} {y:V} (h:H p=some (.lst xs)):i5 (.ref p) [y] H Q=(xs.length < sizeLine∧Q .non (upd H p (.lst (xs++[y])))):=by
 unfold i5; dsimp only; rw [h]; rfl
theorem o9:∀ ns:List Int,(ns.map V.int).all flatV=true
 | []=>rfl
 | n::r=>by rw [List.map_cons,List.all_cons,o9 r]; rfl
theorem qv (i:Int):∀ ns:List Int,inV (.int i) (ns.map V.int)=decide (i∈ns)
 | []=>by simp [inV]
 | n::r=>by
  have ih:=qv i r
  unfold inV at ih ⊢
  rw [List.map_cons,List.any_cons,ih]
  show ((n==i)||decide (i∈r))=decide (i∈n::r)
  rw [Bool.eq_iff_iff,Bool.or_eq_true,beq_iff_eq,decide_eq_true_eq,decide_eq_true_eq,List.mem_cons]
  exact ⟨fun h=>h.elim (fun e=>.inl e.symm) .inr,fun h=>h.elim (fun e=>.inl e.symm) .inr⟩
end
def LoopR (J:It) (g:TG) (tb:TS) (D:Ends) (σ:St) (H1:Hp):Prop:=∃ W:Nat→Nat→St→Hp→Prop,(∃ m,W 0 m σ H1)∧∀ i m σ H,W i m σ H→
 (J.stop i H∧D.nx σ H)∨(J.go i H∧∃ N:St→Hp→Prop,(∀ σ' H',N σ' H'→∃ m',m' < m∧W (i+1) m' σ' H')∧∀ x H',J.yld i H x H'→g x σ H' fun σ2 H2=>tb { D with nx:=N,ct:=N,bk:=D.nx } σ2 H2)
def CompR (J:It) (g:TG) (tt:TT) (te:TE) (fin:Addr→Hp→Prop) (σ0:St) (H1:Hp):Prop:=∀ l,H1 l=none→
 ∃ W:Nat→Nat→St→Hp→Prop,(∃ m,W 0 m σ0 (upd H1 l (.lst [])))∧∀ i m σ' H',W i m σ' H'→
  (J.stop i H'∧fin l H')∨(J.go i H'∧∃ N:St→Hp→Prop,(∀ σ'' H'',N σ'' H''→∃ m',m' < m∧W (i+1) m' σ'' H'')∧∀ x H2,J.yld i H' x H2→g x σ' H2 fun σ2 H3=>tt σ2 H3 fun b H4=>
   if b=true then te σ2 H4 fun y H5=>∃ ys,H5 l=some (.lst ys)∧ys.length < sizeLine∧N σ2 (upd H5 l (.lst (ys++[y]))) else N σ2 H4)
section
variable {K:PySem.W.Frag} {g:TG} {tb:TS} {D:Ends} {σ:St} {H:Hp} {tl:TE} {ta:TA} {ix:List (Option Nat)} {tt:TT} {te:TE} {k:Nat} {Q:VK}
theorem eP:tFor (iList K tl) g tb D σ H=tl σ H fun x H1=>∃ a,x=.ref a∧(∃ xs,SqL K H1 a xs)∧LoopR (Itl K a) g tb D σ H1:=rfl
theorem cz:tFor (io ta) g tb D σ H=ta σ H fun vs H1=>∃ j:Int,vs=[.int j]∧ -(2^62)≤j∧j < 2^62∧LoopR (Itr 0 j.toNat) g tb D σ H1:=rfl
theorem de:tFor (se ta) g tb D σ H=ta σ H fun vs H1=>∃ i j:Int,vs=[.int i,.int j]∧(-(2^62)≤i∧i < 2^62∧ -(2^62)≤j∧j < 2^62)∧LoopR (Itr i (j - i).toNat) g tb D σ H1:=rfl
theorem cA:tComp ix (iList K tl) g tt te σ H Q=tl σ H fun x H1=>∃ a,x=.ref a∧(∃ xs,SqL K H1 a xs)∧CompR (Itl K a) g tt te (fun l H'=>Q (.ref l) H') (subσ ix σ) H1:=rfl
theorem cp:tComp ix (io ta) g tt te σ H Q=ta σ H fun vs H1=>∃ j:Int,vs=[.int j]∧ -(2^62)≤j∧j < 2^62∧CompR (Itr 0 j.toNat) g tt te (fun l H'=>Q (.ref l) H') (subσ ix σ) H1:=rfl
theorem cq:sComp k ix (iList K tl) g tt te D σ H=tl σ H fun x H1=>∃ a,x=.ref a∧(∃ xs,SqL K H1 a xs)∧CompR (Itl K a) g tt te (fun l H'=>D.nx (σ.set k (some (.ref l))) H') (subσ ix σ) H1:=rfl
theorem bN:sComp k ix (io ta) g tt te D σ H=ta σ H fun vs H1=>∃ j:Int,vs=[.int j]∧ -(2^62)≤j∧j < 2^62∧CompR (Itr 0 j.toNat) g tt te (fun l H'=>D.nx (σ.set k (some (.ref l))) H') (subσ ix σ) H1:=rfl
theorem sC {lo:Int} {n:Nat} {fin:Addr→Hp→Prop} {σ0:St} {H1:Hp} (Pv:Addr→Nat→St→Hp→Prop) (h0:∀ l,H1 l=none→Pv l 0 σ0 (upd H1 l (.lst [])))
  (hs:∀ l i σ H,H1 l=none→i < n→Pv l i σ H→g (.int (lo+i)) σ H fun σ2 H3=>tt σ2 H3 fun b H4=>if b=true then te σ2 H4 fun y H5=>∃ ys,H5 l=some (.lst ys)∧ys.length < sizeLine∧Pv l (i+1) σ2 (upd H5 l (.lst (ys++[y]))) else Pv l (i+1) σ2 H4)
  (hd:∀ l σ H,H1 l=none→Pv l n σ H→fin l H):CompR (Itr lo n) g tt te fin σ0 H1:=by
 intro l hl0
 refine ⟨fun i m σ H=>m=n - i∧i≤n∧Pv l i σ H,⟨n,by simp,Nat.zero_le _,h0 l hl0⟩,?_⟩
 rintro i m σ H ⟨rfl,hi,p⟩
 by_cases hlt:i < n
 · refine .inr ⟨hlt,Pv l (i+1),fun σ' H' p'=>⟨n - (i+1),by omega,rfl,hlt,p'⟩,fun x H' y=>?_⟩
   obtain ⟨e,y⟩:=y
   subst e y
   exact hs l i σ _ hl0 hlt p
 · have e:i=n:=by omega
   subst e
   exact .inl ⟨Nat.le_refl _,hd l σ H hl0 p⟩
theorem kD {a:Addr} {xs:List V} {fin:Addr→Hp→Prop} {σ0:St} {H1:Hp} (Pv:Addr→Nat→St→Hp→Prop) (h0:∀ l,H1 l=none→Pv l 0 σ0 (upd H1 l (.lst []))) (hq:∀ l i σ H,H1 l=none→i≤xs.length→Pv l i σ H→SqL K H a xs)
  (hs:∀ l i x σ H,H1 l=none→xs[i]? =some x→Pv l i σ H→g x σ H fun σ2 H3=>tt σ2 H3 fun b H4=>if b=true then te σ2 H4 fun y H5=>∃ ys,H5 l=some (.lst ys)∧ys.length < sizeLine∧Pv l (i+1) σ2 (upd H5 l (.lst (ys++[y]))) else Pv l (i+1) σ2 H4)
  (hd:∀ l σ H,H1 l=none→Pv l xs.length σ H→fin l H):CompR (Itl K a) g tt te fin σ0 H1:=by
 intro l hl0
 refine ⟨fun i m σ H=>m=xs.length - i∧i≤xs.length∧Pv l i σ H,⟨xs.length,by simp,Nat.zero_le _,h0 l hl0⟩,?_⟩
 rintro i m σ H ⟨rfl,hi,p⟩
 have q:=hq l i σ H hl0 hi p
 by_cases hlt:i < xs.length
 · refine .inr ⟨⟨xs,xs[i],q,by simp [hlt]⟩,Pv l (i+1),fun σ' H' p'=>⟨xs.length - (i+1),by omega,rfl,hlt,p'⟩,fun x H' y=>?_⟩
   obtain ⟨e,y⟩:=y
   subst e
   exact hs l i x σ _ hl0 (y xs q) p
 · have e:i=xs.length:=by omega
   subst e
   exact .inl ⟨⟨xs,q,Nat.le_refl _⟩,hd l σ H hl0 p⟩
theorem xg {p q:Addr} {xs ys:List Int} (hp:H p=some (.lst (xs.map V.int))) (hq:H q=some (.lst (ys.map V.int))) (h:Q (.bl (decide (xs=ys))) H):cEq K (.ref p) (.ref q) H Q:=by
 show rEqD K (.ref p) (.ref q) H Q
 refine ⟨.list (xs.map PyData.int),.list (ys.map PyData.int),.lst (SqL.of hp) (.ints xs),.lst (SqL.of hq) (.ints ys),ma xs,ma ys,?_⟩
 rw [PyData.eqv,uz]
 exact h
theorem qw {p:Addr} {xs:List V} (hp:H p=some (.lst xs)) (h:∀ l,H l=none→Q (.ref l) (upd H l (.lst xs))):kList [.ref p] H Q:=by
 unfold kList
 dsimp only
 rw [hp]
 exact h
end
theorem bQ {X:Cx} {N:List Str} {ix:List (Option Nat)} {scope:Scope} (h1:scope.kind=.function) (h2:(scope.names.map (·.1)).Nodup) (h3:(scope.names.all fun p=>p.2 != .free||isCF (X.env.kindOf p.1))=true) (h4:N=compN scope) (h5:ix=m5 X.N scope):BlkOk X N ix scope:=by
 subst h4 h5
 exact wz h1 h2 h3
def kLenS (K:PySem.W.Frag):List V→Hp→VK→Prop:=fun xs H Q=>∃ p ys,xs=[.ref p]∧(SqL K H p ys∨SqT K H p ys)∧Q (.int ys.length) H
structure Bt (mg:Str→Option Value):Prop where
 len_:mg "len"=none
 abs_:mg "abs"=none
 min_:mg "min"=none
 max_:mg "max"=none
 sorted_:mg "sorted"=none
 any_:mg "any"=none
 isinstance_:mg "isinstance"=none
 list_:mg "list"=none
 int_:mg "int"=none
 bool_:mg "bool"=none
 str_:mg "str"=none
 tuple_:mg "tuple"=none
 reversed_:mg "reversed"=none
 set_:mg "set"=none
 range_:mg "range"=none
 zip_:mg "zip"=none
end L2
namespace L2
open PySem PySem.Spec PyProof.Rows
theorem Vals.get':∀ {xs:List V} {us:List Value} {i:Nat} {u:Value},Vals xs us→us[i]? =some u→∃ x,xs[i]? =some x∧RelV x u
 | _,_,_,_,.nil,h=>by simp at h
 | _,_,0,_,.cons r _,h=>by simp at h; subst h; exact ⟨_,rfl,r⟩
 | _,_,i+1,_,.cons _ t,h=>by
  obtain ⟨x,hx,r⟩:=Vals.get' (i:=i) t (by simpa using h)
  exact ⟨x,by simpa using hx,r⟩
section
variable {X:Cx} {pins:List (Addr × Obj)} {σ:St} {H:Hp} {s s':Shared}
theorem Inv.kept' (I:Inv X pins σ H s) (k:∀ b u,s.heap.get? b=some u→s'.heap.get? b=some u) (ho:s'.os=s.os) (hg:AllBare s'.gens):Inv X pins σ H s':=
 I.call' (ch:=[]) ho (Un.kept k) (I.hok.kept k) hg fun b z=>absurd z (by simp)
theorem Inv.walked {l:Addr} {o:Obj} (I:Inv X pins σ H s) (hm:Moved [s.heap.objs.size] (fun a b=>b=a) { s with heap:=s.heap.push o } s'):Inv X pins σ H s':=by
 refine I.kept' (fun b u e=>hm.heap b u (fun z=>?_) (Heap.get?_push_of_some _ e)) hm.os (by rw [show s'.gens=s.gens from hm.gens]; exact I.bare)
 have:b=s.heap.objs.size:=by simpa using z
 exact absurd (Heap.lt_size e) (by rw [this]; exact Nat.lt_irrefl _)
end
end L2
namespace L2
open PySem PySem.Spec PyProof.Rows
open Builtin Builtin.Str
theorem or:∀ {ts:List Str} {us:List Value},Vals (ts.map V.str) us→∃ l:List (Str × Tok),us=strValues l∧l.map (·.1)=ts
 | [],_,.nil=>⟨[],rfl,rfl⟩
 | t::ts,_,.cons r rs=>by
  obtain ⟨l,rfl,e⟩:=or (ts:=ts) rs
  obtain ⟨u,rfl⟩:=r
  exact ⟨(t,u)::l,rfl,by rw [List.map_cons,e]⟩
theorem pb:∀ (l:List (Str × Tok)),Vals ((l.map (·.1)).map V.str) (strValues l)
 | []=>.nil
 | (t,u)::l=>.cons ⟨u,rfl⟩ (pb l)
section
variable {X:Cx}
def kFind:V→List V→Hp→VK→Prop
 | .str x,[.str y],H,Q=>Q (.int (Txt.find x y)) H
 | _,_,_,_=>False
theorem uA:MtR X "str.find" kFind:=by
 intro pins s σ H x vs v us Q I rx rv h
 unfold kFind at h
 split at h
 · obtain ⟨t,rfl⟩:=rx
   obtain ⟨u,rfl,ru⟩:=fz rv
   obtain ⟨t2,rfl⟩:=ru
   exact SC.find ⟨.int _,H,I.tok _,⟨_,rfl⟩,h⟩
 · exact h.elim
def fR:V→List V→Hp→VK→Prop
 | .str x,[.str y],H,Q=>(y.length==0)=false∧x.length≤sizeLine∧(Txt.split x y).length≤sizeLine∧∀ l,H l=none→Q (.ref l) (upd H l (.lst ((Txt.split x y).map V.str)))
 | _,_,_,_=>False
theorem gj:MtR X "str.split" fR:=by
 intro pins s σ H x vs v us Q I rx rv h
 unfold fR at h
 split at h
 · rename_i x y
   obtain ⟨t,rfl⟩:=rx
   obtain ⟨u,rfl,ru⟩:=fz rv
   obtain ⟨t2,rfl⟩:=ru
   obtain ⟨hy,hx,hn,q⟩:=h
   have fin:∀ (l:List (Str × Tok)) (k:Nat),l.map (·.1)=Txt.split x y→EP X pins σ Q (.ref s.heap.objs.size) { s with heap:=s.heap.push { cls:=.type "list",data:=.seq (strValues l).toArray },toks:=k }:=fun l k e=>by
    refine ⟨.ref s.heap.objs.size,_,I.lnew (t':=k) (ys:=(Txt.split x y).map V.str) (its:=strValues l) ?_ (by rw [List.length_map]; exact hn),rfl,q _ I.fresh⟩
    rw [← e]
    exact pb l
   cases h1:(decide (x.length < y.length)||decide (strKind x < strKind y))
   · cases hf:(occurrences x y 0 x.length (x.length+1)).isEmpty
     · have e3:Txt.split x y=partsBetween x (occurrences x y 0 x.length (x.length+1)) y.length:=(if_neg (ne_true_of_eq_false h1)).trans (if_neg (ne_true_of_eq_false hf))
       refine call_meets F.slot_str_split (typeIs_str _ _ _) F.entry_str_split (F.args_str_split_2 _ _) (meets_str_split_sep x y t t2 h1 hy hf hx (by rw [← e3]; exact hn)) ?_
       show wants _ _ _ { s with toks:=_,heap:=s.heap.push { cls:=.type "list",data:=.seq (strsFrom s.toks (partsBetween x (occurrences x y 0 x.length (x.length+1)) y.length)).toArray } }
       rw [strsFrom_eq]
       exact fin (numbered s.toks _) _ ((numbered_texts _ _).trans e3.symm)
     · exact call_meets F.slot_str_split (typeIs_str _ _ _) F.entry_str_split (F.args_str_split_2 _ _) (meets_str_split_not_found x y t t2 h1 hy hf)
        (fin [(x,t)] s.toks ((if_neg (ne_true_of_eq_false h1)).trans (if_pos hf)).symm)
   · exact call_meets F.slot_str_split (typeIs_str _ _ _) F.entry_str_split (F.args_str_split_2 _ _) (meets_str_split_cannot_occur x y t t2 h1)
      (fin [(x,t)] s.toks (if_pos h1).symm)
 · exact h.elim
def gd:V→Option Int→Option Int→Hp→VK→Prop
 | .ref p,lo,hi,H,Q=>cSl (.ref p) lo hi H Q
 | .str z,lo,hi,H,Q=>z.length≤sizeLine∧Q (.str (Txt.slice z lo hi)) H
 | _,_,_,_,_=>False
theorem iq:SlR X gd:=by
 intro pins s σ H x v vl vu lo hi sl Q I rx hs pl pu h
 cases x with
 | ref p=>exact xu pins s σ H _ v vl vu lo hi sl Q I rx hs pl pu h
 | str z=>
  obtain ⟨hz,q⟩:=(show z.length≤sizeLine∧Q (.str (Txt.slice z lo hi)) H from h)
  obtain ⟨t,rfl⟩:=rx
  have fin:∀ t' k,EP X pins σ Q (.str (Txt.slice z lo hi) t') { s with toks:=k }:=fun t' k=>⟨.str _,H,I.tok k,⟨t',rfl⟩,q⟩
  refine ⟨"str",_,F.slot_str_getitem.lookup,typeIs_str _ _ _,?_⟩
  cases pl with
  | none=>
   cases pu with
   | none=>exact wpAny_getItem_str_slice (l:=none) (u:=none) (st:=none) hs rfl (post_val_or_str ⟨Nat.le_trans (Txt.slice_le z _ _) hz,fin⟩)
   | int j tj=>exact wpAny_getItem_str_slice (l:=none) (u:=some (j,tj)) (st:=none) hs rfl (post_val_or_str ⟨Nat.le_trans (Txt.slice_le z _ _) hz,fin⟩)
  | int i ti=>
   cases pu with
   | none=>exact wpAny_getItem_str_slice (l:=some (i,ti)) (u:=none) (st:=none) hs rfl (post_val_or_str ⟨Nat.le_trans (Txt.slice_le z _ _) hz,fin⟩)
   | int j tj=>exact wpAny_getItem_str_slice (l:=some (i,ti)) (u:=some (j,tj)) (st:=none) hs rfl (post_val_or_str ⟨Nat.le_trans (Txt.slice_le z _ _) hz,fin⟩)
 | _=>exact False.elim h
def Its (x:Str):It:=⟨fun i _=>i < x.cps.size,fun i H v H'=>H'=H∧∃ c,x.cps[i]? =some c∧v=.str ⟨#[c]⟩,fun i _=>x.cps.size≤i⟩
theorem qx {P:Program} {w:World} {K:PySem.W.Frag} {tg:Expr} {x:Str} {t:Tok} (it:Addr) (ty:String) (hty:["enumerate","zip","dict_itemiterator","dict_reverseitemiterator","odict_iterator","itertools.zip_longest","itertools.pairwise"].contains ty=false)
  (W:∀ A:Around,A.handled=none→Walks P w A it [it] [it] x.cps.size (SignAt x) (fun i h=>h.IsStrIter it ty x t i))
  (slf:∀ (A:Around) (i:Nat) (s:Shared) (Q:Value→Shared→Prop) (E:Value→Shared→Prop),s.heap.IsStrIter it ty x t i→Q (.ref it) s→wpAny (model P w) A (pyIter (.ref it)) Q E s):
  Turn P w K tg (Its x) [it] it (fun i h=>i≤x.cps.size∧h.IsStrIter it ty x t i) where
 mem:=by simp
 obj:=fun i h st b hb=>by
  have e:b=it:=by simpa using hb
  subst e
  obtain ⟨_,o,e,c,d⟩:=st
  exact ⟨o,e,fun v z=>by rw [d] at z; cases z⟩
 keep:=fun i h h' st k=>by
  obtain ⟨hi,o,e,c,d⟩:=st
  exact ⟨hi,o,k it (by simp) o e,c,d⟩
 item:=by
  intro X hP hw hK hc i pins s σ H E I hf st hg
  subst hP hw hK
  obtain ⟨f0,f1,f2,f3,f4,f5⟩:=hf it (by simp)
  have hlt:i < x.cps.size:=hg
  refine (W X.A (I.ok.hd hc)).item i s _ _ hlt st.2 fun v h' tk hv st' kk=>?_
  obtain ⟨c,u,hcu,rfl⟩:=hv
  have I1:Inv X pins σ H { s with heap:=h',toks:=tk }:=I.turned (fun b o hb e=>kk b o (by simpa using hb) e) f0 f1 f3 f4 f5
  obtain ⟨o,e,c',d⟩:=id st'
  exact ⟨_,rfl,pY (s:={ s with heap:=h',toks:=tk }) e c' d hty ⟨.str ⟨#[c]⟩,H,I1,⟨u,rfl⟩,⟨rfl,c,hcu,rfl⟩,⟨hlt,st'⟩,fun b hb=>(hf b hb).1⟩⟩
 done:=by
  intro X hP hw hK hc i pins s σ H E I hf st hg
  subst hP hw hK
  obtain ⟨f0,f1,f2,f3,f4,f5⟩:=hf it (by simp)
  have hle:x.cps.size≤i:=hg
  have e:i=x.cps.size:=Nat.le_antisymm st.1 hle
  subst e
  exact (W X.A (I.ok.hd hc)).done s _ _ st.2 fun h' tk kk=>⟨rfl,I.turned (fun b o hb e=>kk b o (by simpa using hb) e) f0 f1 f3 f4 f5⟩
 self:=fun A i s Q E st h=>slf A i s Q E st.2 h
def iStr (tl:TE):TI:=fun σ H R=>tl σ H fun x H1=>∃ z,x=.str z∧R (Its z) H1
theorem tP {tg l:Expr} {tl:TE} (hl:PE X l tl):PI X tg l (iStr tl):=by
 intro pins s σ H R I h
 refine thn (hl pins s σ H _ I h) fun v s1 ⟨x,H1,I1,r1,q1⟩=>?_
 obtain ⟨z,rfl,q⟩:=q1
 obtain ⟨t,rfl⟩:=r1
 have fin:∀ b∈[s1.heap.objs.size],FpOk X pins H1 b:=fun b hb=>by
  have e:b=s1.heap.objs.size:=by simpa using hb
  subst e
  exact I1.fpOk (Nat.le_refl _) (I1.hok.fresh (Nat.le_refl _))
 cases ha:z.cps.all (· < 128)
 · refine wpAny_pyIter_wide ha ⟨s1.heap.objs.size,[s1.heap.objs.size],_,Its z,H1,rfl,I1.kept (t':=s1.toks) fun b o e=>Heap.get?_push_of_some _ e,qx (t:=t) _ "str_iterator" (by decide) (fun A' hA=>Walks.strWide hA _ z t) (fun A i s Q E st hq=>wpAny_pyIter_striter_wide st hq),⟨Nat.zero_le _,_,Heap.get?_push_size _ rfl,rfl,rfl⟩,fin,q⟩
 · refine wpAny_pyIter_ascii ha ⟨s1.heap.objs.size,[s1.heap.objs.size],_,Its z,H1,rfl,I1.kept (t':=s1.toks) fun b o e=>Heap.get?_push_of_some _ e,qx (t:=t) _ "str_ascii_iterator" (by decide) (fun A' hA=>Walks.strAscii hA _ z t) (fun A i s Q E st hq=>wpAny_pyIter_striter_ascii st hq),⟨Nat.zero_le _,_,Heap.get?_push_size _ rfl,rfl,rfl⟩,fin,q⟩
end
section
variable {K:PySem.W.Frag} {g:TG} {tb:TS} {D:Ends} {σ:St} {H:Hp} {tl:TE} {ix:List (Option Nat)} {tt:TT} {te ta:TE} {k:Nat} {Q:VK}
theorem jg {r:V→Option Int→Option Int→Hp→VK→Prop} {a b:TO}:tSl r te a b σ H Q=te σ H fun x H1=>a σ H1 fun l H2=>b σ H2 fun u H3=>r x l u H3 Q:=rfl
theorem eQ {R:Option Int→Hp→Prop}:tPart te σ H R=te σ H fun x H1=>∃ i,x=.int i∧R (some i) H1:=rfl
theorem cr {R:Option Int→Hp→Prop}:cx σ H R=R none H:=rfl
theorem eS {to ti:TE} {t:TSet} {v:V} {R:St→Hp→Prop}:gSub to ti t v σ H R=to σ H fun o H1=>ti σ H1 fun i H2=>t o i v H2 fun H3=>R σ H3:=rfl
theorem jh {r:V→Hp→VK→Prop}:tUn r te σ H Q=te σ H fun x H1=>r x H1 Q:=rfl
theorem eV:tFor (iStr tl) g tb D σ H=tl σ H fun x H1=>∃ z,x=.str z∧LoopR (Its z) g tb D σ H1:=rfl
theorem df:tComp ix (iStr tl) g tt te σ H Q=tl σ H fun x H1=>∃ z,x=.str z∧CompR (Its z) g tt te (fun l H'=>Q (.ref l) H') (subσ ix σ) H1:=rfl
theorem cu:sComp k ix (iStr tl) g tt te D σ H=tl σ H fun x H1=>∃ z,x=.str z∧CompR (Its z) g tt te (fun l H'=>D.nx (σ.set k (some (.ref l))) H') (subσ ix σ) H1:=rfl
theorem fA {x:Str}:tyV K "str" (.str x) H:=rfl
theorem gO {i j:Str}:cEq K (.str i) (.str j) H Q=Q (.bl (decide (i=j))) H:=rfl
theorem gP {i j:Str}:cNe K (.str i) (.str j) H Q=Q (.bl (!decide (i=j))) H:=rfl
theorem eW {z:Str}:kLen [.str z] H Q=(z.length≤sizeLine∧Q (.int z.length) H):=rfl
theorem dw {i j:Str}:cAdd (.str i) (.str j) H Q=(i.length+j.length≤sizeLine∧Q (.str (i++j)) H):=rfl
theorem u8 {z:Str} {i:Int}:cIx (.str z) (.int i) H Q=(z.length≤sizeLine∧bnd (atI z.cps.toList i) fun c=>Q (.str ⟨#[c]⟩) H):=rfl
theorem eX {x y:Str}:kFind (.str x) [.str y] H Q=Q (.int (Txt.find x y)) H:=rfl
theorem i6 {x y:Str}:fR (.str x) [.str y] H Q=((y.length==0)=false∧x.length≤sizeLine∧(Txt.split x y).length≤sizeLine∧∀ l,H l=none→Q (.ref l) (upd H l (.lst ((Txt.split x y).map V.str)))):=rfl
theorem p7 {p:Addr} {lo hi:Option Int} {xs:List V} (hp:H p=some (.lst xs)) (h:∀ l,H l=none→Q (.ref l) (upd H l (.lst (cutV xs lo hi)))):gd (.ref p) lo hi H Q:=by
 show bnd (unL (H p)) _
 rw [hp]
 exact h
end
end L2
namespace L2
open PySem PySem.Spec PyProof.Rows
def cBitI (g:Int→Int→Int):R2
 | .int i,.int j,H,Q=>Q (.int (g i j)) H
 | _,_,_,_=>False
def cShr:R2
 | .int i,.int j,H,Q=>0≤j∧Q (.int (i / 2^j.toNat)) H
 | _,_,_,_=>False
section
variable {H:Hp} {Q:VK} {i j:Int}
theorem iz {g:Int→Int→Int}:cBitI g (.int i) (.int j) H Q=Q (.int (g i j)) H:=rfl
theorem jD:cShr (.int i) (.int j) H Q=(0≤j∧Q (.int (i / 2^j.toNat)) H):=rfl
end
end L2
namespace L2
open PySem PySem.Spec PyProof.Rows
section
variable {X:Cx}
def kInt:List V→Hp→VK→Prop
 | [.int i],H,Q=>Q (.int i) H
 | [.bl k],H,Q=>Q (.int (if k then 1 else 0)) H
 | _,_,_=>False
def vz:V→List V→Hp→VK→Prop
 | .int i,[],H,Q=>Q (.int (Builtin.Int.intBits i:Nat)) H
 | _,_,_,_=>False
def cRepL:R2
 | .ref l,.int k,H,Q=>bnd (unM (H l)) fun xs=> -(2^63)≤k∧k < 2^63∧xs.length*k.toNat≤sizeLine∧∀ p,H p=none→Q (.ref p) (upd H p (.lst (List.replicate k.toNat xs).flatten))
 | _,_,_,_=>False
theorem uB:OpR X (binaryOp .Mult) cRepL:=by
 intro pins s σ H x y v u Q I rx ry h
 unfold cRepL at h
 split at h
 · obtain ⟨xs,e,h1,h2,h3,q⟩:=bB h
   exact wt pins s σ H _ _ v u Q I rx ry ⟨_,_,xs,rfl,rfl,jb e,h1,h2,h3,q⟩
 · exact h.elim
def kAll:List V→Hp→VK→Prop
 | [.ref p],H,Q=>bnd (unL (H p)) fun ys=>∃ bs:List Bool,ys=bs.map V.bl∧Q (.bl (bs.all id)) H
 | _,_,_=>False
theorem tQ (bs:List Bool):(List.range bs.length).all (fun i=>bs.getD i false)=bs.all id:=by
 rw [Bool.eq_iff_iff,List.all_eq_true,List.all_eq_true]
 constructor
 · intro h b hb
   obtain ⟨i,hi,e⟩:=List.mem_iff_getElem.mp hb
   have:=h i (List.mem_range.mpr hi)
   rw [List.getD,List.getElem?_eq_getElem hi,e] at this
   exact this
 · intro h i hi
   have hi':i < bs.length:=List.mem_range.mp hi
   have:=h bs[i] (List.getElem_mem hi')
   simpa [List.getD,hi'] using this
theorem tR:bootBuiltins "all"=some (.builtin "all"):=by decide+kernel
theorem pc (hc:X.calm=true):CallR X (.builtin "all") kAll:=by
 intro pins s σ H xs us Q I r h
 unfold kAll at h
 split at h
 · rename_i p
   obtain ⟨ys,e,bs,rfl,q⟩:=bB h
   obtain ⟨u,rfl,ru⟩:=fz r
   cases ru
   obtain ⟨its,rv,pl,hz⟩:=I.list (tN e)
   have hl:=rv.length
   rw [List.length_map] at hl
   have hlt:p < s.heap.objs.size:=by
    obtain ⟨o,h1,_⟩:=pl.isList
    exact Heap.lt_size h1
   refine call_all_walkS (wpAny_pyIter_list pl.isList ?_)
   refine ⟨s.heap.objs.size,_,_,_,its.toArray.size,_,_,fun i=>bs.getD i false,rfl,(Walks.list (A:=X.A.in1) (I.ok.hd hc) s.heap.objs.size p (Nat.ne_of_lt hlt) its.toArray).toS,⟨⟨_,Heap.get?_push_size _ rfl,rfl,rfl⟩,pl.isList.push _⟩,?_,fun s' hm=>?_⟩
   · intro i v s1 Q1 E1 hP hQ
     have hv:its[i]? =some v:=by simpa using hP
     obtain ⟨x,hx,rx⟩:=rv.get' hv
     obtain ⟨b,hb,rfl⟩:∃ b,bs[i]? =some b∧V.bl b=x:=by simpa using hx
     cases rx
     refine wpAny_truthy_bool ?_
     have e3:bs.getD i false=b:=by simp [List.getD,hb]
     rw [← e3]
     exact hQ
   · refine ⟨.bl _,H,I.walked (l:=p) hm,?_,q⟩
     have e2:its.toArray.size=bs.length:=by rw [List.size_toArray]; exact hl.symm
     rw [e2,tQ]
     rfl
 · exact h.elim
def Itd (hi:Int) (n:Nat):It:=⟨fun i _=>i < n,fun i H x H'=>H'=H∧x=.int (hi - i),fun i _=>n≤i⟩
def iRngD (ta:TA):TI:=fun σ H R=>ta σ H fun vs H1=>∃ i j:Int,vs=[.int i,.int j,.int (-1)]∧(-(2^60)≤i∧i < 2^60∧ -(2^60)≤j∧j < 2^60)∧R (Itd i (i - j).toNat) H1
end
section
variable {K:PySem.W.Frag} {g:TG} {tb:TS} {D:Ends} {σ:St} {H:Hp} {ta:TA} {Q:VK}
theorem iA {k:Bool}:kInt [.bl k] H Q=Q (.int (if k then 1 else 0)) H:=rfl
theorem iB {i:Int}:kInt [.int i] H Q=Q (.int i) H:=rfl
theorem eY {i:Int}:vz (.int i) [] H Q=Q (.int (Builtin.Int.intBits i:Nat)) H:=rfl
theorem u9 {p:Addr} {bs:List Bool} (hp:H p=some (.lst (bs.map V.bl))) (h:Q (.bl (bs.all id)) H):kAll [.ref p] H Q:=by
 show bnd (unL (H p)) _
 rw [hp]
 exact bo (a:=bs.map V.bl) rfl ⟨bs,rfl,h⟩
theorem wB {p:Addr} {xs:List V} {k:Int} (hp:H p=some (.lst xs)) (h0:0≤k) (h1:k≤1000) (hn:xs.length≤1) (h:∀ l,H l=none→Q (.ref l) (upd H l (.lst (List.replicate k.toNat xs).flatten))):cRepL (.ref p) (.int k) H Q:=by
 show bnd (unM (H p)) _
 rw [hp]
 refine bo (a:=xs) rfl ⟨by omega,by omega,?_,h⟩
 refine Nat.le_of_lt (aS (Nat.le_trans (Nat.mul_le_mul_right _ hn) ?_))
 omega
theorem gk:tFor (iRngD ta) g tb D σ H=ta σ H fun vs H1=>∃ i j:Int,vs=[.int i,.int j,.int (-1)]∧(-(2^60)≤i∧i < 2^60∧ -(2^60)≤j∧j < 2^60)∧LoopR (Itd i (i - j).toNat) g tb D σ H1:=rfl
end
end L2
namespace L2
open PySem PySem.Spec PyProof.Rows
section
variable {X:Cx}
def Ite (K:PySem.W.Frag) (a:Addr):It:=
 ⟨fun i H=>∃ xs x,SqL K H a xs∧xs[i]? =some x,
  fun i H v H'=>∃ T x,v=.ref T∧H T=none∧H'=upd H T (.tup [.int i,x])∧∀ xs,SqL K H a xs→xs[i]? =some x,
  fun i H=>∃ xs,SqL K H a xs∧xs.length≤i⟩
def iEnum (K:PySem.W.Frag) (ta:TA):TI:=fun σ H R=>ta σ H fun vs H1=>∃ a,vs=[.ref a]∧(∃ xs,SqL K H1 a xs)∧R (Ite K a) H1
end
section
variable {K:PySem.W.Frag} {g:TG} {tb:TS} {D:Ends} {σ:St} {H:Hp} {ta:TA} {Q:VK} {ix:List (Option Nat)} {tt:TT} {te:TE} {k:Nat}
theorem iC:tFor (iEnum K ta) g tb D σ H=ta σ H fun vs H1=>∃ a,vs=[.ref a]∧(∃ xs,SqL K H1 a xs)∧LoopR (Ite K a) g tb D σ H1:=rfl
theorem gm:tComp ix (iEnum K ta) g tt te σ H Q=ta σ H fun vs H1=>∃ a,vs=[.ref a]∧(∃ xs,SqL K H1 a xs)∧CompR (Ite K a) g tt te (fun l H'=>Q (.ref l) H') (subσ ix σ) H1:=rfl
theorem fb:sComp k ix (iEnum K ta) g tt te D σ H=ta σ H fun vs H1=>∃ a,vs=[.ref a]∧(∃ xs,SqL K H1 a xs)∧CompR (Ite K a) g tt te (fun l H'=>D.nx (σ.set k (some (.ref l))) H') (subσ ix σ) H1:=rfl
end
end L2
namespace L2
open PySem PySem.Spec PyProof.Rows
end L2
namespace L2
open PySem PySem.Spec PyProof.Rows
end L2
namespace L2
open PySem PySem.Spec PyProof.Rows
def rngL (i j:Int):List Int:=(List.range (j - i).toNat).map fun (k:Nat)=>i+(k:Int)
theorem qy (i j:Int):(rngL i j).length=(j - i).toNat:=by unfold rngL; simp
theorem md:∀ {xs:List V} {us:List Value},xs.length=us.length→(∀ (i:Nat) x u,xs[i]? =some x→us[i]? =some u→RelV x u)→Vals xs us
 | [],[],_,_=>.nil
 | [],_::_,h,_=>by simp at h
 | _::_,[],h,_=>by simp at h
 | x::xs,u::us,h,f=>.cons (f 0 x u rfl rfl) (md (by simpa using h) fun i y e h1 h2=>f (i+1) y e (by simpa using h1) (by simpa using h2))
theorem uC {i j:Int} {acc:Array Value} (h:ItemsOf (fun k v=>∃ t,v=.int (i+k*1) t) acc (j - i).toNat):Vals ((rngL i j).map V.int) acc.toList:=by
 refine md (by rw [List.length_map,qy,Array.length_toList]; exact h.1.symm) fun k x u hx hu=>?_
 obtain ⟨t,rfl⟩:=h.2 k u (by simpa using hu)
 unfold rngL at hx
 rw [List.map_map,List.getElem?_map] at hx
 by_cases hk:k < (j - i).toNat
 · rw [List.getElem?_range hk] at hx
   cases hx
   exact ⟨t,by rw [Int.mul_one]⟩
 · rw [List.getElem?_eq_none (by simpa using hk)] at hx
   cases hx
section
variable {X:Cx}
def kE (ta:TA):TE:=fun σ H Q=>ta σ H fun vs H1=>∃ j:Int,vs=[.int j]∧ -(2^60)≤j∧j≤1000∧∀ l,H1 l=none→Q (.ref l) (upd H1 l (.lst ((rngL 0 j).map V.int)))
def tS (ta:TA):TE:=fun σ H Q=>ta σ H fun vs H1=>∃ i j:Int,vs=[.int i,.int j]∧(0≤i∧i≤1000∧ -(2^60)≤j∧j≤1000)∧∀ l,H1 l=none→Q (.ref l) (upd H1 l (.lst ((rngL i j).map V.int)))
theorem uD {pins:List (Addr × Obj)} {σ:St} {H1:Hp} {s1:Shared} {Q:VK} {i j:Int} {t u v:Tok} {tk:Nat} {A:Around} {E:Value→Shared→Prop} (hh:A.handled=none) (I1:Inv X pins σ H1 s1) (h1:0≤i) (h2:i≤1000) (h3: -(2^60)≤j) (h4:j≤1000)
  (q:∀ l,H1 l=none→Q (.ref l) (upd H1 l (.lst ((rngL i j).map V.int)))):
  wpAny (model X.prog X.w) A (call (.type "list") [.ref s1.heap.objs.size]) (EP X pins σ Q) E { s1 with heap:=s1.heap.push { cls:=.type "range",data:=.fields #[.int i t,.int j u,.int 1 v] },toks:=tk }:=by
 have I2:Inv X pins σ H1 { s1 with heap:=s1.heap.push { cls:=.type "range",data:=.fields #[.int i t,.int j u,.int 1 v] },toks:=tk }:=I1.kept fun b o e=>Heap.get?_push_of_some _ e
 refine call_list_range (n:=(j - i).toNat) hh (IsRange.new ..) (small_one (by omega) (by omega) (by omega) (by omega)) (by rw [rangeSize_one]; split <;> omega) (by omega) fun h' tk' acc' c' old hS' hacc=>?_
 have hlen:((rngL i j).map V.int).length≤sizeLine:=by rw [List.length_map,qy]; exact Nat.le_of_lt (aS (by omega))
 exact ⟨.ref _,_,I2.laid (t':=tk') (o:=.lst ((rngL i j).map V.int)) old (Nat.le_refl _) ⟨hlen,acc'.toList,c',uC hacc,hS'⟩,rfl,q _ (I2.hok.fresh (Nat.le_refl _))⟩
theorem rm {a:Expr} {ta:TA} {p p2 pos pos2:Pos} (hc:X.calm=true) (hgl:Gl X "list") (hgr:Gl X "range") (hl:X.mg "list"=none) (hr:X.mg "range"=none) (ha:PA X [a] ta)
  (hs1:starEach [.Call (.Name "range" p2) [a] [] pos2] X.env=[(false,eval (.Call (.Name "range" p2) [a] [] pos2) X.env)]:=by rfl) (hs:starEach [a] X.env=[(false,eval a X.env)]:=by rfl):
  PE X (.Call (.Name "list" p) [.Call (.Name "range" p2) [a] [] pos2] [] pos) (kE ta):=by
 intro pins s σ H Q I h
 refine wpAny_Call_Name_kw (iw I hgl hl jX ?_ (by decide) (by decide))
 refine PyProof.Rows.callWith_type1 ?_ hs1 rfl
 rw [hs1]
 show wpAny _ _ (spliced [(false,eval (.Call (.Name "range" p2) [a] [] pos2) X.env)]) _ _ s
 refine Calls.spliced_cons ?_
 refine Call_ (iw I hgr hr boot_range (PyProof.Rows.callWith_type1 (thn (ha pos2 pins s σ H _ I h) fun us s1 ⟨vs,H1,I1,r1,q1⟩=>?_) hs rfl))
 obtain ⟨j,e,q1,q2,q⟩:=q1
 subst e
 cases r1 with
 | cons r rr=>
  cases rr
  obtain ⟨t,rfl⟩:=r
  refine call_range_1 ?_
  refine Calls.spliced_nil ?_
  exact uD (I.ok.hd hc) I1 (by omega) (by omega) q1 q2 q
end
section
variable {σ:St} {H:Hp} {Q:VK} {ta:TA}
theorem gn:kE ta σ H Q=ta σ H fun vs H1=>∃ j:Int,vs=[.int j]∧ -(2^60)≤j∧j≤1000∧∀ l,H1 l=none→Q (.ref l) (upd H1 l (.lst ((rngL 0 j).map V.int))):=rfl
theorem gp:tS ta σ H Q=ta σ H fun vs H1=>∃ i j:Int,vs=[.int i,.int j]∧(0≤i∧i≤1000∧ -(2^60)≤j∧j≤1000)∧∀ l,H1 l=none→Q (.ref l) (upd H1 l (.lst ((rngL i j).map V.int))):=rfl
end
end L2
namespace L2
end L2
namespace L2
open PySem PySem.Spec PyProof.Rows
local macro_rules | `(tactic| walk_at "w")=>`(tactic| (first | simp only [aM,eu,fV,bi,gs,w_c,jc,fW,eC,eD,eE,w_b,w_not,gt,jd,eF,eH,gu,gw,eI,je,eJ,gy,gz,jf,gA,dc,eK,eM,eP,cz,de,cA,cp,cq,bN,gB,gD,gE,gF,gG,gH,gI,gJ,gK,gL,gM,gN,jg,eQ,cr,eS,jh,eV,df,cu,gO,gP,eW,dw,eX,
 List.getElem?_cons_zero,List.getElem?_cons_succ,Option.some.injEq,exists_eq_left',exists_eq_left,List.set_cons_zero,List.set_cons_succ,bY,V.int.injEq,V.bl.injEq,V.ref.injEq,V.str.injEq,List.append_nil,List.nil_append,List.cons_append] | dsimp only | skip))
theorem aq {n:Nat} (h:n≤1000):n≤sizeLine:=Nat.le_of_lt (aS h)
def IsFl (H:Hp) (a:Addr) (h w g:Int):Prop:=H a=some (.tup [.int h,.int w,.int g])
theorem Same.laid {H H':Hp} {p:Addr} {o:HO} (s:Same H H') (h:H' p=none):Same H (upd H' p o):=fun b u e=>by
 rw [am (aB (s b u e) h)]
 exact s b u e
theorem Same.own {H H':Hp} {p:Addr} {o:HO} (s:Same H H') (h:H p=none):Same H (upd H' p o):=fun b u e=>by
 rw [am (aB e h)]
 exact s b u e
theorem rQ {l:List Int} {i:Nat} {x:Int} (h:l[i]? =some x):l.getD i 0=x:=by
 rw [List.getD,h]; rfl
theorem uE {ns:List Int} {k:Int} (h0:0≤k) (h1:k < ns.length):atI (ns.map V.int) k=some (.int (ns.getD k.toNat 0)):=by
 have e:((k.toNat:Nat):Int)=k:=Int.toNat_of_nonneg h0
 have hlt:k.toNat < ns.length:=by omega
 have:(ns.map V.int)[k.toNat]? =some (.int (ns.getD k.toNat 0)):=by
  rw [List.getElem?_map,List.getElem?_eq_getElem hlt]
  simp [List.getD,hlt]
 have q:=aG this
 rw [e] at q
 exact q
theorem cc {α:Type} (l:List α):l.filter (fun _=>true)=l:=List.filter_eq_self.mpr fun _ _=>rfl
theorem jL {l:List Int} {i:Nat} {y:V} (h:(l.map V.int)[i]? =some y):∃ z,l[i]? =some z∧y=.int z:=by
 rw [List.getElem?_map] at h
 cases e:l[i]? with
 | none=>rw [e] at h; cases h
 | some z=>rw [e] at h; cases h; exact ⟨z,rfl,rfl⟩
theorem jE {h w:Int} (h0:1≤h) (h1:h≤6):CMul h w:=.inl ⟨by omega,by omega⟩
section
variable {k:Nat} {lo:Int} {n:Nat} {tt:TT} {te:TE} {fin:Addr→Hp→Prop} {σ0:St} {H1:Hp} {K:PySem.W.Frag} {a:Addr}
theorem mr {n i:Nat} (b:Nat→Bool) (h:i < n) (hn:n≤900):((List.range i).filter b).length≤900:=by
 have:=List.length_filter_le b (List.range i)
 rw [List.length_range] at this
 omega
theorem ir (b:Nat→Bool) (f:Nat→V) (hn:n≤900)
  (ht:∀ i H R,i < n→Same H1 H→(∀ H',Same H H'→R (b i) H')→tt (σ0.set k (some (.int (lo+i)))) H R)
  (he:∀ i H Q,i < n→b i=true→Same H1 H→(∀ H',Same H H'→Q (f i) H')→te (σ0.set k (some (.int (lo+i)))) H Q)
  (hd:∀ l H,H1 l=none→Same H1 H→H l=some (.lst (((List.range n).filter b).map f))→fin l H):
  CompR (Itr lo n) (gName k) tt te fin σ0 H1:=by
 refine sC (fun l i σ H=>(σ=σ0∨∃ cv,σ=σ0.set k cv)∧Same H1 H∧H l=some (.lst (((List.range i).filter b).map f))) (fun l hl=>⟨.inl rfl,(Same.refl H1).laid hl,by rw [af]; rfl⟩) ?_ (fun l σ H hl p=>hd l H hl p.2.1 p.2.2)
 rintro l i σ H hl hi ⟨hσ,s1,el⟩
 rw [bi]
 have e:σ.set k (some (.int (lo+i)))=σ0.set k (some (.int (lo+i))):=by
  rcases hσ with rfl | ⟨cv,rfl⟩
  · rfl
  · exact List.set_set ..
 rw [e]
 refine ht i H _ hi s1 fun H2 s2=>?_
 have el2:=s2 _ _ el
 cases hb:b i with
 | false=>
  rw [if_neg Bool.false_ne_true]
  refine ⟨.inr ⟨_,rfl⟩,s1.trans s2,?_⟩
  rw [List.range_succ,List.filter_append,List.filter_cons,hb]
  simpa using el2
 | true=>
  rw [if_pos rfl]
  refine he i H2 _ hi hb (s1.trans s2) fun H3 s3=>⟨_,s3 _ _ el2,by rw [List.length_map]; exact aS (Nat.le_trans (mr b hi hn) (by decide)),.inr ⟨_,rfl⟩,((s1.trans s2).trans s3).own hl,?_⟩
  rw [af,List.range_succ,List.filter_append,List.filter_cons,hb]
  simp
theorem i0 {xs:List V} (b:Nat→Bool) (f:Nat→V) (hn:xs.length≤900) (hq:SqL K H1 a xs)
  (ht:∀ i x H R,xs[i]? =some x→Same H1 H→(∀ H',Same H H'→R (b i) H')→tt (σ0.set k (some x)) H R)
  (he:∀ i x H Q,xs[i]? =some x→b i=true→Same H1 H→(∀ H',Same H H'→Q (f i) H')→te (σ0.set k (some x)) H Q)
  (hd:∀ l H,H1 l=none→Same H1 H→H l=some (.lst (((List.range xs.length).filter b).map f))→fin l H):
  CompR (Itl K a) (gName k) tt te fin σ0 H1:=by
 refine kD (xs:=xs) (fun l i σ H=>(σ=σ0∨∃ cv,σ=σ0.set k cv)∧Same H1 H∧H l=some (.lst (((List.range i).filter b).map f))) (fun l hl=>⟨.inl rfl,(Same.refl H1).laid hl,by rw [af]; rfl⟩) (fun l i σ H _ _ p=>p.2.1.seq hq) ?_ (fun l σ H hl p=>hd l H hl p.2.1 p.2.2)
 rintro l i x σ H hl hx ⟨hσ,s1,el⟩
 have hi:i < xs.length:=(List.getElem?_eq_some_iff.mp hx).1
 rw [bi]
 have e:σ.set k (some x)=σ0.set k (some x):=by
  rcases hσ with rfl | ⟨cv,rfl⟩
  · rfl
  · exact List.set_set ..
 rw [e]
 refine ht i x H _ hx s1 fun H2 s2=>?_
 have el2:=s2 _ _ el
 cases hb:b i with
 | false=>
  rw [if_neg Bool.false_ne_true]
  refine ⟨.inr ⟨_,rfl⟩,s1.trans s2,?_⟩
  rw [List.range_succ,List.filter_append,List.filter_cons,hb]
  simpa using el2
 | true=>
  rw [if_pos rfl]
  refine he i x H2 _ hx hb (s1.trans s2) fun H3 s3=>⟨_,s3 _ _ el2,by rw [List.length_map]; exact aS (Nat.le_trans (mr b hi hn) (by decide)),.inr ⟨_,rfl⟩,((s1.trans s2).trans s3).own hl,?_⟩
  rw [af,List.range_succ,List.filter_append,List.filter_cons,hb]
  simp
theorem rp (b:Nat→Bool) (f:Nat→Int) (hn:n≤900)
  (ht:∀ i H R,i < n→Same H1 H→(∀ H',Same H H'→R (b i) H')→tt (σ0.set k (some (.int (lo+i)))) H R)
  (he:∀ i H Q,i < n→b i=true→Same H1 H→(∀ H',Same H H'→Q (.int (f i)) H')→te (σ0.set k (some (.int (lo+i)))) H Q)
  (hd:∀ l H,H1 l=none→Same H1 H→H l=some (.lst ((((List.range n).filter b).map f).map V.int))→fin l H):
  CompR (Itr lo n) (gName k) tt te fin σ0 H1:=
 ir b (fun i=>.int (f i)) hn ht he fun l H hl s1 el=>hd l H hl s1 (by rw [List.map_map]; exact el)
end
theorem ot:∀ {ds:List PyData},(∀ d∈ds,PyData.canLay0 d=true)→PyData.canLayAll0 ds=true
 | [],_=>rfl
 | d::r,h=>by rw [PyData.canLayAll0,h d List.mem_cons_self,ot fun e he=>h e (List.mem_cons_of_mem _ he)]; rfl
theorem kF {n:Nat}:∀ {ds:List PyData},(∀ d∈ds,PyData.depth d≤n)→PyData.depthAll ds≤n
 | [],_=>Nat.zero_le _
 | d::r,h=>by rw [PyData.depthAll]; exact Nat.max_le.mpr ⟨h d List.mem_cons_self,kF fun e he=>h e (List.mem_cons_of_mem _ he)⟩
theorem lu {α:Type} [DecidableEq α] (g:α→PyData) (hg:∀ a b,PyData.eqv (g a) (g b)=decide (a=b)):∀ xs ys:List α,PyData.eqvAll (xs.map g) (ys.map g)=decide (xs=ys)
 | [],[]=>rfl
 | [],_::_=>rfl
 | _::_,[]=>rfl
 | x::xs,y::ys=>by
  rw [List.map_cons,List.map_cons,PyData.eqvAll,hg,lu g hg xs ys,Bool.eq_iff_iff]
  simp
structure FlOk (h w g:Int):Prop where
 h0:1≤h
 h1:h≤6
 w0:1≤w
 w1:w≤6
 m:h*w≤16
 g0:1≤g
 g1:g≤6
section
variable {K:PySem.W.Frag} {H:Hp} {Q:VK}
theorem wC {p:Addr} {xs:List V} (hp:H p=some (.lst xs)) (h:Q (.bl true) H):kIsi [.ref p,.ty "list"] H Q:=by
 refine ⟨by decide,bo (a:="list") (by unfold fQ; dsimp only; rw [hp]) ?_⟩
 rw [show isTy "list" "list"=true by decide]
 exact h
theorem wD {p:Addr} {xs:List V} (hp:H p=some (.tup xs)) (h:Q (.bl true) H):kIsi [.ref p,.ty "tuple"] H Q:=by
 refine ⟨by decide,bo (a:="tuple") (by unfold fQ; dsimp only; rw [hp]) ?_⟩
 rw [show isTy "tuple" "tuple"=true by decide]
 exact h
theorem wE {x:Str} (h:Q (.bl true) H):kIsi [.str x,.ty "str"] H Q:=by
 refine ⟨by decide,bo (a:="str") rfl ?_⟩
 rw [show isTy "str" "str"=true by decide]
 exact h
theorem uF {p q:Addr} {xs ys:List V} (hp:H p=some (.lst xs)) (hq:H q=some (.lst ys)) (hn:xs.length+ys.length≤1000) (h:Q .non (upd H p (.lst (xs++ys)))):lq (.ref p) [.ref q] H Q:=by
 show bnd (unM (H p)) _
 rw [hp]
 show bnd (unM (H q)) _
 rw [hq]
 exact ⟨Nat.le_of_lt (aS hn),h⟩
theorem qz {n:Nat} {t:TGs} {σ:St} {k:St→Hp→Prop} {p:Addr} {xs:List V} (hp:H p=some (.tup xs)) (hn:xs.length=n) (h:t xs σ H k):gTup K n t (.ref p) σ H k:=⟨p,xs,rfl,SqT.of hp,hn,h⟩
theorem qA {i j:Nat} {x y:V} {σ:St} {k:St→Hp→Prop}:gCons (gName i) (gCons (gName j) gNil) [x,y] σ H k=k ((σ.set i (some x)).set j (some y)) H:=by
 refine propext ⟨?_,fun h=>⟨x,[y],rfl,y,[],rfl,rfl,h⟩⟩
 rintro ⟨v,r,e,v2,r2,e2,e3,h⟩
 cases e
 cases e2
 exact h
end
end L2
namespace L2
open PySem PySem.Builtin PySem.Builtin.Str
def tx (l:List Nat):Str:=⟨l.toArray⟩
theorem fc (l:List Nat):(tx l).cps.toList=l:=by simp [tx]
theorem sD (x:Str):tx x.cps.toList=x:=by cases x; simp [tx]
theorem ji {a b:List Nat} (h:tx a=tx b):a=b:=by rw [← fc a,h,fc]
theorem ay (l:List Nat):(tx l).length=l.length:=by simp [tx,Str.length]
theorem bb (a b:List Nat):tx a++tx b=tx (a++b):=by
 refine Str.ext' ?_
 rw [Str.cps_append]
 simp [tx]
theorem kG (a b:List Nat):decide (tx a=tx b)=decide (a=b):=by
 by_cases h:a=b
 · subst h; simp
 · have:¬ tx a=tx b:=fun e=>h (ji e)
   rw [decide_eq_false h,decide_eq_false this]
def catL (c:Nat):List (List Nat)→List Nat
 | []=>[]
 | [x]=>x
 | x::y::r=>x++c::catL c (y::r)
theorem lw (c:Nat):∀ ts:List (List Nat),Str.join (tx [c]) (ts.map tx)=tx (catL c ts)
 | []=>rfl
 | [x]=>rfl
 | x::y::r=>by
  show tx x++tx [c]++Str.join (tx [c]) ((y::r).map tx)=_
  rw [lw c (y::r),bb,bb]
  show tx _=tx (x++c::catL c (y::r))
  rw [List.append_assoc]; rfl
theorem g8 (sep:Str) (ts:List Str):Txt.join sep ts=Str.join sep ts:=StrLaws.glued_eq_join sep ts
theorem rR {c:Nat}:∀ {a b x y:List Nat},c∉a→c∉b→a++c::x=b++c::y→a=b∧x=y
 | [],[],_,_,_,_,h=>⟨rfl,by simpa using h⟩
 | [],b::bs,_,_,_,hb,h=>by
  simp at h
  exact absurd (List.mem_cons.mpr (.inl h.1)) hb
 | a::as,[],_,_,ha,_,h=>by
  simp at h
  exact absurd (List.mem_cons.mpr (.inl h.1.symm)) ha
 | a::as,b::bs,x,y,ha,hb,h=>by
  simp at h
  have:=rR (fun z=>ha (List.mem_cons_of_mem _ z)) (fun z=>hb (List.mem_cons_of_mem _ z)) h.2
  exact ⟨by rw [h.1,this.1],this.2⟩
theorem qB {c:Nat}:∀ {x:List Nat} {r:List (List Nat)} {y:List Nat},c∈catL c (x::y::r):=by
 intro x r y
 show c∈x++c::_
 simp
theorem mt {c:Nat}:∀ {xs ys:List (List Nat)},xs≠[]→ys≠[]→(∀ x∈xs,c∉x)→(∀ y∈ys,c∉y)→catL c xs=catL c ys→xs=ys
 | [],_,h,_,_,_,_=>absurd rfl h
 | _,[],_,h,_,_,_=>absurd rfl h
 | [x],[y],_,_,_,_,h=>by
  have h':x=y:=h
  rw [h']
 | [x],y::z::r,_,_,hx,_,h=>by
  have h':x=catL c (y::z::r):=h
  exact absurd (h' ▸ qB) (hx x List.mem_cons_self)
 | x::z::r,[y],_,_,_,hy,h=>by
  have h':catL c (x::z::r)=y:=h
  exact absurd (h' ▸ qB) (hy y List.mem_cons_self)
 | x::z::r,y::u::s,_,_,hx,hy,h=>by
  obtain ⟨e1,e2⟩:=rR (hx x List.mem_cons_self) (hy y List.mem_cons_self) (show x++c::catL c (z::r)=y++c::catL c (u::s) from h)
  rw [e1,mt (by simp) (by simp) (fun w hw=>hx w (List.mem_cons_of_mem _ hw)) (fun w hw=>hy w (List.mem_cons_of_mem _ hw)) e2]
theorem qD (x y:Str):Txt.split x y≠[]:=by
 intro h
 unfold Txt.split at h
 split at h
 · cases h
 · split at h
   · cases h
   · rw [StrLaws.partsBetween_eq] at h
     obtain ⟨p,r,e⟩:=StrLaws.partsFrom_ne x y.length 0 (occurrences x y 0 x.length (x.length+1))
     rw [e] at h; cases h
theorem qE {c:Nat} {rows:List (List Nat)} (hne:rows≠[]) (hf:∀ r∈rows,c∉r):Txt.split (tx (catL c rows)) (tx [c])=rows.map tx:=by
 have h1:=StrLaws.join_split (tx (catL c rows)) (tx [c])
 have h2:∀ p∈Txt.split (tx (catL c rows)) (tx [c]),c∉p.cps.toList:=StrLaws.split_free _ c
 have h3:=qD (tx (catL c rows)) (tx [c])
 generalize Txt.split (tx (catL c rows)) (tx [c])=S at*
 have e:S=(S.map (·.cps.toList)).map tx:=by
  rw [List.map_map]
  conv=>lhs; rw [← List.map_id S]
  exact List.map_congr_left fun x _=>(sD x).symm
 rw [e,lw] at h1
 have h4:=ji h1
 have h5:=mt (c:=c) (xs:=S.map (·.cps.toList)) (ys:=rows) (by simpa using h3) hne (fun x hx=>by obtain ⟨p,hp,rfl⟩:=List.mem_map.mp hx; exact h2 p hp) hf h4
 rw [e,h5]
theorem me (c:Nat) (l:List Nat):∃ rows:List (List Nat),rows≠[]∧(∀ r∈rows,c∉r)∧catL c rows=l∧Txt.split (tx l) (tx [c])=rows.map tx:=by
 have h1:=StrLaws.join_split (tx l) (tx [c])
 have h2:∀ p∈Txt.split (tx l) (tx [c]),c∉p.cps.toList:=StrLaws.split_free _ c
 have h3:=qD (tx l) (tx [c])
 generalize Txt.split (tx l) (tx [c])=S at*
 have e:S=(S.map (·.cps.toList)).map tx:=by
  rw [List.map_map]
  conv=>lhs; rw [← List.map_id S]
  exact List.map_congr_left fun x _=>(sD x).symm
 rw [e,lw] at h1
 exact ⟨S.map (·.cps.toList),by simpa using h3,(fun x hx=>by obtain ⟨p,hp,rfl⟩:=List.mem_map.mp hx; exact h2 p hp),ji h1,e⟩
theorem mv (c:Nat):∀ rows:List (List Nat),rows.length≤(catL c rows).length+1
 | []=>Nat.zero_le _
 | [x]=>by simp [catL]
 | x::y::r=>by
  have:=mv c (y::r)
  show _≤(x++c::catL c (y::r)).length+1
  rw [List.length_append,List.length_cons]
  simp only [List.length_cons] at this ⊢
  omega
theorem rS (l:List Nat) (c:Nat):Txt.find (tx l) (tx [c])=if c∈l then ((l.idxOf c:Nat):Int) else -1:=by
 have at_:∀ i,StrLaws.At (tx l) (tx [c]) (tx l).length i↔l[i]? =some c:=fun i=>by
  unfold StrLaws.At
  rw [StrLaws.subAt_eq,fc,fc,ay,ay]
  show i+1≤l.length∧((l.drop i).take 1==[c])=true↔_
  rw [StrLaws.take1_drop]
  refine ⟨fun h=>h.2,fun h=>⟨?_,h⟩⟩
  have:=(List.getElem?_eq_some_iff.mp h).1
  omega
 unfold Txt.find
 rcases StrLaws.occ_head (tx l) (tx [c]) 1 (Nat.le_refl _) with ⟨e,h⟩ | ⟨i,r,e,h,hn⟩
 · rw [e]
   have:c∉l:=fun m=>by
    obtain ⟨i,hi,e⟩:=List.mem_iff_getElem.mp m
    exact h i ((at_ i).mpr (by rw [List.getElem?_eq_getElem hi,e]))
   rw [if_neg this]
 · rw [e]
   have hi:=(at_ i).mp h
   rw [if_pos (List.mem_of_getElem? hi)]
   have h1:l.idxOf c=i:=by
    obtain ⟨hlt,he⟩:=List.getElem?_eq_some_iff.mp hi
    have hm:c∈l:=List.mem_of_getElem? hi
    have h2:=List.idxOf_lt_length_of_mem hm
    have h3:l[l.idxOf c]? =some c:=by rw [List.getElem?_eq_getElem h2,List.getElem_idxOf h2]
    rcases Nat.lt_trichotomy (l.idxOf c) i with q | q | q
    · exact absurd ((at_ _).mpr h3) (hn _ q)
    · exact q
    · have h4:=List.not_of_lt_findIdx (p:=(· ==c)) (xs:=l) (i:=i) q
      simp [he] at h4
   show ((i:Nat):Int)=_
   rw [h1]
end L2
namespace L2
end L2
namespace L2
open PySem PySem.Spec PyProof.Rows
local macro_rules | `(tactic| walk_at "w")=>`(tactic| (first | simp only [aM,eu,fV,bi,gs,w_c,jc,fW,eC,eD,eE,w_b,w_not,gt,jd,eF,eH,gu,gw,eI,je,eJ,gy,gz,jf,gA,dc,eK,eM,eP,cz,de,cA,cp,cq,bN,gB,gD,gE,gF,gG,gH,gI,gJ,gK,gL,gM,gN,jg,eQ,cr,eS,jh,eV,df,cu,gO,gP,eW,dw,eX,
 List.getElem?_cons_zero,List.getElem?_cons_succ,Option.some.injEq,exists_eq_left',exists_eq_left,List.set_cons_zero,List.set_cons_succ,bY,V.int.injEq,V.bl.injEq,V.ref.injEq,V.str.injEq,List.append_nil,List.nil_append,List.cons_append] | dsimp only | skip))
section
variable {k:Nat} {tt:TT} {te:TE} {fin:Addr→Hp→Prop} {σ0:St} {H1:Hp}
theorem pd {cs:List Nat} (b:Nat→Bool) (f:Nat→V) (hn:cs.length≤900)
  (ht:∀ i c H R,cs[i]? =some c→Same H1 H→(∀ H',Same H H'→R (b i) H')→tt (σ0.set k (some (.str (tx [c])))) H R)
  (he:∀ i c H Q,cs[i]? =some c→b i=true→Same H1 H→(∀ H',Same H H'→Q (f i) H')→te (σ0.set k (some (.str (tx [c])))) H Q)
  (hd:∀ l H,H1 l=none→Same H1 H→H l=some (.lst (((List.range cs.length).filter b).map f))→fin l H):
  CompR (Its (tx cs)) (gName k) tt te fin σ0 H1:=by
 intro l hl
 have hsz:(tx cs).cps.size=cs.length:=by simp [tx]
 refine ⟨fun i m σ H=>m=cs.length - i∧i≤cs.length∧(σ=σ0∨∃ cv,σ=σ0.set k cv)∧Same H1 H∧H l=some (.lst (((List.range i).filter b).map f)),⟨cs.length,by simp,Nat.zero_le _,.inl rfl,(Same.refl H1).laid hl,by rw [af]; rfl⟩,?_⟩
 rintro i m σ H ⟨rfl,hi,hσ,s1,el⟩
 by_cases hlt:i < cs.length
 · refine .inr ⟨by show i < (tx cs).cps.size; rw [hsz]; exact hlt,fun σ H=>(σ=σ0∨∃ cv,σ=σ0.set k cv)∧Same H1 H∧H l=some (.lst (((List.range (i+1)).filter b).map f)),fun σ' H' p'=>⟨cs.length - (i+1),by omega,rfl,hlt,p'⟩,?_⟩
   rintro x H' ⟨rfl,c,hc,rfl⟩
   have hc':cs[i]? =some c:=by simpa [tx] using hc
   show gName k (.str (tx [c])) σ H' _
   rw [bi]
   have e:σ.set k (some (.str (tx [c])))=σ0.set k (some (.str (tx [c]))):=by
    rcases hσ with rfl | ⟨cv,rfl⟩
    · rfl
    · exact List.set_set ..
   rw [e]
   refine ht i c H' _ hc' s1 fun H2 s2=>?_
   have el2:=s2 _ _ el
   cases hb:b i with
   | false=>
    rw [if_neg Bool.false_ne_true]
    refine ⟨.inr ⟨_,rfl⟩,s1.trans s2,?_⟩
    rw [List.range_succ,List.filter_append,List.filter_cons,hb]
    simpa using el2
   | true=>
    rw [if_pos rfl]
    refine he i c H2 _ hc' hb (s1.trans s2) fun H3 s3=>⟨_,s3 _ _ el2,by rw [List.length_map]; exact aS (Nat.le_trans (mr b hlt hn) (by decide)),.inr ⟨_,rfl⟩,((s1.trans s2).trans s3).own hl,?_⟩
    rw [af,List.range_succ,List.filter_append,List.filter_cons,hb]
    simp
 · have e:i=cs.length:=by omega
   subst e
   exact .inl ⟨by show (tx cs).cps.size≤_; rw [hsz]; exact Nat.le_refl _,hd l H hl s1 el⟩
end
theorem pD {α:Type} (xs:List Int) (g:Int→α):(List.range xs.length).map (fun i=>g (xs.getD i 0))=xs.map g:=by
 have e:xs=(List.range xs.length).map fun i=>xs.getD i 0:=by
  refine List.ext_getElem? fun i=>?_
  rw [List.getElem?_map]
  by_cases h:i < xs.length
  · rw [List.getElem?_range h,List.getElem?_eq_getElem h]
    simp [List.getD,h]
  · rw [List.getElem?_eq_none (by omega),List.getElem?_eq_none (by simpa using h)]; rfl
 conv=>rhs; rw [e]
 rw [List.map_map]
 rfl
theorem dg {sep:Str} {ts:List Str} (h1:ts.length≤1000) (h2:∀ t∈ts,t.length≤1000) (h3:sep.length≤10):JoinOk sep ts=true:=by
 unfold JoinOk
 rw [Bool.not_eq_true']
 refine StrLaws.joinFits (B:=1000) h2 ?_
 have a1:ts.length*1000≤1000*1000:=Nat.mul_le_mul_right _ h1
 have a2:ts.length*sep.length≤1000*10:=Nat.mul_le_mul h1 h3
 omega
end L2
namespace L2
open PySem PySem.Spec PyProof.Rows
abbrev rIsN:R2:=fun x y H Q=>y=.non∧Q (.bl (decide (x=.non))) H
abbrev rNotN:R2:=fun x y H Q=>y=.non∧Q (.bl (!decide (x=.non))) H
def kStr:List V→Hp→VK→Prop
 | [.int i],H,Q=>i.natAbs.log2 < 1920∧Q (.str (Str.ofString (toString i))) H
 | _,_,_=>False
section
variable {X:Cx}
theorem dk:CallR X (.type "str") kStr:=by
 intro pins s σ H xs us Q I r h
 unfold kStr at h
 split at h
 · obtain ⟨hi,q⟩:=h
   cases r with
   | cons r0 rr=>
    cases rr
    obtain ⟨t,rfl⟩:=r0
    exact PySem.P.str_of_int hi ⟨.str _,H,I.tok _,⟨_,rfl⟩,q⟩
 · exact h.elim
end
section
variable {K:PySem.W.Frag} {H:Hp} {Q:VK}
theorem j8 {x:V}:rIsN x .non H Q=Q (.bl (decide (x=.non))) H:=by simp [rIsN]
theorem jj {x:V}:rNotN x .non H Q=Q (.bl (!decide (x=.non))) H:=by simp [rNotN]
theorem xh {z:Str} {lo hi:Option Int}:gd (.str z) lo hi H Q=(z.length≤sizeLine∧Q (.str (Txt.slice z lo hi)) H):=rfl
theorem jF {i:Int}:kStr [.int i] H Q=(i.natAbs.log2 < 1920∧Q (.str (Str.ofString (toString i))) H):=rfl
end
end L2
namespace L2
open PySem PySem.Spec PyProof.Rows
structure Bt2 (mg:Str→Option Value):Prop extends Bt mg where
 all_:mg "all"=none
 sum_:mg "sum"=none
 enumerate_:mg "enumerate"=none
section
variable {K:PySem.W.Frag} {H:Hp} {Q:VK} {D:Ends} {σ:St} {g:TG} {tb:TS} {ta:TA} {ix:List (Option Nat)} {tt:TT} {te tf:TE} {k:Nat}
theorem jG:tIf tt te tf σ H Q=tt σ H fun c H1=>if c=true then te σ H1 Q else tf σ H1 Q:=rfl
theorem fe:tComp ix (se ta) g tt te σ H Q=ta σ H fun vs H1=>∃ i j:Int,vs=[.int i,.int j]∧(-(2^62)≤i∧i < 2^62∧ -(2^62)≤j∧j < 2^62)∧CompR (Itr i (j - i).toNat) g tt te (fun l H'=>Q (.ref l) H') (subσ ix σ) H1:=rfl
theorem dm:sComp k ix (se ta) g tt te D σ H=ta σ H fun vs H1=>∃ i j:Int,vs=[.int i,.int j]∧(-(2^62)≤i∧i < 2^62∧ -(2^62)≤j∧j < 2^62)∧CompR (Itr i (j - i).toNat) g tt te (fun l H'=>D.nx (σ.set k (some (.ref l))) H') (subσ ix σ) H1:=rfl
theorem isiE {x:V} {n t:String} {b:Bool} (hx:fQ H x=some t) (hn:lp n=true) (hb:isTy t n=b):kIsi [x,.ty n] H Q=Q (.bl b) H:=by
 subst hb
 show (lp n=true∧bnd (fQ H x) fun t=>Q (.bl (isTy t n)) H)=_
 rw [hx]
 simp only [hn,true_and,bY]
theorem fg {i:Int}:kIsi [.int i,.ty "int"] H Q=Q (.bl true) H:=isiE (t:="int") rfl (by decide) (by decide)
theorem fh {i:Int}:kIsi [.int i,.ty "bool"] H Q=Q (.bl false) H:=isiE (t:="int") rfl (by decide) (by decide)
theorem fi {i:Int}:kIsi [.int i,.ty "str"] H Q=Q (.bl false) H:=isiE (t:="int") rfl (by decide) (by decide)
theorem fj {i:Bool}:kIsi [.bl i,.ty "bool"] H Q=Q (.bl true) H:=isiE (t:="bool") rfl (by decide) (by decide)
theorem fk {i:Bool}:kIsi [.bl i,.ty "int"] H Q=Q (.bl true) H:=isiE (t:="bool") rfl (by decide) (by decide)
theorem fm {i:Str}:kIsi [.str i,.ty "str"] H Q=Q (.bl true) H:=isiE (t:="str") rfl (by decide) (by decide)
theorem fo {i:Bool}:kIsi [.bl i,.ty "str"] H Q=Q (.bl false) H:=isiE (t:="bool") rfl (by decide) (by decide)
theorem iD {A B:Prop}:(if true=true then A else B)=A:=if_pos rfl
theorem iE {A B:Prop}:(if false=true then A else B)=B:=if_neg Bool.false_ne_true
theorem iF {i:Int}:rU (fun i=>.int (-i)) (.int i) H Q=Q (.int (-i)) H:=by
 refine propext ⟨?_,fun h=>⟨i,rfl,h⟩⟩
 rintro ⟨j,e,h⟩
 cases e
 exact h
theorem ixT {p:Addr} {i:Int} {xs:List V} {v:V} (h:H p=some (.tup xs)) (e:atI xs i=some v) (q:Q v H):cIx (.ref p) (.int i) H Q:=by
 rw [mq h]; exact bo e q
theorem ixL {p:Addr} {i:Int} {xs:List V} {v:V} (h:H p=some (.lst xs)) (e:atI xs i=some v) (q:Q v H):cIx (.ref p) (.int i) H Q:=by
 rw [xf h]; exact bo e q
end
theorem DVs.bls {K:PySem.W.Frag} {H:Hp}:∀ ns:List Bool,DVs K H (ns.map V.bl) (ns.map PyData.bool)
 | []=>.nil
 | n::r=>.cons (.bl n) (DVs.bls r)
theorem tT (a b:Bool):PyData.eqv (.bool a) (.bool b)=decide (a=b):=by cases a <;> cases b <;> rfl
theorem vA (xs ys:List Bool):PyData.eqvAll (xs.map PyData.bool) (ys.map PyData.bool)=decide (xs=ys):=lu PyData.bool tT xs ys
theorem m6 (ns:List Bool):SeqAt.shaped (.list (ns.map PyData.bool))=true:=by
 have h1:PyData.canLayAll0 (ns.map PyData.bool)=true:=ot fun d hd=>by obtain ⟨x,_,rfl⟩:=List.mem_map.mp hd; rfl
 have h2:PyData.depthAll (ns.map PyData.bool)≤0:=kF fun d hd=>by obtain ⟨x,_,rfl⟩:=List.mem_map.mp hd; exact Nat.le_refl _
 simp [SeqAt.shaped,PyData.canLay0,h1,PyData.depth]
 omega
end L2
namespace L2
open PySem PySem.Spec PyProof.Rows
theorem ObjOk.ob {P:Program} {w:World} {H:Hp} {h:Heap} {a:Addr} {o:HO} (x:ObjOk P w H h a o):∃ u,h.get? a=some u:=by
 cases o with
 | lst xs=>obtain ⟨_,_,_,_,e⟩:=x; exact ⟨_,e⟩
 | tup xs=>obtain ⟨_,_,_,ob,e,_⟩:=x; exact ⟨_,e⟩
 | dK kvs=>obtain ⟨_,_,_,_,o,_,_,e,_⟩:=x; exact ⟨_,e⟩
 | dT kvs=>obtain ⟨_,_,_,_,o,_,_,e,_⟩:=x; exact ⟨_,e⟩
 | set S n=>obtain ⟨o,_,_,_,e,_⟩:=x; exact ⟨_,e⟩
 | ins C dx fs=>obtain ⟨_,_,_,e,_⟩:=x; exact ⟨_,e⟩
 | own y=>exact x
 | xd fs=>obtain ⟨_,⟨_,_,_,e,_⟩,_⟩:=x; exact ⟨_,e⟩
 | rng lo hi=>obtain ⟨_,_,_,e⟩:=x; exact ⟨_,e⟩
 | frz ob u=>obtain ⟨e,_⟩:=x; exact ⟨_,e⟩
 | tbl ps=>exact ⟨_,(show h.get? a=some _ from x)⟩
 | met f y=>exact ⟨_,(show h.get? a=some _ from x)⟩
 | ext φ=>obtain ⟨_,e,_⟩:=x; exact e
def Tr (h:Heap) (x T C:Addr) (fl:Value):Prop:=∃ oe vs oT ts a0,h.get? x=some oe∧oe.cls=.ref C∧vs[0]? =some a0∧oe.data=.fields vs∧vs[1]? =some (.ref T)∧T≠x∧h.get? T=some oT∧oT.data=.fields ts∧ts[3]? =some fl
structure Fly (P:Program) (w:World) (outer:List Env) (H:Hp) (s:Shared) (x T C:Addr) (H':Hp) (s':Shared):Prop where
 os:s'.os=s.os
 bare:AllBare s'.gens
 un:Un (frs outer) [] H H' s.heap s'.heap
 hok:HOk P w H' s'.heap
 fx:H' x=none
 fT:H' T=none
 nx:s.heap.get? x=none
 nT:s.heap.get? T=none
 tr:Tr s'.heap x T C .none
def CX1 (P:Program) (w:World):CXT:=fun outer H s E e s'=>∃ x T C H',e=.ref x∧Fly P w outer H s x T C H' s'∧E (.ref C) none H'
theorem qG {P:Program} {w:World} {env:Env} {outer:List Env} {base:Heap} {H₀ H H':Hp} {s₀ s sA:Shared} {x T' C L:Addr} {h':Heap} {ex:List Addr}
  (hos:sA.os=s₀.os) (hbare:AllBare sA.gens) (hL:env.frame=some L) (nL:s₀.heap.get? L=none)
  (U0:Un (frs outer) [] H₀ H s₀.heap s.heap) (fun0:s.heap.FunFrames base (env::outer)) (hfr:∀ b∈frs (env::outer),H b=none)
  (UA:Un (frs (env::outer)) [] H H' s.heap sA.heap) (okA:HOk P w H' sA.heap)
  (exn:∀ b∈ex,s.heap.get? b=none∧H' b=none)
  (keepAll:∀ b o,sA.heap.get? b=some o→b∉frs (env::outer)→b∉ex→h'.get? b=some o) (up:sA.heap.UpToSlots h')
  (nx:s.heap.get? x=none) (fx:H' x=none) (hT:∀ o,sA.heap.get? T'=some o→T'∈frs (env::outer)∨T'∈ex)
  (tr:Tr h' x T' C .none):Fly P w outer H₀ s₀ x T' C H' { sA with heap:=h' }:=by
 have frD:∀ b∈frs (env::outer),∃ o,s.heap.get? b=some o∧∀ vs,o.data≠.fields vs:=fun b hb=>(fun0.mem hb).2
 have frA:∀ b∈frs (env::outer),∃ o,sA.heap.get? b=some o∧∀ vs,o.data≠.fields vs:=fun b hb=>by
  obtain ⟨o,e,d⟩:=frD b hb
  obtain ⟨sl,e2⟩:=UA.slot b o e (hfr b hb) hb (by simp)
  exact ⟨_,e2,d⟩
 have frH:∀ b∈frs (env::outer),H' b=none:=fun b hb=>by
  obtain ⟨o,e,d⟩:=frD b hb
  exact UA.free b o e (hfr b hb) (by simp)
 have Tfr:T'∉frs (env::outer):=fun hb=>by
  obtain ⟨o,e,d⟩:=frA T' hb
  obtain ⟨sl,e2⟩:=up T' o e d
  obtain ⟨_,_,oT,ts,_,_,_,_,_,_,_,e3,d3,_⟩:=tr
  rw [e2] at e3
  cases e3
  exact d _ d3
 have sub:∀ b,b∈frs outer→b∈frs (env::outer):=fun b hb=>by
  unfold frs at hb ⊢
  rw [List.filterMap_cons,hL]
  exact List.mem_cons_of_mem _ hb
 have isL:∀ b,b∈frs (env::outer)→b=L∨b∈frs outer:=fun b hb=>by
  unfold frs at hb ⊢
  rw [List.filterMap_cons,hL] at hb
  exact List.mem_cons.mp hb
 have thereA:∀ b o,sA.heap.get? b=some o→b∉ex→∃ o',h'.get? b=some o':=fun b o e hx=>by
  by_cases hb:b∈frs (env::outer)
  · obtain ⟨o1,e1,d1⟩:=frA b hb
    rw [e] at e1; cases e1
    obtain ⟨sl,e2⟩:=up b o e d1
    exact ⟨_,e2⟩
  · exact ⟨o,keepAll b o e hb hx⟩
 have nex:∀ b o,s.heap.get? b=some o→b∉ex:=fun b o e hx=>by rw [(exn b hx).1] at e; cases e
 refine ⟨hos,hbare,⟨fun b o e n hb _=>?_,fun b o e n hb _=>?_,fun b o e n _=>?_,fun b o e _=>?_,fun b xs e=>UA.tups b xs (U0.tups b xs e),fun b o u e=>UA.frzs b o u (U0.frzs b o u e),fun b ps e=>?_⟩,?_,fx,?_,?_,?_,tr⟩
 · have e1:=U0.keep b o e n hb (by simp)
   have n1:=U0.free b o e n (by simp)
   have nb:b∉frs (env::outer):=fun z=>by
    rcases isL b z with z | z
    · rw [z,nL] at e; cases e
    · exact hb z
   exact keepAll b o (UA.keep b o e1 n1 nb (by simp)) nb (nex b o e1)
 · obtain ⟨sl,e1⟩:=U0.slot b o e n hb (by simp)
   have n1:=U0.free b o e n (by simp)
   obtain ⟨sl2,e2⟩:=UA.slot b _ e1 n1 (sub b hb) (by simp)
   obtain ⟨o3,e3,d3⟩:=frA b (sub b hb)
   rw [e2] at e3; cases e3
   obtain ⟨sl4,e4⟩:=up b _ e2 d3
   exact ⟨sl4,e4⟩
 · have n1:=U0.free b o e n (by simp)
   obtain ⟨o1,e1⟩:=U0.there b o e (by simp)
   exact UA.free b o1 e1 n1 (by simp)
 · obtain ⟨o1,e1⟩:=U0.there b o e (by simp)
   obtain ⟨o2,e2⟩:=UA.there b o1 e1 (by simp)
   exact thereA b o2 e2 (nex b o1 e1)
 · obtain ⟨m1,e1⟩:=U0.tbls b ps e
   obtain ⟨m2,e2⟩:=UA.tbls b _ e1
   exact ⟨m1++m2,by rw [e2,Array.append_assoc]⟩
 · intro a o e
   have key:∀ b,H' b≠none→b∉frs (env::outer)∧b∉ex:=fun b hb=>⟨fun z=>hb (frH b z),fun z=>hb (exn b z).2⟩
   refine (okA a o e).stay (fun b u hb q=>?_) (fun _ q=>q) fun _ _ q=>q
   have hb':H' b≠none:=by
    rcases hb with rfl | hb
    · rw [e]; simp
    · rw [hb]; simp
   exact keepAll b u q (key b hb').1 (key b hb').2
 · cases q:H' T' with
   | none=>rfl
   | some o=>
    obtain ⟨u,e⟩:=(okA T' o q).ob
    rcases hT u e with z | z
    · exact absurd z Tfr
    · rw [(exn T' z).2] at q; cases q
 · cases q:s₀.heap.get? x with
   | none=>rfl
   | some o=>
    obtain ⟨o1,e1⟩:=U0.there x o q (by simp)
    rw [nx] at e1; cases e1
 · cases q:s₀.heap.get? T' with
   | none=>rfl
   | some o=>
    obtain ⟨o1,e1⟩:=U0.there T' o q (by simp)
    obtain ⟨o2,e2⟩:=UA.there T' o1 e1 (by simp)
    rcases hT o2 e2 with z | z
    · exact absurd z Tfr
    · rw [(exn T' z).1] at e1; cases e1
theorem jk {h base:Heap} {as:List Addr}:∀ {l:List Env},h.FunFrames base l→(∀ b∈frs l,b∈as)→h.FunFrames (PySem.W.hideAll h as) l
 | [],_,_=>trivial
 | env::r,⟨hk,⟨L,o,hf,_,ho,hd⟩,hr⟩,hin=>⟨hk,⟨L,o,hf,PySem.W.hideAll_none as (hin L (by unfold frs; rw [List.filterMap_cons,hf]; exact List.mem_cons_self)),ho,hd⟩,jk hr fun b hb=>hin b (by
   unfold frs at hb ⊢; rw [List.filterMap_cons,hf]; exact List.mem_cons_of_mem _ hb)⟩
theorem ly {h h1 base:Heap} {H H':Hp} {fs:List Addr}:∀ {l:List Env},h.FunFrames base l→(∀ b∈frs l,b∈fs∧H b=none)→Un fs [] H H' h h1→h1.FunFrames base l
 | [],_,_,_=>trivial
 | env::r,⟨hk,⟨L,o,hf,hn,ho,hd⟩,hr⟩,hin,u=>by
  obtain ⟨h1,h2⟩:=hin L (by unfold frs; rw [List.filterMap_cons,hf]; exact List.mem_cons_self)
  obtain ⟨sl,e⟩:=u.slot L o ho h2 h1 (by simp)
  exact ⟨hk,⟨L,_,hf,hn,e,hd⟩,ly hr (fun b hb=>hin b (by unfold frs at hb ⊢; rw [List.filterMap_cons,hf]; exact List.mem_cons_of_mem _ hb)) u⟩
section
variable {P:Program} {w:World} {K:PySem.W.Frag} {mg:Str→Option Value} {base:Heap} {N:List Str} {qual:Str} {scope:Scope} {f:Addr} {cd:Value} {A:Around} {outer:List Env} {s₀:Shared} {H₀:Hp} {E:XK}
abbrev cx1 (P:Program) (w:World) (K:PySem.W.Frag) (mg:Str→Option Value) (base:Heap) (N:List Str) (qual:Str) (scope:Scope) (f:Addr) (cd:Value) (A:Around) (outer:List Env) (s:Shared) (H:Hp) (E:XK):Cx:=
 cxOf (CX1 P w) P w K mg base N qual scope f cd A outer s H E
theorem bn {E':XK} (himp:∀ c d H,E' c d H→E c d H):dY (CX1 P w) (cx1 P w K mg base N qual scope f cd A outer s₀ H₀ E) E':=by
 intro pins σ H s e s' I h
 obtain ⟨x,T,C,H',rfl,F,q⟩:=h
 obtain ⟨oe,vs,oT,ts,a0,he,hc,h0,hd,h1,hTx,hT,hdT,h3⟩:=F.tr
 have hstk:∀ b∈frs (envOfC qual scope s₀.heap.objs.size f cd::outer),H b=none:=I.stkFree
 have ff:s'.heap.FunFrames base (envOfC qual scope s₀.heap.objs.size f cd::outer):=ly I.stack (fun b hb=>⟨hb,hstk b hb⟩) F.un
 show wpAny (model P w) (A.deeper (envOfC qual scope s₀.heap.objs.size f cd)) (leaving (envOfC qual scope s₀.heap.objs.size f cd) (.ref x)) _ _ s'
 have hin:∀ b∈frs (envOfC qual scope s₀.heap.objs.size f cd::outer),b∈frs (envOfC qual scope s₀.heap.objs.size f cd::outer)++[x,T]:=fun b hb=>List.mem_append_left _ hb
 refine wpAny_leaves_onW (base:=PySem.W.hideAll s'.heap (frs (envOfC qual scope s₀.heap.objs.size f cd::outer)++[x,T])) (cls:=.ref C) (a0:=a0) (L:=s₀.heap.objs.size) I.ok.frames rfl
  ⟨fun b o e=>PySem.W.of_hideAll _ e,PySem.W.hideAll_none _ (by simp),jk ff hin,oe,vs,T,oT,ts,he,⟨hc,h0⟩,hd,h1,PySem.W.hideAll_none _ (by simp),hTx,hT,hdT,h3⟩ fun h' fl up=>?_
 obtain ⟨k1,k2,k3,oe',vs',T',oT',ts',a1,a2,a3,a4,a5,a6,a7,a8,a9⟩:=fl
 have keepAll:∀ b o,s'.heap.get? b=some o→b∉frs (envOfC qual scope s₀.heap.objs.size f cd::outer)→b∉[x,T]→h'.get? b=some o:=fun b o e hb hx=>k1 b o (PySem.W.hideAll_get _ e fun z=>(List.mem_append.mp z).elim hb hx)
 refine ⟨x,T',C,H',rfl,qG (env:=envOfC qual scope s₀.heap.objs.size f cd) (base:=base) (s:=s) (sA:=s') (L:=s₀.heap.objs.size) (ex:=[x,T]) (F.os.trans I.os) F.bare rfl (Heap.get?_none_of_le (Nat.le_refl _)) I.base I.stack hstk F.un F.hok (fun b hb=>?_) keepAll up F.nx F.fx (fun o e=>?_) ⟨oe',vs',oT',ts',a0,a1,a2.1,a2.2,a3,a4,a6,a7,a8,a9⟩,himp _ _ _ q⟩
 · simp only [List.mem_cons,List.not_mem_nil,or_false] at hb
   rcases hb with rfl | rfl
   · exact ⟨F.nx,F.fx⟩
   · exact ⟨F.nT,F.fT⟩
 · by_cases z:T'∈frs (envOfC qual scope s₀.heap.objs.size f cd::outer)++[x,T]
   · exact List.mem_append.mp z
   · rw [PySem.W.hideAll_get _ e z] at a5; cases a5
theorem uG {pins:List (Addr × Obj)} {σ:St} {H:Hp} {s:Shared} {h1:Heap} {x C:Addr} {args:List Value} (I:Inv (cx1 P w K mg base N qual scope f cd A outer s₀ H₀ E) pins σ H s) (hm:Heap.MadeExcOf s.heap h1 x (.ref C) args) (q:E (.ref C) none H):
  (cx1 P w K mg base N qual scope f cd A outer s₀ H₀ E).xe (.ref x) { s with heap:=h1 }:=by
 have hstk:∀ b∈frs (envOfC qual scope s₀.heap.objs.size f cd::outer),H b=none:=I.stkFree
 have ff:s.heap.FunFrames base (envOfC qual scope s₀.heap.objs.size f cd::outer):=I.stack
 show wpAny (model P w) (A.deeper (envOfC qual scope s₀.heap.objs.size f cd)) (leaving (envOfC qual scope s₀.heap.objs.size f cd) (.ref x)) _ _ { s with heap:=h1 }
 refine wpAny_leaves_madeW (s:={ s with heap:=h1 }) (base:=PySem.W.hideAll s.heap (frs (envOfC qual scope s₀.heap.objs.size f cd::outer))) (h:=s.heap) (L:=s₀.heap.objs.size) I.ok.frames rfl (fun b o e=>PySem.W.of_hideAll _ e) (jk ff fun b hb=>hb) hm fun h' t fl _ _ up=>?_
 obtain ⟨k1,k2,k3,oe',vs',T',oT',ts',a1,a2,a3,a4,a5,a6,a7,a8,a9⟩:=fl
 have keepAll:∀ b o,s.heap.get? b=some o→b∉frs (envOfC qual scope s₀.heap.objs.size f cd::outer)→b∉([]:List Addr)→h'.get? b=some o:=fun b o e hb _=>k1 b o (PySem.W.hideAll_get _ e hb)
 refine ⟨x,T',C,H,rfl,qG (env:=envOfC qual scope s₀.heap.objs.size f cd) (base:=base) (s:=s) (sA:=s) (L:=s₀.heap.objs.size) (ex:=[]) I.os I.bare rfl (Heap.get?_none_of_le (Nat.le_refl _)) I.base ff hstk Un.refl I.hok (fun b hb=>nomatch hb) keepAll ((Heap.UpToSlots.of_keeps hm.keeps).trans up) hm.new ?_ (fun o e=>?_) ⟨oe',vs',oT',ts',_,a1,a2.1,a2.2,a3,a4,a6,a7,a8,a9⟩,q⟩
 · cases z:H x with
   | none=>rfl
   | some o=>
    obtain ⟨u,e⟩:=(I.hok x o z).ob
    rw [hm.new] at e; cases e
 · by_cases z:T'∈frs (envOfC qual scope s₀.heap.objs.size f cd::outer)
   · exact .inl z
   · rw [PySem.W.hideAll_get _ e z] at a5; cases a5
end
end L2
namespace L2
open PySem PySem.Spec PyProof.Rows
section
variable {prog:Program} {w:World} {A:Around} {E:Value→Shared→Prop} {h:Heap} {g:Array GenState} {d:Drawn} {t:Nat} {os:OsState} {K:PySem.W.Frag} {a C:Addr} {o:Obj}
structure XIs (K:PySem.W.Frag) (C:Addr):Prop where
 ga:PySem.W.findIn K (.ref C) "__getattribute__"=some (some (.builtin "BaseException.__getattribute__"))
 gx:PySem.W.findIn K (.ref C) "__getattr__"=some none
 cl:PySem.W.findIn K (.ref C) "__class__"=some (some (.builtin "object.__class__"))
 mo:PySem.W.mroIn K C (.type "object")=some true
 mb:PySem.W.mroIn K C (.type "BaseException")=some true
theorem rT {M:Model} {T:Value} {v:Bool} (X:K.In h) (hm:PySem.W.mroIn K C T=some v):PySem.W.Looks M h (isSubtype (.ref C) T) v:=PySem.W.looks_mroIn X hm
theorem xi {R:Result→Shared→Prop} (X:K.In h) (Z:XIs K C) (hx:h.get? a=some o) (hc:o.cls=.ref C) (hq:R (.ok (.ret (.ref C))) ⟨h,g,d,t,os⟩):
  codeAny (model prog w) A (.call (.builtin "getset_descriptor.__get__") ⟨[.builtin "object.__class__",.ref a,.ref C],[]⟩) R ⟨h,g,d,t,os⟩:=by
 have hT5:(⟨h,g,d,t,os⟩:Shared).TypeIs (.builtin "object.__class__") "getset_descriptor":=F.typeOf_object_class
 have L1:PySem.W.Looks (model prog w) h (isSubtype (.ref C) (.type (".".intercalate ("object.__class__".cutAt '.').dropLast))) true:=by rw [F.owner_object_class]; exact rT X Z.mo
 refine codeAny_call_builtin F.slot_gs_get.plain F.entry_gs_get (F.slot_gs_get.check _ _ _ _ _ _ _ _ hT5 (F.args_gs_get _ _ _) ?_)
 repeat (any_goals (first | assumption | (with_reducible refine wpAny_loadPart_at hx ?_; rw [hc]) | with_reducible refine L1.at ?_ | wp_step))
 refine ⟨Code.quiet_builtin _ (by decide+kernel),codeAny_builtin F.entry_object_class ?_⟩
 repeat (any_goals (first | assumption | (with_reducible refine wpAny_loadPart_at hx ?_; rw [hc]) | wp_step))
theorem vB {tk:Tok} {Q:Fin→Shared→Prop} (X:K.In h) (Z:XIs K C) (hx:h.get? a=some o) (hc:o.cls=.ref C) (hq:Q (.done (.ret (.ref C))) ⟨h,g,d,t,os⟩):
  wpAny (model prog w) A (Builtin.«object.__getattribute__» ⟨[.ref a,.str "__class__" tk],[]⟩) Q E ⟨h,g,d,t,os⟩:=by
 have hT5:(⟨h,g,d,t,os⟩:Shared).TypeIs (.builtin "object.__class__") "getset_descriptor":=F.typeOf_object_class
 have f5:=F.typeOf_object_class
 have f6:=F.slot_gs_get.lookup
 have f7:=F.slot_gs_set.lookup
 have L1:=PySem.W.looks_findIn (M:=model prog w) X Z.cl
 repeat (any_goals (first | assumption | (with_reducible refine wpAny_loadPart_at hx ?_; rw [hc]) | with_reducible refine L1.at ?_ | wp_step))
 refine xi X Z hx hc ?_
 repeat (any_goals (first | assumption | wp_step))
theorem vC {M:Model} {nameV:Value} {Q:Unit→Shared→Prop} (X:K.In h) (Z:XIs K C) (hx:h.get? a=some o) (hc:o.cls=.ref C) (hq:Q () ⟨h,g,d,t,os⟩):wpAny M A (checkBuiltinCall "BaseException.__getattribute__" ⟨[.ref a,nameV],[]⟩) Q E ⟨h,g,d,t,os⟩:=by
 have hk:builtinKind "BaseException.__getattribute__"=some .slot:=by decide+kernel
 have hsplit:splitId "BaseException.__getattribute__"=some ("BaseException","__getattribute__"):=by decide+kernel
 have L1:=rT (M:=M) X Z.mb
 have ha:=F.args_bexc_ga (.ref a) nameV
 simp only [checkBuiltinCall,hk,hsplit]
 refine wpAny_bind ?_
 · unfold isInstance
   repeat (first | (with_reducible refine wpAny_loadPart_at hx ?_; rw [hc]) | with_reducible refine L1.at ?_ | wp_step)
   exact hq
theorem wF {tk:Tok} {R:Result→Shared→Prop} (X:K.In h) (Z:XIs K C) (hx:h.get? a=some o) (hc:o.cls=.ref C) (hq:R (.ok (.ret (.ref C))) ⟨h,g,d,t,os⟩):
  codeAny (model prog w) A (.call (.builtin "BaseException.__getattribute__") ⟨[.ref a,.str "__class__" tk],[]⟩) R ⟨h,g,d,t,os⟩:=
 codeAny_call_builtin F.attr_ValueError.ga.plain F.entry_bexc_ga (vC X Z hx hc (vB X Z hx hc hq))
theorem xv {tk:Tok} {fill expr:Bool} {Q:Value→Shared→Prop} (X:K.In h) (Z:XIs K C) (hx:h.get? a=some o) (hc:o.cls=.ref C) (hq:Q (.ref C) ⟨h,g,d,t,os⟩):
  wpAny (model prog w) A (getAttrBy (.ref a) (.str "__class__" tk) fill expr) Q E ⟨h,g,d,t,os⟩:=by
 have f3:=F.attr_ValueError.ga.bind (.ref a)
 have hx0:(expr&&onTheHeap (Value.builtin "BaseException.__getattribute__"))=false:=by cases expr <;> rfl
 have hx2:(Value.builtin "BaseException.__getattribute__"==Value.builtin "object.__getattribute__")=false:=by decide+kernel
 have hx1:(onTheHeap (Value.ref C)&&Value.builtin "BaseException.__getattribute__"==Value.builtin "object.__getattribute__")=false:=by rw [hx2]; rfl
 have L1:=PySem.W.looks_findIn (M:=model prog w) X Z.ga
 have L2:=PySem.W.looks_findIn (M:=model prog w) X Z.gx
 repeat (any_goals (first | assumption | (with_reducible refine wpAny_loadPart_at hx ?_; rw [hc]) | with_reducible refine L1.at ?_ | with_reducible refine L2.at ?_ | wp_step))
 refine wF X Z hx hc ?_
 repeat (any_goals (first | assumption | wp_step))
theorem wG {Q:Option Value→Shared→Prop} (X:K.In h) (Z:XIs K C) (hx:h.get? a=some o) (hc:o.cls=.ref C) (hq:Q (some (.ref C)) ⟨h,g,d,t+1,os⟩):
  wpAny (model prog w) A (getAttr? (.ref a) "__class__") Q E ⟨h,g,d,t,os⟩:=by
 unfold getAttr? getAttrBy?
 repeat (any_goals (first | assumption | with_reducible apply xv X Z hx hc | wp_step))
def XO (a C:Addr):Heap→Prop:=fun h=>∃ o vs,h.get? a=some o∧o.cls=.ref C∧o.data=.fields vs
theorem rV (Z:XIs K C):∃ c' d' cd sl,K.lookup C=some ⟨c',d',.cls cd,sl⟩:=by
 have:=Z.mo
 unfold PySem.W.mroIn PySem.W.clsIn at this
 split at this
 · rename_i c' d' cd' sl' ho
   exact ⟨_,_,_,_,ho⟩
 · cases this
theorem uH (Z:XIs K C):PySem.W.KitX K (.ref a) (.ref C) (XO a C) where
 ty:=fun M h _ ⟨o,vs,hx,hc,_⟩=>by
  intro A Q E s k q
  unfold typeOf
  refine wpAny_bind (wpAny_loadPart (k _ _ hx) ?_)
  rw [hc]
  exact wpAny_pure q
 it:=fun M h X _=>by
  obtain ⟨c',d',cd,sl,ho⟩:=rV Z
  intro A Q E s k q
  unfold isType loadHead
  exact wpAny_bind (wpAny_loadPart (k _ _ (X _ _ ho)) (wpAny_pure q))
 ne:=fun h tp dd its n sl X htp=>by
  obtain ⟨c',d',cd,sl',ho⟩:=rV Z
  refine Bool.eq_false_iff.mpr fun q=>?_
  have e:C=tp:=Value.ref.inj (beq_iff_eq.mp q)
  subst e
  have z:=(X _ _ ho).symm.trans htp
  cases z
 ca:=fun {prog w A E Q s} X ⟨o,vs,hx,hc,_⟩ hq=>by
  obtain ⟨h,g,d,t,os⟩:=s
  exact wG X Z hx hc hq
end
def cvOf:V→Option Value
 | .ref p=>some (.ref p)
 | .ty n=>some (.type n)
 | _=>none
theorem uI {c:V} {cv u:Value} (h:cvOf c=some cv) (r:RelV c u):u=cv:=by
 cases c with
 | ref p=>cases h; cases r; rfl
 | ty n=>cases h; cases r; rfl
 | _=>cases h
def kIsX (K:PySem.W.Frag):List V→Hp→VK→Prop:=fun vs H Q=>∃ a C c cv b,vs=[.ref a,c]∧H a=some (.ext (XO a C))∧XIs K C∧cvOf c=some cv∧PySem.W.kitOne K (.ref C) cv=some b∧Q (.bl b) H
theorem dn {X:Cx}:CallR X (.builtin "isinstance") (kIsX X.K):=by
 intro pins s σ H xs us Q I r h
 obtain ⟨a,C,c,cv,b,rfl,hH,Z,rc,hk,q⟩:=h
 obtain ⟨u,w',rfl,ru,rw'⟩:=p5 r
 cases ru
 have e:w'=cv:=uI rc rw'
 subst e
 obtain ⟨p,_⟩:=I.hok a _ hH
 exact PySem.W.kia_one (uH Z) I.kIn p hk (fun z=>nomatch z) fun tk=>⟨.bl b,H,I.tok tk,rfl,q⟩
end L2
namespace L2
open PySem PySem.Spec PyProof.Rows
abbrev VE:List Value:=[.type "ValueError",.type "Exception",.type "BaseException",.type "object"]
def mw (e:DictEntry):Bool:=match e.key with | .str _ _=>true | _=>false
def gQ (K:PySem.W.Frag) (N:Addr):Bool:=match K.lookup N with
 | some ⟨_,_,.dict es _,_⟩=>es.toList.all mw&&(nsFind es "__init__").isNone
 | _=>false
theorem jH {K:PySem.W.Frag} {N:Addr} {h:Heap} (X:K.In h) (e:gQ K N=true):∃ mN,h.Ns N mN∧mN "__init__"=none:=by
 unfold gQ at e
 split at e
 · rename_i c d es ep sl ho
   simp only [Bool.and_eq_true] at e
   refine ⟨nsFind es,⟨_,es,ep,X _ _ ho,rfl,fun en hm=>?_,fun _=>rfl⟩,Option.isNone_iff_eq_none.mp e.2⟩
   have:=List.all_eq_true.mp e.1 en (Array.mem_def.mp hm)
   unfold mw at this
   split at this
   · rename_i n t q; exact ⟨n,t,q⟩
   · cases this
 · cases e
structure XC (K:PySem.W.Frag) (C D:Addr):Prop where
 oC:∃ nm q N bs hdct sn sub ab col dd k0 k1 k2 k3 k5,K.lookup C=some (excClassObj nm q C N bs (.ref D::VE) hdct sn sub ab col dd k0 k1 k2 k3 k5 "ValueError.__new__")∧gQ K N=true
 oD:∃ c0 dd cd sl,K.lookup D=some ⟨c0,dd,.cls cd,sl⟩∧gQ K cd.ns=true
theorem XC.mk' {K:PySem.W.Frag} {C D:Addr} {nm q:Str} {N:Addr} {bs:List Value} {hdct:Bool} {sn:List Str} {sub:List Value} {ab:Bool} {col:Option Bool} {dd:Option Addr} {k0 k1 k2 k3 k5:Option Value} {c0:Value} {dD:Option Addr} {cd:ClassData} {sl:Array (Option Value)}
  (l1:K.lookup C=some (excClassObj nm q C N bs (.ref D::VE) hdct sn sub ab col dd k0 k1 k2 k3 k5 "ValueError.__new__")) (n1:gQ K N=true) (l2:K.lookup D=some ⟨c0,dD,.cls cd,sl⟩) (n2:gQ K cd.ns=true):XC K C D:=
 ⟨⟨_,_,_,_,_,_,_,_,_,_,_,_,_,_,_,l1,n1⟩,⟨_,_,_,_,l2,n2⟩⟩
def bc (E:XK) (C:Addr) (t:TA):TS:=fun _ σ H=>t σ H fun vs H1=>vs.length≤sizeLine∧E (.ref C) none H1
section
variable {P:Program} {w:World} {K:PySem.W.Frag} {mg:Str→Option Value} {base:Heap} {N:List Str} {qual:Str} {scope:Scope} {f:Addr} {cd:Value} {A:Around} {outer:List Env} {s₀:Shared} {H₀:Hp} {E:XK}
theorem aK {C D:Addr} {x:Str} {np cpos pos:Pos} {e₀:Expr} {rest:List Expr} {t:TA} (Z:XC K C D) (hg:Gl (cx1 P w K mg base N qual scope f cd A outer s₀ H₀ E) x) (hm:mg x=some (.ref C))
  (ha:PA (cx1 P w K mg base N qual scope f cd A outer s₀ H₀ E) (e₀::rest) t) (hdb:(x==("__debug__":Str))=false:=by decide)
  (he:starEach (e₀::rest) (envOfC qual scope s₀.heap.objs.size f cd)=(false,eval e₀ (envOfC qual scope s₀.heap.objs.size f cd))::starEach rest (envOfC qual scope s₀.heap.objs.size f cd):=by rfl)
  (hplain:(backTo cpos (starEach rest (envOfC qual scope s₀.heap.objs.size f cd))).any (·.1)=false:=by rfl):
  PS (cx1 P w K mg base N qual scope f cd A outer s₀ H₀ E) (.Raise (some (.Call (.Name x np) (e₀::rest) [] cpos)) none pos) (bc E C t):=by
 intro pins s σ H D' I h
 obtain ⟨⟨nm,q,Nc,bs,hdct,sn,sub,ab,col,dd,k0,k1,k2,k3,k5,l1,n1⟩,⟨c0,dD,cdD,sl,l2,n2⟩⟩:=Z
 obtain ⟨mN,hN,hni⟩:=jH I.kIn n1
 obtain ⟨mD,hD,hnd⟩:=jH I.kIn n2
 have hb:=I.ok.hd rfl
 refine wpAny_Raise_call_subU (C:=C) (nm:=nm) (q:=q) (N:=Nc) (bs:=bs) (bm:=.ref D::VE) (bmB:=VE) (hdct:=hdct) (sn:=sn) (sub:=sub) (ab:=ab) (col:=col) (dd:=dd) (k0:=k0) (k1:=k1) (k2:=k2) (k3:=k3) (k5:=k5)
  F.excBase_ValueError (by decide+kernel) F.excBase_ValueError (mN:=mN) (by rw [List.contains_cons,show VE.contains (.type "BaseException")=true by decide+kernel,Bool.or_true]) hb (by rw [show starEach (e₀::rest) (cx1 P w K mg base N qual scope f cd A outer s₀ H₀ E).env=_ from he]; show (false||(backTo cpos (starEach rest (envOfC qual scope s₀.heap.objs.size f cd))).any (·.1))=false; rw [hplain]; rfl) hni (i4 I hg hm ⟨rfl,?_⟩ hdb)
 have h1:=ha cpos pins s σ H _ I h
 rw [show starEach (e₀::rest) (cx1 P w K mg base N qual scope f cd A outer s₀ H₀ E).env=_ from he] at h1 ⊢
 refine Calls.evalArgs_plain (wpAny_mono h1 (fun vs s₂ h₂=>?_) fun _ _ y=>y)
 obtain ⟨xs,H2,I2,rv,hl,hE⟩:=h₂
 obtain ⟨mN2,hN2,hni2⟩:=jH I2.kIn n1
 obtain ⟨mD2,hD2,hnd2⟩:=jH I2.kIn n2
 have kk:s.heap.Ns Nc mN→s₂.heap.Ns Nc mN:=fun ⟨o,es,ep,a1,a2⟩=>by
  obtain ⟨o2,es2,ep2,b1,b2⟩:=hN2
  unfold gQ at n1
  split at n1
  · rename_i c d es' ep' sl' ho
    have e1:=I.kIn _ _ ho
    have e2:=I2.kIn _ _ ho
    rw [a1] at e1; cases e1
    exact ⟨_,es,ep,e2,a2⟩
  · cases n1
 refine ⟨rfl,by rw [← rv.length]; exact hl,I2.kIn _ _ l1,kk hN,.own (I2.kIn _ _ l2) hD2 hnd2 .base,fun h' e hm'=>?_⟩
 exact uG I2 hm' hE
end
end L2
namespace L2
open PySem PySem.Spec PyProof.Rows
theorem xj {P:Program} {w:World} {X:Cx}:dY (CX1 P w) X E0:=fun _ _ _ _ _ _ _ h=>by obtain ⟨_,_,_,_,_,_,q⟩:=h; exact (show False from q).elim
section
variable {P:Program} {w:World} {K:PySem.W.Frag} {mg:Str→Option Value} {base:Heap}
theorem Fun.ok1 {x qual:Str} {st:Stmt} {f:Addr} {fd:FuncData} {N ps:List Str} {k:Nat} {sp:Sp} (F:Fun K x qual st f fd) (S:aA N ps (ao st)) (len:∀ vs H Q E,sp vs H Q E→vs.length=ps.length)
  (hbody:∀ (cdv:Value) (A:Around) (outer:List Env) (s:Shared) (H:Hp) (vs:List V) (Q:VK) (E:XK),Room k (A.deeper (envOfC qual (ao st) s.heap.objs.size f cdv))→sp vs H Q E→
   ∃ t,PSs (cx1 P w K mg base N qual (ao st) f cdv A outer s H E) (aV st) t∧t { nx:=fun _ H'=>Q .non H',rt:=Q } (start N vs) H):FnOk P w K mg base (CX1 P w) (k+1) f fd ps sp:=by
 obtain ⟨oc,od,kV,doc,pm,an,cdv,ct,osl,rfl,lk,hcd⟩:=F.ex
 exact uY lk hcd S len fun A outer s H vs Q E hr hsp=>hbody cdv A outer s H vs Q E hr hsp
end
section
variable {X:Cx} {pins:List (Addr × Obj)} {σ:St} {H:Hp} {s s':Shared}
theorem tU {H':Hp} {x T C:Addr} {a0:Value} {h5:Heap} (I:Inv X pins σ H s) (F:Fly X.prog X.w X.stack H s x T C H' s') (fl:Heap.FlyingW (PySem.W.hideAll s'.heap (frs X.stack++[x,T])) X.stack x (.ref C) a0 h5) (up:s'.heap.UpToSlots h5):
  Inv X pins σ (upd H' x (.ext (XO x C))) { s' with heap:=h5 }:=by
 obtain ⟨k1,_,_,oe,vs,T',oT,ts,he,hc,hd,_⟩:=fl
 have keepAll:∀ b o,s'.heap.get? b=some o→b∉frs X.stack→b∉[x,T]→h5.get? b=some o:=fun b o e hb hx=>k1 b o (PySem.W.hideAll_get _ e fun z=>(List.mem_append.mp z).elim hb hx)
 have frD:∀ b∈frs X.stack,∃ o,s.heap.get? b=some o∧∀ vs,o.data≠.fields vs:=fun b hb=>(I.stack.mem hb).2
 have hstk:=I.stkFree
 have nxT:∀ b o,s.heap.get? b=some o→b∉[x,T]:=fun b o e z=>by
  simp only [List.mem_cons,List.not_mem_nil,or_false] at z
  rcases z with rfl | rfl
  · rw [F.nx] at e; cases e
  · rw [F.nT] at e; cases e
 have slots:∀ b o,s.heap.get? b=some o→H b=none→b∈frs X.stack→∃ sl,h5.get? b=some { o with slots:=sl }:=fun b o e n hb=>by
  obtain ⟨sl,e1⟩:=F.un.slot b o e n hb (by simp)
  obtain ⟨o2,e2,d2⟩:=frD b hb
  rw [e] at e2; cases e2
  obtain ⟨sl2,e3⟩:=up b _ e1 d2
  exact ⟨sl2,e3⟩
 have frH:∀ b∈frs X.stack,H' b=none:=fun b hb=>by
  obtain ⟨o,e,d⟩:=frD b hb
  exact F.un.free b o e (hstk b hb) (by simp)
 have ne:∀ b o,H' b=some o→b≠x:=fun b o e z=>by rw [z,F.fx] at e; cases e
 have okx:ObjOk X.prog X.w (upd H' x (.ext (XO x C))) h5 x (.ext (XO x C)):=⟨⟨oe,vs,he,hc.1,hd⟩,⟨oe,he⟩,fun h1 h2 ⟨o,vs,q,r⟩ k=>⟨o,vs,k o q,r⟩⟩
 refine I.call' (ch:=[]) F.os ⟨fun b o e n hb _=>?_,fun b o e n hb _=>?_,fun b o e n _=>?_,fun b o e _=>?_,fun b xs e=>?_,fun b o u e=>?_,fun b ps e=>?_⟩ (fun a o e=>?_) F.bare fun b z=>absurd z (by simp)
 · exact keepAll b o (F.un.keep b o e n hb (by simp)) hb (nxT b o e)
 · exact slots b o e n hb
 · have n1:=F.un.free b o e n (by simp)
   rw [am fun z=>nxT b o e (by rw [z]; simp)]
   exact n1
 · by_cases hb:b∈frs X.stack
   · obtain ⟨sl,e1⟩:=slots b o e (hstk b hb) hb
     exact ⟨_,e1⟩
   · obtain ⟨o',e1⟩:=F.un.there b o e (by simp)
     exact ⟨o',keepAll b o' e1 hb (nxT b o e)⟩
 · have q:=F.un.tups b xs e
   rw [am (ne b _ q)]; exact q
 · have q:=F.un.frzs b o u e
   rw [am (ne b _ q)]; exact q
 · obtain ⟨m,q⟩:=F.un.tbls b ps e
   exact ⟨m,by rw [am (ne b _ q)]; exact q⟩
 · by_cases ha:a=x
   · subst ha
     rw [af] at e; cases e
     exact okx
   · rw [am ha] at e
     refine (F.hok a o e).stay (fun b u hb q=>?_) (fun b q=>?_) fun b xs q=>?_
     · have hb':H' b≠none:=by
        rcases hb with rfl | hb
        · rw [e]; simp
        · rw [hb]; simp
       refine keepAll b u q (fun z=>hb' (frH b z)) fun z=>?_
       simp only [List.mem_cons,List.not_mem_nil,or_false] at z
       rcases z with rfl | rfl
       · exact hb' F.fx
       · exact hb' F.fT
     · rw [am (ne b _ q)]; exact q
     · rw [am (ne b _ q)]; exact q
theorem lz {M:Model} {A:Around} {E:Value→Shared→Prop} {i:Nat} {x:Str} {pos:Pos} {Q:Unit→Shared→Prop} (I:Inv X pins σ H s) (hN:X.N.Nodup) (hi:X.N[i]? =some x) (hk:X.env.kindOf x=some .local)
  (h:∀ s',Inv X pins (σ.set i none) H s'→Q () s'):wpAny M A (do bindName X.env x .none; unbindBehindTheSuite X.env x pos) Q E s:=by
 obtain ⟨m,hn,hl⟩:=id I.loc
 have hcls:(X.env.scope.kind==.class||(X.env.scope.kind==.module&&X.env.locals != X.env.globals))=false:=by rw [I.ok.kind]; rfl
 have hiσ:i < σ.length:=by rw [I.len]; exact (List.getElem?_eq_some_iff.mp hi).1
 have cne:=I.cne
 refine wpAny_nameGoes_keeps hk hn hcls fun h' v hn' hs=>?_
 obtain ⟨oL,_,_,hoL,_⟩:=id hn
 have tracked:HOk X.prog X.w H h':=fun b ob e=>by
  refine (I.hok b ob e).stay (fun c w' hc q=>(hs.2 c ?_).trans q) (fun _ q=>q) fun _ _ q=>q
  rintro rfl
  rcases hc with rfl | hc
  · rw [I.free] at e; cases e
  · rw [I.free] at hc; cases hc
 refine h _ ⟨I.ok,I.os,I.bare,⟨fun b o e n hb hx=>?_,fun b o e n hb hx=>?_,I.base.free,fun b o e hx=>?_,I.base.tups,I.base.frzs,I.base.tbls⟩,⟨_,hn',fun j y v' e1 e2 e3=>?_⟩,fun y c e=>?_,I.free,I.freeC,fun p hp=>?_,tracked,by simpa using I.len⟩
 · exact (hs.2 b (Nat.ne_of_lt (Nat.lt_of_lt_of_le (Heap.lt_size e) I.ok.above))).trans (I.base.keep b o e n hb hx)
 · obtain ⟨sl,e1⟩:=I.base.slot b o e n hb hx
   exact ⟨sl,(hs.2 b (Nat.ne_of_lt (Nat.lt_of_lt_of_le (Heap.lt_size e) I.ok.above))).trans e1⟩
 · obtain ⟨o',e1⟩:=I.base.there b o e hx
   exact ⟨o',(hs.2 b (Nat.ne_of_lt (Nat.lt_of_lt_of_le (Heap.lt_size e) I.ok.above))).trans e1⟩
 · by_cases hj:j=i
   · subst hj
     rw [List.getElem?_set_self hiσ] at e2
     cases e2
   · rw [List.getElem?_set_ne (Ne.symm hj)] at e2
     obtain ⟨u',r',q⟩:=hl j y v' e1 e2 e3
     refine ⟨u',r',?_⟩
     rcases q with ⟨k,e⟩ | ⟨k,c,e,z⟩
     · refine .inl ⟨k,?_⟩
       have:y≠x:=fun e=>hj (mj hN e1 (e ▸ hi))
       simp [this,e]
     · exact .inr ⟨k,c,e,z.sameBut hs (cne y c e)⟩
 · obtain ⟨w',z⟩:=I.cell y c e
   exact ⟨w',z.sameBut hs (cne y c e)⟩
 · obtain ⟨e,n,ne,nf,d⟩:=I.pin p hp
   exact ⟨(hs.2 p.1 ne).trans e,n,ne,nf,d⟩
end
abbrev Cx.caught (X:Cx) (x:Addr):Cx:={ X with A:=X.A.mark (some (.ref x)),calm:=false,xe:=fun _ _=>False }
section
variable {X:Cx} {pins:List (Addr × Obj)} {σ:St} {H:Hp} {s:Shared} {x:Addr}
theorem Cx.Ok.caught (ok:X.Ok):(X.caught x).Ok:=
 ⟨ok.mod,ok.kind,ok.glob,ok.blt,ok.above,ok.inj,ok.has,ok.cab,(fun z=>nomatch z),ok.frames,ok.stk,ok.exf,ok.bs,ok.bsz,ok.noex,ok.exfs,ok.funs,ok.frf⟩
theorem Inv.caught (I:Inv X pins σ H s):Inv (X.caught x) pins σ H s:=⟨I.ok.caught,I.os,I.bare,I.base,I.loc,I.cell,I.free,I.freeC,I.pin,I.hok,I.len⟩
theorem Inv.uncaught (ok:X.Ok) (I:Inv (X.caught x) pins σ H s):Inv X pins σ H s:=⟨ok,I.os,I.bare,I.base,I.loc,I.cell,I.free,I.freeC,I.pin,I.hok,I.len⟩
end
def Came (X:Cx) (pins:List (Addr × Obj)) (σ:St) (E:XK) (e:Value) (s':Shared):Prop:=∃ H1 s1,Inv X pins σ H1 s1∧CX1 X.prog X.w X.stack H1 s1 E e s'
section
variable {X:Cx} {k:Nat} {f:Addr} {fd:FuncData} {ps:List Str} {sp:Sp} {x:Str} {p pos:Pos} {e:Expr} {es:List Expr} {t:TA}
theorem vD {pins:List (Addr × Obj)} {s:Shared} {σ:St} {H:Hp} {Q:VK} (E:XK) (hnx:∀ e s,X.xe e s→False) (F:FnOk X.prog X.w X.K X.mg X.base (CX1 X.prog X.w) k f fd ps sp) (hr:Room k X.A) (hg:Gl X x) (hm:X.mg x=some (.ref f)) (hk:PySem.W.keepIn X.K (.ref f)=true) (hb:Binds X.K fd ps [])
  (ha:PA X (e::es) t) (I:Inv X pins σ H s) (h:t σ H fun vs H1=>sp vs H1 Q E) (hdb:(x==("__debug__":Str))=false:=by decide) (he:starEach (e::es) X.env=(false,eval e X.env)::starEach es X.env:=by rfl) (hpl:(backTo pos (starEach es X.env)).any (·.1)=false:=by rfl):
  wpAny (model X.prog X.w) X.A (eval (.Call (.Name x p) (e::es) [] pos) X.env) (EP X pins σ Q) (Came X pins σ E) s:=by
 refine wpAny_Call_Name_kw (i4 I hg hm ?_ hdb)
 refine PySem.W.callWith_K (h₀:=X.base) I.ok.mod.kin hk (wpAny_mono (ha pos pins s σ H _ I h) (fun us s1 ⟨vs,H1,I1,r,q⟩=>⟨I1.kIn,?_⟩) fun e s z=>(hnx e s z).elim) he hpl
 have r2:Vals vs (us++[]):=by simpa using r
 have hl:(us++[]).length=ps.length:=by rw [← r2.length]; exact F.len _ _ _ _ q
 refine wpAny_call (codeAny_mono (F.run X.A X.stack s1 H1 ⟨us,[]⟩ (us++[]) vs Q E hr I1.env0 (hb s1 us I1.kIn hl) r2 q) fun r s' hq=>?_)
 cases r with
 | error e=>exact ⟨H1,s1,I1,hq⟩
 | ok fl=>
  cases fl with
  | ret u=>exact I1.after hq
  | next=>exact False.elim hq
  | brk=>exact False.elim hq
  | cont=>exact False.elim hq
def tV (K:PySem.W.Frag) (cv:Value) (i:Nat) (E:XK) (th:TS):TS:=fun D σ _=>∀ C H2,E (.ref C) none H2→PySem.W.exmOne K (.ref C) cv=some true∧∀ x,H2 x=none→
 th { nx:=fun σ' H'=>D.nx (σ'.set i none) H',rt:=D.rt,bk:=fun σ' H'=>D.bk (σ'.set i none) H',ct:=fun σ' H'=>D.ct (σ'.set i none) H' } (σ.set i (some (.ref x))) (upd H2 x (.ext (XO x C)))
theorem vE {M:Model} {a C:Addr} {h:Heap} (z:XO a C h):PySem.W.Looks M h (typeOf (.ref a)) (.ref C):=by
 obtain ⟨o,vs,hx,hc,_⟩:=z
 intro A Q E s k q
 unfold typeOf
 refine wpAny_bind (wpAny_loadPart (k _ _ hx) ?_)
 rw [hc]
 exact wpAny_pure q
theorem uJ {pins:List (Addr × Obj)} {s':Shared} {σ:St} {H:Hp} {D:Ends} {E:XK} {i:Nat} {n cn:Str} {cv e:Value} {np hpos:Pos} {b₀:Stmt} {suite:List Stmt} {th:TS} (hN:X.N.Nodup) (hi:X.N[i]? =some n) (hkn:X.env.kindOf n=some .local) (hg:Gl X cn) (hm:X.mg cn=some cv)
  (hst:X.stack=X.env::X.outer) (hf:X.env.frame=some X.env.locals) (hs:∀ x,PSs (X.caught x) (b₀::suite) th) (hc:Came X pins σ E e s') (h:tV X.K cv i E th D σ H) (hdb:(cn==("__debug__":Str))=false:=by decide):
  wpAny (model X.prog X.w) X.A (noteFrame e X.env) (fun _ s₂=>wpAny (model X.prog X.w) X.A (setFlight e none) (fun _ s₃=>wpAny (model X.prog X.w) X.A (handleBy e X.env [.ExceptHandler (some (.Name cn np)) (some n) (b₀::suite) hpos]) (SP X pins D) X.xe s₃) X.xe s₂) X.xe s':=by
 obtain ⟨H1,s1,I,x,T,C,H',rfl,F,q⟩:=hc
 obtain ⟨hC,hth⟩:=h C H' q
 obtain ⟨oe,vs,oT,ts,a0,he,hcl,h0,hd,h1,hTx,hT,hdT,h3⟩:=F.tr
 have ff:s'.heap.FunFrames X.base X.stack:=ly I.stack (fun b hb=>⟨hb,I.stkFree b hb⟩) F.un
 have fl:Heap.FlyingW (PySem.W.hideAll s'.heap (frs X.stack++[x,T])) X.stack x (.ref C) a0 s'.heap:=
  ⟨fun b o e=>PySem.W.of_hideAll _ e,PySem.W.hideAll_none _ (by simp),jk ff fun b hb=>List.mem_append_left _ hb,oe,vs,T,oT,ts,he,⟨hcl,h0⟩,hd,h1,PySem.W.hideAll_none _ (by simp),hTx,hT,hdT,h3⟩
 have fl':=fl
 rw [hst] at fl'
 have hfr:X.A.frames=some (X.env::X.outer):=by rw [I.ok.frames,hst]
 refine wpAny_looks_onW hfr hf fl' fun h4 held up4=>?_
 refine wpAny_landsW held fun h5 fl5 up5=>?_
 have I5:=tU (a0:=a0) (h5:=h5) I F (by rw [hst]; exact fl5) (up4.trans up5)
 refine wpAny_handleBy_cons (codeAny_handlers_test (i4 (X:=X.caught x) I5.caught hg hm ?_ hdb)) (by intro q; cases q)
 have hx5:XO x C h5:=(I5.hok x _ af).1
 refine (PySem.W.exm_one (M:=model X.prog X.w) (h:=h5) I5.kIn (vE hx5) hC).here ?_
 refine codeAny_handlers_suite_as ?_
 refine lands_againW fl5 fun h6 fl6 up6=>?_
 have I6:=tU (a0:=a0) (h5:=h6) I F (by rw [hst]; exact fl6) ((up4.trans up5).trans up6)
 refine ml (X:=X.caught x) (v:=.ref x) I6.caught hN hi (.inl hkn) rfl (fun s7 I7=>?_) (.inr hkn)
 refine wpAny_mono (hs x pins s7 _ _ _ I7 (hth x F.fx)) (fun fw s8 h8=>?_) fun _ _ z=>z.elim
 cases fw with
 | next=>obtain ⟨σ',H9,I9,q9⟩:=h8; exact lz (I9.uncaught I.ok) hN hi hkn fun s' I'=>⟨_,H9,I',q9⟩
 | brk=>obtain ⟨σ',H9,I9,q9⟩:=h8; exact lz (I9.uncaught I.ok) hN hi hkn fun s' I'=>⟨_,H9,I',q9⟩
 | cont=>obtain ⟨σ',H9,I9,q9⟩:=h8; exact lz (I9.uncaught I.ok) hN hi hkn fun s' I'=>⟨_,H9,I',q9⟩
 | ret u=>obtain ⟨v,σ',H9,I9,r9,q9⟩:=h8; exact lz (I9.uncaught I.ok) hN hi hkn fun s' I'=>⟨v,_,H9,I',r9,q9⟩
def tTryE (K:PySem.W.Frag) (sp:Sp) (t:TA) (cv:Value) (i:Nat) (th:TS):TS:=fun D σ H=>∃ E:XK,(t σ H fun vs H1=>sp vs H1 (fun _ H2=>D.nx σ H2) E)∧tV K cv i E th D σ H
theorem vF {i:Nat} {n cn:Str} {cv:Value} {np hpos epos tpos:Pos} {b₀:Stmt} {suite:List Stmt} {th:TS} (hnx:∀ e s,X.xe e s→False) (F:FnOk X.prog X.w X.K X.mg X.base (CX1 X.prog X.w) k f fd ps sp) (hr:Room k X.A) (hgf:Gl X x) (hmf:X.mg x=some (.ref f)) (hk:PySem.W.keepIn X.K (.ref f)=true) (hb:Binds X.K fd ps [])
  (ha:PA X (e::es) t) (hN:X.N.Nodup) (hi:X.N[i]? =some n) (hkn:X.env.kindOf n=some .local) (hg:Gl X cn) (hm:X.mg cn=some cv)
  (hst:X.stack=X.env::X.outer) (hf:X.env.frame=some X.env.locals) (hs:∀ x,PSs (X.caught x) (b₀::suite) th) (hdb:(x==("__debug__":Str))=false:=by decide) (hdc:(cn==("__debug__":Str))=false:=by decide)
  (he:starEach (e::es) X.env=(false,eval e X.env)::starEach es X.env:=by rfl) (hpl:(backTo pos (starEach es X.env)).any (·.1)=false:=by rfl) (hsw:swapsWith (.Call (.Name x p) (e::es) [] pos) none epos.line X.env=pure false:=by rfl):
  PS X (.Try [.Expr (.Call (.Name x p) (e::es) [] pos) epos] [.ExceptHandler (some (.Name cn np)) (some n) (b₀::suite) hpos] [] [] tpos) (tTryE X.K sp t cv i th):=by
 intro pins s σ H D I h
 obtain ⟨E,h1,h2⟩:=h
 refine wpAny_Try_except (wpAny_execs_cons (wpAny_Expr_any (wpAny_mono (vD E hnx F hr hgf hmf hk hb ha I h1 hdb he hpl) (fun v s1 ⟨y,H1,I1,r1,q1⟩=>?_) fun e s' hc=>?_) I.quiet hsw))
 · exact wpAny_execs_nil (wpAny_execs_nil ⟨σ,H1,I1,q1⟩)
 · exact uJ hN hi hkn hg hm hst hf hs hc h2 hdc
end
end L2
namespace L2
open PySem PySem.Spec PyProof.Rows
def fB (es:Array DictEntry):Bool:=es.toList.all mw&&(nsFind es "__init__").isNone
theorem pf {K:PySem.W.Frag} {N:Addr} {c:Value} {d:Option Addr} {es:Array DictEntry} {n:Nat} {sl:Array (Option Value)} (l:K.lookup N=some ⟨c,d,.dict es n,sl⟩) (h:fB es=true):gQ K N=true:=by
 unfold gQ
 rw [l]
 exact h
structure EA where
 ClueError:Addr
 NoFloor:Addr
 NoFilling:Addr
 NoRule:Addr
 NoPuzzle:Addr
 TooMany:Addr
 NotOne:Addr
 NoMove:Addr
 NoText:Addr
 NoName:Addr
 NoRow:Addr
 BadThought:Addr
abbrev Glb (K:PySem.W.Frag) (x:Str) (C:Addr):Prop:=PySem.W.nsIn K mainGlobals x=some (some (.ref C))
theorem Glb.eq {K:PySem.W.Frag} {x:Str} {C D:Addr} (h:Glb K x C) (h':Glb K x D):C=D:=by
 have:=h.symm.trans h'
 cases this
 rfl
structure ak (K:PySem.W.Frag) (a:EA) (x:Str) (C:Addr) (os:List Addr):Prop where
 g:Glb K x C
 xc:XC K C a.ClueError
 xis:XIs K C
 ve:PySem.W.kitOne K (.ref C) (.type "ValueError")=some true
 ex:PySem.W.exmOne K (.ref C) (.ref a.ClueError)=some true
 no:∀ y∈os,PySem.W.kitOne K (.ref C) (.ref y)=some false
theorem jm {K:PySem.W.Frag} {C:Addr}:PySem.W.kitOne K (.ref C) (.ref C)=some true:=by
 unfold PySem.W.kitOne
 rw [if_pos (by simp)]
theorem j9 {K:PySem.W.Frag} {x C y:Addr} {b:Bool} {H:Hp} {Q:VK} (Z:XIs K C) (hx:H x=some (.ext (XO x C))) (hk:PySem.W.kitOne K (.ref C) (.ref y)=some b) (h:Q (.bl b) H):kIsX K [.ref x,.ref y] H Q:=⟨x,C,_,_,b,rfl,hx,Z,rfl,hk,h⟩
theorem wH {K:PySem.W.Frag} {x C:Addr} {n:String} {b:Bool} {H:Hp} {Q:VK} (Z:XIs K C) (hx:H x=some (.ext (XO x C))) (hk:PySem.W.kitOne K (.ref C) (.type n)=some b) (h:Q (.bl b) H):kIsX K [.ref x,.ty n] H Q:=⟨x,C,_,_,b,rfl,hx,Z,rfl,hk,h⟩
theorem m7 {K:PySem.W.Frag} {C D:Addr} {nm q:Str} {N ND:Addr} {bs:List Value} {hdct:Bool} {sn:List Str} {sub:List Value} {ab:Bool} {col:Option Bool} {dd:Option Addr} {k0 k1 k2 k3 k5:Option Value} {c0:Value} {dD:Option Addr} {cd:ClassData} {sl:Array (Option Value)}
  {cN cE:Value} {dN dE:Option Addr} {es es':Array DictEntry} {n n':Nat} {sN sE:Array (Option Value)}
  (l1:K.lookup C=some (excClassObj nm q C N bs (.ref D::VE) hdct sn sub ab col dd k0 k1 k2 k3 k5 "ValueError.__new__")) (m1:K.lookup N=some ⟨cN,dN,.dict es n,sN⟩) (n1:fB es=true)
  (l2:K.lookup D=some ⟨c0,dD,.cls cd,sl⟩) (e2:cd.ns=ND) (m2:K.lookup ND=some ⟨cE,dE,.dict es' n',sE⟩) (n2:fB es'=true):XC K C D:=.mk' l1 (pf m1 n1) l2 (pf (by rw [e2]; exact m2) n2)
theorem pE:bootBuiltins "ValueError"=some (.type "ValueError"):=by decide+kernel
structure aL (P:Program) (w:World) (K:PySem.W.Frag) (mg:Str→Option Value) (base:Heap) (k:Nat) (x:Str) (ps:List Str) (sp:Sp):Prop where
 ex:∃ (f:Addr) (fd:FuncData),FnOk P w K mg base (CX1 P w) k f fd ps sp∧mg x=some (.ref f)∧PySem.W.keepIn K (.ref f)=true∧Binds K fd ps []
theorem bd {X:Cx} {k n:Nat} {x:Str} {ps:List Str} {sp:Sp} {p pos:Pos} {e:Expr} {es:List Expr} {t:TA} {E:XK} (hE:dY (CX1 X.prog X.w) X E) (C:aL X.prog X.w X.K X.mg X.base k x ps sp) (hr:Room n X.A) (hk:k≤n) (hg:Gl X x) (ha:PA X (e::es) t)
  (hdb:(x==("__debug__":Str))=false:=by decide) (he:starEach (e::es) X.env=(false,eval e X.env)::starEach es X.env:=by rfl) (hpl:(backTo pos (starEach es X.env)).any (·.1)=false:=by rfl):
  PE X (.Call (.Name x p) (e::es) [] pos) (tCall sp [] E t):=by
 obtain ⟨f,fd,F,hm,hkp,hb⟩:=C.ex
 exact rK F (hr.mono hk) hg hm hkp hb .nil hE ha hdb he hpl
section
variable {X:Cx} {k nn:Nat} {ps:List Str} {sp:Sp} {x:Str} {p pos:Pos} {e:Expr} {es:List Expr} {t:TA}
theorem vG {i:Nat} {n cn:Str} {cv:Value} {np hpos epos tpos:Pos} {b₀:Stmt} {suite:List Stmt} {th:TS} (hnx:∀ e s,X.xe e s→False) (C:aL X.prog X.w X.K X.mg X.base k x ps sp) (hr:Room nn X.A) (hk:k≤nn) (hgf:Gl X x)
  (ha:PA X (e::es) t) (hN:X.N.Nodup) (hi:X.N[i]? =some n) (hkn:X.env.kindOf n=some .local) (hg:Gl X cn) (hm:X.mg cn=some cv)
  (hst:X.stack=X.env::X.outer) (hf:X.env.frame=some X.env.locals) (hs:∀ x,PSs (X.caught x) (b₀::suite) th) (hdb:(x==("__debug__":Str))=false:=by decide) (hdc:(cn==("__debug__":Str))=false:=by decide)
  (he:starEach (e::es) X.env=(false,eval e X.env)::starEach es X.env:=by rfl) (hpl:(backTo pos (starEach es X.env)).any (·.1)=false:=by rfl) (hsw:swapsWith (.Call (.Name x p) (e::es) [] pos) none epos.line X.env=pure false:=by rfl):
  PS X (.Try [.Expr (.Call (.Name x p) (e::es) [] pos) epos] [.ExceptHandler (some (.Name cn np)) (some n) (b₀::suite) hpos] [] [] tpos) (tTryE X.K sp t cv i th):=by
 obtain ⟨f,fd,F,hm',hkp,hb⟩:=C.ex
 exact vF hnx F (hr.mono hk) hgf hm' hkp hb ha hN hi hkn hg hm hst hf hs hdb hdc he hpl hsw
end
end L2
namespace L2
open PySem PySem.Spec PyProof.Rows
def cMulB:R2
 | .int i,.int j,H,Q=>IntMulOk i j∧Q (.int (i*j)) H
 | _,_,_,_=>False
end L2
namespace Att
open PySem PySem.W PySem.Calls PyProof.Rows
end Att
namespace L2
open PySem PySem.Spec PyProof.Rows
section
variable {K:PySem.W.Frag} {H:Hp} {Q:VK} {D:Ends} {σ:St}
theorem xy {i j:Int}:cMulB (.int i) (.int j) H Q=(IntMulOk i j∧Q (.int (i*j)) H):=rfl
theorem ka {i j:Int}:cPow (.int i) (.int j) H Q=(CPow i j∧Q (.int (i^j.toNat)) H):=rfl
theorem aP {E:XK} {C:Addr} {t:TA}:bc E C t D σ H=t σ H fun vs H1=>vs.length≤sizeLine∧E (.ref C) none H1:=rfl
theorem rW {ix:List (Option Nat)} {tl:TE} {g:TG} {tt:TT} {te:TE}:tComp ix (iTup K tl) g tt te σ H Q=tl σ H fun x H1=>∃ a,x=.ref a∧(∃ xs,SqT K H1 a xs)∧CompR (Itt K a) g tt te (fun l H'=>Q (.ref l) H') (subσ ix σ) H1:=rfl
theorem gR {p q:Addr} {xs ys:List V} (hp:H p=some (.lst xs)) (hq:H q=some (.lst ys)) (hn:xs.length+ys.length≤1000) (h:∀ r,H r=none→Q (.ref r) (upd H r (.lst (xs++ys)))):cAdd (.ref p) (.ref q) H Q:=by
 show bnd (unM (H p)) _
 rw [hp]
 refine bo (a:=xs) rfl ?_
 rw [hq]
 exact bo (a:=ys) rfl ⟨Nat.le_of_lt (aS hn),h⟩
theorem uK {g:TG} {tt:TT} {te:TE} {a:Addr} {xs:List V} {fin:Addr→Hp→Prop} {σ0:St} {H1:Hp} (Pv:Addr→Nat→St→Hp→Prop) (h0:∀ l,H1 l=none→Pv l 0 σ0 (upd H1 l (.lst []))) (hq:∀ l i σ H,H1 l=none→i≤xs.length→Pv l i σ H→SqT K H a xs)
  (hs:∀ l i x σ H,H1 l=none→xs[i]? =some x→Pv l i σ H→g x σ H fun σ2 H3=>tt σ2 H3 fun b H4=>if b=true then te σ2 H4 fun y H5=>∃ ys,H5 l=some (.lst ys)∧ys.length < sizeLine∧Pv l (i+1) σ2 (upd H5 l (.lst (ys++[y]))) else Pv l (i+1) σ2 H4)
  (hd:∀ l σ H,H1 l=none→Pv l xs.length σ H→fin l H):CompR (Itt K a) g tt te fin σ0 H1:=by
 intro l hl0
 refine ⟨fun i m σ H=>m=xs.length - i∧i≤xs.length∧Pv l i σ H,⟨xs.length,by simp,Nat.zero_le _,h0 l hl0⟩,?_⟩
 rintro i m σ H ⟨rfl,hi,p⟩
 have q:=hq l i σ H hl0 hi p
 by_cases hlt:i < xs.length
 · refine .inr ⟨⟨xs,xs[i],q,by simp [hlt]⟩,Pv l (i+1),fun σ' H' p'=>⟨xs.length - (i+1),by omega,rfl,hlt,p'⟩,fun x H' y=>?_⟩
   obtain ⟨e,y⟩:=y
   subst e
   exact hs l i x σ _ hl0 (y xs q) p
 · have e:i=xs.length:=by omega
   subst e
   exact .inl ⟨⟨xs,q,Nat.le_refl _⟩,hd l σ H hl0 p⟩
end
end L2
namespace L2
open PySem PySem.Spec PyProof.Rows
inductive RK where
 | Rule | Unlike | Sum | Rising | Seen | Count | Joined | NoSquare | Ring
 deriving DecidableEq
structure RCl (ι:Type) where
 A:ι→Addr
 ok:ι→Bool
section
variable {ι:Type}
def tFldK (c:RCl ι) (ta:TE) (f:Str):TE:=fun σ H Q=>ta σ H fun x H1=>∃ a k dx fs v,x=.ref a∧c.ok k=true∧H1 a=some (.ins (c.A k) dx fs)∧fs.lookup f=some v∧Q v H1
def sFldK (c:RCl ι) (ta tv:TE) (f:Str):TS:=fun D σ H=>tv σ H fun y H1=>ta σ H1 fun x H2=>∃ a k dx fs,x=.ref a∧c.ok k=true∧H2 a=some (.ins (c.A k) dx fs)∧fs.length < 1000∧
 D.nx σ (upd H2 a (.ins (c.A k) dx (putF f y fs)))
def iG (c:RCl ι) (okm:ι→Bool) (m:Str) (sp:ι→Sp) (ta:TE) (t:TA):TE:=fun σ H Q=>ta σ H fun x H1=>∃ a k dx fs,x=.ref a∧okm k=true∧H1 a=some (.ins (c.A k) dx fs)∧fs.lookup m=none∧
 t σ H1 fun vs H2=>sp k (x::vs) H2 Q E0
structure FldK (K:PySem.W.Frag) (c:RCl ι) (f:Str):Prop where
 ex:∀ k,c.ok k=true→Cls K (c.A k)∧NoAttr K (c.A k) f
structure MCal (P:Program) (w:World) (K:PySem.W.Frag) (mg:Str→Option Value) (base:Heap) (c:RCl ι) (okm:ι→Bool) (k:Nat) (m:Str) (ps:List Str) (sp:ι→Sp):Prop where
 ex:∀ i,okm i=true→∃ (f:Addr) (fd:FuncData),Cls K (c.A i)∧Meth K (c.A i) m f∧FnOk P w K mg base CX0 k f fd ps (sp i)∧Binds K fd ps []
structure KCal (P:Program) (w:World) (K:PySem.W.Frag) (mg:Str→Option Value) (base:Heap) (k:Nat) (x:Str) (C:Addr) (ps:List Str) (sp:Sp):Prop where
 ex:∃ (f:Addr) (fd:FuncData),Mk K C f∧FnOk P w K mg base CX0 k f fd ps sp∧mg x=some (.ref C)∧Binds K fd ps []
end
section
variable {ι:Type} {X:Cx} {c:RCl ι} {o e value:Expr} {es:List Expr} {f x m:Str} {p pos pos' apos:Pos} {ta tv:TE} {t:TA} {okm:ι→Bool} {k n:Nat} {ps:List Str} {sp:ι→Sp} {sp1:Sp} {C:Addr}
theorem i7 (he:PE X e ta) (F:FldK X.K c f) (hb:attributeBase e f X.env (eval e X.env)=eval e X.env:=by rfl):PE X (.Attribute e f pos) (tFldK c ta f):=by
 intro pins s σ H Q I h
 refine vn hb (thn (he pins s σ H _ I h) fun u s1 ⟨x,H1,I1,rx,a,k,dx,fs,v,ex,hk,ea,l,q⟩=>?_)
 subst ex
 obtain rfl:u=Value.ref a:=rx
 obtain ⟨cl,na⟩:=F.ex k hk
 exact sk I1 ea cl na l fun u' s2 I2 ru=>⟨v,H1,I2,ru,q⟩
theorem gq (ha:PE X o ta) (hv:PE X value tv) (F:FldK X.K c f) (hs:swapsWith value (some (.Attribute o f pos')) pos.line X.env=pure false:=by rfl):PS X (.Assign [.Attribute o f pos'] value pos) (sFldK c ta tv f):=by
 intro pins s σ H D I h
 refine plainObj_wpAny_Assign_Attribute (thn (hv pins s σ H _ I h) fun u s1 ⟨y,H1,I1,ry,q⟩=>thn (ha pins s1 σ H1 _ I1 q) fun ov s2 ⟨x,H2,I2,rx,a,k,dx,fs,ex,hk,ea,l,q2⟩=>?_) hs
 subst ex
 obtain rfl:ov=Value.ref a:=rx
 obtain ⟨cl,na⟩:=F.ex k hk
 exact so I2 ea cl na l ry fun s3 I3=>⟨σ,_,I3,q2⟩
theorem jI {pl:Sem Bool} (M:MCal X.prog X.w X.K X.mg X.base c okm k m ps sp) (hr:Room n X.A) (hk:k≤n) (he:PE X o ta)
  (ht:eval (.Call (.Attribute o m apos) [] [] pos) X.env=(do
   let ov ← eval o X.env
   standAt apos.atName
   let (f,first) ← holding [ov] (getMethod ov m pl)
   callWith pos f first (backTo pos (starEach [] X.env)) (backToKw pos (keywordEach [] X.env))):=by rfl):
  PE X (.Call (.Attribute o m apos) [] [] pos) (iG c okm m sp ta tNil):=by
 intro pins s σ H Q I h
 refine PySem.W.methodCall_KW (pl:=pl) (thn (he pins s σ H _ I h) fun u s1 ⟨x,H1,I1,rx,a,i,dx,fs,ex,hi,ea,l,q⟩=>?_) ht
 subst ex
 obtain rfl:u=Value.ref a:=rx
 obtain ⟨f,fd,cl,hm,F,hb⟩:=M.ex i hi
 refine mU I1 ea cl hm l ?_
 exact PySem.W.callWith_K0 (first:=[.ref a]) I1.kIn hm.kp (qc (us:=[.ref a]) (vs:=[.ref a]) F (hr.mono hk) hb .nil su I1 (.cons rfl .nil) q)
theorem jJ (M:KCal X.prog X.w X.K X.mg X.base k x C ps sp1) (hr:Room n X.A) (hk:k+1≤n) (hg:Gl X x) (ha:PA X (e::es) t)
  (hdb:(x==("__debug__":Str))=false:=by decide) (he:starEach (e::es) X.env=(false,eval e X.env)::starEach es X.env:=by rfl) (hpl:(backTo pos (starEach es X.env)).any (·.1)=false:=by rfl):
  PE X (.Call (.Name x p) (e::es) [] pos) (tMake C sp1 [] E0 t):=by
 obtain ⟨f,fd,mk,F,hm,hb⟩:=M.ex
 exact rL mk F (hr.mono hk) hg hm hb .nil su ha hdb he hpl
end
def jn (K:PySem.W.Frag):List V→Hp→VK→Prop
 | [.ref p],H,Q=>bnd (unM (H p)) fun ys=>∀ l,H l=none→Q (.ref l) (upd H l (.tup ys))
 | _,_,_=>False
def tInG (ws:List Str) (neg:Bool) (te:TE):TE:=fun σ H Q=>te σ H fun x H1=>∃ z,x=.str z∧Q (.bl (if neg then !decide (z∈ws) else decide (z∈ws))) H1
structure GTup (K:PySem.W.Frag) (mg:Str→Option Value) (x:Str) (ws:List Str):Prop where
 ex:∃ (p:Addr) (o:Obj) (its:Array Value) (n:Nat),mg x=some (.ref p)∧K.lookup p=some o∧o.cls=.type "tuple"∧o.data=.seq its n∧its.size≤sizeLine∧Vals (ws.map V.str) its.toList
theorem kH:∀ ns:List Str,(ns.map V.str).all flatV=true
 | []=>rfl
 | n::r=>by rw [List.map_cons,List.all_cons,kH r]; rfl
theorem mx (i:Str):∀ ns:List Str,inV (.str i) (ns.map V.str)=decide (i∈ns)
 | []=>by simp [inV]
 | n::r=>by
  have ih:=mx i r
  unfold inV at ih ⊢
  rw [List.map_cons,List.any_cons,ih]
  show ((n==i)||decide (i∈r))=decide (i∈n::r)
  rw [Bool.eq_iff_iff,Bool.or_eq_true,beq_iff_eq,decide_eq_true_eq,decide_eq_true_eq,List.mem_cons]
  exact ⟨fun h=>h.elim (fun e=>.inl e.symm) .inr,fun h=>h.elim (fun e=>.inl e.symm) .inr⟩
section
variable {X:Cx} {a:Expr} {ta:TE} {pos p:Pos} {x:Str} {ws:List Str}
theorem mf:CallR X (.type "tuple") (jn X.K):=by
 intro pins s σ H xs us Q I r h
 unfold jn at h
 split at h
 · obtain ⟨ys,e,q⟩:=bB h
   exact pC pins s σ H _ us Q I r ⟨_,ys,rfl,.inl ⟨SqL.of (jb e),q⟩⟩
 · exact h.elim
theorem wI {ws:List Str} {q:Addr} (hq:∃ (o:Obj) (its:Array Value) (n:Nat),X.K.lookup q=some o∧o.cls=.type "tuple"∧o.data=.seq its n∧its.size≤sizeLine∧Vals (ws.map V.str) its.toList):
  OpR X (compareOp .In) (fun x y H Q=>∃ z,x=.str z∧y=.ref q∧Q (.bl (decide (z∈ws))) H):=by
 intro pins s σ H x y v u Q I rx ry h
 obtain ⟨z,rfl,rfl,h⟩:=h
 refine oZ pins s σ H _ _ v u Q I rx ry ⟨q,ws.map V.str,rfl,.inr (.inr hq),rfl,kH ws,?_⟩
 rw [mx]
 exact h
theorem vH {ws:List Str} {q:Addr} (hq:∃ (o:Obj) (its:Array Value) (n:Nat),X.K.lookup q=some o∧o.cls=.type "tuple"∧o.data=.seq its n∧its.size≤sizeLine∧Vals (ws.map V.str) its.toList):
  OpR X (compareOp .NotIn) (fun x y H Q=>∃ z,x=.str z∧y=.ref q∧Q (.bl (!decide (z∈ws))) H):=by
 intro pins s σ H x y v u Q I rx ry h
 obtain ⟨z,rfl,rfl,h⟩:=h
 refine qe pins s σ H _ _ v u Q I rx ry ⟨q,ws.map V.str,rfl,.inr (.inr hq),rfl,kH ws,?_⟩
 rw [mx]
 exact h
end
section
variable {ι:Type} {c:RCl ι} {ta tv:TE} {t:TA} {f m:Str} {σ:St} {H:Hp} {Q:VK} {D:Ends} {okm:ι→Bool} {sp:ι→Sp} {sp1:Sp} {C:Addr} {K:PySem.W.Frag}
theorem qH:tMake C sp1 [] E0 t σ H Q=t σ H fun vs H1=>∀ x dx,H1 x=none→H1 dx=none→dx≠x→sp1 (.ref x::(vs++[])) (upd (upd H1 dx (.own x)) x (.ins C dx [])) (fun v H2=>v=.non∧Q (.ref x) H2) E0:=rfl
theorem kb {ws:List Str} {neg:Bool} {te:TE}:tInG ws neg te σ H Q=te σ H fun x H1=>∃ z,x=.str z∧Q (.bl (if neg then !decide (z∈ws) else decide (z∈ws))) H1:=rfl
theorem vI {p:Addr} {xs:List V} (hp:H p=some (.lst xs)) (h:∀ l,H l=none→Q (.ref l) (upd H l (.tup xs))):jn K [.ref p] H Q:=by
 unfold jn
 dsimp only
 rw [hp]
 exact h
end
end L2
namespace L2
open PySem PySem.Spec PyProof.Rows
def cntD (ns:List Int):Nat:=(firstMet (fun i=>ns.getD i 0) ns.length).length
def ou (te:TE):TE:=fun σ H Q=>te σ H fun x H1=>∃ p ns,x=.ref p∧H1 p=some (.lst (ns.map V.int))∧ns.length≤900∧Q (.int (cntD ns:Nat)) H1
theorem ge {te:TE} {σ:St} {H:Hp} {Q:VK}:ou te σ H Q=te σ H fun x H1=>∃ p ns,x=.ref p∧H1 p=some (.lst (ns.map V.int))∧ns.length≤900∧Q (.int (cntD ns:Nat)) H1:=rfl
theorem vJ:bootBuiltins "set"=some (.type "set"):=by decide+kernel
theorem tW {X:Cx} {e:Expr} {te:TE} {p p2 pos pos2:Pos} (hc:X.calm=true) (hgl:Gl X "len") (hgs:Gl X "set") (hl:X.mg "len"=none) (hs:X.mg "set"=none) (he:PE X e te)
  (hs1:starEach [.Call (.Name "set" p2) [e] [] pos2] X.env=[(false,eval (.Call (.Name "set" p2) [e] [] pos2) X.env)]:=by rfl) (hs2:starEach [e] X.env=[(false,eval e X.env)]:=by rfl):
  PE X (.Call (.Name "len" p) [.Call (.Name "set" p2) [e] [] pos2] [] pos) (ou te):=by
 intro pins s σ H Q I h
 refine wpAny_Call_Name_kw (iw I hgl hl bM ?_ (by decide) (by decide))
 refine PyProof.Rows.callWith_builtin1 ?_ hs1 rfl
 rw [hs1]
 show wpAny _ _ (spliced [(false,eval (.Call (.Name "set" p2) [e] [] pos2) X.env)]) _ _ s
 refine Calls.spliced_cons ?_
 refine wpAny_Call_Name_kw (iw I hgs hs vJ ?_ (by decide) (by decide))
 refine PyProof.Rows.callWith_type1 ?_ hs2 rfl
 rw [hs2]
 show wpAny _ _ (spliced [(false,eval e X.env)]) _ _ s
 refine Calls.spliced_cons (thn (he pins s σ H _ I h) fun u s1 ⟨x,H1,I1,r1,q1⟩=>?_)
 refine Calls.spliced_nil ?_
 obtain ⟨l,ns,rfl,hys,hn,q⟩:=q1
 cases r1
 obtain ⟨its,n,rv,ho,hz⟩:=I1.lst hys
 have hL:s1.heap.IsList l its.toArray:=⟨_,ho,rfl,n,rfl⟩
 have hI:IntsAre its ns:=ss rv
 have hlen:=rv.length
 rw [List.length_map] at hlen
 refine call_set_list (ns:=ns) (I.ok.hd hc) hL (by simpa using hI) (by rw [List.size_toArray,← hlen]; exact Nat.lt_of_le_of_lt (Nat.succ_le_succ hn) (by decide)) fun h' tk hS old=>?_
 refine Calls.spliced_nil ?_
 obtain ⟨o,es,ep,t,h1,h2,h3,h4,h5,h6,h7,h8⟩:=hS
 have hb:(firstMet (fun i=>ns.getD i 0) its.toArray.size).length≤900:=Nat.le_trans (firstMet_length_le _ _) (by rw [List.size_toArray,← hlen]; exact hn)
 refine call_len_set h1 h2 h3 h7 (by omega) ?_
 have I2:Inv X pins σ H1 { s1 with heap:=h',toks:=tk }:=I1.kept fun b o' e=>old b o' (Heap.lt_size e) e
 refine ⟨.int _,H1,I2.tok _,⟨_,rfl⟩,?_⟩
 rw [h8,List.size_toArray,← hlen]
 exact q
def dy:V→List V→Hp→VK→Prop
 | .str sep,[.ref p],H,Q=>bnd (unS (H p)) fun ys=>∃ ts:List Str,ys=ts.map V.str∧JoinOk sep ts=true∧Q (.str (Txt.join sep ts)) H
 | _,_,_,_=>False
theorem gr {X:Cx}:MtR X "str.join" dy:=by
 intro pins s σ H x vs v us Q I rx rv h
 unfold dy at h
 split at h
 · rename_i sep p
   obtain ⟨ys,e,ts,rfl,hok,q⟩:=bB h
   rcases kB (K:=X.K) e with hq | hq
   · obtain ⟨t,rfl⟩:=rx
     obtain ⟨u,rfl,ru⟩:=fz rv
     cases ru
     obtain ⟨its,rvv,pl,hz⟩:=I.list hq
     obtain ⟨l,rfl,hl⟩:=or rvv
     exact SC.join pl.isList hl hok fun t' k=>⟨.str _,H,I.tok k,⟨t',rfl⟩,q⟩
   · obtain ⟨t,rfl⟩:=rx
     obtain ⟨u,rfl,ru⟩:=fz rv
     cases ru
     obtain ⟨its,rvv,pl,hz⟩:=I.tuple hq
     obtain ⟨l,rfl,hl⟩:=or rvv
     subst hl
     obtain ⟨o,h1,h2,n,h3⟩:=pl
     have hok':=hok
     unfold JoinOk at hok'
     rw [Bool.not_eq_true'] at hok'
     exact call_meets F.slot_str_join (typeIs_str _ _ _) F.entry_str_join (F.args_str_join_2 _ _) (meets_str_join_tuple sep t p l hok') ⟨⟨o,n,h1,h2,h3⟩,post_join l ⟨joinFit_length hok',fun t' k=>⟨.str _,H,I.tok k,⟨t',rfl⟩,q⟩⟩⟩
 · exact h.elim
end L2
namespace L2
open PySem PySem.Spec PyProof.Rows
section
variable {X:Cx} {e:Expr} {te:TE} {p2 p3 p4 pos:Pos} {z0:Nat}
def tRevL (te:TE):TE:=fun σ H Q=>te σ H fun x H1=>∃ p xs,x=.ref p∧H1 p=some (.lst xs)∧∀ l,H1 l=none→Q (.ref l) (upd H1 l (.lst xs.reverse))
end
section
variable {σ:St} {H:Hp} {Q:VK} {te:TE}
theorem kc {i j:Int} {H:Hp} {Q:VK}:kMax [.int i,.int j] H Q=Q (.int (if j > i then j else i)) H:=rfl
theorem jp:tRevL te σ H Q=te σ H fun x H1=>∃ p xs,x=.ref p∧H1 p=some (.lst xs)∧∀ l,H1 l=none→Q (.ref l) (upd H1 l (.lst xs.reverse)):=rfl
end
end L2
namespace L2
open PySem PySem.Spec PyProof.Rows
theorem m8:typeLookup (.type "str") (Str.ofString "__int__")=pure none:=by rw [typeLookup_type,builtinLookup_eq_fast]; kernel_rfl
theorem kI:typeLookup (.type "str") (Str.ofString "__index__")=pure none:=by rw [typeLookup_type,builtinLookup_eq_fast]; kernel_rfl
theorem kJ:typeLookup (.type "str") (Str.ofString "__trunc__")=pure none:=by rw [typeLookup_type,builtinLookup_eq_fast]; kernel_rfl
def numC (n:Nat):List Nat:=if n < 10 then [48+n] else [48+n / 10,48+n % 10]
theorem tX {n:Nat} (h:n < 100):((tx (numC n)).cps.all fun x=>decide (x < 128))=true:=by
 have t:((List.range 100).all fun n=>(tx (numC n)).cps.all fun x=>decide (x < 128))=true:=by decide+kernel
 exact List.all_eq_true.mp t n (List.mem_range.mpr h)
theorem ph {α:Type} {M:Model} {A:Around} {E:Value→Shared→Prop} {s:Shared} {Q:α→Shared→Prop} {m m':Sem α} (e:m=m') (h:wpAny M A m' Q E s):wpAny M A m Q E s:=e ▸ h
set_option maxHeartbeats 4000000 in
theorem gis (n:Nat) (hn:n < 100) (u:Tok):Gives (Builtin.«int.__new__» ⟨[.type "int",.str (tx (numC n)) u],[]⟩) (.int n):=
 .of_wp fun M A E s Q h=>by
  obtain ⟨hp,g,d,tk,os⟩:=s
  have f1:=PySem.F.conv_sub_int
  have f2:=PySem.F.madeHere_int
  have f3:=m8
  have f4:=kI
  have f5:=kJ
  iterate 44 (any_goals (first | assumption | wp_step))
  refine wpAny_bind (wpAny_of_eq (a:=some (tx (numC n))) rfl ?_)
  refine wpAny_of_eq (a:=some (numC n)) ?e1 ?_
  case e1=>
   show (pure (some (if ((tx (numC n)).cps.all fun x=>decide (x < 128))=true then (tx (numC n)).cps.toList else _)):Sem _)=_
   rw [if_pos (tX hn),fc]
  refine ph (m':=mkInt (n:Int)) ?e2 ?_
  case e2=>
   clear h f1 f2 f3 f4 f5
   match n,hn with | 0,_=>kernel_rfl | 1,_=>kernel_rfl | 2,_=>kernel_rfl | 3,_=>kernel_rfl | 4,_=>kernel_rfl | 5,_=>kernel_rfl | 6,_=>kernel_rfl | 7,_=>kernel_rfl | 8,_=>kernel_rfl | 9,_=>kernel_rfl | 10,_=>kernel_rfl | 11,_=>kernel_rfl | 12,_=>kernel_rfl | 13,_=>kernel_rfl | 14,_=>kernel_rfl | 15,_=>kernel_rfl | 16,_=>kernel_rfl | 17,_=>kernel_rfl | 18,_=>kernel_rfl | 19,_=>kernel_rfl | 20,_=>kernel_rfl | 21,_=>kernel_rfl | 22,_=>kernel_rfl | 23,_=>kernel_rfl | 24,_=>kernel_rfl | 25,_=>kernel_rfl | 26,_=>kernel_rfl | 27,_=>kernel_rfl | 28,_=>kernel_rfl | 29,_=>kernel_rfl | 30,_=>kernel_rfl | 31,_=>kernel_rfl | 32,_=>kernel_rfl | 33,_=>kernel_rfl | 34,_=>kernel_rfl | 35,_=>kernel_rfl | 36,_=>kernel_rfl | 37,_=>kernel_rfl | 38,_=>kernel_rfl | 39,_=>kernel_rfl | 40,_=>kernel_rfl | 41,_=>kernel_rfl | 42,_=>kernel_rfl | 43,_=>kernel_rfl | 44,_=>kernel_rfl | 45,_=>kernel_rfl | 46,_=>kernel_rfl | 47,_=>kernel_rfl | 48,_=>kernel_rfl | 49,_=>kernel_rfl | 50,_=>kernel_rfl | 51,_=>kernel_rfl | 52,_=>kernel_rfl | 53,_=>kernel_rfl | 54,_=>kernel_rfl | 55,_=>kernel_rfl | 56,_=>kernel_rfl | 57,_=>kernel_rfl | 58,_=>kernel_rfl | 59,_=>kernel_rfl | 60,_=>kernel_rfl | 61,_=>kernel_rfl | 62,_=>kernel_rfl | 63,_=>kernel_rfl | 64,_=>kernel_rfl | 65,_=>kernel_rfl | 66,_=>kernel_rfl | 67,_=>kernel_rfl | 68,_=>kernel_rfl | 69,_=>kernel_rfl | 70,_=>kernel_rfl | 71,_=>kernel_rfl | 72,_=>kernel_rfl | 73,_=>kernel_rfl | 74,_=>kernel_rfl | 75,_=>kernel_rfl | 76,_=>kernel_rfl | 77,_=>kernel_rfl | 78,_=>kernel_rfl | 79,_=>kernel_rfl | 80,_=>kernel_rfl | 81,_=>kernel_rfl | 82,_=>kernel_rfl | 83,_=>kernel_rfl | 84,_=>kernel_rfl | 85,_=>kernel_rfl | 86,_=>kernel_rfl | 87,_=>kernel_rfl | 88,_=>kernel_rfl | 89,_=>kernel_rfl | 90,_=>kernel_rfl | 91,_=>kernel_rfl | 92,_=>kernel_rfl | 93,_=>kernel_rfl | 94,_=>kernel_rfl | 95,_=>kernel_rfl | 96,_=>kernel_rfl | 97,_=>kernel_rfl | 98,_=>kernel_rfl | 99,_=>kernel_rfl | (m+100),hm=>exact absurd hm (by omega)
  repeat (any_goals (first | assumption | wp_step))
  all_goals first | exact ⟨_,rfl,h⟩ | skip
def va:List V→Hp→VK→Prop
 | [.int i],H,Q=>Q (.int i) H
 | [.bl k],H,Q=>Q (.int (if k then 1 else 0)) H
 | [.str z],H,Q=>∃ n:Nat,n < 100∧z=tx (numC n)∧Q (.int n) H
 | _,_,_=>False
theorem g9 {k:Bool} {H:Hp} {Q:VK}:va [.bl k] H Q=Q (.int (if k then 1 else 0)) H:=rfl
theorem hJ {i:Int} {H:Hp} {Q:VK}:va [.int i] H Q=Q (.int i) H:=rfl
theorem ow {n:Nat} (h:n < 100):Str.ofString (toString (n:Int))=tx (numC n):=by
 have t:((List.range 100).all fun (n:Nat)=>decide (Str.ofString (toString (n:Int))=tx (numC n)))=true:=by decide+kernel
 simpa using List.all_eq_true.mp t n (List.mem_range.mpr h)
theorem my {n:Nat} (h:n < 100):32∉numC n:=by
 have t:((List.range 100).all fun (n:Nat)=>decide (32∉numC n))=true:=by decide+kernel
 simpa using List.all_eq_true.mp t n (List.mem_range.mpr h)
theorem dh {n:Nat}:(numC n).length≤2:=by unfold numC; split <;> simp
theorem vK {n:Nat} (h:n < 100):∀ c∈numC n,48≤c∧c≤57:=by
 have t:((List.range 100).all fun (n:Nat)=>(numC n).all fun c=>decide (48≤c∧c≤57))=true:=by decide+kernel
 intro c hc
 simpa using List.all_eq_true.mp (List.all_eq_true.mp t n (List.mem_range.mpr h)) c hc
end L2
namespace L2
open PySem PySem.Spec PyProof.Rows
local macro_rules | `(tactic| walk_at "w")=>`(tactic| (first | simp only [aM,eu,fV,bi,gs,w_c,jc,fW,eC,eD,eE,w_b,w_not,gt,jd,eF,eH,gu,gw,eI,je,eJ,gy,gz,jf,gA,dc,eK,eM,eP,cz,de,cA,cp,cq,bN,gB,gD,gE,gF,gG,gH,gI,gJ,gK,gL,gM,gN,jg,eQ,cr,eS,jh,eV,df,cu,gO,gP,eW,dw,eX,
 List.getElem?_cons_zero,List.getElem?_cons_succ,Option.some.injEq,exists_eq_left',exists_eq_left,List.set_cons_zero,List.set_cons_succ,bY,V.int.injEq,V.bl.injEq,V.ref.injEq,V.str.injEq,List.append_nil,List.nil_append,List.cons_append] | dsimp only | skip))
def aN (K:PySem.W.Frag):Sp:=fun vs H Q _=>∃ (a:Addr) (h w g:Int),vs=[.ref a]∧IsFl H a h w g∧1≤h∧h≤6∧Q (.int (h*w)) H
theorem pF {K:PySem.W.Frag} {vs:List V} {H:Hp} {Q:VK} {E:XK} (h:aN K vs H Q E):vs.length=1:=by
 obtain ⟨_,_,_,_,rfl,_⟩:=h; rfl
def fX (K:PySem.W.Frag):TS:=
 (tRet (tOp cMul (tOp cIx (tVar 0) (tC (.int 0))) (tOp cIx (tVar 0) (tC (.int 1)))))
theorem pG {K:PySem.W.Frag} {vs:List V} {H:Hp} {Q:VK} {E:XK} (h:aN K vs H Q E):fX K { nx:=fun _ H'=>Q .non H',rt:=Q } (start ["floor"] vs) H:=by
 obtain ⟨a,h,w,g,rfl,ha,h0,h1,q⟩:=h
 show fX K _ [some (.ref a)] H
 unfold fX
 walk_at "w"
 rw [mq ha]
 refine bo (a:=V.int h) rfl ?_
 walk_at "w"
 rw [mq ha]
 refine bo (a:=V.int w) rfl ?_
 walk_at "w"
 exact ⟨jE h0 h1,q⟩
end L2
namespace L2
open PySem PySem.Spec PyProof.Rows
local macro_rules | `(tactic| walk_at "w")=>`(tactic| (first | simp only [aM,qH,kb,ge,jp,g9,hJ,kc,j8,jj,ka,if_true,if_false,Bool.false_eq_true,decide_true,decide_false,gn,gp,jG,fe,dm,gk,iC,gm,fb,iA,iB,eY,jD,fg,fh,fj,fk,fm,fo,fi,iD,iE,iF,iz,jF,Bool.not_true,Bool.not_false,eu,fV,bi,gs,w_c,jc,fW,eC,eD,eE,w_b,w_not,gt,jd,eF,eH,gu,gw,eI,je,eJ,gy,gz,jf,gA,dc,eK,eM,eP,cz,de,cA,cp,cq,bN,gB,gD,gE,gF,gG,gH,gI,gJ,gK,gL,gM,gN,jg,eQ,cr,eS,jh,eV,df,cu,gO,gP,eW,dw,eX,
 List.getElem?_cons_zero,List.getElem?_cons_succ,Option.some.injEq,exists_eq_left',exists_eq_left,List.set_cons_zero,List.set_cons_succ,bY,V.int.injEq,V.bl.injEq,V.ref.injEq,V.str.injEq,List.append_nil,List.nil_append,List.cons_append] | dsimp only | skip))
def nmC:RK→List Nat
 | .Rule=>[]
 | .Unlike=>[117,110,108,105,107,101]
 | .Sum=>[115,117,109]
 | .Rising=>[114,105,115,105,110,103]
 | .Seen=>[115,101,101,110]
 | .Count=>[99,111,117,110,116]
 | .Joined=>[106,111,105,110,101,100]
 | .NoSquare=>[110,111,115,113,117,97,114,101]
 | .Ring=>[114,105,110,103]
def cg:List Str:=[tx [115,117,109],tx [115,101,101,110],tx [99,111,117,110,116]]
def di:List Str:=[tx [99,111,117,110,116],tx [106,111,105,110,101,100],tx [110,111,115,113,117,97,114,101],tx [114,105,110,103]]
def bR:List Str:=[tx [106,111,105,110,101,100],tx [110,111,115,113,117,97,114,101],tx [114,105,110,103]]
def rFs (p W C:Addr) (n m:Int):List (Str × V):=[("floor",.ref p),("words",.ref W),("cells",.ref C),("amount",.int n),("mark",.int m)]
structure IsRule (H:Hp) (c:RCl RK) (k:RK) (r p:Addr) (ws:List (List Nat)) (cs:List Int) (n m:Int):Prop where
 ok:c.ok k=true
 ex:∃ dx W C,H r=some (.ins (c.A k) dx (rFs p W C n m))∧H W=some (.tup ((ws.map tx).map V.str))∧H C=some (.tup (cs.map V.int))
theorem IsRule.same {H H':Hp} {c:RCl RK} {k:RK} {r p:Addr} {ws:List (List Nat)} {cs:List Int} {n m:Int} (x:IsRule H c k r p ws cs n m) (s:Same H H'):IsRule H' c k r p ws cs n m:=by
 obtain ⟨dx,W,C,h1,h2,h3⟩:=x.ex
 exact ⟨x.ok,dx,W,C,s _ _ h1,s _ _ h2,s _ _ h3⟩
section
variable {ι:Type} {c:RCl ι} {σ:St} {H:Hp} {Q:VK} {i:Nat} {r dx:Addr} {k:ι} {fs:List (Str × V)} {f m:Str} {v:V} {okm:ι→Bool} {sp:ι→Sp} {t:TA} {D:Ends} {tv:TE} {y:V} {H1:Hp}
theorem fldE (hσ:σ[i]? =some (some (.ref r))) (ok:c.ok k=true) (hr:H r=some (.ins (c.A k) dx fs)) (hl:fs.lookup f=some v) (q:Q v H):tFldK c (tVar i) f σ H Q:=⟨_,hσ,r,k,dx,fs,v,rfl,ok,hr,hl,q⟩
theorem methE (hσ:σ[i]? =some (some (.ref r))) (ok:okm k=true) (hr:H r=some (.ins (c.A k) dx fs)) (hl:fs.lookup m=none) (q:t σ H fun vs H2=>sp k (.ref r::vs) H2 Q E0):iG c okm m sp (tVar i) t σ H Q:=⟨_,hσ,r,k,dx,fs,rfl,ok,hr,hl,q⟩
theorem sfldV {j:Nat} {x:V} (hj:σ[j]? =some (some x)) (hσ:σ[i]? =some (some (.ref r))) (ok:c.ok k=true) (hr:H r=some (.ins (c.A k) dx fs)) (hn:fs.length < 1000) (q:D.nx σ (upd H r (.ins (c.A k) dx (putF f x fs)))):sFldK c (tVar i) (tVar j) f D σ H:=
 ⟨x,hj,_,hσ,r,k,dx,fs,rfl,ok,hr,hn,q⟩
theorem sfldT {K:PySem.W.Frag} {j:Nat} {p:Addr} {xs:List V} (hj:σ[j]? =some (some (.ref p))) (hp:H p=some (.lst xs)) (hσ:σ[i]? =some (some (.ref r))) (ok:c.ok k=true) (hr:H r=some (.ins (c.A k) dx fs)) (hn:fs.length < 1000)
  (q:∀ l,H l=none→D.nx σ (upd (upd H l (.tup xs)) r (.ins (c.A k) dx (putF f (.ref l) fs)))):sFldK c (tVar i) (tCB (jn K) (tCons (tVar j) tNil)) f D σ H:=by
 unfold sFldK
 walk_at "w"
 refine ⟨_,hj,vI hp fun l hl=>?_⟩
 exact ⟨_,hσ,r,k,dx,fs,rfl,ok,by rw [am (aB hr hl)]; exact hr,hn,q l hl⟩
end
theorem vL {H:Hp} {Q:VK} {sep:Str} {p:Addr} {ts:List Str} (hp:H p=some (.tup (ts.map V.str))) (hok:JoinOk sep ts=true) (h:Q (.str (Txt.join sep ts)) H):dy (.str sep) [.ref p] H Q:=by
 unfold dy
 dsimp only
 rw [hp]
 exact ⟨ts,rfl,hok,h⟩
theorem jY {H:Hp} {Q:VK} {sep:Str} {p:Addr} {ts:List Str} (hp:H p=some (.lst (ts.map V.str))) (hok:JoinOk sep ts=true) (h:Q (.str (Txt.join sep ts)) H):dy (.str sep) [.ref p] H Q:=by
 unfold dy
 dsimp only
 rw [hp]
 exact ⟨ts,rfl,hok,h⟩
def jZ (K:PySem.W.Frag) (c:RCl RK) (k:RK):Sp:=fun vs H Q _=>∃ (r p:Addr) (ws:List (List Nat)) (cs:List Int) (n m:Int),vs=[.ref r]∧IsRule H c k r p ws cs n m∧ws.length≤100∧(∀ w∈ws,w.length≤100)∧Q (.str (tx (catL 32 ws))) H
def ap (K:PySem.W.Frag) (c:RCl RK):Sp:=fun vs H Q _=>∃ (k:RK) (x dx p W C:Addr) (ws:List (List Nat)) (cs:List Int) (n m:Int),vs=[.ref x,.ref p,.ref W,.ref C,.int n,.int m]∧c.ok k=true∧H x=some (.ins (c.A k) dx [])∧W≠x∧C≠x∧
 H W=some (.lst ((ws.map tx).map V.str))∧H C=some (.lst (cs.map V.int))∧∀ H',(∀ b o,b≠x→H b=some o→H' b=some o)→IsRule H' c k x p ws cs n m→Q .non H'
theorem mB {K:PySem.W.Frag} {c:RCl RK} {vs:List V} {H:Hp} {Q:VK} {E:XK} (h:ap K c vs H Q E):vs.length=6:=by
 obtain ⟨_,_,_,_,_,_,_,_,_,_,rfl,_⟩:=h; rfl
def dq (K:PySem.W.Frag) (c:RCl RK):TS:=
 (tSeq (sFldK c (tVar 0) (tVar 1) "floor")
  (tSeq (sFldK c (tVar 0) (tCB (jn K) (tCons (tVar 2) tNil)) "words")
  (tSeq (sFldK c (tVar 0) (tCB (jn K) (tCons (tVar 3) tNil)) "cells")
  (tSeq (sFldK c (tVar 0) (tVar 4) "amount")
  (sFldK c (tVar 0) (tVar 5) "mark")))))
theorem mC {K:PySem.W.Frag} {c:RCl RK} {vs:List V} {H:Hp} {Q:VK} {E:XK} (h:ap K c vs H Q E):dq K c { nx:=fun _ H'=>Q .non H',rt:=Q } (start ["self","floor","words","cells","amount","mark"] vs) H:=by
 obtain ⟨k,x,dx,p,W,C,ws,cs,n,m,rfl,ok,hx,nW,nC,hW,hC,q⟩:=h
 show dq K c _ [some (.ref x),some (.ref p),some (.ref W),some (.ref C),some (.int n),some (.int m)] H
 unfold dq
 walk_at "w"
 refine sfldV (k:=k) (j:=1) rfl rfl ok hx (by decide) ?_
 walk_at "w"
 refine sfldT (k:=k) (j:=2) (p:=W) rfl (by rw [am nW]; exact hW) rfl ok af (by show (1:Nat) < 1000; decide) fun l1 h1=>?_
 have n1:l1≠x:=fun e=>by rw [e,af] at h1; cases h1
 have g1:H l1=none:=by rw [am n1] at h1; exact h1
 walk_at "w"
 refine sfldT (k:=k) (j:=3) (p:=C) rfl (by rw [am nC,am (aB hC g1),am nC]; exact hC) rfl ok af (by show (2:Nat) < 1000; decide) fun l2 h2=>?_
 have n2:l2≠x:=fun e=>by rw [e,af] at h2; cases h2
 have n21:l2≠l1:=fun e=>by rw [e,am n1,af] at h2; cases h2
 have g2:H l2=none:=by rw [am n2,am n21,am n2] at h2; exact h2
 walk_at "w"
 refine sfldV (k:=k) (j:=4) rfl rfl ok af (by show (3:Nat) < 1000; decide) ?_
 refine sfldV (k:=k) (j:=5) rfl rfl ok af (by show (4:Nat) < 1000; decide) ?_
 refine q _ (fun b o hb e=>?_) ⟨ok,dx,l1,l2,by rw [af]; rfl,?_,?_⟩
 · rw [am hb,am hb,am hb,am (aB e g2),am hb,am (aB e g1),am hb]
   exact e
 · rw [am n1,am n1,am n1,am n21.symm,am n1,af]
 · rw [am n2,am n2,am n2,af]
def gS (K:PySem.W.Frag) (c:RCl RK):Sp:=fun vs H Q E=>∃ k,jZ K c k vs H Q E
theorem qI {K:PySem.W.Frag} {c:RCl RK} {vs:List V} {H:Hp} {Q:VK} {E:XK} (h:gS K c vs H Q E):vs.length=1:=by
 obtain ⟨_,_,_,_,_,_,_,rfl,_⟩:=h; rfl
def gT (K:PySem.W.Frag) (c:RCl RK):TS:=
 (tRet (tBM K "str" dy (tC (.str (tx [32]))) (tCons (tFldK c (tVar 0) "words") tNil)))
theorem qJ {K:PySem.W.Frag} {c:RCl RK} {vs:List V} {H:Hp} {Q:VK} {E:XK} (h:gS K c vs H Q E):gT K c { nx:=fun _ H'=>Q .non H',rt:=Q } (start ["self"] vs) H:=by
 obtain ⟨k,r,p,ws,cs,n,m,rfl,x,hn,hw,q⟩:=h
 obtain ⟨dx,W,C,h1,h2,h3⟩:=x.ex
 show gT K c _ [some (.ref r)] H
 unfold gT
 walk_at "w"
 refine ⟨fA,fldE rfl x.ok h1 (v:=.ref W) (by rfl) ?_⟩
 walk_at "w"
 refine vL h2 (dg (by rw [List.length_map]; omega) (fun t ht=>by obtain ⟨y,hy,rfl⟩:=List.mem_map.mp ht; rw [ay]; have:=hw y hy; omega) (by rw [ay]; decide)) ?_
 rw [g8,lw]
 exact q
def WOk (ws:List (List Nat)):Prop:=∀ w∈ws,∀ c∈w,c < 128
theorem lD {n:Nat} (h:n < 100):∀ c∈numC n,c < 128:=fun c hc=>by have:=vK h c hc; omega
theorem vb {w:List Nat} (h:∀ c∈w,c < 128):PyData.strOk (tx w)=true:=by
 unfold PyData.strOk
 simp [tx]
 intro c hc
 have:=h c hc
 omega
theorem WOk.strs {ws:List (List Nat)} (h:WOk ws):∀ x∈ws.map tx,PyData.strOk x=true:=fun x hx=>by
 obtain ⟨w,hw,rfl⟩:=List.mem_map.mp hx
 exact vb (h w hw)
theorem DVs.strs {K:PySem.W.Frag} {H:Hp}:∀ ns:List Str,DVs K H (ns.map V.str) (ns.map PyData.str)
 | []=>.nil
 | n::r=>.cons (.str n) (DVs.strs r)
theorem pi (a b:Str):PyData.eqv (.str a) (.str b)=decide (a=b):=by
 rw [PyData.eqv]
 by_cases h:a=b
 · subst h; simp
 · simp [h]
theorem iu (ns:List Str) (hs:∀ x∈ns,PyData.strOk x=true):SeqAt.shaped (.list (ns.map PyData.str))=true:=by
 have h1:PyData.canLayAll0 (ns.map PyData.str)=true:=ot fun d hd=>by obtain ⟨x,hx,rfl⟩:=List.mem_map.mp hd; rw [PyData.canLay0]; exact hs x hx
 have h2:PyData.depthAll (ns.map PyData.str)≤0:=kF fun d hd=>by obtain ⟨x,_,rfl⟩:=List.mem_map.mp hd; exact Nat.le_refl _
 simp [SeqAt.shaped,PyData.canLay0,h1,PyData.depth]
 omega
theorem qK {K:PySem.W.Frag} {H:Hp} {Q:VK} {p q:Addr} {xs ys:List Str} (hp:H p=some (.lst (xs.map V.str))) (hq:H q=some (.lst (ys.map V.str))) (h1:∀ x∈xs,PyData.strOk x=true) (h2:∀ x∈ys,PyData.strOk x=true) (h:Q (.bl (decide (xs=ys))) H):cEq K (.ref p) (.ref q) H Q:=by
 show rEqD K (.ref p) (.ref q) H Q
 refine ⟨.list (xs.map PyData.str),.list (ys.map PyData.str),.lst (SqL.of hp) (.strs xs),.lst (SqL.of hq) (.strs ys),iu xs h1,iu ys h2,?_⟩
 rw [PyData.eqv,lu PyData.str pi]
 exact h
theorem wJ {K:PySem.W.Frag} {H:Hp} {Q:VK} {p q:Addr} {xs ys:List Str} (hp:H p=some (.lst (xs.map V.str))) (hq:H q=some (.lst (ys.map V.str))) (h1:∀ x∈xs,PyData.strOk x=true) (h2:∀ x∈ys,PyData.strOk x=true) (h:Q (.bl (!decide (xs=ys))) H):cNe K (.ref p) (.ref q) H Q:=by
 show rNeD K (.ref p) (.ref q) H Q
 refine ⟨.list (xs.map PyData.str),.list (ys.map PyData.str),.lst (SqL.of hp) (.strs xs),.lst (SqL.of hq) (.strs ys),iu xs h1,iu ys h2,?_⟩
 rw [PyData.eqv,lu PyData.str pi]
 exact h
theorem uL (acc:List Int) (v:Int):(step_dedup acc v).length≤acc.length+1:=by
 unfold step_dedup
 split <;> simp
theorem qL:∀ (l acc:List Int),(l.foldl step_dedup acc).length≤acc.length+l.length
 | [],acc=>by simp
 | x::r,acc=>by
  have h1:=qL r (step_dedup acc x)
  have h2:=uL acc x
  rw [List.foldl_cons,List.length_cons]
  omega
theorem mh:∀ (l acc:List Int),acc.Nodup→((l.foldl step_dedup acc).length=acc.length+l.length↔(acc++l).Nodup)
 | [],acc,h=>by simpa using h
 | x::r,acc,h=>by
  rw [List.foldl_cons]
  by_cases hx:x∈acc
  · have e:step_dedup acc x=acc:=by
     unfold step_dedup
     rw [if_pos (by simpa using hx)]
    rw [e]
    have:=qL r acc
    constructor
    · intro z
      rw [List.length_cons] at z
      omega
    · intro z
      have:=(List.nodup_append.mp z).2.2 x hx x List.mem_cons_self
      exact absurd rfl this
  · have e:step_dedup acc x=acc++[x]:=by
     unfold step_dedup
     rw [if_neg (by simpa using hx)]
    rw [e]
    have hn:(acc++[x]).Nodup:=List.nodup_append.mpr ⟨h,by simp,fun a ha b hb z=>hx (by rw [List.mem_singleton.mp hb] at z; exact z ▸ ha)⟩
    have ih:=mh r (acc++[x]) hn
    rw [List.length_append,List.length_singleton] at ih
    rw [List.length_cons,show acc.length+(r.length+1)=acc.length+1+r.length by omega,show acc++x::r=acc++[x]++r by simp]
    exact ih
theorem oz (ns:List Int):(List.range ns.length).map (fun i=>ns.getD i 0)=ns:=by
 have:=pD ns (fun x=>x)
 simpa using this
theorem uM (ns:List Int):cntD ns=ns.length↔ns.Nodup:=by
 unfold cntD firstMet
 rw [oz]
 have:=mh ns [] List.nodup_nil
 simpa using this
theorem sF {ns:List Nat} (h:ns.Nodup):(ns.map fun (n:Nat)=>(n:Int)).Nodup:=by
 induction ns with
 | nil=>exact List.nodup_nil
 | cons a r ih=>
  rw [List.nodup_cons] at h
  rw [List.map_cons,List.nodup_cons]
  refine ⟨fun z=>?_,ih h.2⟩
  obtain ⟨b,hb,e⟩:=List.mem_map.mp z
  exact h.1 (by have:b=a:=by omega
                exact this ▸ hb)
def allK:RK→Bool
 | .Joined=>true
 | .NoSquare=>true
 | .Ring=>true
 | _=>false
def numK:RK→Bool
 | .Sum=>true
 | .Seen=>true
 | .Count=>true
 | _=>false
def sgnK:RK→Bool
 | .Count=>true
 | .Joined=>true
 | .NoSquare=>true
 | .Ring=>true
 | _=>false
theorem wK (k:RK):decide (tx (nmC k)∈bR)=allK k:=by cases k <;> decide+kernel
theorem wL (k:RK):decide (tx (nmC k)∈cg)=numK k:=by cases k <;> decide+kernel
theorem wM (k:RK):decide (tx (nmC k)∈di)=sgnK k:=by cases k <;> decide+kernel
structure vM (k:RK) (h w:Int) (ns:List Nat) (cs:List Int):Prop where
 told:allK k=false→ns≠[]∧ns.length≤16∧(∀ n∈ns,(n:Int) < h*w)∧ns.Nodup∧cs=ns.map fun (n:Nat)=>(n:Int)
 all:allK k=true→ns=[]∧cs=rngL 0 (h*w)
theorem vN {K:PySem.W.Frag} {c:RCl RK} {H:Hp} {Q:VK} {k:RK} {p W C:Addr} {ws:List (List Nat)} {cs:List Int} {n m:Int} (ok:c.ok k=true) (hW:H W=some (.lst ((ws.map tx).map V.str))) (hC:H C=some (.lst (cs.map V.int))) (q:∀ r H',Same H H'→H r=none→IsRule H' c k r p ws cs n m→Q (.ref r) H'):
  ∀ x dx,H x=none→H dx=none→dx≠x→ap K c (.ref x::([.ref p,.ref W,.ref C,.int n,.int m]++[])) (upd (upd H dx (.own x)) x (.ins (c.A k) dx [])) (fun v H2=>v=.non∧Q (.ref x) H2) E0:=by
 intro x dx hx hd ne
 refine ⟨k,x,dx,p,W,C,ws,cs,n,m,rfl,ok,af,aB hW hx,aB hC hx,?_,?_,fun H' hs hr=>⟨rfl,q x H' (fun b o e=>hs b o (aB e hx) ?_) hx hr⟩⟩
 · rw [am (aB hW hx),am (aB hW hd)]; exact hW
 · rw [am (aB hC hx),am (aB hC hd)]; exact hC
 · rw [am (aB e hx),am (aB e hd)]; exact e
def rowW (k:RK) (n m:Nat) (ns:List Nat):List (List Nat):=nmC k::((if numK k then [numC n] else [])++(if sgnK k then [numC m] else [])++ns.map numC)
structure tY (k:RK) (h w g:Int) (n m:Nat) (ns:List Nat) (cs:List Int):Prop where
 k0:k≠.Rule
 n0:n≤99
 nz:numK k=false→n=0
 m0:sgnK k=true→1≤(m:Int)∧(m:Int)≤g
 mz:sgnK k=false→m=0
 cl:vM k h w ns cs
 ns0:∀ x∈ns,x < 100
 len:ns.length≤16
theorem vO (k:RK):32∉nmC k:=by cases k <;> decide
theorem vc (k:RK):∀ c∈nmC k,c < 128:=by cases k <;> decide
theorem tZ {k:RK} {n m:Nat} {ns:List Nat} (hn:n < 100) (hm:m < 100) (hs:∀ x∈ns,x < 100):∀ r∈rowW k n m ns,32∉r:=by
 intro r hr
 unfold rowW at hr
 rcases List.mem_cons.mp hr with rfl | hr
 · exact vO k
 rcases List.mem_append.mp hr with hr | hr
 · rcases List.mem_append.mp hr with hr | hr
   · split at hr
     · rw [List.mem_singleton.mp hr]; exact my hn
     · cases hr
   · split at hr
     · rw [List.mem_singleton.mp hr]; exact my hm
     · cases hr
 · obtain ⟨x,hx,rfl⟩:=List.mem_map.mp hr
   exact my (hs x hx)
theorem uN (xs:List V):cutV xs (some 1) none=xs.drop 1:=by
 unfold cutV
 have h1:HT.sIx xs.length 0 (some 1)=min 1 xs.length:=HT.sIx_nat ..
 have h2:HT.sIx xs.length xs.length none=xs.length:=rfl
 rw [h1,h2]
 cases xs with
 | nil=>rfl
 | cons x r=>
  have:min 1 (x::r).length=1:=by simp
  rw [this]
  show (r).take _=r
  rw [List.take_of_length_le (by simp)]
theorem mi {k:RK} {n m:Nat} {ns:List Nat} (h:ns.length≤16):(rowW k n m ns).length≤100∧∀ w∈rowW k n m ns,w.length≤100:=by
 unfold rowW
 refine ⟨?_,fun w hw=>?_⟩
 · simp only [List.length_cons,List.length_append,List.length_map]
   split <;> split <;> simp <;> omega
 · rcases List.mem_cons.mp hw with rfl | hw
   · cases k <;> decide
   have h2:∀ x,(numC x).length≤100:=fun x=>Nat.le_trans dh (by decide)
   rcases List.mem_append.mp hw with hw | hw
   · rcases List.mem_append.mp hw with hw | hw
     · split at hw
       · rw [List.mem_singleton.mp hw]; exact h2 _
       · cases hw
     · split at hw
       · rw [List.mem_singleton.mp hw]; exact h2 _
       · cases hw
   · obtain ⟨x,hx,rfl⟩:=List.mem_map.mp hw
     exact h2 _
theorem kd:∀ (rows:List (List Nat)),(∀ r∈rows,r.length≤100)→(catL 32 rows).length≤101*rows.length
 | [],_=>Nat.zero_le _
 | [x],h=>by
  have:=h x List.mem_cons_self
  show x.length≤101*1
  omega
 | x::y::r,h=>by
  have h1:=h x List.mem_cons_self
  have ih:=kd (y::r) fun z hz=>h z (List.mem_cons_of_mem _ hz)
  have e:catL 32 (x::y::r)=x++32::catL 32 (y::r):=by first | rfl | simp [catL]
  rw [e,List.length_append,List.length_cons,List.length_cons]
  omega
theorem j2 {n:Nat} (h:n < 100):((n:Int)).natAbs.log2 < 1920:=by
 have t:((List.range 100).all fun n=>decide (n.log2 < 1920))=true:=by decide+kernel
 have:=List.all_eq_true.mp t n (List.mem_range.mpr h)
 simpa using this
theorem uO {c:Nat} {x:List Nat}:∀ {rs:List (List Nat)},rs≠[]→catL c (x::rs)=x++c::catL c rs
 | [],h=>absurd rfl h
 | y::r,_=>by first | rfl | simp [catL]
end L2
namespace L2
open PySem PySem.Spec PyProof.Rows
section
variable {X:Cx} {a:Expr} {ta:TE} {pos p:Pos} {x:Str} {ws:List Str}
theorem t0 (G:GTup X.K X.mg x ws) (ha:PE X a ta) (hg:Gl X x) (hdb:(x==("__debug__":Str))=false:=by decide) (hm:behindInMarks .In (.Name x p)=false:=by with_unfolding_all rfl):PT X (.Compare a [.In] [.Name x p] pos) (tB (tInG ws false ta)):=by
 obtain ⟨q,o,its,n,h1,h2⟩:=G.ex
 have h0:=ax (pos:=pos) (wI ⟨o,its,n,h2⟩) ha (aU (v:=V.ref q) hg h1 rfl hdb) hm
 intro pins s σ H Q I h
 refine h0 pins s σ H Q I ?_
 have e:(fun (x:V) (H1:Hp)=>∃ z,x=.str z∧∃ k,V.bl (if false=true then !decide (z∈ws) else decide (z∈ws))=.bl k∧Q k H1)=fun x H1=>∃ z,x=.str z∧(V.ref q=V.ref q)∧∃ k,V.bl (decide (z∈ws))=.bl k∧Q k H1:=by
  funext x H1; simp
 have h':ta σ H (fun (x:V) (H1:Hp)=>∃ z,x=.str z∧∃ k,V.bl (if false=true then !decide (z∈ws) else decide (z∈ws))=.bl k∧Q k H1):=h
 rw [e] at h'
 exact h'
theorem vP (G:GTup X.K X.mg x ws) (ha:PE X a ta) (hg:Gl X x) (hdb:(x==("__debug__":Str))=false:=by decide) (hm:behindInMarks .NotIn (.Name x p)=false:=by with_unfolding_all rfl):PT X (.Compare a [.NotIn] [.Name x p] pos) (tB (tInG ws true ta)):=by
 obtain ⟨q,o,its,n,h1,h2⟩:=G.ex
 have h0:=ax (pos:=pos) (vH ⟨o,its,n,h2⟩) ha (aU (v:=V.ref q) hg h1 rfl hdb) hm
 intro pins s σ H Q I h
 refine h0 pins s σ H Q I ?_
 have e:(fun (x:V) (H1:Hp)=>∃ z,x=.str z∧∃ k,V.bl (if true=true then !decide (z∈ws) else decide (z∈ws))=.bl k∧Q k H1)=fun x H1=>∃ z,x=.str z∧(V.ref q=V.ref q)∧∃ k,V.bl (!decide (z∈ws))=.bl k∧Q k H1:=by
  funext x H1; simp
 have h':ta σ H (fun (x:V) (H1:Hp)=>∃ z,x=.str z∧∃ k,V.bl (if true=true then !decide (z∈ws) else decide (z∈ws))=.bl k∧Q k H1):=h
 rw [e] at h'
 exact h'
end
end L2
namespace L2
open PySem PySem.Spec PyProof.Rows
local macro_rules | `(tactic| walk_at "w")=>`(tactic| (first | simp only [aM,qH,kb,ge,jp,g9,hJ,kc,j8,jj,ka,if_true,if_false,Bool.false_eq_true,decide_true,decide_false,gn,gp,jG,fe,dm,gk,iC,gm,fb,iA,iB,eY,jD,fg,fh,fj,fk,fm,fo,fi,iD,iE,iF,iz,jF,Bool.not_true,Bool.not_false,eu,fV,bi,gs,w_c,jc,fW,eC,eD,eE,w_b,w_not,gt,jd,eF,eH,gu,gw,eI,je,eJ,gy,gz,jf,gA,dc,eK,eM,eP,cz,de,cA,cp,cq,bN,gB,gD,gE,gF,gG,gH,gI,gJ,gK,gL,gM,gN,jg,eQ,cr,eS,jh,eV,df,cu,gO,gP,eW,dw,eX,
 List.getElem?_cons_zero,List.getElem?_cons_succ,Option.some.injEq,exists_eq_left',exists_eq_left,List.set_cons_zero,List.set_cons_succ,bY,V.int.injEq,V.bl.injEq,V.ref.injEq,V.str.injEq,List.append_nil,List.nil_append,List.cons_append] | dsimp only | skip))
inductive PzK where
 | Puzzle
 deriving DecidableEq
structure RR where
 k:RK
 n:Nat
 m:Nat
 ns:List Nat
 cs:List Int
def RR.ws (r:RR):List (List Nat):=rowW r.k r.n r.m r.ns
def RR.txt (r:RR):Str:=tx (catL 32 r.ws)
def RR.Ok (r:RR) (h w g:Int):Prop:=tY r.k h w g r.n r.m r.ns r.cs
theorem t3:∀ {rs:List (List Nat)},(∀ r∈rs,∀ c∈r,c < 128)→∀ c∈catL 32 rs,c < 128
 | [],_,c,hc=>by simp [catL] at hc
 | [x],h,c,hc=>h x List.mem_cons_self c (by first | exact hc | simpa [catL] using hc)
 | x::y::r,h,c,hc=>by
  rw [uO (by simp)] at hc
  rcases List.mem_append.mp hc with hc | hc
  · exact h x List.mem_cons_self c hc
  rcases List.mem_cons.mp hc with rfl | hc
  · decide
  · exact t3 (fun z hz=>h z (List.mem_cons_of_mem _ hz)) c hc
theorem RR.wok {r:RR} {h w g:Int} (F:FlOk h w g) (O:r.Ok h w g):∀ x∈r.ws,∀ c∈x,c < 128:=by
 intro x hx
 unfold RR.ws rowW at hx
 have hm:r.m < 100:=by
  by_cases hs:sgnK r.k=true
  · have:=(O.m0 hs).2
    have:=F.g1
    omega
  · have:=O.mz (by simpa using hs)
    omega
 have hn:=O.n0
 rcases List.mem_cons.mp hx with rfl | hx
 · exact vc r.k
 rcases List.mem_append.mp hx with hx | hx
 · rcases List.mem_append.mp hx with hx | hx
   · split at hx
     · rw [List.mem_singleton.mp hx]; exact lD (by omega)
     · cases hx
   · split at hx
     · rw [List.mem_singleton.mp hx]; exact lD hm
     · cases hx
 · obtain ⟨y,hy,rfl⟩:=List.mem_map.mp hx
   exact lD (O.ns0 y hy)
theorem RR.sok {r:RR} {h w g:Int} (F:FlOk h w g) (O:r.Ok h w g):PyData.strOk r.txt=true:=vb (t3 (RR.wok F O))
structure IsRules (H:Hp) (c:RCl RK) (p L:Addr) (rs:List Addr) (rows:List RR):Prop where
 top:H L=some (.lst (rs.map V.ref))
 len:rs.length=rows.length
 at_:∀ (i:Nat) (r:Addr) (x:RR),rs[i]? =some r→rows[i]? =some x→IsRule H c x.k r p x.ws x.cs x.n x.m
theorem IsRules.same {H H':Hp} {c:RCl RK} {p L:Addr} {rs:List Addr} {rows:List RR} (x:IsRules H c p L rs rows) (s:Same H H'):IsRules H' c p L rs rows:=
 ⟨s _ _ x.top,x.len,fun i r y h1 h2=>(x.at_ i r y h1 h2).same s⟩
theorem IsRule.lst {H:Hp} {c:RCl RK} {k:RK} {r p a:Addr} {ws:List (List Nat)} {cs:List Int} {n m:Int} {xs:List V} {o:HO} (x:IsRule H c k r p ws cs n m) (ha:H a=some (.lst xs)):IsRule (upd H a o) c k r p ws cs n m:=by
 obtain ⟨dx,W,C,h1,h2,h3⟩:=x.ex
 refine ⟨x.ok,dx,W,C,?_,?_,?_⟩
 · rw [am (fun e=>by rw [e,ha] at h1; cases h1)]; exact h1
 · rw [am (fun e=>by rw [e,ha] at h2; cases h2)]; exact h2
 · rw [am (fun e=>by rw [e,ha] at h3; cases h3)]; exact h3
def pFs (p L G:Addr):List (Str × V):=[("floor",.ref p),("laws",.ref L),("given",.ref G)]
structure m9 (c:RCl RK) (h w g:Int) (rows:List RR):Prop where
 F:FlOk h w g
 n:rows.length≤12
 ok:∀ r∈rows,r.Ok h w g
 c:∀ r∈rows,c.ok r.k=true
structure CluesOk (h w g:Int) (cl:List Int):Prop where
 len:cl.length=(h*w).toNat
 ok:∀ x∈cl,0≤x∧x≤g
structure IsPz (H:Hp) (c:RCl RK) (d:RCl PzK) (P L G:Addr) (h w g:Int) (rows:List RR) (cl:List Int):Prop where
 ok:d.ok .Puzzle=true
 R:m9 c h w g rows
 C:CluesOk h w g cl
 gv:H G=some (.lst (cl.map V.int))
 ex:∃ dx p rs,H P=some (.ins (d.A .Puzzle) dx (pFs p L G))∧IsFl H p h w g∧IsRules H c p L rs rows
theorem IsPz.same {H H':Hp} {c:RCl RK} {d:RCl PzK} {P L G:Addr} {h w g:Int} {rows:List RR} {cl:List Int} (x:IsPz H c d P L G h w g rows cl) (s:Same H H'):IsPz H' c d P L G h w g rows cl:=by
 obtain ⟨dx,p,rs,h1,h2,h3⟩:=x.ex
 exact ⟨x.ok,x.R,x.C,s _ _ x.gv,dx,p,rs,s _ _ h1,s _ _ h2,h3.same s⟩
def ce (K:PySem.W.Frag):Sp:=fun vs H Q _=>∃ i:Int,vs=[.int i]∧Q (.bl true) H
theorem rq {K:PySem.W.Frag} {vs:List V} {H:Hp} {Q:VK} {E:XK} (h:ce K vs H Q E):vs.length=1:=by
 obtain ⟨_,rfl,_⟩:=h; rfl
def iv (K:PySem.W.Frag):TS:=
 (tRet (tAndV (tCB kIsi (tCons (tVar 0) (tCons (tC (.ty "int")) tNil))) (tNotV (tCB kIsi (tCons (tVar 0) (tCons (tC (.ty "bool")) tNil))))))
theorem rz {K:PySem.W.Frag} {vs:List V} {H:Hp} {Q:VK} {E:XK} (h:ce K vs H Q E):iv K { nx:=fun _ H'=>Q .non H',rt:=Q } (start ["value"] vs) H:=by
 obtain ⟨i,rfl,q⟩:=h
 show iv K _ [some (.int i)] H
 unfold iv
 walk_at "w"
 exact q
def aY (K:PySem.W.Frag):Sp:=fun vs H Q _=>∃ i m:Int,vs=[.int i,.int m]∧Q (.bl (decide (1≤i)&&decide (i≤m))) H
theorem lJ {K:PySem.W.Frag} {vs:List V} {H:Hp} {Q:VK} {E:XK} (h:aY K vs H Q E):vs.length=2:=by
 obtain ⟨_,_,rfl,_⟩:=h; rfl
def cS (K:PySem.W.Frag):TS:=
 (tRet (tAndV (tCall (ce K) [] E0 (tCons (tVar 0) tNil)) (tAndV (tOp (cCmp fun i j=>decide (i≤j)) (tC (.int 1)) (tVar 0)) (tOp (cCmp fun i j=>decide (i≤j)) (tVar 0) (tVar 1)))))
theorem lK {K:PySem.W.Frag} {vs:List V} {H:Hp} {Q:VK} {E:XK} (h:aY K vs H Q E):cS K { nx:=fun _ H'=>Q .non H',rt:=Q } (start ["value","most"] vs) H:=by
 obtain ⟨i,m,rfl,q⟩:=h
 show cS K _ [some (.int i),some (.int m)] H
 unfold cS
 walk_at "w"
 refine ⟨i,rfl,⟨true,rfl,iteT ?_⟩⟩
 walk_at "w"
 cases hb:decide (1≤i) with
 | false=>
  rw [hb,Bool.false_and] at q
  exact iteF q
 | true=>
  rw [hb,Bool.true_and] at q
  exact iteT q
def filB (least g:Int) (n:Nat) (xs:List Int):Bool:=decide (xs.length=n)&&xs.all fun x=>decide (least≤x)&&decide (x≤g)
def cB (K:PySem.W.Frag):Sp:=fun vs H Q _=>∃ (p a:Addr) (h w g least:Int) (xs:List Int),vs=[.ref p,.ref a,.int least]∧IsFl H p h w g∧FlOk h w g∧H a=some (.lst (xs.map V.int))∧xs.length≤100∧∀ H',Same H H'→Q (.bl (filB least g (h*w).toNat xs)) H'
theorem pH {K:PySem.W.Frag} {vs:List V} {H:Hp} {Q:VK} {E:XK} (h:cB K vs H Q E):vs.length=3:=by
 obtain ⟨_,_,_,_,_,_,_,rfl,_⟩:=h; rfl
def fY (K:PySem.W.Frag):TS:=
 (tSeq (tIfS (tOr (tNot (tB (tCB kIsi (tCons (tVar 1) (tCons (tC (.ty "list")) tNil))))) (tTest (tOp (cNe K) (tCB kLen (tCons (tVar 1) tNil)) (tCall (aN K) [] E0 (tCons (tVar 0) tNil))))) (tRet (tC (.bl false))) tNext)
  (tRet (tCB kAll (tCons (tComp [none,none,some 0,some 2] (iList K (tVar 1)) (gName 1) tTrue (tAndV (tCall (ce K) [] E0 (tCons (tVar 1) tNil)) (tAndV (tOp (cCmp fun i j=>decide (i≤j)) (tVar 3) (tVar 1)) (tOp (cCmp fun i j=>decide (i≤j)) (tVar 1) (tOp cIx (tVar 2) (tC (.int 2))))))) tNil))))
theorem pI {K:PySem.W.Frag} {vs:List V} {H:Hp} {Q:VK} {E:XK} (h:cB K vs H Q E):fY K { nx:=fun _ H'=>Q .non H',rt:=Q } (start ["floor","filling","least"] vs) H:=by
 obtain ⟨p,a,h,w,g,least,xs,rfl,hp,F,ha,hn,q⟩:=h
 obtain ⟨h0,h1,w0,w1,m16,g0,g1⟩:=id F
 have mpos:0≤h*w:=Int.mul_nonneg (by omega) (by omega)
 show fY K _ [some (.ref p),some (.ref a),some (.int least)] H
 unfold fY
 rw [aM,aO]
 walk_at "w"
 refine wC ha ?_
 walk_at "w"
 rw [ip ha,List.length_map]
 walk_at "w"
 refine ⟨p,h,w,g,rfl,hp,h0,h1,?_⟩
 walk_at "w"
 unfold filB at q
 by_cases hl:xs.length=(h*w).toNat
 · rw [decide_eq_true (show (xs.length:Int)=h*w by omega)]
   rw [decide_eq_true hl] at q
   walk_at "w"
   refine ⟨⟨_,SqL.of ha⟩,?_⟩
   refine i0 (xs:=xs.map V.int) (fun _=>true) (fun i=>.bl (decide (least≤xs.getD i 0)&&decide (xs.getD i 0≤g))) (by rw [List.length_map]; omega) (SqL.of ha) ?_ ?_ ?_
   · intro i x H1 R hx s1 k1
     exact k1 _ (Same.refl _)
   · intro i x H1 Q1 hx hb s1 k1
     obtain ⟨z,hz,rfl⟩:=jL hx
     have q1:=k1 _ (Same.refl H1)
     rw [rQ hz] at q1
     show tAndV _ _ [none,some (.int z),some (.ref p),some (.int least)] H1 Q1
     walk_at "w"
     refine ⟨z,rfl,⟨true,rfl,iteT ?_⟩⟩
     walk_at "w"
     cases hb:decide (least≤z) with
     | false=>
      rw [hb,Bool.false_and] at q1
      exact iteF q1
     | true=>
      rw [hb,Bool.true_and] at q1
      refine iteT ?_
      walk_at "w"
      refine ixT (s1 _ _ hp) (v:=V.int g) rfl ?_
      walk_at "w"
      exact q1
   · intro l H1 hl1 s1 el
     have eb:((List.range (xs.map V.int).length).filter fun _=>true).map (fun i=>V.bl (decide (least≤xs.getD i 0)&&decide (xs.getD i 0≤g)))=(xs.map fun x=>decide (least≤x)&&decide (x≤g)).map V.bl:=by
      rw [cc,List.length_map]
      refine List.ext_getElem? fun i=>?_
      rw [List.getElem?_map,List.getElem?_map,List.getElem?_map]
      by_cases h:i < xs.length
      · rw [List.getElem?_range h,List.getElem?_eq_getElem h]
        simp [List.getD,h]
      · rw [List.getElem?_eq_none (by simpa using h),List.getElem?_eq_none (by omega)]; rfl
     rw [eb] at el
     refine u9 el ?_
     have ea:(xs.map fun x=>decide (least≤x)&&decide (x≤g)).all id=xs.all fun x=>decide (least≤x)&&decide (x≤g):=by rw [List.all_map]; rfl
     rw [ea]
     exact q _ s1
 · rw [decide_eq_false (show ¬ (xs.length:Int)=h*w by omega)]
   rw [decide_eq_false hl] at q
   walk_at "w"
   exact q _ (Same.refl _)
theorem CluesOk.fil {h w g:Int} {xs:List Int} (C:CluesOk h w g xs):filB 0 g (h*w).toNat xs=true:=by
 unfold filB
 rw [decide_eq_true C.len,Bool.true_and,List.all_eq_true]
 intro x hx
 have:=C.ok x hx
 simp [this.1,this.2]
theorem IsRule.ins {H:Hp} {c:RCl RK} {k:RK} {r p a:Addr} {ws:List (List Nat)} {cs:List Int} {n m:Int} {C dx:Addr} {fs:List (Str × V)} {o:HO} (x:IsRule H c k r p ws cs n m) (ha:H a=some (.ins C dx fs)) (hf:fs.length≠5):IsRule (upd H a o) c k r p ws cs n m:=by
 obtain ⟨dx',W,C',h1,h2,h3⟩:=x.ex
 refine ⟨x.ok,dx',W,C',?_,?_,?_⟩
 · rw [am (fun e=>by rw [e,ha] at h1; cases h1; exact hf rfl)]; exact h1
 · rw [am (fun e=>by rw [e,ha] at h2; cases h2)]; exact h2
 · rw [am (fun e=>by rw [e,ha] at h3; cases h3)]; exact h3
theorem IsRules.ins {H:Hp} {c:RCl RK} {p L a:Addr} {rs:List Addr} {rows:List RR} {C dx:Addr} {fs:List (Str × V)} {o:HO} (x:IsRules H c p L rs rows) (ha:H a=some (.ins C dx fs)) (hf:fs.length≠5):IsRules (upd H a o) c p L rs rows:=
 ⟨by rw [am (fun e=>by have:=x.top; rw [e,ha] at this; cases this)]; exact x.top,x.len,fun i r y h1 h2=>(x.at_ i r y h1 h2).ins ha hf⟩
def ke (K:PySem.W.Frag) (c:RCl RK) (d:RCl PzK) (_:PzK):Sp:=fun vs H Q _=>∃ (P L G:Addr) (h w g:Int) (rows:List RR) (cl:List Int),vs=[.ref P]∧IsPz H c d P L G h w g rows cl∧∀ l,H l=none→Q (.ref l) (upd H l (.lst (cl.map V.int)))
def dI (K:PySem.W.Frag) (c:RCl RK) (d:RCl PzK):Sp:=ke K c d .Puzzle
theorem nc {K:PySem.W.Frag} {c:RCl RK} {d:RCl PzK} {vs:List V} {H:Hp} {Q:VK} {E:XK} (h:dI K c d vs H Q E):vs.length=1:=by
 obtain ⟨_,_,_,_,_,_,_,_,rfl,_⟩:=h; rfl
def dJ (K:PySem.W.Frag) (c:RCl RK) (d:RCl PzK):TS:=
 (tRet (tCB kList (tCons (tFldK d (tVar 0) "given") tNil)))
theorem nh {K:PySem.W.Frag} {c:RCl RK} {d:RCl PzK} {vs:List V} {H:Hp} {Q:VK} {E:XK} (h:dI K c d vs H Q E):dJ K c d { nx:=fun _ H'=>Q .non H',rt:=Q } (start ["self"] vs) H:=by
 obtain ⟨P,L,G,h,w,g,rows,cl,rfl,x,q⟩:=h
 obtain ⟨dx,p,rs,h1,h2,h3⟩:=x.ex
 show dJ K c d _ [some (.ref P)] H
 unfold dJ
 walk_at "w"
 refine fldE (k:=.Puzzle) rfl x.ok h1 (v:=.ref G) (by rfl) ?_
 walk_at "w"
 exact qw x.gv q
theorem sG {K:PySem.W.Frag} {c:RCl RK} {H:Hp} {p L:Addr} {rs:List Addr} {rows:List RR} {h w g:Int} {fin:Addr→Hp→Prop} (X:IsRules H c p L rs rows) (R:m9 c h w g rows)
  (hd:∀ l H',H l=none→Same H H'→H' l=some (.lst ((rows.map RR.txt).map V.str))→fin l H'):CompR (Itl K L) (gName 1) tTrue (iG c c.ok "line" (jZ K c) (tVar 1) tNil) fin [none,none] H:=by
 have hn:=R.n
 have hlen:=X.len
 refine i0 (xs:=rs.map V.ref) (fun _=>true) (fun i=>.str ((rows.map RR.txt).getD i (tx []))) (by rw [List.length_map]; omega) (SqL.of X.top) ?_ ?_ ?_
 · intro i x H1 R hx s1 k1
   exact k1 _ (Same.refl _)
 · intro i x H1 Q1 hx hb s1 k1
   rw [List.getElem?_map] at hx
   cases e:rs[i]? with
   | none=>rw [e] at hx; cases hx
   | some r=>
    rw [e] at hx
    cases hx
    have hi:=(List.getElem?_eq_some_iff.mp e).1
    have er:rows[i]? =some rows[i]:=List.getElem?_eq_getElem (by omega)
    have X1:=X.at_ i r _ e er
    obtain ⟨dx,W,C,h1,h2,h3⟩:=X1.ex
    have q1:=k1 _ (Same.refl H1)
    have eg:(rows.map RR.txt).getD i (tx [])=rows[i].txt:=by rw [List.getD,List.getElem?_map,er]; rfl
    rw [eg] at q1
    have O:=R.ok _ (List.mem_of_getElem? er)
    have ln:=mi (k:=rows[i].k) (n:=rows[i].n) (m:=rows[i].m) O.len
    show iG c c.ok "line" _ _ _ [none,some (.ref r)] H1 Q1
    refine methE (k:=rows[i].k) rfl X1.ok (s1 _ _ h1) (by rfl) ?_
    walk_at "w"
    exact ⟨r,p,_,_,_,_,rfl,X1.same s1,ln.1,ln.2,q1⟩
 · intro l H1 hl s1 el
   refine hd l H1 hl s1 ?_
   rw [el,cc,List.length_map,hlen]
   congr 2
   refine List.ext_getElem? fun i=>?_
   rw [List.getElem?_map,List.getElem?_map,List.getElem?_map]
   by_cases h:i < rows.length
   · rw [List.getElem?_range h,List.getElem?_eq_getElem h]
     simp [List.getD,h]
   · rw [List.getElem?_eq_none (by simpa using h),List.getElem?_eq_none (by omega)]; rfl
def hV (K:PySem.W.Frag) (c:RCl RK) (d:RCl PzK) (_:PzK):Sp:=fun vs H Q _=>∃ (P L G:Addr) (h w g:Int) (rows:List RR) (cl:List Int),vs=[.ref P]∧IsPz H c d P L G h w g rows cl∧∀ l H',Same H H'→H l=none→H' l=some (.lst ((rows.map RR.txt).map V.str))→Q (.ref l) H'
def dL (K:PySem.W.Frag) (c:RCl RK) (d:RCl PzK):Sp:=hV K c d .Puzzle
theorem ni {K:PySem.W.Frag} {c:RCl RK} {d:RCl PzK} {vs:List V} {H:Hp} {Q:VK} {E:XK} (h:dL K c d vs H Q E):vs.length=1:=by
 obtain ⟨_,_,_,_,_,_,_,_,rfl,_⟩:=h; rfl
def dM (K:PySem.W.Frag) (c:RCl RK) (d:RCl PzK):TS:=
 (tRet (tComp [none,none] (iList K (tFldK d (tVar 0) "laws")) (gName 1) tTrue (iG c c.ok "line" (jZ K c) (tVar 1) tNil)))
theorem nj {K:PySem.W.Frag} {c:RCl RK} {d:RCl PzK} {vs:List V} {H:Hp} {Q:VK} {E:XK} (h:dL K c d vs H Q E):dM K c d { nx:=fun _ H'=>Q .non H',rt:=Q } (start ["self"] vs) H:=by
 obtain ⟨P,L,G,h,w,g,rows,cl,rfl,x,q⟩:=h
 obtain ⟨dx,p,rs,h1,h2,h3⟩:=x.ex
 show dM K c d _ [some (.ref P)] H
 unfold dM
 rw [fW,cA]
 refine fldE (k:=.Puzzle) rfl x.ok h1 (v:=.ref L) (by rfl) ?_
 refine ⟨L,rfl,⟨_,SqL.of h3.top⟩,?_⟩
 exact sG h3 x.R fun l H1 hl s1 el=>q l H1 s1 hl el
theorem qM (xs:List V) {k:Int} (h:0≤k):cutV xs none (some k)=xs.take k.toNat:=by
 unfold cutV
 have e:k=((k.toNat:Nat):Int):=by omega
 have h1:HT.sIx xs.length 0 none=0:=rfl
 have h2:HT.sIx xs.length xs.length (some k)=min k.toNat xs.length:=by
  conv=>lhs; rw [e]
  exact HT.sIx_nat ..
 rw [h1,h2]
 show (xs.drop 0).take _=_
 rw [List.drop_zero]
 by_cases hk:k.toNat≤xs.length
 · rw [Nat.min_eq_left hk]; rfl
 · rw [Nat.min_eq_right (by omega),List.take_of_length_le (by omega),List.take_of_length_le (by omega)]
theorem qO {K:PySem.W.Frag} {H:Hp} {Q:VK} {p:Addr} {i:Int} {ns:List Int} (h:H p=some (.tup (ns.map V.int))):cIn K false (.int i) (.ref p) H Q=Q (.bl (decide (i∈ns))) H:=by
 unfold cIn; dsimp only; rw [h]; dsimp only [unD,unS,bnd]
 rw [qv,o9]
 simp [flatV]
end L2
namespace L2
open PySem PySem.Spec PyProof.Rows
end L2
namespace L2
open PySem PySem.Spec PyProof.Rows
section
variable {P:Program} {w:World} {K:PySem.W.Frag} {mg:Str→Option Value} {base:Heap} {k:Nat} {x qual y:Str} {st:Stmt} {f:Addr} {fd:FuncData} {sp:Sp}
theorem nk {a0:Str} (F:Fun K x qual st f fd) (h:∀ (kV doc pm:Value) (an:Option Addr) (cdv ct u0:Value),bindArgs (PySem.W.fnOf x qual (bh st) (aV st) (ao st) .none kV doc pm an cdv ct) ⟨[u0],[]⟩=pure (([a0]:List Str).zip [u0]):=by intros; rfl):Binds K fd [a0] []:=F.binds fun _ _ _ _ _ _ us hl=>match us,hl with | [u0],_=>h _ _ _ _ _ _ _
theorem sH {a0:Str} (T:FnOk P w K mg base CX0 k f fd [a0] sp) (F:Fun K x qual st f fd) (hm:mg y=some (.ref f)) (h:∀ (kV doc pm:Value) (an:Option Addr) (cdv ct u0:Value),bindArgs (PySem.W.fnOf x qual (bh st) (aV st) (ao st) .none kV doc pm an cdv ct) ⟨[u0],[]⟩=pure (([a0]:List Str).zip [u0]):=by intros; rfl):Cal P w K mg base k y [a0] sp:=⟨f,fd,T,hm,F.kp,nk F h⟩
theorem sI {a0 a1:Str} (F:Fun K x qual st f fd) (h:∀ (kV doc pm:Value) (an:Option Addr) (cdv ct u0 u1:Value),bindArgs (PySem.W.fnOf x qual (bh st) (aV st) (ao st) .none kV doc pm an cdv ct) ⟨[u0,u1],[]⟩=pure (([a0,a1]:List Str).zip [u0,u1]):=by intros; rfl):Binds K fd [a0,a1] []:=F.binds fun _ _ _ _ _ _ us hl=>match us,hl with | [u0,u1],_=>h _ _ _ _ _ _ _ _
theorem sJ {a0 a1:Str} (T:FnOk P w K mg base CX0 k f fd [a0,a1] sp) (F:Fun K x qual st f fd) (hm:mg y=some (.ref f)) (h:∀ (kV doc pm:Value) (an:Option Addr) (cdv ct u0 u1:Value),bindArgs (PySem.W.fnOf x qual (bh st) (aV st) (ao st) .none kV doc pm an cdv ct) ⟨[u0,u1],[]⟩=pure (([a0,a1]:List Str).zip [u0,u1]):=by intros; rfl):Cal P w K mg base k y [a0,a1] sp:=⟨f,fd,T,hm,F.kp,sI F h⟩
theorem vd {a0 a1 a2:Str} (F:Fun K x qual st f fd) (h:∀ (kV doc pm:Value) (an:Option Addr) (cdv ct u0 u1 u2:Value),bindArgs (PySem.W.fnOf x qual (bh st) (aV st) (ao st) .none kV doc pm an cdv ct) ⟨[u0,u1,u2],[]⟩=pure (([a0,a1,a2]:List Str).zip [u0,u1,u2]):=by intros; rfl):Binds K fd [a0,a1,a2] []:=F.binds fun _ _ _ _ _ _ us hl=>match us,hl with | [u0,u1,u2],_=>h _ _ _ _ _ _ _ _ _
theorem uP {a0 a1 a2:Str} (T:FnOk P w K mg base CX0 k f fd [a0,a1,a2] sp) (F:Fun K x qual st f fd) (hm:mg y=some (.ref f)) (h:∀ (kV doc pm:Value) (an:Option Addr) (cdv ct u0 u1 u2:Value),bindArgs (PySem.W.fnOf x qual (bh st) (aV st) (ao st) .none kV doc pm an cdv ct) ⟨[u0,u1,u2],[]⟩=pure (([a0,a1,a2]:List Str).zip [u0,u1,u2]):=by intros; rfl):Cal P w K mg base k y [a0,a1,a2] sp:=⟨f,fd,T,hm,F.kp,vd F h⟩
theorem vf {a0 a1 a2 a3:Str} (F:Fun K x qual st f fd) (h:∀ (kV doc pm:Value) (an:Option Addr) (cdv ct u0 u1 u2 u3:Value),bindArgs (PySem.W.fnOf x qual (bh st) (aV st) (ao st) .none kV doc pm an cdv ct) ⟨[u0,u1,u2,u3],[]⟩=pure (([a0,a1,a2,a3]:List Str).zip [u0,u1,u2,u3]):=by intros; rfl):Binds K fd [a0,a1,a2,a3] []:=F.binds fun _ _ _ _ _ _ us hl=>match us,hl with | [u0,u1,u2,u3],_=>h _ _ _ _ _ _ _ _ _ _
theorem xw {a0 a1 a2 a3:Str} (T:FnOk P w K mg base CX0 k f fd [a0,a1,a2,a3] sp) (F:Fun K x qual st f fd) (hm:mg y=some (.ref f)) (h:∀ (kV doc pm:Value) (an:Option Addr) (cdv ct u0 u1 u2 u3:Value),bindArgs (PySem.W.fnOf x qual (bh st) (aV st) (ao st) .none kV doc pm an cdv ct) ⟨[u0,u1,u2,u3],[]⟩=pure (([a0,a1,a2,a3]:List Str).zip [u0,u1,u2,u3]):=by intros; rfl):Cal P w K mg base k y [a0,a1,a2,a3] sp:=⟨f,fd,T,hm,F.kp,vf F h⟩
theorem xk {a0 a1 a2 a3 a4:Str} (F:Fun K x qual st f fd) (h:∀ (kV doc pm:Value) (an:Option Addr) (cdv ct u0 u1 u2 u3 u4:Value),bindArgs (PySem.W.fnOf x qual (bh st) (aV st) (ao st) .none kV doc pm an cdv ct) ⟨[u0,u1,u2,u3,u4],[]⟩=pure (([a0,a1,a2,a3,a4]:List Str).zip [u0,u1,u2,u3,u4]):=by intros; rfl):Binds K fd [a0,a1,a2,a3,a4] []:=F.binds fun _ _ _ _ _ _ us hl=>match us,hl with | [u0,u1,u2,u3,u4],_=>h _ _ _ _ _ _ _ _ _ _ _
theorem xm {a0 a1 a2 a3 a4 a5:Str} (F:Fun K x qual st f fd) (h:∀ (kV doc pm:Value) (an:Option Addr) (cdv ct u0 u1 u2 u3 u4 u5:Value),bindArgs (PySem.W.fnOf x qual (bh st) (aV st) (ao st) .none kV doc pm an cdv ct) ⟨[u0,u1,u2,u3,u4,u5],[]⟩=pure (([a0,a1,a2,a3,a4,a5]:List Str).zip [u0,u1,u2,u3,u4,u5]):=by intros; rfl):Binds K fd [a0,a1,a2,a3,a4,a5] []:=F.binds fun _ _ _ _ _ _ us hl=>match us,hl with | [u0,u1,u2,u3,u4,u5],_=>h _ _ _ _ _ _ _ _ _ _ _ _
end
end L2
namespace L2
open PySem PySem.Spec PyProof.Rows
section
variable {P:Program} {w:World} {K:PySem.W.Frag} {mg:Str→Option Value} {base:Heap} {k:Nat} {x qual y:Str} {st:Stmt} {f:Addr} {fd:FuncData} {sp:Sp}
theorem nl {a0:Str} (T:FnOk P w K mg base (CX1 P w) k f fd [a0] sp) (F:Fun K x qual st f fd) (hm:mg y=some (.ref f)) (h:∀ (kV doc pm:Value) (an:Option Addr) (cdv ct u0:Value),bindArgs (PySem.W.fnOf x qual (bh st) (aV st) (ao st) .none kV doc pm an cdv ct) ⟨[u0],[]⟩=pure (([a0]:List Str).zip [u0]):=by intros; rfl):aL P w K mg base k y [a0] sp:=⟨f,fd,T,hm,F.kp,nk F h⟩
theorem kf {a0 a1:Str} (T:FnOk P w K mg base (CX1 P w) k f fd [a0,a1] sp) (F:Fun K x qual st f fd) (hm:mg y=some (.ref f)) (h:∀ (kV doc pm:Value) (an:Option Addr) (cdv ct u0 u1:Value),bindArgs (PySem.W.fnOf x qual (bh st) (aV st) (ao st) .none kV doc pm an cdv ct) ⟨[u0,u1],[]⟩=pure (([a0,a1]:List Str).zip [u0,u1]):=by intros; rfl):aL P w K mg base k y [a0,a1] sp:=⟨f,fd,T,hm,F.kp,sI F h⟩
theorem p8 {a0 a1 a2:Str} (T:FnOk P w K mg base (CX1 P w) k f fd [a0,a1,a2] sp) (F:Fun K x qual st f fd) (hm:mg y=some (.ref f)) (h:∀ (kV doc pm:Value) (an:Option Addr) (cdv ct u0 u1 u2:Value),bindArgs (PySem.W.fnOf x qual (bh st) (aV st) (ao st) .none kV doc pm an cdv ct) ⟨[u0,u1,u2],[]⟩=pure (([a0,a1,a2]:List Str).zip [u0,u1,u2]):=by intros; rfl):aL P w K mg base k y [a0,a1,a2] sp:=⟨f,fd,T,hm,F.kp,vd F h⟩
theorem xn {a0 a1 a2 a3 a4:Str} (T:FnOk P w K mg base (CX1 P w) k f fd [a0,a1,a2,a3,a4] sp) (F:Fun K x qual st f fd) (hm:mg y=some (.ref f)) (h:∀ (kV doc pm:Value) (an:Option Addr) (cdv ct u0 u1 u2 u3 u4:Value),bindArgs (PySem.W.fnOf x qual (bh st) (aV st) (ao st) .none kV doc pm an cdv ct) ⟨[u0,u1,u2,u3,u4],[]⟩=pure (([a0,a1,a2,a3,a4]:List Str).zip [u0,u1,u2,u3,u4]):=by intros; rfl):aL P w K mg base k y [a0,a1,a2,a3,a4] sp:=⟨f,fd,T,hm,F.kp,xk F h⟩
end
end L2
namespace L2
open PySem PySem.Spec PyProof.Rows
section
variable {ι:Type}
structure sK (P:Program) (w:World) (K:PySem.W.Frag) (mg:Str→Option Value) (base:Heap) (c:RCl ι) (okm:ι→Bool) (k:Nat) (m:Str) (ps:List Str) (sp:ι→Sp):Prop where
 ex:∀ i,okm i=true→∃ (f:Addr) (fd:FuncData),Cls K (c.A i)∧Meth K (c.A i) m f∧FnOk P w K mg base (CX1 P w) k f fd ps (sp i)∧Binds K fd ps []
structure p9 (P:Program) (w:World) (K:PySem.W.Frag) (mg:Str→Option Value) (base:Heap) (k:Nat) (x:Str) (C:Addr) (ps:List Str) (sp:Sp):Prop where
 ex:∃ (f:Addr) (fd:FuncData),Mk K C f∧FnOk P w K mg base (CX1 P w) k f fd ps sp∧mg x=some (.ref C)∧Binds K fd ps []
def qP (c:RCl ι) (okm:ι→Bool) (m:Str) (sp:ι→Sp) (E:XK) (ta:TE) (t:TA):TE:=fun σ H Q=>ta σ H fun x H1=>∃ a k dx fs,x=.ref a∧okm k=true∧H1 a=some (.ins (c.A k) dx fs)∧fs.lookup m=none∧
 t σ H1 fun vs H2=>sp k (x::vs) H2 Q E
end
section
variable {ι:Type} {X:Cx} {c:RCl ι} {o e:Expr} {es:List Expr} {x m:Str} {p pos apos:Pos} {ta:TE} {t:TA} {okm:ι→Bool} {k n:Nat} {ps:List Str} {sp:ι→Sp} {sp1:Sp} {C:Addr} {E:XK}
theorem t4 (hE:dY (CX1 X.prog X.w) X E) (M:p9 X.prog X.w X.K X.mg X.base k x C ps sp1) (hr:Room n X.A) (hk:k+1≤n) (hg:Gl X x) (ha:PA X (e::es) t)
  (hdb:(x==("__debug__":Str))=false:=by decide) (he:starEach (e::es) X.env=(false,eval e X.env)::starEach es X.env:=by rfl) (hpl:(backTo pos (starEach es X.env)).any (·.1)=false:=by rfl):
  PE X (.Call (.Name x p) (e::es) [] pos) (tMake C sp1 [] E t):=by
 obtain ⟨f,fd,mk,F,hm,hb⟩:=M.ex
 exact rL mk F (hr.mono hk) hg hm hb .nil hE ha hdb he hpl
theorem uQ {pl:Sem Bool} (hE:dY (CX1 X.prog X.w) X E) (M:sK X.prog X.w X.K X.mg X.base c okm k m ps sp) (hr:Room n X.A) (hk:k≤n) (he:PE X o ta) (ha:PA X (e::es) t)
  (hst:starEach (e::es) X.env=(false,eval e X.env)::starEach es X.env:=by rfl) (hpl:(backTo pos (starEach es X.env)).any (·.1)=false:=by rfl)
  (ht:eval (.Call (.Attribute o m apos) (e::es) [] pos) X.env=(do
   let ov ← eval o X.env
   standAt apos.atName
   let (f,first) ← holding [ov] (getMethod ov m pl)
   callWith pos f first (backTo pos (starEach (e::es) X.env)) (backToKw pos (keywordEach [] X.env))):=by rfl):
  PE X (.Call (.Attribute o m apos) (e::es) [] pos) (qP c okm m sp E ta t):=by
 intro pins s σ H Q I h
 refine PySem.W.methodCall_KW (pl:=pl) (thn (he pins s σ H _ I h) fun u s1 ⟨x,H1,I1,rx,a,i,dx,fs,ex,hi,ea,l,q⟩=>?_) ht
 subst ex
 obtain rfl:u=Value.ref a:=rx
 obtain ⟨f,fd,cl,hm,F,hb⟩:=M.ex i hi
 refine mU I1 ea cl hm l ?_
 refine PySem.W.callWith_K (first:=[.ref a]) (h₀:=X.base) I.ok.mod.kin hm.kp (thn (ha pos pins s1 σ H1 _ I1 q) fun us s2 ⟨vs,H2,I2,r,q2⟩=>⟨I2.kIn,?_⟩) hst hpl
 exact qc (us:=.ref a::us) (vs:=.ref a::vs) F (hr.mono hk) hb .nil hE I2 (.cons rfl r) (by rw [List.append_nil]; exact q2)
end
section
variable {ι:Type} {c:RCl ι} {ta:TE} {t:TA} {m:Str} {σ:St} {H:Hp} {Q:VK} {okm:ι→Bool} {sp:ι→Sp} {sp1:Sp} {C:Addr} {E:XK}
theorem lE:qP c okm m sp E ta t σ H Q=ta σ H fun x H1=>∃ a k dx fs,x=.ref a∧okm k=true∧H1 a=some (.ins (c.A k) dx fs)∧fs.lookup m=none∧t σ H1 fun vs H2=>sp k (x::vs) H2 Q E:=rfl
theorem lF:tMake C sp1 [] E t σ H Q=t σ H fun vs H1=>∀ x dx,H1 x=none→H1 dx=none→dx≠x→sp1 (.ref x::(vs++[])) (upd (upd H1 dx (.own x)) x (.ins C dx [])) (fun v H2=>v=.non∧Q (.ref x) H2) E:=rfl
end
def IntW (w:List Nat) (n:Nat):Prop:=(n < 100∧w=numC n)∨(n=100∧w=[49,48,48])∨(n=999999999∧w=[57,57,57,57,57,57,57,57,57])
set_option maxHeartbeats 4000000 in
theorem gisX (n:Nat) (w:List Nat) (hw:(n=100∧w=[49,48,48])∨(n=999999999∧w=[57,57,57,57,57,57,57,57,57])) (u:Tok):Gives (Builtin.«int.__new__» ⟨[.type "int",.str (tx w) u],[]⟩) (.int n):=
 .of_wp fun M A E s Q h=>by
  have ha:((tx w).cps.all fun x=>decide (x < 128))=true:=by rcases hw with ⟨_,rfl⟩ | ⟨_,rfl⟩ <;> decide+kernel
  obtain ⟨hp,g,d,tk,os⟩:=s
  have f1:=PySem.F.conv_sub_int
  have f2:=PySem.F.madeHere_int
  have f3:=m8
  have f4:=kI
  have f5:=kJ
  iterate 44 (any_goals (first | assumption | wp_step))
  refine wpAny_bind (wpAny_of_eq (a:=some (tx w)) rfl ?_)
  refine wpAny_of_eq (a:=some w) ?e1 ?_
  case e1=>
   show (pure (some (if ((tx w).cps.all fun x=>decide (x < 128))=true then (tx w).cps.toList else _)):Sem _)=_
   rw [if_pos ha,fc]
  refine ph (m':=mkInt (n:Int)) ?e2 ?_
  case e2=>
   clear h f1 f2 f3 f4 f5
   rcases hw with ⟨rfl,rfl⟩ | ⟨rfl,rfl⟩ <;> kernel_rfl
  repeat (any_goals (first | assumption | wp_step))
  all_goals first | exact ⟨_,rfl,h⟩ | skip
def lG:List V→Hp→VK→Prop
 | [.int i],H,Q=>Q (.int i) H
 | [.bl k],H,Q=>Q (.int (if k then 1 else 0)) H
 | [.str z],H,Q=>∃ (n:Nat) (w:List Nat),IntW w n∧z=tx w∧Q (.int n) H
 | _,_,_=>False
theorem kg {X:Cx}:CallR X (.type "int") lG:=by
 intro pins s σ H xs us Q I r h
 unfold lG at h
 split at h
 · exact oU pins s σ H _ us Q I r (.inl ⟨_,rfl,h⟩)
 · exact oU pins s σ H _ us Q I r (.inr ⟨_,rfl,h⟩)
 · obtain ⟨n,w,hw,rfl,q⟩:=h
   obtain ⟨u,rfl,ru⟩:=fz r
   obtain ⟨t,rfl⟩:=ru
   rcases hw with ⟨hn,rfl⟩ | hw
   · exact call_int_1 (gis n hn t).meets (show (Made.int (n:Int)).post _ s from ⟨rfl,⟨.int n,H,I.tok _,⟨_,rfl⟩,q⟩⟩)
   · exact call_int_1 (gisX n w hw t).meets (show (Made.int (n:Int)).post _ s from ⟨rfl,⟨.int n,H,I.tok _,⟨_,rfl⟩,q⟩⟩)
 · exact h.elim
end L2
namespace L2
open PySem PySem.Spec PyProof.Rows
local macro_rules | `(tactic| walk_at "w")=>`(tactic| (first | simp only [aM,lF,lE,kb,ge,jp,g9,hJ,kc,j8,jj,ka,if_true,if_false,Bool.false_eq_true,decide_true,decide_false,gn,gp,jG,fe,dm,gk,iC,gm,fb,iA,iB,eY,jD,fg,fh,fj,fk,fm,fo,fi,iD,iE,iF,iz,jF,Bool.not_true,Bool.not_false,eu,fV,bi,gs,w_c,jc,fW,eC,eD,eE,w_b,w_not,gt,jd,eF,eH,gu,gw,eI,je,eJ,gy,gz,jf,gA,dc,eK,eM,eP,cz,de,cA,cp,cq,bN,gB,gD,gE,gF,gG,gH,gI,gJ,gK,gL,gM,gN,jg,eQ,cr,eS,jh,eV,df,cu,gO,gP,eW,dw,eX,
 List.getElem?_cons_zero,List.getElem?_cons_succ,Option.some.injEq,exists_eq_left',exists_eq_left,List.set_cons_zero,List.set_cons_succ,bY,V.int.injEq,V.bl.injEq,V.ref.injEq,V.str.injEq,List.append_nil,List.nil_append,List.cons_append] | dsimp only | skip))
def digB (c:Nat):Bool:=decide (48≤c)&&decide (c≤57)
def badH (w:List Nat):Bool:=decide (w=[])||decide (9 < w.length)||(decide (w.head? =some 48)&&!decide (w=[48]))
def numW (w:List Nat):Option Nat:=if badH w=true then none else if w.all digB=true then some (w.foldl (fun a c=>10*a+(c - 48)) 0) else none
def NumOk (w:List Nat):Prop:=∀ n,numW w=some n→IntW w n
def nV:Option Nat→V
 | none=>.non
 | some n=>.int n
structure WdOk (w:List Nat):Prop where
 len:w.length≤100
 asc:∀ c∈w,c < 128
 num:NumOk w
def bC (K:PySem.W.Frag):Sp:=fun vs H Q _=>∃ w:List Nat,vs=[.str (tx w)]∧WdOk w∧∀ H',Same H H'→Q (nV (numW w)) H'
theorem oA {K:PySem.W.Frag} {vs:List V} {H:Hp} {Q:VK} {E:XK} (h:bC K vs H Q E):vs.length=1:=by
 obtain ⟨_,rfl,_⟩:=h; rfl
def fG (K:PySem.W.Frag):TS:=
 (tSeq (tIfS (tNot (tB (tCB kAll (tCons (tComp [none,none] (iStr (tVar 0)) (gName 1) tTrue (tOp (cIn K false) (tVar 1) (tC (.str (tx [48,49,50,51,52,53,54,55,56,57]))))) tNil)))) (tRet (tC .non)) tNext)
  (tRet (tCB lG (tCons (tVar 0) tNil))))
def fC (K:PySem.W.Frag):TS:=
 (tSeq (tIfS (tOr (tTest (tOp (cEq K) (tVar 0) (tC (.str (tx []))))) (tOr (tTest (tOp (cCmp fun i j=>decide (j < i)) (tCB kLen (tCons (tVar 0) tNil)) (tC (.int 9)))) (tAnd (tTest (tOp (cEq K) (tOp cIx (tVar 0) (tC (.int 0))) (tC (.str (tx [48]))))) (tTest (tOp (cNe K) (tVar 0) (tC (.str (tx [48])))))))) (tRet (tC .non)) tNext)
  (fG K))
theorem vQ {c:Nat} (h:c < 128):(!(Builtin.Str.occurrences (tx [48,49,50,51,52,53,54,55,56,57]) (tx [c]) 0 (tx [48,49,50,51,52,53,54,55,56,57]).length 1).isEmpty)=digB c:=by
 have t:((List.range 128).all fun c=>decide ((!(Builtin.Str.occurrences (tx [48,49,50,51,52,53,54,55,56,57]) (tx [c]) 0 (tx [48,49,50,51,52,53,54,55,56,57]).length 1).isEmpty)=digB c))=true:=by decide+kernel
 exact of_decide_eq_true (List.all_eq_true.mp t c (List.mem_range.mpr h))
theorem iQ {K:PySem.W.Frag} {H:Hp} {Q:VK} {w:List Nat} (W:WdOk w) (hb:badH w=false) (q:∀ H',Same H H'→Q (nV (numW w)) H'):fG K { nx:=fun _ H'=>Q .non H',rt:=Q } [some (.str (tx w))] H:=by
 have hw:=W.asc
 have hl:=W.len
 unfold fG
 rw [aM,aO]
 walk_at "w"
 refine pd (cs:=w) (fun _=>true) (fun i=>.bl (digB (w.getD i 0))) (by omega) ?_ ?_ ?_
 · intro i c H1 R hc s1 k1
   exact k1 _ (Same.refl _)
 · intro i c H1 Q1 hc hb s1 k1
   show tOp (cIn K false) _ _ [none,some (.str (tx [c]))] H1 Q1
   walk_at "w"
   have q1:=k1 _ (Same.refl H1)
   show Q1 (.bl (if false=true then _ else !(Builtin.Str.occurrences (tx [48,49,50,51,52,53,54,55,56,57]) (tx [c]) 0 (tx [48,49,50,51,52,53,54,55,56,57]).length 1).isEmpty)) H1
   rw [if_neg Bool.false_ne_true,vQ (hw c (List.mem_of_getElem? hc))]
   have eg:w.getD i 0=c:=by rw [List.getD,hc]; rfl
   rw [eg] at q1
   exact q1
 · intro l H1 hl1 s1 el
   have eb:((List.range w.length).filter fun _=>true).map (fun i=>V.bl (digB (w.getD i 0)))=(w.map digB).map V.bl:=by
    rw [cc]
    refine List.ext_getElem? fun i=>?_
    rw [List.getElem?_map,List.getElem?_map,List.getElem?_map]
    by_cases h:i < w.length
    · rw [List.getElem?_range h,List.getElem?_eq_getElem h]
      simp [List.getD,h]
    · rw [List.getElem?_eq_none (by simpa using h),List.getElem?_eq_none (by omega)]; rfl
   rw [eb] at el
   refine u9 el ?_
   have ea:(w.map digB).all id=w.all digB:=by rw [List.all_map]; rfl
   rw [ea]
   have q1:=q _ s1
   unfold numW at q1
   rw [hb,if_neg Bool.false_ne_true] at q1
   cases hd:w.all digB with
   | false=>
    rw [hd,if_neg Bool.false_ne_true] at q1
    walk_at "w"
    exact q1
   | true=>
    rw [hd,if_pos rfl] at q1
    walk_at "w"
    refine ⟨_,w,W.num _ ?_,rfl,q1⟩
    unfold numW
    rw [hb,if_neg Bool.false_ne_true,hd,if_pos rfl]
theorem oB {K:PySem.W.Frag} {vs:List V} {H:Hp} {Q:VK} {E:XK} (h:bC K vs H Q E):fC K { nx:=fun _ H'=>Q .non H',rt:=Q } (start ["word"] vs) H:=by
 obtain ⟨w,rfl,W,q⟩:=h
 have hl:=W.len
 have qn:badH w=true→Q .non H:=fun hb=>by
  have q1:=q _ (Same.refl H)
  unfold numW at q1
  rw [if_pos hb] at q1
  exact q1
 show fC K _ [some (.str (tx w))] H
 unfold fC
 rw [aM,aO]
 walk_at "w"
 rw [kG]
 by_cases h0:w=[]
 · rw [decide_eq_true h0]
   exact iteT (qn (by rw [h0]; rfl))
 rw [decide_eq_false h0]
 refine iteF ⟨by rw [ay]; exact aq (by omega),?_⟩
 walk_at "w"
 rw [ay]
 by_cases h9:9 < w.length
 · rw [decide_eq_true (show (9:Int) < ((w.length:Nat):Int) by omega)]
   exact iteT (qn (by unfold badH; rw [decide_eq_true h9]; simp))
 rw [decide_eq_false (show ¬ (9:Int) < ((w.length:Nat):Int) by omega)]
 refine iteF ?_
 rw [u8,ay,fc]
 obtain ⟨c,r,ec⟩:∃ c r,w=c::r:=by
  cases e:w with
  | nil=>exact absurd e h0
  | cons c r=>exact ⟨c,r,rfl⟩
 refine ⟨aq (by omega),bo (a:=c) (by rw [ec]; exact aG (j:=0) rfl) ?_⟩
 walk_at "w"
 have e1:decide ((⟨#[c]⟩:Str)=tx [48])=decide (c=48):=by
  have:(⟨#[c]⟩:Str)=tx [c]:=rfl
  rw [this,kG]
  simp
 rw [e1,kG]
 have eh:badH w=(decide (c=48)&&!decide (w=[48])):=by
  unfold badH
  rw [decide_eq_false h0,decide_eq_false h9,ec]
  simp
 cases hc:decide (c=48) with
 | false=>
  refine iteF ?_
  exact iQ W (by rw [eh,hc]; rfl) q
 | true=>
  refine iteT ?_
  cases hw:decide (w=[48]) with
  | false=>exact iteT (qn (by rw [eh,hc,hw]; rfl))
  | true=>exact iteF (iQ W (by rw [eh,hc,hw]; rfl) q)
def inW (o:Option Nat) (lo hi:Int):Bool:=match o with
 | none=>false
 | some n=>decide (lo≤n)&&decide ((n:Int)≤hi)
abbrev RE (K:PySem.W.Frag) (H:Hp) (E:XK):Prop:=∀ C,Glb K "NoRule" C→∀ H',Same H H'→E (.ref C) none H'
def aT (K:PySem.W.Frag):Sp:=fun vs H Q E=>∃ (w:List Nat) (lo hi:Int),vs=[.str (tx w),.int lo,.int hi]∧WdOk w∧(∀ n,numW w=some n→inW (some n) lo hi=true→∀ H',Same H H'→Q (.int n) H')∧(inW (numW w) lo hi=false→RE K H E)
theorem kK {K:PySem.W.Frag} {vs:List V} {H:Hp} {Q:VK} {E:XK} (h:aT K vs H Q E):vs.length=3:=by
 obtain ⟨_,_,_,rfl,_⟩:=h; rfl
def cG (K:PySem.W.Frag) (a:EA) (E:XK):TS:=
 (tSeq (tAsg (tCall (bC K) [] E0 (tCons (tVar 0) tNil)) (gName 3))
  (tSeq (tIfS (tOr (tTest (tOp rIsN (tVar 3) (tC .non))) (tOr (tTest (tOp (cCmp fun i j=>decide (i < j)) (tVar 3) (tVar 1))) (tTest (tOp (cCmp fun i j=>decide (j < i)) (tVar 3) (tVar 2))))) (bc E a.NoRule (tCons (tC (.str (tx [97,32,110,117,109,98,101,114,32,111,102,32,116,104,101,32,114,117,108,101,32,105,115,32,110,111,110,101,44,32,111,114,32,98,101,121,111,110,100,32,105,116,115,32,98,111,117,110,100,115]))) tNil)) tNext)
  (tRet (tVar 3))))
section
variable {o1 o2 o3:List Addr} {K:PySem.W.Frag} {a:EA} {vs:List V} {H:Hp} {Q:VK} {E:XK} (RF:ak K a "NoFloor" a.NoFloor o1) (RR:ak K a "NoRule" a.NoRule o2) (RP:ak K a "NoPuzzle" a.NoPuzzle o3)
include RF RR RP
theorem kL (h:aT K vs H Q E):cG K a E { nx:=fun _ H'=>Q .non H',rt:=Q } (start ["word","least","most","number"] vs) H:=by
 obtain ⟨w,lo,hi,rfl,W,q1,q2⟩:=h
 show cG K a E _ [some (.str (tx w)),some (.int lo),some (.int hi),none] H
 unfold cG
 walk_at "w"
 refine ⟨w,rfl,W,fun H1 s1=>?_⟩
 have fail:inW (numW w) lo hi=false→∀ (vs:List V),vs.length=1→vs.length≤sizeLine∧E (.ref a.NoRule) none H1:=fun hb vs hv=>⟨aq (by omega),q2 hb _ RR.g _ s1⟩
 cases e:numW w with
 | none=>
  show tIfS _ _ _ _ [some (.str (tx w)),some (.int lo),some (.int hi),some .non] H1
  rw [aO]
  walk_at "w"
  rw [aP]
  walk_at "w"
  exact fail (by rw [e]; rfl) _ rfl
 | some n=>
  show tIfS _ _ _ _ [some (.str (tx w)),some (.int lo),some (.int hi),some (.int n)] H1
  rw [aO]
  walk_at "w"
  rw [decide_eq_false (show ¬ V.int n=V.non from fun e=>nomatch e)]
  refine iteF ?_
  by_cases h1:(n:Int) < lo
  · rw [decide_eq_true h1]
    refine iteT ?_
    rw [aP]
    walk_at "w"
    exact fail (by rw [e]; unfold inW; simp; omega) _ rfl
  rw [decide_eq_false h1]
  refine iteF ?_
  by_cases h2:hi < (n:Int)
  · rw [decide_eq_true h2]
    refine iteT ?_
    rw [aP]
    walk_at "w"
    exact fail (by rw [e]; unfold inW; simp; omega) _ rfl
  rw [decide_eq_false h2]
  refine iteF ?_
  walk_at "w"
  exact q1 n e (by unfold inW; simp; omega) _ s1
end
def bp (K:PySem.W.Frag):Sp:=fun vs H Q E=>∃ (p:Addr) (ws:List (List Nat)) (lo hi:Int),vs=[.ref p,.int lo,.int hi]∧H p=some (.lst ((ws.map tx).map V.str))∧(∀ w∈ws,WdOk w)∧
 (∀ w r n,ws=w::r→numW w=some n→inW (some n) lo hi=true→∀ H',Same H H'→Q (.int n) H')∧((∀ w r n,ws=w::r→numW w=some n→inW (some n) lo hi=false)→RE K H E)
theorem lL {K:PySem.W.Frag} {vs:List V} {H:Hp} {Q:VK} {E:XK} (h:bp K vs H Q E):vs.length=3:=by
 obtain ⟨_,_,_,_,rfl,_⟩:=h; rfl
def cT (K:PySem.W.Frag) (a:EA) (E:XK):TS:=
 (tSeq (tIfS (tTest (tOp (cEq K) (tVar 0) (tLst tNil))) (bc E a.NoRule (tCons (tC (.str (tx [116,104,101,32,114,117,108,101,32,104,97,115,32,116,111,111,32,102,101,119,32,119,111,114,100,115]))) tNil)) tNext)
  (tRet (tCall (aT K) [] E (tCons (tOp cIx (tVar 0) (tC (.int 0))) (tCons (tVar 1) (tCons (tVar 2) tNil))))))
theorem WdOk.strs {ws:List (List Nat)} (h:∀ w∈ws,WdOk w):∀ x∈ws.map tx,PyData.strOk x=true:=WOk.strs fun w hw=>(h w hw).asc
def okC (m:Int) (w:List Nat):Bool:=inW (numW w) 0 (m - 1)
def celW (w:List Nat):Int:=((numW w).getD 0:Nat)
def accT (m:Int) (ws:List (List Nat)):Bool:=!decide (ws=[])&&ws.all (okC m)&&decide ((ws.map celW).Nodup)
def bS (K:PySem.W.Frag):Sp:=fun vs H Q E=>∃ (a p:Addr) (h w g:Int) (ws:List (List Nat)),vs=[.ref a,.ref p]∧IsFl H a h w g∧FlOk h w g∧H p=some (.lst ((ws.map tx).map V.str))∧ws.length≤100∧(∀ w∈ws,WdOk w)∧
 (accT (h*w) ws=true→∀ l H',Same H H'→H l=none→H' l=some (.lst ((ws.map celW).map V.int))→Q (.ref l) H')∧(accT (h*w) ws=false→RE K H E)
theorem nu {K:PySem.W.Frag} {vs:List V} {H:Hp} {Q:VK} {E:XK} (h:bS K vs H Q E):vs.length=2:=by
 obtain ⟨_,_,_,_,_,_,rfl,_⟩:=h; rfl
def fq (K:PySem.W.Frag) (a:EA) (E:XK):TS:=
 (tSeq (tIfS (tTest (tOp (cEq K) (tVar 2) (tLst tNil))) (bc E a.NoRule (tCons (tC (.str (tx [116,104,101,32,114,117,108,101,32,116,101,108,108,115,32,110,111,32,99,101,108,108]))) tNil)) tNext)
  (tSeq (tIfS (tTest (tOp (cNe K) (ou (tVar 2)) (tCB kLen (tCons (tVar 2) tNil)))) (bc E a.NoRule (tCons (tC (.str (tx [116,104,101,32,114,117,108,101,32,116,101,108,108,115,32,97,32,99,101,108,108,32,116,119,105,99,101]))) tNil)) tNext)
  (tRet (tVar 2))))
def dO (K:PySem.W.Frag) (a:EA) (E:XK):TS:=
 (tSeq (sComp 2 [none,none,some 0] (iList K (tVar 1)) (gName 1) tTrue (tCall (aT K) [] E (tCons (tVar 1) (tCons (tC (.int 0)) (tCons (tOp cSub (tCall (aN K) [] E0 (tCons (tVar 2) tNil)) (tC (.int 1))) tNil)))))
  (fq K a E))
theorem nv {l:List Int}:decide (((cntD l:Nat):Int)=((l.length:Nat):Int))=decide l.Nodup:=by
 have:=uM l
 by_cases h:l.Nodup
 · rw [decide_eq_true h,decide_eq_true (by rw [this.mpr h])]
 · rw [decide_eq_false h,decide_eq_false (fun z=>h (this.mp (by omega)))]
def j3 (m:Int) (nm:List Nat) (ws:List (List Nat)):Option (List Int):=
 if tx nm∈bR then (if ws=[] then some (rngL 0 m) else none) else if accT m ws=true then some (ws.map celW) else none
def cC (K:PySem.W.Frag):Sp:=fun vs H Q E=>∃ (a p:Addr) (h w g:Int) (nm:List Nat) (ws:List (List Nat)),vs=[.ref a,.str (tx nm),.ref p]∧IsFl H a h w g∧FlOk h w g∧H p=some (.lst ((ws.map tx).map V.str))∧ws.length≤100∧(∀ w∈ws,WdOk w)∧
 (∀ cs,j3 (h*w) nm ws=some cs→∀ l H',Same H H'→H l=none→H' l=some (.lst (cs.map V.int))→Q (.ref l) H')∧(j3 (h*w) nm ws=none→RE K H E)
theorem pJ {K:PySem.W.Frag} {vs:List V} {H:Hp} {Q:VK} {E:XK} (h:cC K vs H Q E):vs.length=3:=by
 obtain ⟨_,_,_,_,_,_,_,rfl,_⟩:=h; rfl
def fZ (K:PySem.W.Frag) (a:EA) (E:XK):TS:=
 (tSeq (tIfS (tB (tInG bR true (tVar 1))) (tRet (tCall (bS K) [] E (tCons (tVar 0) (tCons (tVar 2) tNil)))) tNext)
  (tSeq (tIfS (tTest (tOp (cNe K) (tVar 2) (tLst tNil))) (bc E a.NoRule (tCons (tC (.str (tx [116,104,101,32,114,117,108,101,32,104,97,115,32,116,111,111,32,109,97,110,121,32,119,111,114,100,115]))) tNil)) tNext)
  (tRet (kE (tCons (tCall (aN K) [] E0 (tCons (tVar 0) tNil)) tNil)))))
def kOf (nm:List Nat):Option RK:=if nm=nmC .Unlike then some .Unlike else if nm=nmC .Sum then some .Sum else if nm=nmC .Rising then some .Rising else if nm=nmC .Seen then some .Seen else if nm=nmC .Count then some .Count else if nm=nmC .Joined then some .Joined else if nm=nmC .NoSquare then some .NoSquare else if nm=nmC .Ring then some .Ring else none
def dj (K:PySem.W.Frag) (c:RCl RK):Sp:=fun vs H Q E=>∃ (p W C:Addr) (nm:List Nat) (ws:List (List Nat)) (cs:List Int) (n m:Int),vs=[.ref p,.ref W,.ref C,.int n,.int m]∧H W=some (.lst (((nm::ws).map tx).map V.str))∧H C=some (.lst (cs.map V.int))∧
 (∀ k,kOf nm=some k→c.ok k=true∧∀ r H',Same H H'→H r=none→IsRule H' c k r p (nm::ws) cs n m→Q (.ref r) H')∧(kOf nm=none→RE K H E)
theorem qQ {K:PySem.W.Frag} {c:RCl RK} {vs:List V} {H:Hp} {Q:VK} {E:XK} (h:dj K c vs H Q E):vs.length=5:=by
 obtain ⟨_,_,_,_,_,_,_,_,rfl,_⟩:=h; rfl
def gU (K:PySem.W.Frag) (c:RCl RK) (a:EA) (E:XK):TS:=
 (tSeq (tAsg (tOp cIx (tVar 1) (tC (.int 0))) (gName 5))
  (tSeq (tIfS (tTest (tOp (cEq K) (tVar 5) (tC (.str (tx [117,110,108,105,107,101]))))) (tRet (tMake (c.A .Unlike) (ap K c) [] E0 (tCons (tVar 0) (tCons (tVar 1) (tCons (tVar 2) (tCons (tVar 3) (tCons (tVar 4) tNil))))))) tNext)
  (tSeq (tIfS (tTest (tOp (cEq K) (tVar 5) (tC (.str (tx [115,117,109]))))) (tRet (tMake (c.A .Sum) (ap K c) [] E0 (tCons (tVar 0) (tCons (tVar 1) (tCons (tVar 2) (tCons (tVar 3) (tCons (tVar 4) tNil))))))) tNext)
  (tSeq (tIfS (tTest (tOp (cEq K) (tVar 5) (tC (.str (tx [114,105,115,105,110,103]))))) (tRet (tMake (c.A .Rising) (ap K c) [] E0 (tCons (tVar 0) (tCons (tVar 1) (tCons (tVar 2) (tCons (tVar 3) (tCons (tVar 4) tNil))))))) tNext)
  (tSeq (tIfS (tTest (tOp (cEq K) (tVar 5) (tC (.str (tx [115,101,101,110]))))) (tRet (tMake (c.A .Seen) (ap K c) [] E0 (tCons (tVar 0) (tCons (tVar 1) (tCons (tVar 2) (tCons (tVar 3) (tCons (tVar 4) tNil))))))) tNext)
  (tSeq (tIfS (tTest (tOp (cEq K) (tVar 5) (tC (.str (tx [99,111,117,110,116]))))) (tRet (tMake (c.A .Count) (ap K c) [] E0 (tCons (tVar 0) (tCons (tVar 1) (tCons (tVar 2) (tCons (tVar 3) (tCons (tVar 4) tNil))))))) tNext)
  (tSeq (tIfS (tTest (tOp (cEq K) (tVar 5) (tC (.str (tx [106,111,105,110,101,100]))))) (tRet (tMake (c.A .Joined) (ap K c) [] E0 (tCons (tVar 0) (tCons (tVar 1) (tCons (tVar 2) (tCons (tVar 3) (tCons (tVar 4) tNil))))))) tNext)
  (tSeq (tIfS (tTest (tOp (cEq K) (tVar 5) (tC (.str (tx [110,111,115,113,117,97,114,101]))))) (tRet (tMake (c.A .NoSquare) (ap K c) [] E0 (tCons (tVar 0) (tCons (tVar 1) (tCons (tVar 2) (tCons (tVar 3) (tCons (tVar 4) tNil))))))) tNext)
  (tSeq (tIfS (tTest (tOp (cEq K) (tVar 5) (tC (.str (tx [114,105,110,103]))))) (tRet (tMake (c.A .Ring) (ap K c) [] E0 (tCons (tVar 0) (tCons (tVar 1) (tCons (tVar 2) (tCons (tVar 3) (tCons (tVar 4) tNil))))))) tNext)
  (bc E a.NoRule (tCons (tC (.str (tx [110,111,32,114,117,108,101,32,98,101,103,105,110,115,32,119,105,116,104,32,116,104,105,115,32,119,111,114,100]))) tNil)))))))))))
section
variable {o1 o2 o3:List Addr} {K:PySem.W.Frag} {c:RCl RK} {a:EA} {vs:List V} {H:Hp} {Q:VK} {E:XK} (RF:ak K a "NoFloor" a.NoFloor o1) (RR:ak K a "NoRule" a.NoRule o2) (RP:ak K a "NoPuzzle" a.NoPuzzle o3)
include RF RR RP
theorem lN (h:bp K vs H Q E):cT K a E { nx:=fun _ H'=>Q .non H',rt:=Q } (start ["words","least","most"] vs) H:=by
 obtain ⟨p,ws,lo,hi,rfl,hp,hw,q1,q2⟩:=h
 show cT K a E _ [some (.ref p),some (.int lo),some (.int hi)] H
 unfold cT
 rw [aM,aO]
 walk_at "w"
 refine ⟨aq (by decide),fun l hl=>?_⟩
 have s1:Same H (upd H l (.lst [])):=(Same.refl H).laid hl
 refine qK (s1 _ _ hp) (ys:=[]) af (WdOk.strs hw) (fun x hx=>nomatch hx) ?_
 generalize upd H l (.lst [])=H1 at*
 walk_at "w"
 cases ws with
 | nil=>
  refine iteT ?_
  rw [aP]
  walk_at "w"
  exact ⟨aq (by show (1:Nat)≤1000; decide),q2 (fun w r n e=>nomatch e) _ RR.g _ s1⟩
 | cons w r=>
  rw [decide_eq_false (by simp)]
  refine iteF ?_
  walk_at "w"
  have e0:atI (((w::r).map tx).map V.str) 0=some (V.str (tx w)):=aG (j:=0) rfl
  refine ixL (s1 _ _ hp) e0 ?_
  walk_at "w"
  refine ⟨w,lo,hi,rfl,hw w List.mem_cons_self,fun n e1 e2 H2 s2=>q1 w r n rfl e1 e2 _ (s1.trans s2),fun hb C hC H2 s2=>q2 (fun w' r' n e e1=>?_) C hC _ (s1.trans s2)⟩
  cases e
  rw [e1] at hb
  exact hb
theorem kM {p f l:Addr} {ws:List (List Nat)} (hl:H l=some (.lst ((ws.map celW).map V.int))) (hn:ws.length≤100) (q1:ws≠[]→(ws.map celW).Nodup→∀ H',Same H H'→Q (.ref l) H') (q2:(ws=[]∨¬ (ws.map celW).Nodup)→RE K H E):
  fq K a E { nx:=fun _ H'=>Q .non H',rt:=Q } [some (.ref f),some (.ref p),some (.ref l)] H:=by
 unfold fq
 walk_at "w"
 rw [aO]
 walk_at "w"
 refine ⟨aq (by decide),fun z hz=>?_⟩
 have s2:Same H (upd H z (.lst [])):=(Same.refl H).laid hz
 refine xg (s2 _ _ hl) (ys:=[]) af ?_
 generalize upd H z (.lst [])=H2 at*
 walk_at "w"
 by_cases he:ws=[]
 · rw [decide_eq_true (by rw [he]; rfl)]
   refine iteT ?_
   rw [aP]
   walk_at "w"
   exact ⟨aq (by show (1:Nat)≤1000; decide),q2 (.inl he) _ RR.g _ s2⟩
 rw [decide_eq_false (by simpa using he)]
 refine iteF ?_
 walk_at "w"
 rw [aO]
 walk_at "w"
 refine ⟨l,_,rfl,s2 _ _ hl,by rw [List.length_map]; omega,?_⟩
 rw [ip (s2 _ _ hl),List.length_map]
 walk_at "w"
 rw [nv]
 by_cases hd:(ws.map celW).Nodup
 · rw [decide_eq_true hd]
   refine iteF ?_
   walk_at "w"
   exact q1 he hd _ s2
 · rw [decide_eq_false hd]
   refine iteT ?_
   rw [aP]
   walk_at "w"
   exact ⟨aq (by show (1:Nat)≤1000; decide),q2 (.inr hd) _ RR.g _ s2⟩
theorem nw (h:bS K vs H Q E):dO K a E { nx:=fun _ H'=>Q .non H',rt:=Q } (start ["floor","words","cells"] vs) H:=by
 obtain ⟨f,p,h,w,g,ws,rfl,ha,F,hp,hn,hw,q1,q2⟩:=h
 obtain ⟨h0,h1,w0,w1,m16,g0,g1⟩:=F
 show dO K a E _ [some (.ref f),some (.ref p),none] H
 unfold dO
 walk_at "w"
 refine ⟨⟨_,SqL.of hp⟩,?_⟩
 refine kD (xs:=(ws.map tx).map V.str) (fun l i σ H'=>(∃ cv,σ=[none,cv,some (.ref f)])∧Same H H'∧(∀ j x,j < i→ws[j]? =some x→okC (h*w) x=true)∧H' l=some (.lst (((ws.take i).map celW).map V.int)))
  (fun l hl=>⟨⟨none,rfl⟩,(Same.refl H).laid hl,fun j x hj=>absurd hj (Nat.not_lt_zero j),by rw [af]; rfl⟩) (fun l i σ H' _ _ x=>x.2.1.seq (SqL.of hp)) ?_ ?_
 · rintro l i x σ H1 hl hx ⟨⟨cv,rfl⟩,s1,hok,el⟩
   rw [List.getElem?_map,List.getElem?_map] at hx
   cases e:ws[i]? with
   | none=>rw [e] at hx; cases hx
   | some y=>
    rw [e] at hx
    cases hx
    have hi:=(List.getElem?_eq_some_iff.mp e).1
    have hm:=List.mem_of_getElem? e
    rw [bi]
    show tTrue [none,some (.str (tx y)),some (.ref f)] H1 _
    walk_at "w"
    refine ⟨f,h,w,g,rfl,s1 _ _ ha,h0,h1,?_⟩
    walk_at "w"
    refine ⟨y,0,_,rfl,hw y hm,fun n e1 e2 H2 s2=>?_,fun hb C hC H2 s2=>q2 ?_ C hC _ (s1.trans s2)⟩
    · have s12:=s1.trans s2
      refine ⟨_,s2 _ _ el,by rw [List.length_map,List.length_map,List.length_take]; exact aS (by omega),⟨_,rfl⟩,s12.own hl,fun j z hj ez=>?_,?_⟩
      · by_cases hji:j < i
        · exact hok j z hji ez
        · have:j=i:=by omega
          subst this
          rw [e] at ez
          cases ez
          unfold okC
          rw [e1]
          exact e2
      · rw [af,List.take_succ,e]
        simp [celW,e1]
    · unfold accT
      have:ws.all (okC (h*w))=false:=by
       rw [Bool.eq_false_iff]
       intro z
       have:=List.all_eq_true.mp z y hm
       unfold okC at this
       rw [hb] at this
       cases this
      rw [this]
      simp
 · rintro l σ H1 hl ⟨_,s1,hok,el⟩
   rw [List.length_map,List.length_map,List.take_length] at el
   rw [List.length_map,List.length_map] at hok
   have ha:ws.all (okC (h*w))=true:=by
    rw [List.all_eq_true]
    intro z hz
    obtain ⟨j,hj,ez⟩:=List.getElem_of_mem hz
    exact hok j z hj (by rw [List.getElem?_eq_getElem hj,ez])
   refine kM RF RR RP el hn (fun e1 e2 H' s'=>q1 ?_ l H' (s1.trans s') hl (s' _ _ el)) (fun hb C hC H' s'=>q2 ?_ C hC H' (s1.trans s'))
   · unfold accT
     rw [ha,decide_eq_false e1,decide_eq_true e2]; rfl
   · unfold accT
     rcases hb with hb | hb
     · rw [decide_eq_true hb]; rfl
     · rw [decide_eq_false hb]; simp
theorem pK (h:cC K vs H Q E):fZ K a E { nx:=fun _ H'=>Q .non H',rt:=Q } (start ["floor","name","words"] vs) H:=by
 obtain ⟨f,p,h,w,g,nm,ws,rfl,ha,F,hp,hn,hw,q1,q2⟩:=h
 obtain ⟨h0,h1,w0,w1,m16,g0,g1⟩:=id F
 have mpos:0≤h*w:=Int.mul_nonneg (by omega) (by omega)
 show fZ K a E _ [some (.ref f),some (.str (tx nm)),some (.ref p)] H
 unfold fZ
 rw [aM,aO]
 walk_at "w"
 by_cases hk:tx nm∈bR
 · unfold j3 at q1 q2
   rw [if_pos hk] at q1 q2
   rw [decide_eq_true hk]
   walk_at "w"
   rw [aO]
   walk_at "w"
   refine ⟨aq (by decide),fun z hz=>?_⟩
   have s1:Same H (upd H z (.lst [])):=(Same.refl H).laid hz
   refine wJ (ys:=[]) (s1 _ _ hp) af (WdOk.strs hw) (fun x hx=>nomatch hx) ?_
   generalize upd H z (.lst [])=H1 at*
   walk_at "w"
   by_cases he:ws=[]
   · rw [if_pos he] at q1
     rw [decide_eq_true (by rw [he]; rfl)]
     refine iteF ?_
     walk_at "w"
     refine ⟨f,h,w,g,rfl,s1 _ _ ha,h0,h1,?_⟩
     walk_at "w"
     refine ⟨h*w,rfl,by omega,by omega,fun l hl=>?_⟩
     exact q1 _ rfl l _ (s1.laid hl) (s1.free hl) af
   · rw [if_neg he] at q2
     rw [decide_eq_false (by simpa using he)]
     refine iteT ?_
     rw [aP]
     walk_at "w"
     exact ⟨aq (by show (1:Nat)≤1000; decide),q2 rfl _ RR.g _ s1⟩
 · unfold j3 at q1 q2
   rw [if_neg hk] at q1 q2
   rw [decide_eq_false hk]
   walk_at "w"
   exact ⟨f,p,h,w,g,ws,rfl,ha,F,hp,hn,hw,fun e=>q1 _ (by rw [if_pos e]),fun e=>q2 (by rw [if_neg (by rw [e]; exact Bool.false_ne_true)])⟩
theorem qS (h:dj K c vs H Q E):gU K c a E { nx:=fun _ H'=>Q .non H',rt:=Q } (start ["floor","words","cells","amount","mark","name"] vs) H:=by
 obtain ⟨p,W,C,nm,ws,cs,n,m,rfl,hW,hC,q1,q2⟩:=h
 have e0:atI (((nm::ws).map tx).map V.str) 0=some (V.str (tx nm)):=aG (j:=0) rfl
 show gU K c a E _ [some (.ref p),some (.ref W),some (.ref C),some (.int n),some (.int m),none] H
 unfold gU
 walk_at "w"
 refine ixL hW e0 ?_
 have D:∀ (l:List Nat) (t:TS) (u:TS) (D:Ends),(nm=l→t D [some (.ref p),some (.ref W),some (.ref C),some (.int n),some (.int m),some (.str (tx nm))] H)→(¬ nm=l→u D [some (.ref p),some (.ref W),some (.ref C),some (.int n),some (.int m),some (.str (tx nm))] H)→
   tIfS (tTest (tOp (cEq K) (tVar 5) (tC (.str (tx l))))) t u D [some (.ref p),some (.ref W),some (.ref C),some (.int n),some (.int m),some (.str (tx nm))] H:=fun l t u D h1 h2=>by
  rw [aO]
  walk_at "w"
  rw [kG]
  by_cases e:nm=l
  · rw [decide_eq_true e]; exact iteT (h1 e)
  · rw [decide_eq_false e]; exact iteF (h2 e)
 have R:∀ (k:RK) (D:Ends),D.rt=Q→kOf nm=some k→tRet (tMake (c.A k) (ap K c) [] E0 (tCons (tVar 0) (tCons (tVar 1) (tCons (tVar 2) (tCons (tVar 3) (tCons (tVar 4) tNil)))))) D [some (.ref p),some (.ref W),some (.ref C),some (.int n),some (.int m),some (.str (tx nm))] H:=fun k D hD hk=>by
  obtain ⟨ok,q⟩:=q1 k hk
  have mk:=vN (K:=K) ok hW hC q
  walk_at "w"
  rw [hD]
  exact mk
 refine D _ _ _ _ (fun e=>R .Unlike _ rfl (by rw [e]; rfl)) fun e1=>?_
 walk_at "w"
 refine D _ _ _ _ (fun e=>R .Sum _ rfl (by rw [e]; rfl)) fun e2=>?_
 walk_at "w"
 refine D _ _ _ _ (fun e=>R .Rising _ rfl (by rw [e]; rfl)) fun e3=>?_
 walk_at "w"
 refine D _ _ _ _ (fun e=>R .Seen _ rfl (by rw [e]; rfl)) fun e4=>?_
 walk_at "w"
 refine D _ _ _ _ (fun e=>R .Count _ rfl (by rw [e]; rfl)) fun e5=>?_
 walk_at "w"
 refine D _ _ _ _ (fun e=>R .Joined _ rfl (by rw [e]; rfl)) fun e6=>?_
 walk_at "w"
 refine D _ _ _ _ (fun e=>R .NoSquare _ rfl (by rw [e]; rfl)) fun e7=>?_
 walk_at "w"
 refine D _ _ _ _ (fun e=>R .Ring _ rfl (by rw [e]; rfl)) fun e8=>?_
 walk_at "w"
 rw [aP]
 walk_at "w"
 refine ⟨aq (by show (1:Nat)≤1000; decide),q2 ?_ _ RR.g _ (Same.refl H)⟩
 unfold kOf
 rw [if_neg (show ¬ nm=nmC .Unlike from e1),if_neg (show ¬ nm=nmC .Sum from e2),if_neg (show ¬ nm=nmC .Rising from e3),if_neg (show ¬ nm=nmC .Seen from e4),if_neg (show ¬ nm=nmC .Count from e5),if_neg (show ¬ nm=nmC .Joined from e6),if_neg (show ¬ nm=nmC .NoSquare from e7),if_neg (show ¬ nm=nmC .Ring from e8)]
end
def jq (m:Int) (nm:List Nat) (rest:List (List Nat)):Option (RK × List Int):=match j3 m nm rest,kOf nm with
 | some cs,some k=>some (k,cs)
 | _,_=>none
def kh (m g:Int) (nm:List Nat) (rest:List (List Nat)):Option (Nat × RK × List Int):=
 if tx nm∈di then (match rest with
  | []=>none
  | x::r=>if inW (numW x) 1 g=true then (jq m nm r).map fun y=>((numW x).getD 0,y) else none)
 else (jq m nm rest).map fun y=>(0,y)
def qT (m g:Int) (nm:List Nat) (rest:List (List Nat)):Option (Nat × Nat × RK × List Int):=
 if tx nm∈cg then (match rest with
  | []=>none
  | x::r=>if inW (numW x) 0 99=true then (kh m g nm r).map fun y=>((numW x).getD 0,y) else none)
 else (kh m g nm rest).map fun y=>(0,y)
def accR (m g:Int):List (List Nat)→Option (Nat × Nat × RK × List Int)
 | []=>none
 | nm::rest=>qT m g nm rest
structure LnOk (ws:List (List Nat)):Prop where
 ne:ws≠[]
 len:ws.length≤100
 fr:∀ w∈ws,32∉w
 wd:∀ w∈ws,WdOk w
def NoStr (H:Hp) (v:V):Prop:=v=.non∨(∃ i,v=.int i)∨(∃ b,v=.bl b)∨∃ q xs,v=.ref q∧(H q=some (.lst xs)∨H q=some (.tup xs))
theorem NoStr.same {H H':Hp} {v:V} (h:NoStr H v) (s:Same H H'):NoStr H' v:=by
 rcases h with h | h | h | ⟨q,xs,h1,h2⟩
 · exact .inl h
 · exact .inr (.inl h)
 · exact .inr (.inr (.inl h))
 · exact .inr (.inr (.inr ⟨q,xs,h1,h2.imp (fun z=>s _ _ z) fun z=>s _ _ z⟩))
theorem wN {H:Hp} {Q:VK} {v:V} (h:NoStr H v) (q:Q (.bl false) H):kIsi [v,.ty "str"] H Q:=by
 rcases h with rfl | ⟨i,rfl⟩ | ⟨b,rfl⟩ | ⟨p,xs,rfl,h⟩
 · exact ⟨rfl,q⟩
 · exact ⟨rfl,q⟩
 · exact ⟨rfl,q⟩
 · refine ⟨rfl,?_⟩
   unfold fQ
   rcases h with h | h
   · dsimp only; rw [h]; exact q
   · dsimp only; rw [h]; exact q
def ci (K:PySem.W.Frag) (c:RCl RK):Sp:=fun vs H Q E=>∃ (p:Addr) (v:V) (h w g:Int),vs=[.ref p,v]∧IsFl H p h w g∧FlOk h w g∧
 ((∃ ws,v=.str (tx (catL 32 ws))∧LnOk ws∧(∀ n m k cs,accR (h*w) g ws=some (n,m,k,cs)→c.ok k=true∧∀ r H',Same H H'→H r=none→IsRule H' c k r p ws cs n m→Q (.ref r) H')∧(accR (h*w) g ws=none→RE K H E))∨(NoStr H v∧RE K H E))
theorem oE {K:PySem.W.Frag} {c:RCl RK} {vs:List V} {H:Hp} {Q:VK} {E:XK} (h:ci K c vs H Q E):vs.length=2:=by
 obtain ⟨_,_,_,_,_,rfl,_⟩:=h; rfl
def fH (K:PySem.W.Frag) (c:RCl RK) (a:EA) (E:XK):TS:=
 (tRet (tCall (dj K c) [] E (tCons (tVar 0) (tCons (tVar 2) (tCons (tCall (cC K) [] E (tCons (tVar 0) (tCons (tVar 3) (tCons (tVar 4) tNil)))) (tCons (tVar 5) (tCons (tVar 6) tNil)))))))
def fI (K:PySem.W.Frag) (c:RCl RK) (a:EA) (E:XK):TS:=
 (tSeq (tIfS (tB (tInG di false (tVar 3))) (tSeq (tAsg (tCall (bp K) [] E (tCons (tVar 4) (tCons (tC (.int 1)) (tCons (tOp cIx (tVar 0) (tC (.int 2))) tNil)))) (gName 6))
  (tAsg (tSl gd (tVar 4) (tPart (tC (.int 1))) cx) (gName 4))) tNext)
  (fH K c a E))
def fJ (K:PySem.W.Frag) (c:RCl RK) (a:EA) (E:XK):TS:=
 (tSeq (tAsg (tOp cIx (tVar 2) (tC (.int 0))) (gName 3))
  (tSeq (tAsg (tSl gd (tVar 2) (tPart (tC (.int 1))) cx) (gName 4))
  (tSeq (tAsg (tC (.int 0)) (gName 5))
  (tSeq (tAsg (tC (.int 0)) (gName 6))
  (tSeq (tIfS (tB (tInG cg false (tVar 3))) (tSeq (tAsg (tCall (bp K) [] E (tCons (tVar 4) (tCons (tC (.int 0)) (tCons (tC (.int 99)) tNil)))) (gName 5))
  (tAsg (tSl gd (tVar 4) (tPart (tC (.int 1))) cx) (gName 4))) tNext)
  (fI K c a E))))))
def fD (K:PySem.W.Frag) (c:RCl RK) (a:EA) (E:XK):TS:=
 (tSeq (tIfS (tNot (tB (tCB kIsi (tCons (tVar 1) (tCons (tC (.ty "str")) tNil))))) (bc E a.NoRule (tCons (tC (.str (tx [97,32,114,117,108,101,32,105,115,32,114,101,97,100,32,102,114,111,109,32,97,32,116,101,120,116]))) tNil)) tNext)
  (tSeq (tAsg (tBM K "str" fR (tVar 1) (tCons (tC (.str (tx [32]))) tNil)) (gName 2))
  (fJ K c a E)))
theorem mE {H:Hp} {Q:VK} {p:Addr} {xs:List V} (hp:H p=some (.lst xs)) (q:∀ l,H l=none→Q (.ref l) (upd H l (.lst (xs.drop 1)))):gd (.ref p) (some 1) none H Q:=by
 refine p7 hp fun l hl=>?_
 rw [uN]
 exact q l hl
abbrev QR (c:RCl RK) (H:Hp) (Q:VK) (p:Addr) (ws:List (List Nat)) (k:RK) (cs:List Int) (n m:Int):Prop:=c.ok k=true∧∀ r H',Same H H'→H r=none→IsRule H' c k r p ws cs n m→Q (.ref r) H'
theorem QR.same {c:RCl RK} {H H1:Hp} {Q:VK} {p:Addr} {ws:List (List Nat)} {k:RK} {cs:List Int} {n m:Int} (h:QR c H Q p ws k cs n m) (s:Same H H1):QR c H1 Q p ws k cs n m:=⟨h.1,fun r H' s' hr x=>h.2 r H' (s.trans s') (s.free hr) x⟩
theorem RE.same {K:PySem.W.Frag} {H H1:Hp} {E:XK} (h:RE K H E) (s:Same H H1):RE K H1 E:=fun C hC H' s'=>h C hC H' (s.trans s')
section
variable {o1 o2 o3:List Addr} {K:PySem.W.Frag} {c:RCl RK} {a:EA} {vs:List V} {H:Hp} {Q:VK} {E:XK} (RF:ak K a "NoFloor" a.NoFloor o1) (RR:ak K a "NoRule" a.NoRule o2) (RP:ak K a "NoPuzzle" a.NoPuzzle o3)
theorem iR {p W R:Addr} {h w g:Int} {nm:List Nat} {ws rest:List (List Nat)} {n m:Nat} {lv:V} (F:FlOk h w g) (ha:IsFl H p h w g) (hW:H W=some (.lst (((nm::ws).map tx).map V.str))) (hR:H R=some (.lst ((rest.map tx).map V.str))) (hl:rest.length≤100) (hw:∀ w∈rest,WdOk w)
  (q1:∀ k cs,jq (h*w) nm rest=some (k,cs)→QR c H Q p (nm::ws) k cs n m) (q2:jq (h*w) nm rest=none→RE K H E):
  fH K c a E { nx:=fun _ H'=>Q .non H',rt:=Q } [some (.ref p),some lv,some (.ref W),some (.str (tx nm)),some (.ref R),some (.int n),some (.int m)] H:=by
 unfold fH
 walk_at "w"
 refine ⟨p,R,h,w,g,nm,rest,rfl,ha,F,hR,hl,hw,fun cs ec l H1 s1 hl el=>?_,fun ec=>q2 (by unfold jq; rw [ec])⟩
 walk_at "w"
 refine ⟨p,W,l,nm,ws,cs,n,m,rfl,s1 _ _ hW,el,fun k ek=>(q1 k cs (by unfold jq; rw [ec,ek])).same s1,fun ek=>(q2 (by unfold jq; rw [ec,ek])).same s1⟩
theorem iS {p W R:Addr} {h w g:Int} {nm:List Nat} {ws rest:List (List Nat)} {n:Nat} {lv:V} (F:FlOk h w g) (ha:IsFl H p h w g) (hW:H W=some (.lst (((nm::ws).map tx).map V.str))) (hR:H R=some (.lst ((rest.map tx).map V.str))) (hl:rest.length≤100) (hw:∀ w∈rest,WdOk w)
  (q1:∀ (m:Nat) k cs,kh (h*w) g nm rest=some (m,k,cs)→QR c H Q p (nm::ws) k cs n m) (q2:kh (h*w) g nm rest=none→RE K H E):
  fI K c a E { nx:=fun _ H'=>Q .non H',rt:=Q } [some (.ref p),some lv,some (.ref W),some (.str (tx nm)),some (.ref R),some (.int n),some (.int 0)] H:=by
 unfold fI
 rw [aM,aO]
 walk_at "w"
 unfold kh at q1 q2
 by_cases hs:tx nm∈di
 · rw [if_pos hs] at q1 q2
   rw [decide_eq_true hs]
   walk_at "w"
   refine ixT ha (v:=V.int g) rfl ?_
   walk_at "w"
   refine ⟨R,rest,1,g,rfl,hR,hw,fun x r m er em hi H1 s1=>?_,fun hb=>q2 ?_⟩
   · subst er
     dsimp only at q1 q2
     rw [em] at q1 q2
     rw [if_pos hi] at q1 q2
     walk_at "w"
     refine mE (s1 _ _ hR) fun R2 hR2=>?_
     have s2:Same H1 (upd H1 R2 (.lst ((((x::r).map tx).map V.str).drop 1))):=(Same.refl H1).laid hR2
     have e2:(upd H1 R2 (.lst ((((x::r).map tx).map V.str).drop 1))) R2=some (.lst ((r.map tx).map V.str)):=af
     generalize upd H1 R2 (.lst ((((x::r).map tx).map V.str).drop 1))=H2 at*
     have s12:=s1.trans s2
     exact iR F (s12 _ _ ha) (s12 _ _ hW) e2 (by simp at hl; omega) (fun z hz=>hw z (List.mem_cons_of_mem _ hz)) (fun k cs e=>(q1 m k cs (by rw [e]; rfl)).same s12) (fun e=>(q2 (by rw [e]; rfl)).same s12)
   · cases rest with
     | nil=>rfl
     | cons x r=>
      dsimp only
      cases e:numW x with
      | none=>rfl
      | some m=>rw [if_neg]; rw [hb x r m rfl e]; exact Bool.false_ne_true
 · rw [if_neg hs] at q1 q2
   rw [decide_eq_false hs]
   walk_at "w"
   exact iR (m:=0) F ha hW hR hl hw (fun k cs e=>q1 0 k cs (by rw [e]; rfl)) (fun e=>q2 (by rw [e]; rfl))
theorem lO {p W:Addr} {h w g:Int} {ws:List (List Nat)} {lv:V} (F:FlOk h w g) (ha:IsFl H p h w g) (hW:H W=some (.lst ((ws.map tx).map V.str))) (L:LnOk ws)
  (q1:∀ (n m:Nat) k cs,accR (h*w) g ws=some (n,m,k,cs)→QR c H Q p ws k cs n m) (q2:accR (h*w) g ws=none→RE K H E):
  fJ K c a E { nx:=fun _ H'=>Q .non H',rt:=Q } [some (.ref p),some lv,some (.ref W),none,none,none,none] H:=by
 obtain ⟨nm,rest,rfl⟩:∃ nm rest,ws=nm::rest:=by
  cases ws with
  | nil=>exact absurd rfl L.ne
  | cons x r=>exact ⟨x,r,rfl⟩
 have e0:atI (((nm::rest).map tx).map V.str) 0=some (V.str (tx nm)):=aG (j:=0) rfl
 have hw:∀ w∈rest,WdOk w:=fun z hz=>L.wd z (List.mem_cons_of_mem _ hz)
 have hl:rest.length≤100:=by have:=L.len; simp at this; omega
 unfold fJ
 walk_at "w"
 refine ixL hW e0 ?_
 walk_at "w"
 refine mE hW fun R hR=>?_
 have s1:Same H (upd H R (.lst ((((nm::rest).map tx).map V.str).drop 1))):=(Same.refl H).laid hR
 have e1:(upd H R (.lst ((((nm::rest).map tx).map V.str).drop 1))) R=some (.lst ((rest.map tx).map V.str)):=af
 generalize upd H R (.lst ((((nm::rest).map tx).map V.str).drop 1))=H1 at*
 walk_at "w"
 rw [aO]
 walk_at "w"
 have eA:accR (h*w) g (nm::rest)=qT (h*w) g nm rest:=rfl
 rw [eA] at q1 q2
 unfold qT at q1 q2
 by_cases hs:tx nm∈cg
 · rw [if_pos hs] at q1 q2
   rw [decide_eq_true hs]
   walk_at "w"
   refine ⟨R,rest,0,99,rfl,e1,hw,fun x r n er en hi H2 s2=>?_,fun hb=>(q2 ?_).same s1⟩
   · subst er
     dsimp only at q1 q2
     rw [en] at q1 q2
     rw [if_pos hi] at q1 q2
     walk_at "w"
     refine mE (s2 _ _ e1) fun R2 hR2=>?_
     have s3:Same H2 (upd H2 R2 (.lst ((((x::r).map tx).map V.str).drop 1))):=(Same.refl H2).laid hR2
     have e2:(upd H2 R2 (.lst ((((x::r).map tx).map V.str).drop 1))) R2=some (.lst ((r.map tx).map V.str)):=af
     generalize upd H2 R2 (.lst ((((x::r).map tx).map V.str).drop 1))=H3 at*
     have s13:=(s1.trans s2).trans s3
     exact iS F (s13 _ _ ha) (s13 _ _ hW) e2 (by simp at hl; omega) (fun z hz=>hw z (List.mem_cons_of_mem _ hz)) (fun m k cs e=>(q1 n m k cs (by rw [e]; rfl)).same s13) (fun e=>(q2 (by rw [e]; rfl)).same s13)
   · cases rest with
     | nil=>rfl
     | cons x r=>
      dsimp only
      cases e:numW x with
      | none=>rfl
      | some m=>rw [if_neg]; rw [hb x r m rfl e]; exact Bool.false_ne_true
 · rw [if_neg hs] at q1 q2
   rw [decide_eq_false hs]
   walk_at "w"
   exact iS (n:=0) F (s1 _ _ ha) (s1 _ _ hW) e1 hl hw (fun m k cs e=>(q1 0 m k cs (by rw [e]; rfl)).same s1) (fun e=>(q2 (by rw [e]; rfl)).same s1)
include RF RR RP
theorem oF (h:ci K c vs H Q E):fD K c a E { nx:=fun _ H'=>Q .non H',rt:=Q } (start ["floor","line","words","name","rest","amount","mark"] vs) H:=by
 obtain ⟨p,v,h,w,g,rfl,ha,F,h⟩:=h
 show fD K c a E _ [some (.ref p),some v,none,none,none,none,none] H
 unfold fD
 rw [aM,aO]
 walk_at "w"
 rcases h with ⟨ws,rfl,L,q1,q2⟩ | ⟨hN,q2⟩
 · have hsp:Txt.split (tx (catL 32 ws)) (tx [32])=ws.map tx:=qE L.ne L.fr
   have hl:=L.len
   have hl2:=kd ws fun z hz=>(L.wd z hz).len
   walk_at "w"
   refine ⟨fA,?_⟩
   rw [i6,hsp]
   refine ⟨by rw [ay]; decide,by rw [ay]; exact Nat.le_of_lt (Nat.lt_of_le_of_lt hl2 (Nat.lt_of_le_of_lt (Nat.mul_le_mul_left 101 hl) (by decide))),by rw [List.length_map]; exact aq (by omega),fun W hW=>?_⟩
   have s1:Same H (upd H W (.lst ((ws.map tx).map V.str))):=(Same.refl H).laid hW
   exact lO F (s1 _ _ ha) af L (fun n m k cs e=>QR.same (q1 n m k cs e) s1) fun e=>(q2 e).same s1
 · refine wN hN ?_
   walk_at "w"
   rw [aP]
   walk_at "w"
   exact ⟨aq (by show (1:Nat)≤1000; decide),q2 _ RR.g _ (Same.refl H)⟩
end
theorem jr {n:Nat} (h:n < 100):numW (numC n)=some n:=by
 have t:((List.range 100).all fun (n:Nat)=>decide (numW (numC n)=some n))=true:=by decide+kernel
 exact of_decide_eq_true (List.all_eq_true.mp t n (List.mem_range.mpr h))
theorem mF {n:Nat} (h:n < 100):WdOk (numC n):=⟨Nat.le_trans dh (by decide),lD h,fun m e=>by rw [jr h] at e; cases e; exact .inl ⟨h,rfl⟩⟩
theorem uR {n:Nat} (h:n < 100):celW (numC n)=n:=by unfold celW; rw [jr h]; rfl
theorem vR (k:RK):numW (nmC k)=none:=by cases k <;> decide
theorem vS (k:RK):WdOk (nmC k):=⟨by cases k <;> decide,vc k,fun m e=>by rw [vR] at e; cases e⟩
theorem wO {k:RK} (h:k≠.Rule):kOf (nmC k)=some k:=by
 cases k with
 | Rule=>exact absurd rfl h
 | _=>decide
theorem rX {ns:List Nat} (h:∀ n∈ns,n < 100):(ns.map numC).map celW=ns.map fun (n:Nat)=>(n:Int):=by
 rw [List.map_map]
 exact List.map_congr_left fun n hn=>uR (h n hn)
theorem vT {k:RK} {h w g:Int} {n m:Nat} {ns:List Nat} {cs:List Int} (F:FlOk h w g) (O:tY k h w g n m ns cs):accR (h*w) g (rowW k n m ns)=some (n,m,k,cs):=by
 obtain ⟨k0,n0,nz,m0,mz,cl,ns0,len⟩:=O
 have hm:m < 100:=by
  by_cases hs:sgnK k=true
  · have:=(m0 hs).2
    have:=F.g1
    omega
  · have:=mz (by simpa using hs)
    omega
 have e8:jq (h*w) (nmC k) (ns.map numC)=some (k,cs):=by
  unfold jq j3
  rw [wO k0]
  have ia:=wK k
  cases ha:allK k with
  | true=>
   rw [ha] at ia
   obtain ⟨rfl,rfl⟩:=cl.all ha
   rw [if_pos (of_decide_eq_true ia)]
   rfl
  | false=>
   rw [ha] at ia
   obtain ⟨c1,c2,c3,c4,rfl⟩:=cl.told ha
   rw [if_neg (of_decide_eq_false ia),if_pos,rX ns0]
   unfold accT
   rw [rX ns0,decide_eq_true (sF c4),decide_eq_false (by simpa using c1)]
   have:(ns.map numC).all (okC (h*w))=true:=by
    rw [List.all_eq_true]
    intro x hx
    obtain ⟨y,hy,rfl⟩:=List.mem_map.mp hx
    unfold okC
    rw [jr (ns0 y hy)]
    have:=c3 y hy
    unfold inW
    simp
    omega
   rw [this]
   rfl
 have e7:kh (h*w) g (nmC k) ((if sgnK k then [numC m] else [])++ns.map numC)=some (m,k,cs):=by
  unfold kh
  have ia:=wM k
  cases ha:sgnK k with
  | true=>
   rw [ha] at ia
   rw [if_pos (of_decide_eq_true ia)]
   have:=m0 ha
   show (if inW (numW (numC m)) 1 g=true then (jq (h*w) (nmC k) (ns.map numC)).map fun y=>((numW (numC m)).getD 0,y) else none)=_
   rw [jr hm,if_pos (by unfold inW; simp; omega),e8]
   rfl
  | false=>
   rw [ha] at ia
   rw [if_neg (of_decide_eq_false ia)]
   have:=mz ha
   subst this
   show (jq (h*w) (nmC k) (ns.map numC)).map _=_
   rw [e8]
   rfl
 show qT (h*w) g (nmC k) ((if numK k then [numC n] else [])++(if sgnK k then [numC m] else [])++ns.map numC)=_
 unfold qT
 have ia:=wL k
 cases ha:numK k with
 | true=>
  rw [ha] at ia
  rw [if_pos (of_decide_eq_true ia)]
  show (if inW (numW (numC n)) 0 99=true then (kh (h*w) g (nmC k) ((if sgnK k then [numC m] else [])++ns.map numC)).map fun y=>((numW (numC n)).getD 0,y) else none)=_
  rw [jr (by omega),if_pos (by unfold inW; simp; omega),e7]
  rfl
 | false=>
  rw [ha] at ia
  rw [if_neg (of_decide_eq_false ia)]
  have:=nz ha
  subst this
  show (kh (h*w) g (nmC k) ((if sgnK k then [numC m] else [])++ns.map numC)).map _=_
  rw [e7]
  rfl
theorem RR.ln {r:RR} {h w g:Int} (F:FlOk h w g) (O:r.Ok h w g):LnOk r.ws:=by
 have hm:r.m < 100:=by
  by_cases hs:sgnK r.k=true
  · have:=(O.m0 hs).2
    have:=F.g1
    omega
  · have:=O.mz (by simpa using hs)
    omega
 have hl:=mi (k:=r.k) (n:=r.n) (m:=r.m) O.len
 refine ⟨by unfold RR.ws rowW; simp,hl.1,tZ (by have:=O.n0; omega) hm O.ns0,fun z hz=>?_⟩
 unfold RR.ws rowW at hz
 rcases List.mem_cons.mp hz with rfl | hz
 · exact vS _
 rcases List.mem_append.mp hz with hz | hz
 · rcases List.mem_append.mp hz with hz | hz
   · split at hz
     · rw [List.mem_singleton.mp hz]; exact mF (by have:=O.n0; omega)
     · cases hz
   · split at hz
     · rw [List.mem_singleton.mp hz]; exact mF hm
     · cases hz
 · obtain ⟨y,hy,rfl⟩:=List.mem_map.mp hz
   exact mF (O.ns0 y hy)
def BadLn (H:Hp) (h w g:Int) (v:V):Prop:=NoStr H v∨∃ ws,v=.str (tx (catL 32 ws))∧LnOk ws∧accR (h*w) g ws=none
theorem BadLn.same {H H':Hp} {h w g:Int} {v:V} (x:BadLn H h w g v) (s:Same H H'):BadLn H' h w g v:=x.imp (fun z=>z.same s) id
def LnO (H:Hp) (h w g:Int) (v:V):Option RR→Prop
 | some r=>v=.str r.txt∧r.Ok h w g
 | none=>BadLn H h w g v
theorem LnO.same {H H':Hp} {h w g:Int} {v:V} {o:Option RR} (x:LnO H h w g v o) (s:Same H H'):LnO H' h w g v o:=by
 cases o with
 | some r=>exact x
 | none=>exact BadLn.same x s
structure Lns (H:Hp) (h w g:Int) (xs:List V) (os:List (Option RR)):Prop where
 len:xs.length=os.length
 at_:∀ (i:Nat) (v:V) (o:Option RR),xs[i]? =some v→os[i]? =some o→LnO H h w g v o
theorem Lns.same {H H':Hp} {h w g:Int} {xs:List V} {os:List (Option RR)} (x:Lns H h w g xs os) (s:Same H H'):Lns H' h w g xs os:=⟨x.len,fun i v o h1 h2=>(x.at_ i v o h1 h2).same s⟩
abbrev bO (K:PySem.W.Frag) (x:Str) (H:Hp) (E:XK):Prop:=∀ C,Glb K x C→∀ H',Same H H'→E (.ref C) none H'
def bT (K:PySem.W.Frag) (c:RCl RK):Sp:=fun vs H Q E=>∃ (p a:Addr) (h w g:Int) (xs:List V) (os:List (Option RR)),vs=[.ref p,.ref a]∧IsFl H p h w g∧FlOk h w g∧H a=some (.lst xs)∧xs.length≤100∧(∀ k,k≠.Rule→c.ok k=true)∧Lns H h w g xs os∧
 (xs.length≤12→∀ rows,os=rows.map some→∀ l rs H',Same H H'→H l=none→IsRules H' c p l rs rows→Q (.ref l) H')∧(12 < xs.length→bO K "NoPuzzle" H E)∧(xs.length≤12→none∈os→bO K "NoRule" H E)
theorem nB {K:PySem.W.Frag} {c:RCl RK} {vs:List V} {H:Hp} {Q:VK} {E:XK} (h:bT K c vs H Q E):vs.length=2:=by
 obtain ⟨_,_,_,_,_,_,_,rfl,_⟩:=h; rfl
def ft (K:PySem.W.Frag) (c:RCl RK) (a:EA) (E:XK):TS:=
 (tRet (tComp [none,none,some 0] (iList K (tVar 1)) (gName 1) tTrue (tCall (ci K c) [] E (tCons (tVar 2) (tCons (tVar 1) tNil)))))
def dP (K:PySem.W.Frag) (c:RCl RK) (a:EA) (E:XK):TS:=
 (tSeq (tIfS (tTest (tOp (cCmp fun i j=>decide (j < i)) (tCB kLen (tCons (tVar 1) tNil)) (tC (.int 12)))) (bc E a.NoPuzzle (tCons (tC (.str (tx [97,32,112,117,122,122,108,101,32,104,97,115,32,97,116,32,109,111,115,116,32,49,50,32,114,117,108,101,115]))) tNil)) tNext)
  (ft K c a E))
def bJ (K:PySem.W.Frag):Sp:=fun vs H Q E=>∃ h w g:Int,vs=[.int h,.int w,.int g]∧((FlOk h w g∧∀ p,H p=none→Q (.ref p) (upd H p (.tup [.int h,.int w,.int g])))∨(¬ FlOk h w g∧bO K "NoFloor" H E))
theorem pL {K:PySem.W.Frag} {vs:List V} {H:Hp} {Q:VK} {E:XK} (h:bJ K vs H Q E):vs.length=3:=by
 obtain ⟨_,_,_,rfl,_⟩:=h; rfl
def gb (K:PySem.W.Frag) (a:EA) (E:XK):TS:=
 (tSeq (tIfS (tNot (tB (tCall (aY K) [] E0 (tCons (tVar 0) (tCons (tC (.int 6)) tNil))))) (bc E a.NoFloor (tCons (tC (.str (tx [97,32,102,108,111,111,114,32,105,115,32,49,32,116,111,32,54,32,99,101,108,108,115,32,104,105,103,104]))) tNil)) tNext)
  (tSeq (tIfS (tNot (tB (tCall (aY K) [] E0 (tCons (tVar 1) (tCons (tC (.int 6)) tNil))))) (bc E a.NoFloor (tCons (tC (.str (tx [97,32,102,108,111,111,114,32,105,115,32,49,32,116,111,32,54,32,99,101,108,108,115,32,119,105,100,101]))) tNil)) tNext)
  (tSeq (tIfS (tTest (tOp (cCmp fun i j=>decide (j < i)) (tOp cMul (tVar 0) (tVar 1)) (tC (.int 16)))) (bc E a.NoFloor (tCons (tC (.str (tx [97,32,102,108,111,111,114,32,104,97,115,32,97,116,32,109,111,115,116,32,49,54,32,99,101,108,108,115]))) tNil)) tNext)
  (tSeq (tIfS (tNot (tB (tCall (aY K) [] E0 (tCons (tVar 2) (tCons (tC (.int 6)) tNil))))) (bc E a.NoFloor (tCons (tC (.str (tx [97,32,102,108,111,111,114,32,104,97,115,32,49,32,116,111,32,54,32,115,105,103,110,115]))) tNil)) tNext)
  (tRet (tTup (tCons (tVar 0) (tCons (tVar 1) (tCons (tVar 2) tNil)))))))))
def bD (K:PySem.W.Frag):Sp:=fun vs H Q E=>∃ (p:Addr) (h w g:Int),vs=[.ref p]∧IsFl H p h w g∧((FlOk h w g∧∀ p,H p=none→Q (.ref p) (upd H p (.tup [.int h,.int w,.int g])))∨(¬ FlOk h w g∧bO K "NoFloor" H E))
theorem kN {K:PySem.W.Frag} {vs:List V} {H:Hp} {Q:VK} {E:XK} (h:bD K vs H Q E):vs.length=1:=by
 obtain ⟨_,_,_,_,rfl,_⟩:=h; rfl
def cH (K:PySem.W.Frag) (a:EA) (E:XK):TS:=
 (tSeq (tIfS (tOr (tNot (tB (tCB kIsi (tCons (tVar 0) (tCons (tC (.ty "tuple")) tNil))))) (tTest (tOp (cNe K) (tCB kLen (tCons (tVar 0) tNil)) (tC (.int 3))))) (bc E a.NoFloor (tCons (tC (.str (tx [97,32,102,108,111,111,114,32,105,115,32,97,32,116,117,112,108,101,32,111,102,32,116,104,114,101,101,32,110,117,109,98,101,114,115]))) tNil)) tNext)
  (tRet (tCall (bJ K) [] E (tCons (tOp cIx (tVar 0) (tC (.int 0))) (tCons (tOp cIx (tVar 0) (tC (.int 1))) (tCons (tOp cIx (tVar 0) (tC (.int 2))) tNil))))))
def bE (K:PySem.W.Frag):Sp:=fun vs H Q E=>∃ (p a:Addr) (h w g:Int) (xs:List Int),vs=[.ref p,.ref a]∧IsFl H p h w g∧FlOk h w g∧H a=some (.lst (xs.map V.int))∧xs.length≤100∧((CluesOk h w g xs∧∀ l H',Same H H'→H l=none→H' l=some (.lst (xs.map V.int))→Q (.ref l) H')∨(¬ CluesOk h w g xs∧bO K "NoPuzzle" H E))
theorem kO {K:PySem.W.Frag} {vs:List V} {H:Hp} {Q:VK} {E:XK} (h:bE K vs H Q E):vs.length=2:=by
 obtain ⟨_,_,_,_,_,_,rfl,_⟩:=h; rfl
def cI (K:PySem.W.Frag) (a:EA) (E:XK):TS:=
 (tSeq (tIfS (tNot (tB (tCall (cB K) [] E0 (tCons (tVar 0) (tCons (tVar 1) (tCons (tC (.int 0)) tNil)))))) (bc E a.NoPuzzle (tCons (tC (.str (tx [116,104,101,32,99,108,117,101,115,32,97,114,101,32,110,111,32,102,105,108,108,105,110,103,32,111,102,32,116,104,101,32,102,108,111,111,114]))) tNil)) tNext)
  (tRet (tCB kList (tCons (tVar 1) tNil))))
theorem CluesOk.nfil {h w g:Int} {xs:List Int} (C:¬ CluesOk h w g xs):filB 0 g (h*w).toNat xs=false:=by
 rw [Bool.eq_false_iff]
 intro z
 unfold filB at z
 rw [Bool.and_eq_true,decide_eq_true_eq,List.all_eq_true] at z
 exact C ⟨z.1,fun x hx=>by have:=z.2 x hx; simpa using this⟩
section
variable {o1 o2 o3:List Addr} {K:PySem.W.Frag} {c:RCl RK} {a:EA} {vs:List V} {H:Hp} {Q:VK} {E:XK} (RF:ak K a "NoFloor" a.NoFloor o1) (RL:ak K a "NoRule" a.NoRule o2) (RP:ak K a "NoPuzzle" a.NoPuzzle o3)
theorem kP {p A:Addr} {h w g:Int} {xs:List V} {os:List (Option L2.RR)} (hp:IsFl H p h w g) (F:FlOk h w g) (ha:H A=some (.lst xs)) (hl:xs.length≤12) (hc:∀ k,k≠.Rule→c.ok k=true) (hx:Lns H h w g xs os)
  (q1:∀ rows:List L2.RR,os=rows.map some→∀ l rs H',Same H H'→H l=none→IsRules H' c p l rs rows→Q (.ref l) H') (q2:none∈os→bO K "NoRule" H E):
  ft K c a E { nx:=fun _ H'=>Q .non H',rt:=Q } [some (.ref p),some (.ref A)] H:=by
 unfold ft
 walk_at "w"
 refine ⟨⟨_,SqL.of ha⟩,?_⟩
 refine kD (xs:=xs) (fun l i σ H'=>(∃ cv,σ=[none,cv,some (.ref p)])∧Same H H'∧∃ (rs:List Addr) (rows:List L2.RR),H' l=some (.lst (rs.map V.ref))∧rs.length=i∧rows.length=i∧os.take i=rows.map some∧∀ (j:Nat) (r:Addr) (x:L2.RR),rs[j]? =some r→rows[j]? =some x→IsRule H' c x.k r p x.ws x.cs x.n x.m)
  (fun l hl=>⟨⟨none,rfl⟩,(Same.refl H).laid hl,[],[],by rw [af]; rfl,rfl,rfl,rfl,fun j r x e=>by simp at e⟩) (fun l i σ H' _ _ x=>x.2.1.seq (SqL.of ha)) ?_ ?_
 · rintro l i v σ H1 hl1 ev ⟨⟨cv,rfl⟩,s1,rs,rows,el,hlen,hrl,htk,hat⟩
   have hi:=(List.getElem?_eq_some_iff.mp ev).1
   have ho:i < os.length:=by rw [← hx.len]; exact hi
   have eo:=List.getElem?_eq_getElem ho
   have L:=hx.at_ i v _ ev eo
   rw [bi]
   show tTrue [none,some v,some (.ref p)] H1 _
   walk_at "w"
   cases e0:os[i] with
   | some y=>
    rw [e0] at L eo
    obtain ⟨ey,oy⟩:v=.str y.txt∧y.Ok h w g:=L
    subst ey
    have ea:accR (h*w) g y.ws=some (y.n,y.m,y.k,y.cs):=vT F oy
    refine ⟨p,_,h,w,g,rfl,s1 _ _ hp,F,.inl ⟨y.ws,rfl,y.ln F oy,fun n m k cs e=>?_,fun e=>(by rw [ea] at e; cases e)⟩⟩
    rw [ea] at e
    cases e
    refine ⟨hc _ oy.k0,fun r H2 s2 hr xr=>?_⟩
    have nrl:r≠l:=fun z=>by rw [z,el] at hr; cases hr
    refine ⟨_,s2 _ _ el,by rw [List.length_map]; exact aS (by omega),⟨_,rfl⟩,(s1.trans s2).own hl1,rs++[r],rows++[y],by rw [af]; simp,by simp [hlen],by simp [hrl],by rw [List.take_succ,htk,eo]; simp,fun j r' x' h1 h2=>?_⟩
    by_cases hj:j < rs.length
    · rw [List.getElem?_append_left hj] at h1
      rw [List.getElem?_append_left (by omega)] at h2
      exact ((hat j r' x' h1 h2).same s2).lst (s2 _ _ el)
    · rw [List.getElem?_append_right (by omega)] at h1
      have hj0:j - rs.length=0:=by
       have:=(List.getElem?_eq_some_iff.mp h1).1
       simp at this
       omega
      rw [hj0] at h1
      rw [List.getElem?_append_right (by omega),show j - rows.length=0 by omega] at h2
      simp at h1 h2
      subst h1 h2
      exact xr.lst (s2 _ _ el)
   | none=>
    rw [e0] at L eo
    have qq:=q2 (List.mem_of_getElem? eo)
    rcases (show BadLn H h w g v from L) with hb | ⟨ws,e1,e2,e3⟩
    · exact ⟨p,v,h,w,g,rfl,s1 _ _ hp,F,.inr ⟨hb.same s1,fun C hC H' s'=>qq C hC H' (s1.trans s')⟩⟩
    · exact ⟨p,v,h,w,g,rfl,s1 _ _ hp,F,.inl ⟨ws,e1,e2,fun n m k cs e=>(by rw [e3] at e; cases e),fun _ C hC H' s'=>qq C hC H' (s1.trans s')⟩⟩
 · rintro l σ H1 hl1 ⟨_,s1,rs,rows,el,hlen,hrl,htk,hat⟩
   rw [hx.len,List.take_length] at htk
   exact q1 rows htk l rs H1 s1 hl1 ⟨el,by rw [hlen,hrl],hat⟩
include RF RL RP
theorem nD (h:bT K c vs H Q E):dP K c a E { nx:=fun _ H'=>Q .non H',rt:=Q } (start ["floor","lines"] vs) H:=by
 obtain ⟨p,A,h,w,g,xs,os,rfl,hp,F,ha,hl,hc,hx,q1,q2,q3⟩:=h
 show dP K c a E _ [some (.ref p),some (.ref A)] H
 unfold dP
 rw [aM,aO]
 walk_at "w"
 rw [ip ha]
 walk_at "w"
 by_cases h12:12 < xs.length
 · rw [decide_eq_true (show (12:Int) < ((xs.length:Nat):Int) by omega)]
   refine iteT ?_
   rw [aP]
   walk_at "w"
   exact ⟨aq (by show (1:Nat)≤1000; decide),q2 h12 _ RP.g _ (Same.refl H)⟩
 · rw [decide_eq_false (show ¬ (12:Int) < ((xs.length:Nat):Int) by omega)]
   refine iteF ?_
   exact kP hp F ha (by omega) hc hx (q1 (by omega)) (q3 (by omega))
theorem pM (h:bJ K vs H Q E):gb K a E { nx:=fun _ H'=>Q .non H',rt:=Q } (start ["high","wide","signs"] vs) H:=by
 obtain ⟨h,w,g,rfl,q⟩:=h
 have bad:¬ FlOk h w g→bO K "NoFloor" H E:=fun hb=>q.elim (fun z=>absurd z.1 hb) fun z=>z.2
 have good:FlOk h w g→∀ p,H p=none→Q (.ref p) (upd H p (.tup [.int h,.int w,.int g])):=fun hb=>q.elim (fun z=>z.2) fun z=>absurd hb z.1
 have fail:¬ FlOk h w g→∀ (ws:List V),ws.length=1→ws.length≤sizeLine∧E (.ref a.NoFloor) none H:=fun hb ws hv=>⟨aq (by omega),bad hb _ RF.g _ (Same.refl H)⟩
 show gb K a E _ [some (.int h),some (.int w),some (.int g)] H
 unfold gb
 rw [aM,aO]
 walk_at "w"
 refine ⟨h,6,rfl,⟨_,rfl,?_⟩⟩
 by_cases hh:(decide (1≤h)&&decide (h≤6))=true
 · rw [hh]
   refine iteF ?_
   rw [Bool.and_eq_true,decide_eq_true_eq,decide_eq_true_eq] at hh
   rw [aO]
   walk_at "w"
   refine ⟨w,6,rfl,⟨_,rfl,?_⟩⟩
   by_cases hw:(decide (1≤w)&&decide (w≤6))=true
   · rw [hw]
     refine iteF ?_
     rw [Bool.and_eq_true,decide_eq_true_eq,decide_eq_true_eq] at hw
     rw [aO]
     walk_at "w"
     refine ⟨jE hh.1 hh.2,?_⟩
     by_cases hm:16 < h*w
     · rw [decide_eq_true hm]
       refine iteT ?_
       rw [aP]
       walk_at "w"
       exact fail (fun z=>by have:=z.m; omega) _ rfl
     rw [decide_eq_false hm]
     refine iteF ?_
     rw [aO]
     walk_at "w"
     refine ⟨g,6,rfl,⟨_,rfl,?_⟩⟩
     by_cases hg:(decide (1≤g)&&decide (g≤6))=true
     · rw [hg]
       refine iteF ?_
       rw [Bool.and_eq_true,decide_eq_true_eq,decide_eq_true_eq] at hg
       walk_at "w"
       exact ⟨aq (by show (3:Nat)≤1000; decide),good ⟨hh.1,hh.2,hw.1,hw.2,by omega,hg.1,hg.2⟩⟩
     · rw [Bool.eq_false_iff.mpr hg]
       refine iteT ?_
       rw [aP]
       walk_at "w"
       exact fail (fun z=>hg (by simp [z.g0,z.g1])) _ rfl
   · rw [Bool.eq_false_iff.mpr hw]
     refine iteT ?_
     rw [aP]
     walk_at "w"
     exact fail (fun z=>hw (by simp [z.w0,z.w1])) _ rfl
 · rw [Bool.eq_false_iff.mpr hh]
   refine iteT ?_
   rw [aP]
   walk_at "w"
   exact fail (fun z=>hh (by simp [z.h0,z.h1])) _ rfl
theorem kQ (h:bD K vs H Q E):cH K a E { nx:=fun _ H'=>Q .non H',rt:=Q } (start ["floor"] vs) H:=by
 obtain ⟨p,h,w,g,rfl,hp,q⟩:=h
 show cH K a E _ [some (.ref p)] H
 unfold cH
 rw [aM,aO]
 walk_at "w"
 refine wD hp ?_
 walk_at "w"
 rw [wA hp,show (([V.int h,V.int w,V.int g]:List V).length:Int)=3 from rfl]
 walk_at "w"
 refine ixT hp (v:=V.int h) rfl ?_
 walk_at "w"
 refine ixT hp (v:=V.int w) rfl ?_
 walk_at "w"
 refine ixT hp (v:=V.int g) rfl ?_
 walk_at "w"
 exact ⟨h,w,g,rfl,q⟩
theorem kR (h:bE K vs H Q E):cI K a E { nx:=fun _ H'=>Q .non H',rt:=Q } (start ["floor","clues"] vs) H:=by
 obtain ⟨p,A,h,w,g,xs,rfl,hp,F,ha,hn,q⟩:=h
 show cI K a E _ [some (.ref p),some (.ref A)] H
 unfold cI
 rw [aM,aO]
 walk_at "w"
 refine ⟨p,A,h,w,g,0,xs,rfl,hp,F,ha,hn,fun H1 s1=>?_⟩
 rcases q with ⟨C,q⟩ | ⟨C,q⟩
 · rw [C.fil]
   refine ⟨true,rfl,iteF ?_⟩
   walk_at "w"
   refine qw (s1 _ _ ha) fun l hl=>?_
   exact q l _ (s1.laid hl) (s1.free hl) af
 · rw [CluesOk.nfil C]
   refine ⟨false,rfl,iteT ?_⟩
   rw [aP]
   walk_at "w"
   exact ⟨aq (by show (1:Nat)≤1000; decide),q _ RP.g _ s1⟩
end
abbrev Pres (x:Addr) (H H':Hp):Prop:=∀ y o,y≠x→H y=some o→H' y=some o
theorem Lns.pres {H H':Hp} {x C dx:Addr} {fs:List (Str × V)} {h w g:Int} {xs:List V} {os:List (Option RR)} (L:Lns H h w g xs os) (hx:H x=some (.ins C dx fs)) (s:Pres x H H'):Lns H' h w g xs os:=by
 refine ⟨L.len,fun i v o h1 h2=>?_⟩
 have z:=L.at_ i v o h1 h2
 cases o with
 | some r=>exact z
 | none=>
  rcases (show BadLn H h w g v from z) with hb | hb
  · refine Or.inl ?_
    rcases hb with hb | hb | hb | ⟨q,ys,e,hb⟩
    · exact .inl hb
    · exact .inr (.inl hb)
    · exact .inr (.inr (.inl hb))
    · have nq:q≠x:=fun z=>by rw [z,hx] at hb; rcases hb with hb | hb <;> cases hb
      exact .inr (.inr (.inr ⟨q,ys,e,hb.imp (fun z=>s _ _ nq z) fun z=>s _ _ nq z⟩))
  · exact Or.inr hb
abbrev sL (K:PySem.W.Frag) (x:Addr) (nm:Str) (H:Hp) (E:XK):Prop:=∀ C,Glb K nm C→∀ H',Pres x H H'→E (.ref C) none H'
def aF (K:PySem.W.Frag) (c:RCl RK) (d:RCl PzK):Sp:=fun vs H Q E=>∃ (x dx p a b:Addr) (h w g:Int) (xs:List V) (os:List (Option RR)) (cl:List Int),vs=[.ref x,.ref p,.ref a,.ref b]∧d.ok .Puzzle=true∧H x=some (.ins (d.A .Puzzle) dx [])∧IsFl H p h w g∧H a=some (.lst xs)∧H b=some (.lst (cl.map V.int))∧xs.length≤100∧cl.length≤100∧
 (∀ k,k≠.Rule→c.ok k=true)∧(FlOk h w g→Lns H h w g xs os)∧(¬ FlOk h w g→sL K x "NoFloor" H E)∧(FlOk h w g→12 < xs.length→sL K x "NoPuzzle" H E)∧(FlOk h w g→xs.length≤12→none∈os→sL K x "NoRule" H E)∧(FlOk h w g→¬ CluesOk h w g cl→xs.length≤12→(∃ rows:List RR,os=rows.map some)→sL K x "NoPuzzle" H E)∧
 (∀ rows:List RR,FlOk h w g→CluesOk h w g cl→xs.length≤12→os=rows.map some→∀ L G H',Pres x H H'→H L=none→H G=none→IsPz H' c d x L G h w g rows cl→Q .non H')
theorem ki {K:PySem.W.Frag} {c:RCl RK} {d:RCl PzK} {vs:List V} {H:Hp} {Q:VK} {E:XK} (h:aF K c d vs H Q E):vs.length=4:=by
 obtain ⟨_,_,_,_,_,_,_,_,_,_,_,rfl,_⟩:=h; rfl
def bZ (K:PySem.W.Frag) (c:RCl RK) (d:RCl PzK) (E:XK):TS:=
 (tSeq (sFldK d (tVar 0) (tCall (bD K) [] E (tCons (tVar 1) tNil)) "floor")
  (tSeq (sFldK d (tVar 0) (tCall (bT K c) [] E (tCons (tFldK d (tVar 0) "floor") (tCons (tVar 2) tNil))) "laws")
  (sFldK d (tVar 0) (tCall (bE K) [] E (tCons (tFldK d (tVar 0) "floor") (tCons (tVar 3) tNil))) "given")))
theorem kj {K:PySem.W.Frag} {c:RCl RK} {d:RCl PzK} {vs:List V} {H:Hp} {Q:VK} {E:XK} (h:aF K c d vs H Q E):bZ K c d E { nx:=fun _ H'=>Q .non H',rt:=Q } (start ["self","floor","lines","clues"] vs) H:=by
 obtain ⟨x,dx,p,a,b,h,w,g,xs,os,cl,rfl,ok,hx,hp,ha,hb,hxs,hcl,hc,hL,qF,qN,qR,qC,q⟩:=h
 show bZ K c d E _ [some (.ref x),some (.ref p),some (.ref a),some (.ref b)] H
 unfold bZ sFldK
 walk_at "w"
 by_cases F:¬ FlOk h w g
 · exact ⟨p,h,w,g,rfl,hp,.inr ⟨F,fun C hC H' s'=>qF F C hC H' fun y o _ e=>s' _ _ e⟩⟩
 have F:=Classical.not_not.mp F
 refine ⟨p,h,w,g,rfl,hp,.inl ⟨F,fun p1 hp1=>?_⟩⟩
 have nxp:x≠p1:=aB hx hp1
 refine ⟨x,.Puzzle,dx,[],rfl,ok,by rw [am nxp]; exact hx,by show (0:Nat) < 1000; decide,?_⟩
 have f1:∀ y o,y≠x→H y=some o→(upd (upd H p1 (.tup [.int h,.int w,.int g])) x (.ins (d.A .Puzzle) dx (putF "floor" (.ref p1) []))) y=some o:=fun y o ny e=>by
  rw [am ny,am (aB e hp1)]; exact e
 have hx1:(upd (upd H p1 (.tup [.int h,.int w,.int g])) x (.ins (d.A .Puzzle) dx (putF "floor" (.ref p1) []))) x=some (.ins (d.A .Puzzle) dx [("floor",.ref p1)]):=af
 have hp1':IsFl (upd (upd H p1 (.tup [.int h,.int w,.int g])) x (.ins (d.A .Puzzle) dx (putF "floor" (.ref p1) []))) p1 h w g:=by
  show (upd (upd H p1 (.tup [.int h,.int w,.int g])) x _) p1=_
  rw [am nxp.symm,af]
 have fr1:∀ l,(upd (upd H p1 (.tup [.int h,.int w,.int g])) x (.ins (d.A .Puzzle) dx (putF "floor" (.ref p1) []))) l=none→H l=none:=fun l e=>by
  have n1:l≠x:=fun z=>by rw [z,af] at e; cases e
  rw [am n1] at e
  have n2:l≠p1:=fun z=>by rw [z,af] at e; cases e
  rw [am n2] at e
  exact e
 have nax:a≠x:=fun z=>by rw [z,hx] at ha; cases ha
 have nbx:b≠x:=fun z=>by rw [z,hx] at hb; cases hb
 have L1:=(hL F).pres hx f1
 generalize upd (upd H p1 (.tup [.int h,.int w,.int g])) x (.ins (d.A .Puzzle) dx (putF "floor" (.ref p1) []))=H1 at*
 refine fldE (c:=d) (k:=.Puzzle) rfl ok hx1 (v:=.ref p1) (by rfl) ?_
 walk_at "w"
 refine ⟨p1,a,h,w,g,xs,os,rfl,hp1',F,f1 a _ nax ha,hxs,hc,L1,fun h12 rows eo L rs H2 s2 hL X=>?_,fun h12 C hC H' s'=>qN F h12 C hC H' fun y o ny e=>s' _ _ (f1 y o ny e),fun h12 hb C hC H' s'=>qR F h12 hb C hC H' fun y o ny e=>s' _ _ (f1 y o ny e)⟩
 have nOk:rows.length≤12:=by have:=L1.len; rw [eo,List.length_map] at this; omega
 have rOk:∀ r∈rows,r.Ok h w g:=fun r hr=>by
  obtain ⟨j,hj,ej⟩:=List.getElem_of_mem hr
  have e2:os[j]? =some (some r):=by rw [eo,List.getElem?_map,List.getElem?_eq_getElem hj,ej]; rfl
  have hjx:j < xs.length:=by rw [L1.len,eo,List.length_map]; exact hj
  exact (L1.at_ j _ _ (List.getElem?_eq_getElem hjx) e2).2
 have R:m9 c h w g rows:=⟨F,nOk,rOk,fun r hr=>hc _ (rOk r hr).k0⟩
 refine ⟨x,.Puzzle,dx,_,rfl,ok,s2 _ _ hx1,by show (1:Nat) < 1000; decide,?_⟩
 have nxL:L≠x:=fun z=>by rw [z,hx1] at hL; cases hL
 have X3:=X.ins (o:=.ins (d.A .Puzzle) dx (putF "laws" (.ref L) [("floor",.ref p1)])) (s2 _ _ hx1) (by show (1:Nat)≠5; decide)
 have f2:∀ y o,y≠x→H y=some o→(upd H2 x (.ins (d.A .Puzzle) dx (putF "laws" (.ref L) [("floor",.ref p1)]))) y=some o:=fun y o ny e=>by
  rw [am ny]; exact s2 _ _ (f1 y o ny e)
 have hx3:(upd H2 x (.ins (d.A .Puzzle) dx (putF "laws" (.ref L) [("floor",.ref p1)]))) x=some (.ins (d.A .Puzzle) dx [("floor",.ref p1),("laws",.ref L)]):=af
 have hp3:IsFl (upd H2 x (.ins (d.A .Puzzle) dx (putF "laws" (.ref L) [("floor",.ref p1)]))) p1 h w g:=by
  show (upd H2 x _) p1=_
  rw [am nxp.symm]; exact s2 _ _ hp1'
 have fr3:∀ l,(upd H2 x (.ins (d.A .Puzzle) dx (putF "laws" (.ref L) [("floor",.ref p1)]))) l=none→H1 l=none:=fun l e=>by
  have n1:l≠x:=fun z=>by rw [z,af] at e; cases e
  rw [am n1] at e
  exact s2.free e
 generalize upd H2 x (.ins (d.A .Puzzle) dx (putF "laws" (.ref L) [("floor",.ref p1)]))=H3 at*
 refine fldE (c:=d) (k:=.Puzzle) rfl ok hx3 (v:=.ref p1) (by rfl) ?_
 walk_at "w"
 by_cases C:¬ CluesOk h w g cl
 · exact ⟨p1,b,h,w,g,cl,rfl,hp3,F,f2 b _ nbx hb,hcl,.inr ⟨C,fun D hD H' s'=>qC F C h12 ⟨rows,eo⟩ D hD H' fun y o ny e=>s' _ _ (f2 y o ny e)⟩⟩
 have C:=Classical.not_not.mp C
 refine ⟨p1,b,h,w,g,cl,rfl,hp3,F,f2 b _ nbx hb,hcl,.inl ⟨C,fun G H4 s4 hG eG=>?_⟩⟩
 refine ⟨x,.Puzzle,dx,_,rfl,ok,s4 _ _ hx3,by show (2:Nat) < 1000; decide,?_⟩
 have nxG:G≠x:=fun z=>by rw [z,hx3] at hG; cases hG
 refine q rows F C h12 eo L G _ (fun y o ny e=>?_) (fr1 L hL) (fr1 G (fr3 G hG)) ⟨ok,R,C,?_,dx,p1,rs,?_,?_,?_⟩
 · rw [am ny]; exact s4 _ _ (f2 y o ny e)
 · rw [am nxG]; exact eG
 · rw [af]; rfl
 · show (upd H4 x _) p1=_
   rw [am nxp.symm]; exact s4 _ _ hp3
 · exact (X3.same s4).ins (s4 _ _ hx3) (by show (2:Nat)≠5; decide)
structure Mk20 (K:PySem.W.Frag) (c:RCl RK) (d:RCl PzK) (H:Hp) (p a b:Addr) (h w g:Int) (xs:List V) (os:List (Option RR)) (cl:List Int) (Z:Addr→Hp→Prop) (E:XK):Prop where
 ok:d.ok .Puzzle=true
 hp:IsFl H p h w g
 ha:H a=some (.lst xs)
 hb:H b=some (.lst (cl.map V.int))
 hxs:xs.length≤100
 hcl:cl.length≤100
 hc:∀ k,k≠.Rule→c.ok k=true
 hL:FlOk h w g→Lns H h w g xs os
 qF:¬ FlOk h w g→bO K "NoFloor" H E
 qN:FlOk h w g→12 < xs.length→bO K "NoPuzzle" H E
 qR:FlOk h w g→xs.length≤12→none∈os→bO K "NoRule" H E
 qC:FlOk h w g→¬ CluesOk h w g cl→xs.length≤12→(∃ rows:List RR,os=rows.map some)→bO K "NoPuzzle" H E
 q:∀ rows:List RR,FlOk h w g→CluesOk h w g cl→xs.length≤12→os=rows.map some→∀ P L G H',Same H H'→H P=none→H L=none→H G=none→IsPz H' c d P L G h w g rows cl→Z P H'
theorem Mk20.mk' {K:PySem.W.Frag} {c:RCl RK} {d:RCl PzK} {H:Hp} {p a b:Addr} {h w g:Int} {xs:List V} {os:List (Option RR)} {cl:List Int} {Z:Addr→Hp→Prop} {E:XK} (M:Mk20 K c d H p a b h w g xs os cl Z E):
  ∀ x dx,H x=none→H dx=none→dx≠x→aF K c d (.ref x::([.ref p,.ref a,.ref b]++[])) (upd (upd H dx (.own x)) x (.ins (d.A .Puzzle) dx [])) (fun v H2=>v=.non∧Z x H2) E:=by
 intro x dx hx hd ne
 have k:Same H (upd (upd H dx (.own x)) x (.ins (d.A .Puzzle) dx [])):=fun y o e=>by rw [am (aB e hx),am (aB e hd)]; exact e
 have fr:∀ y,(upd (upd H dx (.own x)) x (.ins (d.A .Puzzle) dx [])) y=none→H y=none:=fun y e=>by
  have n1:y≠x:=fun z=>by rw [z,af] at e; cases e
  rw [am n1] at e
  have n2:y≠dx:=fun z=>by rw [z,af] at e; cases e
  rw [am n2] at e
  exact e
 have pr:∀ H',Pres x (upd (upd H dx (.own x)) x (.ins (d.A .Puzzle) dx [])) H'→Same H H':=fun H' s y o e=>s y o (aB e hx) (k _ _ e)
 exact ⟨x,dx,p,a,b,h,w,g,xs,os,cl,rfl,M.ok,af,k _ _ M.hp,k _ _ M.ha,k _ _ M.hb,M.hxs,M.hcl,M.hc,fun F=>(M.hL F).same k,fun z C hC H' s'=>M.qF z C hC H' (pr H' s'),fun F z C hC H' s'=>M.qN F z C hC H' (pr H' s'),fun F z1 z2 C hC H' s'=>M.qR F z1 z2 C hC H' (pr H' s'),fun F z1 z2 z3 C hC H' s'=>M.qC F z1 z2 z3 C hC H' (pr H' s'),
  fun rows F C z1 z2 L G H' s' hL hG X=>⟨rfl,M.q rows F C z1 z2 x L G H' (pr H' s') hx (fr L hL) (fr G hG) X⟩⟩
theorem qU {H:Hp} {h w g:Int} {rows:List RR} (ok:∀ r∈rows,r.Ok h w g):Lns H h w g ((rows.map RR.txt).map V.str) (rows.map some):=by
 refine ⟨by simp,fun i v o h1 h2=>?_⟩
 rw [List.getElem?_map,List.getElem?_map] at h1
 rw [List.getElem?_map] at h2
 cases e:rows[i]? with
 | none=>rw [e] at h1; cases h1
 | some r=>
  rw [e] at h1 h2
  cases h1
  cases h2
  exact ⟨rfl,ok r (List.mem_of_getElem? e)⟩
theorem kS {rows rows2:List RR} (h:rows.map some=rows2.map some):rows=rows2:=by
 induction rows generalizing rows2 with
 | nil=>cases rows2 with
  | nil=>rfl
  | cons x r=>cases h
 | cons y s ih=>cases rows2 with
  | nil=>cases h
  | cons x r=>
   rw [List.map_cons,List.map_cons,List.cons.injEq,Option.some.injEq] at h
   rw [h.1,ih h.2]
theorem Mk20.good {K:PySem.W.Frag} {c:RCl RK} {d:RCl PzK} {H:Hp} {p a b:Addr} {h w g:Int} {rows:List RR} {cl:List Int} {Z:Addr→Hp→Prop} {E:XK} (ok:d.ok .Puzzle=true) (hc:∀ k,k≠.Rule→c.ok k=true) (hp:IsFl H p h w g) (ha:H a=some (.lst ((rows.map RR.txt).map V.str))) (hb:H b=some (.lst (cl.map V.int))) (R:m9 c h w g rows) (hcl:cl.length≤100)
  (qC:¬ CluesOk h w g cl→bO K "NoPuzzle" H E) (q:CluesOk h w g cl→∀ P L G H',Same H H'→H P=none→H L=none→H G=none→IsPz H' c d P L G h w g rows cl→Z P H'):Mk20 K c d H p a b h w g ((rows.map RR.txt).map V.str) (rows.map some) cl Z E:=
 ⟨ok,hp,ha,hb,by have:=R.n; simp; omega,hcl,hc,fun _=>qU R.ok,fun z=>absurd R.F z,fun _ z=>(by have:=R.n; simp at z; omega),fun _ _ z=>(by simp at z),fun _ z _ _=>qC z,fun rows2 _ C _ e P L G H' s' h1 h2 h3 X=>q C P L G H' s' h1 h2 h3 (by rw [kS e]; exact X)⟩
def i3 (K:PySem.W.Frag) (c:RCl RK) (d:RCl PzK) (_:PzK):Sp:=fun vs H Q E=>∃ (P L G b:Addr) (h w g:Int) (rows:List RR) (cl cl2:List Int),vs=[.ref P,.ref b]∧IsPz H c d P L G h w g rows cl∧(∀ k,k≠.Rule→c.ok k=true)∧H b=some (.lst (cl2.map V.int))∧cl2.length≤100∧(¬ CluesOk h w g cl2→bO K "NoPuzzle" H E)∧
 (CluesOk h w g cl2→∀ P' L' G' H',Same H H'→H P'=none→H L'=none→H G'=none→IsPz H' c d P' L' G' h w g rows cl2→Q (.ref P') H')
def cU (K:PySem.W.Frag) (c:RCl RK) (d:RCl PzK):Sp:=i3 K c d .Puzzle
theorem lP {K:PySem.W.Frag} {c:RCl RK} {d:RCl PzK} {vs:List V} {H:Hp} {Q:VK} {E:XK} (h:cU K c d vs H Q E):vs.length=2:=by
 obtain ⟨_,_,_,_,_,_,_,_,_,_,rfl,_⟩:=h; rfl
def cV (K:PySem.W.Frag) (c:RCl RK) (d:RCl PzK) (E:XK):TS:=
 (tRet (tMake (d.A .Puzzle) (aF K c d) [] E (tCons (tFldK d (tVar 0) "floor") (tCons (iG d d.ok "lines" (hV K c d) (tVar 0) tNil) (tCons (tVar 1) tNil)))))
theorem lQ {K:PySem.W.Frag} {c:RCl RK} {d:RCl PzK} {vs:List V} {H:Hp} {Q:VK} {E:XK} (h:cU K c d vs H Q E):cV K c d E { nx:=fun _ H'=>Q .non H',rt:=Q } (start ["self","clues"] vs) H:=by
 obtain ⟨P,L,G,b,h,w,g,rows,cl,cl2,rfl,x,hc,hb,hn,qC,q⟩:=h
 obtain ⟨dx,p,rs,h1,h2,h3⟩:=x.ex
 show cV K c d E _ [some (.ref P),some (.ref b)] H
 unfold cV
 walk_at "w"
 refine fldE (k:=.Puzzle) rfl x.ok h1 (v:=.ref p) (by rfl) ?_
 walk_at "w"
 refine methE (k:=.Puzzle) rfl x.ok h1 (by rfl) ?_
 walk_at "w"
 refine ⟨P,L,G,h,w,g,rows,cl,rfl,x,fun l H1 s1 hl el=>?_⟩
 walk_at "w"
 exact Mk20.mk' (Mk20.good x.ok hc (s1 _ _ h2) el (s1 _ _ hb) x.R hn (fun z C hC H' s'=>qC z C hC H' (s1.trans s')) fun C P' L' G' H' s2 e1 e2 e3 X=>q C P' L' G' H' (s1.trans s2) (s1.free e1) (s1.free e2) (s1.free e3) X)
end L2
namespace L2
def figs:List Nat:=[46,49,50,51,52,53,54]
def valc (c:Nat):Int:=(figs.idxOf c:Nat)
def okc (g:Int) (c:Nat):Prop:=c∈figs∧valc c≤g
instance (g:Int) (c:Nat):Decidable (okc g c):=by unfold okc; infer_instance
def atOk (w:Nat) (g:Int) (i c:Nat):Prop:=if i % (w+1)=w then c=47 else okc g c
instance (w:Nat) (g:Int) (i c:Nat):Decidable (atOk w g i c):=by unfold atOk; infer_instance
def GoodL (h w:Nat) (g:Int) (l:List Nat):Prop:=l.length+1=h*(w+1)∧∀ i c,l[i]? =some c→atOk w g i c
def resL (l:List Nat):List Int:=(l.filter fun c=>decide (c≠47)).map valc
def hX (h w:Nat) (g:Int) (rows:List (List Nat)):Prop:=rows.length=h∧∀ r∈rows,r.length=w∧∀ c∈r,okc g c
theorem t5 {g:Int} {c:Nat} (h:okc g c):c≠47:=fun z=>by
 subst z
 exact absurd h.1 (by decide)
theorem js {w:Nat} {g:Int}:∀ {rows:List (List Nat)} {h:Nat},rows≠[]→hX h w g rows→GoodL h w g (catL 47 rows)
 | [],_,hn,_=>absurd rfl hn
 | [r],h,_,⟨h1,h2⟩=>by
  obtain ⟨a,b⟩:=h2 r (by simp)
  have:h=1:=by rw [← h1]; rfl
  subst this
  refine ⟨by show r.length+1=_; rw [a]; simp,fun i c e=>?_⟩
  have hi:i < r.length:=(List.getElem?_eq_some_iff.mp e).1
  unfold atOk
  rw [if_neg (by rw [Nat.mod_eq_of_lt (by omega)]; omega)]
  exact b c (List.mem_of_getElem? e)
 | r::r2::rs,h,_,⟨h1,h2⟩=>by
  obtain ⟨a,b⟩:=h2 r (by simp)
  have ih:=js (rows:=r2::rs) (h:=h - 1) (by simp) ⟨by simp at h1 ⊢; omega,fun x hx=>h2 x (List.mem_cons_of_mem _ hx)⟩
  have e0:catL 47 (r::r2::rs)=r++47::catL 47 (r2::rs):=rfl
  rw [e0]
  obtain ⟨i1,i2⟩:=ih
  have hh:h=(h - 1)+1:=by simp at h1; omega
  refine ⟨?_,fun i c e=>?_⟩
  · rw [hh,Nat.succ_mul,← i1,List.length_append,List.length_cons,a]; omega
  · unfold atOk
    by_cases c1:i < r.length
    · rw [List.getElem?_append_left c1] at e
      rw [if_neg (by rw [Nat.mod_eq_of_lt (by omega)]; omega)]
      exact b c (List.mem_of_getElem? e)
    · rw [List.getElem?_append_right (by omega)] at e
      by_cases c2:i=r.length
      · subst c2
        simp at e
        rw [if_pos (by rw [Nat.mod_eq_of_lt (by omega)]; omega)]
        exact e.symm
      · have e1:i - r.length=(i - r.length - 1)+1:=by omega
        rw [e1,List.getElem?_cons_succ] at e
        have q:=i2 _ c e
        unfold atOk at q
        have e2:i % (w+1)=(i - r.length - 1) % (w+1):=by
         have:i=(i - r.length - 1)+(w+1):=by omega
         conv=>lhs; rw [this]
         rw [Nat.add_mod_right]
        rw [e2]
        exact q
theorem jt {w:Nat} {g:Int}:∀ {h:Nat} {l:List Nat},0 < h→GoodL h w g l→∃ rows,hX h w g rows∧catL 47 rows=l
 | 0,_,h0,_=>absurd h0 (by decide)
 | 1,l,_,⟨a,b⟩=>by
  refine ⟨[l],⟨rfl,fun r hr=>?_⟩,rfl⟩
  have:r=l:=by simpa using hr
  subst this
  refine ⟨by omega,fun c hc=>?_⟩
  obtain ⟨i,hi,e⟩:=List.mem_iff_getElem.mp hc
  have q:=b i c (by rw [List.getElem?_eq_getElem hi,e])
  unfold atOk at q
  rw [if_neg (by rw [Nat.mod_eq_of_lt (by omega)]; omega)] at q
  exact q
 | h+2,l,_,⟨a,b⟩=>by
  have ll:w+1≤l.length:=by
   have:(h+2)*(w+1)=h*(w+1)+2*(w+1):=by rw [Nat.add_mul]
   have:=Nat.zero_le (h*(w+1))
   omega
  have g2:GoodL (h+1) w g (l.drop (w+1)):=by
   refine ⟨?_,fun i c e=>?_⟩
   · rw [List.length_drop]
     have:(h+2)*(w+1)=(h+1)*(w+1)+(w+1):=by rw [show h+2=(h+1)+1 from rfl,Nat.succ_mul]
     omega
   · rw [List.getElem?_drop] at e
     have q:=b _ c e
     unfold atOk at q ⊢
     rw [Nat.add_mod_left] at q
     exact q
  obtain ⟨rows,⟨r1,r2⟩,r3⟩:=jt (by omega) g2
  have ne:rows≠[]:=fun z=>by rw [z] at r1; simp at r1
  obtain ⟨r0,rs,er⟩:=List.exists_cons_of_ne_nil ne
  refine ⟨l.take w::rows,⟨by simp [r1],fun r hr=>?_⟩,?_⟩
  · rcases List.mem_cons.mp hr with rfl | hr
    · refine ⟨by rw [List.length_take]; omega,fun c hc=>?_⟩
      obtain ⟨i,hi,e⟩:=List.mem_iff_getElem.mp hc
      rw [List.length_take] at hi
      have q:=b i c (by rw [← e,List.getElem_take,List.getElem?_eq_getElem (by omega)])
      unfold atOk at q
      rw [if_neg (by rw [Nat.mod_eq_of_lt (by omega)]; omega)] at q
      exact q
    · exact r2 r hr
  · have e1:catL 47 (l.take w::rows)=l.take w++47::catL 47 rows:=by rw [er]; rfl
    rw [e1,r3]
    have q:=b w l[w] (List.getElem?_eq_getElem (by omega))
    unfold atOk at q
    rw [if_pos (Nat.mod_eq_of_lt (by omega))] at q
    rw [← q]
    conv=>rhs; rw [← List.take_append_drop w l]
    rw [List.drop_eq_getElem_cons (by omega:w < l.length)]
theorem pj {r:List Nat} (h:47∉r):r.filter (fun c=>decide (c≠47))=r:=
 List.filter_eq_self.mpr fun c hc=>decide_eq_true (fun (z:c=47)=>h (by rw [← z]; exact hc))
theorem nG:∀ {rows:List (List Nat)},(∀ r∈rows,47∉r)→(catL 47 rows).filter (fun c=>decide (c≠47))=rows.flatten
 | [],_=>rfl
 | [r],h=>by
  show r.filter _=_
  rw [pj (h r (by simp))]
  simp
 | r::r2::rs,h=>by
  have e0:catL 47 (r::r2::rs)=r++47::catL 47 (r2::rs):=rfl
  rw [e0,List.filter_append,List.filter_cons,if_neg (by simp),nG fun x hx=>h x (List.mem_cons_of_mem _ hx),pj (h r (by simp))]
  rfl
theorem uS {h w:Nat} {g:Int} {l:List Nat} {rows:List (List Nat)} (h0:0 < h) (hn:rows≠[]) (hf:∀ r∈rows,47∉r) (e:catL 47 rows=l):hX h w g rows↔GoodL h w g l:=by
 constructor
 · intro r; rw [← e]; exact js hn r
 · intro q
   obtain ⟨R,r1,r2⟩:=jt h0 q
   have:rows=R:=mt hn (fun z=>by rw [z] at r1; have:=r1.1; simp at this; omega) hf (fun r hr z=>t5 ((r1.2 r hr).2 _ z) rfl) (e.trans r2.symm)
   rw [this]
   exact r1
theorem qV {rows:List (List Nat)} {l:List Nat} (hf:∀ r∈rows,47∉r) (e:catL 47 rows=l):resL l=rows.flatten.map valc:=by
 unfold resL
 rw [← e,nG hf]
theorem uT {g:Int} {c:Nat} (h:okc g c):PySem.Txt.find (tx [46,49,50,51,52,53,54]) (tx [c])=valc c:=by
 rw [rS,if_pos (show c∈[46,49,50,51,52,53,54] from h.1)]
 rfl
theorem t6 {g:Int} {c:Nat} (h:¬ okc g c):PySem.Txt.find (tx [46,49,50,51,52,53,54]) (tx [c]) < 0∨g < PySem.Txt.find (tx [46,49,50,51,52,53,54]) (tx [c]):=by
 rw [rS]
 by_cases q:c∈figs
 · right
   rw [if_pos (show c∈[46,49,50,51,52,53,54] from q)]
   by_cases r:valc c≤g
   · exact absurd ⟨q,r⟩ h
   · exact Int.not_le.mp r
 · left
   rw [if_neg (show ¬ c∈[46,49,50,51,52,53,54] from q)]
   decide
end L2
namespace L2
open PySem PySem.Builtin PySem.Builtin.Str
def catS (s:List Nat):List (List Nat)→List Nat
 | []=>[]
 | [x]=>x
 | x::y::r=>x++(s++catS s (y::r))
theorem ib (s:List Nat):∀ ts:List (List Nat),Str.join (tx s) (ts.map tx)=tx (catS s ts)
 | []=>rfl
 | [x]=>rfl
 | x::y::r=>by
  show tx x++tx s++Str.join (tx s) ((y::r).map tx)=_
  rw [ib s (y::r),bb,bb]
  show tx _=tx (x++(s++catS s (y::r)))
  rw [List.append_assoc]
theorem at_iff {x s:List Nat} {k:Nat}:StrLaws.At (tx x) (tx s) (tx x).length k↔k+s.length≤x.length∧(x.drop k).take s.length=s:=by
 unfold StrLaws.At
 rw [StrLaws.subAt_eq,ay,ay,fc,fc,beq_iff_eq]
theorem qW (x:List Nat) (a b:Nat):strSub (tx x) a b=tx ((x.drop a).take (b - a)):=by
 rw [← sD (strSub (tx x) a b),StrLaws.strSub_toList,fc]
theorem lH {x s:List Nat} {c j k:Nat} (hj:s[j]? =some c) (h:StrLaws.At (tx x) (tx s) (tx x).length k):x[k+j]? =some c:=by
 have h2:=(at_iff.mp h).2
 have hl:=(List.getElem?_eq_some_iff.mp hj).1
 rw [← h2,List.getElem?_take_of_lt hl,List.getElem?_drop] at hj
 exact hj
theorem mG {x s:List Nat} {c j:Nat} (hj:s[j]? =some c) (hf:∀ i,i < j→s[i]? ≠some c):∀ (rows:List (List Nat)) (a f:Nat) (cuts:List Nat),rows≠[]→(∀ r∈rows,c∉r)→x.drop a=catS s rows→a≤x.length→StrLaws.ChainG (tx x) (tx s) (tx x).length a cuts f→(∀ k,f≤k→¬ StrLaws.At (tx x) (tx s) (tx x).length k)→StrLaws.partsFrom (tx x) (tx s).length a cuts=rows.map tx
 | [],_,_,_,h,_,_,_,_,_=>absurd rfl h
 | [r],a,f,cuts,_,hr,e,ha,hc,hn=>by
  have e:x.drop a=r:=e
  match cuts,hc with
  | [],hc=>
   show [strSub (tx x) a (tx x).length]=[tx r]
   rw [qW,e,ay,List.take_of_length_le (by rw [← e,List.length_drop]; omega)]
  | d::t,hc=>
   have m:=lH hj hc.2.1
   have:c∈r:=by
    rw [← e]
    have h1:(x.drop a)[d+j - a]? =some c:=by rw [List.getElem?_drop,show a+(d+j - a)=d+j by have:=hc.1; omega]; exact m
    exact List.mem_of_getElem? h1
   exact absurd this (hr r List.mem_cons_self)
 | r::r2::t,a,f,cuts,_,hr,e,ha,hc,hn=>by
  have e:x.drop a=r++(s++catS s (r2::t)):=e
  have hjl:=(List.getElem?_eq_some_iff.mp hj).1
  have hlen:x.length - a=r.length+(s.length+(catS s (r2::t)).length):=by
   have:=congrArg List.length e
   rw [List.length_drop,List.length_append,List.length_append] at this
   exact this
  have here:StrLaws.At (tx x) (tx s) (tx x).length (a+r.length):=at_iff.mpr ⟨by omega,by rw [← List.drop_drop,e,List.drop_left,List.take_left]⟩
  have none_before:∀ k,a≤k→k < a+r.length→¬ StrLaws.At (tx x) (tx s) (tx x).length k:=fun k h1 h2 hA=>by
   have m:=lH hj hA
   have h3:(x.drop a)[k+j - a]? =some c:=by rw [List.getElem?_drop,show a+(k+j - a)=k+j by omega]; exact m
   rw [e] at h3
   by_cases hk:k+j - a < r.length
   · rw [List.getElem?_append_left hk] at h3
     exact hr r List.mem_cons_self (List.mem_of_getElem? h3)
   · rw [List.getElem?_append_right (by omega),List.getElem?_append_left (by omega)] at h3
     exact hf _ (by omega) h3
  match cuts,hc with
  | [],hc=>
   have ef:f=a:=hc
   exact absurd here (hn _ (by omega))
  | d::u,hc=>
   have hd:d=a+r.length:=by
    by_cases h1:d < a+r.length
    · exact absurd hc.2.1 (none_before d hc.1 h1)
    · by_cases h2:a+r.length < d
      · exact absurd here (hc.2.2.1 _ (by omega) h2)
      · omega
   subst hd
   have ih:=mG hj hf (r2::t) (a+r.length+s.length) f u (by simp) (fun z hz=>hr z (List.mem_cons_of_mem _ hz)) (by rw [← List.drop_drop,← List.drop_drop,e,List.drop_left,List.drop_left]) (by omega) (by have:=hc.2.2.2; rw [ay] at this; exact this) hn
   show strSub (tx x) a (a+r.length)::StrLaws.partsFrom (tx x) (tx s).length (a+r.length+(tx s).length) u=tx r::(r2::t).map tx
   rw [ay] at ih ⊢
   rw [ih,qW,e,show a+r.length - a=r.length by omega,List.take_left]
theorem pk {s:List Nat} {c j:Nat} {rows:List (List Nat)} (hj:s[j]? =some c) (hf:∀ i,i < j→s[i]? ≠some c) (hk:PySem.Builtin.Str.strKind (tx s)≤1) (hne:rows≠[]) (hr:∀ r∈rows,c∉r):Txt.split (tx (catS s rows)) (tx s)=rows.map tx:=by
 have hjl:=(List.getElem?_eq_some_iff.mp hj).1
 obtain ⟨f,hG,hn⟩:=StrLaws.occ_tight (tx (catS s rows)) (tx s) (by rw [ay]; omega)
 have key:=mG (x:=catS s rows) hj hf rows 0 f _ hne hr (by simp) (by omega) hG hn
 unfold Txt.split
 split
 · rename_i hc
   rw [Bool.or_eq_true,decide_eq_true_eq,decide_eq_true_eq] at hc
   match rows,hne,hr with
   | [r],_,_=>rfl
   | r::r2::t,_,_=>
    exfalso
    rcases hc with h | h
    · rw [ay,ay] at h
      have:(catS s (r::r2::t)).length=(r++(s++catS s (r2::t))).length:=rfl
      rw [this,List.length_append,List.length_append] at h
      omega
    · have:1≤PySem.Builtin.Str.strKind (tx (catS s (r::r2::t))):=by
       unfold PySem.Builtin.Str.strKind
       split
       · exact Nat.le_refl _
       · split <;> decide
      omega
 · split
   · rename_i he
     rw [List.isEmpty_iff.mp he] at key
     have:StrLaws.partsFrom (tx (catS s rows)) (tx s).length 0 []=[tx (catS s rows)]:=by
      show [strSub (tx (catS s rows)) 0 (tx (catS s rows)).length]=_
      rw [StrLaws.sub_whole]
     rw [← key,this]
   · rw [StrLaws.partsBetween_eq]
     exact key
theorem jK {rows:List (List Nat)} (hne:rows≠[]) (hr:∀ r∈rows,124∉r):Txt.split (tx (catS [32,124,32] rows)) (tx [32,124,32])=rows.map tx:=
 pk (j:=1) rfl (fun i hi=>by have:i=0:=by omega
                             subst this; decide) (by decide+kernel) hne hr
theorem sM {rows:List (List Nat)} (hne:rows≠[]) (hr:∀ r∈rows,59∉r):Txt.split (tx (catS [59,32] rows)) (tx [59,32])=rows.map tx:=
 pk (j:=0) rfl (fun i hi=>by omega) (by decide+kernel) hne hr
end L2
namespace L2
open PySem PySem.Spec PyProof.Rows
local macro_rules | `(tactic| walk_at "w")=>`(tactic| (first | simp only [aM,lF,lE,kb,ge,jp,g9,hJ,kc,j8,jj,ka,if_true,if_false,Bool.false_eq_true,decide_true,decide_false,gn,gp,jG,fe,dm,gk,iC,gm,fb,iA,iB,eY,jD,fg,fh,fj,fk,fm,fo,fi,iD,iE,iF,iz,jF,Bool.not_true,Bool.not_false,eu,fV,bi,gs,w_c,jc,fW,eC,eD,eE,w_b,w_not,gt,jd,eF,eH,gu,gw,eI,je,eJ,gy,gz,jf,gA,dc,eK,eM,eP,cz,de,cA,cp,cq,bN,gB,gD,gE,gF,gG,gH,gI,gJ,gK,gL,gM,gN,jg,eQ,cr,eS,jh,eV,df,cu,gO,gP,eW,dw,eX,
 List.getElem?_cons_zero,List.getElem?_cons_succ,Option.some.injEq,exists_eq_left',exists_eq_left,List.set_cons_zero,List.set_cons_succ,bY,V.int.injEq,V.bl.injEq,V.ref.injEq,V.str.injEq,List.append_nil,List.nil_append,List.cons_append] | dsimp only | skip))
section
variable {k:Nat} {te:TE} {fin:Addr→Hp→Prop} {σ0:St} {H1:Hp}
theorem t8 {cs:List Nat} (n0:Nat) (hn0:n0 < cs.length) (f:Nat→V) (hn:cs.length≤900)
  (he:∀ i c H Q,cs[i]? =some c→i < n0→Same H1 H→(∀ H',Same H H'→Q (f i) H')→te (σ0.set k (some (.str (tx [c])))) H Q)
  (hb:∀ c H Q,cs[n0]? =some c→Same H1 H→te (σ0.set k (some (.str (tx [c])))) H Q):CompR (Its (tx cs)) (gName k) tTrue te fin σ0 H1:=by
 intro l hl
 have hsz:(tx cs).cps.size=cs.length:=by simp [tx]
 refine ⟨fun i m σ H=>m=cs.length - i∧i≤n0∧(σ=σ0∨∃ cv,σ=σ0.set k cv)∧Same H1 H∧H l=some (.lst ((List.range i).map f)),⟨cs.length,by simp,Nat.zero_le _,.inl rfl,(Same.refl H1).laid hl,by rw [af]; rfl⟩,?_⟩
 rintro i m σ H ⟨rfl,hi,hσ,s1,el⟩
 refine .inr ⟨by show i < (tx cs).cps.size; rw [hsz]; omega,fun σ H=>i < n0∧(σ=σ0∨∃ cv,σ=σ0.set k cv)∧Same H1 H∧H l=some (.lst ((List.range (i+1)).map f)),fun σ' H' p'=>⟨cs.length - (i+1),by omega,rfl,p'.1,p'.2⟩,?_⟩
 rintro x H' ⟨rfl,c,hc,rfl⟩
 have hc':cs[i]? =some c:=by simpa [tx] using hc
 show gName k (.str (tx [c])) σ H' _
 rw [bi]
 have e:σ.set k (some (.str (tx [c])))=σ0.set k (some (.str (tx [c]))):=by
  rcases hσ with rfl | ⟨cv,rfl⟩
  · rfl
  · exact List.set_set ..
 rw [e]
 rw [dc]
 refine iteT ?_
 by_cases q:i < n0
 · refine he i c H' _ hc' q s1 fun H3 s3=>⟨_,s3 _ _ el,by rw [List.length_map,List.length_range]; exact aS (by omega),q,.inr ⟨_,rfl⟩,(s1.trans s3).own hl,?_⟩
   rw [af,List.range_succ,List.map_append]
   rfl
 · have:i=n0:=by omega
   subst this
   exact hb c H' _ hc' s1
end
def bK (K:PySem.W.Frag):Sp:=fun vs H Q E=>∃ (a:Addr) (h w g:Int) (c:Nat),vs=[.ref a,.str (tx [c])]∧IsFl H a h w g∧(okc g c→Q (.int (valc c)) H)∧(¬ okc g c→∀ C,Glb K "NoFilling" C→E (.ref C) none H)
theorem mH {K:PySem.W.Frag} {vs:List V} {H:Hp} {Q:VK} {E:XK} (h:bK K vs H Q E):vs.length=2:=by
 obtain ⟨_,_,_,_,_,rfl,_⟩:=h; rfl
def dr (K:PySem.W.Frag) (a:EA) (E:XK):TS:=
 (tSeq (tAsg (tBM K "str" kFind (tC (.str (tx [46,49,50,51,52,53,54]))) (tCons (tVar 1) tNil)) (gName 2))
  (tSeq (tIfS (tOr (tTest (tOp (cCmp fun i j=>decide (i < j)) (tVar 2) (tC (.int 0)))) (tTest (tOp (cCmp fun i j=>decide (j < i)) (tVar 2) (tOp cIx (tVar 0) (tC (.int 2)))))) (bc E a.NoFilling (tCons (tC (.str (tx [97,32,114,111,119,32,104,97,115,32,102,105,103,117,114,101,115,32,111,102,32,116,104,101,32,102,108,111,111,114,39,115,32,115,105,103,110,115,32,97,110,100,32,112,111,105,110,116,115,32,97,108,111,110,101]))) tNil)) tNext)
  (tRet (tVar 2))))
theorem mI {K:PySem.W.Frag} {ea:EA} {vs:List V} {H:Hp} {Q:VK} {E:XK} {o1 o2 o3 o4 o5:List Addr} (RF:ak K ea "NoFloor" ea.NoFloor o1) (RL:ak K ea "NoRule" ea.NoRule o2) (RP:ak K ea "NoPuzzle" ea.NoPuzzle o3) (RT:ak K ea "NoText" ea.NoText o4) (R:ak K ea "NoFilling" ea.NoFilling o5) (h:bK K vs H Q E):dr K ea E { nx:=fun _ H'=>Q .non H',rt:=Q } (start ["floor","figure","sign"] vs) H:=by
 obtain ⟨a,h,w,g,c,rfl,ha,k1,k2⟩:=h
 have one:(1:Nat)≤sizeLine:=aq (by decide)
 show dr K ea E _ [some (.ref a),some (.str (tx [c])),none] H
 unfold dr
 walk_at "w"
 refine ⟨fA,?_⟩
 rw [aO]
 walk_at "w"
 by_cases hc:okc g c
 · rw [uT hc,decide_eq_false (show ¬ valc c < 0 by unfold valc; omega)]
   refine iteF ?_
   rw [mq ha]
   refine bo (a:=V.int g) rfl ?_
   walk_at "w"
   rw [decide_eq_false (show ¬ g < valc c by have:=hc.2; omega)]
   refine iteF ?_
   exact k1 hc
 · have bad:E (.ref ea.NoFilling) none H:=k2 hc _ R.g
   by_cases q:PySem.Txt.find (tx [46,49,50,51,52,53,54]) (tx [c]) < 0
   · rw [decide_eq_true q]
     refine iteT ?_
     first | refine iteT ?_ | (rw [if_pos trivial]) | skip
     rw [aP]
     walk_at "w"
     exact ⟨one,bad⟩
   · rw [decide_eq_false q]
     refine iteF ?_
     rw [mq ha]
     refine bo (a:=V.int g) rfl ?_
     walk_at "w"
     have:=t6 hc
     rw [decide_eq_true (show g < PySem.Txt.find (tx [46,49,50,51,52,53,54]) (tx [c]) by omega)]
     refine iteT ?_
     rw [aP]
     walk_at "w"
     exact ⟨one,bad⟩
def oG (w:Nat) (g:Int) (r:List Nat):Prop:=r.length=w∧∀ c∈r,okc g c
def cD (K:PySem.W.Frag):Sp:=fun vs H Q E=>∃ (a:Addr) (h w g:Int) (r:List Nat),vs=[.ref a,.str (tx r)]∧IsFl H a h w g∧FlOk h w g∧r.length≤900∧(oG w.toNat g r→∀ l H',Same H H'→H l=none→H' l=some (.lst ((r.map valc).map V.int))→Q (.ref l) H')∧(¬ oG w.toNat g r→∀ C H',Glb K "NoFilling" C→Same H H'→E (.ref C) none H')
theorem pN {K:PySem.W.Frag} {vs:List V} {H:Hp} {Q:VK} {E:XK} (h:cD K vs H Q E):vs.length=2:=by
 obtain ⟨_,_,_,_,_,rfl,_⟩:=h; rfl
def gc (K:PySem.W.Frag) (a:EA) (E:XK):TS:=
 (tSeq (tIfS (tTest (tOp (cNe K) (tCB kLen (tCons (tVar 1) tNil)) (tOp cIx (tVar 0) (tC (.int 1))))) (bc E a.NoFilling (tCons (tC (.str (tx [97,32,114,111,119,32,104,97,115,32,111,110,101,32,115,105,103,110,32,102,111,114,32,101,97,99,104,32,99,101,108,108]))) tNil)) tNext)
  (tRet (tComp [none,none,some 0] (iStr (tVar 1)) (gName 1) tTrue (tCall (bK K) [] E (tCons (tVar 2) (tCons (tVar 1) tNil))))))
theorem pq {g:Int}:∀ {r:List Nat},¬ (∀ c∈r,okc g c)→∃ n,n < r.length∧(∀ i c,r[i]? =some c→i < n→okc g c)∧∀ c,r[n]? =some c→¬ okc g c
 | [],h=>absurd (fun c hc=>nomatch hc) h
 | x::r,h=>by
  by_cases hx:okc g x
  · have:¬ ∀ c∈r,okc g c:=fun q=>h fun c hc=>by
     rcases List.mem_cons.mp hc with rfl | hc
     · exact hx
     · exact q c hc
    obtain ⟨n,a,b,c⟩:=pq this
    refine ⟨n+1,by simp; omega,fun i d e hi=>?_,fun d e=>c d (by simpa using e)⟩
    cases i with
    | zero=>simp at e; rw [← e]; exact hx
    | succ i=>exact b i d (by simpa using e) (by omega)
  · exact ⟨0,by simp,fun i _ _ hi=>absurd hi (Nat.not_lt_zero i),fun c e=>by simp at e; rw [← e]; exact hx⟩
theorem oH {α:Type} (xs:List Nat) (g:Nat→α):(List.range xs.length).map (fun i=>g (xs.getD i 0))=xs.map g:=by
 refine List.ext_getElem? fun i=>?_
 rw [List.getElem?_map,List.getElem?_map]
 by_cases h:i < xs.length
 · rw [List.getElem?_range h,List.getElem?_eq_getElem h]
   simp [List.getD,h]
 · rw [List.getElem?_eq_none (by simpa using h),List.getElem?_eq_none (by omega)]
   rfl
theorem pO {K:PySem.W.Frag} {ea:EA} {vs:List V} {H:Hp} {Q:VK} {E:XK} {o1 o2 o3 o4 o5:List Addr} (RF:ak K ea "NoFloor" ea.NoFloor o1) (RL:ak K ea "NoRule" ea.NoRule o2) (RP:ak K ea "NoPuzzle" ea.NoPuzzle o3) (RT:ak K ea "NoText" ea.NoText o4) (R:ak K ea "NoFilling" ea.NoFilling o5) (h:cD K vs H Q E):gc K ea E { nx:=fun _ H'=>Q .non H',rt:=Q } (start ["floor","row"] vs) H:=by
 obtain ⟨a,h,w,g,r,rfl,ha,F,hl,k1,k2⟩:=h
 have one:(1:Nat)≤sizeLine:=aq (by decide)
 have w0:=F.w0
 show gc K ea E _ [some (.ref a),some (.str (tx r))] H
 unfold gc
 rw [aM,aO]
 walk_at "w"
 refine ⟨by rw [ay]; exact aq (by omega),?_⟩
 rw [mq ha]
 refine bo (a:=V.int w) rfl ?_
 walk_at "w"
 rw [ay]
 by_cases hr:r.length=w.toNat
 · rw [decide_eq_true (show ((r.length:Nat):Int)=w by omega)]
   refine iteF ?_
   walk_at "w"
   by_cases hall:∀ c∈r,okc g c
   · refine pd (cs:=r) (fun _=>true) (fun i=>.int (valc (r.getD i 0))) hl ?_ ?_ ?_
     · intro i c H1 R hc s1 k1
       exact k1 _ (Same.refl _)
     · intro i c H1 Q1 hc hb s1 k3
       show tCall _ _ _ _ [none,some (.str (tx [c])),some (.ref a)] H1 Q1
       walk_at "w"
       have q:=k3 _ (Same.refl H1)
       have e:r.getD i 0=c:=by rw [List.getD,hc]; rfl
       rw [e] at q
       exact ⟨a,h,w,g,c,rfl,s1 _ _ ha,fun _=>q,fun z=>(z (hall c (List.mem_of_getElem? hc))).elim⟩
     · intro l H1 hl1 s1 el
       refine k1 ⟨hr,hall⟩ l H1 s1 hl1 ?_
       rw [cc] at el
       rw [el,List.map_map,← oH r (V.int ∘ valc)]
       rfl
   · obtain ⟨n,n1,n2,n3⟩:=pq hall
     refine t8 n n1 (fun i=>.int (valc (r.getD i 0))) hl ?_ ?_
     · intro i c H1 Q1 hc hi s1 k3
       show tCall _ _ _ _ [none,some (.str (tx [c])),some (.ref a)] H1 Q1
       walk_at "w"
       have q:=k3 _ (Same.refl H1)
       have e:r.getD i 0=c:=by rw [List.getD,hc]; rfl
       rw [e] at q
       exact ⟨a,h,w,g,c,rfl,s1 _ _ ha,fun _=>q,fun z=>(z (n2 i c hc hi)).elim⟩
     · intro c H1 Q1 hc s1
       show tCall _ _ _ _ [none,some (.str (tx [c])),some (.ref a)] H1 Q1
       walk_at "w"
       exact ⟨a,h,w,g,c,rfl,s1 _ _ ha,fun z=>(n3 c hc z).elim,fun _ C hC=>k2 (fun z=>hall z.2) C H1 hC s1⟩
 · rw [decide_eq_false (show ¬ ((r.length:Nat):Int)=w by omega)]
   refine iteT ?_
   rw [aP]
   walk_at "w"
   exact ⟨one,k2 (fun z=>hr z.1) _ H R.g (Same.refl H)⟩
def wP (h w g:Int) (v:V):Prop:=∃ l:List Nat,v=.str (tx l)∧GoodL h.toNat w.toNat g l
def Bent (H:Hp) (v:V):Prop:=(∃ l:List Nat,v=.str (tx l)∧l.length≤300)∨v=.non∨(∃ i:Int,v=.int i)∨v=.bl true∨(∃ p xs,v=.ref p∧H p=some (.lst xs))∨(∃ p xs,v=.ref p∧H p=some (.tup xs))
theorem wQ {H:Hp} {Q:VK} {v:V} (b:Bent H v) (hn:∀ l,v≠.str (tx l)) (h:Q (.bl false) H):kIsi [v,.ty "str"] H Q:=by
 rcases b with ⟨l,e,_⟩ | rfl | ⟨i,rfl⟩ | rfl | ⟨p,xs,rfl,e⟩ | ⟨p,xs,rfl,e⟩
 · exact absurd e (hn l)
 · exact ⟨rfl,bo (a:="NoneType") rfl h⟩
 · exact ⟨rfl,bo (a:="int") rfl h⟩
 · exact ⟨rfl,bo (a:="bool") rfl h⟩
 · exact ⟨rfl,bo (a:="list") (by unfold fQ; dsimp only; rw [e]) h⟩
 · exact ⟨rfl,bo (a:="tuple") (by unfold fQ; dsimp only; rw [e]) h⟩
def bF (K:PySem.W.Frag):Sp:=fun vs H Q E=>∃ (a:Addr) (h w g:Int) (v:V),vs=[.ref a,v]∧IsFl H a h w g∧FlOk h w g∧Bent H v∧
 (∀ l,v=.str (tx l)→GoodL h.toNat w.toNat g l→∀ p H',Same H H'→H p=none→H' p=some (.lst ((resL l).map V.int))→Q (.ref p) H')∧
 (¬ wP h w g v→∀ C H',Glb K "NoFilling" C→Same H H'→E (.ref C) none H')
theorem lR {K:PySem.W.Frag} {vs:List V} {H:Hp} {Q:VK} {E:XK} (h:bF K vs H Q E):vs.length=2:=by
 obtain ⟨_,_,_,_,_,rfl,_⟩:=h; rfl
def cW (K:PySem.W.Frag) (a:EA) (E:XK):TS:=
 (tSeq (tIfS (tNot (tB (tCB kIsi (tCons (tVar 1) (tCons (tC (.ty "str")) tNil))))) (bc E a.NoFilling (tCons (tC (.str (tx [97,32,102,105,108,108,105,110,103,32,105,115,32,114,101,97,100,32,102,114,111,109,32,97,32,116,101,120,116]))) tNil)) tNext)
  (tSeq (tAsg (tBM K "str" fR (tVar 1) (tCons (tC (.str (tx [47]))) tNil)) (gName 2))
  (tSeq (tIfS (tTest (tOp (cNe K) (tCB kLen (tCons (tVar 2) tNil)) (tOp cIx (tVar 0) (tC (.int 0))))) (bc E a.NoFilling (tCons (tC (.str (tx [97,32,102,105,108,108,105,110,103,32,104,97,115,32,111,110,101,32,114,111,119,32,102,111,114,32,101,97,99,104,32,114,111,119,32,111,102,32,116,104,101,32,102,108,111,111,114]))) tNil)) tNext)
  (tSeq (tAsg (tLst tNil) (gName 3))
  (tSeq (tFor (iList K (tVar 2)) (gName 4)
  (tDrop (tBM K "list" lq (tVar 3) (tCons (tCall (cD K) [] E (tCons (tVar 0) (tCons (tVar 4) tNil))) tNil))))
  (tRet (tVar 3)))))))
theorem lS {K:PySem.W.Frag} {ea:EA} {vs:List V} {H:Hp} {Q:VK} {E:XK} {o1 o2 o3 o4 o5:List Addr} (RF:ak K ea "NoFloor" ea.NoFloor o1) (RL:ak K ea "NoRule" ea.NoRule o2) (RP:ak K ea "NoPuzzle" ea.NoPuzzle o3) (RT:ak K ea "NoText" ea.NoText o4) (R:ak K ea "NoFilling" ea.NoFilling o5) (h:bF K vs H Q E):cW K ea E { nx:=fun _ H'=>Q .non H',rt:=Q } (start ["floor","text","rows","filling","row"] vs) H:=by
 obtain ⟨a,h,w,g,v,rfl,ha,F,hb,k1,k2⟩:=h
 obtain ⟨h0,h1,w0,w1,m16,g0,g1⟩:=id F
 have one:(1:Nat)≤sizeLine:=aq (by decide)
 show cW K ea E _ [some (.ref a),some v,none,none,none] H
 unfold cW
 rw [aM,aO]
 walk_at "w"
 by_cases hv:∃ l,v=.str (tx l)
 · obtain ⟨l,rfl⟩:=hv
   have hlen:l.length≤300:=by
    rcases hb with ⟨l',e,h⟩ | e | ⟨_,e⟩ | e | ⟨_,_,e,_⟩ | ⟨_,_,e,_⟩
    · cases (ji (V.str.inj e)); exact h
    all_goals cases e
   refine wE ?_
   walk_at "w"
   refine ⟨fA,?_⟩
   obtain ⟨rows,hne,hnf,hcat,hsp⟩:=me 47 l
   have hrl:rows.length≤301:=by have:=mv 47 rows; rw [hcat] at this; omega
   have hiff:=uS (h:=h.toNat) (w:=w.toNat) (g:=g) (by omega) hne hnf hcat
   have bad:¬ hX h.toNat w.toNat g rows→∀ C H',Glb K "NoFilling" C→Same H H'→E (.ref C) none H':=fun z=>k2 fun ⟨l',e,q⟩=>z (by
    cases (ji (V.str.inj e)); exact hiff.mpr q)
   rw [i6,hsp]
   refine ⟨by rw [ay]; decide,by rw [ay]; exact aq (by omega),by rw [List.length_map]; exact aq (by omega),fun L hL=>?_⟩
   have s1:Same H (upd H L (.lst ((rows.map tx).map V.str))):=(Same.refl H).laid hL
   have eL:(upd H L (.lst ((rows.map tx).map V.str))) L=some (.lst ((rows.map tx).map V.str)):=af
   generalize upd H L (.lst ((rows.map tx).map V.str))=H1 at*
   walk_at "w"
   rw [aO]
   walk_at "w"
   rw [ip eL]
   walk_at "w"
   rw [mq (s1 _ _ ha)]
   refine bo (a:=V.int h) rfl ?_
   walk_at "w"
   rw [List.length_map,List.length_map]
   by_cases hr:rows.length=h.toNat
   · rw [decide_eq_true (show ((rows.length:Nat):Int)=h by omega)]
     refine iteF ?_
     walk_at "w"
     refine ⟨Nat.zero_le _,fun f hf=>?_⟩
     have s2:Same H1 (upd H1 f (.lst [])):=(Same.refl H1).laid hf
     have hfH:H f=none:=s1.free hf
     walk_at "w"
     refine ⟨⟨_,SqL.of (s2 _ _ eL)⟩,ur (K:=K) (xs:=(rows.map tx).map V.str) (fun i σ H'=>∃ rv:Option V,σ=[some (.ref a),some (.str (tx l)),some (.ref L),some (.ref f),rv]∧Same H H'∧H' L=some (.lst ((rows.map tx).map V.str))∧H' f=some (.lst (((rows.take i).flatten.map valc).map V.int))∧∀ r∈rows.take i,oG w.toNat g r)
      ⟨none,rfl,s1.trans s2,s2 _ _ eL,af,fun r hr=>by simp at hr⟩ (fun i σ H' _ ⟨_,_,_,e',_⟩=>SqL.of e') ?_ ?_⟩
     · rintro i y σ H2 hy ⟨rv,rfl,s3,eL2,ef2,hok⟩
       rw [List.map_map,List.getElem?_map] at hy
       cases hz:rows[i]? with
       | none=>rw [hz] at hy; cases hy
       | some r=>
        rw [hz] at hy
        cases hy
        have hi:i < rows.length:=(List.getElem?_eq_some_iff.mp hz).1
        walk_at "w"
        refine ⟨mm ef2,?_⟩
        have hrle:r.length≤900:=by
         have:r.length≤(catL 47 rows).length:=by
          have:∀ (rs:List (List Nat)),r∈rs→r.length≤(catL 47 rs).length:=by
           intro rs
           induction rs with
           | nil=>intro z; exact nomatch z
           | cons x rs ih=>
            intro hm
            cases rs with
            | nil=>have:r=x:=by simpa using hm
                   rw [this]; exact Nat.le_refl _
            | cons y rs'=>
             show r.length≤(x++47::catL 47 (y::rs')).length
             rw [List.length_append,List.length_cons]
             rcases List.mem_cons.mp hm with rfl | hm
             · omega
             · have:=ih hm; omega
          exact this rows (List.mem_of_getElem? hz)
         rw [hcat] at this
         omega
        refine ⟨a,h,w,g,r,rfl,s3 _ _ ha,F,hrle,fun hrow p H3 s4 hl3 el=>?_,fun hrow C H3 hC s4=>bad (fun z=>hrow (z.2 r (List.mem_of_getElem? hz))) C H3 hC (s3.trans s4)⟩
        walk_at "w"
        have hflat:((rows.take i).flatten).length≤100:=by
         have hsum:∀ rs:List (List Nat),(∀ r∈rs,r.length≤6)→rs.flatten.length≤6*rs.length:=by
          intro rs
          induction rs with
          | nil=>intro _; simp
          | cons x rs ih=>
           intro hx
           rw [List.flatten_cons,List.length_append,List.length_cons]
           have a1:=hx x (by simp)
           have a2:=ih fun r hr=>hx r (List.mem_cons_of_mem _ hr)
           omega
         have:=hsum (rows.take i) fun r hr=>by rw [(hok r hr).1]; omega
         rw [List.length_take] at this
         omega
        have hr6:r.length≤6:=by rw [hrow.1]; omega
        refine uF (s4 _ _ ef2) el (by rw [List.length_map,List.length_map,List.length_map,List.length_map]; omega) ?_
        refine ⟨_,rfl,(s3.trans s4).own hfH,?_,?_,?_⟩
        · have nLf:L≠f:=fun z=>by rw [← z,eL] at hf; cases hf
          rw [am nLf]
          exact s4 _ _ eL2
        · rw [af,List.take_add_one,hz,List.flatten_append,List.map_append,List.map_append]
          simp
        · intro x hx
          rw [List.take_add_one,hz] at hx
          rcases List.mem_append.mp hx with hx | hx
          · exact hok x hx
          · have:x=r:=by simpa using hx
            rw [this]; exact hrow
     · rintro σ H2 ⟨rv,rfl,s3,eL2,ef2,hok⟩
       walk_at "w"
       rw [List.length_map,List.length_map,List.take_length] at ef2
       rw [List.length_map,List.length_map,List.take_length] at hok
       refine k1 l rfl (hiff.mp ⟨hr,hok⟩) f H2 s3 hfH ?_
       rw [qV hnf hcat]
       exact ef2
   · rw [decide_eq_false (show ¬ ((rows.length:Nat):Int)=h by omega)]
     refine iteT ?_
     rw [aP]
     walk_at "w"
     exact ⟨one,bad (fun z=>hr z.1) _ _ R.g s1⟩
 · refine wQ hb (fun l e=>hv ⟨l,e⟩) ?_
   walk_at "w"
   rw [aP]
   walk_at "w"
   exact ⟨one,k2 (fun ⟨l,e,_⟩=>hv ⟨l,e⟩) _ _ R.g (Same.refl H)⟩
theorem qX:∀ os:List (Option Nat),inV .non (os.map nV)=decide (none∈os)
 | []=>by simp [inV]
 | o::r=>by
  have ih:=qX r
  unfold inV at ih ⊢
  rw [List.map_cons,List.any_cons,ih]
  cases o with
  | none=>simp [nV]; exact .inl rfl
  | some n=>
   have:eqV (nV (some n)) .non=false:=rfl
   rw [this]
   simp
theorem pw:∀ os:List (Option Nat),(os.map nV).all flatV=true
 | []=>rfl
 | o::r=>by
  rw [List.map_cons,List.all_cons,pw r]
  cases o <;> rfl
theorem uU {K:PySem.W.Frag} {H:Hp} {Q:VK} {p:Addr} {os:List (Option Nat)} (h:H p=some (.lst (os.map nV))):cIn K false .non (.ref p) H Q=Q (.bl (decide (none∈os))) H:=by
 unfold cIn; dsimp only; rw [h]; dsimp only [unD,unS,bnd]
 rw [qX,pw]
 simp [flatV]
def NT (ws:List (List Nat)):Bool:=!decide (none∈ws.map numW)
theorem wR {ws:List (List Nat)} (h:NT ws=true):(ws.map numW).map nV=(ws.map celW).map V.int:=by
 rw [List.map_map,List.map_map]
 refine List.map_congr_left fun w hw=>?_
 unfold NT at h
 rw [Bool.not_eq_true',decide_eq_false_iff_not] at h
 cases e:numW w with
 | none=>exact absurd (List.mem_map.mpr ⟨w,hw,e⟩) h
 | some n=>simp [nV,celW,e]
def bz (K:PySem.W.Frag):Sp:=fun vs H Q _=>∃ t:Str,vs=[.str t]∧Q .non H
theorem kt {K:PySem.W.Frag} {vs:List V} {H:Hp} {Q:VK} {E:XK} (h:bz K vs H Q E):vs.length=1:=by
 obtain ⟨_,rfl,_⟩:=h; rfl
def cw (K:PySem.W.Frag) (a:EA) (E:XK):TS:=
 (tIfS (tNot (tB (tCB kIsi (tCons (tVar 0) (tCons (tC (.ty "str")) tNil))))) (bc E a.NoText (tCons (tC (.str (tx [111,110,108,121,32,97,32,116,101,120,116,32,105,115,32,114,101,97,100]))) tNil)) tNext)
def bG (K:PySem.W.Frag):Sp:=fun vs H Q E=>∃ (W:Addr) (ws:List (List Nat)),vs=[.ref W]∧H W=some (.lst ((ws.map tx).map V.str))∧ws.length≤100∧(∀ w∈ws,WdOk w)∧
 (NT ws=true→∀ l H',Same H H'→H l=none→H' l=some (.lst ((ws.map celW).map V.int))→Q (.ref l) H')∧(NT ws=false→bO K "NoText" H E)
theorem lT {K:PySem.W.Frag} {vs:List V} {H:Hp} {Q:VK} {E:XK} (h:bG K vs H Q E):vs.length=1:=by
 obtain ⟨_,_,rfl,_⟩:=h; rfl
def cX (K:PySem.W.Frag) (a:EA) (E:XK):TS:=
 (tSeq (sComp 1 [none,none] (iList K (tVar 0)) (gName 1) tTrue (tCall (bC K) [] E0 (tCons (tVar 1) tNil)))
  (tSeq (tIfS (tTest (tOp (cIn K false) (tC .non) (tVar 1))) (bc E a.NoText (tCons (tC (.str (tx [97,32,110,117,109,98,101,114,32,104,97,115,32,111,110,101,32,116,111,32,110,105,110,101,32,102,105,103,117,114,101,115,44,32,119,105,116,104,111,117,116,32,110,111,117,103,104,116,115,32,97,104,101,97,100]))) tNil)) tNext)
  (tRet (tVar 1))))
def flW (ws:List (List Nat)):Option (Int × Int × Int):=match ws with
 | [a,b,c]=>if NT [a,b,c]=true then some (celW a,celW b,celW c) else none
 | _=>none
def bU (K:PySem.W.Frag):Sp:=fun vs H Q E=>∃ ws:List (List Nat),vs=[.str (tx (catL 32 ws))]∧LnOk ws∧(flW ws=none→bO K "NoText" H E)∧
 (∀ h w g,flW ws=some (h,w,g)→(FlOk h w g→∀ p H',Same H H'→H p=none→IsFl H' p h w g→Q (.ref p) H')∧(¬ FlOk h w g→bO K "NoFloor" H E))
theorem nH {K:PySem.W.Frag} {vs:List V} {H:Hp} {Q:VK} {E:XK} (h:bU K vs H Q E):vs.length=1:=by
 obtain ⟨_,rfl,_⟩:=h; rfl
def dQ (K:PySem.W.Frag) (a:EA) (E:XK):TS:=
 (tSeq (tAsg (tCall (bG K) [] E (tCons (tBM K "str" fR (tVar 0) (tCons (tC (.str (tx [32]))) tNil)) tNil)) (gName 1))
  (tSeq (tIfS (tTest (tOp (cNe K) (tCB kLen (tCons (tVar 1) tNil)) (tC (.int 3)))) (bc E a.NoText (tCons (tC (.str (tx [97,32,102,108,111,111,114,32,105,115,32,116,111,108,100,32,98,121,32,116,104,114,101,101,32,110,117,109,98,101,114,115]))) tNil)) tNext)
  (tRet (tCall (bJ K) [] E (tCons (tOp cIx (tVar 1) (tC (.int 0))) (tCons (tOp cIx (tVar 1) (tC (.int 1))) (tCons (tOp cIx (tVar 1) (tC (.int 2))) tNil)))))))
section
variable {o1 o2 o3 o4 o5:List Addr} {K:PySem.W.Frag} {a:EA} {vs:List V} {H:Hp} {Q:VK} {E:XK} (RF:ak K a "NoFloor" a.NoFloor o1) (RL:ak K a "NoRule" a.NoRule o2) (RP:ak K a "NoPuzzle" a.NoPuzzle o3) (RT:ak K a "NoText" a.NoText o4) (RN:ak K a "NoFilling" a.NoFilling o5)
include RF RL RP RT RN
theorem ku (h:bz K vs H Q E):cw K a E { nx:=fun _ H'=>Q .non H',rt:=Q } (start ["text"] vs) H:=by
 obtain ⟨t,rfl,q⟩:=h
 show cw K a E _ [some (.str t)] H
 unfold cw
 rw [aO]
 walk_at "w"
 exact q
theorem lU (h:bG K vs H Q E):cX K a E { nx:=fun _ H'=>Q .non H',rt:=Q } (start ["words","numbers"] vs) H:=by
 obtain ⟨W,ws,rfl,hW,hl,hw,q1,q2⟩:=h
 show cX K a E _ [some (.ref W),none] H
 unfold cX
 walk_at "w"
 refine ⟨⟨_,SqL.of hW⟩,?_⟩
 refine i0 (xs:=(ws.map tx).map V.str) (fun _=>true) (fun i=>nV (numW (ws.getD i []))) (by simp; omega) (SqL.of hW) ?_ ?_ ?_
 · intro i x H1 R hx s1 k1
   exact k1 _ (Same.refl _)
 · intro i x H1 Q1 hx hb s1 k1
   rw [List.getElem?_map,List.getElem?_map] at hx
   cases e:ws[i]? with
   | none=>rw [e] at hx; cases hx
   | some y=>
    rw [e] at hx
    cases hx
    show tCall _ _ _ _ [none,some (.str (tx y))] H1 Q1
    walk_at "w"
    have eg:ws.getD i []=y:=by rw [List.getD,e]; rfl
    rw [eg] at k1
    exact ⟨y,rfl,hw y (List.mem_of_getElem? e),k1⟩
 · intro l H1 hl1 s1 el
   have el2:H1 l=some (.lst ((ws.map numW).map nV)):=by
    rw [el,cc,List.length_map,List.length_map,List.map_map]
    congr 2
    refine List.ext_getElem? fun i=>?_
    rw [List.getElem?_map,List.getElem?_map]
    by_cases h:i < ws.length
    · rw [List.getElem?_range h,List.getElem?_eq_getElem h]
      simp [List.getD,h]
    · rw [List.getElem?_eq_none (by simpa using h),List.getElem?_eq_none (by omega)]; rfl
   walk_at "w"
   rw [aO]
   walk_at "w"
   rw [uU el2]
   cases hb:decide (none∈ws.map numW) with
   | true=>
    refine ⟨true,rfl,iteT ?_⟩
    rw [aP]
    walk_at "w"
    exact ⟨aq (by show (1:Nat)≤1000; decide),q2 (by unfold NT; rw [hb]; rfl) _ RT.g _ s1⟩
   | false=>
    have hN:NT ws=true:=by unfold NT; rw [hb]; rfl
    refine ⟨false,rfl,iteF ?_⟩
    walk_at "w"
    exact q1 hN l H1 s1 hl1 (by rw [el2,wR hN])
theorem nI (h:bU K vs H Q E):dQ K a E { nx:=fun _ H'=>Q .non H',rt:=Q } (start ["text","numbers"] vs) H:=by
 obtain ⟨ws,rfl,L,q1,q2⟩:=h
 have hsp:Txt.split (tx (catL 32 ws)) (tx [32])=ws.map tx:=qE L.ne L.fr
 have hl:=L.len
 have hl2:=kd ws fun z hz=>(L.wd z hz).len
 show dQ K a E _ [some (.str (tx (catL 32 ws))),none] H
 unfold dQ
 walk_at "w"
 refine ⟨fA,?_⟩
 rw [i6,hsp]
 refine ⟨by rw [ay]; decide,by rw [ay]; exact Nat.le_of_lt (Nat.lt_of_le_of_lt hl2 (Nat.lt_of_le_of_lt (Nat.mul_le_mul_left 101 hl) (by decide))),by rw [List.length_map]; exact aq (by omega),fun W hW=>?_⟩
 have s1:Same H (upd H W (.lst ((ws.map tx).map V.str))):=(Same.refl H).laid hW
 have e1:(upd H W (.lst ((ws.map tx).map V.str))) W=some (.lst ((ws.map tx).map V.str)):=af
 generalize upd H W (.lst ((ws.map tx).map V.str))=H1 at*
 refine ⟨W,ws,rfl,e1,hl,L.wd,fun hN l H2 s2 hl2 el=>?_,fun hN C hC H2 s2=>q1 ?_ C hC H2 (s1.trans s2)⟩
 · have s12:=s1.trans s2
   walk_at "w"
   rw [aO]
   walk_at "w"
   rw [ip el,List.length_map,List.length_map]
   walk_at "w"
   by_cases h3:ws.length=3
   · rw [decide_eq_true (show ((ws.length:Nat):Int)=3 by omega)]
     refine iteF ?_
     obtain ⟨x,y,z,rfl⟩:∃ x y z,ws=[x,y,z]:=by
      match ws,h3 with
      | [x,y,z],_=>exact ⟨x,y,z,rfl⟩
     have ef:flW [x,y,z]=some (celW x,celW y,celW z):=by show (if NT [x,y,z]=true then some (celW x,celW y,celW z) else none)=_; rw [if_pos hN]
     obtain ⟨k1,k2⟩:=q2 _ _ _ ef
     walk_at "w"
     refine ixL el (v:=V.int (celW x)) (aG (j:=0) rfl) ?_
     walk_at "w"
     refine ixL el (v:=V.int (celW y)) (aG (j:=1) rfl) ?_
     walk_at "w"
     refine ixL el (v:=V.int (celW z)) (aG (j:=2) rfl) ?_
     walk_at "w"
     by_cases F:FlOk (celW x) (celW y) (celW z)
     · exact ⟨_,_,_,rfl,.inl ⟨F,fun p hp=>k1 F p _ (s12.laid hp) (s12.free hp) af⟩⟩
     · exact ⟨_,_,_,rfl,.inr ⟨F,fun C hC H' s'=>k2 F C hC H' (s12.trans s')⟩⟩
   · rw [decide_eq_false (show ¬ ((ws.length:Nat):Int)=3 by omega)]
     refine iteT ?_
     rw [aP]
     walk_at "w"
     refine ⟨aq (by show (1:Nat)≤1000; decide),q1 ?_ _ RT.g _ s12⟩
     unfold flW
     split
     · exact absurd rfl h3
     · rfl
 · unfold flW
   split
   · rw [if_neg]; rw [hN]; exact Bool.false_ne_true
   · rfl
end
theorem rA (c:Nat):0≤valc c:=by unfold valc; omega
theorem nJ {w:Nat} {g:Int}:∀ {rows:List (List Nat)} {h:Nat},hX h w g rows→rows.flatten.length=h*w
 | [],h,⟨e,_⟩=>by simp at e; subst e; simp
 | r::rs,h,⟨e,k⟩=>by
  have ih:=nJ (rows:=rs) (h:=h - 1) ⟨by simp at e; omega,fun x hx=>k x (List.mem_cons_of_mem _ hx)⟩
  have hh:h=(h - 1)+1:=by simp at e; omega
  rw [List.flatten_cons,List.length_append,ih,(k r List.mem_cons_self).1]
  conv=>rhs; rw [hh,Nat.succ_mul]
  omega
theorem sO {h w g:Int} {l:List Nat} (F:FlOk h w g) (G:GoodL h.toNat w.toNat g l):CluesOk h w g (resL l):=by
 obtain ⟨h0,h1,w0,w1,m16,g0,g1⟩:=F
 obtain ⟨rows,R,e⟩:=jt (by omega) G
 have hnf:∀ r∈rows,47∉r:=fun r hr hm=>t5 ((R.2 r hr).2 47 hm) rfl
 have er:=qV hnf e
 rw [er]
 refine ⟨?_,fun x hx=>?_⟩
 · rw [List.length_map,nJ R]
   rw [Int.toNat_mul (by omega) (by omega)]
 · obtain ⟨c,hc,rfl⟩:=List.mem_map.mp hx
   obtain ⟨r,hr,hcr⟩:=List.mem_flatten.mp hc
   exact ⟨rA c,((R.2 r hr).2 c hcr).2⟩
def sP (p1:List Nat) (ls:List (List Nat)):Prop:=(p1=[]∧ls=[])∨(p1≠[]∧ls≠[]∧p1=catS [59,32] ls∧∀ l∈ls,59∉l)
abbrev lsV (ls:List (List Nat)):List V:=(ls.map tx).map V.str
structure xx (K:PySem.W.Frag) (c:RCl RK) (d:RCl PzK) (H:Hp) (Q:VK) (E:XK) (ws:List (List Nat)) (p2:List Nat) (ls:List (List Nat)):Prop where
 nt:flW ws=none→bO K "NoText" H E
 nf:∀ h w g,flW ws=some (h,w,g)→¬ FlOk h w g→bO K "NoFloor" H E
 ok:∀ h w g,flW ws=some (h,w,g)→FlOk h w g→∃ os:List (Option RR),(∀ H,Lns H h w g (lsV ls) os)∧(12 < ls.length→bO K "NoPuzzle" H E)∧(ls.length≤12→none∈os→bO K "NoRule" H E)∧
  (ls.length≤12→∀ rows:List RR,os=rows.map some→(¬ GoodL h.toNat w.toNat g p2→bO K "NoFilling" H E)∧(GoodL h.toNat w.toNat g p2→∀ P L G H',Same H H'→IsPz H' c d P L G h w g rows (resL p2)→Q (.ref P) H'))
def bg (K:PySem.W.Frag) (c:RCl RK) (d:RCl PzK):Sp:=fun vs H Q E=>∃ t:List Nat,vs=[.str (tx t)]∧t.length≤900∧d.ok .Puzzle=true∧(∀ k,k≠.Rule→c.ok k=true)∧
 ((∃ ps:List (List Nat),Txt.split (tx t) (tx [32,124,32])=ps.map tx∧ps.length≤900∧ps.length≠3∧bO K "NoText" H E)∨
  (∃ (ws:List (List Nat)) (p1 p2:List Nat) (ls:List (List Nat)),Txt.split (tx t) (tx [32,124,32])=[catL 32 ws,p1,p2].map tx∧LnOk ws∧sP p1 ls∧p1.length≤900∧p2.length≤300∧ls.length≤100∧xx K c d H Q E ws p2 ls))
theorem mJ {K:PySem.W.Frag} {c:RCl RK} {d:RCl PzK} {vs:List V} {H:Hp} {Q:VK} {E:XK} (h:bg K c d vs H Q E):vs.length=1:=by
 obtain ⟨_,rfl,_⟩:=h; rfl
def dH (K:PySem.W.Frag) (c:RCl RK) (d:RCl PzK) (a:EA) (E:XK):TS:=
 (tSeq (tAsg (tMake (d.A .Puzzle) (aF K c d) [] E (tCons (tVar 2) (tCons (tVar 3) (tCons (tOp cRepL (tLst (tCons (tC (.int 0)) tNil)) (tCall (aN K) [] E0 (tCons (tVar 2) tNil))) tNil)))) (gName 4))
  (tRet (qP d d.ok "clued" (i3 K c d) E (tVar 4) (tCons (tCall (bF K) [] E (tCons (tVar 2) (tCons (tOp cIx (tVar 1) (tC (.int 2))) tNil))) tNil))))
def g5 (K:PySem.W.Frag) (c:RCl RK) (d:RCl PzK) (a:EA) (E:XK):TS:=
 (tSeq (tAsg (tIf (tTest (tOp (cNe K) (tOp cIx (tVar 1) (tC (.int 1))) (tC (.str (tx []))))) (tBM K "str" fR (tOp cIx (tVar 1) (tC (.int 1))) (tCons (tC (.str (tx [59,32]))) tNil)) (tLst tNil)) (gName 3))
  (dH K c d a E))
def dt (K:PySem.W.Frag) (c:RCl RK) (d:RCl PzK) (a:EA) (E:XK):TS:=
 (tSeq (tDrop (tCall (bz K) [] E (tCons (tVar 0) tNil)))
  (tSeq (tAsg (tBM K "str" fR (tVar 0) (tCons (tC (.str (tx [32,124,32]))) tNil)) (gName 1))
  (tSeq (tIfS (tTest (tOp (cNe K) (tCB kLen (tCons (tVar 1) tNil)) (tC (.int 3)))) (bc E a.NoText (tCons (tC (.str (tx [97,32,112,117,122,122,108,101,39,115,32,116,101,120,116,32,104,97,115,32,116,104,114,101,101,32,112,97,114,116,115]))) tNil)) tNext)
  (tSeq (tAsg (tCall (bU K) [] E (tCons (tOp cIx (tVar 1) (tC (.int 0))) tNil)) (gName 2))
  (g5 K c d a E)))))
theorem xo (k:Nat):(List.replicate k [V.int 0]).flatten=(List.replicate k (0:Int)).map V.int:=by
 rw [List.map_replicate]
 induction k with
 | zero=>rfl
 | succ n ih=>rw [List.replicate_succ,List.flatten_cons,ih,List.replicate_succ]; rfl
section
variable {o1 o2 o3 o4 o5:List Addr} {K:PySem.W.Frag} {c:RCl RK} {d:RCl PzK} {a:EA} {vs:List V} {H:Hp} {Q:VK} {E:XK} (RF:ak K a "NoFloor" a.NoFloor o1) (RL:ak K a "NoRule" a.NoRule o2) (RP:ak K a "NoPuzzle" a.NoPuzzle o3) (RT:ak K a "NoText" a.NoText o4) (RN:ak K a "NoFilling" a.NoFilling o5)
theorem g6 {U p A:Addr} {h w g:Int} {p0 p1 p2:List Nat} {ls:List (List Nat)} {os:List (Option L2.RR)} {v0:Option V} (F:FlOk h w g) (ok:d.ok .Puzzle=true) (hc:∀ k,k≠.Rule→c.ok k=true) (eU:H U=some (.lst (([p0,p1,p2].map tx).map V.str))) (ep:IsFl H p h w g) (eA:H A=some (.lst (lsV ls))) (hls:ls.length≤100) (hp2:p2.length≤300)
  (L:∀ H,Lns H h w g (lsV ls) os) (qN:12 < ls.length→bO K "NoPuzzle" H E) (qR:ls.length≤12→none∈os→bO K "NoRule" H E)
  (q:ls.length≤12→∀ rows:List L2.RR,os=rows.map some→(¬ GoodL h.toNat w.toNat g p2→bO K "NoFilling" H E)∧(GoodL h.toNat w.toNat g p2→∀ P L G H',Same H H'→IsPz H' c d P L G h w g rows (resL p2)→Q (.ref P) H')):
  dH K c d a E { nx:=fun _ H'=>Q .non H',rt:=Q } [v0,some (.ref U),some (.ref p),some (.ref A),none] H:=by
 obtain ⟨h0,h1,w0,w1,m16,g0,g1⟩:=id F
 have mpos:0≤h*w:=Int.mul_nonneg (by omega) (by omega)
 have lv:(lsV ls).length=ls.length:=by simp [lsV]
 unfold dH
 walk_at "w"
 refine ⟨aq (by show (1:Nat)≤1000; decide),fun Z hZ=>?_⟩
 have s1:Same H (upd H Z (.lst [V.int 0])):=(Same.refl H).laid hZ
 have eZ:(upd H Z (.lst [V.int 0])) Z=some (.lst [V.int 0]):=af
 generalize upd H Z (.lst [V.int 0])=H1 at*
 refine ⟨p,h,w,g,rfl,s1 _ _ ep,h0,h1,?_⟩
 refine wB eZ mpos (by omega) (by simp) fun B hB=>?_
 rw [xo]
 have s2:Same H1 (upd H1 B (.lst ((List.replicate (h*w).toNat (0:Int)).map V.int))):=(Same.refl H1).laid hB
 have eB:(upd H1 B (.lst ((List.replicate (h*w).toNat (0:Int)).map V.int))) B=some (.lst ((List.replicate (h*w).toNat (0:Int)).map V.int)):=af
 generalize upd H1 B (.lst ((List.replicate (h*w).toNat (0:Int)).map V.int))=H2 at*
 have s12:=s1.trans s2
 have C0:CluesOk h w g (List.replicate (h*w).toNat (0:Int)):=⟨by simp,fun x hx=>by rw [List.eq_of_mem_replicate hx]; omega⟩
 walk_at "w"
 refine Mk20.mk' (h:=h) (w:=w) (g:=g) (xs:=lsV ls) (os:=os) (cl:=List.replicate (h*w).toNat (0:Int)) ⟨ok,s12 _ _ ep,s12 _ _ eA,eB,by omega,by simp; omega,hc,fun _=>L _,fun z=>absurd F z,fun _ z C hC H' s'=>qN (by omega) C hC H' (s12.trans s'),fun _ z1 z2 C hC H' s'=>qR (by omega) z2 C hC H' (s12.trans s'),fun _ z=>absurd C0 z,fun rows _ _ z1 eo P L G H3 s3 hP hL hG X=>?_⟩
 obtain ⟨dx,pp,rs,e1,e2,e3⟩:=id X.ex
 obtain ⟨qn,qg⟩:=q (by omega) rows eo
 have s13:=s12.trans s3
 walk_at "w"
 refine ⟨P,.Puzzle,dx,_,rfl,X.ok,e1,by rfl,?_⟩
 walk_at "w"
 refine ixL (s13 _ _ eU) (v:=V.str (tx p2)) (aG (j:=2) rfl) ?_
 walk_at "w"
 refine ⟨p,h,w,g,_,rfl,s13 _ _ ep,F,.inl ⟨p2,rfl,hp2⟩,fun l el G0 B2 H4 s4 hB2 eB2=>?_,fun z C H4 hC s4=>qn (fun gl=>z ⟨p2,rfl,gl⟩) C hC H4 (s13.trans s4)⟩
 have el2:=ji (V.str.inj el)
 subst el2
 have Cg:=sO F G0
 have hlr:(resL p2).length≤100:=by have:=Cg.len; omega
 walk_at "w"
 refine ⟨P,L,G,B2,h,w,g,rows,_,resL p2,rfl,X.same s4,hc,eB2,hlr,fun z=>absurd Cg z,fun _ P' L' G' H5 s5 _ _ _ X5=>qg G0 P' L' G' H5 ((s13.trans s4).trans s5) X5⟩
include RF RL RP RT RN
theorem mK (h:bg K c d vs H Q E):dt K c d a E { nx:=fun _ H'=>Q .non H',rt:=Q } (start ["text","parts","floor","lines","bare"] vs) H:=by
 obtain ⟨t,rfl,ht,ok,hc,h⟩:=h
 show dt K c d a E _ [some (.str (tx t)),none,none,none,none] H
 unfold dt
 walk_at "w"
 refine ⟨_,rfl,?_⟩
 walk_at "w"
 refine ⟨fA,?_⟩
 have three:∀ ps:List (List Nat),Txt.split (tx t) (tx [32,124,32])=ps.map tx→ps.length≤900→∀ R:VK,(∀ U,H U=none→R (.ref U) (upd H U (.lst ((ps.map tx).map V.str))))→fR (.str (tx t)) [.str (tx [32,124,32])] H R:=fun ps hsp hl R k=>by
  rw [i6,hsp]
  exact ⟨by rw [ay]; decide,by rw [ay]; exact aq (by omega),by rw [List.length_map]; exact aq (by omega),k⟩
 rcases h with ⟨ps,hsp,hl,hne,q⟩ | ⟨ws,p1,p2,ls,hsp,L,P1,l1,l2,l3,X⟩
 · refine three ps hsp hl _ fun U hU=>?_
   have s1:Same H (upd H U (.lst ((ps.map tx).map V.str))):=(Same.refl H).laid hU
   have eU:(upd H U (.lst ((ps.map tx).map V.str))) U=some (.lst ((ps.map tx).map V.str)):=af
   generalize upd H U (.lst ((ps.map tx).map V.str))=H1 at*
   rw [aO]
   walk_at "w"
   rw [ip eU,List.length_map,List.length_map]
   walk_at "w"
   rw [decide_eq_false (show ¬ ((ps.length:Nat):Int)=3 by omega)]
   refine iteT ?_
   rw [aP]
   walk_at "w"
   exact ⟨aq (by show (1:Nat)≤1000; decide),q _ RT.g _ s1⟩
 · refine three _ hsp (by simp) _ fun U hU=>?_
   have s1:Same H (upd H U (.lst (([catL 32 ws,p1,p2].map tx).map V.str))):=(Same.refl H).laid hU
   have eU:(upd H U (.lst (([catL 32 ws,p1,p2].map tx).map V.str))) U=some (.lst (([catL 32 ws,p1,p2].map tx).map V.str)):=af
   generalize upd H U (.lst (([catL 32 ws,p1,p2].map tx).map V.str))=H1 at*
   rw [aO]
   walk_at "w"
   rw [ip eU]
   walk_at "w"
   refine iteF ?_
   refine ixL eU (v:=V.str (tx (catL 32 ws))) (aG (j:=0) rfl) ?_
   walk_at "w"
   refine ⟨ws,rfl,L,fun z C hC H' s'=>X.nt z C hC H' (s1.trans s'),fun h w g ef=>⟨fun F p H2 s2 hp ep=>?_,fun nF C hC H' s'=>X.nf h w g ef nF C hC H' (s1.trans s')⟩⟩
   obtain ⟨os,Ls,qN,qR,q⟩:=X.ok h w g ef F
   have s12:=s1.trans s2
   unfold g5
   walk_at "w"
   refine ixL (s2 _ _ eU) (v:=V.str (tx p1)) (aG (j:=1) rfl) ?_
   walk_at "w"
   rw [kG]
   rcases P1 with ⟨e1,e2⟩ | ⟨n1,n2,e1,n3⟩
   · subst e1 e2
     rw [decide_eq_true rfl]
     walk_at "w"
     refine ⟨aq (by decide),fun A hA=>?_⟩
     have s3:Same H2 (upd H2 A (.lst [])):=(Same.refl H2).laid hA
     have s13:=s12.trans s3
     refine g6 F ok hc (s3 _ _ (s2 _ _ eU)) (s3 _ _ ep) (show (upd H2 A (.lst [])) A=some (.lst (lsV [])) from af) l3 l2 Ls (fun z C hC H' s'=>qN z C hC H' (s13.trans s')) (fun z1 z2 C hC H' s'=>qR z1 z2 C hC H' (s13.trans s')) fun z rows eo=>⟨fun g C hC H' s'=>(q z rows eo).1 g C hC H' (s13.trans s'),fun g P L G H' s' Y=>(q z rows eo).2 g P L G H' (s13.trans s') Y⟩
   · rw [decide_eq_false n1]
     walk_at "w"
     refine ixL (s2 _ _ eU) (v:=V.str (tx p1)) (aG (j:=1) rfl) ?_
     walk_at "w"
     refine ⟨fA,?_⟩
     have hs2:Txt.split (tx p1) (tx [59,32])=ls.map tx:=by rw [e1]; exact sM n2 n3
     rw [i6,hs2]
     refine ⟨by rw [ay]; decide,by rw [ay]; exact aq (by omega),by rw [List.length_map]; exact aq (by omega),fun A hA=>?_⟩
     have s3:Same H2 (upd H2 A (.lst ((ls.map tx).map V.str))):=(Same.refl H2).laid hA
     have s13:=s12.trans s3
     refine g6 F ok hc (s3 _ _ (s2 _ _ eU)) (s3 _ _ ep) (show (upd H2 A (.lst ((ls.map tx).map V.str))) A=some (.lst (lsV ls)) from af) l3 l2 Ls (fun z C hC H' s'=>qN z C hC H' (s13.trans s')) (fun z1 z2 C hC H' s'=>qR z1 z2 C hC H' (s13.trans s')) fun z rows eo=>⟨fun g C hC H' s'=>(q z rows eo).1 g C hC H' (s13.trans s'),fun g P L G H' s' Y=>(q z rows eo).2 g P L G H' (s13.trans s') Y⟩
end
abbrev uV (i:Nat):Str:=["NoText","NoFloor","NoPuzzle","NoRule","NoFilling"].getD i ""
def bq (a:EA):List Addr:=[a.NoRow,a.NoMove,a.NoText,a.NoPuzzle,a.NoRule,a.NoFilling]
def br (a:EA):List Addr:=[a.NoRow,a.NoMove,a.NoText,a.NoFloor,a.NoPuzzle,a.NoFilling]
def bt (a:EA):List Addr:=[a.NoRow,a.NoMove,a.NoText,a.NoFloor,a.NoRule,a.NoFilling]
def bu (a:EA):List Addr:=[a.NoRow,a.NoMove,a.NoFloor,a.NoPuzzle,a.NoRule,a.NoFilling]
def bv (a:EA):List Addr:=[a.NoRow,a.NoMove,a.NoText,a.NoFloor,a.NoPuzzle,a.NoRule]
inductive Due73 (t:List Nat):Nat→Prop
 | parts (ps:List (List Nat)):Txt.split (tx t) (tx [32,124,32])=ps.map tx→ps.length≤900→ps.length≠3→Due73 t 0
 | three (ws:List (List Nat)) (p1 p2:List Nat) (ls:List (List Nat)) (i:Nat):Txt.split (tx t) (tx [32,124,32])=[catL 32 ws,p1,p2].map tx→LnOk ws→sP p1 ls→p1.length≤900→p2.length≤300→ls.length≤100→i < 5→
   (flW ws=none→i=0)→(∀ h w g,flW ws=some (h,w,g)→¬ FlOk h w g→i=1)→
   (∀ h w g,flW ws=some (h,w,g)→FlOk h w g→∃ os:List (Option RR),(∀ H,Lns H h w g (lsV ls) os)∧(12 < ls.length→i=2)∧(ls.length≤12→none∈os→i=3)∧(ls.length≤12→∀ rows:List RR,os=rows.map some→¬ GoodL h.toNat w.toNat g p2∧i=4))→Due73 t i
theorem Due73.lt {t:List Nat} {i:Nat} (h:Due73 t i):i < 5:=by
 cases h with
 | parts=>decide
 | three _ _ _ _ _ _ _ _ _ _ _ h=>exact h
def aZ (K:PySem.W.Frag) (c:RCl RK) (d:RCl PzK):Sp:=fun vs H Q _=>∃ (t:List Nat) (i:Nat),vs=[.str (tx t),.int i]∧t.length≤900∧d.ok .Puzzle=true∧(∀ k,k≠.Rule→c.ok k=true)∧Due73 t i∧∀ H',Same H H'→Q (.bl true) H'
theorem lV {K:PySem.W.Frag} {c:RCl RK} {d:RCl PzK} {vs:List V} {H:Hp} {Q:VK} {E:XK} (h:aZ K c d vs H Q E):vs.length=2:=by
 obtain ⟨_,_,rfl,_⟩:=h; rfl
def cb (K:PySem.W.Frag) (c:RCl RK) (d:RCl PzK) (a:EA):TS:=
 (tSeq (tIfS (tOr (tTest (tOp rIsN (tVar 2) (tC .non))) (tOr (tB (tCB (kIsX K) (tCons (tVar 2) (tCons (tC (.ref a.NoRow)) tNil)))) (tB (tCB (kIsX K) (tCons (tVar 2) (tCons (tC (.ref a.NoMove)) tNil)))))) (tRet (tC (.bl false))) tNext)
  (tSeq (tAsg (tLst (tCons (tCB (kIsX K) (tCons (tVar 2) (tCons (tC (.ref a.NoText)) tNil))) (tCons (tCB (kIsX K) (tCons (tVar 2) (tCons (tC (.ref a.NoFloor)) tNil))) (tCons (tCB (kIsX K) (tCons (tVar 2) (tCons (tC (.ref a.NoPuzzle)) tNil))) tNil)))) (gName 4))
  (tSeq (tAsg (tOp cAdd (tVar 4) (tLst (tCons (tCB (kIsX K) (tCons (tVar 2) (tCons (tC (.ref a.NoRule)) tNil))) (tCons (tCB (kIsX K) (tCons (tVar 2) (tCons (tC (.ref a.NoFilling)) tNil))) tNil)))) (gName 4))
  (tRet (tAndV (tOp (cEq K) (tVar 4) (tComp [none,none,some 1] (io (tCons (tC (.int 5)) tNil)) (gName 1) tTrue (tOp (cEq K) (tVar 2) (tVar 1)))) (tCB (kIsX K) (tCons (tVar 2) (tCons (tC (.ty "ValueError")) tNil))))))))
def cY (K:PySem.W.Frag) (c:RCl RK) (d:RCl PzK) (a:EA):TS:=
 (tSeq (tAsg (tC .non) (gName 2))
  (tSeq (tTryE K (bg K c d) (tCons (tVar 0) tNil) (.ref a.ClueError) 3 (tAsg (tVar 3) (gName 2)))
  (cb K c d a)))
theorem wS {K:PySem.W.Frag} {H:Hp} {Q:VK} {p q:Addr} {xs ys:List Bool} (hp:H p=some (.lst (xs.map V.bl))) (hq:H q=some (.lst (ys.map V.bl))) (h:Q (.bl (decide (xs=ys))) H):cEq K (.ref p) (.ref q) H Q:=by
 show rEqD K (.ref p) (.ref q) H Q
 refine ⟨.list (xs.map PyData.bool),.list (ys.map PyData.bool),.lst (SqL.of hp) (.bls xs),.lst (SqL.of hq) (.bls ys),m6 xs,m6 ys,?_⟩
 rw [PyData.eqv,vA]
 exact h
section
variable {K:PySem.W.Frag} {c:RCl RK} {d:RCl PzK} {a:EA} {vs:List V} {H:Hp} {Q:VK} {E:XK}
theorem t9 {x C:Addr} {i:Nat} {b0 b1 b2 b3 b4:Bool} {v0:Option V} (Z:XIs K C) (ve:PySem.W.kitOne K (.ref C) (.type "ValueError")=some true) (nr:PySem.W.kitOne K (.ref C) (.ref a.NoRow)=some false) (nm:PySem.W.kitOne K (.ref C) (.ref a.NoMove)=some false)
  (k0:PySem.W.kitOne K (.ref C) (.ref a.NoText)=some b0) (k1:PySem.W.kitOne K (.ref C) (.ref a.NoFloor)=some b1) (k2:PySem.W.kitOne K (.ref C) (.ref a.NoPuzzle)=some b2) (k3:PySem.W.kitOne K (.ref C) (.ref a.NoRule)=some b3) (k4:PySem.W.kitOne K (.ref C) (.ref a.NoFilling)=some b4)
  (eb:[b0,b1,b2,b3,b4]=(List.range 5).map fun k=>decide (i=k)) (hx:H x=some (.ext (XO x C))) (q:∀ H',Same H H'→Q (.bl true) H'):cb K c d a { nx:=fun _ H'=>Q .non H',rt:=Q } [v0,some (.int i),some (.ref x),none,none] H:=by
 unfold cb
 rw [aM,aO]
 walk_at "w"
 rw [decide_eq_false (show ¬ V.ref x=V.non from fun e=>nomatch e)]
 refine iteF ?_
 refine j9 Z hx nr ⟨_,rfl,iteF ?_⟩
 refine j9 Z hx nm ⟨_,rfl,iteF ?_⟩
 walk_at "w"
 refine j9 Z hx k0 ?_
 refine j9 Z hx k1 ?_
 refine j9 Z hx k2 ?_
 refine ⟨aq (by show (3:Nat)≤1000; decide),fun l1 n1=>?_⟩
 have s1:Same H (upd H l1 (.lst [.bl b0,.bl b1,.bl b2])):=(Same.refl H).laid n1
 have e1:(upd H l1 (.lst [.bl b0,.bl b1,.bl b2])) l1=some (.lst (([b0,b1,b2]:List Bool).map V.bl)):=af
 generalize upd H l1 (.lst [.bl b0,.bl b1,.bl b2])=H1 at*
 have ex1:=s1 _ _ hx
 walk_at "w"
 refine j9 Z ex1 k3 ?_
 refine j9 Z ex1 k4 ?_
 refine ⟨aq (by show (2:Nat)≤1000; decide),fun l2 n2=>?_⟩
 have s2:Same H1 (upd H1 l2 (.lst [.bl b3,.bl b4])):=(Same.refl H1).laid n2
 have e2:(upd H1 l2 (.lst [.bl b3,.bl b4])) l2=some (.lst (([b3,b4]:List Bool).map V.bl)):=af
 generalize upd H1 l2 (.lst [.bl b3,.bl b4])=H2 at*
 refine gR (s2 _ _ e1) e2 (by simp) fun l3 n3=>?_
 have s3:Same H2 (upd H2 l3 (.lst (([b0,b1,b2]:List Bool).map V.bl++([b3,b4]:List Bool).map V.bl))):=(Same.refl H2).laid n3
 have e3:(upd H2 l3 (.lst (([b0,b1,b2]:List Bool).map V.bl++([b3,b4]:List Bool).map V.bl))) l3=some (.lst (([b0,b1,b2,b3,b4]:List Bool).map V.bl)):=af
 generalize upd H2 l3 (.lst (([b0,b1,b2]:List Bool).map V.bl++([b3,b4]:List Bool).map V.bl))=H3 at*
 have s13:=(s1.trans s2).trans s3
 have ex3:=s13 _ _ hx
 walk_at "w"
 refine ⟨_,rfl,by decide,by decide,?_⟩
 refine ir (fun _=>true) (fun k=>.bl (decide (i=k))) (by decide) ?_ ?_ ?_
 · intro k H4 R hk s4 k4
   exact k4 _ (Same.refl _)
 · intro k H4 Q4 hk hb s4 k4
   have q4:=k4 _ (Same.refl H4)
   show tOp (cEq K) _ _ [none,some (.int (0+(k:Int))),some (.int i)] H4 Q4
   walk_at "w"
   have ed:decide ((i:Int)=0+(k:Int))=decide (i=k):=by
    by_cases z:i=k
    · rw [decide_eq_true z,decide_eq_true (by omega)]
    · rw [decide_eq_false z,decide_eq_false (by omega)]
   rw [ed]
   exact q4
 · intro l H4 hl s4 el
   have el2:H4 l=some (.lst (((List.range 5).map fun k=>decide (i=k)).map V.bl)):=by
    rw [el,cc,List.map_map]; rfl
   refine wS (s4 _ _ e3) el2 ?_
   rw [decide_eq_true eb]
   refine ⟨_,rfl,iteT ?_⟩
   walk_at "w"
   exact wH Z (s4 _ _ ex3) ve (q _ (s13.trans s4))
theorem lW (RF:ak K a "NoFloor" a.NoFloor (bq a)) (RL:ak K a "NoRule" a.NoRule (br a)) (RP:ak K a "NoPuzzle" a.NoPuzzle (bt a)) (RT:ak K a "NoText" a.NoText (bu a)) (RN:ak K a "NoFilling" a.NoFilling (bv a)) (h:aZ K c d vs H Q E):
  cY K c d a { nx:=fun _ H'=>Q .non H',rt:=Q } (start ["_law_text","_law_due","_law_caught","e","_law_found"] vs) H:=by
 obtain ⟨t,i,rfl,ht,ok,hc,D,q⟩:=h
 show cY K c d a _ [some (.str (tx t)),some (.int i),none,none,none] H
 unfold cY
 walk_at "w"
 have hi:=D.lt
 refine ⟨fun v _ H'=>∃ C,v=.ref C∧Glb K (uV i) C∧Same H H',?_,?_⟩
 · walk_at "w"
   refine ⟨t,rfl,ht,ok,hc,?_⟩
   have pe:∀ j,i=j→bO K (uV j) H (fun v _ H'=>∃ C,v=.ref C∧Glb K (uV i) C∧Same H H'):=fun j e C hC H' s'=>⟨C,rfl,by rw [e]; exact hC,s'⟩
   cases D with
   | parts ps e1 e2 e3=>exact .inl ⟨ps,e1,e2,e3,pe 0 rfl⟩
   | three ws p1 p2 ls _ e1 L P1 l1 l2 l3 _ d0 d1 d2=>
    refine .inr ⟨ws,p1,p2,ls,e1,L,P1,l1,l2,l3,fun z=>pe 0 (d0 z),fun h w g z nF=>pe 1 (d1 h w g z nF),fun h w g z F=>?_⟩
    obtain ⟨os,Ls,dN,dR,dF⟩:=d2 h w g z F
    exact ⟨os,Ls,fun z=>pe 2 (dN z),fun z1 z2=>pe 3 (dR z1 z2),fun z1 rows eo=>⟨fun _=>pe 4 (dF z1 rows eo).2,fun gl=>absurd gl (dF z1 rows eo).1⟩⟩
 · rintro C H2 ⟨C',e,gC,s⟩
   cases e
   have fin:∀ {x:Addr} {b0 b1 b2 b3 b4:Bool},H2 x=none→XIs K C→PySem.W.kitOne K (.ref C) (.type "ValueError")=some true→PySem.W.kitOne K (.ref C) (.ref a.NoRow)=some false→PySem.W.kitOne K (.ref C) (.ref a.NoMove)=some false→
     PySem.W.kitOne K (.ref C) (.ref a.NoText)=some b0→PySem.W.kitOne K (.ref C) (.ref a.NoFloor)=some b1→PySem.W.kitOne K (.ref C) (.ref a.NoPuzzle)=some b2→PySem.W.kitOne K (.ref C) (.ref a.NoRule)=some b3→PySem.W.kitOne K (.ref C) (.ref a.NoFilling)=some b4→[b0,b1,b2,b3,b4]=(List.range 5).map (fun k=>decide (i=k))→
     cb K c d a { nx:=fun _ H'=>Q .non H',rt:=Q } [some (.str (tx t)),some (.int i),some (.ref x),none,none] (upd H2 x (.ext (XO x C))):=fun hx Z ve nr nm k0 k1 k2 k3 k4 eb=>
    t9 Z ve nr nm k0 k1 k2 k3 k4 eb af fun H' s'=>q H' ((s.laid hx).trans s')
   match i,hi with
   | 0,_=>
    obtain rfl:C=a.NoText:=Glb.eq gC RT.g
    refine ⟨RT.ex,fun x hx=>?_⟩
    walk_at "w"
    exact fin hx RT.xis RT.ve (RT.no _ (by simp [bu])) (RT.no _ (by simp [bu])) jm (RT.no _ (by simp [bu])) (RT.no _ (by simp [bu])) (RT.no _ (by simp [bu])) (RT.no _ (by simp [bu])) rfl
   | 1,_=>
    obtain rfl:C=a.NoFloor:=Glb.eq gC RF.g
    refine ⟨RF.ex,fun x hx=>?_⟩
    walk_at "w"
    exact fin hx RF.xis RF.ve (RF.no _ (by simp [bq])) (RF.no _ (by simp [bq])) (RF.no _ (by simp [bq])) jm (RF.no _ (by simp [bq])) (RF.no _ (by simp [bq])) (RF.no _ (by simp [bq])) rfl
   | 2,_=>
    obtain rfl:C=a.NoPuzzle:=Glb.eq gC RP.g
    refine ⟨RP.ex,fun x hx=>?_⟩
    walk_at "w"
    exact fin hx RP.xis RP.ve (RP.no _ (by simp [bt])) (RP.no _ (by simp [bt])) (RP.no _ (by simp [bt])) (RP.no _ (by simp [bt])) jm (RP.no _ (by simp [bt])) (RP.no _ (by simp [bt])) rfl
   | 3,_=>
    obtain rfl:C=a.NoRule:=Glb.eq gC RL.g
    refine ⟨RL.ex,fun x hx=>?_⟩
    walk_at "w"
    exact fin hx RL.xis RL.ve (RL.no _ (by simp [br])) (RL.no _ (by simp [br])) (RL.no _ (by simp [br])) (RL.no _ (by simp [br])) (RL.no _ (by simp [br])) jm (RL.no _ (by simp [br])) rfl
   | 4,_=>
    obtain rfl:C=a.NoFilling:=Glb.eq gC RN.g
    refine ⟨RN.ex,fun x hx=>?_⟩
    walk_at "w"
    exact fin hx RN.xis RN.ve (RN.no _ (by simp [bv])) (RN.no _ (by simp [bv])) (RN.no _ (by simp [bv])) (RN.no _ (by simp [bv])) (RN.no _ (by simp [bv])) (RN.no _ (by simp [bv])) jm rfl
end
end L2
namespace L2
open PySem PySem.Spec PyProof.Rows
end L2
namespace L2
open PySem PySem.Spec PyProof.Rows
local macro_rules | `(tactic| walk_at "w")=>`(tactic| (first | simp only [aM,if_true,if_false,Bool.false_eq_true,decide_true,decide_false,gn,gp,jG,fe,dm,gk,iC,gm,fb,iA,iB,eY,jD,fg,fh,fj,fk,fm,fo,fi,iD,iE,iF,iz,jF,Bool.not_true,Bool.not_false,eu,fV,bi,gs,w_c,jc,fW,eC,eD,eE,w_b,w_not,gt,jd,eF,eH,gu,gw,eI,je,eJ,gy,gz,jf,gA,dc,eK,eM,eP,cz,de,cA,cp,cq,bN,gB,gD,gE,gF,gG,gH,gI,gJ,gK,gL,gM,gN,jg,eQ,cr,eS,jh,eV,df,cu,gO,gP,eW,dw,eX,
 List.getElem?_cons_zero,List.getElem?_cons_succ,Option.some.injEq,exists_eq_left',exists_eq_left,List.set_cons_zero,List.set_cons_succ,bY,V.int.injEq,V.bl.injEq,V.ref.injEq,V.str.injEq,List.append_nil,List.nil_append,List.cons_append] | dsimp only | skip))
end L2
namespace L2
open PySem PySem.Spec PyProof.Rows
local macro_rules | `(tactic| walk_at "w")=>`(tactic| (first | simp only [aM,qH,kb,ge,jp,g9,hJ,kc,j8,jj,ka,if_true,if_false,Bool.false_eq_true,decide_true,decide_false,gn,gp,jG,fe,dm,gk,iC,gm,fb,iA,iB,eY,jD,fg,fh,fj,fk,fm,fo,fi,iD,iE,iF,iz,jF,Bool.not_true,Bool.not_false,eu,fV,bi,gs,w_c,jc,fW,eC,eD,eE,w_b,w_not,gt,jd,eF,eH,gu,gw,eI,je,eJ,gy,gz,jf,gA,dc,eK,eM,eP,cz,de,cA,cp,cq,bN,gB,gD,gE,gF,gG,gH,gI,gJ,gK,gL,gM,gN,jg,eQ,cr,eS,jh,eV,df,cu,gO,gP,eW,dw,eX,
 List.getElem?_cons_zero,List.getElem?_cons_succ,Option.some.injEq,exists_eq_left',exists_eq_left,List.set_cons_zero,List.set_cons_succ,bY,V.int.injEq,V.bl.injEq,V.ref.injEq,V.str.injEq,List.append_nil,List.nil_append,List.cons_append] | dsimp only | skip))
def lawCA (ns:List Int) (k:Int):Int:=if (ns.length:Int)=0 then (k*k*40692+7*k) % 2147483647 else
 if k < (ns.length:Int) then ns.getD (k % ns.length).toNat 0 % 2305843009213693951 else (ns.getD (k % ns.length).toNat 0 % 2305843009213693951*48271+k*k*40692) % 2305843009213693951
def aQ (K:PySem.W.Frag):Sp:=fun vs H Q _=>∃ (a:Addr) (ns:List Int) (k:Int),vs=[.ref a,.int k]∧SqL K H a (ns.map V.int)∧ns.length≤63∧0≤k∧k≤10000∧Q (.int (lawCA ns k)) H
theorem nK {K:PySem.W.Frag} {vs:List V} {H:Hp} {Q:VK} {E:XK} (h:aQ K vs H Q E):vs.length=2:=by
 obtain ⟨_,_,_,rfl,_⟩:=h; rfl
def dS (K:PySem.W.Frag):TS:=
 (tSeq (tIfS (tTest (tOp (cEq K) (tCB (kLenS K) (tCons (tVar 0) tNil)) (tC (.int 0)))) (tRet (tOp cMod (tOp cAdd (tOp cMul (tOp cMul (tVar 1) (tVar 1)) (tC (.int 40692))) (tOp cMul (tC (.int 7)) (tVar 1))) (tC (.int 2147483647)))) tNext)
  (tSeq (tAsg (tOp cMod (tOp (rIxL K) (tVar 0) (tOp cMod (tVar 1) (tCB (kLenS K) (tCons (tVar 0) tNil)))) (tC (.int 2305843009213693951))) (gName 2))
  (tSeq (tIfS (tTest (tOp (cCmp fun i j=>decide (i < j)) (tVar 1) (tCB (kLenS K) (tCons (tVar 0) tNil)))) (tRet (tVar 2)) tNext)
  (tRet (tOp cMod (tOp cAdd (tOp cMul (tVar 2) (tC (.int 48271))) (tOp cMul (tOp cMul (tVar 1) (tVar 1)) (tC (.int 40692)))) (tC (.int 2305843009213693951)))))))
theorem nM {K:PySem.W.Frag} {vs:List V} {H:Hp} {Q:VK} {E:XK} (h:aQ K vs H Q E):dS K { nx:=fun _ H'=>Q .non H',rt:=Q } (start ["_law_script","_law_k","_law_number_here"] vs) H:=by
 obtain ⟨a,ns,k,rfl,hS,hn,k0,k1,q⟩:=h
 have kk:k*k≤10000*10000:=Int.mul_le_mul k1 k1 k0 (by decide)
 have kk0:0≤k*k:=Int.mul_nonneg k0 k0
 show dS K _ [some (.ref a),some (.int k),none] H
 unfold dS
 rw [aM,aO]
 walk_at "w"
 refine ⟨a,_,rfl,.inl hS,?_⟩
 walk_at "w"
 rw [List.length_map]
 unfold lawCA at q
 by_cases hl:(ns.length:Int)=0
 · rw [if_pos hl] at q
   rw [decide_eq_true hl]
   refine iteT ⟨.inl ⟨by omega,by omega⟩,.inr ⟨by decide,by decide⟩,.inl ⟨by decide,by decide⟩,?_⟩
   walk_at "w"
   exact ⟨by decide,q⟩
 · rw [if_neg hl] at q
   rw [decide_eq_false hl]
   have hpos:0 < (ns.length:Int):=by omega
   refine iteF ⟨a,_,rfl,.inl hS,?_⟩
   walk_at "w"
   rw [List.length_map]
   have m0:=Int.emod_nonneg k (Int.ne_of_gt hpos)
   have m1:=Int.emod_lt_of_pos k hpos
   refine ⟨hpos,a,_,_,_,rfl,rfl,hS,uE m0 m1,?_⟩
   walk_at "w"
   refine ⟨by decide,?_⟩
   rw [aO]
   walk_at "w"
   refine ⟨a,_,rfl,.inl hS,?_⟩
   walk_at "w"
   rw [List.length_map]
   by_cases hk:k < (ns.length:Int)
   · rw [if_pos hk] at q
     rw [decide_eq_true hk]
     exact iteT q
   · rw [if_neg hk] at q
     rw [decide_eq_false hk]
     refine iteF ⟨.inr ⟨by decide,by decide⟩,.inl ⟨by omega,by omega⟩,.inr ⟨by decide,by decide⟩,?_⟩
     walk_at "w"
     exact ⟨by decide,q⟩
theorem flZ (a b c:Int):FlOk (1+a % 6) (1+b % (if 16 / (1+a % 6) < 6 then 16 / (1+a % 6) else 6)) (1+c % 6)∧0 < (if 16 / (1+a % 6) < 6 then 16 / (1+a % 6) else (6:Int)):=by
 have a0:=Int.emod_nonneg a (by decide:(6:Int)≠0)
 have a1:=Int.emod_lt_of_pos a (by decide:(0:Int) < 6)
 have c0:=Int.emod_nonneg c (by decide:(6:Int)≠0)
 have c1:=Int.emod_lt_of_pos c (by decide:(0:Int) < 6)
 have hh:1+a % 6=1∨1+a % 6=2∨1+a % 6=3∨1+a % 6=4∨1+a % 6=5∨1+a % 6=6:=by omega
 generalize 1+a % 6=h at*
 have key:∀ m:Int,1≤m→m≤6→h*m≤16→(if 16 / h < 6 then 16 / h else 6)=m→FlOk h (1+b % (if 16 / h < 6 then 16 / h else 6)) (1+c % 6)∧0 < (if 16 / h < 6 then 16 / h else (6:Int)):=fun m m0 m1 m2 e=>by
  have b0:=Int.emod_nonneg b (by omega:m≠0)
  have b1:=Int.emod_lt_of_pos b (by omega:0 < m)
  rw [e]
  refine ⟨⟨by omega,by omega,by omega,by omega,?_,by omega,by omega⟩,by omega⟩
  exact Int.le_trans (Int.mul_le_mul_of_nonneg_left (show 1+b % m≤m by omega) (by omega)) m2
 rcases hh with e | e | e | e | e | e <;> subst e
 · exact key 6 (by decide) (by decide) (by decide) rfl
 · exact key 6 (by decide) (by decide) (by decide) rfl
 · exact key 5 (by decide) (by decide) (by decide) rfl
 · exact key 4 (by decide) (by decide) (by decide) rfl
 · exact key 3 (by decide) (by decide) (by decide) rfl
 · exact key 2 (by decide) (by decide) (by decide) rfl
def bV (K:PySem.W.Frag):Sp:=fun vs H Q _=>∃ z:Int,vs=[.int z]∧∀ (p:Addr) (H':Hp) (h w g:Int),Same H H'→H p=none→IsFl H' p h w g→FlOk h w g→Q (.ref p) H'
theorem nN {K:PySem.W.Frag} {vs:List V} {H:Hp} {Q:VK} {E:XK} (h:bV K vs H Q E):vs.length=1:=by
 obtain ⟨_,rfl,_⟩:=h; rfl
def dU (K:PySem.W.Frag):TS:=
 (tSeq (tAsg (tOp cAdd (tC (.int 1)) (tOp cMod (tVar 0) (tC (.int 6)))) (gName 1))
  (tSeq (tAsg (tOp cAdd (tC (.int 1)) (tOp cMod (tOp cDiv (tVar 0) (tC (.int 6))) (tCB kMin (tCons (tC (.int 6)) (tCons (tOp cDiv (tC (.int 16)) (tVar 1)) tNil))))) (gName 2))
  (tRet (tTup (tCons (tVar 1) (tCons (tVar 2) (tCons (tOp cAdd (tC (.int 1)) (tOp cMod (tOp cDiv (tVar 0) (tC (.int 36))) (tC (.int 6)))) tNil)))))))
theorem nO {K:PySem.W.Frag} {vs:List V} {H:Hp} {Q:VK} {E:XK} (h:bV K vs H Q E):dU K { nx:=fun _ H'=>Q .non H',rt:=Q } (start ["_law_cell","_law_high","_law_wide"] vs) H:=by
 obtain ⟨z,rfl,q⟩:=h
 obtain ⟨F,hm⟩:=flZ z (z / 6) (z / 36)
 have:=F.h0
 have:=F.h1
 show dU K _ [some (.int z),none,none] H
 unfold dU
 walk_at "w"
 refine ⟨by decide,⟨by decide,by decide⟩,?_⟩
 walk_at "w"
 refine ⟨⟨by omega,by omega⟩,hm,?_⟩
 walk_at "w"
 refine ⟨⟨by decide,by decide⟩,by decide,aq (by show (3:Nat)≤1000; decide),fun p hp=>?_⟩
 exact q p _ _ _ _ ((Same.refl H).laid hp) hp af F
end L2
namespace L2
open PySem PySem.Builtin PySem.Builtin.Str
theorem ua {s A B:List Nat} {c j:Nat} (hj:s[j]? =some c) (hf:∀ i,i < j→s[i]? ≠some c) (hB:c∉B) (nb:∀ k,k < A.length→¬ StrLaws.At (tx (A++(s++B))) (tx s) (tx (A++(s++B))).length k) (f:Nat) (cuts:List Nat)
  (hc:StrLaws.ChainG (tx (A++(s++B))) (tx s) (tx (A++(s++B))).length 0 cuts f) (hn:∀ k,f≤k→¬ StrLaws.At (tx (A++(s++B))) (tx s) (tx (A++(s++B))).length k):StrLaws.partsFrom (tx (A++(s++B))) (tx s).length 0 cuts=[A,B].map tx:=by
 have hjl:=(List.getElem?_eq_some_iff.mp hj).1
 have here:StrLaws.At (tx (A++(s++B))) (tx s) (tx (A++(s++B))).length A.length:=at_iff.mpr ⟨by rw [List.length_append,List.length_append]; omega,by rw [List.drop_left,List.take_left]⟩
 match cuts,hc with
 | [],hc=>
  have ef:f=0:=hc
  exact absurd here (hn _ (by omega))
 | d::u,hc=>
  have hd:d=A.length:=by
   by_cases h1:d < A.length
   · exact absurd hc.2.1 (nb d h1)
   · by_cases h2:A.length < d
     · exact absurd here (hc.2.2.1 _ (by omega) h2)
     · omega
  subst hd
  have ih:=mG (x:=A++(s++B)) hj hf [B] (A.length+s.length) f u (by simp) (fun z hz=>by rw [List.mem_singleton.mp hz]; exact hB) (by rw [← List.drop_drop,List.drop_left,List.drop_left]; rfl) (by rw [List.length_append,List.length_append]; omega) (by have:=hc.2.2.2; rw [ay] at this; exact this) hn
  show strSub (tx (A++(s++B))) 0 A.length::StrLaws.partsFrom (tx (A++(s++B))) (tx s).length (A.length+(tx s).length) u=tx A::[B].map tx
  rw [ay] at ih ⊢
  rw [ih,qW,List.drop_zero,Nat.sub_zero,List.take_left]
theorem ub {s A B:List Nat} {c j:Nat} (hj:s[j]? =some c) (hf:∀ i,i < j→s[i]? ≠some c) (hk:PySem.Builtin.Str.strKind (tx s)≤1) (hB:c∉B) (nb:∀ k,k < A.length→¬ StrLaws.At (tx (A++(s++B))) (tx s) (tx (A++(s++B))).length k):Txt.split (tx (A++(s++B))) (tx s)=[A,B].map tx:=by
 have hjl:=(List.getElem?_eq_some_iff.mp hj).1
 obtain ⟨f,hG,hn⟩:=StrLaws.occ_tight (tx (A++(s++B))) (tx s) (by rw [ay]; omega)
 have key:=ua hj hf hB nb f _ hG hn
 unfold Txt.split
 split
 · rename_i hc
   rw [Bool.or_eq_true,decide_eq_true_eq,decide_eq_true_eq] at hc
   exfalso
   rcases hc with h | h
   · rw [ay,ay,List.length_append,List.length_append] at h
     omega
   · have:1≤PySem.Builtin.Str.strKind (tx (A++(s++B))):=by
      unfold PySem.Builtin.Str.strKind
      split
      · exact Nat.le_refl _
      · split <;> decide
     omega
 · split
   · rename_i he
     rw [List.isEmpty_iff.mp he] at key
     have:StrLaws.partsFrom (tx (A++(s++B))) (tx s).length 0 []=[tx (A++(s++B))]:=by
      show [strSub (tx (A++(s++B))) 0 (tx (A++(s++B))).length]=_
      rw [StrLaws.sub_whole]
     rw [← key,this]
   · rw [StrLaws.partsBetween_eq]
     exact key
theorem uc {hd p1 en:List Nat} (h1:124∉hd) (h2:124∉p1) (h3:124∉en) (hl:hd.getLast? ≠some 32):Txt.split (tx ((hd++124::p1)++([32,124,32]++en))) (tx [32,124,32])=[hd++124::p1,en].map tx:=by
 refine ub (s:=[32,124,32]) (c:=124) (j:=1) rfl (fun i hi=>(by
  have:i=0:=by omega
  rw [this]
  decide)) (by decide+kernel) h3 fun k hk hA=>?_
 have m0:=lH (c:=32) (j:=0) rfl hA
 have m1:=lH (c:=124) (j:=1) rfl hA
 rw [Nat.add_zero] at m0
 rw [List.length_append,List.length_cons] at hk
 by_cases c1:k+1 < hd.length
 · rw [List.append_assoc,List.getElem?_append_left c1] at m1
   exact h1 (List.mem_of_getElem? m1)
 · by_cases c2:k+1=hd.length
   · have hk2:k < hd.length:=by omega
     rw [List.append_assoc,List.getElem?_append_left hk2] at m0
     refine hl ?_
     rw [List.getLast?_eq_getElem?,show hd.length - 1=k by omega]
     exact m0
   · by_cases c3:k+1 < hd.length+(p1.length+1)
     · rw [List.getElem?_append_left (by rw [List.length_append,List.length_cons]; exact c3),List.getElem?_append_right (by omega)] at m1
       obtain ⟨m,em⟩:∃ m,k+1 - hd.length=m+1:=⟨k+1 - hd.length - 1,by omega⟩
       rw [em,List.getElem?_cons_succ] at m1
       exact h2 (List.mem_of_getElem? m1)
     · have ek:k+1=hd.length+(p1.length+1):=by omega
       rw [List.getElem?_append_right (by rw [List.length_append,List.length_cons]; omega),List.length_append,List.length_cons,ek,Nat.sub_self] at m1
       simp at m1
end L2
namespace L2
open PySem PySem.Spec PyProof.Rows
section
variable {prog:Program} {w:World} {A:Around} {E:Value→Shared→Prop}
theorem px {it t:Addr} {items:Array Value} (hne:t≠it):∀ (n i:Nat) (s:Shared) (Q:List Value→Shared→Prop),s.heap.IsListIter it t i→s.heap.IsList t items→i+n≤items.size→
  (∀ h',h'.IsListIter it t (i+n)→Heap.SameBut it s.heap h'→Q ((items.toList.drop i).take n) { s with heap:=h' })→wpAny (model prog w) A (draw (.ref it) n) Q E s
 | 0,i,s,Q,hit,_,_,hQ=>by
  show wpAny _ _ (pure []) Q E s
  exact wpAny_pure (by simpa using hQ s.heap hit (Heap.SameBut.refl ..))
 | n+1,i,s,Q,hit,ht,hle,hQ=>by
  have hlt:i < items.size:=by omega
  show wpAny _ _ (pyNext (.ref it) >>= _) Q E s
  refine wpAny_bind (wpAny_pyNext_list_item hit ht (x:=items[i]) (by simp [hlt]) fun h₁ hit₁ hs₁=>?_)
  refine wpAny_bind (wpAny_holding (px hne n (i+1) _ _ hit₁ (ht.extBut hs₁.extBut hne) (by omega) fun h₂ hit₂ hs₂=>wpAny_pure ?_))
  have hd:items.toList.drop i=items[i]::items.toList.drop (i+1):=by simp [List.drop_eq_getElem_cons,hlt]
  have:=hQ h₂ (by rw [show i+(n+1)=i+1+n by omega]; exact hit₂) (hs₁.trans hs₂)
  rw [hd,List.take_succ_cons] at this
  exact this
theorem mL {s:Shared} {t:Addr} {items:Array Value} {Q:List Value→Shared→Prop} (hh:A.handled=none) (ht:s.heap.IsList t items)
  (hQ:∀ h',Heap.ExtBut s.heap.objs.size s.heap h'→Q items.toList { s with heap:=h' }):wpAny (model prog w) A (unpackItems (.ref t) items.size none) Q E s:=by
 have hlt:t≠s.heap.objs.size:=by obtain ⟨o,ho,_⟩:=ht; exact Nat.ne_of_lt (Heap.lt_size ho)
 unfold unpackItems
 refine wpAny_bind ?_
 · unfold notIterableAtAll
   refine wpAny_bind (wpAny_specialOf ht.typeIs PySem.slot_list_iter.lookup ?_)
   refine wpAny_pure ?_
   simp only [Bool.false_eq_true,if_false]
   refine wpAny_bind (wpAny_holding (wpAny_pyIter_list ht ?_))
   refine wpAny_bind (wpAny_holding (px hlt items.size 0 _ _ ⟨_,Heap.get?_push_size _ rfl,rfl,rfl⟩ (ht.push _) (by omega) fun h₁ hit₁ hs₁=>?_))
   have hall:List.take items.size (List.drop 0 items.toList)=items.toList:=by
    rw [List.drop_zero]; exact List.take_of_length_le (by simp)
   rw [hall]
   rw [if_neg (by simp)]
   have ht₁:h₁.IsList t items:=(ht.push _).extBut hs₁.extBut hlt
   refine wpAny_bind (wpAny_holding (wpAny_pyNext_list_end hh hit₁ ht₁ (by simp) fun h₂ he₂=>?_))
   simp only [Option.isSome_none,Bool.false_eq_true,if_false]
   refine wpAny_pure (hQ h₂ fun b o hb e=>he₂ b o hb (hs₁.extBut b o hb (Heap.get?_push_of_some _ e)))
theorem lX {s:Shared} {env:Env} {elts:List Expr} {x1} {pos:Pos} {t:Addr} {items:Array Value} {Q:Unit→Shared→Prop} (hh:A.handled=none) (ht:s.heap.IsList t items)
  (hn:(assignEach elts env).length=items.size) (hstar:(assignEach elts env).findIdx? (·.1)=none)
  (h:∀ h',Heap.ExtBut s.heap.objs.size s.heap h'→wpAny (model prog w) A (assignInOrder ((assignEach elts env).map (·.2)) items.toList) Q E { s with heap:=h' }):
  wpAny (model prog w) A (assign (.Tuple elts x1 pos) env (.ref t)) Q E s:=by
 rw [assign_Tuple]
 refine wpAny_bind (wpAny_standAt ?_)
 unfold unpack
 rw [hn,hstar]
 exact wpAny_bind (wpAny_holding (mL hh ht h))
end
section
variable {X:Cx} {pos:Pos}
def gLst (K:PySem.W.Frag) (n:Nat) (t:TGs):TG:=fun v σ H Q=>∃ a xs,v=.ref a∧SqL K H a xs∧xs.length=n∧t xs σ H Q
theorem wT {es:List Expr} {k:Nat} {t:TGs} {n:Nat} (hc:X.calm=true) (h:PGs X es t)
  (hn:(assignEach es X.env).length=n:=by rfl) (hst:(assignEach es X.env).findIdx? (·.1)=none:=by rfl):PG X (.Tuple es k pos) (gLst X.K n t):=by
 intro pins s σ H v u Q I r hw
 obtain ⟨a,xs,e1,hq,hl,hw⟩:=hw
 subst e1
 cases r
 obtain ⟨its,rv,⟨o,m,ho,hc1,_,hd⟩,hz⟩:=I.list hq
 refine lX (I.ok.hd hc) ⟨o,ho,hc1,m,hd⟩ (by simp [hn,← hl,rv.length]) hst fun h' hx=>?_
 have I1:Inv X pins σ H { s with heap:=h' }:=I.kept (t':=s.toks) fun b o e=>hx b o (Nat.ne_of_lt (Heap.lt_size e)) e
 exact h pins _ σ H xs _ Q I1 (by simpa using rv) hw
theorem wU {K:PySem.W.Frag} {n:Nat} {t:TGs} {a:Addr} {xs:List V} {σ:St} {H:Hp} {Q:St→Hp→Prop} (h:H a=some (.lst xs)) (hn:xs.length=n) (q:t xs σ H Q):gLst K n t (.ref a) σ H Q:=⟨a,xs,rfl,SqL.of h,hn,q⟩
end
end L2
namespace L2
open PySem PySem.Spec PyProof.Rows
local macro_rules | `(tactic| walk_at "w")=>`(tactic| (first | simp only [aM,lF,lE,kb,ge,jp,g9,hJ,kc,j8,jj,ka,if_true,if_false,Bool.false_eq_true,decide_true,decide_false,gn,gp,jG,fe,dm,gk,iC,gm,fb,iA,iB,eY,jD,fg,fh,fj,fk,fm,fo,fi,iD,iE,iF,iz,jF,Bool.not_true,Bool.not_false,eu,fV,bi,gs,w_c,jc,fW,eC,eD,eE,w_b,w_not,gt,jd,eF,eH,gu,gw,eI,je,eJ,gy,gz,jf,gA,dc,eK,eM,eP,cz,de,cA,cp,cq,bN,gB,gD,gE,gF,gG,gH,gI,gJ,gK,gL,gM,gN,jg,eQ,cr,eS,jh,eV,df,cu,gO,gP,eW,dw,eX,
 List.getElem?_cons_zero,List.getElem?_cons_succ,Option.some.injEq,exists_eq_left',exists_eq_left,List.set_cons_zero,List.set_cons_succ,bY,V.int.injEq,V.bl.injEq,V.ref.injEq,V.str.injEq,List.append_nil,List.nil_append,List.cons_append] | dsimp only | skip))
theorem nP {K:PySem.W.Frag} {H:Hp} {p:Addr} {cs:List Nat} {fin:Addr→Hp→Prop} (hp:H p=some (.tup ((cs.map fun (n:Nat)=>(n:Int)).map V.int))) (hl:cs.length≤100) (hc:∀ c∈cs,c < 100)
  (hd:∀ l H',H l=none→Same H H'→H' l=some (.lst (((cs.map numC).map tx).map V.str))→fin l H'):CompR (Itt K p) (gName 1) tTrue (tCB kStr (tCons (tVar 1) tNil)) fin [none,none] H:=by
 refine uK (xs:=(cs.map fun (n:Nat)=>(n:Int)).map V.int) (fun l i σ H'=>(σ=[none,none]∨∃ cv,σ=([none,none]:St).set 1 cv)∧Same H H'∧H' l=some (.lst ((((cs.take i).map numC).map tx).map V.str))) (fun l hl=>⟨.inl rfl,(Same.refl H).laid hl,by rw [af]; rfl⟩) (fun l i σ H' _ _ q=>SqT.of (q.2.1 _ _ hp)) ?_ (fun l σ H' hl q=>hd l H' hl q.2.1 (by have:=q.2.2; rw [List.length_map,List.length_map,List.take_length] at this; exact this))
 rintro l i x σ H2 hl2 hx ⟨hσ,s1,el⟩
 obtain ⟨z,hz,rfl⟩:=jL hx
 rw [List.getElem?_map] at hz
 cases e:cs[i]? with
 | none=>rw [e] at hz; cases hz
 | some n=>
  rw [e] at hz
  cases hz
  have et:cs.take (i+1)=cs.take i++[n]:=by rw [List.take_succ,e]; rfl
  rw [bi]
  have e2:σ.set 1 (some (.int (n:Int)))=[none,some (.int (n:Int))]:=by
   rcases hσ with rfl | ⟨cv,rfl⟩
   · rfl
   · rfl
  rw [e2,dc,if_pos rfl]
  walk_at "w"
  have hcn:=hc n (List.mem_of_getElem? e)
  rw [ow hcn]
  refine ⟨j2 hcn,_,el,by simp; exact aS (by omega),.inr ⟨_,rfl⟩,s1.own hl2,?_⟩
  rw [af,et]
  simp
theorem vU (xs:List V) {k:Nat} (h:k≤xs.length):cutV xs (some (k:Int)) none=xs.drop k:=by
 unfold cutV
 rw [HT.sIx_nat,HT.sIx_none,Nat.min_eq_left h,List.take_of_length_le (by rw [List.length_drop]; exact Nat.le_refl _)]
instance (w:List Nat) (n:Nat):Decidable (IntW w n):=by unfold IntW; infer_instance
def wdB (w:List Nat):Bool:=decide (w.length≤100)&&w.all (fun c=>decide (c < 128))&&(match numW w with | none=>true | some n=>decide (IntW w n))&&!decide (32∈w)
theorem ud {w:List Nat} (h:wdB w=true):WdOk w∧32∉w:=by
 unfold wdB at h
 simp only [Bool.and_eq_true,decide_eq_true_eq,Bool.not_eq_true',decide_eq_false_iff_not] at h
 refine ⟨⟨h.1.1.1,fun c hc=>by have:=List.all_eq_true.mp h.1.1.2 c hc; simpa using this,fun n e=>?_⟩,h.2⟩
 have:=h.1.2
 rw [e] at this
 simpa using this
theorem LnOk.of {ws:List (List Nat)} (ne:ws≠[]) (len:ws.length≤100) (h:ws.all wdB=true):LnOk ws:=⟨ne,len,fun w hw=>(ud (List.all_eq_true.mp h w hw)).2,fun w hw=>(ud (List.all_eq_true.mp h w hw)).1⟩
theorem fS {i:Int} (h0:0≤i) (h1:i < 100):Str.ofString (toString i)=tx (numC i.toNat):=by
 have:=ow (n:=i.toNat) (by omega)
 rw [Int.toNat_of_nonneg h0] at this
 exact this
theorem bH {H:Hp} {l:Addr} {o:HO} {M:Hp→Prop} (n:H l=none) (h:∀ H',Same H H'→H' l=some o→M H'):M (upd H l o):=h _ ((Same.refl H).laid n) af
theorem wV {H0 H:Hp} {l:Addr} {o:HO} {M:Hp→Prop} (s:Same H0 H) (n:H0 l=none) (h:∀ H',Same H0 H'→H' l=some o→M H'):M (upd H l o):=h _ (s.own n) af
theorem cQ {a b:List Nat} (h:a.length+b.length≤1000):(tx a).length+(tx b).length≤sizeLine:=by rw [ay,ay]; exact aq h
theorem vV {i j k:Nat} {x y z:V} {H:Hp} {σ:St} {q:St→Hp→Prop} (h:q (((σ.set i (some x)).set j (some y)).set k (some z)) H):gCons (gName i) (gCons (gName j) (gCons (gName k) gNil)) [x,y,z] σ H q:=⟨x,_,rfl,y,_,rfl,z,_,rfl,rfl,h⟩
def kl (a b c:List Nat):List (List (List Nat)):=[[48::a,b,c],[a,[49,48,48,48,48,48,48,48,48,49],c],[a,b,[45,49]],[a,b],[a,b,c,[49]],[a,[],b,c],[a,b,[120]]]
def km (a b c:List Nat):List (List (List Nat)):=[[[55],[49],c],[[48],[49],c],[[49],[48],c],[[54],[51],c],[[51],[54],[49]],[a,b,[48]],[a,b,[55]],[[49],[55],[50]],[[57,57,57,57,57,57,57,57,57],[49],[49]],[[52],[53],[54]]]
structure HdOk (ws:List (List Nat)):Prop where
 ln:LnOk ws
 bar:124∉catL 32 ws
 last:(catL 32 ws).getLast? ≠some 32
 len:(catL 32 ws).length≤60
def hdB (ws:List (List Nat)):Bool:=!decide (ws=[])&&decide (ws.length≤100)&&ws.all wdB&&!decide (124∈catL 32 ws)&&!decide ((catL 32 ws).getLast? =some 32)&&decide ((catL 32 ws).length≤60)
theorem qY {ws:List (List Nat)} (h:hdB ws=true):HdOk ws:=by
 unfold hdB at h
 simp only [Bool.and_eq_true,decide_eq_true_eq,Bool.not_eq_true',decide_eq_false_iff_not] at h
 exact ⟨LnOk.of h.1.1.1.1.1 h.1.1.1.1.2 h.1.1.1.2,h.1.1.2,h.1.2,h.2⟩
def flB (x:Int × Int × Int):Bool:=decide (1≤x.1)&&decide (x.1≤6)&&decide (1≤x.2.1)&&decide (x.2.1≤6)&&decide (x.1*x.2.1≤16)&&decide (1≤x.2.2)&&decide (x.2.2≤6)
theorem wW {h w g:Int}:FlOk h w g→flB (h,w,g)=true:=fun ⟨h0,h1,w0,w1,m,g0,g1⟩=>by simp [flB,h0,h1,w0,w1,m,g0,g1]
theorem qZ {h w g:Int} (F:FlOk h w g):(∀ ws∈kl (numC h.toNat) (numC w.toNat) (numC g.toNat),HdOk ws∧flW ws=none)∧(∀ ws∈km (numC h.toNat) (numC w.toNat) (numC g.toNat),HdOk ws∧∃ h' w' g',flW ws=some (h',w',g')∧¬ FlOk h' w' g')∧
  HdOk [numC h.toNat,numC w.toNat,numC g.toNat]∧flW [numC h.toNat,numC w.toNat,numC g.toNat]=some (h,w,g):=by
 obtain ⟨h0,h1,w0,w1,m16,g0,g1⟩:=F
 have t:((List.range 7).all fun (h:Nat)=>(List.range 7).all fun (w:Nat)=>(List.range 7).all fun (g:Nat)=>decide (h=0)||decide (w=0)||decide (g=0)||
   (((kl (numC h) (numC w) (numC g)).all fun ws=>hdB ws&&(flW ws).isNone)&&((km (numC h) (numC w) (numC g)).all fun ws=>hdB ws&&(match flW ws with | none=>false | some x=>!flB x))&&hdB [numC h,numC w,numC g]&&decide (flW [numC h,numC w,numC g]=some ((h:Int),(w:Int),(g:Int)))))=true:=by decide+kernel
 have t1:=List.all_eq_true.mp (List.all_eq_true.mp (List.all_eq_true.mp t h.toNat (List.mem_range.mpr (by omega))) w.toNat (List.mem_range.mpr (by omega))) g.toNat (List.mem_range.mpr (by omega))
 have eh:((h.toNat:Nat):Int)=h:=Int.toNat_of_nonneg (by omega)
 have ew:((w.toNat:Nat):Int)=w:=Int.toNat_of_nonneg (by omega)
 have eg:((g.toNat:Nat):Int)=g:=Int.toNat_of_nonneg (by omega)
 rw [eh,ew,eg,decide_eq_false (show ¬ h.toNat=0 by omega),decide_eq_false (show ¬ w.toNat=0 by omega),decide_eq_false (show ¬ g.toNat=0 by omega),Bool.false_or,Bool.false_or,Bool.false_or,Bool.and_eq_true,Bool.and_eq_true,Bool.and_eq_true,decide_eq_true_eq] at t1
 refine ⟨fun ws hw=>?_,fun ws hw=>?_,qY t1.1.2,t1.2⟩
 · have:=List.all_eq_true.mp t1.1.1.1 ws hw
   rw [Bool.and_eq_true] at this
   exact ⟨qY this.1,by simpa using this.2⟩
 · have:=List.all_eq_true.mp t1.1.1.2 ws hw
   rw [Bool.and_eq_true] at this
   refine ⟨qY this.1,?_⟩
   cases e:flW ws with
   | none=>rw [e] at this; exact absurd this.2 Bool.false_ne_true
   | some x=>
    obtain ⟨h',w',g'⟩:=x
    rw [e] at this
    refine ⟨h',w',g',rfl,fun F=>?_⟩
    have z:(!flB (h',w',g'))=true:=this.2
    rw [wW F] at z
    exact absurd z (by decide)
abbrev hdV (ws:List (List Nat)):V:=.str (tx (catL 32 ws))
def cj (K:PySem.W.Frag):Sp:=fun vs H Q _=>∃ (p:Addr) (h w g x:Int),vs=[.int x,.ref p]∧IsFl H p h w g∧FlOk h w g∧
 ∀ T ws (e:Nat) H',Same H H'→H' T=some (.tup [hdV ws,.int e])→((e=0∧ws∈kl (numC h.toNat) (numC w.toNat) (numC g.toNat))∨(e=1∧ws∈km (numC h.toNat) (numC w.toNat) (numC g.toNat)))→Q (.ref T) H'
theorem oI {K:PySem.W.Frag} {vs:List V} {H:Hp} {Q:VK} {E:XK} (h:cj K vs H Q E):vs.length=2:=by
 obtain ⟨_,_,_,_,_,rfl,_⟩:=h; rfl
def cZ (K:PySem.W.Frag):TS:=
 (tSeq (tIfS (tTest (tOp (cEq K) (tOp cMod (tVar 0) (tC (.int 2))) (tC (.int 0)))) (tRet (tTup (tCons (tOp cIx (tVar 5) (tOp cMod (tOp cDiv (tVar 0) (tC (.int 2))) (tC (.int 7)))) (tCons (tC (.int 0)) tNil)))) tNext)
  (tRet (tTup (tCons (tOp cIx (tVar 6) (tOp cMod (tOp cDiv (tVar 0) (tC (.int 2))) (tC (.int 10)))) (tCons (tC (.int 1)) tNil)))))
def c5 (K:PySem.W.Frag):TS:=
 (tSeq (tAsg (tOp cAdd (tVar 6) (tLst (tCons (tOp cAdd (tOp cAdd (tOp cAdd (tVar 2) (tC (.str (tx [32])))) (tVar 3)) (tC (.str (tx [32,55])))) (tCons (tC (.str (tx [49,32,55,32,50]))) (tCons (tC (.str (tx [57,57,57,57,57,57,57,57,57,32,49,32,49]))) (tCons (tC (.str (tx [52,32,53,32,54]))) tNil)))))) (gName 6))
  (cZ K))
def c6 (K:PySem.W.Frag):TS:=
 (tSeq (tAsg (tLst (tCons (tOp cAdd (tC (.str (tx [55,32,49,32]))) (tVar 4)) (tCons (tOp cAdd (tC (.str (tx [48,32,49,32]))) (tVar 4)) (tCons (tOp cAdd (tC (.str (tx [49,32,48,32]))) (tVar 4)) (tCons (tOp cAdd (tC (.str (tx [54,32,51,32]))) (tVar 4)) (tCons (tC (.str (tx [51,32,54,32,49]))) (tCons (tOp cAdd (tOp cAdd (tOp cAdd (tVar 2) (tC (.str (tx [32])))) (tVar 3)) (tC (.str (tx [32,48])))) tNil))))))) (gName 6))
  (c5 K))
def c8 (K:PySem.W.Frag):TS:=
 (tSeq (tDrop (tBM K "list" i5 (tVar 5) (tCons (tOp cAdd (tOp cAdd (tOp cAdd (tVar 2) (tC (.str (tx [32])))) (tVar 3)) (tC (.str (tx [32,120])))) tNil)))
  (c6 K))
def c9 (K:PySem.W.Frag):TS:=
 (tSeq (tAsg (tOp cAdd (tVar 5) (tLst (tCons (tOp cAdd (tOp cAdd (tVar 2) (tC (.str (tx [32])))) (tVar 3)) (tCons (tOp cAdd (tOp cAdd (tOp cAdd (tOp cAdd (tOp cAdd (tVar 2) (tC (.str (tx [32])))) (tVar 3)) (tC (.str (tx [32])))) (tVar 4)) (tC (.str (tx [32,49])))) (tCons (tOp cAdd (tOp cAdd (tOp cAdd (tOp cAdd (tVar 2) (tC (.str (tx [32,32])))) (tVar 3)) (tC (.str (tx [32])))) (tVar 4)) tNil))))) (gName 5))
  (c8 K))
def fK (K:PySem.W.Frag):TS:=
 (tSeq (tAsg (tLst (tCons (tOp cAdd (tOp cAdd (tOp cAdd (tOp cAdd (tOp cAdd (tC (.str (tx [48]))) (tVar 2)) (tC (.str (tx [32])))) (tVar 3)) (tC (.str (tx [32])))) (tVar 4)) (tCons (tOp cAdd (tOp cAdd (tVar 2) (tC (.str (tx [32,49,48,48,48,48,48,48,48,48,49,32])))) (tVar 4)) (tCons (tOp cAdd (tOp cAdd (tOp cAdd (tVar 2) (tC (.str (tx [32])))) (tVar 3)) (tC (.str (tx [32,45,49])))) tNil)))) (gName 5))
  (c9 K))
def fE (K:PySem.W.Frag):TS:=
 (tSeq (tAsg (tComp [none,none] (iTup K (tVar 1)) (gName 1) tTrue (tCB kStr (tCons (tVar 1) tNil))) (gLst K 3 (gCons (gName 2) (gCons (gName 3) (gCons (gName 4) gNil)))))
  (fK K))
theorem oJ {K:PySem.W.Frag} {vs:List V} {H:Hp} {Q:VK} {E:XK} (h:cj K vs H Q E):fE K { nx:=fun _ H'=>Q .non H',rt:=Q } (start ["_law_cell","_law_floor_here","_law_high","_law_wide","_law_signs","_law_some","_law_floors"] vs) H:=by
 obtain ⟨p,h,w,g,x,rfl,hp,F,q⟩:=h
 obtain ⟨h0,h1,w0,w1,m16,g0,g1⟩:=id F
 have lA:=dh (n:=h.toNat)
 have lB:=dh (n:=w.toNat)
 have lC:=dh (n:=g.toNat)
 show fE K _ [some (.int x),some (.ref p),none,none,none,none,none] H
 unfold fE
 walk_at "w"
 rw [rW]
 walk_at "w"
 have hpt:H p=some (.tup ((([h.toNat,w.toNat,g.toNat]:List Nat).map fun (n:Nat)=>(n:Int)).map V.int)):=by
  show H p=some (.tup [.int ((h.toNat:Nat):Int),.int ((w.toNat:Nat):Int),.int ((g.toNat:Nat):Int)])
  rw [Int.toNat_of_nonneg (by omega),Int.toNat_of_nonneg (by omega),Int.toNat_of_nonneg (by omega)]
  exact hp
 refine ⟨⟨_,SqT.of hpt⟩,?_⟩
 refine nP hpt (by simp) (fun c hc=>by simp at hc; omega) fun l H1 hl s1 el=>?_
 refine wU el (by rfl) ?_
 refine vV ?_
 generalize numC h.toNat=A at*
 generalize numC w.toNat=B at*
 generalize numC g.toNat=C at*
 have hp1:=s1 _ _ hp
 show fK K _ [some (.int x),some (.ref p),some (.str (tx A)),some (.str (tx B)),some (.str (tx C)),none,none] H1
 unfold fK
 walk_at "w"
 simp only [bb]
 iterate 10 (refine ⟨cQ (by simp only [List.length_append,List.length_cons,List.length_nil]; omega),?_⟩)
 refine ⟨aq (by show (3:Nat)≤1000; decide),fun l1 n1=>?_⟩
 refine bH (M:=fun H'=>c9 K _ _ H') n1 fun H2 s2 e2=>?_
 show c9 K _ _ H2
 unfold c9
 walk_at "w"
 simp only [bb]
 iterate 11 (refine ⟨cQ (by simp only [List.length_append,List.length_cons,List.length_nil]; omega),?_⟩)
 refine ⟨aq (by show (3:Nat)≤1000; decide),fun l2 n2=>?_⟩
 refine bH (M:=fun H'=>cAdd _ _ H' _) n2 fun H3 s3 e3=>?_
 refine gR (s3 _ _ e2) e3 (by simp) fun l3 n3=>?_
 refine bH (M:=fun H'=>c8 K _ _ H') n3 fun H4 s4 e4=>?_
 show c8 K _ _ H4
 unfold c8
 walk_at "w"
 simp only [bb]
 refine ⟨mm e4,?_⟩
 iterate 3 (refine ⟨cQ (by simp only [List.length_append,List.length_cons,List.length_nil]; omega),?_⟩)
 rw [qu e4]
 refine ⟨by simp only [List.length_append,List.length_cons,List.length_nil]; exact aS (by omega),?_⟩
 refine wV (M:=fun H'=>c6 K _ _ H') s4 n3 fun H5 s5 e5=>?_
 show c6 K _ _ H5
 unfold c6
 walk_at "w"
 simp only [bb]
 iterate 7 (refine ⟨cQ (by simp only [List.length_append,List.length_cons,List.length_nil]; omega),?_⟩)
 refine ⟨aq (by show (6:Nat)≤1000; decide),fun l4 n4=>?_⟩
 refine bH (M:=fun H'=>c5 K _ _ H') n4 fun H6 s6 e6=>?_
 show c5 K _ _ H6
 unfold c5
 walk_at "w"
 simp only [bb]
 iterate 3 (refine ⟨cQ (by simp only [List.length_append,List.length_cons,List.length_nil]; omega),?_⟩)
 refine ⟨aq (by show (4:Nat)≤1000; decide),fun l5 n5=>?_⟩
 refine bH (M:=fun H'=>cAdd _ _ H' _) n5 fun H7 s7 e7=>?_
 refine gR (s7 _ _ e6) e7 (by simp) fun l6 n6=>?_
 refine bH (M:=fun H'=>cZ K _ _ H') n6 fun H8 s8 e8=>?_
 show cZ K _ _ H8
 have s58:=(s6.trans s7).trans s8
 have s08:=(((s1.trans s2).trans s3).trans s5).trans s58
 have a5:H8 l3=some (.lst ((kl A B C).map hdV)):=by
  rw [s58 _ _ e5]
  simp [kl,hdV,catL]
 have a8:H8 l6=some (.lst ((km A B C).map hdV)):=by
  rw [e8]
  simp [km,hdV,catL]
 unfold cZ
 rw [aM,aO]
 walk_at "w"
 refine ⟨by decide,?_⟩
 by_cases c0:x % 2=0
 · rw [decide_eq_true c0]
   refine iteT ⟨(show CDiv x 2 from ⟨by decide,by decide⟩),by decide,?_⟩
   obtain ⟨j,ej,hj⟩:∃ j:Nat,x / 2 % 7=j∧j < 7:=⟨(x / 2 % 7).toNat,by omega,by omega⟩
   rw [ej]
   have hl7:(kl A B C).length=7:=rfl
   refine ixL a5 (v:=hdV ((kl A B C)[j]'(by omega))) (aG (by rw [List.getElem?_map,List.getElem?_eq_getElem (by omega)]; rfl)) ?_
   walk_at "w"
   refine ⟨aq (by show (2:Nat)≤1000; decide),fun T hT=>?_⟩
   exact q T _ 0 _ (s08.laid hT) af (.inl ⟨rfl,List.getElem_mem _⟩)
 · rw [decide_eq_false c0]
   refine iteF ?_
   walk_at "w"
   refine ⟨(show CDiv x 2 from ⟨by decide,by decide⟩),by decide,?_⟩
   obtain ⟨j,ej,hj⟩:∃ j:Nat,x / 2 % 10=j∧j < 10:=⟨(x / 2 % 10).toNat,by omega,by omega⟩
   rw [ej]
   have hl10:(km A B C).length=10:=rfl
   refine ixL a8 (v:=hdV ((km A B C)[j]'(by omega))) (aG (by rw [List.getElem?_map,List.getElem?_eq_getElem (by omega)]; rfl)) ?_
   walk_at "w"
   refine ⟨aq (by show (2:Nat)≤1000; decide),fun T hT=>?_⟩
   exact q T _ 1 _ (s08.laid hT) af (.inr ⟨rfl,List.getElem_mem _⟩)
theorem j4 {k:Bool} {H:Hp} {Q:VK}:lG [.bl k] H Q=Q (.int (if k then 1 else 0)) H:=rfl
def LC (l:List Nat):Prop:=l.length≤12∧59∉l∧124∉l∧∀ c∈l,c < 128
def lcB (l:List Nat):Bool:=decide (l.length≤12)&&!decide (59∈l)&&!decide (124∈l)&&l.all fun c=>decide (c < 128)
theorem q0 {l:List Nat} (h:lcB l=true):LC l:=by
 unfold lcB at h
 simp only [Bool.and_eq_true,decide_eq_true_eq,Bool.not_eq_true',decide_eq_false_iff_not] at h
 exact ⟨h.1.1.1,h.1.1.2,h.1.2,fun c hc=>by simpa using List.all_eq_true.mp h.2 c hc⟩
theorem Lns.app {H:Hp} {h w g:Int} {xs ys:List V} {os ps:List (Option RR)} (a:Lns H h w g xs os) (b:Lns H h w g ys ps):Lns H h w g (xs++ys) (os++ps):=by
 have al:=a.len
 refine ⟨by rw [List.length_append,List.length_append,a.len,b.len],fun i v o h1 h2=>?_⟩
 by_cases hi:i < xs.length
 · rw [List.getElem?_append_left hi] at h1
   rw [List.getElem?_append_left (by omega)] at h2
   exact a.at_ i v o h1 h2
 · rw [List.getElem?_append_right (by omega)] at h1
   rw [List.getElem?_append_right (by omega),← al] at h2
   exact b.at_ _ v o h1 h2
theorem Lns.take {H:Hp} {h w g:Int} {xs:List V} {os:List (Option RR)} (a:Lns H h w g xs os) (n:Nat):Lns H h w g (xs.take n) (os.take n):=by
 refine ⟨by rw [List.length_take,List.length_take,a.len],fun i v o h1 h2=>?_⟩
 have hi:i < n:=by have:=(List.getElem?_eq_some_iff.mp h1).1; rw [List.length_take] at this; omega
 rw [List.getElem?_take_of_lt hi] at h1 h2
 exact a.at_ i v o h1 h2
theorem Lns.drop {H:Hp} {h w g:Int} {xs:List V} {os:List (Option RR)} (a:Lns H h w g xs os) (n:Nat):Lns H h w g (xs.drop n) (os.drop n):=by
 refine ⟨by rw [List.length_drop,List.length_drop,a.len],fun i v o h1 h2=>?_⟩
 rw [List.getElem?_drop] at h1 h2
 exact a.at_ _ v o h1 h2
theorem Lns.one {H:Hp} {h w g:Int} {v:V} {o:Option RR} (a:LnO H h w g v o):Lns H h w g [v] [o]:=by
 refine ⟨rfl,fun i x y h1 h2=>?_⟩
 have:i=0:=by have:=(List.getElem?_eq_some_iff.mp h1).1; simp at this; omega
 subst this
 cases h1
 cases h2
 exact a
theorem Lns.rep {H:Hp} {h w g:Int} {v:V} {o:Option RR} (a:LnO H h w g v o) (n:Nat):Lns H h w g (List.replicate n v) (List.replicate n o):=by
 refine ⟨by simp,fun i x y h1 h2=>?_⟩
 rw [List.eq_of_mem_replicate (List.mem_of_getElem? h1),List.eq_of_mem_replicate (List.mem_of_getElem? h2)]
 exact a
def RR.cd (r:RR):List Nat:=catL 32 r.ws
theorem RR.cds (rows:List RR):(rows.map RR.txt).map V.str=lsV (rows.map RR.cd):=by rw [lsV,List.map_map,List.map_map,List.map_map]; rfl
structure Ln73 (h w g:Int) (ls:List (List Nat)) (os:List (Option RR)):Prop where
 n:ls.length≤13
 ok:∀ l∈ls,LC l
 ne:ls≠[[]]
 ln:∀ H,Lns H h w g (lsV ls) os
structure G73 (h w g:Int) (rows:List RR):Prop where
 n:rows.length≤12
 ok:∀ r∈rows,r.Ok h w g
 lc:∀ r∈rows,LC r.cd∧r.cd≠[]
def jM (m:Nat):List (List (List Nat)):=[[[117,110,108,105,107],[48]],[nmC .Unlike,numC m],[nmC .Unlike,[48],[48]],[nmC .Unlike],[nmC .Sum,[49,48,48],[48]],[nmC .Joined,[48]],[nmC .Ring,[55]],[nmC .Rising,[],[48]],
 [nmC .Seen,[48,49],[48]],[[67,111,117,110,116],[49],[49],[48]],[nmC .Count,[49],[48],[48]],[nmC .Count,[49],[48]],[nmC .NoSquare,[49],[49]],[nmC .Sum,[48]],[nmC .Unlike,[48],[]],[[]],[nmC .Unlike,[45,49]],[nmC .Sum,[49]]]
theorem vg {h w g:Int} (F:FlOk h w g):∀ ws∈jM (h*w).toNat++[[[120]]],(∀ H,BadLn H h w g (.str (tx (catL 32 ws))))∧LC (catL 32 ws):=by
 obtain ⟨h0,h1,w0,w1,m16,g0,g1⟩:=F
 have mpos:1≤h*w:=by
  have:=Int.mul_le_mul h0 w0 (by decide) (by omega)
  simpa using this
 have t:((List.range 17).all fun (m:Nat)=>(List.range 7).all fun (g:Nat)=>decide (m=0)||decide (g=0)||((jM m++[[[120]]]).all fun ws=>!decide (ws=[])&&decide (ws.length≤100)&&ws.all wdB&&(accR (m:Int) (g:Int) ws).isNone&&lcB (catL 32 ws)))=true:=by decide+kernel
 have t1:=List.all_eq_true.mp (List.all_eq_true.mp t (h*w).toNat (List.mem_range.mpr (by omega))) g.toNat (List.mem_range.mpr (by omega))
 have em:(((h*w).toNat:Nat):Int)=h*w:=Int.toNat_of_nonneg (by omega)
 have eg:((g.toNat:Nat):Int)=g:=Int.toNat_of_nonneg (by omega)
 rw [em,eg,decide_eq_false (show ¬ (h*w).toNat=0 by omega),decide_eq_false (show ¬ g.toNat=0 by omega),Bool.false_or,Bool.false_or] at t1
 intro ws hw
 have t2:=List.all_eq_true.mp t1 ws hw
 simp only [Bool.and_eq_true,decide_eq_true_eq,Bool.not_eq_true',decide_eq_false_iff_not] at t2
 exact ⟨fun H=>.inr ⟨ws,rfl,LnOk.of t2.1.1.1.1 t2.1.1.1.2 t2.1.1.2,by simpa using t2.1.2⟩,q0 t2.2⟩
def ru73:RR:=⟨.Unlike,0,0,[0],[0]⟩
theorem vW {h w g:Int} (F:FlOk h w g):ru73.Ok h w g:=by
 obtain ⟨h0,h1,w0,w1,m16,g0,g1⟩:=F
 have mpos:1≤h*w:=by
  have:=Int.mul_le_mul h0 w0 (by decide) (by omega)
  simpa using this
 refine ⟨by decide,by decide,fun _=>rfl,fun z=>absurd z (by decide),fun _=>rfl,⟨fun _=>⟨by decide,by decide,fun n hn=>?_,by decide,rfl⟩,fun z=>absurd z (by decide)⟩,fun x hx=>?_,by decide⟩
 · have:n=0:=by simpa [ru73] using hn
   subst this
   show (0:Int) < h*w
   omega
 · have:x=0:=by simpa [ru73] using hx
   omega
def bW (K:PySem.W.Frag):Sp:=fun vs H Q _=>∃ (p Ll:Addr) (h w g x:Int) (rows:List RR),vs=[.int x,.ref p,.ref Ll]∧IsFl H p h w g∧FlOk h w g∧H Ll=some (.lst ((rows.map RR.txt).map V.str))∧G73 h w g rows∧
 ∀ T A ls os (e:Nat) H',Same H H'→H' T=some (.tup [.ref A,.int e])→H' A=some (.lst (lsV ls))→Ln73 h w g ls os→((e=2∧12 < ls.length)∨(e=3∧ls.length≤12∧none∈os)∨(e=4∧ls=rows.map RR.cd∧os=rows.map some))→Q (.ref T) H'
theorem nQ {K:PySem.W.Frag} {vs:List V} {H:Hp} {Q:VK} {E:XK} (h:bW K vs H Q E):vs.length=3:=by
 obtain ⟨_,_,_,_,_,_,_,rfl,_⟩:=h; rfl
def fu (K:PySem.W.Frag):TS:=
 (tRet (tTup (tCons (tSl gd (tVar 6) cx (tPart (tC (.int 12)))) (tCons (tOp cIx (tLst (tCons (tC (.int 3)) (tCons (tC (.int 4)) tNil))) (tCB lG (tCons (tOp (cCmp fun i j=>decide (j < i)) (tVar 5) (tC (.int 11))) tNil))) tNil))))
def iH (K:PySem.W.Frag):TS:=
 (tSeq (tIfS (tTest (tOp (cEq K) (tVar 6) (tLst (tCons (tC (.str (tx []))) tNil)))) (tAsg (tLst (tCons (tC (.str (tx [120]))) tNil)) (gName 6)) tNext)
  (fu K))
def iI (K:PySem.W.Frag):TS:=
 (tSeq (tAsg (tOp cAdd (tOp cAdd (tSl gd (tVar 2) cx (tPart (tVar 5))) (tLst (tCons (tOp cIx (tVar 4) (tOp cMod (tOp cDiv (tVar 0) (tC (.int 39))) (tC (.int 18)))) tNil))) (tSl gd (tVar 2) (tPart (tVar 5)) cx)) (gName 6))
  (iH K))
def fv (K:PySem.W.Frag):TS:=
 (tSeq (tAsg (tOp cMod (tOp cDiv (tVar 0) (tC (.int 3))) (tOp cAdd (tCB kLen (tCons (tVar 2) tNil)) (tC (.int 1)))) (gName 5))
  (iI K))
def cJ (K:PySem.W.Frag):TS:=
 (tSeq (tIfS (tTest (tOp (cEq K) (tOp cMod (tVar 0) (tC (.int 3))) (tC (.int 0)))) (tRet (tTup (tCons (tOp cAdd (tVar 2) (tComp [none,none] (io (tCons (tOp cSub (tC (.int 13)) (tCB kLen (tCons (tVar 2) tNil))) tNil)) (gName 1) tTrue (tC (.str (tx [117,110,108,105,107,101,32,48]))))) (tCons (tC (.int 2)) tNil)))) tNext)
  (fv K))
def cK (K:PySem.W.Frag):TS:=
 (tSeq (tAsg (tOp cAdd (tVar 4) (tLst (tCons (tC (.str (tx []))) (tCons (tC (.str (tx [117,110,108,105,107,101,32,45,49]))) (tCons (tC (.str (tx [115,117,109,32,49]))) tNil))))) (gName 4))
  (cJ K))
def cL (K:PySem.W.Frag):TS:=
 (tSeq (tAsg (tOp cAdd (tVar 4) (tLst (tCons (tC (.str (tx [115,101,101,110,32,48,49,32,48]))) (tCons (tC (.str (tx [67,111,117,110,116,32,49,32,49,32,48]))) (tCons (tC (.str (tx [99,111,117,110,116,32,49,32,48,32,48]))) (tCons (tC (.str (tx [99,111,117,110,116,32,49,32,48]))) (tCons (tC (.str (tx [110,111,115,113,117,97,114,101,32,49,32,49]))) (tCons (tC (.str (tx [115,117,109,32,48]))) (tCons (tC (.str (tx [117,110,108,105,107,101,32,48,32]))) tNil))))))))) (gName 4))
  (cK K))
def iJ (K:PySem.W.Frag):TS:=
 (tSeq (tAsg (tLst (tCons (tC (.str (tx [117,110,108,105,107,32,48]))) (tCons (tOp cAdd (tC (.str (tx [117,110,108,105,107,101,32]))) (tVar 3)) (tCons (tC (.str (tx [117,110,108,105,107,101,32,48,32,48]))) (tCons (tC (.str (tx [117,110,108,105,107,101]))) (tCons (tC (.str (tx [115,117,109,32,49,48,48,32,48]))) (tCons (tC (.str (tx [106,111,105,110,101,100,32,48]))) (tCons (tC (.str (tx [114,105,110,103,32,55]))) (tCons (tC (.str (tx [114,105,115,105,110,103,32,32,48]))) tNil))))))))) (gName 4))
  (cL K))
def dW (K:PySem.W.Frag):TS:=
 (tSeq (tAsg (tCB kStr (tCons (tOp cMul (tOp cIx (tVar 1) (tC (.int 0))) (tOp cIx (tVar 1) (tC (.int 1)))) tNil)) (gName 3))
  (iJ K))
theorem G73.ln {h w g:Int} {rows:List RR} (G:G73 h w g rows):∀ H,Lns H h w g (lsV (rows.map RR.cd)) (rows.map some):=fun H=>by
 rw [← RR.cds]
 exact qU G.ok
theorem G73.all {h w g:Int} {rows:List RR} (G:G73 h w g rows):∀ l∈rows.map RR.cd,LC l∧l≠[]:=fun l hl=>by
 obtain ⟨r,hr,rfl⟩:=List.mem_map.mp hl
 exact G.lc r hr
theorem i8 (a b:List (List Nat)):lsV a++lsV b=lsV (a++b):=by simp [lsV]
section
variable {K:PySem.W.Frag} {H:Hp} {Q:VK} {p Ll O:Addr} {h w g x:Int} {rows:List RR} (hp:IsFl H p h w g) (F:FlOk h w g) (hL:H Ll=some (.lst (lsV (rows.map RR.cd)))) (G:G73 h w g rows)
 (q:∀ T A ls os (e:Nat) H',Same H H'→H' T=some (.tup [.ref A,.int e])→H' A=some (.lst (lsV ls))→Ln73 h w g ls os→((e=2∧12 < ls.length)∨(e=3∧ls.length≤12∧none∈os)∨(e=4∧ls=rows.map RR.cd∧os=rows.map some))→Q (.ref T) H')
include F G q
theorem iK {S:Addr} {at_:Nat} {v3 v4:Option V} {ls:List (List Nat)} {os:List (Option RR)} (hS:H S=some (.lst (lsV ls))) (hl:ls.length=rows.length+1) (ha:at_≤rows.length) (ok:∀ l∈ls,LC l) (ne:ls≠[[]]) (ln:∀ H,Lns H h w g (lsV ls) os) (b:os[at_]? =some none) (tk:ls.take rows.length=rows.map RR.cd∨at_ < rows.length) (tk2:os.take rows.length=rows.map some∨at_ < rows.length):
  fu K { nx:=fun _ H'=>Q .non H',rt:=Q } [some (.int x),some (.ref p),some (.ref Ll),v3,v4,some (.int (at_:Nat)),some (.ref S)] H:=by
 have rn:=G.n
 unfold fu
 walk_at "w"
 refine p7 hS fun A n1=>?_
 rw [qM _ (show (0:Int)≤12 by decide),show (12:Int).toNat=12 from rfl]
 have eT:(lsV ls).take 12=lsV (ls.take 12):=by simp [lsV,List.map_take]
 rw [eT]
 have s1:Same H (upd H A (.lst (lsV (ls.take 12)))):=(Same.refl H).laid n1
 have e1:(upd H A (.lst (lsV (ls.take 12)))) A=some (.lst (lsV (ls.take 12))):=af
 generalize upd H A (.lst (lsV (ls.take 12)))=H1 at*
 refine ⟨aq (by show (2:Nat)≤1000; decide),fun l2 n2=>?_⟩
 have s2:Same H1 (upd H1 l2 (.lst [V.int 3,V.int 4])):=(Same.refl H1).laid n2
 have u2:(upd H1 l2 (.lst [V.int 3,V.int 4])) l2=some (.lst [V.int 3,V.int 4]):=af
 generalize upd H1 l2 (.lst [V.int 3,V.int 4])=H2 at*
 by_cases h11:11 < at_
 · rw [decide_eq_true (show (11:Int) < ((at_:Nat):Int) by omega)]
   rw [j4]
   show cIx (.ref l2) (.int 1) H2 _
   refine ixL u2 (v:=V.int 4) (aG (j:=1) rfl) ?_
   walk_at "w"
   refine ⟨aq (by show (2:Nat)≤1000; decide),fun T hT=>?_⟩
   have s3:Same H2 (upd H2 T (.tup [V.ref A,V.int 4])):=(Same.refl H2).laid hT
   have r12:rows.length=12:=by omega
   have e1':ls.take 12=rows.map RR.cd:=by rw [← r12]; exact tk.elim id fun z=>(by omega)
   have e2':os.take 12=rows.map some:=by rw [← r12]; exact tk2.elim id fun z=>(by omega)
   refine q T A (ls.take 12) (os.take 12) 4 _ ((s1.trans s2).trans s3) af ((s2.trans s3) _ _ e1) ⟨by rw [List.length_take]; omega,fun l hl=>ok l (List.mem_of_mem_take hl),fun z=>(by have:=congrArg List.length z; rw [List.length_take,hl] at this; simp at this; omega),fun H=>by rw [← eT]; exact (ln H).take 12⟩ (.inr (.inr ⟨rfl,e1',e2'⟩))
 · rw [decide_eq_false (show ¬ (11:Int) < ((at_:Nat):Int) by omega)]
   rw [j4]
   show cIx (.ref l2) (.int 0) H2 _
   refine ixL u2 (v:=V.int 3) (aG (j:=0) rfl) ?_
   walk_at "w"
   refine ⟨aq (by show (2:Nat)≤1000; decide),fun T hT=>?_⟩
   have s3:Same H2 (upd H2 T (.tup [V.ref A,V.int 3])):=(Same.refl H2).laid hT
   have hno:(none:Option RR)∈os.take 12:=by
    have:(os.take 12)[at_]? =some none:=by rw [List.getElem?_take_of_lt (by omega)]; exact b
    exact List.mem_of_getElem? this
   refine q T A (ls.take 12) (os.take 12) 3 _ ((s1.trans s2).trans s3) af ((s2.trans s3) _ _ e1) ⟨by rw [List.length_take]; omega,fun l hl=>ok l (List.mem_of_mem_take hl),fun z=>?_,fun H=>by rw [← eT]; exact (ln H).take 12⟩ (.inr (.inl ⟨rfl,by rw [List.length_take]; omega,hno⟩))
   have zl:=congrArg List.length z
   rw [List.length_take,hl] at zl
   simp at zl
   have:ls.take 12=ls:=List.take_of_length_le (by omega)
   rw [this] at z
   exact ne z
include hp hL
theorem kT {O:Addr} {v3:Option V} (hO:H O=some (.lst ((jM (h*w).toNat).map hdV))):fv K { nx:=fun _ H'=>Q .non H',rt:=Q } [some (.int x),some (.ref p),some (.ref Ll),v3,some (.ref O),none,none] H:=by
 have rn:=G.n
 have ll:(lsV (rows.map RR.cd)).length=rows.length:=by simp [lsV]
 unfold fv
 walk_at "w"
 rw [ip hL,ll]
 walk_at "w"
 refine ⟨(show CDiv x 3 from ⟨by decide,by decide⟩),by omega,?_⟩
 have j0:=Int.emod_nonneg (x / 3) (show ((rows.length:Nat):Int)+1≠0 by omega)
 have j1:=Int.emod_lt_of_pos (x / 3) (show (0:Int) < ((rows.length:Nat):Int)+1 by omega)
 obtain ⟨j,ej⟩:∃ j:Nat,x / 3 % (((rows.length:Nat):Int)+1)=j:=⟨_,(Int.toNat_of_nonneg j0).symm⟩
 rw [ej] at j1 ⊢
 unfold iI
 walk_at "w"
 refine p7 hL fun l1 n1=>?_
 rw [qM _ (show (0:Int)≤(j:Nat) by omega),show ((j:Nat):Int).toNat=j from rfl]
 have s1:Same H (upd H l1 (.lst ((lsV (rows.map RR.cd)).take j))):=(Same.refl H).laid n1
 have u1:(upd H l1 (.lst ((lsV (rows.map RR.cd)).take j))) l1=some (.lst (lsV ((rows.map RR.cd).take j))):=by rw [af]; simp [lsV,List.map_take]
 generalize upd H l1 (.lst ((lsV (rows.map RR.cd)).take j))=H1 at*
 refine ⟨(show CDiv x 39 from ⟨by decide,by decide⟩),by decide,?_⟩
 obtain ⟨m,em,hm⟩:∃ m:Nat,x / 39 % 18=m∧m < 18:=⟨(x / 39 % 18).toNat,by omega,by omega⟩
 rw [em]
 have hl18:(jM (h*w).toNat).length=18:=rfl
 refine ixL (s1 _ _ hO) (v:=hdV ((jM (h*w).toNat)[m]'(by omega))) (aG (by rw [List.getElem?_map,List.getElem?_eq_getElem (by omega)]; rfl)) ?_
 have hbm:(jM (h*w).toNat)[m]'(by omega)∈jM (h*w).toNat++[[[120]]]:=List.mem_append_left _ (List.getElem_mem _)
 obtain ⟨bad,lcb⟩:=vg F _ hbm
 generalize (jM (h*w).toNat)[m]'(by omega)=bw at*
 refine ⟨aq (by show (1:Nat)≤1000; decide),fun l2 n2=>?_⟩
 have s2:Same H1 (upd H1 l2 (.lst [hdV bw])):=(Same.refl H1).laid n2
 have u2:(upd H1 l2 (.lst [hdV bw])) l2=some (.lst (lsV [catL 32 bw])):=af
 generalize upd H1 l2 (.lst [hdV bw])=H2 at*
 refine gR (s2 _ _ u1) u2 (by simp [lsV]; omega) fun l3 n3=>?_
 rw [i8]
 have s3:Same H2 (upd H2 l3 (.lst (lsV ((rows.map RR.cd).take j++[catL 32 bw])))):=(Same.refl H2).laid n3
 have u3:(upd H2 l3 (.lst (lsV ((rows.map RR.cd).take j++[catL 32 bw])))) l3=some (.lst (lsV ((rows.map RR.cd).take j++[catL 32 bw]))):=af
 generalize upd H2 l3 (.lst (lsV ((rows.map RR.cd).take j++[catL 32 bw])))=H3 at*
 have s13:=(s1.trans s2).trans s3
 refine p7 (s13 _ _ hL) fun l4 n4=>?_
 rw [vU _ (by omega)]
 have s4:Same H3 (upd H3 l4 (.lst ((lsV (rows.map RR.cd)).drop j))):=(Same.refl H3).laid n4
 have u4:(upd H3 l4 (.lst ((lsV (rows.map RR.cd)).drop j))) l4=some (.lst (lsV ((rows.map RR.cd).drop j))):=by rw [af]; simp [lsV,List.map_drop]
 generalize upd H3 l4 (.lst ((lsV (rows.map RR.cd)).drop j))=H4 at*
 refine gR (s4 _ _ u3) u4 (by simp [lsV]; omega) fun S n5=>?_
 rw [i8]
 have hlen:((rows.map RR.cd).take j++[catL 32 bw]++(rows.map RR.cd).drop j).length=rows.length+1:=by simp; omega
 have jl:((rows.map RR.cd).take j).length=j:=by simp; omega
 have jo:((rows.map some:List (Option RR)).take j).length=j:=by simp; omega
 have ok:∀ l∈(rows.map RR.cd).take j++[catL 32 bw]++(rows.map RR.cd).drop j,LC l:=fun l hl=>by
  rcases List.mem_append.mp hl with hl | hl
  · rcases List.mem_append.mp hl with hl | hl
    · exact (G.all l (List.mem_of_mem_take hl)).1
    · rw [List.mem_singleton.mp hl]; exact lcb
  · exact (G.all l (List.mem_of_mem_drop hl)).1
 have ln:∀ H,Lns H h w g (lsV ((rows.map RR.cd).take j++[catL 32 bw]++(rows.map RR.cd).drop j)) ((rows.map some).take j++[none]++(rows.map some).drop j):=fun H=>by
  rw [← i8,← i8]
  refine Lns.app (Lns.app ?_ (Lns.one (bad H))) ?_
  · have:=(G.ln H).take j
    rwa [show (lsV (rows.map RR.cd)).take j=lsV ((rows.map RR.cd).take j) by simp [lsV,List.map_take]] at this
  · have:=(G.ln H).drop j
    rwa [show (lsV (rows.map RR.cd)).drop j=lsV ((rows.map RR.cd).drop j) by simp [lsV,List.map_drop]] at this
 have bj:((rows.map some).take j++[none]++(rows.map some).drop j:List (Option RR))[j]? =some none:=by
  rw [List.append_assoc,List.getElem?_append_right (by omega),jo,Nat.sub_self]; rfl
 have tk:((rows.map RR.cd).take j++[catL 32 bw]++(rows.map RR.cd).drop j).take rows.length=rows.map RR.cd∨j < rows.length:=by
  by_cases hj:j < rows.length
  · exact .inr hj
  · have:j=rows.length:=by omega
    subst this
    left
    rw [List.append_assoc,List.take_append_of_le_length (by omega),List.take_of_length_le (by omega),List.take_of_length_le (by simp)]
 have tk2:((rows.map some).take j++[none]++(rows.map some).drop j:List (Option RR)).take rows.length=rows.map some∨j < rows.length:=by
  by_cases hj:j < rows.length
  · exact .inr hj
  · have:j=rows.length:=by omega
    subst this
    left
    rw [List.append_assoc,List.take_append_of_le_length (by omega),List.take_of_length_le (by omega),List.take_of_length_le (by simp)]
 have one:((rows.map RR.cd).take j++[catL 32 bw]++(rows.map RR.cd).drop j=[[]])→rows=[]∧j=0:=fun z=>by
  have:=congrArg List.length z
  rw [hlen] at this
  simp at this
  exact ⟨this,by rw [this] at j1; simp at j1; omega⟩
 generalize (rows.map RR.cd).take j++[catL 32 bw]++(rows.map RR.cd).drop j=ls at*
 generalize ((rows.map some).take j++[none]++(rows.map some).drop j:List (Option RR))=os at*
 have s5:Same H4 (upd H4 S (.lst (lsV ls))):=(Same.refl H4).laid n5
 have u5:(upd H4 S (.lst (lsV ls))) S=some (.lst (lsV ls)):=af
 generalize upd H4 S (.lst (lsV ls))=H5 at*
 have s15:=(s13.trans s4).trans s5
 unfold iH
 rw [aM,aO]
 walk_at "w"
 refine ⟨aq (by show (1:Nat)≤1000; decide),fun l6 n6=>?_⟩
 have s6:Same H5 (upd H5 l6 (.lst [V.str (tx [])])):=(Same.refl H5).laid n6
 have u6:(upd H5 l6 (.lst [V.str (tx [])])) l6=some (.lst ((([[]]:List (List Nat)).map tx).map V.str)):=af
 generalize upd H5 l6 (.lst [V.str (tx [])])=H6 at*
 have s16:=s15.trans s6
 refine qK (s6 _ _ u5) u6 (WOk.strs fun l hl=>(ok l hl).2.2.2) (WOk.strs fun l hl=>(by rw [List.mem_singleton.mp hl]; intro c hc; cases hc)) ?_
 by_cases hz:ls=[[]]
 · obtain ⟨er,e0⟩:=one hz
   rw [decide_eq_true (by rw [hz])]
   refine ⟨_,rfl,iteT ?_⟩
   walk_at "w"
   refine ⟨aq (by show (1:Nat)≤1000; decide),fun l7 n7=>?_⟩
   have s7:Same H6 (upd H6 l7 (.lst [V.str (tx [120])])):=(Same.refl H6).laid n7
   have u7:(upd H6 l7 (.lst [V.str (tx [120])])) l7=some (.lst (lsV [[120]])):=af
   generalize upd H6 l7 (.lst [V.str (tx [120])])=H7 at*
   have s17:=s16.trans s7
   obtain ⟨bx,lx⟩:=vg F [[120]] (by simp)
   refine iK (h:=h) (w:=w) (g:=g) F G (fun T A ls os e H' s'=>q T A ls os e H' (s17.trans s')) (at_:=j) (ls:=[[120]]) (os:=[none]) u7 (by rw [er]; rfl) (by omega) (fun l hl=>by rw [List.mem_singleton.mp hl]; exact lx) (by decide) (fun H=>Lns.one (bx H)) (by rw [e0]; rfl) (.inl (by rw [er]; rfl)) (.inl (by rw [er]; rfl))
 · have hne:¬ ls.map tx=([[]]:List (List Nat)).map tx:=fun z=>by
    match ls,hz,z with
    | [],_,z=>simp at z
    | [l],hz,z=>
     rw [List.map_cons,List.map_cons,List.cons.injEq] at z
     exact hz (by rw [ji z.1])
    | l::m::r,_,z=>simp at z
   rw [decide_eq_false hne]
   refine ⟨_,rfl,iteF ?_⟩
   exact iK (h:=h) (w:=w) (g:=g) F G (fun T A ls os e H' s'=>q T A ls os e H' (s16.trans s')) (s6 _ _ u5) hlen (by omega) ok hz ln bj tk tk2
end
theorem nR {K:PySem.W.Frag} {vs:List V} {H:Hp} {Q:VK} {E:XK} (h:bW K vs H Q E):dW K { nx:=fun _ H'=>Q .non H',rt:=Q } (start ["_law_cell","_law_floor_here","_law_lines_here","_law_many","_law_odd","_law_at","_law_some"] vs) H:=by
 obtain ⟨p,Ll,h,w,g,x,rows,rfl,hp,F,hL,G,q⟩:=h
 obtain ⟨h0,h1,w0,w1,m16,g0,g1⟩:=id F
 have mpos:0≤h*w:=Int.mul_nonneg (by omega) (by omega)
 rw [RR.cds] at hL
 have rn:=G.n
 have ll:(lsV (rows.map RR.cd)).length=rows.length:=by simp [lsV]
 have sm:=fS mpos (show h*w < 100 by omega)
 have lm:(h*w).natAbs.log2 < 1920:=by have:=j2 (n:=(h*w).toNat) (by omega); rw [Int.toNat_of_nonneg mpos] at this; exact this
 have lM:=dh (n:=(h*w).toNat)
 show dW K _ [some (.int x),some (.ref p),some (.ref Ll),none,none,none,none] H
 unfold dW
 walk_at "w"
 refine ixT hp (v:=V.int h) rfl ?_
 walk_at "w"
 refine ixT hp (v:=V.int w) rfl ?_
 walk_at "w"
 refine ⟨jE h0 h1,?_⟩
 walk_at "w"
 rw [sm]
 refine ⟨lm,?_⟩
 unfold iJ
 walk_at "w"
 rw [bb]
 refine ⟨cQ (by simp only [List.length_cons,List.length_nil]; omega),aq (by show (8:Nat)≤1000; decide),fun l1 n1=>?_⟩
 refine bH (M:=fun H'=>cL K _ _ H') n1 fun H1 s1 e1=>?_
 show cL K _ _ H1
 unfold cL
 walk_at "w"
 refine ⟨aq (by show (7:Nat)≤1000; decide),fun l2 n2=>?_⟩
 refine bH (M:=fun H'=>cAdd _ _ H' _) n2 fun H2 s2 e2=>?_
 refine gR (s2 _ _ e1) e2 (by simp) fun l3 n3=>?_
 refine bH (M:=fun H'=>cK K _ _ H') n3 fun H3 s3 e3=>?_
 show cK K _ _ H3
 unfold cK
 walk_at "w"
 refine ⟨aq (by show (3:Nat)≤1000; decide),fun l4 n4=>?_⟩
 refine bH (M:=fun H'=>cAdd _ _ H' _) n4 fun H4 s4 e4=>?_
 refine gR (s4 _ _ e3) e4 (by simp) fun l5 n5=>?_
 refine bH (M:=fun H'=>cJ K _ _ H') n5 fun H5 s5 e5=>?_
 show cJ K _ _ H5
 have s05:=(((s1.trans s2).trans s3).trans s4).trans s5
 have eO:H5 l5=some (.lst ((jM (h*w).toNat).map hdV)):=by
  rw [e5]
  simp [jM,hdV,catL,nmC]
 have hL5:=s05 _ _ hL
 unfold cJ
 rw [aM,aO]
 walk_at "w"
 refine ⟨by decide,?_⟩
 by_cases c0:x % 3=0
 · rw [decide_eq_true c0]
   refine iteT ?_
   rw [ip hL5,ll]
   walk_at "w"
   refine ⟨_,rfl,by omega,by omega,?_⟩
   refine ir (fun _=>true) (fun _=>V.str (tx [117,110,108,105,107,101,32,48])) (by omega) ?_ ?_ ?_
   · intro i H6 R hi s6 k6
     exact k6 _ (Same.refl _)
   · intro i H6 Q6 hi hb s6 k6
     exact k6 _ (Same.refl _)
   · intro l H6 hl s6 el
     rw [cc,List.map_const',List.length_range] at el
     have el2:H6 l=some (.lst (lsV (List.replicate ((13:Int) - ((rows.length:Nat):Int)).toNat ru73.cd))):=by
      rw [el]
      simp [lsV,List.map_replicate]
      exact .inr rfl
     refine gR (s6 _ _ hL5) el2 (by simp [lsV]; omega) fun A nA=>?_
     rw [i8]
     have s7:Same H6 (upd H6 A (.lst (lsV (rows.map RR.cd++List.replicate ((13:Int) - ((rows.length:Nat):Int)).toNat ru73.cd)))):=(Same.refl H6).laid nA
     have u7:(upd H6 A (.lst (lsV (rows.map RR.cd++List.replicate ((13:Int) - ((rows.length:Nat):Int)).toNat ru73.cd)))) A=some (.lst (lsV (rows.map RR.cd++List.replicate ((13:Int) - ((rows.length:Nat):Int)).toNat ru73.cd))):=af
     generalize upd H6 A (.lst (lsV (rows.map RR.cd++List.replicate ((13:Int) - ((rows.length:Nat):Int)).toNat ru73.cd)))=H7 at*
     refine ⟨aq (by show (2:Nat)≤1000; decide),fun T hT=>?_⟩
     have hlen:(rows.map RR.cd++List.replicate ((13:Int) - ((rows.length:Nat):Int)).toNat ru73.cd).length=13:=by simp; omega
     have s07:=(s05.trans s6).trans s7
     have s8:Same H7 (upd H7 T (.tup [V.ref A,V.int 2])):=(Same.refl H7).laid hT
     refine q T A _ (rows.map some++List.replicate ((13:Int) - ((rows.length:Nat):Int)).toNat (some ru73)) 2 _ (s07.trans s8) af (s8 _ _ u7) ⟨by omega,fun l hl=>?_,fun z=>(by have:=congrArg List.length z; rw [hlen] at this; simp at this),fun H=>?_⟩ (.inl ⟨rfl,by omega⟩)
     · rcases List.mem_append.mp hl with hl | hl
       · exact (G.all l hl).1
       · rw [List.eq_of_mem_replicate hl]
         exact q0 (by decide)
     · rw [← i8]
       refine Lns.app (G.ln H) ?_
       rw [show lsV (List.replicate ((13:Int) - ((rows.length:Nat):Int)).toNat ru73.cd)=List.replicate ((13:Int) - ((rows.length:Nat):Int)).toNat (V.str (tx ru73.cd)) by simp [lsV,List.map_replicate]]
       exact Lns.rep (o:=some ru73) ⟨rfl,vW F⟩ _
 · rw [decide_eq_false c0]
   refine iteF ?_
   exact kT (s05 _ _ hp) F hL5 G (fun T A ls os e H' s'=>q T A ls os e H' (s05.trans s')) eO
theorem idxD {n:Nat} (h:1≤n):Builtin.Str.strSliceIndices none (some (-1)) 1 n=List.range (n - 1):=by
 unfold Builtin.Str.strSliceIndices sliceRange
 simp only [show (1:Int) > 0 by decide,if_true]
 have e:(if 0 < max (0:Int) (min (if (-1:Int) < 0 then -1+(n:Int) else -1) (n:Int)) then (max (0:Int) (min (if (-1:Int) < 0 then -1+(n:Int) else -1) (n:Int)) - 0+1 - 1) / 1 else 0).toNat=n - 1:=by
  rw [if_pos (show (-1:Int) < 0 by decide),Int.min_eq_left (by omega),Int.max_eq_right (by omega)]
  split <;> simp <;> omega
 rw [e]
 refine List.ext_getElem? fun i=>?_
 rw [List.getElem?_map]
 by_cases hi:i < n - 1
 · rw [List.getElem?_range hi]
   simp
 · rw [List.getElem?_eq_none (by simpa using hi)]; rfl
theorem sQ {l:List Nat} (h:1≤l.length):Txt.slice (tx l) none (some (-1))=tx l.dropLast:=by
 unfold Txt.slice
 rw [ay,idxD h,if_neg (by simp; omega)]
 have e:(List.range (l.length - 1)).filterMap (fun x=>(tx l).cps[x]?)=l.dropLast:=by
  rw [List.dropLast_eq_take]
  have ec:∀ x:Nat,(tx l).cps[x]? =l[x]? :=fun x=>by simp [tx]
  simp only [ec]
  generalize l.length - 1=m
  clear h ec
  induction m with
  | zero=>rfl
  | succ k ih=>
   rw [List.range_succ,List.filterMap_append,ih,List.take_succ]
   cases e:l[k]? <;> simp [e]
 rw [e]
 rfl
structure BadE (h w g:Int) (en:List Nat):Prop where
 bad:¬ GoodL h.toNat w.toNat g en
 len:en.length≤200
 bar:124∉en
theorem mM {h w:Nat} {g:Int} {l:List Nat} (G:GoodL h w g l):∀ c∈l,c≤54:=fun c hc=>by
 obtain ⟨i,hi,e⟩:=List.getElem_of_mem hc
 have:=G.2 i c (by rw [List.getElem?_eq_getElem hi,e])
 unfold atOk at this
 split at this
 · omega
 · have:=this.1
   simp [figs] at this
   omega
theorem q5 {h w:Nat} {g:Int} {l:List Nat} {c:Nat} (hw:1≤w) (hh:1≤h) (G:GoodL h w g l) (hc:¬ okc g c):¬ GoodL h w g (l.dropLast++[c]):=fun z=>by
 have g1:=G.1
 have hl:1≤l.length:=by
  have:1*2≤h*(w+1):=Nat.mul_le_mul hh (by omega)
  omega
 have:=z.2 (l.length - 1) c (by rw [List.getElem?_append_right (by rw [List.length_dropLast]; exact Nat.le_refl _),List.length_dropLast,Nat.sub_self]; rfl)
 unfold atOk at this
 obtain ⟨k,rfl⟩:∃ k,h=k+1:=⟨h - 1,by omega⟩
 have e:l.length - 1=(w - 1)+k*(w+1):=by
  rw [Nat.succ_mul] at g1
  omega
 rw [e,Nat.add_mul_mod_self_right,Nat.mod_eq_of_lt (by omega),if_neg (by omega)] at this
 exact hc this
theorem kU {Q:VK} {H:Hp} {a b:List Nat} (h1:a.length+b.length≤1000) (q:Q (.str (tx (a++b))) H):cAdd (.str (tx a)) (.str (tx b)) H Q:=by
 rw [dw,bb]
 exact ⟨cQ h1,q⟩
theorem nS {Q:VK} {H:Hp} {l:List Nat} (h:1≤l.length) (h2:l.length≤1000) (q:Q (.str (tx l.dropLast)) H):gd (.str (tx l)) none (some (-1)) H Q:=by
 rw [xh,sQ h]
 exact ⟨by rw [ay]; exact aq h2,q⟩
def bX (K:PySem.W.Frag):Sp:=fun vs H Q _=>∃ (p:Addr) (h w g x:Int) (ct:List Nat),vs=[.int x,.ref p,.str (tx ct)]∧IsFl H p h w g∧FlOk h w g∧GoodL h.toNat w.toNat g ct∧ct.length≤60∧∀ en H',Same H H'→BadE h w g en→Q (.str (tx en)) H'
theorem nU {K:PySem.W.Frag} {vs:List V} {H:Hp} {Q:VK} {E:XK} (h:bX K vs H Q E):vs.length=3:=by
 obtain ⟨_,_,_,_,_,_,rfl,_⟩:=h; rfl
def cM (K:PySem.W.Frag):TS:=
 (tRet (tOp cIx (tVar 4) (tOp cMod (tVar 0) (tC (.int 7)))))
def cO (K:PySem.W.Frag):TS:=
 (tSeq (tAsg (tOp cAdd (tVar 4) (tLst (tCons (tOp cAdd (tSl gd (tVar 2) cx (tPart (tUn (rU fun i=>.int (-i)) (tC (.int 1))))) (tC (.str (tx [120])))) (tCons (tOp cAdd (tVar 2) (tC (.str (tx [32])))) tNil)))) (gName 4))
  (cM K))
def iL (K:PySem.W.Frag):TS:=
 (tSeq (tAsg (tLst (tCons (tOp cAdd (tOp cAdd (tVar 2) (tC (.str (tx [47])))) (tOp cIx (tBM K "str" fR (tVar 2) (tCons (tC (.str (tx [47]))) tNil)) (tC (.int 0)))) (tCons (tOp cAdd (tSl gd (tVar 2) cx (tPart (tUn (rU fun i=>.int (-i)) (tC (.int 1))))) (tVar 3)) (tCons (tOp cAdd (tVar 2) (tC (.str (tx [46])))) (tCons (tSl gd (tVar 2) cx (tPart (tUn (rU fun i=>.int (-i)) (tC (.int 1))))) (tCons (tOp cAdd (tSl gd (tVar 2) cx (tPart (tUn (rU fun i=>.int (-i)) (tC (.int 1))))) (tC (.str (tx [48])))) tNil)))))) (gName 4))
  (cO K))
def dX (K:PySem.W.Frag):TS:=
 (tSeq (tAsg (tCB kStr (tCons (tOp cAdd (tOp cIx (tVar 1) (tC (.int 2))) (tC (.int 1))) tNil)) (gName 3))
  (iL K))
theorem nX {K:PySem.W.Frag} {vs:List V} {H:Hp} {Q:VK} {E:XK} (h:bX K vs H Q E):dX K { nx:=fun _ H'=>Q .non H',rt:=Q } (start ["_law_cell","_law_floor_here","_law_text","_law_great","_law_some"] vs) H:=by
 obtain ⟨p,h,w,g,x,ct,rfl,hp,F,G,hl,q⟩:=h
 obtain ⟨h0,h1,w0,w1,m16,g0,g1⟩:=id F
 have sg:=fS (show 0≤g+1 by omega) (show g+1 < 100 by omega)
 have lg:(g+1).natAbs.log2 < 1920:=by have:=j2 (n:=(g+1).toNat) (by omega); rw [Int.toNat_of_nonneg (by omega)] at this; exact this
 have hge:numC (g+1).toNat=[48+(g+1).toNat]:=by unfold numC; rw [if_pos (by omega)]
 rw [hge] at sg
 have hchr:=mM G
 have G1:=G.1
 have hl1:1≤ct.length:=by
  have:1*2≤h.toNat*(w.toNat+1):=Nat.mul_le_mul (by omega) (by omega)
  omega
 have dl:ct.dropLast.length=ct.length - 1:=List.length_dropLast ..
 have dchr:∀ c∈ct.dropLast,c≤54:=fun c hc=>hchr c (List.dropLast_subset _ hc)
 obtain ⟨rows,hne,hnf,hcat,hsp⟩:=me 47 ct
 obtain ⟨r0,rr,er⟩:∃ r0 rr,rows=r0::rr:=by
  cases rows with
  | nil=>exact absurd rfl hne
  | cons a b=>exact ⟨a,b,rfl⟩
 have hrl:rows.length≤61:=by have:=mv 47 rows; rw [hcat] at this; omega
 have r0l:r0.length≤ct.length:=by
  rw [← hcat,er]
  cases rr with
  | nil=>exact Nat.le_refl _
  | cons y t=>show r0.length≤(r0++47::catL 47 (y::t)).length; rw [List.length_append]; omega
 have r0c:∀ c∈r0,c≤54:=fun c hc=>hchr c (by
  rw [← hcat,er]
  cases rr with
  | nil=>exact hc
  | cons y t=>exact List.mem_append_left _ hc)
 have nb:∀ {l:List Nat},(∀ c∈l,c≤54)→124∉l:=fun hc z=>by have:=hc 124 z; omega
 have byLen:∀ {l:List Nat},l.length≠ct.length→¬ GoodL h.toNat w.toNat g l:=fun hl z=>by have:=z.1; omega
 have B0:BadE h w g (ct++[47]++r0):=⟨byLen (by simp),by simp; omega,fun z=>by
  rcases List.mem_append.mp z with z | z
  · rcases List.mem_append.mp z with z | z
    · exact nb hchr z
    · simp at z
  · exact nb r0c z⟩
 have B1:BadE h w g (ct.dropLast++[48+(g+1).toNat]):=⟨q5 (by omega) (by omega) G (fun z=>by
   have zz:=z.2
   have z1:=z.1
   obtain ⟨k,ek⟩:∃ k:Nat,(g+1).toNat=k:=⟨_,rfl⟩
   have hk:(k:Int)=g+1:=by omega
   rw [ek] at zz z1
   have k7:k≤7:=by omega
   have k2:2≤k:=by omega
   have t:((List.range 8).all fun k=>decide (k < 2)||!decide (48+k∈figs)||decide (valc (48+k)=(k:Int)))=true:=by decide+kernel
   have tk:=List.all_eq_true.mp t k (List.mem_range.mpr (by omega))
   rw [decide_eq_false (show ¬ k < 2 by omega),decide_eq_true z1,Bool.false_or] at tk
   have:valc (48+k)=(k:Int):=by simpa using tk
   omega),by simp; omega,fun z=>by
  rcases List.mem_append.mp z with z | z
  · exact nb dchr z
  · have:=List.mem_singleton.mp z
    omega⟩
 have B2:BadE h w g (ct++[46]):=⟨byLen (by simp),by simp; omega,fun z=>by
  rcases List.mem_append.mp z with z | z
  · exact nb hchr z
  · simp at z⟩
 have B3:BadE h w g ct.dropLast:=⟨byLen (by omega),by omega,nb dchr⟩
 have B45:∀ c,c∉figs→c≠124→BadE h w g (ct.dropLast++[c]):=fun c hc h124=>⟨q5 (by omega) (by omega) G fun z=>hc z.1,by simp; omega,fun z=>by
  rcases List.mem_append.mp z with z | z
  · exact nb dchr z
  · exact h124 (List.mem_singleton.mp z).symm⟩
 have B6:BadE h w g (ct++[32]):=⟨byLen (by simp),by simp; omega,fun z=>by
  rcases List.mem_append.mp z with z | z
  · exact nb hchr z
  · simp at z⟩
 show dX K _ [some (.int x),some (.ref p),some (.str (tx ct)),none,none] H
 unfold dX
 walk_at "w"
 refine ixT hp (v:=V.int g) rfl ?_
 walk_at "w"
 rw [sg]
 refine ⟨lg,?_⟩
 unfold iL
 walk_at "w"
 rw [bb]
 refine ⟨cQ (by simp only [List.length_cons,List.length_nil]; omega),fA,?_⟩
 rw [i6,hsp]
 refine ⟨by rw [ay]; decide,by rw [ay]; exact aq (by omega),by rw [List.length_map]; exact aq (by omega),fun l1 n1=>?_⟩
 refine bH (M:=fun H'=>cIx _ _ H' _) n1 fun H1 s1 e1=>?_
 refine ixL e1 (v:=V.str (tx r0)) (aG (j:=0) (by rw [er]; rfl)) ?_
 refine kU (by simp; omega) ?_
 refine nS hl1 (by omega) ?_
 refine kU (by simp; omega) ?_
 rw [bb]
 refine ⟨cQ (by simp; omega),?_⟩
 refine nS hl1 (by omega) ?_
 refine nS hl1 (by omega) ?_
 refine kU (by simp; omega) ?_
 refine ⟨aq (by show (5:Nat)≤1000; decide),fun l2 n2=>?_⟩
 refine bH (M:=fun H'=>cO K _ _ H') n2 fun H2 s2 e2=>?_
 show cO K _ _ H2
 unfold cO
 walk_at "w"
 refine nS hl1 (by omega) ?_
 refine kU (by simp; omega) ?_
 rw [bb]
 refine ⟨cQ (by simp; omega),?_⟩
 refine ⟨aq (by show (2:Nat)≤1000; decide),fun l3 n3=>?_⟩
 refine bH (M:=fun H'=>cAdd _ _ H' _) n3 fun H3 s3 e3=>?_
 refine gR (s3 _ _ e2) e3 (by simp) fun l4 n4=>?_
 refine bH (M:=fun H'=>cM K _ _ H') n4 fun H4 s4 e4=>?_
 show cM K _ _ H4
 have s04:=((s1.trans s2).trans s3).trans s4
 unfold cM
 walk_at "w"
 refine ⟨by decide,?_⟩
 rcases (show x % 7=0∨x % 7=1∨x % 7=2∨x % 7=3∨x % 7=4∨x % 7=5∨x % 7=6 by omega) with e | e | e | e | e | e | e
 · rw [e]; exact ixL e4 (aG (j:=0) rfl) (q _ _ s04 B0)
 · rw [e]; exact ixL e4 (aG (j:=1) rfl) (q _ _ s04 B1)
 · rw [e]; exact ixL e4 (aG (j:=2) rfl) (q _ _ s04 B2)
 · rw [e]; exact ixL e4 (aG (j:=3) rfl) (q _ _ s04 B3)
 · rw [e]; exact ixL e4 (aG (j:=4) rfl) (q _ _ s04 (B45 48 (by decide) (by decide)))
 · rw [e]; exact ixL e4 (aG (j:=5) rfl) (q _ _ s04 (B45 120 (by decide) (by decide)))
 · rw [e]; exact ixL e4 (aG (j:=6) rfl) (q _ _ s04 B6)
def D3 (ws ls:List (List Nat)) (en:List Nat) (i:Nat):Prop:=i < 5∧(flW ws=none→i=0)∧(∀ h w g,flW ws=some (h,w,g)→¬ FlOk h w g→i=1)∧
 (∀ h w g,flW ws=some (h,w,g)→FlOk h w g→∃ os:List (Option RR),(∀ H,Lns H h w g (lsV ls) os)∧(12 < ls.length→i=2)∧(ls.length≤12→none∈os→i=3)∧(ls.length≤12→∀ rows:List RR,os=rows.map some→¬ GoodL h.toNat w.toNat g en∧i=4))
inductive HdS (h w g:Int) (ws:List (List Nat)):Nat→Prop
 | good:flW ws=some (h,w,g)→HdS h w g ws 9
 | text:flW ws=none→HdS h w g ws 0
 | floor (h' w' g':Int):flW ws=some (h',w',g')→¬ FlOk h' w' g'→HdS h w g ws 1
inductive LnS (ls:List (List Nat)) (os:List (Option RR)):Nat→Prop
 | good (rows:List RR):ls.length≤12→os=rows.map some→LnS ls os 9
 | many:12 < ls.length→LnS ls os 2
 | rule:ls.length≤12→none∈os→LnS ls os 3
inductive EnS (h w g:Int) (en:List Nat):Nat→Prop
 | good:GoodL h.toNat w.toNat g en→EnS h w g en 9
 | bad:¬ GoodL h.toNat w.toNat g en→EnS h w g en 4
theorem oK {rows:List RR}:(none:Option RR)∉rows.map some:=by simp
theorem D3.of {h w g:Int} {ws ls:List (List Nat)} {os:List (Option RR)} {en:List Nat} {d1 d2 d3:Nat} (F:FlOk h w g) (a:HdS h w g ws d1) (L:∀ H,Lns H h w g (lsV ls) os) (b:LnS ls os d2) (c:EnS h w g en d3) (hd:min d1 (min d2 d3) < 9):D3 ws ls en (min d1 (min d2 d3)):=by
 cases a with
 | text e=>
  refine ⟨by omega,fun _=>by omega,fun h w g z=>?_,fun h w g z=>?_⟩
  · rw [e] at z; cases z
  · rw [e] at z; cases z
 | floor h' w' g' e nF=>
  have em:min 1 (min d2 d3)=1:=by cases b <;> cases c <;> rfl
  refine ⟨by omega,fun z=>(by rw [e] at z; cases z),fun h w g z _=>em,fun h w g z F2=>?_⟩
  rw [e] at z
  cases z
  exact absurd F2 nF
 | good e=>
  refine ⟨?_,fun z=>(by rw [e] at z; cases z),fun h w g z nF=>(by rw [e] at z; cases z; exact absurd F nF),fun h w g z _=>?_⟩
  · cases b <;> cases c <;> first | (exact absurd hd (by decide)) | decide
  · rw [e] at z
    cases z
    refine ⟨os,L,fun n12=>?_,fun n12 hn=>?_,fun n12 rows eo=>?_⟩
    · cases b with
      | good _ h1 _=>omega
      | many _=>cases c <;> rfl
      | rule h1 _=>omega
    · cases b with
      | good rows _ eo=>rw [eo] at hn; exact absurd hn oK
      | many h1=>omega
      | rule _ _=>cases c <;> rfl
    · cases b with
      | good _ _ _=>
       cases c with
       | good _=>exact absurd hd (by decide)
       | bad ng=>exact ⟨ng,rfl⟩
      | many h1=>omega
      | rule _ hn=>rw [eo] at hn; exact absurd hn oK
structure Bn73 (h w g:Int) (ws ls:List (List Nat)) (p1 en:List Nat) (d:Nat):Prop where
 hd:HdOk ws
 pt:sP p1 ls
 l1:p1.length≤300
 b1:124∉p1
 n:ls.length≤13
 le:en.length≤200
 be:124∉en
 due:d=9∨(d < 9∧D3 ws ls en d)
theorem uW {s:List Nat} (hs:s≠[]):∀ {ls:List (List Nat)},catS s ls=[]→ls=[]∨ls=[[]]
 | [],_=>.inl rfl
 | [x],e=>.inr (by rw [show x=[] from e])
 | x::y::r,e=>by
  have e:x++(s++catS s (y::r))=[]:=e
  have:=(List.append_eq_nil_iff.mp (List.append_eq_nil_iff.mp e).2).1
  exact absurd this hs
theorem nY {s:List Nat} {x:Nat}:∀ {rs:List (List Nat)},x∈catS s rs→x∈s∨∃ r∈rs,x∈r
 | [],h=>by cases h
 | [r],h=>.inr ⟨r,List.mem_cons_self,h⟩
 | a::b::r,h=>by
  have h:x∈a++(s++catS s (b::r)):=h
  rcases List.mem_append.mp h with h | h
  · exact .inr ⟨a,List.mem_cons_self,h⟩
  rcases List.mem_append.mp h with h | h
  · exact .inl h
  rcases nY h with h | ⟨z,hz,hx⟩
  · exact .inl h
  · exact .inr ⟨z,List.mem_cons_of_mem _ hz,hx⟩
theorem nZ {s:List Nat} {b:Nat}:∀ {rs:List (List Nat)},(∀ r∈rs,r.length≤b)→(catS s rs).length≤rs.length*(b+s.length)
 | [],_=>Nat.zero_le _
 | [x],h=>by
  have:=h x List.mem_cons_self
  show x.length≤1*(b+s.length)
  omega
 | x::y::r,h=>by
  have h1:=h x List.mem_cons_self
  have ih:=nZ (s:=s) (rs:=y::r) fun z hz=>h z (List.mem_cons_of_mem _ hz)
  show (x++(s++catS s (y::r))).length≤(r.length+1+1)*(b+s.length)
  rw [List.length_append,List.length_append,Nat.succ_mul]
  have e:(y::r).length=r.length+1:=rfl
  rw [e] at ih
  omega
theorem Ln73.p1 {h w g:Int} {ls:List (List Nat)} {os:List (Option RR)} (L:Ln73 h w g ls os):sP (catS [59,32] ls) ls∧(catS [59,32] ls).length≤300∧124∉catS [59,32] ls:=by
 refine ⟨?_,?_,fun z=>?_⟩
 · by_cases e:ls=[]
   · subst e; exact .inl ⟨rfl,rfl⟩
   · exact .inr ⟨fun z=>(uW (by decide) z).elim e L.ne,e,rfl,fun l hl=>(L.ok l hl).2.1⟩
 · have:=nZ (s:=[59,32]) (b:=12) fun l hl=>(L.ok l hl).1
   have n:=L.n
   have:ls.length*(12+2)≤13*(12+2):=Nat.mul_le_mul_right _ n
   simp at*
   omega
 · rcases nY z with z | ⟨r,hr,hx⟩
   · simp at z
   · exact (L.ok r hr).2.2.1 hx
def ck (K:PySem.W.Frag):Sp:=fun vs H Q _=>∃ (p Ll:Addr) (h w g x:Int) (rows:List RR) (ct:List Nat),vs=[.int x,.ref p,.ref Ll,.str (tx ct)]∧IsFl H p h w g∧FlOk h w g∧H Ll=some (.lst ((rows.map RR.txt).map V.str))∧G73 h w g rows∧GoodL h.toNat w.toNat g ct∧ct.length≤60∧
 ∀ T ws ls p1 en (d:Nat) H',Same H H'→H' T=some (.tup [hdV ws,.str (tx p1),.str (tx en),.int d])→Bn73 h w g ws ls p1 en d→Q (.ref T) H'
theorem oM {K:PySem.W.Frag} {vs:List V} {H:Hp} {Q:VK} {E:XK} (h:ck K vs H Q E):vs.length=4:=by
 obtain ⟨_,_,_,_,_,_,_,_,rfl,_⟩:=h; rfl
def fL (K:PySem.W.Frag):TS:=
 (tRet (tTup (tCons (tVar 4) (tCons (tBM K "str" dy (tC (.str (tx [59,32]))) (tCons (tVar 6) tNil)) (tCons (tVar 8) (tCons (tVar 5) tNil))))))
def da (K:PySem.W.Frag):TS:=
 (tSeq (tAsg (tVar 3) (gName 8))
  (tSeq (tIfS (tTest (tOp (cIn K false) (tOp cMod (tVar 0) (tC (.int 7))) (tTup (tCons (tC (.int 2)) (tCons (tC (.int 4)) (tCons (tC (.int 5)) (tCons (tC (.int 6)) tNil))))))) (tSeq (tAsg (tCall (bX K) [] E0 (tCons (tOp cDiv (tVar 0) (tC (.int 13))) (tCons (tVar 1) (tCons (tVar 3) tNil)))) (gName 8))
  (tAsg (tCB kMin (tCons (tVar 5) (tCons (tC (.int 4)) tNil))) (gName 5))) tNext)
  (fL K)))
def iT (K:PySem.W.Frag):TS:=
 (tSeq (tIfS (tTest (tOp (cIn K false) (tOp cMod (tVar 0) (tC (.int 7))) (tTup (tCons (tC (.int 1)) (tCons (tC (.int 3)) (tCons (tC (.int 5)) (tCons (tC (.int 6)) tNil))))))) (tSeq (tAsg (tCall (bW K) [] E0 (tCons (tOp cDiv (tVar 0) (tC (.int 11))) (tCons (tVar 1) (tCons (tVar 2) tNil)))) (gTup K 2 (gCons (gName 6) (gCons (gName 7) gNil))))
  (tAsg (tCB kMin (tCons (tVar 5) (tCons (tOp cAdd (tVar 7) (tOp cMul (tCB lG (tCons (tOp (cEq K) (tVar 7) (tC (.int 4))) tNil)) (tC (.int 5)))) tNil))) (gName 5))) tNext)
  (da K))
def fM (K:PySem.W.Frag):TS:=
 (tSeq (tAsg (tCB kList (tCons (tVar 2) tNil)) (gName 6))
  (iT K))
def iU (K:PySem.W.Frag):TS:=
 (tSeq (tIfS (tTest (tOp (cIn K false) (tOp cMod (tVar 0) (tC (.int 7))) (tTup (tCons (tC (.int 0)) (tCons (tC (.int 3)) (tCons (tC (.int 4)) (tCons (tC (.int 6)) tNil))))))) (tAsg (tCall (cj K) [] E0 (tCons (tOp cDiv (tVar 0) (tC (.int 7))) (tCons (tVar 1) tNil))) (gTup K 2 (gCons (gName 4) (gCons (gName 5) gNil)))) tNext)
  (fM K))
def fF (K:PySem.W.Frag):TS:=
 (tSeq (tAsg (tOp cAdd (tOp cAdd (tOp cAdd (tOp cAdd (tCB kStr (tCons (tOp cIx (tVar 1) (tC (.int 0))) tNil)) (tC (.str (tx [32])))) (tCB kStr (tCons (tOp cIx (tVar 1) (tC (.int 1))) tNil))) (tC (.str (tx [32])))) (tCB kStr (tCons (tOp cIx (tVar 1) (tC (.int 2))) tNil))) (gName 4))
  (tSeq (tAsg (tC (.int 9)) (gName 5))
  (iU K)))
section
variable {K:PySem.W.Frag} {H:Hp} {Q:VK} {p Ll:Addr} {h w g x:Int} {rows:List RR} {ct:List Nat} (hp:IsFl H p h w g) (F:FlOk h w g) (hL:H Ll=some (.lst ((rows.map RR.txt).map V.str))) (G:G73 h w g rows) (Gc:GoodL h.toNat w.toNat g ct) (lc:ct.length≤60)
 (q:∀ T ws ls p1 en (d:Nat) H',Same H H'→H' T=some (.tup [hdV ws,.str (tx p1),.str (tx en),.int d])→Bn73 h w g ws ls p1 en d→Q (.ref T) H')
include F q
theorem iV {S:Addr} {ws ls:List (List Nat)} {os:List (Option RR)} {en:List Nat} {d1 d2 d3:Nat} {v7:Option V} (hS:H S=some (.lst (lsV ls))) (O:HdOk ws) (a:HdS h w g ws d1) (L:Ln73 h w g ls os) (b:LnS ls os d2) (c:EnS h w g en d3) (le:en.length≤200) (be:124∉en):
  fL K { nx:=fun _ H'=>Q .non H',rt:=Q } [some (.int x),some (.ref p),some (.ref Ll),some (.str (tx ct)),some (hdV ws),some (.int (min d1 (min d2 d3):Nat)),some (.ref S),v7,some (.str (tx en))] H:=by
 obtain ⟨P,l1,b1⟩:=L.p1
 unfold fL
 walk_at "w"
 refine ⟨fA,?_⟩
 refine jY hS (dg (by have:=L.n; simp; omega) (fun t ht=>by
  obtain ⟨l,hl,rfl⟩:=List.mem_map.mp ht
  rw [ay]
  have:=(L.ok l hl).1
  omega) (by rw [ay]; decide)) ?_
 rw [g8,ib]
 refine ⟨aq (by show (4:Nat)≤1000; decide),fun T hT=>?_⟩
 refine q T ws ls _ en _ _ ((Same.refl H).laid hT) af ⟨O,P,l1,b1,L.n,le,be,?_⟩
 by_cases h9:min d1 (min d2 d3) < 9
 · exact .inr ⟨h9,D3.of F a L.ln b c h9⟩
 · left
   cases a <;> cases b <;> cases c <;> first | rfl | exact absurd (by decide) h9
include hp Gc lc
theorem iW {S:Addr} {ws ls:List (List Nat)} {os:List (Option RR)} {d1 d2:Nat} {v7:Option V} (hS:H S=some (.lst (lsV ls))) (O:HdOk ws) (a:HdS h w g ws d1) (L:Ln73 h w g ls os) (b:LnS ls os d2):
  da K { nx:=fun _ H'=>Q .non H',rt:=Q } [some (.int x),some (.ref p),some (.ref Ll),some (.str (tx ct)),some (hdV ws),some (.int (min d1 d2:Nat)),some (.ref S),v7,none] H:=by
 unfold da
 walk_at "w"
 rw [aO]
 walk_at "w"
 refine ⟨by decide,aq (by show (4:Nat)≤1000; decide),fun T hT=>?_⟩
 have s1:Same H (upd H T (.tup [V.int 2,V.int 4,V.int 5,V.int 6])):=(Same.refl H).laid hT
 have e1:(upd H T (.tup [V.int 2,V.int 4,V.int 5,V.int 6])) T=some (.tup (([2,4,5,6]:List Int).map V.int)):=af
 generalize upd H T (.tup [V.int 2,V.int 4,V.int 5,V.int 6])=H1 at*
 rw [qO e1]
 cases hb:decide (x % 7∈([2,4,5,6]:List Int)) with
 | true=>
  refine ⟨_,rfl,iteT ?_⟩
  walk_at "w"
  refine ⟨(show CDiv x 13 from ⟨by decide,by decide⟩),?_⟩
  refine ⟨p,h,w,g,_,ct,rfl,s1 _ _ hp,F,Gc,lc,fun en H2 s2 B=>?_⟩
  walk_at "w"
  have em:(if (4:Int) < ((min d1 d2:Nat):Int) then (4:Int) else ((min d1 d2:Nat):Int))=((min d1 (min d2 4):Nat):Int):=by
   cases a <;> cases b <;> decide
  rw [em]
  have s12:=s1.trans s2
  exact iV F (fun T ws ls p1 en d H' s'=>q T ws ls p1 en d H' (s12.trans s')) (s12 _ _ hS) O a L b (.bad B.bad) B.len B.bar
 | false=>
  refine ⟨_,rfl,iteF ?_⟩
  have em:min d1 d2=min d1 (min d2 9):=by cases a <;> cases b <;> decide
  rw [em]
  exact iV F (fun T ws ls p1 en d H' s'=>q T ws ls p1 en d H' (s1.trans s')) (s1 _ _ hS) O a L b (.good Gc) (by omega) (fun z=>by have:=mM Gc 124 z; omega)
include hL G
theorem iX {ws:List (List Nat)} {d1:Nat} (O:HdOk ws) (a:HdS h w g ws d1):
  fM K { nx:=fun _ H'=>Q .non H',rt:=Q } [some (.int x),some (.ref p),some (.ref Ll),some (.str (tx ct)),some (hdV ws),some (.int (d1:Nat)),none,none,none] H:=by
 have rn:=G.n
 have Lg:Ln73 h w g (rows.map RR.cd) (rows.map some):=⟨by simp; omega,fun l hl=>(G.all l hl).1,fun z=>(by have:=G.all [] (by rw [z]; simp); exact this.2 rfl),G.ln⟩
 unfold fM
 walk_at "w"
 refine qw hL fun S hS=>?_
 rw [RR.cds] at hL ⊢
 have s1:Same H (upd H S (.lst (lsV (rows.map RR.cd)))):=(Same.refl H).laid hS
 have e1:(upd H S (.lst (lsV (rows.map RR.cd)))) S=some (.lst (lsV (rows.map RR.cd))):=af
 generalize upd H S (.lst (lsV (rows.map RR.cd)))=H1 at*
 unfold iT
 rw [aM,aO]
 walk_at "w"
 refine ⟨by decide,aq (by show (4:Nat)≤1000; decide),fun T hT=>?_⟩
 have s2:Same H1 (upd H1 T (.tup [V.int 1,V.int 3,V.int 5,V.int 6])):=(Same.refl H1).laid hT
 have e2:(upd H1 T (.tup [V.int 1,V.int 3,V.int 5,V.int 6])) T=some (.tup (([1,3,5,6]:List Int).map V.int)):=af
 generalize upd H1 T (.tup [V.int 1,V.int 3,V.int 5,V.int 6])=H2 at*
 have s12:=s1.trans s2
 rw [qO e2]
 cases hb:decide (x % 7∈([1,3,5,6]:List Int)) with
 | true=>
  refine ⟨_,rfl,iteT ?_⟩
  walk_at "w"
  refine ⟨(show CDiv x 11 from ⟨by decide,by decide⟩),?_⟩
  refine ⟨p,Ll,h,w,g,_,rows,rfl,s12 _ _ hp,F,by rw [RR.cds]; exact s12 _ _ hL,G,fun T2 A ls os e H3 s3 eT eA L he=>?_⟩
  have s13:=s12.trans s3
  refine qz eT rfl ?_
  rw [qA]
  have go:∀ (d2:Nat),LnS ls os d2→da K { nx:=fun _ H'=>Q .non H',rt:=Q } [some (.int x),some (.ref p),some (.ref Ll),some (.str (tx ct)),some (hdV ws),some (.int (min d1 d2:Nat)),some (.ref A),some (.int e),none] H3:=fun d2 b=>
   iW (s13 _ _ hp) F Gc lc (fun T ws ls p1 en d H' s'=>q T ws ls p1 en d H' (s13.trans s')) eA O a L b
  show tAsg _ _ _ [some (.int x),some (.ref p),some (.ref Ll),some (.str (tx ct)),some (hdV ws),some (.int (d1:Nat)),some (.ref A),some (.int e),none] H3
  walk_at "w"
  rcases he with ⟨rfl,h12⟩ | ⟨rfl,h12,hno⟩ | ⟨rfl,el,eo⟩
  · have em:(if ((2:Nat):Int)+(if decide (((2:Nat):Int)=4)=true then (1:Int) else 0)*5 < (d1:Int) then ((2:Nat):Int)+(if decide (((2:Nat):Int)=4)=true then (1:Int) else 0)*5 else (d1:Int))=((min d1 2:Nat):Int):=by cases a <;> decide
    rw [j4]
    walk_at "w"
    refine ⟨.inl ⟨by decide,by decide⟩,?_⟩
    first | rw [em] | skip
    exact go 2 (.many h12)
  · have em:(if ((3:Nat):Int)+(if decide (((3:Nat):Int)=4)=true then (1:Int) else 0)*5 < (d1:Int) then ((3:Nat):Int)+(if decide (((3:Nat):Int)=4)=true then (1:Int) else 0)*5 else (d1:Int))=((min d1 3:Nat):Int):=by cases a <;> decide
    rw [j4]
    walk_at "w"
    refine ⟨.inl ⟨by decide,by decide⟩,?_⟩
    first | rw [em] | skip
    exact go 3 (.rule h12 hno)
  · have em:(if ((4:Nat):Int)+(if decide (((4:Nat):Int)=4)=true then (1:Int) else 0)*5 < (d1:Int) then ((4:Nat):Int)+(if decide (((4:Nat):Int)=4)=true then (1:Int) else 0)*5 else (d1:Int))=((min d1 9:Nat):Int):=by cases a <;> decide
    rw [j4]
    walk_at "w"
    refine ⟨.inl ⟨by decide,by decide⟩,?_⟩
    first | rw [em] | skip
    exact go 9 (.good rows (by rw [el]; simp; omega) eo)
 | false=>
  refine ⟨_,rfl,iteF ?_⟩
  have em:d1=min d1 9:=by cases a <;> decide
  rw [em]
  exact iW (s12 _ _ hp) F Gc lc (fun T ws ls p1 en d H' s'=>q T ws ls p1 en d H' (s12.trans s')) (s2 _ _ e1) O a Lg (.good rows (by simp; omega) rfl)
end
theorem oN {K:PySem.W.Frag} {vs:List V} {H:Hp} {Q:VK} {E:XK} (h:ck K vs H Q E):fF K { nx:=fun _ H'=>Q .non H',rt:=Q } (start ["_law_cell","_law_floor_here","_law_lines_here","_law_clues_here","_law_head_here","_law_due","_law_some","_law_other","_law_end"] vs) H:=by
 obtain ⟨p,Ll,h,w,g,x,rows,ct,rfl,hp,F,hL,G,Gc,lc,q⟩:=h
 obtain ⟨h0,h1,w0,w1,m16,g0,g1⟩:=id F
 have sh:=fS (show 0≤h by omega) (show h < 100 by omega)
 have sw:=fS (show 0≤w by omega) (show w < 100 by omega)
 have sg:=fS (show 0≤g by omega) (show g < 100 by omega)
 have lg:∀ i:Int,0≤i→i < 100→i.natAbs.log2 < 1920:=fun i a b=>by have:=j2 (n:=i.toNat) (by omega); rw [Int.toNat_of_nonneg a] at this; exact this
 have lA:=dh (n:=h.toNat)
 have lB:=dh (n:=w.toNat)
 have lC:=dh (n:=g.toNat)
 obtain ⟨k0,k1,k2,k3⟩:=qZ F
 show fF K _ [some (.int x),some (.ref p),some (.ref Ll),some (.str (tx ct)),none,none,none,none,none] H
 unfold fF
 walk_at "w"
 refine ixT hp (v:=V.int h) rfl ?_
 walk_at "w"
 rw [sh]
 refine ⟨lg h (by omega) (by omega),?_⟩
 rw [bb]
 refine ⟨cQ (by simp only [List.length_cons,List.length_nil]; omega),?_⟩
 refine ixT hp (v:=V.int w) rfl ?_
 walk_at "w"
 rw [sw]
 refine ⟨lg w (by omega) (by omega),?_⟩
 rw [bb,bb]
 refine ⟨cQ (by simp only [List.length_append,List.length_cons,List.length_nil]; omega),cQ (by simp only [List.length_append,List.length_cons,List.length_nil]; omega),?_⟩
 refine ixT hp (v:=V.int g) rfl ?_
 walk_at "w"
 rw [sg]
 refine ⟨lg g (by omega) (by omega),?_⟩
 rw [bb]
 refine ⟨cQ (by simp only [List.length_append,List.length_cons,List.length_nil]; omega),?_⟩
 have eh:V.str (tx (numC h.toNat++[32]++numC w.toNat++[32]++numC g.toNat))=hdV [numC h.toNat,numC w.toNat,numC g.toNat]:=by simp [hdV,catL]
 rw [eh]
 unfold iU
 rw [aM,aO]
 walk_at "w"
 refine ⟨by decide,aq (by show (4:Nat)≤1000; decide),fun T hT=>?_⟩
 have s1:Same H (upd H T (.tup [V.int 0,V.int 3,V.int 4,V.int 6])):=(Same.refl H).laid hT
 have e1:(upd H T (.tup [V.int 0,V.int 3,V.int 4,V.int 6])) T=some (.tup (([0,3,4,6]:List Int).map V.int)):=af
 generalize upd H T (.tup [V.int 0,V.int 3,V.int 4,V.int 6])=H1 at*
 rw [qO e1]
 cases hb:decide (x % 7∈([0,3,4,6]:List Int)) with
 | true=>
  refine ⟨_,rfl,iteT ?_⟩
  walk_at "w"
  refine ⟨(show CDiv x 7 from ⟨by decide,by decide⟩),?_⟩
  refine ⟨p,h,w,g,_,rfl,s1 _ _ hp,F,fun T2 ws e H2 s2 eT he=>?_⟩
  have s12:=s1.trans s2
  refine qz eT rfl ?_
  rw [qA]
  have S:HdOk ws∧HdS h w g ws e:=by
   rcases he with ⟨rfl,hw⟩ | ⟨rfl,hw⟩
   · exact ⟨(k0 ws hw).1,.text (k0 ws hw).2⟩
   · obtain ⟨o,h',w',g',e1,e2⟩:=k1 ws hw
     exact ⟨o,.floor h' w' g' e1 e2⟩
  exact iX (s12 _ _ hp) F (s12 _ _ hL) G Gc lc (fun T ws ls p1 en d H' s'=>q T ws ls p1 en d H' (s12.trans s')) S.1 S.2
 | false=>
  refine ⟨_,rfl,iteF ?_⟩
  exact iX (d1:=9) (s1 _ _ hp) F (s1 _ _ hL) G Gc lc (fun T ws ls p1 en d H' s'=>q T ws ls p1 en d H' (s1.trans s')) k2 (.good k3)
end L2
namespace L2
open PySem PySem.Spec PyProof.Rows
structure IsO (K:PySem.W.Frag) (D:Addr):Prop where
 hg:PySem.W.plainGet K D "__class__"=true
 hd:PySem.W.hasDictIn K D=true
 ha:PySem.W.findIn K (.ref D) "__class__"=some (some (.builtin "object.__class__"))
 hn:PySem.W.specialIn K (.builtin "object.__class__") "__get__"=some (some (.builtin "getset_descriptor.__get__"))
 ht:PySem.W.takesIn K (.builtin "object.__class__")=some true
 hm:PySem.W.mroIn K D (.type "object")=some true
 k1:PySem.W.kitOne K (.ref D) (.ref D)=some true
structure GIs (K:PySem.W.Frag) (mg:Str→Option Value) (x:Str) (D:Addr):Prop where
 at_:mg x=some (.ref D)
 is_:IsO K D
def kIsO (D:Addr):List V→Hp→VK→Prop:=fun vs H Q=>∃ a dx fs,vs=[.ref a,.ref D]∧H a=some (.ins D dx fs)∧Q (.bl true) H
theorem ue {X:Cx} {D:Addr} (Z:IsO X.K D):CallR X (.builtin "isinstance") (kIsO D):=by
 intro pins s σ H xs us Q I r h
 obtain ⟨a,dx,fs,rfl,hH,q⟩:=h
 obtain ⟨u,w',rfl,ru,rw'⟩:=p5 r
 cases ru
 cases rw'
 obtain ⟨mA,O,_⟩:=jU I.hok hH
 obtain ⟨od,J,_⟩:=O.look
 exact PySem.W.kia_one (PySem.W.kitx_own Z.hg Z.hd Z.ha Z.hn Z.ht Z.hm) I.kIn J Z.k1 (fun z=>nomatch z) fun tk=>⟨.bl true,H,I.tok tk,rfl,q⟩
theorem xp {D a dx:Addr} {fs:List (Str × V)} {H:Hp} {Q:VK} (e:H a=some (.ins D dx fs)) (q:Q (.bl true) H):kIsO D [.ref a,.ref D] H Q:=⟨a,dx,fs,rfl,e,q⟩
end L2
namespace L2
open PySem PySem.Spec PyProof.Rows
local macro_rules | `(tactic| walk_at "w")=>`(tactic| (first | simp only [aM,lF,lE,kb,ge,jp,g9,hJ,kc,j8,jj,ka,if_true,if_false,Bool.false_eq_true,decide_true,decide_false,gn,gp,jG,fe,dm,gk,iC,gm,fb,iA,iB,eY,jD,fg,fh,fj,fk,fm,fo,fi,iD,iE,iF,iz,jF,Bool.not_true,Bool.not_false,eu,fV,bi,gs,w_c,jc,fW,eC,eD,eE,w_b,w_not,gt,jd,eF,eH,gu,gw,eI,je,eJ,gy,gz,jf,gA,dc,eK,eM,eP,cz,de,cA,cp,cq,bN,gB,gD,gE,gF,gG,gH,gI,gJ,gK,gL,gM,gN,jg,eQ,cr,eS,jh,eV,df,cu,gO,gP,eW,dw,eX,
 List.getElem?_cons_zero,List.getElem?_cons_succ,Option.some.injEq,exists_eq_left',exists_eq_left,List.set_cons_zero,List.set_cons_succ,bY,V.int.injEq,V.bl.injEq,V.ref.injEq,V.str.injEq,List.append_nil,List.nil_append,List.cons_append] | dsimp only | skip))
def ra (K:PySem.W.Frag) (c:RCl RK) (d:RCl PzK):Sp:=fun vs H Q _=>∃ (a:Addr) (ns:List Int),vs=[.ref a]∧SqL K H a (ns.map V.int)∧ns.length≤63∧(∀ k,k≠.Rule→c.ok k=true)∧d.ok .Puzzle=true∧∀ H',Q (.bl true) H'
def oO (K:PySem.W.Frag):Sp:=fun vs H Q _=>∃ (a:Addr) (ns:List Int),vs=[.ref a]∧SqL K H a (ns.map V.int)∧ns.length≤63∧∀ H',Q (.bl true) H'
theorem wX {K:PySem.W.Frag} {c:RCl RK} {d:RCl PzK} {vs:List V} {H:Hp} {Q:VK} {E:XK} (h:ra K c d vs H Q E):vs.length=1:=by
 obtain ⟨_,_,rfl,_⟩:=h; rfl
def uX (K:PySem.W.Frag) (c:RCl RK) (d:RCl PzK):TS:=
 (tSeq (tAsg (tLst (tCons (tOp cAdd (tOp cAdd (tVar 9) (tC (.str (tx [32,124,32])))) (tVar 10)) (tCons (tOp cAdd (tVar 13) (tC (.str (tx [32,124,32])))) (tCons (tOp cAdd (tOp cAdd (tOp cAdd (tOp cAdd (tVar 9) (tC (.str (tx [124])))) (tVar 10)) (tC (.str (tx [32,124,32])))) (tVar 11)) tNil)))) (gName 14))
  (tIfS (tNot (tB (tCall (aZ K c d) [] E0 (tCons (tOp cIx (tVar 14) (tOp cMod (tVar 8) (tC (.int 3)))) (tCons (tC (.int 0)) tNil))))) (tRet (tC (.bl false))) tNext))
def kW (K:PySem.W.Frag) (c:RCl RK) (d:RCl PzK):TS:=
 (tRet (tAndV (tCB (kIsO (d.A .Puzzle)) (tCons (tVar 15) (tCons (tC (.ref (d.A .Puzzle))) tNil))) (tAndV (tOp (cEq K) (tCB kLen (tCons (iG d d.ok "clues" (ke K c d) (tVar 15) tNil) tNil)) (tVar 2)) (tOp (cEq K) (iG d d.ok "lines" (hV K c d) (tVar 15) tNil) (tVar 4)))))
def kX (K:PySem.W.Frag) (c:RCl RK) (d:RCl PzK):TS:=
 (tSeq (tAsg (tCall (bg K c d) [] E0 (tCons (tOp cAdd (tOp cAdd (tOp cAdd (tOp cAdd (tVar 9) (tC (.str (tx [32,124,32])))) (tBM K "str" dy (tC (.str (tx [59,32]))) (tCons (tVar 4) tNil))) (tC (.str (tx [32,124,32])))) (tVar 7)) tNil)) (gName 15))
  (kW K c d))
def kY (K:PySem.W.Frag) (c:RCl RK) (d:RCl PzK):TS:=
 (tSeq (tAsg (tBM K "str" dy (tC (.str (tx [32]))) (tCons (tComp [none,none] (iTup K (tVar 1)) (gName 1) tTrue (tCB kStr (tCons (tVar 1) tNil))) tNil)) (gName 9))
  (kX K c d))
def kZ (K:PySem.W.Frag) (c:RCl RK) (d:RCl PzK):TS:=
 (tSeq (tFor (io (tCons (tOp cAdd (tC (.int 2)) (tCB kMin (tCons (tCB (kLenS K) (tCons (tVar 0) tNil)) (tCons (tC (.int 20)) tNil)))) tNil)) (gName 3)
  (tSeq (tAsg (tCall (aQ K) [] E0 (tCons (tVar 0) (tCons (tOp cAdd (tC (.int 60)) (tVar 3)) tNil))) (gName 8))
  (tSeq (tAsg (tCall (ck K) [] E0 (tCons (tVar 8) (tCons (tVar 1) (tCons (tVar 4) (tCons (tVar 7) tNil))))) (gTup K 4 (gCons (gName 9) (gCons (gName 10) (gCons (gName 11) (gCons (gName 12) gNil))))))
  (tSeq (tAsg (tOp cAdd (tOp cAdd (tOp cAdd (tOp cAdd (tVar 9) (tC (.str (tx [32,124,32])))) (tVar 10)) (tC (.str (tx [32,124,32])))) (tVar 11)) (gName 13))
  (tSeq (tIfS (tAnd (tTest (tOp (cCmp fun i j=>decide (i < j)) (tVar 12) (tC (.int 9)))) (tNot (tB (tCall (aZ K c d) [] E0 (tCons (tVar 13) (tCons (tVar 12) tNil)))))) (tRet (tC (.bl false))) tNext)
  (uX K c d))))))
  (kY K c d))
def pz (K:PySem.W.Frag) (c:RCl RK) (d:RCl PzK):TS:=
 (tSeq (tAsg (tBM K "str" dy (tC (.str (tx [47]))) (tCons (tVar 5) tNil)) (gName 7))
  (kZ K c d))
def k8 (K:PySem.W.Frag) (c:RCl RK) (d:RCl PzK):TS:=
 (tSeq (tAsg (tLst tNil) (gName 5))
  (tSeq (tFor (io (tCons (tOp cIx (tVar 1) (tC (.int 0))) tNil)) (gName 3)
  (tSeq (sComp 6 [none,none,some 1,some 3,some 0] (io (tCons (tOp cIx (tVar 1) (tC (.int 1))) tNil)) (gName 1) tTrue (tOp cMod (tCall (aQ K) [] E0 (tCons (tVar 4) (tCons (tOp cAdd (tOp cAdd (tC (.int 2)) (tVar 3)) (tOp cMul (tC (.int 6)) (tVar 1))) tNil))) (tOp cAdd (tOp cIx (tVar 2) (tC (.int 2))) (tC (.int 1)))))
  (tDrop (tBM K "list" i5 (tVar 5) (tCons (tBM K "str" dy (tC (.str (tx []))) (tCons (tComp [none,none] (iList K (tVar 6)) (gName 1) tTrue (tOp cIx (tC (.str (tx [46,49,50,51,52,53,54]))) (tVar 1))) tNil)) tNil)))))
  (pz K c d)))
def n9 (K:PySem.W.Frag) (c:RCl RK) (d:RCl PzK):TS:=
 (tSeq (tAsg (tCall (bV K) [] E0 (tCons (tCall (aQ K) [] E0 (tCons (tVar 0) (tCons (tC (.int 0)) tNil))) tNil)) (gName 1))
  (tSeq (tAsg (tOp cMul (tOp cIx (tVar 1) (tC (.int 0))) (tOp cIx (tVar 1) (tC (.int 1)))) (gName 2))
  (tSeq (sComp 4 [none,none,some 0] (io (tCons (tOp cMod (tCall (aQ K) [] E0 (tCons (tVar 0) (tCons (tC (.int 1)) tNil))) (tC (.int 13))) tNil)) (gName 1) tTrue (tOp cAdd (tOp cAdd (tC (.str (tx [99,111,117,110,116,32]))) (tCB kStr (tCons (tOp cMod (tCall (aQ K) [] E0 (tCons (tVar 2) (tCons (tOp cAdd (tC (.int 20)) (tVar 1)) tNil))) (tC (.int 100))) tNil))) (tC (.str (tx [32,49,32,48])))))
  (k8 K c d))))
theorem k9 (c:Nat):∀ rs:List (List Nat),catS [c] rs=catL c rs
 | []=>rfl
 | [x]=>rfl
 | x::y::r=>by
  show x++([c]++catS [c] (y::r))=x++c::catL c (y::r)
  rw [k9 c (y::r)]
  rfl
theorem pA:∀ xs:List Nat,catS [] (xs.map fun c=>[c])=xs
 | []=>rfl
 | [x]=>rfl
 | x::y::r=>by
  show [x]++([]++catS [] ((y::r).map fun c=>[c]))=x::y::r
  rw [pA (y::r)]
  rfl
theorem vh {z g:Int} (h0:0≤z) (h1:z≤g) (h6:g≤6):atI (tx [46,49,50,51,52,53,54]).cps.toList z=some (figs.getD z.toNat 0)∧okc g (figs.getD z.toNat 0):=by
 obtain ⟨n,rfl⟩:∃ n:Nat,z=n:=⟨z.toNat,by omega⟩
 have t:((List.range 7).all fun (n:Nat)=>decide ((figs:List Nat)[n]? =some (figs.getD n 0))&&decide (figs.getD n 0∈figs)&&decide (valc (figs.getD n 0)=(n:Int)))=true:=by decide+kernel
 have tn:=List.all_eq_true.mp t n (List.mem_range.mpr (by omega))
 simp only [Bool.and_eq_true,decide_eq_true_eq] at tn
 refine ⟨?_,tn.1.2,by rw [show ((n:Nat):Int).toNat=n from rfl,tn.2]; exact h1⟩
 rw [fc]
 exact aG tn.1.1
theorem sR {i j k l:Nat} {x y z u:V} {H:Hp} {σ:St} {q:St→Hp→Prop} (h:q ((((σ.set i (some x)).set j (some y)).set k (some z)).set l (some u)) H):gCons (gName i) (gCons (gName j) (gCons (gName k) (gCons (gName l) gNil))) [x,y,z,u] σ H q:=⟨x,_,rfl,y,_,rfl,z,_,rfl,u,_,rfl,rfl,h⟩
def iN (n:Nat):RR:=⟨.Count,n,1,[0],[0]⟩
theorem vX {h w g:Int} {n:Nat} (F:FlOk h w g) (hn:n < 100):(iN n).Ok h w g:=by
 obtain ⟨h0,h1,w0,w1,m16,g0,g1⟩:=F
 have mpos:1≤h*w:=by
  have:=Int.mul_le_mul h0 w0 (by decide) (by omega)
  simpa using this
 refine ⟨(by show RK.Count≠RK.Rule; decide),(by show n≤99; omega),fun z=>absurd z (by show ¬ true=false; decide),fun _=>⟨by show (1:Int)≤((1:Nat):Int); decide,by show (((1:Nat):Int))≤g; omega⟩,fun z=>absurd z (by show ¬ true=false; decide),⟨fun _=>⟨by show ([0]:List Nat)≠[]; decide,by show ([0]:List Nat).length≤16; decide,fun n hn=>?_,by show ([0]:List Nat).Nodup; decide,rfl⟩,fun z=>absurd z (by show ¬ false=true; decide)⟩,fun x hx=>?_,by show ([0]:List Nat).length≤16; decide⟩
 · have:n=0:=by simpa [iN] using hn
   subst this
   show (0:Int) < h*w
   omega
 · have:x=0:=by simpa [iN] using hx
   omega
theorem rY {n:Nat} (hn:n < 100):(iN n).cd=[99,111,117,110,116,32]++numC n++[32,49,32,48]∧LC (iN n).cd∧(iN n).cd≠[]:=by
 have t:((List.range 100).all fun n=>decide ((iN n).cd=[99,111,117,110,116,32]++numC n++[32,49,32,48])&&lcB (iN n).cd&&!decide ((iN n).cd=[]))=true:=by decide+kernel
 have tn:=List.all_eq_true.mp t n (List.mem_range.mpr hn)
 simp only [Bool.and_eq_true,decide_eq_true_eq,Bool.not_eq_true',decide_eq_false_iff_not] at tn
 exact ⟨tn.1.1,q0 tn.1.2,tn.2⟩
section
variable {h w g:Int} {ws ls:List (List Nat)} {p1 en:List Nat} {d:Nat}
theorem Bn73.three (B:Bn73 h w g ws ls p1 en d) (hd:d < 9):Due73 (catL 32 ws++[32,124,32]++p1++[32,124,32]++en) d:=by
 have D:=B.due.resolve_left (by omega)
 have e:catL 32 ws++[32,124,32]++p1++[32,124,32]++en=catS [32,124,32] [catL 32 ws,p1,en]:=by
  show _=catL 32 ws++([32,124,32]++(p1++([32,124,32]++en)))
  simp
 rw [e]
 obtain ⟨_,d0,d1,d2,d3⟩:=D
 refine .three ws p1 en ls d (jK (by simp) fun r hr=>?_) B.hd.ln B.pt (by have:=B.l1; omega) (by have:=B.le; omega) (by have:=B.n; omega) d0 d1 d2 d3
 simp only [List.mem_cons,List.not_mem_nil,or_false] at hr
 rcases hr with rfl | rfl | rfl
 · exact B.hd.bar
 · exact B.b1
 · exact B.be
theorem Bn73.two (B:Bn73 h w g ws ls p1 en d):Due73 (catL 32 ws++[32,124,32]++p1) 0:=by
 have e:catL 32 ws++[32,124,32]++p1=catS [32,124,32] [catL 32 ws,p1]:=by
  show _=catL 32 ws++([32,124,32]++p1)
  simp
 rw [e]
 refine .parts [catL 32 ws,p1] (jK (by simp) fun r hr=>?_) (by simp) (by simp)
 simp only [List.mem_cons,List.not_mem_nil,or_false] at hr
 rcases hr with rfl | rfl
 · exact B.hd.bar
 · exact B.b1
theorem Bn73.four (B:Bn73 h w g ws ls p1 en d):Due73 (catL 32 ws++[32,124,32]++p1++[32,124,32]++en++[32,124,32]) 0:=by
 have e:catL 32 ws++[32,124,32]++p1++[32,124,32]++en++[32,124,32]=catS [32,124,32] [catL 32 ws,p1,en,[]]:=by
  show _=catL 32 ws++([32,124,32]++(p1++([32,124,32]++(en++([32,124,32]++[])))))
  simp
 rw [e]
 refine .parts [catL 32 ws,p1,en,[]] (jK (by simp) fun r hr=>?_) (by simp) (by simp)
 simp only [List.mem_cons,List.not_mem_nil,or_false] at hr
 rcases hr with rfl | rfl | rfl | rfl
 · exact B.hd.bar
 · exact B.b1
 · exact B.be
 · exact fun z=>by cases z
theorem Bn73.odd (B:Bn73 h w g ws ls p1 en d):Due73 (catL 32 ws++[124]++p1++[32,124,32]++en) 0:=by
 have e:catL 32 ws++[124]++p1++[32,124,32]++en=(catL 32 ws++124::p1)++([32,124,32]++en):=by simp
 rw [e]
 exact .parts [catL 32 ws++124::p1,en] (uc B.hd.bar B.b1 B.be B.hd.last) (by simp) (by simp)
end
theorem rZ {K:PySem.W.Frag} {c:RCl RK} {d:RCl PzK} {H:Hp} {D:Ends} {h w g x:Int} {ws ls:List (List Nat)} {p1 en:List Nat} {e:Nat} {v0 v1 v2 v3 v4 v5 v6 v7 v12 v14 v15:Option V} (hc:∀ k,k≠.Rule→c.ok k=true) (ok:d.ok .Puzzle=true) (B:Bn73 h w g ws ls p1 en e)
  (q:∀ l H',Same H H'→D.nx [v0,v1,v2,v3,v4,v5,v6,v7,some (.int x),some (hdV ws),some (.str (tx p1)),some (.str (tx en)),v12,some (.str (tx (catL 32 ws++[32,124,32]++p1++[32,124,32]++en))),some (.ref l),v15] H'):
  uX K c d D [v0,v1,v2,v3,v4,v5,v6,v7,some (.int x),some (hdV ws),some (.str (tx p1)),some (.str (tx en)),v12,some (.str (tx (catL 32 ws++[32,124,32]++p1++[32,124,32]++en))),v14,v15] H:=by
 have lh:=B.hd.len
 have l1:=B.l1
 have le:=B.le
 unfold uX
 walk_at "w"
 simp only [bb]
 iterate 7 (refine ⟨cQ (by simp only [List.length_append,List.length_cons,List.length_nil]; omega),?_⟩)
 refine ⟨aq (by show (3:Nat)≤1000; decide),fun l n=>?_⟩
 refine bH (M:=fun H'=>tIfS _ _ _ _ _ H') n fun H1 s1 e1=>?_
 show tIfS _ _ _ _ _ H1
 rw [aO]
 walk_at "w"
 refine ⟨by decide,?_⟩
 have sub:∀ {u:List Nat},u.length≤900→Due73 u 0→aZ K c d [.str (tx u),.int 0] H1 (fun x_2 H'=>∃ k,x_2=V.bl k∧if (!k)=true then D.rt (V.bl false) H' else D.nx [v0,v1,v2,v3,v4,v5,v6,v7,some (.int x),some (hdV ws),some (.str (tx p1)),some (.str (tx en)),v12,some (.str (tx (catL 32 ws++[32,124,32]++p1++[32,124,32]++en))),some (.ref l),v15] H') E0:=fun {u} hu D0=>
  ⟨u,0,rfl,hu,ok,hc,D0,fun H2 s2=>⟨true,rfl,iteF (q l H2 (s1.trans s2))⟩⟩
 rcases (show x % 3=0∨x % 3=1∨x % 3=2 by omega) with e | e | e
 · rw [e]; exact ixL e1 (aG (j:=0) rfl) (sub (by simp only [List.length_append,List.length_cons,List.length_nil]; omega) B.two)
 · rw [e]; exact ixL e1 (aG (j:=1) rfl) (sub (by simp only [List.length_append,List.length_cons,List.length_nil]; omega) B.four)
 · rw [e]; exact ixL e1 (aG (j:=2) rfl) (sub (by simp only [List.length_append,List.length_cons,List.length_nil]; omega) B.odd)
structure L73 (K:PySem.W.Frag) (H:Hp) (a p Ll:Addr) (ns:List Int) (h w g:Int) (rows:List RR) (ct:List Nat):Prop where
 hS:SqL K H a (ns.map V.int)
 hn:ns.length≤63
 hp:IsFl H p h w g
 F:FlOk h w g
 hL:H Ll=some (.lst ((rows.map RR.txt).map V.str))
 G:G73 h w g rows
 Gc:GoodL h.toNat w.toNat g ct
 lc:ct.length≤60
theorem L73.same {K:PySem.W.Frag} {H H':Hp} {a p Ll:Addr} {ns:List Int} {h w g:Int} {rows:List RR} {ct:List Nat} (x:L73 K H a p Ll ns h w g rows ct) (s:Same H H'):L73 K H' a p Ll ns h w g rows ct:=⟨s.seq x.hS,x.hn,s _ _ x.hp,x.F,s _ _ x.hL,x.G,x.Gc,x.lc⟩
section
variable {K:PySem.W.Frag} {c:RCl RK} {d:RCl PzK} {H:Hp} {Q:VK} {a p Ll:Addr} {ns:List Int} {h w g:Int} {rows:List RR} {ct:List Nat} (X:L73 K H a p Ll ns h w g rows ct) (hc:∀ k,k≠.Rule→c.ok k=true) (ok:d.ok .Puzzle=true) (k:∀ H',Q (.bl true) H')
include X k
theorem uf {P L G:Addr} {v0 v3 v5 v6 v7 v8 v9 v10 v11 v12 v13 v14:Option V} {cl:List Int} (Y:IsPz H c d P L G h w g rows cl):
  kW K c d { nx:=fun _ H'=>Q .non H',rt:=Q } [v0,some (.ref p),some (.int (h*w)),v3,some (.ref Ll),v5,v6,v7,v8,v9,v10,v11,v12,v13,v14,some (.ref P)] H:=by
 obtain ⟨dx,p0,rs,q1,q2,q3⟩:=id Y.ex
 obtain ⟨h0,h1,w0,w1,m16,g0,g1⟩:=id X.F
 have mpos:0≤h*w:=Int.mul_nonneg (by omega) (by omega)
 have cl1:=Y.C.len
 have sok:∀ t∈rows.map RR.txt,PyData.strOk t=true:=fun t ht=>by
  obtain ⟨r,hr,rfl⟩:=List.mem_map.mp ht
  exact RR.sok X.F (X.G.ok r hr)
 unfold kW
 walk_at "w"
 refine xp q1 ?_
 refine ⟨_,rfl,iteT ?_⟩
 walk_at "w"
 refine methE (k:=.Puzzle) rfl Y.ok q1 (by rfl) ?_
 walk_at "w"
 refine ⟨P,L,G,h,w,g,rows,cl,rfl,Y,fun l1 n1=>?_⟩
 have s1:Same H (upd H l1 (.lst (cl.map V.int))):=(Same.refl H).laid n1
 have e1:(upd H l1 (.lst (cl.map V.int))) l1=some (.lst (cl.map V.int)):=af
 generalize upd H l1 (.lst (cl.map V.int))=H1 at*
 walk_at "w"
 rw [ip e1,List.length_map]
 walk_at "w"
 rw [decide_eq_true (show ((cl.length:Nat):Int)=h*w by omega)]
 first | refine ⟨_,rfl,iteT ?_⟩ | refine iteT ?_
 refine methE (k:=.Puzzle) rfl Y.ok (s1 _ _ q1) (by rfl) ?_
 walk_at "w"
 refine ⟨P,L,G,h,w,g,rows,cl,rfl,Y.same s1,fun l7 H7 s7 n7 e7=>?_⟩
 walk_at "w"
 refine qK e7 ((s1.trans s7) _ _ X.hL) sok sok ?_
 rw [decide_eq_true rfl]
 exact k _
include hc ok
theorem ug {v0 v3 v5 v6 v8 v9 v10 v11 v12 v13 v14:Option V}:
  kY K c d { nx:=fun _ H'=>Q .non H',rt:=Q } [v0,some (.ref p),some (.int (h*w)),v3,some (.ref Ll),v5,v6,some (.str (tx ct)),v8,v9,v10,v11,v12,v13,v14,none] H:=by
 obtain ⟨h0,h1,w0,w1,m16,g0,g1⟩:=id X.F
 have rn:=X.G.n
 have lc:=X.lc
 obtain ⟨_,_,k2,k3⟩:=qZ X.F
 have Lg:Ln73 h w g (rows.map RR.cd) (rows.map some):=⟨by simp; omega,fun l hl=>(X.G.all l hl).1,fun z=>(by have:=X.G.all [] (by rw [z]; simp); exact this.2 rfl),X.G.ln⟩
 obtain ⟨P1,l1,b1⟩:=Lg.p1
 have hpt:H p=some (.tup ((([h.toNat,w.toNat,g.toNat]:List Nat).map fun (n:Nat)=>(n:Int)).map V.int)):=by
  show H p=some (.tup [.int ((h.toNat:Nat):Int),.int ((w.toNat:Nat):Int),.int ((g.toNat:Nat):Int)])
  rw [Int.toNat_of_nonneg (by omega),Int.toNat_of_nonneg (by omega),Int.toNat_of_nonneg (by omega)]
  exact X.hp
 unfold kY
 walk_at "w"
 refine ⟨fA,?_⟩
 rw [rW]
 walk_at "w"
 refine ⟨⟨_,SqT.of hpt⟩,?_⟩
 refine nP hpt (by simp) (fun c hc=>by simp at hc; omega) fun l H1 hl s1 el=>?_
 refine jY el (dg (by simp) (fun t ht=>by
  obtain ⟨z,hz,rfl⟩:=List.mem_map.mp ht
  obtain ⟨n,hn,rfl⟩:=List.mem_map.mp hz
  rw [ay]
  have:=dh (n:=n)
  omega) (by rw [ay]; decide)) ?_
 rw [g8,ib,k9]
 show kX K c d _ [v0,some (.ref p),some (.int (h*w)),v3,some (.ref Ll),v5,v6,some (.str (tx ct)),v8,some (hdV [numC h.toNat,numC w.toNat,numC g.toNat]),v10,v11,v12,v13,v14,none] H1
 have X1:=X.same s1
 have hlen:=k2.len
 generalize [numC h.toNat,numC w.toNat,numC g.toNat]=ws at*
 unfold kX
 walk_at "w"
 rw [bb]
 refine ⟨cQ (by simp only [List.length_cons,List.length_nil]; omega),fA,?_⟩
 have hL1:=X1.hL
 rw [RR.cds] at hL1
 refine jY hL1 (dg (by simp; omega) (fun t ht=>by
  obtain ⟨z,hz,rfl⟩:=List.mem_map.mp ht
  rw [ay]
  have:=(Lg.ok z hz).1
  omega) (by rw [ay]; decide)) ?_
 rw [g8,ib]
 generalize catS [59,32] (rows.map RR.cd)=p1 at*
 refine kU (by simp only [List.length_append,List.length_cons,List.length_nil]; omega) ?_
 walk_at "w"
 simp only [bb]
 refine ⟨cQ (by simp only [List.length_append,List.length_cons,List.length_nil]; omega),cQ (by simp only [List.length_append,List.length_cons,List.length_nil]; omega),?_⟩
 have e:catL 32 ws++[32,124,32]++p1++[32,124,32]++ct=catS [32,124,32] [catL 32 ws,p1,ct]:=by
  show _=catL 32 ws++([32,124,32]++(p1++([32,124,32]++ct)))
  simp
 refine ⟨_,rfl,by simp only [List.length_append,List.length_cons,List.length_nil]; omega,ok,hc,.inr ⟨ws,p1,ct,rows.map RR.cd,?_,k2.ln,P1,by omega,by omega,by simp; omega,⟨fun z=>(by rw [k3] at z; cases z),fun h' w' g' z nF=>(by rw [k3] at z; cases z; exact absurd X.F nF),fun h' w' g' z _=>?_⟩⟩⟩
 · rw [e]
   refine jK (by simp) fun r hr=>?_
   simp only [List.mem_cons,List.not_mem_nil,or_false] at hr
   rcases hr with rfl | rfl | rfl
   · exact k2.bar
   · exact b1
   · exact fun z=>by have:=mM X.Gc 124 z; omega
 · rw [k3] at z
   cases z
   refine ⟨rows.map some,Lg.ln,fun z=>(by simp at z; omega),fun _ z=>absurd z oK,fun _ rows2 eo=>⟨fun z=>absurd X.Gc z,fun _ P L G H2 s2 Y=>?_⟩⟩
   rw [← kS eo] at Y
   exact uf (X1.same s2) k Y
theorem uh {v3 v5 v6:Option V}:
  kZ K c d { nx:=fun _ H'=>Q .non H',rt:=Q } [some (.ref a),some (.ref p),some (.int (h*w)),v3,some (.ref Ll),v5,v6,some (.str (tx ct)),none,none,none,none,none,none,none,none] H:=by
 unfold kZ
 rw [aM,cz]
 walk_at "w"
 refine ⟨a,_,rfl,.inl X.hS,?_⟩
 walk_at "w"
 rw [List.length_map]
 have hn:=X.hn
 refine ⟨_,rfl,by split <;> omega,by split <;> omega,?_⟩
 refine oS (fun i σ H'=>∃ u3 v8 v9 v10 v11 v12 v13 v14:Option V,σ=[some (.ref a),some (.ref p),some (.int (h*w)),u3,some (.ref Ll),v5,v6,some (.str (tx ct)),v8,v9,v10,v11,v12,v13,v14,none]∧Same H H') ⟨_,_,_,_,_,_,_,_,rfl,Same.refl H⟩ ?_ ?_
 · rintro i σ H1 hi ⟨u3,v8,v9,v10,v11,v12,v13,v14,rfl,s1⟩
   have hi2:i < 23:=by
    have:(2+(if (20:Int) < ((ns.length:Nat):Int) then (20:Int) else ((ns.length:Nat):Int))).toNat≤22:=by split <;> omega
    omega
   have X1:=X.same s1
   rw [Int.zero_add,bi]
   show tSeq _ _ _ [some (.ref a),some (.ref p),some (.int (h*w)),some (.int (i:Int)),some (.ref Ll),v5,v6,some (.str (tx ct)),v8,v9,v10,v11,v12,v13,v14,none] H1
   rw [aM,fV]
   walk_at "w"
   refine ⟨a,ns,_,rfl,X1.hS,hn,by omega,by omega,?_⟩
   walk_at "w"
   refine ⟨p,Ll,h,w,g,_,rows,ct,rfl,X1.hp,X.F,X1.hL,X.G,X.Gc,X.lc,fun T ws ls p1 en e H2 s2 eT B=>?_⟩
   have s12:=s1.trans s2
   have lh:=B.hd.len
   have l1:=B.l1
   have le:=B.le
   refine qz eT rfl ?_
   refine sR ?_
   generalize lawCA ns (60+(i:Int))=x at*
   walk_at "w"
   simp only [bb]
   iterate 4 (refine ⟨cQ (by simp only [List.length_append,List.length_cons,List.length_nil]; omega),?_⟩)
   rw [aO]
   walk_at "w"
   by_cases h9:e < 9
   · rw [decide_eq_true (show ((e:Nat):Int) < 9 by omega)]
     refine iteT ?_
     refine ⟨_,e,rfl,by simp only [List.length_append,List.length_cons,List.length_nil]; omega,ok,hc,B.three h9,fun H3 s3=>⟨true,rfl,iteF ?_⟩⟩
     walk_at "w"
     exact rZ hc ok B fun l H' s'=>⟨_,_,_,_,_,_,_,_,rfl,(s12.trans s3).trans s'⟩
   · rw [decide_eq_false (show ¬ ((e:Nat):Int) < 9 by omega)]
     refine iteF ?_
     exact rZ hc ok B fun l H' s'=>⟨_,_,_,_,_,_,_,_,rfl,s12.trans s'⟩
 · rintro σ H1 ⟨u3,v8,v9,v10,v11,v12,v13,v14,rfl,s1⟩
   exact ug (X.same s1) hc ok k
end
section
variable {K:PySem.W.Frag} {c:RCl RK} {d:RCl PzK} {H:Hp} {Q:VK} {a p Ll:Addr} {ns:List Int} {h w g:Int} {rows:List RR} (hS:SqL K H a (ns.map V.int)) (hn:ns.length≤63) (hp:IsFl H p h w g) (F:FlOk h w g) (hL:H Ll=some (.lst ((rows.map RR.txt).map V.str))) (G:G73 h w g rows) (hc:∀ k,k≠.Rule→c.ok k=true) (ok:d.ok .Puzzle=true) (k:∀ H',Q (.bl true) H')
include hS hn hp F hL G hc ok k
theorem ui:k8 K c d { nx:=fun _ H'=>Q .non H',rt:=Q } [some (.ref a),some (.ref p),some (.int (h*w)),none,some (.ref Ll),none,none,none,none,none,none,none,none,none,none,none] H:=by
 obtain ⟨h0,h1,w0,w1,m16,g0,g1⟩:=id F
 unfold k8
 walk_at "w"
 refine ⟨aq (by decide),fun R hR=>?_⟩
 have s0:Same H (upd H R (.lst [])):=(Same.refl H).laid hR
 have ep:∀ H',Same H H'→H' p=some (.tup [.int h,.int w,.int g]):=fun H' s=>s _ _ hp
 refine ixT (ep _ s0) (v:=V.int h) rfl ?_
 walk_at "w"
 refine ⟨h,rfl,by omega,by omega,?_⟩
 refine oS (fun i σ H'=>∃ v3 v6:Option V,σ=[some (.ref a),some (.ref p),some (.int (h*w)),v3,some (.ref Ll),some (.ref R),v6,none,none,none,none,none,none,none,none,none]∧Same H H'∧∃ rs:List (List Nat),H' R=some (.lst (lsV rs))∧rs.length=i∧∀ r∈rs,r.length=w.toNat∧∀ c∈r,okc g c)
  ⟨none,none,rfl,s0,[],by rw [af]; rfl,rfl,fun r hr=>(by cases hr)⟩ ?_ ?_
 · rintro i σ H1 hi ⟨v3,v6,rfl,s1,rs,eR,hl,hr⟩
   rw [Int.zero_add]
   walk_at "w"
   refine ixT (ep _ s1) (v:=V.int w) rfl ?_
   walk_at "w"
   refine ⟨w,rfl,by omega,by omega,?_⟩
   refine rp (fun _=>true) (fun (j:Nat)=>lawCA ns (2+(i:Int)+6*(0+(j:Int))) % (g+1)) (by omega) ?_ ?_ ?_
   · intro j H2 R2 hj s2 k2
     exact k2 _ (Same.refl _)
   · intro j H2 Q2 hj hb s2 k2
     show tOp cMod _ _ [none,some (.int (0+(j:Int))),some (.ref p),some (.int (i:Int)),some (.ref a)] H2 Q2
     walk_at "w"
     refine ⟨.inl ⟨by decide,by decide⟩,?_⟩
     refine ⟨a,ns,_,rfl,(s1.trans s2).seq hS,hn,by omega,by omega,?_⟩
     walk_at "w"
     refine ixT (ep _ (s1.trans s2)) (v:=V.int g) rfl ?_
     walk_at "w"
     exact ⟨by omega,k2 _ (Same.refl _)⟩
   · intro N H2 hN s2 eN
     rw [cc] at eN
     have hm:∀ z∈(List.range w.toNat).map (fun (j:Nat)=>lawCA ns (2+(i:Int)+6*(0+(j:Int))) % (g+1)),0≤z∧z≤g:=fun z hz=>by
      obtain ⟨j,_,rfl⟩:=List.mem_map.mp hz
      have a1:=Int.emod_nonneg (lawCA ns (2+(i:Int)+6*(0+(j:Int)))) (show g+1≠0 by omega)
      have a2:=Int.emod_lt_of_pos (lawCA ns (2+(i:Int)+6*(0+(j:Int)))) (show 0 < g+1 by omega)
      omega
     have xl:((List.range w.toNat).map (fun (j:Nat)=>lawCA ns (2+(i:Int)+6*(0+(j:Int))) % (g+1))).length=w.toNat:=by simp
     generalize (List.range w.toNat).map (fun (j:Nat)=>lawCA ns (2+(i:Int)+6*(0+(j:Int))) % (g+1))=xs at*
     have s12:=s1.trans s2
     walk_at "w"
     refine ⟨mm (s2 _ _ eR),fA,⟨_,SqL.of eN⟩,?_⟩
     refine i0 (xs:=xs.map V.int) (fun _=>true) (fun j=>.str (tx [figs.getD (xs.getD j 0).toNat 0])) (by simp; omega) (SqL.of eN) ?_ ?_ ?_
     · intro j x H3 R3 hx s3 k3
       exact k3 _ (Same.refl _)
     · intro j x H3 Q3 hx hb s3 k3
       obtain ⟨z,hz,rfl⟩:=jL hx
       have q3:=k3 _ (Same.refl H3)
       rw [rQ hz] at q3
       have hz2:=hm z (List.mem_of_getElem? hz)
       show tOp cIx _ _ [none,some (.int z)] H3 Q3
       walk_at "w"
       rw [u8]
       exact ⟨by rw [ay]; exact aq (by decide),bo (vh hz2.1 hz2.2 g1).1 q3⟩
     · intro l H3 hl3 s3 el
       have el2:H3 l=some (.lst ((((xs.map fun z=>figs.getD z.toNat 0).map fun c=>[c]).map tx).map V.str)):=by
        rw [el,cc,List.length_map,List.map_map,List.map_map,List.map_map]
        congr 2
        refine List.ext_getElem? fun j=>?_
        rw [List.getElem?_map,List.getElem?_map]
        by_cases hj:j < xs.length
        · rw [List.getElem?_range hj,List.getElem?_eq_getElem hj]
          simp [List.getD,hj]
        · rw [List.getElem?_eq_none (by simpa using hj),List.getElem?_eq_none (by omega)]; rfl
       refine jY el2 (dg (by simp; omega) (fun t ht=>by
        obtain ⟨y,hy,rfl⟩:=List.mem_map.mp ht
        obtain ⟨c,_,rfl⟩:=List.mem_map.mp hy
        rw [ay]; simp) (by rw [ay]; decide)) ?_
       rw [g8,ib,pA]
       have eR3:=(s2.trans s3) _ _ eR
       walk_at "w"
       rw [qu eR3]
       refine ⟨by simp [lsV]; exact aS (by omega),_,_,rfl,(s12.trans s3).own hR,rs++[xs.map fun z=>figs.getD z.toNat 0],by rw [af]; simp [lsV],by simp [hl],fun r hr2=>?_⟩
       rcases List.mem_append.mp hr2 with hr2 | hr2
       · exact hr r hr2
       · rw [List.mem_singleton.mp hr2]
         refine ⟨by simp [xl],fun c hc=>?_⟩
         obtain ⟨z,hz,rfl⟩:=List.mem_map.mp hc
         exact (vh (hm z hz).1 (hm z hz).2 g1).2
 · rintro σ H1 ⟨v3,v6,rfl,s1,rs,eR,hl,hr⟩
   have ro:hX h.toNat w.toNat g rs:=⟨hl,hr⟩
   have hne:rs≠[]:=fun z=>by rw [z] at hl; simp at hl; omega
   have Gc:GoodL h.toNat w.toNat g (catL 47 rs):=js hne ro
   have lc:(catL 47 rs).length≤60:=by
    have:=Gc.1
    have:h.toNat*(w.toNat+1)≤6*7:=Nat.mul_le_mul (by omega) (by omega)
    omega
   unfold pz
   walk_at "w"
   refine ⟨fA,?_⟩
   refine jY eR (dg (by simp; omega) (fun t ht=>by
    obtain ⟨r,hr2,rfl⟩:=List.mem_map.mp ht
    rw [ay,(hr r hr2).1]; omega) (by rw [ay]; decide)) ?_
   rw [g8,ib,k9]
   exact uh ⟨s1.seq hS,hn,s1 _ _ hp,F,s1 _ _ hL,G,Gc,lc⟩ hc ok k
end
theorem wY {K:PySem.W.Frag} {c:RCl RK} {d:RCl PzK} {vs:List V} {H:Hp} {Q:VK} {E:XK} (h:ra K c d vs H Q E):n9 K c d { nx:=fun _ H'=>Q .non H',rt:=Q } (start ["_law_script","_law_floor_here","_law_many","_law_k","_law_lines_here","_law_rows","_law_numbers","_law_clues_here","_law_cell","_law_head_here","_law_middle","_law_end","_law_due","_law_whole","_law_odd","_law_found"] vs) H:=by
 obtain ⟨a,ns,rfl,hS,hn,hk,ok,k⟩:=h
 show n9 K c d _ [some (.ref a),none,none,none,none,none,none,none,none,none,none,none,none,none,none,none] H
 unfold n9
 walk_at "w"
 refine ⟨a,ns,0,rfl,hS,hn,by decide,by decide,?_⟩
 walk_at "w"
 refine ⟨_,rfl,fun p H1 h w g s1 hp0 hp F=>?_⟩
 obtain ⟨h0,h1,w0,w1,m16,g0,g1⟩:=id F
 walk_at "w"
 refine ixT hp (v:=V.int h) rfl ?_
 walk_at "w"
 refine ixT hp (v:=V.int w) rfl ?_
 walk_at "w"
 refine ⟨jE h0 h1,?_⟩
 walk_at "w"
 refine ⟨a,ns,1,rfl,s1.seq hS,hn,by decide,by decide,?_⟩
 walk_at "w"
 have c0:=Int.emod_nonneg (lawCA ns 1) (show (13:Int)≠0 by decide)
 have c1:=Int.emod_lt_of_pos (lawCA ns 1) (show (0:Int) < 13 by decide)
 refine ⟨by decide,_,rfl,by omega,by omega,?_⟩
 have hm:∀ j:Nat,(lawCA ns (20+(0+(j:Int))) % 100).toNat < 100:=fun j=>by
  have:=Int.emod_lt_of_pos (lawCA ns (20+(0+(j:Int)))) (show (0:Int) < 100 by decide)
  omega
 have hz:∀ j:Nat,(((lawCA ns (20+(0+(j:Int))) % 100).toNat:Nat):Int)=lawCA ns (20+(0+(j:Int))) % 100:=fun j=>Int.toNat_of_nonneg (Int.emod_nonneg _ (by decide))
 refine ir (fun _=>true) (fun j=>.str (iN (lawCA ns (20+(0+(j:Int))) % 100).toNat).txt) (by omega) ?_ ?_ ?_
 · intro j H2 R2 hj s2 k2
   exact k2 _ (Same.refl _)
 · intro j H2 Q2 hj hb s2 k2
   have q2:=k2 _ (Same.refl H2)
   show tOp cAdd _ _ [none,some (.int (0+(j:Int))),some (.ref a)] H2 Q2
   walk_at "w"
   refine ⟨a,ns,_,rfl,(s1.trans s2).seq hS,hn,by omega,by omega,?_⟩
   walk_at "w"
   refine ⟨by decide,?_⟩
   have st:=ow (hm j)
   have lg:=j2 (hm j)
   rw [hz j] at st lg
   rw [st,bb,bb]
   have ln:=dh (n:=(lawCA ns (20+(0+(j:Int))) % 100).toNat)
   refine ⟨lg,cQ (by simp only [List.length_cons,List.length_nil]; omega),cQ (by simp only [List.length_append,List.length_cons,List.length_nil]; omega),?_⟩
   rw [← (rY (hm j)).1]
   exact q2
 · intro Ll H2 hLl s2 el
   rw [cc] at el
   have el2:H2 Ll=some (.lst ((((List.range (lawCA ns 1 % 13).toNat).map fun (j:Nat)=>iN (lawCA ns (20+(0+(j:Int))) % 100).toNat).map RR.txt).map V.str)):=by
    rw [el,List.map_map,List.map_map]; rfl
   have G:G73 h w g ((List.range (lawCA ns 1 % 13).toNat).map fun (j:Nat)=>iN (lawCA ns (20+(0+(j:Int))) % 100).toNat):=by
    refine ⟨by simp; omega,fun r hr=>?_,fun r hr=>?_⟩
    · obtain ⟨j,_,rfl⟩:=List.mem_map.mp hr
      exact vX F (hm j)
    · obtain ⟨j,_,rfl⟩:=List.mem_map.mp hr
      exact (rY (hm j)).2
   exact ui ((s1.trans s2).seq hS) hn (s2 _ _ hp) F el2 G hk ok k
end L2
namespace L2
open PySem PySem.Spec PyProof.Rows
end L2
namespace L2
open PySem PySem.Spec PyProof.Rows
section
variable {M:Model} {A:Around} {E:Value→Shared→Prop} {s:Shared}
theorem uj {base:Heap} {env:Env} {outer:List Env} {L x:Addr} {c a0 fl:Value} {Q:Unit→Shared→Prop} (hA:A.frames=some (env::outer)) (hf:env.frame=some L)
  (g1:base.StaysIn s.heap) (g2:base.get? x=none) (g3:s.heap.FunFrames base (env::outer)) (g4:s.heap.TracedAtW base x c a0 fl)
  (k:∀ h',Heap.FlyingW base outer x c a0 h'→s.heap.UpToSlots h'→Q () { s with heap:=h' }):wpAny M A (leaving env (.ref x)) Q E s:=by
 by_cases q:(fl==rawInt L)=true
 · have q':fl=rawInt L:=eq_of_beq q
   subst q'
   unfold leaving
   refine wpAny_bind (wpAny_noteFrame_againW hf g4 (wpAny_landsW (L:=L) ⟨g1,g2,g3,g4⟩ fun h' F up=>?_))
   exact k h' ⟨F.1,F.2.1,F.2.2.1.2.2,F.2.2.2⟩ up
 · obtain ⟨ox,us,T,oT,ws,e1,⟨e2,e3⟩,e4,e5,e6,e7,e8,e9,e10⟩:=g4
   subst e2
   have sz3:3 < ws.size:=(Array.getElem?_eq_some_iff.mp e10).1
   have oth:∀ b,b≠T→(s.heap.update T (Obj.mapFields (·.setIfInBounds 3 Value.none))).get? b=s.heap.get? b:=fun b hb=>Heap.get?_update_other _ _ fun z=>hb z.symm
   have nT:∀ b o,s.heap.get? b=some o→(∀ vs,o.data≠.fields vs)→b≠T:=fun b o hb d z=>by
    subst z
    rw [e8] at hb; cases hb
    exact d ws e9
   unfold leaving noteFrame
   simp only [hf]
   refine wpAny_bind (wpAny_bind (wpAny_field e1 e4 e5 ?_))
   rw [if_pos (by simp)]
   refine wpAny_bind (wpAny_field e8 e9 e10 ?_)
   rw [if_neg q]
   refine wpAny_bind (wpAny_setField e8 e9 sz3 ?_)
   refine wpAny_newEntryW hA (g3.of_keeps fun b o hb d=>⟨o,(oth b (nT b o hb d)).trans hb,rfl⟩) hf ((oth x fun z=>e7 z.symm).trans e1) (fun b o hb=>(oth b fun z=>?_).trans (g1 b o hb)) g2 e4 (Array.getElem?_eq_some_iff.mp e5).1 e3 fun h' W=>?_
   · rw [z,e6] at hb; cases hb
   · obtain ⟨w1,w2,w3,w4⟩:=W
     exact k h' ⟨w1,g2,w2.2.2,w3⟩ fun b o hb d=>w4 b o ((oth b (nT b o hb d)).trans hb) d
end
theorem vY {P:Program} {w:World} {env:Env} {outer:List Env} {H₀ H':Hp} {s₀ s':Shared} {x T' C L:Addr} {h':Heap} {fx ex:List Addr}
  (hos:s'.os=s₀.os) (hbare:AllBare s'.gens) (hL:env.frame=some L) (nL:s₀.heap.get? L=none)
  (U:Un (frs (env::outer)) fx H₀ H' s₀.heap s'.heap) (hfx:∀ b∈fx,s₀.heap.get? b=none) (frH:∀ b∈frs (env::outer),H' b=none) (ok:HOk P w H' s'.heap)
  (exn:∀ b∈ex,s₀.heap.get? b=none∧H' b=none)
  (keepAll:∀ b o,s'.heap.get? b=some o→b∉frs (env::outer)→b∉ex→h'.get? b=some o)
  (slots:∀ b o,s'.heap.get? b=some o→b∈frs (env::outer)→∃ sl,h'.get? b=some { o with slots:=sl })
  (nx:s₀.heap.get? x=none) (fx':H' x=none) (nT:s₀.heap.get? T'=none) (fT:H' T'=none) (tr:Tr h' x T' C .none):Fly P w outer H₀ s₀ x T' C H' { s' with heap:=h' }:=by
 have sub:∀ b,b∈frs outer→b∈frs (env::outer):=fun b hb=>by
  unfold frs at hb ⊢
  rw [List.filterMap_cons,hL]
  exact List.mem_cons_of_mem _ hb
 have isL:∀ b,b∈frs (env::outer)→b=L∨b∈frs outer:=fun b hb=>by
  unfold frs at hb ⊢
  rw [List.filterMap_cons,hL] at hb
  exact List.mem_cons.mp hb
 have nfx:∀ b o,s₀.heap.get? b=some o→b∉fx:=fun b o e z=>by rw [hfx b z] at e; cases e
 have nex:∀ b o,s₀.heap.get? b=some o→b∉ex:=fun b o e z=>by rw [(exn b z).1] at e; cases e
 have there:∀ b o,s₀.heap.get? b=some o→∃ o',h'.get? b=some o':=fun b o e=>by
  obtain ⟨o1,e1⟩:=U.there b o e (nfx b o e)
  by_cases hb:b∈frs (env::outer)
  · obtain ⟨sl,e2⟩:=slots b o1 e1 hb
    exact ⟨_,e2⟩
  · exact ⟨o1,keepAll b o1 e1 hb (nex b o e)⟩
 refine ⟨hos,hbare,⟨fun b o e n hb _=>?_,fun b o e n hb _=>?_,fun b o e n _=>U.free b o e n (nfx b o e),fun b o e _=>there b o e,U.tups,U.frzs,U.tbls⟩,?_,fx',fT,nx,nT,tr⟩
 · have nb:b∉frs (env::outer):=fun z=>by
    rcases isL b z with z | z
    · rw [z,nL] at e; cases e
    · exact hb z
   exact keepAll b o (U.keep b o e n nb (nfx b o e)) nb (nex b o e)
 · obtain ⟨sl,e1⟩:=U.slot b o e n (sub b hb) (nfx b o e)
   obtain ⟨sl2,e2⟩:=slots b _ e1 (sub b hb)
   exact ⟨sl2,e2⟩
 · intro a o e
   refine (ok a o e).stay (fun b u hb q=>?_) (fun _ q=>q) fun _ _ q=>q
   have hb':H' b≠none:=by
    rcases hb with rfl | hb
    · rw [e]; simp
    · rw [hb]; simp
   exact keepAll b u q (fun z=>hb' (frH b z)) fun z=>hb' (exn b z).2
theorem uk {h h1 base:Heap} {as:List Addr}:∀ {l:List Env},h.FunFrames base l→(∀ b∈frs l,b∈as∧∀ o,h.get? b=some o→b∈frs l→∃ sl,h1.get? b=some { o with slots:=sl }∧∀ vs,o.data≠.fields vs)→h1.FunFrames (PySem.W.hideAll h as) l:=by
 intro l
 induction l with
 | nil=>intro _ _; trivial
 | cons env r ih=>
  rintro ⟨hk,⟨L,o,hf,_,ho,hd⟩,hr⟩ hin
  have hL:L∈frs (env::r):=by unfold frs; rw [List.filterMap_cons,hf]; exact List.mem_cons_self
  have hsub:∀ b∈frs r,b∈frs (env::r):=fun b hb=>by unfold frs at hb ⊢; rw [List.filterMap_cons,hf]; exact List.mem_cons_of_mem _ hb
  obtain ⟨sl,e1,d1⟩:=(hin L hL).2 o ho hL
  exact ⟨hk,⟨L,_,hf,PySem.W.hideAll_none as (hin L hL).1,e1,d1⟩,ih hr fun b hb=>⟨(hin b (hsub b hb)).1,fun o e _=>(hin b (hsub b hb)).2 o e (hsub b hb)⟩⟩
theorem ul {scope:Scope} {cl:List (Str × Addr)} {C:Addr} {env:Env}:(mV scope cl C env).frame=env.frame:=rfl
theorem sS {e:Value} {env env':Env} (h:env'.frame=env.frame):noteFrame e env'=noteFrame e env:=by
 unfold noteFrame PySem.frameOf
 rw [h]
section
variable {P:Program} {w:World} {K:PySem.W.Frag} {mg:Str→Option Value} {base:Heap} {N:List Str} {qual:Str} {scope:Scope} {f:Addr} {cd:Value} {A:Around} {outer:List Env} {s₀:Shared} {H₀:Hp} {E:XK}
theorem rb {E':XK} {Nb:List Str} {sc:Scope} {cl:List (Str × Addr)} {s2:Shared} {H2:Hp} {fp:List Addr} (himp:∀ c d H,E' c d H→E c d H):
  dY (CX1 P w) (blkCx (cx1 P w K mg base N qual scope f cd A outer s₀ H₀ E) Nb sc cl s2 H2 fp) E':=by
 rintro pins σ H s e s' I ⟨x,T,C,H',rfl,F,q⟩ ⟨pins2,σ2,I2,f2⟩
 have fra:(A.deeper (envOfC qual scope s₀.heap.objs.size f cd)).frames=some (envOfC qual scope s₀.heap.objs.size f cd::outer):=I2.ok.frames
 have hfr:(envOfC qual scope s₀.heap.objs.size f cd).frame=some s₀.heap.objs.size:=rfl
 obtain ⟨m,⟨ob,es,ep,lo,ld,lr⟩,_⟩:=I.loc
 have lfree:H (s2.heap.objs.size+1)=none:=I.free
 have lo:s.heap.get? (s2.heap.objs.size+1)=some ob:=lo
 have Ub:Un (frs (envOfC qual scope s₀.heap.objs.size f cd::outer)) fp H2 H s2.heap s.heap:=I.base
 have fr2:∀ b∈frs (envOfC qual scope s₀.heap.objs.size f cd::outer),∃ o,s2.heap.get? b=some o∧∀ vs,o.data≠.fields vs:=fun b hb=>(I2.stack.mem hb).2
 have fr1:∀ b∈frs (envOfC qual scope s₀.heap.objs.size f cd::outer),∃ o,s.heap.get? b=some o∧∀ vs,o.data≠.fields vs:=fun b hb=>(I.stack.mem hb).2
 have stk:∀ b∈frs (envOfC qual scope s₀.heap.objs.size f cd::outer),H b=none:=I.stkFree
 have ff:s'.heap.FunFrames base (envOfC qual scope s₀.heap.objs.size f cd::outer):=ly I.stack (fun b hb=>⟨hb,stk b hb⟩) F.un
 have sz2:s₀.heap.objs.size≤s2.heap.objs.size:=I2.sz
 have hfx:∀ b∈fp,s₀.heap.get? b=none:=fun b hb=>by
  rcases (f2 b hb).2.2.2.1 with z | z
  · exact absurd (show b∈([]:List Addr) from z) (by simp)
  · exact Heap.get?_none_of_le z
 have U0:Un (frs (envOfC qual scope s₀.heap.objs.size f cd::outer)) fp H₀ H s₀.heap s.heap:=
  (Un.mono (show Un (frs outer) [] H₀ H2 s₀.heap s2.heap from I2.base) (fun b hb=>by unfold frs at hb ⊢; rw [List.filterMap_cons,hfr]; exact List.mem_cons_of_mem _ hb) fun b z=>absurd z (by simp)).trans Ub
 have U:Un (frs (envOfC qual scope s₀.heap.objs.size f cd::outer)) fp H₀ H' s₀.heap s'.heap:=U0.trans (F.un.mono (fun _ hb=>hb) fun b z=>absurd z (by simp))
 have new0:∀ b,s.heap.get? b=none→s₀.heap.get? b=none:=fun b hb=>by
  cases z:s₀.heap.get? b with
  | none=>rfl
  | some o=>
   obtain ⟨o1,e1⟩:=U0.there b o z fun y=>by rw [hfx b y] at z; cases z
   rw [hb] at e1; cases e1
 have frH:∀ b∈frs (envOfC qual scope s₀.heap.objs.size f cd::outer),H' b=none:=fun b hb=>by
  obtain ⟨o,e1,_⟩:=fr1 b hb
  exact F.un.free b o e1 (stk b hb) (by simp)
 have lnf:(s2.heap.objs.size+1)∉frs (envOfC qual scope s₀.heap.objs.size f cd::outer):=fun z=>by
  obtain ⟨o,e1,_⟩:=fr2 _ z
  exact absurd (Heap.lt_size e1) (Nat.not_lt.mpr (Nat.le_succ _))
 have lo':s'.heap.get? (s2.heap.objs.size+1)=some ob:=F.un.keep _ _ lo lfree lnf (by simp)
 have lnd:∀ vs,ob.data≠.fields vs:=fun vs z=>by rw [ld] at z; cases z
 have exn:∀ b∈[x,T,s2.heap.objs.size+1],s₀.heap.get? b=none∧H' b=none:=fun b hb=>by
  simp only [List.mem_cons,List.not_mem_nil,or_false] at hb
  rcases hb with rfl | rfl | rfl
  · exact ⟨new0 _ F.nx,F.fx⟩
  · exact ⟨new0 _ F.nT,F.fT⟩
  · exact ⟨Heap.get?_none_of_le (Nat.le_trans sz2 (Nat.le_succ _)),F.un.free _ _ lo lfree (by simp)⟩
 obtain ⟨oe,vs,oT,ts,a0,he,hc,h0,hd,h1,hTx,hT,hdT,h3⟩:=F.tr
 have fl:Heap.FlyingW (PySem.W.hideAll s'.heap (frs (envOfC qual scope s₀.heap.objs.size f cd::outer)++[x,T,s2.heap.objs.size+1])) (envOfC qual scope s₀.heap.objs.size f cd::outer) x (.ref C) a0 s'.heap:=
  ⟨fun b o e=>PySem.W.of_hideAll _ e,PySem.W.hideAll_none _ (by simp),jk ff fun b hb=>List.mem_append_left _ hb,oe,vs,T,oT,ts,he,⟨hc,h0⟩,hd,h1,PySem.W.hideAll_none _ (by simp),hTx,hT,hdT,h3⟩
 show wpAny (model P w) (A.deeper (envOfC qual scope s₀.heap.objs.size f cd)) (noteFrame (.ref x) (mV sc cl (s2.heap.objs.size+1) (envOfC qual scope s₀.heap.objs.size f cd))) _ _ s'
 rw [sS ul]
 refine wpAny_looks_onW fra hfr fl fun h4 held up4=>?_
 obtain ⟨sl4,l4⟩:=up4 _ _ lo' lnd
 refine ⟨m,⟨_,es,ep,l4,ld,lr⟩,fun h' sb cenv _=>?_⟩
 obtain ⟨k1,k2,k3,oe',vs',T',oT',ts',b1,b2,b3,b4,b5,b6,b7,b8,b9⟩:=held
 have nLx:x≠s2.heap.objs.size+1:=fun z=>by
  rw [z,l4] at b1; cases b1
  exact lnd _ b3
 have nLT:T'≠s2.heap.objs.size+1:=fun z=>by
  rw [z,l4] at b7; cases b7
  exact lnd _ b8
 have c1:h'.get? x=some oe':=(sb.2 x nLx).trans b1
 have c7:h'.get? T'=some oT':=(sb.2 T' nLT).trans b7
 have sz3:3 < ts'.size:=(Array.getElem?_eq_some_iff.mp b9).1
 have oth:∀ (v:Value) b,b≠T'→(h'.update T' (Obj.mapFields (·.setIfInBounds 3 v))).get? b=h'.get? b:=fun v b hb=>Heap.get?_update_other _ _ fun z=>hb z.symm
 have fin:∀ v:Value,(cx1 P w K mg base N qual scope f cd A outer s₀ H₀ E).xe (.ref x) { s' with heap:=h'.update T' (Obj.mapFields (·.setIfInBounds 3 v)) }:=fun v=>by
  have t7:(h'.update T' (Obj.mapFields (·.setIfInBounds 3 v))).get? T'=some (Obj.mapFields (·.setIfInBounds 3 v) oT'):=Heap.get?_update_self _ c7 (Obj.isFreed_of_fields (Obj.data_mapFields b8 _))
  have t1:(h'.update T' (Obj.mapFields (·.setIfInBounds 3 v))).get? x=some oe':=(oth v x fun z=>b6 z.symm).trans c1
  have hid:∀ b o,(PySem.W.hideAll s'.heap (frs (envOfC qual scope s₀.heap.objs.size f cd::outer)++[x,T,s2.heap.objs.size+1])).get? b=some o→b≠T'∧b≠s2.heap.objs.size+1:=fun b o e=>⟨(fun z=>by rw [z,b5] at e; cases e),(fun z=>by rw [z,PySem.W.hideAll_none _ (by simp)] at e; cases e)⟩
  have slot5:∀ b o,s'.heap.get? b=some o→b∈frs (envOfC qual scope s₀.heap.objs.size f cd::outer)→∃ sl,(h'.update T' (Obj.mapFields (·.setIfInBounds 3 v))).get? b=some { o with slots:=sl }∧∀ vs,o.data≠.fields vs:=fun b o e hb=>by
   obtain ⟨o1,e1,d1⟩:=fr1 b hb
   obtain ⟨sl1,e2⟩:=F.un.slot b o1 e1 (stk b hb) hb (by simp)
   rw [e] at e2; cases e2
   obtain ⟨sl,e4⟩:=up4 b _ e d1
   refine ⟨sl,?_,d1⟩
   rw [oth v b fun z=>by rw [z,b7] at e4; cases e4; exact d1 _ b8,sb.2 b fun z=>lnf (z ▸ hb)]
   exact e4
  show wpAny (model P w) (A.deeper (envOfC qual scope s₀.heap.objs.size f cd)) (leaving (envOfC qual scope s₀.heap.objs.size f cd) (.ref x)) _ _ _
  refine uj (base:=PySem.W.hideAll s'.heap (frs (envOfC qual scope s₀.heap.objs.size f cd::outer)++[x,T,s2.heap.objs.size+1])) (c:=.ref C) (a0:=a0) (fl:=v) fra hfr (fun b o e=>?_) k2 (uk ff fun b hb=>⟨List.mem_append_left _ hb,slot5 b⟩) ⟨oe',vs',T',_,_,t1,b2,b3,b4,b5,b6,t7,Obj.data_mapFields b8 _,by simp [sz3]⟩ fun h6 fl6 up6=>?_
  · rw [oth v b (hid b o e).1,sb.2 b (hid b o e).2]
    exact k1 b o e
  · obtain ⟨g1,g2,g3,oe6,vs6,T6,oT6,ts6,d1,d2,d3,d4,d5,d6,d7,d8,d9⟩:=fl6
    have slot6:∀ b o,s'.heap.get? b=some o→b∈frs (envOfC qual scope s₀.heap.objs.size f cd::outer)→∃ sl,h6.get? b=some { o with slots:=sl }:=fun b o e hb=>by
     obtain ⟨sl,e5,d5⟩:=slot5 b o e hb
     obtain ⟨sl6,e6⟩:=up6 b _ e5 d5
     exact ⟨sl6,e6⟩
    have T6s:∀ o,s'.heap.get? T6=some o→T6∈[x,T,s2.heap.objs.size+1]:=fun o e=>by
     by_cases z:T6∈frs (envOfC qual scope s₀.heap.objs.size f cd::outer)++[x,T,s2.heap.objs.size+1]
     · rcases List.mem_append.mp z with z | z
       · obtain ⟨sl,e5,d5⟩:=slot5 T6 o e z
         obtain ⟨sl6,e6⟩:=slot6 T6 o e z
         rw [d7] at e6; cases e6
         exact absurd d8 (d5 _)
       · exact z
     · rw [PySem.W.hideAll_get _ e z] at d5; cases d5
    refine ⟨x,T6,C,H',rfl,vY (s':=s') (env:=envOfC qual scope s₀.heap.objs.size f cd) (fx:=fp) (ex:=[x,T,s2.heap.objs.size+1]) (F.os.trans (I.os.trans I2.os)) F.bare hfr (Heap.get?_none_of_le (Nat.le_refl _)) U hfx frH F.hok exn
     (fun b o e hb hx=>g1 b o (PySem.W.hideAll_get _ e fun z=>(List.mem_append.mp z).elim hb hx)) slot6 (new0 _ F.nx) F.fx ?_ ?_ ⟨oe6,vs6,oT6,ts6,a0,d1,d2.1,d2.2,d3,d4,d6,d7,d8,d9⟩,himp _ _ _ q⟩
    · cases z:s'.heap.get? T6 with
      | some o=>exact (exn _ (T6s o z)).1
      | none=>
       cases y:s₀.heap.get? T6 with
       | none=>rfl
       | some o=>
        obtain ⟨o1,e1⟩:=U.there T6 o y fun u=>by rw [hfx _ u] at y; cases y
        rw [z] at e1; cases e1
    · cases z:H' T6 with
      | none=>rfl
      | some o=>
       obtain ⟨u,e1⟩:=(F.hok T6 o z).ob
       rw [(exn _ (T6s u e1)).2] at z; cases z
 unfold PySem.passOn
 refine wpAny_bind (wpAny_field (s:={ s' with heap:=h' }) c1 b3 b4 ?_)
 rw [if_neg (by simp)]
 refine wpAny_bind ?_
 unfold setFlight
 refine wpAny_bind (wpAny_field (s:={ s' with heap:=h' }) c1 b3 b4 ?_)
 rw [if_pos (by simp)]
 exact wpAny_setField (s:={ s' with heap:=h' }) c7 b8 sz3 (wpAny_throw (fin _))
end
end L2
namespace L2
open PySem PySem.Spec PyProof.Rows
end L2
namespace L2
open PySem PySem.Spec PyProof.Rows
end L2
namespace L2
open PySem PySem.Spec PyProof.Rows
structure ErrMx (mg:Str→Option Value) (a:EA):Prop where
 ClueError:mg "ClueError"=some (.ref a.ClueError)
 NoFloor:mg "NoFloor"=some (.ref a.NoFloor)
 NoFilling:mg "NoFilling"=some (.ref a.NoFilling)
 NoRule:mg "NoRule"=some (.ref a.NoRule)
 NoPuzzle:mg "NoPuzzle"=some (.ref a.NoPuzzle)
 NoMove:mg "NoMove"=some (.ref a.NoMove)
 NoText:mg "NoText"=some (.ref a.NoText)
 NoRow:mg "NoRow"=some (.ref a.NoRow)
def top (i:Nat):Stmt:=PySem.Challenge.pw_cluemaker_k73_texts_of_puzzles_refused.main.body.getD i (.Pass ⟨0,0,0,0⟩)
def mtop (i j:Nat):Stmt:=match top i with
 | .ClassDef _ _ _ body _ _ _ _ _ _ _=>body.getD j (.Pass ⟨0,0,0,0⟩)
 | s=>s
abbrev kn:Stmt:=top 14
theorem sc_is_whole:aA ["value"] ["value"] (ao kn):=⟨rfl,rfl,rfl,by decide+kernel,rfl,by decide+kernel,by decide+kernel⟩
set_option maxHeartbeats 4000000 in
theorem rB {P:Program} {w:World} {K:PySem.W.Frag} {mg:Str→Option Value} {base:Heap} (B:Bt2 mg) {f:Addr} {fd:FuncData} (F:Fun K "is_whole" "is_whole" kn f fd):FnOk P w K mg base CX0 1 f fd ["value"] (ce K):=by
 refine F.ok sc_is_whole (fun vs H Q E h=>rq h) (fun cdv A outer s H vs Q E hr h=>?_)
 have hu:=hr.units
 have nd:=sc_is_whole.nd
 refine ⟨iv K,?_,rz h⟩
 exact (ai (av (iy (aw ee rfl B.isinstance_ aE (aa (pv 0) (aa (gh (v:=.ty "int") rfl B.int_ m4 rfl) ac))) (kx (wf (aw ee rfl B.isinstance_ aE (aa (pv 0) (aa (gh (v:=.ty "bool") rfl B.bool_ vy rfl) ac))))))))
abbrev ju:Stmt:=top 17
theorem sc_many_cells:aA ["floor"] ["floor"] (ao ju):=⟨rfl,rfl,rfl,by decide+kernel,rfl,by decide+kernel,by decide+kernel⟩
set_option maxHeartbeats 4000000 in
theorem pP {P:Program} {w:World} {K:PySem.W.Frag} {mg:Str→Option Value} {base:Heap} (B:Bt2 mg) {f:Addr} {fd:FuncData} (F:Fun K "many_cells" "many_cells" ju f fd):FnOk P w K mg base CX0 1 f fd ["floor"] (aN K):=by
 refine F.ok sc_many_cells (fun vs H Q E h=>pF h) (fun cdv A outer s H vs Q E hr h=>?_)
 have hu:=hr.units
 have nd:=sc_many_cells.nd
 refine ⟨fX K,?_,pG h⟩
 exact (ai (av (ag cy (aH (aR hu) (pv 0) ae (fun _ _=>rfl)) (aH (aR hu) (pv 0) ae (fun _ _=>rfl)))))
abbrev iO:Stmt:=top 20
theorem sc_read_figure:aA ["floor","figure","sign"] ["floor","figure"] (ao iO):=⟨rfl,rfl,rfl,by decide+kernel,rfl,by decide+kernel,by decide+kernel⟩
set_option maxHeartbeats 4000000 in
theorem oP {P:Program} {w:World} {K:PySem.W.Frag} {mg:Str→Option Value} {base:Heap} (B:Bt2 mg) {t_FIGURES_fillings:Tok} (xT:mg "FIGURES_fillings"=some (.str (tx [46,49,50,51,52,53,54]) t_FIGURES_fillings)) {a:EA} (EM:ErrMx mg a) (R_NoFloor:ak K a "NoFloor" a.NoFloor (bq a)) (R_NoRule:ak K a "NoRule" a.NoRule (br a)) (R_NoPuzzle:ak K a "NoPuzzle" a.NoPuzzle (bt a)) (R_NoText:ak K a "NoText" a.NoText (bu a)) (R_NoFilling:ak K a "NoFilling" a.NoFilling (bv a)) {f:Addr} {fd:FuncData} (F:Fun K "read_figure" "read_figure" iO f fd):FnOk P w K mg base (CX1 P w) 1 f fd ["floor","figure"] (bK K):=by
 refine F.ok1 sc_read_figure (fun vs H Q E h=>mH h) (fun cdv A outer s H vs Q E hr h=>?_)
 have hu:=hr.units
 have nd:=sc_read_figure.nd
 refine ⟨dr K a E,?_,mI R_NoFloor R_NoRule R_NoPuzzle R_NoText R_NoFilling h⟩
 exact (ad (ar (i:=2) nd rfl (Or.inl rfl) (cR PySem.F.plainAttrs_str PySem.F.slot_str_find PySem.F.type_str_find uA (aU rfl xT ⟨t_FIGURES_fillings,rfl⟩) (aa (pv 1) ac)))
   (ad (aC (PW.pt (iY (ax mX (pv 2) ae (az _)) (jT (ax jW (pv 2) (aH (aR hu) (pv 0) ae (fun _ _=>rfl)) (az _))))) (ai (aK R_NoFilling.xc rfl EM.NoFilling (aa ah ac))) au)
   (ai (av (pv 2)))))
abbrev gW:Stmt:=mtop 24 0
theorem sc_Rule___init__:aA ["self","floor","words","cells","amount","mark"] ["self","floor","words","cells","amount","mark"] (ao gW):=⟨rfl,rfl,rfl,by decide+kernel,rfl,by decide+kernel,by decide+kernel⟩
set_option maxHeartbeats 4000000 in
theorem mO {P:Program} {w:World} {K:PySem.W.Frag} {mg:Str→Option Value} {base:Heap} (B:Bt2 mg) {c:RCl RK} (FK_c_amount:FldK K c "amount") (FK_c_cells:FldK K c "cells") (FK_c_floor:FldK K c "floor") (FK_c_mark:FldK K c "mark") (FK_c_words:FldK K c "words") {f:Addr} {fd:FuncData} (F:Fun K "__init__" "Rule.__init__" gW f fd):FnOk P w K mg base CX0 1 f fd ["self","floor","words","cells","amount","mark"] (ap K c):=by
 refine F.ok sc_Rule___init__ (fun vs H Q E h=>mB h) (fun cdv A outer s H vs Q E hr h=>?_)
 have hu:=hr.units
 have nd:=sc_Rule___init__.nd
 refine ⟨dq K c,?_,mC h⟩
 exact (ad (gq (pv 0) (pv 1) FK_c_floor)
   (ad (gq (pv 0) (aX mf rfl B.tuple_ mn (aa (pv 2) ac)) FK_c_words)
   (ad (gq (pv 0) (aX mf rfl B.tuple_ mn (aa (pv 3) ac)) FK_c_cells)
   (ad (gq (pv 0) (pv 4) FK_c_amount)
   (ai (gq (pv 0) (pv 5) FK_c_mark))))))
abbrev jN:Stmt:=mtop 24 5
theorem sc_Rule_line:aA ["self"] ["self"] (ao jN):=⟨rfl,rfl,rfl,by decide+kernel,rfl,by decide+kernel,by decide+kernel⟩
set_option maxHeartbeats 4000000 in
theorem rd {P:Program} {w:World} {K:PySem.W.Frag} {mg:Str→Option Value} {base:Heap} (B:Bt2 mg) {c:RCl RK} (FK_c_words:FldK K c "words") {f:Addr} {fd:FuncData} (F:Fun K "line" "Rule.line" jN f fd):FnOk P w K mg base CX0 1 f fd ["self"] (gS K c):=by
 refine F.ok sc_Rule_line (fun vs H Q E h=>qI h) (fun cdv A outer s H vs Q E hr h=>?_)
 have hu:=hr.units
 have nd:=sc_Rule_line.nd
 refine ⟨gT K c,?_,qJ h⟩
 exact (ai (av (cR PySem.F.plainAttrs_str PySem.F.slot_str_join PySem.F.type_str_join gr ah (aa (i7 (pv 0) FK_c_words) ac))))
abbrev jO:Stmt:=top 40
theorem sc_number_in:aA ["word"] ["word"] (ao jO):=⟨rfl,rfl,rfl,by decide+kernel,rfl,by decide+kernel,by decide+kernel⟩
set_option maxHeartbeats 4000000 in
theorem re {P:Program} {w:World} {K:PySem.W.Frag} {mg:Str→Option Value} {base:Heap} (B:Bt2 mg) {t_FIGURES_rows:Tok} (yN:mg "FIGURES_rows"=some (.str (tx [48,49,50,51,52,53,54,55,56,57]) t_FIGURES_rows)) {t_MOST_FIGURES:Tok} (yO:mg "MOST_FIGURES"=some (.int 9 t_MOST_FIGURES)) {f:Addr} {fd:FuncData} (F:Fun K "number_in" "number_in" jO f fd):FnOk P w K mg base CX0 1 f fd ["word"] (bC K):=by
 refine F.ok sc_number_in (fun vs H Q E h=>oA h) (fun cdv A outer s H vs Q E hr h=>?_)
 have hu:=hr.units
 have nd:=sc_number_in.nd
 refine ⟨fC K,?_,oB h⟩
 exact (ad (aC (PW.pt (iY (ax (bA hu) (pv 0) ah (az _)) (iY (ax jW (aw bI rfl B.len_ bM (aa (pv 0) ac)) (aU rfl yO ⟨t_MOST_FIGURES,rfl⟩) (az _)) (jT (PW.pt (sX (ax (bA hu) (aH (aR hu) (pv 0) ae (fun _ _=>rfl)) ah (az _)) (rF (ax (fP hu) (pv 0) ah (az _))))))))) (ai (av jS)) au)
   (ad (aC (du (cF (aw (pc rfl) rfl B.all_ tR (aa (dC (ix:=[none,none]) [".0","figure"] (bQ rfl (by decide+kernel) rfl rfl rfl) rfl (tP (pv 0)) (fun cl s H fp=>(aI (i:=1) (show ([".0","figure"]:List Str).Nodup by decide+kernel) rfl (Or.inl rfl))) (fun cl s H fp=>bP) (fun cl s H fp=>(db (kC hu) (pv 1) (aU rfl yN ⟨t_FIGURES_rows,rfl⟩) (by with_unfolding_all rfl)))) ac)))) (ai (av jS)) au)
   (ai (av (aX kg rfl B.int_ m4 (aa (pv 0) ac))))))
abbrev ic:Stmt:=mtop 53 3
theorem sc_Puzzle_clues:aA ["self"] ["self"] (ao ic):=⟨rfl,rfl,rfl,by decide+kernel,rfl,by decide+kernel,by decide+kernel⟩
set_option maxHeartbeats 4000000 in
theorem oa {P:Program} {w:World} {K:PySem.W.Frag} {mg:Str→Option Value} {base:Heap} (B:Bt2 mg) {c:RCl RK} {d:RCl PzK} (FK_d_given:FldK K d "given") {f:Addr} {fd:FuncData} (F:Fun K "clues" "Puzzle.clues" ic f fd):FnOk P w K mg base CX0 1 f fd ["self"] (dI K c d):=by
 refine F.ok sc_Puzzle_clues (fun vs H Q E h=>nc h) (fun cdv A outer s H vs Q E hr h=>?_)
 have hu:=hr.units
 have nd:=sc_Puzzle_clues.nd
 refine ⟨dJ K c d,?_,nh h⟩
 exact (ai (av (aX j7 rfl B.list_ jX (aa (i7 (pv 0) FK_d_given) ac))))
abbrev gf:Stmt:=top 57
theorem sc_refuse_no_text:aA ["text"] ["text"] (ao gf):=⟨rfl,rfl,rfl,by decide+kernel,rfl,by decide+kernel,by decide+kernel⟩
set_option maxHeartbeats 4000000 in
theorem lY {P:Program} {w:World} {K:PySem.W.Frag} {mg:Str→Option Value} {base:Heap} (B:Bt2 mg) {a:EA} (EM:ErrMx mg a) (R_NoFloor:ak K a "NoFloor" a.NoFloor (bq a)) (R_NoRule:ak K a "NoRule" a.NoRule (br a)) (R_NoPuzzle:ak K a "NoPuzzle" a.NoPuzzle (bt a)) (R_NoText:ak K a "NoText" a.NoText (bu a)) (R_NoFilling:ak K a "NoFilling" a.NoFilling (bv a)) {f:Addr} {fd:FuncData} (F:Fun K "refuse_no_text" "refuse_no_text" gf f fd):FnOk P w K mg base (CX1 P w) 1 f fd ["text"] (bz K):=by
 refine F.ok1 sc_refuse_no_text (fun vs H Q E h=>kt h) (fun cdv A outer s H vs Q E hr h=>?_)
 have hu:=hr.units
 have nd:=sc_refuse_no_text.nd
 refine ⟨cw K a E,?_,ku R_NoFloor R_NoRule R_NoPuzzle R_NoText R_NoFilling h⟩
 exact (ai (aC (du (cF (aw ee rfl B.isinstance_ aE (aa (pv 0) (aa (gh (v:=.ty "str") rfl B.str_ ei rfl) ac))))) (ai (aK R_NoText.xc rfl EM.NoText (aa ah ac))) au))
abbrev ie:Stmt:=top 62
theorem sc__law_cell_at:aA ["_law_script","_law_k","_law_number"] ["_law_script","_law_k"] (ao ie):=⟨rfl,rfl,rfl,by decide+kernel,rfl,by decide+kernel,by decide+kernel⟩
set_option maxHeartbeats 4000000 in
theorem og {P:Program} {w:World} {K:PySem.W.Frag} {mg:Str→Option Value} {base:Heap} (B:Bt2 mg) {f:Addr} {fd:FuncData} (F:Fun K "_law_cell_at" "_law_cell_at" ie f fd):FnOk P w K mg base CX0 1 f fd ["_law_script","_law_k"] (aQ K):=by
 refine F.ok sc__law_cell_at (fun vs H Q E h=>nK h) (fun cdv A outer s H vs Q E hr h=>?_)
 have hu:=hr.units
 have nd:=sc__law_cell_at.nd
 refine ⟨dS K,?_,nM h⟩
 exact (ad (aC (ax (bA hu) (aw dZ rfl B.len_ bM (aa (pv 0) ac)) ae (az _)) (ai (av (ag aW (ag aj (ag cy (ag cy (pv 1) (pv 1)) ae) (ag cy ae (pv 1))) ae))) au)
   (ad (ar (i:=2) nd rfl (Or.inl rfl) (ag aW (aH rM (pv 0) (ag aW (pv 1) (aw dZ rfl B.len_ bM (aa (pv 0) ac))) (fun _ _=>rfl)) ae))
   (ad (aC (ax mX (pv 1) (aw dZ rfl B.len_ bM (aa (pv 0) ac)) (az _)) (ai (av (pv 2))) au)
   (ai (av (ag aW (ag aj (ag cy (pv 2) ae) (ag cy (ag cy (pv 1) (pv 1)) ae)) ae))))))
abbrev jv:Stmt:=top 63
theorem sc__law_floor:aA ["_law_cell","_law_high","_law_wide"] ["_law_cell"] (ao jv):=⟨rfl,rfl,rfl,by decide+kernel,rfl,by decide+kernel,by decide+kernel⟩
set_option maxHeartbeats 4000000 in
theorem pQ {P:Program} {w:World} {K:PySem.W.Frag} {mg:Str→Option Value} {base:Heap} (B:Bt2 mg) {f:Addr} {fd:FuncData} (F:Fun K "_law_floor" "_law_floor" jv f fd):FnOk P w K mg base CX0 1 f fd ["_law_cell"] (bV K):=by
 refine F.ok sc__law_floor (fun vs H Q E h=>nN h) (fun cdv A outer s H vs Q E hr h=>?_)
 have hu:=hr.units
 have nd:=sc__law_floor.nd
 refine ⟨dU K,?_,nO h⟩
 exact (ad (ar (i:=1) nd rfl (Or.inl rfl) (ag aj ae (ag aW (pv 0) ae)))
   (ad (ar (i:=2) nd rfl (Or.inl rfl) (ag aj ae (ag aW (ag dG (pv 0) ae) (aw (jC rfl) rfl B.min_ m3 (aa ae (aa (ag dG ae (pv 1)) ac))))))
   (ai (av (fO (aa (pv 1) (aa (pv 2) (aa (ag aj ae (ag aW (ag dG (pv 0) ae) ae)) ac))))))))
abbrev jP:Stmt:=top 64
theorem sc__law_head:aA ["_law_cell","_law_floor_here","_law_high","_law_wide","_law_signs","_law_some","_law_floors"] ["_law_cell","_law_floor_here"] (ao jP):=⟨rfl,rfl,rfl,by decide+kernel,rfl,by decide+kernel,by decide+kernel⟩
set_option maxHeartbeats 4000000 in
theorem rf {P:Program} {w:World} {K:PySem.W.Frag} {mg:Str→Option Value} {base:Heap} (B:Bt2 mg) {f:Addr} {fd:FuncData} (F:Fun K "_law_head" "_law_head" jP f fd):FnOk P w K mg base CX0 1 f fd ["_law_cell","_law_floor_here"] (cj K):=by
 refine F.ok sc__law_head (fun vs H Q E h=>oI h) (fun cdv A outer s H vs Q E hr h=>?_)
 have hu:=hr.units
 have nd:=sc__law_head.nd
 refine ⟨fE K,?_,oJ h⟩
 refine ad ?_ ?_
 · exact (mS (dC (ix:=[none,none]) [".0","_law_number"] (bQ rfl (by decide+kernel) rfl rfl rfl) rfl (sZ (pv 1)) (fun cl s H fp=>(aI (i:=1) (show ([".0","_law_number"]:List Str).Nodup by decide+kernel) rfl (Or.inl rfl))) (fun cl s H fp=>bP) (fun cl s H fp=>(aX dk rfl B.str_ ei (aa (pv 1) ac)))) (wT rfl (cm (aI (i:=2) nd rfl (Or.inl rfl)) (cm (aI (i:=3) nd rfl (Or.inl rfl)) (cm (aI (i:=4) nd rfl (Or.inl rfl)) li)))))
 · refine ad ?_ ?_
   · exact (ar (i:=5) nd rfl (Or.inl rfl) (bf (aa (ag aj (ag aj (ag aj (ag aj (ag aj ah (pv 2)) ah) (pv 3)) ah) (pv 4)) (aa (ag aj (ag aj (pv 2) ah) (pv 4)) (aa (ag aj (ag aj (ag aj (pv 2) ah) (pv 3)) ah) ac)))))
   · refine ad ?_ ?_
     · exact (ar (i:=5) nd rfl (Or.inl rfl) (ag aj (pv 5) (bf (aa (ag aj (ag aj (pv 2) ah) (pv 3)) (aa (ag aj (ag aj (ag aj (ag aj (ag aj (pv 2) ah) (pv 3)) ah) (pv 4)) ah) (aa (ag aj (ag aj (ag aj (ag aj (pv 2) ah) (pv 3)) ah) (pv 4)) ac))))))
     · refine ad ?_ ?_
       · exact (lf (cR PySem.F.plainAttrs_list PySem.F.slot_list_append PySem.F.type_list_append mZ (pv 5) (aa (ag aj (ag aj (ag aj (pv 2) ah) (pv 3)) ah) ac)))
       · refine ad ?_ ?_
         · exact (ar (i:=6) nd rfl (Or.inl rfl) (bf (aa (ag aj ah (pv 4)) (aa (ag aj ah (pv 4)) (aa (ag aj ah (pv 4)) (aa (ag aj ah (pv 4)) (aa ah (aa (ag aj (ag aj (ag aj (pv 2) ah) (pv 3)) ah) ac))))))))
         · refine ad ?_ ?_
           · exact (ar (i:=6) nd rfl (Or.inl rfl) (ag aj (pv 6) (bf (aa (ag aj (ag aj (ag aj (pv 2) ah) (pv 3)) ah) (aa ah (aa ah (aa ah ac)))))))
           · refine ad ?_ ?_
             · exact (aC (ax (bA hu) (ag aW (pv 0) ae) ae (az _)) (ai (av (fO (aa (aH (aR hu) (pv 5) (ag aW (ag dG (pv 0) ae) ae) (fun _ _=>rfl)) (aa ae ac))))) au)
             · refine ai ?_
               · exact (av (fO (aa (aH (aR hu) (pv 6) (ag aW (ag dG (pv 0) ae) ae) (fun _ _=>rfl)) (aa ae ac))))
abbrev jw:Stmt:=top 65
theorem sc__law_lines:aA ["_law_cell","_law_floor_here","_law_lines_here","_law_many","_law_odd","_law_at","_law_some"] ["_law_cell","_law_floor_here","_law_lines_here"] (ao jw):=⟨rfl,rfl,rfl,by decide+kernel,rfl,by decide+kernel,by decide+kernel⟩
set_option maxHeartbeats 4000000 in
theorem pR {P:Program} {w:World} {K:PySem.W.Frag} {mg:Str→Option Value} {base:Heap} (B:Bt2 mg) {f:Addr} {fd:FuncData} (F:Fun K "_law_lines" "_law_lines" jw f fd):FnOk P w K mg base CX0 1 f fd ["_law_cell","_law_floor_here","_law_lines_here"] (bW K):=by
 refine F.ok sc__law_lines (fun vs H Q E h=>nQ h) (fun cdv A outer s H vs Q E hr h=>?_)
 have hu:=hr.units
 have nd:=sc__law_lines.nd
 refine ⟨dW K,?_,nR h⟩
 refine ad ?_ ?_
 · exact (ar (i:=3) nd rfl (Or.inl rfl) (aX dk rfl B.str_ ei (aa (ag cy (aH (aR hu) (pv 1) ae (fun _ _=>rfl)) (aH (aR hu) (pv 1) ae (fun _ _=>rfl))) ac)))
 · refine ad ?_ ?_
   · exact (ar (i:=4) nd rfl (Or.inl rfl) (bf (aa ah (aa (ag aj ah (pv 3)) (aa ah (aa ah (aa ah (aa ah (aa ah (aa ah ac))))))))))
   · refine ad ?_ ?_
     · exact (ar (i:=4) nd rfl (Or.inl rfl) (ag aj (pv 4) (bf (aa ah (aa ah (aa ah (aa ah (aa ah (aa ah (aa ah ac))))))))))
     · refine ad ?_ ?_
       · exact (ar (i:=4) nd rfl (Or.inl rfl) (ag aj (pv 4) (bf (aa ah (aa ah (aa ah ac))))))
       · refine ad ?_ ?_
         · exact (aC (ax (bA hu) (ag aW (pv 0) ae) ae (az _)) (ai (av (fO (aa (ag aj (pv 2) (dC (ix:=[none,none]) [".0","_law_k"] (bQ rfl (by decide+kernel) rfl rfl rfl) rfl (gi rfl B.range_ (aa (ag rP ae (aw bI rfl B.len_ bM (aa (pv 2) ac))) ac)) (fun cl s H fp=>(aI (i:=1) (show ([".0","_law_k"]:List Str).Nodup by decide+kernel) rfl (Or.inl rfl))) (fun cl s H fp=>bP) (fun cl s H fp=>ah))) (aa ae ac))))) au)
         · refine ad ?_ ?_
           · exact (ar (i:=5) nd rfl (Or.inl rfl) (ag aW (ag dG (pv 0) ae) (ag aj (aw bI rfl B.len_ bM (aa (pv 2) ac)) ae)))
           · refine ad ?_ ?_
             · exact (ar (i:=6) nd rfl (Or.inl rfl) (ag aj (ag aj (cP iq (pv 2) dA (dB (pv 5))) (bf (aa (aH (aR hu) (pv 4) (ag aW (ag dG (pv 0) ae) ae) (fun _ _=>rfl)) ac))) (cP iq (pv 2) (dB (pv 5)) dA)))
             · refine ad ?_ ?_
               · exact (aC (ax (bA hu) (pv 6) (bf (aa ah ac)) (az _)) (ai (ar (i:=6) nd rfl (Or.inl rfl) (bf (aa ah ac)))) au)
               · refine ai ?_
                 · refine av ?_
                   · refine fO ?_
                     · refine aa ?_ ?_
                       · exact (cP iq (pv 6) dA (dB ae))
                       · exact (aa (aH (aR hu) (bf (aa ae (aa ae ac))) (aX kg rfl B.int_ m4 (aa (db jW (pv 5) ae (az _)) ac)) (fun _ _=>rfl)) ac)
abbrev jx:Stmt:=top 66
theorem sc__law_clues:aA ["_law_cell","_law_floor_here","_law_text","_law_great","_law_some"] ["_law_cell","_law_floor_here","_law_text"] (ao jx):=⟨rfl,rfl,rfl,by decide+kernel,rfl,by decide+kernel,by decide+kernel⟩
set_option maxHeartbeats 4000000 in
theorem pS {P:Program} {w:World} {K:PySem.W.Frag} {mg:Str→Option Value} {base:Heap} (B:Bt2 mg) {f:Addr} {fd:FuncData} (F:Fun K "_law_clues" "_law_clues" jx f fd):FnOk P w K mg base CX0 1 f fd ["_law_cell","_law_floor_here","_law_text"] (bX K):=by
 refine F.ok sc__law_clues (fun vs H Q E h=>nU h) (fun cdv A outer s H vs Q E hr h=>?_)
 have hu:=hr.units
 have nd:=sc__law_clues.nd
 refine ⟨dX K,?_,nX h⟩
 refine ad ?_ ?_
 · exact (ar (i:=3) nd rfl (Or.inl rfl) (aX dk rfl B.str_ ei (aa (ag aj (aH (aR hu) (pv 1) ae (fun _ _=>rfl)) ae) ac)))
 · refine ad ?_ ?_
   · exact (ar (i:=4) nd rfl (Or.inl rfl) (bf (aa (ag aj (ag aj (pv 2) ah) (aH (aR hu) (cR PySem.F.plainAttrs_str PySem.F.slot_str_split PySem.F.type_str_split gj (pv 2) (aa ah ac)) ae (fun _ _=>rfl))) (aa (ag aj (cP iq (pv 2) dA (dB (pZ mT ae))) (pv 3)) (aa (ag aj (pv 2) ah) (aa (cP iq (pv 2) dA (dB (pZ mT ae))) (aa (ag aj (cP iq (pv 2) dA (dB (pZ mT ae))) ah) ac)))))))
   · refine ad ?_ ?_
     · exact (ar (i:=4) nd rfl (Or.inl rfl) (ag aj (pv 4) (bf (aa (ag aj (cP iq (pv 2) dA (dB (pZ mT ae))) ah) (aa (ag aj (pv 2) ah) ac)))))
     · refine ai ?_
       · exact (av (aH (aR hu) (pv 4) (ag aW (pv 0) ae) (fun _ _=>rfl)))
abbrev gg:Stmt:=top 15
theorem sc_is_from_one_to:aA ["value","most"] ["value","most"] (ao gg):=⟨rfl,rfl,rfl,by decide+kernel,rfl,by decide+kernel,by decide+kernel⟩
set_option maxHeartbeats 4000000 in
theorem lZ {P:Program} {w:World} {K:PySem.W.Frag} {mg:Str→Option Value} {base:Heap} (B:Bt2 mg) (xY:Cal P w K mg base 1 "is_whole" ["value"] (ce K)) {f:Addr} {fd:FuncData} (F:Fun K "is_from_one_to" "is_from_one_to" gg f fd):FnOk P w K mg base CX0 2 f fd ["value","most"] (aY K):=by
 refine F.ok sc_is_from_one_to (fun vs H Q E h=>lJ h) (fun cdv A outer s H vs Q E hr h=>?_)
 have hu:=hr.units
 have nd:=sc_is_from_one_to.nd
 refine ⟨cS K,?_,lK h⟩
 exact (ai (av (iy (ba xY hr (by decide) rfl (aa (pv 0) ac)) (iy (db mY ae (pv 0) (az _)) (kx (db mY (pv 0) (pv 1) (az _)))))))
abbrev ko:Stmt:=top 21
theorem sc_read_row:aA ["floor","row"] ["floor","row"] (ao ko):=⟨rfl,rfl,rfl,by decide+kernel,rfl,by decide+kernel,by decide+kernel⟩
set_option maxHeartbeats 4000000 in
theorem rC {P:Program} {w:World} {K:PySem.W.Frag} {mg:Str→Option Value} {base:Heap} (B:Bt2 mg) (y1:aL P w K mg base 1 "read_figure" ["floor","figure"] (bK K)) {a:EA} (EM:ErrMx mg a) (R_NoFloor:ak K a "NoFloor" a.NoFloor (bq a)) (R_NoRule:ak K a "NoRule" a.NoRule (br a)) (R_NoPuzzle:ak K a "NoPuzzle" a.NoPuzzle (bt a)) (R_NoText:ak K a "NoText" a.NoText (bu a)) (R_NoFilling:ak K a "NoFilling" a.NoFilling (bv a)) {f:Addr} {fd:FuncData} (F:Fun K "read_row" "read_row" ko f fd):FnOk P w K mg base (CX1 P w) 2 f fd ["floor","row"] (cD K):=by
 refine F.ok1 sc_read_row (fun vs H Q E h=>pN h) (fun cdv A outer s H vs Q E hr h=>?_)
 have hu:=hr.units
 have nd:=sc_read_row.nd
 refine ⟨gc K a E,?_,pO R_NoFloor R_NoRule R_NoPuzzle R_NoText R_NoFilling h⟩
 exact (ad (aC (ax (fP hu) (aw bI rfl B.len_ bM (aa (pv 1) ac)) (aH (aR hu) (pv 0) ae (fun _ _=>rfl)) (az _)) (ai (aK R_NoFilling.xc rfl EM.NoFilling (aa ah ac))) au)
   (ai (av (dC (ix:=[none,none,some 0]) [".0","figure","floor"] (bQ rfl (by decide+kernel) rfl rfl rfl) rfl (tP (pv 1)) (fun cl s H fp=>(aI (i:=1) (show ([".0","figure","floor"]:List Str).Nodup by decide+kernel) rfl (Or.inl rfl))) (fun cl s H fp=>bP) (fun cl s H fp=>(bd (rb fun _ _ _ z=>z) y1 hr (by decide) rfl (aa (pv 2) (aa (pv 1) ac))))))))
abbrev gX:Stmt:=top 41
theorem sc_number_within:aA ["word","least","most","number"] ["word","least","most"] (ao gX):=⟨rfl,rfl,rfl,by decide+kernel,rfl,by decide+kernel,by decide+kernel⟩
set_option maxHeartbeats 4000000 in
theorem mP {P:Program} {w:World} {K:PySem.W.Frag} {mg:Str→Option Value} {base:Heap} (B:Bt2 mg) (xO:Cal P w K mg base 1 "number_in" ["word"] (bC K)) {a:EA} (EM:ErrMx mg a) (R_NoFloor:ak K a "NoFloor" a.NoFloor (bq a)) (R_NoRule:ak K a "NoRule" a.NoRule (br a)) (R_NoPuzzle:ak K a "NoPuzzle" a.NoPuzzle (bt a)) (R_NoText:ak K a "NoText" a.NoText (bu a)) (R_NoFilling:ak K a "NoFilling" a.NoFilling (bv a)) {f:Addr} {fd:FuncData} (F:Fun K "number_within" "number_within" gX f fd):FnOk P w K mg base (CX1 P w) 2 f fd ["word","least","most"] (aT K):=by
 refine F.ok1 sc_number_within (fun vs H Q E h=>kK h) (fun cdv A outer s H vs Q E hr h=>?_)
 have hu:=hr.units
 have nd:=sc_number_within.nd
 refine ⟨cG K a E,?_,kL R_NoFloor R_NoRule R_NoPuzzle h⟩
 exact (ad (ar (i:=3) nd rfl (Or.inl rfl) (ba xO hr (by decide) rfl (aa (pv 0) ac)))
   (ad (aC (PW.pt (iY (ax tw (pv 3) jS (az _)) (iY (ax mX (pv 3) (pv 1) (az _)) (jT (ax jW (pv 3) (pv 2) (az _)))))) (ai (aK R_NoRule.xc rfl EM.NoRule (aa ah ac))) au)
   (ai (av (pv 3)))))
abbrev jy:Stmt:=top 51
theorem sc_is_filling:aA ["floor","filling","least"] ["floor","filling","least"] (ao jy):=⟨rfl,rfl,rfl,by decide+kernel,rfl,by decide+kernel,by decide+kernel⟩
set_option maxHeartbeats 4000000 in
theorem pT {P:Program} {w:World} {K:PySem.W.Frag} {mg:Str→Option Value} {base:Heap} (B:Bt2 mg) (xY:Cal P w K mg base 1 "is_whole" ["value"] (ce K)) (xE:Cal P w K mg base 1 "many_cells" ["floor"] (aN K)) {f:Addr} {fd:FuncData} (F:Fun K "is_filling" "is_filling" jy f fd):FnOk P w K mg base CX0 2 f fd ["floor","filling","least"] (cB K):=by
 refine F.ok sc_is_filling (fun vs H Q E h=>pH h) (fun cdv A outer s H vs Q E hr h=>?_)
 have hu:=hr.units
 have nd:=sc_is_filling.nd
 refine ⟨fY K,?_,pI h⟩
 exact (ad (aC (PW.pt (iY (du (cF (aw ee rfl B.isinstance_ aE (aa (pv 1) (aa (gh (v:=.ty "list") rfl B.list_ jX rfl) ac))))) (jT (ax (fP hu) (aw bI rfl B.len_ bM (aa (pv 1) ac)) (ba xE hr (by decide) rfl (aa (pv 0) ac)) (az _))))) (ai (av pX)) au)
   (ai (av (aw (pc rfl) rfl B.all_ tR (aa (dC (ix:=[none,none,some 0,some 2]) [".0","sign","floor","least"] (bQ rfl (by decide+kernel) rfl rfl rfl) rfl (g7 (pv 1)) (fun cl s H fp=>(aI (i:=1) (show ([".0","sign","floor","least"]:List Str).Nodup by decide+kernel) rfl (Or.inl rfl))) (fun cl s H fp=>bP) (fun cl s H fp=>(iy (ba xY hr (by decide) rfl (aa (pv 1) ac)) (iy (db mY (pv 3) (pv 1) (az _)) (kx (db mY (pv 1) (aH (aR hu) (pv 2) ae (fun _ _=>rfl)) (az _))))))) ac)))))
abbrev ig:Stmt:=mtop 53 2
theorem sc_Puzzle_lines:aA ["self"] ["self"] (ao ig):=⟨rfl,rfl,rfl,by decide+kernel,rfl,by decide+kernel,by decide+kernel⟩
set_option maxHeartbeats 4000000 in
theorem oh {P:Program} {w:World} {K:PySem.W.Frag} {mg:Str→Option Value} {base:Heap} (B:Bt2 mg) {c:RCl RK} {d:RCl PzK} (FK_d_laws:FldK K d "laws") (A3:MCal P w K mg base c c.ok 1 "line" ["self"] (jZ K c)) {f:Addr} {fd:FuncData} (F:Fun K "lines" "Puzzle.lines" ig f fd):FnOk P w K mg base CX0 2 f fd ["self"] (dL K c d):=by
 refine F.ok sc_Puzzle_lines (fun vs H Q E h=>ni h) (fun cdv A outer s H vs Q E hr h=>?_)
 have hu:=hr.units
 have nd:=sc_Puzzle_lines.nd
 refine ⟨dM K c d,?_,nj h⟩
 exact (ai (av (dC (ix:=[none,none]) [".0","rule"] (bQ rfl (by decide+kernel) rfl rfl rfl) rfl (g7 (i7 (pv 0) FK_d_laws)) (fun cl s H fp=>(aI (i:=1) (show ([".0","rule"]:List Str).Nodup by decide+kernel) rfl (Or.inl rfl))) (fun cl s H fp=>bP) (fun cl s H fp=>(jI A3 hr (by decide) (pv 1))))))
abbrev ii:Stmt:=top 58
theorem sc_read_numbers:aA ["words","numbers"] ["words"] (ao ii):=⟨rfl,rfl,rfl,by decide+kernel,rfl,by decide+kernel,by decide+kernel⟩
set_option maxHeartbeats 4000000 in
theorem oi {P:Program} {w:World} {K:PySem.W.Frag} {mg:Str→Option Value} {base:Heap} (B:Bt2 mg) (xO:Cal P w K mg base 1 "number_in" ["word"] (bC K)) {a:EA} (EM:ErrMx mg a) (R_NoFloor:ak K a "NoFloor" a.NoFloor (bq a)) (R_NoRule:ak K a "NoRule" a.NoRule (br a)) (R_NoPuzzle:ak K a "NoPuzzle" a.NoPuzzle (bt a)) (R_NoText:ak K a "NoText" a.NoText (bu a)) (R_NoFilling:ak K a "NoFilling" a.NoFilling (bv a)) {f:Addr} {fd:FuncData} (F:Fun K "read_numbers" "read_numbers" ii f fd):FnOk P w K mg base (CX1 P w) 2 f fd ["words"] (bG K):=by
 refine F.ok1 sc_read_numbers (fun vs H Q E h=>lT h) (fun cdv A outer s H vs Q E hr h=>?_)
 have hu:=hr.units
 have nd:=sc_read_numbers.nd
 refine ⟨cX K a E,?_,lU R_NoFloor R_NoRule R_NoPuzzle R_NoText R_NoFilling h⟩
 exact (ad (lj (k:=1) nd rfl (Or.inl rfl) rfl (ix:=[none,none]) [".0","word"] (bQ rfl (by decide+kernel) rfl rfl rfl) rfl (g7 (pv 0)) (fun cl s H fp=>(aI (i:=1) (show ([".0","word"]:List Str).Nodup by decide+kernel) rfl (Or.inl rfl))) (fun cl s H fp=>bP) (fun cl s H fp=>(ba xO hr (by decide) rfl (aa (pv 1) ac))))
   (ad (aC (ax (kC hu) jS (pv 1) (by with_unfolding_all rfl)) (ai (aK R_NoText.xc rfl EM.NoText (aa ah ac))) au)
   (ai (av (pv 1)))))
abbrev jQ:Stmt:=top 68
theorem sc__law_bent:aA ["_law_cell","_law_floor_here","_law_lines_here","_law_clues_here","_law_head_here","_law_due","_law_some","_law_other","_law_end"] ["_law_cell","_law_floor_here","_law_lines_here","_law_clues_here"] (ao jQ):=⟨rfl,rfl,rfl,by decide+kernel,rfl,by decide+kernel,by decide+kernel⟩
set_option maxHeartbeats 4000000 in
theorem rg {P:Program} {w:World} {K:PySem.W.Frag} {mg:Str→Option Value} {base:Heap} (B:Bt2 mg) (zd:Cal P w K mg base 1 "_law_clues" ["_law_cell","_law_floor_here","_law_text"] (bX K)) (zy:Cal P w K mg base 1 "_law_head" ["_law_cell","_law_floor_here"] (cj K)) (ze:Cal P w K mg base 1 "_law_lines" ["_law_cell","_law_floor_here","_law_lines_here"] (bW K)) {f:Addr} {fd:FuncData} (F:Fun K "_law_bent" "_law_bent" jQ f fd):FnOk P w K mg base CX0 2 f fd ["_law_cell","_law_floor_here","_law_lines_here","_law_clues_here"] (ck K):=by
 refine F.ok sc__law_bent (fun vs H Q E h=>oM h) (fun cdv A outer s H vs Q E hr h=>?_)
 have hu:=hr.units
 have nd:=sc__law_bent.nd
 refine ⟨fF K,?_,oN h⟩
 refine ad ?_ ?_
 · exact (ar (i:=4) nd rfl (Or.inl rfl) (ag aj (ag aj (ag aj (ag aj (aX dk rfl B.str_ ei (aa (aH (aR hu) (pv 1) ae (fun _ _=>rfl)) ac)) ah) (aX dk rfl B.str_ ei (aa (aH (aR hu) (pv 1) ae (fun _ _=>rfl)) ac))) ah) (aX dk rfl B.str_ ei (aa (aH (aR hu) (pv 1) ae (fun _ _=>rfl)) ac))))
 · refine ad ?_ ?_
   · exact (ar (i:=5) nd rfl (Or.inl rfl) ae)
   · refine ad ?_ ?_
     · exact (aC (ax (kC hu) (ag aW (pv 0) ae) (fO (aa ae (aa ae (aa ae (aa ae ac))))) (by with_unfolding_all rfl)) (ai (mS (ba zy hr (by decide) rfl (aa (ag dG (pv 0) ae) (aa (pv 1) ac))) (qa rfl (cm (aI (i:=4) nd rfl (Or.inl rfl)) (cm (aI (i:=5) nd rfl (Or.inl rfl)) li))))) au)
     · refine ad ?_ ?_
       · exact (ar (i:=6) nd rfl (Or.inl rfl) (aX j7 rfl B.list_ jX (aa (pv 2) ac)))
       · refine ad ?_ ?_
         · exact (aC (ax (kC hu) (ag aW (pv 0) ae) (fO (aa ae (aa ae (aa ae (aa ae ac))))) (by with_unfolding_all rfl)) (ad (mS (ba ze hr (by decide) rfl (aa (ag dG (pv 0) ae) (aa (pv 1) (aa (pv 2) ac)))) (qa rfl (cm (aI (i:=6) nd rfl (Or.inl rfl)) (cm (aI (i:=7) nd rfl (Or.inl rfl)) li)))) (ai (ar (i:=5) nd rfl (Or.inl rfl) (aw (jC rfl) rfl B.min_ m3 (aa (pv 5) (aa (ag aj (pv 7) (ag cy (aX kg rfl B.int_ m4 (aa (db (bA hu) (pv 7) ae (az _)) ac)) ae)) ac)))))) au)
         · refine ad ?_ ?_
           · exact (ar (i:=8) nd rfl (Or.inl rfl) (pv 3))
           · refine ad ?_ ?_
             · exact (aC (ax (kC hu) (ag aW (pv 0) ae) (fO (aa ae (aa ae (aa ae (aa ae ac))))) (by with_unfolding_all rfl)) (ad (ar (i:=8) nd rfl (Or.inl rfl) (ba zd hr (by decide) rfl (aa (ag dG (pv 0) ae) (aa (pv 1) (aa (pv 3) ac))))) (ai (ar (i:=5) nd rfl (Or.inl rfl) (aw (jC rfl) rfl B.min_ m3 (aa (pv 5) (aa ae ac)))))) au)
             · refine ai ?_
               · exact (av (fO (aa (pv 4) (aa (cR PySem.F.plainAttrs_str PySem.F.slot_str_join PySem.F.type_str_join gr ah (aa (pv 6) ac)) (aa (pv 8) (aa (pv 5) ac))))))
abbrev kq:Stmt:=top 16
theorem sc_floor_of:aA ["high","wide","signs"] ["high","wide","signs"] (ao kq):=⟨rfl,rfl,rfl,by decide+kernel,rfl,by decide+kernel,by decide+kernel⟩
set_option maxHeartbeats 4000000 in
theorem rD {P:Program} {w:World} {K:PySem.W.Frag} {mg:Str→Option Value} {base:Heap} (B:Bt2 mg) (xL:Cal P w K mg base 2 "is_from_one_to" ["value","most"] (aY K)) {t_MOST_CELLS:Tok} (zf:mg "MOST_CELLS"=some (.int 16 t_MOST_CELLS)) {t_MOST_SIDE:Tok} (y0:mg "MOST_SIDE"=some (.int 6 t_MOST_SIDE)) {t_MOST_SIGNS:Tok} (zg:mg "MOST_SIGNS"=some (.int 6 t_MOST_SIGNS)) {a:EA} (EM:ErrMx mg a) (R_NoFloor:ak K a "NoFloor" a.NoFloor (bq a)) (R_NoRule:ak K a "NoRule" a.NoRule (br a)) (R_NoPuzzle:ak K a "NoPuzzle" a.NoPuzzle (bt a)) (R_NoText:ak K a "NoText" a.NoText (bu a)) (R_NoFilling:ak K a "NoFilling" a.NoFilling (bv a)) {f:Addr} {fd:FuncData} (F:Fun K "floor_of" "floor_of" kq f fd):FnOk P w K mg base (CX1 P w) 3 f fd ["high","wide","signs"] (bJ K):=by
 refine F.ok1 sc_floor_of (fun vs H Q E h=>pL h) (fun cdv A outer s H vs Q E hr h=>?_)
 have hu:=hr.units
 have nd:=sc_floor_of.nd
 refine ⟨gb K a E,?_,pM R_NoFloor R_NoRule R_NoPuzzle h⟩
 exact (ad (aC (du (cF (ba xL hr (by decide) rfl (aa (pv 0) (aa (aU rfl y0 ⟨t_MOST_SIDE,rfl⟩) ac))))) (ai (aK R_NoFloor.xc rfl EM.NoFloor (aa ah ac))) au)
   (ad (aC (du (cF (ba xL hr (by decide) rfl (aa (pv 1) (aa (aU rfl y0 ⟨t_MOST_SIDE,rfl⟩) ac))))) (ai (aK R_NoFloor.xc rfl EM.NoFloor (aa ah ac))) au)
   (ad (aC (ax jW (ag cy (pv 0) (pv 1)) (aU rfl zf ⟨t_MOST_CELLS,rfl⟩) (az _)) (ai (aK R_NoFloor.xc rfl EM.NoFloor (aa ah ac))) au)
   (ad (aC (du (cF (ba xL hr (by decide) rfl (aa (pv 2) (aa (aU rfl zg ⟨t_MOST_SIGNS,rfl⟩) ac))))) (ai (aK R_NoFloor.xc rfl EM.NoFloor (aa ah ac))) au)
   (ai (av (fO (aa (pv 0) (aa (pv 1) (aa (pv 2) ac))))))))))
abbrev ij:Stmt:=top 22
theorem sc_read_filling:aA ["floor","text","rows","filling","row"] ["floor","text"] (ao ij):=⟨rfl,rfl,rfl,by decide+kernel,rfl,by decide+kernel,by decide+kernel⟩
set_option maxHeartbeats 4000000 in
theorem oj {P:Program} {w:World} {K:PySem.W.Frag} {mg:Str→Option Value} {base:Heap} (B:Bt2 mg) (zC:aL P w K mg base 2 "read_row" ["floor","row"] (cD K)) {a:EA} (EM:ErrMx mg a) (R_NoFloor:ak K a "NoFloor" a.NoFloor (bq a)) (R_NoRule:ak K a "NoRule" a.NoRule (br a)) (R_NoPuzzle:ak K a "NoPuzzle" a.NoPuzzle (bt a)) (R_NoText:ak K a "NoText" a.NoText (bu a)) (R_NoFilling:ak K a "NoFilling" a.NoFilling (bv a)) {f:Addr} {fd:FuncData} (F:Fun K "read_filling" "read_filling" ij f fd):FnOk P w K mg base (CX1 P w) 3 f fd ["floor","text"] (bF K):=by
 refine F.ok1 sc_read_filling (fun vs H Q E h=>lR h) (fun cdv A outer s H vs Q E hr h=>?_)
 have hu:=hr.units
 have nd:=sc_read_filling.nd
 refine ⟨cW K a E,?_,lS R_NoFloor R_NoRule R_NoPuzzle R_NoText R_NoFilling h⟩
 exact (ad (aC (du (cF (aw ee rfl B.isinstance_ aE (aa (pv 1) (aa (gh (v:=.ty "str") rfl B.str_ ei rfl) ac))))) (ai (aK R_NoFilling.xc rfl EM.NoFilling (aa ah ac))) au)
   (ad (ar (i:=2) nd rfl (Or.inl rfl) (cR PySem.F.plainAttrs_str PySem.F.slot_str_split PySem.F.type_str_split gj (pv 1) (aa ah ac)))
   (ad (aC (ax (fP hu) (aw bI rfl B.len_ bM (aa (pv 2) ac)) (aH (aR hu) (pv 0) ae (fun _ _=>rfl)) (az _)) (ai (aK R_NoFilling.xc rfl EM.NoFilling (aa ah ac))) au)
   (ad (ar (i:=3) nd rfl (Or.inl rfl) (bf ac))
   (ad (qb PassesOwn.leaving rfl (g7 (pv 2)) (aI (i:=4) nd rfl (Or.inl rfl))
   (ai (lf (cR PySem.F.plainAttrs_list PySem.F.slot_list_extend PySem.F.type_list_extend sB (pv 3) (aa (bd (bn fun _ _ _ z=>z) zC hr (by decide) rfl (aa (pv 0) (aa (pv 4) ac))) ac)))))
   (ai (av (pv 3))))))))
abbrev ik:Stmt:=top 42
theorem sc_first_within:aA ["words","least","most"] ["words","least","most"] (ao ik):=⟨rfl,rfl,rfl,by decide+kernel,rfl,by decide+kernel,by decide+kernel⟩
set_option maxHeartbeats 4000000 in
theorem ol {P:Program} {w:World} {K:PySem.W.Frag} {mg:Str→Option Value} {base:Heap} (B:Bt2 mg) (xK:aL P w K mg base 2 "number_within" ["word","least","most"] (aT K)) {a:EA} (EM:ErrMx mg a) (R_NoFloor:ak K a "NoFloor" a.NoFloor (bq a)) (R_NoRule:ak K a "NoRule" a.NoRule (br a)) (R_NoPuzzle:ak K a "NoPuzzle" a.NoPuzzle (bt a)) (R_NoText:ak K a "NoText" a.NoText (bu a)) (R_NoFilling:ak K a "NoFilling" a.NoFilling (bv a)) {f:Addr} {fd:FuncData} (F:Fun K "first_within" "first_within" ik f fd):FnOk P w K mg base (CX1 P w) 3 f fd ["words","least","most"] (bp K):=by
 refine F.ok1 sc_first_within (fun vs H Q E h=>lL h) (fun cdv A outer s H vs Q E hr h=>?_)
 have hu:=hr.units
 have nd:=sc_first_within.nd
 refine ⟨cT K a E,?_,lN R_NoFloor R_NoRule R_NoPuzzle h⟩
 exact (ad (aC (ax (bA hu) (pv 0) (bf ac) (az _)) (ai (aK R_NoRule.xc rfl EM.NoRule (aa ah ac))) au)
   (ai (av (bd (bn fun _ _ _ z=>z) xK hr (by decide) rfl (aa (aH (aR hu) (pv 0) ae (fun _ _=>rfl)) (aa (pv 1) (aa (pv 2) ac)))))))
abbrev jz:Stmt:=top 43
theorem sc_told_cells:aA ["floor","words","cells"] ["floor","words"] (ao jz):=⟨rfl,rfl,rfl,by decide+kernel,rfl,by decide+kernel,by decide+kernel⟩
set_option maxHeartbeats 4000000 in
theorem pU {P:Program} {w:World} {K:PySem.W.Frag} {mg:Str→Option Value} {base:Heap} (B:Bt2 mg) (xE:Cal P w K mg base 1 "many_cells" ["floor"] (aN K)) (xK:aL P w K mg base 2 "number_within" ["word","least","most"] (aT K)) {a:EA} (EM:ErrMx mg a) (R_NoFloor:ak K a "NoFloor" a.NoFloor (bq a)) (R_NoRule:ak K a "NoRule" a.NoRule (br a)) (R_NoPuzzle:ak K a "NoPuzzle" a.NoPuzzle (bt a)) (R_NoText:ak K a "NoText" a.NoText (bu a)) (R_NoFilling:ak K a "NoFilling" a.NoFilling (bv a)) {f:Addr} {fd:FuncData} (F:Fun K "told_cells" "told_cells" jz f fd):FnOk P w K mg base (CX1 P w) 3 f fd ["floor","words"] (bS K):=by
 refine F.ok1 sc_told_cells (fun vs H Q E h=>nu h) (fun cdv A outer s H vs Q E hr h=>?_)
 have hu:=hr.units
 have nd:=sc_told_cells.nd
 refine ⟨dO K a E,?_,nw R_NoFloor R_NoRule R_NoPuzzle h⟩
 exact (ad (lj (k:=2) nd rfl (Or.inl rfl) rfl (ix:=[none,none,some 0]) [".0","word","floor"] (bQ rfl (by decide+kernel) rfl rfl rfl) rfl (g7 (pv 1)) (fun cl s H fp=>(aI (i:=1) (show ([".0","word","floor"]:List Str).Nodup by decide+kernel) rfl (Or.inl rfl))) (fun cl s H fp=>bP) (fun cl s H fp=>(bd (rb fun _ _ _ z=>z) xK hr (by decide) rfl (aa (pv 1) (aa ae (aa (ag rP (ba xE hr (by decide) rfl (aa (pv 2) ac)) ae) ac))))))
   (ad (aC (ax (bA hu) (pv 2) (bf ac) (az _)) (ai (aK R_NoRule.xc rfl EM.NoRule (aa ah ac))) au)
   (ad (aC (ax (fP hu) (tW rfl rfl rfl B.len_ B.set_ (pv 2)) (aw bI rfl B.len_ bM (aa (pv 2) ac)) (az _)) (ai (aK R_NoRule.xc rfl EM.NoRule (aa ah ac))) au)
   (ai (av (pv 2))))))
abbrev la:Stmt:=top 45
theorem sc_rule_by:aA ["floor","words","cells","amount","mark","name"] ["floor","words","cells","amount","mark"] (ao la):=⟨rfl,rfl,rfl,by decide+kernel,rfl,by decide+kernel,by decide+kernel⟩
set_option maxHeartbeats 4000000 in
theorem sT {P:Program} {w:World} {K:PySem.W.Frag} {mg:Str→Option Value} {base:Heap} (B:Bt2 mg) {c:RCl RK} (AL:KCal P w K mg base 1 "Count" (c.A .Count) ["self","floor","words","cells","amount","mark"] (ap K c)) (Ak:KCal P w K mg base 1 "Joined" (c.A .Joined) ["self","floor","words","cells","amount","mark"] (ap K c)) (zD:KCal P w K mg base 1 "NoSquare" (c.A .NoSquare) ["self","floor","words","cells","amount","mark"] (ap K c)) (A4:KCal P w K mg base 1 "Ring" (c.A .Ring) ["self","floor","words","cells","amount","mark"] (ap K c)) (Al:KCal P w K mg base 1 "Rising" (c.A .Rising) ["self","floor","words","cells","amount","mark"] (ap K c)) (A5:KCal P w K mg base 1 "Seen" (c.A .Seen) ["self","floor","words","cells","amount","mark"] (ap K c)) (K_Sum:KCal P w K mg base 1 "Sum" (c.A .Sum) ["self","floor","words","cells","amount","mark"] (ap K c)) (Am:KCal P w K mg base 1 "Unlike" (c.A .Unlike) ["self","floor","words","cells","amount","mark"] (ap K c)) {a:EA} (EM:ErrMx mg a) (R_NoFloor:ak K a "NoFloor" a.NoFloor (bq a)) (R_NoRule:ak K a "NoRule" a.NoRule (br a)) (R_NoPuzzle:ak K a "NoPuzzle" a.NoPuzzle (bt a)) (R_NoText:ak K a "NoText" a.NoText (bu a)) (R_NoFilling:ak K a "NoFilling" a.NoFilling (bv a)) {f:Addr} {fd:FuncData} (F:Fun K "rule_by" "rule_by" la f fd):FnOk P w K mg base (CX1 P w) 3 f fd ["floor","words","cells","amount","mark"] (dj K c):=by
 refine F.ok1 sc_rule_by (fun vs H Q E h=>qQ h) (fun cdv A outer s H vs Q E hr h=>?_)
 have hu:=hr.units
 have nd:=sc_rule_by.nd
 refine ⟨gU K c a E,?_,qS R_NoFloor R_NoRule R_NoPuzzle h⟩
 exact (ad (ar (i:=5) nd rfl (Or.inl rfl) (aH (aR hu) (pv 1) ae (fun _ _=>rfl)))
   (ad (aC (ax (bA hu) (pv 5) ah (az _)) (ai (av (jJ Am hr (by decide) rfl (aa (pv 0) (aa (pv 1) (aa (pv 2) (aa (pv 3) (aa (pv 4) ac)))))))) au)
   (ad (aC (ax (bA hu) (pv 5) ah (az _)) (ai (av (jJ K_Sum hr (by decide) rfl (aa (pv 0) (aa (pv 1) (aa (pv 2) (aa (pv 3) (aa (pv 4) ac)))))))) au)
   (ad (aC (ax (bA hu) (pv 5) ah (az _)) (ai (av (jJ Al hr (by decide) rfl (aa (pv 0) (aa (pv 1) (aa (pv 2) (aa (pv 3) (aa (pv 4) ac)))))))) au)
   (ad (aC (ax (bA hu) (pv 5) ah (az _)) (ai (av (jJ A5 hr (by decide) rfl (aa (pv 0) (aa (pv 1) (aa (pv 2) (aa (pv 3) (aa (pv 4) ac)))))))) au)
   (ad (aC (ax (bA hu) (pv 5) ah (az _)) (ai (av (jJ AL hr (by decide) rfl (aa (pv 0) (aa (pv 1) (aa (pv 2) (aa (pv 3) (aa (pv 4) ac)))))))) au)
   (ad (aC (ax (bA hu) (pv 5) ah (az _)) (ai (av (jJ Ak hr (by decide) rfl (aa (pv 0) (aa (pv 1) (aa (pv 2) (aa (pv 3) (aa (pv 4) ac)))))))) au)
   (ad (aC (ax (bA hu) (pv 5) ah (az _)) (ai (av (jJ zD hr (by decide) rfl (aa (pv 0) (aa (pv 1) (aa (pv 2) (aa (pv 3) (aa (pv 4) ac)))))))) au)
   (ad (aC (ax (bA hu) (pv 5) ah (az _)) (ai (av (jJ A4 hr (by decide) rfl (aa (pv 0) (aa (pv 1) (aa (pv 2) (aa (pv 3) (aa (pv 4) ac)))))))) au)
   (ai (aK R_NoRule.xc rfl EM.NoRule (aa ah ac))))))))))))
abbrev gY:Stmt:=top 52
theorem sc_checked_clues:aA ["floor","clues"] ["floor","clues"] (ao gY):=⟨rfl,rfl,rfl,by decide+kernel,rfl,by decide+kernel,by decide+kernel⟩
set_option maxHeartbeats 4000000 in
theorem mQ {P:Program} {w:World} {K:PySem.W.Frag} {mg:Str→Option Value} {base:Heap} (B:Bt2 mg) (zh:Cal P w K mg base 2 "is_filling" ["floor","filling","least"] (cB K)) {a:EA} (EM:ErrMx mg a) (R_NoFloor:ak K a "NoFloor" a.NoFloor (bq a)) (R_NoRule:ak K a "NoRule" a.NoRule (br a)) (R_NoPuzzle:ak K a "NoPuzzle" a.NoPuzzle (bt a)) (R_NoText:ak K a "NoText" a.NoText (bu a)) (R_NoFilling:ak K a "NoFilling" a.NoFilling (bv a)) {f:Addr} {fd:FuncData} (F:Fun K "checked_clues" "checked_clues" gY f fd):FnOk P w K mg base (CX1 P w) 3 f fd ["floor","clues"] (bE K):=by
 refine F.ok1 sc_checked_clues (fun vs H Q E h=>kO h) (fun cdv A outer s H vs Q E hr h=>?_)
 have hu:=hr.units
 have nd:=sc_checked_clues.nd
 refine ⟨cI K a E,?_,kR R_NoFloor R_NoRule R_NoPuzzle h⟩
 exact (ad (aC (du (cF (ba zh hr (by decide) rfl (aa (pv 0) (aa (pv 1) (aa ae ac)))))) (ai (aK R_NoPuzzle.xc rfl EM.NoPuzzle (aa ah ac))) au)
   (ai (av (aX j7 rfl B.list_ jX (aa (pv 1) ac)))))
abbrev kr:Stmt:=top 44
theorem sc_cells_of:aA ["floor","name","words"] ["floor","name","words"] (ao kr):=⟨rfl,rfl,rfl,by decide+kernel,rfl,by decide+kernel,by decide+kernel⟩
set_option maxHeartbeats 4000000 in
theorem rE {P:Program} {w:World} {K:PySem.W.Frag} {mg:Str→Option Value} {base:Heap} (B:Bt2 mg) (xE:Cal P w K mg base 1 "many_cells" ["floor"] (aN K)) (zi:aL P w K mg base 3 "told_cells" ["floor","words"] (bS K)) (G_OF_ALL_CELLS:GTup K mg "OF_ALL_CELLS" bR) {a:EA} (EM:ErrMx mg a) (R_NoFloor:ak K a "NoFloor" a.NoFloor (bq a)) (R_NoRule:ak K a "NoRule" a.NoRule (br a)) (R_NoPuzzle:ak K a "NoPuzzle" a.NoPuzzle (bt a)) (R_NoText:ak K a "NoText" a.NoText (bu a)) (R_NoFilling:ak K a "NoFilling" a.NoFilling (bv a)) {f:Addr} {fd:FuncData} (F:Fun K "cells_of" "cells_of" kr f fd):FnOk P w K mg base (CX1 P w) 4 f fd ["floor","name","words"] (cC K):=by
 refine F.ok1 sc_cells_of (fun vs H Q E h=>pJ h) (fun cdv A outer s H vs Q E hr h=>?_)
 have hu:=hr.units
 have nd:=sc_cells_of.nd
 refine ⟨fZ K a E,?_,pK R_NoFloor R_NoRule R_NoPuzzle h⟩
 exact (ad (aC (vP G_OF_ALL_CELLS (pv 1) rfl) (ai (av (bd (bn fun _ _ _ z=>z) zi hr (by decide) rfl (aa (pv 0) (aa (pv 2) ac))))) au)
   (ad (aC (ax (fP hu) (pv 2) (bf ac) (az _)) (ai (aK R_NoRule.xc rfl EM.NoRule (aa ah ac))) au)
   (ai (av (rm rfl rfl rfl B.list_ B.range_ (aa (ba xE hr (by decide) rfl (aa (pv 0) ac)) ac))))))
abbrev gZ:Stmt:=top 49
theorem sc_checked_floor:aA ["floor"] ["floor"] (ao gZ):=⟨rfl,rfl,rfl,by decide+kernel,rfl,by decide+kernel,by decide+kernel⟩
set_option maxHeartbeats 4000000 in
theorem mR {P:Program} {w:World} {K:PySem.W.Frag} {mg:Str→Option Value} {base:Heap} (B:Bt2 mg) (xZ:aL P w K mg base 3 "floor_of" ["high","wide","signs"] (bJ K)) {a:EA} (EM:ErrMx mg a) (R_NoFloor:ak K a "NoFloor" a.NoFloor (bq a)) (R_NoRule:ak K a "NoRule" a.NoRule (br a)) (R_NoPuzzle:ak K a "NoPuzzle" a.NoPuzzle (bt a)) (R_NoText:ak K a "NoText" a.NoText (bu a)) (R_NoFilling:ak K a "NoFilling" a.NoFilling (bv a)) {f:Addr} {fd:FuncData} (F:Fun K "checked_floor" "checked_floor" gZ f fd):FnOk P w K mg base (CX1 P w) 4 f fd ["floor"] (bD K):=by
 refine F.ok1 sc_checked_floor (fun vs H Q E h=>kN h) (fun cdv A outer s H vs Q E hr h=>?_)
 have hu:=hr.units
 have nd:=sc_checked_floor.nd
 refine ⟨cH K a E,?_,kQ R_NoFloor R_NoRule R_NoPuzzle h⟩
 exact (ad (aC (PW.pt (iY (du (cF (aw ee rfl B.isinstance_ aE (aa (pv 0) (aa (gh (v:=.ty "tuple") rfl B.tuple_ mn rfl) ac))))) (jT (ax (fP hu) (aw bI rfl B.len_ bM (aa (pv 0) ac)) ae (az _))))) (ai (aK R_NoFloor.xc rfl EM.NoFloor (aa ah ac))) au)
   (ai (av (bd (bn fun _ _ _ z=>z) xZ hr (by decide) rfl (aa (aH (aR hu) (pv 0) ae (fun _ _=>rfl)) (aa (aH (aR hu) (pv 0) ae (fun _ _=>rfl)) (aa (aH (aR hu) (pv 0) ae (fun _ _=>rfl)) ac)))))))
abbrev jA:Stmt:=top 59
theorem sc_read_floor:aA ["text","numbers"] ["text"] (ao jA):=⟨rfl,rfl,rfl,by decide+kernel,rfl,by decide+kernel,by decide+kernel⟩
set_option maxHeartbeats 4000000 in
theorem pV {P:Program} {w:World} {K:PySem.W.Frag} {mg:Str→Option Value} {base:Heap} (B:Bt2 mg) (xZ:aL P w K mg base 3 "floor_of" ["high","wide","signs"] (bJ K)) (yP:aL P w K mg base 2 "read_numbers" ["words"] (bG K)) {a:EA} (EM:ErrMx mg a) (R_NoFloor:ak K a "NoFloor" a.NoFloor (bq a)) (R_NoRule:ak K a "NoRule" a.NoRule (br a)) (R_NoPuzzle:ak K a "NoPuzzle" a.NoPuzzle (bt a)) (R_NoText:ak K a "NoText" a.NoText (bu a)) (R_NoFilling:ak K a "NoFilling" a.NoFilling (bv a)) {f:Addr} {fd:FuncData} (F:Fun K "read_floor" "read_floor" jA f fd):FnOk P w K mg base (CX1 P w) 4 f fd ["text"] (bU K):=by
 refine F.ok1 sc_read_floor (fun vs H Q E h=>nH h) (fun cdv A outer s H vs Q E hr h=>?_)
 have hu:=hr.units
 have nd:=sc_read_floor.nd
 refine ⟨dQ K a E,?_,nI R_NoFloor R_NoRule R_NoPuzzle R_NoText R_NoFilling h⟩
 exact (ad (ar (i:=1) nd rfl (Or.inl rfl) (bd (bn fun _ _ _ z=>z) yP hr (by decide) rfl (aa (cR PySem.F.plainAttrs_str PySem.F.slot_str_split PySem.F.type_str_split gj (pv 0) (aa ah ac)) ac)))
   (ad (aC (ax (fP hu) (aw bI rfl B.len_ bM (aa (pv 1) ac)) ae (az _)) (ai (aK R_NoText.xc rfl EM.NoText (aa ah ac))) au)
   (ai (av (bd (bn fun _ _ _ z=>z) xZ hr (by decide) rfl (aa (aH (aR hu) (pv 1) ae (fun _ _=>rfl)) (aa (aH (aR hu) (pv 1) ae (fun _ _=>rfl)) (aa (aH (aR hu) (pv 1) ae (fun _ _=>rfl)) ac))))))))
abbrev jR:Stmt:=top 46
theorem sc_read_rule:aA ["floor","line","words","name","rest","amount","mark"] ["floor","line"] (ao jR):=⟨rfl,rfl,rfl,by decide+kernel,rfl,by decide+kernel,by decide+kernel⟩
set_option maxHeartbeats 4000000 in
theorem rh {P:Program} {w:World} {K:PySem.W.Frag} {mg:Str→Option Value} {base:Heap} (B:Bt2 mg) {c:RCl RK} (zE:aL P w K mg base 4 "cells_of" ["floor","name","words"] (cC K)) (x0:aL P w K mg base 3 "first_within" ["words","least","most"] (bp K)) (Ac:aL P w K mg base 3 "rule_by" ["floor","words","cells","amount","mark"] (dj K c)) {t_MOST_NUMBER:Tok} (y2:mg "MOST_NUMBER"=some (.int 99 t_MOST_NUMBER)) (G_WITH_NUMBER:GTup K mg "WITH_NUMBER" cg) (G_WITH_SIGN:GTup K mg "WITH_SIGN" di) {a:EA} (EM:ErrMx mg a) (R_NoFloor:ak K a "NoFloor" a.NoFloor (bq a)) (R_NoRule:ak K a "NoRule" a.NoRule (br a)) (R_NoPuzzle:ak K a "NoPuzzle" a.NoPuzzle (bt a)) (R_NoText:ak K a "NoText" a.NoText (bu a)) (R_NoFilling:ak K a "NoFilling" a.NoFilling (bv a)) {f:Addr} {fd:FuncData} (F:Fun K "read_rule" "read_rule" jR f fd):FnOk P w K mg base (CX1 P w) 5 f fd ["floor","line"] (ci K c):=by
 refine F.ok1 sc_read_rule (fun vs H Q E h=>oE h) (fun cdv A outer s H vs Q E hr h=>?_)
 have hu:=hr.units
 have nd:=sc_read_rule.nd
 refine ⟨fD K c a E,?_,oF R_NoFloor R_NoRule R_NoPuzzle h⟩
 exact (ad (aC (du (cF (aw ee rfl B.isinstance_ aE (aa (pv 1) (aa (gh (v:=.ty "str") rfl B.str_ ei rfl) ac))))) (ai (aK R_NoRule.xc rfl EM.NoRule (aa ah ac))) au)
   (ad (ar (i:=2) nd rfl (Or.inl rfl) (cR PySem.F.plainAttrs_str PySem.F.slot_str_split PySem.F.type_str_split gj (pv 1) (aa ah ac)))
   (ad (ar (i:=3) nd rfl (Or.inl rfl) (aH (aR hu) (pv 2) ae (fun _ _=>rfl)))
   (ad (ar (i:=4) nd rfl (Or.inl rfl) (cP iq (pv 2) (dB ae) dA))
   (ad (ar (i:=5) nd rfl (Or.inl rfl) ae)
   (ad (ar (i:=6) nd rfl (Or.inl rfl) ae)
   (ad (aC (t0 G_WITH_NUMBER (pv 3) rfl) (ad (ar (i:=5) nd rfl (Or.inl rfl) (bd (bn fun _ _ _ z=>z) x0 hr (by decide) rfl (aa (pv 4) (aa ae (aa (aU rfl y2 ⟨t_MOST_NUMBER,rfl⟩) ac)))))
   (ai (ar (i:=4) nd rfl (Or.inl rfl) (cP iq (pv 4) (dB ae) dA)))) au)
   (ad (aC (t0 G_WITH_SIGN (pv 3) rfl) (ad (ar (i:=6) nd rfl (Or.inl rfl) (bd (bn fun _ _ _ z=>z) x0 hr (by decide) rfl (aa (pv 4) (aa ae (aa (aH (aR hu) (pv 0) ae (fun _ _=>rfl)) ac)))))
   (ai (ar (i:=4) nd rfl (Or.inl rfl) (cP iq (pv 4) (dB ae) dA)))) au)
   (ai (av (bd (bn fun _ _ _ z=>z) Ac hr (by decide) rfl (aa (pv 0) (aa (pv 2) (aa (bd (bn fun _ _ _ z=>z) zE hr (by decide) rfl (aa (pv 0) (aa (pv 3) (aa (pv 4) ac)))) (aa (pv 5) (aa (pv 6) ac))))))))))))))))
abbrev jB:Stmt:=top 50
theorem sc_read_rules:aA ["floor","lines"] ["floor","lines"] (ao jB):=⟨rfl,rfl,rfl,by decide+kernel,rfl,by decide+kernel,by decide+kernel⟩
set_option maxHeartbeats 4000000 in
theorem pW {P:Program} {w:World} {K:PySem.W.Frag} {mg:Str→Option Value} {base:Heap} (B:Bt2 mg) {c:RCl RK} (zA:aL P w K mg base 5 "read_rule" ["floor","line"] (ci K c)) {t_MOST_RULES:Tok} (zj:mg "MOST_RULES"=some (.int 12 t_MOST_RULES)) {a:EA} (EM:ErrMx mg a) (R_NoFloor:ak K a "NoFloor" a.NoFloor (bq a)) (R_NoRule:ak K a "NoRule" a.NoRule (br a)) (R_NoPuzzle:ak K a "NoPuzzle" a.NoPuzzle (bt a)) (R_NoText:ak K a "NoText" a.NoText (bu a)) (R_NoFilling:ak K a "NoFilling" a.NoFilling (bv a)) {f:Addr} {fd:FuncData} (F:Fun K "read_rules" "read_rules" jB f fd):FnOk P w K mg base (CX1 P w) 6 f fd ["floor","lines"] (bT K c):=by
 refine F.ok1 sc_read_rules (fun vs H Q E h=>nB h) (fun cdv A outer s H vs Q E hr h=>?_)
 have hu:=hr.units
 have nd:=sc_read_rules.nd
 refine ⟨dP K c a E,?_,nD R_NoFloor R_NoRule R_NoPuzzle h⟩
 exact (ad (aC (ax jW (aw bI rfl B.len_ bM (aa (pv 1) ac)) (aU rfl zj ⟨t_MOST_RULES,rfl⟩) (az _)) (ai (aK R_NoPuzzle.xc rfl EM.NoPuzzle (aa ah ac))) au)
   (ai (av (dC (ix:=[none,none,some 0]) [".0","line","floor"] (bQ rfl (by decide+kernel) rfl rfl rfl) rfl (g7 (pv 1)) (fun cl s H fp=>(aI (i:=1) (show ([".0","line","floor"]:List Str).Nodup by decide+kernel) rfl (Or.inl rfl))) (fun cl s H fp=>bP) (fun cl s H fp=>(bd (rb fun _ _ _ z=>z) zA hr (by decide) rfl (aa (pv 2) (aa (pv 1) ac))))))))
abbrev fN:Stmt:=mtop 53 0
theorem sc_Puzzle___init__:aA ["self","floor","lines","clues"] ["self","floor","lines","clues"] (ao fN):=⟨rfl,rfl,rfl,by decide+kernel,rfl,by decide+kernel,by decide+kernel⟩
set_option maxHeartbeats 4000000 in
theorem lb {P:Program} {w:World} {K:PySem.W.Frag} {mg:Str→Option Value} {base:Heap} (B:Bt2 mg) {c:RCl RK} {d:RCl PzK} (yw:aL P w K mg base 3 "checked_clues" ["floor","clues"] (bE K)) (yx:aL P w K mg base 4 "checked_floor" ["floor"] (bD K)) (zk:aL P w K mg base 6 "read_rules" ["floor","lines"] (bT K c)) (FK_d_floor:FldK K d "floor") (FK_d_given:FldK K d "given") (FK_d_laws:FldK K d "laws") {f:Addr} {fd:FuncData} (F:Fun K "__init__" "Puzzle.__init__" fN f fd):FnOk P w K mg base (CX1 P w) 7 f fd ["self","floor","lines","clues"] (aF K c d):=by
 refine F.ok1 sc_Puzzle___init__ (fun vs H Q E h=>ki h) (fun cdv A outer s H vs Q E hr h=>?_)
 have hu:=hr.units
 have nd:=sc_Puzzle___init__.nd
 refine ⟨bZ K c d E,?_,kj h⟩
 exact (ad (gq (pv 0) (bd (bn fun _ _ _ z=>z) yx hr (by decide) rfl (aa (pv 1) ac)) FK_d_floor)
   (ad (gq (pv 0) (bd (bn fun _ _ _ z=>z) zk hr (by decide) rfl (aa (i7 (pv 0) FK_d_floor) (aa (pv 2) ac))) FK_d_laws)
   (ai (gq (pv 0) (bd (bn fun _ _ _ z=>z) yw hr (by decide) rfl (aa (i7 (pv 0) FK_d_floor) (aa (pv 3) ac))) FK_d_given))))
abbrev il:Stmt:=mtop 53 7
theorem sc_Puzzle_clued:aA ["self","clues"] ["self","clues"] (ao il):=⟨rfl,rfl,rfl,by decide+kernel,rfl,by decide+kernel,by decide+kernel⟩
set_option maxHeartbeats 4000000 in
theorem om {P:Program} {w:World} {K:PySem.W.Frag} {mg:Str→Option Value} {base:Heap} (B:Bt2 mg) {c:RCl RK} {d:RCl PzK} (FK_d_floor:FldK K d "floor") (zc:MCal P w K mg base d d.ok 2 "lines" ["self"] (hV K c d)) (yQ:p9 P w K mg base 7 "Puzzle" (d.A .Puzzle) ["self","floor","lines","clues"] (aF K c d)) {f:Addr} {fd:FuncData} (F:Fun K "clued" "Puzzle.clued" il f fd):FnOk P w K mg base (CX1 P w) 9 f fd ["self","clues"] (cU K c d):=by
 refine F.ok1 sc_Puzzle_clued (fun vs H Q E h=>lP h) (fun cdv A outer s H vs Q E hr h=>?_)
 have hu:=hr.units
 have nd:=sc_Puzzle_clued.nd
 refine ⟨cV K c d E,?_,lQ h⟩
 exact (ai (av (t4 (bn fun _ _ _ z=>z) yQ hr (by decide) rfl (aa (i7 (pv 0) FK_d_floor) (aa (jI zc hr (by decide) (pv 0)) (aa (pv 1) ac))))))
abbrev iP:Stmt:=top 60
theorem sc_read_puzzle:aA ["text","parts","floor","lines","bare"] ["text"] (ao iP):=⟨rfl,rfl,rfl,by decide+kernel,rfl,by decide+kernel,by decide+kernel⟩
set_option maxHeartbeats 4000000 in
theorem oQ {P:Program} {w:World} {K:PySem.W.Frag} {mg:Str→Option Value} {base:Heap} (B:Bt2 mg) {c:RCl RK} {d:RCl PzK} (xE:Cal P w K mg base 1 "many_cells" ["floor"] (aN K)) (yR:aL P w K mg base 3 "read_filling" ["floor","text"] (bF K)) (zm:aL P w K mg base 4 "read_floor" ["text"] (bU K)) (yh:aL P w K mg base 1 "refuse_no_text" ["text"] (bz K)) {t_BETWEEN_PARTS:Tok} (yy:mg "BETWEEN_PARTS"=some (.str (tx [32,124,32]) t_BETWEEN_PARTS)) {t_BETWEEN_ROWS:Tok} (yS:mg "BETWEEN_ROWS"=some (.str (tx [59,32]) t_BETWEEN_ROWS)) (AM:sK P w K mg base d d.ok 9 "clued" ["self","clues"] (i3 K c d)) (yQ:p9 P w K mg base 7 "Puzzle" (d.A .Puzzle) ["self","floor","lines","clues"] (aF K c d)) {a:EA} (EM:ErrMx mg a) (R_NoFloor:ak K a "NoFloor" a.NoFloor (bq a)) (R_NoRule:ak K a "NoRule" a.NoRule (br a)) (R_NoPuzzle:ak K a "NoPuzzle" a.NoPuzzle (bt a)) (R_NoText:ak K a "NoText" a.NoText (bu a)) (R_NoFilling:ak K a "NoFilling" a.NoFilling (bv a)) {f:Addr} {fd:FuncData} (F:Fun K "read_puzzle" "read_puzzle" iP f fd):FnOk P w K mg base (CX1 P w) 10 f fd ["text"] (bg K c d):=by
 refine F.ok1 sc_read_puzzle (fun vs H Q E h=>mJ h) (fun cdv A outer s H vs Q E hr h=>?_)
 have hu:=hr.units
 have nd:=sc_read_puzzle.nd
 refine ⟨dt K c d a E,?_,mK R_NoFloor R_NoRule R_NoPuzzle R_NoText R_NoFilling h⟩
 exact (ad (lf (bd (bn fun _ _ _ z=>z) yh hr (by decide) rfl (aa (pv 0) ac)))
   (ad (ar (i:=1) nd rfl (Or.inl rfl) (cR PySem.F.plainAttrs_str PySem.F.slot_str_split PySem.F.type_str_split gj (pv 0) (aa (aU rfl yy ⟨t_BETWEEN_PARTS,rfl⟩) ac)))
   (ad (aC (ax (fP hu) (aw bI rfl B.len_ bM (aa (pv 1) ac)) ae (az _)) (ai (aK R_NoText.xc rfl EM.NoText (aa ah ac))) au)
   (ad (ar (i:=2) nd rfl (Or.inl rfl) (bd (bn fun _ _ _ z=>z) zm hr (by decide) rfl (aa (aH (aR hu) (pv 1) ae (fun _ _=>rfl)) ac)))
   (ad (ar (i:=3) nd rfl (Or.inl rfl) (uo (ax (fP hu) (aH (aR hu) (pv 1) ae (fun _ _=>rfl)) ah (az _)) (cR PySem.F.plainAttrs_str PySem.F.slot_str_split PySem.F.type_str_split gj (aH (aR hu) (pv 1) ae (fun _ _=>rfl)) (aa (aU rfl yS ⟨t_BETWEEN_ROWS,rfl⟩) ac)) (bf ac)))
   (ad (ar (i:=4) nd rfl (Or.inl rfl) (t4 (bn fun _ _ _ z=>z) yQ hr (by decide) rfl (aa (pv 2) (aa (pv 3) (aa (ag uB (bf (aa ae ac)) (ba xE hr (by decide) rfl (aa (pv 2) ac))) ac)))))
   (ai (av (uQ (bn fun _ _ _ z=>z) AM hr (by decide) (pv 4) (aa (bd (bn fun _ _ _ z=>z) yR hr (by decide) rfl (aa (pv 2) (aa (aH (aR hu) (pv 1) ae (fun _ _=>rfl)) ac))) ac))))))))))
abbrev im:Stmt:=top 67
theorem sc__law_refused:aA ["_law_text","_law_due","_law_caught","e","_law_found"] ["_law_text","_law_due"] (ao im):=⟨rfl,rfl,rfl,by decide+kernel,rfl,by decide+kernel,by decide+kernel⟩
set_option maxHeartbeats 4000000 in
theorem on {P:Program} {w:World} {K:PySem.W.Frag} {mg:Str→Option Value} {base:Heap} (B:Bt2 mg) {c:RCl RK} {d:RCl PzK} (xM:aL P w K mg base 10 "read_puzzle" ["text"] (bg K c d)) {a:EA} (EM:ErrMx mg a) (R_NoFloor:ak K a "NoFloor" a.NoFloor (bq a)) (R_NoRule:ak K a "NoRule" a.NoRule (br a)) (R_NoPuzzle:ak K a "NoPuzzle" a.NoPuzzle (bt a)) (R_NoText:ak K a "NoText" a.NoText (bu a)) (R_NoFilling:ak K a "NoFilling" a.NoFilling (bv a)) (BV:mg "ValueError"=none) {f:Addr} {fd:FuncData} (F:Fun K "_law_refused" "_law_refused" im f fd):FnOk P w K mg base CX0 11 f fd ["_law_text","_law_due"] (aZ K c d):=by
 refine F.ok sc__law_refused (fun vs H Q E h=>lV h) (fun cdv A outer s H vs Q E hr h=>?_)
 have hu:=hr.units
 have nd:=sc__law_refused.nd
 refine ⟨cY K c d a,?_,lW R_NoFloor R_NoRule R_NoPuzzle R_NoText R_NoFilling h⟩
 exact (ad (ar (i:=2) nd rfl (Or.inl rfl) jS)
   (ad (vG (i:=3) (fun _ _ z=>z) xM hr (by decide) rfl (aa (pv 0) ac) nd rfl rfl rfl EM.ClueError rfl rfl (fun _=>(ai (ar (i:=2) nd rfl (Or.inl rfl) (pv 3)))))
   (ad (aC (PW.pt (iY (ax tw (pv 2) jS (az _)) (iY (cF (aw dn rfl B.isinstance_ aE (aa (pv 2) (aa (aU rfl EM.NoRow rfl) ac)))) (jT (cF (aw dn rfl B.isinstance_ aE (aa (pv 2) (aa (aU rfl EM.NoMove rfl) ac)))))))) (ai (av pX)) au)
   (ad (ar (i:=4) nd rfl (Or.inl rfl) (bf (aa (aw dn rfl B.isinstance_ aE (aa (pv 2) (aa (aU rfl EM.NoText rfl) ac))) (aa (aw dn rfl B.isinstance_ aE (aa (pv 2) (aa (aU rfl EM.NoFloor rfl) ac))) (aa (aw dn rfl B.isinstance_ aE (aa (pv 2) (aa (aU rfl EM.NoPuzzle rfl) ac))) ac)))))
   (ad (ar (i:=4) nd rfl (Or.inl rfl) (ag aj (pv 4) (bf (aa (aw dn rfl B.isinstance_ aE (aa (pv 2) (aa (aU rfl EM.NoRule rfl) ac))) (aa (aw dn rfl B.isinstance_ aE (aa (pv 2) (aa (aU rfl EM.NoFilling rfl) ac))) ac)))))
   (ai (av (iy (db (bA hu) (pv 4) (dC (ix:=[none,none,some 1]) [".0","_law_k","_law_due"] (bQ rfl (by decide+kernel) rfl rfl rfl) rfl (gi rfl B.range_ (aa ae ac)) (fun cl s H fp=>(aI (i:=1) (show ([".0","_law_k","_law_due"]:List Str).Nodup by decide+kernel) rfl (Or.inl rfl))) (fun cl s H fp=>bP) (fun cl s H fp=>(db (bA hu) (pv 2) (pv 1) (az _)))) (az _)) (kx (aw dn rfl B.isinstance_ aE (aa (pv 2) (aa (gh (v:=.ty "ValueError") rfl BV pE rfl) ac))))))))))))
abbrev lI:Stmt:=top 69
theorem sc_law:aA ["_law_script","_law_floor_here","_law_many","_law_k","_law_lines_here","_law_rows","_law_numbers","_law_clues_here","_law_cell","_law_head_here","_law_middle","_law_end","_law_due","_law_whole","_law_odd","_law_found"] ["_law_script"] (ao lI):=⟨rfl,rfl,rfl,by decide+kernel,rfl,by decide+kernel,by decide+kernel⟩
set_option maxHeartbeats 4000000 in
theorem wZ {P:Program} {w:World} {K:PySem.W.Frag} {mg:Str→Option Value} {base:Heap} (B:Bt2 mg) {c:RCl RK} {d:RCl PzK} (zB:Cal P w K mg base 2 "_law_bent" ["_law_cell","_law_floor_here","_law_lines_here","_law_clues_here"] (ck K)) (xJ:Cal P w K mg base 1 "_law_cell_at" ["_law_script","_law_k"] (aQ K)) (zn:Cal P w K mg base 1 "_law_floor" ["_law_cell"] (bV K)) (x3:Cal P w K mg base 11 "_law_refused" ["_law_text","_law_due"] (aZ K c d)) (xM:aL P w K mg base 10 "read_puzzle" ["text"] (bg K c d)) (AN:MCal P w K mg base d d.ok 1 "clues" ["self"] (ke K c d)) (zc:MCal P w K mg base d d.ok 2 "lines" ["self"] (hV K c d)) (IS_Puzzle:GIs K mg "Puzzle" (d.A .Puzzle)) {f:Addr} {fd:FuncData} (F:Fun K "law" "law" lI f fd):FnOk P w K mg base CX0 12 f fd ["_law_script"] (ra K c d):=by
 refine F.ok sc_law (fun vs H Q E h=>wX h) (fun cdv A outer s H vs Q E hr h=>?_)
 have hu:=hr.units
 have nd:=sc_law.nd
 refine ⟨n9 K c d,?_,wY h⟩
 refine ad ?_ ?_
 · exact (ar (i:=1) nd rfl (Or.inr rfl) (ba zn hr (by decide) rfl (aa (ba xJ hr (by decide) rfl (aa (pv 0) (aa ae ac))) ac)))
 · refine ad ?_ ?_
   · exact (ar (i:=2) nd rfl (Or.inl rfl) (ag cy (aH (aR hu) (pv 1) ae (fun _ _=>rfl)) (aH (aR hu) (pv 1) ae (fun _ _=>rfl))))
   · refine ad ?_ ?_
     · exact (lj (k:=4) nd rfl (Or.inl rfl) rfl (ix:=[none,none,some 0]) [".0","_law_k","_law_script"] (bQ rfl (by decide+kernel) rfl rfl rfl) rfl (gi rfl B.range_ (aa (ag aW (ba xJ hr (by decide) rfl (aa (pv 0) (aa ae ac))) ae) ac)) (fun cl s H fp=>(aI (i:=1) (show ([".0","_law_k","_law_script"]:List Str).Nodup by decide+kernel) rfl (Or.inl rfl))) (fun cl s H fp=>bP) (fun cl s H fp=>(ag aj (ag aj ah (aX dk rfl B.str_ ei (aa (ag aW (ba xJ hr (by decide) rfl (aa (pv 2) (aa (ag aj ae (pv 1)) ac))) ae) ac))) ah)))
     · refine ad ?_ ?_
       · exact (ar (i:=5) nd rfl (Or.inl rfl) (bf ac))
       · refine ad ?_ ?_
         · exact (qb PassesOwn.never rfl (gi rfl B.range_ (aa (aH (aR hu) (pv 1) ae (fun _ _=>rfl)) ac)) (aI (i:=3) nd rfl (Or.inr rfl)) (ad (lj (k:=6) nd rfl (Or.inl rfl) rfl (ix:=[none,none,some 1,some 3,some 0]) [".0","_law_j","_law_floor_here","_law_k","_law_script"] (bQ rfl (by decide+kernel) rfl rfl rfl) rfl (gi rfl B.range_ (aa (aH (aR hu) (pv 1) ae (fun _ _=>rfl)) ac)) (fun cl s H fp=>(aI (i:=1) (show ([".0","_law_j","_law_floor_here","_law_k","_law_script"]:List Str).Nodup by decide+kernel) rfl (Or.inl rfl))) (fun cl s H fp=>bP) (fun cl s H fp=>(ag aW (ba xJ hr (by decide) rfl (aa (pv 4) (aa (ag aj (ag aj ae (pv 3)) (ag cy ae (pv 1))) ac))) (ag aj (aH (aR hu) (pv 2) ae (fun _ _=>rfl)) ae)))) (ai (lf (cR PySem.F.plainAttrs_list PySem.F.slot_list_append PySem.F.type_list_append mZ (pv 5) (aa (cR PySem.F.plainAttrs_str PySem.F.slot_str_join PySem.F.type_str_join gr ah (aa (dC (ix:=[none,none]) [".0","_law_number"] (bQ rfl (by decide+kernel) rfl rfl rfl) rfl (g7 (pv 6)) (fun cl s H fp=>(aI (i:=1) (show ([".0","_law_number"]:List Str).Nodup by decide+kernel) rfl (Or.inl rfl))) (fun cl s H fp=>bP) (fun cl s H fp=>(aH (aR hu) ah (pv 1) (fun _ _=>rfl)))) ac)) ac))))))
         · refine ad ?_ ?_
           · exact (ar (i:=7) nd rfl (Or.inl rfl) (cR PySem.F.plainAttrs_str PySem.F.slot_str_join PySem.F.type_str_join gr ah (aa (pv 5) ac)))
           · refine ad ?_ ?_
             · exact (qb PassesOwn.never rfl (gi rfl B.range_ (aa (ag aj ae (aw (jC rfl) rfl B.min_ m3 (aa (aw dZ rfl B.len_ bM (aa (pv 0) ac)) (aa ae ac)))) ac)) (aI (i:=3) nd rfl (Or.inr rfl)) (ad (ar (i:=8) nd rfl (Or.inl rfl) (ba xJ hr (by decide) rfl (aa (pv 0) (aa (ag aj ae (pv 3)) ac)))) (ad (mS (ba zB hr (by decide) rfl (aa (pv 8) (aa (pv 1) (aa (pv 4) (aa (pv 7) ac))))) (qa rfl (cm (aI (i:=9) nd rfl (Or.inl rfl)) (cm (aI (i:=10) nd rfl (Or.inl rfl)) (cm (aI (i:=11) nd rfl (Or.inl rfl)) (cm (aI (i:=12) nd rfl (Or.inl rfl)) li)))))) (ad (ar (i:=13) nd rfl (Or.inl rfl) (ag aj (ag aj (ag aj (ag aj (pv 9) ah) (pv 10)) ah) (pv 11))) (ad (aC (PW.pt (sX (ax mX (pv 12) ae (az _)) (rF (du (cF (ba x3 hr (by decide) rfl (aa (pv 13) (aa (pv 12) ac)))))))) (ai (av pX)) au) (ad (ar (i:=14) nd rfl (Or.inl rfl) (bf (aa (ag aj (ag aj (pv 9) ah) (pv 10)) (aa (ag aj (pv 13) ah) (aa (ag aj (ag aj (ag aj (ag aj (pv 9) ah) (pv 10)) ah) (pv 11)) ac))))) (ai (aC (du (cF (ba x3 hr (by decide) rfl (aa (aH (aR hu) (pv 14) (ag aW (pv 8) ae) (fun _ _=>rfl)) (aa ae ac))))) (ai (av pX)) au))))))))
             · refine ad ?_ ?_
               · exact (ar (i:=9) nd rfl (Or.inl rfl) (cR PySem.F.plainAttrs_str PySem.F.slot_str_join PySem.F.type_str_join gr ah (aa (dC (ix:=[none,none]) [".0","_law_number"] (bQ rfl (by decide+kernel) rfl rfl rfl) rfl (sZ (pv 1)) (fun cl s H fp=>(aI (i:=1) (show ([".0","_law_number"]:List Str).Nodup by decide+kernel) rfl (Or.inl rfl))) (fun cl s H fp=>bP) (fun cl s H fp=>(aX dk rfl B.str_ ei (aa (pv 1) ac)))) ac)))
               · refine ad ?_ ?_
                 · exact (ar (i:=15) nd rfl (Or.inl rfl) (bd xj xM hr (by decide) rfl (aa (ag aj (ag aj (ag aj (ag aj (pv 9) ah) (cR PySem.F.plainAttrs_str PySem.F.slot_str_join PySem.F.type_str_join gr ah (aa (pv 4) ac))) ah) (pv 7)) ac)))
                 · refine ai ?_
                   · refine av ?_
                     · exact (iy (aw (ue IS_Puzzle.is_) rfl B.isinstance_ aE (aa (pv 15) (aa (aU rfl IS_Puzzle.at_ rfl) ac))) (iy (db (bA hu) (aw bI rfl B.len_ bM (aa (jI AN hr (by decide) (pv 15)) ac)) (pv 2) (az _)) (kx (db (bA hu) (jI zc hr (by decide) (pv 15)) (pv 4) (az _)))))
def mkC (xB xI xC xG xF xD xA xH:Addr):RCl RK:=⟨fun k=>match k with | .Rule=>xB | .Unlike=>xB | .Sum=>xI | .Rising=>xC | .Seen=>xG | .Count=>xF | .Joined=>xD | .NoSquare=>xA | .Ring=>xH,fun k=>match k with | .Rule=>false | _=>true⟩
def mkD (xz:Addr):RCl PzK:=⟨fun _=>xz,fun _=>true⟩
set_option maxHeartbeats 40000000 in
theorem w5 {l:PySem.W.OpenLaw} {w:World} {K:PySem.W.Frag} {h:Heap} {mg:Str→Option Value} {fa:Addr} (X:K.In h) (G:h.Ns mainGlobals mg) (hfa:mg "law"=some (.ref fa))
  {f0 f1 f2 f3 f4 f5 f6 f7 f8 f9 f10 f11 f12 f13 f14 f15 f16 f17 f18 f19 f20 f21 f22 f23 f24 f25 f26 f27 f28 f29 f30 f31 f32 f33 f34 f35:Addr} {fd0 fd1 fd2 fd3 fd4 fd5 fd6 fd7 fd8 fd9 fd10 fd11 fd12 fd13 fd14 fd15 fd16 fd17 fd18 fd19 fd20 fd21 fd22 fd23 fd24 fd25 fd26 fd27 fd28 fd29 fd30 fd31 fd32 fd33 fd34 fd35:FuncData} {xB xI xC xG xF xD xA xH xz:Addr} {yz:Addr} {AF:Option Addr} {AG:Nat} {AH:Array (Option Value)} {AI AJ AK:Tok} {yT:Addr} {AO:Option Addr} {AQ:Nat} {AR:Array (Option Value)} {AS AT AU:Tok} {zo:Addr} {A6:Option Addr} {A7:Nat} {A8:Array (Option Value)} {A9 Ba Bb Bc:Tok} {tk_BETWEEN_PARTS:Tok} {tk_BETWEEN_ROWS:Tok} {tk_FIGURES_fillings:Tok} {tk_FIGURES_rows:Tok} {tk_MOST_CELLS:Tok} {tk_MOST_FIGURES:Tok} {tk_MOST_NUMBER:Tok} {tk_MOST_RULES:Tok} {tk_MOST_SIDE:Tok} {tk_MOST_SIGNS:Tok} {x_ClueError x_NoFloor x_NoFilling x_NoRule x_NoPuzzle x_NoMove x_NoText x_NoRow:Addr} {cE cC0:Value} {dE dD:Option Addr} {esE:Array DictEntry} {nE:Nat} {sE slD:Array (Option Value)} {ND:Addr} {cdD:ClassData} {nm_NoFloor Bh:Str} {N_NoFloor:Addr} {bs_NoFloor:List Value} {hd_NoFloor:Bool} {sn_NoFloor:List Str} {sub_NoFloor:List Value} {ab_NoFloor:Bool} {col_NoFloor:Option Bool} {dd_NoFloor:Option Addr} {k0_NoFloor k1_NoFloor k2_NoFloor k3_NoFloor k5_NoFloor:Option Value} {cN_NoFloor:Value} {dN_NoFloor:Option Addr} {es_NoFloor:Array DictEntry} {n_NoFloor:Nat} {sN_NoFloor:Array (Option Value)} {nm_NoRule Bi:Str} {N_NoRule:Addr} {bs_NoRule:List Value} {hd_NoRule:Bool} {sn_NoRule:List Str} {sub_NoRule:List Value} {ab_NoRule:Bool} {col_NoRule:Option Bool} {dd_NoRule:Option Addr} {k0_NoRule k1_NoRule k2_NoRule k3_NoRule k5_NoRule:Option Value} {cN_NoRule:Value} {dN_NoRule:Option Addr} {es_NoRule:Array DictEntry} {n_NoRule:Nat} {sN_NoRule:Array (Option Value)} {nm_NoPuzzle Bg:Str} {N_NoPuzzle:Addr} {bs_NoPuzzle:List Value} {hd_NoPuzzle:Bool} {sn_NoPuzzle:List Str} {sub_NoPuzzle:List Value} {ab_NoPuzzle:Bool} {col_NoPuzzle:Option Bool} {dd_NoPuzzle:Option Addr} {k0_NoPuzzle k1_NoPuzzle k2_NoPuzzle k3_NoPuzzle k5_NoPuzzle:Option Value} {cN_NoPuzzle:Value} {dN_NoPuzzle:Option Addr} {es_NoPuzzle:Array DictEntry} {n_NoPuzzle:Nat} {sN_NoPuzzle:Array (Option Value)} {nm_NoText Bj:Str} {N_NoText:Addr} {bs_NoText:List Value} {hd_NoText:Bool} {sn_NoText:List Str} {sub_NoText:List Value} {ab_NoText:Bool} {col_NoText:Option Bool} {dd_NoText:Option Addr} {k0_NoText k1_NoText k2_NoText k3_NoText k5_NoText:Option Value} {cN_NoText:Value} {dN_NoText:Option Addr} {es_NoText:Array DictEntry} {n_NoText:Nat} {sN_NoText:Array (Option Value)} {nm_NoFilling Bf:Str} {N_NoFilling:Addr} {bs_NoFilling:List Value} {hd_NoFilling:Bool} {sn_NoFilling:List Str} {sub_NoFilling:List Value} {ab_NoFilling:Bool} {col_NoFilling:Option Bool} {dd_NoFilling:Option Addr} {k0_NoFilling k1_NoFilling k2_NoFilling k3_NoFilling k5_NoFilling:Option Value} {cN_NoFilling:Value} {dN_NoFilling:Option Addr} {es_NoFilling:Array DictEntry} {n_NoFilling:Nat} {sN_NoFilling:Array (Option Value)}
  (An:PySem.W.nsIn K mainGlobals "Unlike"=some (some (.ref xB))) (q_Sum:PySem.W.nsIn K mainGlobals "Sum"=some (some (.ref xI))) (Ao:PySem.W.nsIn K mainGlobals "Rising"=some (some (.ref xC))) (Bd:PySem.W.nsIn K mainGlobals "Seen"=some (some (.ref xG))) (AV:PySem.W.nsIn K mainGlobals "Count"=some (some (.ref xF))) (Ap:PySem.W.nsIn K mainGlobals "Joined"=some (some (.ref xD))) (zF:PySem.W.nsIn K mainGlobals "NoSquare"=some (some (.ref xA))) (Be:PySem.W.nsIn K mainGlobals "Ring"=some (some (.ref xH))) (zG:PySem.W.nsIn K mainGlobals "Puzzle"=some (some (.ref xz))) (a0:PySem.W.nsIn K mainGlobals "is_whole"=some (some (.ref f0))) (a1:PySem.W.nsIn K mainGlobals "many_cells"=some (some (.ref f1))) (a2:PySem.W.nsIn K mainGlobals "read_figure"=some (some (.ref f2))) (zH:PySem.W.findIn K (.ref xB) "__init__"=some (some (.ref f3))) (AW:PySem.W.findIn K (.ref xI) "__init__"=some (some (.ref f3))) (zI:PySem.W.findIn K (.ref xC) "__init__"=some (some (.ref f3))) (Aq:PySem.W.findIn K (.ref xG) "__init__"=some (some (.ref f3))) (Ad:PySem.W.findIn K (.ref xF) "__init__"=some (some (.ref f3))) (zJ:PySem.W.findIn K (.ref xD) "__init__"=some (some (.ref f3))) (zp:PySem.W.findIn K (.ref xA) "__init__"=some (some (.ref f3))) (Ar:PySem.W.findIn K (.ref xH) "__init__"=some (some (.ref f3))) (a4_Unlike:PySem.W.findIn K (.ref xB) "line"=some (some (.ref f4))) (a4_Sum:PySem.W.findIn K (.ref xI) "line"=some (some (.ref f4))) (a4_Rising:PySem.W.findIn K (.ref xC) "line"=some (some (.ref f4))) (a4_Seen:PySem.W.findIn K (.ref xG) "line"=some (some (.ref f4))) (a4_Count:PySem.W.findIn K (.ref xF) "line"=some (some (.ref f4))) (a4_Joined:PySem.W.findIn K (.ref xD) "line"=some (some (.ref f4))) (a4_NoSquare:PySem.W.findIn K (.ref xA) "line"=some (some (.ref f4))) (a4_Ring:PySem.W.findIn K (.ref xH) "line"=some (some (.ref f4))) (a5:PySem.W.nsIn K mainGlobals "number_in"=some (some (.ref f5))) (a6_Puzzle:PySem.W.findIn K (.ref xz) "clues"=some (some (.ref f6))) (a7:PySem.W.nsIn K mainGlobals "refuse_no_text"=some (some (.ref f7))) (a8:PySem.W.nsIn K mainGlobals "_law_cell_at"=some (some (.ref f8))) (a9:PySem.W.nsIn K mainGlobals "_law_floor"=some (some (.ref f9))) (a10:PySem.W.nsIn K mainGlobals "_law_head"=some (some (.ref f10))) (a11:PySem.W.nsIn K mainGlobals "_law_lines"=some (some (.ref f11))) (a12:PySem.W.nsIn K mainGlobals "_law_clues"=some (some (.ref f12))) (a13:PySem.W.nsIn K mainGlobals "is_from_one_to"=some (some (.ref f13))) (a14:PySem.W.nsIn K mainGlobals "read_row"=some (some (.ref f14))) (a15:PySem.W.nsIn K mainGlobals "number_within"=some (some (.ref f15))) (a16:PySem.W.nsIn K mainGlobals "is_filling"=some (some (.ref f16))) (a17_Puzzle:PySem.W.findIn K (.ref xz) "lines"=some (some (.ref f17))) (a18:PySem.W.nsIn K mainGlobals "read_numbers"=some (some (.ref f18))) (a19:PySem.W.nsIn K mainGlobals "_law_bent"=some (some (.ref f19))) (a20:PySem.W.nsIn K mainGlobals "floor_of"=some (some (.ref f20))) (a21:PySem.W.nsIn K mainGlobals "read_filling"=some (some (.ref f21))) (a22:PySem.W.nsIn K mainGlobals "first_within"=some (some (.ref f22))) (a23:PySem.W.nsIn K mainGlobals "told_cells"=some (some (.ref f23))) (a24:PySem.W.nsIn K mainGlobals "rule_by"=some (some (.ref f24))) (a25:PySem.W.nsIn K mainGlobals "checked_clues"=some (some (.ref f25))) (a26:PySem.W.nsIn K mainGlobals "cells_of"=some (some (.ref f26))) (a27:PySem.W.nsIn K mainGlobals "checked_floor"=some (some (.ref f27))) (a28:PySem.W.nsIn K mainGlobals "read_floor"=some (some (.ref f28))) (a29:PySem.W.nsIn K mainGlobals "read_rule"=some (some (.ref f29))) (a30:PySem.W.nsIn K mainGlobals "read_rules"=some (some (.ref f30))) (zK:PySem.W.findIn K (.ref xz) "__init__"=some (some (.ref f31))) (a32_Puzzle:PySem.W.findIn K (.ref xz) "clued"=some (some (.ref f32))) (a33:PySem.W.nsIn K mainGlobals "read_puzzle"=some (some (.ref f33))) (a34:PySem.W.nsIn K mainGlobals "_law_refused"=some (some (.ref f34))) (a35:PySem.W.nsIn K mainGlobals "law"=some (some (.ref f35))) (F0:Fun K "is_whole" "is_whole" kn f0 fd0) (F1:Fun K "many_cells" "many_cells" ju f1 fd1) (F2:Fun K "read_figure" "read_figure" iO f2 fd2) (F3:Fun K "__init__" "Rule.__init__" gW f3 fd3) (fn3:PySem.W.isFn K (.ref f3)=true) (F4:Fun K "line" "Rule.line" jN f4 fd4) (fn4:PySem.W.isFn K (.ref f4)=true) (F5:Fun K "number_in" "number_in" jO f5 fd5) (F6:Fun K "clues" "Puzzle.clues" ic f6 fd6) (fn6:PySem.W.isFn K (.ref f6)=true) (F7:Fun K "refuse_no_text" "refuse_no_text" gf f7 fd7) (F8:Fun K "_law_cell_at" "_law_cell_at" ie f8 fd8) (F9:Fun K "_law_floor" "_law_floor" jv f9 fd9) (F10:Fun K "_law_head" "_law_head" jP f10 fd10) (F11:Fun K "_law_lines" "_law_lines" jw f11 fd11) (F12:Fun K "_law_clues" "_law_clues" jx f12 fd12) (F13:Fun K "is_from_one_to" "is_from_one_to" gg f13 fd13) (F14:Fun K "read_row" "read_row" ko f14 fd14) (F15:Fun K "number_within" "number_within" gX f15 fd15) (F16:Fun K "is_filling" "is_filling" jy f16 fd16) (F17:Fun K "lines" "Puzzle.lines" ig f17 fd17) (fn17:PySem.W.isFn K (.ref f17)=true) (F18:Fun K "read_numbers" "read_numbers" ii f18 fd18) (F19:Fun K "_law_bent" "_law_bent" jQ f19 fd19) (F20:Fun K "floor_of" "floor_of" kq f20 fd20) (F21:Fun K "read_filling" "read_filling" ij f21 fd21) (F22:Fun K "first_within" "first_within" ik f22 fd22) (F23:Fun K "told_cells" "told_cells" jz f23 fd23) (F24:Fun K "rule_by" "rule_by" la f24 fd24) (F25:Fun K "checked_clues" "checked_clues" gY f25 fd25) (F26:Fun K "cells_of" "cells_of" kr f26 fd26) (F27:Fun K "checked_floor" "checked_floor" gZ f27 fd27) (F28:Fun K "read_floor" "read_floor" jA f28 fd28) (F29:Fun K "read_rule" "read_rule" jR f29 fd29) (F30:Fun K "read_rules" "read_rules" jB f30 fd30) (F31:Fun K "__init__" "Puzzle.__init__" fN f31 fd31) (fn31:PySem.W.isFn K (.ref f31)=true) (F32:Fun K "clued" "Puzzle.clued" il f32 fd32) (fn32:PySem.W.isFn K (.ref f32)=true) (F33:Fun K "read_puzzle" "read_puzzle" iP f33 fd33) (F34:Fun K "_law_refused" "_law_refused" im f34 fd34) (F35:Fun K "law" "law" lI f35 fd35) (zL:PySem.W.makesIn K xB=true) (zM:PySem.W.keepIn K (.ref xB)=true) (zN:PySem.W.plainGet K xB Str.empty=true) (zO:PySem.W.hasDictIn K xB=true) (zP:PySem.W.plainOver K xB=true) (zQ:PySem.W.findIn K (.ref xB) "__setattr__"=some (some (.builtin "object.__setattr__"))) (AX:PySem.W.makesIn K xI=true) (AY:PySem.W.keepIn K (.ref xI)=true) (AZ:PySem.W.plainGet K xI Str.empty=true) (A0:PySem.W.hasDictIn K xI=true) (A1:PySem.W.plainOver K xI=true) (A2:PySem.W.findIn K (.ref xI) "__setattr__"=some (some (.builtin "object.__setattr__"))) (zR:PySem.W.makesIn K xC=true) (zS:PySem.W.keepIn K (.ref xC)=true) (zT:PySem.W.plainGet K xC Str.empty=true) (zU:PySem.W.hasDictIn K xC=true) (zV:PySem.W.plainOver K xC=true) (zW:PySem.W.findIn K (.ref xC) "__setattr__"=some (some (.builtin "object.__setattr__"))) (As:PySem.W.makesIn K xG=true) (Au:PySem.W.keepIn K (.ref xG)=true) (Av:PySem.W.plainGet K xG Str.empty=true) (Aw:PySem.W.hasDictIn K xG=true) (Ax:PySem.W.plainOver K xG=true) (Ay:PySem.W.findIn K (.ref xG) "__setattr__"=some (some (.builtin "object.__setattr__"))) (Ae:PySem.W.makesIn K xF=true) (Af:PySem.W.keepIn K (.ref xF)=true) (Ag:PySem.W.plainGet K xF Str.empty=true) (Ah:PySem.W.hasDictIn K xF=true) (Ai:PySem.W.plainOver K xF=true) (Aj:PySem.W.findIn K (.ref xF) "__setattr__"=some (some (.builtin "object.__setattr__"))) (zX:PySem.W.makesIn K xD=true) (zY:PySem.W.keepIn K (.ref xD)=true) (zZ:PySem.W.plainGet K xD Str.empty=true) (z4:PySem.W.hasDictIn K xD=true) (z5:PySem.W.plainOver K xD=true) (z6:PySem.W.findIn K (.ref xD) "__setattr__"=some (some (.builtin "object.__setattr__"))) (zq:PySem.W.makesIn K xA=true) (zr:PySem.W.keepIn K (.ref xA)=true) (zt:PySem.W.plainGet K xA Str.empty=true) (zu:PySem.W.hasDictIn K xA=true) (zv:PySem.W.plainOver K xA=true) (zw:PySem.W.findIn K (.ref xA) "__setattr__"=some (some (.builtin "object.__setattr__"))) (Az:PySem.W.makesIn K xH=true) (AA:PySem.W.keepIn K (.ref xH)=true) (AB:PySem.W.plainGet K xH Str.empty=true) (AC:PySem.W.hasDictIn K xH=true) (AD:PySem.W.plainOver K xH=true) (AE:PySem.W.findIn K (.ref xH) "__setattr__"=some (some (.builtin "object.__setattr__"))) (z7:PySem.W.makesIn K xz=true) (z8:PySem.W.keepIn K (.ref xz)=true) (z9:PySem.W.plainGet K xz Str.empty=true) (zb:PySem.W.hasDictIn K xz=true) (Aa:PySem.W.plainOver K xz=true) (Ab:PySem.W.findIn K (.ref xz) "__setattr__"=some (some (.builtin "object.__setattr__"))) (io1_Puzzle:PySem.W.plainGet K xz "__class__"=true) (io2_Puzzle:PySem.W.findIn K (.ref xz) "__class__"=some (some (.builtin "object.__class__"))) (io3_Puzzle:PySem.W.specialIn K (.builtin "object.__class__") "__get__"=some (some (.builtin "getset_descriptor.__get__"))) (io4_Puzzle:PySem.W.takesIn K (.builtin "object.__class__")=some true) (io5_Puzzle:PySem.W.mroIn K xz (.type "object")=some true) (io6_Puzzle:PySem.W.kitOne K (.ref xz) (.ref xz)=some true) (xU:PySem.W.findIn K (.ref xB) "amount"=some none) (yA:PySem.W.findIn K (.ref xI) "amount"=some none) (xV:PySem.W.findIn K (.ref xC) "amount"=some none) (yi:PySem.W.findIn K (.ref xG) "amount"=some none) (x4:PySem.W.findIn K (.ref xF) "amount"=some none) (xW:PySem.W.findIn K (.ref xD) "amount"=some none) (xN:PySem.W.findIn K (.ref xA) "amount"=some none) (yj:PySem.W.findIn K (.ref xH) "amount"=some none) (x5:PySem.W.findIn K (.ref xB) "cells"=some none) (yU:PySem.W.findIn K (.ref xI) "cells"=some none) (x6:PySem.W.findIn K (.ref xC) "cells"=some none) (yB:PySem.W.findIn K (.ref xG) "cells"=some none) (yk:PySem.W.findIn K (.ref xF) "cells"=some none) (x8:PySem.W.findIn K (.ref xD) "cells"=some none) (xP:PySem.W.findIn K (.ref xA) "cells"=some none) (yC:PySem.W.findIn K (.ref xH) "cells"=some none) (x9:PySem.W.findIn K (.ref xB) "floor"=some none) (yV:PySem.W.findIn K (.ref xI) "floor"=some none) (ya:PySem.W.findIn K (.ref xC) "floor"=some none) (yD:PySem.W.findIn K (.ref xG) "floor"=some none) (yl:PySem.W.findIn K (.ref xF) "floor"=some none) (yb:PySem.W.findIn K (.ref xD) "floor"=some none) (xQ:PySem.W.findIn K (.ref xA) "floor"=some none) (yE:PySem.W.findIn K (.ref xH) "floor"=some none) (ym:PySem.W.findIn K (.ref xB) "mark"=some none) (y3:PySem.W.findIn K (.ref xI) "mark"=some none) (yn:PySem.W.findIn K (.ref xC) "mark"=some none) (yW:PySem.W.findIn K (.ref xG) "mark"=some none) (yF:PySem.W.findIn K (.ref xF) "mark"=some none) (yo:PySem.W.findIn K (.ref xD) "mark"=some none) (xX:PySem.W.findIn K (.ref xA) "mark"=some none) (yX:PySem.W.findIn K (.ref xH) "mark"=some none) (yc:PySem.W.findIn K (.ref xB) "words"=some none) (yY:PySem.W.findIn K (.ref xI) "words"=some none) (yd:PySem.W.findIn K (.ref xC) "words"=some none) (yG:PySem.W.findIn K (.ref xG) "words"=some none) (yp:PySem.W.findIn K (.ref xF) "words"=some none) (ye:PySem.W.findIn K (.ref xD) "words"=some none) (xR:PySem.W.findIn K (.ref xA) "words"=some none) (yH:PySem.W.findIn K (.ref xH) "words"=some none) (yf:PySem.W.findIn K (.ref xz) "floor"=some none) (yg:PySem.W.findIn K (.ref xz) "given"=some none) (yq:PySem.W.findIn K (.ref xz) "laws"=some none) (yr:PySem.W.nsIn K mainGlobals "OF_ALL_CELLS"=some (some (.ref yz))) (yt:K.lookup yz=some ⟨.type "tuple",AF,.seq #[.str (tx [106,111,105,110,101,100]) AI,.str (tx [110,111,115,113,117,97,114,101]) AJ,.str (tx [114,105,110,103]) AK] AG,AH⟩) (yI:PySem.W.nsIn K mainGlobals "WITH_NUMBER"=some (some (.ref yT))) (yJ:K.lookup yT=some ⟨.type "tuple",AO,.seq #[.str (tx [115,117,109]) AS,.str (tx [115,101,101,110]) AT,.str (tx [99,111,117,110,116]) AU] AQ,AR⟩) (y4:PySem.W.nsIn K mainGlobals "WITH_SIGN"=some (some (.ref zo))) (y7:K.lookup zo=some ⟨.type "tuple",A6,.seq #[.str (tx [99,111,117,110,116]) A9,.str (tx [106,111,105,110,101,100]) Ba,.str (tx [110,111,115,113,117,97,114,101]) Bb,.str (tx [114,105,110,103]) Bc] A7,A8⟩) (yu:PySem.W.nsIn K mainGlobals "BETWEEN_PARTS"=some (some (.str (tx [32,124,32]) tk_BETWEEN_PARTS))) (yK:PySem.W.nsIn K mainGlobals "BETWEEN_ROWS"=some (some (.str (tx [59,32]) tk_BETWEEN_ROWS))) (xS:PySem.W.nsIn K mainGlobals "FIGURES_fillings"=some (some (.str (tx [46,49,50,51,52,53,54]) tk_FIGURES_fillings))) (yL:PySem.W.nsIn K mainGlobals "FIGURES_rows"=some (some (.str (tx [48,49,50,51,52,53,54,55,56,57]) tk_FIGURES_rows))) (y8:PySem.W.nsIn K mainGlobals "MOST_CELLS"=some (some (.int 16 tk_MOST_CELLS))) (yM:PySem.W.nsIn K mainGlobals "MOST_FIGURES"=some (some (.int 9 tk_MOST_FIGURES))) (yZ:PySem.W.nsIn K mainGlobals "MOST_NUMBER"=some (some (.int 99 tk_MOST_NUMBER))) (y9:PySem.W.nsIn K mainGlobals "MOST_RULES"=some (some (.int 12 tk_MOST_RULES))) (zx:PySem.W.nsIn K mainGlobals "MOST_SIDE"=some (some (.int 6 tk_MOST_SIDE))) (za:PySem.W.nsIn K mainGlobals "MOST_SIGNS"=some (some (.int 6 tk_MOST_SIGNS))) (z_len:PySem.W.nsIn K mainGlobals "len"=some none) (z_abs:PySem.W.nsIn K mainGlobals "abs"=some none) (z_min:PySem.W.nsIn K mainGlobals "min"=some none) (z_max:PySem.W.nsIn K mainGlobals "max"=some none) (z_sorted:PySem.W.nsIn K mainGlobals "sorted"=some none) (z_any:PySem.W.nsIn K mainGlobals "any"=some none) (z_isinstance:PySem.W.nsIn K mainGlobals "isinstance"=some none) (z_list:PySem.W.nsIn K mainGlobals "list"=some none) (z_int:PySem.W.nsIn K mainGlobals "int"=some none) (z_bool:PySem.W.nsIn K mainGlobals "bool"=some none) (z_str:PySem.W.nsIn K mainGlobals "str"=some none) (z_tuple:PySem.W.nsIn K mainGlobals "tuple"=some none) (z_reversed:PySem.W.nsIn K mainGlobals "reversed"=some none) (z_set:PySem.W.nsIn K mainGlobals "set"=some none) (z_range:PySem.W.nsIn K mainGlobals "range"=some none) (z_zip:PySem.W.nsIn K mainGlobals "zip"=some none) (z_all:PySem.W.nsIn K mainGlobals "all"=some none) (z_sum:PySem.W.nsIn K mainGlobals "sum"=some none) (z_enumerate:PySem.W.nsIn K mainGlobals "enumerate"=some none) (e_ClueError:PySem.W.nsIn K mainGlobals "ClueError"=some (some (.ref x_ClueError))) (e_NoFloor:PySem.W.nsIn K mainGlobals "NoFloor"=some (some (.ref x_NoFloor))) (e_NoFilling:PySem.W.nsIn K mainGlobals "NoFilling"=some (some (.ref x_NoFilling))) (e_NoRule:PySem.W.nsIn K mainGlobals "NoRule"=some (some (.ref x_NoRule))) (e_NoPuzzle:PySem.W.nsIn K mainGlobals "NoPuzzle"=some (some (.ref x_NoPuzzle))) (e_NoMove:PySem.W.nsIn K mainGlobals "NoMove"=some (some (.ref x_NoMove))) (e_NoText:PySem.W.nsIn K mainGlobals "NoText"=some (some (.ref x_NoText))) (e_NoRow:PySem.W.nsIn K mainGlobals "NoRow"=some (some (.ref x_NoRow))) (z_ValueError:PySem.W.nsIn K mainGlobals "ValueError"=some none) (D1:K.lookup x_ClueError=some ⟨cC0,dD,.cls cdD,slD⟩) (D2:cdD.ns=ND) (D3:K.lookup ND=some ⟨cE,dE,.dict esE nE,sE⟩) (D4:fB esE=true) (r1_NoFloor:K.lookup x_NoFloor=some (excClassObj nm_NoFloor Bh x_NoFloor N_NoFloor bs_NoFloor (.ref x_ClueError::VE) hd_NoFloor sn_NoFloor sub_NoFloor ab_NoFloor col_NoFloor dd_NoFloor k0_NoFloor k1_NoFloor k2_NoFloor k3_NoFloor k5_NoFloor "ValueError.__new__")) (r2_NoFloor:K.lookup N_NoFloor=some ⟨cN_NoFloor,dN_NoFloor,.dict es_NoFloor n_NoFloor,sN_NoFloor⟩) (r3_NoFloor:fB es_NoFloor=true) (f1_NoFloor:PySem.W.findIn K (.ref x_NoFloor) "__getattribute__"=some (some (.builtin "BaseException.__getattribute__"))) (f2_NoFloor:PySem.W.findIn K (.ref x_NoFloor) "__getattr__"=some none) (f3_NoFloor:PySem.W.findIn K (.ref x_NoFloor) "__class__"=some (some (.builtin "object.__class__"))) (f4_NoFloor:PySem.W.mroIn K x_NoFloor (.type "object")=some true) (f5_NoFloor:PySem.W.mroIn K x_NoFloor (.type "BaseException")=some true) (f6_NoFloor:PySem.W.kitOne K (.ref x_NoFloor) (.type "ValueError")=some true) (f7_NoFloor:PySem.W.exmOne K (.ref x_NoFloor) (.ref x_ClueError)=some true) (g_NoFloor_NoRow:PySem.W.kitOne K (.ref x_NoFloor) (.ref x_NoRow)=some false) (g_NoFloor_NoMove:PySem.W.kitOne K (.ref x_NoFloor) (.ref x_NoMove)=some false) (g_NoFloor_NoText:PySem.W.kitOne K (.ref x_NoFloor) (.ref x_NoText)=some false) (g_NoFloor_NoPuzzle:PySem.W.kitOne K (.ref x_NoFloor) (.ref x_NoPuzzle)=some false) (g_NoFloor_NoRule:PySem.W.kitOne K (.ref x_NoFloor) (.ref x_NoRule)=some false) (g_NoFloor_NoFilling:PySem.W.kitOne K (.ref x_NoFloor) (.ref x_NoFilling)=some false) (r1_NoRule:K.lookup x_NoRule=some (excClassObj nm_NoRule Bi x_NoRule N_NoRule bs_NoRule (.ref x_ClueError::VE) hd_NoRule sn_NoRule sub_NoRule ab_NoRule col_NoRule dd_NoRule k0_NoRule k1_NoRule k2_NoRule k3_NoRule k5_NoRule "ValueError.__new__")) (r2_NoRule:K.lookup N_NoRule=some ⟨cN_NoRule,dN_NoRule,.dict es_NoRule n_NoRule,sN_NoRule⟩) (r3_NoRule:fB es_NoRule=true) (f1_NoRule:PySem.W.findIn K (.ref x_NoRule) "__getattribute__"=some (some (.builtin "BaseException.__getattribute__"))) (f2_NoRule:PySem.W.findIn K (.ref x_NoRule) "__getattr__"=some none) (f3_NoRule:PySem.W.findIn K (.ref x_NoRule) "__class__"=some (some (.builtin "object.__class__"))) (f4_NoRule:PySem.W.mroIn K x_NoRule (.type "object")=some true) (f5_NoRule:PySem.W.mroIn K x_NoRule (.type "BaseException")=some true) (f6_NoRule:PySem.W.kitOne K (.ref x_NoRule) (.type "ValueError")=some true) (f7_NoRule:PySem.W.exmOne K (.ref x_NoRule) (.ref x_ClueError)=some true) (g_NoRule_NoRow:PySem.W.kitOne K (.ref x_NoRule) (.ref x_NoRow)=some false) (g_NoRule_NoMove:PySem.W.kitOne K (.ref x_NoRule) (.ref x_NoMove)=some false) (g_NoRule_NoText:PySem.W.kitOne K (.ref x_NoRule) (.ref x_NoText)=some false) (g_NoRule_NoFloor:PySem.W.kitOne K (.ref x_NoRule) (.ref x_NoFloor)=some false) (g_NoRule_NoPuzzle:PySem.W.kitOne K (.ref x_NoRule) (.ref x_NoPuzzle)=some false) (g_NoRule_NoFilling:PySem.W.kitOne K (.ref x_NoRule) (.ref x_NoFilling)=some false) (r1_NoPuzzle:K.lookup x_NoPuzzle=some (excClassObj nm_NoPuzzle Bg x_NoPuzzle N_NoPuzzle bs_NoPuzzle (.ref x_ClueError::VE) hd_NoPuzzle sn_NoPuzzle sub_NoPuzzle ab_NoPuzzle col_NoPuzzle dd_NoPuzzle k0_NoPuzzle k1_NoPuzzle k2_NoPuzzle k3_NoPuzzle k5_NoPuzzle "ValueError.__new__")) (r2_NoPuzzle:K.lookup N_NoPuzzle=some ⟨cN_NoPuzzle,dN_NoPuzzle,.dict es_NoPuzzle n_NoPuzzle,sN_NoPuzzle⟩) (r3_NoPuzzle:fB es_NoPuzzle=true) (f1_NoPuzzle:PySem.W.findIn K (.ref x_NoPuzzle) "__getattribute__"=some (some (.builtin "BaseException.__getattribute__"))) (f2_NoPuzzle:PySem.W.findIn K (.ref x_NoPuzzle) "__getattr__"=some none) (f3_NoPuzzle:PySem.W.findIn K (.ref x_NoPuzzle) "__class__"=some (some (.builtin "object.__class__"))) (f4_NoPuzzle:PySem.W.mroIn K x_NoPuzzle (.type "object")=some true) (f5_NoPuzzle:PySem.W.mroIn K x_NoPuzzle (.type "BaseException")=some true) (f6_NoPuzzle:PySem.W.kitOne K (.ref x_NoPuzzle) (.type "ValueError")=some true) (f7_NoPuzzle:PySem.W.exmOne K (.ref x_NoPuzzle) (.ref x_ClueError)=some true) (g_NoPuzzle_NoRow:PySem.W.kitOne K (.ref x_NoPuzzle) (.ref x_NoRow)=some false) (g_NoPuzzle_NoMove:PySem.W.kitOne K (.ref x_NoPuzzle) (.ref x_NoMove)=some false) (g_NoPuzzle_NoText:PySem.W.kitOne K (.ref x_NoPuzzle) (.ref x_NoText)=some false) (g_NoPuzzle_NoFloor:PySem.W.kitOne K (.ref x_NoPuzzle) (.ref x_NoFloor)=some false) (g_NoPuzzle_NoRule:PySem.W.kitOne K (.ref x_NoPuzzle) (.ref x_NoRule)=some false) (g_NoPuzzle_NoFilling:PySem.W.kitOne K (.ref x_NoPuzzle) (.ref x_NoFilling)=some false) (r1_NoText:K.lookup x_NoText=some (excClassObj nm_NoText Bj x_NoText N_NoText bs_NoText (.ref x_ClueError::VE) hd_NoText sn_NoText sub_NoText ab_NoText col_NoText dd_NoText k0_NoText k1_NoText k2_NoText k3_NoText k5_NoText "ValueError.__new__")) (r2_NoText:K.lookup N_NoText=some ⟨cN_NoText,dN_NoText,.dict es_NoText n_NoText,sN_NoText⟩) (r3_NoText:fB es_NoText=true) (f1_NoText:PySem.W.findIn K (.ref x_NoText) "__getattribute__"=some (some (.builtin "BaseException.__getattribute__"))) (f2_NoText:PySem.W.findIn K (.ref x_NoText) "__getattr__"=some none) (f3_NoText:PySem.W.findIn K (.ref x_NoText) "__class__"=some (some (.builtin "object.__class__"))) (f4_NoText:PySem.W.mroIn K x_NoText (.type "object")=some true) (f5_NoText:PySem.W.mroIn K x_NoText (.type "BaseException")=some true) (f6_NoText:PySem.W.kitOne K (.ref x_NoText) (.type "ValueError")=some true) (f7_NoText:PySem.W.exmOne K (.ref x_NoText) (.ref x_ClueError)=some true) (g_NoText_NoRow:PySem.W.kitOne K (.ref x_NoText) (.ref x_NoRow)=some false) (g_NoText_NoMove:PySem.W.kitOne K (.ref x_NoText) (.ref x_NoMove)=some false) (g_NoText_NoFloor:PySem.W.kitOne K (.ref x_NoText) (.ref x_NoFloor)=some false) (g_NoText_NoPuzzle:PySem.W.kitOne K (.ref x_NoText) (.ref x_NoPuzzle)=some false) (g_NoText_NoRule:PySem.W.kitOne K (.ref x_NoText) (.ref x_NoRule)=some false) (g_NoText_NoFilling:PySem.W.kitOne K (.ref x_NoText) (.ref x_NoFilling)=some false) (r1_NoFilling:K.lookup x_NoFilling=some (excClassObj nm_NoFilling Bf x_NoFilling N_NoFilling bs_NoFilling (.ref x_ClueError::VE) hd_NoFilling sn_NoFilling sub_NoFilling ab_NoFilling col_NoFilling dd_NoFilling k0_NoFilling k1_NoFilling k2_NoFilling k3_NoFilling k5_NoFilling "ValueError.__new__")) (r2_NoFilling:K.lookup N_NoFilling=some ⟨cN_NoFilling,dN_NoFilling,.dict es_NoFilling n_NoFilling,sN_NoFilling⟩) (r3_NoFilling:fB es_NoFilling=true) (f1_NoFilling:PySem.W.findIn K (.ref x_NoFilling) "__getattribute__"=some (some (.builtin "BaseException.__getattribute__"))) (f2_NoFilling:PySem.W.findIn K (.ref x_NoFilling) "__getattr__"=some none) (f3_NoFilling:PySem.W.findIn K (.ref x_NoFilling) "__class__"=some (some (.builtin "object.__class__"))) (f4_NoFilling:PySem.W.mroIn K x_NoFilling (.type "object")=some true) (f5_NoFilling:PySem.W.mroIn K x_NoFilling (.type "BaseException")=some true) (f6_NoFilling:PySem.W.kitOne K (.ref x_NoFilling) (.type "ValueError")=some true) (f7_NoFilling:PySem.W.exmOne K (.ref x_NoFilling) (.ref x_ClueError)=some true) (g_NoFilling_NoRow:PySem.W.kitOne K (.ref x_NoFilling) (.ref x_NoRow)=some false) (g_NoFilling_NoMove:PySem.W.kitOne K (.ref x_NoFilling) (.ref x_NoMove)=some false) (g_NoFilling_NoText:PySem.W.kitOne K (.ref x_NoFilling) (.ref x_NoText)=some false) (g_NoFilling_NoFloor:PySem.W.kitOne K (.ref x_NoFilling) (.ref x_NoFloor)=some false) (g_NoFilling_NoPuzzle:PySem.W.kitOne K (.ref x_NoFilling) (.ref x_NoPuzzle)=some false) (g_NoFilling_NoRule:PySem.W.kitOne K (.ref x_NoFilling) (.ref x_NoRule)=some false):
  ∃ fd:FuncData,(∀ (s:Shared) (v:Value),BindsTo s fd ⟨[v],[]⟩ [("_law_script",v)])∧∀ base:Heap,K.In base→base.Ns mainGlobals mg→FnOk l.prog w K mg base CX0 12 fa fd ["_law_script"] (oO K):=by
 have e:=hfa.symm.trans (PySem.W.mg_of X G a35)
 cases e
 have B:Bt2 mg:=⟨⟨PySem.W.mg_none_of X G z_len,PySem.W.mg_none_of X G z_abs,PySem.W.mg_none_of X G z_min,PySem.W.mg_none_of X G z_max,PySem.W.mg_none_of X G z_sorted,PySem.W.mg_none_of X G z_any,PySem.W.mg_none_of X G z_isinstance,PySem.W.mg_none_of X G z_list,PySem.W.mg_none_of X G z_int,PySem.W.mg_none_of X G z_bool,PySem.W.mg_none_of X G z_str,PySem.W.mg_none_of X G z_tuple,PySem.W.mg_none_of X G z_reversed,PySem.W.mg_none_of X G z_set,PySem.W.mg_none_of X G z_range,PySem.W.mg_none_of X G z_zip⟩,PySem.W.mg_none_of X G z_all,PySem.W.mg_none_of X G z_sum,PySem.W.mg_none_of X G z_enumerate⟩
 obtain ⟨oc,od,kV,doc,pm,an,cdv,ct,osl,rfl,lk,hcd⟩:=F35.ex
 refine ⟨PySem.W.fnOf "law" "law" (bh lI) (aV lI) (ao lI) .none kV doc pm an cdv ct,fun s v=>.of_eq rfl,fun base _ _=>?_⟩
 let c:RCl RK:=mkC xB xI xC xG xF xD xA xH
 let d:RCl PzK:=mkD xz
 have yy:=PySem.W.mg_of X G yu
 have yS:=PySem.W.mg_of X G yK
 have xT:=PySem.W.mg_of X G xS
 have yN:=PySem.W.mg_of X G yL
 have zf:=PySem.W.mg_of X G y8
 have yO:=PySem.W.mg_of X G yM
 have y2:=PySem.W.mg_of X G yZ
 have zj:=PySem.W.mg_of X G y9
 have y0:=PySem.W.mg_of X G zx
 have zg:=PySem.W.mg_of X G za
 let a:EA:=(⟨x_ClueError,x_NoFloor,x_NoFilling,x_NoRule,x_NoPuzzle,x_ClueError,x_ClueError,x_NoMove,x_NoText,x_ClueError,x_NoRow,x_ClueError⟩:EA)
 have EM:ErrMx mg a:=⟨PySem.W.mg_of X G e_ClueError,PySem.W.mg_of X G e_NoFloor,PySem.W.mg_of X G e_NoFilling,PySem.W.mg_of X G e_NoRule,PySem.W.mg_of X G e_NoPuzzle,PySem.W.mg_of X G e_NoMove,PySem.W.mg_of X G e_NoText,PySem.W.mg_of X G e_NoRow⟩
 have BV:=PySem.W.mg_none_of X G z_ValueError
 have R_NoFloor:ak K a "NoFloor" a.NoFloor (bq a):=⟨e_NoFloor,m7 r1_NoFloor r2_NoFloor r3_NoFloor D1 D2 D3 D4,⟨f1_NoFloor,f2_NoFloor,f3_NoFloor,f4_NoFloor,f5_NoFloor⟩,f6_NoFloor,f7_NoFloor,(List.forall_mem_cons.mpr ⟨g_NoFloor_NoRow,(List.forall_mem_cons.mpr ⟨g_NoFloor_NoMove,(List.forall_mem_cons.mpr ⟨g_NoFloor_NoText,(List.forall_mem_cons.mpr ⟨g_NoFloor_NoPuzzle,(List.forall_mem_cons.mpr ⟨g_NoFloor_NoRule,(List.forall_mem_cons.mpr ⟨g_NoFloor_NoFilling,(fun _ z=>nomatch z)⟩)⟩)⟩)⟩)⟩)⟩)⟩
 have R_NoRule:ak K a "NoRule" a.NoRule (br a):=⟨e_NoRule,m7 r1_NoRule r2_NoRule r3_NoRule D1 D2 D3 D4,⟨f1_NoRule,f2_NoRule,f3_NoRule,f4_NoRule,f5_NoRule⟩,f6_NoRule,f7_NoRule,(List.forall_mem_cons.mpr ⟨g_NoRule_NoRow,(List.forall_mem_cons.mpr ⟨g_NoRule_NoMove,(List.forall_mem_cons.mpr ⟨g_NoRule_NoText,(List.forall_mem_cons.mpr ⟨g_NoRule_NoFloor,(List.forall_mem_cons.mpr ⟨g_NoRule_NoPuzzle,(List.forall_mem_cons.mpr ⟨g_NoRule_NoFilling,(fun _ z=>nomatch z)⟩)⟩)⟩)⟩)⟩)⟩)⟩
 have R_NoPuzzle:ak K a "NoPuzzle" a.NoPuzzle (bt a):=⟨e_NoPuzzle,m7 r1_NoPuzzle r2_NoPuzzle r3_NoPuzzle D1 D2 D3 D4,⟨f1_NoPuzzle,f2_NoPuzzle,f3_NoPuzzle,f4_NoPuzzle,f5_NoPuzzle⟩,f6_NoPuzzle,f7_NoPuzzle,(List.forall_mem_cons.mpr ⟨g_NoPuzzle_NoRow,(List.forall_mem_cons.mpr ⟨g_NoPuzzle_NoMove,(List.forall_mem_cons.mpr ⟨g_NoPuzzle_NoText,(List.forall_mem_cons.mpr ⟨g_NoPuzzle_NoFloor,(List.forall_mem_cons.mpr ⟨g_NoPuzzle_NoRule,(List.forall_mem_cons.mpr ⟨g_NoPuzzle_NoFilling,(fun _ z=>nomatch z)⟩)⟩)⟩)⟩)⟩)⟩)⟩
 have R_NoText:ak K a "NoText" a.NoText (bu a):=⟨e_NoText,m7 r1_NoText r2_NoText r3_NoText D1 D2 D3 D4,⟨f1_NoText,f2_NoText,f3_NoText,f4_NoText,f5_NoText⟩,f6_NoText,f7_NoText,(List.forall_mem_cons.mpr ⟨g_NoText_NoRow,(List.forall_mem_cons.mpr ⟨g_NoText_NoMove,(List.forall_mem_cons.mpr ⟨g_NoText_NoFloor,(List.forall_mem_cons.mpr ⟨g_NoText_NoPuzzle,(List.forall_mem_cons.mpr ⟨g_NoText_NoRule,(List.forall_mem_cons.mpr ⟨g_NoText_NoFilling,(fun _ z=>nomatch z)⟩)⟩)⟩)⟩)⟩)⟩)⟩
 have R_NoFilling:ak K a "NoFilling" a.NoFilling (bv a):=⟨e_NoFilling,m7 r1_NoFilling r2_NoFilling r3_NoFilling D1 D2 D3 D4,⟨f1_NoFilling,f2_NoFilling,f3_NoFilling,f4_NoFilling,f5_NoFilling⟩,f6_NoFilling,f7_NoFilling,(List.forall_mem_cons.mpr ⟨g_NoFilling_NoRow,(List.forall_mem_cons.mpr ⟨g_NoFilling_NoMove,(List.forall_mem_cons.mpr ⟨g_NoFilling_NoText,(List.forall_mem_cons.mpr ⟨g_NoFilling_NoFloor,(List.forall_mem_cons.mpr ⟨g_NoFilling_NoPuzzle,(List.forall_mem_cons.mpr ⟨g_NoFilling_NoRule,(fun _ z=>nomatch z)⟩)⟩)⟩)⟩)⟩)⟩)⟩
 have cls_Unlike:Cls K xB:=⟨zN,zO,zP,zQ⟩
 have cls_Sum:Cls K xI:=⟨AZ,A0,A1,A2⟩
 have cls_Rising:Cls K xC:=⟨zT,zU,zV,zW⟩
 have cls_Seen:Cls K xG:=⟨Av,Aw,Ax,Ay⟩
 have cls_Count:Cls K xF:=⟨Ag,Ah,Ai,Aj⟩
 have cls_Joined:Cls K xD:=⟨zZ,z4,z5,z6⟩
 have cls_NoSquare:Cls K xA:=⟨zt,zu,zv,zw⟩
 have cls_Ring:Cls K xH:=⟨AB,AC,AD,AE⟩
 have cls_Puzzle:Cls K xz:=⟨z9,zb,Aa,Ab⟩
 have IS_Puzzle:GIs K mg "Puzzle" (d.A .Puzzle):=⟨PySem.W.mg_of X G zG,⟨io1_Puzzle,zb,io2_Puzzle,io3_Puzzle,io4_Puzzle,io5_Puzzle,io6_Puzzle⟩⟩
 have FK_c_amount:FldK K c "amount":=⟨fun i hi=>by cases i with | Rule=>exact (Bool.false_ne_true hi).elim | Unlike=>exact ⟨cls_Unlike,xU⟩ | Sum=>exact ⟨cls_Sum,yA⟩ | Rising=>exact ⟨cls_Rising,xV⟩ | Seen=>exact ⟨cls_Seen,yi⟩ | Count=>exact ⟨cls_Count,x4⟩ | Joined=>exact ⟨cls_Joined,xW⟩ | NoSquare=>exact ⟨cls_NoSquare,xN⟩ | Ring=>exact ⟨cls_Ring,yj⟩⟩
 have FK_c_cells:FldK K c "cells":=⟨fun i hi=>by cases i with | Rule=>exact (Bool.false_ne_true hi).elim | Unlike=>exact ⟨cls_Unlike,x5⟩ | Sum=>exact ⟨cls_Sum,yU⟩ | Rising=>exact ⟨cls_Rising,x6⟩ | Seen=>exact ⟨cls_Seen,yB⟩ | Count=>exact ⟨cls_Count,yk⟩ | Joined=>exact ⟨cls_Joined,x8⟩ | NoSquare=>exact ⟨cls_NoSquare,xP⟩ | Ring=>exact ⟨cls_Ring,yC⟩⟩
 have FK_c_floor:FldK K c "floor":=⟨fun i hi=>by cases i with | Rule=>exact (Bool.false_ne_true hi).elim | Unlike=>exact ⟨cls_Unlike,x9⟩ | Sum=>exact ⟨cls_Sum,yV⟩ | Rising=>exact ⟨cls_Rising,ya⟩ | Seen=>exact ⟨cls_Seen,yD⟩ | Count=>exact ⟨cls_Count,yl⟩ | Joined=>exact ⟨cls_Joined,yb⟩ | NoSquare=>exact ⟨cls_NoSquare,xQ⟩ | Ring=>exact ⟨cls_Ring,yE⟩⟩
 have FK_c_mark:FldK K c "mark":=⟨fun i hi=>by cases i with | Rule=>exact (Bool.false_ne_true hi).elim | Unlike=>exact ⟨cls_Unlike,ym⟩ | Sum=>exact ⟨cls_Sum,y3⟩ | Rising=>exact ⟨cls_Rising,yn⟩ | Seen=>exact ⟨cls_Seen,yW⟩ | Count=>exact ⟨cls_Count,yF⟩ | Joined=>exact ⟨cls_Joined,yo⟩ | NoSquare=>exact ⟨cls_NoSquare,xX⟩ | Ring=>exact ⟨cls_Ring,yX⟩⟩
 have FK_c_words:FldK K c "words":=⟨fun i hi=>by cases i with | Rule=>exact (Bool.false_ne_true hi).elim | Unlike=>exact ⟨cls_Unlike,yc⟩ | Sum=>exact ⟨cls_Sum,yY⟩ | Rising=>exact ⟨cls_Rising,yd⟩ | Seen=>exact ⟨cls_Seen,yG⟩ | Count=>exact ⟨cls_Count,yp⟩ | Joined=>exact ⟨cls_Joined,ye⟩ | NoSquare=>exact ⟨cls_NoSquare,xR⟩ | Ring=>exact ⟨cls_Ring,yH⟩⟩
 have FK_d_floor:FldK K d "floor":=⟨fun i hi=>by cases i; exact ⟨cls_Puzzle,yf⟩⟩
 have FK_d_given:FldK K d "given":=⟨fun i hi=>by cases i; exact ⟨cls_Puzzle,yg⟩⟩
 have FK_d_laws:FldK K d "laws":=⟨fun i hi=>by cases i; exact ⟨cls_Puzzle,yq⟩⟩
 have G_OF_ALL_CELLS:GTup K mg "OF_ALL_CELLS" bR:=⟨yz,_,_,_,PySem.W.mg_of X G yr,yt,rfl,rfl,Nat.le_of_lt (aS (by show (3:Nat)≤1000; decide)),(.cons ⟨_,rfl⟩ (.cons ⟨_,rfl⟩ (.cons ⟨_,rfl⟩ .nil)))⟩
 have G_WITH_NUMBER:GTup K mg "WITH_NUMBER" cg:=⟨yT,_,_,_,PySem.W.mg_of X G yI,yJ,rfl,rfl,Nat.le_of_lt (aS (by show (3:Nat)≤1000; decide)),(.cons ⟨_,rfl⟩ (.cons ⟨_,rfl⟩ (.cons ⟨_,rfl⟩ .nil)))⟩
 have G_WITH_SIGN:GTup K mg "WITH_SIGN" di:=⟨zo,_,_,_,PySem.W.mg_of X G y4,y7,rfl,rfl,Nat.le_of_lt (aS (by show (4:Nat)≤1000; decide)),(.cons ⟨_,rfl⟩ (.cons ⟨_,rfl⟩ (.cons ⟨_,rfl⟩ (.cons ⟨_,rfl⟩ .nil))))⟩
 have xY:Cal l.prog w K mg base _ _ _ (ce K):=sH (rB B F0) F0 (PySem.W.mg_of X G a0)
 have xE:Cal l.prog w K mg base _ _ _ (aN K):=sH (pP B F1) F1 (PySem.W.mg_of X G a1)
 have y1:aL l.prog w K mg base _ _ _ (bK K):=kf (oP B xT EM R_NoFloor R_NoRule R_NoPuzzle R_NoText R_NoFilling F2) F2 (PySem.W.mg_of X G a2)
 have bd3:Binds K fd3 ["self","floor","words","cells","amount","mark"] []:=xm F3
 have T3:FnOk l.prog w K mg base CX0 1 f3 fd3 _ (ap K c):=mO (c:=c) B FK_c_amount FK_c_cells FK_c_floor FK_c_mark FK_c_words F3
 have Am:KCal l.prog w K mg base _ "Unlike" (c.A .Unlike) _ (ap K c):=⟨f3,_,⟨zL,zH,fn3,zM⟩,T3,PySem.W.mg_of X G An,bd3⟩
 have K_Sum:KCal l.prog w K mg base _ "Sum" (c.A .Sum) _ (ap K c):=⟨f3,_,⟨AX,AW,fn3,AY⟩,T3,PySem.W.mg_of X G q_Sum,bd3⟩
 have Al:KCal l.prog w K mg base _ "Rising" (c.A .Rising) _ (ap K c):=⟨f3,_,⟨zR,zI,fn3,zS⟩,T3,PySem.W.mg_of X G Ao,bd3⟩
 have A5:KCal l.prog w K mg base _ "Seen" (c.A .Seen) _ (ap K c):=⟨f3,_,⟨As,Aq,fn3,Au⟩,T3,PySem.W.mg_of X G Bd,bd3⟩
 have AL:KCal l.prog w K mg base _ "Count" (c.A .Count) _ (ap K c):=⟨f3,_,⟨Ae,Ad,fn3,Af⟩,T3,PySem.W.mg_of X G AV,bd3⟩
 have Ak:KCal l.prog w K mg base _ "Joined" (c.A .Joined) _ (ap K c):=⟨f3,_,⟨zX,zJ,fn3,zY⟩,T3,PySem.W.mg_of X G Ap,bd3⟩
 have zD:KCal l.prog w K mg base _ "NoSquare" (c.A .NoSquare) _ (ap K c):=⟨f3,_,⟨zq,zp,fn3,zr⟩,T3,PySem.W.mg_of X G zF,bd3⟩
 have A4:KCal l.prog w K mg base _ "Ring" (c.A .Ring) _ (ap K c):=⟨f3,_,⟨Az,Ar,fn3,AA⟩,T3,PySem.W.mg_of X G Be,bd3⟩
 have bd4:Binds K fd4 ["self"] []:=nk F4
 have T4:FnOk l.prog w K mg base CX0 1 f4 fd4 _ (gS K c):=rd (c:=c) B FK_c_words F4
 have A3:MCal l.prog w K mg base c c.ok 1 "line" ["self"] (jZ K c):=⟨fun i hi=>by cases i with | Rule=>exact (Bool.false_ne_true hi).elim | Unlike=>exact ⟨f4,_,cls_Unlike,⟨a4_Unlike,fn4,F4.kp⟩,(T4.mono (by decide)).imp (fun vs H Q E h=>⟨.Unlike,h⟩),bd4⟩ | Sum=>exact ⟨f4,_,cls_Sum,⟨a4_Sum,fn4,F4.kp⟩,(T4.mono (by decide)).imp (fun vs H Q E h=>⟨.Sum,h⟩),bd4⟩ | Rising=>exact ⟨f4,_,cls_Rising,⟨a4_Rising,fn4,F4.kp⟩,(T4.mono (by decide)).imp (fun vs H Q E h=>⟨.Rising,h⟩),bd4⟩ | Seen=>exact ⟨f4,_,cls_Seen,⟨a4_Seen,fn4,F4.kp⟩,(T4.mono (by decide)).imp (fun vs H Q E h=>⟨.Seen,h⟩),bd4⟩ | Count=>exact ⟨f4,_,cls_Count,⟨a4_Count,fn4,F4.kp⟩,(T4.mono (by decide)).imp (fun vs H Q E h=>⟨.Count,h⟩),bd4⟩ | Joined=>exact ⟨f4,_,cls_Joined,⟨a4_Joined,fn4,F4.kp⟩,(T4.mono (by decide)).imp (fun vs H Q E h=>⟨.Joined,h⟩),bd4⟩ | NoSquare=>exact ⟨f4,_,cls_NoSquare,⟨a4_NoSquare,fn4,F4.kp⟩,(T4.mono (by decide)).imp (fun vs H Q E h=>⟨.NoSquare,h⟩),bd4⟩ | Ring=>exact ⟨f4,_,cls_Ring,⟨a4_Ring,fn4,F4.kp⟩,(T4.mono (by decide)).imp (fun vs H Q E h=>⟨.Ring,h⟩),bd4⟩⟩
 have xO:Cal l.prog w K mg base _ _ _ (bC K):=sH (re B yN yO F5) F5 (PySem.W.mg_of X G a5)
 have bd6:Binds K fd6 ["self"] []:=nk F6
 have T6:FnOk l.prog w K mg base CX0 1 f6 fd6 _ (dI K c d):=oa (c:=c) (d:=d) B FK_d_given F6
 have AN:MCal l.prog w K mg base d d.ok 1 "clues" ["self"] (ke K c d):=⟨fun i hi=>by cases i; exact ⟨f6,_,cls_Puzzle,⟨a6_Puzzle,fn6,F6.kp⟩,(T6.mono (by decide)).imp (fun vs H Q E h=>h),bd6⟩⟩
 have yh:aL l.prog w K mg base _ _ _ (bz K):=nl (lY B EM R_NoFloor R_NoRule R_NoPuzzle R_NoText R_NoFilling F7) F7 (PySem.W.mg_of X G a7)
 have xJ:Cal l.prog w K mg base _ _ _ (aQ K):=sJ (og B F8) F8 (PySem.W.mg_of X G a8)
 have zn:Cal l.prog w K mg base _ _ _ (bV K):=sH (pQ B F9) F9 (PySem.W.mg_of X G a9)
 have zy:Cal l.prog w K mg base _ _ _ (cj K):=sJ (rf B F10) F10 (PySem.W.mg_of X G a10)
 have ze:Cal l.prog w K mg base _ _ _ (bW K):=uP (pR B F11) F11 (PySem.W.mg_of X G a11)
 have zd:Cal l.prog w K mg base _ _ _ (bX K):=uP (pS B F12) F12 (PySem.W.mg_of X G a12)
 have xL:Cal l.prog w K mg base _ _ _ (aY K):=sJ (lZ B xY F13) F13 (PySem.W.mg_of X G a13)
 have zC:aL l.prog w K mg base _ _ _ (cD K):=kf (rC B y1 EM R_NoFloor R_NoRule R_NoPuzzle R_NoText R_NoFilling F14) F14 (PySem.W.mg_of X G a14)
 have xK:aL l.prog w K mg base _ _ _ (aT K):=p8 (mP B xO EM R_NoFloor R_NoRule R_NoPuzzle R_NoText R_NoFilling F15) F15 (PySem.W.mg_of X G a15)
 have zh:Cal l.prog w K mg base _ _ _ (cB K):=uP (pT B xY xE F16) F16 (PySem.W.mg_of X G a16)
 have bd17:Binds K fd17 ["self"] []:=nk F17
 have T17:FnOk l.prog w K mg base CX0 2 f17 fd17 _ (dL K c d):=oh (c:=c) (d:=d) B FK_d_laws A3 F17
 have zc:MCal l.prog w K mg base d d.ok 2 "lines" ["self"] (hV K c d):=⟨fun i hi=>by cases i; exact ⟨f17,_,cls_Puzzle,⟨a17_Puzzle,fn17,F17.kp⟩,(T17.mono (by decide)).imp (fun vs H Q E h=>h),bd17⟩⟩
 have yP:aL l.prog w K mg base _ _ _ (bG K):=nl (oi B xO EM R_NoFloor R_NoRule R_NoPuzzle R_NoText R_NoFilling F18) F18 (PySem.W.mg_of X G a18)
 have zB:Cal l.prog w K mg base _ _ _ (ck K):=xw (rg B zd zy ze F19) F19 (PySem.W.mg_of X G a19)
 have xZ:aL l.prog w K mg base _ _ _ (bJ K):=p8 (rD B xL zf y0 zg EM R_NoFloor R_NoRule R_NoPuzzle R_NoText R_NoFilling F20) F20 (PySem.W.mg_of X G a20)
 have yR:aL l.prog w K mg base _ _ _ (bF K):=kf (oj B zC EM R_NoFloor R_NoRule R_NoPuzzle R_NoText R_NoFilling F21) F21 (PySem.W.mg_of X G a21)
 have x0:aL l.prog w K mg base _ _ _ (bp K):=p8 (ol B xK EM R_NoFloor R_NoRule R_NoPuzzle R_NoText R_NoFilling F22) F22 (PySem.W.mg_of X G a22)
 have zi:aL l.prog w K mg base _ _ _ (bS K):=kf (pU B xE xK EM R_NoFloor R_NoRule R_NoPuzzle R_NoText R_NoFilling F23) F23 (PySem.W.mg_of X G a23)
 have Ac:aL l.prog w K mg base _ _ _ (dj K c):=xn (sT (c:=c) B AL Ak zD A4 Al A5 K_Sum Am EM R_NoFloor R_NoRule R_NoPuzzle R_NoText R_NoFilling F24) F24 (PySem.W.mg_of X G a24)
 have yw:aL l.prog w K mg base _ _ _ (bE K):=kf (mQ B zh EM R_NoFloor R_NoRule R_NoPuzzle R_NoText R_NoFilling F25) F25 (PySem.W.mg_of X G a25)
 have zE:aL l.prog w K mg base _ _ _ (cC K):=p8 (rE B xE zi G_OF_ALL_CELLS EM R_NoFloor R_NoRule R_NoPuzzle R_NoText R_NoFilling F26) F26 (PySem.W.mg_of X G a26)
 have yx:aL l.prog w K mg base _ _ _ (bD K):=nl (mR B xZ EM R_NoFloor R_NoRule R_NoPuzzle R_NoText R_NoFilling F27) F27 (PySem.W.mg_of X G a27)
 have zm:aL l.prog w K mg base _ _ _ (bU K):=nl (pV B xZ yP EM R_NoFloor R_NoRule R_NoPuzzle R_NoText R_NoFilling F28) F28 (PySem.W.mg_of X G a28)
 have zA:aL l.prog w K mg base _ _ _ (ci K c):=kf (rh (c:=c) B zE x0 Ac y2 G_WITH_NUMBER G_WITH_SIGN EM R_NoFloor R_NoRule R_NoPuzzle R_NoText R_NoFilling F29) F29 (PySem.W.mg_of X G a29)
 have zk:aL l.prog w K mg base _ _ _ (bT K c):=kf (pW (c:=c) B zA zj EM R_NoFloor R_NoRule R_NoPuzzle R_NoText R_NoFilling F30) F30 (PySem.W.mg_of X G a30)
 have bd31:Binds K fd31 ["self","floor","lines","clues"] []:=vf F31
 have T31:FnOk l.prog w K mg base (CX1 l.prog w) 7 f31 fd31 _ (aF K c d):=lb (c:=c) (d:=d) B yw yx zk FK_d_floor FK_d_given FK_d_laws F31
 have yQ:p9 l.prog w K mg base _ "Puzzle" (d.A .Puzzle) _ (aF K c d):=⟨f31,_,⟨z7,zK,fn31,z8⟩,T31,PySem.W.mg_of X G zG,bd31⟩
 have bd32:Binds K fd32 ["self","clues"] []:=sI F32
 have T32:FnOk l.prog w K mg base (CX1 l.prog w) 9 f32 fd32 _ (cU K c d):=om (c:=c) (d:=d) B FK_d_floor zc yQ F32
 have AM:sK l.prog w K mg base d d.ok 9 "clued" ["self","clues"] (i3 K c d):=⟨fun i hi=>by cases i; exact ⟨f32,_,cls_Puzzle,⟨a32_Puzzle,fn32,F32.kp⟩,(T32.mono (by decide)).imp (fun vs H Q E h=>h),bd32⟩⟩
 have xM:aL l.prog w K mg base _ _ _ (bg K c d):=nl (oQ (c:=c) (d:=d) B xE yR zm yh yy yS AM yQ EM R_NoFloor R_NoRule R_NoPuzzle R_NoText R_NoFilling F33) F33 (PySem.W.mg_of X G a33)
 have x3:Cal l.prog w K mg base _ _ _ (aZ K c d):=sJ (on (c:=c) (d:=d) B xM EM R_NoFloor R_NoRule R_NoPuzzle R_NoText R_NoFilling BV F34) F34 (PySem.W.mg_of X G a34)
 exact (wZ (c:=c) (d:=d) B zB xJ zn x3 xM AN zc IS_Puzzle F35).imp fun vs H Q E h=>by obtain ⟨a,ns,e,hS,hn,k⟩:=h; exact ⟨a,ns,e,hS,hn,fun k hk=>by cases k <;> first | rfl | exact absurd rfl hk,rfl,k⟩
theorem walk {l:PySem.W.OpenLaw} {q:Program} {loose:List Str} {XP:(Str→Option Value)→Heap→Prop} {YP:World→Heap→Prop} {d:DefRec} {K:Params→PySem.W.Frag} (hn:l.most=some 63) (hdf:d.params.defaults=[])
  (hY:∀ (w:World) (h:Heap),YP w h→(K w.params).In h)
  (F:∀ (w:World) (mg:Str→Option Value) (fa:Addr) (h:Heap),(K w.params).In h→h.Ns mainGlobals mg→mg d.name=some (.ref fa)→
   ∃ fd:FuncData,(∀ (s:Shared) (u:Value),BindsTo s fd ⟨[u],[]⟩ [("_law_script",u)])∧∀ base:Heap,(K w.params).In base→base.Ns mainGlobals mg→FnOk l.prog w (K w.params) mg base CX0 12 fa fd ["_law_script"] (oO (K w.params))):
  PySem.W.WalkO q loose XP YP l.row.toRowW d [] (fun f vs=>PySem.call f vs):=
 L2.vx (n:=63) (k:=12) (x:="_law_script") (CX:=fun _=>CX0) (sp:=fun w=>oO (K w.params)) hn (by decide) hdf ⟨rfl,by decide,by decide⟩ hY F (fun _ _ a ns hl _ hS=>⟨a,ns,rfl,hS,hl,fun _=>rfl⟩) fun _ _ _ _ _ z=>z
end L2
open PySem PySem.W PyProof.Rows
set_option maxRecDepth 100000 in
def PySem.W.Fast.tw11193834900246090005:Unit:=()
def PySem.W.Fast.tw8816409937659919472:Unit:=()
def PySem.W.Fast.tw6342464457549984333:Unit:=()
def PySem.W.Fast.tw17700252452330812831:Unit:=()
def PySem.W.Fast.tw2523009223694389513:Unit:=()
def PySem.W.Fast.tw14201161830529254420:Unit:=()
def PySem.W.Fast.tw14334635590855475407:Unit:=()
def PySem.W.Fast.tw17709613969977886860:Unit:=()
def PySem.W.Fast.tw175922082457732261:Unit:=()
def PySem.W.Fast.tw10919617263587278528:Unit:=()
def PySem.W.Fast.tw7817375710322515748:Unit:=()
def PySem.W.Fast.tw74345703496259652:Unit:=()
def PySem.W.Fast.tw999049006559824310:Unit:=()
def PySem.W.Fast.tw13810388744791153745:Unit:=()
def PySem.W.Fast.tw5499443576590437697:Unit:=()
def PySem.W.Fast.tw5596187793570151162:Unit:=()
def PySem.W.Fast.tw712897446490043846:Unit:=()
def PySem.W.Fast.tw7279366821603140360:Unit:=()
def PySem.W.Fast.tw2114847320055175538:Unit:=()
def PySem.W.Fast.tw4443544317315191259:Unit:=()
def PySem.W.Fast.tw12969952185089464141:Unit:=()
def PySem.W.Fast.tw11015135299012751881:Unit:=()
def PySem.W.Fast.tw17850495844071572749:Unit:=()
def PySem.W.Fast.tw18260089356500483029:Unit:=()
def PySem.W.Fast.tw3730111451353120270:Unit:=()
def PySem.W.Fast.tw9626529955865639792:Unit:=()
def PySem.W.Fast.tw12767221321883994898:Unit:=()
def PySem.W.Fast.tw12667680491157823284:Unit:=()
def PySem.W.Fast.tw6822156499876499814:Unit:=()
def PySem.W.Fast.tw5816468020904869752:Unit:=()
def PySem.W.Fast.tw13405178147631124881:Unit:=()
def PySem.W.Fast.tw10571672707482570666:Unit:=()
def PySem.W.Fast.tw5166987228403907686:Unit:=()
def PySem.W.Fast.tw6918684858311523710:Unit:=()
def PySem.W.Fast.tw17468136686077142773:Unit:=()
def PySem.W.Fast.tw3457449834106890249:Unit:=()
def PySem.W.Fast.tw1219428013799767671:Unit:=()
def PySem.W.Fast.tw2280759111466245157:Unit:=()
def PySem.W.Fast.tw12762617482139838423:Unit:=()
def PySem.W.Fast.tw1806255119804373859:Unit:=()
def PySem.W.Fast.tw15675560775918548357:Unit:=()
def PySem.W.Fast.tw2623309105261100546:Unit:=()
def PySem.W.Fast.tw860505678148511605:Unit:=()
def PySem.W.Fast.tw4341339777304494717:Unit:=()
def PySem.W.Fast.tw17848579910107934162:Unit:=()
def PySem.W.Fast.tw12601705063689009888:Unit:=()
def PySem.W.Fast.tw6643204337097490989:Unit:=()
def PySem.W.Fast.tw15945282048728043274:Unit:=()
def PySem.W.Fast.tw7506317353848866425:Unit:=()
def PySem.W.Fast.tw7518384553629217846:Unit:=()
def PySem.W.Fast.tw6679095946681913668:Unit:=()
def PySem.W.Fast.tw13696321788040261065:Unit:=()
def PySem.W.Fast.tw1153983350920474804:Unit:=()
def PySem.W.Fast.tw6440248583658560936:Unit:=()
def PySem.W.Fast.tw4324631247068457475:Unit:=()
def PySem.W.Fast.tw16227660814380190266:Unit:=()
def PySem.W.Fast.tw6557497965966637151:Unit:=()
def PySem.W.Fast.tw3320381380075725542:Unit:=()
def PySem.W.Fast.tw13469389323951525714:Unit:=()
def PySem.W.Fast.tw2226282173670907101:Unit:=()
def PySem.W.Fast.tw12285047831391854348:Unit:=()
def PySem.W.Fast.tw15048652627771266513:Unit:=()
def PySem.W.Fast.tw14313796650302331624:Unit:=()
def PySem.W.Fast.tw14238416237943349248:Unit:=()
def PySem.W.Fast.tw12495919808667702985:Unit:=()
def PySem.W.Fast.tw18007160831680174494:Unit:=()
def PySem.W.Fast.tw8150020059070525106:Unit:=()
def PySem.W.Fast.tw15546797685635813443:Unit:=()
def PySem.W.Fast.tw1653681388200531592:Unit:=()
def PySem.W.Fast.tw16465727818119409826:Unit:=()
def PySem.W.Fast.tw2666597847856017589:Unit:=()
def PySem.W.Fast.tw4635467983351870728:Unit:=()
def PySem.W.Fast.tw8485155552166702913:Unit:=()
def PySem.W.Fast.tw16306922088219835314:Unit:=()
def PySem.W.Fast.tw16961830987188265943:Unit:=()
def PySem.W.Fast.tw13703903945744538717:Unit:=()
def PySem.W.Fast.tw8797270307827325868:Unit:=()
def PySem.W.Fast.tw467438421197912664:Unit:=()
def PySem.W.Fast.tw17054878305249868850:Unit:=()
def PySem.W.Fast.tw17526001344553882207:Unit:=()
def PySem.W.Fast.tw10709152455633072815:Unit:=()
def PySem.W.Fast.tw5284100743184605094:Unit:=()
def PySem.W.Fast.tw7411300152309419778:Unit:=()
def PySem.W.Fast.tw18054051757511364363:Unit:=()
def PySem.W.Fast.tw1574295533398979596:Unit:=()
def PySem.W.Fast.tw2059198744541036963:Unit:=()
def PySem.W.Fast.tw6461700234818937659:Unit:=()
def PySem.W.Fast.tw11491519758719373271:Unit:=()
def PySem.W.Fast.tw6909375781873563259:Unit:=()
def PySem.W.Fast.tw14823397235361111760:Unit:=()
def PySem.W.Fast.tw1774196612969048517:Unit:=()
def PySem.W.Fast.tw13090108081363610807:Unit:=()
def PySem.W.Fast.tw8826921961386445522:Unit:=()
def PySem.W.Fast.tw11735396715531856873:Unit:=()
def PySem.W.Fast.tw14275327863629547564:Unit:=()
def PySem.W.Fast.tw18184389796319675813:Unit:=()
def PySem.W.Fast.tw13829924776973626734:Unit:=()
def PySem.W.Fast.tw3196979267351598412:Unit:=()
def PySem.W.Fast.tw12097242621502629929:Unit:=()
def PySem.W.Fast.tw7459485984856062607:Unit:=()
def PySem.W.Fast.tw17351744493560232192:Unit:=()
def PySem.W.Fast.tw9584461234172594507:Unit:=()
def PySem.W.Fast.tw6881208341045470848:Unit:=()
def PySem.W.Fast.tw3347078984464405668:Unit:=()
def PySem.W.Fast.tw8445439480863361496:Unit:=()
def PySem.W.Fast.tw2386609932101195784:Unit:=()
def PySem.W.Fast.tw83791676754458304:Unit:=()
def PySem.W.Fast.tw1725120880481742156:Unit:=()
def PySem.W.Fast.tw18089238853447794639:Unit:=()
def PySem.W.Fast.tw13391505551025112479:Unit:=()
def PySem.W.Fast.tw5601696894499984697:Unit:=()
def PySem.W.Fast.tw14098549672208067985:Unit:=()
def PySem.W.Fast.tw10173087444959626196:Unit:=()
def PySem.W.Fast.tw15353128131960571016:Unit:=()
def PySem.W.Fast.tw1785374043192335183:Unit:=()
def PySem.W.Fast.tw7573459999725428811:Unit:=()
def PySem.W.Fast.tw11490854589491874991:Unit:=()
def PySem.W.Fast.tw6801998005044388890:Unit:=()
def PySem.W.Fast.tw6999579074916952265:Unit:=()
def PySem.W.Fast.tw10247935964959190391:Unit:=()
def PySem.W.Fast.tw10400320641582838898:Unit:=()
def PySem.W.Fast.tw333277890601172230:Unit:=()
def PySem.W.Fast.tw16733331284019691213:Unit:=()
def PySem.W.Fast.tw16965910997259486579:Unit:=()
def PySem.W.Fast.tw16844777622598338430:Unit:=()
def PySem.W.Fast.tw17734586012702827806:Unit:=()
def PySem.W.Fast.tw9706030914585956997:Unit:=()
def PySem.W.Fast.tw12457848692151686435:Unit:=()
def PySem.W.Fast.tw10719248037692672817:Unit:=()
def PySem.W.Fast.tw10988199411029811927:Unit:=()
def PySem.W.Fast.tw12274567378853131275:Unit:=()
def PySem.W.Fast.tw1226138479817289507:Unit:=()
def PySem.W.Fast.tw6325066523978644887:Unit:=()
def PySem.W.Fast.tw16797682181858670174:Unit:=()
def PySem.W.Fast.tw5685273799093379706:Unit:=()
def PySem.W.Fast.tw10590399997445449088:Unit:=()
def PySem.W.Fast.tw17185297559891449232:Unit:=()
def PySem.W.Fast.tw15942671617678106256:Unit:=()
def PySem.W.Fast.tw11962336038102071830:Unit:=()
def PySem.W.Fast.tw12532821170675628503:Unit:=()
def PySem.W.Fast.tw13215694067530905968:Unit:=()
def PySem.W.Fast.tw1846393412761747693:Unit:=()
def PySem.W.Fast.tw8802995521743786681:Unit:=()
def PySem.W.Fast.tw4744880426566687349:Unit:=()
def PySem.W.Fast.tw10048040500816111224:Unit:=()
def PySem.W.Fast.tw233160657243546825:Unit:=()
def PySem.W.Fast.tw17480404853037390448:Unit:=()
def PySem.W.Fast.tw1154938794111457990:Unit:=()
def PySem.W.Fast.tw14181176761832133396:Unit:=()
def PySem.W.Fast.tw17060787970504778581:Unit:=()
def PySem.W.Fast.tw5506166730962865152:Unit:=()
def PySem.W.Fast.tw7767357242395826558:Unit:=()
def PySem.W.Fast.tw9082585008612355785:Unit:=()
def PySem.W.Fast.tw12955260347018389516:Unit:=()
def PySem.W.Fast.tw10497515776308617236:Unit:=()
def PySem.W.Fast.tw16136093587634219448:Unit:=()
def PySem.W.Fast.tw7188391412392407777:Unit:=()
def PySem.W.Fast.tw13620376433051793978:Unit:=()
def PySem.W.Fast.tw18300033392162846662:Unit:=()
def PySem.W.Fast.tw11024799166264332714:Unit:=()
def PySem.W.Fast.tw8518909013661622508:Unit:=()
def PySem.W.Fast.tw7837376600636618144:Unit:=()
def PySem.W.Fast.tw10250921669473844544:Unit:=()
def PySem.W.Fast.tw292534881501625478:Unit:=()
def PySem.W.Fast.tw16093391218335467863:Unit:=()
def PySem.W.Fast.tw17064567555965366641:Unit:=()
def PySem.W.Fast.tw1180996764229042071:Unit:=()
def PySem.W.Fast.tw8945651752500952751:Unit:=()
def PySem.W.Fast.tw4789037949417972039:Unit:=()
def PySem.W.Fast.tw12586961989710752148:Unit:=()
def PySem.W.Fast.tw2588166817683139165:Unit:=()
def PySem.W.Fast.tw15545642381418745077:Unit:=()
def PySem.W.Fast.tw11880104103745074041:Unit:=()
def PySem.W.Fast.tw14497058608493389012:Unit:=()
set_option maxHeartbeats 0 in
theorem PySem.Challenge.cw_cluemaker_k73_texts_of_puzzles_refused_holds : PySem.Challenge.rw_cluemaker_k73_texts_of_puzzles_refused.Holds := by
  w_on; o_law; k_head; (case hw => w_witness2)
  k_fill
  refine L2.walk (l := PySem.Challenge.rw_cluemaker_k73_texts_of_puzzles_refused) rfl rfl (fun w h Y => PySem.W.kIn_of Y) ?F
  case F =>
    intro w mg fa h KX G hmg
    refine' L2.w5 KX G hmg ?An ?q_Sum ?Ao ?Bd ?AV ?Ap ?zF ?Be ?zG ?a0 ?a1 ?a2 ?zH ?AW ?zI ?Aq ?Ad ?zJ ?zp ?Ar ?a4_Unlike ?a4_Sum ?a4_Rising ?a4_Seen ?a4_Count ?a4_Joined ?a4_NoSquare ?a4_Ring ?a5 ?a6_Puzzle ?a7 ?a8 ?a9 ?a10 ?a11 ?a12 ?a13 ?a14 ?a15 ?a16 ?a17_Puzzle ?a18 ?a19 ?a20 ?a21 ?a22 ?a23 ?a24 ?a25 ?a26 ?a27 ?a28 ?a29 ?a30 ?zK ?a32_Puzzle ?a33 ?a34 ?a35 ?F0 ?F1 ?F2 ?F3 ?fn3 ?F4 ?fn4 ?F5 ?F6 ?fn6 ?F7 ?F8 ?F9 ?F10 ?F11 ?F12 ?F13 ?F14 ?F15 ?F16 ?F17 ?fn17 ?F18 ?F19 ?F20 ?F21 ?F22 ?F23 ?F24 ?F25 ?F26 ?F27 ?F28 ?F29 ?F30 ?F31 ?fn31 ?F32 ?fn32 ?F33 ?F34 ?F35 ?zL ?zM ?zN ?zO ?zP ?zQ ?AX ?AY ?AZ ?A0 ?A1 ?A2 ?zR ?zS ?zT ?zU ?zV ?zW ?As ?Au ?Av ?Aw ?Ax ?Ay ?Ae ?Af ?Ag ?Ah ?Ai ?Aj ?zX ?zY ?zZ ?z4 ?z5 ?z6 ?zq ?zr ?zt ?zu ?zv ?zw ?Az ?AA ?AB ?AC ?AD ?AE ?z7 ?z8 ?z9 ?zb ?Aa ?Ab ?io1_Puzzle ?io2_Puzzle ?io3_Puzzle ?io4_Puzzle ?io5_Puzzle ?io6_Puzzle ?xU ?yA ?xV ?yi ?x4 ?xW ?xN ?yj ?x5 ?yU ?x6 ?yB ?yk ?x8 ?xP ?yC ?x9 ?yV ?ya ?yD ?yl ?yb ?xQ ?yE ?ym ?y3 ?yn ?yW ?yF ?yo ?xX ?yX ?yc ?yY ?yd ?yG ?yp ?ye ?xR ?yH ?yf ?yg ?yq ?yr ?yt ?yI ?yJ ?y4 ?y7 ?yu ?yK ?xS ?yL ?y8 ?yM ?yZ ?y9 ?zx ?za ?z_len ?z_abs ?z_min ?z_max ?z_sorted ?z_any ?z_isinstance ?z_list ?z_int ?z_bool ?z_str ?z_tuple ?z_reversed ?z_set ?z_range ?z_zip ?z_all ?z_sum ?z_enumerate ?e_ClueError ?e_NoFloor ?e_NoFilling ?e_NoRule ?e_NoPuzzle ?e_NoMove ?e_NoText ?e_NoRow ?z_ValueError ?D1 ?D2 ?D3 ?D4 ?r1_NoFloor ?r2_NoFloor ?r3_NoFloor ?f1_NoFloor ?f2_NoFloor ?f3_NoFloor ?f4_NoFloor ?f5_NoFloor ?f6_NoFloor ?f7_NoFloor ?g_NoFloor_NoRow ?g_NoFloor_NoMove ?g_NoFloor_NoText ?g_NoFloor_NoPuzzle ?g_NoFloor_NoRule ?g_NoFloor_NoFilling ?r1_NoRule ?r2_NoRule ?r3_NoRule ?f1_NoRule ?f2_NoRule ?f3_NoRule ?f4_NoRule ?f5_NoRule ?f6_NoRule ?f7_NoRule ?g_NoRule_NoRow ?g_NoRule_NoMove ?g_NoRule_NoText ?g_NoRule_NoFloor ?g_NoRule_NoPuzzle ?g_NoRule_NoFilling ?r1_NoPuzzle ?r2_NoPuzzle ?r3_NoPuzzle ?f1_NoPuzzle ?f2_NoPuzzle ?f3_NoPuzzle ?f4_NoPuzzle ?f5_NoPuzzle ?f6_NoPuzzle ?f7_NoPuzzle ?g_NoPuzzle_NoRow ?g_NoPuzzle_NoMove ?g_NoPuzzle_NoText ?g_NoPuzzle_NoFloor ?g_NoPuzzle_NoRule ?g_NoPuzzle_NoFilling ?r1_NoText ?r2_NoText ?r3_NoText ?f1_NoText ?f2_NoText ?f3_NoText ?f4_NoText ?f5_NoText ?f6_NoText ?f7_NoText ?g_NoText_NoRow ?g_NoText_NoMove ?g_NoText_NoFloor ?g_NoText_NoPuzzle ?g_NoText_NoRule ?g_NoText_NoFilling ?r1_NoFilling ?r2_NoFilling ?r3_NoFilling ?f1_NoFilling ?f2_NoFilling ?f3_NoFilling ?f4_NoFilling ?f5_NoFilling ?f6_NoFilling ?f7_NoFilling ?g_NoFilling_NoRow ?g_NoFilling_NoMove ?g_NoFilling_NoText ?g_NoFilling_NoFloor ?g_NoFilling_NoPuzzle ?g_NoFilling_NoRule
    (case An => k_is)
    (case q_Sum => k_is)
    (case Ao => k_is)
    (case Bd => k_is)
    (case AV => k_is)
    (case Ap => k_is)
    (case zF => k_is)
    (case Be => k_is)
    (case zG => k_is)
    (case a0 => k_is)
    (case a1 => k_is)
    (case a2 => k_is)
    (case zH => k_is)
    (case AW => k_is)
    (case zI => k_is)
    (case Aq => k_is)
    (case Ad => k_is)
    (case zJ => k_is)
    (case zp => k_is)
    (case Ar => k_is)
    (case a4_Unlike => k_is)
    (case a4_Sum => k_is)
    (case a4_Rising => k_is)
    (case a4_Seen => k_is)
    (case a4_Count => k_is)
    (case a4_Joined => k_is)
    (case a4_NoSquare => k_is)
    (case a4_Ring => k_is)
    (case a5 => k_is)
    (case a6_Puzzle => k_is)
    (case a7 => k_is)
    (case a8 => k_is)
    (case a9 => k_is)
    (case a10 => k_is)
    (case a11 => k_is)
    (case a12 => k_is)
    (case a13 => k_is)
    (case a14 => k_is)
    (case a15 => k_is)
    (case a16 => k_is)
    (case a17_Puzzle => k_is)
    (case a18 => k_is)
    (case a19 => k_is)
    (case a20 => k_is)
    (case a21 => k_is)
    (case a22 => k_is)
    (case a23 => k_is)
    (case a24 => k_is)
    (case a25 => k_is)
    (case a26 => k_is)
    (case a27 => k_is)
    (case a28 => k_is)
    (case a29 => k_is)
    (case a30 => k_is)
    (case zK => k_is)
    (case a32_Puzzle => k_is)
    (case a33 => k_is)
    (case a34 => k_is)
    (case a35 => k_is)
    (case F0 => (refine' L2.aD ?l ?c ?k; (case l => k_is); (case c => k_is); case k => k_is))
    (case F1 => (refine' L2.aD ?l ?c ?k; (case l => k_is); (case c => k_is); case k => k_is))
    (case F2 => (refine' L2.aD ?l ?c ?k; (case l => k_is); (case c => k_is); case k => k_is))
    (case F3 => (refine' L2.aD ?l ?c ?k; (case l => k_is); (case c => k_is); case k => k_is))
    (case fn3 => k_is)
    (case F4 => (refine' L2.aD ?l ?c ?k; (case l => k_is); (case c => k_is); case k => k_is))
    (case fn4 => k_is)
    (case F5 => (refine' L2.aD ?l ?c ?k; (case l => k_is); (case c => k_is); case k => k_is))
    (case F6 => (refine' L2.aD ?l ?c ?k; (case l => k_is); (case c => k_is); case k => k_is))
    (case fn6 => k_is)
    (case F7 => (refine' L2.aD ?l ?c ?k; (case l => k_is); (case c => k_is); case k => k_is))
    (case F8 => (refine' L2.aD ?l ?c ?k; (case l => k_is); (case c => k_is); case k => k_is))
    (case F9 => (refine' L2.aD ?l ?c ?k; (case l => k_is); (case c => k_is); case k => k_is))
    (case F10 => (refine' L2.aD ?l ?c ?k; (case l => k_is); (case c => k_is); case k => k_is))
    (case F11 => (refine' L2.aD ?l ?c ?k; (case l => k_is); (case c => k_is); case k => k_is))
    (case F12 => (refine' L2.aD ?l ?c ?k; (case l => k_is); (case c => k_is); case k => k_is))
    (case F13 => (refine' L2.aD ?l ?c ?k; (case l => k_is); (case c => k_is); case k => k_is))
    (case F14 => (refine' L2.aD ?l ?c ?k; (case l => k_is); (case c => k_is); case k => k_is))
    (case F15 => (refine' L2.aD ?l ?c ?k; (case l => k_is); (case c => k_is); case k => k_is))
    (case F16 => (refine' L2.aD ?l ?c ?k; (case l => k_is); (case c => k_is); case k => k_is))
    (case F17 => (refine' L2.aD ?l ?c ?k; (case l => k_is); (case c => k_is); case k => k_is))
    (case fn17 => k_is)
    (case F18 => (refine' L2.aD ?l ?c ?k; (case l => k_is); (case c => k_is); case k => k_is))
    (case F19 => (refine' L2.aD ?l ?c ?k; (case l => k_is); (case c => k_is); case k => k_is))
    (case F20 => (refine' L2.aD ?l ?c ?k; (case l => k_is); (case c => k_is); case k => k_is))
    (case F21 => (refine' L2.aD ?l ?c ?k; (case l => k_is); (case c => k_is); case k => k_is))
    (case F22 => (refine' L2.aD ?l ?c ?k; (case l => k_is); (case c => k_is); case k => k_is))
    (case F23 => (refine' L2.aD ?l ?c ?k; (case l => k_is); (case c => k_is); case k => k_is))
    (case F24 => (refine' L2.aD ?l ?c ?k; (case l => k_is); (case c => k_is); case k => k_is))
    (case F25 => (refine' L2.aD ?l ?c ?k; (case l => k_is); (case c => k_is); case k => k_is))
    (case F26 => (refine' L2.aD ?l ?c ?k; (case l => k_is); (case c => k_is); case k => k_is))
    (case F27 => (refine' L2.aD ?l ?c ?k; (case l => k_is); (case c => k_is); case k => k_is))
    (case F28 => (refine' L2.aD ?l ?c ?k; (case l => k_is); (case c => k_is); case k => k_is))
    (case F29 => (refine' L2.aD ?l ?c ?k; (case l => k_is); (case c => k_is); case k => k_is))
    (case F30 => (refine' L2.aD ?l ?c ?k; (case l => k_is); (case c => k_is); case k => k_is))
    (case F31 => (refine' L2.aD ?l ?c ?k; (case l => k_is); (case c => k_is); case k => k_is))
    (case fn31 => k_is)
    (case F32 => (refine' L2.aD ?l ?c ?k; (case l => k_is); (case c => k_is); case k => k_is))
    (case fn32 => k_is)
    (case F33 => (refine' L2.aD ?l ?c ?k; (case l => k_is); (case c => k_is); case k => k_is))
    (case F34 => (refine' L2.aD ?l ?c ?k; (case l => k_is); (case c => k_is); case k => k_is))
    (case F35 => (refine' L2.aD ?l ?c ?k; (case l => k_is); (case c => k_is); case k => k_is))
    (case zL => k_is)
    (case zM => k_is)
    (case zN => k_is)
    (case zO => k_is)
    (case zP => k_is)
    (case zQ => k_is)
    (case AX => k_is)
    (case AY => k_is)
    (case AZ => k_is)
    (case A0 => k_is)
    (case A1 => k_is)
    (case A2 => k_is)
    (case zR => k_is)
    (case zS => k_is)
    (case zT => k_is)
    (case zU => k_is)
    (case zV => k_is)
    (case zW => k_is)
    (case As => k_is)
    (case Au => k_is)
    (case Av => k_is)
    (case Aw => k_is)
    (case Ax => k_is)
    (case Ay => k_is)
    (case Ae => k_is)
    (case Af => k_is)
    (case Ag => k_is)
    (case Ah => k_is)
    (case Ai => k_is)
    (case Aj => k_is)
    (case zX => k_is)
    (case zY => k_is)
    (case zZ => k_is)
    (case z4 => k_is)
    (case z5 => k_is)
    (case z6 => k_is)
    (case zq => k_is)
    (case zr => k_is)
    (case zt => k_is)
    (case zu => k_is)
    (case zv => k_is)
    (case zw => k_is)
    (case Az => k_is)
    (case AA => k_is)
    (case AB => k_is)
    (case AC => k_is)
    (case AD => k_is)
    (case AE => k_is)
    (case z7 => k_is)
    (case z8 => k_is)
    (case z9 => k_is)
    (case zb => k_is)
    (case Aa => k_is)
    (case Ab => k_is)
    (case io1_Puzzle => k_is)
    (case io2_Puzzle => k_is)
    (case io3_Puzzle => k_is)
    (case io4_Puzzle => k_is)
    (case io5_Puzzle => k_is)
    (case io6_Puzzle => kit_is)
    (case xU => k_is)
    (case yA => k_is)
    (case xV => k_is)
    (case yi => k_is)
    (case x4 => k_is)
    (case xW => k_is)
    (case xN => k_is)
    (case yj => k_is)
    (case x5 => k_is)
    (case yU => k_is)
    (case x6 => k_is)
    (case yB => k_is)
    (case yk => k_is)
    (case x8 => k_is)
    (case xP => k_is)
    (case yC => k_is)
    (case x9 => k_is)
    (case yV => k_is)
    (case ya => k_is)
    (case yD => k_is)
    (case yl => k_is)
    (case yb => k_is)
    (case xQ => k_is)
    (case yE => k_is)
    (case ym => k_is)
    (case y3 => k_is)
    (case yn => k_is)
    (case yW => k_is)
    (case yF => k_is)
    (case yo => k_is)
    (case xX => k_is)
    (case yX => k_is)
    (case yc => k_is)
    (case yY => k_is)
    (case yd => k_is)
    (case yG => k_is)
    (case yp => k_is)
    (case ye => k_is)
    (case xR => k_is)
    (case yH => k_is)
    (case yf => k_is)
    (case yg => k_is)
    (case yq => k_is)
    (case yr => k_is)
    (case yt => k_is)
    (case yI => k_is)
    (case yJ => k_is)
    (case y4 => k_is)
    (case y7 => k_is)
    (case yu => k_is)
    (case yK => k_is)
    (case xS => k_is)
    (case yL => k_is)
    (case y8 => k_is)
    (case yM => k_is)
    (case yZ => k_is)
    (case y9 => k_is)
    (case zx => k_is)
    (case za => k_is)
    (case z_len => k_is)
    (case z_abs => k_is)
    (case z_min => k_is)
    (case z_max => k_is)
    (case z_sorted => k_is)
    (case z_any => k_is)
    (case z_isinstance => k_is)
    (case z_list => k_is)
    (case z_int => k_is)
    (case z_bool => k_is)
    (case z_str => k_is)
    (case z_tuple => k_is)
    (case z_reversed => k_is)
    (case z_set => k_is)
    (case z_range => k_is)
    (case z_zip => k_is)
    (case z_all => k_is)
    (case z_sum => k_is)
    (case z_enumerate => k_is)
    (case e_ClueError => k_is)
    (case e_NoFloor => k_is)
    (case e_NoFilling => k_is)
    (case e_NoRule => k_is)
    (case e_NoPuzzle => k_is)
    (case e_NoMove => k_is)
    (case e_NoText => k_is)
    (case e_NoRow => k_is)
    (case z_ValueError => k_is)
    (case D1 => k_is)
    (case D2 => exact rfl)
    (case D3 => k_is)
    (case D4 => first | kernel_rfl | exact rfl)
    (case r1_NoFloor => k_is)
    (case r2_NoFloor => k_is)
    (case r3_NoFloor => first | kernel_rfl | exact rfl)
    (case f1_NoFloor => k_is)
    (case f2_NoFloor => k_is)
    (case f3_NoFloor => k_is)
    (case f4_NoFloor => k_is)
    (case f5_NoFloor => k_is)
    (case f6_NoFloor => kit_is)
    (case f7_NoFloor => kts_exm)
    (case g_NoFloor_NoRow => kit_is)
    (case g_NoFloor_NoMove => kit_is)
    (case g_NoFloor_NoText => kit_is)
    (case g_NoFloor_NoPuzzle => kit_is)
    (case g_NoFloor_NoRule => kit_is)
    (case g_NoFloor_NoFilling => kit_is)
    (case r1_NoRule => k_is)
    (case r2_NoRule => k_is)
    (case r3_NoRule => first | kernel_rfl | exact rfl)
    (case f1_NoRule => k_is)
    (case f2_NoRule => k_is)
    (case f3_NoRule => k_is)
    (case f4_NoRule => k_is)
    (case f5_NoRule => k_is)
    (case f6_NoRule => kit_is)
    (case f7_NoRule => kts_exm)
    (case g_NoRule_NoRow => kit_is)
    (case g_NoRule_NoMove => kit_is)
    (case g_NoRule_NoText => kit_is)
    (case g_NoRule_NoFloor => kit_is)
    (case g_NoRule_NoPuzzle => kit_is)
    (case g_NoRule_NoFilling => kit_is)
    (case r1_NoPuzzle => k_is)
    (case r2_NoPuzzle => k_is)
    (case r3_NoPuzzle => first | kernel_rfl | exact rfl)
    (case f1_NoPuzzle => k_is)
    (case f2_NoPuzzle => k_is)
    (case f3_NoPuzzle => k_is)
    (case f4_NoPuzzle => k_is)
    (case f5_NoPuzzle => k_is)
    (case f6_NoPuzzle => kit_is)
    (case f7_NoPuzzle => kts_exm)
    (case g_NoPuzzle_NoRow => kit_is)
    (case g_NoPuzzle_NoMove => kit_is)
    (case g_NoPuzzle_NoText => kit_is)
    (case g_NoPuzzle_NoFloor => kit_is)
    (case g_NoPuzzle_NoRule => kit_is)
    (case g_NoPuzzle_NoFilling => kit_is)
    (case r1_NoText => k_is)
    (case r2_NoText => k_is)
    (case r3_NoText => first | kernel_rfl | exact rfl)
    (case f1_NoText => k_is)
    (case f2_NoText => k_is)
    (case f3_NoText => k_is)
    (case f4_NoText => k_is)
    (case f5_NoText => k_is)
    (case f6_NoText => kit_is)
    (case f7_NoText => kts_exm)
    (case g_NoText_NoRow => kit_is)
    (case g_NoText_NoMove => kit_is)
    (case g_NoText_NoFloor => kit_is)
    (case g_NoText_NoPuzzle => kit_is)
    (case g_NoText_NoRule => kit_is)
    (case g_NoText_NoFilling => kit_is)
    (case r1_NoFilling => k_is)
    (case r2_NoFilling => k_is)
    (case r3_NoFilling => first | kernel_rfl | exact rfl)
    (case f1_NoFilling => k_is)
    (case f2_NoFilling => k_is)
    (case f3_NoFilling => k_is)
    (case f4_NoFilling => k_is)
    (case f5_NoFilling => k_is)
    (case f6_NoFilling => kit_is)
    (case f7_NoFilling => kts_exm)
    (case g_NoFilling_NoRow => kit_is)
    (case g_NoFilling_NoMove => kit_is)
    (case g_NoFilling_NoText => kit_is)
    (case g_NoFilling_NoFloor => kit_is)
    (case g_NoFilling_NoPuzzle => kit_is)
    (case g_NoFilling_NoRule => kit_is)
