import PyProof.Rows.All
import Wide.All
import OpenK.AllK
import Wide.FinOn
import Lean
import PyProof.EqAt
import PyProof.EqKinds
import PyProof.TupleCall
import PyProof.ZipIter
import PyProof.ConsumeS
import PyProof.StrCalls2
import PyProof.StrWalks
import PyProof.SliceStr2
import PyProof.StrBlock
import PyProof.StrBlockL
import PyProof.ListIndex
import PyProof.StrLawsTight
import PyProof.StrLawsChain
import PyProof.StrLaws
import PyProof.StrLawsFirst
import PyProof.StationsW
import PyProof.ExcClass3
import PyProof.NsDelKeeps
import PyProof.RulesAs
import PyProof.ExcBaseAll.ValueError
import PyProof.ExcArgsOwn
import PyProof.ExcAttrAll.ValueError
import KE.KTryMore
import KE.RegKTryMore
import KE.RegKIsAll
import PyProof.Rows.Range3
import PyProof.Rows.SumGenD
import PyProof.Rows.RuleM_int
import PyProof.EnumMake
import PyProof.EnumFor
import PyProof.EnumStmt
import PyProof.Rows.EnumRows
import KE.KRevIter
import PyProof.ListNew
import PyProof.CollectIter
import PyProof.ListRange
import PyProof.CallStr
import PyProof.StrBlock2
import PyProof.Rows.StrMadeLen
import PyProof.Rows.SetFrom
import PyProof.SetRoads
import PyProof.MeetsStr2
import KE.KRevSl
import PyProof.Conv_int
import PySem.Challenge.RW_cluemaker_k20_puzzles_refused
set_option Elab.async false
set_option linter.all false
set_option maxRecDepth 100000
namespace L2
open PySem PySem.Spec PyProof.Rows
abbrev Key:=Sum Int Str
def keyIs:Key→Value→Bool
 | .inl k,v=>Value.isInt k v
 | .inr x,v=>Value.isStrOf x v
def keyH (w:World):Key→Int
 | .inl k=>hashInt k
 | .inr x=>hashStr w x
theorem bt:∀ {k:Key} {v:Value},keyIs k v=true→(∃ i t,k=Sum.inl i∧v=Value.int i t)∨(∃ x t,k=Sum.inr x∧v=Value.str x t)
 | .inl i,v,h=>by
  obtain ⟨t,e⟩:=Value.isInt_shape (k:=i) (v:=v) h
  exact .inl ⟨i,t,rfl,e⟩
 | .inr x,v,h=>by
  obtain ⟨t,e⟩:=Value.isStrOf_shape (x:=x) (v:=v) h
  exact .inr ⟨x,t,rfl,e⟩
theorem qO (i:Int) (t:Tok):keyIs (.inl i) (.int i t)=true:=by simp [keyIs,Value.isInt]
theorem qP (x:Str) (t:Tok):keyIs (.inr x) (.str x t)=true:=by simp [keyIs,Value.isStrOf]
theorem ui (a b:Int):decide ((Sum.inl a:Key)=Sum.inl b)=(a==b):=by
 by_cases e:a=b
 · subst e; simp
 · have h:¬ (Sum.inl a:Key)=Sum.inl b:=fun q=>e (Sum.inl.inj q)
   rw [decide_eq_false h]
   exact (beq_eq_false_iff_ne.mpr e).symm
theorem uj (a b:Str):decide ((Sum.inr a:Key)=Sum.inr b)=decide (a=b):=by
 by_cases e:a=b
 · subst e; simp
 · have h:¬ (Sum.inr a:Key)=Sum.inr b:=fun q=>e (Sum.inr.inj q)
   rw [decide_eq_false h,decide_eq_false e]
theorem uk (a:Int) (b:Str):decide ((Sum.inl a:Key)=Sum.inr b)=false:=decide_eq_false (fun q=>nomatch q)
theorem ul (a:Str) (b:Int):decide ((Sum.inr a:Key)=Sum.inl b)=false:=decide_eq_false (fun q=>nomatch q)
def cQ (prog:Program) (w:World):PySem.KeyKind prog w Key where
 is:=keyIs
 hash:=keyH w
 inj:=fun v a b ha hb=>by
  rcases bt ha with ⟨i,t,rfl,rfl⟩ | ⟨x,t,rfl,rfl⟩
  · rcases bt hb with ⟨j,u,rfl,e⟩ | ⟨y,u,rfl,e⟩
    · injection e with e1 _; rw [e1]
    · exact nomatch e
  · rcases bt hb with ⟨j,u,rfl,e⟩ | ⟨y,u,rfl,e⟩
    · exact nomatch e
    · injection e with e1 _; rw [e1]
 byValue:=fun k v h=>by
  rcases bt h with ⟨i,t,rfl,rfl⟩ | ⟨x,t,rfl,rfl⟩ <;> rfl
 pyHash:=fun hv h=>by
  rcases bt hv with ⟨i,t,rfl,rfl⟩ | ⟨x,t,rfl,rfl⟩
  · exact wpAny_pyHash_int h
  · exact wpAny_pyHash_str h
 eqBool:=fun hu hv h=>by
  rcases bt hu with ⟨i,t,rfl,rfl⟩ | ⟨x,t,rfl,rfl⟩
  · rcases bt hv with ⟨j,u,rfl,rfl⟩ | ⟨y,u,rfl,rfl⟩
    · rw [ui] at h; exact wpAny_eqBool_int h
    · rw [uk] at h; exact SeqAt.EqAt.int_str i t y u _ _ _ _ h
  · rcases bt hv with ⟨j,u,rfl,rfl⟩ | ⟨y,u,rfl,rfl⟩
    · rw [ul] at h; exact SeqAt.EqAt.str_int x t j u _ _ _ _ h
    · rw [uj] at h; exact wpAny_eqBool_str h
 «strs»:=fun k x t v h=>by
  rcases bt h with ⟨i,u,rfl,e⟩ | ⟨y,u,rfl,e⟩
  · exact nomatch e
  · injection e with e1 _
    subst e1
    cases v <;> rfl
theorem pB (prog:Program) (w:World) (i:Int) (t:Tok):(cQ prog w).is (.inl i) (.int i t)=true:=qO i t
theorem pC (prog:Program) (w:World) (x:Str) (t:Tok):(cQ prog w).is (.inr x) (.str x t)=true:=qP x t
end L2
namespace L2
open PySem PySem.Spec PyProof.Rows
inductive V where
 | non | bl (b:Bool) | int (i:Int) | str (x:Str) | byt (b:Array UInt8) | flt (b:UInt64) | ref (a:Addr) | ty (n:String)
 deriving DecidableEq
def RelV:V→Value→Prop
 | .non,u=>u=Value.none
 | .bl b,u=>u=Value.bool b
 | .int i,u=>∃ t,u=Value.int i t
 | .str x,u=>∃ t,u=Value.str x t
 | .byt b,u=>∃ t,u=Value.bytes b t
 | .flt b,u=>∃ t,u=Value.float b t
 | .ref a,u=>u=Value.ref a
 | .ty n,u=>u=Value.type n
abbrev Vals:List V→List Value→Prop:=Paired RelV
theorem Vals.length {xs:List V} {us:List Value} (r:Vals xs us):xs.length=us.length:=Paired.length r
theorem Vals.get:∀ {xs:List V} {us:List Value} {i:Nat} {x:V},Vals xs us→xs[i]? =some x→∃ u,us[i]? =some u∧RelV x u
 | _,_,_,_,.nil,e=>by simp at e
 | _,_,0,_,.cons r _,e=>by simp at e; subst e; exact ⟨_,rfl,r⟩
 | _,_,i+1,x,.cons _ t,e=>by
  obtain ⟨u,h1,h2⟩:=Vals.get (i:=i) (x:=x) t (by simpa using e)
  exact ⟨u,by simpa using h1,h2⟩
theorem Vals.append:∀ {xs ys:List V} {us ws:List Value},Vals xs us→Vals ys ws→Vals (xs++ys) (us++ws)
 | _,_,_,_,.nil,s=>s
 | _,_,_,_,.cons r t,s=>.cons r (Vals.append t s)
theorem Vals.take:∀ {xs:List V} {us:List Value} (n:Nat),Vals xs us→Vals (xs.take n) (us.take n)
 | _,_,0,_=>.nil
 | _,_,_+1,.nil=>.nil
 | _,_,n+1,.cons r t=>.cons r (Vals.take n t)
theorem Vals.drop:∀ {xs:List V} {us:List Value} (n:Nat),Vals xs us→Vals (xs.drop n) (us.drop n)
 | _,_,0,r=>r
 | _,_,_+1,.nil=>.nil
 | _,_,n+1,.cons _ t=>Vals.drop n t
def RelO:Option V→Option Value→Prop
 | some v,some u=>RelV v u
 | none,none=>True
 | _,_=>False
def KV {κ:Type}:List (κ × V)→List (κ × Value)→Prop:=Paired fun (p:κ × V) (q:κ × Value)=>p.1=q.1∧RelV p.2 q.2
def kV:Key→V
 | .inl i=>.int i
 | .inr x=>.str x
inductive HO where
  | lst (xs:List V)
  | tup (xs:List V)
  | dK (kvs:List (Key × V)) | dT (kvs:List (List Key × V))
  | set (S:Int→Bool) (n:Nat)
  | ins (C dx:Addr) (fs:List (Str × V))
  | own (x:Addr)
  | xd (fs:List (Str × V))
  | met (f x:Addr)
  | rng (lo hi:Int)
  | frz (o:Obj) (u:HO)
  | tbl (ps:Array Value)
  | ext (φ:Heap→Prop)
abbrev Hp:=Addr→Option HO
def upd (H:Hp) (a:Addr) (o:HO):Hp:=fun b=>if b=a then some o else H b
theorem ad {H:Hp} {a:Addr} {o:HO}:upd H a o a=some o:=by unfold upd; rw [if_pos rfl]
theorem ah {H:Hp} {a b:Addr} {o:HO} (h:b≠a):upd H a o b=H b:=by unfold upd; rw [if_neg h]
theorem ar {H:Hp} {a b:Addr} {o:HO} (h:H a=some o) (h':H b=none):a≠b:=by
 intro e; subst e; rw [h] at h'; cases h'
section
variable (P:Program) (w:World)
def ObjOk (H:Hp) (h:Heap) (a:Addr):HO→Prop
 | .lst xs=>xs.length≤sizeLine∧∃ (its:List Value) (n:Nat),Vals xs its∧h.get? a=some { cls:=.type "list",data:=.seq its.toArray n }
 | .tup xs=>xs.length≤sizeLine∧∃ its:List Value,Vals xs its∧IsTup h a its.toArray
 | .dK kvs=>kvs.length≤sizeLine∧(a==sysModules)=false∧∃ vs,KV kvs vs∧h.DictOf (cQ P w) a vs
 | .dT kvs=>kvs.length≤sizeLine∧(a==sysModules)=false∧∃ xs:List (List Key × Addr × Value),
   Paired (fun (p:List Key × V) (q:List Key × Addr × Value)=>p.1=q.1∧H q.2.1=some (.tup (p.1.map kV))∧RelV p.2 q.2.2) kvs xs∧
   ∃ o es ep,h.get? a=some o∧o.ExactDict∧o.data=.dict es ep∧es.toList=xs.map (entryOfKey (tupleKind (cQ P w)))∧(xs.map (·.1)).Nodup
 | .set S n=>h.SetOf (intKind P w) a S n
 | .ins C dx fs=>H dx=some (.own a)∧fs.length≤1000∧dx≠a∧h.get? a=some (PySem.W.instObj C dx)∧
   ∃ mA,h.Ns1 dx mA∧(∀ f,RelO (fs.lookup f) (mA f))∧PySem.Within mA (fs.map (·.1))
 | .own _=>∃ o,h.get? a=some o
 | .xd fs=>∃ mA,h.Ns1 a mA∧∀ f,RelO (fs.lookup f) (mA f)
 | .rng lo hi=>∃ t u v,h.get? a=some { cls:=.type "range",data:=.fields #[.int lo t,.int hi u,.int 1 v] }
 | .frz o u=>h.get? a=some o∧ObjOk H h a u
 | .tbl ps=>h.get? a=some { cls:=.none,data:=.fields ps }
 | .met f x=>h.get? a=some (PySem.W.methodObj (.ref f) (.ref x))
 | .ext φ=>φ h∧(∃ o,h.get? a=some o)∧∀ h1 h2:Heap,φ h1→(∀ o,h1.get? a=some o→h2.get? a=some o)→φ h2
def HOk (H:Hp) (h:Heap):Prop:=∀ a o,H a=some o→ObjOk P w H h a o
end
section
variable {P:Program} {w:World} {H H':Hp} {h h':Heap} {a:Addr} {o:HO}
theorem ObjOk.lt (x:ObjOk P w H h a o):a < h.objs.size:=by
 cases o with
 | lst xs=>obtain ⟨_,_,_,_,e⟩:=x; exact Heap.lt_size e
 | tup xs=>obtain ⟨_,_,_,p⟩:=x; exact p.lt
 | dK kvs=>obtain ⟨_,_,_,_,o,_,_,e,_⟩:=x; exact Heap.lt_size e
 | dT kvs=>obtain ⟨_,_,_,_,o,_,_,e,_⟩:=x; exact Heap.lt_size e
 | set S n=>obtain ⟨o,_,_,_,e,_⟩:=x; exact Heap.lt_size e
 | ins C dx fs=>obtain ⟨_,_,_,e,_⟩:=x; exact Heap.lt_size e
 | own y=>obtain ⟨_,e⟩:=x; exact Heap.lt_size e
 | xd fs=>obtain ⟨_,⟨_,_,_,e,_⟩,_⟩:=x; exact Heap.lt_size e
 | rng lo hi=>obtain ⟨_,_,_,e⟩:=x; exact Heap.lt_size e
 | frz ob u=>obtain ⟨e,_⟩:=x; exact Heap.lt_size e
 | tbl ps=>exact Heap.lt_size (show h.get? a=some _ from x)
 | met f y=>exact Heap.lt_size (show h.get? a=some _ from x)
 | ext φ=>obtain ⟨_,⟨_,e⟩,_⟩:=x; exact Heap.lt_size e
theorem Paired.mapP {α β:Type} {F G:α→β→Prop}:∀ {l₁:List α} {l₂:List β},Paired F l₁ l₂→(∀ a b,F a b→G a b)→Paired G l₁ l₂
 | _,_,.nil,_=>.nil
 | _,_,.cons r t,f=>.cons (f _ _ r) (Paired.mapP t f)
theorem ObjOk.stay (x:ObjOk P w H h a o) (k:∀ b u,(b=a∨H b=some (.own a))→h.get? b=some u→h'.get? b=some u)
  (ho:∀ b,H b=some (.own a)→H' b=some (.own a)) (ht:∀ b xs,H b=some (.tup xs)→H' b=some (.tup xs)):ObjOk P w H' h' a o:=by
 induction o with
 | lst xs=>obtain ⟨z,its,n,r,e⟩:=x; exact ⟨z,its,n,r,k _ _ (.inl rfl) e⟩
 | tup xs=>obtain ⟨z,its,r,ob,e,c⟩:=x; exact ⟨z,its,r,ob,k _ _ (.inl rfl) e,c⟩
 | dK kvs=>obtain ⟨z,y,vs,r,ob,es,ep,e,c⟩:=x; exact ⟨z,y,vs,r,ob,es,ep,k _ _ (.inl rfl) e,c⟩
 | dT kvs=>
  obtain ⟨z,y,xs,r,ob,es,ep,e,c⟩:=x
  exact ⟨z,y,xs,Paired.mapP r fun p q z=>⟨z.1,ht _ _ z.2.1,z.2.2⟩,ob,es,ep,k _ _ (.inl rfl) e,c⟩
 | set S n=>obtain ⟨ob,es,ep,t,e,c⟩:=x; exact ⟨ob,es,ep,t,k _ _ (.inl rfl) e,c⟩
 | ins C dx fs=>
  obtain ⟨d,z,ne,e,mA,⟨od,es,ep,e2,c⟩,r⟩:=x
  exact ⟨ho _ d,z,ne,k _ _ (.inl rfl) e,mA,⟨od,es,ep,k _ _ (.inr d) e2,c⟩,r⟩
 | own y=>obtain ⟨ob,e⟩:=x; exact ⟨ob,k _ _ (.inl rfl) e⟩
 | xd fs=>obtain ⟨mA,⟨od,es,ep,e,c⟩,r⟩:=x; exact ⟨mA,⟨od,es,ep,k _ _ (.inl rfl) e,c⟩,r⟩
 | rng lo hi=>obtain ⟨t,u,v,e⟩:=x; exact ⟨t,u,v,k _ _ (.inl rfl) e⟩
 | frz ob u ih=>obtain ⟨e,q⟩:=x; exact ⟨k _ _ (.inl rfl) e,ih q⟩
 | tbl ps=>
  have e:h.get? a=some { cls:=.none,data:=.fields ps }:=x
  show h'.get? a=some { cls:=.none,data:=.fields ps }
  exact k a _ (.inl rfl) e
 | met f y=>
  have e:h.get? a=some (PySem.W.methodObj (.ref f) (.ref y)):=x
  show h'.get? a=some (PySem.W.methodObj (.ref f) (.ref y))
  exact k a _ (.inl rfl) e
 | ext φ=>obtain ⟨p,⟨o,e⟩,st⟩:=x; exact ⟨st _ _ p fun o q=>k _ _ (.inl rfl) q,⟨o,k _ _ (.inl rfl) e⟩,st⟩
theorem HOk.lt (x:HOk P w H h) (e:H a=some o):a < h.objs.size:=(x a o e).lt
theorem HOk.fresh (x:HOk P w H h) (e:h.objs.size≤a):H a=none:=by
 cases q:H a with
 | none=>rfl
 | some u=>exact absurd (Nat.lt_of_lt_of_le (x.lt q) e) (Nat.lt_irrefl _)
theorem HOk.kept (x:HOk P w H h) (k:∀ b u,h.get? b=some u→h'.get? b=some u):HOk P w H h':=fun a o e=>
 (x a o e).stay (fun b u _ q=>k b u q) (fun _ q=>q) fun _ _ q=>q
theorem HOk.laid (x:HOk P w H h) (k:∀ b u,h.get? b=some u→h'.get? b=some u) (hp:h.objs.size≤a) (new:ObjOk P w (upd H a o) h' a o):HOk P w (upd H a o) h':=fun b u e=>by
 have hn:=x.fresh hp
 by_cases hb:b=a
 · subst hb; rw [ad] at e; cases e; exact new
 · rw [ah hb] at e
   exact (x b u e).stay (fun c v _ q=>k c v q) (fun c q=>by rw [ah (ar q hn)]; exact q) fun c xs q=>by rw [ah (ar q hn)]; exact q
end
def Rd (H:Hp) (a:Addr) (u:HO):Prop:=H a=some u∨∃ o,H a=some (.frz o u)
theorem Rd.ok {P:Program} {w:World} {H:Hp} {h:Heap} {a:Addr} {u:HO} (r:Rd H a u) (x:HOk P w H h):ObjOk P w H h a u:=by
 rcases r with r | ⟨o,r⟩
 · exact x a u r
 · obtain ⟨_,q⟩:=x a _ r
   exact q
def Mut:Option HO→Prop
 | some (.lst _)=>True
 | some (.dK _)=>True
 | some (.dT _)=>True
 | some (.set _ _)=>True
 | some (.ins _ _ _)=>True
 | some (.ext _)=>True
 | _=>False
section
variable {P:Program} {w:World} {H:Hp} {h h':Heap} {x e:Addr} {o':HO}
theorem HOk.write (ok:HOk P w H h) (mu:Mut (H x)) (he:e=x∨H e=some (.own x)) (k:∀ b u,b≠e→h.get? b=some u→h'.get? b=some u) (heo:∃ u,h'.get? e=some u)
  (new:ObjOk P w (upd H x o') h' x o'):HOk P w (upd H x o') h':=fun b u q=>by
 have nown:∀ c y,H c=some (.own y)→c≠x:=fun c y r z=>by subst z; rw [r] at mu; exact mu
 have ntup:∀ c xs,H c=some (.tup xs)→c≠x:=fun c xs r z=>by subst z; rw [r] at mu; exact mu
 by_cases hb:b=x
 · subst hb; rw [ad] at q; cases q; exact new
 · rw [ah hb] at q
   by_cases hbe:b=e
   · have q':H b=some (.own x):=by
      rcases he with z | z
      · exact absurd (hbe.trans z) hb
      · rw [hbe]; exact z
     rw [q] at q'; cases q'
     obtain ⟨v,hv⟩:=heo
     exact ⟨v,by rw [hbe]; exact hv⟩
   · refine (ok b u q).stay (fun c v hc r=>k c v ?_ r) (fun c r=>by rw [ah (nown c b r)]; exact r) fun c xs r=>by rw [ah (ntup c xs r)]; exact r
     rcases hc with rfl | hc
     · exact hbe
     · rintro rfl
       rcases he with z | z
       · exact nown c b hc z
       · rw [hc] at z; cases z; exact hb rfl
end
structure Un (fs ex:List Addr) (H H':Hp) (h h':Heap):Prop where
 keep:∀ b o,h.get? b=some o→H b=none→b∉fs→b∉ex→h'.get? b=some o
 slot:∀ b o,h.get? b=some o→H b=none→b∈fs→b∉ex→∃ sl,h'.get? b=some { o with slots:=sl }
 free:∀ b o,h.get? b=some o→H b=none→b∉ex→H' b=none
 there:∀ b o,h.get? b=some o→b∉ex→∃ o',h'.get? b=some o'
 tups:∀ b xs,H b=some (.tup xs)→H' b=some (.tup xs)
 frzs:∀ b o u,H b=some (.frz o u)→H' b=some (.frz o u)
 tbls:∀ b ps,H b=some (.tbl ps)→∃ more,H' b=some (.tbl (ps++more))
section
variable {fs fs' ex ex':List Addr} {H H1 H2:Hp} {h h1 h2 h':Heap} {a x e:Addr} {o:HO}
theorem Un.any (u:Un fs ex H H1 h h1) {b:Addr} {ob:Obj} (q:h.get? b=some ob) (n:H b=none) (hx:b∉ex):∃ sl,h1.get? b=some { ob with slots:=sl }:=by
 by_cases hb:b∈fs
 · exact u.slot b ob q n hb hx
 · exact ⟨ob.slots,u.keep b ob q n hb hx⟩
theorem Un.trans (a:Un fs ex H H1 h h1) (b:Un fs ex H1 H2 h1 h2):Un fs ex H H2 h h2 where
 keep:=fun c ob q n hc hx=>b.keep c ob (a.keep c ob q n hc hx) (a.free c ob q n hx) hc hx
 slot:=fun c ob q n hc hx=>by
  obtain ⟨sl,e1⟩:=a.slot c ob q n hc hx
  obtain ⟨sl',e2⟩:=b.slot c _ e1 (a.free c ob q n hx) hc hx
  exact ⟨sl',e2⟩
 free:=fun c ob q n hx=>by
  obtain ⟨o',e1⟩:=a.there c ob q hx
  exact b.free c o' e1 (a.free c ob q n hx) hx
 there:=fun c ob q hx=>by
  obtain ⟨o',e1⟩:=a.there c ob q hx
  exact b.there c o' e1 hx
 tups:=fun c xs q=>b.tups c xs (a.tups c xs q)
 frzs:=fun c ob xs q=>b.frzs c ob xs (a.frzs c ob xs q)
 tbls:=fun c ps q=>by
  obtain ⟨m1,e1⟩:=a.tbls c ps q
  obtain ⟨m2,e2⟩:=b.tbls c _ e1
  exact ⟨m1++m2,by rw [e2,Array.append_assoc]⟩
theorem Un.kept (k:∀ b u,h.get? b=some u→h'.get? b=some u):Un fs ex H H h h':=
 ⟨fun b ob q _ _ _=>k b ob q,fun b ob q _ _ _=>⟨ob.slots,k b ob q⟩,fun _ _ _ n _=>n,fun b ob q _=>⟨ob,k b ob q⟩,fun _ _ q=>q,fun _ _ _ q=>q,fun _ ps q=>⟨#[],by rw [q]; simp⟩⟩
theorem Un.refl:Un fs ex H H h h:=Un.kept fun _ _ q=>q
theorem Un.laid (k:∀ b u,h.get? b=some u→h'.get? b=some u) (hp:h.objs.size≤a) (hn:H a=none):Un fs ex H (upd H a o) h h' where
 keep:=fun b u q _ _ _=>k b u q
 slot:=fun b u q _ _ _=>⟨u.slots,k b u q⟩
 free:=fun b u q n _=>by rw [ah (Nat.ne_of_lt (Nat.lt_of_lt_of_le (Heap.lt_size q) hp))]; exact n
 there:=fun b u q _=>⟨u,k b u q⟩
 tups:=fun b xs q=>by rw [ah (ar q hn)]; exact q
 frzs:=fun b u xs q=>by rw [ah (ar q hn)]; exact q
 tbls:=fun b ps q=>⟨#[],by rw [ah (ar q hn),q]; simp⟩
theorem Un.write (mu:Mut (H x)) (he:e=x∨H e=some (.own x)) (k:∀ b u,b≠e→h.get? b=some u→h'.get? b=some u) (heo:∃ u,h'.get? e=some u):Un fs ex H (upd H x o) h h':=by
 have hx:∀ b,H b=none→b≠x:=fun b n z=>by subst z; rw [n] at mu; exact mu
 have hb:∀ b,H b=none→b≠e:=fun b n z=>by
  subst z
  rcases he with r | r
  · exact hx b n r
  · rw [n] at r; cases r
 have hm:∀ b u,H b=some u→¬ Mut (some u)→b≠x:=fun b u q nm z=>by subst z; rw [q] at mu; exact nm mu
 refine ⟨fun b u q n _ _=>k b u (hb b n) q,fun b u q n _ _=>⟨u.slots,k b u (hb b n) q⟩,fun b u q n _=>by rw [ah (hx b n)]; exact n,fun b u q _=>?_,
  fun b xs q=>by rw [ah (hm b _ q fun z=>z)]; exact q,fun b u xs q=>by rw [ah (hm b _ q fun z=>z)]; exact q,fun b ps q=>⟨#[],by rw [ah (hm b _ q fun z=>z),q]; simp⟩⟩
 by_cases hbe:b=e
 · subst hbe; exact heo
 · exact ⟨u,k b u hbe q⟩
theorem Un.mono (u:Un fs ex H H1 h h1) (hs:∀ b∈fs,b∈fs') (hx:∀ b∈ex,b∈ex'):Un fs' ex' H H1 h h1:=
 ⟨fun b ob q n hb he=>u.keep b ob q n (fun z=>hb (hs b z)) fun z=>he (hx b z),fun _ _ q n _ he=>u.any q n fun z=>he (hx _ z),fun b ob q n he=>u.free b ob q n fun z=>he (hx b z),fun b ob q he=>u.there b ob q fun z=>he (hx b z),u.tups,u.frzs,u.tbls⟩
end
def trk (h:Heap) (H:Hp):List Addr:=(List.range h.objs.size).filter fun a=>(H a).isSome
def hidT (h:Heap) (H:Hp):Heap:=PySem.W.hideAll h (trk h H)
theorem qQ (h:Heap) (H:Hp):(hidT h H).objs.size=h.objs.size:=PySem.W.hideAll_size _ _
theorem sj {h:Heap} {H:Hp} {b:Addr} {o:Obj} (e:h.get? b=some o) (n:H b=none):(hidT h H).get? b=some o:=
 PySem.W.hideAll_get _ e fun hm=>by
  have q:(H b).isSome=true:=(List.mem_filter.mp hm).2
  rw [n] at q; simp at q
theorem tm {h:Heap} {H:Hp} {b:Addr} {o:Obj} (e:(hidT h H).get? b=some o):h.get? b=some o∧H b=none:=by
 have e':h.get? b=some o:=PySem.W.of_hideAll (trk h H) e
 refine ⟨e',?_⟩
 cases q:H b with
 | none=>rfl
 | some x=>
  have hm:b∈trk h H:=List.mem_filter.mpr ⟨List.mem_range.mpr (Heap.lt_size e'),by simp [q]⟩
  have z:(hidT h H).get? b=none:=PySem.W.hideAll_none (trk h H) hm
  rw [z] at e; cases e
end L2
namespace L2
open PySem PySem.Spec PyProof.Rows
structure Mod (K:PySem.W.Frag) (mg:Str→Option Value) (base:Heap):Prop where
 kin:K.In base
 glob:base.Ns mainGlobals mg
 blt:∃ mb,base.Ns builtinsNs mb∧∀ x:Str,x≠"__name__"→mb x=bootBuiltins x
 nolimit:base.NoLimit
structure Cx where
 prog:Program
 w:World
 K:PySem.W.Frag
 mg:Str→Option Value
 base:Heap
 A:Around
 N:List Str
 s₀:Shared
 H₀:Hp
 env:Env
 outer:List Env
 stack:List Env
 ex:List Addr
 fn:Str→Bool
 calm:Bool
 pn:List (Addr × Obj)
 xe:Value→Shared→Prop
def frs (l:List Env):List Addr:=l.filterMap (·.frame)
abbrev Cx.fs (X:Cx):List Addr:=frs X.outer
def Vis (sc:Scope) (x:Str):Prop:=sc.names.lookup x=some .local∨sc.names.lookup x=some .cell∨sc.names.lookup x=some .free
def Loc (sc:Scope) (x:Str):Prop:=sc.names.lookup x=some .local∨sc.names.lookup x=some .cell
def Look (env:Env) (h:Heap) (m:Str→Option Value) (x:Str) (u:Value):Prop:=
 (env.kindOf x=some .local∧m x=some u)∨((env.kindOf x=some .cell∨env.kindOf x=some .free)∧∃ c,env.cells.lookup x=some c∧h.IsCell c (some u))
structure Cx.Ok (X:Cx):Prop where
 mod:Mod X.K X.mg X.base
 kind:X.env.scope.kind=.function
 glob:X.env.globals=mainGlobals
 blt:X.env.builtins=builtinsNs
 above:X.s₀.heap.objs.size≤X.env.locals
 inj:∀ x y c,X.env.cells.lookup x=some c→X.env.cells.lookup y=some c→x=y
 has:∀ x,(X.env.kindOf x=some .cell∨X.env.kindOf x=some .free)→∃ c,X.env.cells.lookup x=some c
 cab:∀ x c,X.fn x=true→X.env.cells.lookup x=some c→X.s₀.heap.objs.size≤c
 hd:X.calm=true→X.A.handled=none
 frames:X.A.frames=some X.stack
 stk:X.stack=X.outer∨(X.stack=X.env::X.outer∧X.env.frame=some X.env.locals)
 exf:∀ b∈X.ex,b≠X.env.locals∧∀ x c,X.env.cells.lookup x=some c→c≠b
 bs:∀ b o,X.base.get? b=some o→X.s₀.heap.get? b=some o∧X.H₀ b=none
 bsz:X.base.objs.size≤X.s₀.heap.objs.size
 noex:∀ b o,X.base.get? b=some o→b∉X.ex
 exfs:∀ b∈X.ex,b∉X.fs
 funs:X.s₀.heap.FunFrames X.base X.outer
 frf:∀ b∈X.fs,X.H₀ b=none
structure Inv (X:Cx) (pins:List (Addr × Obj)) (σ:List (Option V)) (H:Hp) (s:Shared):Prop where
 ok:X.Ok
 os:s.os=X.s₀.os
 bare:AllBare s.gens
 base:Un X.fs X.ex X.H₀ H X.s₀.heap s.heap
 loc:∃ m,s.heap.Ns X.env.locals m∧∀ (i:Nat) (x:Str) (v:V),X.N[i]? =some x→σ[i]? =some (some v)→Vis X.env.scope x→∃ u,RelV v u∧Look X.env s.heap m x u
 cell:∀ x c,X.env.cells.lookup x=some c→∃ v,s.heap.IsCell c v
 free:H X.env.locals=none
 freeC:∀ x c,X.env.cells.lookup x=some c→H c=none
 pin:∀ p∈X.pn++pins,s.heap.get? p.1=some p.2∧H p.1=none∧p.1≠X.env.locals∧p.1∉X.fs∧∀ v,p.2.data≠.cell v
 hok:HOk X.prog X.w H s.heap
 len:σ.length=X.N.length
section
variable {X:Cx} {pins:List (Addr × Obj)} {σ:List (Option V)} {H H':Hp} {s:Shared} {h':Heap}
theorem Cx.Ok.nofr (ok:X.Ok) {b:Addr} {o:Obj} (e:X.base.get? b=some o):b∉X.fs:=fun hb=>by
 have:=(ok.funs.mem hb).1
 rw [e] at this; cases this
theorem Inv.bs (I:Inv X pins σ H s):∀ b o,X.base.get? b=some o→s.heap.get? b=some o∧H b=none:=fun b o e=>
 ⟨I.base.keep b o (I.ok.bs b o e).1 (I.ok.bs b o e).2 (I.ok.nofr e) (I.ok.noex b o e),I.base.free b o (I.ok.bs b o e).1 (I.ok.bs b o e).2 (I.ok.noex b o e)⟩
theorem Inv.bk (I:Inv X pins σ H s):∀ b o,X.base.get? b=some o→s.heap.get? b=some o:=fun b o e=>(I.bs b o e).1
theorem Inv.mod (I:Inv X pins σ H s):Mod X.K X.mg X.base:=I.ok.mod
theorem Inv.kIn (I:Inv X pins σ H s):X.K.In s.heap:=I.ok.mod.kin.keeps I.bk
theorem Inv.lt (I:Inv X pins σ H s):X.env.locals < s.heap.objs.size:=let ⟨_,hn,_⟩:=I.loc; hn.lt
theorem Inv.sz (I:Inv X pins σ H s):X.s₀.heap.objs.size≤s.heap.objs.size:=Nat.le_trans I.ok.above (Nat.le_of_lt I.lt)
theorem Inv.nofs (I:Inv X pins σ H s) {a:Addr} (h:s.heap.objs.size≤a):a∉X.fs:=fun hb=>by
 obtain ⟨_,o,ho,_⟩:=I.ok.funs.mem hb
 exact absurd (Nat.lt_of_lt_of_le (Heap.lt_size ho) (Nat.le_trans I.sz h)) (Nat.lt_irrefl _)
theorem Inv.cne (I:Inv X pins σ H s):∀ x c,X.env.cells.lookup x=some c→c≠X.env.locals:=fun x c e z=>by
 obtain ⟨v,o,ho,hd⟩:=I.cell x c e
 obtain ⟨m,⟨o',es,ep,ho',hd',_⟩,_⟩:=I.loc
 rw [z,ho'] at ho; cases ho; rw [hd'] at hd; cases hd
theorem Inv.funs (I:Inv X pins σ H s):s.heap.FunFrames X.base X.outer:=by
 have all:∀ (l:List Env),(∀ b∈frs l,b∈X.fs)→X.s₀.heap.FunFrames X.base l→s.heap.FunFrames X.base l:=by
  intro l
  induction l with
  | nil=>intro _ _; trivial
  | cons env r ih=>
   intro hs hl
   obtain ⟨hk,⟨L,o,hf,hn,ho,hd⟩,hr⟩:=hl
   have hL:L∈X.fs:=hs L (by unfold frs; rw [List.filterMap_cons,hf]; exact List.mem_cons_self)
   obtain ⟨sl,e⟩:=I.base.slot L o ho (I.ok.frf L hL) hL fun z=>I.ok.exfs L z hL
   exact ⟨hk,⟨L,_,hf,hn,e,hd⟩,ih (fun b hb=>hs b (by unfold frs; rw [List.filterMap_cons,hf]; exact List.mem_cons_of_mem _ hb)) hr⟩
 exact all X.outer (fun _ hb=>hb) I.ok.funs
theorem Inv.stack (I:Inv X pins σ H s):s.heap.FunFrames X.base X.stack:=by
 rcases I.ok.stk with e | ⟨e,hf⟩
 · rw [e]; exact I.funs
 · rw [e]
   obtain ⟨m,hn,_⟩:=I.loc
   refine .cons (by rw [I.ok.kind]; decide) hf hn ?_ I.funs
   exact Heap.get?_none_of_le (Nat.le_trans I.ok.bsz I.ok.above)
theorem Inv.stkSub (I:Inv X pins σ H s):∀ b∈frs X.stack,b∈X.env.locals::X.fs:=fun b hb=>by
 rcases I.ok.stk with e | ⟨e,hf⟩
 · rw [e] at hb; exact List.mem_cons_of_mem _ hb
 · rw [e] at hb
   unfold frs at hb
   rw [List.filterMap_cons,hf] at hb
   exact hb
theorem Inv.stkFree (I:Inv X pins σ H s):∀ b∈frs X.stack,H b=none:=fun b hb=>by
 rcases List.mem_cons.mp (I.stkSub b hb) with e | hb
 · rw [e]; exact I.free
 · obtain ⟨_,o,ho,_⟩:=I.ok.funs.mem hb
   exact I.base.free b o ho (I.ok.frf b hb) fun z=>I.ok.exfs b z hb
theorem Inv.step {g':Array GenState} {t':Nat} {d':Drawn} {ch:List Addr} (I:Inv X pins σ H s)
  (hch:∀ b∈ch,(b∈X.ex∨X.s₀.heap.objs.size≤b)∧b≠X.env.locals∧(∀ x c,X.env.cells.lookup x=some c→c≠b)∧∀ p∈X.pn++pins,p.1≠b)
  (keep:∀ b o,b≠X.env.locals→b∉X.fs→b∉ch→s.heap.get? b=some o→H b=none→h'.get? b=some o)
  (slot:∀ b o,b≠X.env.locals→b∈X.fs→b∉ch→s.heap.get? b=some o→H b=none→∃ sl,h'.get? b=some { o with slots:=sl }) (free:∀ b o,b∉ch→s.heap.get? b=some o→H b=none→H' b=none)
  (there:∀ b o,b∉ch→s.heap.get? b=some o→∃ o',h'.get? b=some o')
  (tups:∀ b xs,H b=some (.tup xs)→H' b=some (.tup xs)) (frzs:∀ b o u,H b=some (.frz o u)→H' b=some (.frz o u)) (tbls:∀ b ps,H b=some (.tbl ps)→∃ more,H' b=some (.tbl (ps++more)))
  (ns:∀ m,s.heap.Ns X.env.locals m→h'.Ns X.env.locals m) (hok:HOk X.prog X.w H' h') (hg:AllBare g'):
  Inv X pins σ H' { s with heap:=h',gens:=g',drawn:=d',toks:=t' }:=by
 have neL:∀ b o,X.s₀.heap.get? b=some o→b≠X.env.locals:=fun b o e=>Nat.ne_of_lt (Nat.lt_of_lt_of_le (Heap.lt_size e) I.ok.above)
 have neC:∀ b o,X.s₀.heap.get? b=some o→b∉X.ex→b∉ch:=fun b o e hx hb=>by
  rcases (hch b hb).1 with z | z
  · exact hx z
  · exact absurd (Nat.lt_of_lt_of_le (Heap.lt_size e) z) (Nat.lt_irrefl _)
 have cellK:∀ x c,X.env.cells.lookup x=some c→∀ v,s.heap.IsCell c v→h'.IsCell c v:=fun x c e v ⟨o,ho,hd⟩=>by
  have nch:c∉ch:=fun z=>(hch c z).2.2.1 x c e rfl
  by_cases hc:c∈X.fs
  · obtain ⟨sl,q⟩:=slot c o (I.cne x c e) hc nch ho (I.freeC x c e)
    exact ⟨_,q,hd⟩
  · exact ⟨o,keep c o (I.cne x c e) hc nch ho (I.freeC x c e),hd⟩
 refine ⟨I.ok,I.os,hg,⟨fun b o e n hb hx=>?_,fun b o e n hb hx=>?_,fun b o e n hx=>?_,fun b o e hx=>?_,fun b xs e=>tups b xs (I.base.tups b xs e),fun b o xs e=>frzs b o xs (I.base.frzs b o xs e),fun b ps e=>?_⟩,?_,fun x c e=>?_,?_,fun x c e=>?_,fun p hp=>?_,hok,I.len⟩
 · exact keep b o (neL b o e) hb (neC b o e hx) (I.base.keep b o e n hb hx) (I.base.free b o e n hx)
 · obtain ⟨sl,e1⟩:=I.base.slot b o e n hb hx
   obtain ⟨sl',e2⟩:=slot b _ (neL b o e) hb (neC b o e hx) e1 (I.base.free b o e n hx)
   exact ⟨sl',e2⟩
 · obtain ⟨o',e1⟩:=I.base.there b o e hx
   exact free b o' (neC b o e hx) e1 (I.base.free b o e n hx)
 · obtain ⟨o',e1⟩:=I.base.there b o e hx
   exact there b o' (neC b o e hx) e1
 · obtain ⟨m1,e1⟩:=I.base.tbls b ps e
   obtain ⟨m2,e2⟩:=tbls b _ e1
   exact ⟨m1++m2,by rw [e2,Array.append_assoc]⟩
 · obtain ⟨m,hn,hl⟩:=I.loc
   refine ⟨m,ns m hn,fun i x v e1 e2 e3=>?_⟩
   obtain ⟨u,r,l⟩:=hl i x v e1 e2 e3
   refine ⟨u,r,?_⟩
   rcases l with l | ⟨k,c,e,z⟩
   · exact .inl l
   · exact .inr ⟨k,c,e,cellK x c e _ z⟩
 · obtain ⟨v,z⟩:=I.cell x c e
   exact ⟨v,cellK x c e v z⟩
 · obtain ⟨m,⟨o,_,_,ho,_⟩,_⟩:=I.loc
   exact free _ o (fun z=>(hch _ z).2.1 rfl) ho I.free
 · obtain ⟨v,o,ho,hd⟩:=I.cell x c e
   exact free c o (fun z=>(hch c z).2.2.1 x c e rfl) ho (I.freeC x c e)
 · obtain ⟨e,n,ne,nf,d⟩:=I.pin p hp
   have nch:p.1∉ch:=fun z=>(hch p.1 z).2.2.2 p hp rfl
   exact ⟨keep p.1 p.2 ne nf nch e n,free p.1 p.2 nch e n,ne,nf,d⟩
theorem Inv.un {t':Nat} (I:Inv X pins σ H s) (u:Un X.fs [] H H' s.heap h') (hok:HOk X.prog X.w H' h'):Inv X pins σ H' { s with heap:=h',toks:=t' }:=by
 obtain ⟨m,⟨o,es,ep,ho,r⟩,_⟩:=id I.loc
 obtain ⟨sl,hL⟩:=u.any ho I.free (by simp)
 exact I.step (g':=s.gens) (d':=s.drawn) (ch:=[]) (fun _ z=>nomatch z) (fun b o _ hb _ e n=>u.keep b o e n hb (by simp)) (fun b o _ hb _ e n=>u.slot b o e n hb (by simp)) (fun b o _ e n=>u.free b o e n (by simp)) (fun b o _ e=>u.there b o e (by simp)) u.tups u.frzs u.tbls (fun m' hm=>by
  obtain ⟨o',es',ep',ho',r'⟩:=hm
  rw [ho] at ho'; cases ho'
  exact ⟨_,es',ep',hL,r'⟩) hok I.bare
theorem Inv.call {g':Array GenState} {t':Nat} {d':Drawn} {ch:List Addr} (I:Inv X pins σ H s) (u:Un (frs X.stack) ch H H' s.heap h') (hok:HOk X.prog X.w H' h') (hg:AllBare g')
  (hch:∀ b∈ch,(b∈X.ex∨X.s₀.heap.objs.size≤b)∧b≠X.env.locals∧(∀ x c,X.env.cells.lookup x=some c→c≠b)∧∀ p∈X.pn++pins,p.1≠b):
  Inv X pins σ H' { s with heap:=h',gens:=g',drawn:=d',toks:=t' }:=by
 obtain ⟨m,⟨o,es,ep,ho,r⟩,_⟩:=id I.loc
 obtain ⟨sl,hL⟩:=u.any ho I.free fun z=>(hch _ z).2.1 rfl
 exact I.step (ch:=ch) hch (fun b o hL hb hc e n=>u.keep b o e n (fun z=>(List.mem_cons.mp (I.stkSub b z)).elim hL hb) hc) (fun b o _ _ hc e n=>u.any e n hc) (fun b o hc e n=>u.free b o e n hc) (fun b o hc e=>u.there b o e hc) u.tups u.frzs u.tbls (fun m' hm=>by
  obtain ⟨o',es',ep',ho',r'⟩:=hm
  rw [ho] at ho'; cases ho'
  exact ⟨_,es',ep',hL,r'⟩) hok hg
theorem Inv.turned {t':Nat} {it:Addr} (I:Inv X pins σ H s) (k:∀ b o,b≠it→s.heap.get? b=some o→h'.get? b=some o) (hn:H it=none) (hL:it≠X.env.locals)
  (h1:it∈X.ex∨X.s₀.heap.objs.size≤it) (h2:∀ x c,X.env.cells.lookup x=some c→c≠it) (h3:∀ p∈X.pn++pins,p.1≠it):Inv X pins σ H { s with heap:=h',toks:=t' }:=by
 have nit:∀ b u,H b=some u→b≠it:=fun b u e z=>by rw [z,hn] at e; cases e
 refine I.step (g':=s.gens) (d':=s.drawn) (ch:=[it]) (fun b hb=>?_) (fun b o _ _ hc e _=>k b o (fun z=>hc (by simp [z])) e) (fun b o _ _ hc e _=>⟨o.slots,k b o (fun z=>hc (by simp [z])) e⟩) (fun _ _ _ _ n=>n)
  (fun b o hc e=>⟨o,k b o (fun z=>hc (by simp [z])) e⟩) (fun _ _ e=>e) (fun _ _ _ e=>e) (fun b ps e=>⟨#[],by rw [e]; simp⟩) (fun m hm=>?_) (fun b u e=>?_) I.bare
 · have e:b=it:=by simpa using hb
   subst e
   exact ⟨h1,hL,h2,h3⟩
 · obtain ⟨o,es,ep,ho,r⟩:=hm
   exact ⟨o,es,ep,k _ o (Ne.symm hL) ho,r⟩
 · refine (I.hok b u e).stay (fun c v hc q=>k c v ?_ q) (fun _ q=>q) fun _ _ q=>q
   rcases hc with z | z
   · rw [z]; exact nit b u e
   · exact nit c _ z
theorem Inv.tok (I:Inv X pins σ H s) (t:Nat):Inv X pins σ H { s with toks:=t }:=I.un (h':=s.heap) (t':=t) Un.refl I.hok
theorem Inv.kept {t':Nat} (I:Inv X pins σ H s) (k:∀ b u,s.heap.get? b=some u→h'.get? b=some u):Inv X pins σ H { s with heap:=h',toks:=t' }:=I.un (Un.kept k) (I.hok.kept k)
theorem Inv.laid {a:Addr} {o:HO} {t':Nat} (I:Inv X pins σ H s) (k:∀ b u,s.heap.get? b=some u→h'.get? b=some u) (hp:s.heap.objs.size≤a) (new:ObjOk X.prog X.w (upd H a o) h' a o):
  Inv X pins σ (upd H a o) { s with heap:=h',toks:=t' }:=I.un (Un.laid k hp (I.hok.fresh hp)) (I.hok.laid k hp new)
theorem Inv.write {x e:Addr} {o:HO} {t':Nat} (I:Inv X pins σ H s) (mu:Mut (H x)) (he:e=x∨H e=some (.own x)) (k:∀ b u,b≠e→s.heap.get? b=some u→h'.get? b=some u) (heo:∃ u,h'.get? e=some u)
  (new:ObjOk X.prog X.w (upd H x o) h' x o):Inv X pins σ (upd H x o) { s with heap:=h',toks:=t' }:=I.un (Un.write mu he k heo) (I.hok.write mu he k heo new)
theorem Inv.pins_of {pins':List (Addr × Obj)} (I:Inv X pins σ H s) (h:∀ p∈pins',s.heap.get? p.1=some p.2∧H p.1=none∧p.1≠X.env.locals∧p.1∉X.fs∧∀ v,p.2.data≠.cell v):Inv X pins' σ H s:=
 ⟨I.ok,I.os,I.bare,I.base,I.loc,I.cell,I.free,I.freeC,fun p hp=>(List.mem_append.mp hp).elim (fun z=>I.pin p (List.mem_append_left _ z)) (h p),I.hok,I.len⟩
theorem kg {N:List Str} (hN:N.Nodup) {i j:Nat} {x:Str} (a:N[i]? =some x) (b:N[j]? =some x):i=j:=by
 obtain ⟨h1,e1⟩:=List.getElem?_eq_some_iff.mp a
 obtain ⟨h2,e2⟩:=List.getElem?_eq_some_iff.mp b
 exact (List.getElem_inj hN).mp (e1.trans e2.symm)
theorem mR {M:Model} {A:Around} {E:Value→Shared→Prop} {i:Nat} {x:Str} {v:V} {u:Value} {Q:Unit→Shared→Prop} (I:Inv X pins σ H s) (hN:X.N.Nodup) (hi:X.N[i]? =some x) (hx:Loc X.env.scope x) (r:RelV v u)
  (h:∀ s',Inv X pins (σ.set i (some v)) H s'→(∃ a,Heap.SameBut a s.heap s'.heap∧(a=X.env.locals∨X.env.cells.lookup x=some a))→Q () s') (hf:X.fn x=true∨X.env.scope.names.lookup x=some .local:=by first | exact .inl rfl | exact .inr rfl | assumption):wpAny M A (storeName X.env x u) Q E s:=by
 obtain ⟨m,hn,hl⟩:=id I.loc
 have hcls:(X.env.scope.kind==.class||(X.env.scope.kind==.module&&X.env.locals != X.env.globals))=false:=by rw [I.ok.kind]; rfl
 have hiσ:i < σ.length:=by rw [I.len]; exact (List.getElem?_eq_some_iff.mp hi).1
 have cne:=I.cne
 have tracked:∀ {a:Addr} {h':Heap},(∃ o,s.heap.get? a=some o∧H a=none)→Heap.SameBut a s.heap h'→HOk X.prog X.w H h':=fun {a h'} ha hs b ob e=>by
  obtain ⟨_,_,hfree⟩:=ha
  refine (I.hok b ob e).stay (fun c w' hc q=>(hs.2 c ?_).trans q) (fun _ q=>q) fun _ _ q=>q
  rintro rfl
  rcases hc with rfl | hc
  · rw [hfree] at e; cases e
  · rw [hfree] at hc; cases hc
 rcases hx with hk | hk
 · refine wpAny_storeName_local hk hn (fun h' hn' hs=>?_) hcls
   obtain ⟨oL,_,_,hoL,_⟩:=id hn
   refine h _ ⟨I.ok,I.os,I.bare,⟨fun b o e n hb hx=>?_,fun b o e n hb hx=>?_,I.base.free,fun b o e hx=>?_,I.base.tups,I.base.frzs,I.base.tbls⟩,⟨_,hn',fun j y v' e1 e2 e3=>?_⟩,fun y c e=>?_,I.free,I.freeC,fun p hp=>?_,tracked ⟨oL,hoL,I.free⟩ hs,by simpa using I.len⟩ ⟨_,hs,.inl rfl⟩
   · exact (hs.2 b (Nat.ne_of_lt (Nat.lt_of_lt_of_le (Heap.lt_size e) I.ok.above))).trans (I.base.keep b o e n hb hx)
   · obtain ⟨sl,e1⟩:=I.base.slot b o e n hb hx
     exact ⟨sl,(hs.2 b (Nat.ne_of_lt (Nat.lt_of_lt_of_le (Heap.lt_size e) I.ok.above))).trans e1⟩
   · obtain ⟨o',e1⟩:=I.base.there b o e hx
     exact ⟨o',(hs.2 b (Nat.ne_of_lt (Nat.lt_of_lt_of_le (Heap.lt_size e) I.ok.above))).trans e1⟩
   · by_cases hj:j=i
     · subst hj
       rw [hi] at e1; cases e1
       rw [List.getElem?_set_self hiσ] at e2
       cases e2
       exact ⟨u,r,.inl ⟨hk,by simp⟩⟩
     · rw [List.getElem?_set_ne (Ne.symm hj)] at e2
       obtain ⟨u',r',q⟩:=hl j y v' e1 e2 e3
       refine ⟨u',r',?_⟩
       rcases q with ⟨k,e⟩ | ⟨k,c,e,z⟩
       · refine .inl ⟨k,?_⟩
         have:y≠x:=fun e=>hj (kg hN e1 (e ▸ hi))
         simp [this,e]
       · exact .inr ⟨k,c,e,z.sameBut hs (cne y c e)⟩
   · obtain ⟨w',z⟩:=I.cell y c e
     exact ⟨w',z.sameBut hs (cne y c e)⟩
   · obtain ⟨e,n,ne,nf,d⟩:=I.pin p hp
     exact ⟨(hs.2 p.1 ne).trans e,n,ne,nf,d⟩
 · have hfn:X.fn x=true:=by
    rcases hf with z | z
    · exact z
    · rw [z] at hk; cases hk
   obtain ⟨c,hc⟩:=I.ok.has x (.inl hk)
   obtain ⟨w',z⟩:=I.cell x c hc
   refine wpAny_storeName_cell I.ok.kind hk hc z (fun h' hc' hs=>?_)
   obtain ⟨oc,hoc,hocd⟩:=id z
   refine h { s with heap:=h' } ⟨I.ok,I.os,I.bare,⟨fun b o e n hb hx=>?_,fun b o e n hb hx=>?_,I.base.free,fun b o e hx=>?_,I.base.tups,I.base.frzs,I.base.tbls⟩,⟨m,hn.sameBut hs (Ne.symm (cne x c hc)),fun j y v' e1 e2 e3=>?_⟩,fun y c' e=>?_,I.free,I.freeC,fun p hp=>?_,tracked ⟨oc,hoc,I.freeC x c hc⟩ hs,by simpa using I.len⟩ ⟨c,hs,.inr hc⟩
   · exact (hs.2 b (Nat.ne_of_lt (Nat.lt_of_lt_of_le (Heap.lt_size e) (I.ok.cab x c hfn hc)))).trans (I.base.keep b o e n hb hx)
   · obtain ⟨sl,e1⟩:=I.base.slot b o e n hb hx
     exact ⟨sl,(hs.2 b (Nat.ne_of_lt (Nat.lt_of_lt_of_le (Heap.lt_size e) (I.ok.cab x c hfn hc)))).trans e1⟩
   · obtain ⟨o',e1⟩:=I.base.there b o e hx
     exact ⟨o',(hs.2 b (Nat.ne_of_lt (Nat.lt_of_lt_of_le (Heap.lt_size e) (I.ok.cab x c hfn hc)))).trans e1⟩
   · by_cases hj:j=i
     · subst hj
       rw [hi] at e1; cases e1
       rw [List.getElem?_set_self hiσ] at e2
       cases e2
       exact ⟨u,r,.inr ⟨.inl hk,c,hc,hc'⟩⟩
     · rw [List.getElem?_set_ne (Ne.symm hj)] at e2
       obtain ⟨u',r',q⟩:=hl j y v' e1 e2 e3
       refine ⟨u',r',?_⟩
       rcases q with q | ⟨k,c',e,z'⟩
       · exact .inl q
       · refine .inr ⟨k,c',e,z'.sameBut hs ?_⟩
         rintro rfl
         exact hj (kg hN e1 (I.ok.inj _ _ _ e hc ▸ hi))
   · by_cases hcc:c'=c
     · subst hcc; exact ⟨_,hc'⟩
     · obtain ⟨w2,z2⟩:=I.cell y c' e
       exact ⟨w2,z2.sameBut hs hcc⟩
   · obtain ⟨e,n,ne,nf,d⟩:=I.pin p hp
     refine ⟨(hs.2 p.1 ?_).trans e,n,ne,nf,d⟩
     intro q
     rw [q,hoc] at e
     have q':oc=p.2:=Option.some.inj e
     exact d w' (by rw [← q']; exact hocd)
theorem kh {M:Model} {A:Around} {E:Value→Shared→Prop} {i:Nat} {x:Str} {v:V} {u:Value} {Q:Unit→Shared→Prop} (I:Inv X pins σ H s) (hN:X.N.Nodup) (hi:X.N[i]? =some x) (hx:Loc X.env.scope x) (r:RelV v u)
  (h:∀ s',Inv X pins (σ.set i (some v)) H s'→Q () s') (hf:X.fn x=true∨X.env.scope.names.lookup x=some .local:=by first | exact .inl rfl | exact .inr rfl | assumption):wpAny M A (storeName X.env x u) Q E s:=
 mR I hN hi hx r (fun s' I' _=>h s' I') hf
theorem Inv.call' {s':Shared} {ch:List Addr} (I:Inv X pins σ H s) (ho:s'.os=s.os) (u:Un (frs X.stack) ch H H' s.heap s'.heap) (hok:HOk X.prog X.w H' s'.heap) (hg:AllBare s'.gens)
  (hch:∀ b∈ch,(b∈X.ex∨X.s₀.heap.objs.size≤b)∧b≠X.env.locals∧(∀ x c,X.env.cells.lookup x=some c→c≠b)∧∀ p∈X.pn++pins,p.1≠b):Inv X pins σ H' s':=by
 obtain ⟨h',g',d',t',o'⟩:=s'
 have e:o'=s.os:=ho
 subst e
 exact I.call (g':=g') (t':=t') (d':=d') u hok hg hch
end
abbrev XK:=Value→Option Addr→Hp→Prop
abbrev St:=List (Option V)
abbrev VK:=V→Hp→Prop
abbrev TE:=St→Hp→VK→Prop
abbrev TT:=St→Hp→(Bool→Hp→Prop)→Prop
abbrev TA:=St→Hp→(List V→Hp→Prop)→Prop
structure Ends where
 nx:St→Hp→Prop
 rt:VK
 bk:St→Hp→Prop:=fun _ _=>False
 ct:St→Hp→Prop:=fun _ _=>False
abbrev TS:=Ends→St→Hp→Prop
def EP (X:Cx) (pins:List (Addr × Obj)) (σ:St) (Q:VK) (u:Value) (s':Shared):Prop:=∃ v H',Inv X pins σ H' s'∧RelV v u∧Q v H'
def TP (X:Cx) (pins:List (Addr × Obj)) (σ:St) (Q:Bool→Hp→Prop) (b:Bool) (s':Shared):Prop:=∃ H',Inv X pins σ H' s'∧Q b H'
def AP (X:Cx) (pins:List (Addr × Obj)) (σ:St) (Q:List V→Hp→Prop) (us:List Value) (s':Shared):Prop:=∃ vs H',Inv X pins σ H' s'∧Vals vs us∧Q vs H'
def SP (X:Cx) (pins:List (Addr × Obj)) (D:Ends) (f:Flow) (s':Shared):Prop:=
 match f with
 | .next=>∃ σ' H',Inv X pins σ' H' s'∧D.nx σ' H'
 | .brk=>∃ σ' H',Inv X pins σ' H' s'∧D.bk σ' H'
 | .cont=>∃ σ' H',Inv X pins σ' H' s'∧D.ct σ' H'
 | .ret u=>∃ v σ' H',Inv X pins σ' H' s'∧RelV v u∧D.rt v H'
def PE (X:Cx) (e:Expr) (t:TE):Prop:=
 ∀ (pins:List (Addr × Obj)) (s:Shared) (σ:St) (H:Hp) (Q:VK),Inv X pins σ H s→t σ H Q→wpAny (model X.prog X.w) X.A (eval e X.env) (EP X pins σ Q) X.xe s
def PT (X:Cx) (e:Expr) (t:TT):Prop:=
 ∀ (pins:List (Addr × Obj)) (s:Shared) (σ:St) (H:Hp) (Q:Bool→Hp→Prop),Inv X pins σ H s→t σ H Q→wpAny (model X.prog X.w) X.A (isTrue e X.env (eval e X.env)) (TP X pins σ Q) X.xe s
def PW (X:Cx) (e:Expr) (t:TT):Prop:=
 ∀ (whole:Sem Value) (pins:List (Addr × Obj)) (s:Shared) (σ:St) (H:Hp) (Q:Bool→Hp→Prop),Inv X pins σ H s→t σ H Q→wpAny (model X.prog X.w) X.A (isTrue e X.env whole) (TP X pins σ Q) X.xe s
theorem PW.pt {X:Cx} {e:Expr} {t:TT} (h:PW X e t):PT X e t:=h _
def PA (X:Cx) (es:List Expr) (t:TA):Prop:=
 ∀ (pos:Pos) (pins:List (Addr × Obj)) (s:Shared) (σ:St) (H:Hp) (Q:List V→Hp→Prop),Inv X pins σ H s→t σ H Q→wpAny (model X.prog X.w) X.A (spliced (backTo pos (starEach es X.env))) (AP X pins σ Q) X.xe s
def PS (X:Cx) (st:Stmt) (t:TS):Prop:=
 ∀ (pins:List (Addr × Obj)) (s:Shared) (σ:St) (H:Hp) (D:Ends),Inv X pins σ H s→t D σ H→wpAny (model X.prog X.w) X.A (exec st X.env) (SP X pins D) X.xe s
def PSs (X:Cx) (st:List Stmt) (t:TS):Prop:=
 ∀ (pins:List (Addr × Obj)) (s:Shared) (σ:St) (H:Hp) (D:Ends),Inv X pins σ H s→t D σ H→wpAny (model X.prog X.w) X.A (execs st X.env) (SP X pins D) X.xe s
theorem thn {α:Type} {t:Sem α} {Q Q':α→Shared→Prop} {M:Model} {A:Around} {E:Value→Shared→Prop} {s:Shared} (h:wpAny M A t Q E s) (hQ:∀ a s,Q a s→Q' a s):wpAny M A t Q' E s:=wpAny_mono h hQ fun _ _ x=>x
end L2
namespace L2
open PySem PySem.Spec PyProof.Rows
section
variable {X:Cx}
def tVar (i:Nat):TE:=fun σ H Q=>∃ v,σ[i]? =some (some v)∧Q v H
def tC (v:V):TE:=fun _ H Q=>Q v H
theorem um {i:Nat} {x:Str} {pos:Pos} (hN:X.N[i]? =some x) (hv:Vis X.env.scope x) (hd:(x==("__debug__":Str))=false:=by decide) (hcd:(x==("__classdict__":Str))=false:=by decide):PE X (.Name x pos) (tVar i):=by
 intro pins s σ H Q I h
 obtain ⟨v,e,h⟩:=h
 obtain ⟨m,hn,hl⟩:=I.loc
 obtain ⟨u,r,l⟩:=hl i x v hN e hv
 have fin:EP X pins σ Q u s:=⟨v,H,I,r,h⟩
 rcases l with ⟨hk,hm⟩ | ⟨hk,c,hc,hcell⟩
 · exact wpAny_Name (wpAny_loadName_local I.ok.kind hk hn hm fin) hd
 · rcases hk with hk | hk
   · exact wpAny_Name (wpAny_loadName_cell I.ok.kind hk hc hcell fin) hd
   · exact wpAny_Name (wpAny_loadName_free I.ok.kind hk hc hcell fin hcd) hd
theorem af {i j pos}:PE X (.Constant (.int i) j pos) (tC (.int i)):=fun _ _ _ H _ I h=>wpAny_Constant_int ⟨.int i,H,I.tok _,⟨_,rfl⟩,h⟩
theorem bF {b j pos}:PE X (.Constant (.bool b) j pos) (tC (.bl b)):=fun _ _ _ H _ I h=>Constant_bool ⟨.bl b,H,I,rfl,h⟩
theorem gO {j pos}:PE X (.Constant .none j pos) (tC .non):=fun _ _ _ H _ I h=>Constant_none ⟨.non,H,I,rfl,h⟩
theorem au {x j pos}:PE X (.Constant (.str x) j pos) (tC (.str x)):=fun _ _ _ H _ I h=>Calls.Constant_str ⟨.str x,H,I.tok _,⟨_,rfl⟩,h⟩
def Gl (X:Cx) (x:Str):Prop:=X.env.kindOf x=some .globalImplicit
theorem fS {E:Value→Shared→Prop} {pins:List (Addr × Obj)} {s:Shared} {σ:St} {H:Hp} {x:Str} {u:Value} {pos:Pos} {Q:Value→Shared→Prop} (I:Inv X pins σ H s) (hg:Gl X x) (hm:X.mg x=some u) (h:Q u s)
  (hd:(x==("__debug__":Str))=false:=by decide):wpAny (model X.prog X.w) X.A (eval (.Name x pos) X.env) Q E s:=
 Calls.Name_function_global I.ok.kind hg (Calls.loadGlobal_global (by rw [I.ok.glob]; exact I.mod.glob.keeps I.bk) hm h) hd
theorem dr {E:Value→Shared→Prop} {pins:List (Addr × Obj)} {s:Shared} {σ:St} {H:Hp} {x:Str} {u:Value} {pos:Pos} {Q:Value→Shared→Prop} (I:Inv X pins σ H s) (hg:Gl X x) (hm:X.mg x=none) (hv:bootBuiltins x=some u) (h:Q u s)
  (hn:x≠"__name__":=by decide) (hd:(x==("__debug__":Str))=false:=by decide):wpAny (model X.prog X.w) X.A (eval (.Name x pos) X.env) Q E s:=by
 obtain ⟨mb,h1,h2⟩:=I.mod.blt
 exact Calls.Name_function_global I.ok.kind hg (Calls.loadGlobal_builtin (by rw [I.ok.glob]; exact I.mod.glob.keeps I.bk) hm (by rw [I.ok.blt]; exact h1.keeps I.bk) ((h2 x hn).trans hv) h) hd
theorem aQ {x:Str} {v:V} {u:Value} {pos:Pos} (hg:Gl X x) (hm:X.mg x=some u) (r:RelV v u) (hd:(x==("__debug__":Str))=false:=by decide):PE X (.Name x pos) (tC v):=
 fun _ _ _ H _ I h=>fS I hg hm ⟨v,H,I,r,h⟩ hd
theorem fU {x:Str} {v:V} {u:Value} {pos:Pos} (hg:Gl X x) (hm:X.mg x=none) (hv:bootBuiltins x=some u) (r:RelV v u) (hn:x≠"__name__":=by decide) (hd:(x==("__debug__":Str))=false:=by decide):PE X (.Name x pos) (tC v):=
 fun _ _ _ H _ I h=>dr I hg hm hv ⟨v,H,I,r,h⟩ hn hd
variable {a b:Expr} {ta tb:TE} {pos:Pos}
def tB (t:TE):TT:=fun σ H Q=>t σ H fun x H1=>∃ c,x=.bl c∧Q c H1
theorem c5 {e:Expr} {t:TE} (h:PE X e t) (he:∀ whole,isTrue e X.env whole=(do let v ← whole; standAt e.pos; holding [v] (truthy v)):=by intro _; rfl):PT X e (tB t):=by
 intro pins s σ H Q I hw
 refine isTrue_plain (thn (h pins s σ H _ I hw) fun v s1 ⟨x,H1,I1,r1,q1⟩=>?_) (he _)
 obtain ⟨d,rfl,q⟩:=q1
 cases r1
 exact wpAny_truthy_bool ⟨H1,I1,q⟩
variable {tA tB':TT} {rest:List Expr}
def tAnd (t u:TT):TT:=fun σ H Q=>t σ H fun c H1=>if c=true then u σ H1 Q else Q false H1
def tOr (t u:TT):TT:=fun σ H Q=>t σ H fun c H1=>if c=true then Q true H1 else u σ H1 Q
def tNot (t:TT):TT:=fun σ H Q=>t σ H fun c H1=>Q (!c) H1
theorem pM (ha:PT X a tA):PW X (.BoolOp .And [a] pos) tA:=by
 intro wh pins s σ H Q I h
 refine isTrue_and (thn (ha pins s σ H Q I h) fun c s1 e=>?_)
 cases c with
 | true=>exact isTrue_and_nil e
 | false=>exact e
theorem iK (ha:PT X a tA):PW X (.BoolOp .Or [a] pos) tA:=by
 intro wh pins s σ H Q I h
 refine isTrue_or (thn (ha pins s σ H Q I h) fun c s1 e=>?_)
 cases c with
 | false=>exact isTrue_or_nil e
 | true=>exact e
theorem qS (ha:PT X a tA) (hb:PW X (.BoolOp .And (b::rest) pos) tB'):PW X (.BoolOp .And (a::b::rest) pos) (tAnd tA tB'):=by
 intro wh pins s σ H Q I h
 refine isTrue_and (thn (ha pins s σ H _ I h) fun c s1 ⟨H1,I1,q1⟩=>?_)
 cases c with
 | true=>exact hb wh pins s1 σ H1 Q I1 q1
 | false=>exact ⟨H1,I1,q1⟩
theorem ii (ha:PT X a tA) (hb:PW X (.BoolOp .Or (b::rest) pos) tB'):PW X (.BoolOp .Or (a::b::rest) pos) (tOr tA tB'):=by
 intro wh pins s σ H Q I h
 refine isTrue_or (thn (ha pins s σ H _ I h) fun c s1 ⟨H1,I1,q1⟩=>?_)
 cases c with
 | true=>exact ⟨H1,I1,q1⟩
 | false=>exact hb wh pins s1 σ H1 Q I1 q1
theorem dW (ha:PT X a tA):PT X (.UnaryOp .Not a pos) (tNot tA):=by
 intro pins s σ H Q I h
 exact isTrue_not (ha pins s σ H (fun c H1=>Q (!c) H1) I h)
def tAndV (ta tb:TE):TE:=fun σ H Q=>ta σ H fun x H1=>∃ c,x=.bl c∧if c=true then tb σ H1 Q else Q (.bl false) H1
def tOrV (ta tb:TE):TE:=fun σ H Q=>ta σ H fun x H1=>∃ c,x=.bl c∧if c=true then Q (.bl true) H1 else tb σ H1 Q
def tNotV (ta:TE):TE:=fun σ H Q=>ta σ H fun x H1=>∃ c,x=.bl c∧Q (.bl (!c)) H1
theorem kS {op} {t:TE} (h:PE X a t):PE X (.BoolOp op [a] pos) t:=fun pins s σ H Q I hw=>BoolOp_one (h pins s σ H Q I hw)
theorem gP (ha:PE X a ta) (hb:PE X (.BoolOp .And (b::rest) pos) tb):PE X (.BoolOp .And (a::b::rest) pos) (tAndV ta tb):=by
 intro pins s σ H Q I h
 refine BoolOp_and (thn (ha pins s σ H _ I h) fun v s1 ⟨x,H1,I1,r1,q1⟩=>?_)
 obtain ⟨c,rfl,q1⟩:=q1
 cases r1
 refine wpAny_truthy_bool ?_
 cases c with
 | true=>exact hb pins s1 σ H1 Q I1 q1
 | false=>exact ⟨.bl false,H1,I1,rfl,q1⟩
theorem uo (ha:PE X a ta):PE X (.UnaryOp .Not a pos) (tNotV ta):=by
 intro pins s σ H Q I h
 refine UnaryOp_ (thn (ha pins s σ H _ I h) fun v s1 ⟨x,H1,I1,r1,q1⟩=>?_)
 obtain ⟨c,rfl,q1⟩:=q1
 cases r1
 exact not_of (wpAny_truthy_bool ⟨.bl (!c),H1,I1,rfl,q1⟩)
def tIf (t:TT) (ta tb:TE):TE:=fun σ H Q=>t σ H fun c H1=>if c=true then ta σ H1 Q else tb σ H1 Q
end
end L2
namespace L2
open PySem PySem.Spec PyProof.Rows
def SqL (K:PySem.W.Frag) (H:Hp) (a:Addr) (xs:List V):Prop:=
 Rd H a (.lst xs)∨
  ∃ (o:Obj) (its:Array Value) (n:Nat),K.lookup a=some o∧o.cls=.type "list"∧o.dict=none∧o.data=.seq its n∧its.size≤sizeLine∧Vals xs its.toList
def SqT (K:PySem.W.Frag) (H:Hp) (a:Addr) (xs:List V):Prop:=
 Rd H a (.tup xs)∨
  ∃ (o:Obj) (its:Array Value) (n:Nat),K.lookup a=some o∧o.cls=.type "tuple"∧o.data=.seq its n∧its.size≤sizeLine∧Vals xs its.toList
def absV:Value→Option V
 | .none=>some .non
 | .bool b=>some (.bl b)
 | .int i _=>some (.int i)
 | .str x _=>some (.str x)
 | .bytes b _=>some (.byt b)
 | .float b _=>some (.flt b)
 | .ref a=>some (.ref a)
 | .type n=>some (.ty n)
 | _=>none
theorem RelV.abs {x:V} {u:Value} (r:RelV x u):absV u=some x:=by
 cases x with
 | non=>cases r; rfl
 | bl _=>cases r; rfl
 | int _=>obtain ⟨t,rfl⟩:=r; rfl
 | str _=>obtain ⟨t,rfl⟩:=r; rfl
 | byt _=>obtain ⟨t,rfl⟩:=r; rfl
 | flt _=>obtain ⟨t,rfl⟩:=r; rfl
 | ref _=>cases r; rfl
 | ty _=>cases r; rfl
theorem RelV.inj {x y:V} {u:Value} (r:RelV x u) (q:RelV y u):x=y:=Option.some.inj (r.abs.symm.trans q.abs)
theorem Vals.inj:∀ {xs ys:List V} {us:List Value},Vals xs us→Vals ys us→xs=ys
 | _,_,_,.nil,.nil=>rfl
 | _,_,_,.cons r t,.cons r' t'=>by rw [r.inj r',Vals.inj t t']
section
variable {X:Cx} {pins:List (Addr × Obj)} {σ:St} {H:Hp} {s:Shared} {a:Addr} {xs ys:List V}
theorem SqL.of {K:PySem.W.Frag} (h:H a=some (.lst xs)):SqL K H a xs:=.inl (.inl h)
theorem SqT.of {K:PySem.W.Frag} (h:H a=some (.tup xs)):SqT K H a xs:=.inl (.inl h)
theorem Inv.list (I:Inv X pins σ H s) (h:SqL X.K H a xs):∃ its:List Value,Vals xs its∧PlainL s.heap a its.toArray∧xs.length≤sizeLine:=by
 rcases h with h | ⟨o,its,n,hk,hc,hd,hs,hz,r⟩
 · obtain ⟨z,its,n,r,e⟩:=h.ok I.hok
   exact ⟨its,r,⟨_,n,e,rfl,rfl,rfl⟩,z⟩
 · refine ⟨its.toList,r,⟨o,n,I.kIn a o hk,hc,hd,by simpa using hs⟩,?_⟩
   have e:=r.length
   simp only [Array.length_toList] at e
   omega
theorem Inv.tuple (I:Inv X pins σ H s) (h:SqT X.K H a xs):∃ its:List Value,Vals xs its∧IsTup s.heap a its.toArray∧xs.length≤sizeLine:=by
 rcases h with h | ⟨o,its,n,hk,hc,hs,hz,r⟩
 · obtain ⟨z,its,r,p⟩:=h.ok I.hok
   exact ⟨its,r,p,z⟩
 · refine ⟨its.toList,r,⟨o,I.kIn a o hk,hc,n,by simpa using hs⟩,?_⟩
   have e:=r.length
   simp only [Array.length_toList] at e
   omega
theorem Inv.list_inj (I:Inv X pins σ H s) (h:SqL X.K H a xs) (h':SqL X.K H a ys):xs=ys:=by
 obtain ⟨its,r,⟨o,n,e,_,_,d⟩,_⟩:=I.list h
 obtain ⟨its',r',⟨o',n',e',_,_,d'⟩,_⟩:=I.list h'
 rw [e] at e'; cases e'
 rw [d] at d'
 injection d' with d1 _
 have:its=its':=by simpa using congrArg Array.toList d1
 subst this
 exact r.inj r'
end
abbrev Cx.wish (X:Cx) (E:Value→Shared→Prop):Cx:={ X with xe:=E }
abbrev Cx.nox (X:Cx):Cx:=X.wish fun _ _=>False
theorem Cx.Ok.wish {X:Cx} (ok:X.Ok) (E:Value→Shared→Prop):(X.wish E).Ok:=
 ⟨ok.mod,ok.kind,ok.glob,ok.blt,ok.above,ok.inj,ok.has,ok.cab,ok.hd,ok.frames,ok.stk,ok.exf,ok.bs,ok.bsz,ok.noex,ok.exfs,ok.funs,ok.frf⟩
theorem Cx.Ok.unwish {X:Cx} {E:Value→Shared→Prop} (ok:(X.wish E).Ok):X.Ok:=
 ⟨ok.mod,ok.kind,ok.glob,ok.blt,ok.above,ok.inj,ok.has,ok.cab,ok.hd,ok.frames,ok.stk,ok.exf,ok.bs,ok.bsz,ok.noex,ok.exfs,ok.funs,ok.frf⟩
section
variable {X:Cx} {pins:List (Addr × Obj)} {σ:St} {H:Hp} {s:Shared} {E:Value→Shared→Prop}
theorem Inv.wish (I:Inv X pins σ H s) (E:Value→Shared→Prop):Inv (X.wish E) pins σ H s:=⟨I.ok.wish E,I.os,I.bare,I.base,I.loc,I.cell,I.free,I.freeC,I.pin,I.hok,I.len⟩
theorem Inv.unwish (I:Inv (X.wish E) pins σ H s):Inv X pins σ H s:=⟨I.ok.unwish,I.os,I.bare,I.base,I.loc,I.cell,I.free,I.freeC,I.pin,I.hok,I.len⟩
theorem SP.unwish {D:Ends} {f:Flow} {s':Shared} (h:SP (X.wish E) pins D f s'):SP X pins D f s':=by
 cases f with
 | next=>obtain ⟨σ',H',I,q⟩:=h; exact ⟨σ',H',I.unwish,q⟩
 | brk=>obtain ⟨σ',H',I,q⟩:=h; exact ⟨σ',H',I.unwish,q⟩
 | cont=>obtain ⟨σ',H',I,q⟩:=h; exact ⟨σ',H',I.unwish,q⟩
 | ret u=>obtain ⟨v,σ',H',I,r,q⟩:=h; exact ⟨v,σ',H',I.unwish,r,q⟩
theorem PSs.nox {st:List Stmt} {t:TS} (h:PSs X.nox st t):PSs X st t:=fun pins s σ H D I hw=>
 wpAny_mono (h pins s σ H D (I.wish _) hw) (fun _ _ q=>q.unwish) fun _ _ z=>False.elim z
end
section
variable {X:Cx} {st:Stmt} {rest:List Stmt} {t u:TS} {e:Expr} {te:TE} {pos:Pos}
def tNext:TS:=fun D σ H=>D.nx σ H
def tSeq (t u:TS):TS:=fun D σ H=>t { D with nx:=u D } σ H
theorem ao:PSs X [] tNext:=fun _ _ σ H _ I h=>wpAny_execs_nil ⟨σ,H,I,h⟩
theorem ae (h1:PS X st t) (h2:PSs X rest u):PSs X (st::rest) (tSeq t u):=by
 intro pins s σ H D I h
 refine wpAny_execs_cons (thn (h1 pins s σ H { D with nx:=u D } I h) fun f s1 q=>?_)
 cases f with
 | next=>
  obtain ⟨σ',H',I',q⟩:=q
  exact h2 pins s1 σ' H' D I' q
 | ret v=>exact q
 | brk=>exact q
 | cont=>exact q
theorem ag (h1:PS X st t):PSs X [st] t:=by
 intro pins s σ H D I h
 refine wpAny_execs_cons (thn (h1 pins s σ H D I h) fun f s1 q=>?_)
 cases f with
 | next=>exact wpAny_execs_nil q
 | ret v=>exact q
 | brk=>exact q
 | cont=>exact q
theorem Inv.quiet {pins:List (Addr × Obj)} {σ:St} {H:Hp} {s:Shared} (I:Inv X pins σ H s):interactive X.env=false:=by simp [interactive,I.ok.kind]
def tDrop (te:TE):TS:=fun D σ H=>te σ H fun _ H1=>D.nx σ H1
theorem pN (he:PE X e te) (hs:swapsWith e none pos.line X.env=pure false:=by rfl):PS X (.Expr e pos) (tDrop te):=by
 intro pins s σ H D I h
 exact wpAny_Expr_any (thn (he pins s σ H _ I h) fun v s1 ⟨x,H1,I1,r1,q1⟩=>⟨σ,H1,I1,q1⟩) I.quiet hs
def tRet (te:TE):TS:=fun D σ H=>te σ H D.rt
theorem aq (he:PE X e te):PS X (.Return (some e) pos) (tRet te):=by
 intro pins s σ H D I h
 exact wpAny_Return_some (thn (he pins s σ H _ I h) fun v s1 ⟨x,H1,I1,r1,q1⟩=>⟨x,σ,H1,I1,r1,q1⟩)
def tRetN:TS:=fun D _ H=>D.rt .non H
def tIfS (c:TT) (t u:TS):TS:=fun D σ H=>c σ H fun b H1=>if b=true then t D σ H1 else u D σ H1
theorem aA {c:Expr} {a b:List Stmt} {tc:TT} (hc:PT X c tc) (ha:PSs X a t) (hb:PSs X b u):PS X (.If c a b pos) (tIfS tc t u):=by
 intro pins s σ H D I h
 refine wpAny_If (thn (hc pins s σ H _ I h) fun d s1 ⟨H1,I1,q1⟩=>?_)
 cases d with
 | true=>exact ha pins s1 σ H1 D I1 q1
 | false=>exact hb pins s1 σ H1 D I1 q1
end
abbrev TG:=V→St→Hp→(St→Hp→Prop)→Prop
abbrev TGs:=List V→St→Hp→(St→Hp→Prop)→Prop
def PG (X:Cx) (target:Expr) (t:TG):Prop:=
 ∀ (pins:List (Addr × Obj)) (s:Shared) (σ:St) (H:Hp) (v:V) (u:Value) (Q:St→Hp→Prop),Inv X pins σ H s→RelV v u→t v σ H Q→
  wpAny (model X.prog X.w) X.A (assign target X.env u) (fun _ s'=>∃ σ' H',Inv X pins σ' H' s'∧Q σ' H') X.xe s
def PGs (X:Cx) (ts:List Expr) (t:TGs):Prop:=
 ∀ (pins:List (Addr × Obj)) (s:Shared) (σ:St) (H:Hp) (vs:List V) (us:List Value) (Q:St→Hp→Prop),Inv X pins σ H s→Vals vs us→t vs σ H Q→
  wpAny (model X.prog X.w) X.A (assignInOrder ((assignEach ts X.env).map (·.2)) us) (fun _ s'=>∃ σ' H',Inv X pins σ' H' s'∧Q σ' H') X.xe s
abbrev TSet:=V→V→V→Hp→(Hp→Prop)→Prop
section
variable {X:Cx} {pos:Pos}
def gName (i:Nat):TG:=fun v σ H Q=>Q (σ.set i (some v)) H
theorem aW {i:Nat} {x:Str} (hN:X.N.Nodup) (hi:X.N[i]? =some x) (hx:Loc X.env.scope x) (hf:X.fn x=true∨X.env.scope.names.lookup x=some .local:=by first | exact .inl rfl | exact .inr rfl | assumption):PG X (.Name x pos) (gName i):=by
 intro pins s σ H v u Q I r h
 exact wpAny_assign_Name (kh I hN hi hx r (fun s' I'=>⟨_,H,I',h⟩) hf)
def gNil:TGs:=fun vs σ H Q=>vs=[]∧Q σ H
def gCons (t:TG) (u:TGs):TGs:=fun vs σ H Q=>∃ v r,vs=v::r∧t v σ H fun σ' H'=>u r σ' H' Q
theorem tq:PGs X [] gNil:=by
 intro pins s σ H vs us Q I r h
 obtain ⟨e,h⟩:=h
 subst e
 cases r
 exact assignInOrder_nil ⟨σ,H,I,h⟩
theorem og {e:Expr} {es:List Expr} {t:TG} {u:TGs} (h1:PG X e t) (h2:PGs X es u)
  (hs:(assignEach (e::es) X.env).map (·.2)=assign e X.env::(assignEach es X.env).map (·.2):=by rfl):PGs X (e::es) (gCons t u):=by
 intro pins s σ H vs us Q I r h
 obtain ⟨v,vr,e1,h⟩:=h
 subst e1
 cases r with
 | cons r rr=>
  rw [hs]
  refine assignInOrder_cons (thn (h1 pins s σ H _ _ _ I r h) fun _ s1 ⟨σ1,H1,I1,q1⟩=>?_)
  exact h2 pins s1 σ1 H1 _ _ Q I1 rr q1
def gTup (K:PySem.W.Frag) (n:Nat) (t:TGs):TG:=fun v σ H Q=>∃ a xs,v=.ref a∧SqT K H a xs∧xs.length=n∧t xs σ H Q
theorem uq {es:List Expr} {k:Nat} {t:TGs} {n:Nat} (hc:X.calm=true) (h:PGs X es t)
  (hn:(assignEach es X.env).length=n:=by rfl) (hst:(assignEach es X.env).findIdx? (·.1)=none:=by rfl):PG X (.Tuple es k pos) (gTup X.K n t):=by
 intro pins s σ H v u Q I r hw
 obtain ⟨a,xs,e1,hq,hl,hw⟩:=hw
 subst e1
 cases r
 obtain ⟨its,rv,ht,hz⟩:=I.tuple hq
 refine assign_Tuple_tuple (I.ok.hd hc) ht (by simp [hn,← hl,rv.length]) hst fun h' hx=>?_
 have I1:Inv X pins σ H { s with heap:=h' }:=I.kept (t':=s.toks) fun b o e=>hx b o (Nat.ne_of_lt (Heap.lt_size e)) e
 exact h pins _ σ H xs _ Q I1 (by simpa using rv) hw
def gSub (to ti:TE) (t:TSet):TG:=fun v σ H Q=>to σ H fun o H1=>ti σ H1 fun i H2=>t o i v H2 fun H3=>Q σ H3
def tAsg (te:TE) (g:TG):TS:=fun D σ H=>te σ H fun x H1=>g x σ H1 D.nx
theorem al {i:Nat} {x:Str} {e:Expr} {te:TE} {pos':Pos} (hN:X.N.Nodup) (hi:X.N[i]? =some x) (hx:Loc X.env.scope x) (he:PE X e te) (hs:swapsWith e (some (.Name x pos')) pos.line X.env=pure false:=by rfl) (hf:X.fn x=true∨X.env.scope.names.lookup x=some .local:=by first | exact .inl rfl | exact .inr rfl | assumption):
  PS X (.Assign [.Name x pos'] e pos) (tAsg te (gName i)):=by
 intro pins s σ H D I h
 refine wpAny_Assign_Name (thn (he pins s σ H _ I h) fun v s1 ⟨y,H1,I1,r1,q1⟩=>?_) hs
 exact kh I1 hN hi hx r1 (fun s2 I2=>⟨_,H1,I2,q1⟩) hf
end
structure It where
 go:Nat→Hp→Prop
 yld:Nat→Hp→V→Hp→Prop
 stop:Nat→Hp→Prop
def FpOk (X:Cx) (pins:List (Addr × Obj)) (H:Hp) (b:Addr):Prop:=
 H b=none∧b≠X.env.locals∧b∉X.fs∧(b∈X.ex∨X.s₀.heap.objs.size≤b)∧(∀ x c,X.env.cells.lookup x=some c→c≠b)∧∀ p∈X.pn++pins,p.1≠b
theorem Inv.fpOk {X:Cx} {pins:List (Addr × Obj)} {σ:St} {H H':Hp} {s:Shared} {b:Addr} (I:Inv X pins σ H s) (hb:s.heap.objs.size≤b) (hn:H' b=none):FpOk X pins H' b:=by
 refine ⟨hn,Nat.ne_of_gt (Nat.lt_of_lt_of_le I.lt hb),I.nofs hb,.inr (Nat.le_trans I.sz hb),fun x c e z=>?_,fun p hp z=>?_⟩
 · obtain ⟨v,q⟩:=I.cell x c e
   exact absurd (Nat.lt_of_lt_of_le q.lt (by rw [z]; exact hb)) (Nat.lt_irrefl _)
 · exact absurd (Nat.lt_of_lt_of_le (Heap.lt_size (I.pin p hp).1) (by rw [z]; exact hb)) (Nat.lt_irrefl _)
structure Turn (P:Program) (w:World) (K:PySem.W.Frag) (tg:Expr) (J:It) (fp:List Addr) (it:Addr) (tn:Nat→Heap→Prop):Prop where
 mem:it∈fp
 obj:∀ i h,tn i h→∀ b∈fp,∃ o,h.get? b=some o∧∀ v,o.data≠.cell v
 keep:∀ i h h',tn i h→(∀ b∈fp,∀ o,h.get? b=some o→h'.get? b=some o)→tn i h'
 item:∀ (X:Cx),X.prog=P→X.w=w→X.K=K→X.calm=true→∀ (i:Nat) (pins:List (Addr × Obj)) (s:Shared) (σ:St) (H:Hp) (E:Value→Shared→Prop),Inv X pins σ H s→(∀ b∈fp,FpOk X pins H b)→tn i s.heap→J.go i H→
  wpAny (model P w) X.A (pyNext (.ref it)) (fun r s1=>∃ u,r=some u∧
   wpAny (model P w) X.A (letOwnedTupleGo tg (.ref it) u) (fun _ s2=>∃ x H',Inv X pins σ H' s2∧RelV x u∧J.yld i H x H'∧tn (i+1) s2.heap∧∀ b∈fp,H' b=none) E s1) E s
 done:∀ (X:Cx),X.prog=P→X.w=w→X.K=K→X.calm=true→∀ (i:Nat) (pins:List (Addr × Obj)) (s:Shared) (σ:St) (H:Hp) (E:Value→Shared→Prop),Inv X pins σ H s→(∀ b∈fp,FpOk X pins H b)→tn i s.heap→J.stop i H→
  wpAny (model P w) X.A (pyNext (.ref it)) (fun r s1=>r=none∧Inv X pins σ H s1) E s
 self:∀ (A:Around) (i:Nat) (s:Shared) (Q:Value→Shared→Prop) (E:Value→Shared→Prop),tn i s.heap→Q (.ref it) s→wpAny (model P w) A (pyIter (.ref it)) Q E s
abbrev TI:=St→Hp→(It→Hp→Prop)→Prop
def PIE (X:Cx) (pins:List (Addr × Obj)) (σ:St) (tg:Expr) (R:It→Hp→Prop) (itv:Value) (s2:Shared):Prop:=
 ∃ (it:Addr) (fp:List Addr) (tn:Nat→Heap→Prop) (J:It) (H':Hp),itv=.ref it∧Inv X pins σ H' s2∧Turn X.prog X.w X.K tg J fp it tn∧tn 0 s2.heap∧(∀ b∈fp,FpOk X pins H' b)∧R J H'
def PI (X:Cx) (tg iter:Expr) (wi:TI):Prop:=
 ∀ (pins:List (Addr × Obj)) (s:Shared) (σ:St) (H:Hp) (R:It→Hp→Prop),Inv X pins σ H s→wi σ H R→
  wpAny (model X.prog X.w) X.A (eval iter X.env) (fun v s1=>wpAny (model X.prog X.w) X.A (pyIter v) (PIE X pins σ tg R) X.xe s1) X.xe s
theorem p7 {M:Model} {A:Around} {E:Value→Shared→Prop} {s:Shared} {tg:Expr} {it:Addr} {u:Value} {o:Obj} {n:String} {vs:Array Value} {Q:Unit→Shared→Prop} (ho:s.heap.get? it=some o) (hc:o.cls=.type n) (hd:o.data=.fields vs)
  (hn:["enumerate","zip","dict_itemiterator","dict_reverseitemiterator","odict_iterator","itertools.zip_longest","itertools.pairwise"].contains n=false) (hQ:Q () s):wpAny M A (letOwnedTupleGo tg (.ref it) u) Q E s:=by
 unfold letOwnedTupleGo
 cases tg <;> first
  | exact wpAny_pure hQ
  | (cases u <;> first
    | exact wpAny_pure hQ
    | (refine wpAny_bind (wpAny_load ho ?_)
       rw [hc,hd]
       show wpAny M A (if (["enumerate","zip","dict_itemiterator","dict_reverseitemiterator","odict_iterator","itertools.zip_longest","itertools.pairwise"].contains n&&vs[0]? ==some (rawInt _))=true then _ else _) Q E s
       rw [if_neg (by intro h; rw [hn,Bool.false_and] at h; cases h)]
       exact wpAny_pure hQ))
def Itl (K:PySem.W.Frag) (a:Addr):It:=
 ⟨fun i H=>∃ xs x,SqL K H a xs∧xs[i]? =some x,fun i H x H'=>H'=H∧∀ xs,SqL K H a xs→xs[i]? =some x,fun i H=>∃ xs,SqL K H a xs∧xs.length≤i⟩
def Itr (lo:Int) (n:Nat):It:=⟨fun i _=>i < n,fun i H x H'=>H'=H∧x=.int (lo+i),fun i _=>n≤i⟩
theorem qT {P:Program} {w:World} {K:PySem.W.Frag} {tg:Expr} (a it:Addr):Turn P w K tg (Itl K a) [it] it (fun i h=>h.IsListIter it a i) where
 mem:=by simp
 obj:=fun i h st b hb=>by
  have e:b=it:=by simpa using hb
  subst e
  obtain ⟨o,e,c,d⟩:=st
  exact ⟨o,e,fun v z=>by rw [d] at z; cases z⟩
 keep:=fun i h h' st k=>st.at fun o e=>k it (by simp) o e
 item:=by
  intro X hP hw hK hc i pins s σ H E I hf st hg
  subst hP hw hK
  obtain ⟨xs,x,hq,hx⟩:=hg
  obtain ⟨its,rv,p,hz⟩:=I.list hq
  obtain ⟨u,hu,ru⟩:=rv.get hx
  obtain ⟨f0,f1,f2,f3,f4,f5⟩:=hf it (by simp)
  refine wpAny_pyNext_list_item st p.isList (x:=u) (by simpa using hu) fun h' st' sb=>?_
  have I1:Inv X pins σ H { s with heap:=h' }:=I.turned (t':=s.toks) (fun b o hb e=>(sb.2 b hb).trans e) f0 f1 f3 f4 f5
  obtain ⟨o,e,c,d⟩:=id st'
  exact ⟨u,rfl,p7 (s:={ s with heap:=h' }) e c d (by decide) ⟨x,H,I1,ru,⟨rfl,fun ys hy=>by rw [I.list_inj hy hq]; exact hx⟩,st',fun b hb=>(hf b hb).1⟩⟩
 done:=by
  intro X hP hw hK hc i pins s σ H E I hf st hg
  subst hP hw hK
  obtain ⟨xs,hq,hx⟩:=hg
  obtain ⟨its,rv,p,hz⟩:=I.list hq
  obtain ⟨f0,f1,f2,f3,f4,f5⟩:=hf it (by simp)
  have hl:=rv.length
  exact wpAny_pyNext_list_end (I.ok.hd hc) st p.isList (by simp; omega) fun h' eb=>⟨rfl,I.turned (t':=s.toks) (fun b o hb e=>eb b o hb e) f0 f1 f3 f4 f5⟩
 self:=fun _ _ _ _ _ st h=>wpAny_pyIter_listiter st h
theorem p8 {P:Program} {w:World} {K:PySem.W.Frag} {tg:Expr} (it:Addr) (lo:Int) (n:Nat):Turn P w K tg (Itr lo n) [it] it (fun i h=>IsRangeIter h it (lo+(i:Nat)*1) ((n:Int) - (i:Nat)) 1) where
 mem:=by simp
 obj:=fun i h st b hb=>by
  have e:b=it:=by simpa using hb
  subst e
  exact ⟨_,st,fun v z=>by
   have z':Data.fields _=Data.cell v:=z
   cases z'⟩
 keep:=fun i h h' st k=>k it (by simp) _ st
 item:=by
  intro X hP hw hK hc i pins s σ H E I hf st hg
  subst hP hw hK
  obtain ⟨f0,f1,f2,f3,f4,f5⟩:=hf it (by simp)
  have W:=Walks.range (prog:=X.prog) (w:=X.w) (I.ok.hd hc) it lo 1 n
  refine W.item i s _ _ hg st fun v h' tk hv st' kk=>?_
  obtain ⟨t,rfl⟩:=hv
  have I1:Inv X pins σ H { s with heap:=h',toks:=tk }:=I.turned (fun b o hb e=>kk b o (by simpa using hb) e) f0 f1 f3 f4 f5
  refine ⟨_,rfl,p7 (s:={ s with heap:=h',toks:=tk }) (n:="range_iterator") st' rfl rfl (by decide) ⟨.int (lo+i),H,I1,⟨t,?_⟩,⟨rfl,rfl⟩,st',fun b hb=>(hf b hb).1⟩⟩
  rw [Int.mul_one]
 done:=by
  intro X hP hw hK hc i pins s σ H E I hf st hg
  subst hP hw hK
  obtain ⟨f0,f1,f2,f3,f4,f5⟩:=hf it (by simp)
  exact wpAny_pyNext_range_end (I.ok.hd hc) st (by have:n≤i:=hg; omega) fun h' eb=>⟨rfl,I.turned (t':=s.toks) (fun b o hb e=>eb b o hb e) f0 f1 f3 f4 f5⟩
 self:=fun _ _ _ _ _ st h=>wpAny_pyIter_rangeiter st h
end L2
namespace L2
open PySem PySem.Spec PyProof.Rows
section
variable {X:Cx} {tg:Expr}
def iList (K:PySem.W.Frag) (tl:TE):TI:=fun σ H R=>tl σ H fun x H1=>∃ a,x=.ref a∧(∃ xs,SqL K H1 a xs)∧R (Itl K a) H1
theorem cR {l:Expr} {tl:TE} (hl:PE X l tl):PI X tg l (iList X.K tl):=by
 intro pins s σ H R I h
 refine thn (hl pins s σ H _ I h) fun v s1 ⟨x,H1,I1,r1,q1⟩=>?_
 obtain ⟨a,e,⟨xs,hq⟩,q⟩:=q1
 subst e
 cases r1
 obtain ⟨its,rv,p,hz⟩:=I1.list hq
 refine wpAny_pyIter_list p.isList ?_
 refine ⟨s1.heap.objs.size,[s1.heap.objs.size],_,_,H1,rfl,I1.kept (t':=s1.toks) fun b o e=>Heap.get?_push_of_some _ e,qT a _,⟨_,Heap.get?_push_size _ rfl,rfl,rfl⟩,fun b hb=>?_,q⟩
 have e:b=s1.heap.objs.size:=by simpa using hb
 subst e
 exact I1.fpOk (Nat.le_refl _) (I1.hok.fresh (Nat.le_refl _))
theorem oh {pins:List (Addr × Obj)} {σ:St} {H:Hp} {s:Shared} {R:It→Hp→Prop} {E:Value→Shared→Prop} {lo hi:Int} {t u v:Tok} {tk:Nat} (I:Inv X pins σ H s) (h1: -(2^62)≤lo) (h2:lo < 2^62) (h3: -(2^62)≤hi) (h4:hi < 2^62)
  (q:R (Itr lo (hi - lo).toNat) H):wpAny (model X.prog X.w) X.A (pyIter (.ref s.heap.objs.size)) (PIE X pins σ tg R) E { s with heap:=s.heap.push { cls:=.type "range",data:=.fields #[.int lo t,.int hi u,.int 1 v] },toks:=tk }:=by
 refine wpAny_pyIter_range (IsRange.new ..) (small_one h1 h2 h3 h4) ?_
 have I1:Inv X pins σ H { s with heap:=s.heap.push { cls:=.type "range",data:=.fields #[.int lo t,.int hi u,.int 1 v] },toks:=tk }:=I.kept fun b o e=>Heap.get?_push_of_some _ e
 refine ⟨(s.heap.push { cls:=.type "range",data:=.fields #[.int lo t,.int hi u,.int 1 v] }).objs.size,[(s.heap.push { cls:=.type "range",data:=.fields #[.int lo t,.int hi u,.int 1 v] }).objs.size],_,_,H,rfl,
  I1.kept (t':=tk) fun b o e=>Heap.get?_push_of_some _ e,p8 _ lo (hi - lo).toNat,?_,fun b hb=>?_,q⟩
 · have e1:lo+((0:Nat):Int)*1=lo:=by simp
   have e2:(((hi - lo).toNat:Nat):Int) - ((0:Nat):Int)=Builtin.Range.rangeSize lo hi 1:=by rw [rangeSize_one]; split <;> omega
   show IsRangeIter _ _ (lo+((0:Nat):Int)*1) ((((hi - lo).toNat:Nat):Int) - ((0:Nat):Int)) 1
   rw [e1,e2]
   exact Heap.get?_push_size _ rfl
 · have e:b=(s.heap.push { cls:=.type "range",data:=.fields #[.int lo t,.int hi u,.int 1 v] }).objs.size:=by simpa using hb
   subst e
   exact I1.fpOk (Nat.le_refl _) (I1.hok.fresh (Nat.le_refl _))
def fK (ta:TA):TI:=fun σ H R=>ta σ H fun vs H1=>∃ j:Int,vs=[.int j]∧ -(2^62)≤j∧j < 2^62∧R (Itr 0 j.toNat) H1
def kT (ta:TA):TI:=fun σ H R=>ta σ H fun vs H1=>∃ i j:Int,vs=[.int i,.int j]∧(-(2^62)≤i∧i < 2^62∧ -(2^62)≤j∧j < 2^62)∧R (Itr i (j - i).toNat) H1
theorem fv {a:Expr} {ta:TA} {p pos:Pos} (hg:Gl X "range") (hm:X.mg "range"=none) (ha:PA X [a] ta) (hs:starEach [a] X.env=[(false,eval a X.env)]:=by rfl):PI X tg (.Call (.Name "range" p) [a] [] pos) (fK ta):=by
 intro pins s σ H R I h
 refine Call_ (dr I hg hm boot_range (PyProof.Rows.callWith_type1 (thn (ha pos pins s σ H _ I h) fun us s1 ⟨vs,H1,I1,r1,q1⟩=>?_) hs rfl))
 obtain ⟨j,e,q1,q2,q⟩:=q1
 subst e
 cases r1 with
 | cons r rr=>
  cases rr
  obtain ⟨t,rfl⟩:=r
  exact call_range_1 (oh I1 (by omega) (by omega) q1 q2 (by simpa using q))
theorem qU {a b:Expr} {ta:TA} {p pos:Pos} (hg:Gl X "range") (hm:X.mg "range"=none) (ha:PA X [a,b] ta) (hs:starEach [a,b] X.env=[(false,eval a X.env),(false,eval b X.env)]:=by rfl) (hs2:starEach [b] X.env=[(false,eval b X.env)]:=by rfl):
  PI X tg (.Call (.Name "range" p) [a,b] [] pos) (kT ta):=by
 intro pins s σ H R I h
 refine Call_ (dr I hg hm boot_range (PyProof.Rows.callWith_type1 (thn (ha pos pins s σ H _ I h) fun us s1 ⟨vs,H1,I1,r1,q1⟩=>?_) (by rw [hs,hs2]) (by rw [hs2]; rfl)))
 obtain ⟨i,j,e,⟨q1,q2,q3,q4⟩,q⟩:=q1
 subst e
 cases r1 with
 | cons r rr=>
  cases rr with
  | cons r' rr=>
   cases rr
   obtain ⟨t,rfl⟩:=r
   obtain ⟨t',rfl⟩:=r'
   exact call_range_2 (oh I1 q1 q2 q3 q4 q)
def tFor (wi:TI) (g:TG) (tb:TS):TS:=fun D σ H=>wi σ H fun J H1=>∃ W:Nat→Nat→St→Hp→Prop,(∃ m,W 0 m σ H1)∧∀ i m σ H,W i m σ H→
 (J.stop i H∧D.nx σ H)∨(J.go i H∧∃ N:St→Hp→Prop,(∀ σ' H',N σ' H'→∃ m',m' < m∧W (i+1) m' σ' H')∧∀ x H',J.yld i H x H'→g x σ H' fun σ2 H2=>tb { D with nx:=N,ct:=N,bk:=D.nx } σ2 H2)
def iL (fp:List Addr) (h:Heap):List (Addr × Obj):=fp.filterMap fun b=>(h.get? b).map fun o=>(b,o)
theorem fL {fp:List Addr} {h:Heap} {b:Addr} {o:Obj} (hb:b∈fp) (e:h.get? b=some o):(b,o)∈iL fp h:=List.mem_filterMap.mpr ⟨b,hb,by rw [e]; rfl⟩
theorem qV {fp:List Addr} {h:Heap} {p:Addr × Obj} (hp:p∈iL fp h):p.1∈fp∧h.get? p.1=some p.2:=by
 obtain ⟨b,hb,e⟩:=List.mem_filterMap.mp hp
 cases q:h.get? b with
 | none=>rw [q] at e; cases e
 | some o=>
  rw [q] at e
  have e':(b,o)=p:=Option.some.inj e
  subst e'
  exact ⟨hb,q⟩
theorem Inv.pinned {pins:List (Addr × Obj)} {σ:St} {H:Hp} {s:Shared} {fp:List Addr} (I:Inv X pins σ H s) (hf:∀ b∈fp,FpOk X pins H b) (ho:∀ b∈fp,∃ o,s.heap.get? b=some o∧∀ v,o.data≠.cell v):Inv X (pins++iL fp s.heap) σ H s:=
 I.pins_of fun p hp=>(List.mem_append.mp hp).elim (fun z=>I.pin p (List.mem_append_right _ z)) fun z=>by
  obtain ⟨hb,e⟩:=qV z
  obtain ⟨f0,f1,f2,_⟩:=hf p.1 hb
  obtain ⟨o,e',d⟩:=ho p.1 hb
  rw [e] at e'; cases e'
  exact ⟨e,f0,f1,f2,d⟩
theorem Inv.unpinned {pins pl:List (Addr × Obj)} {σ:St} {H:Hp} {s:Shared} (I:Inv X (pins++pl) σ H s):Inv X pins σ H s:=I.pins_of fun p hp=>I.pin p (List.mem_append_right _ (List.mem_append_left _ hp))
theorem kU {iter:Expr} {body:List Stmt} {wi:TI} {g:TG} {tb:TS} {pos:Pos} (hp:PassesOwn (model X.prog X.w) X.A X.env X.xe) (hc:X.calm=true) (hi:PI X tg iter wi) (hg:PG X tg g) (hb:PSs X body tb)
  (hs:∀ x,foldedSetIterable iter X.env x=pure x:=by intro _; rfl):PS X (.For tg iter body [] pos) (tFor wi g tb):=by
 intro pins s σ H D I h
 refine wpAny_For (thn (hi pins s σ H _ I h) fun v s1 h1=>thn h1 fun itv s2 h2=>?_) hs
 obtain ⟨it,fp,tn,J,H2,e,I2,T,st2,f2,W,⟨m0,w0⟩,turn⟩:=h2
 subst e
 have stat:∀ {H':Hp},(∀ b∈fp,H' b=none)→∀ b∈fp,FpOk X pins H' b:=fun hn b hb=>⟨hn b hb,(f2 b hb).2⟩
 refine codeAny_forLoop_any (fun n s'=>∃ i σ' H',Inv X pins σ' H' s'∧tn i s'.heap∧(∀ b∈fp,H' b=none)∧W i n σ' H') ?_ m0 ⟨0,σ,H2,I2,st2,fun b hb=>(f2 b hb).1,w0⟩
 rintro n s3 ⟨i,σ3,H3,I3,st3,fr3,w3⟩
 rcases turn i n σ3 H3 w3 with ⟨stop,qn⟩ | ⟨go,N,hN,step⟩
 · refine wpAny_passesOwn hp (thn (T.done X rfl rfl rfl hc i pins s3 σ3 H3 X.xe I3 (stat fr3) st3 stop) fun r s4 ⟨hr,I4⟩=>?_)
   subst hr
   exact wpAny_execs_nil ⟨σ3,H3,I4,qn⟩
 · refine wpAny_passesOwn hp (thn (T.item X rfl rfl rfl hc i pins s3 σ3 H3 X.xe I3 (stat fr3) st3 go) fun r s4 ⟨u,hr,h4⟩=>?_)
   subst hr
   refine wpAny_passesOwn hp (thn h4 fun _ s5 ⟨x,H5,I5,r5,y5,st5,fr5⟩=>?_)
   have I5':=I5.pinned (stat fr5) (T.obj _ _ st5)
   refine wpAny_passesOwn hp (thn (hg _ s5 σ3 H5 x u _ I5' r5 (step x H5 y5)) fun _ s6 ⟨σ6,H6,I6,q6⟩=>?_)
   refine wpAny_passesOwn hp (thn (hb _ s6 σ6 H6 _ I6 q6) fun f s7 q7=>?_)
   have again:∀ {σ7:St} {H7:Hp},Inv X (pins++iL fp s5.heap) σ7 H7 s7→N σ7 H7→∃ m,m < n∧∃ i σ' H',Inv X pins σ' H' s7∧tn i s7.heap∧(∀ b∈fp,H' b=none)∧W i m σ' H':=fun {σ7 H7} I7 n7=>by
    obtain ⟨m',hm,w7⟩:=hN σ7 H7 n7
    refine ⟨m',hm,i+1,σ7,H7,I7.unpinned,T.keep _ _ _ st5 fun b hb o e=>(I7.pin (b,o) (List.mem_append_right _ (List.mem_append_right _ (fL hb e)))).1,fun b hb=>?_,w7⟩
    obtain ⟨o,e,d⟩:=T.obj _ _ st5 b hb
    exact (I7.pin (b,o) (List.mem_append_right _ (List.mem_append_right _ (fL hb e)))).2.1
   cases f with
   | next=>obtain ⟨σ7,H7,I7,n7⟩:=q7; exact again I7 n7
   | cont=>obtain ⟨σ7,H7,I7,n7⟩:=q7; exact again I7 n7
   | brk=>obtain ⟨σ7,H7,I7,q7⟩:=q7; exact ⟨σ7,H7,I7.unpinned,q7⟩
   | ret v=>obtain ⟨x7,σ7,H7,I7,r7,q7⟩:=q7; exact ⟨x7,σ7,H7,I7.unpinned,r7,q7⟩
end
theorem sk {K:PySem.W.Frag} {a:Addr} {xs:List V} {g:TG} {tb:TS} {D:Ends} {σ:St} {H:Hp} (Pv:Nat→St→Hp→Prop) (h0:Pv 0 σ H) (hl:∀ i σ H,i≤xs.length→Pv i σ H→SqL K H a xs)
  (hs:∀ i x σ H,xs[i]? =some x→Pv i σ H→g x σ H fun σ2 H2=>tb { D with nx:=Pv (i+1),ct:=Pv (i+1),bk:=D.nx } σ2 H2) (hd:∀ σ H,Pv xs.length σ H→D.nx σ H):
  ∃ W:Nat→Nat→St→Hp→Prop,(∃ m,W 0 m σ H)∧∀ i m σ H,W i m σ H→
   ((Itl K a).stop i H∧D.nx σ H)∨((Itl K a).go i H∧∃ N:St→Hp→Prop,(∀ σ' H',N σ' H'→∃ m',m' < m∧W (i+1) m' σ' H')∧∀ x H',(Itl K a).yld i H x H'→g x σ H' fun σ2 H2=>tb { D with nx:=N,ct:=N,bk:=D.nx } σ2 H2):=by
 refine ⟨fun i m σ H=>m=xs.length - i∧i≤xs.length∧Pv i σ H,⟨xs.length,by simp,Nat.zero_le _,h0⟩,?_⟩
 rintro i m σ H ⟨rfl,hi,p⟩
 have q:=hl i σ H hi p
 by_cases hlt:i < xs.length
 · refine .inr ⟨⟨xs,xs[i],q,by simp [hlt]⟩,Pv (i+1),fun σ' H' p'=>⟨xs.length - (i+1),by omega,rfl,hlt,p'⟩,fun x H' y=>?_⟩
   obtain ⟨e,y⟩:=y
   subst e
   exact hs i x σ _ (y xs q) p
 · have e:i=xs.length:=by omega
   subst e
   exact .inl ⟨⟨xs,q,Nat.le_refl _⟩,hd σ H p⟩
theorem iM {lo:Int} {n:Nat} {g:TG} {tb:TS} {D:Ends} {σ:St} {H:Hp} (Pv:Nat→St→Hp→Prop) (h0:Pv 0 σ H)
  (hs:∀ i σ H,i < n→Pv i σ H→g (.int (lo+i)) σ H fun σ2 H2=>tb { D with nx:=Pv (i+1),ct:=Pv (i+1),bk:=D.nx } σ2 H2) (hd:∀ σ H,Pv n σ H→D.nx σ H):
  ∃ W:Nat→Nat→St→Hp→Prop,(∃ m,W 0 m σ H)∧∀ i m σ H,W i m σ H→
   ((Itr lo n).stop i H∧D.nx σ H)∨((Itr lo n).go i H∧∃ N:St→Hp→Prop,(∀ σ' H',N σ' H'→∃ m',m' < m∧W (i+1) m' σ' H')∧∀ x H',(Itr lo n).yld i H x H'→g x σ H' fun σ2 H2=>tb { D with nx:=N,ct:=N,bk:=D.nx } σ2 H2):=by
 refine ⟨fun i m σ H=>m=n - i∧i≤n∧Pv i σ H,⟨n,by simp,Nat.zero_le _,h0⟩,?_⟩
 rintro i m σ H ⟨rfl,hi,p⟩
 by_cases hlt:i < n
 · refine .inr ⟨hlt,Pv (i+1),fun σ' H' p'=>⟨n - (i+1),by omega,rfl,hlt,p'⟩,fun x H' y=>?_⟩
   obtain ⟨e,y⟩:=y
   subst e y
   exact hs i σ _ hlt p
 · have e:i=n:=by omega
   subst e
   exact .inl ⟨Nat.le_refl _,hd σ H p⟩
end L2
namespace L2
open PySem PySem.Spec PyProof.Rows
abbrev R2:=V→V→Hp→VK→Prop
def OpR (X:Cx) (f:Value→Value→Sem Value) (r:R2):Prop:=
 ∀ (pins:List (Addr × Obj)) (s:Shared) (σ:St) (H:Hp) (x y:V) (v u:Value) (Q:VK),Inv X pins σ H s→RelV x v→RelV y u→r x y H Q→
  wpAny (model X.prog X.w) X.A (f v u) (EP X pins σ Q) X.xe s
def UnR (X:Cx) (f:Value→Sem Value) (r:V→Hp→VK→Prop):Prop:=
 ∀ (pins:List (Addr × Obj)) (s:Shared) (σ:St) (H:Hp) (x:V) (v:Value) (Q:VK),Inv X pins σ H s→RelV x v→r x H Q→
  wpAny (model X.prog X.w) X.A (f v) (EP X pins σ Q) X.xe s
def CallR (X:Cx) (f:Value) (r:List V→Hp→VK→Prop):Prop:=
 ∀ (pins:List (Addr × Obj)) (s:Shared) (σ:St) (H:Hp) (xs:List V) (us:List Value) (Q:VK),Inv X pins σ H s→Vals xs us→r xs H Q→
  wpAny (model X.prog X.w) X.A (call f us) (EP X pins σ Q) X.xe s
def tOp (r:R2) (ta tb:TE):TE:=fun σ H Q=>ta σ H fun x H1=>tb σ H1 fun y H2=>r x y H2 Q
def tUn (r:V→Hp→VK→Prop) (ta:TE):TE:=fun σ H Q=>ta σ H fun x H1=>r x H1 Q
def rI (C:Int→Int→Prop) (g:Int→Int→V):R2:=fun x y H Q=>∃ i j,x=.int i∧y=.int j∧C i j∧Q (g i j) H
def rI0 (g:Int→Int→V):R2:=fun x y H Q=>∃ i j,x=.int i∧y=.int j∧Q (g i j) H
def rU (g:Int→V):V→Hp→VK→Prop:=fun x H Q=>∃ i,x=.int i∧Q (g i) H
section
variable {X:Cx} {a b c:Expr} {ta tb tc:TE} {pos:Pos}
theorem binT (ha:PE X a ta) (hb:PE X b tb) {pins:List (Addr × Obj)} {s:Shared} {σ:St} {H:Hp} {R:V→V→Hp→Prop} (I:Inv X pins σ H s)
  (h:ta σ H fun x H1=>tb σ H1 fun y H2=>R x y H2) {Q:Value→Shared→Prop} {f:Value→Value→Sem Value}
  (hf:∀ v u s2 x y H2,Inv X pins σ H2 s2→RelV x v→RelV y u→R x y H2→wpAny (model X.prog X.w) X.A (f v u) Q X.xe s2):
  wpAny (model X.prog X.w) X.A (eval a X.env) (fun v s₁=>wpAny (model X.prog X.w) X.A (eval b X.env) (fun u s₂=>wpAny (model X.prog X.w) X.A (f v u) Q X.xe s₂) X.xe s₁) X.xe s:=by
 refine thn (ha pins s σ H _ I h) fun v s1 ⟨x,H1,I1,r1,q1⟩=>?_
 refine thn (hb pins s1 σ H1 _ I1 q1) fun u s2 ⟨y,H2,I2,r2,q2⟩=>?_
 exact hf v u s2 x y H2 I2 r1 r2 q2
theorem ak {op:Operator} {r:R2} (ho:OpR X (binaryOp op) r) (ha:PE X a ta) (hb:PE X b tb):PE X (.BinOp a op b pos) (tOp r ta tb):=by
 intro pins s σ H Q I h
 exact wpAny_BinOp (binT ha hb I h fun v u s2 x y H2 I2 rx ry q=>ho pins s2 σ H2 x y v u Q I2 rx ry q)
theorem sQ {op:UnaryOp} {r:V→Hp→VK→Prop} (ho:UnR X (unaryOp op) r) (ha:PE X a ta):PE X (.UnaryOp op a pos) (tUn r ta):=by
 intro pins s σ H Q I h
 exact UnaryOp_ (thn (ha pins s σ H _ I h) fun v s1 ⟨x,H1,I1,r1,q1⟩=>ho pins s1 σ H1 x v Q I1 r1 q1)
theorem opI {f:Value→Value→Sem Value} {C:Int→Int→Prop} {g:Int→Int→Int}
  (rule:∀ (i j:Int) (t u:Tok) (s:Shared) (Q:Value→Shared→Prop) (E:Value→Shared→Prop),C i j→Q (.int (g i j) s.toks) { s with toks:=s.toks+1 }→wpAny (model X.prog X.w) X.A (f (.int i t) (.int j u)) Q E s):
  OpR X f (rI C fun i j=>.int (g i j)):=by
 intro pins s σ H x y v u Q I rx ry h
 obtain ⟨i,j,rfl,rfl,hc,q⟩:=h
 obtain ⟨t,rfl⟩:=rx
 obtain ⟨t',rfl⟩:=ry
 exact rule i j t t' s _ _ hc ⟨.int (g i j),H,I.tok _,⟨_,rfl⟩,q⟩
theorem ur {f:Value→Value→Sem Value} {g:Int→Int→Int}
  (rule:∀ (i j:Int) (t u:Tok) (s:Shared) (Q:Value→Shared→Prop) (E:Value→Shared→Prop),Q (.int (g i j) s.toks) { s with toks:=s.toks+1 }→wpAny (model X.prog X.w) X.A (f (.int i t) (.int j u)) Q E s):
  OpR X f (rI0 fun i j=>.int (g i j)):=by
 intro pins s σ H x y v u Q I rx ry h
 obtain ⟨i,j,rfl,rfl,q⟩:=h
 obtain ⟨t,rfl⟩:=rx
 obtain ⟨t',rfl⟩:=ry
 exact rule i j t t' s _ _ ⟨.int (g i j),H,I.tok _,⟨_,rfl⟩,q⟩
theorem so {f:Value→Value→Sem Value} {g:Int→Int→Bool}
  (rule:∀ (i j:Int) (t u:Tok) (s:Shared) (Q:Value→Shared→Prop) (E:Value→Shared→Prop),Q (.bool (g i j)) s→wpAny (model X.prog X.w) X.A (f (.int i t) (.int j u)) Q E s):
  OpR X f (rI0 fun i j=>.bl (g i j)):=by
 intro pins s σ H x y v u Q I rx ry h
 obtain ⟨i,j,rfl,rfl,q⟩:=h
 obtain ⟨t,rfl⟩:=rx
 obtain ⟨t',rfl⟩:=ry
 exact rule i j t t' s _ _ ⟨.bl (g i j),H,I,rfl,q⟩
def CDiv (i j:Int):Prop:=0 < j∧j < 1073741824
def CPow (i j:Int):Prop:=0≤j∧j≤1000000∧i.natAbs < 2^64
def CMul (i j:Int):Prop:=(-(2^64) < i∧i < 2^64)∨(-(2^64) < j∧j < 2^64)
theorem CMul.ok {i j:Int} (h:CMul i j):IntMulOk i j:=by
 rcases h with ⟨h1,h2⟩ | ⟨h1,h2⟩
 · exact .of_left (intBits_le_64 h1 h2)
 · exact .of_right (intBits_le_64 h1 h2)
theorem ut:OpR X (binaryOp .Add) (rI0 fun i j=>.int (i+j)):=ur fun _ _ _ _ _ _ _ q=>add_int q
theorem uu:OpR X (binaryOp .Sub) (rI0 fun i j=>.int (i - j)):=ur fun _ _ _ _ _ _ _ q=>sub_int q
theorem uv:OpR X (binaryOp .Mult) (rI CMul fun i j=>.int (i*j)):=opI fun _ _ _ _ _ _ _ hc q=>mul_int q hc.ok
theorem tu:OpR X (binaryOp .FloorDiv) (rI CDiv fun i j=>.int (i / j)):=opI fun i j _ _ _ _ _ hc q=>by
 have h1:(0:Int) < j:=hc.1
 have h2:j < 1073741824:=hc.2
 exact floordiv_int (by omega) (by rw [Int.fdiv_eq_ediv_of_nonneg i (by omega)]; exact q) (.inl (PyProof.noPylong_small (by omega)))
theorem uw:OpR X (binaryOp .Mod) (rI (fun _ j=>0 < j) fun i j=>.int (i % j)):=opI fun i j _ _ _ _ _ hc q=>by
 have h1:(0:Int) < j:=hc
 exact mod_int' (by omega) (by rw [Int.fmod_eq_emod_of_nonneg i (by omega)]; exact q)
theorem ux:OpR X (binaryOp .Pow) (rI CPow fun i j=>.int (i^j.toNat)):=opI fun _ _ _ _ _ _ _ hc q=>pow_int_small hc.1 hc.2.1 hc.2.2 q
theorem unI {f:Value→Sem Value} {g:Int→Int}
  (rule:∀ (i:Int) (t:Tok) (s:Shared) (Q:Value→Shared→Prop) (E:Value→Shared→Prop),Q (.int (g i) s.toks) { s with toks:=s.toks+1 }→wpAny (model X.prog X.w) X.A (f (.int i t)) Q E s):
  UnR X f (rU fun i=>.int (g i)):=by
 intro pins s σ H x v Q I rx h
 obtain ⟨i,rfl,q⟩:=h
 obtain ⟨t,rfl⟩:=rx
 exact rule i t s _ _ ⟨.int (g i),H,I.tok _,⟨_,rfl⟩,q⟩
theorem qW:UnR X (unaryOp .USub) (rU fun i=>.int (-i)):=unI fun _ _ _ _ _ q=>neg_int q
end
def scal:V→V→Bool
 | .non,.non=>true | .non,.int _=>true | .int _,.non=>true | .non,.bl _=>true | .bl _,.non=>true | .non,.str _=>true | .str _,.non=>true
 | .int _,.int _=>true | .bl _,.bl _=>true | .str _,.str _=>true | .byt _,.byt _=>true
 | .int _,.str _=>true | .str _,.int _=>true | .bl _,.str _=>true | .str _,.bl _=>true
 | _,_=>false
def rEq:R2:=fun x y H Q=>scal x y=true∧Q (.bl (decide (x=y))) H
def rNe:R2:=fun x y H Q=>scal x y=true∧Q (.bl (!decide (x=y))) H
theorem pO {i j:Int}:decide (V.int i=V.int j)=(i==j):=by
 rw [Bool.eq_iff_iff]
 simp
theorem qX {i j:Bool}:decide (V.bl i=V.bl j)=(i==j):=by
 rw [Bool.eq_iff_iff]
 simp
theorem pP {i j:Str}:decide (V.str i=V.str j)=(i==j):=by
 rw [Bool.eq_iff_iff]
 simp
theorem pQ {i j:Array UInt8}:decide (V.byt i=V.byt j)=(i.toList==j.toList):=by
 rw [Bool.eq_iff_iff]
 cases i
 cases j
 simp
section
variable {X:Cx} {a b c:Expr} {ta tb tc:TE} {pos:Pos}
theorem aK {pins:List (Addr × Obj)} {σ:St} {H:Hp} {s:Shared} {Q:VK} {k k':Bool} (I:Inv X pins σ H s) (q:Q (.bl k) H) (e:k=k'):EP X pins σ Q (.bool k') s:=by
 subst e
 exact ⟨.bl k,H,I,rfl,q⟩
theorem p9:OpR X (compareOp .Eq) rEq:=by
 intro pins s σ H x y v u Q I rx ry h
 obtain ⟨hs,q⟩:=h
 cases x with
 | non=>
  cases rx
  cases y with
  | non=>cases ry; exact PySem.EqNone.eq_none_none (aK I q (by simp))
  | bl j=>cases ry; exact PySem.EqNone.eq_none_bool (aK I q (by simp))
  | int j=>obtain ⟨t',rfl⟩:=ry; exact PySem.EqNone.eq_none_int (aK I q (by simp))
  | str j=>obtain ⟨t',rfl⟩:=ry; exact PySem.EqNone.eq_none_str (aK I q (by simp))
  | _=>exact absurd (show false=true from hs) Bool.false_ne_true
 | bl i=>
  cases rx
  cases y with
  | non=>cases ry; exact PySem.EqNone.eq_bool_none (aK I q (by simp))
  | bl j=>cases ry; exact eq_bool (aK I q qX)
  | str j=>obtain ⟨t',rfl⟩:=ry; exact PySem.EqMixed.eq_bool_str (aK I q (by simp))
  | _=>exact absurd (show false=true from hs) Bool.false_ne_true
 | int i=>
  obtain ⟨t,rfl⟩:=rx
  cases y with
  | non=>cases ry; exact PySem.EqNone.eq_int_none (aK I q (by simp))
  | int j=>obtain ⟨t',rfl⟩:=ry; exact eq_int (aK I q pO)
  | str j=>obtain ⟨t',rfl⟩:=ry; exact PySem.EqMixed.eq_int_str (aK I q (by simp))
  | _=>exact absurd (show false=true from hs) Bool.false_ne_true
 | str i=>
  obtain ⟨t,rfl⟩:=rx
  cases y with
  | non=>cases ry; exact PySem.EqNone.eq_str_none (aK I q (by simp))
  | bl j=>cases ry; exact PySem.EqMixed.eq_str_bool (aK I q (by simp))
  | int j=>obtain ⟨t',rfl⟩:=ry; exact PySem.EqMixed.eq_str_int (aK I q (by simp))
  | str j=>obtain ⟨t',rfl⟩:=ry; exact eq_str (aK I q pP)
  | _=>exact absurd (show false=true from hs) Bool.false_ne_true
 | byt i=>
  obtain ⟨t,rfl⟩:=rx
  cases y with
  | byt j=>obtain ⟨t',rfl⟩:=ry; exact PySem.W.eq_bytes (aK I q pQ)
  | _=>exact absurd (show false=true from hs) Bool.false_ne_true
 | _=>cases y <;> exact absurd (show false=true from hs) Bool.false_ne_true
theorem qa:OpR X (compareOp .NotEq) rNe:=by
 intro pins s σ H x y v u Q I rx ry h
 obtain ⟨hs,q⟩:=h
 cases x with
 | non=>
  cases rx
  cases y with
  | non=>cases ry; exact PySem.EqNone.ne_none_none (aK I q (by simp))
  | bl j=>cases ry; exact PySem.EqNone.ne_none_bool (aK I q (by simp))
  | int j=>obtain ⟨t',rfl⟩:=ry; exact PySem.EqNone.ne_none_int (aK I q (by simp))
  | str j=>obtain ⟨t',rfl⟩:=ry; exact PySem.EqNone.ne_none_str (aK I q (by simp))
  | _=>exact absurd (show false=true from hs) Bool.false_ne_true
 | bl i=>
  cases rx
  cases y with
  | non=>cases ry; exact PySem.EqNone.ne_bool_none (aK I q (by simp))
  | bl j=>cases ry; exact ne_bool (aK I q (congrArg not qX))
  | str j=>obtain ⟨t',rfl⟩:=ry; exact PySem.EqMixed.ne_bool_str (aK I q (by simp))
  | _=>exact absurd (show false=true from hs) Bool.false_ne_true
 | int i=>
  obtain ⟨t,rfl⟩:=rx
  cases y with
  | non=>cases ry; exact PySem.EqNone.ne_int_none (aK I q (by simp))
  | int j=>obtain ⟨t',rfl⟩:=ry; exact ne_int (aK I q (congrArg not pO))
  | str j=>obtain ⟨t',rfl⟩:=ry; exact PySem.EqMixed.ne_int_str (aK I q (by simp))
  | _=>exact absurd (show false=true from hs) Bool.false_ne_true
 | str i=>
  obtain ⟨t,rfl⟩:=rx
  cases y with
  | non=>cases ry; exact PySem.EqNone.ne_str_none (aK I q (by simp))
  | bl j=>cases ry; exact PySem.EqMixed.ne_str_bool (aK I q (by simp))
  | int j=>obtain ⟨t',rfl⟩:=ry; exact PySem.EqMixed.ne_str_int (aK I q (by simp))
  | str j=>obtain ⟨t',rfl⟩:=ry; exact ne_str (aK I q (congrArg not pP))
  | _=>exact absurd (show false=true from hs) Bool.false_ne_true
 | byt i=>
  obtain ⟨t,rfl⟩:=rx
  cases y with
  | byt j=>obtain ⟨t',rfl⟩:=ry; exact PySem.W.ne_bytes (aK I q (congrArg not pQ))
  | _=>exact absurd (show false=true from hs) Bool.false_ne_true
 | _=>cases y <;> exact absurd (show false=true from hs) Bool.false_ne_true
theorem vi:OpR X (compareOp .Lt) (rI0 fun i j=>.bl (decide (i < j))):=so fun _ _ _ _ _ _ _ q=>lt_int q
theorem vj:OpR X (compareOp .LtE) (rI0 fun i j=>.bl (decide (i≤j))):=so fun _ _ _ _ _ _ _ q=>le_int q
theorem vk:OpR X (compareOp .Gt) (rI0 fun i j=>.bl (decide (j < i))):=so fun _ _ _ _ _ _ _ q=>gt_int q
theorem qY:OpR X (compareOp .In) (fun x y H Q=>∃ i j,x=.str i∧y=.str j∧Q (.bl (!(Builtin.Str.occurrences j i 0 j.length 1).isEmpty)) H):=by
 intro pins s σ H x y v u Q I rx ry h
 obtain ⟨i,j,rfl,rfl,q⟩:=h
 obtain ⟨t,rfl⟩:=rx
 obtain ⟨t',rfl⟩:=ry
 exact in_str (aK I q rfl)
theorem uy:OpR X (compareOp .Is) (fun x y H Q=>y=.non∧Q (.bl (decide (x=.non))) H):=by
 intro pins s σ H x y v u Q I rx ry h
 obtain ⟨rfl,q⟩:=h
 cases ry
 refine is_none_gen (aK I q ?_)
 cases x <;> first
  | (cases rx; rfl)
  | (obtain ⟨t,rfl⟩:=rx; rfl)
theorem ax (b:Expr) {op:CmpOp} (h:op≠.In:=by decide) (h2:op≠.NotIn:=by decide):behindInMarks op b=false:=by
 have e1:(op==CmpOp.In)=false:=by cases op <;> first | rfl | exact absurd rfl h
 have e2:(op==CmpOp.NotIn)=false:=by cases op <;> first | rfl | exact absurd rfl h2
 cases b <;> simp [behindInMarks,e1,e2]
theorem dM {op:CmpOp} {r:R2} (ho:OpR X (compareOp op) r) (ha:PE X a ta) (hb:PE X b tb) (hm:behindInMarks op b=false):PE X (.Compare a [op] [b] pos) (tOp r ta tb):=by
 intro pins s σ H Q I h
 exact wpAny_Compare1 (binT ha hb I h fun v u s2 x y H2 I2 rx ry q=>ho pins s2 σ H2 x y v u Q I2 rx ry q) hm
def tTest (t:TE):TT:=fun σ H Q=>t σ H fun x H'=>∃ k,x=.bl k∧Q k H'
theorem ap {op:CmpOp} {r:R2} (ho:OpR X (compareOp op) r) (ha:PE X a ta) (hb:PE X b tb) (hm:behindInMarks op b=false):PT X (.Compare a [op] [b] pos) (tTest (tOp r ta tb)):=by
 intro pins s σ H Q I h
 refine wpAny_isTrue_Compare1 (thn (ha pins s σ H _ I h) fun v s1 ⟨x,H1,I1,r1,q1⟩=>thn (hb pins s1 σ H1 _ I1 q1) fun u s2 ⟨y,H2,I2,r2,q2⟩=>
  thn (ho pins s2 σ H2 x y v u _ I2 r1 r2 q2) fun c s3 ⟨z,H3,I3,r3,k,e,q3⟩=>?_) hm
 subst e
 cases r3
 exact wpAny_truthy_bool ⟨H3,I3,q3⟩
theorem iN:(sizeLine:Nat) < 2^63:=by rw [sizeLine_eq]; decide
theorem qb:OpR X (binaryOp .Add) (fun x y H Q=>∃ i j,x=.str i∧y=.str j∧i.length+j.length≤sizeLine∧Q (.str (i++j)) H):=by
 intro pins s σ H x y v u Q I rx ry h
 obtain ⟨i,j,rfl,rfl,hz,q⟩:=h
 obtain ⟨t,rfl⟩:=rx
 obtain ⟨t',rfl⟩:=ry
 exact add_str (fun t' tk=>⟨.str (i++j),H,I.tok _,⟨_,rfl⟩,q⟩) hz
theorem cL {x:V} {us:List Value} (r:Vals [x] us):∃ u,us=[u]∧RelV x u:=by
 cases r with
 | cons r1 r2=>cases r2; exact ⟨_,rfl,r1⟩
theorem qc {x y:V} {us:List Value} (r:Vals [x,y] us):∃ u w',us=[u,w']∧RelV x u∧RelV y w':=by
 cases r with
 | cons r1 r2=>
  cases r2 with
  | cons r3 r4=>cases r4; exact ⟨_,_,rfl,r1,r3⟩
theorem qZ (hc:X.calm=true):CallR X (.builtin "min") (fun xs H Q=>∃ i j,xs=[.int i,.int j]∧Q (.int (if j < i then j else i)) H):=by
 intro pins s σ H xs us Q I r h
 obtain ⟨i,j,rfl,q⟩:=h
 obtain ⟨u,w',rfl,⟨t,rfl⟩,⟨t',rfl⟩⟩:=qc r
 refine min_two_ints (I.ok.hd hc) fun h' tk k=>⟨_,H,I.kept k,?_,q⟩
 by_cases hj:j < i
 · rw [if_pos hj,if_pos hj]; exact ⟨_,rfl⟩
 · rw [if_neg hj,if_neg hj]; exact ⟨_,rfl⟩
theorem mS:CallR X (.type "int") (fun xs H Q=>(∃ i,xs=[.int i]∧Q (.int i) H)∨∃ k,xs=[.bl k]∧Q (.int (if k then 1 else 0)) H):=by
 intro pins s σ H xs us Q I r h
 rcases h with ⟨i,rfl,q⟩ | ⟨k,rfl,q⟩
 · obtain ⟨u,rfl,t,rfl⟩:=cL r
   exact call_int_int ⟨.int i,H,I,⟨_,rfl⟩,q⟩
 · obtain ⟨u,rfl,r1⟩:=cL r
   cases r1
   exact call_int_bool ⟨.int (if k then 1 else 0),H,I.tok _,⟨_,rfl⟩,q⟩
end
end L2
namespace L2
open PySem PySem.Spec PyProof.Rows
structure ObjM (h:Heap) (x dx C:Addr) (mA:Str→Option Value):Prop where
 obj:h.get? x=some (PySem.W.instObj C dx)
 ns:h.Ns1 dx mA
 ne:dx≠x
theorem q0 {h:Heap} {dx:Addr} {mA:Str→Option Value} (n:h.Ns1 dx mA):∃ od,h.get? dx=some od∧∀ name,PySem.W.lookIn name od=some (mA name):=by
 obtain ⟨o,es,ep,ho,hd,hk,_,hm⟩:=n
 refine ⟨o,ho,fun name=>?_⟩
 have e:=hm name
 unfold nsFind findBy at e
 rw [← Array.find?_toList] at e
 unfold PySem.W.lookIn
 rw [hd]
 dsimp only
 split
 · rename_i y q
   rw [q] at e
   exact congrArg some e
 · rename_i q
   rw [q] at e
   have a:es.toList.any (·.refKey)=false:=by
    rw [List.any_eq_false]
    intro y hy
    obtain ⟨z,t,hkey⟩:=hk y (Array.mem_toList_iff.mp hy)
    simp [DictEntry.refKey,hkey]
   have a':¬ es.toList.any (·.refKey)=true:=by rw [a]; exact Bool.false_ne_true
   rw [if_neg a']
   exact congrArg some e
theorem ObjM.look {h:Heap} {x dx C:Addr} {mA:Str→Option Value} (I:ObjM h x dx C mA):∃ od,PySem.W.InstAt h x (PySem.W.instObj C dx) C (some od)∧∀ name,PySem.W.lookIn name od=some (mA name):=
 let ⟨od,ho,hl⟩:=q0 I.ns
 ⟨od,⟨I.obj,rfl,rfl,ho⟩,hl⟩
section
variable {prog:Program} {w:World} {A:Around} {E:Value→Shared→Prop} {s:Shared} {K:PySem.W.Frag} {x dx C f:Addr} {mA:Str→Option Value} {name:Str} {v:Value}
theorem tw {expr:Bool} {Q:Value→Shared→Prop} (X:K.In s.heap) (I:ObjM s.heap x dx C mA) (hg:PySem.W.plainGet K C name=true) (hh:PySem.W.hasDictIn K C=true)
  (ha:PySem.W.findIn K (.ref C) name=some none) (hv:mA name=some v) (hv':PySem.W.handedIn v=true) (h:Q v { s with toks:=s.toks+1 }):
  wpAny (model prog w) A (getAttr (.ref x) name expr) Q E s:=by
 obtain ⟨od,J,hl⟩:=I.look
 exact PySem.W.get_value X J (PySem.W.plainGet_of hg).1 (PySem.W.findObj_own hh ha rfl (by rw [hl,hv])) hv' h
theorem sq {pl:Sem Bool} {Q:Value × List Value→Shared→Prop} (X:K.In s.heap) (I:ObjM s.heap x dx C mA) (hg:PySem.W.plainGet K C name=true)
  (hf:PySem.W.findIn K (.ref C) name=some (some (.ref f))) (ht:PySem.W.isFn K (.ref f)=true) (hv:mA name=none) (h:Q (.ref f,[.ref x]) s):
  wpAny (model prog w) A (getMethod (.ref x) name pl) Q E s:=by
 obtain ⟨od,J,hl⟩:=I.look
 exact PySem.W.method_fn X J (PySem.W.plainGet_of hg).1 (PySem.W.plainGet_of hg).2 hf (beq_iff_eq.mp ht) (by show (PySem.W.lookIn name od).map (·.isSome)=some false; rw [hl,hv]; rfl) h
theorem tz {ns:List Str} {Q:Unit→Shared→Prop} (X:K.In s.heap) (I:ObjM s.heap x dx C mA)
  (hs:PySem.W.findIn K (.ref C) "__setattr__"=some (some (.builtin "object.__setattr__"))) (hp:PySem.W.plainOver K C=true) (ht:PySem.W.takerIn K C name=some none) (hh:PySem.W.hasDictIn K C=true)
  (hw:PySem.Within mA ns) (hsz:ns.length≤sizeLine)
  (h:∀ h',ObjM h' x dx C (fun y=>if y=name then some v else mA y)→Heap.SameBut dx s.heap h'→Q () { s with heap:=h',toks:=s.toks+2 }):
  wpAny (model prog w) A (setAttr (.ref x) name v) Q E s:=by
 obtain ⟨od,J,hl⟩:=I.look
 refine PySem.W.set_plain X J hs (PySem.W.osa_open (s:={ s with toks:=s.toks+1 }) (r:=none) X J hp ht fun b=>?_)
 obtain ⟨cd,hc,hd'⟩:=PySem.W.any_some hh
 have hx:s.heap.get? x=some ⟨.ref C,some dx,.plain,#[]⟩:=I.obj
 refine wpAny_bind (wpAny_pure (wpAny_bind (wpAny_bind (wpAny_loadPart hx (wpAny_bind (PySem.W.Looks.here (s:={ s with toks:=s.toks+1 }) (PySem.W.looks_clsIn X hc) ?_))))))
 rw [hd']
 refine wpAny_pure (a:=some dx) (wpAny_bind (wpAny_pure (wpAny_bind ?_)))
 refine wpAny_nsSet1 (s:={ s with toks:=s.toks+1 }) I.ns fun h' hn2 hs2=>?_
 obtain ⟨oD,esD,epD,hoD,hdD,hcD⟩:=hn2.count (PySem.Within.cons name v hw)
 refine wpAny_bind (wpAny_lookBehind hoD (by rw [hdD]; exact pastItsLine_dict (Nat.le_trans hcD (by rw [List.length_cons]; omega))) ?_)
 exact wpAny_pure (h _ ⟨(hs2.2 _ (Ne.symm I.ne)).trans I.obj,hn2,I.ne⟩ hs2)
theorem oi {R:Result→Shared→Prop} {vs:List Value} {kw:List (Str × Value)} (X:K.In s.heap) (hm:PySem.W.makesIn K C=true)
  (hi:PySem.W.findIn K (.ref C) "__init__"=some (some (.ref f))) (hf:PySem.W.typeIn K (.ref f)=some (.type "function"))
  (h:codeAny (model prog w) (A.under (.builtin "type.__call__" ⟨.ref C::vs,kw⟩)) (.call (.ref f) ⟨.ref (s.heap.objs.size+1)::vs,kw⟩) (PySem.W.InitBack (s.heap.objs.size+1) R)
   { s with heap:=(s.heap.push PySem.W.emptyDict).push (PySem.W.instObj C s.heap.objs.size) }):
  codeAny (model prog w) A (.call (.ref C) ⟨vs,kw⟩) R s:=by
 obtain ⟨hh,g,d,t,os⟩:=s
 exact PySem.W.make_core (PySem.W.makes_of X hm) (PySem.W.looks_findIn X hi) (fun self=>PySem.W.bind_fn X self hf) (.inl rfl) h
end
def putF (f:Str) (v:V):List (Str × V)→List (Str × V)
 | []=>[(f,v)]
 | (g,x)::r=>if g=f then (g,v)::r else (g,x)::putF f v r
theorem j5 (f g:Str) (v:V):∀ fs:List (Str × V),(putF f v fs).lookup g=if g=f then some v else fs.lookup g
 | []=>by
  show List.lookup g [(f,v)]=_
  by_cases h:g=f
  · have hb:(g==f)=true:=beq_iff_eq.mpr h
    simp only [List.lookup,hb,if_pos h]
  · have hb:(g==f)=false:=beq_eq_false_iff_ne.mpr h
    simp only [List.lookup,hb,if_neg h]
 | (k,x)::r=>by
  have ih:=j5 f g v r
  rw [show putF f v ((k,x)::r)=(if k=f then (k,v)::r else (k,x)::putF f v r) from rfl]
  by_cases hk:k=f
  · rw [if_pos hk]
    by_cases h:g=k
    · have hb:(g==k)=true:=beq_iff_eq.mpr h
      simp only [List.lookup,hb,if_pos (h.trans hk)]
    · have hb:(g==k)=false:=beq_eq_false_iff_ne.mpr h
      simp only [List.lookup,hb,if_neg (fun e:g=f=>h (e.trans hk.symm))]
  · rw [if_neg hk]
    by_cases h:g=k
    · have hb:(g==k)=true:=beq_iff_eq.mpr h
      simp only [List.lookup,hb,if_neg (fun e:g=f=>hk (h.symm.trans e))]
    · have hb:(g==k)=false:=beq_eq_false_iff_ne.mpr h
      simp only [List.lookup,hb]
      exact ih
theorem iO (f:Str) (v:V):∀ fs:List (Str × V),f∈(putF f v fs).map (·.1)∧∀ g,g∈fs.map (·.1)→g∈(putF f v fs).map (·.1)
 | []=>⟨by simp [putF],fun g h=>by simp at h⟩
 | (k,x)::r=>by
  obtain ⟨i1,i2⟩:=iO f v r
  rw [show putF f v ((k,x)::r)=(if k=f then (k,v)::r else (k,x)::putF f v r) from rfl]
  by_cases hk:k=f
  · rw [if_pos hk]
    subst hk
    exact ⟨by simp,fun g h=>by simpa using h⟩
  · rw [if_neg hk]
    refine ⟨?_,fun g h=>?_⟩
    · rw [List.map_cons]
      exact List.mem_cons_of_mem _ i1
    · rw [List.map_cons] at h ⊢
      rcases List.mem_cons.mp h with e | e
      · exact List.mem_cons.mpr (.inl e)
      · exact List.mem_cons_of_mem _ (i2 g e)
theorem j6 (f:Str) (v:V):∀ fs:List (Str × V),(putF f v fs).length≤fs.length+1
 | []=>by simp [putF]
 | (k,x)::r=>by
  have ih:=j6 f v r
  rw [show putF f v ((k,x)::r)=(if k=f then (k,v)::r else (k,x)::putF f v r) from rfl]
  by_cases hk:k=f
  · rw [if_pos hk,List.length_cons,List.length_cons]; omega
  · rw [if_neg hk,List.length_cons,List.length_cons]; omega
theorem RelO.some_of {v:V} {o:Option Value} (r:RelO (some v) o):∃ u,o=some u∧RelV v u:=by
 cases o with
 | none=>exact (show False from r).elim
 | some u=>exact ⟨u,rfl,r⟩
theorem RelO.none_of {o:Option Value} (r:RelO none o):o=none:=by
 cases o with
 | none=>rfl
 | some u=>exact (show False from r).elim
theorem q5 {v:V} {u:Value} (r:RelV v u):PySem.W.handedIn u=true:=by
 cases v with
 | non=>cases (show u=Value.none from r); rfl
 | bl b=>cases (show u=Value.bool b from r); rfl
 | int i=>obtain ⟨t,e⟩:=(show ∃ t,u=Value.int i t from r); cases e; rfl
 | str x=>obtain ⟨t,e⟩:=(show ∃ t,u=Value.str x t from r); cases e; rfl
 | byt b=>obtain ⟨t,e⟩:=(show ∃ t,u=Value.bytes b t from r); cases e; rfl
 | flt b=>obtain ⟨t,e⟩:=(show ∃ t,u=Value.float b t from r); cases e; rfl
 | ref a=>cases (show u=Value.ref a from r); rfl
 | ty n=>cases (show u=Value.type n from r); rfl
section
variable {P:Program} {w:World} {H H':Hp} {h h':Heap} {a C dx:Addr} {fs fs':List (Str × V)}
theorem jk (hok:HOk P w H h) (e:H a=some (.ins C dx fs)):∃ mA,ObjM h a dx C mA∧(∀ f,RelO (fs.lookup f) (mA f))∧PySem.Within mA (fs.map (·.1))∧fs.length≤1000∧H dx=some (.own a):=by
 obtain ⟨d,z,ne,ob,mA,n,r,q⟩:=(show ObjOk P w H h a (.ins C dx fs) from hok a _ e)
 exact ⟨mA,⟨ob,n,ne⟩,r,q,z,d⟩
end
structure Cls (K:PySem.W.Frag) (C:Addr):Prop where
 pg:PySem.W.plainGet K C Str.empty=true
 hd:PySem.W.hasDictIn K C=true
 po:PySem.W.plainOver K C=true
 sa:PySem.W.findIn K (.ref C) "__setattr__"=some (some (.builtin "object.__setattr__"))
theorem Cls.get {K:PySem.W.Frag} {C:Addr} (c:Cls K C) (f:Str):PySem.W.plainGet K C f=true:=c.pg
def NoAttr (K:PySem.W.Frag) (C:Addr) (f:Str):Prop:=PySem.W.findIn K (.ref C) f=some none
theorem NoAttr.taker {K:PySem.W.Frag} {C:Addr} {f:Str} (n:NoAttr K C f):PySem.W.takerIn K C f=some none:=by
 unfold PySem.W.takerIn
 rw [show PySem.W.findIn K (.ref C) f=some none from n]
 rfl
structure Meth (K:PySem.W.Frag) (C:Addr) (m:Str) (f:Addr):Prop where
 at_:PySem.W.findIn K (.ref C) m=some (some (.ref f))
 fn:PySem.W.isFn K (.ref f)=true
 kp:PySem.W.keepIn K (.ref f)=true
section
variable {X:Cx} {pins:List (Addr × Obj)} {σ:St} {H:Hp} {s:Shared} {a C dx:Addr} {fs:List (Str × V)} {f:Str} {v:V} {A:Around} {E:Value→Shared→Prop}
theorem qd {b:Bool} {Q:Value→Shared→Prop} (I:Inv X pins σ H s) (e:H a=some (.ins C dx fs)) (c:Cls X.K C) (n:NoAttr X.K C f) (l:fs.lookup f=some v)
  (h:∀ u s',Inv X pins σ H s'→RelV v u→Q u s'):wpAny (model X.prog X.w) A (getAttr (.ref a) f b) Q E s:=by
 obtain ⟨mA,O,r,_,_,_⟩:=jk I.hok e
 obtain ⟨u,hu,ru⟩:=RelO.some_of (v:=v) (o:=mA f) (by rw [← l]; exact r f)
 exact tw I.kIn O (c.get f) c.hd n hu (q5 ru) (h u _ (I.tok _) ru)
theorem kW {m:Str} {g:Addr} {pl:Sem Bool} {Q:Value × List Value→Shared→Prop} (I:Inv X pins σ H s) (e:H a=some (.ins C dx fs)) (c:Cls X.K C) (k:Meth X.K C m g) (l:fs.lookup m=none)
  (h:Q (.ref g,[.ref a]) s):wpAny (model X.prog X.w) A (getMethod (.ref a) m pl) Q E s:=by
 obtain ⟨mA,O,r,_,_,_⟩:=jk I.hok e
 have hn:mA m=none:=RelO.none_of (by rw [← l]; exact r m)
 exact sq I.kIn O (c.get m) k.at_ k.fn hn h
theorem qe {y:V} {u:Value} {Q:Unit→Shared→Prop} (I:Inv X pins σ H s) (e:H a=some (.ins C dx fs)) (c:Cls X.K C) (n:NoAttr X.K C f) (hl:fs.length < 1000) (ry:RelV y u)
  (h:∀ s',Inv X pins σ (upd H a (.ins C dx (putF f y fs))) s'→Q () s'):wpAny (model X.prog X.w) A (setAttr (.ref a) f u) Q E s:=by
 obtain ⟨mA,O,r,wi,_,ho⟩:=jk I.hok e
 have hz:(fs.map (·.1)).length≤sizeLine:=by rw [List.length_map,sizeLine_eq]; omega
 refine tz I.kIn O c.sa c.po n.taker c.hd wi hz fun h' O' sb=>h _ ?_
 have hd:∃ o,h'.get? dx=some o:=let ⟨o,_,_,e',_⟩:=O'.ns; ⟨o,e'⟩
 refine I.write (x:=a) (e:=dx) (by rw [e]; exact True.intro) (.inr ho) (fun b q hb z=>(sb.2 b hb).trans z) hd ?_
 refine ⟨by rw [ah O.ne]; exact ho,?_,O.ne,O'.obj,_,O'.ns,fun g=>?_,fun g hg=>?_⟩
 · have:=j6 f y fs; omega
 · show RelO ((putF f y fs).lookup g) (if g=f then some u else mA g)
   rw [j5]
   by_cases q:g=f
   · rw [if_pos q,if_pos q]; exact ry
   · rw [if_neg q,if_neg q]; exact r g
 · by_cases q:g=f
   · rw [q]; exact (iO f y fs).1
   · refine (iO f y fs).2 g (wi g fun z=>hg ?_)
     show (if g=f then some u else mA g)=none
     rw [if_neg q]; exact z
theorem Inv.made (I:Inv X pins σ H s):Inv X pins σ (upd (upd H s.heap.objs.size (.own (s.heap.objs.size+1))) (s.heap.objs.size+1) (.ins C s.heap.objs.size []))
  { s with heap:=(s.heap.push PySem.W.emptyDict).push (PySem.W.instObj C s.heap.objs.size) }:=by
 have e1:(s.heap.push PySem.W.emptyDict).get? s.heap.objs.size=some PySem.W.emptyDict:=Heap.get?_push_size s.heap rfl
 have e2:((s.heap.push PySem.W.emptyDict).push (PySem.W.instObj C s.heap.objs.size)).get? (s.heap.objs.size+1)=some (PySem.W.instObj C s.heap.objs.size):=by
  have:=Heap.get?_push_size (s.heap.push PySem.W.emptyDict) (o:=PySem.W.instObj C s.heap.objs.size) rfl
  rwa [Heap.size_push] at this
 have e3:(s.heap.push PySem.W.emptyDict).Ns s.heap.objs.size (fun _=>none):=⟨PySem.W.emptyDict,#[],_,e1,rfl,(fun e he=>absurd he (by simp)),fun _=>rfl⟩
 have I1:=I.laid (a:=s.heap.objs.size) (o:=.own (s.heap.objs.size+1)) (h':=s.heap.push PySem.W.emptyDict) (t':=s.toks) (fun b u q=>Heap.get?_push_of_some _ q) (Nat.le_refl _) ⟨_,e1⟩
 refine I1.laid (a:=s.heap.objs.size+1) (o:=.ins C s.heap.objs.size []) (t':=s.toks) (fun b u q=>Heap.get?_push_of_some _ q) (Nat.le_of_eq (Heap.size_push _ _)) ?_
 have ne:s.heap.objs.size≠s.heap.objs.size+1:=Nat.ne_of_lt (Nat.lt_succ_self _)
 refine ⟨by rw [ah ne,ad],Nat.zero_le _,ne,e2,fun _=>none,(Heap.Ns1.of_empty e3).at fun o q=>Heap.get?_push_of_some _ q,fun _=>True.intro,fun y hy=>absurd rfl hy⟩
theorem tD {prog:Program} {w:World} {env:Env} {e:Expr} {f:Str} {pos:Pos} {s:Shared} {Q:Value→Shared→Prop} (hb:attributeBase e f env (eval e env)=eval e env)
  (h:wpAny (model prog w) A (eval e env) (fun o s₁=>wpAny (model prog w) A (getAttr o f true) Q E s₁) E s):wpAny (model prog w) A (eval (.Attribute e f pos) env) Q E s:=
 Attribute_any_ h (by rw [arm_eval_Attribute,hb])
end
section
variable {X:Cx} {o e value:Expr} {f:Str} {pos pos' tpos:Pos} {ta tv:TE}
end
section
variable {X:Cx} {pins:List (Addr × Obj)} {σ:St} {H:Hp} {s:Shared} {A:Around} {E:Value→Shared→Prop} {Q:Value→Shared→Prop} {c:Value} {b:Bool}
inductive TyOf (K:PySem.W.Frag) (H:Hp):V→Value→Prop where
 | non:TyOf K H .non (.type "NoneType")
 | bl (x:Bool):TyOf K H (.bl x) (.type "bool")
 | int (i:Int):TyOf K H (.int i) (.type "int")
 | str (x:Str):TyOf K H (.str x) (.type "str")
 | flt (x:UInt64):TyOf K H (.flt x) (.type "float")
 | lst {a:Addr} {xs:List V} (e:H a=some (.lst xs)):TyOf K H (.ref a) (.type "list")
 | frz {a:Addr} {o:Obj} {xs:List V} (e:H a=some (.frz o (.lst xs))):TyOf K H (.ref a) (.type "list")
 | tup {a:Addr} {xs:List V} (e:H a=some (.tup xs)):TyOf K H (.ref a) (.type "tuple")
 | dK {a:Addr} {kvs:List (Key × V)} (e:H a=some (.dK kvs)):TyOf K H (.ref a) (.type "dict")
 | dT {a:Addr} {kvs:List (List Key × V)} (e:H a=some (.dT kvs)):TyOf K H (.ref a) (.type "dict")
 | ins {a C dx:Addr} {fs:List (Str × V)} (e:H a=some (.ins C dx fs)) (cl:Cls K C) (ha:PySem.W.findIn K (.ref C) "__class__"=some (some (.builtin "object.__class__")))
   (hn:PySem.W.specialIn K (.builtin "object.__class__") "__get__"=some (some (.builtin "getset_descriptor.__get__"))) (htk:PySem.W.takesIn K (.builtin "object.__class__")=some true)
   (hm:PySem.W.mroIn K C (.type "object")=some true):TyOf K H (.ref a) (.ref C)
theorem ra {x:V} {u t:Value} (I:Inv X pins σ H s) (rx:RelV x u) (ty:TyOf X.K H x t) (e:PySem.W.kitOne X.K t c=some b) (h:∀ tk,Q (.bool b) { s with toks:=tk }):
  wpAny (model X.prog X.w) A (call (.builtin "isinstance") [u,c]) Q E s:=by
 cases ty with
 | non=>cases (show u=Value.none from rx); exact PySem.W.kia_one PySem.W.kitx_none I.kIn True.intro e (fun z=>nomatch z) h
 | bl y=>cases (show u=Value.bool y from rx); exact PySem.W.kia_one PySem.W.kitx_bool I.kIn True.intro e (fun z=>nomatch z) h
 | int i=>obtain ⟨t,q⟩:=(show ∃ t,u=Value.int i t from rx); cases q; exact PySem.W.kia_one PySem.W.kitx_int I.kIn True.intro e (fun z=>nomatch z) h
 | str y=>obtain ⟨t,q⟩:=(show ∃ t,u=Value.str y t from rx); cases q; exact PySem.W.kia_one PySem.W.kitx_str I.kIn True.intro e (fun z=>nomatch z) h
 | flt y=>obtain ⟨t,q⟩:=(show ∃ t,u=Value.float y t from rx); cases q; exact PySem.W.kia_one PySem.W.kitx_float I.kIn True.intro e (fun z=>nomatch z) h
 | @lst a xs ea=>
  cases (show u=Value.ref a from rx)
  obtain ⟨_,_,n,_,h1⟩:=(show ObjOk X.prog X.w H s.heap a (.lst xs) from I.hok a _ ea)
  exact PySem.W.kia_one PySem.W.kitx_list I.kIn ⟨_,h1,rfl⟩ e (fun z=>nomatch z) h
 | @frz a ob xs ea=>
  cases (show u=Value.ref a from rx)
  obtain ⟨_,_,_,n,_,h1⟩:=(show ObjOk X.prog X.w H s.heap a (.frz ob (.lst xs)) from I.hok a _ ea)
  exact PySem.W.kia_one PySem.W.kitx_list I.kIn ⟨_,h1,rfl⟩ e (fun z=>nomatch z) h
 | @tup a xs ea=>
  cases (show u=Value.ref a from rx)
  obtain ⟨_,_,_,p⟩:=(show ObjOk X.prog X.w H s.heap a (.tup xs) from I.hok a _ ea)
  obtain ⟨o,h1,h2,_⟩:=p
  exact PySem.W.kia_one PySem.W.kitx_tuple I.kIn ⟨o,h1,h2⟩ e (fun z=>nomatch z) h
 | @dK a kvs ea=>
  cases (show u=Value.ref a from rx)
  obtain ⟨_,_,vs,_,p⟩:=(show ObjOk X.prog X.w H s.heap a (.dK kvs) from I.hok a _ ea)
  obtain ⟨o,es,ep,h1,h2,_⟩:=p
  exact PySem.W.kia_one PySem.W.kitx_dict I.kIn ⟨o,h1,h2.1⟩ e (fun z=>nomatch z) h
 | @dT a kvs ea=>
  cases (show u=Value.ref a from rx)
  obtain ⟨_,_,xs,_,o,es,ep,h1,h2,_⟩:=(show ObjOk X.prog X.w H s.heap a (.dT kvs) from I.hok a _ ea)
  exact PySem.W.kia_one PySem.W.kitx_dict I.kIn ⟨o,h1,h2.1⟩ e (fun z=>nomatch z) h
 | @ins a C dx fs ea cl ha hn htk hm=>
  cases (show u=Value.ref a from rx)
  obtain ⟨mA,O,_⟩:=jk I.hok ea
  obtain ⟨od,J,_⟩:=O.look
  exact PySem.W.kia_one (PySem.W.kitx_own (cl.get _) cl.hd ha hn htk hm) I.kIn J e (fun z=>nomatch z) h
end
end L2
namespace L2
open PySem PySem.Spec PyProof.Rows
structure Room (k:Nat) (A:Around):Prop where
 hd:A.handled=none
 dp:A.depth+3*k+5 < recursionLimit
 un:A.units+16*k+200 < cLine
theorem Room.mono {j k:Nat} {A:Around} (r:Room k A) (h:j≤k):Room j A:=⟨r.hd,by have:=r.dp; omega,by have:=r.un; omega⟩
theorem Room.deeper {k:Nat} {A:Around} (r:Room (k+1) A) (env:Env):Room k (A.deeper env):=
 ⟨r.hd,by have:=r.dp; show A.depth+1+3*k+5 < _; omega,by have:=r.un; show A.units+3+16*k+200 < _; omega⟩
theorem qf {A:Around} {C:Addr} {us:List Value} {kw:List (Str × Value)}:(A.under (.builtin "type.__call__" ⟨.ref C::us,kw⟩)).depth=A.depth+1:=by
 first | rfl | simp [Around.under,Code.weight,Code.isCreation,Code.isGuard,Code.isCaller,Code.frames,Code.isFrame,guardIds]
theorem qg {A:Around} {C:Addr} {us:List Value} {kw:List (Str × Value)}:(A.under (.builtin "type.__call__" ⟨.ref C::us,kw⟩)).units=A.units+1:=by
 first | rfl | simp [Around.under,Code.cUnits,Code.frames,Code.isFrame]
theorem Room.make {k:Nat} {A:Around} (r:Room (k+1) A) (C:Addr) (us:List Value) (kw:List (Str × Value)):Room k (A.under (.builtin "type.__call__" ⟨.ref C::us,kw⟩)):=
 ⟨r.hd,by have:=r.dp; rw [qf]; omega,by have:=r.un; rw [qg]; omega⟩
theorem Room.depth {k:Nat} {A:Around} (r:Room k A):A.depth < recursionLimit:=by have:=r.dp; omega
theorem Room.units {k:Nat} {A:Around} (r:Room k A):A.units+64 < cLine:=by have:=r.un; omega
def tNil:TA:=fun _ H Q=>Q [] H
def tCons (ta:TE) (tr:TA):TA:=fun σ H Q=>ta σ H fun x H1=>tr σ H1 fun xs H2=>Q (x::xs) H2
section
variable {X:Cx} {e:Expr} {es:List Expr} {te:TE} {t:TA} {pos:Pos}
theorem ac:PA X [] tNil:=fun _ _ _ _ H Q I h=>Calls.spliced_nil ⟨[],H,I,.nil,h⟩
theorem aa (ha:PE X e te) (hr:PA X es t) (hs:starEach (e::es) X.env=(false,eval e X.env)::starEach es X.env:=by rfl):PA X (e::es) (tCons te t):=by
 intro pos pins s σ H Q I h
 rw [hs]
 show wpAny _ _ (spliced ((false,eval e X.env)::backTo pos (starEach es X.env))) _ _ s
 refine Calls.spliced_cons (thn (ha pins s σ H _ I h) fun u s1 ⟨x,H1,I1,r1,q1⟩=>?_)
 exact thn (hr pos pins s1 σ H1 _ I1 q1) fun us s2 ⟨xs,H2,I2,r2,q2⟩=>⟨x::xs,H2,I2,.cons r1 r2,q2⟩
def tTup (t:TA):TE:=fun σ H Q=>t σ H fun xs H1=>xs.length≤sizeLine∧∀ p,H1 p=none→Q (.ref p) (upd H1 p (.tup xs))
def tLst (t:TA):TE:=fun σ H Q=>t σ H fun xs H1=>xs.length≤sizeLine∧∀ p,H1 p=none→Q (.ref p) (upd H1 p (.lst xs))
theorem c6 {x1} (h:PA X es t):PE X (.Tuple es x1 pos) (tTup t):=by
 intro pins s σ H Q I hq
 refine wpAny_Tuple_spliced (thn (h pos pins s σ H _ I hq) fun us s1 ⟨xs,H1,I1,r,z,q⟩=>⟨by rw [← r.length]; exact z,?_⟩)
 have hf:H1 s1.heap.objs.size=none:=I1.hok.fresh (Nat.le_refl _)
 refine ⟨.ref s1.heap.objs.size,upd H1 s1.heap.objs.size (.tup xs),I1.laid (t':=s1.toks) (fun b u e=>Heap.get?_push_of_some _ e) (Nat.le_refl _) ?_,rfl,q _ hf⟩
 exact ⟨z,us,r,⟨_,Heap.get?_push_size _ rfl,rfl,_,rfl⟩⟩
theorem aJ (h:PA X es t):PE X (.List es pos) (tLst t):=by
 intro pins s σ H Q I hq
 refine wpAny_List_spliced (thn (h pos pins s σ H _ I hq) fun us s1 ⟨xs,H1,I1,r,z,q⟩=>⟨by rw [← r.length]; exact z,?_⟩)
 have hf:H1 s1.heap.objs.size=none:=I1.hok.fresh (Nat.le_refl _)
 refine ⟨.ref s1.heap.objs.size,upd H1 s1.heap.objs.size (.lst xs),I1.laid (t':=s1.toks) (fun b u e=>Heap.get?_push_of_some _ e) (Nat.le_refl _) ?_,rfl,q _ hf⟩
 exact ⟨z,us,0,r,Heap.get?_push_size _ rfl⟩
end
abbrev Sp:=List V→Hp→VK→XK→Prop
abbrev CXT:=List Env→Hp→Shared→XK→Value→Shared→Prop
structure Env0 (P:Program) (w:World) (K:PySem.W.Frag) (mg:Str→Option Value) (base:Heap) (A:Around) (outer:List Env) (s:Shared) (H:Hp):Prop where
 frames:A.frames=some outer
 mod:Mod K mg base
 bs:∀ b o,base.get? b=some o→s.heap.get? b=some o∧H b=none
 bsz:base.objs.size≤s.heap.objs.size
 funs:s.heap.FunFrames base outer
 frf:∀ b∈frs outer,H b=none
 hok:HOk P w H s.heap
 bare:AllBare s.gens
def CE (outer:List Env) (P:Program) (w:World) (H:Hp) (s:Shared) (Q:VK) (u:Value) (s':Shared):Prop:=
 ∃ v H',s'.os=s.os∧AllBare s'.gens∧Un (frs outer) [] H H' s.heap s'.heap∧HOk P w H' s'.heap∧RelV v u∧Q v H'
def CR (CX:CXT) (outer:List Env) (P:Program) (w:World) (H:Hp) (s:Shared) (Q:VK) (E:XK) (r:Result) (s':Shared):Prop:=
 match r with
 | .ok (.ret u)=>CE outer P w H s Q u s'
 | .ok _=>False
 | .error e=>CX outer H s E e s'
structure FnOk (P:Program) (w:World) (K:PySem.W.Frag) (mg:Str→Option Value) (base:Heap) (CX:CXT) (k:Nat) (f:Addr) (fd:FuncData) (ps:List Str) (sp:Sp):Prop where
 len:∀ vs H Q E,sp vs H Q E→vs.length=ps.length
 run:∀ (A:Around) (outer:List Env) (s:Shared) (H:Hp) (args:Args) (us:List Value) (vs:List V) (Q:VK) (E:XK),Room k A→Env0 P w K mg base A outer s H→BindsTo s fd args (ps.zip us)→Vals vs us→sp vs H Q E→
  codeAny (model P w) A (.call (.ref f) args) (CR CX outer P w H s Q E) s
theorem FnOk.mono {P:Program} {w:World} {K:PySem.W.Frag} {mg:Str→Option Value} {base:Heap} {CX:CXT} {j k:Nat} {f:Addr} {fd:FuncData} {ps:List Str} {sp:Sp} (F:FnOk P w K mg base CX j f fd ps sp) (h:j≤k):
  FnOk P w K mg base CX k f fd ps sp:=⟨F.len,fun A outer s H args us vs Q E hr=>F.run A outer s H args us vs Q E (hr.mono h)⟩
theorem FnOk.imp {P:Program} {w:World} {K:PySem.W.Frag} {mg:Str→Option Value} {base:Heap} {CX:CXT} {k:Nat} {f:Addr} {fd:FuncData} {ps:List Str} {sp sp':Sp} (F:FnOk P w K mg base CX k f fd ps sp)
  (h:∀ vs H Q E,sp' vs H Q E→sp vs H Q E):FnOk P w K mg base CX k f fd ps sp':=
 ⟨fun vs H Q E q=>F.len vs H Q E (h _ _ _ _ q),fun A outer s H args us vs Q E hr he hb hv hs=>F.run A outer s H args us vs Q E hr he hb hv (h _ _ _ _ hs)⟩
theorem Env0.make {P:Program} {w:World} {K:PySem.W.Frag} {mg:Str→Option Value} {base:Heap} {A:Around} {outer:List Env} {s:Shared} {H:Hp} (e:Env0 P w K mg base A outer s H) (C:Addr) (us:List Value) (kw:List (Str × Value)):
  Env0 P w K mg base (A.under (.builtin "type.__call__" ⟨.ref C::us,kw⟩)) outer s H:=⟨by first | exact e.frames | (simpa [Around.under,Code.envs,Code.isFrame,pushEnvs] using e.frames),e.mod,e.bs,e.bsz,e.funs,e.frf,e.hok,e.bare⟩
section
variable {X:Cx} {pins:List (Addr × Obj)} {σ:St} {H:Hp} {s s':Shared}
theorem Inv.env0 (I:Inv X pins σ H s):Env0 X.prog X.w X.K X.mg X.base X.A X.stack s H:=
 ⟨I.ok.frames,I.ok.mod,I.bs,Nat.le_trans I.ok.bsz I.sz,I.stack,I.stkFree,I.hok,I.bare⟩
theorem Inv.after {Q:VK} {u:Value} (I:Inv X pins σ H s) (h:CE X.stack X.prog X.w H s Q u s'):EP X pins σ Q u s':=by
 obtain ⟨v,H',os,bare,un,hok,r,q⟩:=h
 obtain ⟨hh,g,d,t,os'⟩:=s'
 obtain rfl:os'=s.os:=os
 exact ⟨v,H',I.call (h':=hh) (g':=g) (d':=d) (t':=t) (ch:=[]) un hok bare (fun b z=>absurd z (by simp)),r,q⟩
end
def tCall (sp:Sp) (dvs:List V) (E:XK) (t:TA):TE:=fun σ H Q=>t σ H fun vs H1=>sp (vs++dvs) H1 Q E
def tMake (C:Addr) (sp:Sp) (dvs:List V) (E:XK) (t:TA):TE:=fun σ H Q=>t σ H fun vs H1=>∀ x dx,H1 x=none→H1 dx=none→dx≠x→
 sp (.ref x::(vs++dvs)) (upd (upd H1 dx (.own x)) x (.ins C dx [])) (fun v H2=>v=.non∧Q (.ref x) H2) E
def Binds (K:PySem.W.Frag) (fd:FuncData) (ps:List Str) (ds:List Value):Prop:=
 ∀ (s:Shared) (us:List Value),K.In s.heap→(us++ds).length=ps.length→BindsTo s fd ⟨us,[]⟩ (ps.zip (us++ds))
theorem Binds.all {K:PySem.W.Frag} {fd:FuncData} {ps:List Str} (h:∀ us:List Value,us.length=ps.length→bindArgs fd ⟨us,[]⟩=pure (ps.zip us)):Binds K fd ps []:=fun s us _ hl=>by
 rw [List.append_nil] at hl ⊢
 exact .of_eq (h us hl)
def dt (CX:CXT) (X:Cx) (E:XK):Prop:=∀ (pins:List (Addr × Obj)) (σ:St) (H:Hp) (s:Shared) (e:Value) (s':Shared),Inv X pins σ H s→CX X.stack H s E e s'→X.xe e s'
section
variable {X:Cx} {CX:CXT} {k:Nat} {f C:Addr} {fd:FuncData} {ps:List Str} {sp:Sp} {dvs:List V} {ds:List Value} {E:XK} {x m:Str} {p pos apos:Pos} {e o:Expr} {es:List Expr} {ta:TE} {t:TA}
theorem rb {pins:List (Addr × Obj)} {σ:St} {H:Hp} {s:Shared} {Q:VK} {us:List Value} {vs:List V} (F:FnOk X.prog X.w X.K X.mg X.base CX k f fd ps sp) (hr:Room k X.A) (hb:Binds X.K fd ps ds) (hd:Vals dvs ds) (hx:dt CX X E)
  (I:Inv X pins σ H s) (r:Vals vs us) (h:sp (vs++dvs) H Q E):wpAny (model X.prog X.w) X.A (call (.ref f) us) (EP X pins σ Q) X.xe s:=by
 have r2:Vals (vs++dvs) (us++ds):=r.append hd
 have hl:(us++ds).length=ps.length:=by rw [← r2.length]; exact F.len _ _ _ _ h
 refine wpAny_call (codeAny_mono (F.run X.A X.stack s H ⟨us,[]⟩ (us++ds) (vs++dvs) Q E hr I.env0 (hb s us I.kIn hl) r2 h) fun r s' hq=>?_)
 cases r with
 | error e=>exact hx pins σ H s e s' I hq
 | ok fl=>
  cases fl with
  | ret u=>exact I.after hq
  | next=>exact False.elim hq
  | brk=>exact False.elim hq
  | cont=>exact False.elim hq
theorem pR (F:FnOk X.prog X.w X.K X.mg X.base CX k f fd ps sp) (hr:Room k X.A) (hg:Gl X x) (hm:X.mg x=some (.ref f)) (hk:PySem.W.keepIn X.K (.ref f)=true) (hb:Binds X.K fd ps ds) (hd:Vals dvs ds) (hx:dt CX X E)
  (ha:PA X (e::es) t) (hdb:(x==("__debug__":Str))=false:=by decide) (he:starEach (e::es) X.env=(false,eval e X.env)::starEach es X.env:=by rfl) (hpl:(backTo pos (starEach es X.env)).any (·.1)=false:=by rfl):
  PE X (.Call (.Name x p) (e::es) [] pos) (tCall sp dvs E t):=by
 intro pins s σ H Q I h
 refine wpAny_Call_Name_kw (fS I hg hm ?_ hdb)
 refine PySem.W.callWith_K (h₀:=X.base) I.ok.mod.kin hk (thn (ha pos pins s σ H _ I h) fun us s1 ⟨vs,H1,I1,r,q⟩=>⟨I1.kIn,?_⟩) he hpl
 exact rb F hr hb hd hx I1 r q
structure Mk (K:PySem.W.Frag) (C f:Addr):Prop where
 makes:PySem.W.makesIn K C=true
 init:PySem.W.findIn K (.ref C) "__init__"=some (some (.ref f))
 fn:PySem.W.isFn K (.ref f)=true
 kp:PySem.W.keepIn K (.ref C)=true
theorem sr {pins:List (Addr × Obj)} {σ:St} {H:Hp} {s:Shared} {Q:VK} {us:List Value} {vs:List V} (M:Mk X.K C f) (F:FnOk X.prog X.w X.K X.mg X.base CX k f fd ps sp) (hr:Room (k+1) X.A) (hb:Binds X.K fd ps ds) (hd:Vals dvs ds)
  (hx:dt CX X E) (I:Inv X pins σ H s) (r:Vals vs us)
  (h:∀ x dx,H x=none→H dx=none→dx≠x→sp (.ref x::(vs++dvs)) (upd (upd H dx (.own x)) x (.ins C dx [])) (fun v H2=>v=.non∧Q (.ref x) H2) E):
  wpAny (model X.prog X.w) X.A (call (.ref C) us) (EP X pins σ Q) X.xe s:=by
 have hq:=h (s.heap.objs.size+1) s.heap.objs.size (I.hok.fresh (Nat.le_succ _)) (I.hok.fresh (Nat.le_refl _)) (Nat.ne_of_lt (Nat.lt_succ_self _))
 have I2:=Inv.made (C:=C) I
 have r2:Vals (V.ref (s.heap.objs.size+1)::(vs++dvs)) (Value.ref (s.heap.objs.size+1)::(us++ds)):=.cons rfl (r.append hd)
 have hl:(Value.ref (s.heap.objs.size+1)::us++ds).length=ps.length:=by
  have e:=r2.length
  rw [F.len _ _ _ _ hq] at e
  exact e.symm
 refine wpAny_call (oi (f:=f) I.kIn M.makes M.init (beq_iff_eq.mp M.fn) (codeAny_mono (F.run _ X.stack _ _ ⟨Value.ref (s.heap.objs.size+1)::us,[]⟩ (Value.ref (s.heap.objs.size+1)::(us++ds)) _ _ E (hr.make C us [])
  (I2.env0.make C us []) (hb _ (Value.ref (s.heap.objs.size+1)::us) I2.kIn hl) r2 hq) fun r s' hq'=>?_))
 cases r with
 | error e=>exact hx pins σ _ _ e s' I2 hq'
 | ok fl=>
  cases fl with
  | ret u=>
   obtain ⟨v,H',I3,rv,ev,q3⟩:=I2.after hq'
   subst ev
   exact ⟨rv,⟨V.ref (s.heap.objs.size+1),H',I3,rfl,q3⟩⟩
  | next=>exact False.elim hq'
  | brk=>exact False.elim hq'
  | cont=>exact False.elim hq'
theorem pS (M:Mk X.K C f) (F:FnOk X.prog X.w X.K X.mg X.base CX k f fd ps sp) (hr:Room (k+1) X.A) (hg:Gl X x) (hm:X.mg x=some (.ref C)) (hb:Binds X.K fd ps ds) (hd:Vals dvs ds) (hx:dt CX X E)
  (ha:PA X (e::es) t) (hdb:(x==("__debug__":Str))=false:=by decide) (he:starEach (e::es) X.env=(false,eval e X.env)::starEach es X.env:=by rfl) (hpl:(backTo pos (starEach es X.env)).any (·.1)=false:=by rfl):
  PE X (.Call (.Name x p) (e::es) [] pos) (tMake C sp dvs E t):=by
 intro pins s σ H Q I h
 refine wpAny_Call_Name_kw (fS I hg hm ?_ hdb)
 refine PySem.W.callWith_K (h₀:=X.base) I.ok.mod.kin M.kp (thn (ha pos pins s σ H _ I h) fun us s1 ⟨vs,H1,I1,r,q⟩=>⟨I1.kIn,?_⟩) he hpl
 exact sr M F hr hb hd hx I1 r q
end
section
variable {X:Cx} {CX:CXT} {k:Nat} {f C:Addr} {fd:FuncData} {ps ks:List Str} {sp:Sp} {E:XK} {x m:Str} {p pos apos kpos:Pos} {e o:Expr} {es:List Expr} {kws:List Keyword} {te ta:TE} {t tk:TA} {nm:Option Str}
variable {g:List Value→List Value→List Value} {gV:List V→List V→List V}
end
structure ay (N P:List Str) (sc:Scope):Prop where
 kind:sc.kind=.function
 co:sc.isCoroutine=false
 gen:sc.isGenerator=false
 nd:N.Nodup
 pre:N.take P.length=P
 par:∀ x∈P,sc.names.lookup x=some .local∨sc.names.lookup x=some .cell
 nofree:∀ y∈sc.names,y.2≠.free
theorem mT {kindOf:Str→Option NameKind} {x:Str}:∀ {binds:List (Str × Value)} {m:Str→Option Value},(∀ v,(x,v)∉binds)→bindL kindOf binds m x=m x
 | [],_,_=>rfl
 | (n,v)::r,m,h=>by
  unfold bindL
  rw [mT fun w hw=>h w (List.mem_cons_of_mem _ hw)]
  split
  · have:x≠n:=by rintro rfl; exact h v List.mem_cons_self
    simp [this]
  · rfl
theorem mU {kindOf:Str→Option NameKind} {x:Str}:∀ {binds:List (Str × Value)} {m:Str→Option Value},(∀ v,(x,v)∉binds)→bindC kindOf binds m x=m x
 | [],_,_=>rfl
 | (n,v)::r,m,h=>by
  unfold bindC
  rw [mU fun w hw=>h w (List.mem_cons_of_mem _ hw)]
  split
  · rfl
  · have:x≠n:=by rintro rfl; exact h v List.mem_cons_self
    simp [this]
theorem mV {kindOf:Str→Option NameKind} {x:Str} {v:Value}:∀ {P:List Str} {vs:List Value} {i:Nat} {m:Str→Option Value},P.Nodup→P[i]? =some x→vs[i]? =some v→kindOf x=some .local→
  bindL kindOf (P.zip vs) m x=some v
 | [],_,_,_,_,h,_,_=>by simp at h
 | _::_,[],_,_,_,_,h,_=>by simp at h
 | p::P,w::vs,0,m,nd,h1,h2,hk=>by
  simp at h1 h2; subst h1; subst h2
  show bindL kindOf ((p,w)::P.zip vs) m p=_
  unfold bindL
  rw [mT fun v hv=>(List.nodup_cons.mp nd).1 (List.of_mem_zip hv).1,if_pos hk]
  simp
 | p::P,w::vs,i+1,m,nd,h1,h2,hk=>by
  show bindL kindOf ((p,w)::P.zip vs) m x=_
  unfold bindL
  exact mV (i:=i) (List.nodup_cons.mp nd).2 (by simpa using h1) (by simpa using h2) hk
theorem mW {kindOf:Str→Option NameKind} {x:Str} {v:Value}:∀ {P:List Str} {vs:List Value} {i:Nat} {m:Str→Option Value},P.Nodup→P[i]? =some x→vs[i]? =some v→kindOf x≠some .local→
  bindC kindOf (P.zip vs) m x=some v
 | [],_,_,_,_,h,_,_=>by simp at h
 | _::_,[],_,_,_,_,h,_=>by simp at h
 | p::P,w::vs,0,m,nd,h1,h2,hk=>by
  simp at h1 h2; subst h1; subst h2
  show bindC kindOf ((p,w)::P.zip vs) m p=_
  unfold bindC
  rw [mU fun v hv=>(List.nodup_cons.mp nd).1 (List.of_mem_zip hv).1,if_neg hk]
  simp
 | p::P,w::vs,i+1,m,nd,h1,h2,hk=>by
  show bindC kindOf ((p,w)::P.zip vs) m x=_
  unfold bindC
  exact mW (i:=i) (List.nodup_cons.mp nd).2 (by simpa using h1) (by simpa using h2) hk
def start (N:List Str) (vs:List V):St:=vs.map some++List.replicate (N.length - vs.length) none
def cxOf (CX:CXT) (P:Program) (w:World) (K:PySem.W.Frag) (mg:Str→Option Value) (base:Heap) (N:List Str) (qual:Str) (scope:Scope) (f:Addr) (cd:Value) (A:Around) (outer:List Env) (s:Shared) (H:Hp) (E:XK):Cx where
 prog:=P
 w:=w
 K:=K
 mg:=mg
 base:=base
 A:=A.deeper (envOfC qual scope s.heap.objs.size f cd)
 N:=N
 s₀:=s
 H₀:=H
 env:=envOfC qual scope s.heap.objs.size f cd
 outer:=outer
 stack:=envOfC qual scope s.heap.objs.size f cd::outer
 ex:=[]
 calm:=true
 fn:=fun _=>true
 pn:=[]
 xe:=fun e s'=>wpAny (model P w) (A.deeper (envOfC qual scope s.heap.objs.size f cd)) (leaving (envOfC qual scope s.heap.objs.size f cd) e) (fun _ s''=>CX outer H s E e s'') (fun e' s''=>CX outer H s E e' s'') s'
theorem ij {sc:Scope} {n:Nat} {x:Str} (h:sc.names.lookup x=some .cell):∃ c,(cellsFrom n sc.names []).lookup x=some c:=by
 have q:=PySem.W.cellsFrom_some sc.names n [] (.inl h)
 exact Option.isSome_iff_exists.mp q
theorem rd {CX:CXT} {P:Program} {w:World} {K:PySem.W.Frag} {mg:Str→Option Value} {base:Heap} {N ps:List Str} {qual:Str} {scope:Scope} {f:Addr} {cd:Value} {A:Around} {outer:List Env} {s s1:Shared} {H:Hp} {E:XK} {us:List Value} {vs:List V}
  (S:ay N ps scope) (hd:A.handled=none) (e0:Env0 P w K mg base A outer s H) (hl:vs.length=ps.length) (r:Vals vs us)
  (x:InCallC s s.heap.objs.size (bindL (envOfC qual scope s.heap.objs.size f cd).kindOf (ps.zip us) fun _=>none) (cellsFrom (s.heap.objs.size+1) scope.names []) (bindC (envOfC qual scope s.heap.objs.size f cd).kindOf (ps.zip us) fun _=>none) s1):
  Inv (cxOf CX P w K mg base N qual scope f cd A outer s H E) [] (start N vs) H s1:=by
 have hpl:ps.length≤N.length:=by have:=congrArg List.length S.pre; rw [List.length_take] at this; omega
 obtain ⟨h1,tk,rfl,hk⟩:=x.done
 have noA:∀ b:Addr,b∉(cxOf CX P w K mg base N qual scope f cd A outer s H E).ex:=fun b z=>absurd (show b∈([]:List Addr) from z) (by simp)
 refine ⟨⟨e0.mod,S.kind,rfl,rfl,Nat.le_refl _,fun y z c h1 h2=>?_,fun y hy=>?_,fun y c _ h=>?_,fun _=>hd,Around.frames_deeper e0.frames,.inr ⟨rfl,rfl⟩,fun b z=>absurd z (noA b),e0.bs,e0.bsz,fun b _ _=>noA b,fun b z=>absurd z (noA b),e0.funs,e0.frf⟩,
  rfl,e0.bare,Un.kept hk,⟨_,x.toInCall.ns,fun i y v h1 h2 h3=>?_⟩,fun y c h=>⟨_,x.cell y c h⟩,e0.hok.fresh (Nat.le_refl _),fun y c h=>?_,fun p hp=>absurd (show p∈([]:List (Addr × Obj)) from hp) (by simp),e0.hok.kept hk,?_⟩
 · exact name_of_addr x.apart (PySem.mem_of_lookup h1) (PySem.mem_of_lookup h2)
 · have hy:scope.names.lookup y=some .cell∨scope.names.lookup y=some .free:=hy
   rcases hy with hy | hy
   · exact ij hy
   · exact absurd rfl (S.nofree _ (PySem.mem_of_lookup hy))
 · exact Nat.le_of_lt (x.above y c (PySem.mem_of_lookup h))
 · have hi:i < vs.length:=by
    unfold start at h2
    by_cases hi:i < vs.length
    · exact hi
    · rw [List.getElem?_append_right (by simpa using hi)] at h2
      rw [List.getElem?_replicate] at h2
      split at h2 <;> cases h2
   have ha:vs[i]? =some v:=by
    unfold start at h2
    rw [List.getElem?_append_left (by simpa using hi),List.getElem?_map] at h2
    cases e:vs[i]? with
    | none=>rw [e] at h2; cases h2
    | some a=>rw [e] at h2; cases h2; rfl
   obtain ⟨u,hu,rv⟩:=r.get ha
   have hp:ps[i]? =some y:=by
    rw [← S.pre,List.getElem?_take_of_lt (by omega)]; exact h1
   have ndP:ps.Nodup:=by rw [← S.pre]; exact S.nd.sublist (List.take_sublist _ _)
   refine ⟨u,rv,?_⟩
   rcases S.par y (List.mem_of_getElem? hp) with k | k
   · exact .inl ⟨k,mV ndP hp hu k⟩
   · obtain ⟨c,e⟩:=ij (n:=s.heap.objs.size+1) k
     refine .inr ⟨.inl k,c,e,?_⟩
     have q:=x.cell y c e
     rw [mW ndP hp hu (by show scope.names.lookup y≠_; rw [k]; decide)] at q
     exact q
 · exact e0.hok.fresh (Nat.le_of_lt (x.above y c (PySem.mem_of_lookup h)))
 · unfold start
   show _=N.length
   rw [List.length_append,List.length_map,List.length_replicate]
   omega
theorem sR {CX:CXT} {P:Program} {w:World} {K:PySem.W.Frag} {mg:Str→Option Value} {base:Heap} {k:Nat} {f:Addr} {name qual:Str} {params:Arguments} {body:List Stmt} {scope:Scope} {dV kV doc pm cdv ct oc:Value} {an od:Option Addr}
  {osl:Array (Option Value)} {N ps:List Str} {sp:Sp} (lk:K.lookup f=some ⟨oc,od,.func (PySem.W.fnOf name qual params body scope dV kV doc pm an cdv ct),osl⟩) (hcd:PySem.W.codeIn K cdv qual=true) (S:ay N ps scope)
  (len:∀ vs H Q E,sp vs H Q E→vs.length=ps.length)
  (hbody:∀ (A:Around) (outer:List Env) (s:Shared) (H:Hp) (vs:List V) (Q:VK) (E:XK),Room k (A.deeper (envOfC qual scope s.heap.objs.size f cdv))→sp vs H Q E→
   ∃ t,PSs (cxOf CX P w K mg base N qual scope f cdv A outer s H E) body t∧t { nx:=fun _ H'=>Q .non H',rt:=Q } (start N vs) H):
  FnOk P w K mg base CX (k+1) f (PySem.W.fnOf name qual params body scope dV kV doc pm an cdv ct) ps sp:=by
 refine ⟨len,fun A outer s H args us vs Q E hr e0 hb r hsp=>?_⟩
 have hl:=len _ _ _ _ hsp
 have KX:K.In s.heap:=e0.mod.kin.keeps fun b o e=>(e0.bs b o e).1
 have lim:s.heap.NoLimit:=e0.mod.nolimit.keeps fun b o e=>(e0.bs b o e).1
 have hkind:∀ y∈ps.zip us,scope.names.lookup y.1=some .local∨(scope.names.lookup y.1=some .cell∧((cellsFrom (s.heap.objs.size+1) scope.names []).lookup y.1).isSome=true):=fun ⟨n,v⟩ hy=>by
  rcases S.par n (List.of_mem_zip hy).1 with q | q
  · exact .inl q
  · exact .inr ⟨q,PySem.W.cellsFrom_some _ _ _ (.inl q)⟩
 refine codeAny_call_function hr.depth (KX _ _ lk) rfl S.co S.gen rfl (PySem.W.codeRec_of KX hcd) (hb _ _ _ _ ?_)
 refine wpAny_newFunctionEnv_cells S.kind hkind fun env he s1 x=>?_
 subst he
 refine ⟨lim.keeps x.toInCall.keep,codeAny_func ?_⟩
 obtain ⟨t,ht,hq⟩:=hbody A outer s H vs Q E (hr.deeper _) hsp
 have I:Inv (cxOf CX P w K mg base N qual scope f cdv A outer s H E) [] (start N vs) H s1:=rd S hr.hd e0 hl r x
 refine wpAny_mono (ht [] s1 (start N vs) H _ I hq) (fun fl s' hs=>?_) fun e s' hs=>hs
 have fin:∀ {σ':St} {H':Hp} {v:V} {u:Value},Inv (cxOf CX P w K mg base N qual scope f cdv A outer s H E) [] σ' H' s'→RelV v u→Q v H'→CE outer P w H s Q u s':=
  fun {σ' H' v u} J rv q=>⟨v,H',J.os,J.bare,J.base,J.hok,rv,q⟩
 cases fl with
 | ret u=>
  obtain ⟨v,σ',H',J,rv,q⟩:=hs
  exact fin J rv q
 | next=>
  obtain ⟨σ',H',J,q⟩:=hs
  exact fin (v:=V.non) (u:=Value.none) J rfl q
 | brk=>
  obtain ⟨_,_,_,q⟩:=hs
  exact False.elim q
 | cont=>
  obtain ⟨_,_,_,q⟩:=hs
  exact False.elim q
end L2
namespace L2
open PySem PySem.Spec PyProof.Rows
section
variable {X:Cx} {x:Str} {p pos:Pos} {e:Expr} {es:List Expr} {t:TA} {id T:String} {r:List V→Hp→VK→Prop}
def tCB (r:List V→Hp→VK→Prop) (t:TA):TE:=fun σ H Q=>t σ H fun vs H1=>r vs H1 Q
theorem aw (hc:CallR X (.builtin id) r) (hg:Gl X x) (hm:X.mg x=none) (hv:bootBuiltins x=some (.builtin id)) (ha:PA X (e::es) t) (hn:x≠"__name__":=by decide) (hdb:(x==("__debug__":Str))=false:=by decide)
  (he:starEach (e::es) X.env=(false,eval e X.env)::starEach es X.env:=by rfl) (hpl:(backTo pos (starEach es X.env)).any (·.1)=false:=by rfl):PE X (.Call (.Name x p) (e::es) [] pos) (tCB r t):=by
 intro pins s σ H Q I h
 refine wpAny_Call_Name_kw (dr I hg hm hv ?_ hn hdb)
 exact PyProof.Rows.callWith_builtin1 (thn (ha pos pins s σ H _ I h) fun us s1 ⟨vs,H1,I1,r1,q1⟩=>hc pins s1 σ H1 vs us Q I1 r1 q1) he hpl
theorem aL (hc:CallR X (.type T) r) (hg:Gl X x) (hm:X.mg x=none) (hv:bootBuiltins x=some (.type T)) (ha:PA X (e::es) t) (hn:x≠"__name__":=by decide) (hdb:(x==("__debug__":Str))=false:=by decide)
  (he:starEach (e::es) X.env=(false,eval e X.env)::starEach es X.env:=by rfl) (hpl:(backTo pos (starEach es X.env)).any (·.1)=false:=by rfl):PE X (.Call (.Name x p) (e::es) [] pos) (tCB r t):=by
 intro pins s σ H Q I h
 refine wpAny_Call_Name_kw (dr I hg hm hv ?_ hn hdb)
 exact PyProof.Rows.callWith_type1 (thn (ha pos pins s σ H _ I h) fun us s1 ⟨vs,H1,I1,r1,q1⟩=>hc pins s1 σ H1 vs us Q I1 r1 q1) he hpl
end
end L2
namespace HT
open PySem PyProof.Rows
section
open PySem.SeqAt
open PySem.AutoSeq1 (wpAny_loadPart')
open PySem.MeetsSeq PySem.MeetsSeq2 PySem.MeetsSeq3
end
section
variable {prog:Program} {w:World} {A:Around} {E:Value→Shared→Prop} {s:Shared}
def sIx (n d:Nat):Option Int→Nat
 | none=>d
 | some v=>if v < 0 then (v+(n:Int)).toNat else min v.toNat n
theorem sIx_none (n d:Nat):sIx n d none=d:=rfl
theorem sIx_nat (n d k:Nat):sIx n d (some (k:Int))=min k n:=by
 show (if (k:Int) < 0 then ((k:Int)+(n:Int)).toNat else min (k:Int).toNat n)=min k n
 rw [if_neg (by omega),Int.toNat_natCast]
end
end HT
namespace L2
open PySem PySem.Spec PyProof.Rows
abbrev TO:=St→Hp→(Option Int→Hp→Prop)→Prop
def PO (X:Cx) (e:Option Expr) (t:TO):Prop:=
 ∀ (pins:List (Addr × Obj)) (s:Shared) (σ:St) (H:Hp) (Q:Option Int→Hp→Prop),Inv X pins σ H s→t σ H Q→
  wpAny (model X.prog X.w) X.A (evalPart e X.env) (fun u s'=>∃ o H',Inv X pins σ H' s'∧IsPart u o∧Q o H') X.xe s
def bI:TO:=fun _ H Q=>Q none H
def tPart (t:TE):TO:=fun σ H Q=>t σ H fun x H1=>∃ i,x=.int i∧Q (some i) H1
theorem qh {ns:List Int}:∀ {us:List Value},Vals (ns.map V.int) us→IntsAre us ns:=by
 induction ns with
 | nil=>intro us r; rw [List.map_nil] at r; cases r; exact .nil
 | cons n ns ih=>
  intro us r
  rw [List.map_cons] at r
  cases r with
  | cons r1 r2=>
   obtain ⟨t,e⟩:=r1
   subst e
   exact .cons n t (ih r2)
section
variable {X:Cx} {e:Expr} {te:TE} {lo hi:Option Expr} {tl th:TO} {pos p2:Pos}
theorem cy:PO X none bI:=by
 intro pins s σ H Q I h
 rw [evalPart_none]
 exact wpAny_pure ⟨none,H,I,.none,h⟩
theorem cz (h:PE X e te):PO X (some e) (tPart te):=by
 intro pins s σ H Q I hw
 rw [evalPart_some]
 refine thn (h pins s σ H _ I hw) fun u s1 ⟨x,H1,I1,r1,q1⟩=>?_
 obtain ⟨i,rfl,q⟩:=q1
 obtain ⟨t,rfl⟩:=r1
 exact ⟨some i,H1,I1,.int i t,q⟩
def SlR (X:Cx) (r:V→Option Int→Option Int→Hp→VK→Prop):Prop:=
 ∀ (pins:List (Addr × Obj)) (s:Shared) (σ:St) (H:Hp) (x:V) (v vl vu:Value) (lo hi:Option Int) (sl:Addr) (Q:VK),Inv X pins σ H s→RelV x v→s.heap.IsSliceOf sl vl vu .none→IsPart vl lo→IsPart vu hi→r x lo hi H Q→
  ∃ T id,typeLookup (.type T) "__getitem__"=pure (some (.builtin id))∧s.TypeIs v T∧wpAny (model X.prog X.w) X.A (getItem v (.ref sl)) (EP X pins σ Q) X.xe s
def tSl (r:V→Option Int→Option Int→Hp→VK→Prop) (te:TE) (tl th:TO):TE:=fun σ H Q=>te σ H fun x H1=>tl σ H1 fun l H2=>th σ H2 fun u H3=>r x l u H3 Q
theorem bP {r:V→Option Int→Option Int→Hp→VK→Prop} (hr:SlR X r) (he:PE X e te) (hl:PO X lo tl) (hu:PO X hi th):PE X (.Subscript e (.Slice lo hi none p2) pos) (tSl r te tl th):=by
 intro pins s σ H Q I h
 refine Subscript_ (thn (he pins s σ H _ I h) fun v s1 ⟨x,H1,I1,r1,q1⟩=>?_)
 refine wpAny_Slice (thn (hl pins s1 σ H1 _ I1 q1) fun vl s2 ⟨l,H2,I2,pl,q2⟩=>thn (hu pins s2 σ H2 _ I2 q2) fun vu s3 ⟨u,H3,I3,pu,q3⟩=>?_)
 rw [evalPart_none]
 refine wpAny_pure ?_
 have I4:Inv X pins σ H3 { s3 with heap:=s3.heap.push { cls:=.type "slice",data:=.fields #[vl,vu,.none] } }:=I3.kept (t':=s3.toks) fun b ob q=>Heap.get?_push_of_some _ q
 obtain ⟨T,id,hT,ht,hg⟩:=hr pins { s3 with heap:=s3.heap.push { cls:=.type "slice",data:=.fields #[vl,vu,.none] } } σ H3 x v vl vu l u s3.heap.objs.size Q I4 r1 (Heap.IsSliceOf.new ..) pl pu q3
 show wpAny (model X.prog X.w) X.A (subscriptTail e (.Slice lo hi none p2) v (.ref s3.heap.objs.size)) (EP X pins σ Q) X.xe { s3 with heap:=s3.heap.push { cls:=.type "slice",data:=.fields #[vl,vu,.none] } }
 exact tail_any (ops:=[.ref s3.heap.objs.size,v]) ht hT hg (by with_unfolding_all rfl)
def cutV (xs:List V) (lo hi:Option Int):List V:=(xs.drop (HT.sIx xs.length 0 lo)).take (HT.sIx xs.length xs.length hi - HT.sIx xs.length 0 lo)
theorem pD (xs:List V) (lo hi:Option Int):(cutV xs lo hi).length≤xs.length:=by
 unfold cutV
 rw [List.length_take,List.length_drop]
 omega
end
end L2
namespace L2
open PySem PySem.Spec PyProof.Rows
def ixN (n:Nat) (i:Int):Option Nat:=if 0≤i then (if i < n then some i.toNat else none) else if -(n:Int)≤i then some (i+n).toNat else none
def atI {α:Type} (xs:List α) (i:Int):Option α:=(ixN xs.length i).bind fun j=>xs[j]?
theorem tE {n:Nat} {i:Int} {j:Nat} (h:ixN n i=some j):seqIndex? i n=some j∧j < n∧ -(n:Int)≤i∧i < n:=by
 unfold ixN at h
 by_cases h0:0≤i
 · rw [if_pos h0] at h
   by_cases h1:i < n
   · rw [if_pos h1] at h
     have e:i.toNat=j:=Option.some.inj h
     exact ⟨by rw [seqIndex_of h0 h1,e],by omega,by omega,h1⟩
   · rw [if_neg h1] at h; cases h
 · rw [if_neg h0] at h
   by_cases h1: -(n:Int)≤i
   · rw [if_pos h1] at h
     have e:(i+n).toNat=j:=Option.some.inj h
     exact ⟨by rw [seqIndex_neg (by omega) h1,e],by omega,h1,by omega⟩
   · rw [if_neg h1] at h; cases h
theorem lW {α:Type} {xs:List α} {i:Int} {v:α} (h:atI xs i=some v):∃ j,seqIndex? i xs.length=some j∧xs[j]? =some v∧j < xs.length∧ -(xs.length:Int)≤i∧i < xs.length:=by
 unfold atI at h
 cases e:ixN xs.length i with
 | none=>rw [e] at h; cases h
 | some j=>
  rw [e] at h
  obtain ⟨h1,h2,h3,h4⟩:=tE e
  exact ⟨j,h1,h,h2,h3,h4⟩
theorem bd {α:Type} {xs:List α} {j:Nat} {v:α} (h:xs[j]? =some v):atI xs (j:Int)=some v:=by
 have hj:j < xs.length:=(List.getElem?_eq_some_iff.mp h).1
 have e:ixN xs.length (j:Int)=some j:=by
  unfold ixN
  rw [if_pos (by omega),if_pos (by omega)]; simp
 unfold atI; rw [e]; exact h
def tF (b:Expr):Prop:=∀ o i,subscripted b false o i=operate [o,i] (getItem o i)
def IxR (X:Cx) (r:R2):Prop:=
 ∀ (value slice:Expr) (pins:List (Addr × Obj)) (s:Shared) (σ:St) (H:Hp) (x y:V) (v u:Value) (Q:VK),Inv X pins σ H s→RelV x v→RelV y u→r x y H Q→
  subscripted slice false v u=operate [v,u] (getItem v u)→wpAny (model X.prog X.w) X.A (subscriptTail value slice v u) (EP X pins σ Q) X.xe s
def MtR (X:Cx) (id:String) (r:V→List V→Hp→VK→Prop):Prop:=
 ∀ (pins:List (Addr × Obj)) (s:Shared) (σ:St) (H:Hp) (x:V) (xs:List V) (v:Value) (us:List Value) (Q:VK),Inv X pins σ H s→RelV x v→Vals xs us→r x xs H Q→
  wpAny (model X.prog X.w) X.A (call (.builtin id) (v::us)) (EP X pins σ Q) X.xe s
section
variable {X:Cx} {a b:Expr} {ta tb:TE} {pos:Pos}
theorem aE {r:R2} (hr:IxR X r) (ha:PE X a ta) (hb:PE X b tb) (hs:tF b):PE X (.Subscript a b pos) (tOp r ta tb):=by
 intro pins s σ H Q I h
 exact Subscript_ (binT ha hb I h fun v u s2 x y H2 I2 rx ry q=>hr a b pins s2 σ H2 x y v u Q I2 rx ry q (hs _ _))
def rIxL (K:PySem.W.Frag):R2:=fun x y H Q=>∃ p xs i v,x=.ref p∧y=.int i∧SqL K H p xs∧atI xs i=some v∧Q v H
def rIxT (K:PySem.W.Frag):R2:=fun x y H Q=>∃ p xs i v,x=.ref p∧y=.int i∧SqT K H p xs∧atI xs i=some v∧Q v H
def rIxS:R2:=fun x y H Q=>∃ z i c,x=.str z∧y=.int i∧z.length≤sizeLine∧atI z.cps.toList i=some c∧Q (.str ⟨#[c]⟩) H
theorem lX:IxR X (rIxL X.K):=by
 intro value slice pins s σ H x y v u Q I rx ry h hs
 obtain ⟨p,xs,i,z,rfl,rfl,hq,he,q⟩:=h
 cases rx
 obtain ⟨t,rfl⟩:=ry
 obtain ⟨its,r,pl,hz⟩:=I.list hq
 obtain ⟨j,h1,h2,h3,h4,h5⟩:=lW he
 obtain ⟨w,ew,rw'⟩:=r.get h2
 have hl:=r.length
 have hn:=iN
 have fin:EP X pins σ Q w s:=⟨z,H,I,rw',q⟩
 by_cases h0:0≤i
 · have hj:i.toNat=j:=by
    rw [seqIndex_of h0 h5] at h1
    exact Option.some.inj h1
   exact item_listR pl.isList h0 (by omega) (by rw [hj]; simpa using ew) fin hs
 · have hj:(i+(its.toArray.size:Int)).toNat=j:=by
    rw [seqIndex_neg (by omega) h4] at h1
    rw [List.size_toArray,← hl]
    exact Option.some.inj h1
   exact subscriptTail_builtinR (x:=w) pl.isList.typeIs slot_list_getitem.lookup
    (wpAny_getItem_list_neg (Q:=fun r s'=>r=w∧EP X pins σ Q r s') pl.isList (by omega) (by rw [List.size_toArray] <;> omega) (by omega) (by rw [hj]; simpa using ew) ⟨rfl,fin⟩) hs
theorem uz:IxR X (rIxT X.K):=by
 intro value slice pins s σ H x y v u Q I rx ry h hs
 obtain ⟨p,xs,i,z,rfl,rfl,hq,he,q⟩:=h
 cases rx
 obtain ⟨t,rfl⟩:=ry
 obtain ⟨its,r,pl,hz⟩:=I.tuple hq
 obtain ⟨j,h1,h2,h3,h4,h5⟩:=lW he
 obtain ⟨w,ew,rw'⟩:=r.get h2
 have hl:=r.length
 have hn:=iN
 have fin:EP X pins σ Q w s:=⟨z,H,I,rw',q⟩
 exact subscriptTail_builtinR (x:=w) pl.typeIs slot_tuple_getitem.lookup
  (getItem_tuple (j:=j) (Q:=fun r s'=>r=w∧EP X pins σ Q r s') pl (by omega) (by omega) (by rw [List.size_toArray,← hl]; exact h1) (by simpa using ew) ⟨rfl,fin⟩) hs
theorem uA:IxR X rIxS:=by
 intro value slice pins s σ H x y v u Q I rx ry h hs
 obtain ⟨z,i,c,rfl,rfl,hz,he,q⟩:=h
 obtain ⟨t,rfl⟩:=rx
 obtain ⟨t',rfl⟩:=ry
 obtain ⟨j,h1,h2,h3,h4,h5⟩:=lW he
 have hl:z.cps.toList.length=z.length:=by simp [Str.length]
 rw [hl] at h1 h4 h5
 have hn:=iN
 exact tail_any (typeIs_str s z t) slot_str_getitem.lookup (getItem_str (c:=c) (by
  have e1:decide (i < -(2^63:Int))=false:=decide_eq_false (by omega)
  have e2:decide (i ≥ 2^63)=false:=decide_eq_false (by omega)
  rw [e1,e2,Bool.or_false]) (by rw [h1]; simpa using h2) ⟨.str ⟨#[c]⟩,H,I.tok _,⟨_,rfl⟩,q⟩) hs
theorem Inv.lst {pins:List (Addr × Obj)} {σ:St} {H:Hp} {s:Shared} {p:Addr} {xs:List V} (I:Inv X pins σ H s) (h:H p=some (.lst xs)):
  ∃ (its:List Value) (n:Nat),Vals xs its∧s.heap.get? p=some { cls:=.type "list",data:=.seq its.toArray n }∧xs.length≤sizeLine:=by
 obtain ⟨z,its,n,r,e⟩:=I.hok p _ h
 exact ⟨its,n,r,e,z⟩
theorem oj (lo hi:Option Int) (n:Nat):(sliceBounds lo hi none n).1=((HT.sIx n 0 lo:Nat):Int)∧(sliceBounds lo hi none n).2.1=((HT.sIx n n hi:Nat):Int)∧(sliceBounds lo hi none n).2.2=1:=by
 refine ⟨?_,?_,rfl⟩
 · cases lo with
   | none=>simp [sliceBounds,HT.sIx]
   | some i=>
    simp only [sliceBounds,HT.sIx,Option.getD_none,show (1:Int) > 0 by decide,if_true]
    by_cases h:i < 0
    · simp only [h,if_true] <;> omega
    · simp only [h,if_false] <;> omega
 · cases hi with
   | none=>simp [sliceBounds,HT.sIx]
   | some i=>
    simp only [sliceBounds,HT.sIx,Option.getD_none,show (1:Int) > 0 by decide,if_true]
    by_cases h:i < 0
    · simp only [h,if_true] <;> omega
    · simp only [h,if_false] <;> omega
theorem nj (its:List Value) (lo hi:Option Int):slicePick its.toArray lo hi none=((its.drop (HT.sIx its.length 0 lo)).take (HT.sIx its.length its.length hi - HT.sIx its.length 0 lo)).toArray:=by
 obtain ⟨h1,h2,h3⟩:=oj lo hi its.toArray.size
 unfold slicePick
 rw [h1,h2,h3]
 simp only [sliceRange_one,pick_run,List.size_toArray] <;> rfl
def rSlL (K:PySem.W.Frag):V→Option Int→Option Int→Hp→VK→Prop:=fun x lo hi H Q=>∃ a xs,x=.ref a∧SqL K H a xs∧∀ p,H p=none→Q (.ref p) (upd H p (.lst (cutV xs lo hi)))
theorem tG:SlR X (rSlL X.K):=by
 intro pins s σ H x v vl vu lo hi sl Q I rx hs pl pu h
 obtain ⟨a,xs,rfl,hx,q⟩:=h
 cases rx
 obtain ⟨its,r,ht,hz⟩:=I.list hx
 have hlen:=r.length
 refine ⟨"list",_,slot_list_getitem.lookup,ht.isList.typeIs,?_⟩
 refine wpAny_getItem_list_slice ht.isList hs pl pu .none (by simp) ?_ (by rw [List.size_toArray] <;> omega)
 rw [nj,← hlen]
 refine ⟨.ref s.heap.objs.size,_,I.laid (t':=s.toks) (o:=.lst (cutV xs lo hi)) (fun b ob q=>Heap.get?_push_of_some _ q) (Nat.le_refl _) ?_,rfl,q _ (I.hok.fresh (Nat.le_refl _))⟩
 exact ⟨Nat.le_trans (pD xs lo hi) hz,_,0,(r.drop (HT.sIx xs.length 0 lo)).take (HT.sIx xs.length xs.length hi - HT.sIx xs.length 0 lo),Heap.get?_push_size _ rfl⟩
def flatV:V→Bool
 | .non=>true
 | .bl _=>true
 | .int _=>true
 | .str _=>true
 | _=>false
def eqV:V→V→Bool
 | .non,.non=>true
 | .bl a,.bl b=>a==b
 | .bl a,.int b=>(if a then 1 else 0)==b
 | .int a,.bl b=>a==(if b then 1 else 0)
 | .int a,.int b=>a==b
 | .str a,.str b=>a==b
 | _,_=>false
theorem uB {A:Around} {s:Shared} {y x:V} {u v:Value} (ry:RelV y u) (rx:RelV x v) (fy:flatV y=true) (fx:flatV x=true):SeqAt.EqAt A s u v (eqV y x):=by
 cases y with
 | non=>
  cases ry
  cases x with
  | non=>cases rx; exact SeqAt.EqAt.same _
  | bl b=>cases rx; exact SeqAt.EqAt.none_bool b
  | int b=>obtain ⟨t,rfl⟩:=rx; exact SeqAt.EqAt.none_int b t
  | str b=>obtain ⟨t,rfl⟩:=rx; exact SeqAt.EqAt.none_str b t
  | _=>exact absurd (show false=true from fx) Bool.false_ne_true
 | bl a=>
  cases ry
  cases x with
  | non=>cases rx; exact SeqAt.EqAt.bool_none a
  | bl b=>cases rx; exact SeqAt.EqAt.bool_bool a b
  | int b=>obtain ⟨t,rfl⟩:=rx; exact SeqAt.EqAt.bool_int a b t
  | str b=>obtain ⟨t,rfl⟩:=rx; exact SeqAt.EqAt.bool_str a b t
  | _=>exact absurd (show false=true from fx) Bool.false_ne_true
 | int a=>
  obtain ⟨t',rfl⟩:=ry
  cases x with
  | non=>cases rx; exact SeqAt.EqAt.int_none a t'
  | bl b=>cases rx; exact SeqAt.EqAt.int_bool a t' b
  | int b=>obtain ⟨t,rfl⟩:=rx; exact SeqAt.EqAt.int_int a t' b t
  | str b=>obtain ⟨t,rfl⟩:=rx; exact SeqAt.EqAt.int_str a t' b t
  | _=>exact absurd (show false=true from fx) Bool.false_ne_true
 | str a=>
  obtain ⟨t',rfl⟩:=ry
  cases x with
  | non=>cases rx; exact SeqAt.EqAt.str_none a t'
  | bl b=>cases rx; exact SeqAt.EqAt.str_bool a t' b
  | int b=>obtain ⟨t,rfl⟩:=rx; exact SeqAt.EqAt.str_int a t' b t
  | str b=>obtain ⟨t,rfl⟩:=rx; exact SeqAt.EqAt.str_str a t' b t
  | _=>exact absurd (show false=true from fx) Bool.false_ne_true
 | _=>exact absurd (show false=true from fy) Bool.false_ne_true
def eqU (x:V) (u:Value):Bool:=match u with
 | .none=>eqV .non x
 | .bool b=>eqV (.bl b) x
 | .int i _=>eqV (.int i) x
 | .str z _=>eqV (.str z) x
 | _=>false
theorem re {x y:V} {u:Value} (r:RelV y u) (f:flatV y=true):eqU x u=eqV y x:=by
 cases y with
 | non=>cases r; rfl
 | bl b=>cases r; rfl
 | int i=>obtain ⟨t,rfl⟩:=r; rfl
 | str z=>obtain ⟨t,rfl⟩:=r; rfl
 | _=>exact absurd (show false=true from f) Bool.false_ne_true
theorem gQ {x:V}:∀ {xs:List V} {us:List Value},Vals xs us→xs.all flatV=true→us.any (eqU x)=xs.any fun y=>eqV y x
 | _,_,.nil,_=>rfl
 | y::xs,u::us,.cons r t,f=>by
  rw [List.all_cons,Bool.and_eq_true] at f
  rw [List.any_cons,List.any_cons,re r f.1,gQ t f.2]
theorem gc {A:Around} {s:Shared} {x:V} {v:Value} (rx:RelV x v) (fx:flatV x=true):∀ {xs:List V} {us:List Value},Vals xs us→xs.all flatV=true→∀ u∈us,SeqAt.EqAt A s u v (eqU x u)
 | _,_,.nil,_=>fun u hu=>by cases hu
 | y::xs,u::us,.cons r t,f=>fun u' hu=>by
  rw [List.all_cons,Bool.and_eq_true] at f
  rcases List.mem_cons.mp hu with rfl | hu
  · rw [re r f.1]; exact uB r rx f.1 fx
  · exact gc rx fx t f.2 u' hu
def inV (x:V) (xs:List V):Bool:=xs.any fun y=>eqV y x
def rIn (K:PySem.W.Frag) (neg:Bool):R2:=fun x y H Q=>∃ p xs,y=.ref p∧(SqL K H p xs∨SqT K H p xs)∧flatV x=true∧xs.all flatV=true∧Q (.bl (if neg then !inV x xs else inV x xs)) H
theorem mX:OpR X (compareOp .In) (rIn X.K false):=by
 intro pins s σ H x y v u Q I rx ry h
 obtain ⟨p,xs,rfl,hq,fx,fs,q⟩:=h
 cases ry
 rcases hq with hq | hq
 · obtain ⟨its,r,pl,hz⟩:=I.list hq
   refine SeqAt.in_listAt (eqU x) pl.isList (fun w hw=>gc rx fx r fs w (by simpa using hw)) ⟨.bl _,H,I,rfl,?_⟩
   rw [show its.toArray.any (eqU x)=its.any (eqU x) by simp,gQ r fs]
   exact q
 · obtain ⟨its,r,pl,hz⟩:=I.tuple hq
   refine SeqAt.in_tupleAt (eqU x) pl (fun w hw=>gc rx fx r fs w (by simpa using hw)) ⟨.bl _,H,I,rfl,?_⟩
   rw [show its.toArray.any (eqU x)=its.any (eqU x) by simp,gQ r fs]
   exact q
theorem om:OpR X (compareOp .NotIn) (rIn X.K true):=by
 intro pins s σ H x y v u Q I rx ry h
 obtain ⟨p,xs,rfl,hq,fx,fs,q⟩:=h
 cases ry
 rcases hq with hq | hq
 · obtain ⟨its,r,pl,hz⟩:=I.list hq
   refine SeqAt.notIn_listAt (eqU x) pl.isList (fun w hw=>gc rx fx r fs w (by simpa using hw)) ⟨.bl _,H,I,rfl,?_⟩
   rw [show its.toArray.any (eqU x)=its.any (eqU x) by simp,gQ r fs]
   exact q
 · obtain ⟨its,r,pl,hz⟩:=I.tuple hq
   refine SeqAt.notIn_tupleAt (eqU x) pl (fun w hw=>gc rx fx r fs w (by simpa using hw)) ⟨.bl _,H,I,rfl,?_⟩
   rw [show its.toArray.any (eqU x)=its.any (eqU x) by simp,gQ r fs]
   exact q
theorem dX:CallR X (.builtin "len") (fun xs H Q=>∃ p ys,xs=[.ref p]∧(SqL X.K H p ys∨SqT X.K H p ys)∧Q (.int ys.length) H):=by
 intro pins s σ H xs us Q I r h
 obtain ⟨p,ys,rfl,hq,q⟩:=h
 obtain ⟨u,rfl,rx⟩:=cL r
 cases rx
 have hn:=iN
 rcases hq with hq | hq
 · obtain ⟨its,r',pl,hz⟩:=I.list hq
   have hlen:=r'.length
   exact Calls.call_len_list pl.isList (by simp only [List.size_toArray] <;> omega) ⟨.int ys.length,H,I.tok _,⟨s.toks+1,by rw [List.size_toArray,hlen]⟩,q⟩
 · obtain ⟨its,r',pl,hz⟩:=I.tuple hq
   have hlen:=r'.length
   exact len_tuple pl (by simp only [List.size_toArray] <;> omega) ⟨.int ys.length,H,I.tok _,⟨s.toks+1,by rw [List.size_toArray,hlen]⟩,q⟩
theorem on:CallR X (.builtin "len") (fun xs H Q=>∃ z,xs=[.str z]∧z.length≤sizeLine∧Q (.int z.length) H):=by
 intro pins s σ H xs us Q I r h
 obtain ⟨z,rfl,hz,q⟩:=h
 obtain ⟨u,rfl,t,rfl⟩:=cL r
 have hn:=iN
 exact len_str (by omega) ⟨.int z.length,H,I.tok _,⟨_,rfl⟩,q⟩
theorem oo:CallR X (.type "list") (fun xs H Q=>∃ p ys,xs=[.ref p]∧(SqL X.K H p ys∨SqT X.K H p ys)∧∀ l,H l=none→Q (.ref l) (upd H l (.lst ys))):=by
 intro pins s σ H xs us Q I r h
 obtain ⟨p,ys,rfl,hq,q⟩:=h
 obtain ⟨u,rfl,rx⟩:=cL r
 cases rx
 have fin:∀ (its:List Value),Vals ys its→ys.length≤sizeLine→∀ (h':Heap) (c':Nat),(∀ b o',s.heap.get? b=some o'→h'.get? b=some o')→
   h'.get? s.heap.objs.size=some { cls:=.type "list",dict:=none,data:=.seq its.toArray c',slots:=#[] }→EP X pins σ Q (.ref s.heap.objs.size) { s with heap:=h' }:=fun its r' hz h' c' kp e=>
  ⟨.ref s.heap.objs.size,_,I.laid (t':=s.toks) kp (Nat.le_refl _) (show ObjOk X.prog X.w _ h' _ (.lst ys) from ⟨hz,its,c',r',e⟩),rfl,q _ (I.hok.fresh (Nat.le_refl _))⟩
 rcases hq with hq | hq
 · obtain ⟨its,r',pl,hz⟩:=I.list hq
   have hlen:=r'.length
   obtain ⟨o,ho,hc,n,hd⟩:=pl.isList
   exact call_list_seq p (.inl rfl) ho hc hd (fun h' c' kp e=>fin its r' hz h' c' kp e) (by simp only [List.size_toArray] <;> omega)
 · obtain ⟨its,r',pl,hz⟩:=I.tuple hq
   have hlen:=r'.length
   obtain ⟨o,ho,hc,n,hd⟩:=pl
   exact call_list_seq p (.inr rfl) ho hc hd (fun h' c' kp e=>fin its r' hz h' c' kp e) (by simp only [List.size_toArray] <;> omega)
theorem nk:CallR X (.type "tuple") (fun xs H Q=>∃ p ys,xs=[.ref p]∧((SqL X.K H p ys∧∀ l,H l=none→Q (.ref l) (upd H l (.tup ys)))∨(SqT X.K H p ys∧Q (.ref p) H))):=by
 intro pins s σ H xs us Q I r h
 obtain ⟨p,ys,rfl,h⟩:=h
 obtain ⟨u,rfl,rx⟩:=cL r
 cases rx
 rcases h with ⟨hq,q⟩ | ⟨hq,q⟩
 · obtain ⟨its,r',pl,hz⟩:=I.list hq
   have hlen:=r'.length
   refine call_tuple_list pl.isList (fun h' kp=>?_) (by simp only [List.size_toArray] <;> omega)
   have I1:Inv X pins σ H { s with heap:=h' }:=I.kept (t':=s.toks) kp
   have I2:Inv X pins σ (upd H h'.objs.size (.tup ys)) { s with heap:=h'.push { cls:=.type "tuple",data:=.seq its.toArray } }:=
    I1.laid (t':=s.toks) (fun b o e=>Heap.get?_push_of_some _ e) (Nat.le_refl _) (show ObjOk X.prog X.w _ _ _ (.tup ys) from ⟨hz,its,r',IsTup.new _ _⟩)
   exact ⟨.ref h'.objs.size,_,I2,rfl,q _ (I1.hok.fresh (Nat.le_refl _))⟩
 · obtain ⟨its,r',pl,hz⟩:=I.tuple hq
   exact call_tuple_same pl ⟨.ref p,H,I,rfl,q⟩
def tyV (K:PySem.W.Frag) (T:String) (x:V) (H:Hp):Prop:=match x with
 | .str _=>T="str"
 | .int _=>T="int"
 | .ref p=>(T="list"∧∃ xs,SqL K H p xs)∨(T="tuple"∧∃ o,K.lookup p=some o∧o.cls=.type "tuple"∧o.dict=none)∨
   (T="dict"∧((∃ kvs,H p=some (.dK kvs))∨∃ kvs,H p=some (.dT kvs)))∨(T="set"∧∃ S n,H p=some (.set S n))
 | _=>False
theorem uC {pins:List (Addr × Obj)} {σ:St} {H:Hp} {s:Shared} {T:String} {x:V} {v:Value} (I:Inv X pins σ H s) (r:RelV x v) (ty:tyV X.K T x H):
  s.TypeIs v T∧∀ a,v=.ref a→∃ ob,s.heap.get? a=some ob∧ob.dict=none:=by
 cases x with
 | str z=>
  obtain ⟨t,rfl⟩:=r
  cases (show T="str" from ty)
  exact ⟨typeIs_str s z t,fun _ e=>nomatch e⟩
 | int i=>
  obtain ⟨t,rfl⟩:=r
  cases (show T="int" from ty)
  exact ⟨typeIs_int s i t,fun _ e=>nomatch e⟩
 | ref p=>
  cases r
  rcases ty with ⟨rfl,xs,hq⟩ | ⟨rfl,o,hk,hc,hd⟩ | ⟨rfl,hk⟩ | ⟨rfl,S,n,hk⟩
  · obtain ⟨its,_,pl,_⟩:=I.list hq
    refine ⟨pl.isList.typeIs,fun a e=>?_⟩
    cases e
    obtain ⟨o,n,e,c,hd,_⟩:=pl
    exact ⟨o,e,hd⟩
  · refine ⟨⟨o,I.kIn p o hk,hc⟩,fun a e=>?_⟩
    cases e
    exact ⟨o,I.kIn _ o hk,hd⟩
  · have z:∃ o,s.heap.get? p=some o∧o.ExactDict:=by
     rcases hk with ⟨kvs,hk⟩ | ⟨kvs,hk⟩
     · obtain ⟨_,_,_,_,o,_,_,e,ex,_⟩:=I.hok p _ hk
       exact ⟨o,e,ex⟩
     · obtain ⟨_,_,_,_,o,_,_,e,ex,_⟩:=I.hok p _ hk
       exact ⟨o,e,ex⟩
    obtain ⟨o,e,ex⟩:=z
    refine ⟨⟨o,e,ex.1⟩,fun a e2=>?_⟩
    cases e2
    exact ⟨o,e,ex.2.1⟩
  · obtain ⟨o,_,_,_,e,ex,_⟩:=I.hok p _ hk
    refine ⟨⟨o,e,ex.1⟩,fun a e2=>?_⟩
    cases e2
    exact ⟨o,e,ex.2.1⟩
 | _=>exact False.elim ty
def vC (K:PySem.W.Frag) (T:String) (r:V→List V→Hp→VK→Prop) (to:TE):TE:=fun σ H Q=>to σ H fun x H1=>tyV K T x H1∧r x [] H1 Q
def tBM (K:PySem.W.Frag) (T:String) (r:V→List V→Hp→VK→Prop) (to:TE) (t:TA):TE:=fun σ H Q=>to σ H fun x H1=>tyV K T x H1∧t σ H1 fun xs H2=>r x xs H2 Q
variable {o e:Expr} {es:List Expr} {to:TE} {t:TA} {name:Str} {apos cpos:Pos} {T id:String} {r:V→List V→Hp→VK→Prop}
theorem jl (pa:PlainAttrs T) (slot:Slot T name id) (hty:typeOf (.builtin id)=pure (.type "method_descriptor")) (hm:MtR X id r) (ho:PE X o to) (ha:PA X (e::es) t)
  (hbase:attributeBase o name X.env (eval o X.env)=eval o X.env:=by rfl)
  (hfew:((backTo cpos (starEach (e::es) X.env)).all (fun x=>!x.1)&&(backToKw cpos (keywordEach [] X.env)).all (fun x=>x.1.isSome)
   &&decide ((e::es).length+([]:List Keyword).length+(if ([]:List Keyword).isEmpty then 0 else 1) < 30))=true:=by rfl)
  (hline:(apos.endLine==cpos.line)=true:=by rfl) (hs:starEach (e::es) X.env=(false,eval e X.env)::starEach es X.env:=by rfl) (hplain:(backTo cpos (starEach es X.env)).any (·.1)=false:=by rfl):
  PE X (.Call (.Attribute o name apos) (e::es) [] cpos) (tBM X.K T r to t):=by
 intro pins s σ H Q I h
 refine wpAny_Call_method_late hbase hfew hline rfl (thn (ho pins s σ H _ I h) fun v s1 ⟨x,H1,I1,r1,ty,q1⟩=>?_)
 obtain ⟨h1,h2⟩:=uC I1 r1 ty
 refine ⟨T,id,pa,slot,hty,h1,h2,?_⟩
 have hA:=ha cpos pins s1 σ H1 _ I1 q1
 rw [hs] at hA ⊢
 refine Calls.callWith_builtin (by show (false||(backTo cpos (starEach es X.env)).any (·.1))=false; rw [hplain] <;> rfl) (Calls.evalArgs_plain ?_)
 exact thn hA fun us s2 ⟨vs,H2,I2,r2,q2⟩=>hm pins s2 σ H2 x vs v us Q I2 r1 r2 q2
end
end L2
namespace L2
open PySem PySem.Spec PyProof.Rows
def MtM (X:Cx) (id:String) (r:V→List V→Hp→VK→Prop):Prop:=
 ∀ (pins:List (Addr × Obj)) (s:Shared) (σ:St) (H:Hp) (x:V) (xs:List V) (v:Value) (us:List Value) (Q:VK),Inv X pins σ H s→RelV x v→Vals xs us→r x xs H Q→
  wpAny (model X.prog X.w) X.A (call (.builtin id) (v::us)) (EP X pins σ Q) X.xe s
theorem Vals.one:∀ {x:V} {us:List Value},Vals [x] us→∃ u,us=[u]∧RelV x u
 | _,_,.cons r .nil=>⟨_,rfl,r⟩
theorem Vals.eraseIdx:∀ {xs:List V} {us:List Value} (i:Nat),Vals xs us→Vals (xs.eraseIdx i) (us.eraseIdx i)
 | _,_,_,.nil=>.nil
 | _,_,0,.cons _ t=>t
 | _,_,i+1,.cons r t=>.cons r (Vals.eraseIdx i t)
theorem mY {α:Type}:∀ (l:List α) (i:Nat),(l.eraseIdx i).length≤l.length
 | [],_=>Nat.le_refl _
 | _::_,0=>Nat.le_succ _
 | _::r,i+1=>Nat.succ_le_succ (mY r i)
section
variable {X:Cx} {pins:List (Addr × Obj)} {σ:St} {H:Hp} {s:Shared} {l b:Addr} {xs ys zs:List V}
theorem Inv.lset {its its':List Value} {n:Nat} {f:Array Value→Array Value} {t':Nat} (I:Inv X pins σ H s) (hH:H l=some (.lst xs))
  (e:s.heap.get? l=some { cls:=.type "list",data:=.seq its.toArray n }) (hf:f its.toArray=its'.toArray) (hv:Vals ys its') (hz:ys.length≤sizeLine):
  Inv X pins σ (upd H l (.lst ys)) { s with heap:=s.heap.update l (Obj.mapSeq f),toks:=t' }:=by
 have q:=PySem.IsL.update e f
 rw [hf] at q
 refine I.write (x:=l) (e:=l) (by rw [hH]; exact trivial) (.inl rfl) (fun b' u hb hu=>(Heap.get?_update_other s.heap (Obj.mapSeq f) (Ne.symm hb)).trans hu) ⟨_,q⟩ ?_
 exact ⟨hz,its',_,hv,q⟩
theorem Inv.lnew {its:List Value} {t':Nat} (I:Inv X pins σ H s) (hv:Vals ys its) (hz:ys.length≤sizeLine):
  Inv X pins σ (upd H s.heap.objs.size (.lst ys)) { s with heap:=s.heap.push { cls:=.type "list",data:=.seq its.toArray },toks:=t' }:=
 I.laid (fun _ _ q=>Heap.get?_push_of_some _ q) (Nat.le_refl _) ⟨hz,its,0,hv,Heap.get?_push_size _ rfl⟩
theorem Inv.fresh (I:Inv X pins σ H s):H s.heap.objs.size=none:=I.hok.fresh (Nat.le_refl _)
theorem Inv.lstM (I:Inv X pins σ H s) (hH:H l=some (.lst xs)):xs.length≤sizeLine∧∃ (its:List Value) (n:Nat),Vals xs its∧xs.length=its.length∧s.heap.get? l=some { cls:=.type "list",data:=.seq its.toArray n }:=by
 obtain ⟨z,its,n,r,e⟩:=I.hok l _ hH
 exact ⟨z,its,n,r,r.length,e⟩
end
section
variable {X:Cx}
def tH:V→List V→Hp→VK→Prop:=fun x vs H Q=>∃ l xs y,x=.ref l∧vs=[y]∧H l=some (.lst xs)∧xs.length < sizeLine∧Q .non (upd H l (.lst (xs++[y])))
theorem mZ:MtM X "list.append" tH:=by
 intro pins s σ H x vs v us Q I rx rv h
 obtain ⟨l,xs,y,rfl,rfl,hH,hz,q⟩:=h
 cases rx
 obtain ⟨u,rfl,ru⟩:=rv.one
 obtain ⟨z,its,n,r,hl,e⟩:=I.lstM hH
 refine call_meets F.slot_list_append ⟨_,e,rfl⟩ F.entry_list_append (F.args_list_append_2 _ _) (PySem.list_append l its.toArray n u (by rw [List.size_toArray]; omega)) ⟨e,?_⟩
 refine ⟨.non,_,I.lset (its':=its++[u]) hH e (by simp) (r.append (.cons ru .nil)) ?_,rfl,q⟩
 rw [List.length_append,List.length_singleton]
 omega
def uD:V→List V→Hp→VK→Prop:=fun x vs H Q=>∃ l xs i k y,x=.ref l∧vs=[.int i]∧H l=some (.lst xs)∧ -(2^63)≤i∧i < 2^63∧seqIndex? i xs.length=some k∧xs[k]? =some y∧Q y (upd H l (.lst (xs.eraseIdx k)))
theorem ss:MtM X "list.pop" uD:=by
 intro pins s σ H x vs v us Q I rx rv h
 obtain ⟨l,xs,i,k,y,rfl,rfl,hH,h1,h2,hk,hy,q⟩:=h
 cases rx
 obtain ⟨u,rfl,ru⟩:=rv.one
 obtain ⟨t,rfl⟩:=ru
 obtain ⟨z,its,n,r,hl,e⟩:=I.lstM hH
 obtain ⟨w,hw,rw'⟩:=r.get hy
 refine call_meets F.slot_list_pop ⟨_,e,rfl⟩ F.entry_list_pop (F.args_list_pop_2 _ _)
  (MeetsSeq.list_pop_at l its.toArray n i t k w (fitsIndex_both h1 h2) (by rw [List.size_toArray,← hl]; exact hk) (by rw [← Array.getElem?_toList]; exact hw) (by rw [List.size_toArray]; omega)) ⟨e,?_⟩
 refine ⟨y,_,I.lset (its':=its.eraseIdx k) hH e ?_ (r.eraseIdx k) ?_,rw',q⟩
 · show its.toArray.eraseIdxIfInBounds k=(its.eraseIdx k).toArray
   rw [List.eraseIdxIfInBounds_toArray]
 · have:=mY xs k
   omega
def rCat:R2:=fun x y H Q=>∃ l b xs zs,x=.ref l∧y=.ref b∧H l=some (.lst xs)∧H b=some (.lst zs)∧xs.length+zs.length≤sizeLine∧∀ p,H p=none→Q (.ref p) (upd H p (.lst (xs++zs)))
theorem uE:OpR X (binaryOp .Add) rCat:=by
 intro pins s σ H x y v u Q I rx ry h
 obtain ⟨l,b,xs,zs,rfl,rfl,hH,hB,hz,q⟩:=h
 cases rx
 cases ry
 obtain ⟨z,its,n,r,hl,e⟩:=I.lstM hH
 obtain ⟨z2,its2,n2,r2,hl2,e2⟩:=I.lstM hB
 refine PySem.P.add_list e e2 ?_ (by rw [List.size_toArray,List.size_toArray]; omega)
 have ea:its.toArray++its2.toArray=(its++its2).toArray:=by simp
 rw [ea]
 exact ⟨.ref _,_,I.lnew (t':=s.toks) (r.append r2) (by rw [List.length_append]; omega),rfl,q _ I.fresh⟩
end
end L2
namespace Att
open PySem PySem.W PySem.Calls PyProof.Rows
theorem ints_of_wellAll {P:Params} {h:Heap}:∀ (ns:List Int) (vs:List Value),WellAll P h vs (ns.map WData.int)→IntsAre vs ns:=by
 intro ns
 induction ns with
 | nil=>
  intro vs w
  rw [List.map_nil] at w
  cases w
  exact .nil
 | cons n ns ih=>
  intro vs w
  rw [List.map_cons] at w
  cases w with
  | cons a b=>
   cases a
   exact .cons _ _ (ih _ b)
theorem script_of {l:OpenLaw} {n:Nat} (hn:l.most=some n) {P:Params} {h:Heap} {args:List WData} {vals:List Value}
  (hpre:l.row.toRowW.claim.pre args=true) (hwl:WellAll P h vals args):
  ∃ a vs ns,vals=[Value.ref a]∧args=[WData.list (ns.map WData.int)]∧h.get? a=some { cls:=.type "list",data:=.seq vs.toArray }∧IntsAre vs ns∧ns.length≤n:=by
 have hsh:WShape.hasAll [] args [.list .int]=true:=(pre_splitW hpre).1
 have hc:l.pre.holds [] { args:=args }=true:=(pre_splitW hpre).2
 obtain ⟨d,r,rfl,h1,h2⟩:=hasAllW_cons hsh
 obtain rfl:=hasAllW_nil h2
 obtain ⟨xs,rfl,h3⟩:=hasW_list h1
 obtain ⟨ns,rfl⟩:=items_int h3
 have hlen:ns.length≤n:=by
  unfold OpenLaw.pre at hc
  have h4:(WTm.not (.lt (.lit (.int (n:Int))) (.len (.arg 0)))).holds [] { args:=[.list (ns.map .int)] }=true:=by
   have h4:=(holds_andW hc).1
   rw [hn] at h4
   exact h4
  have h5:=condW_of h4 (w_not (w_lt w_lit (w_len_list (w_arg rfl))))
  rw [List.length_map] at h5
  refine Nat.le_of_not_lt fun q=>?_
  have q':(n:Int) < ((ns.length:Nat):Int):=by omega
  first
   | (rw [decide_eq_true q'] at h5; exact absurd h5 (by decide))
   | (simp at h5; omega)
 cases hwl with
 | cons w1 w2=>
  cases w2
  cases w1 with
  | list ho hall=>exact ⟨_,_,ns,rfl,rfl,ho,ints_of_wellAll ns _ hall,hlen⟩
theorem post_true (l:OpenLaw) (args:List WData):l.row.toRowW.claim.post args (.bool true) args=true:=
 postW_of (r:=l.row.toRowW) (X:=(true==true))
  (show WShape.has [] (.bool true) .bool=true by first | rfl | decide | simp [WShape.has,WShape.arms,WShape.armsAll])
  (show (WTm.eq .res (.lit (.bool true))).value [] { args:=args,res:=some (.bool true),after:=args }=some (.bool (true==true)) from w_eq_bool (w_res rfl) w_lit) rfl
theorem attach_call {l:OpenLaw} {n:Nat} {q:Program} {loose:List Str} {XP:(Str→Option Value)→Heap→Prop} {YP:World→Heap→Prop} {d:DefRec}
  (hn:l.most=some n) (hdf:d.params.defaults=[])
  (call:∀ (w:World) (s₀ s₁:Shared) (mg mb:Str→Option Value) (fa:Addr) (o:Obj) (pm cd doc:Value) (a:Addr) (vs:List Value) (ns:List Int),
   Ground q loose [] XP w s₀ mg mb s₁.heap→YP w s₁.heap→
   s₁.heap.get? fa=some o→o.data=.func (docDef d.name d.params d.body d.scope pm cd doc)→s₁.heap.CodeRec cd d.name→mg d.name=some (.ref fa)→
   s₁.heap.get? a=some { cls:=.type "list",data:=.seq vs.toArray }→IntsAre vs ns→ns.length≤n→s₁.gens=#[]→
   codeAny (model l.prog w) callerA (.call (.ref fa) ⟨[.ref a],[]⟩) (fun r s'=>r=.ok (.ret (.bool true))∧OldK s₁.heap s'.heap∧s'.os=s₁.os∧AllBare s'.gens) s₁):
  WalkO q loose XP YP l.row.toRowW d [] (fun f vs=>PySem.call f vs):=by
 intro w s₀ s₁ mg mb G Y fa o pm cd doc dV kV ho hd hcd hD hmg hg args vals as hpre hlay hrd hwl hlo
 obtain rfl:dV=.none:=Dflts.none hD hdf
 obtain rfl:kV=.none:=Dflts.noKw hD
 obtain ⟨a,vs,ns,rfl,rfl,hobj,hints,hlen⟩:=script_of hn hpre hwl
 refine enter_call (codeAny_mono (call w s₀ s₁ mg mb fa o pm cd doc a vs ns G Y ho (fd_plain hd) hcd hmg hobj hints hlen hg) fun r s' hq=>?_)
 obtain ⟨rfl,h2,h3,h4⟩:=hq
 exact ⟨.inl ⟨.bool true,.bool true,[],rfl,fun _=>rfl,.bool true,post_true l _,fun _=>⟨List.Pairwise.nil,fun _ hm=>(nomatch hm)⟩⟩,h2,h3,h4⟩
section
variable {prog:Program} {w:World} {A:Around} {E:Value→Shared→Prop} {s:Shared} {K:Frag}
end
end Att
namespace L2
open PySem PySem.Spec PyProof.Rows
theorem m3:∀ {vs:List Value} {ns:List Int},IntsAre vs ns→Vals (ns.map V.int) vs
 | _,_,.nil=>.nil
 | _,_,.cons n t h=>.cons ⟨t,rfl⟩ (m3 h)
def Only (H:Hp):Prop:=∀ b,H b=none∨∃ o xs,H b=some (.frz o (.lst xs))
theorem su {P:Program} {w:World} {K:PySem.W.Frag} {mg mb:Str→Option Value} {CX:CXT} {k:Nat} {fa a:Addr} {fd:FuncData} {x:Str} {sp:Sp} {s₁:Shared} {vs:List Value} {ns:List Int}
  (KX:K.In s₁.heap) (hns:s₁.heap.Ns mainGlobals mg) (hb:s₁.heap.Ns builtinsNs mb) (hbb:∀ x:Str,x≠"__name__"→mb x=bootBuiltins x) (hlim:s₁.heap.NoLimit) (hg:s₁.gens=#[])
  (ha:s₁.heap.get? a=some { cls:=.type "list",data:=.seq vs.toArray }) (hi:IntsAre vs ns) (hl:ns.length≤sizeLine) (hr:Room k callerA)
  (F:∀ base:Heap,K.In base→base.Ns mainGlobals mg→FnOk P w K mg base CX k fa fd [x] sp) (hbind:∀ (s:Shared) (u:Value),BindsTo s fd ⟨[u],[]⟩ [(x,u)])
  (hsp:∀ H:Hp,Only H→SqL K H a (ns.map V.int)→sp [.ref a] H (fun v _=>v=.bl true) fun _ _ _=>False)
  (hCX:∀ H e s',CX [] H s₁ (fun _ _ _=>False) e s'→False):
  codeAny (model P w) callerA (.call (.ref fa) ⟨[.ref a],[]⟩) (fun r s'=>r=.ok (.ret (.bool true))∧OldK s₁.heap s'.heap∧s'.os=s₁.os∧AllBare s'.gens) s₁:=by
 have rv:=m3 hi
 have lenV:=hi.length
 have core:∀ H:Hp,Only H→SqL K H a (ns.map V.int)→HOk P w H s₁.heap→(∀ b,H b≠none→b=a)→(H a≠none→K.lookup a=none)→
   codeAny (model P w) callerA (.call (.ref fa) ⟨[.ref a],[]⟩) (fun r s'=>r=.ok (.ret (.bool true))∧OldK s₁.heap s'.heap∧s'.os=s₁.os∧AllBare s'.gens) s₁:=by
  intro H hO hS hok hA hK
  have base_of:∀ {b:Addr} {o:Obj},s₁.heap.get? b=some o→H b=none→(hidT s₁.heap H).get? b=some o:=fun e n=>sj e n
  have noA:∀ {b:Addr} {o:Obj} {es:Array DictEntry} {ep:Nat},s₁.heap.get? b=some o→o.data=.dict es ep→H b=none:=fun {b o es ep} e d=>by
   cases q:H b with
   | none=>rfl
   | some u=>
    have e':b=a:=hA b (by rw [q]; simp)
    subst e'
    rw [ha] at e; cases e
    have d':Data.seq vs.toArray _=Data.dict es ep:=d
    cases d'
  have nsK:∀ {b:Addr} {m:Str→Option Value},s₁.heap.Ns b m→(hidT s₁.heap H).Ns b m:=fun {b m} ⟨o,es,ep,e,d,r⟩=>⟨o,es,ep,base_of e (noA e d),d,r⟩
  have hKb:K.In (hidT s₁.heap H):=fun b o e=>base_of (KX b o e) (by
   cases q:H b with
   | none=>rfl
   | some u=>
    have e':b=a:=hA b (by rw [q]; simp)
    subst e'
    rw [hK (by rw [q]; simp)] at e; cases e)
  have hM:Mod K mg (hidT s₁.heap H):=⟨hKb,nsK hns,⟨mb,nsK hb,hbb⟩,let ⟨mc,h1,h2⟩:=hlim; ⟨mc,nsK h1,h2⟩⟩
  have e0:Env0 P w K mg (hidT s₁.heap H) callerA [] s₁ H:=⟨rfl,hM,fun b o e=>tm e,Nat.le_of_eq (qQ _ _),trivial,fun b hb=>absurd (show b∈([]:List Addr) from hb) (by simp),hok,.of_eq hg⟩
  refine codeAny_mono ((F _ hKb (nsK hns)).run callerA [] s₁ H ⟨[.ref a],[]⟩ [.ref a] [.ref a] _ _ hr e0 (hbind s₁ (.ref a)) (.cons rfl .nil) (hsp H hO hS)) fun r s' h=>?_
  cases r with
  | error e=>exact (hCX H e s' h).elim
  | ok fl=>
   cases fl with
   | next=>exact False.elim h
   | brk=>exact False.elim h
   | cont=>exact False.elim h
   | ret u=>
    obtain ⟨v,H',os,bare,un,hok',r',q⟩:=h
    have q':v=.bl true:=q
    subst q'
    obtain rfl:u=Value.bool true:=r'
    refine ⟨rfl,OldK.of_keep fun b o e=>?_,os,bare⟩
    cases q:H b with
    | none=>exact un.keep b o e q (by intro z; exact absurd (show b∈([]:List Addr) from z) (by simp)) (by simp)
    | some u=>
     rcases hO b with z | ⟨ob,xs,z⟩
     · rw [q] at z; cases z
     · have z2:=un.frzs b ob _ z
       obtain ⟨e1,_⟩:=hok b _ z
       obtain ⟨e2,_⟩:=hok' b _ z2
       rw [e] at e1; cases e1
       exact e2
 cases hk:K.lookup a with
 | some o=>
  have e:=KX a o hk
  rw [ha] at e
  cases e
  refine core (fun _=>none) (fun _=>.inl rfl) (.inr ⟨_,vs.toArray,_,hk,rfl,rfl,rfl,by rw [List.size_toArray,lenV]; exact hl,by simpa using rv⟩) (fun b u z=>by have z':(none:Option HO)=some u:=z; cases z') (fun b z=>absurd rfl z) fun z=>absurd rfl z
 | none=>
  refine core (fun b=>if b=a then some (.frz { cls:=.type "list",data:=.seq vs.toArray } (.lst (ns.map V.int))) else none) (fun b=>?_) (.inl (.inr ⟨{ cls:=.type "list",data:=.seq vs.toArray },if_pos rfl⟩)) (fun b u z=>?_) (fun b z=>?_) fun _=>hk
  · by_cases hb:b=a
    · exact .inr ⟨_,_,if_pos hb⟩
    · exact .inl (if_neg hb)
  · by_cases hb:b=a
    · have z':=(if_pos hb).symm.trans z
      cases z'
      subst hb
      exact ⟨ha,by rw [List.length_map]; exact hl,vs,_,rv,ha⟩
    · have z':=(if_neg hb).symm.trans z
      cases z'
  · by_cases hb:b=a
    · exact hb
    · exact absurd (if_neg hb) z
end L2
namespace L2
open PySem PySem.Spec PyProof.Rows
theorem tI {l:PySem.W.OpenLaw} {n k:Nat} {q:Program} {loose:List Str} {XP:(Str→Option Value)→Heap→Prop} {YP:World→Heap→Prop} {d:DefRec} {K:Params→PySem.W.Frag} {CX:World→CXT} {sp:World→Sp} {x:Str}
  (hn:l.most=some n) (hn2:n≤sizeLine) (hdf:d.params.defaults=[]) (hr:Room k callerA)
  (hY:∀ (w:World) (h:Heap),YP w h→(K w.params).In h)
  (F:∀ (w:World) (mg:Str→Option Value) (fa:Addr) (h:Heap),(K w.params).In h→h.Ns mainGlobals mg→mg d.name=some (.ref fa)→
   ∃ fd:FuncData,(∀ (s:Shared) (u:Value),BindsTo s fd ⟨[u],[]⟩ [(x,u)])∧
    ∀ base:Heap,(K w.params).In base→base.Ns mainGlobals mg→FnOk l.prog w (K w.params) mg base (CX w) k fa fd [x] (sp w))
  (hsp:∀ (w:World) (H:Hp) (a:Addr) (ns:List Int),ns.length≤n→Only H→SqL (K w.params) H a (ns.map V.int)→sp w [.ref a] H (fun v _=>v=.bl true) fun _ _ _=>False)
  (hCX:∀ (w:World) (H:Hp) (s:Shared) (e:Value) (s':Shared),CX w [] H s (fun _ _ _=>False) e s'→False):
  PySem.W.WalkO q loose XP YP l.row.toRowW d [] (fun f vs=>PySem.call f vs):=by
 refine Att.attach_call hn hdf fun w s₀ s₁ mg mb fa o pm cd doc a vs ns G Y ho hd hcd hmg hobj hints hlen hg=>?_
 have KX:=hY w _ Y
 obtain ⟨fd,hb,hF⟩:=F w mg fa _ KX G.T.g hmg
 exact su KX G.T.g G.T.b G.T.builtins G.T.nolimit hg hobj hints (Nat.le_trans hlen hn2) hr hF hb (fun H hO hS=>hsp w H a ns hlen hO hS) fun H e s'=>hCX w H s₁ e s'
end L2
namespace L2
open PySem PySem.Spec PyProof.Rows
def ba (s:Stmt):Arguments:=match s with
 | .FunctionDef _ a _ _ _ _ _ _ _ _=>a
 | _=>{ posonlyargs:=[],args:=[],vararg:=none,kwonlyargs:=[],kw_defaults:=[],kwarg:=none,defaults:=[] }
def aU (s:Stmt):List Stmt:=match s with
 | .FunctionDef _ _ b _ _ _ _ _ _ _=>b
 | _=>[]
def aj (s:Stmt):Scope:=match s with
 | .FunctionDef _ _ _ _ _ _ sc _ _ _=>sc
 | _=>{ kind:=.function,names:=[],isGenerator:=false,isCoroutine:=false }
abbrev CX0:CXT:=fun _ _ _ _ _ _=>False
abbrev E0:XK:=fun _ _ _=>False
theorem qi {X:Cx}:dt CX0 X E0:=fun _ _ _ _ _ _ _ h=>h.elim
structure Fun (K:PySem.W.Frag) (x qual:Str) (st:Stmt) (f:Addr) (fd:FuncData):Prop where
 ex:∃ (oc:Value) (od:Option Addr) (kV doc pm:Value) (an:Option Addr) (cdv ct:Value) (osl:Array (Option Value)),
  fd=PySem.W.fnOf x qual (ba st) (aU st) (aj st) .none kV doc pm an cdv ct∧K.lookup f=some ⟨oc,od,.func fd,osl⟩∧PySem.W.codeIn K cdv qual=true
 kp:PySem.W.keepIn K (.ref f)=true
section
variable {P:Program} {w:World} {K:PySem.W.Frag} {mg:Str→Option Value} {base:Heap}
theorem Fun.ok {x qual:Str} {st:Stmt} {f:Addr} {fd:FuncData} {N ps:List Str} {k:Nat} {sp:Sp} (F:Fun K x qual st f fd) (S:ay N ps (aj st)) (len:∀ vs H Q E,sp vs H Q E→vs.length=ps.length)
  (hbody:∀ (cdv:Value) (A:Around) (outer:List Env) (s:Shared) (H:Hp) (vs:List V) (Q:VK) (E:XK),Room k (A.deeper (envOfC qual (aj st) s.heap.objs.size f cdv))→sp vs H Q E→
   ∃ t,PSs (cxOf CX0 P w K mg base N qual (aj st) f cdv A outer s H E).nox (aU st) t∧t { nx:=fun _ H'=>Q .non H',rt:=Q } (start N vs) H):FnOk P w K mg base CX0 (k+1) f fd ps sp:=by
 obtain ⟨oc,od,kV,doc,pm,an,cdv,ct,osl,rfl,lk,hcd⟩:=F.ex
 refine sR lk hcd S len fun A outer s H vs Q E hr hsp=>?_
 obtain ⟨t,h,q⟩:=hbody cdv A outer s H vs Q E hr hsp
 exact ⟨t,h.nox,q⟩
theorem Fun.binds {x qual:Str} {st:Stmt} {f:Addr} {fd:FuncData} {ps:List Str} (F:Fun K x qual st f fd)
  (h:∀ (kV doc pm:Value) (an:Option Addr) (cdv ct:Value) (us:List Value),us.length=ps.length→bindArgs (PySem.W.fnOf x qual (ba st) (aU st) (aj st) .none kV doc pm an cdv ct) ⟨us,[]⟩=pure (ps.zip us)):Binds K fd ps []:=by
 obtain ⟨oc,od,kV,doc,pm,an,cdv,ct,osl,rfl,lk,hcd⟩:=F.ex
 exact .all (h kV doc pm an cdv ct)
theorem aG {x qual:Str} {st:Stmt} {f:Addr} {oc:Value} {od an:Option Addr} {osl:Array (Option Value)} {kV doc pm cdv ct:Value} (l:K.lookup f=some ⟨oc,od,.func (PySem.W.fnOf x qual (ba st) (aU st) (aj st) .none kV doc pm an cdv ct),osl⟩)
  (c:PySem.W.codeIn K cdv qual=true) (k:PySem.W.keepIn K (.ref f)=true):Fun K x qual st f (PySem.W.fnOf x qual (ba st) (aU st) (aj st) .none kV doc pm an cdv ct):=⟨⟨oc,od,kV,doc,pm,an,cdv,ct,osl,rfl,l,c⟩,k⟩
end
theorem aR {n:Nat} (h:n≤1000):n < sizeLine:=Nat.lt_of_le_of_lt h (by decide)
section
variable {X:Cx}
theorem pv (i:Nat) {x:Str} {pos:Pos} (hN:X.N[i]? =some x:=by rfl) (hv:Vis X.env.scope x:=by first | exact Or.inl rfl | exact Or.inr (Or.inl rfl) | exact Or.inr (Or.inr rfl)) (hd:(x==("__debug__":Str))=false:=by decide)
  (hcd:(x==("__classdict__":Str))=false:=by decide):PE X (.Name x pos) (tVar i):=um hN hv hd hcd
end
theorem iteF {A B:Prop} (h:B):if false=true then A else B:=by
 rw [if_neg Bool.false_ne_true]
 exact h
theorem iteT {A B:Prop} (h:A):if true=true then A else B:=by
 rw [if_pos rfl]
 exact h
def Same (H H':Hp):Prop:=∀ b o,H b=some o→H' b=some o
theorem Same.refl (H:Hp):Same H H:=fun _ _ h=>h
theorem Same.trans {H H1 H2:Hp} (a:Same H H1) (b:Same H1 H2):Same H H2:=fun c o h=>b c o (a c o h)
theorem Same.free {H H':Hp} (e:Same H H') {l:Addr} (h:H' l=Option.none):H l=Option.none:=by
 cases q:H l with
 | none=>rfl
 | some o=>
  rw [e l o q] at h
  cases h
theorem Same.seq {K:PySem.W.Frag} {H H':Hp} {a:Addr} {xs:List V} (e:Same H H') (h:SqL K H a xs):SqL K H' a xs:=by
 rcases h with (h | ⟨o,h⟩) | h
 · exact .inl (.inl (e _ _ h))
 · exact .inl (.inr ⟨o,e _ _ h⟩)
 · exact .inr h
end L2
namespace L2
open PySem PySem.Spec PyProof.Rows
section
variable {κ:Type} [DecidableEq κ]
def valV (kvs:List (κ × V)) (k:κ):Option V:=(kvs.find? fun kv=>decide (kv.1=k)).map (·.2)
def putK (kvs:List (κ × V)) (k:κ) (v:V):List (κ × V):=
 if (kvs.any fun kv=>decide (kv.1=k))=true then kvs.map (fun kv=>if kv.1=k then (kv.1,v) else kv) else kvs++[(k,v)]
theorem oq {p:κ × V} {r:List (κ × V)} {k:κ} (e:p.1=k):valV (p::r) k=some p.2:=by simp [valV,List.find?_cons,e]
theorem or {p:κ × V} {r:List (κ × V)} {k:κ} (e:¬ p.1=k):valV (p::r) k=valV r k:=by simp [valV,List.find?_cons,e]
theorem RelO.isSome_eq {o:Option V} {u:Option Value} (r:RelO o u):o.isSome=u.isSome:=by
 cases o with
 | none=>cases u with
  | none=>rfl
  | some _=>exact (show False from r).elim
 | some _=>cases u with
  | none=>exact (show False from r).elim
  | some _=>rfl
theorem KV.val {kvs:List (κ × V)} {vs:List (κ × Value)} (r:KV kvs vs) (k:κ):RelO (valV kvs k) (valueAt vs k):=by
 unfold KV at r
 induction r with
 | nil=>exact True.intro
 | @cons p q ps qs h t ih=>
  obtain ⟨h1,h2⟩:=h
  by_cases e:p.1=k
  · have e':q.1=k:=h1.symm.trans e
    have b:valueAt (q::qs) k=some q.2:=by simp [valueAt,List.find?_cons,e']
    rw [oq e,b]; exact h2
  · have e':¬ q.1=k:=fun z=>e (h1.trans z)
    have b:valueAt (q::qs) k=valueAt qs k:=by simp [valueAt,List.find?_cons,e']
    rw [or e,b]; exact ih
theorem KV.length {kvs:List (κ × V)} {vs:List (κ × Value)} (r:KV kvs vs):kvs.length=vs.length:=Paired.length r
end
theorem qj {P:Program} {w:World} {k:Key} {u:Value} (r:RelV (kV k) u):(cQ P w).is k u=true:=by
 cases k with
 | inl i=>obtain ⟨t,e⟩:=(show ∃ t,u=Value.int i t from r); subst e; exact pB P w i t
 | inr x=>obtain ⟨t,e⟩:=(show ∃ t,u=Value.str x t from r); subst e; exact pC P w x t
theorem m4 {P:Program} {w:World}:∀ {ks:List Key} {us:List Value},Vals (ks.map kV) us→ItemsAre (cQ P w) ks us
 | [],_,r=>by rw [List.map_nil] at r; cases r; exact .nil
 | k::ks,_,r=>by
  rw [List.map_cons] at r
  cases r with
  | cons h t=>exact .cons (qj h) (m4 t)
abbrev KT (H:Hp):List (List Key × V)→List (List Key × Addr × Value)→Prop:=Paired fun p q=>p.1=q.1∧H q.2.1=some (.tup (p.1.map kV))∧RelV p.2 q.2.2
theorem KT.val {H:Hp} {kvs:List (List Key × V)} {xs:List (List Key × Addr × Value)} (r:KT H kvs xs) (k:List Key):RelO (valV kvs k) ((atKey xs k).map (·.2)):=by
 induction r with
 | nil=>exact True.intro
 | @cons p q ps qs h t ih=>
  obtain ⟨h1,_,h2⟩:=h
  by_cases e:p.1=k
  · have e':q.1=k:=h1.symm.trans e
    have b:atKey (q::qs) k=some q.2:=by simp [atKey,List.find?_cons,e']
    rw [oq e,b]; exact h2
  · have e':¬ q.1=k:=fun z=>e (h1.trans z)
    have b:atKey (q::qs) k=atKey qs k:=by simp [atKey,List.find?_cons,e']
    rw [or e,b]; exact ih
section
variable {P:Program} {w:World} {H:Hp} {h:Heap} {a:Addr}
theorem sS {u:HO} (ok:HOk P w H h) (e:Rd H a u):ObjOk P w H h a u:=e.ok ok
theorem nX {kvs:List (Key × V)} (ok:HOk P w H h) (e:Rd H a (.dK kvs)):kvs.length≤sizeLine∧(a==sysModules)=false∧∃ vs,KV kvs vs∧h.DictOf (cQ P w) a vs:=
 show ObjOk P w H h a (.dK kvs) from sS ok e
theorem ot {ks:List Key} (ok:HOk P w H h) (e:H a=some (.tup (ks.map kV))):(tupleKind (cQ P w)).is h ks a:=by
 obtain ⟨_,its,r,o,h1,h2,n,h3⟩:=(show ObjOk P w H h a (.tup (ks.map kV)) from ok a _ e)
 exact ⟨o,its.toArray,n,h1,h2,h3,by simpa using m4 r⟩
theorem qk {kvs:List (List Key × V)} (ok:HOk P w H h) (e:Rd H a (.dT kvs)):kvs.length≤sizeLine∧(a==sysModules)=false∧
  ∃ xs,KT H kvs xs∧h.DictOfH (tupleKind (cQ P w)) a xs:=by
 obtain ⟨z,y,xs,r,o,es,ep,h1,h2,h3,h4,h5⟩:=(show ObjOk P w H h a (.dT kvs) from sS ok e)
 refine ⟨z,y,xs,r,o,es,ep,h1,h2,h3,h4,fun x hx=>?_,h5⟩
 have all:∀ {l:List (List Key × V)} {m:List (List Key × Addr × Value)},KT H l m→∀ x∈m,(tupleKind (cQ P w)).is h x.1 x.2.1:=by
  intro l m q
  induction q with
  | nil=>intro x hx; exact nomatch hx
  | @cons p q ps qs hq t ih=>
   intro x hx
   rcases List.mem_cons.mp hx with e | hx
   · subst e
     exact ot ok (by rw [← hq.1]; exact hq.2.1)
   · exact ih x hx
 exact all r x hx
end
def DGet (H:Hp) (a:Addr) (y:V) (r:Option V):Prop:=
 (∃ kvs k,Rd H a (.dK kvs)∧y=kV k∧r=valV kvs k)∨∃ kvs k b,Rd H a (.dT kvs)∧y=.ref b∧H b=some (.tup (k.map kV))∧r=valV kvs k
def DPut (H:Hp) (a:Addr) (y v:V) (H':Hp):Prop:=
 (∃ kvs k,H a=some (.dK kvs)∧y=kV k∧kvs.length < sizeLine∧H'=upd H a (.dK (putK kvs k v)))∨
 ∃ kvs k b,H a=some (.dT kvs)∧y=.ref b∧H b=some (.tup (k.map kV))∧kvs.length < sizeLine∧H'=upd H a (.dT (putK kvs k v))
theorem DGet.k {H:Hp} {a:Addr} {kvs:List (Key × V)} {k:Key} (e:H a=some (.dK kvs)):DGet H a (kV k) (valV kvs k):=.inl ⟨kvs,k,.inl e,rfl,rfl⟩
section
variable {X:Cx} {pins:List (Addr × Obj)} {σ:St} {H:Hp} {s:Shared} {a:Addr} {y v:V} {u r:Value} {o:Option V} {A:Around} {E:Value→Shared→Prop}
theorem rf {Q:Value→Shared→Prop} (hu:A.units+1 < cLine) (I:Inv X pins σ H s) (g:DGet H a y (some v)) (ry:RelV y u) (h:∀ w' s',Inv X pins σ H s'→RelV v w'→Q w' s'):
  wpAny (model X.prog X.w) A (getItem (.ref a) u) Q E s:=by
 rcases g with ⟨kvs,k,e,ey,l⟩ | ⟨kvs,k,b,e,ey,eb,l⟩
 · subst ey
   obtain ⟨z,hd,vs,rel,dd⟩:=nX I.hok e
   obtain ⟨w',hw,rw'⟩:=RelO.some_of (v:=v) (o:=valueAt vs k) (by rw [l]; exact rel.val k)
   exact wpAny_getItem_of (qj ry) dd.mapOf hw (h w' _ (I.tok _) rw')
 · subst ey
   cases (show u=Value.ref b from ry)
   obtain ⟨z,hd,xs,rel,dd⟩:=qk I.hok e
   obtain ⟨w',hw,rw'⟩:=RelO.some_of (v:=v) (o:=(atKey xs k).map (·.2)) (by rw [l]; exact rel.val k)
   obtain ⟨p,hp,hp2⟩:=Option.map_eq_some_iff.mp hw
   refine wpAny_getItem_heap (tupleKind_room_in1 hu) (ot I.hok eb) dd hp ?_
   rw [hp2]
   exact h w' _ (I.tok _) rw'
theorem vD {Q:Value→Shared→Prop} (hu:A.units+1 < cLine) (I:Inv X pins σ H s) (g:DGet H a y o) (ry:RelV y u) (h:∀ s',Inv X pins σ H s'→Q (.bool o.isSome) s'):
  wpAny (model X.prog X.w) A (compareOp .In u (.ref a)) Q E s:=by
 rcases g with ⟨kvs,k,e,ey,l⟩ | ⟨kvs,k,b,e,ey,eb,l⟩
 · subst ey
   obtain ⟨z,hd,vs,rel,dd⟩:=nX I.hok e
   refine wpAny_in_of (qj ry) hd dd.mapOf ?_
   rw [← (rel.val k).isSome_eq,← l]
   exact h _ (I.tok _)
 · subst ey
   cases (show u=Value.ref b from ry)
   obtain ⟨z,hd,xs,rel,dd⟩:=qk I.hok e
   refine wpAny_in_heap (tupleKind_room_in1 hu) (ot I.hok eb) hd dd ?_
   have q:=(rel.val k).isSome_eq
   rw [Option.isSome_map] at q
   rw [← q,← l]
   exact h _ (I.tok _)
end
section
variable {X:Cx} {pins:List (Addr × Obj)} {σ:St} {H:Hp} {s:Shared} {a:Addr} {kvs:List (Key × V)} {k:Key} {u:Value} {A:Around} {E:Value→Shared→Prop}
theorem vm {Q:Value→Shared→Prop} (I:Inv X pins σ H s) (e:Rd H a (.dK kvs)) (h:∀ t s',Inv X pins σ H s'→Q (.int kvs.length t) s'):wpAny (model X.prog X.w) A (call (.builtin "len") [.ref a]) Q E s:=by
 obtain ⟨z,hd,vs,rel,dd⟩:=nX I.hok e
 refine call_len_dict hd dd (by rw [← rel.length]; rw [sizeLine_eq] at z; omega) ?_
 rw [← rel.length]
 exact h _ _ (I.tok _)
end
theorem pE {X:Cx} {pins:List (Addr × Obj)} {σ:St} {H:Hp} {s:Shared} {a:Addr} {y:V} {o:Option V} (I:Inv X pins σ H s) (g:DGet H a y o):s.TypeIs (.ref a) "dict":=by
 rcases g with ⟨kvs,k,e,_,_⟩ | ⟨kvs,k,b,e,_,_,_⟩
 · obtain ⟨_,_,vs,_,dd⟩:=nX I.hok e
   exact dd.typeIs
 · obtain ⟨_,_,xs,_,dd⟩:=qk I.hok e
   exact dd.typeIs
def sDPut (td ty tv:TE):TS:=fun D σ H=>tv σ H fun v H1=>td σ H1 fun x H2=>ty σ H2 fun y H3=>∃ a H4,x=.ref a∧DPut H3 a y v H4∧D.nx σ H4
def uF:TE:=fun _ H Q=>∀ p,H p=none→Q (.ref p) (upd H p (.dK []))
end L2
namespace L2
open PySem PySem.Spec PyProof.Rows
section
variable {X:Cx}
theorem rg:CallR X (.builtin "len") (fun xs H Q=>∃ a kvs,xs=[V.ref a]∧H a=some (.dK kvs)∧Q (.int kvs.length) H):=by
 intro pins s σ H xs us Q I r h
 obtain ⟨a,kvs,rfl,ha,q⟩:=h
 obtain ⟨u,rfl,ru⟩:=cL r
 cases ru
 exact vm I (.inl ha) fun t s' I'=>⟨.int kvs.length,H,I',⟨t,rfl⟩,q⟩
end
end L2
namespace L2
open PySem PySem.Spec PyProof.Rows
theorem bJ {α:Type} (x:Str):∀ (a b:List (Str × α)),(a++b).lookup x=match a.lookup x with | some c=>some c | none=>b.lookup x
 | [],b=>rfl
 | (k,v)::r,b=>by
  rw [List.cons_append,List.lookup_cons,List.lookup_cons]
  cases x==k with
  | true=>rfl
  | false=>exact bJ x r b
theorem fF:∀ (names:List (Str × NameKind)) (n:Nat) (acc cl:List (Str × Addr)),cellsFrom n names (acc++cl)=cellsFrom n names acc++cl
 | [],_,_,_=>rfl
 | (y,k)::r,n,acc,cl=>by
  unfold cellsFrom
  split
  · rw [← List.cons_append]; exact fF r _ _ cl
  · exact fF r _ _ cl
theorem dw {x:Str} {c:Addr}:∀ (names:List (Str × NameKind)) (n:Nat) (acc:List (Str × Addr)),(x,c)∈cellsFrom n names acc→(x,NameKind.cell)∈names∨(x,c)∈acc
 | [],_,_,h=>.inr h
 | (y,k)::r,n,acc,h=>by
  unfold cellsFrom at h
  split at h
  · rename_i hk
    have hk:k=.cell:=by simpa using hk
    subst hk
    rcases dw r _ _ h with z | z
    · exact .inl (List.mem_cons_of_mem _ z)
    · rcases List.mem_cons.mp z with z | z
      · cases z; exact .inl List.mem_cons_self
      · exact .inr z
  · rcases dw r _ _ h with z | z
    · exact .inl (List.mem_cons_of_mem _ z)
    · exact .inr z
theorem ik {env:Env} (f:Str × NameKind→List (Str × Addr)→Sem (ForInStep (List (Str × Addr))))
  (hf:∀ name kind cs,f (name,kind) cs=if kind==.free then (do let a ← cellOf env name; pure (.yield ((name,a)::cs))) else pure (.yield cs)):
  ∀ (names:List (Str × NameKind)) (acc:List (Str × Addr)),(∀ x,(x,NameKind.free)∈names→∃ c,env.cells.lookup x=some c)→(∀ x c,acc.lookup x=some c→env.cells.lookup x=some c)→
   ∃ cl,forIn names acc f=(pure cl:Sem _)∧(∀ x c,cl.lookup x=some c→env.cells.lookup x=some c)∧(∀ x,((x,NameKind.free)∈names∨∃ c,acc.lookup x=some c)→∃ c,cl.lookup x=some c)
 | [],acc,_,h2=>⟨acc,rfl,h2,fun x h=>h.elim (fun z=>nomatch z) id⟩
 | (y,k)::r,acc,h1,h2=>by
  rw [List.forIn_cons,hf]
  by_cases hk:(k==NameKind.free)=true
  · rw [if_pos hk]
    have hk':k=.free:=by simpa using hk
    subst hk'
    obtain ⟨c,hc⟩:=h1 y List.mem_cons_self
    have e:(cellOf env y:Sem Addr)=pure c:=by unfold cellOf; rw [hc]
    rw [e]
    obtain ⟨cl,e1,e2,e3⟩:=ik f hf r ((y,c)::acc) (fun x hx=>h1 x (List.mem_cons_of_mem _ hx)) (fun x c' hx=>by
     rw [List.lookup_cons] at hx
     cases hb:x==y with
     | true=>rw [hb] at hx; cases hx; rw [beq_iff_eq.mp hb]; exact hc
     | false=>rw [hb] at hx; exact h2 x c' hx)
    refine ⟨cl,?_,e2,fun x hx=>e3 x ?_⟩
    · exact e1
    · rcases hx with hx | ⟨c',hx⟩
      · rcases List.mem_cons.mp hx with z | z
        · cases z; exact .inr ⟨c,by rw [List.lookup_cons]; simp⟩
        · exact .inl z
      · cases hb:x==y with
        | true=>exact .inr ⟨c,by rw [List.lookup_cons,hb]⟩
        | false=>exact .inr ⟨c',by rw [List.lookup_cons,hb]; exact hx⟩
  · rw [if_neg hk]
    obtain ⟨cl,e1,e2,e3⟩:=ik f hf r acc (fun x hx=>h1 x (List.mem_cons_of_mem _ hx)) h2
    refine ⟨cl,e1,e2,fun x hx=>e3 x ?_⟩
    rcases hx with hx | hx
    · rcases List.mem_cons.mp hx with z | z
      · cases z; exact absurd rfl hk
      · exact .inl z
    · exact .inr hx
theorem ql {scope:Scope} {env:Env} (h:∀ x,(x,NameKind.free)∈scope.names→∃ c,env.cells.lookup x=some c):
  ∃ cl,closureFor scope env=pure cl∧(∀ x c,cl.lookup x=some c→env.cells.lookup x=some c)∧∀ x,(x,NameKind.free)∈scope.names→∃ c,cl.lookup x=some c:=by
 obtain ⟨cl,e1,e2,e3⟩:=ik (env:=env) (fun x cs=>match x with | (name,kind)=>if kind==.free then (do let a ← cellOf env name; pure (.yield ((name,a)::cs))) else pure (.yield cs)) (fun _ _ _=>rfl) scope.names [] h (fun x c hx=>nomatch hx)
 refine ⟨cl,?_,e2,fun x hx=>e3 x (.inl hx)⟩
 have:closureFor scope env=(forIn scope.names [] (fun x cs=>match x with | (name,kind)=>if kind==.free then (do let a ← cellOf env name; pure (.yield ((name,a)::cs))) else pure (.yield cs)) >>= fun cs=>pure cs):=by
  simp only [closureFor]
 rw [this,e1]
 rfl
def kX (scope:Scope) (cl:List (Str × Addr)) (C:Addr) (env:Env):Env:=
 { newEnv scope C env.globals (cellsFrom (C+1) scope.names cl) env.qual none .none (some env) builtinsNs with scope:=relabel scope env }
theorem sw {M:Model} {A:Around} {E:Value→Shared→Prop} {s:Shared} {scope:Scope} {cl:List (Str × Addr)} {env:Env} {Q:Env→Shared→Prop}
  (hQ:Q (newEnv scope s.heap.objs.size env.globals (cellsFrom (s.heap.objs.size+1) scope.names cl) env.qual none .none (some env) builtinsNs) { s with heap:=pushCells (s.heap.push { cls:=.type "dict",data:=.dict #[] }) scope.names }):
  wpAny M A (newFunctionEnv scope env.globals cl [] env.qual none .none (some env)) Q E s:=by
 simp only [newFunctionEnv,Option.isSome_some,if_true]
 refine wpAny_bind (wpAny_alloc ?_)
 refine wpAny_bind (wpAny_layCells _ (fun name kind cells=>by cases hkc:kind==NameKind.cell <;> simp [hkc]) _ _ _ _ ?_)
 rw [show ({ s with heap:=s.heap.push { cls:=.type "dict",data:=.dict #[] } }:Shared).heap.objs.size=s.heap.objs.size+1 from Heap.size_push ..]
 refine wpAny_bind ?_
 rw [List.forIn_nil]
 exact wpAny_pure (wpAny_pure hQ)
section
variable {prog:Program} {w:World} {A:Around} {E:Value→Shared→Prop} {R:Result→Shared→Prop} {s:Shared}
theorem rh {elt target iter:Expr} {ifs:List Expr} {scope:Scope} {pos:Pos} {it acc:Value} {env:Env} (I:Nat→Shared→Prop)
  (turn:∀ n s,I n s→wpAny (model prog w) A (pyNext it) (fun r s₁=>match r with
   | none=>R (.ok .next) s₁
   | some v=>wpAny (model prog w) A (letOwnedTupleGo target it v) (fun _ s₁'=>wpAny (model prog w) A (assign target env v) (fun _ s₂=>
     wpAny (model prog w) A (forIn ifs true fun c r=>if r=true then do let ok ← isTrue c env (eval c env); pure (ForInStep.yield ok) else pure (ForInStep.yield r)) (fun ok s₃=>
      if ok=true then wpAny (model prog w) A (eval elt env) (fun x s₄=>
       wpAny (model prog w) A (call (.builtin "list.append") [acc,x]) (fun _ s₅=>∃ m,m < n∧I m s₅) (notedBy (model prog w) A env fun e s'=>R (.error e) s') s₄) (notedBy (model prog w) A env fun e s'=>R (.error e) s') s₃
      else ∃ m,m < n∧I m s₃) (notedBy (model prog w) A env fun e s'=>R (.error e) s') s₂) (notedBy (model prog w) A env fun e s'=>R (.error e) s') s₁') (notedBy (model prog w) A env fun e s'=>R (.error e) s') s₁) (notedBy (model prog w) A env fun e s'=>R (.error e) s') s)
  (n:Nat) (h:I n s):
  codeAny (model prog w) A (.compLoop (.ListComp elt [⟨target,iter,ifs,0⟩] scope pos) 0 it acc env) R s:=by
 refine codeAny_loop rfl I (fun n s hI=>?_) n h
 show wpAny _ A ((compTurn (.ListComp elt [⟨target,iter,ifs,0⟩] scope pos) 0 it acc env).onRaise (fun x=>do noteFrame x env; theTreesLotGoes x)) _ _ s
 refine wpAny_noted ?_
 rw [compTurn_list]
 refine wpAny_bind (wpAny_standAt (wpAny_bind (wpAny_mono (turn n s hI) (fun r s₁ h₁=>?_) fun _ _ h'=>h')))
 cases r with
 | none=>exact wpAny_pure h₁
 | some v=>
  refine wpAny_bind (wpAny_mono h₁ (fun _ s₁' h₁'=>?_) fun _ _ h'=>h')
  refine wpAny_bind (wpAny_mono h₁' (fun _ s₂ h₂=>wpAny_bind (wpAny_mono h₂ (fun ok s₃ h₃=>?_) fun _ _ h'=>h')) fun _ _ h'=>h')
  cases ok with
  | false=>exact wpAny_pure ⟨rfl,h₃⟩
  | true=>
   exact wpAny_bind (wpAny_bind (wpAny_mono h₃ (fun x s₄ h₄=>wpAny_bind (wpAny_mono h₄ (fun _ s₅ h₅=>wpAny_pure (wpAny_pure ⟨rfl,h₅⟩)) fun _ _ h'=>h')) fun _ _ h'=>h'))
end
end L2
namespace L2
open PySem PySem.Spec PyProof.Rows
theorem gd {scope:Scope} {env:Env} {x:Str} {k:NameKind} (h:(relabel scope env).names.lookup x=some k):∃ k',scope.names.lookup x=some k'∧(k=k'∨(k'=.free∧k=.cell)):=by
 unfold relabel at h
 dsimp only at h
 generalize scope.names=names at h ⊢
 induction names with
 | nil=>cases h
 | cons p r ih=>
  obtain ⟨n,k0⟩:=p
  rw [List.map_cons] at h
  rw [List.lookup_cons]
  cases hb:x==n with
  | true=>
   refine ⟨k0,rfl,?_⟩
   dsimp only at h
   split at h
   · rename_i hc
     rw [List.lookup_cons,hb] at h
     cases h
     simp only [Bool.and_eq_true,beq_iff_eq] at hc
     exact .inr ⟨hc.1.1,rfl⟩
   · rw [List.lookup_cons,hb] at h
     cases h
     exact .inl rfl
  | false=>
   dsimp only at h
   refine ih ?_
   split at h
   · rw [List.lookup_cons,hb] at h; exact h
   · rw [List.lookup_cons,hb] at h; exact h
def blkCx (X:Cx) (N:List Str) (scope:Scope) (cl:List (Str × Addr)) (s:Shared) (H:Hp) (fp:List Addr):Cx where
 prog:=X.prog
 w:=X.w
 K:=X.K
 mg:=X.mg
 base:=X.base
 A:=X.A
 N:=N
 s₀:=s
 H₀:=H
 env:=kX scope cl (s.heap.objs.size+1) X.env
 outer:=X.stack
 stack:=X.stack
 ex:=fp
 fn:=fun x=>scope.names.lookup x==some .cell
 calm:=X.calm
 pn:=[]
 xe:=fun e₀ s₁=>(∃ (pins:List (Addr × Obj)) (σ:St),Inv X pins σ H s∧∀ b∈fp,FpOk X pins H b)→notedBy (model X.prog X.w) X.A (kX scope cl (s.heap.objs.size+1) X.env) (fun x s'=>∃ m,s'.heap.Ns (s.heap.objs.size+1) m∧∀ h',Heap.SameBut (s.heap.objs.size+1) s'.heap h'→∀ cenv:Env,cenv.locals=s.heap.objs.size+1→
  wpAny (model X.prog X.w) X.A (passOn "comprehension.variables-let-go" x cenv:Sem Value) (fun _ _=>False) X.xe { s' with heap:=h' }) e₀ s₁
def subσ (ix:List (Option Nat)) (σ:St):St:=ix.map fun o=>match o with | none=>none | some i=>match σ[i]? with | some v=>v | none=>none
structure BlkOk (X:Cx) (N:List Str) (ix:List (Option Nat)) (scope:Scope):Prop where
 kind:scope.kind=.function
 nd:N.Nodup
 len:ix.length=N.length
 names:(scope.names.map (·.1)).Nodup
 free:∀ x,(x,NameKind.free)∈scope.names→X.env.kindOf x=some .cell∨X.env.kindOf x=some .free
 at_:∀ (j i:Nat) (x:Str),N[j]? =some x→ix[j]? =some (some i)→X.N[i]? =some x∧(x,NameKind.free)∈scope.names
theorem cO {α:Type}:∀ {l:List (Str × α)} {x:Str} {k:α},(l.map (·.1)).Nodup→(x,k)∈l→l.lookup x=some k
 | (y,k0)::r,x,k,nd,h=>by
  rw [List.map_cons,List.nodup_cons] at nd
  rw [List.lookup_cons]
  rcases List.mem_cons.mp h with e | e
  · cases e; simp
  · have:x≠y:=by
     rintro rfl
     exact nd.1 (List.mem_map.mpr ⟨(x,k),e,rfl⟩)
    have hb:(x==y)=false:=by simpa using this
    rw [hb]
    exact cO nd.2 e
theorem ri {X:Cx} {pins:List (Addr × Obj)} {σ:St} {H:Hp} {s:Shared} {N:List Str} {ix:List (Option Nat)} {scope:Scope} {cl:List (Str × Addr)} {fp:List Addr} (B:BlkOk X N ix scope)
  (I:Inv X pins σ H s) (hcl:∀ x c,cl.lookup x=some c→X.env.cells.lookup x=some c) (hcf:∀ x,(x,NameKind.free)∈scope.names→∃ c,cl.lookup x=some c)
  (hfp:∀ b∈fp,FpOk X pins H b) (hob:∀ b∈fp,∃ o,s.heap.get? b=some o∧∀ v,o.data≠.cell v):
  Inv (blkCx X N scope cl s H fp) [] (subσ ix σ) (upd H s.heap.objs.size (.lst []))
   { s with heap:=pushCells ((s.heap.push { cls:=.type "list",data:=.seq #[] }).push { cls:=.type "dict",data:=.dict #[] }) scope.names }:=by
 have hs2:(s.heap.push { cls:=.type "list",data:=.seq #[] }).objs.size=s.heap.objs.size+1:=Heap.size_push ..
 have hs3:((s.heap.push { cls:=.type "list",data:=.seq #[] }).push { cls:=.type "dict",data:=.dict #[] }).objs.size=s.heap.objs.size+2:=by rw [Heap.size_push,hs2]
 have hk:∀ b o,s.heap.get? b=some o→(pushCells ((s.heap.push { cls:=.type "list",data:=.seq #[] }).push { cls:=.type "dict",data:=.dict #[] }) scope.names).get? b=some o:=
  fun b o e=>pushCells_keeps _ _ b o (Heap.get?_push_of_some _ (Heap.get?_push_of_some _ e))
 have hl:(pushCells ((s.heap.push { cls:=.type "list",data:=.seq #[] }).push { cls:=.type "dict",data:=.dict #[] }) scope.names).get? s.heap.objs.size=some { cls:=.type "list",data:=.seq #[] }:=
  pushCells_keeps _ _ _ _ (Heap.get?_push_of_some _ (Heap.get?_push_size _ rfl))
 have ok0:=cellsFrom_ok scope.names ((s.heap.push { cls:=.type "list",data:=.seq #[] }).push { cls:=.type "dict",data:=.dict #[] }) (s.heap.objs.size+2) [] ⟨fun _ _ hm=>(nomatch hm),List.Pairwise.nil⟩ (by rw [hs3]; exact Nat.le_refl _)
 rw [hs3] at ok0
 have hcells:(blkCx X N scope cl s H fp).env.cells=cellsFrom (s.heap.objs.size+2) scope.names []++cl:=by
  show cellsFrom (s.heap.objs.size+1+1) scope.names cl=_
  rw [← List.nil_append cl,fF]
  simp
 have cases_:∀ x c,(blkCx X N scope cl s H fp).env.cells.lookup x=some c→((x,c)∈cellsFrom (s.heap.objs.size+2) scope.names []∧(x,NameKind.cell)∈scope.names)∨((cellsFrom (s.heap.objs.size+2) scope.names []).lookup x=none∧cl.lookup x=some c):=fun x c e=>by
  rw [hcells,bJ] at e
  cases q:(cellsFrom (s.heap.objs.size+2) scope.names []).lookup x with
  | none=>rw [q] at e; exact .inr ⟨rfl,e⟩
  | some c'=>
   rw [q] at e
   cases e
   have m:=PySem.mem_of_lookup q
   refine .inl ⟨m,?_⟩
   rcases dw _ _ _ m with z | z
   · exact z
   · exact nomatch z
 have oldc:∀ x c,cl.lookup x=some c→c < s.heap.objs.size:=fun x c e=>by
  obtain ⟨v,q⟩:=I.cell x c (hcl x c e)
  exact q.lt
 have hfree:H s.heap.objs.size=none:=I.hok.fresh (Nat.le_refl _)
 have hfix:∀ b,s.heap.objs.size < b→(upd H s.heap.objs.size (.lst [])) b=none:=fun b hb=>by
  rw [ah (Nat.ne_of_gt hb)]
  exact I.hok.fresh (Nat.le_of_lt hb)
 have hlt:∀ b∈fp,b < s.heap.objs.size:=fun b hb=>by
  obtain ⟨o,e,_⟩:=hob b hb
  exact Heap.lt_size e
 have e0:=I.env0
 have isnew:∀ x c,(x,c)∈cellsFrom (s.heap.objs.size+2) scope.names []→s.heap.objs.size+2≤c:=fun x c m=>(ok0.empty x c m).2
 refine ⟨⟨I.ok.mod,B.kind,I.ok.glob,I.ok.blt,Nat.le_succ _,fun x y c e1 e2=>?_,fun x hx=>?_,fun x c hx e=>?_,I.ok.hd,I.ok.frames,.inl rfl,fun b hb=>⟨?_,fun x c e=>?_⟩,e0.bs,e0.bsz,fun b o e hb=>?_,fun b hb hb2=>?_,e0.funs,e0.frf⟩,
  rfl,I.bare,Un.laid hk (Nat.le_refl _) hfree,⟨fun _=>none,?_,fun j x v e1 e2 e3=>?_⟩,fun x c e=>?_,hfix _ (Nat.lt_succ_self _),fun x c e=>?_,fun p hp=>absurd (show p∈([]:List (Addr × Obj)) from hp) (by simp),?_,?_⟩
 · rcases cases_ x c e1 with ⟨m1,k1⟩ | ⟨n1,q1⟩ <;> rcases cases_ y c e2 with ⟨m2,k2⟩ | ⟨n2,q2⟩
   · exact name_of_addr ok0.apart m1 m2
   · exact absurd (Nat.lt_of_lt_of_le (oldc _ _ q2) (Nat.le_trans (Nat.le_add_right _ _) (isnew _ _ m1))) (Nat.lt_irrefl _)
   · exact absurd (Nat.lt_of_lt_of_le (oldc _ _ q1) (Nat.le_trans (Nat.le_add_right _ _) (isnew _ _ m2))) (Nat.lt_irrefl _)
   · exact I.ok.inj x y c (hcl _ _ q1) (hcl _ _ q2)
 · have hx':(relabel scope X.env).names.lookup x=some .cell∨(relabel scope X.env).names.lookup x=some .free:=hx
   have key:scope.names.lookup x=some .cell∨scope.names.lookup x=some .free:=by
    rcases hx' with z | z
    · obtain ⟨k',e,r | r⟩:=gd z
      · rw [← r] at e; exact .inl e
      · rw [r.1] at e; exact .inr e
    · obtain ⟨k',e,r | r⟩:=gd z
      · rw [← r] at e; exact .inr e
      · cases r.2
   rw [hcells]
   rcases key with z | z
   · obtain ⟨c,q⟩:=ij (n:=s.heap.objs.size+2) z
     exact ⟨c,by rw [bJ,q]⟩
   · obtain ⟨c,q⟩:=hcf x (PySem.mem_of_lookup z)
     cases q2:(cellsFrom (s.heap.objs.size+2) scope.names []).lookup x with
     | none=>exact ⟨c,by rw [bJ,q2]; exact q⟩
     | some c'=>exact ⟨c',by rw [bJ,q2]⟩
 · have hx':scope.names.lookup x=some .cell:=by simpa [blkCx] using hx
   rcases cases_ x c e with ⟨m1,k1⟩ | ⟨n1,q1⟩
   · exact Nat.le_trans (Nat.le_add_right _ _) (isnew _ _ m1)
   · obtain ⟨c',q⟩:=ij (n:=s.heap.objs.size+2) hx'
     rw [q] at n1; cases n1
 · exact Nat.ne_of_lt (Nat.lt_succ_of_lt (hlt b hb))
 · rcases cases_ x c e with ⟨m1,k1⟩ | ⟨n1,q1⟩
   · exact Nat.ne_of_gt (Nat.lt_of_lt_of_le (hlt b hb) (Nat.le_trans (Nat.le_add_right _ _) (isnew _ _ m1)))
   · exact (hfp b hb).2.2.2.2.1 x c (hcl _ _ q1)
 · rcases (hfp b hb).2.2.2.1 with z | z
   · exact I.ok.noex b o e z
   · exact absurd (Nat.lt_of_lt_of_le (Heap.lt_size e) (Nat.le_trans I.ok.bsz z)) (Nat.lt_irrefl _)
 · rcases List.mem_cons.mp (I.stkSub b hb2) with z | z
   · exact (hfp b hb).2.1 z
   · exact (hfp b hb).2.2.1 z
 · show Heap.Ns _ (s.heap.objs.size+1) _
   rw [← hs2]
   exact (Heap.Ns.new _ (.type "dict")).keeps (pushCells_keeps _ _)
 ·
   unfold subσ at e2
   rw [List.getElem?_map] at e2
   cases q:ix[j]? with
   | none=>rw [q] at e2; cases e2
   | some o=>
    rw [q] at e2
    cases o with
    | none=>cases e2
    | some i=>
     simp only [Option.map_some,Option.some.injEq] at e2
     obtain ⟨hN,hm⟩:=B.at_ j i x e1 q
     have hσ:σ[i]? =some (some v):=by
      cases q2:σ[i]? with
      | none=>rw [q2] at e2; cases e2
      | some z=>rw [q2] at e2; exact congrArg some e2
     obtain ⟨m,hn,hl'⟩:=I.loc
     have hkind:=B.free x hm
     have hvis:Vis X.env.scope x:=hkind.elim (fun z=>.inr (.inl z)) fun z=>.inr (.inr z)
     obtain ⟨u,ru,lk⟩:=hl' i x v hN hσ hvis
     refine ⟨u,ru,?_⟩
     obtain ⟨c,hc⟩:=hcf x hm
     have hnone:(cellsFrom (s.heap.objs.size+2) scope.names []).lookup x=none:=by
      cases q2:(cellsFrom (s.heap.objs.size+2) scope.names []).lookup x with
      | none=>rfl
      | some c'=>
       rcases dw _ _ _ (PySem.mem_of_lookup q2) with z | z
       · have a1:=cO B.names z
         have a2:=cO B.names hm
         rw [a1] at a2; cases a2
       · exact nomatch z
     have hcell:(blkCx X N scope cl s H fp).env.cells.lookup x=some c:=by rw [hcells,bJ,hnone]; exact hc
     have hkk:(blkCx X N scope cl s H fp).env.kindOf x=some .cell∨(blkCx X N scope cl s H fp).env.kindOf x=some .free:=by
      rcases e3 with z | z | z
      · obtain ⟨k',e,r | r⟩:=gd (show (relabel scope X.env).names.lookup x=some .local from z)
        · rw [cO B.names hm] at e; cases e; cases r
        · cases r.2
      · exact .inl z
      · exact .inr z
     refine .inr ⟨hkk,c,hcell,?_⟩
     rcases lk with ⟨k1,_⟩ | ⟨_,c2,e4,z⟩
     · rcases hkind with z | z <;> rw [k1] at z <;> cases z
     · rw [hcl x c hc] at e4; cases e4
       exact z.keeps hk
 · rcases cases_ x c e with ⟨m1,k1⟩ | ⟨n1,q1⟩
   · exact ⟨none,(ok0.empty x c m1).1⟩
   · obtain ⟨v,z⟩:=I.cell x c (hcl _ _ q1)
     exact ⟨v,z.keeps hk⟩
 · rcases cases_ x c e with ⟨m1,k1⟩ | ⟨n1,q1⟩
   · exact hfix c (Nat.lt_of_lt_of_le (Nat.lt_add_of_pos_right (by decide)) (isnew _ _ m1))
   · rw [ah (Nat.ne_of_lt (oldc _ _ q1))]
     exact I.freeC x c (hcl _ _ q1)
 · exact I.hok.laid hk (Nat.le_refl _) ⟨Nat.zero_le _,[],0,.nil,hl⟩
 · show (subσ ix σ).length=N.length
   unfold subσ
   rw [List.length_map]
   exact B.len
end L2
namespace L2
open PySem PySem.Spec PyProof.Rows
def PTs (X:Cx) (ifs:List Expr) (t:TT):Prop:=
 ∀ (pins:List (Addr × Obj)) (s:Shared) (σ:St) (H:Hp) (Q:Bool→Hp→Prop),Inv X pins σ H s→t σ H Q→
  wpAny (model X.prog X.w) X.A (forIn ifs true fun c r=>if r=true then do let ok ← isTrue c X.env (eval c X.env); pure (ForInStep.yield ok) else pure (ForInStep.yield r)) (TP X pins σ Q) X.xe s
def tTrue:TT:=fun _ H Q=>Q true H
theorem cA {X:Cx}:PTs X [] tTrue:=fun _ _ _ H _ I h=>wpAny_tests_nil ⟨H,I,h⟩
theorem lY {X:Cx} {c:Expr} {t:TT} (h:PT X c t):PTs X [c] t:=fun pins s σ H Q I q=>wpAny_tests_one (h pins s σ H Q I q)
def ou (ix:List (Option Nat)) (wi:TI) (g:TG) (tt:TT) (te:TE) (fin:Addr→Hp→Prop):St→Hp→Prop:=fun σ H=>wi σ H fun J H1=>∀ l,H1 l=none→
 ∃ W:Nat→Nat→St→Hp→Prop,(∃ m,W 0 m (subσ ix σ) (upd H1 l (.lst [])))∧∀ i m σ' H',W i m σ' H'→
  (J.stop i H'∧fin l H')∨(J.go i H'∧∃ N:St→Hp→Prop,(∀ σ'' H'',N σ'' H''→∃ m',m' < m∧W (i+1) m' σ'' H'')∧∀ x H2,J.yld i H' x H2→g x σ' H2 fun σ2 H3=>tt σ2 H3 fun b H4=>
   if b=true then te σ2 H4 fun y H5=>∃ ys,H5 l=some (.lst ys)∧ys.length < sizeLine∧N σ2 (upd H5 l (.lst (ys++[y]))) else N σ2 H4)
section
variable {X:Cx} {pins:List (Addr × Obj)} {σ σ':St} {H H':Hp} {s s':Shared} {N:List Str} {scope:Scope} {cl:List (Str × Addr)} {fp:List Addr}
theorem pT {h':Heap} (I:Inv X pins σ H s) (J:Inv (blkCx X N scope cl s H fp) [] σ' H' s') (hfp:∀ b∈fp,FpOk X pins H b) (sb:Heap.SameBut (s.heap.objs.size+1) s'.heap h'):Inv X pins σ H' { s' with heap:=h' }:=by
 have u:Un (frs X.stack) fp H H' s.heap s'.heap:=J.base
 have hC:H' (s.heap.objs.size+1)=none:=J.free
 have ne:∀ b o,s.heap.get? b=some o→b≠s.heap.objs.size+1:=fun b o e=>Nat.ne_of_lt (Nat.lt_succ_of_lt (Heap.lt_size e))
 refine I.call' (s':={ s' with heap:=h' }) (ch:=fp) J.os ⟨fun b o e n hb hx=>?_,fun b o e n hb hx=>?_,u.free,fun b o e hx=>?_,u.tups,u.frzs,u.tbls⟩ (fun b ob e=>?_) J.bare fun b hb=>?_
 · exact (sb.2 b (ne b o e)).trans (u.keep b o e n hb hx)
 · obtain ⟨sl,q⟩:=u.slot b o e n hb hx
   exact ⟨sl,(sb.2 b (ne b o e)).trans q⟩
 · obtain ⟨o',q⟩:=u.there b o e hx
   exact ⟨o',(sb.2 b (ne b o e)).trans q⟩
 · refine (J.hok b ob e).stay (fun c w' hc q=>(sb.2 c ?_).trans q) (fun _ q=>q) fun _ _ q=>q
   rintro rfl
   rcases hc with rfl | hc
   · rw [hC] at e; cases e
   · rw [hC] at hc; cases hc
 · obtain ⟨f0,f1,f2,f3,f4,f5⟩:=hfp b hb
   exact ⟨f3,f1,f4,f5⟩
theorem ow {tg iter elt:Expr} {ifs:List Expr} {pos:Pos} {ix:List (Option Nat)} {wi:TI} {g:TG} {tt:TT} {te:TE} {fin:Addr→Hp→Prop} {RR:Value→Addr→Result→Shared→Prop} (B:BlkOk X N ix scope) (hc:X.calm=true)
  (hi:PI X tg iter wi) (hg:∀ cl s H fp,PG (blkCx X N scope cl s H fp) tg g) (ht:∀ cl s H fp,PTs (blkCx X N scope cl s H fp) ifs tt) (he:∀ cl s H fp,PE (blkCx X N scope cl s H fp) elt te)
  (hcl:∀ x c,cl.lookup x=some c→X.env.cells.lookup x=some c) (hcf:∀ x,(x,NameKind.free)∈scope.names→∃ c,cl.lookup x=some c)
  (I:Inv X pins σ H s) (h:ou ix wi g tt te fin σ H)
  (ok:∀ (s2:Shared) (H2:Hp) (fp:List Addr) (σ3:St) (H3:Hp) (s3:Shared),Inv X pins σ H2 s2→(∀ b∈fp,FpOk X pins H2 b)→Inv (blkCx X N scope cl s2 H2 fp) [] σ3 H3 s3→fin s2.heap.objs.size H3→RR (.ref s2.heap.objs.size) (s2.heap.objs.size+1) (.ok .next) s3)
  (bad:∀ (a C:Addr) (x:Value) (s':Shared),(∃ m,s'.heap.Ns C m∧∀ h',Heap.SameBut C s'.heap h'→∀ cenv:Env,cenv.locals=C→wpAny (model X.prog X.w) X.A (passOn "comprehension.variables-let-go" x cenv:Sem Value) (fun _ _=>False) X.xe { s' with heap:=h' })→RR (.ref a) C (.error x) s'):
  wpAny (model X.prog X.w) X.A (eval iter X.env) (fun x s₁=>wpAny (model X.prog X.w) X.A (pyIter x) (fun it s₂=>wpAny (model X.prog X.w) X.A (newList []) (fun acc s₃=>
   wpAny (model X.prog X.w) X.A (newFunctionEnv scope X.env.globals cl [] X.env.qual none .none (some X.env)) (fun cenv s₄=>
    codeAny (model X.prog X.w) X.A (.compStart (.ListComp elt [⟨tg,iter,ifs,0⟩] scope pos) 0 it acc { cenv with scope:=relabel scope X.env }) (RR acc cenv.locals) s₄) X.xe s₃) X.xe s₂) X.xe s₁) X.xe s:=by
 refine thn (hi pins s σ H _ I h) fun v s1 h1=>thn h1 fun itv s2 h2=>?_
 obtain ⟨it,fp,tn,J,H2,e,I2,T,st2,f2,h2⟩:=h2
 subst e
 refine wpAny_newList (sw ?_) (Nat.zero_le _)
 have hs2:(s2.heap.push { cls:=.type "list",data:=.seq (([]:List Value)).toArray }).objs.size=s2.heap.objs.size+1:=Heap.size_push ..
 dsimp only
 rw [hs2]
 have I3:=ri (fp:=fp) B I2 hcl hcf f2 (T.obj _ _ st2)
 obtain ⟨W,⟨m0,w0⟩,turn⟩:=h2 s2.heap.objs.size I2.fresh
 have hk:∀ b o,s2.heap.get? b=some o→(pushCells ((s2.heap.push { cls:=.type "list",data:=.seq #[] }).push { cls:=.type "dict",data:=.dict #[] }) scope.names).get? b=some o:=
  fun b o e=>pushCells_keeps _ _ b o (Heap.get?_push_of_some _ (Heap.get?_push_of_some _ e))
 have st3:=T.keep _ _ _ st2 fun b _ o e=>hk b o e
 have fr3:∀ b∈fp,(upd H2 s2.heap.objs.size (.lst [])) b=none:=fun b hb=>by
  obtain ⟨o,e,_⟩:=T.obj _ _ st2 b hb
  rw [ah (Nat.ne_of_lt (Heap.lt_size e))]
  exact (f2 b hb).1
 have stat:∀ {σ5:St} {H5:Hp} {s5:Shared},Inv (blkCx X N scope cl s2 H2 fp) [] σ5 H5 s5→(∀ b∈fp,H5 b=none)→∀ b∈fp,FpOk (blkCx X N scope cl s2 H2 fp) [] H5 b:=fun I5 hn b hb=>
  ⟨hn b hb,(I5.ok.exf b hb).1,I5.ok.exfs b hb,.inl hb,(I5.ok.exf b hb).2,fun p hp=>absurd (show p∈([]:List (Addr × Obj)) from hp) (by simp)⟩
 have loop:∀ s₃:Shared,s₃={ s2 with heap:=pushCells ((s2.heap.push { cls:=.type "list",data:=.seq #[] }).push { cls:=.type "dict",data:=.dict #[] }) scope.names }→
   codeAny (model X.prog X.w) X.A (.compLoop (.ListComp elt [⟨tg,iter,ifs,0⟩] scope pos) 0 (.ref it) (.ref s2.heap.objs.size) (blkCx X N scope cl s2 H2 fp).env) (RR (.ref s2.heap.objs.size) (s2.heap.objs.size+1)) s₃:=by
  rintro s₃ rfl
  refine rh (fun n s'=>∃ i σ' H',Inv (blkCx X N scope cl s2 H2 fp) [] σ' H' s'∧tn i s'.heap∧(∀ b∈fp,H' b=none)∧W i n σ' H') ?_ m0 ⟨0,_,_,I3,st3,fr3,w0⟩
  rintro n s4 ⟨i,σ4,H4,I4,st4,fr4,w4⟩
  have xe_:∀ x s',(blkCx X N scope cl s2 H2 fp).xe x s'→notedBy (model X.prog X.w) X.A (blkCx X N scope cl s2 H2 fp).env (fun e s'=>RR (.ref s2.heap.objs.size) (s2.heap.objs.size+1) (.error e) s') x s':=fun x s' hx=>
   wpAny_mono (hx ⟨pins,σ,I2,f2⟩) (fun _ s'' q=>bad _ _ _ _ q) fun e s'' q=>bad _ _ _ _ q
  rcases turn i n σ4 H4 w4 with ⟨stop,qn⟩ | ⟨go,Nx,hN,step⟩
  · refine wpAny_mono (T.done (blkCx X N scope cl s2 H2 fp) rfl rfl rfl hc i [] s4 σ4 H4 _ I4 (stat I4 fr4) st4 stop) (fun r s5 ⟨hr,I5⟩=>?_) xe_
    subst hr
    exact ok s2 H2 fp σ4 H4 s5 I2 f2 I5 qn
  · refine wpAny_mono (T.item (blkCx X N scope cl s2 H2 fp) rfl rfl rfl hc i [] s4 σ4 H4 _ I4 (stat I4 fr4) st4 go) (fun r s5 ⟨u,hr,h5⟩=>?_) xe_
    subst hr
    refine wpAny_mono h5 (fun _ s6 ⟨x,H6,I6,r6,y6,st6,fr6⟩=>?_) xe_
    have I6':=I6.pinned (stat I6 fr6) (T.obj _ _ st6)
    refine wpAny_mono (hg cl s2 H2 fp _ s6 σ4 H6 x u _ I6' r6 (step x H6 y6)) (fun _ s7 ⟨σ7,H7,I7,q7⟩=>?_) xe_
    have again:∀ {σ8:St} {H8:Hp} {s8:Shared},Inv (blkCx X N scope cl s2 H2 fp) ([]++iL fp s6.heap) σ8 H8 s8→Nx σ8 H8→∃ m,m < n∧∃ i σ' H',Inv (blkCx X N scope cl s2 H2 fp) [] σ' H' s8∧tn i s8.heap∧(∀ b∈fp,H' b=none)∧W i m σ' H':=fun {σ8 H8 s8} I8 n8=>by
     obtain ⟨m',hm,w8⟩:=hN σ8 H8 n8
     refine ⟨m',hm,i+1,σ8,H8,I8.unpinned,T.keep _ _ _ st6 fun b hb o e=>(I8.pin (b,o) (List.mem_append_right _ (List.mem_append_right _ (fL hb e)))).1,fun b hb=>?_,w8⟩
     obtain ⟨o,e,d⟩:=T.obj _ _ st6 b hb
     exact (I8.pin (b,o) (List.mem_append_right _ (List.mem_append_right _ (fL hb e)))).2.1
    refine wpAny_mono (ht cl s2 H2 fp _ s7 σ7 H7 _ I7 q7) (fun okb s8 ⟨H8,I8,q8⟩=>?_) xe_
    cases okb with
    | false=>exact again I8 q8
    | true=>
     refine wpAny_mono (he cl s2 H2 fp _ s8 σ7 H8 _ I8 q8) (fun y s9 ⟨yv,H9,I9,r9,ys,hl,hz,q9⟩=>?_) xe_
     refine wpAny_mono (mZ (X:=blkCx X N scope cl s2 H2 fp) _ s9 σ7 H9 (.ref s2.heap.objs.size) [yv] (.ref s2.heap.objs.size) [y] (fun _ H10=>Nx σ7 H10) I9 rfl (.cons r9 .nil) ⟨_,ys,yv,rfl,rfl,hl,hz,q9⟩) (fun _ s10 ⟨_,H10,I10,_,q10⟩=>?_) xe_
     exact again I10 q10
 exact codeAny_compStart_list (loop _ rfl) (T.self _ 0 _ _ _ st3 (loop _ rfl))
def tComp (ix:List (Option Nat)) (wi:TI) (g:TG) (tt:TT) (te:TE):TE:=fun σ H Q=>ou ix wi g tt te (fun l H'=>Q (.ref l) H') σ H
def sComp (k:Nat) (ix:List (Option Nat)) (wi:TI) (g:TG) (tt:TT) (te:TE):TS:=fun D σ H=>ou ix wi g tt te (fun l H'=>D.nx (σ.set k (some (.ref l))) H') σ H
theorem pU (I:Inv X pins σ H s) {ix:List (Option Nat)} (B:BlkOk X N ix scope):∃ cl,closureFor scope X.env=pure cl∧(∀ x c,cl.lookup x=some c→X.env.cells.lookup x=some c)∧∀ x,(x,NameKind.free)∈scope.names→∃ c,cl.lookup x=some c:=
 ql fun x hx=>I.ok.has x (B.free x hx)
theorem j7 {ix:List (Option Nat)} (B:BlkOk X N ix scope):∀ x∈scope.names,x.2=NameKind.local→scope.names.lookup x.1=some .local:=fun x hx e=>by
 obtain ⟨n,k⟩:=x
 cases e
 exact cO B.names hx
theorem cB {tg iter elt:Expr} {ifs:List Expr} {pos:Pos} {ix:List (Option Nat)} {wi:TI} {g:TG} {tt:TT} {te:TE} (N:List Str) (B:BlkOk X N ix scope) (hc:X.calm=true)
  (hi:PI X tg iter wi) (hg:∀ cl s H fp,PG (blkCx X N scope cl s H fp) tg g) (ht:∀ cl s H fp,PTs (blkCx X N scope cl s H fp) ifs tt) (he:∀ cl s H fp,PE (blkCx X N scope cl s H fp) elt te)
  (hs:∀ x,foldedSetIterable iter X.env x=pure x:=by intro _; rfl):PE X (.ListComp elt [⟨tg,iter,ifs,0⟩] scope pos) (tComp ix wi g tt te):=by
 intro pins s σ H Q I h
 obtain ⟨cl,e1,e2,e3⟩:=pU I B
 rw [eval_ListComp]
 refine wpAny_comprehension_free (use:=none) rfl hs e1 B.kind (j7 B) ?_
 refine ow (RR:=fun acc C=>compPost (model X.prog X.w) X.A X.xe none (EP X pins σ Q) acc C) B hc hi hg ht he e2 e3 I h (fun s2 H2 fp σ3 H3 s3 I2 f2 J q=>?_) (fun a C x s' q=>q)
 obtain ⟨m,hn,_⟩:=J.loc
 exact ⟨m,hn,fun h' sb=>⟨.ref _,H3,pT I2 J f2 sb,rfl,q⟩⟩
theorem lZ {y:Str} {py spos:Pos} {k:Nat} {tg iter elt:Expr} {ifs:List Expr} {pos:Pos} {ix:List (Option Nat)} {wi:TI} {g:TG} {tt:TT} {te:TE} (hN:X.N.Nodup) (hy:X.N[k]? =some y) (hx:Loc X.env.scope y)
  (hsw:swapsWith (.ListComp elt [⟨tg,iter,ifs,0⟩] scope pos) (some (.Name y py)) spos.line X.env=pure true) (N:List Str) (B:BlkOk X N ix scope) (hc:X.calm=true)
  (hi:PI X tg iter wi) (hg:∀ cl s H fp,PG (blkCx X N scope cl s H fp) tg g) (ht:∀ cl s H fp,PTs (blkCx X N scope cl s H fp) ifs tt) (he:∀ cl s H fp,PE (blkCx X N scope cl s H fp) elt te)
  (hs:∀ x,foldedSetIterable iter X.env x=pure x:=by intro _; rfl) (hf:X.fn y=true∨X.env.scope.names.lookup y=some .local:=by first | exact .inl rfl | exact .inr rfl | assumption):
  PS X (.Assign [.Name y py] (.ListComp elt [⟨tg,iter,ifs,0⟩] scope pos) spos) (sComp k ix wi g tt te):=by
 intro pins s σ H D I h
 obtain ⟨cl,e1,e2,e3⟩:=pU I B
 rw [exec_Assign_Name_used _ _ _ _ hsw]
 refine wpAny_bind (wpAny_standAt (wpAny_bind ?_))
 show wpAny _ X.A (do let _ ← comprehension (.ListComp elt [⟨tg,iter,ifs,0⟩] scope pos) scope X.env _ (newList []) false (eval iter X.env) (some (assign (.Name y py) X.env))) _ _ s
 refine wpAny_bind (wpAny_mono (wpAny_comprehension_free (use:=some (assign (.Name y py) X.env)) (Q:=fun _ s'=>SP X pins D .next s') rfl hs e1 B.kind (j7 B) ?_) (fun _ s' hq=>wpAny_pure (wpAny_pure hq)) fun _ _ e=>e)
 refine ow (RR:=fun acc C=>compPost (model X.prog X.w) X.A X.xe (some (assign (.Name y py) X.env)) (fun _ s'=>SP X pins D .next s') acc C) B hc hi hg ht he e2 e3 I h (fun s2 H2 fp σ3 H3 s3 I2 f2 J q=>?_) (fun a C x s' q=>q)
 obtain ⟨m,hn,_⟩:=J.loc
 have I3:Inv X pins σ H3 { s3 with heap:=s3.heap }:=pT I2 J f2 (Heap.SameBut.refl _ _)
 show wpAny _ X.A (assign (.Name y py) X.env (.ref _)) _ _ _
 refine wpAny_assign_Name (mR (v:=.ref _) I3 hN hy hx rfl (fun s4 I4 ⟨a,sb4,ha⟩=>?_) hf)
 have hlt:a < s2.heap.objs.size:=by
  rcases ha with rfl | ha
  · exact I2.lt
  · obtain ⟨v,z⟩:=I2.cell _ _ ha
    exact z.lt
 have hCa:s2.heap.objs.size+1≠a:=Nat.ne_of_gt (Nat.lt_succ_of_lt hlt)
 refine ⟨m,hn.sameBut sb4 hCa,fun h' sb=>?_⟩
 refine ⟨_,H3,I4.turned (t':=s4.toks) (it:=s2.heap.objs.size+1) (fun b o hb e=>(sb.2 b hb).trans e) J.free (Nat.ne_of_gt (Nat.lt_succ_of_lt I2.lt)) (.inr (Nat.le_trans I2.sz (Nat.le_succ _))) (fun x c e=>?_) (fun p hp=>?_),q⟩
 · obtain ⟨v,z⟩:=I2.cell x c e
   exact Nat.ne_of_lt (Nat.lt_succ_of_lt z.lt)
 · exact Nat.ne_of_lt (Nat.lt_succ_of_lt (Heap.lt_size (I2.pin p hp).1))
end
end L2
namespace L2
open PySem PySem.Spec PyProof.Rows
def bnd {α:Type}:Option α→(α→Prop)→Prop
 | some a,k=>k a
 | none,_=>False
theorem ce {α:Type} {o:Option α} {a:α} {k:α→Prop} (h:o=some a) (q:k a):bnd o k:=by subst h; exact q
theorem bc {α:Type} {o:Option α} {k:α→Prop} (h:bnd o k):∃ a,o=some a∧k a:=by
 cases o with
 | none=>exact h.elim
 | some a=>exact ⟨a,rfl,h⟩
theorem dG {α:Type} {a:α} {k:α→Prop}:bnd (some a) k=k a:=rfl
def unM:Option HO→Option (List V)
 | some (.lst xs)=>some xs
 | _=>none
def unL:Option HO→Option (List V)
 | some (.lst xs)=>some xs
 | some (.frz _ (.lst xs))=>some xs
 | _=>none
def unS:Option HO→Option (List V)
 | some (.lst xs)=>some xs
 | some (.frz _ (.lst xs))=>some xs
 | some (.tup xs)=>some xs
 | _=>none
theorem gR {o:Option HO} {xs:List V} (h:unM o=some xs):o=some (.lst xs):=by
 unfold unM at h; split at h
 · cases h; rfl
 · cases h
theorem kY {K:PySem.W.Frag} {H:Hp} {p:Addr} {xs:List V} (h:unL (H p)=some xs):SqL K H p xs:=by
 unfold unL at h; split at h
 · rename_i e; cases h; exact .inl (.inl e)
 · rename_i o _ e; cases h; exact .inl (.inr ⟨_,e⟩)
 · cases h
theorem iP {K:PySem.W.Frag} {H:Hp} {p:Addr} {xs:List V} (h:unS (H p)=some xs):SqL K H p xs∨SqT K H p xs:=by
 unfold unS at h; split at h
 · rename_i e; cases h; exact .inl (.inl (.inl e))
 · rename_i o _ e; cases h; exact .inl (.inl (.inr ⟨_,e⟩))
 · rename_i e; cases h; exact .inr (.inl (.inl e))
 · cases h
mutual
inductive DV (K:PySem.W.Frag) (H:Hp):V→PyData→Prop
 | non:DV K H .non .none
 | bl (b:Bool):DV K H (.bl b) (.bool b)
 | int (i:Int):DV K H (.int i) (.int i)
 | str (x:Str):DV K H (.str x) (.str x)
 | lst {a:Addr} {xs:List V} {ds:List PyData}:SqL K H a xs→DVs K H xs ds→DV K H (.ref a) (.list ds)
 | tup {a:Addr} {xs:List V} {ds:List PyData}:SqT K H a xs→DVs K H xs ds→DV K H (.ref a) (.tuple ds)
inductive DVs (K:PySem.W.Frag) (H:Hp):List V→List PyData→Prop
 | nil:DVs K H [] []
 | cons {x:V} {d:PyData} {xs:List V} {ds:List PyData}:DV K H x d→DVs K H xs ds→DVs K H (x::xs) (d::ds)
end
section
variable {X:Cx} {pins:List (Addr × Obj)} {σ:St} {H:Hp} {s:Shared}
mutual
theorem DV.reads (I:Inv X pins σ H s):∀ {x:V} {d:PyData} {v:Value},DV X.K H x d→RelV x v→∃ as,Reads s.heap v d as
 | _,_,_,.non,r=>by cases r; exact ⟨_,.none⟩
 | _,_,_,.bl b,r=>by cases r; exact ⟨_,.bool b⟩
 | _,_,_,.int i,r=>by obtain ⟨t,rfl⟩:=r; exact ⟨_,.int i t⟩
 | _,_,_,.str x,r=>by obtain ⟨t,rfl⟩:=r; exact ⟨_,.str x t⟩
 | _,_,_,.lst (a:=a) h hs,r=>by
  cases r
  obtain ⟨its,rv,p,_⟩:=I.list h
  obtain ⟨as,q⟩:=DVs.reads I hs rv
  obtain ⟨o,h1,h2,n,h3⟩:=p.isList
  exact ⟨_,.list h1 h2 h3 q⟩
 | _,_,_,.tup (a:=a) h hs,r=>by
  cases r
  obtain ⟨its,rv,p,_⟩:=I.tuple h
  obtain ⟨as,q⟩:=DVs.reads I hs rv
  obtain ⟨o,h1,h2,n,h3⟩:=p
  exact ⟨_,.tuple h1 h2 h3 q⟩
theorem DVs.reads (I:Inv X pins σ H s):∀ {xs:List V} {ds:List PyData} {us:List Value},DVs X.K H xs ds→Vals xs us→∃ as,ReadsAll s.heap us ds as
 | _,_,_,.nil,.nil=>⟨_,.nil⟩
 | _,_,_,.cons h hs,.cons r rs=>by
  obtain ⟨as,q⟩:=DV.reads I h r
  obtain ⟨bs,q2⟩:=DVs.reads I hs rs
  exact ⟨_,.cons q q2⟩
end
end
theorem DVs.ints {K:PySem.W.Frag} {H:Hp}:∀ ns:List Int,DVs K H (ns.map V.int) (ns.map PyData.int)
 | []=>.nil
 | n::r=>.cons (.int n) (DVs.ints r)
theorem sx:∀ ns ms:List Int,PyData.eqvAll (ns.map PyData.int) (ms.map PyData.int)=decide (ns=ms):=PySem.W.ked_eqvAll
theorem oz:∀ ns:List Int,PyData.canLayAll0 (ns.map PyData.int)=true
 | []=>rfl
 | n::r=>by rw [List.map_cons,PyData.canLayAll0,oz r]; rfl
theorem kZ:∀ ns:List Int,PyData.depthAll (ns.map PyData.int)=0
 | []=>rfl
 | n::r=>by rw [List.map_cons,PyData.depthAll,kZ r]; rfl
theorem j8 (ns:List Int):SeqAt.shaped (.list (ns.map PyData.int))=true:=by
 simp [SeqAt.shaped,PyData.canLay0,oz,PyData.depth,kZ]
def cAdd:R2
 | .int i,.int j,H,Q=>Q (.int (i+j)) H
 | .str i,.str j,H,Q=>i.length+j.length≤sizeLine∧Q (.str (i++j)) H
 | .ref l,.ref b,H,Q=>bnd (unM (H l)) fun xs=>bnd (unM (H b)) fun zs=>xs.length+zs.length≤sizeLine∧∀ p,H p=none→Q (.ref p) (upd H p (.lst (xs++zs)))
 | _,_,_,_=>False
def cSub:R2
 | .int i,.int j,H,Q=>Q (.int (i - j)) H
 | _,_,_,_=>False
def cMul:R2
 | .int i,.int j,H,Q=>CMul i j∧Q (.int (i*j)) H
 | _,_,_,_=>False
def cDiv:R2
 | .int i,.int j,H,Q=>CDiv i j∧Q (.int (i / j)) H
 | _,_,_,_=>False
def cMod:R2
 | .int i,.int j,H,Q=>0 < j∧Q (.int (i % j)) H
 | _,_,_,_=>False
def cPow:R2
 | .int i,.int j,H,Q=>CPow i j∧Q (.int (i^j.toNat)) H
 | _,_,_,_=>False
def cCmp (g:Int→Int→Bool):R2
 | .int i,.int j,H,Q=>Q (.bl (g i j)) H
 | _,_,_,_=>False
def rEqD (K:PySem.W.Frag):R2:=fun x y H Q=>∃ d e,DV K H x d∧DV K H y e∧SeqAt.shaped d=true∧SeqAt.shaped e=true∧Q (.bl (PyData.eqv d e)) H
def rNeD (K:PySem.W.Frag):R2:=fun x y H Q=>∃ d e,DV K H x d∧DV K H y e∧SeqAt.shaped d=true∧SeqAt.shaped e=true∧Q (.bl (!PyData.eqv d e)) H
def cEq (K:PySem.W.Frag):R2
 | .int i,.int j,H,Q=>Q (.bl (decide (i=j))) H
 | .bl i,.bl j,H,Q=>Q (.bl (decide (i=j))) H
 | .str i,.str j,H,Q=>Q (.bl (decide (i=j))) H
 | x,y,H,Q=>rEqD K x y H Q
def cNe (K:PySem.W.Frag):R2
 | .int i,.int j,H,Q=>Q (.bl (!decide (i=j))) H
 | .bl i,.bl j,H,Q=>Q (.bl (!decide (i=j))) H
 | .str i,.str j,H,Q=>Q (.bl (!decide (i=j))) H
 | x,y,H,Q=>rNeD K x y H Q
def rInD (K:PySem.W.Frag) (neg:Bool):R2:=fun x y H Q=>∃ d ds,DV K H x d∧(DV K H y (.list ds)∨DV K H y (.tuple ds))∧PyData.canLayAll0 ds=true∧PyData.canLay0 d=true∧min (PyData.depthAll ds) d.depth≤62∧
 Q (.bl (if neg then !ds.any (fun y=>PyData.eqv y d) else ds.any fun y=>PyData.eqv y d)) H
def keyOf:V→Option Key
 | .int i=>some (.inl i)
 | .str x=>some (.inr x)
 | _=>none
def unD:Option HO→Option (List (Key × V))
 | some (.dK kvs)=>some kvs
 | _=>none
def cIn (K:PySem.W.Frag) (neg:Bool):R2
 | .ref a,y,H,Q=>rInD K neg (.ref a) y H Q
 | x,.ref p,H,Q=>(match unD (H p) with
  | some kvs=>bnd (keyOf x) fun k=>Q (.bl (if neg then !(valV kvs k).isSome else (valV kvs k).isSome)) H
  | none=>bnd (unS (H p)) fun xs=>flatV x=true∧xs.all flatV=true∧Q (.bl (if neg then !inV x xs else inV x xs)) H)
 | .str i,.str j,H,Q=>Q (.bl (if neg then !(!(Builtin.Str.occurrences j i 0 j.length 1).isEmpty) else !(Builtin.Str.occurrences j i 0 j.length 1).isEmpty)) H
 | _,_,_,_=>False
def cIx:R2
 | .ref p,y,H,Q=>(match unD (H p) with
  | some kvs=>bnd (keyOf y) fun k=>bnd (valV kvs k) fun v=>Q v H
  | none=>match y with
   | .int i=>bnd (unS (H p)) fun xs=>bnd (atI xs i) fun v=>Q v H
   | _=>False)
 | .str z,.int i,H,Q=>z.length≤sizeLine∧bnd (atI z.cps.toList i) fun c=>Q (.str ⟨#[c]⟩) H
 | _,_,_,_=>False
theorem oA {o:Option HO} {kvs:List (Key × V)} (h:unD o=some kvs):o=some (.dK kvs):=by
 unfold unD at h; split at h
 · cases h; rfl
 · cases h
theorem oB {x:V} {k:Key} (h:keyOf x=some k):x=kV k:=by
 unfold keyOf at h; split at h
 · cases h; rfl
 · cases h; rfl
 · cases h
section
variable {X:Cx} {a b c:Expr} {ta tb tc:TE} {pos:Pos}
theorem av:OpR X (binaryOp .Add) cAdd:=by
 intro pins s σ H x y v u Q I rx ry h
 unfold cAdd at h
 split at h
 · exact ut pins s σ H _ _ v u Q I rx ry ⟨_,_,rfl,rfl,h⟩
 · exact qb pins s σ H _ _ v u Q I rx ry ⟨_,_,rfl,rfl,h.1,h.2⟩
 · obtain ⟨xs,e1,h⟩:=bc h
   obtain ⟨zs,e2,h⟩:=bc h
   exact uE pins s σ H _ _ v u Q I rx ry ⟨_,_,xs,zs,rfl,rfl,gR e1,gR e2,h.1,h.2⟩
 · exact h.elim
theorem l0:OpR X (binaryOp .Sub) cSub:=by
 intro pins s σ H x y v u Q I rx ry h
 unfold cSub at h
 split at h
 · exact uu pins s σ H _ _ v u Q I rx ry ⟨_,_,rfl,rfl,h⟩
 · exact h.elim
theorem cC:OpR X (binaryOp .Mult) cMul:=by
 intro pins s σ H x y v u Q I rx ry h
 unfold cMul at h
 split at h
 · exact uv pins s σ H _ _ v u Q I rx ry ⟨_,_,rfl,rfl,h.1,h.2⟩
 · exact h.elim
theorem eM:OpR X (binaryOp .FloorDiv) cDiv:=by
 intro pins s σ H x y v u Q I rx ry h
 unfold cDiv at h
 split at h
 · exact tu pins s σ H _ _ v u Q I rx ry ⟨_,_,rfl,rfl,h.1,h.2⟩
 · exact h.elim
theorem aI:OpR X (binaryOp .Mod) cMod:=by
 intro pins s σ H x y v u Q I rx ry h
 unfold cMod at h
 split at h
 · exact uw pins s σ H _ _ v u Q I rx ry ⟨_,_,rfl,rfl,h.1,h.2⟩
 · exact h.elim
theorem tJ:OpR X (binaryOp .Pow) cPow:=by
 intro pins s σ H x y v u Q I rx ry h
 unfold cPow at h
 split at h
 · exact ux pins s σ H _ _ v u Q I rx ry ⟨_,_,rfl,rfl,h.1,h.2⟩
 · exact h.elim
theorem l9 {op:CmpOp} {g:Int→Int→Bool} (o:OpR X (compareOp op) (rI0 fun i j=>.bl (g i j))):OpR X (compareOp op) (cCmp g):=by
 intro pins s σ H x y v u Q I rx ry h
 unfold cCmp at h
 split at h
 · exact o pins s σ H _ _ v u Q I rx ry ⟨_,_,rfl,rfl,h⟩
 · exact h.elim
theorem rj:OpR X (compareOp .Lt) (cCmp fun i j=>decide (i < j)):=l9 vi
theorem k6:OpR X (compareOp .LtE) (cCmp fun i j=>decide (i≤j)):=l9 vj
theorem ge:OpR X (compareOp .Gt) (cCmp fun i j=>decide (j < i)):=l9 vk
theorem uG (hu:X.A.units+64 < cLine):OpR X (compareOp .Eq) (rEqD X.K):=by
 intro pins s σ H x y v u Q I rx ry h
 obtain ⟨d,e,h1,h2,h3,h4,q⟩:=h
 obtain ⟨as,r1⟩:=h1.reads I rx
 obtain ⟨bs,r2⟩:=h2.reads I ry
 exact eq_dataH r1 r2 h3 h4 hu ⟨.bl _,H,I,rfl,q⟩
theorem uH (hu:X.A.units+64 < cLine):OpR X (compareOp .NotEq) (rNeD X.K):=by
 intro pins s σ H x y v u Q I rx ry h
 obtain ⟨d,e,h1,h2,h3,h4,q⟩:=h
 obtain ⟨as,r1⟩:=h1.reads I rx
 obtain ⟨bs,r2⟩:=h2.reads I ry
 exact ne_dataH r1 r2 h3 h4 hu ⟨.bl _,H,I,rfl,q⟩
theorem aN (hu:X.A.units+64 < cLine):OpR X (compareOp .Eq) (cEq X.K):=by
 intro pins s σ H x y v u Q I rx ry h
 unfold cEq at h
 split at h
 · refine p9 pins s σ H _ _ v u Q I rx ry ⟨rfl,?_⟩
   simpa using h
 · refine p9 pins s σ H _ _ v u Q I rx ry ⟨rfl,?_⟩
   simpa using h
 · refine p9 pins s σ H _ _ v u Q I rx ry ⟨rfl,?_⟩
   simpa using h
 · exact uG hu pins s σ H _ _ v u Q I rx ry h
theorem gf (hu:X.A.units+64 < cLine):OpR X (compareOp .NotEq) (cNe X.K):=by
 intro pins s σ H x y v u Q I rx ry h
 unfold cNe at h
 split at h
 · refine qa pins s σ H _ _ v u Q I rx ry ⟨rfl,?_⟩
   simpa using h
 · refine qa pins s σ H _ _ v u Q I rx ry ⟨rfl,?_⟩
   simpa using h
 · refine qa pins s σ H _ _ v u Q I rx ry ⟨rfl,?_⟩
   simpa using h
 · exact uH hu pins s σ H _ _ v u Q I rx ry h
theorem uI (hu:X.A.units+64 < cLine):OpR X (compareOp .In) (rInD X.K false):=by
 intro pins s σ H x y v u Q I rx ry h
 obtain ⟨d,ds,h1,h2,h3,h4,h5,q⟩:=h
 obtain ⟨as,r1⟩:=h1.reads I rx
 rcases h2 with h2 | h2
 · obtain ⟨bs,r2⟩:=h2.reads I ry
   exact SeqAt.in_list_reads r2 r1 h3 h4 (by omega) ⟨.bl _,H,I,rfl,q⟩
 · obtain ⟨bs,r2⟩:=h2.reads I ry
   exact SeqAt.in_tuple_reads r2 r1 h3 h4 (by omega) ⟨.bl _,H,I,rfl,q⟩
theorem gg (hu:X.A.units+64 < cLine):OpR X (compareOp .In) (cIn X.K false):=by
 intro pins s σ H x y v u Q I rx ry h
 unfold cIn at h
 split at h
 · exact uI hu pins s σ H _ _ v u Q I rx ry h
 · rename_i p hx
   split at h
   · rename_i kvs e
     obtain ⟨k,ek,q⟩:=bc h
     cases (show u=Value.ref p from ry)
     have g:DGet H p x (valV kvs k):=by rw [oB ek]; exact DGet.k (oA e)
     exact vD (Nat.lt_of_le_of_lt (Nat.add_le_add_left (by decide:1≤64) _) hu) I g rx fun s' I'=>⟨.bl _,H,I',rfl,q⟩
   · obtain ⟨xs,e,f1,f2,q⟩:=bc h
     exact mX pins s σ H _ _ v u Q I rx ry ⟨p,xs,rfl,iP e,f1,f2,q⟩
 · exact qY pins s σ H _ _ v u Q I rx ry ⟨_,_,rfl,rfl,h⟩
 · exact h.elim
end
end L2
namespace L2
open PySem PySem.Spec PyProof.Rows
section
variable {X:Cx} {a b c:Expr} {ta tb tc:TE} {pos:Pos}
theorem aM (hu:X.A.units+64 < cLine):IxR X cIx:=by
 intro value slice pins s σ H x y v u Q I rx ry h hs
 cases x with
 | ref p=>
  unfold cIx at h
  dsimp only at h
  split at h
  · rename_i kvs e
    obtain ⟨k,ek,h⟩:=bc h
    obtain ⟨z,ez,q⟩:=bc h
    cases (show v=Value.ref p from rx)
    have g:DGet H p y (some z):=by rw [oB ek,← ez]; exact DGet.k (oA e)
    exact tail_any (pE I g) PySem.F.slot_dict_getitem.lookup (rf (Nat.lt_of_le_of_lt (Nat.add_le_add_left (by decide:1≤64) _) hu) I g ry fun w' s3 I3 rw'=>⟨z,H,I3,rw',q⟩) hs
  · split at h
    · obtain ⟨xs,e,h⟩:=bc h
      obtain ⟨z,ez,q⟩:=bc h
      rcases iP (K:=X.K) e with r | r
      · exact lX value slice pins s σ H _ _ v u Q I rx ry ⟨p,xs,_,z,rfl,rfl,r,ez,q⟩ hs
      · exact uz value slice pins s σ H _ _ v u Q I rx ry ⟨p,xs,_,z,rfl,rfl,r,ez,q⟩ hs
    · exact h.elim
 | str zz=>
  cases y with
  | int i=>
   obtain ⟨hz,h⟩:=(show zz.length≤sizeLine∧bnd (atI zz.cps.toList i) fun c=>Q (.str ⟨#[c]⟩) H from h)
   obtain ⟨z,ez,q⟩:=bc h
   exact uA value slice pins s σ H _ _ v u Q I rx ry ⟨_,_,z,rfl,rfl,hz,ez,q⟩ hs
  | _=>exact False.elim h
 | _=>exact False.elim h
def kLen:List V→Hp→VK→Prop
 | [.ref p],H,Q=>(match unD (H p) with
  | some kvs=>Q (.int kvs.length) H
  | none=>bnd (unS (H p)) fun xs=>Q (.int xs.length) H)
 | [.str z],H,Q=>z.length≤sizeLine∧Q (.int z.length) H
 | _,_,_=>False
theorem bw:CallR X (.builtin "len") kLen:=by
 intro pins s σ H xs us Q I r h
 unfold kLen at h
 split at h
 · split at h
   · rename_i kvs e
     exact rg pins s σ H _ us Q I r ⟨_,kvs,rfl,oA e,h⟩
   · obtain ⟨ys,e,q⟩:=bc h
     exact dX pins s σ H _ us Q I r ⟨_,ys,rfl,iP e,q⟩
 · exact on pins s σ H _ us Q I r ⟨_,rfl,h.1,h.2⟩
 · exact h.elim
def kAbs:List V→Hp→VK→Prop
 | [.int i],H,Q=>Q (.int (if i < 0 then -i else i)) H
 | _,_,_=>False
def kMin:List V→Hp→VK→Prop
 | [.int i,.int j],H,Q=>Q (.int (if j < i then j else i)) H
 | _,_,_=>False
theorem rk (hc:X.calm=true):CallR X (.builtin "min") kMin:=by
 intro pins s σ H xs us Q I r h
 unfold kMin at h
 split at h
 · exact qZ hc pins s σ H _ us Q I r ⟨_,_,rfl,h⟩
 · exact h.elim
def kMax:List V→Hp→VK→Prop
 | [.int i,.int j],H,Q=>Q (.int (if j > i then j else i)) H
 | _,_,_=>False
def kList:List V→Hp→VK→Prop
 | [.ref p],H,Q=>bnd (unS (H p)) fun ys=>∀ l,H l=none→Q (.ref l) (upd H l (.lst ys))
 | _,_,_=>False
theorem cf:CallR X (.type "list") kList:=by
 intro pins s σ H xs us Q I r h
 unfold kList at h
 split at h
 · obtain ⟨ys,e,q⟩:=bc h
   exact oo pins s σ H _ us Q I r ⟨_,ys,rfl,iP e,q⟩
 · exact h.elim
def fz (H:Hp):V→Option String
 | .non=>some "NoneType"
 | .bl _=>some "bool"
 | .int _=>some "int"
 | .str _=>some "str"
 | .ref p=>match H p with
  | some (.lst _)=>some "list"
  | some (.frz _ (.lst _))=>some "list"
  | some (.tup _)=>some "tuple"
  | some (.dK _)=>some "dict"
  | _=>none
 | _=>none
def isTy (t n:String):Bool:=t==n||(t=="bool"&&n=="int")
def jm (n:String):Bool:=["int","bool","str","list","tuple","dict"].contains n
theorem rl {K:PySem.W.Frag} {H:Hp} {x:V} {t:String} (h:fz H x=some t):TyOf K H x (.type t)∧["NoneType","int","bool","str","list","tuple","dict"].contains t=true:=by
 cases x with
 | non=>cases h; exact ⟨.non,by decide⟩
 | bl b=>cases h; exact ⟨.bl b,by decide⟩
 | int i=>cases h; exact ⟨.int i,by decide⟩
 | str i=>cases h; exact ⟨.str i,by decide⟩
 | byt _=>cases h
 | flt _=>cases h
 | ty _=>cases h
 | ref p=>
  unfold fz at h
  dsimp only at h
  split at h
  · rename_i e; cases h; exact ⟨.lst e,by decide⟩
  · rename_i e; cases h; exact ⟨.frz e,by decide⟩
  · rename_i e; cases h; exact ⟨.tup e,by decide⟩
  · rename_i e; cases h; exact ⟨.dK e,by decide⟩
  · cases h
theorem uJ (K:PySem.W.Frag):∀ t∈["NoneType","int","bool","str","list","tuple","dict"],∀ n∈["int","bool","str","list","tuple","dict"],PySem.W.kitOne K (.type t) (.type n)=some (isTy t n):=by
 intro t ht n hn
 simp only [List.mem_cons,List.not_mem_nil,or_false] at ht hn
 rcases ht with rfl | rfl | rfl | rfl | rfl | rfl | rfl <;> rcases hn with rfl | rfl | rfl | rfl | rfl | rfl <;> rfl
def kIsi:List V→Hp→VK→Prop
 | [x,.ty n],H,Q=>jm n=true∧bnd (fz H x) fun t=>Q (.bl (isTy t n)) H
 | _,_,_=>False
theorem fA:CallR X (.builtin "isinstance") kIsi:=by
 intro pins s σ H xs us Q I r h
 unfold kIsi at h
 split at h
 · obtain ⟨hn,h⟩:=h
   obtain ⟨t,et,q⟩:=bc h
   obtain ⟨u,w,rfl,ru,rw'⟩:=qc r
   cases rw'
   obtain ⟨ty,ht⟩:=rl (K:=X.K) et
   exact ra I ru ty (uJ X.K t (by simpa using ht) _ (by simpa [jm] using hn)) fun tk=>⟨.bl _,H,I.tok tk,rfl,q⟩
 · exact h.elim
def fV:V→List V→Hp→VK→Prop
 | .ref l,[y],H,Q=>bnd (unM (H l)) fun xs=>xs.length < sizeLine∧Q .non (upd H l (.lst (xs++[y])))
 | _,_,_,_=>False
theorem k7:MtR X "list.append" fV:=by
 intro pins s σ H x vs v us Q I rx rv h
 unfold fV at h
 split at h
 · obtain ⟨xs,e,h1,q⟩:=bc h
   exact mZ pins s σ H _ _ v us Q I rx rv ⟨_,xs,_,rfl,rfl,gR e,h1,q⟩
 · exact h.elim
theorem ki {K:PySem.W.Frag} {H:Hp} {p:Addr} {xs:List V} (h:H p=some (.lst xs)):tyV K "list" (.ref p) H:=.inl ⟨rfl,_,SqL.of h⟩
def cSl:V→Option Int→Option Int→Hp→VK→Prop
 | .ref p,lo,hi,H,Q=>bnd (unL (H p)) fun xs=>∀ l,H l=none→Q (.ref l) (upd H l (.lst (cutV xs lo hi)))
 | _,_,_,_,_=>False
theorem vE:SlR X cSl:=by
 intro pins s σ H x v vl vu lo hi sl Q I rx hs pl pu h
 unfold cSl at h
 split at h
 · obtain ⟨xs,e,q⟩:=bc h
   exact tG pins s σ H _ v vl vu lo hi sl Q I rx hs pl pu ⟨_,xs,rfl,kY e,q⟩
 · exact h.elim
end
structure Cal (P:Program) (w:World) (K:PySem.W.Frag) (mg:Str→Option Value) (base:Heap) (k:Nat) (x:Str) (ps:List Str) (sp:Sp):Prop where
 ex:∃ (f:Addr) (fd:FuncData),FnOk P w K mg base CX0 k f fd ps sp∧mg x=some (.ref f)∧PySem.W.keepIn K (.ref f)=true∧Binds K fd ps []
theorem aC {X:Cx} {k n:Nat} {x:Str} {ps:List Str} {sp:Sp} {p pos:Pos} {e:Expr} {es:List Expr} {t:TA} (C:Cal X.prog X.w X.K X.mg X.base k x ps sp) (hr:Room n X.A) (hk:k≤n) (hg:Gl X x) (ha:PA X (e::es) t)
  (hdb:(x==("__debug__":Str))=false:=by decide) (he:starEach (e::es) X.env=(false,eval e X.env)::starEach es X.env:=by rfl) (hpl:(backTo pos (starEach es X.env)).any (·.1)=false:=by rfl):
  PE X (.Call (.Name x p) (e::es) [] pos) (tCall sp [] E0 t):=by
 obtain ⟨f,fd,F,hm,hkp,hb⟩:=C.ex
 exact pR F (hr.mono hk) hg hm hkp hb .nil qi ha hdb he hpl
end L2
namespace L2
open PySem PySem.Spec PyProof.Rows
theorem bQ:bootBuiltins "len"=some (.builtin "len"):=by decide+kernel
theorem uK:bootBuiltins "min"=some (.builtin "min"):=by decide+kernel
theorem uL:bootBuiltins "any"=some (.builtin "any"):=by decide+kernel
theorem aD:bootBuiltins "isinstance"=some (.builtin "isinstance"):=by decide+kernel
theorem cS:bootBuiltins "list"=some (.type "list"):=by decide+kernel
theorem rm:bootBuiltins "int"=some (.type "int"):=by decide+kernel
theorem tK:bootBuiltins "bool"=some (.type "bool"):=by decide+kernel
theorem dY:bootBuiltins "str"=some (.type "str"):=by decide+kernel
theorem kj:bootBuiltins "tuple"=some (.type "tuple"):=by decide+kernel
def compN (scope:Scope):List Str:=(scope.names.filter fun p=>p.2==.local||p.2==.cell||p.2==.free).map (·.1)
def k8 (N:List Str) (scope:Scope):List (Option Nat):=(compN scope).map fun x=>if scope.names.lookup x==some .free then N.findIdx? (· ==x) else none
def isCF:Option NameKind→Bool
 | some .cell=>true
 | some .free=>true
 | _=>false
theorem uM {X:Cx} {scope:Scope} (h1:scope.kind=.function) (h2:(scope.names.map (·.1)).Nodup) (h3:(scope.names.all fun p=>p.2 != .free||isCF (X.env.kindOf p.1))=true):BlkOk X (compN scope) (k8 X.N scope) scope where
 kind:=h1
 nd:=h2.sublist (List.Sublist.map _ (List.filter_sublist ..))
 len:=by unfold k8; rw [List.length_map]
 names:=h2
 free:=fun x hx=>by
  have:=List.all_eq_true.mp h3 (x,.free) hx
  simp only [bne_self_eq_false,Bool.false_or] at this
  unfold isCF at this
  split at this
  · rename_i e; exact .inl e
  · rename_i e; exact .inr e
  · cases this
 at_:=fun j i x e1 e2=>by
  unfold k8 at e2
  rw [List.getElem?_map,e1] at e2
  simp only [Option.map_some,Option.some.injEq] at e2
  split at e2
  · rename_i hf
    obtain ⟨hlt,hp,_⟩:=List.findIdx?_eq_some_iff_getElem.mp e2
    have hx:X.N[i]? =some x:=by
     rw [List.getElem?_eq_getElem hlt]
     have:X.N[i]=x:=by simpa using hp
     rw [this]
    refine ⟨hx,PySem.mem_of_lookup (by simpa using hf)⟩
  · cases e2
end L2
namespace L2
open PySem PySem.Spec PyProof.Rows
section
variable {t u:TS} {D:Ends} {σ:St} {H:Hp} {Q:VK} {ta tb:TE} {R:Bool→Hp→Prop} {c d:TT}
theorem aF:tSeq t u D σ H=t { D with nx:=u D } σ H:=rfl
theorem aX:tNext D σ H=D.nx σ H:=rfl
theorem jn {g:TG}:tAsg ta g D σ H=ta σ H fun x H1=>g x σ H1 D.nx:=rfl
theorem bV {i:Nat} {v:V} {k:St→Hp→Prop}:gName i v σ H k=k (σ.set i (some v)) H:=rfl
theorem il {i:Nat}:tVar i σ H Q=∃ v,σ[i]? =some (some v)∧Q v H:=rfl
theorem w_c {v:V}:tC v σ H Q=Q v H:=rfl
theorem km {r:R2}:tOp r ta tb σ H Q=ta σ H fun x H1=>tb σ H1 fun y H2=>r x y H2 Q:=rfl
theorem im:tRet ta D σ H=ta σ H D.rt:=rfl
theorem gS:tRetN D σ H=D.rt .non H:=rfl
theorem gU:tDrop ta D σ H=ta σ H fun _ H1=>D.nx σ H1:=rfl
theorem aO:tIfS c t u D σ H=c σ H fun b H1=>if b=true then t D σ H1 else u D σ H1:=rfl
theorem gh:tTest ta σ H R=ta σ H fun x H'=>∃ k,x=.bl k∧R k H':=rfl
theorem w_b:tB ta σ H R=ta σ H fun x H'=>∃ k,x=.bl k∧R k H':=rfl
theorem w_not:tNot c σ H R=c σ H fun k H1=>R (!k) H1:=rfl
theorem jo:tAnd c d σ H R=c σ H fun k H1=>if k=true then d σ H1 R else R false H1:=rfl
theorem ma:tOr c d σ H R=c σ H fun k H1=>if k=true then R true H1 else d σ H1 R:=rfl
theorem gW:tNotV ta σ H Q=ta σ H fun x H1=>∃ c,x=.bl c∧Q (.bl (!c)) H1:=rfl
theorem gX:tAndV ta tb σ H Q=ta σ H fun x H1=>∃ c,x=.bl c∧if c=true then tb σ H1 Q else Q (.bl false) H1:=rfl
theorem jp:tOrV ta tb σ H Q=ta σ H fun x H1=>∃ c,x=.bl c∧if c=true then Q (.bl true) H1 else tb σ H1 Q:=rfl
theorem jq {k:List V→Hp→Prop}:tNil σ H k=k [] H:=rfl
theorem gY {tr:TA} {k:List V→Hp→Prop}:tCons ta tr σ H k=ta σ H fun x H1=>tr σ H1 fun xs H2=>k (x::xs) H2:=rfl
theorem md {r:List V→Hp→VK→Prop} {tr:TA}:tCB r tr σ H Q=tr σ H fun vs H1=>r vs H1 Q:=rfl
theorem gZ {sp:Sp} {dvs:List V} {E:XK} {tr:TA}:tCall sp dvs E tr σ H Q=tr σ H fun vs H1=>sp (vs++dvs) H1 Q E:=rfl
theorem jr {tr:TA}:tTup tr σ H Q=tr σ H fun xs H1=>xs.length≤sizeLine∧∀ p,H1 p=none→Q (.ref p) (upd H1 p (.tup xs)):=rfl
theorem js {tr:TA}:tLst tr σ H Q=tr σ H fun xs H1=>xs.length≤sizeLine∧∀ p,H1 p=none→Q (.ref p) (upd H1 p (.lst xs)):=rfl
theorem me {K:PySem.W.Frag} {T:String} {r:V→List V→Hp→VK→Prop} {tr:TA}:tBM K T r ta tr σ H Q=ta σ H fun x H1=>tyV K T x H1∧tr σ H1 fun xs H2=>r x xs H2 Q:=rfl
theorem jt {K:PySem.W.Frag} {T:String} {r:V→List V→Hp→VK→Prop}:vC K T r ta σ H Q=ta σ H fun x H1=>tyV K T x H1∧r x [] H1 Q:=rfl
theorem gi:tTrue σ H R=R true H:=rfl
theorem g5:uF σ H Q=∀ p,H p=none→Q (.ref p) (upd H p (.dK [])):=rfl
theorem g6 {td ty tv:TE}:sDPut td ty tv D σ H=tv σ H fun v H1=>td σ H1 fun x H2=>ty σ H2 fun y H3=>∃ a H4,x=.ref a∧DPut H3 a y v H4∧D.nx σ H4:=rfl
theorem ju {i j:Int}:cAdd (.int i) (.int j) H Q=Q (.int (i+j)) H:=rfl
theorem jv {i j:Int}:cSub (.int i) (.int j) H Q=Q (.int (i - j)) H:=rfl
theorem jw {i j:Int}:cMul (.int i) (.int j) H Q=(CMul i j∧Q (.int (i*j)) H):=rfl
theorem jx {i j:Int}:cDiv (.int i) (.int j) H Q=(CDiv i j∧Q (.int (i / j)) H):=rfl
theorem jy {i j:Int}:cMod (.int i) (.int j) H Q=(0 < j∧Q (.int (i % j)) H):=rfl
theorem jz {g:Int→Int→Bool} {i j:Int}:cCmp g (.int i) (.int j) H Q=Q (.bl (g i j)) H:=rfl
theorem jA {K:PySem.W.Frag} {i j:Int}:cEq K (.int i) (.int j) H Q=Q (.bl (decide (i=j))) H:=rfl
theorem jB {K:PySem.W.Frag} {i j:Int}:cNe K (.int i) (.int j) H Q=Q (.bl (!decide (i=j))) H:=rfl
theorem jC {K:PySem.W.Frag} {i j:Bool}:cEq K (.bl i) (.bl j) H Q=Q (.bl (decide (i=j))) H:=rfl
theorem jD {K:PySem.W.Frag} {i j:Bool}:cNe K (.bl i) (.bl j) H Q=Q (.bl (!decide (i=j))) H:=rfl
theorem sy {p:Addr} {i:Int} {xs:List V} (h:H p=some (.tup xs)):cIx (.ref p) (.int i) H Q=bnd (atI xs i) fun v=>Q v H:=by
 unfold cIx; dsimp only; rw [h]; rfl
theorem vn {p:Addr} {i:Int} {xs:List V} (h:H p=some (.lst xs)):cIx (.ref p) (.int i) H Q=bnd (atI xs i) fun v=>Q v H:=by
 unfold cIx; dsimp only; rw [h]; rfl
theorem jE {i:Int}:kAbs [.int i] H Q=Q (.int (if i < 0 then -i else i)) H:=rfl
theorem jF {i j:Int}:kMin [.int i,.int j] H Q=Q (.int (if j < i then j else i)) H:=rfl
theorem fM {p:Addr} {xs:List V} (h:H p=some (.lst xs)):kLen [.ref p] H Q=Q (.int xs.length) H:=by
 unfold kLen; dsimp only; rw [h]; rfl
theorem uN {p:Addr} {xs:List V} (h:H p=some (.tup xs)):kLen [.ref p] H Q=Q (.int xs.length) H:=by
 unfold kLen; dsimp only; rw [h]; rfl
theorem oE {p:Addr} {xs:List V} {y:V} (h:H p=some (.lst xs)):fV (.ref p) [y] H Q=(xs.length < sizeLine∧Q .non (upd H p (.lst (xs++[y])))):=by
 unfold fV; dsimp only; rw [h]; rfl
theorem iQ:∀ ns:List Int,(ns.map V.int).all flatV=true
 | []=>rfl
 | n::r=>by rw [List.map_cons,List.all_cons,iQ r]; rfl
theorem kn (i:Int):∀ ns:List Int,inV (.int i) (ns.map V.int)=decide (i∈ns)
 | []=>by simp [inV]
 | n::r=>by
  have ih:=kn i r
  unfold inV at ih ⊢
  rw [List.map_cons,List.any_cons,ih]
  show ((n==i)||decide (i∈r))=decide (i∈n::r)
  rw [Bool.eq_iff_iff,Bool.or_eq_true,beq_iff_eq,decide_eq_true_eq,decide_eq_true_eq,List.mem_cons]
  exact ⟨fun h=>h.elim (fun e=>.inl e.symm) .inr,fun h=>h.elim (fun e=>.inl e.symm) .inr⟩
theorem oF {K:PySem.W.Frag} {p:Addr} {i:Int} {ns:List Int} (h:H p=some (.lst (ns.map V.int))):cIn K false (.int i) (.ref p) H Q=Q (.bl (decide (i∈ns))) H:=by
 unfold cIn; dsimp only; rw [h]; dsimp only [unD,unS,bnd]
 rw [kn,iQ]
 simp [flatV]
end
def LoopR (J:It) (g:TG) (tb:TS) (D:Ends) (σ:St) (H1:Hp):Prop:=∃ W:Nat→Nat→St→Hp→Prop,(∃ m,W 0 m σ H1)∧∀ i m σ H,W i m σ H→
 (J.stop i H∧D.nx σ H)∨(J.go i H∧∃ N:St→Hp→Prop,(∀ σ' H',N σ' H'→∃ m',m' < m∧W (i+1) m' σ' H')∧∀ x H',J.yld i H x H'→g x σ H' fun σ2 H2=>tb { D with nx:=N,ct:=N,bk:=D.nx } σ2 H2)
def CompR (J:It) (g:TG) (tt:TT) (te:TE) (fin:Addr→Hp→Prop) (σ0:St) (H1:Hp):Prop:=∀ l,H1 l=none→
 ∃ W:Nat→Nat→St→Hp→Prop,(∃ m,W 0 m σ0 (upd H1 l (.lst [])))∧∀ i m σ' H',W i m σ' H'→
  (J.stop i H'∧fin l H')∨(J.go i H'∧∃ N:St→Hp→Prop,(∀ σ'' H'',N σ'' H''→∃ m',m' < m∧W (i+1) m' σ'' H'')∧∀ x H2,J.yld i H' x H2→g x σ' H2 fun σ2 H3=>tt σ2 H3 fun b H4=>
   if b=true then te σ2 H4 fun y H5=>∃ ys,H5 l=some (.lst ys)∧ys.length < sizeLine∧N σ2 (upd H5 l (.lst (ys++[y]))) else N σ2 H4)
section
variable {K:PySem.W.Frag} {g:TG} {tb:TS} {D:Ends} {σ:St} {H:Hp} {tl:TE} {ta:TA} {ix:List (Option Nat)} {tt:TT} {te:TE} {k:Nat} {Q:VK}
theorem g7:tFor (iList K tl) g tb D σ H=tl σ H fun x H1=>∃ a,x=.ref a∧(∃ xs,SqL K H1 a xs)∧LoopR (Itl K a) g tb D σ H1:=rfl
theorem fW:tFor (fK ta) g tb D σ H=ta σ H fun vs H1=>∃ j:Int,vs=[.int j]∧ -(2^62)≤j∧j < 2^62∧LoopR (Itr 0 j.toNat) g tb D σ H1:=rfl
theorem fX:tFor (kT ta) g tb D σ H=ta σ H fun vs H1=>∃ i j:Int,vs=[.int i,.int j]∧(-(2^62)≤i∧i < 2^62∧ -(2^62)≤j∧j < 2^62)∧LoopR (Itr i (j - i).toNat) g tb D σ H1:=rfl
theorem eN:tComp ix (iList K tl) g tt te σ H Q=tl σ H fun x H1=>∃ a,x=.ref a∧(∃ xs,SqL K H1 a xs)∧CompR (Itl K a) g tt te (fun l H'=>Q (.ref l) H') (subσ ix σ) H1:=rfl
theorem eP:tComp ix (fK ta) g tt te σ H Q=ta σ H fun vs H1=>∃ j:Int,vs=[.int j]∧ -(2^62)≤j∧j < 2^62∧CompR (Itr 0 j.toNat) g tt te (fun l H'=>Q (.ref l) H') (subσ ix σ) H1:=rfl
theorem eQ:sComp k ix (iList K tl) g tt te D σ H=tl σ H fun x H1=>∃ a,x=.ref a∧(∃ xs,SqL K H1 a xs)∧CompR (Itl K a) g tt te (fun l H'=>D.nx (σ.set k (some (.ref l))) H') (subσ ix σ) H1:=rfl
theorem dO:sComp k ix (fK ta) g tt te D σ H=ta σ H fun vs H1=>∃ j:Int,vs=[.int j]∧ -(2^62)≤j∧j < 2^62∧CompR (Itr 0 j.toNat) g tt te (fun l H'=>D.nx (σ.set k (some (.ref l))) H') (subσ ix σ) H1:=rfl
theorem k9 {lo:Int} {n:Nat} {fin:Addr→Hp→Prop} {σ0:St} {H1:Hp} (Pv:Addr→Nat→St→Hp→Prop) (h0:∀ l,H1 l=none→Pv l 0 σ0 (upd H1 l (.lst [])))
  (hs:∀ l i σ H,H1 l=none→i < n→Pv l i σ H→g (.int (lo+i)) σ H fun σ2 H3=>tt σ2 H3 fun b H4=>if b=true then te σ2 H4 fun y H5=>∃ ys,H5 l=some (.lst ys)∧ys.length < sizeLine∧Pv l (i+1) σ2 (upd H5 l (.lst (ys++[y]))) else Pv l (i+1) σ2 H4)
  (hd:∀ l σ H,H1 l=none→Pv l n σ H→fin l H):CompR (Itr lo n) g tt te fin σ0 H1:=by
 intro l hl0
 refine ⟨fun i m σ H=>m=n - i∧i≤n∧Pv l i σ H,⟨n,by simp,Nat.zero_le _,h0 l hl0⟩,?_⟩
 rintro i m σ H ⟨rfl,hi,p⟩
 by_cases hlt:i < n
 · refine .inr ⟨hlt,Pv l (i+1),fun σ' H' p'=>⟨n - (i+1),by omega,rfl,hlt,p'⟩,fun x H' y=>?_⟩
   obtain ⟨e,y⟩:=y
   subst e y
   exact hs l i σ _ hl0 hlt p
 · have e:i=n:=by omega
   subst e
   exact .inl ⟨Nat.le_refl _,hd l σ H hl0 p⟩
theorem iR {a:Addr} {xs:List V} {fin:Addr→Hp→Prop} {σ0:St} {H1:Hp} (Pv:Addr→Nat→St→Hp→Prop) (h0:∀ l,H1 l=none→Pv l 0 σ0 (upd H1 l (.lst []))) (hq:∀ l i σ H,H1 l=none→i≤xs.length→Pv l i σ H→SqL K H a xs)
  (hs:∀ l i x σ H,H1 l=none→xs[i]? =some x→Pv l i σ H→g x σ H fun σ2 H3=>tt σ2 H3 fun b H4=>if b=true then te σ2 H4 fun y H5=>∃ ys,H5 l=some (.lst ys)∧ys.length < sizeLine∧Pv l (i+1) σ2 (upd H5 l (.lst (ys++[y]))) else Pv l (i+1) σ2 H4)
  (hd:∀ l σ H,H1 l=none→Pv l xs.length σ H→fin l H):CompR (Itl K a) g tt te fin σ0 H1:=by
 intro l hl0
 refine ⟨fun i m σ H=>m=xs.length - i∧i≤xs.length∧Pv l i σ H,⟨xs.length,by simp,Nat.zero_le _,h0 l hl0⟩,?_⟩
 rintro i m σ H ⟨rfl,hi,p⟩
 have q:=hq l i σ H hl0 hi p
 by_cases hlt:i < xs.length
 · refine .inr ⟨⟨xs,xs[i],q,by simp [hlt]⟩,Pv l (i+1),fun σ' H' p'=>⟨xs.length - (i+1),by omega,rfl,hlt,p'⟩,fun x H' y=>?_⟩
   obtain ⟨e,y⟩:=y
   subst e
   exact hs l i x σ _ hl0 (y xs q) p
 · have e:i=xs.length:=by omega
   subst e
   exact .inl ⟨⟨xs,q,Nat.le_refl _⟩,hd l σ H hl0 p⟩
theorem sU {p q:Addr} {xs ys:List Int} (hp:H p=some (.lst (xs.map V.int))) (hq:H q=some (.lst (ys.map V.int))) (h:Q (.bl (decide (xs=ys))) H):cEq K (.ref p) (.ref q) H Q:=by
 show rEqD K (.ref p) (.ref q) H Q
 refine ⟨.list (xs.map PyData.int),.list (ys.map PyData.int),.lst (SqL.of hp) (.ints xs),.lst (SqL.of hq) (.ints ys),j8 xs,j8 ys,?_⟩
 rw [PyData.eqv,sx]
 exact h
theorem fB {p:Addr} {xs:List V} (hp:H p=some (.lst xs)) (h:∀ l,H l=none→Q (.ref l) (upd H l (.lst xs))):kList [.ref p] H Q:=by
 unfold kList
 dsimp only
 rw [hp]
 exact h
end
theorem bz {X:Cx} {N:List Str} {ix:List (Option Nat)} {scope:Scope} (h1:scope.kind=.function) (h2:(scope.names.map (·.1)).Nodup) (h3:(scope.names.all fun p=>p.2 != .free||isCF (X.env.kindOf p.1))=true) (h4:N=compN scope) (h5:ix=k8 X.N scope):BlkOk X N ix scope:=by
 subst h4 h5
 exact uM h1 h2 h3
def kLenS (K:PySem.W.Frag):List V→Hp→VK→Prop:=fun xs H Q=>∃ p ys,xs=[.ref p]∧(SqL K H p ys∨SqT K H p ys)∧Q (.int ys.length) H
structure Bt (mg:Str→Option Value):Prop where
 len_:mg "len"=none
 abs_:mg "abs"=none
 min_:mg "min"=none
 max_:mg "max"=none
 sorted_:mg "sorted"=none
 any_:mg "any"=none
 isinstance_:mg "isinstance"=none
 list_:mg "list"=none
 int_:mg "int"=none
 bool_:mg "bool"=none
 str_:mg "str"=none
 tuple_:mg "tuple"=none
 reversed_:mg "reversed"=none
 set_:mg "set"=none
 range_:mg "range"=none
 zip_:mg "zip"=none
end L2
namespace L2
open PySem PySem.Spec PyProof.Rows
theorem Vals.get':∀ {xs:List V} {us:List Value} {i:Nat} {u:Value},Vals xs us→us[i]? =some u→∃ x,xs[i]? =some x∧RelV x u
 | _,_,_,_,.nil,h=>by simp at h
 | _,_,0,_,.cons r _,h=>by simp at h; subst h; exact ⟨_,rfl,r⟩
 | _,_,i+1,_,.cons _ t,h=>by
  obtain ⟨x,hx,r⟩:=Vals.get' (i:=i) t (by simpa using h)
  exact ⟨x,by simpa using hx,r⟩
section
variable {X:Cx} {pins:List (Addr × Obj)} {σ:St} {H:Hp} {s s':Shared}
theorem Inv.kept' (I:Inv X pins σ H s) (k:∀ b u,s.heap.get? b=some u→s'.heap.get? b=some u) (ho:s'.os=s.os) (hg:AllBare s'.gens):Inv X pins σ H s':=
 I.call' (ch:=[]) ho (Un.kept k) (I.hok.kept k) hg fun b z=>absurd z (by simp)
theorem Inv.walked {l:Addr} {o:Obj} (I:Inv X pins σ H s) (hm:Moved [s.heap.objs.size] (fun a b=>b=a) { s with heap:=s.heap.push o } s'):Inv X pins σ H s':=by
 refine I.kept' (fun b u e=>hm.heap b u (fun z=>?_) (Heap.get?_push_of_some _ e)) hm.os (by rw [show s'.gens=s.gens from hm.gens]; exact I.bare)
 have:b=s.heap.objs.size:=by simpa using z
 exact absurd (Heap.lt_size e) (by rw [this]; exact Nat.lt_irrefl _)
def kAny:List V→Hp→VK→Prop
 | [.ref p],H,Q=>bnd (unL (H p)) fun ys=>∃ bs:List Bool,ys=bs.map V.bl∧Q (.bl (bs.any id)) H
 | _,_,_=>False
theorem rn (bs:List Bool):(List.range bs.length).any (fun i=>bs.getD i false)=bs.any id:=by
 rw [Bool.eq_iff_iff,List.any_eq_true,List.any_eq_true]
 constructor
 · rintro ⟨i,hi,h⟩
   have hi':i < bs.length:=List.mem_range.mp hi
   exact ⟨bs[i],List.getElem_mem hi',by simpa [List.getD,hi'] using h⟩
 · rintro ⟨b,hb,h⟩
   obtain ⟨i,hi,e⟩:=List.mem_iff_getElem.mp hb
   refine ⟨i,List.mem_range.mpr hi,?_⟩
   have h':b=true:=h
   rw [List.getD,List.getElem?_eq_getElem hi,e]
   exact h'
theorem ro (hc:X.calm=true):CallR X (.builtin "any") kAny:=by
 intro pins s σ H xs us Q I r h
 unfold kAny at h
 split at h
 · rename_i p
   obtain ⟨ys,e,bs,rfl,q⟩:=bc h
   obtain ⟨u,rfl,ru⟩:=cL r
   cases ru
   obtain ⟨its,rv,pl,hz⟩:=I.list (kY e)
   have hl:=rv.length
   rw [List.length_map] at hl
   have hlt:p < s.heap.objs.size:=by
    obtain ⟨o,h1,_⟩:=pl.isList
    exact Heap.lt_size h1
   refine call_any_walkS (wpAny_pyIter_list pl.isList ?_)
   refine ⟨s.heap.objs.size,_,_,_,its.toArray.size,_,_,fun i=>bs.getD i false,rfl,(Walks.list (A:=X.A.in1) (I.ok.hd hc) s.heap.objs.size p (Nat.ne_of_lt hlt) its.toArray).toS,⟨⟨_,Heap.get?_push_size _ rfl,rfl,rfl⟩,pl.isList.push _⟩,?_,fun s' hm=>?_⟩
   · intro i v s1 Q1 E1 hP hQ
     have hv:its[i]? =some v:=by simpa using hP
     obtain ⟨x,hx,rx⟩:=rv.get' hv
     obtain ⟨b,hb,rfl⟩:∃ b,bs[i]? =some b∧V.bl b=x:=by simpa using hx
     cases rx
     refine wpAny_truthy_bool ?_
     have e3:bs.getD i false=b:=by simp [List.getD,hb]
     rw [← e3]
     exact hQ
   · refine ⟨.bl _,H,I.walked (l:=p) hm,?_,q⟩
     have e2:its.toArray.size=bs.length:=by rw [List.size_toArray]; exact hl.symm
     rw [e2,rn]
     rfl
 · exact h.elim
theorem uO {h:Heap} {a b:Addr} {o u:Obj} {c d:String} (ha:h.get? a=some o) (hb:h.get? b=some u) (hc:o.cls=.type c) (hd:u.cls=.type d) (ne:c≠d):a≠b:=by
 rintro rfl; rw [ha] at hb; cases hb; rw [hc] at hd; cases hd; exact ne rfl
end
end L2
namespace L2
open PySem PySem.Spec PyProof.Rows
open Builtin Builtin.Str
theorem mf:∀ {ts:List Str} {us:List Value},Vals (ts.map V.str) us→∃ l:List (Str × Tok),us=strValues l∧l.map (·.1)=ts
 | [],_,.nil=>⟨[],rfl,rfl⟩
 | t::ts,_,.cons r rs=>by
  obtain ⟨l,rfl,e⟩:=mf (ts:=ts) rs
  obtain ⟨u,rfl⟩:=r
  exact ⟨(t,u)::l,rfl,by rw [List.map_cons,e]⟩
theorem m5:∀ (l:List (Str × Tok)),Vals ((l.map (·.1)).map V.str) (strValues l)
 | []=>.nil
 | (t,u)::l=>.cons ⟨u,rfl⟩ (m5 l)
section
variable {X:Cx}
def kFind:V→List V→Hp→VK→Prop
 | .str x,[.str y],H,Q=>Q (.int (Txt.find x y)) H
 | _,_,_,_=>False
def la:V→List V→Hp→VK→Prop
 | .str x,[.str y],H,Q=>(y.length==0)=false∧x.length≤sizeLine∧(Txt.split x y).length≤sizeLine∧∀ l,H l=none→Q (.ref l) (upd H l (.lst ((Txt.split x y).map V.str)))
 | _,_,_,_=>False
theorem rp:MtR X "str.split" la:=by
 intro pins s σ H x vs v us Q I rx rv h
 unfold la at h
 split at h
 · rename_i x y
   obtain ⟨t,rfl⟩:=rx
   obtain ⟨u,rfl,ru⟩:=cL rv
   obtain ⟨t2,rfl⟩:=ru
   obtain ⟨hy,hx,hn,q⟩:=h
   have fin:∀ (l:List (Str × Tok)) (k:Nat),l.map (·.1)=Txt.split x y→EP X pins σ Q (.ref s.heap.objs.size) { s with heap:=s.heap.push { cls:=.type "list",data:=.seq (strValues l).toArray },toks:=k }:=fun l k e=>by
    refine ⟨.ref s.heap.objs.size,_,I.lnew (t':=k) (ys:=(Txt.split x y).map V.str) (its:=strValues l) ?_ (by rw [List.length_map]; exact hn),rfl,q _ I.fresh⟩
    rw [← e]
    exact m5 l
   cases h1:(decide (x.length < y.length)||decide (strKind x < strKind y))
   · cases hf:(occurrences x y 0 x.length (x.length+1)).isEmpty
     · have e3:Txt.split x y=partsBetween x (occurrences x y 0 x.length (x.length+1)) y.length:=(if_neg (ne_true_of_eq_false h1)).trans (if_neg (ne_true_of_eq_false hf))
       refine call_meets F.slot_str_split (typeIs_str _ _ _) F.entry_str_split (F.args_str_split_2 _ _) (meets_str_split_sep x y t t2 h1 hy hf hx (by rw [← e3]; exact hn)) ?_
       show wants _ _ _ { s with toks:=_,heap:=s.heap.push { cls:=.type "list",data:=.seq (strsFrom s.toks (partsBetween x (occurrences x y 0 x.length (x.length+1)) y.length)).toArray } }
       rw [strsFrom_eq]
       exact fin (numbered s.toks _) _ ((numbered_texts _ _).trans e3.symm)
     · exact call_meets F.slot_str_split (typeIs_str _ _ _) F.entry_str_split (F.args_str_split_2 _ _) (meets_str_split_not_found x y t t2 h1 hy hf)
        (fin [(x,t)] s.toks ((if_neg (ne_true_of_eq_false h1)).trans (if_pos hf)).symm)
   · exact call_meets F.slot_str_split (typeIs_str _ _ _) F.entry_str_split (F.args_str_split_2 _ _) (meets_str_split_cannot_occur x y t t2 h1)
      (fin [(x,t)] s.toks (if_pos h1).symm)
 · exact h.elim
def dZ:V→Option Int→Option Int→Hp→VK→Prop
 | .ref p,lo,hi,H,Q=>cSl (.ref p) lo hi H Q
 | .str z,lo,hi,H,Q=>z.length≤sizeLine∧Q (.str (Txt.slice z lo hi)) H
 | _,_,_,_,_=>False
theorem d0:SlR X dZ:=by
 intro pins s σ H x v vl vu lo hi sl Q I rx hs pl pu h
 cases x with
 | ref p=>exact vE pins s σ H _ v vl vu lo hi sl Q I rx hs pl pu h
 | str z=>
  obtain ⟨hz,q⟩:=(show z.length≤sizeLine∧Q (.str (Txt.slice z lo hi)) H from h)
  obtain ⟨t,rfl⟩:=rx
  have fin:∀ t' k,EP X pins σ Q (.str (Txt.slice z lo hi) t') { s with toks:=k }:=fun t' k=>⟨.str _,H,I.tok k,⟨t',rfl⟩,q⟩
  refine ⟨"str",_,F.slot_str_getitem.lookup,typeIs_str _ _ _,?_⟩
  cases pl with
  | none=>
   cases pu with
   | none=>exact wpAny_getItem_str_slice (l:=none) (u:=none) (st:=none) hs rfl (post_val_or_str ⟨Nat.le_trans (Txt.slice_le z _ _) hz,fin⟩)
   | int j tj=>exact wpAny_getItem_str_slice (l:=none) (u:=some (j,tj)) (st:=none) hs rfl (post_val_or_str ⟨Nat.le_trans (Txt.slice_le z _ _) hz,fin⟩)
  | int i ti=>
   cases pu with
   | none=>exact wpAny_getItem_str_slice (l:=some (i,ti)) (u:=none) (st:=none) hs rfl (post_val_or_str ⟨Nat.le_trans (Txt.slice_le z _ _) hz,fin⟩)
   | int j tj=>exact wpAny_getItem_str_slice (l:=some (i,ti)) (u:=some (j,tj)) (st:=none) hs rfl (post_val_or_str ⟨Nat.le_trans (Txt.slice_le z _ _) hz,fin⟩)
 | _=>exact False.elim h
def Its (x:Str):It:=⟨fun i _=>i < x.cps.size,fun i H v H'=>H'=H∧∃ c,x.cps[i]? =some c∧v=.str ⟨#[c]⟩,fun i _=>x.cps.size≤i⟩
theorem oG {P:Program} {w:World} {K:PySem.W.Frag} {tg:Expr} {x:Str} {t:Tok} (it:Addr) (ty:String) (hty:["enumerate","zip","dict_itemiterator","dict_reverseitemiterator","odict_iterator","itertools.zip_longest","itertools.pairwise"].contains ty=false)
  (W:∀ A:Around,A.handled=none→Walks P w A it [it] [it] x.cps.size (SignAt x) (fun i h=>h.IsStrIter it ty x t i))
  (slf:∀ (A:Around) (i:Nat) (s:Shared) (Q:Value→Shared→Prop) (E:Value→Shared→Prop),s.heap.IsStrIter it ty x t i→Q (.ref it) s→wpAny (model P w) A (pyIter (.ref it)) Q E s):
  Turn P w K tg (Its x) [it] it (fun i h=>i≤x.cps.size∧h.IsStrIter it ty x t i) where
 mem:=by simp
 obj:=fun i h st b hb=>by
  have e:b=it:=by simpa using hb
  subst e
  obtain ⟨_,o,e,c,d⟩:=st
  exact ⟨o,e,fun v z=>by rw [d] at z; cases z⟩
 keep:=fun i h h' st k=>by
  obtain ⟨hi,o,e,c,d⟩:=st
  exact ⟨hi,o,k it (by simp) o e,c,d⟩
 item:=by
  intro X hP hw hK hc i pins s σ H E I hf st hg
  subst hP hw hK
  obtain ⟨f0,f1,f2,f3,f4,f5⟩:=hf it (by simp)
  have hlt:i < x.cps.size:=hg
  refine (W X.A (I.ok.hd hc)).item i s _ _ hlt st.2 fun v h' tk hv st' kk=>?_
  obtain ⟨c,u,hcu,rfl⟩:=hv
  have I1:Inv X pins σ H { s with heap:=h',toks:=tk }:=I.turned (fun b o hb e=>kk b o (by simpa using hb) e) f0 f1 f3 f4 f5
  obtain ⟨o,e,c',d⟩:=id st'
  exact ⟨_,rfl,p7 (s:={ s with heap:=h',toks:=tk }) e c' d hty ⟨.str ⟨#[c]⟩,H,I1,⟨u,rfl⟩,⟨rfl,c,hcu,rfl⟩,⟨hlt,st'⟩,fun b hb=>(hf b hb).1⟩⟩
 done:=by
  intro X hP hw hK hc i pins s σ H E I hf st hg
  subst hP hw hK
  obtain ⟨f0,f1,f2,f3,f4,f5⟩:=hf it (by simp)
  have hle:x.cps.size≤i:=hg
  have e:i=x.cps.size:=Nat.le_antisymm st.1 hle
  subst e
  exact (W X.A (I.ok.hd hc)).done s _ _ st.2 fun h' tk kk=>⟨rfl,I.turned (fun b o hb e=>kk b o (by simpa using hb) e) f0 f1 f3 f4 f5⟩
 self:=fun A i s Q E st h=>slf A i s Q E st.2 h
def iStr (tl:TE):TI:=fun σ H R=>tl σ H fun x H1=>∃ z,x=.str z∧R (Its z) H1
theorem uP {tg l:Expr} {tl:TE} (hl:PE X l tl):PI X tg l (iStr tl):=by
 intro pins s σ H R I h
 refine thn (hl pins s σ H _ I h) fun v s1 ⟨x,H1,I1,r1,q1⟩=>?_
 obtain ⟨z,rfl,q⟩:=q1
 obtain ⟨t,rfl⟩:=r1
 have fin:∀ b∈[s1.heap.objs.size],FpOk X pins H1 b:=fun b hb=>by
  have e:b=s1.heap.objs.size:=by simpa using hb
  subst e
  exact I1.fpOk (Nat.le_refl _) (I1.hok.fresh (Nat.le_refl _))
 cases ha:z.cps.all (· < 128)
 · refine wpAny_pyIter_wide ha ⟨s1.heap.objs.size,[s1.heap.objs.size],_,Its z,H1,rfl,I1.kept (t':=s1.toks) fun b o e=>Heap.get?_push_of_some _ e,oG (t:=t) _ "str_iterator" (by decide) (fun A' hA=>Walks.strWide hA _ z t) (fun A i s Q E st hq=>wpAny_pyIter_striter_wide st hq),⟨Nat.zero_le _,_,Heap.get?_push_size _ rfl,rfl,rfl⟩,fin,q⟩
 · refine wpAny_pyIter_ascii ha ⟨s1.heap.objs.size,[s1.heap.objs.size],_,Its z,H1,rfl,I1.kept (t':=s1.toks) fun b o e=>Heap.get?_push_of_some _ e,oG (t:=t) _ "str_ascii_iterator" (by decide) (fun A' hA=>Walks.strAscii hA _ z t) (fun A i s Q E st hq=>wpAny_pyIter_striter_ascii st hq),⟨Nat.zero_le _,_,Heap.get?_push_size _ rfl,rfl,rfl⟩,fin,q⟩
end
section
variable {K:PySem.W.Frag} {g:TG} {tb:TS} {D:Ends} {σ:St} {H:Hp} {tl:TE} {ix:List (Option Nat)} {tt:TT} {te ta:TE} {k:Nat} {Q:VK}
theorem mh {r:V→Option Int→Option Int→Hp→VK→Prop} {a b:TO}:tSl r te a b σ H Q=te σ H fun x H1=>a σ H1 fun l H2=>b σ H2 fun u H3=>r x l u H3 Q:=rfl
theorem g8 {R:Option Int→Hp→Prop}:tPart te σ H R=te σ H fun x H1=>∃ i,x=.int i∧R (some i) H1:=rfl
theorem eW {R:Option Int→Hp→Prop}:bI σ H R=R none H:=rfl
theorem g9 {to ti:TE} {t:TSet} {v:V} {R:St→Hp→Prop}:gSub to ti t v σ H R=to σ H fun o H1=>ti σ H1 fun i H2=>t o i v H2 fun H3=>R σ H3:=rfl
theorem mi {r:V→Hp→VK→Prop}:tUn r te σ H Q=te σ H fun x H1=>r x H1 Q:=rfl
theorem hJ:tFor (iStr tl) g tb D σ H=tl σ H fun x H1=>∃ z,x=.str z∧LoopR (Its z) g tb D σ H1:=rfl
theorem fY:tComp ix (iStr tl) g tt te σ H Q=tl σ H fun x H1=>∃ z,x=.str z∧CompR (Its z) g tt te (fun l H'=>Q (.ref l) H') (subσ ix σ) H1:=rfl
theorem eY:sComp k ix (iStr tl) g tt te D σ H=tl σ H fun x H1=>∃ z,x=.str z∧CompR (Its z) g tt te (fun l H'=>D.nx (σ.set k (some (.ref l))) H') (subσ ix σ) H1:=rfl
theorem qm {x:Str}:tyV K "str" (.str x) H:=rfl
theorem jG {i j:Str}:cEq K (.str i) (.str j) H Q=Q (.bl (decide (i=j))) H:=rfl
theorem jH {i j:Str}:cNe K (.str i) (.str j) H Q=Q (.bl (!decide (i=j))) H:=rfl
theorem hV {z:Str}:kLen [.str z] H Q=(z.length≤sizeLine∧Q (.int z.length) H):=rfl
theorem gj {i j:Str}:cAdd (.str i) (.str j) H Q=(i.length+j.length≤sizeLine∧Q (.str (i++j)) H):=rfl
theorem vo {z:Str} {i:Int}:cIx (.str z) (.int i) H Q=(z.length≤sizeLine∧bnd (atI z.cps.toList i) fun c=>Q (.str ⟨#[c]⟩) H):=rfl
theorem hZ {x y:Str}:kFind (.str x) [.str y] H Q=Q (.int (Txt.find x y)) H:=rfl
theorem tL {x y:Str}:la (.str x) [.str y] H Q=((y.length==0)=false∧x.length≤sizeLine∧(Txt.split x y).length≤sizeLine∧∀ l,H l=none→Q (.ref l) (upd H l (.lst ((Txt.split x y).map V.str)))):=rfl
theorem fN {p:Addr} {lo hi:Option Int} {xs:List V} (hp:H p=some (.lst xs)) (h:∀ l,H l=none→Q (.ref l) (upd H l (.lst (cutV xs lo hi)))):dZ (.ref p) lo hi H Q:=by
 show bnd (unL (H p)) _
 rw [hp]
 exact h
end
end L2
namespace L2
open PySem PySem.Spec PyProof.Rows
def cBitI (g:Int→Int→Int):R2
 | .int i,.int j,H,Q=>Q (.int (g i j)) H
 | _,_,_,_=>False
def cShr:R2
 | .int i,.int j,H,Q=>0≤j∧Q (.int (i / 2^j.toNat)) H
 | _,_,_,_=>False
section
variable {H:Hp} {Q:VK} {i j:Int}
theorem oH {g:Int→Int→Int}:cBitI g (.int i) (.int j) H Q=Q (.int (g i j)) H:=rfl
theorem qo:cShr (.int i) (.int j) H Q=(0≤j∧Q (.int (i / 2^j.toNat)) H):=rfl
end
end L2
namespace L2
open PySem PySem.Spec PyProof.Rows
section
variable {X:Cx}
def kInt:List V→Hp→VK→Prop
 | [.int i],H,Q=>Q (.int i) H
 | [.bl k],H,Q=>Q (.int (if k then 1 else 0)) H
 | _,_,_=>False
def tM:V→List V→Hp→VK→Prop
 | .int i,[],H,Q=>Q (.int (Builtin.Int.intBits i:Nat)) H
 | _,_,_,_=>False
def kAll:List V→Hp→VK→Prop
 | [.ref p],H,Q=>bnd (unL (H p)) fun ys=>∃ bs:List Bool,ys=bs.map V.bl∧Q (.bl (bs.all id)) H
 | _,_,_=>False
theorem rq (bs:List Bool):(List.range bs.length).all (fun i=>bs.getD i false)=bs.all id:=by
 rw [Bool.eq_iff_iff,List.all_eq_true,List.all_eq_true]
 constructor
 · intro h b hb
   obtain ⟨i,hi,e⟩:=List.mem_iff_getElem.mp hb
   have:=h i (List.mem_range.mpr hi)
   rw [List.getD,List.getElem?_eq_getElem hi,e] at this
   exact this
 · intro h i hi
   have hi':i < bs.length:=List.mem_range.mp hi
   have:=h bs[i] (List.getElem_mem hi')
   simpa [List.getD,hi'] using this
theorem rz:bootBuiltins "all"=some (.builtin "all"):=by decide+kernel
theorem uQ:bootBuiltins "sum"=some (.builtin "sum"):=by decide+kernel
theorem m6 (hc:X.calm=true):CallR X (.builtin "all") kAll:=by
 intro pins s σ H xs us Q I r h
 unfold kAll at h
 split at h
 · rename_i p
   obtain ⟨ys,e,bs,rfl,q⟩:=bc h
   obtain ⟨u,rfl,ru⟩:=cL r
   cases ru
   obtain ⟨its,rv,pl,hz⟩:=I.list (kY e)
   have hl:=rv.length
   rw [List.length_map] at hl
   have hlt:p < s.heap.objs.size:=by
    obtain ⟨o,h1,_⟩:=pl.isList
    exact Heap.lt_size h1
   refine call_all_walkS (wpAny_pyIter_list pl.isList ?_)
   refine ⟨s.heap.objs.size,_,_,_,its.toArray.size,_,_,fun i=>bs.getD i false,rfl,(Walks.list (A:=X.A.in1) (I.ok.hd hc) s.heap.objs.size p (Nat.ne_of_lt hlt) its.toArray).toS,⟨⟨_,Heap.get?_push_size _ rfl,rfl,rfl⟩,pl.isList.push _⟩,?_,fun s' hm=>?_⟩
   · intro i v s1 Q1 E1 hP hQ
     have hv:its[i]? =some v:=by simpa using hP
     obtain ⟨x,hx,rx⟩:=rv.get' hv
     obtain ⟨b,hb,rfl⟩:∃ b,bs[i]? =some b∧V.bl b=x:=by simpa using hx
     cases rx
     refine wpAny_truthy_bool ?_
     have e3:bs.getD i false=b:=by simp [List.getD,hb]
     rw [← e3]
     exact hQ
   · refine ⟨.bl _,H,I.walked (l:=p) hm,?_,q⟩
     have e2:its.toArray.size=bs.length:=by rw [List.size_toArray]; exact hl.symm
     rw [e2,rq]
     rfl
 · exact h.elim
def kSum:List V→Hp→VK→Prop
 | [.ref p],H,Q=>bnd (unL (H p)) fun ys=>∃ ns:List Int,ys=ns.map V.int∧(∀ x∈ns,0≤x∧x≤1000000)∧ns.length≤1000000∧Q (.int ns.sum) H
 | _,_,_=>False
theorem rA:∀ (ns:List Int),(∀ x∈ns,0≤x∧x≤1000000)→0≤ns.sum∧ns.sum≤1000000*ns.length
 | [],_=>by simp
 | n::r,h=>by
  have ih:=rA r fun x hx=>h x (List.mem_cons_of_mem _ hx)
  have h1:=h n List.mem_cons_self
  rw [List.sum_cons,List.length_cons]
  omega
theorem rB (hc:X.calm=true):CallR X (.builtin "sum") kSum:=by
 intro pins s σ H xs us Q I r h
 unfold kSum at h
 split at h
 · rename_i p
   obtain ⟨ys,e,ns,rfl,hb,hn,q⟩:=bc h
   obtain ⟨u,rfl,ru⟩:=cL r
   cases ru
   obtain ⟨its,rv,pl,hz⟩:=I.list (kY e)
   have hl:=rv.length
   rw [List.length_map] at hl
   have hlt:p < s.heap.objs.size:=by
    obtain ⟨o,h1,_⟩:=pl.isList
    exact Heap.lt_size h1
   have e2:its.toArray.size=ns.length:=by rw [List.size_toArray]; exact hl.symm
   refine call_sum_walkS (wpAny_pyIter_list pl.isList ?_)
   refine ⟨s.heap.objs.size,_,_,_,its.toArray.size,_,_,fun i=>ns.getD i 0,rfl,(Walks.list (A:=X.A.in1) (I.ok.hd hc) s.heap.objs.size p (Nat.ne_of_lt hlt) its.toArray).toS,⟨⟨_,Heap.get?_push_size _ rfl,rfl,rfl⟩,pl.isList.push _⟩,?_,?_,?_,fun s' t' hm=>?_⟩
   · intro b hb'
     show b < (s.heap.push _).objs.size
     rw [Heap.size_push]
     simp only [List.mem_cons,List.not_mem_nil,or_false] at hb'
     rcases hb' with rfl | rfl
     · exact Nat.lt_succ_self _
     · exact Nat.lt_succ_of_lt hlt
   · intro i v hP
     have hv:its[i]? =some v:=by simpa using hP
     obtain ⟨x,hx,rx⟩:=rv.get' hv
     obtain ⟨b,hb',rfl⟩:∃ b,ns[i]? =some b∧V.int b=x:=by simpa using hx
     obtain ⟨t,rfl⟩:=rx
     exact ⟨t,by simp [List.getD,hb']⟩
   · intro j hj
     rw [e2] at hj
     refine ⟨?_,?_⟩
     · have:=hb ns[j] (List.getElem_mem hj)
       have e3:ns.getD j 0=ns[j]:=by simp [List.getD,hj]
       show InLong (ns.getD j 0)
       rw [e3]
       exact ⟨by omega,by omega⟩
     · rw [preSum_getD]
       have h1:=rA (ns.take (j+1)) fun x hx=>hb x (List.mem_of_mem_take hx)
       have h2:(ns.take (j+1)).length≤ns.length:=by rw [List.length_take]; omega
       exact ⟨by omega,by omega⟩
   · refine ⟨.int ns.sum,H,I.walked (l:=p) hm,⟨t',?_⟩,q⟩
     rw [e2,preSum_getD,List.take_length]
 · exact h.elim
def Itd (hi:Int) (n:Nat):It:=⟨fun i _=>i < n,fun i H x H'=>H'=H∧x=.int (hi - i),fun i _=>n≤i⟩
def iRngD (ta:TA):TI:=fun σ H R=>ta σ H fun vs H1=>∃ i j:Int,vs=[.int i,.int j,.int (-1)]∧(-(2^60)≤i∧i < 2^60∧ -(2^60)≤j∧j < 2^60)∧R (Itd i (i - j).toNat) H1
end
section
variable {K:PySem.W.Frag} {g:TG} {tb:TS} {D:Ends} {σ:St} {H:Hp} {ta:TA} {Q:VK}
theorem oI {k:Bool}:kInt [.bl k] H Q=Q (.int (if k then 1 else 0)) H:=rfl
theorem oJ {i:Int}:kInt [.int i] H Q=Q (.int i) H:=rfl
theorem ko {i:Int}:tM (.int i) [] H Q=Q (.int (Builtin.Int.intBits i:Nat)) H:=rfl
theorem sV {p:Addr} {bs:List Bool} (hp:H p=some (.lst (bs.map V.bl))) (h:Q (.bl (bs.all id)) H):kAll [.ref p] H Q:=by
 show bnd (unL (H p)) _
 rw [hp]
 exact ce (a:=bs.map V.bl) rfl ⟨bs,rfl,h⟩
theorem vp {p:Addr} {ns:List Int} (hp:H p=some (.lst (ns.map V.int))) (hb:∀ x∈ns,0≤x∧x≤1000000) (hn:ns.length≤1000000) (h:Q (.int ns.sum) H):kSum [.ref p] H Q:=by
 show bnd (unL (H p)) _
 rw [hp]
 exact ce (a:=ns.map V.int) rfl ⟨ns,rfl,hb,hn,h⟩
theorem mj:tFor (iRngD ta) g tb D σ H=ta σ H fun vs H1=>∃ i j:Int,vs=[.int i,.int j,.int (-1)]∧(-(2^60)≤i∧i < 2^60∧ -(2^60)≤j∧j < 2^60)∧LoopR (Itd i (i - j).toNat) g tb D σ H1:=rfl
end
end L2
namespace L2
open PySem PySem.Spec PyProof.Rows
section
variable {X:Cx}
def Ite (K:PySem.W.Frag) (a:Addr):It:=
 ⟨fun i H=>∃ xs x,SqL K H a xs∧xs[i]? =some x,
  fun i H v H'=>∃ T x,v=.ref T∧H T=none∧H'=upd H T (.tup [.int i,x])∧∀ xs,SqL K H a xs→xs[i]? =some x,
  fun i H=>∃ xs,SqL K H a xs∧xs.length≤i⟩
def ESt (a e it:Addr) (i:Nat) (h:Heap):Prop:=(∃ old,IsEnum h e it i old)∧h.IsListIter it a i
theorem rC {P:Program} {w:World} {K:PySem.W.Frag} {es:List Expr} {x1:Nat} {pos:Pos} (a e it:Addr):
  Turn P w K (.Tuple es x1 pos) (Ite K a) [e,it] e (ESt a e it) where
 mem:=by simp
 obj:=fun i h st c hc=>by
  obtain ⟨⟨old,he⟩,⟨o1,e1,c1,f1⟩⟩:=st
  simp only [List.mem_cons,List.not_mem_nil,or_false] at hc
  rcases hc with rfl | rfl
  · exact ⟨_,he,fun v z=>by have z':Data.fields _=Data.cell v:=z; cases z'⟩
  · exact ⟨_,e1,fun v z=>by rw [f1] at z; cases z⟩
 keep:=fun i h h' st k=>by
  obtain ⟨⟨old,he⟩,h1⟩:=st
  exact ⟨⟨old,k e (by simp) _ he⟩,h1.at fun o q=>k it (by simp) o q⟩
 item:=by
  intro X hP hw hK hc i pins s σ H E I hf st hg
  subst hP hw hK
  obtain ⟨xs,x,hq1,hx⟩:=hg
  obtain ⟨its1,rv1,p1,hz1⟩:=I.list hq1
  obtain ⟨u1,hu1,ru1⟩:=rv1.get hx
  obtain ⟨⟨old,he⟩,⟨o1,e1,c1,f1⟩⟩:=id st
  have hne:e≠it:=uO he e1 rfl c1 (by decide)
  refine wpAny_pyNext_enum_item he ⟨o1,e1,c1,f1⟩ p1.isList (x:=u1) (by simpa using hu1) hne fun h' a1 a2 a3 a4 hk=>?_
  refine ⟨_,rfl,wpAny_letOwnedTupleGo_enum a1 fun h2 hz2 sb=>?_⟩
  have hT:H s.heap.objs.size=none:=I.fresh
  have lt:∀ {c o},s.heap.get? c=some o→c≠s.heap.objs.size:=fun e=>Nat.ne_of_lt (Heap.lt_size e)
  have kp:∀ c o,c∉[e,it]→s.heap.get? c=some o→h2.get? c=some o:=fun c o hc q=>by
   simp only [List.mem_cons,List.not_mem_nil,or_false,not_or] at hc
   exact sb.extBut _ _ hc.1 (hk c o hc.1 hc.2 q)
  have hTe:s.heap.objs.size≠e:=(lt he).symm
  have gT:h2.get? s.heap.objs.size=some { cls:=.type "tuple",data:=.seq #[.int i s.toks,u1] }:=sb.extBut _ _ hTe a3
  have nH:∀ c∈[e,it],H c=none:=fun c hc=>(hf c hc).1
  refine ⟨.ref s.heap.objs.size,upd H s.heap.objs.size (.tup [.int i,x]),I.call' (s':={ s with heap:=h2,toks:=s.toks+1 }) (ch:=[e,it]) rfl ⟨fun c o e n _ hx=>kp c o hx e,fun c o e n _ hx=>⟨o.slots,kp c o hx e⟩,fun c o e n _=>by rw [ah (lt e)]; exact n,fun c o e hx=>⟨o,kp c o hx e⟩,fun c xs e=>by rw [ah (ar e hT)]; exact e,fun c o u e=>by rw [ah (ar e hT)]; exact e,fun c ps e=>⟨#[],by rw [ah (ar e hT),e]; simp⟩⟩ ?_ I.bare ?_,rfl,⟨_,x,rfl,hT,rfl,fun zs hz'=>by rw [I.list_inj hz' hq1]; exact hx⟩,?_,?_⟩
  · intro c ob e
    by_cases hb:c=s.heap.objs.size
    · subst hb
      rw [ad] at e
      cases e
      exact ⟨by show (2:Nat)≤sizeLine; exact Nat.le_of_lt (aR (by decide)),[.int i s.toks,u1],.cons ⟨_,rfl⟩ (.cons ru1 .nil),⟨_,gT,rfl,_,rfl⟩⟩
    · rw [ah hb] at e
      refine (I.hok c ob e).stay (fun d w' hd g=>kp d w' ?_ g) (fun d g=>by rw [ah (ar g hT)]; exact g) fun d xs g=>by rw [ah (ar g hT)]; exact g
      intro hm
      rcases hd with rfl | hd
      · rw [nH _ hm] at e; cases e
      · rw [nH _ hm] at hd; cases hd
  · intro c hc
    obtain ⟨f0,f1,f2,f3,f4,f5⟩:=hf c hc
    exact ⟨f3,f1,f4,f5⟩
  · exact ⟨⟨_,hz2⟩,a2.extBut sb.extBut hne.symm⟩
  · intro c hc
    obtain ⟨o,q⟩:∃ o,s.heap.get? c=some o:=by
     simp only [List.mem_cons,List.not_mem_nil,or_false] at hc
     rcases hc with rfl | rfl
     · exact ⟨_,he⟩
     · exact ⟨_,e1⟩
    rw [ah (lt q)]
    exact (hf c hc).1
 done:=by
  intro X hP hw hK hc i pins s σ H E I hf st hg
  subst hP hw hK
  obtain ⟨xs,hq1,hx⟩:=hg
  obtain ⟨its1,rv1,p1,hz1⟩:=I.list hq1
  have hl1:=rv1.length
  obtain ⟨⟨old,he⟩,⟨o1,e1,c1,f1⟩⟩:=id st
  have hend:its1.toArray[i]? =none:=by simp; omega
  obtain ⟨f0,f1',f2,f3,f4,f5⟩:=hf it (by simp)
  exact wpAny_pyNext_enum_end (I.ok.hd hc) he ⟨o1,e1,c1,f1⟩ p1.isList hend fun h' eb=>⟨rfl,I.turned (t':=s.toks) (fun b o hb e=>eb b o hb e) f0 f1' f3 f4 f5⟩
 self:=fun _ _ _ _ _ st h=>by
  obtain ⟨⟨old,he⟩,_⟩:=st
  exact wpAny_pyIter_enum he h
def iEnum (K:PySem.W.Frag) (ta:TA):TI:=fun σ H R=>ta σ H fun vs H1=>∃ a,vs=[.ref a]∧(∃ xs,SqL K H1 a xs)∧R (Ite K a) H1
theorem oK:bootBuiltins "enumerate"=some (.type "enumerate"):=by decide+kernel
theorem tN {es:List Expr} {x1:Nat} {tpos:Pos} {e1:Expr} {ta:TA} {p pos:Pos} (hg:Gl X "enumerate") (hm:X.mg "enumerate"=none) (ha:PA X [e1] ta) (hs:starEach [e1] X.env=[(false,eval e1 X.env)]:=by rfl):
  PI X (.Tuple es x1 tpos) (.Call (.Name "enumerate" p) [e1] [] pos) (iEnum X.K ta):=by
 intro pins s σ H R I h
 refine Call_ (dr I hg hm oK (PyProof.Rows.callWith_type1 (thn (ha pos pins s σ H _ I h) fun us s1 ⟨vs,H1,I1,r1,q1⟩=>?_) hs rfl))
 obtain ⟨a,rfl,⟨xs,hq1⟩,q⟩:=q1
 obtain ⟨u1,rfl,ru1⟩:=cL r1
 cases ru1
 obtain ⟨its1,rv1,p1,hz1⟩:=I1.list hq1
 refine call_enumerate_list p1.isList fun h' a1 a2 a3 hk=>?_
 refine wpAny_pyIter_enum a1 ?_
 have I2:Inv X pins σ H1 { s1 with heap:=h',toks:=s1.toks }:=I1.kept hk
 refine ⟨s1.heap.objs.size+1,[s1.heap.objs.size+1,s1.heap.objs.size],ESt a (s1.heap.objs.size+1) s1.heap.objs.size,Ite X.K a,H1,rfl,I2,rC a (s1.heap.objs.size+1) s1.heap.objs.size,⟨⟨_,a1⟩,a2⟩,fun c hc=>?_,q⟩
 have hge:s1.heap.objs.size≤c:=by
  simp only [List.mem_cons,List.not_mem_nil,or_false] at hc
  rcases hc with rfl | rfl <;> omega
 exact I1.fpOk hge (I1.hok.fresh hge)
end
section
variable {K:PySem.W.Frag} {g:TG} {tb:TS} {D:Ends} {σ:St} {H:Hp} {ta:TA} {Q:VK} {ix:List (Option Nat)} {tt:TT} {te:TE} {k:Nat}
theorem oM:tFor (iEnum K ta) g tb D σ H=ta σ H fun vs H1=>∃ a,vs=[.ref a]∧(∃ xs,SqL K H1 a xs)∧LoopR (Ite K a) g tb D σ H1:=rfl
theorem ml:tComp ix (iEnum K ta) g tt te σ H Q=ta σ H fun vs H1=>∃ a,vs=[.ref a]∧(∃ xs,SqL K H1 a xs)∧CompR (Ite K a) g tt te (fun l H'=>Q (.ref l) H') (subσ ix σ) H1:=rfl
theorem kq:sComp k ix (iEnum K ta) g tt te D σ H=ta σ H fun vs H1=>∃ a,vs=[.ref a]∧(∃ xs,SqL K H1 a xs)∧CompR (Ite K a) g tt te (fun l H'=>D.nx (σ.set k (some (.ref l))) H') (subσ ix σ) H1:=rfl
theorem rD {a:Addr} {xs:List V} {fin:Addr→Hp→Prop} {σ0:St} {H1:Hp} (Pv:Addr→Nat→St→Hp→Prop) (h0:∀ l,H1 l=none→Pv l 0 σ0 (upd H1 l (.lst []))) (hq:∀ l i σ H,H1 l=none→i≤xs.length→Pv l i σ H→SqL K H a xs)
  (hs:∀ l i x T σ H,H1 l=none→xs[i]? =some x→Pv l i σ H→H T=none→g (.ref T) σ (upd H T (.tup [.int i,x])) fun σ2 H3=>tt σ2 H3 fun b H4=>if b=true then te σ2 H4 fun y H5=>∃ ys,H5 l=some (.lst ys)∧ys.length < sizeLine∧Pv l (i+1) σ2 (upd H5 l (.lst (ys++[y]))) else Pv l (i+1) σ2 H4)
  (hd:∀ l σ H,H1 l=none→Pv l xs.length σ H→fin l H):CompR (Ite K a) g tt te fin σ0 H1:=by
 intro l hl0
 refine ⟨fun i m σ H=>m=xs.length - i∧i≤xs.length∧Pv l i σ H,⟨xs.length,by simp,Nat.zero_le _,h0 l hl0⟩,?_⟩
 rintro i m σ H ⟨rfl,hi,p⟩
 have q:=hq l i σ H hl0 hi p
 by_cases hlt:i < xs.length
 · refine .inr ⟨⟨xs,xs[i],q,by simp [hlt]⟩,Pv l (i+1),fun σ' H' p'=>⟨xs.length - (i+1),by omega,rfl,hlt,p'⟩,fun v H' y=>?_⟩
   obtain ⟨T,x,rfl,hT,rfl,e⟩:=y
   exact hs l i x T σ _ hl0 (e xs q) p hT
 · have e:i=xs.length:=by omega
   subst e
   exact .inl ⟨⟨xs,q,Nat.le_refl _⟩,hd l σ H hl0 p⟩
theorem qp {a:Addr} {xs:List V} {fin:Addr→Hp→Prop} {σ0:St} {H1:Hp} {k1 k2:Nat} (b:Nat→Bool) (f:Nat→V) (hn:xs.length≤900) (hne:k1≠k2) (hq:SqL K H1 a xs)
  (ht:∀ (i:Nat) x H R,xs[i]? =some x→Same H1 H→(∀ H',Same H H'→R (b i) H')→tt ((σ0.set k1 (some (.int (i:Int)))).set k2 (some x)) H R)
  (he:∀ (i:Nat) x H Q,xs[i]? =some x→b i=true→Same H1 H→(∀ H',Same H H'→Q (f i) H')→te ((σ0.set k1 (some (.int (i:Int)))).set k2 (some x)) H Q)
  (hd:∀ l H,H1 l=none→Same H1 H→H l=some (.lst (((List.range xs.length).filter b).map f))→fin l H):
  CompR (Ite K a) (gTup K 2 (gCons (gName k1) (gCons (gName k2) gNil))) tt te fin σ0 H1:=by
 refine rD (xs:=xs) (fun l i σ H=>(σ=σ0∨∃ c1 c2,σ=(σ0.set k1 c1).set k2 c2)∧Same H1 H∧H l=some (.lst (((List.range i).filter b).map f))) (fun l hl=>⟨.inl rfl,fun b u e=>by rw [ah (ar e hl)]; exact e,by rw [ad]; rfl⟩) (fun l i σ H _ _ p=>p.2.1.seq hq) ?_ (fun l σ H hl p=>hd l H hl p.2.1 p.2.2)
 rintro l i x T σ H hl hx ⟨hσ,s1,el⟩ hT
 have hi:i < xs.length:=(List.getElem?_eq_some_iff.mp hx).1
 have sT:Same H (upd H T (.tup [.int i,x])):=fun b u e=>by rw [ah (ar e hT)]; exact e
 refine ⟨T,_,rfl,SqT.of ad,rfl,_,_,rfl,_,_,rfl,rfl,?_⟩
 have e:(σ.set k1 (some (.int i))).set k2 (some x)=(σ0.set k1 (some (.int i))).set k2 (some x):=by
  rcases hσ with rfl | ⟨c1,c2,rfl⟩
  · rfl
  · rw [List.set_comm _ _ (Ne.symm hne),List.set_set,List.set_set,List.set_comm _ _ hne]
 show tt ((σ.set k1 (some (.int i))).set k2 (some x)) _ _
 rw [e]
 refine ht i x _ _ hx (s1.trans sT) fun H2 s2=>?_
 have el2:=s2 _ _ (sT _ _ el)
 have s12:=(s1.trans sT).trans s2
 have own:∀ {H3:Hp} {o:HO},Same H1 H3→Same H1 (upd H3 l o):=fun s b u e=>by rw [ah (ar e hl)]; exact s b u e
 have hlen:∀ i,i≤900→(((List.range i).filter b).map f).length < sizeLine:=fun i hi=>by
  rw [List.length_map]
  refine aR (Nat.le_trans (List.length_filter_le b _) ?_)
  rw [List.length_range]
  omega
 cases hb:b i with
 | false=>
  rw [if_neg Bool.false_ne_true]
  refine ⟨.inr ⟨_,_,rfl⟩,s12,?_⟩
  rw [List.range_succ,List.filter_append,List.filter_cons,hb]
  simpa using el2
 | true=>
  rw [if_pos rfl]
  refine he i x H2 _ hx hb s12 fun H3 s3=>⟨_,s3 _ _ el2,hlen i (by omega),.inr ⟨_,_,rfl⟩,own (s12.trans s3),?_⟩
  rw [ad,List.range_succ,List.filter_append,List.filter_cons,hb]
  simp
end
end L2
namespace L2
open PySem PySem.Spec PyProof.Rows
end L2
namespace L2
open PySem PySem.Spec PyProof.Rows
end L2
namespace L2
open PySem PySem.Spec PyProof.Rows
def rngL (i j:Int):List Int:=(List.range (j - i).toNat).map fun (k:Nat)=>i+(k:Int)
theorem kr (i j:Int):(rngL i j).length=(j - i).toNat:=by unfold rngL; simp
theorem j9:∀ {xs:List V} {us:List Value},xs.length=us.length→(∀ (i:Nat) x u,xs[i]? =some x→us[i]? =some u→RelV x u)→Vals xs us
 | [],[],_,_=>.nil
 | [],_::_,h,_=>by simp at h
 | _::_,[],h,_=>by simp at h
 | x::xs,u::us,h,f=>.cons (f 0 x u rfl rfl) (j9 (by simpa using h) fun i y e h1 h2=>f (i+1) y e (by simpa using h1) (by simpa using h2))
theorem sB {i j:Int} {acc:Array Value} (h:ItemsOf (fun k v=>∃ t,v=.int (i+k*1) t) acc (j - i).toNat):Vals ((rngL i j).map V.int) acc.toList:=by
 refine j9 (by rw [List.length_map,kr,Array.length_toList]; exact h.1.symm) fun k x u hx hu=>?_
 obtain ⟨t,rfl⟩:=h.2 k u (by simpa using hu)
 unfold rngL at hx
 rw [List.map_map,List.getElem?_map] at hx
 by_cases hk:k < (j - i).toNat
 · rw [List.getElem?_range hk] at hx
   cases hx
   exact ⟨t,by rw [Int.mul_one]⟩
 · rw [List.getElem?_eq_none (by simpa using hk)] at hx
   cases hx
section
variable {X:Cx}
def gD (ta:TA):TE:=fun σ H Q=>ta σ H fun vs H1=>∃ j:Int,vs=[.int j]∧ -(2^60)≤j∧j≤1000∧∀ l,H1 l=none→Q (.ref l) (upd H1 l (.lst ((rngL 0 j).map V.int)))
def rE (ta:TA):TE:=fun σ H Q=>ta σ H fun vs H1=>∃ i j:Int,vs=[.int i,.int j]∧(0≤i∧i≤1000∧ -(2^60)≤j∧j≤1000)∧∀ l,H1 l=none→Q (.ref l) (upd H1 l (.lst ((rngL i j).map V.int)))
theorem sC {pins:List (Addr × Obj)} {σ:St} {H1:Hp} {s1:Shared} {Q:VK} {i j:Int} {t u v:Tok} {tk:Nat} {A:Around} {E:Value→Shared→Prop} (hh:A.handled=none) (I1:Inv X pins σ H1 s1) (h1:0≤i) (h2:i≤1000) (h3: -(2^60)≤j) (h4:j≤1000)
  (q:∀ l,H1 l=none→Q (.ref l) (upd H1 l (.lst ((rngL i j).map V.int)))):
  wpAny (model X.prog X.w) A (call (.type "list") [.ref s1.heap.objs.size]) (EP X pins σ Q) E { s1 with heap:=s1.heap.push { cls:=.type "range",data:=.fields #[.int i t,.int j u,.int 1 v] },toks:=tk }:=by
 have I2:Inv X pins σ H1 { s1 with heap:=s1.heap.push { cls:=.type "range",data:=.fields #[.int i t,.int j u,.int 1 v] },toks:=tk }:=I1.kept fun b o e=>Heap.get?_push_of_some _ e
 refine call_list_range (n:=(j - i).toNat) hh (IsRange.new ..) (small_one (by omega) (by omega) (by omega) (by omega)) (by rw [rangeSize_one]; split <;> omega) (by omega) fun h' tk' acc' c' old hS' hacc=>?_
 have hlen:((rngL i j).map V.int).length≤sizeLine:=by rw [List.length_map,kr]; exact Nat.le_of_lt (aR (by omega))
 exact ⟨.ref _,_,I2.laid (t':=tk') (o:=.lst ((rngL i j).map V.int)) old (Nat.le_refl _) ⟨hlen,acc'.toList,c',sB hacc,hS'⟩,rfl,q _ (I2.hok.fresh (Nat.le_refl _))⟩
theorem ka {a:Expr} {ta:TA} {p p2 pos pos2:Pos} (hc:X.calm=true) (hgl:Gl X "list") (hgr:Gl X "range") (hl:X.mg "list"=none) (hr:X.mg "range"=none) (ha:PA X [a] ta)
  (hs1:starEach [.Call (.Name "range" p2) [a] [] pos2] X.env=[(false,eval (.Call (.Name "range" p2) [a] [] pos2) X.env)]:=by rfl) (hs:starEach [a] X.env=[(false,eval a X.env)]:=by rfl):
  PE X (.Call (.Name "list" p) [.Call (.Name "range" p2) [a] [] pos2] [] pos) (gD ta):=by
 intro pins s σ H Q I h
 refine wpAny_Call_Name_kw (dr I hgl hl cS ?_ (by decide) (by decide))
 refine PyProof.Rows.callWith_type1 ?_ hs1 rfl
 rw [hs1]
 show wpAny _ _ (spliced [(false,eval (.Call (.Name "range" p2) [a] [] pos2) X.env)]) _ _ s
 refine Calls.spliced_cons ?_
 refine Call_ (dr I hgr hr boot_range (PyProof.Rows.callWith_type1 (thn (ha pos2 pins s σ H _ I h) fun us s1 ⟨vs,H1,I1,r1,q1⟩=>?_) hs rfl))
 obtain ⟨j,e,q1,q2,q⟩:=q1
 subst e
 cases r1 with
 | cons r rr=>
  cases rr
  obtain ⟨t,rfl⟩:=r
  refine call_range_1 ?_
  refine Calls.spliced_nil ?_
  exact sC (I.ok.hd hc) I1 (by omega) (by omega) q1 q2 q
end
section
variable {σ:St} {H:Hp} {Q:VK} {ta:TA}
theorem mm:gD ta σ H Q=ta σ H fun vs H1=>∃ j:Int,vs=[.int j]∧ -(2^60)≤j∧j≤1000∧∀ l,H1 l=none→Q (.ref l) (upd H1 l (.lst ((rngL 0 j).map V.int))):=rfl
theorem mn:rE ta σ H Q=ta σ H fun vs H1=>∃ i j:Int,vs=[.int i,.int j]∧(0≤i∧i≤1000∧ -(2^60)≤j∧j≤1000)∧∀ l,H1 l=none→Q (.ref l) (upd H1 l (.lst ((rngL i j).map V.int))):=rfl
end
end L2
namespace L2
theorem lb:∀ {xs ys:List Int},xs.Nodup→(∀ x∈xs,x∈ys)→xs.length≤ys.length
 | [],_,_,_=>Nat.zero_le _
 | x::xs,ys,nd,h=>by
  have hx:=h x List.mem_cons_self
  have nd':=List.nodup_cons.mp nd
  have ih:=lb (xs:=xs) (ys:=ys.erase x) nd'.2 fun y hy=>by
   have ne:y≠x:=fun e=>nd'.1 (e ▸ hy)
   exact (List.mem_erase_of_ne ne).mpr (h y (List.mem_cons_of_mem _ hy))
  rw [List.length_erase_of_mem hx] at ih
  have:0 < ys.length:=List.length_pos_of_mem hx
  simp only [List.length_cons]
  omega
end L2
namespace L2
open PySem PySem.Spec PyProof.Rows
local macro_rules | `(tactic| walk_at "w")=>`(tactic| (first | simp only [aF,aX,jn,bV,il,w_c,km,im,gS,gU,gh,w_b,w_not,jo,ma,gW,gX,jp,jq,gY,md,gZ,jr,js,me,jt,gi,g5,g6,g7,fW,fX,eN,eP,eQ,dO,ju,jv,jw,jx,jy,jz,jA,jB,jC,jD,jE,jF,mh,g8,eW,g9,mi,hJ,fY,eY,jG,jH,hV,gj,hZ,
 List.getElem?_cons_zero,List.getElem?_cons_succ,Option.some.injEq,exists_eq_left',exists_eq_left,List.set_cons_zero,List.set_cons_succ,dG,V.int.injEq,V.bl.injEq,V.ref.injEq,V.str.injEq,List.append_nil,List.nil_append,List.cons_append] | dsimp only | skip))
theorem am {n:Nat} (h:n≤1000):n≤sizeLine:=Nat.le_of_lt (aR h)
def IsFl (H:Hp) (a:Addr) (h w g:Int):Prop:=H a=some (.tup [.int h,.int w,.int g])
theorem Same.laid {H H':Hp} {p:Addr} {o:HO} (s:Same H H') (h:H' p=none):Same H (upd H' p o):=fun b u e=>by
 rw [ah (ar (s b u e) h)]
 exact s b u e
theorem Same.own {H H':Hp} {p:Addr} {o:HO} (s:Same H H') (h:H p=none):Same H (upd H' p o):=fun b u e=>by
 rw [ah (ar e h)]
 exact s b u e
theorem jI {l:List Int} {i:Nat} {x:Int} (h:l[i]? =some x):l.getD i 0=x:=by
 rw [List.getD,h]; rfl
theorem kt {ns:List Int} {k:Int} (h0:0≤k) (h1:k < ns.length):atI (ns.map V.int) k=some (.int (ns.getD k.toNat 0)):=by
 have e:((k.toNat:Nat):Int)=k:=Int.toNat_of_nonneg h0
 have hlt:k.toNat < ns.length:=by omega
 have:(ns.map V.int)[k.toNat]? =some (.int (ns.getD k.toNat 0)):=by
  rw [List.getElem?_map,List.getElem?_eq_getElem hlt]
  simp [List.getD,hlt]
 have q:=bd this
 rw [e] at q
 exact q
theorem cJ {α:Type} (l:List α):l.filter (fun _=>true)=l:=List.filter_eq_self.mpr fun _ _=>rfl
theorem fq {l:List Int} {i:Nat} {y:V} (h:(l.map V.int)[i]? =some y):∃ z,l[i]? =some z∧y=.int z:=by
 rw [List.getElem?_map] at h
 cases e:l[i]? with
 | none=>rw [e] at h; cases h
 | some z=>rw [e] at h; cases h; exact ⟨z,rfl,rfl⟩
theorem fC {h w:Int} (h0:1≤h) (h1:h≤6):CMul h w:=.inl ⟨by omega,by omega⟩
section
variable {k:Nat} {lo:Int} {n:Nat} {tt:TT} {te:TE} {fin:Addr→Hp→Prop} {σ0:St} {H1:Hp} {K:PySem.W.Frag} {a:Addr}
theorem ku {n i:Nat} (b:Nat→Bool) (h:i < n) (hn:n≤900):((List.range i).filter b).length≤900:=by
 have:=List.length_filter_le b (List.range i)
 rw [List.length_range] at this
 omega
theorem kb (b:Nat→Bool) (f:Nat→V) (hn:n≤900)
  (ht:∀ i H R,i < n→Same H1 H→(∀ H',Same H H'→R (b i) H')→tt (σ0.set k (some (.int (lo+i)))) H R)
  (he:∀ i H Q,i < n→b i=true→Same H1 H→(∀ H',Same H H'→Q (f i) H')→te (σ0.set k (some (.int (lo+i)))) H Q)
  (hd:∀ l H,H1 l=none→Same H1 H→H l=some (.lst (((List.range n).filter b).map f))→fin l H):
  CompR (Itr lo n) (gName k) tt te fin σ0 H1:=by
 refine k9 (fun l i σ H=>(σ=σ0∨∃ cv,σ=σ0.set k cv)∧Same H1 H∧H l=some (.lst (((List.range i).filter b).map f))) (fun l hl=>⟨.inl rfl,(Same.refl H1).laid hl,by rw [ad]; rfl⟩) ?_ (fun l σ H hl p=>hd l H hl p.2.1 p.2.2)
 rintro l i σ H hl hi ⟨hσ,s1,el⟩
 rw [bV]
 have e:σ.set k (some (.int (lo+i)))=σ0.set k (some (.int (lo+i))):=by
  rcases hσ with rfl | ⟨cv,rfl⟩
  · rfl
  · exact List.set_set ..
 rw [e]
 refine ht i H _ hi s1 fun H2 s2=>?_
 have el2:=s2 _ _ el
 cases hb:b i with
 | false=>
  rw [if_neg Bool.false_ne_true]
  refine ⟨.inr ⟨_,rfl⟩,s1.trans s2,?_⟩
  rw [List.range_succ,List.filter_append,List.filter_cons,hb]
  simpa using el2
 | true=>
  rw [if_pos rfl]
  refine he i H2 _ hi hb (s1.trans s2) fun H3 s3=>⟨_,s3 _ _ el2,by rw [List.length_map]; exact aR (Nat.le_trans (ku b hi hn) (by decide)),.inr ⟨_,rfl⟩,((s1.trans s2).trans s3).own hl,?_⟩
  rw [ad,List.range_succ,List.filter_append,List.filter_cons,hb]
  simp
theorem fO {xs:List V} (b:Nat→Bool) (f:Nat→V) (hn:xs.length≤900) (hq:SqL K H1 a xs)
  (ht:∀ i x H R,xs[i]? =some x→Same H1 H→(∀ H',Same H H'→R (b i) H')→tt (σ0.set k (some x)) H R)
  (he:∀ i x H Q,xs[i]? =some x→b i=true→Same H1 H→(∀ H',Same H H'→Q (f i) H')→te (σ0.set k (some x)) H Q)
  (hd:∀ l H,H1 l=none→Same H1 H→H l=some (.lst (((List.range xs.length).filter b).map f))→fin l H):
  CompR (Itl K a) (gName k) tt te fin σ0 H1:=by
 refine iR (xs:=xs) (fun l i σ H=>(σ=σ0∨∃ cv,σ=σ0.set k cv)∧Same H1 H∧H l=some (.lst (((List.range i).filter b).map f))) (fun l hl=>⟨.inl rfl,(Same.refl H1).laid hl,by rw [ad]; rfl⟩) (fun l i σ H _ _ p=>p.2.1.seq hq) ?_ (fun l σ H hl p=>hd l H hl p.2.1 p.2.2)
 rintro l i x σ H hl hx ⟨hσ,s1,el⟩
 have hi:i < xs.length:=(List.getElem?_eq_some_iff.mp hx).1
 rw [bV]
 have e:σ.set k (some x)=σ0.set k (some x):=by
  rcases hσ with rfl | ⟨cv,rfl⟩
  · rfl
  · exact List.set_set ..
 rw [e]
 refine ht i x H _ hx s1 fun H2 s2=>?_
 have el2:=s2 _ _ el
 cases hb:b i with
 | false=>
  rw [if_neg Bool.false_ne_true]
  refine ⟨.inr ⟨_,rfl⟩,s1.trans s2,?_⟩
  rw [List.range_succ,List.filter_append,List.filter_cons,hb]
  simpa using el2
 | true=>
  rw [if_pos rfl]
  refine he i x H2 _ hx hb (s1.trans s2) fun H3 s3=>⟨_,s3 _ _ el2,by rw [List.length_map]; exact aR (Nat.le_trans (ku b hi hn) (by decide)),.inr ⟨_,rfl⟩,((s1.trans s2).trans s3).own hl,?_⟩
  rw [ad,List.range_succ,List.filter_append,List.filter_cons,hb]
  simp
theorem pF (b:Nat→Bool) (f:Nat→Int) (hn:n≤900)
  (ht:∀ i H R,i < n→Same H1 H→(∀ H',Same H H'→R (b i) H')→tt (σ0.set k (some (.int (lo+i)))) H R)
  (he:∀ i H Q,i < n→b i=true→Same H1 H→(∀ H',Same H H'→Q (.int (f i)) H')→te (σ0.set k (some (.int (lo+i)))) H Q)
  (hd:∀ l H,H1 l=none→Same H1 H→H l=some (.lst ((((List.range n).filter b).map f).map V.int))→fin l H):
  CompR (Itr lo n) (gName k) tt te fin σ0 H1:=
 kb b (fun i=>.int (f i)) hn ht he fun l H hl s1 el=>hd l H hl s1 (by rw [List.map_map]; exact el)
theorem rF (b:Int→Bool) (f:Int→Int) (xs:List Int):((List.range xs.length).filter fun i=>b (xs.getD i 0)).map (fun i=>V.int (f (xs.getD i 0)))=((xs.filter b).map f).map V.int:=by
 have e:xs=(List.range xs.length).map fun i=>xs.getD i 0:=by
  refine List.ext_getElem? fun i=>?_
  rw [List.getElem?_map]
  by_cases h:i < xs.length
  · rw [List.getElem?_range h,List.getElem?_eq_getElem h]
    simp [List.getD,h]
  · rw [List.getElem?_eq_none (by omega),List.getElem?_eq_none (by simpa using h)]; rfl
 conv=>rhs; rw [e]
 rw [List.filter_map,List.map_map,List.map_map]
 rfl
theorem fP {xs:List Int} (b:Int→Bool) (f:Int→Int) (hn:xs.length≤900) (hq:SqL K H1 a (xs.map V.int))
  (ht:∀ x H R,x∈xs→Same H1 H→(∀ H',Same H H'→R (b x) H')→tt (σ0.set k (some (.int x))) H R)
  (he:∀ x H Q,x∈xs→b x=true→Same H1 H→(∀ H',Same H H'→Q (.int (f x)) H')→te (σ0.set k (some (.int x))) H Q)
  (hd:∀ l H,H1 l=none→Same H1 H→H l=some (.lst (((xs.filter b).map f).map V.int))→fin l H):
  CompR (Itl K a) (gName k) tt te fin σ0 H1:=by
 refine fO (xs:=xs.map V.int) (fun i=>b (xs.getD i 0)) (fun i=>.int (f (xs.getD i 0))) (by rw [List.length_map]; exact hn) hq ?_ ?_ ?_
 · intro i x H R hx s1 h
   obtain ⟨z,hz,rfl⟩:=fq hx
   rw [jI hz] at h
   exact ht z H R (List.mem_of_getElem? hz) s1 h
 · intro i x H Q hx hb s1 h
   obtain ⟨z,hz,rfl⟩:=fq hx
   rw [jI hz] at h hb
   exact he z H Q (List.mem_of_getElem? hz) hb s1 h
 · intro l H hl s1 el
   refine hd l H hl s1 ?_
   rw [List.length_map] at el
   rw [el,rF]
end
theorem mq:∀ {ds:List PyData},(∀ d∈ds,PyData.canLay0 d=true)→PyData.canLayAll0 ds=true
 | [],_=>rfl
 | d::r,h=>by rw [PyData.canLayAll0,h d List.mem_cons_self,mq fun e he=>h e (List.mem_cons_of_mem _ he)]; rfl
theorem iS {n:Nat}:∀ {ds:List PyData},(∀ d∈ds,PyData.depth d≤n)→PyData.depthAll ds≤n
 | [],_=>Nat.zero_le _
 | d::r,h=>by rw [PyData.depthAll]; exact Nat.max_le.mpr ⟨h d List.mem_cons_self,iS fun e he=>h e (List.mem_cons_of_mem _ he)⟩
theorem jJ {α:Type} [DecidableEq α] (g:α→PyData) (hg:∀ a b,PyData.eqv (g a) (g b)=decide (a=b)):∀ xs ys:List α,PyData.eqvAll (xs.map g) (ys.map g)=decide (xs=ys)
 | [],[]=>rfl
 | [],_::_=>rfl
 | _::_,[]=>rfl
 | x::xs,y::ys=>by
  rw [List.map_cons,List.map_cons,PyData.eqvAll,hg,jJ g hg xs ys,Bool.eq_iff_iff]
  simp
def lawAt (ns:List Int) (k:Int):Int:=
 if k < (ns.length:Int) then ns.getD k.toNat 0 else
  (if 0 < (ns.length:Int) then 7*k+3+ns.getD (k % ns.length).toNat 0 % 1000003*(k+1) else 7*k+3)*(if 0 < (ns.length:Int) then 7*k+3+ns.getD (k % ns.length).toNat 0 % 1000003*(k+1) else 7*k+3) % 999979+
  (if 0 < (ns.length:Int) then 7*k+3+ns.getD (k % ns.length).toNat 0 % 1000003*(k+1) else 7*k+3) % 101
def aH (K:PySem.W.Frag):Sp:=fun vs H Q _=>∃ (a:Addr) (ns:List Int) (k:Int),vs=[.ref a,.int k]∧SqL K H a (ns.map V.int)∧ns.length≤63∧0≤k∧k≤1000∧Q (.int (lawAt ns k)) H
theorem qr {K:PySem.W.Frag} {vs:List V} {H:Hp} {Q:VK} {E:XK} (h:aH K vs H Q E):vs.length=2:=by
 obtain ⟨_,_,_,rfl,_⟩:=h; rfl
def fQ (K:PySem.W.Frag):TS:=
 (tSeq (tIfS (tTest (tOp (cCmp fun i j=>decide (i < j)) (tVar 1) (tCB (kLenS K) (tCons (tVar 0) tNil)))) (tRet (tOp (rIxL K) (tVar 0) (tVar 1))) tNext)
  (tSeq (tAsg (tOp cAdd (tOp cMul (tC (.int 7)) (tVar 1)) (tC (.int 3))) (gName 2))
  (tSeq (tIfS (tTest (tOp (cCmp fun i j=>decide (j < i)) (tCB (kLenS K) (tCons (tVar 0) tNil)) (tC (.int 0)))) (tAsg (tOp cAdd (tVar 2) (tOp cMul (tOp cMod (tOp (rIxL K) (tVar 0) (tOp cMod (tVar 1) (tCB (kLenS K) (tCons (tVar 0) tNil)))) (tC (.int 1000003))) (tOp cAdd (tVar 1) (tC (.int 1))))) (gName 2)) tNext)
  (tRet (tOp cAdd (tOp cMod (tOp cMul (tVar 2) (tVar 2)) (tC (.int 999979))) (tOp cMod (tVar 2) (tC (.int 101))))))))
theorem qt {K:PySem.W.Frag} {vs:List V} {H:Hp} {Q:VK} {E:XK} (h:aH K vs H Q E):fQ K { nx:=fun _ H'=>Q .non H',rt:=Q } (start ["_law_script","_law_k","_law_mixed"] vs) H:=by
 obtain ⟨a,ns,k,rfl,hS,hn,k0,k1,q⟩:=h
 show fQ K _ [some (.ref a),some (.int k),none] H
 unfold fQ
 rw [aF,aO]
 walk_at "w"
 refine ⟨a,_,rfl,.inl hS,?_⟩
 walk_at "w"
 rw [List.length_map]
 unfold lawAt at q
 by_cases hk:k < (ns.length:Int)
 · rw [if_pos hk] at q
   rw [if_pos (decide_eq_true hk)]
   exact ⟨a,_,k,_,rfl,rfl,hS,kt k0 hk,q⟩
 · rw [if_neg hk] at q
   rw [if_neg (by simpa using hk)]
   refine ⟨.inl (by omega),?_⟩
   rw [aO]
   walk_at "w"
   refine ⟨a,_,rfl,.inl hS,?_⟩
   walk_at "w"
   rw [List.length_map]
   by_cases hl:0 < (ns.length:Int)
   · simp only [if_pos hl] at q
     rw [if_pos (decide_eq_true hl)]
     refine ⟨a,_,rfl,.inl hS,?_⟩
     walk_at "w"
     rw [List.length_map]
     have m0:=Int.emod_nonneg k (Int.ne_of_gt hl)
     have m1:=Int.emod_lt_of_pos k hl
     refine ⟨hl,a,_,_,_,rfl,rfl,hS,kt m0 m1,?_⟩
     walk_at "w"
     generalize ns.getD (k % ns.length).toNat 0=z at q ⊢
     have z0:=Int.emod_nonneg z (by decide:(1000003:Int)≠0)
     have z1:=Int.emod_lt_of_pos z (by decide:(0:Int) < 1000003)
     have b0:0≤z % 1000003*(k+1):=Int.mul_nonneg z0 (by omega)
     have b1:z % 1000003*(k+1)≤1000003*1001:=Int.mul_le_mul (by omega) (by omega) (by omega) (by decide)
     refine ⟨by decide,.inl ⟨by omega,by omega⟩,?_⟩
     walk_at "w"
     generalize z % 1000003*(k+1)=y at*
     exact ⟨.inl ⟨by omega,by omega⟩,by decide,by decide,q⟩
   · simp only [if_neg hl] at q
     rw [if_neg (by simpa using hl)]
     walk_at "w"
     exact ⟨.inl ⟨by omega,by omega⟩,by decide,by decide,q⟩
structure FlOk (h w g:Int):Prop where
 h0:1≤h
 h1:h≤6
 w0:1≤w
 w1:w≤6
 m:h*w≤16
 g0:1≤g
 g1:g≤6
def lawH (ns:List Int):Int:=1+lawAt ns 0 % 6
def lawW (ns:List Int):Int:=1+lawAt ns 1 % (if 16 / lawH ns < 6 then 16 / lawH ns else 6)
def lawG (ns:List Int):Int:=1+lawAt ns 2 % 6
theorem lawFl (ns:List Int):FlOk (lawH ns) (lawW ns) (lawG ns):=by
 have a0:=Int.emod_nonneg (lawAt ns 0) (by decide:(6:Int)≠0)
 have a1:=Int.emod_lt_of_pos (lawAt ns 0) (by decide:(0:Int) < 6)
 have c0:=Int.emod_nonneg (lawAt ns 2) (by decide:(6:Int)≠0)
 have c1:=Int.emod_lt_of_pos (lawAt ns 2) (by decide:(0:Int) < 6)
 have hh:lawH ns=1∨lawH ns=2∨lawH ns=3∨lawH ns=4∨lawH ns=5∨lawH ns=6:=by unfold lawH; omega
 have g0:1≤lawG ns∧lawG ns≤6:=by unfold lawG; omega
 have key:∀ m:Int,1≤m→m≤6→lawH ns*m≤16→(if 16 / lawH ns < 6 then 16 / lawH ns else 6)=m→FlOk (lawH ns) (lawW ns) (lawG ns):=fun m m0 m1 m2 e=>by
  have b0:=Int.emod_nonneg (lawAt ns 1) (by omega:m≠0)
  have b1:=Int.emod_lt_of_pos (lawAt ns 1) (by omega:0 < m)
  have ew:lawW ns=1+lawAt ns 1 % m:=by unfold lawW; rw [e]
  refine ⟨by omega,by omega,by omega,by omega,?_,g0.1,g0.2⟩
  refine Int.le_trans (Int.mul_le_mul_of_nonneg_left (show lawW ns≤m by omega) (by omega)) m2
 rcases hh with e | e | e | e | e | e <;> rw [e] at key ⊢
 · exact key 6 (by decide) (by decide) (by decide) rfl
 · exact key 6 (by decide) (by decide) (by decide) rfl
 · exact key 5 (by decide) (by decide) (by decide) rfl
 · exact key 4 (by decide) (by decide) (by decide) rfl
 · exact key 3 (by decide) (by decide) (by decide) rfl
 · exact key 2 (by decide) (by decide) (by decide) rfl
theorem lawM (ns:List Int):0 < (if 16 / lawH ns < 6 then 16 / lawH ns else (6:Int)):=by
 have a0:=Int.emod_nonneg (lawAt ns 0) (by decide:(6:Int)≠0)
 have a1:=Int.emod_lt_of_pos (lawAt ns 0) (by decide:(0:Int) < 6)
 have hh:lawH ns=1∨lawH ns=2∨lawH ns=3∨lawH ns=4∨lawH ns=5∨lawH ns=6:=by unfold lawH; omega
 rcases hh with e | e | e | e | e | e <;> rw [e] <;> decide
def bW (K:PySem.W.Frag):Sp:=fun vs H Q _=>∃ (a:Addr) (ns:List Int),vs=[.ref a]∧SqL K H a (ns.map V.int)∧ns.length≤63∧∀ p,H p=none→Q (.ref p) (upd H p (.tup [.int (lawH ns),.int (lawW ns),.int (lawG ns)]))
theorem nl {K:PySem.W.Frag} {vs:List V} {H:Hp} {Q:VK} {E:XK} (h:bW K vs H Q E):vs.length=1:=by
 obtain ⟨_,_,rfl,_⟩:=h; rfl
def dy (K:PySem.W.Frag):TS:=
 (tSeq (tAsg (tOp cAdd (tC (.int 1)) (tOp cMod (tCall (aH K) [] E0 (tCons (tVar 0) (tCons (tC (.int 0)) tNil))) (tC (.int 6)))) (gName 1))
  (tSeq (tAsg (tOp cAdd (tC (.int 1)) (tOp cMod (tCall (aH K) [] E0 (tCons (tVar 0) (tCons (tC (.int 1)) tNil))) (tCB kMin (tCons (tC (.int 6)) (tCons (tOp cDiv (tC (.int 16)) (tVar 1)) tNil))))) (gName 2))
  (tRet (tTup (tCons (tVar 1) (tCons (tVar 2) (tCons (tOp cAdd (tC (.int 1)) (tOp cMod (tCall (aH K) [] E0 (tCons (tVar 0) (tCons (tC (.int 2)) tNil))) (tC (.int 6)))) tNil)))))))
theorem nn {K:PySem.W.Frag} {vs:List V} {H:Hp} {Q:VK} {E:XK} (h:bW K vs H Q E):dy K { nx:=fun _ H'=>Q .non H',rt:=Q } (start ["_law_script","_law_high","_law_wide"] vs) H:=by
 obtain ⟨a,ns,rfl,hS,hn,q⟩:=h
 have F:=lawFl ns
 have:=F.h0
 have:=F.h1
 show dy K _ [some (.ref a),none,none] H
 unfold dy
 walk_at "w"
 refine ⟨a,ns,0,rfl,hS,hn,by decide,by decide,?_⟩
 walk_at "w"
 refine ⟨by decide,?_⟩
 walk_at "w"
 refine ⟨a,ns,1,rfl,hS,hn,by decide,by decide,?_⟩
 walk_at "w"
 have hH:1+lawAt ns 0 % 6=lawH ns:=rfl
 rw [hH]
 refine ⟨⟨by omega,by omega⟩,lawM ns,?_⟩
 walk_at "w"
 refine ⟨a,ns,2,rfl,hS,hn,by decide,by decide,?_⟩
 walk_at "w"
 exact ⟨by decide,am (by show (3:Nat)≤1000; decide),q⟩
section
variable {K:PySem.W.Frag} {H:Hp} {Q:VK}
theorem uR {p:Addr} {xs:List V} (hp:H p=some (.lst xs)) (h:Q (.bl true) H):kIsi [.ref p,.ty "list"] H Q:=by
 refine ⟨by decide,ce (a:="list") (by unfold fz; dsimp only; rw [hp]) ?_⟩
 rw [show isTy "list" "list"=true by decide]
 exact h
theorem uS {p:Addr} {xs:List V} (hp:H p=some (.tup xs)) (h:Q (.bl true) H):kIsi [.ref p,.ty "tuple"] H Q:=by
 refine ⟨by decide,ce (a:="tuple") (by unfold fz; dsimp only; rw [hp]) ?_⟩
 rw [show isTy "tuple" "tuple"=true by decide]
 exact h
end
end L2
namespace L2
open PySem PySem.Builtin PySem.Builtin.Str
def tx (l:List Nat):Str:=⟨l.toArray⟩
theorem iT (l:List Nat):(tx l).cps.toList=l:=by simp [tx]
theorem vq (x:Str):tx x.cps.toList=x:=by cases x; simp [tx]
theorem rG {a b:List Nat} (h:tx a=tx b):a=b:=by rw [← iT a,h,iT]
theorem bR (l:List Nat):(tx l).length=l.length:=by simp [tx,Str.length]
theorem iU (a b:List Nat):tx a++tx b=tx (a++b):=by
 refine Str.ext' ?_
 rw [Str.cps_append]
 simp [tx]
theorem lc (a b:List Nat):decide (tx a=tx b)=decide (a=b):=by
 by_cases h:a=b
 · subst h; simp
 · have:¬ tx a=tx b:=fun e=>h (rG e)
   rw [decide_eq_false h,decide_eq_false this]
def catL (c:Nat):List (List Nat)→List Nat
 | []=>[]
 | [x]=>x
 | x::y::r=>x++c::catL c (y::r)
theorem jK (c:Nat):∀ ts:List (List Nat),Str.join (tx [c]) (ts.map tx)=tx (catL c ts)
 | []=>rfl
 | [x]=>rfl
 | x::y::r=>by
  show tx x++tx [c]++Str.join (tx [c]) ((y::r).map tx)=_
  rw [jK c (y::r),iU,iU]
  show tx _=tx (x++c::catL c (y::r))
  rw [List.append_assoc]; rfl
theorem oN (sep:Str) (ts:List Str):Txt.join sep ts=Str.join sep ts:=StrLaws.glued_eq_join sep ts
theorem pV {c:Nat}:∀ {a b x y:List Nat},c∉a→c∉b→a++c::x=b++c::y→a=b∧x=y
 | [],[],_,_,_,_,h=>⟨rfl,by simpa using h⟩
 | [],b::bs,_,_,_,hb,h=>by
  simp at h
  exact absurd (List.mem_cons.mpr (.inl h.1)) hb
 | a::as,[],_,_,ha,_,h=>by
  simp at h
  exact absurd (List.mem_cons.mpr (.inl h.1.symm)) ha
 | a::as,b::bs,x,y,ha,hb,h=>by
  simp at h
  have:=pV (fun z=>ha (List.mem_cons_of_mem _ z)) (fun z=>hb (List.mem_cons_of_mem _ z)) h.2
  exact ⟨by rw [h.1,this.1],this.2⟩
theorem oO {c:Nat}:∀ {x:List Nat} {r:List (List Nat)} {y:List Nat},c∈catL c (x::y::r):=by
 intro x r y
 show c∈x++c::_
 simp
theorem oP {c:Nat}:∀ {xs ys:List (List Nat)},xs≠[]→ys≠[]→(∀ x∈xs,c∉x)→(∀ y∈ys,c∉y)→catL c xs=catL c ys→xs=ys
 | [],_,h,_,_,_,_=>absurd rfl h
 | _,[],_,h,_,_,_=>absurd rfl h
 | [x],[y],_,_,_,_,h=>by
  have h':x=y:=h
  rw [h']
 | [x],y::z::r,_,_,hx,_,h=>by
  have h':x=catL c (y::z::r):=h
  exact absurd (h' ▸ oO) (hx x List.mem_cons_self)
 | x::z::r,[y],_,_,_,hy,h=>by
  have h':catL c (x::z::r)=y:=h
  exact absurd (h' ▸ oO) (hy y List.mem_cons_self)
 | x::z::r,y::u::s,_,_,hx,hy,h=>by
  obtain ⟨e1,e2⟩:=pV (hx x List.mem_cons_self) (hy y List.mem_cons_self) (show x++c::catL c (z::r)=y++c::catL c (u::s) from h)
  rw [e1,oP (by simp) (by simp) (fun w hw=>hx w (List.mem_cons_of_mem _ hw)) (fun w hw=>hy w (List.mem_cons_of_mem _ hw)) e2]
theorem sD (x y:Str):Txt.split x y≠[]:=by
 intro h
 unfold Txt.split at h
 split at h
 · cases h
 · split at h
   · cases h
   · rw [StrLaws.partsBetween_eq] at h
     obtain ⟨p,r,e⟩:=StrLaws.partsFrom_ne x y.length 0 (occurrences x y 0 x.length (x.length+1))
     rw [e] at h; cases h
theorem sF {c:Nat} {rows:List (List Nat)} (hne:rows≠[]) (hf:∀ r∈rows,c∉r):Txt.split (tx (catL c rows)) (tx [c])=rows.map tx:=by
 have h1:=StrLaws.join_split (tx (catL c rows)) (tx [c])
 have h2:∀ p∈Txt.split (tx (catL c rows)) (tx [c]),c∉p.cps.toList:=StrLaws.split_free _ c
 have h3:=sD (tx (catL c rows)) (tx [c])
 generalize Txt.split (tx (catL c rows)) (tx [c])=S at*
 have e:S=(S.map (·.cps.toList)).map tx:=by
  rw [List.map_map]
  conv=>lhs; rw [← List.map_id S]
  exact List.map_congr_left fun x _=>(vq x).symm
 rw [e,jK] at h1
 have h4:=rG h1
 have h5:=oP (c:=c) (xs:=S.map (·.cps.toList)) (ys:=rows) (by simpa using h3) hne (fun x hx=>by obtain ⟨p,hp,rfl⟩:=List.mem_map.mp hx; exact h2 p hp) hf h4
 rw [e,h5]
end L2
namespace L2
end L2
namespace L2
open PySem PySem.Spec PyProof.Rows
local macro_rules | `(tactic| walk_at "w")=>`(tactic| (first | simp only [aF,aX,jn,bV,il,w_c,km,im,gS,gU,gh,w_b,w_not,jo,ma,gW,gX,jp,jq,gY,md,gZ,jr,js,me,jt,gi,g5,g6,g7,fW,fX,eN,eP,eQ,dO,ju,jv,jw,jx,jy,jz,jA,jB,jC,jD,jE,jF,mh,g8,eW,g9,mi,hJ,fY,eY,jG,jH,hV,gj,hZ,
 List.getElem?_cons_zero,List.getElem?_cons_succ,Option.some.injEq,exists_eq_left',exists_eq_left,List.set_cons_zero,List.set_cons_succ,dG,V.int.injEq,V.bl.injEq,V.ref.injEq,V.str.injEq,List.append_nil,List.nil_append,List.cons_append] | dsimp only | skip))
section
variable {k:Nat} {tt:TT} {te:TE} {fin:Addr→Hp→Prop} {σ0:St} {H1:Hp}
theorem rH {cs:List Nat} (b:Nat→Bool) (f:Nat→V) (hn:cs.length≤900)
  (ht:∀ i c H R,cs[i]? =some c→Same H1 H→(∀ H',Same H H'→R (b i) H')→tt (σ0.set k (some (.str (tx [c])))) H R)
  (he:∀ i c H Q,cs[i]? =some c→b i=true→Same H1 H→(∀ H',Same H H'→Q (f i) H')→te (σ0.set k (some (.str (tx [c])))) H Q)
  (hd:∀ l H,H1 l=none→Same H1 H→H l=some (.lst (((List.range cs.length).filter b).map f))→fin l H):
  CompR (Its (tx cs)) (gName k) tt te fin σ0 H1:=by
 intro l hl
 have hsz:(tx cs).cps.size=cs.length:=by simp [tx]
 refine ⟨fun i m σ H=>m=cs.length - i∧i≤cs.length∧(σ=σ0∨∃ cv,σ=σ0.set k cv)∧Same H1 H∧H l=some (.lst (((List.range i).filter b).map f)),⟨cs.length,by simp,Nat.zero_le _,.inl rfl,(Same.refl H1).laid hl,by rw [ad]; rfl⟩,?_⟩
 rintro i m σ H ⟨rfl,hi,hσ,s1,el⟩
 by_cases hlt:i < cs.length
 · refine .inr ⟨by show i < (tx cs).cps.size; rw [hsz]; exact hlt,fun σ H=>(σ=σ0∨∃ cv,σ=σ0.set k cv)∧Same H1 H∧H l=some (.lst (((List.range (i+1)).filter b).map f)),fun σ' H' p'=>⟨cs.length - (i+1),by omega,rfl,hlt,p'⟩,?_⟩
   rintro x H' ⟨rfl,c,hc,rfl⟩
   have hc':cs[i]? =some c:=by simpa [tx] using hc
   show gName k (.str (tx [c])) σ H' _
   rw [bV]
   have e:σ.set k (some (.str (tx [c])))=σ0.set k (some (.str (tx [c]))):=by
    rcases hσ with rfl | ⟨cv,rfl⟩
    · rfl
    · exact List.set_set ..
   rw [e]
   refine ht i c H' _ hc' s1 fun H2 s2=>?_
   have el2:=s2 _ _ el
   cases hb:b i with
   | false=>
    rw [if_neg Bool.false_ne_true]
    refine ⟨.inr ⟨_,rfl⟩,s1.trans s2,?_⟩
    rw [List.range_succ,List.filter_append,List.filter_cons,hb]
    simpa using el2
   | true=>
    rw [if_pos rfl]
    refine he i c H2 _ hc' hb (s1.trans s2) fun H3 s3=>⟨_,s3 _ _ el2,by rw [List.length_map]; exact aR (Nat.le_trans (ku b hlt hn) (by decide)),.inr ⟨_,rfl⟩,((s1.trans s2).trans s3).own hl,?_⟩
    rw [ad,List.range_succ,List.filter_append,List.filter_cons,hb]
    simp
 · have e:i=cs.length:=by omega
   subst e
   exact .inl ⟨by show (tx cs).cps.size≤_; rw [hsz]; exact Nat.le_refl _,hd l H hl s1 el⟩
end
theorem nr {α:Type} (xs:List Int) (g:Int→α):(List.range xs.length).map (fun i=>g (xs.getD i 0))=xs.map g:=by
 have e:xs=(List.range xs.length).map fun i=>xs.getD i 0:=by
  refine List.ext_getElem? fun i=>?_
  rw [List.getElem?_map]
  by_cases h:i < xs.length
  · rw [List.getElem?_range h,List.getElem?_eq_getElem h]
    simp [List.getD,h]
  · rw [List.getElem?_eq_none (by omega),List.getElem?_eq_none (by simpa using h)]; rfl
 conv=>rhs; rw [e]
 rw [List.map_map]
 rfl
theorem iV {sep:Str} {ts:List Str} (h1:ts.length≤1000) (h2:∀ t∈ts,t.length≤1000) (h3:sep.length≤10):JoinOk sep ts=true:=by
 unfold JoinOk
 rw [Bool.not_eq_true']
 refine StrLaws.joinFits (B:=1000) h2 ?_
 have a1:ts.length*1000≤1000*1000:=Nat.mul_le_mul_right _ h1
 have a2:ts.length*sep.length≤1000*10:=Nat.mul_le_mul h1 h3
 omega
end L2
namespace L2
open PySem PySem.Spec PyProof.Rows
abbrev rIsN:R2:=fun x y H Q=>y=.non∧Q (.bl (decide (x=.non))) H
abbrev rNotN:R2:=fun x y H Q=>y=.non∧Q (.bl (!decide (x=.non))) H
def kStr:List V→Hp→VK→Prop
 | [.int i],H,Q=>i.natAbs.log2 < 1920∧Q (.str (Str.ofString (toString i))) H
 | _,_,_=>False
section
variable {X:Cx}
theorem cK:CallR X (.type "str") kStr:=by
 intro pins s σ H xs us Q I r h
 unfold kStr at h
 split at h
 · obtain ⟨hi,q⟩:=h
   cases r with
   | cons r0 rr=>
    cases rr
    obtain ⟨t,rfl⟩:=r0
    exact PySem.P.str_of_int hi ⟨.str _,H,I.tok _,⟨_,rfl⟩,q⟩
 · exact h.elim
end
section
variable {K:PySem.W.Frag} {H:Hp} {Q:VK}
theorem qu {x:V}:rIsN x .non H Q=Q (.bl (decide (x=.non))) H:=by simp [rIsN]
theorem oQ {x:V}:rNotN x .non H Q=Q (.bl (!decide (x=.non))) H:=by simp [rNotN]
theorem qv {i:Int}:kStr [.int i] H Q=(i.natAbs.log2 < 1920∧Q (.str (Str.ofString (toString i))) H):=rfl
end
end L2
namespace L2
open PySem PySem.Spec PyProof.Rows
structure Bt2 (mg:Str→Option Value):Prop extends Bt mg where
 all_:mg "all"=none
 sum_:mg "sum"=none
 enumerate_:mg "enumerate"=none
section
variable {K:PySem.W.Frag} {H:Hp} {Q:VK} {D:Ends} {σ:St} {g:TG} {tb:TS} {ta:TA} {ix:List (Option Nat)} {tt:TT} {te tf:TE} {k:Nat}
theorem qw:tIf tt te tf σ H Q=tt σ H fun c H1=>if c=true then te σ H1 Q else tf σ H1 Q:=rfl
theorem kx:tComp ix (kT ta) g tt te σ H Q=ta σ H fun vs H1=>∃ i j:Int,vs=[.int i,.int j]∧(-(2^62)≤i∧i < 2^62∧ -(2^62)≤j∧j < 2^62)∧CompR (Itr i (j - i).toNat) g tt te (fun l H'=>Q (.ref l) H') (subσ ix σ) H1:=rfl
theorem iW:sComp k ix (kT ta) g tt te D σ H=ta σ H fun vs H1=>∃ i j:Int,vs=[.int i,.int j]∧(-(2^62)≤i∧i < 2^62∧ -(2^62)≤j∧j < 2^62)∧CompR (Itr i (j - i).toNat) g tt te (fun l H'=>D.nx (σ.set k (some (.ref l))) H') (subσ ix σ) H1:=rfl
theorem isiE {x:V} {n t:String} {b:Bool} (hx:fz H x=some t) (hn:jm n=true) (hb:isTy t n=b):kIsi [x,.ty n] H Q=Q (.bl b) H:=by
 subst hb
 show (jm n=true∧bnd (fz H x) fun t=>Q (.bl (isTy t n)) H)=_
 rw [hx]
 simp only [hn,true_and,dG]
theorem ky {i:Int}:kIsi [.int i,.ty "int"] H Q=Q (.bl true) H:=isiE (t:="int") rfl (by decide) (by decide)
theorem kz {i:Int}:kIsi [.int i,.ty "bool"] H Q=Q (.bl false) H:=isiE (t:="int") rfl (by decide) (by decide)
theorem kA {i:Int}:kIsi [.int i,.ty "str"] H Q=Q (.bl false) H:=isiE (t:="int") rfl (by decide) (by decide)
theorem kB {i:Bool}:kIsi [.bl i,.ty "bool"] H Q=Q (.bl true) H:=isiE (t:="bool") rfl (by decide) (by decide)
theorem kC {i:Bool}:kIsi [.bl i,.ty "int"] H Q=Q (.bl true) H:=isiE (t:="bool") rfl (by decide) (by decide)
theorem kD {i:Str}:kIsi [.str i,.ty "str"] H Q=Q (.bl true) H:=isiE (t:="str") rfl (by decide) (by decide)
theorem kE {i:Bool}:kIsi [.bl i,.ty "str"] H Q=Q (.bl false) H:=isiE (t:="bool") rfl (by decide) (by decide)
theorem oR {A B:Prop}:(if true=true then A else B)=A:=if_pos rfl
theorem oS {A B:Prop}:(if false=true then A else B)=B:=if_neg Bool.false_ne_true
theorem oU {i:Int}:rU (fun i=>.int (-i)) (.int i) H Q=Q (.int (-i)) H:=by
 refine propext ⟨?_,fun h=>⟨i,rfl,h⟩⟩
 rintro ⟨j,e,h⟩
 cases e
 exact h
theorem ixT {p:Addr} {i:Int} {xs:List V} {v:V} (h:H p=some (.tup xs)) (e:atI xs i=some v) (q:Q v H):cIx (.ref p) (.int i) H Q:=by
 rw [sy h]; exact ce e q
theorem ixL {p:Addr} {i:Int} {xs:List V} {v:V} (h:H p=some (.lst xs)) (e:atI xs i=some v) (q:Q v H):cIx (.ref p) (.int i) H Q:=by
 rw [vn h]; exact ce e q
theorem ixI {p:Addr} {i:Int} {ns:List Int} (h:H p=some (.lst (ns.map V.int))) (h0:0≤i) (h1:i < ns.length) (q:Q (.int (ns.getD i.toNat 0)) H):cIx (.ref p) (.int i) H Q:=ixL h (kt h0 h1) q
end
theorem DVs.bls {K:PySem.W.Frag} {H:Hp}:∀ ns:List Bool,DVs K H (ns.map V.bl) (ns.map PyData.bool)
 | []=>.nil
 | n::r=>.cons (.bl n) (DVs.bls r)
theorem rJ (a b:Bool):PyData.eqv (.bool a) (.bool b)=decide (a=b):=by cases a <;> cases b <;> rfl
theorem tO (xs ys:List Bool):PyData.eqvAll (xs.map PyData.bool) (ys.map PyData.bool)=decide (xs=ys):=jJ PyData.bool rJ xs ys
theorem le (ns:List Bool):SeqAt.shaped (.list (ns.map PyData.bool))=true:=by
 have h1:PyData.canLayAll0 (ns.map PyData.bool)=true:=mq fun d hd=>by obtain ⟨x,_,rfl⟩:=List.mem_map.mp hd; rfl
 have h2:PyData.depthAll (ns.map PyData.bool)≤0:=iS fun d hd=>by obtain ⟨x,_,rfl⟩:=List.mem_map.mp hd; exact Nat.le_refl _
 simp [SeqAt.shaped,PyData.canLay0,h1,PyData.depth]
 omega
section
variable {K:PySem.W.Frag} {H:Hp} {Q:VK}
theorem rK {p q:Addr} {xs ys:List Bool} (hp:H p=some (.lst (xs.map V.bl))) (hq:H q=some (.lst (ys.map V.bl))) (h:Q (.bl (!decide (xs=ys))) H):cNe K (.ref p) (.ref q) H Q:=by
 show rNeD K (.ref p) (.ref q) H Q
 refine ⟨.list (xs.map PyData.bool),.list (ys.map PyData.bool),.lst (SqL.of hp) (.bls xs),.lst (SqL.of hq) (.bls ys),le xs,le ys,?_⟩
 rw [PyData.eqv,tO]
 exact h
end
end L2
namespace L2
open PySem PySem.Spec PyProof.Rows
theorem ObjOk.ob {P:Program} {w:World} {H:Hp} {h:Heap} {a:Addr} {o:HO} (x:ObjOk P w H h a o):∃ u,h.get? a=some u:=by
 cases o with
 | lst xs=>obtain ⟨_,_,_,_,e⟩:=x; exact ⟨_,e⟩
 | tup xs=>obtain ⟨_,_,_,ob,e,_⟩:=x; exact ⟨_,e⟩
 | dK kvs=>obtain ⟨_,_,_,_,o,_,_,e,_⟩:=x; exact ⟨_,e⟩
 | dT kvs=>obtain ⟨_,_,_,_,o,_,_,e,_⟩:=x; exact ⟨_,e⟩
 | set S n=>obtain ⟨o,_,_,_,e,_⟩:=x; exact ⟨_,e⟩
 | ins C dx fs=>obtain ⟨_,_,_,e,_⟩:=x; exact ⟨_,e⟩
 | own y=>exact x
 | xd fs=>obtain ⟨_,⟨_,_,_,e,_⟩,_⟩:=x; exact ⟨_,e⟩
 | rng lo hi=>obtain ⟨_,_,_,e⟩:=x; exact ⟨_,e⟩
 | frz ob u=>obtain ⟨e,_⟩:=x; exact ⟨_,e⟩
 | tbl ps=>exact ⟨_,(show h.get? a=some _ from x)⟩
 | met f y=>exact ⟨_,(show h.get? a=some _ from x)⟩
 | ext φ=>obtain ⟨_,e,_⟩:=x; exact e
def Tr (h:Heap) (x T C:Addr) (fl:Value):Prop:=∃ oe vs oT ts a0,h.get? x=some oe∧oe.cls=.ref C∧vs[0]? =some a0∧oe.data=.fields vs∧vs[1]? =some (.ref T)∧T≠x∧h.get? T=some oT∧oT.data=.fields ts∧ts[3]? =some fl
structure Fly (P:Program) (w:World) (outer:List Env) (H:Hp) (s:Shared) (x T C:Addr) (H':Hp) (s':Shared):Prop where
 os:s'.os=s.os
 bare:AllBare s'.gens
 un:Un (frs outer) [] H H' s.heap s'.heap
 hok:HOk P w H' s'.heap
 fx:H' x=none
 fT:H' T=none
 nx:s.heap.get? x=none
 nT:s.heap.get? T=none
 tr:Tr s'.heap x T C .none
def CX1 (P:Program) (w:World):CXT:=fun outer H s E e s'=>∃ x T C H',e=.ref x∧Fly P w outer H s x T C H' s'∧E (.ref C) none H'
theorem oV {P:Program} {w:World} {env:Env} {outer:List Env} {base:Heap} {H₀ H H':Hp} {s₀ s sA:Shared} {x T' C L:Addr} {h':Heap} {ex:List Addr}
  (hos:sA.os=s₀.os) (hbare:AllBare sA.gens) (hL:env.frame=some L) (nL:s₀.heap.get? L=none)
  (U0:Un (frs outer) [] H₀ H s₀.heap s.heap) (fun0:s.heap.FunFrames base (env::outer)) (hfr:∀ b∈frs (env::outer),H b=none)
  (UA:Un (frs (env::outer)) [] H H' s.heap sA.heap) (okA:HOk P w H' sA.heap)
  (exn:∀ b∈ex,s.heap.get? b=none∧H' b=none)
  (keepAll:∀ b o,sA.heap.get? b=some o→b∉frs (env::outer)→b∉ex→h'.get? b=some o) (up:sA.heap.UpToSlots h')
  (nx:s.heap.get? x=none) (fx:H' x=none) (hT:∀ o,sA.heap.get? T'=some o→T'∈frs (env::outer)∨T'∈ex)
  (tr:Tr h' x T' C .none):Fly P w outer H₀ s₀ x T' C H' { sA with heap:=h' }:=by
 have frD:∀ b∈frs (env::outer),∃ o,s.heap.get? b=some o∧∀ vs,o.data≠.fields vs:=fun b hb=>(fun0.mem hb).2
 have frA:∀ b∈frs (env::outer),∃ o,sA.heap.get? b=some o∧∀ vs,o.data≠.fields vs:=fun b hb=>by
  obtain ⟨o,e,d⟩:=frD b hb
  obtain ⟨sl,e2⟩:=UA.slot b o e (hfr b hb) hb (by simp)
  exact ⟨_,e2,d⟩
 have frH:∀ b∈frs (env::outer),H' b=none:=fun b hb=>by
  obtain ⟨o,e,d⟩:=frD b hb
  exact UA.free b o e (hfr b hb) (by simp)
 have Tfr:T'∉frs (env::outer):=fun hb=>by
  obtain ⟨o,e,d⟩:=frA T' hb
  obtain ⟨sl,e2⟩:=up T' o e d
  obtain ⟨_,_,oT,ts,_,_,_,_,_,_,_,e3,d3,_⟩:=tr
  rw [e2] at e3
  cases e3
  exact d _ d3
 have sub:∀ b,b∈frs outer→b∈frs (env::outer):=fun b hb=>by
  unfold frs at hb ⊢
  rw [List.filterMap_cons,hL]
  exact List.mem_cons_of_mem _ hb
 have isL:∀ b,b∈frs (env::outer)→b=L∨b∈frs outer:=fun b hb=>by
  unfold frs at hb ⊢
  rw [List.filterMap_cons,hL] at hb
  exact List.mem_cons.mp hb
 have thereA:∀ b o,sA.heap.get? b=some o→b∉ex→∃ o',h'.get? b=some o':=fun b o e hx=>by
  by_cases hb:b∈frs (env::outer)
  · obtain ⟨o1,e1,d1⟩:=frA b hb
    rw [e] at e1; cases e1
    obtain ⟨sl,e2⟩:=up b o e d1
    exact ⟨_,e2⟩
  · exact ⟨o,keepAll b o e hb hx⟩
 have nex:∀ b o,s.heap.get? b=some o→b∉ex:=fun b o e hx=>by rw [(exn b hx).1] at e; cases e
 refine ⟨hos,hbare,⟨fun b o e n hb _=>?_,fun b o e n hb _=>?_,fun b o e n _=>?_,fun b o e _=>?_,fun b xs e=>UA.tups b xs (U0.tups b xs e),fun b o u e=>UA.frzs b o u (U0.frzs b o u e),fun b ps e=>?_⟩,?_,fx,?_,?_,?_,tr⟩
 · have e1:=U0.keep b o e n hb (by simp)
   have n1:=U0.free b o e n (by simp)
   have nb:b∉frs (env::outer):=fun z=>by
    rcases isL b z with z | z
    · rw [z,nL] at e; cases e
    · exact hb z
   exact keepAll b o (UA.keep b o e1 n1 nb (by simp)) nb (nex b o e1)
 · obtain ⟨sl,e1⟩:=U0.slot b o e n hb (by simp)
   have n1:=U0.free b o e n (by simp)
   obtain ⟨sl2,e2⟩:=UA.slot b _ e1 n1 (sub b hb) (by simp)
   obtain ⟨o3,e3,d3⟩:=frA b (sub b hb)
   rw [e2] at e3; cases e3
   obtain ⟨sl4,e4⟩:=up b _ e2 d3
   exact ⟨sl4,e4⟩
 · have n1:=U0.free b o e n (by simp)
   obtain ⟨o1,e1⟩:=U0.there b o e (by simp)
   exact UA.free b o1 e1 n1 (by simp)
 · obtain ⟨o1,e1⟩:=U0.there b o e (by simp)
   obtain ⟨o2,e2⟩:=UA.there b o1 e1 (by simp)
   exact thereA b o2 e2 (nex b o1 e1)
 · obtain ⟨m1,e1⟩:=U0.tbls b ps e
   obtain ⟨m2,e2⟩:=UA.tbls b _ e1
   exact ⟨m1++m2,by rw [e2,Array.append_assoc]⟩
 · intro a o e
   have key:∀ b,H' b≠none→b∉frs (env::outer)∧b∉ex:=fun b hb=>⟨fun z=>hb (frH b z),fun z=>hb (exn b z).2⟩
   refine (okA a o e).stay (fun b u hb q=>?_) (fun _ q=>q) fun _ _ q=>q
   have hb':H' b≠none:=by
    rcases hb with rfl | hb
    · rw [e]; simp
    · rw [hb]; simp
   exact keepAll b u q (key b hb').1 (key b hb').2
 · cases q:H' T' with
   | none=>rfl
   | some o=>
    obtain ⟨u,e⟩:=(okA T' o q).ob
    rcases hT u e with z | z
    · exact absurd z Tfr
    · rw [(exn T' z).2] at q; cases q
 · cases q:s₀.heap.get? x with
   | none=>rfl
   | some o=>
    obtain ⟨o1,e1⟩:=U0.there x o q (by simp)
    rw [nx] at e1; cases e1
 · cases q:s₀.heap.get? T' with
   | none=>rfl
   | some o=>
    obtain ⟨o1,e1⟩:=U0.there T' o q (by simp)
    obtain ⟨o2,e2⟩:=UA.there T' o1 e1 (by simp)
    rcases hT o2 e2 with z | z
    · exact absurd z Tfr
    · rw [(exn T' z).1] at e1; cases e1
theorem gk {h base:Heap} {as:List Addr}:∀ {l:List Env},h.FunFrames base l→(∀ b∈frs l,b∈as)→h.FunFrames (PySem.W.hideAll h as) l
 | [],_,_=>trivial
 | env::r,⟨hk,⟨L,o,hf,_,ho,hd⟩,hr⟩,hin=>⟨hk,⟨L,o,hf,PySem.W.hideAll_none as (hin L (by unfold frs; rw [List.filterMap_cons,hf]; exact List.mem_cons_self)),ho,hd⟩,gk hr fun b hb=>hin b (by
   unfold frs at hb ⊢; rw [List.filterMap_cons,hf]; exact List.mem_cons_of_mem _ hb)⟩
theorem jL {h h1 base:Heap} {H H':Hp} {fs:List Addr}:∀ {l:List Env},h.FunFrames base l→(∀ b∈frs l,b∈fs∧H b=none)→Un fs [] H H' h h1→h1.FunFrames base l
 | [],_,_,_=>trivial
 | env::r,⟨hk,⟨L,o,hf,hn,ho,hd⟩,hr⟩,hin,u=>by
  obtain ⟨h1,h2⟩:=hin L (by unfold frs; rw [List.filterMap_cons,hf]; exact List.mem_cons_self)
  obtain ⟨sl,e⟩:=u.slot L o ho h2 h1 (by simp)
  exact ⟨hk,⟨L,_,hf,hn,e,hd⟩,jL hr (fun b hb=>hin b (by unfold frs at hb ⊢; rw [List.filterMap_cons,hf]; exact List.mem_cons_of_mem _ hb)) u⟩
section
variable {P:Program} {w:World} {K:PySem.W.Frag} {mg:Str→Option Value} {base:Heap} {N:List Str} {qual:Str} {scope:Scope} {f:Addr} {cd:Value} {A:Around} {outer:List Env} {s₀:Shared} {H₀:Hp} {E:XK}
abbrev cx1 (P:Program) (w:World) (K:PySem.W.Frag) (mg:Str→Option Value) (base:Heap) (N:List Str) (qual:Str) (scope:Scope) (f:Addr) (cd:Value) (A:Around) (outer:List Env) (s:Shared) (H:Hp) (E:XK):Cx:=
 cxOf (CX1 P w) P w K mg base N qual scope f cd A outer s H E
theorem cD {E':XK} (himp:∀ c d H,E' c d H→E c d H):dt (CX1 P w) (cx1 P w K mg base N qual scope f cd A outer s₀ H₀ E) E':=by
 intro pins σ H s e s' I h
 obtain ⟨x,T,C,H',rfl,F,q⟩:=h
 obtain ⟨oe,vs,oT,ts,a0,he,hc,h0,hd,h1,hTx,hT,hdT,h3⟩:=F.tr
 have hstk:∀ b∈frs (envOfC qual scope s₀.heap.objs.size f cd::outer),H b=none:=I.stkFree
 have ff:s'.heap.FunFrames base (envOfC qual scope s₀.heap.objs.size f cd::outer):=jL I.stack (fun b hb=>⟨hb,hstk b hb⟩) F.un
 show wpAny (model P w) (A.deeper (envOfC qual scope s₀.heap.objs.size f cd)) (leaving (envOfC qual scope s₀.heap.objs.size f cd) (.ref x)) _ _ s'
 have hin:∀ b∈frs (envOfC qual scope s₀.heap.objs.size f cd::outer),b∈frs (envOfC qual scope s₀.heap.objs.size f cd::outer)++[x,T]:=fun b hb=>List.mem_append_left _ hb
 refine wpAny_leaves_onW (base:=PySem.W.hideAll s'.heap (frs (envOfC qual scope s₀.heap.objs.size f cd::outer)++[x,T])) (cls:=.ref C) (a0:=a0) (L:=s₀.heap.objs.size) I.ok.frames rfl
  ⟨fun b o e=>PySem.W.of_hideAll _ e,PySem.W.hideAll_none _ (by simp),gk ff hin,oe,vs,T,oT,ts,he,⟨hc,h0⟩,hd,h1,PySem.W.hideAll_none _ (by simp),hTx,hT,hdT,h3⟩ fun h' fl up=>?_
 obtain ⟨k1,k2,k3,oe',vs',T',oT',ts',a1,a2,a3,a4,a5,a6,a7,a8,a9⟩:=fl
 have keepAll:∀ b o,s'.heap.get? b=some o→b∉frs (envOfC qual scope s₀.heap.objs.size f cd::outer)→b∉[x,T]→h'.get? b=some o:=fun b o e hb hx=>k1 b o (PySem.W.hideAll_get _ e fun z=>(List.mem_append.mp z).elim hb hx)
 refine ⟨x,T',C,H',rfl,oV (env:=envOfC qual scope s₀.heap.objs.size f cd) (base:=base) (s:=s) (sA:=s') (L:=s₀.heap.objs.size) (ex:=[x,T]) (F.os.trans I.os) F.bare rfl (Heap.get?_none_of_le (Nat.le_refl _)) I.base I.stack hstk F.un F.hok (fun b hb=>?_) keepAll up F.nx F.fx (fun o e=>?_) ⟨oe',vs',oT',ts',a0,a1,a2.1,a2.2,a3,a4,a6,a7,a8,a9⟩,himp _ _ _ q⟩
 · simp only [List.mem_cons,List.not_mem_nil,or_false] at hb
   rcases hb with rfl | rfl
   · exact ⟨F.nx,F.fx⟩
   · exact ⟨F.nT,F.fT⟩
 · by_cases z:T'∈frs (envOfC qual scope s₀.heap.objs.size f cd::outer)++[x,T]
   · exact List.mem_append.mp z
   · rw [PySem.W.hideAll_get _ e z] at a5; cases a5
theorem sG {pins:List (Addr × Obj)} {σ:St} {H:Hp} {s:Shared} {h1:Heap} {x C:Addr} {args:List Value} (I:Inv (cx1 P w K mg base N qual scope f cd A outer s₀ H₀ E) pins σ H s) (hm:Heap.MadeExcOf s.heap h1 x (.ref C) args) (q:E (.ref C) none H):
  (cx1 P w K mg base N qual scope f cd A outer s₀ H₀ E).xe (.ref x) { s with heap:=h1 }:=by
 have hstk:∀ b∈frs (envOfC qual scope s₀.heap.objs.size f cd::outer),H b=none:=I.stkFree
 have ff:s.heap.FunFrames base (envOfC qual scope s₀.heap.objs.size f cd::outer):=I.stack
 show wpAny (model P w) (A.deeper (envOfC qual scope s₀.heap.objs.size f cd)) (leaving (envOfC qual scope s₀.heap.objs.size f cd) (.ref x)) _ _ { s with heap:=h1 }
 refine wpAny_leaves_madeW (s:={ s with heap:=h1 }) (base:=PySem.W.hideAll s.heap (frs (envOfC qual scope s₀.heap.objs.size f cd::outer))) (h:=s.heap) (L:=s₀.heap.objs.size) I.ok.frames rfl (fun b o e=>PySem.W.of_hideAll _ e) (gk ff fun b hb=>hb) hm fun h' t fl _ _ up=>?_
 obtain ⟨k1,k2,k3,oe',vs',T',oT',ts',a1,a2,a3,a4,a5,a6,a7,a8,a9⟩:=fl
 have keepAll:∀ b o,s.heap.get? b=some o→b∉frs (envOfC qual scope s₀.heap.objs.size f cd::outer)→b∉([]:List Addr)→h'.get? b=some o:=fun b o e hb _=>k1 b o (PySem.W.hideAll_get _ e hb)
 refine ⟨x,T',C,H,rfl,oV (env:=envOfC qual scope s₀.heap.objs.size f cd) (base:=base) (s:=s) (sA:=s) (L:=s₀.heap.objs.size) (ex:=[]) I.os I.bare rfl (Heap.get?_none_of_le (Nat.le_refl _)) I.base ff hstk Un.refl I.hok (fun b hb=>nomatch hb) keepAll ((Heap.UpToSlots.of_keeps hm.keeps).trans up) hm.new ?_ (fun o e=>?_) ⟨oe',vs',oT',ts',_,a1,a2.1,a2.2,a3,a4,a6,a7,a8,a9⟩,q⟩
 · cases z:H x with
   | none=>rfl
   | some o=>
    obtain ⟨u,e⟩:=(I.hok x o z).ob
    rw [hm.new] at e; cases e
 · by_cases z:T'∈frs (envOfC qual scope s₀.heap.objs.size f cd::outer)
   · exact .inl z
   · rw [PySem.W.hideAll_get _ e z] at a5; cases a5
end
end L2
namespace L2
open PySem PySem.Spec PyProof.Rows
section
variable {prog:Program} {w:World} {A:Around} {E:Value→Shared→Prop} {h:Heap} {g:Array GenState} {d:Drawn} {t:Nat} {os:OsState} {K:PySem.W.Frag} {a C:Addr} {o:Obj}
structure XIs (K:PySem.W.Frag) (C:Addr):Prop where
 ga:PySem.W.findIn K (.ref C) "__getattribute__"=some (some (.builtin "BaseException.__getattribute__"))
 gx:PySem.W.findIn K (.ref C) "__getattr__"=some none
 cl:PySem.W.findIn K (.ref C) "__class__"=some (some (.builtin "object.__class__"))
 mo:PySem.W.mroIn K C (.type "object")=some true
 mb:PySem.W.mroIn K C (.type "BaseException")=some true
theorem pW {M:Model} {T:Value} {v:Bool} (X:K.In h) (hm:PySem.W.mroIn K C T=some v):PySem.W.Looks M h (isSubtype (.ref C) T) v:=PySem.W.looks_mroIn X hm
theorem vt {R:Result→Shared→Prop} (X:K.In h) (Z:XIs K C) (hx:h.get? a=some o) (hc:o.cls=.ref C) (hq:R (.ok (.ret (.ref C))) ⟨h,g,d,t,os⟩):
  codeAny (model prog w) A (.call (.builtin "getset_descriptor.__get__") ⟨[.builtin "object.__class__",.ref a,.ref C],[]⟩) R ⟨h,g,d,t,os⟩:=by
 have hT5:(⟨h,g,d,t,os⟩:Shared).TypeIs (.builtin "object.__class__") "getset_descriptor":=F.typeOf_object_class
 have L1:PySem.W.Looks (model prog w) h (isSubtype (.ref C) (.type (".".intercalate ("object.__class__".cutAt '.').dropLast))) true:=by rw [F.owner_object_class]; exact pW X Z.mo
 refine codeAny_call_builtin F.slot_gs_get.plain F.entry_gs_get (F.slot_gs_get.check _ _ _ _ _ _ _ _ hT5 (F.args_gs_get _ _ _) ?_)
 repeat (any_goals (first | assumption | (with_reducible refine wpAny_loadPart_at hx ?_; rw [hc]) | with_reducible refine L1.at ?_ | wp_step))
 refine ⟨Code.quiet_builtin _ (by decide+kernel),codeAny_builtin F.entry_object_class ?_⟩
 repeat (any_goals (first | assumption | (with_reducible refine wpAny_loadPart_at hx ?_; rw [hc]) | wp_step))
theorem tP {tk:Tok} {Q:Fin→Shared→Prop} (X:K.In h) (Z:XIs K C) (hx:h.get? a=some o) (hc:o.cls=.ref C) (hq:Q (.done (.ret (.ref C))) ⟨h,g,d,t,os⟩):
  wpAny (model prog w) A (Builtin.«object.__getattribute__» ⟨[.ref a,.str "__class__" tk],[]⟩) Q E ⟨h,g,d,t,os⟩:=by
 have hT5:(⟨h,g,d,t,os⟩:Shared).TypeIs (.builtin "object.__class__") "getset_descriptor":=F.typeOf_object_class
 have f5:=F.typeOf_object_class
 have f6:=F.slot_gs_get.lookup
 have f7:=F.slot_gs_set.lookup
 have L1:=PySem.W.looks_findIn (M:=model prog w) X Z.cl
 repeat (any_goals (first | assumption | (with_reducible refine wpAny_loadPart_at hx ?_; rw [hc]) | with_reducible refine L1.at ?_ | wp_step))
 refine vt X Z hx hc ?_
 repeat (any_goals (first | assumption | wp_step))
theorem tQ {M:Model} {nameV:Value} {Q:Unit→Shared→Prop} (X:K.In h) (Z:XIs K C) (hx:h.get? a=some o) (hc:o.cls=.ref C) (hq:Q () ⟨h,g,d,t,os⟩):wpAny M A (checkBuiltinCall "BaseException.__getattribute__" ⟨[.ref a,nameV],[]⟩) Q E ⟨h,g,d,t,os⟩:=by
 have hk:builtinKind "BaseException.__getattribute__"=some .slot:=by decide+kernel
 have hsplit:splitId "BaseException.__getattribute__"=some ("BaseException","__getattribute__"):=by decide+kernel
 have L1:=pW (M:=M) X Z.mb
 have ha:=F.args_bexc_ga (.ref a) nameV
 simp only [checkBuiltinCall,hk,hsplit]
 refine wpAny_bind ?_
 · unfold isInstance
   repeat (first | (with_reducible refine wpAny_loadPart_at hx ?_; rw [hc]) | with_reducible refine L1.at ?_ | wp_step)
   exact hq
theorem uT {tk:Tok} {R:Result→Shared→Prop} (X:K.In h) (Z:XIs K C) (hx:h.get? a=some o) (hc:o.cls=.ref C) (hq:R (.ok (.ret (.ref C))) ⟨h,g,d,t,os⟩):
  codeAny (model prog w) A (.call (.builtin "BaseException.__getattribute__") ⟨[.ref a,.str "__class__" tk],[]⟩) R ⟨h,g,d,t,os⟩:=
 codeAny_call_builtin F.attr_ValueError.ga.plain F.entry_bexc_ga (tQ X Z hx hc (tP X Z hx hc hq))
theorem vF {tk:Tok} {fill expr:Bool} {Q:Value→Shared→Prop} (X:K.In h) (Z:XIs K C) (hx:h.get? a=some o) (hc:o.cls=.ref C) (hq:Q (.ref C) ⟨h,g,d,t,os⟩):
  wpAny (model prog w) A (getAttrBy (.ref a) (.str "__class__" tk) fill expr) Q E ⟨h,g,d,t,os⟩:=by
 have f3:=F.attr_ValueError.ga.bind (.ref a)
 have hx0:(expr&&onTheHeap (Value.builtin "BaseException.__getattribute__"))=false:=by cases expr <;> rfl
 have hx2:(Value.builtin "BaseException.__getattribute__"==Value.builtin "object.__getattribute__")=false:=by decide+kernel
 have hx1:(onTheHeap (Value.ref C)&&Value.builtin "BaseException.__getattribute__"==Value.builtin "object.__getattribute__")=false:=by rw [hx2]; rfl
 have L1:=PySem.W.looks_findIn (M:=model prog w) X Z.ga
 have L2:=PySem.W.looks_findIn (M:=model prog w) X Z.gx
 repeat (any_goals (first | assumption | (with_reducible refine wpAny_loadPart_at hx ?_; rw [hc]) | with_reducible refine L1.at ?_ | with_reducible refine L2.at ?_ | wp_step))
 refine uT X Z hx hc ?_
 repeat (any_goals (first | assumption | wp_step))
theorem uU {Q:Option Value→Shared→Prop} (X:K.In h) (Z:XIs K C) (hx:h.get? a=some o) (hc:o.cls=.ref C) (hq:Q (some (.ref C)) ⟨h,g,d,t+1,os⟩):
  wpAny (model prog w) A (getAttr? (.ref a) "__class__") Q E ⟨h,g,d,t,os⟩:=by
 unfold getAttr? getAttrBy?
 repeat (any_goals (first | assumption | with_reducible apply vF X Z hx hc | wp_step))
def XO (a C:Addr):Heap→Prop:=fun h=>∃ o vs,h.get? a=some o∧o.cls=.ref C∧o.data=.fields vs
theorem pX (Z:XIs K C):∃ c' d' cd sl,K.lookup C=some ⟨c',d',.cls cd,sl⟩:=by
 have:=Z.mo
 unfold PySem.W.mroIn PySem.W.clsIn at this
 split at this
 · rename_i c' d' cd' sl' ho
   exact ⟨_,_,_,_,ho⟩
 · cases this
theorem sH (Z:XIs K C):PySem.W.KitX K (.ref a) (.ref C) (XO a C) where
 ty:=fun M h _ ⟨o,vs,hx,hc,_⟩=>by
  intro A Q E s k q
  unfold typeOf
  refine wpAny_bind (wpAny_loadPart (k _ _ hx) ?_)
  rw [hc]
  exact wpAny_pure q
 it:=fun M h X _=>by
  obtain ⟨c',d',cd,sl,ho⟩:=pX Z
  intro A Q E s k q
  unfold isType loadHead
  exact wpAny_bind (wpAny_loadPart (k _ _ (X _ _ ho)) (wpAny_pure q))
 ne:=fun h tp dd its n sl X htp=>by
  obtain ⟨c',d',cd,sl',ho⟩:=pX Z
  refine Bool.eq_false_iff.mpr fun q=>?_
  have e:C=tp:=Value.ref.inj (beq_iff_eq.mp q)
  subst e
  have z:=(X _ _ ho).symm.trans htp
  cases z
 ca:=fun {prog w A E Q s} X ⟨o,vs,hx,hc,_⟩ hq=>by
  obtain ⟨h,g,d,t,os⟩:=s
  exact uU X Z hx hc hq
end
def cvOf:V→Option Value
 | .ref p=>some (.ref p)
 | .ty n=>some (.type n)
 | _=>none
theorem sI {c:V} {cv u:Value} (h:cvOf c=some cv) (r:RelV c u):u=cv:=by
 cases c with
 | ref p=>cases h; cases r; rfl
 | ty n=>cases h; cases r; rfl
 | _=>cases h
def kIsX (K:PySem.W.Frag):List V→Hp→VK→Prop:=fun vs H Q=>∃ a C c cv b,vs=[.ref a,c]∧H a=some (.ext (XO a C))∧XIs K C∧cvOf c=some cv∧PySem.W.kitOne K (.ref C) cv=some b∧Q (.bl b) H
theorem bn {X:Cx}:CallR X (.builtin "isinstance") (kIsX X.K):=by
 intro pins s σ H xs us Q I r h
 obtain ⟨a,C,c,cv,b,rfl,hH,Z,rc,hk,q⟩:=h
 obtain ⟨u,w',rfl,ru,rw'⟩:=qc r
 cases ru
 have e:w'=cv:=sI rc rw'
 subst e
 obtain ⟨p,_⟩:=I.hok a _ hH
 exact PySem.W.kia_one (sH Z) I.kIn p hk (fun z=>nomatch z) fun tk=>⟨.bl b,H,I.tok tk,rfl,q⟩
end L2
namespace L2
open PySem PySem.Spec PyProof.Rows
abbrev VE:List Value:=[.type "ValueError",.type "Exception",.type "BaseException",.type "object"]
def kF (e:DictEntry):Bool:=match e.key with | .str _ _=>true | _=>false
def ed (K:PySem.W.Frag) (N:Addr):Bool:=match K.lookup N with
 | some ⟨_,_,.dict es _,_⟩=>es.toList.all kF&&(nsFind es "__init__").isNone
 | _=>false
theorem gE {K:PySem.W.Frag} {N:Addr} {h:Heap} (X:K.In h) (e:ed K N=true):∃ mN,h.Ns N mN∧mN "__init__"=none:=by
 unfold ed at e
 split at e
 · rename_i c d es ep sl ho
   simp only [Bool.and_eq_true] at e
   refine ⟨nsFind es,⟨_,es,ep,X _ _ ho,rfl,fun en hm=>?_,fun _=>rfl⟩,Option.isNone_iff_eq_none.mp e.2⟩
   have:=List.all_eq_true.mp e.1 en (Array.mem_def.mp hm)
   unfold kF at this
   split at this
   · rename_i n t q; exact ⟨n,t,q⟩
   · cases this
 · cases e
structure XC (K:PySem.W.Frag) (C D:Addr):Prop where
 oC:∃ nm q N bs hdct sn sub ab col dd k0 k1 k2 k3 k5,K.lookup C=some (excClassObj nm q C N bs (.ref D::VE) hdct sn sub ab col dd k0 k1 k2 k3 k5 "ValueError.__new__")∧ed K N=true
 oD:∃ c0 dd cd sl,K.lookup D=some ⟨c0,dd,.cls cd,sl⟩∧ed K cd.ns=true
theorem XC.mk' {K:PySem.W.Frag} {C D:Addr} {nm q:Str} {N:Addr} {bs:List Value} {hdct:Bool} {sn:List Str} {sub:List Value} {ab:Bool} {col:Option Bool} {dd:Option Addr} {k0 k1 k2 k3 k5:Option Value} {c0:Value} {dD:Option Addr} {cd:ClassData} {sl:Array (Option Value)}
  (l1:K.lookup C=some (excClassObj nm q C N bs (.ref D::VE) hdct sn sub ab col dd k0 k1 k2 k3 k5 "ValueError.__new__")) (n1:ed K N=true) (l2:K.lookup D=some ⟨c0,dD,.cls cd,sl⟩) (n2:ed K cd.ns=true):XC K C D:=
 ⟨⟨_,_,_,_,_,_,_,_,_,_,_,_,_,_,_,l1,n1⟩,⟨_,_,_,_,l2,n2⟩⟩
def bE (E:XK) (C:Addr) (t:TA):TS:=fun _ σ H=>t σ H fun vs H1=>vs.length≤sizeLine∧E (.ref C) none H1
section
variable {P:Program} {w:World} {K:PySem.W.Frag} {mg:Str→Option Value} {base:Heap} {N:List Str} {qual:Str} {scope:Scope} {f:Addr} {cd:Value} {A:Around} {outer:List Env} {s₀:Shared} {H₀:Hp} {E:XK}
theorem bh {C D:Addr} {x:Str} {np cpos pos:Pos} {e₀:Expr} {rest:List Expr} {t:TA} (Z:XC K C D) (hg:Gl (cx1 P w K mg base N qual scope f cd A outer s₀ H₀ E) x) (hm:mg x=some (.ref C))
  (ha:PA (cx1 P w K mg base N qual scope f cd A outer s₀ H₀ E) (e₀::rest) t) (hdb:(x==("__debug__":Str))=false:=by decide)
  (he:starEach (e₀::rest) (envOfC qual scope s₀.heap.objs.size f cd)=(false,eval e₀ (envOfC qual scope s₀.heap.objs.size f cd))::starEach rest (envOfC qual scope s₀.heap.objs.size f cd):=by rfl)
  (hplain:(backTo cpos (starEach rest (envOfC qual scope s₀.heap.objs.size f cd))).any (·.1)=false:=by rfl):
  PS (cx1 P w K mg base N qual scope f cd A outer s₀ H₀ E) (.Raise (some (.Call (.Name x np) (e₀::rest) [] cpos)) none pos) (bE E C t):=by
 intro pins s σ H D' I h
 obtain ⟨⟨nm,q,Nc,bs,hdct,sn,sub,ab,col,dd,k0,k1,k2,k3,k5,l1,n1⟩,⟨c0,dD,cdD,sl,l2,n2⟩⟩:=Z
 obtain ⟨mN,hN,hni⟩:=gE I.kIn n1
 obtain ⟨mD,hD,hnd⟩:=gE I.kIn n2
 have hb:=I.ok.hd rfl
 refine wpAny_Raise_call_subU (C:=C) (nm:=nm) (q:=q) (N:=Nc) (bs:=bs) (bm:=.ref D::VE) (bmB:=VE) (hdct:=hdct) (sn:=sn) (sub:=sub) (ab:=ab) (col:=col) (dd:=dd) (k0:=k0) (k1:=k1) (k2:=k2) (k3:=k3) (k5:=k5)
  F.excBase_ValueError (by decide+kernel) F.excBase_ValueError (mN:=mN) (by rw [List.contains_cons,show VE.contains (.type "BaseException")=true by decide+kernel,Bool.or_true]) hb (by rw [show starEach (e₀::rest) (cx1 P w K mg base N qual scope f cd A outer s₀ H₀ E).env=_ from he]; show (false||(backTo cpos (starEach rest (envOfC qual scope s₀.heap.objs.size f cd))).any (·.1))=false; rw [hplain]; rfl) hni (fS I hg hm ⟨rfl,?_⟩ hdb)
 have h1:=ha cpos pins s σ H _ I h
 rw [show starEach (e₀::rest) (cx1 P w K mg base N qual scope f cd A outer s₀ H₀ E).env=_ from he] at h1 ⊢
 refine Calls.evalArgs_plain (wpAny_mono h1 (fun vs s₂ h₂=>?_) fun _ _ y=>y)
 obtain ⟨xs,H2,I2,rv,hl,hE⟩:=h₂
 obtain ⟨mN2,hN2,hni2⟩:=gE I2.kIn n1
 obtain ⟨mD2,hD2,hnd2⟩:=gE I2.kIn n2
 have kk:s.heap.Ns Nc mN→s₂.heap.Ns Nc mN:=fun ⟨o,es,ep,a1,a2⟩=>by
  obtain ⟨o2,es2,ep2,b1,b2⟩:=hN2
  unfold ed at n1
  split at n1
  · rename_i c d es' ep' sl' ho
    have e1:=I.kIn _ _ ho
    have e2:=I2.kIn _ _ ho
    rw [a1] at e1; cases e1
    exact ⟨_,es,ep,e2,a2⟩
  · cases n1
 refine ⟨rfl,by rw [← rv.length]; exact hl,I2.kIn _ _ l1,kk hN,.own (I2.kIn _ _ l2) hD2 hnd2 .base,fun h' e hm'=>?_⟩
 exact sG I2 hm' hE
end
end L2
namespace L2
open PySem PySem.Spec PyProof.Rows
theorem vv {P:Program} {w:World} {X:Cx}:dt (CX1 P w) X E0:=fun _ _ _ _ _ _ _ h=>by obtain ⟨_,_,_,_,_,_,q⟩:=h; exact (show False from q).elim
section
variable {P:Program} {w:World} {K:PySem.W.Frag} {mg:Str→Option Value} {base:Heap}
theorem Fun.ok1 {x qual:Str} {st:Stmt} {f:Addr} {fd:FuncData} {N ps:List Str} {k:Nat} {sp:Sp} (F:Fun K x qual st f fd) (S:ay N ps (aj st)) (len:∀ vs H Q E,sp vs H Q E→vs.length=ps.length)
  (hbody:∀ (cdv:Value) (A:Around) (outer:List Env) (s:Shared) (H:Hp) (vs:List V) (Q:VK) (E:XK),Room k (A.deeper (envOfC qual (aj st) s.heap.objs.size f cdv))→sp vs H Q E→
   ∃ t,PSs (cx1 P w K mg base N qual (aj st) f cdv A outer s H E) (aU st) t∧t { nx:=fun _ H'=>Q .non H',rt:=Q } (start N vs) H):FnOk P w K mg base (CX1 P w) (k+1) f fd ps sp:=by
 obtain ⟨oc,od,kV,doc,pm,an,cdv,ct,osl,rfl,lk,hcd⟩:=F.ex
 exact sR lk hcd S len fun A outer s H vs Q E hr hsp=>hbody cdv A outer s H vs Q E hr hsp
end
section
variable {X:Cx} {pins:List (Addr × Obj)} {σ:St} {H:Hp} {s s':Shared}
theorem rL {H':Hp} {x T C:Addr} {a0:Value} {h5:Heap} (I:Inv X pins σ H s) (F:Fly X.prog X.w X.stack H s x T C H' s') (fl:Heap.FlyingW (PySem.W.hideAll s'.heap (frs X.stack++[x,T])) X.stack x (.ref C) a0 h5) (up:s'.heap.UpToSlots h5):
  Inv X pins σ (upd H' x (.ext (XO x C))) { s' with heap:=h5 }:=by
 obtain ⟨k1,_,_,oe,vs,T',oT,ts,he,hc,hd,_⟩:=fl
 have keepAll:∀ b o,s'.heap.get? b=some o→b∉frs X.stack→b∉[x,T]→h5.get? b=some o:=fun b o e hb hx=>k1 b o (PySem.W.hideAll_get _ e fun z=>(List.mem_append.mp z).elim hb hx)
 have frD:∀ b∈frs X.stack,∃ o,s.heap.get? b=some o∧∀ vs,o.data≠.fields vs:=fun b hb=>(I.stack.mem hb).2
 have hstk:=I.stkFree
 have nxT:∀ b o,s.heap.get? b=some o→b∉[x,T]:=fun b o e z=>by
  simp only [List.mem_cons,List.not_mem_nil,or_false] at z
  rcases z with rfl | rfl
  · rw [F.nx] at e; cases e
  · rw [F.nT] at e; cases e
 have slots:∀ b o,s.heap.get? b=some o→H b=none→b∈frs X.stack→∃ sl,h5.get? b=some { o with slots:=sl }:=fun b o e n hb=>by
  obtain ⟨sl,e1⟩:=F.un.slot b o e n hb (by simp)
  obtain ⟨o2,e2,d2⟩:=frD b hb
  rw [e] at e2; cases e2
  obtain ⟨sl2,e3⟩:=up b _ e1 d2
  exact ⟨sl2,e3⟩
 have frH:∀ b∈frs X.stack,H' b=none:=fun b hb=>by
  obtain ⟨o,e,d⟩:=frD b hb
  exact F.un.free b o e (hstk b hb) (by simp)
 have ne:∀ b o,H' b=some o→b≠x:=fun b o e z=>by rw [z,F.fx] at e; cases e
 have okx:ObjOk X.prog X.w (upd H' x (.ext (XO x C))) h5 x (.ext (XO x C)):=⟨⟨oe,vs,he,hc.1,hd⟩,⟨oe,he⟩,fun h1 h2 ⟨o,vs,q,r⟩ k=>⟨o,vs,k o q,r⟩⟩
 refine I.call' (ch:=[]) F.os ⟨fun b o e n hb _=>?_,fun b o e n hb _=>?_,fun b o e n _=>?_,fun b o e _=>?_,fun b xs e=>?_,fun b o u e=>?_,fun b ps e=>?_⟩ (fun a o e=>?_) F.bare fun b z=>absurd z (by simp)
 · exact keepAll b o (F.un.keep b o e n hb (by simp)) hb (nxT b o e)
 · exact slots b o e n hb
 · have n1:=F.un.free b o e n (by simp)
   rw [ah fun z=>nxT b o e (by rw [z]; simp)]
   exact n1
 · by_cases hb:b∈frs X.stack
   · obtain ⟨sl,e1⟩:=slots b o e (hstk b hb) hb
     exact ⟨_,e1⟩
   · obtain ⟨o',e1⟩:=F.un.there b o e (by simp)
     exact ⟨o',keepAll b o' e1 hb (nxT b o e)⟩
 · have q:=F.un.tups b xs e
   rw [ah (ne b _ q)]; exact q
 · have q:=F.un.frzs b o u e
   rw [ah (ne b _ q)]; exact q
 · obtain ⟨m,q⟩:=F.un.tbls b ps e
   exact ⟨m,by rw [ah (ne b _ q)]; exact q⟩
 · by_cases ha:a=x
   · subst ha
     rw [ad] at e; cases e
     exact okx
   · rw [ah ha] at e
     refine (F.hok a o e).stay (fun b u hb q=>?_) (fun b q=>?_) fun b xs q=>?_
     · have hb':H' b≠none:=by
        rcases hb with rfl | hb
        · rw [e]; simp
        · rw [hb]; simp
       refine keepAll b u q (fun z=>hb' (frH b z)) fun z=>?_
       simp only [List.mem_cons,List.not_mem_nil,or_false] at z
       rcases z with rfl | rfl
       · exact hb' F.fx
       · exact hb' F.fT
     · rw [ah (ne b _ q)]; exact q
     · rw [ah (ne b _ q)]; exact q
theorem jM {M:Model} {A:Around} {E:Value→Shared→Prop} {i:Nat} {x:Str} {pos:Pos} {Q:Unit→Shared→Prop} (I:Inv X pins σ H s) (hN:X.N.Nodup) (hi:X.N[i]? =some x) (hk:X.env.kindOf x=some .local)
  (h:∀ s',Inv X pins (σ.set i none) H s'→Q () s'):wpAny M A (do bindName X.env x .none; unbindBehindTheSuite X.env x pos) Q E s:=by
 obtain ⟨m,hn,hl⟩:=id I.loc
 have hcls:(X.env.scope.kind==.class||(X.env.scope.kind==.module&&X.env.locals != X.env.globals))=false:=by rw [I.ok.kind]; rfl
 have hiσ:i < σ.length:=by rw [I.len]; exact (List.getElem?_eq_some_iff.mp hi).1
 have cne:=I.cne
 refine wpAny_nameGoes_keeps hk hn hcls fun h' v hn' hs=>?_
 obtain ⟨oL,_,_,hoL,_⟩:=id hn
 have tracked:HOk X.prog X.w H h':=fun b ob e=>by
  refine (I.hok b ob e).stay (fun c w' hc q=>(hs.2 c ?_).trans q) (fun _ q=>q) fun _ _ q=>q
  rintro rfl
  rcases hc with rfl | hc
  · rw [I.free] at e; cases e
  · rw [I.free] at hc; cases hc
 refine h _ ⟨I.ok,I.os,I.bare,⟨fun b o e n hb hx=>?_,fun b o e n hb hx=>?_,I.base.free,fun b o e hx=>?_,I.base.tups,I.base.frzs,I.base.tbls⟩,⟨_,hn',fun j y v' e1 e2 e3=>?_⟩,fun y c e=>?_,I.free,I.freeC,fun p hp=>?_,tracked,by simpa using I.len⟩
 · exact (hs.2 b (Nat.ne_of_lt (Nat.lt_of_lt_of_le (Heap.lt_size e) I.ok.above))).trans (I.base.keep b o e n hb hx)
 · obtain ⟨sl,e1⟩:=I.base.slot b o e n hb hx
   exact ⟨sl,(hs.2 b (Nat.ne_of_lt (Nat.lt_of_lt_of_le (Heap.lt_size e) I.ok.above))).trans e1⟩
 · obtain ⟨o',e1⟩:=I.base.there b o e hx
   exact ⟨o',(hs.2 b (Nat.ne_of_lt (Nat.lt_of_lt_of_le (Heap.lt_size e) I.ok.above))).trans e1⟩
 · by_cases hj:j=i
   · subst hj
     rw [List.getElem?_set_self hiσ] at e2
     cases e2
   · rw [List.getElem?_set_ne (Ne.symm hj)] at e2
     obtain ⟨u',r',q⟩:=hl j y v' e1 e2 e3
     refine ⟨u',r',?_⟩
     rcases q with ⟨k,e⟩ | ⟨k,c,e,z⟩
     · refine .inl ⟨k,?_⟩
       have:y≠x:=fun e=>hj (kg hN e1 (e ▸ hi))
       simp [this,e]
     · exact .inr ⟨k,c,e,z.sameBut hs (cne y c e)⟩
 · obtain ⟨w',z⟩:=I.cell y c e
   exact ⟨w',z.sameBut hs (cne y c e)⟩
 · obtain ⟨e,n,ne,nf,d⟩:=I.pin p hp
   exact ⟨(hs.2 p.1 ne).trans e,n,ne,nf,d⟩
end
abbrev Cx.caught (X:Cx) (x:Addr):Cx:={ X with A:=X.A.mark (some (.ref x)),calm:=false,xe:=fun _ _=>False }
section
variable {X:Cx} {pins:List (Addr × Obj)} {σ:St} {H:Hp} {s:Shared} {x:Addr}
theorem Cx.Ok.caught (ok:X.Ok):(X.caught x).Ok:=
 ⟨ok.mod,ok.kind,ok.glob,ok.blt,ok.above,ok.inj,ok.has,ok.cab,(fun z=>nomatch z),ok.frames,ok.stk,ok.exf,ok.bs,ok.bsz,ok.noex,ok.exfs,ok.funs,ok.frf⟩
theorem Inv.caught (I:Inv X pins σ H s):Inv (X.caught x) pins σ H s:=⟨I.ok.caught,I.os,I.bare,I.base,I.loc,I.cell,I.free,I.freeC,I.pin,I.hok,I.len⟩
theorem Inv.uncaught (ok:X.Ok) (I:Inv (X.caught x) pins σ H s):Inv X pins σ H s:=⟨ok,I.os,I.bare,I.base,I.loc,I.cell,I.free,I.freeC,I.pin,I.hok,I.len⟩
end
def Came (X:Cx) (pins:List (Addr × Obj)) (σ:St) (E:XK) (e:Value) (s':Shared):Prop:=∃ H1 s1,Inv X pins σ H1 s1∧CX1 X.prog X.w X.stack H1 s1 E e s'
section
variable {X:Cx} {k:Nat} {f:Addr} {fd:FuncData} {ps:List Str} {sp:Sp} {x:Str} {p pos:Pos} {e:Expr} {es:List Expr} {t:TA}
def oW (K:PySem.W.Frag) (cv:Value) (i:Nat) (E:XK) (th:TS):TS:=fun D σ _=>∀ C H2,E (.ref C) none H2→PySem.W.exmOne K (.ref C) cv=some true∧∀ x,H2 x=none→
 th { nx:=fun σ' H'=>D.nx (σ'.set i none) H',rt:=D.rt,bk:=fun σ' H'=>D.bk (σ'.set i none) H',ct:=fun σ' H'=>D.ct (σ'.set i none) H' } (σ.set i (some (.ref x))) (upd H2 x (.ext (XO x C)))
theorem tR {M:Model} {a C:Addr} {h:Heap} (z:XO a C h):PySem.W.Looks M h (typeOf (.ref a)) (.ref C):=by
 obtain ⟨o,vs,hx,hc,_⟩:=z
 intro A Q E s k q
 unfold typeOf
 refine wpAny_bind (wpAny_loadPart (k _ _ hx) ?_)
 rw [hc]
 exact wpAny_pure q
theorem oX {pins:List (Addr × Obj)} {s':Shared} {σ:St} {H:Hp} {D:Ends} {E:XK} {i:Nat} {n cn:Str} {cv e:Value} {np hpos:Pos} {b₀:Stmt} {suite:List Stmt} {th:TS} (hN:X.N.Nodup) (hi:X.N[i]? =some n) (hkn:X.env.kindOf n=some .local) (hg:Gl X cn) (hm:X.mg cn=some cv)
  (hst:X.stack=X.env::X.outer) (hf:X.env.frame=some X.env.locals) (hs:∀ x,PSs (X.caught x) (b₀::suite) th) (hc:Came X pins σ E e s') (h:oW X.K cv i E th D σ H) (hdb:(cn==("__debug__":Str))=false:=by decide):
  wpAny (model X.prog X.w) X.A (noteFrame e X.env) (fun _ s₂=>wpAny (model X.prog X.w) X.A (setFlight e none) (fun _ s₃=>wpAny (model X.prog X.w) X.A (handleBy e X.env [.ExceptHandler (some (.Name cn np)) (some n) (b₀::suite) hpos]) (SP X pins D) X.xe s₃) X.xe s₂) X.xe s':=by
 obtain ⟨H1,s1,I,x,T,C,H',rfl,F,q⟩:=hc
 obtain ⟨hC,hth⟩:=h C H' q
 obtain ⟨oe,vs,oT,ts,a0,he,hcl,h0,hd,h1,hTx,hT,hdT,h3⟩:=F.tr
 have ff:s'.heap.FunFrames X.base X.stack:=jL I.stack (fun b hb=>⟨hb,I.stkFree b hb⟩) F.un
 have fl:Heap.FlyingW (PySem.W.hideAll s'.heap (frs X.stack++[x,T])) X.stack x (.ref C) a0 s'.heap:=
  ⟨fun b o e=>PySem.W.of_hideAll _ e,PySem.W.hideAll_none _ (by simp),gk ff fun b hb=>List.mem_append_left _ hb,oe,vs,T,oT,ts,he,⟨hcl,h0⟩,hd,h1,PySem.W.hideAll_none _ (by simp),hTx,hT,hdT,h3⟩
 have fl':=fl
 rw [hst] at fl'
 have hfr:X.A.frames=some (X.env::X.outer):=by rw [I.ok.frames,hst]
 refine wpAny_looks_onW hfr hf fl' fun h4 held up4=>?_
 refine wpAny_landsW held fun h5 fl5 up5=>?_
 have I5:=rL (a0:=a0) (h5:=h5) I F (by rw [hst]; exact fl5) (up4.trans up5)
 refine wpAny_handleBy_cons (codeAny_handlers_test (fS (X:=X.caught x) I5.caught hg hm ?_ hdb)) (by intro q; cases q)
 have hx5:XO x C h5:=(I5.hok x _ ad).1
 refine (PySem.W.exm_one (M:=model X.prog X.w) (h:=h5) I5.kIn (tR hx5) hC).here ?_
 refine codeAny_handlers_suite_as ?_
 refine lands_againW fl5 fun h6 fl6 up6=>?_
 have I6:=rL (a0:=a0) (h5:=h6) I F (by rw [hst]; exact fl6) ((up4.trans up5).trans up6)
 refine kh (X:=X.caught x) (v:=.ref x) I6.caught hN hi (.inl hkn) rfl (fun s7 I7=>?_) (.inr hkn)
 refine wpAny_mono (hs x pins s7 _ _ _ I7 (hth x F.fx)) (fun fw s8 h8=>?_) fun _ _ z=>z.elim
 cases fw with
 | next=>obtain ⟨σ',H9,I9,q9⟩:=h8; exact jM (I9.uncaught I.ok) hN hi hkn fun s' I'=>⟨_,H9,I',q9⟩
 | brk=>obtain ⟨σ',H9,I9,q9⟩:=h8; exact jM (I9.uncaught I.ok) hN hi hkn fun s' I'=>⟨_,H9,I',q9⟩
 | cont=>obtain ⟨σ',H9,I9,q9⟩:=h8; exact jM (I9.uncaught I.ok) hN hi hkn fun s' I'=>⟨_,H9,I',q9⟩
 | ret u=>obtain ⟨v,σ',H9,I9,r9,q9⟩:=h8; exact jM (I9.uncaught I.ok) hN hi hkn fun s' I'=>⟨v,_,H9,I',r9,q9⟩
end
end L2
namespace L2
open PySem PySem.Spec PyProof.Rows
def eZ (es:Array DictEntry):Bool:=es.toList.all kF&&(nsFind es "__init__").isNone
theorem m7 {K:PySem.W.Frag} {N:Addr} {c:Value} {d:Option Addr} {es:Array DictEntry} {n:Nat} {sl:Array (Option Value)} (l:K.lookup N=some ⟨c,d,.dict es n,sl⟩) (h:eZ es=true):ed K N=true:=by
 unfold ed
 rw [l]
 exact h
structure EA where
 ClueError:Addr
 NoFloor:Addr
 NoFilling:Addr
 NoRule:Addr
 NoPuzzle:Addr
 TooMany:Addr
 NotOne:Addr
 NoMove:Addr
 NoText:Addr
 NoName:Addr
 NoRow:Addr
 BadThought:Addr
structure ErrM (mg:Str→Option Value) (a:EA):Prop where
 ClueError:mg "ClueError"=some (.ref a.ClueError)
 NoFloor:mg "NoFloor"=some (.ref a.NoFloor)
 NoFilling:mg "NoFilling"=some (.ref a.NoFilling)
 NoRule:mg "NoRule"=some (.ref a.NoRule)
 NoPuzzle:mg "NoPuzzle"=some (.ref a.NoPuzzle)
 TooMany:mg "TooMany"=some (.ref a.TooMany)
 NotOne:mg "NotOne"=some (.ref a.NotOne)
 NoMove:mg "NoMove"=some (.ref a.NoMove)
 NoText:mg "NoText"=some (.ref a.NoText)
 NoName:mg "NoName"=some (.ref a.NoName)
 NoRow:mg "NoRow"=some (.ref a.NoRow)
 BadThought:mg "BadThought"=some (.ref a.BadThought)
abbrev Glb (K:PySem.W.Frag) (x:Str) (C:Addr):Prop:=PySem.W.nsIn K mainGlobals x=some (some (.ref C))
theorem Glb.eq {K:PySem.W.Frag} {x:Str} {C D:Addr} (h:Glb K x C) (h':Glb K x D):C=D:=by
 have:=h.symm.trans h'
 cases this
 rfl
structure aB (K:PySem.W.Frag) (a:EA) (x:Str) (C:Addr) (os:List Addr):Prop where
 g:Glb K x C
 xc:XC K C a.ClueError
 xis:XIs K C
 ve:PySem.W.kitOne K (.ref C) (.type "ValueError")=some true
 ex:PySem.W.exmOne K (.ref C) (.ref a.ClueError)=some true
 no:∀ y∈os,PySem.W.kitOne K (.ref C) (.ref y)=some false
theorem kG {K:PySem.W.Frag} {C:Addr}:PySem.W.kitOne K (.ref C) (.ref C)=some true:=by
 unfold PySem.W.kitOne
 rw [if_pos (by simp)]
theorem nY {K:PySem.W.Frag} {x C y:Addr} {b:Bool} {H:Hp} {Q:VK} (Z:XIs K C) (hx:H x=some (.ext (XO x C))) (hk:PySem.W.kitOne K (.ref C) (.ref y)=some b) (h:Q (.bl b) H):kIsX K [.ref x,.ref y] H Q:=⟨x,C,_,_,b,rfl,hx,Z,rfl,hk,h⟩
theorem uV {K:PySem.W.Frag} {x C:Addr} {n:String} {b:Bool} {H:Hp} {Q:VK} (Z:XIs K C) (hx:H x=some (.ext (XO x C))) (hk:PySem.W.kitOne K (.ref C) (.type n)=some b) (h:Q (.bl b) H):kIsX K [.ref x,.ty n] H Q:=⟨x,C,_,_,b,rfl,hx,Z,rfl,hk,h⟩
theorem qx {K:PySem.W.Frag} {C D:Addr} {nm q:Str} {N ND:Addr} {bs:List Value} {hdct:Bool} {sn:List Str} {sub:List Value} {ab:Bool} {col:Option Bool} {dd:Option Addr} {k0 k1 k2 k3 k5:Option Value} {c0:Value} {dD:Option Addr} {cd:ClassData} {sl:Array (Option Value)}
  {cN cE:Value} {dN dE:Option Addr} {es es':Array DictEntry} {n n':Nat} {sN sE:Array (Option Value)}
  (l1:K.lookup C=some (excClassObj nm q C N bs (.ref D::VE) hdct sn sub ab col dd k0 k1 k2 k3 k5 "ValueError.__new__")) (m1:K.lookup N=some ⟨cN,dN,.dict es n,sN⟩) (n1:eZ es=true)
  (l2:K.lookup D=some ⟨c0,dD,.cls cd,sl⟩) (e2:cd.ns=ND) (m2:K.lookup ND=some ⟨cE,dE,.dict es' n',sE⟩) (n2:eZ es'=true):XC K C D:=.mk' l1 (m7 m1 n1) l2 (m7 (by rw [e2]; exact m2) n2)
theorem nt:bootBuiltins "ValueError"=some (.type "ValueError"):=by decide+kernel
structure bx (P:Program) (w:World) (K:PySem.W.Frag) (mg:Str→Option Value) (base:Heap) (k:Nat) (x:Str) (ps:List Str) (sp:Sp):Prop where
 ex:∃ (f:Addr) (fd:FuncData),FnOk P w K mg base (CX1 P w) k f fd ps sp∧mg x=some (.ref f)∧PySem.W.keepIn K (.ref f)=true∧Binds K fd ps []
theorem bX {X:Cx} {k n:Nat} {x:Str} {ps:List Str} {sp:Sp} {p pos:Pos} {e:Expr} {es:List Expr} {t:TA} {E:XK} (hE:dt (CX1 X.prog X.w) X E) (C:bx X.prog X.w X.K X.mg X.base k x ps sp) (hr:Room n X.A) (hk:k≤n) (hg:Gl X x) (ha:PA X (e::es) t)
  (hdb:(x==("__debug__":Str))=false:=by decide) (he:starEach (e::es) X.env=(false,eval e X.env)::starEach es X.env:=by rfl) (hpl:(backTo pos (starEach es X.env)).any (·.1)=false:=by rfl):
  PE X (.Call (.Name x p) (e::es) [] pos) (tCall sp [] E t):=by
 obtain ⟨f,fd,F,hm,hkp,hb⟩:=C.ex
 exact pR F (hr.mono hk) hg hm hkp hb .nil hE ha hdb he hpl
end L2
namespace L2
open PySem PySem.Spec PyProof.Rows
def cMulB:R2
 | .int i,.int j,H,Q=>IntMulOk i j∧Q (.int (i*j)) H
 | _,_,_,_=>False
end L2
namespace Att
open PySem PySem.W PySem.Calls PyProof.Rows
end Att
namespace L2
open PySem PySem.Spec PyProof.Rows
section
variable {K:PySem.W.Frag} {H:Hp} {Q:VK} {D:Ends} {σ:St}
theorem vG {i j:Int}:cMulB (.int i) (.int j) H Q=(IntMulOk i j∧Q (.int (i*j)) H):=rfl
theorem qy {i j:Int}:cPow (.int i) (.int j) H Q=(CPow i j∧Q (.int (i^j.toNat)) H):=rfl
theorem br {E:XK} {C:Addr} {t:TA}:bE E C t D σ H=t σ H fun vs H1=>vs.length≤sizeLine∧E (.ref C) none H1:=rfl
theorem vw {p:Addr} {bs:List Bool} (hp:H p=some (.lst (bs.map V.bl))) (h:Q (.bl (bs.any id)) H):kAny [.ref p] H Q:=by
 show bnd (unL (H p)) _
 rw [hp]
 exact ce (a:=bs.map V.bl) rfl ⟨bs,rfl,h⟩
theorem cP {p q:Addr} {xs ys:List V} (hp:H p=some (.lst xs)) (hq:H q=some (.lst ys)) (hn:xs.length+ys.length≤1000) (h:∀ r,H r=none→Q (.ref r) (upd H r (.lst (xs++ys)))):cAdd (.ref p) (.ref q) H Q:=by
 show bnd (unM (H p)) _
 rw [hp]
 refine ce (a:=xs) rfl ?_
 rw [hq]
 exact ce (a:=ys) rfl ⟨Nat.le_of_lt (aR hn),h⟩
end
end L2
namespace L2
open PySem PySem.Spec PyProof.Rows
inductive RK where
 | Rule | Unlike | Sum | Rising | Seen | Count | Joined | NoSquare | Ring
 deriving DecidableEq
structure RCl (ι:Type) where
 A:ι→Addr
 ok:ι→Bool
section
variable {ι:Type}
def tFldK (c:RCl ι) (ta:TE) (f:Str):TE:=fun σ H Q=>ta σ H fun x H1=>∃ a k dx fs v,x=.ref a∧c.ok k=true∧H1 a=some (.ins (c.A k) dx fs)∧fs.lookup f=some v∧Q v H1
def sFldK (c:RCl ι) (ta tv:TE) (f:Str):TS:=fun D σ H=>tv σ H fun y H1=>ta σ H1 fun x H2=>∃ a k dx fs,x=.ref a∧c.ok k=true∧H2 a=some (.ins (c.A k) dx fs)∧fs.length < 1000∧
 D.nx σ (upd H2 a (.ins (c.A k) dx (putF f y fs)))
def fD (c:RCl ι) (okm:ι→Bool) (m:Str) (sp:ι→Sp) (ta:TE) (t:TA):TE:=fun σ H Q=>ta σ H fun x H1=>∃ a k dx fs,x=.ref a∧okm k=true∧H1 a=some (.ins (c.A k) dx fs)∧fs.lookup m=none∧
 t σ H1 fun vs H2=>sp k (x::vs) H2 Q E0
structure FldK (K:PySem.W.Frag) (c:RCl ι) (f:Str):Prop where
 ex:∀ k,c.ok k=true→Cls K (c.A k)∧NoAttr K (c.A k) f
structure MCal (P:Program) (w:World) (K:PySem.W.Frag) (mg:Str→Option Value) (base:Heap) (c:RCl ι) (okm:ι→Bool) (k:Nat) (m:Str) (ps:List Str) (sp:ι→Sp):Prop where
 ex:∀ i,okm i=true→∃ (f:Addr) (fd:FuncData),Cls K (c.A i)∧Meth K (c.A i) m f∧FnOk P w K mg base CX0 k f fd ps (sp i)∧Binds K fd ps []
structure KCal (P:Program) (w:World) (K:PySem.W.Frag) (mg:Str→Option Value) (base:Heap) (k:Nat) (x:Str) (C:Addr) (ps:List Str) (sp:Sp):Prop where
 ex:∃ (f:Addr) (fd:FuncData),Mk K C f∧FnOk P w K mg base CX0 k f fd ps sp∧mg x=some (.ref C)∧Binds K fd ps []
end
section
variable {ι:Type} {X:Cx} {c:RCl ι} {o e value:Expr} {es:List Expr} {f x m:Str} {p pos pos' apos:Pos} {ta tv:TE} {t:TA} {okm:ι→Bool} {k n:Nat} {ps:List Str} {sp:ι→Sp} {sp1:Sp} {C:Addr}
theorem fZ (he:PE X e ta) (F:FldK X.K c f) (hb:attributeBase e f X.env (eval e X.env)=eval e X.env:=by rfl):PE X (.Attribute e f pos) (tFldK c ta f):=by
 intro pins s σ H Q I h
 refine tD hb (thn (he pins s σ H _ I h) fun u s1 ⟨x,H1,I1,rx,a,k,dx,fs,v,ex,hk,ea,l,q⟩=>?_)
 subst ex
 obtain rfl:u=Value.ref a:=rx
 obtain ⟨cl,na⟩:=F.ex k hk
 exact qd I1 ea cl na l fun u' s2 I2 ru=>⟨v,H1,I2,ru,q⟩
theorem dP (ha:PE X o ta) (hv:PE X value tv) (F:FldK X.K c f) (hs:swapsWith value (some (.Attribute o f pos')) pos.line X.env=pure false:=by rfl):PS X (.Assign [.Attribute o f pos'] value pos) (sFldK c ta tv f):=by
 intro pins s σ H D I h
 refine plainObj_wpAny_Assign_Attribute (thn (hv pins s σ H _ I h) fun u s1 ⟨y,H1,I1,ry,q⟩=>thn (ha pins s1 σ H1 _ I1 q) fun ov s2 ⟨x,H2,I2,rx,a,k,dx,fs,ex,hk,ea,l,q2⟩=>?_) hs
 subst ex
 obtain rfl:ov=Value.ref a:=rx
 obtain ⟨cl,na⟩:=F.ex k hk
 exact qe I2 ea cl na l ry fun s3 I3=>⟨σ,_,I3,q2⟩
theorem gF {pl:Sem Bool} (M:MCal X.prog X.w X.K X.mg X.base c okm k m ps sp) (hr:Room n X.A) (hk:k≤n) (he:PE X o ta)
  (ht:eval (.Call (.Attribute o m apos) [] [] pos) X.env=(do
   let ov ← eval o X.env
   standAt apos.atName
   let (f,first) ← holding [ov] (getMethod ov m pl)
   callWith pos f first (backTo pos (starEach [] X.env)) (backToKw pos (keywordEach [] X.env))):=by rfl):
  PE X (.Call (.Attribute o m apos) [] [] pos) (fD c okm m sp ta tNil):=by
 intro pins s σ H Q I h
 refine PySem.W.methodCall_KW (pl:=pl) (thn (he pins s σ H _ I h) fun u s1 ⟨x,H1,I1,rx,a,i,dx,fs,ex,hi,ea,l,q⟩=>?_) ht
 subst ex
 obtain rfl:u=Value.ref a:=rx
 obtain ⟨f,fd,cl,hm,F,hb⟩:=M.ex i hi
 refine kW I1 ea cl hm l ?_
 exact PySem.W.callWith_K0 (first:=[.ref a]) I1.kIn hm.kp (rb (us:=[.ref a]) (vs:=[.ref a]) F (hr.mono hk) hb .nil qi I1 (.cons rfl .nil) q)
theorem gG (M:KCal X.prog X.w X.K X.mg X.base k x C ps sp1) (hr:Room n X.A) (hk:k+1≤n) (hg:Gl X x) (ha:PA X (e::es) t)
  (hdb:(x==("__debug__":Str))=false:=by decide) (he:starEach (e::es) X.env=(false,eval e X.env)::starEach es X.env:=by rfl) (hpl:(backTo pos (starEach es X.env)).any (·.1)=false:=by rfl):
  PE X (.Call (.Name x p) (e::es) [] pos) (tMake C sp1 [] E0 t):=by
 obtain ⟨f,fd,mk,F,hm,hb⟩:=M.ex
 exact pS mk F (hr.mono hk) hg hm hb .nil qi ha hdb he hpl
end
def gl (K:PySem.W.Frag):List V→Hp→VK→Prop
 | [.ref p],H,Q=>bnd (unM (H p)) fun ys=>∀ l,H l=none→Q (.ref l) (upd H l (.tup ys))
 | _,_,_=>False
def tInG (ws:List Str) (neg:Bool) (te:TE):TE:=fun σ H Q=>te σ H fun x H1=>∃ z,x=.str z∧Q (.bl (if neg then !decide (z∈ws) else decide (z∈ws))) H1
structure GTup (K:PySem.W.Frag) (mg:Str→Option Value) (x:Str) (ws:List Str):Prop where
 ex:∃ (p:Addr) (o:Obj) (its:Array Value) (n:Nat),mg x=some (.ref p)∧K.lookup p=some o∧o.cls=.type "tuple"∧o.data=.seq its n∧its.size≤sizeLine∧Vals (ws.map V.str) its.toList
theorem iX:∀ ns:List Str,(ns.map V.str).all flatV=true
 | []=>rfl
 | n::r=>by rw [List.map_cons,List.all_cons,iX r]; rfl
theorem kH (i:Str):∀ ns:List Str,inV (.str i) (ns.map V.str)=decide (i∈ns)
 | []=>by simp [inV]
 | n::r=>by
  have ih:=kH i r
  unfold inV at ih ⊢
  rw [List.map_cons,List.any_cons,ih]
  show ((n==i)||decide (i∈r))=decide (i∈n::r)
  rw [Bool.eq_iff_iff,Bool.or_eq_true,beq_iff_eq,decide_eq_true_eq,decide_eq_true_eq,List.mem_cons]
  exact ⟨fun h=>h.elim (fun e=>.inl e.symm) .inr,fun h=>h.elim (fun e=>.inl e.symm) .inr⟩
section
variable {X:Cx} {a:Expr} {ta:TE} {pos p:Pos} {x:Str} {ws:List Str}
theorem kc:CallR X (.type "tuple") (gl X.K):=by
 intro pins s σ H xs us Q I r h
 unfold gl at h
 split at h
 · obtain ⟨ys,e,q⟩:=bc h
   exact nk pins s σ H _ us Q I r ⟨_,ys,rfl,.inl ⟨SqL.of (gR e),q⟩⟩
 · exact h.elim
theorem uW {ws:List Str} {q:Addr} (hq:∃ (o:Obj) (its:Array Value) (n:Nat),X.K.lookup q=some o∧o.cls=.type "tuple"∧o.data=.seq its n∧its.size≤sizeLine∧Vals (ws.map V.str) its.toList):
  OpR X (compareOp .In) (fun x y H Q=>∃ z,x=.str z∧y=.ref q∧Q (.bl (decide (z∈ws))) H):=by
 intro pins s σ H x y v u Q I rx ry h
 obtain ⟨z,rfl,rfl,h⟩:=h
 refine mX pins s σ H _ _ v u Q I rx ry ⟨q,ws.map V.str,rfl,.inr (.inr hq),rfl,iX ws,?_⟩
 rw [kH]
 exact h
theorem tS {ws:List Str} {q:Addr} (hq:∃ (o:Obj) (its:Array Value) (n:Nat),X.K.lookup q=some o∧o.cls=.type "tuple"∧o.data=.seq its n∧its.size≤sizeLine∧Vals (ws.map V.str) its.toList):
  OpR X (compareOp .NotIn) (fun x y H Q=>∃ z,x=.str z∧y=.ref q∧Q (.bl (!decide (z∈ws))) H):=by
 intro pins s σ H x y v u Q I rx ry h
 obtain ⟨z,rfl,rfl,h⟩:=h
 refine om pins s σ H _ _ v u Q I rx ry ⟨q,ws.map V.str,rfl,.inr (.inr hq),rfl,iX ws,?_⟩
 rw [kH]
 exact h
end
section
variable {ι:Type} {c:RCl ι} {ta tv:TE} {t:TA} {f m:Str} {σ:St} {H:Hp} {Q:VK} {D:Ends} {okm:ι→Bool} {sp:ι→Sp} {sp1:Sp} {C:Addr} {K:PySem.W.Frag}
theorem rM:tMake C sp1 [] E0 t σ H Q=t σ H fun vs H1=>∀ x dx,H1 x=none→H1 dx=none→dx≠x→sp1 (.ref x::(vs++[])) (upd (upd H1 dx (.own x)) x (.ins C dx [])) (fun v H2=>v=.non∧Q (.ref x) H2) E0:=rfl
theorem qz {ws:List Str} {neg:Bool} {te:TE}:tInG ws neg te σ H Q=te σ H fun x H1=>∃ z,x=.str z∧Q (.bl (if neg then !decide (z∈ws) else decide (z∈ws))) H1:=rfl
theorem tT {p:Addr} {xs:List V} (hp:H p=some (.lst xs)) (h:∀ l,H l=none→Q (.ref l) (upd H l (.tup xs))):gl K [.ref p] H Q:=by
 unfold gl
 dsimp only
 rw [hp]
 exact h
end
end L2
namespace L2
open PySem PySem.Spec PyProof.Rows
def cntD (ns:List Int):Nat:=(firstMet (fun i=>ns.getD i 0) ns.length).length
def mr (te:TE):TE:=fun σ H Q=>te σ H fun x H1=>∃ p ns,x=.ref p∧H1 p=some (.lst (ns.map V.int))∧ns.length≤900∧Q (.int (cntD ns:Nat)) H1
theorem kI {te:TE} {σ:St} {H:Hp} {Q:VK}:mr te σ H Q=te σ H fun x H1=>∃ p ns,x=.ref p∧H1 p=some (.lst (ns.map V.int))∧ns.length≤900∧Q (.int (cntD ns:Nat)) H1:=rfl
theorem tU:bootBuiltins "set"=some (.type "set"):=by decide+kernel
theorem rN {X:Cx} {e:Expr} {te:TE} {p p2 pos pos2:Pos} (hc:X.calm=true) (hgl:Gl X "len") (hgs:Gl X "set") (hl:X.mg "len"=none) (hs:X.mg "set"=none) (he:PE X e te)
  (hs1:starEach [.Call (.Name "set" p2) [e] [] pos2] X.env=[(false,eval (.Call (.Name "set" p2) [e] [] pos2) X.env)]:=by rfl) (hs2:starEach [e] X.env=[(false,eval e X.env)]:=by rfl):
  PE X (.Call (.Name "len" p) [.Call (.Name "set" p2) [e] [] pos2] [] pos) (mr te):=by
 intro pins s σ H Q I h
 refine wpAny_Call_Name_kw (dr I hgl hl bQ ?_ (by decide) (by decide))
 refine PyProof.Rows.callWith_builtin1 ?_ hs1 rfl
 rw [hs1]
 show wpAny _ _ (spliced [(false,eval (.Call (.Name "set" p2) [e] [] pos2) X.env)]) _ _ s
 refine Calls.spliced_cons ?_
 refine wpAny_Call_Name_kw (dr I hgs hs tU ?_ (by decide) (by decide))
 refine PyProof.Rows.callWith_type1 ?_ hs2 rfl
 rw [hs2]
 show wpAny _ _ (spliced [(false,eval e X.env)]) _ _ s
 refine Calls.spliced_cons (thn (he pins s σ H _ I h) fun u s1 ⟨x,H1,I1,r1,q1⟩=>?_)
 refine Calls.spliced_nil ?_
 obtain ⟨l,ns,rfl,hys,hn,q⟩:=q1
 cases r1
 obtain ⟨its,n,rv,ho,hz⟩:=I1.lst hys
 have hL:s1.heap.IsList l its.toArray:=⟨_,ho,rfl,n,rfl⟩
 have hI:IntsAre its ns:=qh rv
 have hlen:=rv.length
 rw [List.length_map] at hlen
 refine call_set_list (ns:=ns) (I.ok.hd hc) hL (by simpa using hI) (by rw [List.size_toArray,← hlen]; exact Nat.lt_of_le_of_lt (Nat.succ_le_succ hn) (by decide)) fun h' tk hS old=>?_
 refine Calls.spliced_nil ?_
 obtain ⟨o,es,ep,t,h1,h2,h3,h4,h5,h6,h7,h8⟩:=hS
 have hb:(firstMet (fun i=>ns.getD i 0) its.toArray.size).length≤900:=Nat.le_trans (firstMet_length_le _ _) (by rw [List.size_toArray,← hlen]; exact hn)
 refine call_len_set h1 h2 h3 h7 (by omega) ?_
 have I2:Inv X pins σ H1 { s1 with heap:=h',toks:=tk }:=I1.kept fun b o' e=>old b o' (Heap.lt_size e) e
 refine ⟨.int _,H1,I2.tok _,⟨_,rfl⟩,?_⟩
 rw [h8,List.size_toArray,← hlen]
 exact q
def fE:V→List V→Hp→VK→Prop
 | .str sep,[.ref p],H,Q=>bnd (unS (H p)) fun ys=>∃ ts:List Str,ys=ts.map V.str∧JoinOk sep ts=true∧Q (.str (Txt.join sep ts)) H
 | _,_,_,_=>False
theorem m8 {X:Cx}:MtR X "str.join" fE:=by
 intro pins s σ H x vs v us Q I rx rv h
 unfold fE at h
 split at h
 · rename_i sep p
   obtain ⟨ys,e,ts,rfl,hok,q⟩:=bc h
   rcases iP (K:=X.K) e with hq | hq
   · obtain ⟨t,rfl⟩:=rx
     obtain ⟨u,rfl,ru⟩:=cL rv
     cases ru
     obtain ⟨its,rvv,pl,hz⟩:=I.list hq
     obtain ⟨l,rfl,hl⟩:=mf rvv
     exact SC.join pl.isList hl hok fun t' k=>⟨.str _,H,I.tok k,⟨t',rfl⟩,q⟩
   · obtain ⟨t,rfl⟩:=rx
     obtain ⟨u,rfl,ru⟩:=cL rv
     cases ru
     obtain ⟨its,rvv,pl,hz⟩:=I.tuple hq
     obtain ⟨l,rfl,hl⟩:=mf rvv
     subst hl
     obtain ⟨o,h1,h2,n,h3⟩:=pl
     have hok':=hok
     unfold JoinOk at hok'
     rw [Bool.not_eq_true'] at hok'
     exact call_meets F.slot_str_join (typeIs_str _ _ _) F.entry_str_join (F.args_str_join_2 _ _) (meets_str_join_tuple sep t p l hok') ⟨⟨o,n,h1,h2,h3⟩,post_join l ⟨joinFit_length hok',fun t' k=>⟨.str _,H,I.tok k,⟨t',rfl⟩,q⟩⟩⟩
 · exact h.elim
end L2
namespace L2
open PySem PySem.Spec PyProof.Rows
section
variable {X:Cx} {e:Expr} {te:TE} {p2 p3 p4 pos:Pos} {z0:Nat}
def lf:V→List V→Hp→VK→Prop
 | .ref l,[.int i],H,Q=>bnd (unM (H l)) fun xs=>0≤i∧i < xs.length∧bnd (xs[i.toNat]?) fun y=>Q y (upd H l (.lst (xs.eraseIdx i.toNat)))
 | _,_,_,_=>False
theorem seqIx {i:Int} {n:Nat} (h0:0≤i) (h1:i < n):seqIndex? i n=some i.toNat:=by
 obtain ⟨k,rfl⟩:=Int.eq_ofNat_of_zero_le h0
 have hk:k < n:=by omega
 unfold seqIndex?
 have hn:¬ ((k:Int) < 0):=by omega
 simp [hk,hn]
theorem rO:MtR X "list.pop" lf:=by
 intro pins s σ H x vs v us Q I rx rv h
 unfold lf at h
 split at h
 · obtain ⟨xs,e,h0,h1,h⟩:=bc h
   obtain ⟨y,ey,q⟩:=bc h
   have hz:xs.length≤sizeLine:=(I.lstM (gR e)).1
   have hs:(sizeLine:Int) < 2^63:=by decide
   exact ss pins s σ H _ _ v us Q I rx rv ⟨_,xs,_,_,y,rfl,rfl,gR e,by omega,by omega,seqIx h0 h1,ey,q⟩
 · exact h.elim
def tRevL (te:TE):TE:=fun σ H Q=>te σ H fun x H1=>∃ p xs,x=.ref p∧H1 p=some (.lst xs)∧∀ l,H1 l=none→Q (.ref l) (upd H1 l (.lst xs.reverse))
end
section
variable {σ:St} {H:Hp} {Q:VK} {te:TE}
theorem qA {i j:Int} {H:Hp} {Q:VK}:kMax [.int i,.int j] H Q=Q (.int (if j > i then j else i)) H:=rfl
theorem oY:tRevL te σ H Q=te σ H fun x H1=>∃ p xs,x=.ref p∧H1 p=some (.lst xs)∧∀ l,H1 l=none→Q (.ref l) (upd H1 l (.lst xs.reverse)):=rfl
theorem tV {l:Addr} {i:Int} {xs:List V} {y:V} (hl:H l=some (.lst xs)) (h0:0≤i) (h1:i < xs.length) (ey:xs[i.toNat]? =some y) (q:Q y (upd H l (.lst (xs.eraseIdx i.toNat)))):lf (.ref l) [.int i] H Q:=by
 show bnd (unM (H l)) _
 rw [hl]
 exact ce (a:=xs) rfl ⟨h0,h1,ce ey q⟩
end
end L2
namespace L2
open PySem PySem.Spec PyProof.Rows
theorem lh:typeLookup (.type "str") (Str.ofString "__int__")=pure none:=by rw [typeLookup_type,builtinLookup_eq_fast]; kernel_rfl
theorem iY:typeLookup (.type "str") (Str.ofString "__index__")=pure none:=by rw [typeLookup_type,builtinLookup_eq_fast]; kernel_rfl
theorem iZ:typeLookup (.type "str") (Str.ofString "__trunc__")=pure none:=by rw [typeLookup_type,builtinLookup_eq_fast]; kernel_rfl
def numC (n:Nat):List Nat:=if n < 10 then [48+n] else [48+n / 10,48+n % 10]
theorem rP {n:Nat} (h:n < 100):((tx (numC n)).cps.all fun x=>decide (x < 128))=true:=by
 have t:((List.range 100).all fun n=>(tx (numC n)).cps.all fun x=>decide (x < 128))=true:=by decide+kernel
 exact List.all_eq_true.mp t n (List.mem_range.mpr h)
theorem m9 {α:Type} {M:Model} {A:Around} {E:Value→Shared→Prop} {s:Shared} {Q:α→Shared→Prop} {m m':Sem α} (e:m=m') (h:wpAny M A m' Q E s):wpAny M A m Q E s:=e ▸ h
set_option maxHeartbeats 4000000 in
theorem gis (n:Nat) (hn:n < 100) (u:Tok):Gives (Builtin.«int.__new__» ⟨[.type "int",.str (tx (numC n)) u],[]⟩) (.int n):=
 .of_wp fun M A E s Q h=>by
  obtain ⟨hp,g,d,tk,os⟩:=s
  have f1:=PySem.F.conv_sub_int
  have f2:=PySem.F.madeHere_int
  have f3:=lh
  have f4:=iY
  have f5:=iZ
  iterate 44 (any_goals (first | assumption | wp_step))
  refine wpAny_bind (wpAny_of_eq (a:=some (tx (numC n))) rfl ?_)
  refine wpAny_of_eq (a:=some (numC n)) ?e1 ?_
  case e1=>
   show (pure (some (if ((tx (numC n)).cps.all fun x=>decide (x < 128))=true then (tx (numC n)).cps.toList else _)):Sem _)=_
   rw [if_pos (rP hn),iT]
  refine m9 (m':=mkInt (n:Int)) ?e2 ?_
  case e2=>
   clear h f1 f2 f3 f4 f5
   match n,hn with | 0,_=>kernel_rfl | 1,_=>kernel_rfl | 2,_=>kernel_rfl | 3,_=>kernel_rfl | 4,_=>kernel_rfl | 5,_=>kernel_rfl | 6,_=>kernel_rfl | 7,_=>kernel_rfl | 8,_=>kernel_rfl | 9,_=>kernel_rfl | 10,_=>kernel_rfl | 11,_=>kernel_rfl | 12,_=>kernel_rfl | 13,_=>kernel_rfl | 14,_=>kernel_rfl | 15,_=>kernel_rfl | 16,_=>kernel_rfl | 17,_=>kernel_rfl | 18,_=>kernel_rfl | 19,_=>kernel_rfl | 20,_=>kernel_rfl | 21,_=>kernel_rfl | 22,_=>kernel_rfl | 23,_=>kernel_rfl | 24,_=>kernel_rfl | 25,_=>kernel_rfl | 26,_=>kernel_rfl | 27,_=>kernel_rfl | 28,_=>kernel_rfl | 29,_=>kernel_rfl | 30,_=>kernel_rfl | 31,_=>kernel_rfl | 32,_=>kernel_rfl | 33,_=>kernel_rfl | 34,_=>kernel_rfl | 35,_=>kernel_rfl | 36,_=>kernel_rfl | 37,_=>kernel_rfl | 38,_=>kernel_rfl | 39,_=>kernel_rfl | 40,_=>kernel_rfl | 41,_=>kernel_rfl | 42,_=>kernel_rfl | 43,_=>kernel_rfl | 44,_=>kernel_rfl | 45,_=>kernel_rfl | 46,_=>kernel_rfl | 47,_=>kernel_rfl | 48,_=>kernel_rfl | 49,_=>kernel_rfl | 50,_=>kernel_rfl | 51,_=>kernel_rfl | 52,_=>kernel_rfl | 53,_=>kernel_rfl | 54,_=>kernel_rfl | 55,_=>kernel_rfl | 56,_=>kernel_rfl | 57,_=>kernel_rfl | 58,_=>kernel_rfl | 59,_=>kernel_rfl | 60,_=>kernel_rfl | 61,_=>kernel_rfl | 62,_=>kernel_rfl | 63,_=>kernel_rfl | 64,_=>kernel_rfl | 65,_=>kernel_rfl | 66,_=>kernel_rfl | 67,_=>kernel_rfl | 68,_=>kernel_rfl | 69,_=>kernel_rfl | 70,_=>kernel_rfl | 71,_=>kernel_rfl | 72,_=>kernel_rfl | 73,_=>kernel_rfl | 74,_=>kernel_rfl | 75,_=>kernel_rfl | 76,_=>kernel_rfl | 77,_=>kernel_rfl | 78,_=>kernel_rfl | 79,_=>kernel_rfl | 80,_=>kernel_rfl | 81,_=>kernel_rfl | 82,_=>kernel_rfl | 83,_=>kernel_rfl | 84,_=>kernel_rfl | 85,_=>kernel_rfl | 86,_=>kernel_rfl | 87,_=>kernel_rfl | 88,_=>kernel_rfl | 89,_=>kernel_rfl | 90,_=>kernel_rfl | 91,_=>kernel_rfl | 92,_=>kernel_rfl | 93,_=>kernel_rfl | 94,_=>kernel_rfl | 95,_=>kernel_rfl | 96,_=>kernel_rfl | 97,_=>kernel_rfl | 98,_=>kernel_rfl | 99,_=>kernel_rfl | (m+100),hm=>exact absurd hm (by omega)
  repeat (any_goals (first | assumption | wp_step))
  all_goals first | exact ⟨_,rfl,h⟩ | skip
def sW:List V→Hp→VK→Prop
 | [.int i],H,Q=>Q (.int i) H
 | [.bl k],H,Q=>Q (.int (if k then 1 else 0)) H
 | [.str z],H,Q=>∃ n:Nat,n < 100∧z=tx (numC n)∧Q (.int n) H
 | _,_,_=>False
theorem mt {k:Bool} {H:Hp} {Q:VK}:sW [.bl k] H Q=Q (.int (if k then 1 else 0)) H:=rfl
theorem mw {i:Int} {H:Hp} {Q:VK}:sW [.int i] H Q=Q (.int i) H:=rfl
theorem gb {n:Nat} (h:n < 100):Str.ofString (toString (n:Int))=tx (numC n):=by
 have t:((List.range 100).all fun (n:Nat)=>decide (Str.ofString (toString (n:Int))=tx (numC n)))=true:=by decide+kernel
 simpa using List.all_eq_true.mp t n (List.mem_range.mpr h)
theorem gm {n:Nat} (h:n < 100):32∉numC n:=by
 have t:((List.range 100).all fun (n:Nat)=>decide (32∉numC n))=true:=by decide+kernel
 simpa using List.all_eq_true.mp t n (List.mem_range.mpr h)
theorem fb {n:Nat}:(numC n).length≤2:=by unfold numC; split <;> simp
theorem tW {n:Nat} (h:n < 100):∀ c∈numC n,48≤c∧c≤57:=by
 have t:((List.range 100).all fun (n:Nat)=>(numC n).all fun c=>decide (48≤c∧c≤57))=true:=by decide+kernel
 intro c hc
 simpa using List.all_eq_true.mp (List.all_eq_true.mp t n (List.mem_range.mpr h)) c hc
end L2
namespace L2
open PySem PySem.Spec PyProof.Rows
local macro_rules | `(tactic| walk_at "w")=>`(tactic| (first | simp only [aF,aX,jn,bV,il,w_c,km,im,gS,gU,gh,w_b,w_not,jo,ma,gW,gX,jp,jq,gY,md,gZ,jr,js,me,jt,gi,g5,g6,g7,fW,fX,eN,eP,eQ,dO,ju,jv,jw,jx,jy,jz,jA,jB,jC,jD,jE,jF,mh,g8,eW,g9,mi,hJ,fY,eY,jG,jH,hV,gj,hZ,
 List.getElem?_cons_zero,List.getElem?_cons_succ,Option.some.injEq,exists_eq_left',exists_eq_left,List.set_cons_zero,List.set_cons_succ,dG,V.int.injEq,V.bl.injEq,V.ref.injEq,V.str.injEq,List.append_nil,List.nil_append,List.cons_append] | dsimp only | skip))
def aV (K:PySem.W.Frag):Sp:=fun vs H Q _=>∃ (a:Addr) (h w g:Int),vs=[.ref a]∧IsFl H a h w g∧1≤h∧h≤6∧Q (.int (h*w)) H
theorem nu {K:PySem.W.Frag} {vs:List V} {H:Hp} {Q:VK} {E:XK} (h:aV K vs H Q E):vs.length=1:=by
 obtain ⟨_,_,_,_,rfl,_⟩:=h; rfl
def dz (K:PySem.W.Frag):TS:=
 (tRet (tOp cMul (tOp cIx (tVar 0) (tC (.int 0))) (tOp cIx (tVar 0) (tC (.int 1)))))
theorem nv {K:PySem.W.Frag} {vs:List V} {H:Hp} {Q:VK} {E:XK} (h:aV K vs H Q E):dz K { nx:=fun _ H'=>Q .non H',rt:=Q } (start ["floor"] vs) H:=by
 obtain ⟨a,h,w,g,rfl,ha,h0,h1,q⟩:=h
 show dz K _ [some (.ref a)] H
 unfold dz
 walk_at "w"
 rw [sy ha]
 refine ce (a:=V.int h) rfl ?_
 walk_at "w"
 rw [sy ha]
 refine ce (a:=V.int w) rfl ?_
 walk_at "w"
 exact ⟨fC h0 h1,q⟩
end L2
namespace L2
open PySem PySem.Spec PyProof.Rows
local macro_rules | `(tactic| walk_at "w")=>`(tactic| (first | simp only [aF,rM,qz,kI,oY,mt,mw,qA,qu,oQ,qy,if_true,if_false,Bool.false_eq_true,decide_true,decide_false,mm,mn,qw,kx,iW,mj,oM,ml,kq,oI,oJ,ko,qo,ky,kz,kB,kC,kD,kE,kA,oR,oS,oU,oH,qv,Bool.not_true,Bool.not_false,aX,jn,bV,il,w_c,km,im,gS,gU,gh,w_b,w_not,jo,ma,gW,gX,jp,jq,gY,md,gZ,jr,js,me,jt,gi,g5,g6,g7,fW,fX,eN,eP,eQ,dO,ju,jv,jw,jx,jy,jz,jA,jB,jC,jD,jE,jF,mh,g8,eW,g9,mi,hJ,fY,eY,jG,jH,hV,gj,hZ,
 List.getElem?_cons_zero,List.getElem?_cons_succ,Option.some.injEq,exists_eq_left',exists_eq_left,List.set_cons_zero,List.set_cons_succ,dG,V.int.injEq,V.bl.injEq,V.ref.injEq,V.str.injEq,List.append_nil,List.nil_append,List.cons_append] | dsimp only | skip))
def nmC:RK→List Nat
 | .Rule=>[]
 | .Unlike=>[117,110,108,105,107,101]
 | .Sum=>[115,117,109]
 | .Rising=>[114,105,115,105,110,103]
 | .Seen=>[115,101,101,110]
 | .Count=>[99,111,117,110,116]
 | .Joined=>[106,111,105,110,101,100]
 | .NoSquare=>[110,111,115,113,117,97,114,101]
 | .Ring=>[114,105,110,103]
def bK:List Str:=[tx [115,117,109],tx [115,101,101,110],tx [99,111,117,110,116]]
def cF:List Str:=[tx [99,111,117,110,116],tx [106,111,105,110,101,100],tx [110,111,115,113,117,97,114,101],tx [114,105,110,103]]
def bA:List Str:=[tx [106,111,105,110,101,100],tx [110,111,115,113,117,97,114,101],tx [114,105,110,103]]
def rFs (p W C:Addr) (n m:Int):List (Str × V):=[("floor",.ref p),("words",.ref W),("cells",.ref C),("amount",.int n),("mark",.int m)]
structure IsRule (H:Hp) (c:RCl RK) (k:RK) (r p:Addr) (ws:List (List Nat)) (cs:List Int) (n m:Int):Prop where
 ok:c.ok k=true
 ex:∃ dx W C,H r=some (.ins (c.A k) dx (rFs p W C n m))∧H W=some (.tup ((ws.map tx).map V.str))∧H C=some (.tup (cs.map V.int))
theorem IsRule.same {H H':Hp} {c:RCl RK} {k:RK} {r p:Addr} {ws:List (List Nat)} {cs:List Int} {n m:Int} (x:IsRule H c k r p ws cs n m) (s:Same H H'):IsRule H' c k r p ws cs n m:=by
 obtain ⟨dx,W,C,h1,h2,h3⟩:=x.ex
 exact ⟨x.ok,dx,W,C,s _ _ h1,s _ _ h2,s _ _ h3⟩
section
variable {ι:Type} {c:RCl ι} {σ:St} {H:Hp} {Q:VK} {i:Nat} {r dx:Addr} {k:ι} {fs:List (Str × V)} {f m:Str} {v:V} {okm:ι→Bool} {sp:ι→Sp} {t:TA} {D:Ends} {tv:TE} {y:V} {H1:Hp}
theorem fldE (hσ:σ[i]? =some (some (.ref r))) (ok:c.ok k=true) (hr:H r=some (.ins (c.A k) dx fs)) (hl:fs.lookup f=some v) (q:Q v H):tFldK c (tVar i) f σ H Q:=⟨_,hσ,r,k,dx,fs,v,rfl,ok,hr,hl,q⟩
theorem methE (hσ:σ[i]? =some (some (.ref r))) (ok:okm k=true) (hr:H r=some (.ins (c.A k) dx fs)) (hl:fs.lookup m=none) (q:t σ H fun vs H2=>sp k (.ref r::vs) H2 Q E0):fD c okm m sp (tVar i) t σ H Q:=⟨_,hσ,r,k,dx,fs,rfl,ok,hr,hl,q⟩
theorem sfldV {j:Nat} {x:V} (hj:σ[j]? =some (some x)) (hσ:σ[i]? =some (some (.ref r))) (ok:c.ok k=true) (hr:H r=some (.ins (c.A k) dx fs)) (hn:fs.length < 1000) (q:D.nx σ (upd H r (.ins (c.A k) dx (putF f x fs)))):sFldK c (tVar i) (tVar j) f D σ H:=
 ⟨x,hj,_,hσ,r,k,dx,fs,rfl,ok,hr,hn,q⟩
theorem sfldT {K:PySem.W.Frag} {j:Nat} {p:Addr} {xs:List V} (hj:σ[j]? =some (some (.ref p))) (hp:H p=some (.lst xs)) (hσ:σ[i]? =some (some (.ref r))) (ok:c.ok k=true) (hr:H r=some (.ins (c.A k) dx fs)) (hn:fs.length < 1000)
  (q:∀ l,H l=none→D.nx σ (upd (upd H l (.tup xs)) r (.ins (c.A k) dx (putF f (.ref l) fs)))):sFldK c (tVar i) (tCB (gl K) (tCons (tVar j) tNil)) f D σ H:=by
 unfold sFldK
 walk_at "w"
 refine ⟨_,hj,tT hp fun l hl=>?_⟩
 exact ⟨_,hσ,r,k,dx,fs,rfl,ok,by rw [ah (ar hr hl)]; exact hr,hn,q l hl⟩
end
theorem tX {H:Hp} {Q:VK} {sep:Str} {p:Addr} {ts:List Str} (hp:H p=some (.tup (ts.map V.str))) (hok:JoinOk sep ts=true) (h:Q (.str (Txt.join sep ts)) H):fE (.str sep) [.ref p] H Q:=by
 unfold fE
 dsimp only
 rw [hp]
 exact ⟨ts,rfl,hok,h⟩
theorem tY {H:Hp} {Q:VK} {sep:Str} {p:Addr} {ts:List Str} (hp:H p=some (.lst (ts.map V.str))) (hok:JoinOk sep ts=true) (h:Q (.str (Txt.join sep ts)) H):fE (.str sep) [.ref p] H Q:=by
 unfold fE
 dsimp only
 rw [hp]
 exact ⟨ts,rfl,hok,h⟩
def ib (K:PySem.W.Frag) (c:RCl RK) (k:RK):Sp:=fun vs H Q _=>∃ (r p:Addr) (ws:List (List Nat)) (cs:List Int) (n m:Int),vs=[.ref r]∧IsRule H c k r p ws cs n m∧ws.length≤100∧(∀ w∈ws,w.length≤100)∧Q (.str (tx (catL 32 ws))) H
def ai (K:PySem.W.Frag) (c:RCl RK):Sp:=fun vs H Q _=>∃ (k:RK) (x dx p W C:Addr) (ws:List (List Nat)) (cs:List Int) (n m:Int),vs=[.ref x,.ref p,.ref W,.ref C,.int n,.int m]∧c.ok k=true∧H x=some (.ins (c.A k) dx [])∧W≠x∧C≠x∧
 H W=some (.lst ((ws.map tx).map V.str))∧H C=some (.lst (cs.map V.int))∧∀ H',(∀ b o,b≠x→H b=some o→H' b=some o)→IsRule H' c k x p ws cs n m→Q .non H'
theorem kJ {K:PySem.W.Frag} {c:RCl RK} {vs:List V} {H:Hp} {Q:VK} {E:XK} (h:ai K c vs H Q E):vs.length=6:=by
 obtain ⟨_,_,_,_,_,_,_,_,_,_,rfl,_⟩:=h; rfl
def cM (K:PySem.W.Frag) (c:RCl RK):TS:=
 (tSeq (sFldK c (tVar 0) (tVar 1) "floor")
  (tSeq (sFldK c (tVar 0) (tCB (gl K) (tCons (tVar 2) tNil)) "words")
  (tSeq (sFldK c (tVar 0) (tCB (gl K) (tCons (tVar 3) tNil)) "cells")
  (tSeq (sFldK c (tVar 0) (tVar 4) "amount")
  (sFldK c (tVar 0) (tVar 5) "mark")))))
theorem kK {K:PySem.W.Frag} {c:RCl RK} {vs:List V} {H:Hp} {Q:VK} {E:XK} (h:ai K c vs H Q E):cM K c { nx:=fun _ H'=>Q .non H',rt:=Q } (start ["self","floor","words","cells","amount","mark"] vs) H:=by
 obtain ⟨k,x,dx,p,W,C,ws,cs,n,m,rfl,ok,hx,nW,nC,hW,hC,q⟩:=h
 show cM K c _ [some (.ref x),some (.ref p),some (.ref W),some (.ref C),some (.int n),some (.int m)] H
 unfold cM
 walk_at "w"
 refine sfldV (k:=k) (j:=1) rfl rfl ok hx (by decide) ?_
 walk_at "w"
 refine sfldT (k:=k) (j:=2) (p:=W) rfl (by rw [ah nW]; exact hW) rfl ok ad (by show (1:Nat) < 1000; decide) fun l1 h1=>?_
 have n1:l1≠x:=fun e=>by rw [e,ad] at h1; cases h1
 have g1:H l1=none:=by rw [ah n1] at h1; exact h1
 walk_at "w"
 refine sfldT (k:=k) (j:=3) (p:=C) rfl (by rw [ah nC,ah (ar hC g1),ah nC]; exact hC) rfl ok ad (by show (2:Nat) < 1000; decide) fun l2 h2=>?_
 have n2:l2≠x:=fun e=>by rw [e,ad] at h2; cases h2
 have n21:l2≠l1:=fun e=>by rw [e,ah n1,ad] at h2; cases h2
 have g2:H l2=none:=by rw [ah n2,ah n21,ah n2] at h2; exact h2
 walk_at "w"
 refine sfldV (k:=k) (j:=4) rfl rfl ok ad (by show (3:Nat) < 1000; decide) ?_
 refine sfldV (k:=k) (j:=5) rfl rfl ok ad (by show (4:Nat) < 1000; decide) ?_
 refine q _ (fun b o hb e=>?_) ⟨ok,dx,l1,l2,by rw [ad]; rfl,?_,?_⟩
 · rw [ah hb,ah hb,ah hb,ah (ar e g2),ah hb,ah (ar e g1),ah hb]
   exact e
 · rw [ah n1,ah n1,ah n1,ah n21.symm,ah n1,ad]
 · rw [ah n2,ah n2,ah n2,ad]
def ee (K:PySem.W.Frag) (c:RCl RK):Sp:=fun vs H Q E=>∃ k,ib K c k vs H Q E
theorem oZ {K:PySem.W.Frag} {c:RCl RK} {vs:List V} {H:Hp} {Q:VK} {E:XK} (h:ee K c vs H Q E):vs.length=1:=by
 obtain ⟨_,_,_,_,_,_,_,rfl,_⟩:=h; rfl
def ei (K:PySem.W.Frag) (c:RCl RK):TS:=
 (tRet (tBM K "str" fE (tC (.str (tx [32]))) (tCons (tFldK c (tVar 0) "words") tNil)))
theorem o4 {K:PySem.W.Frag} {c:RCl RK} {vs:List V} {H:Hp} {Q:VK} {E:XK} (h:ee K c vs H Q E):ei K c { nx:=fun _ H'=>Q .non H',rt:=Q } (start ["self"] vs) H:=by
 obtain ⟨k,r,p,ws,cs,n,m,rfl,x,hn,hw,q⟩:=h
 obtain ⟨dx,W,C,h1,h2,h3⟩:=x.ex
 show ei K c _ [some (.ref r)] H
 unfold ei
 walk_at "w"
 refine ⟨qm,fldE rfl x.ok h1 (v:=.ref W) (by rfl) ?_⟩
 walk_at "w"
 refine tX h2 (iV (by rw [List.length_map]; omega) (fun t ht=>by obtain ⟨y,hy,rfl⟩:=List.mem_map.mp ht; rw [bR]; have:=hw y hy; omega) (by rw [bR]; decide)) ?_
 rw [oN,jK]
 exact q
def WOk (ws:List (List Nat)):Prop:=∀ w∈ws,∀ c∈w,c < 128
theorem jN {n:Nat} (h:n < 100):∀ c∈numC n,c < 128:=fun c hc=>by have:=tW h c hc; omega
theorem sX {w:List Nat} (h:∀ c∈w,c < 128):PyData.strOk (tx w)=true:=by
 unfold PyData.strOk
 simp [tx]
 intro c hc
 have:=h c hc
 omega
theorem WOk.strs {ws:List (List Nat)} (h:WOk ws):∀ x∈ws.map tx,PyData.strOk x=true:=fun x hx=>by
 obtain ⟨w,hw,rfl⟩:=List.mem_map.mp hx
 exact sX (h w hw)
theorem DVs.strs {K:PySem.W.Frag} {H:Hp}:∀ ns:List Str,DVs K H (ns.map V.str) (ns.map PyData.str)
 | []=>.nil
 | n::r=>.cons (.str n) (DVs.strs r)
theorem nc (a b:Str):PyData.eqv (.str a) (.str b)=decide (a=b):=by
 rw [PyData.eqv]
 by_cases h:a=b
 · subst h; simp
 · simp [h]
theorem ft (ns:List Str) (hs:∀ x∈ns,PyData.strOk x=true):SeqAt.shaped (.list (ns.map PyData.str))=true:=by
 have h1:PyData.canLayAll0 (ns.map PyData.str)=true:=mq fun d hd=>by obtain ⟨x,hx,rfl⟩:=List.mem_map.mp hd; rw [PyData.canLay0]; exact hs x hx
 have h2:PyData.depthAll (ns.map PyData.str)≤0:=iS fun d hd=>by obtain ⟨x,_,rfl⟩:=List.mem_map.mp hd; exact Nat.le_refl _
 simp [SeqAt.shaped,PyData.canLay0,h1,PyData.depth]
 omega
theorem rQ {K:PySem.W.Frag} {H:Hp} {Q:VK} {p q:Addr} {xs ys:List Str} (hp:H p=some (.lst (xs.map V.str))) (hq:H q=some (.lst (ys.map V.str))) (h1:∀ x∈xs,PyData.strOk x=true) (h2:∀ x∈ys,PyData.strOk x=true) (h:Q (.bl (decide (xs=ys))) H):cEq K (.ref p) (.ref q) H Q:=by
 show rEqD K (.ref p) (.ref q) H Q
 refine ⟨.list (xs.map PyData.str),.list (ys.map PyData.str),.lst (SqL.of hp) (.strs xs),.lst (SqL.of hq) (.strs ys),ft xs h1,ft ys h2,?_⟩
 rw [PyData.eqv,jJ PyData.str nc]
 exact h
theorem uX {K:PySem.W.Frag} {H:Hp} {Q:VK} {p q:Addr} {xs ys:List Str} (hp:H p=some (.lst (xs.map V.str))) (hq:H q=some (.lst (ys.map V.str))) (h1:∀ x∈xs,PyData.strOk x=true) (h2:∀ x∈ys,PyData.strOk x=true) (h:Q (.bl (!decide (xs=ys))) H):cNe K (.ref p) (.ref q) H Q:=by
 show rNeD K (.ref p) (.ref q) H Q
 refine ⟨.list (xs.map PyData.str),.list (ys.map PyData.str),.lst (SqL.of hp) (.strs xs),.lst (SqL.of hq) (.strs ys),ft xs h1,ft ys h2,?_⟩
 rw [PyData.eqv,jJ PyData.str nc]
 exact h
theorem sJ (acc:List Int) (v:Int):(step_dedup acc v).length≤acc.length+1:=by
 unfold step_dedup
 split <;> simp
theorem o5:∀ (l acc:List Int),(l.foldl step_dedup acc).length≤acc.length+l.length
 | [],acc=>by simp
 | x::r,acc=>by
  have h1:=o5 r (step_dedup acc x)
  have h2:=sJ acc x
  rw [List.foldl_cons,List.length_cons]
  omega
theorem kd:∀ (l acc:List Int),acc.Nodup→((l.foldl step_dedup acc).length=acc.length+l.length↔(acc++l).Nodup)
 | [],acc,h=>by simpa using h
 | x::r,acc,h=>by
  rw [List.foldl_cons]
  by_cases hx:x∈acc
  · have e:step_dedup acc x=acc:=by
     unfold step_dedup
     rw [if_pos (by simpa using hx)]
    rw [e]
    have:=o5 r acc
    constructor
    · intro z
      rw [List.length_cons] at z
      omega
    · intro z
      have:=(List.nodup_append.mp z).2.2 x hx x List.mem_cons_self
      exact absurd rfl this
  · have e:step_dedup acc x=acc++[x]:=by
     unfold step_dedup
     rw [if_neg (by simpa using hx)]
    rw [e]
    have hn:(acc++[x]).Nodup:=List.nodup_append.mpr ⟨h,by simp,fun a ha b hb z=>hx (by rw [List.mem_singleton.mp hb] at z; exact z ▸ ha)⟩
    have ih:=kd r (acc++[x]) hn
    rw [List.length_append,List.length_singleton] at ih
    rw [List.length_cons,show acc.length+(r.length+1)=acc.length+1+r.length by omega,show acc++x::r=acc++[x]++r by simp]
    exact ih
theorem mx (ns:List Int):(List.range ns.length).map (fun i=>ns.getD i 0)=ns:=by
 have:=nr ns (fun x=>x)
 simpa using this
theorem sK (ns:List Int):cntD ns=ns.length↔ns.Nodup:=by
 unfold cntD firstMet
 rw [mx]
 have:=kd ns [] List.nodup_nil
 simpa using this
theorem io {ns:List Nat} (h:ns.Nodup):(ns.map fun (n:Nat)=>(n:Int)).Nodup:=by
 induction ns with
 | nil=>exact List.nodup_nil
 | cons a r ih=>
  rw [List.nodup_cons] at h
  rw [List.map_cons,List.nodup_cons]
  refine ⟨fun z=>?_,ih h.2⟩
  obtain ⟨b,hb,e⟩:=List.mem_map.mp z
  exact h.1 (by have:b=a:=by omega
                exact this ▸ hb)
def allK:RK→Bool
 | .Joined=>true
 | .NoSquare=>true
 | .Ring=>true
 | _=>false
def numK:RK→Bool
 | .Sum=>true
 | .Seen=>true
 | .Count=>true
 | _=>false
def sgnK:RK→Bool
 | .Count=>true
 | .Joined=>true
 | .NoSquare=>true
 | .Ring=>true
 | _=>false
theorem uY (k:RK):decide (tx (nmC k)∈bA)=allK k:=by cases k <;> decide+kernel
theorem uZ (k:RK):decide (tx (nmC k)∈bK)=numK k:=by cases k <;> decide+kernel
theorem u7 (k:RK):decide (tx (nmC k)∈cF)=sgnK k:=by cases k <;> decide+kernel
structure tZ (k:RK) (h w:Int) (ns:List Nat) (cs:List Int):Prop where
 told:allK k=false→ns≠[]∧ns.length≤16∧(∀ n∈ns,(n:Int) < h*w)∧ns.Nodup∧cs=ns.map fun (n:Nat)=>(n:Int)
 all:allK k=true→ns=[]∧cs=rngL 0 (h*w)
theorem t0 {K:PySem.W.Frag} {c:RCl RK} {H:Hp} {Q:VK} {k:RK} {p W C:Addr} {ws:List (List Nat)} {cs:List Int} {n m:Int} (ok:c.ok k=true) (hW:H W=some (.lst ((ws.map tx).map V.str))) (hC:H C=some (.lst (cs.map V.int))) (q:∀ r H',Same H H'→H r=none→IsRule H' c k r p ws cs n m→Q (.ref r) H'):
  ∀ x dx,H x=none→H dx=none→dx≠x→ai K c (.ref x::([.ref p,.ref W,.ref C,.int n,.int m]++[])) (upd (upd H dx (.own x)) x (.ins (c.A k) dx [])) (fun v H2=>v=.non∧Q (.ref x) H2) E0:=by
 intro x dx hx hd ne
 refine ⟨k,x,dx,p,W,C,ws,cs,n,m,rfl,ok,ad,ar hW hx,ar hC hx,?_,?_,fun H' hs hr=>⟨rfl,q x H' (fun b o e=>hs b o (ar e hx) ?_) hx hr⟩⟩
 · rw [ah (ar hW hx),ah (ar hW hd)]; exact hW
 · rw [ah (ar hC hx),ah (ar hC hd)]; exact hC
 · rw [ah (ar e hx),ah (ar e hd)]; exact e
def rowW (k:RK) (n m:Nat) (ns:List Nat):List (List Nat):=nmC k::((if numK k then [numC n] else [])++(if sgnK k then [numC m] else [])++ns.map numC)
structure rR (k:RK) (h w g:Int) (n m:Nat) (ns:List Nat) (cs:List Int):Prop where
 k0:k≠.Rule
 n0:n≤99
 nz:numK k=false→n=0
 m0:sgnK k=true→1≤(m:Int)∧(m:Int)≤g
 mz:sgnK k=false→m=0
 cl:tZ k h w ns cs
 ns0:∀ x∈ns,x < 100
 len:ns.length≤16
theorem my (k:RK):32∉nmC k:=by cases k <;> decide
theorem sY (k:RK):∀ c∈nmC k,c < 128:=by cases k <;> decide
theorem rS {k:RK} {n m:Nat} {ns:List Nat} (hn:n < 100) (hm:m < 100) (hs:∀ x∈ns,x < 100):∀ r∈rowW k n m ns,32∉r:=by
 intro r hr
 unfold rowW at hr
 rcases List.mem_cons.mp hr with rfl | hr
 · exact my k
 rcases List.mem_append.mp hr with hr | hr
 · rcases List.mem_append.mp hr with hr | hr
   · split at hr
     · rw [List.mem_singleton.mp hr]; exact gm hn
     · cases hr
   · split at hr
     · rw [List.mem_singleton.mp hr]; exact gm hm
     · cases hr
 · obtain ⟨x,hx,rfl⟩:=List.mem_map.mp hr
   exact gm (hs x hx)
theorem o6 (xs:List V):cutV xs (some 1) none=xs.drop 1:=by
 unfold cutV
 have h1:HT.sIx xs.length 0 (some 1)=min 1 xs.length:=HT.sIx_nat ..
 have h2:HT.sIx xs.length xs.length none=xs.length:=rfl
 rw [h1,h2]
 cases xs with
 | nil=>rfl
 | cons x r=>
  have:min 1 (x::r).length=1:=by simp
  rw [this]
  show (r).take _=r
  rw [List.take_of_length_le (by simp)]
theorem ke {k:RK} {n m:Nat} {ns:List Nat} (h:ns.length≤16):(rowW k n m ns).length≤100∧∀ w∈rowW k n m ns,w.length≤100:=by
 unfold rowW
 refine ⟨?_,fun w hw=>?_⟩
 · simp only [List.length_cons,List.length_append,List.length_map]
   split <;> split <;> simp <;> omega
 · rcases List.mem_cons.mp hw with rfl | hw
   · cases k <;> decide
   have h2:∀ x,(numC x).length≤100:=fun x=>Nat.le_trans fb (by decide)
   rcases List.mem_append.mp hw with hw | hw
   · rcases List.mem_append.mp hw with hw | hw
     · split at hw
       · rw [List.mem_singleton.mp hw]; exact h2 _
       · cases hw
     · split at hw
       · rw [List.mem_singleton.mp hw]; exact h2 _
       · cases hw
   · obtain ⟨x,hx,rfl⟩:=List.mem_map.mp hw
     exact h2 _
theorem li:∀ (rows:List (List Nat)),(∀ r∈rows,r.length≤100)→(catL 32 rows).length≤101*rows.length
 | [],_=>Nat.zero_le _
 | [x],h=>by
  have:=h x List.mem_cons_self
  show x.length≤101*1
  omega
 | x::y::r,h=>by
  have h1:=h x List.mem_cons_self
  have ih:=li (y::r) fun z hz=>h z (List.mem_cons_of_mem _ hz)
  have e:catL 32 (x::y::r)=x++32::catL 32 (y::r):=by first | rfl | simp [catL]
  rw [e,List.length_append,List.length_cons,List.length_cons]
  omega
theorem ng {α β:Type} (f:α→β):∀ (l:List α) (j:Nat),(l.map f).eraseIdx j=(l.eraseIdx j).map f
 | [],_=>rfl
 | _::_,0=>rfl
 | x::r,j+1=>by
  show f x::(r.map f).eraseIdx j=f x::(r.eraseIdx j).map f
  rw [ng f r j]
theorem lj {α:Type}:∀ (l:List α) (j:Nat) (h:j < l.length),(l[j]::l.eraseIdx j).Perm l
 | [],_,h=>absurd h (by simp)
 | x::r,0,_=>List.Perm.refl _
 | x::r,j+1,h=>by
  have hj:j < r.length:=by simpa using h
  have ih:=lj r j hj
  show (r[j]::x::r.eraseIdx j).Perm (x::r)
  exact (List.Perm.swap x r[j] (r.eraseIdx j)).trans (List.Perm.cons x ih)
theorem i0 {α β:Type} (f:α→β):∀ {l:List α},(l.map f).Nodup→l.Nodup
 | [],_=>List.nodup_nil
 | a::r,h=>by
  rw [List.map_cons,List.nodup_cons] at h
  rw [List.nodup_cons]
  exact ⟨fun z=>h.1 (List.mem_map.mpr ⟨a,z,rfl⟩),i0 f h.2⟩
theorem rT (n:Int):(rngL 0 n).Nodup:=by
 unfold rngL
 have e:(List.range (n - 0).toNat).map (fun (k:Nat)=>0+(k:Int))=(List.range (n - 0).toNat).map fun (k:Nat)=>(k:Int):=List.map_congr_left fun k _=>by omega
 rw [e]
 exact io List.nodup_range
theorem t5 {n x:Int} (h:x∈rngL 0 n):0≤x∧x < n:=by
 unfold rngL at h
 obtain ⟨k,hk,rfl⟩:=List.mem_map.mp h
 have:=List.mem_range.mp hk
 omega
theorem fc {n:Nat} (h:n < 100):((n:Int)).natAbs.log2 < 1920:=by
 have t:((List.range 100).all fun n=>decide (n.log2 < 1920))=true:=by decide+kernel
 have:=List.all_eq_true.mp t n (List.mem_range.mpr h)
 simpa using this
theorem pY {H:Hp} {Q:VK} {n:Nat} (h:n < 100) (q:Q (.str (tx (numC n))) H):kStr [.int (n:Int)] H Q:=by
 refine ⟨fc h,?_⟩
 rw [gb h]
 exact q
theorem rV {K:PySem.W.Frag} {H:Hp} {C:Addr} {cs:List Nat} {fin:Addr→Hp→Prop} (hC:H C=some (.lst ((cs.map fun (n:Nat)=>(n:Int)).map V.int))) (hl:cs.length≤100) (hc:∀ c∈cs,c < 100)
  (hd:∀ l H',H l=none→Same H H'→H' l=some (.lst (((cs.map numC).map tx).map V.str))→fin l H'):CompR (Itl K C) (gName 1) tTrue (tCB kStr (tCons (tVar 1) tNil)) fin [none,none] H:=by
 refine fO (xs:=(cs.map fun (n:Nat)=>(n:Int)).map V.int) (fun _=>true) (fun i=>.str (tx (numC (cs.getD i 0)))) (by simp; omega) (SqL.of hC) ?_ ?_ ?_
 · intro i x H1 R hx s1 k1
   exact k1 _ (Same.refl _)
 · intro i x H1 Q1 hx hb s1 k1
   rw [List.getElem?_map,List.getElem?_map] at hx
   cases e:cs[i]? with
   | none=>rw [e] at hx; cases hx
   | some n=>
    rw [e] at hx
    cases hx
    show tCB kStr _ [none,some (.int (n:Int))] H1 Q1
    walk_at "w"
    have q1:=k1 _ (Same.refl H1)
    have eg:cs.getD i 0=n:=by rw [List.getD,e]; rfl
    rw [eg] at q1
    have:=pY (H:=H1) (Q:=Q1) (hc n (List.mem_of_getElem? e)) q1
    exact this
 · intro l H1 hl1 s1 el
   refine hd l H1 hl1 s1 ?_
   rw [el,cJ,List.length_map,List.length_map,List.map_map,List.map_map]
   congr 2
   refine List.ext_getElem? fun i=>?_
   rw [List.getElem?_map,List.getElem?_map]
   by_cases h:i < cs.length
   · rw [List.getElem?_range h,List.getElem?_eq_getElem h]
     simp [List.getD,h]
   · rw [List.getElem?_eq_none (by simpa using h),List.getElem?_eq_none (by omega)]; rfl
theorem sL {c:Nat} {x:List Nat}:∀ {rs:List (List Nat)},rs≠[]→catL c (x::rs)=x++c::catL c rs
 | [],h=>absurd rfl h
 | y::r,_=>by first | rfl | simp [catL]
end L2
namespace L2
open PySem PySem.Spec PyProof.Rows
section
variable {X:Cx} {a:Expr} {ta:TE} {pos p:Pos} {x:Str} {ws:List Str}
theorem rW (G:GTup X.K X.mg x ws) (ha:PE X a ta) (hg:Gl X x) (hdb:(x==("__debug__":Str))=false:=by decide) (hm:behindInMarks .In (.Name x p)=false:=by with_unfolding_all rfl):PT X (.Compare a [.In] [.Name x p] pos) (tB (tInG ws false ta)):=by
 obtain ⟨q,o,its,n,h1,h2⟩:=G.ex
 have h0:=ap (pos:=pos) (uW ⟨o,its,n,h2⟩) ha (aQ (v:=V.ref q) hg h1 rfl hdb) hm
 intro pins s σ H Q I h
 refine h0 pins s σ H Q I ?_
 have e:(fun (x:V) (H1:Hp)=>∃ z,x=.str z∧∃ k,V.bl (if false=true then !decide (z∈ws) else decide (z∈ws))=.bl k∧Q k H1)=fun x H1=>∃ z,x=.str z∧(V.ref q=V.ref q)∧∃ k,V.bl (decide (z∈ws))=.bl k∧Q k H1:=by
  funext x H1; simp
 have h':ta σ H (fun (x:V) (H1:Hp)=>∃ z,x=.str z∧∃ k,V.bl (if false=true then !decide (z∈ws) else decide (z∈ws))=.bl k∧Q k H1):=h
 rw [e] at h'
 exact h'
theorem t6 (G:GTup X.K X.mg x ws) (ha:PE X a ta) (hg:Gl X x) (hdb:(x==("__debug__":Str))=false:=by decide) (hm:behindInMarks .NotIn (.Name x p)=false:=by with_unfolding_all rfl):PT X (.Compare a [.NotIn] [.Name x p] pos) (tB (tInG ws true ta)):=by
 obtain ⟨q,o,its,n,h1,h2⟩:=G.ex
 have h0:=ap (pos:=pos) (tS ⟨o,its,n,h2⟩) ha (aQ (v:=V.ref q) hg h1 rfl hdb) hm
 intro pins s σ H Q I h
 refine h0 pins s σ H Q I ?_
 have e:(fun (x:V) (H1:Hp)=>∃ z,x=.str z∧∃ k,V.bl (if true=true then !decide (z∈ws) else decide (z∈ws))=.bl k∧Q k H1)=fun x H1=>∃ z,x=.str z∧(V.ref q=V.ref q)∧∃ k,V.bl (!decide (z∈ws))=.bl k∧Q k H1:=by
  funext x H1; simp
 have h':ta σ H (fun (x:V) (H1:Hp)=>∃ z,x=.str z∧∃ k,V.bl (if true=true then !decide (z∈ws) else decide (z∈ws))=.bl k∧Q k H1):=h
 rw [e] at h'
 exact h'
end
end L2
namespace L2
open PySem PySem.Spec PyProof.Rows
local macro_rules | `(tactic| walk_at "w")=>`(tactic| (first | simp only [aF,rM,qz,kI,oY,mt,mw,qA,qu,oQ,qy,if_true,if_false,Bool.false_eq_true,decide_true,decide_false,mm,mn,qw,kx,iW,mj,oM,ml,kq,oI,oJ,ko,qo,ky,kz,kB,kC,kD,kE,kA,oR,oS,oU,oH,qv,Bool.not_true,Bool.not_false,aX,jn,bV,il,w_c,km,im,gS,gU,gh,w_b,w_not,jo,ma,gW,gX,jp,jq,gY,md,gZ,jr,js,me,jt,gi,g5,g6,g7,fW,fX,eN,eP,eQ,dO,ju,jv,jw,jx,jy,jz,jA,jB,jC,jD,jE,jF,mh,g8,eW,g9,mi,hJ,fY,eY,jG,jH,hV,gj,hZ,
 List.getElem?_cons_zero,List.getElem?_cons_succ,Option.some.injEq,exists_eq_left',exists_eq_left,List.set_cons_zero,List.set_cons_succ,dG,V.int.injEq,V.bl.injEq,V.ref.injEq,V.str.injEq,List.append_nil,List.nil_append,List.cons_append] | dsimp only | skip))
inductive PzK where
 | Puzzle
 deriving DecidableEq
structure RR where
 k:RK
 n:Nat
 m:Nat
 ns:List Nat
 cs:List Int
def RR.ws (r:RR):List (List Nat):=rowW r.k r.n r.m r.ns
def RR.txt (r:RR):Str:=tx (catL 32 r.ws)
def RR.Ok (r:RR) (h w g:Int):Prop:=rR r.k h w g r.n r.m r.ns r.cs
theorem rX:∀ {rs:List (List Nat)},(∀ r∈rs,∀ c∈r,c < 128)→∀ c∈catL 32 rs,c < 128
 | [],_,c,hc=>by simp [catL] at hc
 | [x],h,c,hc=>h x List.mem_cons_self c (by first | exact hc | simpa [catL] using hc)
 | x::y::r,h,c,hc=>by
  rw [sL (by simp)] at hc
  rcases List.mem_append.mp hc with hc | hc
  · exact h x List.mem_cons_self c hc
  rcases List.mem_cons.mp hc with rfl | hc
  · decide
  · exact rX (fun z hz=>h z (List.mem_cons_of_mem _ hz)) c hc
theorem RR.wok {r:RR} {h w g:Int} (F:FlOk h w g) (O:r.Ok h w g):∀ x∈r.ws,∀ c∈x,c < 128:=by
 intro x hx
 unfold RR.ws rowW at hx
 have hm:r.m < 100:=by
  by_cases hs:sgnK r.k=true
  · have:=(O.m0 hs).2
    have:=F.g1
    omega
  · have:=O.mz (by simpa using hs)
    omega
 have hn:=O.n0
 rcases List.mem_cons.mp hx with rfl | hx
 · exact sY r.k
 rcases List.mem_append.mp hx with hx | hx
 · rcases List.mem_append.mp hx with hx | hx
   · split at hx
     · rw [List.mem_singleton.mp hx]; exact jN (by omega)
     · cases hx
   · split at hx
     · rw [List.mem_singleton.mp hx]; exact jN hm
     · cases hx
 · obtain ⟨y,hy,rfl⟩:=List.mem_map.mp hx
   exact jN (O.ns0 y hy)
theorem RR.sok {r:RR} {h w g:Int} (F:FlOk h w g) (O:r.Ok h w g):PyData.strOk r.txt=true:=sX (rX (RR.wok F O))
structure IsRules (H:Hp) (c:RCl RK) (p L:Addr) (rs:List Addr) (rows:List RR):Prop where
 top:H L=some (.lst (rs.map V.ref))
 len:rs.length=rows.length
 at_:∀ (i:Nat) (r:Addr) (x:RR),rs[i]? =some r→rows[i]? =some x→IsRule H c x.k r p x.ws x.cs x.n x.m
theorem IsRules.same {H H':Hp} {c:RCl RK} {p L:Addr} {rs:List Addr} {rows:List RR} (x:IsRules H c p L rs rows) (s:Same H H'):IsRules H' c p L rs rows:=
 ⟨s _ _ x.top,x.len,fun i r y h1 h2=>(x.at_ i r y h1 h2).same s⟩
theorem IsRule.lst {H:Hp} {c:RCl RK} {k:RK} {r p a:Addr} {ws:List (List Nat)} {cs:List Int} {n m:Int} {xs:List V} {o:HO} (x:IsRule H c k r p ws cs n m) (ha:H a=some (.lst xs)):IsRule (upd H a o) c k r p ws cs n m:=by
 obtain ⟨dx,W,C,h1,h2,h3⟩:=x.ex
 refine ⟨x.ok,dx,W,C,?_,?_,?_⟩
 · rw [ah (fun e=>by rw [e,ha] at h1; cases h1)]; exact h1
 · rw [ah (fun e=>by rw [e,ha] at h2; cases h2)]; exact h2
 · rw [ah (fun e=>by rw [e,ha] at h3; cases h3)]; exact h3
def pFs (p L G:Addr):List (Str × V):=[("floor",.ref p),("laws",.ref L),("given",.ref G)]
structure ic (c:RCl RK) (h w g:Int) (rows:List RR):Prop where
 F:FlOk h w g
 n:rows.length≤12
 ok:∀ r∈rows,r.Ok h w g
 c:∀ r∈rows,c.ok r.k=true
structure CluesOk (h w g:Int) (cl:List Int):Prop where
 len:cl.length=(h*w).toNat
 ok:∀ x∈cl,0≤x∧x≤g
structure IsPz (H:Hp) (c:RCl RK) (d:RCl PzK) (P L G:Addr) (h w g:Int) (rows:List RR) (cl:List Int):Prop where
 ok:d.ok .Puzzle=true
 R:ic c h w g rows
 C:CluesOk h w g cl
 gv:H G=some (.lst (cl.map V.int))
 ex:∃ dx p rs,H P=some (.ins (d.A .Puzzle) dx (pFs p L G))∧IsFl H p h w g∧IsRules H c p L rs rows
theorem IsPz.same {H H':Hp} {c:RCl RK} {d:RCl PzK} {P L G:Addr} {h w g:Int} {rows:List RR} {cl:List Int} (x:IsPz H c d P L G h w g rows cl) (s:Same H H'):IsPz H' c d P L G h w g rows cl:=by
 obtain ⟨dx,p,rs,h1,h2,h3⟩:=x.ex
 exact ⟨x.ok,x.R,x.C,s _ _ x.gv,dx,p,rs,s _ _ h1,s _ _ h2,h3.same s⟩
def bH (K:PySem.W.Frag):Sp:=fun vs H Q _=>∃ i:Int,vs=[.int i]∧Q (.bl true) H
theorem pG {K:PySem.W.Frag} {vs:List V} {H:Hp} {Q:VK} {E:XK} (h:bH K vs H Q E):vs.length=1:=by
 obtain ⟨_,rfl,_⟩:=h; rfl
def fu (K:PySem.W.Frag):TS:=
 (tRet (tAndV (tCB kIsi (tCons (tVar 0) (tCons (tC (.ty "int")) tNil))) (tNotV (tCB kIsi (tCons (tVar 0) (tCons (tC (.ty "bool")) tNil))))))
theorem pH {K:PySem.W.Frag} {vs:List V} {H:Hp} {Q:VK} {E:XK} (h:bH K vs H Q E):fu K { nx:=fun _ H'=>Q .non H',rt:=Q } (start ["value"] vs) H:=by
 obtain ⟨i,rfl,q⟩:=h
 show fu K _ [some (.int i)] H
 unfold fu
 walk_at "w"
 exact q
def aS (K:PySem.W.Frag):Sp:=fun vs H Q _=>∃ i m:Int,vs=[.int i,.int m]∧Q (.bl (decide (1≤i)&&decide (i≤m))) H
theorem jP {K:PySem.W.Frag} {vs:List V} {H:Hp} {Q:VK} {E:XK} (h:aS K vs H Q E):vs.length=2:=by
 obtain ⟨_,_,rfl,_⟩:=h; rfl
def cp (K:PySem.W.Frag):TS:=
 (tRet (tAndV (tCall (bH K) [] E0 (tCons (tVar 0) tNil)) (tAndV (tOp (cCmp fun i j=>decide (i≤j)) (tC (.int 1)) (tVar 0)) (tOp (cCmp fun i j=>decide (i≤j)) (tVar 0) (tVar 1)))))
theorem jQ {K:PySem.W.Frag} {vs:List V} {H:Hp} {Q:VK} {E:XK} (h:aS K vs H Q E):cp K { nx:=fun _ H'=>Q .non H',rt:=Q } (start ["value","most"] vs) H:=by
 obtain ⟨i,m,rfl,q⟩:=h
 show cp K _ [some (.int i),some (.int m)] H
 unfold cp
 walk_at "w"
 refine ⟨i,rfl,⟨true,rfl,iteT ?_⟩⟩
 walk_at "w"
 cases hb:decide (1≤i) with
 | false=>
  rw [hb,Bool.false_and] at q
  exact iteF q
 | true=>
  rw [hb,Bool.true_and] at q
  exact iteT q
def filB (least g:Int) (n:Nat) (xs:List Int):Bool:=decide (xs.length=n)&&xs.all fun x=>decide (least≤x)&&decide (x≤g)
def bY (K:PySem.W.Frag):Sp:=fun vs H Q _=>∃ (p a:Addr) (h w g least:Int) (xs:List Int),vs=[.ref p,.ref a,.int least]∧IsFl H p h w g∧FlOk h w g∧H a=some (.lst (xs.map V.int))∧xs.length≤100∧∀ H',Same H H'→Q (.bl (filB least g (h*w).toNat xs)) H'
theorem nw {K:PySem.W.Frag} {vs:List V} {H:Hp} {Q:VK} {E:XK} (h:bY K vs H Q E):vs.length=3:=by
 obtain ⟨_,_,_,_,_,_,_,rfl,_⟩:=h; rfl
def dA (K:PySem.W.Frag):TS:=
 (tSeq (tIfS (tOr (tNot (tB (tCB kIsi (tCons (tVar 1) (tCons (tC (.ty "list")) tNil))))) (tTest (tOp (cNe K) (tCB kLen (tCons (tVar 1) tNil)) (tCall (aV K) [] E0 (tCons (tVar 0) tNil))))) (tRet (tC (.bl false))) tNext)
  (tRet (tCB kAll (tCons (tComp [none,none,some 0,some 2] (iList K (tVar 1)) (gName 1) tTrue (tAndV (tCall (bH K) [] E0 (tCons (tVar 1) tNil)) (tAndV (tOp (cCmp fun i j=>decide (i≤j)) (tVar 3) (tVar 1)) (tOp (cCmp fun i j=>decide (i≤j)) (tVar 1) (tOp cIx (tVar 2) (tC (.int 2))))))) tNil))))
theorem nA {K:PySem.W.Frag} {vs:List V} {H:Hp} {Q:VK} {E:XK} (h:bY K vs H Q E):dA K { nx:=fun _ H'=>Q .non H',rt:=Q } (start ["floor","filling","least"] vs) H:=by
 obtain ⟨p,a,h,w,g,least,xs,rfl,hp,F,ha,hn,q⟩:=h
 obtain ⟨h0,h1,w0,w1,m16,g0,g1⟩:=id F
 have mpos:0≤h*w:=Int.mul_nonneg (by omega) (by omega)
 show dA K _ [some (.ref p),some (.ref a),some (.int least)] H
 unfold dA
 rw [aF,aO]
 walk_at "w"
 refine uR ha ?_
 walk_at "w"
 rw [fM ha,List.length_map]
 walk_at "w"
 refine ⟨p,h,w,g,rfl,hp,h0,h1,?_⟩
 walk_at "w"
 unfold filB at q
 by_cases hl:xs.length=(h*w).toNat
 · rw [decide_eq_true (show (xs.length:Int)=h*w by omega)]
   rw [decide_eq_true hl] at q
   walk_at "w"
   refine ⟨⟨_,SqL.of ha⟩,?_⟩
   refine fO (xs:=xs.map V.int) (fun _=>true) (fun i=>.bl (decide (least≤xs.getD i 0)&&decide (xs.getD i 0≤g))) (by rw [List.length_map]; omega) (SqL.of ha) ?_ ?_ ?_
   · intro i x H1 R hx s1 k1
     exact k1 _ (Same.refl _)
   · intro i x H1 Q1 hx hb s1 k1
     obtain ⟨z,hz,rfl⟩:=fq hx
     have q1:=k1 _ (Same.refl H1)
     rw [jI hz] at q1
     show tAndV _ _ [none,some (.int z),some (.ref p),some (.int least)] H1 Q1
     walk_at "w"
     refine ⟨z,rfl,⟨true,rfl,iteT ?_⟩⟩
     walk_at "w"
     cases hb:decide (least≤z) with
     | false=>
      rw [hb,Bool.false_and] at q1
      exact iteF q1
     | true=>
      rw [hb,Bool.true_and] at q1
      refine iteT ?_
      walk_at "w"
      refine ixT (s1 _ _ hp) (v:=V.int g) rfl ?_
      walk_at "w"
      exact q1
   · intro l H1 hl1 s1 el
     have eb:((List.range (xs.map V.int).length).filter fun _=>true).map (fun i=>V.bl (decide (least≤xs.getD i 0)&&decide (xs.getD i 0≤g)))=(xs.map fun x=>decide (least≤x)&&decide (x≤g)).map V.bl:=by
      rw [cJ,List.length_map]
      refine List.ext_getElem? fun i=>?_
      rw [List.getElem?_map,List.getElem?_map,List.getElem?_map]
      by_cases h:i < xs.length
      · rw [List.getElem?_range h,List.getElem?_eq_getElem h]
        simp [List.getD,h]
      · rw [List.getElem?_eq_none (by simpa using h),List.getElem?_eq_none (by omega)]; rfl
     rw [eb] at el
     refine sV el ?_
     have ea:(xs.map fun x=>decide (least≤x)&&decide (x≤g)).all id=xs.all fun x=>decide (least≤x)&&decide (x≤g):=by rw [List.all_map]; rfl
     rw [ea]
     exact q _ s1
 · rw [decide_eq_false (show ¬ (xs.length:Int)=h*w by omega)]
   rw [decide_eq_false hl] at q
   walk_at "w"
   exact q _ (Same.refl _)
theorem CluesOk.fil {h w g:Int} {xs:List Int} (C:CluesOk h w g xs):filB 0 g (h*w).toNat xs=true:=by
 unfold filB
 rw [decide_eq_true C.len,Bool.true_and,List.all_eq_true]
 intro x hx
 have:=C.ok x hx
 simp [this.1,this.2]
theorem IsRule.ins {H:Hp} {c:RCl RK} {k:RK} {r p a:Addr} {ws:List (List Nat)} {cs:List Int} {n m:Int} {C dx:Addr} {fs:List (Str × V)} {o:HO} (x:IsRule H c k r p ws cs n m) (ha:H a=some (.ins C dx fs)) (hf:fs.length≠5):IsRule (upd H a o) c k r p ws cs n m:=by
 obtain ⟨dx',W,C',h1,h2,h3⟩:=x.ex
 refine ⟨x.ok,dx',W,C',?_,?_,?_⟩
 · rw [ah (fun e=>by rw [e,ha] at h1; cases h1; exact hf rfl)]; exact h1
 · rw [ah (fun e=>by rw [e,ha] at h2; cases h2)]; exact h2
 · rw [ah (fun e=>by rw [e,ha] at h3; cases h3)]; exact h3
theorem IsRules.ins {H:Hp} {c:RCl RK} {p L a:Addr} {rs:List Addr} {rows:List RR} {C dx:Addr} {fs:List (Str × V)} {o:HO} (x:IsRules H c p L rs rows) (ha:H a=some (.ins C dx fs)) (hf:fs.length≠5):IsRules (upd H a o) c p L rs rows:=
 ⟨by rw [ah (fun e=>by have:=x.top; rw [e,ha] at this; cases this)]; exact x.top,x.len,fun i r y h1 h2=>(x.at_ i r y h1 h2).ins ha hf⟩
def ip (K:PySem.W.Frag) (c:RCl RK) (d:RCl PzK) (_:PzK):Sp:=fun vs H Q _=>∃ (P L G:Addr) (h w g:Int) (rows:List RR) (cl:List Int),vs=[.ref P]∧IsPz H c d P L G h w g rows cl∧∀ l,H l=none→Q (.ref l) (upd H l (.lst (cl.map V.int)))
def cT (K:PySem.W.Frag) (c:RCl RK) (d:RCl PzK):Sp:=ip K c d .Puzzle
theorem ll {K:PySem.W.Frag} {c:RCl RK} {d:RCl PzK} {vs:List V} {H:Hp} {Q:VK} {E:XK} (h:cT K c d vs H Q E):vs.length=1:=by
 obtain ⟨_,_,_,_,_,_,_,_,rfl,_⟩:=h; rfl
def cU (K:PySem.W.Frag) (c:RCl RK) (d:RCl PzK):TS:=
 (tRet (tCB kList (tCons (tFldK d (tVar 0) "given") tNil)))
theorem lp {K:PySem.W.Frag} {c:RCl RK} {d:RCl PzK} {vs:List V} {H:Hp} {Q:VK} {E:XK} (h:cT K c d vs H Q E):cU K c d { nx:=fun _ H'=>Q .non H',rt:=Q } (start ["self"] vs) H:=by
 obtain ⟨P,L,G,h,w,g,rows,cl,rfl,x,q⟩:=h
 obtain ⟨dx,p,rs,h1,h2,h3⟩:=x.ex
 show cU K c d _ [some (.ref P)] H
 unfold cU
 walk_at "w"
 refine fldE (k:=.Puzzle) rfl x.ok h1 (v:=.ref G) (by rfl) ?_
 walk_at "w"
 exact fB x.gv q
theorem qB {K:PySem.W.Frag} {c:RCl RK} {H:Hp} {p L:Addr} {rs:List Addr} {rows:List RR} {h w g:Int} {fin:Addr→Hp→Prop} (X:IsRules H c p L rs rows) (R:ic c h w g rows)
  (hd:∀ l H',H l=none→Same H H'→H' l=some (.lst ((rows.map RR.txt).map V.str))→fin l H'):CompR (Itl K L) (gName 1) tTrue (fD c c.ok "line" (ib K c) (tVar 1) tNil) fin [none,none] H:=by
 have hn:=R.n
 have hlen:=X.len
 refine fO (xs:=rs.map V.ref) (fun _=>true) (fun i=>.str ((rows.map RR.txt).getD i (tx []))) (by rw [List.length_map]; omega) (SqL.of X.top) ?_ ?_ ?_
 · intro i x H1 R hx s1 k1
   exact k1 _ (Same.refl _)
 · intro i x H1 Q1 hx hb s1 k1
   rw [List.getElem?_map] at hx
   cases e:rs[i]? with
   | none=>rw [e] at hx; cases hx
   | some r=>
    rw [e] at hx
    cases hx
    have hi:=(List.getElem?_eq_some_iff.mp e).1
    have er:rows[i]? =some rows[i]:=List.getElem?_eq_getElem (by omega)
    have X1:=X.at_ i r _ e er
    obtain ⟨dx,W,C,h1,h2,h3⟩:=X1.ex
    have q1:=k1 _ (Same.refl H1)
    have eg:(rows.map RR.txt).getD i (tx [])=rows[i].txt:=by rw [List.getD,List.getElem?_map,er]; rfl
    rw [eg] at q1
    have O:=R.ok _ (List.mem_of_getElem? er)
    have ln:=ke (k:=rows[i].k) (n:=rows[i].n) (m:=rows[i].m) O.len
    show fD c c.ok "line" _ _ _ [none,some (.ref r)] H1 Q1
    refine methE (k:=rows[i].k) rfl X1.ok (s1 _ _ h1) (by rfl) ?_
    walk_at "w"
    exact ⟨r,p,_,_,_,_,rfl,X1.same s1,ln.1,ln.2,q1⟩
 · intro l H1 hl s1 el
   refine hd l H1 hl s1 ?_
   rw [el,cJ,List.length_map,hlen]
   congr 2
   refine List.ext_getElem? fun i=>?_
   rw [List.getElem?_map,List.getElem?_map,List.getElem?_map]
   by_cases h:i < rows.length
   · rw [List.getElem?_range h,List.getElem?_eq_getElem h]
     simp [List.getD,h]
   · rw [List.getElem?_eq_none (by simpa using h),List.getElem?_eq_none (by omega)]; rfl
def fe (K:PySem.W.Frag) (c:RCl RK) (d:RCl PzK) (_:PzK):Sp:=fun vs H Q _=>∃ (P L G:Addr) (h w g:Int) (rows:List RR) (cl:List Int),vs=[.ref P]∧IsPz H c d P L G h w g rows cl∧∀ l H',Same H H'→H l=none→H' l=some (.lst ((rows.map RR.txt).map V.str))→Q (.ref l) H'
def cV (K:PySem.W.Frag) (c:RCl RK) (d:RCl PzK):Sp:=fe K c d .Puzzle
theorem lq {K:PySem.W.Frag} {c:RCl RK} {d:RCl PzK} {vs:List V} {H:Hp} {Q:VK} {E:XK} (h:cV K c d vs H Q E):vs.length=1:=by
 obtain ⟨_,_,_,_,_,_,_,_,rfl,_⟩:=h; rfl
def cW (K:PySem.W.Frag) (c:RCl RK) (d:RCl PzK):TS:=
 (tRet (tComp [none,none] (iList K (tFldK d (tVar 0) "laws")) (gName 1) tTrue (fD c c.ok "line" (ib K c) (tVar 1) tNil)))
theorem lu {K:PySem.W.Frag} {c:RCl RK} {d:RCl PzK} {vs:List V} {H:Hp} {Q:VK} {E:XK} (h:cV K c d vs H Q E):cW K c d { nx:=fun _ H'=>Q .non H',rt:=Q } (start ["self"] vs) H:=by
 obtain ⟨P,L,G,h,w,g,rows,cl,rfl,x,q⟩:=h
 obtain ⟨dx,p,rs,h1,h2,h3⟩:=x.ex
 show cW K c d _ [some (.ref P)] H
 unfold cW
 rw [im,eN]
 refine fldE (k:=.Puzzle) rfl x.ok h1 (v:=.ref L) (by rfl) ?_
 refine ⟨L,rfl,⟨_,SqL.of h3.top⟩,?_⟩
 exact qB h3 x.R fun l H1 hl s1 el=>q l H1 s1 hl el
abbrev nsV (cs:List Nat):List V:=(cs.map fun (n:Nat)=>(n:Int)).map V.int
theorem ie (cs:List Nat):(nsV cs).length=cs.length:=by simp [nsV]
def bL (K:PySem.W.Frag):Sp:=fun vs H Q _=>∃ z m:Int,vs=[.int z,.int m]∧0≤m∧m≤100∧∀ (l:Addr) (H':Hp) (ys:List Int),Same H H'→H l=none→H' l=some (.lst (ys.map V.int))→(ys.length:Int)=m→(∀ y∈ys,0≤y)→Q (.ref l) H'
theorem mB {K:PySem.W.Frag} {vs:List V} {H:Hp} {Q:VK} {E:XK} (h:bL K vs H Q E):vs.length=2:=by
 obtain ⟨_,_,rfl,_⟩:=h; rfl
def dc (K:PySem.W.Frag):TS:=
 (tSeq (tAsg (tOp cAdd (tOp cMod (tVar 0) (tC (.int 1000003))) (tC (.int 11))) (gName 2))
  (tSeq (tAsg (tLst tNil) (gName 3))
  (tSeq (tFor (fK (tCons (tVar 1) tNil)) (gName 4)
  (tSeq (tAsg (tOp cMod (tOp cAdd (tOp cAdd (tOp cMul (tVar 2) (tVar 2)) (tOp cMul (tC (.int 3)) (tVar 2))) (tVar 4)) (tC (.int 1000003))) (gName 2))
  (tDrop (tBM K "list" fV (tVar 3) (tCons (tVar 2) tNil)))))
  (tRet (tVar 3)))))
theorem mC {K:PySem.W.Frag} {vs:List V} {H:Hp} {Q:VK} {E:XK} (h:bL K vs H Q E):dc K { nx:=fun _ H'=>Q .non H',rt:=Q } (start ["_law_cell","_law_many","_law_number","_law_found","_law_k"] vs) H:=by
 obtain ⟨z,m,rfl,m0,m1,q⟩:=h
 show dc K _ [some (.int z),some (.int m),none,none,none] H
 unfold dc
 walk_at "w"
 refine ⟨by decide,am (by decide),fun L hL=>?_⟩
 have e0:=Int.emod_nonneg z (show (1000003:Int)≠0 by decide)
 have e1:=Int.emod_lt_of_pos z (show (0:Int) < 1000003 by decide)
 refine ⟨m,rfl,by omega,by omega,?_⟩
 refine iM (fun i σ H'=>∃ (n:Int) (kv:Option V) (ys:List Int),σ=[some (.int z),some (.int m),some (.int n),some (.ref L),kv]∧0≤n∧n < 2000000∧Same H H'∧H' L=some (.lst (ys.map V.int))∧ys.length=i∧∀ y∈ys,0≤y)
  ⟨_,none,[],rfl,by omega,by omega,(Same.refl H).laid hL,by rw [ad]; rfl,rfl,fun y hy=>nomatch hy⟩ ?_ ?_
 · rintro i σ H1 hi ⟨n,kv,ys,rfl,n0,n1,s1,el,hl,hy⟩
   walk_at "w"
   refine ⟨.inl ⟨by omega,by omega⟩,.inl ⟨by decide,by decide⟩,by decide,ki el,?_⟩
   have c0:=Int.emod_nonneg (n*n+3*n+(0+(i:Int))) (show (1000003:Int)≠0 by decide)
   have c1:=Int.emod_lt_of_pos (n*n+3*n+(0+(i:Int))) (show (0:Int) < 1000003 by decide)
   generalize (n*n+3*n+(0+(i:Int))) % 1000003=y at*
   rw [oE el]
   refine ⟨by rw [List.length_map]; exact aR (by omega),y,_,ys++[y],rfl,c0,by omega,s1.own hL,by rw [ad]; simp,by simp [hl],fun x hx=>?_⟩
   rcases List.mem_append.mp hx with hx | hx
   · exact hy x hx
   · rw [List.mem_singleton.mp hx]; exact c0
 · rintro σ H1 ⟨n,kv,ys,rfl,n0,n1,s1,el,hl,hy⟩
   walk_at "w"
   exact q L H1 ys s1 hL el (by rw [hl]; omega) hy
def bZ (K:PySem.W.Frag):Sp:=fun vs H Q _=>∃ (X:Addr) (many:Int) (ys:List Int),vs=[.ref X,.int many]∧H X=some (.lst (ys.map V.int))∧0≤many∧many≤16∧many≤ys.length∧
 ∀ (l:Addr) (H':Hp) (cs:List Nat),Same H H'→H l=none→H' l=some (.lst (nsV cs))→cs.Nodup→(∀ c∈cs,(c:Int) < many)→(cs.length:Int)=many→Q (.ref l) H'
theorem nB {K:PySem.W.Frag} {vs:List V} {H:Hp} {Q:VK} {E:XK} (h:bZ K vs H Q E):vs.length=2:=by
 obtain ⟨_,_,_,rfl,_⟩:=h; rfl
def dB (K:PySem.W.Frag):TS:=
 (tSeq (tAsg (gD (tCons (tVar 1) tNil)) (gName 2))
  (tSeq (tAsg (tLst tNil) (gName 3))
  (tSeq (tFor (fK (tCons (tVar 1) tNil)) (gName 4)
  (tDrop (tBM K "list" fV (tVar 3) (tCons (tBM K "list" lf (tVar 2) (tCons (tOp cMod (tOp cIx (tVar 0) (tVar 4)) (tCB kLen (tCons (tVar 2) tNil))) tNil)) tNil))))
  (tRet (tVar 3)))))
theorem nD {K:PySem.W.Frag} {vs:List V} {H:Hp} {Q:VK} {E:XK} (h:bZ K vs H Q E):dB K { nx:=fun _ H'=>Q .non H',rt:=Q } (start ["_law_xs","_law_many","_law_left","_law_order_here","_law_k"] vs) H:=by
 obtain ⟨X,many,ys,rfl,hX,m0,m1,m2,q⟩:=h
 show dB K _ [some (.ref X),some (.int many),none,none,none] H
 unfold dB
 walk_at "w"
 refine ⟨many,rfl,by omega,by omega,fun L hL=>?_⟩
 have s1:Same H (upd H L (.lst ((rngL 0 many).map V.int))):=(Same.refl H).laid hL
 have eL:(upd H L (.lst ((rngL 0 many).map V.int))) L=some (.lst ((rngL 0 many).map V.int)):=ad
 generalize upd H L (.lst ((rngL 0 many).map V.int))=H1 at*
 walk_at "w"
 refine ⟨am (by decide),fun R hR=>?_⟩
 have nRL:R≠L:=fun e=>by rw [e,eL] at hR; cases hR
 refine ⟨many,rfl,by omega,by omega,?_⟩
 refine iM (fun i σ H'=>∃ (kv:Option V) (fs ls:List Int),σ=[some (.ref X),some (.int many),some (.ref L),some (.ref R),kv]∧Same H H'∧H' L=some (.lst (ls.map V.int))∧H' R=some (.lst (fs.map V.int))∧(fs++ls).Perm (rngL 0 many)∧fs.length=i)
  ⟨none,[],rngL 0 many,rfl,s1.laid hR,by rw [ah nRL.symm]; exact eL,by rw [ad]; rfl,List.Perm.refl _,rfl⟩ ?_ ?_
 · rintro i σ H2 hi ⟨kv,fs,ls,rfl,s2,e1,e2,hp,hl⟩
   have hlen:=hp.length_eq
   rw [List.length_append,kr] at hlen
   walk_at "w"
   refine ⟨ki e2,ki e1,?_⟩
   refine ixI (s2 _ _ hX) (by omega) (by omega) ?_
   walk_at "w"
   rw [fM e1,List.length_map]
   have hpos:0 < (ls.length:Int):=by omega
   generalize ys.getD (0+(i:Int)).toNat 0=y at*
   have j0:=Int.emod_nonneg y (Int.ne_of_gt hpos)
   have j1:=Int.emod_lt_of_pos y hpos
   refine ⟨hpos,?_⟩
   generalize y % (ls.length:Int)=j at*
   have hj:j.toNat < ls.length:=by omega
   refine tV e1 j0 (by rw [List.length_map]; omega) (y:=V.int ls[j.toNat]) (by rw [List.getElem?_map,List.getElem?_eq_getElem hj]; rfl) ?_
   have e2':(upd H2 L (.lst ((ls.map V.int).eraseIdx j.toNat))) R=some (.lst (fs.map V.int)):=by rw [ah nRL]; exact e2
   walk_at "w"
   rw [oE e2']
   refine ⟨by rw [List.length_map]; exact aR (by omega),_,fs++[ls[j.toNat]],ls.eraseIdx j.toNat,rfl,(s2.own hL).own (s1.free hR),?_,?_,?_,by simp [hl]⟩
   · rw [ah nRL.symm,ad,ng]
   · rw [ad]; simp
   · have p1:=lj ls j.toNat hj
     have p2:=List.Perm.append_left fs p1
     refine List.Perm.trans ?_ hp
     rw [List.append_assoc]
     exact p2
 · rintro σ H2 ⟨kv,fs,ls,rfl,s2,e1,e2,hp,hl⟩
   walk_at "w"
   have hnd:(fs++ls).Nodup:=hp.nodup_iff.mpr (rT many)
   have hm:∀ x∈fs,0≤x∧x < many:=fun x hx=>t5 (hp.mem_iff.mp (List.mem_append.mpr (.inl hx)))
   have ef:(fs.map Int.toNat).map (fun (n:Nat)=>(n:Int))=fs:=by
    rw [List.map_map]
    conv=>rhs; rw [← List.map_id fs]
    exact List.map_congr_left fun x hx=>by have:=hm x hx; show ((x.toNat:Nat):Int)=x; omega
   refine q R H2 (fs.map Int.toNat) s2 (s1.free hR) (by unfold nsV; rw [ef]; exact e2) ?_ ?_ ?_
   · have h1:=(List.nodup_append.mp hnd).1
     rw [← ef] at h1
     exact i0 _ h1
   · intro c hc
     obtain ⟨x,hx,rfl⟩:=List.mem_map.mp hc
     have:=hm x hx
     omega
   · rw [List.length_map,hl]; omega
theorem i3 (cs:List Nat) (b:Int→Bool):((cs.map fun (n:Nat)=>(n:Int)).filter b).map (fun x=>x)=(cs.filter fun (n:Nat)=>b (n:Int)).map fun (n:Nat)=>(n:Int):=by
 rw [List.map_id',List.filter_map]
 rfl
theorem gn (xs:List V) {k:Int} (h:0≤k):cutV xs none (some k)=xs.take k.toNat:=by
 unfold cutV
 have e:k=((k.toNat:Nat):Int):=by omega
 have h1:HT.sIx xs.length 0 none=0:=rfl
 have h2:HT.sIx xs.length xs.length (some k)=min k.toNat xs.length:=by
  conv=>lhs; rw [e]
  exact HT.sIx_nat ..
 rw [h1,h2]
 show (xs.drop 0).take _=_
 rw [List.drop_zero]
 by_cases hk:k.toNat≤xs.length
 · rw [Nat.min_eq_left hk]; rfl
 · rw [Nat.min_eq_right (by omega),List.take_of_length_le (by omega),List.take_of_length_le (by omega)]
theorem mE (cs:List Nat) (k:Nat):(nsV cs).take k=nsV (cs.take k):=by
 unfold nsV
 rw [List.map_take,List.map_take]
theorem u8 (cs ds:List Nat):nsV cs++nsV ds=nsV (cs++ds):=by
 unfold nsV
 rw [List.map_append,List.map_append]
theorem lw {cs:List Nat} {x:Int} (h:x∈cs.map fun (n:Nat)=>(n:Int)):∃ c∈cs,(c:Int)=x:=List.mem_map.mp h
def sgN (xs:List Int) (c:Nat):Int:=xs.getD c 0
theorem pZ {H:Hp} {Q:VK} {f:Addr} {xs:List Int} {c:Nat} (hf:H f=some (.lst (xs.map V.int))) (hc:c < xs.length) (q:Q (.int (sgN xs c)) H):cIx (.ref f) (.int (c:Int)) H Q:=by
 refine ixI hf (by omega) (by omega) ?_
 rw [Int.toNat_natCast]
 exact q
theorem qD {xs:List Int} {c:Nat} {lo hi:Int} (hx:∀ x∈xs,lo≤x∧x≤hi) (hc:c < xs.length):lo≤sgN xs c∧sgN xs c≤hi:=by
 unfold sgN
 rw [List.getD,List.getElem?_eq_getElem hc]
 exact hx _ (List.getElem_mem hc)
structure KeepS (H:Hp) (O f:Addr) (cs:List Nat) (xs:List Int):Prop where
 O:H O=some (.lst (nsV cs))
 f:H f=some (.lst (xs.map V.int))
 nd:cs.Nodup
 ne:cs≠[]
 n:cs.length≤16
 lt:∀ c∈cs,c < xs.length
 sg:∀ x∈xs,1≤x∧x≤6
def cG (K:PySem.W.Frag):Sp:=fun vs H Q _=>∃ (O f:Addr) (b:Bool) (cs:List Nat) (xs:List Int),vs=[.ref O,.ref f,.bl b]∧KeepS H O f cs xs∧
 ∀ (l:Addr) (H':Hp) (ks:List Nat),Same H H'→H l=none→H' l=some (.lst (nsV ks))→ks.Nodup→(∀ k∈ks,k∈cs)→ks≠[]→ks.length≤16→Q (.ref l) H'
theorem o7 {K:PySem.W.Frag} {vs:List V} {H:Hp} {Q:VK} {E:XK} (h:cG K vs H Q E):vs.length=3:=by
 obtain ⟨_,_,_,_,_,rfl,_⟩:=h; rfl
def eu (K:PySem.W.Frag):TS:=
 (tSeq (tAsg (tLst tNil) (gName 3))
  (tSeq (tFor (kT (tCons (tC (.int 1)) (tCons (tC (.int 7)) tNil))) (gName 4)
  (tSeq (sComp 5 [none,none,some 1,some 4] (iList K (tVar 0)) (gName 1) (tTest (tOp (cEq K) (tOp cIx (tVar 2) (tVar 1)) (tVar 3))) (tVar 1))
  (tAsg (tOp cAdd (tVar 3) (tSl dZ (tVar 5) bI (tPart (tC (.int 1))))) (gName 3))))
  (tSeq (tIfS (tB (tVar 2)) (tRet (tVar 3)) tNext)
  (tRet (tComp [none,none,some 3] (iList K (tVar 0)) (gName 1) (tTest (tOp (cIn K false) (tVar 1) (tVar 2))) (tVar 1))))))
theorem lx {ks cs:List Nat} (h1:ks.Nodup) (h2:∀ k∈ks,k∈cs):ks.length≤cs.length:=by
 have h:=lb (xs:=ks.map fun (n:Nat)=>(n:Int)) (ys:=cs.map fun (n:Nat)=>(n:Int)) (io h1) fun x hx=>by
  obtain ⟨k,hk,rfl⟩:=List.mem_map.mp hx
  exact List.mem_map.mpr ⟨k,h2 k hk,rfl⟩
 simpa using h
theorem o8 {K:PySem.W.Frag} {vs:List V} {H:Hp} {Q:VK} {E:XK} (h:cG K vs H Q E):eu K { nx:=fun _ H'=>Q .non H',rt:=Q } (start ["_law_order_here","_law_filling_here","_law_rising","_law_kept_here","_law_sign","_law_some"] vs) H:=by
 obtain ⟨O,f,b,cs,xs,rfl,X,q⟩:=h
 have hn:=X.n
 show eu K _ [some (.ref O),some (.ref f),some (.bl b),none,none,none] H
 unfold eu
 walk_at "w"
 refine ⟨am (by decide),fun L hL=>?_⟩
 refine ⟨1,7,rfl,by omega,?_⟩
 refine iM (fun i σ H'=>∃ (R:Addr) (sv mv:Option V) (ks:List Nat),σ=[some (.ref O),some (.ref f),some (.bl b),some (.ref R),sv,mv]∧Same H H'∧H R=none∧H' R=some (.lst (nsV ks))∧ks.Nodup∧(∀ k∈ks,k∈cs∧sgN xs k≤i)∧(∀ c∈cs,sgN xs c≤i→ks≠[]))
  ⟨L,none,none,[],rfl,(Same.refl H).laid hL,hL,by rw [ad]; rfl,List.nodup_nil,(fun k hk=>by cases hk),fun c hc h=>by have:=(qD X.sg (X.lt c hc)).1; omega⟩ ?_ ?_
 · rintro i σ H1 hi ⟨R,sv,mv,ks,rfl,s1,hR,eR,nd,hk,hne⟩
   walk_at "w"
   refine ⟨⟨_,s1.seq (SqL.of X.O)⟩,?_⟩
   refine fP (xs:=cs.map fun (n:Nat)=>(n:Int)) (fun x=>decide (xs.getD x.toNat 0=1+(i:Int))) (fun x=>x) (by simp; omega) (s1.seq (SqL.of X.O)) ?_ ?_ ?_
   · intro x H2 R2 hx s2 k2
     obtain ⟨c,hc,rfl⟩:=lw hx
     have hl:=X.lt c hc
     show tTest _ [none,some (.int (c:Int)),some (.ref f),some (.int (1+(i:Int)))] H2 R2
     walk_at "w"
     refine ixI ((s1.trans s2) _ _ X.f) (by omega) (by omega) ?_
     walk_at "w"
     exact k2 _ (Same.refl _)
   · intro x H2 Q2 hx hb s2 k2
     show tVar 1 [none,some (.int x),some (.ref f),some (.int (1+(i:Int)))] H2 Q2
     walk_at "w"
     exact k2 _ (Same.refl _)
   · intro S H2 hS s2 eS
     rw [i3] at eS
     have hS':H2 S=some (.lst (nsV (cs.filter fun (n:Nat)=>decide (xs.getD (n:Int).toNat 0=1+(i:Int))))):=eS
     have efil:(cs.filter fun (n:Nat)=>decide (xs.getD (n:Int).toNat 0=1+(i:Int)))=cs.filter fun (n:Nat)=>decide (sgN xs n=1+(i:Int)):=rfl
     rw [efil] at hS'
     generalize hfs:(cs.filter fun (n:Nat)=>decide (sgN xs n=1+(i:Int)))=fs at hS'
     walk_at "w"
     refine fN hS' fun T hT=>?_
     rw [gn _ (by decide),mE]
     have s3:Same H2 (upd H2 T (.lst (nsV (fs.take (1:Int).toNat)))):=(Same.refl H2).laid hT
     have eT:(upd H2 T (.lst (nsV (fs.take (1:Int).toNat)))) T=some (.lst (nsV (fs.take (1:Int).toNat))):=ad
     generalize upd H2 T (.lst (nsV (fs.take (1:Int).toNat)))=H3 at*
     have s13:=(s1.trans s2).trans s3
     walk_at "w"
     have hkl:=lx nd fun k hk'=>(hk k hk').1
     refine cP (s3 _ _ (s2 _ _ eR)) eT (by rw [ie,ie,List.length_take]; have:(1:Int).toNat=1:=rfl; omega) fun U hU=>?_
     rw [u8]
     have hU0:H U=none:=s13.free hU
     have memf:∀ k∈fs.take (1:Int).toNat,k∈cs∧sgN xs k=1+(i:Int):=fun k hk'=>by
      have:=List.mem_of_mem_take hk'
      rw [← hfs] at this
      have:=List.mem_filter.mp this
      exact ⟨this.1,of_decide_eq_true this.2⟩
     refine ⟨U,_,_,ks++fs.take (1:Int).toNat,rfl,s13.laid hU,hU0,ad,?_,?_,?_⟩
     · rw [List.nodup_append]
       refine ⟨nd,?_,fun a ha b hb e=>?_⟩
       · match fs with
         | []=>exact List.nodup_nil
         | x::r=>show ([x]:List Nat).Nodup; exact List.nodup_cons.mpr ⟨by simp,List.nodup_nil⟩
       · have h1:=(hk a ha).2
         have h2:=(memf b hb).2
         rw [e] at h1
         omega
     · intro k hk'
       rcases List.mem_append.mp hk' with hk' | hk'
       · have:=hk k hk'
         exact ⟨this.1,by have:=this.2; omega⟩
       · have:=memf k hk'
         exact ⟨this.1,by rw [this.2]; omega⟩
     · intro c hc hle e0
       obtain ⟨e1,e2⟩:=List.append_eq_nil_iff.mp e0
       by_cases hlt:sgN xs c≤(i:Int)
       · exact hne c hc hlt e1
       · have hm:c∈fs:=by rw [← hfs]; exact List.mem_filter.mpr ⟨hc,decide_eq_true (by omega)⟩
         match fs,hm,e2 with
         | x::r,_,e2=>cases e2
 · rintro σ H1 ⟨R,sv,mv,ks,rfl,s1,hR,eR,nd,hk,hne⟩
   have hsub:∀ k∈ks,k∈cs:=fun k hk'=>(hk k hk').1
   have hkl:=lx nd hsub
   have hks:ks≠[]:=by
    match ec:cs,X.ne with
    | c::r,_=>
     have hc:c∈cs:=by rw [ec]; exact List.mem_cons_self
     refine hne c (by rw [← ec]; exact hc) ?_
     have:=(qD X.sg (X.lt c (by rw [← ec]; exact hc))).2
     have:((7 - 1:Int).toNat:Int)=6:=rfl
     omega
   walk_at "w"
   rw [aO]
   walk_at "w"
   cases b with
   | true=>exact q R H1 ks s1 hR eR nd hsub hks (by omega)
   | false=>
    refine ⟨⟨_,s1.seq (SqL.of X.O)⟩,?_⟩
    refine fP (xs:=cs.map fun (n:Nat)=>(n:Int)) (fun x=>decide (x∈ks.map fun (n:Nat)=>(n:Int))) (fun x=>x) (by simp; omega) (s1.seq (SqL.of X.O)) ?_ ?_ ?_
    · intro x H2 R2 hx s2 k2
      show tTest _ [none,some (.int x),some (.ref R)] H2 R2
      walk_at "w"
      rw [oF (s2 _ _ eR)]
      exact ⟨_,rfl,k2 _ (Same.refl _)⟩
    · intro x H2 Q2 hx hb s2 k2
      show tVar 1 [none,some (.int x),some (.ref R)] H2 Q2
      walk_at "w"
      exact k2 _ (Same.refl _)
    · intro S H2 hS s2 eS
      rw [i3] at eS
      refine q S H2 (cs.filter fun (n:Nat)=>decide ((n:Int)∈ks.map fun (n:Nat)=>(n:Int))) (s1.trans s2) (s1.free hS) eS (X.nd.filter _) (fun k hk'=>(List.mem_filter.mp hk').1) ?_ (Nat.le_trans (List.length_filter_le _ _) (by omega))
      match ks,hks,hsub with
      | k::r,_,hsub=>
       intro e
       have:k∈cs.filter fun (n:Nat)=>decide ((n:Int)∈(k::r).map fun (n:Nat)=>(n:Int)):=List.mem_filter.mpr ⟨hsub k List.mem_cons_self,by simp⟩
       rw [e] at this
       cases this
def cH (K:PySem.W.Frag):Sp:=fun vs H Q _=>∃ (f C:Addr) (cs:List Nat) (xs:List Int),vs=[.ref f,.ref C]∧H f=some (.lst (xs.map V.int))∧H C=some (.lst (nsV cs))∧(∀ c∈cs,c < xs.length)∧∀ n:Nat,n≤cs.length→Q (.int n) H
theorem o9 {K:PySem.W.Frag} {vs:List V} {H:Hp} {Q:VK} {E:XK} (h:cH K vs H Q E):vs.length=2:=by
 obtain ⟨_,_,_,_,rfl,_⟩:=h; rfl
def eB (K:PySem.W.Frag):TS:=
 (tSeq (tAsg (tC (.int 0)) (gName 2))
  (tSeq (tAsg (tC (.int 0)) (gName 3))
  (tSeq (tFor (iList K (tVar 1)) (gName 4)
  (tIfS (tTest (tOp (cCmp fun i j=>decide (j < i)) (tOp cIx (tVar 0) (tVar 4)) (tVar 2))) (tSeq (tAsg (tOp cIx (tVar 0) (tVar 4)) (gName 2))
  (tAsg (tOp cAdd (tVar 3) (tC (.int 1))) (gName 3))) tNext))
  (tRet (tVar 3)))))
theorem pb {K:PySem.W.Frag} {vs:List V} {H:Hp} {Q:VK} {E:XK} (h:cH K vs H Q E):eB K { nx:=fun _ H'=>Q .non H',rt:=Q } (start ["_law_filling_here","_law_cells","_law_greatest","_law_many","_law_cell"] vs) H:=by
 obtain ⟨f,C,cs,xs,rfl,hf,hC,hlt,q⟩:=h
 show eB K _ [some (.ref f),some (.ref C),none,none,none] H
 unfold eB
 walk_at "w"
 refine ⟨⟨_,SqL.of hC⟩,sk (K:=K) (xs:=nsV cs) (fun i σ H'=>∃ (cv:Option V) (g:Int) (n:Nat),σ=[some (.ref f),some (.ref C),some (.int g),some (.int n),cv]∧H'=H∧n≤i) ⟨none,0,0,rfl,rfl,Nat.zero_le _⟩ (fun i σ H' _ ⟨_,_,_,_,e,_⟩=>by rw [e]; exact SqL.of hC) ?_ ?_⟩
 · rintro i y σ H2 hy ⟨cv,g,n,rfl,rfl,hn⟩
   rw [List.getElem?_map,List.getElem?_map] at hy
   cases e:cs[i]? with
   | none=>rw [e] at hy; cases hy
   | some c=>
    rw [e] at hy
    cases hy
    have hl:=hlt c (List.mem_of_getElem? e)
    walk_at "w"
    rw [aO]
    walk_at "w"
    refine pZ hf hl ?_
    walk_at "w"
    cases decide (g < sgN xs c) with
    | true=>
     refine iteT ?_
     refine pZ hf hl ?_
     exact ⟨_,_,n+1,rfl,by first | trivial | rfl,by omega⟩
    | false=>exact iteF ⟨_,g,n,rfl,by first | trivial | rfl,by omega⟩
 · rintro σ H2 ⟨cv,g,n,rfl,rfl,hn⟩
   walk_at "w"
   exact q n (by rw [ie] at hn; exact hn)
structure LineS (H:Hp) (p f:Addr) (h w g:Int) (xs:List Int):Prop where
 fl:IsFl H p h w g
 F:FlOk h w g
 f:H f=some (.lst (xs.map V.int))
 n:xs.length=(h*w).toNat
 sg:∀ x∈xs,1≤x∧x≤6
theorem LineS.same {H H':Hp} {p f:Addr} {h w g:Int} {xs:List Int} (x:LineS H p f h w g xs) (s:Same H H'):LineS H' p f h w g xs:=⟨s _ _ x.fl,x.F,s _ _ x.f,x.n,x.sg⟩
def bM (K:PySem.W.Frag):Sp:=fun vs H Q _=>∃ (p f:Addr) (h w g z:Int) (xs:List Int),vs=[.ref p,.ref f,.int z]∧LineS H p f h w g xs∧∀ (r:RR) (H':Hp),Same H H'→r.Ok h w g→Q (.str r.txt) H'
theorem mF {K:PySem.W.Frag} {vs:List V} {H:Hp} {Q:VK} {E:XK} (h:bM K vs H Q E):vs.length=3:=by
 obtain ⟨_,_,_,_,_,_,_,rfl,_⟩:=h; rfl
def c8 (K:PySem.W.Frag):TS:=
 (tRet (tBM K "str" fE (tC (.str (tx [32]))) (tCons (tOp cAdd (tVar 10) (tComp [none,none] (iList K (tVar 6)) (gName 1) tTrue (tCB kStr (tCons (tVar 1) tNil)))) tNil)))
def c9 (K:PySem.W.Frag):TS:=
 (tSeq (tIfS (tTest (tOp (cEq K) (tVar 9) (tC (.int 1)))) (tAsg (tLst (tCons (tC (.str (tx [115,117,109]))) (tCons (tCB kStr (tCons (tOp cAdd (tCB kSum (tCons (tComp [none,none,some 1] (iList K (tVar 6)) (gName 1) tTrue (tOp cIx (tVar 2) (tVar 1))) tNil)) (tVar 8)) tNil)) tNil))) (gName 10)) tNext)
  (tSeq (tIfS (tTest (tOp (cEq K) (tVar 9) (tC (.int 2)))) (tAsg (tLst (tCons (tC (.str (tx [114,105,115,105,110,103]))) tNil)) (gName 10)) tNext)
  (tSeq (tIfS (tTest (tOp (cEq K) (tVar 9) (tC (.int 3)))) (tAsg (tLst (tCons (tC (.str (tx [115,101,101,110]))) (tCons (tCB kStr (tCons (tOp cAdd (tCall (cH K) [] E0 (tCons (tVar 1) (tCons (tVar 6) tNil))) (tVar 8)) tNil)) tNil))) (gName 10)) tNext)
  (tSeq (tIfS (tTest (tOp (cEq K) (tVar 9) (tC (.int 4)))) (tAsg (tLst (tCons (tC (.str (tx [99,111,117,110,116]))) (tCons (tCB kStr (tCons (tOp cAdd (tCB kLen (tCons (tComp [none,none,some 1,some 7] (iList K (tVar 6)) (gName 1) (tTest (tOp (cEq K) (tOp cIx (tVar 2) (tVar 1)) (tVar 3))) (tVar 1)) tNil)) (tVar 8)) tNil)) (tCons (tCB kStr (tCons (tVar 7) tNil)) tNil)))) (gName 10)) tNext)
  (c8 K)))))
def dh (K:PySem.W.Frag):TS:=
 (tSeq (tAsg (tLst (tCons (tC (.str (tx [117,110,108,105,107,101]))) tNil)) (gName 10))
  (c9 K))
def di (K:PySem.W.Frag):TS:=
 (tSeq (tIfS (tAnd (tTest (tOp (cIn K false) (tVar 9) (tTup (tCons (tC (.int 0)) (tCons (tC (.int 2)) tNil))))) (tTest (tOp (cEq K) (tVar 8) (tC (.int 0))))) (tAsg (tSl dZ (tCall (cG K) [] E0 (tCons (tVar 5) (tCons (tVar 1) (tCons (tOp (cEq K) (tVar 9) (tC (.int 2))) tNil)))) bI (tPart (tCB kLen (tCons (tVar 6) tNil)))) (gName 6)) tNext)
  (dh K))
def dj (K:PySem.W.Frag):TS:=
 (tSeq (tIfS (tTest (tOp (cCmp fun i j=>decide (j < i)) (tVar 9) (tC (.int 4)))) (tRet (tOp cAdd (tOp cAdd (tOp cIx (tLst (tCons (tC (.str (tx [106,111,105,110,101,100]))) (tCons (tC (.str (tx [110,111,115,113,117,97,114,101]))) (tCons (tC (.str (tx [114,105,110,103]))) tNil)))) (tOp cSub (tVar 9) (tC (.int 5)))) (tC (.str (tx [32])))) (tCB kStr (tCons (tVar 7) tNil)))) tNext)
  (di K))
def de (K:PySem.W.Frag):TS:=
 (tSeq (tAsg (tOp cMul (tOp cIx (tVar 0) (tC (.int 0))) (tOp cIx (tVar 0) (tC (.int 1)))) (gName 3))
  (tSeq (tAsg (tCall (bL K) [] E0 (tCons (tOp cDiv (tVar 2) (tC (.int 8))) (tCons (tOp cAdd (tVar 3) (tC (.int 3))) tNil))) (gName 4))
  (tSeq (tAsg (tCall (bZ K) [] E0 (tCons (tVar 4) (tCons (tVar 3) tNil))) (gName 5))
  (tSeq (tAsg (tSl dZ (tVar 5) bI (tPart (tOp cAdd (tC (.int 1)) (tOp cMod (tOp cIx (tVar 4) (tVar 3)) (tVar 3))))) (gName 6))
  (tSeq (tAsg (tOp cAdd (tC (.int 1)) (tOp cMod (tOp cIx (tVar 4) (tOp cAdd (tVar 3) (tC (.int 1)))) (tOp cIx (tVar 0) (tC (.int 2))))) (gName 7))
  (tSeq (tAsg (tOp cIx (tLst (tCons (tC (.int 0)) (tCons (tC (.int 0)) (tCons (tC (.int 0)) (tCons (tC (.int 1)) tNil))))) (tOp cMod (tOp cIx (tVar 4) (tOp cAdd (tVar 3) (tC (.int 2)))) (tC (.int 4)))) (gName 8))
  (tSeq (tAsg (tOp cMod (tVar 2) (tC (.int 8))) (gName 9))
  (dj K))))))))
structure SomeS (H:Hp) (S:Addr) (n:Nat) (ns:List Nat):Prop where
 S:H S=some (.lst (nsV ns))
 nd:ns.Nodup
 ne:ns≠[]
 len:ns.length≤16
 lt:∀ c∈ns,c < n
theorem SomeS.same {H H':Hp} {S:Addr} {n:Nat} {ns:List Nat} (x:SomeS H S n ns) (s:Same H H'):SomeS H' S n ns:=⟨s _ _ x.S,x.nd,x.ne,x.len,x.lt⟩
theorem SomeS.lt100 {H:Hp} {S:Addr} {h w g:Int} {ns:List Nat} (F:FlOk h w g) (x:SomeS H S (h*w).toNat ns):∀ c∈ns,c < 100:=fun c hc=>by
 have:=x.lt c hc
 have:=F.m
 omega
theorem bS {K:PySem.W.Frag} {H:Hp} {Q:VK} {v0 v1 v2 v3 v4 v5 v7 v8 v9:Option V} {S W:Addr} {n:Nat} {ns:List Nat} {pre:List (List Nat)} (X:SomeS H S n ns) (h100:∀ c∈ns,c < 100) (hW:H W=some (.lst ((pre.map tx).map V.str))) (h1:pre.length≤10) (h2:∀ x∈pre,x.length≤100)
  (q:∀ H',Same H H'→Q (.str (tx (catL 32 (pre++ns.map numC)))) H'):
  c8 K { nx:=fun _ H'=>Q .non H',rt:=Q } [v0,v1,v2,v3,v4,v5,some (.ref S),v7,v8,v9,some (.ref W)] H:=by
 have hn:=X.len
 unfold c8
 walk_at "w"
 refine ⟨qm,⟨_,SqL.of X.S⟩,?_⟩
 refine rV X.S (by omega) h100 fun l H1 hl s1 el=>?_
 walk_at "w"
 refine cP (s1 _ _ hW) el (by simp; omega) fun r hr=>?_
 have er:(upd H1 r (.lst ((pre.map tx).map V.str++((ns.map numC).map tx).map V.str))) r=some (.lst (((pre++ns.map numC).map tx).map V.str)):=by rw [ad]; simp
 have s2:Same H (upd H1 r (.lst ((pre.map tx).map V.str++((ns.map numC).map tx).map V.str))):=s1.laid hr
 generalize upd H1 r (.lst ((pre.map tx).map V.str++((ns.map numC).map tx).map V.str))=H2 at*
 walk_at "w"
 have hw:∀ t∈pre++ns.map numC,t.length≤100:=fun t ht=>by
  rcases List.mem_append.mp ht with ht | ht
  · exact h2 t ht
  · obtain ⟨x,_,rfl⟩:=List.mem_map.mp ht
    exact Nat.le_trans fb (by decide)
 have er2:H2 r=some (.lst (((pre++ns.map numC).map tx).map V.str)):=er
 refine tY er2 (iV (by simp; omega) (fun t ht=>by obtain ⟨y,hy,rfl⟩:=List.mem_map.mp ht; rw [bR]; have:=hw y hy; omega) (by rw [bR]; decide)) ?_
 rw [oN,jK]
 exact q _ s2
theorem du {k:RK} {h w g:Int} {n m:Nat} {ns:List Nat} {H:Hp} {S:Addr} (F:FlOk h w g) (X:SomeS H S (h*w).toNat ns) (hk:allK k=false) (k0:k≠.Rule) (n0:n≤99) (nz:numK k=false→n=0) (m0:sgnK k=true→1≤(m:Int)∧(m:Int)≤g) (mz:sgnK k=false→m=0):
  RR.Ok ⟨k,n,m,ns,ns.map fun (n:Nat)=>(n:Int)⟩ h w g:=by
 refine ⟨k0,n0,nz,m0,mz,⟨fun _=>⟨X.ne,X.len,fun n hn=>?_,X.nd,rfl⟩,fun e=>?_⟩,X.lt100 F,X.len⟩
 · have:=X.lt n hn
   omega
 · rw [hk] at e; cases e
theorem rY {k:RK} {h w g:Int} {m:Nat} (hk:allK k=true) (k0:k≠.Rule) (hn:numK k=false) (hs:sgnK k=true) (m0:1≤(m:Int)) (m1:(m:Int)≤g):RR.Ok ⟨k,0,m,[],rngL 0 (h*w)⟩ h w g:=by
 refine ⟨k0,Nat.zero_le _,fun _=>rfl,fun _=>⟨m0,m1⟩,fun e=>?_,⟨fun e=>?_,fun _=>⟨rfl,rfl⟩⟩,fun x hx=>(by cases hx),Nat.zero_le _⟩
 · rw [show sgnK k=false from e] at hs; cases hs
 · rw [show allK k=false from e] at hk; cases hk
theorem ifEqI {K:PySem.W.Frag} {σ:St} {H:Hp} {D:Ends} {t u:TS} {i j:Int} {b:Bool} {x:Nat} (hσ:σ[x]? =some (some (.int i))) (hb:decide (i=j)=b) (q:if b=true then t D σ H else u D σ H):tIfS (tTest (tOp (cEq K) (tVar x) (tC (.int j)))) t u D σ H:=by
 rw [aO,gh,km,il]
 refine ⟨_,hσ,?_⟩
 walk_at "w"
 rw [hb]
 exact q
theorem nh:∀ {ys:List Int},(∀ y∈ys,1≤y∧y≤6)→0≤ys.sum∧ys.sum≤6*(ys.length:Int)
 | [],_=>⟨by simp,by simp⟩
 | y::r,h=>by
  have h1:=h y List.mem_cons_self
  have h2:=nh (ys:=r) fun z hz=>h z (List.mem_cons_of_mem _ hz)
  rw [List.sum_cons,List.length_cons]
  constructor <;> omega
theorem kL {K:PySem.W.Frag} {H:Hp} {Q:VK} {p f X O S W:Addr} {h w g z off way:Int} {xs:List Int} {ns:List Nat} {m:Nat} {many:V} (L:LineS H p f h w g xs) (M:SomeS H S (h*w).toNat ns) (o0:0≤off) (o1:off≤1) (m0:1≤(m:Int)) (m1:(m:Int)≤g) (w0:0≤way) (w1:way≤4) (hW:H W=some (.lst [V.str (tx (nmC .Unlike))]))
  (q:∀ (r:RR) (H':Hp),Same H H'→r.Ok h w g→Q (.str r.txt) H'):
  c9 K { nx:=fun _ H'=>Q .non H',rt:=Q } [some (.ref p),some (.ref f),some (.int z),some many,some (.ref X),some (.ref O),some (.ref S),some (.int (m:Int)),some (.int off),some (.int way),some (.ref W)] H:=by
 have h100:=M.lt100 L.F
 have hlen:=M.len
 have hg:=L.F.g1
 have hlt:∀ c∈ns,c < xs.length:=fun c hc=>by rw [L.n]; exact M.lt c hc
 have W1:∀ k:RK,(nmC k).length≤100:=fun k=>by cases k <;> decide
 have hN:∀ x,(numC x).length≤100:=fun x=>Nat.le_trans fb (by decide)
 unfold c9
 have hw:way=0∨way=1∨way=2∨way=3∨way=4:=by omega
 rcases hw with rfl | rfl | rfl | rfl | rfl
 · rw [aF]
   refine ifEqI rfl (b:=false) (by decide) (iteF ?_)
   rw [aX]
   dsimp only
   rw [aF]
   refine ifEqI rfl (b:=false) (by decide) (iteF ?_)
   rw [aX]
   dsimp only
   rw [aF]
   refine ifEqI rfl (b:=false) (by decide) (iteF ?_)
   rw [aX]
   dsimp only
   rw [aF]
   refine ifEqI rfl (b:=false) (by decide) (iteF ?_)
   rw [aX]
   dsimp only
   exact bS (pre:=[nmC .Unlike]) M h100 hW (by decide) (fun x hx=>by rw [List.mem_singleton.mp hx]; exact W1 _) fun H1 s1=>q ⟨.Unlike,0,0,ns,_⟩ H1 s1 (du L.F M rfl (by decide) (by decide) (fun _=>rfl) (fun e=>by cases e) (fun _=>rfl))
 · rw [aF]
   refine ifEqI rfl (b:=true) (by decide) (iteT ?_)
   walk_at "w"
   refine ⟨⟨_,SqL.of M.S⟩,?_⟩
   refine fP (xs:=ns.map fun (n:Nat)=>(n:Int)) (fun _=>true) (fun x=>xs.getD x.toNat 0) (by simp; omega) (SqL.of M.S) ?_ ?_ ?_
   · intro x H1 R hx s1 k1
     exact k1 _ (Same.refl _)
   · intro x H1 Q1 hx hb s1 k1
     obtain ⟨c,hc,rfl⟩:=lw hx
     have:=hlt c hc
     show tOp cIx _ _ [none,some (.int (c:Int)),some (.ref f)] H1 Q1
     walk_at "w"
     exact ixI (s1 _ _ L.f) (by omega) (by omega) (k1 _ (Same.refl _))
   · intro T H1 hT s1 eT
     rw [cJ] at eT
     have hb:∀ y∈(ns.map fun (n:Nat)=>(n:Int)).map (fun x=>xs.getD x.toNat 0),1≤y∧y≤6:=fun y hy=>by
      obtain ⟨x,hx,rfl⟩:=List.mem_map.mp hy
      obtain ⟨c,hc,rfl⟩:=lw hx
      exact qD L.sg (hlt c hc)
     have hs:=nh hb
     rw [List.length_map,List.length_map] at hs
     walk_at "w"
     refine vp eT (fun y hy=>by have:=hb y hy; omega) (by rw [List.length_map,List.length_map]; omega) ?_
     generalize ((ns.map fun (n:Nat)=>(n:Int)).map (fun x=>xs.getD x.toNat 0)).sum=sm at*
     walk_at "w"
     have en:sm+off=(((sm+off).toNat:Nat):Int):=by omega
     have hn:(sm+off).toNat≤97:=by omega
     rw [en]
     generalize (sm+off).toNat=n at*
     refine ⟨fc (n:=n) (by omega),?_⟩
     rw [gb (n:=n) (by omega)]
     refine ⟨am (by show (2:Nat)≤1000; decide),fun V1 hV1=>?_⟩
     have s2:Same H (upd H1 V1 (.lst [V.str (tx [115,117,109]),V.str (tx (numC n))])):=s1.laid hV1
     have eV:(upd H1 V1 (.lst [V.str (tx [115,117,109]),V.str (tx (numC n))])) V1=some (.lst ((([nmC .Sum,numC n]:List (List Nat)).map tx).map V.str)):=ad
     generalize upd H1 V1 (.lst [V.str (tx [115,117,109]),V.str (tx (numC n))])=H2 at*
     refine ifEqI rfl (b:=false) (by decide) (iteF ?_)
     rw [aX]
     dsimp only
     rw [aF]
     refine ifEqI rfl (b:=false) (by decide) (iteF ?_)
     rw [aX]
     dsimp only
     rw [aF]
     refine ifEqI rfl (b:=false) (by decide) (iteF ?_)
     rw [aX]
     dsimp only
     exact bS (pre:=[nmC .Sum,numC n]) (M.same s2) h100 eV (by show (2:Nat)≤10; decide) (fun x hx=>by rcases List.mem_cons.mp hx with rfl | hx; exact W1 _; rw [List.mem_singleton.mp hx]; exact hN _) fun H3 s3=>q ⟨.Sum,n,0,ns,_⟩ H3 (s2.trans s3) (du L.F M rfl (by decide) (by omega) (fun e=>by cases e) (fun e=>by cases e) (fun _=>rfl))
 · rw [aF]
   refine ifEqI rfl (b:=false) (by decide) (iteF ?_)
   rw [aX]
   dsimp only
   rw [aF]
   refine ifEqI rfl (b:=true) (by decide) (iteT ?_)
   walk_at "w"
   refine ⟨am (by show (1:Nat)≤1000; decide),fun V1 hV1=>?_⟩
   have s2:Same H (upd H V1 (.lst [V.str (tx [114,105,115,105,110,103])])):=(Same.refl H).laid hV1
   have eV:(upd H V1 (.lst [V.str (tx [114,105,115,105,110,103])])) V1=some (.lst ((([nmC .Rising]:List (List Nat)).map tx).map V.str)):=ad
   generalize upd H V1 (.lst [V.str (tx [114,105,115,105,110,103])])=H2 at*
   refine ifEqI rfl (b:=false) (by decide) (iteF ?_)
   rw [aX]
   dsimp only
   rw [aF]
   refine ifEqI rfl (b:=false) (by decide) (iteF ?_)
   rw [aX]
   dsimp only
   exact bS (pre:=[nmC .Rising]) (M.same s2) h100 eV (by show (1:Nat)≤10; decide) (fun x hx=>by rw [List.mem_singleton.mp hx]; exact W1 _) fun H3 s3=>q ⟨.Rising,0,0,ns,_⟩ H3 (s2.trans s3) (du L.F M rfl (by decide) (by omega) (fun _=>rfl) (fun e=>by cases e) (fun _=>rfl))
 · rw [aF]
   refine ifEqI rfl (b:=false) (by decide) (iteF ?_)
   rw [aX]
   dsimp only
   rw [aF]
   refine ifEqI rfl (b:=false) (by decide) (iteF ?_)
   rw [aX]
   dsimp only
   rw [aF]
   refine ifEqI rfl (b:=true) (by decide) (iteT ?_)
   walk_at "w"
   refine ⟨f,S,ns,xs,rfl,L.f,M.S,hlt,fun sn hsn=>?_⟩
   walk_at "w"
   have en:(sn:Int)+off=(((sn:Int)+off).toNat:Nat):=by omega
   have hn:((sn:Int)+off).toNat≤97:=by omega
   rw [en]
   generalize ((sn:Int)+off).toNat=n at*
   refine ⟨fc (n:=n) (by omega),?_⟩
   rw [gb (n:=n) (by omega)]
   refine ⟨am (by show (2:Nat)≤1000; decide),fun V1 hV1=>?_⟩
   have s2:Same H (upd H V1 (.lst [V.str (tx [115,101,101,110]),V.str (tx (numC n))])):=(Same.refl H).laid hV1
   have eV:(upd H V1 (.lst [V.str (tx [115,101,101,110]),V.str (tx (numC n))])) V1=some (.lst ((([nmC .Seen,numC n]:List (List Nat)).map tx).map V.str)):=ad
   generalize upd H V1 (.lst [V.str (tx [115,101,101,110]),V.str (tx (numC n))])=H2 at*
   refine ifEqI rfl (b:=false) (by decide) (iteF ?_)
   rw [aX]
   dsimp only
   exact bS (pre:=[nmC .Seen,numC n]) (M.same s2) h100 eV (by show (2:Nat)≤10; decide) (fun x hx=>by rcases List.mem_cons.mp hx with rfl | hx; exact W1 _; rw [List.mem_singleton.mp hx]; exact hN _) fun H3 s3=>q ⟨.Seen,n,0,ns,_⟩ H3 (s2.trans s3) (du L.F M rfl (by decide) (by omega) (fun e=>by cases e) (fun e=>by cases e) (fun _=>rfl))
 · rw [aF]
   refine ifEqI rfl (b:=false) (by decide) (iteF ?_)
   rw [aX]
   dsimp only
   rw [aF]
   refine ifEqI rfl (b:=false) (by decide) (iteF ?_)
   rw [aX]
   dsimp only
   rw [aF]
   refine ifEqI rfl (b:=false) (by decide) (iteF ?_)
   rw [aX]
   dsimp only
   rw [aF]
   refine ifEqI rfl (b:=true) (by decide) (iteT ?_)
   walk_at "w"
   refine ⟨⟨_,SqL.of M.S⟩,?_⟩
   refine fP (xs:=ns.map fun (n:Nat)=>(n:Int)) (fun x=>decide (xs.getD x.toNat 0=(m:Int))) (fun x=>x) (by simp; omega) (SqL.of M.S) ?_ ?_ ?_
   · intro x H1 R hx s1 k1
     obtain ⟨c,hc,rfl⟩:=lw hx
     have:=hlt c hc
     show tTest _ [none,some (.int (c:Int)),some (.ref f),some (.int (m:Int))] H1 R
     walk_at "w"
     refine ixI (s1 _ _ L.f) (by omega) (by omega) ?_
     walk_at "w"
     exact k1 _ (Same.refl _)
   · intro x H1 Q1 hx hb s1 k1
     show tVar 1 [none,some (.int x),some (.ref f),some (.int (m:Int))] H1 Q1
     walk_at "w"
     exact k1 _ (Same.refl _)
   · intro T H1 hT s1 eT
     rw [i3] at eT
     have eT':H1 T=some (.lst (nsV (ns.filter fun (n:Nat)=>decide (xs.getD (n:Int).toNat 0=(m:Int))))):=eT
     have hfl:=List.length_filter_le (fun n:Nat=>decide (xs.getD (n:Int).toNat 0=(m:Int))) ns
     generalize (ns.filter fun (n:Nat)=>decide (xs.getD (n:Int).toNat 0=(m:Int)))=fs at*
     walk_at "w"
     rw [fM eT',ie]
     walk_at "w"
     have en:(fs.length:Int)+off=(((fs.length:Int)+off).toNat:Nat):=by omega
     have hn:((fs.length:Int)+off).toNat≤97:=by omega
     rw [en]
     generalize ((fs.length:Int)+off).toNat=n at*
     refine ⟨fc (n:=n) (by omega),fc (n:=m) (by omega),?_⟩
     rw [gb (n:=n) (by omega),gb (n:=m) (by omega)]
     refine ⟨am (by show (3:Nat)≤1000; decide),fun V1 hV1=>?_⟩
     have s2:Same H (upd H1 V1 (.lst [V.str (tx [99,111,117,110,116]),V.str (tx (numC n)),V.str (tx (numC m))])):=s1.laid hV1
     have eV:(upd H1 V1 (.lst [V.str (tx [99,111,117,110,116]),V.str (tx (numC n)),V.str (tx (numC m))])) V1=some (.lst ((([nmC .Count,numC n,numC m]:List (List Nat)).map tx).map V.str)):=ad
     generalize upd H1 V1 (.lst [V.str (tx [99,111,117,110,116]),V.str (tx (numC n)),V.str (tx (numC m))])=H2 at*
     exact bS (pre:=[nmC .Count,numC n,numC m]) (M.same s2) h100 eV (by show (3:Nat)≤10; decide) (fun x hx=>by rcases List.mem_cons.mp hx with rfl | hx; exact W1 _; rcases List.mem_cons.mp hx with rfl | hx; exact hN _; rw [List.mem_singleton.mp hx]; exact hN _) fun H3 s3=>q ⟨.Count,n,m,ns,_⟩ H3 (s2.trans s3) (du L.F M rfl (by decide) (by omega) (fun e=>by cases e) (fun _=>⟨m0,m1⟩) (fun e=>by cases e))
theorem eC {K:PySem.W.Frag} {H:Hp} {Q:VK} {p f X O S:Addr} {h w g z off way:Int} {xs:List Int} {ns:List Nat} {m:Nat} {many:V} (L:LineS H p f h w g xs) (M:SomeS H S (h*w).toNat ns) (o0:0≤off) (o1:off≤1) (m0:1≤(m:Int)) (m1:(m:Int)≤g) (w0:0≤way) (w1:way≤4)
  (q:∀ (r:RR) (H':Hp),Same H H'→r.Ok h w g→Q (.str r.txt) H'):
  dh K { nx:=fun _ H'=>Q .non H',rt:=Q } [some (.ref p),some (.ref f),some (.int z),some many,some (.ref X),some (.ref O),some (.ref S),some (.int (m:Int)),some (.int off),some (.int way),none] H:=by
 unfold dh
 walk_at "w"
 refine ⟨am (by show (1:Nat)≤1000; decide),fun W hW=>?_⟩
 have s1:Same H (upd H W (.lst [V.str (tx (nmC .Unlike))])):=(Same.refl H).laid hW
 exact kL (L.same s1) (M.same s1) o0 o1 m0 m1 w0 w1 ad fun r H' s2 O=>q r H' (s1.trans s2) O
theorem u9 {K:PySem.W.Frag} {H:Hp} {Q:VK} {p:Addr} {i:Int} {ns:List Int} (h:H p=some (.tup (ns.map V.int))):cIn K false (.int i) (.ref p) H Q=Q (.bl (decide (i∈ns))) H:=by
 unfold cIn; dsimp only; rw [h]; dsimp only [unD,unS,bnd]
 rw [kn,iQ]
 simp [flatV]
theorem ly {K:PySem.W.Frag} {H:Hp} {Q:VK} {p f X O S:Addr} {h w g z off way:Int} {xs:List Int} {cs ns:List Nat} {m:Nat} {many:V} (L:LineS H p f h w g xs) (M:SomeS H S (h*w).toNat ns) (hO:H O=some (.lst (nsV cs))) (c1:cs.Nodup) (c2:cs≠[]) (c3:cs.length≤16) (c4:∀ c∈cs,c < (h*w).toNat) (o0:0≤off) (o1:off≤1) (m0:1≤(m:Int)) (m1:(m:Int)≤g) (w0:0≤way) (w1:way≤4)
  (q:∀ (r:RR) (H':Hp),Same H H'→r.Ok h w g→Q (.str r.txt) H'):
  di K { nx:=fun _ H'=>Q .non H',rt:=Q } [some (.ref p),some (.ref f),some (.int z),some many,some (.ref X),some (.ref O),some (.ref S),some (.int (m:Int)),some (.int off),some (.int way),none] H:=by
 unfold di
 rw [aF,aO]
 walk_at "w"
 refine ⟨am (by show (2:Nat)≤1000; decide),fun T hT=>?_⟩
 have s1:Same H (upd H T (.tup [V.int 0,V.int 2])):=(Same.refl H).laid hT
 have eT:(upd H T (.tup [V.int 0,V.int 2])) T=some (.tup (([0,2]:List Int).map V.int)):=ad
 generalize upd H T (.tup [V.int 0,V.int 2])=H1 at*
 rw [u9 eT]
 refine ⟨_,rfl,?_⟩
 cases decide (way∈([0,2]:List Int)) with
 | false=>
  refine iteF ?_
  exact eC (L.same s1) (M.same s1) o0 o1 m0 m1 w0 w1 fun r H' s2 O=>q r H' (s1.trans s2) O
 | true=>
  refine iteT ?_
  walk_at "w"
  cases decide (off=0) with
  | false=>
   refine iteF ?_
   exact eC (L.same s1) (M.same s1) o0 o1 m0 m1 w0 w1 fun r H' s2 O=>q r H' (s1.trans s2) O
  | true=>
   refine iteT ?_
   walk_at "w"
   refine ⟨O,f,_,cs,xs,rfl,⟨s1 _ _ hO,s1 _ _ L.f,c1,c2,c3,fun c hc=>by rw [L.n]; exact c4 c hc,L.sg⟩,fun R H2 ks s2 hR eR k1 k2 k3 k4=>?_⟩
   walk_at "w"
   rw [fM (s2 _ _ (s1 _ _ M.S)),ie]
   refine ⟨_,rfl,?_⟩
   refine fN eR fun U hU=>?_
   rw [gn _ (by omega),mE,Int.toNat_natCast]
   have s3:Same H (upd H2 U (.lst (nsV (ks.take ns.length)))):=(s1.trans s2).laid hU
   have eU:(upd H2 U (.lst (nsV (ks.take ns.length)))) U=some (.lst (nsV (ks.take ns.length))):=ad
   generalize upd H2 U (.lst (nsV (ks.take ns.length)))=H3 at*
   refine eC (ns:=ks.take ns.length) (L.same s3) ⟨eU,k1.sublist (List.take_sublist _ _),?_,?_,fun c hc=>c4 c (k2 c (List.mem_of_mem_take hc))⟩ o0 o1 m0 m1 w0 w1 fun r H' s4 O=>q r H' (s3.trans s4) O
   · match ks,k3,ns,M.ne with
     | k::r,_,n::r',_=>simp
   · rw [List.length_take]
     have:=M.len
     omega
theorem va {Q:VK} {H:Hp} {a b:List Nat} (h1:a.length≤100) (h2:b.length≤100) (q:Q (.str (tx (a++b))) H):cAdd (.str (tx a)) (.str (tx b)) H Q:=by
 rw [gj,iU]
 exact ⟨by rw [bR,bR]; exact am (by omega),q⟩
theorem lz {K:PySem.W.Frag} {H:Hp} {Q:VK} {p f X O S:Addr} {h w g z off way:Int} {xs:List Int} {cs ns:List Nat} {m:Nat} {many:V} (L:LineS H p f h w g xs) (M:SomeS H S (h*w).toNat ns) (hO:H O=some (.lst (nsV cs))) (c1:cs.Nodup) (c2:cs≠[]) (c3:cs.length≤16) (c4:∀ c∈cs,c < (h*w).toNat) (o0:0≤off) (o1:off≤1) (m0:1≤(m:Int)) (m1:(m:Int)≤g) (w0:0≤way) (w1:way < 8)
  (q:∀ (r:RR) (H':Hp),Same H H'→r.Ok h w g→Q (.str r.txt) H'):
  dj K { nx:=fun _ H'=>Q .non H',rt:=Q } [some (.ref p),some (.ref f),some (.int z),some many,some (.ref X),some (.ref O),some (.ref S),some (.int (m:Int)),some (.int off),some (.int way),none] H:=by
 have hg:=L.F.g1
 have hN:∀ x,(numC x).length≤50:=fun x=>Nat.le_trans fb (by decide)
 unfold dj
 rw [aF,aO]
 walk_at "w"
 by_cases hw:(4:Int) < way
 · rw [decide_eq_true hw]
   refine iteT ⟨am (by show (3:Nat)≤1000; decide),fun T hT=>?_⟩
   have s1:Same H (upd H T (.lst [V.str (tx (nmC .Joined)),V.str (tx (nmC .NoSquare)),V.str (tx (nmC .Ring))])):=(Same.refl H).laid hT
   have eT:(upd H T (.lst [V.str (tx (nmC .Joined)),V.str (tx (nmC .NoSquare)),V.str (tx (nmC .Ring))])) T=some (.lst [V.str (tx (nmC .Joined)),V.str (tx (nmC .NoSquare)),V.str (tx (nmC .Ring))]):=ad
   have fin:∀ k:RK,allK k=true→k≠.Rule→numK k=false→sgnK k=true→(nmC k).length≤20→∀ (H1:Hp),Same H H1→cAdd (.str (tx (nmC k))) (.str (tx [32])) H1 fun x H2=>kStr [.int (m:Int)] H2 fun y H3=>cAdd x y H3 Q:=fun k a1 a2 a3 a4 a5 H1 s=>by
    refine va (by omega) (by decide) ?_
    refine pY (by omega) ?_
    refine va (by simp; omega) (by have:=hN m; omega) ?_
    have e:nmC k++[32]++numC m=catL 32 (rowW k 0 m []):=by
     unfold rowW
     rw [a3,a4]
     show nmC k++[32]++numC m=nmC k++32::numC m
     simp
    rw [e]
    exact q ⟨k,0,m,[],rngL 0 (h*w)⟩ H1 s (rY a1 a2 a3 a4 m0 m1)
   have hw3:way=5∨way=6∨way=7:=by omega
   rcases hw3 with rfl | rfl | rfl
   · refine ixL eT (v:=V.str (tx (nmC .Joined))) rfl ?_
     walk_at "w"
     exact fin .Joined rfl (by decide) rfl rfl (by decide) _ s1
   · refine ixL eT (v:=V.str (tx (nmC .NoSquare))) rfl ?_
     walk_at "w"
     exact fin .NoSquare rfl (by decide) rfl rfl (by decide) _ s1
   · refine ixL eT (v:=V.str (tx (nmC .Ring))) rfl ?_
     walk_at "w"
     exact fin .Ring rfl (by decide) rfl rfl (by decide) _ s1
 · rw [decide_eq_false hw]
   refine iteF ?_
   exact ly L M hO c1 c2 c3 c4 o0 o1 m0 m1 w0 (by omega) q
theorem mG {K:PySem.W.Frag} {vs:List V} {H:Hp} {Q:VK} {E:XK} (h:bM K vs H Q E):de K { nx:=fun _ H'=>Q .non H',rt:=Q } (start ["_law_floor_here","_law_filling_here","_law_cell","_law_many","_law_xs","_law_order_here","_law_some","_law_sign","_law_off","_law_way","_law_words"] vs) H:=by
 obtain ⟨p,f,h,w,g,z,xs,rfl,L,q⟩:=h
 obtain ⟨h0,h1,w0,w1,m16,g0,g1⟩:=id L.F
 have mpos:1≤h*w:=Int.le_trans (by omega) (Int.mul_le_mul h0 w0 (by omega) (by omega))
 show de K _ [some (.ref p),some (.ref f),some (.int z),none,none,none,none,none,none,none,none] H
 unfold de
 walk_at "w"
 refine ixT L.fl (v:=V.int h) rfl ?_
 walk_at "w"
 refine ixT L.fl (v:=V.int w) rfl ?_
 walk_at "w"
 refine ⟨fC h0 h1,⟨by decide,by decide⟩,?_⟩
 walk_at "w"
 refine ⟨_,_,rfl,by omega,by omega,fun X H1 ys s1 hX eX hl hy=>?_⟩
 walk_at "w"
 refine ⟨X,h*w,ys,rfl,eX,by omega,by omega,by omega,fun O H2 cs s2 hO eO nd lt len=>?_⟩
 have s12:=s1.trans s2
 have eX2:=s2 _ _ eX
 walk_at "w"
 refine ixI eX2 (by omega) (by omega) ?_
 have y1:0≤ys.getD (h*w).toNat 0 % (h*w)∧ys.getD (h*w).toNat 0 % (h*w) < h*w:=⟨Int.emod_nonneg _ (by omega),Int.emod_lt_of_pos _ (by omega)⟩
 walk_at "w"
 refine ⟨by omega,?_⟩
 generalize ys.getD (h*w).toNat 0 % (h*w)=r1 at*
 refine fN eO fun S hS=>?_
 rw [gn _ (by omega),mE]
 have s3:Same H (upd H2 S (.lst (nsV (cs.take (1+r1).toNat)))):=s12.laid hS
 have s23:Same H2 (upd H2 S (.lst (nsV (cs.take (1+r1).toNat)))):=(Same.refl H2).laid hS
 have eS:(upd H2 S (.lst (nsV (cs.take (1+r1).toNat)))) S=some (.lst (nsV (cs.take (1+r1).toNat))):=ad
 generalize upd H2 S (.lst (nsV (cs.take (1+r1).toNat)))=H3 at*
 walk_at "w"
 refine ixI (s23 _ _ eX2) (by omega) (by omega) ?_
 walk_at "w"
 refine ixT (s3 _ _ L.fl) (v:=V.int g) rfl ?_
 walk_at "w"
 refine ⟨by omega,?_⟩
 have y2:0≤ys.getD (h*w+1).toNat 0 % g∧ys.getD (h*w+1).toNat 0 % g < g:=⟨Int.emod_nonneg _ (by omega),Int.emod_lt_of_pos _ (by omega)⟩
 generalize ys.getD (h*w+1).toNat 0 % g=r2 at*
 refine ⟨am (by show (4:Nat)≤1000; decide),fun T hT=>?_⟩
 have s4:Same H3 (upd H3 T (.lst [V.int 0,V.int 0,V.int 0,V.int 1])):=(Same.refl H3).laid hT
 have eT:(upd H3 T (.lst [V.int 0,V.int 0,V.int 0,V.int 1])) T=some (.lst (([0,0,0,1]:List Int).map V.int)):=ad
 generalize upd H3 T (.lst [V.int 0,V.int 0,V.int 0,V.int 1])=H4 at*
 have s34:=s3.trans s4
 refine ixI (s4 _ _ (s23 _ _ eX2)) (by omega) (by omega) ?_
 walk_at "w"
 refine ⟨by decide,?_⟩
 have y3:0≤ys.getD (h*w+2).toNat 0 % 4∧ys.getD (h*w+2).toNat 0 % 4 < 4:=⟨Int.emod_nonneg _ (by omega),Int.emod_lt_of_pos _ (by omega)⟩
 generalize ys.getD (h*w+2).toNat 0 % 4=r3 at*
 refine ixI eT y3.1 (by show r3 < 4; omega) ?_
 have y4:0≤([0,0,0,1]:List Int).getD r3.toNat 0∧([0,0,0,1]:List Int).getD r3.toNat 0≤1:=by
  have:r3=0∨r3=1∨r3=2∨r3=3:=by omega
  rcases this with rfl | rfl | rfl | rfl <;> decide
 generalize ([0,0,0,1]:List Int).getD r3.toNat 0=off at*
 walk_at "w"
 refine ⟨by decide,?_⟩
 have em:1+r2=(((1+r2).toNat:Nat):Int):=by omega
 have em1:1≤(((1+r2).toNat:Nat):Int)∧(((1+r2).toNat:Nat):Int)≤g:=by omega
 rw [em]
 generalize (1+r2).toNat=m at*
 have y5:=Int.emod_nonneg z (show (8:Int)≠0 by decide)
 have y6:=Int.emod_lt_of_pos z (show (0:Int) < 8 by decide)
 refine lz (cs:=cs) (ns:=cs.take (1+r1).toNat) (L.same s34) ⟨s4 _ _ eS,nd.sublist (List.take_sublist _ _),?_,?_,fun c hc=>?_⟩ ((s23.trans s4) _ _ eO) nd ?_ (by omega) (fun c hc=>?_) y4.1 y4.2 em1.1 em1.2 y5 y6 fun r H' s5 O=>q r H' (s34.trans s5) O
 · intro e
   have:=congrArg List.length e
   rw [List.length_take,List.length_nil] at this
   omega
 · rw [List.length_take]; omega
 · have:=lt c (List.mem_of_mem_take hc)
   omega
 · intro e
   rw [e] at len
   simp at len
   omega
 · have:=lt c hc
   omega
def bi (K:PySem.W.Frag):Sp:=fun vs H Q _=>∃ (a p:Addr) (ns:List Int) (at_ h w g:Int),vs=[.ref a,.ref p,.int at_]∧SqL K H a (ns.map V.int)∧ns.length≤63∧0≤at_∧at_≤500∧IsFl H p h w g∧FlOk h w g∧
 ∀ (l:Addr) (H':Hp) (xs:List Int),Same H H'→H l=none→H' l=some (.lst (xs.map V.int))→xs.length=(h*w).toNat→(∀ x∈xs,1≤x∧x≤g)→Q (.ref l) H'
theorem jR {K:PySem.W.Frag} {vs:List V} {H:Hp} {Q:VK} {E:XK} (h:bi K vs H Q E):vs.length=3:=by
 obtain ⟨_,_,_,_,_,_,_,rfl,_⟩:=h; rfl
def cq (K:PySem.W.Frag):TS:=
 (tRet (tComp [none,none,some 2,some 1,some 0] (fK (tCons (tOp cMul (tOp cIx (tVar 1) (tC (.int 0))) (tOp cIx (tVar 1) (tC (.int 1)))) tNil)) (gName 1) tTrue (tOp cAdd (tC (.int 1)) (tOp cMod (tCall (aH K) [] E0 (tCons (tVar 4) (tCons (tOp cAdd (tVar 2) (tVar 1)) tNil))) (tOp cIx (tVar 3) (tC (.int 2)))))))
theorem jS {K:PySem.W.Frag} {vs:List V} {H:Hp} {Q:VK} {E:XK} (h:bi K vs H Q E):cq K { nx:=fun _ H'=>Q .non H',rt:=Q } (start ["_law_script","_law_floor_here","_law_at_here"] vs) H:=by
 obtain ⟨a,p,ns,at_,h,w,g,rfl,hS,hn,a0,a1,hp,F,q⟩:=h
 obtain ⟨h0,h1,w0,w1,m16,g0,g1⟩:=id F
 have mpos:0≤h*w:=Int.mul_nonneg (by omega) (by omega)
 show cq K _ [some (.ref a),some (.ref p),some (.int at_)] H
 unfold cq
 walk_at "w"
 refine ixT hp (v:=V.int h) rfl ?_
 walk_at "w"
 refine ixT hp (v:=V.int w) rfl ?_
 walk_at "w"
 refine ⟨fC h0 h1,h*w,rfl,by omega,by omega,?_⟩
 refine pF (fun _=>true) (fun i=>1+lawAt ns (at_+(i:Int)) % g) (by omega) ?_ ?_ ?_
 · intro i H1 R hi s1 k1
   exact k1 _ (Same.refl _)
 · intro i H1 Q1 hi hb s1 k1
   show tOp cAdd _ _ [none,some (.int (0+(i:Int))),some (.int at_),some (.ref p),some (.ref a)] H1 Q1
   rw [Int.zero_add]
   walk_at "w"
   refine ⟨a,ns,_,rfl,s1.seq hS,hn,by omega,by omega,?_⟩
   walk_at "w"
   refine ixT (s1 _ _ hp) (v:=V.int g) rfl ?_
   walk_at "w"
   exact ⟨by omega,k1 _ (Same.refl _)⟩
 · intro l H1 hl s1 el
   rw [cJ] at el
   refine q l H1 _ s1 hl el (by simp) fun x hx=>?_
   obtain ⟨i,_,rfl⟩:=List.mem_map.mp hx
   have e0:=Int.emod_nonneg (lawAt ns (at_+(i:Int))) (show g≠0 by omega)
   have e1:=Int.emod_lt_of_pos (lawAt ns (at_+(i:Int))) (show 0 < g by omega)
   omega
end L2
namespace L2
open PySem PySem.Spec PyProof.Rows
end L2
namespace L2
open PySem PySem.Spec PyProof.Rows
section
variable {P:Program} {w:World} {K:PySem.W.Frag} {mg:Str→Option Value} {base:Heap} {k:Nat} {x qual y:Str} {st:Stmt} {f:Addr} {fd:FuncData} {sp:Sp}
theorem lA {a0:Str} (F:Fun K x qual st f fd) (h:∀ (kV doc pm:Value) (an:Option Addr) (cdv ct u0:Value),bindArgs (PySem.W.fnOf x qual (ba st) (aU st) (aj st) .none kV doc pm an cdv ct) ⟨[u0],[]⟩=pure (([a0]:List Str).zip [u0]):=by intros; rfl):Binds K fd [a0] []:=F.binds fun _ _ _ _ _ _ us hl=>match us,hl with | [u0],_=>h _ _ _ _ _ _ _
theorem pc {a0:Str} (T:FnOk P w K mg base CX0 k f fd [a0] sp) (F:Fun K x qual st f fd) (hm:mg y=some (.ref f)) (h:∀ (kV doc pm:Value) (an:Option Addr) (cdv ct u0:Value),bindArgs (PySem.W.fnOf x qual (ba st) (aU st) (aj st) .none kV doc pm an cdv ct) ⟨[u0],[]⟩=pure (([a0]:List Str).zip [u0]):=by intros; rfl):Cal P w K mg base k y [a0] sp:=⟨f,fd,T,hm,F.kp,lA F h⟩
theorem qE {a0 a1:Str} (F:Fun K x qual st f fd) (h:∀ (kV doc pm:Value) (an:Option Addr) (cdv ct u0 u1:Value),bindArgs (PySem.W.fnOf x qual (ba st) (aU st) (aj st) .none kV doc pm an cdv ct) ⟨[u0,u1],[]⟩=pure (([a0,a1]:List Str).zip [u0,u1]):=by intros; rfl):Binds K fd [a0,a1] []:=F.binds fun _ _ _ _ _ _ us hl=>match us,hl with | [u0,u1],_=>h _ _ _ _ _ _ _ _
theorem i4 {a0 a1:Str} (T:FnOk P w K mg base CX0 k f fd [a0,a1] sp) (F:Fun K x qual st f fd) (hm:mg y=some (.ref f)) (h:∀ (kV doc pm:Value) (an:Option Addr) (cdv ct u0 u1:Value),bindArgs (PySem.W.fnOf x qual (ba st) (aU st) (aj st) .none kV doc pm an cdv ct) ⟨[u0,u1],[]⟩=pure (([a0,a1]:List Str).zip [u0,u1]):=by intros; rfl):Cal P w K mg base k y [a0,a1] sp:=⟨f,fd,T,hm,F.kp,qE F h⟩
theorem sZ {a0 a1 a2:Str} (F:Fun K x qual st f fd) (h:∀ (kV doc pm:Value) (an:Option Addr) (cdv ct u0 u1 u2:Value),bindArgs (PySem.W.fnOf x qual (ba st) (aU st) (aj st) .none kV doc pm an cdv ct) ⟨[u0,u1,u2],[]⟩=pure (([a0,a1,a2]:List Str).zip [u0,u1,u2]):=by intros; rfl):Binds K fd [a0,a1,a2] []:=F.binds fun _ _ _ _ _ _ us hl=>match us,hl with | [u0,u1,u2],_=>h _ _ _ _ _ _ _ _ _
theorem mH {a0 a1 a2:Str} (T:FnOk P w K mg base CX0 k f fd [a0,a1,a2] sp) (F:Fun K x qual st f fd) (hm:mg y=some (.ref f)) (h:∀ (kV doc pm:Value) (an:Option Addr) (cdv ct u0 u1 u2:Value),bindArgs (PySem.W.fnOf x qual (ba st) (aU st) (aj st) .none kV doc pm an cdv ct) ⟨[u0,u1,u2],[]⟩=pure (([a0,a1,a2]:List Str).zip [u0,u1,u2]):=by intros; rfl):Cal P w K mg base k y [a0,a1,a2] sp:=⟨f,fd,T,hm,F.kp,sZ F h⟩
theorem vx {a0 a1 a2 a3:Str} (F:Fun K x qual st f fd) (h:∀ (kV doc pm:Value) (an:Option Addr) (cdv ct u0 u1 u2 u3:Value),bindArgs (PySem.W.fnOf x qual (ba st) (aU st) (aj st) .none kV doc pm an cdv ct) ⟨[u0,u1,u2,u3],[]⟩=pure (([a0,a1,a2,a3]:List Str).zip [u0,u1,u2,u3]):=by intros; rfl):Binds K fd [a0,a1,a2,a3] []:=F.binds fun _ _ _ _ _ _ us hl=>match us,hl with | [u0,u1,u2,u3],_=>h _ _ _ _ _ _ _ _ _ _
theorem vy {a0 a1 a2 a3 a4:Str} (F:Fun K x qual st f fd) (h:∀ (kV doc pm:Value) (an:Option Addr) (cdv ct u0 u1 u2 u3 u4:Value),bindArgs (PySem.W.fnOf x qual (ba st) (aU st) (aj st) .none kV doc pm an cdv ct) ⟨[u0,u1,u2,u3,u4],[]⟩=pure (([a0,a1,a2,a3,a4]:List Str).zip [u0,u1,u2,u3,u4]):=by intros; rfl):Binds K fd [a0,a1,a2,a3,a4] []:=F.binds fun _ _ _ _ _ _ us hl=>match us,hl with | [u0,u1,u2,u3,u4],_=>h _ _ _ _ _ _ _ _ _ _ _
theorem vz {a0 a1 a2 a3 a4 a5:Str} (F:Fun K x qual st f fd) (h:∀ (kV doc pm:Value) (an:Option Addr) (cdv ct u0 u1 u2 u3 u4 u5:Value),bindArgs (PySem.W.fnOf x qual (ba st) (aU st) (aj st) .none kV doc pm an cdv ct) ⟨[u0,u1,u2,u3,u4,u5],[]⟩=pure (([a0,a1,a2,a3,a4,a5]:List Str).zip [u0,u1,u2,u3,u4,u5]):=by intros; rfl):Binds K fd [a0,a1,a2,a3,a4,a5] []:=F.binds fun _ _ _ _ _ _ us hl=>match us,hl with | [u0,u1,u2,u3,u4,u5],_=>h _ _ _ _ _ _ _ _ _ _ _ _
end
end L2
namespace L2
open PySem PySem.Spec PyProof.Rows
section
variable {P:Program} {w:World} {K:PySem.W.Frag} {mg:Str→Option Value} {base:Heap} {k:Nat} {x qual y:Str} {st:Stmt} {f:Addr} {fd:FuncData} {sp:Sp}
theorem vA {a0:Str} (T:FnOk P w K mg base (CX1 P w) k f fd [a0] sp) (F:Fun K x qual st f fd) (hm:mg y=some (.ref f)) (h:∀ (kV doc pm:Value) (an:Option Addr) (cdv ct u0:Value),bindArgs (PySem.W.fnOf x qual (ba st) (aU st) (aj st) .none kV doc pm an cdv ct) ⟨[u0],[]⟩=pure (([a0]:List Str).zip [u0]):=by intros; rfl):bx P w K mg base k y [a0] sp:=⟨f,fd,T,hm,F.kp,lA F h⟩
theorem nZ {a0 a1:Str} (T:FnOk P w K mg base (CX1 P w) k f fd [a0,a1] sp) (F:Fun K x qual st f fd) (hm:mg y=some (.ref f)) (h:∀ (kV doc pm:Value) (an:Option Addr) (cdv ct u0 u1:Value),bindArgs (PySem.W.fnOf x qual (ba st) (aU st) (aj st) .none kV doc pm an cdv ct) ⟨[u0,u1],[]⟩=pure (([a0,a1]:List Str).zip [u0,u1]):=by intros; rfl):bx P w K mg base k y [a0,a1] sp:=⟨f,fd,T,hm,F.kp,qE F h⟩
theorem n9 {a0 a1 a2:Str} (T:FnOk P w K mg base (CX1 P w) k f fd [a0,a1,a2] sp) (F:Fun K x qual st f fd) (hm:mg y=some (.ref f)) (h:∀ (kV doc pm:Value) (an:Option Addr) (cdv ct u0 u1 u2:Value),bindArgs (PySem.W.fnOf x qual (ba st) (aU st) (aj st) .none kV doc pm an cdv ct) ⟨[u0,u1,u2],[]⟩=pure (([a0,a1,a2]:List Str).zip [u0,u1,u2]):=by intros; rfl):bx P w K mg base k y [a0,a1,a2] sp:=⟨f,fd,T,hm,F.kp,sZ F h⟩
theorem vB {a0 a1 a2 a3 a4:Str} (T:FnOk P w K mg base (CX1 P w) k f fd [a0,a1,a2,a3,a4] sp) (F:Fun K x qual st f fd) (hm:mg y=some (.ref f)) (h:∀ (kV doc pm:Value) (an:Option Addr) (cdv ct u0 u1 u2 u3 u4:Value),bindArgs (PySem.W.fnOf x qual (ba st) (aU st) (aj st) .none kV doc pm an cdv ct) ⟨[u0,u1,u2,u3,u4],[]⟩=pure (([a0,a1,a2,a3,a4]:List Str).zip [u0,u1,u2,u3,u4]):=by intros; rfl):bx P w K mg base k y [a0,a1,a2,a3,a4] sp:=⟨f,fd,T,hm,F.kp,vy F h⟩
end
end L2
namespace L2
open PySem PySem.Spec PyProof.Rows
section
variable {ι:Type}
structure oa (P:Program) (w:World) (K:PySem.W.Frag) (mg:Str→Option Value) (base:Heap) (c:RCl ι) (okm:ι→Bool) (k:Nat) (m:Str) (ps:List Str) (sp:ι→Sp):Prop where
 ex:∀ i,okm i=true→∃ (f:Addr) (fd:FuncData),Cls K (c.A i)∧Meth K (c.A i) m f∧FnOk P w K mg base (CX1 P w) k f fd ps (sp i)∧Binds K fd ps []
structure iq (P:Program) (w:World) (K:PySem.W.Frag) (mg:Str→Option Value) (base:Heap) (k:Nat) (x:Str) (C:Addr) (ps:List Str) (sp:Sp):Prop where
 ex:∃ (f:Addr) (fd:FuncData),Mk K C f∧FnOk P w K mg base (CX1 P w) k f fd ps sp∧mg x=some (.ref C)∧Binds K fd ps []
def pd (c:RCl ι) (okm:ι→Bool) (m:Str) (sp:ι→Sp) (E:XK) (ta:TE) (t:TA):TE:=fun σ H Q=>ta σ H fun x H1=>∃ a k dx fs,x=.ref a∧okm k=true∧H1 a=some (.ins (c.A k) dx fs)∧fs.lookup m=none∧
 t σ H1 fun vs H2=>sp k (x::vs) H2 Q E
end
section
variable {ι:Type} {X:Cx} {c:RCl ι} {o e:Expr} {es:List Expr} {x m:Str} {p pos apos:Pos} {ta:TE} {t:TA} {okm:ι→Bool} {k n:Nat} {ps:List Str} {sp:ι→Sp} {sp1:Sp} {C:Addr} {E:XK}
theorem rZ (hE:dt (CX1 X.prog X.w) X E) (M:iq X.prog X.w X.K X.mg X.base k x C ps sp1) (hr:Room n X.A) (hk:k+1≤n) (hg:Gl X x) (ha:PA X (e::es) t)
  (hdb:(x==("__debug__":Str))=false:=by decide) (he:starEach (e::es) X.env=(false,eval e X.env)::starEach es X.env:=by rfl) (hpl:(backTo pos (starEach es X.env)).any (·.1)=false:=by rfl):
  PE X (.Call (.Name x p) (e::es) [] pos) (tMake C sp1 [] E t):=by
 obtain ⟨f,fd,mk,F,hm,hb⟩:=M.ex
 exact pS mk F (hr.mono hk) hg hm hb .nil hE ha hdb he hpl
theorem t8 {pins:List (Addr × Obj)} {s:Shared} {σ:St} {H:Hp} {Q:VK} (E:XK) (hnx:∀ e s,X.xe e s→False) (M:iq X.prog X.w X.K X.mg X.base k x C ps sp1) (hr:Room n X.A) (hk:k+1≤n) (hg:Gl X x)
  (ha:PA X (e::es) t) (I:Inv X pins σ H s) (h:tMake C sp1 [] E t σ H Q) (hdb:(x==("__debug__":Str))=false:=by decide) (he:starEach (e::es) X.env=(false,eval e X.env)::starEach es X.env:=by rfl) (hpl:(backTo pos (starEach es X.env)).any (·.1)=false:=by rfl):
  wpAny (model X.prog X.w) X.A (eval (.Call (.Name x p) (e::es) [] pos) X.env) (EP X pins σ Q) (Came X pins σ E) s:=by
 obtain ⟨f,fd,mk,F,hm,hb⟩:=M.ex
 refine wpAny_Call_Name_kw (fS I hg hm ?_ hdb)
 refine PySem.W.callWith_K (h₀:=X.base) I.ok.mod.kin mk.kp (wpAny_mono (ha pos pins s σ H _ I h) (fun us s1 ⟨vs,H1,I1,r,q⟩=>⟨I1.kIn,?_⟩) fun e s z=>(hnx e s z).elim) he hpl
 have hq:=q (s1.heap.objs.size+1) s1.heap.objs.size (I1.hok.fresh (Nat.le_succ _)) (I1.hok.fresh (Nat.le_refl _)) (Nat.ne_of_lt (Nat.lt_succ_self _))
 have I2:=Inv.made (C:=C) I1
 have r2:Vals (V.ref (s1.heap.objs.size+1)::(vs++[])) ((Value.ref (s1.heap.objs.size+1)::us)++[]):=by rw [List.append_nil,List.append_nil]; exact .cons rfl r
 have hl:((Value.ref (s1.heap.objs.size+1)::us)++[]).length=ps.length:=by
  have e:=r2.length
  rw [F.len _ _ _ _ hq] at e
  exact e.symm
 have hr2:Room (k+1) X.A:=hr.mono hk
 refine wpAny_call (oi (f:=f) I1.kIn mk.makes mk.init (beq_iff_eq.mp mk.fn) (codeAny_mono (F.run _ X.stack _ _ ⟨Value.ref (s1.heap.objs.size+1)::us,[]⟩ ((Value.ref (s1.heap.objs.size+1)::us)++[]) _ _ E (hr2.make C us [])
  (I2.env0.make C us []) (hb _ (Value.ref (s1.heap.objs.size+1)::us) I2.kIn hl) r2 hq) fun r s' hq'=>?_))
 cases r with
 | error e=>exact ⟨_,_,I2,hq'⟩
 | ok fl=>
  cases fl with
  | ret u=>
   obtain ⟨v,H',I3,rv,ev,q3⟩:=I2.after hq'
   subst ev
   exact ⟨rv,⟨V.ref (s1.heap.objs.size+1),H',I3,rfl,q3⟩⟩
  | next=>exact False.elim hq'
  | brk=>exact False.elim hq'
  | cont=>exact False.elim hq'
theorem t9 {pl:Sem Bool} {pins:List (Addr × Obj)} {s:Shared} {σ:St} {H:Hp} {Q:VK} (E:XK) (hnx:∀ e s,X.xe e s→False) (M:oa X.prog X.w X.K X.mg X.base c okm k m ps sp) (hr:Room n X.A) (hk:k≤n) (he:PE X o ta) (ha:PA X (e::es) t)
  (I:Inv X pins σ H s) (h:pd c okm m sp E ta t σ H Q)
  (hst:starEach (e::es) X.env=(false,eval e X.env)::starEach es X.env:=by rfl) (hpl:(backTo pos (starEach es X.env)).any (·.1)=false:=by rfl)
  (ht:eval (.Call (.Attribute o m apos) (e::es) [] pos) X.env=(do
   let ov ← eval o X.env
   standAt apos.atName
   let (f,first) ← holding [ov] (getMethod ov m pl)
   callWith pos f first (backTo pos (starEach (e::es) X.env)) (backToKw pos (keywordEach [] X.env))):=by rfl):
  wpAny (model X.prog X.w) X.A (eval (.Call (.Attribute o m apos) (e::es) [] pos) X.env) (EP X pins σ Q) (Came X pins σ E) s:=by
 refine PySem.W.methodCall_KW (pl:=pl) (wpAny_mono (he pins s σ H _ I h) (fun u s1 ⟨x,H1,I1,rx,a,i,dx,fs,ex,hi,ea,l,q⟩=>?_) fun e s z=>(hnx e s z).elim) ht
 subst ex
 obtain rfl:u=Value.ref a:=rx
 obtain ⟨f,fd,cl,hm,F,hb⟩:=M.ex i hi
 refine kW I1 ea cl hm l ?_
 refine PySem.W.callWith_K (first:=[.ref a]) (h₀:=X.base) I.ok.mod.kin hm.kp (wpAny_mono (ha pos pins s1 σ H1 _ I1 q) (fun us s2 ⟨vs,H2,I2,r,q2⟩=>⟨I2.kIn,?_⟩) fun e s z=>(hnx e s z).elim) hst hpl
 have r2:Vals (V.ref a::vs) ((Value.ref a::us)++[]):=by rw [List.append_nil]; exact .cons rfl r
 have hl:((Value.ref a::us)++[]).length=ps.length:=by rw [← r2.length]; exact F.len _ _ _ _ q2
 refine wpAny_call (codeAny_mono (F.run X.A X.stack s2 H2 ⟨Value.ref a::us,[]⟩ ((Value.ref a::us)++[]) (V.ref a::vs) Q E (hr.mono hk) I2.env0 (hb s2 (Value.ref a::us) I2.kIn hl) r2 q2) fun r s' hq=>?_)
 cases r with
 | error e=>exact ⟨H2,s2,I2,hq⟩
 | ok fl=>
  cases fl with
  | ret u=>exact I2.after hq
  | next=>exact False.elim hq
  | brk=>exact False.elim hq
  | cont=>exact False.elim hq
def tTryK (K:PySem.W.Frag) (C:Addr) (sp:Sp) (t:TA) (cv:Value) (i:Nat) (th:TS):TS:=fun D σ H=>∃ E:XK,tMake C sp [] E t σ H (fun _ H2=>D.nx σ H2)∧oW K cv i E th D σ H
def tTryM (K:PySem.W.Frag) (c:RCl ι) (okm:ι→Bool) (m:Str) (sp:ι→Sp) (ta:TE) (t:TA) (cv:Value) (i:Nat) (th:TS):TS:=fun D σ H=>∃ E:XK,pd c okm m sp E ta t σ H (fun _ H2=>D.nx σ H2)∧oW K cv i E th D σ H
theorem ua {i:Nat} {nm cn:Str} {cv:Value} {np hpos epos tpos:Pos} {b₀:Stmt} {suite:List Stmt} {th:TS} (hnx:∀ e s,X.xe e s→False) (M:iq X.prog X.w X.K X.mg X.base k x C ps sp1) (hr:Room n X.A) (hk:k+1≤n) (hgf:Gl X x)
  (ha:PA X (e::es) t) (hN:X.N.Nodup) (hi:X.N[i]? =some nm) (hkn:X.env.kindOf nm=some .local) (hg:Gl X cn) (hm:X.mg cn=some cv)
  (hst:X.stack=X.env::X.outer) (hf:X.env.frame=some X.env.locals) (hs:∀ x,PSs (X.caught x) (b₀::suite) th) (hdb:(x==("__debug__":Str))=false:=by decide) (hdc:(cn==("__debug__":Str))=false:=by decide)
  (he:starEach (e::es) X.env=(false,eval e X.env)::starEach es X.env:=by rfl) (hpl:(backTo pos (starEach es X.env)).any (·.1)=false:=by rfl) (hsw:swapsWith (.Call (.Name x p) (e::es) [] pos) none epos.line X.env=pure false:=by rfl):
  PS X (.Try [.Expr (.Call (.Name x p) (e::es) [] pos) epos] [.ExceptHandler (some (.Name cn np)) (some nm) (b₀::suite) hpos] [] [] tpos) (tTryK X.K C sp1 t cv i th):=by
 intro pins s σ H D I h
 obtain ⟨E,h1,h2⟩:=h
 refine wpAny_Try_except (wpAny_execs_cons (wpAny_Expr_any (wpAny_mono (t8 E hnx M hr hk hgf ha I h1 hdb he hpl) (fun v s1 ⟨y,H1,I1,r1,q1⟩=>?_) fun e s' hc=>?_) I.quiet hsw))
 · exact wpAny_execs_nil (wpAny_execs_nil ⟨σ,H1,I1,q1⟩)
 · exact oX hN hi hkn hg hm hst hf hs hc h2 hdc
theorem ub {pl:Sem Bool} {i:Nat} {nm cn:Str} {cv:Value} {np hpos epos tpos:Pos} {b₀:Stmt} {suite:List Stmt} {th:TS} (hnx:∀ e s,X.xe e s→False) (M:oa X.prog X.w X.K X.mg X.base c okm k m ps sp) (hr:Room n X.A) (hk:k≤n) (he:PE X o ta) (ha:PA X (e::es) t)
  (hN:X.N.Nodup) (hi:X.N[i]? =some nm) (hkn:X.env.kindOf nm=some .local) (hg:Gl X cn) (hm:X.mg cn=some cv)
  (hst:X.stack=X.env::X.outer) (hf:X.env.frame=some X.env.locals) (hs:∀ x,PSs (X.caught x) (b₀::suite) th) (hdc:(cn==("__debug__":Str))=false:=by decide)
  (hse:starEach (e::es) X.env=(false,eval e X.env)::starEach es X.env:=by rfl) (hpl:(backTo pos (starEach es X.env)).any (·.1)=false:=by rfl) (hsw:swapsWith (.Call (.Attribute o m apos) (e::es) [] pos) none epos.line X.env=pure false:=by rfl)
  (ht:eval (.Call (.Attribute o m apos) (e::es) [] pos) X.env=(do
   let ov ← eval o X.env
   standAt apos.atName
   let (f,first) ← holding [ov] (getMethod ov m pl)
   callWith pos f first (backTo pos (starEach (e::es) X.env)) (backToKw pos (keywordEach [] X.env))):=by rfl):
  PS X (.Try [.Expr (.Call (.Attribute o m apos) (e::es) [] pos) epos] [.ExceptHandler (some (.Name cn np)) (some nm) (b₀::suite) hpos] [] [] tpos) (tTryM X.K c okm m sp ta t cv i th):=by
 intro pins s σ H D I h
 obtain ⟨E,h1,h2⟩:=h
 refine wpAny_Try_except (wpAny_execs_cons (wpAny_Expr_any (wpAny_mono (t9 (pl:=pl) E hnx M hr hk he ha I h1 hse hpl ht) (fun v s1 ⟨y,H1,I1,r1,q1⟩=>?_) fun e s' hc=>?_) I.quiet hsw))
 · exact wpAny_execs_nil (wpAny_execs_nil ⟨σ,H1,I1,q1⟩)
 · exact oX hN hi hkn hg hm hst hf hs hc h2 hdc
end
section
variable {ι:Type} {c:RCl ι} {ta:TE} {t:TA} {m:Str} {σ:St} {H:Hp} {Q:VK} {okm:ι→Bool} {sp:ι→Sp} {sp1:Sp} {C:Addr} {E:XK}
theorem uc:pd c okm m sp E ta t σ H Q=ta σ H fun x H1=>∃ a k dx fs,x=.ref a∧okm k=true∧H1 a=some (.ins (c.A k) dx fs)∧fs.lookup m=none∧t σ H1 fun vs H2=>sp k (x::vs) H2 Q E:=rfl
theorem ud:tMake C sp1 [] E t σ H Q=t σ H fun vs H1=>∀ x dx,H1 x=none→H1 dx=none→dx≠x→sp1 (.ref x::(vs++[])) (upd (upd H1 dx (.own x)) x (.ins C dx [])) (fun v H2=>v=.non∧Q (.ref x) H2) E:=rfl
end
def IntW (w:List Nat) (n:Nat):Prop:=(n < 100∧w=numC n)∨(n=100∧w=[49,48,48])∨(n=999999999∧w=[57,57,57,57,57,57,57,57,57])
set_option maxHeartbeats 4000000 in
theorem gisX (n:Nat) (w:List Nat) (hw:(n=100∧w=[49,48,48])∨(n=999999999∧w=[57,57,57,57,57,57,57,57,57])) (u:Tok):Gives (Builtin.«int.__new__» ⟨[.type "int",.str (tx w) u],[]⟩) (.int n):=
 .of_wp fun M A E s Q h=>by
  have ha:((tx w).cps.all fun x=>decide (x < 128))=true:=by rcases hw with ⟨_,rfl⟩ | ⟨_,rfl⟩ <;> decide+kernel
  obtain ⟨hp,g,d,tk,os⟩:=s
  have f1:=PySem.F.conv_sub_int
  have f2:=PySem.F.madeHere_int
  have f3:=lh
  have f4:=iY
  have f5:=iZ
  iterate 44 (any_goals (first | assumption | wp_step))
  refine wpAny_bind (wpAny_of_eq (a:=some (tx w)) rfl ?_)
  refine wpAny_of_eq (a:=some w) ?e1 ?_
  case e1=>
   show (pure (some (if ((tx w).cps.all fun x=>decide (x < 128))=true then (tx w).cps.toList else _)):Sem _)=_
   rw [if_pos ha,iT]
  refine m9 (m':=mkInt (n:Int)) ?e2 ?_
  case e2=>
   clear h f1 f2 f3 f4 f5
   rcases hw with ⟨rfl,rfl⟩ | ⟨rfl,rfl⟩ <;> kernel_rfl
  repeat (any_goals (first | assumption | wp_step))
  all_goals first | exact ⟨_,rfl,h⟩ | skip
def qG:List V→Hp→VK→Prop
 | [.int i],H,Q=>Q (.int i) H
 | [.bl k],H,Q=>Q (.int (if k then 1 else 0)) H
 | [.str z],H,Q=>∃ (n:Nat) (w:List Nat),IntW w n∧z=tx w∧Q (.int n) H
 | _,_,_=>False
theorem qH {X:Cx}:CallR X (.type "int") qG:=by
 intro pins s σ H xs us Q I r h
 unfold qG at h
 split at h
 · exact mS pins s σ H _ us Q I r (.inl ⟨_,rfl,h⟩)
 · exact mS pins s σ H _ us Q I r (.inr ⟨_,rfl,h⟩)
 · obtain ⟨n,w,hw,rfl,q⟩:=h
   obtain ⟨u,rfl,ru⟩:=cL r
   obtain ⟨t,rfl⟩:=ru
   rcases hw with ⟨hn,rfl⟩ | hw
   · exact call_int_1 (gis n hn t).meets (show (Made.int (n:Int)).post _ s from ⟨rfl,⟨.int n,H,I.tok _,⟨_,rfl⟩,q⟩⟩)
   · exact call_int_1 (gisX n w hw t).meets (show (Made.int (n:Int)).post _ s from ⟨rfl,⟨.int n,H,I.tok _,⟨_,rfl⟩,q⟩⟩)
 · exact h.elim
end L2
namespace L2
open PySem PySem.Spec PyProof.Rows
local macro_rules | `(tactic| walk_at "w")=>`(tactic| (first | simp only [aF,ud,uc,qz,kI,oY,mt,mw,qA,qu,oQ,qy,if_true,if_false,Bool.false_eq_true,decide_true,decide_false,mm,mn,qw,kx,iW,mj,oM,ml,kq,oI,oJ,ko,qo,ky,kz,kB,kC,kD,kE,kA,oR,oS,oU,oH,qv,Bool.not_true,Bool.not_false,aX,jn,bV,il,w_c,km,im,gS,gU,gh,w_b,w_not,jo,ma,gW,gX,jp,jq,gY,md,gZ,jr,js,me,jt,gi,g5,g6,g7,fW,fX,eN,eP,eQ,dO,ju,jv,jw,jx,jy,jz,jA,jB,jC,jD,jE,jF,mh,g8,eW,g9,mi,hJ,fY,eY,jG,jH,hV,gj,hZ,
 List.getElem?_cons_zero,List.getElem?_cons_succ,Option.some.injEq,exists_eq_left',exists_eq_left,List.set_cons_zero,List.set_cons_succ,dG,V.int.injEq,V.bl.injEq,V.ref.injEq,V.str.injEq,List.append_nil,List.nil_append,List.cons_append] | dsimp only | skip))
def bo (a:EA):List Addr:=[a.BadThought,a.NoFilling,a.NoMove,a.NoName,a.NoRow,a.NoText,a.NotOne,a.TooMany,a.NoRule,a.NoPuzzle]
def bp (a:EA):List Addr:=[a.BadThought,a.NoFilling,a.NoMove,a.NoName,a.NoRow,a.NoText,a.NotOne,a.TooMany,a.NoFloor,a.NoPuzzle]
def bq (a:EA):List Addr:=[a.BadThought,a.NoFilling,a.NoMove,a.NoName,a.NoRow,a.NoText,a.NotOne,a.TooMany,a.NoFloor,a.NoRule]
def digB (c:Nat):Bool:=decide (48≤c)&&decide (c≤57)
def badH (w:List Nat):Bool:=decide (w=[])||decide (9 < w.length)||(decide (w.head? =some 48)&&!decide (w=[48]))
def numW (w:List Nat):Option Nat:=if badH w=true then none else if w.all digB=true then some (w.foldl (fun a c=>10*a+(c - 48)) 0) else none
def NumOk (w:List Nat):Prop:=∀ n,numW w=some n→IntW w n
def nV:Option Nat→V
 | none=>.non
 | some n=>.int n
structure WdOk (w:List Nat):Prop where
 len:w.length≤100
 asc:∀ c∈w,c < 128
 num:NumOk w
def bN (K:PySem.W.Frag):Sp:=fun vs H Q _=>∃ w:List Nat,vs=[.str (tx w)]∧WdOk w∧∀ H',Same H H'→Q (nV (numW w)) H'
theorem mI {K:PySem.W.Frag} {vs:List V} {H:Hp} {Q:VK} {E:XK} (h:bN K vs H Q E):vs.length=1:=by
 obtain ⟨_,rfl,_⟩:=h; rfl
def dk (K:PySem.W.Frag):TS:=
 (tSeq (tIfS (tNot (tB (tCB kAll (tCons (tComp [none,none] (iStr (tVar 0)) (gName 1) tTrue (tOp (cIn K false) (tVar 1) (tC (.str (tx [48,49,50,51,52,53,54,55,56,57]))))) tNil)))) (tRet (tC .non)) tNext)
  (tRet (tCB qG (tCons (tVar 0) tNil))))
def df (K:PySem.W.Frag):TS:=
 (tSeq (tIfS (tOr (tTest (tOp (cEq K) (tVar 0) (tC (.str (tx []))))) (tOr (tTest (tOp (cCmp fun i j=>decide (j < i)) (tCB kLen (tCons (tVar 0) tNil)) (tC (.int 9)))) (tAnd (tTest (tOp (cEq K) (tOp cIx (tVar 0) (tC (.int 0))) (tC (.str (tx [48]))))) (tTest (tOp (cNe K) (tVar 0) (tC (.str (tx [48])))))))) (tRet (tC .non)) tNext)
  (dk K))
theorem ue {c:Nat} (h:c < 128):(!(Builtin.Str.occurrences (tx [48,49,50,51,52,53,54,55,56,57]) (tx [c]) 0 (tx [48,49,50,51,52,53,54,55,56,57]).length 1).isEmpty)=digB c:=by
 have t:((List.range 128).all fun c=>decide ((!(Builtin.Str.occurrences (tx [48,49,50,51,52,53,54,55,56,57]) (tx [c]) 0 (tx [48,49,50,51,52,53,54,55,56,57]).length 1).isEmpty)=digB c))=true:=by decide+kernel
 exact of_decide_eq_true (List.all_eq_true.mp t c (List.mem_range.mpr h))
theorem fH {K:PySem.W.Frag} {H:Hp} {Q:VK} {w:List Nat} (W:WdOk w) (hb:badH w=false) (q:∀ H',Same H H'→Q (nV (numW w)) H'):dk K { nx:=fun _ H'=>Q .non H',rt:=Q } [some (.str (tx w))] H:=by
 have hw:=W.asc
 have hl:=W.len
 unfold dk
 rw [aF,aO]
 walk_at "w"
 refine rH (cs:=w) (fun _=>true) (fun i=>.bl (digB (w.getD i 0))) (by omega) ?_ ?_ ?_
 · intro i c H1 R hc s1 k1
   exact k1 _ (Same.refl _)
 · intro i c H1 Q1 hc hb s1 k1
   show tOp (cIn K false) _ _ [none,some (.str (tx [c]))] H1 Q1
   walk_at "w"
   have q1:=k1 _ (Same.refl H1)
   show Q1 (.bl (if false=true then _ else !(Builtin.Str.occurrences (tx [48,49,50,51,52,53,54,55,56,57]) (tx [c]) 0 (tx [48,49,50,51,52,53,54,55,56,57]).length 1).isEmpty)) H1
   rw [if_neg Bool.false_ne_true,ue (hw c (List.mem_of_getElem? hc))]
   have eg:w.getD i 0=c:=by rw [List.getD,hc]; rfl
   rw [eg] at q1
   exact q1
 · intro l H1 hl1 s1 el
   have eb:((List.range w.length).filter fun _=>true).map (fun i=>V.bl (digB (w.getD i 0)))=(w.map digB).map V.bl:=by
    rw [cJ]
    refine List.ext_getElem? fun i=>?_
    rw [List.getElem?_map,List.getElem?_map,List.getElem?_map]
    by_cases h:i < w.length
    · rw [List.getElem?_range h,List.getElem?_eq_getElem h]
      simp [List.getD,h]
    · rw [List.getElem?_eq_none (by simpa using h),List.getElem?_eq_none (by omega)]; rfl
   rw [eb] at el
   refine sV el ?_
   have ea:(w.map digB).all id=w.all digB:=by rw [List.all_map]; rfl
   rw [ea]
   have q1:=q _ s1
   unfold numW at q1
   rw [hb,if_neg Bool.false_ne_true] at q1
   cases hd:w.all digB with
   | false=>
    rw [hd,if_neg Bool.false_ne_true] at q1
    walk_at "w"
    exact q1
   | true=>
    rw [hd,if_pos rfl] at q1
    walk_at "w"
    refine ⟨_,w,W.num _ ?_,rfl,q1⟩
    unfold numW
    rw [hb,if_neg Bool.false_ne_true,hd,if_pos rfl]
theorem mJ {K:PySem.W.Frag} {vs:List V} {H:Hp} {Q:VK} {E:XK} (h:bN K vs H Q E):df K { nx:=fun _ H'=>Q .non H',rt:=Q } (start ["word"] vs) H:=by
 obtain ⟨w,rfl,W,q⟩:=h
 have hl:=W.len
 have qn:badH w=true→Q .non H:=fun hb=>by
  have q1:=q _ (Same.refl H)
  unfold numW at q1
  rw [if_pos hb] at q1
  exact q1
 show df K _ [some (.str (tx w))] H
 unfold df
 rw [aF,aO]
 walk_at "w"
 rw [lc]
 by_cases h0:w=[]
 · rw [decide_eq_true h0]
   exact iteT (qn (by rw [h0]; rfl))
 rw [decide_eq_false h0]
 refine iteF ⟨by rw [bR]; exact am (by omega),?_⟩
 walk_at "w"
 rw [bR]
 by_cases h9:9 < w.length
 · rw [decide_eq_true (show (9:Int) < ((w.length:Nat):Int) by omega)]
   exact iteT (qn (by unfold badH; rw [decide_eq_true h9]; simp))
 rw [decide_eq_false (show ¬ (9:Int) < ((w.length:Nat):Int) by omega)]
 refine iteF ?_
 rw [vo,bR,iT]
 obtain ⟨c,r,ec⟩:∃ c r,w=c::r:=by
  cases e:w with
  | nil=>exact absurd e h0
  | cons c r=>exact ⟨c,r,rfl⟩
 refine ⟨am (by omega),ce (a:=c) (by rw [ec]; exact bd (j:=0) rfl) ?_⟩
 walk_at "w"
 have e1:decide ((⟨#[c]⟩:Str)=tx [48])=decide (c=48):=by
  have:(⟨#[c]⟩:Str)=tx [c]:=rfl
  rw [this,lc]
  simp
 rw [e1,lc]
 have eh:badH w=(decide (c=48)&&!decide (w=[48])):=by
  unfold badH
  rw [decide_eq_false h0,decide_eq_false h9,ec]
  simp
 cases hc:decide (c=48) with
 | false=>
  refine iteF ?_
  exact fH W (by rw [eh,hc]; rfl) q
 | true=>
  refine iteT ?_
  cases hw:decide (w=[48]) with
  | false=>exact iteT (qn (by rw [eh,hc,hw]; rfl))
  | true=>exact iteF (fH W (by rw [eh,hc,hw]; rfl) q)
def inW (o:Option Nat) (lo hi:Int):Bool:=match o with
 | none=>false
 | some n=>decide (lo≤n)&&decide ((n:Int)≤hi)
abbrev RE (K:PySem.W.Frag) (H:Hp) (E:XK):Prop:=∀ C,Glb K "NoRule" C→∀ H',Same H H'→E (.ref C) none H'
def aP (K:PySem.W.Frag):Sp:=fun vs H Q E=>∃ (w:List Nat) (lo hi:Int),vs=[.str (tx w),.int lo,.int hi]∧WdOk w∧(∀ n,numW w=some n→inW (some n) lo hi=true→∀ H',Same H H'→Q (.int n) H')∧(inW (numW w) lo hi=false→RE K H E)
theorem i5 {K:PySem.W.Frag} {vs:List V} {H:Hp} {Q:VK} {E:XK} (h:aP K vs H Q E):vs.length=3:=by
 obtain ⟨_,_,_,rfl,_⟩:=h; rfl
def cg (K:PySem.W.Frag) (a:EA) (E:XK):TS:=
 (tSeq (tAsg (tCall (bN K) [] E0 (tCons (tVar 0) tNil)) (gName 3))
  (tSeq (tIfS (tOr (tTest (tOp rIsN (tVar 3) (tC .non))) (tOr (tTest (tOp (cCmp fun i j=>decide (i < j)) (tVar 3) (tVar 1))) (tTest (tOp (cCmp fun i j=>decide (j < i)) (tVar 3) (tVar 2))))) (bE E a.NoRule (tCons (tC (.str (tx [97,32,110,117,109,98,101,114,32,111,102,32,116,104,101,32,114,117,108,101,32,105,115,32,110,111,110,101,44,32,111,114,32,98,101,121,111,110,100,32,105,116,115,32,98,111,117,110,100,115]))) tNil)) tNext)
  (tRet (tVar 3))))
section
variable {K:PySem.W.Frag} {a:EA} {vs:List V} {H:Hp} {Q:VK} {E:XK} (RF:aB K a "NoFloor" a.NoFloor (bo a)) (RR:aB K a "NoRule" a.NoRule (bp a)) (RP:aB K a "NoPuzzle" a.NoPuzzle (bq a))
include RF RR RP
theorem i6 (h:aP K vs H Q E):cg K a E { nx:=fun _ H'=>Q .non H',rt:=Q } (start ["word","least","most","number"] vs) H:=by
 obtain ⟨w,lo,hi,rfl,W,q1,q2⟩:=h
 show cg K a E _ [some (.str (tx w)),some (.int lo),some (.int hi),none] H
 unfold cg
 walk_at "w"
 refine ⟨w,rfl,W,fun H1 s1=>?_⟩
 have fail:inW (numW w) lo hi=false→∀ (vs:List V),vs.length=1→vs.length≤sizeLine∧E (.ref a.NoRule) none H1:=fun hb vs hv=>⟨am (by omega),q2 hb _ RR.g _ s1⟩
 cases e:numW w with
 | none=>
  show tIfS _ _ _ _ [some (.str (tx w)),some (.int lo),some (.int hi),some .non] H1
  rw [aO]
  walk_at "w"
  rw [br]
  walk_at "w"
  exact fail (by rw [e]; rfl) _ rfl
 | some n=>
  show tIfS _ _ _ _ [some (.str (tx w)),some (.int lo),some (.int hi),some (.int n)] H1
  rw [aO]
  walk_at "w"
  rw [decide_eq_false (show ¬ V.int n=V.non from fun e=>nomatch e)]
  refine iteF ?_
  by_cases h1:(n:Int) < lo
  · rw [decide_eq_true h1]
    refine iteT ?_
    rw [br]
    walk_at "w"
    exact fail (by rw [e]; unfold inW; simp; omega) _ rfl
  rw [decide_eq_false h1]
  refine iteF ?_
  by_cases h2:hi < (n:Int)
  · rw [decide_eq_true h2]
    refine iteT ?_
    rw [br]
    walk_at "w"
    exact fail (by rw [e]; unfold inW; simp; omega) _ rfl
  rw [decide_eq_false h2]
  refine iteF ?_
  walk_at "w"
  exact q1 n e (by unfold inW; simp; omega) _ s1
end
def aY (K:PySem.W.Frag):Sp:=fun vs H Q E=>∃ (p:Addr) (ws:List (List Nat)) (lo hi:Int),vs=[.ref p,.int lo,.int hi]∧H p=some (.lst ((ws.map tx).map V.str))∧(∀ w∈ws,WdOk w)∧
 (∀ w r n,ws=w::r→numW w=some n→inW (some n) lo hi=true→∀ H',Same H H'→Q (.int n) H')∧((∀ w r n,ws=w::r→numW w=some n→inW (some n) lo hi=false)→RE K H E)
theorem jT {K:PySem.W.Frag} {vs:List V} {H:Hp} {Q:VK} {E:XK} (h:aY K vs H Q E):vs.length=3:=by
 obtain ⟨_,_,_,_,rfl,_⟩:=h; rfl
def cr (K:PySem.W.Frag) (a:EA) (E:XK):TS:=
 (tSeq (tIfS (tTest (tOp (cEq K) (tVar 0) (tLst tNil))) (bE E a.NoRule (tCons (tC (.str (tx [116,104,101,32,114,117,108,101,32,104,97,115,32,116,111,111,32,102,101,119,32,119,111,114,100,115]))) tNil)) tNext)
  (tRet (tCall (aP K) [] E (tCons (tOp cIx (tVar 0) (tC (.int 0))) (tCons (tVar 1) (tCons (tVar 2) tNil))))))
theorem WdOk.strs {ws:List (List Nat)} (h:∀ w∈ws,WdOk w):∀ x∈ws.map tx,PyData.strOk x=true:=WOk.strs fun w hw=>(h w hw).asc
def okC (m:Int) (w:List Nat):Bool:=inW (numW w) 0 (m - 1)
def celW (w:List Nat):Int:=((numW w).getD 0:Nat)
def accT (m:Int) (ws:List (List Nat)):Bool:=!decide (ws=[])&&ws.all (okC m)&&decide ((ws.map celW).Nodup)
def bB (K:PySem.W.Frag):Sp:=fun vs H Q E=>∃ (a p:Addr) (h w g:Int) (ws:List (List Nat)),vs=[.ref a,.ref p]∧IsFl H a h w g∧FlOk h w g∧H p=some (.lst ((ws.map tx).map V.str))∧ws.length≤100∧(∀ w∈ws,WdOk w)∧
 (accT (h*w) ws=true→∀ l H',Same H H'→H l=none→H' l=some (.lst ((ws.map celW).map V.int))→Q (.ref l) H')∧(accT (h*w) ws=false→RE K H E)
theorem lB {K:PySem.W.Frag} {vs:List V} {H:Hp} {Q:VK} {E:XK} (h:bB K vs H Q E):vs.length=2:=by
 obtain ⟨_,_,_,_,_,_,rfl,_⟩:=h; rfl
def da (K:PySem.W.Frag) (a:EA) (E:XK):TS:=
 (tSeq (tIfS (tTest (tOp (cEq K) (tVar 2) (tLst tNil))) (bE E a.NoRule (tCons (tC (.str (tx [116,104,101,32,114,117,108,101,32,116,101,108,108,115,32,110,111,32,99,101,108,108]))) tNil)) tNext)
  (tSeq (tIfS (tTest (tOp (cNe K) (mr (tVar 2)) (tCB kLen (tCons (tVar 2) tNil)))) (bE E a.NoRule (tCons (tC (.str (tx [116,104,101,32,114,117,108,101,32,116,101,108,108,115,32,97,32,99,101,108,108,32,116,119,105,99,101]))) tNil)) tNext)
  (tRet (tVar 2))))
def cX (K:PySem.W.Frag) (a:EA) (E:XK):TS:=
 (tSeq (sComp 2 [none,none,some 0] (iList K (tVar 1)) (gName 1) tTrue (tCall (aP K) [] E (tCons (tVar 1) (tCons (tC (.int 0)) (tCons (tOp cSub (tCall (aV K) [] E0 (tCons (tVar 2) tNil)) (tC (.int 1))) tNil)))))
  (da K a E))
theorem lC {l:List Int}:decide (((cntD l:Nat):Int)=((l.length:Nat):Int))=decide l.Nodup:=by
 have:=sK l
 by_cases h:l.Nodup
 · rw [decide_eq_true h,decide_eq_true (by rw [this.mpr h])]
 · rw [decide_eq_false h,decide_eq_false (fun z=>h (this.mp (by omega)))]
def ig (m:Int) (nm:List Nat) (ws:List (List Nat)):Option (List Int):=
 if tx nm∈bA then (if ws=[] then some (rngL 0 m) else none) else if accT m ws=true then some (ws.map celW) else none
def cb (K:PySem.W.Frag):Sp:=fun vs H Q E=>∃ (a p:Addr) (h w g:Int) (nm:List Nat) (ws:List (List Nat)),vs=[.ref a,.str (tx nm),.ref p]∧IsFl H a h w g∧FlOk h w g∧H p=some (.lst ((ws.map tx).map V.str))∧ws.length≤100∧(∀ w∈ws,WdOk w)∧
 (∀ cs,ig (h*w) nm ws=some cs→∀ l H',Same H H'→H l=none→H' l=some (.lst (cs.map V.int))→Q (.ref l) H')∧(ig (h*w) nm ws=none→RE K H E)
theorem nG {K:PySem.W.Frag} {vs:List V} {H:Hp} {Q:VK} {E:XK} (h:cb K vs H Q E):vs.length=3:=by
 obtain ⟨_,_,_,_,_,_,_,rfl,_⟩:=h; rfl
def dC (K:PySem.W.Frag) (a:EA) (E:XK):TS:=
 (tSeq (tIfS (tB (tInG bA true (tVar 1))) (tRet (tCall (bB K) [] E (tCons (tVar 0) (tCons (tVar 2) tNil)))) tNext)
  (tSeq (tIfS (tTest (tOp (cNe K) (tVar 2) (tLst tNil))) (bE E a.NoRule (tCons (tC (.str (tx [116,104,101,32,114,117,108,101,32,104,97,115,32,116,111,111,32,109,97,110,121,32,119,111,114,100,115]))) tNil)) tNext)
  (tRet (gD (tCons (tCall (aV K) [] E0 (tCons (tVar 0) tNil)) tNil)))))
def kOf (nm:List Nat):Option RK:=if nm=nmC .Unlike then some .Unlike else if nm=nmC .Sum then some .Sum else if nm=nmC .Rising then some .Rising else if nm=nmC .Seen then some .Seen else if nm=nmC .Count then some .Count else if nm=nmC .Joined then some .Joined else if nm=nmC .NoSquare then some .NoSquare else if nm=nmC .Ring then some .Ring else none
def cI (K:PySem.W.Frag) (c:RCl RK):Sp:=fun vs H Q E=>∃ (p W C:Addr) (nm:List Nat) (ws:List (List Nat)) (cs:List Int) (n m:Int),vs=[.ref p,.ref W,.ref C,.int n,.int m]∧H W=some (.lst (((nm::ws).map tx).map V.str))∧H C=some (.lst (cs.map V.int))∧
 (∀ k,kOf nm=some k→c.ok k=true∧∀ r H',Same H H'→H r=none→IsRule H' c k r p (nm::ws) cs n m→Q (.ref r) H')∧(kOf nm=none→RE K H E)
theorem pe {K:PySem.W.Frag} {c:RCl RK} {vs:List V} {H:Hp} {Q:VK} {E:XK} (h:cI K c vs H Q E):vs.length=5:=by
 obtain ⟨_,_,_,_,_,_,_,_,rfl,_⟩:=h; rfl
def eE (K:PySem.W.Frag) (c:RCl RK) (a:EA) (E:XK):TS:=
 (tSeq (tAsg (tOp cIx (tVar 1) (tC (.int 0))) (gName 5))
  (tSeq (tIfS (tTest (tOp (cEq K) (tVar 5) (tC (.str (tx [117,110,108,105,107,101]))))) (tRet (tMake (c.A .Unlike) (ai K c) [] E0 (tCons (tVar 0) (tCons (tVar 1) (tCons (tVar 2) (tCons (tVar 3) (tCons (tVar 4) tNil))))))) tNext)
  (tSeq (tIfS (tTest (tOp (cEq K) (tVar 5) (tC (.str (tx [115,117,109]))))) (tRet (tMake (c.A .Sum) (ai K c) [] E0 (tCons (tVar 0) (tCons (tVar 1) (tCons (tVar 2) (tCons (tVar 3) (tCons (tVar 4) tNil))))))) tNext)
  (tSeq (tIfS (tTest (tOp (cEq K) (tVar 5) (tC (.str (tx [114,105,115,105,110,103]))))) (tRet (tMake (c.A .Rising) (ai K c) [] E0 (tCons (tVar 0) (tCons (tVar 1) (tCons (tVar 2) (tCons (tVar 3) (tCons (tVar 4) tNil))))))) tNext)
  (tSeq (tIfS (tTest (tOp (cEq K) (tVar 5) (tC (.str (tx [115,101,101,110]))))) (tRet (tMake (c.A .Seen) (ai K c) [] E0 (tCons (tVar 0) (tCons (tVar 1) (tCons (tVar 2) (tCons (tVar 3) (tCons (tVar 4) tNil))))))) tNext)
  (tSeq (tIfS (tTest (tOp (cEq K) (tVar 5) (tC (.str (tx [99,111,117,110,116]))))) (tRet (tMake (c.A .Count) (ai K c) [] E0 (tCons (tVar 0) (tCons (tVar 1) (tCons (tVar 2) (tCons (tVar 3) (tCons (tVar 4) tNil))))))) tNext)
  (tSeq (tIfS (tTest (tOp (cEq K) (tVar 5) (tC (.str (tx [106,111,105,110,101,100]))))) (tRet (tMake (c.A .Joined) (ai K c) [] E0 (tCons (tVar 0) (tCons (tVar 1) (tCons (tVar 2) (tCons (tVar 3) (tCons (tVar 4) tNil))))))) tNext)
  (tSeq (tIfS (tTest (tOp (cEq K) (tVar 5) (tC (.str (tx [110,111,115,113,117,97,114,101]))))) (tRet (tMake (c.A .NoSquare) (ai K c) [] E0 (tCons (tVar 0) (tCons (tVar 1) (tCons (tVar 2) (tCons (tVar 3) (tCons (tVar 4) tNil))))))) tNext)
  (tSeq (tIfS (tTest (tOp (cEq K) (tVar 5) (tC (.str (tx [114,105,110,103]))))) (tRet (tMake (c.A .Ring) (ai K c) [] E0 (tCons (tVar 0) (tCons (tVar 1) (tCons (tVar 2) (tCons (tVar 3) (tCons (tVar 4) tNil))))))) tNext)
  (bE E a.NoRule (tCons (tC (.str (tx [110,111,32,114,117,108,101,32,98,101,103,105,110,115,32,119,105,116,104,32,116,104,105,115,32,119,111,114,100]))) tNil)))))))))))
section
variable {K:PySem.W.Frag} {c:RCl RK} {a:EA} {vs:List V} {H:Hp} {Q:VK} {E:XK} (RF:aB K a "NoFloor" a.NoFloor (bo a)) (RR:aB K a "NoRule" a.NoRule (bp a)) (RP:aB K a "NoPuzzle" a.NoPuzzle (bq a))
include RF RR RP
theorem jU (h:aY K vs H Q E):cr K a E { nx:=fun _ H'=>Q .non H',rt:=Q } (start ["words","least","most"] vs) H:=by
 obtain ⟨p,ws,lo,hi,rfl,hp,hw,q1,q2⟩:=h
 show cr K a E _ [some (.ref p),some (.int lo),some (.int hi)] H
 unfold cr
 rw [aF,aO]
 walk_at "w"
 refine ⟨am (by decide),fun l hl=>?_⟩
 have s1:Same H (upd H l (.lst [])):=(Same.refl H).laid hl
 refine rQ (s1 _ _ hp) (ys:=[]) ad (WdOk.strs hw) (fun x hx=>nomatch hx) ?_
 generalize upd H l (.lst [])=H1 at*
 walk_at "w"
 cases ws with
 | nil=>
  refine iteT ?_
  rw [br]
  walk_at "w"
  exact ⟨am (by show (1:Nat)≤1000; decide),q2 (fun w r n e=>nomatch e) _ RR.g _ s1⟩
 | cons w r=>
  rw [decide_eq_false (by simp)]
  refine iteF ?_
  walk_at "w"
  have e0:atI (((w::r).map tx).map V.str) 0=some (V.str (tx w)):=bd (j:=0) rfl
  refine ixL (s1 _ _ hp) e0 ?_
  walk_at "w"
  refine ⟨w,lo,hi,rfl,hw w List.mem_cons_self,fun n e1 e2 H2 s2=>q1 w r n rfl e1 e2 _ (s1.trans s2),fun hb C hC H2 s2=>q2 (fun w' r' n e e1=>?_) C hC _ (s1.trans s2)⟩
  cases e
  rw [e1] at hb
  exact hb
theorem i7 {p f l:Addr} {ws:List (List Nat)} (hl:H l=some (.lst ((ws.map celW).map V.int))) (hn:ws.length≤100) (q1:ws≠[]→(ws.map celW).Nodup→∀ H',Same H H'→Q (.ref l) H') (q2:(ws=[]∨¬ (ws.map celW).Nodup)→RE K H E):
  da K a E { nx:=fun _ H'=>Q .non H',rt:=Q } [some (.ref f),some (.ref p),some (.ref l)] H:=by
 unfold da
 walk_at "w"
 rw [aO]
 walk_at "w"
 refine ⟨am (by decide),fun z hz=>?_⟩
 have s2:Same H (upd H z (.lst [])):=(Same.refl H).laid hz
 refine sU (s2 _ _ hl) (ys:=[]) ad ?_
 generalize upd H z (.lst [])=H2 at*
 walk_at "w"
 by_cases he:ws=[]
 · rw [decide_eq_true (by rw [he]; rfl)]
   refine iteT ?_
   rw [br]
   walk_at "w"
   exact ⟨am (by show (1:Nat)≤1000; decide),q2 (.inl he) _ RR.g _ s2⟩
 rw [decide_eq_false (by simpa using he)]
 refine iteF ?_
 walk_at "w"
 rw [aO]
 walk_at "w"
 refine ⟨l,_,rfl,s2 _ _ hl,by rw [List.length_map]; omega,?_⟩
 rw [fM (s2 _ _ hl),List.length_map]
 walk_at "w"
 rw [lC]
 by_cases hd:(ws.map celW).Nodup
 · rw [decide_eq_true hd]
   refine iteF ?_
   walk_at "w"
   exact q1 he hd _ s2
 · rw [decide_eq_false hd]
   refine iteT ?_
   rw [br]
   walk_at "w"
   exact ⟨am (by show (1:Nat)≤1000; decide),q2 (.inr hd) _ RR.g _ s2⟩
theorem lD (h:bB K vs H Q E):cX K a E { nx:=fun _ H'=>Q .non H',rt:=Q } (start ["floor","words","cells"] vs) H:=by
 obtain ⟨f,p,h,w,g,ws,rfl,ha,F,hp,hn,hw,q1,q2⟩:=h
 obtain ⟨h0,h1,w0,w1,m16,g0,g1⟩:=F
 show cX K a E _ [some (.ref f),some (.ref p),none] H
 unfold cX
 walk_at "w"
 refine ⟨⟨_,SqL.of hp⟩,?_⟩
 refine iR (xs:=(ws.map tx).map V.str) (fun l i σ H'=>(∃ cv,σ=[none,cv,some (.ref f)])∧Same H H'∧(∀ j x,j < i→ws[j]? =some x→okC (h*w) x=true)∧H' l=some (.lst (((ws.take i).map celW).map V.int)))
  (fun l hl=>⟨⟨none,rfl⟩,(Same.refl H).laid hl,fun j x hj=>absurd hj (Nat.not_lt_zero j),by rw [ad]; rfl⟩) (fun l i σ H' _ _ x=>x.2.1.seq (SqL.of hp)) ?_ ?_
 · rintro l i x σ H1 hl hx ⟨⟨cv,rfl⟩,s1,hok,el⟩
   rw [List.getElem?_map,List.getElem?_map] at hx
   cases e:ws[i]? with
   | none=>rw [e] at hx; cases hx
   | some y=>
    rw [e] at hx
    cases hx
    have hi:=(List.getElem?_eq_some_iff.mp e).1
    have hm:=List.mem_of_getElem? e
    rw [bV]
    show tTrue [none,some (.str (tx y)),some (.ref f)] H1 _
    walk_at "w"
    refine ⟨f,h,w,g,rfl,s1 _ _ ha,h0,h1,?_⟩
    walk_at "w"
    refine ⟨y,0,_,rfl,hw y hm,fun n e1 e2 H2 s2=>?_,fun hb C hC H2 s2=>q2 ?_ C hC _ (s1.trans s2)⟩
    · have s12:=s1.trans s2
      refine ⟨_,s2 _ _ el,by rw [List.length_map,List.length_map,List.length_take]; exact aR (by omega),⟨_,rfl⟩,s12.own hl,fun j z hj ez=>?_,?_⟩
      · by_cases hji:j < i
        · exact hok j z hji ez
        · have:j=i:=by omega
          subst this
          rw [e] at ez
          cases ez
          unfold okC
          rw [e1]
          exact e2
      · rw [ad,List.take_succ,e]
        simp [celW,e1]
    · unfold accT
      have:ws.all (okC (h*w))=false:=by
       rw [Bool.eq_false_iff]
       intro z
       have:=List.all_eq_true.mp z y hm
       unfold okC at this
       rw [hb] at this
       cases this
      rw [this]
      simp
 · rintro l σ H1 hl ⟨_,s1,hok,el⟩
   rw [List.length_map,List.length_map,List.take_length] at el
   rw [List.length_map,List.length_map] at hok
   have ha:ws.all (okC (h*w))=true:=by
    rw [List.all_eq_true]
    intro z hz
    obtain ⟨j,hj,ez⟩:=List.getElem_of_mem hz
    exact hok j z hj (by rw [List.getElem?_eq_getElem hj,ez])
   refine i7 RF RR RP el hn (fun e1 e2 H' s'=>q1 ?_ l H' (s1.trans s') hl (s' _ _ el)) (fun hb C hC H' s'=>q2 ?_ C hC H' (s1.trans s'))
   · unfold accT
     rw [ha,decide_eq_false e1,decide_eq_true e2]; rfl
   · unfold accT
     rcases hb with hb | hb
     · rw [decide_eq_true hb]; rfl
     · rw [decide_eq_false hb]; simp
theorem nI (h:cb K vs H Q E):dC K a E { nx:=fun _ H'=>Q .non H',rt:=Q } (start ["floor","name","words"] vs) H:=by
 obtain ⟨f,p,h,w,g,nm,ws,rfl,ha,F,hp,hn,hw,q1,q2⟩:=h
 obtain ⟨h0,h1,w0,w1,m16,g0,g1⟩:=id F
 have mpos:0≤h*w:=Int.mul_nonneg (by omega) (by omega)
 show dC K a E _ [some (.ref f),some (.str (tx nm)),some (.ref p)] H
 unfold dC
 rw [aF,aO]
 walk_at "w"
 by_cases hk:tx nm∈bA
 · unfold ig at q1 q2
   rw [if_pos hk] at q1 q2
   rw [decide_eq_true hk]
   walk_at "w"
   rw [aO]
   walk_at "w"
   refine ⟨am (by decide),fun z hz=>?_⟩
   have s1:Same H (upd H z (.lst [])):=(Same.refl H).laid hz
   refine uX (ys:=[]) (s1 _ _ hp) ad (WdOk.strs hw) (fun x hx=>nomatch hx) ?_
   generalize upd H z (.lst [])=H1 at*
   walk_at "w"
   by_cases he:ws=[]
   · rw [if_pos he] at q1
     rw [decide_eq_true (by rw [he]; rfl)]
     refine iteF ?_
     walk_at "w"
     refine ⟨f,h,w,g,rfl,s1 _ _ ha,h0,h1,?_⟩
     walk_at "w"
     refine ⟨h*w,rfl,by omega,by omega,fun l hl=>?_⟩
     exact q1 _ rfl l _ (s1.laid hl) (s1.free hl) ad
   · rw [if_neg he] at q2
     rw [decide_eq_false (by simpa using he)]
     refine iteT ?_
     rw [br]
     walk_at "w"
     exact ⟨am (by show (1:Nat)≤1000; decide),q2 rfl _ RR.g _ s1⟩
 · unfold ig at q1 q2
   rw [if_neg hk] at q1 q2
   rw [decide_eq_false hk]
   walk_at "w"
   exact ⟨f,p,h,w,g,ws,rfl,ha,F,hp,hn,hw,fun e=>q1 _ (by rw [if_pos e]),fun e=>q2 (by rw [if_neg (by rw [e]; exact Bool.false_ne_true)])⟩
theorem pf (h:cI K c vs H Q E):eE K c a E { nx:=fun _ H'=>Q .non H',rt:=Q } (start ["floor","words","cells","amount","mark","name"] vs) H:=by
 obtain ⟨p,W,C,nm,ws,cs,n,m,rfl,hW,hC,q1,q2⟩:=h
 have e0:atI (((nm::ws).map tx).map V.str) 0=some (V.str (tx nm)):=bd (j:=0) rfl
 show eE K c a E _ [some (.ref p),some (.ref W),some (.ref C),some (.int n),some (.int m),none] H
 unfold eE
 walk_at "w"
 refine ixL hW e0 ?_
 have D:∀ (l:List Nat) (t:TS) (u:TS) (D:Ends),(nm=l→t D [some (.ref p),some (.ref W),some (.ref C),some (.int n),some (.int m),some (.str (tx nm))] H)→(¬ nm=l→u D [some (.ref p),some (.ref W),some (.ref C),some (.int n),some (.int m),some (.str (tx nm))] H)→
   tIfS (tTest (tOp (cEq K) (tVar 5) (tC (.str (tx l))))) t u D [some (.ref p),some (.ref W),some (.ref C),some (.int n),some (.int m),some (.str (tx nm))] H:=fun l t u D h1 h2=>by
  rw [aO]
  walk_at "w"
  rw [lc]
  by_cases e:nm=l
  · rw [decide_eq_true e]; exact iteT (h1 e)
  · rw [decide_eq_false e]; exact iteF (h2 e)
 have R:∀ (k:RK) (D:Ends),D.rt=Q→kOf nm=some k→tRet (tMake (c.A k) (ai K c) [] E0 (tCons (tVar 0) (tCons (tVar 1) (tCons (tVar 2) (tCons (tVar 3) (tCons (tVar 4) tNil)))))) D [some (.ref p),some (.ref W),some (.ref C),some (.int n),some (.int m),some (.str (tx nm))] H:=fun k D hD hk=>by
  obtain ⟨ok,q⟩:=q1 k hk
  have mk:=t0 (K:=K) ok hW hC q
  walk_at "w"
  rw [hD]
  exact mk
 refine D _ _ _ _ (fun e=>R .Unlike _ rfl (by rw [e]; rfl)) fun e1=>?_
 walk_at "w"
 refine D _ _ _ _ (fun e=>R .Sum _ rfl (by rw [e]; rfl)) fun e2=>?_
 walk_at "w"
 refine D _ _ _ _ (fun e=>R .Rising _ rfl (by rw [e]; rfl)) fun e3=>?_
 walk_at "w"
 refine D _ _ _ _ (fun e=>R .Seen _ rfl (by rw [e]; rfl)) fun e4=>?_
 walk_at "w"
 refine D _ _ _ _ (fun e=>R .Count _ rfl (by rw [e]; rfl)) fun e5=>?_
 walk_at "w"
 refine D _ _ _ _ (fun e=>R .Joined _ rfl (by rw [e]; rfl)) fun e6=>?_
 walk_at "w"
 refine D _ _ _ _ (fun e=>R .NoSquare _ rfl (by rw [e]; rfl)) fun e7=>?_
 walk_at "w"
 refine D _ _ _ _ (fun e=>R .Ring _ rfl (by rw [e]; rfl)) fun e8=>?_
 walk_at "w"
 rw [br]
 walk_at "w"
 refine ⟨am (by show (1:Nat)≤1000; decide),q2 ?_ _ RR.g _ (Same.refl H)⟩
 unfold kOf
 rw [if_neg (show ¬ nm=nmC .Unlike from e1),if_neg (show ¬ nm=nmC .Sum from e2),if_neg (show ¬ nm=nmC .Rising from e3),if_neg (show ¬ nm=nmC .Seen from e4),if_neg (show ¬ nm=nmC .Count from e5),if_neg (show ¬ nm=nmC .Joined from e6),if_neg (show ¬ nm=nmC .NoSquare from e7),if_neg (show ¬ nm=nmC .Ring from e8)]
end
def gp (m:Int) (nm:List Nat) (rest:List (List Nat)):Option (RK × List Int):=match ig m nm rest,kOf nm with
 | some cs,some k=>some (k,cs)
 | _,_=>none
def ir (m g:Int) (nm:List Nat) (rest:List (List Nat)):Option (Nat × RK × List Int):=
 if tx nm∈cF then (match rest with
  | []=>none
  | x::r=>if inW (numW x) 1 g=true then (gp m nm r).map fun y=>((numW x).getD 0,y) else none)
 else (gp m nm rest).map fun y=>(0,y)
def ph (m g:Int) (nm:List Nat) (rest:List (List Nat)):Option (Nat × Nat × RK × List Int):=
 if tx nm∈bK then (match rest with
  | []=>none
  | x::r=>if inW (numW x) 0 99=true then (ir m g nm r).map fun y=>((numW x).getD 0,y) else none)
 else (ir m g nm rest).map fun y=>(0,y)
def accR (m g:Int):List (List Nat)→Option (Nat × Nat × RK × List Int)
 | []=>none
 | nm::rest=>ph m g nm rest
structure LnOk (ws:List (List Nat)):Prop where
 ne:ws≠[]
 len:ws.length≤100
 fr:∀ w∈ws,32∉w
 wd:∀ w∈ws,WdOk w
def NoStr (H:Hp) (v:V):Prop:=v=.non∨(∃ i,v=.int i)∨(∃ b,v=.bl b)∨∃ q xs,v=.ref q∧(H q=some (.lst xs)∨H q=some (.tup xs))
theorem NoStr.same {H H':Hp} {v:V} (h:NoStr H v) (s:Same H H'):NoStr H' v:=by
 rcases h with h | h | h | ⟨q,xs,h1,h2⟩
 · exact .inl h
 · exact .inr (.inl h)
 · exact .inr (.inr (.inl h))
 · exact .inr (.inr (.inr ⟨q,xs,h1,h2.imp (fun z=>s _ _ z) fun z=>s _ _ z⟩))
theorem vb {H:Hp} {Q:VK} {v:V} (h:NoStr H v) (q:Q (.bl false) H):kIsi [v,.ty "str"] H Q:=by
 rcases h with rfl | ⟨i,rfl⟩ | ⟨b,rfl⟩ | ⟨p,xs,rfl,h⟩
 · exact ⟨rfl,q⟩
 · exact ⟨rfl,q⟩
 · exact ⟨rfl,q⟩
 · refine ⟨rfl,?_⟩
   unfold fz
   rcases h with h | h
   · dsimp only; rw [h]; exact q
   · dsimp only; rw [h]; exact q
def bO (K:PySem.W.Frag) (c:RCl RK):Sp:=fun vs H Q E=>∃ (p:Addr) (v:V) (h w g:Int),vs=[.ref p,v]∧IsFl H p h w g∧FlOk h w g∧
 ((∃ ws,v=.str (tx (catL 32 ws))∧LnOk ws∧(∀ n m k cs,accR (h*w) g ws=some (n,m,k,cs)→c.ok k=true∧∀ r H',Same H H'→H r=none→IsRule H' c k r p ws cs n m→Q (.ref r) H')∧(accR (h*w) g ws=none→RE K H E))∨(NoStr H v∧RE K H E))
theorem mK {K:PySem.W.Frag} {c:RCl RK} {vs:List V} {H:Hp} {Q:VK} {E:XK} (h:bO K c vs H Q E):vs.length=2:=by
 obtain ⟨_,_,_,_,_,rfl,_⟩:=h; rfl
def dl (K:PySem.W.Frag) (c:RCl RK) (a:EA) (E:XK):TS:=
 (tRet (tCall (cI K c) [] E (tCons (tVar 0) (tCons (tVar 2) (tCons (tCall (cb K) [] E (tCons (tVar 0) (tCons (tVar 3) (tCons (tVar 4) tNil)))) (tCons (tVar 5) (tCons (tVar 6) tNil)))))))
def dm (K:PySem.W.Frag) (c:RCl RK) (a:EA) (E:XK):TS:=
 (tSeq (tIfS (tB (tInG cF false (tVar 3))) (tSeq (tAsg (tCall (aY K) [] E (tCons (tVar 4) (tCons (tC (.int 1)) (tCons (tOp cIx (tVar 0) (tC (.int 2))) tNil)))) (gName 6))
  (tAsg (tSl dZ (tVar 4) (tPart (tC (.int 1))) bI) (gName 4))) tNext)
  (dl K c a E))
def dn (K:PySem.W.Frag) (c:RCl RK) (a:EA) (E:XK):TS:=
 (tSeq (tAsg (tOp cIx (tVar 2) (tC (.int 0))) (gName 3))
  (tSeq (tAsg (tSl dZ (tVar 2) (tPart (tC (.int 1))) bI) (gName 4))
  (tSeq (tAsg (tC (.int 0)) (gName 5))
  (tSeq (tAsg (tC (.int 0)) (gName 6))
  (tSeq (tIfS (tB (tInG bK false (tVar 3))) (tSeq (tAsg (tCall (aY K) [] E (tCons (tVar 4) (tCons (tC (.int 0)) (tCons (tC (.int 99)) tNil)))) (gName 5))
  (tAsg (tSl dZ (tVar 4) (tPart (tC (.int 1))) bI) (gName 4))) tNext)
  (dm K c a E))))))
def dg (K:PySem.W.Frag) (c:RCl RK) (a:EA) (E:XK):TS:=
 (tSeq (tIfS (tNot (tB (tCB kIsi (tCons (tVar 1) (tCons (tC (.ty "str")) tNil))))) (bE E a.NoRule (tCons (tC (.str (tx [97,32,114,117,108,101,32,105,115,32,114,101,97,100,32,102,114,111,109,32,97,32,116,101,120,116]))) tNil)) tNext)
  (tSeq (tAsg (tBM K "str" la (tVar 1) (tCons (tC (.str (tx [32]))) tNil)) (gName 2))
  (dn K c a E)))
theorem kM {H:Hp} {Q:VK} {p:Addr} {xs:List V} (hp:H p=some (.lst xs)) (q:∀ l,H l=none→Q (.ref l) (upd H l (.lst (xs.drop 1)))):dZ (.ref p) (some 1) none H Q:=by
 refine fN hp fun l hl=>?_
 rw [o6]
 exact q l hl
abbrev QR (c:RCl RK) (H:Hp) (Q:VK) (p:Addr) (ws:List (List Nat)) (k:RK) (cs:List Int) (n m:Int):Prop:=c.ok k=true∧∀ r H',Same H H'→H r=none→IsRule H' c k r p ws cs n m→Q (.ref r) H'
theorem QR.same {c:RCl RK} {H H1:Hp} {Q:VK} {p:Addr} {ws:List (List Nat)} {k:RK} {cs:List Int} {n m:Int} (h:QR c H Q p ws k cs n m) (s:Same H H1):QR c H1 Q p ws k cs n m:=⟨h.1,fun r H' s' hr x=>h.2 r H' (s.trans s') (s.free hr) x⟩
theorem RE.same {K:PySem.W.Frag} {H H1:Hp} {E:XK} (h:RE K H E) (s:Same H H1):RE K H1 E:=fun C hC H' s'=>h C hC H' (s.trans s')
section
variable {K:PySem.W.Frag} {c:RCl RK} {a:EA} {vs:List V} {H:Hp} {Q:VK} {E:XK} (RF:aB K a "NoFloor" a.NoFloor (bo a)) (RR:aB K a "NoRule" a.NoRule (bp a)) (RP:aB K a "NoPuzzle" a.NoPuzzle (bq a))
theorem fI {p W R:Addr} {h w g:Int} {nm:List Nat} {ws rest:List (List Nat)} {n m:Nat} {lv:V} (F:FlOk h w g) (ha:IsFl H p h w g) (hW:H W=some (.lst (((nm::ws).map tx).map V.str))) (hR:H R=some (.lst ((rest.map tx).map V.str))) (hl:rest.length≤100) (hw:∀ w∈rest,WdOk w)
  (q1:∀ k cs,gp (h*w) nm rest=some (k,cs)→QR c H Q p (nm::ws) k cs n m) (q2:gp (h*w) nm rest=none→RE K H E):
  dl K c a E { nx:=fun _ H'=>Q .non H',rt:=Q } [some (.ref p),some lv,some (.ref W),some (.str (tx nm)),some (.ref R),some (.int n),some (.int m)] H:=by
 unfold dl
 walk_at "w"
 refine ⟨p,R,h,w,g,nm,rest,rfl,ha,F,hR,hl,hw,fun cs ec l H1 s1 hl el=>?_,fun ec=>q2 (by unfold gp; rw [ec])⟩
 walk_at "w"
 refine ⟨p,W,l,nm,ws,cs,n,m,rfl,s1 _ _ hW,el,fun k ek=>(q1 k cs (by unfold gp; rw [ec,ek])).same s1,fun ek=>(q2 (by unfold gp; rw [ec,ek])).same s1⟩
theorem fJ {p W R:Addr} {h w g:Int} {nm:List Nat} {ws rest:List (List Nat)} {n:Nat} {lv:V} (F:FlOk h w g) (ha:IsFl H p h w g) (hW:H W=some (.lst (((nm::ws).map tx).map V.str))) (hR:H R=some (.lst ((rest.map tx).map V.str))) (hl:rest.length≤100) (hw:∀ w∈rest,WdOk w)
  (q1:∀ (m:Nat) k cs,ir (h*w) g nm rest=some (m,k,cs)→QR c H Q p (nm::ws) k cs n m) (q2:ir (h*w) g nm rest=none→RE K H E):
  dm K c a E { nx:=fun _ H'=>Q .non H',rt:=Q } [some (.ref p),some lv,some (.ref W),some (.str (tx nm)),some (.ref R),some (.int n),some (.int 0)] H:=by
 unfold dm
 rw [aF,aO]
 walk_at "w"
 unfold ir at q1 q2
 by_cases hs:tx nm∈cF
 · rw [if_pos hs] at q1 q2
   rw [decide_eq_true hs]
   walk_at "w"
   refine ixT ha (v:=V.int g) rfl ?_
   walk_at "w"
   refine ⟨R,rest,1,g,rfl,hR,hw,fun x r m er em hi H1 s1=>?_,fun hb=>q2 ?_⟩
   · subst er
     dsimp only at q1 q2
     rw [em] at q1 q2
     rw [if_pos hi] at q1 q2
     walk_at "w"
     refine kM (s1 _ _ hR) fun R2 hR2=>?_
     have s2:Same H1 (upd H1 R2 (.lst ((((x::r).map tx).map V.str).drop 1))):=(Same.refl H1).laid hR2
     have e2:(upd H1 R2 (.lst ((((x::r).map tx).map V.str).drop 1))) R2=some (.lst ((r.map tx).map V.str)):=ad
     generalize upd H1 R2 (.lst ((((x::r).map tx).map V.str).drop 1))=H2 at*
     have s12:=s1.trans s2
     exact fI F (s12 _ _ ha) (s12 _ _ hW) e2 (by simp at hl; omega) (fun z hz=>hw z (List.mem_cons_of_mem _ hz)) (fun k cs e=>(q1 m k cs (by rw [e]; rfl)).same s12) (fun e=>(q2 (by rw [e]; rfl)).same s12)
   · cases rest with
     | nil=>rfl
     | cons x r=>
      dsimp only
      cases e:numW x with
      | none=>rfl
      | some m=>rw [if_neg]; rw [hb x r m rfl e]; exact Bool.false_ne_true
 · rw [if_neg hs] at q1 q2
   rw [decide_eq_false hs]
   walk_at "w"
   exact fI (m:=0) F ha hW hR hl hw (fun k cs e=>q1 0 k cs (by rw [e]; rfl)) (fun e=>q2 (by rw [e]; rfl))
theorem jV {p W:Addr} {h w g:Int} {ws:List (List Nat)} {lv:V} (F:FlOk h w g) (ha:IsFl H p h w g) (hW:H W=some (.lst ((ws.map tx).map V.str))) (L:LnOk ws)
  (q1:∀ (n m:Nat) k cs,accR (h*w) g ws=some (n,m,k,cs)→QR c H Q p ws k cs n m) (q2:accR (h*w) g ws=none→RE K H E):
  dn K c a E { nx:=fun _ H'=>Q .non H',rt:=Q } [some (.ref p),some lv,some (.ref W),none,none,none,none] H:=by
 obtain ⟨nm,rest,rfl⟩:∃ nm rest,ws=nm::rest:=by
  cases ws with
  | nil=>exact absurd rfl L.ne
  | cons x r=>exact ⟨x,r,rfl⟩
 have e0:atI (((nm::rest).map tx).map V.str) 0=some (V.str (tx nm)):=bd (j:=0) rfl
 have hw:∀ w∈rest,WdOk w:=fun z hz=>L.wd z (List.mem_cons_of_mem _ hz)
 have hl:rest.length≤100:=by have:=L.len; simp at this; omega
 unfold dn
 walk_at "w"
 refine ixL hW e0 ?_
 walk_at "w"
 refine kM hW fun R hR=>?_
 have s1:Same H (upd H R (.lst ((((nm::rest).map tx).map V.str).drop 1))):=(Same.refl H).laid hR
 have e1:(upd H R (.lst ((((nm::rest).map tx).map V.str).drop 1))) R=some (.lst ((rest.map tx).map V.str)):=ad
 generalize upd H R (.lst ((((nm::rest).map tx).map V.str).drop 1))=H1 at*
 walk_at "w"
 rw [aO]
 walk_at "w"
 have eA:accR (h*w) g (nm::rest)=ph (h*w) g nm rest:=rfl
 rw [eA] at q1 q2
 unfold ph at q1 q2
 by_cases hs:tx nm∈bK
 · rw [if_pos hs] at q1 q2
   rw [decide_eq_true hs]
   walk_at "w"
   refine ⟨R,rest,0,99,rfl,e1,hw,fun x r n er en hi H2 s2=>?_,fun hb=>(q2 ?_).same s1⟩
   · subst er
     dsimp only at q1 q2
     rw [en] at q1 q2
     rw [if_pos hi] at q1 q2
     walk_at "w"
     refine kM (s2 _ _ e1) fun R2 hR2=>?_
     have s3:Same H2 (upd H2 R2 (.lst ((((x::r).map tx).map V.str).drop 1))):=(Same.refl H2).laid hR2
     have e2:(upd H2 R2 (.lst ((((x::r).map tx).map V.str).drop 1))) R2=some (.lst ((r.map tx).map V.str)):=ad
     generalize upd H2 R2 (.lst ((((x::r).map tx).map V.str).drop 1))=H3 at*
     have s13:=(s1.trans s2).trans s3
     exact fJ F (s13 _ _ ha) (s13 _ _ hW) e2 (by simp at hl; omega) (fun z hz=>hw z (List.mem_cons_of_mem _ hz)) (fun m k cs e=>(q1 n m k cs (by rw [e]; rfl)).same s13) (fun e=>(q2 (by rw [e]; rfl)).same s13)
   · cases rest with
     | nil=>rfl
     | cons x r=>
      dsimp only
      cases e:numW x with
      | none=>rfl
      | some m=>rw [if_neg]; rw [hb x r m rfl e]; exact Bool.false_ne_true
 · rw [if_neg hs] at q1 q2
   rw [decide_eq_false hs]
   walk_at "w"
   exact fJ (n:=0) F (s1 _ _ ha) (s1 _ _ hW) e1 hl hw (fun m k cs e=>(q1 0 m k cs (by rw [e]; rfl)).same s1) (fun e=>(q2 (by rw [e]; rfl)).same s1)
include RF RR RP
theorem mL (h:bO K c vs H Q E):dg K c a E { nx:=fun _ H'=>Q .non H',rt:=Q } (start ["floor","line","words","name","rest","amount","mark"] vs) H:=by
 obtain ⟨p,v,h,w,g,rfl,ha,F,h⟩:=h
 show dg K c a E _ [some (.ref p),some v,none,none,none,none,none] H
 unfold dg
 rw [aF,aO]
 walk_at "w"
 rcases h with ⟨ws,rfl,L,q1,q2⟩ | ⟨hN,q2⟩
 · have hsp:Txt.split (tx (catL 32 ws)) (tx [32])=ws.map tx:=sF L.ne L.fr
   have hl:=L.len
   have hl2:=li ws fun z hz=>(L.wd z hz).len
   walk_at "w"
   refine ⟨qm,?_⟩
   rw [tL,hsp]
   refine ⟨by rw [bR]; decide,by rw [bR]; exact Nat.le_of_lt (Nat.lt_of_le_of_lt hl2 (Nat.lt_of_le_of_lt (Nat.mul_le_mul_left 101 hl) (by decide))),by rw [List.length_map]; exact am (by omega),fun W hW=>?_⟩
   have s1:Same H (upd H W (.lst ((ws.map tx).map V.str))):=(Same.refl H).laid hW
   exact jV F (s1 _ _ ha) ad L (fun n m k cs e=>QR.same (q1 n m k cs e) s1) fun e=>(q2 e).same s1
 · refine vb hN ?_
   walk_at "w"
   rw [br]
   walk_at "w"
   exact ⟨am (by show (1:Nat)≤1000; decide),q2 _ RR.g _ (Same.refl H)⟩
end
theorem gq {n:Nat} (h:n < 100):numW (numC n)=some n:=by
 have t:((List.range 100).all fun (n:Nat)=>decide (numW (numC n)=some n))=true:=by decide+kernel
 exact of_decide_eq_true (List.all_eq_true.mp t n (List.mem_range.mpr h))
theorem gr {n:Nat} (h:n < 100):WdOk (numC n):=⟨Nat.le_trans fb (by decide),jN h,fun m e=>by rw [gq h] at e; cases e; exact .inl ⟨h,rfl⟩⟩
theorem sM {n:Nat} (h:n < 100):celW (numC n)=n:=by unfold celW; rw [gq h]; rfl
theorem uf (k:RK):numW (nmC k)=none:=by cases k <;> decide
theorem mM (k:RK):WdOk (nmC k):=⟨by cases k <;> decide,sY k,fun m e=>by rw [uf] at e; cases e⟩
theorem vc {k:RK} (h:k≠.Rule):kOf (nmC k)=some k:=by
 cases k with
 | Rule=>exact absurd rfl h
 | _=>decide
theorem p5 {ns:List Nat} (h:∀ n∈ns,n < 100):(ns.map numC).map celW=ns.map fun (n:Nat)=>(n:Int):=by
 rw [List.map_map]
 exact List.map_congr_left fun n hn=>sM (h n hn)
theorem ug {k:RK} {h w g:Int} {n m:Nat} {ns:List Nat} {cs:List Int} (F:FlOk h w g) (O:rR k h w g n m ns cs):accR (h*w) g (rowW k n m ns)=some (n,m,k,cs):=by
 obtain ⟨k0,n0,nz,m0,mz,cl,ns0,len⟩:=O
 have hm:m < 100:=by
  by_cases hs:sgnK k=true
  · have:=(m0 hs).2
    have:=F.g1
    omega
  · have:=mz (by simpa using hs)
    omega
 have e8:gp (h*w) (nmC k) (ns.map numC)=some (k,cs):=by
  unfold gp ig
  rw [vc k0]
  have ia:=uY k
  cases ha:allK k with
  | true=>
   rw [ha] at ia
   obtain ⟨rfl,rfl⟩:=cl.all ha
   rw [if_pos (of_decide_eq_true ia)]
   rfl
  | false=>
   rw [ha] at ia
   obtain ⟨c1,c2,c3,c4,rfl⟩:=cl.told ha
   rw [if_neg (of_decide_eq_false ia),if_pos,p5 ns0]
   unfold accT
   rw [p5 ns0,decide_eq_true (io c4),decide_eq_false (by simpa using c1)]
   have:(ns.map numC).all (okC (h*w))=true:=by
    rw [List.all_eq_true]
    intro x hx
    obtain ⟨y,hy,rfl⟩:=List.mem_map.mp hx
    unfold okC
    rw [gq (ns0 y hy)]
    have:=c3 y hy
    unfold inW
    simp
    omega
   rw [this]
   rfl
 have e7:ir (h*w) g (nmC k) ((if sgnK k then [numC m] else [])++ns.map numC)=some (m,k,cs):=by
  unfold ir
  have ia:=u7 k
  cases ha:sgnK k with
  | true=>
   rw [ha] at ia
   rw [if_pos (of_decide_eq_true ia)]
   have:=m0 ha
   show (if inW (numW (numC m)) 1 g=true then (gp (h*w) (nmC k) (ns.map numC)).map fun y=>((numW (numC m)).getD 0,y) else none)=_
   rw [gq hm,if_pos (by unfold inW; simp; omega),e8]
   rfl
  | false=>
   rw [ha] at ia
   rw [if_neg (of_decide_eq_false ia)]
   have:=mz ha
   subst this
   show (gp (h*w) (nmC k) (ns.map numC)).map _=_
   rw [e8]
   rfl
 show ph (h*w) g (nmC k) ((if numK k then [numC n] else [])++(if sgnK k then [numC m] else [])++ns.map numC)=_
 unfold ph
 have ia:=uZ k
 cases ha:numK k with
 | true=>
  rw [ha] at ia
  rw [if_pos (of_decide_eq_true ia)]
  show (if inW (numW (numC n)) 0 99=true then (ir (h*w) g (nmC k) ((if sgnK k then [numC m] else [])++ns.map numC)).map fun y=>((numW (numC n)).getD 0,y) else none)=_
  rw [gq (by omega),if_pos (by unfold inW; simp; omega),e7]
  rfl
 | false=>
  rw [ha] at ia
  rw [if_neg (of_decide_eq_false ia)]
  have:=nz ha
  subst this
  show (ir (h*w) g (nmC k) ((if sgnK k then [numC m] else [])++ns.map numC)).map _=_
  rw [e7]
  rfl
theorem RR.ln {r:RR} {h w g:Int} (F:FlOk h w g) (O:r.Ok h w g):LnOk r.ws:=by
 have hm:r.m < 100:=by
  by_cases hs:sgnK r.k=true
  · have:=(O.m0 hs).2
    have:=F.g1
    omega
  · have:=O.mz (by simpa using hs)
    omega
 have hl:=ke (k:=r.k) (n:=r.n) (m:=r.m) O.len
 refine ⟨by unfold RR.ws rowW; simp,hl.1,rS (by have:=O.n0; omega) hm O.ns0,fun z hz=>?_⟩
 unfold RR.ws rowW at hz
 rcases List.mem_cons.mp hz with rfl | hz
 · exact mM _
 rcases List.mem_append.mp hz with hz | hz
 · rcases List.mem_append.mp hz with hz | hz
   · split at hz
     · rw [List.mem_singleton.mp hz]; exact gr (by have:=O.n0; omega)
     · cases hz
   · split at hz
     · rw [List.mem_singleton.mp hz]; exact gr hm
     · cases hz
 · obtain ⟨y,hy,rfl⟩:=List.mem_map.mp hz
   exact gr (O.ns0 y hy)
def BadLn (H:Hp) (h w g:Int) (v:V):Prop:=NoStr H v∨∃ ws,v=.str (tx (catL 32 ws))∧LnOk ws∧accR (h*w) g ws=none
theorem BadLn.same {H H':Hp} {h w g:Int} {v:V} (x:BadLn H h w g v) (s:Same H H'):BadLn H' h w g v:=x.imp (fun z=>z.same s) id
def LnO (H:Hp) (h w g:Int) (v:V):Option RR→Prop
 | some r=>v=.str r.txt∧r.Ok h w g
 | none=>BadLn H h w g v
theorem LnO.same {H H':Hp} {h w g:Int} {v:V} {o:Option RR} (x:LnO H h w g v o) (s:Same H H'):LnO H' h w g v o:=by
 cases o with
 | some r=>exact x
 | none=>exact BadLn.same x s
structure Lns (H:Hp) (h w g:Int) (xs:List V) (os:List (Option RR)):Prop where
 len:xs.length=os.length
 at_:∀ (i:Nat) (v:V) (o:Option RR),xs[i]? =some v→os[i]? =some o→LnO H h w g v o
theorem Lns.same {H H':Hp} {h w g:Int} {xs:List V} {os:List (Option RR)} (x:Lns H h w g xs os) (s:Same H H'):Lns H' h w g xs os:=⟨x.len,fun i v o h1 h2=>(x.at_ i v o h1 h2).same s⟩
abbrev fg (K:PySem.W.Frag) (x:Str) (H:Hp) (E:XK):Prop:=∀ C,Glb K x C→∀ H',Same H H'→E (.ref C) none H'
def bC (K:PySem.W.Frag) (c:RCl RK):Sp:=fun vs H Q E=>∃ (p a:Addr) (h w g:Int) (xs:List V) (os:List (Option RR)),vs=[.ref p,.ref a]∧IsFl H p h w g∧FlOk h w g∧H a=some (.lst xs)∧xs.length≤100∧(∀ k,k≠.Rule→c.ok k=true)∧Lns H h w g xs os∧
 (xs.length≤12→∀ rows,os=rows.map some→∀ l rs H',Same H H'→H l=none→IsRules H' c p l rs rows→Q (.ref l) H')∧(12 < xs.length→fg K "NoPuzzle" H E)∧(xs.length≤12→none∈os→fg K "NoRule" H E)
theorem lE {K:PySem.W.Frag} {c:RCl RK} {vs:List V} {H:Hp} {Q:VK} {E:XK} (h:bC K c vs H Q E):vs.length=2:=by
 obtain ⟨_,_,_,_,_,_,_,rfl,_⟩:=h; rfl
def db (K:PySem.W.Frag) (c:RCl RK) (a:EA) (E:XK):TS:=
 (tRet (tComp [none,none,some 0] (iList K (tVar 1)) (gName 1) tTrue (tCall (bO K c) [] E (tCons (tVar 2) (tCons (tVar 1) tNil)))))
def cY (K:PySem.W.Frag) (c:RCl RK) (a:EA) (E:XK):TS:=
 (tSeq (tIfS (tTest (tOp (cCmp fun i j=>decide (j < i)) (tCB kLen (tCons (tVar 1) tNil)) (tC (.int 12)))) (bE E a.NoPuzzle (tCons (tC (.str (tx [97,32,112,117,122,122,108,101,32,104,97,115,32,97,116,32,109,111,115,116,32,49,50,32,114,117,108,101,115]))) tNil)) tNext)
  (db K c a E))
def cc (K:PySem.W.Frag):Sp:=fun vs H Q E=>∃ h w g:Int,vs=[.int h,.int w,.int g]∧((FlOk h w g∧∀ p,H p=none→Q (.ref p) (upd H p (.tup [.int h,.int w,.int g])))∨(¬ FlOk h w g∧fg K "NoFloor" H E))
theorem nJ {K:PySem.W.Frag} {vs:List V} {H:Hp} {Q:VK} {E:XK} (h:cc K vs H Q E):vs.length=3:=by
 obtain ⟨_,_,_,rfl,_⟩:=h; rfl
def dF (K:PySem.W.Frag) (a:EA) (E:XK):TS:=
 (tSeq (tIfS (tNot (tB (tCall (aS K) [] E0 (tCons (tVar 0) (tCons (tC (.int 6)) tNil))))) (bE E a.NoFloor (tCons (tC (.str (tx [97,32,102,108,111,111,114,32,105,115,32,49,32,116,111,32,54,32,99,101,108,108,115,32,104,105,103,104]))) tNil)) tNext)
  (tSeq (tIfS (tNot (tB (tCall (aS K) [] E0 (tCons (tVar 1) (tCons (tC (.int 6)) tNil))))) (bE E a.NoFloor (tCons (tC (.str (tx [97,32,102,108,111,111,114,32,105,115,32,49,32,116,111,32,54,32,99,101,108,108,115,32,119,105,100,101]))) tNil)) tNext)
  (tSeq (tIfS (tTest (tOp (cCmp fun i j=>decide (j < i)) (tOp cMul (tVar 0) (tVar 1)) (tC (.int 16)))) (bE E a.NoFloor (tCons (tC (.str (tx [97,32,102,108,111,111,114,32,104,97,115,32,97,116,32,109,111,115,116,32,49,54,32,99,101,108,108,115]))) tNil)) tNext)
  (tSeq (tIfS (tNot (tB (tCall (aS K) [] E0 (tCons (tVar 2) (tCons (tC (.int 6)) tNil))))) (bE E a.NoFloor (tCons (tC (.str (tx [97,32,102,108,111,111,114,32,104,97,115,32,49,32,116,111,32,54,32,115,105,103,110,115]))) tNil)) tNext)
  (tRet (tTup (tCons (tVar 0) (tCons (tVar 1) (tCons (tVar 2) tNil)))))))))
def be (K:PySem.W.Frag):Sp:=fun vs H Q E=>∃ (p:Addr) (h w g:Int),vs=[.ref p]∧IsFl H p h w g∧((FlOk h w g∧∀ p,H p=none→Q (.ref p) (upd H p (.tup [.int h,.int w,.int g])))∨(¬ FlOk h w g∧fg K "NoFloor" H E))
theorem i8 {K:PySem.W.Frag} {vs:List V} {H:Hp} {Q:VK} {E:XK} (h:be K vs H Q E):vs.length=1:=by
 obtain ⟨_,_,_,_,rfl,_⟩:=h; rfl
def ci (K:PySem.W.Frag) (a:EA) (E:XK):TS:=
 (tSeq (tIfS (tOr (tNot (tB (tCB kIsi (tCons (tVar 0) (tCons (tC (.ty "tuple")) tNil))))) (tTest (tOp (cNe K) (tCB kLen (tCons (tVar 0) tNil)) (tC (.int 3))))) (bE E a.NoFloor (tCons (tC (.str (tx [97,32,102,108,111,111,114,32,105,115,32,97,32,116,117,112,108,101,32,111,102,32,116,104,114,101,101,32,110,117,109,98,101,114,115]))) tNil)) tNext)
  (tRet (tCall (cc K) [] E (tCons (tOp cIx (tVar 0) (tC (.int 0))) (tCons (tOp cIx (tVar 0) (tC (.int 1))) (tCons (tOp cIx (tVar 0) (tC (.int 2))) tNil))))))
def bf (K:PySem.W.Frag):Sp:=fun vs H Q E=>∃ (p a:Addr) (h w g:Int) (xs:List Int),vs=[.ref p,.ref a]∧IsFl H p h w g∧FlOk h w g∧H a=some (.lst (xs.map V.int))∧xs.length≤100∧((CluesOk h w g xs∧∀ l H',Same H H'→H l=none→H' l=some (.lst (xs.map V.int))→Q (.ref l) H')∨(¬ CluesOk h w g xs∧fg K "NoPuzzle" H E))
theorem i9 {K:PySem.W.Frag} {vs:List V} {H:Hp} {Q:VK} {E:XK} (h:bf K vs H Q E):vs.length=2:=by
 obtain ⟨_,_,_,_,_,_,rfl,_⟩:=h; rfl
def cj (K:PySem.W.Frag) (a:EA) (E:XK):TS:=
 (tSeq (tIfS (tNot (tB (tCall (bY K) [] E0 (tCons (tVar 0) (tCons (tVar 1) (tCons (tC (.int 0)) tNil)))))) (bE E a.NoPuzzle (tCons (tC (.str (tx [116,104,101,32,99,108,117,101,115,32,97,114,101,32,110,111,32,102,105,108,108,105,110,103,32,111,102,32,116,104,101,32,102,108,111,111,114]))) tNil)) tNext)
  (tRet (tCB kList (tCons (tVar 1) tNil))))
theorem CluesOk.nfil {h w g:Int} {xs:List Int} (C:¬ CluesOk h w g xs):filB 0 g (h*w).toNat xs=false:=by
 rw [Bool.eq_false_iff]
 intro z
 unfold filB at z
 rw [Bool.and_eq_true,decide_eq_true_eq,List.all_eq_true] at z
 exact C ⟨z.1,fun x hx=>by have:=z.2 x hx; simpa using this⟩
section
variable {K:PySem.W.Frag} {c:RCl RK} {a:EA} {vs:List V} {H:Hp} {Q:VK} {E:XK} (RF:aB K a "NoFloor" a.NoFloor (bo a)) (RL:aB K a "NoRule" a.NoRule (bp a)) (RP:aB K a "NoPuzzle" a.NoPuzzle (bq a))
theorem ja {p A:Addr} {h w g:Int} {xs:List V} {os:List (Option L2.RR)} (hp:IsFl H p h w g) (F:FlOk h w g) (ha:H A=some (.lst xs)) (hl:xs.length≤12) (hc:∀ k,k≠.Rule→c.ok k=true) (hx:Lns H h w g xs os)
  (q1:∀ rows:List L2.RR,os=rows.map some→∀ l rs H',Same H H'→H l=none→IsRules H' c p l rs rows→Q (.ref l) H') (q2:none∈os→fg K "NoRule" H E):
  db K c a E { nx:=fun _ H'=>Q .non H',rt:=Q } [some (.ref p),some (.ref A)] H:=by
 unfold db
 walk_at "w"
 refine ⟨⟨_,SqL.of ha⟩,?_⟩
 refine iR (xs:=xs) (fun l i σ H'=>(∃ cv,σ=[none,cv,some (.ref p)])∧Same H H'∧∃ (rs:List Addr) (rows:List L2.RR),H' l=some (.lst (rs.map V.ref))∧rs.length=i∧rows.length=i∧os.take i=rows.map some∧∀ (j:Nat) (r:Addr) (x:L2.RR),rs[j]? =some r→rows[j]? =some x→IsRule H' c x.k r p x.ws x.cs x.n x.m)
  (fun l hl=>⟨⟨none,rfl⟩,(Same.refl H).laid hl,[],[],by rw [ad]; rfl,rfl,rfl,rfl,fun j r x e=>by simp at e⟩) (fun l i σ H' _ _ x=>x.2.1.seq (SqL.of ha)) ?_ ?_
 · rintro l i v σ H1 hl1 ev ⟨⟨cv,rfl⟩,s1,rs,rows,el,hlen,hrl,htk,hat⟩
   have hi:=(List.getElem?_eq_some_iff.mp ev).1
   have ho:i < os.length:=by rw [← hx.len]; exact hi
   have eo:=List.getElem?_eq_getElem ho
   have L:=hx.at_ i v _ ev eo
   rw [bV]
   show tTrue [none,some v,some (.ref p)] H1 _
   walk_at "w"
   cases e0:os[i] with
   | some y=>
    rw [e0] at L eo
    obtain ⟨ey,oy⟩:v=.str y.txt∧y.Ok h w g:=L
    subst ey
    have ea:accR (h*w) g y.ws=some (y.n,y.m,y.k,y.cs):=ug F oy
    refine ⟨p,_,h,w,g,rfl,s1 _ _ hp,F,.inl ⟨y.ws,rfl,y.ln F oy,fun n m k cs e=>?_,fun e=>(by rw [ea] at e; cases e)⟩⟩
    rw [ea] at e
    cases e
    refine ⟨hc _ oy.k0,fun r H2 s2 hr xr=>?_⟩
    have nrl:r≠l:=fun z=>by rw [z,el] at hr; cases hr
    refine ⟨_,s2 _ _ el,by rw [List.length_map]; exact aR (by omega),⟨_,rfl⟩,(s1.trans s2).own hl1,rs++[r],rows++[y],by rw [ad]; simp,by simp [hlen],by simp [hrl],by rw [List.take_succ,htk,eo]; simp,fun j r' x' h1 h2=>?_⟩
    by_cases hj:j < rs.length
    · rw [List.getElem?_append_left hj] at h1
      rw [List.getElem?_append_left (by omega)] at h2
      exact ((hat j r' x' h1 h2).same s2).lst (s2 _ _ el)
    · rw [List.getElem?_append_right (by omega)] at h1
      have hj0:j - rs.length=0:=by
       have:=(List.getElem?_eq_some_iff.mp h1).1
       simp at this
       omega
      rw [hj0] at h1
      rw [List.getElem?_append_right (by omega),show j - rows.length=0 by omega] at h2
      simp at h1 h2
      subst h1 h2
      exact xr.lst (s2 _ _ el)
   | none=>
    rw [e0] at L eo
    have qq:=q2 (List.mem_of_getElem? eo)
    rcases (show BadLn H h w g v from L) with hb | ⟨ws,e1,e2,e3⟩
    · exact ⟨p,v,h,w,g,rfl,s1 _ _ hp,F,.inr ⟨hb.same s1,fun C hC H' s'=>qq C hC H' (s1.trans s')⟩⟩
    · exact ⟨p,v,h,w,g,rfl,s1 _ _ hp,F,.inl ⟨ws,e1,e2,fun n m k cs e=>(by rw [e3] at e; cases e),fun _ C hC H' s'=>qq C hC H' (s1.trans s')⟩⟩
 · rintro l σ H1 hl1 ⟨_,s1,rs,rows,el,hlen,hrl,htk,hat⟩
   rw [hx.len,List.take_length] at htk
   exact q1 rows htk l rs H1 s1 hl1 ⟨el,by rw [hlen,hrl],hat⟩
include RF RL RP
theorem lF (h:bC K c vs H Q E):cY K c a E { nx:=fun _ H'=>Q .non H',rt:=Q } (start ["floor","lines"] vs) H:=by
 obtain ⟨p,A,h,w,g,xs,os,rfl,hp,F,ha,hl,hc,hx,q1,q2,q3⟩:=h
 show cY K c a E _ [some (.ref p),some (.ref A)] H
 unfold cY
 rw [aF,aO]
 walk_at "w"
 rw [fM ha]
 walk_at "w"
 by_cases h12:12 < xs.length
 · rw [decide_eq_true (show (12:Int) < ((xs.length:Nat):Int) by omega)]
   refine iteT ?_
   rw [br]
   walk_at "w"
   exact ⟨am (by show (1:Nat)≤1000; decide),q2 h12 _ RP.g _ (Same.refl H)⟩
 · rw [decide_eq_false (show ¬ (12:Int) < ((xs.length:Nat):Int) by omega)]
   refine iteF ?_
   exact ja hp F ha (by omega) hc hx (q1 (by omega)) (q3 (by omega))
theorem nK (h:cc K vs H Q E):dF K a E { nx:=fun _ H'=>Q .non H',rt:=Q } (start ["high","wide","signs"] vs) H:=by
 obtain ⟨h,w,g,rfl,q⟩:=h
 have bad:¬ FlOk h w g→fg K "NoFloor" H E:=fun hb=>q.elim (fun z=>absurd z.1 hb) fun z=>z.2
 have good:FlOk h w g→∀ p,H p=none→Q (.ref p) (upd H p (.tup [.int h,.int w,.int g])):=fun hb=>q.elim (fun z=>z.2) fun z=>absurd hb z.1
 have fail:¬ FlOk h w g→∀ (ws:List V),ws.length=1→ws.length≤sizeLine∧E (.ref a.NoFloor) none H:=fun hb ws hv=>⟨am (by omega),bad hb _ RF.g _ (Same.refl H)⟩
 show dF K a E _ [some (.int h),some (.int w),some (.int g)] H
 unfold dF
 rw [aF,aO]
 walk_at "w"
 refine ⟨h,6,rfl,⟨_,rfl,?_⟩⟩
 by_cases hh:(decide (1≤h)&&decide (h≤6))=true
 · rw [hh]
   refine iteF ?_
   rw [Bool.and_eq_true,decide_eq_true_eq,decide_eq_true_eq] at hh
   rw [aO]
   walk_at "w"
   refine ⟨w,6,rfl,⟨_,rfl,?_⟩⟩
   by_cases hw:(decide (1≤w)&&decide (w≤6))=true
   · rw [hw]
     refine iteF ?_
     rw [Bool.and_eq_true,decide_eq_true_eq,decide_eq_true_eq] at hw
     rw [aO]
     walk_at "w"
     refine ⟨fC hh.1 hh.2,?_⟩
     by_cases hm:16 < h*w
     · rw [decide_eq_true hm]
       refine iteT ?_
       rw [br]
       walk_at "w"
       exact fail (fun z=>by have:=z.m; omega) _ rfl
     rw [decide_eq_false hm]
     refine iteF ?_
     rw [aO]
     walk_at "w"
     refine ⟨g,6,rfl,⟨_,rfl,?_⟩⟩
     by_cases hg:(decide (1≤g)&&decide (g≤6))=true
     · rw [hg]
       refine iteF ?_
       rw [Bool.and_eq_true,decide_eq_true_eq,decide_eq_true_eq] at hg
       walk_at "w"
       exact ⟨am (by show (3:Nat)≤1000; decide),good ⟨hh.1,hh.2,hw.1,hw.2,by omega,hg.1,hg.2⟩⟩
     · rw [Bool.eq_false_iff.mpr hg]
       refine iteT ?_
       rw [br]
       walk_at "w"
       exact fail (fun z=>hg (by simp [z.g0,z.g1])) _ rfl
   · rw [Bool.eq_false_iff.mpr hw]
     refine iteT ?_
     rw [br]
     walk_at "w"
     exact fail (fun z=>hw (by simp [z.w0,z.w1])) _ rfl
 · rw [Bool.eq_false_iff.mpr hh]
   refine iteT ?_
   rw [br]
   walk_at "w"
   exact fail (fun z=>hh (by simp [z.h0,z.h1])) _ rfl
theorem jb (h:be K vs H Q E):ci K a E { nx:=fun _ H'=>Q .non H',rt:=Q } (start ["floor"] vs) H:=by
 obtain ⟨p,h,w,g,rfl,hp,q⟩:=h
 show ci K a E _ [some (.ref p)] H
 unfold ci
 rw [aF,aO]
 walk_at "w"
 refine uS hp ?_
 walk_at "w"
 rw [uN hp,show (([V.int h,V.int w,V.int g]:List V).length:Int)=3 from rfl]
 walk_at "w"
 refine ixT hp (v:=V.int h) rfl ?_
 walk_at "w"
 refine ixT hp (v:=V.int w) rfl ?_
 walk_at "w"
 refine ixT hp (v:=V.int g) rfl ?_
 walk_at "w"
 exact ⟨h,w,g,rfl,q⟩
theorem jc (h:bf K vs H Q E):cj K a E { nx:=fun _ H'=>Q .non H',rt:=Q } (start ["floor","clues"] vs) H:=by
 obtain ⟨p,A,h,w,g,xs,rfl,hp,F,ha,hn,q⟩:=h
 show cj K a E _ [some (.ref p),some (.ref A)] H
 unfold cj
 rw [aF,aO]
 walk_at "w"
 refine ⟨p,A,h,w,g,0,xs,rfl,hp,F,ha,hn,fun H1 s1=>?_⟩
 rcases q with ⟨C,q⟩ | ⟨C,q⟩
 · rw [C.fil]
   refine ⟨true,rfl,iteF ?_⟩
   walk_at "w"
   refine fB (s1 _ _ ha) fun l hl=>?_
   exact q l _ (s1.laid hl) (s1.free hl) ad
 · rw [CluesOk.nfil C]
   refine ⟨false,rfl,iteT ?_⟩
   rw [br]
   walk_at "w"
   exact ⟨am (by show (1:Nat)≤1000; decide),q _ RP.g _ s1⟩
end
abbrev Pres (x:Addr) (H H':Hp):Prop:=∀ y o,y≠x→H y=some o→H' y=some o
theorem Lns.pres {H H':Hp} {x C dx:Addr} {fs:List (Str × V)} {h w g:Int} {xs:List V} {os:List (Option RR)} (L:Lns H h w g xs os) (hx:H x=some (.ins C dx fs)) (s:Pres x H H'):Lns H' h w g xs os:=by
 refine ⟨L.len,fun i v o h1 h2=>?_⟩
 have z:=L.at_ i v o h1 h2
 cases o with
 | some r=>exact z
 | none=>
  rcases (show BadLn H h w g v from z) with hb | hb
  · refine Or.inl ?_
    rcases hb with hb | hb | hb | ⟨q,ys,e,hb⟩
    · exact .inl hb
    · exact .inr (.inl hb)
    · exact .inr (.inr (.inl hb))
    · have nq:q≠x:=fun z=>by rw [z,hx] at hb; rcases hb with hb | hb <;> cases hb
      exact .inr (.inr (.inr ⟨q,ys,e,hb.imp (fun z=>s _ _ nq z) fun z=>s _ _ nq z⟩))
  · exact Or.inr hb
abbrev qI (K:PySem.W.Frag) (x:Addr) (nm:Str) (H:Hp) (E:XK):Prop:=∀ C,Glb K nm C→∀ H',Pres x H H'→E (.ref C) none H'
def az (K:PySem.W.Frag) (c:RCl RK) (d:RCl PzK):Sp:=fun vs H Q E=>∃ (x dx p a b:Addr) (h w g:Int) (xs:List V) (os:List (Option RR)) (cl:List Int),vs=[.ref x,.ref p,.ref a,.ref b]∧d.ok .Puzzle=true∧H x=some (.ins (d.A .Puzzle) dx [])∧IsFl H p h w g∧H a=some (.lst xs)∧H b=some (.lst (cl.map V.int))∧xs.length≤100∧cl.length≤100∧
 (∀ k,k≠.Rule→c.ok k=true)∧(FlOk h w g→Lns H h w g xs os)∧(¬ FlOk h w g→qI K x "NoFloor" H E)∧(FlOk h w g→12 < xs.length→qI K x "NoPuzzle" H E)∧(FlOk h w g→xs.length≤12→none∈os→qI K x "NoRule" H E)∧(FlOk h w g→¬ CluesOk h w g cl→xs.length≤12→(∃ rows:List RR,os=rows.map some)→qI K x "NoPuzzle" H E)∧
 (∀ rows:List RR,FlOk h w g→CluesOk h w g cl→xs.length≤12→os=rows.map some→∀ L G H',Pres x H H'→H L=none→H G=none→IsPz H' c d x L G h w g rows cl→Q .non H')
theorem iu {K:PySem.W.Frag} {c:RCl RK} {d:RCl PzK} {vs:List V} {H:Hp} {Q:VK} {E:XK} (h:az K c d vs H Q E):vs.length=4:=by
 obtain ⟨_,_,_,_,_,_,_,_,_,_,_,rfl,_⟩:=h; rfl
def bG (K:PySem.W.Frag) (c:RCl RK) (d:RCl PzK) (E:XK):TS:=
 (tSeq (sFldK d (tVar 0) (tCall (be K) [] E (tCons (tVar 1) tNil)) "floor")
  (tSeq (sFldK d (tVar 0) (tCall (bC K c) [] E (tCons (tFldK d (tVar 0) "floor") (tCons (tVar 2) tNil))) "laws")
  (sFldK d (tVar 0) (tCall (bf K) [] E (tCons (tFldK d (tVar 0) "floor") (tCons (tVar 3) tNil))) "given")))
theorem iv {K:PySem.W.Frag} {c:RCl RK} {d:RCl PzK} {vs:List V} {H:Hp} {Q:VK} {E:XK} (h:az K c d vs H Q E):bG K c d E { nx:=fun _ H'=>Q .non H',rt:=Q } (start ["self","floor","lines","clues"] vs) H:=by
 obtain ⟨x,dx,p,a,b,h,w,g,xs,os,cl,rfl,ok,hx,hp,ha,hb,hxs,hcl,hc,hL,qF,qN,qR,qC,q⟩:=h
 show bG K c d E _ [some (.ref x),some (.ref p),some (.ref a),some (.ref b)] H
 unfold bG sFldK
 walk_at "w"
 by_cases F:¬ FlOk h w g
 · exact ⟨p,h,w,g,rfl,hp,.inr ⟨F,fun C hC H' s'=>qF F C hC H' fun y o _ e=>s' _ _ e⟩⟩
 have F:=Classical.not_not.mp F
 refine ⟨p,h,w,g,rfl,hp,.inl ⟨F,fun p1 hp1=>?_⟩⟩
 have nxp:x≠p1:=ar hx hp1
 refine ⟨x,.Puzzle,dx,[],rfl,ok,by rw [ah nxp]; exact hx,by show (0:Nat) < 1000; decide,?_⟩
 have f1:∀ y o,y≠x→H y=some o→(upd (upd H p1 (.tup [.int h,.int w,.int g])) x (.ins (d.A .Puzzle) dx (putF "floor" (.ref p1) []))) y=some o:=fun y o ny e=>by
  rw [ah ny,ah (ar e hp1)]; exact e
 have hx1:(upd (upd H p1 (.tup [.int h,.int w,.int g])) x (.ins (d.A .Puzzle) dx (putF "floor" (.ref p1) []))) x=some (.ins (d.A .Puzzle) dx [("floor",.ref p1)]):=ad
 have hp1':IsFl (upd (upd H p1 (.tup [.int h,.int w,.int g])) x (.ins (d.A .Puzzle) dx (putF "floor" (.ref p1) []))) p1 h w g:=by
  show (upd (upd H p1 (.tup [.int h,.int w,.int g])) x _) p1=_
  rw [ah nxp.symm,ad]
 have fr1:∀ l,(upd (upd H p1 (.tup [.int h,.int w,.int g])) x (.ins (d.A .Puzzle) dx (putF "floor" (.ref p1) []))) l=none→H l=none:=fun l e=>by
  have n1:l≠x:=fun z=>by rw [z,ad] at e; cases e
  rw [ah n1] at e
  have n2:l≠p1:=fun z=>by rw [z,ad] at e; cases e
  rw [ah n2] at e
  exact e
 have nax:a≠x:=fun z=>by rw [z,hx] at ha; cases ha
 have nbx:b≠x:=fun z=>by rw [z,hx] at hb; cases hb
 have L1:=(hL F).pres hx f1
 generalize upd (upd H p1 (.tup [.int h,.int w,.int g])) x (.ins (d.A .Puzzle) dx (putF "floor" (.ref p1) []))=H1 at*
 refine fldE (c:=d) (k:=.Puzzle) rfl ok hx1 (v:=.ref p1) (by rfl) ?_
 walk_at "w"
 refine ⟨p1,a,h,w,g,xs,os,rfl,hp1',F,f1 a _ nax ha,hxs,hc,L1,fun h12 rows eo L rs H2 s2 hL X=>?_,fun h12 C hC H' s'=>qN F h12 C hC H' fun y o ny e=>s' _ _ (f1 y o ny e),fun h12 hb C hC H' s'=>qR F h12 hb C hC H' fun y o ny e=>s' _ _ (f1 y o ny e)⟩
 have nOk:rows.length≤12:=by have:=L1.len; rw [eo,List.length_map] at this; omega
 have rOk:∀ r∈rows,r.Ok h w g:=fun r hr=>by
  obtain ⟨j,hj,ej⟩:=List.getElem_of_mem hr
  have e2:os[j]? =some (some r):=by rw [eo,List.getElem?_map,List.getElem?_eq_getElem hj,ej]; rfl
  have hjx:j < xs.length:=by rw [L1.len,eo,List.length_map]; exact hj
  exact (L1.at_ j _ _ (List.getElem?_eq_getElem hjx) e2).2
 have R:ic c h w g rows:=⟨F,nOk,rOk,fun r hr=>hc _ (rOk r hr).k0⟩
 refine ⟨x,.Puzzle,dx,_,rfl,ok,s2 _ _ hx1,by show (1:Nat) < 1000; decide,?_⟩
 have nxL:L≠x:=fun z=>by rw [z,hx1] at hL; cases hL
 have X3:=X.ins (o:=.ins (d.A .Puzzle) dx (putF "laws" (.ref L) [("floor",.ref p1)])) (s2 _ _ hx1) (by show (1:Nat)≠5; decide)
 have f2:∀ y o,y≠x→H y=some o→(upd H2 x (.ins (d.A .Puzzle) dx (putF "laws" (.ref L) [("floor",.ref p1)]))) y=some o:=fun y o ny e=>by
  rw [ah ny]; exact s2 _ _ (f1 y o ny e)
 have hx3:(upd H2 x (.ins (d.A .Puzzle) dx (putF "laws" (.ref L) [("floor",.ref p1)]))) x=some (.ins (d.A .Puzzle) dx [("floor",.ref p1),("laws",.ref L)]):=ad
 have hp3:IsFl (upd H2 x (.ins (d.A .Puzzle) dx (putF "laws" (.ref L) [("floor",.ref p1)]))) p1 h w g:=by
  show (upd H2 x _) p1=_
  rw [ah nxp.symm]; exact s2 _ _ hp1'
 have fr3:∀ l,(upd H2 x (.ins (d.A .Puzzle) dx (putF "laws" (.ref L) [("floor",.ref p1)]))) l=none→H1 l=none:=fun l e=>by
  have n1:l≠x:=fun z=>by rw [z,ad] at e; cases e
  rw [ah n1] at e
  exact s2.free e
 generalize upd H2 x (.ins (d.A .Puzzle) dx (putF "laws" (.ref L) [("floor",.ref p1)]))=H3 at*
 refine fldE (c:=d) (k:=.Puzzle) rfl ok hx3 (v:=.ref p1) (by rfl) ?_
 walk_at "w"
 by_cases C:¬ CluesOk h w g cl
 · exact ⟨p1,b,h,w,g,cl,rfl,hp3,F,f2 b _ nbx hb,hcl,.inr ⟨C,fun D hD H' s'=>qC F C h12 ⟨rows,eo⟩ D hD H' fun y o ny e=>s' _ _ (f2 y o ny e)⟩⟩
 have C:=Classical.not_not.mp C
 refine ⟨p1,b,h,w,g,cl,rfl,hp3,F,f2 b _ nbx hb,hcl,.inl ⟨C,fun G H4 s4 hG eG=>?_⟩⟩
 refine ⟨x,.Puzzle,dx,_,rfl,ok,s4 _ _ hx3,by show (2:Nat) < 1000; decide,?_⟩
 have nxG:G≠x:=fun z=>by rw [z,hx3] at hG; cases hG
 refine q rows F C h12 eo L G _ (fun y o ny e=>?_) (fr1 L hL) (fr1 G (fr3 G hG)) ⟨ok,R,C,?_,dx,p1,rs,?_,?_,?_⟩
 · rw [ah ny]; exact s4 _ _ (f2 y o ny e)
 · rw [ah nxG]; exact eG
 · rw [ad]; rfl
 · show (upd H4 x _) p1=_
   rw [ah nxp.symm]; exact s4 _ _ hp3
 · exact (X3.same s4).ins (s4 _ _ hx3) (by show (2:Nat)≠5; decide)
structure Mk20 (K:PySem.W.Frag) (c:RCl RK) (d:RCl PzK) (H:Hp) (p a b:Addr) (h w g:Int) (xs:List V) (os:List (Option RR)) (cl:List Int) (Z:Addr→Hp→Prop) (E:XK):Prop where
 ok:d.ok .Puzzle=true
 hp:IsFl H p h w g
 ha:H a=some (.lst xs)
 hb:H b=some (.lst (cl.map V.int))
 hxs:xs.length≤100
 hcl:cl.length≤100
 hc:∀ k,k≠.Rule→c.ok k=true
 hL:FlOk h w g→Lns H h w g xs os
 qF:¬ FlOk h w g→fg K "NoFloor" H E
 qN:FlOk h w g→12 < xs.length→fg K "NoPuzzle" H E
 qR:FlOk h w g→xs.length≤12→none∈os→fg K "NoRule" H E
 qC:FlOk h w g→¬ CluesOk h w g cl→xs.length≤12→(∃ rows:List RR,os=rows.map some)→fg K "NoPuzzle" H E
 q:∀ rows:List RR,FlOk h w g→CluesOk h w g cl→xs.length≤12→os=rows.map some→∀ P L G H',Same H H'→H P=none→H L=none→H G=none→IsPz H' c d P L G h w g rows cl→Z P H'
theorem Mk20.mk' {K:PySem.W.Frag} {c:RCl RK} {d:RCl PzK} {H:Hp} {p a b:Addr} {h w g:Int} {xs:List V} {os:List (Option RR)} {cl:List Int} {Z:Addr→Hp→Prop} {E:XK} (M:Mk20 K c d H p a b h w g xs os cl Z E):
  ∀ x dx,H x=none→H dx=none→dx≠x→az K c d (.ref x::([.ref p,.ref a,.ref b]++[])) (upd (upd H dx (.own x)) x (.ins (d.A .Puzzle) dx [])) (fun v H2=>v=.non∧Z x H2) E:=by
 intro x dx hx hd ne
 have k:Same H (upd (upd H dx (.own x)) x (.ins (d.A .Puzzle) dx [])):=fun y o e=>by rw [ah (ar e hx),ah (ar e hd)]; exact e
 have fr:∀ y,(upd (upd H dx (.own x)) x (.ins (d.A .Puzzle) dx [])) y=none→H y=none:=fun y e=>by
  have n1:y≠x:=fun z=>by rw [z,ad] at e; cases e
  rw [ah n1] at e
  have n2:y≠dx:=fun z=>by rw [z,ad] at e; cases e
  rw [ah n2] at e
  exact e
 have pr:∀ H',Pres x (upd (upd H dx (.own x)) x (.ins (d.A .Puzzle) dx [])) H'→Same H H':=fun H' s y o e=>s y o (ar e hx) (k _ _ e)
 exact ⟨x,dx,p,a,b,h,w,g,xs,os,cl,rfl,M.ok,ad,k _ _ M.hp,k _ _ M.ha,k _ _ M.hb,M.hxs,M.hcl,M.hc,fun F=>(M.hL F).same k,fun z C hC H' s'=>M.qF z C hC H' (pr H' s'),fun F z C hC H' s'=>M.qN F z C hC H' (pr H' s'),fun F z1 z2 C hC H' s'=>M.qR F z1 z2 C hC H' (pr H' s'),fun F z1 z2 z3 C hC H' s'=>M.qC F z1 z2 z3 C hC H' (pr H' s'),
  fun rows F C z1 z2 L G H' s' hL hG X=>⟨rfl,M.q rows F C z1 z2 x L G H' (pr H' s') hx (fr L hL) (fr G hG) X⟩⟩
theorem pi {H:Hp} {h w g:Int} {rows:List RR} (ok:∀ r∈rows,r.Ok h w g):Lns H h w g ((rows.map RR.txt).map V.str) (rows.map some):=by
 refine ⟨by simp,fun i v o h1 h2=>?_⟩
 rw [List.getElem?_map,List.getElem?_map] at h1
 rw [List.getElem?_map] at h2
 cases e:rows[i]? with
 | none=>rw [e] at h1; cases h1
 | some r=>
  rw [e] at h1 h2
  cases h1
  cases h2
  exact ⟨rfl,ok r (List.mem_of_getElem? e)⟩
theorem pj {rows rows2:List RR} (h:rows.map some=rows2.map some):rows=rows2:=by
 induction rows generalizing rows2 with
 | nil=>cases rows2 with
  | nil=>rfl
  | cons x r=>cases h
 | cons y s ih=>cases rows2 with
  | nil=>cases h
  | cons x r=>
   rw [List.map_cons,List.map_cons,List.cons.injEq,Option.some.injEq] at h
   rw [h.1,ih h.2]
theorem Mk20.good {K:PySem.W.Frag} {c:RCl RK} {d:RCl PzK} {H:Hp} {p a b:Addr} {h w g:Int} {rows:List RR} {cl:List Int} {Z:Addr→Hp→Prop} {E:XK} (ok:d.ok .Puzzle=true) (hc:∀ k,k≠.Rule→c.ok k=true) (hp:IsFl H p h w g) (ha:H a=some (.lst ((rows.map RR.txt).map V.str))) (hb:H b=some (.lst (cl.map V.int))) (R:ic c h w g rows) (hcl:cl.length≤100)
  (qC:¬ CluesOk h w g cl→fg K "NoPuzzle" H E) (q:CluesOk h w g cl→∀ P L G H',Same H H'→H P=none→H L=none→H G=none→IsPz H' c d P L G h w g rows cl→Z P H'):Mk20 K c d H p a b h w g ((rows.map RR.txt).map V.str) (rows.map some) cl Z E:=
 ⟨ok,hp,ha,hb,by have:=R.n; simp; omega,hcl,hc,fun _=>pi R.ok,fun z=>absurd R.F z,fun _ z=>(by have:=R.n; simp at z; omega),fun _ _ z=>(by simp at z),fun _ z _ _=>qC z,fun rows2 _ C _ e P L G H' s' h1 h2 h3 X=>q C P L G H' s' h1 h2 h3 (by rw [pj e]; exact X)⟩
def fR (K:PySem.W.Frag) (c:RCl RK) (d:RCl PzK) (_:PzK):Sp:=fun vs H Q E=>∃ (P L G b:Addr) (h w g:Int) (rows:List RR) (cl cl2:List Int),vs=[.ref P,.ref b]∧IsPz H c d P L G h w g rows cl∧(∀ k,k≠.Rule→c.ok k=true)∧H b=some (.lst (cl2.map V.int))∧cl2.length≤100∧(¬ CluesOk h w g cl2→fg K "NoPuzzle" H E)∧
 (CluesOk h w g cl2→∀ P' L' G' H',Same H H'→H P'=none→H L'=none→H G'=none→IsPz H' c d P' L' G' h w g rows cl2→Q (.ref P') H')
def cu (K:PySem.W.Frag) (c:RCl RK) (d:RCl PzK):Sp:=fR K c d .Puzzle
theorem jW {K:PySem.W.Frag} {c:RCl RK} {d:RCl PzK} {vs:List V} {H:Hp} {Q:VK} {E:XK} (h:cu K c d vs H Q E):vs.length=2:=by
 obtain ⟨_,_,_,_,_,_,_,_,_,_,rfl,_⟩:=h; rfl
def cw (K:PySem.W.Frag) (c:RCl RK) (d:RCl PzK) (E:XK):TS:=
 (tRet (tMake (d.A .Puzzle) (az K c d) [] E (tCons (tFldK d (tVar 0) "floor") (tCons (fD d d.ok "lines" (fe K c d) (tVar 0) tNil) (tCons (tVar 1) tNil)))))
theorem jX {K:PySem.W.Frag} {c:RCl RK} {d:RCl PzK} {vs:List V} {H:Hp} {Q:VK} {E:XK} (h:cu K c d vs H Q E):cw K c d E { nx:=fun _ H'=>Q .non H',rt:=Q } (start ["self","clues"] vs) H:=by
 obtain ⟨P,L,G,b,h,w,g,rows,cl,cl2,rfl,x,hc,hb,hn,qC,q⟩:=h
 obtain ⟨dx,p,rs,h1,h2,h3⟩:=x.ex
 show cw K c d E _ [some (.ref P),some (.ref b)] H
 unfold cw
 walk_at "w"
 refine fldE (k:=.Puzzle) rfl x.ok h1 (v:=.ref p) (by rfl) ?_
 walk_at "w"
 refine methE (k:=.Puzzle) rfl x.ok h1 (by rfl) ?_
 walk_at "w"
 refine ⟨P,L,G,h,w,g,rows,cl,rfl,x,fun l H1 s1 hl el=>?_⟩
 walk_at "w"
 exact Mk20.mk' (Mk20.good x.ok hc (s1 _ _ h2) el (s1 _ _ hb) x.R hn (fun z C hC H' s'=>qC z C hC H' (s1.trans s')) fun C P' L' G' H' s2 e1 e2 e3 X=>q C P' L' G' H' (s1.trans s2) (s1.free e1) (s1.free e2) (s1.free e3) X)
def aZ (K:PySem.W.Frag):Sp:=fun vs H Q _=>∃ (x C:Addr) (i:Nat),vs=[.ref x]∧H x=some (.ext (XO x C))∧i < 3∧Glb K (["NoFloor","NoRule","NoPuzzle"].getD i "") C∧
 ∀ l H',Same H H'→H' l=some (.lst [.bl (decide (i=0)),.bl (decide (i=1)),.bl (decide (i=2))])→Q (.ref l) H'
theorem lG {K:PySem.W.Frag} {vs:List V} {H:Hp} {Q:VK} {E:XK} (h:aZ K vs H Q E):vs.length=1:=by
 obtain ⟨_,_,_,rfl,_⟩:=h; rfl
def ck (K:PySem.W.Frag) (a:EA):TS:=
 (tSeq (tAsg (tLst (tCons (tCB (kIsX K) (tCons (tVar 0) (tCons (tC (.ref a.BadThought)) tNil))) (tCons (tCB (kIsX K) (tCons (tVar 0) (tCons (tC (.ref a.NoFilling)) tNil))) (tCons (tCB (kIsX K) (tCons (tVar 0) (tCons (tC (.ref a.NoMove)) tNil))) tNil)))) (gName 1))
  (tSeq (tAsg (tOp cAdd (tVar 1) (tLst (tCons (tCB (kIsX K) (tCons (tVar 0) (tCons (tC (.ref a.NoName)) tNil))) (tCons (tCB (kIsX K) (tCons (tVar 0) (tCons (tC (.ref a.NoRow)) tNil))) (tCons (tCB (kIsX K) (tCons (tVar 0) (tCons (tC (.ref a.NoText)) tNil))) tNil))))) (gName 1))
  (tSeq (tAsg (tOp cAdd (tVar 1) (tLst (tCons (tCB (kIsX K) (tCons (tVar 0) (tCons (tC (.ref a.NotOne)) tNil))) (tCons (tCB (kIsX K) (tCons (tVar 0) (tCons (tC (.ref a.TooMany)) tNil))) tNil)))) (gName 1))
  (tSeq (tIfS (tOr (tB (tCB kAny (tCons (tVar 1) tNil))) (tNot (tB (tCB (kIsX K) (tCons (tVar 0) (tCons (tC (.ty "ValueError")) tNil)))))) (tRet (tLst tNil)) tNext)
  (tRet (tLst (tCons (tCB (kIsX K) (tCons (tVar 0) (tCons (tC (.ref a.NoFloor)) tNil))) (tCons (tCB (kIsX K) (tCons (tVar 0) (tCons (tC (.ref a.NoRule)) tNil))) (tCons (tCB (kIsX K) (tCons (tVar 0) (tCons (tC (.ref a.NoPuzzle)) tNil))) tNil)))))))))
section
variable {K:PySem.W.Frag} {c:RCl RK} {d:RCl PzK} {a:EA} {vs:List V} {H:Hp} {Q:VK} {E:XK}
theorem mO {x C:Addr} {b0 b1 b2:Bool} (Z:XIs K C) (ve:PySem.W.kitOne K (.ref C) (.type "ValueError")=some true) (no:∀ y∈[a.BadThought,a.NoFilling,a.NoMove,a.NoName,a.NoRow,a.NoText,a.NotOne,a.TooMany],PySem.W.kitOne K (.ref C) (.ref y)=some false)
  (k0:PySem.W.kitOne K (.ref C) (.ref a.NoFloor)=some b0) (k1:PySem.W.kitOne K (.ref C) (.ref a.NoRule)=some b1) (k2:PySem.W.kitOne K (.ref C) (.ref a.NoPuzzle)=some b2)
  (hx:H x=some (.ext (XO x C))) (q:∀ l H',Same H H'→H' l=some (.lst [.bl b0,.bl b1,.bl b2])→Q (.ref l) H'):ck K a { nx:=fun _ H'=>Q .non H',rt:=Q } [some (.ref x),none] H:=by
 have no:∀ {H':Hp} {y:Addr} {Q':VK},H' x=some (.ext (XO x C))→y∈[a.BadThought,a.NoFilling,a.NoMove,a.NoName,a.NoRow,a.NoText,a.NotOne,a.TooMany]→Q' (.bl false) H'→kIsX K [.ref x,.ref y] H' Q':=fun hx' hy q=>nY Z hx' (no _ hy) q
 unfold ck
 walk_at "w"
 refine no hx (by simp) ?_
 refine no hx (by simp) ?_
 refine no hx (by simp) ?_
 refine ⟨am (by show (3:Nat)≤1000; decide),fun l1 n1=>?_⟩
 have s1:Same H (upd H l1 (.lst [.bl false,.bl false,.bl false])):=(Same.refl H).laid n1
 have e1:(upd H l1 (.lst [.bl false,.bl false,.bl false])) l1=some (.lst (([false,false,false]:List Bool).map V.bl)):=ad
 generalize upd H l1 (.lst [.bl false,.bl false,.bl false])=H1 at*
 have ex1:=s1 _ _ hx
 walk_at "w"
 refine no ex1 (by simp) ?_
 refine no ex1 (by simp) ?_
 refine no ex1 (by simp) ?_
 refine ⟨am (by show (3:Nat)≤1000; decide),fun l2 n2=>?_⟩
 have s2:Same H1 (upd H1 l2 (.lst [.bl false,.bl false,.bl false])):=(Same.refl H1).laid n2
 have e2:(upd H1 l2 (.lst [.bl false,.bl false,.bl false])) l2=some (.lst (([false,false,false]:List Bool).map V.bl)):=ad
 generalize upd H1 l2 (.lst [.bl false,.bl false,.bl false])=H2 at*
 refine cP (s2 _ _ e1) e2 (by decide) fun l3 n3=>?_
 have s3:Same H2 (upd H2 l3 (.lst (([false,false,false]:List Bool).map V.bl++([false,false,false]:List Bool).map V.bl))):=(Same.refl H2).laid n3
 have e3:(upd H2 l3 (.lst (([false,false,false]:List Bool).map V.bl++([false,false,false]:List Bool).map V.bl))) l3=some (.lst (([false,false,false,false,false,false]:List Bool).map V.bl)):=ad
 generalize upd H2 l3 (.lst (([false,false,false]:List Bool).map V.bl++([false,false,false]:List Bool).map V.bl))=H3 at*
 have ex3:=(s2.trans s3) _ _ ex1
 walk_at "w"
 refine no ex3 (by simp) ?_
 refine no ex3 (by simp) ?_
 refine ⟨am (by show (2:Nat)≤1000; decide),fun l4 n4=>?_⟩
 have s4:Same H3 (upd H3 l4 (.lst [.bl false,.bl false])):=(Same.refl H3).laid n4
 have e4:(upd H3 l4 (.lst [.bl false,.bl false])) l4=some (.lst (([false,false]:List Bool).map V.bl)):=ad
 generalize upd H3 l4 (.lst [.bl false,.bl false])=H4 at*
 refine cP (s4 _ _ e3) e4 (by decide) fun l5 n5=>?_
 have s5:Same H4 (upd H4 l5 (.lst (([false,false,false,false,false,false]:List Bool).map V.bl++([false,false]:List Bool).map V.bl))):=(Same.refl H4).laid n5
 have e5:(upd H4 l5 (.lst (([false,false,false,false,false,false]:List Bool).map V.bl++([false,false]:List Bool).map V.bl))) l5=some (.lst (([false,false,false,false,false,false,false,false]:List Bool).map V.bl)):=ad
 generalize upd H4 l5 (.lst (([false,false,false,false,false,false]:List Bool).map V.bl++([false,false]:List Bool).map V.bl))=H5 at*
 have ex5:=(s4.trans s5) _ _ ex3
 walk_at "w"
 rw [aO]
 walk_at "w"
 refine vw e5 ⟨_,rfl,iteF ?_⟩
 refine uV Z ex5 ve ?_
 refine ⟨_,rfl,iteF ?_⟩
 walk_at "w"
 refine nY Z ex5 k0 ?_
 refine nY Z ex5 k1 ?_
 refine nY Z ex5 k2 ?_
 refine ⟨am (by show (3:Nat)≤1000; decide),fun T hT=>?_⟩
 exact q T _ ((((((s1.trans s2).trans s3).trans s4).trans s5)).trans ((Same.refl H5).laid hT)) ad
theorem lH (RF:aB K a "NoFloor" a.NoFloor (bo a)) (RL:aB K a "NoRule" a.NoRule (bp a)) (RP:aB K a "NoPuzzle" a.NoPuzzle (bq a)) (h:aZ K vs H Q E):ck K a { nx:=fun _ H'=>Q .non H',rt:=Q } (start ["_law_caught","_law_others"] vs) H:=by
 obtain ⟨x,C,i,rfl,hx,hi,g,q⟩:=h
 show ck K a _ [some (.ref x),none] H
 match i,hi with
 | 0,_=>
  obtain rfl:C=a.NoFloor:=Glb.eq g RF.g
  exact mO RF.xis RF.ve (fun y hy=>RF.no y (List.mem_append_left [a.NoRule,a.NoPuzzle] hy)) kG (RF.no _ (by unfold bo; simp)) (RF.no _ (by unfold bo; simp)) hx q
 | 1,_=>
  obtain rfl:C=a.NoRule:=Glb.eq g RL.g
  exact mO RL.xis RL.ve (fun y hy=>RL.no y (List.mem_append_left [a.NoFloor,a.NoPuzzle] hy)) (RL.no _ (by unfold bp; simp)) kG (RL.no _ (by unfold bp; simp)) hx q
 | 2,_=>
  obtain rfl:C=a.NoPuzzle:=Glb.eq g RP.g
  exact mO RP.xis RP.ve (fun y hy=>RP.no y (List.mem_append_left [a.NoFloor,a.NoRule] hy)) (RP.no _ (by unfold bq; simp)) (RP.no _ (by unfold bq; simp)) kG hx q
end
abbrev sO (i:Nat):Str:=["NoFloor","NoRule","NoPuzzle"].getD i ""
inductive Due20 (h w g:Int) (xs:List V) (os:List (Option RR)) (cl:List Int):Nat→Prop
 | fl:¬ FlOk h w g→Due20 h w g xs os cl 0
 | many:FlOk h w g→12 < xs.length→Due20 h w g xs os cl 2
 | rule:FlOk h w g→xs.length≤12→none∈os→Due20 h w g xs os cl 1
 | clue (rows:List RR):FlOk h w g→xs.length≤12→os=rows.map some→¬ CluesOk h w g cl→Due20 h w g xs os cl 2
theorem Due20.lt {h w g:Int} {xs:List V} {os:List (Option RR)} {cl:List Int} {i:Nat} (x:Due20 h w g xs os cl i):i < 3:=by cases x <;> decide
def bj (K:PySem.W.Frag) (c:RCl RK) (d:RCl PzK):Sp:=fun vs H Q _=>∃ (p a b:Addr) (h w g:Int) (xs:List V) (os:List (Option RR)) (cl:List Int) (i:Nat),vs=[.ref p,.ref a,.ref b]∧d.ok .Puzzle=true∧(∀ k,k≠.Rule→c.ok k=true)∧IsFl H p h w g∧H a=some (.lst xs)∧H b=some (.lst (cl.map V.int))∧xs.length≤100∧cl.length≤100∧(FlOk h w g→Lns H h w g xs os)∧Due20 h w g xs os cl i∧
 ∀ l H',Same H H'→H' l=some (.lst [.bl (decide (i=0)),.bl (decide (i=1)),.bl (decide (i=2))])→Q (.ref l) H'
theorem jY {K:PySem.W.Frag} {c:RCl RK} {d:RCl PzK} {vs:List V} {H:Hp} {Q:VK} {E:XK} (h:bj K c d vs H Q E):vs.length=3:=by
 obtain ⟨_,_,_,_,_,_,_,_,_,_,rfl,_⟩:=h; rfl
def cx (K:PySem.W.Frag) (c:RCl RK) (d:RCl PzK) (a:EA):TS:=
 (tSeq (tAsg (tC .non) (gName 3))
  (tSeq (tTryK K (d.A .Puzzle) (az K c d) (tCons (tVar 0) (tCons (tVar 1) (tCons (tVar 2) tNil))) (.ref a.ClueError) 4 (tAsg (tVar 4) (gName 3)))
  (tRet (tCall (aZ K) [] E0 (tCons (tVar 3) tNil)))))
def bD (K:PySem.W.Frag) (c:RCl RK) (d:RCl PzK):Sp:=fun vs H Q _=>∃ (P L G b:Addr) (h w g:Int) (rows:List RR) (cl cl2:List Int),vs=[.ref P,.ref b]∧IsPz H c d P L G h w g rows cl∧(∀ k,k≠.Rule→c.ok k=true)∧H b=some (.lst (cl2.map V.int))∧cl2.length≤100∧¬ CluesOk h w g cl2∧
 ∀ l H',Same H H'→H' l=some (.lst [.bl false,.bl false,.bl true])→Q (.ref l) H'
theorem lI {K:PySem.W.Frag} {c:RCl RK} {d:RCl PzK} {vs:List V} {H:Hp} {Q:VK} {E:XK} (h:bD K c d vs H Q E):vs.length=2:=by
 obtain ⟨_,_,_,_,_,_,_,_,_,_,rfl,_⟩:=h; rfl
def cZ (K:PySem.W.Frag) (c:RCl RK) (d:RCl PzK) (a:EA):TS:=
 (tSeq (tAsg (tC .non) (gName 2))
  (tSeq (tTryM K d d.ok "clued" (fR K c d) (tVar 0) (tCons (tVar 1) tNil) (.ref a.ClueError) 3 (tAsg (tVar 3) (gName 2)))
  (tRet (tCall (aZ K) [] E0 (tCons (tVar 2) tNil)))))
section
variable {K:PySem.W.Frag} {c:RCl RK} {d:RCl PzK} {a:EA} {vs:List V} {H:Hp} {Q:VK} {E:XK} (RF:aB K a "NoFloor" a.NoFloor (bo a)) (RL:aB K a "NoRule" a.NoRule (bp a)) (RP:aB K a "NoPuzzle" a.NoPuzzle (bq a))
include RF RL RP
theorem s0 {i:Nat} {C:Addr} (hi:i < 3) (g:Glb K (sO i) C):PySem.W.exmOne K (.ref C) (.ref a.ClueError)=some true:=by
 match i,hi with
 | 0,_=>
  obtain rfl:C=a.NoFloor:=Glb.eq g RF.g
  exact RF.ex
 | 1,_=>
  obtain rfl:C=a.NoRule:=Glb.eq g RL.g
  exact RL.ex
 | 2,_=>
  obtain rfl:C=a.NoPuzzle:=Glb.eq g RP.g
  exact RP.ex
theorem jZ (h:bj K c d vs H Q E):cx K c d a { nx:=fun _ H'=>Q .non H',rt:=Q } (start ["_law_floor_here","_law_lines","_law_clues","_law_caught","error"] vs) H:=by
 obtain ⟨p,A,B,h,w,g,xs,os,cl,i,rfl,ok,hc,hp,hA,hB,hxs,hcl,hL,D,q⟩:=h
 show cx K c d a _ [some (.ref p),some (.ref A),some (.ref B),none,none] H
 unfold cx
 walk_at "w"
 refine ⟨fun v _ H'=>∃ C,v=.ref C∧Glb K (sO i) C∧Same H H',?_,?_⟩
 · walk_at "w"
   refine Mk20.mk' (h:=h) (w:=w) (g:=g) (xs:=xs) (os:=os) (cl:=cl) (Z:=fun _ H2=>_) ⟨ok,hp,hA,hB,hxs,hcl,hc,hL,fun z C hC H' s'=>?_,fun F z C hC H' s'=>?_,fun F z1 z2 C hC H' s'=>?_,fun F z1 z2 z3 C hC H' s'=>?_,fun rows F C z1 z2=>?_⟩
   · refine ⟨C,rfl,?_,s'⟩
     cases D with
     | fl _=>exact hC
     | many z' _=>exact absurd z' z
     | rule z' _ _=>exact absurd z' z
     | clue _ z' _ _ _=>exact absurd z' z
   · refine ⟨C,rfl,?_,s'⟩
     cases D with
     | fl z'=>exact absurd F z'
     | many _ _=>exact hC
     | rule _ z' _=>omega
     | clue _ _ z' _ _=>omega
   · refine ⟨C,rfl,?_,s'⟩
     cases D with
     | fl z'=>exact absurd F z'
     | many _ z'=>omega
     | rule _ _ _=>exact hC
     | clue rows _ _ e _=>rw [e] at z2; simp at z2
   · refine ⟨C,rfl,?_,s'⟩
     cases D with
     | fl z'=>exact absurd F z'
     | many _ z'=>omega
     | rule _ _ hm=>obtain ⟨rows,e⟩:=z3; rw [e] at hm; simp at hm
     | clue _ _ _ _ _=>exact hC
   · exfalso
     cases D with
     | fl z'=>exact absurd F z'
     | many _ z'=>omega
     | rule _ _ hm=>rw [z2] at hm; simp at hm
     | clue _ _ _ _ z'=>exact absurd C z'
 · rintro C H2 ⟨C',e,gC,s⟩
   cases e
   refine ⟨s0 RF RL RP D.lt gC,fun x hx=>?_⟩
   have s2:Same H2 (upd H2 x (.ext (XO x C))):=(Same.refl H2).laid hx
   have e2:(upd H2 x (.ext (XO x C))) x=some (.ext (XO x C)):=ad
   generalize upd H2 x (.ext (XO x C))=H3 at*
   walk_at "w"
   exact ⟨x,C,i,rfl,e2,D.lt,gC,fun l H' s' el=>q l H' ((s.trans s2).trans s') el⟩
theorem lJ (h:bD K c d vs H Q E):cZ K c d a { nx:=fun _ H'=>Q .non H',rt:=Q } (start ["_law_puzzle","_law_clues","_law_caught","error"] vs) H:=by
 obtain ⟨P,L,G,b,h,w,g,rows,cl,cl2,rfl,x,hc,hb,hn,hC,q⟩:=h
 obtain ⟨dx,p,rs,h1,h2,h3⟩:=id x.ex
 show cZ K c d a _ [some (.ref P),some (.ref b),none,none] H
 unfold cZ
 walk_at "w"
 refine ⟨fun v _ H'=>∃ C,v=.ref C∧Glb K (sO 2) C∧Same H H',?_,?_⟩
 · walk_at "w"
   refine ⟨P,.Puzzle,dx,_,rfl,x.ok,h1,by rfl,?_⟩
   exact ⟨P,L,G,b,h,w,g,rows,cl,cl2,rfl,x,hc,hb,hn,fun _ C gC H' s'=>⟨C,rfl,gC,s'⟩,fun z=>absurd z hC⟩
 · rintro C H2 ⟨C',e,gC,s⟩
   cases e
   refine ⟨s0 RF RL RP (by decide) gC,fun y hy=>?_⟩
   have s2:Same H2 (upd H2 y (.ext (XO y C))):=(Same.refl H2).laid hy
   have e2:(upd H2 y (.ext (XO y C))) y=some (.ext (XO y C)):=ad
   generalize upd H2 y (.ext (XO y C))=H3 at*
   walk_at "w"
   exact ⟨y,C,2,rfl,e2,by decide,gC,fun l H' s' el=>q l H' ((s.trans s2).trans s') el⟩
end
def bb (K:PySem.W.Frag):Sp:=fun vs H Q _=>∃ (p:Addr) (h w g x:Int),vs=[.ref p,.int x]∧IsFl H p h w g∧∀ q h' w' g' H',Same H H'→IsFl H' q h' w' g'→¬ FlOk h' w' g'→Q (.ref q) H'
theorem iG {K:PySem.W.Frag} {vs:List V} {H:Hp} {Q:VK} {E:XK} (h:bb K vs H Q E):vs.length=2:=by
 obtain ⟨_,_,_,_,_,rfl,_⟩:=h; rfl
def bu (K:PySem.W.Frag):TS:=
 (tSeq (tIfS (tTest (tOp (cEq K) (tOp cMod (tVar 1) (tC (.int 4))) (tC (.int 0)))) (tRet (tTup (tCons (tVar 2) (tCons (tOp cIx (tVar 0) (tC (.int 1))) (tCons (tOp cIx (tVar 0) (tC (.int 2))) tNil))))) tNext)
  (tSeq (tIfS (tTest (tOp (cEq K) (tOp cMod (tVar 1) (tC (.int 4))) (tC (.int 1)))) (tRet (tTup (tCons (tOp cIx (tVar 0) (tC (.int 0))) (tCons (tVar 2) (tCons (tOp cIx (tVar 0) (tC (.int 2))) tNil))))) tNext)
  (tSeq (tIfS (tTest (tOp (cEq K) (tOp cMod (tVar 1) (tC (.int 4))) (tC (.int 2)))) (tRet (tTup (tCons (tOp cIx (tVar 0) (tC (.int 0))) (tCons (tOp cIx (tVar 0) (tC (.int 1))) (tCons (tVar 2) tNil))))) tNext)
  (tRet (tOp cIx (tLst (tCons (tTup (tCons (tC (.int 3)) (tCons (tC (.int 6)) (tCons (tC (.int 2)) tNil)))) (tCons (tTup (tCons (tC (.int 6)) (tCons (tC (.int 3)) (tCons (tC (.int 1)) tNil)))) (tCons (tTup (tCons (tC (.int 4)) (tCons (tC (.int 5)) (tCons (tC (.int 6)) tNil)))) (tCons (tTup (tCons (tC (.int 5)) (tCons (tC (.int 4)) (tCons (tC (.int 3)) tNil)))) tNil))))) (tOp cMod (tOp cDiv (tVar 1) (tC (.int 4))) (tC (.int 4))))))))
def bT (K:PySem.W.Frag):TS:=
 (tSeq (tAsg (tOp cIx (tLst (tCons (tC (.int 0)) (tCons (tC (.int 7)) (tCons (tUn (rU fun i=>.int (-i)) (tC (.int 1))) (tCons (tOp cPow (tC (.int 10)) (tC (.int 9))) tNil))))) (tOp cMod (tOp cDiv (tVar 1) (tC (.int 4))) (tC (.int 4)))) (gName 2))
  (bu K))
theorem p6 (xs:List V) {k:Nat} (h:k≤xs.length):cutV xs (some (k:Int)) none=xs.drop k:=by
 unfold cutV
 rw [HT.sIx_nat,HT.sIx_none,Nat.min_eq_left h,List.take_of_length_le (by rw [List.length_drop]; exact Nat.le_refl _)]
theorem dH {h w g:Int} (z:¬ (1≤h∧h≤6)∨¬ (1≤w∧w≤6)∨¬ (1≤g∧g≤6)∨16 < h*w):¬ FlOk h w g:=fun F=>by
 obtain ⟨h0,h1,w0,w1,m16,g0,g1⟩:=F
 rcases z with z | z | z | z
 · exact z ⟨h0,h1⟩
 · exact z ⟨w0,w1⟩
 · exact z ⟨g0,g1⟩
 · omega
theorem lK (x:Int):x / 4 % 4=0∨x / 4 % 4=1∨x / 4 % 4=2∨x / 4 % 4=3:=by omega
theorem gH {K:PySem.W.Frag} {H:Hp} {Q:VK} {p:Addr} {h w g x s:Int} (hp:IsFl H p h w g) (hs:¬ (1≤s∧s≤6)) (q:∀ q h' w' g' H',Same H H'→IsFl H' q h' w' g'→¬ FlOk h' w' g'→Q (.ref q) H'):
  bu K { nx:=fun _ H'=>Q .non H',rt:=Q } [some (.ref p),some (.int x),some (.int s)] H:=by
 unfold bu
 rw [aF,aO]
 walk_at "w"
 refine ⟨by decide,?_⟩
 by_cases c0:x % 4=0
 · rw [decide_eq_true c0]
   refine iteT ?_
   refine ixT hp (v:=V.int w) rfl ?_
   walk_at "w"
   refine ixT hp (v:=V.int g) rfl ?_
   walk_at "w"
   refine ⟨am (by show (3:Nat)≤1000; decide),fun t ht=>?_⟩
   exact q t s w g _ ((Same.refl H).laid ht) ad (dH (.inl hs))
 rw [decide_eq_false c0]
 refine iteF ?_
 rw [aO]
 walk_at "w"
 refine ⟨by decide,?_⟩
 by_cases c1:x % 4=1
 · rw [decide_eq_true c1]
   refine iteT ?_
   refine ixT hp (v:=V.int h) rfl ?_
   walk_at "w"
   refine ixT hp (v:=V.int g) rfl ?_
   walk_at "w"
   refine ⟨am (by show (3:Nat)≤1000; decide),fun t ht=>?_⟩
   exact q t h s g _ ((Same.refl H).laid ht) ad (dH (.inr (.inl hs)))
 rw [decide_eq_false c1]
 refine iteF ?_
 rw [aO]
 walk_at "w"
 refine ⟨by decide,?_⟩
 by_cases c2:x % 4=2
 · rw [decide_eq_true c2]
   refine iteT ?_
   refine ixT hp (v:=V.int h) rfl ?_
   walk_at "w"
   refine ixT hp (v:=V.int w) rfl ?_
   walk_at "w"
   refine ⟨am (by show (3:Nat)≤1000; decide),fun t ht=>?_⟩
   exact q t h w s _ ((Same.refl H).laid ht) ad (dH (.inr (.inr (.inl hs))))
 rw [decide_eq_false c2]
 refine iteF ?_
 walk_at "w"
 refine ⟨am (by show (3:Nat)≤1000; decide),fun t1 k1=>⟨am (by show (3:Nat)≤1000; decide),fun t2 k2=>⟨am (by show (3:Nat)≤1000; decide),fun t3 k3=>⟨am (by show (3:Nat)≤1000; decide),fun t4 k4=>⟨am (by show (4:Nat)≤1000; decide),fun l kl=>⟨(show CDiv x 4 from ⟨by decide,by decide⟩),by decide,?_⟩⟩⟩⟩⟩⟩
 have s1:Same H (upd H t1 (.tup [.int 3,.int 6,.int 2])):=(Same.refl H).laid k1
 have e1:(upd H t1 (.tup [.int 3,.int 6,.int 2])) t1=some (.tup [.int 3,.int 6,.int 2]):=ad
 generalize upd H t1 (.tup [.int 3,.int 6,.int 2])=H1 at*
 have s2:Same H1 (upd H1 t2 (.tup [.int 6,.int 3,.int 1])):=(Same.refl H1).laid k2
 have e2:(upd H1 t2 (.tup [.int 6,.int 3,.int 1])) t2=some (.tup [.int 6,.int 3,.int 1]):=ad
 generalize upd H1 t2 (.tup [.int 6,.int 3,.int 1])=H2 at*
 have s3:Same H2 (upd H2 t3 (.tup [.int 4,.int 5,.int 6])):=(Same.refl H2).laid k3
 have e3:(upd H2 t3 (.tup [.int 4,.int 5,.int 6])) t3=some (.tup [.int 4,.int 5,.int 6]):=ad
 generalize upd H2 t3 (.tup [.int 4,.int 5,.int 6])=H3 at*
 have s4:Same H3 (upd H3 t4 (.tup [.int 5,.int 4,.int 3])):=(Same.refl H3).laid k4
 have e4:(upd H3 t4 (.tup [.int 5,.int 4,.int 3])) t4=some (.tup [.int 5,.int 4,.int 3]):=ad
 generalize upd H3 t4 (.tup [.int 5,.int 4,.int 3])=H4 at*
 have s5:Same H4 (upd H4 l (.lst [V.ref t1,V.ref t2,V.ref t3,V.ref t4])):=(Same.refl H4).laid kl
 have e5:(upd H4 l (.lst [V.ref t1,V.ref t2,V.ref t3,V.ref t4])) l=some (.lst [V.ref t1,V.ref t2,V.ref t3,V.ref t4]):=ad
 generalize upd H4 l (.lst [V.ref t1,V.ref t2,V.ref t3,V.ref t4])=H5 at*
 have s05:=(((s1.trans s2).trans s3).trans s4).trans s5
 rcases lK x with e | e | e | e
 · rw [e]; exact ixL e5 (bd (j:=0) rfl) (q t1 3 6 2 _ s05 ((((s2.trans s3).trans s4).trans s5) _ _ e1) (dH (by omega)))
 · rw [e]; exact ixL e5 (bd (j:=1) rfl) (q t2 6 3 1 _ s05 (((s3.trans s4).trans s5) _ _ e2) (dH (by omega)))
 · rw [e]; exact ixL e5 (bd (j:=2) rfl) (q t3 4 5 6 _ s05 ((s4.trans s5) _ _ e3) (dH (by omega)))
 · rw [e]; exact ixL e5 (bd (j:=3) rfl) (q t4 5 4 3 _ s05 (s5 _ _ e4) (dH (by omega)))
theorem iH {K:PySem.W.Frag} {vs:List V} {H:Hp} {Q:VK} {E:XK} (h:bb K vs H Q E):bT K { nx:=fun _ H'=>Q .non H',rt:=Q } (start ["_law_floor_here","_law_cell","_law_side"] vs) H:=by
 obtain ⟨p,h,w,g,x,rfl,hp,q⟩:=h
 show bT K _ [some (.ref p),some (.int x),none] H
 unfold bT
 walk_at "w"
 refine ⟨(show CPow 10 9 from ⟨by decide,by decide,by decide⟩),am (by show (4:Nat)≤1000; decide),fun l hl=>⟨(show CDiv x 4 from ⟨by decide,by decide⟩),by decide,?_⟩⟩
 have s1:Same H (upd H l (.lst [V.int 0,V.int 7,V.int (-1),V.int (10^Int.toNat 9)])):=(Same.refl H).laid hl
 have e1:(upd H l (.lst [V.int 0,V.int 7,V.int (-1),V.int (10^Int.toNat 9)])) l=some (.lst [V.int 0,V.int 7,V.int (-1),V.int 1000000000]):=ad
 generalize upd H l (.lst [V.int 0,V.int 7,V.int (-1),V.int (10^Int.toNat 9)])=H1 at*
 have fin:∀ s,¬ (1≤s∧s≤6)→bu K { nx:=fun _ H'=>Q .non H',rt:=Q } [some (.ref p),some (.int x),some (.int s)] H1:=fun s hs=>gH (s1 _ _ hp) hs fun q' h' w' g' H' s' e z=>q q' h' w' g' H' (s1.trans s') e z
 rcases lK x with e | e | e | e
 · rw [e]; exact ixL e1 (bd (j:=0) rfl) (fin _ (by omega))
 · rw [e]; exact ixL e1 (bd (j:=1) rfl) (fin _ (by omega))
 · rw [e]; exact ixL e1 (bd (j:=2) rfl) (fin _ (by omega))
 · rw [e]; exact ixL e1 (bd (j:=3) rfl) (fin _ (by omega))
instance (w:List Nat) (n:Nat):Decidable (IntW w n):=by unfold IntW; infer_instance
def wdB (w:List Nat):Bool:=decide (w.length≤100)&&w.all (fun c=>decide (c < 128))&&(match numW w with | none=>true | some n=>decide (IntW w n))&&!decide (32∈w)
theorem r8 {w:List Nat} (h:wdB w=true):WdOk w∧32∉w:=by
 unfold wdB at h
 simp only [Bool.and_eq_true,decide_eq_true_eq,Bool.not_eq_true',decide_eq_false_iff_not] at h
 refine ⟨⟨h.1.1.1,fun c hc=>by have:=List.all_eq_true.mp h.1.1.2 c hc; simpa using this,fun n e=>?_⟩,h.2⟩
 have:=h.1.2
 rw [e] at this
 simpa using this
theorem LnOk.of {ws:List (List Nat)} (ne:ws≠[]) (len:ws.length≤100) (h:ws.all wdB=true):LnOk ws:=⟨ne,len,fun w hw=>(r8 (List.all_eq_true.mp h w hw)).2,fun w hw=>(r8 (List.all_eq_true.mp h w hw)).1⟩
def bad20:List (List (List Nat)):=[[[]],[nmC .Unlike],[nmC .Unlike,[48],[48]],[nmC .Sum,[49,48,48],[48]],[nmC .Sum,[48,49],[48]],[nmC .Sum,[51]],[nmC .Joined,[48]],[[82,105,110,103],[49]],[nmC .Count,[49],[48]],[nmC .NoSquare],[nmC .Rising,[],[48]],[nmC .Seen,[49],[45,49]]]
theorem sP {ws:List (List Nat)} (h:ws∈bad20):LnOk ws:=by
 have t:(bad20.all fun ws=>!decide (ws=[])&&decide (ws.length≤100)&&ws.all wdB)=true:=by decide+kernel
 have:=List.all_eq_true.mp t ws h
 simp only [Bool.and_eq_true,decide_eq_true_eq,Bool.not_eq_true',decide_eq_false_iff_not] at this
 exact LnOk.of this.1.1 this.1.2 this.2
theorem jd {h w g:Int} (F:FlOk h w g):(∀ ws∈bad20,accR (h*w) g ws=none)∧accR (h*w) g [nmC .Unlike,numC (h*w).toNat]=none∧accR (h*w) g [nmC .Joined,numC (g+1).toNat]=none:=by
 obtain ⟨h0,h1,w0,w1,m16,g0,g1⟩:=F
 have mpos:1≤h*w:=by
  have:=Int.mul_le_mul h0 w0 (by decide) (by omega)
  simpa using this
 have t:((List.range 17).all fun (m:Nat)=>(List.range 7).all fun (g:Nat)=>decide (m=0)||decide (g=0)||((bad20.all fun ws=>(accR (m:Int) (g:Int) ws).isNone)&&(accR (m:Int) (g:Int) [nmC .Unlike,numC m]).isNone&&(accR (m:Int) (g:Int) [nmC .Joined,numC (g+1)]).isNone))=true:=by decide+kernel
 have t1:=List.all_eq_true.mp (List.all_eq_true.mp t (h*w).toNat (List.mem_range.mpr (by omega))) g.toNat (List.mem_range.mpr (by omega))
 have em:(((h*w).toNat:Nat):Int)=h*w:=Int.toNat_of_nonneg (by omega)
 have eg:((g.toNat:Nat):Int)=g:=Int.toNat_of_nonneg (by omega)
 have eg1:(g+1).toNat=g.toNat+1:=by omega
 rw [em,eg,decide_eq_false (show ¬ (h*w).toNat=0 by omega),decide_eq_false (show ¬ g.toNat=0 by omega),Bool.false_or,Bool.false_or,Bool.and_eq_true,Bool.and_eq_true] at t1
 refine ⟨fun ws hw=>?_,?_,?_⟩
 · have:=List.all_eq_true.mp t1.1.1 ws hw
   simpa using this
 · simpa using t1.1.2
 · rw [eg1]; simpa using t1.2
theorem BadLn.str {H:Hp} {h w g:Int} {cs:List Nat} {ws:List (List Nat)} (F:FlOk h w g) (hw:ws∈bad20) (e:cs=catL 32 ws):BadLn H h w g (.str (tx cs)):=.inr ⟨ws,by rw [e],sP hw,(jd F).1 ws hw⟩
theorem kf {i:Int} (h0:0≤i) (h1:i < 100):Str.ofString (toString i)=tx (numC i.toNat):=by
 have:=gb (n:=i.toNat) (by omega)
 rw [Int.toNat_of_nonneg h0] at this
 exact this
def bg (K:PySem.W.Frag):Sp:=fun vs H Q _=>∃ (p:Addr) (h w g x:Int),vs=[.ref p,.int x]∧IsFl H p h w g∧FlOk h w g∧∀ v H',Same H H'→BadLn H' h w g v→Q v H'
theorem je {K:PySem.W.Frag} {vs:List V} {H:Hp} {Q:VK} {E:XK} (h:bg K vs H Q E):vs.length=2:=by
 obtain ⟨_,_,_,_,_,rfl,_⟩:=h; rfl
def dQ (K:PySem.W.Frag):TS:=
 (tRet (tOp cIx (tVar 3) (tOp cMod (tOp cDiv (tVar 1) (tC (.int 14))) (tC (.int 19)))))
def dR (K:PySem.W.Frag):TS:=
 (tSeq (tAsg (tOp cAdd (tVar 3) (tLst (tCons (tC .non) (tCons (tC (.int 7)) (tCons (tC (.bl true)) (tCons (tLst (tCons (tC (.str (tx [117,110,108,105,107,101]))) (tCons (tC (.str (tx [48]))) tNil))) (tCons (tTup (tCons (tC (.str (tx [117,110,108,105,107,101]))) (tCons (tC (.str (tx [48]))) tNil))) tNil))))))) (gName 3))
  (dQ K))
def dS (K:PySem.W.Frag):TS:=
 (tSeq (tAsg (tOp cAdd (tVar 3) (tLst (tCons (tOp cAdd (tC (.str (tx [106,111,105,110,101,100,32]))) (tCB kStr (tCons (tOp cAdd (tOp cIx (tVar 0) (tC (.int 2))) (tC (.int 1))) tNil))) (tCons (tC (.str (tx [82,105,110,103,32,49]))) (tCons (tC (.str (tx [99,111,117,110,116,32,49,32,48]))) (tCons (tC (.str (tx [110,111,115,113,117,97,114,101]))) (tCons (tC (.str (tx [114,105,115,105,110,103,32,32,48]))) (tCons (tC (.str (tx [115,101,101,110,32,49,32,45,49]))) tNil)))))))) (gName 3))
  (dR K))
def dU (K:PySem.W.Frag):TS:=
 (tSeq (tAsg (tLst (tCons (tC (.str (tx []))) (tCons (tC (.str (tx [117,110,108,105,107,101]))) (tCons (tC (.str (tx [117,110,108,105,107,101,32,48,32,48]))) (tCons (tOp cAdd (tC (.str (tx [117,110,108,105,107,101,32]))) (tCB kStr (tCons (tVar 2) tNil))) (tCons (tC (.str (tx [115,117,109,32,49,48,48,32,48]))) (tCons (tC (.str (tx [115,117,109,32,48,49,32,48]))) (tCons (tC (.str (tx [115,117,109,32,51]))) (tCons (tC (.str (tx [106,111,105,110,101,100,32,48]))) tNil))))))))) (gName 3))
  (dS K))
def cm (K:PySem.W.Frag):TS:=
 (tSeq (tAsg (tOp cMul (tOp cIx (tVar 0) (tC (.int 0))) (tOp cIx (tVar 0) (tC (.int 1)))) (gName 2))
  (dU K))
theorem jf {K:PySem.W.Frag} {vs:List V} {H:Hp} {Q:VK} {E:XK} (h:bg K vs H Q E):cm K { nx:=fun _ H'=>Q .non H',rt:=Q } (start ["_law_floor_here","_law_cell","_law_many","_law_some"] vs) H:=by
 obtain ⟨p,h,w,g,x,rfl,hp,F,q⟩:=h
 obtain ⟨h0,h1,w0,w1,m16,g0,g1⟩:=id F
 have mpos:0≤h*w:=Int.mul_nonneg (by omega) (by omega)
 have sm:=kf mpos (show h*w < 100 by omega)
 have sg:=kf (show 0≤g+1 by omega) (show g+1 < 100 by omega)
 have lm:(h*w).natAbs.log2 < 1920:=by have:=fc (n:=(h*w).toNat) (by omega); rw [Int.toNat_of_nonneg mpos] at this; exact this
 have lg:(g+1).natAbs.log2 < 1920:=by have:=fc (n:=(g+1).toNat) (by omega); rw [Int.toNat_of_nonneg (by omega)] at this; exact this
 have wm:WdOk (numC (h*w).toNat):=gr (by omega)
 have wg:WdOk (numC (g+1).toNat):=gr (by omega)
 have b1:∀ {H:Hp},BadLn H h w g (.str (tx ([117,110,108,105,107,101,32]++numC (h*w).toNat))):=.inr ⟨[nmC .Unlike,numC (h*w).toNat],rfl,⟨by simp,by simp,fun z hz=>by
   rcases List.mem_cons.mp hz with rfl | hz
   · exact my _
   · rw [List.mem_singleton.mp hz]; exact gm (by omega),fun z hz=>by
   rcases List.mem_cons.mp hz with rfl | hz
   · exact mM _
   · rw [List.mem_singleton.mp hz]; exact wm⟩,(jd F).2.1⟩
 have b2:∀ {H:Hp},BadLn H h w g (.str (tx ([106,111,105,110,101,100,32]++numC (g+1).toNat))):=.inr ⟨[nmC .Joined,numC (g+1).toNat],rfl,⟨by simp,by simp,fun z hz=>by
   rcases List.mem_cons.mp hz with rfl | hz
   · exact my _
   · rw [List.mem_singleton.mp hz]; exact gm (by omega),fun z hz=>by
   rcases List.mem_cons.mp hz with rfl | hz
   · exact mM _
   · rw [List.mem_singleton.mp hz]; exact wg⟩,(jd F).2.2⟩
 show cm K _ [some (.ref p),some (.int x),none,none] H
 unfold cm
 walk_at "w"
 refine ixT hp (v:=V.int h) rfl ?_
 walk_at "w"
 refine ixT hp (v:=V.int w) rfl ?_
 walk_at "w"
 refine ⟨fC h0 h1,?_⟩
 unfold dU
 walk_at "w"
 rw [sm,iU]
 refine ⟨lm,?_,am (by show (8:Nat)≤1000; decide),fun l1 n1=>?_⟩
 · rw [bR,bR]
   have:=fb (n:=(h*w).toNat)
   exact am (by simp; omega)
 generalize e1:([V.str (tx []),V.str (tx [117,110,108,105,107,101]),V.str (tx [117,110,108,105,107,101,32,48,32,48]),V.str (tx ([117,110,108,105,107,101,32]++numC (h*w).toNat)),V.str (tx [115,117,109,32,49,48,48,32,48]),V.str (tx [115,117,109,32,48,49,32,48]),V.str (tx [115,117,109,32,51]),V.str (tx [106,111,105,110,101,100,32,48])]:List V)=xs1
 have s1:Same H (upd H l1 (.lst xs1)):=(Same.refl H).laid n1
 have u1:(upd H l1 (.lst xs1)) l1=some (.lst xs1):=ad
 generalize upd H l1 (.lst xs1)=H1 at*
 have hp1:=s1 _ _ hp
 unfold dS
 walk_at "w"
 refine ixT hp1 (v:=V.int g) rfl ?_
 walk_at "w"
 rw [sg,iU]
 refine ⟨lg,?_,am (by show (6:Nat)≤1000; decide),fun l2 n2=>?_⟩
 · rw [bR,bR]
   have:=fb (n:=(g+1).toNat)
   exact am (by simp; omega)
 generalize e2:([V.str (tx ([106,111,105,110,101,100,32]++numC (g+1).toNat)),V.str (tx [82,105,110,103,32,49]),V.str (tx [99,111,117,110,116,32,49,32,48]),V.str (tx [110,111,115,113,117,97,114,101]),V.str (tx [114,105,115,105,110,103,32,32,48]),V.str (tx [115,101,101,110,32,49,32,45,49])]:List V)=xs2
 have s2:Same H1 (upd H1 l2 (.lst xs2)):=(Same.refl H1).laid n2
 have u2:(upd H1 l2 (.lst xs2)) l2=some (.lst xs2):=ad
 generalize upd H1 l2 (.lst xs2)=H2 at*
 refine cP (s2 _ _ u1) u2 (by rw [← e1,← e2]; simp) fun l3 n3=>?_
 have s3:Same H2 (upd H2 l3 (.lst (xs1++xs2))):=(Same.refl H2).laid n3
 have u3:(upd H2 l3 (.lst (xs1++xs2))) l3=some (.lst (xs1++xs2)):=ad
 generalize upd H2 l3 (.lst (xs1++xs2))=H3 at*
 unfold dR
 walk_at "w"
 refine ⟨am (by show (2:Nat)≤1000; decide),fun q1 k1=>⟨am (by show (2:Nat)≤1000; decide),fun q2 k2=>⟨am (by show (5:Nat)≤1000; decide),fun l4 n4=>?_⟩⟩⟩
 have t1:Same H3 (upd H3 q1 (.lst [V.str (tx [117,110,108,105,107,101]),V.str (tx [48])])):=(Same.refl H3).laid k1
 have v1:(upd H3 q1 (.lst [V.str (tx [117,110,108,105,107,101]),V.str (tx [48])])) q1=some (.lst [V.str (tx [117,110,108,105,107,101]),V.str (tx [48])]):=ad
 generalize upd H3 q1 (.lst [V.str (tx [117,110,108,105,107,101]),V.str (tx [48])])=H4 at*
 have t2:Same H4 (upd H4 q2 (.tup [V.str (tx [117,110,108,105,107,101]),V.str (tx [48])])):=(Same.refl H4).laid k2
 have v2:(upd H4 q2 (.tup [V.str (tx [117,110,108,105,107,101]),V.str (tx [48])])) q2=some (.tup [V.str (tx [117,110,108,105,107,101]),V.str (tx [48])]):=ad
 generalize upd H4 q2 (.tup [V.str (tx [117,110,108,105,107,101]),V.str (tx [48])])=H5 at*
 have s4:Same H5 (upd H5 l4 (.lst [V.non,V.int 7,V.bl true,V.ref q1,V.ref q2])):=(Same.refl H5).laid n4
 have u4:(upd H5 l4 (.lst [V.non,V.int 7,V.bl true,V.ref q1,V.ref q2])) l4=some (.lst [V.non,V.int 7,V.bl true,V.ref q1,V.ref q2]):=ad
 generalize upd H5 l4 (.lst [V.non,V.int 7,V.bl true,V.ref q1,V.ref q2])=H6 at*
 have s36:=(t1.trans t2).trans s4
 refine cP (s36 _ _ u3) u4 (by rw [← e1,← e2]; simp) fun l5 n5=>?_
 have s5:Same H6 (upd H6 l5 (.lst (xs1++xs2++[V.non,V.int 7,V.bl true,V.ref q1,V.ref q2]))):=(Same.refl H6).laid n5
 have u5:(upd H6 l5 (.lst (xs1++xs2++[V.non,V.int 7,V.bl true,V.ref q1,V.ref q2]))) l5=some (.lst (xs1++xs2++[V.non,V.int 7,V.bl true,V.ref q1,V.ref q2])):=ad
 generalize upd H6 l5 (.lst (xs1++xs2++[V.non,V.int 7,V.bl true,V.ref q1,V.ref q2]))=H7 at*
 have s47:=(t2.trans s4).trans s5
 have s57:=s4.trans s5
 have all:∀ v∈xs1++xs2++[V.non,V.int 7,V.bl true,V.ref q1,V.ref q2],BadLn H7 h w g v:=by
  intro v hv
  rcases List.mem_append.mp hv with hv | hv
  · rcases List.mem_append.mp hv with hv | hv
    · rw [← e1] at hv
      simp only [List.mem_cons,List.not_mem_nil,or_false] at hv
      rcases hv with rfl | rfl | rfl | rfl | rfl | rfl | rfl | rfl
      · exact BadLn.str F (ws:=[[]]) (by decide) rfl
      · exact BadLn.str F (ws:=[nmC .Unlike]) (by decide) rfl
      · exact BadLn.str F (ws:=[nmC .Unlike,[48],[48]]) (by decide) rfl
      · exact b1
      · exact BadLn.str F (ws:=[nmC .Sum,[49,48,48],[48]]) (by decide) rfl
      · exact BadLn.str F (ws:=[nmC .Sum,[48,49],[48]]) (by decide) rfl
      · exact BadLn.str F (ws:=[nmC .Sum,[51]]) (by decide) rfl
      · exact BadLn.str F (ws:=[nmC .Joined,[48]]) (by decide) rfl
    · rw [← e2] at hv
      simp only [List.mem_cons,List.not_mem_nil,or_false] at hv
      rcases hv with rfl | rfl | rfl | rfl | rfl | rfl
      · exact b2
      · exact BadLn.str F (ws:=[[82,105,110,103],[49]]) (by decide) rfl
      · exact BadLn.str F (ws:=[nmC .Count,[49],[48]]) (by decide) rfl
      · exact BadLn.str F (ws:=[nmC .NoSquare]) (by decide) rfl
      · exact BadLn.str F (ws:=[nmC .Rising,[],[48]]) (by decide) rfl
      · exact BadLn.str F (ws:=[nmC .Seen,[49],[45,49]]) (by decide) rfl
  · simp only [List.mem_cons,List.not_mem_nil,or_false] at hv
    rcases hv with rfl | rfl | rfl | rfl | rfl
    · exact .inl (.inl rfl)
    · exact .inl (.inr (.inl ⟨_,rfl⟩))
    · exact .inl (.inr (.inr (.inl ⟨_,rfl⟩)))
    · exact .inl (.inr (.inr (.inr ⟨q1,_,rfl,.inl (s47 _ _ v1)⟩)))
    · exact .inl (.inr (.inr (.inr ⟨q2,_,rfl,.inr (s57 _ _ v2)⟩)))
 have hlen:(xs1++xs2++[V.non,V.int 7,V.bl true,V.ref q1,V.ref q2]).length=19:=by rw [← e1,← e2]; rfl
 generalize xs1++xs2++[V.non,V.int 7,V.bl true,V.ref q1,V.ref q2]=ys at*
 unfold dQ
 walk_at "w"
 refine ⟨(show CDiv x 14 from ⟨by decide,by decide⟩),by decide,?_⟩
 have j0:=Int.emod_nonneg (x / 14) (show (19:Int)≠0 by decide)
 have j1:=Int.emod_lt_of_pos (x / 14) (show (0:Int) < 19 by decide)
 obtain ⟨j,ej⟩:∃ j:Nat,x / 14 % 19=j:=⟨_,(Int.toNat_of_nonneg j0).symm⟩
 rw [ej] at j1 ⊢
 have hj:j < ys.length:=by omega
 refine ixL u5 (bd (List.getElem?_eq_getElem hj)) ?_
 exact q _ _ (((((s1.trans s2).trans s3).trans s36).trans s5)) (all _ (List.getElem_mem hj))
def aT (K:PySem.W.Frag):Sp:=fun vs H Q _=>∃ (p C:Addr) (h w g x:Int) (cl:List Int),vs=[.ref p,.ref C,.int x]∧IsFl H p h w g∧FlOk h w g∧H C=some (.lst (cl.map V.int))∧CluesOk h w g cl∧∀ l cl2 H',Same H H'→H' l=some (.lst (cl2.map V.int))→H l=none→cl2.length≤100→¬ CluesOk h w g cl2→Q (.ref l) H'
theorem iI {K:PySem.W.Frag} {vs:List V} {H:Hp} {Q:VK} {E:XK} (h:aT K vs H Q E):vs.length=3:=by
 obtain ⟨_,_,_,_,_,_,_,rfl,_⟩:=h; rfl
def dv (K:PySem.W.Frag):TS:=
 (tSeq (tIfS (tTest (tOp (cEq K) (tOp cMod (tVar 2) (tC (.int 4))) (tC (.int 0)))) (tRet (tSl dZ (tVar 1) (tPart (tC (.int 1))) bI)) tNext)
  (tSeq (tIfS (tTest (tOp (cEq K) (tOp cMod (tVar 2) (tC (.int 4))) (tC (.int 1)))) (tRet (tOp cAdd (tVar 1) (tLst (tCons (tC (.int 0)) tNil)))) tNext)
  (tRet (tOp cAdd (tOp cAdd (tSl dZ (tVar 1) bI (tPart (tVar 3))) (tLst (tCons (tOp cIx (tLst (tCons (tUn (rU fun i=>.int (-i)) (tC (.int 1))) (tCons (tOp cAdd (tOp cIx (tVar 0) (tC (.int 2))) (tC (.int 1))) tNil))) (tOp cMod (tVar 2) (tC (.int 2)))) tNil))) (tSl dZ (tVar 1) (tPart (tOp cAdd (tVar 3) (tC (.int 1)))) bI)))))
def bU (K:PySem.W.Frag):TS:=
 (tSeq (tAsg (tOp cMod (tOp cDiv (tVar 2) (tC (.int 4))) (tCB kLen (tCons (tVar 1) tNil))) (gName 3))
  (dv K))
theorem iJ {K:PySem.W.Frag} {vs:List V} {H:Hp} {Q:VK} {E:XK} (h:aT K vs H Q E):bU K { nx:=fun _ H'=>Q .non H',rt:=Q } (start ["_law_floor_here","_law_clues","_law_cell","_law_at_here"] vs) H:=by
 obtain ⟨p,C,h,w,g,x,cl,rfl,hp,F,hC,O,q⟩:=h
 obtain ⟨h0,h1,w0,w1,m16,g0,g1⟩:=id F
 have mpos:1≤h*w:=by
  have:=Int.mul_le_mul h0 w0 (by decide) (by omega)
  simpa using this
 have hlen:=O.len
 have hl1:1≤cl.length:=by omega
 have hl2:cl.length≤16:=by omega
 show bU K _ [some (.ref p),some (.ref C),some (.int x),none] H
 unfold bU
 walk_at "w"
 rw [fM hC,List.length_map]
 walk_at "w"
 refine ⟨(show CDiv x 4 from ⟨by decide,by decide⟩),by omega,?_⟩
 have j0:=Int.emod_nonneg (x / 4) (show (cl.length:Int)≠0 by omega)
 have j1:=Int.emod_lt_of_pos (x / 4) (show (0:Int) < cl.length by omega)
 obtain ⟨j,ej⟩:∃ j:Nat,x / 4 % (cl.length:Int)=j:=⟨_,(Int.toNat_of_nonneg j0).symm⟩
 rw [ej] at j1 ⊢
 unfold dv
 rw [aF,aO]
 walk_at "w"
 refine ⟨by decide,?_⟩
 by_cases c0:x % 4=0
 · rw [decide_eq_true c0]
   refine iteT ?_
   refine fN hC fun l hl=>?_
   rw [o6,← List.map_drop]
   exact q l (cl.drop 1) _ ((Same.refl H).laid hl) ad hl (by rw [List.length_drop]; omega) fun z=>by have:=z.len; rw [List.length_drop] at this; omega
 rw [decide_eq_false c0]
 refine iteF ?_
 rw [aO]
 walk_at "w"
 refine ⟨by decide,?_⟩
 by_cases c1:x % 4=1
 · rw [decide_eq_true c1]
   refine iteT ⟨am (by show (1:Nat)≤1000; decide),fun l1 n1=>?_⟩
   have s1:Same H (upd H l1 (.lst [V.int 0])):=(Same.refl H).laid n1
   have u1:(upd H l1 (.lst [V.int 0])) l1=some (.lst [V.int 0]):=ad
   generalize upd H l1 (.lst [V.int 0])=H1 at*
   refine cP (s1 _ _ hC) u1 (by simp; omega) fun l hl=>?_
   have e:cl.map V.int++[V.int 0]=(cl++[0]).map V.int:=by simp
   rw [e]
   exact q l (cl++[0]) _ (s1.laid hl) ad (s1.free hl) (by simp; omega) fun z=>by have:=z.len; simp at this; omega
 rw [decide_eq_false c1]
 refine iteF ?_
 walk_at "w"
 refine fN hC fun l1 n1=>?_
 rw [gn _ (show (0:Int)≤(j:Nat) by omega),show ((j:Nat):Int).toNat=j from rfl,← List.map_take]
 have s1:Same H (upd H l1 (.lst ((cl.take j).map V.int))):=(Same.refl H).laid n1
 have u1:(upd H l1 (.lst ((cl.take j).map V.int))) l1=some (.lst ((cl.take j).map V.int)):=ad
 generalize upd H l1 (.lst ((cl.take j).map V.int))=H1 at*
 refine ixT (s1 _ _ hp) (v:=V.int g) rfl ?_
 walk_at "w"
 refine ⟨am (by show (2:Nat)≤1000; decide),fun l2 n2=>⟨by decide,?_⟩⟩
 have s2:Same H1 (upd H1 l2 (.lst [V.int (-1),V.int (g+1)])):=(Same.refl H1).laid n2
 have u2:(upd H1 l2 (.lst [V.int (-1),V.int (g+1)])) l2=some (.lst [V.int (-1),V.int (g+1)]):=ad
 generalize upd H1 l2 (.lst [V.int (-1),V.int (g+1)])=H2 at*
 obtain ⟨v,hv,ev⟩:∃ v:Int,¬ (0≤v∧v≤g)∧atI [V.int (-1),V.int (g+1)] (x % 2)=some (V.int v):=by
  rcases (show x % 2=0∨x % 2=1 by omega) with e | e
  · exact ⟨-1,by omega,by rw [e]; exact bd (j:=0) rfl⟩
  · exact ⟨g+1,by omega,by rw [e]; exact bd (j:=1) rfl⟩
 refine ixL u2 ev ?_
 refine ⟨am (by show (1:Nat)≤1000; decide),fun l3 n3=>?_⟩
 have s3:Same H2 (upd H2 l3 (.lst [V.int v])):=(Same.refl H2).laid n3
 have u3:(upd H2 l3 (.lst [V.int v])) l3=some (.lst [V.int v]):=ad
 generalize upd H2 l3 (.lst [V.int v])=H3 at*
 refine cP ((s2.trans s3) _ _ u1) u3 (by simp; omega) fun l4 n4=>?_
 have s4:Same H3 (upd H3 l4 (.lst ((cl.take j).map V.int++[V.int v]))):=(Same.refl H3).laid n4
 have u4:(upd H3 l4 (.lst ((cl.take j).map V.int++[V.int v]))) l4=some (.lst ((cl.take j).map V.int++[V.int v])):=ad
 generalize upd H3 l4 (.lst ((cl.take j).map V.int++[V.int v]))=H4 at*
 have s04:=((s1.trans s2).trans s3).trans s4
 walk_at "w"
 refine fN (s04 _ _ hC) fun l5 n5=>?_
 rw [show (((j:Nat):Int)+1)=((j+1:Nat):Int) by omega,p6 _ (by rw [List.length_map]; omega),← List.map_drop]
 have s5:Same H4 (upd H4 l5 (.lst ((cl.drop (j+1)).map V.int))):=(Same.refl H4).laid n5
 have u5:(upd H4 l5 (.lst ((cl.drop (j+1)).map V.int))) l5=some (.lst ((cl.drop (j+1)).map V.int)):=ad
 generalize upd H4 l5 (.lst ((cl.drop (j+1)).map V.int))=H5 at*
 refine cP (s5 _ _ u4) u5 (by simp; omega) fun l6 n6=>?_
 have e:(cl.take j).map V.int++[V.int v]++(cl.drop (j+1)).map V.int=(cl.take j++[v]++cl.drop (j+1)).map V.int:=by simp
 rw [e]
 have s05:=s04.trans s5
 exact q l6 _ _ (s05.laid n6) ad (s05.free n6) (by simp; omega) fun z=>hv (z.ok v (by simp))
theorem pI {c:RCl RK} {H1:Hp} {n:Nat} {σ0:St} {te:TE} {fin:Addr→Hp→Prop} {h w g:Int} (F:FlOk h w g) (hn:n≤12) (hk:∀ k,k≠.Rule→c.ok k=true)
  (he:∀ i H Q,i < n→Same H1 H→(∀ (r:RR) (H':Hp),Same H H'→r.Ok h w g→Q (.str r.txt) H')→te (σ0.set 1 (some (.int (0+(i:Int))))) H Q)
  (hd:∀ l rows H,H1 l=none→Same H1 H→H l=some (.lst ((rows.map RR.txt).map V.str))→rows.length=n→ic c h w g rows→fin l H):
  CompR (Itr 0 n) (gName 1) tTrue te fin σ0 H1:=by
 refine k9 (fun l i σ H=>(σ=σ0∨∃ cv,σ=σ0.set 1 cv)∧Same H1 H∧∃ rows:List RR,H l=some (.lst ((rows.map RR.txt).map V.str))∧rows.length=i∧∀ r∈rows,r.Ok h w g) (fun l hl=>⟨.inl rfl,(Same.refl H1).laid hl,[],by rw [ad]; rfl,rfl,fun _ h=>nomatch h⟩) ?_ (fun l σ H hl ⟨_,s1,rows,el,hl2,hP⟩=>hd l rows H hl s1 el hl2 ⟨F,by omega,hP,fun r hr=>hk _ (hP r hr).k0⟩)
 rintro l i σ H hl hi ⟨hσ,s1,rows,el,hl2,hP⟩
 rw [bV]
 have e:σ.set 1 (some (.int (0+(i:Int))))=σ0.set 1 (some (.int (0+(i:Int)))):=by
  rcases hσ with rfl | ⟨cv,rfl⟩
  · rfl
  · exact List.set_set ..
 rw [e,gi,if_pos rfl]
 refine he i H _ hi s1 fun r H2 s2 hr=>⟨_,s2 _ _ el,by simp; exact aR (by omega),.inr ⟨_,rfl⟩,(s1.trans s2).own hl,rows++[r],by rw [ad]; simp,by simp [hl2],fun z hz=>?_⟩
 rcases List.mem_append.mp hz with hz | hz
 · exact hP z hz
 · rw [List.mem_singleton.mp hz]; exact hr
def pk (K:PySem.W.Frag) (c:RCl RK) (d:RCl PzK):Sp:=fun vs H Q _=>∃ (a:Addr) (ns:List Int),vs=[.ref a]∧SqL K H a (ns.map V.int)∧ns.length≤63∧(∀ k,k≠.Rule→c.ok k=true)∧d.ok .Puzzle=true∧∀ H',Q (.bl true) H'
def mP (K:PySem.W.Frag):Sp:=fun vs H Q _=>∃ (a:Addr) (ns:List Int),vs=[.ref a]∧SqL K H a (ns.map V.int)∧ns.length≤63∧∀ H',Q (.bl true) H'
theorem vd {K:PySem.W.Frag} {c:RCl RK} {d:RCl PzK} {vs:List V} {H:Hp} {Q:VK} {E:XK} (h:pk K c d vs H Q E):vs.length=1:=by
 obtain ⟨_,_,rfl,_⟩:=h; rfl
def iw (K:PySem.W.Frag) (c:RCl RK) (d:RCl PzK):TS:=
 (tSeq (tAsg (tMake (d.A .Puzzle) (az K c d) [] E0 (tCons (tVar 1) (tCons (tCB kList (tCons (tVar 3) tNil)) (tCons (tCB kList (tCons (tVar 4) tNil)) tNil)))) (gName 11))
  (tSeq (tIfS (tTest (tOp (cNe K) (tCall (bD K c d) [] E0 (tCons (tVar 11) (tCons (tCall (aT K) [] E0 (tCons (tVar 1) (tCons (tVar 4) (tCons (tCall (aH K) [] E0 (tCons (tVar 0) (tCons (tC (.int 54)) tNil))) tNil)))) tNil))) (tLst (tCons (tC (.bl false)) (tCons (tC (.bl false)) (tCons (tC (.bl true)) tNil)))))) (tRet (tC (.bl false))) tNext)
  (tRet (tAndV (tOp (cEq K) (fD d d.ok "lines" (fe K c d) (tVar 11) tNil) (tVar 3)) (tOp (cEq K) (fD d d.ok "clues" (ip K c d) (tVar 11) tNil) (tVar 4))))))
def iy (K:PySem.W.Frag) (c:RCl RK) (d:RCl PzK):TS:=
 (tSeq (tIfS (tTest (tOp (cNe K) (tCall (bj K c d) [] E0 (tCons (tVar 6) (tCons (tCB kList (tCons (tVar 7) tNil)) (tCons (tCB kList (tCons (tVar 8) tNil)) tNil)))) (tVar 9))) (tRet (tC (.bl false))) tNext)
  (iw K c d))
def iz (K:PySem.W.Frag) (c:RCl RK) (d:RCl PzK):TS:=
 (tSeq (tIfS (tTest (tOp (cIn K false) (tC (.int 0)) (tVar 5))) (tSeq (tAsg (tCall (bb K) [] E0 (tCons (tVar 1) (tCons (tCall (aH K) [] E0 (tCons (tVar 0) (tCons (tC (.int 55)) tNil))) tNil))) (gName 6))
  (tAsg (tLst (tCons (tC (.bl true)) (tCons (tC (.bl false)) (tCons (tC (.bl false)) tNil)))) (gName 9))) tNext)
  (iy K c d))
def iA (K:PySem.W.Frag) (c:RCl RK) (d:RCl PzK):TS:=
 (tSeq (tIfS (tTest (tOp (cIn K false) (tC (.int 1)) (tVar 5))) (tSeq (tAsg (tOp cAdd (tVar 7) (tComp [none,none,some 3] (fK (tCons (tOp cSub (tC (.int 13)) (tCB kLen (tCons (tVar 7) tNil))) tNil)) (gName 1) tTrue (tOp cIx (tVar 2) (tC (.int 0))))) (gName 7))
  (tAsg (tLst (tCons (tC (.bl false)) (tCons (tC (.bl false)) (tCons (tC (.bl true)) tNil)))) (gName 9))) tNext)
  (iz K c d))
def iB (K:PySem.W.Frag) (c:RCl RK) (d:RCl PzK):TS:=
 (tSeq (tIfS (tTest (tOp (cIn K false) (tC (.int 2)) (tVar 5))) (tSeq (tAsg (tOp cMod (tCall (aH K) [] E0 (tCons (tVar 0) (tCons (tC (.int 56)) tNil))) (tCB kLen (tCons (tVar 7) tNil))) (gName 10))
  (tSeq (tAsg (tOp cAdd (tOp cAdd (tSl dZ (tVar 7) bI (tPart (tVar 10))) (tLst (tCons (tCall (bg K) [] E0 (tCons (tVar 1) (tCons (tCall (aH K) [] E0 (tCons (tVar 0) (tCons (tC (.int 56)) tNil))) tNil))) tNil))) (tSl dZ (tVar 7) (tPart (tOp cAdd (tVar 10) (tC (.int 1)))) bI)) (gName 7))
  (tAsg (tLst (tCons (tC (.bl false)) (tCons (tC (.bl true)) (tCons (tC (.bl false)) tNil)))) (gName 9)))) tNext)
  (iA K c d))
def jg (K:PySem.W.Frag) (c:RCl RK) (d:RCl PzK):TS:=
 (tSeq (tIfS (tTest (tOp (cIn K false) (tC (.int 3)) (tVar 5))) (tSeq (tAsg (tCall (aT K) [] E0 (tCons (tVar 1) (tCons (tVar 4) (tCons (tCall (aH K) [] E0 (tCons (tVar 0) (tCons (tC (.int 57)) tNil))) tNil)))) (gName 8))
  (tAsg (tLst (tCons (tC (.bl false)) (tCons (tC (.bl false)) (tCons (tC (.bl true)) tNil)))) (gName 9))) tNext)
  (iB K c d))
def ni (K:PySem.W.Frag) (c:RCl RK) (d:RCl PzK):TS:=
 (tSeq (tAsg (tLst (tCons (tOp cMod (tCall (aH K) [] E0 (tCons (tVar 0) (tCons (tC (.int 52)) tNil))) (tC (.int 4))) (tCons (tOp cMod (tCall (aH K) [] E0 (tCons (tVar 0) (tCons (tC (.int 53)) tNil))) (tC (.int 5))) tNil))) (gName 5))
  (tSeq (tAsg (tVar 1) (gName 6))
  (tSeq (tAsg (tCB kList (tCons (tVar 3) tNil)) (gName 7))
  (tSeq (tAsg (tCB kList (tCons (tVar 4) tNil)) (gName 8))
  (tSeq (tAsg (tLst tNil) (gName 9))
  (jg K c d))))))
def lL (K:PySem.W.Frag) (c:RCl RK) (d:RCl PzK):TS:=
 (tSeq (tAsg (tCall (bW K) [] E0 (tCons (tVar 0) tNil)) (gName 1))
  (tSeq (tAsg (tCall (bi K) [] E0 (tCons (tVar 0) (tCons (tVar 1) (tCons (tC (.int 20)) tNil)))) (gName 2))
  (tSeq (tAsg (tComp [none,none,some 2,some 1,some 0] (fK (tCons (tOp cAdd (tC (.int 1)) (tOp cMod (tCall (aH K) [] E0 (tCons (tVar 0) (tCons (tC (.int 3)) tNil))) (tC (.int 12)))) tNil)) (gName 1) tTrue (tCall (bM K) [] E0 (tCons (tVar 3) (tCons (tVar 2) (tCons (tCall (aH K) [] E0 (tCons (tVar 4) (tCons (tOp cAdd (tC (.int 4)) (tVar 1)) tNil))) tNil))))) (gName 3))
  (tSeq (sComp 4 [none,none,none,some 0] (iEnum K (tCons (tVar 2) tNil)) (gTup K 2 (gCons (gName 1) (gCons (gName 2) gNil))) tTrue (tOp cMul (tVar 2) (tOp cMod (tOp cDiv (tCall (aH K) [] E0 (tCons (tVar 3) (tCons (tOp cAdd (tC (.int 36)) (tVar 1)) tNil))) (tC (.int 7))) (tC (.int 2)))))
  (ni K c d)))))
structure L20 (K:PySem.W.Frag) (H:Hp) (c:RCl RK) (d:RCl PzK) (a p Ll Cl:Addr) (ns:List Int) (h w g:Int) (rows:List RR) (cl:List Int):Prop where
 hS:SqL K H a (ns.map V.int)
 hn:ns.length≤63
 hc:∀ k,k≠.Rule→c.ok k=true
 ok:d.ok .Puzzle=true
 hp:IsFl H p h w g
 hL:H Ll=some (.lst ((rows.map RR.txt).map V.str))
 hC:H Cl=some (.lst (cl.map V.int))
 R:ic c h w g rows
 C:CluesOk h w g cl
 r1:1≤rows.length
theorem L20.same {K:PySem.W.Frag} {H H':Hp} {c:RCl RK} {d:RCl PzK} {a p Ll Cl:Addr} {ns:List Int} {h w g:Int} {rows:List RR} {cl:List Int} (x:L20 K H c d a p Ll Cl ns h w g rows cl) (s:Same H H'):L20 K H' c d a p Ll Cl ns h w g rows cl:=
 ⟨s.seq x.hS,x.hn,x.hc,x.ok,s _ _ x.hp,s _ _ x.hL,s _ _ x.hC,x.R,x.C,x.r1⟩
abbrev iC (i:Nat):List Bool:=[decide (i=0),decide (i=1),decide (i=2)]
section
variable {K:PySem.W.Frag} {c:RCl RK} {d:RCl PzK} {H:Hp} {Q:VK} {a p f Ll Cl Ft Gd Rw Sg Du:Addr} {ns:List Int} {h w g:Int} {rows:List RR} {cl:List Int} (X:L20 K H c d a p Ll Cl ns h w g rows cl) (k:∀ H',Q (.bl true) H')
include X k
theorem qJ {v10:Option V}:iw K c d { nx:=fun _ H'=>Q .non H',rt:=Q } [some (.ref a),some (.ref p),some (.ref f),some (.ref Ll),some (.ref Cl),some (.ref Ft),some (.ref Gd),some (.ref Rw),some (.ref Sg),some (.ref Du),v10,none] H:=by
 have hcl:cl.length≤16:=by have:=X.C.len; have:=X.R.F.m; omega
 have sok:∀ t∈rows.map RR.txt,PyData.strOk t=true:=fun t ht=>by
  obtain ⟨r,hr,rfl⟩:=List.mem_map.mp ht
  exact RR.sok X.R.F (X.R.ok r hr)
 unfold iw
 walk_at "w"
 refine fB X.hL fun A hA=>?_
 have s1:Same H (upd H A (.lst ((rows.map RR.txt).map V.str))):=(Same.refl H).laid hA
 have e1:(upd H A (.lst ((rows.map RR.txt).map V.str))) A=some (.lst ((rows.map RR.txt).map V.str)):=ad
 generalize upd H A (.lst ((rows.map RR.txt).map V.str))=H1 at*
 refine fB (s1 _ _ X.hC) fun B hB=>?_
 have s2:Same H1 (upd H1 B (.lst (cl.map V.int))):=(Same.refl H1).laid hB
 have e2:(upd H1 B (.lst (cl.map V.int))) B=some (.lst (cl.map V.int)):=ad
 generalize upd H1 B (.lst (cl.map V.int))=H2 at*
 have X2:=X.same (s1.trans s2)
 refine Mk20.mk' (Mk20.good X.ok X.hc X2.hp (s2 _ _ e1) e2 X.R (by omega) (fun z=>absurd X.C z) fun _ P L G H3 s3 hP hL hG Y=>?_)
 obtain ⟨dx,p0,rs,q1,q2,q3⟩:=id Y.ex
 have X3:=X2.same s3
 walk_at "w"
 rw [aO]
 walk_at "w"
 refine ⟨a,ns,54,rfl,X3.hS,X.hn,by decide,by decide,?_⟩
 walk_at "w"
 refine ⟨p,Cl,h,w,g,_,cl,rfl,X3.hp,X.R.F,X3.hC,X.C,fun b cl2 H4 s4 eb hb hb2 hb3=>?_⟩
 walk_at "w"
 refine ⟨P,L,G,b,h,w,g,rows,cl,cl2,rfl,Y.same s4,X.hc,eb,hb2,hb3,fun l H5 s5 el=>?_⟩
 walk_at "w"
 refine ⟨am (by show (3:Nat)≤1000; decide),fun D hD=>?_⟩
 have s6:Same H5 (upd H5 D (.lst [V.bl false,V.bl false,V.bl true])):=(Same.refl H5).laid hD
 have e6:(upd H5 D (.lst [V.bl false,V.bl false,V.bl true])) D=some (.lst (([false,false,true]:List Bool).map V.bl)):=ad
 generalize upd H5 D (.lst [V.bl false,V.bl false,V.bl true])=H6 at*
 refine rK (xs:=[false,false,true]) (s6 _ _ el) e6 ?_
 walk_at "w"
 have s46:=(s4.trans s5).trans s6
 have Y6:=Y.same s46
 have X6:=X3.same s46
 refine methE (k:=.Puzzle) rfl Y.ok (s46 _ _ q1) (by rfl) ?_
 walk_at "w"
 refine ⟨P,L,G,h,w,g,rows,cl,rfl,Y6,fun l7 H7 s7 n7 e7=>?_⟩
 walk_at "w"
 refine rQ e7 (s7 _ _ X6.hL) sok sok ?_
 rw [decide_eq_true rfl]
 refine ⟨_,rfl,iteT ?_⟩
 walk_at "w"
 refine methE (k:=.Puzzle) rfl Y.ok (s7 _ _ (s46 _ _ q1)) (by rfl) ?_
 walk_at "w"
 refine ⟨P,L,G,h,w,g,rows,cl,rfl,Y6.same s7,fun l8 n8=>?_⟩
 refine sU ad ((Same.refl H7).laid n8 _ _ (s7 _ _ X6.hC)) ?_
 rw [decide_eq_true rfl]
 exact k _
theorem lM {h' w' g':Int} {xs:List V} {os:List (Option RR)} {cl2:List Int} {i:Nat} {v10:Option V} (hg:IsFl H Gd h' w' g') (hR:H Rw=some (.lst xs)) (hSg:H Sg=some (.lst (cl2.map V.int))) (hx:xs.length≤100) (hc2:cl2.length≤100) (hLn:FlOk h' w' g'→Lns H h' w' g' xs os) (D:Due20 h' w' g' xs os cl2 i) (hD:H Du=some (.lst ((iC i).map V.bl))):
  iy K c d { nx:=fun _ H'=>Q .non H',rt:=Q } [some (.ref a),some (.ref p),some (.ref f),some (.ref Ll),some (.ref Cl),some (.ref Ft),some (.ref Gd),some (.ref Rw),some (.ref Sg),some (.ref Du),v10,none] H:=by
 unfold iy
 rw [aF,aO]
 walk_at "w"
 refine fB hR fun A hA=>?_
 have s1:Same H (upd H A (.lst xs)):=(Same.refl H).laid hA
 have e1:(upd H A (.lst xs)) A=some (.lst xs):=ad
 generalize upd H A (.lst xs)=H1 at*
 refine fB (s1 _ _ hSg) fun B hB=>?_
 have s2:Same H1 (upd H1 B (.lst (cl2.map V.int))):=(Same.refl H1).laid hB
 have e2:(upd H1 B (.lst (cl2.map V.int))) B=some (.lst (cl2.map V.int)):=ad
 generalize upd H1 B (.lst (cl2.map V.int))=H2 at*
 have s12:=s1.trans s2
 refine ⟨Gd,A,B,h',w',g',xs,os,cl2,i,rfl,X.ok,X.hc,s12 _ _ hg,s2 _ _ e1,e2,hx,hc2,fun F=>(hLn F).same s12,D,fun l H3 s3 el=>?_⟩
 have s13:=s12.trans s3
 refine rK (xs:=iC i) el (s13 _ _ hD) ?_
 rw [decide_eq_true rfl]
 refine ⟨_,rfl,iteF ?_⟩
 exact qJ (X.same s13) k
end
section
variable {K:PySem.W.Frag} {c:RCl RK} {d:RCl PzK} {H:Hp} {Q:VK} {a p f Ll Cl Ft Gd Rw Sg Du:Addr} {ns:List Int} {h w g:Int} {rows:List RR} {cl:List Int} {fs:List Int} (X:L20 K H c d a p Ll Cl ns h w g rows cl) (hF:H Ft=some (.lst (fs.map V.int))) (k:∀ H',Q (.bl true) H')
include X hF k
theorem lN {xs:List V} {os:List (Option RR)} {cl2:List Int} {v10:Option V} (hR:H Rw=some (.lst xs)) (hSg:H Sg=some (.lst (cl2.map V.int))) (hx:xs.length≤100) (hc2:cl2.length≤100) (hLn:Lns H h w g xs os) (D:¬ (0:Int)∈fs→∃ i,Due20 h w g xs os cl2 i∧H Du=some (.lst ((iC i).map V.bl))):
  iz K c d { nx:=fun _ H'=>Q .non H',rt:=Q } [some (.ref a),some (.ref p),some (.ref f),some (.ref Ll),some (.ref Cl),some (.ref Ft),some (.ref p),some (.ref Rw),some (.ref Sg),some (.ref Du),v10,none] H:=by
 unfold iz
 rw [aF,aO]
 walk_at "w"
 rw [oF hF]
 by_cases hm:(0:Int)∈fs
 · rw [decide_eq_true hm]
   refine ⟨_,rfl,iteT ?_⟩
   walk_at "w"
   refine ⟨a,ns,55,rfl,X.hS,X.hn,by decide,by decide,?_⟩
   walk_at "w"
   refine ⟨p,h,w,g,_,rfl,X.hp,fun q h' w' g' H1 s1 eq nF=>?_⟩
   walk_at "w"
   refine ⟨am (by show (3:Nat)≤1000; decide),fun T hT=>?_⟩
   have s2:Same H1 (upd H1 T (.lst [V.bl true,V.bl false,V.bl false])):=(Same.refl H1).laid hT
   have e2:(upd H1 T (.lst [V.bl true,V.bl false,V.bl false])) T=some (.lst ((iC 0).map V.bl)):=ad
   generalize upd H1 T (.lst [V.bl true,V.bl false,V.bl false])=H2 at*
   have s12:=s1.trans s2
   exact lM (X.same s12) k (s2 _ _ eq) (s12 _ _ hR) (s12 _ _ hSg) hx hc2 (os:=os) (fun z=>absurd z nF) (.fl nF) e2
 · obtain ⟨i,D,eD⟩:=D hm
   rw [decide_eq_false hm]
   refine ⟨_,rfl,iteF ?_⟩
   exact lM X k X.hp hR hSg hx hc2 (fun _=>hLn) D eD
theorem lO {xs:List V} {os:List (Option RR)} {cl2:List Int} {v10:Option V} (hR:H Rw=some (.lst xs)) (hSg:H Sg=some (.lst (cl2.map V.int))) (hx:xs.length≤12) (hc2:cl2.length≤100) (hLn:Lns H h w g xs os) (D:¬ (0:Int)∈fs→¬ (1:Int)∈fs→∃ i,Due20 h w g xs os cl2 i∧H Du=some (.lst ((iC i).map V.bl))):
  iA K c d { nx:=fun _ H'=>Q .non H',rt:=Q } [some (.ref a),some (.ref p),some (.ref f),some (.ref Ll),some (.ref Cl),some (.ref Ft),some (.ref p),some (.ref Rw),some (.ref Sg),some (.ref Du),v10,none] H:=by
 have hn:=X.R.n
 have hr1:=X.r1
 unfold iA
 rw [aF,aO]
 walk_at "w"
 rw [oF hF]
 by_cases hm:(1:Int)∈fs
 · rw [decide_eq_true hm]
   refine ⟨_,rfl,iteT ?_⟩
   walk_at "w"
   rw [fM hR]
   walk_at "w"
   refine ⟨_,rfl,by omega,by omega,?_⟩
   obtain ⟨r0,hr0⟩:∃ r0,rows[0]? =some r0:=⟨_,List.getElem?_eq_getElem (by omega)⟩
   have e0:atI ((rows.map RR.txt).map V.str) 0=some (V.str r0.txt):=bd (j:=0) (by rw [List.getElem?_map,List.getElem?_map,hr0]; rfl)
   refine kb (fun _=>true) (fun _=>V.str r0.txt) (by omega) ?_ ?_ ?_
   · intro i H1 R hi s1 k1
     exact k1 _ (Same.refl _)
   · intro i H1 Q1 hi hb s1 k1
     show tOp cIx _ _ [none,some (.int (0+(i:Int))),some (.ref Ll)] H1 Q1
     walk_at "w"
     exact ixL (s1 _ _ X.hL) e0 (k1 _ (Same.refl _))
   · intro l H1 hl s1 el
     rw [cJ,List.map_const',List.length_range] at el
     refine cP (s1 _ _ hR) el (by rw [List.length_replicate]; omega) fun A hA=>?_
     have hlen:(xs++List.replicate ((13:Int) - ((xs.length:Nat):Int)).toNat (V.str r0.txt)).length=13:=by
      rw [List.length_append,List.length_replicate]; omega
     have L2:Lns H h w g (xs++List.replicate ((13:Int) - ((xs.length:Nat):Int)).toNat (V.str r0.txt)) (os++List.replicate ((13:Int) - ((xs.length:Nat):Int)).toNat (some r0)):=by
      refine ⟨by rw [List.length_append,List.length_append,List.length_replicate,List.length_replicate,hLn.len],fun i v o h1 h2=>?_⟩
      by_cases hi:i < xs.length
      · rw [List.getElem?_append_left hi] at h1
        rw [List.getElem?_append_left (by rw [← hLn.len]; exact hi)] at h2
        exact hLn.at_ i v o h1 h2
      · rw [List.getElem?_append_right (by omega)] at h1
        rw [List.getElem?_append_right (by rw [← hLn.len]; omega)] at h2
        have m1:=List.eq_of_mem_replicate (List.mem_of_getElem? h1)
        have m2:=List.eq_of_mem_replicate (List.mem_of_getElem? h2)
        subst m1 m2
        exact ⟨rfl,X.R.ok r0 (List.mem_of_getElem? hr0)⟩
     generalize xs++List.replicate ((13:Int) - ((xs.length:Nat):Int)).toNat (V.str r0.txt)=ys at*
     generalize os++List.replicate ((13:Int) - ((xs.length:Nat):Int)).toNat (some r0)=ps at*
     have s2:Same H1 (upd H1 A (.lst ys)):=(Same.refl H1).laid hA
     have e2:(upd H1 A (.lst ys)) A=some (.lst ys):=ad
     generalize upd H1 A (.lst ys)=H2 at*
     walk_at "w"
     refine ⟨am (by show (3:Nat)≤1000; decide),fun T hT=>?_⟩
     have s3:Same H2 (upd H2 T (.lst [V.bl false,V.bl false,V.bl true])):=(Same.refl H2).laid hT
     have e3:(upd H2 T (.lst [V.bl false,V.bl false,V.bl true])) T=some (.lst ((iC 2).map V.bl)):=ad
     generalize upd H2 T (.lst [V.bl false,V.bl false,V.bl true])=H3 at*
     have s13:=(s1.trans s2).trans s3
     exact lN (X.same s13) (s13 _ _ hF) k (s3 _ _ e2) (s13 _ _ hSg) (by omega) hc2 (L2.same s13) fun _=>⟨2,.many X.R.F (by omega),e3⟩
 · rw [decide_eq_false hm]
   refine ⟨_,rfl,iteF ?_⟩
   exact lN X hF k hR hSg (by omega) hc2 hLn fun z=>D z hm
theorem lP {cl2:List Int} (hR:H Rw=some (.lst ((rows.map RR.txt).map V.str))) (hSg:H Sg=some (.lst (cl2.map V.int))) (hc2:cl2.length≤100) (D:¬ (0:Int)∈fs→¬ (1:Int)∈fs→¬ (2:Int)∈fs→¬ CluesOk h w g cl2∧H Du=some (.lst ((iC 2).map V.bl))):
  iB K c d { nx:=fun _ H'=>Q .non H',rt:=Q } [some (.ref a),some (.ref p),some (.ref f),some (.ref Ll),some (.ref Cl),some (.ref Ft),some (.ref p),some (.ref Rw),some (.ref Sg),some (.ref Du),none,none] H:=by
 have hn:=X.R.n
 have hr1:=X.r1
 have L0:Lns H h w g ((rows.map RR.txt).map V.str) (rows.map some):=pi X.R.ok
 have hl:((rows.map RR.txt).map V.str).length=rows.length:=by simp
 have he:∃ xs,xs=(rows.map RR.txt).map V.str:=⟨_,rfl⟩
 unfold iB
 rw [aF,aO]
 walk_at "w"
 rw [oF hF]
 by_cases hm:(2:Int)∈fs
 · rw [decide_eq_true hm]
   refine ⟨_,rfl,iteT ?_⟩
   obtain ⟨xs,ex⟩:=he
   rw [← ex] at hR L0 hl
   walk_at "w"
   refine ⟨a,ns,56,rfl,X.hS,X.hn,by decide,by decide,?_⟩
   walk_at "w"
   rw [fM hR]
   walk_at "w"
   refine ⟨by omega,?_⟩
   have j0:=Int.emod_nonneg (lawAt ns 56) (show (xs.length:Int)≠0 by omega)
   have j1:=Int.emod_lt_of_pos (lawAt ns 56) (show (0:Int) < xs.length by omega)
   obtain ⟨j,ej⟩:∃ j:Nat,lawAt ns 56 % (xs.length:Int)=j:=⟨_,(Int.toNat_of_nonneg j0).symm⟩
   rw [ej] at j1 ⊢
   refine fN hR fun l1 n1=>?_
   rw [gn _ (show (0:Int)≤(j:Nat) by omega),show ((j:Nat):Int).toNat=j from rfl]
   have s1:Same H (upd H l1 (.lst (xs.take j))):=(Same.refl H).laid n1
   have u1:(upd H l1 (.lst (xs.take j))) l1=some (.lst (xs.take j)):=ad
   generalize upd H l1 (.lst (xs.take j))=H1 at*
   have X1:=X.same s1
   refine ⟨a,ns,56,rfl,X1.hS,X.hn,by decide,by decide,?_⟩
   walk_at "w"
   refine ⟨p,h,w,g,_,rfl,X1.hp,X.R.F,fun v H2 s2 bv=>?_⟩
   walk_at "w"
   refine ⟨am (by show (1:Nat)≤1000; decide),fun l3 n3=>?_⟩
   have s3:Same H2 (upd H2 l3 (.lst [v])):=(Same.refl H2).laid n3
   have u3:(upd H2 l3 (.lst [v])) l3=some (.lst [v]):=ad
   generalize upd H2 l3 (.lst [v])=H3 at*
   have s23:=s2.trans s3
   refine cP (s23 _ _ u1) u3 (by simp; omega) fun l4 n4=>?_
   have s4:Same H3 (upd H3 l4 (.lst (xs.take j++[v]))):=(Same.refl H3).laid n4
   have u4:(upd H3 l4 (.lst (xs.take j++[v]))) l4=some (.lst (xs.take j++[v])):=ad
   generalize upd H3 l4 (.lst (xs.take j++[v]))=H4 at*
   have s04:=(s1.trans s23).trans s4
   refine fN (s04 _ _ hR) fun l5 n5=>?_
   rw [show (((j:Nat):Int)+1)=((j+1:Nat):Int) by omega,p6 _ (by omega)]
   have s5:Same H4 (upd H4 l5 (.lst (xs.drop (j+1)))):=(Same.refl H4).laid n5
   have u5:(upd H4 l5 (.lst (xs.drop (j+1)))) l5=some (.lst (xs.drop (j+1))):=ad
   generalize upd H4 l5 (.lst (xs.drop (j+1)))=H5 at*
   refine cP (s5 _ _ u4) u5 (by simp; omega) fun l6 n6=>?_
   have hlen:(xs.take j++[v]++xs.drop (j+1)).length=xs.length:=by simp; omega
   have ol:=L0.len
   have L1:Lns H2 h w g (xs.take j++[v]++xs.drop (j+1)) ((rows.map some).take j++[none]++(rows.map some).drop (j+1)):=by
    have L2:=(L0.same s1).same s2
    refine ⟨by simp at ol ⊢; omega,fun i y o h1 h2=>?_⟩
    have a1:(xs.take j).length=j:=by rw [List.length_take]; omega
    have a2:((rows.map some).take j).length=j:=by rw [List.length_take]; omega
    rw [List.append_assoc] at h1 h2
    by_cases hi:i < j
    · rw [List.getElem?_append_left (by omega),List.getElem?_take_of_lt hi] at h1
      rw [List.getElem?_append_left (by omega),List.getElem?_take_of_lt hi] at h2
      exact L2.at_ i y o h1 h2
    · rw [List.getElem?_append_right (by omega),a1] at h1
      rw [List.getElem?_append_right (by omega),a2] at h2
      by_cases hij:i=j
      · subst hij
        rw [Nat.sub_self] at h1 h2
        cases h1
        cases h2
        exact bv
      · obtain ⟨m,em⟩:∃ m,i - j=m+1:=⟨i - j - 1,by omega⟩
        rw [em] at h1 h2
        have h1:(xs.drop (j+1))[m]? =some y:=h1
        have h2:((rows.map some).drop (j+1))[m]? =some o:=h2
        rw [List.getElem?_drop] at h1 h2
        exact L2.at_ _ y o h1 h2
   have hno:(none:Option RR)∈((rows.map some).take j++[none]++(rows.map some).drop (j+1)):=by simp
   generalize xs.take j++[v]++xs.drop (j+1)=ys at*
   generalize ((rows.map some).take j++[none]++(rows.map some).drop (j+1))=ps at*
   have s6:Same H5 (upd H5 l6 (.lst ys)):=(Same.refl H5).laid n6
   have u6:(upd H5 l6 (.lst ys)) l6=some (.lst ys):=ad
   generalize upd H5 l6 (.lst ys)=H6 at*
   walk_at "w"
   refine ⟨am (by show (3:Nat)≤1000; decide),fun T hT=>?_⟩
   have s7:Same H6 (upd H6 T (.lst [V.bl false,V.bl true,V.bl false])):=(Same.refl H6).laid hT
   have e7:(upd H6 T (.lst [V.bl false,V.bl true,V.bl false])) T=some (.lst ((iC 1).map V.bl)):=ad
   generalize upd H6 T (.lst [V.bl false,V.bl true,V.bl false])=H7 at*
   have s07:=((s04.trans s5).trans s6).trans s7
   have s27:=(((s3.trans s4).trans s5).trans s6).trans s7
   exact lO (X.same s07) (s07 _ _ hF) k (s7 _ _ u6) (s07 _ _ hSg) (by omega) hc2 (L1.same s27) fun _ _=>⟨1,.rule X.R.F (by omega) hno,e7⟩
 · rw [decide_eq_false hm]
   refine ⟨_,rfl,iteF ?_⟩
   exact lO X hF k hR hSg (by omega) hc2 L0 fun z0 z1=>⟨2,.clue rows X.R.F (by omega) rfl (D z0 z1 hm).1,(D z0 z1 hm).2⟩
theorem sd (hR:H Rw=some (.lst ((rows.map RR.txt).map V.str))) (hSg:H Sg=some (.lst (cl.map V.int))) (D:(0:Int)∈fs∨(1:Int)∈fs∨(2:Int)∈fs∨(3:Int)∈fs):
  jg K c d { nx:=fun _ H'=>Q .non H',rt:=Q } [some (.ref a),some (.ref p),some (.ref f),some (.ref Ll),some (.ref Cl),some (.ref Ft),some (.ref p),some (.ref Rw),some (.ref Sg),some (.ref Du),none,none] H:=by
 have hcl:cl.length≤16:=by have:=X.C.len; have:=X.R.F.m; omega
 unfold jg
 rw [aF,aO]
 walk_at "w"
 rw [oF hF]
 by_cases hm:(3:Int)∈fs
 · rw [decide_eq_true hm]
   refine ⟨_,rfl,iteT ?_⟩
   walk_at "w"
   refine ⟨a,ns,57,rfl,X.hS,X.hn,by decide,by decide,?_⟩
   walk_at "w"
   refine ⟨p,Cl,h,w,g,_,cl,rfl,X.hp,X.R.F,X.hC,X.C,fun b cl2 H1 s1 eb hb hb2 hb3=>?_⟩
   walk_at "w"
   refine ⟨am (by show (3:Nat)≤1000; decide),fun T hT=>?_⟩
   have s2:Same H1 (upd H1 T (.lst [V.bl false,V.bl false,V.bl true])):=(Same.refl H1).laid hT
   have e2:(upd H1 T (.lst [V.bl false,V.bl false,V.bl true])) T=some (.lst ((iC 2).map V.bl)):=ad
   generalize upd H1 T (.lst [V.bl false,V.bl false,V.bl true])=H2 at*
   have s12:=s1.trans s2
   exact lP (X.same s12) (s12 _ _ hF) k (s12 _ _ hR) (s2 _ _ eb) hb2 fun _ _ _=>⟨hb3,e2⟩
 · rw [decide_eq_false hm]
   refine ⟨_,rfl,iteF ?_⟩
   exact lP X hF k hR hSg (by omega) fun z0 z1 z2=>(by rcases D with z | z | z | z <;> contradiction)
end
theorem vf {K:PySem.W.Frag} {c:RCl RK} {d:RCl PzK} {vs:List V} {H:Hp} {Q:VK} {E:XK} (h:pk K c d vs H Q E):lL K c d { nx:=fun _ H'=>Q .non H',rt:=Q } (start ["_law_script","_law_floor_here","_law_filling_here","_law_lines","_law_clues","_law_faults","_law_ground","_law_rows","_law_signs","_law_due","_law_at_here","_law_puzzle"] vs) H:=by
 obtain ⟨a,ns,rfl,hS,hn,hk,ok,k⟩:=h
 show lL K c d _ [some (.ref a),none,none,none,none,none,none,none,none,none,none,none] H
 unfold lL
 walk_at "w"
 refine ⟨a,ns,rfl,hS,hn,fun p hp=>?_⟩
 have F:=lawFl ns
 generalize lawH ns=h at*
 generalize lawW ns=w at*
 generalize lawG ns=g at*
 obtain ⟨h0,h1,w0,w1,m16,g0,g1⟩:=id F
 have mpos:0≤h*w:=Int.mul_nonneg (by omega) (by omega)
 have s1:Same H (upd H p (.tup [.int h,.int w,.int g])):=(Same.refl H).laid hp
 have ep:IsFl (upd H p (.tup [.int h,.int w,.int g])) p h w g:=ad
 generalize upd H p (.tup [.int h,.int w,.int g])=H1 at*
 walk_at "w"
 refine ⟨a,p,ns,20,h,w,g,rfl,s1.seq hS,hn,by decide,by decide,ep,F,fun f H2 xs s2 hf ef hl hx=>?_⟩
 have s12:=s1.trans s2
 walk_at "w"
 refine ⟨a,ns,3,rfl,s12.seq hS,hn,by decide,by decide,?_⟩
 walk_at "w"
 have c0:=Int.emod_nonneg (lawAt ns 3) (show (12:Int)≠0 by decide)
 have c1:=Int.emod_lt_of_pos (lawAt ns 3) (show (0:Int) < 12 by decide)
 refine ⟨by decide,_,rfl,by omega,by omega,?_⟩
 refine pI (h:=h) (w:=w) (g:=g) F (by omega) hk ?_ ?_
 · intro i H3 Q3 hi s3 k3
   show tCall _ _ _ _ [none,some (.int (0+(i:Int))),some (.ref f),some (.ref p),some (.ref a)] H3 Q3
   walk_at "w"
   refine ⟨a,ns,_,rfl,(s12.trans s3).seq hS,hn,by omega,by omega,?_⟩
   walk_at "w"
   exact ⟨p,f,h,w,g,_,xs,rfl,⟨s3 _ _ (s2 _ _ ep),F,s3 _ _ ef,hl,fun x hm=>by have:=hx x hm; omega⟩,k3⟩
 · intro Ll rows H3 hLl s3 eLl hlen R
   have s13:=s12.trans s3
   have hx6:∀ x∈xs,0≤x∧x≤g:=fun x hm=>by have:=hx x hm; omega
   have ef3:=s3 _ _ ef
   walk_at "w"
   refine ⟨f,rfl,⟨_,SqL.of ef3⟩,?_⟩
   refine qp (xs:=xs.map V.int) (fun _=>true) (fun i=>.int (xs.getD i 0*(lawAt ns (36+(i:Int)) / 7 % 2))) (by rw [List.length_map]; omega) (by decide) (SqL.of ef3) ?_ ?_ ?_
   · intro i x H1 R hi s1 k1
     exact k1 _ (Same.refl _)
   · intro i x H4 Q1 hi hb s4 k1
     obtain ⟨z,hz,rfl⟩:=fq hi
     have q1:=k1 _ (Same.refl H4)
     rw [jI hz] at q1
     have hlt:=(List.getElem?_eq_some_iff.mp hz).1
     have hzb:=hx6 z (List.mem_of_getElem? hz)
     show tOp cMul _ _ [none,some (.int (i:Int)),some (.int z),some (.ref a)] H4 Q1
     walk_at "w"
     refine ⟨a,ns,_,rfl,(s13.trans s4).seq hS,hn,by omega,by omega,?_⟩
     walk_at "w"
     exact ⟨⟨by decide,by decide⟩,by decide,.inl ⟨by omega,by omega⟩,q1⟩
   · intro Cl H4 hCl s4 el
     have e2:((List.range (xs.map V.int).length).filter fun _=>true).map (fun i=>V.int (xs.getD i 0*(lawAt ns (36+(i:Int)) / 7 % 2)))=((List.range xs.length).map fun i=>xs.getD i 0*(lawAt ns (36+(i:Int)) / 7 % 2)).map V.int:=by
      rw [cJ,List.length_map,List.map_map]; rfl
     rw [e2] at el
     have Ck:CluesOk h w g ((List.range xs.length).map fun i=>xs.getD i 0*(lawAt ns (36+(i:Int)) / 7 % 2)):=by
      refine ⟨by rw [List.length_map,List.length_range]; omega,fun y hy=>?_⟩
      obtain ⟨i,hi,rfl⟩:=List.mem_map.mp hy
      have hlt:=List.mem_range.mp hi
      have hb:=hx6 _ (List.getElem_mem hlt)
      have eg:xs.getD i 0=xs[i]:=by rw [List.getD,List.getElem?_eq_getElem hlt]; rfl
      rw [eg]
      have h2:lawAt ns (36+(i:Int)) / 7 % 2=0∨lawAt ns (36+(i:Int)) / 7 % 2=1:=by omega
      rcases h2 with e | e <;> rw [e] <;> omega
     generalize ((List.range xs.length).map fun i=>xs.getD i 0*(lawAt ns (36+(i:Int)) / 7 % 2))=cl at*
     have s14:=s13.trans s4
     have X:L20 K H4 c d a p Ll Cl ns h w g rows cl:=⟨s14.seq hS,hn,hk,ok,((s2.trans s3).trans s4) _ _ ep,s4 _ _ eLl,el,R,Ck,by omega⟩
     unfold ni
     walk_at "w"
     refine ⟨a,ns,52,rfl,X.hS,hn,by decide,by decide,?_⟩
     walk_at "w"
     refine ⟨by decide,?_⟩
     refine ⟨a,ns,53,rfl,X.hS,hn,by decide,by decide,?_⟩
     walk_at "w"
     refine ⟨by decide,am (by show (2:Nat)≤1000; decide),fun Ft hFt=>?_⟩
     have u0:=Int.emod_nonneg (lawAt ns 52) (show (4:Int)≠0 by decide)
     have u1:=Int.emod_lt_of_pos (lawAt ns 52) (show (0:Int) < 4 by decide)
     generalize lawAt ns 52 % 4=u at*
     generalize lawAt ns 53 % 5=v at*
     have s5:Same H4 (upd H4 Ft (.lst [V.int u,V.int v])):=(Same.refl H4).laid hFt
     have e5:(upd H4 Ft (.lst [V.int u,V.int v])) Ft=some (.lst (([u,v]:List Int).map V.int)):=ad
     generalize upd H4 Ft (.lst [V.int u,V.int v])=H5 at*
     have X5:=X.same s5
     refine fB X5.hL fun A hA=>?_
     have s6:Same H5 (upd H5 A (.lst ((rows.map RR.txt).map V.str))):=(Same.refl H5).laid hA
     have e6:(upd H5 A (.lst ((rows.map RR.txt).map V.str))) A=some (.lst ((rows.map RR.txt).map V.str)):=ad
     generalize upd H5 A (.lst ((rows.map RR.txt).map V.str))=H6 at*
     have X6:=X5.same s6
     walk_at "w"
     refine fB X6.hC fun B hB=>?_
     have s7:Same H6 (upd H6 B (.lst (cl.map V.int))):=(Same.refl H6).laid hB
     have e7:(upd H6 B (.lst (cl.map V.int))) B=some (.lst (cl.map V.int)):=ad
     generalize upd H6 B (.lst (cl.map V.int))=H7 at*
     walk_at "w"
     refine ⟨am (by decide),fun Du hDu=>?_⟩
     have s8:Same H7 (upd H7 Du (.lst [])):=(Same.refl H7).laid hDu
     generalize upd H7 Du (.lst [])=H8 at*
     have s78:=s7.trans s8
     have s68:=s6.trans s78
     refine sd (X6.same s78) (s68 _ _ e5) k (s78 _ _ e6) (s8 _ _ e7) ?_
     simp only [List.mem_cons,List.not_mem_nil,or_false]
     omega
end L2
namespace L2
open PySem PySem.Spec PyProof.Rows
end L2
namespace L2
open PySem PySem.Spec PyProof.Rows
end L2
namespace L2
open PySem PySem.Spec PyProof.Rows
section
variable {M:Model} {A:Around} {E:Value→Shared→Prop} {s:Shared}
theorem se {base:Heap} {env:Env} {outer:List Env} {L x:Addr} {c a0 fl:Value} {Q:Unit→Shared→Prop} (hA:A.frames=some (env::outer)) (hf:env.frame=some L)
  (g1:base.StaysIn s.heap) (g2:base.get? x=none) (g3:s.heap.FunFrames base (env::outer)) (g4:s.heap.TracedAtW base x c a0 fl)
  (k:∀ h',Heap.FlyingW base outer x c a0 h'→s.heap.UpToSlots h'→Q () { s with heap:=h' }):wpAny M A (leaving env (.ref x)) Q E s:=by
 by_cases q:(fl==rawInt L)=true
 · have q':fl=rawInt L:=eq_of_beq q
   subst q'
   unfold leaving
   refine wpAny_bind (wpAny_noteFrame_againW hf g4 (wpAny_landsW (L:=L) ⟨g1,g2,g3,g4⟩ fun h' F up=>?_))
   exact k h' ⟨F.1,F.2.1,F.2.2.1.2.2,F.2.2.2⟩ up
 · obtain ⟨ox,us,T,oT,ws,e1,⟨e2,e3⟩,e4,e5,e6,e7,e8,e9,e10⟩:=g4
   subst e2
   have sz3:3 < ws.size:=(Array.getElem?_eq_some_iff.mp e10).1
   have oth:∀ b,b≠T→(s.heap.update T (Obj.mapFields (·.setIfInBounds 3 Value.none))).get? b=s.heap.get? b:=fun b hb=>Heap.get?_update_other _ _ fun z=>hb z.symm
   have nT:∀ b o,s.heap.get? b=some o→(∀ vs,o.data≠.fields vs)→b≠T:=fun b o hb d z=>by
    subst z
    rw [e8] at hb; cases hb
    exact d ws e9
   unfold leaving noteFrame
   simp only [hf]
   refine wpAny_bind (wpAny_bind (wpAny_field e1 e4 e5 ?_))
   rw [if_pos (by simp)]
   refine wpAny_bind (wpAny_field e8 e9 e10 ?_)
   rw [if_neg q]
   refine wpAny_bind (wpAny_setField e8 e9 sz3 ?_)
   refine wpAny_newEntryW hA (g3.of_keeps fun b o hb d=>⟨o,(oth b (nT b o hb d)).trans hb,rfl⟩) hf ((oth x fun z=>e7 z.symm).trans e1) (fun b o hb=>(oth b fun z=>?_).trans (g1 b o hb)) g2 e4 (Array.getElem?_eq_some_iff.mp e5).1 e3 fun h' W=>?_
   · rw [z,e6] at hb; cases hb
   · obtain ⟨w1,w2,w3,w4⟩:=W
     exact k h' ⟨w1,g2,w2.2.2,w3⟩ fun b o hb d=>w4 b o ((oth b (nT b o hb d)).trans hb) d
end
theorem uh {P:Program} {w:World} {env:Env} {outer:List Env} {H₀ H':Hp} {s₀ s':Shared} {x T' C L:Addr} {h':Heap} {fx ex:List Addr}
  (hos:s'.os=s₀.os) (hbare:AllBare s'.gens) (hL:env.frame=some L) (nL:s₀.heap.get? L=none)
  (U:Un (frs (env::outer)) fx H₀ H' s₀.heap s'.heap) (hfx:∀ b∈fx,s₀.heap.get? b=none) (frH:∀ b∈frs (env::outer),H' b=none) (ok:HOk P w H' s'.heap)
  (exn:∀ b∈ex,s₀.heap.get? b=none∧H' b=none)
  (keepAll:∀ b o,s'.heap.get? b=some o→b∉frs (env::outer)→b∉ex→h'.get? b=some o)
  (slots:∀ b o,s'.heap.get? b=some o→b∈frs (env::outer)→∃ sl,h'.get? b=some { o with slots:=sl })
  (nx:s₀.heap.get? x=none) (fx':H' x=none) (nT:s₀.heap.get? T'=none) (fT:H' T'=none) (tr:Tr h' x T' C .none):Fly P w outer H₀ s₀ x T' C H' { s' with heap:=h' }:=by
 have sub:∀ b,b∈frs outer→b∈frs (env::outer):=fun b hb=>by
  unfold frs at hb ⊢
  rw [List.filterMap_cons,hL]
  exact List.mem_cons_of_mem _ hb
 have isL:∀ b,b∈frs (env::outer)→b=L∨b∈frs outer:=fun b hb=>by
  unfold frs at hb ⊢
  rw [List.filterMap_cons,hL] at hb
  exact List.mem_cons.mp hb
 have nfx:∀ b o,s₀.heap.get? b=some o→b∉fx:=fun b o e z=>by rw [hfx b z] at e; cases e
 have nex:∀ b o,s₀.heap.get? b=some o→b∉ex:=fun b o e z=>by rw [(exn b z).1] at e; cases e
 have there:∀ b o,s₀.heap.get? b=some o→∃ o',h'.get? b=some o':=fun b o e=>by
  obtain ⟨o1,e1⟩:=U.there b o e (nfx b o e)
  by_cases hb:b∈frs (env::outer)
  · obtain ⟨sl,e2⟩:=slots b o1 e1 hb
    exact ⟨_,e2⟩
  · exact ⟨o1,keepAll b o1 e1 hb (nex b o e)⟩
 refine ⟨hos,hbare,⟨fun b o e n hb _=>?_,fun b o e n hb _=>?_,fun b o e n _=>U.free b o e n (nfx b o e),fun b o e _=>there b o e,U.tups,U.frzs,U.tbls⟩,?_,fx',fT,nx,nT,tr⟩
 · have nb:b∉frs (env::outer):=fun z=>by
    rcases isL b z with z | z
    · rw [z,nL] at e; cases e
    · exact hb z
   exact keepAll b o (U.keep b o e n nb (nfx b o e)) nb (nex b o e)
 · obtain ⟨sl,e1⟩:=U.slot b o e n (sub b hb) (nfx b o e)
   obtain ⟨sl2,e2⟩:=slots b _ e1 (sub b hb)
   exact ⟨sl2,e2⟩
 · intro a o e
   refine (ok a o e).stay (fun b u hb q=>?_) (fun _ q=>q) fun _ _ q=>q
   have hb':H' b≠none:=by
    rcases hb with rfl | hb
    · rw [e]; simp
    · rw [hb]; simp
   exact keepAll b u q (fun z=>hb' (frH b z)) fun z=>hb' (exn b z).2
theorem sf {h h1 base:Heap} {as:List Addr}:∀ {l:List Env},h.FunFrames base l→(∀ b∈frs l,b∈as∧∀ o,h.get? b=some o→b∈frs l→∃ sl,h1.get? b=some { o with slots:=sl }∧∀ vs,o.data≠.fields vs)→h1.FunFrames (PySem.W.hideAll h as) l:=by
 intro l
 induction l with
 | nil=>intro _ _; trivial
 | cons env r ih=>
  rintro ⟨hk,⟨L,o,hf,_,ho,hd⟩,hr⟩ hin
  have hL:L∈frs (env::r):=by unfold frs; rw [List.filterMap_cons,hf]; exact List.mem_cons_self
  have hsub:∀ b∈frs r,b∈frs (env::r):=fun b hb=>by unfold frs at hb ⊢; rw [List.filterMap_cons,hf]; exact List.mem_cons_of_mem _ hb
  obtain ⟨sl,e1,d1⟩:=(hin L hL).2 o ho hL
  exact ⟨hk,⟨L,_,hf,PySem.W.hideAll_none as (hin L hL).1,e1,d1⟩,ih hr fun b hb=>⟨(hin b (hsub b hb)).1,fun o e _=>(hin b (hsub b hb)).2 o e (hsub b hb)⟩⟩
theorem sh {scope:Scope} {cl:List (Str × Addr)} {C:Addr} {env:Env}:(kX scope cl C env).frame=env.frame:=rfl
theorem qK {e:Value} {env env':Env} (h:env'.frame=env.frame):noteFrame e env'=noteFrame e env:=by
 unfold noteFrame PySem.frameOf
 rw [h]
section
variable {P:Program} {w:World} {K:PySem.W.Frag} {mg:Str→Option Value} {base:Heap} {N:List Str} {qual:Str} {scope:Scope} {f:Addr} {cd:Value} {A:Around} {outer:List Env} {s₀:Shared} {H₀:Hp} {E:XK}
theorem si {E':XK} {Nb:List Str} {sc:Scope} {cl:List (Str × Addr)} {s2:Shared} {H2:Hp} {fp:List Addr} (himp:∀ c d H,E' c d H→E c d H):
  dt (CX1 P w) (blkCx (cx1 P w K mg base N qual scope f cd A outer s₀ H₀ E) Nb sc cl s2 H2 fp) E':=by
 rintro pins σ H s e s' I ⟨x,T,C,H',rfl,F,q⟩ ⟨pins2,σ2,I2,f2⟩
 have fra:(A.deeper (envOfC qual scope s₀.heap.objs.size f cd)).frames=some (envOfC qual scope s₀.heap.objs.size f cd::outer):=I2.ok.frames
 have hfr:(envOfC qual scope s₀.heap.objs.size f cd).frame=some s₀.heap.objs.size:=rfl
 obtain ⟨m,⟨ob,es,ep,lo,ld,lr⟩,_⟩:=I.loc
 have lfree:H (s2.heap.objs.size+1)=none:=I.free
 have lo:s.heap.get? (s2.heap.objs.size+1)=some ob:=lo
 have Ub:Un (frs (envOfC qual scope s₀.heap.objs.size f cd::outer)) fp H2 H s2.heap s.heap:=I.base
 have fr2:∀ b∈frs (envOfC qual scope s₀.heap.objs.size f cd::outer),∃ o,s2.heap.get? b=some o∧∀ vs,o.data≠.fields vs:=fun b hb=>(I2.stack.mem hb).2
 have fr1:∀ b∈frs (envOfC qual scope s₀.heap.objs.size f cd::outer),∃ o,s.heap.get? b=some o∧∀ vs,o.data≠.fields vs:=fun b hb=>(I.stack.mem hb).2
 have stk:∀ b∈frs (envOfC qual scope s₀.heap.objs.size f cd::outer),H b=none:=I.stkFree
 have ff:s'.heap.FunFrames base (envOfC qual scope s₀.heap.objs.size f cd::outer):=jL I.stack (fun b hb=>⟨hb,stk b hb⟩) F.un
 have sz2:s₀.heap.objs.size≤s2.heap.objs.size:=I2.sz
 have hfx:∀ b∈fp,s₀.heap.get? b=none:=fun b hb=>by
  rcases (f2 b hb).2.2.2.1 with z | z
  · exact absurd (show b∈([]:List Addr) from z) (by simp)
  · exact Heap.get?_none_of_le z
 have U0:Un (frs (envOfC qual scope s₀.heap.objs.size f cd::outer)) fp H₀ H s₀.heap s.heap:=
  (Un.mono (show Un (frs outer) [] H₀ H2 s₀.heap s2.heap from I2.base) (fun b hb=>by unfold frs at hb ⊢; rw [List.filterMap_cons,hfr]; exact List.mem_cons_of_mem _ hb) fun b z=>absurd z (by simp)).trans Ub
 have U:Un (frs (envOfC qual scope s₀.heap.objs.size f cd::outer)) fp H₀ H' s₀.heap s'.heap:=U0.trans (F.un.mono (fun _ hb=>hb) fun b z=>absurd z (by simp))
 have new0:∀ b,s.heap.get? b=none→s₀.heap.get? b=none:=fun b hb=>by
  cases z:s₀.heap.get? b with
  | none=>rfl
  | some o=>
   obtain ⟨o1,e1⟩:=U0.there b o z fun y=>by rw [hfx b y] at z; cases z
   rw [hb] at e1; cases e1
 have frH:∀ b∈frs (envOfC qual scope s₀.heap.objs.size f cd::outer),H' b=none:=fun b hb=>by
  obtain ⟨o,e1,_⟩:=fr1 b hb
  exact F.un.free b o e1 (stk b hb) (by simp)
 have lnf:(s2.heap.objs.size+1)∉frs (envOfC qual scope s₀.heap.objs.size f cd::outer):=fun z=>by
  obtain ⟨o,e1,_⟩:=fr2 _ z
  exact absurd (Heap.lt_size e1) (Nat.not_lt.mpr (Nat.le_succ _))
 have lo':s'.heap.get? (s2.heap.objs.size+1)=some ob:=F.un.keep _ _ lo lfree lnf (by simp)
 have lnd:∀ vs,ob.data≠.fields vs:=fun vs z=>by rw [ld] at z; cases z
 have exn:∀ b∈[x,T,s2.heap.objs.size+1],s₀.heap.get? b=none∧H' b=none:=fun b hb=>by
  simp only [List.mem_cons,List.not_mem_nil,or_false] at hb
  rcases hb with rfl | rfl | rfl
  · exact ⟨new0 _ F.nx,F.fx⟩
  · exact ⟨new0 _ F.nT,F.fT⟩
  · exact ⟨Heap.get?_none_of_le (Nat.le_trans sz2 (Nat.le_succ _)),F.un.free _ _ lo lfree (by simp)⟩
 obtain ⟨oe,vs,oT,ts,a0,he,hc,h0,hd,h1,hTx,hT,hdT,h3⟩:=F.tr
 have fl:Heap.FlyingW (PySem.W.hideAll s'.heap (frs (envOfC qual scope s₀.heap.objs.size f cd::outer)++[x,T,s2.heap.objs.size+1])) (envOfC qual scope s₀.heap.objs.size f cd::outer) x (.ref C) a0 s'.heap:=
  ⟨fun b o e=>PySem.W.of_hideAll _ e,PySem.W.hideAll_none _ (by simp),gk ff fun b hb=>List.mem_append_left _ hb,oe,vs,T,oT,ts,he,⟨hc,h0⟩,hd,h1,PySem.W.hideAll_none _ (by simp),hTx,hT,hdT,h3⟩
 show wpAny (model P w) (A.deeper (envOfC qual scope s₀.heap.objs.size f cd)) (noteFrame (.ref x) (kX sc cl (s2.heap.objs.size+1) (envOfC qual scope s₀.heap.objs.size f cd))) _ _ s'
 rw [qK sh]
 refine wpAny_looks_onW fra hfr fl fun h4 held up4=>?_
 obtain ⟨sl4,l4⟩:=up4 _ _ lo' lnd
 refine ⟨m,⟨_,es,ep,l4,ld,lr⟩,fun h' sb cenv _=>?_⟩
 obtain ⟨k1,k2,k3,oe',vs',T',oT',ts',b1,b2,b3,b4,b5,b6,b7,b8,b9⟩:=held
 have nLx:x≠s2.heap.objs.size+1:=fun z=>by
  rw [z,l4] at b1; cases b1
  exact lnd _ b3
 have nLT:T'≠s2.heap.objs.size+1:=fun z=>by
  rw [z,l4] at b7; cases b7
  exact lnd _ b8
 have c1:h'.get? x=some oe':=(sb.2 x nLx).trans b1
 have c7:h'.get? T'=some oT':=(sb.2 T' nLT).trans b7
 have sz3:3 < ts'.size:=(Array.getElem?_eq_some_iff.mp b9).1
 have oth:∀ (v:Value) b,b≠T'→(h'.update T' (Obj.mapFields (·.setIfInBounds 3 v))).get? b=h'.get? b:=fun v b hb=>Heap.get?_update_other _ _ fun z=>hb z.symm
 have fin:∀ v:Value,(cx1 P w K mg base N qual scope f cd A outer s₀ H₀ E).xe (.ref x) { s' with heap:=h'.update T' (Obj.mapFields (·.setIfInBounds 3 v)) }:=fun v=>by
  have t7:(h'.update T' (Obj.mapFields (·.setIfInBounds 3 v))).get? T'=some (Obj.mapFields (·.setIfInBounds 3 v) oT'):=Heap.get?_update_self _ c7 (Obj.isFreed_of_fields (Obj.data_mapFields b8 _))
  have t1:(h'.update T' (Obj.mapFields (·.setIfInBounds 3 v))).get? x=some oe':=(oth v x fun z=>b6 z.symm).trans c1
  have hid:∀ b o,(PySem.W.hideAll s'.heap (frs (envOfC qual scope s₀.heap.objs.size f cd::outer)++[x,T,s2.heap.objs.size+1])).get? b=some o→b≠T'∧b≠s2.heap.objs.size+1:=fun b o e=>⟨(fun z=>by rw [z,b5] at e; cases e),(fun z=>by rw [z,PySem.W.hideAll_none _ (by simp)] at e; cases e)⟩
  have slot5:∀ b o,s'.heap.get? b=some o→b∈frs (envOfC qual scope s₀.heap.objs.size f cd::outer)→∃ sl,(h'.update T' (Obj.mapFields (·.setIfInBounds 3 v))).get? b=some { o with slots:=sl }∧∀ vs,o.data≠.fields vs:=fun b o e hb=>by
   obtain ⟨o1,e1,d1⟩:=fr1 b hb
   obtain ⟨sl1,e2⟩:=F.un.slot b o1 e1 (stk b hb) hb (by simp)
   rw [e] at e2; cases e2
   obtain ⟨sl,e4⟩:=up4 b _ e d1
   refine ⟨sl,?_,d1⟩
   rw [oth v b fun z=>by rw [z,b7] at e4; cases e4; exact d1 _ b8,sb.2 b fun z=>lnf (z ▸ hb)]
   exact e4
  show wpAny (model P w) (A.deeper (envOfC qual scope s₀.heap.objs.size f cd)) (leaving (envOfC qual scope s₀.heap.objs.size f cd) (.ref x)) _ _ _
  refine se (base:=PySem.W.hideAll s'.heap (frs (envOfC qual scope s₀.heap.objs.size f cd::outer)++[x,T,s2.heap.objs.size+1])) (c:=.ref C) (a0:=a0) (fl:=v) fra hfr (fun b o e=>?_) k2 (sf ff fun b hb=>⟨List.mem_append_left _ hb,slot5 b⟩) ⟨oe',vs',T',_,_,t1,b2,b3,b4,b5,b6,t7,Obj.data_mapFields b8 _,by simp [sz3]⟩ fun h6 fl6 up6=>?_
  · rw [oth v b (hid b o e).1,sb.2 b (hid b o e).2]
    exact k1 b o e
  · obtain ⟨g1,g2,g3,oe6,vs6,T6,oT6,ts6,d1,d2,d3,d4,d5,d6,d7,d8,d9⟩:=fl6
    have slot6:∀ b o,s'.heap.get? b=some o→b∈frs (envOfC qual scope s₀.heap.objs.size f cd::outer)→∃ sl,h6.get? b=some { o with slots:=sl }:=fun b o e hb=>by
     obtain ⟨sl,e5,d5⟩:=slot5 b o e hb
     obtain ⟨sl6,e6⟩:=up6 b _ e5 d5
     exact ⟨sl6,e6⟩
    have T6s:∀ o,s'.heap.get? T6=some o→T6∈[x,T,s2.heap.objs.size+1]:=fun o e=>by
     by_cases z:T6∈frs (envOfC qual scope s₀.heap.objs.size f cd::outer)++[x,T,s2.heap.objs.size+1]
     · rcases List.mem_append.mp z with z | z
       · obtain ⟨sl,e5,d5⟩:=slot5 T6 o e z
         obtain ⟨sl6,e6⟩:=slot6 T6 o e z
         rw [d7] at e6; cases e6
         exact absurd d8 (d5 _)
       · exact z
     · rw [PySem.W.hideAll_get _ e z] at d5; cases d5
    refine ⟨x,T6,C,H',rfl,uh (s':=s') (env:=envOfC qual scope s₀.heap.objs.size f cd) (fx:=fp) (ex:=[x,T,s2.heap.objs.size+1]) (F.os.trans (I.os.trans I2.os)) F.bare hfr (Heap.get?_none_of_le (Nat.le_refl _)) U hfx frH F.hok exn
     (fun b o e hb hx=>g1 b o (PySem.W.hideAll_get _ e fun z=>(List.mem_append.mp z).elim hb hx)) slot6 (new0 _ F.nx) F.fx ?_ ?_ ⟨oe6,vs6,oT6,ts6,a0,d1,d2.1,d2.2,d3,d4,d6,d7,d8,d9⟩,himp _ _ _ q⟩
    · cases z:s'.heap.get? T6 with
      | some o=>exact (exn _ (T6s o z)).1
      | none=>
       cases y:s₀.heap.get? T6 with
       | none=>rfl
       | some o=>
        obtain ⟨o1,e1⟩:=U.there T6 o y fun u=>by rw [hfx _ u] at y; cases y
        rw [z] at e1; cases e1
    · cases z:H' T6 with
      | none=>rfl
      | some o=>
       obtain ⟨u,e1⟩:=(F.hok T6 o z).ob
       rw [(exn _ (T6s u e1)).2] at z; cases z
 unfold PySem.passOn
 refine wpAny_bind (wpAny_field (s:={ s' with heap:=h' }) c1 b3 b4 ?_)
 rw [if_neg (by simp)]
 refine wpAny_bind ?_
 unfold setFlight
 refine wpAny_bind (wpAny_field (s:={ s' with heap:=h' }) c1 b3 b4 ?_)
 rw [if_pos (by simp)]
 exact wpAny_setField (s:={ s' with heap:=h' }) c7 b8 sz3 (wpAny_throw (fin _))
end
end L2
namespace L2
open PySem PySem.Spec PyProof.Rows
end L2
namespace L2
open PySem PySem.Spec PyProof.Rows
end L2
namespace L2
open PySem PySem.Spec PyProof.Rows
def top (i:Nat):Stmt:=PySem.Challenge.pw_cluemaker_k20_puzzles_refused.main.body.getD i (.Pass ⟨0,0,0,0⟩)
def mtop (i j:Nat):Stmt:=match top i with
 | .ClassDef _ _ _ body _ _ _ _ _ _ _=>body.getD j (.Pass ⟨0,0,0,0⟩)
 | s=>s
abbrev iD:Stmt:=top 18
theorem sc_is_whole:ay ["value"] ["value"] (aj iD):=⟨rfl,rfl,rfl,by decide+kernel,rfl,by decide+kernel,by decide+kernel⟩
set_option maxHeartbeats 4000000 in
theorem pJ {P:Program} {w:World} {K:PySem.W.Frag} {mg:Str→Option Value} {base:Heap} (B:Bt2 mg) {f:Addr} {fd:FuncData} (F:Fun K "is_whole" "is_whole" iD f fd):FnOk P w K mg base CX0 1 f fd ["value"] (bH K):=by
 refine F.ok sc_is_whole (fun vs H Q E h=>pG h) (fun cdv A outer s H vs Q E hr h=>?_)
 have hu:=hr.units
 have nd:=sc_is_whole.nd
 refine ⟨fu K,?_,pH h⟩
 exact (ag (aq (gP (aw fA rfl B.isinstance_ aD (aa (pv 0) (aa (fU (v:=.ty "int") rfl B.int_ rm rfl) ac))) (kS (uo (aw fA rfl B.isinstance_ aD (aa (pv 0) (aa (fU (v:=.ty "bool") rfl B.bool_ tK rfl) ac))))))))
abbrev gs:Stmt:=top 21
theorem sc_many_cells:ay ["floor"] ["floor"] (aj gs):=⟨rfl,rfl,rfl,by decide+kernel,rfl,by decide+kernel,by decide+kernel⟩
set_option maxHeartbeats 4000000 in
theorem nM {P:Program} {w:World} {K:PySem.W.Frag} {mg:Str→Option Value} {base:Heap} (B:Bt2 mg) {f:Addr} {fd:FuncData} (F:Fun K "many_cells" "many_cells" gs f fd):FnOk P w K mg base CX0 1 f fd ["floor"] (aV K):=by
 refine F.ok sc_many_cells (fun vs H Q E h=>nu h) (fun cdv A outer s H vs Q E hr h=>?_)
 have hu:=hr.units
 have nd:=sc_many_cells.nd
 refine ⟨dz K,?_,nv h⟩
 exact (ag (aq (ak cC (aE (aM hu) (pv 0) af (fun _ _=>rfl)) (aE (aM hu) (pv 0) af (fun _ _=>rfl)))))
abbrev eF:Stmt:=mtop 23 0
theorem sc_Rule___init__:ay ["self","floor","words","cells","amount","mark"] ["self","floor","words","cells","amount","mark"] (aj eF):=⟨rfl,rfl,rfl,by decide+kernel,rfl,by decide+kernel,by decide+kernel⟩
set_option maxHeartbeats 4000000 in
theorem kN {P:Program} {w:World} {K:PySem.W.Frag} {mg:Str→Option Value} {base:Heap} (B:Bt2 mg) {c:RCl RK} (FK_c_amount:FldK K c "amount") (FK_c_cells:FldK K c "cells") (FK_c_floor:FldK K c "floor") (FK_c_mark:FldK K c "mark") (FK_c_words:FldK K c "words") {f:Addr} {fd:FuncData} (F:Fun K "__init__" "Rule.__init__" eF f fd):FnOk P w K mg base CX0 1 f fd ["self","floor","words","cells","amount","mark"] (ai K c):=by
 refine F.ok sc_Rule___init__ (fun vs H Q E h=>kJ h) (fun cdv A outer s H vs Q E hr h=>?_)
 have hu:=hr.units
 have nd:=sc_Rule___init__.nd
 refine ⟨cM K c,?_,kK h⟩
 exact (ae (dP (pv 0) (pv 1) FK_c_floor)
   (ae (dP (pv 0) (aL kc rfl B.tuple_ kj (aa (pv 2) ac)) FK_c_words)
   (ae (dP (pv 0) (aL kc rfl B.tuple_ kj (aa (pv 3) ac)) FK_c_cells)
   (ae (dP (pv 0) (pv 4) FK_c_amount)
   (ag (dP (pv 0) (pv 5) FK_c_mark))))))
abbrev gI:Stmt:=mtop 23 5
theorem sc_Rule_line:ay ["self"] ["self"] (aj gI):=⟨rfl,rfl,rfl,by decide+kernel,rfl,by decide+kernel,by decide+kernel⟩
set_option maxHeartbeats 4000000 in
theorem pp {P:Program} {w:World} {K:PySem.W.Frag} {mg:Str→Option Value} {base:Heap} (B:Bt2 mg) {c:RCl RK} (FK_c_words:FldK K c "words") {f:Addr} {fd:FuncData} (F:Fun K "line" "Rule.line" gI f fd):FnOk P w K mg base CX0 1 f fd ["self"] (ee K c):=by
 refine F.ok sc_Rule_line (fun vs H Q E h=>oZ h) (fun cdv A outer s H vs Q E hr h=>?_)
 have hu:=hr.units
 have nd:=sc_Rule_line.nd
 refine ⟨ei K c,?_,o4 h⟩
 exact (ag (aq (jl PySem.F.plainAttrs_str PySem.F.slot_str_join PySem.F.type_str_join m8 au (aa (fZ (pv 0) FK_c_words) ac))))
abbrev gJ:Stmt:=top 39
theorem sc_number_in:ay ["word"] ["word"] (aj gJ):=⟨rfl,rfl,rfl,by decide+kernel,rfl,by decide+kernel,by decide+kernel⟩
set_option maxHeartbeats 4000000 in
theorem pq {P:Program} {w:World} {K:PySem.W.Frag} {mg:Str→Option Value} {base:Heap} (B:Bt2 mg) {t_FIGURES:Tok} (yr:mg "FIGURES"=some (.str (tx [48,49,50,51,52,53,54,55,56,57]) t_FIGURES)) {t_MOST_FIGURES:Tok} (wZ:mg "MOST_FIGURES"=some (.int 9 t_MOST_FIGURES)) {f:Addr} {fd:FuncData} (F:Fun K "number_in" "number_in" gJ f fd):FnOk P w K mg base CX0 1 f fd ["word"] (bN K):=by
 refine F.ok sc_number_in (fun vs H Q E h=>mI h) (fun cdv A outer s H vs Q E hr h=>?_)
 have hu:=hr.units
 have nd:=sc_number_in.nd
 refine ⟨df K,?_,mJ h⟩
 exact (ae (aA (PW.pt (ii (ap (aN hu) (pv 0) au (ax _)) (ii (ap ge (aw bw rfl B.len_ bQ (aa (pv 0) ac)) (aQ rfl wZ ⟨t_MOST_FIGURES,rfl⟩) (ax _)) (iK (PW.pt (qS (ap (aN hu) (aE (aM hu) (pv 0) af (fun _ _=>rfl)) au (ax _)) (pM (ap (gf hu) (pv 0) au (ax _))))))))) (ag (aq gO)) ao)
   (ae (aA (dW (c5 (aw (m6 rfl) rfl B.all_ rz (aa (cB (ix:=[none,none]) [".0","figure"] (bz rfl (by decide+kernel) rfl rfl rfl) rfl (uP (pv 0)) (fun cl s H fp=>(aW (i:=1) (show ([".0","figure"]:List Str).Nodup by decide+kernel) rfl (Or.inl rfl))) (fun cl s H fp=>cA) (fun cl s H fp=>(dM (gg hu) (pv 1) (aQ rfl yr ⟨t_FIGURES,rfl⟩) (by with_unfolding_all rfl)))) ac)))) (ag (aq gO)) ao)
   (ag (aq (aL qH rfl B.int_ rm (aa (pv 0) ac))))))
abbrev fh:Stmt:=mtop 52 3
theorem sc_Puzzle_clues:ay ["self"] ["self"] (aj fh):=⟨rfl,rfl,rfl,by decide+kernel,rfl,by decide+kernel,by decide+kernel⟩
set_option maxHeartbeats 4000000 in
theorem lQ {P:Program} {w:World} {K:PySem.W.Frag} {mg:Str→Option Value} {base:Heap} (B:Bt2 mg) {c:RCl RK} {d:RCl PzK} (FK_d_given:FldK K d "given") {f:Addr} {fd:FuncData} (F:Fun K "clues" "Puzzle.clues" fh f fd):FnOk P w K mg base CX0 1 f fd ["self"] (cT K c d):=by
 refine F.ok sc_Puzzle_clues (fun vs H Q E h=>ll h) (fun cdv A outer s H vs Q E hr h=>?_)
 have hu:=hr.units
 have nd:=sc_Puzzle_clues.nd
 refine ⟨cU K c d,?_,lp h⟩
 exact (ag (aq (aL cf rfl B.list_ cS (aa (fZ (pv 0) FK_d_given) ac))))
abbrev jh:Stmt:=top 54
theorem sc__law_at:ay ["_law_script","_law_k","_law_mixed"] ["_law_script","_law_k"] (aj jh):=⟨rfl,rfl,rfl,by decide+kernel,rfl,by decide+kernel,by decide+kernel⟩
set_option maxHeartbeats 4000000 in
theorem qL {P:Program} {w:World} {K:PySem.W.Frag} {mg:Str→Option Value} {base:Heap} (B:Bt2 mg) {f:Addr} {fd:FuncData} (F:Fun K "_law_at" "_law_at" jh f fd):FnOk P w K mg base CX0 1 f fd ["_law_script","_law_k"] (aH K):=by
 refine F.ok sc__law_at (fun vs H Q E h=>qr h) (fun cdv A outer s H vs Q E hr h=>?_)
 have hu:=hr.units
 have nd:=sc__law_at.nd
 refine ⟨fQ K,?_,qt h⟩
 exact (ae (aA (ap rj (pv 1) (aw dX rfl B.len_ bQ (aa (pv 0) ac)) (ax _)) (ag (aq (aE lX (pv 0) (pv 1) (fun _ _=>rfl)))) ao)
   (ae (al (i:=2) nd rfl (Or.inl rfl) (ak av (ak cC af (pv 1)) af))
   (ae (aA (ap ge (aw dX rfl B.len_ bQ (aa (pv 0) ac)) af (ax _)) (ag (al (i:=2) nd rfl (Or.inl rfl) (ak av (pv 2) (ak cC (ak aI (aE lX (pv 0) (ak aI (pv 1) (aw dX rfl B.len_ bQ (aa (pv 0) ac))) (fun _ _=>rfl)) af) (ak av (pv 1) af))))) ao)
   (ag (aq (ak av (ak aI (ak cC (pv 2) (pv 2)) af) (ak aI (pv 2) af)))))))
abbrev fG:Stmt:=top 56
theorem sc__law_stream:ay ["_law_cell","_law_many","_law_number","_law_found","_law_k"] ["_law_cell","_law_many"] (aj fG):=⟨rfl,rfl,rfl,by decide+kernel,rfl,by decide+kernel,by decide+kernel⟩
set_option maxHeartbeats 4000000 in
theorem mQ {P:Program} {w:World} {K:PySem.W.Frag} {mg:Str→Option Value} {base:Heap} (B:Bt2 mg) {f:Addr} {fd:FuncData} (F:Fun K "_law_stream" "_law_stream" fG f fd):FnOk P w K mg base CX0 1 f fd ["_law_cell","_law_many"] (bL K):=by
 refine F.ok sc__law_stream (fun vs H Q E h=>mB h) (fun cdv A outer s H vs Q E hr h=>?_)
 have hu:=hr.units
 have nd:=sc__law_stream.nd
 refine ⟨dc K,?_,mC h⟩
 exact (ae (al (i:=2) nd rfl (Or.inl rfl) (ak av (ak aI (pv 0) af) af))
   (ae (al (i:=3) nd rfl (Or.inl rfl) (aJ ac))
   (ae (kU PassesOwn.never rfl (fv rfl B.range_ (aa (pv 1) ac)) (aW (i:=4) nd rfl (Or.inl rfl))
   (ae (al (i:=2) nd rfl (Or.inl rfl) (ak aI (ak av (ak av (ak cC (pv 2) (pv 2)) (ak cC af (pv 2))) (pv 4)) af))
   (ag (pN (jl PySem.F.plainAttrs_list PySem.F.slot_list_append PySem.F.type_list_append k7 (pv 3) (aa (pv 2) ac))))))
   (ag (aq (pv 3))))))
abbrev gt:Stmt:=top 57
theorem sc__law_order:ay ["_law_xs","_law_many","_law_left","_law_order_here","_law_k"] ["_law_xs","_law_many"] (aj gt):=⟨rfl,rfl,rfl,by decide+kernel,rfl,by decide+kernel,by decide+kernel⟩
set_option maxHeartbeats 4000000 in
theorem nN {P:Program} {w:World} {K:PySem.W.Frag} {mg:Str→Option Value} {base:Heap} (B:Bt2 mg) {f:Addr} {fd:FuncData} (F:Fun K "_law_order" "_law_order" gt f fd):FnOk P w K mg base CX0 1 f fd ["_law_xs","_law_many"] (bZ K):=by
 refine F.ok sc__law_order (fun vs H Q E h=>nB h) (fun cdv A outer s H vs Q E hr h=>?_)
 have hu:=hr.units
 have nd:=sc__law_order.nd
 refine ⟨dB K,?_,nD h⟩
 exact (ae (al (i:=2) nd rfl (Or.inl rfl) (ka rfl rfl rfl B.list_ B.range_ (aa (pv 1) ac)))
   (ae (al (i:=3) nd rfl (Or.inl rfl) (aJ ac))
   (ae (kU PassesOwn.never rfl (fv rfl B.range_ (aa (pv 1) ac)) (aW (i:=4) nd rfl (Or.inl rfl))
   (ag (pN (jl PySem.F.plainAttrs_list PySem.F.slot_list_append PySem.F.type_list_append k7 (pv 3) (aa (jl PySem.F.plainAttrs_list PySem.F.slot_list_pop PySem.F.type_list_pop rO (pv 2) (aa (ak aI (aE (aM hu) (pv 0) (pv 4) (fun _ _=>rfl)) (aw bw rfl B.len_ bQ (aa (pv 2) ac))) ac)) ac)))))
   (ag (aq (pv 3))))))
abbrev gK:Stmt:=top 58
theorem sc__law_kept:ay ["_law_order_here","_law_filling_here","_law_rising","_law_kept_here","_law_sign","_law_some"] ["_law_order_here","_law_filling_here","_law_rising"] (aj gK):=⟨rfl,rfl,rfl,by decide+kernel,rfl,by decide+kernel,by decide+kernel⟩
set_option maxHeartbeats 4000000 in
theorem pw {P:Program} {w:World} {K:PySem.W.Frag} {mg:Str→Option Value} {base:Heap} (B:Bt2 mg) {f:Addr} {fd:FuncData} (F:Fun K "_law_kept" "_law_kept" gK f fd):FnOk P w K mg base CX0 1 f fd ["_law_order_here","_law_filling_here","_law_rising"] (cG K):=by
 refine F.ok sc__law_kept (fun vs H Q E h=>o7 h) (fun cdv A outer s H vs Q E hr h=>?_)
 have hu:=hr.units
 have nd:=sc__law_kept.nd
 refine ⟨eu K,?_,o8 h⟩
 exact (ae (al (i:=3) nd rfl (Or.inr rfl) (aJ ac))
   (ae (kU PassesOwn.never rfl (qU rfl B.range_ (aa af (aa af ac))) (aW (i:=4) nd rfl (Or.inr rfl))
   (ae (lZ (k:=5) nd rfl (Or.inl rfl) rfl (ix:=[none,none,some 1,some 4]) [".0","_law_cell","_law_filling_here","_law_sign"] (bz rfl (by decide+kernel) rfl rfl rfl) rfl (cR (pv 0)) (fun cl s H fp=>(aW (i:=1) (show ([".0","_law_cell","_law_filling_here","_law_sign"]:List Str).Nodup by decide+kernel) rfl (Or.inl rfl))) (fun cl s H fp=>(lY (ap (aN hu) (aE (aM hu) (pv 2) (pv 1) (fun _ _=>rfl)) (pv 3) (ax _)))) (fun cl s H fp=>(pv 1)))
   (ag (al (i:=3) nd rfl (Or.inr rfl) (ak av (pv 3) (bP d0 (pv 5) cy (cz af)))))))
   (ae (aA (c5 (pv 2)) (ag (aq (pv 3))) ao)
   (ag (aq (cB (ix:=[none,none,some 3]) [".0","_law_cell","_law_kept_here"] (bz rfl (by decide+kernel) rfl rfl rfl) rfl (cR (pv 0)) (fun cl s H fp=>(aW (i:=1) (show ([".0","_law_cell","_law_kept_here"]:List Str).Nodup by decide+kernel) rfl (Or.inl rfl))) (fun cl s H fp=>(lY (ap (gg hu) (pv 1) (pv 2) (by with_unfolding_all rfl)))) (fun cl s H fp=>(pv 1))))))))
abbrev gL:Stmt:=top 59
theorem sc__law_seen:ay ["_law_filling_here","_law_cells","_law_greatest","_law_many","_law_cell"] ["_law_filling_here","_law_cells"] (aj gL):=⟨rfl,rfl,rfl,by decide+kernel,rfl,by decide+kernel,by decide+kernel⟩
set_option maxHeartbeats 4000000 in
theorem px {P:Program} {w:World} {K:PySem.W.Frag} {mg:Str→Option Value} {base:Heap} (B:Bt2 mg) {f:Addr} {fd:FuncData} (F:Fun K "_law_seen" "_law_seen" gL f fd):FnOk P w K mg base CX0 1 f fd ["_law_filling_here","_law_cells"] (cH K):=by
 refine F.ok sc__law_seen (fun vs H Q E h=>o9 h) (fun cdv A outer s H vs Q E hr h=>?_)
 have hu:=hr.units
 have nd:=sc__law_seen.nd
 refine ⟨eB K,?_,pb h⟩
 exact (ae (al (i:=2) nd rfl (Or.inl rfl) af)
   (ae (al (i:=3) nd rfl (Or.inl rfl) af)
   (ae (kU PassesOwn.never rfl (cR (pv 1)) (aW (i:=4) nd rfl (Or.inl rfl))
   (ag (aA (ap ge (aE (aM hu) (pv 0) (pv 4) (fun _ _=>rfl)) (pv 2) (ax _)) (ae (al (i:=2) nd rfl (Or.inl rfl) (aE (aM hu) (pv 0) (pv 4) (fun _ _=>rfl)))
   (ag (al (i:=3) nd rfl (Or.inl rfl) (ak av (pv 3) af)))) ao)))
   (ag (aq (pv 3))))))
abbrev dI:Stmt:=top 62
theorem sc__law_bad_floor:ay ["_law_floor_here","_law_cell","_law_side"] ["_law_floor_here","_law_cell"] (aj dI):=⟨rfl,rfl,rfl,by decide+kernel,rfl,by decide+kernel,by decide+kernel⟩
set_option maxHeartbeats 4000000 in
theorem j2 {P:Program} {w:World} {K:PySem.W.Frag} {mg:Str→Option Value} {base:Heap} (B:Bt2 mg) {f:Addr} {fd:FuncData} (F:Fun K "_law_bad_floor" "_law_bad_floor" dI f fd):FnOk P w K mg base CX0 1 f fd ["_law_floor_here","_law_cell"] (bb K):=by
 refine F.ok sc__law_bad_floor (fun vs H Q E h=>iG h) (fun cdv A outer s H vs Q E hr h=>?_)
 have hu:=hr.units
 have nd:=sc__law_bad_floor.nd
 refine ⟨bT K,?_,iH h⟩
 refine ae ?_ ?_
 · exact (al (i:=2) nd rfl (Or.inl rfl) (aE (aM hu) (aJ (aa af (aa af (aa (sQ qW af) (aa (ak tJ af af) ac))))) (ak aI (ak eM (pv 1) af) af) (fun _ _=>rfl)))
 · refine ae ?_ ?_
   · exact (aA (ap (aN hu) (ak aI (pv 1) af) af (ax _)) (ag (aq (c6 (aa (pv 2) (aa (aE (aM hu) (pv 0) af (fun _ _=>rfl)) (aa (aE (aM hu) (pv 0) af (fun _ _=>rfl)) ac)))))) ao)
   · refine ae ?_ ?_
     · exact (aA (ap (aN hu) (ak aI (pv 1) af) af (ax _)) (ag (aq (c6 (aa (aE (aM hu) (pv 0) af (fun _ _=>rfl)) (aa (pv 2) (aa (aE (aM hu) (pv 0) af (fun _ _=>rfl)) ac)))))) ao)
     · refine ae ?_ ?_
       · exact (aA (ap (aN hu) (ak aI (pv 1) af) af (ax _)) (ag (aq (c6 (aa (aE (aM hu) (pv 0) af (fun _ _=>rfl)) (aa (aE (aM hu) (pv 0) af (fun _ _=>rfl)) (aa (pv 2) ac)))))) ao)
       · refine ag ?_
         · refine aq ?_
           · refine aE ?x ?l ?j ?p
             case x=>exact (aM hu)
             case p=>exact (fun _ _=>rfl)
             case j=>exact (ak aI (ak eM (pv 1) af) af)
             case l=>
              refine aJ ?_
              · refine aa ?_ ?_
                · exact (c6 (aa af (aa af (aa af ac))))
                · exact (aa (c6 (aa af (aa af (aa af ac)))) (aa (c6 (aa af (aa af (aa af ac)))) (aa (c6 (aa af (aa af (aa af ac)))) ac)))
abbrev eH:Stmt:=top 63
theorem sc__law_bad_line:ay ["_law_floor_here","_law_cell","_law_many","_law_some"] ["_law_floor_here","_law_cell"] (aj eH):=⟨rfl,rfl,rfl,by decide+kernel,rfl,by decide+kernel,by decide+kernel⟩
set_option maxHeartbeats 4000000 in
theorem kO {P:Program} {w:World} {K:PySem.W.Frag} {mg:Str→Option Value} {base:Heap} (B:Bt2 mg) {f:Addr} {fd:FuncData} (F:Fun K "_law_bad_line" "_law_bad_line" eH f fd):FnOk P w K mg base CX0 1 f fd ["_law_floor_here","_law_cell"] (bg K):=by
 refine F.ok sc__law_bad_line (fun vs H Q E h=>je h) (fun cdv A outer s H vs Q E hr h=>?_)
 have hu:=hr.units
 have nd:=sc__law_bad_line.nd
 refine ⟨cm K,?_,jf h⟩
 refine ae ?_ ?_
 · exact (al (i:=2) nd rfl (Or.inl rfl) (ak cC (aE (aM hu) (pv 0) af (fun _ _=>rfl)) (aE (aM hu) (pv 0) af (fun _ _=>rfl))))
 · refine ae ?_ ?_
   · exact (al (i:=3) nd rfl (Or.inl rfl) (aJ (aa au (aa au (aa au (aa (ak av au (aL cK rfl B.str_ dY (aa (pv 2) ac))) (aa au (aa au (aa au (aa au ac))))))))))
   · refine ae ?_ ?_
     · exact (al (i:=3) nd rfl (Or.inl rfl) (ak av (pv 3) (aJ (aa (ak av au (aL cK rfl B.str_ dY (aa (ak av (aE (aM hu) (pv 0) af (fun _ _=>rfl)) af) ac))) (aa au (aa au (aa au (aa au (aa au ac)))))))))
     · refine ae ?_ ?_
       · exact (al (i:=3) nd rfl (Or.inl rfl) (ak av (pv 3) (aJ (aa gO (aa af (aa bF (aa (aJ (aa au (aa au ac))) (aa (c6 (aa au (aa au ac))) ac))))))))
       · refine ag ?_
         · exact (aq (aE (aM hu) (pv 3) (ak aI (ak eM (pv 1) af) af) (fun _ _=>rfl)))
abbrev dJ:Stmt:=top 64
theorem sc__law_bad_clues:ay ["_law_floor_here","_law_clues","_law_cell","_law_at_here"] ["_law_floor_here","_law_clues","_law_cell"] (aj dJ):=⟨rfl,rfl,rfl,by decide+kernel,rfl,by decide+kernel,by decide+kernel⟩
set_option maxHeartbeats 4000000 in
theorem j3 {P:Program} {w:World} {K:PySem.W.Frag} {mg:Str→Option Value} {base:Heap} (B:Bt2 mg) {f:Addr} {fd:FuncData} (F:Fun K "_law_bad_clues" "_law_bad_clues" dJ f fd):FnOk P w K mg base CX0 1 f fd ["_law_floor_here","_law_clues","_law_cell"] (aT K):=by
 refine F.ok sc__law_bad_clues (fun vs H Q E h=>iI h) (fun cdv A outer s H vs Q E hr h=>?_)
 have hu:=hr.units
 have nd:=sc__law_bad_clues.nd
 refine ⟨bU K,?_,iJ h⟩
 refine ae ?_ ?_
 · exact (al (i:=3) nd rfl (Or.inl rfl) (ak aI (ak eM (pv 2) af) (aw bw rfl B.len_ bQ (aa (pv 1) ac))))
 · refine ae ?_ ?_
   · exact (aA (ap (aN hu) (ak aI (pv 2) af) af (ax _)) (ag (aq (bP d0 (pv 1) (cz af) cy))) ao)
   · refine ae ?_ ?_
     · exact (aA (ap (aN hu) (ak aI (pv 2) af) af (ax _)) (ag (aq (ak av (pv 1) (aJ (aa af ac))))) ao)
     · refine ag ?_
       · refine aq ?_
         · exact (ak av (ak av (bP d0 (pv 1) cy (cz (pv 3))) (aJ (aa (aE (aM hu) (aJ (aa (sQ qW af) (aa (ak av (aE (aM hu) (pv 0) af (fun _ _=>rfl)) af) ac))) (ak aI (pv 2) af) (fun _ _=>rfl)) ac))) (bP d0 (pv 1) (cz (ak av (pv 3) af)) cy))
abbrev gu:Stmt:=top 66
theorem sc__law_named:ay ["_law_caught","_law_others"] ["_law_caught"] (aj gu):=⟨rfl,rfl,rfl,by decide+kernel,rfl,by decide+kernel,by decide+kernel⟩
set_option maxHeartbeats 4000000 in
theorem nO {P:Program} {w:World} {K:PySem.W.Frag} {mg:Str→Option Value} {base:Heap} (B:Bt2 mg) {a:EA} (EM:ErrM mg a) (R_NoFloor:aB K a "NoFloor" a.NoFloor (bo a)) (R_NoRule:aB K a "NoRule" a.NoRule (bp a)) (R_NoPuzzle:aB K a "NoPuzzle" a.NoPuzzle (bq a)) (BV:mg "ValueError"=none) {f:Addr} {fd:FuncData} (F:Fun K "_law_named" "_law_named" gu f fd):FnOk P w K mg base CX0 1 f fd ["_law_caught"] (aZ K):=by
 refine F.ok sc__law_named (fun vs H Q E h=>lG h) (fun cdv A outer s H vs Q E hr h=>?_)
 have hu:=hr.units
 have nd:=sc__law_named.nd
 refine ⟨ck K a,?_,lH R_NoFloor R_NoRule R_NoPuzzle h⟩
 refine ae ?_ ?_
 · exact (al (i:=1) nd rfl (Or.inl rfl) (aJ (aa (aw bn rfl B.isinstance_ aD (aa (pv 0) (aa (aQ rfl EM.BadThought rfl) ac))) (aa (aw bn rfl B.isinstance_ aD (aa (pv 0) (aa (aQ rfl EM.NoFilling rfl) ac))) (aa (aw bn rfl B.isinstance_ aD (aa (pv 0) (aa (aQ rfl EM.NoMove rfl) ac))) ac)))))
 · refine ae ?_ ?_
   · exact (al (i:=1) nd rfl (Or.inl rfl) (ak av (pv 1) (aJ (aa (aw bn rfl B.isinstance_ aD (aa (pv 0) (aa (aQ rfl EM.NoName rfl) ac))) (aa (aw bn rfl B.isinstance_ aD (aa (pv 0) (aa (aQ rfl EM.NoRow rfl) ac))) (aa (aw bn rfl B.isinstance_ aD (aa (pv 0) (aa (aQ rfl EM.NoText rfl) ac))) ac))))))
   · refine ae ?_ ?_
     · exact (al (i:=1) nd rfl (Or.inl rfl) (ak av (pv 1) (aJ (aa (aw bn rfl B.isinstance_ aD (aa (pv 0) (aa (aQ rfl EM.NotOne rfl) ac))) (aa (aw bn rfl B.isinstance_ aD (aa (pv 0) (aa (aQ rfl EM.TooMany rfl) ac))) ac)))))
     · refine ae ?_ ?_
       · exact (aA (PW.pt (ii (c5 (aw (ro rfl) rfl B.any_ uL (aa (pv 1) ac))) (iK (dW (c5 (aw bn rfl B.isinstance_ aD (aa (pv 0) (aa (fU (v:=.ty "ValueError") rfl BV nt rfl) ac)))))))) (ag (aq (aJ ac))) ao)
       · refine ag ?_
         · refine aq ?_
           · refine aJ ?_
             · refine aa ?_ ?_
               · exact (aw bn rfl B.isinstance_ aD (aa (pv 0) (aa (aQ rfl EM.NoFloor rfl) ac)))
               · refine aa ?_ ?_
                 · exact (aw bn rfl B.isinstance_ aD (aa (pv 0) (aa (aQ rfl EM.NoRule rfl) ac)))
                 · exact (aa (aw bn rfl B.isinstance_ aD (aa (pv 0) (aa (aQ rfl EM.NoPuzzle rfl) ac))) ac)
abbrev dL:Stmt:=top 19
theorem sc_is_from_one_to:ay ["value","most"] ["value","most"] (aj dL):=⟨rfl,rfl,rfl,by decide+kernel,rfl,by decide+kernel,by decide+kernel⟩
set_option maxHeartbeats 4000000 in
theorem j4 {P:Program} {w:World} {K:PySem.W.Frag} {mg:Str→Option Value} {base:Heap} (B:Bt2 mg) (wf:Cal P w K mg base 1 "is_whole" ["value"] (bH K)) {f:Addr} {fd:FuncData} (F:Fun K "is_from_one_to" "is_from_one_to" dL f fd):FnOk P w K mg base CX0 2 f fd ["value","most"] (aS K):=by
 refine F.ok sc_is_from_one_to (fun vs H Q E h=>jP h) (fun cdv A outer s H vs Q E hr h=>?_)
 have hu:=hr.units
 have nd:=sc_is_from_one_to.nd
 refine ⟨cp K,?_,jQ h⟩
 exact (ag (aq (gP (aC wf hr (by decide) rfl (aa (pv 0) ac)) (gP (dM k6 af (pv 0) (ax _)) (kS (dM k6 (pv 0) (pv 1) (ax _)))))))
abbrev eI:Stmt:=top 40
theorem sc_number_within:ay ["word","least","most","number"] ["word","least","most"] (aj eI):=⟨rfl,rfl,rfl,by decide+kernel,rfl,by decide+kernel,by decide+kernel⟩
set_option maxHeartbeats 4000000 in
theorem kP {P:Program} {w:World} {K:PySem.W.Frag} {mg:Str→Option Value} {base:Heap} (B:Bt2 mg) (xN:Cal P w K mg base 1 "number_in" ["word"] (bN K)) {a:EA} (EM:ErrM mg a) (R_NoFloor:aB K a "NoFloor" a.NoFloor (bo a)) (R_NoRule:aB K a "NoRule" a.NoRule (bp a)) (R_NoPuzzle:aB K a "NoPuzzle" a.NoPuzzle (bq a)) {f:Addr} {fd:FuncData} (F:Fun K "number_within" "number_within" eI f fd):FnOk P w K mg base (CX1 P w) 2 f fd ["word","least","most"] (aP K):=by
 refine F.ok1 sc_number_within (fun vs H Q E h=>i5 h) (fun cdv A outer s H vs Q E hr h=>?_)
 have hu:=hr.units
 have nd:=sc_number_within.nd
 refine ⟨cg K a E,?_,i6 R_NoFloor R_NoRule R_NoPuzzle h⟩
 exact (ae (al (i:=3) nd rfl (Or.inl rfl) (aC xN hr (by decide) rfl (aa (pv 0) ac)))
   (ae (aA (PW.pt (ii (ap uy (pv 3) gO (ax _)) (ii (ap rj (pv 3) (pv 1) (ax _)) (iK (ap ge (pv 3) (pv 2) (ax _)))))) (ag (bh R_NoRule.xc rfl EM.NoRule (aa au ac))) ao)
   (ag (aq (pv 3)))))
abbrev gw:Stmt:=top 50
theorem sc_is_filling:ay ["floor","filling","least"] ["floor","filling","least"] (aj gw):=⟨rfl,rfl,rfl,by decide+kernel,rfl,by decide+kernel,by decide+kernel⟩
set_option maxHeartbeats 4000000 in
theorem nP {P:Program} {w:World} {K:PySem.W.Frag} {mg:Str→Option Value} {base:Heap} (B:Bt2 mg) (wf:Cal P w K mg base 1 "is_whole" ["value"] (bH K)) (vQ:Cal P w K mg base 1 "many_cells" ["floor"] (aV K)) {f:Addr} {fd:FuncData} (F:Fun K "is_filling" "is_filling" gw f fd):FnOk P w K mg base CX0 2 f fd ["floor","filling","least"] (bY K):=by
 refine F.ok sc_is_filling (fun vs H Q E h=>nw h) (fun cdv A outer s H vs Q E hr h=>?_)
 have hu:=hr.units
 have nd:=sc_is_filling.nd
 refine ⟨dA K,?_,nA h⟩
 exact (ae (aA (PW.pt (ii (dW (c5 (aw fA rfl B.isinstance_ aD (aa (pv 1) (aa (fU (v:=.ty "list") rfl B.list_ cS rfl) ac))))) (iK (ap (gf hu) (aw bw rfl B.len_ bQ (aa (pv 1) ac)) (aC vQ hr (by decide) rfl (aa (pv 0) ac)) (ax _))))) (ag (aq bF)) ao)
   (ag (aq (aw (m6 rfl) rfl B.all_ rz (aa (cB (ix:=[none,none,some 0,some 2]) [".0","sign","floor","least"] (bz rfl (by decide+kernel) rfl rfl rfl) rfl (cR (pv 1)) (fun cl s H fp=>(aW (i:=1) (show ([".0","sign","floor","least"]:List Str).Nodup by decide+kernel) rfl (Or.inl rfl))) (fun cl s H fp=>cA) (fun cl s H fp=>(gP (aC wf hr (by decide) rfl (aa (pv 1) ac)) (gP (dM k6 (pv 3) (pv 1) (ax _)) (kS (dM k6 (pv 1) (aE (aM hu) (pv 2) af (fun _ _=>rfl)) (ax _))))))) ac)))))
abbrev fi:Stmt:=mtop 52 2
theorem sc_Puzzle_lines:ay ["self"] ["self"] (aj fi):=⟨rfl,rfl,rfl,by decide+kernel,rfl,by decide+kernel,by decide+kernel⟩
set_option maxHeartbeats 4000000 in
theorem lR {P:Program} {w:World} {K:PySem.W.Frag} {mg:Str→Option Value} {base:Heap} (B:Bt2 mg) {c:RCl RK} {d:RCl PzK} (FK_d_laws:FldK K d "laws") (zq:MCal P w K mg base c c.ok 1 "line" ["self"] (ib K c)) {f:Addr} {fd:FuncData} (F:Fun K "lines" "Puzzle.lines" fi f fd):FnOk P w K mg base CX0 2 f fd ["self"] (cV K c d):=by
 refine F.ok sc_Puzzle_lines (fun vs H Q E h=>lq h) (fun cdv A outer s H vs Q E hr h=>?_)
 have hu:=hr.units
 have nd:=sc_Puzzle_lines.nd
 refine ⟨cW K c d,?_,lu h⟩
 exact (ag (aq (cB (ix:=[none,none]) [".0","rule"] (bz rfl (by decide+kernel) rfl rfl rfl) rfl (cR (fZ (pv 0) FK_d_laws)) (fun cl s H fp=>(aW (i:=1) (show ([".0","rule"]:List Str).Nodup by decide+kernel) rfl (Or.inl rfl))) (fun cl s H fp=>cA) (fun cl s H fp=>(gF zq hr (by decide) (pv 1))))))
abbrev gy:Stmt:=top 55
theorem sc__law_floor:ay ["_law_script","_law_high","_law_wide"] ["_law_script"] (aj gy):=⟨rfl,rfl,rfl,by decide+kernel,rfl,by decide+kernel,by decide+kernel⟩
set_option maxHeartbeats 4000000 in
theorem nQ {P:Program} {w:World} {K:PySem.W.Frag} {mg:Str→Option Value} {base:Heap} (B:Bt2 mg) (vI:Cal P w K mg base 1 "_law_at" ["_law_script","_law_k"] (aH K)) {f:Addr} {fd:FuncData} (F:Fun K "_law_floor" "_law_floor" gy f fd):FnOk P w K mg base CX0 2 f fd ["_law_script"] (bW K):=by
 refine F.ok sc__law_floor (fun vs H Q E h=>nl h) (fun cdv A outer s H vs Q E hr h=>?_)
 have hu:=hr.units
 have nd:=sc__law_floor.nd
 refine ⟨dy K,?_,nn h⟩
 exact (ae (al (i:=1) nd rfl (Or.inl rfl) (ak av af (ak aI (aC vI hr (by decide) rfl (aa (pv 0) (aa af ac))) af)))
   (ae (al (i:=2) nd rfl (Or.inl rfl) (ak av af (ak aI (aC vI hr (by decide) rfl (aa (pv 0) (aa af ac))) (aw (rk rfl) rfl B.min_ uK (aa af (aa (ak eM af (pv 1)) ac))))))
   (ag (aq (c6 (aa (pv 1) (aa (pv 2) (aa (ak av af (ak aI (aC vI hr (by decide) rfl (aa (pv 0) (aa af ac))) af)) ac))))))))
abbrev gM:Stmt:=top 60
theorem sc__law_line:ay ["_law_floor_here","_law_filling_here","_law_cell","_law_many","_law_xs","_law_order_here","_law_some","_law_sign","_law_off","_law_way","_law_words"] ["_law_floor_here","_law_filling_here","_law_cell"] (aj gM):=⟨rfl,rfl,rfl,by decide+kernel,rfl,by decide+kernel,by decide+kernel⟩
set_option maxHeartbeats 4000000 in
theorem pz {P:Program} {w:World} {K:PySem.W.Frag} {mg:Str→Option Value} {base:Heap} (B:Bt2 mg) (xO:Cal P w K mg base 1 "_law_kept" ["_law_order_here","_law_filling_here","_law_rising"] (cG K)) (xv:Cal P w K mg base 1 "_law_order" ["_law_xs","_law_many"] (bZ K)) (xP:Cal P w K mg base 1 "_law_seen" ["_law_filling_here","_law_cells"] (cH K)) (xk:Cal P w K mg base 1 "_law_stream" ["_law_cell","_law_many"] (bL K)) {f:Addr} {fd:FuncData} (F:Fun K "_law_line" "_law_line" gM f fd):FnOk P w K mg base CX0 2 f fd ["_law_floor_here","_law_filling_here","_law_cell"] (bM K):=by
 refine F.ok sc__law_line (fun vs H Q E h=>mF h) (fun cdv A outer s H vs Q E hr h=>?_)
 have hu:=hr.units
 have nd:=sc__law_line.nd
 refine ⟨de K,?_,mG h⟩
 exact (ae (al (i:=3) nd rfl (Or.inl rfl) (ak cC (aE (aM hu) (pv 0) af (fun _ _=>rfl)) (aE (aM hu) (pv 0) af (fun _ _=>rfl))))
   (ae (al (i:=4) nd rfl (Or.inl rfl) (aC xk hr (by decide) rfl (aa (ak eM (pv 2) af) (aa (ak av (pv 3) af) ac))))
   (ae (al (i:=5) nd rfl (Or.inl rfl) (aC xv hr (by decide) rfl (aa (pv 4) (aa (pv 3) ac))))
   (ae (al (i:=6) nd rfl (Or.inl rfl) (bP d0 (pv 5) cy (cz (ak av af (ak aI (aE (aM hu) (pv 4) (pv 3) (fun _ _=>rfl)) (pv 3))))))
   (ae (al (i:=7) nd rfl (Or.inr rfl) (ak av af (ak aI (aE (aM hu) (pv 4) (ak av (pv 3) af) (fun _ _=>rfl)) (aE (aM hu) (pv 0) af (fun _ _=>rfl)))))
   (ae (al (i:=8) nd rfl (Or.inl rfl) (aE (aM hu) (aJ (aa af (aa af (aa af (aa af ac))))) (ak aI (aE (aM hu) (pv 4) (ak av (pv 3) af) (fun _ _=>rfl)) af) (fun _ _=>rfl)))
   (ae (al (i:=9) nd rfl (Or.inl rfl) (ak aI (pv 2) af))
   (ae (aA (ap ge (pv 9) af (ax _)) (ag (aq (ak av (ak av (aE (aM hu) (aJ (aa au (aa au (aa au ac)))) (ak l0 (pv 9) af) (fun _ _=>rfl)) au) (aL cK rfl B.str_ dY (aa (pv 7) ac))))) ao)
   (ae (aA (PW.pt (qS (ap (gg hu) (pv 9) (c6 (aa af (aa af ac))) (by with_unfolding_all rfl)) (pM (ap (aN hu) (pv 8) af (ax _))))) (ag (al (i:=6) nd rfl (Or.inl rfl) (bP d0 (aC xO hr (by decide) rfl (aa (pv 5) (aa (pv 1) (aa (dM (aN hu) (pv 9) af (ax _)) ac)))) cy (cz (aw bw rfl B.len_ bQ (aa (pv 6) ac)))))) ao)
   (ae (al (i:=10) nd rfl (Or.inl rfl) (aJ (aa au ac)))
   (ae (aA (ap (aN hu) (pv 9) af (ax _)) (ag (al (i:=10) nd rfl (Or.inl rfl) (aJ (aa au (aa (aL cK rfl B.str_ dY (aa (ak av (aw (rB rfl) rfl B.sum_ uQ (aa (cB (ix:=[none,none,some 1]) [".0","_law_one","_law_filling_here"] (bz rfl (by decide+kernel) rfl rfl rfl) rfl (cR (pv 6)) (fun cl s H fp=>(aW (i:=1) (show ([".0","_law_one","_law_filling_here"]:List Str).Nodup by decide+kernel) rfl (Or.inl rfl))) (fun cl s H fp=>cA) (fun cl s H fp=>(aE (aM hu) (pv 2) (pv 1) (fun _ _=>rfl)))) ac)) (pv 8)) ac)) ac))))) ao)
   (ae (aA (ap (aN hu) (pv 9) af (ax _)) (ag (al (i:=10) nd rfl (Or.inl rfl) (aJ (aa au ac)))) ao)
   (ae (aA (ap (aN hu) (pv 9) af (ax _)) (ag (al (i:=10) nd rfl (Or.inl rfl) (aJ (aa au (aa (aL cK rfl B.str_ dY (aa (ak av (aC xP hr (by decide) rfl (aa (pv 1) (aa (pv 6) ac))) (pv 8)) ac)) ac))))) ao)
   (ae (aA (ap (aN hu) (pv 9) af (ax _)) (ag (al (i:=10) nd rfl (Or.inl rfl) (aJ (aa au (aa (aL cK rfl B.str_ dY (aa (ak av (aw bw rfl B.len_ bQ (aa (cB (ix:=[none,none,some 1,some 7]) [".0","_law_one","_law_filling_here","_law_sign"] (bz rfl (by decide+kernel) rfl rfl rfl) rfl (cR (pv 6)) (fun cl s H fp=>(aW (i:=1) (show ([".0","_law_one","_law_filling_here","_law_sign"]:List Str).Nodup by decide+kernel) rfl (Or.inl rfl))) (fun cl s H fp=>(lY (ap (aN hu) (aE (aM hu) (pv 2) (pv 1) (fun _ _=>rfl)) (pv 3) (ax _)))) (fun cl s H fp=>(pv 1))) ac)) (pv 8)) ac)) (aa (aL cK rfl B.str_ dY (aa (pv 7) ac)) ac)))))) ao)
   (ag (aq (jl PySem.F.plainAttrs_str PySem.F.slot_str_join PySem.F.type_str_join m8 au (aa (ak av (pv 10) (cB (ix:=[none,none]) [".0","_law_one"] (bz rfl (by decide+kernel) rfl rfl rfl) rfl (cR (pv 6)) (fun cl s H fp=>(aW (i:=1) (show ([".0","_law_one"]:List Str).Nodup by decide+kernel) rfl (Or.inl rfl))) (fun cl s H fp=>cA) (fun cl s H fp=>(aL cK rfl B.str_ dY (aa (pv 1) ac))))) ac))))))))))))))))))
abbrev fj:Stmt:=top 61
theorem sc__law_filling:ay ["_law_script","_law_floor_here","_law_at_here"] ["_law_script","_law_floor_here","_law_at_here"] (aj fj):=⟨rfl,rfl,rfl,by decide+kernel,rfl,by decide+kernel,by decide+kernel⟩
set_option maxHeartbeats 4000000 in
theorem lS {P:Program} {w:World} {K:PySem.W.Frag} {mg:Str→Option Value} {base:Heap} (B:Bt2 mg) (vI:Cal P w K mg base 1 "_law_at" ["_law_script","_law_k"] (aH K)) {f:Addr} {fd:FuncData} (F:Fun K "_law_filling" "_law_filling" fj f fd):FnOk P w K mg base CX0 2 f fd ["_law_script","_law_floor_here","_law_at_here"] (bi K):=by
 refine F.ok sc__law_filling (fun vs H Q E h=>jR h) (fun cdv A outer s H vs Q E hr h=>?_)
 have hu:=hr.units
 have nd:=sc__law_filling.nd
 refine ⟨cq K,?_,jS h⟩
 exact (ag (aq (cB (ix:=[none,none,some 2,some 1,some 0]) [".0","_law_k","_law_at_here","_law_floor_here","_law_script"] (bz rfl (by decide+kernel) rfl rfl rfl) rfl (fv rfl B.range_ (aa (ak cC (aE (aM hu) (pv 1) af (fun _ _=>rfl)) (aE (aM hu) (pv 1) af (fun _ _=>rfl))) ac)) (fun cl s H fp=>(aW (i:=1) (show ([".0","_law_k","_law_at_here","_law_floor_here","_law_script"]:List Str).Nodup by decide+kernel) rfl (Or.inl rfl))) (fun cl s H fp=>cA) (fun cl s H fp=>(ak av af (ak aI (aC vI hr (by decide) rfl (aa (pv 4) (aa (ak av (pv 2) (pv 1)) ac))) (aE (aM hu) (pv 3) af (fun _ _=>rfl))))))))
abbrev iE:Stmt:=top 20
theorem sc_floor_of:ay ["high","wide","signs"] ["high","wide","signs"] (aj iE):=⟨rfl,rfl,rfl,by decide+kernel,rfl,by decide+kernel,by decide+kernel⟩
set_option maxHeartbeats 4000000 in
theorem pK {P:Program} {w:World} {K:PySem.W.Frag} {mg:Str→Option Value} {base:Heap} (B:Bt2 mg) (vT:Cal P w K mg base 2 "is_from_one_to" ["value","most"] (aS K)) {t_MOST_CELLS:Tok} (xw:mg "MOST_CELLS"=some (.int 16 t_MOST_CELLS)) {t_MOST_SIDE:Tok} (xj:mg "MOST_SIDE"=some (.int 6 t_MOST_SIDE)) {t_MOST_SIGNS:Tok} (xx:mg "MOST_SIGNS"=some (.int 6 t_MOST_SIGNS)) {a:EA} (EM:ErrM mg a) (R_NoFloor:aB K a "NoFloor" a.NoFloor (bo a)) (R_NoRule:aB K a "NoRule" a.NoRule (bp a)) (R_NoPuzzle:aB K a "NoPuzzle" a.NoPuzzle (bq a)) {f:Addr} {fd:FuncData} (F:Fun K "floor_of" "floor_of" iE f fd):FnOk P w K mg base (CX1 P w) 3 f fd ["high","wide","signs"] (cc K):=by
 refine F.ok1 sc_floor_of (fun vs H Q E h=>nJ h) (fun cdv A outer s H vs Q E hr h=>?_)
 have hu:=hr.units
 have nd:=sc_floor_of.nd
 refine ⟨dF K a E,?_,nK R_NoFloor R_NoRule R_NoPuzzle h⟩
 exact (ae (aA (dW (c5 (aC vT hr (by decide) rfl (aa (pv 0) (aa (aQ rfl xj ⟨t_MOST_SIDE,rfl⟩) ac))))) (ag (bh R_NoFloor.xc rfl EM.NoFloor (aa au ac))) ao)
   (ae (aA (dW (c5 (aC vT hr (by decide) rfl (aa (pv 1) (aa (aQ rfl xj ⟨t_MOST_SIDE,rfl⟩) ac))))) (ag (bh R_NoFloor.xc rfl EM.NoFloor (aa au ac))) ao)
   (ae (aA (ap ge (ak cC (pv 0) (pv 1)) (aQ rfl xw ⟨t_MOST_CELLS,rfl⟩) (ax _)) (ag (bh R_NoFloor.xc rfl EM.NoFloor (aa au ac))) ao)
   (ae (aA (dW (c5 (aC vT hr (by decide) rfl (aa (pv 2) (aa (aQ rfl xx ⟨t_MOST_SIGNS,rfl⟩) ac))))) (ag (bh R_NoFloor.xc rfl EM.NoFloor (aa au ac))) ao)
   (ag (aq (c6 (aa (pv 0) (aa (pv 1) (aa (pv 2) ac))))))))))
abbrev fk:Stmt:=top 41
theorem sc_first_within:ay ["words","least","most"] ["words","least","most"] (aj fk):=⟨rfl,rfl,rfl,by decide+kernel,rfl,by decide+kernel,by decide+kernel⟩
set_option maxHeartbeats 4000000 in
theorem lT {P:Program} {w:World} {K:PySem.W.Frag} {mg:Str→Option Value} {base:Heap} (B:Bt2 mg) (vS:bx P w K mg base 2 "number_within" ["word","least","most"] (aP K)) {a:EA} (EM:ErrM mg a) (R_NoFloor:aB K a "NoFloor" a.NoFloor (bo a)) (R_NoRule:aB K a "NoRule" a.NoRule (bp a)) (R_NoPuzzle:aB K a "NoPuzzle" a.NoPuzzle (bq a)) {f:Addr} {fd:FuncData} (F:Fun K "first_within" "first_within" fk f fd):FnOk P w K mg base (CX1 P w) 3 f fd ["words","least","most"] (aY K):=by
 refine F.ok1 sc_first_within (fun vs H Q E h=>jT h) (fun cdv A outer s H vs Q E hr h=>?_)
 have hu:=hr.units
 have nd:=sc_first_within.nd
 refine ⟨cr K a E,?_,jU R_NoFloor R_NoRule R_NoPuzzle h⟩
 exact (ae (aA (ap (aN hu) (pv 0) (aJ ac) (ax _)) (ag (bh R_NoRule.xc rfl EM.NoRule (aa au ac))) ao)
   (ag (aq (bX (cD fun _ _ _ z=>z) vS hr (by decide) rfl (aa (aE (aM hu) (pv 0) af (fun _ _=>rfl)) (aa (pv 1) (aa (pv 2) ac)))))))
abbrev gz:Stmt:=top 42
theorem sc_told_cells:ay ["floor","words","cells"] ["floor","words"] (aj gz):=⟨rfl,rfl,rfl,by decide+kernel,rfl,by decide+kernel,by decide+kernel⟩
set_option maxHeartbeats 4000000 in
theorem nR {P:Program} {w:World} {K:PySem.W.Frag} {mg:Str→Option Value} {base:Heap} (B:Bt2 mg) (vQ:Cal P w K mg base 1 "many_cells" ["floor"] (aV K)) (vS:bx P w K mg base 2 "number_within" ["word","least","most"] (aP K)) {a:EA} (EM:ErrM mg a) (R_NoFloor:aB K a "NoFloor" a.NoFloor (bo a)) (R_NoRule:aB K a "NoRule" a.NoRule (bp a)) (R_NoPuzzle:aB K a "NoPuzzle" a.NoPuzzle (bq a)) {f:Addr} {fd:FuncData} (F:Fun K "told_cells" "told_cells" gz f fd):FnOk P w K mg base (CX1 P w) 3 f fd ["floor","words"] (bB K):=by
 refine F.ok1 sc_told_cells (fun vs H Q E h=>lB h) (fun cdv A outer s H vs Q E hr h=>?_)
 have hu:=hr.units
 have nd:=sc_told_cells.nd
 refine ⟨cX K a E,?_,lD R_NoFloor R_NoRule R_NoPuzzle h⟩
 exact (ae (lZ (k:=2) nd rfl (Or.inl rfl) rfl (ix:=[none,none,some 0]) [".0","word","floor"] (bz rfl (by decide+kernel) rfl rfl rfl) rfl (cR (pv 1)) (fun cl s H fp=>(aW (i:=1) (show ([".0","word","floor"]:List Str).Nodup by decide+kernel) rfl (Or.inl rfl))) (fun cl s H fp=>cA) (fun cl s H fp=>(bX (si fun _ _ _ z=>z) vS hr (by decide) rfl (aa (pv 1) (aa af (aa (ak l0 (aC vQ hr (by decide) rfl (aa (pv 2) ac)) af) ac))))))
   (ae (aA (ap (aN hu) (pv 2) (aJ ac) (ax _)) (ag (bh R_NoRule.xc rfl EM.NoRule (aa au ac))) ao)
   (ae (aA (ap (gf hu) (rN rfl rfl rfl B.len_ B.set_ (pv 2)) (aw bw rfl B.len_ bQ (aa (pv 2) ac)) (ax _)) (ag (bh R_NoRule.xc rfl EM.NoRule (aa au ac))) ao)
   (ag (aq (pv 2))))))
abbrev ji:Stmt:=top 44
theorem sc_rule_by:ay ["floor","words","cells","amount","mark","name"] ["floor","words","cells","amount","mark"] (aj ji):=⟨rfl,rfl,rfl,by decide+kernel,rfl,by decide+kernel,by decide+kernel⟩
set_option maxHeartbeats 4000000 in
theorem qM {P:Program} {w:World} {K:PySem.W.Frag} {mg:Str→Option Value} {base:Heap} (B:Bt2 mg) {c:RCl RK} (y9:KCal P w K mg base 1 "Count" (c.A .Count) ["self","floor","words","cells","amount","mark"] (ai K c)) (yC:KCal P w K mg base 1 "Joined" (c.A .Joined) ["self","floor","words","cells","amount","mark"] (ai K c)) (xS:KCal P w K mg base 1 "NoSquare" (c.A .NoSquare) ["self","floor","words","cells","amount","mark"] (ai K c)) (zr:KCal P w K mg base 1 "Ring" (c.A .Ring) ["self","floor","words","cells","amount","mark"] (ai K c)) (yD:KCal P w K mg base 1 "Rising" (c.A .Rising) ["self","floor","words","cells","amount","mark"] (ai K c)) (zt:KCal P w K mg base 1 "Seen" (c.A .Seen) ["self","floor","words","cells","amount","mark"] (ai K c)) (K_Sum:KCal P w K mg base 1 "Sum" (c.A .Sum) ["self","floor","words","cells","amount","mark"] (ai K c)) (yE:KCal P w K mg base 1 "Unlike" (c.A .Unlike) ["self","floor","words","cells","amount","mark"] (ai K c)) {a:EA} (EM:ErrM mg a) (R_NoFloor:aB K a "NoFloor" a.NoFloor (bo a)) (R_NoRule:aB K a "NoRule" a.NoRule (bp a)) (R_NoPuzzle:aB K a "NoPuzzle" a.NoPuzzle (bq a)) {f:Addr} {fd:FuncData} (F:Fun K "rule_by" "rule_by" ji f fd):FnOk P w K mg base (CX1 P w) 3 f fd ["floor","words","cells","amount","mark"] (cI K c):=by
 refine F.ok1 sc_rule_by (fun vs H Q E h=>pe h) (fun cdv A outer s H vs Q E hr h=>?_)
 have hu:=hr.units
 have nd:=sc_rule_by.nd
 refine ⟨eE K c a E,?_,pf R_NoFloor R_NoRule R_NoPuzzle h⟩
 exact (ae (al (i:=5) nd rfl (Or.inl rfl) (aE (aM hu) (pv 1) af (fun _ _=>rfl)))
   (ae (aA (ap (aN hu) (pv 5) au (ax _)) (ag (aq (gG yE hr (by decide) rfl (aa (pv 0) (aa (pv 1) (aa (pv 2) (aa (pv 3) (aa (pv 4) ac)))))))) ao)
   (ae (aA (ap (aN hu) (pv 5) au (ax _)) (ag (aq (gG K_Sum hr (by decide) rfl (aa (pv 0) (aa (pv 1) (aa (pv 2) (aa (pv 3) (aa (pv 4) ac)))))))) ao)
   (ae (aA (ap (aN hu) (pv 5) au (ax _)) (ag (aq (gG yD hr (by decide) rfl (aa (pv 0) (aa (pv 1) (aa (pv 2) (aa (pv 3) (aa (pv 4) ac)))))))) ao)
   (ae (aA (ap (aN hu) (pv 5) au (ax _)) (ag (aq (gG zt hr (by decide) rfl (aa (pv 0) (aa (pv 1) (aa (pv 2) (aa (pv 3) (aa (pv 4) ac)))))))) ao)
   (ae (aA (ap (aN hu) (pv 5) au (ax _)) (ag (aq (gG y9 hr (by decide) rfl (aa (pv 0) (aa (pv 1) (aa (pv 2) (aa (pv 3) (aa (pv 4) ac)))))))) ao)
   (ae (aA (ap (aN hu) (pv 5) au (ax _)) (ag (aq (gG yC hr (by decide) rfl (aa (pv 0) (aa (pv 1) (aa (pv 2) (aa (pv 3) (aa (pv 4) ac)))))))) ao)
   (ae (aA (ap (aN hu) (pv 5) au (ax _)) (ag (aq (gG xS hr (by decide) rfl (aa (pv 0) (aa (pv 1) (aa (pv 2) (aa (pv 3) (aa (pv 4) ac)))))))) ao)
   (ae (aA (ap (aN hu) (pv 5) au (ax _)) (ag (aq (gG zr hr (by decide) rfl (aa (pv 0) (aa (pv 1) (aa (pv 2) (aa (pv 3) (aa (pv 4) ac)))))))) ao)
   (ag (bh R_NoRule.xc rfl EM.NoRule (aa au ac))))))))))))
abbrev eJ:Stmt:=top 51
theorem sc_checked_clues:ay ["floor","clues"] ["floor","clues"] (aj eJ):=⟨rfl,rfl,rfl,by decide+kernel,rfl,by decide+kernel,by decide+kernel⟩
set_option maxHeartbeats 4000000 in
theorem kQ {P:Program} {w:World} {K:PySem.W.Frag} {mg:Str→Option Value} {base:Heap} (B:Bt2 mg) (xy:Cal P w K mg base 2 "is_filling" ["floor","filling","least"] (bY K)) {a:EA} (EM:ErrM mg a) (R_NoFloor:aB K a "NoFloor" a.NoFloor (bo a)) (R_NoRule:aB K a "NoRule" a.NoRule (bp a)) (R_NoPuzzle:aB K a "NoPuzzle" a.NoPuzzle (bq a)) {f:Addr} {fd:FuncData} (F:Fun K "checked_clues" "checked_clues" eJ f fd):FnOk P w K mg base (CX1 P w) 3 f fd ["floor","clues"] (bf K):=by
 refine F.ok1 sc_checked_clues (fun vs H Q E h=>i9 h) (fun cdv A outer s H vs Q E hr h=>?_)
 have hu:=hr.units
 have nd:=sc_checked_clues.nd
 refine ⟨cj K a E,?_,jc R_NoFloor R_NoRule R_NoPuzzle h⟩
 exact (ae (aA (dW (c5 (aC xy hr (by decide) rfl (aa (pv 0) (aa (pv 1) (aa af ac)))))) (ag (bh R_NoPuzzle.xc rfl EM.NoPuzzle (aa au ac))) ao)
   (ag (aq (aL cf rfl B.list_ cS (aa (pv 1) ac)))))
abbrev iF:Stmt:=top 43
theorem sc_cells_of:ay ["floor","name","words"] ["floor","name","words"] (aj iF):=⟨rfl,rfl,rfl,by decide+kernel,rfl,by decide+kernel,by decide+kernel⟩
set_option maxHeartbeats 4000000 in
theorem pL {P:Program} {w:World} {K:PySem.W.Frag} {mg:Str→Option Value} {base:Heap} (B:Bt2 mg) (vQ:Cal P w K mg base 1 "many_cells" ["floor"] (aV K)) (xz:bx P w K mg base 3 "told_cells" ["floor","words"] (bB K)) (G_OF_ALL_CELLS:GTup K mg "OF_ALL_CELLS" bA) {a:EA} (EM:ErrM mg a) (R_NoFloor:aB K a "NoFloor" a.NoFloor (bo a)) (R_NoRule:aB K a "NoRule" a.NoRule (bp a)) (R_NoPuzzle:aB K a "NoPuzzle" a.NoPuzzle (bq a)) {f:Addr} {fd:FuncData} (F:Fun K "cells_of" "cells_of" iF f fd):FnOk P w K mg base (CX1 P w) 4 f fd ["floor","name","words"] (cb K):=by
 refine F.ok1 sc_cells_of (fun vs H Q E h=>nG h) (fun cdv A outer s H vs Q E hr h=>?_)
 have hu:=hr.units
 have nd:=sc_cells_of.nd
 refine ⟨dC K a E,?_,nI R_NoFloor R_NoRule R_NoPuzzle h⟩
 exact (ae (aA (t6 G_OF_ALL_CELLS (pv 1) rfl) (ag (aq (bX (cD fun _ _ _ z=>z) xz hr (by decide) rfl (aa (pv 0) (aa (pv 2) ac))))) ao)
   (ae (aA (ap (gf hu) (pv 2) (aJ ac) (ax _)) (ag (bh R_NoRule.xc rfl EM.NoRule (aa au ac))) ao)
   (ag (aq (ka rfl rfl rfl B.list_ B.range_ (aa (aC vQ hr (by decide) rfl (aa (pv 0) ac)) ac))))))
abbrev eK:Stmt:=top 48
theorem sc_checked_floor:ay ["floor"] ["floor"] (aj eK):=⟨rfl,rfl,rfl,by decide+kernel,rfl,by decide+kernel,by decide+kernel⟩
set_option maxHeartbeats 4000000 in
theorem kR {P:Program} {w:World} {K:PySem.W.Frag} {mg:Str→Option Value} {base:Heap} (B:Bt2 mg) (xT:bx P w K mg base 3 "floor_of" ["high","wide","signs"] (cc K)) {a:EA} (EM:ErrM mg a) (R_NoFloor:aB K a "NoFloor" a.NoFloor (bo a)) (R_NoRule:aB K a "NoRule" a.NoRule (bp a)) (R_NoPuzzle:aB K a "NoPuzzle" a.NoPuzzle (bq a)) {f:Addr} {fd:FuncData} (F:Fun K "checked_floor" "checked_floor" eK f fd):FnOk P w K mg base (CX1 P w) 4 f fd ["floor"] (be K):=by
 refine F.ok1 sc_checked_floor (fun vs H Q E h=>i8 h) (fun cdv A outer s H vs Q E hr h=>?_)
 have hu:=hr.units
 have nd:=sc_checked_floor.nd
 refine ⟨ci K a E,?_,jb R_NoFloor R_NoRule R_NoPuzzle h⟩
 exact (ae (aA (PW.pt (ii (dW (c5 (aw fA rfl B.isinstance_ aD (aa (pv 0) (aa (fU (v:=.ty "tuple") rfl B.tuple_ kj rfl) ac))))) (iK (ap (gf hu) (aw bw rfl B.len_ bQ (aa (pv 0) ac)) af (ax _))))) (ag (bh R_NoFloor.xc rfl EM.NoFloor (aa au ac))) ao)
   (ag (aq (bX (cD fun _ _ _ z=>z) xT hr (by decide) rfl (aa (aE (aM hu) (pv 0) af (fun _ _=>rfl)) (aa (aE (aM hu) (pv 0) af (fun _ _=>rfl)) (aa (aE (aM hu) (pv 0) af (fun _ _=>rfl)) ac)))))))
abbrev gN:Stmt:=top 45
theorem sc_read_rule:ay ["floor","line","words","name","rest","amount","mark"] ["floor","line"] (aj gN):=⟨rfl,rfl,rfl,by decide+kernel,rfl,by decide+kernel,by decide+kernel⟩
set_option maxHeartbeats 4000000 in
theorem pA {P:Program} {w:World} {K:PySem.W.Frag} {mg:Str→Option Value} {base:Heap} (B:Bt2 mg) {c:RCl RK} (xU:bx P w K mg base 4 "cells_of" ["floor","name","words"] (cb K)) (wj:bx P w K mg base 3 "first_within" ["words","least","most"] (aY K)) (yt:bx P w K mg base 3 "rule_by" ["floor","words","cells","amount","mark"] (cI K c)) {t_MOST_NUMBER:Tok} (xl:mg "MOST_NUMBER"=some (.int 99 t_MOST_NUMBER)) (G_WITH_NUMBER:GTup K mg "WITH_NUMBER" bK) (G_WITH_SIGN:GTup K mg "WITH_SIGN" cF) {a:EA} (EM:ErrM mg a) (R_NoFloor:aB K a "NoFloor" a.NoFloor (bo a)) (R_NoRule:aB K a "NoRule" a.NoRule (bp a)) (R_NoPuzzle:aB K a "NoPuzzle" a.NoPuzzle (bq a)) {f:Addr} {fd:FuncData} (F:Fun K "read_rule" "read_rule" gN f fd):FnOk P w K mg base (CX1 P w) 5 f fd ["floor","line"] (bO K c):=by
 refine F.ok1 sc_read_rule (fun vs H Q E h=>mK h) (fun cdv A outer s H vs Q E hr h=>?_)
 have hu:=hr.units
 have nd:=sc_read_rule.nd
 refine ⟨dg K c a E,?_,mL R_NoFloor R_NoRule R_NoPuzzle h⟩
 exact (ae (aA (dW (c5 (aw fA rfl B.isinstance_ aD (aa (pv 1) (aa (fU (v:=.ty "str") rfl B.str_ dY rfl) ac))))) (ag (bh R_NoRule.xc rfl EM.NoRule (aa au ac))) ao)
   (ae (al (i:=2) nd rfl (Or.inl rfl) (jl PySem.F.plainAttrs_str PySem.F.slot_str_split PySem.F.type_str_split rp (pv 1) (aa au ac)))
   (ae (al (i:=3) nd rfl (Or.inl rfl) (aE (aM hu) (pv 2) af (fun _ _=>rfl)))
   (ae (al (i:=4) nd rfl (Or.inl rfl) (bP d0 (pv 2) (cz af) cy))
   (ae (al (i:=5) nd rfl (Or.inl rfl) af)
   (ae (al (i:=6) nd rfl (Or.inl rfl) af)
   (ae (aA (rW G_WITH_NUMBER (pv 3) rfl) (ae (al (i:=5) nd rfl (Or.inl rfl) (bX (cD fun _ _ _ z=>z) wj hr (by decide) rfl (aa (pv 4) (aa af (aa (aQ rfl xl ⟨t_MOST_NUMBER,rfl⟩) ac)))))
   (ag (al (i:=4) nd rfl (Or.inl rfl) (bP d0 (pv 4) (cz af) cy)))) ao)
   (ae (aA (rW G_WITH_SIGN (pv 3) rfl) (ae (al (i:=6) nd rfl (Or.inl rfl) (bX (cD fun _ _ _ z=>z) wj hr (by decide) rfl (aa (pv 4) (aa af (aa (aE (aM hu) (pv 0) af (fun _ _=>rfl)) ac)))))
   (ag (al (i:=4) nd rfl (Or.inl rfl) (bP d0 (pv 4) (cz af) cy)))) ao)
   (ag (aq (bX (cD fun _ _ _ z=>z) yt hr (by decide) rfl (aa (pv 0) (aa (pv 2) (aa (bX (cD fun _ _ _ z=>z) xU hr (by decide) rfl (aa (pv 0) (aa (pv 3) (aa (pv 4) ac)))) (aa (pv 5) (aa (pv 6) ac))))))))))))))))
abbrev gA:Stmt:=top 49
theorem sc_read_rules:ay ["floor","lines"] ["floor","lines"] (aj gA):=⟨rfl,rfl,rfl,by decide+kernel,rfl,by decide+kernel,by decide+kernel⟩
set_option maxHeartbeats 4000000 in
theorem nS {P:Program} {w:World} {K:PySem.W.Frag} {mg:Str→Option Value} {base:Heap} (B:Bt2 mg) {c:RCl RK} (xQ:bx P w K mg base 5 "read_rule" ["floor","line"] (bO K c)) {t_MOST_RULES:Tok} (xA:mg "MOST_RULES"=some (.int 12 t_MOST_RULES)) {a:EA} (EM:ErrM mg a) (R_NoFloor:aB K a "NoFloor" a.NoFloor (bo a)) (R_NoRule:aB K a "NoRule" a.NoRule (bp a)) (R_NoPuzzle:aB K a "NoPuzzle" a.NoPuzzle (bq a)) {f:Addr} {fd:FuncData} (F:Fun K "read_rules" "read_rules" gA f fd):FnOk P w K mg base (CX1 P w) 6 f fd ["floor","lines"] (bC K c):=by
 refine F.ok1 sc_read_rules (fun vs H Q E h=>lE h) (fun cdv A outer s H vs Q E hr h=>?_)
 have hu:=hr.units
 have nd:=sc_read_rules.nd
 refine ⟨cY K c a E,?_,lF R_NoFloor R_NoRule R_NoPuzzle h⟩
 exact (ae (aA (ap ge (aw bw rfl B.len_ bQ (aa (pv 1) ac)) (aQ rfl xA ⟨t_MOST_RULES,rfl⟩) (ax _)) (ag (bh R_NoPuzzle.xc rfl EM.NoPuzzle (aa au ac))) ao)
   (ag (aq (cB (ix:=[none,none,some 0]) [".0","line","floor"] (bz rfl (by decide+kernel) rfl rfl rfl) rfl (cR (pv 1)) (fun cl s H fp=>(aW (i:=1) (show ([".0","line","floor"]:List Str).Nodup by decide+kernel) rfl (Or.inl rfl))) (fun cl s H fp=>cA) (fun cl s H fp=>(bX (si fun _ _ _ z=>z) xQ hr (by decide) rfl (aa (pv 2) (aa (pv 1) ac))))))))
abbrev dq:Stmt:=mtop 52 0
theorem sc_Puzzle___init__:ay ["self","floor","lines","clues"] ["self","floor","lines","clues"] (aj dq):=⟨rfl,rfl,rfl,by decide+kernel,rfl,by decide+kernel,by decide+kernel⟩
set_option maxHeartbeats 4000000 in
theorem jj {P:Program} {w:World} {K:PySem.W.Frag} {mg:Str→Option Value} {base:Heap} (B:Bt2 mg) {c:RCl RK} {d:RCl PzK} (wK:bx P w K mg base 3 "checked_clues" ["floor","clues"] (bf K)) (wL:bx P w K mg base 4 "checked_floor" ["floor"] (be K)) (xB:bx P w K mg base 6 "read_rules" ["floor","lines"] (bC K c)) (FK_d_floor:FldK K d "floor") (FK_d_given:FldK K d "given") (FK_d_laws:FldK K d "laws") {f:Addr} {fd:FuncData} (F:Fun K "__init__" "Puzzle.__init__" dq f fd):FnOk P w K mg base (CX1 P w) 7 f fd ["self","floor","lines","clues"] (az K c d):=by
 refine F.ok1 sc_Puzzle___init__ (fun vs H Q E h=>iu h) (fun cdv A outer s H vs Q E hr h=>?_)
 have hu:=hr.units
 have nd:=sc_Puzzle___init__.nd
 refine ⟨bG K c d E,?_,iv h⟩
 exact (ae (dP (pv 0) (bX (cD fun _ _ _ z=>z) wL hr (by decide) rfl (aa (pv 1) ac)) FK_d_floor)
   (ae (dP (pv 0) (bX (cD fun _ _ _ z=>z) xB hr (by decide) rfl (aa (fZ (pv 0) FK_d_floor) (aa (pv 2) ac))) FK_d_laws)
   (ag (dP (pv 0) (bX (cD fun _ _ _ z=>z) wK hr (by decide) rfl (aa (fZ (pv 0) FK_d_floor) (aa (pv 3) ac))) FK_d_given))))
abbrev fm:Stmt:=mtop 52 7
theorem sc_Puzzle_clued:ay ["self","clues"] ["self","clues"] (aj fm):=⟨rfl,rfl,rfl,by decide+kernel,rfl,by decide+kernel,by decide+kernel⟩
set_option maxHeartbeats 4000000 in
theorem lU {P:Program} {w:World} {K:PySem.W.Frag} {mg:Str→Option Value} {base:Heap} (B:Bt2 mg) {c:RCl RK} {d:RCl PzK} (FK_d_floor:FldK K d "floor") (xu:MCal P w K mg base d d.ok 2 "lines" ["self"] (fe K c d)) (vV:iq P w K mg base 7 "Puzzle" (d.A .Puzzle) ["self","floor","lines","clues"] (az K c d)) {f:Addr} {fd:FuncData} (F:Fun K "clued" "Puzzle.clued" fm f fd):FnOk P w K mg base (CX1 P w) 9 f fd ["self","clues"] (cu K c d):=by
 refine F.ok1 sc_Puzzle_clued (fun vs H Q E h=>jW h) (fun cdv A outer s H vs Q E hr h=>?_)
 have hu:=hr.units
 have nd:=sc_Puzzle_clued.nd
 refine ⟨cw K c d E,?_,jX h⟩
 exact (ag (aq (rZ (cD fun _ _ _ z=>z) vV hr (by decide) rfl (aa (fZ (pv 0) FK_d_floor) (aa (gF xu hr (by decide) (pv 0)) (aa (pv 1) ac))))))
abbrev fo:Stmt:=top 65
theorem sc__law_refused:ay ["_law_floor_here","_law_lines","_law_clues","_law_caught","error"] ["_law_floor_here","_law_lines","_law_clues"] (aj fo):=⟨rfl,rfl,rfl,by decide+kernel,rfl,by decide+kernel,by decide+kernel⟩
set_option maxHeartbeats 4000000 in
theorem lV {P:Program} {w:World} {K:PySem.W.Frag} {mg:Str→Option Value} {base:Heap} (B:Bt2 mg) {c:RCl RK} {d:RCl PzK} (vU:Cal P w K mg base 1 "_law_named" ["_law_caught"] (aZ K)) (vV:iq P w K mg base 7 "Puzzle" (d.A .Puzzle) ["self","floor","lines","clues"] (az K c d)) {a:EA} (EM:ErrM mg a) (R_NoFloor:aB K a "NoFloor" a.NoFloor (bo a)) (R_NoRule:aB K a "NoRule" a.NoRule (bp a)) (R_NoPuzzle:aB K a "NoPuzzle" a.NoPuzzle (bq a)) {f:Addr} {fd:FuncData} (F:Fun K "_law_refused" "_law_refused" fo f fd):FnOk P w K mg base CX0 9 f fd ["_law_floor_here","_law_lines","_law_clues"] (bj K c d):=by
 refine F.ok sc__law_refused (fun vs H Q E h=>jY h) (fun cdv A outer s H vs Q E hr h=>?_)
 have hu:=hr.units
 have nd:=sc__law_refused.nd
 refine ⟨cx K c d a,?_,jZ R_NoFloor R_NoRule R_NoPuzzle h⟩
 exact (ae (al (i:=3) nd rfl (Or.inl rfl) gO)
   (ae (ua (i:=4) (fun _ _ z=>z) vV hr (by decide) rfl (aa (pv 0) (aa (pv 1) (aa (pv 2) ac))) nd rfl rfl rfl EM.ClueError rfl rfl (fun _=>(ag (al (i:=3) nd rfl (Or.inl rfl) (pv 4)))))
   (ag (aq (aC vU hr (by decide) rfl (aa (pv 3) ac))))))
abbrev gB:Stmt:=top 67
theorem sc__law_clued:ay ["_law_puzzle","_law_clues","_law_caught","error"] ["_law_puzzle","_law_clues"] (aj gB):=⟨rfl,rfl,rfl,by decide+kernel,rfl,by decide+kernel,by decide+kernel⟩
set_option maxHeartbeats 4000000 in
theorem nU {P:Program} {w:World} {K:PySem.W.Frag} {mg:Str→Option Value} {base:Heap} (B:Bt2 mg) {c:RCl RK} {d:RCl PzK} (vU:Cal P w K mg base 1 "_law_named" ["_law_caught"] (aZ K)) (za:oa P w K mg base d d.ok 9 "clued" ["self","clues"] (fR K c d)) {a:EA} (EM:ErrM mg a) (R_NoFloor:aB K a "NoFloor" a.NoFloor (bo a)) (R_NoRule:aB K a "NoRule" a.NoRule (bp a)) (R_NoPuzzle:aB K a "NoPuzzle" a.NoPuzzle (bq a)) {f:Addr} {fd:FuncData} (F:Fun K "_law_clued" "_law_clued" gB f fd):FnOk P w K mg base CX0 10 f fd ["_law_puzzle","_law_clues"] (bD K c d):=by
 refine F.ok sc__law_clued (fun vs H Q E h=>lI h) (fun cdv A outer s H vs Q E hr h=>?_)
 have hu:=hr.units
 have nd:=sc__law_clued.nd
 refine ⟨cZ K c d a,?_,lJ R_NoFloor R_NoRule R_NoPuzzle h⟩
 exact (ae (al (i:=2) nd rfl (Or.inl rfl) gO)
   (ae (ub (i:=3) (fun _ _ z=>z) za hr (by decide) (pv 0) (aa (pv 1) ac) nd rfl rfl rfl EM.ClueError rfl rfl (fun _=>(ag (al (i:=2) nd rfl (Or.inl rfl) (pv 3)))))
   (ag (aq (aC vU hr (by decide) rfl (aa (pv 2) ac))))))
abbrev jO:Stmt:=top 68
theorem sc_law:ay ["_law_script","_law_floor_here","_law_filling_here","_law_lines","_law_clues","_law_faults","_law_ground","_law_rows","_law_signs","_law_due","_law_at_here","_law_puzzle"] ["_law_script"] (aj jO):=⟨rfl,rfl,rfl,by decide+kernel,rfl,by decide+kernel,by decide+kernel⟩
set_option maxHeartbeats 4000000 in
theorem vg {P:Program} {w:World} {K:PySem.W.Frag} {mg:Str→Option Value} {base:Heap} (B:Bt2 mg) {c:RCl RK} {d:RCl PzK} (vI:Cal P w K mg base 1 "_law_at" ["_law_script","_law_k"] (aH K)) (vW:Cal P w K mg base 1 "_law_bad_clues" ["_law_floor_here","_law_clues","_law_cell"] (aT K)) (wy:Cal P w K mg base 1 "_law_bad_floor" ["_law_floor_here","_law_cell"] (bb K)) (wM:Cal P w K mg base 1 "_law_bad_line" ["_law_floor_here","_law_cell"] (bg K)) (xC:Cal P w K mg base 10 "_law_clued" ["_law_puzzle","_law_clues"] (bD K c d)) (w5:Cal P w K mg base 2 "_law_filling" ["_law_script","_law_floor_here","_law_at_here"] (bi K)) (xD:Cal P w K mg base 2 "_law_floor" ["_law_script"] (bW K)) (xR:Cal P w K mg base 2 "_law_line" ["_law_floor_here","_law_filling_here","_law_cell"] (bM K)) (w6:Cal P w K mg base 9 "_law_refused" ["_law_floor_here","_law_lines","_law_clues"] (bj K c d)) (zb:MCal P w K mg base d d.ok 1 "clues" ["self"] (ip K c d)) (xu:MCal P w K mg base d d.ok 2 "lines" ["self"] (fe K c d)) (vV:iq P w K mg base 7 "Puzzle" (d.A .Puzzle) ["self","floor","lines","clues"] (az K c d)) {f:Addr} {fd:FuncData} (F:Fun K "law" "law" jO f fd):FnOk P w K mg base CX0 11 f fd ["_law_script"] (pk K c d):=by
 refine F.ok sc_law (fun vs H Q E h=>vd h) (fun cdv A outer s H vs Q E hr h=>?_)
 have hu:=hr.units
 have nd:=sc_law.nd
 refine ⟨lL K c d,?_,vf h⟩
 exact (ae (al (i:=1) nd rfl (Or.inr rfl) (aC xD hr (by decide) rfl (aa (pv 0) ac)))
   (ae (al (i:=2) nd rfl (Or.inr rfl) (aC w5 hr (by decide) rfl (aa (pv 0) (aa (pv 1) (aa af ac)))))
   (ae (al (i:=3) nd rfl (Or.inr rfl) (cB (ix:=[none,none,some 2,some 1,some 0]) [".0","_law_k","_law_filling_here","_law_floor_here","_law_script"] (bz rfl (by decide+kernel) rfl rfl rfl) rfl (fv rfl B.range_ (aa (ak av af (ak aI (aC vI hr (by decide) rfl (aa (pv 0) (aa af ac))) af)) ac)) (fun cl s H fp=>(aW (i:=1) (show ([".0","_law_k","_law_filling_here","_law_floor_here","_law_script"]:List Str).Nodup by decide+kernel) rfl (Or.inl rfl))) (fun cl s H fp=>cA) (fun cl s H fp=>(aC xR hr (by decide) rfl (aa (pv 3) (aa (pv 2) (aa (aC vI hr (by decide) rfl (aa (pv 4) (aa (ak av af (pv 1)) ac))) ac)))))))
   (ae (lZ (k:=4) nd rfl (Or.inl rfl) rfl (ix:=[none,none,none,some 0]) [".0","_law_k","_law_sign","_law_script"] (bz rfl (by decide+kernel) rfl rfl rfl) rfl (tN rfl B.enumerate_ (aa (pv 2) ac)) (fun cl s H fp=>(uq rfl (og (aW (i:=1) (show ([".0","_law_k","_law_sign","_law_script"]:List Str).Nodup by decide+kernel) rfl (Or.inl rfl)) (og (aW (i:=2) (show ([".0","_law_k","_law_sign","_law_script"]:List Str).Nodup by decide+kernel) rfl (Or.inl rfl)) tq)))) (fun cl s H fp=>cA) (fun cl s H fp=>(ak cC (pv 2) (ak aI (ak eM (aC vI hr (by decide) rfl (aa (pv 3) (aa (ak av af (pv 1)) ac))) af) af))))
   (ae (al (i:=5) nd rfl (Or.inl rfl) (aJ (aa (ak aI (aC vI hr (by decide) rfl (aa (pv 0) (aa af ac))) af) (aa (ak aI (aC vI hr (by decide) rfl (aa (pv 0) (aa af ac))) af) ac))))
   (ae (al (i:=6) nd rfl (Or.inl rfl) (pv 1))
   (ae (al (i:=7) nd rfl (Or.inl rfl) (aL cf rfl B.list_ cS (aa (pv 3) ac)))
   (ae (al (i:=8) nd rfl (Or.inl rfl) (aL cf rfl B.list_ cS (aa (pv 4) ac)))
   (ae (al (i:=9) nd rfl (Or.inl rfl) (aJ ac))
   (ae (aA (ap (gg hu) af (pv 5) (by with_unfolding_all rfl)) (ae (al (i:=8) nd rfl (Or.inl rfl) (aC vW hr (by decide) rfl (aa (pv 1) (aa (pv 4) (aa (aC vI hr (by decide) rfl (aa (pv 0) (aa af ac))) ac)))))
   (ag (al (i:=9) nd rfl (Or.inl rfl) (aJ (aa bF (aa bF (aa bF ac))))))) ao)
   (ae (aA (ap (gg hu) af (pv 5) (by with_unfolding_all rfl)) (ae (al (i:=10) nd rfl (Or.inl rfl) (ak aI (aC vI hr (by decide) rfl (aa (pv 0) (aa af ac))) (aw bw rfl B.len_ bQ (aa (pv 7) ac))))
   (ae (al (i:=7) nd rfl (Or.inl rfl) (ak av (ak av (bP d0 (pv 7) cy (cz (pv 10))) (aJ (aa (aC wM hr (by decide) rfl (aa (pv 1) (aa (aC vI hr (by decide) rfl (aa (pv 0) (aa af ac))) ac))) ac))) (bP d0 (pv 7) (cz (ak av (pv 10) af)) cy)))
   (ag (al (i:=9) nd rfl (Or.inl rfl) (aJ (aa bF (aa bF (aa bF ac)))))))) ao)
   (ae (aA (ap (gg hu) af (pv 5) (by with_unfolding_all rfl)) (ae (al (i:=7) nd rfl (Or.inl rfl) (ak av (pv 7) (cB (ix:=[none,none,some 3]) [".0","_law_k","_law_lines"] (bz rfl (by decide+kernel) rfl rfl rfl) rfl (fv rfl B.range_ (aa (ak l0 af (aw bw rfl B.len_ bQ (aa (pv 7) ac))) ac)) (fun cl s H fp=>(aW (i:=1) (show ([".0","_law_k","_law_lines"]:List Str).Nodup by decide+kernel) rfl (Or.inl rfl))) (fun cl s H fp=>cA) (fun cl s H fp=>(aE (aM hu) (pv 2) af (fun _ _=>rfl))))))
   (ag (al (i:=9) nd rfl (Or.inl rfl) (aJ (aa bF (aa bF (aa bF ac))))))) ao)
   (ae (aA (ap (gg hu) af (pv 5) (by with_unfolding_all rfl)) (ae (al (i:=6) nd rfl (Or.inl rfl) (aC wy hr (by decide) rfl (aa (pv 1) (aa (aC vI hr (by decide) rfl (aa (pv 0) (aa af ac))) ac))))
   (ag (al (i:=9) nd rfl (Or.inl rfl) (aJ (aa bF (aa bF (aa bF ac))))))) ao)
   (ae (aA (ap (gf hu) (aC w6 hr (by decide) rfl (aa (pv 6) (aa (aL cf rfl B.list_ cS (aa (pv 7) ac)) (aa (aL cf rfl B.list_ cS (aa (pv 8) ac)) ac)))) (pv 9) (ax _)) (ag (aq bF)) ao)
   (ae (al (i:=11) nd rfl (Or.inl rfl) (rZ vv vV hr (by decide) rfl (aa (pv 1) (aa (aL cf rfl B.list_ cS (aa (pv 3) ac)) (aa (aL cf rfl B.list_ cS (aa (pv 4) ac)) ac)))))
   (ae (aA (ap (gf hu) (aC xC hr (by decide) rfl (aa (pv 11) (aa (aC vW hr (by decide) rfl (aa (pv 1) (aa (pv 4) (aa (aC vI hr (by decide) rfl (aa (pv 0) (aa af ac))) ac)))) ac))) (aJ (aa bF (aa bF (aa bF ac)))) (ax _)) (ag (aq bF)) ao)
   (ag (aq (gP (dM (aN hu) (gF xu hr (by decide) (pv 11)) (pv 3) (ax _)) (kS (dM (aN hu) (gF zb hr (by decide) (pv 11)) (pv 4) (ax _))))))))))))))))))))))
def mkC (vJ vR vK vO vN vL vH vP:Addr):RCl RK:=⟨fun k=>match k with | .Rule=>vJ | .Unlike=>vJ | .Sum=>vR | .Rising=>vK | .Seen=>vO | .Count=>vN | .Joined=>vL | .NoSquare=>vH | .Ring=>vP,fun k=>match k with | .Rule=>false | _=>true⟩
def mkD (vM:Addr):RCl PzK:=⟨fun _=>vM,fun _=>true⟩
set_option maxHeartbeats 40000000 in
theorem vh {l:PySem.W.OpenLaw} {w:World} {K:PySem.W.Frag} {h:Heap} {mg:Str→Option Value} {fa:Addr} (X:K.In h) (G:h.Ns mainGlobals mg) (hfa:mg "law"=some (.ref fa))
  {f0 f1 f2 f3 f4 f5 f6 f7 f8 f9 f10 f11 f12 f13 f14 f15 f16 f17 f18 f19 f20 f21 f22 f23 f24 f25 f26 f27 f28 f29 f30 f31 f32 f33 f34 f35:Addr} {fd0 fd1 fd2 fd3 fd4 fd5 fd6 fd7 fd8 fd9 fd10 fd11 fd12 fd13 fd14 fd15 fd16 fd17 fd18 fd19 fd20 fd21 fd22 fd23 fd24 fd25 fd26 fd27 fd28 fd29 fd30 fd31 fd32 fd33 fd34 fd35:FuncData} {vJ vR vK vO vN vL vH vP vM:Addr} {wN:Addr} {yX:Option Addr} {yY:Nat} {yZ:Array (Option Value)} {y0 y7 y8:Tok} {w9:Addr} {zc:Option Addr} {zd:Nat} {ze:Array (Option Value)} {zf zg zh:Tok} {xE:Addr} {zu:Option Addr} {zv:Nat} {zw:Array (Option Value)} {zx zy zA zB:Tok} {tk_FIGURES:Tok} {tk_MOST_CELLS:Tok} {tk_MOST_FIGURES:Tok} {tk_MOST_NUMBER:Tok} {tk_MOST_RULES:Tok} {tk_MOST_SIDE:Tok} {tk_MOST_SIGNS:Tok} {x_ClueError x_NoFloor x_NoFilling x_NoRule x_NoPuzzle x_TooMany x_NotOne x_NoMove x_NoText x_NoName x_NoRow x_BadThought:Addr} {cE cC0:Value} {dE dD:Option Addr} {esE:Array DictEntry} {nE:Nat} {sE slD:Array (Option Value)} {ND:Addr} {cdD:ClassData} {nm_NoFloor zF:Str} {N_NoFloor:Addr} {bs_NoFloor:List Value} {hd_NoFloor:Bool} {sn_NoFloor:List Str} {sub_NoFloor:List Value} {ab_NoFloor:Bool} {col_NoFloor:Option Bool} {dd_NoFloor:Option Addr} {k0_NoFloor k1_NoFloor k2_NoFloor k3_NoFloor k5_NoFloor:Option Value} {cN_NoFloor:Value} {dN_NoFloor:Option Addr} {es_NoFloor:Array DictEntry} {n_NoFloor:Nat} {sN_NoFloor:Array (Option Value)} {nm_NoRule zG:Str} {N_NoRule:Addr} {bs_NoRule:List Value} {hd_NoRule:Bool} {sn_NoRule:List Str} {sub_NoRule:List Value} {ab_NoRule:Bool} {col_NoRule:Option Bool} {dd_NoRule:Option Addr} {k0_NoRule k1_NoRule k2_NoRule k3_NoRule k5_NoRule:Option Value} {cN_NoRule:Value} {dN_NoRule:Option Addr} {es_NoRule:Array DictEntry} {n_NoRule:Nat} {sN_NoRule:Array (Option Value)} {nm_NoPuzzle zE:Str} {N_NoPuzzle:Addr} {bs_NoPuzzle:List Value} {hd_NoPuzzle:Bool} {sn_NoPuzzle:List Str} {sub_NoPuzzle:List Value} {ab_NoPuzzle:Bool} {col_NoPuzzle:Option Bool} {dd_NoPuzzle:Option Addr} {k0_NoPuzzle k1_NoPuzzle k2_NoPuzzle k3_NoPuzzle k5_NoPuzzle:Option Value} {cN_NoPuzzle:Value} {dN_NoPuzzle:Option Addr} {es_NoPuzzle:Array DictEntry} {n_NoPuzzle:Nat} {sN_NoPuzzle:Array (Option Value)}
  (yF:PySem.W.nsIn K mainGlobals "Unlike"=some (some (.ref vJ))) (q_Sum:PySem.W.nsIn K mainGlobals "Sum"=some (some (.ref vR))) (yG:PySem.W.nsIn K mainGlobals "Rising"=some (some (.ref vK))) (zC:PySem.W.nsIn K mainGlobals "Seen"=some (some (.ref vO))) (zi:PySem.W.nsIn K mainGlobals "Count"=some (some (.ref vN))) (yH:PySem.W.nsIn K mainGlobals "Joined"=some (some (.ref vL))) (xV:PySem.W.nsIn K mainGlobals "NoSquare"=some (some (.ref vH))) (zD:PySem.W.nsIn K mainGlobals "Ring"=some (some (.ref vP))) (yI:PySem.W.nsIn K mainGlobals "Puzzle"=some (some (.ref vM))) (a0:PySem.W.nsIn K mainGlobals "is_whole"=some (some (.ref f0))) (a1:PySem.W.nsIn K mainGlobals "many_cells"=some (some (.ref f1))) (xW:PySem.W.findIn K (.ref vJ) "__init__"=some (some (.ref f2))) (zj:PySem.W.findIn K (.ref vR) "__init__"=some (some (.ref f2))) (xX:PySem.W.findIn K (.ref vK) "__init__"=some (some (.ref f2))) (yJ:PySem.W.findIn K (.ref vO) "__init__"=some (some (.ref f2))) (yu:PySem.W.findIn K (.ref vN) "__init__"=some (some (.ref f2))) (xY:PySem.W.findIn K (.ref vL) "__init__"=some (some (.ref f2))) (xF:PySem.W.findIn K (.ref vH) "__init__"=some (some (.ref f2))) (yK:PySem.W.findIn K (.ref vP) "__init__"=some (some (.ref f2))) (a3_Unlike:PySem.W.findIn K (.ref vJ) "line"=some (some (.ref f3))) (a3_Sum:PySem.W.findIn K (.ref vR) "line"=some (some (.ref f3))) (a3_Rising:PySem.W.findIn K (.ref vK) "line"=some (some (.ref f3))) (a3_Seen:PySem.W.findIn K (.ref vO) "line"=some (some (.ref f3))) (a3_Count:PySem.W.findIn K (.ref vN) "line"=some (some (.ref f3))) (a3_Joined:PySem.W.findIn K (.ref vL) "line"=some (some (.ref f3))) (a3_NoSquare:PySem.W.findIn K (.ref vH) "line"=some (some (.ref f3))) (a3_Ring:PySem.W.findIn K (.ref vP) "line"=some (some (.ref f3))) (a4:PySem.W.nsIn K mainGlobals "number_in"=some (some (.ref f4))) (a5_Puzzle:PySem.W.findIn K (.ref vM) "clues"=some (some (.ref f5))) (a6:PySem.W.nsIn K mainGlobals "_law_at"=some (some (.ref f6))) (a7:PySem.W.nsIn K mainGlobals "_law_stream"=some (some (.ref f7))) (a8:PySem.W.nsIn K mainGlobals "_law_order"=some (some (.ref f8))) (a9:PySem.W.nsIn K mainGlobals "_law_kept"=some (some (.ref f9))) (a10:PySem.W.nsIn K mainGlobals "_law_seen"=some (some (.ref f10))) (a11:PySem.W.nsIn K mainGlobals "_law_bad_floor"=some (some (.ref f11))) (a12:PySem.W.nsIn K mainGlobals "_law_bad_line"=some (some (.ref f12))) (a13:PySem.W.nsIn K mainGlobals "_law_bad_clues"=some (some (.ref f13))) (a14:PySem.W.nsIn K mainGlobals "_law_named"=some (some (.ref f14))) (a15:PySem.W.nsIn K mainGlobals "is_from_one_to"=some (some (.ref f15))) (a16:PySem.W.nsIn K mainGlobals "number_within"=some (some (.ref f16))) (a17:PySem.W.nsIn K mainGlobals "is_filling"=some (some (.ref f17))) (a18_Puzzle:PySem.W.findIn K (.ref vM) "lines"=some (some (.ref f18))) (a19:PySem.W.nsIn K mainGlobals "_law_floor"=some (some (.ref f19))) (a20:PySem.W.nsIn K mainGlobals "_law_line"=some (some (.ref f20))) (a21:PySem.W.nsIn K mainGlobals "_law_filling"=some (some (.ref f21))) (a22:PySem.W.nsIn K mainGlobals "floor_of"=some (some (.ref f22))) (a23:PySem.W.nsIn K mainGlobals "first_within"=some (some (.ref f23))) (a24:PySem.W.nsIn K mainGlobals "told_cells"=some (some (.ref f24))) (a25:PySem.W.nsIn K mainGlobals "rule_by"=some (some (.ref f25))) (a26:PySem.W.nsIn K mainGlobals "checked_clues"=some (some (.ref f26))) (a27:PySem.W.nsIn K mainGlobals "cells_of"=some (some (.ref f27))) (a28:PySem.W.nsIn K mainGlobals "checked_floor"=some (some (.ref f28))) (a29:PySem.W.nsIn K mainGlobals "read_rule"=some (some (.ref f29))) (a30:PySem.W.nsIn K mainGlobals "read_rules"=some (some (.ref f30))) (xZ:PySem.W.findIn K (.ref vM) "__init__"=some (some (.ref f31))) (a32_Puzzle:PySem.W.findIn K (.ref vM) "clued"=some (some (.ref f32))) (a33:PySem.W.nsIn K mainGlobals "_law_refused"=some (some (.ref f33))) (a34:PySem.W.nsIn K mainGlobals "_law_clued"=some (some (.ref f34))) (a35:PySem.W.nsIn K mainGlobals "law"=some (some (.ref f35))) (F0:Fun K "is_whole" "is_whole" iD f0 fd0) (F1:Fun K "many_cells" "many_cells" gs f1 fd1) (F2:Fun K "__init__" "Rule.__init__" eF f2 fd2) (fn2:PySem.W.isFn K (.ref f2)=true) (F3:Fun K "line" "Rule.line" gI f3 fd3) (fn3:PySem.W.isFn K (.ref f3)=true) (F4:Fun K "number_in" "number_in" gJ f4 fd4) (F5:Fun K "clues" "Puzzle.clues" fh f5 fd5) (fn5:PySem.W.isFn K (.ref f5)=true) (F6:Fun K "_law_at" "_law_at" jh f6 fd6) (F7:Fun K "_law_stream" "_law_stream" fG f7 fd7) (F8:Fun K "_law_order" "_law_order" gt f8 fd8) (F9:Fun K "_law_kept" "_law_kept" gK f9 fd9) (F10:Fun K "_law_seen" "_law_seen" gL f10 fd10) (F11:Fun K "_law_bad_floor" "_law_bad_floor" dI f11 fd11) (F12:Fun K "_law_bad_line" "_law_bad_line" eH f12 fd12) (F13:Fun K "_law_bad_clues" "_law_bad_clues" dJ f13 fd13) (F14:Fun K "_law_named" "_law_named" gu f14 fd14) (F15:Fun K "is_from_one_to" "is_from_one_to" dL f15 fd15) (F16:Fun K "number_within" "number_within" eI f16 fd16) (F17:Fun K "is_filling" "is_filling" gw f17 fd17) (F18:Fun K "lines" "Puzzle.lines" fi f18 fd18) (fn18:PySem.W.isFn K (.ref f18)=true) (F19:Fun K "_law_floor" "_law_floor" gy f19 fd19) (F20:Fun K "_law_line" "_law_line" gM f20 fd20) (F21:Fun K "_law_filling" "_law_filling" fj f21 fd21) (F22:Fun K "floor_of" "floor_of" iE f22 fd22) (F23:Fun K "first_within" "first_within" fk f23 fd23) (F24:Fun K "told_cells" "told_cells" gz f24 fd24) (F25:Fun K "rule_by" "rule_by" ji f25 fd25) (F26:Fun K "checked_clues" "checked_clues" eJ f26 fd26) (F27:Fun K "cells_of" "cells_of" iF f27 fd27) (F28:Fun K "checked_floor" "checked_floor" eK f28 fd28) (F29:Fun K "read_rule" "read_rule" gN f29 fd29) (F30:Fun K "read_rules" "read_rules" gA f30 fd30) (F31:Fun K "__init__" "Puzzle.__init__" dq f31 fd31) (fn31:PySem.W.isFn K (.ref f31)=true) (F32:Fun K "clued" "Puzzle.clued" fm f32 fd32) (fn32:PySem.W.isFn K (.ref f32)=true) (F33:Fun K "_law_refused" "_law_refused" fo f33 fd33) (F34:Fun K "_law_clued" "_law_clued" gB f34 fd34) (F35:Fun K "law" "law" jO f35 fd35) (x0:PySem.W.makesIn K vJ=true) (x2:PySem.W.keepIn K (.ref vJ)=true) (x3:PySem.W.plainGet K vJ Str.empty=true) (x4:PySem.W.hasDictIn K vJ=true) (x5:PySem.W.plainOver K vJ=true) (x6:PySem.W.findIn K (.ref vJ) "__setattr__"=some (some (.builtin "object.__setattr__"))) (zk:PySem.W.makesIn K vR=true) (zl:PySem.W.keepIn K (.ref vR)=true) (zm:PySem.W.plainGet K vR Str.empty=true) (zn:PySem.W.hasDictIn K vR=true) (zo:PySem.W.plainOver K vR=true) (zp:PySem.W.findIn K (.ref vR) "__setattr__"=some (some (.builtin "object.__setattr__"))) (x8:PySem.W.makesIn K vK=true) (x9:PySem.W.keepIn K (.ref vK)=true) (ya:PySem.W.plainGet K vK Str.empty=true) (yb:PySem.W.hasDictIn K vK=true) (yc:PySem.W.plainOver K vK=true) (yd:PySem.W.findIn K (.ref vK) "__setattr__"=some (some (.builtin "object.__setattr__"))) (yL:PySem.W.makesIn K vO=true) (yM:PySem.W.keepIn K (.ref vO)=true) (yN:PySem.W.plainGet K vO Str.empty=true) (yO:PySem.W.hasDictIn K vO=true) (yP:PySem.W.plainOver K vO=true) (yQ:PySem.W.findIn K (.ref vO) "__setattr__"=some (some (.builtin "object.__setattr__"))) (yw:PySem.W.makesIn K vN=true) (yx:PySem.W.keepIn K (.ref vN)=true) (yy:PySem.W.plainGet K vN Str.empty=true) (yz:PySem.W.hasDictIn K vN=true) (yA:PySem.W.plainOver K vN=true) (yB:PySem.W.findIn K (.ref vN) "__setattr__"=some (some (.builtin "object.__setattr__"))) (ye:PySem.W.makesIn K vL=true) (yf:PySem.W.keepIn K (.ref vL)=true) (yg:PySem.W.plainGet K vL Str.empty=true) (yh:PySem.W.hasDictIn K vL=true) (yi:PySem.W.plainOver K vL=true) (yj:PySem.W.findIn K (.ref vL) "__setattr__"=some (some (.builtin "object.__setattr__"))) (xG:PySem.W.makesIn K vH=true) (xH:PySem.W.keepIn K (.ref vH)=true) (xI:PySem.W.plainGet K vH Str.empty=true) (xJ:PySem.W.hasDictIn K vH=true) (xK:PySem.W.plainOver K vH=true) (xL:PySem.W.findIn K (.ref vH) "__setattr__"=some (some (.builtin "object.__setattr__"))) (yR:PySem.W.makesIn K vP=true) (yS:PySem.W.keepIn K (.ref vP)=true) (yT:PySem.W.plainGet K vP Str.empty=true) (yU:PySem.W.hasDictIn K vP=true) (yV:PySem.W.plainOver K vP=true) (yW:PySem.W.findIn K (.ref vP) "__setattr__"=some (some (.builtin "object.__setattr__"))) (yk:PySem.W.makesIn K vM=true) (yl:PySem.W.keepIn K (.ref vM)=true) (ym:PySem.W.plainGet K vM Str.empty=true) (yn:PySem.W.hasDictIn K vM=true) (yo:PySem.W.plainOver K vM=true) (yp:PySem.W.findIn K (.ref vM) "__setattr__"=some (some (.builtin "object.__setattr__"))) (wa:PySem.W.findIn K (.ref vJ) "amount"=some none) (wO:PySem.W.findIn K (.ref vR) "amount"=some none) (wb:PySem.W.findIn K (.ref vK) "amount"=some none) (wz:PySem.W.findIn K (.ref vO) "amount"=some none) (wk:PySem.W.findIn K (.ref vN) "amount"=some none) (wc:PySem.W.findIn K (.ref vL) "amount"=some none) (vX:PySem.W.findIn K (.ref vH) "amount"=some none) (wA:PySem.W.findIn K (.ref vP) "amount"=some none) (wl:PySem.W.findIn K (.ref vJ) "cells"=some none) (xa:PySem.W.findIn K (.ref vR) "cells"=some none) (wn:PySem.W.findIn K (.ref vK) "cells"=some none) (wP:PySem.W.findIn K (.ref vO) "cells"=some none) (wB:PySem.W.findIn K (.ref vN) "cells"=some none) (wo:PySem.W.findIn K (.ref vL) "cells"=some none) (vY:PySem.W.findIn K (.ref vH) "cells"=some none) (wQ:PySem.W.findIn K (.ref vP) "cells"=some none) (wp:PySem.W.findIn K (.ref vJ) "floor"=some none) (xb:PySem.W.findIn K (.ref vR) "floor"=some none) (wq:PySem.W.findIn K (.ref vK) "floor"=some none) (wR:PySem.W.findIn K (.ref vO) "floor"=some none) (wC:PySem.W.findIn K (.ref vN) "floor"=some none) (wr:PySem.W.findIn K (.ref vL) "floor"=some none) (vZ:PySem.W.findIn K (.ref vH) "floor"=some none) (wS:PySem.W.findIn K (.ref vP) "floor"=some none) (wD:PySem.W.findIn K (.ref vJ) "mark"=some none) (xm:PySem.W.findIn K (.ref vR) "mark"=some none) (wE:PySem.W.findIn K (.ref vK) "mark"=some none) (xf:PySem.W.findIn K (.ref vO) "mark"=some none) (wT:PySem.W.findIn K (.ref vN) "mark"=some none) (wF:PySem.W.findIn K (.ref vL) "mark"=some none) (we:PySem.W.findIn K (.ref vH) "mark"=some none) (xg:PySem.W.findIn K (.ref vP) "mark"=some none) (wt:PySem.W.findIn K (.ref vJ) "words"=some none) (xh:PySem.W.findIn K (.ref vR) "words"=some none) (wu:PySem.W.findIn K (.ref vK) "words"=some none) (wU:PySem.W.findIn K (.ref vO) "words"=some none) (wG:PySem.W.findIn K (.ref vN) "words"=some none) (wv:PySem.W.findIn K (.ref vL) "words"=some none) (v6:PySem.W.findIn K (.ref vH) "words"=some none) (wV:PySem.W.findIn K (.ref vP) "words"=some none) (ww:PySem.W.findIn K (.ref vM) "floor"=some none) (wx:PySem.W.findIn K (.ref vM) "given"=some none) (wH:PySem.W.findIn K (.ref vM) "laws"=some none) (wI:PySem.W.nsIn K mainGlobals "OF_ALL_CELLS"=some (some (.ref wN))) (wJ:K.lookup wN=some ⟨.type "tuple",yX,.seq #[.str (tx [106,111,105,110,101,100]) y0,.str (tx [110,111,115,113,117,97,114,101]) y7,.str (tx [114,105,110,103]) y8] yY,yZ⟩) (wW:PySem.W.nsIn K mainGlobals "WITH_NUMBER"=some (some (.ref w9))) (wX:K.lookup w9=some ⟨.type "tuple",zc,.seq #[.str (tx [115,117,109]) zf,.str (tx [115,101,101,110]) zg,.str (tx [99,111,117,110,116]) zh] zd,ze⟩) (xn:PySem.W.nsIn K mainGlobals "WITH_SIGN"=some (some (.ref xE))) (xo:K.lookup xE=some ⟨.type "tuple",zu,.seq #[.str (tx [99,111,117,110,116]) zx,.str (tx [106,111,105,110,101,100]) zy,.str (tx [110,111,115,113,117,97,114,101]) zA,.str (tx [114,105,110,103]) zB] zv,zw⟩) (yq:PySem.W.nsIn K mainGlobals "FIGURES"=some (some (.str (tx [48,49,50,51,52,53,54,55,56,57]) tk_FIGURES))) (xp:PySem.W.nsIn K mainGlobals "MOST_CELLS"=some (some (.int 16 tk_MOST_CELLS))) (wY:PySem.W.nsIn K mainGlobals "MOST_FIGURES"=some (some (.int 9 tk_MOST_FIGURES))) (xi:PySem.W.nsIn K mainGlobals "MOST_NUMBER"=some (some (.int 99 tk_MOST_NUMBER))) (xq:PySem.W.nsIn K mainGlobals "MOST_RULES"=some (some (.int 12 tk_MOST_RULES))) (xM:PySem.W.nsIn K mainGlobals "MOST_SIDE"=some (some (.int 6 tk_MOST_SIDE))) (xt:PySem.W.nsIn K mainGlobals "MOST_SIGNS"=some (some (.int 6 tk_MOST_SIGNS))) (z_len:PySem.W.nsIn K mainGlobals "len"=some none) (z_abs:PySem.W.nsIn K mainGlobals "abs"=some none) (z_min:PySem.W.nsIn K mainGlobals "min"=some none) (z_max:PySem.W.nsIn K mainGlobals "max"=some none) (z_sorted:PySem.W.nsIn K mainGlobals "sorted"=some none) (z_any:PySem.W.nsIn K mainGlobals "any"=some none) (z_isinstance:PySem.W.nsIn K mainGlobals "isinstance"=some none) (z_list:PySem.W.nsIn K mainGlobals "list"=some none) (z_int:PySem.W.nsIn K mainGlobals "int"=some none) (z_bool:PySem.W.nsIn K mainGlobals "bool"=some none) (z_str:PySem.W.nsIn K mainGlobals "str"=some none) (z_tuple:PySem.W.nsIn K mainGlobals "tuple"=some none) (z_reversed:PySem.W.nsIn K mainGlobals "reversed"=some none) (z_set:PySem.W.nsIn K mainGlobals "set"=some none) (z_range:PySem.W.nsIn K mainGlobals "range"=some none) (z_zip:PySem.W.nsIn K mainGlobals "zip"=some none) (z_all:PySem.W.nsIn K mainGlobals "all"=some none) (z_sum:PySem.W.nsIn K mainGlobals "sum"=some none) (z_enumerate:PySem.W.nsIn K mainGlobals "enumerate"=some none) (e_ClueError:PySem.W.nsIn K mainGlobals "ClueError"=some (some (.ref x_ClueError))) (e_NoFloor:PySem.W.nsIn K mainGlobals "NoFloor"=some (some (.ref x_NoFloor))) (e_NoFilling:PySem.W.nsIn K mainGlobals "NoFilling"=some (some (.ref x_NoFilling))) (e_NoRule:PySem.W.nsIn K mainGlobals "NoRule"=some (some (.ref x_NoRule))) (e_NoPuzzle:PySem.W.nsIn K mainGlobals "NoPuzzle"=some (some (.ref x_NoPuzzle))) (e_TooMany:PySem.W.nsIn K mainGlobals "TooMany"=some (some (.ref x_TooMany))) (e_NotOne:PySem.W.nsIn K mainGlobals "NotOne"=some (some (.ref x_NotOne))) (e_NoMove:PySem.W.nsIn K mainGlobals "NoMove"=some (some (.ref x_NoMove))) (e_NoText:PySem.W.nsIn K mainGlobals "NoText"=some (some (.ref x_NoText))) (e_NoName:PySem.W.nsIn K mainGlobals "NoName"=some (some (.ref x_NoName))) (e_NoRow:PySem.W.nsIn K mainGlobals "NoRow"=some (some (.ref x_NoRow))) (e_BadThought:PySem.W.nsIn K mainGlobals "BadThought"=some (some (.ref x_BadThought))) (z_ValueError:PySem.W.nsIn K mainGlobals "ValueError"=some none) (D1:K.lookup x_ClueError=some ⟨cC0,dD,.cls cdD,slD⟩) (D2:cdD.ns=ND) (D3:K.lookup ND=some ⟨cE,dE,.dict esE nE,sE⟩) (D4:eZ esE=true) (r1_NoFloor:K.lookup x_NoFloor=some (excClassObj nm_NoFloor zF x_NoFloor N_NoFloor bs_NoFloor (.ref x_ClueError::VE) hd_NoFloor sn_NoFloor sub_NoFloor ab_NoFloor col_NoFloor dd_NoFloor k0_NoFloor k1_NoFloor k2_NoFloor k3_NoFloor k5_NoFloor "ValueError.__new__")) (r2_NoFloor:K.lookup N_NoFloor=some ⟨cN_NoFloor,dN_NoFloor,.dict es_NoFloor n_NoFloor,sN_NoFloor⟩) (r3_NoFloor:eZ es_NoFloor=true) (f1_NoFloor:PySem.W.findIn K (.ref x_NoFloor) "__getattribute__"=some (some (.builtin "BaseException.__getattribute__"))) (f2_NoFloor:PySem.W.findIn K (.ref x_NoFloor) "__getattr__"=some none) (f3_NoFloor:PySem.W.findIn K (.ref x_NoFloor) "__class__"=some (some (.builtin "object.__class__"))) (f4_NoFloor:PySem.W.mroIn K x_NoFloor (.type "object")=some true) (f5_NoFloor:PySem.W.mroIn K x_NoFloor (.type "BaseException")=some true) (f6_NoFloor:PySem.W.kitOne K (.ref x_NoFloor) (.type "ValueError")=some true) (f7_NoFloor:PySem.W.exmOne K (.ref x_NoFloor) (.ref x_ClueError)=some true) (g_NoFloor_BadThought:PySem.W.kitOne K (.ref x_NoFloor) (.ref x_BadThought)=some false) (g_NoFloor_NoFilling:PySem.W.kitOne K (.ref x_NoFloor) (.ref x_NoFilling)=some false) (g_NoFloor_NoMove:PySem.W.kitOne K (.ref x_NoFloor) (.ref x_NoMove)=some false) (g_NoFloor_NoName:PySem.W.kitOne K (.ref x_NoFloor) (.ref x_NoName)=some false) (g_NoFloor_NoRow:PySem.W.kitOne K (.ref x_NoFloor) (.ref x_NoRow)=some false) (g_NoFloor_NoText:PySem.W.kitOne K (.ref x_NoFloor) (.ref x_NoText)=some false) (g_NoFloor_NotOne:PySem.W.kitOne K (.ref x_NoFloor) (.ref x_NotOne)=some false) (g_NoFloor_TooMany:PySem.W.kitOne K (.ref x_NoFloor) (.ref x_TooMany)=some false) (g_NoFloor_NoRule:PySem.W.kitOne K (.ref x_NoFloor) (.ref x_NoRule)=some false) (g_NoFloor_NoPuzzle:PySem.W.kitOne K (.ref x_NoFloor) (.ref x_NoPuzzle)=some false) (r1_NoRule:K.lookup x_NoRule=some (excClassObj nm_NoRule zG x_NoRule N_NoRule bs_NoRule (.ref x_ClueError::VE) hd_NoRule sn_NoRule sub_NoRule ab_NoRule col_NoRule dd_NoRule k0_NoRule k1_NoRule k2_NoRule k3_NoRule k5_NoRule "ValueError.__new__")) (r2_NoRule:K.lookup N_NoRule=some ⟨cN_NoRule,dN_NoRule,.dict es_NoRule n_NoRule,sN_NoRule⟩) (r3_NoRule:eZ es_NoRule=true) (f1_NoRule:PySem.W.findIn K (.ref x_NoRule) "__getattribute__"=some (some (.builtin "BaseException.__getattribute__"))) (f2_NoRule:PySem.W.findIn K (.ref x_NoRule) "__getattr__"=some none) (f3_NoRule:PySem.W.findIn K (.ref x_NoRule) "__class__"=some (some (.builtin "object.__class__"))) (f4_NoRule:PySem.W.mroIn K x_NoRule (.type "object")=some true) (f5_NoRule:PySem.W.mroIn K x_NoRule (.type "BaseException")=some true) (f6_NoRule:PySem.W.kitOne K (.ref x_NoRule) (.type "ValueError")=some true) (f7_NoRule:PySem.W.exmOne K (.ref x_NoRule) (.ref x_ClueError)=some true) (g_NoRule_BadThought:PySem.W.kitOne K (.ref x_NoRule) (.ref x_BadThought)=some false) (g_NoRule_NoFilling:PySem.W.kitOne K (.ref x_NoRule) (.ref x_NoFilling)=some false) (g_NoRule_NoMove:PySem.W.kitOne K (.ref x_NoRule) (.ref x_NoMove)=some false) (g_NoRule_NoName:PySem.W.kitOne K (.ref x_NoRule) (.ref x_NoName)=some false) (g_NoRule_NoRow:PySem.W.kitOne K (.ref x_NoRule) (.ref x_NoRow)=some false) (g_NoRule_NoText:PySem.W.kitOne K (.ref x_NoRule) (.ref x_NoText)=some false) (g_NoRule_NotOne:PySem.W.kitOne K (.ref x_NoRule) (.ref x_NotOne)=some false) (g_NoRule_TooMany:PySem.W.kitOne K (.ref x_NoRule) (.ref x_TooMany)=some false) (g_NoRule_NoFloor:PySem.W.kitOne K (.ref x_NoRule) (.ref x_NoFloor)=some false) (g_NoRule_NoPuzzle:PySem.W.kitOne K (.ref x_NoRule) (.ref x_NoPuzzle)=some false) (r1_NoPuzzle:K.lookup x_NoPuzzle=some (excClassObj nm_NoPuzzle zE x_NoPuzzle N_NoPuzzle bs_NoPuzzle (.ref x_ClueError::VE) hd_NoPuzzle sn_NoPuzzle sub_NoPuzzle ab_NoPuzzle col_NoPuzzle dd_NoPuzzle k0_NoPuzzle k1_NoPuzzle k2_NoPuzzle k3_NoPuzzle k5_NoPuzzle "ValueError.__new__")) (r2_NoPuzzle:K.lookup N_NoPuzzle=some ⟨cN_NoPuzzle,dN_NoPuzzle,.dict es_NoPuzzle n_NoPuzzle,sN_NoPuzzle⟩) (r3_NoPuzzle:eZ es_NoPuzzle=true) (f1_NoPuzzle:PySem.W.findIn K (.ref x_NoPuzzle) "__getattribute__"=some (some (.builtin "BaseException.__getattribute__"))) (f2_NoPuzzle:PySem.W.findIn K (.ref x_NoPuzzle) "__getattr__"=some none) (f3_NoPuzzle:PySem.W.findIn K (.ref x_NoPuzzle) "__class__"=some (some (.builtin "object.__class__"))) (f4_NoPuzzle:PySem.W.mroIn K x_NoPuzzle (.type "object")=some true) (f5_NoPuzzle:PySem.W.mroIn K x_NoPuzzle (.type "BaseException")=some true) (f6_NoPuzzle:PySem.W.kitOne K (.ref x_NoPuzzle) (.type "ValueError")=some true) (f7_NoPuzzle:PySem.W.exmOne K (.ref x_NoPuzzle) (.ref x_ClueError)=some true) (g_NoPuzzle_BadThought:PySem.W.kitOne K (.ref x_NoPuzzle) (.ref x_BadThought)=some false) (g_NoPuzzle_NoFilling:PySem.W.kitOne K (.ref x_NoPuzzle) (.ref x_NoFilling)=some false) (g_NoPuzzle_NoMove:PySem.W.kitOne K (.ref x_NoPuzzle) (.ref x_NoMove)=some false) (g_NoPuzzle_NoName:PySem.W.kitOne K (.ref x_NoPuzzle) (.ref x_NoName)=some false) (g_NoPuzzle_NoRow:PySem.W.kitOne K (.ref x_NoPuzzle) (.ref x_NoRow)=some false) (g_NoPuzzle_NoText:PySem.W.kitOne K (.ref x_NoPuzzle) (.ref x_NoText)=some false) (g_NoPuzzle_NotOne:PySem.W.kitOne K (.ref x_NoPuzzle) (.ref x_NotOne)=some false) (g_NoPuzzle_TooMany:PySem.W.kitOne K (.ref x_NoPuzzle) (.ref x_TooMany)=some false) (g_NoPuzzle_NoFloor:PySem.W.kitOne K (.ref x_NoPuzzle) (.ref x_NoFloor)=some false) (g_NoPuzzle_NoRule:PySem.W.kitOne K (.ref x_NoPuzzle) (.ref x_NoRule)=some false):
  ∃ fd:FuncData,(∀ (s:Shared) (v:Value),BindsTo s fd ⟨[v],[]⟩ [("_law_script",v)])∧∀ base:Heap,K.In base→base.Ns mainGlobals mg→FnOk l.prog w K mg base CX0 11 fa fd ["_law_script"] (mP K):=by
 have e:=hfa.symm.trans (PySem.W.mg_of X G a35)
 cases e
 have B:Bt2 mg:=⟨⟨PySem.W.mg_none_of X G z_len,PySem.W.mg_none_of X G z_abs,PySem.W.mg_none_of X G z_min,PySem.W.mg_none_of X G z_max,PySem.W.mg_none_of X G z_sorted,PySem.W.mg_none_of X G z_any,PySem.W.mg_none_of X G z_isinstance,PySem.W.mg_none_of X G z_list,PySem.W.mg_none_of X G z_int,PySem.W.mg_none_of X G z_bool,PySem.W.mg_none_of X G z_str,PySem.W.mg_none_of X G z_tuple,PySem.W.mg_none_of X G z_reversed,PySem.W.mg_none_of X G z_set,PySem.W.mg_none_of X G z_range,PySem.W.mg_none_of X G z_zip⟩,PySem.W.mg_none_of X G z_all,PySem.W.mg_none_of X G z_sum,PySem.W.mg_none_of X G z_enumerate⟩
 obtain ⟨oc,od,kV,doc,pm,an,cdv,ct,osl,rfl,lk,hcd⟩:=F35.ex
 refine ⟨PySem.W.fnOf "law" "law" (ba jO) (aU jO) (aj jO) .none kV doc pm an cdv ct,fun s v=>.of_eq rfl,fun base _ _=>?_⟩
 let c:RCl RK:=mkC vJ vR vK vO vN vL vH vP
 let d:RCl PzK:=mkD vM
 have yr:=PySem.W.mg_of X G yq
 have xw:=PySem.W.mg_of X G xp
 have wZ:=PySem.W.mg_of X G wY
 have xl:=PySem.W.mg_of X G xi
 have xA:=PySem.W.mg_of X G xq
 have xj:=PySem.W.mg_of X G xM
 have xx:=PySem.W.mg_of X G xt
 let a:EA:=(⟨x_ClueError,x_NoFloor,x_NoFilling,x_NoRule,x_NoPuzzle,x_TooMany,x_NotOne,x_NoMove,x_NoText,x_NoName,x_NoRow,x_BadThought⟩:EA)
 have EM:ErrM mg a:=⟨PySem.W.mg_of X G e_ClueError,PySem.W.mg_of X G e_NoFloor,PySem.W.mg_of X G e_NoFilling,PySem.W.mg_of X G e_NoRule,PySem.W.mg_of X G e_NoPuzzle,PySem.W.mg_of X G e_TooMany,PySem.W.mg_of X G e_NotOne,PySem.W.mg_of X G e_NoMove,PySem.W.mg_of X G e_NoText,PySem.W.mg_of X G e_NoName,PySem.W.mg_of X G e_NoRow,PySem.W.mg_of X G e_BadThought⟩
 have BV:=PySem.W.mg_none_of X G z_ValueError
 have R_NoFloor:aB K a "NoFloor" a.NoFloor (bo a):=⟨e_NoFloor,qx r1_NoFloor r2_NoFloor r3_NoFloor D1 D2 D3 D4,⟨f1_NoFloor,f2_NoFloor,f3_NoFloor,f4_NoFloor,f5_NoFloor⟩,f6_NoFloor,f7_NoFloor,(List.forall_mem_cons.mpr ⟨g_NoFloor_BadThought,(List.forall_mem_cons.mpr ⟨g_NoFloor_NoFilling,(List.forall_mem_cons.mpr ⟨g_NoFloor_NoMove,(List.forall_mem_cons.mpr ⟨g_NoFloor_NoName,(List.forall_mem_cons.mpr ⟨g_NoFloor_NoRow,(List.forall_mem_cons.mpr ⟨g_NoFloor_NoText,(List.forall_mem_cons.mpr ⟨g_NoFloor_NotOne,(List.forall_mem_cons.mpr ⟨g_NoFloor_TooMany,(List.forall_mem_cons.mpr ⟨g_NoFloor_NoRule,(List.forall_mem_cons.mpr ⟨g_NoFloor_NoPuzzle,(fun _ z=>nomatch z)⟩)⟩)⟩)⟩)⟩)⟩)⟩)⟩)⟩)⟩)⟩
 have R_NoRule:aB K a "NoRule" a.NoRule (bp a):=⟨e_NoRule,qx r1_NoRule r2_NoRule r3_NoRule D1 D2 D3 D4,⟨f1_NoRule,f2_NoRule,f3_NoRule,f4_NoRule,f5_NoRule⟩,f6_NoRule,f7_NoRule,(List.forall_mem_cons.mpr ⟨g_NoRule_BadThought,(List.forall_mem_cons.mpr ⟨g_NoRule_NoFilling,(List.forall_mem_cons.mpr ⟨g_NoRule_NoMove,(List.forall_mem_cons.mpr ⟨g_NoRule_NoName,(List.forall_mem_cons.mpr ⟨g_NoRule_NoRow,(List.forall_mem_cons.mpr ⟨g_NoRule_NoText,(List.forall_mem_cons.mpr ⟨g_NoRule_NotOne,(List.forall_mem_cons.mpr ⟨g_NoRule_TooMany,(List.forall_mem_cons.mpr ⟨g_NoRule_NoFloor,(List.forall_mem_cons.mpr ⟨g_NoRule_NoPuzzle,(fun _ z=>nomatch z)⟩)⟩)⟩)⟩)⟩)⟩)⟩)⟩)⟩)⟩)⟩
 have R_NoPuzzle:aB K a "NoPuzzle" a.NoPuzzle (bq a):=⟨e_NoPuzzle,qx r1_NoPuzzle r2_NoPuzzle r3_NoPuzzle D1 D2 D3 D4,⟨f1_NoPuzzle,f2_NoPuzzle,f3_NoPuzzle,f4_NoPuzzle,f5_NoPuzzle⟩,f6_NoPuzzle,f7_NoPuzzle,(List.forall_mem_cons.mpr ⟨g_NoPuzzle_BadThought,(List.forall_mem_cons.mpr ⟨g_NoPuzzle_NoFilling,(List.forall_mem_cons.mpr ⟨g_NoPuzzle_NoMove,(List.forall_mem_cons.mpr ⟨g_NoPuzzle_NoName,(List.forall_mem_cons.mpr ⟨g_NoPuzzle_NoRow,(List.forall_mem_cons.mpr ⟨g_NoPuzzle_NoText,(List.forall_mem_cons.mpr ⟨g_NoPuzzle_NotOne,(List.forall_mem_cons.mpr ⟨g_NoPuzzle_TooMany,(List.forall_mem_cons.mpr ⟨g_NoPuzzle_NoFloor,(List.forall_mem_cons.mpr ⟨g_NoPuzzle_NoRule,(fun _ z=>nomatch z)⟩)⟩)⟩)⟩)⟩)⟩)⟩)⟩)⟩)⟩)⟩
 have cls_Unlike:Cls K vJ:=⟨x3,x4,x5,x6⟩
 have cls_Sum:Cls K vR:=⟨zm,zn,zo,zp⟩
 have cls_Rising:Cls K vK:=⟨ya,yb,yc,yd⟩
 have cls_Seen:Cls K vO:=⟨yN,yO,yP,yQ⟩
 have cls_Count:Cls K vN:=⟨yy,yz,yA,yB⟩
 have cls_Joined:Cls K vL:=⟨yg,yh,yi,yj⟩
 have cls_NoSquare:Cls K vH:=⟨xI,xJ,xK,xL⟩
 have cls_Ring:Cls K vP:=⟨yT,yU,yV,yW⟩
 have cls_Puzzle:Cls K vM:=⟨ym,yn,yo,yp⟩
 have FK_c_amount:FldK K c "amount":=⟨fun i hi=>by cases i with | Rule=>exact (Bool.false_ne_true hi).elim | Unlike=>exact ⟨cls_Unlike,wa⟩ | Sum=>exact ⟨cls_Sum,wO⟩ | Rising=>exact ⟨cls_Rising,wb⟩ | Seen=>exact ⟨cls_Seen,wz⟩ | Count=>exact ⟨cls_Count,wk⟩ | Joined=>exact ⟨cls_Joined,wc⟩ | NoSquare=>exact ⟨cls_NoSquare,vX⟩ | Ring=>exact ⟨cls_Ring,wA⟩⟩
 have FK_c_cells:FldK K c "cells":=⟨fun i hi=>by cases i with | Rule=>exact (Bool.false_ne_true hi).elim | Unlike=>exact ⟨cls_Unlike,wl⟩ | Sum=>exact ⟨cls_Sum,xa⟩ | Rising=>exact ⟨cls_Rising,wn⟩ | Seen=>exact ⟨cls_Seen,wP⟩ | Count=>exact ⟨cls_Count,wB⟩ | Joined=>exact ⟨cls_Joined,wo⟩ | NoSquare=>exact ⟨cls_NoSquare,vY⟩ | Ring=>exact ⟨cls_Ring,wQ⟩⟩
 have FK_c_floor:FldK K c "floor":=⟨fun i hi=>by cases i with | Rule=>exact (Bool.false_ne_true hi).elim | Unlike=>exact ⟨cls_Unlike,wp⟩ | Sum=>exact ⟨cls_Sum,xb⟩ | Rising=>exact ⟨cls_Rising,wq⟩ | Seen=>exact ⟨cls_Seen,wR⟩ | Count=>exact ⟨cls_Count,wC⟩ | Joined=>exact ⟨cls_Joined,wr⟩ | NoSquare=>exact ⟨cls_NoSquare,vZ⟩ | Ring=>exact ⟨cls_Ring,wS⟩⟩
 have FK_c_mark:FldK K c "mark":=⟨fun i hi=>by cases i with | Rule=>exact (Bool.false_ne_true hi).elim | Unlike=>exact ⟨cls_Unlike,wD⟩ | Sum=>exact ⟨cls_Sum,xm⟩ | Rising=>exact ⟨cls_Rising,wE⟩ | Seen=>exact ⟨cls_Seen,xf⟩ | Count=>exact ⟨cls_Count,wT⟩ | Joined=>exact ⟨cls_Joined,wF⟩ | NoSquare=>exact ⟨cls_NoSquare,we⟩ | Ring=>exact ⟨cls_Ring,xg⟩⟩
 have FK_c_words:FldK K c "words":=⟨fun i hi=>by cases i with | Rule=>exact (Bool.false_ne_true hi).elim | Unlike=>exact ⟨cls_Unlike,wt⟩ | Sum=>exact ⟨cls_Sum,xh⟩ | Rising=>exact ⟨cls_Rising,wu⟩ | Seen=>exact ⟨cls_Seen,wU⟩ | Count=>exact ⟨cls_Count,wG⟩ | Joined=>exact ⟨cls_Joined,wv⟩ | NoSquare=>exact ⟨cls_NoSquare,v6⟩ | Ring=>exact ⟨cls_Ring,wV⟩⟩
 have FK_d_floor:FldK K d "floor":=⟨fun i hi=>by cases i; exact ⟨cls_Puzzle,ww⟩⟩
 have FK_d_given:FldK K d "given":=⟨fun i hi=>by cases i; exact ⟨cls_Puzzle,wx⟩⟩
 have FK_d_laws:FldK K d "laws":=⟨fun i hi=>by cases i; exact ⟨cls_Puzzle,wH⟩⟩
 have G_OF_ALL_CELLS:GTup K mg "OF_ALL_CELLS" bA:=⟨wN,_,_,_,PySem.W.mg_of X G wI,wJ,rfl,rfl,Nat.le_of_lt (aR (by show (3:Nat)≤1000; decide)),(.cons ⟨_,rfl⟩ (.cons ⟨_,rfl⟩ (.cons ⟨_,rfl⟩ .nil)))⟩
 have G_WITH_NUMBER:GTup K mg "WITH_NUMBER" bK:=⟨w9,_,_,_,PySem.W.mg_of X G wW,wX,rfl,rfl,Nat.le_of_lt (aR (by show (3:Nat)≤1000; decide)),(.cons ⟨_,rfl⟩ (.cons ⟨_,rfl⟩ (.cons ⟨_,rfl⟩ .nil)))⟩
 have G_WITH_SIGN:GTup K mg "WITH_SIGN" cF:=⟨xE,_,_,_,PySem.W.mg_of X G xn,xo,rfl,rfl,Nat.le_of_lt (aR (by show (4:Nat)≤1000; decide)),(.cons ⟨_,rfl⟩ (.cons ⟨_,rfl⟩ (.cons ⟨_,rfl⟩ (.cons ⟨_,rfl⟩ .nil))))⟩
 have wf:Cal l.prog w K mg base _ _ _ (bH K):=pc (pJ B F0) F0 (PySem.W.mg_of X G a0)
 have vQ:Cal l.prog w K mg base _ _ _ (aV K):=pc (nM B F1) F1 (PySem.W.mg_of X G a1)
 have bd2:Binds K fd2 ["self","floor","words","cells","amount","mark"] []:=vz F2
 have T2:FnOk l.prog w K mg base CX0 1 f2 fd2 _ (ai K c):=kN (c:=c) B FK_c_amount FK_c_cells FK_c_floor FK_c_mark FK_c_words F2
 have yE:KCal l.prog w K mg base _ "Unlike" (c.A .Unlike) _ (ai K c):=⟨f2,_,⟨x0,xW,fn2,x2⟩,T2,PySem.W.mg_of X G yF,bd2⟩
 have K_Sum:KCal l.prog w K mg base _ "Sum" (c.A .Sum) _ (ai K c):=⟨f2,_,⟨zk,zj,fn2,zl⟩,T2,PySem.W.mg_of X G q_Sum,bd2⟩
 have yD:KCal l.prog w K mg base _ "Rising" (c.A .Rising) _ (ai K c):=⟨f2,_,⟨x8,xX,fn2,x9⟩,T2,PySem.W.mg_of X G yG,bd2⟩
 have zt:KCal l.prog w K mg base _ "Seen" (c.A .Seen) _ (ai K c):=⟨f2,_,⟨yL,yJ,fn2,yM⟩,T2,PySem.W.mg_of X G zC,bd2⟩
 have y9:KCal l.prog w K mg base _ "Count" (c.A .Count) _ (ai K c):=⟨f2,_,⟨yw,yu,fn2,yx⟩,T2,PySem.W.mg_of X G zi,bd2⟩
 have yC:KCal l.prog w K mg base _ "Joined" (c.A .Joined) _ (ai K c):=⟨f2,_,⟨ye,xY,fn2,yf⟩,T2,PySem.W.mg_of X G yH,bd2⟩
 have xS:KCal l.prog w K mg base _ "NoSquare" (c.A .NoSquare) _ (ai K c):=⟨f2,_,⟨xG,xF,fn2,xH⟩,T2,PySem.W.mg_of X G xV,bd2⟩
 have zr:KCal l.prog w K mg base _ "Ring" (c.A .Ring) _ (ai K c):=⟨f2,_,⟨yR,yK,fn2,yS⟩,T2,PySem.W.mg_of X G zD,bd2⟩
 have bd3:Binds K fd3 ["self"] []:=lA F3
 have T3:FnOk l.prog w K mg base CX0 1 f3 fd3 _ (ee K c):=pp (c:=c) B FK_c_words F3
 have zq:MCal l.prog w K mg base c c.ok 1 "line" ["self"] (ib K c):=⟨fun i hi=>by cases i with | Rule=>exact (Bool.false_ne_true hi).elim | Unlike=>exact ⟨f3,_,cls_Unlike,⟨a3_Unlike,fn3,F3.kp⟩,(T3.mono (by decide)).imp (fun vs H Q E h=>⟨.Unlike,h⟩),bd3⟩ | Sum=>exact ⟨f3,_,cls_Sum,⟨a3_Sum,fn3,F3.kp⟩,(T3.mono (by decide)).imp (fun vs H Q E h=>⟨.Sum,h⟩),bd3⟩ | Rising=>exact ⟨f3,_,cls_Rising,⟨a3_Rising,fn3,F3.kp⟩,(T3.mono (by decide)).imp (fun vs H Q E h=>⟨.Rising,h⟩),bd3⟩ | Seen=>exact ⟨f3,_,cls_Seen,⟨a3_Seen,fn3,F3.kp⟩,(T3.mono (by decide)).imp (fun vs H Q E h=>⟨.Seen,h⟩),bd3⟩ | Count=>exact ⟨f3,_,cls_Count,⟨a3_Count,fn3,F3.kp⟩,(T3.mono (by decide)).imp (fun vs H Q E h=>⟨.Count,h⟩),bd3⟩ | Joined=>exact ⟨f3,_,cls_Joined,⟨a3_Joined,fn3,F3.kp⟩,(T3.mono (by decide)).imp (fun vs H Q E h=>⟨.Joined,h⟩),bd3⟩ | NoSquare=>exact ⟨f3,_,cls_NoSquare,⟨a3_NoSquare,fn3,F3.kp⟩,(T3.mono (by decide)).imp (fun vs H Q E h=>⟨.NoSquare,h⟩),bd3⟩ | Ring=>exact ⟨f3,_,cls_Ring,⟨a3_Ring,fn3,F3.kp⟩,(T3.mono (by decide)).imp (fun vs H Q E h=>⟨.Ring,h⟩),bd3⟩⟩
 have xN:Cal l.prog w K mg base _ _ _ (bN K):=pc (pq B yr wZ F4) F4 (PySem.W.mg_of X G a4)
 have bd5:Binds K fd5 ["self"] []:=lA F5
 have T5:FnOk l.prog w K mg base CX0 1 f5 fd5 _ (cT K c d):=lQ (c:=c) (d:=d) B FK_d_given F5
 have zb:MCal l.prog w K mg base d d.ok 1 "clues" ["self"] (ip K c d):=⟨fun i hi=>by cases i; exact ⟨f5,_,cls_Puzzle,⟨a5_Puzzle,fn5,F5.kp⟩,(T5.mono (by decide)).imp (fun vs H Q E h=>h),bd5⟩⟩
 have vI:Cal l.prog w K mg base _ _ _ (aH K):=i4 (qL B F6) F6 (PySem.W.mg_of X G a6)
 have xk:Cal l.prog w K mg base _ _ _ (bL K):=i4 (mQ B F7) F7 (PySem.W.mg_of X G a7)
 have xv:Cal l.prog w K mg base _ _ _ (bZ K):=i4 (nN B F8) F8 (PySem.W.mg_of X G a8)
 have xO:Cal l.prog w K mg base _ _ _ (cG K):=mH (pw B F9) F9 (PySem.W.mg_of X G a9)
 have xP:Cal l.prog w K mg base _ _ _ (cH K):=i4 (px B F10) F10 (PySem.W.mg_of X G a10)
 have wy:Cal l.prog w K mg base _ _ _ (bb K):=i4 (j2 B F11) F11 (PySem.W.mg_of X G a11)
 have wM:Cal l.prog w K mg base _ _ _ (bg K):=i4 (kO B F12) F12 (PySem.W.mg_of X G a12)
 have vW:Cal l.prog w K mg base _ _ _ (aT K):=mH (j3 B F13) F13 (PySem.W.mg_of X G a13)
 have vU:Cal l.prog w K mg base _ _ _ (aZ K):=pc (nO B EM R_NoFloor R_NoRule R_NoPuzzle BV F14) F14 (PySem.W.mg_of X G a14)
 have vT:Cal l.prog w K mg base _ _ _ (aS K):=i4 (j4 B wf F15) F15 (PySem.W.mg_of X G a15)
 have vS:bx l.prog w K mg base _ _ _ (aP K):=n9 (kP B xN EM R_NoFloor R_NoRule R_NoPuzzle F16) F16 (PySem.W.mg_of X G a16)
 have xy:Cal l.prog w K mg base _ _ _ (bY K):=mH (nP B wf vQ F17) F17 (PySem.W.mg_of X G a17)
 have bd18:Binds K fd18 ["self"] []:=lA F18
 have T18:FnOk l.prog w K mg base CX0 2 f18 fd18 _ (cV K c d):=lR (c:=c) (d:=d) B FK_d_laws zq F18
 have xu:MCal l.prog w K mg base d d.ok 2 "lines" ["self"] (fe K c d):=⟨fun i hi=>by cases i; exact ⟨f18,_,cls_Puzzle,⟨a18_Puzzle,fn18,F18.kp⟩,(T18.mono (by decide)).imp (fun vs H Q E h=>h),bd18⟩⟩
 have xD:Cal l.prog w K mg base _ _ _ (bW K):=pc (nQ B vI F19) F19 (PySem.W.mg_of X G a19)
 have xR:Cal l.prog w K mg base _ _ _ (bM K):=mH (pz B xO xv xP xk F20) F20 (PySem.W.mg_of X G a20)
 have w5:Cal l.prog w K mg base _ _ _ (bi K):=mH (lS B vI F21) F21 (PySem.W.mg_of X G a21)
 have xT:bx l.prog w K mg base _ _ _ (cc K):=n9 (pK B vT xw xj xx EM R_NoFloor R_NoRule R_NoPuzzle F22) F22 (PySem.W.mg_of X G a22)
 have wj:bx l.prog w K mg base _ _ _ (aY K):=n9 (lT B vS EM R_NoFloor R_NoRule R_NoPuzzle F23) F23 (PySem.W.mg_of X G a23)
 have xz:bx l.prog w K mg base _ _ _ (bB K):=nZ (nR B vQ vS EM R_NoFloor R_NoRule R_NoPuzzle F24) F24 (PySem.W.mg_of X G a24)
 have yt:bx l.prog w K mg base _ _ _ (cI K c):=vB (qM (c:=c) B y9 yC xS zr yD zt K_Sum yE EM R_NoFloor R_NoRule R_NoPuzzle F25) F25 (PySem.W.mg_of X G a25)
 have wK:bx l.prog w K mg base _ _ _ (bf K):=nZ (kQ B xy EM R_NoFloor R_NoRule R_NoPuzzle F26) F26 (PySem.W.mg_of X G a26)
 have xU:bx l.prog w K mg base _ _ _ (cb K):=n9 (pL B vQ xz G_OF_ALL_CELLS EM R_NoFloor R_NoRule R_NoPuzzle F27) F27 (PySem.W.mg_of X G a27)
 have wL:bx l.prog w K mg base _ _ _ (be K):=vA (kR B xT EM R_NoFloor R_NoRule R_NoPuzzle F28) F28 (PySem.W.mg_of X G a28)
 have xQ:bx l.prog w K mg base _ _ _ (bO K c):=nZ (pA (c:=c) B xU wj yt xl G_WITH_NUMBER G_WITH_SIGN EM R_NoFloor R_NoRule R_NoPuzzle F29) F29 (PySem.W.mg_of X G a29)
 have xB:bx l.prog w K mg base _ _ _ (bC K c):=nZ (nS (c:=c) B xQ xA EM R_NoFloor R_NoRule R_NoPuzzle F30) F30 (PySem.W.mg_of X G a30)
 have bd31:Binds K fd31 ["self","floor","lines","clues"] []:=vx F31
 have T31:FnOk l.prog w K mg base (CX1 l.prog w) 7 f31 fd31 _ (az K c d):=jj (c:=c) (d:=d) B wK wL xB FK_d_floor FK_d_given FK_d_laws F31
 have vV:iq l.prog w K mg base _ "Puzzle" (d.A .Puzzle) _ (az K c d):=⟨f31,_,⟨yk,xZ,fn31,yl⟩,T31,PySem.W.mg_of X G yI,bd31⟩
 have bd32:Binds K fd32 ["self","clues"] []:=qE F32
 have T32:FnOk l.prog w K mg base (CX1 l.prog w) 9 f32 fd32 _ (cu K c d):=lU (c:=c) (d:=d) B FK_d_floor xu vV F32
 have za:oa l.prog w K mg base d d.ok 9 "clued" ["self","clues"] (fR K c d):=⟨fun i hi=>by cases i; exact ⟨f32,_,cls_Puzzle,⟨a32_Puzzle,fn32,F32.kp⟩,(T32.mono (by decide)).imp (fun vs H Q E h=>h),bd32⟩⟩
 have w6:Cal l.prog w K mg base _ _ _ (bj K c d):=mH (lV (c:=c) (d:=d) B vU vV EM R_NoFloor R_NoRule R_NoPuzzle F33) F33 (PySem.W.mg_of X G a33)
 have xC:Cal l.prog w K mg base _ _ _ (bD K c d):=i4 (nU (c:=c) (d:=d) B vU za EM R_NoFloor R_NoRule R_NoPuzzle F34) F34 (PySem.W.mg_of X G a34)
 exact (vg (c:=c) (d:=d) B vI vW wy wM xC w5 xD xR w6 zb xu vV F35).imp fun vs H Q E h=>by obtain ⟨a,ns,e,hS,hn,k⟩:=h; exact ⟨a,ns,e,hS,hn,fun k hk=>by cases k <;> first | rfl | exact absurd rfl hk,rfl,k⟩
theorem walk {l:PySem.W.OpenLaw} {q:Program} {loose:List Str} {XP:(Str→Option Value)→Heap→Prop} {YP:World→Heap→Prop} {d:DefRec} {K:Params→PySem.W.Frag} (hn:l.most=some 63) (hdf:d.params.defaults=[])
  (hY:∀ (w:World) (h:Heap),YP w h→(K w.params).In h)
  (F:∀ (w:World) (mg:Str→Option Value) (fa:Addr) (h:Heap),(K w.params).In h→h.Ns mainGlobals mg→mg d.name=some (.ref fa)→
   ∃ fd:FuncData,(∀ (s:Shared) (u:Value),BindsTo s fd ⟨[u],[]⟩ [("_law_script",u)])∧∀ base:Heap,(K w.params).In base→base.Ns mainGlobals mg→FnOk l.prog w (K w.params) mg base CX0 11 fa fd ["_law_script"] (mP (K w.params))):
  PySem.W.WalkO q loose XP YP l.row.toRowW d [] (fun f vs=>PySem.call f vs):=
 L2.tI (n:=63) (k:=11) (x:="_law_script") (CX:=fun _=>CX0) (sp:=fun w=>mP (K w.params)) hn (by decide) hdf ⟨rfl,by decide,by decide⟩ hY F (fun _ _ a ns hl _ hS=>⟨a,ns,rfl,hS,hl,fun _=>rfl⟩) fun _ _ _ _ _ z=>z
end L2
open PySem PySem.W PyProof.Rows
set_option maxRecDepth 100000 in
def PySem.W.Fast.tw2064366181969838619:Unit:=()
def PySem.W.Fast.tw336999557536723510:Unit:=()
def PySem.W.Fast.tw17513449253618651011:Unit:=()
def PySem.W.Fast.tw16507573213891866769:Unit:=()
def PySem.W.Fast.tw9649956661529487911:Unit:=()
def PySem.W.Fast.tw9415223674444871666:Unit:=()
def PySem.W.Fast.tw6530483466162061569:Unit:=()
def PySem.W.Fast.tw5488077526622464282:Unit:=()
def PySem.W.Fast.tw2844128293407364395:Unit:=()
def PySem.W.Fast.tw4698165998267536710:Unit:=()
def PySem.W.Fast.tw579076649856062338:Unit:=()
def PySem.W.Fast.tw10832156640059441045:Unit:=()
def PySem.W.Fast.tw15376051815380441967:Unit:=()
def PySem.W.Fast.tw1539567799950465495:Unit:=()
def PySem.W.Fast.tw4722227889546822747:Unit:=()
def PySem.W.Fast.tw16746351659644450850:Unit:=()
def PySem.W.Fast.tw6593996463665675133:Unit:=()
def PySem.W.Fast.tw17782791896561220677:Unit:=()
def PySem.W.Fast.tw6105966992986381079:Unit:=()
def PySem.W.Fast.tw14860303758206693702:Unit:=()
def PySem.W.Fast.tw16201264707561544943:Unit:=()
def PySem.W.Fast.tw4874177962141914409:Unit:=()
def PySem.W.Fast.tw1758323018754680934:Unit:=()
def PySem.W.Fast.tw3400924741097261022:Unit:=()
def PySem.W.Fast.tw8604007133896718950:Unit:=()
def PySem.W.Fast.tw4672802549150170299:Unit:=()
def PySem.W.Fast.tw10452104544107484006:Unit:=()
def PySem.W.Fast.tw2514087666127009801:Unit:=()
def PySem.W.Fast.tw6216564305264881634:Unit:=()
def PySem.W.Fast.tw16770692962956221971:Unit:=()
def PySem.W.Fast.tw7494595569505288212:Unit:=()
def PySem.W.Fast.tw15185045361190041103:Unit:=()
def PySem.W.Fast.tw16694808226067072276:Unit:=()
def PySem.W.Fast.tw14188776731970275685:Unit:=()
def PySem.W.Fast.tw5615400075629254294:Unit:=()
def PySem.W.Fast.tw7004097703114037228:Unit:=()
def PySem.W.Fast.tw388767045173510661:Unit:=()
def PySem.W.Fast.tw9969783504536058053:Unit:=()
def PySem.W.Fast.tw5045500074042320927:Unit:=()
def PySem.W.Fast.tw6864581976533539595:Unit:=()
def PySem.W.Fast.tw18042267314224224836:Unit:=()
def PySem.W.Fast.tw11528795719622450759:Unit:=()
def PySem.W.Fast.tw2558208220076893229:Unit:=()
def PySem.W.Fast.tw14842793266012639368:Unit:=()
def PySem.W.Fast.tw1138646698649140231:Unit:=()
def PySem.W.Fast.tw5819811314698903781:Unit:=()
def PySem.W.Fast.tw14102880887107158028:Unit:=()
def PySem.W.Fast.tw3051567742197401299:Unit:=()
def PySem.W.Fast.tw2030105694555592244:Unit:=()
def PySem.W.Fast.tw6904651413621523840:Unit:=()
def PySem.W.Fast.tw842537171671873436:Unit:=()
def PySem.W.Fast.tw12743950490310510086:Unit:=()
def PySem.W.Fast.tw3670044528697006633:Unit:=()
def PySem.W.Fast.tw15892116610654052033:Unit:=()
def PySem.W.Fast.tw6464675860121432892:Unit:=()
def PySem.W.Fast.tw14347890667590376476:Unit:=()
def PySem.W.Fast.tw11969246226014166789:Unit:=()
def PySem.W.Fast.tw17146093260006478309:Unit:=()
def PySem.W.Fast.tw14063334125690686655:Unit:=()
def PySem.W.Fast.tw2290978914280152609:Unit:=()
def PySem.W.Fast.tw406272526074662139:Unit:=()
def PySem.W.Fast.tw7612252619418782397:Unit:=()
def PySem.W.Fast.tw9888724555436924984:Unit:=()
def PySem.W.Fast.tw2769799342739244128:Unit:=()
def PySem.W.Fast.tw7653859957974291636:Unit:=()
def PySem.W.Fast.tw11435467968771823008:Unit:=()
def PySem.W.Fast.tw6688495842625957585:Unit:=()
def PySem.W.Fast.tw3191375953973854005:Unit:=()
def PySem.W.Fast.tw987206294830492401:Unit:=()
def PySem.W.Fast.tw17182464790473431158:Unit:=()
def PySem.W.Fast.tw3376616169257160891:Unit:=()
def PySem.W.Fast.tw15338355070912144230:Unit:=()
def PySem.W.Fast.tw6851120003830334557:Unit:=()
def PySem.W.Fast.tw14714587313104410272:Unit:=()
def PySem.W.Fast.tw8215207796461752041:Unit:=()
def PySem.W.Fast.tw6342633927401598274:Unit:=()
def PySem.W.Fast.tw16383982142588669318:Unit:=()
def PySem.W.Fast.tw10413126063149830239:Unit:=()
def PySem.W.Fast.tw10332353439906227996:Unit:=()
def PySem.W.Fast.tw18159335860175814010:Unit:=()
def PySem.W.Fast.tw1529411362695421651:Unit:=()
def PySem.W.Fast.tw9897847667327791213:Unit:=()
def PySem.W.Fast.tw4620895755132839936:Unit:=()
def PySem.W.Fast.tw8889097404088063956:Unit:=()
def PySem.W.Fast.tw5776709274248449515:Unit:=()
def PySem.W.Fast.tw14512817991860235760:Unit:=()
def PySem.W.Fast.tw3651057570879614111:Unit:=()
def PySem.W.Fast.tw6039241773248928245:Unit:=()
def PySem.W.Fast.tw16560129902258291127:Unit:=()
def PySem.W.Fast.tw2218404910943505060:Unit:=()
def PySem.W.Fast.tw4007980393477861345:Unit:=()
def PySem.W.Fast.tw14578718816358492490:Unit:=()
def PySem.W.Fast.tw12505817560830208396:Unit:=()
def PySem.W.Fast.tw3741794856704532035:Unit:=()
def PySem.W.Fast.tw11247195442187697422:Unit:=()
def PySem.W.Fast.tw17582671520903028679:Unit:=()
def PySem.W.Fast.tw15170953322126633559:Unit:=()
def PySem.W.Fast.tw14960316193853784888:Unit:=()
def PySem.W.Fast.tw15593542059618480309:Unit:=()
def PySem.W.Fast.tw2891184913064995471:Unit:=()
def PySem.W.Fast.tw5261645050779265729:Unit:=()
def PySem.W.Fast.tw389658527574289154:Unit:=()
def PySem.W.Fast.tw3698464261900556116:Unit:=()
def PySem.W.Fast.tw3510503541610029304:Unit:=()
def PySem.W.Fast.tw12945429370412535014:Unit:=()
def PySem.W.Fast.tw5560159442167714311:Unit:=()
def PySem.W.Fast.tw14394927402622583501:Unit:=()
def PySem.W.Fast.tw15340250140283952530:Unit:=()
def PySem.W.Fast.tw926259730748202572:Unit:=()
def PySem.W.Fast.tw13141537819050333884:Unit:=()
def PySem.W.Fast.tw312988201898416680:Unit:=()
def PySem.W.Fast.tw12279788157353318836:Unit:=()
def PySem.W.Fast.tw12823315137843531602:Unit:=()
def PySem.W.Fast.tw1431876297995661884:Unit:=()
def PySem.W.Fast.tw8685316078122375522:Unit:=()
def PySem.W.Fast.tw4758113226862625158:Unit:=()
def PySem.W.Fast.tw18386494722835400147:Unit:=()
def PySem.W.Fast.tw6044332453033564671:Unit:=()
def PySem.W.Fast.tw8156378229920863611:Unit:=()
def PySem.W.Fast.tw17452518495028974977:Unit:=()
def PySem.W.Fast.tw11855925037763598232:Unit:=()
def PySem.W.Fast.tw7945348927349080983:Unit:=()
def PySem.W.Fast.tw2205049250956680480:Unit:=()
def PySem.W.Fast.tw16896558726296115632:Unit:=()
def PySem.W.Fast.tw18368687064099281282:Unit:=()
def PySem.W.Fast.tw17073907581398533084:Unit:=()
def PySem.W.Fast.tw15274633483170422011:Unit:=()
def PySem.W.Fast.tw5384550005014162473:Unit:=()
def PySem.W.Fast.tw37153208786629971:Unit:=()
def PySem.W.Fast.tw3641284324337856438:Unit:=()
def PySem.W.Fast.tw3104953635393468558:Unit:=()
def PySem.W.Fast.tw12097787604261641036:Unit:=()
def PySem.W.Fast.tw11903262043568346593:Unit:=()
def PySem.W.Fast.tw10802357682540322247:Unit:=()
def PySem.W.Fast.tw5428792786084217969:Unit:=()
def PySem.W.Fast.tw5384349424421783893:Unit:=()
def PySem.W.Fast.tw11175271402942675169:Unit:=()
def PySem.W.Fast.tw2801391700054141293:Unit:=()
def PySem.W.Fast.tw5592332107405147128:Unit:=()
def PySem.W.Fast.tw3714805151672613773:Unit:=()
def PySem.W.Fast.tw3422736468985448439:Unit:=()
def PySem.W.Fast.tw13036951252838982628:Unit:=()
def PySem.W.Fast.tw8561965414073200697:Unit:=()
def PySem.W.Fast.tw5612070782782295986:Unit:=()
def PySem.W.Fast.tw4345517034381488441:Unit:=()
def PySem.W.Fast.tw9114441603894824859:Unit:=()
def PySem.W.Fast.tw16580245112249103114:Unit:=()
def PySem.W.Fast.tw18440944314060649537:Unit:=()
def PySem.W.Fast.tw12692764669502220752:Unit:=()
def PySem.W.Fast.tw7897068243194677089:Unit:=()
def PySem.W.Fast.tw5836150921698538840:Unit:=()
def PySem.W.Fast.tw12041798500594660546:Unit:=()
def PySem.W.Fast.tw11685729919701922843:Unit:=()
def PySem.W.Fast.tw1322482743672968713:Unit:=()
def PySem.W.Fast.tw9360362249213099641:Unit:=()
def PySem.W.Fast.tw18211308773136109882:Unit:=()
def PySem.W.Fast.tw5510771089629695054:Unit:=()
def PySem.W.Fast.tw8257240880934998595:Unit:=()
def PySem.W.Fast.tw651145652431088302:Unit:=()
def PySem.W.Fast.tw2853731757687263525:Unit:=()
def PySem.W.Fast.tw1915402663893755544:Unit:=()
def PySem.W.Fast.tw18445320005610450210:Unit:=()
def PySem.W.Fast.tw6254551817579625611:Unit:=()
def PySem.W.Fast.tw17818028729457909668:Unit:=()
def PySem.W.Fast.tw8903095734106525717:Unit:=()
def PySem.W.Fast.tw7194913995431591123:Unit:=()
def PySem.W.Fast.tw13661913780986491498:Unit:=()
def PySem.W.Fast.tw10438145963527346626:Unit:=()
def PySem.W.Fast.tw9826015784300981651:Unit:=()
def PySem.W.Fast.tw5242124310986647538:Unit:=()
def PySem.W.Fast.tw3684534147876321056:Unit:=()
def PySem.W.Fast.tw4039311092499443536:Unit:=()
def PySem.W.Fast.tw12257318832487285309:Unit:=()
def PySem.W.Fast.tw11501095907021946450:Unit:=()
def PySem.W.Fast.tw2795331120709545048:Unit:=()
def PySem.W.Fast.tw15734814040231251987:Unit:=()
def PySem.W.Fast.tw5490375710652848099:Unit:=()
def PySem.W.Fast.tw11526956190532528455:Unit:=()
def PySem.W.Fast.tw5477349240475633628:Unit:=()
def PySem.W.Fast.tw8937592819231769829:Unit:=()
def PySem.W.Fast.tw5181727321405966126:Unit:=()
def PySem.W.Fast.tw4207917045270293291:Unit:=()
def PySem.W.Fast.tw7547498749696922123:Unit:=()
def PySem.W.Fast.tw18111946384719860210:Unit:=()
def PySem.W.Fast.tw8174241107082144088:Unit:=()
def PySem.W.Fast.tw15250683469102580530:Unit:=()
set_option maxHeartbeats 0 in
theorem PySem.Challenge.cw_cluemaker_k20_puzzles_refused_holds : PySem.Challenge.rw_cluemaker_k20_puzzles_refused.Holds := by
  w_on; o_law; k_head; (case hw => w_witness2)
  k_fill
  refine L2.walk (l := PySem.Challenge.rw_cluemaker_k20_puzzles_refused) rfl rfl (fun w h Y => PySem.W.kIn_of Y) ?F
  case F =>
    intro w mg fa h KX G hmg
    refine' L2.vh KX G hmg ?yF ?q_Sum ?yG ?zC ?zi ?yH ?xV ?zD ?yI ?a0 ?a1 ?xW ?zj ?xX ?yJ ?yu ?xY ?xF ?yK ?a3_Unlike ?a3_Sum ?a3_Rising ?a3_Seen ?a3_Count ?a3_Joined ?a3_NoSquare ?a3_Ring ?a4 ?a5_Puzzle ?a6 ?a7 ?a8 ?a9 ?a10 ?a11 ?a12 ?a13 ?a14 ?a15 ?a16 ?a17 ?a18_Puzzle ?a19 ?a20 ?a21 ?a22 ?a23 ?a24 ?a25 ?a26 ?a27 ?a28 ?a29 ?a30 ?xZ ?a32_Puzzle ?a33 ?a34 ?a35 ?F0 ?F1 ?F2 ?fn2 ?F3 ?fn3 ?F4 ?F5 ?fn5 ?F6 ?F7 ?F8 ?F9 ?F10 ?F11 ?F12 ?F13 ?F14 ?F15 ?F16 ?F17 ?F18 ?fn18 ?F19 ?F20 ?F21 ?F22 ?F23 ?F24 ?F25 ?F26 ?F27 ?F28 ?F29 ?F30 ?F31 ?fn31 ?F32 ?fn32 ?F33 ?F34 ?F35 ?x0 ?x2 ?x3 ?x4 ?x5 ?x6 ?zk ?zl ?zm ?zn ?zo ?zp ?x8 ?x9 ?ya ?yb ?yc ?yd ?yL ?yM ?yN ?yO ?yP ?yQ ?yw ?yx ?yy ?yz ?yA ?yB ?ye ?yf ?yg ?yh ?yi ?yj ?xG ?xH ?xI ?xJ ?xK ?xL ?yR ?yS ?yT ?yU ?yV ?yW ?yk ?yl ?ym ?yn ?yo ?yp ?wa ?wO ?wb ?wz ?wk ?wc ?vX ?wA ?wl ?xa ?wn ?wP ?wB ?wo ?vY ?wQ ?wp ?xb ?wq ?wR ?wC ?wr ?vZ ?wS ?wD ?xm ?wE ?xf ?wT ?wF ?we ?xg ?wt ?xh ?wu ?wU ?wG ?wv ?v6 ?wV ?ww ?wx ?wH ?wI ?wJ ?wW ?wX ?xn ?xo ?yq ?xp ?wY ?xi ?xq ?xM ?xt ?z_len ?z_abs ?z_min ?z_max ?z_sorted ?z_any ?z_isinstance ?z_list ?z_int ?z_bool ?z_str ?z_tuple ?z_reversed ?z_set ?z_range ?z_zip ?z_all ?z_sum ?z_enumerate ?e_ClueError ?e_NoFloor ?e_NoFilling ?e_NoRule ?e_NoPuzzle ?e_TooMany ?e_NotOne ?e_NoMove ?e_NoText ?e_NoName ?e_NoRow ?e_BadThought ?z_ValueError ?D1 ?D2 ?D3 ?D4 ?r1_NoFloor ?r2_NoFloor ?r3_NoFloor ?f1_NoFloor ?f2_NoFloor ?f3_NoFloor ?f4_NoFloor ?f5_NoFloor ?f6_NoFloor ?f7_NoFloor ?g_NoFloor_BadThought ?g_NoFloor_NoFilling ?g_NoFloor_NoMove ?g_NoFloor_NoName ?g_NoFloor_NoRow ?g_NoFloor_NoText ?g_NoFloor_NotOne ?g_NoFloor_TooMany ?g_NoFloor_NoRule ?g_NoFloor_NoPuzzle ?r1_NoRule ?r2_NoRule ?r3_NoRule ?f1_NoRule ?f2_NoRule ?f3_NoRule ?f4_NoRule ?f5_NoRule ?f6_NoRule ?f7_NoRule ?g_NoRule_BadThought ?g_NoRule_NoFilling ?g_NoRule_NoMove ?g_NoRule_NoName ?g_NoRule_NoRow ?g_NoRule_NoText ?g_NoRule_NotOne ?g_NoRule_TooMany ?g_NoRule_NoFloor ?g_NoRule_NoPuzzle ?r1_NoPuzzle ?r2_NoPuzzle ?r3_NoPuzzle ?f1_NoPuzzle ?f2_NoPuzzle ?f3_NoPuzzle ?f4_NoPuzzle ?f5_NoPuzzle ?f6_NoPuzzle ?f7_NoPuzzle ?g_NoPuzzle_BadThought ?g_NoPuzzle_NoFilling ?g_NoPuzzle_NoMove ?g_NoPuzzle_NoName ?g_NoPuzzle_NoRow ?g_NoPuzzle_NoText ?g_NoPuzzle_NotOne ?g_NoPuzzle_TooMany ?g_NoPuzzle_NoFloor ?g_NoPuzzle_NoRule
    (case yF => k_is)
    (case q_Sum => k_is)
    (case yG => k_is)
    (case zC => k_is)
    (case zi => k_is)
    (case yH => k_is)
    (case xV => k_is)
    (case zD => k_is)
    (case yI => k_is)
    (case a0 => k_is)
    (case a1 => k_is)
    (case xW => k_is)
    (case zj => k_is)
    (case xX => k_is)
    (case yJ => k_is)
    (case yu => k_is)
    (case xY => k_is)
    (case xF => k_is)
    (case yK => k_is)
    (case a3_Unlike => k_is)
    (case a3_Sum => k_is)
    (case a3_Rising => k_is)
    (case a3_Seen => k_is)
    (case a3_Count => k_is)
    (case a3_Joined => k_is)
    (case a3_NoSquare => k_is)
    (case a3_Ring => k_is)
    (case a4 => k_is)
    (case a5_Puzzle => k_is)
    (case a6 => k_is)
    (case a7 => k_is)
    (case a8 => k_is)
    (case a9 => k_is)
    (case a10 => k_is)
    (case a11 => k_is)
    (case a12 => k_is)
    (case a13 => k_is)
    (case a14 => k_is)
    (case a15 => k_is)
    (case a16 => k_is)
    (case a17 => k_is)
    (case a18_Puzzle => k_is)
    (case a19 => k_is)
    (case a20 => k_is)
    (case a21 => k_is)
    (case a22 => k_is)
    (case a23 => k_is)
    (case a24 => k_is)
    (case a25 => k_is)
    (case a26 => k_is)
    (case a27 => k_is)
    (case a28 => k_is)
    (case a29 => k_is)
    (case a30 => k_is)
    (case xZ => k_is)
    (case a32_Puzzle => k_is)
    (case a33 => k_is)
    (case a34 => k_is)
    (case a35 => k_is)
    (case F0 => (refine' L2.aG ?l ?c ?k; (case l => k_is); (case c => k_is); case k => k_is))
    (case F1 => (refine' L2.aG ?l ?c ?k; (case l => k_is); (case c => k_is); case k => k_is))
    (case F2 => (refine' L2.aG ?l ?c ?k; (case l => k_is); (case c => k_is); case k => k_is))
    (case fn2 => k_is)
    (case F3 => (refine' L2.aG ?l ?c ?k; (case l => k_is); (case c => k_is); case k => k_is))
    (case fn3 => k_is)
    (case F4 => (refine' L2.aG ?l ?c ?k; (case l => k_is); (case c => k_is); case k => k_is))
    (case F5 => (refine' L2.aG ?l ?c ?k; (case l => k_is); (case c => k_is); case k => k_is))
    (case fn5 => k_is)
    (case F6 => (refine' L2.aG ?l ?c ?k; (case l => k_is); (case c => k_is); case k => k_is))
    (case F7 => (refine' L2.aG ?l ?c ?k; (case l => k_is); (case c => k_is); case k => k_is))
    (case F8 => (refine' L2.aG ?l ?c ?k; (case l => k_is); (case c => k_is); case k => k_is))
    (case F9 => (refine' L2.aG ?l ?c ?k; (case l => k_is); (case c => k_is); case k => k_is))
    (case F10 => (refine' L2.aG ?l ?c ?k; (case l => k_is); (case c => k_is); case k => k_is))
    (case F11 => (refine' L2.aG ?l ?c ?k; (case l => k_is); (case c => k_is); case k => k_is))
    (case F12 => (refine' L2.aG ?l ?c ?k; (case l => k_is); (case c => k_is); case k => k_is))
    (case F13 => (refine' L2.aG ?l ?c ?k; (case l => k_is); (case c => k_is); case k => k_is))
    (case F14 => (refine' L2.aG ?l ?c ?k; (case l => k_is); (case c => k_is); case k => k_is))
    (case F15 => (refine' L2.aG ?l ?c ?k; (case l => k_is); (case c => k_is); case k => k_is))
    (case F16 => (refine' L2.aG ?l ?c ?k; (case l => k_is); (case c => k_is); case k => k_is))
    (case F17 => (refine' L2.aG ?l ?c ?k; (case l => k_is); (case c => k_is); case k => k_is))
    (case F18 => (refine' L2.aG ?l ?c ?k; (case l => k_is); (case c => k_is); case k => k_is))
    (case fn18 => k_is)
    (case F19 => (refine' L2.aG ?l ?c ?k; (case l => k_is); (case c => k_is); case k => k_is))
    (case F20 => (refine' L2.aG ?l ?c ?k; (case l => k_is); (case c => k_is); case k => k_is))
    (case F21 => (refine' L2.aG ?l ?c ?k; (case l => k_is); (case c => k_is); case k => k_is))
    (case F22 => (refine' L2.aG ?l ?c ?k; (case l => k_is); (case c => k_is); case k => k_is))
    (case F23 => (refine' L2.aG ?l ?c ?k; (case l => k_is); (case c => k_is); case k => k_is))
    (case F24 => (refine' L2.aG ?l ?c ?k; (case l => k_is); (case c => k_is); case k => k_is))
    (case F25 => (refine' L2.aG ?l ?c ?k; (case l => k_is); (case c => k_is); case k => k_is))
    (case F26 => (refine' L2.aG ?l ?c ?k; (case l => k_is); (case c => k_is); case k => k_is))
    (case F27 => (refine' L2.aG ?l ?c ?k; (case l => k_is); (case c => k_is); case k => k_is))
    (case F28 => (refine' L2.aG ?l ?c ?k; (case l => k_is); (case c => k_is); case k => k_is))
    (case F29 => (refine' L2.aG ?l ?c ?k; (case l => k_is); (case c => k_is); case k => k_is))
    (case F30 => (refine' L2.aG ?l ?c ?k; (case l => k_is); (case c => k_is); case k => k_is))
    (case F31 => (refine' L2.aG ?l ?c ?k; (case l => k_is); (case c => k_is); case k => k_is))
    (case fn31 => k_is)
    (case F32 => (refine' L2.aG ?l ?c ?k; (case l => k_is); (case c => k_is); case k => k_is))
    (case fn32 => k_is)
    (case F33 => (refine' L2.aG ?l ?c ?k; (case l => k_is); (case c => k_is); case k => k_is))
    (case F34 => (refine' L2.aG ?l ?c ?k; (case l => k_is); (case c => k_is); case k => k_is))
    (case F35 => (refine' L2.aG ?l ?c ?k; (case l => k_is); (case c => k_is); case k => k_is))
    (case x0 => k_is)
    (case x2 => k_is)
    (case x3 => k_is)
    (case x4 => k_is)
    (case x5 => k_is)
    (case x6 => k_is)
    (case zk => k_is)
    (case zl => k_is)
    (case zm => k_is)
    (case zn => k_is)
    (case zo => k_is)
    (case zp => k_is)
    (case x8 => k_is)
    (case x9 => k_is)
    (case ya => k_is)
    (case yb => k_is)
    (case yc => k_is)
    (case yd => k_is)
    (case yL => k_is)
    (case yM => k_is)
    (case yN => k_is)
    (case yO => k_is)
    (case yP => k_is)
    (case yQ => k_is)
    (case yw => k_is)
    (case yx => k_is)
    (case yy => k_is)
    (case yz => k_is)
    (case yA => k_is)
    (case yB => k_is)
    (case ye => k_is)
    (case yf => k_is)
    (case yg => k_is)
    (case yh => k_is)
    (case yi => k_is)
    (case yj => k_is)
    (case xG => k_is)
    (case xH => k_is)
    (case xI => k_is)
    (case xJ => k_is)
    (case xK => k_is)
    (case xL => k_is)
    (case yR => k_is)
    (case yS => k_is)
    (case yT => k_is)
    (case yU => k_is)
    (case yV => k_is)
    (case yW => k_is)
    (case yk => k_is)
    (case yl => k_is)
    (case ym => k_is)
    (case yn => k_is)
    (case yo => k_is)
    (case yp => k_is)
    (case wa => k_is)
    (case wO => k_is)
    (case wb => k_is)
    (case wz => k_is)
    (case wk => k_is)
    (case wc => k_is)
    (case vX => k_is)
    (case wA => k_is)
    (case wl => k_is)
    (case xa => k_is)
    (case wn => k_is)
    (case wP => k_is)
    (case wB => k_is)
    (case wo => k_is)
    (case vY => k_is)
    (case wQ => k_is)
    (case wp => k_is)
    (case xb => k_is)
    (case wq => k_is)
    (case wR => k_is)
    (case wC => k_is)
    (case wr => k_is)
    (case vZ => k_is)
    (case wS => k_is)
    (case wD => k_is)
    (case xm => k_is)
    (case wE => k_is)
    (case xf => k_is)
    (case wT => k_is)
    (case wF => k_is)
    (case we => k_is)
    (case xg => k_is)
    (case wt => k_is)
    (case xh => k_is)
    (case wu => k_is)
    (case wU => k_is)
    (case wG => k_is)
    (case wv => k_is)
    (case v6 => k_is)
    (case wV => k_is)
    (case ww => k_is)
    (case wx => k_is)
    (case wH => k_is)
    (case wI => k_is)
    (case wJ => k_is)
    (case wW => k_is)
    (case wX => k_is)
    (case xn => k_is)
    (case xo => k_is)
    (case yq => k_is)
    (case xp => k_is)
    (case wY => k_is)
    (case xi => k_is)
    (case xq => k_is)
    (case xM => k_is)
    (case xt => k_is)
    (case z_len => k_is)
    (case z_abs => k_is)
    (case z_min => k_is)
    (case z_max => k_is)
    (case z_sorted => k_is)
    (case z_any => k_is)
    (case z_isinstance => k_is)
    (case z_list => k_is)
    (case z_int => k_is)
    (case z_bool => k_is)
    (case z_str => k_is)
    (case z_tuple => k_is)
    (case z_reversed => k_is)
    (case z_set => k_is)
    (case z_range => k_is)
    (case z_zip => k_is)
    (case z_all => k_is)
    (case z_sum => k_is)
    (case z_enumerate => k_is)
    (case e_ClueError => k_is)
    (case e_NoFloor => k_is)
    (case e_NoFilling => k_is)
    (case e_NoRule => k_is)
    (case e_NoPuzzle => k_is)
    (case e_TooMany => k_is)
    (case e_NotOne => k_is)
    (case e_NoMove => k_is)
    (case e_NoText => k_is)
    (case e_NoName => k_is)
    (case e_NoRow => k_is)
    (case e_BadThought => k_is)
    (case z_ValueError => k_is)
    (case D1 => k_is)
    (case D2 => exact rfl)
    (case D3 => k_is)
    (case D4 => first | kernel_rfl | exact rfl)
    (case r1_NoFloor => k_is)
    (case r2_NoFloor => k_is)
    (case r3_NoFloor => first | kernel_rfl | exact rfl)
    (case f1_NoFloor => k_is)
    (case f2_NoFloor => k_is)
    (case f3_NoFloor => k_is)
    (case f4_NoFloor => k_is)
    (case f5_NoFloor => k_is)
    (case f6_NoFloor => kit_is)
    (case f7_NoFloor => kts_exm)
    (case g_NoFloor_BadThought => kit_is)
    (case g_NoFloor_NoFilling => kit_is)
    (case g_NoFloor_NoMove => kit_is)
    (case g_NoFloor_NoName => kit_is)
    (case g_NoFloor_NoRow => kit_is)
    (case g_NoFloor_NoText => kit_is)
    (case g_NoFloor_NotOne => kit_is)
    (case g_NoFloor_TooMany => kit_is)
    (case g_NoFloor_NoRule => kit_is)
    (case g_NoFloor_NoPuzzle => kit_is)
    (case r1_NoRule => k_is)
    (case r2_NoRule => k_is)
    (case r3_NoRule => first | kernel_rfl | exact rfl)
    (case f1_NoRule => k_is)
    (case f2_NoRule => k_is)
    (case f3_NoRule => k_is)
    (case f4_NoRule => k_is)
    (case f5_NoRule => k_is)
    (case f6_NoRule => kit_is)
    (case f7_NoRule => kts_exm)
    (case g_NoRule_BadThought => kit_is)
    (case g_NoRule_NoFilling => kit_is)
    (case g_NoRule_NoMove => kit_is)
    (case g_NoRule_NoName => kit_is)
    (case g_NoRule_NoRow => kit_is)
    (case g_NoRule_NoText => kit_is)
    (case g_NoRule_NotOne => kit_is)
    (case g_NoRule_TooMany => kit_is)
    (case g_NoRule_NoFloor => kit_is)
    (case g_NoRule_NoPuzzle => kit_is)
    (case r1_NoPuzzle => k_is)
    (case r2_NoPuzzle => k_is)
    (case r3_NoPuzzle => first | kernel_rfl | exact rfl)
    (case f1_NoPuzzle => k_is)
    (case f2_NoPuzzle => k_is)
    (case f3_NoPuzzle => k_is)
    (case f4_NoPuzzle => k_is)
    (case f5_NoPuzzle => k_is)
    (case f6_NoPuzzle => kit_is)
    (case f7_NoPuzzle => kts_exm)
    (case g_NoPuzzle_BadThought => kit_is)
    (case g_NoPuzzle_NoFilling => kit_is)
    (case g_NoPuzzle_NoMove => kit_is)
    (case g_NoPuzzle_NoName => kit_is)
    (case g_NoPuzzle_NoRow => kit_is)
    (case g_NoPuzzle_NoText => kit_is)
    (case g_NoPuzzle_NotOne => kit_is)
    (case g_NoPuzzle_TooMany => kit_is)
    (case g_NoPuzzle_NoFloor => kit_is)
    (case g_NoPuzzle_NoRule => kit_is)
