import PyProof.Rows.All
import Wide.All
import OpenK.AllK
import Wide.FinOn
import Lean
import PyProof.EqAt
import PyProof.EqKinds
import PyProof.TupleCall
import PyProof.ZipIter
import PyProof.ConsumeS
import PyProof.StrCalls2
import PyProof.StrWalks
import PyProof.SliceStr2
import PyProof.StrBlock
import PyProof.StrBlockL
import PyProof.ListIndex
import PyProof.StrLawsTight
import PyProof.StrLawsChain
import PyProof.StrLaws
import PyProof.StrLawsFirst
import PyProof.StationsW
import PyProof.ExcClass3
import PyProof.NsDelKeeps
import PyProof.RulesAs
import PyProof.ExcBaseAll.ValueError
import PyProof.ExcArgsOwn
import PyProof.ExcAttrAll.ValueError
import KE.KTryMore
import KE.RegKTryMore
import KE.RegKIsAll
import PyProof.Rows.Range3
import PyProof.Rows.SumGenD
import PyProof.Rows.RuleM_int
import PyProof.EnumMake
import PyProof.EnumFor
import PyProof.EnumStmt
import PyProof.Rows.EnumRows
import KE.KRevIter
import PyProof.ListNew
import PyProof.CollectIter
import PyProof.ListRange
import PyProof.CallStr
import PyProof.StrBlock2
import PyProof.Rows.StrMadeLen
import PyProof.Rows.SetFrom
import PyProof.SetRoads
import PyProof.MeetsStr2
import KE.KRevSl
import PyProof.Conv_int
import KE.KListMore
import PyProof.AutoSeq1
import PyProof.WalkInts
import PySem.Challenge.RW_cluemaker_k18_rows_read_and_refused
set_option Elab.async false
set_option linter.all false
set_option maxRecDepth 100000
namespace L2
open PySem PySem.Spec PyProof.Rows
abbrev Key:=Sum Int Str
def keyIs:Key→Value→Bool
 | .inl k,v=>Value.isInt k v
 | .inr x,v=>Value.isStrOf x v
def keyH (w:World):Key→Int
 | .inl k=>hashInt k
 | .inr x=>hashStr w x
theorem bn:∀ {k:Key} {v:Value},keyIs k v=true→(∃ i t,k=Sum.inl i∧v=Value.int i t)∨(∃ x t,k=Sum.inr x∧v=Value.str x t)
 | .inl i,v,h=>by
  obtain ⟨t,e⟩:=Value.isInt_shape (k:=i) (v:=v) h
  exact .inl ⟨i,t,rfl,e⟩
 | .inr x,v,h=>by
  obtain ⟨t,e⟩:=Value.isStrOf_shape (x:=x) (v:=v) h
  exact .inr ⟨x,t,rfl,e⟩
theorem pf (i:Int) (t:Tok):keyIs (.inl i) (.int i t)=true:=by simp [keyIs,Value.isInt]
theorem ph (x:Str) (t:Tok):keyIs (.inr x) (.str x t)=true:=by simp [keyIs,Value.isStrOf]
theorem sU (a b:Int):decide ((Sum.inl a:Key)=Sum.inl b)=(a==b):=by
 by_cases e:a=b
 · subst e; simp
 · have h:¬ (Sum.inl a:Key)=Sum.inl b:=fun q=>e (Sum.inl.inj q)
   rw [decide_eq_false h]
   exact (beq_eq_false_iff_ne.mpr e).symm
theorem sV (a b:Str):decide ((Sum.inr a:Key)=Sum.inr b)=decide (a=b):=by
 by_cases e:a=b
 · subst e; simp
 · have h:¬ (Sum.inr a:Key)=Sum.inr b:=fun q=>e (Sum.inr.inj q)
   rw [decide_eq_false h,decide_eq_false e]
theorem sW (a:Int) (b:Str):decide ((Sum.inl a:Key)=Sum.inr b)=false:=decide_eq_false (fun q=>nomatch q)
theorem sX (a:Str) (b:Int):decide ((Sum.inr a:Key)=Sum.inl b)=false:=decide_eq_false (fun q=>nomatch q)
def cb (prog:Program) (w:World):PySem.KeyKind prog w Key where
 is:=keyIs
 hash:=keyH w
 inj:=fun v a b ha hb=>by
  rcases bn ha with ⟨i,t,rfl,rfl⟩ | ⟨x,t,rfl,rfl⟩
  · rcases bn hb with ⟨j,u,rfl,e⟩ | ⟨y,u,rfl,e⟩
    · injection e with e1 _; rw [e1]
    · exact nomatch e
  · rcases bn hb with ⟨j,u,rfl,e⟩ | ⟨y,u,rfl,e⟩
    · exact nomatch e
    · injection e with e1 _; rw [e1]
 byValue:=fun k v h=>by
  rcases bn h with ⟨i,t,rfl,rfl⟩ | ⟨x,t,rfl,rfl⟩ <;> rfl
 pyHash:=fun hv h=>by
  rcases bn hv with ⟨i,t,rfl,rfl⟩ | ⟨x,t,rfl,rfl⟩
  · exact wpAny_pyHash_int h
  · exact wpAny_pyHash_str h
 eqBool:=fun hu hv h=>by
  rcases bn hu with ⟨i,t,rfl,rfl⟩ | ⟨x,t,rfl,rfl⟩
  · rcases bn hv with ⟨j,u,rfl,rfl⟩ | ⟨y,u,rfl,rfl⟩
    · rw [sU] at h; exact wpAny_eqBool_int h
    · rw [sW] at h; exact SeqAt.EqAt.int_str i t y u _ _ _ _ h
  · rcases bn hv with ⟨j,u,rfl,rfl⟩ | ⟨y,u,rfl,rfl⟩
    · rw [sX] at h; exact SeqAt.EqAt.str_int x t j u _ _ _ _ h
    · rw [sV] at h; exact wpAny_eqBool_str h
 «strs»:=fun k x t v h=>by
  rcases bn h with ⟨i,u,rfl,e⟩ | ⟨y,u,rfl,e⟩
  · exact nomatch e
  · injection e with e1 _
    subst e1
    cases v <;> rfl
theorem nF (prog:Program) (w:World) (i:Int) (t:Tok):(cb prog w).is (.inl i) (.int i t)=true:=pf i t
theorem nG (prog:Program) (w:World) (x:Str) (t:Tok):(cb prog w).is (.inr x) (.str x t)=true:=ph x t
end L2
namespace L2
open PySem PySem.Spec PyProof.Rows
inductive V where
 | non | bl (b:Bool) | int (i:Int) | str (x:Str) | byt (b:Array UInt8) | flt (b:UInt64) | ref (a:Addr) | ty (n:String)
 deriving DecidableEq
def RelV:V→Value→Prop
 | .non,u=>u=Value.none
 | .bl b,u=>u=Value.bool b
 | .int i,u=>∃ t,u=Value.int i t
 | .str x,u=>∃ t,u=Value.str x t
 | .byt b,u=>∃ t,u=Value.bytes b t
 | .flt b,u=>∃ t,u=Value.float b t
 | .ref a,u=>u=Value.ref a
 | .ty n,u=>u=Value.type n
abbrev Vals:List V→List Value→Prop:=Paired RelV
theorem Vals.length {xs:List V} {us:List Value} (r:Vals xs us):xs.length=us.length:=Paired.length r
theorem Vals.get:∀ {xs:List V} {us:List Value} {i:Nat} {x:V},Vals xs us→xs[i]? =some x→∃ u,us[i]? =some u∧RelV x u
 | _,_,_,_,.nil,e=>by simp at e
 | _,_,0,_,.cons r _,e=>by simp at e; subst e; exact ⟨_,rfl,r⟩
 | _,_,i+1,x,.cons _ t,e=>by
  obtain ⟨u,h1,h2⟩:=Vals.get (i:=i) (x:=x) t (by simpa using e)
  exact ⟨u,by simpa using h1,h2⟩
theorem Vals.append:∀ {xs ys:List V} {us ws:List Value},Vals xs us→Vals ys ws→Vals (xs++ys) (us++ws)
 | _,_,_,_,.nil,s=>s
 | _,_,_,_,.cons r t,s=>.cons r (Vals.append t s)
theorem Vals.take:∀ {xs:List V} {us:List Value} (n:Nat),Vals xs us→Vals (xs.take n) (us.take n)
 | _,_,0,_=>.nil
 | _,_,_+1,.nil=>.nil
 | _,_,n+1,.cons r t=>.cons r (Vals.take n t)
theorem Vals.drop:∀ {xs:List V} {us:List Value} (n:Nat),Vals xs us→Vals (xs.drop n) (us.drop n)
 | _,_,0,r=>r
 | _,_,_+1,.nil=>.nil
 | _,_,n+1,.cons _ t=>Vals.drop n t
def RelO:Option V→Option Value→Prop
 | some v,some u=>RelV v u
 | none,none=>True
 | _,_=>False
def KV {κ:Type}:List (κ × V)→List (κ × Value)→Prop:=Paired fun (p:κ × V) (q:κ × Value)=>p.1=q.1∧RelV p.2 q.2
def kV:Key→V
 | .inl i=>.int i
 | .inr x=>.str x
inductive HO where
  | lst (xs:List V)
  | tup (xs:List V)
  | dK (kvs:List (Key × V)) | dT (kvs:List (List Key × V))
  | set (S:Int→Bool) (n:Nat)
  | ins (C dx:Addr) (fs:List (Str × V))
  | own (x:Addr)
  | xd (fs:List (Str × V))
  | met (f x:Addr)
  | rng (lo hi:Int)
  | frz (o:Obj) (u:HO)
  | tbl (ps:Array Value)
  | ext (φ:Heap→Prop)
abbrev Hp:=Addr→Option HO
def upd (H:Hp) (a:Addr) (o:HO):Hp:=fun b=>if b=a then some o else H b
theorem ag {H:Hp} {a:Addr} {o:HO}:upd H a o a=some o:=by unfold upd; rw [if_pos rfl]
theorem ak {H:Hp} {a b:Addr} {o:HO} (h:b≠a):upd H a o b=H b:=by unfold upd; rw [if_neg h]
theorem aA {H:Hp} {a b:Addr} {o:HO} (h:H a=some o) (h':H b=none):a≠b:=by
 intro e; subst e; rw [h] at h'; cases h'
section
variable (P:Program) (w:World)
def ObjOk (H:Hp) (h:Heap) (a:Addr):HO→Prop
 | .lst xs=>xs.length≤sizeLine∧∃ (its:List Value) (n:Nat),Vals xs its∧h.get? a=some { cls:=.type "list",data:=.seq its.toArray n }
 | .tup xs=>xs.length≤sizeLine∧∃ its:List Value,Vals xs its∧IsTup h a its.toArray
 | .dK kvs=>kvs.length≤sizeLine∧(a==sysModules)=false∧∃ vs,KV kvs vs∧h.DictOf (cb P w) a vs
 | .dT kvs=>kvs.length≤sizeLine∧(a==sysModules)=false∧∃ xs:List (List Key × Addr × Value),
   Paired (fun (p:List Key × V) (q:List Key × Addr × Value)=>p.1=q.1∧H q.2.1=some (.tup (p.1.map kV))∧RelV p.2 q.2.2) kvs xs∧
   ∃ o es ep,h.get? a=some o∧o.ExactDict∧o.data=.dict es ep∧es.toList=xs.map (entryOfKey (tupleKind (cb P w)))∧(xs.map (·.1)).Nodup
 | .set S n=>h.SetOf (intKind P w) a S n
 | .ins C dx fs=>H dx=some (.own a)∧fs.length≤1000∧dx≠a∧h.get? a=some (PySem.W.instObj C dx)∧
   ∃ mA,h.Ns1 dx mA∧(∀ f,RelO (fs.lookup f) (mA f))∧PySem.Within mA (fs.map (·.1))
 | .own _=>∃ o,h.get? a=some o
 | .xd fs=>∃ mA,h.Ns1 a mA∧∀ f,RelO (fs.lookup f) (mA f)
 | .rng lo hi=>∃ t u v,h.get? a=some { cls:=.type "range",data:=.fields #[.int lo t,.int hi u,.int 1 v] }
 | .frz o u=>h.get? a=some o∧ObjOk H h a u
 | .tbl ps=>h.get? a=some { cls:=.none,data:=.fields ps }
 | .met f x=>h.get? a=some (PySem.W.methodObj (.ref f) (.ref x))
 | .ext φ=>φ h∧(∃ o,h.get? a=some o)∧∀ h1 h2:Heap,φ h1→(∀ o,h1.get? a=some o→h2.get? a=some o)→φ h2
def HOk (H:Hp) (h:Heap):Prop:=∀ a o,H a=some o→ObjOk P w H h a o
end
section
variable {P:Program} {w:World} {H H':Hp} {h h':Heap} {a:Addr} {o:HO}
theorem ObjOk.lt (x:ObjOk P w H h a o):a < h.objs.size:=by
 cases o with
 | lst xs=>obtain ⟨_,_,_,_,e⟩:=x; exact Heap.lt_size e
 | tup xs=>obtain ⟨_,_,_,p⟩:=x; exact p.lt
 | dK kvs=>obtain ⟨_,_,_,_,o,_,_,e,_⟩:=x; exact Heap.lt_size e
 | dT kvs=>obtain ⟨_,_,_,_,o,_,_,e,_⟩:=x; exact Heap.lt_size e
 | set S n=>obtain ⟨o,_,_,_,e,_⟩:=x; exact Heap.lt_size e
 | ins C dx fs=>obtain ⟨_,_,_,e,_⟩:=x; exact Heap.lt_size e
 | own y=>obtain ⟨_,e⟩:=x; exact Heap.lt_size e
 | xd fs=>obtain ⟨_,⟨_,_,_,e,_⟩,_⟩:=x; exact Heap.lt_size e
 | rng lo hi=>obtain ⟨_,_,_,e⟩:=x; exact Heap.lt_size e
 | frz ob u=>obtain ⟨e,_⟩:=x; exact Heap.lt_size e
 | tbl ps=>exact Heap.lt_size (show h.get? a=some _ from x)
 | met f y=>exact Heap.lt_size (show h.get? a=some _ from x)
 | ext φ=>obtain ⟨_,⟨_,e⟩,_⟩:=x; exact Heap.lt_size e
theorem Paired.mapP {α β:Type} {F G:α→β→Prop}:∀ {l₁:List α} {l₂:List β},Paired F l₁ l₂→(∀ a b,F a b→G a b)→Paired G l₁ l₂
 | _,_,.nil,_=>.nil
 | _,_,.cons r t,f=>.cons (f _ _ r) (Paired.mapP t f)
theorem ObjOk.stay (x:ObjOk P w H h a o) (k:∀ b u,(b=a∨H b=some (.own a))→h.get? b=some u→h'.get? b=some u)
  (ho:∀ b,H b=some (.own a)→H' b=some (.own a)) (ht:∀ b xs,H b=some (.tup xs)→H' b=some (.tup xs)):ObjOk P w H' h' a o:=by
 induction o with
 | lst xs=>obtain ⟨z,its,n,r,e⟩:=x; exact ⟨z,its,n,r,k _ _ (.inl rfl) e⟩
 | tup xs=>obtain ⟨z,its,r,ob,e,c⟩:=x; exact ⟨z,its,r,ob,k _ _ (.inl rfl) e,c⟩
 | dK kvs=>obtain ⟨z,y,vs,r,ob,es,ep,e,c⟩:=x; exact ⟨z,y,vs,r,ob,es,ep,k _ _ (.inl rfl) e,c⟩
 | dT kvs=>
  obtain ⟨z,y,xs,r,ob,es,ep,e,c⟩:=x
  exact ⟨z,y,xs,Paired.mapP r fun p q z=>⟨z.1,ht _ _ z.2.1,z.2.2⟩,ob,es,ep,k _ _ (.inl rfl) e,c⟩
 | set S n=>obtain ⟨ob,es,ep,t,e,c⟩:=x; exact ⟨ob,es,ep,t,k _ _ (.inl rfl) e,c⟩
 | ins C dx fs=>
  obtain ⟨d,z,ne,e,mA,⟨od,es,ep,e2,c⟩,r⟩:=x
  exact ⟨ho _ d,z,ne,k _ _ (.inl rfl) e,mA,⟨od,es,ep,k _ _ (.inr d) e2,c⟩,r⟩
 | own y=>obtain ⟨ob,e⟩:=x; exact ⟨ob,k _ _ (.inl rfl) e⟩
 | xd fs=>obtain ⟨mA,⟨od,es,ep,e,c⟩,r⟩:=x; exact ⟨mA,⟨od,es,ep,k _ _ (.inl rfl) e,c⟩,r⟩
 | rng lo hi=>obtain ⟨t,u,v,e⟩:=x; exact ⟨t,u,v,k _ _ (.inl rfl) e⟩
 | frz ob u ih=>obtain ⟨e,q⟩:=x; exact ⟨k _ _ (.inl rfl) e,ih q⟩
 | tbl ps=>
  have e:h.get? a=some { cls:=.none,data:=.fields ps }:=x
  show h'.get? a=some { cls:=.none,data:=.fields ps }
  exact k a _ (.inl rfl) e
 | met f y=>
  have e:h.get? a=some (PySem.W.methodObj (.ref f) (.ref y)):=x
  show h'.get? a=some (PySem.W.methodObj (.ref f) (.ref y))
  exact k a _ (.inl rfl) e
 | ext φ=>obtain ⟨p,⟨o,e⟩,st⟩:=x; exact ⟨st _ _ p fun o q=>k _ _ (.inl rfl) q,⟨o,k _ _ (.inl rfl) e⟩,st⟩
theorem HOk.lt (x:HOk P w H h) (e:H a=some o):a < h.objs.size:=(x a o e).lt
theorem HOk.fresh (x:HOk P w H h) (e:h.objs.size≤a):H a=none:=by
 cases q:H a with
 | none=>rfl
 | some u=>exact absurd (Nat.lt_of_lt_of_le (x.lt q) e) (Nat.lt_irrefl _)
theorem HOk.kept (x:HOk P w H h) (k:∀ b u,h.get? b=some u→h'.get? b=some u):HOk P w H h':=fun a o e=>
 (x a o e).stay (fun b u _ q=>k b u q) (fun _ q=>q) fun _ _ q=>q
theorem HOk.laid (x:HOk P w H h) (k:∀ b u,h.get? b=some u→h'.get? b=some u) (hp:h.objs.size≤a) (new:ObjOk P w (upd H a o) h' a o):HOk P w (upd H a o) h':=fun b u e=>by
 have hn:=x.fresh hp
 by_cases hb:b=a
 · subst hb; rw [ag] at e; cases e; exact new
 · rw [ak hb] at e
   exact (x b u e).stay (fun c v _ q=>k c v q) (fun c q=>by rw [ak (aA q hn)]; exact q) fun c xs q=>by rw [ak (aA q hn)]; exact q
end
def Rd (H:Hp) (a:Addr) (u:HO):Prop:=H a=some u∨∃ o,H a=some (.frz o u)
theorem Rd.ok {P:Program} {w:World} {H:Hp} {h:Heap} {a:Addr} {u:HO} (r:Rd H a u) (x:HOk P w H h):ObjOk P w H h a u:=by
 rcases r with r | ⟨o,r⟩
 · exact x a u r
 · obtain ⟨_,q⟩:=x a _ r
   exact q
def Mut:Option HO→Prop
 | some (.lst _)=>True
 | some (.dK _)=>True
 | some (.dT _)=>True
 | some (.set _ _)=>True
 | some (.ins _ _ _)=>True
 | some (.ext _)=>True
 | _=>False
section
variable {P:Program} {w:World} {H:Hp} {h h':Heap} {x e:Addr} {o':HO}
theorem HOk.write (ok:HOk P w H h) (mu:Mut (H x)) (he:e=x∨H e=some (.own x)) (k:∀ b u,b≠e→h.get? b=some u→h'.get? b=some u) (heo:∃ u,h'.get? e=some u)
  (new:ObjOk P w (upd H x o') h' x o'):HOk P w (upd H x o') h':=fun b u q=>by
 have nown:∀ c y,H c=some (.own y)→c≠x:=fun c y r z=>by subst z; rw [r] at mu; exact mu
 have ntup:∀ c xs,H c=some (.tup xs)→c≠x:=fun c xs r z=>by subst z; rw [r] at mu; exact mu
 by_cases hb:b=x
 · subst hb; rw [ag] at q; cases q; exact new
 · rw [ak hb] at q
   by_cases hbe:b=e
   · have q':H b=some (.own x):=by
      rcases he with z | z
      · exact absurd (hbe.trans z) hb
      · rw [hbe]; exact z
     rw [q] at q'; cases q'
     obtain ⟨v,hv⟩:=heo
     exact ⟨v,by rw [hbe]; exact hv⟩
   · refine (ok b u q).stay (fun c v hc r=>k c v ?_ r) (fun c r=>by rw [ak (nown c b r)]; exact r) fun c xs r=>by rw [ak (ntup c xs r)]; exact r
     rcases hc with rfl | hc
     · exact hbe
     · rintro rfl
       rcases he with z | z
       · exact nown c b hc z
       · rw [hc] at z; cases z; exact hb rfl
end
structure Un (fs ex:List Addr) (H H':Hp) (h h':Heap):Prop where
 keep:∀ b o,h.get? b=some o→H b=none→b∉fs→b∉ex→h'.get? b=some o
 slot:∀ b o,h.get? b=some o→H b=none→b∈fs→b∉ex→∃ sl,h'.get? b=some { o with slots:=sl }
 free:∀ b o,h.get? b=some o→H b=none→b∉ex→H' b=none
 there:∀ b o,h.get? b=some o→b∉ex→∃ o',h'.get? b=some o'
 tups:∀ b xs,H b=some (.tup xs)→H' b=some (.tup xs)
 frzs:∀ b o u,H b=some (.frz o u)→H' b=some (.frz o u)
 tbls:∀ b ps,H b=some (.tbl ps)→∃ more,H' b=some (.tbl (ps++more))
section
variable {fs fs' ex ex':List Addr} {H H1 H2:Hp} {h h1 h2 h':Heap} {a x e:Addr} {o:HO}
theorem Un.any (u:Un fs ex H H1 h h1) {b:Addr} {ob:Obj} (q:h.get? b=some ob) (n:H b=none) (hx:b∉ex):∃ sl,h1.get? b=some { ob with slots:=sl }:=by
 by_cases hb:b∈fs
 · exact u.slot b ob q n hb hx
 · exact ⟨ob.slots,u.keep b ob q n hb hx⟩
theorem Un.trans (a:Un fs ex H H1 h h1) (b:Un fs ex H1 H2 h1 h2):Un fs ex H H2 h h2 where
 keep:=fun c ob q n hc hx=>b.keep c ob (a.keep c ob q n hc hx) (a.free c ob q n hx) hc hx
 slot:=fun c ob q n hc hx=>by
  obtain ⟨sl,e1⟩:=a.slot c ob q n hc hx
  obtain ⟨sl',e2⟩:=b.slot c _ e1 (a.free c ob q n hx) hc hx
  exact ⟨sl',e2⟩
 free:=fun c ob q n hx=>by
  obtain ⟨o',e1⟩:=a.there c ob q hx
  exact b.free c o' e1 (a.free c ob q n hx) hx
 there:=fun c ob q hx=>by
  obtain ⟨o',e1⟩:=a.there c ob q hx
  exact b.there c o' e1 hx
 tups:=fun c xs q=>b.tups c xs (a.tups c xs q)
 frzs:=fun c ob xs q=>b.frzs c ob xs (a.frzs c ob xs q)
 tbls:=fun c ps q=>by
  obtain ⟨m1,e1⟩:=a.tbls c ps q
  obtain ⟨m2,e2⟩:=b.tbls c _ e1
  exact ⟨m1++m2,by rw [e2,Array.append_assoc]⟩
theorem Un.kept (k:∀ b u,h.get? b=some u→h'.get? b=some u):Un fs ex H H h h':=
 ⟨fun b ob q _ _ _=>k b ob q,fun b ob q _ _ _=>⟨ob.slots,k b ob q⟩,fun _ _ _ n _=>n,fun b ob q _=>⟨ob,k b ob q⟩,fun _ _ q=>q,fun _ _ _ q=>q,fun _ ps q=>⟨#[],by rw [q]; simp⟩⟩
theorem Un.refl:Un fs ex H H h h:=Un.kept fun _ _ q=>q
theorem Un.laid (k:∀ b u,h.get? b=some u→h'.get? b=some u) (hp:h.objs.size≤a) (hn:H a=none):Un fs ex H (upd H a o) h h' where
 keep:=fun b u q _ _ _=>k b u q
 slot:=fun b u q _ _ _=>⟨u.slots,k b u q⟩
 free:=fun b u q n _=>by rw [ak (Nat.ne_of_lt (Nat.lt_of_lt_of_le (Heap.lt_size q) hp))]; exact n
 there:=fun b u q _=>⟨u,k b u q⟩
 tups:=fun b xs q=>by rw [ak (aA q hn)]; exact q
 frzs:=fun b u xs q=>by rw [ak (aA q hn)]; exact q
 tbls:=fun b ps q=>⟨#[],by rw [ak (aA q hn),q]; simp⟩
theorem Un.write (mu:Mut (H x)) (he:e=x∨H e=some (.own x)) (k:∀ b u,b≠e→h.get? b=some u→h'.get? b=some u) (heo:∃ u,h'.get? e=some u):Un fs ex H (upd H x o) h h':=by
 have hx:∀ b,H b=none→b≠x:=fun b n z=>by subst z; rw [n] at mu; exact mu
 have hb:∀ b,H b=none→b≠e:=fun b n z=>by
  subst z
  rcases he with r | r
  · exact hx b n r
  · rw [n] at r; cases r
 have hm:∀ b u,H b=some u→¬ Mut (some u)→b≠x:=fun b u q nm z=>by subst z; rw [q] at mu; exact nm mu
 refine ⟨fun b u q n _ _=>k b u (hb b n) q,fun b u q n _ _=>⟨u.slots,k b u (hb b n) q⟩,fun b u q n _=>by rw [ak (hx b n)]; exact n,fun b u q _=>?_,
  fun b xs q=>by rw [ak (hm b _ q fun z=>z)]; exact q,fun b u xs q=>by rw [ak (hm b _ q fun z=>z)]; exact q,fun b ps q=>⟨#[],by rw [ak (hm b _ q fun z=>z),q]; simp⟩⟩
 by_cases hbe:b=e
 · subst hbe; exact heo
 · exact ⟨u,k b u hbe q⟩
theorem Un.mono (u:Un fs ex H H1 h h1) (hs:∀ b∈fs,b∈fs') (hx:∀ b∈ex,b∈ex'):Un fs' ex' H H1 h h1:=
 ⟨fun b ob q n hb he=>u.keep b ob q n (fun z=>hb (hs b z)) fun z=>he (hx b z),fun _ _ q n _ he=>u.any q n fun z=>he (hx _ z),fun b ob q n he=>u.free b ob q n fun z=>he (hx b z),fun b ob q he=>u.there b ob q fun z=>he (hx b z),u.tups,u.frzs,u.tbls⟩
end
def trk (h:Heap) (H:Hp):List Addr:=(List.range h.objs.size).filter fun a=>(H a).isSome
def hidT (h:Heap) (H:Hp):Heap:=PySem.W.hideAll h (trk h H)
theorem pi (h:Heap) (H:Hp):(hidT h H).objs.size=h.objs.size:=PySem.W.hideAll_size _ _
theorem qy {h:Heap} {H:Hp} {b:Addr} {o:Obj} (e:h.get? b=some o) (n:H b=none):(hidT h H).get? b=some o:=
 PySem.W.hideAll_get _ e fun hm=>by
  have q:(H b).isSome=true:=(List.mem_filter.mp hm).2
  rw [n] at q; simp at q
theorem rK {h:Heap} {H:Hp} {b:Addr} {o:Obj} (e:(hidT h H).get? b=some o):h.get? b=some o∧H b=none:=by
 have e':h.get? b=some o:=PySem.W.of_hideAll (trk h H) e
 refine ⟨e',?_⟩
 cases q:H b with
 | none=>rfl
 | some x=>
  have hm:b∈trk h H:=List.mem_filter.mpr ⟨List.mem_range.mpr (Heap.lt_size e'),by simp [q]⟩
  have z:(hidT h H).get? b=none:=PySem.W.hideAll_none (trk h H) hm
  rw [z] at e; cases e
end L2
namespace L2
open PySem PySem.Spec PyProof.Rows
structure Mod (K:PySem.W.Frag) (mg:Str→Option Value) (base:Heap):Prop where
 kin:K.In base
 glob:base.Ns mainGlobals mg
 blt:∃ mb,base.Ns builtinsNs mb∧∀ x:Str,x≠"__name__"→mb x=bootBuiltins x
 nolimit:base.NoLimit
structure Cx where
 prog:Program
 w:World
 K:PySem.W.Frag
 mg:Str→Option Value
 base:Heap
 A:Around
 N:List Str
 s₀:Shared
 H₀:Hp
 env:Env
 outer:List Env
 stack:List Env
 ex:List Addr
 fn:Str→Bool
 calm:Bool
 pn:List (Addr × Obj)
 xe:Value→Shared→Prop
def frs (l:List Env):List Addr:=l.filterMap (·.frame)
abbrev Cx.fs (X:Cx):List Addr:=frs X.outer
def Vis (sc:Scope) (x:Str):Prop:=sc.names.lookup x=some .local∨sc.names.lookup x=some .cell∨sc.names.lookup x=some .free
def Loc (sc:Scope) (x:Str):Prop:=sc.names.lookup x=some .local∨sc.names.lookup x=some .cell
def Look (env:Env) (h:Heap) (m:Str→Option Value) (x:Str) (u:Value):Prop:=
 (env.kindOf x=some .local∧m x=some u)∨((env.kindOf x=some .cell∨env.kindOf x=some .free)∧∃ c,env.cells.lookup x=some c∧h.IsCell c (some u))
structure Cx.Ok (X:Cx):Prop where
 mod:Mod X.K X.mg X.base
 kind:X.env.scope.kind=.function
 glob:X.env.globals=mainGlobals
 blt:X.env.builtins=builtinsNs
 above:X.s₀.heap.objs.size≤X.env.locals
 inj:∀ x y c,X.env.cells.lookup x=some c→X.env.cells.lookup y=some c→x=y
 has:∀ x,(X.env.kindOf x=some .cell∨X.env.kindOf x=some .free)→∃ c,X.env.cells.lookup x=some c
 cab:∀ x c,X.fn x=true→X.env.cells.lookup x=some c→X.s₀.heap.objs.size≤c
 hd:X.calm=true→X.A.handled=none
 frames:X.A.frames=some X.stack
 stk:X.stack=X.outer∨(X.stack=X.env::X.outer∧X.env.frame=some X.env.locals)
 exf:∀ b∈X.ex,b≠X.env.locals∧∀ x c,X.env.cells.lookup x=some c→c≠b
 bs:∀ b o,X.base.get? b=some o→X.s₀.heap.get? b=some o∧X.H₀ b=none
 bsz:X.base.objs.size≤X.s₀.heap.objs.size
 noex:∀ b o,X.base.get? b=some o→b∉X.ex
 exfs:∀ b∈X.ex,b∉X.fs
 funs:X.s₀.heap.FunFrames X.base X.outer
 frf:∀ b∈X.fs,X.H₀ b=none
structure Inv (X:Cx) (pins:List (Addr × Obj)) (σ:List (Option V)) (H:Hp) (s:Shared):Prop where
 ok:X.Ok
 os:s.os=X.s₀.os
 bare:AllBare s.gens
 base:Un X.fs X.ex X.H₀ H X.s₀.heap s.heap
 loc:∃ m,s.heap.Ns X.env.locals m∧∀ (i:Nat) (x:Str) (v:V),X.N[i]? =some x→σ[i]? =some (some v)→Vis X.env.scope x→∃ u,RelV v u∧Look X.env s.heap m x u
 cell:∀ x c,X.env.cells.lookup x=some c→∃ v,s.heap.IsCell c v
 free:H X.env.locals=none
 freeC:∀ x c,X.env.cells.lookup x=some c→H c=none
 pin:∀ p∈X.pn++pins,s.heap.get? p.1=some p.2∧H p.1=none∧p.1≠X.env.locals∧p.1∉X.fs∧∀ v,p.2.data≠.cell v
 hok:HOk X.prog X.w H s.heap
 len:σ.length=X.N.length
section
variable {X:Cx} {pins:List (Addr × Obj)} {σ:List (Option V)} {H H':Hp} {s:Shared} {h':Heap}
theorem Cx.Ok.nofr (ok:X.Ok) {b:Addr} {o:Obj} (e:X.base.get? b=some o):b∉X.fs:=fun hb=>by
 have:=(ok.funs.mem hb).1
 rw [e] at this; cases this
theorem Inv.bs (I:Inv X pins σ H s):∀ b o,X.base.get? b=some o→s.heap.get? b=some o∧H b=none:=fun b o e=>
 ⟨I.base.keep b o (I.ok.bs b o e).1 (I.ok.bs b o e).2 (I.ok.nofr e) (I.ok.noex b o e),I.base.free b o (I.ok.bs b o e).1 (I.ok.bs b o e).2 (I.ok.noex b o e)⟩
theorem Inv.bk (I:Inv X pins σ H s):∀ b o,X.base.get? b=some o→s.heap.get? b=some o:=fun b o e=>(I.bs b o e).1
theorem Inv.mod (I:Inv X pins σ H s):Mod X.K X.mg X.base:=I.ok.mod
theorem Inv.kIn (I:Inv X pins σ H s):X.K.In s.heap:=I.ok.mod.kin.keeps I.bk
theorem Inv.lt (I:Inv X pins σ H s):X.env.locals < s.heap.objs.size:=let ⟨_,hn,_⟩:=I.loc; hn.lt
theorem Inv.sz (I:Inv X pins σ H s):X.s₀.heap.objs.size≤s.heap.objs.size:=Nat.le_trans I.ok.above (Nat.le_of_lt I.lt)
theorem Inv.nofs (I:Inv X pins σ H s) {a:Addr} (h:s.heap.objs.size≤a):a∉X.fs:=fun hb=>by
 obtain ⟨_,o,ho,_⟩:=I.ok.funs.mem hb
 exact absurd (Nat.lt_of_lt_of_le (Heap.lt_size ho) (Nat.le_trans I.sz h)) (Nat.lt_irrefl _)
theorem Inv.cne (I:Inv X pins σ H s):∀ x c,X.env.cells.lookup x=some c→c≠X.env.locals:=fun x c e z=>by
 obtain ⟨v,o,ho,hd⟩:=I.cell x c e
 obtain ⟨m,⟨o',es,ep,ho',hd',_⟩,_⟩:=I.loc
 rw [z,ho'] at ho; cases ho; rw [hd'] at hd; cases hd
theorem Inv.funs (I:Inv X pins σ H s):s.heap.FunFrames X.base X.outer:=by
 have all:∀ (l:List Env),(∀ b∈frs l,b∈X.fs)→X.s₀.heap.FunFrames X.base l→s.heap.FunFrames X.base l:=by
  intro l
  induction l with
  | nil=>intro _ _; trivial
  | cons env r ih=>
   intro hs hl
   obtain ⟨hk,⟨L,o,hf,hn,ho,hd⟩,hr⟩:=hl
   have hL:L∈X.fs:=hs L (by unfold frs; rw [List.filterMap_cons,hf]; exact List.mem_cons_self)
   obtain ⟨sl,e⟩:=I.base.slot L o ho (I.ok.frf L hL) hL fun z=>I.ok.exfs L z hL
   exact ⟨hk,⟨L,_,hf,hn,e,hd⟩,ih (fun b hb=>hs b (by unfold frs; rw [List.filterMap_cons,hf]; exact List.mem_cons_of_mem _ hb)) hr⟩
 exact all X.outer (fun _ hb=>hb) I.ok.funs
theorem Inv.stack (I:Inv X pins σ H s):s.heap.FunFrames X.base X.stack:=by
 rcases I.ok.stk with e | ⟨e,hf⟩
 · rw [e]; exact I.funs
 · rw [e]
   obtain ⟨m,hn,_⟩:=I.loc
   refine .cons (by rw [I.ok.kind]; decide) hf hn ?_ I.funs
   exact Heap.get?_none_of_le (Nat.le_trans I.ok.bsz I.ok.above)
theorem Inv.stkSub (I:Inv X pins σ H s):∀ b∈frs X.stack,b∈X.env.locals::X.fs:=fun b hb=>by
 rcases I.ok.stk with e | ⟨e,hf⟩
 · rw [e] at hb; exact List.mem_cons_of_mem _ hb
 · rw [e] at hb
   unfold frs at hb
   rw [List.filterMap_cons,hf] at hb
   exact hb
theorem Inv.stkFree (I:Inv X pins σ H s):∀ b∈frs X.stack,H b=none:=fun b hb=>by
 rcases List.mem_cons.mp (I.stkSub b hb) with e | hb
 · rw [e]; exact I.free
 · obtain ⟨_,o,ho,_⟩:=I.ok.funs.mem hb
   exact I.base.free b o ho (I.ok.frf b hb) fun z=>I.ok.exfs b z hb
theorem Inv.step {g':Array GenState} {t':Nat} {d':Drawn} {ch:List Addr} (I:Inv X pins σ H s)
  (hch:∀ b∈ch,(b∈X.ex∨X.s₀.heap.objs.size≤b)∧b≠X.env.locals∧(∀ x c,X.env.cells.lookup x=some c→c≠b)∧∀ p∈X.pn++pins,p.1≠b)
  (keep:∀ b o,b≠X.env.locals→b∉X.fs→b∉ch→s.heap.get? b=some o→H b=none→h'.get? b=some o)
  (slot:∀ b o,b≠X.env.locals→b∈X.fs→b∉ch→s.heap.get? b=some o→H b=none→∃ sl,h'.get? b=some { o with slots:=sl }) (free:∀ b o,b∉ch→s.heap.get? b=some o→H b=none→H' b=none)
  (there:∀ b o,b∉ch→s.heap.get? b=some o→∃ o',h'.get? b=some o')
  (tups:∀ b xs,H b=some (.tup xs)→H' b=some (.tup xs)) (frzs:∀ b o u,H b=some (.frz o u)→H' b=some (.frz o u)) (tbls:∀ b ps,H b=some (.tbl ps)→∃ more,H' b=some (.tbl (ps++more)))
  (ns:∀ m,s.heap.Ns X.env.locals m→h'.Ns X.env.locals m) (hok:HOk X.prog X.w H' h') (hg:AllBare g'):
  Inv X pins σ H' { s with heap:=h',gens:=g',drawn:=d',toks:=t' }:=by
 have neL:∀ b o,X.s₀.heap.get? b=some o→b≠X.env.locals:=fun b o e=>Nat.ne_of_lt (Nat.lt_of_lt_of_le (Heap.lt_size e) I.ok.above)
 have neC:∀ b o,X.s₀.heap.get? b=some o→b∉X.ex→b∉ch:=fun b o e hx hb=>by
  rcases (hch b hb).1 with z | z
  · exact hx z
  · exact absurd (Nat.lt_of_lt_of_le (Heap.lt_size e) z) (Nat.lt_irrefl _)
 have cellK:∀ x c,X.env.cells.lookup x=some c→∀ v,s.heap.IsCell c v→h'.IsCell c v:=fun x c e v ⟨o,ho,hd⟩=>by
  have nch:c∉ch:=fun z=>(hch c z).2.2.1 x c e rfl
  by_cases hc:c∈X.fs
  · obtain ⟨sl,q⟩:=slot c o (I.cne x c e) hc nch ho (I.freeC x c e)
    exact ⟨_,q,hd⟩
  · exact ⟨o,keep c o (I.cne x c e) hc nch ho (I.freeC x c e),hd⟩
 refine ⟨I.ok,I.os,hg,⟨fun b o e n hb hx=>?_,fun b o e n hb hx=>?_,fun b o e n hx=>?_,fun b o e hx=>?_,fun b xs e=>tups b xs (I.base.tups b xs e),fun b o xs e=>frzs b o xs (I.base.frzs b o xs e),fun b ps e=>?_⟩,?_,fun x c e=>?_,?_,fun x c e=>?_,fun p hp=>?_,hok,I.len⟩
 · exact keep b o (neL b o e) hb (neC b o e hx) (I.base.keep b o e n hb hx) (I.base.free b o e n hx)
 · obtain ⟨sl,e1⟩:=I.base.slot b o e n hb hx
   obtain ⟨sl',e2⟩:=slot b _ (neL b o e) hb (neC b o e hx) e1 (I.base.free b o e n hx)
   exact ⟨sl',e2⟩
 · obtain ⟨o',e1⟩:=I.base.there b o e hx
   exact free b o' (neC b o e hx) e1 (I.base.free b o e n hx)
 · obtain ⟨o',e1⟩:=I.base.there b o e hx
   exact there b o' (neC b o e hx) e1
 · obtain ⟨m1,e1⟩:=I.base.tbls b ps e
   obtain ⟨m2,e2⟩:=tbls b _ e1
   exact ⟨m1++m2,by rw [e2,Array.append_assoc]⟩
 · obtain ⟨m,hn,hl⟩:=I.loc
   refine ⟨m,ns m hn,fun i x v e1 e2 e3=>?_⟩
   obtain ⟨u,r,l⟩:=hl i x v e1 e2 e3
   refine ⟨u,r,?_⟩
   rcases l with l | ⟨k,c,e,z⟩
   · exact .inl l
   · exact .inr ⟨k,c,e,cellK x c e _ z⟩
 · obtain ⟨v,z⟩:=I.cell x c e
   exact ⟨v,cellK x c e v z⟩
 · obtain ⟨m,⟨o,_,_,ho,_⟩,_⟩:=I.loc
   exact free _ o (fun z=>(hch _ z).2.1 rfl) ho I.free
 · obtain ⟨v,o,ho,hd⟩:=I.cell x c e
   exact free c o (fun z=>(hch c z).2.2.1 x c e rfl) ho (I.freeC x c e)
 · obtain ⟨e,n,ne,nf,d⟩:=I.pin p hp
   have nch:p.1∉ch:=fun z=>(hch p.1 z).2.2.2 p hp rfl
   exact ⟨keep p.1 p.2 ne nf nch e n,free p.1 p.2 nch e n,ne,nf,d⟩
theorem Inv.un {t':Nat} (I:Inv X pins σ H s) (u:Un X.fs [] H H' s.heap h') (hok:HOk X.prog X.w H' h'):Inv X pins σ H' { s with heap:=h',toks:=t' }:=by
 obtain ⟨m,⟨o,es,ep,ho,r⟩,_⟩:=id I.loc
 obtain ⟨sl,hL⟩:=u.any ho I.free (by simp)
 exact I.step (g':=s.gens) (d':=s.drawn) (ch:=[]) (fun _ z=>nomatch z) (fun b o _ hb _ e n=>u.keep b o e n hb (by simp)) (fun b o _ hb _ e n=>u.slot b o e n hb (by simp)) (fun b o _ e n=>u.free b o e n (by simp)) (fun b o _ e=>u.there b o e (by simp)) u.tups u.frzs u.tbls (fun m' hm=>by
  obtain ⟨o',es',ep',ho',r'⟩:=hm
  rw [ho] at ho'; cases ho'
  exact ⟨_,es',ep',hL,r'⟩) hok I.bare
theorem Inv.call {g':Array GenState} {t':Nat} {d':Drawn} {ch:List Addr} (I:Inv X pins σ H s) (u:Un (frs X.stack) ch H H' s.heap h') (hok:HOk X.prog X.w H' h') (hg:AllBare g')
  (hch:∀ b∈ch,(b∈X.ex∨X.s₀.heap.objs.size≤b)∧b≠X.env.locals∧(∀ x c,X.env.cells.lookup x=some c→c≠b)∧∀ p∈X.pn++pins,p.1≠b):
  Inv X pins σ H' { s with heap:=h',gens:=g',drawn:=d',toks:=t' }:=by
 obtain ⟨m,⟨o,es,ep,ho,r⟩,_⟩:=id I.loc
 obtain ⟨sl,hL⟩:=u.any ho I.free fun z=>(hch _ z).2.1 rfl
 exact I.step (ch:=ch) hch (fun b o hL hb hc e n=>u.keep b o e n (fun z=>(List.mem_cons.mp (I.stkSub b z)).elim hL hb) hc) (fun b o _ _ hc e n=>u.any e n hc) (fun b o hc e n=>u.free b o e n hc) (fun b o hc e=>u.there b o e hc) u.tups u.frzs u.tbls (fun m' hm=>by
  obtain ⟨o',es',ep',ho',r'⟩:=hm
  rw [ho] at ho'; cases ho'
  exact ⟨_,es',ep',hL,r'⟩) hok hg
theorem Inv.turned {t':Nat} {it:Addr} (I:Inv X pins σ H s) (k:∀ b o,b≠it→s.heap.get? b=some o→h'.get? b=some o) (hn:H it=none) (hL:it≠X.env.locals)
  (h1:it∈X.ex∨X.s₀.heap.objs.size≤it) (h2:∀ x c,X.env.cells.lookup x=some c→c≠it) (h3:∀ p∈X.pn++pins,p.1≠it):Inv X pins σ H { s with heap:=h',toks:=t' }:=by
 have nit:∀ b u,H b=some u→b≠it:=fun b u e z=>by rw [z,hn] at e; cases e
 refine I.step (g':=s.gens) (d':=s.drawn) (ch:=[it]) (fun b hb=>?_) (fun b o _ _ hc e _=>k b o (fun z=>hc (by simp [z])) e) (fun b o _ _ hc e _=>⟨o.slots,k b o (fun z=>hc (by simp [z])) e⟩) (fun _ _ _ _ n=>n)
  (fun b o hc e=>⟨o,k b o (fun z=>hc (by simp [z])) e⟩) (fun _ _ e=>e) (fun _ _ _ e=>e) (fun b ps e=>⟨#[],by rw [e]; simp⟩) (fun m hm=>?_) (fun b u e=>?_) I.bare
 · have e:b=it:=by simpa using hb
   subst e
   exact ⟨h1,hL,h2,h3⟩
 · obtain ⟨o,es,ep,ho,r⟩:=hm
   exact ⟨o,es,ep,k _ o (Ne.symm hL) ho,r⟩
 · refine (I.hok b u e).stay (fun c v hc q=>k c v ?_ q) (fun _ q=>q) fun _ _ q=>q
   rcases hc with z | z
   · rw [z]; exact nit b u e
   · exact nit c _ z
theorem Inv.tok (I:Inv X pins σ H s) (t:Nat):Inv X pins σ H { s with toks:=t }:=I.un (h':=s.heap) (t':=t) Un.refl I.hok
theorem Inv.kept {t':Nat} (I:Inv X pins σ H s) (k:∀ b u,s.heap.get? b=some u→h'.get? b=some u):Inv X pins σ H { s with heap:=h',toks:=t' }:=I.un (Un.kept k) (I.hok.kept k)
theorem Inv.laid {a:Addr} {o:HO} {t':Nat} (I:Inv X pins σ H s) (k:∀ b u,s.heap.get? b=some u→h'.get? b=some u) (hp:s.heap.objs.size≤a) (new:ObjOk X.prog X.w (upd H a o) h' a o):
  Inv X pins σ (upd H a o) { s with heap:=h',toks:=t' }:=I.un (Un.laid k hp (I.hok.fresh hp)) (I.hok.laid k hp new)
theorem Inv.write {x e:Addr} {o:HO} {t':Nat} (I:Inv X pins σ H s) (mu:Mut (H x)) (he:e=x∨H e=some (.own x)) (k:∀ b u,b≠e→s.heap.get? b=some u→h'.get? b=some u) (heo:∃ u,h'.get? e=some u)
  (new:ObjOk X.prog X.w (upd H x o) h' x o):Inv X pins σ (upd H x o) { s with heap:=h',toks:=t' }:=I.un (Un.write mu he k heo) (I.hok.write mu he k heo new)
theorem Inv.pins_of {pins':List (Addr × Obj)} (I:Inv X pins σ H s) (h:∀ p∈pins',s.heap.get? p.1=some p.2∧H p.1=none∧p.1≠X.env.locals∧p.1∉X.fs∧∀ v,p.2.data≠.cell v):Inv X pins' σ H s:=
 ⟨I.ok,I.os,I.bare,I.base,I.loc,I.cell,I.free,I.freeC,fun p hp=>(List.mem_append.mp hp).elim (fun z=>I.pin p (List.mem_append_left _ z)) (h p),I.hok,I.len⟩
theorem ji {N:List Str} (hN:N.Nodup) {i j:Nat} {x:Str} (a:N[i]? =some x) (b:N[j]? =some x):i=j:=by
 obtain ⟨h1,e1⟩:=List.getElem?_eq_some_iff.mp a
 obtain ⟨h2,e2⟩:=List.getElem?_eq_some_iff.mp b
 exact (List.getElem_inj hN).mp (e1.trans e2.symm)
theorem kU {M:Model} {A:Around} {E:Value→Shared→Prop} {i:Nat} {x:Str} {v:V} {u:Value} {Q:Unit→Shared→Prop} (I:Inv X pins σ H s) (hN:X.N.Nodup) (hi:X.N[i]? =some x) (hx:Loc X.env.scope x) (r:RelV v u)
  (h:∀ s',Inv X pins (σ.set i (some v)) H s'→(∃ a,Heap.SameBut a s.heap s'.heap∧(a=X.env.locals∨X.env.cells.lookup x=some a))→Q () s') (hf:X.fn x=true∨X.env.scope.names.lookup x=some .local:=by first | exact .inl rfl | exact .inr rfl | assumption):wpAny M A (storeName X.env x u) Q E s:=by
 obtain ⟨m,hn,hl⟩:=id I.loc
 have hcls:(X.env.scope.kind==.class||(X.env.scope.kind==.module&&X.env.locals != X.env.globals))=false:=by rw [I.ok.kind]; rfl
 have hiσ:i < σ.length:=by rw [I.len]; exact (List.getElem?_eq_some_iff.mp hi).1
 have cne:=I.cne
 have tracked:∀ {a:Addr} {h':Heap},(∃ o,s.heap.get? a=some o∧H a=none)→Heap.SameBut a s.heap h'→HOk X.prog X.w H h':=fun {a h'} ha hs b ob e=>by
  obtain ⟨_,_,hfree⟩:=ha
  refine (I.hok b ob e).stay (fun c w' hc q=>(hs.2 c ?_).trans q) (fun _ q=>q) fun _ _ q=>q
  rintro rfl
  rcases hc with rfl | hc
  · rw [hfree] at e; cases e
  · rw [hfree] at hc; cases hc
 rcases hx with hk | hk
 · refine wpAny_storeName_local hk hn (fun h' hn' hs=>?_) hcls
   obtain ⟨oL,_,_,hoL,_⟩:=id hn
   refine h _ ⟨I.ok,I.os,I.bare,⟨fun b o e n hb hx=>?_,fun b o e n hb hx=>?_,I.base.free,fun b o e hx=>?_,I.base.tups,I.base.frzs,I.base.tbls⟩,⟨_,hn',fun j y v' e1 e2 e3=>?_⟩,fun y c e=>?_,I.free,I.freeC,fun p hp=>?_,tracked ⟨oL,hoL,I.free⟩ hs,by simpa using I.len⟩ ⟨_,hs,.inl rfl⟩
   · exact (hs.2 b (Nat.ne_of_lt (Nat.lt_of_lt_of_le (Heap.lt_size e) I.ok.above))).trans (I.base.keep b o e n hb hx)
   · obtain ⟨sl,e1⟩:=I.base.slot b o e n hb hx
     exact ⟨sl,(hs.2 b (Nat.ne_of_lt (Nat.lt_of_lt_of_le (Heap.lt_size e) I.ok.above))).trans e1⟩
   · obtain ⟨o',e1⟩:=I.base.there b o e hx
     exact ⟨o',(hs.2 b (Nat.ne_of_lt (Nat.lt_of_lt_of_le (Heap.lt_size e) I.ok.above))).trans e1⟩
   · by_cases hj:j=i
     · subst hj
       rw [hi] at e1; cases e1
       rw [List.getElem?_set_self hiσ] at e2
       cases e2
       exact ⟨u,r,.inl ⟨hk,by simp⟩⟩
     · rw [List.getElem?_set_ne (Ne.symm hj)] at e2
       obtain ⟨u',r',q⟩:=hl j y v' e1 e2 e3
       refine ⟨u',r',?_⟩
       rcases q with ⟨k,e⟩ | ⟨k,c,e,z⟩
       · refine .inl ⟨k,?_⟩
         have:y≠x:=fun e=>hj (ji hN e1 (e ▸ hi))
         simp [this,e]
       · exact .inr ⟨k,c,e,z.sameBut hs (cne y c e)⟩
   · obtain ⟨w',z⟩:=I.cell y c e
     exact ⟨w',z.sameBut hs (cne y c e)⟩
   · obtain ⟨e,n,ne,nf,d⟩:=I.pin p hp
     exact ⟨(hs.2 p.1 ne).trans e,n,ne,nf,d⟩
 · have hfn:X.fn x=true:=by
    rcases hf with z | z
    · exact z
    · rw [z] at hk; cases hk
   obtain ⟨c,hc⟩:=I.ok.has x (.inl hk)
   obtain ⟨w',z⟩:=I.cell x c hc
   refine wpAny_storeName_cell I.ok.kind hk hc z (fun h' hc' hs=>?_)
   obtain ⟨oc,hoc,hocd⟩:=id z
   refine h { s with heap:=h' } ⟨I.ok,I.os,I.bare,⟨fun b o e n hb hx=>?_,fun b o e n hb hx=>?_,I.base.free,fun b o e hx=>?_,I.base.tups,I.base.frzs,I.base.tbls⟩,⟨m,hn.sameBut hs (Ne.symm (cne x c hc)),fun j y v' e1 e2 e3=>?_⟩,fun y c' e=>?_,I.free,I.freeC,fun p hp=>?_,tracked ⟨oc,hoc,I.freeC x c hc⟩ hs,by simpa using I.len⟩ ⟨c,hs,.inr hc⟩
   · exact (hs.2 b (Nat.ne_of_lt (Nat.lt_of_lt_of_le (Heap.lt_size e) (I.ok.cab x c hfn hc)))).trans (I.base.keep b o e n hb hx)
   · obtain ⟨sl,e1⟩:=I.base.slot b o e n hb hx
     exact ⟨sl,(hs.2 b (Nat.ne_of_lt (Nat.lt_of_lt_of_le (Heap.lt_size e) (I.ok.cab x c hfn hc)))).trans e1⟩
   · obtain ⟨o',e1⟩:=I.base.there b o e hx
     exact ⟨o',(hs.2 b (Nat.ne_of_lt (Nat.lt_of_lt_of_le (Heap.lt_size e) (I.ok.cab x c hfn hc)))).trans e1⟩
   · by_cases hj:j=i
     · subst hj
       rw [hi] at e1; cases e1
       rw [List.getElem?_set_self hiσ] at e2
       cases e2
       exact ⟨u,r,.inr ⟨.inl hk,c,hc,hc'⟩⟩
     · rw [List.getElem?_set_ne (Ne.symm hj)] at e2
       obtain ⟨u',r',q⟩:=hl j y v' e1 e2 e3
       refine ⟨u',r',?_⟩
       rcases q with q | ⟨k,c',e,z'⟩
       · exact .inl q
       · refine .inr ⟨k,c',e,z'.sameBut hs ?_⟩
         rintro rfl
         exact hj (ji hN e1 (I.ok.inj _ _ _ e hc ▸ hi))
   · by_cases hcc:c'=c
     · subst hcc; exact ⟨_,hc'⟩
     · obtain ⟨w2,z2⟩:=I.cell y c' e
       exact ⟨w2,z2.sameBut hs hcc⟩
   · obtain ⟨e,n,ne,nf,d⟩:=I.pin p hp
     refine ⟨(hs.2 p.1 ?_).trans e,n,ne,nf,d⟩
     intro q
     rw [q,hoc] at e
     have q':oc=p.2:=Option.some.inj e
     exact d w' (by rw [← q']; exact hocd)
theorem gA {M:Model} {A:Around} {E:Value→Shared→Prop} {i:Nat} {x:Str} {v:V} {u:Value} {Q:Unit→Shared→Prop} (I:Inv X pins σ H s) (hN:X.N.Nodup) (hi:X.N[i]? =some x) (hx:Loc X.env.scope x) (r:RelV v u)
  (h:∀ s',Inv X pins (σ.set i (some v)) H s'→Q () s') (hf:X.fn x=true∨X.env.scope.names.lookup x=some .local:=by first | exact .inl rfl | exact .inr rfl | assumption):wpAny M A (storeName X.env x u) Q E s:=
 kU I hN hi hx r (fun s' I' _=>h s' I') hf
theorem Inv.call' {s':Shared} {ch:List Addr} (I:Inv X pins σ H s) (ho:s'.os=s.os) (u:Un (frs X.stack) ch H H' s.heap s'.heap) (hok:HOk X.prog X.w H' s'.heap) (hg:AllBare s'.gens)
  (hch:∀ b∈ch,(b∈X.ex∨X.s₀.heap.objs.size≤b)∧b≠X.env.locals∧(∀ x c,X.env.cells.lookup x=some c→c≠b)∧∀ p∈X.pn++pins,p.1≠b):Inv X pins σ H' s':=by
 obtain ⟨h',g',d',t',o'⟩:=s'
 have e:o'=s.os:=ho
 subst e
 exact I.call (g':=g') (t':=t') (d':=d') u hok hg hch
end
abbrev XK:=Value→Option Addr→Hp→Prop
abbrev St:=List (Option V)
abbrev VK:=V→Hp→Prop
abbrev TE:=St→Hp→VK→Prop
abbrev TT:=St→Hp→(Bool→Hp→Prop)→Prop
abbrev TA:=St→Hp→(List V→Hp→Prop)→Prop
structure Ends where
 nx:St→Hp→Prop
 rt:VK
 bk:St→Hp→Prop:=fun _ _=>False
 ct:St→Hp→Prop:=fun _ _=>False
abbrev TS:=Ends→St→Hp→Prop
def EP (X:Cx) (pins:List (Addr × Obj)) (σ:St) (Q:VK) (u:Value) (s':Shared):Prop:=∃ v H',Inv X pins σ H' s'∧RelV v u∧Q v H'
def TP (X:Cx) (pins:List (Addr × Obj)) (σ:St) (Q:Bool→Hp→Prop) (b:Bool) (s':Shared):Prop:=∃ H',Inv X pins σ H' s'∧Q b H'
def AP (X:Cx) (pins:List (Addr × Obj)) (σ:St) (Q:List V→Hp→Prop) (us:List Value) (s':Shared):Prop:=∃ vs H',Inv X pins σ H' s'∧Vals vs us∧Q vs H'
def SP (X:Cx) (pins:List (Addr × Obj)) (D:Ends) (f:Flow) (s':Shared):Prop:=
 match f with
 | .next=>∃ σ' H',Inv X pins σ' H' s'∧D.nx σ' H'
 | .brk=>∃ σ' H',Inv X pins σ' H' s'∧D.bk σ' H'
 | .cont=>∃ σ' H',Inv X pins σ' H' s'∧D.ct σ' H'
 | .ret u=>∃ v σ' H',Inv X pins σ' H' s'∧RelV v u∧D.rt v H'
def PE (X:Cx) (e:Expr) (t:TE):Prop:=
 ∀ (pins:List (Addr × Obj)) (s:Shared) (σ:St) (H:Hp) (Q:VK),Inv X pins σ H s→t σ H Q→wpAny (model X.prog X.w) X.A (eval e X.env) (EP X pins σ Q) X.xe s
def PT (X:Cx) (e:Expr) (t:TT):Prop:=
 ∀ (pins:List (Addr × Obj)) (s:Shared) (σ:St) (H:Hp) (Q:Bool→Hp→Prop),Inv X pins σ H s→t σ H Q→wpAny (model X.prog X.w) X.A (isTrue e X.env (eval e X.env)) (TP X pins σ Q) X.xe s
def PW (X:Cx) (e:Expr) (t:TT):Prop:=
 ∀ (whole:Sem Value) (pins:List (Addr × Obj)) (s:Shared) (σ:St) (H:Hp) (Q:Bool→Hp→Prop),Inv X pins σ H s→t σ H Q→wpAny (model X.prog X.w) X.A (isTrue e X.env whole) (TP X pins σ Q) X.xe s
theorem PW.pt {X:Cx} {e:Expr} {t:TT} (h:PW X e t):PT X e t:=h _
def PA (X:Cx) (es:List Expr) (t:TA):Prop:=
 ∀ (pos:Pos) (pins:List (Addr × Obj)) (s:Shared) (σ:St) (H:Hp) (Q:List V→Hp→Prop),Inv X pins σ H s→t σ H Q→wpAny (model X.prog X.w) X.A (spliced (backTo pos (starEach es X.env))) (AP X pins σ Q) X.xe s
def PS (X:Cx) (st:Stmt) (t:TS):Prop:=
 ∀ (pins:List (Addr × Obj)) (s:Shared) (σ:St) (H:Hp) (D:Ends),Inv X pins σ H s→t D σ H→wpAny (model X.prog X.w) X.A (exec st X.env) (SP X pins D) X.xe s
def PSs (X:Cx) (st:List Stmt) (t:TS):Prop:=
 ∀ (pins:List (Addr × Obj)) (s:Shared) (σ:St) (H:Hp) (D:Ends),Inv X pins σ H s→t D σ H→wpAny (model X.prog X.w) X.A (execs st X.env) (SP X pins D) X.xe s
theorem thn {α:Type} {t:Sem α} {Q Q':α→Shared→Prop} {M:Model} {A:Around} {E:Value→Shared→Prop} {s:Shared} (h:wpAny M A t Q E s) (hQ:∀ a s,Q a s→Q' a s):wpAny M A t Q' E s:=wpAny_mono h hQ fun _ _ x=>x
end L2
namespace L2
open PySem PySem.Spec PyProof.Rows
section
variable {X:Cx}
def vB:Option (Option V)→(V→Prop)→Prop
 | some (some v),k=>k v
 | _,_=>False
theorem rf {o:Option (Option V)} {k:V→Prop} (h:vB o k):∃ v,o=some (some v)∧k v:=by
 rcases o with _ | _ | v
 · cases h
 · cases h
 · exact ⟨v,rfl,h⟩
theorem gB {o:Option (Option V)} {k:V→Prop} {v:V} (e:o=some (some v)) (h:k v):vB o k:=by subst e; exact h
def tVar (i:Nat):TE:=fun σ H Q=>vB σ[i]? fun v=>Q v H
def tC (v:V):TE:=fun _ H Q=>Q v H
theorem sY {i:Nat} {x:Str} {pos:Pos} (hN:X.N[i]? =some x) (hv:Vis X.env.scope x) (hd:(x==("__debug__":Str))=false:=by decide) (hcd:(x==("__classdict__":Str))=false:=by decide):PE X (.Name x pos) (tVar i):=by
 intro pins s σ H Q I h
 obtain ⟨v,e,h⟩:=rf h
 obtain ⟨m,hn,hl⟩:=I.loc
 obtain ⟨u,r,l⟩:=hl i x v hN e hv
 have fin:EP X pins σ Q u s:=⟨v,H,I,r,h⟩
 rcases l with ⟨hk,hm⟩ | ⟨hk,c,hc,hcell⟩
 · exact wpAny_Name (wpAny_loadName_local I.ok.kind hk hn hm fin) hd
 · rcases hk with hk | hk
   · exact wpAny_Name (wpAny_loadName_cell I.ok.kind hk hc hcell fin) hd
   · exact wpAny_Name (wpAny_loadName_free I.ok.kind hk hc hcell fin hcd) hd
theorem ad {i j pos}:PE X (.Constant (.int i) j pos) (tC (.int i)):=fun _ _ _ H _ I h=>wpAny_Constant_int ⟨.int i,H,I.tok _,⟨_,rfl⟩,h⟩
theorem fN {b j pos}:PE X (.Constant (.bool b) j pos) (tC (.bl b)):=fun _ _ _ H _ I h=>Constant_bool ⟨.bl b,H,I,rfl,h⟩
theorem bo {j pos}:PE X (.Constant .none j pos) (tC .non):=fun _ _ _ H _ I h=>Constant_none ⟨.non,H,I,rfl,h⟩
theorem am {x j pos}:PE X (.Constant (.str x) j pos) (tC (.str x)):=fun _ _ _ H _ I h=>Calls.Constant_str ⟨.str x,H,I.tok _,⟨_,rfl⟩,h⟩
def Gl (X:Cx) (x:Str):Prop:=X.env.kindOf x=some .globalImplicit
theorem fh {E:Value→Shared→Prop} {pins:List (Addr × Obj)} {s:Shared} {σ:St} {H:Hp} {x:Str} {u:Value} {pos:Pos} {Q:Value→Shared→Prop} (I:Inv X pins σ H s) (hg:Gl X x) (hm:X.mg x=some u) (h:Q u s)
  (hd:(x==("__debug__":Str))=false:=by decide):wpAny (model X.prog X.w) X.A (eval (.Name x pos) X.env) Q E s:=
 Calls.Name_function_global I.ok.kind hg (Calls.loadGlobal_global (by rw [I.ok.glob]; exact I.mod.glob.keeps I.bk) hm h) hd
theorem dF {E:Value→Shared→Prop} {pins:List (Addr × Obj)} {s:Shared} {σ:St} {H:Hp} {x:Str} {u:Value} {pos:Pos} {Q:Value→Shared→Prop} (I:Inv X pins σ H s) (hg:Gl X x) (hm:X.mg x=none) (hv:bootBuiltins x=some u) (h:Q u s)
  (hn:x≠"__name__":=by decide) (hd:(x==("__debug__":Str))=false:=by decide):wpAny (model X.prog X.w) X.A (eval (.Name x pos) X.env) Q E s:=by
 obtain ⟨mb,h1,h2⟩:=I.mod.blt
 exact Calls.Name_function_global I.ok.kind hg (Calls.loadGlobal_builtin (by rw [I.ok.glob]; exact I.mod.glob.keeps I.bk) hm (by rw [I.ok.blt]; exact h1.keeps I.bk) ((h2 x hn).trans hv) h) hd
theorem aZ {x:Str} {v:V} {u:Value} {pos:Pos} (hg:Gl X x) (hm:X.mg x=some u) (r:RelV v u) (hd:(x==("__debug__":Str))=false:=by decide):PE X (.Name x pos) (tC v):=
 fun _ _ _ H _ I h=>fh I hg hm ⟨v,H,I,r,h⟩ hd
theorem gh {x:Str} {v:V} {u:Value} {pos:Pos} (hg:Gl X x) (hm:X.mg x=none) (hv:bootBuiltins x=some u) (r:RelV v u) (hn:x≠"__name__":=by decide) (hd:(x==("__debug__":Str))=false:=by decide):PE X (.Name x pos) (tC v):=
 fun _ _ _ H _ I h=>dF I hg hm hv ⟨v,H,I,r,h⟩ hn hd
variable {a b:Expr} {ta tb:TE} {pos:Pos}
def tB (t:TE):TT:=fun σ H Q=>t σ H fun x H1=>∃ c,x=.bl c∧Q c H1
theorem dG {e:Expr} {t:TE} (h:PE X e t) (he:∀ whole,isTrue e X.env whole=(do let v ← whole; standAt e.pos; holding [v] (truthy v)):=by intro _; rfl):PT X e (tB t):=by
 intro pins s σ H Q I hw
 refine isTrue_plain (thn (h pins s σ H _ I hw) fun v s1 ⟨x,H1,I1,r1,q1⟩=>?_) (he _)
 obtain ⟨d,rfl,q⟩:=q1
 cases r1
 exact wpAny_truthy_bool ⟨H1,I1,q⟩
variable {tA tB':TT} {rest:List Expr}
def tAnd (t u:TT):TT:=fun σ H Q=>t σ H fun c H1=>if c=true then u σ H1 Q else Q false H1
def tOr (t u:TT):TT:=fun σ H Q=>t σ H fun c H1=>if c=true then Q true H1 else u σ H1 Q
def tNot (t:TT):TT:=fun σ H Q=>t σ H fun c H1=>Q (!c) H1
theorem gi (ha:PT X a tA):PW X (.BoolOp .And [a] pos) tA:=by
 intro wh pins s σ H Q I h
 refine isTrue_and (thn (ha pins s σ H Q I h) fun c s1 e=>?_)
 cases c with
 | true=>exact isTrue_and_nil e
 | false=>exact e
theorem fk (ha:PT X a tA):PW X (.BoolOp .Or [a] pos) tA:=by
 intro wh pins s σ H Q I h
 refine isTrue_or (thn (ha pins s σ H Q I h) fun c s1 e=>?_)
 cases c with
 | false=>exact isTrue_or_nil e
 | true=>exact e
theorem gS (ha:PT X a tA) (hb:PW X (.BoolOp .And (b::rest) pos) tB'):PW X (.BoolOp .And (a::b::rest) pos) (tAnd tA tB'):=by
 intro wh pins s σ H Q I h
 refine isTrue_and (thn (ha pins s σ H _ I h) fun c s1 ⟨H1,I1,q1⟩=>?_)
 cases c with
 | true=>exact hb wh pins s1 σ H1 Q I1 q1
 | false=>exact ⟨H1,I1,q1⟩
theorem dH (ha:PT X a tA) (hb:PW X (.BoolOp .Or (b::rest) pos) tB'):PW X (.BoolOp .Or (a::b::rest) pos) (tOr tA tB'):=by
 intro wh pins s σ H Q I h
 refine isTrue_or (thn (ha pins s σ H _ I h) fun c s1 ⟨H1,I1,q1⟩=>?_)
 cases c with
 | true=>exact ⟨H1,I1,q1⟩
 | false=>exact hb wh pins s1 σ H1 Q I1 q1
theorem cX (ha:PT X a tA):PT X (.UnaryOp .Not a pos) (tNot tA):=by
 intro pins s σ H Q I h
 exact isTrue_not (ha pins s σ H (fun c H1=>Q (!c) H1) I h)
def tAndV (ta tb:TE):TE:=fun σ H Q=>ta σ H fun x H1=>∃ c,x=.bl c∧if c=true then tb σ H1 Q else Q (.bl false) H1
def tOrV (ta tb:TE):TE:=fun σ H Q=>ta σ H fun x H1=>∃ c,x=.bl c∧if c=true then Q (.bl true) H1 else tb σ H1 Q
def tNotV (ta:TE):TE:=fun σ H Q=>ta σ H fun x H1=>∃ c,x=.bl c∧Q (.bl (!c)) H1
theorem pj {op} {t:TE} (h:PE X a t):PE X (.BoolOp op [a] pos) t:=fun pins s σ H Q I hw=>BoolOp_one (h pins s σ H Q I hw)
theorem ma (ha:PE X a ta) (hb:PE X (.BoolOp .And (b::rest) pos) tb):PE X (.BoolOp .And (a::b::rest) pos) (tAndV ta tb):=by
 intro pins s σ H Q I h
 refine BoolOp_and (thn (ha pins s σ H _ I h) fun v s1 ⟨x,H1,I1,r1,q1⟩=>?_)
 obtain ⟨c,rfl,q1⟩:=q1
 cases r1
 refine wpAny_truthy_bool ?_
 cases c with
 | true=>exact hb pins s1 σ H1 Q I1 q1
 | false=>exact ⟨.bl false,H1,I1,rfl,q1⟩
theorem pk (ha:PE X a ta):PE X (.UnaryOp .Not a pos) (tNotV ta):=by
 intro pins s σ H Q I h
 refine UnaryOp_ (thn (ha pins s σ H _ I h) fun v s1 ⟨x,H1,I1,r1,q1⟩=>?_)
 obtain ⟨c,rfl,q1⟩:=q1
 cases r1
 exact not_of (wpAny_truthy_bool ⟨.bl (!c),H1,I1,rfl,q1⟩)
def tIf (t:TT) (ta tb:TE):TE:=fun σ H Q=>t σ H fun c H1=>if c=true then ta σ H1 Q else tb σ H1 Q
end
end L2
namespace L2
open PySem PySem.Spec PyProof.Rows
def SqL (K:PySem.W.Frag) (H:Hp) (a:Addr) (xs:List V):Prop:=
 Rd H a (.lst xs)∨
  ∃ (o:Obj) (its:Array Value) (n:Nat),K.lookup a=some o∧o.cls=.type "list"∧o.dict=none∧o.data=.seq its n∧its.size≤sizeLine∧Vals xs its.toList
def SqT (K:PySem.W.Frag) (H:Hp) (a:Addr) (xs:List V):Prop:=
 Rd H a (.tup xs)∨
  ∃ (o:Obj) (its:Array Value) (n:Nat),K.lookup a=some o∧o.cls=.type "tuple"∧o.data=.seq its n∧its.size≤sizeLine∧Vals xs its.toList
def absV:Value→Option V
 | .none=>some .non
 | .bool b=>some (.bl b)
 | .int i _=>some (.int i)
 | .str x _=>some (.str x)
 | .bytes b _=>some (.byt b)
 | .float b _=>some (.flt b)
 | .ref a=>some (.ref a)
 | .type n=>some (.ty n)
 | _=>none
theorem RelV.abs {x:V} {u:Value} (r:RelV x u):absV u=some x:=by
 cases x with
 | non=>cases r; rfl
 | bl _=>cases r; rfl
 | int _=>obtain ⟨t,rfl⟩:=r; rfl
 | str _=>obtain ⟨t,rfl⟩:=r; rfl
 | byt _=>obtain ⟨t,rfl⟩:=r; rfl
 | flt _=>obtain ⟨t,rfl⟩:=r; rfl
 | ref _=>cases r; rfl
 | ty _=>cases r; rfl
theorem RelV.inj {x y:V} {u:Value} (r:RelV x u) (q:RelV y u):x=y:=Option.some.inj (r.abs.symm.trans q.abs)
theorem Vals.inj:∀ {xs ys:List V} {us:List Value},Vals xs us→Vals ys us→xs=ys
 | _,_,_,.nil,.nil=>rfl
 | _,_,_,.cons r t,.cons r' t'=>by rw [r.inj r',Vals.inj t t']
section
variable {X:Cx} {pins:List (Addr × Obj)} {σ:St} {H:Hp} {s:Shared} {a:Addr} {xs ys:List V}
theorem SqL.of {K:PySem.W.Frag} (h:H a=some (.lst xs)):SqL K H a xs:=.inl (.inl h)
theorem SqT.of {K:PySem.W.Frag} (h:H a=some (.tup xs)):SqT K H a xs:=.inl (.inl h)
theorem Inv.list (I:Inv X pins σ H s) (h:SqL X.K H a xs):∃ its:List Value,Vals xs its∧PlainL s.heap a its.toArray∧xs.length≤sizeLine:=by
 rcases h with h | ⟨o,its,n,hk,hc,hd,hs,hz,r⟩
 · obtain ⟨z,its,n,r,e⟩:=h.ok I.hok
   exact ⟨its,r,⟨_,n,e,rfl,rfl,rfl⟩,z⟩
 · refine ⟨its.toList,r,⟨o,n,I.kIn a o hk,hc,hd,by simpa using hs⟩,?_⟩
   have e:=r.length
   simp only [Array.length_toList] at e
   omega
theorem Inv.tuple (I:Inv X pins σ H s) (h:SqT X.K H a xs):∃ its:List Value,Vals xs its∧IsTup s.heap a its.toArray∧xs.length≤sizeLine:=by
 rcases h with h | ⟨o,its,n,hk,hc,hs,hz,r⟩
 · obtain ⟨z,its,r,p⟩:=h.ok I.hok
   exact ⟨its,r,p,z⟩
 · refine ⟨its.toList,r,⟨o,I.kIn a o hk,hc,n,by simpa using hs⟩,?_⟩
   have e:=r.length
   simp only [Array.length_toList] at e
   omega
theorem Inv.list_inj (I:Inv X pins σ H s) (h:SqL X.K H a xs) (h':SqL X.K H a ys):xs=ys:=by
 obtain ⟨its,r,⟨o,n,e,_,_,d⟩,_⟩:=I.list h
 obtain ⟨its',r',⟨o',n',e',_,_,d'⟩,_⟩:=I.list h'
 rw [e] at e'; cases e'
 rw [d] at d'
 injection d' with d1 _
 have:its=its':=by simpa using congrArg Array.toList d1
 subst this
 exact r.inj r'
end
abbrev Cx.wish (X:Cx) (E:Value→Shared→Prop):Cx:={ X with xe:=E }
abbrev Cx.nox (X:Cx):Cx:=X.wish fun _ _=>False
theorem Cx.Ok.wish {X:Cx} (ok:X.Ok) (E:Value→Shared→Prop):(X.wish E).Ok:=
 ⟨ok.mod,ok.kind,ok.glob,ok.blt,ok.above,ok.inj,ok.has,ok.cab,ok.hd,ok.frames,ok.stk,ok.exf,ok.bs,ok.bsz,ok.noex,ok.exfs,ok.funs,ok.frf⟩
theorem Cx.Ok.unwish {X:Cx} {E:Value→Shared→Prop} (ok:(X.wish E).Ok):X.Ok:=
 ⟨ok.mod,ok.kind,ok.glob,ok.blt,ok.above,ok.inj,ok.has,ok.cab,ok.hd,ok.frames,ok.stk,ok.exf,ok.bs,ok.bsz,ok.noex,ok.exfs,ok.funs,ok.frf⟩
section
variable {X:Cx} {pins:List (Addr × Obj)} {σ:St} {H:Hp} {s:Shared} {E:Value→Shared→Prop}
theorem Inv.wish (I:Inv X pins σ H s) (E:Value→Shared→Prop):Inv (X.wish E) pins σ H s:=⟨I.ok.wish E,I.os,I.bare,I.base,I.loc,I.cell,I.free,I.freeC,I.pin,I.hok,I.len⟩
theorem Inv.unwish (I:Inv (X.wish E) pins σ H s):Inv X pins σ H s:=⟨I.ok.unwish,I.os,I.bare,I.base,I.loc,I.cell,I.free,I.freeC,I.pin,I.hok,I.len⟩
theorem SP.unwish {D:Ends} {f:Flow} {s':Shared} (h:SP (X.wish E) pins D f s'):SP X pins D f s':=by
 cases f with
 | next=>obtain ⟨σ',H',I,q⟩:=h; exact ⟨σ',H',I.unwish,q⟩
 | brk=>obtain ⟨σ',H',I,q⟩:=h; exact ⟨σ',H',I.unwish,q⟩
 | cont=>obtain ⟨σ',H',I,q⟩:=h; exact ⟨σ',H',I.unwish,q⟩
 | ret u=>obtain ⟨v,σ',H',I,r,q⟩:=h; exact ⟨v,σ',H',I.unwish,r,q⟩
theorem PSs.nox {st:List Stmt} {t:TS} (h:PSs X.nox st t):PSs X st t:=fun pins s σ H D I hw=>
 wpAny_mono (h pins s σ H D (I.wish _) hw) (fun _ _ q=>q.unwish) fun _ _ z=>False.elim z
end
section
variable {X:Cx} {st:Stmt} {rest:List Stmt} {t u:TS} {e:Expr} {te:TE} {pos:Pos}
def tNext:TS:=fun D σ H=>D.nx σ H
def tSeq (t u:TS):TS:=fun D σ H=>t { D with nx:=u D } σ H
theorem ao:PSs X [] tNext:=fun _ _ σ H _ I h=>wpAny_execs_nil ⟨σ,H,I,h⟩
theorem ae (h1:PS X st t) (h2:PSs X rest u):PSs X (st::rest) (tSeq t u):=by
 intro pins s σ H D I h
 refine wpAny_execs_cons (thn (h1 pins s σ H { D with nx:=u D } I h) fun f s1 q=>?_)
 cases f with
 | next=>
  obtain ⟨σ',H',I',q⟩:=q
  exact h2 pins s1 σ' H' D I' q
 | ret v=>exact q
 | brk=>exact q
 | cont=>exact q
theorem af (h1:PS X st t):PSs X [st] t:=by
 intro pins s σ H D I h
 refine wpAny_execs_cons (thn (h1 pins s σ H D I h) fun f s1 q=>?_)
 cases f with
 | next=>exact wpAny_execs_nil q
 | ret v=>exact q
 | brk=>exact q
 | cont=>exact q
theorem Inv.quiet {pins:List (Addr × Obj)} {σ:St} {H:Hp} {s:Shared} (I:Inv X pins σ H s):interactive X.env=false:=by simp [interactive,I.ok.kind]
def tDrop (te:TE):TS:=fun D σ H=>te σ H fun _ H1=>D.nx σ H1
theorem fi (he:PE X e te) (hs:swapsWith e none pos.line X.env=pure false:=by rfl):PS X (.Expr e pos) (tDrop te):=by
 intro pins s σ H D I h
 exact wpAny_Expr_any (thn (he pins s σ H _ I h) fun v s1 ⟨x,H1,I1,r1,q1⟩=>⟨σ,H1,I1,q1⟩) I.quiet hs
def tRet (te:TE):TS:=fun D σ H=>te σ H D.rt
theorem ap (he:PE X e te):PS X (.Return (some e) pos) (tRet te):=by
 intro pins s σ H D I h
 exact wpAny_Return_some (thn (he pins s σ H _ I h) fun v s1 ⟨x,H1,I1,r1,q1⟩=>⟨x,σ,H1,I1,r1,q1⟩)
def tRetN:TS:=fun D _ H=>D.rt .non H
def tIfS (c:TT) (t u:TS):TS:=fun D σ H=>c σ H fun b H1=>if b=true then t D σ H1 else u D σ H1
theorem aw {c:Expr} {a b:List Stmt} {tc:TT} (hc:PT X c tc) (ha:PSs X a t) (hb:PSs X b u):PS X (.If c a b pos) (tIfS tc t u):=by
 intro pins s σ H D I h
 refine wpAny_If (thn (hc pins s σ H _ I h) fun d s1 ⟨H1,I1,q1⟩=>?_)
 cases d with
 | true=>exact ha pins s1 σ H1 D I1 q1
 | false=>exact hb pins s1 σ H1 D I1 q1
end
abbrev TG:=V→St→Hp→(St→Hp→Prop)→Prop
abbrev TGs:=List V→St→Hp→(St→Hp→Prop)→Prop
def PG (X:Cx) (target:Expr) (t:TG):Prop:=
 ∀ (pins:List (Addr × Obj)) (s:Shared) (σ:St) (H:Hp) (v:V) (u:Value) (Q:St→Hp→Prop),Inv X pins σ H s→RelV v u→t v σ H Q→
  wpAny (model X.prog X.w) X.A (assign target X.env u) (fun _ s'=>∃ σ' H',Inv X pins σ' H' s'∧Q σ' H') X.xe s
def PGs (X:Cx) (ts:List Expr) (t:TGs):Prop:=
 ∀ (pins:List (Addr × Obj)) (s:Shared) (σ:St) (H:Hp) (vs:List V) (us:List Value) (Q:St→Hp→Prop),Inv X pins σ H s→Vals vs us→t vs σ H Q→
  wpAny (model X.prog X.w) X.A (assignInOrder ((assignEach ts X.env).map (·.2)) us) (fun _ s'=>∃ σ' H',Inv X pins σ' H' s'∧Q σ' H') X.xe s
abbrev TSet:=V→V→V→Hp→(Hp→Prop)→Prop
section
variable {X:Cx} {pos:Pos}
def gName (i:Nat):TG:=fun v σ H Q=>Q (σ.set i (some v)) H
theorem bD {i:Nat} {x:Str} (hN:X.N.Nodup) (hi:X.N[i]? =some x) (hx:Loc X.env.scope x) (hf:X.fn x=true∨X.env.scope.names.lookup x=some .local:=by first | exact .inl rfl | exact .inr rfl | assumption):PG X (.Name x pos) (gName i):=by
 intro pins s σ H v u Q I r h
 exact wpAny_assign_Name (gA I hN hi hx r (fun s' I'=>⟨_,H,I',h⟩) hf)
def gNil:TGs:=fun vs σ H Q=>vs=[]∧Q σ H
def gCons (t:TG) (u:TGs):TGs:=fun vs σ H Q=>∃ v r,vs=v::r∧t v σ H fun σ' H'=>u r σ' H' Q
theorem rL:PGs X [] gNil:=by
 intro pins s σ H vs us Q I r h
 obtain ⟨e,h⟩:=h
 subst e
 cases r
 exact assignInOrder_nil ⟨σ,H,I,h⟩
theorem md {e:Expr} {es:List Expr} {t:TG} {u:TGs} (h1:PG X e t) (h2:PGs X es u)
  (hs:(assignEach (e::es) X.env).map (·.2)=assign e X.env::(assignEach es X.env).map (·.2):=by rfl):PGs X (e::es) (gCons t u):=by
 intro pins s σ H vs us Q I r h
 obtain ⟨v,vr,e1,h⟩:=h
 subst e1
 cases r with
 | cons r rr=>
  rw [hs]
  refine assignInOrder_cons (thn (h1 pins s σ H _ _ _ I r h) fun _ s1 ⟨σ1,H1,I1,q1⟩=>?_)
  exact h2 pins s1 σ1 H1 _ _ Q I1 rr q1
def gTup (K:PySem.W.Frag) (n:Nat) (t:TGs):TG:=fun v σ H Q=>∃ a xs,v=.ref a∧SqT K H a xs∧xs.length=n∧t xs σ H Q
theorem sZ {es:List Expr} {k:Nat} {t:TGs} {n:Nat} (hc:X.calm=true) (h:PGs X es t)
  (hn:(assignEach es X.env).length=n:=by rfl) (hst:(assignEach es X.env).findIdx? (·.1)=none:=by rfl):PG X (.Tuple es k pos) (gTup X.K n t):=by
 intro pins s σ H v u Q I r hw
 obtain ⟨a,xs,e1,hq,hl,hw⟩:=hw
 subst e1
 cases r
 obtain ⟨its,rv,ht,hz⟩:=I.tuple hq
 refine assign_Tuple_tuple (I.ok.hd hc) ht (by simp [hn,← hl,rv.length]) hst fun h' hx=>?_
 have I1:Inv X pins σ H { s with heap:=h' }:=I.kept (t':=s.toks) fun b o e=>hx b o (Nat.ne_of_lt (Heap.lt_size e)) e
 exact h pins _ σ H xs _ Q I1 (by simpa using rv) hw
def gSub (to ti:TE) (t:TSet):TG:=fun v σ H Q=>to σ H fun o H1=>ti σ H1 fun i H2=>t o i v H2 fun H3=>Q σ H3
def tAsg (te:TE) (g:TG):TS:=fun D σ H=>te σ H fun x H1=>g x σ H1 D.nx
theorem tm {tg e:Expr} {te:TE} {g:TG} (he:PE X e te) (hg:PG X tg g) (hs:swapsWithSole [tg] e pos.line X.env=pure false:=by rfl) (hw:swappedStores [tg] e X.env=pure none:=by rfl)
  (h1:(assignEach [tg] X.env).map (·.2)=[assign tg X.env]:=by rfl):PS X (.Assign [tg] e pos) (tAsg te g):=by
 intro pins s σ H D I h
 refine wpAny_Assign_stores (thn (he pins s σ H _ I h) fun v s1 ⟨x,H1,I1,r1,q1⟩=>?_) hs hw
 rw [h1]
 exact thn (hg pins s1 σ H1 x v _ I1 r1 q1) fun _ s2 q=>q
theorem ax {i:Nat} {x:Str} {e:Expr} {te:TE} {pos':Pos} (hN:X.N.Nodup) (hi:X.N[i]? =some x) (hx:Loc X.env.scope x) (he:PE X e te) (hs:swapsWith e (some (.Name x pos')) pos.line X.env=pure false:=by rfl) (hf:X.fn x=true∨X.env.scope.names.lookup x=some .local:=by first | exact .inl rfl | exact .inr rfl | assumption):
  PS X (.Assign [.Name x pos'] e pos) (tAsg te (gName i)):=by
 intro pins s σ H D I h
 refine wpAny_Assign_Name (thn (he pins s σ H _ I h) fun v s1 ⟨y,H1,I1,r1,q1⟩=>?_) hs
 exact gA I1 hN hi hx r1 (fun s2 I2=>⟨_,H1,I2,q1⟩) hf
end
structure It where
 go:Nat→Hp→Prop
 yld:Nat→Hp→V→Hp→Prop
 stop:Nat→Hp→Prop
def FpOk (X:Cx) (pins:List (Addr × Obj)) (H:Hp) (b:Addr):Prop:=
 H b=none∧b≠X.env.locals∧b∉X.fs∧(b∈X.ex∨X.s₀.heap.objs.size≤b)∧(∀ x c,X.env.cells.lookup x=some c→c≠b)∧∀ p∈X.pn++pins,p.1≠b
theorem Inv.fpOk {X:Cx} {pins:List (Addr × Obj)} {σ:St} {H H':Hp} {s:Shared} {b:Addr} (I:Inv X pins σ H s) (hb:s.heap.objs.size≤b) (hn:H' b=none):FpOk X pins H' b:=by
 refine ⟨hn,Nat.ne_of_gt (Nat.lt_of_lt_of_le I.lt hb),I.nofs hb,.inr (Nat.le_trans I.sz hb),fun x c e z=>?_,fun p hp z=>?_⟩
 · obtain ⟨v,q⟩:=I.cell x c e
   exact absurd (Nat.lt_of_lt_of_le q.lt (by rw [z]; exact hb)) (Nat.lt_irrefl _)
 · exact absurd (Nat.lt_of_lt_of_le (Heap.lt_size (I.pin p hp).1) (by rw [z]; exact hb)) (Nat.lt_irrefl _)
structure Turn (P:Program) (w:World) (K:PySem.W.Frag) (tg:Expr) (J:It) (fp:List Addr) (it:Addr) (tn:Nat→Heap→Prop):Prop where
 mem:it∈fp
 obj:∀ i h,tn i h→∀ b∈fp,∃ o,h.get? b=some o∧∀ v,o.data≠.cell v
 keep:∀ i h h',tn i h→(∀ b∈fp,∀ o,h.get? b=some o→h'.get? b=some o)→tn i h'
 item:∀ (X:Cx),X.prog=P→X.w=w→X.K=K→X.calm=true→∀ (i:Nat) (pins:List (Addr × Obj)) (s:Shared) (σ:St) (H:Hp) (E:Value→Shared→Prop),Inv X pins σ H s→(∀ b∈fp,FpOk X pins H b)→tn i s.heap→J.go i H→
  wpAny (model P w) X.A (pyNext (.ref it)) (fun r s1=>∃ u,r=some u∧
   wpAny (model P w) X.A (letOwnedTupleGo tg (.ref it) u) (fun _ s2=>∃ x H',Inv X pins σ H' s2∧RelV x u∧J.yld i H x H'∧tn (i+1) s2.heap∧∀ b∈fp,H' b=none) E s1) E s
 done:∀ (X:Cx),X.prog=P→X.w=w→X.K=K→X.calm=true→∀ (i:Nat) (pins:List (Addr × Obj)) (s:Shared) (σ:St) (H:Hp) (E:Value→Shared→Prop),Inv X pins σ H s→(∀ b∈fp,FpOk X pins H b)→tn i s.heap→J.stop i H→
  wpAny (model P w) X.A (pyNext (.ref it)) (fun r s1=>r=none∧Inv X pins σ H s1) E s
 self:∀ (A:Around) (i:Nat) (s:Shared) (Q:Value→Shared→Prop) (E:Value→Shared→Prop),tn i s.heap→Q (.ref it) s→wpAny (model P w) A (pyIter (.ref it)) Q E s
abbrev TI:=St→Hp→(It→Hp→Prop)→Prop
def PIE (X:Cx) (pins:List (Addr × Obj)) (σ:St) (tg:Expr) (R:It→Hp→Prop) (itv:Value) (s2:Shared):Prop:=
 ∃ (it:Addr) (fp:List Addr) (tn:Nat→Heap→Prop) (J:It) (H':Hp),itv=.ref it∧Inv X pins σ H' s2∧Turn X.prog X.w X.K tg J fp it tn∧tn 0 s2.heap∧(∀ b∈fp,FpOk X pins H' b)∧R J H'
def PI (X:Cx) (tg iter:Expr) (wi:TI):Prop:=
 ∀ (pins:List (Addr × Obj)) (s:Shared) (σ:St) (H:Hp) (R:It→Hp→Prop),Inv X pins σ H s→wi σ H R→
  wpAny (model X.prog X.w) X.A (eval iter X.env) (fun v s1=>wpAny (model X.prog X.w) X.A (pyIter v) (PIE X pins σ tg R) X.xe s1) X.xe s
theorem oE {M:Model} {A:Around} {E:Value→Shared→Prop} {s:Shared} {tg:Expr} {it:Addr} {u:Value} {o:Obj} {n:String} {vs:Array Value} {Q:Unit→Shared→Prop} (ho:s.heap.get? it=some o) (hc:o.cls=.type n) (hd:o.data=.fields vs)
  (hn:["enumerate","zip","dict_itemiterator","dict_reverseitemiterator","odict_iterator","itertools.zip_longest","itertools.pairwise"].contains n=false) (hQ:Q () s):wpAny M A (letOwnedTupleGo tg (.ref it) u) Q E s:=by
 unfold letOwnedTupleGo
 cases tg <;> first
  | exact wpAny_pure hQ
  | (cases u <;> first
    | exact wpAny_pure hQ
    | (refine wpAny_bind (wpAny_load ho ?_)
       rw [hc,hd]
       show wpAny M A (if (["enumerate","zip","dict_itemiterator","dict_reverseitemiterator","odict_iterator","itertools.zip_longest","itertools.pairwise"].contains n&&vs[0]? ==some (rawInt _))=true then _ else _) Q E s
       rw [if_neg (by intro h; rw [hn,Bool.false_and] at h; cases h)]
       exact wpAny_pure hQ))
def Itl (K:PySem.W.Frag) (a:Addr):It:=
 ⟨fun i H=>∃ xs x,SqL K H a xs∧xs[i]? =some x,fun i H x H'=>H'=H∧∀ xs,SqL K H a xs→xs[i]? =some x,fun i H=>∃ xs,SqL K H a xs∧xs.length≤i⟩
def Itr (lo:Int) (n:Nat):It:=⟨fun i _=>i < n,fun i H x H'=>H'=H∧x=.int (lo+i),fun i _=>n≤i⟩
theorem pp {P:Program} {w:World} {K:PySem.W.Frag} {tg:Expr} (a it:Addr):Turn P w K tg (Itl K a) [it] it (fun i h=>h.IsListIter it a i) where
 mem:=by simp
 obj:=fun i h st b hb=>by
  have e:b=it:=by simpa using hb
  subst e
  obtain ⟨o,e,c,d⟩:=st
  exact ⟨o,e,fun v z=>by rw [d] at z; cases z⟩
 keep:=fun i h h' st k=>st.at fun o e=>k it (by simp) o e
 item:=by
  intro X hP hw hK hc i pins s σ H E I hf st hg
  subst hP hw hK
  obtain ⟨xs,x,hq,hx⟩:=hg
  obtain ⟨its,rv,p,hz⟩:=I.list hq
  obtain ⟨u,hu,ru⟩:=rv.get hx
  obtain ⟨f0,f1,f2,f3,f4,f5⟩:=hf it (by simp)
  refine wpAny_pyNext_list_item st p.isList (x:=u) (by simpa using hu) fun h' st' sb=>?_
  have I1:Inv X pins σ H { s with heap:=h' }:=I.turned (t':=s.toks) (fun b o hb e=>(sb.2 b hb).trans e) f0 f1 f3 f4 f5
  obtain ⟨o,e,c,d⟩:=id st'
  exact ⟨u,rfl,oE (s:={ s with heap:=h' }) e c d (by decide) ⟨x,H,I1,ru,⟨rfl,fun ys hy=>by rw [I.list_inj hy hq]; exact hx⟩,st',fun b hb=>(hf b hb).1⟩⟩
 done:=by
  intro X hP hw hK hc i pins s σ H E I hf st hg
  subst hP hw hK
  obtain ⟨xs,hq,hx⟩:=hg
  obtain ⟨its,rv,p,hz⟩:=I.list hq
  obtain ⟨f0,f1,f2,f3,f4,f5⟩:=hf it (by simp)
  have hl:=rv.length
  exact wpAny_pyNext_list_end (I.ok.hd hc) st p.isList (by simp; omega) fun h' eb=>⟨rfl,I.turned (t':=s.toks) (fun b o hb e=>eb b o hb e) f0 f1 f3 f4 f5⟩
 self:=fun _ _ _ _ _ st h=>wpAny_pyIter_listiter st h
theorem oF {P:Program} {w:World} {K:PySem.W.Frag} {tg:Expr} (it:Addr) (lo:Int) (n:Nat):Turn P w K tg (Itr lo n) [it] it (fun i h=>IsRangeIter h it (lo+(i:Nat)*1) ((n:Int) - (i:Nat)) 1) where
 mem:=by simp
 obj:=fun i h st b hb=>by
  have e:b=it:=by simpa using hb
  subst e
  exact ⟨_,st,fun v z=>by
   have z':Data.fields _=Data.cell v:=z
   cases z'⟩
 keep:=fun i h h' st k=>k it (by simp) _ st
 item:=by
  intro X hP hw hK hc i pins s σ H E I hf st hg
  subst hP hw hK
  obtain ⟨f0,f1,f2,f3,f4,f5⟩:=hf it (by simp)
  have W:=Walks.range (prog:=X.prog) (w:=X.w) (I.ok.hd hc) it lo 1 n
  refine W.item i s _ _ hg st fun v h' tk hv st' kk=>?_
  obtain ⟨t,rfl⟩:=hv
  have I1:Inv X pins σ H { s with heap:=h',toks:=tk }:=I.turned (fun b o hb e=>kk b o (by simpa using hb) e) f0 f1 f3 f4 f5
  refine ⟨_,rfl,oE (s:={ s with heap:=h',toks:=tk }) (n:="range_iterator") st' rfl rfl (by decide) ⟨.int (lo+i),H,I1,⟨t,?_⟩,⟨rfl,rfl⟩,st',fun b hb=>(hf b hb).1⟩⟩
  rw [Int.mul_one]
 done:=by
  intro X hP hw hK hc i pins s σ H E I hf st hg
  subst hP hw hK
  obtain ⟨f0,f1,f2,f3,f4,f5⟩:=hf it (by simp)
  exact wpAny_pyNext_range_end (I.ok.hd hc) st (by have:n≤i:=hg; omega) fun h' eb=>⟨rfl,I.turned (t':=s.toks) (fun b o hb e=>eb b o hb e) f0 f1 f3 f4 f5⟩
 self:=fun _ _ _ _ _ st h=>wpAny_pyIter_rangeiter st h
end L2
namespace L2
open PySem PySem.Spec PyProof.Rows
section
variable {X:Cx} {tg:Expr}
def iList (K:PySem.W.Frag) (tl:TE):TI:=fun σ H R=>tl σ H fun x H1=>∃ a,x=.ref a∧(∃ xs,SqL K H1 a xs)∧R (Itl K a) H1
theorem km {l:Expr} {tl:TE} (hl:PE X l tl):PI X tg l (iList X.K tl):=by
 intro pins s σ H R I h
 refine thn (hl pins s σ H _ I h) fun v s1 ⟨x,H1,I1,r1,q1⟩=>?_
 obtain ⟨a,e,⟨xs,hq⟩,q⟩:=q1
 subst e
 cases r1
 obtain ⟨its,rv,p,hz⟩:=I1.list hq
 refine wpAny_pyIter_list p.isList ?_
 refine ⟨s1.heap.objs.size,[s1.heap.objs.size],_,_,H1,rfl,I1.kept (t':=s1.toks) fun b o e=>Heap.get?_push_of_some _ e,pp a _,⟨_,Heap.get?_push_size _ rfl,rfl,rfl⟩,fun b hb=>?_,q⟩
 have e:b=s1.heap.objs.size:=by simpa using hb
 subst e
 exact I1.fpOk (Nat.le_refl _) (I1.hok.fresh (Nat.le_refl _))
theorem me {pins:List (Addr × Obj)} {σ:St} {H:Hp} {s:Shared} {R:It→Hp→Prop} {E:Value→Shared→Prop} {lo hi:Int} {t u v:Tok} {tk:Nat} (I:Inv X pins σ H s) (h1: -(2^62)≤lo) (h2:lo < 2^62) (h3: -(2^62)≤hi) (h4:hi < 2^62)
  (q:R (Itr lo (hi - lo).toNat) H):wpAny (model X.prog X.w) X.A (pyIter (.ref s.heap.objs.size)) (PIE X pins σ tg R) E { s with heap:=s.heap.push { cls:=.type "range",data:=.fields #[.int lo t,.int hi u,.int 1 v] },toks:=tk }:=by
 refine wpAny_pyIter_range (IsRange.new ..) (small_one h1 h2 h3 h4) ?_
 have I1:Inv X pins σ H { s with heap:=s.heap.push { cls:=.type "range",data:=.fields #[.int lo t,.int hi u,.int 1 v] },toks:=tk }:=I.kept fun b o e=>Heap.get?_push_of_some _ e
 refine ⟨(s.heap.push { cls:=.type "range",data:=.fields #[.int lo t,.int hi u,.int 1 v] }).objs.size,[(s.heap.push { cls:=.type "range",data:=.fields #[.int lo t,.int hi u,.int 1 v] }).objs.size],_,_,H,rfl,
  I1.kept (t':=tk) fun b o e=>Heap.get?_push_of_some _ e,oF _ lo (hi - lo).toNat,?_,fun b hb=>?_,q⟩
 · have e1:lo+((0:Nat):Int)*1=lo:=by simp
   have e2:(((hi - lo).toNat:Nat):Int) - ((0:Nat):Int)=Builtin.Range.rangeSize lo hi 1:=by rw [rangeSize_one]; split <;> omega
   show IsRangeIter _ _ (lo+((0:Nat):Int)*1) ((((hi - lo).toNat:Nat):Int) - ((0:Nat):Int)) 1
   rw [e1,e2]
   exact Heap.get?_push_size _ rfl
 · have e:b=(s.heap.push { cls:=.type "range",data:=.fields #[.int lo t,.int hi u,.int 1 v] }).objs.size:=by simpa using hb
   subst e
   exact I1.fpOk (Nat.le_refl _) (I1.hok.fresh (Nat.le_refl _))
def iJ (ta:TA):TI:=fun σ H R=>ta σ H fun vs H1=>∃ j:Int,vs=[.int j]∧ -(2^62)≤j∧j < 2^62∧R (Itr 0 j.toNat) H1
def iK (ta:TA):TI:=fun σ H R=>ta σ H fun vs H1=>∃ i j:Int,vs=[.int i,.int j]∧(-(2^62)≤i∧i < 2^62∧ -(2^62)≤j∧j < 2^62)∧R (Itr i (j - i).toNat) H1
theorem kW {a:Expr} {ta:TA} {p pos:Pos} (hg:Gl X "range") (hm:X.mg "range"=none) (ha:PA X [a] ta) (hs:starEach [a] X.env=[(false,eval a X.env)]:=by rfl):PI X tg (.Call (.Name "range" p) [a] [] pos) (iJ ta):=by
 intro pins s σ H R I h
 refine Call_ (dF I hg hm boot_range (PyProof.Rows.callWith_type1 (thn (ha pos pins s σ H _ I h) fun us s1 ⟨vs,H1,I1,r1,q1⟩=>?_) hs rfl))
 obtain ⟨j,e,q1,q2,q⟩:=q1
 subst e
 cases r1 with
 | cons r rr=>
  cases rr
  obtain ⟨t,rfl⟩:=r
  exact call_range_1 (me I1 (by omega) (by omega) q1 q2 (by simpa using q))
theorem kX {a b:Expr} {ta:TA} {p pos:Pos} (hg:Gl X "range") (hm:X.mg "range"=none) (ha:PA X [a,b] ta) (hs:starEach [a,b] X.env=[(false,eval a X.env),(false,eval b X.env)]:=by rfl) (hs2:starEach [b] X.env=[(false,eval b X.env)]:=by rfl):
  PI X tg (.Call (.Name "range" p) [a,b] [] pos) (iK ta):=by
 intro pins s σ H R I h
 refine Call_ (dF I hg hm boot_range (PyProof.Rows.callWith_type1 (thn (ha pos pins s σ H _ I h) fun us s1 ⟨vs,H1,I1,r1,q1⟩=>?_) (by rw [hs,hs2]) (by rw [hs2]; rfl)))
 obtain ⟨i,j,e,⟨q1,q2,q3,q4⟩,q⟩:=q1
 subst e
 cases r1 with
 | cons r rr=>
  cases rr with
  | cons r' rr=>
   cases rr
   obtain ⟨t,rfl⟩:=r
   obtain ⟨t',rfl⟩:=r'
   exact call_range_2 (me I1 q1 q2 q3 q4 q)
def tFor (wi:TI) (g:TG) (tb:TS):TS:=fun D σ H=>wi σ H fun J H1=>∃ W:Nat→Nat→St→Hp→Prop,(∃ m,W 0 m σ H1)∧∀ i m σ H,W i m σ H→
 (J.stop i H∧D.nx σ H)∨(J.go i H∧∃ N:St→Hp→Prop,(∀ σ' H',N σ' H'→∃ m',m' < m∧W (i+1) m' σ' H')∧∀ x H',J.yld i H x H'→g x σ H' fun σ2 H2=>tb { D with nx:=N,ct:=N,bk:=D.nx } σ2 H2)
def gT (fp:List Addr) (h:Heap):List (Addr × Obj):=fp.filterMap fun b=>(h.get? b).map fun o=>(b,o)
theorem fe {fp:List Addr} {h:Heap} {b:Addr} {o:Obj} (hb:b∈fp) (e:h.get? b=some o):(b,o)∈gT fp h:=List.mem_filterMap.mpr ⟨b,hb,by rw [e]; rfl⟩
theorem pq {fp:List Addr} {h:Heap} {p:Addr × Obj} (hp:p∈gT fp h):p.1∈fp∧h.get? p.1=some p.2:=by
 obtain ⟨b,hb,e⟩:=List.mem_filterMap.mp hp
 cases q:h.get? b with
 | none=>rw [q] at e; cases e
 | some o=>
  rw [q] at e
  have e':(b,o)=p:=Option.some.inj e
  subst e'
  exact ⟨hb,q⟩
theorem Inv.pinned {pins:List (Addr × Obj)} {σ:St} {H:Hp} {s:Shared} {fp:List Addr} (I:Inv X pins σ H s) (hf:∀ b∈fp,FpOk X pins H b) (ho:∀ b∈fp,∃ o,s.heap.get? b=some o∧∀ v,o.data≠.cell v):Inv X (pins++gT fp s.heap) σ H s:=
 I.pins_of fun p hp=>(List.mem_append.mp hp).elim (fun z=>I.pin p (List.mem_append_right _ z)) fun z=>by
  obtain ⟨hb,e⟩:=pq z
  obtain ⟨f0,f1,f2,_⟩:=hf p.1 hb
  obtain ⟨o,e',d⟩:=ho p.1 hb
  rw [e] at e'; cases e'
  exact ⟨e,f0,f1,f2,d⟩
theorem Inv.unpinned {pins pl:List (Addr × Obj)} {σ:St} {H:Hp} {s:Shared} (I:Inv X (pins++pl) σ H s):Inv X pins σ H s:=I.pins_of fun p hp=>I.pin p (List.mem_append_right _ (List.mem_append_left _ hp))
theorem gU {iter:Expr} {body:List Stmt} {wi:TI} {g:TG} {tb:TS} {pos:Pos} (hp:PassesOwn (model X.prog X.w) X.A X.env X.xe) (hc:X.calm=true) (hi:PI X tg iter wi) (hg:PG X tg g) (hb:PSs X body tb)
  (hs:∀ x,foldedSetIterable iter X.env x=pure x:=by intro _; rfl):PS X (.For tg iter body [] pos) (tFor wi g tb):=by
 intro pins s σ H D I h
 refine wpAny_For (thn (hi pins s σ H _ I h) fun v s1 h1=>thn h1 fun itv s2 h2=>?_) hs
 obtain ⟨it,fp,tn,J,H2,e,I2,T,st2,f2,W,⟨m0,w0⟩,turn⟩:=h2
 subst e
 have stat:∀ {H':Hp},(∀ b∈fp,H' b=none)→∀ b∈fp,FpOk X pins H' b:=fun hn b hb=>⟨hn b hb,(f2 b hb).2⟩
 refine codeAny_forLoop_any (fun n s'=>∃ i σ' H',Inv X pins σ' H' s'∧tn i s'.heap∧(∀ b∈fp,H' b=none)∧W i n σ' H') ?_ m0 ⟨0,σ,H2,I2,st2,fun b hb=>(f2 b hb).1,w0⟩
 rintro n s3 ⟨i,σ3,H3,I3,st3,fr3,w3⟩
 rcases turn i n σ3 H3 w3 with ⟨stop,qn⟩ | ⟨go,N,hN,step⟩
 · refine wpAny_passesOwn hp (thn (T.done X rfl rfl rfl hc i pins s3 σ3 H3 X.xe I3 (stat fr3) st3 stop) fun r s4 ⟨hr,I4⟩=>?_)
   subst hr
   exact wpAny_execs_nil ⟨σ3,H3,I4,qn⟩
 · refine wpAny_passesOwn hp (thn (T.item X rfl rfl rfl hc i pins s3 σ3 H3 X.xe I3 (stat fr3) st3 go) fun r s4 ⟨u,hr,h4⟩=>?_)
   subst hr
   refine wpAny_passesOwn hp (thn h4 fun _ s5 ⟨x,H5,I5,r5,y5,st5,fr5⟩=>?_)
   have I5':=I5.pinned (stat fr5) (T.obj _ _ st5)
   refine wpAny_passesOwn hp (thn (hg _ s5 σ3 H5 x u _ I5' r5 (step x H5 y5)) fun _ s6 ⟨σ6,H6,I6,q6⟩=>?_)
   refine wpAny_passesOwn hp (thn (hb _ s6 σ6 H6 _ I6 q6) fun f s7 q7=>?_)
   have again:∀ {σ7:St} {H7:Hp},Inv X (pins++gT fp s5.heap) σ7 H7 s7→N σ7 H7→∃ m,m < n∧∃ i σ' H',Inv X pins σ' H' s7∧tn i s7.heap∧(∀ b∈fp,H' b=none)∧W i m σ' H':=fun {σ7 H7} I7 n7=>by
    obtain ⟨m',hm,w7⟩:=hN σ7 H7 n7
    refine ⟨m',hm,i+1,σ7,H7,I7.unpinned,T.keep _ _ _ st5 fun b hb o e=>(I7.pin (b,o) (List.mem_append_right _ (List.mem_append_right _ (fe hb e)))).1,fun b hb=>?_,w7⟩
    obtain ⟨o,e,d⟩:=T.obj _ _ st5 b hb
    exact (I7.pin (b,o) (List.mem_append_right _ (List.mem_append_right _ (fe hb e)))).2.1
   cases f with
   | next=>obtain ⟨σ7,H7,I7,n7⟩:=q7; exact again I7 n7
   | cont=>obtain ⟨σ7,H7,I7,n7⟩:=q7; exact again I7 n7
   | brk=>obtain ⟨σ7,H7,I7,q7⟩:=q7; exact ⟨σ7,H7,I7.unpinned,q7⟩
   | ret v=>obtain ⟨x7,σ7,H7,I7,r7,q7⟩:=q7; exact ⟨x7,σ7,H7,I7.unpinned,r7,q7⟩
end
theorem fO {lo:Int} {n:Nat} {g:TG} {tb:TS} {D:Ends} {σ:St} {H:Hp} (Pv:Nat→St→Hp→Prop) (h0:Pv 0 σ H)
  (hs:∀ i σ H,i < n→Pv i σ H→g (.int (lo+i)) σ H fun σ2 H2=>tb { D with nx:=Pv (i+1),ct:=Pv (i+1),bk:=D.nx } σ2 H2) (hd:∀ σ H,Pv n σ H→D.nx σ H):
  ∃ W:Nat→Nat→St→Hp→Prop,(∃ m,W 0 m σ H)∧∀ i m σ H,W i m σ H→
   ((Itr lo n).stop i H∧D.nx σ H)∨((Itr lo n).go i H∧∃ N:St→Hp→Prop,(∀ σ' H',N σ' H'→∃ m',m' < m∧W (i+1) m' σ' H')∧∀ x H',(Itr lo n).yld i H x H'→g x σ H' fun σ2 H2=>tb { D with nx:=N,ct:=N,bk:=D.nx } σ2 H2):=by
 refine ⟨fun i m σ H=>m=n - i∧i≤n∧Pv i σ H,⟨n,by simp,Nat.zero_le _,h0⟩,?_⟩
 rintro i m σ H ⟨rfl,hi,p⟩
 by_cases hlt:i < n
 · refine .inr ⟨hlt,Pv (i+1),fun σ' H' p'=>⟨n - (i+1),by omega,rfl,hlt,p'⟩,fun x H' y=>?_⟩
   obtain ⟨e,y⟩:=y
   subst e y
   exact hs i σ _ hlt p
 · have e:i=n:=by omega
   subst e
   exact .inl ⟨Nat.le_refl _,hd σ H p⟩
end L2
namespace L2
open PySem PySem.Spec PyProof.Rows
abbrev R2:=V→V→Hp→VK→Prop
def OpR (X:Cx) (f:Value→Value→Sem Value) (r:R2):Prop:=
 ∀ (pins:List (Addr × Obj)) (s:Shared) (σ:St) (H:Hp) (x y:V) (v u:Value) (Q:VK),Inv X pins σ H s→RelV x v→RelV y u→r x y H Q→
  wpAny (model X.prog X.w) X.A (f v u) (EP X pins σ Q) X.xe s
def CallR (X:Cx) (f:Value) (r:List V→Hp→VK→Prop):Prop:=
 ∀ (pins:List (Addr × Obj)) (s:Shared) (σ:St) (H:Hp) (xs:List V) (us:List Value) (Q:VK),Inv X pins σ H s→Vals xs us→r xs H Q→
  wpAny (model X.prog X.w) X.A (call f us) (EP X pins σ Q) X.xe s
def tOp (r:R2) (ta tb:TE):TE:=fun σ H Q=>ta σ H fun x H1=>tb σ H1 fun y H2=>r x y H2 Q
def tUn (r:V→Hp→VK→Prop) (ta:TE):TE:=fun σ H Q=>ta σ H fun x H1=>r x H1 Q
def rI (C:Int→Int→Prop) (g:Int→Int→V):R2:=fun x y H Q=>∃ i j,x=.int i∧y=.int j∧C i j∧Q (g i j) H
def rI0 (g:Int→Int→V):R2:=fun x y H Q=>∃ i j,x=.int i∧y=.int j∧Q (g i j) H
def rU (g:Int→V):V→Hp→VK→Prop:=fun x H Q=>∃ i,x=.int i∧Q (g i) H
section
variable {X:Cx} {a b c:Expr} {ta tb tc:TE} {pos:Pos}
theorem binT (ha:PE X a ta) (hb:PE X b tb) {pins:List (Addr × Obj)} {s:Shared} {σ:St} {H:Hp} {R:V→V→Hp→Prop} (I:Inv X pins σ H s)
  (h:ta σ H fun x H1=>tb σ H1 fun y H2=>R x y H2) {Q:Value→Shared→Prop} {f:Value→Value→Sem Value}
  (hf:∀ v u s2 x y H2,Inv X pins σ H2 s2→RelV x v→RelV y u→R x y H2→wpAny (model X.prog X.w) X.A (f v u) Q X.xe s2):
  wpAny (model X.prog X.w) X.A (eval a X.env) (fun v s₁=>wpAny (model X.prog X.w) X.A (eval b X.env) (fun u s₂=>wpAny (model X.prog X.w) X.A (f v u) Q X.xe s₂) X.xe s₁) X.xe s:=by
 refine thn (ha pins s σ H _ I h) fun v s1 ⟨x,H1,I1,r1,q1⟩=>?_
 refine thn (hb pins s1 σ H1 _ I1 q1) fun u s2 ⟨y,H2,I2,r2,q2⟩=>?_
 exact hf v u s2 x y H2 I2 r1 r2 q2
theorem ai {op:Operator} {r:R2} (ho:OpR X (binaryOp op) r) (ha:PE X a ta) (hb:PE X b tb):PE X (.BinOp a op b pos) (tOp r ta tb):=by
 intro pins s σ H Q I h
 exact wpAny_BinOp (binT ha hb I h fun v u s2 x y H2 I2 rx ry q=>ho pins s2 σ H2 x y v u Q I2 rx ry q)
theorem opI {f:Value→Value→Sem Value} {C:Int→Int→Prop} {g:Int→Int→Int}
  (rule:∀ (i j:Int) (t u:Tok) (s:Shared) (Q:Value→Shared→Prop) (E:Value→Shared→Prop),C i j→Q (.int (g i j) s.toks) { s with toks:=s.toks+1 }→wpAny (model X.prog X.w) X.A (f (.int i t) (.int j u)) Q E s):
  OpR X f (rI C fun i j=>.int (g i j)):=by
 intro pins s σ H x y v u Q I rx ry h
 obtain ⟨i,j,rfl,rfl,hc,q⟩:=h
 obtain ⟨t,rfl⟩:=rx
 obtain ⟨t',rfl⟩:=ry
 exact rule i j t t' s _ _ hc ⟨.int (g i j),H,I.tok _,⟨_,rfl⟩,q⟩
theorem tq {f:Value→Value→Sem Value} {g:Int→Int→Int}
  (rule:∀ (i j:Int) (t u:Tok) (s:Shared) (Q:Value→Shared→Prop) (E:Value→Shared→Prop),Q (.int (g i j) s.toks) { s with toks:=s.toks+1 }→wpAny (model X.prog X.w) X.A (f (.int i t) (.int j u)) Q E s):
  OpR X f (rI0 fun i j=>.int (g i j)):=by
 intro pins s σ H x y v u Q I rx ry h
 obtain ⟨i,j,rfl,rfl,q⟩:=h
 obtain ⟨t,rfl⟩:=rx
 obtain ⟨t',rfl⟩:=ry
 exact rule i j t t' s _ _ ⟨.int (g i j),H,I.tok _,⟨_,rfl⟩,q⟩
theorem oG {f:Value→Value→Sem Value} {g:Int→Int→Bool}
  (rule:∀ (i j:Int) (t u:Tok) (s:Shared) (Q:Value→Shared→Prop) (E:Value→Shared→Prop),Q (.bool (g i j)) s→wpAny (model X.prog X.w) X.A (f (.int i t) (.int j u)) Q E s):
  OpR X f (rI0 fun i j=>.bl (g i j)):=by
 intro pins s σ H x y v u Q I rx ry h
 obtain ⟨i,j,rfl,rfl,q⟩:=h
 obtain ⟨t,rfl⟩:=rx
 obtain ⟨t',rfl⟩:=ry
 exact rule i j t t' s _ _ ⟨.bl (g i j),H,I,rfl,q⟩
def CDiv (i j:Int):Prop:=0 < j∧j < 1073741824
def CPow (i j:Int):Prop:=0≤j∧j≤1000000∧i.natAbs < 2^64
def CMul (i j:Int):Prop:=(-(2^64) < i∧i < 2^64)∨(-(2^64) < j∧j < 2^64)
theorem CMul.ok {i j:Int} (h:CMul i j):IntMulOk i j:=by
 rcases h with ⟨h1,h2⟩ | ⟨h1,h2⟩
 · exact .of_left (intBits_le_64 h1 h2)
 · exact .of_right (intBits_le_64 h1 h2)
theorem tu:OpR X (binaryOp .Add) (rI0 fun i j=>.int (i+j)):=tq fun _ _ _ _ _ _ _ q=>add_int q
theorem tw:OpR X (binaryOp .Sub) (rI0 fun i j=>.int (i - j)):=tq fun _ _ _ _ _ _ _ q=>sub_int q
theorem tz:OpR X (binaryOp .Mult) (rI CMul fun i j=>.int (i*j)):=opI fun _ _ _ _ _ _ _ hc q=>mul_int q hc.ok
theorem rM:OpR X (binaryOp .FloorDiv) (rI CDiv fun i j=>.int (i / j)):=opI fun i j _ _ _ _ _ hc q=>by
 have h1:(0:Int) < j:=hc.1
 have h2:j < 1073741824:=hc.2
 exact floordiv_int (by omega) (by rw [Int.fdiv_eq_ediv_of_nonneg i (by omega)]; exact q) (.inl (PyProof.noPylong_small (by omega)))
theorem tD:OpR X (binaryOp .Mod) (rI (fun _ j=>0 < j) fun i j=>.int (i % j)):=opI fun i j _ _ _ _ _ hc q=>by
 have h1:(0:Int) < j:=hc
 exact mod_int' (by omega) (by rw [Int.fmod_eq_emod_of_nonneg i (by omega)]; exact q)
theorem tE:OpR X (binaryOp .Pow) (rI CPow fun i j=>.int (i^j.toNat)):=opI fun _ _ _ _ _ _ _ hc q=>pow_int_small hc.1 hc.2.1 hc.2.2 q
end
def scal:V→V→Bool
 | .non,.non=>true | .non,.int _=>true | .int _,.non=>true | .non,.bl _=>true | .bl _,.non=>true | .non,.str _=>true | .str _,.non=>true
 | .int _,.int _=>true | .bl _,.bl _=>true | .str _,.str _=>true | .byt _,.byt _=>true
 | .int _,.str _=>true | .str _,.int _=>true | .bl _,.str _=>true | .str _,.bl _=>true
 | _,_=>false
def rEq:R2:=fun x y H Q=>scal x y=true∧Q (.bl (decide (x=y))) H
def rNe:R2:=fun x y H Q=>scal x y=true∧Q (.bl (!decide (x=y))) H
theorem nP {i j:Int}:decide (V.int i=V.int j)=(i==j):=by
 rw [Bool.eq_iff_iff]
 simp
theorem pr {i j:Bool}:decide (V.bl i=V.bl j)=(i==j):=by
 rw [Bool.eq_iff_iff]
 simp
theorem nQ {i j:Str}:decide (V.str i=V.str j)=(i==j):=by
 rw [Bool.eq_iff_iff]
 simp
theorem nR {i j:Array UInt8}:decide (V.byt i=V.byt j)=(i.toList==j.toList):=by
 rw [Bool.eq_iff_iff]
 cases i
 cases j
 simp
section
variable {X:Cx} {a b c:Expr} {ta tb tc:TE} {pos:Pos}
theorem aC {pins:List (Addr × Obj)} {σ:St} {H:Hp} {s:Shared} {Q:VK} {k k':Bool} (I:Inv X pins σ H s) (q:Q (.bl k) H) (e:k=k'):EP X pins σ Q (.bool k') s:=by
 subst e
 exact ⟨.bl k,H,I,rfl,q⟩
theorem oH:OpR X (compareOp .Eq) rEq:=by
 intro pins s σ H x y v u Q I rx ry h
 obtain ⟨hs,q⟩:=h
 cases x with
 | non=>
  cases rx
  cases y with
  | non=>cases ry; exact PySem.EqNone.eq_none_none (aC I q (by simp))
  | bl j=>cases ry; exact PySem.EqNone.eq_none_bool (aC I q (by simp))
  | int j=>obtain ⟨t',rfl⟩:=ry; exact PySem.EqNone.eq_none_int (aC I q (by simp))
  | str j=>obtain ⟨t',rfl⟩:=ry; exact PySem.EqNone.eq_none_str (aC I q (by simp))
  | _=>exact absurd (show false=true from hs) Bool.false_ne_true
 | bl i=>
  cases rx
  cases y with
  | non=>cases ry; exact PySem.EqNone.eq_bool_none (aC I q (by simp))
  | bl j=>cases ry; exact eq_bool (aC I q pr)
  | str j=>obtain ⟨t',rfl⟩:=ry; exact PySem.EqMixed.eq_bool_str (aC I q (by simp))
  | _=>exact absurd (show false=true from hs) Bool.false_ne_true
 | int i=>
  obtain ⟨t,rfl⟩:=rx
  cases y with
  | non=>cases ry; exact PySem.EqNone.eq_int_none (aC I q (by simp))
  | int j=>obtain ⟨t',rfl⟩:=ry; exact eq_int (aC I q nP)
  | str j=>obtain ⟨t',rfl⟩:=ry; exact PySem.EqMixed.eq_int_str (aC I q (by simp))
  | _=>exact absurd (show false=true from hs) Bool.false_ne_true
 | str i=>
  obtain ⟨t,rfl⟩:=rx
  cases y with
  | non=>cases ry; exact PySem.EqNone.eq_str_none (aC I q (by simp))
  | bl j=>cases ry; exact PySem.EqMixed.eq_str_bool (aC I q (by simp))
  | int j=>obtain ⟨t',rfl⟩:=ry; exact PySem.EqMixed.eq_str_int (aC I q (by simp))
  | str j=>obtain ⟨t',rfl⟩:=ry; exact eq_str (aC I q nQ)
  | _=>exact absurd (show false=true from hs) Bool.false_ne_true
 | byt i=>
  obtain ⟨t,rfl⟩:=rx
  cases y with
  | byt j=>obtain ⟨t',rfl⟩:=ry; exact PySem.W.eq_bytes (aC I q nR)
  | _=>exact absurd (show false=true from hs) Bool.false_ne_true
 | _=>cases y <;> exact absurd (show false=true from hs) Bool.false_ne_true
theorem oI:OpR X (compareOp .NotEq) rNe:=by
 intro pins s σ H x y v u Q I rx ry h
 obtain ⟨hs,q⟩:=h
 cases x with
 | non=>
  cases rx
  cases y with
  | non=>cases ry; exact PySem.EqNone.ne_none_none (aC I q (by simp))
  | bl j=>cases ry; exact PySem.EqNone.ne_none_bool (aC I q (by simp))
  | int j=>obtain ⟨t',rfl⟩:=ry; exact PySem.EqNone.ne_none_int (aC I q (by simp))
  | str j=>obtain ⟨t',rfl⟩:=ry; exact PySem.EqNone.ne_none_str (aC I q (by simp))
  | _=>exact absurd (show false=true from hs) Bool.false_ne_true
 | bl i=>
  cases rx
  cases y with
  | non=>cases ry; exact PySem.EqNone.ne_bool_none (aC I q (by simp))
  | bl j=>cases ry; exact ne_bool (aC I q (congrArg not pr))
  | str j=>obtain ⟨t',rfl⟩:=ry; exact PySem.EqMixed.ne_bool_str (aC I q (by simp))
  | _=>exact absurd (show false=true from hs) Bool.false_ne_true
 | int i=>
  obtain ⟨t,rfl⟩:=rx
  cases y with
  | non=>cases ry; exact PySem.EqNone.ne_int_none (aC I q (by simp))
  | int j=>obtain ⟨t',rfl⟩:=ry; exact ne_int (aC I q (congrArg not nP))
  | str j=>obtain ⟨t',rfl⟩:=ry; exact PySem.EqMixed.ne_int_str (aC I q (by simp))
  | _=>exact absurd (show false=true from hs) Bool.false_ne_true
 | str i=>
  obtain ⟨t,rfl⟩:=rx
  cases y with
  | non=>cases ry; exact PySem.EqNone.ne_str_none (aC I q (by simp))
  | bl j=>cases ry; exact PySem.EqMixed.ne_str_bool (aC I q (by simp))
  | int j=>obtain ⟨t',rfl⟩:=ry; exact PySem.EqMixed.ne_str_int (aC I q (by simp))
  | str j=>obtain ⟨t',rfl⟩:=ry; exact ne_str (aC I q (congrArg not nQ))
  | _=>exact absurd (show false=true from hs) Bool.false_ne_true
 | byt i=>
  obtain ⟨t,rfl⟩:=rx
  cases y with
  | byt j=>obtain ⟨t',rfl⟩:=ry; exact PySem.W.ne_bytes (aC I q (congrArg not nR))
  | _=>exact absurd (show false=true from hs) Bool.false_ne_true
 | _=>cases y <;> exact absurd (show false=true from hs) Bool.false_ne_true
theorem uy:OpR X (compareOp .Lt) (rI0 fun i j=>.bl (decide (i < j))):=oG fun _ _ _ _ _ _ _ q=>lt_int q
theorem uz:OpR X (compareOp .LtE) (rI0 fun i j=>.bl (decide (i≤j))):=oG fun _ _ _ _ _ _ _ q=>le_int q
theorem uA:OpR X (compareOp .Gt) (rI0 fun i j=>.bl (decide (j < i))):=oG fun _ _ _ _ _ _ _ q=>gt_int q
theorem uB:OpR X (compareOp .GtE) (rI0 fun i j=>.bl (decide (j≤i))):=oG fun _ _ _ _ _ _ _ q=>ge_int q
theorem pw:OpR X (compareOp .In) (fun x y H Q=>∃ i j,x=.str i∧y=.str j∧Q (.bl (!(Builtin.Str.occurrences j i 0 j.length 1).isEmpty)) H):=by
 intro pins s σ H x y v u Q I rx ry h
 obtain ⟨i,j,rfl,rfl,q⟩:=h
 obtain ⟨t,rfl⟩:=rx
 obtain ⟨t',rfl⟩:=ry
 exact in_str (aC I q rfl)
theorem mf:OpR X (compareOp .Is) (fun x y H Q=>y=.non∧Q (.bl (decide (x=.non))) H):=by
 intro pins s σ H x y v u Q I rx ry h
 obtain ⟨rfl,q⟩:=h
 cases ry
 refine is_none_gen (aC I q ?_)
 cases x <;> first
  | (cases rx; rfl)
  | (obtain ⟨t,rfl⟩:=rx; rfl)
theorem au (b:Expr) {op:CmpOp} (h:op≠.In:=by decide) (h2:op≠.NotIn:=by decide):behindInMarks op b=false:=by
 have e1:(op==CmpOp.In)=false:=by cases op <;> first | rfl | exact absurd rfl h
 have e2:(op==CmpOp.NotIn)=false:=by cases op <;> first | rfl | exact absurd rfl h2
 cases b <;> simp [behindInMarks,e1,e2]
theorem nS {op:CmpOp} {r:R2} (ho:OpR X (compareOp op) r) (ha:PE X a ta) (hb:PE X b tb) (hm:behindInMarks op b=false):PE X (.Compare a [op] [b] pos) (tOp r ta tb):=by
 intro pins s σ H Q I h
 exact wpAny_Compare1 (binT ha hb I h fun v u s2 x y H2 I2 rx ry q=>ho pins s2 σ H2 x y v u Q I2 rx ry q) hm
def tTest (t:TE):TT:=fun σ H Q=>t σ H fun x H'=>∃ k,x=.bl k∧Q k H'
theorem al {op:CmpOp} {r:R2} (ho:OpR X (compareOp op) r) (ha:PE X a ta) (hb:PE X b tb) (hm:behindInMarks op b=false):PT X (.Compare a [op] [b] pos) (tTest (tOp r ta tb)):=by
 intro pins s σ H Q I h
 refine wpAny_isTrue_Compare1 (thn (ha pins s σ H _ I h) fun v s1 ⟨x,H1,I1,r1,q1⟩=>thn (hb pins s1 σ H1 _ I1 q1) fun u s2 ⟨y,H2,I2,r2,q2⟩=>
  thn (ho pins s2 σ H2 x y v u _ I2 r1 r2 q2) fun c s3 ⟨z,H3,I3,r3,k,e,q3⟩=>?_) hm
 subst e
 cases r3
 exact wpAny_truthy_bool ⟨H3,I3,q3⟩
def gW (r r':R2) (ta tb tc:TE):TE:=fun σ H Q=>ta σ H fun x H1=>tb σ H1 fun y H2=>r x y H2 fun z H3=>∃ k,z=.bl k∧
 (if k=true then tc σ H3 fun w' H4=>r' y w' H4 Q else Q (.bl false) H3)
theorem mh {op op':CmpOp} {r r':R2} (ho:OpR X (compareOp op) r) (ho':OpR X (compareOp op') r') (ha:PE X a ta) (hb:PE X b tb) (hc:PE X c tc)
  (hm:lastMarks [op,op'] [b,c]=false:=by with_unfolding_all rfl):PT X (.Compare a [op,op'] [b,c] pos) (tTest (gW r r' ta tb tc)):=by
 intro pins s σ H Q I h
 refine isTrue_chain (thn (ha pins s σ H _ I h) fun v s1 ⟨x,H1,I1,r1,q1⟩=>test_link (thn (hb pins s1 σ H1 _ I1 q1) fun u s2 ⟨y,H2,I2,r2,q2⟩=>
  thn (ho pins s2 σ H2 x y v u _ I2 r1 r2 q2) fun d s3 ⟨z,H3,I3,r3,k,e,q3⟩=>?_)) hm
 subst e
 cases r3
 refine wpAny_truthy_bool ?_
 cases k with
 | false=>
  obtain ⟨k',e',q'⟩:=q3
  cases e'
  exact ite_ff ⟨H3,I3,q'⟩
 | true=>
  refine ite_tt (test_last (thn (hc pins s3 σ H3 _ I3 q3) fun w' s4 ⟨z',H4,I4,r4,q4⟩=>thn (ho' pins s4 σ H4 y z' u w' _ I4 r2 r4 q4) fun d' s5 ⟨z2,H5,I5,r5,k2,e2,q5⟩=>?_))
  subst e2
  cases r5
  exact wpAny_truthy_bool ⟨H5,I5,q5⟩
theorem gX:(sizeLine:Nat) < 2^63:=by rw [sizeLine_eq]; decide
theorem oJ:OpR X (binaryOp .Add) (fun x y H Q=>∃ i j,x=.str i∧y=.str j∧i.length+j.length≤sizeLine∧Q (.str (i++j)) H):=by
 intro pins s σ H x y v u Q I rx ry h
 obtain ⟨i,j,rfl,rfl,hz,q⟩:=h
 obtain ⟨t,rfl⟩:=rx
 obtain ⟨t',rfl⟩:=ry
 exact add_str (fun t' tk=>⟨.str (i++j),H,I.tok _,⟨_,rfl⟩,q⟩) hz
theorem cg {x:V} {us:List Value} (r:Vals [x] us):∃ u,us=[u]∧RelV x u:=by
 cases r with
 | cons r1 r2=>cases r2; exact ⟨_,rfl,r1⟩
theorem iL {x y:V} {us:List Value} (r:Vals [x,y] us):∃ u w',us=[u,w']∧RelV x u∧RelV y w':=by
 cases r with
 | cons r1 r2=>
  cases r2 with
  | cons r3 r4=>cases r4; exact ⟨_,_,rfl,r1,r3⟩
theorem px (hc:X.calm=true):CallR X (.builtin "min") (fun xs H Q=>∃ i j,xs=[.int i,.int j]∧Q (.int (if j < i then j else i)) H):=by
 intro pins s σ H xs us Q I r h
 obtain ⟨i,j,rfl,q⟩:=h
 obtain ⟨u,w',rfl,⟨t,rfl⟩,⟨t',rfl⟩⟩:=iL r
 refine min_two_ints (I.ok.hd hc) fun h' tk k=>⟨_,H,I.kept k,?_,q⟩
 by_cases hj:j < i
 · rw [if_pos hj,if_pos hj]; exact ⟨_,rfl⟩
 · rw [if_neg hj,if_neg hj]; exact ⟨_,rfl⟩
theorem kY:CallR X (.type "int") (fun xs H Q=>(∃ i,xs=[.int i]∧Q (.int i) H)∨∃ k,xs=[.bl k]∧Q (.int (if k then 1 else 0)) H):=by
 intro pins s σ H xs us Q I r h
 rcases h with ⟨i,rfl,q⟩ | ⟨k,rfl,q⟩
 · obtain ⟨u,rfl,t,rfl⟩:=cg r
   exact call_int_int ⟨.int i,H,I,⟨_,rfl⟩,q⟩
 · obtain ⟨u,rfl,r1⟩:=cg r
   cases r1
   exact call_int_bool ⟨.int (if k then 1 else 0),H,I.tok _,⟨_,rfl⟩,q⟩
end
end L2
namespace L2
open PySem PySem.Spec PyProof.Rows
structure ObjM (h:Heap) (x dx C:Addr) (mA:Str→Option Value):Prop where
 obj:h.get? x=some (PySem.W.instObj C dx)
 ns:h.Ns1 dx mA
 ne:dx≠x
theorem pz {h:Heap} {dx:Addr} {mA:Str→Option Value} (n:h.Ns1 dx mA):∃ od,h.get? dx=some od∧∀ name,PySem.W.lookIn name od=some (mA name):=by
 obtain ⟨o,es,ep,ho,hd,hk,_,hm⟩:=n
 refine ⟨o,ho,fun name=>?_⟩
 have e:=hm name
 unfold nsFind findBy at e
 rw [← Array.find?_toList] at e
 unfold PySem.W.lookIn
 rw [hd]
 dsimp only
 split
 · rename_i y q
   rw [q] at e
   exact congrArg some e
 · rename_i q
   rw [q] at e
   have a:es.toList.any (·.refKey)=false:=by
    rw [List.any_eq_false]
    intro y hy
    obtain ⟨z,t,hkey⟩:=hk y (Array.mem_toList_iff.mp hy)
    simp [DictEntry.refKey,hkey]
   have a':¬ es.toList.any (·.refKey)=true:=by rw [a]; exact Bool.false_ne_true
   rw [if_neg a']
   exact congrArg some e
theorem ObjM.look {h:Heap} {x dx C:Addr} {mA:Str→Option Value} (I:ObjM h x dx C mA):∃ od,PySem.W.InstAt h x (PySem.W.instObj C dx) C (some od)∧∀ name,PySem.W.lookIn name od=some (mA name):=
 let ⟨od,ho,hl⟩:=pz I.ns
 ⟨od,⟨I.obj,rfl,rfl,ho⟩,hl⟩
section
variable {prog:Program} {w:World} {A:Around} {E:Value→Shared→Prop} {s:Shared} {K:PySem.W.Frag} {x dx C f:Addr} {mA:Str→Option Value} {name:Str} {v:Value}
theorem rN {expr:Bool} {Q:Value→Shared→Prop} (X:K.In s.heap) (I:ObjM s.heap x dx C mA) (hg:PySem.W.plainGet K C name=true) (hh:PySem.W.hasDictIn K C=true)
  (ha:PySem.W.findIn K (.ref C) name=some none) (hv:mA name=some v) (hv':PySem.W.handedIn v=true) (h:Q v { s with toks:=s.toks+1 }):
  wpAny (model prog w) A (getAttr (.ref x) name expr) Q E s:=by
 obtain ⟨od,J,hl⟩:=I.look
 exact PySem.W.get_value X J (PySem.W.plainGet_of hg).1 (PySem.W.findObj_own hh ha rfl (by rw [hl,hv])) hv' h
theorem qz {pl:Sem Bool} {Q:Value × List Value→Shared→Prop} (X:K.In s.heap) (I:ObjM s.heap x dx C mA) (hg:PySem.W.plainGet K C name=true)
  (hf:PySem.W.findIn K (.ref C) name=some (some (.ref f))) (ht:PySem.W.isFn K (.ref f)=true) (hv:mA name=none) (h:Q (.ref f,[.ref x]) s):
  wpAny (model prog w) A (getMethod (.ref x) name pl) Q E s:=by
 obtain ⟨od,J,hl⟩:=I.look
 exact PySem.W.method_fn X J (PySem.W.plainGet_of hg).1 (PySem.W.plainGet_of hg).2 hf (beq_iff_eq.mp ht) (by show (PySem.W.lookIn name od).map (·.isSome)=some false; rw [hl,hv]; rfl) h
theorem rO {ns:List Str} {Q:Unit→Shared→Prop} (X:K.In s.heap) (I:ObjM s.heap x dx C mA)
  (hs:PySem.W.findIn K (.ref C) "__setattr__"=some (some (.builtin "object.__setattr__"))) (hp:PySem.W.plainOver K C=true) (ht:PySem.W.takerIn K C name=some none) (hh:PySem.W.hasDictIn K C=true)
  (hw:PySem.Within mA ns) (hsz:ns.length≤sizeLine)
  (h:∀ h',ObjM h' x dx C (fun y=>if y=name then some v else mA y)→Heap.SameBut dx s.heap h'→Q () { s with heap:=h',toks:=s.toks+2 }):
  wpAny (model prog w) A (setAttr (.ref x) name v) Q E s:=by
 obtain ⟨od,J,hl⟩:=I.look
 refine PySem.W.set_plain X J hs (PySem.W.osa_open (s:={ s with toks:=s.toks+1 }) (r:=none) X J hp ht fun b=>?_)
 obtain ⟨cd,hc,hd'⟩:=PySem.W.any_some hh
 have hx:s.heap.get? x=some ⟨.ref C,some dx,.plain,#[]⟩:=I.obj
 refine wpAny_bind (wpAny_pure (wpAny_bind (wpAny_bind (wpAny_loadPart hx (wpAny_bind (PySem.W.Looks.here (s:={ s with toks:=s.toks+1 }) (PySem.W.looks_clsIn X hc) ?_))))))
 rw [hd']
 refine wpAny_pure (a:=some dx) (wpAny_bind (wpAny_pure (wpAny_bind ?_)))
 refine wpAny_nsSet1 (s:={ s with toks:=s.toks+1 }) I.ns fun h' hn2 hs2=>?_
 obtain ⟨oD,esD,epD,hoD,hdD,hcD⟩:=hn2.count (PySem.Within.cons name v hw)
 refine wpAny_bind (wpAny_lookBehind hoD (by rw [hdD]; exact pastItsLine_dict (Nat.le_trans hcD (by rw [List.length_cons]; omega))) ?_)
 exact wpAny_pure (h _ ⟨(hs2.2 _ (Ne.symm I.ne)).trans I.obj,hn2,I.ne⟩ hs2)
theorem qA {R:Result→Shared→Prop} {vs:List Value} {kw:List (Str × Value)} (X:K.In s.heap) (hm:PySem.W.makesIn K C=true)
  (hi:PySem.W.findIn K (.ref C) "__init__"=some (some (.ref f))) (hf:PySem.W.typeIn K (.ref f)=some (.type "function"))
  (h:codeAny (model prog w) (A.under (.builtin "type.__call__" ⟨.ref C::vs,kw⟩)) (.call (.ref f) ⟨.ref (s.heap.objs.size+1)::vs,kw⟩) (PySem.W.InitBack (s.heap.objs.size+1) R)
   { s with heap:=(s.heap.push PySem.W.emptyDict).push (PySem.W.instObj C s.heap.objs.size) }):
  codeAny (model prog w) A (.call (.ref C) ⟨vs,kw⟩) R s:=by
 obtain ⟨hh,g,d,t,os⟩:=s
 exact PySem.W.make_core (PySem.W.makes_of X hm) (PySem.W.looks_findIn X hi) (fun self=>PySem.W.bind_fn X self hf) (.inl rfl) h
end
def putF (f:Str) (v:V):List (Str × V)→List (Str × V)
 | []=>[(f,v)]
 | (g,x)::r=>if g=f then (g,v)::r else (g,x)::putF f v r
theorem ja (f g:Str) (v:V):∀ fs:List (Str × V),(putF f v fs).lookup g=if g=f then some v else fs.lookup g
 | []=>by
  show List.lookup g [(f,v)]=_
  by_cases h:g=f
  · have hb:(g==f)=true:=beq_iff_eq.mpr h
    simp only [List.lookup,hb,if_pos h]
  · have hb:(g==f)=false:=beq_eq_false_iff_ne.mpr h
    simp only [List.lookup,hb,if_neg h]
 | (k,x)::r=>by
  have ih:=ja f g v r
  rw [show putF f v ((k,x)::r)=(if k=f then (k,v)::r else (k,x)::putF f v r) from rfl]
  by_cases hk:k=f
  · rw [if_pos hk]
    by_cases h:g=k
    · have hb:(g==k)=true:=beq_iff_eq.mpr h
      simp only [List.lookup,hb,if_pos (h.trans hk)]
    · have hb:(g==k)=false:=beq_eq_false_iff_ne.mpr h
      simp only [List.lookup,hb,if_neg (fun e:g=f=>h (e.trans hk.symm))]
  · rw [if_neg hk]
    by_cases h:g=k
    · have hb:(g==k)=true:=beq_iff_eq.mpr h
      simp only [List.lookup,hb,if_neg (fun e:g=f=>hk (h.symm.trans e))]
    · have hb:(g==k)=false:=beq_eq_false_iff_ne.mpr h
      simp only [List.lookup,hb]
      exact ih
theorem gY (f:Str) (v:V):∀ fs:List (Str × V),f∈(putF f v fs).map (·.1)∧∀ g,g∈fs.map (·.1)→g∈(putF f v fs).map (·.1)
 | []=>⟨by simp [putF],fun g h=>by simp at h⟩
 | (k,x)::r=>by
  obtain ⟨i1,i2⟩:=gY f v r
  rw [show putF f v ((k,x)::r)=(if k=f then (k,v)::r else (k,x)::putF f v r) from rfl]
  by_cases hk:k=f
  · rw [if_pos hk]
    subst hk
    exact ⟨by simp,fun g h=>by simpa using h⟩
  · rw [if_neg hk]
    refine ⟨?_,fun g h=>?_⟩
    · rw [List.map_cons]
      exact List.mem_cons_of_mem _ i1
    · rw [List.map_cons] at h ⊢
      rcases List.mem_cons.mp h with e | e
      · exact List.mem_cons.mpr (.inl e)
      · exact List.mem_cons_of_mem _ (i2 g e)
theorem jb (f:Str) (v:V):∀ fs:List (Str × V),(putF f v fs).length≤fs.length+1
 | []=>by simp [putF]
 | (k,x)::r=>by
  have ih:=jb f v r
  rw [show putF f v ((k,x)::r)=(if k=f then (k,v)::r else (k,x)::putF f v r) from rfl]
  by_cases hk:k=f
  · rw [if_pos hk,List.length_cons,List.length_cons]; omega
  · rw [if_neg hk,List.length_cons,List.length_cons]; omega
theorem RelO.some_of {v:V} {o:Option Value} (r:RelO (some v) o):∃ u,o=some u∧RelV v u:=by
 cases o with
 | none=>exact (show False from r).elim
 | some u=>exact ⟨u,rfl,r⟩
theorem RelO.none_of {o:Option Value} (r:RelO none o):o=none:=by
 cases o with
 | none=>rfl
 | some u=>exact (show False from r).elim
theorem pA {v:V} {u:Value} (r:RelV v u):PySem.W.handedIn u=true:=by
 cases v with
 | non=>cases (show u=Value.none from r); rfl
 | bl b=>cases (show u=Value.bool b from r); rfl
 | int i=>obtain ⟨t,e⟩:=(show ∃ t,u=Value.int i t from r); cases e; rfl
 | str x=>obtain ⟨t,e⟩:=(show ∃ t,u=Value.str x t from r); cases e; rfl
 | byt b=>obtain ⟨t,e⟩:=(show ∃ t,u=Value.bytes b t from r); cases e; rfl
 | flt b=>obtain ⟨t,e⟩:=(show ∃ t,u=Value.float b t from r); cases e; rfl
 | ref a=>cases (show u=Value.ref a from r); rfl
 | ty n=>cases (show u=Value.type n from r); rfl
section
variable {P:Program} {w:World} {H H':Hp} {h h':Heap} {a C dx:Addr} {fs fs':List (Str × V)}
theorem gj (hok:HOk P w H h) (e:H a=some (.ins C dx fs)):∃ mA,ObjM h a dx C mA∧(∀ f,RelO (fs.lookup f) (mA f))∧PySem.Within mA (fs.map (·.1))∧fs.length≤1000∧H dx=some (.own a):=by
 obtain ⟨d,z,ne,ob,mA,n,r,q⟩:=(show ObjOk P w H h a (.ins C dx fs) from hok a _ e)
 exact ⟨mA,⟨ob,n,ne⟩,r,q,z,d⟩
end
structure Cls (K:PySem.W.Frag) (C:Addr):Prop where
 pg:PySem.W.plainGet K C Str.empty=true
 hd:PySem.W.hasDictIn K C=true
 po:PySem.W.plainOver K C=true
 sa:PySem.W.findIn K (.ref C) "__setattr__"=some (some (.builtin "object.__setattr__"))
theorem Cls.get {K:PySem.W.Frag} {C:Addr} (c:Cls K C) (f:Str):PySem.W.plainGet K C f=true:=c.pg
def NoAttr (K:PySem.W.Frag) (C:Addr) (f:Str):Prop:=PySem.W.findIn K (.ref C) f=some none
theorem NoAttr.taker {K:PySem.W.Frag} {C:Addr} {f:Str} (n:NoAttr K C f):PySem.W.takerIn K C f=some none:=by
 unfold PySem.W.takerIn
 rw [show PySem.W.findIn K (.ref C) f=some none from n]
 rfl
structure Meth (K:PySem.W.Frag) (C:Addr) (m:Str) (f:Addr):Prop where
 at_:PySem.W.findIn K (.ref C) m=some (some (.ref f))
 fn:PySem.W.isFn K (.ref f)=true
 kp:PySem.W.keepIn K (.ref f)=true
section
variable {X:Cx} {pins:List (Addr × Obj)} {σ:St} {H:Hp} {s:Shared} {a C dx:Addr} {fs:List (Str × V)} {f:Str} {v:V} {A:Around} {E:Value→Shared→Prop}
theorem oK {b:Bool} {Q:Value→Shared→Prop} (I:Inv X pins σ H s) (e:H a=some (.ins C dx fs)) (c:Cls X.K C) (n:NoAttr X.K C f) (l:fs.lookup f=some v)
  (h:∀ u s',Inv X pins σ H s'→RelV v u→Q u s'):wpAny (model X.prog X.w) A (getAttr (.ref a) f b) Q E s:=by
 obtain ⟨mA,O,r,_,_,_⟩:=gj I.hok e
 obtain ⟨u,hu,ru⟩:=RelO.some_of (v:=v) (o:=mA f) (by rw [← l]; exact r f)
 exact rN I.kIn O (c.get f) c.hd n hu (pA ru) (h u _ (I.tok _) ru)
theorem oM {m:Str} {g:Addr} {pl:Sem Bool} {Q:Value × List Value→Shared→Prop} (I:Inv X pins σ H s) (e:H a=some (.ins C dx fs)) (c:Cls X.K C) (k:Meth X.K C m g) (l:fs.lookup m=none)
  (h:Q (.ref g,[.ref a]) s):wpAny (model X.prog X.w) A (getMethod (.ref a) m pl) Q E s:=by
 obtain ⟨mA,O,r,_,_,_⟩:=gj I.hok e
 have hn:mA m=none:=RelO.none_of (by rw [← l]; exact r m)
 exact qz I.kIn O (c.get m) k.at_ k.fn hn h
theorem oN {y:V} {u:Value} {Q:Unit→Shared→Prop} (I:Inv X pins σ H s) (e:H a=some (.ins C dx fs)) (c:Cls X.K C) (n:NoAttr X.K C f) (hl:fs.length < 1000) (ry:RelV y u)
  (h:∀ s',Inv X pins σ (upd H a (.ins C dx (putF f y fs))) s'→Q () s'):wpAny (model X.prog X.w) A (setAttr (.ref a) f u) Q E s:=by
 obtain ⟨mA,O,r,wi,_,ho⟩:=gj I.hok e
 have hz:(fs.map (·.1)).length≤sizeLine:=by rw [List.length_map,sizeLine_eq]; omega
 refine rO I.kIn O c.sa c.po n.taker c.hd wi hz fun h' O' sb=>h _ ?_
 have hd:∃ o,h'.get? dx=some o:=let ⟨o,_,_,e',_⟩:=O'.ns; ⟨o,e'⟩
 refine I.write (x:=a) (e:=dx) (by rw [e]; exact True.intro) (.inr ho) (fun b q hb z=>(sb.2 b hb).trans z) hd ?_
 refine ⟨by rw [ak O.ne]; exact ho,?_,O.ne,O'.obj,_,O'.ns,fun g=>?_,fun g hg=>?_⟩
 · have:=jb f y fs; omega
 · show RelO ((putF f y fs).lookup g) (if g=f then some u else mA g)
   rw [ja]
   by_cases q:g=f
   · rw [if_pos q,if_pos q]; exact ry
   · rw [if_neg q,if_neg q]; exact r g
 · by_cases q:g=f
   · rw [q]; exact (gY f y fs).1
   · refine (gY f y fs).2 g (wi g fun z=>hg ?_)
     show (if g=f then some u else mA g)=none
     rw [if_neg q]; exact z
theorem Inv.made (I:Inv X pins σ H s):Inv X pins σ (upd (upd H s.heap.objs.size (.own (s.heap.objs.size+1))) (s.heap.objs.size+1) (.ins C s.heap.objs.size []))
  { s with heap:=(s.heap.push PySem.W.emptyDict).push (PySem.W.instObj C s.heap.objs.size) }:=by
 have e1:(s.heap.push PySem.W.emptyDict).get? s.heap.objs.size=some PySem.W.emptyDict:=Heap.get?_push_size s.heap rfl
 have e2:((s.heap.push PySem.W.emptyDict).push (PySem.W.instObj C s.heap.objs.size)).get? (s.heap.objs.size+1)=some (PySem.W.instObj C s.heap.objs.size):=by
  have:=Heap.get?_push_size (s.heap.push PySem.W.emptyDict) (o:=PySem.W.instObj C s.heap.objs.size) rfl
  rwa [Heap.size_push] at this
 have e3:(s.heap.push PySem.W.emptyDict).Ns s.heap.objs.size (fun _=>none):=⟨PySem.W.emptyDict,#[],_,e1,rfl,(fun e he=>absurd he (by simp)),fun _=>rfl⟩
 have I1:=I.laid (a:=s.heap.objs.size) (o:=.own (s.heap.objs.size+1)) (h':=s.heap.push PySem.W.emptyDict) (t':=s.toks) (fun b u q=>Heap.get?_push_of_some _ q) (Nat.le_refl _) ⟨_,e1⟩
 refine I1.laid (a:=s.heap.objs.size+1) (o:=.ins C s.heap.objs.size []) (t':=s.toks) (fun b u q=>Heap.get?_push_of_some _ q) (Nat.le_of_eq (Heap.size_push _ _)) ?_
 have ne:s.heap.objs.size≠s.heap.objs.size+1:=Nat.ne_of_lt (Nat.lt_succ_self _)
 refine ⟨by rw [ak ne,ag],Nat.zero_le _,ne,e2,fun _=>none,(Heap.Ns1.of_empty e3).at fun o q=>Heap.get?_push_of_some _ q,fun _=>True.intro,fun y hy=>absurd rfl hy⟩
theorem rP {prog:Program} {w:World} {env:Env} {e:Expr} {f:Str} {pos:Pos} {s:Shared} {Q:Value→Shared→Prop} (hb:attributeBase e f env (eval e env)=eval e env)
  (h:wpAny (model prog w) A (eval e env) (fun o s₁=>wpAny (model prog w) A (getAttr o f true) Q E s₁) E s):wpAny (model prog w) A (eval (.Attribute e f pos) env) Q E s:=
 Attribute_any_ h (by rw [arm_eval_Attribute,hb])
end
section
variable {X:Cx} {o e value:Expr} {f:Str} {pos pos' tpos:Pos} {ta tv:TE}
end
section
variable {X:Cx} {pins:List (Addr × Obj)} {σ:St} {H:Hp} {s:Shared} {A:Around} {E:Value→Shared→Prop} {Q:Value→Shared→Prop} {c:Value} {b:Bool}
inductive TyOf (K:PySem.W.Frag) (H:Hp):V→Value→Prop where
 | non:TyOf K H .non (.type "NoneType")
 | bl (x:Bool):TyOf K H (.bl x) (.type "bool")
 | int (i:Int):TyOf K H (.int i) (.type "int")
 | str (x:Str):TyOf K H (.str x) (.type "str")
 | flt (x:UInt64):TyOf K H (.flt x) (.type "float")
 | lst {a:Addr} {xs:List V} (e:H a=some (.lst xs)):TyOf K H (.ref a) (.type "list")
 | frz {a:Addr} {o:Obj} {xs:List V} (e:H a=some (.frz o (.lst xs))):TyOf K H (.ref a) (.type "list")
 | tup {a:Addr} {xs:List V} (e:H a=some (.tup xs)):TyOf K H (.ref a) (.type "tuple")
 | dK {a:Addr} {kvs:List (Key × V)} (e:H a=some (.dK kvs)):TyOf K H (.ref a) (.type "dict")
 | dT {a:Addr} {kvs:List (List Key × V)} (e:H a=some (.dT kvs)):TyOf K H (.ref a) (.type "dict")
 | ins {a C dx:Addr} {fs:List (Str × V)} (e:H a=some (.ins C dx fs)) (cl:Cls K C) (ha:PySem.W.findIn K (.ref C) "__class__"=some (some (.builtin "object.__class__")))
   (hn:PySem.W.specialIn K (.builtin "object.__class__") "__get__"=some (some (.builtin "getset_descriptor.__get__"))) (htk:PySem.W.takesIn K (.builtin "object.__class__")=some true)
   (hm:PySem.W.mroIn K C (.type "object")=some true):TyOf K H (.ref a) (.ref C)
theorem pB {x:V} {u t:Value} (I:Inv X pins σ H s) (rx:RelV x u) (ty:TyOf X.K H x t) (e:PySem.W.kitOne X.K t c=some b) (h:∀ tk,Q (.bool b) { s with toks:=tk }):
  wpAny (model X.prog X.w) A (call (.builtin "isinstance") [u,c]) Q E s:=by
 cases ty with
 | non=>cases (show u=Value.none from rx); exact PySem.W.kia_one PySem.W.kitx_none I.kIn True.intro e (fun z=>nomatch z) h
 | bl y=>cases (show u=Value.bool y from rx); exact PySem.W.kia_one PySem.W.kitx_bool I.kIn True.intro e (fun z=>nomatch z) h
 | int i=>obtain ⟨t,q⟩:=(show ∃ t,u=Value.int i t from rx); cases q; exact PySem.W.kia_one PySem.W.kitx_int I.kIn True.intro e (fun z=>nomatch z) h
 | str y=>obtain ⟨t,q⟩:=(show ∃ t,u=Value.str y t from rx); cases q; exact PySem.W.kia_one PySem.W.kitx_str I.kIn True.intro e (fun z=>nomatch z) h
 | flt y=>obtain ⟨t,q⟩:=(show ∃ t,u=Value.float y t from rx); cases q; exact PySem.W.kia_one PySem.W.kitx_float I.kIn True.intro e (fun z=>nomatch z) h
 | @lst a xs ea=>
  cases (show u=Value.ref a from rx)
  obtain ⟨_,_,n,_,h1⟩:=(show ObjOk X.prog X.w H s.heap a (.lst xs) from I.hok a _ ea)
  exact PySem.W.kia_one PySem.W.kitx_list I.kIn ⟨_,h1,rfl⟩ e (fun z=>nomatch z) h
 | @frz a ob xs ea=>
  cases (show u=Value.ref a from rx)
  obtain ⟨_,_,_,n,_,h1⟩:=(show ObjOk X.prog X.w H s.heap a (.frz ob (.lst xs)) from I.hok a _ ea)
  exact PySem.W.kia_one PySem.W.kitx_list I.kIn ⟨_,h1,rfl⟩ e (fun z=>nomatch z) h
 | @tup a xs ea=>
  cases (show u=Value.ref a from rx)
  obtain ⟨_,_,_,p⟩:=(show ObjOk X.prog X.w H s.heap a (.tup xs) from I.hok a _ ea)
  obtain ⟨o,h1,h2,_⟩:=p
  exact PySem.W.kia_one PySem.W.kitx_tuple I.kIn ⟨o,h1,h2⟩ e (fun z=>nomatch z) h
 | @dK a kvs ea=>
  cases (show u=Value.ref a from rx)
  obtain ⟨_,_,vs,_,p⟩:=(show ObjOk X.prog X.w H s.heap a (.dK kvs) from I.hok a _ ea)
  obtain ⟨o,es,ep,h1,h2,_⟩:=p
  exact PySem.W.kia_one PySem.W.kitx_dict I.kIn ⟨o,h1,h2.1⟩ e (fun z=>nomatch z) h
 | @dT a kvs ea=>
  cases (show u=Value.ref a from rx)
  obtain ⟨_,_,xs,_,o,es,ep,h1,h2,_⟩:=(show ObjOk X.prog X.w H s.heap a (.dT kvs) from I.hok a _ ea)
  exact PySem.W.kia_one PySem.W.kitx_dict I.kIn ⟨o,h1,h2.1⟩ e (fun z=>nomatch z) h
 | @ins a C dx fs ea cl ha hn htk hm=>
  cases (show u=Value.ref a from rx)
  obtain ⟨mA,O,_⟩:=gj I.hok ea
  obtain ⟨od,J,_⟩:=O.look
  exact PySem.W.kia_one (PySem.W.kitx_own (cl.get _) cl.hd ha hn htk hm) I.kIn J e (fun z=>nomatch z) h
end
end L2
namespace L2
open PySem PySem.Spec PyProof.Rows
structure Room (k:Nat) (A:Around):Prop where
 hd:A.handled=none
 dp:A.depth+3*k+5 < recursionLimit
 un:A.units+16*k+200 < cLine
theorem Room.mono {j k:Nat} {A:Around} (r:Room k A) (h:j≤k):Room j A:=⟨r.hd,by have:=r.dp; omega,by have:=r.un; omega⟩
theorem Room.deeper {k:Nat} {A:Around} (r:Room (k+1) A) (env:Env):Room k (A.deeper env):=
 ⟨r.hd,by have:=r.dp; show A.depth+1+3*k+5 < _; omega,by have:=r.un; show A.units+3+16*k+200 < _; omega⟩
theorem oO {A:Around} {C:Addr} {us:List Value} {kw:List (Str × Value)}:(A.under (.builtin "type.__call__" ⟨.ref C::us,kw⟩)).depth=A.depth+1:=by
 first | rfl | simp [Around.under,Code.weight,Code.isCreation,Code.isGuard,Code.isCaller,Code.frames,Code.isFrame,guardIds]
theorem oP {A:Around} {C:Addr} {us:List Value} {kw:List (Str × Value)}:(A.under (.builtin "type.__call__" ⟨.ref C::us,kw⟩)).units=A.units+1:=by
 first | rfl | simp [Around.under,Code.cUnits,Code.frames,Code.isFrame]
theorem Room.make {k:Nat} {A:Around} (r:Room (k+1) A) (C:Addr) (us:List Value) (kw:List (Str × Value)):Room k (A.under (.builtin "type.__call__" ⟨.ref C::us,kw⟩)):=
 ⟨r.hd,by have:=r.dp; rw [oO]; omega,by have:=r.un; rw [oP]; omega⟩
theorem Room.depth {k:Nat} {A:Around} (r:Room k A):A.depth < recursionLimit:=by have:=r.dp; omega
theorem Room.units {k:Nat} {A:Around} (r:Room k A):A.units+64 < cLine:=by have:=r.un; omega
def tNil:TA:=fun _ H Q=>Q [] H
def tCons (ta:TE) (tr:TA):TA:=fun σ H Q=>ta σ H fun x H1=>tr σ H1 fun xs H2=>Q (x::xs) H2
section
variable {X:Cx} {e:Expr} {es:List Expr} {te:TE} {t:TA} {pos:Pos}
theorem ac:PA X [] tNil:=fun _ _ _ _ H Q I h=>Calls.spliced_nil ⟨[],H,I,.nil,h⟩
theorem aa (ha:PE X e te) (hr:PA X es t) (hs:starEach (e::es) X.env=(false,eval e X.env)::starEach es X.env:=by rfl):PA X (e::es) (tCons te t):=by
 intro pos pins s σ H Q I h
 rw [hs]
 show wpAny _ _ (spliced ((false,eval e X.env)::backTo pos (starEach es X.env))) _ _ s
 refine Calls.spliced_cons (thn (ha pins s σ H _ I h) fun u s1 ⟨x,H1,I1,r1,q1⟩=>?_)
 exact thn (hr pos pins s1 σ H1 _ I1 q1) fun us s2 ⟨xs,H2,I2,r2,q2⟩=>⟨x::xs,H2,I2,.cons r1 r2,q2⟩
def tTup (t:TA):TE:=fun σ H Q=>t σ H fun xs H1=>xs.length≤sizeLine∧∀ p,H1 p=none→Q (.ref p) (upd H1 p (.tup xs))
def tLst (t:TA):TE:=fun σ H Q=>t σ H fun xs H1=>xs.length≤sizeLine∧∀ p,H1 p=none→Q (.ref p) (upd H1 p (.lst xs))
theorem bC {x1} (h:PA X es t):PE X (.Tuple es x1 pos) (tTup t):=by
 intro pins s σ H Q I hq
 refine wpAny_Tuple_spliced (thn (h pos pins s σ H _ I hq) fun us s1 ⟨xs,H1,I1,r,z,q⟩=>⟨by rw [← r.length]; exact z,?_⟩)
 have hf:H1 s1.heap.objs.size=none:=I1.hok.fresh (Nat.le_refl _)
 refine ⟨.ref s1.heap.objs.size,upd H1 s1.heap.objs.size (.tup xs),I1.laid (t':=s1.toks) (fun b u e=>Heap.get?_push_of_some _ e) (Nat.le_refl _) ?_,rfl,q _ hf⟩
 exact ⟨z,us,r,⟨_,Heap.get?_push_size _ rfl,rfl,_,rfl⟩⟩
theorem bN (h:PA X es t):PE X (.List es pos) (tLst t):=by
 intro pins s σ H Q I hq
 refine wpAny_List_spliced (thn (h pos pins s σ H _ I hq) fun us s1 ⟨xs,H1,I1,r,z,q⟩=>⟨by rw [← r.length]; exact z,?_⟩)
 have hf:H1 s1.heap.objs.size=none:=I1.hok.fresh (Nat.le_refl _)
 refine ⟨.ref s1.heap.objs.size,upd H1 s1.heap.objs.size (.lst xs),I1.laid (t':=s1.toks) (fun b u e=>Heap.get?_push_of_some _ e) (Nat.le_refl _) ?_,rfl,q _ hf⟩
 exact ⟨z,us,0,r,Heap.get?_push_size _ rfl⟩
end
abbrev Sp:=List V→Hp→VK→XK→Prop
abbrev CXT:=List Env→Hp→Shared→XK→Value→Shared→Prop
structure Env0 (P:Program) (w:World) (K:PySem.W.Frag) (mg:Str→Option Value) (base:Heap) (A:Around) (outer:List Env) (s:Shared) (H:Hp):Prop where
 frames:A.frames=some outer
 mod:Mod K mg base
 bs:∀ b o,base.get? b=some o→s.heap.get? b=some o∧H b=none
 bsz:base.objs.size≤s.heap.objs.size
 funs:s.heap.FunFrames base outer
 frf:∀ b∈frs outer,H b=none
 hok:HOk P w H s.heap
 bare:AllBare s.gens
def CE (outer:List Env) (P:Program) (w:World) (H:Hp) (s:Shared) (Q:VK) (u:Value) (s':Shared):Prop:=
 ∃ v H',s'.os=s.os∧AllBare s'.gens∧Un (frs outer) [] H H' s.heap s'.heap∧HOk P w H' s'.heap∧RelV v u∧Q v H'
def CR (CX:CXT) (outer:List Env) (P:Program) (w:World) (H:Hp) (s:Shared) (Q:VK) (E:XK) (r:Result) (s':Shared):Prop:=
 match r with
 | .ok (.ret u)=>CE outer P w H s Q u s'
 | .ok _=>False
 | .error e=>CX outer H s E e s'
structure FnOk (P:Program) (w:World) (K:PySem.W.Frag) (mg:Str→Option Value) (base:Heap) (CX:CXT) (k:Nat) (f:Addr) (fd:FuncData) (ps:List Str) (sp:Sp):Prop where
 len:∀ vs H Q E,sp vs H Q E→vs.length=ps.length
 run:∀ (A:Around) (outer:List Env) (s:Shared) (H:Hp) (args:Args) (us:List Value) (vs:List V) (Q:VK) (E:XK),Room k A→Env0 P w K mg base A outer s H→BindsTo s fd args (ps.zip us)→Vals vs us→sp vs H Q E→
  codeAny (model P w) A (.call (.ref f) args) (CR CX outer P w H s Q E) s
theorem FnOk.mono {P:Program} {w:World} {K:PySem.W.Frag} {mg:Str→Option Value} {base:Heap} {CX:CXT} {j k:Nat} {f:Addr} {fd:FuncData} {ps:List Str} {sp:Sp} (F:FnOk P w K mg base CX j f fd ps sp) (h:j≤k):
  FnOk P w K mg base CX k f fd ps sp:=⟨F.len,fun A outer s H args us vs Q E hr=>F.run A outer s H args us vs Q E (hr.mono h)⟩
theorem FnOk.imp {P:Program} {w:World} {K:PySem.W.Frag} {mg:Str→Option Value} {base:Heap} {CX:CXT} {k:Nat} {f:Addr} {fd:FuncData} {ps:List Str} {sp sp':Sp} (F:FnOk P w K mg base CX k f fd ps sp)
  (h:∀ vs H Q E,sp' vs H Q E→sp vs H Q E):FnOk P w K mg base CX k f fd ps sp':=
 ⟨fun vs H Q E q=>F.len vs H Q E (h _ _ _ _ q),fun A outer s H args us vs Q E hr he hb hv hs=>F.run A outer s H args us vs Q E hr he hb hv (h _ _ _ _ hs)⟩
theorem Env0.make {P:Program} {w:World} {K:PySem.W.Frag} {mg:Str→Option Value} {base:Heap} {A:Around} {outer:List Env} {s:Shared} {H:Hp} (e:Env0 P w K mg base A outer s H) (C:Addr) (us:List Value) (kw:List (Str × Value)):
  Env0 P w K mg base (A.under (.builtin "type.__call__" ⟨.ref C::us,kw⟩)) outer s H:=⟨by first | exact e.frames | (simpa [Around.under,Code.envs,Code.isFrame,pushEnvs] using e.frames),e.mod,e.bs,e.bsz,e.funs,e.frf,e.hok,e.bare⟩
section
variable {X:Cx} {pins:List (Addr × Obj)} {σ:St} {H:Hp} {s s':Shared}
theorem Inv.env0 (I:Inv X pins σ H s):Env0 X.prog X.w X.K X.mg X.base X.A X.stack s H:=
 ⟨I.ok.frames,I.ok.mod,I.bs,Nat.le_trans I.ok.bsz I.sz,I.stack,I.stkFree,I.hok,I.bare⟩
theorem Inv.after {Q:VK} {u:Value} (I:Inv X pins σ H s) (h:CE X.stack X.prog X.w H s Q u s'):EP X pins σ Q u s':=by
 obtain ⟨v,H',os,bare,un,hok,r,q⟩:=h
 obtain ⟨hh,g,d,t,os'⟩:=s'
 obtain rfl:os'=s.os:=os
 exact ⟨v,H',I.call (h':=hh) (g':=g) (d':=d) (t':=t) (ch:=[]) un hok bare (fun b z=>absurd z (by simp)),r,q⟩
end
def tCall (sp:Sp) (dvs:List V) (E:XK) (t:TA):TE:=fun σ H Q=>t σ H fun vs H1=>sp (vs++dvs) H1 Q E
def tMake (C:Addr) (sp:Sp) (dvs:List V) (E:XK) (t:TA):TE:=fun σ H Q=>t σ H fun vs H1=>∀ x dx,H1 x=none→H1 dx=none→dx≠x→
 sp (.ref x::(vs++dvs)) (upd (upd H1 dx (.own x)) x (.ins C dx [])) (fun v H2=>v=.non∧Q (.ref x) H2) E
def Binds (K:PySem.W.Frag) (fd:FuncData) (ps:List Str) (ds:List Value):Prop:=
 ∀ (s:Shared) (us:List Value),K.In s.heap→(us++ds).length=ps.length→BindsTo s fd ⟨us,[]⟩ (ps.zip (us++ds))
theorem Binds.all {K:PySem.W.Frag} {fd:FuncData} {ps:List Str} (h:∀ us:List Value,us.length=ps.length→bindArgs fd ⟨us,[]⟩=pure (ps.zip us)):Binds K fd ps []:=fun s us _ hl=>by
 rw [List.append_nil] at hl ⊢
 exact .of_eq (h us hl)
def eH (CX:CXT) (X:Cx) (E:XK):Prop:=∀ (pins:List (Addr × Obj)) (σ:St) (H:Hp) (s:Shared) (e:Value) (s':Shared),Inv X pins σ H s→CX X.stack H s E e s'→X.xe e s'
section
variable {X:Cx} {CX:CXT} {k:Nat} {f C:Addr} {fd:FuncData} {ps:List Str} {sp:Sp} {dvs:List V} {ds:List Value} {E:XK} {x m:Str} {p pos apos:Pos} {e o:Expr} {es:List Expr} {ta:TE} {t:TA}
theorem pC {pins:List (Addr × Obj)} {σ:St} {H:Hp} {s:Shared} {Q:VK} {us:List Value} {vs:List V} (F:FnOk X.prog X.w X.K X.mg X.base CX k f fd ps sp) (hr:Room k X.A) (hb:Binds X.K fd ps ds) (hd:Vals dvs ds) (hx:eH CX X E)
  (I:Inv X pins σ H s) (r:Vals vs us) (h:sp (vs++dvs) H Q E):wpAny (model X.prog X.w) X.A (call (.ref f) us) (EP X pins σ Q) X.xe s:=by
 have r2:Vals (vs++dvs) (us++ds):=r.append hd
 have hl:(us++ds).length=ps.length:=by rw [← r2.length]; exact F.len _ _ _ _ h
 refine wpAny_call (codeAny_mono (F.run X.A X.stack s H ⟨us,[]⟩ (us++ds) (vs++dvs) Q E hr I.env0 (hb s us I.kIn hl) r2 h) fun r s' hq=>?_)
 cases r with
 | error e=>exact hx pins σ H s e s' I hq
 | ok fl=>
  cases fl with
  | ret u=>exact I.after hq
  | next=>exact False.elim hq
  | brk=>exact False.elim hq
  | cont=>exact False.elim hq
theorem nU (F:FnOk X.prog X.w X.K X.mg X.base CX k f fd ps sp) (hr:Room k X.A) (hg:Gl X x) (hm:X.mg x=some (.ref f)) (hk:PySem.W.keepIn X.K (.ref f)=true) (hb:Binds X.K fd ps ds) (hd:Vals dvs ds) (hx:eH CX X E)
  (ha:PA X (e::es) t) (hdb:(x==("__debug__":Str))=false:=by decide) (he:starEach (e::es) X.env=(false,eval e X.env)::starEach es X.env:=by rfl) (hpl:(backTo pos (starEach es X.env)).any (·.1)=false:=by rfl):
  PE X (.Call (.Name x p) (e::es) [] pos) (tCall sp dvs E t):=by
 intro pins s σ H Q I h
 refine wpAny_Call_Name_kw (fh I hg hm ?_ hdb)
 refine PySem.W.callWith_K (h₀:=X.base) I.ok.mod.kin hk (thn (ha pos pins s σ H _ I h) fun us s1 ⟨vs,H1,I1,r,q⟩=>⟨I1.kIn,?_⟩) he hpl
 exact pC F hr hb hd hx I1 r q
structure Mk (K:PySem.W.Frag) (C f:Addr):Prop where
 makes:PySem.W.makesIn K C=true
 init:PySem.W.findIn K (.ref C) "__init__"=some (some (.ref f))
 fn:PySem.W.isFn K (.ref f)=true
 kp:PySem.W.keepIn K (.ref C)=true
theorem qB {pins:List (Addr × Obj)} {σ:St} {H:Hp} {s:Shared} {Q:VK} {us:List Value} {vs:List V} (M:Mk X.K C f) (F:FnOk X.prog X.w X.K X.mg X.base CX k f fd ps sp) (hr:Room (k+1) X.A) (hb:Binds X.K fd ps ds) (hd:Vals dvs ds)
  (hx:eH CX X E) (I:Inv X pins σ H s) (r:Vals vs us)
  (h:∀ x dx,H x=none→H dx=none→dx≠x→sp (.ref x::(vs++dvs)) (upd (upd H dx (.own x)) x (.ins C dx [])) (fun v H2=>v=.non∧Q (.ref x) H2) E):
  wpAny (model X.prog X.w) X.A (call (.ref C) us) (EP X pins σ Q) X.xe s:=by
 have hq:=h (s.heap.objs.size+1) s.heap.objs.size (I.hok.fresh (Nat.le_succ _)) (I.hok.fresh (Nat.le_refl _)) (Nat.ne_of_lt (Nat.lt_succ_self _))
 have I2:=Inv.made (C:=C) I
 have r2:Vals (V.ref (s.heap.objs.size+1)::(vs++dvs)) (Value.ref (s.heap.objs.size+1)::(us++ds)):=.cons rfl (r.append hd)
 have hl:(Value.ref (s.heap.objs.size+1)::us++ds).length=ps.length:=by
  have e:=r2.length
  rw [F.len _ _ _ _ hq] at e
  exact e.symm
 refine wpAny_call (qA (f:=f) I.kIn M.makes M.init (beq_iff_eq.mp M.fn) (codeAny_mono (F.run _ X.stack _ _ ⟨Value.ref (s.heap.objs.size+1)::us,[]⟩ (Value.ref (s.heap.objs.size+1)::(us++ds)) _ _ E (hr.make C us [])
  (I2.env0.make C us []) (hb _ (Value.ref (s.heap.objs.size+1)::us) I2.kIn hl) r2 hq) fun r s' hq'=>?_))
 cases r with
 | error e=>exact hx pins σ _ _ e s' I2 hq'
 | ok fl=>
  cases fl with
  | ret u=>
   obtain ⟨v,H',I3,rv,ev,q3⟩:=I2.after hq'
   subst ev
   exact ⟨rv,⟨V.ref (s.heap.objs.size+1),H',I3,rfl,q3⟩⟩
  | next=>exact False.elim hq'
  | brk=>exact False.elim hq'
  | cont=>exact False.elim hq'
theorem rQ (M:Mk X.K C f) (F:FnOk X.prog X.w X.K X.mg X.base CX k f fd ps sp) (hr:Room (k+1) X.A) (hg:Gl X x) (hm:X.mg x=some (.ref C)) (hb:Binds X.K fd ps ds) (hd:Vals dvs ds) (hx:eH CX X E)
  (ha:PA X (e::es) t) (hdb:(x==("__debug__":Str))=false:=by decide) (he:starEach (e::es) X.env=(false,eval e X.env)::starEach es X.env:=by rfl) (hpl:(backTo pos (starEach es X.env)).any (·.1)=false:=by rfl):
  PE X (.Call (.Name x p) (e::es) [] pos) (tMake C sp dvs E t):=by
 intro pins s σ H Q I h
 refine wpAny_Call_Name_kw (fh I hg hm ?_ hdb)
 refine PySem.W.callWith_K (h₀:=X.base) I.ok.mod.kin M.kp (thn (ha pos pins s σ H _ I h) fun us s1 ⟨vs,H1,I1,r,q⟩=>⟨I1.kIn,?_⟩) he hpl
 exact qB M F hr hb hd hx I1 r q
end
section
variable {X:Cx} {CX:CXT} {k:Nat} {f C:Addr} {fd:FuncData} {ps ks:List Str} {sp:Sp} {E:XK} {x m:Str} {p pos apos kpos:Pos} {e o:Expr} {es:List Expr} {kws:List Keyword} {te ta:TE} {t tk:TA} {nm:Option Str}
variable {g:List Value→List Value→List Value} {gV:List V→List V→List V}
end
structure ay (N P:List Str) (sc:Scope):Prop where
 kind:sc.kind=.function
 co:sc.isCoroutine=false
 gen:sc.isGenerator=false
 nd:N.Nodup
 pre:N.take P.length=P
 par:∀ x∈P,sc.names.lookup x=some .local∨sc.names.lookup x=some .cell
 nofree:∀ y∈sc.names,y.2≠.free
theorem kZ {kindOf:Str→Option NameKind} {x:Str}:∀ {binds:List (Str × Value)} {m:Str→Option Value},(∀ v,(x,v)∉binds)→bindL kindOf binds m x=m x
 | [],_,_=>rfl
 | (n,v)::r,m,h=>by
  unfold bindL
  rw [kZ fun w hw=>h w (List.mem_cons_of_mem _ hw)]
  split
  · have:x≠n:=by rintro rfl; exact h v List.mem_cons_self
    simp [this]
  · rfl
theorem k4 {kindOf:Str→Option NameKind} {x:Str}:∀ {binds:List (Str × Value)} {m:Str→Option Value},(∀ v,(x,v)∉binds)→bindC kindOf binds m x=m x
 | [],_,_=>rfl
 | (n,v)::r,m,h=>by
  unfold bindC
  rw [k4 fun w hw=>h w (List.mem_cons_of_mem _ hw)]
  split
  · rfl
  · have:x≠n:=by rintro rfl; exact h v List.mem_cons_self
    simp [this]
theorem k6 {kindOf:Str→Option NameKind} {x:Str} {v:Value}:∀ {P:List Str} {vs:List Value} {i:Nat} {m:Str→Option Value},P.Nodup→P[i]? =some x→vs[i]? =some v→kindOf x=some .local→
  bindL kindOf (P.zip vs) m x=some v
 | [],_,_,_,_,h,_,_=>by simp at h
 | _::_,[],_,_,_,_,h,_=>by simp at h
 | p::P,w::vs,0,m,nd,h1,h2,hk=>by
  simp at h1 h2; subst h1; subst h2
  show bindL kindOf ((p,w)::P.zip vs) m p=_
  unfold bindL
  rw [kZ fun v hv=>(List.nodup_cons.mp nd).1 (List.of_mem_zip hv).1,if_pos hk]
  simp
 | p::P,w::vs,i+1,m,nd,h1,h2,hk=>by
  show bindL kindOf ((p,w)::P.zip vs) m x=_
  unfold bindL
  exact k6 (i:=i) (List.nodup_cons.mp nd).2 (by simpa using h1) (by simpa using h2) hk
theorem k7 {kindOf:Str→Option NameKind} {x:Str} {v:Value}:∀ {P:List Str} {vs:List Value} {i:Nat} {m:Str→Option Value},P.Nodup→P[i]? =some x→vs[i]? =some v→kindOf x≠some .local→
  bindC kindOf (P.zip vs) m x=some v
 | [],_,_,_,_,h,_,_=>by simp at h
 | _::_,[],_,_,_,_,h,_=>by simp at h
 | p::P,w::vs,0,m,nd,h1,h2,hk=>by
  simp at h1 h2; subst h1; subst h2
  show bindC kindOf ((p,w)::P.zip vs) m p=_
  unfold bindC
  rw [k4 fun v hv=>(List.nodup_cons.mp nd).1 (List.of_mem_zip hv).1,if_neg hk]
  simp
 | p::P,w::vs,i+1,m,nd,h1,h2,hk=>by
  show bindC kindOf ((p,w)::P.zip vs) m x=_
  unfold bindC
  exact k7 (i:=i) (List.nodup_cons.mp nd).2 (by simpa using h1) (by simpa using h2) hk
def start (N:List Str) (vs:List V):St:=vs.map some++List.replicate (N.length - vs.length) none
def cxOf (CX:CXT) (P:Program) (w:World) (K:PySem.W.Frag) (mg:Str→Option Value) (base:Heap) (N:List Str) (qual:Str) (scope:Scope) (f:Addr) (cd:Value) (A:Around) (outer:List Env) (s:Shared) (H:Hp) (E:XK):Cx where
 prog:=P
 w:=w
 K:=K
 mg:=mg
 base:=base
 A:=A.deeper (envOfC qual scope s.heap.objs.size f cd)
 N:=N
 s₀:=s
 H₀:=H
 env:=envOfC qual scope s.heap.objs.size f cd
 outer:=outer
 stack:=envOfC qual scope s.heap.objs.size f cd::outer
 ex:=[]
 calm:=true
 fn:=fun _=>true
 pn:=[]
 xe:=fun e s'=>wpAny (model P w) (A.deeper (envOfC qual scope s.heap.objs.size f cd)) (leaving (envOfC qual scope s.heap.objs.size f cd) e) (fun _ s''=>CX outer H s E e s'') (fun e' s''=>CX outer H s E e' s'') s'
theorem gC {sc:Scope} {n:Nat} {x:Str} (h:sc.names.lookup x=some .cell):∃ c,(cellsFrom n sc.names []).lookup x=some c:=by
 have q:=PySem.W.cellsFrom_some sc.names n [] (.inl h)
 exact Option.isSome_iff_exists.mp q
theorem pD {CX:CXT} {P:Program} {w:World} {K:PySem.W.Frag} {mg:Str→Option Value} {base:Heap} {N ps:List Str} {qual:Str} {scope:Scope} {f:Addr} {cd:Value} {A:Around} {outer:List Env} {s s1:Shared} {H:Hp} {E:XK} {us:List Value} {vs:List V}
  (S:ay N ps scope) (hd:A.handled=none) (e0:Env0 P w K mg base A outer s H) (hl:vs.length=ps.length) (r:Vals vs us)
  (x:InCallC s s.heap.objs.size (bindL (envOfC qual scope s.heap.objs.size f cd).kindOf (ps.zip us) fun _=>none) (cellsFrom (s.heap.objs.size+1) scope.names []) (bindC (envOfC qual scope s.heap.objs.size f cd).kindOf (ps.zip us) fun _=>none) s1):
  Inv (cxOf CX P w K mg base N qual scope f cd A outer s H E) [] (start N vs) H s1:=by
 have hpl:ps.length≤N.length:=by have:=congrArg List.length S.pre; rw [List.length_take] at this; omega
 obtain ⟨h1,tk,rfl,hk⟩:=x.done
 have noA:∀ b:Addr,b∉(cxOf CX P w K mg base N qual scope f cd A outer s H E).ex:=fun b z=>absurd (show b∈([]:List Addr) from z) (by simp)
 refine ⟨⟨e0.mod,S.kind,rfl,rfl,Nat.le_refl _,fun y z c h1 h2=>?_,fun y hy=>?_,fun y c _ h=>?_,fun _=>hd,Around.frames_deeper e0.frames,.inr ⟨rfl,rfl⟩,fun b z=>absurd z (noA b),e0.bs,e0.bsz,fun b _ _=>noA b,fun b z=>absurd z (noA b),e0.funs,e0.frf⟩,
  rfl,e0.bare,Un.kept hk,⟨_,x.toInCall.ns,fun i y v h1 h2 h3=>?_⟩,fun y c h=>⟨_,x.cell y c h⟩,e0.hok.fresh (Nat.le_refl _),fun y c h=>?_,fun p hp=>absurd (show p∈([]:List (Addr × Obj)) from hp) (by simp),e0.hok.kept hk,?_⟩
 · exact name_of_addr x.apart (PySem.mem_of_lookup h1) (PySem.mem_of_lookup h2)
 · have hy:scope.names.lookup y=some .cell∨scope.names.lookup y=some .free:=hy
   rcases hy with hy | hy
   · exact gC hy
   · exact absurd rfl (S.nofree _ (PySem.mem_of_lookup hy))
 · exact Nat.le_of_lt (x.above y c (PySem.mem_of_lookup h))
 · have hi:i < vs.length:=by
    unfold start at h2
    by_cases hi:i < vs.length
    · exact hi
    · rw [List.getElem?_append_right (by simpa using hi)] at h2
      rw [List.getElem?_replicate] at h2
      split at h2 <;> cases h2
   have ha:vs[i]? =some v:=by
    unfold start at h2
    rw [List.getElem?_append_left (by simpa using hi),List.getElem?_map] at h2
    cases e:vs[i]? with
    | none=>rw [e] at h2; cases h2
    | some a=>rw [e] at h2; cases h2; rfl
   obtain ⟨u,hu,rv⟩:=r.get ha
   have hp:ps[i]? =some y:=by
    rw [← S.pre,List.getElem?_take_of_lt (by omega)]; exact h1
   have ndP:ps.Nodup:=by rw [← S.pre]; exact S.nd.sublist (List.take_sublist _ _)
   refine ⟨u,rv,?_⟩
   rcases S.par y (List.mem_of_getElem? hp) with k | k
   · exact .inl ⟨k,k6 ndP hp hu k⟩
   · obtain ⟨c,e⟩:=gC (n:=s.heap.objs.size+1) k
     refine .inr ⟨.inl k,c,e,?_⟩
     have q:=x.cell y c e
     rw [k7 ndP hp hu (by show scope.names.lookup y≠_; rw [k]; decide)] at q
     exact q
 · exact e0.hok.fresh (Nat.le_of_lt (x.above y c (PySem.mem_of_lookup h)))
 · unfold start
   show _=N.length
   rw [List.length_append,List.length_map,List.length_replicate]
   omega
theorem rg {CX:CXT} {P:Program} {w:World} {K:PySem.W.Frag} {mg:Str→Option Value} {base:Heap} {k:Nat} {f:Addr} {name qual:Str} {params:Arguments} {body:List Stmt} {scope:Scope} {dV kV doc pm cdv ct oc:Value} {an od:Option Addr}
  {osl:Array (Option Value)} {N ps:List Str} {sp:Sp} (lk:K.lookup f=some ⟨oc,od,.func (PySem.W.fnOf name qual params body scope dV kV doc pm an cdv ct),osl⟩) (hcd:PySem.W.codeIn K cdv qual=true) (S:ay N ps scope)
  (len:∀ vs H Q E,sp vs H Q E→vs.length=ps.length)
  (hbody:∀ (A:Around) (outer:List Env) (s:Shared) (H:Hp) (vs:List V) (Q:VK) (E:XK),Room k (A.deeper (envOfC qual scope s.heap.objs.size f cdv))→sp vs H Q E→
   ∃ t,PSs (cxOf CX P w K mg base N qual scope f cdv A outer s H E) body t∧t { nx:=fun _ H'=>Q .non H',rt:=Q } (start N vs) H):
  FnOk P w K mg base CX (k+1) f (PySem.W.fnOf name qual params body scope dV kV doc pm an cdv ct) ps sp:=by
 refine ⟨len,fun A outer s H args us vs Q E hr e0 hb r hsp=>?_⟩
 have hl:=len _ _ _ _ hsp
 have KX:K.In s.heap:=e0.mod.kin.keeps fun b o e=>(e0.bs b o e).1
 have lim:s.heap.NoLimit:=e0.mod.nolimit.keeps fun b o e=>(e0.bs b o e).1
 have hkind:∀ y∈ps.zip us,scope.names.lookup y.1=some .local∨(scope.names.lookup y.1=some .cell∧((cellsFrom (s.heap.objs.size+1) scope.names []).lookup y.1).isSome=true):=fun ⟨n,v⟩ hy=>by
  rcases S.par n (List.of_mem_zip hy).1 with q | q
  · exact .inl q
  · exact .inr ⟨q,PySem.W.cellsFrom_some _ _ _ (.inl q)⟩
 refine codeAny_call_function hr.depth (KX _ _ lk) rfl S.co S.gen rfl (PySem.W.codeRec_of KX hcd) (hb _ _ _ _ ?_)
 refine wpAny_newFunctionEnv_cells S.kind hkind fun env he s1 x=>?_
 subst he
 refine ⟨lim.keeps x.toInCall.keep,codeAny_func ?_⟩
 obtain ⟨t,ht,hq⟩:=hbody A outer s H vs Q E (hr.deeper _) hsp
 have I:Inv (cxOf CX P w K mg base N qual scope f cdv A outer s H E) [] (start N vs) H s1:=pD S hr.hd e0 hl r x
 refine wpAny_mono (ht [] s1 (start N vs) H _ I hq) (fun fl s' hs=>?_) fun e s' hs=>hs
 have fin:∀ {σ':St} {H':Hp} {v:V} {u:Value},Inv (cxOf CX P w K mg base N qual scope f cdv A outer s H E) [] σ' H' s'→RelV v u→Q v H'→CE outer P w H s Q u s':=
  fun {σ' H' v u} J rv q=>⟨v,H',J.os,J.bare,J.base,J.hok,rv,q⟩
 cases fl with
 | ret u=>
  obtain ⟨v,σ',H',J,rv,q⟩:=hs
  exact fin J rv q
 | next=>
  obtain ⟨σ',H',J,q⟩:=hs
  exact fin (v:=V.non) (u:=Value.none) J rfl q
 | brk=>
  obtain ⟨_,_,_,q⟩:=hs
  exact False.elim q
 | cont=>
  obtain ⟨_,_,_,q⟩:=hs
  exact False.elim q
end L2
namespace L2
open PySem PySem.Spec PyProof.Rows
section
variable {X:Cx} {x:Str} {p pos:Pos} {e:Expr} {es:List Expr} {t:TA} {id T:String} {r:List V→Hp→VK→Prop}
def tCB (r:List V→Hp→VK→Prop) (t:TA):TE:=fun σ H Q=>t σ H fun vs H1=>r vs H1 Q
theorem av (hc:CallR X (.builtin id) r) (hg:Gl X x) (hm:X.mg x=none) (hv:bootBuiltins x=some (.builtin id)) (ha:PA X (e::es) t) (hn:x≠"__name__":=by decide) (hdb:(x==("__debug__":Str))=false:=by decide)
  (he:starEach (e::es) X.env=(false,eval e X.env)::starEach es X.env:=by rfl) (hpl:(backTo pos (starEach es X.env)).any (·.1)=false:=by rfl):PE X (.Call (.Name x p) (e::es) [] pos) (tCB r t):=by
 intro pins s σ H Q I h
 refine wpAny_Call_Name_kw (dF I hg hm hv ?_ hn hdb)
 exact PyProof.Rows.callWith_builtin1 (thn (ha pos pins s σ H _ I h) fun us s1 ⟨vs,H1,I1,r1,q1⟩=>hc pins s1 σ H1 vs us Q I1 r1 q1) he hpl
theorem ck (hc:CallR X (.type T) r) (hg:Gl X x) (hm:X.mg x=none) (hv:bootBuiltins x=some (.type T)) (ha:PA X (e::es) t) (hn:x≠"__name__":=by decide) (hdb:(x==("__debug__":Str))=false:=by decide)
  (he:starEach (e::es) X.env=(false,eval e X.env)::starEach es X.env:=by rfl) (hpl:(backTo pos (starEach es X.env)).any (·.1)=false:=by rfl):PE X (.Call (.Name x p) (e::es) [] pos) (tCB r t):=by
 intro pins s σ H Q I h
 refine wpAny_Call_Name_kw (dF I hg hm hv ?_ hn hdb)
 exact PyProof.Rows.callWith_type1 (thn (ha pos pins s σ H _ I h) fun us s1 ⟨vs,H1,I1,r1,q1⟩=>hc pins s1 σ H1 vs us Q I1 r1 q1) he hpl
end
end L2
namespace HT
open PySem PyProof.Rows
section
open PySem.SeqAt
open PySem.AutoSeq1 (wpAny_loadPart')
open PySem.MeetsSeq PySem.MeetsSeq2 PySem.MeetsSeq3
end
section
variable {prog:Program} {w:World} {A:Around} {E:Value→Shared→Prop} {s:Shared}
def sIx (n d:Nat):Option Int→Nat
 | none=>d
 | some v=>if v < 0 then (v+(n:Int)).toNat else min v.toNat n
theorem sIx_nat (n d k:Nat):sIx n d (some (k:Int))=min k n:=by
 show (if (k:Int) < 0 then ((k:Int)+(n:Int)).toNat else min (k:Int).toNat n)=min k n
 rw [if_neg (by omega),Int.toNat_natCast]
end
end HT
namespace L2
open PySem PySem.Spec PyProof.Rows
abbrev TO:=St→Hp→(Option Int→Hp→Prop)→Prop
def PO (X:Cx) (e:Option Expr) (t:TO):Prop:=
 ∀ (pins:List (Addr × Obj)) (s:Shared) (σ:St) (H:Hp) (Q:Option Int→Hp→Prop),Inv X pins σ H s→t σ H Q→
  wpAny (model X.prog X.w) X.A (evalPart e X.env) (fun u s'=>∃ o H',Inv X pins σ H' s'∧IsPart u o∧Q o H') X.xe s
def bb:TO:=fun _ H Q=>Q none H
def tPart (t:TE):TO:=fun σ H Q=>t σ H fun x H1=>∃ i,x=.int i∧Q (some i) H1
theorem oQ {ns:List Int}:∀ {us:List Value},Vals (ns.map V.int) us→IntsAre us ns:=by
 induction ns with
 | nil=>intro us r; rw [List.map_nil] at r; cases r; exact .nil
 | cons n ns ih=>
  intro us r
  rw [List.map_cons] at r
  cases r with
  | cons r1 r2=>
   obtain ⟨t,e⟩:=r1
   subst e
   exact .cons n t (ih r2)
section
variable {X:Cx} {e:Expr} {te:TE} {lo hi:Option Expr} {tl th:TO} {pos p2:Pos}
theorem bp:PO X none bb:=by
 intro pins s σ H Q I h
 rw [evalPart_none]
 exact wpAny_pure ⟨none,H,I,.none,h⟩
theorem bq (h:PE X e te):PO X (some e) (tPart te):=by
 intro pins s σ H Q I hw
 rw [evalPart_some]
 refine thn (h pins s σ H _ I hw) fun u s1 ⟨x,H1,I1,r1,q1⟩=>?_
 obtain ⟨i,rfl,q⟩:=q1
 obtain ⟨t,rfl⟩:=r1
 exact ⟨some i,H1,I1,.int i t,q⟩
def SlR (X:Cx) (r:V→Option Int→Option Int→Hp→VK→Prop):Prop:=
 ∀ (pins:List (Addr × Obj)) (s:Shared) (σ:St) (H:Hp) (x:V) (v vl vu:Value) (lo hi:Option Int) (sl:Addr) (Q:VK),Inv X pins σ H s→RelV x v→s.heap.IsSliceOf sl vl vu .none→IsPart vl lo→IsPart vu hi→r x lo hi H Q→
  ∃ T id,typeLookup (.type T) "__getitem__"=pure (some (.builtin id))∧s.TypeIs v T∧wpAny (model X.prog X.w) X.A (getItem v (.ref sl)) (EP X pins σ Q) X.xe s
def tSl (r:V→Option Int→Option Int→Hp→VK→Prop) (te:TE) (tl th:TO):TE:=fun σ H Q=>te σ H fun x H1=>tl σ H1 fun l H2=>th σ H2 fun u H3=>r x l u H3 Q
theorem ba {r:V→Option Int→Option Int→Hp→VK→Prop} (hr:SlR X r) (he:PE X e te) (hl:PO X lo tl) (hu:PO X hi th):PE X (.Subscript e (.Slice lo hi none p2) pos) (tSl r te tl th):=by
 intro pins s σ H Q I h
 refine Subscript_ (thn (he pins s σ H _ I h) fun v s1 ⟨x,H1,I1,r1,q1⟩=>?_)
 refine wpAny_Slice (thn (hl pins s1 σ H1 _ I1 q1) fun vl s2 ⟨l,H2,I2,pl,q2⟩=>thn (hu pins s2 σ H2 _ I2 q2) fun vu s3 ⟨u,H3,I3,pu,q3⟩=>?_)
 rw [evalPart_none]
 refine wpAny_pure ?_
 have I4:Inv X pins σ H3 { s3 with heap:=s3.heap.push { cls:=.type "slice",data:=.fields #[vl,vu,.none] } }:=I3.kept (t':=s3.toks) fun b ob q=>Heap.get?_push_of_some _ q
 obtain ⟨T,id,hT,ht,hg⟩:=hr pins { s3 with heap:=s3.heap.push { cls:=.type "slice",data:=.fields #[vl,vu,.none] } } σ H3 x v vl vu l u s3.heap.objs.size Q I4 r1 (Heap.IsSliceOf.new ..) pl pu q3
 show wpAny (model X.prog X.w) X.A (subscriptTail e (.Slice lo hi none p2) v (.ref s3.heap.objs.size)) (EP X pins σ Q) X.xe { s3 with heap:=s3.heap.push { cls:=.type "slice",data:=.fields #[vl,vu,.none] } }
 exact tail_any (ops:=[.ref s3.heap.objs.size,v]) ht hT hg (by with_unfolding_all rfl)
def cutV (xs:List V) (lo hi:Option Int):List V:=(xs.drop (HT.sIx xs.length 0 lo)).take (HT.sIx xs.length xs.length hi - HT.sIx xs.length 0 lo)
theorem nH (xs:List V) (lo hi:Option Int):(cutV xs lo hi).length≤xs.length:=by
 unfold cutV
 rw [List.length_take,List.length_drop]
 omega
end
end L2
namespace L2
open PySem PySem.Spec PyProof.Rows
def ixN (n:Nat) (i:Int):Option Nat:=if 0≤i then (if i < n then some i.toNat else none) else if -(n:Int)≤i then some (i+n).toNat else none
def atI {α:Type} (xs:List α) (i:Int):Option α:=(ixN xs.length i).bind fun j=>xs[j]?
theorem rR {n:Nat} {i:Int} {j:Nat} (h:ixN n i=some j):seqIndex? i n=some j∧j < n∧ -(n:Int)≤i∧i < n:=by
 unfold ixN at h
 by_cases h0:0≤i
 · rw [if_pos h0] at h
   by_cases h1:i < n
   · rw [if_pos h1] at h
     have e:i.toNat=j:=Option.some.inj h
     exact ⟨by rw [seqIndex_of h0 h1,e],by omega,by omega,h1⟩
   · rw [if_neg h1] at h; cases h
 · rw [if_neg h0] at h
   by_cases h1: -(n:Int)≤i
   · rw [if_pos h1] at h
     have e:(i+n).toNat=j:=Option.some.inj h
     exact ⟨by rw [seqIndex_neg (by omega) h1,e],by omega,h1,by omega⟩
   · rw [if_neg h1] at h; cases h
theorem kn {α:Type} {xs:List α} {i:Int} {v:α} (h:atI xs i=some v):∃ j,seqIndex? i xs.length=some j∧xs[j]? =some v∧j < xs.length∧ -(xs.length:Int)≤i∧i < xs.length:=by
 unfold atI at h
 cases e:ixN xs.length i with
 | none=>rw [e] at h; cases h
 | some j=>
  rw [e] at h
  obtain ⟨h1,h2,h3,h4⟩:=rR e
  exact ⟨j,h1,h,h2,h3,h4⟩
theorem aN {α:Type} {xs:List α} {j:Nat} {v:α} (h:xs[j]? =some v):atI xs (j:Int)=some v:=by
 have hj:j < xs.length:=(List.getElem?_eq_some_iff.mp h).1
 have e:ixN xs.length (j:Int)=some j:=by
  unfold ixN
  rw [if_pos (by omega),if_pos (by omega)]; simp
 unfold atI; rw [e]; exact h
def rS (b:Expr):Prop:=∀ o i,subscripted b false o i=operate [o,i] (getItem o i)
def IxR (X:Cx) (r:R2):Prop:=
 ∀ (value slice:Expr) (pins:List (Addr × Obj)) (s:Shared) (σ:St) (H:Hp) (x y:V) (v u:Value) (Q:VK),Inv X pins σ H s→RelV x v→RelV y u→r x y H Q→
  subscripted slice false v u=operate [v,u] (getItem v u)→wpAny (model X.prog X.w) X.A (subscriptTail value slice v u) (EP X pins σ Q) X.xe s
def MtR (X:Cx) (id:String) (r:V→List V→Hp→VK→Prop):Prop:=
 ∀ (pins:List (Addr × Obj)) (s:Shared) (σ:St) (H:Hp) (x:V) (xs:List V) (v:Value) (us:List Value) (Q:VK),Inv X pins σ H s→RelV x v→Vals xs us→r x xs H Q→
  wpAny (model X.prog X.w) X.A (call (.builtin id) (v::us)) (EP X pins σ Q) X.xe s
section
variable {X:Cx} {a b:Expr} {ta tb:TE} {pos:Pos}
theorem aH {r:R2} (hr:IxR X r) (ha:PE X a ta) (hb:PE X b tb) (hs:rS b):PE X (.Subscript a b pos) (tOp r ta tb):=by
 intro pins s σ H Q I h
 exact Subscript_ (binT ha hb I h fun v u s2 x y H2 I2 rx ry q=>hr a b pins s2 σ H2 x y v u Q I2 rx ry q (hs _ _))
def rIxL (K:PySem.W.Frag):R2:=fun x y H Q=>∃ p xs i v,x=.ref p∧y=.int i∧SqL K H p xs∧atI xs i=some v∧Q v H
def rIxT (K:PySem.W.Frag):R2:=fun x y H Q=>∃ p xs i v,x=.ref p∧y=.int i∧SqT K H p xs∧atI xs i=some v∧Q v H
def rIxS:R2:=fun x y H Q=>∃ z i c,x=.str z∧y=.int i∧z.length≤sizeLine∧atI z.cps.toList i=some c∧Q (.str ⟨#[c]⟩) H
theorem nX:IxR X (rIxL X.K):=by
 intro value slice pins s σ H x y v u Q I rx ry h hs
 obtain ⟨p,xs,i,z,rfl,rfl,hq,he,q⟩:=h
 cases rx
 obtain ⟨t,rfl⟩:=ry
 obtain ⟨its,r,pl,hz⟩:=I.list hq
 obtain ⟨j,h1,h2,h3,h4,h5⟩:=kn he
 obtain ⟨w,ew,rw'⟩:=r.get h2
 have hl:=r.length
 have hn:=gX
 have fin:EP X pins σ Q w s:=⟨z,H,I,rw',q⟩
 by_cases h0:0≤i
 · have hj:i.toNat=j:=by
    rw [seqIndex_of h0 h5] at h1
    exact Option.some.inj h1
   exact item_listR pl.isList h0 (by omega) (by rw [hj]; simpa using ew) fin hs
 · have hj:(i+(its.toArray.size:Int)).toNat=j:=by
    rw [seqIndex_neg (by omega) h4] at h1
    rw [List.size_toArray,← hl]
    exact Option.some.inj h1
   exact subscriptTail_builtinR (x:=w) pl.isList.typeIs slot_list_getitem.lookup
    (wpAny_getItem_list_neg (Q:=fun r s'=>r=w∧EP X pins σ Q r s') pl.isList (by omega) (by rw [List.size_toArray] <;> omega) (by omega) (by rw [hj]; simpa using ew) ⟨rfl,fin⟩) hs
theorem tF:IxR X (rIxT X.K):=by
 intro value slice pins s σ H x y v u Q I rx ry h hs
 obtain ⟨p,xs,i,z,rfl,rfl,hq,he,q⟩:=h
 cases rx
 obtain ⟨t,rfl⟩:=ry
 obtain ⟨its,r,pl,hz⟩:=I.tuple hq
 obtain ⟨j,h1,h2,h3,h4,h5⟩:=kn he
 obtain ⟨w,ew,rw'⟩:=r.get h2
 have hl:=r.length
 have hn:=gX
 have fin:EP X pins σ Q w s:=⟨z,H,I,rw',q⟩
 exact subscriptTail_builtinR (x:=w) pl.typeIs slot_tuple_getitem.lookup
  (getItem_tuple (j:=j) (Q:=fun r s'=>r=w∧EP X pins σ Q r s') pl (by omega) (by omega) (by rw [List.size_toArray,← hl]; exact h1) (by simpa using ew) ⟨rfl,fin⟩) hs
theorem tG:IxR X rIxS:=by
 intro value slice pins s σ H x y v u Q I rx ry h hs
 obtain ⟨z,i,c,rfl,rfl,hz,he,q⟩:=h
 obtain ⟨t,rfl⟩:=rx
 obtain ⟨t',rfl⟩:=ry
 obtain ⟨j,h1,h2,h3,h4,h5⟩:=kn he
 have hl:z.cps.toList.length=z.length:=by simp [Str.length]
 rw [hl] at h1 h4 h5
 have hn:=gX
 exact tail_any (typeIs_str s z t) slot_str_getitem.lookup (getItem_str (c:=c) (by
  have e1:decide (i < -(2^63:Int))=false:=decide_eq_false (by omega)
  have e2:decide (i ≥ 2^63)=false:=decide_eq_false (by omega)
  rw [e1,e2,Bool.or_false]) (by rw [h1]; simpa using h2) ⟨.str ⟨#[c]⟩,H,I.tok _,⟨_,rfl⟩,q⟩) hs
theorem Inv.lst {pins:List (Addr × Obj)} {σ:St} {H:Hp} {s:Shared} {p:Addr} {xs:List V} (I:Inv X pins σ H s) (h:H p=some (.lst xs)):
  ∃ (its:List Value) (n:Nat),Vals xs its∧s.heap.get? p=some { cls:=.type "list",data:=.seq its.toArray n }∧xs.length≤sizeLine:=by
 obtain ⟨z,its,n,r,e⟩:=I.hok p _ h
 exact ⟨its,n,r,e,z⟩
theorem mi (lo hi:Option Int) (n:Nat):(sliceBounds lo hi none n).1=((HT.sIx n 0 lo:Nat):Int)∧(sliceBounds lo hi none n).2.1=((HT.sIx n n hi:Nat):Int)∧(sliceBounds lo hi none n).2.2=1:=by
 refine ⟨?_,?_,rfl⟩
 · cases lo with
   | none=>simp [sliceBounds,HT.sIx]
   | some i=>
    simp only [sliceBounds,HT.sIx,Option.getD_none,show (1:Int) > 0 by decide,if_true]
    by_cases h:i < 0
    · simp only [h,if_true] <;> omega
    · simp only [h,if_false] <;> omega
 · cases hi with
   | none=>simp [sliceBounds,HT.sIx]
   | some i=>
    simp only [sliceBounds,HT.sIx,Option.getD_none,show (1:Int) > 0 by decide,if_true]
    by_cases h:i < 0
    · simp only [h,if_true] <;> omega
    · simp only [h,if_false] <;> omega
theorem lD (its:List Value) (lo hi:Option Int):slicePick its.toArray lo hi none=((its.drop (HT.sIx its.length 0 lo)).take (HT.sIx its.length its.length hi - HT.sIx its.length 0 lo)).toArray:=by
 obtain ⟨h1,h2,h3⟩:=mi lo hi its.toArray.size
 unfold slicePick
 rw [h1,h2,h3]
 simp only [sliceRange_one,pick_run,List.size_toArray] <;> rfl
def rSlL (K:PySem.W.Frag):V→Option Int→Option Int→Hp→VK→Prop:=fun x lo hi H Q=>∃ a xs,x=.ref a∧SqL K H a xs∧∀ p,H p=none→Q (.ref p) (upd H p (.lst (cutV xs lo hi)))
theorem rT:SlR X (rSlL X.K):=by
 intro pins s σ H x v vl vu lo hi sl Q I rx hs pl pu h
 obtain ⟨a,xs,rfl,hx,q⟩:=h
 cases rx
 obtain ⟨its,r,ht,hz⟩:=I.list hx
 have hlen:=r.length
 refine ⟨"list",_,slot_list_getitem.lookup,ht.isList.typeIs,?_⟩
 refine wpAny_getItem_list_slice ht.isList hs pl pu .none (by simp) ?_ (by rw [List.size_toArray] <;> omega)
 rw [lD,← hlen]
 refine ⟨.ref s.heap.objs.size,_,I.laid (t':=s.toks) (o:=.lst (cutV xs lo hi)) (fun b ob q=>Heap.get?_push_of_some _ q) (Nat.le_refl _) ?_,rfl,q _ (I.hok.fresh (Nat.le_refl _))⟩
 exact ⟨Nat.le_trans (nH xs lo hi) hz,_,0,(r.drop (HT.sIx xs.length 0 lo)).take (HT.sIx xs.length xs.length hi - HT.sIx xs.length 0 lo),Heap.get?_push_size _ rfl⟩
def flatV:V→Bool
 | .non=>true
 | .bl _=>true
 | .int _=>true
 | .str _=>true
 | _=>false
def eqV:V→V→Bool
 | .non,.non=>true
 | .bl a,.bl b=>a==b
 | .bl a,.int b=>(if a then 1 else 0)==b
 | .int a,.bl b=>a==(if b then 1 else 0)
 | .int a,.int b=>a==b
 | .str a,.str b=>a==b
 | _,_=>false
theorem tH {A:Around} {s:Shared} {y x:V} {u v:Value} (ry:RelV y u) (rx:RelV x v) (fy:flatV y=true) (fx:flatV x=true):SeqAt.EqAt A s u v (eqV y x):=by
 cases y with
 | non=>
  cases ry
  cases x with
  | non=>cases rx; exact SeqAt.EqAt.same _
  | bl b=>cases rx; exact SeqAt.EqAt.none_bool b
  | int b=>obtain ⟨t,rfl⟩:=rx; exact SeqAt.EqAt.none_int b t
  | str b=>obtain ⟨t,rfl⟩:=rx; exact SeqAt.EqAt.none_str b t
  | _=>exact absurd (show false=true from fx) Bool.false_ne_true
 | bl a=>
  cases ry
  cases x with
  | non=>cases rx; exact SeqAt.EqAt.bool_none a
  | bl b=>cases rx; exact SeqAt.EqAt.bool_bool a b
  | int b=>obtain ⟨t,rfl⟩:=rx; exact SeqAt.EqAt.bool_int a b t
  | str b=>obtain ⟨t,rfl⟩:=rx; exact SeqAt.EqAt.bool_str a b t
  | _=>exact absurd (show false=true from fx) Bool.false_ne_true
 | int a=>
  obtain ⟨t',rfl⟩:=ry
  cases x with
  | non=>cases rx; exact SeqAt.EqAt.int_none a t'
  | bl b=>cases rx; exact SeqAt.EqAt.int_bool a t' b
  | int b=>obtain ⟨t,rfl⟩:=rx; exact SeqAt.EqAt.int_int a t' b t
  | str b=>obtain ⟨t,rfl⟩:=rx; exact SeqAt.EqAt.int_str a t' b t
  | _=>exact absurd (show false=true from fx) Bool.false_ne_true
 | str a=>
  obtain ⟨t',rfl⟩:=ry
  cases x with
  | non=>cases rx; exact SeqAt.EqAt.str_none a t'
  | bl b=>cases rx; exact SeqAt.EqAt.str_bool a t' b
  | int b=>obtain ⟨t,rfl⟩:=rx; exact SeqAt.EqAt.str_int a t' b t
  | str b=>obtain ⟨t,rfl⟩:=rx; exact SeqAt.EqAt.str_str a t' b t
  | _=>exact absurd (show false=true from fx) Bool.false_ne_true
 | _=>exact absurd (show false=true from fy) Bool.false_ne_true
def eqU (x:V) (u:Value):Bool:=match u with
 | .none=>eqV .non x
 | .bool b=>eqV (.bl b) x
 | .int i _=>eqV (.int i) x
 | .str z _=>eqV (.str z) x
 | _=>false
theorem pE {x y:V} {u:Value} (r:RelV y u) (f:flatV y=true):eqU x u=eqV y x:=by
 cases y with
 | non=>cases r; rfl
 | bl b=>cases r; rfl
 | int i=>obtain ⟨t,rfl⟩:=r; rfl
 | str z=>obtain ⟨t,rfl⟩:=r; rfl
 | _=>exact absurd (show false=true from f) Bool.false_ne_true
theorem gk {x:V}:∀ {xs:List V} {us:List Value},Vals xs us→xs.all flatV=true→us.any (eqU x)=xs.any fun y=>eqV y x
 | _,_,.nil,_=>rfl
 | y::xs,u::us,.cons r t,f=>by
  rw [List.all_cons,Bool.and_eq_true] at f
  rw [List.any_cons,List.any_cons,pE r f.1,gk t f.2]
theorem fm {A:Around} {s:Shared} {x:V} {v:Value} (rx:RelV x v) (fx:flatV x=true):∀ {xs:List V} {us:List Value},Vals xs us→xs.all flatV=true→∀ u∈us,SeqAt.EqAt A s u v (eqU x u)
 | _,_,.nil,_=>fun u hu=>by cases hu
 | y::xs,u::us,.cons r t,f=>fun u' hu=>by
  rw [List.all_cons,Bool.and_eq_true] at f
  rcases List.mem_cons.mp hu with rfl | hu
  · rw [pE r f.1]; exact tH r rx f.1 fx
  · exact fm rx fx t f.2 u' hu
def inV (x:V) (xs:List V):Bool:=xs.any fun y=>eqV y x
def rIn (K:PySem.W.Frag) (neg:Bool):R2:=fun x y H Q=>∃ p xs,y=.ref p∧(SqL K H p xs∨SqT K H p xs)∧flatV x=true∧xs.all flatV=true∧Q (.bl (if neg then !inV x xs else inV x xs)) H
theorem k8:OpR X (compareOp .In) (rIn X.K false):=by
 intro pins s σ H x y v u Q I rx ry h
 obtain ⟨p,xs,rfl,hq,fx,fs,q⟩:=h
 cases ry
 rcases hq with hq | hq
 · obtain ⟨its,r,pl,hz⟩:=I.list hq
   refine SeqAt.in_listAt (eqU x) pl.isList (fun w hw=>fm rx fx r fs w (by simpa using hw)) ⟨.bl _,H,I,rfl,?_⟩
   rw [show its.toArray.any (eqU x)=its.any (eqU x) by simp,gk r fs]
   exact q
 · obtain ⟨its,r,pl,hz⟩:=I.tuple hq
   refine SeqAt.in_tupleAt (eqU x) pl (fun w hw=>fm rx fx r fs w (by simpa using hw)) ⟨.bl _,H,I,rfl,?_⟩
   rw [show its.toArray.any (eqU x)=its.any (eqU x) by simp,gk r fs]
   exact q
theorem gZ:OpR X (compareOp .NotIn) (rIn X.K true):=by
 intro pins s σ H x y v u Q I rx ry h
 obtain ⟨p,xs,rfl,hq,fx,fs,q⟩:=h
 cases ry
 rcases hq with hq | hq
 · obtain ⟨its,r,pl,hz⟩:=I.list hq
   refine SeqAt.notIn_listAt (eqU x) pl.isList (fun w hw=>fm rx fx r fs w (by simpa using hw)) ⟨.bl _,H,I,rfl,?_⟩
   rw [show its.toArray.any (eqU x)=its.any (eqU x) by simp,gk r fs]
   exact q
 · obtain ⟨its,r,pl,hz⟩:=I.tuple hq
   refine SeqAt.notIn_tupleAt (eqU x) pl (fun w hw=>fm rx fx r fs w (by simpa using hw)) ⟨.bl _,H,I,rfl,?_⟩
   rw [show its.toArray.any (eqU x)=its.any (eqU x) by simp,gk r fs]
   exact q
theorem mj:OpR X (compareOp .NotIn) (fun x y H Q=>∃ i j,x=.str i∧y=.str j∧Q (.bl (!(!(Builtin.Str.occurrences j i 0 j.length 1).isEmpty))) H):=by
 intro pins s σ H x y v u Q I rx ry h
 obtain ⟨i,j,rfl,rfl,q⟩:=h
 obtain ⟨t,rfl⟩:=rx
 obtain ⟨t',rfl⟩:=ry
 exact notIn_str ⟨.bl _,H,I,rfl,q⟩
theorem cm:CallR X (.builtin "len") (fun xs H Q=>∃ p ys,xs=[.ref p]∧(SqL X.K H p ys∨SqT X.K H p ys)∧Q (.int ys.length) H):=by
 intro pins s σ H xs us Q I r h
 obtain ⟨p,ys,rfl,hq,q⟩:=h
 obtain ⟨u,rfl,rx⟩:=cg r
 cases rx
 have hn:=gX
 rcases hq with hq | hq
 · obtain ⟨its,r',pl,hz⟩:=I.list hq
   have hlen:=r'.length
   exact Calls.call_len_list pl.isList (by simp only [List.size_toArray] <;> omega) ⟨.int ys.length,H,I.tok _,⟨s.toks+1,by rw [List.size_toArray,hlen]⟩,q⟩
 · obtain ⟨its,r',pl,hz⟩:=I.tuple hq
   have hlen:=r'.length
   exact len_tuple pl (by simp only [List.size_toArray] <;> omega) ⟨.int ys.length,H,I.tok _,⟨s.toks+1,by rw [List.size_toArray,hlen]⟩,q⟩
theorem ml:CallR X (.builtin "len") (fun xs H Q=>∃ z,xs=[.str z]∧z.length≤sizeLine∧Q (.int z.length) H):=by
 intro pins s σ H xs us Q I r h
 obtain ⟨z,rfl,hz,q⟩:=h
 obtain ⟨u,rfl,t,rfl⟩:=cg r
 have hn:=gX
 exact len_str (by omega) ⟨.int z.length,H,I.tok _,⟨_,rfl⟩,q⟩
theorem mm:CallR X (.type "list") (fun xs H Q=>∃ p ys,xs=[.ref p]∧(SqL X.K H p ys∨SqT X.K H p ys)∧∀ l,H l=none→Q (.ref l) (upd H l (.lst ys))):=by
 intro pins s σ H xs us Q I r h
 obtain ⟨p,ys,rfl,hq,q⟩:=h
 obtain ⟨u,rfl,rx⟩:=cg r
 cases rx
 have fin:∀ (its:List Value),Vals ys its→ys.length≤sizeLine→∀ (h':Heap) (c':Nat),(∀ b o',s.heap.get? b=some o'→h'.get? b=some o')→
   h'.get? s.heap.objs.size=some { cls:=.type "list",dict:=none,data:=.seq its.toArray c',slots:=#[] }→EP X pins σ Q (.ref s.heap.objs.size) { s with heap:=h' }:=fun its r' hz h' c' kp e=>
  ⟨.ref s.heap.objs.size,_,I.laid (t':=s.toks) kp (Nat.le_refl _) (show ObjOk X.prog X.w _ h' _ (.lst ys) from ⟨hz,its,c',r',e⟩),rfl,q _ (I.hok.fresh (Nat.le_refl _))⟩
 rcases hq with hq | hq
 · obtain ⟨its,r',pl,hz⟩:=I.list hq
   have hlen:=r'.length
   obtain ⟨o,ho,hc,n,hd⟩:=pl.isList
   exact call_list_seq p (.inl rfl) ho hc hd (fun h' c' kp e=>fin its r' hz h' c' kp e) (by simp only [List.size_toArray] <;> omega)
 · obtain ⟨its,r',pl,hz⟩:=I.tuple hq
   have hlen:=r'.length
   obtain ⟨o,ho,hc,n,hd⟩:=pl
   exact call_list_seq p (.inr rfl) ho hc hd (fun h' c' kp e=>fin its r' hz h' c' kp e) (by simp only [List.size_toArray] <;> omega)
theorem lE:CallR X (.type "tuple") (fun xs H Q=>∃ p ys,xs=[.ref p]∧((SqL X.K H p ys∧∀ l,H l=none→Q (.ref l) (upd H l (.tup ys)))∨(SqT X.K H p ys∧Q (.ref p) H))):=by
 intro pins s σ H xs us Q I r h
 obtain ⟨p,ys,rfl,h⟩:=h
 obtain ⟨u,rfl,rx⟩:=cg r
 cases rx
 rcases h with ⟨hq,q⟩ | ⟨hq,q⟩
 · obtain ⟨its,r',pl,hz⟩:=I.list hq
   have hlen:=r'.length
   refine call_tuple_list pl.isList (fun h' kp=>?_) (by simp only [List.size_toArray] <;> omega)
   have I1:Inv X pins σ H { s with heap:=h' }:=I.kept (t':=s.toks) kp
   have I2:Inv X pins σ (upd H h'.objs.size (.tup ys)) { s with heap:=h'.push { cls:=.type "tuple",data:=.seq its.toArray } }:=
    I1.laid (t':=s.toks) (fun b o e=>Heap.get?_push_of_some _ e) (Nat.le_refl _) (show ObjOk X.prog X.w _ _ _ (.tup ys) from ⟨hz,its,r',IsTup.new _ _⟩)
   exact ⟨.ref h'.objs.size,_,I2,rfl,q _ (I1.hok.fresh (Nat.le_refl _))⟩
 · obtain ⟨its,r',pl,hz⟩:=I.tuple hq
   exact call_tuple_same pl ⟨.ref p,H,I,rfl,q⟩
def tyV (K:PySem.W.Frag) (T:String) (x:V) (H:Hp):Prop:=match x with
 | .str _=>T="str"
 | .int _=>T="int"
 | .ref p=>(T="list"∧∃ xs,SqL K H p xs)∨(T="tuple"∧∃ o,K.lookup p=some o∧o.cls=.type "tuple"∧o.dict=none)∨
   (T="dict"∧((∃ kvs,H p=some (.dK kvs))∨∃ kvs,H p=some (.dT kvs)))∨(T="set"∧∃ S n,H p=some (.set S n))
 | _=>False
theorem pF {pins:List (Addr × Obj)} {σ:St} {H:Hp} {s:Shared} {T:String} {x:V} {v:Value} (I:Inv X pins σ H s) (r:RelV x v) (ty:tyV X.K T x H):
  s.TypeIs v T∧∀ a,v=.ref a→∃ ob,s.heap.get? a=some ob∧ob.dict=none:=by
 cases x with
 | str z=>
  obtain ⟨t,rfl⟩:=r
  cases (show T="str" from ty)
  exact ⟨typeIs_str s z t,fun _ e=>nomatch e⟩
 | int i=>
  obtain ⟨t,rfl⟩:=r
  cases (show T="int" from ty)
  exact ⟨typeIs_int s i t,fun _ e=>nomatch e⟩
 | ref p=>
  cases r
  rcases ty with ⟨rfl,xs,hq⟩ | ⟨rfl,o,hk,hc,hd⟩ | ⟨rfl,hk⟩ | ⟨rfl,S,n,hk⟩
  · obtain ⟨its,_,pl,_⟩:=I.list hq
    refine ⟨pl.isList.typeIs,fun a e=>?_⟩
    cases e
    obtain ⟨o,n,e,c,hd,_⟩:=pl
    exact ⟨o,e,hd⟩
  · refine ⟨⟨o,I.kIn p o hk,hc⟩,fun a e=>?_⟩
    cases e
    exact ⟨o,I.kIn _ o hk,hd⟩
  · have z:∃ o,s.heap.get? p=some o∧o.ExactDict:=by
     rcases hk with ⟨kvs,hk⟩ | ⟨kvs,hk⟩
     · obtain ⟨_,_,_,_,o,_,_,e,ex,_⟩:=I.hok p _ hk
       exact ⟨o,e,ex⟩
     · obtain ⟨_,_,_,_,o,_,_,e,ex,_⟩:=I.hok p _ hk
       exact ⟨o,e,ex⟩
    obtain ⟨o,e,ex⟩:=z
    refine ⟨⟨o,e,ex.1⟩,fun a e2=>?_⟩
    cases e2
    exact ⟨o,e,ex.2.1⟩
  · obtain ⟨o,_,_,_,e,ex,_⟩:=I.hok p _ hk
    refine ⟨⟨o,e,ex.1⟩,fun a e2=>?_⟩
    cases e2
    exact ⟨o,e,ex.2.1⟩
 | _=>exact False.elim ty
def qC (K:PySem.W.Frag) (T:String) (r:V→List V→Hp→VK→Prop) (to:TE):TE:=fun σ H Q=>to σ H fun x H1=>tyV K T x H1∧r x [] H1 Q
def tBM (K:PySem.W.Frag) (T:String) (r:V→List V→Hp→VK→Prop) (to:TE) (t:TA):TE:=fun σ H Q=>to σ H fun x H1=>tyV K T x H1∧t σ H1 fun xs H2=>r x xs H2 Q
variable {o e:Expr} {es:List Expr} {to:TE} {t:TA} {name:Str} {apos cpos:Pos} {T id:String} {r:V→List V→Hp→VK→Prop}
theorem tI (pa:PlainAttrs T) (slot:Slot T name id) (hty:typeOf (.builtin id)=pure (.type "method_descriptor")) (hm:MtR X id r) (ho:PE X o to)
  (hbase:attributeBase o name X.env (eval o X.env)=eval o X.env:=by rfl) (hline:(apos.endLine==cpos.line)=true:=by rfl):PE X (.Call (.Attribute o name apos) [] [] cpos) (qC X.K T r to):=by
 intro pins s σ H Q I h
 refine wpAny_Call_method0_late hbase hline (thn (ho pins s σ H _ I h) fun v s1 ⟨x,H1,I1,r1,ty,q1⟩=>?_)
 obtain ⟨h1,h2⟩:=pF I1 r1 ty
 exact ⟨T,id,pa,slot,hty,h1,h2,Calls.callWith_builtin rfl (PySem.evalArgs_none (hm pins s1 σ H1 x [] v [] Q I1 r1 .nil q1))⟩
theorem cY (pa:PlainAttrs T) (slot:Slot T name id) (hty:typeOf (.builtin id)=pure (.type "method_descriptor")) (hm:MtR X id r) (ho:PE X o to) (ha:PA X (e::es) t)
  (hbase:attributeBase o name X.env (eval o X.env)=eval o X.env:=by rfl)
  (hfew:((backTo cpos (starEach (e::es) X.env)).all (fun x=>!x.1)&&(backToKw cpos (keywordEach [] X.env)).all (fun x=>x.1.isSome)
   &&decide ((e::es).length+([]:List Keyword).length+(if ([]:List Keyword).isEmpty then 0 else 1) < 30))=true:=by rfl)
  (hline:(apos.endLine==cpos.line)=true:=by rfl) (hs:starEach (e::es) X.env=(false,eval e X.env)::starEach es X.env:=by rfl) (hplain:(backTo cpos (starEach es X.env)).any (·.1)=false:=by rfl):
  PE X (.Call (.Attribute o name apos) (e::es) [] cpos) (tBM X.K T r to t):=by
 intro pins s σ H Q I h
 refine wpAny_Call_method_late hbase hfew hline rfl (thn (ho pins s σ H _ I h) fun v s1 ⟨x,H1,I1,r1,ty,q1⟩=>?_)
 obtain ⟨h1,h2⟩:=pF I1 r1 ty
 refine ⟨T,id,pa,slot,hty,h1,h2,?_⟩
 have hA:=ha cpos pins s1 σ H1 _ I1 q1
 rw [hs] at hA ⊢
 refine Calls.callWith_builtin (by show (false||(backTo cpos (starEach es X.env)).any (·.1))=false; rw [hplain] <;> rfl) (Calls.evalArgs_plain ?_)
 exact thn hA fun us s2 ⟨vs,H2,I2,r2,q2⟩=>hm pins s2 σ H2 x vs v us Q I2 r1 r2 q2
end
end L2
namespace L2
open PySem PySem.Spec PyProof.Rows
def MtM (X:Cx) (id:String) (r:V→List V→Hp→VK→Prop):Prop:=
 ∀ (pins:List (Addr × Obj)) (s:Shared) (σ:St) (H:Hp) (x:V) (xs:List V) (v:Value) (us:List Value) (Q:VK),Inv X pins σ H s→RelV x v→Vals xs us→r x xs H Q→
  wpAny (model X.prog X.w) X.A (call (.builtin id) (v::us)) (EP X pins σ Q) X.xe s
theorem Vals.one:∀ {x:V} {us:List Value},Vals [x] us→∃ u,us=[u]∧RelV x u
 | _,_,.cons r .nil=>⟨_,rfl,r⟩
theorem Vals.eraseIdx:∀ {xs:List V} {us:List Value} (i:Nat),Vals xs us→Vals (xs.eraseIdx i) (us.eraseIdx i)
 | _,_,_,.nil=>.nil
 | _,_,0,.cons _ t=>t
 | _,_,i+1,.cons r t=>.cons r (Vals.eraseIdx i t)
theorem k9 {α:Type}:∀ (l:List α) (i:Nat),(l.eraseIdx i).length≤l.length
 | [],_=>Nat.le_refl _
 | _::_,0=>Nat.le_succ _
 | _::r,i+1=>Nat.succ_le_succ (k9 r i)
section
variable {X:Cx} {pins:List (Addr × Obj)} {σ:St} {H:Hp} {s:Shared} {l b:Addr} {xs ys zs:List V}
theorem Inv.lset {its its':List Value} {n:Nat} {f:Array Value→Array Value} {t':Nat} (I:Inv X pins σ H s) (hH:H l=some (.lst xs))
  (e:s.heap.get? l=some { cls:=.type "list",data:=.seq its.toArray n }) (hf:f its.toArray=its'.toArray) (hv:Vals ys its') (hz:ys.length≤sizeLine):
  Inv X pins σ (upd H l (.lst ys)) { s with heap:=s.heap.update l (Obj.mapSeq f),toks:=t' }:=by
 have q:=PySem.IsL.update e f
 rw [hf] at q
 refine I.write (x:=l) (e:=l) (by rw [hH]; exact trivial) (.inl rfl) (fun b' u hb hu=>(Heap.get?_update_other s.heap (Obj.mapSeq f) (Ne.symm hb)).trans hu) ⟨_,q⟩ ?_
 exact ⟨hz,its',_,hv,q⟩
theorem Inv.lnew {its:List Value} {t':Nat} (I:Inv X pins σ H s) (hv:Vals ys its) (hz:ys.length≤sizeLine):
  Inv X pins σ (upd H s.heap.objs.size (.lst ys)) { s with heap:=s.heap.push { cls:=.type "list",data:=.seq its.toArray },toks:=t' }:=
 I.laid (fun _ _ q=>Heap.get?_push_of_some _ q) (Nat.le_refl _) ⟨hz,its,0,hv,Heap.get?_push_size _ rfl⟩
theorem Inv.fresh (I:Inv X pins σ H s):H s.heap.objs.size=none:=I.hok.fresh (Nat.le_refl _)
theorem Inv.lstM (I:Inv X pins σ H s) (hH:H l=some (.lst xs)):xs.length≤sizeLine∧∃ (its:List Value) (n:Nat),Vals xs its∧xs.length=its.length∧s.heap.get? l=some { cls:=.type "list",data:=.seq its.toArray n }:=by
 obtain ⟨z,its,n,r,e⟩:=I.hok l _ hH
 exact ⟨z,its,n,r,r.length,e⟩
end
section
variable {X:Cx}
def rV:V→List V→Hp→VK→Prop:=fun x vs H Q=>∃ l xs y,x=.ref l∧vs=[y]∧H l=some (.lst xs)∧xs.length < sizeLine∧Q .non (upd H l (.lst (xs++[y])))
theorem la:MtM X "list.append" rV:=by
 intro pins s σ H x vs v us Q I rx rv h
 obtain ⟨l,xs,y,rfl,rfl,hH,hz,q⟩:=h
 cases rx
 obtain ⟨u,rfl,ru⟩:=rv.one
 obtain ⟨z,its,n,r,hl,e⟩:=I.lstM hH
 refine call_meets F.slot_list_append ⟨_,e,rfl⟩ F.entry_list_append (F.args_list_append_2 _ _) (PySem.list_append l its.toArray n u (by rw [List.size_toArray]; omega)) ⟨e,?_⟩
 refine ⟨.non,_,I.lset (its':=its++[u]) hH e (by simp) (r.append (.cons ru .nil)) ?_,rfl,q⟩
 rw [List.length_append,List.length_singleton]
 omega
def tJ:V→List V→Hp→VK→Prop:=fun x vs H Q=>∃ l xs i k y,x=.ref l∧vs=[.int i]∧H l=some (.lst xs)∧ -(2^63)≤i∧i < 2^63∧seqIndex? i xs.length=some k∧xs[k]? =some y∧Q y (upd H l (.lst (xs.eraseIdx k)))
theorem qD:MtM X "list.pop" tJ:=by
 intro pins s σ H x vs v us Q I rx rv h
 obtain ⟨l,xs,i,k,y,rfl,rfl,hH,h1,h2,hk,hy,q⟩:=h
 cases rx
 obtain ⟨u,rfl,ru⟩:=rv.one
 obtain ⟨t,rfl⟩:=ru
 obtain ⟨z,its,n,r,hl,e⟩:=I.lstM hH
 obtain ⟨w,hw,rw'⟩:=r.get hy
 refine call_meets F.slot_list_pop ⟨_,e,rfl⟩ F.entry_list_pop (F.args_list_pop_2 _ _)
  (MeetsSeq.list_pop_at l its.toArray n i t k w (fitsIndex_both h1 h2) (by rw [List.size_toArray,← hl]; exact hk) (by rw [← Array.getElem?_toList]; exact hw) (by rw [List.size_toArray]; omega)) ⟨e,?_⟩
 refine ⟨y,_,I.lset (its':=its.eraseIdx k) hH e ?_ (r.eraseIdx k) ?_,rw',q⟩
 · show its.toArray.eraseIdxIfInBounds k=(its.eraseIdx k).toArray
   rw [List.eraseIdxIfInBounds_toArray]
 · have:=k9 xs k
   omega
def rCat:R2:=fun x y H Q=>∃ l b xs zs,x=.ref l∧y=.ref b∧H l=some (.lst xs)∧H b=some (.lst zs)∧xs.length+zs.length≤sizeLine∧∀ p,H p=none→Q (.ref p) (upd H p (.lst (xs++zs)))
theorem tK:OpR X (binaryOp .Add) rCat:=by
 intro pins s σ H x y v u Q I rx ry h
 obtain ⟨l,b,xs,zs,rfl,rfl,hH,hB,hz,q⟩:=h
 cases rx
 cases ry
 obtain ⟨z,its,n,r,hl,e⟩:=I.lstM hH
 obtain ⟨z2,its2,n2,r2,hl2,e2⟩:=I.lstM hB
 refine PySem.P.add_list e e2 ?_ (by rw [List.size_toArray,List.size_toArray]; omega)
 have ea:its.toArray++its2.toArray=(its++its2).toArray:=by simp
 rw [ea]
 exact ⟨.ref _,_,I.lnew (t':=s.toks) (r.append r2) (by rw [List.length_append]; omega),rfl,q _ I.fresh⟩
end
end L2
namespace Att
open PySem PySem.W PySem.Calls PyProof.Rows
theorem ints_of_wellAll {P:Params} {h:Heap}:∀ (ns:List Int) (vs:List Value),WellAll P h vs (ns.map WData.int)→IntsAre vs ns:=by
 intro ns
 induction ns with
 | nil=>
  intro vs w
  rw [List.map_nil] at w
  cases w
  exact .nil
 | cons n ns ih=>
  intro vs w
  rw [List.map_cons] at w
  cases w with
  | cons a b=>
   cases a
   exact .cons _ _ (ih _ b)
theorem script_of {l:OpenLaw} {n:Nat} (hn:l.most=some n) {P:Params} {h:Heap} {args:List WData} {vals:List Value}
  (hpre:l.row.toRowW.claim.pre args=true) (hwl:WellAll P h vals args):
  ∃ a vs ns,vals=[Value.ref a]∧args=[WData.list (ns.map WData.int)]∧h.get? a=some { cls:=.type "list",data:=.seq vs.toArray }∧IntsAre vs ns∧ns.length≤n:=by
 have hsh:WShape.hasAll [] args [.list .int]=true:=(pre_splitW hpre).1
 have hc:l.pre.holds [] { args:=args }=true:=(pre_splitW hpre).2
 obtain ⟨d,r,rfl,h1,h2⟩:=hasAllW_cons hsh
 obtain rfl:=hasAllW_nil h2
 obtain ⟨xs,rfl,h3⟩:=hasW_list h1
 obtain ⟨ns,rfl⟩:=items_int h3
 have hlen:ns.length≤n:=by
  unfold OpenLaw.pre at hc
  have h4:(WTm.not (.lt (.lit (.int (n:Int))) (.len (.arg 0)))).holds [] { args:=[.list (ns.map .int)] }=true:=by
   have h4:=(holds_andW hc).1
   rw [hn] at h4
   exact h4
  have h5:=condW_of h4 (w_not (w_lt w_lit (w_len_list (w_arg rfl))))
  rw [List.length_map] at h5
  refine Nat.le_of_not_lt fun q=>?_
  have q':(n:Int) < ((ns.length:Nat):Int):=by omega
  first
   | (rw [decide_eq_true q'] at h5; exact absurd h5 (by decide))
   | (simp at h5; omega)
 cases hwl with
 | cons w1 w2=>
  cases w2
  cases w1 with
  | list ho hall=>exact ⟨_,_,ns,rfl,rfl,ho,ints_of_wellAll ns _ hall,hlen⟩
theorem post_true (l:OpenLaw) (args:List WData):l.row.toRowW.claim.post args (.bool true) args=true:=
 postW_of (r:=l.row.toRowW) (X:=(true==true))
  (show WShape.has [] (.bool true) .bool=true by first | rfl | decide | simp [WShape.has,WShape.arms,WShape.armsAll])
  (show (WTm.eq .res (.lit (.bool true))).value [] { args:=args,res:=some (.bool true),after:=args }=some (.bool (true==true)) from w_eq_bool (w_res rfl) w_lit) rfl
theorem attach_call {l:OpenLaw} {n:Nat} {q:Program} {loose:List Str} {XP:(Str→Option Value)→Heap→Prop} {YP:World→Heap→Prop} {d:DefRec}
  (hn:l.most=some n) (hdf:d.params.defaults=[])
  (call:∀ (w:World) (s₀ s₁:Shared) (mg mb:Str→Option Value) (fa:Addr) (o:Obj) (pm cd doc:Value) (a:Addr) (vs:List Value) (ns:List Int),
   Ground q loose [] XP w s₀ mg mb s₁.heap→YP w s₁.heap→
   s₁.heap.get? fa=some o→o.data=.func (docDef d.name d.params d.body d.scope pm cd doc)→s₁.heap.CodeRec cd d.name→mg d.name=some (.ref fa)→
   s₁.heap.get? a=some { cls:=.type "list",data:=.seq vs.toArray }→IntsAre vs ns→ns.length≤n→s₁.gens=#[]→
   codeAny (model l.prog w) callerA (.call (.ref fa) ⟨[.ref a],[]⟩) (fun r s'=>r=.ok (.ret (.bool true))∧OldK s₁.heap s'.heap∧s'.os=s₁.os∧AllBare s'.gens) s₁):
  WalkO q loose XP YP l.row.toRowW d [] (fun f vs=>PySem.call f vs):=by
 intro w s₀ s₁ mg mb G Y fa o pm cd doc dV kV ho hd hcd hD hmg hg args vals as hpre hlay hrd hwl hlo
 obtain rfl:dV=.none:=Dflts.none hD hdf
 obtain rfl:kV=.none:=Dflts.noKw hD
 obtain ⟨a,vs,ns,rfl,rfl,hobj,hints,hlen⟩:=script_of hn hpre hwl
 refine enter_call (codeAny_mono (call w s₀ s₁ mg mb fa o pm cd doc a vs ns G Y ho (fd_plain hd) hcd hmg hobj hints hlen hg) fun r s' hq=>?_)
 obtain ⟨rfl,h2,h3,h4⟩:=hq
 exact ⟨.inl ⟨.bool true,.bool true,[],rfl,fun _=>rfl,.bool true,post_true l _,fun _=>⟨List.Pairwise.nil,fun _ hm=>(nomatch hm)⟩⟩,h2,h3,h4⟩
section
variable {prog:Program} {w:World} {A:Around} {E:Value→Shared→Prop} {s:Shared} {K:Frag}
end
end Att
namespace L2
open PySem PySem.Spec PyProof.Rows
theorem lb:∀ {vs:List Value} {ns:List Int},IntsAre vs ns→Vals (ns.map V.int) vs
 | _,_,.nil=>.nil
 | _,_,.cons n t h=>.cons ⟨t,rfl⟩ (lb h)
def Only (H:Hp):Prop:=∀ b,H b=none∨∃ o xs,H b=some (.frz o (.lst xs))
theorem qE {P:Program} {w:World} {K:PySem.W.Frag} {mg mb:Str→Option Value} {CX:CXT} {k:Nat} {fa a:Addr} {fd:FuncData} {x:Str} {sp:Sp} {s₁:Shared} {vs:List Value} {ns:List Int}
  (KX:K.In s₁.heap) (hns:s₁.heap.Ns mainGlobals mg) (hb:s₁.heap.Ns builtinsNs mb) (hbb:∀ x:Str,x≠"__name__"→mb x=bootBuiltins x) (hlim:s₁.heap.NoLimit) (hg:s₁.gens=#[])
  (ha:s₁.heap.get? a=some { cls:=.type "list",data:=.seq vs.toArray }) (hi:IntsAre vs ns) (hl:ns.length≤sizeLine) (hr:Room k callerA)
  (F:∀ base:Heap,K.In base→base.Ns mainGlobals mg→FnOk P w K mg base CX k fa fd [x] sp) (hbind:∀ (s:Shared) (u:Value),BindsTo s fd ⟨[u],[]⟩ [(x,u)])
  (hsp:∀ H:Hp,Only H→SqL K H a (ns.map V.int)→sp [.ref a] H (fun v _=>v=.bl true) fun _ _ _=>False)
  (hCX:∀ H e s',CX [] H s₁ (fun _ _ _=>False) e s'→False):
  codeAny (model P w) callerA (.call (.ref fa) ⟨[.ref a],[]⟩) (fun r s'=>r=.ok (.ret (.bool true))∧OldK s₁.heap s'.heap∧s'.os=s₁.os∧AllBare s'.gens) s₁:=by
 have rv:=lb hi
 have lenV:=hi.length
 have core:∀ H:Hp,Only H→SqL K H a (ns.map V.int)→HOk P w H s₁.heap→(∀ b,H b≠none→b=a)→(H a≠none→K.lookup a=none)→
   codeAny (model P w) callerA (.call (.ref fa) ⟨[.ref a],[]⟩) (fun r s'=>r=.ok (.ret (.bool true))∧OldK s₁.heap s'.heap∧s'.os=s₁.os∧AllBare s'.gens) s₁:=by
  intro H hO hS hok hA hK
  have base_of:∀ {b:Addr} {o:Obj},s₁.heap.get? b=some o→H b=none→(hidT s₁.heap H).get? b=some o:=fun e n=>qy e n
  have noA:∀ {b:Addr} {o:Obj} {es:Array DictEntry} {ep:Nat},s₁.heap.get? b=some o→o.data=.dict es ep→H b=none:=fun {b o es ep} e d=>by
   cases q:H b with
   | none=>rfl
   | some u=>
    have e':b=a:=hA b (by rw [q]; simp)
    subst e'
    rw [ha] at e; cases e
    have d':Data.seq vs.toArray _=Data.dict es ep:=d
    cases d'
  have nsK:∀ {b:Addr} {m:Str→Option Value},s₁.heap.Ns b m→(hidT s₁.heap H).Ns b m:=fun {b m} ⟨o,es,ep,e,d,r⟩=>⟨o,es,ep,base_of e (noA e d),d,r⟩
  have hKb:K.In (hidT s₁.heap H):=fun b o e=>base_of (KX b o e) (by
   cases q:H b with
   | none=>rfl
   | some u=>
    have e':b=a:=hA b (by rw [q]; simp)
    subst e'
    rw [hK (by rw [q]; simp)] at e; cases e)
  have hM:Mod K mg (hidT s₁.heap H):=⟨hKb,nsK hns,⟨mb,nsK hb,hbb⟩,let ⟨mc,h1,h2⟩:=hlim; ⟨mc,nsK h1,h2⟩⟩
  have e0:Env0 P w K mg (hidT s₁.heap H) callerA [] s₁ H:=⟨rfl,hM,fun b o e=>rK e,Nat.le_of_eq (pi _ _),trivial,fun b hb=>absurd (show b∈([]:List Addr) from hb) (by simp),hok,.of_eq hg⟩
  refine codeAny_mono ((F _ hKb (nsK hns)).run callerA [] s₁ H ⟨[.ref a],[]⟩ [.ref a] [.ref a] _ _ hr e0 (hbind s₁ (.ref a)) (.cons rfl .nil) (hsp H hO hS)) fun r s' h=>?_
  cases r with
  | error e=>exact (hCX H e s' h).elim
  | ok fl=>
   cases fl with
   | next=>exact False.elim h
   | brk=>exact False.elim h
   | cont=>exact False.elim h
   | ret u=>
    obtain ⟨v,H',os,bare,un,hok',r',q⟩:=h
    have q':v=.bl true:=q
    subst q'
    obtain rfl:u=Value.bool true:=r'
    refine ⟨rfl,OldK.of_keep fun b o e=>?_,os,bare⟩
    cases q:H b with
    | none=>exact un.keep b o e q (by intro z; exact absurd (show b∈([]:List Addr) from z) (by simp)) (by simp)
    | some u=>
     rcases hO b with z | ⟨ob,xs,z⟩
     · rw [q] at z; cases z
     · have z2:=un.frzs b ob _ z
       obtain ⟨e1,_⟩:=hok b _ z
       obtain ⟨e2,_⟩:=hok' b _ z2
       rw [e] at e1; cases e1
       exact e2
 cases hk:K.lookup a with
 | some o=>
  have e:=KX a o hk
  rw [ha] at e
  cases e
  refine core (fun _=>none) (fun _=>.inl rfl) (.inr ⟨_,vs.toArray,_,hk,rfl,rfl,rfl,by rw [List.size_toArray,lenV]; exact hl,by simpa using rv⟩) (fun b u z=>by have z':(none:Option HO)=some u:=z; cases z') (fun b z=>absurd rfl z) fun z=>absurd rfl z
 | none=>
  refine core (fun b=>if b=a then some (.frz { cls:=.type "list",data:=.seq vs.toArray } (.lst (ns.map V.int))) else none) (fun b=>?_) (.inl (.inr ⟨{ cls:=.type "list",data:=.seq vs.toArray },if_pos rfl⟩)) (fun b u z=>?_) (fun b z=>?_) fun _=>hk
  · by_cases hb:b=a
    · exact .inr ⟨_,_,if_pos hb⟩
    · exact .inl (if_neg hb)
  · by_cases hb:b=a
    · have z':=(if_pos hb).symm.trans z
      cases z'
      subst hb
      exact ⟨ha,by rw [List.length_map]; exact hl,vs,_,rv,ha⟩
    · have z':=(if_neg hb).symm.trans z
      cases z'
  · by_cases hb:b=a
    · exact hb
    · exact absurd (if_neg hb) z
end L2
namespace L2
open PySem PySem.Spec PyProof.Rows
theorem rW {l:PySem.W.OpenLaw} {n k:Nat} {q:Program} {loose:List Str} {XP:(Str→Option Value)→Heap→Prop} {YP:World→Heap→Prop} {d:DefRec} {K:Params→PySem.W.Frag} {CX:World→CXT} {sp:World→Sp} {x:Str}
  (hn:l.most=some n) (hn2:n≤sizeLine) (hdf:d.params.defaults=[]) (hr:Room k callerA)
  (hY:∀ (w:World) (h:Heap),YP w h→(K w.params).In h)
  (F:∀ (w:World) (mg:Str→Option Value) (fa:Addr) (h:Heap),(K w.params).In h→h.Ns mainGlobals mg→mg d.name=some (.ref fa)→
   ∃ fd:FuncData,(∀ (s:Shared) (u:Value),BindsTo s fd ⟨[u],[]⟩ [(x,u)])∧
    ∀ base:Heap,(K w.params).In base→base.Ns mainGlobals mg→FnOk l.prog w (K w.params) mg base (CX w) k fa fd [x] (sp w))
  (hsp:∀ (w:World) (H:Hp) (a:Addr) (ns:List Int),ns.length≤n→Only H→SqL (K w.params) H a (ns.map V.int)→sp w [.ref a] H (fun v _=>v=.bl true) fun _ _ _=>False)
  (hCX:∀ (w:World) (H:Hp) (s:Shared) (e:Value) (s':Shared),CX w [] H s (fun _ _ _=>False) e s'→False):
  PySem.W.WalkO q loose XP YP l.row.toRowW d [] (fun f vs=>PySem.call f vs):=by
 refine Att.attach_call hn hdf fun w s₀ s₁ mg mb fa o pm cd doc a vs ns G Y ho hd hcd hmg hobj hints hlen hg=>?_
 have KX:=hY w _ Y
 obtain ⟨fd,hb,hF⟩:=F w mg fa _ KX G.T.g hmg
 exact qE KX G.T.g G.T.b G.T.builtins G.T.nolimit hg hobj hints (Nat.le_trans hlen hn2) hr hF hb (fun H hO hS=>hsp w H a ns hlen hO hS) fun H e s'=>hCX w H s₁ e s'
end L2
namespace L2
open PySem PySem.Spec PyProof.Rows
def aT (s:Stmt):Arguments:=match s with
 | .FunctionDef _ a _ _ _ _ _ _ _ _=>a
 | _=>{ posonlyargs:=[],args:=[],vararg:=none,kwonlyargs:=[],kw_defaults:=[],kwarg:=none,defaults:=[] }
def aO (s:Stmt):List Stmt:=match s with
 | .FunctionDef _ _ b _ _ _ _ _ _ _=>b
 | _=>[]
def aj (s:Stmt):Scope:=match s with
 | .FunctionDef _ _ _ _ _ _ sc _ _ _=>sc
 | _=>{ kind:=.function,names:=[],isGenerator:=false,isCoroutine:=false }
abbrev CX0:CXT:=fun _ _ _ _ _ _=>False
abbrev E0:XK:=fun _ _ _=>False
theorem oR {X:Cx}:eH CX0 X E0:=fun _ _ _ _ _ _ _ h=>h.elim
structure Fun (K:PySem.W.Frag) (x qual:Str) (st:Stmt) (f:Addr) (fd:FuncData):Prop where
 ex:∃ (oc:Value) (od:Option Addr) (kV doc pm:Value) (an:Option Addr) (cdv ct:Value) (osl:Array (Option Value)),
  fd=PySem.W.fnOf x qual (aT st) (aO st) (aj st) .none kV doc pm an cdv ct∧K.lookup f=some ⟨oc,od,.func fd,osl⟩∧PySem.W.codeIn K cdv qual=true
 kp:PySem.W.keepIn K (.ref f)=true
section
variable {P:Program} {w:World} {K:PySem.W.Frag} {mg:Str→Option Value} {base:Heap}
theorem Fun.ok {x qual:Str} {st:Stmt} {f:Addr} {fd:FuncData} {N ps:List Str} {k:Nat} {sp:Sp} (F:Fun K x qual st f fd) (S:ay N ps (aj st)) (len:∀ vs H Q E,sp vs H Q E→vs.length=ps.length)
  (hbody:∀ (cdv:Value) (A:Around) (outer:List Env) (s:Shared) (H:Hp) (vs:List V) (Q:VK) (E:XK),Room k (A.deeper (envOfC qual (aj st) s.heap.objs.size f cdv))→sp vs H Q E→
   ∃ t,PSs (cxOf CX0 P w K mg base N qual (aj st) f cdv A outer s H E).nox (aO st) t∧t { nx:=fun _ H'=>Q .non H',rt:=Q } (start N vs) H):FnOk P w K mg base CX0 (k+1) f fd ps sp:=by
 obtain ⟨oc,od,kV,doc,pm,an,cdv,ct,osl,rfl,lk,hcd⟩:=F.ex
 refine rg lk hcd S len fun A outer s H vs Q E hr hsp=>?_
 obtain ⟨t,h,q⟩:=hbody cdv A outer s H vs Q E hr hsp
 exact ⟨t,h.nox,q⟩
theorem Fun.binds {x qual:Str} {st:Stmt} {f:Addr} {fd:FuncData} {ps:List Str} (F:Fun K x qual st f fd)
  (h:∀ (kV doc pm:Value) (an:Option Addr) (cdv ct:Value) (us:List Value),us.length=ps.length→bindArgs (PySem.W.fnOf x qual (aT st) (aO st) (aj st) .none kV doc pm an cdv ct) ⟨us,[]⟩=pure (ps.zip us)):Binds K fd ps []:=by
 obtain ⟨oc,od,kV,doc,pm,an,cdv,ct,osl,rfl,lk,hcd⟩:=F.ex
 exact .all (h kV doc pm an cdv ct)
theorem aL {x qual:Str} {st:Stmt} {f:Addr} {oc:Value} {od an:Option Addr} {osl:Array (Option Value)} {kV doc pm cdv ct:Value} (l:K.lookup f=some ⟨oc,od,.func (PySem.W.fnOf x qual (aT st) (aO st) (aj st) .none kV doc pm an cdv ct),osl⟩)
  (c:PySem.W.codeIn K cdv qual=true) (k:PySem.W.keepIn K (.ref f)=true):Fun K x qual st f (PySem.W.fnOf x qual (aT st) (aO st) (aj st) .none kV doc pm an cdv ct):=⟨⟨oc,od,kV,doc,pm,an,cdv,ct,osl,rfl,l,c⟩,k⟩
end
theorem be {n:Nat} (h:n≤1000):n < sizeLine:=Nat.lt_of_le_of_lt h (by decide)
section
variable {X:Cx}
theorem pv (i:Nat) {x:Str} {pos:Pos} (hN:X.N[i]? =some x:=by rfl) (hv:Vis X.env.scope x:=by first | exact Or.inl rfl | exact Or.inr (Or.inl rfl) | exact Or.inr (Or.inr rfl)) (hd:(x==("__debug__":Str))=false:=by decide)
  (hcd:(x==("__classdict__":Str))=false:=by decide):PE X (.Name x pos) (tVar i):=sY hN hv hd hcd
end
theorem iteF {A B:Prop} (h:B):if false=true then A else B:=by
 rw [if_neg Bool.false_ne_true]
 exact h
theorem iteT {A B:Prop} (h:A):if true=true then A else B:=by
 rw [if_pos rfl]
 exact h
def Same (H H':Hp):Prop:=∀ b o,H b=some o→H' b=some o
theorem Same.refl (H:Hp):Same H H:=fun _ _ h=>h
theorem Same.trans {H H1 H2:Hp} (a:Same H H1) (b:Same H1 H2):Same H H2:=fun c o h=>b c o (a c o h)
theorem Same.free {H H':Hp} (e:Same H H') {l:Addr} (h:H' l=Option.none):H l=Option.none:=by
 cases q:H l with
 | none=>rfl
 | some o=>
  rw [e l o q] at h
  cases h
theorem Same.seq {K:PySem.W.Frag} {H H':Hp} {a:Addr} {xs:List V} (e:Same H H') (h:SqL K H a xs):SqL K H' a xs:=by
 rcases h with (h | ⟨o,h⟩) | h
 · exact .inl (.inl (e _ _ h))
 · exact .inl (.inr ⟨o,e _ _ h⟩)
 · exact .inr h
end L2
namespace L2
open PySem PySem.Spec PyProof.Rows
section
variable {κ:Type} [DecidableEq κ]
def valV (kvs:List (κ × V)) (k:κ):Option V:=(kvs.find? fun kv=>decide (kv.1=k)).map (·.2)
def putK (kvs:List (κ × V)) (k:κ) (v:V):List (κ × V):=
 if (kvs.any fun kv=>decide (kv.1=k))=true then kvs.map (fun kv=>if kv.1=k then (kv.1,v) else kv) else kvs++[(k,v)]
theorem mn {p:κ × V} {r:List (κ × V)} {k:κ} (e:p.1=k):valV (p::r) k=some p.2:=by simp [valV,List.find?_cons,e]
theorem mq {p:κ × V} {r:List (κ × V)} {k:κ} (e:¬ p.1=k):valV (p::r) k=valV r k:=by simp [valV,List.find?_cons,e]
theorem RelO.isSome_eq {o:Option V} {u:Option Value} (r:RelO o u):o.isSome=u.isSome:=by
 cases o with
 | none=>cases u with
  | none=>rfl
  | some _=>exact (show False from r).elim
 | some _=>cases u with
  | none=>exact (show False from r).elim
  | some _=>rfl
theorem KV.val {kvs:List (κ × V)} {vs:List (κ × Value)} (r:KV kvs vs) (k:κ):RelO (valV kvs k) (valueAt vs k):=by
 unfold KV at r
 induction r with
 | nil=>exact True.intro
 | @cons p q ps qs h t ih=>
  obtain ⟨h1,h2⟩:=h
  by_cases e:p.1=k
  · have e':q.1=k:=h1.symm.trans e
    have b:valueAt (q::qs) k=some q.2:=by simp [valueAt,List.find?_cons,e']
    rw [mn e,b]; exact h2
  · have e':¬ q.1=k:=fun z=>e (h1.trans z)
    have b:valueAt (q::qs) k=valueAt qs k:=by simp [valueAt,List.find?_cons,e']
    rw [mq e,b]; exact ih
theorem KV.length {kvs:List (κ × V)} {vs:List (κ × Value)} (r:KV kvs vs):kvs.length=vs.length:=Paired.length r
end
theorem l7 {P:Program} {w:World} {k:Key} {u:Value} (r:RelV (kV k) u):(cb P w).is k u=true:=by
 cases k with
 | inl i=>obtain ⟨t,e⟩:=(show ∃ t,u=Value.int i t from r); subst e; exact nF P w i t
 | inr x=>obtain ⟨t,e⟩:=(show ∃ t,u=Value.str x t from r); subst e; exact nG P w x t
theorem lc {P:Program} {w:World}:∀ {ks:List Key} {us:List Value},Vals (ks.map kV) us→ItemsAre (cb P w) ks us
 | [],_,r=>by rw [List.map_nil] at r; cases r; exact .nil
 | k::ks,_,r=>by
  rw [List.map_cons] at r
  cases r with
  | cons h t=>exact .cons (l7 h) (lc t)
abbrev KT (H:Hp):List (List Key × V)→List (List Key × Addr × Value)→Prop:=Paired fun p q=>p.1=q.1∧H q.2.1=some (.tup (p.1.map kV))∧RelV p.2 q.2.2
theorem KT.val {H:Hp} {kvs:List (List Key × V)} {xs:List (List Key × Addr × Value)} (r:KT H kvs xs) (k:List Key):RelO (valV kvs k) ((atKey xs k).map (·.2)):=by
 induction r with
 | nil=>exact True.intro
 | @cons p q ps qs h t ih=>
  obtain ⟨h1,_,h2⟩:=h
  by_cases e:p.1=k
  · have e':q.1=k:=h1.symm.trans e
    have b:atKey (q::qs) k=some q.2:=by simp [atKey,List.find?_cons,e']
    rw [mn e,b]; exact h2
  · have e':¬ q.1=k:=fun z=>e (h1.trans z)
    have b:atKey (q::qs) k=atKey qs k:=by simp [atKey,List.find?_cons,e']
    rw [mq e,b]; exact ih
section
variable {P:Program} {w:World} {H:Hp} {h:Heap} {a:Addr}
theorem rh {u:HO} (ok:HOk P w H h) (e:Rd H a u):ObjOk P w H h a u:=e.ok ok
theorem jA {kvs:List (Key × V)} (ok:HOk P w H h) (e:Rd H a (.dK kvs)):kvs.length≤sizeLine∧(a==sysModules)=false∧∃ vs,KV kvs vs∧h.DictOf (cb P w) a vs:=
 show ObjOk P w H h a (.dK kvs) from rh ok e
theorem jB {ks:List Key} (ok:HOk P w H h) (e:H a=some (.tup (ks.map kV))):(tupleKind (cb P w)).is h ks a:=by
 obtain ⟨_,its,r,o,h1,h2,n,h3⟩:=(show ObjOk P w H h a (.tup (ks.map kV)) from ok a _ e)
 exact ⟨o,its.toArray,n,h1,h2,h3,by simpa using lc r⟩
theorem l8 {kvs:List (List Key × V)} (ok:HOk P w H h) (e:Rd H a (.dT kvs)):kvs.length≤sizeLine∧(a==sysModules)=false∧
  ∃ xs,KT H kvs xs∧h.DictOfH (tupleKind (cb P w)) a xs:=by
 obtain ⟨z,y,xs,r,o,es,ep,h1,h2,h3,h4,h5⟩:=(show ObjOk P w H h a (.dT kvs) from rh ok e)
 refine ⟨z,y,xs,r,o,es,ep,h1,h2,h3,h4,fun x hx=>?_,h5⟩
 have all:∀ {l:List (List Key × V)} {m:List (List Key × Addr × Value)},KT H l m→∀ x∈m,(tupleKind (cb P w)).is h x.1 x.2.1:=by
  intro l m q
  induction q with
  | nil=>intro x hx; exact nomatch hx
  | @cons p q ps qs hq t ih=>
   intro x hx
   rcases List.mem_cons.mp hx with e | hx
   · subst e
     exact jB ok (by rw [← hq.1]; exact hq.2.1)
   · exact ih x hx
 exact all r x hx
end
def DGet (H:Hp) (a:Addr) (y:V) (r:Option V):Prop:=
 (∃ kvs k,Rd H a (.dK kvs)∧y=kV k∧r=valV kvs k)∨∃ kvs k b,Rd H a (.dT kvs)∧y=.ref b∧H b=some (.tup (k.map kV))∧r=valV kvs k
def DPut (H:Hp) (a:Addr) (y v:V) (H':Hp):Prop:=
 (∃ kvs k,H a=some (.dK kvs)∧y=kV k∧kvs.length < sizeLine∧H'=upd H a (.dK (putK kvs k v)))∨
 ∃ kvs k b,H a=some (.dT kvs)∧y=.ref b∧H b=some (.tup (k.map kV))∧kvs.length < sizeLine∧H'=upd H a (.dT (putK kvs k v))
theorem DGet.k {H:Hp} {a:Addr} {kvs:List (Key × V)} {k:Key} (e:H a=some (.dK kvs)):DGet H a (kV k) (valV kvs k):=.inl ⟨kvs,k,.inl e,rfl,rfl⟩
section
variable {X:Cx} {pins:List (Addr × Obj)} {σ:St} {H:Hp} {s:Shared} {a:Addr} {y v:V} {u r:Value} {o:Option V} {A:Around} {E:Value→Shared→Prop}
theorem pG {Q:Value→Shared→Prop} (hu:A.units+1 < cLine) (I:Inv X pins σ H s) (g:DGet H a y (some v)) (ry:RelV y u) (h:∀ w' s',Inv X pins σ H s'→RelV v w'→Q w' s'):
  wpAny (model X.prog X.w) A (getItem (.ref a) u) Q E s:=by
 rcases g with ⟨kvs,k,e,ey,l⟩ | ⟨kvs,k,b,e,ey,eb,l⟩
 · subst ey
   obtain ⟨z,hd,vs,rel,dd⟩:=jA I.hok e
   obtain ⟨w',hw,rw'⟩:=RelO.some_of (v:=v) (o:=valueAt vs k) (by rw [l]; exact rel.val k)
   exact wpAny_getItem_of (l7 ry) dd.mapOf hw (h w' _ (I.tok _) rw')
 · subst ey
   cases (show u=Value.ref b from ry)
   obtain ⟨z,hd,xs,rel,dd⟩:=l8 I.hok e
   obtain ⟨w',hw,rw'⟩:=RelO.some_of (v:=v) (o:=(atKey xs k).map (·.2)) (by rw [l]; exact rel.val k)
   obtain ⟨p,hp,hp2⟩:=Option.map_eq_some_iff.mp hw
   refine wpAny_getItem_heap (tupleKind_room_in1 hu) (jB I.hok eb) dd hp ?_
   rw [hp2]
   exact h w' _ (I.tok _) rw'
theorem uQ {Q:Value→Shared→Prop} (hu:A.units+1 < cLine) (I:Inv X pins σ H s) (g:DGet H a y o) (ry:RelV y u) (h:∀ s',Inv X pins σ H s'→Q (.bool o.isSome) s'):
  wpAny (model X.prog X.w) A (compareOp .In u (.ref a)) Q E s:=by
 rcases g with ⟨kvs,k,e,ey,l⟩ | ⟨kvs,k,b,e,ey,eb,l⟩
 · subst ey
   obtain ⟨z,hd,vs,rel,dd⟩:=jA I.hok e
   refine wpAny_in_of (l7 ry) hd dd.mapOf ?_
   rw [← (rel.val k).isSome_eq,← l]
   exact h _ (I.tok _)
 · subst ey
   cases (show u=Value.ref b from ry)
   obtain ⟨z,hd,xs,rel,dd⟩:=l8 I.hok e
   refine wpAny_in_heap (tupleKind_room_in1 hu) (jB I.hok eb) hd dd ?_
   have q:=(rel.val k).isSome_eq
   rw [Option.isSome_map] at q
   rw [← q,← l]
   exact h _ (I.tok _)
theorem rX {Q:Value→Shared→Prop} (hu:A.units+1 < cLine) (I:Inv X pins σ H s) (g:DGet H a y o) (ry:RelV y u) (h:∀ s',Inv X pins σ H s'→Q (.bool (!o.isSome)) s'):
  wpAny (model X.prog X.w) A (compareOp .NotIn u (.ref a)) Q E s:=by
 rcases g with ⟨kvs,k,e,ey,l⟩ | ⟨kvs,k,b,e,ey,eb,l⟩
 · subst ey
   obtain ⟨z,hd,vs,rel,dd⟩:=jA I.hok e
   refine wpAny_notIn_of (l7 ry) hd dd.mapOf ?_
   rw [← (rel.val k).isSome_eq,← l]
   exact h _ (I.tok _)
 · subst ey
   cases (show u=Value.ref b from ry)
   obtain ⟨z,hd,xs,rel,dd⟩:=l8 I.hok e
   refine wpAny_notIn_heap (tupleKind_room_in1 hu) (jB I.hok eb) hd dd ?_
   have q:=(rel.val k).isSome_eq
   rw [Option.isSome_map] at q
   rw [← q,← l]
   exact h _ (I.tok _)
end
section
variable {X:Cx} {pins:List (Addr × Obj)} {σ:St} {H:Hp} {s:Shared} {a:Addr} {kvs:List (Key × V)} {k:Key} {u:Value} {A:Around} {E:Value→Shared→Prop}
theorem uC {Q:Value→Shared→Prop} (I:Inv X pins σ H s) (e:Rd H a (.dK kvs)) (h:∀ t s',Inv X pins σ H s'→Q (.int kvs.length t) s'):wpAny (model X.prog X.w) A (call (.builtin "len") [.ref a]) Q E s:=by
 obtain ⟨z,hd,vs,rel,dd⟩:=jA I.hok e
 refine call_len_dict hd dd (by rw [← rel.length]; rw [sizeLine_eq] at z; omega) ?_
 rw [← rel.length]
 exact h _ _ (I.tok _)
end
theorem nI {X:Cx} {pins:List (Addr × Obj)} {σ:St} {H:Hp} {s:Shared} {a:Addr} {y:V} {o:Option V} (I:Inv X pins σ H s) (g:DGet H a y o):s.TypeIs (.ref a) "dict":=by
 rcases g with ⟨kvs,k,e,_,_⟩ | ⟨kvs,k,b,e,_,_,_⟩
 · obtain ⟨_,_,vs,_,dd⟩:=jA I.hok e
   exact dd.typeIs
 · obtain ⟨_,_,xs,_,dd⟩:=l8 I.hok e
   exact dd.typeIs
def sDPut (td ty tv:TE):TS:=fun D σ H=>tv σ H fun v H1=>td σ H1 fun x H2=>ty σ H2 fun y H3=>∃ a H4,x=.ref a∧DPut H3 a y v H4∧D.nx σ H4
def tL:TE:=fun _ H Q=>∀ p,H p=none→Q (.ref p) (upd H p (.dK []))
end L2
namespace L2
open PySem PySem.Spec PyProof.Rows
section
variable {X:Cx}
theorem pH:CallR X (.builtin "len") (fun xs H Q=>∃ a kvs,xs=[V.ref a]∧H a=some (.dK kvs)∧Q (.int kvs.length) H):=by
 intro pins s σ H xs us Q I r h
 obtain ⟨a,kvs,rfl,ha,q⟩:=h
 obtain ⟨u,rfl,ru⟩:=cg r
 cases ru
 exact uC I (.inl ha) fun t s' I'=>⟨.int kvs.length,H,I',⟨t,rfl⟩,q⟩
end
end L2
namespace L2
open PySem PySem.Spec PyProof.Rows
theorem bx {α:Type} (x:Str):∀ (a b:List (Str × α)),(a++b).lookup x=match a.lookup x with | some c=>some c | none=>b.lookup x
 | [],b=>rfl
 | (k,v)::r,b=>by
  rw [List.cons_append,List.lookup_cons,List.lookup_cons]
  cases x==k with
  | true=>rfl
  | false=>exact bx x r b
theorem eS:∀ (names:List (Str × NameKind)) (n:Nat) (acc cl:List (Str × Addr)),cellsFrom n names (acc++cl)=cellsFrom n names acc++cl
 | [],_,_,_=>rfl
 | (y,k)::r,n,acc,cl=>by
  unfold cellsFrom
  split
  · rw [← List.cons_append]; exact eS r _ _ cl
  · exact eS r _ _ cl
theorem cZ {x:Str} {c:Addr}:∀ (names:List (Str × NameKind)) (n:Nat) (acc:List (Str × Addr)),(x,c)∈cellsFrom n names acc→(x,NameKind.cell)∈names∨(x,c)∈acc
 | [],_,_,h=>.inr h
 | (y,k)::r,n,acc,h=>by
  unfold cellsFrom at h
  split at h
  · rename_i hk
    have hk:k=.cell:=by simpa using hk
    subst hk
    rcases cZ r _ _ h with z | z
    · exact .inl (List.mem_cons_of_mem _ z)
    · rcases List.mem_cons.mp z with z | z
      · cases z; exact .inl List.mem_cons_self
      · exact .inr z
  · rcases cZ r _ _ h with z | z
    · exact .inl (List.mem_cons_of_mem _ z)
    · exact .inr z
theorem gD {env:Env} (f:Str × NameKind→List (Str × Addr)→Sem (ForInStep (List (Str × Addr))))
  (hf:∀ name kind cs,f (name,kind) cs=if kind==.free then (do let a ← cellOf env name; pure (.yield ((name,a)::cs))) else pure (.yield cs)):
  ∀ (names:List (Str × NameKind)) (acc:List (Str × Addr)),(∀ x,(x,NameKind.free)∈names→∃ c,env.cells.lookup x=some c)→(∀ x c,acc.lookup x=some c→env.cells.lookup x=some c)→
   ∃ cl,forIn names acc f=(pure cl:Sem _)∧(∀ x c,cl.lookup x=some c→env.cells.lookup x=some c)∧(∀ x,((x,NameKind.free)∈names∨∃ c,acc.lookup x=some c)→∃ c,cl.lookup x=some c)
 | [],acc,_,h2=>⟨acc,rfl,h2,fun x h=>h.elim (fun z=>nomatch z) id⟩
 | (y,k)::r,acc,h1,h2=>by
  rw [List.forIn_cons,hf]
  by_cases hk:(k==NameKind.free)=true
  · rw [if_pos hk]
    have hk':k=.free:=by simpa using hk
    subst hk'
    obtain ⟨c,hc⟩:=h1 y List.mem_cons_self
    have e:(cellOf env y:Sem Addr)=pure c:=by unfold cellOf; rw [hc]
    rw [e]
    obtain ⟨cl,e1,e2,e3⟩:=gD f hf r ((y,c)::acc) (fun x hx=>h1 x (List.mem_cons_of_mem _ hx)) (fun x c' hx=>by
     rw [List.lookup_cons] at hx
     cases hb:x==y with
     | true=>rw [hb] at hx; cases hx; rw [beq_iff_eq.mp hb]; exact hc
     | false=>rw [hb] at hx; exact h2 x c' hx)
    refine ⟨cl,?_,e2,fun x hx=>e3 x ?_⟩
    · exact e1
    · rcases hx with hx | ⟨c',hx⟩
      · rcases List.mem_cons.mp hx with z | z
        · cases z; exact .inr ⟨c,by rw [List.lookup_cons]; simp⟩
        · exact .inl z
      · cases hb:x==y with
        | true=>exact .inr ⟨c,by rw [List.lookup_cons,hb]⟩
        | false=>exact .inr ⟨c',by rw [List.lookup_cons,hb]; exact hx⟩
  · rw [if_neg hk]
    obtain ⟨cl,e1,e2,e3⟩:=gD f hf r acc (fun x hx=>h1 x (List.mem_cons_of_mem _ hx)) h2
    refine ⟨cl,e1,e2,fun x hx=>e3 x ?_⟩
    rcases hx with hx | hx
    · rcases List.mem_cons.mp hx with z | z
      · cases z; exact absurd rfl hk
      · exact .inl z
    · exact .inr hx
theorem oS {scope:Scope} {env:Env} (h:∀ x,(x,NameKind.free)∈scope.names→∃ c,env.cells.lookup x=some c):
  ∃ cl,closureFor scope env=pure cl∧(∀ x c,cl.lookup x=some c→env.cells.lookup x=some c)∧∀ x,(x,NameKind.free)∈scope.names→∃ c,cl.lookup x=some c:=by
 obtain ⟨cl,e1,e2,e3⟩:=gD (env:=env) (fun x cs=>match x with | (name,kind)=>if kind==.free then (do let a ← cellOf env name; pure (.yield ((name,a)::cs))) else pure (.yield cs)) (fun _ _ _=>rfl) scope.names [] h (fun x c hx=>nomatch hx)
 refine ⟨cl,?_,e2,fun x hx=>e3 x (.inl hx)⟩
 have:closureFor scope env=(forIn scope.names [] (fun x cs=>match x with | (name,kind)=>if kind==.free then (do let a ← cellOf env name; pure (.yield ((name,a)::cs))) else pure (.yield cs)) >>= fun cs=>pure cs):=by
  simp only [closureFor]
 rw [this,e1]
 rfl
def jC (scope:Scope) (cl:List (Str × Addr)) (C:Addr) (env:Env):Env:=
 { newEnv scope C env.globals (cellsFrom (C+1) scope.names cl) env.qual none .none (some env) builtinsNs with scope:=relabel scope env }
theorem qF {M:Model} {A:Around} {E:Value→Shared→Prop} {s:Shared} {scope:Scope} {cl:List (Str × Addr)} {env:Env} {Q:Env→Shared→Prop}
  (hQ:Q (newEnv scope s.heap.objs.size env.globals (cellsFrom (s.heap.objs.size+1) scope.names cl) env.qual none .none (some env) builtinsNs) { s with heap:=pushCells (s.heap.push { cls:=.type "dict",data:=.dict #[] }) scope.names }):
  wpAny M A (newFunctionEnv scope env.globals cl [] env.qual none .none (some env)) Q E s:=by
 simp only [newFunctionEnv,Option.isSome_some,if_true]
 refine wpAny_bind (wpAny_alloc ?_)
 refine wpAny_bind (wpAny_layCells _ (fun name kind cells=>by cases hkc:kind==NameKind.cell <;> simp [hkc]) _ _ _ _ ?_)
 rw [show ({ s with heap:=s.heap.push { cls:=.type "dict",data:=.dict #[] } }:Shared).heap.objs.size=s.heap.objs.size+1 from Heap.size_push ..]
 refine wpAny_bind ?_
 rw [List.forIn_nil]
 exact wpAny_pure (wpAny_pure hQ)
section
variable {prog:Program} {w:World} {A:Around} {E:Value→Shared→Prop} {R:Result→Shared→Prop} {s:Shared}
theorem pI {elt target iter:Expr} {ifs:List Expr} {scope:Scope} {pos:Pos} {it acc:Value} {env:Env} (I:Nat→Shared→Prop)
  (turn:∀ n s,I n s→wpAny (model prog w) A (pyNext it) (fun r s₁=>match r with
   | none=>R (.ok .next) s₁
   | some v=>wpAny (model prog w) A (letOwnedTupleGo target it v) (fun _ s₁'=>wpAny (model prog w) A (assign target env v) (fun _ s₂=>
     wpAny (model prog w) A (forIn ifs true fun c r=>if r=true then do let ok ← isTrue c env (eval c env); pure (ForInStep.yield ok) else pure (ForInStep.yield r)) (fun ok s₃=>
      if ok=true then wpAny (model prog w) A (eval elt env) (fun x s₄=>
       wpAny (model prog w) A (call (.builtin "list.append") [acc,x]) (fun _ s₅=>∃ m,m < n∧I m s₅) (notedBy (model prog w) A env fun e s'=>R (.error e) s') s₄) (notedBy (model prog w) A env fun e s'=>R (.error e) s') s₃
      else ∃ m,m < n∧I m s₃) (notedBy (model prog w) A env fun e s'=>R (.error e) s') s₂) (notedBy (model prog w) A env fun e s'=>R (.error e) s') s₁') (notedBy (model prog w) A env fun e s'=>R (.error e) s') s₁) (notedBy (model prog w) A env fun e s'=>R (.error e) s') s)
  (n:Nat) (h:I n s):
  codeAny (model prog w) A (.compLoop (.ListComp elt [⟨target,iter,ifs,0⟩] scope pos) 0 it acc env) R s:=by
 refine codeAny_loop rfl I (fun n s hI=>?_) n h
 show wpAny _ A ((compTurn (.ListComp elt [⟨target,iter,ifs,0⟩] scope pos) 0 it acc env).onRaise (fun x=>do noteFrame x env; theTreesLotGoes x)) _ _ s
 refine wpAny_noted ?_
 rw [compTurn_list]
 refine wpAny_bind (wpAny_standAt (wpAny_bind (wpAny_mono (turn n s hI) (fun r s₁ h₁=>?_) fun _ _ h'=>h')))
 cases r with
 | none=>exact wpAny_pure h₁
 | some v=>
  refine wpAny_bind (wpAny_mono h₁ (fun _ s₁' h₁'=>?_) fun _ _ h'=>h')
  refine wpAny_bind (wpAny_mono h₁' (fun _ s₂ h₂=>wpAny_bind (wpAny_mono h₂ (fun ok s₃ h₃=>?_) fun _ _ h'=>h')) fun _ _ h'=>h')
  cases ok with
  | false=>exact wpAny_pure ⟨rfl,h₃⟩
  | true=>
   exact wpAny_bind (wpAny_bind (wpAny_mono h₃ (fun x s₄ h₄=>wpAny_bind (wpAny_mono h₄ (fun _ s₅ h₅=>wpAny_pure (wpAny_pure ⟨rfl,h₅⟩)) fun _ _ h'=>h')) fun _ _ h'=>h'))
end
end L2
namespace L2
open PySem PySem.Spec PyProof.Rows
theorem fo {scope:Scope} {env:Env} {x:Str} {k:NameKind} (h:(relabel scope env).names.lookup x=some k):∃ k',scope.names.lookup x=some k'∧(k=k'∨(k'=.free∧k=.cell)):=by
 unfold relabel at h
 dsimp only at h
 generalize scope.names=names at h ⊢
 induction names with
 | nil=>cases h
 | cons p r ih=>
  obtain ⟨n,k0⟩:=p
  rw [List.map_cons] at h
  rw [List.lookup_cons]
  cases hb:x==n with
  | true=>
   refine ⟨k0,rfl,?_⟩
   dsimp only at h
   split at h
   · rename_i hc
     rw [List.lookup_cons,hb] at h
     cases h
     simp only [Bool.and_eq_true,beq_iff_eq] at hc
     exact .inr ⟨hc.1.1,rfl⟩
   · rw [List.lookup_cons,hb] at h
     cases h
     exact .inl rfl
  | false=>
   dsimp only at h
   refine ih ?_
   split at h
   · rw [List.lookup_cons,hb] at h; exact h
   · rw [List.lookup_cons,hb] at h; exact h
def blkCx (X:Cx) (N:List Str) (scope:Scope) (cl:List (Str × Addr)) (s:Shared) (H:Hp) (fp:List Addr):Cx where
 prog:=X.prog
 w:=X.w
 K:=X.K
 mg:=X.mg
 base:=X.base
 A:=X.A
 N:=N
 s₀:=s
 H₀:=H
 env:=jC scope cl (s.heap.objs.size+1) X.env
 outer:=X.stack
 stack:=X.stack
 ex:=fp
 fn:=fun x=>scope.names.lookup x==some .cell
 calm:=X.calm
 pn:=[]
 xe:=fun e₀ s₁=>(∃ (pins:List (Addr × Obj)) (σ:St),Inv X pins σ H s∧∀ b∈fp,FpOk X pins H b)→notedBy (model X.prog X.w) X.A (jC scope cl (s.heap.objs.size+1) X.env) (fun x s'=>∃ m,s'.heap.Ns (s.heap.objs.size+1) m∧∀ h',Heap.SameBut (s.heap.objs.size+1) s'.heap h'→∀ cenv:Env,cenv.locals=s.heap.objs.size+1→
  wpAny (model X.prog X.w) X.A (passOn "comprehension.variables-let-go" x cenv:Sem Value) (fun _ _=>False) X.xe { s' with heap:=h' }) e₀ s₁
def subσ (ix:List (Option Nat)) (σ:St):St:=ix.map fun o=>match o with | none=>none | some i=>match σ[i]? with | some v=>v | none=>none
structure BlkOk (X:Cx) (N:List Str) (ix:List (Option Nat)) (scope:Scope):Prop where
 kind:scope.kind=.function
 nd:N.Nodup
 len:ix.length=N.length
 names:(scope.names.map (·.1)).Nodup
 free:∀ x,(x,NameKind.free)∈scope.names→X.env.kindOf x=some .cell∨X.env.kindOf x=some .free
 at_:∀ (j i:Nat) (x:Str),N[j]? =some x→ix[j]? =some (some i)→X.N[i]? =some x∧(x,NameKind.free)∈scope.names
theorem bZ {α:Type}:∀ {l:List (Str × α)} {x:Str} {k:α},(l.map (·.1)).Nodup→(x,k)∈l→l.lookup x=some k
 | (y,k0)::r,x,k,nd,h=>by
  rw [List.map_cons,List.nodup_cons] at nd
  rw [List.lookup_cons]
  rcases List.mem_cons.mp h with e | e
  · cases e; simp
  · have:x≠y:=by
     rintro rfl
     exact nd.1 (List.mem_map.mpr ⟨(x,k),e,rfl⟩)
    have hb:(x==y)=false:=by simpa using this
    rw [hb]
    exact bZ nd.2 e
theorem pJ {X:Cx} {pins:List (Addr × Obj)} {σ:St} {H:Hp} {s:Shared} {N:List Str} {ix:List (Option Nat)} {scope:Scope} {cl:List (Str × Addr)} {fp:List Addr} (B:BlkOk X N ix scope)
  (I:Inv X pins σ H s) (hcl:∀ x c,cl.lookup x=some c→X.env.cells.lookup x=some c) (hcf:∀ x,(x,NameKind.free)∈scope.names→∃ c,cl.lookup x=some c)
  (hfp:∀ b∈fp,FpOk X pins H b) (hob:∀ b∈fp,∃ o,s.heap.get? b=some o∧∀ v,o.data≠.cell v):
  Inv (blkCx X N scope cl s H fp) [] (subσ ix σ) (upd H s.heap.objs.size (.lst []))
   { s with heap:=pushCells ((s.heap.push { cls:=.type "list",data:=.seq #[] }).push { cls:=.type "dict",data:=.dict #[] }) scope.names }:=by
 have hs2:(s.heap.push { cls:=.type "list",data:=.seq #[] }).objs.size=s.heap.objs.size+1:=Heap.size_push ..
 have hs3:((s.heap.push { cls:=.type "list",data:=.seq #[] }).push { cls:=.type "dict",data:=.dict #[] }).objs.size=s.heap.objs.size+2:=by rw [Heap.size_push,hs2]
 have hk:∀ b o,s.heap.get? b=some o→(pushCells ((s.heap.push { cls:=.type "list",data:=.seq #[] }).push { cls:=.type "dict",data:=.dict #[] }) scope.names).get? b=some o:=
  fun b o e=>pushCells_keeps _ _ b o (Heap.get?_push_of_some _ (Heap.get?_push_of_some _ e))
 have hl:(pushCells ((s.heap.push { cls:=.type "list",data:=.seq #[] }).push { cls:=.type "dict",data:=.dict #[] }) scope.names).get? s.heap.objs.size=some { cls:=.type "list",data:=.seq #[] }:=
  pushCells_keeps _ _ _ _ (Heap.get?_push_of_some _ (Heap.get?_push_size _ rfl))
 have ok0:=cellsFrom_ok scope.names ((s.heap.push { cls:=.type "list",data:=.seq #[] }).push { cls:=.type "dict",data:=.dict #[] }) (s.heap.objs.size+2) [] ⟨fun _ _ hm=>(nomatch hm),List.Pairwise.nil⟩ (by rw [hs3]; exact Nat.le_refl _)
 rw [hs3] at ok0
 have hcells:(blkCx X N scope cl s H fp).env.cells=cellsFrom (s.heap.objs.size+2) scope.names []++cl:=by
  show cellsFrom (s.heap.objs.size+1+1) scope.names cl=_
  rw [← List.nil_append cl,eS]
  simp
 have cases_:∀ x c,(blkCx X N scope cl s H fp).env.cells.lookup x=some c→((x,c)∈cellsFrom (s.heap.objs.size+2) scope.names []∧(x,NameKind.cell)∈scope.names)∨((cellsFrom (s.heap.objs.size+2) scope.names []).lookup x=none∧cl.lookup x=some c):=fun x c e=>by
  rw [hcells,bx] at e
  cases q:(cellsFrom (s.heap.objs.size+2) scope.names []).lookup x with
  | none=>rw [q] at e; exact .inr ⟨rfl,e⟩
  | some c'=>
   rw [q] at e
   cases e
   have m:=PySem.mem_of_lookup q
   refine .inl ⟨m,?_⟩
   rcases cZ _ _ _ m with z | z
   · exact z
   · exact nomatch z
 have oldc:∀ x c,cl.lookup x=some c→c < s.heap.objs.size:=fun x c e=>by
  obtain ⟨v,q⟩:=I.cell x c (hcl x c e)
  exact q.lt
 have hfree:H s.heap.objs.size=none:=I.hok.fresh (Nat.le_refl _)
 have hfix:∀ b,s.heap.objs.size < b→(upd H s.heap.objs.size (.lst [])) b=none:=fun b hb=>by
  rw [ak (Nat.ne_of_gt hb)]
  exact I.hok.fresh (Nat.le_of_lt hb)
 have hlt:∀ b∈fp,b < s.heap.objs.size:=fun b hb=>by
  obtain ⟨o,e,_⟩:=hob b hb
  exact Heap.lt_size e
 have e0:=I.env0
 have isnew:∀ x c,(x,c)∈cellsFrom (s.heap.objs.size+2) scope.names []→s.heap.objs.size+2≤c:=fun x c m=>(ok0.empty x c m).2
 refine ⟨⟨I.ok.mod,B.kind,I.ok.glob,I.ok.blt,Nat.le_succ _,fun x y c e1 e2=>?_,fun x hx=>?_,fun x c hx e=>?_,I.ok.hd,I.ok.frames,.inl rfl,fun b hb=>⟨?_,fun x c e=>?_⟩,e0.bs,e0.bsz,fun b o e hb=>?_,fun b hb hb2=>?_,e0.funs,e0.frf⟩,
  rfl,I.bare,Un.laid hk (Nat.le_refl _) hfree,⟨fun _=>none,?_,fun j x v e1 e2 e3=>?_⟩,fun x c e=>?_,hfix _ (Nat.lt_succ_self _),fun x c e=>?_,fun p hp=>absurd (show p∈([]:List (Addr × Obj)) from hp) (by simp),?_,?_⟩
 · rcases cases_ x c e1 with ⟨m1,k1⟩ | ⟨n1,q1⟩ <;> rcases cases_ y c e2 with ⟨m2,k2⟩ | ⟨n2,q2⟩
   · exact name_of_addr ok0.apart m1 m2
   · exact absurd (Nat.lt_of_lt_of_le (oldc _ _ q2) (Nat.le_trans (Nat.le_add_right _ _) (isnew _ _ m1))) (Nat.lt_irrefl _)
   · exact absurd (Nat.lt_of_lt_of_le (oldc _ _ q1) (Nat.le_trans (Nat.le_add_right _ _) (isnew _ _ m2))) (Nat.lt_irrefl _)
   · exact I.ok.inj x y c (hcl _ _ q1) (hcl _ _ q2)
 · have hx':(relabel scope X.env).names.lookup x=some .cell∨(relabel scope X.env).names.lookup x=some .free:=hx
   have key:scope.names.lookup x=some .cell∨scope.names.lookup x=some .free:=by
    rcases hx' with z | z
    · obtain ⟨k',e,r | r⟩:=fo z
      · rw [← r] at e; exact .inl e
      · rw [r.1] at e; exact .inr e
    · obtain ⟨k',e,r | r⟩:=fo z
      · rw [← r] at e; exact .inr e
      · cases r.2
   rw [hcells]
   rcases key with z | z
   · obtain ⟨c,q⟩:=gC (n:=s.heap.objs.size+2) z
     exact ⟨c,by rw [bx,q]⟩
   · obtain ⟨c,q⟩:=hcf x (PySem.mem_of_lookup z)
     cases q2:(cellsFrom (s.heap.objs.size+2) scope.names []).lookup x with
     | none=>exact ⟨c,by rw [bx,q2]; exact q⟩
     | some c'=>exact ⟨c',by rw [bx,q2]⟩
 · have hx':scope.names.lookup x=some .cell:=by simpa [blkCx] using hx
   rcases cases_ x c e with ⟨m1,k1⟩ | ⟨n1,q1⟩
   · exact Nat.le_trans (Nat.le_add_right _ _) (isnew _ _ m1)
   · obtain ⟨c',q⟩:=gC (n:=s.heap.objs.size+2) hx'
     rw [q] at n1; cases n1
 · exact Nat.ne_of_lt (Nat.lt_succ_of_lt (hlt b hb))
 · rcases cases_ x c e with ⟨m1,k1⟩ | ⟨n1,q1⟩
   · exact Nat.ne_of_gt (Nat.lt_of_lt_of_le (hlt b hb) (Nat.le_trans (Nat.le_add_right _ _) (isnew _ _ m1)))
   · exact (hfp b hb).2.2.2.2.1 x c (hcl _ _ q1)
 · rcases (hfp b hb).2.2.2.1 with z | z
   · exact I.ok.noex b o e z
   · exact absurd (Nat.lt_of_lt_of_le (Heap.lt_size e) (Nat.le_trans I.ok.bsz z)) (Nat.lt_irrefl _)
 · rcases List.mem_cons.mp (I.stkSub b hb2) with z | z
   · exact (hfp b hb).2.1 z
   · exact (hfp b hb).2.2.1 z
 · show Heap.Ns _ (s.heap.objs.size+1) _
   rw [← hs2]
   exact (Heap.Ns.new _ (.type "dict")).keeps (pushCells_keeps _ _)
 ·
   unfold subσ at e2
   rw [List.getElem?_map] at e2
   cases q:ix[j]? with
   | none=>rw [q] at e2; cases e2
   | some o=>
    rw [q] at e2
    cases o with
    | none=>cases e2
    | some i=>
     simp only [Option.map_some,Option.some.injEq] at e2
     obtain ⟨hN,hm⟩:=B.at_ j i x e1 q
     have hσ:σ[i]? =some (some v):=by
      cases q2:σ[i]? with
      | none=>rw [q2] at e2; cases e2
      | some z=>rw [q2] at e2; exact congrArg some e2
     obtain ⟨m,hn,hl'⟩:=I.loc
     have hkind:=B.free x hm
     have hvis:Vis X.env.scope x:=hkind.elim (fun z=>.inr (.inl z)) fun z=>.inr (.inr z)
     obtain ⟨u,ru,lk⟩:=hl' i x v hN hσ hvis
     refine ⟨u,ru,?_⟩
     obtain ⟨c,hc⟩:=hcf x hm
     have hnone:(cellsFrom (s.heap.objs.size+2) scope.names []).lookup x=none:=by
      cases q2:(cellsFrom (s.heap.objs.size+2) scope.names []).lookup x with
      | none=>rfl
      | some c'=>
       rcases cZ _ _ _ (PySem.mem_of_lookup q2) with z | z
       · have a1:=bZ B.names z
         have a2:=bZ B.names hm
         rw [a1] at a2; cases a2
       · exact nomatch z
     have hcell:(blkCx X N scope cl s H fp).env.cells.lookup x=some c:=by rw [hcells,bx,hnone]; exact hc
     have hkk:(blkCx X N scope cl s H fp).env.kindOf x=some .cell∨(blkCx X N scope cl s H fp).env.kindOf x=some .free:=by
      rcases e3 with z | z | z
      · obtain ⟨k',e,r | r⟩:=fo (show (relabel scope X.env).names.lookup x=some .local from z)
        · rw [bZ B.names hm] at e; cases e; cases r
        · cases r.2
      · exact .inl z
      · exact .inr z
     refine .inr ⟨hkk,c,hcell,?_⟩
     rcases lk with ⟨k1,_⟩ | ⟨_,c2,e4,z⟩
     · rcases hkind with z | z <;> rw [k1] at z <;> cases z
     · rw [hcl x c hc] at e4; cases e4
       exact z.keeps hk
 · rcases cases_ x c e with ⟨m1,k1⟩ | ⟨n1,q1⟩
   · exact ⟨none,(ok0.empty x c m1).1⟩
   · obtain ⟨v,z⟩:=I.cell x c (hcl _ _ q1)
     exact ⟨v,z.keeps hk⟩
 · rcases cases_ x c e with ⟨m1,k1⟩ | ⟨n1,q1⟩
   · exact hfix c (Nat.lt_of_lt_of_le (Nat.lt_add_of_pos_right (by decide)) (isnew _ _ m1))
   · rw [ak (Nat.ne_of_lt (oldc _ _ q1))]
     exact I.freeC x c (hcl _ _ q1)
 · exact I.hok.laid hk (Nat.le_refl _) ⟨Nat.zero_le _,[],0,.nil,hl⟩
 · show (subσ ix σ).length=N.length
   unfold subσ
   rw [List.length_map]
   exact B.len
end L2
namespace L2
open PySem PySem.Spec PyProof.Rows
def PTs (X:Cx) (ifs:List Expr) (t:TT):Prop:=
 ∀ (pins:List (Addr × Obj)) (s:Shared) (σ:St) (H:Hp) (Q:Bool→Hp→Prop),Inv X pins σ H s→t σ H Q→
  wpAny (model X.prog X.w) X.A (forIn ifs true fun c r=>if r=true then do let ok ← isTrue c X.env (eval c X.env); pure (ForInStep.yield ok) else pure (ForInStep.yield r)) (TP X pins σ Q) X.xe s
def tTrue:TT:=fun _ H Q=>Q true H
theorem iM {X:Cx}:PTs X [] tTrue:=fun _ _ _ H _ I h=>wpAny_tests_nil ⟨H,I,h⟩
theorem rY {X:Cx} {c:Expr} {t:TT} (h:PT X c t):PTs X [c] t:=fun pins s σ H Q I q=>wpAny_tests_one (h pins s σ H Q I q)
def mr (ix:List (Option Nat)) (wi:TI) (g:TG) (tt:TT) (te:TE) (fin:Addr→Hp→Prop):St→Hp→Prop:=fun σ H=>wi σ H fun J H1=>∀ l,H1 l=none→
 ∃ W:Nat→Nat→St→Hp→Prop,(∃ m,W 0 m (subσ ix σ) (upd H1 l (.lst [])))∧∀ i m σ' H',W i m σ' H'→
  (J.stop i H'∧fin l H')∨(J.go i H'∧∃ N:St→Hp→Prop,(∀ σ'' H'',N σ'' H''→∃ m',m' < m∧W (i+1) m' σ'' H'')∧∀ x H2,J.yld i H' x H2→g x σ' H2 fun σ2 H3=>tt σ2 H3 fun b H4=>
   if b=true then te σ2 H4 fun y H5=>∃ ys,H5 l=some (.lst ys)∧ys.length < sizeLine∧N σ2 (upd H5 l (.lst (ys++[y]))) else N σ2 H4)
section
variable {X:Cx} {pins:List (Addr × Obj)} {σ σ':St} {H H':Hp} {s s':Shared} {N:List Str} {scope:Scope} {cl:List (Str × Addr)} {fp:List Addr}
theorem nY {h':Heap} (I:Inv X pins σ H s) (J:Inv (blkCx X N scope cl s H fp) [] σ' H' s') (hfp:∀ b∈fp,FpOk X pins H b) (sb:Heap.SameBut (s.heap.objs.size+1) s'.heap h'):Inv X pins σ H' { s' with heap:=h' }:=by
 have u:Un (frs X.stack) fp H H' s.heap s'.heap:=J.base
 have hC:H' (s.heap.objs.size+1)=none:=J.free
 have ne:∀ b o,s.heap.get? b=some o→b≠s.heap.objs.size+1:=fun b o e=>Nat.ne_of_lt (Nat.lt_succ_of_lt (Heap.lt_size e))
 refine I.call' (s':={ s' with heap:=h' }) (ch:=fp) J.os ⟨fun b o e n hb hx=>?_,fun b o e n hb hx=>?_,u.free,fun b o e hx=>?_,u.tups,u.frzs,u.tbls⟩ (fun b ob e=>?_) J.bare fun b hb=>?_
 · exact (sb.2 b (ne b o e)).trans (u.keep b o e n hb hx)
 · obtain ⟨sl,q⟩:=u.slot b o e n hb hx
   exact ⟨sl,(sb.2 b (ne b o e)).trans q⟩
 · obtain ⟨o',q⟩:=u.there b o e hx
   exact ⟨o',(sb.2 b (ne b o e)).trans q⟩
 · refine (J.hok b ob e).stay (fun c w' hc q=>(sb.2 c ?_).trans q) (fun _ q=>q) fun _ _ q=>q
   rintro rfl
   rcases hc with rfl | hc
   · rw [hC] at e; cases e
   · rw [hC] at hc; cases hc
 · obtain ⟨f0,f1,f2,f3,f4,f5⟩:=hfp b hb
   exact ⟨f3,f1,f4,f5⟩
theorem mt {tg iter elt:Expr} {ifs:List Expr} {pos:Pos} {ix:List (Option Nat)} {wi:TI} {g:TG} {tt:TT} {te:TE} {fin:Addr→Hp→Prop} {RR:Value→Addr→Result→Shared→Prop} (B:BlkOk X N ix scope) (hc:X.calm=true)
  (hi:PI X tg iter wi) (hg:∀ cl s H fp,PG (blkCx X N scope cl s H fp) tg g) (ht:∀ cl s H fp,PTs (blkCx X N scope cl s H fp) ifs tt) (he:∀ cl s H fp,PE (blkCx X N scope cl s H fp) elt te)
  (hcl:∀ x c,cl.lookup x=some c→X.env.cells.lookup x=some c) (hcf:∀ x,(x,NameKind.free)∈scope.names→∃ c,cl.lookup x=some c)
  (I:Inv X pins σ H s) (h:mr ix wi g tt te fin σ H)
  (ok:∀ (s2:Shared) (H2:Hp) (fp:List Addr) (σ3:St) (H3:Hp) (s3:Shared),Inv X pins σ H2 s2→(∀ b∈fp,FpOk X pins H2 b)→Inv (blkCx X N scope cl s2 H2 fp) [] σ3 H3 s3→fin s2.heap.objs.size H3→RR (.ref s2.heap.objs.size) (s2.heap.objs.size+1) (.ok .next) s3)
  (bad:∀ (a C:Addr) (x:Value) (s':Shared),(∃ m,s'.heap.Ns C m∧∀ h',Heap.SameBut C s'.heap h'→∀ cenv:Env,cenv.locals=C→wpAny (model X.prog X.w) X.A (passOn "comprehension.variables-let-go" x cenv:Sem Value) (fun _ _=>False) X.xe { s' with heap:=h' })→RR (.ref a) C (.error x) s'):
  wpAny (model X.prog X.w) X.A (eval iter X.env) (fun x s₁=>wpAny (model X.prog X.w) X.A (pyIter x) (fun it s₂=>wpAny (model X.prog X.w) X.A (newList []) (fun acc s₃=>
   wpAny (model X.prog X.w) X.A (newFunctionEnv scope X.env.globals cl [] X.env.qual none .none (some X.env)) (fun cenv s₄=>
    codeAny (model X.prog X.w) X.A (.compStart (.ListComp elt [⟨tg,iter,ifs,0⟩] scope pos) 0 it acc { cenv with scope:=relabel scope X.env }) (RR acc cenv.locals) s₄) X.xe s₃) X.xe s₂) X.xe s₁) X.xe s:=by
 refine thn (hi pins s σ H _ I h) fun v s1 h1=>thn h1 fun itv s2 h2=>?_
 obtain ⟨it,fp,tn,J,H2,e,I2,T,st2,f2,h2⟩:=h2
 subst e
 refine wpAny_newList (qF ?_) (Nat.zero_le _)
 have hs2:(s2.heap.push { cls:=.type "list",data:=.seq (([]:List Value)).toArray }).objs.size=s2.heap.objs.size+1:=Heap.size_push ..
 dsimp only
 rw [hs2]
 have I3:=pJ (fp:=fp) B I2 hcl hcf f2 (T.obj _ _ st2)
 obtain ⟨W,⟨m0,w0⟩,turn⟩:=h2 s2.heap.objs.size I2.fresh
 have hk:∀ b o,s2.heap.get? b=some o→(pushCells ((s2.heap.push { cls:=.type "list",data:=.seq #[] }).push { cls:=.type "dict",data:=.dict #[] }) scope.names).get? b=some o:=
  fun b o e=>pushCells_keeps _ _ b o (Heap.get?_push_of_some _ (Heap.get?_push_of_some _ e))
 have st3:=T.keep _ _ _ st2 fun b _ o e=>hk b o e
 have fr3:∀ b∈fp,(upd H2 s2.heap.objs.size (.lst [])) b=none:=fun b hb=>by
  obtain ⟨o,e,_⟩:=T.obj _ _ st2 b hb
  rw [ak (Nat.ne_of_lt (Heap.lt_size e))]
  exact (f2 b hb).1
 have stat:∀ {σ5:St} {H5:Hp} {s5:Shared},Inv (blkCx X N scope cl s2 H2 fp) [] σ5 H5 s5→(∀ b∈fp,H5 b=none)→∀ b∈fp,FpOk (blkCx X N scope cl s2 H2 fp) [] H5 b:=fun I5 hn b hb=>
  ⟨hn b hb,(I5.ok.exf b hb).1,I5.ok.exfs b hb,.inl hb,(I5.ok.exf b hb).2,fun p hp=>absurd (show p∈([]:List (Addr × Obj)) from hp) (by simp)⟩
 have loop:∀ s₃:Shared,s₃={ s2 with heap:=pushCells ((s2.heap.push { cls:=.type "list",data:=.seq #[] }).push { cls:=.type "dict",data:=.dict #[] }) scope.names }→
   codeAny (model X.prog X.w) X.A (.compLoop (.ListComp elt [⟨tg,iter,ifs,0⟩] scope pos) 0 (.ref it) (.ref s2.heap.objs.size) (blkCx X N scope cl s2 H2 fp).env) (RR (.ref s2.heap.objs.size) (s2.heap.objs.size+1)) s₃:=by
  rintro s₃ rfl
  refine pI (fun n s'=>∃ i σ' H',Inv (blkCx X N scope cl s2 H2 fp) [] σ' H' s'∧tn i s'.heap∧(∀ b∈fp,H' b=none)∧W i n σ' H') ?_ m0 ⟨0,_,_,I3,st3,fr3,w0⟩
  rintro n s4 ⟨i,σ4,H4,I4,st4,fr4,w4⟩
  have xe_:∀ x s',(blkCx X N scope cl s2 H2 fp).xe x s'→notedBy (model X.prog X.w) X.A (blkCx X N scope cl s2 H2 fp).env (fun e s'=>RR (.ref s2.heap.objs.size) (s2.heap.objs.size+1) (.error e) s') x s':=fun x s' hx=>
   wpAny_mono (hx ⟨pins,σ,I2,f2⟩) (fun _ s'' q=>bad _ _ _ _ q) fun e s'' q=>bad _ _ _ _ q
  rcases turn i n σ4 H4 w4 with ⟨stop,qn⟩ | ⟨go,Nx,hN,step⟩
  · refine wpAny_mono (T.done (blkCx X N scope cl s2 H2 fp) rfl rfl rfl hc i [] s4 σ4 H4 _ I4 (stat I4 fr4) st4 stop) (fun r s5 ⟨hr,I5⟩=>?_) xe_
    subst hr
    exact ok s2 H2 fp σ4 H4 s5 I2 f2 I5 qn
  · refine wpAny_mono (T.item (blkCx X N scope cl s2 H2 fp) rfl rfl rfl hc i [] s4 σ4 H4 _ I4 (stat I4 fr4) st4 go) (fun r s5 ⟨u,hr,h5⟩=>?_) xe_
    subst hr
    refine wpAny_mono h5 (fun _ s6 ⟨x,H6,I6,r6,y6,st6,fr6⟩=>?_) xe_
    have I6':=I6.pinned (stat I6 fr6) (T.obj _ _ st6)
    refine wpAny_mono (hg cl s2 H2 fp _ s6 σ4 H6 x u _ I6' r6 (step x H6 y6)) (fun _ s7 ⟨σ7,H7,I7,q7⟩=>?_) xe_
    have again:∀ {σ8:St} {H8:Hp} {s8:Shared},Inv (blkCx X N scope cl s2 H2 fp) ([]++gT fp s6.heap) σ8 H8 s8→Nx σ8 H8→∃ m,m < n∧∃ i σ' H',Inv (blkCx X N scope cl s2 H2 fp) [] σ' H' s8∧tn i s8.heap∧(∀ b∈fp,H' b=none)∧W i m σ' H':=fun {σ8 H8 s8} I8 n8=>by
     obtain ⟨m',hm,w8⟩:=hN σ8 H8 n8
     refine ⟨m',hm,i+1,σ8,H8,I8.unpinned,T.keep _ _ _ st6 fun b hb o e=>(I8.pin (b,o) (List.mem_append_right _ (List.mem_append_right _ (fe hb e)))).1,fun b hb=>?_,w8⟩
     obtain ⟨o,e,d⟩:=T.obj _ _ st6 b hb
     exact (I8.pin (b,o) (List.mem_append_right _ (List.mem_append_right _ (fe hb e)))).2.1
    refine wpAny_mono (ht cl s2 H2 fp _ s7 σ7 H7 _ I7 q7) (fun okb s8 ⟨H8,I8,q8⟩=>?_) xe_
    cases okb with
    | false=>exact again I8 q8
    | true=>
     refine wpAny_mono (he cl s2 H2 fp _ s8 σ7 H8 _ I8 q8) (fun y s9 ⟨yv,H9,I9,r9,ys,hl,hz,q9⟩=>?_) xe_
     refine wpAny_mono (la (X:=blkCx X N scope cl s2 H2 fp) _ s9 σ7 H9 (.ref s2.heap.objs.size) [yv] (.ref s2.heap.objs.size) [y] (fun _ H10=>Nx σ7 H10) I9 rfl (.cons r9 .nil) ⟨_,ys,yv,rfl,rfl,hl,hz,q9⟩) (fun _ s10 ⟨_,H10,I10,_,q10⟩=>?_) xe_
     exact again I10 q10
 exact codeAny_compStart_list (loop _ rfl) (T.self _ 0 _ _ _ st3 (loop _ rfl))
def tComp (ix:List (Option Nat)) (wi:TI) (g:TG) (tt:TT) (te:TE):TE:=fun σ H Q=>mr ix wi g tt te (fun l H'=>Q (.ref l) H') σ H
def sComp (k:Nat) (ix:List (Option Nat)) (wi:TI) (g:TG) (tt:TT) (te:TE):TS:=fun D σ H=>mr ix wi g tt te (fun l H'=>D.nx (σ.set k (some (.ref l))) H') σ H
theorem nZ (I:Inv X pins σ H s) {ix:List (Option Nat)} (B:BlkOk X N ix scope):∃ cl,closureFor scope X.env=pure cl∧(∀ x c,cl.lookup x=some c→X.env.cells.lookup x=some c)∧∀ x,(x,NameKind.free)∈scope.names→∃ c,cl.lookup x=some c:=
 oS fun x hx=>I.ok.has x (B.free x hx)
theorem jc {ix:List (Option Nat)} (B:BlkOk X N ix scope):∀ x∈scope.names,x.2=NameKind.local→scope.names.lookup x.1=some .local:=fun x hx e=>by
 obtain ⟨n,k⟩:=x
 cases e
 exact bZ B.names hx
theorem ko {tg iter elt:Expr} {ifs:List Expr} {pos:Pos} {ix:List (Option Nat)} {wi:TI} {g:TG} {tt:TT} {te:TE} (N:List Str) (B:BlkOk X N ix scope) (hc:X.calm=true)
  (hi:PI X tg iter wi) (hg:∀ cl s H fp,PG (blkCx X N scope cl s H fp) tg g) (ht:∀ cl s H fp,PTs (blkCx X N scope cl s H fp) ifs tt) (he:∀ cl s H fp,PE (blkCx X N scope cl s H fp) elt te)
  (hs:∀ x,foldedSetIterable iter X.env x=pure x:=by intro _; rfl):PE X (.ListComp elt [⟨tg,iter,ifs,0⟩] scope pos) (tComp ix wi g tt te):=by
 intro pins s σ H Q I h
 obtain ⟨cl,e1,e2,e3⟩:=nZ I B
 rw [eval_ListComp]
 refine wpAny_comprehension_free (use:=none) rfl hs e1 B.kind (jc B) ?_
 refine mt (RR:=fun acc C=>compPost (model X.prog X.w) X.A X.xe none (EP X pins σ Q) acc C) B hc hi hg ht he e2 e3 I h (fun s2 H2 fp σ3 H3 s3 I2 f2 J q=>?_) (fun a C x s' q=>q)
 obtain ⟨m,hn,_⟩:=J.loc
 exact ⟨m,hn,fun h' sb=>⟨.ref _,H3,nY I2 J f2 sb,rfl,q⟩⟩
theorem n3 {y:Str} {py spos:Pos} {k:Nat} {tg iter elt:Expr} {ifs:List Expr} {pos:Pos} {ix:List (Option Nat)} {wi:TI} {g:TG} {tt:TT} {te:TE} (hN:X.N.Nodup) (hy:X.N[k]? =some y) (hx:Loc X.env.scope y)
  (hsw:swapsWith (.ListComp elt [⟨tg,iter,ifs,0⟩] scope pos) (some (.Name y py)) spos.line X.env=pure true) (N:List Str) (B:BlkOk X N ix scope) (hc:X.calm=true)
  (hi:PI X tg iter wi) (hg:∀ cl s H fp,PG (blkCx X N scope cl s H fp) tg g) (ht:∀ cl s H fp,PTs (blkCx X N scope cl s H fp) ifs tt) (he:∀ cl s H fp,PE (blkCx X N scope cl s H fp) elt te)
  (hs:∀ x,foldedSetIterable iter X.env x=pure x:=by intro _; rfl) (hf:X.fn y=true∨X.env.scope.names.lookup y=some .local:=by first | exact .inl rfl | exact .inr rfl | assumption):
  PS X (.Assign [.Name y py] (.ListComp elt [⟨tg,iter,ifs,0⟩] scope pos) spos) (sComp k ix wi g tt te):=by
 intro pins s σ H D I h
 obtain ⟨cl,e1,e2,e3⟩:=nZ I B
 rw [exec_Assign_Name_used _ _ _ _ hsw]
 refine wpAny_bind (wpAny_standAt (wpAny_bind ?_))
 show wpAny _ X.A (do let _ ← comprehension (.ListComp elt [⟨tg,iter,ifs,0⟩] scope pos) scope X.env _ (newList []) false (eval iter X.env) (some (assign (.Name y py) X.env))) _ _ s
 refine wpAny_bind (wpAny_mono (wpAny_comprehension_free (use:=some (assign (.Name y py) X.env)) (Q:=fun _ s'=>SP X pins D .next s') rfl hs e1 B.kind (jc B) ?_) (fun _ s' hq=>wpAny_pure (wpAny_pure hq)) fun _ _ e=>e)
 refine mt (RR:=fun acc C=>compPost (model X.prog X.w) X.A X.xe (some (assign (.Name y py) X.env)) (fun _ s'=>SP X pins D .next s') acc C) B hc hi hg ht he e2 e3 I h (fun s2 H2 fp σ3 H3 s3 I2 f2 J q=>?_) (fun a C x s' q=>q)
 obtain ⟨m,hn,_⟩:=J.loc
 have I3:Inv X pins σ H3 { s3 with heap:=s3.heap }:=nY I2 J f2 (Heap.SameBut.refl _ _)
 show wpAny _ X.A (assign (.Name y py) X.env (.ref _)) _ _ _
 refine wpAny_assign_Name (kU (v:=.ref _) I3 hN hy hx rfl (fun s4 I4 ⟨a,sb4,ha⟩=>?_) hf)
 have hlt:a < s2.heap.objs.size:=by
  rcases ha with rfl | ha
  · exact I2.lt
  · obtain ⟨v,z⟩:=I2.cell _ _ ha
    exact z.lt
 have hCa:s2.heap.objs.size+1≠a:=Nat.ne_of_gt (Nat.lt_succ_of_lt hlt)
 refine ⟨m,hn.sameBut sb4 hCa,fun h' sb=>?_⟩
 refine ⟨_,H3,I4.turned (t':=s4.toks) (it:=s2.heap.objs.size+1) (fun b o hb e=>(sb.2 b hb).trans e) J.free (Nat.ne_of_gt (Nat.lt_succ_of_lt I2.lt)) (.inr (Nat.le_trans I2.sz (Nat.le_succ _))) (fun x c e=>?_) (fun p hp=>?_),q⟩
 · obtain ⟨v,z⟩:=I2.cell x c e
   exact Nat.ne_of_lt (Nat.lt_succ_of_lt z.lt)
 · exact Nat.ne_of_lt (Nat.lt_succ_of_lt (Heap.lt_size (I2.pin p hp).1))
end
end L2
namespace L2
open PySem PySem.Spec PyProof.Rows
def bnd {α:Type}:Option α→(α→Prop)→Prop
 | some a,k=>k a
 | none,_=>False
theorem bu {α:Type} {o:Option α} {a:α} {k:α→Prop} (h:o=some a) (q:k a):bnd o k:=by subst h; exact q
theorem aR {α:Type} {o:Option α} {k:α→Prop} (h:bnd o k):∃ a,o=some a∧k a:=by
 cases o with
 | none=>exact h.elim
 | some a=>exact ⟨a,rfl,h⟩
theorem ee {α:Type} {a:α} {k:α→Prop}:bnd (some a) k=k a:=rfl
def unM:Option HO→Option (List V)
 | some (.lst xs)=>some xs
 | _=>none
def unL:Option HO→Option (List V)
 | some (.lst xs)=>some xs
 | some (.frz _ (.lst xs))=>some xs
 | _=>none
def unS:Option HO→Option (List V)
 | some (.lst xs)=>some xs
 | some (.frz _ (.lst xs))=>some xs
 | some (.tup xs)=>some xs
 | _=>none
theorem fq {o:Option HO} {xs:List V} (h:unM o=some xs):o=some (.lst xs):=by
 unfold unM at h; split at h
 · cases h; rfl
 · cases h
theorem mv {K:PySem.W.Frag} {H:Hp} {p:Addr} {xs:List V} (h:unL (H p)=some xs):SqL K H p xs:=by
 unfold unL at h; split at h
 · rename_i e; cases h; exact .inl (.inl e)
 · rename_i o _ e; cases h; exact .inl (.inr ⟨_,e⟩)
 · cases h
theorem gl {K:PySem.W.Frag} {H:Hp} {p:Addr} {xs:List V} (h:unS (H p)=some xs):SqL K H p xs∨SqT K H p xs:=by
 unfold unS at h; split at h
 · rename_i e; cases h; exact .inl (.inl (.inl e))
 · rename_i o _ e; cases h; exact .inl (.inl (.inr ⟨_,e⟩))
 · rename_i e; cases h; exact .inr (.inl (.inl e))
 · cases h
mutual
inductive DV (K:PySem.W.Frag) (H:Hp):V→PyData→Prop
 | non:DV K H .non .none
 | bl (b:Bool):DV K H (.bl b) (.bool b)
 | int (i:Int):DV K H (.int i) (.int i)
 | str (x:Str):DV K H (.str x) (.str x)
 | lst {a:Addr} {xs:List V} {ds:List PyData}:SqL K H a xs→DVs K H xs ds→DV K H (.ref a) (.list ds)
 | tup {a:Addr} {xs:List V} {ds:List PyData}:SqT K H a xs→DVs K H xs ds→DV K H (.ref a) (.tuple ds)
inductive DVs (K:PySem.W.Frag) (H:Hp):List V→List PyData→Prop
 | nil:DVs K H [] []
 | cons {x:V} {d:PyData} {xs:List V} {ds:List PyData}:DV K H x d→DVs K H xs ds→DVs K H (x::xs) (d::ds)
end
section
variable {X:Cx} {pins:List (Addr × Obj)} {σ:St} {H:Hp} {s:Shared}
mutual
theorem DV.reads (I:Inv X pins σ H s):∀ {x:V} {d:PyData} {v:Value},DV X.K H x d→RelV x v→∃ as,Reads s.heap v d as
 | _,_,_,.non,r=>by cases r; exact ⟨_,.none⟩
 | _,_,_,.bl b,r=>by cases r; exact ⟨_,.bool b⟩
 | _,_,_,.int i,r=>by obtain ⟨t,rfl⟩:=r; exact ⟨_,.int i t⟩
 | _,_,_,.str x,r=>by obtain ⟨t,rfl⟩:=r; exact ⟨_,.str x t⟩
 | _,_,_,.lst (a:=a) h hs,r=>by
  cases r
  obtain ⟨its,rv,p,_⟩:=I.list h
  obtain ⟨as,q⟩:=DVs.reads I hs rv
  obtain ⟨o,h1,h2,n,h3⟩:=p.isList
  exact ⟨_,.list h1 h2 h3 q⟩
 | _,_,_,.tup (a:=a) h hs,r=>by
  cases r
  obtain ⟨its,rv,p,_⟩:=I.tuple h
  obtain ⟨as,q⟩:=DVs.reads I hs rv
  obtain ⟨o,h1,h2,n,h3⟩:=p
  exact ⟨_,.tuple h1 h2 h3 q⟩
theorem DVs.reads (I:Inv X pins σ H s):∀ {xs:List V} {ds:List PyData} {us:List Value},DVs X.K H xs ds→Vals xs us→∃ as,ReadsAll s.heap us ds as
 | _,_,_,.nil,.nil=>⟨_,.nil⟩
 | _,_,_,.cons h hs,.cons r rs=>by
  obtain ⟨as,q⟩:=DV.reads I h r
  obtain ⟨bs,q2⟩:=DVs.reads I hs rs
  exact ⟨_,.cons q q2⟩
end
end
theorem DVs.ints {K:PySem.W.Frag} {H:Hp}:∀ ns:List Int,DVs K H (ns.map V.int) (ns.map PyData.int)
 | []=>.nil
 | n::r=>.cons (.int n) (DVs.ints r)
theorem mw:∀ ns ms:List Int,PyData.eqvAll (ns.map PyData.int) (ms.map PyData.int)=decide (ns=ms):=PySem.W.ked_eqvAll
theorem jj:∀ ns:List Int,PyData.canLayAll0 (ns.map PyData.int)=true
 | []=>rfl
 | n::r=>by rw [List.map_cons,PyData.canLayAll0,jj r]; rfl
theorem gE:∀ ns:List Int,PyData.depthAll (ns.map PyData.int)=0
 | []=>rfl
 | n::r=>by rw [List.map_cons,PyData.depthAll,gE r]; rfl
theorem jd (ns:List Int):SeqAt.shaped (.list (ns.map PyData.int))=true:=by
 simp [SeqAt.shaped,PyData.canLay0,jj,PyData.depth,gE]
def cAdd:R2
 | .int i,.int j,H,Q=>Q (.int (i+j)) H
 | .str i,.str j,H,Q=>i.length+j.length≤sizeLine∧Q (.str (i++j)) H
 | .ref l,.ref b,H,Q=>bnd (unM (H l)) fun xs=>bnd (unM (H b)) fun zs=>xs.length+zs.length≤sizeLine∧∀ p,H p=none→Q (.ref p) (upd H p (.lst (xs++zs)))
 | _,_,_,_=>False
def cSub:R2
 | .int i,.int j,H,Q=>Q (.int (i - j)) H
 | _,_,_,_=>False
def cMul:R2
 | .int i,.int j,H,Q=>CMul i j∧Q (.int (i*j)) H
 | _,_,_,_=>False
def cDiv:R2
 | .int i,.int j,H,Q=>CDiv i j∧Q (.int (i / j)) H
 | _,_,_,_=>False
def cMod:R2
 | .int i,.int j,H,Q=>0 < j∧Q (.int (i % j)) H
 | _,_,_,_=>False
def cPow:R2
 | .int i,.int j,H,Q=>CPow i j∧Q (.int (i^j.toNat)) H
 | _,_,_,_=>False
def cCmp (g:Int→Int→Bool):R2
 | .int i,.int j,H,Q=>Q (.bl (g i j)) H
 | _,_,_,_=>False
def rEqD (K:PySem.W.Frag):R2:=fun x y H Q=>∃ d e,DV K H x d∧DV K H y e∧SeqAt.shaped d=true∧SeqAt.shaped e=true∧Q (.bl (PyData.eqv d e)) H
def rNeD (K:PySem.W.Frag):R2:=fun x y H Q=>∃ d e,DV K H x d∧DV K H y e∧SeqAt.shaped d=true∧SeqAt.shaped e=true∧Q (.bl (!PyData.eqv d e)) H
def cEq (K:PySem.W.Frag):R2
 | .int i,.int j,H,Q=>Q (.bl (decide (i=j))) H
 | .bl i,.bl j,H,Q=>Q (.bl (decide (i=j))) H
 | .str i,.str j,H,Q=>Q (.bl (decide (i=j))) H
 | x,y,H,Q=>rEqD K x y H Q
def cNe (K:PySem.W.Frag):R2
 | .int i,.int j,H,Q=>Q (.bl (!decide (i=j))) H
 | .bl i,.bl j,H,Q=>Q (.bl (!decide (i=j))) H
 | .str i,.str j,H,Q=>Q (.bl (!decide (i=j))) H
 | x,y,H,Q=>rNeD K x y H Q
def rInD (K:PySem.W.Frag) (neg:Bool):R2:=fun x y H Q=>∃ d ds,DV K H x d∧(DV K H y (.list ds)∨DV K H y (.tuple ds))∧PyData.canLayAll0 ds=true∧PyData.canLay0 d=true∧min (PyData.depthAll ds) d.depth≤62∧
 Q (.bl (if neg then !ds.any (fun y=>PyData.eqv y d) else ds.any fun y=>PyData.eqv y d)) H
def keyOf:V→Option Key
 | .int i=>some (.inl i)
 | .str x=>some (.inr x)
 | _=>none
def unD:Option HO→Option (List (Key × V))
 | some (.dK kvs)=>some kvs
 | _=>none
def cIn (K:PySem.W.Frag) (neg:Bool):R2
 | .ref a,y,H,Q=>rInD K neg (.ref a) y H Q
 | x,.ref p,H,Q=>(match unD (H p) with
  | some kvs=>bnd (keyOf x) fun k=>Q (.bl (if neg then !(valV kvs k).isSome else (valV kvs k).isSome)) H
  | none=>bnd (unS (H p)) fun xs=>flatV x=true∧xs.all flatV=true∧Q (.bl (if neg then !inV x xs else inV x xs)) H)
 | .str i,.str j,H,Q=>Q (.bl (if neg then !(!(Builtin.Str.occurrences j i 0 j.length 1).isEmpty) else !(Builtin.Str.occurrences j i 0 j.length 1).isEmpty)) H
 | _,_,_,_=>False
def cIx:R2
 | .ref p,y,H,Q=>(match unD (H p) with
  | some kvs=>bnd (keyOf y) fun k=>bnd (valV kvs k) fun v=>Q v H
  | none=>match y with
   | .int i=>bnd (unS (H p)) fun xs=>bnd (atI xs i) fun v=>Q v H
   | _=>False)
 | .str z,.int i,H,Q=>z.length≤sizeLine∧bnd (atI z.cps.toList i) fun c=>Q (.str ⟨#[c]⟩) H
 | _,_,_,_=>False
theorem jD {o:Option HO} {kvs:List (Key × V)} (h:unD o=some kvs):o=some (.dK kvs):=by
 unfold unD at h; split at h
 · cases h; rfl
 · cases h
theorem jk {x:V} {k:Key} (h:keyOf x=some k):x=kV k:=by
 unfold keyOf at h; split at h
 · cases h; rfl
 · cases h; rfl
 · cases h
section
variable {X:Cx} {a b c:Expr} {ta tb tc:TE} {pos:Pos}
theorem az:OpR X (binaryOp .Add) cAdd:=by
 intro pins s σ H x y v u Q I rx ry h
 unfold cAdd at h
 split at h
 · exact tu pins s σ H _ _ v u Q I rx ry ⟨_,_,rfl,rfl,h⟩
 · exact oJ pins s σ H _ _ v u Q I rx ry ⟨_,_,rfl,rfl,h.1,h.2⟩
 · obtain ⟨xs,e1,h⟩:=aR h
   obtain ⟨zs,e2,h⟩:=aR h
   exact tK pins s σ H _ _ v u Q I rx ry ⟨_,_,xs,zs,rfl,rfl,fq e1,fq e2,h.1,h.2⟩
 · exact h.elim
theorem rZ:OpR X (binaryOp .Sub) cSub:=by
 intro pins s σ H x y v u Q I rx ry h
 unfold cSub at h
 split at h
 · exact tw pins s σ H _ _ v u Q I rx ry ⟨_,_,rfl,rfl,h⟩
 · exact h.elim
theorem bE:OpR X (binaryOp .Mult) cMul:=by
 intro pins s σ H x y v u Q I rx ry h
 unfold cMul at h
 split at h
 · exact tz pins s σ H _ _ v u Q I rx ry ⟨_,_,rfl,rfl,h.1,h.2⟩
 · exact h.elim
theorem aP:OpR X (binaryOp .FloorDiv) cDiv:=by
 intro pins s σ H x y v u Q I rx ry h
 unfold cDiv at h
 split at h
 · exact rM pins s σ H _ _ v u Q I rx ry ⟨_,_,rfl,rfl,h.1,h.2⟩
 · exact h.elim
theorem aF:OpR X (binaryOp .Mod) cMod:=by
 intro pins s σ H x y v u Q I rx ry h
 unfold cMod at h
 split at h
 · exact tD pins s σ H _ _ v u Q I rx ry ⟨_,_,rfl,rfl,h.1,h.2⟩
 · exact h.elim
theorem r8:OpR X (binaryOp .Pow) cPow:=by
 intro pins s σ H x y v u Q I rx ry h
 unfold cPow at h
 split at h
 · exact tE pins s σ H _ _ v u Q I rx ry ⟨_,_,rfl,rfl,h.1,h.2⟩
 · exact h.elim
theorem iN {op:CmpOp} {g:Int→Int→Bool} (o:OpR X (compareOp op) (rI0 fun i j=>.bl (g i j))):OpR X (compareOp op) (cCmp g):=by
 intro pins s σ H x y v u Q I rx ry h
 unfold cCmp at h
 split at h
 · exact o pins s σ H _ _ v u Q I rx ry ⟨_,_,rfl,rfl,h⟩
 · exact h.elim
theorem pK:OpR X (compareOp .Lt) (cCmp fun i j=>decide (i < j)):=iN uy
theorem g5:OpR X (compareOp .LtE) (cCmp fun i j=>decide (i≤j)):=iN uz
theorem ft:OpR X (compareOp .Gt) (cCmp fun i j=>decide (j < i)):=iN uA
theorem tM:OpR X (compareOp .GtE) (cCmp fun i j=>decide (j≤i)):=iN uB
theorem tN (hu:X.A.units+64 < cLine):OpR X (compareOp .Eq) (rEqD X.K):=by
 intro pins s σ H x y v u Q I rx ry h
 obtain ⟨d,e,h1,h2,h3,h4,q⟩:=h
 obtain ⟨as,r1⟩:=h1.reads I rx
 obtain ⟨bs,r2⟩:=h2.reads I ry
 exact eq_dataH r1 r2 h3 h4 hu ⟨.bl _,H,I,rfl,q⟩
theorem tO (hu:X.A.units+64 < cLine):OpR X (compareOp .NotEq) (rNeD X.K):=by
 intro pins s σ H x y v u Q I rx ry h
 obtain ⟨d,e,h1,h2,h3,h4,q⟩:=h
 obtain ⟨as,r1⟩:=h1.reads I rx
 obtain ⟨bs,r2⟩:=h2.reads I ry
 exact ne_dataH r1 r2 h3 h4 hu ⟨.bl _,H,I,rfl,q⟩
theorem aK (hu:X.A.units+64 < cLine):OpR X (compareOp .Eq) (cEq X.K):=by
 intro pins s σ H x y v u Q I rx ry h
 unfold cEq at h
 split at h
 · refine oH pins s σ H _ _ v u Q I rx ry ⟨rfl,?_⟩
   simpa using h
 · refine oH pins s σ H _ _ v u Q I rx ry ⟨rfl,?_⟩
   simpa using h
 · refine oH pins s σ H _ _ v u Q I rx ry ⟨rfl,?_⟩
   simpa using h
 · exact tN hu pins s σ H _ _ v u Q I rx ry h
theorem g6 (hu:X.A.units+64 < cLine):OpR X (compareOp .NotEq) (cNe X.K):=by
 intro pins s σ H x y v u Q I rx ry h
 unfold cNe at h
 split at h
 · refine oI pins s σ H _ _ v u Q I rx ry ⟨rfl,?_⟩
   simpa using h
 · refine oI pins s σ H _ _ v u Q I rx ry ⟨rfl,?_⟩
   simpa using h
 · refine oI pins s σ H _ _ v u Q I rx ry ⟨rfl,?_⟩
   simpa using h
 · exact tO hu pins s σ H _ _ v u Q I rx ry h
theorem tP (hu:X.A.units+64 < cLine):OpR X (compareOp .In) (rInD X.K false):=by
 intro pins s σ H x y v u Q I rx ry h
 obtain ⟨d,ds,h1,h2,h3,h4,h5,q⟩:=h
 obtain ⟨as,r1⟩:=h1.reads I rx
 rcases h2 with h2 | h2
 · obtain ⟨bs,r2⟩:=h2.reads I ry
   exact SeqAt.in_list_reads r2 r1 h3 h4 (by omega) ⟨.bl _,H,I,rfl,q⟩
 · obtain ⟨bs,r2⟩:=h2.reads I ry
   exact SeqAt.in_tuple_reads r2 r1 h3 h4 (by omega) ⟨.bl _,H,I,rfl,q⟩
theorem pL (hu:X.A.units+64 < cLine):OpR X (compareOp .NotIn) (rInD X.K true):=by
 intro pins s σ H x y v u Q I rx ry h
 obtain ⟨d,ds,h1,h2,h3,h4,h5,q⟩:=h
 obtain ⟨as,r1⟩:=h1.reads I rx
 rcases h2 with h2 | h2
 · obtain ⟨bs,r2⟩:=h2.reads I ry
   exact SeqAt.notIn_list_reads r2 r1 h3 h4 (by omega) ⟨.bl _,H,I,rfl,q⟩
 · obtain ⟨bs,r2⟩:=h2.reads I ry
   exact SeqAt.notIn_tuple_reads r2 r1 h3 h4 (by omega) ⟨.bl _,H,I,rfl,q⟩
theorem eI (hu:X.A.units+64 < cLine):OpR X (compareOp .In) (cIn X.K false):=by
 intro pins s σ H x y v u Q I rx ry h
 unfold cIn at h
 split at h
 · exact tP hu pins s σ H _ _ v u Q I rx ry h
 · rename_i p hx
   split at h
   · rename_i kvs e
     obtain ⟨k,ek,q⟩:=aR h
     cases (show u=Value.ref p from ry)
     have g:DGet H p x (valV kvs k):=by rw [jk ek]; exact DGet.k (jD e)
     exact uQ (Nat.lt_of_le_of_lt (Nat.add_le_add_left (by decide:1≤64) _) hu) I g rx fun s' I'=>⟨.bl _,H,I',rfl,q⟩
   · obtain ⟨xs,e,f1,f2,q⟩:=aR h
     exact k8 pins s σ H _ _ v u Q I rx ry ⟨p,xs,rfl,gl e,f1,f2,q⟩
 · exact pw pins s σ H _ _ v u Q I rx ry ⟨_,_,rfl,rfl,h⟩
 · exact h.elim
theorem pM (hu:X.A.units+64 < cLine):OpR X (compareOp .NotIn) (cIn X.K true):=by
 intro pins s σ H x y v u Q I rx ry h
 unfold cIn at h
 split at h
 · exact pL hu pins s σ H _ _ v u Q I rx ry h
 · rename_i p hx
   split at h
   · rename_i kvs e
     obtain ⟨k,ek,q⟩:=aR h
     cases (show u=Value.ref p from ry)
     have g:DGet H p x (valV kvs k):=by rw [jk ek]; exact DGet.k (jD e)
     exact rX (Nat.lt_of_le_of_lt (Nat.add_le_add_left (by decide:1≤64) _) hu) I g rx fun s' I'=>⟨.bl _,H,I',rfl,q⟩
   · obtain ⟨xs,e,f1,f2,q⟩:=aR h
     exact gZ pins s σ H _ _ v u Q I rx ry ⟨p,xs,rfl,gl e,f1,f2,q⟩
 · exact mj pins s σ H _ _ v u Q I rx ry ⟨_,_,rfl,rfl,h⟩
 · exact h.elim
end
end L2
namespace L2
open PySem PySem.Spec PyProof.Rows
section
variable {X:Cx} {a b c:Expr} {ta tb tc:TE} {pos:Pos}
theorem aV (hu:X.A.units+64 < cLine):IxR X cIx:=by
 intro value slice pins s σ H x y v u Q I rx ry h hs
 cases x with
 | ref p=>
  unfold cIx at h
  dsimp only at h
  split at h
  · rename_i kvs e
    obtain ⟨k,ek,h⟩:=aR h
    obtain ⟨z,ez,q⟩:=aR h
    cases (show v=Value.ref p from rx)
    have g:DGet H p y (some z):=by rw [jk ek,← ez]; exact DGet.k (jD e)
    exact tail_any (nI I g) PySem.F.slot_dict_getitem.lookup (pG (Nat.lt_of_le_of_lt (Nat.add_le_add_left (by decide:1≤64) _) hu) I g ry fun w' s3 I3 rw'=>⟨z,H,I3,rw',q⟩) hs
  · split at h
    · obtain ⟨xs,e,h⟩:=aR h
      obtain ⟨z,ez,q⟩:=aR h
      rcases gl (K:=X.K) e with r | r
      · exact nX value slice pins s σ H _ _ v u Q I rx ry ⟨p,xs,_,z,rfl,rfl,r,ez,q⟩ hs
      · exact tF value slice pins s σ H _ _ v u Q I rx ry ⟨p,xs,_,z,rfl,rfl,r,ez,q⟩ hs
    · exact h.elim
 | str zz=>
  cases y with
  | int i=>
   obtain ⟨hz,h⟩:=(show zz.length≤sizeLine∧bnd (atI zz.cps.toList i) fun c=>Q (.str ⟨#[c]⟩) H from h)
   obtain ⟨z,ez,q⟩:=aR h
   exact tG value slice pins s σ H _ _ v u Q I rx ry ⟨_,_,z,rfl,rfl,hz,ez,q⟩ hs
  | _=>exact False.elim h
 | _=>exact False.elim h
def kLen:List V→Hp→VK→Prop
 | [.ref p],H,Q=>(match unD (H p) with
  | some kvs=>Q (.int kvs.length) H
  | none=>bnd (unS (H p)) fun xs=>Q (.int xs.length) H)
 | [.str z],H,Q=>z.length≤sizeLine∧Q (.int z.length) H
 | _,_,_=>False
theorem aI:CallR X (.builtin "len") kLen:=by
 intro pins s σ H xs us Q I r h
 unfold kLen at h
 split at h
 · split at h
   · rename_i kvs e
     exact pH pins s σ H _ us Q I r ⟨_,kvs,rfl,jD e,h⟩
   · obtain ⟨ys,e,q⟩:=aR h
     exact cm pins s σ H _ us Q I r ⟨_,ys,rfl,gl e,q⟩
 · exact ml pins s σ H _ us Q I r ⟨_,rfl,h.1,h.2⟩
 · exact h.elim
def kAbs:List V→Hp→VK→Prop
 | [.int i],H,Q=>Q (.int (if i < 0 then -i else i)) H
 | _,_,_=>False
def kMin:List V→Hp→VK→Prop
 | [.int i,.int j],H,Q=>Q (.int (if j < i then j else i)) H
 | _,_,_=>False
theorem pN (hc:X.calm=true):CallR X (.builtin "min") kMin:=by
 intro pins s σ H xs us Q I r h
 unfold kMin at h
 split at h
 · exact px hc pins s σ H _ us Q I r ⟨_,_,rfl,h⟩
 · exact h.elim
def kMax:List V→Hp→VK→Prop
 | [.int i,.int j],H,Q=>Q (.int (if j > i then j else i)) H
 | _,_,_=>False
def kList:List V→Hp→VK→Prop
 | [.ref p],H,Q=>bnd (unS (H p)) fun ys=>∀ l,H l=none→Q (.ref l) (upd H l (.lst ys))
 | _,_,_=>False
theorem oU:CallR X (.type "list") kList:=by
 intro pins s σ H xs us Q I r h
 unfold kList at h
 split at h
 · obtain ⟨ys,e,q⟩:=aR h
   exact mm pins s σ H _ us Q I r ⟨_,ys,rfl,gl e,q⟩
 · exact h.elim
def gm (H:Hp):V→Option String
 | .non=>some "NoneType"
 | .bl _=>some "bool"
 | .int _=>some "int"
 | .str _=>some "str"
 | .ref p=>match H p with
  | some (.lst _)=>some "list"
  | some (.frz _ (.lst _))=>some "list"
  | some (.tup _)=>some "tuple"
  | some (.dK _)=>some "dict"
  | _=>none
 | _=>none
def isTy (t n:String):Bool:=t==n||(t=="bool"&&n=="int")
def iO (n:String):Bool:=["int","bool","str","list","tuple","dict"].contains n
theorem pO {K:PySem.W.Frag} {H:Hp} {x:V} {t:String} (h:gm H x=some t):TyOf K H x (.type t)∧["NoneType","int","bool","str","list","tuple","dict"].contains t=true:=by
 cases x with
 | non=>cases h; exact ⟨.non,by decide⟩
 | bl b=>cases h; exact ⟨.bl b,by decide⟩
 | int i=>cases h; exact ⟨.int i,by decide⟩
 | str i=>cases h; exact ⟨.str i,by decide⟩
 | byt _=>cases h
 | flt _=>cases h
 | ty _=>cases h
 | ref p=>
  unfold gm at h
  dsimp only at h
  split at h
  · rename_i e; cases h; exact ⟨.lst e,by decide⟩
  · rename_i e; cases h; exact ⟨.frz e,by decide⟩
  · rename_i e; cases h; exact ⟨.tup e,by decide⟩
  · rename_i e; cases h; exact ⟨.dK e,by decide⟩
  · cases h
theorem tQ (K:PySem.W.Frag):∀ t∈["NoneType","int","bool","str","list","tuple","dict"],∀ n∈["int","bool","str","list","tuple","dict"],PySem.W.kitOne K (.type t) (.type n)=some (isTy t n):=by
 intro t ht n hn
 simp only [List.mem_cons,List.not_mem_nil,or_false] at ht hn
 rcases ht with rfl | rfl | rfl | rfl | rfl | rfl | rfl <;> rcases hn with rfl | rfl | rfl | rfl | rfl | rfl <;> rfl
def kIsi:List V→Hp→VK→Prop
 | [x,.ty n],H,Q=>iO n=true∧bnd (gm H x) fun t=>Q (.bl (isTy t n)) H
 | _,_,_=>False
theorem fP:CallR X (.builtin "isinstance") kIsi:=by
 intro pins s σ H xs us Q I r h
 unfold kIsi at h
 split at h
 · obtain ⟨hn,h⟩:=h
   obtain ⟨t,et,q⟩:=aR h
   obtain ⟨u,w,rfl,ru,rw'⟩:=iL r
   cases rw'
   obtain ⟨ty,ht⟩:=pO (K:=X.K) et
   exact pB I ru ty (tQ X.K t (by simpa using ht) _ (by simpa [iO] using hn)) fun tk=>⟨.bl _,H,I.tok tk,rfl,q⟩
 · exact h.elim
def cw:V→List V→Hp→VK→Prop
 | .ref l,[y],H,Q=>bnd (unM (H l)) fun xs=>xs.length < sizeLine∧Q .non (upd H l (.lst (xs++[y])))
 | _,_,_,_=>False
theorem fg:MtR X "list.append" cw:=by
 intro pins s σ H x vs v us Q I rx rv h
 unfold cw at h
 split at h
 · obtain ⟨xs,e,h1,q⟩:=aR h
   exact la pins s σ H _ _ v us Q I rx rv ⟨_,xs,_,rfl,rfl,fq e,h1,q⟩
 · exact h.elim
theorem dg {K:PySem.W.Frag} {H:Hp} {p:Addr} {xs:List V} (h:H p=some (.lst xs)):tyV K "list" (.ref p) H:=.inl ⟨rfl,_,SqL.of h⟩
def cSl:V→Option Int→Option Int→Hp→VK→Prop
 | .ref p,lo,hi,H,Q=>bnd (unL (H p)) fun xs=>∀ l,H l=none→Q (.ref l) (upd H l (.lst (cutV xs lo hi)))
 | _,_,_,_,_=>False
theorem uR:SlR X cSl:=by
 intro pins s σ H x v vl vu lo hi sl Q I rx hs pl pu h
 unfold cSl at h
 split at h
 · obtain ⟨xs,e,q⟩:=aR h
   exact rT pins s σ H _ v vl vu lo hi sl Q I rx hs pl pu ⟨_,xs,rfl,mv e,q⟩
 · exact h.elim
end
structure Cal (P:Program) (w:World) (K:PySem.W.Frag) (mg:Str→Option Value) (base:Heap) (k:Nat) (x:Str) (ps:List Str) (sp:Sp):Prop where
 ex:∃ (f:Addr) (fd:FuncData),FnOk P w K mg base CX0 k f fd ps sp∧mg x=some (.ref f)∧PySem.W.keepIn K (.ref f)=true∧Binds K fd ps []
theorem aU {X:Cx} {k n:Nat} {x:Str} {ps:List Str} {sp:Sp} {p pos:Pos} {e:Expr} {es:List Expr} {t:TA} (C:Cal X.prog X.w X.K X.mg X.base k x ps sp) (hr:Room n X.A) (hk:k≤n) (hg:Gl X x) (ha:PA X (e::es) t)
  (hdb:(x==("__debug__":Str))=false:=by decide) (he:starEach (e::es) X.env=(false,eval e X.env)::starEach es X.env:=by rfl) (hpl:(backTo pos (starEach es X.env)).any (·.1)=false:=by rfl):
  PE X (.Call (.Name x p) (e::es) [] pos) (tCall sp [] E0 t):=by
 obtain ⟨f,fd,F,hm,hkp,hb⟩:=C.ex
 exact nU F (hr.mono hk) hg hm hkp hb .nil oR ha hdb he hpl
end L2
namespace L2
open PySem PySem.Spec PyProof.Rows
theorem aS:bootBuiltins "len"=some (.builtin "len"):=by decide+kernel
theorem tR:bootBuiltins "min"=some (.builtin "min"):=by decide+kernel
theorem tS:bootBuiltins "max"=some (.builtin "max"):=by decide+kernel
theorem aY:bootBuiltins "isinstance"=some (.builtin "isinstance"):=by decide+kernel
theorem n4:bootBuiltins "list"=some (.type "list"):=by decide+kernel
theorem pP:bootBuiltins "int"=some (.type "int"):=by decide+kernel
theorem sd:bootBuiltins "bool"=some (.type "bool"):=by decide+kernel
theorem g7:bootBuiltins "str"=some (.type "str"):=by decide+kernel
theorem mx:bootBuiltins "tuple"=some (.type "tuple"):=by decide+kernel
def compN (scope:Scope):List Str:=(scope.names.filter fun p=>p.2==.local||p.2==.cell||p.2==.free).map (·.1)
def jE (N:List Str) (scope:Scope):List (Option Nat):=(compN scope).map fun x=>if scope.names.lookup x==some .free then N.findIdx? (· ==x) else none
def isCF:Option NameKind→Bool
 | some .cell=>true
 | some .free=>true
 | _=>false
theorem tT {X:Cx} {scope:Scope} (h1:scope.kind=.function) (h2:(scope.names.map (·.1)).Nodup) (h3:(scope.names.all fun p=>p.2 != .free||isCF (X.env.kindOf p.1))=true):BlkOk X (compN scope) (jE X.N scope) scope where
 kind:=h1
 nd:=h2.sublist (List.Sublist.map _ (List.filter_sublist ..))
 len:=by unfold jE; rw [List.length_map]
 names:=h2
 free:=fun x hx=>by
  have:=List.all_eq_true.mp h3 (x,.free) hx
  simp only [bne_self_eq_false,Bool.false_or] at this
  unfold isCF at this
  split at this
  · rename_i e; exact .inl e
  · rename_i e; exact .inr e
  · cases this
 at_:=fun j i x e1 e2=>by
  unfold jE at e2
  rw [List.getElem?_map,e1] at e2
  simp only [Option.map_some,Option.some.injEq] at e2
  split at e2
  · rename_i hf
    obtain ⟨hlt,hp,_⟩:=List.findIdx?_eq_some_iff_getElem.mp e2
    have hx:X.N[i]? =some x:=by
     rw [List.getElem?_eq_getElem hlt]
     have:X.N[i]=x:=by simpa using hp
     rw [this]
    refine ⟨hx,PySem.mem_of_lookup (by simpa using hf)⟩
  · cases e2
end L2
namespace L2
open PySem PySem.Spec PyProof.Rows
section
variable {t u:TS} {D:Ends} {σ:St} {H:Hp} {Q:VK} {ta tb:TE} {R:Bool→Hp→Prop} {c d:TT}
theorem aB:tSeq t u D σ H=t { D with nx:=u D } σ H:=rfl
theorem g8:tNext D σ H=D.nx σ H:=rfl
theorem fQ {g:TG}:tAsg ta g D σ H=ta σ H fun x H1=>g x σ H1 D.nx:=rfl
theorem bF {i:Nat} {v:V} {k:St→Hp→Prop}:gName i v σ H k=k (σ.set i (some v)) H:=rfl
theorem uD {i:Nat}:tVar i σ H Q=∃ v,σ[i]? =some (some v)∧Q v H:=propext ⟨rf,fun ⟨_,e,h⟩=>gB e h⟩
theorem g9 {v:V} {σ:St}:tVar 0 (some v::σ) H Q=Q v H:=rfl
theorem hG {i:Nat} {a:Option V} {σ:St}:tVar (i+1) (a::σ) H Q=tVar i σ H Q:=rfl
theorem w_c {v:V}:tC v σ H Q=Q v H:=rfl
theorem jl {r:R2}:tOp r ta tb σ H Q=ta σ H fun x H1=>tb σ H1 fun y H2=>r x y H2 Q:=rfl
theorem jF:tRet ta D σ H=ta σ H D.rt:=rfl
theorem hJ:tRetN D σ H=D.rt .non H:=rfl
theorem hU:tDrop ta D σ H=ta σ H fun _ H1=>D.nx σ H1:=rfl
theorem aE:tIfS c t u D σ H=c σ H fun b H1=>if b=true then t D σ H1 else u D σ H1:=rfl
theorem hV:tTest ta σ H R=ta σ H fun x H'=>∃ k,x=.bl k∧R k H':=rfl
theorem w_b:tB ta σ H R=ta σ H fun x H'=>∃ k,x=.bl k∧R k H':=rfl
theorem w_not:tNot c σ H R=c σ H fun k H1=>R (!k) H1:=rfl
theorem jG:tAnd c d σ H R=c σ H fun k H1=>if k=true then d σ H1 R else R false H1:=rfl
theorem my:tOr c d σ H R=c σ H fun k H1=>if k=true then R true H1 else d σ H1 R:=rfl
theorem hX:tNotV ta σ H Q=ta σ H fun x H1=>∃ c,x=.bl c∧Q (.bl (!c)) H1:=rfl
theorem hZ:tAndV ta tb σ H Q=ta σ H fun x H1=>∃ c,x=.bl c∧if c=true then tb σ H1 Q else Q (.bl false) H1:=rfl
theorem jH:tOrV ta tb σ H Q=ta σ H fun x H1=>∃ c,x=.bl c∧if c=true then Q (.bl true) H1 else tb σ H1 Q:=rfl
theorem jI {k:List V→Hp→Prop}:tNil σ H k=k [] H:=rfl
theorem ia {tr:TA} {k:List V→Hp→Prop}:tCons ta tr σ H k=ta σ H fun x H1=>tr σ H1 fun xs H2=>k (x::xs) H2:=rfl
theorem mz {r:List V→Hp→VK→Prop} {tr:TA}:tCB r tr σ H Q=tr σ H fun vs H1=>r vs H1 Q:=rfl
theorem ib {sp:Sp} {dvs:List V} {E:XK} {tr:TA}:tCall sp dvs E tr σ H Q=tr σ H fun vs H1=>sp (vs++dvs) H1 Q E:=rfl
theorem jJ {tr:TA}:tTup tr σ H Q=tr σ H fun xs H1=>xs.length≤sizeLine∧∀ p,H1 p=none→Q (.ref p) (upd H1 p (.tup xs)):=rfl
theorem jK {tr:TA}:tLst tr σ H Q=tr σ H fun xs H1=>xs.length≤sizeLine∧∀ p,H1 p=none→Q (.ref p) (upd H1 p (.lst xs)):=rfl
theorem mB {K:PySem.W.Frag} {T:String} {r:V→List V→Hp→VK→Prop} {tr:TA}:tBM K T r ta tr σ H Q=ta σ H fun x H1=>tyV K T x H1∧tr σ H1 fun xs H2=>r x xs H2 Q:=rfl
theorem jL {K:PySem.W.Frag} {T:String} {r:V→List V→Hp→VK→Prop}:qC K T r ta σ H Q=ta σ H fun x H1=>tyV K T x H1∧r x [] H1 Q:=rfl
theorem ic:tTrue σ H R=R true H:=rfl
theorem ie:tL σ H Q=∀ p,H p=none→Q (.ref p) (upd H p (.dK [])):=rfl
theorem ig {td ty tv:TE}:sDPut td ty tv D σ H=tv σ H fun v H1=>td σ H1 fun x H2=>ty σ H2 fun y H3=>∃ a H4,x=.ref a∧DPut H3 a y v H4∧D.nx σ H4:=rfl
theorem jM {i j:Int}:cAdd (.int i) (.int j) H Q=Q (.int (i+j)) H:=rfl
theorem jN {i j:Int}:cSub (.int i) (.int j) H Q=Q (.int (i - j)) H:=rfl
theorem jO {i j:Int}:cMul (.int i) (.int j) H Q=(CMul i j∧Q (.int (i*j)) H):=rfl
theorem jP {i j:Int}:cDiv (.int i) (.int j) H Q=(CDiv i j∧Q (.int (i / j)) H):=rfl
theorem jQ {i j:Int}:cMod (.int i) (.int j) H Q=(0 < j∧Q (.int (i % j)) H):=rfl
theorem jR {g:Int→Int→Bool} {i j:Int}:cCmp g (.int i) (.int j) H Q=Q (.bl (g i j)) H:=rfl
theorem jS {K:PySem.W.Frag} {i j:Int}:cEq K (.int i) (.int j) H Q=Q (.bl (decide (i=j))) H:=rfl
theorem jT {K:PySem.W.Frag} {i j:Int}:cNe K (.int i) (.int j) H Q=Q (.bl (!decide (i=j))) H:=rfl
theorem jU {K:PySem.W.Frag} {i j:Bool}:cEq K (.bl i) (.bl j) H Q=Q (.bl (decide (i=j))) H:=rfl
theorem jV {K:PySem.W.Frag} {i j:Bool}:cNe K (.bl i) (.bl j) H Q=Q (.bl (!decide (i=j))) H:=rfl
theorem qG {p:Addr} {i:Int} {xs:List V} (h:H p=some (.tup xs)):cIx (.ref p) (.int i) H Q=bnd (atI xs i) fun v=>Q v H:=by
 unfold cIx; dsimp only; rw [h]; rfl
theorem uE {p:Addr} {i:Int} {xs:List V} (h:H p=some (.lst xs)):cIx (.ref p) (.int i) H Q=bnd (atI xs i) fun v=>Q v H:=by
 unfold cIx; dsimp only; rw [h]; rfl
theorem jW {i:Int}:kAbs [.int i] H Q=Q (.int (if i < 0 then -i else i)) H:=rfl
theorem jX {i j:Int}:kMin [.int i,.int j] H Q=Q (.int (if j < i then j else i)) H:=rfl
theorem dI {p:Addr} {xs:List V} (h:H p=some (.lst xs)):kLen [.ref p] H Q=Q (.int xs.length) H:=by
 unfold kLen; dsimp only; rw [h]; rfl
theorem jm {p:Addr} {xs:List V} {y:V} (h:H p=some (.lst xs)):cw (.ref p) [y] H Q=(xs.length < sizeLine∧Q .non (upd H p (.lst (xs++[y])))):=by
 unfold cw; dsimp only; rw [h]; rfl
end
def LoopR (J:It) (g:TG) (tb:TS) (D:Ends) (σ:St) (H1:Hp):Prop:=∃ W:Nat→Nat→St→Hp→Prop,(∃ m,W 0 m σ H1)∧∀ i m σ H,W i m σ H→
 (J.stop i H∧D.nx σ H)∨(J.go i H∧∃ N:St→Hp→Prop,(∀ σ' H',N σ' H'→∃ m',m' < m∧W (i+1) m' σ' H')∧∀ x H',J.yld i H x H'→g x σ H' fun σ2 H2=>tb { D with nx:=N,ct:=N,bk:=D.nx } σ2 H2)
def CompR (J:It) (g:TG) (tt:TT) (te:TE) (fin:Addr→Hp→Prop) (σ0:St) (H1:Hp):Prop:=∀ l,H1 l=none→
 ∃ W:Nat→Nat→St→Hp→Prop,(∃ m,W 0 m σ0 (upd H1 l (.lst [])))∧∀ i m σ' H',W i m σ' H'→
  (J.stop i H'∧fin l H')∨(J.go i H'∧∃ N:St→Hp→Prop,(∀ σ'' H'',N σ'' H''→∃ m',m' < m∧W (i+1) m' σ'' H'')∧∀ x H2,J.yld i H' x H2→g x σ' H2 fun σ2 H3=>tt σ2 H3 fun b H4=>
   if b=true then te σ2 H4 fun y H5=>∃ ys,H5 l=some (.lst ys)∧ys.length < sizeLine∧N σ2 (upd H5 l (.lst (ys++[y]))) else N σ2 H4)
section
variable {K:PySem.W.Frag} {g:TG} {tb:TS} {D:Ends} {σ:St} {H:Hp} {tl:TE} {ta:TA} {ix:List (Option Nat)} {tt:TT} {te:TE} {k:Nat} {Q:VK}
theorem ii:tFor (iList K tl) g tb D σ H=tl σ H fun x H1=>∃ a,x=.ref a∧(∃ xs,SqL K H1 a xs)∧LoopR (Itl K a) g tb D σ H1:=rfl
theorem gn:tFor (iJ ta) g tb D σ H=ta σ H fun vs H1=>∃ j:Int,vs=[.int j]∧ -(2^62)≤j∧j < 2^62∧LoopR (Itr 0 j.toNat) g tb D σ H1:=rfl
theorem gp:tFor (iK ta) g tb D σ H=ta σ H fun vs H1=>∃ i j:Int,vs=[.int i,.int j]∧(-(2^62)≤i∧i < 2^62∧ -(2^62)≤j∧j < 2^62)∧LoopR (Itr i (j - i).toNat) g tb D σ H1:=rfl
theorem gq:tComp ix (iList K tl) g tt te σ H Q=tl σ H fun x H1=>∃ a,x=.ref a∧(∃ xs,SqL K H1 a xs)∧CompR (Itl K a) g tt te (fun l H'=>Q (.ref l) H') (subσ ix σ) H1:=rfl
theorem fu:tComp ix (iJ ta) g tt te σ H Q=ta σ H fun vs H1=>∃ j:Int,vs=[.int j]∧ -(2^62)≤j∧j < 2^62∧CompR (Itr 0 j.toNat) g tt te (fun l H'=>Q (.ref l) H') (subσ ix σ) H1:=rfl
theorem fv:sComp k ix (iList K tl) g tt te D σ H=tl σ H fun x H1=>∃ a,x=.ref a∧(∃ xs,SqL K H1 a xs)∧CompR (Itl K a) g tt te (fun l H'=>D.nx (σ.set k (some (.ref l))) H') (subσ ix σ) H1:=rfl
theorem eJ:sComp k ix (iJ ta) g tt te D σ H=ta σ H fun vs H1=>∃ j:Int,vs=[.int j]∧ -(2^62)≤j∧j < 2^62∧CompR (Itr 0 j.toNat) g tt te (fun l H'=>D.nx (σ.set k (some (.ref l))) H') (subσ ix σ) H1:=rfl
theorem lf {a:Addr} {xs:List V} {fin:Addr→Hp→Prop} {σ0:St} {H1:Hp} (Pv:Addr→Nat→St→Hp→Prop) (h0:∀ l,H1 l=none→Pv l 0 σ0 (upd H1 l (.lst []))) (hq:∀ l i σ H,H1 l=none→i≤xs.length→Pv l i σ H→SqL K H a xs)
  (hs:∀ l i x σ H,H1 l=none→xs[i]? =some x→Pv l i σ H→g x σ H fun σ2 H3=>tt σ2 H3 fun b H4=>if b=true then te σ2 H4 fun y H5=>∃ ys,H5 l=some (.lst ys)∧ys.length < sizeLine∧Pv l (i+1) σ2 (upd H5 l (.lst (ys++[y]))) else Pv l (i+1) σ2 H4)
  (hd:∀ l σ H,H1 l=none→Pv l xs.length σ H→fin l H):CompR (Itl K a) g tt te fin σ0 H1:=by
 intro l hl0
 refine ⟨fun i m σ H=>m=xs.length - i∧i≤xs.length∧Pv l i σ H,⟨xs.length,by simp,Nat.zero_le _,h0 l hl0⟩,?_⟩
 rintro i m σ H ⟨rfl,hi,p⟩
 have q:=hq l i σ H hl0 hi p
 by_cases hlt:i < xs.length
 · refine .inr ⟨⟨xs,xs[i],q,by simp [hlt]⟩,Pv l (i+1),fun σ' H' p'=>⟨xs.length - (i+1),by omega,rfl,hlt,p'⟩,fun x H' y=>?_⟩
   obtain ⟨e,y⟩:=y
   subst e
   exact hs l i x σ _ hl0 (y xs q) p
 · have e:i=xs.length:=by omega
   subst e
   exact .inl ⟨⟨xs,q,Nat.le_refl _⟩,hd l σ H hl0 p⟩
theorem uF {p q:Addr} {xs ys:List Int} (hp:H p=some (.lst (xs.map V.int))) (hq:H q=some (.lst (ys.map V.int))) (h:Q (.bl (decide (xs=ys))) H):cEq K (.ref p) (.ref q) H Q:=by
 show rEqD K (.ref p) (.ref q) H Q
 refine ⟨.list (xs.map PyData.int),.list (ys.map PyData.int),.lst (SqL.of hp) (.ints xs),.lst (SqL.of hq) (.ints ys),jd xs,jd ys,?_⟩
 rw [PyData.eqv,mw]
 exact h
end
theorem gr {X:Cx} {N:List Str} {ix:List (Option Nat)} {scope:Scope} (h1:scope.kind=.function) (h2:(scope.names.map (·.1)).Nodup) (h3:(scope.names.all fun p=>p.2 != .free||isCF (X.env.kindOf p.1))=true) (h4:N=compN scope) (h5:ix=jE X.N scope):BlkOk X N ix scope:=by
 subst h4 h5
 exact tT h1 h2 h3
def kLenS (K:PySem.W.Frag):List V→Hp→VK→Prop:=fun xs H Q=>∃ p ys,xs=[.ref p]∧(SqL K H p ys∨SqT K H p ys)∧Q (.int ys.length) H
structure Bt (mg:Str→Option Value):Prop where
 len_:mg "len"=none
 abs_:mg "abs"=none
 min_:mg "min"=none
 max_:mg "max"=none
 sorted_:mg "sorted"=none
 any_:mg "any"=none
 isinstance_:mg "isinstance"=none
 list_:mg "list"=none
 int_:mg "int"=none
 bool_:mg "bool"=none
 str_:mg "str"=none
 tuple_:mg "tuple"=none
 reversed_:mg "reversed"=none
 set_:mg "set"=none
 range_:mg "range"=none
 zip_:mg "zip"=none
end L2
namespace L2
open PySem PySem.Spec PyProof.Rows
theorem Vals.get':∀ {xs:List V} {us:List Value} {i:Nat} {u:Value},Vals xs us→us[i]? =some u→∃ x,xs[i]? =some x∧RelV x u
 | _,_,_,_,.nil,h=>by simp at h
 | _,_,0,_,.cons r _,h=>by simp at h; subst h; exact ⟨_,rfl,r⟩
 | _,_,i+1,_,.cons _ t,h=>by
  obtain ⟨x,hx,r⟩:=Vals.get' (i:=i) t (by simpa using h)
  exact ⟨x,by simpa using hx,r⟩
section
variable {X:Cx} {pins:List (Addr × Obj)} {σ:St} {H:Hp} {s s':Shared}
theorem Inv.kept' (I:Inv X pins σ H s) (k:∀ b u,s.heap.get? b=some u→s'.heap.get? b=some u) (ho:s'.os=s.os) (hg:AllBare s'.gens):Inv X pins σ H s':=
 I.call' (ch:=[]) ho (Un.kept k) (I.hok.kept k) hg fun b z=>absurd z (by simp)
theorem Inv.walked {l:Addr} {o:Obj} (I:Inv X pins σ H s) (hm:Moved [s.heap.objs.size] (fun a b=>b=a) { s with heap:=s.heap.push o } s'):Inv X pins σ H s':=by
 refine I.kept' (fun b u e=>hm.heap b u (fun z=>?_) (Heap.get?_push_of_some _ e)) hm.os (by rw [show s'.gens=s.gens from hm.gens]; exact I.bare)
 have:b=s.heap.objs.size:=by simpa using z
 exact absurd (Heap.lt_size e) (by rw [this]; exact Nat.lt_irrefl _)
end
end L2
namespace L2
open PySem PySem.Spec PyProof.Rows
open Builtin Builtin.Str
theorem kq:∀ {ts:List Str} {us:List Value},Vals (ts.map V.str) us→∃ l:List (Str × Tok),us=strValues l∧l.map (·.1)=ts
 | [],_,.nil=>⟨[],rfl,rfl⟩
 | t::ts,_,.cons r rs=>by
  obtain ⟨l,rfl,e⟩:=kq (ts:=ts) rs
  obtain ⟨u,rfl⟩:=r
  exact ⟨(t,u)::l,rfl,by rw [List.map_cons,e]⟩
theorem lg:∀ (l:List (Str × Tok)),Vals ((l.map (·.1)).map V.str) (strValues l)
 | []=>.nil
 | (t,u)::l=>.cons ⟨u,rfl⟩ (lg l)
section
variable {X:Cx}
def kFind:V→List V→Hp→VK→Prop
 | .str x,[.str y],H,Q=>Q (.int (Txt.find x y)) H
 | _,_,_,_=>False
def ij:V→List V→Hp→VK→Prop
 | .str x,[.str y],H,Q=>(y.length==0)=false∧x.length≤sizeLine∧(Txt.split x y).length≤sizeLine∧∀ l,H l=none→Q (.ref l) (upd H l (.lst ((Txt.split x y).map V.str)))
 | _,_,_,_=>False
theorem lh:MtR X "str.split" ij:=by
 intro pins s σ H x vs v us Q I rx rv h
 unfold ij at h
 split at h
 · rename_i x y
   obtain ⟨t,rfl⟩:=rx
   obtain ⟨u,rfl,ru⟩:=cg rv
   obtain ⟨t2,rfl⟩:=ru
   obtain ⟨hy,hx,hn,q⟩:=h
   have fin:∀ (l:List (Str × Tok)) (k:Nat),l.map (·.1)=Txt.split x y→EP X pins σ Q (.ref s.heap.objs.size) { s with heap:=s.heap.push { cls:=.type "list",data:=.seq (strValues l).toArray },toks:=k }:=fun l k e=>by
    refine ⟨.ref s.heap.objs.size,_,I.lnew (t':=k) (ys:=(Txt.split x y).map V.str) (its:=strValues l) ?_ (by rw [List.length_map]; exact hn),rfl,q _ I.fresh⟩
    rw [← e]
    exact lg l
   cases h1:(decide (x.length < y.length)||decide (strKind x < strKind y))
   · cases hf:(occurrences x y 0 x.length (x.length+1)).isEmpty
     · have e3:Txt.split x y=partsBetween x (occurrences x y 0 x.length (x.length+1)) y.length:=(if_neg (ne_true_of_eq_false h1)).trans (if_neg (ne_true_of_eq_false hf))
       refine call_meets F.slot_str_split (typeIs_str _ _ _) F.entry_str_split (F.args_str_split_2 _ _) (meets_str_split_sep x y t t2 h1 hy hf hx (by rw [← e3]; exact hn)) ?_
       show wants _ _ _ { s with toks:=_,heap:=s.heap.push { cls:=.type "list",data:=.seq (strsFrom s.toks (partsBetween x (occurrences x y 0 x.length (x.length+1)) y.length)).toArray } }
       rw [strsFrom_eq]
       exact fin (numbered s.toks _) _ ((numbered_texts _ _).trans e3.symm)
     · exact call_meets F.slot_str_split (typeIs_str _ _ _) F.entry_str_split (F.args_str_split_2 _ _) (meets_str_split_not_found x y t t2 h1 hy hf)
        (fin [(x,t)] s.toks ((if_neg (ne_true_of_eq_false h1)).trans (if_pos hf)).symm)
   · exact call_meets F.slot_str_split (typeIs_str _ _ _) F.entry_str_split (F.args_str_split_2 _ _) (meets_str_split_cannot_occur x y t t2 h1)
      (fin [(x,t)] s.toks (if_pos h1).symm)
 · exact h.elim
def bQ:V→Option Int→Option Int→Hp→VK→Prop
 | .ref p,lo,hi,H,Q=>cSl (.ref p) lo hi H Q
 | .str z,lo,hi,H,Q=>z.length≤sizeLine∧Q (.str (Txt.slice z lo hi)) H
 | _,_,_,_,_=>False
theorem ci:SlR X bQ:=by
 intro pins s σ H x v vl vu lo hi sl Q I rx hs pl pu h
 cases x with
 | ref p=>exact uR pins s σ H _ v vl vu lo hi sl Q I rx hs pl pu h
 | str z=>
  obtain ⟨hz,q⟩:=(show z.length≤sizeLine∧Q (.str (Txt.slice z lo hi)) H from h)
  obtain ⟨t,rfl⟩:=rx
  have fin:∀ t' k,EP X pins σ Q (.str (Txt.slice z lo hi) t') { s with toks:=k }:=fun t' k=>⟨.str _,H,I.tok k,⟨t',rfl⟩,q⟩
  refine ⟨"str",_,F.slot_str_getitem.lookup,typeIs_str _ _ _,?_⟩
  cases pl with
  | none=>
   cases pu with
   | none=>exact wpAny_getItem_str_slice (l:=none) (u:=none) (st:=none) hs rfl (post_val_or_str ⟨Nat.le_trans (Txt.slice_le z _ _) hz,fin⟩)
   | int j tj=>exact wpAny_getItem_str_slice (l:=none) (u:=some (j,tj)) (st:=none) hs rfl (post_val_or_str ⟨Nat.le_trans (Txt.slice_le z _ _) hz,fin⟩)
  | int i ti=>
   cases pu with
   | none=>exact wpAny_getItem_str_slice (l:=some (i,ti)) (u:=none) (st:=none) hs rfl (post_val_or_str ⟨Nat.le_trans (Txt.slice_le z _ _) hz,fin⟩)
   | int j tj=>exact wpAny_getItem_str_slice (l:=some (i,ti)) (u:=some (j,tj)) (st:=none) hs rfl (post_val_or_str ⟨Nat.le_trans (Txt.slice_le z _ _) hz,fin⟩)
 | _=>exact False.elim h
def Its (x:Str):It:=⟨fun i _=>i < x.cps.size,fun i H v H'=>H'=H∧∃ c,x.cps[i]? =some c∧v=.str ⟨#[c]⟩,fun i _=>x.cps.size≤i⟩
theorem mC {P:Program} {w:World} {K:PySem.W.Frag} {tg:Expr} {x:Str} {t:Tok} (it:Addr) (ty:String) (hty:["enumerate","zip","dict_itemiterator","dict_reverseitemiterator","odict_iterator","itertools.zip_longest","itertools.pairwise"].contains ty=false)
  (W:∀ A:Around,A.handled=none→Walks P w A it [it] [it] x.cps.size (SignAt x) (fun i h=>h.IsStrIter it ty x t i))
  (slf:∀ (A:Around) (i:Nat) (s:Shared) (Q:Value→Shared→Prop) (E:Value→Shared→Prop),s.heap.IsStrIter it ty x t i→Q (.ref it) s→wpAny (model P w) A (pyIter (.ref it)) Q E s):
  Turn P w K tg (Its x) [it] it (fun i h=>i≤x.cps.size∧h.IsStrIter it ty x t i) where
 mem:=by simp
 obj:=fun i h st b hb=>by
  have e:b=it:=by simpa using hb
  subst e
  obtain ⟨_,o,e,c,d⟩:=st
  exact ⟨o,e,fun v z=>by rw [d] at z; cases z⟩
 keep:=fun i h h' st k=>by
  obtain ⟨hi,o,e,c,d⟩:=st
  exact ⟨hi,o,k it (by simp) o e,c,d⟩
 item:=by
  intro X hP hw hK hc i pins s σ H E I hf st hg
  subst hP hw hK
  obtain ⟨f0,f1,f2,f3,f4,f5⟩:=hf it (by simp)
  have hlt:i < x.cps.size:=hg
  refine (W X.A (I.ok.hd hc)).item i s _ _ hlt st.2 fun v h' tk hv st' kk=>?_
  obtain ⟨c,u,hcu,rfl⟩:=hv
  have I1:Inv X pins σ H { s with heap:=h',toks:=tk }:=I.turned (fun b o hb e=>kk b o (by simpa using hb) e) f0 f1 f3 f4 f5
  obtain ⟨o,e,c',d⟩:=id st'
  exact ⟨_,rfl,oE (s:={ s with heap:=h',toks:=tk }) e c' d hty ⟨.str ⟨#[c]⟩,H,I1,⟨u,rfl⟩,⟨rfl,c,hcu,rfl⟩,⟨hlt,st'⟩,fun b hb=>(hf b hb).1⟩⟩
 done:=by
  intro X hP hw hK hc i pins s σ H E I hf st hg
  subst hP hw hK
  obtain ⟨f0,f1,f2,f3,f4,f5⟩:=hf it (by simp)
  have hle:x.cps.size≤i:=hg
  have e:i=x.cps.size:=Nat.le_antisymm st.1 hle
  subst e
  exact (W X.A (I.ok.hd hc)).done s _ _ st.2 fun h' tk kk=>⟨rfl,I.turned (fun b o hb e=>kk b o (by simpa using hb) e) f0 f1 f3 f4 f5⟩
 self:=fun A i s Q E st h=>slf A i s Q E st.2 h
def iStr (tl:TE):TI:=fun σ H R=>tl σ H fun x H1=>∃ z,x=.str z∧R (Its z) H1
theorem mE {tg l:Expr} {tl:TE} (hl:PE X l tl):PI X tg l (iStr tl):=by
 intro pins s σ H R I h
 refine thn (hl pins s σ H _ I h) fun v s1 ⟨x,H1,I1,r1,q1⟩=>?_
 obtain ⟨z,rfl,q⟩:=q1
 obtain ⟨t,rfl⟩:=r1
 have fin:∀ b∈[s1.heap.objs.size],FpOk X pins H1 b:=fun b hb=>by
  have e:b=s1.heap.objs.size:=by simpa using hb
  subst e
  exact I1.fpOk (Nat.le_refl _) (I1.hok.fresh (Nat.le_refl _))
 cases ha:z.cps.all (· < 128)
 · refine wpAny_pyIter_wide ha ⟨s1.heap.objs.size,[s1.heap.objs.size],_,Its z,H1,rfl,I1.kept (t':=s1.toks) fun b o e=>Heap.get?_push_of_some _ e,mC (t:=t) _ "str_iterator" (by decide) (fun A' hA=>Walks.strWide hA _ z t) (fun A i s Q E st hq=>wpAny_pyIter_striter_wide st hq),⟨Nat.zero_le _,_,Heap.get?_push_size _ rfl,rfl,rfl⟩,fin,q⟩
 · refine wpAny_pyIter_ascii ha ⟨s1.heap.objs.size,[s1.heap.objs.size],_,Its z,H1,rfl,I1.kept (t':=s1.toks) fun b o e=>Heap.get?_push_of_some _ e,mC (t:=t) _ "str_ascii_iterator" (by decide) (fun A' hA=>Walks.strAscii hA _ z t) (fun A i s Q E st hq=>wpAny_pyIter_striter_ascii st hq),⟨Nat.zero_le _,_,Heap.get?_push_size _ rfl,rfl,rfl⟩,fin,q⟩
end
section
variable {K:PySem.W.Frag} {g:TG} {tb:TS} {D:Ends} {σ:St} {H:Hp} {tl:TE} {ix:List (Option Nat)} {tt:TT} {te ta:TE} {k:Nat} {Q:VK}
theorem mF {r:V→Option Int→Option Int→Hp→VK→Prop} {a b:TO}:tSl r te a b σ H Q=te σ H fun x H1=>a σ H1 fun l H2=>b σ H2 fun u H3=>r x l u H3 Q:=rfl
theorem ik {R:Option Int→Hp→Prop}:tPart te σ H R=te σ H fun x H1=>∃ i,x=.int i∧R (some i) H1:=rfl
theorem fz {R:Option Int→Hp→Prop}:bb σ H R=R none H:=rfl
theorem il {to ti:TE} {t:TSet} {v:V} {R:St→Hp→Prop}:gSub to ti t v σ H R=to σ H fun o H1=>ti σ H1 fun i H2=>t o i v H2 fun H3=>R σ H3:=rfl
theorem mG {r:V→Hp→VK→Prop}:tUn r te σ H Q=te σ H fun x H1=>r x H1 Q:=rfl
theorem im:tFor (iStr tl) g tb D σ H=tl σ H fun x H1=>∃ z,x=.str z∧LoopR (Its z) g tb D σ H1:=rfl
theorem gs:tComp ix (iStr tl) g tt te σ H Q=tl σ H fun x H1=>∃ z,x=.str z∧CompR (Its z) g tt te (fun l H'=>Q (.ref l) H') (subσ ix σ) H1:=rfl
theorem fA:sComp k ix (iStr tl) g tt te D σ H=tl σ H fun x H1=>∃ z,x=.str z∧CompR (Its z) g tt te (fun l H'=>D.nx (σ.set k (some (.ref l))) H') (subσ ix σ) H1:=rfl
theorem iP {x:Str}:tyV K "str" (.str x) H:=rfl
theorem jY {i j:Str}:cEq K (.str i) (.str j) H Q=Q (.bl (decide (i=j))) H:=rfl
theorem jZ {i j:Str}:cNe K (.str i) (.str j) H Q=Q (.bl (!decide (i=j))) H:=rfl
theorem io {z:Str}:kLen [.str z] H Q=(z.length≤sizeLine∧Q (.int z.length) H):=rfl
theorem gt {i j:Str}:cAdd (.str i) (.str j) H Q=(i.length+j.length≤sizeLine∧Q (.str (i++j)) H):=rfl
theorem oV {z:Str} {i:Int}:cIx (.str z) (.int i) H Q=(z.length≤sizeLine∧bnd (atI z.cps.toList i) fun c=>Q (.str ⟨#[c]⟩) H):=rfl
theorem ip {x y:Str}:kFind (.str x) [.str y] H Q=Q (.int (Txt.find x y)) H:=rfl
theorem n5 {x y:Str}:ij (.str x) [.str y] H Q=((y.length==0)=false∧x.length≤sizeLine∧(Txt.split x y).length≤sizeLine∧∀ l,H l=none→Q (.ref l) (upd H l (.lst ((Txt.split x y).map V.str)))):=rfl
theorem oW {p:Addr} {lo hi:Option Int} {xs:List V} (hp:H p=some (.lst xs)) (h:∀ l,H l=none→Q (.ref l) (upd H l (.lst (cutV xs lo hi)))):bQ (.ref p) lo hi H Q:=by
 show bnd (unL (H p)) _
 rw [hp]
 exact h
end
end L2
namespace L2
open PySem PySem.Spec PyProof.Rows
def cBitI (g:Int→Int→Int):R2
 | .int i,.int j,H,Q=>Q (.int (g i j)) H
 | _,_,_,_=>False
def cShr:R2
 | .int i,.int j,H,Q=>0≤j∧Q (.int (i / 2^j.toNat)) H
 | _,_,_,_=>False
section
variable {H:Hp} {Q:VK} {i j:Int}
theorem pQ {g:Int→Int→Int}:cBitI g (.int i) (.int j) H Q=Q (.int (g i j)) H:=rfl
theorem ri:cShr (.int i) (.int j) H Q=(0≤j∧Q (.int (i / 2^j.toNat)) H):=rfl
end
end L2
namespace L2
open PySem PySem.Spec PyProof.Rows
section
variable {X:Cx}
def kInt:List V→Hp→VK→Prop
 | [.int i],H,Q=>Q (.int i) H
 | [.bl k],H,Q=>Q (.int (if k then 1 else 0)) H
 | _,_,_=>False
def se:V→List V→Hp→VK→Prop
 | .int i,[],H,Q=>Q (.int (Builtin.Int.intBits i:Nat)) H
 | _,_,_,_=>False
def kAll:List V→Hp→VK→Prop
 | [.ref p],H,Q=>bnd (unL (H p)) fun ys=>∃ bs:List Bool,ys=bs.map V.bl∧Q (.bl (bs.all id)) H
 | _,_,_=>False
theorem pR (bs:List Bool):(List.range bs.length).all (fun i=>bs.getD i false)=bs.all id:=by
 rw [Bool.eq_iff_iff,List.all_eq_true,List.all_eq_true]
 constructor
 · intro h b hb
   obtain ⟨i,hi,e⟩:=List.mem_iff_getElem.mp hb
   have:=h i (List.mem_range.mpr hi)
   rw [List.getD,List.getElem?_eq_getElem hi,e] at this
   exact this
 · intro h i hi
   have hi':i < bs.length:=List.mem_range.mp hi
   have:=h bs[i] (List.getElem_mem hi')
   simpa [List.getD,hi'] using this
theorem tU:bootBuiltins "all"=some (.builtin "all"):=by decide+kernel
theorem pS (hc:X.calm=true):CallR X (.builtin "all") kAll:=by
 intro pins s σ H xs us Q I r h
 unfold kAll at h
 split at h
 · rename_i p
   obtain ⟨ys,e,bs,rfl,q⟩:=aR h
   obtain ⟨u,rfl,ru⟩:=cg r
   cases ru
   obtain ⟨its,rv,pl,hz⟩:=I.list (mv e)
   have hl:=rv.length
   rw [List.length_map] at hl
   have hlt:p < s.heap.objs.size:=by
    obtain ⟨o,h1,_⟩:=pl.isList
    exact Heap.lt_size h1
   refine call_all_walkS (wpAny_pyIter_list pl.isList ?_)
   refine ⟨s.heap.objs.size,_,_,_,its.toArray.size,_,_,fun i=>bs.getD i false,rfl,(Walks.list (A:=X.A.in1) (I.ok.hd hc) s.heap.objs.size p (Nat.ne_of_lt hlt) its.toArray).toS,⟨⟨_,Heap.get?_push_size _ rfl,rfl,rfl⟩,pl.isList.push _⟩,?_,fun s' hm=>?_⟩
   · intro i v s1 Q1 E1 hP hQ
     have hv:its[i]? =some v:=by simpa using hP
     obtain ⟨x,hx,rx⟩:=rv.get' hv
     obtain ⟨b,hb,rfl⟩:∃ b,bs[i]? =some b∧V.bl b=x:=by simpa using hx
     cases rx
     refine wpAny_truthy_bool ?_
     have e3:bs.getD i false=b:=by simp [List.getD,hb]
     rw [← e3]
     exact hQ
   · refine ⟨.bl _,H,I.walked (l:=p) hm,?_,q⟩
     have e2:its.toArray.size=bs.length:=by rw [List.size_toArray]; exact hl.symm
     rw [e2,pR]
     rfl
 · exact h.elim
def Itd (hi:Int) (n:Nat):It:=⟨fun i _=>i < n,fun i H x H'=>H'=H∧x=.int (hi - i),fun i _=>n≤i⟩
def iRngD (ta:TA):TI:=fun σ H R=>ta σ H fun vs H1=>∃ i j:Int,vs=[.int i,.int j,.int (-1)]∧(-(2^60)≤i∧i < 2^60∧ -(2^60)≤j∧j < 2^60)∧R (Itd i (i - j).toNat) H1
end
section
variable {K:PySem.W.Frag} {g:TG} {tb:TS} {D:Ends} {σ:St} {H:Hp} {ta:TA} {Q:VK}
theorem pT {k:Bool}:kInt [.bl k] H Q=Q (.int (if k then 1 else 0)) H:=rfl
theorem pU {i:Int}:kInt [.int i] H Q=Q (.int i) H:=rfl
theorem mH {i:Int}:se (.int i) [] H Q=Q (.int (Builtin.Int.intBits i:Nat)) H:=rfl
theorem uG {p:Addr} {bs:List Bool} (hp:H p=some (.lst (bs.map V.bl))) (h:Q (.bl (bs.all id)) H):kAll [.ref p] H Q:=by
 show bnd (unL (H p)) _
 rw [hp]
 exact bu (a:=bs.map V.bl) rfl ⟨bs,rfl,h⟩
theorem n6:tFor (iRngD ta) g tb D σ H=ta σ H fun vs H1=>∃ i j:Int,vs=[.int i,.int j,.int (-1)]∧(-(2^60)≤i∧i < 2^60∧ -(2^60)≤j∧j < 2^60)∧LoopR (Itd i (i - j).toNat) g tb D σ H1:=rfl
end
end L2
namespace L2
open PySem PySem.Spec PyProof.Rows
section
variable {X:Cx}
def Ite (K:PySem.W.Frag) (a:Addr):It:=
 ⟨fun i H=>∃ xs x,SqL K H a xs∧xs[i]? =some x,
  fun i H v H'=>∃ T x,v=.ref T∧H T=none∧H'=upd H T (.tup [.int i,x])∧∀ xs,SqL K H a xs→xs[i]? =some x,
  fun i H=>∃ xs,SqL K H a xs∧xs.length≤i⟩
def iEnum (K:PySem.W.Frag) (ta:TA):TI:=fun σ H R=>ta σ H fun vs H1=>∃ a,vs=[.ref a]∧(∃ xs,SqL K H1 a xs)∧R (Ite K a) H1
end
section
variable {K:PySem.W.Frag} {g:TG} {tb:TS} {D:Ends} {σ:St} {H:Hp} {ta:TA} {Q:VK} {ix:List (Option Nat)} {tt:TT} {te:TE} {k:Nat}
theorem pV:tFor (iEnum K ta) g tb D σ H=ta σ H fun vs H1=>∃ a,vs=[.ref a]∧(∃ xs,SqL K H1 a xs)∧LoopR (Ite K a) g tb D σ H1:=rfl
theorem n9:tComp ix (iEnum K ta) g tt te σ H Q=ta σ H fun vs H1=>∃ a,vs=[.ref a]∧(∃ xs,SqL K H1 a xs)∧CompR (Ite K a) g tt te (fun l H'=>Q (.ref l) H') (subσ ix σ) H1:=rfl
theorem mI:sComp k ix (iEnum K ta) g tt te D σ H=ta σ H fun vs H1=>∃ a,vs=[.ref a]∧(∃ xs,SqL K H1 a xs)∧CompR (Ite K a) g tt te (fun l H'=>D.nx (σ.set k (some (.ref l))) H') (subσ ix σ) H1:=rfl
end
end L2
namespace L2
open PySem PySem.Spec PyProof.Rows
end L2
namespace L2
open PySem PySem.Spec PyProof.Rows
end L2
namespace L2
open PySem PySem.Spec PyProof.Rows
def rngL (i j:Int):List Int:=(List.range (j - i).toNat).map fun (k:Nat)=>i+(k:Int)
theorem jn (i j:Int):(rngL i j).length=(j - i).toNat:=by unfold rngL; simp
theorem je:∀ {xs:List V} {us:List Value},xs.length=us.length→(∀ (i:Nat) x u,xs[i]? =some x→us[i]? =some u→RelV x u)→Vals xs us
 | [],[],_,_=>.nil
 | [],_::_,h,_=>by simp at h
 | _::_,[],h,_=>by simp at h
 | x::xs,u::us,h,f=>.cons (f 0 x u rfl rfl) (je (by simpa using h) fun i y e h1 h2=>f (i+1) y e (by simpa using h1) (by simpa using h2))
theorem qH {i j:Int} {acc:Array Value} (h:ItemsOf (fun k v=>∃ t,v=.int (i+k*1) t) acc (j - i).toNat):Vals ((rngL i j).map V.int) acc.toList:=by
 refine je (by rw [List.length_map,jn,Array.length_toList]; exact h.1.symm) fun k x u hx hu=>?_
 obtain ⟨t,rfl⟩:=h.2 k u (by simpa using hu)
 unfold rngL at hx
 rw [List.map_map,List.getElem?_map] at hx
 by_cases hk:k < (j - i).toNat
 · rw [List.getElem?_range hk] at hx
   cases hx
   exact ⟨t,by rw [Int.mul_one]⟩
 · rw [List.getElem?_eq_none (by simpa using hk)] at hx
   cases hx
section
variable {X:Cx}
def eK (ta:TA):TE:=fun σ H Q=>ta σ H fun vs H1=>∃ j:Int,vs=[.int j]∧ -(2^60)≤j∧j≤1000∧∀ l,H1 l=none→Q (.ref l) (upd H1 l (.lst ((rngL 0 j).map V.int)))
def pW (ta:TA):TE:=fun σ H Q=>ta σ H fun vs H1=>∃ i j:Int,vs=[.int i,.int j]∧(0≤i∧i≤1000∧ -(2^60)≤j∧j≤1000)∧∀ l,H1 l=none→Q (.ref l) (upd H1 l (.lst ((rngL i j).map V.int)))
theorem qI {pins:List (Addr × Obj)} {σ:St} {H1:Hp} {s1:Shared} {Q:VK} {i j:Int} {t u v:Tok} {tk:Nat} {A:Around} {E:Value→Shared→Prop} (hh:A.handled=none) (I1:Inv X pins σ H1 s1) (h1:0≤i) (h2:i≤1000) (h3: -(2^60)≤j) (h4:j≤1000)
  (q:∀ l,H1 l=none→Q (.ref l) (upd H1 l (.lst ((rngL i j).map V.int)))):
  wpAny (model X.prog X.w) A (call (.type "list") [.ref s1.heap.objs.size]) (EP X pins σ Q) E { s1 with heap:=s1.heap.push { cls:=.type "range",data:=.fields #[.int i t,.int j u,.int 1 v] },toks:=tk }:=by
 have I2:Inv X pins σ H1 { s1 with heap:=s1.heap.push { cls:=.type "range",data:=.fields #[.int i t,.int j u,.int 1 v] },toks:=tk }:=I1.kept fun b o e=>Heap.get?_push_of_some _ e
 refine call_list_range (n:=(j - i).toNat) hh (IsRange.new ..) (small_one (by omega) (by omega) (by omega) (by omega)) (by rw [rangeSize_one]; split <;> omega) (by omega) fun h' tk' acc' c' old hS' hacc=>?_
 have hlen:((rngL i j).map V.int).length≤sizeLine:=by rw [List.length_map,jn]; exact Nat.le_of_lt (be (by omega))
 exact ⟨.ref _,_,I2.laid (t':=tk') (o:=.lst ((rngL i j).map V.int)) old (Nat.le_refl _) ⟨hlen,acc'.toList,c',qH hacc,hS'⟩,rfl,q _ (I2.hok.fresh (Nat.le_refl _))⟩
theorem fY {a:Expr} {ta:TA} {p p2 pos pos2:Pos} (hc:X.calm=true) (hgl:Gl X "list") (hgr:Gl X "range") (hl:X.mg "list"=none) (hr:X.mg "range"=none) (ha:PA X [a] ta)
  (hs1:starEach [.Call (.Name "range" p2) [a] [] pos2] X.env=[(false,eval (.Call (.Name "range" p2) [a] [] pos2) X.env)]:=by rfl) (hs:starEach [a] X.env=[(false,eval a X.env)]:=by rfl):
  PE X (.Call (.Name "list" p) [.Call (.Name "range" p2) [a] [] pos2] [] pos) (eK ta):=by
 intro pins s σ H Q I h
 refine wpAny_Call_Name_kw (dF I hgl hl n4 ?_ (by decide) (by decide))
 refine PyProof.Rows.callWith_type1 ?_ hs1 rfl
 rw [hs1]
 show wpAny _ _ (spliced [(false,eval (.Call (.Name "range" p2) [a] [] pos2) X.env)]) _ _ s
 refine Calls.spliced_cons ?_
 refine Call_ (dF I hgr hr boot_range (PyProof.Rows.callWith_type1 (thn (ha pos2 pins s σ H _ I h) fun us s1 ⟨vs,H1,I1,r1,q1⟩=>?_) hs rfl))
 obtain ⟨j,e,q1,q2,q⟩:=q1
 subst e
 cases r1 with
 | cons r rr=>
  cases rr
  obtain ⟨t,rfl⟩:=r
  refine call_range_1 ?_
  refine Calls.spliced_nil ?_
  exact qI (I.ok.hd hc) I1 (by omega) (by omega) q1 q2 q
end
section
variable {σ:St} {H:Hp} {Q:VK} {ta:TA}
theorem oa:eK ta σ H Q=ta σ H fun vs H1=>∃ j:Int,vs=[.int j]∧ -(2^60)≤j∧j≤1000∧∀ l,H1 l=none→Q (.ref l) (upd H1 l (.lst ((rngL 0 j).map V.int))):=rfl
theorem og:pW ta σ H Q=ta σ H fun vs H1=>∃ i j:Int,vs=[.int i,.int j]∧(0≤i∧i≤1000∧ -(2^60)≤j∧j≤1000)∧∀ l,H1 l=none→Q (.ref l) (upd H1 l (.lst ((rngL i j).map V.int))):=rfl
end
end L2
namespace L2
end L2
namespace L2
open PySem PySem.Spec PyProof.Rows
local macro_rules | `(tactic| walk_at "w")=>`(tactic| (first | simp only [aB,g8,fQ,bF,g9,hG,w_c,jl,jF,hJ,hU,hV,w_b,w_not,jG,my,hX,hZ,jH,jI,ia,mz,ib,jJ,jK,mB,jL,ic,ie,ig,ii,gn,gp,gq,fu,fv,eJ,jM,jN,jO,jP,jQ,jR,jS,jT,jU,jV,jW,jX,mF,ik,fz,il,mG,im,gs,fA,jY,jZ,io,gt,ip,
 List.getElem?_cons_zero,List.getElem?_cons_succ,Option.some.injEq,exists_eq_left',exists_eq_left,List.set_cons_zero,List.set_cons_succ,ee,V.int.injEq,V.bl.injEq,V.ref.injEq,V.str.injEq,List.nil_append,List.cons_append] | dsimp only | skip))
theorem aq {n:Nat} (h:n≤1000):n≤sizeLine:=Nat.le_of_lt (be h)
def IsFl (H:Hp) (a:Addr) (h w g:Int):Prop:=H a=some (.tup [.int h,.int w,.int g])
theorem Same.laid {H H':Hp} {p:Addr} {o:HO} (s:Same H H') (h:H' p=none):Same H (upd H' p o):=fun b u e=>by
 rw [ak (aA (s b u e) h)]
 exact s b u e
theorem Same.own {H H':Hp} {p:Addr} {o:HO} (s:Same H H') (h:H p=none):Same H (upd H' p o):=fun b u e=>by
 rw [ak (aA e h)]
 exact s b u e
theorem qJ {ns:List Int} {k:Int} (h0:0≤k) (h1:k < ns.length):atI (ns.map V.int) k=some (.int (ns.getD k.toNat 0)):=by
 have e:((k.toNat:Nat):Int)=k:=Int.toNat_of_nonneg h0
 have hlt:k.toNat < ns.length:=by omega
 have:(ns.map V.int)[k.toNat]? =some (.int (ns.getD k.toNat 0)):=by
  rw [List.getElem?_map,List.getElem?_eq_getElem hlt]
  simp [List.getD,hlt]
 have q:=aN this
 rw [e] at q
 exact q
theorem iq {α:Type} (l:List α):l.filter (fun _=>true)=l:=List.filter_eq_self.mpr fun _ _=>rfl
theorem nJ {l:List Int} {i:Nat} {y:V} (h:(l.map V.int)[i]? =some y):∃ z,l[i]? =some z∧y=.int z:=by
 rw [List.getElem?_map] at h
 cases e:l[i]? with
 | none=>rw [e] at h; cases h
 | some z=>rw [e] at h; cases h; exact ⟨z,rfl,rfl⟩
theorem fR {h w:Int} (h0:1≤h) (h1:h≤6):CMul h w:=.inl ⟨by omega,by omega⟩
theorem qK {ps:List Addr} {k:Int} {p:Addr} (h0:0≤k) (h:ps[k.toNat]? =some p):atI (ps.map V.ref) k=some (.ref p):=by
 have e:((k.toNat:Nat):Int)=k:=Int.toNat_of_nonneg h0
 have q0:(ps.map V.ref)[k.toNat]? =some (.ref p):=by rw [List.getElem?_map,h]; rfl
 have q:=aN q0
 rw [e] at q
 exact q
section
variable {k:Nat} {lo:Int} {n:Nat} {tt:TT} {te:TE} {fin:Addr→Hp→Prop} {σ0:St} {H1:Hp} {K:PySem.W.Frag} {a:Addr}
theorem mJ {n i:Nat} (b:Nat→Bool) (h:i < n) (hn:n≤900):((List.range i).filter b).length≤900:=by
 have:=List.length_filter_le b (List.range i)
 rw [List.length_range] at this
 omega
theorem j2 {xs:List V} (b:Nat→Bool) (f:Nat→V) (hn:xs.length≤900) (hq:SqL K H1 a xs)
  (ht:∀ i x H R,xs[i]? =some x→Same H1 H→(∀ H',Same H H'→R (b i) H')→tt (σ0.set k (some x)) H R)
  (he:∀ i x H Q,xs[i]? =some x→b i=true→Same H1 H→(∀ H',Same H H'→Q (f i) H')→te (σ0.set k (some x)) H Q)
  (hd:∀ l H,H1 l=none→Same H1 H→H l=some (.lst (((List.range xs.length).filter b).map f))→fin l H):
  CompR (Itl K a) (gName k) tt te fin σ0 H1:=by
 refine lf (xs:=xs) (fun l i σ H=>(σ=σ0∨∃ cv,σ=σ0.set k cv)∧Same H1 H∧H l=some (.lst (((List.range i).filter b).map f))) (fun l hl=>⟨.inl rfl,(Same.refl H1).laid hl,by rw [ag]; rfl⟩) (fun l i σ H _ _ p=>p.2.1.seq hq) ?_ (fun l σ H hl p=>hd l H hl p.2.1 p.2.2)
 rintro l i x σ H hl hx ⟨hσ,s1,el⟩
 have hi:i < xs.length:=(List.getElem?_eq_some_iff.mp hx).1
 rw [bF]
 have e:σ.set k (some x)=σ0.set k (some x):=by
  rcases hσ with rfl | ⟨cv,rfl⟩
  · rfl
  · exact List.set_set ..
 rw [e]
 refine ht i x H _ hx s1 fun H2 s2=>?_
 have el2:=s2 _ _ el
 cases hb:b i with
 | false=>
  rw [if_neg Bool.false_ne_true]
  refine ⟨.inr ⟨_,rfl⟩,s1.trans s2,?_⟩
  rw [List.range_succ,List.filter_append,List.filter_cons,hb]
  simpa using el2
 | true=>
  rw [if_pos rfl]
  refine he i x H2 _ hx hb (s1.trans s2) fun H3 s3=>⟨_,s3 _ _ el2,by rw [List.length_map]; exact be (Nat.le_trans (mJ b hi hn) (by decide)),.inr ⟨_,rfl⟩,((s1.trans s2).trans s3).own hl,?_⟩
  rw [ag,List.range_succ,List.filter_append,List.filter_cons,hb]
  simp
end
theorem oh:∀ {ds:List PyData},(∀ d∈ds,PyData.canLay0 d=true)→PyData.canLayAll0 ds=true
 | [],_=>rfl
 | d::r,h=>by rw [PyData.canLayAll0,h d List.mem_cons_self,oh fun e he=>h e (List.mem_cons_of_mem _ he)]; rfl
theorem li {n:Nat}:∀ {ds:List PyData},(∀ d∈ds,PyData.depth d≤n)→PyData.depthAll ds≤n
 | [],_=>Nat.zero_le _
 | d::r,h=>by rw [PyData.depthAll]; exact Nat.max_le.mpr ⟨h d List.mem_cons_self,li fun e he=>h e (List.mem_cons_of_mem _ he)⟩
theorem kr {α:Type} [DecidableEq α] (g:α→PyData) (hg:∀ a b,PyData.eqv (g a) (g b)=decide (a=b)):∀ xs ys:List α,PyData.eqvAll (xs.map g) (ys.map g)=decide (xs=ys)
 | [],[]=>rfl
 | [],_::_=>rfl
 | _::_,[]=>rfl
 | x::xs,y::ys=>by
  rw [List.map_cons,List.map_cons,PyData.eqvAll,hg,kr g hg xs ys,Bool.eq_iff_iff]
  simp
structure IsLT (H:Hp) (l:Addr) (as:List Addr) (xss:List (List Int)):Prop where
 top:H l=some (.lst (as.map V.ref))
 len:as.length=xss.length
 at_:∀ (j:Nat) (a:Addr) (xs:List Int),as[j]? =some a→xss[j]? =some xs→H a=some (.tup (xs.map V.int))
theorem IsLT.same {H H':Hp} {l:Addr} {as:List Addr} {xss:List (List Int)} (x:IsLT H l as xss) (s:Same H H'):IsLT H' l as xss:=
 ⟨s _ _ x.top,x.len,fun j a xs h1 h2=>s _ _ (x.at_ j a xs h1 h2)⟩
structure FlOk (h w g:Int):Prop where
 h0:1≤h
 h1:h≤6
 w0:1≤w
 w1:w≤6
 m:h*w≤16
 g0:1≤g
 g1:g≤6
section
variable {K:PySem.W.Frag} {H:Hp} {Q:VK}
theorem tV {i:Int} (h:Q (.bl true) H):kIsi [.int i,.ty "int"] H Q:=by
 refine ⟨by decide,bu (a:="int") rfl ?_⟩
 rw [show isTy "int" "int"=true by decide]
 exact h
theorem sf {i:Int} (h:Q (.bl false) H):kIsi [.int i,.ty "bool"] H Q:=by
 refine ⟨by decide,bu (a:="int") rfl ?_⟩
 rw [show isTy "int" "bool"=false by decide]
 exact h
theorem tW {n:Nat} {t:TGs} {σ:St} {k:St→Hp→Prop} {p:Addr} {xs:List V} (hp:H p=some (.tup xs)) (hn:xs.length=n) (h:t xs σ H k):gTup K n t (.ref p) σ H k:=⟨p,xs,rfl,SqT.of hp,hn,h⟩
theorem qL {i j:Nat} {x y:V} {σ:St} {k:St→Hp→Prop}:gCons (gName i) (gCons (gName j) gNil) [x,y] σ H k=k ((σ.set i (some x)).set j (some y)) H:=by
 refine propext ⟨?_,fun h=>⟨x,[y],rfl,y,[],rfl,rfl,h⟩⟩
 rintro ⟨v,r,e,v2,r2,e2,e3,h⟩
 cases e
 cases e2
 exact h
end
def bt (K:PySem.W.Frag):Sp:=fun vs H Q _=>∃ i:Int,vs=[.int i]∧Q (.bl true) H
theorem lF {K:PySem.W.Frag} {vs:List V} {H:Hp} {Q:VK} {E:XK} (h:bt K vs H Q E):vs.length=1:=by
 obtain ⟨_,rfl,_⟩:=h; rfl
def c6 (K:PySem.W.Frag):TS:=
 (tRet (tAndV (tCB kIsi (tCons (tVar 0) (tCons (tC (.ty "int")) tNil))) (tNotV (tCB kIsi (tCons (tVar 0) (tCons (tC (.ty "bool")) tNil))))))
theorem lG {K:PySem.W.Frag} {vs:List V} {H:Hp} {Q:VK} {E:XK} (h:bt K vs H Q E):c6 K { nx:=fun _ H'=>Q .non H',rt:=Q } (start ["_law_found"] vs) H:=by
 obtain ⟨i,rfl,q⟩:=h
 show c6 K _ [some (.int i)] H
 unfold c6
 walk_at "w"
 refine tV ?_
 walk_at "w"
 rw [if_pos trivial]
 refine sf ?_
 walk_at "w"
 exact q
end L2
namespace L2
open PySem PySem.Builtin PySem.Builtin.Str
def tx (l:List Nat):Str:=⟨l.toArray⟩
theorem dJ (l:List Nat):(tx l).cps.toList=l:=by simp [tx]
theorem j3 (x:Str):tx x.cps.toList=x:=by cases x; simp [tx]
theorem eM {a b:List Nat} (h:tx a=tx b):a=b:=by rw [← dJ a,h,dJ]
theorem aD (l:List Nat):(tx l).length=l.length:=by simp [tx,Str.length]
theorem ir (a b:List Nat):tx a++tx b=tx (a++b):=by
 refine Str.ext' ?_
 rw [Str.cps_append]
 simp [tx]
theorem fB (a b:List Nat):decide (tx a=tx b)=decide (a=b):=by
 by_cases h:a=b
 · subst h; simp
 · have:¬ tx a=tx b:=fun e=>h (eM e)
   rw [decide_eq_false h,decide_eq_false this]
def catL (c:Nat):List (List Nat)→List Nat
 | []=>[]
 | [x]=>x
 | x::y::r=>x++c::catL c (y::r)
theorem gu (c:Nat):∀ ts:List (List Nat),Str.join (tx [c]) (ts.map tx)=tx (catL c ts)
 | []=>rfl
 | [x]=>rfl
 | x::y::r=>by
  show tx x++tx [c]++Str.join (tx [c]) ((y::r).map tx)=_
  rw [gu c (y::r),ir,ir]
  show tx _=tx (x++c::catL c (y::r))
  rw [List.append_assoc]; rfl
theorem mK (sep:Str) (ts:List Str):Txt.join sep ts=Str.join sep ts:=StrLaws.glued_eq_join sep ts
theorem oi {c:Nat}:∀ {a b x y:List Nat},c∉a→c∉b→a++c::x=b++c::y→a=b∧x=y
 | [],[],_,_,_,_,h=>⟨rfl,by simpa using h⟩
 | [],b::bs,_,_,_,hb,h=>by
  simp at h
  exact absurd (List.mem_cons.mpr (.inl h.1)) hb
 | a::as,[],_,_,ha,_,h=>by
  simp at h
  exact absurd (List.mem_cons.mpr (.inl h.1.symm)) ha
 | a::as,b::bs,x,y,ha,hb,h=>by
  simp at h
  have:=oi (fun z=>ha (List.mem_cons_of_mem _ z)) (fun z=>hb (List.mem_cons_of_mem _ z)) h.2
  exact ⟨by rw [h.1,this.1],this.2⟩
theorem mL {c:Nat}:∀ {x:List Nat} {r:List (List Nat)} {y:List Nat},c∈catL c (x::y::r):=by
 intro x r y
 show c∈x++c::_
 simp
theorem mM {c:Nat}:∀ {xs ys:List (List Nat)},xs≠[]→ys≠[]→(∀ x∈xs,c∉x)→(∀ y∈ys,c∉y)→catL c xs=catL c ys→xs=ys
 | [],_,h,_,_,_,_=>absurd rfl h
 | _,[],_,h,_,_,_=>absurd rfl h
 | [x],[y],_,_,_,_,h=>by
  have h':x=y:=h
  rw [h']
 | [x],y::z::r,_,_,hx,_,h=>by
  have h':x=catL c (y::z::r):=h
  exact absurd (h' ▸ mL) (hx x List.mem_cons_self)
 | x::z::r,[y],_,_,_,hy,h=>by
  have h':catL c (x::z::r)=y:=h
  exact absurd (h' ▸ mL) (hy y List.mem_cons_self)
 | x::z::r,y::u::s,_,_,hx,hy,h=>by
  obtain ⟨e1,e2⟩:=oi (hx x List.mem_cons_self) (hy y List.mem_cons_self) (show x++c::catL c (z::r)=y++c::catL c (u::s) from h)
  rw [e1,mM (by simp) (by simp) (fun w hw=>hx w (List.mem_cons_of_mem _ hw)) (fun w hw=>hy w (List.mem_cons_of_mem _ hw)) e2]
theorem mO (x y:Str):Txt.split x y≠[]:=by
 intro h
 unfold Txt.split at h
 split at h
 · cases h
 · split at h
   · cases h
   · rw [StrLaws.partsBetween_eq] at h
     obtain ⟨p,r,e⟩:=StrLaws.partsFrom_ne x y.length 0 (occurrences x y 0 x.length (x.length+1))
     rw [e] at h; cases h
theorem mP {c:Nat} {rows:List (List Nat)} (hne:rows≠[]) (hf:∀ r∈rows,c∉r):Txt.split (tx (catL c rows)) (tx [c])=rows.map tx:=by
 have h1:=StrLaws.join_split (tx (catL c rows)) (tx [c])
 have h2:∀ p∈Txt.split (tx (catL c rows)) (tx [c]),c∉p.cps.toList:=StrLaws.split_free _ c
 have h3:=mO (tx (catL c rows)) (tx [c])
 generalize Txt.split (tx (catL c rows)) (tx [c])=S at*
 have e:S=(S.map (·.cps.toList)).map tx:=by
  rw [List.map_map]
  conv=>lhs; rw [← List.map_id S]
  exact List.map_congr_left fun x _=>(j3 x).symm
 rw [e,gu] at h1
 have h4:=eM h1
 have h5:=mM (c:=c) (xs:=S.map (·.cps.toList)) (ys:=rows) (by simpa using h3) hne (fun x hx=>by obtain ⟨p,hp,rfl⟩:=List.mem_map.mp hx; exact h2 p hp) hf h4
 rw [e,h5]
theorem nK (c:Nat) (l:List Nat):∃ rows:List (List Nat),rows≠[]∧(∀ r∈rows,c∉r)∧catL c rows=l∧Txt.split (tx l) (tx [c])=rows.map tx:=by
 have h1:=StrLaws.join_split (tx l) (tx [c])
 have h2:∀ p∈Txt.split (tx l) (tx [c]),c∉p.cps.toList:=StrLaws.split_free _ c
 have h3:=mO (tx l) (tx [c])
 generalize Txt.split (tx l) (tx [c])=S at*
 have e:S=(S.map (·.cps.toList)).map tx:=by
  rw [List.map_map]
  conv=>lhs; rw [← List.map_id S]
  exact List.map_congr_left fun x _=>(j3 x).symm
 rw [e,gu] at h1
 exact ⟨S.map (·.cps.toList),by simpa using h3,(fun x hx=>by obtain ⟨p,hp,rfl⟩:=List.mem_map.mp hx; exact h2 p hp),eM h1,e⟩
theorem mQ (c:Nat):∀ rows:List (List Nat),rows.length≤(catL c rows).length+1
 | []=>Nat.zero_le _
 | [x]=>by simp [catL]
 | x::y::r=>by
  have:=mQ c (y::r)
  show _≤(x++c::catL c (y::r)).length+1
  rw [List.length_append,List.length_cons]
  simp only [List.length_cons] at this ⊢
  omega
end L2
namespace L2
end L2
namespace L2
open PySem PySem.Spec PyProof.Rows
local macro_rules | `(tactic| walk_at "w")=>`(tactic| (first | simp only [aB,g8,fQ,bF,g9,hG,w_c,jl,jF,hJ,hU,hV,w_b,w_not,jG,my,hX,hZ,jH,jI,ia,mz,ib,jJ,jK,mB,jL,ic,ie,ig,ii,gn,gp,gq,fu,fv,eJ,jM,jN,jO,jP,jQ,jR,jS,jT,jU,jV,jW,jX,mF,ik,fz,il,mG,im,gs,fA,jY,jZ,io,gt,ip,
 List.getElem?_cons_zero,List.getElem?_cons_succ,Option.some.injEq,exists_eq_left',exists_eq_left,List.set_cons_zero,List.set_cons_succ,ee,V.int.injEq,V.bl.injEq,V.ref.injEq,V.str.injEq,List.nil_append,List.cons_append] | dsimp only | skip))
section
variable {k:Nat} {tt:TT} {te:TE} {fin:Addr→Hp→Prop} {σ0:St} {H1:Hp}
theorem lj {cs:List Nat} (b:Nat→Bool) (f:Nat→V) (hn:cs.length≤900)
  (ht:∀ i c H R,cs[i]? =some c→Same H1 H→(∀ H',Same H H'→R (b i) H')→tt (σ0.set k (some (.str (tx [c])))) H R)
  (he:∀ i c H Q,cs[i]? =some c→b i=true→Same H1 H→(∀ H',Same H H'→Q (f i) H')→te (σ0.set k (some (.str (tx [c])))) H Q)
  (hd:∀ l H,H1 l=none→Same H1 H→H l=some (.lst (((List.range cs.length).filter b).map f))→fin l H):
  CompR (Its (tx cs)) (gName k) tt te fin σ0 H1:=by
 intro l hl
 have hsz:(tx cs).cps.size=cs.length:=by simp [tx]
 refine ⟨fun i m σ H=>m=cs.length - i∧i≤cs.length∧(σ=σ0∨∃ cv,σ=σ0.set k cv)∧Same H1 H∧H l=some (.lst (((List.range i).filter b).map f)),⟨cs.length,by simp,Nat.zero_le _,.inl rfl,(Same.refl H1).laid hl,by rw [ag]; rfl⟩,?_⟩
 rintro i m σ H ⟨rfl,hi,hσ,s1,el⟩
 by_cases hlt:i < cs.length
 · refine .inr ⟨by show i < (tx cs).cps.size; rw [hsz]; exact hlt,fun σ H=>(σ=σ0∨∃ cv,σ=σ0.set k cv)∧Same H1 H∧H l=some (.lst (((List.range (i+1)).filter b).map f)),fun σ' H' p'=>⟨cs.length - (i+1),by omega,rfl,hlt,p'⟩,?_⟩
   rintro x H' ⟨rfl,c,hc,rfl⟩
   have hc':cs[i]? =some c:=by simpa [tx] using hc
   show gName k (.str (tx [c])) σ H' _
   rw [bF]
   have e:σ.set k (some (.str (tx [c])))=σ0.set k (some (.str (tx [c]))):=by
    rcases hσ with rfl | ⟨cv,rfl⟩
    · rfl
    · exact List.set_set ..
   rw [e]
   refine ht i c H' _ hc' s1 fun H2 s2=>?_
   have el2:=s2 _ _ el
   cases hb:b i with
   | false=>
    rw [if_neg Bool.false_ne_true]
    refine ⟨.inr ⟨_,rfl⟩,s1.trans s2,?_⟩
    rw [List.range_succ,List.filter_append,List.filter_cons,hb]
    simpa using el2
   | true=>
    rw [if_pos rfl]
    refine he i c H2 _ hc' hb (s1.trans s2) fun H3 s3=>⟨_,s3 _ _ el2,by rw [List.length_map]; exact be (Nat.le_trans (mJ b hlt hn) (by decide)),.inr ⟨_,rfl⟩,((s1.trans s2).trans s3).own hl,?_⟩
    rw [ag,List.range_succ,List.filter_append,List.filter_cons,hb]
    simp
 · have e:i=cs.length:=by omega
   subst e
   exact .inl ⟨by show (tx cs).cps.size≤_; rw [hsz]; exact Nat.le_refl _,hd l H hl s1 el⟩
end
theorem lH {α:Type} (xs:List Int) (g:Int→α):(List.range xs.length).map (fun i=>g (xs.getD i 0))=xs.map g:=by
 have e:xs=(List.range xs.length).map fun i=>xs.getD i 0:=by
  refine List.ext_getElem? fun i=>?_
  rw [List.getElem?_map]
  by_cases h:i < xs.length
  · rw [List.getElem?_range h,List.getElem?_eq_getElem h]
    simp [List.getD,h]
  · rw [List.getElem?_eq_none (by omega),List.getElem?_eq_none (by simpa using h)]; rfl
 conv=>rhs; rw [e]
 rw [List.map_map]
 rfl
theorem iu {sep:Str} {ts:List Str} (h1:ts.length≤1000) (h2:∀ t∈ts,t.length≤1000) (h3:sep.length≤10):JoinOk sep ts=true:=by
 unfold JoinOk
 rw [Bool.not_eq_true']
 refine StrLaws.joinFits (B:=1000) h2 ?_
 have a1:ts.length*1000≤1000*1000:=Nat.mul_le_mul_right _ h1
 have a2:ts.length*sep.length≤1000*10:=Nat.mul_le_mul h1 h3
 omega
end L2
namespace L2
open PySem PySem.Spec PyProof.Rows
abbrev rIsN:R2:=fun x y H Q=>y=.non∧Q (.bl (decide (x=.non))) H
abbrev rNotN:R2:=fun x y H Q=>y=.non∧Q (.bl (!decide (x=.non))) H
def kStr:List V→Hp→VK→Prop
 | [.int i],H,Q=>i.natAbs.log2 < 1920∧Q (.str (Str.ofString (toString i))) H
 | _,_,_=>False
section
variable {X:Cx}
theorem iv:CallR X (.type "str") kStr:=by
 intro pins s σ H xs us Q I r h
 unfold kStr at h
 split at h
 · obtain ⟨hi,q⟩:=h
   cases r with
   | cons r0 rr=>
    cases rr
    obtain ⟨t,rfl⟩:=r0
    exact PySem.P.str_of_int hi ⟨.str _,H,I.tok _,⟨_,rfl⟩,q⟩
 · exact h.elim
end
section
variable {K:PySem.W.Frag} {H:Hp} {Q:VK}
theorem rj {x:V}:rIsN x .non H Q=Q (.bl (decide (x=.non))) H:=by simp [rIsN]
theorem pX {x:V}:rNotN x .non H Q=Q (.bl (!decide (x=.non))) H:=by simp [rNotN]
theorem uH {z:Str} {lo hi:Option Int}:bQ (.str z) lo hi H Q=(z.length≤sizeLine∧Q (.str (Txt.slice z lo hi)) H):=rfl
theorem rk {i:Int}:kStr [.int i] H Q=(i.natAbs.log2 < 1920∧Q (.str (Str.ofString (toString i))) H):=rfl
end
theorem pY (x:Str) (l u:Option Int):(Txt.slice x l u).length≤x.length:=Txt.slice_le x l u
end L2
namespace L2
open PySem PySem.Spec PyProof.Rows
structure Bt2 (mg:Str→Option Value):Prop extends Bt mg where
 all_:mg "all"=none
 sum_:mg "sum"=none
 enumerate_:mg "enumerate"=none
section
variable {K:PySem.W.Frag} {H:Hp} {Q:VK} {D:Ends} {σ:St} {g:TG} {tb:TS} {ta:TA} {ix:List (Option Nat)} {tt:TT} {te tf:TE} {k:Nat}
theorem rl:tIf tt te tf σ H Q=tt σ H fun c H1=>if c=true then te σ H1 Q else tf σ H1 Q:=rfl
theorem mR:tComp ix (iK ta) g tt te σ H Q=ta σ H fun vs H1=>∃ i j:Int,vs=[.int i,.int j]∧(-(2^62)≤i∧i < 2^62∧ -(2^62)≤j∧j < 2^62)∧CompR (Itr i (j - i).toNat) g tt te (fun l H'=>Q (.ref l) H') (subσ ix σ) H1:=rfl
theorem ll:sComp k ix (iK ta) g tt te D σ H=ta σ H fun vs H1=>∃ i j:Int,vs=[.int i,.int j]∧(-(2^62)≤i∧i < 2^62∧ -(2^62)≤j∧j < 2^62)∧CompR (Itr i (j - i).toNat) g tt te (fun l H'=>D.nx (σ.set k (some (.ref l))) H') (subσ ix σ) H1:=rfl
theorem isiE {x:V} {n t:String} {b:Bool} (hx:gm H x=some t) (hn:iO n=true) (hb:isTy t n=b):kIsi [x,.ty n] H Q=Q (.bl b) H:=by
 subst hb
 show (iO n=true∧bnd (gm H x) fun t=>Q (.bl (isTy t n)) H)=_
 rw [hx]
 simp only [hn,true_and,ee]
theorem mS {i:Int}:kIsi [.int i,.ty "int"] H Q=Q (.bl true) H:=isiE (t:="int") rfl (by decide) (by decide)
theorem mT {i:Int}:kIsi [.int i,.ty "bool"] H Q=Q (.bl false) H:=isiE (t:="int") rfl (by decide) (by decide)
theorem mU {i:Int}:kIsi [.int i,.ty "str"] H Q=Q (.bl false) H:=isiE (t:="int") rfl (by decide) (by decide)
theorem mV {i:Bool}:kIsi [.bl i,.ty "bool"] H Q=Q (.bl true) H:=isiE (t:="bool") rfl (by decide) (by decide)
theorem mW {i:Bool}:kIsi [.bl i,.ty "int"] H Q=Q (.bl true) H:=isiE (t:="bool") rfl (by decide) (by decide)
theorem mX {i:Str}:kIsi [.str i,.ty "str"] H Q=Q (.bl true) H:=isiE (t:="str") rfl (by decide) (by decide)
theorem mY {i:Bool}:kIsi [.bl i,.ty "str"] H Q=Q (.bl false) H:=isiE (t:="bool") rfl (by decide) (by decide)
theorem pZ {A B:Prop}:(if true=true then A else B)=A:=if_pos rfl
theorem p0 {A B:Prop}:(if false=true then A else B)=B:=if_neg Bool.false_ne_true
theorem p5 {i:Int}:rU (fun i=>.int (-i)) (.int i) H Q=Q (.int (-i)) H:=by
 refine propext ⟨?_,fun h=>⟨i,rfl,h⟩⟩
 rintro ⟨j,e,h⟩
 cases e
 exact h
theorem ixT {p:Addr} {i:Int} {xs:List V} {v:V} (h:H p=some (.tup xs)) (e:atI xs i=some v) (q:Q v H):cIx (.ref p) (.int i) H Q:=by
 rw [qG h]; exact bu e q
theorem ixL {p:Addr} {i:Int} {xs:List V} {v:V} (h:H p=some (.lst xs)) (e:atI xs i=some v) (q:Q v H):cIx (.ref p) (.int i) H Q:=by
 rw [uE h]; exact bu e q
end
end L2
namespace L2
open PySem PySem.Spec PyProof.Rows
theorem ObjOk.ob {P:Program} {w:World} {H:Hp} {h:Heap} {a:Addr} {o:HO} (x:ObjOk P w H h a o):∃ u,h.get? a=some u:=by
 cases o with
 | lst xs=>obtain ⟨_,_,_,_,e⟩:=x; exact ⟨_,e⟩
 | tup xs=>obtain ⟨_,_,_,ob,e,_⟩:=x; exact ⟨_,e⟩
 | dK kvs=>obtain ⟨_,_,_,_,o,_,_,e,_⟩:=x; exact ⟨_,e⟩
 | dT kvs=>obtain ⟨_,_,_,_,o,_,_,e,_⟩:=x; exact ⟨_,e⟩
 | set S n=>obtain ⟨o,_,_,_,e,_⟩:=x; exact ⟨_,e⟩
 | ins C dx fs=>obtain ⟨_,_,_,e,_⟩:=x; exact ⟨_,e⟩
 | own y=>exact x
 | xd fs=>obtain ⟨_,⟨_,_,_,e,_⟩,_⟩:=x; exact ⟨_,e⟩
 | rng lo hi=>obtain ⟨_,_,_,e⟩:=x; exact ⟨_,e⟩
 | frz ob u=>obtain ⟨e,_⟩:=x; exact ⟨_,e⟩
 | tbl ps=>exact ⟨_,(show h.get? a=some _ from x)⟩
 | met f y=>exact ⟨_,(show h.get? a=some _ from x)⟩
 | ext φ=>obtain ⟨_,e,_⟩:=x; exact e
def Tr (h:Heap) (x T C:Addr) (fl:Value):Prop:=∃ oe vs oT ts a0,h.get? x=some oe∧oe.cls=.ref C∧vs[0]? =some a0∧oe.data=.fields vs∧vs[1]? =some (.ref T)∧T≠x∧h.get? T=some oT∧oT.data=.fields ts∧ts[3]? =some fl
structure Fly (P:Program) (w:World) (outer:List Env) (H:Hp) (s:Shared) (x T C:Addr) (H':Hp) (s':Shared):Prop where
 os:s'.os=s.os
 bare:AllBare s'.gens
 un:Un (frs outer) [] H H' s.heap s'.heap
 hok:HOk P w H' s'.heap
 fx:H' x=none
 fT:H' T=none
 nx:s.heap.get? x=none
 nT:s.heap.get? T=none
 tr:Tr s'.heap x T C .none
def CX1 (P:Program) (w:World):CXT:=fun outer H s E e s'=>∃ x T C H',e=.ref x∧Fly P w outer H s x T C H' s'∧E (.ref C) none H'
theorem mZ {P:Program} {w:World} {env:Env} {outer:List Env} {base:Heap} {H₀ H H':Hp} {s₀ s sA:Shared} {x T' C L:Addr} {h':Heap} {ex:List Addr}
  (hos:sA.os=s₀.os) (hbare:AllBare sA.gens) (hL:env.frame=some L) (nL:s₀.heap.get? L=none)
  (U0:Un (frs outer) [] H₀ H s₀.heap s.heap) (fun0:s.heap.FunFrames base (env::outer)) (hfr:∀ b∈frs (env::outer),H b=none)
  (UA:Un (frs (env::outer)) [] H H' s.heap sA.heap) (okA:HOk P w H' sA.heap)
  (exn:∀ b∈ex,s.heap.get? b=none∧H' b=none)
  (keepAll:∀ b o,sA.heap.get? b=some o→b∉frs (env::outer)→b∉ex→h'.get? b=some o) (up:sA.heap.UpToSlots h')
  (nx:s.heap.get? x=none) (fx:H' x=none) (hT:∀ o,sA.heap.get? T'=some o→T'∈frs (env::outer)∨T'∈ex)
  (tr:Tr h' x T' C .none):Fly P w outer H₀ s₀ x T' C H' { sA with heap:=h' }:=by
 have frD:∀ b∈frs (env::outer),∃ o,s.heap.get? b=some o∧∀ vs,o.data≠.fields vs:=fun b hb=>(fun0.mem hb).2
 have frA:∀ b∈frs (env::outer),∃ o,sA.heap.get? b=some o∧∀ vs,o.data≠.fields vs:=fun b hb=>by
  obtain ⟨o,e,d⟩:=frD b hb
  obtain ⟨sl,e2⟩:=UA.slot b o e (hfr b hb) hb (by simp)
  exact ⟨_,e2,d⟩
 have frH:∀ b∈frs (env::outer),H' b=none:=fun b hb=>by
  obtain ⟨o,e,d⟩:=frD b hb
  exact UA.free b o e (hfr b hb) (by simp)
 have Tfr:T'∉frs (env::outer):=fun hb=>by
  obtain ⟨o,e,d⟩:=frA T' hb
  obtain ⟨sl,e2⟩:=up T' o e d
  obtain ⟨_,_,oT,ts,_,_,_,_,_,_,_,e3,d3,_⟩:=tr
  rw [e2] at e3
  cases e3
  exact d _ d3
 have sub:∀ b,b∈frs outer→b∈frs (env::outer):=fun b hb=>by
  unfold frs at hb ⊢
  rw [List.filterMap_cons,hL]
  exact List.mem_cons_of_mem _ hb
 have isL:∀ b,b∈frs (env::outer)→b=L∨b∈frs outer:=fun b hb=>by
  unfold frs at hb ⊢
  rw [List.filterMap_cons,hL] at hb
  exact List.mem_cons.mp hb
 have thereA:∀ b o,sA.heap.get? b=some o→b∉ex→∃ o',h'.get? b=some o':=fun b o e hx=>by
  by_cases hb:b∈frs (env::outer)
  · obtain ⟨o1,e1,d1⟩:=frA b hb
    rw [e] at e1; cases e1
    obtain ⟨sl,e2⟩:=up b o e d1
    exact ⟨_,e2⟩
  · exact ⟨o,keepAll b o e hb hx⟩
 have nex:∀ b o,s.heap.get? b=some o→b∉ex:=fun b o e hx=>by rw [(exn b hx).1] at e; cases e
 refine ⟨hos,hbare,⟨fun b o e n hb _=>?_,fun b o e n hb _=>?_,fun b o e n _=>?_,fun b o e _=>?_,fun b xs e=>UA.tups b xs (U0.tups b xs e),fun b o u e=>UA.frzs b o u (U0.frzs b o u e),fun b ps e=>?_⟩,?_,fx,?_,?_,?_,tr⟩
 · have e1:=U0.keep b o e n hb (by simp)
   have n1:=U0.free b o e n (by simp)
   have nb:b∉frs (env::outer):=fun z=>by
    rcases isL b z with z | z
    · rw [z,nL] at e; cases e
    · exact hb z
   exact keepAll b o (UA.keep b o e1 n1 nb (by simp)) nb (nex b o e1)
 · obtain ⟨sl,e1⟩:=U0.slot b o e n hb (by simp)
   have n1:=U0.free b o e n (by simp)
   obtain ⟨sl2,e2⟩:=UA.slot b _ e1 n1 (sub b hb) (by simp)
   obtain ⟨o3,e3,d3⟩:=frA b (sub b hb)
   rw [e2] at e3; cases e3
   obtain ⟨sl4,e4⟩:=up b _ e2 d3
   exact ⟨sl4,e4⟩
 · have n1:=U0.free b o e n (by simp)
   obtain ⟨o1,e1⟩:=U0.there b o e (by simp)
   exact UA.free b o1 e1 n1 (by simp)
 · obtain ⟨o1,e1⟩:=U0.there b o e (by simp)
   obtain ⟨o2,e2⟩:=UA.there b o1 e1 (by simp)
   exact thereA b o2 e2 (nex b o1 e1)
 · obtain ⟨m1,e1⟩:=U0.tbls b ps e
   obtain ⟨m2,e2⟩:=UA.tbls b _ e1
   exact ⟨m1++m2,by rw [e2,Array.append_assoc]⟩
 · intro a o e
   have key:∀ b,H' b≠none→b∉frs (env::outer)∧b∉ex:=fun b hb=>⟨fun z=>hb (frH b z),fun z=>hb (exn b z).2⟩
   refine (okA a o e).stay (fun b u hb q=>?_) (fun _ q=>q) fun _ _ q=>q
   have hb':H' b≠none:=by
    rcases hb with rfl | hb
    · rw [e]; simp
    · rw [hb]; simp
   exact keepAll b u q (key b hb').1 (key b hb').2
 · cases q:H' T' with
   | none=>rfl
   | some o=>
    obtain ⟨u,e⟩:=(okA T' o q).ob
    rcases hT u e with z | z
    · exact absurd z Tfr
    · rw [(exn T' z).2] at q; cases q
 · cases q:s₀.heap.get? x with
   | none=>rfl
   | some o=>
    obtain ⟨o1,e1⟩:=U0.there x o q (by simp)
    rw [nx] at e1; cases e1
 · cases q:s₀.heap.get? T' with
   | none=>rfl
   | some o=>
    obtain ⟨o1,e1⟩:=U0.there T' o q (by simp)
    obtain ⟨o2,e2⟩:=UA.there T' o1 e1 (by simp)
    rcases hT o2 e2 with z | z
    · exact absurd z Tfr
    · rw [(exn T' z).1] at e1; cases e1
theorem fC {h base:Heap} {as:List Addr}:∀ {l:List Env},h.FunFrames base l→(∀ b∈frs l,b∈as)→h.FunFrames (PySem.W.hideAll h as) l
 | [],_,_=>trivial
 | env::r,⟨hk,⟨L,o,hf,_,ho,hd⟩,hr⟩,hin=>⟨hk,⟨L,o,hf,PySem.W.hideAll_none as (hin L (by unfold frs; rw [List.filterMap_cons,hf]; exact List.mem_cons_self)),ho,hd⟩,fC hr fun b hb=>hin b (by
   unfold frs at hb ⊢; rw [List.filterMap_cons,hf]; exact List.mem_cons_of_mem _ hb)⟩
theorem iQ {h h1 base:Heap} {H H':Hp} {fs:List Addr}:∀ {l:List Env},h.FunFrames base l→(∀ b∈frs l,b∈fs∧H b=none)→Un fs [] H H' h h1→h1.FunFrames base l
 | [],_,_,_=>trivial
 | env::r,⟨hk,⟨L,o,hf,hn,ho,hd⟩,hr⟩,hin,u=>by
  obtain ⟨h1,h2⟩:=hin L (by unfold frs; rw [List.filterMap_cons,hf]; exact List.mem_cons_self)
  obtain ⟨sl,e⟩:=u.slot L o ho h2 h1 (by simp)
  exact ⟨hk,⟨L,_,hf,hn,e,hd⟩,iQ hr (fun b hb=>hin b (by unfold frs at hb ⊢; rw [List.filterMap_cons,hf]; exact List.mem_cons_of_mem _ hb)) u⟩
section
variable {P:Program} {w:World} {K:PySem.W.Frag} {mg:Str→Option Value} {base:Heap} {N:List Str} {qual:Str} {scope:Scope} {f:Addr} {cd:Value} {A:Around} {outer:List Env} {s₀:Shared} {H₀:Hp} {E:XK}
abbrev cx1 (P:Program) (w:World) (K:PySem.W.Frag) (mg:Str→Option Value) (base:Heap) (N:List Str) (qual:Str) (scope:Scope) (f:Addr) (cd:Value) (A:Around) (outer:List Env) (s:Shared) (H:Hp) (E:XK):Cx:=
 cxOf (CX1 P w) P w K mg base N qual scope f cd A outer s H E
theorem fj {E':XK} (himp:∀ c d H,E' c d H→E c d H):eH (CX1 P w) (cx1 P w K mg base N qual scope f cd A outer s₀ H₀ E) E':=by
 intro pins σ H s e s' I h
 obtain ⟨x,T,C,H',rfl,F,q⟩:=h
 obtain ⟨oe,vs,oT,ts,a0,he,hc,h0,hd,h1,hTx,hT,hdT,h3⟩:=F.tr
 have hstk:∀ b∈frs (envOfC qual scope s₀.heap.objs.size f cd::outer),H b=none:=I.stkFree
 have ff:s'.heap.FunFrames base (envOfC qual scope s₀.heap.objs.size f cd::outer):=iQ I.stack (fun b hb=>⟨hb,hstk b hb⟩) F.un
 show wpAny (model P w) (A.deeper (envOfC qual scope s₀.heap.objs.size f cd)) (leaving (envOfC qual scope s₀.heap.objs.size f cd) (.ref x)) _ _ s'
 have hin:∀ b∈frs (envOfC qual scope s₀.heap.objs.size f cd::outer),b∈frs (envOfC qual scope s₀.heap.objs.size f cd::outer)++[x,T]:=fun b hb=>List.mem_append_left _ hb
 refine wpAny_leaves_onW (base:=PySem.W.hideAll s'.heap (frs (envOfC qual scope s₀.heap.objs.size f cd::outer)++[x,T])) (cls:=.ref C) (a0:=a0) (L:=s₀.heap.objs.size) I.ok.frames rfl
  ⟨fun b o e=>PySem.W.of_hideAll _ e,PySem.W.hideAll_none _ (by simp),fC ff hin,oe,vs,T,oT,ts,he,⟨hc,h0⟩,hd,h1,PySem.W.hideAll_none _ (by simp),hTx,hT,hdT,h3⟩ fun h' fl up=>?_
 obtain ⟨k1,k2,k3,oe',vs',T',oT',ts',a1,a2,a3,a4,a5,a6,a7,a8,a9⟩:=fl
 have keepAll:∀ b o,s'.heap.get? b=some o→b∉frs (envOfC qual scope s₀.heap.objs.size f cd::outer)→b∉[x,T]→h'.get? b=some o:=fun b o e hb hx=>k1 b o (PySem.W.hideAll_get _ e fun z=>(List.mem_append.mp z).elim hb hx)
 refine ⟨x,T',C,H',rfl,mZ (env:=envOfC qual scope s₀.heap.objs.size f cd) (base:=base) (s:=s) (sA:=s') (L:=s₀.heap.objs.size) (ex:=[x,T]) (F.os.trans I.os) F.bare rfl (Heap.get?_none_of_le (Nat.le_refl _)) I.base I.stack hstk F.un F.hok (fun b hb=>?_) keepAll up F.nx F.fx (fun o e=>?_) ⟨oe',vs',oT',ts',a0,a1,a2.1,a2.2,a3,a4,a6,a7,a8,a9⟩,himp _ _ _ q⟩
 · simp only [List.mem_cons,List.not_mem_nil,or_false] at hb
   rcases hb with rfl | rfl
   · exact ⟨F.nx,F.fx⟩
   · exact ⟨F.nT,F.fT⟩
 · by_cases z:T'∈frs (envOfC qual scope s₀.heap.objs.size f cd::outer)++[x,T]
   · exact List.mem_append.mp z
   · rw [PySem.W.hideAll_get _ e z] at a5; cases a5
theorem qM {pins:List (Addr × Obj)} {σ:St} {H:Hp} {s:Shared} {h1:Heap} {x C:Addr} {args:List Value} (I:Inv (cx1 P w K mg base N qual scope f cd A outer s₀ H₀ E) pins σ H s) (hm:Heap.MadeExcOf s.heap h1 x (.ref C) args) (q:E (.ref C) none H):
  (cx1 P w K mg base N qual scope f cd A outer s₀ H₀ E).xe (.ref x) { s with heap:=h1 }:=by
 have hstk:∀ b∈frs (envOfC qual scope s₀.heap.objs.size f cd::outer),H b=none:=I.stkFree
 have ff:s.heap.FunFrames base (envOfC qual scope s₀.heap.objs.size f cd::outer):=I.stack
 show wpAny (model P w) (A.deeper (envOfC qual scope s₀.heap.objs.size f cd)) (leaving (envOfC qual scope s₀.heap.objs.size f cd) (.ref x)) _ _ { s with heap:=h1 }
 refine wpAny_leaves_madeW (s:={ s with heap:=h1 }) (base:=PySem.W.hideAll s.heap (frs (envOfC qual scope s₀.heap.objs.size f cd::outer))) (h:=s.heap) (L:=s₀.heap.objs.size) I.ok.frames rfl (fun b o e=>PySem.W.of_hideAll _ e) (fC ff fun b hb=>hb) hm fun h' t fl _ _ up=>?_
 obtain ⟨k1,k2,k3,oe',vs',T',oT',ts',a1,a2,a3,a4,a5,a6,a7,a8,a9⟩:=fl
 have keepAll:∀ b o,s.heap.get? b=some o→b∉frs (envOfC qual scope s₀.heap.objs.size f cd::outer)→b∉([]:List Addr)→h'.get? b=some o:=fun b o e hb _=>k1 b o (PySem.W.hideAll_get _ e hb)
 refine ⟨x,T',C,H,rfl,mZ (env:=envOfC qual scope s₀.heap.objs.size f cd) (base:=base) (s:=s) (sA:=s) (L:=s₀.heap.objs.size) (ex:=[]) I.os I.bare rfl (Heap.get?_none_of_le (Nat.le_refl _)) I.base ff hstk Un.refl I.hok (fun b hb=>nomatch hb) keepAll ((Heap.UpToSlots.of_keeps hm.keeps).trans up) hm.new ?_ (fun o e=>?_) ⟨oe',vs',oT',ts',_,a1,a2.1,a2.2,a3,a4,a6,a7,a8,a9⟩,q⟩
 · cases z:H x with
   | none=>rfl
   | some o=>
    obtain ⟨u,e⟩:=(I.hok x o z).ob
    rw [hm.new] at e; cases e
 · by_cases z:T'∈frs (envOfC qual scope s₀.heap.objs.size f cd::outer)
   · exact .inl z
   · rw [PySem.W.hideAll_get _ e z] at a5; cases a5
end
end L2
namespace L2
open PySem PySem.Spec PyProof.Rows
section
variable {prog:Program} {w:World} {A:Around} {E:Value→Shared→Prop} {h:Heap} {g:Array GenState} {d:Drawn} {t:Nat} {os:OsState} {K:PySem.W.Frag} {a C:Addr} {o:Obj}
structure XIs (K:PySem.W.Frag) (C:Addr):Prop where
 ga:PySem.W.findIn K (.ref C) "__getattribute__"=some (some (.builtin "BaseException.__getattribute__"))
 gx:PySem.W.findIn K (.ref C) "__getattr__"=some none
 cl:PySem.W.findIn K (.ref C) "__class__"=some (some (.builtin "object.__class__"))
 mo:PySem.W.mroIn K C (.type "object")=some true
 mb:PySem.W.mroIn K C (.type "BaseException")=some true
theorem oj {M:Model} {T:Value} {v:Bool} (X:K.In h) (hm:PySem.W.mroIn K C T=some v):PySem.W.Looks M h (isSubtype (.ref C) T) v:=PySem.W.looks_mroIn X hm
theorem uI {R:Result→Shared→Prop} (X:K.In h) (Z:XIs K C) (hx:h.get? a=some o) (hc:o.cls=.ref C) (hq:R (.ok (.ret (.ref C))) ⟨h,g,d,t,os⟩):
  codeAny (model prog w) A (.call (.builtin "getset_descriptor.__get__") ⟨[.builtin "object.__class__",.ref a,.ref C],[]⟩) R ⟨h,g,d,t,os⟩:=by
 have hT5:(⟨h,g,d,t,os⟩:Shared).TypeIs (.builtin "object.__class__") "getset_descriptor":=F.typeOf_object_class
 have L1:PySem.W.Looks (model prog w) h (isSubtype (.ref C) (.type (".".intercalate ("object.__class__".cutAt '.').dropLast))) true:=by rw [F.owner_object_class]; exact oj X Z.mo
 refine codeAny_call_builtin F.slot_gs_get.plain F.entry_gs_get (F.slot_gs_get.check _ _ _ _ _ _ _ _ hT5 (F.args_gs_get _ _ _) ?_)
 repeat (any_goals (first | assumption | (with_reducible refine wpAny_loadPart_at hx ?_; rw [hc]) | with_reducible refine L1.at ?_ | wp_step))
 refine ⟨Code.quiet_builtin _ (by decide+kernel),codeAny_builtin F.entry_object_class ?_⟩
 repeat (any_goals (first | assumption | (with_reducible refine wpAny_loadPart_at hx ?_; rw [hc]) | wp_step))
theorem sg {tk:Tok} {Q:Fin→Shared→Prop} (X:K.In h) (Z:XIs K C) (hx:h.get? a=some o) (hc:o.cls=.ref C) (hq:Q (.done (.ret (.ref C))) ⟨h,g,d,t,os⟩):
  wpAny (model prog w) A (Builtin.«object.__getattribute__» ⟨[.ref a,.str "__class__" tk],[]⟩) Q E ⟨h,g,d,t,os⟩:=by
 have hT5:(⟨h,g,d,t,os⟩:Shared).TypeIs (.builtin "object.__class__") "getset_descriptor":=F.typeOf_object_class
 have f5:=F.typeOf_object_class
 have f6:=F.slot_gs_get.lookup
 have f7:=F.slot_gs_set.lookup
 have L1:=PySem.W.looks_findIn (M:=model prog w) X Z.cl
 repeat (any_goals (first | assumption | (with_reducible refine wpAny_loadPart_at hx ?_; rw [hc]) | with_reducible refine L1.at ?_ | wp_step))
 refine uI X Z hx hc ?_
 repeat (any_goals (first | assumption | wp_step))
theorem sh {M:Model} {nameV:Value} {Q:Unit→Shared→Prop} (X:K.In h) (Z:XIs K C) (hx:h.get? a=some o) (hc:o.cls=.ref C) (hq:Q () ⟨h,g,d,t,os⟩):wpAny M A (checkBuiltinCall "BaseException.__getattribute__" ⟨[.ref a,nameV],[]⟩) Q E ⟨h,g,d,t,os⟩:=by
 have hk:builtinKind "BaseException.__getattribute__"=some .slot:=by decide+kernel
 have hsplit:splitId "BaseException.__getattribute__"=some ("BaseException","__getattribute__"):=by decide+kernel
 have L1:=oj (M:=M) X Z.mb
 have ha:=F.args_bexc_ga (.ref a) nameV
 simp only [checkBuiltinCall,hk,hsplit]
 refine wpAny_bind ?_
 · unfold isInstance
   repeat (first | (with_reducible refine wpAny_loadPart_at hx ?_; rw [hc]) | with_reducible refine L1.at ?_ | wp_step)
   exact hq
theorem tX {tk:Tok} {R:Result→Shared→Prop} (X:K.In h) (Z:XIs K C) (hx:h.get? a=some o) (hc:o.cls=.ref C) (hq:R (.ok (.ret (.ref C))) ⟨h,g,d,t,os⟩):
  codeAny (model prog w) A (.call (.builtin "BaseException.__getattribute__") ⟨[.ref a,.str "__class__" tk],[]⟩) R ⟨h,g,d,t,os⟩:=
 codeAny_call_builtin F.attr_ValueError.ga.plain F.entry_bexc_ga (sh X Z hx hc (sg X Z hx hc hq))
theorem uS {tk:Tok} {fill expr:Bool} {Q:Value→Shared→Prop} (X:K.In h) (Z:XIs K C) (hx:h.get? a=some o) (hc:o.cls=.ref C) (hq:Q (.ref C) ⟨h,g,d,t,os⟩):
  wpAny (model prog w) A (getAttrBy (.ref a) (.str "__class__" tk) fill expr) Q E ⟨h,g,d,t,os⟩:=by
 have f3:=F.attr_ValueError.ga.bind (.ref a)
 have hx0:(expr&&onTheHeap (Value.builtin "BaseException.__getattribute__"))=false:=by cases expr <;> rfl
 have hx2:(Value.builtin "BaseException.__getattribute__"==Value.builtin "object.__getattribute__")=false:=by decide+kernel
 have hx1:(onTheHeap (Value.ref C)&&Value.builtin "BaseException.__getattribute__"==Value.builtin "object.__getattribute__")=false:=by rw [hx2]; rfl
 have L1:=PySem.W.looks_findIn (M:=model prog w) X Z.ga
 have L2:=PySem.W.looks_findIn (M:=model prog w) X Z.gx
 repeat (any_goals (first | assumption | (with_reducible refine wpAny_loadPart_at hx ?_; rw [hc]) | with_reducible refine L1.at ?_ | with_reducible refine L2.at ?_ | wp_step))
 refine tX X Z hx hc ?_
 repeat (any_goals (first | assumption | wp_step))
theorem tY {Q:Option Value→Shared→Prop} (X:K.In h) (Z:XIs K C) (hx:h.get? a=some o) (hc:o.cls=.ref C) (hq:Q (some (.ref C)) ⟨h,g,d,t+1,os⟩):
  wpAny (model prog w) A (getAttr? (.ref a) "__class__") Q E ⟨h,g,d,t,os⟩:=by
 unfold getAttr? getAttrBy?
 repeat (any_goals (first | assumption | with_reducible apply uS X Z hx hc | wp_step))
def XO (a C:Addr):Heap→Prop:=fun h=>∃ o vs,h.get? a=some o∧o.cls=.ref C∧o.data=.fields vs
theorem ol (Z:XIs K C):∃ c' d' cd sl,K.lookup C=some ⟨c',d',.cls cd,sl⟩:=by
 have:=Z.mo
 unfold PySem.W.mroIn PySem.W.clsIn at this
 split at this
 · rename_i c' d' cd' sl' ho
   exact ⟨_,_,_,_,ho⟩
 · cases this
theorem m3 (Z:XIs K C):PySem.W.KitX K (.ref a) (.ref C) (XO a C) where
 ty:=fun M h _ ⟨o,vs,hx,hc,_⟩=>by
  intro A Q E s k q
  unfold typeOf
  refine wpAny_bind (wpAny_loadPart (k _ _ hx) ?_)
  rw [hc]
  exact wpAny_pure q
 it:=fun M h X _=>by
  obtain ⟨c',d',cd,sl,ho⟩:=ol Z
  intro A Q E s k q
  unfold isType loadHead
  exact wpAny_bind (wpAny_loadPart (k _ _ (X _ _ ho)) (wpAny_pure q))
 ne:=fun h tp dd its n sl X htp=>by
  obtain ⟨c',d',cd,sl',ho⟩:=ol Z
  refine Bool.eq_false_iff.mpr fun q=>?_
  have e:C=tp:=Value.ref.inj (beq_iff_eq.mp q)
  subst e
  have z:=(X _ _ ho).symm.trans htp
  cases z
 ca:=fun {prog w A E Q s} X ⟨o,vs,hx,hc,_⟩ hq=>by
  obtain ⟨h,g,d,t,os⟩:=s
  exact tY X Z hx hc hq
end
def cvOf:V→Option Value
 | .ref p=>some (.ref p)
 | .ty n=>some (.type n)
 | _=>none
theorem qN {c:V} {cv u:Value} (h:cvOf c=some cv) (r:RelV c u):u=cv:=by
 cases c with
 | ref p=>cases h; cases r; rfl
 | ty n=>cases h; cases r; rfl
 | _=>cases h
def kIsX (K:PySem.W.Frag):List V→Hp→VK→Prop:=fun vs H Q=>∃ a C c cv b,vs=[.ref a,c]∧H a=some (.ext (XO a C))∧XIs K C∧cvOf c=some cv∧PySem.W.kitOne K (.ref C) cv=some b∧Q (.bl b) H
theorem lm {X:Cx}:CallR X (.builtin "isinstance") (kIsX X.K):=by
 intro pins s σ H xs us Q I r h
 obtain ⟨a,C,c,cv,b,rfl,hH,Z,rc,hk,q⟩:=h
 obtain ⟨u,w',rfl,ru,rw'⟩:=iL r
 cases ru
 have e:w'=cv:=qN rc rw'
 subst e
 obtain ⟨p,_⟩:=I.hok a _ hH
 exact PySem.W.kia_one (m3 Z) I.kIn p hk (fun z=>nomatch z) fun tk=>⟨.bl b,H,I.tok tk,rfl,q⟩
end L2
namespace L2
open PySem PySem.Spec PyProof.Rows
abbrev VE:List Value:=[.type "ValueError",.type "Exception",.type "BaseException",.type "object"]
def jo (e:DictEntry):Bool:=match e.key with | .str _ _=>true | _=>false
def dL (K:PySem.W.Frag) (N:Addr):Bool:=match K.lookup N with
 | some ⟨_,_,.dict es _,_⟩=>es.toList.all jo&&(nsFind es "__init__").isNone
 | _=>false
theorem fS {K:PySem.W.Frag} {N:Addr} {h:Heap} (X:K.In h) (e:dL K N=true):∃ mN,h.Ns N mN∧mN "__init__"=none:=by
 unfold dL at e
 split at e
 · rename_i c d es ep sl ho
   simp only [Bool.and_eq_true] at e
   refine ⟨nsFind es,⟨_,es,ep,X _ _ ho,rfl,fun en hm=>?_,fun _=>rfl⟩,Option.isNone_iff_eq_none.mp e.2⟩
   have:=List.all_eq_true.mp e.1 en (Array.mem_def.mp hm)
   unfold jo at this
   split at this
   · rename_i n t q; exact ⟨n,t,q⟩
   · cases this
 · cases e
structure XC (K:PySem.W.Frag) (C D:Addr):Prop where
 oC:∃ nm q N bs hdct sn sub ab col dd k0 k1 k2 k3 k5,K.lookup C=some (excClassObj nm q C N bs (.ref D::VE) hdct sn sub ab col dd k0 k1 k2 k3 k5 "ValueError.__new__")∧dL K N=true
 oD:∃ c0 dd cd sl,K.lookup D=some ⟨c0,dd,.cls cd,sl⟩∧dL K cd.ns=true
theorem XC.mk' {K:PySem.W.Frag} {C D:Addr} {nm q:Str} {N:Addr} {bs:List Value} {hdct:Bool} {sn:List Str} {sub:List Value} {ab:Bool} {col:Option Bool} {dd:Option Addr} {k0 k1 k2 k3 k5:Option Value} {c0:Value} {dD:Option Addr} {cd:ClassData} {sl:Array (Option Value)}
  (l1:K.lookup C=some (excClassObj nm q C N bs (.ref D::VE) hdct sn sub ab col dd k0 k1 k2 k3 k5 "ValueError.__new__")) (n1:dL K N=true) (l2:K.lookup D=some ⟨c0,dD,.cls cd,sl⟩) (n2:dL K cd.ns=true):XC K C D:=
 ⟨⟨_,_,_,_,_,_,_,_,_,_,_,_,_,_,_,l1,n1⟩,⟨_,_,_,_,l2,n2⟩⟩
def dM (E:XK) (C:Addr) (t:TA):TS:=fun _ σ H=>t σ H fun vs H1=>vs.length≤sizeLine∧E (.ref C) none H1
section
variable {P:Program} {w:World} {K:PySem.W.Frag} {mg:Str→Option Value} {base:Heap} {N:List Str} {qual:Str} {scope:Scope} {f:Addr} {cd:Value} {A:Around} {outer:List Env} {s₀:Shared} {H₀:Hp} {E:XK}
theorem dh {C D:Addr} {x:Str} {np cpos pos:Pos} {e₀:Expr} {rest:List Expr} {t:TA} (Z:XC K C D) (hg:Gl (cx1 P w K mg base N qual scope f cd A outer s₀ H₀ E) x) (hm:mg x=some (.ref C))
  (ha:PA (cx1 P w K mg base N qual scope f cd A outer s₀ H₀ E) (e₀::rest) t) (hdb:(x==("__debug__":Str))=false:=by decide)
  (he:starEach (e₀::rest) (envOfC qual scope s₀.heap.objs.size f cd)=(false,eval e₀ (envOfC qual scope s₀.heap.objs.size f cd))::starEach rest (envOfC qual scope s₀.heap.objs.size f cd):=by rfl)
  (hplain:(backTo cpos (starEach rest (envOfC qual scope s₀.heap.objs.size f cd))).any (·.1)=false:=by rfl):
  PS (cx1 P w K mg base N qual scope f cd A outer s₀ H₀ E) (.Raise (some (.Call (.Name x np) (e₀::rest) [] cpos)) none pos) (dM E C t):=by
 intro pins s σ H D' I h
 obtain ⟨⟨nm,q,Nc,bs,hdct,sn,sub,ab,col,dd,k0,k1,k2,k3,k5,l1,n1⟩,⟨c0,dD,cdD,sl,l2,n2⟩⟩:=Z
 obtain ⟨mN,hN,hni⟩:=fS I.kIn n1
 obtain ⟨mD,hD,hnd⟩:=fS I.kIn n2
 have hb:=I.ok.hd rfl
 refine wpAny_Raise_call_subU (C:=C) (nm:=nm) (q:=q) (N:=Nc) (bs:=bs) (bm:=.ref D::VE) (bmB:=VE) (hdct:=hdct) (sn:=sn) (sub:=sub) (ab:=ab) (col:=col) (dd:=dd) (k0:=k0) (k1:=k1) (k2:=k2) (k3:=k3) (k5:=k5)
  F.excBase_ValueError (by decide+kernel) F.excBase_ValueError (mN:=mN) (by rw [List.contains_cons,show VE.contains (.type "BaseException")=true by decide+kernel,Bool.or_true]) hb (by rw [show starEach (e₀::rest) (cx1 P w K mg base N qual scope f cd A outer s₀ H₀ E).env=_ from he]; show (false||(backTo cpos (starEach rest (envOfC qual scope s₀.heap.objs.size f cd))).any (·.1))=false; rw [hplain]; rfl) hni (fh I hg hm ⟨rfl,?_⟩ hdb)
 have h1:=ha cpos pins s σ H _ I h
 rw [show starEach (e₀::rest) (cx1 P w K mg base N qual scope f cd A outer s₀ H₀ E).env=_ from he] at h1 ⊢
 refine Calls.evalArgs_plain (wpAny_mono h1 (fun vs s₂ h₂=>?_) fun _ _ y=>y)
 obtain ⟨xs,H2,I2,rv,hl,hE⟩:=h₂
 obtain ⟨mN2,hN2,hni2⟩:=fS I2.kIn n1
 obtain ⟨mD2,hD2,hnd2⟩:=fS I2.kIn n2
 have kk:s.heap.Ns Nc mN→s₂.heap.Ns Nc mN:=fun ⟨o,es,ep,a1,a2⟩=>by
  obtain ⟨o2,es2,ep2,b1,b2⟩:=hN2
  unfold dL at n1
  split at n1
  · rename_i c d es' ep' sl' ho
    have e1:=I.kIn _ _ ho
    have e2:=I2.kIn _ _ ho
    rw [a1] at e1; cases e1
    exact ⟨_,es,ep,e2,a2⟩
  · cases n1
 refine ⟨rfl,by rw [← rv.length]; exact hl,I2.kIn _ _ l1,kk hN,.own (I2.kIn _ _ l2) hD2 hnd2 .base,fun h' e hm'=>?_⟩
 exact qM I2 hm' hE
end
end L2
namespace L2
open PySem PySem.Spec PyProof.Rows
section
variable {P:Program} {w:World} {K:PySem.W.Frag} {mg:Str→Option Value} {base:Heap}
theorem Fun.ok1 {x qual:Str} {st:Stmt} {f:Addr} {fd:FuncData} {N ps:List Str} {k:Nat} {sp:Sp} (F:Fun K x qual st f fd) (S:ay N ps (aj st)) (len:∀ vs H Q E,sp vs H Q E→vs.length=ps.length)
  (hbody:∀ (cdv:Value) (A:Around) (outer:List Env) (s:Shared) (H:Hp) (vs:List V) (Q:VK) (E:XK),Room k (A.deeper (envOfC qual (aj st) s.heap.objs.size f cdv))→sp vs H Q E→
   ∃ t,PSs (cx1 P w K mg base N qual (aj st) f cdv A outer s H E) (aO st) t∧t { nx:=fun _ H'=>Q .non H',rt:=Q } (start N vs) H):FnOk P w K mg base (CX1 P w) (k+1) f fd ps sp:=by
 obtain ⟨oc,od,kV,doc,pm,an,cdv,ct,osl,rfl,lk,hcd⟩:=F.ex
 exact rg lk hcd S len fun A outer s H vs Q E hr hsp=>hbody cdv A outer s H vs Q E hr hsp
end
section
variable {X:Cx} {pins:List (Addr × Obj)} {σ:St} {H:Hp} {s s':Shared}
theorem p6 {H':Hp} {x T C:Addr} {a0:Value} {h5:Heap} (I:Inv X pins σ H s) (F:Fly X.prog X.w X.stack H s x T C H' s') (fl:Heap.FlyingW (PySem.W.hideAll s'.heap (frs X.stack++[x,T])) X.stack x (.ref C) a0 h5) (up:s'.heap.UpToSlots h5):
  Inv X pins σ (upd H' x (.ext (XO x C))) { s' with heap:=h5 }:=by
 obtain ⟨k1,_,_,oe,vs,T',oT,ts,he,hc,hd,_⟩:=fl
 have keepAll:∀ b o,s'.heap.get? b=some o→b∉frs X.stack→b∉[x,T]→h5.get? b=some o:=fun b o e hb hx=>k1 b o (PySem.W.hideAll_get _ e fun z=>(List.mem_append.mp z).elim hb hx)
 have frD:∀ b∈frs X.stack,∃ o,s.heap.get? b=some o∧∀ vs,o.data≠.fields vs:=fun b hb=>(I.stack.mem hb).2
 have hstk:=I.stkFree
 have nxT:∀ b o,s.heap.get? b=some o→b∉[x,T]:=fun b o e z=>by
  simp only [List.mem_cons,List.not_mem_nil,or_false] at z
  rcases z with rfl | rfl
  · rw [F.nx] at e; cases e
  · rw [F.nT] at e; cases e
 have slots:∀ b o,s.heap.get? b=some o→H b=none→b∈frs X.stack→∃ sl,h5.get? b=some { o with slots:=sl }:=fun b o e n hb=>by
  obtain ⟨sl,e1⟩:=F.un.slot b o e n hb (by simp)
  obtain ⟨o2,e2,d2⟩:=frD b hb
  rw [e] at e2; cases e2
  obtain ⟨sl2,e3⟩:=up b _ e1 d2
  exact ⟨sl2,e3⟩
 have frH:∀ b∈frs X.stack,H' b=none:=fun b hb=>by
  obtain ⟨o,e,d⟩:=frD b hb
  exact F.un.free b o e (hstk b hb) (by simp)
 have ne:∀ b o,H' b=some o→b≠x:=fun b o e z=>by rw [z,F.fx] at e; cases e
 have okx:ObjOk X.prog X.w (upd H' x (.ext (XO x C))) h5 x (.ext (XO x C)):=⟨⟨oe,vs,he,hc.1,hd⟩,⟨oe,he⟩,fun h1 h2 ⟨o,vs,q,r⟩ k=>⟨o,vs,k o q,r⟩⟩
 refine I.call' (ch:=[]) F.os ⟨fun b o e n hb _=>?_,fun b o e n hb _=>?_,fun b o e n _=>?_,fun b o e _=>?_,fun b xs e=>?_,fun b o u e=>?_,fun b ps e=>?_⟩ (fun a o e=>?_) F.bare fun b z=>absurd z (by simp)
 · exact keepAll b o (F.un.keep b o e n hb (by simp)) hb (nxT b o e)
 · exact slots b o e n hb
 · have n1:=F.un.free b o e n (by simp)
   rw [ak fun z=>nxT b o e (by rw [z]; simp)]
   exact n1
 · by_cases hb:b∈frs X.stack
   · obtain ⟨sl,e1⟩:=slots b o e (hstk b hb) hb
     exact ⟨_,e1⟩
   · obtain ⟨o',e1⟩:=F.un.there b o e (by simp)
     exact ⟨o',keepAll b o' e1 hb (nxT b o e)⟩
 · have q:=F.un.tups b xs e
   rw [ak (ne b _ q)]; exact q
 · have q:=F.un.frzs b o u e
   rw [ak (ne b _ q)]; exact q
 · obtain ⟨m,q⟩:=F.un.tbls b ps e
   exact ⟨m,by rw [ak (ne b _ q)]; exact q⟩
 · by_cases ha:a=x
   · subst ha
     rw [ag] at e; cases e
     exact okx
   · rw [ak ha] at e
     refine (F.hok a o e).stay (fun b u hb q=>?_) (fun b q=>?_) fun b xs q=>?_
     · have hb':H' b≠none:=by
        rcases hb with rfl | hb
        · rw [e]; simp
        · rw [hb]; simp
       refine keepAll b u q (fun z=>hb' (frH b z)) fun z=>?_
       simp only [List.mem_cons,List.not_mem_nil,or_false] at z
       rcases z with rfl | rfl
       · exact hb' F.fx
       · exact hb' F.fT
     · rw [ak (ne b _ q)]; exact q
     · rw [ak (ne b _ q)]; exact q
theorem iR {M:Model} {A:Around} {E:Value→Shared→Prop} {i:Nat} {x:Str} {pos:Pos} {Q:Unit→Shared→Prop} (I:Inv X pins σ H s) (hN:X.N.Nodup) (hi:X.N[i]? =some x) (hk:X.env.kindOf x=some .local)
  (h:∀ s',Inv X pins (σ.set i none) H s'→Q () s'):wpAny M A (do bindName X.env x .none; unbindBehindTheSuite X.env x pos) Q E s:=by
 obtain ⟨m,hn,hl⟩:=id I.loc
 have hcls:(X.env.scope.kind==.class||(X.env.scope.kind==.module&&X.env.locals != X.env.globals))=false:=by rw [I.ok.kind]; rfl
 have hiσ:i < σ.length:=by rw [I.len]; exact (List.getElem?_eq_some_iff.mp hi).1
 have cne:=I.cne
 refine wpAny_nameGoes_keeps hk hn hcls fun h' v hn' hs=>?_
 obtain ⟨oL,_,_,hoL,_⟩:=id hn
 have tracked:HOk X.prog X.w H h':=fun b ob e=>by
  refine (I.hok b ob e).stay (fun c w' hc q=>(hs.2 c ?_).trans q) (fun _ q=>q) fun _ _ q=>q
  rintro rfl
  rcases hc with rfl | hc
  · rw [I.free] at e; cases e
  · rw [I.free] at hc; cases hc
 refine h _ ⟨I.ok,I.os,I.bare,⟨fun b o e n hb hx=>?_,fun b o e n hb hx=>?_,I.base.free,fun b o e hx=>?_,I.base.tups,I.base.frzs,I.base.tbls⟩,⟨_,hn',fun j y v' e1 e2 e3=>?_⟩,fun y c e=>?_,I.free,I.freeC,fun p hp=>?_,tracked,by simpa using I.len⟩
 · exact (hs.2 b (Nat.ne_of_lt (Nat.lt_of_lt_of_le (Heap.lt_size e) I.ok.above))).trans (I.base.keep b o e n hb hx)
 · obtain ⟨sl,e1⟩:=I.base.slot b o e n hb hx
   exact ⟨sl,(hs.2 b (Nat.ne_of_lt (Nat.lt_of_lt_of_le (Heap.lt_size e) I.ok.above))).trans e1⟩
 · obtain ⟨o',e1⟩:=I.base.there b o e hx
   exact ⟨o',(hs.2 b (Nat.ne_of_lt (Nat.lt_of_lt_of_le (Heap.lt_size e) I.ok.above))).trans e1⟩
 · by_cases hj:j=i
   · subst hj
     rw [List.getElem?_set_self hiσ] at e2
     cases e2
   · rw [List.getElem?_set_ne (Ne.symm hj)] at e2
     obtain ⟨u',r',q⟩:=hl j y v' e1 e2 e3
     refine ⟨u',r',?_⟩
     rcases q with ⟨k,e⟩ | ⟨k,c,e,z⟩
     · refine .inl ⟨k,?_⟩
       have:y≠x:=fun e=>hj (ji hN e1 (e ▸ hi))
       simp [this,e]
     · exact .inr ⟨k,c,e,z.sameBut hs (cne y c e)⟩
 · obtain ⟨w',z⟩:=I.cell y c e
   exact ⟨w',z.sameBut hs (cne y c e)⟩
 · obtain ⟨e,n,ne,nf,d⟩:=I.pin p hp
   exact ⟨(hs.2 p.1 ne).trans e,n,ne,nf,d⟩
end
abbrev Cx.caught (X:Cx) (x:Addr):Cx:={ X with A:=X.A.mark (some (.ref x)),calm:=false,xe:=fun _ _=>False }
section
variable {X:Cx} {pins:List (Addr × Obj)} {σ:St} {H:Hp} {s:Shared} {x:Addr}
theorem Cx.Ok.caught (ok:X.Ok):(X.caught x).Ok:=
 ⟨ok.mod,ok.kind,ok.glob,ok.blt,ok.above,ok.inj,ok.has,ok.cab,(fun z=>nomatch z),ok.frames,ok.stk,ok.exf,ok.bs,ok.bsz,ok.noex,ok.exfs,ok.funs,ok.frf⟩
theorem Inv.caught (I:Inv X pins σ H s):Inv (X.caught x) pins σ H s:=⟨I.ok.caught,I.os,I.bare,I.base,I.loc,I.cell,I.free,I.freeC,I.pin,I.hok,I.len⟩
theorem Inv.uncaught (ok:X.Ok) (I:Inv (X.caught x) pins σ H s):Inv X pins σ H s:=⟨ok,I.os,I.bare,I.base,I.loc,I.cell,I.free,I.freeC,I.pin,I.hok,I.len⟩
end
def Came (X:Cx) (pins:List (Addr × Obj)) (σ:St) (E:XK) (e:Value) (s':Shared):Prop:=∃ H1 s1,Inv X pins σ H1 s1∧CX1 X.prog X.w X.stack H1 s1 E e s'
section
variable {X:Cx} {k:Nat} {f:Addr} {fd:FuncData} {ps:List Str} {sp:Sp} {x:Str} {p pos:Pos} {e:Expr} {es:List Expr} {t:TA}
theorem si {pins:List (Addr × Obj)} {s:Shared} {σ:St} {H:Hp} {Q:VK} (E:XK) (hnx:∀ e s,X.xe e s→False) (F:FnOk X.prog X.w X.K X.mg X.base (CX1 X.prog X.w) k f fd ps sp) (hr:Room k X.A) (hg:Gl X x) (hm:X.mg x=some (.ref f)) (hk:PySem.W.keepIn X.K (.ref f)=true) (hb:Binds X.K fd ps [])
  (ha:PA X (e::es) t) (I:Inv X pins σ H s) (h:t σ H fun vs H1=>sp vs H1 Q E) (hdb:(x==("__debug__":Str))=false:=by decide) (he:starEach (e::es) X.env=(false,eval e X.env)::starEach es X.env:=by rfl) (hpl:(backTo pos (starEach es X.env)).any (·.1)=false:=by rfl):
  wpAny (model X.prog X.w) X.A (eval (.Call (.Name x p) (e::es) [] pos) X.env) (EP X pins σ Q) (Came X pins σ E) s:=by
 refine wpAny_Call_Name_kw (fh I hg hm ?_ hdb)
 refine PySem.W.callWith_K (h₀:=X.base) I.ok.mod.kin hk (wpAny_mono (ha pos pins s σ H _ I h) (fun us s1 ⟨vs,H1,I1,r,q⟩=>⟨I1.kIn,?_⟩) fun e s z=>(hnx e s z).elim) he hpl
 have r2:Vals vs (us++[]):=by simpa using r
 have hl:(us++[]).length=ps.length:=by rw [← r2.length]; exact F.len _ _ _ _ q
 refine wpAny_call (codeAny_mono (F.run X.A X.stack s1 H1 ⟨us,[]⟩ (us++[]) vs Q E hr I1.env0 (hb s1 us I1.kIn hl) r2 q) fun r s' hq=>?_)
 cases r with
 | error e=>exact ⟨H1,s1,I1,hq⟩
 | ok fl=>
  cases fl with
  | ret u=>exact I1.after hq
  | next=>exact False.elim hq
  | brk=>exact False.elim hq
  | cont=>exact False.elim hq
def p7 (K:PySem.W.Frag) (cv:Value) (i:Nat) (E:XK) (th:TS):TS:=fun D σ _=>∀ C H2,E (.ref C) none H2→PySem.W.exmOne K (.ref C) cv=some true∧∀ x,H2 x=none→
 th { nx:=fun σ' H'=>D.nx (σ'.set i none) H',rt:=D.rt,bk:=fun σ' H'=>D.bk (σ'.set i none) H',ct:=fun σ' H'=>D.ct (σ'.set i none) H' } (σ.set i (some (.ref x))) (upd H2 x (.ext (XO x C)))
theorem sj {M:Model} {a C:Addr} {h:Heap} (z:XO a C h):PySem.W.Looks M h (typeOf (.ref a)) (.ref C):=by
 obtain ⟨o,vs,hx,hc,_⟩:=z
 intro A Q E s k q
 unfold typeOf
 refine wpAny_bind (wpAny_loadPart (k _ _ hx) ?_)
 rw [hc]
 exact wpAny_pure q
theorem qO {pins:List (Addr × Obj)} {s':Shared} {σ:St} {H:Hp} {D:Ends} {E:XK} {i:Nat} {n cn:Str} {cv e:Value} {np hpos:Pos} {b₀:Stmt} {suite:List Stmt} {th:TS} (hN:X.N.Nodup) (hi:X.N[i]? =some n) (hkn:X.env.kindOf n=some .local) (hg:Gl X cn) (hm:X.mg cn=some cv)
  (hst:X.stack=X.env::X.outer) (hf:X.env.frame=some X.env.locals) (hs:∀ x,PSs (X.caught x) (b₀::suite) th) (hc:Came X pins σ E e s') (h:p7 X.K cv i E th D σ H) (hdb:(cn==("__debug__":Str))=false:=by decide):
  wpAny (model X.prog X.w) X.A (noteFrame e X.env) (fun _ s₂=>wpAny (model X.prog X.w) X.A (setFlight e none) (fun _ s₃=>wpAny (model X.prog X.w) X.A (handleBy e X.env [.ExceptHandler (some (.Name cn np)) (some n) (b₀::suite) hpos]) (SP X pins D) X.xe s₃) X.xe s₂) X.xe s':=by
 obtain ⟨H1,s1,I,x,T,C,H',rfl,F,q⟩:=hc
 obtain ⟨hC,hth⟩:=h C H' q
 obtain ⟨oe,vs,oT,ts,a0,he,hcl,h0,hd,h1,hTx,hT,hdT,h3⟩:=F.tr
 have ff:s'.heap.FunFrames X.base X.stack:=iQ I.stack (fun b hb=>⟨hb,I.stkFree b hb⟩) F.un
 have fl:Heap.FlyingW (PySem.W.hideAll s'.heap (frs X.stack++[x,T])) X.stack x (.ref C) a0 s'.heap:=
  ⟨fun b o e=>PySem.W.of_hideAll _ e,PySem.W.hideAll_none _ (by simp),fC ff fun b hb=>List.mem_append_left _ hb,oe,vs,T,oT,ts,he,⟨hcl,h0⟩,hd,h1,PySem.W.hideAll_none _ (by simp),hTx,hT,hdT,h3⟩
 have fl':=fl
 rw [hst] at fl'
 have hfr:X.A.frames=some (X.env::X.outer):=by rw [I.ok.frames,hst]
 refine wpAny_looks_onW hfr hf fl' fun h4 held up4=>?_
 refine wpAny_landsW held fun h5 fl5 up5=>?_
 have I5:=p6 (a0:=a0) (h5:=h5) I F (by rw [hst]; exact fl5) (up4.trans up5)
 refine wpAny_handleBy_cons (codeAny_handlers_test (fh (X:=X.caught x) I5.caught hg hm ?_ hdb)) (by intro q; cases q)
 have hx5:XO x C h5:=(I5.hok x _ ag).1
 refine (PySem.W.exm_one (M:=model X.prog X.w) (h:=h5) I5.kIn (sj hx5) hC).here ?_
 refine codeAny_handlers_suite_as ?_
 refine lands_againW fl5 fun h6 fl6 up6=>?_
 have I6:=p6 (a0:=a0) (h5:=h6) I F (by rw [hst]; exact fl6) ((up4.trans up5).trans up6)
 refine gA (X:=X.caught x) (v:=.ref x) I6.caught hN hi (.inl hkn) rfl (fun s7 I7=>?_) (.inr hkn)
 refine wpAny_mono (hs x pins s7 _ _ _ I7 (hth x F.fx)) (fun fw s8 h8=>?_) fun _ _ z=>z.elim
 cases fw with
 | next=>obtain ⟨σ',H9,I9,q9⟩:=h8; exact iR (I9.uncaught I.ok) hN hi hkn fun s' I'=>⟨_,H9,I',q9⟩
 | brk=>obtain ⟨σ',H9,I9,q9⟩:=h8; exact iR (I9.uncaught I.ok) hN hi hkn fun s' I'=>⟨_,H9,I',q9⟩
 | cont=>obtain ⟨σ',H9,I9,q9⟩:=h8; exact iR (I9.uncaught I.ok) hN hi hkn fun s' I'=>⟨_,H9,I',q9⟩
 | ret u=>obtain ⟨v,σ',H9,I9,r9,q9⟩:=h8; exact iR (I9.uncaught I.ok) hN hi hkn fun s' I'=>⟨v,_,H9,I',r9,q9⟩
def tTryS (K:PySem.W.Frag) (sp:Sp) (t:TA) (j:Nat) (cv:Value) (i:Nat) (th:TS):TS:=fun D σ H=>∃ E:XK,(t σ H fun vs H1=>sp vs H1 (fun v H2=>D.nx (σ.set j (some v)) H2) E)∧p7 K cv i E th D σ H
theorem sk {i j:Nat} {m n cn:Str} {cv:Value} {mp np hpos epos tpos:Pos} {b₀:Stmt} {suite:List Stmt} {th:TS} (hnx:∀ e s,X.xe e s→False) (F:FnOk X.prog X.w X.K X.mg X.base (CX1 X.prog X.w) k f fd ps sp) (hr:Room k X.A) (hgf:Gl X x) (hmf:X.mg x=some (.ref f)) (hk:PySem.W.keepIn X.K (.ref f)=true) (hb:Binds X.K fd ps [])
  (ha:PA X (e::es) t) (hN:X.N.Nodup) (hj:X.N[j]? =some m) (hlm:X.env.kindOf m=some .local) (hi:X.N[i]? =some n) (hkn:X.env.kindOf n=some .local) (hg:Gl X cn) (hm:X.mg cn=some cv)
  (hst:X.stack=X.env::X.outer) (hf:X.env.frame=some X.env.locals) (hs:∀ x,PSs (X.caught x) (b₀::suite) th) (hdb:(x==("__debug__":Str))=false:=by decide) (hdc:(cn==("__debug__":Str))=false:=by decide)
  (he:starEach (e::es) X.env=(false,eval e X.env)::starEach es X.env:=by rfl) (hpl:(backTo pos (starEach es X.env)).any (·.1)=false:=by rfl) (hsw:swapsWith (.Call (.Name x p) (e::es) [] pos) (some (.Name m mp)) epos.line X.env=pure false:=by rfl):
  PS X (.Try [.Assign [.Name m mp] (.Call (.Name x p) (e::es) [] pos) epos] [.ExceptHandler (some (.Name cn np)) (some n) (b₀::suite) hpos] [] [] tpos) (tTryS X.K sp t j cv i th):=by
 intro pins s σ H D I h
 obtain ⟨E,h1,h2⟩:=h
 refine wpAny_Try_except (wpAny_execs_cons (wpAny_Assign_Name (wpAny_mono (si E hnx F hr hgf hmf hk hb ha I h1 hdb he hpl) (fun v s1 ⟨y,H1,I1,r1,q1⟩=>?_) fun e s' hc=>?_) hsw))
 · exact gA I1 hN hj (.inl hlm) r1 (fun s2 I2=>wpAny_execs_nil (wpAny_execs_nil ⟨_,H1,I2,q1⟩)) (.inr hlm)
 · exact qO hN hi hkn hg hm hst hf hs hc h2 hdc
end
end L2
namespace L2
open PySem PySem.Spec PyProof.Rows
def gv (es:Array DictEntry):Bool:=es.toList.all jo&&(nsFind es "__init__").isNone
theorem lp {K:PySem.W.Frag} {N:Addr} {c:Value} {d:Option Addr} {es:Array DictEntry} {n:Nat} {sl:Array (Option Value)} (l:K.lookup N=some ⟨c,d,.dict es n,sl⟩) (h:gv es=true):dL K N=true:=by
 unfold dL
 rw [l]
 exact h
structure EA where
 ClueError:Addr
 NoFloor:Addr
 NoFilling:Addr
 NoRule:Addr
 NoPuzzle:Addr
 TooMany:Addr
 NotOne:Addr
 NoMove:Addr
 NoText:Addr
 NoName:Addr
 NoRow:Addr
 BadThought:Addr
structure ErrM (mg:Str→Option Value) (a:EA):Prop where
 ClueError:mg "ClueError"=some (.ref a.ClueError)
 NoFloor:mg "NoFloor"=some (.ref a.NoFloor)
 NoFilling:mg "NoFilling"=some (.ref a.NoFilling)
 NoRule:mg "NoRule"=some (.ref a.NoRule)
 NoPuzzle:mg "NoPuzzle"=some (.ref a.NoPuzzle)
 TooMany:mg "TooMany"=some (.ref a.TooMany)
 NotOne:mg "NotOne"=some (.ref a.NotOne)
 NoMove:mg "NoMove"=some (.ref a.NoMove)
 NoText:mg "NoText"=some (.ref a.NoText)
 NoName:mg "NoName"=some (.ref a.NoName)
 NoRow:mg "NoRow"=some (.ref a.NoRow)
 BadThought:mg "BadThought"=some (.ref a.BadThought)
abbrev Glb (K:PySem.W.Frag) (x:Str) (C:Addr):Prop:=PySem.W.nsIn K mainGlobals x=some (some (.ref C))
theorem Glb.eq {K:PySem.W.Frag} {x:Str} {C D:Addr} (h:Glb K x C) (h':Glb K x D):C=D:=by
 have:=h.symm.trans h'
 cases this
 rfl
structure ei (K:PySem.W.Frag) (a:EA) (x:Str) (C:Addr) (os:List Addr):Prop where
 g:Glb K x C
 xc:XC K C a.ClueError
 xis:XIs K C
 ve:PySem.W.kitOne K (.ref C) (.type "ValueError")=some true
 ex:PySem.W.exmOne K (.ref C) (.ref a.ClueError)=some true
 no:∀ y∈os,PySem.W.kitOne K (.ref C) (.ref y)=some false
theorem qP {K:PySem.W.Frag} {C:Addr}:PySem.W.kitOne K (.ref C) (.ref C)=some true:=by
 unfold PySem.W.kitOne
 rw [if_pos (by simp)]
theorem uJ {K:PySem.W.Frag} {x C y:Addr} {b:Bool} {H:Hp} {Q:VK} (Z:XIs K C) (hx:H x=some (.ext (XO x C))) (hk:PySem.W.kitOne K (.ref C) (.ref y)=some b) (h:Q (.bl b) H):kIsX K [.ref x,.ref y] H Q:=⟨x,C,_,_,b,rfl,hx,Z,rfl,hk,h⟩
theorem tZ {K:PySem.W.Frag} {x C:Addr} {n:String} {b:Bool} {H:Hp} {Q:VK} (Z:XIs K C) (hx:H x=some (.ext (XO x C))) (hk:PySem.W.kitOne K (.ref C) (.type n)=some b) (h:Q (.bl b) H):kIsX K [.ref x,.ty n] H Q:=⟨x,C,_,_,b,rfl,hx,Z,rfl,hk,h⟩
theorem uK {K:PySem.W.Frag} {C D:Addr} {nm q:Str} {N ND:Addr} {bs:List Value} {hdct:Bool} {sn:List Str} {sub:List Value} {ab:Bool} {col:Option Bool} {dd:Option Addr} {k0 k1 k2 k3 k5:Option Value} {c0:Value} {dD:Option Addr} {cd:ClassData} {sl:Array (Option Value)}
  {cN cE:Value} {dN dE:Option Addr} {es es':Array DictEntry} {n n':Nat} {sN sE:Array (Option Value)}
  (l1:K.lookup C=some (excClassObj nm q C N bs (.ref D::VE) hdct sn sub ab col dd k0 k1 k2 k3 k5 "ValueError.__new__")) (m1:K.lookup N=some ⟨cN,dN,.dict es n,sN⟩) (n1:gv es=true)
  (l2:K.lookup D=some ⟨c0,dD,.cls cd,sl⟩) (e2:cd.ns=ND) (m2:K.lookup ND=some ⟨cE,dE,.dict es' n',sE⟩) (n2:gv es'=true):XC K C D:=.mk' l1 (lp m1 n1) l2 (lp (by rw [e2]; exact m2) n2)
theorem lI:bootBuiltins "ValueError"=some (.type "ValueError"):=by decide+kernel
structure ce (P:Program) (w:World) (K:PySem.W.Frag) (mg:Str→Option Value) (base:Heap) (k:Nat) (x:Str) (ps:List Str) (sp:Sp):Prop where
 ex:∃ (f:Addr) (fd:FuncData),FnOk P w K mg base (CX1 P w) k f fd ps sp∧mg x=some (.ref f)∧PySem.W.keepIn K (.ref f)=true∧Binds K fd ps []
theorem ej {X:Cx} {k n:Nat} {x:Str} {ps:List Str} {sp:Sp} {p pos:Pos} {e:Expr} {es:List Expr} {t:TA} {E:XK} (hE:eH (CX1 X.prog X.w) X E) (C:ce X.prog X.w X.K X.mg X.base k x ps sp) (hr:Room n X.A) (hk:k≤n) (hg:Gl X x) (ha:PA X (e::es) t)
  (hdb:(x==("__debug__":Str))=false:=by decide) (he:starEach (e::es) X.env=(false,eval e X.env)::starEach es X.env:=by rfl) (hpl:(backTo pos (starEach es X.env)).any (·.1)=false:=by rfl):
  PE X (.Call (.Name x p) (e::es) [] pos) (tCall sp [] E t):=by
 obtain ⟨f,fd,F,hm,hkp,hb⟩:=C.ex
 exact nU F (hr.mono hk) hg hm hkp hb .nil hE ha hdb he hpl
section
variable {X:Cx} {k nn:Nat} {ps:List Str} {sp:Sp} {x:Str} {p pos:Pos} {e:Expr} {es:List Expr} {t:TA}
theorem sm {i j:Nat} {m n cn:Str} {cv:Value} {mp np hpos epos tpos:Pos} {b₀:Stmt} {suite:List Stmt} {th:TS} (hnx:∀ e s,X.xe e s→False) (C:ce X.prog X.w X.K X.mg X.base k x ps sp) (hr:Room nn X.A) (hk:k≤nn) (hgf:Gl X x)
  (ha:PA X (e::es) t) (hN:X.N.Nodup) (hj:X.N[j]? =some m) (hlm:X.env.kindOf m=some .local) (hi:X.N[i]? =some n) (hkn:X.env.kindOf n=some .local) (hg:Gl X cn) (hm:X.mg cn=some cv)
  (hst:X.stack=X.env::X.outer) (hf:X.env.frame=some X.env.locals) (hs:∀ x,PSs (X.caught x) (b₀::suite) th) (hdb:(x==("__debug__":Str))=false:=by decide) (hdc:(cn==("__debug__":Str))=false:=by decide)
  (he:starEach (e::es) X.env=(false,eval e X.env)::starEach es X.env:=by rfl) (hpl:(backTo pos (starEach es X.env)).any (·.1)=false:=by rfl) (hsw:swapsWith (.Call (.Name x p) (e::es) [] pos) (some (.Name m mp)) epos.line X.env=pure false:=by rfl):
  PS X (.Try [.Assign [.Name m mp] (.Call (.Name x p) (e::es) [] pos) epos] [.ExceptHandler (some (.Name cn np)) (some n) (b₀::suite) hpos] [] [] tpos) (tTryS X.K sp t j cv i th):=by
 obtain ⟨f,fd,F,hm',hkp,hb⟩:=C.ex
 exact sk hnx F (hr.mono hk) hgf hm' hkp hb ha hN hj hlm hi hkn hg hm hst hf hs hdb hdc he hpl hsw
end
end L2
namespace L2
open PySem PySem.Spec PyProof.Rows
def cMulB:R2
 | .int i,.int j,H,Q=>IntMulOk i j∧Q (.int (i*j)) H
 | _,_,_,_=>False
end L2
namespace Att
open PySem PySem.W PySem.Calls PyProof.Rows
end Att
namespace L2
open PySem PySem.Spec PyProof.Rows
section
variable {K:PySem.W.Frag} {H:Hp} {Q:VK} {D:Ends} {σ:St}
theorem uX {i j:Int}:cMulB (.int i) (.int j) H Q=(IntMulOk i j∧Q (.int (i*j)) H):=rfl
theorem rm {i j:Int}:cPow (.int i) (.int j) H Q=(CPow i j∧Q (.int (i^j.toNat)) H):=rfl
theorem cx {E:XK} {C:Addr} {t:TA}:dM E C t D σ H=t σ H fun vs H1=>vs.length≤sizeLine∧E (.ref C) none H1:=rfl
theorem t3 {p q:Addr} {xs ys:List V} (hp:H p=some (.lst xs)) (hq:H q=some (.lst ys)) (hn:xs.length+ys.length≤1000) (h:∀ r,H r=none→Q (.ref r) (upd H r (.lst (xs++ys)))):cAdd (.ref p) (.ref q) H Q:=by
 show bnd (unM (H p)) _
 rw [hp]
 refine bu (a:=xs) rfl ?_
 rw [hq]
 exact bu (a:=ys) rfl ⟨Nat.le_of_lt (be hn),h⟩
end
end L2
namespace L2
open PySem PySem.Spec PyProof.Rows
inductive RK where
 | Rule | Unlike | Sum | Rising | Seen | Count | Joined | NoSquare | Ring
 deriving DecidableEq
structure RCl (ι:Type) where
 A:ι→Addr
 ok:ι→Bool
section
variable {ι:Type}
def tFldK (c:RCl ι) (ta:TE) (f:Str):TE:=fun σ H Q=>ta σ H fun x H1=>∃ a k dx fs v,x=.ref a∧c.ok k=true∧H1 a=some (.ins (c.A k) dx fs)∧fs.lookup f=some v∧Q v H1
def sFldK (c:RCl ι) (ta tv:TE) (f:Str):TS:=fun D σ H=>tv σ H fun y H1=>ta σ H1 fun x H2=>∃ a k dx fs,x=.ref a∧c.ok k=true∧H2 a=some (.ins (c.A k) dx fs)∧fs.length < 1000∧
 D.nx σ (upd H2 a (.ins (c.A k) dx (putF f y fs)))
def dO (c:RCl ι) (okm:ι→Bool) (m:Str) (sp:ι→Sp) (ta:TE) (t:TA):TE:=fun σ H Q=>ta σ H fun x H1=>∃ a k dx fs,x=.ref a∧okm k=true∧H1 a=some (.ins (c.A k) dx fs)∧fs.lookup m=none∧
 t σ H1 fun vs H2=>sp k (x::vs) H2 Q E0
structure FldK (K:PySem.W.Frag) (c:RCl ι) (f:Str):Prop where
 ex:∀ k,c.ok k=true→Cls K (c.A k)∧NoAttr K (c.A k) f
structure MCal (P:Program) (w:World) (K:PySem.W.Frag) (mg:Str→Option Value) (base:Heap) (c:RCl ι) (okm:ι→Bool) (k:Nat) (m:Str) (ps:List Str) (sp:ι→Sp):Prop where
 ex:∀ i,okm i=true→∃ (f:Addr) (fd:FuncData),Cls K (c.A i)∧Meth K (c.A i) m f∧FnOk P w K mg base CX0 k f fd ps (sp i)∧Binds K fd ps []
structure KCal (P:Program) (w:World) (K:PySem.W.Frag) (mg:Str→Option Value) (base:Heap) (k:Nat) (x:Str) (C:Addr) (ps:List Str) (sp:Sp):Prop where
 ex:∃ (f:Addr) (fd:FuncData),Mk K C f∧FnOk P w K mg base CX0 k f fd ps sp∧mg x=some (.ref C)∧Binds K fd ps []
end
section
variable {ι:Type} {X:Cx} {c:RCl ι} {o e value:Expr} {es:List Expr} {f x m:Str} {p pos pos' apos:Pos} {ta tv:TE} {t:TA} {okm:ι→Bool} {k n:Nat} {ps:List Str} {sp:ι→Sp} {sp1:Sp} {C:Addr}
theorem gw (he:PE X e ta) (F:FldK X.K c f) (hb:attributeBase e f X.env (eval e X.env)=eval e X.env:=by rfl):PE X (.Attribute e f pos) (tFldK c ta f):=by
 intro pins s σ H Q I h
 refine rP hb (thn (he pins s σ H _ I h) fun u s1 ⟨x,H1,I1,rx,a,k,dx,fs,v,ex,hk,ea,l,q⟩=>?_)
 subst ex
 obtain rfl:u=Value.ref a:=rx
 obtain ⟨cl,na⟩:=F.ex k hk
 exact oK I1 ea cl na l fun u' s2 I2 ru=>⟨v,H1,I2,ru,q⟩
theorem gy (ha:PE X o ta) (hv:PE X value tv) (F:FldK X.K c f) (hs:swapsWith value (some (.Attribute o f pos')) pos.line X.env=pure false:=by rfl):PS X (.Assign [.Attribute o f pos'] value pos) (sFldK c ta tv f):=by
 intro pins s σ H D I h
 refine plainObj_wpAny_Assign_Attribute (thn (hv pins s σ H _ I h) fun u s1 ⟨y,H1,I1,ry,q⟩=>thn (ha pins s1 σ H1 _ I1 q) fun ov s2 ⟨x,H2,I2,rx,a,k,dx,fs,ex,hk,ea,l,q2⟩=>?_) hs
 subst ex
 obtain rfl:ov=Value.ref a:=rx
 obtain ⟨cl,na⟩:=F.ex k hk
 exact oN I2 ea cl na l ry fun s3 I3=>⟨σ,_,I3,q2⟩
theorem cp {pl:Sem Bool} (M:MCal X.prog X.w X.K X.mg X.base c okm k m ps sp) (hr:Room n X.A) (hk:k≤n) (he:PE X o ta)
  (ht:eval (.Call (.Attribute o m apos) [] [] pos) X.env=(do
   let ov ← eval o X.env
   standAt apos.atName
   let (f,first) ← holding [ov] (getMethod ov m pl)
   callWith pos f first (backTo pos (starEach [] X.env)) (backToKw pos (keywordEach [] X.env))):=by rfl):
  PE X (.Call (.Attribute o m apos) [] [] pos) (dO c okm m sp ta tNil):=by
 intro pins s σ H Q I h
 refine PySem.W.methodCall_KW (pl:=pl) (thn (he pins s σ H _ I h) fun u s1 ⟨x,H1,I1,rx,a,i,dx,fs,ex,hi,ea,l,q⟩=>?_) ht
 subst ex
 obtain rfl:u=Value.ref a:=rx
 obtain ⟨f,fd,cl,hm,F,hb⟩:=M.ex i hi
 refine oM I1 ea cl hm l ?_
 exact PySem.W.callWith_K0 (first:=[.ref a]) I1.kIn hm.kp (pC (us:=[.ref a]) (vs:=[.ref a]) F (hr.mono hk) hb .nil oR I1 (.cons rfl .nil) q)
theorem fU (M:KCal X.prog X.w X.K X.mg X.base k x C ps sp1) (hr:Room n X.A) (hk:k+1≤n) (hg:Gl X x) (ha:PA X (e::es) t)
  (hdb:(x==("__debug__":Str))=false:=by decide) (he:starEach (e::es) X.env=(false,eval e X.env)::starEach es X.env:=by rfl) (hpl:(backTo pos (starEach es X.env)).any (·.1)=false:=by rfl):
  PE X (.Call (.Name x p) (e::es) [] pos) (tMake C sp1 [] E0 t):=by
 obtain ⟨f,fd,mk,F,hm,hb⟩:=M.ex
 exact rQ mk F (hr.mono hk) hg hm hb .nil oR ha hdb he hpl
end
def fD (K:PySem.W.Frag):List V→Hp→VK→Prop
 | [.ref p],H,Q=>bnd (unM (H p)) fun ys=>∀ l,H l=none→Q (.ref l) (upd H l (.tup ys))
 | _,_,_=>False
def tInG (ws:List Str) (neg:Bool) (te:TE):TE:=fun σ H Q=>te σ H fun x H1=>∃ z,x=.str z∧Q (.bl (if neg then !decide (z∈ws) else decide (z∈ws))) H1
structure GTup (K:PySem.W.Frag) (mg:Str→Option Value) (x:Str) (ws:List Str):Prop where
 ex:∃ (p:Addr) (o:Obj) (its:Array Value) (n:Nat),mg x=some (.ref p)∧K.lookup p=some o∧o.cls=.type "tuple"∧o.data=.seq its n∧its.size≤sizeLine∧Vals (ws.map V.str) its.toList
theorem fV:∀ ns:List Str,(ns.map V.str).all flatV=true
 | []=>rfl
 | n::r=>by rw [List.map_cons,List.all_cons,fV r]; rfl
theorem gF (i:Str):∀ ns:List Str,inV (.str i) (ns.map V.str)=decide (i∈ns)
 | []=>by simp [inV]
 | n::r=>by
  have ih:=gF i r
  unfold inV at ih ⊢
  rw [List.map_cons,List.any_cons,ih]
  show ((n==i)||decide (i∈r))=decide (i∈n::r)
  rw [Bool.eq_iff_iff,Bool.or_eq_true,beq_iff_eq,decide_eq_true_eq,decide_eq_true_eq,List.mem_cons]
  exact ⟨fun h=>h.elim (fun e=>.inl e.symm) .inr,fun h=>h.elim (fun e=>.inl e.symm) .inr⟩
section
variable {X:Cx} {a:Expr} {ta:TE} {pos p:Pos} {x:Str} {ws:List Str}
theorem jf:CallR X (.type "tuple") (fD X.K):=by
 intro pins s σ H xs us Q I r h
 unfold fD at h
 split at h
 · obtain ⟨ys,e,q⟩:=aR h
   exact lE pins s σ H _ us Q I r ⟨_,ys,rfl,.inl ⟨SqL.of (fq e),q⟩⟩
 · exact h.elim
theorem t4 {ws:List Str} {q:Addr} (hq:∃ (o:Obj) (its:Array Value) (n:Nat),X.K.lookup q=some o∧o.cls=.type "tuple"∧o.data=.seq its n∧its.size≤sizeLine∧Vals (ws.map V.str) its.toList):
  OpR X (compareOp .In) (fun x y H Q=>∃ z,x=.str z∧y=.ref q∧Q (.bl (decide (z∈ws))) H):=by
 intro pins s σ H x y v u Q I rx ry h
 obtain ⟨z,rfl,rfl,h⟩:=h
 refine k8 pins s σ H _ _ v u Q I rx ry ⟨q,ws.map V.str,rfl,.inr (.inr hq),rfl,fV ws,?_⟩
 rw [gF]
 exact h
theorem so {ws:List Str} {q:Addr} (hq:∃ (o:Obj) (its:Array Value) (n:Nat),X.K.lookup q=some o∧o.cls=.type "tuple"∧o.data=.seq its n∧its.size≤sizeLine∧Vals (ws.map V.str) its.toList):
  OpR X (compareOp .NotIn) (fun x y H Q=>∃ z,x=.str z∧y=.ref q∧Q (.bl (!decide (z∈ws))) H):=by
 intro pins s σ H x y v u Q I rx ry h
 obtain ⟨z,rfl,rfl,h⟩:=h
 refine gZ pins s σ H _ _ v u Q I rx ry ⟨q,ws.map V.str,rfl,.inr (.inr hq),rfl,fV ws,?_⟩
 rw [gF]
 exact h
end
section
variable {ι:Type} {c:RCl ι} {ta tv:TE} {t:TA} {f m:Str} {σ:St} {H:Hp} {Q:VK} {D:Ends} {okm:ι→Bool} {sp:ι→Sp} {sp1:Sp} {C:Addr} {K:PySem.W.Frag}
theorem t5:tMake C sp1 [] E0 t σ H Q=t σ H fun vs H1=>∀ x dx,H1 x=none→H1 dx=none→dx≠x→sp1 (.ref x::(vs++[])) (upd (upd H1 dx (.own x)) x (.ins C dx [])) (fun v H2=>v=.non∧Q (.ref x) H2) E0:=rfl
theorem rn {ws:List Str} {neg:Bool} {te:TE}:tInG ws neg te σ H Q=te σ H fun x H1=>∃ z,x=.str z∧Q (.bl (if neg then !decide (z∈ws) else decide (z∈ws))) H1:=rfl
theorem sq {p:Addr} {xs:List V} (hp:H p=some (.lst xs)) (h:∀ l,H l=none→Q (.ref l) (upd H l (.tup xs))):fD K [.ref p] H Q:=by
 unfold fD
 dsimp only
 rw [hp]
 exact h
end
end L2
namespace L2
open PySem PySem.Spec PyProof.Rows
def cntD (ns:List Int):Nat:=(firstMet (fun i=>ns.getD i 0) ns.length).length
def iS (te:TE):TE:=fun σ H Q=>te σ H fun x H1=>∃ p ns,x=.ref p∧H1 p=some (.lst (ns.map V.int))∧ns.length≤900∧Q (.int (cntD ns:Nat)) H1
theorem m4 {te:TE} {σ:St} {H:Hp} {Q:VK}:iS te σ H Q=te σ H fun x H1=>∃ p ns,x=.ref p∧H1 p=some (.lst (ns.map V.int))∧ns.length≤900∧Q (.int (cntD ns:Nat)) H1:=rfl
theorem sr:bootBuiltins "set"=some (.type "set"):=by decide+kernel
theorem lq {X:Cx} {e:Expr} {te:TE} {p p2 pos pos2:Pos} (hc:X.calm=true) (hgl:Gl X "len") (hgs:Gl X "set") (hl:X.mg "len"=none) (hs:X.mg "set"=none) (he:PE X e te)
  (hs1:starEach [.Call (.Name "set" p2) [e] [] pos2] X.env=[(false,eval (.Call (.Name "set" p2) [e] [] pos2) X.env)]:=by rfl) (hs2:starEach [e] X.env=[(false,eval e X.env)]:=by rfl):
  PE X (.Call (.Name "len" p) [.Call (.Name "set" p2) [e] [] pos2] [] pos) (iS te):=by
 intro pins s σ H Q I h
 refine wpAny_Call_Name_kw (dF I hgl hl aS ?_ (by decide) (by decide))
 refine PyProof.Rows.callWith_builtin1 ?_ hs1 rfl
 rw [hs1]
 show wpAny _ _ (spliced [(false,eval (.Call (.Name "set" p2) [e] [] pos2) X.env)]) _ _ s
 refine Calls.spliced_cons ?_
 refine wpAny_Call_Name_kw (dF I hgs hs sr ?_ (by decide) (by decide))
 refine PyProof.Rows.callWith_type1 ?_ hs2 rfl
 rw [hs2]
 show wpAny _ _ (spliced [(false,eval e X.env)]) _ _ s
 refine Calls.spliced_cons (thn (he pins s σ H _ I h) fun u s1 ⟨x,H1,I1,r1,q1⟩=>?_)
 refine Calls.spliced_nil ?_
 obtain ⟨l,ns,rfl,hys,hn,q⟩:=q1
 cases r1
 obtain ⟨its,n,rv,ho,hz⟩:=I1.lst hys
 have hL:s1.heap.IsList l its.toArray:=⟨_,ho,rfl,n,rfl⟩
 have hI:IntsAre its ns:=oQ rv
 have hlen:=rv.length
 rw [List.length_map] at hlen
 refine call_set_list (ns:=ns) (I.ok.hd hc) hL (by simpa using hI) (by rw [List.size_toArray,← hlen]; exact Nat.lt_of_le_of_lt (Nat.succ_le_succ hn) (by decide)) fun h' tk hS old=>?_
 refine Calls.spliced_nil ?_
 obtain ⟨o,es,ep,t,h1,h2,h3,h4,h5,h6,h7,h8⟩:=hS
 have hb:(firstMet (fun i=>ns.getD i 0) its.toArray.size).length≤900:=Nat.le_trans (firstMet_length_le _ _) (by rw [List.size_toArray,← hlen]; exact hn)
 refine call_len_set h1 h2 h3 h7 (by omega) ?_
 have I2:Inv X pins σ H1 { s1 with heap:=h',toks:=tk }:=I1.kept fun b o' e=>old b o' (Heap.lt_size e) e
 refine ⟨.int _,H1,I2.tok _,⟨_,rfl⟩,?_⟩
 rw [h8,List.size_toArray,← hlen]
 exact q
def eO:V→List V→Hp→VK→Prop
 | .str sep,[.ref p],H,Q=>bnd (unS (H p)) fun ys=>∃ ts:List Str,ys=ts.map V.str∧JoinOk sep ts=true∧Q (.str (Txt.join sep ts)) H
 | _,_,_,_=>False
theorem lu {X:Cx}:MtR X "str.join" eO:=by
 intro pins s σ H x vs v us Q I rx rv h
 unfold eO at h
 split at h
 · rename_i sep p
   obtain ⟨ys,e,ts,rfl,hok,q⟩:=aR h
   rcases gl (K:=X.K) e with hq | hq
   · obtain ⟨t,rfl⟩:=rx
     obtain ⟨u,rfl,ru⟩:=cg rv
     cases ru
     obtain ⟨its,rvv,pl,hz⟩:=I.list hq
     obtain ⟨l,rfl,hl⟩:=kq rvv
     exact SC.join pl.isList hl hok fun t' k=>⟨.str _,H,I.tok k,⟨t',rfl⟩,q⟩
   · obtain ⟨t,rfl⟩:=rx
     obtain ⟨u,rfl,ru⟩:=cg rv
     cases ru
     obtain ⟨its,rvv,pl,hz⟩:=I.tuple hq
     obtain ⟨l,rfl,hl⟩:=kq rvv
     subst hl
     obtain ⟨o,h1,h2,n,h3⟩:=pl
     have hok':=hok
     unfold JoinOk at hok'
     rw [Bool.not_eq_true'] at hok'
     exact call_meets F.slot_str_join (typeIs_str _ _ _) F.entry_str_join (F.args_str_join_2 _ _) (meets_str_join_tuple sep t p l hok') ⟨⟨o,n,h1,h2,h3⟩,post_join l ⟨joinFit_length hok',fun t' k=>⟨.str _,H,I.tok k,⟨t',rfl⟩,q⟩⟩⟩
 · exact h.elim
end L2
namespace L2
open PySem PySem.Spec PyProof.Rows
section
variable {X:Cx} {e:Expr} {te:TE} {p2 p3 p4 pos:Pos} {z0:Nat}
def iw:V→List V→Hp→VK→Prop
 | .ref l,[.int i],H,Q=>bnd (unM (H l)) fun xs=>0≤i∧i < xs.length∧bnd (xs[i.toNat]?) fun y=>Q y (upd H l (.lst (xs.eraseIdx i.toNat)))
 | _,_,_,_=>False
theorem seqIx {i:Int} {n:Nat} (h0:0≤i) (h1:i < n):seqIndex? i n=some i.toNat:=by
 obtain ⟨k,rfl⟩:=Int.eq_ofNat_of_zero_le h0
 have hk:k < n:=by omega
 unfold seqIndex?
 have hn:¬ ((k:Int) < 0):=by omega
 simp [hk,hn]
theorem lw:MtR X "list.pop" iw:=by
 intro pins s σ H x vs v us Q I rx rv h
 unfold iw at h
 split at h
 · obtain ⟨xs,e,h0,h1,h⟩:=aR h
   obtain ⟨y,ey,q⟩:=aR h
   have hz:xs.length≤sizeLine:=(I.lstM (fq e)).1
   have hs:(sizeLine:Int) < 2^63:=by decide
   exact qD pins s σ H _ _ v us Q I rx rv ⟨_,xs,_,_,y,rfl,rfl,fq e,by omega,by omega,seqIx h0 h1,ey,q⟩
 · exact h.elim
def tRevL (te:TE):TE:=fun σ H Q=>te σ H fun x H1=>∃ p xs,x=.ref p∧H1 p=some (.lst xs)∧∀ l,H1 l=none→Q (.ref l) (upd H1 l (.lst xs.reverse))
end
section
variable {σ:St} {H:Hp} {Q:VK} {te:TE}
theorem ro {i j:Int} {H:Hp} {Q:VK}:kMax [.int i,.int j] H Q=Q (.int (if j > i then j else i)) H:=rfl
theorem p8:tRevL te σ H Q=te σ H fun x H1=>∃ p xs,x=.ref p∧H1 p=some (.lst xs)∧∀ l,H1 l=none→Q (.ref l) (upd H1 l (.lst xs.reverse)):=rfl
theorem om {l:Addr} {i:Int} {xs:List V} {y:V} (hl:H l=some (.lst xs)) (h0:0≤i) (h1:i < xs.length) (ey:xs[i.toNat]? =some y) (q:Q y (upd H l (.lst (xs.eraseIdx i.toNat)))):iw (.ref l) [.int i] H Q:=by
 show bnd (unM (H l)) _
 rw [hl]
 exact bu (a:=xs) rfl ⟨h0,h1,bu ey q⟩
end
end L2
namespace L2
open PySem PySem.Spec PyProof.Rows
theorem j4:typeLookup (.type "str") (Str.ofString "__int__")=pure none:=by rw [typeLookup_type,builtinLookup_eq_fast]; kernel_rfl
theorem iy:typeLookup (.type "str") (Str.ofString "__index__")=pure none:=by rw [typeLookup_type,builtinLookup_eq_fast]; kernel_rfl
theorem iz:typeLookup (.type "str") (Str.ofString "__trunc__")=pure none:=by rw [typeLookup_type,builtinLookup_eq_fast]; kernel_rfl
def numC (n:Nat):List Nat:=if n < 10 then [48+n] else [48+n / 10,48+n % 10]
theorem p9 {n:Nat} (h:n < 100):((tx (numC n)).cps.all fun x=>decide (x < 128))=true:=by
 have t:((List.range 100).all fun n=>(tx (numC n)).cps.all fun x=>decide (x < 128))=true:=by decide+kernel
 exact List.all_eq_true.mp t n (List.mem_range.mpr h)
theorem lx {α:Type} {M:Model} {A:Around} {E:Value→Shared→Prop} {s:Shared} {Q:α→Shared→Prop} {m m':Sem α} (e:m=m') (h:wpAny M A m' Q E s):wpAny M A m Q E s:=e ▸ h
set_option maxHeartbeats 4000000 in
theorem gis (n:Nat) (hn:n < 100) (u:Tok):Gives (Builtin.«int.__new__» ⟨[.type "int",.str (tx (numC n)) u],[]⟩) (.int n):=
 .of_wp fun M A E s Q h=>by
  obtain ⟨hp,g,d,tk,os⟩:=s
  have f1:=PySem.F.conv_sub_int
  have f2:=PySem.F.madeHere_int
  have f3:=j4
  have f4:=iy
  have f5:=iz
  iterate 44 (any_goals (first | assumption | wp_step))
  refine wpAny_bind (wpAny_of_eq (a:=some (tx (numC n))) rfl ?_)
  refine wpAny_of_eq (a:=some (numC n)) ?e1 ?_
  case e1=>
   show (pure (some (if ((tx (numC n)).cps.all fun x=>decide (x < 128))=true then (tx (numC n)).cps.toList else _)):Sem _)=_
   rw [if_pos (p9 hn),dJ]
  refine lx (m':=mkInt (n:Int)) ?e2 ?_
  case e2=>
   clear h f1 f2 f3 f4 f5
   match n,hn with | 0,_=>kernel_rfl | 1,_=>kernel_rfl | 2,_=>kernel_rfl | 3,_=>kernel_rfl | 4,_=>kernel_rfl | 5,_=>kernel_rfl | 6,_=>kernel_rfl | 7,_=>kernel_rfl | 8,_=>kernel_rfl | 9,_=>kernel_rfl | 10,_=>kernel_rfl | 11,_=>kernel_rfl | 12,_=>kernel_rfl | 13,_=>kernel_rfl | 14,_=>kernel_rfl | 15,_=>kernel_rfl | 16,_=>kernel_rfl | 17,_=>kernel_rfl | 18,_=>kernel_rfl | 19,_=>kernel_rfl | 20,_=>kernel_rfl | 21,_=>kernel_rfl | 22,_=>kernel_rfl | 23,_=>kernel_rfl | 24,_=>kernel_rfl | 25,_=>kernel_rfl | 26,_=>kernel_rfl | 27,_=>kernel_rfl | 28,_=>kernel_rfl | 29,_=>kernel_rfl | 30,_=>kernel_rfl | 31,_=>kernel_rfl | 32,_=>kernel_rfl | 33,_=>kernel_rfl | 34,_=>kernel_rfl | 35,_=>kernel_rfl | 36,_=>kernel_rfl | 37,_=>kernel_rfl | 38,_=>kernel_rfl | 39,_=>kernel_rfl | 40,_=>kernel_rfl | 41,_=>kernel_rfl | 42,_=>kernel_rfl | 43,_=>kernel_rfl | 44,_=>kernel_rfl | 45,_=>kernel_rfl | 46,_=>kernel_rfl | 47,_=>kernel_rfl | 48,_=>kernel_rfl | 49,_=>kernel_rfl | 50,_=>kernel_rfl | 51,_=>kernel_rfl | 52,_=>kernel_rfl | 53,_=>kernel_rfl | 54,_=>kernel_rfl | 55,_=>kernel_rfl | 56,_=>kernel_rfl | 57,_=>kernel_rfl | 58,_=>kernel_rfl | 59,_=>kernel_rfl | 60,_=>kernel_rfl | 61,_=>kernel_rfl | 62,_=>kernel_rfl | 63,_=>kernel_rfl | 64,_=>kernel_rfl | 65,_=>kernel_rfl | 66,_=>kernel_rfl | 67,_=>kernel_rfl | 68,_=>kernel_rfl | 69,_=>kernel_rfl | 70,_=>kernel_rfl | 71,_=>kernel_rfl | 72,_=>kernel_rfl | 73,_=>kernel_rfl | 74,_=>kernel_rfl | 75,_=>kernel_rfl | 76,_=>kernel_rfl | 77,_=>kernel_rfl | 78,_=>kernel_rfl | 79,_=>kernel_rfl | 80,_=>kernel_rfl | 81,_=>kernel_rfl | 82,_=>kernel_rfl | 83,_=>kernel_rfl | 84,_=>kernel_rfl | 85,_=>kernel_rfl | 86,_=>kernel_rfl | 87,_=>kernel_rfl | 88,_=>kernel_rfl | 89,_=>kernel_rfl | 90,_=>kernel_rfl | 91,_=>kernel_rfl | 92,_=>kernel_rfl | 93,_=>kernel_rfl | 94,_=>kernel_rfl | 95,_=>kernel_rfl | 96,_=>kernel_rfl | 97,_=>kernel_rfl | 98,_=>kernel_rfl | 99,_=>kernel_rfl | (m+100),hm=>exact absurd hm (by omega)
  repeat (any_goals (first | assumption | wp_step))
  all_goals first | exact ⟨_,rfl,h⟩ | skip
def rp:List V→Hp→VK→Prop
 | [.int i],H,Q=>Q (.int i) H
 | [.bl k],H,Q=>Q (.int (if k then 1 else 0)) H
 | [.str z],H,Q=>∃ n:Nat,n < 100∧z=tx (numC n)∧Q (.int n) H
 | _,_,_=>False
theorem on {k:Bool} {H:Hp} {Q:VK}:rp [.bl k] H Q=Q (.int (if k then 1 else 0)) H:=rfl
theorem oo {i:Int} {H:Hp} {Q:VK}:rp [.int i] H Q=Q (.int i) H:=rfl
end L2
namespace L2
open PySem PySem.Spec PyProof.Rows
local macro_rules | `(tactic| walk_at "w")=>`(tactic| (first | simp only [aB,g8,fQ,bF,g9,hG,w_c,jl,jF,hJ,hU,hV,w_b,w_not,jG,my,hX,hZ,jH,jI,ia,mz,ib,jJ,jK,mB,jL,ic,ie,ig,ii,gn,gp,gq,fu,fv,eJ,jM,jN,jO,jP,jQ,jR,jS,jT,jU,jV,jW,jX,mF,ik,fz,il,mG,im,gs,fA,jY,jZ,io,gt,ip,
 List.getElem?_cons_zero,List.getElem?_cons_succ,Option.some.injEq,exists_eq_left',exists_eq_left,List.set_cons_zero,List.set_cons_succ,ee,V.int.injEq,V.bl.injEq,V.ref.injEq,V.str.injEq,List.nil_append,List.cons_append] | dsimp only | skip))
def bf (K:PySem.W.Frag):Sp:=fun vs H Q _=>∃ (a:Addr) (h w g:Int),vs=[.ref a]∧IsFl H a h w g∧1≤h∧h≤6∧Q (.int (h*w)) H
theorem lJ {K:PySem.W.Frag} {vs:List V} {H:Hp} {Q:VK} {E:XK} (h:bf K vs H Q E):vs.length=1:=by
 obtain ⟨_,_,_,_,rfl,_⟩:=h; rfl
def c8 (K:PySem.W.Frag):TS:=
 (tRet (tOp cMul (tOp cIx (tVar 0) (tC (.int 0))) (tOp cIx (tVar 0) (tC (.int 1)))))
theorem lK {K:PySem.W.Frag} {vs:List V} {H:Hp} {Q:VK} {E:XK} (h:bf K vs H Q E):c8 K { nx:=fun _ H'=>Q .non H',rt:=Q } (start ["floor"] vs) H:=by
 obtain ⟨a,h,w,g,rfl,ha,h0,h1,q⟩:=h
 show c8 K _ [some (.ref a)] H
 unfold c8
 walk_at "w"
 rw [qG ha]
 refine bu (a:=V.int h) rfl ?_
 walk_at "w"
 rw [qG ha]
 refine bu (a:=V.int w) rfl ?_
 walk_at "w"
 exact ⟨fR h0 h1,q⟩
end L2
namespace L2
open PySem PySem.Spec PyProof.Rows
local macro_rules | `(tactic| walk_at "w")=>`(tactic| (first | simp only [aB,t5,rn,m4,p8,on,oo,ro,rj,pX,rm,if_true,if_false,Bool.false_eq_true,decide_true,decide_false,oa,og,rl,mR,ll,n6,pV,n9,mI,pT,pU,mH,ri,mS,mT,mV,mW,mX,mY,mU,pZ,p0,p5,pQ,rk,Bool.not_true,Bool.not_false,g8,fQ,bF,g9,hG,w_c,jl,jF,hJ,hU,hV,w_b,w_not,jG,my,hX,hZ,jH,jI,ia,mz,ib,jJ,jK,mB,jL,ic,ie,ig,ii,gn,gp,gq,fu,fv,eJ,jM,jN,jO,jP,jQ,jR,jS,jT,jU,jV,jW,jX,mF,ik,fz,il,mG,im,gs,fA,jY,jZ,io,gt,ip,
 List.getElem?_cons_zero,List.getElem?_cons_succ,Option.some.injEq,exists_eq_left',exists_eq_left,List.set_cons_zero,List.set_cons_succ,ee,V.int.injEq,V.bl.injEq,V.ref.injEq,V.str.injEq,List.nil_append,List.cons_append] | dsimp only | skip))
def nmC:RK→List Nat
 | .Rule=>[]
 | .Unlike=>[117,110,108,105,107,101]
 | .Sum=>[115,117,109]
 | .Rising=>[114,105,115,105,110,103]
 | .Seen=>[115,101,101,110]
 | .Count=>[99,111,117,110,116]
 | .Joined=>[106,111,105,110,101,100]
 | .NoSquare=>[110,111,115,113,117,97,114,101]
 | .Ring=>[114,105,110,103]
def aQ:List Str:=[tx [115,117,109],tx [115,101,101,110],tx [99,111,117,110,116]]
def aX:List Str:=[tx [99,111,117,110,116],tx [106,111,105,110,101,100],tx [110,111,115,113,117,97,114,101],tx [114,105,110,103]]
def ar:List Str:=[tx [106,111,105,110,101,100],tx [110,111,115,113,117,97,114,101],tx [114,105,110,103]]
def rFs (p W C:Addr) (n m:Int):List (Str × V):=[("floor",.ref p),("words",.ref W),("cells",.ref C),("amount",.int n),("mark",.int m)]
structure IsRule (H:Hp) (c:RCl RK) (k:RK) (r p:Addr) (ws:List (List Nat)) (cs:List Int) (n m:Int):Prop where
 ok:c.ok k=true
 ex:∃ dx W C,H r=some (.ins (c.A k) dx (rFs p W C n m))∧H W=some (.tup ((ws.map tx).map V.str))∧H C=some (.tup (cs.map V.int))
theorem IsRule.same {H H':Hp} {c:RCl RK} {k:RK} {r p:Addr} {ws:List (List Nat)} {cs:List Int} {n m:Int} (x:IsRule H c k r p ws cs n m) (s:Same H H'):IsRule H' c k r p ws cs n m:=by
 obtain ⟨dx,W,C,h1,h2,h3⟩:=x.ex
 exact ⟨x.ok,dx,W,C,s _ _ h1,s _ _ h2,s _ _ h3⟩
section
variable {ι:Type} {c:RCl ι} {σ:St} {H:Hp} {Q:VK} {i:Nat} {r dx:Addr} {k:ι} {fs:List (Str × V)} {f m:Str} {v:V} {okm:ι→Bool} {sp:ι→Sp} {t:TA} {D:Ends} {tv:TE} {y:V} {H1:Hp}
theorem fldE (hσ:σ[i]? =some (some (.ref r))) (ok:c.ok k=true) (hr:H r=some (.ins (c.A k) dx fs)) (hl:fs.lookup f=some v) (q:Q v H):tFldK c (tVar i) f σ H Q:=gB hσ ⟨r,k,dx,fs,v,rfl,ok,hr,hl,q⟩
theorem methE (hσ:σ[i]? =some (some (.ref r))) (ok:okm k=true) (hr:H r=some (.ins (c.A k) dx fs)) (hl:fs.lookup m=none) (q:t σ H fun vs H2=>sp k (.ref r::vs) H2 Q E0):dO c okm m sp (tVar i) t σ H Q:=gB hσ ⟨r,k,dx,fs,rfl,ok,hr,hl,q⟩
theorem sfldV {j:Nat} {x:V} (hj:σ[j]? =some (some x)) (hσ:σ[i]? =some (some (.ref r))) (ok:c.ok k=true) (hr:H r=some (.ins (c.A k) dx fs)) (hn:fs.length < 1000) (q:D.nx σ (upd H r (.ins (c.A k) dx (putF f x fs)))):sFldK c (tVar i) (tVar j) f D σ H:=
 gB hj (gB hσ ⟨r,k,dx,fs,rfl,ok,hr,hn,q⟩)
theorem sfldT {K:PySem.W.Frag} {j:Nat} {p:Addr} {xs:List V} (hj:σ[j]? =some (some (.ref p))) (hp:H p=some (.lst xs)) (hσ:σ[i]? =some (some (.ref r))) (ok:c.ok k=true) (hr:H r=some (.ins (c.A k) dx fs)) (hn:fs.length < 1000)
  (q:∀ l,H l=none→D.nx σ (upd (upd H l (.tup xs)) r (.ins (c.A k) dx (putF f (.ref l) fs)))):sFldK c (tVar i) (tCB (fD K) (tCons (tVar j) tNil)) f D σ H:=by
 unfold sFldK
 walk_at "w"
 refine gB hj (sq hp fun l hl=>?_)
 exact gB hσ ⟨r,k,dx,fs,rfl,ok,by rw [ak (aA hr hl)]; exact hr,hn,q l hl⟩
end
theorem ss {H:Hp} {Q:VK} {p:Addr} {xs:List V} (hp:H p=some (.tup xs)) (h:∀ l,H l=none→Q (.ref l) (upd H l (.lst xs))):kList [.ref p] H Q:=by
 unfold kList
 dsimp only
 rw [hp]
 exact h
theorem su {H:Hp} {Q:VK} {sep:Str} {p:Addr} {ts:List Str} (hp:H p=some (.tup (ts.map V.str))) (hok:JoinOk sep ts=true) (h:Q (.str (Txt.join sep ts)) H):eO (.str sep) [.ref p] H Q:=by
 unfold eO
 dsimp only
 rw [hp]
 exact ⟨ts,rfl,hok,h⟩
theorem sv {H:Hp} {Q:VK} {sep:Str} {p:Addr} {ts:List Str} (hp:H p=some (.lst (ts.map V.str))) (hok:JoinOk sep ts=true) (h:Q (.str (Txt.join sep ts)) H):eO (.str sep) [.ref p] H Q:=by
 unfold eO
 dsimp only
 rw [hp]
 exact ⟨ts,rfl,hok,h⟩
def iT (K:PySem.W.Frag) (c:RCl RK) (k:RK):Sp:=fun vs H Q _=>∃ (r p:Addr) (w:List Nat) (ws:List (List Nat)) (cs:List Int) (n m:Int),vs=[.ref r]∧IsRule H c k r p (w::ws) cs n m∧Q (.str (tx w)) H
def gG (K:PySem.W.Frag) (c:RCl RK) (k:RK):Sp:=fun vs H Q _=>∃ (r p:Addr) (ws:List (List Nat)) (cs:List Int) (n m:Int),vs=[.ref r]∧IsRule H c k r p ws cs n m∧∀ l,H l=none→Q (.ref l) (upd H l (.lst (cs.map V.int)))
def eP (K:PySem.W.Frag) (c:RCl RK) (k:RK):Sp:=fun vs H Q _=>∃ (r p:Addr) (ws:List (List Nat)) (cs:List Int) (n m:Int),vs=[.ref r]∧IsRule H c k r p ws cs n m∧Q (.int n) H
def gz (K:PySem.W.Frag) (c:RCl RK) (k:RK):Sp:=fun vs H Q _=>∃ (r p:Addr) (ws:List (List Nat)) (cs:List Int) (n m:Int),vs=[.ref r]∧IsRule H c k r p ws cs n m∧Q (.int m) H
def ah (K:PySem.W.Frag) (c:RCl RK):Sp:=fun vs H Q _=>∃ (k:RK) (x dx p W C:Addr) (ws:List (List Nat)) (cs:List Int) (n m:Int),vs=[.ref x,.ref p,.ref W,.ref C,.int n,.int m]∧c.ok k=true∧H x=some (.ins (c.A k) dx [])∧W≠x∧C≠x∧
 H W=some (.lst ((ws.map tx).map V.str))∧H C=some (.lst (cs.map V.int))∧∀ H',(∀ b o,b≠x→H b=some o→H' b=some o)→IsRule H' c k x p ws cs n m→Q .non H'
theorem jp {K:PySem.W.Frag} {c:RCl RK} {vs:List V} {H:Hp} {Q:VK} {E:XK} (h:ah K c vs H Q E):vs.length=6:=by
 obtain ⟨_,_,_,_,_,_,_,_,_,_,rfl,_⟩:=h; rfl
def bR (K:PySem.W.Frag) (c:RCl RK):TS:=
 (tSeq (sFldK c (tVar 0) (tVar 1) "floor")
  (tSeq (sFldK c (tVar 0) (tCB (fD K) (tCons (tVar 2) tNil)) "words")
  (tSeq (sFldK c (tVar 0) (tCB (fD K) (tCons (tVar 3) tNil)) "cells")
  (tSeq (sFldK c (tVar 0) (tVar 4) "amount")
  (sFldK c (tVar 0) (tVar 5) "mark")))))
theorem jq {K:PySem.W.Frag} {c:RCl RK} {vs:List V} {H:Hp} {Q:VK} {E:XK} (h:ah K c vs H Q E):bR K c { nx:=fun _ H'=>Q .non H',rt:=Q } (start ["self","floor","words","cells","amount","mark"] vs) H:=by
 obtain ⟨k,x,dx,p,W,C,ws,cs,n,m,rfl,ok,hx,nW,nC,hW,hC,q⟩:=h
 show bR K c _ [some (.ref x),some (.ref p),some (.ref W),some (.ref C),some (.int n),some (.int m)] H
 unfold bR
 walk_at "w"
 refine sfldV (k:=k) (j:=1) rfl rfl ok hx (by decide) ?_
 walk_at "w"
 refine sfldT (k:=k) (j:=2) (p:=W) rfl (by rw [ak nW]; exact hW) rfl ok ag (by show (1:Nat) < 1000; decide) fun l1 h1=>?_
 have n1:l1≠x:=fun e=>by rw [e,ag] at h1; cases h1
 have g1:H l1=none:=by rw [ak n1] at h1; exact h1
 walk_at "w"
 refine sfldT (k:=k) (j:=3) (p:=C) rfl (by rw [ak nC,ak (aA hC g1),ak nC]; exact hC) rfl ok ag (by show (2:Nat) < 1000; decide) fun l2 h2=>?_
 have n2:l2≠x:=fun e=>by rw [e,ag] at h2; cases h2
 have n21:l2≠l1:=fun e=>by rw [e,ak n1,ag] at h2; cases h2
 have g2:H l2=none:=by rw [ak n2,ak n21,ak n2] at h2; exact h2
 walk_at "w"
 refine sfldV (k:=k) (j:=4) rfl rfl ok ag (by show (3:Nat) < 1000; decide) ?_
 walk_at "w"
 refine sfldV (k:=k) (j:=5) rfl rfl ok ag (by show (4:Nat) < 1000; decide) ?_
 refine q _ (fun b o hb e=>?_) ⟨ok,dx,l1,l2,by rw [ag]; rfl,?_,?_⟩
 · rw [ak hb,ak hb,ak hb,ak (aA e g2),ak hb,ak (aA e g1),ak hb]
   exact e
 · rw [ak n1,ak n1,ak n1,ak n21.symm,ak n1,ag]
 · rw [ak n2,ak n2,ak n2,ag]
def dP (K:PySem.W.Frag) (c:RCl RK):Sp:=fun vs H Q E=>∃ k,iT K c k vs H Q E
theorem m5 {K:PySem.W.Frag} {c:RCl RK} {vs:List V} {H:Hp} {Q:VK} {E:XK} (h:dP K c vs H Q E):vs.length=1:=by
 obtain ⟨_,_,_,_,_,_,_,_,rfl,_⟩:=h; rfl
def dQ (K:PySem.W.Frag) (c:RCl RK):TS:=
 (tRet (tOp cIx (tFldK c (tVar 0) "words") (tC (.int 0))))
theorem m6 {K:PySem.W.Frag} {c:RCl RK} {vs:List V} {H:Hp} {Q:VK} {E:XK} (h:dP K c vs H Q E):dQ K c { nx:=fun _ H'=>Q .non H',rt:=Q } (start ["self"] vs) H:=by
 obtain ⟨k,r,p,w,ws,cs,n,m,rfl,x,q⟩:=h
 obtain ⟨dx,W,C,h1,h2,h3⟩:=x.ex
 show dQ K c _ [some (.ref r)] H
 unfold dQ
 walk_at "w"
 refine fldE rfl x.ok h1 (v:=.ref W) (by rfl) ?_
 walk_at "w"
 have e0:atI (((w::ws).map tx).map V.str) 0=some (V.str (tx w)):=aN (j:=0) rfl
 exact ixT h2 e0 q
def c9 (K:PySem.W.Frag) (c:RCl RK):Sp:=fun vs H Q E=>∃ k,gG K c k vs H Q E
theorem lL {K:PySem.W.Frag} {c:RCl RK} {vs:List V} {H:Hp} {Q:VK} {E:XK} (h:c9 K c vs H Q E):vs.length=1:=by
 obtain ⟨_,_,_,_,_,_,_,rfl,_⟩:=h; rfl
def db (K:PySem.W.Frag) (c:RCl RK):TS:=
 (tRet (tCB kList (tCons (tFldK c (tVar 0) "cells") tNil)))
theorem lM {K:PySem.W.Frag} {c:RCl RK} {vs:List V} {H:Hp} {Q:VK} {E:XK} (h:c9 K c vs H Q E):db K c { nx:=fun _ H'=>Q .non H',rt:=Q } (start ["self"] vs) H:=by
 obtain ⟨k,r,p,ws,cs,n,m,rfl,x,q⟩:=h
 obtain ⟨dx,W,C,h1,h2,h3⟩:=x.ex
 show db K c _ [some (.ref r)] H
 unfold db
 walk_at "w"
 refine fldE rfl x.ok h1 (v:=.ref C) (by rfl) ?_
 walk_at "w"
 exact ss h3 q
def cy (K:PySem.W.Frag) (c:RCl RK):Sp:=fun vs H Q E=>∃ k,eP K c k vs H Q E
theorem kt {K:PySem.W.Frag} {c:RCl RK} {vs:List V} {H:Hp} {Q:VK} {E:XK} (h:cy K c vs H Q E):vs.length=1:=by
 obtain ⟨_,_,_,_,_,_,_,rfl,_⟩:=h; rfl
def cz (K:PySem.W.Frag) (c:RCl RK):TS:=
 (tRet (tFldK c (tVar 0) "amount"))
theorem ku {K:PySem.W.Frag} {c:RCl RK} {vs:List V} {H:Hp} {Q:VK} {E:XK} (h:cy K c vs H Q E):cz K c { nx:=fun _ H'=>Q .non H',rt:=Q } (start ["self"] vs) H:=by
 obtain ⟨k,r,p,ws,cs,n,m,rfl,x,q⟩:=h
 obtain ⟨dx,W,C,h1,h2,h3⟩:=x.ex
 show cz K c _ [some (.ref r)] H
 unfold cz
 walk_at "w"
 exact fldE rfl x.ok h1 (v:=.int n) (by rfl) q
def dR (K:PySem.W.Frag) (c:RCl RK):Sp:=fun vs H Q E=>∃ k,gz K c k vs H Q E
theorem m7 {K:PySem.W.Frag} {c:RCl RK} {vs:List V} {H:Hp} {Q:VK} {E:XK} (h:dR K c vs H Q E):vs.length=1:=by
 obtain ⟨_,_,_,_,_,_,_,rfl,_⟩:=h; rfl
def dS (K:PySem.W.Frag) (c:RCl RK):TS:=
 (tRet (tFldK c (tVar 0) "mark"))
theorem m8 {K:PySem.W.Frag} {c:RCl RK} {vs:List V} {H:Hp} {Q:VK} {E:XK} (h:dR K c vs H Q E):dS K c { nx:=fun _ H'=>Q .non H',rt:=Q } (start ["self"] vs) H:=by
 obtain ⟨k,r,p,ws,cs,n,m,rfl,x,q⟩:=h
 obtain ⟨dx,W,C,h1,h2,h3⟩:=x.ex
 show dS K c _ [some (.ref r)] H
 unfold dS
 walk_at "w"
 exact fldE rfl x.ok h1 (v:=.int m) (by rfl) q
def WOk (ws:List (List Nat)):Prop:=∀ w∈ws,∀ c∈w,c < 128
theorem rq {w:List Nat} (h:∀ c∈w,c < 128):PyData.strOk (tx w)=true:=by
 unfold PyData.strOk
 simp [tx]
 intro c hc
 have:=h c hc
 omega
theorem WOk.strs {ws:List (List Nat)} (h:WOk ws):∀ x∈ws.map tx,PyData.strOk x=true:=fun x hx=>by
 obtain ⟨w,hw,rfl⟩:=List.mem_map.mp hx
 exact rq (h w hw)
theorem DVs.strs {K:PySem.W.Frag} {H:Hp}:∀ ns:List Str,DVs K H (ns.map V.str) (ns.map PyData.str)
 | []=>.nil
 | n::r=>.cons (.str n) (DVs.strs r)
theorem ly (a b:Str):PyData.eqv (.str a) (.str b)=decide (a=b):=by
 rw [PyData.eqv]
 by_cases h:a=b
 · subst h; simp
 · simp [h]
theorem eG (ns:List Str) (hs:∀ x∈ns,PyData.strOk x=true):SeqAt.shaped (.list (ns.map PyData.str))=true:=by
 have h1:PyData.canLayAll0 (ns.map PyData.str)=true:=oh fun d hd=>by obtain ⟨x,hx,rfl⟩:=List.mem_map.mp hd; rw [PyData.canLay0]; exact hs x hx
 have h2:PyData.depthAll (ns.map PyData.str)≤0:=li fun d hd=>by obtain ⟨x,_,rfl⟩:=List.mem_map.mp hd; exact Nat.le_refl _
 simp [SeqAt.shaped,PyData.canLay0,h1,PyData.depth]
 omega
theorem t6 {K:PySem.W.Frag} {H:Hp} {Q:VK} {p q:Addr} {xs ys:List Str} (hp:H p=some (.lst (xs.map V.str))) (hq:H q=some (.lst (ys.map V.str))) (h1:∀ x∈xs,PyData.strOk x=true) (h2:∀ x∈ys,PyData.strOk x=true) (h:Q (.bl (decide (xs=ys))) H):cEq K (.ref p) (.ref q) H Q:=by
 show rEqD K (.ref p) (.ref q) H Q
 refine ⟨.list (xs.map PyData.str),.list (ys.map PyData.str),.lst (SqL.of hp) (.strs xs),.lst (SqL.of hq) (.strs ys),eG xs h1,eG ys h2,?_⟩
 rw [PyData.eqv,kr PyData.str ly]
 exact h
theorem t8 {K:PySem.W.Frag} {H:Hp} {Q:VK} {p q:Addr} {xs ys:List Str} (hp:H p=some (.lst (xs.map V.str))) (hq:H q=some (.lst (ys.map V.str))) (h1:∀ x∈xs,PyData.strOk x=true) (h2:∀ x∈ys,PyData.strOk x=true) (h:Q (.bl (!decide (xs=ys))) H):cNe K (.ref p) (.ref q) H Q:=by
 show rNeD K (.ref p) (.ref q) H Q
 refine ⟨.list (xs.map PyData.str),.list (ys.map PyData.str),.lst (SqL.of hp) (.strs xs),.lst (SqL.of hq) (.strs ys),eG xs h1,eG ys h2,?_⟩
 rw [PyData.eqv,kr PyData.str ly]
 exact h
theorem qQ (acc:List Int) (v:Int):(step_dedup acc v).length≤acc.length+1:=by
 unfold step_dedup
 split <;> simp
theorem m9:∀ (l acc:List Int),(l.foldl step_dedup acc).length≤acc.length+l.length
 | [],acc=>by simp
 | x::r,acc=>by
  have h1:=m9 r (step_dedup acc x)
  have h2:=qQ acc x
  rw [List.foldl_cons,List.length_cons]
  omega
theorem jg:∀ (l acc:List Int),acc.Nodup→((l.foldl step_dedup acc).length=acc.length+l.length↔(acc++l).Nodup)
 | [],acc,h=>by simpa using h
 | x::r,acc,h=>by
  rw [List.foldl_cons]
  by_cases hx:x∈acc
  · have e:step_dedup acc x=acc:=by
     unfold step_dedup
     rw [if_pos (by simpa using hx)]
    rw [e]
    have:=m9 r acc
    constructor
    · intro z
      rw [List.length_cons] at z
      omega
    · intro z
      have:=(List.nodup_append.mp z).2.2 x hx x List.mem_cons_self
      exact absurd rfl this
  · have e:step_dedup acc x=acc++[x]:=by
     unfold step_dedup
     rw [if_neg (by simpa using hx)]
    rw [e]
    have hn:(acc++[x]).Nodup:=List.nodup_append.mpr ⟨h,by simp,fun a ha b hb z=>hx (by rw [List.mem_singleton.mp hb] at z; exact z ▸ ha)⟩
    have ih:=jg r (acc++[x]) hn
    rw [List.length_append,List.length_singleton] at ih
    rw [List.length_cons,show acc.length+(r.length+1)=acc.length+1+r.length by omega,show acc++x::r=acc++[x]++r by simp]
    exact ih
theorem kx (ns:List Int):(List.range ns.length).map (fun i=>ns.getD i 0)=ns:=by
 have:=lH ns (fun x=>x)
 simpa using this
theorem nc (ns:List Int):cntD ns=ns.length↔ns.Nodup:=by
 unfold cntD firstMet
 rw [kx]
 have:=jg ns [] List.nodup_nil
 simpa using this
theorem oX {ns:List Nat} (h:ns.Nodup):(ns.map fun (n:Nat)=>(n:Int)).Nodup:=by
 induction ns with
 | nil=>exact List.nodup_nil
 | cons a r ih=>
  rw [List.nodup_cons] at h
  rw [List.map_cons,List.nodup_cons]
  refine ⟨fun z=>?_,ih h.2⟩
  obtain ⟨b,hb,e⟩:=List.mem_map.mp z
  exact h.1 (by have:b=a:=by omega
                exact this ▸ hb)
theorem sw {K:PySem.W.Frag} {c:RCl RK} {H:Hp} {Q:VK} {k:RK} {p W C:Addr} {ws:List (List Nat)} {cs:List Int} {n m:Int} (ok:c.ok k=true) (hW:H W=some (.lst ((ws.map tx).map V.str))) (hC:H C=some (.lst (cs.map V.int))) (q:∀ r H',Same H H'→H r=none→IsRule H' c k r p ws cs n m→Q (.ref r) H'):
  ∀ x dx,H x=none→H dx=none→dx≠x→ah K c (.ref x::([.ref p,.ref W,.ref C,.int n,.int m]++[])) (upd (upd H dx (.own x)) x (.ins (c.A k) dx [])) (fun v H2=>v=.non∧Q (.ref x) H2) E0:=by
 intro x dx hx hd ne
 refine ⟨k,x,dx,p,W,C,ws,cs,n,m,rfl,ok,ag,aA hW hx,aA hC hx,?_,?_,fun H' hs hr=>⟨rfl,q x H' (fun b o e=>hs b o (aA e hx) ?_) hx hr⟩⟩
 · rw [ak (aA hW hx),ak (aA hW hd)]; exact hW
 · rw [ak (aA hC hx),ak (aA hC hd)]; exact hC
 · rw [ak (aA e hx),ak (aA e hd)]; exact e
theorem qR (xs:List V):cutV xs (some 1) none=xs.drop 1:=by
 unfold cutV
 have h1:HT.sIx xs.length 0 (some 1)=min 1 xs.length:=HT.sIx_nat ..
 have h2:HT.sIx xs.length xs.length none=xs.length:=rfl
 rw [h1,h2]
 cases xs with
 | nil=>rfl
 | cons x r=>
  have:min 1 (x::r).length=1:=by simp
  rw [this]
  show (r).take _=r
  rw [List.take_of_length_le (by simp)]
def dU (ns:List Int) (k:Int):Int:=(if 0 < (ns.length:Int) then k*k*7919+104729*k+11+ns.getD (k % ns.length).toNat 0 % 10^30*(48271+k / ns.length) else k*k*7919+104729*k+11) % 2147483629
def aJ (K:PySem.W.Frag):Sp:=fun vs H Q _=>∃ (a:Addr) (ns:List Int) (k:Int),vs=[.ref a,.int k]∧SqL K H a (ns.map V.int)∧ns.length≤63∧0≤k∧k≤10000∧Q (.int (dU ns k)) H
theorem lN {K:PySem.W.Frag} {vs:List V} {H:Hp} {Q:VK} {E:XK} (h:aJ K vs H Q E):vs.length=2:=by
 obtain ⟨_,_,_,rfl,_⟩:=h; rfl
def b0 (K:PySem.W.Frag):TS:=
 (tSeq (tAsg (tOp cAdd (tOp cAdd (tOp cMul (tOp cMul (tVar 1) (tVar 1)) (tC (.int 7919))) (tOp cMul (tC (.int 104729)) (tVar 1))) (tC (.int 11))) (gName 2))
  (tSeq (tIfS (tTest (tOp (cCmp fun i j=>decide (j < i)) (tCB (kLenS K) (tCons (tVar 0) tNil)) (tC (.int 0)))) (tSeq (tAsg (tOp cMod (tOp (rIxL K) (tVar 0) (tOp cMod (tVar 1) (tCB (kLenS K) (tCons (tVar 0) tNil)))) (tOp cPow (tC (.int 10)) (tC (.int 30)))) (gName 3))
  (tAsg (tOp cAdd (tVar 2) (tOp cMul (tVar 3) (tOp cAdd (tC (.int 48271)) (tOp cDiv (tVar 1) (tCB (kLenS K) (tCons (tVar 0) tNil)))))) (gName 2))) tNext)
  (tRet (tOp cMod (tVar 2) (tC (.int 2147483629))))))
theorem lO {K:PySem.W.Frag} {vs:List V} {H:Hp} {Q:VK} {E:XK} (h:aJ K vs H Q E):b0 K { nx:=fun _ H'=>Q .non H',rt:=Q } (start ["_law_script","_law_k","_law_number","_law_cell"] vs) H:=by
 obtain ⟨a,ns,k,rfl,hS,hn,k0,k1,q⟩:=h
 show b0 K _ [some (.ref a),some (.int k),none,none] H
 unfold b0
 walk_at "w"
 have kk:k*k≤10000*10000:=Int.mul_le_mul k1 k1 k0 (by decide)
 have kk0:0≤k*k:=Int.mul_nonneg k0 k0
 refine ⟨.inl ⟨by omega,by omega⟩,.inr ⟨by decide,by decide⟩,.inl ⟨by decide,by decide⟩,?_⟩
 rw [aE]
 walk_at "w"
 refine ⟨a,_,rfl,.inl hS,?_⟩
 walk_at "w"
 rw [List.length_map]
 unfold dU at q
 by_cases hl:0 < (ns.length:Int)
 · rw [if_pos hl] at q
   rw [decide_eq_true hl]
   refine iteT ⟨a,_,rfl,.inl hS,?_⟩
   walk_at "w"
   rw [List.length_map]
   have m0:=Int.emod_nonneg k (Int.ne_of_gt hl)
   have m1:=Int.emod_lt_of_pos k hl
   refine ⟨hl,a,_,_,_,rfl,rfl,hS,qJ m0 m1,?_⟩
   walk_at "w"
   refine ⟨⟨by decide,by decide,by decide⟩,by decide,a,_,rfl,.inl hS,?_⟩
   walk_at "w"
   rw [List.length_map]
   refine ⟨⟨hl,by omega⟩,.inr ⟨?_,?_⟩,?_⟩
   · have:0≤k / (ns.length:Int):=Int.ediv_nonneg k0 (by omega)
     omega
   · have:k / (ns.length:Int)≤k:=Int.ediv_le_self _ k0
     omega
   · walk_at "w"
     exact ⟨by decide,q⟩
 · rw [if_neg hl] at q
   rw [decide_eq_false hl]
   refine iteF ?_
   walk_at "w"
   exact ⟨by decide,q⟩
def sizL:List (List Int):=(List.range 6).flatMap fun (i:Nat)=>((List.range 6).filter fun (j:Nat)=>decide ((1+(i:Int))*(1+(j:Int))≤16)).map fun (j:Nat)=>[1+(i:Int),1+(j:Int)]
def sizP (i:Nat) (n:Nat):List (List Int):=((List.range n).filter fun (j:Nat)=>decide ((1+(i:Int))*(1+(j:Int))≤16)).map fun (j:Nat)=>[1+(i:Int),1+(j:Int)]
def lawS (z:Int):List Int:=sizL.getD (z % (sizL.length:Int)).toNat []
def lawHN (z:Int):Int:=(lawS z).getD 0 0
def lawWN (z:Int):Int:=(lawS z).getD 1 0
def lawGN (z:Int):Int:=1+z / 100 % 6
theorem siz_tab:sizL.length=26∧(sizL.all fun t=>decide (t.length=2)&&decide (1≤t.getD 0 0)&&decide (t.getD 0 0≤6)&&decide (1≤t.getD 1 0)&&decide (t.getD 1 0≤6)&&decide (t.getD 0 0*t.getD 1 0≤16))=true:=by decide+kernel
theorem ng (z:Int):lawS z∈sizL:=by
 have h0:=Int.emod_nonneg z (show (sizL.length:Int)≠0 by rw [siz_tab.1]; decide)
 have h1:=Int.emod_lt_of_pos z (show (0:Int) < sizL.length by rw [siz_tab.1]; decide)
 have hlt:(z % (sizL.length:Int)).toNat < sizL.length:=by omega
 unfold lawS
 rw [List.getD,List.getElem?_eq_getElem hlt]
 exact List.getElem_mem hlt
theorem sx (z:Int):lawS z=[lawHN z,lawWN z]:=by
 have t:=List.all_eq_true.mp siz_tab.2 _ (ng z)
 simp only [Bool.and_eq_true,decide_eq_true_eq] at t
 unfold lawHN lawWN
 match e:lawS z,t with
 | [x,y],_=>rfl
theorem t9 (z:Int):FlOk (lawHN z) (lawWN z) (lawGN z):=by
 have t:=List.all_eq_true.mp siz_tab.2 _ (ng z)
 simp only [Bool.and_eq_true,decide_eq_true_eq] at t
 have c0:=Int.emod_nonneg (z / 100) (by decide:(6:Int)≠0)
 have c1:=Int.emod_lt_of_pos (z / 100) (by decide:(0:Int) < 6)
 unfold lawGN lawHN lawWN
 exact ⟨t.1.1.1.1.2,t.1.1.1.2,t.1.1.2,t.1.2,t.2,by omega,by omega⟩
def bg (K:PySem.W.Frag):Sp:=fun vs H Q _=>∃ z:Int,vs=[.int z]∧∀ p H',Same H H'→H p=none→IsFl H' p (lawHN z) (lawWN z) (lawGN z)→Q (.ref p) H'
theorem ky {K:PySem.W.Frag} {vs:List V} {H:Hp} {Q:VK} {E:XK} (h:bg K vs H Q E):vs.length=1:=by
 obtain ⟨_,rfl,_⟩:=h; rfl
def bO (K:PySem.W.Frag):TS:=
 (tSeq (tAsg (tLst tNil) (gName 1))
  (tSeq (tFor (iK (tCons (tC (.int 1)) (tCons (tC (.int 7)) tNil))) (gName 2)
  (tFor (iK (tCons (tC (.int 1)) (tCons (tC (.int 7)) tNil))) (gName 3)
  (tIfS (tTest (tOp (cCmp fun i j=>decide (i≤j)) (tOp cMul (tVar 2) (tVar 3)) (tC (.int 16)))) (tDrop (tBM K "list" cw (tVar 1) (tCons (tTup (tCons (tVar 2) (tCons (tVar 3) tNil))) tNil))) tNext)))
  (tSeq (tAsg (tOp cIx (tVar 1) (tOp cMod (tVar 0) (tCB kLen (tCons (tVar 1) tNil)))) (gTup K 2 (gCons (gName 2) (gCons (gName 3) gNil))))
  (tRet (tTup (tCons (tVar 2) (tCons (tVar 3) (tCons (tOp cAdd (tC (.int 1)) (tOp cMod (tOp cDiv (tVar 0) (tC (.int 100))) (tC (.int 6)))) tNil))))))))
theorem IsLT.app {H:Hp} {l p:Addr} {as:List Addr} {xss:List (List Int)} {t:List Int} (x:IsLT H l as xss) (nl:l∉as) (npl:p≠l) (hp:H p=some (.tup (t.map V.int))):IsLT (upd H l (.lst (as.map V.ref++[V.ref p]))) l (as++[p]) (xss++[t]):=by
 refine ⟨by rw [ag]; simp,by simp [x.len],fun j a xs h1 h2=>?_⟩
 have hlen:=x.len
 by_cases hj:j < as.length
 · rw [List.getElem?_append_left hj] at h1
   rw [List.getElem?_append_left (by omega)] at h2
   have nal:a≠l:=fun z=>nl (z ▸ List.mem_of_getElem? h1)
   rw [ak nal]
   exact x.at_ j a xs h1 h2
 · rw [List.getElem?_append_right (by omega)] at h1
   rw [List.getElem?_append_right (by omega)] at h2
   have e0:j - as.length=0:=by
    have:=(List.getElem?_eq_some_iff.mp h1).1
    simp at this
    omega
   rw [e0] at h1
   rw [show j - xss.length=0 by omega] at h2
   simp at h1 h2
   subst h1 h2
   rw [ak npl]
   exact hp
theorem qS (i j:Nat):sizP i (j+1)=sizP i j++(if decide ((1+(i:Int))*(1+(j:Int))≤16)=true then [[1+(i:Int),1+(j:Int)]] else []):=by
 unfold sizP
 rw [List.range_succ,List.filter_append,List.filter_cons]
 cases decide ((1+(i:Int))*(1+(j:Int))≤16) <;> simp
def sizA (i:Nat):List (List Int):=(List.range i).flatMap fun i=>sizP i 6
theorem qa (i:Nat):sizA (i+1)=sizA i++sizP i 6:=by
 unfold sizA
 rw [List.range_succ,List.flatMap_append]
 simp
theorem qT {i j:Nat} (hi:i≤6) (hj:j≤6):(sizA i++sizP i j).length≤100:=by
 have t:((List.range 7).all fun i=>(List.range 7).all fun j=>decide ((sizA i++sizP i j).length≤100))=true:=by decide+kernel
 have:=List.all_eq_true.mp (List.all_eq_true.mp t i (List.mem_range.mpr (by omega))) j (List.mem_range.mpr (by omega))
 simpa using this
theorem kz {K:PySem.W.Frag} {vs:List V} {H:Hp} {Q:VK} {E:XK} (h:bg K vs H Q E):bO K { nx:=fun _ H'=>Q .non H',rt:=Q } (start ["_law_number","_law_sizes","_law_high","_law_wide"] vs) H:=by
 obtain ⟨z,rfl,q⟩:=h
 show bO K _ [some (.int z),none,none,none] H
 unfold bO
 walk_at "w"
 refine ⟨aq (by decide),fun L hL=>?_⟩
 refine ⟨1,7,rfl,by omega,?_⟩
 refine fO (fun i σ H'=>∃ (hv wv:Option V) (as:List Addr),σ=[some (.int z),some (.ref L),hv,wv]∧Same H H'∧IsLT H' L as (sizA i)∧L∉as) ⟨none,none,[],rfl,(Same.refl H).laid hL,⟨ag,rfl,fun j a xs h=>by simp at h⟩,by simp⟩ ?_ ?_
 · rintro i σ H1 hi ⟨hv,wv,as,rfl,s1,x1,n1⟩
   walk_at "w"
   refine ⟨1,7,rfl,by omega,?_⟩
   refine fO (fun j σ H'=>∃ (wv:Option V) (as:List Addr),σ=[some (.int z),some (.ref L),some (.int (1+(i:Int))),wv]∧Same H H'∧IsLT H' L as (sizA i++sizP i j)∧L∉as) ⟨wv,as,rfl,s1,by simpa [sizP] using x1,n1⟩ ?_ ?_
   · rintro j σ H2 hj ⟨wv,as,rfl,s2,x2,n2⟩
     have hlen:=qT (i:=i) (j:=j) (by omega) (by omega)
     walk_at "w"
     rw [aE]
     walk_at "w"
     refine ⟨.inl ⟨by omega,by omega⟩,?_⟩
     have st:=qS i j
     cases hc:decide ((1+(i:Int))*(1+(j:Int))≤16) with
     | false=>
      rw [hc,if_neg Bool.false_ne_true,List.append_nil] at st
      refine iteF ⟨_,as,rfl,s2,?_,n2⟩
      rw [st]
      exact x2
     | true=>
      rw [hc,if_pos rfl] at st
      refine iteT ⟨dg x2.top,aq (by show (2:Nat)≤1000; decide),fun p hp=>?_⟩
      have s3:Same H2 (upd H2 p (.tup [V.int (1+(i:Int)),V.int (1+(j:Int))])):=(Same.refl H2).laid hp
      have ep:(upd H2 p (.tup [V.int (1+(i:Int)),V.int (1+(j:Int))])) p=some (.tup (([1+(i:Int),1+(j:Int)]:List Int).map V.int)):=ag
      have npL:p≠L:=fun e=>by rw [e,x2.top] at hp; cases hp
      generalize upd H2 p (.tup [V.int (1+(i:Int)),V.int (1+(j:Int))])=H3 at*
      walk_at "w"
      rw [jm (s3 _ _ x2.top)]
      refine ⟨by rw [List.length_map,x2.len]; exact be (by omega),_,as++[p],rfl,(s2.trans s3).own hL,?_,?_⟩
      · rw [st,← List.append_assoc]
        exact (x2.same s3).app n2 npL ep
      · intro hm
        rcases List.mem_append.mp hm with hm | hm
        · exact n2 hm
        · exact npL (List.mem_singleton.mp hm).symm
   · rintro σ H2 ⟨wv,as,rfl,s2,x2,n2⟩
     refine ⟨_,wv,as,rfl,s2,?_,n2⟩
     rw [qa]
     exact x2
 · rintro σ H1 ⟨hv,wv,as,rfl,s1,x1,n1⟩
   have eA:sizA (7 - 1:Int).toNat=sizL:=rfl
   rw [eA] at x1
   walk_at "w"
   rw [dI x1.top]
   walk_at "w"
   rw [List.length_map,x1.len]
   have h0:=Int.emod_nonneg z (show (sizL.length:Int)≠0 by rw [siz_tab.1]; decide)
   have h1:=Int.emod_lt_of_pos z (show (0:Int) < sizL.length by rw [siz_tab.1]; decide)
   refine ⟨by rw [siz_tab.1]; decide,?_⟩
   have hlt:(z % (sizL.length:Int)).toNat < sizL.length:=by omega
   have hla:(z % (sizL.length:Int)).toNat < as.length:=by rw [x1.len]; exact hlt
   refine ixL x1.top (qK (p:=as[(z % (sizL.length:Int)).toNat]) h0 (List.getElem?_eq_getElem hla)) ?_
   have ea:=x1.at_ _ as[(z % (sizL.length:Int)).toNat] (lawS z) (List.getElem?_eq_getElem hla) (by unfold lawS; rw [List.getElem?_eq_getElem hlt,List.getD,List.getElem?_eq_getElem hlt]; rfl)
   rw [sx] at ea
   refine tW ea rfl ?_
   rw [show ([lawHN z,lawWN z]:List Int).map V.int=[V.int (lawHN z),V.int (lawWN z)] from rfl,qL]
   walk_at "w"
   refine ⟨⟨by decide,by decide⟩,by decide,aq (by show (3:Nat)≤1000; decide),fun p hp=>?_⟩
   exact q p _ (s1.laid hp) (s1.free hp) ag
theorem fW {α β:Type} (f:α→β):∀ (l:List α) (j:Nat),(l.map f).eraseIdx j=(l.eraseIdx j).map f
 | [],_=>rfl
 | _::_,0=>rfl
 | x::r,j+1=>by
  show f x::(r.map f).eraseIdx j=f x::(r.eraseIdx j).map f
  rw [fW f r j]
theorem j5 {α:Type}:∀ (l:List α) (j:Nat) (h:j < l.length),(l[j]::l.eraseIdx j).Perm l
 | [],_,h=>absurd h (by simp)
 | x::r,0,_=>List.Perm.refl _
 | x::r,j+1,h=>by
  have hj:j < r.length:=by simpa using h
  have ih:=j5 r j hj
  show (r[j]::x::r.eraseIdx j).Perm (x::r)
  exact (List.Perm.swap x r[j] (r.eraseIdx j)).trans (List.Perm.cons x ih)
theorem iA {α β:Type} (f:α→β):∀ {l:List α},(l.map f).Nodup→l.Nodup
 | [],_=>List.nodup_nil
 | a::r,h=>by
  rw [List.map_cons,List.nodup_cons] at h
  rw [List.nodup_cons]
  exact ⟨fun z=>h.1 (List.mem_map.mpr ⟨a,z,rfl⟩),iA f h.2⟩
theorem qb (n:Int):(rngL 0 n).Nodup:=by
 unfold rngL
 have e:(List.range (n - 0).toNat).map (fun (k:Nat)=>0+(k:Int))=(List.range (n - 0).toNat).map fun (k:Nat)=>(k:Int):=List.map_congr_left fun k _=>by omega
 rw [e]
 exact oX List.nodup_range
theorem sy {n x:Int} (h:x∈rngL 0 n):0≤x∧x < n:=by
 unfold rngL at h
 obtain ⟨k,hk,rfl⟩:=List.mem_map.mp h
 have:=List.mem_range.mp hk
 omega
def bz (K:PySem.W.Frag):Sp:=fun vs H Q _=>∃ (a:Addr) (ns:List Int) (at_ many count:Int),vs=[.ref a,.int at_,.int many,.int count]∧SqL K H a (ns.map V.int)∧ns.length≤63∧0≤at_∧at_≤1000∧many≤16∧0≤count∧count≤many∧
 ∀ (l:Addr) (H':Hp) (cs:List Nat),Same H H'→H l=none→H' l=some (.lst ((cs.map fun (n:Nat)=>(n:Int)).map V.int))→cs.Nodup→(∀ c∈cs,(c:Int) < many)→(cs.length:Int)=count→Q (.ref l) H'
theorem kA {K:PySem.W.Frag} {vs:List V} {H:Hp} {Q:VK} {E:XK} (h:bz K vs H Q E):vs.length=4:=by
 obtain ⟨_,_,_,_,_,rfl,_⟩:=h; rfl
def cA (K:PySem.W.Frag):TS:=
 (tSeq (tAsg (eK (tCons (tVar 2) tNil)) (gName 4))
  (tSeq (tAsg (tLst tNil) (gName 5))
  (tSeq (tFor (iJ (tCons (tVar 3) tNil)) (gName 6)
  (tDrop (tBM K "list" cw (tVar 5) (tCons (tBM K "list" iw (tVar 4) (tCons (tOp cMod (tCall (aJ K) [] E0 (tCons (tVar 0) (tCons (tOp cAdd (tVar 1) (tVar 6)) tNil))) (tCB kLen (tCons (tVar 4) tNil))) tNil)) tNil))))
  (tRet (tVar 5)))))
theorem kB {K:PySem.W.Frag} {vs:List V} {H:Hp} {Q:VK} {E:XK} (h:bz K vs H Q E):cA K { nx:=fun _ H'=>Q .non H',rt:=Q } (start ["_law_script","_law_at","_law_many","_law_count","_law_left","_law_found","_law_k"] vs) H:=by
 obtain ⟨a,ns,at_,many,count,rfl,hS,hn,a0,a1,m1,c0,c1,q⟩:=h
 show cA K _ [some (.ref a),some (.int at_),some (.int many),some (.int count),none,none,none] H
 unfold cA
 walk_at "w"
 refine ⟨many,rfl,by omega,by omega,fun L hL=>?_⟩
 have s1:Same H (upd H L (.lst ((rngL 0 many).map V.int))):=(Same.refl H).laid hL
 have eL:(upd H L (.lst ((rngL 0 many).map V.int))) L=some (.lst ((rngL 0 many).map V.int)):=ag
 generalize upd H L (.lst ((rngL 0 many).map V.int))=H1 at*
 walk_at "w"
 refine ⟨aq (by decide),fun R hR=>?_⟩
 have nRL:R≠L:=fun e=>by rw [e,eL] at hR; cases hR
 refine ⟨count,rfl,by omega,by omega,?_⟩
 refine fO (fun i σ H'=>∃ (kv:Option V) (fs ls:List Int),σ=[some (.ref a),some (.int at_),some (.int many),some (.int count),some (.ref L),some (.ref R),kv]∧Same H H'∧H' L=some (.lst (ls.map V.int))∧H' R=some (.lst (fs.map V.int))∧(fs++ls).Perm (rngL 0 many)∧fs.length=i)
  ⟨none,[],rngL 0 many,rfl,s1.laid hR,by rw [ak nRL.symm]; exact eL,by rw [ag]; rfl,List.Perm.refl _,rfl⟩ ?_ ?_
 · rintro i σ H2 hi ⟨kv,fs,ls,rfl,s2,e1,e2,hp,hl⟩
   have hlen:=hp.length_eq
   rw [List.length_append,jn] at hlen
   walk_at "w"
   refine ⟨dg e2,dg e1,a,ns,_,rfl,s2.seq hS,hn,by omega,by omega,?_⟩
   walk_at "w"
   rw [dI e1,List.length_map]
   have hpos:0 < (ls.length:Int):=by omega
   have j0:=Int.emod_nonneg (dU ns (at_+(0+(i:Int)))) (Int.ne_of_gt hpos)
   have j1:=Int.emod_lt_of_pos (dU ns (at_+(0+(i:Int)))) hpos
   refine ⟨hpos,?_⟩
   generalize dU ns (at_+(0+(i:Int))) % (ls.length:Int)=j at*
   have hj:j.toNat < ls.length:=by omega
   refine om e1 j0 (by rw [List.length_map]; omega) (y:=V.int ls[j.toNat]) (by rw [List.getElem?_map,List.getElem?_eq_getElem hj]; rfl) ?_
   have e2':(upd H2 L (.lst ((ls.map V.int).eraseIdx j.toNat))) R=some (.lst (fs.map V.int)):=by rw [ak nRL]; exact e2
   walk_at "w"
   rw [jm e2']
   refine ⟨by rw [List.length_map]; exact be (by omega),_,fs++[ls[j.toNat]],ls.eraseIdx j.toNat,rfl,(s2.own hL).own (s1.free hR),?_,?_,?_,by simp [hl]⟩
   · rw [ak nRL.symm,ag,fW]
   · rw [ag]; simp
   · have p1:=j5 ls j.toNat hj
     have p2:=List.Perm.append_left fs p1
     refine List.Perm.trans ?_ hp
     rw [List.append_assoc]
     exact p2
 · rintro σ H2 ⟨kv,fs,ls,rfl,s2,e1,e2,hp,hl⟩
   walk_at "w"
   have hnd:(fs++ls).Nodup:=hp.nodup_iff.mpr (qb many)
   have hm:∀ x∈fs,0≤x∧x < many:=fun x hx=>sy (hp.mem_iff.mp (List.mem_append.mpr (.inl hx)))
   have ef:(fs.map Int.toNat).map (fun (n:Nat)=>(n:Int))=fs:=by
    rw [List.map_map]
    conv=>rhs; rw [← List.map_id fs]
    exact List.map_congr_left fun x hx=>by have:=hm x hx; show ((x.toNat:Nat):Int)=x; omega
   refine q R H2 (fs.map Int.toNat) s2 (s1.free hR) (by rw [ef]; exact e2) ?_ ?_ ?_
   · have h1:=(List.nodup_append.mp hnd).1
     rw [← ef] at h1
     exact iA _ h1
   · intro c hc
     obtain ⟨x,hx,rfl⟩:=List.mem_map.mp hc
     have:=hm x hx
     omega
   · rw [List.length_map,hl]; omega
end L2
namespace L2
open PySem PySem.Spec PyProof.Rows
end L2
namespace L2
open PySem PySem.Spec PyProof.Rows
section
variable {P:Program} {w:World} {K:PySem.W.Frag} {mg:Str→Option Value} {base:Heap} {k:Nat} {x qual y:Str} {st:Stmt} {f:Addr} {fd:FuncData} {sp:Sp}
theorem iU {a0:Str} (F:Fun K x qual st f fd) (h:∀ (kV doc pm:Value) (an:Option Addr) (cdv ct u0:Value),bindArgs (PySem.W.fnOf x qual (aT st) (aO st) (aj st) .none kV doc pm an cdv ct) ⟨[u0],[]⟩=pure (([a0]:List Str).zip [u0]):=by intros; rfl):Binds K fd [a0] []:=F.binds fun _ _ _ _ _ _ us hl=>match us,hl with | [u0],_=>h _ _ _ _ _ _ _
theorem kC {a0:Str} (T:FnOk P w K mg base CX0 k f fd [a0] sp) (F:Fun K x qual st f fd) (hm:mg y=some (.ref f)) (h:∀ (kV doc pm:Value) (an:Option Addr) (cdv ct u0:Value),bindArgs (PySem.W.fnOf x qual (aT st) (aO st) (aj st) .none kV doc pm an cdv ct) ⟨[u0],[]⟩=pure (([a0]:List Str).zip [u0]):=by intros; rfl):Cal P w K mg base k y [a0] sp:=⟨f,fd,T,hm,F.kp,iU F h⟩
theorem rz {a0 a1:Str} (F:Fun K x qual st f fd) (h:∀ (kV doc pm:Value) (an:Option Addr) (cdv ct u0 u1:Value),bindArgs (PySem.W.fnOf x qual (aT st) (aO st) (aj st) .none kV doc pm an cdv ct) ⟨[u0,u1],[]⟩=pure (([a0,a1]:List Str).zip [u0,u1]):=by intros; rfl):Binds K fd [a0,a1] []:=F.binds fun _ _ _ _ _ _ us hl=>match us,hl with | [u0,u1],_=>h _ _ _ _ _ _ _ _
theorem qU {a0 a1:Str} (T:FnOk P w K mg base CX0 k f fd [a0,a1] sp) (F:Fun K x qual st f fd) (hm:mg y=some (.ref f)) (h:∀ (kV doc pm:Value) (an:Option Addr) (cdv ct u0 u1:Value),bindArgs (PySem.W.fnOf x qual (aT st) (aO st) (aj st) .none kV doc pm an cdv ct) ⟨[u0,u1],[]⟩=pure (([a0,a1]:List Str).zip [u0,u1]):=by intros; rfl):Cal P w K mg base k y [a0,a1] sp:=⟨f,fd,T,hm,F.kp,rz F h⟩
theorem rA {a0 a1 a2:Str} (F:Fun K x qual st f fd) (h:∀ (kV doc pm:Value) (an:Option Addr) (cdv ct u0 u1 u2:Value),bindArgs (PySem.W.fnOf x qual (aT st) (aO st) (aj st) .none kV doc pm an cdv ct) ⟨[u0,u1,u2],[]⟩=pure (([a0,a1,a2]:List Str).zip [u0,u1,u2]):=by intros; rfl):Binds K fd [a0,a1,a2] []:=F.binds fun _ _ _ _ _ _ us hl=>match us,hl with | [u0,u1,u2],_=>h _ _ _ _ _ _ _ _ _
theorem ua {a0 a1 a2:Str} (T:FnOk P w K mg base CX0 k f fd [a0,a1,a2] sp) (F:Fun K x qual st f fd) (hm:mg y=some (.ref f)) (h:∀ (kV doc pm:Value) (an:Option Addr) (cdv ct u0 u1 u2:Value),bindArgs (PySem.W.fnOf x qual (aT st) (aO st) (aj st) .none kV doc pm an cdv ct) ⟨[u0,u1,u2],[]⟩=pure (([a0,a1,a2]:List Str).zip [u0,u1,u2]):=by intros; rfl):Cal P w K mg base k y [a0,a1,a2] sp:=⟨f,fd,T,hm,F.kp,rA F h⟩
theorem uL {a0 a1 a2 a3:Str} (F:Fun K x qual st f fd) (h:∀ (kV doc pm:Value) (an:Option Addr) (cdv ct u0 u1 u2 u3:Value),bindArgs (PySem.W.fnOf x qual (aT st) (aO st) (aj st) .none kV doc pm an cdv ct) ⟨[u0,u1,u2,u3],[]⟩=pure (([a0,a1,a2,a3]:List Str).zip [u0,u1,u2,u3]):=by intros; rfl):Binds K fd [a0,a1,a2,a3] []:=F.binds fun _ _ _ _ _ _ us hl=>match us,hl with | [u0,u1,u2,u3],_=>h _ _ _ _ _ _ _ _ _ _
theorem uT {a0 a1 a2 a3:Str} (T:FnOk P w K mg base CX0 k f fd [a0,a1,a2,a3] sp) (F:Fun K x qual st f fd) (hm:mg y=some (.ref f)) (h:∀ (kV doc pm:Value) (an:Option Addr) (cdv ct u0 u1 u2 u3:Value),bindArgs (PySem.W.fnOf x qual (aT st) (aO st) (aj st) .none kV doc pm an cdv ct) ⟨[u0,u1,u2,u3],[]⟩=pure (([a0,a1,a2,a3]:List Str).zip [u0,u1,u2,u3]):=by intros; rfl):Cal P w K mg base k y [a0,a1,a2,a3] sp:=⟨f,fd,T,hm,F.kp,uL F h⟩
theorem rB {a0 a1 a2 a3 a4:Str} (F:Fun K x qual st f fd) (h:∀ (kV doc pm:Value) (an:Option Addr) (cdv ct u0 u1 u2 u3 u4:Value),bindArgs (PySem.W.fnOf x qual (aT st) (aO st) (aj st) .none kV doc pm an cdv ct) ⟨[u0,u1,u2,u3,u4],[]⟩=pure (([a0,a1,a2,a3,a4]:List Str).zip [u0,u1,u2,u3,u4]):=by intros; rfl):Binds K fd [a0,a1,a2,a3,a4] []:=F.binds fun _ _ _ _ _ _ us hl=>match us,hl with | [u0,u1,u2,u3,u4],_=>h _ _ _ _ _ _ _ _ _ _ _
theorem uU {a0 a1 a2 a3 a4:Str} (T:FnOk P w K mg base CX0 k f fd [a0,a1,a2,a3,a4] sp) (F:Fun K x qual st f fd) (hm:mg y=some (.ref f)) (h:∀ (kV doc pm:Value) (an:Option Addr) (cdv ct u0 u1 u2 u3 u4:Value),bindArgs (PySem.W.fnOf x qual (aT st) (aO st) (aj st) .none kV doc pm an cdv ct) ⟨[u0,u1,u2,u3,u4],[]⟩=pure (([a0,a1,a2,a3,a4]:List Str).zip [u0,u1,u2,u3,u4]):=by intros; rfl):Cal P w K mg base k y [a0,a1,a2,a3,a4] sp:=⟨f,fd,T,hm,F.kp,rB F h⟩
theorem uM {a0 a1 a2 a3 a4 a5:Str} (F:Fun K x qual st f fd) (h:∀ (kV doc pm:Value) (an:Option Addr) (cdv ct u0 u1 u2 u3 u4 u5:Value),bindArgs (PySem.W.fnOf x qual (aT st) (aO st) (aj st) .none kV doc pm an cdv ct) ⟨[u0,u1,u2,u3,u4,u5],[]⟩=pure (([a0,a1,a2,a3,a4,a5]:List Str).zip [u0,u1,u2,u3,u4,u5]):=by intros; rfl):Binds K fd [a0,a1,a2,a3,a4,a5] []:=F.binds fun _ _ _ _ _ _ us hl=>match us,hl with | [u0,u1,u2,u3,u4,u5],_=>h _ _ _ _ _ _ _ _ _ _ _ _
end
end L2
namespace L2
open PySem PySem.Spec PyProof.Rows
section
variable {P:Program} {w:World} {K:PySem.W.Frag} {mg:Str→Option Value} {base:Heap} {k:Nat} {x qual y:Str} {st:Stmt} {f:Addr} {fd:FuncData} {sp:Sp}
theorem rC {a0 a1:Str} (T:FnOk P w K mg base (CX1 P w) k f fd [a0,a1] sp) (F:Fun K x qual st f fd) (hm:mg y=some (.ref f)) (h:∀ (kV doc pm:Value) (an:Option Addr) (cdv ct u0 u1:Value),bindArgs (PySem.W.fnOf x qual (aT st) (aO st) (aj st) .none kV doc pm an cdv ct) ⟨[u0,u1],[]⟩=pure (([a0,a1]:List Str).zip [u0,u1]):=by intros; rfl):ce P w K mg base k y [a0,a1] sp:=⟨f,fd,T,hm,F.kp,rz F h⟩
theorem oY {a0 a1 a2:Str} (T:FnOk P w K mg base (CX1 P w) k f fd [a0,a1,a2] sp) (F:Fun K x qual st f fd) (hm:mg y=some (.ref f)) (h:∀ (kV doc pm:Value) (an:Option Addr) (cdv ct u0 u1 u2:Value),bindArgs (PySem.W.fnOf x qual (aT st) (aO st) (aj st) .none kV doc pm an cdv ct) ⟨[u0,u1,u2],[]⟩=pure (([a0,a1,a2]:List Str).zip [u0,u1,u2]):=by intros; rfl):ce P w K mg base k y [a0,a1,a2] sp:=⟨f,fd,T,hm,F.kp,rA F h⟩
theorem uN {a0 a1 a2 a3 a4:Str} (T:FnOk P w K mg base (CX1 P w) k f fd [a0,a1,a2,a3,a4] sp) (F:Fun K x qual st f fd) (hm:mg y=some (.ref f)) (h:∀ (kV doc pm:Value) (an:Option Addr) (cdv ct u0 u1 u2 u3 u4:Value),bindArgs (PySem.W.fnOf x qual (aT st) (aO st) (aj st) .none kV doc pm an cdv ct) ⟨[u0,u1,u2,u3,u4],[]⟩=pure (([a0,a1,a2,a3,a4]:List Str).zip [u0,u1,u2,u3,u4]):=by intros; rfl):ce P w K mg base k y [a0,a1,a2,a3,a4] sp:=⟨f,fd,T,hm,F.kp,rB F h⟩
end
end L2
namespace L2
open PySem PySem.Spec PyProof.Rows
section
variable {ι:Type}
def ub (c:RCl ι) (okm:ι→Bool) (m:Str) (sp:ι→Sp) (E:XK) (ta:TE) (t:TA):TE:=fun σ H Q=>ta σ H fun x H1=>∃ a k dx fs,x=.ref a∧okm k=true∧H1 a=some (.ins (c.A k) dx fs)∧fs.lookup m=none∧
 t σ H1 fun vs H2=>sp k (x::vs) H2 Q E
end
section
variable {ι:Type} {c:RCl ι} {ta:TE} {t:TA} {m:Str} {σ:St} {H:Hp} {Q:VK} {okm:ι→Bool} {sp:ι→Sp} {sp1:Sp} {C:Addr} {E:XK}
theorem sB:ub c okm m sp E ta t σ H Q=ta σ H fun x H1=>∃ a k dx fs,x=.ref a∧okm k=true∧H1 a=some (.ins (c.A k) dx fs)∧fs.lookup m=none∧t σ H1 fun vs H2=>sp k (x::vs) H2 Q E:=rfl
theorem sC:tMake C sp1 [] E t σ H Q=t σ H fun vs H1=>∀ x dx,H1 x=none→H1 dx=none→dx≠x→sp1 (.ref x::(vs++[])) (upd (upd H1 dx (.own x)) x (.ins C dx [])) (fun v H2=>v=.non∧Q (.ref x) H2) E:=rfl
end
end L2
namespace L2
open PySem PySem.Spec PyProof.Rows
local macro_rules | `(tactic| walk_at "p")=>do
 let nm (s:Lean.Name):Lean.Ident:=Lean.mkIdent (Lean.Name.num (`_private.PySem.Builtin.Int.W0All) 0++s)
 `(tactic| unfold $(nm `PySem.Builtin.intFromText):ident $(nm `PySem.Builtin.readNumeral):ident)
local macro_rules | `(tactic| walk_at "b")=>do
 let nm (s:Lean.Name):Lean.Ident:=Lean.mkIdent (Lean.Name.num (`_private.PySem.Builtin.Int.W0All) 0++s)
 `(tactic| unfold $(nm `PySem.Builtin.isBlank):ident)
local macro_rules | `(tactic| walk_at "n")=>do
 let nm (s:Lean.Name):Lean.Ident:=Lean.mkIdent (Lean.Name.num (`_private.PySem.Builtin.Int.W0All) 0++s)
 `(tactic| unfold $(nm `PySem.Builtin.numeralDigits?):ident)
local macro_rules | `(tactic| walk_at "d")=>do
 let nm (s:Lean.Name):Lean.Ident:=Lean.mkIdent (Lean.Name.num (`_private.PySem.Builtin.Int.W0All) 0++s)
 `(tactic| unfold $(nm `PySem.Builtin.digitValue?):ident)
local macro_rules | `(tactic| walk_at "x")=>do
 let nm (s:Lean.Name):Lean.Ident:=Lean.mkIdent (Lean.Name.num (`_private.PySem.Builtin.Int.W0All) 0++s)
 `(tactic| unfold $(nm `PySem.Builtin.prefixBase?):ident)
def digW (c:Nat):Bool:=decide (48≤c)&&decide (c≤57)
theorem takeW {p:Nat→Bool}:∀ {w:List Nat},(∀ c∈w,p c=true)→w.takeWhile p=w
 | [],_=>rfl
 | c::r,h=>by rw [List.takeWhile_cons,if_pos (h c List.mem_cons_self),takeW fun x hx=>h x (List.mem_cons_of_mem _ hx)]
theorem dropW {p:Nat→Bool}:∀ {w:List Nat},(∀ c∈w,p c=false)→w.dropWhile p=w
 | [],_=>rfl
 | c::r,h=>by rw [List.dropWhile_cons,if_neg (by rw [h c List.mem_cons_self]; exact Bool.false_ne_true)]
theorem foldD {f:Array Nat × Bool→Nat→Option (Array Nat × Bool)}:∀ {w:List Nat} {a:Array Nat} {b:Bool},(∀ a b c,c∈w→f (a,b) c=some (a.push (c - 48),true))→w.foldlM f (a,b)=some (a++(w.map fun c=>c - 48).toArray,b||!w.isEmpty)
 | [],a,b,_=>by simp
 | c::r,a,b,h=>by
  rw [List.foldlM_cons,h a b c List.mem_cons_self]
  show r.foldlM f (a.push (c - 48),true)=_
  rw [foldD (a:=a.push (c - 48)) (b:=true) fun a b x hx=>h a b x (List.mem_cons_of_mem _ hx)]
  simp
set_option maxHeartbeats 4000000 in
theorem gisG (n:Nat) (w:List Nat) (hd:w.all digW=true) (h1:w≠[]) (h9:w.length≤9) (hz:w.head? ≠some 48) (hn:n=w.foldl (fun a c=>10*a+(c - 48)) 0) (u:Tok):Gives (Builtin.«int.__new__» ⟨[.type "int",.str (tx w) u],[]⟩) (.int n):=
 .of_wp fun M A E s Q h=>by
  have ha:((tx w).cps.all fun x=>decide (x < 128))=true:=by
   have hc:∀ c∈w,c < 128:=fun c hc=>by have:=List.all_eq_true.mp hd c hc; simp [digW] at this; omega
   simpa [tx] using hc
  obtain ⟨hp,g,d,tk,os⟩:=s
  have f1:=PySem.F.conv_sub_int
  have f2:=PySem.F.madeHere_int
  have f3:=j4
  have f4:=iy
  have f5:=iz
  iterate 44 (any_goals (first | assumption | wp_step))
  refine wpAny_bind (wpAny_of_eq (a:=some (tx w)) rfl ?_)
  refine wpAny_of_eq (a:=some w) ?e1 ?_
  case e1=>
   show (pure (some (if ((tx w).cps.all fun x=>decide (x < 128))=true then (tx w).cps.toList else _)):Sem _)=_
   rw [if_pos ha,dJ]
  refine lx (m':=mkInt (n:Int)) ?e2 ?_
  case e2=>
   clear h f1 f2 f3 f4 f5
   have hc:∀ c∈w,48≤c∧c≤57:=fun c hc=>by have:=List.all_eq_true.mp hd c hc; simpa [digW] using this
   show _=mkInt (n:Int)
   dsimp only
   walk_at "p"
   dsimp only
   rw [takeW (fun c hcc=>by have:=hc c hcc; simp; omega)]
   rw [if_pos (by omega)]
   rw [pure_bind]
   rw [dropW (fun c hcc=>by have:=hc c hcc; walk_at "b"; simp; omega)]
   obtain ⟨c0,r0,rfl⟩:∃ c0 r0,w=c0::r0:=by
    cases w with
    | nil=>exact absurd rfl h1
    | cons a b=>exact ⟨a,b,rfl⟩
   have hcs:c0=49∨c0=50∨c0=51∨c0=52∨c0=53∨c0=54∨c0=55∨c0=56∨c0=57:=by
    have h1:=hc c0 List.mem_cons_self
    have h2:c0≠48:=fun z=>hz (by rw [z]; rfl)
    omega
   have hsz:∀ x:Nat,decide ((#[]++(List.map (fun c=>c - 48) (x::r0)).toArray:Array Nat).size > 6000)=false:=fun x=>by
    rw [decide_eq_false_iff_not]
    simp
    simp at h9
    omega
   have hfo:∀ x:Nat,n=List.foldl (fun a c=>10*a+(c - 48)) 0 (x::r0)→Array.foldl (fun acc d=>acc*10+d) 0 (#[]++(List.map (fun c=>c - 48) (x::r0)).toArray:Array Nat)=n:=fun x hx=>by
    rw [hx]
    have e:∀ (l:List Nat) (a:Nat),List.foldl (fun acc d=>acc*10+d) a (l.map fun c=>c - 48)=List.foldl (fun a c=>10*a+(c - 48)) a l:=fun l=>by
     induction l with
     | nil=>intro a; rfl
     | cons y r ih=>intro a; rw [List.map_cons,List.foldl_cons,List.foldl_cons,ih,Nat.mul_comm a 10]
    rw [← e (x::r0) 0]
    simp
   clear hz ha h1 hd
   rcases hcs with rfl | rfl | rfl | rfl | rfl | rfl | rfl | rfl | rfl
   all_goals
    simp only
    walk_at "x"
    simp only [show ((10:Nat)==0)=false from rfl,Bool.false_eq_true,if_false]
    rw [dropW (fun c hcc=>by have:=hc c (List.mem_reverse.mp hcc); walk_at "b"; simp; omega),List.reverse_reverse]
    walk_at "n"
    rw [foldD (fun a b c hcc=>by
     have hh:=hc c hcc
     walk_at "d"
     have e1:(c==95)=false:=by simp; omega
     have e2:(decide (48≤c)&&decide (c≤57))=true:=by simp; omega
     simp only [e1,e2,Bool.false_eq_true,if_false,if_true]
     rw [if_pos (by omega)])]
    simp only [Option.bind_eq_bind,Option.bind_some,List.isEmpty_cons,Bool.not_false,Bool.or_true,if_true,show ((0:Nat) != 0)=false from rfl,Bool.and_false,Bool.false_and,Bool.false_eq_true,if_false,hsz]
    rw [hfo _ hn,if_pos (by simp)]
  repeat (any_goals (first | assumption | wp_step))
  all_goals first | exact ⟨_,rfl,h⟩ | skip
def IntG (w:List Nat) (n:Nat):Prop:=w.all digW=true∧w≠[]∧w.length≤9∧(w.head? =some 48→w=[48])∧n=w.foldl (fun a c=>10*a+(c - 48)) 0
def oZ:List V→Hp→VK→Prop
 | [.int i],H,Q=>Q (.int i) H
 | [.bl k],H,Q=>Q (.int (if k then 1 else 0)) H
 | [.str z],H,Q=>∃ (n:Nat) (w:List Nat),IntG w n∧z=tx w∧Q (.int n) H
 | _,_,_=>False
theorem o0 {X:Cx}:CallR X (.type "int") oZ:=by
 intro pins s σ H xs us Q I r h
 unfold oZ at h
 split at h
 · exact kY pins s σ H _ us Q I r (.inl ⟨_,rfl,h⟩)
 · exact kY pins s σ H _ us Q I r (.inr ⟨_,rfl,h⟩)
 · obtain ⟨n,w,⟨h1,h2,h3,h4,h5⟩,rfl,q⟩:=h
   obtain ⟨u,rfl,ru⟩:=cg r
   obtain ⟨t,rfl⟩:=ru
   by_cases hz:w.head? =some 48
   · have e:=h4 hz
     subst e
     have e5:n=0:=h5
     subst e5
     exact call_int_1 (gis 0 (by decide) t).meets (show (Made.int ((0:Nat):Int)).post _ s from ⟨rfl,⟨.int ((0:Nat):Int),H,I.tok _,⟨_,rfl⟩,q⟩⟩)
   · exact call_int_1 (gisG n w h1 h2 h3 hz h5 t).meets (show (Made.int (n:Int)).post _ s from ⟨rfl,⟨.int n,H,I.tok _,⟨_,rfl⟩,q⟩⟩)
 · exact h.elim
end L2
namespace L2
open PySem PySem.Spec PyProof.Rows
end L2
namespace L2
open PySem PySem.Spec PyProof.Rows
section
variable {X:Cx}
def iV:V→List V→Hp→VK→Prop
 | .ref l,[.int i,y],H,Q=>bnd (unM (H l)) fun xs=>0≤i∧i≤xs.length∧xs.length+1≤sizeLine∧Q .non (upd H l (.lst (xs.take i.toNat++y::xs.drop i.toNat)))
 | _,_,_,_=>False
theorem nh:∀ {xs:List V} {its:List Value} (k:Nat) {y:V} {v:Value},Vals xs its→RelV y v→Vals (xs.take k++y::xs.drop k) (its.take k++v::its.drop k)
 | _,_,0,_,_,r,ry=>.cons ry r
 | [],_,k+1,_,_,.nil,ry=>.cons ry .nil
 | x::xs,_,k+1,_,_,.cons r rs,ry=>.cons r (nh k rs ry)
theorem o4:MtR X "list.insert" iV:=by
 intro pins s σ H x vs v us Q I rx rv h
 unfold iV at h
 split at h
 · rename_i l i y
   obtain ⟨xs,e,h0,h1,h2,q⟩:=aR h
   cases rx
   obtain ⟨u,w',rfl,ru,ry⟩:=iL rv
   obtain ⟨t,rfl⟩:=ru
   have hH:=fq e
   obtain ⟨z,its,n,r,hl,e⟩:=I.lstM hH
   have hs:(sizeLine:Int) < 2^63:=by decide
   have hf:Builtin.List.listFitsIndex i=true:=by
    unfold Builtin.List.listFitsIndex
    simp
    omega
   refine call_meets PySem.F.slot_list_insert ⟨_,e,rfl⟩ PySem.F.entry_list_insert (PySem.F.args_list_insert_3 _ _ _) (PySem.AutoSeq1.list_insert_list_int_val_1 l its.toArray n i t w' (by simp [hf]) (by rw [List.size_toArray]; omega)) ⟨e,?_⟩
   refine ⟨.non,_,I.lset (its':=its.take i.toNat++w'::its.drop i.toNat) hH e ?_ (nh _ r ry) ?_,rfl,q⟩
   · show (its.toArray.extract 0 (if i < 0 then (i+(its.toArray.size:Int)).toNat else min i.toNat its.toArray.size)).push w'++its.toArray.extract (if i < 0 then (i+(its.toArray.size:Int)).toNat else min i.toNat its.toArray.size)=_
     rw [PySem.W.kl_ins_eq,List.size_toArray,if_neg (by omega),Nat.min_eq_left (by omega)]
   · rw [List.length_append,List.length_cons,List.length_take,List.length_drop]
     omega
 · exact h.elim
def kSIdx:V→List V→Hp→VK→Prop
 | .str x,[.str y],H,Q=>∃ (i:Nat) (rest:List Nat),Builtin.Str.occurrences x y 0 x.length 1=i::rest∧Q (.int i) H
 | _,_,_,_=>False
theorem qV:MtR X "str.index" kSIdx:=by
 intro pins s σ H x vs v us Q I rx rv h
 unfold kSIdx at h
 split at h
 · obtain ⟨t,rfl⟩:=rx
   obtain ⟨u,rfl,ru⟩:=cg rv
   obtain ⟨t2,rfl⟩:=ru
   obtain ⟨i,rest,ho,q⟩:=h
   exact SC.index ho ⟨.int _,H,I.tok _,⟨_,rfl⟩,q⟩
 · exact h.elim
def upC (c:Nat):Nat:=if 97≤c∧c≤122 then c - 32 else c
theorem sD:((List.range 128).all fun c=>decide (Unicode.upperOf c=[upC c]))=true:=by decide+kernel
theorem uc {c:Nat} (h:c < 128):upC c < 128:=by unfold upC; split <;> omega
def j6:V→List V→Hp→VK→Prop
 | .str x,[],H,Q=>∃ l:List Nat,x=tx l∧l.length≤1000∧(∀ c∈l,c < 128)∧Q (.str (tx (l.map upC))) H
 | _,_,_,_=>False
theorem oq:∀ {l:List Nat},(∀ c∈l,c < 128)→(l.map fun c=>Unicode.upperOf c).flatten=l.map upC
 | [],_=>rfl
 | c::r,h=>by
  have e:=of_decide_eq_true (List.all_eq_true.mp sD c (List.mem_range.mpr (h c List.mem_cons_self)))
  rw [List.map_cons,List.flatten_cons,e,oq fun x hx=>h x (List.mem_cons_of_mem _ hx)]
  rfl
theorem rD {l:List Nat} (h:∀ c∈l,c < 128):Txt.upper (tx l)=tx (l.map upC):=by
 refine Str.ext' ?_
 show placed (tx l) (fun _ c=>Unicode.upperOf c)=(l.map upC).toArray
 rw [← oq h]
 apply Array.toList_inj.mp
 unfold placed tx
 simp
 congr 1
 refine List.ext_getElem? fun i=>?_
 rw [List.getElem?_map,List.getElem?_mapIdx,List.getElem?_map]
 cases l[i]? <;> rfl
theorem qc:MtR X "str.upper" j6:=by
 intro pins s σ H x vs v us Q I rx rv h
 unfold j6 at h
 split at h
 · obtain ⟨t,rfl⟩:=rx
   cases rv
   obtain ⟨l,rfl,hl,ha,q⟩:=h
   refine SC.upper ?_ ?_
   · rw [rD ha,aD,List.length_map]
     show decide (_ > sizeLine)=false
     have hs:1000≤sizeLine:=by decide
     exact decide_eq_false (by omega)
   · rw [rD ha]
     exact ⟨.str _,H,I.tok _,⟨_,rfl⟩,q⟩
 · exact h.elim
theorem sF {l:List Nat} {H:Hp} {Q:VK} (h1:l.length≤1000) (h2:∀ c∈l,c < 128) (q:Q (.str (tx (l.map upC))) H):j6 (.str (tx l)) [] H Q:=⟨l,rfl,h1,h2,q⟩
end
def kIsXT (K:PySem.W.Frag):List V→Hp→VK→Prop:=fun vs H Q=>∃ (a C t:Addr) (cs:List Addr),vs=[.ref a,.ref t]∧H a=some (.ext (XO a C))∧XIs K C∧H t=some (.tup (cs.map V.ref))∧(∀ y∈cs,PySem.W.kitOne K (.ref C) (.ref y)=some false)∧Q (.bl false) H
theorem lz {K:PySem.W.Frag} {C:Addr}:∀ {cs:List Addr} {its:List Value},(∀ y∈cs,PySem.W.kitOne K (.ref C) (.ref y)=some false)→Vals (cs.map V.ref) its→PySem.W.kitAny K (.ref C) its=some false
 | [],_,_,.nil=>rfl
 | y::cs,_,h,.cons r rs=>by
  cases r
  unfold PySem.W.kitAny
  rw [h y List.mem_cons_self]
  exact lz (fun z hz=>h z (List.mem_cons_of_mem _ hz)) rs
theorem j7 {X:Cx}:CallR X (.builtin "isinstance") (kIsXT X.K):=by
 intro pins s σ H xs us Q I r h
 obtain ⟨a,C,t,cs,rfl,hH,Z,ht,hk,q⟩:=h
 obtain ⟨u,w',rfl,ru,rw'⟩:=iL r
 cases ru
 cases rw'
 obtain ⟨p,_⟩:=I.hok a _ hH
 obtain ⟨its,rv,⟨⟨c0,dd,da,sl⟩,ho,hc,n,hd⟩,hz⟩:=I.tuple (SqT.of ht)
 dsimp only at hc hd
 subst hc
 subst hd
 exact PySem.W.kia_tup (m3 Z) I.kIn p ho (lz hk rv) (fun z=>nomatch z) fun tk=>⟨.bl false,H,I.tok tk,rfl,q⟩
theorem qd {K:PySem.W.Frag} {x C t:Addr} {cs:List Addr} {H:Hp} {Q:VK} (Z:XIs K C) (hx:H x=some (.ext (XO x C))) (ht:H t=some (.tup (cs.map V.ref))) (hk:∀ y∈cs,PySem.W.kitOne K (.ref C) (.ref y)=some false) (h:Q (.bl false) H):kIsXT K [.ref x,.ref t] H Q:=⟨x,C,t,cs,rfl,hx,Z,ht,hk,h⟩
structure IsP (K:PySem.W.Frag) (A D:Addr):Prop where
 hg:PySem.W.plainGet K A "__class__"=true
 hd:PySem.W.hasDictIn K A=true
 ha:PySem.W.findIn K (.ref A) "__class__"=some (some (.builtin "object.__class__"))
 hn:PySem.W.specialIn K (.builtin "object.__class__") "__get__"=some (some (.builtin "getset_descriptor.__get__"))
 ht:PySem.W.takesIn K (.builtin "object.__class__")=some true
 hm:PySem.W.mroIn K A (.type "object")=some true
 k1:PySem.W.kitOne K (.ref A) (.ref D)=some true
structure GIsP (K:PySem.W.Frag) (mg:Str→Option Value) (x:Str) (c:RCl RK):Prop where
 at_:mg x=some (.ref (c.A .Rule))
 is_:∀ k,c.ok k=true→IsP K (c.A k) (c.A .Rule)
def kIsP (c:RCl RK):List V→Hp→VK→Prop:=fun vs H Q=>∃ a k dx fs,vs=[.ref a,.ref (c.A .Rule)]∧c.ok k=true∧H a=some (.ins (c.A k) dx fs)∧Q (.bl true) H
theorem qe {X:Cx} {c:RCl RK} (Z:∀ k,c.ok k=true→IsP X.K (c.A k) (c.A .Rule)):CallR X (.builtin "isinstance") (kIsP c):=by
 intro pins s σ H xs us Q I r h
 obtain ⟨a,k,dx,fs,rfl,hk,hH,q⟩:=h
 obtain ⟨u,w',rfl,ru,rw'⟩:=iL r
 cases ru
 cases rw'
 obtain ⟨mA,O,_⟩:=gj I.hok hH
 obtain ⟨od,J,_⟩:=O.look
 have z:=Z k hk
 exact PySem.W.kia_one (PySem.W.kitx_own z.hg z.hd z.ha z.hn z.ht z.hm) I.kIn J z.k1 (fun z=>nomatch z) fun tk=>⟨.bl true,H,I.tok tk,rfl,q⟩
end L2
namespace L2
open PySem PySem.Spec PyProof.Rows
section
variable {X:Cx} {a:Expr} {ta:TE} {pos p:Pos} {x:Str} {ws:List Str}
theorem qf (G:GTup X.K X.mg x ws) (ha:PE X a ta) (hg:Gl X x) (hdb:(x==("__debug__":Str))=false:=by decide) (hm:behindInMarks .In (.Name x p)=false:=by with_unfolding_all rfl):PT X (.Compare a [.In] [.Name x p] pos) (tB (tInG ws false ta)):=by
 obtain ⟨q,o,its,n,h1,h2⟩:=G.ex
 have h0:=al (pos:=pos) (t4 ⟨o,its,n,h2⟩) ha (aZ (v:=V.ref q) hg h1 rfl hdb) hm
 intro pins s σ H Q I h
 refine h0 pins s σ H Q I ?_
 have e:(fun (x:V) (H1:Hp)=>∃ z,x=.str z∧∃ k,V.bl (if false=true then !decide (z∈ws) else decide (z∈ws))=.bl k∧Q k H1)=fun x H1=>∃ z,x=.str z∧(V.ref q=V.ref q)∧∃ k,V.bl (decide (z∈ws))=.bl k∧Q k H1:=by
  funext x H1; simp
 have h':ta σ H (fun (x:V) (H1:Hp)=>∃ z,x=.str z∧∃ k,V.bl (if false=true then !decide (z∈ws) else decide (z∈ws))=.bl k∧Q k H1):=h
 rw [e] at h'
 exact h'
theorem sG (G:GTup X.K X.mg x ws) (ha:PE X a ta) (hg:Gl X x) (hdb:(x==("__debug__":Str))=false:=by decide) (hm:behindInMarks .NotIn (.Name x p)=false:=by with_unfolding_all rfl):PT X (.Compare a [.NotIn] [.Name x p] pos) (tB (tInG ws true ta)):=by
 obtain ⟨q,o,its,n,h1,h2⟩:=G.ex
 have h0:=al (pos:=pos) (so ⟨o,its,n,h2⟩) ha (aZ (v:=V.ref q) hg h1 rfl hdb) hm
 intro pins s σ H Q I h
 refine h0 pins s σ H Q I ?_
 have e:(fun (x:V) (H1:Hp)=>∃ z,x=.str z∧∃ k,V.bl (if true=true then !decide (z∈ws) else decide (z∈ws))=.bl k∧Q k H1)=fun x H1=>∃ z,x=.str z∧(V.ref q=V.ref q)∧∃ k,V.bl (!decide (z∈ws))=.bl k∧Q k H1:=by
  funext x H1; simp
 have h':ta σ H (fun (x:V) (H1:Hp)=>∃ z,x=.str z∧∃ k,V.bl (if true=true then !decide (z∈ws) else decide (z∈ws))=.bl k∧Q k H1):=h
 rw [e] at h'
 exact h'
end
end L2
namespace L2
open PySem PySem.Spec PyProof.Rows
end L2
namespace L2
open PySem PySem.Spec PyProof.Rows
end L2
namespace L2
open PySem PySem.Spec PyProof.Rows
section
variable {X:Cx}
def maxI (ns:List Int):Int:=ns.getD (argBest (fun i j=>decide (ns.getD i 0 > ns.getD j 0)) (ns.length - 1)) 0
def l9:List V→Hp→VK→Prop
 | [.ref p],H,Q=>bnd (unL (H p)) fun ys=>∃ ns:List Int,ys=ns.map V.int∧0 < ns.length∧Q (.int (maxI ns)) H
 | _,_,_=>False
theorem o5 (hc:X.calm=true):CallR X (.builtin "max") l9:=by
 intro pins s σ H xs us Q I r h
 unfold l9 at h
 split at h
 · rename_i p
   obtain ⟨ys,e,ns,rfl,hne,q⟩:=aR h
   obtain ⟨u,rfl,ru⟩:=cg r
   cases ru
   obtain ⟨its,rv,pl,hz⟩:=I.list (mv e)
   have hl:=rv.length
   rw [List.length_map] at hl
   have hlt:p < s.heap.objs.size:=by
    obtain ⟨o,h1,_⟩:=pl.isList
    exact Heap.lt_size h1
   have hval:∀ (i:Nat) (v:Value),its.toArray[i]? =some v→∃ t,v=.int (ns.getD i 0) t:=fun i v hP=>by
    have hv:its[i]? =some v:=by simpa using hP
    obtain ⟨x,hx,rx⟩:=rv.get' hv
    obtain ⟨b,hb,rfl⟩:∃ b,ns[i]? =some b∧V.int b=x:=by simpa using hx
    obtain ⟨t,rfl⟩:=rx
    exact ⟨t,by simp [List.getD,hb]⟩
   have e2:its.toArray.size=ns.length:=by rw [List.size_toArray]; exact hl.symm
   refine call_max_walkS (wpAny_pyIter_list pl.isList ?_)
   refine ⟨s.heap.objs.size,_,_,_,its.toArray.size,_,_,fun i j=>decide (ns.getD i 0 > ns.getD j 0),rfl,(Walks.list (A:=X.A.in1) (I.ok.hd hc) s.heap.objs.size p (Nat.ne_of_lt hlt) its.toArray).toS,⟨⟨_,Heap.get?_push_size _ rfl,rfl,rfl⟩,pl.isList.push _⟩,?_,by omega,CmpOf.ints_gt (fun i=>ns.getD i 0) hval,fun v s' hP hm=>?_⟩
   · intro b hb
     show b < (s.heap.push _).objs.size
     rw [Heap.size_push]
     rcases List.mem_cons.mp hb with rfl | hb
     · exact Nat.lt_succ_self _
     · rcases List.mem_cons.mp hb with rfl | hb
       · exact Nat.lt_succ_of_lt hlt
       · cases hb
   · obtain ⟨t,rfl⟩:=hval _ v hP
     refine ⟨.int _,H,I.walked (l:=p) hm,⟨t,rfl⟩,?_⟩
     rw [e2]
     exact q
 · exact h.elim
end
section
variable {H:Hp} {Q:VK}
theorem ud {p:Addr} {ns:List Int} (hp:H p=some (.lst (ns.map V.int))) (hn:0 < ns.length) (h:Q (.int (maxI ns)) H):l9 [.ref p] H Q:=by
 show bnd (unL (H p)) _
 rw [hp]
 exact bu (a:=ns.map V.int) rfl ⟨ns,rfl,hn,h⟩
end
end L2
namespace L2
open PySem PySem.Spec PyProof.Rows
local macro_rules | `(tactic| walk_at "w")=>`(tactic| (first | simp only [aB,sC,sB,rn,m4,p8,on,oo,ro,rj,pX,rm,if_true,if_false,Bool.false_eq_true,decide_true,decide_false,oa,og,rl,mR,ll,n6,pV,n9,mI,pT,pU,mH,ri,mS,mT,mV,mW,mX,mY,mU,pZ,p0,p5,pQ,rk,Bool.not_true,Bool.not_false,g8,fQ,bF,g9,hG,w_c,jl,jF,hJ,hU,hV,w_b,w_not,jG,my,hX,hZ,jH,jI,ia,mz,ib,jJ,jK,mB,jL,ic,ie,ig,ii,gn,gp,gq,fu,fv,eJ,jM,jN,jO,jP,jQ,jR,jS,jT,jU,jV,jW,jX,mF,ik,fz,il,mG,im,gs,fA,jY,jZ,io,gt,ip,
 List.getElem?_cons_zero,List.getElem?_cons_succ,Option.some.injEq,exists_eq_left',exists_eq_left,List.set_cons_zero,List.set_cons_succ,ee,V.int.injEq,V.bl.injEq,V.ref.injEq,V.str.injEq,List.nil_append,List.cons_append] | dsimp only | skip))
def di (a:EA):List Addr:=[a.BadThought,a.NoFilling,a.NoMove,a.NoName,a.NoRow,a.NoText,a.NotOne,a.TooMany,a.NoFloor,a.NoPuzzle]
def digB (c:Nat):Bool:=decide (48≤c)&&decide (c≤57)
def badH (w:List Nat):Bool:=decide (w=[])||decide (9 < w.length)||(decide (w.head? =some 48)&&!decide (w=[48]))
def numW (w:List Nat):Option Nat:=if badH w=true then none else if w.all digB=true then some (w.foldl (fun a c=>10*a+(c - 48)) 0) else none
def nV:Option Nat→V
 | none=>.non
 | some n=>.int n
structure WdOk (w:List Nat):Prop where
 len:w.length≤400
 asc:∀ c∈w,c < 128
theorem numG {w:List Nat} {n:Nat} (h:numW w=some n):IntG w n:=by
 unfold numW at h
 cases hb:badH w with
 | true=>rw [if_pos hb] at h; cases h
 | false=>
  rw [if_neg (by rw [hb]; exact Bool.false_ne_true)] at h
  cases hd:w.all digB with
  | false=>rw [hd,if_neg Bool.false_ne_true] at h; cases h
  | true=>
   rw [hd,if_pos rfl] at h
   cases h
   unfold badH at hb
   simp at hb
   exact ⟨hd,hb.1.1,by omega,hb.2,rfl⟩
def bA (K:PySem.W.Frag):Sp:=fun vs H Q _=>∃ w:List Nat,vs=[.str (tx w)]∧WdOk w∧∀ H',Same H H'→Q (nV (numW w)) H'
theorem kD {K:PySem.W.Frag} {vs:List V} {H:Hp} {Q:VK} {E:XK} (h:bA K vs H Q E):vs.length=1:=by
 obtain ⟨_,rfl,_⟩:=h; rfl
def cI (K:PySem.W.Frag):TS:=
 (tSeq (tIfS (tNot (tB (tCB kAll (tCons (tComp [none,none] (iStr (tVar 0)) (gName 1) tTrue (tOp (cIn K false) (tVar 1) (tC (.str (tx [48,49,50,51,52,53,54,55,56,57]))))) tNil)))) (tRet (tC .non)) tNext)
  (tRet (tCB oZ (tCons (tVar 0) tNil))))
def cB (K:PySem.W.Frag):TS:=
 (tSeq (tIfS (tOr (tTest (tOp (cEq K) (tVar 0) (tC (.str (tx []))))) (tOr (tTest (tOp (cCmp fun i j=>decide (j < i)) (tCB kLen (tCons (tVar 0) tNil)) (tC (.int 9)))) (tAnd (tTest (tOp (cEq K) (tOp cIx (tVar 0) (tC (.int 0))) (tC (.str (tx [48]))))) (tTest (tOp (cNe K) (tVar 0) (tC (.str (tx [48])))))))) (tRet (tC .non)) tNext)
  (cI K))
theorem or {c:Nat} (h:c < 128):(!(Builtin.Str.occurrences (tx [48,49,50,51,52,53,54,55,56,57]) (tx [c]) 0 (tx [48,49,50,51,52,53,54,55,56,57]).length 1).isEmpty)=digB c:=by
 have t:((List.range 128).all fun c=>decide ((!(Builtin.Str.occurrences (tx [48,49,50,51,52,53,54,55,56,57]) (tx [c]) 0 (tx [48,49,50,51,52,53,54,55,56,57]).length 1).isEmpty)=digB c))=true:=by decide+kernel
 exact of_decide_eq_true (List.all_eq_true.mp t c (List.mem_range.mpr h))
theorem eY {K:PySem.W.Frag} {H:Hp} {Q:VK} {w:List Nat} (W:WdOk w) (hb:badH w=false) (q:∀ H',Same H H'→Q (nV (numW w)) H'):cI K { nx:=fun _ H'=>Q .non H',rt:=Q } [some (.str (tx w))] H:=by
 have hw:=W.asc
 have hl:=W.len
 unfold cI
 rw [aB,aE]
 walk_at "w"
 refine lj (cs:=w) (fun _=>true) (fun i=>.bl (digB (w.getD i 0))) (by omega) ?_ ?_ ?_
 · intro i c H1 R hc s1 k1
   exact k1 _ (Same.refl _)
 · intro i c H1 Q1 hc hb s1 k1
   show tOp (cIn K false) _ _ [none,some (.str (tx [c]))] H1 Q1
   walk_at "w"
   have q1:=k1 _ (Same.refl H1)
   show Q1 (.bl (if false=true then _ else !(Builtin.Str.occurrences (tx [48,49,50,51,52,53,54,55,56,57]) (tx [c]) 0 (tx [48,49,50,51,52,53,54,55,56,57]).length 1).isEmpty)) H1
   rw [if_neg Bool.false_ne_true,or (hw c (List.mem_of_getElem? hc))]
   have eg:w.getD i 0=c:=by rw [List.getD,hc]; rfl
   rw [eg] at q1
   exact q1
 · intro l H1 hl1 s1 el
   have eb:((List.range w.length).filter fun _=>true).map (fun i=>V.bl (digB (w.getD i 0)))=(w.map digB).map V.bl:=by
    rw [iq]
    refine List.ext_getElem? fun i=>?_
    rw [List.getElem?_map,List.getElem?_map,List.getElem?_map]
    by_cases h:i < w.length
    · rw [List.getElem?_range h,List.getElem?_eq_getElem h]
      simp [List.getD,h]
    · rw [List.getElem?_eq_none (by simpa using h),List.getElem?_eq_none (by omega)]; rfl
   rw [eb] at el
   refine uG el ?_
   have ea:(w.map digB).all id=w.all digB:=by rw [List.all_map]; rfl
   rw [ea]
   have q1:=q _ s1
   unfold numW at q1
   rw [hb,if_neg Bool.false_ne_true] at q1
   cases hd:w.all digB with
   | false=>
    rw [hd,if_neg Bool.false_ne_true] at q1
    walk_at "w"
    exact q1
   | true=>
    rw [hd,if_pos rfl] at q1
    walk_at "w"
    refine ⟨_,w,numG ?_,rfl,q1⟩
    unfold numW
    rw [hb,if_neg Bool.false_ne_true,hd,if_pos rfl]
theorem kE {K:PySem.W.Frag} {vs:List V} {H:Hp} {Q:VK} {E:XK} (h:bA K vs H Q E):cB K { nx:=fun _ H'=>Q .non H',rt:=Q } (start ["word"] vs) H:=by
 obtain ⟨w,rfl,W,q⟩:=h
 have hl:=W.len
 have qn:badH w=true→Q .non H:=fun hb=>by
  have q1:=q _ (Same.refl H)
  unfold numW at q1
  rw [if_pos hb] at q1
  exact q1
 show cB K _ [some (.str (tx w))] H
 unfold cB
 rw [aB,aE]
 walk_at "w"
 rw [fB]
 by_cases h0:w=[]
 · rw [decide_eq_true h0]
   exact iteT (qn (by rw [h0]; rfl))
 rw [decide_eq_false h0]
 refine iteF ⟨by rw [aD]; exact aq (by omega),?_⟩
 walk_at "w"
 rw [aD]
 by_cases h9:9 < w.length
 · rw [decide_eq_true (show (9:Int) < ((w.length:Nat):Int) by omega)]
   exact iteT (qn (by unfold badH; rw [decide_eq_true h9]; simp))
 rw [decide_eq_false (show ¬ (9:Int) < ((w.length:Nat):Int) by omega)]
 refine iteF ?_
 rw [oV,aD,dJ]
 obtain ⟨c,r,ec⟩:∃ c r,w=c::r:=by
  cases e:w with
  | nil=>exact absurd e h0
  | cons c r=>exact ⟨c,r,rfl⟩
 refine ⟨aq (by omega),bu (a:=c) (by rw [ec]; exact aN (j:=0) rfl) ?_⟩
 walk_at "w"
 have e1:decide ((⟨#[c]⟩:Str)=tx [48])=decide (c=48):=by
  have:(⟨#[c]⟩:Str)=tx [c]:=rfl
  rw [this,fB]
  simp
 rw [e1,fB]
 have eh:badH w=(decide (c=48)&&!decide (w=[48])):=by
  unfold badH
  rw [decide_eq_false h0,decide_eq_false h9,ec]
  simp
 cases hc:decide (c=48) with
 | false=>
  refine iteF ?_
  exact eY W (by rw [eh,hc]; rfl) q
 | true=>
  refine iteT ?_
  cases hw:decide (w=[48]) with
  | false=>exact iteT (qn (by rw [eh,hc,hw]; rfl))
  | true=>exact iteF (eY W (by rw [eh,hc,hw]; rfl) q)
def inW (o:Option Nat) (lo hi:Int):Bool:=match o with
 | none=>false
 | some n=>decide (lo≤n)&&decide ((n:Int)≤hi)
abbrev RE (K:PySem.W.Frag) (H:Hp) (E:XK):Prop:=∀ C,Glb K "NoRule" C→∀ H',Same H H'→E (.ref C) none H'
def aM (K:PySem.W.Frag):Sp:=fun vs H Q E=>∃ (w:List Nat) (lo hi:Int),vs=[.str (tx w),.int lo,.int hi]∧WdOk w∧(∀ n,numW w=some n→inW (some n) lo hi=true→∀ H',Same H H'→Q (.int n) H')∧(inW (numW w) lo hi=false→RE K H E)
theorem iB {K:PySem.W.Frag} {vs:List V} {H:Hp} {Q:VK} {E:XK} (h:aM K vs H Q E):vs.length=3:=by
 obtain ⟨_,_,_,rfl,_⟩:=h; rfl
def bJ (K:PySem.W.Frag) (a:EA) (E:XK):TS:=
 (tSeq (tAsg (tCall (bA K) [] E0 (tCons (tVar 0) tNil)) (gName 3))
  (tSeq (tIfS (tOr (tTest (tOp rIsN (tVar 3) (tC .non))) (tOr (tTest (tOp (cCmp fun i j=>decide (i < j)) (tVar 3) (tVar 1))) (tTest (tOp (cCmp fun i j=>decide (j < i)) (tVar 3) (tVar 2))))) (dM E a.NoRule (tCons (tC (.str (tx [97,32,110,117,109,98,101,114,32,111,102,32,116,104,101,32,114,117,108,101,32,105,115,32,110,111,110,101,44,32,111,114,32,98,101,121,111,110,100,32,105,116,115,32,98,111,117,110,100,115]))) tNil)) tNext)
  (tRet (tVar 3))))
section
variable {K:PySem.W.Frag} {a:EA} {vs:List V} {H:Hp} {Q:VK} {E:XK} (RR:ei K a "NoRule" a.NoRule (di a))
include RR
theorem iC (h:aM K vs H Q E):bJ K a E { nx:=fun _ H'=>Q .non H',rt:=Q } (start ["word","least","most","number"] vs) H:=by
 obtain ⟨w,lo,hi,rfl,W,q1,q2⟩:=h
 show bJ K a E _ [some (.str (tx w)),some (.int lo),some (.int hi),none] H
 unfold bJ
 walk_at "w"
 refine ⟨w,rfl,W,fun H1 s1=>?_⟩
 have fail:inW (numW w) lo hi=false→∀ (vs:List V),vs.length=1→vs.length≤sizeLine∧E (.ref a.NoRule) none H1:=fun hb vs hv=>⟨aq (by omega),q2 hb _ RR.g _ s1⟩
 cases e:numW w with
 | none=>
  show tIfS _ _ _ _ [some (.str (tx w)),some (.int lo),some (.int hi),some .non] H1
  rw [aE]
  walk_at "w"
  rw [cx]
  walk_at "w"
  exact fail (by rw [e]; rfl) _ rfl
 | some n=>
  show tIfS _ _ _ _ [some (.str (tx w)),some (.int lo),some (.int hi),some (.int n)] H1
  rw [aE]
  walk_at "w"
  rw [decide_eq_false (show ¬ V.int n=V.non from fun e=>nomatch e)]
  refine iteF ?_
  by_cases h1:(n:Int) < lo
  · rw [decide_eq_true h1]
    refine iteT ?_
    rw [cx]
    walk_at "w"
    exact fail (by rw [e]; unfold inW; simp; omega) _ rfl
  rw [decide_eq_false h1]
  refine iteF ?_
  by_cases h2:hi < (n:Int)
  · rw [decide_eq_true h2]
    refine iteT ?_
    rw [cx]
    walk_at "w"
    exact fail (by rw [e]; unfold inW; simp; omega) _ rfl
  rw [decide_eq_false h2]
  refine iteF ?_
  walk_at "w"
  exact q1 n e (by unfold inW; simp; omega) _ s1
end
def aW (K:PySem.W.Frag):Sp:=fun vs H Q E=>∃ (p:Addr) (ws:List (List Nat)) (lo hi:Int),vs=[.ref p,.int lo,.int hi]∧H p=some (.lst ((ws.map tx).map V.str))∧(∀ w∈ws,WdOk w)∧
 (∀ w r n,ws=w::r→numW w=some n→inW (some n) lo hi=true→∀ H',Same H H'→Q (.int n) H')∧((∀ w r n,ws=w::r→numW w=some n→inW (some n) lo hi=false)→RE K H E)
theorem iY {K:PySem.W.Frag} {vs:List V} {H:Hp} {Q:VK} {E:XK} (h:aW K vs H Q E):vs.length=3:=by
 obtain ⟨_,_,_,_,rfl,_⟩:=h; rfl
def bL (K:PySem.W.Frag) (a:EA) (E:XK):TS:=
 (tSeq (tIfS (tTest (tOp (cEq K) (tVar 0) (tLst tNil))) (dM E a.NoRule (tCons (tC (.str (tx [116,104,101,32,114,117,108,101,32,104,97,115,32,116,111,111,32,102,101,119,32,119,111,114,100,115]))) tNil)) tNext)
  (tRet (tCall (aM K) [] E (tCons (tOp cIx (tVar 0) (tC (.int 0))) (tCons (tVar 1) (tCons (tVar 2) tNil))))))
theorem WdOk.strs {ws:List (List Nat)} (h:∀ w∈ws,WdOk w):∀ x∈ws.map tx,PyData.strOk x=true:=WOk.strs fun w hw=>(h w hw).asc
def okC (m:Int) (w:List Nat):Bool:=inW (numW w) 0 (m - 1)
def celW (w:List Nat):Int:=((numW w).getD 0:Nat)
def accT (m:Int) (ws:List (List Nat)):Bool:=!decide (ws=[])&&ws.all (okC m)&&decide ((ws.map celW).Nodup)
def br (K:PySem.W.Frag):Sp:=fun vs H Q E=>∃ (a p:Addr) (h w g:Int) (ws:List (List Nat)),vs=[.ref a,.ref p]∧IsFl H a h w g∧FlOk h w g∧H p=some (.lst ((ws.map tx).map V.str))∧ws.length≤401∧(∀ w∈ws,WdOk w)∧
 (accT (h*w) ws=true→∀ l H',Same H H'→H l=none→H' l=some (.lst ((ws.map celW).map V.int))→Q (.ref l) H')∧(accT (h*w) ws=false→RE K H E)
theorem j8 {K:PySem.W.Frag} {vs:List V} {H:Hp} {Q:VK} {E:XK} (h:br K vs H Q E):vs.length=2:=by
 obtain ⟨_,_,_,_,_,_,rfl,_⟩:=h; rfl
def cq (K:PySem.W.Frag) (a:EA) (E:XK):TS:=
 (tSeq (tIfS (tTest (tOp (cEq K) (tVar 2) (tLst tNil))) (dM E a.NoRule (tCons (tC (.str (tx [116,104,101,32,114,117,108,101,32,116,101,108,108,115,32,110,111,32,99,101,108,108]))) tNil)) tNext)
  (tSeq (tIfS (tTest (tOp (cNe K) (iS (tVar 2)) (tCB kLen (tCons (tVar 2) tNil)))) (dM E a.NoRule (tCons (tC (.str (tx [116,104,101,32,114,117,108,101,32,116,101,108,108,115,32,97,32,99,101,108,108,32,116,119,105,99,101]))) tNil)) tNext)
  (tRet (tVar 2))))
def cj (K:PySem.W.Frag) (a:EA) (E:XK):TS:=
 (tSeq (sComp 2 [none,none,some 0] (iList K (tVar 1)) (gName 1) tTrue (tCall (aM K) [] E (tCons (tVar 1) (tCons (tC (.int 0)) (tCons (tOp cSub (tCall (bf K) [] E0 (tCons (tVar 2) tNil)) (tC (.int 1))) tNil)))))
  (cq K a E))
theorem j9 {l:List Int}:decide (((cntD l:Nat):Int)=((l.length:Nat):Int))=decide l.Nodup:=by
 have:=nc l
 by_cases h:l.Nodup
 · rw [decide_eq_true h,decide_eq_true (by rw [this.mpr h])]
 · rw [decide_eq_false h,decide_eq_false (fun z=>h (this.mp (by omega)))]
def cr (m:Int) (nm:List Nat) (ws:List (List Nat)):Option (List Int):=
 if tx nm∈ar then (if ws=[] then some (rngL 0 m) else none) else if accT m ws=true then some (ws.map celW) else none
def bG (K:PySem.W.Frag):Sp:=fun vs H Q E=>∃ (a p:Addr) (h w g:Int) (nm:List Nat) (ws:List (List Nat)),vs=[.ref a,.str (tx nm),.ref p]∧IsFl H a h w g∧FlOk h w g∧H p=some (.lst ((ws.map tx).map V.str))∧ws.length≤401∧(∀ w∈ws,WdOk w)∧
 (∀ cs,cr (h*w) nm ws=some cs→∀ l H',Same H H'→H l=none→H' l=some (.lst (cs.map V.int))→Q (.ref l) H')∧(cr (h*w) nm ws=none→RE K H E)
theorem lP {K:PySem.W.Frag} {vs:List V} {H:Hp} {Q:VK} {E:XK} (h:bG K vs H Q E):vs.length=3:=by
 obtain ⟨_,_,_,_,_,_,_,rfl,_⟩:=h; rfl
def dc (K:PySem.W.Frag) (a:EA) (E:XK):TS:=
 (tSeq (tIfS (tB (tInG ar true (tVar 1))) (tRet (tCall (br K) [] E (tCons (tVar 0) (tCons (tVar 2) tNil)))) tNext)
  (tSeq (tIfS (tTest (tOp (cNe K) (tVar 2) (tLst tNil))) (dM E a.NoRule (tCons (tC (.str (tx [116,104,101,32,114,117,108,101,32,104,97,115,32,116,111,111,32,109,97,110,121,32,119,111,114,100,115]))) tNil)) tNext)
  (tRet (eK (tCons (tCall (bf K) [] E0 (tCons (tVar 0) tNil)) tNil)))))
def kOf (nm:List Nat):Option RK:=if nm=nmC .Unlike then some .Unlike else if nm=nmC .Sum then some .Sum else if nm=nmC .Rising then some .Rising else if nm=nmC .Seen then some .Seen else if nm=nmC .Count then some .Count else if nm=nmC .Joined then some .Joined else if nm=nmC .NoSquare then some .NoSquare else if nm=nmC .Ring then some .Ring else none
def bP (K:PySem.W.Frag) (c:RCl RK):Sp:=fun vs H Q E=>∃ (p W C:Addr) (nm:List Nat) (ws:List (List Nat)) (cs:List Int) (n m:Int),vs=[.ref p,.ref W,.ref C,.int n,.int m]∧H W=some (.lst (((nm::ws).map tx).map V.str))∧H C=some (.lst (cs.map V.int))∧
 (∀ k,kOf nm=some k→c.ok k=true∧∀ r H',Same H H'→H r=none→IsRule H' c k r p (nm::ws) cs n m→Q (.ref r) H')∧(kOf nm=none→RE K H E)
theorem ni {K:PySem.W.Frag} {c:RCl RK} {vs:List V} {H:Hp} {Q:VK} {E:XK} (h:bP K c vs H Q E):vs.length=5:=by
 obtain ⟨_,_,_,_,_,_,_,_,rfl,_⟩:=h; rfl
def dW (K:PySem.W.Frag) (c:RCl RK) (a:EA) (E:XK):TS:=
 (tSeq (tAsg (tOp cIx (tVar 1) (tC (.int 0))) (gName 5))
  (tSeq (tIfS (tTest (tOp (cEq K) (tVar 5) (tC (.str (tx [117,110,108,105,107,101]))))) (tRet (tMake (c.A .Unlike) (ah K c) [] E0 (tCons (tVar 0) (tCons (tVar 1) (tCons (tVar 2) (tCons (tVar 3) (tCons (tVar 4) tNil))))))) tNext)
  (tSeq (tIfS (tTest (tOp (cEq K) (tVar 5) (tC (.str (tx [115,117,109]))))) (tRet (tMake (c.A .Sum) (ah K c) [] E0 (tCons (tVar 0) (tCons (tVar 1) (tCons (tVar 2) (tCons (tVar 3) (tCons (tVar 4) tNil))))))) tNext)
  (tSeq (tIfS (tTest (tOp (cEq K) (tVar 5) (tC (.str (tx [114,105,115,105,110,103]))))) (tRet (tMake (c.A .Rising) (ah K c) [] E0 (tCons (tVar 0) (tCons (tVar 1) (tCons (tVar 2) (tCons (tVar 3) (tCons (tVar 4) tNil))))))) tNext)
  (tSeq (tIfS (tTest (tOp (cEq K) (tVar 5) (tC (.str (tx [115,101,101,110]))))) (tRet (tMake (c.A .Seen) (ah K c) [] E0 (tCons (tVar 0) (tCons (tVar 1) (tCons (tVar 2) (tCons (tVar 3) (tCons (tVar 4) tNil))))))) tNext)
  (tSeq (tIfS (tTest (tOp (cEq K) (tVar 5) (tC (.str (tx [99,111,117,110,116]))))) (tRet (tMake (c.A .Count) (ah K c) [] E0 (tCons (tVar 0) (tCons (tVar 1) (tCons (tVar 2) (tCons (tVar 3) (tCons (tVar 4) tNil))))))) tNext)
  (tSeq (tIfS (tTest (tOp (cEq K) (tVar 5) (tC (.str (tx [106,111,105,110,101,100]))))) (tRet (tMake (c.A .Joined) (ah K c) [] E0 (tCons (tVar 0) (tCons (tVar 1) (tCons (tVar 2) (tCons (tVar 3) (tCons (tVar 4) tNil))))))) tNext)
  (tSeq (tIfS (tTest (tOp (cEq K) (tVar 5) (tC (.str (tx [110,111,115,113,117,97,114,101]))))) (tRet (tMake (c.A .NoSquare) (ah K c) [] E0 (tCons (tVar 0) (tCons (tVar 1) (tCons (tVar 2) (tCons (tVar 3) (tCons (tVar 4) tNil))))))) tNext)
  (tSeq (tIfS (tTest (tOp (cEq K) (tVar 5) (tC (.str (tx [114,105,110,103]))))) (tRet (tMake (c.A .Ring) (ah K c) [] E0 (tCons (tVar 0) (tCons (tVar 1) (tCons (tVar 2) (tCons (tVar 3) (tCons (tVar 4) tNil))))))) tNext)
  (dM E a.NoRule (tCons (tC (.str (tx [110,111,32,114,117,108,101,32,98,101,103,105,110,115,32,119,105,116,104,32,116,104,105,115,32,119,111,114,100]))) tNil)))))))))))
section
variable {K:PySem.W.Frag} {c:RCl RK} {a:EA} {vs:List V} {H:Hp} {Q:VK} {E:XK} (RR:ei K a "NoRule" a.NoRule (di a))
include RR
theorem iZ (h:aW K vs H Q E):bL K a E { nx:=fun _ H'=>Q .non H',rt:=Q } (start ["words","least","most"] vs) H:=by
 obtain ⟨p,ws,lo,hi,rfl,hp,hw,q1,q2⟩:=h
 show bL K a E _ [some (.ref p),some (.int lo),some (.int hi)] H
 unfold bL
 rw [aB,aE]
 walk_at "w"
 refine ⟨aq (by decide),fun l hl=>?_⟩
 have s1:Same H (upd H l (.lst [])):=(Same.refl H).laid hl
 refine t6 (s1 _ _ hp) (ys:=[]) ag (WdOk.strs hw) (fun x hx=>nomatch hx) ?_
 generalize upd H l (.lst [])=H1 at*
 walk_at "w"
 cases ws with
 | nil=>
  refine iteT ?_
  rw [cx]
  walk_at "w"
  exact ⟨aq (by show (1:Nat)≤1000; decide),q2 (fun w r n e=>nomatch e) _ RR.g _ s1⟩
 | cons w r=>
  rw [decide_eq_false (by simp)]
  refine iteF ?_
  walk_at "w"
  have e0:atI (((w::r).map tx).map V.str) 0=some (V.str (tx w)):=aN (j:=0) rfl
  refine ixL (s1 _ _ hp) e0 ?_
  walk_at "w"
  refine ⟨w,lo,hi,rfl,hw w List.mem_cons_self,fun n e1 e2 H2 s2=>q1 w r n rfl e1 e2 _ (s1.trans s2),fun hb C hC H2 s2=>q2 (fun w' r' n e e1=>?_) C hC _ (s1.trans s2)⟩
  cases e
  rw [e1] at hb
  exact hb
theorem iD {p f l:Addr} {ws:List (List Nat)} (hl:H l=some (.lst ((ws.map celW).map V.int))) (hn:ws.length≤401) (q1:ws≠[]→(ws.map celW).Nodup→∀ H',Same H H'→Q (.ref l) H') (q2:(ws=[]∨¬ (ws.map celW).Nodup)→RE K H E):
  cq K a E { nx:=fun _ H'=>Q .non H',rt:=Q } [some (.ref f),some (.ref p),some (.ref l)] H:=by
 unfold cq
 walk_at "w"
 rw [aE]
 walk_at "w"
 refine ⟨aq (by decide),fun z hz=>?_⟩
 have s2:Same H (upd H z (.lst [])):=(Same.refl H).laid hz
 refine uF (s2 _ _ hl) (ys:=[]) ag ?_
 generalize upd H z (.lst [])=H2 at*
 walk_at "w"
 by_cases he:ws=[]
 · rw [decide_eq_true (by rw [he]; rfl)]
   refine iteT ?_
   rw [cx]
   walk_at "w"
   exact ⟨aq (by show (1:Nat)≤1000; decide),q2 (.inl he) _ RR.g _ s2⟩
 rw [decide_eq_false (by simpa using he)]
 refine iteF ?_
 walk_at "w"
 rw [aE]
 walk_at "w"
 refine ⟨l,_,rfl,s2 _ _ hl,by rw [List.length_map]; omega,?_⟩
 rw [dI (s2 _ _ hl),List.length_map]
 walk_at "w"
 rw [j9]
 by_cases hd:(ws.map celW).Nodup
 · rw [decide_eq_true hd]
   refine iteF ?_
   walk_at "w"
   exact q1 he hd _ s2
 · rw [decide_eq_false hd]
   refine iteT ?_
   rw [cx]
   walk_at "w"
   exact ⟨aq (by show (1:Nat)≤1000; decide),q2 (.inr hd) _ RR.g _ s2⟩
theorem ka (h:br K vs H Q E):cj K a E { nx:=fun _ H'=>Q .non H',rt:=Q } (start ["floor","words","cells"] vs) H:=by
 obtain ⟨f,p,h,w,g,ws,rfl,ha,F,hp,hn,hw,q1,q2⟩:=h
 obtain ⟨h0,h1,w0,w1,m16,g0,g1⟩:=F
 show cj K a E _ [some (.ref f),some (.ref p),none] H
 unfold cj
 walk_at "w"
 refine ⟨⟨_,SqL.of hp⟩,?_⟩
 refine lf (xs:=(ws.map tx).map V.str) (fun l i σ H'=>(∃ cv,σ=[none,cv,some (.ref f)])∧Same H H'∧(∀ j x,j < i→ws[j]? =some x→okC (h*w) x=true)∧H' l=some (.lst (((ws.take i).map celW).map V.int)))
  (fun l hl=>⟨⟨none,rfl⟩,(Same.refl H).laid hl,fun j x hj=>absurd hj (Nat.not_lt_zero j),by rw [ag]; rfl⟩) (fun l i σ H' _ _ x=>x.2.1.seq (SqL.of hp)) ?_ ?_
 · rintro l i x σ H1 hl hx ⟨⟨cv,rfl⟩,s1,hok,el⟩
   rw [List.getElem?_map,List.getElem?_map] at hx
   cases e:ws[i]? with
   | none=>rw [e] at hx; cases hx
   | some y=>
    rw [e] at hx
    cases hx
    have hi:=(List.getElem?_eq_some_iff.mp e).1
    have hm:=List.mem_of_getElem? e
    rw [bF]
    show tTrue [none,some (.str (tx y)),some (.ref f)] H1 _
    walk_at "w"
    refine ⟨f,h,w,g,rfl,s1 _ _ ha,h0,h1,?_⟩
    walk_at "w"
    refine ⟨y,0,_,rfl,hw y hm,fun n e1 e2 H2 s2=>?_,fun hb C hC H2 s2=>q2 ?_ C hC _ (s1.trans s2)⟩
    · have s12:=s1.trans s2
      refine ⟨_,s2 _ _ el,by rw [List.length_map,List.length_map,List.length_take]; exact be (by omega),⟨_,rfl⟩,s12.own hl,fun j z hj ez=>?_,?_⟩
      · by_cases hji:j < i
        · exact hok j z hji ez
        · have:j=i:=by omega
          subst this
          rw [e] at ez
          cases ez
          unfold okC
          rw [e1]
          exact e2
      · rw [ag,List.take_succ,e]
        simp [celW,e1]
    · unfold accT
      have:ws.all (okC (h*w))=false:=by
       rw [Bool.eq_false_iff]
       intro z
       have:=List.all_eq_true.mp z y hm
       unfold okC at this
       rw [hb] at this
       cases this
      rw [this]
      simp
 · rintro l σ H1 hl ⟨_,s1,hok,el⟩
   rw [List.length_map,List.length_map,List.take_length] at el
   rw [List.length_map,List.length_map] at hok
   have ha:ws.all (okC (h*w))=true:=by
    rw [List.all_eq_true]
    intro z hz
    obtain ⟨j,hj,ez⟩:=List.getElem_of_mem hz
    exact hok j z hj (by rw [List.getElem?_eq_getElem hj,ez])
   refine iD RR el hn (fun e1 e2 H' s'=>q1 ?_ l H' (s1.trans s') hl (s' _ _ el)) (fun hb C hC H' s'=>q2 ?_ C hC H' (s1.trans s'))
   · unfold accT
     rw [ha,decide_eq_false e1,decide_eq_true e2]; rfl
   · unfold accT
     rcases hb with hb | hb
     · rw [decide_eq_true hb]; rfl
     · rw [decide_eq_false hb]; simp
theorem lQ (h:bG K vs H Q E):dc K a E { nx:=fun _ H'=>Q .non H',rt:=Q } (start ["floor","name","words"] vs) H:=by
 obtain ⟨f,p,h,w,g,nm,ws,rfl,ha,F,hp,hn,hw,q1,q2⟩:=h
 obtain ⟨h0,h1,w0,w1,m16,g0,g1⟩:=id F
 have mpos:0≤h*w:=Int.mul_nonneg (by omega) (by omega)
 show dc K a E _ [some (.ref f),some (.str (tx nm)),some (.ref p)] H
 unfold dc
 rw [aB,aE]
 walk_at "w"
 by_cases hk:tx nm∈ar
 · unfold cr at q1 q2
   rw [if_pos hk] at q1 q2
   rw [decide_eq_true hk]
   walk_at "w"
   rw [aE]
   walk_at "w"
   refine ⟨aq (by decide),fun z hz=>?_⟩
   have s1:Same H (upd H z (.lst [])):=(Same.refl H).laid hz
   refine t8 (ys:=[]) (s1 _ _ hp) ag (WdOk.strs hw) (fun x hx=>nomatch hx) ?_
   generalize upd H z (.lst [])=H1 at*
   walk_at "w"
   by_cases he:ws=[]
   · rw [if_pos he] at q1
     rw [decide_eq_true (by rw [he]; rfl)]
     refine iteF ?_
     walk_at "w"
     refine ⟨f,h,w,g,rfl,s1 _ _ ha,h0,h1,?_⟩
     walk_at "w"
     refine ⟨h*w,rfl,by omega,by omega,fun l hl=>?_⟩
     exact q1 _ rfl l _ (s1.laid hl) (s1.free hl) ag
   · rw [if_neg he] at q2
     rw [decide_eq_false (by simpa using he)]
     refine iteT ?_
     rw [cx]
     walk_at "w"
     exact ⟨aq (by show (1:Nat)≤1000; decide),q2 rfl _ RR.g _ s1⟩
 · unfold cr at q1 q2
   rw [if_neg hk] at q1 q2
   rw [decide_eq_false hk]
   walk_at "w"
   exact ⟨f,p,h,w,g,ws,rfl,ha,F,hp,hn,hw,fun e=>q1 _ (by rw [if_pos e]),fun e=>q2 (by rw [if_neg (by rw [e]; exact Bool.false_ne_true)])⟩
theorem nj (h:bP K c vs H Q E):dW K c a E { nx:=fun _ H'=>Q .non H',rt:=Q } (start ["floor","words","cells","amount","mark","name"] vs) H:=by
 obtain ⟨p,W,C,nm,ws,cs,n,m,rfl,hW,hC,q1,q2⟩:=h
 have e0:atI (((nm::ws).map tx).map V.str) 0=some (V.str (tx nm)):=aN (j:=0) rfl
 show dW K c a E _ [some (.ref p),some (.ref W),some (.ref C),some (.int n),some (.int m),none] H
 unfold dW
 walk_at "w"
 refine ixL hW e0 ?_
 have D:∀ (l:List Nat) (t:TS) (u:TS) (D:Ends),(nm=l→t D [some (.ref p),some (.ref W),some (.ref C),some (.int n),some (.int m),some (.str (tx nm))] H)→(¬ nm=l→u D [some (.ref p),some (.ref W),some (.ref C),some (.int n),some (.int m),some (.str (tx nm))] H)→
   tIfS (tTest (tOp (cEq K) (tVar 5) (tC (.str (tx l))))) t u D [some (.ref p),some (.ref W),some (.ref C),some (.int n),some (.int m),some (.str (tx nm))] H:=fun l t u D h1 h2=>by
  rw [aE]
  walk_at "w"
  rw [fB]
  by_cases e:nm=l
  · rw [decide_eq_true e]; exact iteT (h1 e)
  · rw [decide_eq_false e]; exact iteF (h2 e)
 have R:∀ (k:RK) (D:Ends),D.rt=Q→kOf nm=some k→tRet (tMake (c.A k) (ah K c) [] E0 (tCons (tVar 0) (tCons (tVar 1) (tCons (tVar 2) (tCons (tVar 3) (tCons (tVar 4) tNil)))))) D [some (.ref p),some (.ref W),some (.ref C),some (.int n),some (.int m),some (.str (tx nm))] H:=fun k D hD hk=>by
  obtain ⟨ok,q⟩:=q1 k hk
  have mk:=sw (K:=K) ok hW hC q
  walk_at "w"
  rw [hD]
  exact mk
 refine D _ _ _ _ (fun e=>R .Unlike _ rfl (by rw [e]; rfl)) fun e1=>?_
 walk_at "w"
 refine D _ _ _ _ (fun e=>R .Sum _ rfl (by rw [e]; rfl)) fun e2=>?_
 walk_at "w"
 refine D _ _ _ _ (fun e=>R .Rising _ rfl (by rw [e]; rfl)) fun e3=>?_
 walk_at "w"
 refine D _ _ _ _ (fun e=>R .Seen _ rfl (by rw [e]; rfl)) fun e4=>?_
 walk_at "w"
 refine D _ _ _ _ (fun e=>R .Count _ rfl (by rw [e]; rfl)) fun e5=>?_
 walk_at "w"
 refine D _ _ _ _ (fun e=>R .Joined _ rfl (by rw [e]; rfl)) fun e6=>?_
 walk_at "w"
 refine D _ _ _ _ (fun e=>R .NoSquare _ rfl (by rw [e]; rfl)) fun e7=>?_
 walk_at "w"
 refine D _ _ _ _ (fun e=>R .Ring _ rfl (by rw [e]; rfl)) fun e8=>?_
 walk_at "w"
 rw [cx]
 walk_at "w"
 refine ⟨aq (by show (1:Nat)≤1000; decide),q2 ?_ _ RR.g _ (Same.refl H)⟩
 unfold kOf
 rw [if_neg (show ¬ nm=nmC .Unlike from e1),if_neg (show ¬ nm=nmC .Sum from e2),if_neg (show ¬ nm=nmC .Rising from e3),if_neg (show ¬ nm=nmC .Seen from e4),if_neg (show ¬ nm=nmC .Count from e5),if_neg (show ¬ nm=nmC .Joined from e6),if_neg (show ¬ nm=nmC .NoSquare from e7),if_neg (show ¬ nm=nmC .Ring from e8)]
end
def bS (m:Int) (nm:List Nat) (rest:List (List Nat)):Option (RK × List Int):=match cr m nm rest,kOf nm with
 | some cs,some k=>some (k,cs)
 | _,_=>none
def cJ (m g:Int) (nm:List Nat) (rest:List (List Nat)):Option (Nat × RK × List Int):=
 if tx nm∈aX then (match rest with
  | []=>none
  | x::r=>if inW (numW x) 1 g=true then (bS m nm r).map fun y=>((numW x).getD 0,y) else none)
 else (bS m nm rest).map fun y=>(0,y)
def cu (m g:Int) (nm:List Nat) (rest:List (List Nat)):Option (Nat × Nat × RK × List Int):=
 if tx nm∈aQ then (match rest with
  | []=>none
  | x::r=>if inW (numW x) 0 99=true then (cJ m g nm r).map fun y=>((numW x).getD 0,y) else none)
 else (cJ m g nm rest).map fun y=>(0,y)
def accR (m g:Int):List (List Nat)→Option (Nat × Nat × RK × List Int)
 | []=>none
 | nm::rest=>cu m g nm rest
structure LnOk (ws:List (List Nat)):Prop where
 ne:ws≠[]
 len:ws.length≤401
 tot:(catL 32 ws).length≤400
 fr:∀ w∈ws,32∉w
 wd:∀ w∈ws,WdOk w
def NoStr (H:Hp) (v:V):Prop:=v=.non∨(∃ i,v=.int i)∨(∃ b,v=.bl b)∨∃ q xs,v=.ref q∧(H q=some (.lst xs)∨H q=some (.tup xs))
theorem NoStr.same {H H':Hp} {v:V} (h:NoStr H v) (s:Same H H'):NoStr H' v:=by
 rcases h with h | h | h | ⟨q,xs,h1,h2⟩
 · exact .inl h
 · exact .inr (.inl h)
 · exact .inr (.inr (.inl h))
 · exact .inr (.inr (.inr ⟨q,xs,h1,h2.imp (fun z=>s _ _ z) fun z=>s _ _ z⟩))
theorem qg {H:Hp} {Q:VK} {v:V} (h:NoStr H v) (q:Q (.bl false) H):kIsi [v,.ty "str"] H Q:=by
 rcases h with rfl | ⟨i,rfl⟩ | ⟨b,rfl⟩ | ⟨p,xs,rfl,h⟩
 · exact ⟨rfl,q⟩
 · exact ⟨rfl,q⟩
 · exact ⟨rfl,q⟩
 · refine ⟨rfl,?_⟩
   unfold gm
   rcases h with h | h
   · dsimp only; rw [h]; exact q
   · dsimp only; rw [h]; exact q
def bB (K:PySem.W.Frag) (c:RCl RK):Sp:=fun vs H Q E=>∃ (p:Addr) (v:V) (h w g:Int),vs=[.ref p,v]∧IsFl H p h w g∧FlOk h w g∧
 ((∃ ws,v=.str (tx (catL 32 ws))∧LnOk ws∧(∀ n m k cs,accR (h*w) g ws=some (n,m,k,cs)→c.ok k=true∧∀ r H',Same H H'→H r=none→IsRule H' c k r p ws cs n m→Q (.ref r) H')∧(accR (h*w) g ws=none→RE K H E))∨(NoStr H v∧RE K H E))
theorem kF {K:PySem.W.Frag} {c:RCl RK} {vs:List V} {H:Hp} {Q:VK} {E:XK} (h:bB K c vs H Q E):vs.length=2:=by
 obtain ⟨_,_,_,_,_,rfl,_⟩:=h; rfl
def cK (K:PySem.W.Frag) (c:RCl RK) (a:EA) (E:XK):TS:=
 (tRet (tCall (bP K c) [] E (tCons (tVar 0) (tCons (tVar 2) (tCons (tCall (bG K) [] E (tCons (tVar 0) (tCons (tVar 3) (tCons (tVar 4) tNil)))) (tCons (tVar 5) (tCons (tVar 6) tNil)))))))
def cL (K:PySem.W.Frag) (c:RCl RK) (a:EA) (E:XK):TS:=
 (tSeq (tIfS (tB (tInG aX false (tVar 3))) (tSeq (tAsg (tCall (aW K) [] E (tCons (tVar 4) (tCons (tC (.int 1)) (tCons (tOp cIx (tVar 0) (tC (.int 2))) tNil)))) (gName 6))
  (tAsg (tSl bQ (tVar 4) (tPart (tC (.int 1))) bb) (gName 4))) tNext)
  (cK K c a E))
def cM (K:PySem.W.Frag) (c:RCl RK) (a:EA) (E:XK):TS:=
 (tSeq (tAsg (tOp cIx (tVar 2) (tC (.int 0))) (gName 3))
  (tSeq (tAsg (tSl bQ (tVar 2) (tPart (tC (.int 1))) bb) (gName 4))
  (tSeq (tAsg (tC (.int 0)) (gName 5))
  (tSeq (tAsg (tC (.int 0)) (gName 6))
  (tSeq (tIfS (tB (tInG aQ false (tVar 3))) (tSeq (tAsg (tCall (aW K) [] E (tCons (tVar 4) (tCons (tC (.int 0)) (tCons (tC (.int 99)) tNil)))) (gName 5))
  (tAsg (tSl bQ (tVar 4) (tPart (tC (.int 1))) bb) (gName 4))) tNext)
  (cL K c a E))))))
def cC (K:PySem.W.Frag) (c:RCl RK) (a:EA) (E:XK):TS:=
 (tSeq (tIfS (tNot (tB (tCB kIsi (tCons (tVar 1) (tCons (tC (.ty "str")) tNil))))) (dM E a.NoRule (tCons (tC (.str (tx [97,32,114,117,108,101,32,105,115,32,114,101,97,100,32,102,114,111,109,32,97,32,116,101,120,116]))) tNil)) tNext)
  (tSeq (tAsg (tBM K "str" ij (tVar 1) (tCons (tC (.str (tx [32]))) tNil)) (gName 2))
  (cM K c a E)))
theorem gH {H:Hp} {Q:VK} {p:Addr} {xs:List V} (hp:H p=some (.lst xs)) (q:∀ l,H l=none→Q (.ref l) (upd H l (.lst (xs.drop 1)))):bQ (.ref p) (some 1) none H Q:=by
 refine oW hp fun l hl=>?_
 rw [qR]
 exact q l hl
abbrev QR (c:RCl RK) (H:Hp) (Q:VK) (p:Addr) (ws:List (List Nat)) (k:RK) (cs:List Int) (n m:Int):Prop:=c.ok k=true∧∀ r H',Same H H'→H r=none→IsRule H' c k r p ws cs n m→Q (.ref r) H'
theorem QR.same {c:RCl RK} {H H1:Hp} {Q:VK} {p:Addr} {ws:List (List Nat)} {k:RK} {cs:List Int} {n m:Int} (h:QR c H Q p ws k cs n m) (s:Same H H1):QR c H1 Q p ws k cs n m:=⟨h.1,fun r H' s' hr x=>h.2 r H' (s.trans s') (s.free hr) x⟩
theorem RE.same {K:PySem.W.Frag} {H H1:Hp} {E:XK} (h:RE K H E) (s:Same H H1):RE K H1 E:=fun C hC H' s'=>h C hC H' (s.trans s')
section
variable {K:PySem.W.Frag} {c:RCl RK} {a:EA} {vs:List V} {H:Hp} {Q:VK} {E:XK} (RR:ei K a "NoRule" a.NoRule (di a))
theorem eZ {p W R:Addr} {h w g:Int} {nm:List Nat} {ws rest:List (List Nat)} {n m:Nat} {lv:V} (F:FlOk h w g) (ha:IsFl H p h w g) (hW:H W=some (.lst (((nm::ws).map tx).map V.str))) (hR:H R=some (.lst ((rest.map tx).map V.str))) (hl:rest.length≤401) (hw:∀ w∈rest,WdOk w)
  (q1:∀ k cs,bS (h*w) nm rest=some (k,cs)→QR c H Q p (nm::ws) k cs n m) (q2:bS (h*w) nm rest=none→RE K H E):
  cK K c a E { nx:=fun _ H'=>Q .non H',rt:=Q } [some (.ref p),some lv,some (.ref W),some (.str (tx nm)),some (.ref R),some (.int n),some (.int m)] H:=by
 unfold cK
 walk_at "w"
 refine ⟨p,R,h,w,g,nm,rest,rfl,ha,F,hR,hl,hw,fun cs ec l H1 s1 hl el=>?_,fun ec=>q2 (by unfold bS; rw [ec])⟩
 walk_at "w"
 refine ⟨p,W,l,nm,ws,cs,n,m,rfl,s1 _ _ hW,el,fun k ek=>(q1 k cs (by unfold bS; rw [ec,ek])).same s1,fun ek=>(q2 (by unfold bS; rw [ec,ek])).same s1⟩
theorem fb {p W R:Addr} {h w g:Int} {nm:List Nat} {ws rest:List (List Nat)} {n:Nat} {lv:V} (F:FlOk h w g) (ha:IsFl H p h w g) (hW:H W=some (.lst (((nm::ws).map tx).map V.str))) (hR:H R=some (.lst ((rest.map tx).map V.str))) (hl:rest.length≤401) (hw:∀ w∈rest,WdOk w)
  (q1:∀ (m:Nat) k cs,cJ (h*w) g nm rest=some (m,k,cs)→QR c H Q p (nm::ws) k cs n m) (q2:cJ (h*w) g nm rest=none→RE K H E):
  cL K c a E { nx:=fun _ H'=>Q .non H',rt:=Q } [some (.ref p),some lv,some (.ref W),some (.str (tx nm)),some (.ref R),some (.int n),some (.int 0)] H:=by
 unfold cL
 rw [aB,aE]
 walk_at "w"
 unfold cJ at q1 q2
 by_cases hs:tx nm∈aX
 · rw [if_pos hs] at q1 q2
   rw [decide_eq_true hs]
   walk_at "w"
   refine ixT ha (v:=V.int g) rfl ?_
   walk_at "w"
   refine ⟨R,rest,1,g,rfl,hR,hw,fun x r m er em hi H1 s1=>?_,fun hb=>q2 ?_⟩
   · subst er
     dsimp only at q1 q2
     rw [em] at q1 q2
     rw [if_pos hi] at q1 q2
     walk_at "w"
     refine gH (s1 _ _ hR) fun R2 hR2=>?_
     have s2:Same H1 (upd H1 R2 (.lst ((((x::r).map tx).map V.str).drop 1))):=(Same.refl H1).laid hR2
     have e2:(upd H1 R2 (.lst ((((x::r).map tx).map V.str).drop 1))) R2=some (.lst ((r.map tx).map V.str)):=ag
     generalize upd H1 R2 (.lst ((((x::r).map tx).map V.str).drop 1))=H2 at*
     have s12:=s1.trans s2
     exact eZ F (s12 _ _ ha) (s12 _ _ hW) e2 (by simp at hl; omega) (fun z hz=>hw z (List.mem_cons_of_mem _ hz)) (fun k cs e=>(q1 m k cs (by rw [e]; rfl)).same s12) (fun e=>(q2 (by rw [e]; rfl)).same s12)
   · cases rest with
     | nil=>rfl
     | cons x r=>
      dsimp only
      cases e:numW x with
      | none=>rfl
      | some m=>rw [if_neg]; rw [hb x r m rfl e]; exact Bool.false_ne_true
 · rw [if_neg hs] at q1 q2
   rw [decide_eq_false hs]
   walk_at "w"
   exact eZ (m:=0) F ha hW hR hl hw (fun k cs e=>q1 0 k cs (by rw [e]; rfl)) (fun e=>q2 (by rw [e]; rfl))
theorem i3 {p W:Addr} {h w g:Int} {ws:List (List Nat)} {lv:V} (F:FlOk h w g) (ha:IsFl H p h w g) (hW:H W=some (.lst ((ws.map tx).map V.str))) (L:LnOk ws)
  (q1:∀ (n m:Nat) k cs,accR (h*w) g ws=some (n,m,k,cs)→QR c H Q p ws k cs n m) (q2:accR (h*w) g ws=none→RE K H E):
  cM K c a E { nx:=fun _ H'=>Q .non H',rt:=Q } [some (.ref p),some lv,some (.ref W),none,none,none,none] H:=by
 obtain ⟨nm,rest,rfl⟩:∃ nm rest,ws=nm::rest:=by
  cases ws with
  | nil=>exact absurd rfl L.ne
  | cons x r=>exact ⟨x,r,rfl⟩
 have e0:atI (((nm::rest).map tx).map V.str) 0=some (V.str (tx nm)):=aN (j:=0) rfl
 have hw:∀ w∈rest,WdOk w:=fun z hz=>L.wd z (List.mem_cons_of_mem _ hz)
 have hl:rest.length≤401:=by have:=L.len; simp at this; omega
 unfold cM
 walk_at "w"
 refine ixL hW e0 ?_
 walk_at "w"
 refine gH hW fun R hR=>?_
 have s1:Same H (upd H R (.lst ((((nm::rest).map tx).map V.str).drop 1))):=(Same.refl H).laid hR
 have e1:(upd H R (.lst ((((nm::rest).map tx).map V.str).drop 1))) R=some (.lst ((rest.map tx).map V.str)):=ag
 generalize upd H R (.lst ((((nm::rest).map tx).map V.str).drop 1))=H1 at*
 walk_at "w"
 rw [aE]
 walk_at "w"
 have eA:accR (h*w) g (nm::rest)=cu (h*w) g nm rest:=rfl
 rw [eA] at q1 q2
 unfold cu at q1 q2
 by_cases hs:tx nm∈aQ
 · rw [if_pos hs] at q1 q2
   rw [decide_eq_true hs]
   walk_at "w"
   refine ⟨R,rest,0,99,rfl,e1,hw,fun x r n er en hi H2 s2=>?_,fun hb=>(q2 ?_).same s1⟩
   · subst er
     dsimp only at q1 q2
     rw [en] at q1 q2
     rw [if_pos hi] at q1 q2
     walk_at "w"
     refine gH (s2 _ _ e1) fun R2 hR2=>?_
     have s3:Same H2 (upd H2 R2 (.lst ((((x::r).map tx).map V.str).drop 1))):=(Same.refl H2).laid hR2
     have e2:(upd H2 R2 (.lst ((((x::r).map tx).map V.str).drop 1))) R2=some (.lst ((r.map tx).map V.str)):=ag
     generalize upd H2 R2 (.lst ((((x::r).map tx).map V.str).drop 1))=H3 at*
     have s13:=(s1.trans s2).trans s3
     exact fb F (s13 _ _ ha) (s13 _ _ hW) e2 (by simp at hl; omega) (fun z hz=>hw z (List.mem_cons_of_mem _ hz)) (fun m k cs e=>(q1 n m k cs (by rw [e]; rfl)).same s13) (fun e=>(q2 (by rw [e]; rfl)).same s13)
   · cases rest with
     | nil=>rfl
     | cons x r=>
      dsimp only
      cases e:numW x with
      | none=>rfl
      | some m=>rw [if_neg]; rw [hb x r m rfl e]; exact Bool.false_ne_true
 · rw [if_neg hs] at q1 q2
   rw [decide_eq_false hs]
   walk_at "w"
   exact fb (n:=0) F (s1 _ _ ha) (s1 _ _ hW) e1 hl hw (fun m k cs e=>(q1 0 m k cs (by rw [e]; rfl)).same s1) (fun e=>(q2 (by rw [e]; rfl)).same s1)
include RR
theorem kG (h:bB K c vs H Q E):cC K c a E { nx:=fun _ H'=>Q .non H',rt:=Q } (start ["floor","line","words","name","rest","amount","mark"] vs) H:=by
 obtain ⟨p,v,h,w,g,rfl,ha,F,h⟩:=h
 show cC K c a E _ [some (.ref p),some v,none,none,none,none,none] H
 unfold cC
 rw [aB,aE]
 walk_at "w"
 rcases h with ⟨ws,rfl,L,q1,q2⟩ | ⟨hN,q2⟩
 · have hsp:Txt.split (tx (catL 32 ws)) (tx [32])=ws.map tx:=mP L.ne L.fr
   have hl:=L.len
   have hl2:=L.tot
   walk_at "w"
   refine ⟨iP,?_⟩
   rw [n5,hsp]
   refine ⟨by rw [aD]; decide,by rw [aD]; exact aq (by omega),by rw [List.length_map]; exact aq (by omega),fun W hW=>?_⟩
   have s1:Same H (upd H W (.lst ((ws.map tx).map V.str))):=(Same.refl H).laid hW
   exact i3 F (s1 _ _ ha) ag L (fun n m k cs e=>QR.same (q1 n m k cs e) s1) fun e=>(q2 e).same s1
 · refine qg hN ?_
   walk_at "w"
   rw [cx]
   walk_at "w"
   exact ⟨aq (by show (1:Nat)≤1000; decide),q2 _ RR.g _ (Same.refl H)⟩
end
theorem sH {cs:List Nat} {g:TG} {tb:TS} {D:Ends} {σ:St} {H:Hp} (Pv:Nat→St→Hp→Prop) (h0:Pv 0 σ H) (hs:∀ i c σ H,cs[i]? =some c→Pv i σ H→g (.str (tx [c])) σ H fun σ2 H2=>tb { D with nx:=Pv (i+1),ct:=Pv (i+1),bk:=D.nx } σ2 H2)
  (hd:∀ σ H,Pv cs.length σ H→D.nx σ H):LoopR (Its (tx cs)) g tb D σ H:=by
 have hsz:(tx cs).cps.size=cs.length:=by simp [tx]
 refine ⟨fun i m σ H=>m=cs.length - i∧i≤cs.length∧Pv i σ H,⟨cs.length,by simp,Nat.zero_le _,h0⟩,?_⟩
 rintro i m σ H ⟨rfl,hi,p⟩
 by_cases hlt:i < cs.length
 · refine .inr ⟨by show i < (tx cs).cps.size; rw [hsz]; exact hlt,Pv (i+1),fun σ' H' p'=>⟨cs.length - (i+1),by omega,rfl,hlt,p'⟩,?_⟩
   rintro x H' ⟨rfl,c,hc,rfl⟩
   have hc':cs[i]? =some c:=by simpa [tx] using hc
   exact hs i c σ H' hc' p
 · refine .inl ⟨by show (tx cs).cps.size≤i; rw [hsz]; omega,hd σ H ?_⟩
   have:i=cs.length:=by omega
   rw [← this]
   exact p
def nuL (w:List Nat):Option Nat:=if w=[] then none else if w.all digB=false then none else if 2 < w.length then none else if w.length=2∧w.head? =some 48 then none else some (w.foldl (fun a c=>10*a+(c - 48)) 0)
def bh (K:PySem.W.Frag):Sp:=fun vs H Q _=>∃ w:List Nat,vs=[.str (tx w)]∧WdOk w∧∀ H',Same H H'→Q (nV (nuL w)) H'
theorem jr {K:PySem.W.Frag} {vs:List V} {H:Hp} {Q:VK} {E:XK} (h:bh K vs H Q E):vs.length=1:=by
 obtain ⟨_,rfl,_⟩:=h; rfl
def cf (K:PySem.W.Frag):TS:=
 (tSeq (tAsg (tC (.int 0)) (gName 2))
  (tSeq (tFor (iStr (tVar 0)) (gName 1)
  (tAsg (tOp cAdd (tOp cMul (tC (.int 10)) (tVar 2)) (tBM K "str" kSIdx (tC (.str (tx [48,49,50,51,52,53,54,55,56,57]))) (tCons (tVar 1) tNil))) (gName 2)))
  (tRet (tVar 2))))
def d0 (K:PySem.W.Frag):TS:=
 (tSeq (tIfS (tOr (tTest (tOp (cCmp fun i j=>decide (j < i)) (tCB kLen (tCons (tVar 0) tNil)) (tC (.int 2)))) (tAnd (tTest (tOp (cEq K) (tCB kLen (tCons (tVar 0) tNil)) (tC (.int 2)))) (tTest (tOp (cEq K) (tOp cIx (tVar 0) (tC (.int 0))) (tC (.str (tx [48]))))))) (tRet (tC .non)) tNext)
  (cf K))
def bT (K:PySem.W.Frag):TS:=
 (tSeq (tIfS (tOr (tTest (tOp (cEq K) (tCB kLen (tCons (tVar 0) tNil)) (tC (.int 0)))) (tTest (tOp (cCmp fun i j=>decide (j < i)) (tCB kLen (tCons (tComp [none,none] (iStr (tVar 0)) (gName 1) (tTest (tOp (cIn K true) (tVar 1) (tC (.str (tx [48,49,50,51,52,53,54,55,56,57]))))) (tVar 1)) tNil)) (tC (.int 0))))) (tRet (tC .non)) tNext)
  (d0 K))
theorem sI {c:Nat} (h:digB c=true):∃ rest,Builtin.Str.occurrences (tx [48,49,50,51,52,53,54,55,56,57]) (tx [c]) 0 (tx [48,49,50,51,52,53,54,55,56,57]).length 1=(c - 48)::rest:=by
 have t:((List.range 128).all fun c=>!digB c||decide (Builtin.Str.occurrences (tx [48,49,50,51,52,53,54,55,56,57]) (tx [c]) 0 (tx [48,49,50,51,52,53,54,55,56,57]).length 1=[c - 48]))=true:=by decide+kernel
 have hc:c < 128:=by unfold digB at h; simp at h; omega
 have:=List.all_eq_true.mp t c (List.mem_range.mpr hc)
 rw [h] at this
 exact ⟨[],of_decide_eq_true (by simpa using this)⟩
theorem ed {K:PySem.W.Frag} {H:Hp} {Q:VK} {w:List Nat} (hd:w.all digB=true) (h2:w.length≤2) {z:Option V} (q:∀ H',Same H H'→Q (.int ((w.foldl (fun a c=>10*a+(c - 48)) 0:Nat):Int)) H'):cf K { nx:=fun _ H'=>Q .non H',rt:=Q } [some (.str (tx w)),z,none] H:=by
 unfold cf
 walk_at "w"
 refine sH (cs:=w) (fun i σ H'=>(∃ z,σ=[some (.str (tx w)),z,some (.int (((w.take i).foldl (fun a c=>10*a+(c - 48)) 0:Nat):Int))])∧Same H H') ⟨⟨_,rfl⟩,Same.refl H⟩ ?_ ?_
 · rintro i c σ H1 hc ⟨⟨z,rfl⟩,s1⟩
   rw [bF]
   show tAsg _ _ _ [some (.str (tx w)),some (.str (tx [c])),some (.int _)] H1
   walk_at "w"
   obtain ⟨r,er⟩:=sI (List.all_eq_true.mp hd c (List.mem_of_getElem? hc))
   refine ⟨.inl ⟨by decide,by decide⟩,iP,_,_,er,?_⟩
   show (∃ z,_)∧_
   refine ⟨⟨some (.str (tx [c])),?_⟩,s1⟩
   rw [List.take_succ,hc]
   simp
 · rintro σ H1 ⟨⟨z,rfl⟩,s1⟩
   walk_at "w"
   rw [List.take_length]
   exact q _ s1
theorem js {K:PySem.W.Frag} {vs:List V} {H:Hp} {Q:VK} {E:XK} (h:bh K vs H Q E):bT K { nx:=fun _ H'=>Q .non H',rt:=Q } (start ["_law_word","_law_sign_here","_law_number_here"] vs) H:=by
 obtain ⟨w,rfl,W,q⟩:=h
 have hw:=W.asc
 have hl:=W.len
 show bT K _ [some (.str (tx w)),none,none] H
 unfold bT
 rw [aB,aE]
 walk_at "w"
 refine ⟨by rw [aD]; exact aq (by omega),?_⟩
 rw [aD]
 by_cases h0:w=[]
 · subst h0
   exact iteT (q _ (Same.refl H))
 have hp:w.length≠0:=fun e=>h0 (List.length_eq_zero_iff.mp e)
 rw [decide_eq_false (show ¬ ((w.length:Nat):Int)=0 by omega)]
 refine iteF ?_
 refine lj (cs:=w) (fun i=>!digB (w.getD i 0)) (fun i=>.str (tx [w.getD i 0])) (by omega) ?_ ?_ ?_
 · intro i c H1 R hc s1 k1
   show tTest (tOp (cIn K true) _ _) [none,some (.str (tx [c]))] H1 R
   have q1:=k1 _ (Same.refl H1)
   have eg:w.getD i 0=c:=by rw [List.getD,hc]; rfl
   rw [eg] at q1
   walk_at "w"
   refine ⟨_,rfl,?_⟩
   show R (if true=true then !(!(Builtin.Str.occurrences (tx [48,49,50,51,52,53,54,55,56,57]) (tx [c]) 0 (tx [48,49,50,51,52,53,54,55,56,57]).length 1).isEmpty) else _) H1
   rw [if_pos rfl,or (hw c (List.mem_of_getElem? hc))]
   exact q1
 · intro i c H1 Q1 hc hb s1 k1
   show tVar 1 [none,some (.str (tx [c]))] H1 Q1
   walk_at "w"
   have q1:=k1 _ (Same.refl H1)
   have eg:w.getD i 0=c:=by rw [List.getD,hc]; rfl
   rw [eg] at q1
   exact q1
 · intro l H1 hl1 s1 el
   rw [dI el,List.length_map]
   walk_at "w"
   cases hd:w.all digB with
   | false=>
    rw [decide_eq_true]
    · refine iteT ?_
      have q1:=q _ s1
      unfold nuL at q1
      rw [if_neg h0,if_pos hd] at q1
      exact q1
    · obtain ⟨c,hc,hn⟩:=List.all_eq_false.mp hd
      obtain ⟨i,hi,e⟩:=List.getElem_of_mem hc
      have:i∈(List.range w.length).filter fun i=>!digB (w.getD i 0):=by
       rw [List.mem_filter]
       refine ⟨List.mem_range.mpr hi,?_⟩
       rw [List.getD,List.getElem?_eq_getElem hi,e]
       simpa using hn
      have:=List.length_pos_of_mem this
      omega
   | true=>
    rw [decide_eq_false]
    · refine iteF ?_
      have q1:∀ H',Same H1 H'→Q (nV (nuL w)) H':=fun H' s'=>q _ (s1.trans s')
      unfold nuL at q1
      rw [if_neg h0,if_neg (by rw [hd]; exact Bool.noConfusion)] at q1
      unfold d0
      rw [aB,aE]
      walk_at "w"
      refine ⟨by rw [aD]; exact aq (by omega),?_⟩
      rw [aD]
      by_cases h2:2 < w.length
      · rw [if_pos h2] at q1
        rw [decide_eq_true (show (2:Int) < ((w.length:Nat):Int) by omega)]
        exact iteT (q1 _ (Same.refl H1))
      · rw [if_neg h2] at q1
        rw [decide_eq_false (show ¬ (2:Int) < ((w.length:Nat):Int) by omega)]
        refine iteF ?_
        refine ⟨by exact aq (by omega),?_⟩
        by_cases h3:w.length=2
        · rw [decide_eq_true (show ((w.length:Nat):Int)=2 by omega)]
          refine iteT ?_
          rw [oV,aD,dJ]
          obtain ⟨c,r,ec⟩:∃ c r,w=c::r:=by
           cases e:w with
           | nil=>exact absurd e h0
           | cons c r=>exact ⟨c,r,rfl⟩
          refine ⟨aq (by omega),bu (a:=c) (by rw [ec]; exact aN (j:=0) rfl) ?_⟩
          walk_at "w"
          have e1:decide ((⟨#[c]⟩:Str)=tx [48])=decide (c=48):=by
           have:(⟨#[c]⟩:Str)=tx [c]:=rfl
           rw [this,fB]
           simp
          rw [e1]
          by_cases h4:c=48
          · rw [if_pos ⟨h3,by rw [ec,h4]; rfl⟩] at q1
            rw [decide_eq_true h4]
            exact iteT (q1 _ (Same.refl H1))
          · rw [if_neg (fun z=>h4 (by have:=z.2; rw [ec] at this; simpa using this))] at q1
            rw [decide_eq_false h4]
            exact iteF (ed hd (by omega) q1)
        · rw [if_neg (fun z=>h3 z.1)] at q1
          rw [decide_eq_false (show ¬ ((w.length:Nat):Int)=2 by omega)]
          exact iteF (ed hd (by omega) q1)
    · have:(List.range w.length).filter (fun i=>!digB (w.getD i 0))=[]:=by
       rw [List.filter_eq_nil_iff]
       intro i hi
       have hi':=List.mem_range.mp hi
       rw [List.getD,List.getElem?_eq_getElem hi']
       have:=List.all_eq_true.mp hd _ (List.getElem_mem hi')
       simpa using this
      rw [this]
      simp
theorem qh {l:List Int} {k:Nat} (h:k < l.length):l.getD k 0∈l:=by
 rw [List.getD,List.getElem?_eq_getElem h]; exact List.getElem_mem h
theorem nk (num:Nat→Int):∀ k,argBest (fun i j=>decide (num i > num j)) k≤k∧∀ j,j≤k→num j≤num (argBest (fun i j=>decide (num i > num j)) k)
 | 0=>⟨Nat.le_refl _,fun j hj=>by rw [show j=0 by omega]; exact Int.le_refl _⟩
 | k+1=>by
  obtain ⟨a,b⟩:=nk num k
  rw [argBest]
  by_cases h:num (k+1) > num (argBest (fun i j=>decide (num i > num j)) k)
  · rw [if_pos (decide_eq_true h)]
    refine ⟨Nat.le_refl _,fun j hj=>?_⟩
    by_cases e:j=k+1
    · rw [e]; exact Int.le_refl _
    · have:=b j (by omega); omega
  · rw [if_neg (by simpa using h)]
    refine ⟨by omega,fun j hj=>?_⟩
    by_cases e:j=k+1
    · rw [e]; omega
    · exact b j (by omega)
theorem rE {l:List Int} (h:l≠[]) (x:Int):maxI l < x↔∀ y∈l,y < x:=by
 have hl:0 < l.length:=List.length_pos_iff.mpr h
 obtain ⟨a,b⟩:=nk (fun i=>l.getD i 0) (l.length - 1)
 unfold maxI
 generalize argBest (fun i j=>decide (l.getD i 0 > l.getD j 0)) (l.length - 1)=k at*
 constructor
 · intro hx y hy
   obtain ⟨j,hj,rfl⟩:=List.mem_iff_getElem.mp hy
   have:=b j (by omega)
   have e:l.getD j 0=l[j]:=by rw [List.getD,List.getElem?_eq_getElem hj]; rfl
   simp only [e] at this
   omega
 · intro hx
   exact hx _ (qh (by omega))
theorem qi (l:List Int):cntD l≤l.length:=by
 unfold cntD
 exact firstMet_length_le _ _
def ofC (m g:Int) (nm:List Nat) (s:Int) (cs:List Int):Bool:=!decide (cs=[])&&decide cs.Nodup&&cs.all (fun c=>decide (c < m))&&(!decide (nm=nmC .Count)||(decide (1≤s)&&decide (s≤g)))
def aG (K:PySem.W.Frag):Sp:=fun vs H Q _=>∃ (p L:Addr) (h w g n s:Int) (nm:List Nat) (cs:List Int),vs=[.ref p,.str (tx nm),.int n,.int s,.ref L]∧IsFl H p h w g∧FlOk h w g∧H L=some (.lst (cs.map V.int))∧cs.length≤401∧
 (ofC (h*w) g nm s cs=false→∀ H',Same H H'→Q .non H')∧(ofC (h*w) g nm s cs=true→∀ t H',Same H H'→H t=none→H' t=some (.tup [.str (tx nm),.ref L,.int n,.int s])→Q (.ref t) H')
theorem iE {K:PySem.W.Frag} {vs:List V} {H:Hp} {Q:VK} {E:XK} (h:aG K vs H Q E):vs.length=5:=by
 obtain ⟨_,_,_,_,_,_,_,_,_,rfl,_⟩:=h; rfl
def dB (K:PySem.W.Frag):TS:=
 (tSeq (tIfS (tAnd (tTest (tOp (cEq K) (tVar 1) (tC (.str (tx [99,111,117,110,116]))))) (tNot (tTest (gW (cCmp fun i j=>decide (i≤j)) (cCmp fun i j=>decide (i≤j)) (tC (.int 1)) (tVar 3) (tOp cIx (tVar 0) (tC (.int 2))))))) (tRet (tC .non)) tNext)
  (tRet (tTup (tCons (tVar 1) (tCons (tVar 4) (tCons (tVar 2) (tCons (tVar 3) tNil)))))))
def bK (K:PySem.W.Frag):TS:=
 (tSeq (tAsg (tOp cMul (tOp cIx (tVar 0) (tC (.int 0))) (tOp cIx (tVar 0) (tC (.int 1)))) (gName 5))
  (tSeq (tIfS (tOr (tTest (tOp (cEq K) (tCB kLen (tCons (tVar 4) tNil)) (tC (.int 0)))) (tOr (tTest (tOp (cCmp fun i j=>decide (i < j)) (iS (tVar 4)) (tCB kLen (tCons (tVar 4) tNil)))) (tTest (tOp (cCmp fun i j=>decide (j≤i)) (tCB l9 (tCons (tVar 4) tNil)) (tVar 5))))) (tRet (tC .non)) tNext)
  (dB K)))
theorem iF {K:PySem.W.Frag} {vs:List V} {H:Hp} {Q:VK} {E:XK} (h:aG K vs H Q E):bK K { nx:=fun _ H'=>Q .non H',rt:=Q } (start ["_law_floor_here","_law_name","_law_number_here","_law_sign_here","_law_cells_here","_law_many"] vs) H:=by
 obtain ⟨p,L,h,w,g,n,s,nm,cs,rfl,ha,F,hL,hn,q0,q1⟩:=h
 obtain ⟨h0,h1,w0,w1,m16,g0,g1⟩:=F
 show bK K _ [some (.ref p),some (.str (tx nm)),some (.int n),some (.int s),some (.ref L),none] H
 unfold bK
 walk_at "w"
 refine ixT ha (v:=V.int h) rfl ?_
 walk_at "w"
 refine ixT ha (v:=V.int w) rfl ?_
 walk_at "w"
 refine ⟨fR h0 h1,?_⟩
 rw [aE]
 walk_at "w"
 rw [dI hL,List.length_map]
 walk_at "w"
 by_cases e0:cs=[]
 · rw [decide_eq_true (by rw [e0]; rfl)]
   exact iteT (q0 (by unfold ofC; rw [decide_eq_true e0]; rfl) _ (Same.refl H))
 have hp:0 < cs.length:=List.length_pos_iff.mpr e0
 rw [decide_eq_false (show ¬ ((cs.length:Nat):Int)=0 by omega)]
 refine iteF ?_
 refine ⟨L,cs,rfl,hL,by omega,?_⟩
 rw [dI hL,List.length_map]
 walk_at "w"
 have hcl:=nc cs
 by_cases hd:cs.Nodup
 · rw [decide_eq_false (by rw [hcl.mpr hd]; omega)]
   refine iteF ?_
   refine ud hL hp ?_
   walk_at "w"
   by_cases hm:maxI cs < h*w
   · rw [decide_eq_false (show ¬ h*w≤maxI cs by omega)]
     refine iteF ?_
     have ha':cs.all (fun c=>decide (c < h*w))=true:=by
      rw [List.all_eq_true]
      intro y hy
      exact decide_eq_true ((rE e0 _).mp hm y hy)
     have eC:ofC (h*w) g nm s cs=(!decide (nm=nmC .Count)||(decide (1≤s)&&decide (s≤g))):=by
      unfold ofC
      rw [decide_eq_false e0,decide_eq_true hd,ha']
      rfl
     rw [eC] at q0 q1
     have fin:(!decide (nm=nmC .Count)||(decide (1≤s)&&decide (s≤g)))=true→tRet (tTup (tCons (tVar 1) (tCons (tVar 4) (tCons (tVar 2) (tCons (tVar 3) tNil))))) { nx:=fun _ H'=>Q .non H',rt:=Q } [some (.ref p),some (.str (tx nm)),some (.int n),some (.int s),some (.ref L),some (.int (h*w))] H:=fun hb=>by
      walk_at "w"
      exact ⟨aq (by show (4:Nat)≤1000; decide),fun t ht=>q1 hb t _ ((Same.refl H).laid ht) ht ag⟩
     unfold dB
     rw [aB,aE]
     walk_at "w"
     rw [fB]
     by_cases hk:nm=nmC .Count
     · rw [decide_eq_true (show nm=[99,111,117,110,116] from hk)]
       refine iteT ?_
       rw [decide_eq_true hk] at q0 fin
       unfold gW
       walk_at "w"
       by_cases c4:1≤s
       · rw [decide_eq_true c4] at q0 fin ⊢
         walk_at "w"
         refine ixT ha (v:=V.int g) rfl ?_
         walk_at "w"
         by_cases c5:s≤g
         · rw [decide_eq_true c5] at fin ⊢
           exact iteF (fin rfl)
         · rw [decide_eq_false c5] at q0 ⊢
           exact iteT (q0 rfl _ (Same.refl H))
       · rw [decide_eq_false c4] at q0 ⊢
         walk_at "w"
         exact q0 rfl _ (Same.refl H)
     · rw [decide_eq_false (show ¬ nm=[99,111,117,110,116] from hk)]
       exact iteF (fin (by rw [decide_eq_false hk]; rfl))
   · rw [decide_eq_true (show h*w≤maxI cs by omega)]
     refine iteT (q0 ?_ _ (Same.refl H))
     have:cs.all (fun c=>decide (c < h*w))=false:=by
      rw [Bool.eq_false_iff]
      intro z
      exact hm ((rE e0 _).mpr fun y hy=>of_decide_eq_true (List.all_eq_true.mp z y hy))
     unfold ofC
     rw [this]
     simp
 · rw [decide_eq_true (by
    have h1:cntD cs≠cs.length:=fun z=>hd (hcl.mp z)
    have h2:=qi cs
    omega)]
   refine iteT (q0 ?_ _ (Same.refl H))
   unfold ofC
   rw [decide_eq_false hd]
   simp
theorem ot:∀ (l:List Nat) (a:Nat),a≤l.foldl (fun a c=>10*a+(c - 48)) a
 | [],a=>Nat.le_refl _
 | c::r,a=>by
  rw [List.foldl_cons]
  have:=ot r (10*a+(c - 48))
  omega
theorem qj (w:List Nat):nuL w=(numW w).bind fun n=>if n < 100 then some n else none:=by
 unfold nuL numW badH
 by_cases h0:w=[]
 · subst h0; rfl
 rw [if_neg h0,decide_eq_false h0]
 cases hd:w.all digB with
 | false=>
  rw [if_pos rfl]
  split <;> simp
 | true=>
  rw [if_neg (fun z=>Bool.noConfusion z)]
  have hc:∀ c∈w,48≤c∧c≤57:=fun c hc=>by have:=List.all_eq_true.mp hd c hc; simpa [digB] using this
  match w,h0 with
  | [c],_=>
   have:=hc c (by simp)
   simp
   omega
  | [c,d],_=>
   have h1:=hc c (by simp)
   have h2:=hc d (by simp)
   simp
   by_cases h:c=48
   · simp [h]
   · simp [h]; omega
  | c::d::e::r,_=>
   have h1:=hc c (by simp)
   rw [if_pos (by simp)]
   by_cases h9:9 < (c::d::e::r).length
   · rw [decide_eq_true h9]; simp
   · rw [decide_eq_false h9]
     by_cases h:c=48
     · simp [h]
     · have hb:(false||false||decide ((c::d::e::r).head? =some 48)&&!decide (c::d::e::r=[48]))=false:=by simp [h]
       rw [hb,if_neg Bool.false_ne_true,if_pos rfl]
       have:=ot r (10*(10*(10*0+(c - 48))+(d - 48))+(e - 48))
       rw [List.foldl_cons,List.foldl_cons,List.foldl_cons,Option.bind_some,if_neg (by omega)]
def celL (w:List Nat):Int:=((nuL w).getD 0:Nat)
theorem ue {w:List Nat} {lo hi:Int} (h:hi≤99):inW (numW w) lo hi=inW (nuL w) lo hi:=by
 rw [qj]
 cases numW w with
 | none=>rfl
 | some n=>
  rw [Option.bind_some]
  by_cases hn:n < 100
  · rw [if_pos hn]
  · rw [if_neg hn]
    show (decide (lo≤n)&&decide ((n:Int)≤hi))=false
    rw [decide_eq_false (show ¬ (n:Int)≤hi by omega),Bool.and_false]
theorem lA {w:List Nat} {n:Nat} (h:nuL w=some n):numW w=some n∧n < 100:=by
 rw [qj] at h
 cases e:numW w with
 | none=>rw [e] at h; cases h
 | some k=>
  rw [e,Option.bind_some] at h
  by_cases hn:k < 100
  · rw [if_pos hn] at h; cases h; exact ⟨rfl,hn⟩
  · rw [if_neg hn] at h; cases h
theorem iW {w:List Nat} (h:nuL w=none) {lo hi:Int} (hh:hi≤99):inW (numW w) lo hi=false:=by
 rw [ue hh,h]; rfl
theorem eB {w:List Nat} (h:nuL w≠none):∃ n:Nat,nuL w=some n∧numW w=some n∧n < 100∧celL w=n∧celW w=n:=by
 cases e:nuL w with
 | none=>exact absurd e h
 | some n=>
  obtain ⟨a,b⟩:=lA e
  exact ⟨n,rfl,a,b,by unfold celL; rw [e]; rfl,by unfold celW; rw [a]; rfl⟩
theorem eQ (n:Nat) (lo hi:Int):inW (some n) lo hi=(decide (lo≤n)&&decide ((n:Int)≤hi)):=rfl
def ofP (m:Int) (cs:List Int):Bool:=!decide (cs=[])&&decide cs.Nodup&&cs.all (fun c=>decide (c < m))
theorem sJ {m:Int} (hm:m≤16) (ws:List (List Nat)):accT m ws=(!decide (none∈ws.map nuL)&&ofP m (ws.map celL)):=by
 by_cases hn:none∈ws.map nuL
 · rw [decide_eq_true hn]
   obtain ⟨w,hw,e⟩:=List.mem_map.mp hn
   have:ws.all (okC m)=false:=by
    rw [Bool.eq_false_iff]
    intro z
    have:=List.all_eq_true.mp z w hw
    unfold okC at this
    rw [iW e (by omega)] at this
    cases this
   unfold accT
   rw [this]
   simp
 · rw [decide_eq_false hn]
   have hs:∀ w∈ws,∃ n:Nat,nuL w=some n∧numW w=some n∧n < 100∧celL w=n∧celW w=n:=fun w hw=>eB fun e=>hn (List.mem_map.mpr ⟨w,hw,e⟩)
   have e1:ws.map celW=ws.map celL:=List.map_congr_left fun w hw=>by obtain ⟨n,_,_,_,a,b⟩:=hs w hw; rw [a,b]
   have e2:ws.all (okC m)=(ws.map celL).all (fun c=>decide (c < m)):=by
    rw [List.all_map,Bool.eq_iff_iff,List.all_eq_true,List.all_eq_true]
    have tt:∀ w∈ws,okC m w=decide (celL w < m):=fun w hw=>by
     obtain ⟨n,_,b,_,c,_⟩:=hs w hw
     unfold okC
     rw [b,eQ,c,decide_eq_true (show (0:Int)≤n by omega),Bool.true_and,Bool.eq_iff_iff,decide_eq_true_iff,decide_eq_true_iff]
     omega
    constructor
    · intro h w hw; rw [← h w hw,tt w hw]; rfl
    · intro h w hw; rw [← h w hw,tt w hw]; rfl
   unfold accT ofP
   rw [e1,e2]
   simp
   cases (ws.map celL).all (fun c=>decide (c < m)) <;> cases decide (ws.map celL).Nodup <;> simp
def cO (k1 k2:RK):List Str:=[tx (nmC k1),tx (nmC k2)]
def duL (m g:Int) (nm:List Nat) (rest:List (List Nat)):Option (Int × Int × List Int):=
 if none∈rest.map nuL then none
 else if tx nm∈ar then (match rest with
  | [x]=>if 1≤celL x∧celL x≤g then some (0,celL x,rngL 0 m) else none
  | _=>none)
 else if tx nm∈cO .Unlike .Rising then (if ofC m g nm 0 (rest.map celL)=true then some (0,0,rest.map celL) else none)
 else if tx nm∈cO .Sum .Seen∧1 < rest.length then (match rest with
  | x::r=>if ofC m g nm 0 (r.map celL)=true then some (celL x,0,r.map celL) else none
  | []=>none)
 else if nm=nmC .Count∧2 < rest.length then (match rest with
  | x::y::r=>if ofC m g nm (celL y) (r.map celL)=true then some (celL x,celL y,r.map celL) else none
  | _=>none)
 else none
def r3 (y:Nat × Nat × RK × List Int):Int × Int × List Int:=(y.1,y.2.1,y.2.2.2)
theorem rF {m g s:Int} {nm:List Nat} {cs:List Int} (h:nm≠nmC .Count):ofC m g nm s cs=ofP m cs:=by
 unfold ofC ofP
 rw [decide_eq_false h]
 simp
theorem uO {m g s:Int} {cs:List Int}:ofC m g (nmC .Count) s cs=(ofP m cs&&(decide (1≤s)&&decide (s≤g))):=by
 unfold ofC ofP
 simp
theorem sK {ws:List (List Nat)} (hn:¬ none∈ws.map nuL):ws.map celW=ws.map celL:=
 List.map_congr_left fun w hw=>by obtain ⟨n,_,_,_,a,b⟩:=eB (fun e=>hn (List.mem_map.mpr ⟨w,hw,e⟩)); rw [a,b]
theorem gI {m:Int} (hm:m≤16) {nm:List Nat} {ws:List (List Nat)} {k:RK} (ha:¬ tx nm∈ar) (hk:kOf nm=some k):bS m nm ws=if none∈ws.map nuL then none else if ofP m (ws.map celL)=true then some (k,ws.map celL) else none:=by
 unfold bS cr
 rw [if_neg ha,hk,sJ hm]
 by_cases hn:none∈ws.map nuL
 · rw [if_pos hn,decide_eq_true hn]; rfl
 · rw [if_neg hn,decide_eq_false hn,sK hn]
   cases ofP m (ws.map celL) <;> rfl
theorem none_cons {x:List Nat} {r:List (List Nat)}:none∈(x::r).map nuL↔nuL x=none∨none∈r.map nuL:=by
 rw [List.map_cons,List.mem_cons]
 constructor
 · rintro (h | h)
   · exact .inl h.symm
   · exact .inr h
 · rintro (h | h)
   · exact .inl h.symm
   · exact .inr h
theorem qW {nm:List Nat} (h:kOf nm=none):∀ k,k≠.Rule→nm≠nmC k:=by
 intro k hk e
 subst e
 cases k <;> first | exact hk rfl | (revert h; decide)
theorem nq {nm:List Nat} {k:RK} (h:kOf nm=some k):k≠.Rule∧nm=nmC k:=by
 unfold kOf at h
 repeat' split at h
 all_goals first | cases h; exact ⟨fun z=>(by cases z),by assumption⟩ | cases h
theorem tx_mem2 {nm:List Nat} {k1 k2:RK}:tx nm∈cO k1 k2↔nm=nmC k1∨nm=nmC k2:=by
 unfold cO
 simp only [List.mem_cons,List.not_mem_nil,or_false]
 exact ⟨fun h=>h.imp eM eM,fun h=>h.imp (congrArg tx) (congrArg tx)⟩
theorem tx_memA {nm:List Nat}:tx nm∈ar↔nm=nmC .Joined∨nm=nmC .NoSquare∨nm=nmC .Ring:=by
 unfold ar
 simp only [List.mem_cons,List.not_mem_nil,or_false]
 exact ⟨fun h=>h.imp eM fun h=>h.imp eM eM,fun h=>h.imp (congrArg tx) fun h=>h.imp (congrArg tx) (congrArg tx)⟩
theorem sL {m g:Int} {nm:List Nat} {rest:List (List Nat)} (h:kOf nm=none):duL m g nm rest=none:=by
 have hn:=qW h
 unfold duL
 by_cases h0:none∈rest.map nuL
 · rw [if_pos h0]
 rw [if_neg h0,if_neg (fun z=>by rcases tx_memA.mp z with z | z | z <;> exact hn _ (fun e=>by cases e) z),if_neg (fun z=>by rcases tx_mem2.mp z with z | z <;> exact hn _ (fun e=>by cases e) z),
  if_neg (fun z=>by rcases tx_mem2.mp z.1 with z | z <;> exact hn _ (fun e=>by cases e) z),if_neg (fun z=>hn .Count (fun e=>by cases e) z.1)]
theorem qX {m g:Int} {nm:List Nat} {rest:List (List Nat)} (h:kOf nm=none):accR m g (nm::rest)=none:=by
 have a8:∀ r,bS m nm r=none:=fun r=>by unfold bS; rw [h]; cases cr m nm r <;> rfl
 have a7:∀ r,cJ m g nm r=none:=fun r=>by
  unfold cJ
  split
  · split
    · rfl
    · rw [a8]; split <;> rfl
  · rw [a8]; rfl
 show cu m g nm rest=none
 unfold cu
 split
 · split
   · rfl
   · rw [a7]; split <;> rfl
 · rw [a7]; rfl
theorem rG {x:List Nat}:inW (numW x) 0 99=!decide (nuL x=none):=by
 cases e:nuL x with
 | none=>rw [iW e (by omega)]; rfl
 | some n=>
  obtain ⟨a,b⟩:=lA e
  rw [a,eQ,decide_eq_true (show (0:Int)≤n by omega),decide_eq_true (show (n:Int)≤99 by omega)]; rfl
section
variable {m g:Int} {k:RK} {rest:List (List Nat)} (hm:m≤16) (hg:g≤6) (hk:kOf (nmC k)=some k)
include hm hk
theorem qk (hA:¬ tx (nmC k)∈ar) (hN:¬ tx (nmC k)∈aQ) (hS:¬ tx (nmC k)∈aX) (hu:tx (nmC k)∈cO .Unlike .Rising) (hc:nmC k≠nmC .Count):duL m g (nmC k) rest=(accR m g (nmC k::rest)).map r3:=by
 show _=(cu m g (nmC k) rest).map r3
 unfold duL cu cJ
 rw [if_neg hN,if_neg hS,gI hm hA hk,if_neg hA,if_pos hu,rF hc]
 by_cases h0:none∈rest.map nuL
 · rw [if_pos h0,if_pos h0]; rfl
 · rw [if_neg h0,if_neg h0]
   cases ofP m (rest.map celL) <;> rfl
theorem ql (hA:¬ tx (nmC k)∈ar) (hN:tx (nmC k)∈aQ) (hS:¬ tx (nmC k)∈aX) (hu:¬ tx (nmC k)∈cO .Unlike .Rising) (hs:tx (nmC k)∈cO .Sum .Seen) (hc:nmC k≠nmC .Count):duL m g (nmC k) rest=(accR m g (nmC k::rest)).map r3:=by
 show _=(cu m g (nmC k) rest).map r3
 unfold cu
 rw [if_pos hN]
 cases rest with
 | nil=>
  unfold duL
  rw [if_neg (fun z=>nomatch z),if_neg hA,if_neg hu,if_neg (fun z=>by have:=z.2; simp at this),if_neg (fun z=>hc z.1)]
  rfl
 | cons x r=>
  dsimp only
  unfold cJ
  rw [if_neg hS,rG,gI hm hA hk]
  unfold duL
  by_cases hx:nuL x=none
  · rw [if_pos (none_cons.mpr (.inl hx)),decide_eq_true hx]; rfl
  · obtain ⟨n,a,b,c,d,e⟩:=eB hx
    rw [decide_eq_false hx,b]
    by_cases hr:none∈r.map nuL
    · rw [if_pos (none_cons.mpr (.inr hr)),if_pos hr]; rfl
    · rw [if_neg (fun z=>(none_cons.mp z).elim hx hr),if_neg hr,if_neg hA,if_neg hu]
      cases r with
      | nil=>rw [if_neg (fun z=>by have:=z.2; simp at this),if_neg (fun z=>hc z.1)]; rfl
      | cons y r'=>
       rw [if_pos ⟨hs,by simp⟩]
       dsimp only
       rw [rF hc,d]
       cases ofP m ((y::r').map celL) <;> rfl
include hg
theorem nr (hA:tx (nmC k)∈ar) (hN:¬ tx (nmC k)∈aQ) (hS:tx (nmC k)∈aX):duL m g (nmC k) rest=(accR m g (nmC k::rest)).map r3:=by
 show _=(cu m g (nmC k) rest).map r3
 unfold cu cJ
 rw [if_neg hN,if_pos hS]
 match rest with
 | []=>
  unfold duL
  rw [if_neg (fun z=>nomatch z),if_pos hA]
  rfl
 | [x]=>
  dsimp only
  have a8:bS m (nmC k) []=some (k,rngL 0 m):=by
   unfold bS cr
   rw [if_pos hA,if_pos rfl,hk]
  rw [a8]
  unfold duL
  by_cases hx:nuL x=none
  · rw [if_pos (none_cons.mpr (.inl hx)),iW hx (by omega)]; rfl
  · obtain ⟨n,a,b,c,d,e⟩:=eB hx
    rw [if_neg (fun z=>(none_cons.mp z).elim hx (fun z=>List.not_mem_nil z)),if_pos hA,b,eQ]
    dsimp only
    rw [d]
    by_cases h1:(1:Int)≤n∧(n:Int)≤g
    · rw [if_pos h1,decide_eq_true h1.1,decide_eq_true h1.2]; rfl
    · rw [if_neg h1]
      have:(decide ((1:Int)≤n)&&decide ((n:Int)≤g))=false:=by
       rw [Bool.eq_false_iff]
       intro z
       rw [Bool.and_eq_true,decide_eq_true_iff,decide_eq_true_iff] at z
       exact h1 z
      rw [this]; rfl
 | x::y::r=>
  dsimp only
  have a8:bS m (nmC k) (y::r)=none:=by
   unfold bS cr
   rw [if_pos hA,if_neg (by simp)]
  rw [a8]
  unfold duL
  rw [if_pos hA]
  dsimp only
  cases inW (numW x) 1 g <;> split <;> rfl
end
theorem uf {m g:Int} {rest:List (List Nat)} (hm:m≤16) (hg:g≤6):duL m g (nmC .Count) rest=(accR m g (nmC .Count::rest)).map r3:=by
 have hA:¬ tx (nmC .Count)∈ar:=by decide
 have hN:tx (nmC .Count)∈aQ:=by decide
 have hS:tx (nmC .Count)∈aX:=by decide
 have hu:¬ tx (nmC .Count)∈cO .Unlike .Rising:=by decide
 have hs:¬ tx (nmC .Count)∈cO .Sum .Seen:=by decide
 show _=(cu m g (nmC .Count) rest).map r3
 unfold cu
 rw [if_pos hN]
 match rest with
 | []=>
  unfold duL
  rw [if_neg (fun z=>nomatch z),if_neg hA,if_neg hu,if_neg (fun z=>hs z.1),if_neg (fun z=>by have:=z.2; simp at this)]
  rfl
 | [x]=>
  dsimp only
  unfold cJ
  rw [if_pos hS]
  dsimp only
  have e:duL m g (nmC .Count) [x]=none:=by
   unfold duL
   by_cases h0:none∈[x].map nuL
   · rw [if_pos h0]
   · rw [if_neg h0,if_neg hA,if_neg hu,if_neg (fun z=>hs z.1),if_neg (fun z=>absurd z.2 (by show ¬ 2 < 1; decide))]
  rw [e]
  cases inW (numW x) 0 99 <;> rfl
 | x::y::r=>
  dsimp only
  unfold cJ
  rw [if_pos hS]
  dsimp only
  rw [rG,gI hm hA rfl]
  unfold duL
  by_cases hx:nuL x=none
  · rw [if_pos (none_cons.mpr (.inl hx)),decide_eq_true hx]; rfl
  obtain ⟨n,a,b,c,d,e⟩:=eB hx
  rw [decide_eq_false hx,b]
  by_cases hy:nuL y=none
  · rw [if_pos (none_cons.mpr (.inr (none_cons.mpr (.inl hy)))),iW hy (by omega)]; rfl
  obtain ⟨n',a',b',c',d',e'⟩:=eB hy
  rw [b',eQ]
  by_cases hr:none∈r.map nuL
  · rw [if_pos (none_cons.mpr (.inr (none_cons.mpr (.inr hr)))),if_pos hr]
    cases (decide ((1:Int)≤n')&&decide ((n':Int)≤g)) <;> rfl
  · rw [if_neg (fun z=>(none_cons.mp z).elim hx fun z=>(none_cons.mp z).elim hy hr),if_neg hr,if_neg hA,if_neg hu,if_neg (fun z=>hs z.1)]
    cases r with
    | nil=>
     rw [if_neg (fun z=>absurd z.2 (by show ¬ 2 < 2; decide))]
     cases (decide ((1:Int)≤n')&&decide ((n':Int)≤g)) <;> rfl
    | cons z r'=>
     rw [if_pos ⟨rfl,by simp⟩]
     dsimp only
     rw [uO,d,d']
     cases ofP m ((z::r').map celL) <;> cases (decide ((1:Int)≤n')&&decide ((n':Int)≤g)) <;> rfl
theorem qm {m g:Int} {nm:List Nat} {rest:List (List Nat)} (hm:m≤16) (hg:g≤6):duL m g nm rest=(accR m g (nm::rest)).map r3:=by
 cases e:kOf nm with
 | none=>rw [sL e,qX e]; rfl
 | some k=>
  obtain ⟨hk,rfl⟩:=nq e
  cases k with
  | Rule=>exact absurd rfl hk
  | Unlike=>exact qk hm e (by decide) (by decide) (by decide) (by decide) (by decide)
  | Sum=>exact ql hm e (by decide) (by decide) (by decide) (by decide) (by decide) (by decide)
  | Rising=>exact qk hm e (by decide) (by decide) (by decide) (by decide) (by decide)
  | Seen=>exact ql hm e (by decide) (by decide) (by decide) (by decide) (by decide) (by decide)
  | Count=>exact uf hm hg
  | Joined=>exact nr hm hg e (by decide) (by decide) (by decide)
  | NoSquare=>exact nr hm hg e (by decide) (by decide) (by decide)
  | Ring=>exact nr hm hg e (by decide) (by decide) (by decide)
theorem sM {K:PySem.W.Frag} {H:Hp} {Q:VK} {p:Addr} {s:Str} {ws:List Str} (h:H p=some (.tup (ws.map V.str))):cIn K false (.str s) (.ref p) H Q=Q (.bl (decide (s∈ws))) H:=by
 unfold cIn; dsimp only; rw [h]; dsimp only [unD,unS,bnd]
 rw [gF,fV]
 simp [flatV]
theorem kH {K:PySem.W.Frag} {H:Hp} {Q:VK} {T:Addr} {s:Str} {ws:List Str} {xs:List V} (e:xs=ws.map V.str) (hT:H T=none) (k:∀ H1,Same H H1→Q (.bl (decide (s∈ws))) H1):cIn K false (.str s) (.ref T) (upd H T (.tup xs)) Q:=by
 subst e
 rw [sM ag]
 exact k _ ((Same.refl H).laid hT)
theorem kb:∀ os:List (Option Nat),inV .non (os.map nV)=decide (none∈os)
 | []=>by simp [inV]
 | o::r=>by
  have ih:=kb r
  unfold inV at ih ⊢
  rw [List.map_cons,List.any_cons,ih]
  cases o with
  | none=>simp [nV]; exact .inl rfl
  | some n=>
   have:eqV (nV (some n)) .non=false:=rfl
   rw [this]
   simp
theorem jh:∀ os:List (Option Nat),(os.map nV).all flatV=true
 | []=>rfl
 | o::r=>by
  rw [List.map_cons,List.all_cons,jh r]
  cases o <;> rfl
theorem qo {K:PySem.W.Frag} {H:Hp} {Q:VK} {p:Addr} {os:List (Option Nat)} (h:H p=some (.lst (os.map nV))):cIn K false .non (.ref p) H Q=Q (.bl (decide (none∈os))) H:=by
 unfold cIn; dsimp only; rw [h]; dsimp only [unD,unS,bnd]
 rw [kb,jh]
 simp [flatV]
abbrev QD (m g:Int) (nm:List Nat) (rest:List (List Nat)) (H:Hp) (Q:VK):Prop:=(duL m g nm rest=none→∀ H',Same H H'→Q .non H')∧
 (∀ n s cs,duL m g nm rest=some (n,s,cs)→∀ t L H',Same H H'→H t=none→H L=none→H' L=some (.lst (cs.map V.int))→H' t=some (.tup [.str (tx nm),.ref L,.int n,.int s])→Q (.ref t) H')
def bH (K:PySem.W.Frag):Sp:=fun vs H Q _=>∃ (p:Addr) (v:V) (h w g:Int),vs=[.ref p,v]∧IsFl H p h w g∧FlOk h w g∧
 ((∃ nm rest,v=.str (tx (catL 32 (nm::rest)))∧LnOk (nm::rest)∧QD (h*w) g nm rest H Q)∨(NoStr H v∧∀ H',Same H H'→Q .non H'))
theorem lR {K:PySem.W.Frag} {vs:List V} {H:Hp} {Q:VK} {E:XK} (h:bH K vs H Q E):vs.length=2:=by
 obtain ⟨_,_,_,_,_,rfl,_⟩:=h; rfl
def dj (K:PySem.W.Frag):TS:=
 (tSeq (tIfS (tAnd (tTest (tOp (cEq K) (tVar 3) (tC (.str (tx [99,111,117,110,116]))))) (tTest (tOp (cCmp fun i j=>decide (j < i)) (tCB kLen (tCons (tVar 4) tNil)) (tC (.int 2))))) (tRet (tCall (aG K) [] E0 (tCons (tVar 0) (tCons (tVar 3) (tCons (tOp cIx (tVar 4) (tC (.int 0))) (tCons (tOp cIx (tVar 4) (tC (.int 1))) (tCons (tSl bQ (tVar 4) (tPart (tC (.int 2))) bb) tNil))))))) tNext)
  (tRet (tC .non)))
def dk (K:PySem.W.Frag):TS:=
 (tSeq (tIfS (tAnd (tTest (tOp (cIn K false) (tVar 3) (tTup (tCons (tC (.str (tx [115,117,109]))) (tCons (tC (.str (tx [115,101,101,110]))) tNil))))) (tTest (tOp (cCmp fun i j=>decide (j < i)) (tCB kLen (tCons (tVar 4) tNil)) (tC (.int 1))))) (tRet (tCall (aG K) [] E0 (tCons (tVar 0) (tCons (tVar 3) (tCons (tOp cIx (tVar 4) (tC (.int 0))) (tCons (tC (.int 0)) (tCons (tSl bQ (tVar 4) (tPart (tC (.int 1))) bb) tNil))))))) tNext)
  (dj K))
def dl (K:PySem.W.Frag):TS:=
 (tSeq (tIfS (tTest (tOp (cIn K false) (tVar 3) (tTup (tCons (tC (.str (tx [117,110,108,105,107,101]))) (tCons (tC (.str (tx [114,105,115,105,110,103]))) tNil))))) (tRet (tCall (aG K) [] E0 (tCons (tVar 0) (tCons (tVar 3) (tCons (tC (.int 0)) (tCons (tC (.int 0)) (tCons (tVar 4) tNil))))))) tNext)
  (dk K))
def dm (K:PySem.W.Frag):TS:=
 (tSeq (tIfS (tTest (tOp (cIn K false) (tVar 3) (tTup (tCons (tC (.str (tx [106,111,105,110,101,100]))) (tCons (tC (.str (tx [110,111,115,113,117,97,114,101]))) (tCons (tC (.str (tx [114,105,110,103]))) tNil)))))) (tSeq (tIfS (tOr (tTest (tOp (cNe K) (tCB kLen (tCons (tVar 4) tNil)) (tC (.int 1)))) (tNot (tTest (gW (cCmp fun i j=>decide (i≤j)) (cCmp fun i j=>decide (i≤j)) (tC (.int 1)) (tOp cIx (tVar 4) (tC (.int 0))) (tOp cIx (tVar 0) (tC (.int 2))))))) (tRet (tC .non)) tNext)
  (tRet (tTup (tCons (tVar 3) (tCons (eK (tCons (tOp cMul (tOp cIx (tVar 0) (tC (.int 0))) (tOp cIx (tVar 0) (tC (.int 1)))) tNil)) (tCons (tC (.int 0)) (tCons (tOp cIx (tVar 4) (tC (.int 0))) tNil))))))) tNext)
  (dl K))
def dn (K:PySem.W.Frag):TS:=
 (tSeq (tIfS (tTest (tOp (cIn K false) (tC .non) (tVar 4))) (tRet (tC .non)) tNext)
  (dm K))
def de (K:PySem.W.Frag):TS:=
 (tSeq (tIfS (tNot (tB (tCB kIsi (tCons (tVar 1) (tCons (tC (.ty "str")) tNil))))) (tRet (tC .non)) tNext)
  (tSeq (tAsg (tBM K "str" ij (tVar 1) (tCons (tC (.str (tx [32]))) tNil)) (gName 2))
  (tSeq (tAsg (tOp cIx (tVar 2) (tC (.int 0))) (gName 3))
  (tSeq (sComp 4 [none,none] (iList K (tSl bQ (tVar 2) (tPart (tC (.int 1))) bb)) (gName 1) tTrue (tCall (bh K) [] E0 (tCons (tVar 1) tNil)))
  (dn K)))))
theorem kc (xs:List V) (k:Nat):cutV xs (some (k:Int)) none=xs.drop k:=by
 have h1:HT.sIx xs.length 0 (some (k:Int))=min k xs.length:=by rw [HT.sIx_nat]
 have h2:HT.sIx xs.length xs.length none=xs.length:=rfl
 unfold cutV
 rw [h1,h2]
 by_cases hk:k≤xs.length
 · rw [Nat.min_eq_left hk,List.take_of_length_le (by simp)]
 · rw [Nat.min_eq_right (by omega),List.drop_length,List.drop_eq_nil_of_le (by omega)]
   simp
def duA (m g:Int) (rest:List (List Nat)):Option (Int × Int × List Int):=match rest with
 | [x]=>if 1≤celL x∧celL x≤g then some (0,celL x,rngL 0 m) else none
 | _=>none
structure Dst (H0 H:Hp) (p N:Addr) (h w g:Int) (rest:List (List Nat)):Prop where
 s0:Same H0 H
 n0:H0 N=none
 ha:IsFl H p h w g
 F:FlOk h w g
 hN:H N=some (.lst ((rest.map celL).map V.int))
 hl:rest.length≤401
theorem Dst.same {H0 H H1:Hp} {p N:Addr} {h w g:Int} {rest:List (List Nat)} (d:Dst H0 H p N h w g rest) (s:Same H H1):Dst H0 H1 p N h w g rest:=⟨d.s0.trans s,d.n0,s _ _ d.ha,d.F,s _ _ d.hN,d.hl⟩
section
variable {K:PySem.W.Frag} {H0 H:Hp} {Q:VK} {p W N:Addr} {h w g:Int} {nm:List Nat} {rest:List (List Nat)} {v:V}
theorem kI {L:Addr} {cs:List Int} {n s:Int} {H1:Hp} (q:QD (h*w) g nm rest H0 Q) (s1:Same H0 H1) (ha:IsFl H1 p h w g) (F:FlOk h w g) (l0:H0 L=none) (eL:H1 L=some (.lst (cs.map V.int))) (hn:cs.length≤401)
  (e:duL (h*w) g nm rest=if ofC (h*w) g nm s cs=true then some (n,s,cs) else none):aG K [.ref p,.str (tx nm),.int n,.int s,.ref L] H1 Q E0:=
 ⟨p,L,h,w,g,n,s,nm,cs,rfl,ha,F,eL,hn,fun hb H' s'=>q.1 (by rw [e,if_neg (by rw [hb]; exact Bool.false_ne_true)]) H' (s1.trans s'),fun hb t H' s' ht et=>q.2 n s cs (by rw [e,if_pos hb]) t L H' (s1.trans s') (s1.free ht) l0 (s' _ _ eL) et⟩
theorem atN {l:List Int} {j:Nat} {x:Int} (h:l[j]? =some x):atI (l.map V.int) (j:Int)=some (.int x):=aN (by rw [List.getElem?_map,h]; rfl)
theorem fE (d:Dst H0 H p N h w g rest) (q:QD (h*w) g nm rest H0 Q) (h0:¬ none∈rest.map nuL) (hA:¬ tx nm∈ar) (hu:¬ tx nm∈cO .Unlike .Rising) (hs:¬ (tx nm∈cO .Sum .Seen∧1 < rest.length)):
  dj K { nx:=fun _ H'=>Q .non H',rt:=Q } [some (.ref p),some v,some (.ref W),some (.str (tx nm)),some (.ref N)] H:=by
 unfold dj
 rw [aB,aE]
 walk_at "w"
 rw [fB]
 have eD:duL (h*w) g nm rest=if nm=nmC .Count∧2 < rest.length then (match rest with
   | x::y::r=>if ofC (h*w) g nm (celL y) (r.map celL)=true then some (celL x,celL y,r.map celL) else none
   | _=>none) else none:=by
  unfold duL
  rw [if_neg h0,if_neg hA,if_neg hu,if_neg hs]
  all_goals rfl
 by_cases hc:nm=nmC .Count
 · rw [decide_eq_true (show nm=[99,111,117,110,116] from hc)]
   refine iteT ?_
   rw [dI d.hN,List.length_map,List.length_map]
   walk_at "w"
   by_cases h2:2 < rest.length
   · rw [if_pos ⟨hc,h2⟩] at eD
     rw [decide_eq_true (show (2:Int) < ((rest.length:Nat):Int) by omega)]
     refine iteT ?_
     obtain ⟨x,y,r,rfl⟩:∃ x y r,rest=x::y::r:=by
      match rest,h2 with
      | x::y::r,_=>exact ⟨x,y,r,rfl⟩
     dsimp only at eD
     walk_at "w"
     refine ixL d.hN (atN (j:=0) (x:=celL x) rfl) (ixL d.hN (atN (j:=1) (x:=celL y) rfl) ?_)
     refine oW d.hN fun L hL=>?_
     rw [show cutV (((x::y::r).map celL).map V.int) (some 2) none=(r.map celL).map V.int from kc _ 2]
     have s1:Same H (upd H L (.lst ((r.map celL).map V.int))):=(Same.refl H).laid hL
     have hl:=d.hl
     exact kI q (d.s0.trans s1) (s1 _ _ d.ha) d.F (d.s0.free hL) ag (by rw [List.length_map]; simp at hl; omega) eD
   · rw [if_neg (fun z=>h2 z.2)] at eD
     rw [decide_eq_false (show ¬ (2:Int) < ((rest.length:Nat):Int) by omega)]
     refine iteF ?_
     walk_at "w"
     exact q.1 eD _ d.s0
 · rw [if_neg (fun z=>hc z.1)] at eD
   rw [decide_eq_false (show ¬ nm=[99,111,117,110,116] from hc)]
   refine iteF ?_
   walk_at "w"
   exact q.1 eD _ d.s0
theorem jt (d:Dst H0 H p N h w g rest) (q:QD (h*w) g nm rest H0 Q) (h0:¬ none∈rest.map nuL) (hA:¬ tx nm∈ar) (hu:¬ tx nm∈cO .Unlike .Rising):
  dk K { nx:=fun _ H'=>Q .non H',rt:=Q } [some (.ref p),some v,some (.ref W),some (.str (tx nm)),some (.ref N)] H:=by
 unfold dk
 rw [aB,aE]
 walk_at "w"
 refine ⟨aq (by show (2:Nat)≤1000; decide),fun T hT=>?_⟩
 refine kH (ws:=cO .Sum .Seen) rfl hT fun H1 s1=>?_
 have d1:=d.same s1
 walk_at "w"
 by_cases hs:tx nm∈cO .Sum .Seen
 · rw [decide_eq_true hs]
   refine iteT ?_
   rw [dI d1.hN,List.length_map,List.length_map]
   walk_at "w"
   by_cases h2:1 < rest.length
   · rw [decide_eq_true (show (1:Int) < ((rest.length:Nat):Int) by omega)]
     refine iteT ?_
     obtain ⟨x,r,rfl⟩:∃ x r,rest=x::r:=by
      match rest,h2 with
      | x::r,_=>exact ⟨x,r,rfl⟩
     have eD:duL (h*w) g nm (x::r)=if ofC (h*w) g nm 0 (r.map celL)=true then some (celL x,0,r.map celL) else none:=by
      unfold duL
      rw [if_neg h0,if_neg hA,if_neg hu,if_pos ⟨hs,h2⟩]
     walk_at "w"
     refine ixL d1.hN (atN (j:=0) (x:=celL x) rfl) ?_
     refine oW d1.hN fun L hL=>?_
     rw [show cutV (((x::r).map celL).map V.int) (some 1) none=(r.map celL).map V.int from kc _ 1]
     have s2:Same H1 (upd H1 L (.lst ((r.map celL).map V.int))):=(Same.refl H1).laid hL
     have hl:=d1.hl
     exact kI q (d1.s0.trans s2) (s2 _ _ d1.ha) d1.F (d1.s0.free hL) ag (by rw [List.length_map]; simp at hl; omega) eD
   · rw [decide_eq_false (show ¬ (1:Int) < ((rest.length:Nat):Int) by omega)]
     refine iteF ?_
     exact fE d1 q h0 hA hu fun z=>h2 z.2
 · rw [decide_eq_false hs]
   refine iteF ?_
   exact fE d1 q h0 hA hu fun z=>hs z.1
theorem ju (d:Dst H0 H p N h w g rest) (q:QD (h*w) g nm rest H0 Q) (h0:¬ none∈rest.map nuL) (hA:¬ tx nm∈ar):
  dl K { nx:=fun _ H'=>Q .non H',rt:=Q } [some (.ref p),some v,some (.ref W),some (.str (tx nm)),some (.ref N)] H:=by
 unfold dl
 rw [aB,aE]
 walk_at "w"
 refine ⟨aq (by show (2:Nat)≤1000; decide),fun T hT=>?_⟩
 refine kH (ws:=cO .Unlike .Rising) rfl hT fun H1 s1=>?_
 have d1:=d.same s1
 walk_at "w"
 by_cases hs:tx nm∈cO .Unlike .Rising
 · rw [decide_eq_true hs]
   refine iteT ?_
   walk_at "w"
   have eD:duL (h*w) g nm rest=if ofC (h*w) g nm 0 (rest.map celL)=true then some (0,0,rest.map celL) else none:=by
    unfold duL
    rw [if_neg h0,if_neg hA,if_pos hs]
   exact kI q d1.s0 d1.ha d1.F d1.n0 d1.hN (by rw [List.length_map]; exact d1.hl) eD
 · rw [decide_eq_false hs]
   refine iteF ?_
   exact jt d1 q h0 hA hs
theorem jv (d:Dst H0 H p N h w g rest) (q:QD (h*w) g nm rest H0 Q) (h0:¬ none∈rest.map nuL):
  dm K { nx:=fun _ H'=>Q .non H',rt:=Q } [some (.ref p),some v,some (.ref W),some (.str (tx nm)),some (.ref N)] H:=by
 unfold dm
 rw [aB,aE]
 walk_at "w"
 refine ⟨aq (by show (3:Nat)≤1000; decide),fun T hT=>?_⟩
 refine kH (ws:=ar) rfl hT fun H1 s1=>?_
 have d1:=d.same s1
 walk_at "w"
 by_cases hs:tx nm∈ar
 · rw [decide_eq_true hs]
   refine iteT ?_
   rw [aE]
   walk_at "w"
   rw [dI d1.hN,List.length_map,List.length_map]
   walk_at "w"
   have eD:duL (h*w) g nm rest=duA (h*w) g rest:=by
    unfold duL duA
    rw [if_neg h0,if_pos hs]
    all_goals rfl
   by_cases h1:rest.length=1
   · rw [decide_eq_true (show ((rest.length:Nat):Int)=1 by omega)]
     refine iteF ?_
     obtain ⟨x,rfl⟩:=List.length_eq_one_iff.mp h1
     have eD:duL (h*w) g nm [x]=if 1≤celL x∧celL x≤g then some (0,celL x,rngL 0 (h*w)) else none:=eD
     obtain ⟨f0,f1,f2,f3,f4,f5,f6⟩:=id d1.F
     unfold gW
     walk_at "w"
     refine ixL d1.hN (atN (j:=0) (x:=celL x) rfl) ?_
     walk_at "w"
     by_cases c4:1≤celL x
     · rw [decide_eq_true c4]
       walk_at "w"
       refine ixT d1.ha (v:=V.int g) rfl ?_
       walk_at "w"
       by_cases c5:celL x≤g
       · rw [decide_eq_true c5]
         rw [if_pos ⟨c4,c5⟩] at eD
         refine iteF ?_
         refine ixT d1.ha (v:=V.int h) rfl ?_
         walk_at "w"
         refine ixT d1.ha (v:=V.int w) rfl ?_
         walk_at "w"
         refine ⟨fR f0 f1,h*w,rfl,by have:=Int.mul_nonneg (show 0≤h by omega) (show 0≤w by omega); omega,by omega,fun L hL=>?_⟩
         have s2:Same H1 (upd H1 L (.lst ((rngL 0 (h*w)).map V.int))):=(Same.refl H1).laid hL
         have eL:(upd H1 L (.lst ((rngL 0 (h*w)).map V.int))) L=some (.lst ((rngL 0 (h*w)).map V.int)):=ag
         generalize upd H1 L (.lst ((rngL 0 (h*w)).map V.int))=H2 at*
         refine ixL (s2 _ _ d1.hN) (atN (j:=0) (x:=celL x) rfl) ?_
         refine ⟨aq (by show (4:Nat)≤1000; decide),fun t ht=>?_⟩
         have s3:Same H2 (upd H2 t (.tup [V.str (tx nm),V.ref L,V.int 0,V.int (celL x)])):=(Same.refl H2).laid ht
         exact q.2 0 (celL x) _ eD t L _ ((d1.s0.trans s2).trans s3) ((d1.s0.trans s2).free ht) (d1.s0.free hL) (s3 _ _ eL) ag
       · rw [decide_eq_false c5]
         rw [if_neg (fun z=>c5 z.2)] at eD
         refine iteT (q.1 eD _ d1.s0)
     · rw [decide_eq_false c4]
       rw [if_neg (fun z=>c4 z.1)] at eD
       walk_at "w"
       exact q.1 eD _ d1.s0
   · rw [decide_eq_false (show ¬ ((rest.length:Nat):Int)=1 by omega)]
     refine iteT (q.1 ?_ _ d1.s0)
     rw [eD]
     unfold duA
     split
     · exact absurd rfl h1
     · rfl
 · rw [decide_eq_false hs]
   refine iteF ?_
   exact ju d1 q h0 hs
theorem jw {os:List (Option Nat)} (eo:os=rest.map nuL) (s0:Same H0 H) (n0:H0 N=none) (ha:IsFl H p h w g) (F:FlOk h w g) (hN:H N=some (.lst (os.map nV))) (hl:rest.length≤401) (q:QD (h*w) g nm rest H0 Q):
  dn K { nx:=fun _ H'=>Q .non H',rt:=Q } [some (.ref p),some v,some (.ref W),some (.str (tx nm)),some (.ref N)] H:=by
 unfold dn
 rw [aB,aE]
 walk_at "w"
 rw [qo hN]
 walk_at "w"
 subst eo
 by_cases h0:none∈rest.map nuL
 · rw [decide_eq_true h0]
   exact iteT (q.1 (by unfold duL; rw [if_pos h0]) _ s0)
 · rw [decide_eq_false h0]
   refine iteF ?_
   have e:(rest.map nuL).map nV=(rest.map celL).map V.int:=by
    rw [List.map_map,List.map_map]
    refine List.map_congr_left fun x hx=>?_
    obtain ⟨n,a,_,_,d,_⟩:=eB (fun e=>h0 (List.mem_map.mpr ⟨x,hx,e⟩))
    show nV (nuL x)=V.int (celL x)
    rw [a,d]; rfl
   rw [e] at hN
   exact jv ⟨s0,n0,ha,F,hN,hl⟩ q h0
end
theorem lS {K:PySem.W.Frag} {vs:List V} {H:Hp} {Q:VK} {E:XK} (h:bH K vs H Q E):de K { nx:=fun _ H'=>Q .non H',rt:=Q } (start ["_law_floor_here","_law_row_here","_law_words","_law_name","_law_numbers"] vs) H:=by
 obtain ⟨p,v,h,w,g,rfl,ha,F,h⟩:=h
 show de K _ [some (.ref p),some v,none,none,none] H
 unfold de
 rw [aB,aE]
 walk_at "w"
 rcases h with ⟨nm,rest,rfl,L,q⟩ | ⟨hN,q2⟩
 · have hsp:Txt.split (tx (catL 32 (nm::rest))) (tx [32])=(nm::rest).map tx:=mP L.ne L.fr
   have hl:=L.len
   have hl2:=L.tot
   walk_at "w"
   refine ⟨iP,?_⟩
   rw [n5,hsp]
   refine ⟨by rw [aD]; decide,by rw [aD]; exact aq (by omega),by rw [List.length_map]; exact aq (by omega),fun W hW=>?_⟩
   have s1:Same H (upd H W (.lst (((nm::rest).map tx).map V.str))):=(Same.refl H).laid hW
   have eW:(upd H W (.lst (((nm::rest).map tx).map V.str))) W=some (.lst (((nm::rest).map tx).map V.str)):=ag
   generalize upd H W (.lst (((nm::rest).map tx).map V.str))=H1 at*
   have e0:atI (((nm::rest).map tx).map V.str) 0=some (V.str (tx nm)):=aN (j:=0) rfl
   walk_at "w"
   refine ixL eW e0 ?_
   walk_at "w"
   refine gH eW fun R hR=>?_
   have s2:Same H1 (upd H1 R (.lst ((((nm::rest).map tx).map V.str).drop 1))):=(Same.refl H1).laid hR
   have eR:(upd H1 R (.lst ((((nm::rest).map tx).map V.str).drop 1))) R=some (.lst ((rest.map tx).map V.str)):=ag
   generalize upd H1 R (.lst ((((nm::rest).map tx).map V.str).drop 1))=H2 at*
   have s12:=s1.trans s2
   have hr:rest.length≤401:=by simp at hl; omega
   walk_at "w"
   refine ⟨⟨_,SqL.of eR⟩,?_⟩
   refine j2 (xs:=(rest.map tx).map V.str) (fun _=>true) (fun i=>nV ((rest.map nuL).getD i none)) (by rw [List.length_map,List.length_map]; omega) (SqL.of eR) ?_ ?_ ?_
   · intro i x H3 R' hx s3 k3
     exact k3 _ (Same.refl _)
   · intro i x H3 Q1 hx hb s3 k3
     rw [List.getElem?_map,List.getElem?_map] at hx
     cases e:rest[i]? with
     | none=>rw [e] at hx; cases hx
     | some y=>
      rw [e] at hx
      cases hx
      show tCall _ _ _ _ [none,some (.str (tx y))] H3 Q1
      walk_at "w"
      refine ⟨y,rfl,L.wd y (List.mem_cons_of_mem _ (List.mem_of_getElem? e)),fun H4 s4=>?_⟩
      have:=k3 H4 s4
      rw [List.getD,List.getElem?_map,e] at this
      exact this
   · intro N H3 hN s3 el
     have eb:((List.range ((rest.map tx).map V.str).length).filter fun _=>true).map (fun i=>nV ((rest.map nuL).getD i none))=(rest.map nuL).map nV:=by
      rw [iq,List.length_map,List.length_map]
      refine List.ext_getElem? fun i=>?_
      rw [List.getElem?_map,List.getElem?_map,List.getElem?_map]
      by_cases h:i < rest.length
      · rw [List.getElem?_range h,List.getElem?_eq_getElem h]
        simp [List.getD,h]
      · rw [List.getElem?_eq_none (by simpa using h),List.getElem?_eq_none (by omega)]; rfl
     rw [eb] at el
     have s13:=s12.trans s3
     exact jw rfl s13 (s12.free hN) (s13 _ _ ha) F el hr q
 · refine qg hN ?_
   walk_at "w"
   exact q2 _ (Same.refl H)
theorem gJ {Q:VK} {H:Hp} {a b:List Nat} (h1:a.length≤400) (h2:b.length≤400) (q:Q (.str (tx (a++b))) H):cAdd (.str (tx a)) (.str (tx b)) H Q:=by
 rw [gt,ir]
 exact ⟨by rw [aD,aD]; exact aq (by omega),q⟩
def bi (K:PySem.W.Frag):Sp:=fun vs H Q _=>∃ n:Int,vs=[.int n]∧∀ c:Nat,c < 128→Q (.str (tx [c])) H
theorem kJ {K:PySem.W.Frag} {vs:List V} {H:Hp} {Q:VK} {E:XK} (h:bi K vs H Q E):vs.length=1:=by
 obtain ⟨_,rfl,_⟩:=h; rfl
def cP (K:PySem.W.Frag):TS:=
 (tRet (tOp cIx (tVar 1) (tOp cMod (tVar 0) (tCB kLen (tCons (tVar 1) tNil)))))
def fc (K:PySem.W.Frag):TS:=
 (tSeq (tAsg (tOp cAdd (tVar 1) (tC (.str (tx [97,98,99,100,101,102,103,104,105,106,107,108,109,110,111,112,113,114,115,116,117,118,119,120,121,122,92])))) (gName 1))
  (cP K))
def cD (K:PySem.W.Frag):TS:=
 (tSeq (tAsg (tC (.str (tx [48,49,50,51,52,53,54,55,56,57,32,48,49,50,51,52,53,54,55,56,57,32,108,107,101,115,116,114,105,103,109,111,32,33,34,35,36,38,39,40,41,42,43,44,45,46,47,58,59,60,61,62,63,64,65,66,67,68,69,70,71,72,73,74,75,76,77,78,79,80,81,82,83,84,85,86,87,88,89,90,91,93,94,95,96,123,124,125,126]))) (gName 1))
  (fc K))
theorem i4 {K:PySem.W.Frag} {H:Hp} {Q:VK} {n:Int} {l:List Nat} (hl:l.length≤400) (h0:0 < l.length) (ha:∀ c∈l,c < 128) (q:∀ c:Nat,c < 128→Q (.str (tx [c])) H):cP K { nx:=fun _ H'=>Q .non H',rt:=Q } [some (.int n),some (.str (tx l))] H:=by
 unfold cP
 walk_at "w"
 rw [aD]
 have m0:0≤n % ((l.length:Nat):Int):=Int.emod_nonneg _ (by omega)
 have m1:n % ((l.length:Nat):Int) < l.length:=Int.emod_lt_of_pos _ (by omega)
 refine ⟨aq (by omega),by omega,?_⟩
 rw [oV,aD,dJ]
 obtain ⟨k,hk⟩:∃ k:Nat,n % ((l.length:Nat):Int)=k:=⟨_,(Int.toNat_of_nonneg m0).symm⟩
 rw [hk] at m1 ⊢
 have hkl:k < l.length:=by omega
 refine ⟨aq (by omega),bu (a:=l[k]) (aN (List.getElem?_eq_getElem hkl)) (q _ (ha _ (List.getElem_mem hkl)))⟩
theorem kK {K:PySem.W.Frag} {vs:List V} {H:Hp} {Q:VK} {E:XK} (h:bi K vs H Q E):cD K { nx:=fun _ H'=>Q .non H',rt:=Q } (start ["_law_number_here","_law_signs"] vs) H:=by
 obtain ⟨n,rfl,q⟩:=h
 show cD K _ [some (.int n),none] H
 unfold cD
 rw [aB,fQ,w_c,bF]
 dsimp only [List.set_cons_succ,List.set_cons_zero]
 unfold fc
 rw [aB,fQ,jl,uD]
 refine ⟨_,rfl,?_⟩
 rw [w_c]
 refine gJ (by decide) (by decide) ?_
 rw [bF]
 dsimp only [List.set_cons_succ,List.set_cons_zero]
 exact i4 (by decide) (by decide) (by decide) q
theorem qY (l:List Nat) (lo hi:Option Int):∃ l',Txt.slice (tx l) lo hi=tx l'∧l'.length≤l.length∧∀ c∈l',c∈l:=by
 refine ⟨(Txt.slice (tx l) lo hi).cps.toList,(j3 _).symm,?_,?_⟩
 · have:=pY (tx l) lo hi
   rw [aD] at this
   simpa [Str.length] using this
 · intro c hc
   unfold Txt.slice at hc
   split at hc
   · rwa [dJ] at hc
   · simp at hc
     obtain ⟨i,_,h⟩:=hc
     have:(tx l).cps[i]? =l[i]? :=by simp [tx]
     rw [this] at h
     exact List.mem_of_getElem? h
abbrev QS (H:Hp) (Q:VK):Prop:=(∀ s:List Nat,s.length≤400→(∀ c∈s,c < 128)→∀ H',Same H H'→Q (.str (tx s)) H')∧(∀ v H',Same H H'→NoStr H' v→Q v H')
def bc (K:PySem.W.Frag):Sp:=fun vs H Q _=>∃ (s:List Nat) (n:Int),vs=[.str (tx s),.int n]∧s.length≤190∧(∀ c∈s,c < 128)∧QS H Q
theorem i5 {K:PySem.W.Frag} {vs:List V} {H:Hp} {Q:VK} {E:XK} (h:bc K vs H Q E):vs.length=2:=by
 obtain ⟨_,_,rfl,_⟩:=h; rfl
def bU (K:PySem.W.Frag):TS:=
 (tSeq (tIfS (tTest (tOp (cEq K) (tVar 2) (tC (.int 4)))) (tRet (tOp cIx (tLst (tCons (tC .non) (tCons (tC (.bl true)) (tCons (tVar 1) (tCons (tLst (tCons (tVar 0) tNil)) (tCons (tTup (tCons (tVar 0) tNil)) (tCons (tC (.str (tx []))) (tCons (tOp cAdd (tC (.str (tx [32]))) (tVar 0)) (tCons (tOp cAdd (tVar 0) (tC (.str (tx [32])))) (tCons (qC K "str" j6 (tVar 0)) tNil)))))))))) (tOp cMod (tOp cDiv (tVar 1) (tC (.int 10))) (tC (.int 9))))) tNext)
  (tRet (tVar 0)))
def bV (K:PySem.W.Frag):TS:=
 (tSeq (tIfS (tTest (tOp (cEq K) (tVar 2) (tC (.int 3)))) (tRet (tOp cAdd (tSl bQ (tVar 0) bb (tPart (tVar 3))) (tSl bQ (tVar 0) (tPart (tOp cMod (tOp cDiv (tVar 1) (tC (.int 1000))) (tOp cAdd (tCB kLen (tCons (tVar 0) tNil)) (tC (.int 1))))) bb))) tNext)
  (bU K))
def bW (K:PySem.W.Frag):TS:=
 (tSeq (tIfS (tTest (tOp (cEq K) (tVar 2) (tC (.int 2)))) (tRet (tOp cAdd (tSl bQ (tVar 0) bb (tPart (tVar 3))) (tSl bQ (tVar 0) (tPart (tOp cAdd (tVar 3) (tC (.int 1)))) bb))) tNext)
  (bV K))
def bX (K:PySem.W.Frag):TS:=
 (tSeq (tIfS (tTest (tOp (cEq K) (tVar 2) (tC (.int 1)))) (tRet (tOp cAdd (tOp cAdd (tSl bQ (tVar 0) bb (tPart (tVar 3))) (tCall (bi K) [] E0 (tCons (tOp cDiv (tVar 1) (tC (.int 1000))) tNil))) (tSl bQ (tVar 0) (tPart (tOp cAdd (tVar 3) (tC (.int 1)))) bb))) tNext)
  (bW K))
def bY (K:PySem.W.Frag):TS:=
 (tSeq (tIfS (tTest (tOp (cEq K) (tVar 2) (tC (.int 0)))) (tRet (tOp cAdd (tOp cAdd (tSl bQ (tVar 0) bb (tPart (tVar 3))) (tCall (bi K) [] E0 (tCons (tOp cDiv (tVar 1) (tC (.int 1000))) tNil))) (tSl bQ (tVar 0) (tPart (tVar 3)) bb))) tNext)
  (bX K))
def bM (K:PySem.W.Frag):TS:=
 (tSeq (tAsg (tOp cMod (tVar 1) (tC (.int 10))) (gName 2))
  (tSeq (tAsg (tOp cMod (tOp cDiv (tVar 1) (tC (.int 10))) (tOp cAdd (tCB kLen (tCons (tVar 0) tNil)) (tC (.int 1)))) (gName 3))
  (bY K)))
theorem iG {H:Hp} {Q:VK} {s:List Nat} {lo hi:Option Int} (hl:s.length≤190) (k:∀ l:List Nat,l.length≤190→(∀ c∈l,c∈s)→Q (.str (tx l)) H):bQ (.str (tx s)) lo hi H Q:=by
 rw [uH,aD]
 obtain ⟨l,e,h1,h2⟩:=qY s lo hi
 rw [e]
 exact ⟨aq (by omega),k l (by omega) h2⟩
theorem dC {a b:List Nat} (h1:∀ c∈a,c < 128) (h2:∀ c∈b,c < 128):∀ c∈a++b,c < 128:=fun c hc=>(List.mem_append.mp hc).elim (h1 c) (h2 c)
theorem bw {n j:Int} (h0:0 < j) (h1:j < 1073741824):CDiv n j:=⟨h0,h1⟩
section
variable {K:PySem.W.Frag} {H:Hp} {Q:VK} {s:List Nat} {n a b:Int} (hl:s.length≤190) (ha:∀ c∈s,c < 128) (q:QS H Q)
include hl ha q
theorem gK:bU K { nx:=fun _ H'=>Q .non H',rt:=Q } [some (.str (tx s)),some (.int n),some (.int a),some (.int b)] H:=by
 unfold bU
 rw [aB,aE]
 walk_at "w"
 by_cases h:a=4
 · rw [decide_eq_true h]
   refine iteT ⟨aq (by show (1:Nat)≤1000; decide),fun L hL=>?_⟩
   have s1:Same H (upd H L (.lst [V.str (tx s)])):=(Same.refl H).laid hL
   have eL:(upd H L (.lst [V.str (tx s)])) L=some (.lst [V.str (tx s)]):=ag
   generalize upd H L (.lst [V.str (tx s)])=H1 at*
   refine ⟨aq (by show (1:Nat)≤1000; decide),fun T hT=>?_⟩
   have s2:Same H1 (upd H1 T (.tup [V.str (tx s)])):=(Same.refl H1).laid hT
   have eT:(upd H1 T (.tup [V.str (tx s)])) T=some (.tup [V.str (tx s)]):=ag
   generalize upd H1 T (.tup [V.str (tx s)])=H2 at*
   refine ⟨by rw [aD,aD]; exact aq (by show 1+s.length≤1000; omega),by rw [aD,aD]; exact aq (by show s.length+1≤1000; omega),iP,?_⟩
   refine sF (by omega) ha ?_
   refine ⟨aq (by show (9:Nat)≤1000; decide),fun N hN=>?_⟩
   rw [ir,ir]
   have s3:Same H2 (upd H2 N (.lst [V.non,V.bl true,V.int n,V.ref L,V.ref T,V.str (tx []),V.str (tx ([32]++s)),V.str (tx (s++[32])),V.str (tx (s.map upC))])):=(Same.refl H2).laid hN
   have eN:(upd H2 N (.lst [V.non,V.bl true,V.int n,V.ref L,V.ref T,V.str (tx []),V.str (tx ([32]++s)),V.str (tx (s++[32])),V.str (tx (s.map upC))])) N=some (.lst [V.non,V.bl true,V.int n,V.ref L,V.ref T,V.str (tx []),V.str (tx ([32]++s)),V.str (tx (s++[32])),V.str (tx (s.map upC))]):=ag
   generalize upd H2 N (.lst [V.non,V.bl true,V.int n,V.ref L,V.ref T,V.str (tx []),V.str (tx ([32]++s)),V.str (tx (s++[32])),V.str (tx (s.map upC))])=H3 at*
   refine ⟨bw (by decide) (by decide),by decide,?_⟩
   have m0:0≤n / 10 % 9:=Int.emod_nonneg _ (by omega)
   have m1:n / 10 % 9 < 9:=Int.emod_lt_of_pos _ (by omega)
   obtain ⟨k,hk⟩:∃ k:Nat,n / 10 % 9=k:=⟨_,(Int.toNat_of_nonneg m0).symm⟩
   rw [hk] at m1 ⊢
   have s13:=(s1.trans s2).trans s3
   have a32:∀ c∈[32],c < 128:=by decide
   have up:∀ c∈s.map upC,c < 128:=fun c hc=>by obtain ⟨x,hx,rfl⟩:=List.mem_map.mp hc; exact uc (ha x hx)
   match k,m1 with
   | 0,_=>exact ixL eN (aN (j:=0) rfl) (q.2 _ _ s13 (.inl rfl))
   | 1,_=>exact ixL eN (aN (j:=1) rfl) (q.2 _ _ s13 (.inr (.inr (.inl ⟨_,rfl⟩))))
   | 2,_=>exact ixL eN (aN (j:=2) rfl) (q.2 _ _ s13 (.inr (.inl ⟨_,rfl⟩)))
   | 3,_=>exact ixL eN (aN (j:=3) rfl) (q.2 _ _ s13 (.inr (.inr (.inr ⟨L,_,rfl,.inl ((s2.trans s3) _ _ eL)⟩))))
   | 4,_=>exact ixL eN (aN (j:=4) rfl) (q.2 _ _ s13 (.inr (.inr (.inr ⟨T,_,rfl,.inr (s3 _ _ eT)⟩))))
   | 5,_=>exact ixL eN (aN (j:=5) rfl) (q.1 _ (by simp) (by simp) _ s13)
   | 6,_=>exact ixL eN (aN (j:=6) rfl) (q.1 _ (by simp; omega) (dC a32 ha) _ s13)
   | 7,_=>exact ixL eN (aN (j:=7) rfl) (q.1 _ (by simp; omega) (dC ha a32) _ s13)
   | 8,_=>exact ixL eN (aN (j:=8) rfl) (q.1 _ (by simp; omega) up _ s13)
   | k+9,h=>exact absurd h (by omega)
 · rw [decide_eq_false h]
   exact iteF (q.1 s (by omega) ha _ (Same.refl H))
theorem gL:bV K { nx:=fun _ H'=>Q .non H',rt:=Q } [some (.str (tx s)),some (.int n),some (.int a),some (.int b)] H:=by
 unfold bV
 rw [aB,aE]
 walk_at "w"
 by_cases h:a=3
 · rw [decide_eq_true h]
   refine iteT (iG hl fun l1 h1 i1=>⟨bw (by decide) (by decide),by rw [aD]; exact aq (by omega),by rw [aD]; omega,iG hl fun l2 h2 i2=>?_⟩)
   exact gJ (by omega) (by omega) (q.1 _ (by simp; omega) (dC (fun c hc=>ha c (i1 c hc)) fun c hc=>ha c (i2 c hc)) _ (Same.refl H))
 · rw [decide_eq_false h]
   exact iteF (gK hl ha q)
theorem gM:bW K { nx:=fun _ H'=>Q .non H',rt:=Q } [some (.str (tx s)),some (.int n),some (.int a),some (.int b)] H:=by
 unfold bW
 rw [aB,aE]
 walk_at "w"
 by_cases h:a=2
 · rw [decide_eq_true h]
   refine iteT (iG hl fun l1 h1 i1=>iG hl fun l2 h2 i2=>?_)
   exact gJ (by omega) (by omega) (q.1 _ (by simp; omega) (dC (fun c hc=>ha c (i1 c hc)) fun c hc=>ha c (i2 c hc)) _ (Same.refl H))
 · rw [decide_eq_false h]
   exact iteF (gL hl ha q)
theorem gN:bX K { nx:=fun _ H'=>Q .non H',rt:=Q } [some (.str (tx s)),some (.int n),some (.int a),some (.int b)] H:=by
 unfold bX
 rw [aB,aE]
 walk_at "w"
 by_cases h:a=1
 · rw [decide_eq_true h]
   refine iteT (iG hl fun l1 h1 i1=>⟨bw (by decide) (by decide),_,rfl,fun c hc=>gJ (by omega) (by simp) (iG hl fun l2 h2 i2=>?_)⟩)
   exact gJ (by simp; omega) (by omega) (q.1 _ (by simp; omega) (dC (dC (fun c hc=>ha c (i1 c hc)) (fun x hx=>by rw [List.mem_singleton.mp hx]; exact hc)) fun c hc=>ha c (i2 c hc)) _ (Same.refl H))
 · rw [decide_eq_false h]
   exact iteF (gM hl ha q)
theorem gO:bY K { nx:=fun _ H'=>Q .non H',rt:=Q } [some (.str (tx s)),some (.int n),some (.int a),some (.int b)] H:=by
 unfold bY
 rw [aB,aE]
 walk_at "w"
 by_cases h:a=0
 · rw [decide_eq_true h]
   refine iteT (iG hl fun l1 h1 i1=>⟨bw (by decide) (by decide),_,rfl,fun c hc=>gJ (by omega) (by simp) (iG hl fun l2 h2 i2=>?_)⟩)
   exact gJ (by simp; omega) (by omega) (q.1 _ (by simp; omega) (dC (dC (fun c hc=>ha c (i1 c hc)) (fun x hx=>by rw [List.mem_singleton.mp hx]; exact hc)) fun c hc=>ha c (i2 c hc)) _ (Same.refl H))
 · rw [decide_eq_false h]
   exact iteF (gN hl ha q)
end
theorem i6 {K:PySem.W.Frag} {vs:List V} {H:Hp} {Q:VK} {E:XK} (h:bc K vs H Q E):bM K { nx:=fun _ H'=>Q .non H',rt:=Q } (start ["_law_row_here","_law_number_here","_law_way","_law_at"] vs) H:=by
 obtain ⟨s,n,rfl,hl,ha,q⟩:=h
 show bM K _ [some (.str (tx s)),some (.int n),none,none] H
 unfold bM
 walk_at "w"
 refine ⟨by decide,bw (by decide) (by decide),by rw [aD]; exact aq (by omega),by rw [aD]; omega,?_⟩
 exact gO hl ha q
theorem o6 {i:Int} (h0:0≤i) (h1:i < 200):∃ l:List Nat,Str.ofString (toString i)=tx l∧l.length≤8∧∀ c∈l,c < 128:=by
 have t:((List.range 200).all fun (n:Nat)=>decide ((Str.ofString (toString (n:Int))).cps.toList.length≤8)&&(Str.ofString (toString (n:Int))).cps.toList.all fun c=>decide (c < 128))=true:=by decide+kernel
 obtain ⟨k,rfl⟩:=Int.eq_ofNat_of_zero_le h0
 have:=List.all_eq_true.mp t k (List.mem_range.mpr (by omega))
 rw [Bool.and_eq_true,decide_eq_true_iff,List.all_eq_true] at this
 exact ⟨_,(j3 _).symm,this.1,fun c hc=>of_decide_eq_true (this.2 c hc)⟩
structure eU (w:List Nat):Prop where
 len:w.length≤8
 asc:∀ c∈w,c < 128
theorem rH:∀ (ws:List (List Nat)),(∀ w∈ws,eU w)→(catL 32 ws).length≤9*ws.length∧∀ c∈catL 32 ws,c < 128
 | [],_=>⟨by simp [catL],by simp [catL]⟩
 | [x],h=>by
  have:=h x (by simp)
  refine ⟨?_,this.asc⟩
  have:=this.len
  simp [catL]; omega
 | x::y::r,h=>by
  have h1:=h x (by simp)
  obtain ⟨h2,h3⟩:=rH (y::r) fun w hw=>h w (List.mem_cons_of_mem _ hw)
  constructor
  · show (x++32::catL 32 (y::r)).length≤_
    have:=h1.len
    rw [List.length_append,List.length_cons]
    simp only [List.length_cons] at h2 ⊢
    omega
  · intro c hc
    have hc:c∈x++32::catL 32 (y::r):=hc
    rcases List.mem_append.mp hc with hc | hc
    · exact h1.asc c hc
    · rcases List.mem_cons.mp hc with hc | hc
      · omega
      · exact h3 c hc
abbrev QT (H:Hp) (Q:VK):Prop:=∀ s:List Nat,s.length≤190→(∀ c∈s,c < 128)→∀ H',Same H H'→Q (.str (tx s)) H'
def bI (K:PySem.W.Frag):Sp:=fun vs H Q _=>∃ (a p:Addr) (ns:List Int) (at_ h w g:Int),vs=[.ref a,.int at_,.ref p]∧SqL K H a (ns.map V.int)∧ns.length≤63∧0≤at_∧at_≤990∧IsFl H p h w g∧FlOk h w g∧QT H Q
theorem lT {K:PySem.W.Frag} {vs:List V} {H:Hp} {Q:VK} {E:XK} (h:bI K vs H Q E):vs.length=3:=by
 obtain ⟨_,_,_,_,_,_,_,rfl,_⟩:=h; rfl
def cQ (K:PySem.W.Frag):TS:=
 (tRet (tBM K "str" eO (tC (.str (tx [32]))) (tCons (tVar 9) tNil)))
def cR (K:PySem.W.Frag):TS:=
 (tSeq (tIfS (tTest (tOp (cEq K) (tOp cMod (tOp cDiv (tVar 3) (tC (.int 43008))) (tC (.int 9))) (tC (.int 0)))) (tDrop (tBM K "list" iw (tVar 9) (tCons (tOp cMod (tOp cDiv (tVar 3) (tC (.int 128))) (tCB kLen (tCons (tVar 9) tNil))) tNil))) tNext)
  (cQ K))
def cS (K:PySem.W.Frag):TS:=
 (tSeq (tIfS (tTest (tOp (cIn K false) (tVar 5) (tTup (tCons (tC (.str (tx [117,110,108,105,107,101]))) (tCons (tC (.str (tx [115,117,109]))) (tCons (tC (.str (tx [114,105,115,105,110,103]))) (tCons (tC (.str (tx [115,101,101,110]))) (tCons (tC (.str (tx [99,111,117,110,116]))) tNil)))))))) (tAsg (tOp cAdd (tVar 9) (tComp [none,none] (iList K (tVar 6)) (gName 1) tTrue (tCB kStr (tCons (tVar 1) tNil)))) (gName 9)) tNext)
  (cR K))
def cT (K:PySem.W.Frag):TS:=
 (tSeq (tIfS (tTest (tOp (cIn K false) (tVar 5) (tTup (tCons (tC (.str (tx [99,111,117,110,116]))) (tCons (tC (.str (tx [106,111,105,110,101,100]))) (tCons (tC (.str (tx [110,111,115,113,117,97,114,101]))) (tCons (tC (.str (tx [114,105,110,103]))) tNil))))))) (tDrop (tBM K "list" cw (tVar 9) (tCons (tCB kStr (tCons (tVar 7) tNil)) tNil))) tNext)
  (cS K))
def dq (K:PySem.W.Frag):TS:=
 (tSeq (tIfS (tTest (tOp (cIn K false) (tVar 5) (tTup (tCons (tC (.str (tx [115,117,109]))) (tCons (tC (.str (tx [115,101,101,110]))) (tCons (tC (.str (tx [99,111,117,110,116]))) tNil)))))) (tDrop (tBM K "list" cw (tVar 9) (tCons (tCB kStr (tCons (tVar 8) tNil)) tNil))) tNext)
  (cT K))
def dr (K:PySem.W.Frag):TS:=
 (tSeq (tAsg (tLst (tCons (tVar 5) tNil)) (gName 9))
  (dq K))
def dt (K:PySem.W.Frag):TS:=
 (tSeq (tAsg (tOp cIx (tLst (tCons (tOp cMod (tOp cDiv (tVar 3) (tC (.int 50000))) (tC (.int 100))) (tCons (tOp cMod (tOp cDiv (tVar 3) (tC (.int 50000))) (tC (.int 12))) (tCons (tC (.int 99)) (tCons (tC (.int 100)) tNil))))) (tOp cMod (tOp cDiv (tVar 3) (tC (.int 43008))) (tC (.int 4)))) (gName 8))
  (dr K))
def du (K:PySem.W.Frag):TS:=
 (tSeq (tIfS (tTest (tOp (cEq K) (tOp cMod (tOp cDiv (tVar 3) (tC (.int 6144))) (tC (.int 7))) (tC (.int 0)))) (tAsg (tOp cIx (tLst (tCons (tC (.int 0)) (tCons (tOp cAdd (tOp cIx (tVar 2) (tC (.int 2))) (tC (.int 1))) tNil))) (tOp cMod (tOp cDiv (tVar 3) (tC (.int 768))) (tC (.int 2)))) (gName 7)) tNext)
  (dt K))
def dw (K:PySem.W.Frag):TS:=
 (tSeq (tAsg (tOp cAdd (tC (.int 1)) (tOp cMod (tOp cDiv (tVar 3) (tC (.int 768))) (tOp cIx (tVar 2) (tC (.int 2))))) (gName 7))
  (du K))
def dy (K:PySem.W.Frag):TS:=
 (tSeq (tIfS (tTest (tOp (cEq K) (tOp cMod (tOp cDiv (tVar 3) (tC (.int 128))) (tC (.int 6))) (tC (.int 0)))) (tDrop (tBM K "list" iV (tVar 6) (tCons (tOp cMod (tOp cDiv (tVar 3) (tC (.int 768))) (tOp cAdd (tCB kLen (tCons (tVar 6) tNil)) (tC (.int 1)))) (tCons (tOp cIx (tLst (tCons (tVar 4) (tCons (tOp cIx (tVar 6) (tC (.int 0))) (tCons (tOp cAdd (tVar 4) (tOp cMod (tOp cDiv (tVar 3) (tC (.int 768))) (tC (.int 90)))) tNil)))) (tOp cMod (tOp cDiv (tVar 3) (tC (.int 768))) (tC (.int 3)))) tNil)))) tNext)
  (dw K))
def dz (K:PySem.W.Frag):TS:=
 (tSeq (tAsg (tCall (bz K) [] E0 (tCons (tVar 0) (tCons (tOp cAdd (tVar 1) (tC (.int 1))) (tCons (tVar 4) (tCons (tOp cAdd (tC (.int 1)) (tOp cMod (tOp cDiv (tVar 3) (tC (.int 8))) (tVar 4))) tNil))))) (gName 6))
  (dy K))
def dA (K:PySem.W.Frag):TS:=
 (tSeq (tAsg (tOp cIx (tLst (tCons (tC (.str (tx [117,110,108,105,107,101]))) (tCons (tC (.str (tx [115,117,109]))) (tCons (tC (.str (tx [114,105,115,105,110,103]))) (tCons (tC (.str (tx [115,101,101,110]))) (tCons (tC (.str (tx [99,111,117,110,116]))) (tCons (tC (.str (tx [106,111,105,110,101,100]))) (tCons (tC (.str (tx [110,111,115,113,117,97,114,101]))) (tCons (tC (.str (tx [114,105,110,103]))) tNil))))))))) (tOp cMod (tVar 3) (tC (.int 8)))) (gName 5))
  (dz K))
def df (K:PySem.W.Frag):TS:=
 (tSeq (tAsg (tCall (aJ K) [] E0 (tCons (tVar 0) (tCons (tVar 1) tNil))) (gName 3))
  (tSeq (tAsg (tOp cMul (tOp cIx (tVar 2) (tC (.int 0))) (tOp cIx (tVar 2) (tC (.int 1)))) (gName 4))
  (dA K)))
structure iH (H0 H:Hp) (W:Addr) (ws:List (List Nat)) (b:Nat):Prop where
 s0:Same H0 H
 n0:H0 W=none
 hW:H W=some (.lst ((ws.map tx).map V.str))
 ne:ws≠[]
 len:ws.length≤b
 wd:∀ w∈ws,eU w
theorem uP {ws:List (List Nat)} (j:Nat):(((ws.map tx).map V.str).eraseIdx j)=((ws.eraseIdx j).map tx).map V.str:=by
 rw [fW,fW]
section
variable {K:PySem.W.Frag} {H0 H:Hp} {Q:VK} {a p C W:Addr} {n m s z at_:Int} {nm:Str} {ws:List (List Nat)} {v0 v1 v2:Option V}
theorem ou {b:Nat} (hb:b≤20) {c1 c2 c3 c4:Option V} (s0:Same H0 H) (hW:H W=some (.lst ((ws.map tx).map V.str))) (hl:ws.length≤b) (wd:∀ w∈ws,eU w) (q:QT H0 Q):
  cQ K { nx:=fun _ H'=>Q .non H',rt:=Q } [v0,v1,v2,some (.int n),some (.int m),c1,c2,c3,c4,some (.ref W)] H:=by
 unfold cQ
 walk_at "w"
 refine ⟨iP,sv hW (iu (by rw [List.length_map]; omega) (fun t ht=>?_) (by rw [aD]; decide)) ?_⟩
 · obtain ⟨x,hx,rfl⟩:=List.mem_map.mp ht
   rw [aD]
   exact Nat.le_trans (wd x hx).len (by decide)
 · rw [mK,gu]
   obtain ⟨h1,h2⟩:=rH ws wd
   exact q _ (by omega) h2 _ s0
theorem ow {c1 c2 c3 c4:Option V} (d:iH H0 H W ws 20) (q:QT H0 Q):
  cR K { nx:=fun _ H'=>Q .non H',rt:=Q } [v0,v1,v2,some (.int n),some (.int m),c1,c2,c3,c4,some (.ref W)] H:=by
 unfold cR
 rw [aB,aE]
 walk_at "w"
 refine ⟨bw (by decide) (by decide),by decide,?_⟩
 by_cases h:n / 43008 % 9=0
 · rw [decide_eq_true h]
   refine iteT ?_
   have hp:0 < ws.length:=List.length_pos_iff.mpr d.ne
   have hl:=d.len
   refine ⟨dg d.hW,?_⟩
   rw [dI d.hW,List.length_map,List.length_map]
   walk_at "w"
   have m0:0≤n / 128 % ((ws.length:Nat):Int):=Int.emod_nonneg _ (by omega)
   have m1:n / 128 % ((ws.length:Nat):Int) < ws.length:=Int.emod_lt_of_pos _ (by omega)
   refine ⟨bw (by decide) (by decide),by omega,?_⟩
   have hj:(n / 128 % ((ws.length:Nat):Int)).toNat < ws.length:=by omega
   refine om d.hW m0 (by rw [List.length_map,List.length_map]; exact m1) (y:=V.str (tx (ws[(n / 128 % ((ws.length:Nat):Int)).toNat]'hj))) (by rw [List.getElem?_map,List.getElem?_map,List.getElem?_eq_getElem hj]; rfl) ?_
   rw [uP]
   refine ou (ws:=ws.eraseIdx _) (Nat.le_refl 20) (d.s0.own d.n0) ag ?_ (fun w hw=>d.wd w (List.mem_of_mem_eraseIdx hw)) q
   have:=List.length_eraseIdx_le ws (n / 128 % ((ws.length:Nat):Int)).toNat
   omega
 · rw [decide_eq_false h]
   exact iteF (ou (Nat.le_refl _) d.s0 d.hW d.len d.wd q)
theorem o7 {i:Int} (h0:0≤i) (h1:i < 200):i.natAbs.log2 < 1920:=by
 have:i.natAbs < 200:=by omega
 have t:((List.range 200).all fun n=>decide (n.log2 < 1920))=true:=by decide+kernel
 exact of_decide_eq_true (List.all_eq_true.mp t _ (List.mem_range.mpr this))
theorem ug {K:PySem.W.Frag} {H:Hp} {C:Addr} {cs:List Int} {fin:Addr→Hp→Prop} (hC:H C=some (.lst (cs.map V.int))) (hl:cs.length≤17) (hc:∀ c∈cs,0≤c∧c < 200)
  (k:∀ (l:Addr) (H1:Hp) (us:List (List Nat)),H l=none→Same H H1→H1 l=some (.lst ((us.map tx).map V.str))→us.length=cs.length→(∀ w∈us,eU w)→fin l H1):
  CompR (Itl K C) (gName 1) tTrue (tCB kStr (tCons (tVar 1) tNil)) fin [none,none] H:=by
 refine j2 (xs:=cs.map V.int) (fun _=>true) (fun i=>.str (Str.ofString (toString (cs.getD i 0)))) (by rw [List.length_map]; omega) (SqL.of hC) ?_ ?_ ?_
 · intro i x H1 R hx s1 k1
   exact k1 _ (Same.refl _)
 · intro i x H1 Q1 hx hb s1 k1
   obtain ⟨c,hcc,rfl⟩:=nJ hx
   show tCB kStr _ [none,some (.int c)] H1 Q1
   walk_at "w"
   obtain ⟨h0,h1⟩:=hc c (List.mem_of_getElem? hcc)
   have:=k1 _ (Same.refl H1)
   rw [List.getD,hcc] at this
   exact ⟨o7 h0 h1,this⟩
 · intro l H1 hl1 s1 el
   have eb:((List.range (cs.map V.int).length).filter fun _=>true).map (fun i=>V.str (Str.ofString (toString (cs.getD i 0))))=((cs.map fun c=>(Str.ofString (toString c)).cps.toList).map tx).map V.str:=by
    rw [iq,List.length_map]
    refine List.ext_getElem? fun i=>?_
    rw [List.getElem?_map,List.getElem?_map,List.getElem?_map,List.getElem?_map]
    by_cases h:i < cs.length
    · rw [List.getElem?_range h,List.getElem?_eq_getElem h]
      simp [List.getD,h,j3]
    · rw [List.getElem?_eq_none (by simpa using h),List.getElem?_eq_none (by omega)]; rfl
   rw [eb] at el
   refine k l H1 _ hl1 s1 el (by rw [List.length_map]) fun w hw=>?_
   obtain ⟨c,hcc,rfl⟩:=List.mem_map.mp hw
   obtain ⟨h0,h1⟩:=hc c hcc
   obtain ⟨l',e,a,b⟩:=o6 h0 h1
   rw [e,dJ]
   exact ⟨a,b⟩
structure fF (H0 H:Hp) (C:Addr) (cs:List Int):Prop where
 hC:H C=some (.lst (cs.map V.int))
 len:cs.length≤17
 bd:∀ c∈cs,0≤c∧c < 200
theorem oy {c3 c4:Option V} {nm:List Nat} {cs:List Int} (d:iH H0 H W ws 3) (e:fF H0 H C cs) (q:QT H0 Q):
  cS K { nx:=fun _ H'=>Q .non H',rt:=Q } [v0,v1,v2,some (.int n),some (.int m),some (.str (tx nm)),some (.ref C),c3,c4,some (.ref W)] H:=by
 unfold cS
 rw [aB,aE]
 walk_at "w"
 refine ⟨aq (by show (5:Nat)≤1000; decide),fun T hT=>?_⟩
 refine kH (ws:=[tx (nmC .Unlike),tx (nmC .Sum),tx (nmC .Rising),tx (nmC .Seen),tx (nmC .Count)]) rfl hT fun H1 s1=>?_
 walk_at "w"
 have l3:=d.len
 by_cases h:tx nm∈[tx (nmC .Unlike),tx (nmC .Sum),tx (nmC .Rising),tx (nmC .Seen),tx (nmC .Count)]
 · rw [decide_eq_true h]
   refine iteT ?_
   refine ⟨⟨_,SqL.of (s1 _ _ e.hC)⟩,?_⟩
   refine ug (s1 _ _ e.hC) e.len e.bd fun l H2 us hl s2 el ul uw=>?_
   have le:=e.len
   refine t3 ((s1.trans s2) _ _ d.hW) el (by simp; omega) fun W2 hW2=>?_
   rw [← List.map_append,← List.map_append]
   have s3:Same H2 (upd H2 W2 (.lst (((ws++us).map tx).map V.str))):=(Same.refl H2).laid hW2
   have s02:=(d.s0.trans s1).trans s2
   exact ow (ws:=ws++us) ⟨s02.trans s3,s02.free hW2,ag,fun z=>d.ne (List.append_eq_nil_iff.mp z).1,by rw [List.length_append]; omega,fun w hw=>(List.mem_append.mp hw).elim (d.wd w) (uw w)⟩ q
 · rw [decide_eq_false h]
   refine iteF ?_
   exact ow ⟨d.s0.trans s1,d.n0,s1 _ _ d.hW,d.ne,by omega,d.wd⟩ q
end
section
variable {K:PySem.W.Frag} {H0 H:Hp} {Q:VK} {a p C W:Addr} {n m s z at_ h w g:Int} {ws:List (List Nat)} {v0 v1 v2:Option V} {nm:List Nat} {cs:List Int}
theorem nt {H:Hp} {T:Addr} {xs:List Int} {ys:List V} {R:VK} {i:Int} (ey:ys=xs.map V.int) (hT:H T=none) (h0:0≤i) (h1:i < xs.length) (k:∀ x H1,x∈xs→Same H H1→R (.int x) H1):cIx (.ref T) (.int i) (upd H T (.lst ys)) R:=by
 subst ey
 obtain ⟨j,rfl⟩:=Int.eq_ofNat_of_zero_le h0
 have hj:j < xs.length:=by omega
 exact ixL ag (atN (List.getElem?_eq_getElem hj)) (k _ _ (List.getElem_mem hj) ((Same.refl H).laid hT))
theorem sO {l:List Int} {k:Nat} {y:Int}:(l.map V.int).take k++V.int y::(l.map V.int).drop k=(l.take k++y::l.drop k).map V.int:=by
 rw [List.map_append,List.map_cons,List.map_take,List.map_drop]
theorem sP (l:List Int) (k:Nat) (y:Int):(l.take k++y::l.drop k).length≤l.length+1:=by
 rw [List.length_append,List.length_cons,List.length_take,List.length_drop]
 omega
theorem qZ {H:Hp} {Q:VK} {l:Addr} {i:Int} {xs:List V} {y:V} (hl:H l=some (.lst xs)) (h0:0≤i) (h1:i≤xs.length) (hz:xs.length≤900) (q:Q .non (upd H l (.lst (xs.take i.toNat++y::xs.drop i.toNat)))):iV (.ref l) [.int i,y] H Q:=by
 show bnd (unM (H l)) _
 rw [hl]
 exact bu (a:=xs) rfl ⟨h0,h1,aq (by omega),q⟩
theorem rJ {b:Nat} {u:List Nat} {R:VK} (d:iH H0 H W ws b) (e:fF H0 H C cs) (ne:C≠W) (hb:b≤20) (hu:eU u) (k:∀ H1,iH H0 H1 W (ws++[u]) (b+1)→fF H0 H1 C cs→R .non H1):cw (.ref W) [.str (tx u)] H R:=by
 rw [jm d.hW]
 have hl:=d.len
 refine ⟨by rw [List.length_map,List.length_map]; exact be (by omega),k _ ⟨d.s0.own d.n0,d.n0,?_,by simp,by rw [List.length_append]; simp; omega,fun w hw=>(List.mem_append.mp hw).elim (d.wd w) fun z=>by rw [List.mem_singleton.mp z]; exact hu⟩ ⟨by rw [ak ne]; exact e.hC,e.len,e.bd⟩⟩
 rw [ag]
 simp
theorem oz {c4:Option V} (d:iH H0 H W ws 2) (e:fF H0 H C cs) (ne:C≠W) (hz:0≤z∧z < 200) (q:QT H0 Q):
  cT K { nx:=fun _ H'=>Q .non H',rt:=Q } [v0,v1,v2,some (.int n),some (.int m),some (.str (tx nm)),some (.ref C),some (.int z),c4,some (.ref W)] H:=by
 unfold cT
 rw [aB,aE]
 walk_at "w"
 refine ⟨aq (by show (4:Nat)≤1000; decide),fun T hT=>?_⟩
 refine kH (ws:=[tx (nmC .Count),tx (nmC .Joined),tx (nmC .NoSquare),tx (nmC .Ring)]) rfl hT fun H1 s1=>?_
 have d1:iH H0 H1 W ws 2:=⟨d.s0.trans s1,d.n0,s1 _ _ d.hW,d.ne,d.len,d.wd⟩
 have e1:fF H0 H1 C cs:=⟨s1 _ _ e.hC,e.len,e.bd⟩
 walk_at "w"
 by_cases h:tx nm∈[tx (nmC .Count),tx (nmC .Joined),tx (nmC .NoSquare),tx (nmC .Ring)]
 · rw [decide_eq_true h]
   obtain ⟨u,eu,u1,u2⟩:=o6 hz.1 hz.2
   rw [eu]
   refine iteT ⟨dg d1.hW,o7 hz.1 hz.2,rJ d1 e1 ne (by decide) ⟨u1,u2⟩ fun H2 d2 e2=>?_⟩
   exact oy d2 e2 q
 · rw [decide_eq_false h]
   exact iteF (oy ⟨d1.s0,d1.n0,d1.hW,d1.ne,by have:=d1.len; omega,d1.wd⟩ e1 q)
theorem uh {y:Int} (d:iH H0 H W ws 1) (e:fF H0 H C cs) (ne:C≠W) (hz:0≤z∧z < 200) (hy:0≤y∧y < 200) (q:QT H0 Q):
  dq K { nx:=fun _ H'=>Q .non H',rt:=Q } [v0,v1,v2,some (.int n),some (.int m),some (.str (tx nm)),some (.ref C),some (.int z),some (.int y),some (.ref W)] H:=by
 unfold dq
 rw [aB,aE]
 walk_at "w"
 refine ⟨aq (by show (3:Nat)≤1000; decide),fun T hT=>?_⟩
 refine kH (ws:=[tx (nmC .Sum),tx (nmC .Seen),tx (nmC .Count)]) rfl hT fun H1 s1=>?_
 have d1:iH H0 H1 W ws 1:=⟨d.s0.trans s1,d.n0,s1 _ _ d.hW,d.ne,d.len,d.wd⟩
 have e1:fF H0 H1 C cs:=⟨s1 _ _ e.hC,e.len,e.bd⟩
 walk_at "w"
 by_cases h:tx nm∈[tx (nmC .Sum),tx (nmC .Seen),tx (nmC .Count)]
 · rw [decide_eq_true h]
   obtain ⟨u,eu,u1,u2⟩:=o6 hy.1 hy.2
   rw [eu]
   refine iteT ⟨dg d1.hW,o7 hy.1 hy.2,rJ d1 e1 ne (by decide) ⟨u1,u2⟩ fun H2 d2 e2=>?_⟩
   exact oz d2 e2 ne hz q
 · rw [decide_eq_false h]
   exact iteF (oz ⟨d1.s0,d1.n0,d1.hW,d1.ne,by have:=d1.len; omega,d1.wd⟩ e1 ne hz q)
theorem ui {y:Int} (s0:Same H0 H) (e:fF H0 H C cs) (hn:eU nm) (hz:0≤z∧z < 200) (hy:0≤y∧y < 200) (q:QT H0 Q):
  dr K { nx:=fun _ H'=>Q .non H',rt:=Q } [v0,v1,v2,some (.int n),some (.int m),some (.str (tx nm)),some (.ref C),some (.int z),some (.int y),none] H:=by
 unfold dr
 walk_at "w"
 refine ⟨aq (by show (1:Nat)≤1000; decide),fun W hW=>?_⟩
 have s1:Same H (upd H W (.lst [V.str (tx nm)])):=(Same.refl H).laid hW
 refine uh (ws:=[nm]) ⟨s0.trans s1,s0.free hW,ag,by simp,by simp,fun w hw=>by rw [List.mem_singleton.mp hw]; exact hn⟩ ⟨s1 _ _ e.hC,e.len,e.bd⟩ (fun z=>?_) hz hy q
 rw [z] at e
 have:=e.hC
 rw [hW] at this
 cases this
theorem qp (s0:Same H0 H) (e:fF H0 H C cs) (hn:eU nm) (hz:0≤z∧z < 200) (q:QT H0 Q):
  dt K { nx:=fun _ H'=>Q .non H',rt:=Q } [v0,v1,v2,some (.int n),some (.int m),some (.str (tx nm)),some (.ref C),some (.int z),none,none] H:=by
 unfold dt
 walk_at "w"
 refine ⟨bw (by decide) (by decide),by decide,bw (by decide) (by decide),by decide,aq (by show (4:Nat)≤1000; decide),fun T hT=>⟨bw (by decide) (by decide),by decide,?_⟩⟩
 refine nt (xs:=[n / 50000 % 100,n / 50000 % 12,99,100]) rfl hT (Int.emod_nonneg _ (by omega)) (Int.emod_lt_of_pos _ (by decide)) fun y H1 hy s1=>?_
 refine ui (s0.trans s1) ⟨s1 _ _ e.hC,e.len,e.bd⟩ hn hz ?_ q
 have a1:=Int.emod_nonneg (n / 50000) (show (100:Int)≠0 by decide)
 have a2:=Int.emod_lt_of_pos (n / 50000) (show (0:Int) < 100 by decide)
 have a3:=Int.emod_nonneg (n / 50000) (show (12:Int)≠0 by decide)
 have a4:=Int.emod_lt_of_pos (n / 50000) (show (0:Int) < 12 by decide)
 simp only [List.mem_cons,List.not_mem_nil,or_false] at hy
 rcases hy with rfl | rfl | rfl | rfl <;> omega
theorem uj (s0:Same H0 H) (e:fF H0 H C cs) (hn:eU nm) (ha:IsFl H p h w g) (F:FlOk h w g) (hz:0≤z∧z < 200) (q:QT H0 Q):
  du K { nx:=fun _ H'=>Q .non H',rt:=Q } [v0,v1,some (.ref p),some (.int n),some (.int m),some (.str (tx nm)),some (.ref C),some (.int z),none,none] H:=by
 obtain ⟨h0,h1,w0,w1,m16,g0,g1⟩:=F
 unfold du
 rw [aB,aE]
 walk_at "w"
 refine ⟨bw (by decide) (by decide),by decide,?_⟩
 by_cases hh:n / 6144 % 7=0
 · rw [decide_eq_true hh]
   refine iteT ?_
   refine ixT ha (v:=V.int g) rfl ?_
   walk_at "w"
   refine ⟨aq (by show (2:Nat)≤1000; decide),fun T hT=>⟨bw (by decide) (by decide),by decide,?_⟩⟩
   refine nt (xs:=[0,g+1]) rfl hT (Int.emod_nonneg _ (by omega)) (Int.emod_lt_of_pos _ (by decide)) fun y H1 hy s1=>?_
   refine qp (s0.trans s1) ⟨s1 _ _ e.hC,e.len,e.bd⟩ hn ?_ q
   simp only [List.mem_cons,List.not_mem_nil,or_false] at hy
   rcases hy with rfl | rfl <;> omega
 · rw [decide_eq_false hh]
   exact iteF (qp s0 e hn hz q)
theorem qq (s0:Same H0 H) (e:fF H0 H C cs) (hn:eU nm) (ha:IsFl H p h w g) (F:FlOk h w g) (q:QT H0 Q):
  dw K { nx:=fun _ H'=>Q .non H',rt:=Q } [v0,v1,some (.ref p),some (.int n),some (.int m),some (.str (tx nm)),some (.ref C),none,none,none] H:=by
 have g0:=F.g0
 have g1:=F.g1
 unfold dw
 walk_at "w"
 refine ⟨bw (by decide) (by decide),?_⟩
 refine ixT ha (v:=V.int g) rfl ?_
 walk_at "w"
 refine ⟨by omega,?_⟩
 have a1:=Int.emod_nonneg (n / 768) (show g≠0 by omega)
 have a2:=Int.emod_lt_of_pos (n / 768) (show (0:Int) < g by omega)
 exact uj s0 e hn ha F (by omega) q
theorem uk (hk:cs.length≤16) (c0:cs≠[]) (hc:∀ c∈cs,0≤c∧c < 16) (hC0:H0 C=none) (hC:H C=some (.lst (cs.map V.int))) (hm:1≤m∧m≤16) (s0:Same H0 H) (hn:eU nm) (ha0:IsFl H0 p h w g) (F:FlOk h w g) (q:QT H0 Q):
  dy K { nx:=fun _ H'=>Q .non H',rt:=Q } [v0,v1,some (.ref p),some (.int n),some (.int m),some (.str (tx nm)),some (.ref C),none,none,none] H:=by
 unfold dy
 rw [aB,aE]
 walk_at "w"
 refine ⟨bw (by decide) (by decide),by decide,?_⟩
 by_cases hh:n / 128 % 6=0
 · rw [decide_eq_true hh]
   refine iteT ⟨dg hC,bw (by decide) (by decide),?_⟩
   rw [dI hC,List.length_map]
   walk_at "w"
   refine ⟨by omega,?_⟩
   obtain ⟨c,r,rfl⟩:∃ c r,cs=c::r:=by
    cases cs with
    | nil=>exact absurd rfl c0
    | cons c r=>exact ⟨c,r,rfl⟩
   refine ixL hC (atN (j:=0) (x:=c) rfl) ?_
   have cc:=hc c List.mem_cons_self
   have a1:=Int.emod_nonneg (n / 768) (show (90:Int)≠0 by decide)
   have a2:=Int.emod_lt_of_pos (n / 768) (show (0:Int) < 90 by decide)
   have b1:=Int.emod_nonneg (n / 768) (show (((c::r).length:Nat):Int)+1≠0 by omega)
   have b2:=Int.emod_lt_of_pos (n / 768) (show (0:Int) < (((c::r).length:Nat):Int)+1 by omega)
   refine ⟨bw (by decide) (by decide),by decide,aq (by show (3:Nat)≤1000; decide),fun T hT=>⟨bw (by decide) (by decide),by decide,?_⟩⟩
   refine nt (xs:=[m,c,m+n / 768 % 90]) rfl hT (Int.emod_nonneg _ (by omega)) (Int.emod_lt_of_pos _ (by decide)) fun y H1 hy s1=>?_
   have hy':0≤y∧y < 200:=by
    simp only [List.mem_cons,List.not_mem_nil,or_false] at hy
    rcases hy with rfl | rfl | rfl <;> omega
   refine qZ (s1 _ _ hC) b1 (by rw [List.length_map]; omega) (by rw [List.length_map]; omega) ?_
   rw [sO]
   have s1':Same H0 (upd H1 C (.lst (((c::r).take (n / 768 % ((((c::r).length:Nat):Int)+1)).toNat++y::(c::r).drop (n / 768 % ((((c::r).length:Nat):Int)+1)).toNat).map V.int))):=(s0.trans s1).own hC0
   refine qq s1' ⟨ag,?_,fun x hx=>?_⟩ hn (s1' _ _ ha0) F q
   · exact Nat.le_trans (sP _ _ _) (by omega)
   · rcases List.mem_append.mp hx with hx | hx
     · have:=hc x (List.mem_of_mem_take hx); omega
     · rcases List.mem_cons.mp hx with hx | hx
       · rw [hx]; exact hy'
       · have:=hc x (List.mem_of_mem_drop hx); omega
 · rw [decide_eq_false hh]
   exact iteF (qq s0 ⟨hC,by omega,fun c hcc=>by have:=hc c hcc; omega⟩ hn (s0 _ _ ha0) F q)
theorem um {ns:List Int} (hS:SqL K H a (ns.map V.int)) (hl:ns.length≤63) (t0:0≤at_) (t1:at_≤990) (hm:m=h*w) (hn:eU nm) (ha:IsFl H p h w g) (F:FlOk h w g) (s0:Same H0 H) (ha0:IsFl H0 p h w g) (q:QT H0 Q):
  dz K { nx:=fun _ H'=>Q .non H',rt:=Q } [some (.ref a),some (.int at_),some (.ref p),some (.int n),some (.int m),some (.str (tx nm)),none,none,none,none] H:=by
 obtain ⟨h0,h1,w0,w1,m16,g0,g1⟩:=id F
 have mp:1≤h*w:=Int.mul_pos (by omega) (by omega)
 unfold dz
 walk_at "w"
 have a1:=Int.emod_nonneg (n / 8) (show m≠0 by omega)
 have a2:=Int.emod_lt_of_pos (n / 8) (show (0:Int) < m by omega)
 refine ⟨bw (by decide) (by decide),by omega,a,ns,at_+1,m,_,rfl,hS,hl,by omega,by omega,by omega,by omega,by omega,fun C H1 ds s1 hC0 eC nd lt ln=>?_⟩
 refine uk (cs:=ds.map fun (n:Nat)=>(n:Int)) (by rw [List.length_map]; omega) (fun z=>?_) (fun c hc=>?_) (s0.free hC0) eC (by omega) (s0.trans s1) hn ha0 F q
 · have:=congrArg List.length z
   rw [List.length_map] at this
   simp at this
   rw [this] at ln
   simp at ln
   omega
 · obtain ⟨x,hx,rfl⟩:=List.mem_map.mp hc
   have:=lt x hx
   omega
def nm8:List (List Nat):=[nmC .Unlike,nmC .Sum,nmC .Rising,nmC .Seen,nmC .Count,nmC .Joined,nmC .NoSquare,nmC .Ring]
theorem uo {ns:List Int} (hS:SqL K H a (ns.map V.int)) (hl:ns.length≤63) (t0:0≤at_) (t1:at_≤990) (hm:m=h*w) (ha:IsFl H p h w g) (F:FlOk h w g) (q:QT H Q):
  dA K { nx:=fun _ H'=>Q .non H',rt:=Q } [some (.ref a),some (.int at_),some (.ref p),some (.int n),some (.int m),none,none,none,none,none] H:=by
 unfold dA
 rw [aB,fQ,jl]
 walk_at "w"
 refine ⟨aq (by show (8:Nat)≤1000; decide),fun T hT=>⟨by decide,?_⟩⟩
 have s1:Same H (upd H T (.lst ((nm8.map tx).map V.str))):=(Same.refl H).laid hT
 have m0:0≤n % 8:=Int.emod_nonneg _ (by omega)
 have m1:n % 8 < 8:=Int.emod_lt_of_pos _ (by omega)
 obtain ⟨k,hk⟩:∃ k:Nat,n % 8=k:=⟨_,(Int.toNat_of_nonneg m0).symm⟩
 rw [hk] at m1 ⊢
 have hk8:k < nm8.length:=by show k < 8; omega
 refine ixL (xs:=(nm8.map tx).map V.str) ag (aN (j:=k) (by rw [List.getElem?_map,List.getElem?_map,List.getElem?_eq_getElem hk8]; rfl)) ?_
 have wd:∀ w∈nm8,eU w:=fun w hw=>by
  have t:(nm8.all fun w=>decide (w.length≤8)&&w.all fun c=>decide (c < 128))=true:=by decide+kernel
  have:=List.all_eq_true.mp t w hw
  rw [Bool.and_eq_true,decide_eq_true_iff,List.all_eq_true] at this
  exact ⟨this.1,fun c hc=>of_decide_eq_true (this.2 c hc)⟩
 exact um (s1.seq hS) hl t0 t1 hm (wd _ (List.getElem_mem hk8)) (s1 _ _ ha) F s1 ha q
end
theorem lU {K:PySem.W.Frag} {vs:List V} {H:Hp} {Q:VK} {E:XK} (h:bI K vs H Q E):df K { nx:=fun _ H'=>Q .non H',rt:=Q } (start ["_law_script","_law_at","_law_floor_here","_law_number_here","_law_many","_law_name","_law_cells_here","_law_sign_here","_law_wanted","_law_words"] vs) H:=by
 obtain ⟨a,p,ns,at_,h,w,g,rfl,hS,hl,t0,t1,ha,F,q⟩:=h
 obtain ⟨h0,h1,w0,w1,m16,g0,g1⟩:=id F
 show df K _ [some (.ref a),some (.int at_),some (.ref p),none,none,none,none,none,none,none] H
 unfold df
 walk_at "w"
 refine ⟨a,ns,at_,rfl,hS,hl,t0,by omega,?_⟩
 walk_at "w"
 refine ixT ha (v:=V.int h) rfl ?_
 walk_at "w"
 refine ixT ha (v:=V.int w) rfl ?_
 walk_at "w"
 refine ⟨fR h0 h1,?_⟩
 exact uo hS hl t0 t1 rfl ha F q
theorem o8 {K:PySem.W.Frag} {H:Hp} {Q:VK} {p q:Addr} {D:PyData} (hp:DV K H (.ref p) D) (hq:DV K H (.ref q) D) (hs:SeqAt.shaped D=true) (he:PyData.eqv D D=true) (h:Q (.bl false) H):cNe K (.ref p) (.ref q) H Q:=by
 show rNeD K (.ref p) (.ref q) H Q
 refine ⟨D,D,hp,hq,hs,hs,?_⟩
 rw [he]
 exact h
theorem kd (xs:List Int):PyData.eqv (.list (xs.map PyData.int)) (.list (xs.map PyData.int))=true:=by
 rw [PyData.eqv,mw]
 simp
theorem lB (n:Int):PyData.eqv (.int n) (.int n)=true:=by
 rw [PyData.eqv]
 simp
def kL (nm:List Nat) (cs:List Int) (n m:Int):PyData:=.tuple [.str (tx nm),.list (cs.map PyData.int),.int n,.int m]
theorem sQ (nm:List Nat) (cs:List Int) (n m:Int):PyData.eqv (kL nm cs n m) (kL nm cs n m)=true:=by
 unfold kL
 rw [PyData.eqv,PyData.eqvAll,PyData.eqvAll,PyData.eqvAll,PyData.eqvAll,PyData.eqvAll,kd,lB,lB,PyData.eqv]
 simp
theorem o9 {nm:List Nat} (h:∀ c∈nm,c < 128) (cs:List Int) (n m:Int):SeqAt.shaped (kL nm cs n m)=true:=by
 have a1:PyData.strOk (tx nm)=true:=rq h
 unfold kL
 simp [SeqAt.shaped,PyData.canLay0,PyData.canLayAll0,a1,jj,PyData.depth,PyData.depthAll,gE]
theorem qr {K:PySem.W.Frag} {H:Hp} {T L:Addr} {nm:List Nat} {cs:List Int} {n m:Int} (ht:H T=some (.tup [.str (tx nm),.ref L,.int n,.int m])) (hL:H L=some (.lst (cs.map V.int))):DV K H (.ref T) (kL nm cs n m):=
 .tup (SqT.of ht) (.cons (.str _) (.cons (.lst (SqL.of hL) (.ints cs)) (.cons (.int _) (.cons (.int _) .nil))))
def fX (K:PySem.W.Frag) (c:RCl RK) (k:RK):Sp:=fun vs H Q _=>∃ (r p:Addr) (ws:List (List Nat)) (cs:List Int) (n m:Int),vs=[.ref r]∧IsRule H c k r p ws cs n m∧ws.length≤401∧(∀ w∈ws,w.length≤400)∧Q (.str (tx (catL 32 ws))) H
def cF (K:PySem.W.Frag) (c:RCl RK):Sp:=fun vs H Q E=>∃ k,fX K c k vs H Q E
theorem kM {K:PySem.W.Frag} {c:RCl RK} {vs:List V} {H:Hp} {Q:VK} {E:XK} (h:cF K c vs H Q E):vs.length=1:=by
 obtain ⟨_,_,_,_,_,_,_,rfl,_⟩:=h; rfl
def cG (K:PySem.W.Frag) (c:RCl RK):TS:=
 (tRet (tBM K "str" eO (tC (.str (tx [32]))) (tCons (tFldK c (tVar 0) "words") tNil)))
theorem kN {K:PySem.W.Frag} {c:RCl RK} {vs:List V} {H:Hp} {Q:VK} {E:XK} (h:cF K c vs H Q E):cG K c { nx:=fun _ H'=>Q .non H',rt:=Q } (start ["self"] vs) H:=by
 obtain ⟨k,r,p,ws,cs,n,m,rfl,x,hn,hw,q⟩:=h
 obtain ⟨dx,W,C,h1,h2,h3⟩:=x.ex
 show cG K c _ [some (.ref r)] H
 unfold cG
 walk_at "w"
 refine ⟨iP,fldE rfl x.ok h1 (v:=.ref W) (by rfl) ?_⟩
 walk_at "w"
 refine su h2 (iu (by rw [List.length_map]; omega) (fun t ht=>by obtain ⟨y,hy,rfl⟩:=List.mem_map.mp ht; rw [aD]; have:=hw y hy; omega) (by rw [aD]; decide)) ?_
 rw [mK,gu]
 exact q
abbrev ke (K:PySem.W.Frag):TS:=b0 K
abbrev kf (K:PySem.W.Frag):TS:=bO K
theorem kg {K:PySem.W.Frag} {vs:List V} {H:Hp} {Q:VK} {E:XK} (h:aJ K vs H Q E):b0 K { nx:=fun _ H'=>Q .non H',rt:=Q } (start ["_law_script","_law_k","_law_number_here","_law_cell"] vs) H:=lO h
theorem kh {K:PySem.W.Frag} {vs:List V} {H:Hp} {Q:VK} {E:XK} (h:bg K vs H Q E):bO K { nx:=fun _ H'=>Q .non H',rt:=Q } (start ["_law_number_here","_law_sizes","_law_high","_law_wide"] vs) H:=kz h
structure pb (H:Hp) (t:Addr) (nm:List Nat) (L:Addr) (n m:Int) (cs:List Int):Prop where
 t:H t=some (.tup [.str (tx nm),.ref L,.int n,.int m])
 L:H L=some (.lst (cs.map V.int))
def bj (K:PySem.W.Frag) (c:RCl RK):Sp:=fun vs H Q _=>∃ (p:Addr) (v dv:V) (h w g:Int),vs=[.ref p,v,dv]∧IsFl H p h w g∧FlOk h w g∧(∀ k,k≠.Rule→c.ok k=true)∧
 ((∃ nm rest,v=.str (tx (catL 32 (nm::rest)))∧LnOk (nm::rest)∧((accR (h*w) g (nm::rest)=none∧dv=.non)∨∃ n m k cs t L,accR (h*w) g (nm::rest)=some (n,m,k,cs)∧dv=.ref t∧pb H t nm L n m cs))∨(NoStr H v∧dv=.non))∧∀ H',Same H H'→Q (.bl true) H'
theorem kO {K:PySem.W.Frag} {c:RCl RK} {vs:List V} {H:Hp} {Q:VK} {E:XK} (h:bj K c vs H Q E):vs.length=3:=by
 obtain ⟨_,_,_,_,_,_,rfl,_⟩:=h; rfl
theorem qt {m:Int} {nm:List Nat} {r:List (List Nat)} {k:RK} {cs:List Int} (h:bS m nm r=some (k,cs)):kOf nm=some k:=by
 unfold bS at h
 cases e1:cr m nm r with
 | none=>rw [e1] at h; cases h
 | some cs'=>
  cases e2:kOf nm with
  | none=>rw [e1,e2] at h; cases h
  | some k'=>rw [e1,e2] at h; cases h; rfl
theorem qu {m g:Int} {nm:List Nat} {r:List (List Nat)} {k:RK} {cs:List Int} {x:Nat} (h:cJ m g nm r=some (x,k,cs)):kOf nm=some k:=by
 have mp:∀ {y:Nat} {r:List (List Nat)},(bS m nm r).map (fun z=>(y,z))=some (x,k,cs)→kOf nm=some k:=fun {y r} e=>by
  obtain ⟨⟨k',cs'⟩,e1,e2⟩:=Option.map_eq_some_iff.mp e
  cases e2
  exact qt e1
 unfold cJ at h
 split at h
 · split at h
   · cases h
   · split at h
     · exact mp h
     · cases h
 · exact mp h
theorem ra {m g:Int} {nm:List Nat} {r:List (List Nat)} {k:RK} {cs:List Int} {x y:Nat} (h:accR m g (nm::r)=some (x,y,k,cs)):kOf nm=some k:=by
 have h:cu m g nm r=some (x,y,k,cs):=h
 have mp:∀ {z:Nat} {r:List (List Nat)},(cJ m g nm r).map (fun u=>(z,u))=some (x,y,k,cs)→kOf nm=some k:=fun {z r} e=>by
  obtain ⟨⟨y',k',cs'⟩,e1,e2⟩:=Option.map_eq_some_iff.mp e
  cases e2
  exact qu e1
 unfold cu at h
 split at h
 · split at h
   · cases h
   · split at h
     · exact mp h
     · cases h
 · exact mp h
def cU (K:PySem.W.Frag) (c:RCl RK) (a:EA):TS:=
 (tRet (tAndV (tCall (bt K) [] E0 (tCons (dO c c.ok "number" (eP K c) (tVar 3) tNil) tNil)) (tAndV (tCall (bt K) [] E0 (tCons (dO c c.ok "sign" (gz K c) (tVar 3) tNil) tNil)) (tOp (cEq K) (dO c c.ok "line" (fX K c) (tVar 3) tNil) (tVar 1)))))
def cV (K:PySem.W.Frag) (c:RCl RK) (a:EA):TS:=
 (tSeq (tIfS (tTest (tOp (cNe K) (tTup (tCons (dO c c.ok "name" (iT K c) (tVar 3) tNil) (tCons (dO c c.ok "spots" (gG K c) (tVar 3) tNil) (tCons (dO c c.ok "number" (eP K c) (tVar 3) tNil) (tCons (dO c c.ok "sign" (gz K c) (tVar 3) tNil) tNil))))) (tVar 2))) (tRet (tC (.bl false))) tNext)
  (cU K c a))
def cW (K:PySem.W.Frag) (c:RCl RK) (a:EA):TS:=
 (tSeq (tIfS (tNot (tB (tCB (kIsP c) (tCons (tVar 3) (tCons (tC (.ref (c.A .Rule))) tNil))))) (tRet (tC (.bl false))) tNext)
  (cV K c a))
def bv (K:PySem.W.Frag) (c:RCl RK) (a:EA):TS:=
 (tSeq (tIfS (tTest (tOp rIsN (tVar 2) (tC .non))) (tSeq (tIfS (tOr (tTest (tOp rIsN (tVar 4) (tC .non))) (tOr (tNot (tB (tCB (kIsX K) (tCons (tVar 4) (tCons (tC (.ref a.NoRule)) tNil))))) (tNot (tB (tCB (kIsX K) (tCons (tVar 4) (tCons (tC (.ty "ValueError")) tNil))))))) (tRet (tC (.bl false))) tNext)
  (tSeq (tIfS (tB (tCB (kIsXT K) (tCons (tVar 4) (tCons (tTup (tCons (tC (.ref a.NoFloor)) (tCons (tC (.ref a.NoFilling)) (tCons (tC (.ref a.NoPuzzle)) (tCons (tC (.ref a.TooMany)) (tCons (tC (.ref a.NotOne)) (tCons (tC (.ref a.NoMove)) tNil))))))) tNil)))) (tRet (tC (.bl false))) tNext)
  (tRet (tNotV (tCB (kIsXT K) (tCons (tVar 4) (tCons (tTup (tCons (tC (.ref a.NoText)) (tCons (tC (.ref a.NoName)) (tCons (tC (.ref a.NoRow)) (tCons (tC (.ref a.BadThought)) tNil))))) tNil))))))) tNext)
  (cW K c a))
def cH (K:PySem.W.Frag) (c:RCl RK) (a:EA):TS:=
 (tSeq (tAsg (tC .non) (gName 3))
  (tSeq (tAsg (tC .non) (gName 4))
  (tSeq (tTryS K (bB K c) (tCons (tVar 0) (tCons (tVar 1) tNil)) 3 (.ref a.ClueError) 5 (tAsg (tVar 5) (gName 4)))
  (bv K c a))))
section
variable {K:PySem.W.Frag} {c:RCl RK} {a:EA} {H:Hp} {Q:VK} {p r t L:Addr} {nm:List Nat} {rest:List (List Nat)} {n m:Nat} {k:RK} {cs:List Int} {vr:V}
theorem i7 (er:vr=.str (tx (catL 32 (nm::rest)))) (X:IsRule H c k r p (nm::rest) cs n m) (Ln:LnOk (nm::rest)) (q:∀ H',Same H H'→Q (.bl true) H'):
  cU K c a { nx:=fun _ H'=>Q .non H',rt:=Q } [some (.ref p),some vr,some (.ref t),some (.ref r),some .non,none] H:=by
 subst er
 obtain ⟨dx,W,C,h1,h2,h3⟩:=X.ex
 unfold cU
 walk_at "w"
 refine methE rfl X.ok h1 (by rfl) ?_
 walk_at "w"
 refine ⟨r,p,_,_,_,_,rfl,X,?_⟩
 refine ⟨(n:Int),rfl,true,rfl,iteT ?_⟩
 refine methE rfl X.ok h1 (by rfl) ?_
 walk_at "w"
 refine ⟨r,p,_,_,_,_,rfl,X,?_⟩
 refine ⟨(m:Int),rfl,true,rfl,iteT ?_⟩
 refine methE rfl X.ok h1 (by rfl) ?_
 walk_at "w"
 refine ⟨r,p,_,_,_,_,rfl,X,Ln.len,fun w hw=>(Ln.wd w hw).len,?_⟩
 walk_at "w"
 exact q _ (Same.refl H)
theorem i8 (er:vr=.str (tx (catL 32 (nm::rest)))) (X:IsRule H c k r p (nm::rest) cs n m) (Ln:LnOk (nm::rest)) (D:pb H t nm L n m cs) (q:∀ H',Same H H'→Q (.bl true) H'):
  cV K c a { nx:=fun _ H'=>Q .non H',rt:=Q } [some (.ref p),some vr,some (.ref t),some (.ref r),some .non,none] H:=by
 obtain ⟨dx,W,C,h1,h2,h3⟩:=X.ex
 unfold cV
 rw [aB,aE]
 walk_at "w"
 refine methE rfl X.ok h1 (by rfl) ?_
 walk_at "w"
 refine ⟨r,p,_,_,_,_,_,rfl,X,?_⟩
 refine methE rfl X.ok h1 (by rfl) ?_
 walk_at "w"
 refine ⟨r,p,_,_,_,_,rfl,X,fun L2 hL2=>?_⟩
 have s1:Same H (upd H L2 (.lst (cs.map V.int))):=(Same.refl H).laid hL2
 have e1:(upd H L2 (.lst (cs.map V.int))) L2=some (.lst (cs.map V.int)):=ag
 generalize upd H L2 (.lst (cs.map V.int))=H1 at*
 have X1:=X.same s1
 refine methE rfl X.ok (s1 _ _ h1) (by rfl) ?_
 walk_at "w"
 refine ⟨r,p,_,_,_,_,rfl,X1,?_⟩
 refine methE rfl X.ok (s1 _ _ h1) (by rfl) ?_
 walk_at "w"
 refine ⟨r,p,_,_,_,_,rfl,X1,?_⟩
 refine ⟨aq (by show (4:Nat)≤1000; decide),fun T hT=>?_⟩
 have s2:Same H1 (upd H1 T (.tup [V.str (tx nm),V.ref L2,V.int n,V.int m])):=(Same.refl H1).laid hT
 have e2:(upd H1 T (.tup [V.str (tx nm),V.ref L2,V.int n,V.int m])) T=some (.tup [V.str (tx nm),V.ref L2,V.int n,V.int m]):=ag
 generalize upd H1 T (.tup [V.str (tx nm),V.ref L2,V.int n,V.int m])=H2 at*
 have s12:=s1.trans s2
 refine o8 (qr e2 (s2 _ _ e1)) (qr (s12 _ _ D.t) (s12 _ _ D.L)) (o9 (Ln.wd nm List.mem_cons_self).asc _ _ _) (sQ _ _ _ _) ?_
 refine ⟨false,rfl,iteF ?_⟩
 exact i7 er (X.same s12) Ln fun H' s'=>q H' (s12.trans s')
theorem i9 (er:vr=.str (tx (catL 32 (nm::rest)))) (X:IsRule H c k r p (nm::rest) cs n m) (Ln:LnOk (nm::rest)) (D:pb H t nm L n m cs) (q:∀ H',Same H H'→Q (.bl true) H'):
  cW K c a { nx:=fun _ H'=>Q .non H',rt:=Q } [some (.ref p),some vr,some (.ref t),some (.ref r),some .non,none] H:=by
 obtain ⟨dx,W,C,h1,h2,h3⟩:=X.ex
 unfold cW
 rw [aB,aE]
 walk_at "w"
 refine ⟨r,k,dx,_,rfl,X.ok,h1,?_⟩
 refine ⟨true,rfl,iteF ?_⟩
 exact i8 er X Ln D q
theorem pc (er:vr=.str (tx (catL 32 (nm::rest)))) (X:IsRule H c k r p (nm::rest) cs n m) (Ln:LnOk (nm::rest)) (D:pb H t nm L n m cs) (q:∀ H',Same H H'→Q (.bl true) H'):
  bv K c a { nx:=fun _ H'=>Q .non H',rt:=Q } [some (.ref p),some vr,some (.ref t),some (.ref r),some .non,none] H:=by
 unfold bv
 rw [aB,aE]
 walk_at "w"
 rw [decide_eq_false (show ¬ V.ref t=V.non from fun e=>nomatch e)]
 refine iteF ?_
 exact i9 er X Ln D q
theorem lC {x:Addr} (R:ei K a "NoRule" a.NoRule (di a)) (hx:H x=some (.ext (XO x a.NoRule))) (q:∀ H',Same H H'→Q (.bl true) H'):
  bv K c a { nx:=fun _ H'=>Q .non H',rt:=Q } [some (.ref p),some vr,some .non,some .non,some (.ref x),none] H:=by
 have Z:=R.xis
 unfold bv
 rw [aB,aE]
 walk_at "w"
 rw [aE]
 walk_at "w"
 rw [decide_eq_false (show ¬ V.ref x=V.non from fun e=>nomatch e)]
 refine iteF ?_
 refine uJ Z hx qP ⟨true,rfl,iteF ?_⟩
 refine tZ Z hx R.ve ⟨true,rfl,iteF ?_⟩
 walk_at "w"
 rw [aE]
 walk_at "w"
 refine ⟨aq (by show (6:Nat)≤1000; decide),fun T hT=>?_⟩
 have s1:Same H (upd H T (.tup ([a.NoFloor,a.NoFilling,a.NoPuzzle,a.TooMany,a.NotOne,a.NoMove].map V.ref))):=(Same.refl H).laid hT
 refine qd (cs:=[a.NoFloor,a.NoFilling,a.NoPuzzle,a.TooMany,a.NotOne,a.NoMove]) Z (s1 _ _ hx) ag (fun y hy=>R.no y (by unfold di; simp at hy ⊢; grind)) ?_
 refine ⟨false,rfl,iteF ⟨aq (by show (4:Nat)≤1000; decide),fun T2 hT2=>?_⟩⟩
 have s2:Same (upd H T (.tup ([a.NoFloor,a.NoFilling,a.NoPuzzle,a.TooMany,a.NotOne,a.NoMove].map V.ref))) (upd (upd H T (.tup ([a.NoFloor,a.NoFilling,a.NoPuzzle,a.TooMany,a.NotOne,a.NoMove].map V.ref))) T2 (.tup ([a.NoText,a.NoName,a.NoRow,a.BadThought].map V.ref))):=(Same.refl _).laid hT2
 refine qd (cs:=[a.NoText,a.NoName,a.NoRow,a.BadThought]) Z ((s1.trans s2) _ _ hx) ag (fun y hy=>R.no y (by unfold di; simp at hy ⊢; grind)) ?_
 exact ⟨false,rfl,q _ (s1.trans s2)⟩
end
theorem kP {K:PySem.W.Frag} {c:RCl RK} {a:EA} {vs:List V} {H:Hp} {Q:VK} {E:XK} (R:ei K a "NoRule" a.NoRule (di a)) (h:bj K c vs H Q E):cH K c a { nx:=fun _ H'=>Q .non H',rt:=Q } (start ["_law_floor_here","_law_row_here","_law_due_here","_law_found","_law_caught","error"] vs) H:=by
 obtain ⟨p,v,dv,h,w,g,rfl,ha,F,ok,hh,q⟩:=h
 show cH K c a _ [some (.ref p),some v,some dv,none,none,none] H
 unfold cH
 walk_at "w"
 rcases hh with ⟨nm,rest,rfl,Ln,⟨e,rfl⟩ | ⟨n,m,k,cs,t,L,e,rfl,D⟩⟩ | ⟨hN,rfl⟩
 · refine ⟨fun c d H'=>c=.ref a.NoRule∧Same H H',?_,?_⟩
   · walk_at "w"
     exact ⟨p,_,h,w,g,rfl,ha,F,.inl ⟨_,rfl,Ln,(fun n m k cs e'=>by rw [e] at e'; cases e'),fun _ C hC H' s'=>⟨by rw [Glb.eq hC R.g],s'⟩⟩⟩
   · rintro C H2 ⟨e1,s2⟩
     cases e1
     refine ⟨R.ex,fun x hx=>?_⟩
     have s3:Same H2 (upd H2 x (.ext (XO x a.NoRule))):=(Same.refl H2).laid hx
     have ex:(upd H2 x (.ext (XO x a.NoRule))) x=some (.ext (XO x a.NoRule)):=ag
     generalize upd H2 x (.ext (XO x a.NoRule))=H3 at*
     walk_at "w"
     exact lC R ex fun H' s'=>q H' ((s2.trans s3).trans s')
 · refine ⟨fun _ _ _=>False,?_,fun C H2 e=>e.elim⟩
   walk_at "w"
   refine ⟨p,_,h,w,g,rfl,ha,F,.inl ⟨_,rfl,Ln,fun n' m' k' cs' e'=>?_,fun e'=>by rw [e] at e'; cases e'⟩⟩
   rw [e] at e'
   cases e'
   refine ⟨ok k (fun z=>?_),fun r H' s' hr X=>?_⟩
   · rw [z] at e
     exact (nq (ra e)).1 rfl
   · exact pc rfl X Ln ⟨s' _ _ D.t,s' _ _ D.L⟩ fun H2 s2=>q H2 (s'.trans s2)
 · refine ⟨fun c d H'=>c=.ref a.NoRule∧Same H H',?_,?_⟩
   · walk_at "w"
     exact ⟨p,_,h,w,g,rfl,ha,F,.inr ⟨hN,fun C hC H' s'=>⟨by rw [Glb.eq hC R.g],s'⟩⟩⟩
   · rintro C H2 ⟨e1,s2⟩
     cases e1
     refine ⟨R.ex,fun x hx=>?_⟩
     have s3:Same H2 (upd H2 x (.ext (XO x a.NoRule))):=(Same.refl H2).laid hx
     have ex:(upd H2 x (.ext (XO x a.NoRule))) x=some (.ext (XO x a.NoRule)):=ag
     generalize upd H2 x (.ext (XO x a.NoRule))=H3 at*
     walk_at "w"
     exact lC R ex fun H' s'=>q H' ((s2.trans s3).trans s')
def nu (K:PySem.W.Frag) (c:RCl RK):Sp:=fun vs H Q _=>∃ (a:Addr) (ns:List Int),vs=[.ref a]∧SqL K H a (ns.map V.int)∧ns.length≤63∧(∀ k,k≠.Rule→c.ok k=true)∧∀ H',Q (.bl true) H'
def kQ (K:PySem.W.Frag):Sp:=fun vs H Q _=>∃ (a:Addr) (ns:List Int),vs=[.ref a]∧SqL K H a (ns.map V.int)∧ns.length≤63∧∀ H',Q (.bl true) H'
def rb (K:PySem.W.Frag) (c:RCl RK):TS:=
 (tIfS (tNot (tB (tCall (bj K c) [] E0 (tCons (tVar 1) (tCons (tC (.str (tx [114,105,115,105,110,103,32,48]))) (tCons (tTup (tCons (tC (.str (tx [114,105,115,105,110,103]))) (tCons (tLst (tCons (tC (.int 0)) tNil)) (tCons (tC (.int 0)) (tCons (tC (.int 0)) tNil))))) tNil)))))) (tRet (tC (.bl false))) tNext)
def rd (K:PySem.W.Frag) (c:RCl RK):TS:=
 (tSeq (tIfS (tNot (tB (tCall (bj K c) [] E0 (tCons (tVar 1) (tCons (tVar 3) (tCons (tCall (bH K) [] E0 (tCons (tVar 1) (tCons (tVar 3) tNil))) tNil)))))) (tRet (tC (.bl false))) tNext)
  (rb K c))
def re (K:PySem.W.Frag) (c:RCl RK):TS:=
 (tSeq (tAsg (tCall (bI K) [] E0 (tCons (tVar 0) (tCons (tOp cAdd (tC (.int 500)) (tOp cMul (tC (.int 40)) (tVar 2))) (tCons (tVar 1) tNil)))) (gName 3))
  (tSeq (tAsg (tCall (bc K) [] E0 (tCons (tVar 3) (tCons (tCall (aJ K) [] E0 (tCons (tVar 0) (tCons (tOp cAdd (tC (.int 530)) (tOp cMul (tC (.int 40)) (tVar 2))) tNil))) tNil))) (gName 3))
  (rd K c)))
def ki (K:PySem.W.Frag) (c:RCl RK):TS:=
 (tSeq (tAsg (tCall (bg K) [] E0 (tCons (tCall (aJ K) [] E0 (tCons (tVar 0) (tCons (tC (.int 400)) tNil))) tNil)) (gName 1))
  (tSeq (tFor (iJ (tCons (tCB kMin (tCons (tC (.int 12)) (tCons (tOp cAdd (tC (.int 1)) (tOp cDiv (tCB (kLenS K) (tCons (tVar 0) tNil)) (tC (.int 3)))) tNil))) tNil)) (gName 2)
  (re K c))
  (tRet (tC (.bl true)))))
theorem oA:∀ {ws:List (List Nat)} {w:List Nat},w∈ws→w.length≤(catL 32 ws).length∧∀ c∈w,c∈catL 32 ws
 | [x],w,h=>by
  rw [List.mem_singleton.mp h]
  exact ⟨Nat.le_refl _,fun c hc=>hc⟩
 | x::y::r,w,h=>by
  show w.length≤(x++32::catL 32 (y::r)).length∧∀ c∈w,c∈x++32::catL 32 (y::r)
  rcases List.mem_cons.mp h with rfl | h
  · exact ⟨by rw [List.length_append]; omega,fun c hc=>List.mem_append_left _ hc⟩
  · obtain ⟨h1,h2⟩:=oA h
    exact ⟨by rw [List.length_append,List.length_cons]; omega,fun c hc=>List.mem_append_right _ (List.mem_cons_of_mem _ (h2 c hc))⟩
theorem uV {s:List Nat} (hl:s.length≤400) (ha:∀ c∈s,c < 128):∃ nm rest,s=catL 32 (nm::rest)∧LnOk (nm::rest):=by
 obtain ⟨ws,ne,fr,e,_⟩:=nK 32 s
 cases ws with
 | nil=>exact absurd rfl ne
 | cons nm rest=>
  refine ⟨nm,rest,e.symm,ne,?_,by rw [e]; exact hl,fr,fun w hw=>?_⟩
  · have:=mQ 32 (nm::rest)
    rw [e] at this
    omega
  · obtain ⟨h1,h2⟩:=oA hw
    rw [e] at h1 h2
    exact ⟨by omega,fun c hc=>ha c (h2 c hc)⟩
theorem uW:numW [48]=some 0:=by decide
theorem sR {m g:Int} (h:1≤m):accR m g [nmC .Rising,[48]]=some (0,0,.Rising,[0]):=by
 show cu m g (nmC .Rising) [[48]]=_
 have hA:¬ tx (nmC .Rising)∈ar:=by decide
 have hN:¬ tx (nmC .Rising)∈aQ:=by decide
 have hS:¬ tx (nmC .Rising)∈aX:=by decide
 have hk:kOf (nmC .Rising)=some .Rising:=rfl
 have hT:accT m [[48]]=true:=by
  unfold accT
  have:okC m [48]=true:=by
   unfold okC
   rw [uW,eQ,decide_eq_true (by omega),decide_eq_true (by omega)]; rfl
  simp [this]
 unfold cu cJ bS cr
 rw [if_neg hN,if_neg hS,if_neg hA,if_pos hT,hk]
 rfl
theorem uq:LnOk [nmC .Rising,[48]]:=⟨by simp,by simp,by decide,by decide,fun w hw=>by
 rcases List.mem_cons.mp hw with rfl | hw
 · exact ⟨by decide,by decide⟩
 · rw [List.mem_singleton.mp hw]; exact ⟨by decide,by decide⟩⟩
section
variable {K:PySem.W.Frag} {c:RCl RK} {H:Hp} {Q:VK} {D:Ends} {a p:Addr} {h w g i:Int} {ns:List Int} {v:Option V}
theorem kR (ok:∀ k,k≠.Rule→c.ok k=true) (ha:IsFl H p h w g) (F:FlOk h w g) (q:∀ H',Same H H'→D.nx [some (.ref a),some (.ref p),some (.int i),v] H'):
  rb K c D [some (.ref a),some (.ref p),some (.int i),v] H:=by
 obtain ⟨h0,h1,w0,w1,m16,g0,g1⟩:=id F
 have mp:1≤h*w:=Int.mul_pos (by omega) (by omega)
 unfold rb
 rw [aE]
 walk_at "w"
 refine ⟨aq (by show (1:Nat)≤1000; decide),fun L hL=>?_⟩
 have s1:Same H (upd H L (.lst [V.int 0])):=(Same.refl H).laid hL
 have eL:(upd H L (.lst [V.int 0])) L=some (.lst (([0]:List Int).map V.int)):=ag
 generalize upd H L (.lst [V.int 0])=H1 at*
 refine ⟨aq (by show (4:Nat)≤1000; decide),fun T hT=>?_⟩
 have s2:Same H1 (upd H1 T (.tup [V.str (tx [114,105,115,105,110,103]),V.ref L,V.int 0,V.int 0])):=(Same.refl H1).laid hT
 have eT:(upd H1 T (.tup [V.str (tx [114,105,115,105,110,103]),V.ref L,V.int 0,V.int 0])) T=some (.tup [V.str (tx [114,105,115,105,110,103]),V.ref L,V.int 0,V.int 0]):=ag
 generalize upd H1 T (.tup [V.str (tx [114,105,115,105,110,103]),V.ref L,V.int 0,V.int 0])=H2 at*
 have s12:=s1.trans s2
 refine ⟨p,_,_,h,w,g,rfl,s12 _ _ ha,F,ok,.inl ⟨nmC .Rising,[[48]],rfl,uq,.inr ⟨0,0,.Rising,[0],T,L,sR mp,rfl,eT,s2 _ _ eL⟩⟩,fun H3 s3=>?_⟩
 refine ⟨true,rfl,iteF ?_⟩
 exact q _ (s12.trans s3)
theorem oB {vr:V} (ok:∀ k,k≠.Rule→c.ok k=true) (ha:IsFl H p h w g) (F:FlOk h w g) (hv:(∃ nm rest,vr=.str (tx (catL 32 (nm::rest)))∧LnOk (nm::rest))∨NoStr H vr) (q:∀ H',Same H H'→D.nx [some (.ref a),some (.ref p),some (.int i),some vr] H'):
  rd K c D [some (.ref a),some (.ref p),some (.int i),some vr] H:=by
 obtain ⟨h0,h1,w0,w1,m16,g0,g1⟩:=id F
 unfold rd
 rw [aB,aE]
 walk_at "w"
 refine ⟨p,vr,h,w,g,rfl,ha,F,?_⟩
 rcases hv with ⟨nm,rest,rfl,Ln⟩ | hN
 · refine .inl ⟨nm,rest,rfl,Ln,fun e H1 s1=>?_,fun n s cs e t L H1 s1 ht hL eL et=>?_⟩
   · rw [qm m16 g1] at e
     have e:=Option.map_eq_none_iff.mp e
     walk_at "w"
     refine ⟨p,_,_,h,w,g,rfl,s1 _ _ ha,F,ok,.inl ⟨nm,rest,rfl,Ln,.inl ⟨e,rfl⟩⟩,fun H2 s2=>⟨true,rfl,iteF ?_⟩⟩
     exact kR ok ((s1.trans s2) _ _ ha) F fun H3 s3=>q _ ((s1.trans s2).trans s3)
   · rw [qm m16 g1] at e
     obtain ⟨⟨n',m',k,cs'⟩,e1,e2⟩:=Option.map_eq_some_iff.mp e
     cases e2
     walk_at "w"
     refine ⟨p,_,_,h,w,g,rfl,s1 _ _ ha,F,ok,.inl ⟨nm,rest,rfl,Ln,.inr ⟨n',m',k,cs',t,L,e1,rfl,et,eL⟩⟩,fun H2 s2=>⟨true,rfl,iteF ?_⟩⟩
     · exact kR ok ((s1.trans s2) _ _ ha) F fun H3 s3=>q _ ((s1.trans s2).trans s3)
 · refine .inr ⟨hN,fun H1 s1=>?_⟩
   walk_at "w"
   refine ⟨p,_,_,h,w,g,rfl,s1 _ _ ha,F,ok,.inr ⟨hN.same s1,rfl⟩,fun H2 s2=>⟨true,rfl,iteF ?_⟩⟩
   exact kR ok ((s1.trans s2) _ _ ha) F fun H3 s3=>q _ ((s1.trans s2).trans s3)
theorem sS (ok:∀ k,k≠.Rule→c.ok k=true) (hS:SqL K H a (ns.map V.int)) (hl:ns.length≤63) (ha:IsFl H p h w g) (F:FlOk h w g) (i0:0≤i) (i1:i < 12) (q:∀ v3 H',Same H H'→D.nx [some (.ref a),some (.ref p),some (.int i),v3] H'):
  re K c D [some (.ref a),some (.ref p),some (.int i),v] H:=by
 unfold re
 walk_at "w"
 refine ⟨.inl ⟨by decide,by decide⟩,a,p,ns,_,h,w,g,rfl,hS,hl,by omega,by omega,ha,F,fun s sl sa H1 s1=>?_⟩
 walk_at "w"
 refine ⟨.inl ⟨by decide,by decide⟩,a,ns,_,rfl,s1.seq hS,hl,by omega,by omega,?_⟩
 refine ⟨s,_,rfl,sl,sa,fun s' l' a' H2 s2=>?_,fun vr H2 s2 hN=>?_⟩
 · walk_at "w"
   obtain ⟨nm,rest,rfl,Ln⟩:=uV l' a'
   exact oB ok ((s1.trans s2) _ _ ha) F (.inl ⟨nm,rest,rfl,Ln⟩) fun H3 s3=>q _ _ ((s1.trans s2).trans s3)
 · walk_at "w"
   exact oB ok ((s1.trans s2) _ _ ha) F (.inr hN) fun H3 s3=>q _ _ ((s1.trans s2).trans s3)
end
theorem ur {K:PySem.W.Frag} {c:RCl RK} {vs:List V} {H:Hp} {Q:VK} {E:XK} (h:nu K c vs H Q E):vs.length=1:=by
 obtain ⟨_,_,rfl,_⟩:=h; rfl
theorem ut {K:PySem.W.Frag} {c:RCl RK} {vs:List V} {H:Hp} {Q:VK} {E:XK} (h:nu K c vs H Q E):ki K c { nx:=fun _ H'=>Q .non H',rt:=Q } (start ["_law_script","_law_floor_here","_law_j","_law_row_here"] vs) H:=by
 obtain ⟨a,ns,rfl,hS,hn,ok,k⟩:=h
 show ki K c _ [some (.ref a),none,none,none] H
 unfold ki
 walk_at "w"
 refine ⟨a,ns,400,rfl,hS,hn,by decide,by decide,?_⟩
 walk_at "w"
 have F:=t9 (dU ns 400)
 refine ⟨_,rfl,fun p H1 s1 hp hfl=>?_⟩
 generalize lawHN (dU ns 400)=h at*
 generalize lawWN (dU ns 400)=w at*
 generalize lawGN (dU ns 400)=g at*
 walk_at "w"
 refine ⟨a,_,rfl,.inl (s1.seq hS),?_⟩
 rw [List.length_map]
 walk_at "w"
 refine ⟨bw (by decide) (by decide),?_⟩
 have hd:(((ns.length:Nat):Int)) / 3≤21:=by omega
 have hd0:0≤(((ns.length:Nat):Int)) / 3:=by omega
 refine ⟨_,rfl,by split <;> omega,by split <;> omega,?_⟩
 refine fO (fun i σ H'=>∃ v2 v3,σ=[some (.ref a),some (.ref p),v2,v3]∧Same H1 H') ⟨_,_,rfl,Same.refl H1⟩ ?_ ?_
 · rintro i σ H2 hi ⟨v2,v3,rfl,s2⟩
   rw [bF]
   have s12:=s1.trans s2
   refine sS ok (s12.seq hS) hn (s2 _ _ hfl) F (by omega) (by split at hi <;> omega) fun v3 H3 s3=>⟨_,_,rfl,s2.trans s3⟩
 · rintro σ H2 ⟨v2,v3,rfl,s2⟩
   walk_at "w"
   exact k _
end L2
namespace L2
open PySem PySem.Spec PyProof.Rows
section
variable {M:Model} {A:Around} {E:Value→Shared→Prop} {s:Shared}
theorem qv {base:Heap} {env:Env} {outer:List Env} {L x:Addr} {c a0 fl:Value} {Q:Unit→Shared→Prop} (hA:A.frames=some (env::outer)) (hf:env.frame=some L)
  (g1:base.StaysIn s.heap) (g2:base.get? x=none) (g3:s.heap.FunFrames base (env::outer)) (g4:s.heap.TracedAtW base x c a0 fl)
  (k:∀ h',Heap.FlyingW base outer x c a0 h'→s.heap.UpToSlots h'→Q () { s with heap:=h' }):wpAny M A (leaving env (.ref x)) Q E s:=by
 by_cases q:(fl==rawInt L)=true
 · have q':fl=rawInt L:=eq_of_beq q
   subst q'
   unfold leaving
   refine wpAny_bind (wpAny_noteFrame_againW hf g4 (wpAny_landsW (L:=L) ⟨g1,g2,g3,g4⟩ fun h' F up=>?_))
   exact k h' ⟨F.1,F.2.1,F.2.2.1.2.2,F.2.2.2⟩ up
 · obtain ⟨ox,us,T,oT,ws,e1,⟨e2,e3⟩,e4,e5,e6,e7,e8,e9,e10⟩:=g4
   subst e2
   have sz3:3 < ws.size:=(Array.getElem?_eq_some_iff.mp e10).1
   have oth:∀ b,b≠T→(s.heap.update T (Obj.mapFields (·.setIfInBounds 3 Value.none))).get? b=s.heap.get? b:=fun b hb=>Heap.get?_update_other _ _ fun z=>hb z.symm
   have nT:∀ b o,s.heap.get? b=some o→(∀ vs,o.data≠.fields vs)→b≠T:=fun b o hb d z=>by
    subst z
    rw [e8] at hb; cases hb
    exact d ws e9
   unfold leaving noteFrame
   simp only [hf]
   refine wpAny_bind (wpAny_bind (wpAny_field e1 e4 e5 ?_))
   rw [if_pos (by simp)]
   refine wpAny_bind (wpAny_field e8 e9 e10 ?_)
   rw [if_neg q]
   refine wpAny_bind (wpAny_setField e8 e9 sz3 ?_)
   refine wpAny_newEntryW hA (g3.of_keeps fun b o hb d=>⟨o,(oth b (nT b o hb d)).trans hb,rfl⟩) hf ((oth x fun z=>e7 z.symm).trans e1) (fun b o hb=>(oth b fun z=>?_).trans (g1 b o hb)) g2 e4 (Array.getElem?_eq_some_iff.mp e5).1 e3 fun h' W=>?_
   · rw [z,e6] at hb; cases hb
   · obtain ⟨w1,w2,w3,w4⟩:=W
     exact k h' ⟨w1,g2,w2.2.2,w3⟩ fun b o hb d=>w4 b o ((oth b (nT b o hb d)).trans hb) d
end
theorem sT {P:Program} {w:World} {env:Env} {outer:List Env} {H₀ H':Hp} {s₀ s':Shared} {x T' C L:Addr} {h':Heap} {fx ex:List Addr}
  (hos:s'.os=s₀.os) (hbare:AllBare s'.gens) (hL:env.frame=some L) (nL:s₀.heap.get? L=none)
  (U:Un (frs (env::outer)) fx H₀ H' s₀.heap s'.heap) (hfx:∀ b∈fx,s₀.heap.get? b=none) (frH:∀ b∈frs (env::outer),H' b=none) (ok:HOk P w H' s'.heap)
  (exn:∀ b∈ex,s₀.heap.get? b=none∧H' b=none)
  (keepAll:∀ b o,s'.heap.get? b=some o→b∉frs (env::outer)→b∉ex→h'.get? b=some o)
  (slots:∀ b o,s'.heap.get? b=some o→b∈frs (env::outer)→∃ sl,h'.get? b=some { o with slots:=sl })
  (nx:s₀.heap.get? x=none) (fx':H' x=none) (nT:s₀.heap.get? T'=none) (fT:H' T'=none) (tr:Tr h' x T' C .none):Fly P w outer H₀ s₀ x T' C H' { s' with heap:=h' }:=by
 have sub:∀ b,b∈frs outer→b∈frs (env::outer):=fun b hb=>by
  unfold frs at hb ⊢
  rw [List.filterMap_cons,hL]
  exact List.mem_cons_of_mem _ hb
 have isL:∀ b,b∈frs (env::outer)→b=L∨b∈frs outer:=fun b hb=>by
  unfold frs at hb ⊢
  rw [List.filterMap_cons,hL] at hb
  exact List.mem_cons.mp hb
 have nfx:∀ b o,s₀.heap.get? b=some o→b∉fx:=fun b o e z=>by rw [hfx b z] at e; cases e
 have nex:∀ b o,s₀.heap.get? b=some o→b∉ex:=fun b o e z=>by rw [(exn b z).1] at e; cases e
 have there:∀ b o,s₀.heap.get? b=some o→∃ o',h'.get? b=some o':=fun b o e=>by
  obtain ⟨o1,e1⟩:=U.there b o e (nfx b o e)
  by_cases hb:b∈frs (env::outer)
  · obtain ⟨sl,e2⟩:=slots b o1 e1 hb
    exact ⟨_,e2⟩
  · exact ⟨o1,keepAll b o1 e1 hb (nex b o e)⟩
 refine ⟨hos,hbare,⟨fun b o e n hb _=>?_,fun b o e n hb _=>?_,fun b o e n _=>U.free b o e n (nfx b o e),fun b o e _=>there b o e,U.tups,U.frzs,U.tbls⟩,?_,fx',fT,nx,nT,tr⟩
 · have nb:b∉frs (env::outer):=fun z=>by
    rcases isL b z with z | z
    · rw [z,nL] at e; cases e
    · exact hb z
   exact keepAll b o (U.keep b o e n nb (nfx b o e)) nb (nex b o e)
 · obtain ⟨sl,e1⟩:=U.slot b o e n (sub b hb) (nfx b o e)
   obtain ⟨sl2,e2⟩:=slots b _ e1 (sub b hb)
   exact ⟨sl2,e2⟩
 · intro a o e
   refine (ok a o e).stay (fun b u hb q=>?_) (fun _ q=>q) fun _ _ q=>q
   have hb':H' b≠none:=by
    rcases hb with rfl | hb
    · rw [e]; simp
    · rw [hb]; simp
   exact keepAll b u q (fun z=>hb' (frH b z)) fun z=>hb' (exn b z).2
theorem qw {h h1 base:Heap} {as:List Addr}:∀ {l:List Env},h.FunFrames base l→(∀ b∈frs l,b∈as∧∀ o,h.get? b=some o→b∈frs l→∃ sl,h1.get? b=some { o with slots:=sl }∧∀ vs,o.data≠.fields vs)→h1.FunFrames (PySem.W.hideAll h as) l:=by
 intro l
 induction l with
 | nil=>intro _ _; trivial
 | cons env r ih=>
  rintro ⟨hk,⟨L,o,hf,_,ho,hd⟩,hr⟩ hin
  have hL:L∈frs (env::r):=by unfold frs; rw [List.filterMap_cons,hf]; exact List.mem_cons_self
  have hsub:∀ b∈frs r,b∈frs (env::r):=fun b hb=>by unfold frs at hb ⊢; rw [List.filterMap_cons,hf]; exact List.mem_cons_of_mem _ hb
  obtain ⟨sl,e1,d1⟩:=(hin L hL).2 o ho hL
  exact ⟨hk,⟨L,_,hf,PySem.W.hideAll_none as (hin L hL).1,e1,d1⟩,ih hr fun b hb=>⟨(hin b (hsub b hb)).1,fun o e _=>(hin b (hsub b hb)).2 o e (hsub b hb)⟩⟩
theorem qx {scope:Scope} {cl:List (Str × Addr)} {C:Addr} {env:Env}:(jC scope cl C env).frame=env.frame:=rfl
theorem pd {e:Value} {env env':Env} (h:env'.frame=env.frame):noteFrame e env'=noteFrame e env:=by
 unfold noteFrame PySem.frameOf
 rw [h]
section
variable {P:Program} {w:World} {K:PySem.W.Frag} {mg:Str→Option Value} {base:Heap} {N:List Str} {qual:Str} {scope:Scope} {f:Addr} {cd:Value} {A:Around} {outer:List Env} {s₀:Shared} {H₀:Hp} {E:XK}
theorem uu {E':XK} {Nb:List Str} {sc:Scope} {cl:List (Str × Addr)} {s2:Shared} {H2:Hp} {fp:List Addr} (himp:∀ c d H,E' c d H→E c d H):
  eH (CX1 P w) (blkCx (cx1 P w K mg base N qual scope f cd A outer s₀ H₀ E) Nb sc cl s2 H2 fp) E':=by
 rintro pins σ H s e s' I ⟨x,T,C,H',rfl,F,q⟩ ⟨pins2,σ2,I2,f2⟩
 have fra:(A.deeper (envOfC qual scope s₀.heap.objs.size f cd)).frames=some (envOfC qual scope s₀.heap.objs.size f cd::outer):=I2.ok.frames
 have hfr:(envOfC qual scope s₀.heap.objs.size f cd).frame=some s₀.heap.objs.size:=rfl
 obtain ⟨m,⟨ob,es,ep,lo,ld,lr⟩,_⟩:=I.loc
 have lfree:H (s2.heap.objs.size+1)=none:=I.free
 have lo:s.heap.get? (s2.heap.objs.size+1)=some ob:=lo
 have Ub:Un (frs (envOfC qual scope s₀.heap.objs.size f cd::outer)) fp H2 H s2.heap s.heap:=I.base
 have fr2:∀ b∈frs (envOfC qual scope s₀.heap.objs.size f cd::outer),∃ o,s2.heap.get? b=some o∧∀ vs,o.data≠.fields vs:=fun b hb=>(I2.stack.mem hb).2
 have fr1:∀ b∈frs (envOfC qual scope s₀.heap.objs.size f cd::outer),∃ o,s.heap.get? b=some o∧∀ vs,o.data≠.fields vs:=fun b hb=>(I.stack.mem hb).2
 have stk:∀ b∈frs (envOfC qual scope s₀.heap.objs.size f cd::outer),H b=none:=I.stkFree
 have ff:s'.heap.FunFrames base (envOfC qual scope s₀.heap.objs.size f cd::outer):=iQ I.stack (fun b hb=>⟨hb,stk b hb⟩) F.un
 have sz2:s₀.heap.objs.size≤s2.heap.objs.size:=I2.sz
 have hfx:∀ b∈fp,s₀.heap.get? b=none:=fun b hb=>by
  rcases (f2 b hb).2.2.2.1 with z | z
  · exact absurd (show b∈([]:List Addr) from z) (by simp)
  · exact Heap.get?_none_of_le z
 have U0:Un (frs (envOfC qual scope s₀.heap.objs.size f cd::outer)) fp H₀ H s₀.heap s.heap:=
  (Un.mono (show Un (frs outer) [] H₀ H2 s₀.heap s2.heap from I2.base) (fun b hb=>by unfold frs at hb ⊢; rw [List.filterMap_cons,hfr]; exact List.mem_cons_of_mem _ hb) fun b z=>absurd z (by simp)).trans Ub
 have U:Un (frs (envOfC qual scope s₀.heap.objs.size f cd::outer)) fp H₀ H' s₀.heap s'.heap:=U0.trans (F.un.mono (fun _ hb=>hb) fun b z=>absurd z (by simp))
 have new0:∀ b,s.heap.get? b=none→s₀.heap.get? b=none:=fun b hb=>by
  cases z:s₀.heap.get? b with
  | none=>rfl
  | some o=>
   obtain ⟨o1,e1⟩:=U0.there b o z fun y=>by rw [hfx b y] at z; cases z
   rw [hb] at e1; cases e1
 have frH:∀ b∈frs (envOfC qual scope s₀.heap.objs.size f cd::outer),H' b=none:=fun b hb=>by
  obtain ⟨o,e1,_⟩:=fr1 b hb
  exact F.un.free b o e1 (stk b hb) (by simp)
 have lnf:(s2.heap.objs.size+1)∉frs (envOfC qual scope s₀.heap.objs.size f cd::outer):=fun z=>by
  obtain ⟨o,e1,_⟩:=fr2 _ z
  exact absurd (Heap.lt_size e1) (Nat.not_lt.mpr (Nat.le_succ _))
 have lo':s'.heap.get? (s2.heap.objs.size+1)=some ob:=F.un.keep _ _ lo lfree lnf (by simp)
 have lnd:∀ vs,ob.data≠.fields vs:=fun vs z=>by rw [ld] at z; cases z
 have exn:∀ b∈[x,T,s2.heap.objs.size+1],s₀.heap.get? b=none∧H' b=none:=fun b hb=>by
  simp only [List.mem_cons,List.not_mem_nil,or_false] at hb
  rcases hb with rfl | rfl | rfl
  · exact ⟨new0 _ F.nx,F.fx⟩
  · exact ⟨new0 _ F.nT,F.fT⟩
  · exact ⟨Heap.get?_none_of_le (Nat.le_trans sz2 (Nat.le_succ _)),F.un.free _ _ lo lfree (by simp)⟩
 obtain ⟨oe,vs,oT,ts,a0,he,hc,h0,hd,h1,hTx,hT,hdT,h3⟩:=F.tr
 have fl:Heap.FlyingW (PySem.W.hideAll s'.heap (frs (envOfC qual scope s₀.heap.objs.size f cd::outer)++[x,T,s2.heap.objs.size+1])) (envOfC qual scope s₀.heap.objs.size f cd::outer) x (.ref C) a0 s'.heap:=
  ⟨fun b o e=>PySem.W.of_hideAll _ e,PySem.W.hideAll_none _ (by simp),fC ff fun b hb=>List.mem_append_left _ hb,oe,vs,T,oT,ts,he,⟨hc,h0⟩,hd,h1,PySem.W.hideAll_none _ (by simp),hTx,hT,hdT,h3⟩
 show wpAny (model P w) (A.deeper (envOfC qual scope s₀.heap.objs.size f cd)) (noteFrame (.ref x) (jC sc cl (s2.heap.objs.size+1) (envOfC qual scope s₀.heap.objs.size f cd))) _ _ s'
 rw [pd qx]
 refine wpAny_looks_onW fra hfr fl fun h4 held up4=>?_
 obtain ⟨sl4,l4⟩:=up4 _ _ lo' lnd
 refine ⟨m,⟨_,es,ep,l4,ld,lr⟩,fun h' sb cenv _=>?_⟩
 obtain ⟨k1,k2,k3,oe',vs',T',oT',ts',b1,b2,b3,b4,b5,b6,b7,b8,b9⟩:=held
 have nLx:x≠s2.heap.objs.size+1:=fun z=>by
  rw [z,l4] at b1; cases b1
  exact lnd _ b3
 have nLT:T'≠s2.heap.objs.size+1:=fun z=>by
  rw [z,l4] at b7; cases b7
  exact lnd _ b8
 have c1:h'.get? x=some oe':=(sb.2 x nLx).trans b1
 have c7:h'.get? T'=some oT':=(sb.2 T' nLT).trans b7
 have sz3:3 < ts'.size:=(Array.getElem?_eq_some_iff.mp b9).1
 have oth:∀ (v:Value) b,b≠T'→(h'.update T' (Obj.mapFields (·.setIfInBounds 3 v))).get? b=h'.get? b:=fun v b hb=>Heap.get?_update_other _ _ fun z=>hb z.symm
 have fin:∀ v:Value,(cx1 P w K mg base N qual scope f cd A outer s₀ H₀ E).xe (.ref x) { s' with heap:=h'.update T' (Obj.mapFields (·.setIfInBounds 3 v)) }:=fun v=>by
  have t7:(h'.update T' (Obj.mapFields (·.setIfInBounds 3 v))).get? T'=some (Obj.mapFields (·.setIfInBounds 3 v) oT'):=Heap.get?_update_self _ c7 (Obj.isFreed_of_fields (Obj.data_mapFields b8 _))
  have t1:(h'.update T' (Obj.mapFields (·.setIfInBounds 3 v))).get? x=some oe':=(oth v x fun z=>b6 z.symm).trans c1
  have hid:∀ b o,(PySem.W.hideAll s'.heap (frs (envOfC qual scope s₀.heap.objs.size f cd::outer)++[x,T,s2.heap.objs.size+1])).get? b=some o→b≠T'∧b≠s2.heap.objs.size+1:=fun b o e=>⟨(fun z=>by rw [z,b5] at e; cases e),(fun z=>by rw [z,PySem.W.hideAll_none _ (by simp)] at e; cases e)⟩
  have slot5:∀ b o,s'.heap.get? b=some o→b∈frs (envOfC qual scope s₀.heap.objs.size f cd::outer)→∃ sl,(h'.update T' (Obj.mapFields (·.setIfInBounds 3 v))).get? b=some { o with slots:=sl }∧∀ vs,o.data≠.fields vs:=fun b o e hb=>by
   obtain ⟨o1,e1,d1⟩:=fr1 b hb
   obtain ⟨sl1,e2⟩:=F.un.slot b o1 e1 (stk b hb) hb (by simp)
   rw [e] at e2; cases e2
   obtain ⟨sl,e4⟩:=up4 b _ e d1
   refine ⟨sl,?_,d1⟩
   rw [oth v b fun z=>by rw [z,b7] at e4; cases e4; exact d1 _ b8,sb.2 b fun z=>lnf (z ▸ hb)]
   exact e4
  show wpAny (model P w) (A.deeper (envOfC qual scope s₀.heap.objs.size f cd)) (leaving (envOfC qual scope s₀.heap.objs.size f cd) (.ref x)) _ _ _
  refine qv (base:=PySem.W.hideAll s'.heap (frs (envOfC qual scope s₀.heap.objs.size f cd::outer)++[x,T,s2.heap.objs.size+1])) (c:=.ref C) (a0:=a0) (fl:=v) fra hfr (fun b o e=>?_) k2 (qw ff fun b hb=>⟨List.mem_append_left _ hb,slot5 b⟩) ⟨oe',vs',T',_,_,t1,b2,b3,b4,b5,b6,t7,Obj.data_mapFields b8 _,by simp [sz3]⟩ fun h6 fl6 up6=>?_
  · rw [oth v b (hid b o e).1,sb.2 b (hid b o e).2]
    exact k1 b o e
  · obtain ⟨g1,g2,g3,oe6,vs6,T6,oT6,ts6,d1,d2,d3,d4,d5,d6,d7,d8,d9⟩:=fl6
    have slot6:∀ b o,s'.heap.get? b=some o→b∈frs (envOfC qual scope s₀.heap.objs.size f cd::outer)→∃ sl,h6.get? b=some { o with slots:=sl }:=fun b o e hb=>by
     obtain ⟨sl,e5,d5⟩:=slot5 b o e hb
     obtain ⟨sl6,e6⟩:=up6 b _ e5 d5
     exact ⟨sl6,e6⟩
    have T6s:∀ o,s'.heap.get? T6=some o→T6∈[x,T,s2.heap.objs.size+1]:=fun o e=>by
     by_cases z:T6∈frs (envOfC qual scope s₀.heap.objs.size f cd::outer)++[x,T,s2.heap.objs.size+1]
     · rcases List.mem_append.mp z with z | z
       · obtain ⟨sl,e5,d5⟩:=slot5 T6 o e z
         obtain ⟨sl6,e6⟩:=slot6 T6 o e z
         rw [d7] at e6; cases e6
         exact absurd d8 (d5 _)
       · exact z
     · rw [PySem.W.hideAll_get _ e z] at d5; cases d5
    refine ⟨x,T6,C,H',rfl,sT (s':=s') (env:=envOfC qual scope s₀.heap.objs.size f cd) (fx:=fp) (ex:=[x,T,s2.heap.objs.size+1]) (F.os.trans (I.os.trans I2.os)) F.bare hfr (Heap.get?_none_of_le (Nat.le_refl _)) U hfx frH F.hok exn
     (fun b o e hb hx=>g1 b o (PySem.W.hideAll_get _ e fun z=>(List.mem_append.mp z).elim hb hx)) slot6 (new0 _ F.nx) F.fx ?_ ?_ ⟨oe6,vs6,oT6,ts6,a0,d1,d2.1,d2.2,d3,d4,d6,d7,d8,d9⟩,himp _ _ _ q⟩
    · cases z:s'.heap.get? T6 with
      | some o=>exact (exn _ (T6s o z)).1
      | none=>
       cases y:s₀.heap.get? T6 with
       | none=>rfl
       | some o=>
        obtain ⟨o1,e1⟩:=U.there T6 o y fun u=>by rw [hfx _ u] at y; cases y
        rw [z] at e1; cases e1
    · cases z:H' T6 with
      | none=>rfl
      | some o=>
       obtain ⟨u,e1⟩:=(F.hok T6 o z).ob
       rw [(exn _ (T6s u e1)).2] at z; cases z
 unfold PySem.passOn
 refine wpAny_bind (wpAny_field (s:={ s' with heap:=h' }) c1 b3 b4 ?_)
 rw [if_neg (by simp)]
 refine wpAny_bind ?_
 unfold setFlight
 refine wpAny_bind (wpAny_field (s:={ s' with heap:=h' }) c1 b3 b4 ?_)
 rw [if_pos (by simp)]
 exact wpAny_setField (s:={ s' with heap:=h' }) c7 b8 sz3 (wpAny_throw (fin _))
end
end L2
namespace L2
open PySem PySem.Spec PyProof.Rows
end L2
namespace L2
open PySem PySem.Spec PyProof.Rows
end L2
namespace L2
open PySem PySem.Spec PyProof.Rows
end L2
namespace L2
open PySem PySem.Spec PyProof.Rows
def top (i:Nat):Stmt:=PySem.Challenge.pw_cluemaker_k18_rows_read_and_refused.main.body.getD i (.Pass ⟨0,0,0,0⟩)
def mtop (i j:Nat):Stmt:=match top i with
 | .ClassDef _ _ _ body _ _ _ _ _ _ _=>body.getD j (.Pass ⟨0,0,0,0⟩)
 | s=>s
abbrev fG:Stmt:=top 15
theorem sc_many_cells:ay ["floor"] ["floor"] (aj fG):=⟨rfl,rfl,rfl,by decide+kernel,rfl,by decide+kernel,by decide+kernel⟩
set_option maxHeartbeats 4000000 in
theorem lV {P:Program} {w:World} {K:PySem.W.Frag} {mg:Str→Option Value} {base:Heap} (B:Bt2 mg) {f:Addr} {fd:FuncData} (F:Fun K "many_cells" "many_cells" fG f fd):FnOk P w K mg base CX0 1 f fd ["floor"] (bf K):=by
 refine F.ok sc_many_cells (fun vs H Q E h=>lJ h) (fun cdv A outer s H vs Q E hr h=>?_)
 have hu:=hr.units
 have nd:=sc_many_cells.nd
 refine ⟨c8 K,?_,lK h⟩
 exact (af (ap (ai bE (aH (aV hu) (pv 0) ad (fun _ _=>rfl)) (aH (aV hu) (pv 0) ad (fun _ _=>rfl)))))
abbrev dX:Stmt:=mtop 17 0
theorem sc_Rule___init__:ay ["self","floor","words","cells","amount","mark"] ["self","floor","words","cells","amount","mark"] (aj dX):=⟨rfl,rfl,rfl,by decide+kernel,rfl,by decide+kernel,by decide+kernel⟩
set_option maxHeartbeats 4000000 in
theorem jx {P:Program} {w:World} {K:PySem.W.Frag} {mg:Str→Option Value} {base:Heap} (B:Bt2 mg) {c:RCl RK} (FK_c_amount:FldK K c "amount") (FK_c_cells:FldK K c "cells") (FK_c_floor:FldK K c "floor") (FK_c_mark:FldK K c "mark") (FK_c_words:FldK K c "words") {f:Addr} {fd:FuncData} (F:Fun K "__init__" "Rule.__init__" dX f fd):FnOk P w K mg base CX0 1 f fd ["self","floor","words","cells","amount","mark"] (ah K c):=by
 refine F.ok sc_Rule___init__ (fun vs H Q E h=>jp h) (fun cdv A outer s H vs Q E hr h=>?_)
 have hu:=hr.units
 have nd:=sc_Rule___init__.nd
 refine ⟨bR K c,?_,jq h⟩
 exact (ae (gy (pv 0) (pv 1) FK_c_floor)
   (ae (gy (pv 0) (ck jf rfl B.tuple_ mx (aa (pv 2) ac)) FK_c_words)
   (ae (gy (pv 0) (ck jf rfl B.tuple_ mx (aa (pv 3) ac)) FK_c_cells)
   (ae (gy (pv 0) (pv 4) FK_c_amount)
   (af (gy (pv 0) (pv 5) FK_c_mark))))))
abbrev fZ:Stmt:=mtop 17 1
theorem sc_Rule_name:ay ["self"] ["self"] (aj fZ):=⟨rfl,rfl,rfl,by decide+kernel,rfl,by decide+kernel,by decide+kernel⟩
set_option maxHeartbeats 4000000 in
theorem nv {P:Program} {w:World} {K:PySem.W.Frag} {mg:Str→Option Value} {base:Heap} (B:Bt2 mg) {c:RCl RK} (FK_c_words:FldK K c "words") {f:Addr} {fd:FuncData} (F:Fun K "name" "Rule.name" fZ f fd):FnOk P w K mg base CX0 1 f fd ["self"] (dP K c):=by
 refine F.ok sc_Rule_name (fun vs H Q E h=>m5 h) (fun cdv A outer s H vs Q E hr h=>?_)
 have hu:=hr.units
 have nd:=sc_Rule_name.nd
 refine ⟨dQ K c,?_,m6 h⟩
 exact (af (ap (aH (aV hu) (gw (pv 0) FK_c_words) ad (fun _ _=>rfl))))
abbrev fH:Stmt:=mtop 17 2
theorem sc_Rule_spots:ay ["self"] ["self"] (aj fH):=⟨rfl,rfl,rfl,by decide+kernel,rfl,by decide+kernel,by decide+kernel⟩
set_option maxHeartbeats 4000000 in
theorem lW {P:Program} {w:World} {K:PySem.W.Frag} {mg:Str→Option Value} {base:Heap} (B:Bt2 mg) {c:RCl RK} (FK_c_cells:FldK K c "cells") {f:Addr} {fd:FuncData} (F:Fun K "spots" "Rule.spots" fH f fd):FnOk P w K mg base CX0 1 f fd ["self"] (c9 K c):=by
 refine F.ok sc_Rule_spots (fun vs H Q E h=>lL h) (fun cdv A outer s H vs Q E hr h=>?_)
 have hu:=hr.units
 have nd:=sc_Rule_spots.nd
 refine ⟨db K c,?_,lM h⟩
 exact (af (ap (ck oU rfl B.list_ n4 (aa (gw (pv 0) FK_c_cells) ac))))
abbrev eV:Stmt:=mtop 17 3
theorem sc_Rule_number:ay ["self"] ["self"] (aj eV):=⟨rfl,rfl,rfl,by decide+kernel,rfl,by decide+kernel,by decide+kernel⟩
set_option maxHeartbeats 4000000 in
theorem kS {P:Program} {w:World} {K:PySem.W.Frag} {mg:Str→Option Value} {base:Heap} (B:Bt2 mg) {c:RCl RK} (FK_c_amount:FldK K c "amount") {f:Addr} {fd:FuncData} (F:Fun K "number" "Rule.number" eV f fd):FnOk P w K mg base CX0 1 f fd ["self"] (cy K c):=by
 refine F.ok sc_Rule_number (fun vs H Q E h=>kt h) (fun cdv A outer s H vs Q E hr h=>?_)
 have hu:=hr.units
 have nd:=sc_Rule_number.nd
 refine ⟨cz K c,?_,ku h⟩
 exact (af (ap (gw (pv 0) FK_c_amount)))
abbrev gb:Stmt:=mtop 17 4
theorem sc_Rule_sign:ay ["self"] ["self"] (aj gb):=⟨rfl,rfl,rfl,by decide+kernel,rfl,by decide+kernel,by decide+kernel⟩
set_option maxHeartbeats 4000000 in
theorem nw {P:Program} {w:World} {K:PySem.W.Frag} {mg:Str→Option Value} {base:Heap} (B:Bt2 mg) {c:RCl RK} (FK_c_mark:FldK K c "mark") {f:Addr} {fd:FuncData} (F:Fun K "sign" "Rule.sign" gb f fd):FnOk P w K mg base CX0 1 f fd ["self"] (dR K c):=by
 refine F.ok sc_Rule_sign (fun vs H Q E h=>m7 h) (fun cdv A outer s H vs Q E hr h=>?_)
 have hu:=hr.units
 have nd:=sc_Rule_sign.nd
 refine ⟨dS K c,?_,m8 h⟩
 exact (af (ap (gw (pv 0) FK_c_mark)))
abbrev gc:Stmt:=mtop 17 5
theorem sc_Rule_line:ay ["self"] ["self"] (aj gc):=⟨rfl,rfl,rfl,by decide+kernel,rfl,by decide+kernel,by decide+kernel⟩
set_option maxHeartbeats 4000000 in
theorem ny {P:Program} {w:World} {K:PySem.W.Frag} {mg:Str→Option Value} {base:Heap} (B:Bt2 mg) {c:RCl RK} (FK_c_words:FldK K c "words") {f:Addr} {fd:FuncData} (F:Fun K "line" "Rule.line" gc f fd):FnOk P w K mg base CX0 1 f fd ["self"] (cF K c):=by
 refine F.ok sc_Rule_line (fun vs H Q E h=>kM h) (fun cdv A outer s H vs Q E hr h=>?_)
 have hu:=hr.units
 have nd:=sc_Rule_line.nd
 refine ⟨cG K c,?_,kN h⟩
 exact (af (ap (cY PySem.F.plainAttrs_str PySem.F.slot_str_join PySem.F.type_str_join lu am (aa (gw (pv 0) FK_c_words) ac))))
abbrev gd:Stmt:=top 33
theorem sc_number_in:ay ["word"] ["word"] (aj gd):=⟨rfl,rfl,rfl,by decide+kernel,rfl,by decide+kernel,by decide+kernel⟩
set_option maxHeartbeats 4000000 in
theorem nz {P:Program} {w:World} {K:PySem.W.Frag} {mg:Str→Option Value} {base:Heap} (B:Bt2 mg) {t_FIGURES:Tok} (xk:mg "FIGURES"=some (.str (tx [48,49,50,51,52,53,54,55,56,57]) t_FIGURES)) {t_MOST_FIGURES:Tok} (v8:mg "MOST_FIGURES"=some (.int 9 t_MOST_FIGURES)) {f:Addr} {fd:FuncData} (F:Fun K "number_in" "number_in" gd f fd):FnOk P w K mg base CX0 1 f fd ["word"] (bA K):=by
 refine F.ok sc_number_in (fun vs H Q E h=>kD h) (fun cdv A outer s H vs Q E hr h=>?_)
 have hu:=hr.units
 have nd:=sc_number_in.nd
 refine ⟨cB K,?_,kE h⟩
 exact (ae (aw (PW.pt (dH (al (aK hu) (pv 0) am (au _)) (dH (al ft (av aI rfl B.len_ aS (aa (pv 0) ac)) (aZ rfl v8 ⟨t_MOST_FIGURES,rfl⟩) (au _)) (fk (PW.pt (gS (al (aK hu) (aH (aV hu) (pv 0) ad (fun _ _=>rfl)) am (au _)) (gi (al (g6 hu) (pv 0) am (au _))))))))) (af (ap bo)) ao)
   (ae (aw (cX (dG (av (pS rfl) rfl B.all_ tU (aa (ko (ix:=[none,none]) [".0","figure"] (gr rfl (by decide+kernel) rfl rfl rfl) rfl (mE (pv 0)) (fun cl s H fp=>(bD (i:=1) (show ([".0","figure"]:List Str).Nodup by decide+kernel) rfl (Or.inl rfl))) (fun cl s H fp=>iM) (fun cl s H fp=>(nS (eI hu) (pv 1) (aZ rfl xk ⟨t_FIGURES,rfl⟩) (by with_unfolding_all rfl)))) ac)))) (af (ap bo)) ao)
   (af (ap (ck o0 rfl B.int_ pP (aa (pv 0) ac))))))
abbrev fI:Stmt:=top 41
theorem sc__law_mixed:ay ["_law_script","_law_k","_law_number_here","_law_cell"] ["_law_script","_law_k"] (aj fI):=⟨rfl,rfl,rfl,by decide+kernel,rfl,by decide+kernel,by decide+kernel⟩
set_option maxHeartbeats 4000000 in
theorem lX {P:Program} {w:World} {K:PySem.W.Frag} {mg:Str→Option Value} {base:Heap} (B:Bt2 mg) {f:Addr} {fd:FuncData} (F:Fun K "_law_mixed" "_law_mixed" fI f fd):FnOk P w K mg base CX0 1 f fd ["_law_script","_law_k"] (aJ K):=by
 refine F.ok sc__law_mixed (fun vs H Q E h=>lN h) (fun cdv A outer s H vs Q E hr h=>?_)
 have hu:=hr.units
 have nd:=sc__law_mixed.nd
 refine ⟨ke K,?_,kg h⟩
 exact (ae (ax (i:=2) nd rfl (Or.inl rfl) (ai az (ai az (ai bE (ai bE (pv 1) (pv 1)) ad) (ai bE ad (pv 1))) ad))
   (ae (aw (al ft (av cm rfl B.len_ aS (aa (pv 0) ac)) ad (au _)) (ae (ax (i:=3) nd rfl (Or.inl rfl) (ai aF (aH nX (pv 0) (ai aF (pv 1) (av cm rfl B.len_ aS (aa (pv 0) ac))) (fun _ _=>rfl)) (ai r8 ad ad)))
   (af (ax (i:=2) nd rfl (Or.inl rfl) (ai az (pv 2) (ai bE (pv 3) (ai az ad (ai aP (pv 1) (av cm rfl B.len_ aS (aa (pv 0) ac))))))))) ao)
   (af (ap (ai aF (pv 2) ad)))))
abbrev fJ:Stmt:=top 42
theorem sc__law_floor:ay ["_law_number_here","_law_sizes","_law_high","_law_wide"] ["_law_number_here"] (aj fJ):=⟨rfl,rfl,rfl,by decide+kernel,rfl,by decide+kernel,by decide+kernel⟩
set_option maxHeartbeats 4000000 in
theorem lY {P:Program} {w:World} {K:PySem.W.Frag} {mg:Str→Option Value} {base:Heap} (B:Bt2 mg) {f:Addr} {fd:FuncData} (F:Fun K "_law_floor" "_law_floor" fJ f fd):FnOk P w K mg base CX0 1 f fd ["_law_number_here"] (bg K):=by
 refine F.ok sc__law_floor (fun vs H Q E h=>ky h) (fun cdv A outer s H vs Q E hr h=>?_)
 have hu:=hr.units
 have nd:=sc__law_floor.nd
 refine ⟨kf K,?_,kh h⟩
 exact (ae (ax (i:=1) nd rfl (Or.inl rfl) (bN ac))
   (ae (gU PassesOwn.never rfl (kX rfl B.range_ (aa ad (aa ad ac))) (bD (i:=2) nd rfl (Or.inl rfl))
   (af (gU PassesOwn.never rfl (kX rfl B.range_ (aa ad (aa ad ac))) (bD (i:=3) nd rfl (Or.inl rfl))
   (af (aw (al g5 (ai bE (pv 2) (pv 3)) ad (au _)) (af (fi (cY PySem.F.plainAttrs_list PySem.F.slot_list_append PySem.F.type_list_append fg (pv 1) (aa (bC (aa (pv 2) (aa (pv 3) ac))) ac)))) ao)))))
   (ae (tm (aH (aV hu) (pv 1) (ai aF (pv 0) (av aI rfl B.len_ aS (aa (pv 1) ac))) (fun _ _=>rfl)) (sZ rfl (md (bD (i:=2) nd rfl (Or.inl rfl)) (md (bD (i:=3) nd rfl (Or.inl rfl)) rL))))
   (af (ap (bC (aa (pv 2) (aa (pv 3) (aa (ai az ad (ai aF (ai aP (pv 0) ad) ad)) ac)))))))))
abbrev fK:Stmt:=top 44
theorem sc__law_whole:ay ["_law_found"] ["_law_found"] (aj fK):=⟨rfl,rfl,rfl,by decide+kernel,rfl,by decide+kernel,by decide+kernel⟩
set_option maxHeartbeats 4000000 in
theorem lZ {P:Program} {w:World} {K:PySem.W.Frag} {mg:Str→Option Value} {base:Heap} (B:Bt2 mg) {f:Addr} {fd:FuncData} (F:Fun K "_law_whole" "_law_whole" fK f fd):FnOk P w K mg base CX0 1 f fd ["_law_found"] (bt K):=by
 refine F.ok sc__law_whole (fun vs H Q E h=>lF h) (fun cdv A outer s H vs Q E hr h=>?_)
 have hu:=hr.units
 have nd:=sc__law_whole.nd
 refine ⟨c6 K,?_,lG h⟩
 exact (af (ap (ma (av fP rfl B.isinstance_ aY (aa (pv 0) (aa (gh (v:=.ty "int") rfl B.int_ pP rfl) ac))) (pj (pk (av fP rfl B.isinstance_ aY (aa (pv 0) (aa (gh (v:=.ty "bool") rfl B.bool_ sd rfl) ac))))))))
abbrev eX:Stmt:=top 45
theorem sc__law_number:ay ["_law_word","_law_sign_here","_law_number_here"] ["_law_word"] (aj eX):=⟨rfl,rfl,rfl,by decide+kernel,rfl,by decide+kernel,by decide+kernel⟩
set_option maxHeartbeats 4000000 in
theorem kT {P:Program} {w:World} {K:PySem.W.Frag} {mg:Str→Option Value} {base:Heap} (B:Bt2 mg) {f:Addr} {fd:FuncData} (F:Fun K "_law_number" "_law_number" eX f fd):FnOk P w K mg base CX0 1 f fd ["_law_word"] (bh K):=by
 refine F.ok sc__law_number (fun vs H Q E h=>jr h) (fun cdv A outer s H vs Q E hr h=>?_)
 have hu:=hr.units
 have nd:=sc__law_number.nd
 refine ⟨bT K,?_,js h⟩
 exact (ae (aw (PW.pt (dH (al (aK hu) (av aI rfl B.len_ aS (aa (pv 0) ac)) ad (au _)) (fk (al ft (av aI rfl B.len_ aS (aa (ko (ix:=[none,none]) [".0","_law_sign_here"] (gr rfl (by decide+kernel) rfl rfl rfl) rfl (mE (pv 0)) (fun cl s H fp=>(bD (i:=1) (show ([".0","_law_sign_here"]:List Str).Nodup by decide+kernel) rfl (Or.inl rfl))) (fun cl s H fp=>(rY (al (pM hu) (pv 1) am (by with_unfolding_all rfl)))) (fun cl s H fp=>(pv 1))) ac)) ad (au _))))) (af (ap bo)) ao)
   (ae (aw (PW.pt (dH (al ft (av aI rfl B.len_ aS (aa (pv 0) ac)) ad (au _)) (fk (PW.pt (gS (al (aK hu) (av aI rfl B.len_ aS (aa (pv 0) ac)) ad (au _)) (gi (al (aK hu) (aH (aV hu) (pv 0) ad (fun _ _=>rfl)) am (au _)))))))) (af (ap bo)) ao)
   (ae (ax (i:=2) nd rfl (Or.inl rfl) ad)
   (ae (gU PassesOwn.never rfl (mE (pv 0)) (bD (i:=1) nd rfl (Or.inl rfl))
   (af (ax (i:=2) nd rfl (Or.inl rfl) (ai az (ai bE ad (pv 2)) (cY PySem.F.plainAttrs_str PySem.F.slot_str_index PySem.F.type_str_index qV am (aa (pv 1) ac))))))
   (af (ap (pv 2)))))))
abbrev dY:Stmt:=top 46
theorem sc__law_of_cells:ay ["_law_floor_here","_law_name","_law_number_here","_law_sign_here","_law_cells_here","_law_many"] ["_law_floor_here","_law_name","_law_number_here","_law_sign_here","_law_cells_here"] (aj dY):=⟨rfl,rfl,rfl,by decide+kernel,rfl,by decide+kernel,by decide+kernel⟩
set_option maxHeartbeats 4000000 in
theorem jy {P:Program} {w:World} {K:PySem.W.Frag} {mg:Str→Option Value} {base:Heap} (B:Bt2 mg) {f:Addr} {fd:FuncData} (F:Fun K "_law_of_cells" "_law_of_cells" dY f fd):FnOk P w K mg base CX0 1 f fd ["_law_floor_here","_law_name","_law_number_here","_law_sign_here","_law_cells_here"] (aG K):=by
 refine F.ok sc__law_of_cells (fun vs H Q E h=>iE h) (fun cdv A outer s H vs Q E hr h=>?_)
 have hu:=hr.units
 have nd:=sc__law_of_cells.nd
 refine ⟨bK K,?_,iF h⟩
 exact (ae (ax (i:=5) nd rfl (Or.inl rfl) (ai bE (aH (aV hu) (pv 0) ad (fun _ _=>rfl)) (aH (aV hu) (pv 0) ad (fun _ _=>rfl))))
   (ae (aw (PW.pt (dH (al (aK hu) (av aI rfl B.len_ aS (aa (pv 4) ac)) ad (au _)) (dH (al pK (lq rfl rfl rfl B.len_ B.set_ (pv 4)) (av aI rfl B.len_ aS (aa (pv 4) ac)) (au _)) (fk (al tM (av (o5 rfl) rfl B.max_ tS (aa (pv 4) ac)) (pv 5) (au _)))))) (af (ap bo)) ao)
   (ae (aw (PW.pt (gS (al (aK hu) (pv 1) am (au _)) (gi (cX (mh g5 g5 ad (pv 3) (aH (aV hu) (pv 0) ad (fun _ _=>rfl))))))) (af (ap bo)) ao)
   (af (ap (bC (aa (pv 1) (aa (pv 4) (aa (pv 2) (aa (pv 3) ac))))))))))
abbrev ge:Stmt:=top 49
theorem sc__law_sign:ay ["_law_number_here","_law_signs"] ["_law_number_here"] (aj ge):=⟨rfl,rfl,rfl,by decide+kernel,rfl,by decide+kernel,by decide+kernel⟩
set_option maxHeartbeats 4000000 in
theorem nA {P:Program} {w:World} {K:PySem.W.Frag} {mg:Str→Option Value} {base:Heap} (B:Bt2 mg) {f:Addr} {fd:FuncData} (F:Fun K "_law_sign" "_law_sign" ge f fd):FnOk P w K mg base CX0 1 f fd ["_law_number_here"] (bi K):=by
 refine F.ok sc__law_sign (fun vs H Q E h=>kJ h) (fun cdv A outer s H vs Q E hr h=>?_)
 have hu:=hr.units
 have nd:=sc__law_sign.nd
 refine ⟨cD K,?_,kK h⟩
 exact (ae (ax (i:=1) nd rfl (Or.inl rfl) am)
   (ae (ax (i:=1) nd rfl (Or.inl rfl) (ai az (pv 1) am))
   (af (ap (aH (aV hu) (pv 1) (ai aF (pv 0) (av aI rfl B.len_ aS (aa (pv 1) ac))) (fun _ _=>rfl))))))
abbrev dZ:Stmt:=top 34
theorem sc_number_within:ay ["word","least","most","number"] ["word","least","most"] (aj dZ):=⟨rfl,rfl,rfl,by decide+kernel,rfl,by decide+kernel,by decide+kernel⟩
set_option maxHeartbeats 4000000 in
theorem jz {P:Program} {w:World} {K:PySem.W.Frag} {mg:Str→Option Value} {base:Heap} (B:Bt2 mg) (wH:Cal P w K mg base 1 "number_in" ["word"] (bA K)) {a:EA} (EM:ErrM mg a) (R_NoRule:ei K a "NoRule" a.NoRule (di a)) {f:Addr} {fd:FuncData} (F:Fun K "number_within" "number_within" dZ f fd):FnOk P w K mg base (CX1 P w) 2 f fd ["word","least","most"] (aM K):=by
 refine F.ok1 sc_number_within (fun vs H Q E h=>iB h) (fun cdv A outer s H vs Q E hr h=>?_)
 have hu:=hr.units
 have nd:=sc_number_within.nd
 refine ⟨bJ K a E,?_,iC R_NoRule h⟩
 exact (ae (ax (i:=3) nd rfl (Or.inl rfl) (aU wH hr (by decide) rfl (aa (pv 0) ac)))
   (ae (aw (PW.pt (dH (al mf (pv 3) bo (au _)) (dH (al pK (pv 3) (pv 1) (au _)) (fk (al ft (pv 3) (pv 2) (au _)))))) (af (dh R_NoRule.xc rfl EM.NoRule (aa am ac))) ao)
   (af (ap (pv 3)))))
abbrev fL:Stmt:=top 43
theorem sc__law_cells:ay ["_law_script","_law_at","_law_many","_law_count","_law_left","_law_found","_law_k"] ["_law_script","_law_at","_law_many","_law_count"] (aj fL):=⟨rfl,rfl,rfl,by decide+kernel,rfl,by decide+kernel,by decide+kernel⟩
set_option maxHeartbeats 4000000 in
theorem l5 {P:Program} {w:World} {K:PySem.W.Frag} {mg:Str→Option Value} {base:Heap} (B:Bt2 mg) (vc:Cal P w K mg base 1 "_law_mixed" ["_law_script","_law_k"] (aJ K)) {f:Addr} {fd:FuncData} (F:Fun K "_law_cells" "_law_cells" fL f fd):FnOk P w K mg base CX0 2 f fd ["_law_script","_law_at","_law_many","_law_count"] (bz K):=by
 refine F.ok sc__law_cells (fun vs H Q E h=>kA h) (fun cdv A outer s H vs Q E hr h=>?_)
 have hu:=hr.units
 have nd:=sc__law_cells.nd
 refine ⟨cA K,?_,kB h⟩
 exact (ae (ax (i:=4) nd rfl (Or.inl rfl) (fY rfl rfl rfl B.list_ B.range_ (aa (pv 2) ac)))
   (ae (ax (i:=5) nd rfl (Or.inl rfl) (bN ac))
   (ae (gU PassesOwn.never rfl (kW rfl B.range_ (aa (pv 3) ac)) (bD (i:=6) nd rfl (Or.inl rfl))
   (af (fi (cY PySem.F.plainAttrs_list PySem.F.slot_list_append PySem.F.type_list_append fg (pv 5) (aa (cY PySem.F.plainAttrs_list PySem.F.slot_list_pop PySem.F.type_list_pop lw (pv 4) (aa (ai aF (aU vc hr (by decide) rfl (aa (pv 0) (aa (ai az (pv 1) (pv 6)) ac))) (av aI rfl B.len_ aS (aa (pv 4) ac))) ac)) ac)))))
   (af (ap (pv 5))))))
abbrev gP:Stmt:=top 47
theorem sc__law_due:ay ["_law_floor_here","_law_row_here","_law_words","_law_name","_law_numbers"] ["_law_floor_here","_law_row_here"] (aj gP):=⟨rfl,rfl,rfl,by decide+kernel,rfl,by decide+kernel,by decide+kernel⟩
set_option maxHeartbeats 4000000 in
theorem nM {P:Program} {w:World} {K:PySem.W.Frag} {mg:Str→Option Value} {base:Heap} (B:Bt2 mg) (wm:Cal P w K mg base 1 "_law_number" ["_law_word"] (bh K)) (vg:Cal P w K mg base 1 "_law_of_cells" ["_law_floor_here","_law_name","_law_number_here","_law_sign_here","_law_cells_here"] (aG K)) {f:Addr} {fd:FuncData} (F:Fun K "_law_due" "_law_due" gP f fd):FnOk P w K mg base CX0 2 f fd ["_law_floor_here","_law_row_here"] (bH K):=by
 refine F.ok sc__law_due (fun vs H Q E h=>lR h) (fun cdv A outer s H vs Q E hr h=>?_)
 have hu:=hr.units
 have nd:=sc__law_due.nd
 refine ⟨de K,?_,lS h⟩
 refine ae ?_ ?_
 · exact (aw (cX (dG (av fP rfl B.isinstance_ aY (aa (pv 1) (aa (gh (v:=.ty "str") rfl B.str_ g7 rfl) ac))))) (af (ap bo)) ao)
 · refine ae ?_ ?_
   · exact (ax (i:=2) nd rfl (Or.inl rfl) (cY PySem.F.plainAttrs_str PySem.F.slot_str_split PySem.F.type_str_split lh (pv 1) (aa am ac)))
   · refine ae ?_ ?_
     · exact (ax (i:=3) nd rfl (Or.inl rfl) (aH (aV hu) (pv 2) ad (fun _ _=>rfl)))
     · refine ae ?_ ?_
       · exact (n3 (k:=4) nd rfl (Or.inl rfl) rfl (ix:=[none,none]) [".0","_law_word"] (gr rfl (by decide+kernel) rfl rfl rfl) rfl (km (ba ci (pv 2) (bq ad) bp)) (fun cl s H fp=>(bD (i:=1) (show ([".0","_law_word"]:List Str).Nodup by decide+kernel) rfl (Or.inl rfl))) (fun cl s H fp=>iM) (fun cl s H fp=>(aU wm hr (by decide) rfl (aa (pv 1) ac))))
       · refine ae ?_ ?_
         · exact (aw (al (eI hu) bo (pv 4) (by with_unfolding_all rfl)) (af (ap bo)) ao)
         · refine ae ?_ ?_
           · exact (aw (al (eI hu) (pv 3) (bC (aa am (aa am (aa am ac)))) (by with_unfolding_all rfl)) (ae (aw (PW.pt (dH (al (g6 hu) (av aI rfl B.len_ aS (aa (pv 4) ac)) ad (au _)) (fk (cX (mh g5 g5 ad (aH (aV hu) (pv 4) ad (fun _ _=>rfl)) (aH (aV hu) (pv 0) ad (fun _ _=>rfl))))))) (af (ap bo)) ao) (af (ap (bC (aa (pv 3) (aa (fY rfl rfl rfl B.list_ B.range_ (aa (ai bE (aH (aV hu) (pv 0) ad (fun _ _=>rfl)) (aH (aV hu) (pv 0) ad (fun _ _=>rfl))) ac)) (aa ad (aa (aH (aV hu) (pv 4) ad (fun _ _=>rfl)) ac)))))))) ao)
           · refine ae ?_ ?_
             · exact (aw (al (eI hu) (pv 3) (bC (aa am (aa am ac))) (by with_unfolding_all rfl)) (af (ap (aU vg hr (by decide) rfl (aa (pv 0) (aa (pv 3) (aa ad (aa ad (aa (pv 4) ac)))))))) ao)
             · refine ae ?_ ?_
               · exact (aw (PW.pt (gS (al (eI hu) (pv 3) (bC (aa am (aa am ac))) (by with_unfolding_all rfl)) (gi (al ft (av aI rfl B.len_ aS (aa (pv 4) ac)) ad (au _))))) (af (ap (aU vg hr (by decide) rfl (aa (pv 0) (aa (pv 3) (aa (aH (aV hu) (pv 4) ad (fun _ _=>rfl)) (aa ad (aa (ba ci (pv 4) (bq ad) bp) ac)))))))) ao)
               · refine ae ?_ ?_
                 · exact (aw (PW.pt (gS (al (aK hu) (pv 3) am (au _)) (gi (al ft (av aI rfl B.len_ aS (aa (pv 4) ac)) ad (au _))))) (af (ap (aU vg hr (by decide) rfl (aa (pv 0) (aa (pv 3) (aa (aH (aV hu) (pv 4) ad (fun _ _=>rfl)) (aa (aH (aV hu) (pv 4) ad (fun _ _=>rfl)) (aa (ba ci (pv 4) (bq ad) bp) ac)))))))) ao)
                 · refine af ?_
                   · exact (ap bo)
abbrev eE:Stmt:=top 50
theorem sc__law_spoiled:ay ["_law_row_here","_law_number_here","_law_way","_law_at"] ["_law_row_here","_law_number_here"] (aj eE):=⟨rfl,rfl,rfl,by decide+kernel,rfl,by decide+kernel,by decide+kernel⟩
set_option maxHeartbeats 4000000 in
theorem kj {P:Program} {w:World} {K:PySem.W.Frag} {mg:Str→Option Value} {base:Heap} (B:Bt2 mg) (wk:Cal P w K mg base 1 "_law_sign" ["_law_number_here"] (bi K)) {f:Addr} {fd:FuncData} (F:Fun K "_law_spoiled" "_law_spoiled" eE f fd):FnOk P w K mg base CX0 2 f fd ["_law_row_here","_law_number_here"] (bc K):=by
 refine F.ok sc__law_spoiled (fun vs H Q E h=>i5 h) (fun cdv A outer s H vs Q E hr h=>?_)
 have hu:=hr.units
 have nd:=sc__law_spoiled.nd
 refine ⟨bM K,?_,i6 h⟩
 refine ae ?_ ?_
 · exact (ax (i:=2) nd rfl (Or.inl rfl) (ai aF (pv 1) ad))
 · refine ae ?_ ?_
   · exact (ax (i:=3) nd rfl (Or.inl rfl) (ai aF (ai aP (pv 1) ad) (ai az (av aI rfl B.len_ aS (aa (pv 0) ac)) ad)))
   · refine ae ?_ ?_
     · exact (aw (al (aK hu) (pv 2) ad (au _)) (af (ap (ai az (ai az (ba ci (pv 0) bp (bq (pv 3))) (aU wk hr (by decide) rfl (aa (ai aP (pv 1) ad) ac))) (ba ci (pv 0) (bq (pv 3)) bp)))) ao)
     · refine ae ?_ ?_
       · exact (aw (al (aK hu) (pv 2) ad (au _)) (af (ap (ai az (ai az (ba ci (pv 0) bp (bq (pv 3))) (aU wk hr (by decide) rfl (aa (ai aP (pv 1) ad) ac))) (ba ci (pv 0) (bq (ai az (pv 3) ad)) bp)))) ao)
       · refine ae ?_ ?_
         · exact (aw (al (aK hu) (pv 2) ad (au _)) (af (ap (ai az (ba ci (pv 0) bp (bq (pv 3))) (ba ci (pv 0) (bq (ai az (pv 3) ad)) bp)))) ao)
         · refine ae ?_ ?_
           · exact (aw (al (aK hu) (pv 2) ad (au _)) (af (ap (ai az (ba ci (pv 0) bp (bq (pv 3))) (ba ci (pv 0) (bq (ai aF (ai aP (pv 1) ad) (ai az (av aI rfl B.len_ aS (aa (pv 0) ac)) ad))) bp)))) ao)
           · refine ae ?_ ?_
             · exact (aw (al (aK hu) (pv 2) ad (au _)) (af (ap (aH (aV hu) (bN (aa bo (aa fN (aa (pv 1) (aa (bN (aa (pv 0) ac)) (aa (bC (aa (pv 0) ac)) (aa am (aa (ai az am (pv 0)) (aa (ai az (pv 0) am) (aa (tI PySem.F.plainAttrs_str PySem.F.slot_str_upper PySem.F.type_str_upper qc (pv 0)) ac)))))))))) (ai aF (ai aP (pv 1) ad) ad) (fun _ _=>rfl)))) ao)
             · refine af ?_
               · exact (ap (pv 0))
abbrev eF:Stmt:=top 35
theorem sc_first_within:ay ["words","least","most"] ["words","least","most"] (aj eF):=⟨rfl,rfl,rfl,by decide+kernel,rfl,by decide+kernel,by decide+kernel⟩
set_option maxHeartbeats 4000000 in
theorem kl {P:Program} {w:World} {K:PySem.W.Frag} {mg:Str→Option Value} {base:Heap} (B:Bt2 mg) (vd:ce P w K mg base 2 "number_within" ["word","least","most"] (aM K)) {a:EA} (EM:ErrM mg a) (R_NoRule:ei K a "NoRule" a.NoRule (di a)) {f:Addr} {fd:FuncData} (F:Fun K "first_within" "first_within" eF f fd):FnOk P w K mg base (CX1 P w) 3 f fd ["words","least","most"] (aW K):=by
 refine F.ok1 sc_first_within (fun vs H Q E h=>iY h) (fun cdv A outer s H vs Q E hr h=>?_)
 have hu:=hr.units
 have nd:=sc_first_within.nd
 refine ⟨bL K a E,?_,iZ R_NoRule h⟩
 exact (ae (aw (al (aK hu) (pv 0) (bN ac) (au _)) (af (dh R_NoRule.xc rfl EM.NoRule (aa am ac))) ao)
   (af (ap (ej (fj fun _ _ _ z=>z) vd hr (by decide) rfl (aa (aH (aV hu) (pv 0) ad (fun _ _=>rfl)) (aa (pv 1) (aa (pv 2) ac)))))))
abbrev fM:Stmt:=top 36
theorem sc_told_cells:ay ["floor","words","cells"] ["floor","words"] (aj fM):=⟨rfl,rfl,rfl,by decide+kernel,rfl,by decide+kernel,by decide+kernel⟩
set_option maxHeartbeats 4000000 in
theorem l6 {P:Program} {w:World} {K:PySem.W.Frag} {mg:Str→Option Value} {base:Heap} (B:Bt2 mg) (vh:Cal P w K mg base 1 "many_cells" ["floor"] (bf K)) (vd:ce P w K mg base 2 "number_within" ["word","least","most"] (aM K)) {a:EA} (EM:ErrM mg a) (R_NoRule:ei K a "NoRule" a.NoRule (di a)) {f:Addr} {fd:FuncData} (F:Fun K "told_cells" "told_cells" fM f fd):FnOk P w K mg base (CX1 P w) 3 f fd ["floor","words"] (br K):=by
 refine F.ok1 sc_told_cells (fun vs H Q E h=>j8 h) (fun cdv A outer s H vs Q E hr h=>?_)
 have hu:=hr.units
 have nd:=sc_told_cells.nd
 refine ⟨cj K a E,?_,ka R_NoRule h⟩
 exact (ae (n3 (k:=2) nd rfl (Or.inl rfl) rfl (ix:=[none,none,some 0]) [".0","word","floor"] (gr rfl (by decide+kernel) rfl rfl rfl) rfl (km (pv 1)) (fun cl s H fp=>(bD (i:=1) (show ([".0","word","floor"]:List Str).Nodup by decide+kernel) rfl (Or.inl rfl))) (fun cl s H fp=>iM) (fun cl s H fp=>(ej (uu fun _ _ _ z=>z) vd hr (by decide) rfl (aa (pv 1) (aa ad (aa (ai rZ (aU vh hr (by decide) rfl (aa (pv 2) ac)) ad) ac))))))
   (ae (aw (al (aK hu) (pv 2) (bN ac) (au _)) (af (dh R_NoRule.xc rfl EM.NoRule (aa am ac))) ao)
   (ae (aw (al (g6 hu) (lq rfl rfl rfl B.len_ B.set_ (pv 2)) (av aI rfl B.len_ aS (aa (pv 2) ac)) (au _)) (af (dh R_NoRule.xc rfl EM.NoRule (aa am ac))) ao)
   (af (ap (pv 2))))))
abbrev iI:Stmt:=top 38
theorem sc_rule_by:ay ["floor","words","cells","amount","mark","name"] ["floor","words","cells","amount","mark"] (aj iI):=⟨rfl,rfl,rfl,by decide+kernel,rfl,by decide+kernel,by decide+kernel⟩
set_option maxHeartbeats 4000000 in
theorem pe {P:Program} {w:World} {K:PySem.W.Frag} {mg:Str→Option Value} {base:Heap} (B:Bt2 mg) {c:RCl RK} (xT:KCal P w K mg base 1 "Count" (c.A .Count) ["self","floor","words","cells","amount","mark"] (ah K c)) (xu:KCal P w K mg base 1 "Joined" (c.A .Joined) ["self","floor","words","cells","amount","mark"] (ah K c)) (wJ:KCal P w K mg base 1 "NoSquare" (c.A .NoSquare) ["self","floor","words","cells","amount","mark"] (ah K c)) (yb:KCal P w K mg base 1 "Ring" (c.A .Ring) ["self","floor","words","cells","amount","mark"] (ah K c)) (xv:KCal P w K mg base 1 "Rising" (c.A .Rising) ["self","floor","words","cells","amount","mark"] (ah K c)) (yc:KCal P w K mg base 1 "Seen" (c.A .Seen) ["self","floor","words","cells","amount","mark"] (ah K c)) (K_Sum:KCal P w K mg base 1 "Sum" (c.A .Sum) ["self","floor","words","cells","amount","mark"] (ah K c)) (xw:KCal P w K mg base 1 "Unlike" (c.A .Unlike) ["self","floor","words","cells","amount","mark"] (ah K c)) {a:EA} (EM:ErrM mg a) (R_NoRule:ei K a "NoRule" a.NoRule (di a)) {f:Addr} {fd:FuncData} (F:Fun K "rule_by" "rule_by" iI f fd):FnOk P w K mg base (CX1 P w) 3 f fd ["floor","words","cells","amount","mark"] (bP K c):=by
 refine F.ok1 sc_rule_by (fun vs H Q E h=>ni h) (fun cdv A outer s H vs Q E hr h=>?_)
 have hu:=hr.units
 have nd:=sc_rule_by.nd
 refine ⟨dW K c a E,?_,nj R_NoRule h⟩
 exact (ae (ax (i:=5) nd rfl (Or.inl rfl) (aH (aV hu) (pv 1) ad (fun _ _=>rfl)))
   (ae (aw (al (aK hu) (pv 5) am (au _)) (af (ap (fU xw hr (by decide) rfl (aa (pv 0) (aa (pv 1) (aa (pv 2) (aa (pv 3) (aa (pv 4) ac)))))))) ao)
   (ae (aw (al (aK hu) (pv 5) am (au _)) (af (ap (fU K_Sum hr (by decide) rfl (aa (pv 0) (aa (pv 1) (aa (pv 2) (aa (pv 3) (aa (pv 4) ac)))))))) ao)
   (ae (aw (al (aK hu) (pv 5) am (au _)) (af (ap (fU xv hr (by decide) rfl (aa (pv 0) (aa (pv 1) (aa (pv 2) (aa (pv 3) (aa (pv 4) ac)))))))) ao)
   (ae (aw (al (aK hu) (pv 5) am (au _)) (af (ap (fU yc hr (by decide) rfl (aa (pv 0) (aa (pv 1) (aa (pv 2) (aa (pv 3) (aa (pv 4) ac)))))))) ao)
   (ae (aw (al (aK hu) (pv 5) am (au _)) (af (ap (fU xT hr (by decide) rfl (aa (pv 0) (aa (pv 1) (aa (pv 2) (aa (pv 3) (aa (pv 4) ac)))))))) ao)
   (ae (aw (al (aK hu) (pv 5) am (au _)) (af (ap (fU xu hr (by decide) rfl (aa (pv 0) (aa (pv 1) (aa (pv 2) (aa (pv 3) (aa (pv 4) ac)))))))) ao)
   (ae (aw (al (aK hu) (pv 5) am (au _)) (af (ap (fU wJ hr (by decide) rfl (aa (pv 0) (aa (pv 1) (aa (pv 2) (aa (pv 3) (aa (pv 4) ac)))))))) ao)
   (ae (aw (al (aK hu) (pv 5) am (au _)) (af (ap (fU yb hr (by decide) rfl (aa (pv 0) (aa (pv 1) (aa (pv 2) (aa (pv 3) (aa (pv 4) ac)))))))) ao)
   (af (dh R_NoRule.xc rfl EM.NoRule (aa am ac))))))))))))
abbrev gQ:Stmt:=top 48
theorem sc__law_row:ay ["_law_script","_law_at","_law_floor_here","_law_number_here","_law_many","_law_name","_law_cells_here","_law_sign_here","_law_wanted","_law_words"] ["_law_script","_law_at","_law_floor_here"] (aj gQ):=⟨rfl,rfl,rfl,by decide+kernel,rfl,by decide+kernel,by decide+kernel⟩
set_option maxHeartbeats 4000000 in
theorem nN {P:Program} {w:World} {K:PySem.W.Frag} {mg:Str→Option Value} {base:Heap} (B:Bt2 mg) (ww:Cal P w K mg base 2 "_law_cells" ["_law_script","_law_at","_law_many","_law_count"] (bz K)) (vc:Cal P w K mg base 1 "_law_mixed" ["_law_script","_law_k"] (aJ K)) {f:Addr} {fd:FuncData} (F:Fun K "_law_row" "_law_row" gQ f fd):FnOk P w K mg base CX0 3 f fd ["_law_script","_law_at","_law_floor_here"] (bI K):=by
 refine F.ok sc__law_row (fun vs H Q E h=>lT h) (fun cdv A outer s H vs Q E hr h=>?_)
 have hu:=hr.units
 have nd:=sc__law_row.nd
 refine ⟨df K,?_,lU h⟩
 refine ae ?_ ?_
 · exact (ax (i:=3) nd rfl (Or.inl rfl) (aU vc hr (by decide) rfl (aa (pv 0) (aa (pv 1) ac))))
 · refine ae ?_ ?_
   · exact (ax (i:=4) nd rfl (Or.inl rfl) (ai bE (aH (aV hu) (pv 2) ad (fun _ _=>rfl)) (aH (aV hu) (pv 2) ad (fun _ _=>rfl))))
   · refine ae ?_ ?_
     · exact (ax (i:=5) nd rfl (Or.inl rfl) (aH (aV hu) (bN (aa am (aa am (aa am (aa am (aa am (aa am (aa am (aa am ac))))))))) (ai aF (pv 3) ad) (fun _ _=>rfl)))
     · refine ae ?_ ?_
       · exact (ax (i:=6) nd rfl (Or.inl rfl) (aU ww hr (by decide) rfl (aa (pv 0) (aa (ai az (pv 1) ad) (aa (pv 4) (aa (ai az ad (ai aF (ai aP (pv 3) ad) (pv 4))) ac))))))
       · refine ae ?_ ?_
         · exact (aw (al (aK hu) (ai aF (ai aP (pv 3) ad) ad) ad (au _)) (af (fi (cY PySem.F.plainAttrs_list PySem.F.slot_list_insert PySem.F.type_list_insert o4 (pv 6) (aa (ai aF (ai aP (pv 3) ad) (ai az (av aI rfl B.len_ aS (aa (pv 6) ac)) ad)) (aa (aH (aV hu) (bN (aa (pv 4) (aa (aH (aV hu) (pv 6) ad (fun _ _=>rfl)) (aa (ai az (pv 4) (ai aF (ai aP (pv 3) ad) ad)) ac)))) (ai aF (ai aP (pv 3) ad) ad) (fun _ _=>rfl)) ac))))) ao)
         · refine ae ?_ ?_
           · exact (ax (i:=7) nd rfl (Or.inl rfl) (ai az ad (ai aF (ai aP (pv 3) ad) (aH (aV hu) (pv 2) ad (fun _ _=>rfl)))))
           · refine ae ?_ ?_
             · exact (aw (al (aK hu) (ai aF (ai aP (pv 3) ad) ad) ad (au _)) (af (ax (i:=7) nd rfl (Or.inl rfl) (aH (aV hu) (bN (aa ad (aa (ai az (aH (aV hu) (pv 2) ad (fun _ _=>rfl)) ad) ac))) (ai aF (ai aP (pv 3) ad) ad) (fun _ _=>rfl)))) ao)
             · refine ae ?_ ?_
               · exact (ax (i:=8) nd rfl (Or.inl rfl) (aH (aV hu) (bN (aa (ai aF (ai aP (pv 3) ad) ad) (aa (ai aF (ai aP (pv 3) ad) ad) (aa ad (aa ad ac))))) (ai aF (ai aP (pv 3) ad) ad) (fun _ _=>rfl)))
               · refine ae ?_ ?_
                 · exact (ax (i:=9) nd rfl (Or.inl rfl) (bN (aa (pv 5) ac)))
                 · refine ae ?_ ?_
                   · exact (aw (al (eI hu) (pv 5) (bC (aa am (aa am (aa am ac)))) (by with_unfolding_all rfl)) (af (fi (cY PySem.F.plainAttrs_list PySem.F.slot_list_append PySem.F.type_list_append fg (pv 9) (aa (ck iv rfl B.str_ g7 (aa (pv 8) ac)) ac)))) ao)
                   · refine ae ?_ ?_
                     · exact (aw (al (eI hu) (pv 5) (bC (aa am (aa am (aa am (aa am ac))))) (by with_unfolding_all rfl)) (af (fi (cY PySem.F.plainAttrs_list PySem.F.slot_list_append PySem.F.type_list_append fg (pv 9) (aa (ck iv rfl B.str_ g7 (aa (pv 7) ac)) ac)))) ao)
                     · refine ae ?_ ?_
                       · exact (aw (al (eI hu) (pv 5) (bC (aa am (aa am (aa am (aa am (aa am ac)))))) (by with_unfolding_all rfl)) (af (ax (i:=9) nd rfl (Or.inl rfl) (ai az (pv 9) (ko (ix:=[none,none]) [".0","_law_cell"] (gr rfl (by decide+kernel) rfl rfl rfl) rfl (km (pv 6)) (fun cl s H fp=>(bD (i:=1) (show ([".0","_law_cell"]:List Str).Nodup by decide+kernel) rfl (Or.inl rfl))) (fun cl s H fp=>iM) (fun cl s H fp=>(ck iv rfl B.str_ g7 (aa (pv 1) ac))))))) ao)
                       · refine ae ?_ ?_
                         · exact (aw (al (aK hu) (ai aF (ai aP (pv 3) ad) ad) ad (au _)) (af (fi (cY PySem.F.plainAttrs_list PySem.F.slot_list_pop PySem.F.type_list_pop lw (pv 9) (aa (ai aF (ai aP (pv 3) ad) (av aI rfl B.len_ aS (aa (pv 9) ac))) ac)))) ao)
                         · refine af ?_
                           · exact (ap (cY PySem.F.plainAttrs_str PySem.F.slot_str_join PySem.F.type_str_join lu am (aa (pv 9) ac)))
abbrev gR:Stmt:=top 37
theorem sc_cells_of:ay ["floor","name","words"] ["floor","name","words"] (aj gR):=⟨rfl,rfl,rfl,by decide+kernel,rfl,by decide+kernel,by decide+kernel⟩
set_option maxHeartbeats 4000000 in
theorem nO {P:Program} {w:World} {K:PySem.W.Frag} {mg:Str→Option Value} {base:Heap} (B:Bt2 mg) (vh:Cal P w K mg base 1 "many_cells" ["floor"] (bf K)) (wx:ce P w K mg base 3 "told_cells" ["floor","words"] (br K)) (G_OF_ALL_CELLS:GTup K mg "OF_ALL_CELLS" ar) {a:EA} (EM:ErrM mg a) (R_NoRule:ei K a "NoRule" a.NoRule (di a)) {f:Addr} {fd:FuncData} (F:Fun K "cells_of" "cells_of" gR f fd):FnOk P w K mg base (CX1 P w) 4 f fd ["floor","name","words"] (bG K):=by
 refine F.ok1 sc_cells_of (fun vs H Q E h=>lP h) (fun cdv A outer s H vs Q E hr h=>?_)
 have hu:=hr.units
 have nd:=sc_cells_of.nd
 refine ⟨dc K a E,?_,lQ R_NoRule h⟩
 exact (ae (aw (sG G_OF_ALL_CELLS (pv 1) rfl) (af (ap (ej (fj fun _ _ _ z=>z) wx hr (by decide) rfl (aa (pv 0) (aa (pv 2) ac))))) ao)
   (ae (aw (al (g6 hu) (pv 2) (bN ac) (au _)) (af (dh R_NoRule.xc rfl EM.NoRule (aa am ac))) ao)
   (af (ap (fY rfl rfl rfl B.list_ B.range_ (aa (aU vh hr (by decide) rfl (aa (pv 0) ac)) ac))))))
abbrev gf:Stmt:=top 39
theorem sc_read_rule:ay ["floor","line","words","name","rest","amount","mark"] ["floor","line"] (aj gf):=⟨rfl,rfl,rfl,by decide+kernel,rfl,by decide+kernel,by decide+kernel⟩
set_option maxHeartbeats 4000000 in
theorem nB {P:Program} {w:World} {K:PySem.W.Frag} {mg:Str→Option Value} {base:Heap} (B:Bt2 mg) {c:RCl RK} (wK:ce P w K mg base 4 "cells_of" ["floor","name","words"] (bG K)) (vt:ce P w K mg base 3 "first_within" ["words","least","most"] (aW K)) (xl:ce P w K mg base 3 "rule_by" ["floor","words","cells","amount","mark"] (bP K c)) {t_MOST_NUMBER:Tok} (wn:mg "MOST_NUMBER"=some (.int 99 t_MOST_NUMBER)) (G_WITH_NUMBER:GTup K mg "WITH_NUMBER" aQ) (G_WITH_SIGN:GTup K mg "WITH_SIGN" aX) {a:EA} (EM:ErrM mg a) (R_NoRule:ei K a "NoRule" a.NoRule (di a)) {f:Addr} {fd:FuncData} (F:Fun K "read_rule" "read_rule" gf f fd):FnOk P w K mg base (CX1 P w) 5 f fd ["floor","line"] (bB K c):=by
 refine F.ok1 sc_read_rule (fun vs H Q E h=>kF h) (fun cdv A outer s H vs Q E hr h=>?_)
 have hu:=hr.units
 have nd:=sc_read_rule.nd
 refine ⟨cC K c a E,?_,kG R_NoRule h⟩
 exact (ae (aw (cX (dG (av fP rfl B.isinstance_ aY (aa (pv 1) (aa (gh (v:=.ty "str") rfl B.str_ g7 rfl) ac))))) (af (dh R_NoRule.xc rfl EM.NoRule (aa am ac))) ao)
   (ae (ax (i:=2) nd rfl (Or.inl rfl) (cY PySem.F.plainAttrs_str PySem.F.slot_str_split PySem.F.type_str_split lh (pv 1) (aa am ac)))
   (ae (ax (i:=3) nd rfl (Or.inl rfl) (aH (aV hu) (pv 2) ad (fun _ _=>rfl)))
   (ae (ax (i:=4) nd rfl (Or.inl rfl) (ba ci (pv 2) (bq ad) bp))
   (ae (ax (i:=5) nd rfl (Or.inl rfl) ad)
   (ae (ax (i:=6) nd rfl (Or.inl rfl) ad)
   (ae (aw (qf G_WITH_NUMBER (pv 3) rfl) (ae (ax (i:=5) nd rfl (Or.inl rfl) (ej (fj fun _ _ _ z=>z) vt hr (by decide) rfl (aa (pv 4) (aa ad (aa (aZ rfl wn ⟨t_MOST_NUMBER,rfl⟩) ac)))))
   (af (ax (i:=4) nd rfl (Or.inl rfl) (ba ci (pv 4) (bq ad) bp)))) ao)
   (ae (aw (qf G_WITH_SIGN (pv 3) rfl) (ae (ax (i:=6) nd rfl (Or.inl rfl) (ej (fj fun _ _ _ z=>z) vt hr (by decide) rfl (aa (pv 4) (aa ad (aa (aH (aV hu) (pv 0) ad (fun _ _=>rfl)) ac)))))
   (af (ax (i:=4) nd rfl (Or.inl rfl) (ba ci (pv 4) (bq ad) bp)))) ao)
   (af (ap (ej (fj fun _ _ _ z=>z) xl hr (by decide) rfl (aa (pv 0) (aa (pv 2) (aa (ej (fj fun _ _ _ z=>z) wK hr (by decide) rfl (aa (pv 0) (aa (pv 3) (aa (pv 4) ac)))) (aa (pv 5) (aa (pv 6) ac))))))))))))))))
abbrev gg:Stmt:=top 51
theorem sc__law_read:ay ["_law_floor_here","_law_row_here","_law_due_here","_law_found","_law_caught","error"] ["_law_floor_here","_law_row_here","_law_due_here"] (aj gg):=⟨rfl,rfl,rfl,by decide+kernel,rfl,by decide+kernel,by decide+kernel⟩
set_option maxHeartbeats 4000000 in
theorem nD {P:Program} {w:World} {K:PySem.W.Frag} {mg:Str→Option Value} {base:Heap} (B:Bt2 mg) {c:RCl RK} (vQ:Cal P w K mg base 1 "_law_whole" ["_law_found"] (bt K)) (wI:ce P w K mg base 5 "read_rule" ["floor","line"] (bB K c)) (yd:MCal P w K mg base c c.ok 1 "line" ["self"] (fX K c)) (ye:MCal P w K mg base c c.ok 1 "name" ["self"] (iT K c)) (wL:MCal P w K mg base c c.ok 1 "number" ["self"] (eP K c)) (xM:MCal P w K mg base c c.ok 1 "sign" ["self"] (gz K c)) (xU:MCal P w K mg base c c.ok 1 "spots" ["self"] (gG K c)) (IS_Rule:GIsP K mg "Rule" c) {a:EA} (EM:ErrM mg a) (R_NoRule:ei K a "NoRule" a.NoRule (di a)) (BV:mg "ValueError"=none) {f:Addr} {fd:FuncData} (F:Fun K "_law_read" "_law_read" gg f fd):FnOk P w K mg base CX0 6 f fd ["_law_floor_here","_law_row_here","_law_due_here"] (bj K c):=by
 refine F.ok sc__law_read (fun vs H Q E h=>kO h) (fun cdv A outer s H vs Q E hr h=>?_)
 have hu:=hr.units
 have nd:=sc__law_read.nd
 refine ⟨cH K c a,?_,kP R_NoRule h⟩
 exact (ae (ax (i:=3) nd rfl (Or.inl rfl) bo)
   (ae (ax (i:=4) nd rfl (Or.inl rfl) bo)
   (ae (sm (i:=5) (j:=3) (fun _ _ z=>z) wI hr (by decide) rfl (aa (pv 0) (aa (pv 1) ac)) nd rfl rfl rfl rfl rfl EM.ClueError rfl rfl (fun _=>(af (ax (i:=4) nd rfl (Or.inl rfl) (pv 5)))))
   (ae (aw (al mf (pv 2) bo (au _)) (ae (aw (PW.pt (dH (al mf (pv 4) bo (au _)) (dH (cX (dG (av lm rfl B.isinstance_ aY (aa (pv 4) (aa (aZ rfl EM.NoRule rfl) ac))))) (fk (cX (dG (av lm rfl B.isinstance_ aY (aa (pv 4) (aa (gh (v:=.ty "ValueError") rfl BV lI rfl) ac))))))))) (af (ap fN)) ao)
   (ae (aw (dG (av j7 rfl B.isinstance_ aY (aa (pv 4) (aa (bC (aa (aZ rfl EM.NoFloor rfl) (aa (aZ rfl EM.NoFilling rfl) (aa (aZ rfl EM.NoPuzzle rfl) (aa (aZ rfl EM.TooMany rfl) (aa (aZ rfl EM.NotOne rfl) (aa (aZ rfl EM.NoMove rfl) ac))))))) ac)))) (af (ap fN)) ao)
   (af (ap (pk (av j7 rfl B.isinstance_ aY (aa (pv 4) (aa (bC (aa (aZ rfl EM.NoText rfl) (aa (aZ rfl EM.NoName rfl) (aa (aZ rfl EM.NoRow rfl) (aa (aZ rfl EM.BadThought rfl) ac))))) ac)))))))) ao)
   (ae (aw (cX (dG (av (qe IS_Rule.is_) rfl B.isinstance_ aY (aa (pv 3) (aa (aZ rfl IS_Rule.at_ rfl) ac))))) (af (ap fN)) ao)
   (ae (aw (al (g6 hu) (bC (aa (cp ye hr (by decide) (pv 3)) (aa (cp xU hr (by decide) (pv 3)) (aa (cp wL hr (by decide) (pv 3)) (aa (cp xM hr (by decide) (pv 3)) ac))))) (pv 2) (au _)) (af (ap fN)) ao)
   (af (ap (ma (aU vQ hr (by decide) rfl (aa (cp wL hr (by decide) (pv 3)) ac)) (ma (aU vQ hr (by decide) rfl (aa (cp xM hr (by decide) (pv 3)) ac)) (pj (nS (aK hu) (cp yd hr (by decide) (pv 3)) (pv 1) (au _)))))))))))))
abbrev iX:Stmt:=top 52
theorem sc_law:ay ["_law_script","_law_floor_here","_law_j","_law_row_here"] ["_law_script"] (aj iX):=⟨rfl,rfl,rfl,by decide+kernel,rfl,by decide+kernel,by decide+kernel⟩
set_option maxHeartbeats 4000000 in
theorem uv {P:Program} {w:World} {K:PySem.W.Frag} {mg:Str→Option Value} {base:Heap} (B:Bt2 mg) {c:RCl RK} (wM:Cal P w K mg base 2 "_law_due" ["_law_floor_here","_law_row_here"] (bH K)) (wy:Cal P w K mg base 1 "_law_floor" ["_law_number_here"] (bg K)) (vc:Cal P w K mg base 1 "_law_mixed" ["_law_script","_law_k"] (aJ K)) (wl:Cal P w K mg base 6 "_law_read" ["_law_floor_here","_law_row_here","_law_due_here"] (bj K c)) (wN:Cal P w K mg base 3 "_law_row" ["_law_script","_law_at","_law_floor_here"] (bI K)) (v9:Cal P w K mg base 2 "_law_spoiled" ["_law_row_here","_law_number_here"] (bc K)) {f:Addr} {fd:FuncData} (F:Fun K "law" "law" iX f fd):FnOk P w K mg base CX0 7 f fd ["_law_script"] (nu K c):=by
 refine F.ok sc_law (fun vs H Q E h=>ur h) (fun cdv A outer s H vs Q E hr h=>?_)
 have hu:=hr.units
 have nd:=sc_law.nd
 refine ⟨ki K c,?_,ut h⟩
 exact (ae (ax (i:=1) nd rfl (Or.inl rfl) (aU wy hr (by decide) rfl (aa (aU vc hr (by decide) rfl (aa (pv 0) (aa ad ac))) ac)))
   (ae (gU PassesOwn.never rfl (kW rfl B.range_ (aa (av (pN rfl) rfl B.min_ tR (aa ad (aa (ai az ad (ai aP (av cm rfl B.len_ aS (aa (pv 0) ac)) ad)) ac))) ac)) (bD (i:=2) nd rfl (Or.inl rfl))
   (ae (ax (i:=3) nd rfl (Or.inl rfl) (aU wN hr (by decide) rfl (aa (pv 0) (aa (ai az ad (ai bE ad (pv 2))) (aa (pv 1) ac)))))
   (ae (ax (i:=3) nd rfl (Or.inl rfl) (aU v9 hr (by decide) rfl (aa (pv 3) (aa (aU vc hr (by decide) rfl (aa (pv 0) (aa (ai az ad (ai bE ad (pv 2))) ac))) ac))))
   (ae (aw (cX (dG (aU wl hr (by decide) rfl (aa (pv 1) (aa (pv 3) (aa (aU wM hr (by decide) rfl (aa (pv 1) (aa (pv 3) ac))) ac)))))) (af (ap fN)) ao)
   (af (aw (cX (dG (aU wl hr (by decide) rfl (aa (pv 1) (aa am (aa (bC (aa am (aa (bN (aa ad ac)) (aa ad (aa ad ac))))) ac)))))) (af (ap fN)) ao))))))
   (af (ap fN))))
def mkC (vf uZ vb u6 u9 u8 u7 uY va:Addr):RCl RK:=⟨fun k=>match k with | .Rule=>vf | .Unlike=>uZ | .Sum=>vb | .Rising=>u6 | .Seen=>u9 | .Count=>u8 | .Joined=>u7 | .NoSquare=>uY | .Ring=>va,fun k=>match k with | .Rule=>false | _=>true⟩
set_option maxHeartbeats 40000000 in
theorem ux {l:PySem.W.OpenLaw} {w:World} {K:PySem.W.Frag} {h:Heap} {mg:Str→Option Value} {fa:Addr} (X:K.In h) (G:h.Ns mainGlobals mg) (hfa:mg "law"=some (.ref fa))
  {f0 f1 f2 f3 f4 f5 f6 f7 f8 f9 f10 f11 f12 f13 f14 f15 f16 f17 f18 f19 f20 f21 f22 f23 f24 f25:Addr} {fd0 fd1 fd2 fd3 fd4 fd5 fd6 fd7 fd8 fd9 fd10 fd11 fd12 fd13 fd14 fd15 fd16 fd17 fd18 fd19 fd20 fd21 fd22 fd23 fd24 fd25:FuncData} {vf uZ vb u6 u9 u8 u7 uY va:Addr} {vR:Addr} {xN:Option Addr} {xO:Nat} {xP:Array (Option Value)} {xQ xR xS:Tok} {wa:Addr} {xV:Option Addr} {xW:Nat} {xX:Array (Option Value)} {xY xZ x0:Tok} {wz:Addr} {yf:Option Addr} {yg:Nat} {yh:Array (Option Value)} {yi yj yk yl:Tok} {tk_FIGURES:Tok} {tk_MOST_FIGURES:Tok} {tk_MOST_NUMBER:Tok} {x_ClueError x_NoFloor x_NoFilling x_NoRule x_NoPuzzle x_TooMany x_NotOne x_NoMove x_NoText x_NoName x_NoRow x_BadThought:Addr} {cE cC0:Value} {dE dD:Option Addr} {esE:Array DictEntry} {nE:Nat} {sE slD:Array (Option Value)} {ND:Addr} {cdD:ClassData} {nm_NoRule yp:Str} {N_NoRule:Addr} {bs_NoRule:List Value} {hd_NoRule:Bool} {sn_NoRule:List Str} {sub_NoRule:List Value} {ab_NoRule:Bool} {col_NoRule:Option Bool} {dd_NoRule:Option Addr} {k0_NoRule k1_NoRule k2_NoRule k3_NoRule k5_NoRule:Option Value} {cN_NoRule:Value} {dN_NoRule:Option Addr} {es_NoRule:Array DictEntry} {n_NoRule:Nat} {sN_NoRule:Array (Option Value)}
  (ym:PySem.W.nsIn K mainGlobals "Rule"=some (some (.ref vf))) (xx:PySem.W.nsIn K mainGlobals "Unlike"=some (some (.ref uZ))) (q_Sum:PySem.W.nsIn K mainGlobals "Sum"=some (some (.ref vb))) (xy:PySem.W.nsIn K mainGlobals "Rising"=some (some (.ref u6))) (yn:PySem.W.nsIn K mainGlobals "Seen"=some (some (.ref u9))) (x3:PySem.W.nsIn K mainGlobals "Count"=some (some (.ref u8))) (xz:PySem.W.nsIn K mainGlobals "Joined"=some (some (.ref u7))) (wO:PySem.W.nsIn K mainGlobals "NoSquare"=some (some (.ref uY))) (yo:PySem.W.nsIn K mainGlobals "Ring"=some (some (.ref va))) (a0:PySem.W.nsIn K mainGlobals "many_cells"=some (some (.ref f0))) (wP:PySem.W.findIn K (.ref uZ) "__init__"=some (some (.ref f1))) (x4:PySem.W.findIn K (.ref vb) "__init__"=some (some (.ref f1))) (wQ:PySem.W.findIn K (.ref u6) "__init__"=some (some (.ref f1))) (xA:PySem.W.findIn K (.ref u9) "__init__"=some (some (.ref f1))) (xm:PySem.W.findIn K (.ref u8) "__init__"=some (some (.ref f1))) (wR:PySem.W.findIn K (.ref u7) "__init__"=some (some (.ref f1))) (wA:PySem.W.findIn K (.ref uY) "__init__"=some (some (.ref f1))) (xB:PySem.W.findIn K (.ref va) "__init__"=some (some (.ref f1))) (a2_Unlike:PySem.W.findIn K (.ref uZ) "name"=some (some (.ref f2))) (a2_Sum:PySem.W.findIn K (.ref vb) "name"=some (some (.ref f2))) (a2_Rising:PySem.W.findIn K (.ref u6) "name"=some (some (.ref f2))) (a2_Seen:PySem.W.findIn K (.ref u9) "name"=some (some (.ref f2))) (a2_Count:PySem.W.findIn K (.ref u8) "name"=some (some (.ref f2))) (a2_Joined:PySem.W.findIn K (.ref u7) "name"=some (some (.ref f2))) (a2_NoSquare:PySem.W.findIn K (.ref uY) "name"=some (some (.ref f2))) (a2_Ring:PySem.W.findIn K (.ref va) "name"=some (some (.ref f2))) (a3_Unlike:PySem.W.findIn K (.ref uZ) "spots"=some (some (.ref f3))) (a3_Sum:PySem.W.findIn K (.ref vb) "spots"=some (some (.ref f3))) (a3_Rising:PySem.W.findIn K (.ref u6) "spots"=some (some (.ref f3))) (a3_Seen:PySem.W.findIn K (.ref u9) "spots"=some (some (.ref f3))) (a3_Count:PySem.W.findIn K (.ref u8) "spots"=some (some (.ref f3))) (a3_Joined:PySem.W.findIn K (.ref u7) "spots"=some (some (.ref f3))) (a3_NoSquare:PySem.W.findIn K (.ref uY) "spots"=some (some (.ref f3))) (a3_Ring:PySem.W.findIn K (.ref va) "spots"=some (some (.ref f3))) (a4_Unlike:PySem.W.findIn K (.ref uZ) "number"=some (some (.ref f4))) (a4_Sum:PySem.W.findIn K (.ref vb) "number"=some (some (.ref f4))) (a4_Rising:PySem.W.findIn K (.ref u6) "number"=some (some (.ref f4))) (a4_Seen:PySem.W.findIn K (.ref u9) "number"=some (some (.ref f4))) (a4_Count:PySem.W.findIn K (.ref u8) "number"=some (some (.ref f4))) (a4_Joined:PySem.W.findIn K (.ref u7) "number"=some (some (.ref f4))) (a4_NoSquare:PySem.W.findIn K (.ref uY) "number"=some (some (.ref f4))) (a4_Ring:PySem.W.findIn K (.ref va) "number"=some (some (.ref f4))) (a5_Unlike:PySem.W.findIn K (.ref uZ) "sign"=some (some (.ref f5))) (a5_Sum:PySem.W.findIn K (.ref vb) "sign"=some (some (.ref f5))) (a5_Rising:PySem.W.findIn K (.ref u6) "sign"=some (some (.ref f5))) (a5_Seen:PySem.W.findIn K (.ref u9) "sign"=some (some (.ref f5))) (a5_Count:PySem.W.findIn K (.ref u8) "sign"=some (some (.ref f5))) (a5_Joined:PySem.W.findIn K (.ref u7) "sign"=some (some (.ref f5))) (a5_NoSquare:PySem.W.findIn K (.ref uY) "sign"=some (some (.ref f5))) (a5_Ring:PySem.W.findIn K (.ref va) "sign"=some (some (.ref f5))) (a6_Unlike:PySem.W.findIn K (.ref uZ) "line"=some (some (.ref f6))) (a6_Sum:PySem.W.findIn K (.ref vb) "line"=some (some (.ref f6))) (a6_Rising:PySem.W.findIn K (.ref u6) "line"=some (some (.ref f6))) (a6_Seen:PySem.W.findIn K (.ref u9) "line"=some (some (.ref f6))) (a6_Count:PySem.W.findIn K (.ref u8) "line"=some (some (.ref f6))) (a6_Joined:PySem.W.findIn K (.ref u7) "line"=some (some (.ref f6))) (a6_NoSquare:PySem.W.findIn K (.ref uY) "line"=some (some (.ref f6))) (a6_Ring:PySem.W.findIn K (.ref va) "line"=some (some (.ref f6))) (a7:PySem.W.nsIn K mainGlobals "number_in"=some (some (.ref f7))) (a8:PySem.W.nsIn K mainGlobals "_law_mixed"=some (some (.ref f8))) (a9:PySem.W.nsIn K mainGlobals "_law_floor"=some (some (.ref f9))) (a10:PySem.W.nsIn K mainGlobals "_law_whole"=some (some (.ref f10))) (a11:PySem.W.nsIn K mainGlobals "_law_number"=some (some (.ref f11))) (a12:PySem.W.nsIn K mainGlobals "_law_of_cells"=some (some (.ref f12))) (a13:PySem.W.nsIn K mainGlobals "_law_sign"=some (some (.ref f13))) (a14:PySem.W.nsIn K mainGlobals "number_within"=some (some (.ref f14))) (a15:PySem.W.nsIn K mainGlobals "_law_cells"=some (some (.ref f15))) (a16:PySem.W.nsIn K mainGlobals "_law_due"=some (some (.ref f16))) (a17:PySem.W.nsIn K mainGlobals "_law_spoiled"=some (some (.ref f17))) (a18:PySem.W.nsIn K mainGlobals "first_within"=some (some (.ref f18))) (a19:PySem.W.nsIn K mainGlobals "told_cells"=some (some (.ref f19))) (a20:PySem.W.nsIn K mainGlobals "rule_by"=some (some (.ref f20))) (a21:PySem.W.nsIn K mainGlobals "_law_row"=some (some (.ref f21))) (a22:PySem.W.nsIn K mainGlobals "cells_of"=some (some (.ref f22))) (a23:PySem.W.nsIn K mainGlobals "read_rule"=some (some (.ref f23))) (a24:PySem.W.nsIn K mainGlobals "_law_read"=some (some (.ref f24))) (a25:PySem.W.nsIn K mainGlobals "law"=some (some (.ref f25))) (F0:Fun K "many_cells" "many_cells" fG f0 fd0) (F1:Fun K "__init__" "Rule.__init__" dX f1 fd1) (fn1:PySem.W.isFn K (.ref f1)=true) (F2:Fun K "name" "Rule.name" fZ f2 fd2) (fn2:PySem.W.isFn K (.ref f2)=true) (F3:Fun K "spots" "Rule.spots" fH f3 fd3) (fn3:PySem.W.isFn K (.ref f3)=true) (F4:Fun K "number" "Rule.number" eV f4 fd4) (fn4:PySem.W.isFn K (.ref f4)=true) (F5:Fun K "sign" "Rule.sign" gb f5 fd5) (fn5:PySem.W.isFn K (.ref f5)=true) (F6:Fun K "line" "Rule.line" gc f6 fd6) (fn6:PySem.W.isFn K (.ref f6)=true) (F7:Fun K "number_in" "number_in" gd f7 fd7) (F8:Fun K "_law_mixed" "_law_mixed" fI f8 fd8) (F9:Fun K "_law_floor" "_law_floor" fJ f9 fd9) (F10:Fun K "_law_whole" "_law_whole" fK f10 fd10) (F11:Fun K "_law_number" "_law_number" eX f11 fd11) (F12:Fun K "_law_of_cells" "_law_of_cells" dY f12 fd12) (F13:Fun K "_law_sign" "_law_sign" ge f13 fd13) (F14:Fun K "number_within" "number_within" dZ f14 fd14) (F15:Fun K "_law_cells" "_law_cells" fL f15 fd15) (F16:Fun K "_law_due" "_law_due" gP f16 fd16) (F17:Fun K "_law_spoiled" "_law_spoiled" eE f17 fd17) (F18:Fun K "first_within" "first_within" eF f18 fd18) (F19:Fun K "told_cells" "told_cells" fM f19 fd19) (F20:Fun K "rule_by" "rule_by" iI f20 fd20) (F21:Fun K "_law_row" "_law_row" gQ f21 fd21) (F22:Fun K "cells_of" "cells_of" gR f22 fd22) (F23:Fun K "read_rule" "read_rule" gf f23 fd23) (F24:Fun K "_law_read" "_law_read" gg f24 fd24) (F25:Fun K "law" "law" iX f25 fd25) (wS:PySem.W.makesIn K uZ=true) (wT:PySem.W.keepIn K (.ref uZ)=true) (wU:PySem.W.plainGet K uZ Str.empty=true) (wr:PySem.W.hasDictIn K uZ=true) (wV:PySem.W.plainOver K uZ=true) (wW:PySem.W.findIn K (.ref uZ) "__setattr__"=some (some (.builtin "object.__setattr__"))) (x5:PySem.W.makesIn K vb=true) (x6:PySem.W.keepIn K (.ref vb)=true) (x8:PySem.W.plainGet K vb Str.empty=true) (xt:PySem.W.hasDictIn K vb=true) (x9:PySem.W.plainOver K vb=true) (ya:PySem.W.findIn K (.ref vb) "__setattr__"=some (some (.builtin "object.__setattr__"))) (wX:PySem.W.makesIn K u6=true) (wY:PySem.W.keepIn K (.ref u6)=true) (wZ:PySem.W.plainGet K u6 Str.empty=true) (wt:PySem.W.hasDictIn K u6=true) (w5:PySem.W.plainOver K u6=true) (w6:PySem.W.findIn K (.ref u6) "__setattr__"=some (some (.builtin "object.__setattr__"))) (xC:PySem.W.makesIn K u9=true) (xD:PySem.W.keepIn K (.ref u9)=true) (xE:PySem.W.plainGet K u9 Str.empty=true) (w9:PySem.W.hasDictIn K u9=true) (xF:PySem.W.plainOver K u9=true) (xG:PySem.W.findIn K (.ref u9) "__setattr__"=some (some (.builtin "object.__setattr__"))) (xn:PySem.W.makesIn K u8=true) (xo:PySem.W.keepIn K (.ref u8)=true) (xp:PySem.W.plainGet K u8 Str.empty=true) (wG:PySem.W.hasDictIn K u8=true) (xq:PySem.W.plainOver K u8=true) (xr:PySem.W.findIn K (.ref u8) "__setattr__"=some (some (.builtin "object.__setattr__"))) (xa:PySem.W.makesIn K u7=true) (xb:PySem.W.keepIn K (.ref u7)=true) (xf:PySem.W.plainGet K u7 Str.empty=true) (wu:PySem.W.hasDictIn K u7=true) (xg:PySem.W.plainOver K u7=true) (xh:PySem.W.findIn K (.ref u7) "__setattr__"=some (some (.builtin "object.__setattr__"))) (wB:PySem.W.makesIn K uY=true) (wC:PySem.W.keepIn K (.ref uY)=true) (wD:PySem.W.plainGet K uY Str.empty=true) (vS:PySem.W.hasDictIn K uY=true) (wE:PySem.W.plainOver K uY=true) (wF:PySem.W.findIn K (.ref uY) "__setattr__"=some (some (.builtin "object.__setattr__"))) (xH:PySem.W.makesIn K va=true) (xI:PySem.W.keepIn K (.ref va)=true) (xJ:PySem.W.plainGet K va Str.empty=true) (xi:PySem.W.hasDictIn K va=true) (xK:PySem.W.plainOver K va=true) (xL:PySem.W.findIn K (.ref va) "__setattr__"=some (some (.builtin "object.__setattr__"))) (io3_R:PySem.W.specialIn K (.builtin "object.__class__") "__get__"=some (some (.builtin "getset_descriptor.__get__"))) (io4_R:PySem.W.takesIn K (.builtin "object.__class__")=some true) (io1_Unlike:PySem.W.plainGet K uZ "__class__"=true) (io2_Unlike:PySem.W.findIn K (.ref uZ) "__class__"=some (some (.builtin "object.__class__"))) (io5_Unlike:PySem.W.mroIn K uZ (.type "object")=some true) (io6_Unlike:PySem.W.kitOne K (.ref uZ) (.ref vf)=some true) (io1_Sum:PySem.W.plainGet K vb "__class__"=true) (io2_Sum:PySem.W.findIn K (.ref vb) "__class__"=some (some (.builtin "object.__class__"))) (io5_Sum:PySem.W.mroIn K vb (.type "object")=some true) (io6_Sum:PySem.W.kitOne K (.ref vb) (.ref vf)=some true) (io1_Rising:PySem.W.plainGet K u6 "__class__"=true) (io2_Rising:PySem.W.findIn K (.ref u6) "__class__"=some (some (.builtin "object.__class__"))) (io5_Rising:PySem.W.mroIn K u6 (.type "object")=some true) (io6_Rising:PySem.W.kitOne K (.ref u6) (.ref vf)=some true) (io1_Seen:PySem.W.plainGet K u9 "__class__"=true) (io2_Seen:PySem.W.findIn K (.ref u9) "__class__"=some (some (.builtin "object.__class__"))) (io5_Seen:PySem.W.mroIn K u9 (.type "object")=some true) (io6_Seen:PySem.W.kitOne K (.ref u9) (.ref vf)=some true) (io1_Count:PySem.W.plainGet K u8 "__class__"=true) (io2_Count:PySem.W.findIn K (.ref u8) "__class__"=some (some (.builtin "object.__class__"))) (io5_Count:PySem.W.mroIn K u8 (.type "object")=some true) (io6_Count:PySem.W.kitOne K (.ref u8) (.ref vf)=some true) (io1_Joined:PySem.W.plainGet K u7 "__class__"=true) (io2_Joined:PySem.W.findIn K (.ref u7) "__class__"=some (some (.builtin "object.__class__"))) (io5_Joined:PySem.W.mroIn K u7 (.type "object")=some true) (io6_Joined:PySem.W.kitOne K (.ref u7) (.ref vf)=some true) (io1_NoSquare:PySem.W.plainGet K uY "__class__"=true) (io2_NoSquare:PySem.W.findIn K (.ref uY) "__class__"=some (some (.builtin "object.__class__"))) (io5_NoSquare:PySem.W.mroIn K uY (.type "object")=some true) (io6_NoSquare:PySem.W.kitOne K (.ref uY) (.ref vf)=some true) (io1_Ring:PySem.W.plainGet K va "__class__"=true) (io2_Ring:PySem.W.findIn K (.ref va) "__class__"=some (some (.builtin "object.__class__"))) (io5_Ring:PySem.W.mroIn K va (.type "object")=some true) (io6_Ring:PySem.W.kitOne K (.ref va) (.ref vf)=some true) (vn:PySem.W.findIn K (.ref uZ) "amount"=some none) (vT:PySem.W.findIn K (.ref vb) "amount"=some none) (vo:PySem.W.findIn K (.ref u6) "amount"=some none) (vG:PySem.W.findIn K (.ref u9) "amount"=some none) (vv:PySem.W.findIn K (.ref u8) "amount"=some none) (vp:PySem.W.findIn K (.ref u7) "amount"=some none) (vi:PySem.W.findIn K (.ref uY) "amount"=some none) (vH:PySem.W.findIn K (.ref va) "amount"=some none) (vw:PySem.W.findIn K (.ref uZ) "cells"=some none) (wb:PySem.W.findIn K (.ref vb) "cells"=some none) (vx:PySem.W.findIn K (.ref u6) "cells"=some none) (vU:PySem.W.findIn K (.ref u9) "cells"=some none) (vI:PySem.W.findIn K (.ref u8) "cells"=some none) (vy:PySem.W.findIn K (.ref u7) "cells"=some none) (vj:PySem.W.findIn K (.ref uY) "cells"=some none) (vV:PySem.W.findIn K (.ref va) "cells"=some none) (vz:PySem.W.findIn K (.ref uZ) "floor"=some none) (wc:PySem.W.findIn K (.ref vb) "floor"=some none) (vA:PySem.W.findIn K (.ref u6) "floor"=some none) (vW:PySem.W.findIn K (.ref u9) "floor"=some none) (vJ:PySem.W.findIn K (.ref u8) "floor"=some none) (vC:PySem.W.findIn K (.ref u7) "floor"=some none) (vk:PySem.W.findIn K (.ref uY) "floor"=some none) (vX:PySem.W.findIn K (.ref va) "floor"=some none) (vK:PySem.W.findIn K (.ref uZ) "mark"=some none) (wo:PySem.W.findIn K (.ref vb) "mark"=some none) (vL:PySem.W.findIn K (.ref u6) "mark"=some none) (we:PySem.W.findIn K (.ref u9) "mark"=some none) (vY:PySem.W.findIn K (.ref u8) "mark"=some none) (vM:PySem.W.findIn K (.ref u7) "mark"=some none) (vq:PySem.W.findIn K (.ref uY) "mark"=some none) (wf:PySem.W.findIn K (.ref va) "mark"=some none) (vD:PySem.W.findIn K (.ref uZ) "words"=some none) (wg:PySem.W.findIn K (.ref vb) "words"=some none) (vE:PySem.W.findIn K (.ref u6) "words"=some none) (vZ:PySem.W.findIn K (.ref u9) "words"=some none) (vN:PySem.W.findIn K (.ref u8) "words"=some none) (vF:PySem.W.findIn K (.ref u7) "words"=some none) (vm:PySem.W.findIn K (.ref uY) "words"=some none) (v4:PySem.W.findIn K (.ref va) "words"=some none) (vO:PySem.W.nsIn K mainGlobals "OF_ALL_CELLS"=some (some (.ref vR))) (vP:K.lookup vR=some ⟨.type "tuple",xN,.seq #[.str (tx [106,111,105,110,101,100]) xQ,.str (tx [110,111,115,113,117,97,114,101]) xR,.str (tx [114,105,110,103]) xS] xO,xP⟩) (v5:PySem.W.nsIn K mainGlobals "WITH_NUMBER"=some (some (.ref wa))) (v6:K.lookup wa=some ⟨.type "tuple",xV,.seq #[.str (tx [115,117,109]) xY,.str (tx [115,101,101,110]) xZ,.str (tx [99,111,117,110,116]) x0] xW,xX⟩) (wp:PySem.W.nsIn K mainGlobals "WITH_SIGN"=some (some (.ref wz))) (wq:K.lookup wz=some ⟨.type "tuple",yf,.seq #[.str (tx [99,111,117,110,116]) yi,.str (tx [106,111,105,110,101,100]) yj,.str (tx [110,111,115,113,117,97,114,101]) yk,.str (tx [114,105,110,103]) yl] yg,yh⟩) (xj:PySem.W.nsIn K mainGlobals "FIGURES"=some (some (.str (tx [48,49,50,51,52,53,54,55,56,57]) tk_FIGURES))) (v7:PySem.W.nsIn K mainGlobals "MOST_FIGURES"=some (some (.int 9 tk_MOST_FIGURES))) (wj:PySem.W.nsIn K mainGlobals "MOST_NUMBER"=some (some (.int 99 tk_MOST_NUMBER))) (z_len:PySem.W.nsIn K mainGlobals "len"=some none) (z_abs:PySem.W.nsIn K mainGlobals "abs"=some none) (z_min:PySem.W.nsIn K mainGlobals "min"=some none) (z_max:PySem.W.nsIn K mainGlobals "max"=some none) (z_sorted:PySem.W.nsIn K mainGlobals "sorted"=some none) (z_any:PySem.W.nsIn K mainGlobals "any"=some none) (z_isinstance:PySem.W.nsIn K mainGlobals "isinstance"=some none) (z_list:PySem.W.nsIn K mainGlobals "list"=some none) (z_int:PySem.W.nsIn K mainGlobals "int"=some none) (z_bool:PySem.W.nsIn K mainGlobals "bool"=some none) (z_str:PySem.W.nsIn K mainGlobals "str"=some none) (z_tuple:PySem.W.nsIn K mainGlobals "tuple"=some none) (z_reversed:PySem.W.nsIn K mainGlobals "reversed"=some none) (z_set:PySem.W.nsIn K mainGlobals "set"=some none) (z_range:PySem.W.nsIn K mainGlobals "range"=some none) (z_zip:PySem.W.nsIn K mainGlobals "zip"=some none) (z_all:PySem.W.nsIn K mainGlobals "all"=some none) (z_sum:PySem.W.nsIn K mainGlobals "sum"=some none) (z_enumerate:PySem.W.nsIn K mainGlobals "enumerate"=some none) (e_ClueError:PySem.W.nsIn K mainGlobals "ClueError"=some (some (.ref x_ClueError))) (e_NoFloor:PySem.W.nsIn K mainGlobals "NoFloor"=some (some (.ref x_NoFloor))) (e_NoFilling:PySem.W.nsIn K mainGlobals "NoFilling"=some (some (.ref x_NoFilling))) (e_NoRule:PySem.W.nsIn K mainGlobals "NoRule"=some (some (.ref x_NoRule))) (e_NoPuzzle:PySem.W.nsIn K mainGlobals "NoPuzzle"=some (some (.ref x_NoPuzzle))) (e_TooMany:PySem.W.nsIn K mainGlobals "TooMany"=some (some (.ref x_TooMany))) (e_NotOne:PySem.W.nsIn K mainGlobals "NotOne"=some (some (.ref x_NotOne))) (e_NoMove:PySem.W.nsIn K mainGlobals "NoMove"=some (some (.ref x_NoMove))) (e_NoText:PySem.W.nsIn K mainGlobals "NoText"=some (some (.ref x_NoText))) (e_NoName:PySem.W.nsIn K mainGlobals "NoName"=some (some (.ref x_NoName))) (e_NoRow:PySem.W.nsIn K mainGlobals "NoRow"=some (some (.ref x_NoRow))) (e_BadThought:PySem.W.nsIn K mainGlobals "BadThought"=some (some (.ref x_BadThought))) (z_ValueError:PySem.W.nsIn K mainGlobals "ValueError"=some none) (D1:K.lookup x_ClueError=some ⟨cC0,dD,.cls cdD,slD⟩) (D2:cdD.ns=ND) (D3:K.lookup ND=some ⟨cE,dE,.dict esE nE,sE⟩) (D4:gv esE=true) (r1_NoRule:K.lookup x_NoRule=some (excClassObj nm_NoRule yp x_NoRule N_NoRule bs_NoRule (.ref x_ClueError::VE) hd_NoRule sn_NoRule sub_NoRule ab_NoRule col_NoRule dd_NoRule k0_NoRule k1_NoRule k2_NoRule k3_NoRule k5_NoRule "ValueError.__new__")) (r2_NoRule:K.lookup N_NoRule=some ⟨cN_NoRule,dN_NoRule,.dict es_NoRule n_NoRule,sN_NoRule⟩) (r3_NoRule:gv es_NoRule=true) (f1_NoRule:PySem.W.findIn K (.ref x_NoRule) "__getattribute__"=some (some (.builtin "BaseException.__getattribute__"))) (f2_NoRule:PySem.W.findIn K (.ref x_NoRule) "__getattr__"=some none) (f3_NoRule:PySem.W.findIn K (.ref x_NoRule) "__class__"=some (some (.builtin "object.__class__"))) (f4_NoRule:PySem.W.mroIn K x_NoRule (.type "object")=some true) (f5_NoRule:PySem.W.mroIn K x_NoRule (.type "BaseException")=some true) (f6_NoRule:PySem.W.kitOne K (.ref x_NoRule) (.type "ValueError")=some true) (f7_NoRule:PySem.W.exmOne K (.ref x_NoRule) (.ref x_ClueError)=some true) (g_NoRule_BadThought:PySem.W.kitOne K (.ref x_NoRule) (.ref x_BadThought)=some false) (g_NoRule_NoFilling:PySem.W.kitOne K (.ref x_NoRule) (.ref x_NoFilling)=some false) (g_NoRule_NoMove:PySem.W.kitOne K (.ref x_NoRule) (.ref x_NoMove)=some false) (g_NoRule_NoName:PySem.W.kitOne K (.ref x_NoRule) (.ref x_NoName)=some false) (g_NoRule_NoRow:PySem.W.kitOne K (.ref x_NoRule) (.ref x_NoRow)=some false) (g_NoRule_NoText:PySem.W.kitOne K (.ref x_NoRule) (.ref x_NoText)=some false) (g_NoRule_NotOne:PySem.W.kitOne K (.ref x_NoRule) (.ref x_NotOne)=some false) (g_NoRule_TooMany:PySem.W.kitOne K (.ref x_NoRule) (.ref x_TooMany)=some false) (g_NoRule_NoFloor:PySem.W.kitOne K (.ref x_NoRule) (.ref x_NoFloor)=some false) (g_NoRule_NoPuzzle:PySem.W.kitOne K (.ref x_NoRule) (.ref x_NoPuzzle)=some false):
  ∃ fd:FuncData,(∀ (s:Shared) (v:Value),BindsTo s fd ⟨[v],[]⟩ [("_law_script",v)])∧∀ base:Heap,K.In base→base.Ns mainGlobals mg→FnOk l.prog w K mg base CX0 7 fa fd ["_law_script"] (kQ K):=by
 have e:=hfa.symm.trans (PySem.W.mg_of X G a25)
 cases e
 have B:Bt2 mg:=⟨⟨PySem.W.mg_none_of X G z_len,PySem.W.mg_none_of X G z_abs,PySem.W.mg_none_of X G z_min,PySem.W.mg_none_of X G z_max,PySem.W.mg_none_of X G z_sorted,PySem.W.mg_none_of X G z_any,PySem.W.mg_none_of X G z_isinstance,PySem.W.mg_none_of X G z_list,PySem.W.mg_none_of X G z_int,PySem.W.mg_none_of X G z_bool,PySem.W.mg_none_of X G z_str,PySem.W.mg_none_of X G z_tuple,PySem.W.mg_none_of X G z_reversed,PySem.W.mg_none_of X G z_set,PySem.W.mg_none_of X G z_range,PySem.W.mg_none_of X G z_zip⟩,PySem.W.mg_none_of X G z_all,PySem.W.mg_none_of X G z_sum,PySem.W.mg_none_of X G z_enumerate⟩
 obtain ⟨oc,od,kV,doc,pm,an,cdv,ct,osl,rfl,lk,hcd⟩:=F25.ex
 refine ⟨PySem.W.fnOf "law" "law" (aT iX) (aO iX) (aj iX) .none kV doc pm an cdv ct,fun s v=>.of_eq rfl,fun base _ _=>?_⟩
 let c:RCl RK:=mkC vf uZ vb u6 u9 u8 u7 uY va
 have xk:=PySem.W.mg_of X G xj
 have v8:=PySem.W.mg_of X G v7
 have wn:=PySem.W.mg_of X G wj
 let a:EA:=(⟨x_ClueError,x_NoFloor,x_NoFilling,x_NoRule,x_NoPuzzle,x_TooMany,x_NotOne,x_NoMove,x_NoText,x_NoName,x_NoRow,x_BadThought⟩:EA)
 have EM:ErrM mg a:=⟨PySem.W.mg_of X G e_ClueError,PySem.W.mg_of X G e_NoFloor,PySem.W.mg_of X G e_NoFilling,PySem.W.mg_of X G e_NoRule,PySem.W.mg_of X G e_NoPuzzle,PySem.W.mg_of X G e_TooMany,PySem.W.mg_of X G e_NotOne,PySem.W.mg_of X G e_NoMove,PySem.W.mg_of X G e_NoText,PySem.W.mg_of X G e_NoName,PySem.W.mg_of X G e_NoRow,PySem.W.mg_of X G e_BadThought⟩
 have BV:=PySem.W.mg_none_of X G z_ValueError
 have R_NoRule:ei K a "NoRule" a.NoRule (di a):=⟨e_NoRule,uK r1_NoRule r2_NoRule r3_NoRule D1 D2 D3 D4,⟨f1_NoRule,f2_NoRule,f3_NoRule,f4_NoRule,f5_NoRule⟩,f6_NoRule,f7_NoRule,(List.forall_mem_cons.mpr ⟨g_NoRule_BadThought,(List.forall_mem_cons.mpr ⟨g_NoRule_NoFilling,(List.forall_mem_cons.mpr ⟨g_NoRule_NoMove,(List.forall_mem_cons.mpr ⟨g_NoRule_NoName,(List.forall_mem_cons.mpr ⟨g_NoRule_NoRow,(List.forall_mem_cons.mpr ⟨g_NoRule_NoText,(List.forall_mem_cons.mpr ⟨g_NoRule_NotOne,(List.forall_mem_cons.mpr ⟨g_NoRule_TooMany,(List.forall_mem_cons.mpr ⟨g_NoRule_NoFloor,(List.forall_mem_cons.mpr ⟨g_NoRule_NoPuzzle,(fun _ z=>nomatch z)⟩)⟩)⟩)⟩)⟩)⟩)⟩)⟩)⟩)⟩)⟩
 have cls_Unlike:Cls K uZ:=⟨wU,wr,wV,wW⟩
 have cls_Sum:Cls K vb:=⟨x8,xt,x9,ya⟩
 have cls_Rising:Cls K u6:=⟨wZ,wt,w5,w6⟩
 have cls_Seen:Cls K u9:=⟨xE,w9,xF,xG⟩
 have cls_Count:Cls K u8:=⟨xp,wG,xq,xr⟩
 have cls_Joined:Cls K u7:=⟨xf,wu,xg,xh⟩
 have cls_NoSquare:Cls K uY:=⟨wD,vS,wE,wF⟩
 have cls_Ring:Cls K va:=⟨xJ,xi,xK,xL⟩
 have IS_Rule:GIsP K mg "Rule" c:=⟨PySem.W.mg_of X G ym,fun i hi=>by cases i with | Rule=>exact (Bool.false_ne_true hi).elim | Unlike=>exact ⟨io1_Unlike,wr,io2_Unlike,io3_R,io4_R,io5_Unlike,io6_Unlike⟩ | Sum=>exact ⟨io1_Sum,xt,io2_Sum,io3_R,io4_R,io5_Sum,io6_Sum⟩ | Rising=>exact ⟨io1_Rising,wt,io2_Rising,io3_R,io4_R,io5_Rising,io6_Rising⟩ | Seen=>exact ⟨io1_Seen,w9,io2_Seen,io3_R,io4_R,io5_Seen,io6_Seen⟩ | Count=>exact ⟨io1_Count,wG,io2_Count,io3_R,io4_R,io5_Count,io6_Count⟩ | Joined=>exact ⟨io1_Joined,wu,io2_Joined,io3_R,io4_R,io5_Joined,io6_Joined⟩ | NoSquare=>exact ⟨io1_NoSquare,vS,io2_NoSquare,io3_R,io4_R,io5_NoSquare,io6_NoSquare⟩ | Ring=>exact ⟨io1_Ring,xi,io2_Ring,io3_R,io4_R,io5_Ring,io6_Ring⟩⟩
 have FK_c_amount:FldK K c "amount":=⟨fun i hi=>by cases i with | Rule=>exact (Bool.false_ne_true hi).elim | Unlike=>exact ⟨cls_Unlike,vn⟩ | Sum=>exact ⟨cls_Sum,vT⟩ | Rising=>exact ⟨cls_Rising,vo⟩ | Seen=>exact ⟨cls_Seen,vG⟩ | Count=>exact ⟨cls_Count,vv⟩ | Joined=>exact ⟨cls_Joined,vp⟩ | NoSquare=>exact ⟨cls_NoSquare,vi⟩ | Ring=>exact ⟨cls_Ring,vH⟩⟩
 have FK_c_cells:FldK K c "cells":=⟨fun i hi=>by cases i with | Rule=>exact (Bool.false_ne_true hi).elim | Unlike=>exact ⟨cls_Unlike,vw⟩ | Sum=>exact ⟨cls_Sum,wb⟩ | Rising=>exact ⟨cls_Rising,vx⟩ | Seen=>exact ⟨cls_Seen,vU⟩ | Count=>exact ⟨cls_Count,vI⟩ | Joined=>exact ⟨cls_Joined,vy⟩ | NoSquare=>exact ⟨cls_NoSquare,vj⟩ | Ring=>exact ⟨cls_Ring,vV⟩⟩
 have FK_c_floor:FldK K c "floor":=⟨fun i hi=>by cases i with | Rule=>exact (Bool.false_ne_true hi).elim | Unlike=>exact ⟨cls_Unlike,vz⟩ | Sum=>exact ⟨cls_Sum,wc⟩ | Rising=>exact ⟨cls_Rising,vA⟩ | Seen=>exact ⟨cls_Seen,vW⟩ | Count=>exact ⟨cls_Count,vJ⟩ | Joined=>exact ⟨cls_Joined,vC⟩ | NoSquare=>exact ⟨cls_NoSquare,vk⟩ | Ring=>exact ⟨cls_Ring,vX⟩⟩
 have FK_c_mark:FldK K c "mark":=⟨fun i hi=>by cases i with | Rule=>exact (Bool.false_ne_true hi).elim | Unlike=>exact ⟨cls_Unlike,vK⟩ | Sum=>exact ⟨cls_Sum,wo⟩ | Rising=>exact ⟨cls_Rising,vL⟩ | Seen=>exact ⟨cls_Seen,we⟩ | Count=>exact ⟨cls_Count,vY⟩ | Joined=>exact ⟨cls_Joined,vM⟩ | NoSquare=>exact ⟨cls_NoSquare,vq⟩ | Ring=>exact ⟨cls_Ring,wf⟩⟩
 have FK_c_words:FldK K c "words":=⟨fun i hi=>by cases i with | Rule=>exact (Bool.false_ne_true hi).elim | Unlike=>exact ⟨cls_Unlike,vD⟩ | Sum=>exact ⟨cls_Sum,wg⟩ | Rising=>exact ⟨cls_Rising,vE⟩ | Seen=>exact ⟨cls_Seen,vZ⟩ | Count=>exact ⟨cls_Count,vN⟩ | Joined=>exact ⟨cls_Joined,vF⟩ | NoSquare=>exact ⟨cls_NoSquare,vm⟩ | Ring=>exact ⟨cls_Ring,v4⟩⟩
 have G_OF_ALL_CELLS:GTup K mg "OF_ALL_CELLS" ar:=⟨vR,_,_,_,PySem.W.mg_of X G vO,vP,rfl,rfl,Nat.le_of_lt (be (by show (3:Nat)≤1000; decide)),(.cons ⟨_,rfl⟩ (.cons ⟨_,rfl⟩ (.cons ⟨_,rfl⟩ .nil)))⟩
 have G_WITH_NUMBER:GTup K mg "WITH_NUMBER" aQ:=⟨wa,_,_,_,PySem.W.mg_of X G v5,v6,rfl,rfl,Nat.le_of_lt (be (by show (3:Nat)≤1000; decide)),(.cons ⟨_,rfl⟩ (.cons ⟨_,rfl⟩ (.cons ⟨_,rfl⟩ .nil)))⟩
 have G_WITH_SIGN:GTup K mg "WITH_SIGN" aX:=⟨wz,_,_,_,PySem.W.mg_of X G wp,wq,rfl,rfl,Nat.le_of_lt (be (by show (4:Nat)≤1000; decide)),(.cons ⟨_,rfl⟩ (.cons ⟨_,rfl⟩ (.cons ⟨_,rfl⟩ (.cons ⟨_,rfl⟩ .nil))))⟩
 have vh:Cal l.prog w K mg base _ _ _ (bf K):=kC (lV B F0) F0 (PySem.W.mg_of X G a0)
 have bd1:Binds K fd1 ["self","floor","words","cells","amount","mark"] []:=uM F1
 have T1:FnOk l.prog w K mg base CX0 1 f1 fd1 _ (ah K c):=jx (c:=c) B FK_c_amount FK_c_cells FK_c_floor FK_c_mark FK_c_words F1
 have xw:KCal l.prog w K mg base _ "Unlike" (c.A .Unlike) _ (ah K c):=⟨f1,_,⟨wS,wP,fn1,wT⟩,T1,PySem.W.mg_of X G xx,bd1⟩
 have K_Sum:KCal l.prog w K mg base _ "Sum" (c.A .Sum) _ (ah K c):=⟨f1,_,⟨x5,x4,fn1,x6⟩,T1,PySem.W.mg_of X G q_Sum,bd1⟩
 have xv:KCal l.prog w K mg base _ "Rising" (c.A .Rising) _ (ah K c):=⟨f1,_,⟨wX,wQ,fn1,wY⟩,T1,PySem.W.mg_of X G xy,bd1⟩
 have yc:KCal l.prog w K mg base _ "Seen" (c.A .Seen) _ (ah K c):=⟨f1,_,⟨xC,xA,fn1,xD⟩,T1,PySem.W.mg_of X G yn,bd1⟩
 have xT:KCal l.prog w K mg base _ "Count" (c.A .Count) _ (ah K c):=⟨f1,_,⟨xn,xm,fn1,xo⟩,T1,PySem.W.mg_of X G x3,bd1⟩
 have xu:KCal l.prog w K mg base _ "Joined" (c.A .Joined) _ (ah K c):=⟨f1,_,⟨xa,wR,fn1,xb⟩,T1,PySem.W.mg_of X G xz,bd1⟩
 have wJ:KCal l.prog w K mg base _ "NoSquare" (c.A .NoSquare) _ (ah K c):=⟨f1,_,⟨wB,wA,fn1,wC⟩,T1,PySem.W.mg_of X G wO,bd1⟩
 have yb:KCal l.prog w K mg base _ "Ring" (c.A .Ring) _ (ah K c):=⟨f1,_,⟨xH,xB,fn1,xI⟩,T1,PySem.W.mg_of X G yo,bd1⟩
 have bd2:Binds K fd2 ["self"] []:=iU F2
 have T2:FnOk l.prog w K mg base CX0 1 f2 fd2 _ (dP K c):=nv (c:=c) B FK_c_words F2
 have ye:MCal l.prog w K mg base c c.ok 1 "name" ["self"] (iT K c):=⟨fun i hi=>by cases i with | Rule=>exact (Bool.false_ne_true hi).elim | Unlike=>exact ⟨f2,_,cls_Unlike,⟨a2_Unlike,fn2,F2.kp⟩,(T2.mono (by decide)).imp (fun vs H Q E h=>⟨.Unlike,h⟩),bd2⟩ | Sum=>exact ⟨f2,_,cls_Sum,⟨a2_Sum,fn2,F2.kp⟩,(T2.mono (by decide)).imp (fun vs H Q E h=>⟨.Sum,h⟩),bd2⟩ | Rising=>exact ⟨f2,_,cls_Rising,⟨a2_Rising,fn2,F2.kp⟩,(T2.mono (by decide)).imp (fun vs H Q E h=>⟨.Rising,h⟩),bd2⟩ | Seen=>exact ⟨f2,_,cls_Seen,⟨a2_Seen,fn2,F2.kp⟩,(T2.mono (by decide)).imp (fun vs H Q E h=>⟨.Seen,h⟩),bd2⟩ | Count=>exact ⟨f2,_,cls_Count,⟨a2_Count,fn2,F2.kp⟩,(T2.mono (by decide)).imp (fun vs H Q E h=>⟨.Count,h⟩),bd2⟩ | Joined=>exact ⟨f2,_,cls_Joined,⟨a2_Joined,fn2,F2.kp⟩,(T2.mono (by decide)).imp (fun vs H Q E h=>⟨.Joined,h⟩),bd2⟩ | NoSquare=>exact ⟨f2,_,cls_NoSquare,⟨a2_NoSquare,fn2,F2.kp⟩,(T2.mono (by decide)).imp (fun vs H Q E h=>⟨.NoSquare,h⟩),bd2⟩ | Ring=>exact ⟨f2,_,cls_Ring,⟨a2_Ring,fn2,F2.kp⟩,(T2.mono (by decide)).imp (fun vs H Q E h=>⟨.Ring,h⟩),bd2⟩⟩
 have bd3:Binds K fd3 ["self"] []:=iU F3
 have T3:FnOk l.prog w K mg base CX0 1 f3 fd3 _ (c9 K c):=lW (c:=c) B FK_c_cells F3
 have xU:MCal l.prog w K mg base c c.ok 1 "spots" ["self"] (gG K c):=⟨fun i hi=>by cases i with | Rule=>exact (Bool.false_ne_true hi).elim | Unlike=>exact ⟨f3,_,cls_Unlike,⟨a3_Unlike,fn3,F3.kp⟩,(T3.mono (by decide)).imp (fun vs H Q E h=>⟨.Unlike,h⟩),bd3⟩ | Sum=>exact ⟨f3,_,cls_Sum,⟨a3_Sum,fn3,F3.kp⟩,(T3.mono (by decide)).imp (fun vs H Q E h=>⟨.Sum,h⟩),bd3⟩ | Rising=>exact ⟨f3,_,cls_Rising,⟨a3_Rising,fn3,F3.kp⟩,(T3.mono (by decide)).imp (fun vs H Q E h=>⟨.Rising,h⟩),bd3⟩ | Seen=>exact ⟨f3,_,cls_Seen,⟨a3_Seen,fn3,F3.kp⟩,(T3.mono (by decide)).imp (fun vs H Q E h=>⟨.Seen,h⟩),bd3⟩ | Count=>exact ⟨f3,_,cls_Count,⟨a3_Count,fn3,F3.kp⟩,(T3.mono (by decide)).imp (fun vs H Q E h=>⟨.Count,h⟩),bd3⟩ | Joined=>exact ⟨f3,_,cls_Joined,⟨a3_Joined,fn3,F3.kp⟩,(T3.mono (by decide)).imp (fun vs H Q E h=>⟨.Joined,h⟩),bd3⟩ | NoSquare=>exact ⟨f3,_,cls_NoSquare,⟨a3_NoSquare,fn3,F3.kp⟩,(T3.mono (by decide)).imp (fun vs H Q E h=>⟨.NoSquare,h⟩),bd3⟩ | Ring=>exact ⟨f3,_,cls_Ring,⟨a3_Ring,fn3,F3.kp⟩,(T3.mono (by decide)).imp (fun vs H Q E h=>⟨.Ring,h⟩),bd3⟩⟩
 have bd4:Binds K fd4 ["self"] []:=iU F4
 have T4:FnOk l.prog w K mg base CX0 1 f4 fd4 _ (cy K c):=kS (c:=c) B FK_c_amount F4
 have wL:MCal l.prog w K mg base c c.ok 1 "number" ["self"] (eP K c):=⟨fun i hi=>by cases i with | Rule=>exact (Bool.false_ne_true hi).elim | Unlike=>exact ⟨f4,_,cls_Unlike,⟨a4_Unlike,fn4,F4.kp⟩,(T4.mono (by decide)).imp (fun vs H Q E h=>⟨.Unlike,h⟩),bd4⟩ | Sum=>exact ⟨f4,_,cls_Sum,⟨a4_Sum,fn4,F4.kp⟩,(T4.mono (by decide)).imp (fun vs H Q E h=>⟨.Sum,h⟩),bd4⟩ | Rising=>exact ⟨f4,_,cls_Rising,⟨a4_Rising,fn4,F4.kp⟩,(T4.mono (by decide)).imp (fun vs H Q E h=>⟨.Rising,h⟩),bd4⟩ | Seen=>exact ⟨f4,_,cls_Seen,⟨a4_Seen,fn4,F4.kp⟩,(T4.mono (by decide)).imp (fun vs H Q E h=>⟨.Seen,h⟩),bd4⟩ | Count=>exact ⟨f4,_,cls_Count,⟨a4_Count,fn4,F4.kp⟩,(T4.mono (by decide)).imp (fun vs H Q E h=>⟨.Count,h⟩),bd4⟩ | Joined=>exact ⟨f4,_,cls_Joined,⟨a4_Joined,fn4,F4.kp⟩,(T4.mono (by decide)).imp (fun vs H Q E h=>⟨.Joined,h⟩),bd4⟩ | NoSquare=>exact ⟨f4,_,cls_NoSquare,⟨a4_NoSquare,fn4,F4.kp⟩,(T4.mono (by decide)).imp (fun vs H Q E h=>⟨.NoSquare,h⟩),bd4⟩ | Ring=>exact ⟨f4,_,cls_Ring,⟨a4_Ring,fn4,F4.kp⟩,(T4.mono (by decide)).imp (fun vs H Q E h=>⟨.Ring,h⟩),bd4⟩⟩
 have bd5:Binds K fd5 ["self"] []:=iU F5
 have T5:FnOk l.prog w K mg base CX0 1 f5 fd5 _ (dR K c):=nw (c:=c) B FK_c_mark F5
 have xM:MCal l.prog w K mg base c c.ok 1 "sign" ["self"] (gz K c):=⟨fun i hi=>by cases i with | Rule=>exact (Bool.false_ne_true hi).elim | Unlike=>exact ⟨f5,_,cls_Unlike,⟨a5_Unlike,fn5,F5.kp⟩,(T5.mono (by decide)).imp (fun vs H Q E h=>⟨.Unlike,h⟩),bd5⟩ | Sum=>exact ⟨f5,_,cls_Sum,⟨a5_Sum,fn5,F5.kp⟩,(T5.mono (by decide)).imp (fun vs H Q E h=>⟨.Sum,h⟩),bd5⟩ | Rising=>exact ⟨f5,_,cls_Rising,⟨a5_Rising,fn5,F5.kp⟩,(T5.mono (by decide)).imp (fun vs H Q E h=>⟨.Rising,h⟩),bd5⟩ | Seen=>exact ⟨f5,_,cls_Seen,⟨a5_Seen,fn5,F5.kp⟩,(T5.mono (by decide)).imp (fun vs H Q E h=>⟨.Seen,h⟩),bd5⟩ | Count=>exact ⟨f5,_,cls_Count,⟨a5_Count,fn5,F5.kp⟩,(T5.mono (by decide)).imp (fun vs H Q E h=>⟨.Count,h⟩),bd5⟩ | Joined=>exact ⟨f5,_,cls_Joined,⟨a5_Joined,fn5,F5.kp⟩,(T5.mono (by decide)).imp (fun vs H Q E h=>⟨.Joined,h⟩),bd5⟩ | NoSquare=>exact ⟨f5,_,cls_NoSquare,⟨a5_NoSquare,fn5,F5.kp⟩,(T5.mono (by decide)).imp (fun vs H Q E h=>⟨.NoSquare,h⟩),bd5⟩ | Ring=>exact ⟨f5,_,cls_Ring,⟨a5_Ring,fn5,F5.kp⟩,(T5.mono (by decide)).imp (fun vs H Q E h=>⟨.Ring,h⟩),bd5⟩⟩
 have bd6:Binds K fd6 ["self"] []:=iU F6
 have T6:FnOk l.prog w K mg base CX0 1 f6 fd6 _ (cF K c):=ny (c:=c) B FK_c_words F6
 have yd:MCal l.prog w K mg base c c.ok 1 "line" ["self"] (fX K c):=⟨fun i hi=>by cases i with | Rule=>exact (Bool.false_ne_true hi).elim | Unlike=>exact ⟨f6,_,cls_Unlike,⟨a6_Unlike,fn6,F6.kp⟩,(T6.mono (by decide)).imp (fun vs H Q E h=>⟨.Unlike,h⟩),bd6⟩ | Sum=>exact ⟨f6,_,cls_Sum,⟨a6_Sum,fn6,F6.kp⟩,(T6.mono (by decide)).imp (fun vs H Q E h=>⟨.Sum,h⟩),bd6⟩ | Rising=>exact ⟨f6,_,cls_Rising,⟨a6_Rising,fn6,F6.kp⟩,(T6.mono (by decide)).imp (fun vs H Q E h=>⟨.Rising,h⟩),bd6⟩ | Seen=>exact ⟨f6,_,cls_Seen,⟨a6_Seen,fn6,F6.kp⟩,(T6.mono (by decide)).imp (fun vs H Q E h=>⟨.Seen,h⟩),bd6⟩ | Count=>exact ⟨f6,_,cls_Count,⟨a6_Count,fn6,F6.kp⟩,(T6.mono (by decide)).imp (fun vs H Q E h=>⟨.Count,h⟩),bd6⟩ | Joined=>exact ⟨f6,_,cls_Joined,⟨a6_Joined,fn6,F6.kp⟩,(T6.mono (by decide)).imp (fun vs H Q E h=>⟨.Joined,h⟩),bd6⟩ | NoSquare=>exact ⟨f6,_,cls_NoSquare,⟨a6_NoSquare,fn6,F6.kp⟩,(T6.mono (by decide)).imp (fun vs H Q E h=>⟨.NoSquare,h⟩),bd6⟩ | Ring=>exact ⟨f6,_,cls_Ring,⟨a6_Ring,fn6,F6.kp⟩,(T6.mono (by decide)).imp (fun vs H Q E h=>⟨.Ring,h⟩),bd6⟩⟩
 have wH:Cal l.prog w K mg base _ _ _ (bA K):=kC (nz B xk v8 F7) F7 (PySem.W.mg_of X G a7)
 have vc:Cal l.prog w K mg base _ _ _ (aJ K):=qU (lX B F8) F8 (PySem.W.mg_of X G a8)
 have wy:Cal l.prog w K mg base _ _ _ (bg K):=kC (lY B F9) F9 (PySem.W.mg_of X G a9)
 have vQ:Cal l.prog w K mg base _ _ _ (bt K):=kC (lZ B F10) F10 (PySem.W.mg_of X G a10)
 have wm:Cal l.prog w K mg base _ _ _ (bh K):=kC (kT B F11) F11 (PySem.W.mg_of X G a11)
 have vg:Cal l.prog w K mg base _ _ _ (aG K):=uU (jy B F12) F12 (PySem.W.mg_of X G a12)
 have wk:Cal l.prog w K mg base _ _ _ (bi K):=kC (nA B F13) F13 (PySem.W.mg_of X G a13)
 have vd:ce l.prog w K mg base _ _ _ (aM K):=oY (jz B wH EM R_NoRule F14) F14 (PySem.W.mg_of X G a14)
 have ww:Cal l.prog w K mg base _ _ _ (bz K):=uT (l5 B vc F15) F15 (PySem.W.mg_of X G a15)
 have wM:Cal l.prog w K mg base _ _ _ (bH K):=qU (nM B wm vg F16) F16 (PySem.W.mg_of X G a16)
 have v9:Cal l.prog w K mg base _ _ _ (bc K):=qU (kj B wk F17) F17 (PySem.W.mg_of X G a17)
 have vt:ce l.prog w K mg base _ _ _ (aW K):=oY (kl B vd EM R_NoRule F18) F18 (PySem.W.mg_of X G a18)
 have wx:ce l.prog w K mg base _ _ _ (br K):=rC (l6 B vh vd EM R_NoRule F19) F19 (PySem.W.mg_of X G a19)
 have xl:ce l.prog w K mg base _ _ _ (bP K c):=uN (pe (c:=c) B xT xu wJ yb xv yc K_Sum xw EM R_NoRule F20) F20 (PySem.W.mg_of X G a20)
 have wN:Cal l.prog w K mg base _ _ _ (bI K):=ua (nN B ww vc F21) F21 (PySem.W.mg_of X G a21)
 have wK:ce l.prog w K mg base _ _ _ (bG K):=oY (nO B vh wx G_OF_ALL_CELLS EM R_NoRule F22) F22 (PySem.W.mg_of X G a22)
 have wI:ce l.prog w K mg base _ _ _ (bB K c):=rC (nB (c:=c) B wK vt xl wn G_WITH_NUMBER G_WITH_SIGN EM R_NoRule F23) F23 (PySem.W.mg_of X G a23)
 have wl:Cal l.prog w K mg base _ _ _ (bj K c):=ua (nD (c:=c) B vQ wI yd ye wL xM xU IS_Rule EM R_NoRule BV F24) F24 (PySem.W.mg_of X G a24)
 exact (uv (c:=c) B wM wy vc wl wN v9 F25).imp fun vs H Q E h=>by obtain ⟨a,ns,e,hS,hn,k⟩:=h; exact ⟨a,ns,e,hS,hn,fun k hk=>by cases k <;> first | rfl | exact absurd rfl hk,k⟩
theorem walk {l:PySem.W.OpenLaw} {q:Program} {loose:List Str} {XP:(Str→Option Value)→Heap→Prop} {YP:World→Heap→Prop} {d:DefRec} {K:Params→PySem.W.Frag} (hn:l.most=some 63) (hdf:d.params.defaults=[])
  (hY:∀ (w:World) (h:Heap),YP w h→(K w.params).In h)
  (F:∀ (w:World) (mg:Str→Option Value) (fa:Addr) (h:Heap),(K w.params).In h→h.Ns mainGlobals mg→mg d.name=some (.ref fa)→
   ∃ fd:FuncData,(∀ (s:Shared) (u:Value),BindsTo s fd ⟨[u],[]⟩ [("_law_script",u)])∧∀ base:Heap,(K w.params).In base→base.Ns mainGlobals mg→FnOk l.prog w (K w.params) mg base CX0 7 fa fd ["_law_script"] (kQ (K w.params))):
  PySem.W.WalkO q loose XP YP l.row.toRowW d [] (fun f vs=>PySem.call f vs):=
 L2.rW (n:=63) (k:=7) (x:="_law_script") (CX:=fun _=>CX0) (sp:=fun w=>kQ (K w.params)) hn (by decide) hdf ⟨rfl,by decide,by decide⟩ hY F (fun _ _ a ns hl _ hS=>⟨a,ns,rfl,hS,hl,fun _=>rfl⟩) fun _ _ _ _ _ z=>z
end L2
open PySem PySem.W PyProof.Rows
set_option maxRecDepth 100000 in
def PySem.W.Fast.tw11948009955325765740:Unit:=()
def PySem.W.Fast.tw9218683426633120529:Unit:=()
def PySem.W.Fast.tw14905314950300625657:Unit:=()
def PySem.W.Fast.tw15917140050114181019:Unit:=()
def PySem.W.Fast.tw12174301688808587357:Unit:=()
def PySem.W.Fast.tw15290130988833764200:Unit:=()
def PySem.W.Fast.tw2163195744517915339:Unit:=()
def PySem.W.Fast.tw9348876455194987664:Unit:=()
def PySem.W.Fast.tw14008474181154068641:Unit:=()
def PySem.W.Fast.tw14662424494563489980:Unit:=()
def PySem.W.Fast.tw14095260062325034104:Unit:=()
def PySem.W.Fast.tw9428744707827705503:Unit:=()
def PySem.W.Fast.tw1216266742153358437:Unit:=()
def PySem.W.Fast.tw11279482384141688141:Unit:=()
def PySem.W.Fast.tw8744769182108239825:Unit:=()
def PySem.W.Fast.tw4937060770094997676:Unit:=()
def PySem.W.Fast.tw10166645713142162927:Unit:=()
def PySem.W.Fast.tw16073834526641227122:Unit:=()
def PySem.W.Fast.tw10933268270546152224:Unit:=()
def PySem.W.Fast.tw563738729846864270:Unit:=()
def PySem.W.Fast.tw16042661474449538690:Unit:=()
def PySem.W.Fast.tw4147134209040448045:Unit:=()
def PySem.W.Fast.tw2799409260626009680:Unit:=()
def PySem.W.Fast.tw1254910989976332690:Unit:=()
def PySem.W.Fast.tw15552046943163835578:Unit:=()
def PySem.W.Fast.tw971151591529810824:Unit:=()
def PySem.W.Fast.tw18304662115939743503:Unit:=()
def PySem.W.Fast.tw9012665376813456584:Unit:=()
def PySem.W.Fast.tw14735183940001341307:Unit:=()
def PySem.W.Fast.tw9955004662083934177:Unit:=()
def PySem.W.Fast.tw663868366744897559:Unit:=()
def PySem.W.Fast.tw15566342141881348306:Unit:=()
def PySem.W.Fast.tw8487108629109511439:Unit:=()
def PySem.W.Fast.tw7767471194302434225:Unit:=()
def PySem.W.Fast.tw6428726800227922482:Unit:=()
def PySem.W.Fast.tw17903195076999050941:Unit:=()
def PySem.W.Fast.tw18153257509135686031:Unit:=()
def PySem.W.Fast.tw16708726404870311012:Unit:=()
def PySem.W.Fast.tw17831110819642777954:Unit:=()
def PySem.W.Fast.tw2476622101816520087:Unit:=()
def PySem.W.Fast.tw3526925000249037705:Unit:=()
def PySem.W.Fast.tw7527772695861248716:Unit:=()
def PySem.W.Fast.tw7641209605126620080:Unit:=()
def PySem.W.Fast.tw11869700078883449754:Unit:=()
def PySem.W.Fast.tw5860931751336907055:Unit:=()
def PySem.W.Fast.tw834219501608867946:Unit:=()
def PySem.W.Fast.tw10753963826678533066:Unit:=()
def PySem.W.Fast.tw14893011246241067411:Unit:=()
def PySem.W.Fast.tw16814377340749444387:Unit:=()
def PySem.W.Fast.tw15286658101634896188:Unit:=()
def PySem.W.Fast.tw11437283575152496368:Unit:=()
def PySem.W.Fast.tw9206625970880217317:Unit:=()
def PySem.W.Fast.tw10655422357231527379:Unit:=()
def PySem.W.Fast.tw2459411394981906332:Unit:=()
def PySem.W.Fast.tw14303398784220503574:Unit:=()
def PySem.W.Fast.tw15177290972655607435:Unit:=()
def PySem.W.Fast.tw14199420157548832606:Unit:=()
def PySem.W.Fast.tw3829397405681976367:Unit:=()
def PySem.W.Fast.tw134243744405568171:Unit:=()
def PySem.W.Fast.tw11655784046134065607:Unit:=()
def PySem.W.Fast.tw15555400614329241969:Unit:=()
def PySem.W.Fast.tw15140805184616136959:Unit:=()
def PySem.W.Fast.tw11236685118690301706:Unit:=()
def PySem.W.Fast.tw10197819690275808807:Unit:=()
def PySem.W.Fast.tw14932086071440874308:Unit:=()
def PySem.W.Fast.tw3773480945336668499:Unit:=()
def PySem.W.Fast.tw11960464215060286790:Unit:=()
def PySem.W.Fast.tw10159069127071088115:Unit:=()
def PySem.W.Fast.tw302592948038774968:Unit:=()
def PySem.W.Fast.tw9403040679687949105:Unit:=()
def PySem.W.Fast.tw16134345829955693525:Unit:=()
def PySem.W.Fast.tw2215102674738060049:Unit:=()
def PySem.W.Fast.tw10637902774621590793:Unit:=()
def PySem.W.Fast.tw5133950221009689750:Unit:=()
def PySem.W.Fast.tw5132747936972450883:Unit:=()
def PySem.W.Fast.tw14415588908625119049:Unit:=()
def PySem.W.Fast.tw8315874346043180766:Unit:=()
def PySem.W.Fast.tw7506353754682339758:Unit:=()
def PySem.W.Fast.tw8718429338756248338:Unit:=()
def PySem.W.Fast.tw6635264532415515904:Unit:=()
def PySem.W.Fast.tw16319078763240047808:Unit:=()
def PySem.W.Fast.tw18054707911330786977:Unit:=()
def PySem.W.Fast.tw16154249358211180527:Unit:=()
def PySem.W.Fast.tw2928937539952942844:Unit:=()
def PySem.W.Fast.tw13324730557250140799:Unit:=()
def PySem.W.Fast.tw2051376262366319018:Unit:=()
def PySem.W.Fast.tw1490483909274352393:Unit:=()
def PySem.W.Fast.tw5363716792709930369:Unit:=()
def PySem.W.Fast.tw7937640686838984061:Unit:=()
def PySem.W.Fast.tw9599826557584390778:Unit:=()
def PySem.W.Fast.tw8486754810505261915:Unit:=()
def PySem.W.Fast.tw1766811182780846716:Unit:=()
def PySem.W.Fast.tw5066145330127749643:Unit:=()
def PySem.W.Fast.tw687037408701563859:Unit:=()
def PySem.W.Fast.tw13812484818364224405:Unit:=()
def PySem.W.Fast.tw7206725729681077389:Unit:=()
def PySem.W.Fast.tw17093110979906030200:Unit:=()
def PySem.W.Fast.tw12420419922404950436:Unit:=()
def PySem.W.Fast.tw2233891024396626485:Unit:=()
def PySem.W.Fast.tw16992018301227757464:Unit:=()
def PySem.W.Fast.tw17989018840644282966:Unit:=()
def PySem.W.Fast.tw16205586797360202782:Unit:=()
def PySem.W.Fast.tw1030763429864230041:Unit:=()
def PySem.W.Fast.tw16586082544300818525:Unit:=()
def PySem.W.Fast.tw7871550030960789458:Unit:=()
def PySem.W.Fast.tw16075326422910170603:Unit:=()
def PySem.W.Fast.tw15655436328967457089:Unit:=()
def PySem.W.Fast.tw9311276793174930755:Unit:=()
def PySem.W.Fast.tw9598139140981317968:Unit:=()
def PySem.W.Fast.tw1794246423174526334:Unit:=()
def PySem.W.Fast.tw952681382081780922:Unit:=()
def PySem.W.Fast.tw704713700986365088:Unit:=()
def PySem.W.Fast.tw5274793832755872317:Unit:=()
def PySem.W.Fast.tw3262114139374162783:Unit:=()
def PySem.W.Fast.tw6065593156630820363:Unit:=()
def PySem.W.Fast.tw12409150058447333633:Unit:=()
def PySem.W.Fast.tw95841187974132857:Unit:=()
def PySem.W.Fast.tw513092833225079644:Unit:=()
def PySem.W.Fast.tw526941807080120060:Unit:=()
def PySem.W.Fast.tw14021777864215794521:Unit:=()
def PySem.W.Fast.tw13333465078867647974:Unit:=()
def PySem.W.Fast.tw83619824586385660:Unit:=()
def PySem.W.Fast.tw9060355096579815197:Unit:=()
def PySem.W.Fast.tw14944414692208867012:Unit:=()
def PySem.W.Fast.tw2890922453069660802:Unit:=()
def PySem.W.Fast.tw1868750874484405682:Unit:=()
def PySem.W.Fast.tw6406205825779802355:Unit:=()
def PySem.W.Fast.tw4324484567295736511:Unit:=()
def PySem.W.Fast.tw11422937615397275944:Unit:=()
def PySem.W.Fast.tw1918745017775195250:Unit:=()
def PySem.W.Fast.tw9800532645857657704:Unit:=()
def PySem.W.Fast.tw11253921941629457261:Unit:=()
def PySem.W.Fast.tw1913537927506964206:Unit:=()
def PySem.W.Fast.tw11923515384362756649:Unit:=()
def PySem.W.Fast.tw22980210876019350:Unit:=()
def PySem.W.Fast.tw5587061157230754033:Unit:=()
def PySem.W.Fast.tw16206991188824489733:Unit:=()
def PySem.W.Fast.tw9989436662113117324:Unit:=()
def PySem.W.Fast.tw11053956338736161147:Unit:=()
def PySem.W.Fast.tw2787506885168717947:Unit:=()
def PySem.W.Fast.tw13231305946137995246:Unit:=()
def PySem.W.Fast.tw13040483728653546483:Unit:=()
def PySem.W.Fast.tw17090616559497333637:Unit:=()
def PySem.W.Fast.tw6714483974082651709:Unit:=()
def PySem.W.Fast.tw13633865680185267240:Unit:=()
set_option maxHeartbeats 0 in
theorem PySem.Challenge.cw_cluemaker_k18_rows_read_and_refused_holds : PySem.Challenge.rw_cluemaker_k18_rows_read_and_refused.Holds := by
  w_on; o_law; k_head; (case hw => w_witness2)
  k_fill
  refine L2.walk (l := PySem.Challenge.rw_cluemaker_k18_rows_read_and_refused) rfl rfl (fun w h Y => PySem.W.kIn_of Y) ?F
  case F =>
    intro w mg fa h KX G hmg
    refine' L2.ux KX G hmg ?ym ?xx ?q_Sum ?xy ?yn ?x3 ?xz ?wO ?yo ?a0 ?wP ?x4 ?wQ ?xA ?xm ?wR ?wA ?xB ?a2_Unlike ?a2_Sum ?a2_Rising ?a2_Seen ?a2_Count ?a2_Joined ?a2_NoSquare ?a2_Ring ?a3_Unlike ?a3_Sum ?a3_Rising ?a3_Seen ?a3_Count ?a3_Joined ?a3_NoSquare ?a3_Ring ?a4_Unlike ?a4_Sum ?a4_Rising ?a4_Seen ?a4_Count ?a4_Joined ?a4_NoSquare ?a4_Ring ?a5_Unlike ?a5_Sum ?a5_Rising ?a5_Seen ?a5_Count ?a5_Joined ?a5_NoSquare ?a5_Ring ?a6_Unlike ?a6_Sum ?a6_Rising ?a6_Seen ?a6_Count ?a6_Joined ?a6_NoSquare ?a6_Ring ?a7 ?a8 ?a9 ?a10 ?a11 ?a12 ?a13 ?a14 ?a15 ?a16 ?a17 ?a18 ?a19 ?a20 ?a21 ?a22 ?a23 ?a24 ?a25 ?F0 ?F1 ?fn1 ?F2 ?fn2 ?F3 ?fn3 ?F4 ?fn4 ?F5 ?fn5 ?F6 ?fn6 ?F7 ?F8 ?F9 ?F10 ?F11 ?F12 ?F13 ?F14 ?F15 ?F16 ?F17 ?F18 ?F19 ?F20 ?F21 ?F22 ?F23 ?F24 ?F25 ?wS ?wT ?wU ?wr ?wV ?wW ?x5 ?x6 ?x8 ?xt ?x9 ?ya ?wX ?wY ?wZ ?wt ?w5 ?w6 ?xC ?xD ?xE ?w9 ?xF ?xG ?xn ?xo ?xp ?wG ?xq ?xr ?xa ?xb ?xf ?wu ?xg ?xh ?wB ?wC ?wD ?vS ?wE ?wF ?xH ?xI ?xJ ?xi ?xK ?xL ?io3_R ?io4_R ?io1_Unlike ?io2_Unlike ?io5_Unlike ?io6_Unlike ?io1_Sum ?io2_Sum ?io5_Sum ?io6_Sum ?io1_Rising ?io2_Rising ?io5_Rising ?io6_Rising ?io1_Seen ?io2_Seen ?io5_Seen ?io6_Seen ?io1_Count ?io2_Count ?io5_Count ?io6_Count ?io1_Joined ?io2_Joined ?io5_Joined ?io6_Joined ?io1_NoSquare ?io2_NoSquare ?io5_NoSquare ?io6_NoSquare ?io1_Ring ?io2_Ring ?io5_Ring ?io6_Ring ?vn ?vT ?vo ?vG ?vv ?vp ?vi ?vH ?vw ?wb ?vx ?vU ?vI ?vy ?vj ?vV ?vz ?wc ?vA ?vW ?vJ ?vC ?vk ?vX ?vK ?wo ?vL ?we ?vY ?vM ?vq ?wf ?vD ?wg ?vE ?vZ ?vN ?vF ?vm ?v4 ?vO ?vP ?v5 ?v6 ?wp ?wq ?xj ?v7 ?wj ?z_len ?z_abs ?z_min ?z_max ?z_sorted ?z_any ?z_isinstance ?z_list ?z_int ?z_bool ?z_str ?z_tuple ?z_reversed ?z_set ?z_range ?z_zip ?z_all ?z_sum ?z_enumerate ?e_ClueError ?e_NoFloor ?e_NoFilling ?e_NoRule ?e_NoPuzzle ?e_TooMany ?e_NotOne ?e_NoMove ?e_NoText ?e_NoName ?e_NoRow ?e_BadThought ?z_ValueError ?D1 ?D2 ?D3 ?D4 ?r1_NoRule ?r2_NoRule ?r3_NoRule ?f1_NoRule ?f2_NoRule ?f3_NoRule ?f4_NoRule ?f5_NoRule ?f6_NoRule ?f7_NoRule ?g_NoRule_BadThought ?g_NoRule_NoFilling ?g_NoRule_NoMove ?g_NoRule_NoName ?g_NoRule_NoRow ?g_NoRule_NoText ?g_NoRule_NotOne ?g_NoRule_TooMany ?g_NoRule_NoFloor ?g_NoRule_NoPuzzle
    (case ym => k_is)
    (case xx => k_is)
    (case q_Sum => k_is)
    (case xy => k_is)
    (case yn => k_is)
    (case x3 => k_is)
    (case xz => k_is)
    (case wO => k_is)
    (case yo => k_is)
    (case a0 => k_is)
    (case wP => k_is)
    (case x4 => k_is)
    (case wQ => k_is)
    (case xA => k_is)
    (case xm => k_is)
    (case wR => k_is)
    (case wA => k_is)
    (case xB => k_is)
    (case a2_Unlike => k_is)
    (case a2_Sum => k_is)
    (case a2_Rising => k_is)
    (case a2_Seen => k_is)
    (case a2_Count => k_is)
    (case a2_Joined => k_is)
    (case a2_NoSquare => k_is)
    (case a2_Ring => k_is)
    (case a3_Unlike => k_is)
    (case a3_Sum => k_is)
    (case a3_Rising => k_is)
    (case a3_Seen => k_is)
    (case a3_Count => k_is)
    (case a3_Joined => k_is)
    (case a3_NoSquare => k_is)
    (case a3_Ring => k_is)
    (case a4_Unlike => k_is)
    (case a4_Sum => k_is)
    (case a4_Rising => k_is)
    (case a4_Seen => k_is)
    (case a4_Count => k_is)
    (case a4_Joined => k_is)
    (case a4_NoSquare => k_is)
    (case a4_Ring => k_is)
    (case a5_Unlike => k_is)
    (case a5_Sum => k_is)
    (case a5_Rising => k_is)
    (case a5_Seen => k_is)
    (case a5_Count => k_is)
    (case a5_Joined => k_is)
    (case a5_NoSquare => k_is)
    (case a5_Ring => k_is)
    (case a6_Unlike => k_is)
    (case a6_Sum => k_is)
    (case a6_Rising => k_is)
    (case a6_Seen => k_is)
    (case a6_Count => k_is)
    (case a6_Joined => k_is)
    (case a6_NoSquare => k_is)
    (case a6_Ring => k_is)
    (case a7 => k_is)
    (case a8 => k_is)
    (case a9 => k_is)
    (case a10 => k_is)
    (case a11 => k_is)
    (case a12 => k_is)
    (case a13 => k_is)
    (case a14 => k_is)
    (case a15 => k_is)
    (case a16 => k_is)
    (case a17 => k_is)
    (case a18 => k_is)
    (case a19 => k_is)
    (case a20 => k_is)
    (case a21 => k_is)
    (case a22 => k_is)
    (case a23 => k_is)
    (case a24 => k_is)
    (case a25 => k_is)
    (case F0 => (refine' L2.aL ?l ?c ?k; (case l => k_is); (case c => k_is); case k => k_is))
    (case F1 => (refine' L2.aL ?l ?c ?k; (case l => k_is); (case c => k_is); case k => k_is))
    (case fn1 => k_is)
    (case F2 => (refine' L2.aL ?l ?c ?k; (case l => k_is); (case c => k_is); case k => k_is))
    (case fn2 => k_is)
    (case F3 => (refine' L2.aL ?l ?c ?k; (case l => k_is); (case c => k_is); case k => k_is))
    (case fn3 => k_is)
    (case F4 => (refine' L2.aL ?l ?c ?k; (case l => k_is); (case c => k_is); case k => k_is))
    (case fn4 => k_is)
    (case F5 => (refine' L2.aL ?l ?c ?k; (case l => k_is); (case c => k_is); case k => k_is))
    (case fn5 => k_is)
    (case F6 => (refine' L2.aL ?l ?c ?k; (case l => k_is); (case c => k_is); case k => k_is))
    (case fn6 => k_is)
    (case F7 => (refine' L2.aL ?l ?c ?k; (case l => k_is); (case c => k_is); case k => k_is))
    (case F8 => (refine' L2.aL ?l ?c ?k; (case l => k_is); (case c => k_is); case k => k_is))
    (case F9 => (refine' L2.aL ?l ?c ?k; (case l => k_is); (case c => k_is); case k => k_is))
    (case F10 => (refine' L2.aL ?l ?c ?k; (case l => k_is); (case c => k_is); case k => k_is))
    (case F11 => (refine' L2.aL ?l ?c ?k; (case l => k_is); (case c => k_is); case k => k_is))
    (case F12 => (refine' L2.aL ?l ?c ?k; (case l => k_is); (case c => k_is); case k => k_is))
    (case F13 => (refine' L2.aL ?l ?c ?k; (case l => k_is); (case c => k_is); case k => k_is))
    (case F14 => (refine' L2.aL ?l ?c ?k; (case l => k_is); (case c => k_is); case k => k_is))
    (case F15 => (refine' L2.aL ?l ?c ?k; (case l => k_is); (case c => k_is); case k => k_is))
    (case F16 => (refine' L2.aL ?l ?c ?k; (case l => k_is); (case c => k_is); case k => k_is))
    (case F17 => (refine' L2.aL ?l ?c ?k; (case l => k_is); (case c => k_is); case k => k_is))
    (case F18 => (refine' L2.aL ?l ?c ?k; (case l => k_is); (case c => k_is); case k => k_is))
    (case F19 => (refine' L2.aL ?l ?c ?k; (case l => k_is); (case c => k_is); case k => k_is))
    (case F20 => (refine' L2.aL ?l ?c ?k; (case l => k_is); (case c => k_is); case k => k_is))
    (case F21 => (refine' L2.aL ?l ?c ?k; (case l => k_is); (case c => k_is); case k => k_is))
    (case F22 => (refine' L2.aL ?l ?c ?k; (case l => k_is); (case c => k_is); case k => k_is))
    (case F23 => (refine' L2.aL ?l ?c ?k; (case l => k_is); (case c => k_is); case k => k_is))
    (case F24 => (refine' L2.aL ?l ?c ?k; (case l => k_is); (case c => k_is); case k => k_is))
    (case F25 => (refine' L2.aL ?l ?c ?k; (case l => k_is); (case c => k_is); case k => k_is))
    (case wS => k_is)
    (case wT => k_is)
    (case wU => k_is)
    (case wr => k_is)
    (case wV => k_is)
    (case wW => k_is)
    (case x5 => k_is)
    (case x6 => k_is)
    (case x8 => k_is)
    (case xt => k_is)
    (case x9 => k_is)
    (case ya => k_is)
    (case wX => k_is)
    (case wY => k_is)
    (case wZ => k_is)
    (case wt => k_is)
    (case w5 => k_is)
    (case w6 => k_is)
    (case xC => k_is)
    (case xD => k_is)
    (case xE => k_is)
    (case w9 => k_is)
    (case xF => k_is)
    (case xG => k_is)
    (case xn => k_is)
    (case xo => k_is)
    (case xp => k_is)
    (case wG => k_is)
    (case xq => k_is)
    (case xr => k_is)
    (case xa => k_is)
    (case xb => k_is)
    (case xf => k_is)
    (case wu => k_is)
    (case xg => k_is)
    (case xh => k_is)
    (case wB => k_is)
    (case wC => k_is)
    (case wD => k_is)
    (case vS => k_is)
    (case wE => k_is)
    (case wF => k_is)
    (case xH => k_is)
    (case xI => k_is)
    (case xJ => k_is)
    (case xi => k_is)
    (case xK => k_is)
    (case xL => k_is)
    (case io3_R => k_is)
    (case io4_R => k_is)
    (case io1_Unlike => k_is)
    (case io2_Unlike => k_is)
    (case io5_Unlike => k_is)
    (case io6_Unlike => kit_is)
    (case io1_Sum => k_is)
    (case io2_Sum => k_is)
    (case io5_Sum => k_is)
    (case io6_Sum => kit_is)
    (case io1_Rising => k_is)
    (case io2_Rising => k_is)
    (case io5_Rising => k_is)
    (case io6_Rising => kit_is)
    (case io1_Seen => k_is)
    (case io2_Seen => k_is)
    (case io5_Seen => k_is)
    (case io6_Seen => kit_is)
    (case io1_Count => k_is)
    (case io2_Count => k_is)
    (case io5_Count => k_is)
    (case io6_Count => kit_is)
    (case io1_Joined => k_is)
    (case io2_Joined => k_is)
    (case io5_Joined => k_is)
    (case io6_Joined => kit_is)
    (case io1_NoSquare => k_is)
    (case io2_NoSquare => k_is)
    (case io5_NoSquare => k_is)
    (case io6_NoSquare => kit_is)
    (case io1_Ring => k_is)
    (case io2_Ring => k_is)
    (case io5_Ring => k_is)
    (case io6_Ring => kit_is)
    (case vn => k_is)
    (case vT => k_is)
    (case vo => k_is)
    (case vG => k_is)
    (case vv => k_is)
    (case vp => k_is)
    (case vi => k_is)
    (case vH => k_is)
    (case vw => k_is)
    (case wb => k_is)
    (case vx => k_is)
    (case vU => k_is)
    (case vI => k_is)
    (case vy => k_is)
    (case vj => k_is)
    (case vV => k_is)
    (case vz => k_is)
    (case wc => k_is)
    (case vA => k_is)
    (case vW => k_is)
    (case vJ => k_is)
    (case vC => k_is)
    (case vk => k_is)
    (case vX => k_is)
    (case vK => k_is)
    (case wo => k_is)
    (case vL => k_is)
    (case we => k_is)
    (case vY => k_is)
    (case vM => k_is)
    (case vq => k_is)
    (case wf => k_is)
    (case vD => k_is)
    (case wg => k_is)
    (case vE => k_is)
    (case vZ => k_is)
    (case vN => k_is)
    (case vF => k_is)
    (case vm => k_is)
    (case v4 => k_is)
    (case vO => k_is)
    (case vP => k_is)
    (case v5 => k_is)
    (case v6 => k_is)
    (case wp => k_is)
    (case wq => k_is)
    (case xj => k_is)
    (case v7 => k_is)
    (case wj => k_is)
    (case z_len => k_is)
    (case z_abs => k_is)
    (case z_min => k_is)
    (case z_max => k_is)
    (case z_sorted => k_is)
    (case z_any => k_is)
    (case z_isinstance => k_is)
    (case z_list => k_is)
    (case z_int => k_is)
    (case z_bool => k_is)
    (case z_str => k_is)
    (case z_tuple => k_is)
    (case z_reversed => k_is)
    (case z_set => k_is)
    (case z_range => k_is)
    (case z_zip => k_is)
    (case z_all => k_is)
    (case z_sum => k_is)
    (case z_enumerate => k_is)
    (case e_ClueError => k_is)
    (case e_NoFloor => k_is)
    (case e_NoFilling => k_is)
    (case e_NoRule => k_is)
    (case e_NoPuzzle => k_is)
    (case e_TooMany => k_is)
    (case e_NotOne => k_is)
    (case e_NoMove => k_is)
    (case e_NoText => k_is)
    (case e_NoName => k_is)
    (case e_NoRow => k_is)
    (case e_BadThought => k_is)
    (case z_ValueError => k_is)
    (case D1 => k_is)
    (case D2 => exact rfl)
    (case D3 => k_is)
    (case D4 => first | kernel_rfl | exact rfl)
    (case r1_NoRule => k_is)
    (case r2_NoRule => k_is)
    (case r3_NoRule => first | kernel_rfl | exact rfl)
    (case f1_NoRule => k_is)
    (case f2_NoRule => k_is)
    (case f3_NoRule => k_is)
    (case f4_NoRule => k_is)
    (case f5_NoRule => k_is)
    (case f6_NoRule => kit_is)
    (case f7_NoRule => kts_exm)
    (case g_NoRule_BadThought => kit_is)
    (case g_NoRule_NoFilling => kit_is)
    (case g_NoRule_NoMove => kit_is)
    (case g_NoRule_NoName => kit_is)
    (case g_NoRule_NoRow => kit_is)
    (case g_NoRule_NoText => kit_is)
    (case g_NoRule_NotOne => kit_is)
    (case g_NoRule_TooMany => kit_is)
    (case g_NoRule_NoFloor => kit_is)
    (case g_NoRule_NoPuzzle => kit_is)
