import PyProof.Rows.All
import Wide.All
import OpenK.AllK
import Wide.FinOn
import Lean
import PyProof.EqAt
import PyProof.EqKinds
import PyProof.TupleCall
import PyProof.ZipIter
import PyProof.ConsumeS
import PyProof.StrCalls2
import PyProof.StrWalks
import PyProof.SliceStr2
import PyProof.StrBlock
import PyProof.StrBlockL
import PyProof.ListIndex
import PyProof.StrLawsTight
import PyProof.StrLawsChain
import PyProof.StrLaws
import PyProof.StrLawsFirst
import PyProof.StationsW
import PyProof.ExcClass3
import PyProof.NsDelKeeps
import PyProof.RulesAs
import PyProof.ExcBaseAll.ValueError
import PyProof.ExcArgsOwn
import PyProof.ExcAttrAll.ValueError
import KE.KTryMore
import KE.RegKTryMore
import KE.RegKIsAll
import PyProof.Rows.Range3
import PyProof.Rows.SumGenD
import PyProof.Rows.RuleM_int
import PyProof.EnumMake
import PyProof.EnumFor
import PyProof.EnumStmt
import PyProof.Rows.EnumRows
import KE.KRevIter
import PyProof.ListNew
import PyProof.CollectIter
import PyProof.ListRange
import PyProof.CallStr
import PyProof.StrBlock2
import PyProof.Rows.StrMadeLen
import PyProof.Rows.SetFrom
import PyProof.SetRoads
import PyProof.MeetsStr2
import KE.KRevSl
import PyProof.Conv_int
import PySem.Challenge.RW_cluemaker_k29_regions_strike_no_answer
set_option Elab.async false
set_option linter.all false
set_option maxRecDepth 100000
namespace L2
open PySem PySem.Spec PyProof.Rows
abbrev Key:=Sum Int Str
def keyIs:Key→Value→Bool
 | .inl k,v=>Value.isInt k v
 | .inr x,v=>Value.isStrOf x v
def keyH (w:World):Key→Int
 | .inl k=>hashInt k
 | .inr x=>hashStr w x
theorem bD:∀ {k:Key} {v:Value},keyIs k v=true→(∃ i t,k=Sum.inl i∧v=Value.int i t)∨(∃ x t,k=Sum.inr x∧v=Value.str x t)
 | .inl i,v,h=>by
  obtain ⟨t,e⟩:=Value.isInt_shape (k:=i) (v:=v) h
  exact .inl ⟨i,t,rfl,e⟩
 | .inr x,v,h=>by
  obtain ⟨t,e⟩:=Value.isStrOf_shape (x:=x) (v:=v) h
  exact .inr ⟨x,t,rfl,e⟩
theorem uh (i:Int) (t:Tok):keyIs (.inl i) (.int i t)=true:=by simp [keyIs,Value.isInt]
theorem ui (x:Str) (t:Tok):keyIs (.inr x) (.str x t)=true:=by simp [keyIs,Value.isStrOf]
theorem xp (a b:Int):decide ((Sum.inl a:Key)=Sum.inl b)=(a==b):=by
 by_cases e:a=b
 · subst e; simp
 · have h:¬ (Sum.inl a:Key)=Sum.inl b:=fun q=>e (Sum.inl.inj q)
   rw [decide_eq_false h]
   exact (beq_eq_false_iff_ne.mpr e).symm
theorem xq (a b:Str):decide ((Sum.inr a:Key)=Sum.inr b)=decide (a=b):=by
 by_cases e:a=b
 · subst e; simp
 · have h:¬ (Sum.inr a:Key)=Sum.inr b:=fun q=>e (Sum.inr.inj q)
   rw [decide_eq_false h,decide_eq_false e]
theorem xt (a:Int) (b:Str):decide ((Sum.inl a:Key)=Sum.inr b)=false:=decide_eq_false (fun q=>nomatch q)
theorem xu (a:Str) (b:Int):decide ((Sum.inr a:Key)=Sum.inl b)=false:=decide_eq_false (fun q=>nomatch q)
def b8 (prog:Program) (w:World):PySem.KeyKind prog w Key where
 is:=keyIs
 hash:=keyH w
 inj:=fun v a b ha hb=>by
  rcases bD ha with ⟨i,t,rfl,rfl⟩ | ⟨x,t,rfl,rfl⟩
  · rcases bD hb with ⟨j,u,rfl,e⟩ | ⟨y,u,rfl,e⟩
    · injection e with e1 _; rw [e1]
    · exact nomatch e
  · rcases bD hb with ⟨j,u,rfl,e⟩ | ⟨y,u,rfl,e⟩
    · exact nomatch e
    · injection e with e1 _; rw [e1]
 byValue:=fun k v h=>by
  rcases bD h with ⟨i,t,rfl,rfl⟩ | ⟨x,t,rfl,rfl⟩ <;> rfl
 pyHash:=fun hv h=>by
  rcases bD hv with ⟨i,t,rfl,rfl⟩ | ⟨x,t,rfl,rfl⟩
  · exact wpAny_pyHash_int h
  · exact wpAny_pyHash_str h
 eqBool:=fun hu hv h=>by
  rcases bD hu with ⟨i,t,rfl,rfl⟩ | ⟨x,t,rfl,rfl⟩
  · rcases bD hv with ⟨j,u,rfl,rfl⟩ | ⟨y,u,rfl,rfl⟩
    · rw [xp] at h; exact wpAny_eqBool_int h
    · rw [xt] at h; exact SeqAt.EqAt.int_str i t y u _ _ _ _ h
  · rcases bD hv with ⟨j,u,rfl,rfl⟩ | ⟨y,u,rfl,rfl⟩
    · rw [xu] at h; exact SeqAt.EqAt.str_int x t j u _ _ _ _ h
    · rw [xq] at h; exact wpAny_eqBool_str h
 «strs»:=fun k x t v h=>by
  rcases bD h with ⟨i,u,rfl,e⟩ | ⟨y,u,rfl,e⟩
  · exact nomatch e
  · injection e with e1 _
    subst e1
    cases v <;> rfl
theorem rF (prog:Program) (w:World) (i:Int) (t:Tok):(b8 prog w).is (.inl i) (.int i t)=true:=uh i t
theorem rG (prog:Program) (w:World) (x:Str) (t:Tok):(b8 prog w).is (.inr x) (.str x t)=true:=ui x t
end L2
namespace L2
open PySem PySem.Spec PyProof.Rows
inductive V where
 | non | bl (b:Bool) | int (i:Int) | str (x:Str) | byt (b:Array UInt8) | flt (b:UInt64) | ref (a:Addr) | ty (n:String)
 deriving DecidableEq
def RelV:V→Value→Prop
 | .non,u=>u=Value.none
 | .bl b,u=>u=Value.bool b
 | .int i,u=>∃ t,u=Value.int i t
 | .str x,u=>∃ t,u=Value.str x t
 | .byt b,u=>∃ t,u=Value.bytes b t
 | .flt b,u=>∃ t,u=Value.float b t
 | .ref a,u=>u=Value.ref a
 | .ty n,u=>u=Value.type n
abbrev Vals:List V→List Value→Prop:=Paired RelV
theorem Vals.length {xs:List V} {us:List Value} (r:Vals xs us):xs.length=us.length:=Paired.length r
theorem Vals.get:∀ {xs:List V} {us:List Value} {i:Nat} {x:V},Vals xs us→xs[i]? =some x→∃ u,us[i]? =some u∧RelV x u
 | _,_,_,_,.nil,e=>by simp at e
 | _,_,0,_,.cons r _,e=>by simp at e; subst e; exact ⟨_,rfl,r⟩
 | _,_,i+1,x,.cons _ t,e=>by
  obtain ⟨u,h1,h2⟩:=Vals.get (i:=i) (x:=x) t (by simpa using e)
  exact ⟨u,by simpa using h1,h2⟩
theorem Vals.append:∀ {xs ys:List V} {us ws:List Value},Vals xs us→Vals ys ws→Vals (xs++ys) (us++ws)
 | _,_,_,_,.nil,s=>s
 | _,_,_,_,.cons r t,s=>.cons r (Vals.append t s)
theorem Vals.take:∀ {xs:List V} {us:List Value} (n:Nat),Vals xs us→Vals (xs.take n) (us.take n)
 | _,_,0,_=>.nil
 | _,_,_+1,.nil=>.nil
 | _,_,n+1,.cons r t=>.cons r (Vals.take n t)
theorem Vals.drop:∀ {xs:List V} {us:List Value} (n:Nat),Vals xs us→Vals (xs.drop n) (us.drop n)
 | _,_,0,r=>r
 | _,_,_+1,.nil=>.nil
 | _,_,n+1,.cons _ t=>Vals.drop n t
def RelO:Option V→Option Value→Prop
 | some v,some u=>RelV v u
 | none,none=>True
 | _,_=>False
def KV {κ:Type}:List (κ × V)→List (κ × Value)→Prop:=Paired fun (p:κ × V) (q:κ × Value)=>p.1=q.1∧RelV p.2 q.2
def kV:Key→V
 | .inl i=>.int i
 | .inr x=>.str x
inductive HO where
  | lst (xs:List V)
  | tup (xs:List V)
  | dK (kvs:List (Key × V)) | dT (kvs:List (List Key × V))
  | set (S:Int→Bool) (n:Nat)
  | ins (C dx:Addr) (fs:List (Str × V))
  | own (x:Addr)
  | xd (fs:List (Str × V))
  | met (f x:Addr)
  | rng (lo hi:Int)
  | frz (o:Obj) (u:HO)
  | tbl (ps:Array Value)
  | ext (φ:Heap→Prop)
abbrev Hp:=Addr→Option HO
def upd (H:Hp) (a:Addr) (o:HO):Hp:=fun b=>if b=a then some o else H b
theorem ag {H:Hp} {a:Addr} {o:HO}:upd H a o a=some o:=by unfold upd; rw [if_pos rfl]
theorem aj {H:Hp} {a b:Addr} {o:HO} (h:b≠a):upd H a o b=H b:=by unfold upd; rw [if_neg h]
theorem yx {H:Hp} {a b:Addr} {o u:HO} (h:H a=some o) (h':H b=some u) (d:o≠u):a≠b:=by
 intro e; subst e; rw [h] at h'; exact d (Option.some.inj h')
theorem aA {H:Hp} {a b:Addr} {o:HO} (h:H a=some o) (h':H b=none):a≠b:=by
 intro e; subst e; rw [h] at h'; cases h'
section
variable (P:Program) (w:World)
def ObjOk (H:Hp) (h:Heap) (a:Addr):HO→Prop
 | .lst xs=>xs.length≤sizeLine∧∃ (its:List Value) (n:Nat),Vals xs its∧h.get? a=some { cls:=.type "list",data:=.seq its.toArray n }
 | .tup xs=>xs.length≤sizeLine∧∃ its:List Value,Vals xs its∧IsTup h a its.toArray
 | .dK kvs=>kvs.length≤sizeLine∧(a==sysModules)=false∧∃ vs,KV kvs vs∧h.DictOf (b8 P w) a vs
 | .dT kvs=>kvs.length≤sizeLine∧(a==sysModules)=false∧∃ xs:List (List Key × Addr × Value),
   Paired (fun (p:List Key × V) (q:List Key × Addr × Value)=>p.1=q.1∧H q.2.1=some (.tup (p.1.map kV))∧RelV p.2 q.2.2) kvs xs∧
   ∃ o es ep,h.get? a=some o∧o.ExactDict∧o.data=.dict es ep∧es.toList=xs.map (entryOfKey (tupleKind (b8 P w)))∧(xs.map (·.1)).Nodup
 | .set S n=>h.SetOf (intKind P w) a S n
 | .ins C dx fs=>H dx=some (.own a)∧fs.length≤1000∧dx≠a∧h.get? a=some (PySem.W.instObj C dx)∧
   ∃ mA,h.Ns1 dx mA∧(∀ f,RelO (fs.lookup f) (mA f))∧PySem.Within mA (fs.map (·.1))
 | .own _=>∃ o,h.get? a=some o
 | .xd fs=>∃ mA,h.Ns1 a mA∧∀ f,RelO (fs.lookup f) (mA f)
 | .rng lo hi=>∃ t u v,h.get? a=some { cls:=.type "range",data:=.fields #[.int lo t,.int hi u,.int 1 v] }
 | .frz o u=>h.get? a=some o∧ObjOk H h a u
 | .tbl ps=>h.get? a=some { cls:=.none,data:=.fields ps }
 | .met f x=>h.get? a=some (PySem.W.methodObj (.ref f) (.ref x))
 | .ext φ=>φ h∧(∃ o,h.get? a=some o)∧∀ h1 h2:Heap,φ h1→(∀ o,h1.get? a=some o→h2.get? a=some o)→φ h2
def HOk (H:Hp) (h:Heap):Prop:=∀ a o,H a=some o→ObjOk P w H h a o
end
section
variable {P:Program} {w:World} {H H':Hp} {h h':Heap} {a:Addr} {o:HO}
theorem ObjOk.lt (x:ObjOk P w H h a o):a < h.objs.size:=by
 cases o with
 | lst xs=>obtain ⟨_,_,_,_,e⟩:=x; exact Heap.lt_size e
 | tup xs=>obtain ⟨_,_,_,p⟩:=x; exact p.lt
 | dK kvs=>obtain ⟨_,_,_,_,o,_,_,e,_⟩:=x; exact Heap.lt_size e
 | dT kvs=>obtain ⟨_,_,_,_,o,_,_,e,_⟩:=x; exact Heap.lt_size e
 | set S n=>obtain ⟨o,_,_,_,e,_⟩:=x; exact Heap.lt_size e
 | ins C dx fs=>obtain ⟨_,_,_,e,_⟩:=x; exact Heap.lt_size e
 | own y=>obtain ⟨_,e⟩:=x; exact Heap.lt_size e
 | xd fs=>obtain ⟨_,⟨_,_,_,e,_⟩,_⟩:=x; exact Heap.lt_size e
 | rng lo hi=>obtain ⟨_,_,_,e⟩:=x; exact Heap.lt_size e
 | frz ob u=>obtain ⟨e,_⟩:=x; exact Heap.lt_size e
 | tbl ps=>exact Heap.lt_size (show h.get? a=some _ from x)
 | met f y=>exact Heap.lt_size (show h.get? a=some _ from x)
 | ext φ=>obtain ⟨_,⟨_,e⟩,_⟩:=x; exact Heap.lt_size e
theorem Paired.mapP {α β:Type} {F G:α→β→Prop}:∀ {l₁:List α} {l₂:List β},Paired F l₁ l₂→(∀ a b,F a b→G a b)→Paired G l₁ l₂
 | _,_,.nil,_=>.nil
 | _,_,.cons r t,f=>.cons (f _ _ r) (Paired.mapP t f)
theorem ObjOk.stay (x:ObjOk P w H h a o) (k:∀ b u,(b=a∨H b=some (.own a))→h.get? b=some u→h'.get? b=some u)
  (ho:∀ b,H b=some (.own a)→H' b=some (.own a)) (ht:∀ b xs,H b=some (.tup xs)→H' b=some (.tup xs)):ObjOk P w H' h' a o:=by
 induction o with
 | lst xs=>obtain ⟨z,its,n,r,e⟩:=x; exact ⟨z,its,n,r,k _ _ (.inl rfl) e⟩
 | tup xs=>obtain ⟨z,its,r,ob,e,c⟩:=x; exact ⟨z,its,r,ob,k _ _ (.inl rfl) e,c⟩
 | dK kvs=>obtain ⟨z,y,vs,r,ob,es,ep,e,c⟩:=x; exact ⟨z,y,vs,r,ob,es,ep,k _ _ (.inl rfl) e,c⟩
 | dT kvs=>
  obtain ⟨z,y,xs,r,ob,es,ep,e,c⟩:=x
  exact ⟨z,y,xs,Paired.mapP r fun p q z=>⟨z.1,ht _ _ z.2.1,z.2.2⟩,ob,es,ep,k _ _ (.inl rfl) e,c⟩
 | set S n=>obtain ⟨ob,es,ep,t,e,c⟩:=x; exact ⟨ob,es,ep,t,k _ _ (.inl rfl) e,c⟩
 | ins C dx fs=>
  obtain ⟨d,z,ne,e,mA,⟨od,es,ep,e2,c⟩,r⟩:=x
  exact ⟨ho _ d,z,ne,k _ _ (.inl rfl) e,mA,⟨od,es,ep,k _ _ (.inr d) e2,c⟩,r⟩
 | own y=>obtain ⟨ob,e⟩:=x; exact ⟨ob,k _ _ (.inl rfl) e⟩
 | xd fs=>obtain ⟨mA,⟨od,es,ep,e,c⟩,r⟩:=x; exact ⟨mA,⟨od,es,ep,k _ _ (.inl rfl) e,c⟩,r⟩
 | rng lo hi=>obtain ⟨t,u,v,e⟩:=x; exact ⟨t,u,v,k _ _ (.inl rfl) e⟩
 | frz ob u ih=>obtain ⟨e,q⟩:=x; exact ⟨k _ _ (.inl rfl) e,ih q⟩
 | tbl ps=>
  have e:h.get? a=some { cls:=.none,data:=.fields ps }:=x
  show h'.get? a=some { cls:=.none,data:=.fields ps }
  exact k a _ (.inl rfl) e
 | met f y=>
  have e:h.get? a=some (PySem.W.methodObj (.ref f) (.ref y)):=x
  show h'.get? a=some (PySem.W.methodObj (.ref f) (.ref y))
  exact k a _ (.inl rfl) e
 | ext φ=>obtain ⟨p,⟨o,e⟩,st⟩:=x; exact ⟨st _ _ p fun o q=>k _ _ (.inl rfl) q,⟨o,k _ _ (.inl rfl) e⟩,st⟩
theorem HOk.lt (x:HOk P w H h) (e:H a=some o):a < h.objs.size:=(x a o e).lt
theorem HOk.fresh (x:HOk P w H h) (e:h.objs.size≤a):H a=none:=by
 cases q:H a with
 | none=>rfl
 | some u=>exact absurd (Nat.lt_of_lt_of_le (x.lt q) e) (Nat.lt_irrefl _)
theorem HOk.kept (x:HOk P w H h) (k:∀ b u,h.get? b=some u→h'.get? b=some u):HOk P w H h':=fun a o e=>
 (x a o e).stay (fun b u _ q=>k b u q) (fun _ q=>q) fun _ _ q=>q
theorem HOk.laid (x:HOk P w H h) (k:∀ b u,h.get? b=some u→h'.get? b=some u) (hp:h.objs.size≤a) (new:ObjOk P w (upd H a o) h' a o):HOk P w (upd H a o) h':=fun b u e=>by
 have hn:=x.fresh hp
 by_cases hb:b=a
 · subst hb; rw [ag] at e; cases e; exact new
 · rw [aj hb] at e
   exact (x b u e).stay (fun c v _ q=>k c v q) (fun c q=>by rw [aj (aA q hn)]; exact q) fun c xs q=>by rw [aj (aA q hn)]; exact q
end
def Rd (H:Hp) (a:Addr) (u:HO):Prop:=H a=some u∨∃ o,H a=some (.frz o u)
theorem Rd.ok {P:Program} {w:World} {H:Hp} {h:Heap} {a:Addr} {u:HO} (r:Rd H a u) (x:HOk P w H h):ObjOk P w H h a u:=by
 rcases r with r | ⟨o,r⟩
 · exact x a u r
 · obtain ⟨_,q⟩:=x a _ r
   exact q
def Mut:Option HO→Prop
 | some (.lst _)=>True
 | some (.dK _)=>True
 | some (.dT _)=>True
 | some (.set _ _)=>True
 | some (.ins _ _ _)=>True
 | some (.ext _)=>True
 | _=>False
section
variable {P:Program} {w:World} {H:Hp} {h h':Heap} {x e:Addr} {o':HO}
theorem HOk.write (ok:HOk P w H h) (mu:Mut (H x)) (he:e=x∨H e=some (.own x)) (k:∀ b u,b≠e→h.get? b=some u→h'.get? b=some u) (heo:∃ u,h'.get? e=some u)
  (new:ObjOk P w (upd H x o') h' x o'):HOk P w (upd H x o') h':=fun b u q=>by
 have nown:∀ c y,H c=some (.own y)→c≠x:=fun c y r z=>by subst z; rw [r] at mu; exact mu
 have ntup:∀ c xs,H c=some (.tup xs)→c≠x:=fun c xs r z=>by subst z; rw [r] at mu; exact mu
 by_cases hb:b=x
 · subst hb; rw [ag] at q; cases q; exact new
 · rw [aj hb] at q
   by_cases hbe:b=e
   · have q':H b=some (.own x):=by
      rcases he with z | z
      · exact absurd (hbe.trans z) hb
      · rw [hbe]; exact z
     rw [q] at q'; cases q'
     obtain ⟨v,hv⟩:=heo
     exact ⟨v,by rw [hbe]; exact hv⟩
   · refine (ok b u q).stay (fun c v hc r=>k c v ?_ r) (fun c r=>by rw [aj (nown c b r)]; exact r) fun c xs r=>by rw [aj (ntup c xs r)]; exact r
     rcases hc with rfl | hc
     · exact hbe
     · rintro rfl
       rcases he with z | z
       · exact nown c b hc z
       · rw [hc] at z; cases z; exact hb rfl
end
structure Un (fs ex:List Addr) (H H':Hp) (h h':Heap):Prop where
 keep:∀ b o,h.get? b=some o→H b=none→b∉fs→b∉ex→h'.get? b=some o
 slot:∀ b o,h.get? b=some o→H b=none→b∈fs→b∉ex→∃ sl,h'.get? b=some { o with slots:=sl }
 free:∀ b o,h.get? b=some o→H b=none→b∉ex→H' b=none
 there:∀ b o,h.get? b=some o→b∉ex→∃ o',h'.get? b=some o'
 tups:∀ b xs,H b=some (.tup xs)→H' b=some (.tup xs)
 frzs:∀ b o u,H b=some (.frz o u)→H' b=some (.frz o u)
 tbls:∀ b ps,H b=some (.tbl ps)→∃ more,H' b=some (.tbl (ps++more))
section
variable {fs fs' ex ex':List Addr} {H H1 H2:Hp} {h h1 h2 h':Heap} {a x e:Addr} {o:HO}
theorem Un.any (u:Un fs ex H H1 h h1) {b:Addr} {ob:Obj} (q:h.get? b=some ob) (n:H b=none) (hx:b∉ex):∃ sl,h1.get? b=some { ob with slots:=sl }:=by
 by_cases hb:b∈fs
 · exact u.slot b ob q n hb hx
 · exact ⟨ob.slots,u.keep b ob q n hb hx⟩
theorem Un.kept (k:∀ b u,h.get? b=some u→h'.get? b=some u):Un fs ex H H h h':=
 ⟨fun b ob q _ _ _=>k b ob q,fun b ob q _ _ _=>⟨ob.slots,k b ob q⟩,fun _ _ _ n _=>n,fun b ob q _=>⟨ob,k b ob q⟩,fun _ _ q=>q,fun _ _ _ q=>q,fun _ ps q=>⟨#[],by rw [q]; simp⟩⟩
theorem Un.refl:Un fs ex H H h h:=Un.kept fun _ _ q=>q
theorem Un.laid (k:∀ b u,h.get? b=some u→h'.get? b=some u) (hp:h.objs.size≤a) (hn:H a=none):Un fs ex H (upd H a o) h h' where
 keep:=fun b u q _ _ _=>k b u q
 slot:=fun b u q _ _ _=>⟨u.slots,k b u q⟩
 free:=fun b u q n _=>by rw [aj (Nat.ne_of_lt (Nat.lt_of_lt_of_le (Heap.lt_size q) hp))]; exact n
 there:=fun b u q _=>⟨u,k b u q⟩
 tups:=fun b xs q=>by rw [aj (aA q hn)]; exact q
 frzs:=fun b u xs q=>by rw [aj (aA q hn)]; exact q
 tbls:=fun b ps q=>⟨#[],by rw [aj (aA q hn),q]; simp⟩
theorem Un.write (mu:Mut (H x)) (he:e=x∨H e=some (.own x)) (k:∀ b u,b≠e→h.get? b=some u→h'.get? b=some u) (heo:∃ u,h'.get? e=some u):Un fs ex H (upd H x o) h h':=by
 have hx:∀ b,H b=none→b≠x:=fun b n z=>by subst z; rw [n] at mu; exact mu
 have hb:∀ b,H b=none→b≠e:=fun b n z=>by
  subst z
  rcases he with r | r
  · exact hx b n r
  · rw [n] at r; cases r
 have hm:∀ b u,H b=some u→¬ Mut (some u)→b≠x:=fun b u q nm z=>by subst z; rw [q] at mu; exact nm mu
 refine ⟨fun b u q n _ _=>k b u (hb b n) q,fun b u q n _ _=>⟨u.slots,k b u (hb b n) q⟩,fun b u q n _=>by rw [aj (hx b n)]; exact n,fun b u q _=>?_,
  fun b xs q=>by rw [aj (hm b _ q fun z=>z)]; exact q,fun b u xs q=>by rw [aj (hm b _ q fun z=>z)]; exact q,fun b ps q=>⟨#[],by rw [aj (hm b _ q fun z=>z),q]; simp⟩⟩
 by_cases hbe:b=e
 · subst hbe; exact heo
 · exact ⟨u,k b u hbe q⟩
end
def trk (h:Heap) (H:Hp):List Addr:=(List.range h.objs.size).filter fun a=>(H a).isSome
def hidT (h:Heap) (H:Hp):Heap:=PySem.W.hideAll h (trk h H)
theorem uj (h:Heap) (H:Hp):(hidT h H).objs.size=h.objs.size:=PySem.W.hideAll_size _ _
theorem vJ {h:Heap} {H:Hp} {b:Addr} {o:Obj} (e:h.get? b=some o) (n:H b=none):(hidT h H).get? b=some o:=
 PySem.W.hideAll_get _ e fun hm=>by
  have q:(H b).isSome=true:=(List.mem_filter.mp hm).2
  rw [n] at q; simp at q
theorem ww {h:Heap} {H:Hp} {b:Addr} {o:Obj} (e:(hidT h H).get? b=some o):h.get? b=some o∧H b=none:=by
 have e':h.get? b=some o:=PySem.W.of_hideAll (trk h H) e
 refine ⟨e',?_⟩
 cases q:H b with
 | none=>rfl
 | some x=>
  have hm:b∈trk h H:=List.mem_filter.mpr ⟨List.mem_range.mpr (Heap.lt_size e'),by simp [q]⟩
  have z:(hidT h H).get? b=none:=PySem.W.hideAll_none (trk h H) hm
  rw [z] at e; cases e
end L2
namespace L2
open PySem PySem.Spec PyProof.Rows
structure Mod (K:PySem.W.Frag) (mg:Str→Option Value) (base:Heap):Prop where
 kin:K.In base
 glob:base.Ns mainGlobals mg
 blt:∃ mb,base.Ns builtinsNs mb∧∀ x:Str,x≠"__name__"→mb x=bootBuiltins x
 nolimit:base.NoLimit
structure Cx where
 prog:Program
 w:World
 K:PySem.W.Frag
 mg:Str→Option Value
 base:Heap
 A:Around
 N:List Str
 s₀:Shared
 H₀:Hp
 env:Env
 outer:List Env
 stack:List Env
 ex:List Addr
 fn:Str→Bool
 calm:Bool
 pn:List (Addr × Obj)
 xe:Value→Shared→Prop
def frs (l:List Env):List Addr:=l.filterMap (·.frame)
abbrev Cx.fs (X:Cx):List Addr:=frs X.outer
def Vis (sc:Scope) (x:Str):Prop:=sc.names.lookup x=some .local∨sc.names.lookup x=some .cell∨sc.names.lookup x=some .free
def Loc (sc:Scope) (x:Str):Prop:=sc.names.lookup x=some .local∨sc.names.lookup x=some .cell
def Look (env:Env) (h:Heap) (m:Str→Option Value) (x:Str) (u:Value):Prop:=
 (env.kindOf x=some .local∧m x=some u)∨((env.kindOf x=some .cell∨env.kindOf x=some .free)∧∃ c,env.cells.lookup x=some c∧h.IsCell c (some u))
structure Cx.Ok (X:Cx):Prop where
 mod:Mod X.K X.mg X.base
 kind:X.env.scope.kind=.function
 glob:X.env.globals=mainGlobals
 blt:X.env.builtins=builtinsNs
 above:X.s₀.heap.objs.size≤X.env.locals
 inj:∀ x y c,X.env.cells.lookup x=some c→X.env.cells.lookup y=some c→x=y
 has:∀ x,(X.env.kindOf x=some .cell∨X.env.kindOf x=some .free)→∃ c,X.env.cells.lookup x=some c
 cab:∀ x c,X.fn x=true→X.env.cells.lookup x=some c→X.s₀.heap.objs.size≤c
 hd:X.calm=true→X.A.handled=none
 frames:X.A.frames=some X.stack
 stk:X.stack=X.outer∨(X.stack=X.env::X.outer∧X.env.frame=some X.env.locals)
 exf:∀ b∈X.ex,b≠X.env.locals∧∀ x c,X.env.cells.lookup x=some c→c≠b
 bs:∀ b o,X.base.get? b=some o→X.s₀.heap.get? b=some o∧X.H₀ b=none
 bsz:X.base.objs.size≤X.s₀.heap.objs.size
 noex:∀ b o,X.base.get? b=some o→b∉X.ex
 exfs:∀ b∈X.ex,b∉X.fs
 funs:X.s₀.heap.FunFrames X.base X.outer
 frf:∀ b∈X.fs,X.H₀ b=none
structure Inv (X:Cx) (pins:List (Addr × Obj)) (σ:List (Option V)) (H:Hp) (s:Shared):Prop where
 ok:X.Ok
 os:s.os=X.s₀.os
 bare:AllBare s.gens
 base:Un X.fs X.ex X.H₀ H X.s₀.heap s.heap
 loc:∃ m,s.heap.Ns X.env.locals m∧∀ (i:Nat) (x:Str) (v:V),X.N[i]? =some x→σ[i]? =some (some v)→Vis X.env.scope x→∃ u,RelV v u∧Look X.env s.heap m x u
 cell:∀ x c,X.env.cells.lookup x=some c→∃ v,s.heap.IsCell c v
 free:H X.env.locals=none
 freeC:∀ x c,X.env.cells.lookup x=some c→H c=none
 pin:∀ p∈X.pn++pins,s.heap.get? p.1=some p.2∧H p.1=none∧p.1≠X.env.locals∧p.1∉X.fs∧∀ v,p.2.data≠.cell v
 hok:HOk X.prog X.w H s.heap
 len:σ.length=X.N.length
section
variable {X:Cx} {pins:List (Addr × Obj)} {σ:List (Option V)} {H H':Hp} {s:Shared} {h':Heap}
theorem Cx.Ok.nofr (ok:X.Ok) {b:Addr} {o:Obj} (e:X.base.get? b=some o):b∉X.fs:=fun hb=>by
 have:=(ok.funs.mem hb).1
 rw [e] at this; cases this
theorem Inv.bs (I:Inv X pins σ H s):∀ b o,X.base.get? b=some o→s.heap.get? b=some o∧H b=none:=fun b o e=>
 ⟨I.base.keep b o (I.ok.bs b o e).1 (I.ok.bs b o e).2 (I.ok.nofr e) (I.ok.noex b o e),I.base.free b o (I.ok.bs b o e).1 (I.ok.bs b o e).2 (I.ok.noex b o e)⟩
theorem Inv.bk (I:Inv X pins σ H s):∀ b o,X.base.get? b=some o→s.heap.get? b=some o:=fun b o e=>(I.bs b o e).1
theorem Inv.mod (I:Inv X pins σ H s):Mod X.K X.mg X.base:=I.ok.mod
theorem Inv.kIn (I:Inv X pins σ H s):X.K.In s.heap:=I.ok.mod.kin.keeps I.bk
theorem Inv.lt (I:Inv X pins σ H s):X.env.locals < s.heap.objs.size:=let ⟨_,hn,_⟩:=I.loc; hn.lt
theorem Inv.sz (I:Inv X pins σ H s):X.s₀.heap.objs.size≤s.heap.objs.size:=Nat.le_trans I.ok.above (Nat.le_of_lt I.lt)
theorem Inv.nofs (I:Inv X pins σ H s) {a:Addr} (h:s.heap.objs.size≤a):a∉X.fs:=fun hb=>by
 obtain ⟨_,o,ho,_⟩:=I.ok.funs.mem hb
 exact absurd (Nat.lt_of_lt_of_le (Heap.lt_size ho) (Nat.le_trans I.sz h)) (Nat.lt_irrefl _)
theorem Inv.cne (I:Inv X pins σ H s):∀ x c,X.env.cells.lookup x=some c→c≠X.env.locals:=fun x c e z=>by
 obtain ⟨v,o,ho,hd⟩:=I.cell x c e
 obtain ⟨m,⟨o',es,ep,ho',hd',_⟩,_⟩:=I.loc
 rw [z,ho'] at ho; cases ho; rw [hd'] at hd; cases hd
theorem Inv.funs (I:Inv X pins σ H s):s.heap.FunFrames X.base X.outer:=by
 have all:∀ (l:List Env),(∀ b∈frs l,b∈X.fs)→X.s₀.heap.FunFrames X.base l→s.heap.FunFrames X.base l:=by
  intro l
  induction l with
  | nil=>intro _ _; trivial
  | cons env r ih=>
   intro hs hl
   obtain ⟨hk,⟨L,o,hf,hn,ho,hd⟩,hr⟩:=hl
   have hL:L∈X.fs:=hs L (by unfold frs; rw [List.filterMap_cons,hf]; exact List.mem_cons_self)
   obtain ⟨sl,e⟩:=I.base.slot L o ho (I.ok.frf L hL) hL fun z=>I.ok.exfs L z hL
   exact ⟨hk,⟨L,_,hf,hn,e,hd⟩,ih (fun b hb=>hs b (by unfold frs; rw [List.filterMap_cons,hf]; exact List.mem_cons_of_mem _ hb)) hr⟩
 exact all X.outer (fun _ hb=>hb) I.ok.funs
theorem Inv.stack (I:Inv X pins σ H s):s.heap.FunFrames X.base X.stack:=by
 rcases I.ok.stk with e | ⟨e,hf⟩
 · rw [e]; exact I.funs
 · rw [e]
   obtain ⟨m,hn,_⟩:=I.loc
   refine .cons (by rw [I.ok.kind]; decide) hf hn ?_ I.funs
   exact Heap.get?_none_of_le (Nat.le_trans I.ok.bsz I.ok.above)
theorem Inv.stkSub (I:Inv X pins σ H s):∀ b∈frs X.stack,b∈X.env.locals::X.fs:=fun b hb=>by
 rcases I.ok.stk with e | ⟨e,hf⟩
 · rw [e] at hb; exact List.mem_cons_of_mem _ hb
 · rw [e] at hb
   unfold frs at hb
   rw [List.filterMap_cons,hf] at hb
   exact hb
theorem Inv.stkFree (I:Inv X pins σ H s):∀ b∈frs X.stack,H b=none:=fun b hb=>by
 rcases List.mem_cons.mp (I.stkSub b hb) with e | hb
 · rw [e]; exact I.free
 · obtain ⟨_,o,ho,_⟩:=I.ok.funs.mem hb
   exact I.base.free b o ho (I.ok.frf b hb) fun z=>I.ok.exfs b z hb
theorem Inv.step {g':Array GenState} {t':Nat} {d':Drawn} {ch:List Addr} (I:Inv X pins σ H s)
  (hch:∀ b∈ch,(b∈X.ex∨X.s₀.heap.objs.size≤b)∧b≠X.env.locals∧(∀ x c,X.env.cells.lookup x=some c→c≠b)∧∀ p∈X.pn++pins,p.1≠b)
  (keep:∀ b o,b≠X.env.locals→b∉X.fs→b∉ch→s.heap.get? b=some o→H b=none→h'.get? b=some o)
  (slot:∀ b o,b≠X.env.locals→b∈X.fs→b∉ch→s.heap.get? b=some o→H b=none→∃ sl,h'.get? b=some { o with slots:=sl }) (free:∀ b o,b∉ch→s.heap.get? b=some o→H b=none→H' b=none)
  (there:∀ b o,b∉ch→s.heap.get? b=some o→∃ o',h'.get? b=some o')
  (tups:∀ b xs,H b=some (.tup xs)→H' b=some (.tup xs)) (frzs:∀ b o u,H b=some (.frz o u)→H' b=some (.frz o u)) (tbls:∀ b ps,H b=some (.tbl ps)→∃ more,H' b=some (.tbl (ps++more)))
  (ns:∀ m,s.heap.Ns X.env.locals m→h'.Ns X.env.locals m) (hok:HOk X.prog X.w H' h') (hg:AllBare g'):
  Inv X pins σ H' { s with heap:=h',gens:=g',drawn:=d',toks:=t' }:=by
 have neL:∀ b o,X.s₀.heap.get? b=some o→b≠X.env.locals:=fun b o e=>Nat.ne_of_lt (Nat.lt_of_lt_of_le (Heap.lt_size e) I.ok.above)
 have neC:∀ b o,X.s₀.heap.get? b=some o→b∉X.ex→b∉ch:=fun b o e hx hb=>by
  rcases (hch b hb).1 with z | z
  · exact hx z
  · exact absurd (Nat.lt_of_lt_of_le (Heap.lt_size e) z) (Nat.lt_irrefl _)
 have cellK:∀ x c,X.env.cells.lookup x=some c→∀ v,s.heap.IsCell c v→h'.IsCell c v:=fun x c e v ⟨o,ho,hd⟩=>by
  have nch:c∉ch:=fun z=>(hch c z).2.2.1 x c e rfl
  by_cases hc:c∈X.fs
  · obtain ⟨sl,q⟩:=slot c o (I.cne x c e) hc nch ho (I.freeC x c e)
    exact ⟨_,q,hd⟩
  · exact ⟨o,keep c o (I.cne x c e) hc nch ho (I.freeC x c e),hd⟩
 refine ⟨I.ok,I.os,hg,⟨fun b o e n hb hx=>?_,fun b o e n hb hx=>?_,fun b o e n hx=>?_,fun b o e hx=>?_,fun b xs e=>tups b xs (I.base.tups b xs e),fun b o xs e=>frzs b o xs (I.base.frzs b o xs e),fun b ps e=>?_⟩,?_,fun x c e=>?_,?_,fun x c e=>?_,fun p hp=>?_,hok,I.len⟩
 · exact keep b o (neL b o e) hb (neC b o e hx) (I.base.keep b o e n hb hx) (I.base.free b o e n hx)
 · obtain ⟨sl,e1⟩:=I.base.slot b o e n hb hx
   obtain ⟨sl',e2⟩:=slot b _ (neL b o e) hb (neC b o e hx) e1 (I.base.free b o e n hx)
   exact ⟨sl',e2⟩
 · obtain ⟨o',e1⟩:=I.base.there b o e hx
   exact free b o' (neC b o e hx) e1 (I.base.free b o e n hx)
 · obtain ⟨o',e1⟩:=I.base.there b o e hx
   exact there b o' (neC b o e hx) e1
 · obtain ⟨m1,e1⟩:=I.base.tbls b ps e
   obtain ⟨m2,e2⟩:=tbls b _ e1
   exact ⟨m1++m2,by rw [e2,Array.append_assoc]⟩
 · obtain ⟨m,hn,hl⟩:=I.loc
   refine ⟨m,ns m hn,fun i x v e1 e2 e3=>?_⟩
   obtain ⟨u,r,l⟩:=hl i x v e1 e2 e3
   refine ⟨u,r,?_⟩
   rcases l with l | ⟨k,c,e,z⟩
   · exact .inl l
   · exact .inr ⟨k,c,e,cellK x c e _ z⟩
 · obtain ⟨v,z⟩:=I.cell x c e
   exact ⟨v,cellK x c e v z⟩
 · obtain ⟨m,⟨o,_,_,ho,_⟩,_⟩:=I.loc
   exact free _ o (fun z=>(hch _ z).2.1 rfl) ho I.free
 · obtain ⟨v,o,ho,hd⟩:=I.cell x c e
   exact free c o (fun z=>(hch c z).2.2.1 x c e rfl) ho (I.freeC x c e)
 · obtain ⟨e,n,ne,nf,d⟩:=I.pin p hp
   have nch:p.1∉ch:=fun z=>(hch p.1 z).2.2.2 p hp rfl
   exact ⟨keep p.1 p.2 ne nf nch e n,free p.1 p.2 nch e n,ne,nf,d⟩
theorem Inv.un {t':Nat} (I:Inv X pins σ H s) (u:Un X.fs [] H H' s.heap h') (hok:HOk X.prog X.w H' h'):Inv X pins σ H' { s with heap:=h',toks:=t' }:=by
 obtain ⟨m,⟨o,es,ep,ho,r⟩,_⟩:=id I.loc
 obtain ⟨sl,hL⟩:=u.any ho I.free (by simp)
 exact I.step (g':=s.gens) (d':=s.drawn) (ch:=[]) (fun _ z=>nomatch z) (fun b o _ hb _ e n=>u.keep b o e n hb (by simp)) (fun b o _ hb _ e n=>u.slot b o e n hb (by simp)) (fun b o _ e n=>u.free b o e n (by simp)) (fun b o _ e=>u.there b o e (by simp)) u.tups u.frzs u.tbls (fun m' hm=>by
  obtain ⟨o',es',ep',ho',r'⟩:=hm
  rw [ho] at ho'; cases ho'
  exact ⟨_,es',ep',hL,r'⟩) hok I.bare
theorem Inv.call {g':Array GenState} {t':Nat} {d':Drawn} {ch:List Addr} (I:Inv X pins σ H s) (u:Un (frs X.stack) ch H H' s.heap h') (hok:HOk X.prog X.w H' h') (hg:AllBare g')
  (hch:∀ b∈ch,(b∈X.ex∨X.s₀.heap.objs.size≤b)∧b≠X.env.locals∧(∀ x c,X.env.cells.lookup x=some c→c≠b)∧∀ p∈X.pn++pins,p.1≠b):
  Inv X pins σ H' { s with heap:=h',gens:=g',drawn:=d',toks:=t' }:=by
 obtain ⟨m,⟨o,es,ep,ho,r⟩,_⟩:=id I.loc
 obtain ⟨sl,hL⟩:=u.any ho I.free fun z=>(hch _ z).2.1 rfl
 exact I.step (ch:=ch) hch (fun b o hL hb hc e n=>u.keep b o e n (fun z=>(List.mem_cons.mp (I.stkSub b z)).elim hL hb) hc) (fun b o _ _ hc e n=>u.any e n hc) (fun b o hc e n=>u.free b o e n hc) (fun b o hc e=>u.there b o e hc) u.tups u.frzs u.tbls (fun m' hm=>by
  obtain ⟨o',es',ep',ho',r'⟩:=hm
  rw [ho] at ho'; cases ho'
  exact ⟨_,es',ep',hL,r'⟩) hok hg
theorem Inv.turned {t':Nat} {it:Addr} (I:Inv X pins σ H s) (k:∀ b o,b≠it→s.heap.get? b=some o→h'.get? b=some o) (hn:H it=none) (hL:it≠X.env.locals)
  (h1:it∈X.ex∨X.s₀.heap.objs.size≤it) (h2:∀ x c,X.env.cells.lookup x=some c→c≠it) (h3:∀ p∈X.pn++pins,p.1≠it):Inv X pins σ H { s with heap:=h',toks:=t' }:=by
 have nit:∀ b u,H b=some u→b≠it:=fun b u e z=>by rw [z,hn] at e; cases e
 refine I.step (g':=s.gens) (d':=s.drawn) (ch:=[it]) (fun b hb=>?_) (fun b o _ _ hc e _=>k b o (fun z=>hc (by simp [z])) e) (fun b o _ _ hc e _=>⟨o.slots,k b o (fun z=>hc (by simp [z])) e⟩) (fun _ _ _ _ n=>n)
  (fun b o hc e=>⟨o,k b o (fun z=>hc (by simp [z])) e⟩) (fun _ _ e=>e) (fun _ _ _ e=>e) (fun b ps e=>⟨#[],by rw [e]; simp⟩) (fun m hm=>?_) (fun b u e=>?_) I.bare
 · have e:b=it:=by simpa using hb
   subst e
   exact ⟨h1,hL,h2,h3⟩
 · obtain ⟨o,es,ep,ho,r⟩:=hm
   exact ⟨o,es,ep,k _ o (Ne.symm hL) ho,r⟩
 · refine (I.hok b u e).stay (fun c v hc q=>k c v ?_ q) (fun _ q=>q) fun _ _ q=>q
   rcases hc with z | z
   · rw [z]; exact nit b u e
   · exact nit c _ z
theorem Inv.tok (I:Inv X pins σ H s) (t:Nat):Inv X pins σ H { s with toks:=t }:=I.un (h':=s.heap) (t':=t) Un.refl I.hok
theorem Inv.kept {t':Nat} (I:Inv X pins σ H s) (k:∀ b u,s.heap.get? b=some u→h'.get? b=some u):Inv X pins σ H { s with heap:=h',toks:=t' }:=I.un (Un.kept k) (I.hok.kept k)
theorem Inv.laid {a:Addr} {o:HO} {t':Nat} (I:Inv X pins σ H s) (k:∀ b u,s.heap.get? b=some u→h'.get? b=some u) (hp:s.heap.objs.size≤a) (new:ObjOk X.prog X.w (upd H a o) h' a o):
  Inv X pins σ (upd H a o) { s with heap:=h',toks:=t' }:=I.un (Un.laid k hp (I.hok.fresh hp)) (I.hok.laid k hp new)
theorem Inv.write {x e:Addr} {o:HO} {t':Nat} (I:Inv X pins σ H s) (mu:Mut (H x)) (he:e=x∨H e=some (.own x)) (k:∀ b u,b≠e→s.heap.get? b=some u→h'.get? b=some u) (heo:∃ u,h'.get? e=some u)
  (new:ObjOk X.prog X.w (upd H x o) h' x o):Inv X pins σ (upd H x o) { s with heap:=h',toks:=t' }:=I.un (Un.write mu he k heo) (I.hok.write mu he k heo new)
theorem Inv.pins_of {pins':List (Addr × Obj)} (I:Inv X pins σ H s) (h:∀ p∈pins',s.heap.get? p.1=some p.2∧H p.1=none∧p.1≠X.env.locals∧p.1∉X.fs∧∀ v,p.2.data≠.cell v):Inv X pins' σ H s:=
 ⟨I.ok,I.os,I.bare,I.base,I.loc,I.cell,I.free,I.freeC,fun p hp=>(List.mem_append.mp hp).elim (fun z=>I.pin p (List.mem_append_left _ z)) (h p),I.hok,I.len⟩
theorem qc {N:List Str} (hN:N.Nodup) {i j:Nat} {x:Str} (a:N[i]? =some x) (b:N[j]? =some x):i=j:=by
 obtain ⟨h1,e1⟩:=List.getElem?_eq_some_iff.mp a
 obtain ⟨h2,e2⟩:=List.getElem?_eq_some_iff.mp b
 exact (List.getElem_inj hN).mp (e1.trans e2.symm)
theorem pf {M:Model} {A:Around} {E:Value→Shared→Prop} {i:Nat} {x:Str} {v:V} {u:Value} {Q:Unit→Shared→Prop} (I:Inv X pins σ H s) (hN:X.N.Nodup) (hi:X.N[i]? =some x) (hx:Loc X.env.scope x) (r:RelV v u)
  (h:∀ s',Inv X pins (σ.set i (some v)) H s'→(∃ a,Heap.SameBut a s.heap s'.heap∧(a=X.env.locals∨X.env.cells.lookup x=some a))→Q () s') (hf:X.fn x=true∨X.env.scope.names.lookup x=some .local:=by first | exact .inl rfl | exact .inr rfl | assumption):wpAny M A (storeName X.env x u) Q E s:=by
 obtain ⟨m,hn,hl⟩:=id I.loc
 have hcls:(X.env.scope.kind==.class||(X.env.scope.kind==.module&&X.env.locals != X.env.globals))=false:=by rw [I.ok.kind]; rfl
 have hiσ:i < σ.length:=by rw [I.len]; exact (List.getElem?_eq_some_iff.mp hi).1
 have cne:=I.cne
 have tracked:∀ {a:Addr} {h':Heap},(∃ o,s.heap.get? a=some o∧H a=none)→Heap.SameBut a s.heap h'→HOk X.prog X.w H h':=fun {a h'} ha hs b ob e=>by
  obtain ⟨_,_,hfree⟩:=ha
  refine (I.hok b ob e).stay (fun c w' hc q=>(hs.2 c ?_).trans q) (fun _ q=>q) fun _ _ q=>q
  rintro rfl
  rcases hc with rfl | hc
  · rw [hfree] at e; cases e
  · rw [hfree] at hc; cases hc
 rcases hx with hk | hk
 · refine wpAny_storeName_local hk hn (fun h' hn' hs=>?_) hcls
   obtain ⟨oL,_,_,hoL,_⟩:=id hn
   refine h _ ⟨I.ok,I.os,I.bare,⟨fun b o e n hb hx=>?_,fun b o e n hb hx=>?_,I.base.free,fun b o e hx=>?_,I.base.tups,I.base.frzs,I.base.tbls⟩,⟨_,hn',fun j y v' e1 e2 e3=>?_⟩,fun y c e=>?_,I.free,I.freeC,fun p hp=>?_,tracked ⟨oL,hoL,I.free⟩ hs,by simpa using I.len⟩ ⟨_,hs,.inl rfl⟩
   · exact (hs.2 b (Nat.ne_of_lt (Nat.lt_of_lt_of_le (Heap.lt_size e) I.ok.above))).trans (I.base.keep b o e n hb hx)
   · obtain ⟨sl,e1⟩:=I.base.slot b o e n hb hx
     exact ⟨sl,(hs.2 b (Nat.ne_of_lt (Nat.lt_of_lt_of_le (Heap.lt_size e) I.ok.above))).trans e1⟩
   · obtain ⟨o',e1⟩:=I.base.there b o e hx
     exact ⟨o',(hs.2 b (Nat.ne_of_lt (Nat.lt_of_lt_of_le (Heap.lt_size e) I.ok.above))).trans e1⟩
   · by_cases hj:j=i
     · subst hj
       rw [hi] at e1; cases e1
       rw [List.getElem?_set_self hiσ] at e2
       cases e2
       exact ⟨u,r,.inl ⟨hk,by simp⟩⟩
     · rw [List.getElem?_set_ne (Ne.symm hj)] at e2
       obtain ⟨u',r',q⟩:=hl j y v' e1 e2 e3
       refine ⟨u',r',?_⟩
       rcases q with ⟨k,e⟩ | ⟨k,c,e,z⟩
       · refine .inl ⟨k,?_⟩
         have:y≠x:=fun e=>hj (qc hN e1 (e ▸ hi))
         simp [this,e]
       · exact .inr ⟨k,c,e,z.sameBut hs (cne y c e)⟩
   · obtain ⟨w',z⟩:=I.cell y c e
     exact ⟨w',z.sameBut hs (cne y c e)⟩
   · obtain ⟨e,n,ne,nf,d⟩:=I.pin p hp
     exact ⟨(hs.2 p.1 ne).trans e,n,ne,nf,d⟩
 · have hfn:X.fn x=true:=by
    rcases hf with z | z
    · exact z
    · rw [z] at hk; cases hk
   obtain ⟨c,hc⟩:=I.ok.has x (.inl hk)
   obtain ⟨w',z⟩:=I.cell x c hc
   refine wpAny_storeName_cell I.ok.kind hk hc z (fun h' hc' hs=>?_)
   obtain ⟨oc,hoc,hocd⟩:=id z
   refine h { s with heap:=h' } ⟨I.ok,I.os,I.bare,⟨fun b o e n hb hx=>?_,fun b o e n hb hx=>?_,I.base.free,fun b o e hx=>?_,I.base.tups,I.base.frzs,I.base.tbls⟩,⟨m,hn.sameBut hs (Ne.symm (cne x c hc)),fun j y v' e1 e2 e3=>?_⟩,fun y c' e=>?_,I.free,I.freeC,fun p hp=>?_,tracked ⟨oc,hoc,I.freeC x c hc⟩ hs,by simpa using I.len⟩ ⟨c,hs,.inr hc⟩
   · exact (hs.2 b (Nat.ne_of_lt (Nat.lt_of_lt_of_le (Heap.lt_size e) (I.ok.cab x c hfn hc)))).trans (I.base.keep b o e n hb hx)
   · obtain ⟨sl,e1⟩:=I.base.slot b o e n hb hx
     exact ⟨sl,(hs.2 b (Nat.ne_of_lt (Nat.lt_of_lt_of_le (Heap.lt_size e) (I.ok.cab x c hfn hc)))).trans e1⟩
   · obtain ⟨o',e1⟩:=I.base.there b o e hx
     exact ⟨o',(hs.2 b (Nat.ne_of_lt (Nat.lt_of_lt_of_le (Heap.lt_size e) (I.ok.cab x c hfn hc)))).trans e1⟩
   · by_cases hj:j=i
     · subst hj
       rw [hi] at e1; cases e1
       rw [List.getElem?_set_self hiσ] at e2
       cases e2
       exact ⟨u,r,.inr ⟨.inl hk,c,hc,hc'⟩⟩
     · rw [List.getElem?_set_ne (Ne.symm hj)] at e2
       obtain ⟨u',r',q⟩:=hl j y v' e1 e2 e3
       refine ⟨u',r',?_⟩
       rcases q with q | ⟨k,c',e,z'⟩
       · exact .inl q
       · refine .inr ⟨k,c',e,z'.sameBut hs ?_⟩
         rintro rfl
         exact hj (qc hN e1 (I.ok.inj _ _ _ e hc ▸ hi))
   · by_cases hcc:c'=c
     · subst hcc; exact ⟨_,hc'⟩
     · obtain ⟨w2,z2⟩:=I.cell y c' e
       exact ⟨w2,z2.sameBut hs hcc⟩
   · obtain ⟨e,n,ne,nf,d⟩:=I.pin p hp
     refine ⟨(hs.2 p.1 ?_).trans e,n,ne,nf,d⟩
     intro q
     rw [q,hoc] at e
     have q':oc=p.2:=Option.some.inj e
     exact d w' (by rw [← q']; exact hocd)
theorem qd {M:Model} {A:Around} {E:Value→Shared→Prop} {i:Nat} {x:Str} {v:V} {u:Value} {Q:Unit→Shared→Prop} (I:Inv X pins σ H s) (hN:X.N.Nodup) (hi:X.N[i]? =some x) (hx:Loc X.env.scope x) (r:RelV v u)
  (h:∀ s',Inv X pins (σ.set i (some v)) H s'→Q () s') (hf:X.fn x=true∨X.env.scope.names.lookup x=some .local:=by first | exact .inl rfl | exact .inr rfl | assumption):wpAny M A (storeName X.env x u) Q E s:=
 pf I hN hi hx r (fun s' I' _=>h s' I') hf
theorem Inv.call' {s':Shared} {ch:List Addr} (I:Inv X pins σ H s) (ho:s'.os=s.os) (u:Un (frs X.stack) ch H H' s.heap s'.heap) (hok:HOk X.prog X.w H' s'.heap) (hg:AllBare s'.gens)
  (hch:∀ b∈ch,(b∈X.ex∨X.s₀.heap.objs.size≤b)∧b≠X.env.locals∧(∀ x c,X.env.cells.lookup x=some c→c≠b)∧∀ p∈X.pn++pins,p.1≠b):Inv X pins σ H' s':=by
 obtain ⟨h',g',d',t',o'⟩:=s'
 have e:o'=s.os:=ho
 subst e
 exact I.call (g':=g') (t':=t') (d':=d') u hok hg hch
end
abbrev XK:=Value→Option Addr→Hp→Prop
abbrev St:=List (Option V)
abbrev VK:=V→Hp→Prop
abbrev TE:=St→Hp→VK→Prop
abbrev TT:=St→Hp→(Bool→Hp→Prop)→Prop
abbrev TA:=St→Hp→(List V→Hp→Prop)→Prop
structure Ends where
 nx:St→Hp→Prop
 rt:VK
 bk:St→Hp→Prop:=fun _ _=>False
 ct:St→Hp→Prop:=fun _ _=>False
abbrev TS:=Ends→St→Hp→Prop
def EP (X:Cx) (pins:List (Addr × Obj)) (σ:St) (Q:VK) (u:Value) (s':Shared):Prop:=∃ v H',Inv X pins σ H' s'∧RelV v u∧Q v H'
def TP (X:Cx) (pins:List (Addr × Obj)) (σ:St) (Q:Bool→Hp→Prop) (b:Bool) (s':Shared):Prop:=∃ H',Inv X pins σ H' s'∧Q b H'
def AP (X:Cx) (pins:List (Addr × Obj)) (σ:St) (Q:List V→Hp→Prop) (us:List Value) (s':Shared):Prop:=∃ vs H',Inv X pins σ H' s'∧Vals vs us∧Q vs H'
def SP (X:Cx) (pins:List (Addr × Obj)) (D:Ends) (f:Flow) (s':Shared):Prop:=
 match f with
 | .next=>∃ σ' H',Inv X pins σ' H' s'∧D.nx σ' H'
 | .brk=>∃ σ' H',Inv X pins σ' H' s'∧D.bk σ' H'
 | .cont=>∃ σ' H',Inv X pins σ' H' s'∧D.ct σ' H'
 | .ret u=>∃ v σ' H',Inv X pins σ' H' s'∧RelV v u∧D.rt v H'
def PE (X:Cx) (e:Expr) (t:TE):Prop:=
 ∀ (pins:List (Addr × Obj)) (s:Shared) (σ:St) (H:Hp) (Q:VK),Inv X pins σ H s→t σ H Q→wpAny (model X.prog X.w) X.A (eval e X.env) (EP X pins σ Q) X.xe s
def PT (X:Cx) (e:Expr) (t:TT):Prop:=
 ∀ (pins:List (Addr × Obj)) (s:Shared) (σ:St) (H:Hp) (Q:Bool→Hp→Prop),Inv X pins σ H s→t σ H Q→wpAny (model X.prog X.w) X.A (isTrue e X.env (eval e X.env)) (TP X pins σ Q) X.xe s
def PW (X:Cx) (e:Expr) (t:TT):Prop:=
 ∀ (whole:Sem Value) (pins:List (Addr × Obj)) (s:Shared) (σ:St) (H:Hp) (Q:Bool→Hp→Prop),Inv X pins σ H s→t σ H Q→wpAny (model X.prog X.w) X.A (isTrue e X.env whole) (TP X pins σ Q) X.xe s
theorem PW.pt {X:Cx} {e:Expr} {t:TT} (h:PW X e t):PT X e t:=h _
def PA (X:Cx) (es:List Expr) (t:TA):Prop:=
 ∀ (pos:Pos) (pins:List (Addr × Obj)) (s:Shared) (σ:St) (H:Hp) (Q:List V→Hp→Prop),Inv X pins σ H s→t σ H Q→wpAny (model X.prog X.w) X.A (spliced (backTo pos (starEach es X.env))) (AP X pins σ Q) X.xe s
def PS (X:Cx) (st:Stmt) (t:TS):Prop:=
 ∀ (pins:List (Addr × Obj)) (s:Shared) (σ:St) (H:Hp) (D:Ends),Inv X pins σ H s→t D σ H→wpAny (model X.prog X.w) X.A (exec st X.env) (SP X pins D) X.xe s
def PSs (X:Cx) (st:List Stmt) (t:TS):Prop:=
 ∀ (pins:List (Addr × Obj)) (s:Shared) (σ:St) (H:Hp) (D:Ends),Inv X pins σ H s→t D σ H→wpAny (model X.prog X.w) X.A (execs st X.env) (SP X pins D) X.xe s
theorem thn {α:Type} {t:Sem α} {Q Q':α→Shared→Prop} {M:Model} {A:Around} {E:Value→Shared→Prop} {s:Shared} (h:wpAny M A t Q E s) (hQ:∀ a s,Q a s→Q' a s):wpAny M A t Q' E s:=wpAny_mono h hQ fun _ _ x=>x
end L2
namespace L2
open PySem PySem.Spec PyProof.Rows
section
variable {X:Cx}
def tVar (i:Nat):TE:=fun σ H Q=>∃ v,σ[i]? =some (some v)∧Q v H
def tC (v:V):TE:=fun _ H Q=>Q v H
theorem xv {i:Nat} {x:Str} {pos:Pos} (hN:X.N[i]? =some x) (hv:Vis X.env.scope x) (hd:(x==("__debug__":Str))=false:=by decide) (hcd:(x==("__classdict__":Str))=false:=by decide):PE X (.Name x pos) (tVar i):=by
 intro pins s σ H Q I h
 obtain ⟨v,e,h⟩:=h
 obtain ⟨m,hn,hl⟩:=I.loc
 obtain ⟨u,r,l⟩:=hl i x v hN e hv
 have fin:EP X pins σ Q u s:=⟨v,H,I,r,h⟩
 rcases l with ⟨hk,hm⟩ | ⟨hk,c,hc,hcell⟩
 · exact wpAny_Name (wpAny_loadName_local I.ok.kind hk hn hm fin) hd
 · rcases hk with hk | hk
   · exact wpAny_Name (wpAny_loadName_cell I.ok.kind hk hc hcell fin) hd
   · exact wpAny_Name (wpAny_loadName_free I.ok.kind hk hc hcell fin hcd) hd
theorem ac {i j pos}:PE X (.Constant (.int i) j pos) (tC (.int i)):=fun _ _ _ H _ I h=>wpAny_Constant_int ⟨.int i,H,I.tok _,⟨_,rfl⟩,h⟩
theorem eP {b j pos}:PE X (.Constant (.bool b) j pos) (tC (.bl b)):=fun _ _ _ H _ I h=>Constant_bool ⟨.bl b,H,I,rfl,h⟩
theorem qe {j pos}:PE X (.Constant .none j pos) (tC .non):=fun _ _ _ H _ I h=>Constant_none ⟨.non,H,I,rfl,h⟩
theorem aT {x j pos}:PE X (.Constant (.str x) j pos) (tC (.str x)):=fun _ _ _ H _ I h=>Calls.Constant_str ⟨.str x,H,I.tok _,⟨_,rfl⟩,h⟩
def Gl (X:Cx) (x:Str):Prop:=X.env.kindOf x=some .globalImplicit
theorem oR {E:Value→Shared→Prop} {pins:List (Addr × Obj)} {s:Shared} {σ:St} {H:Hp} {x:Str} {u:Value} {pos:Pos} {Q:Value→Shared→Prop} (I:Inv X pins σ H s) (hg:Gl X x) (hm:X.mg x=some u) (h:Q u s)
  (hd:(x==("__debug__":Str))=false:=by decide):wpAny (model X.prog X.w) X.A (eval (.Name x pos) X.env) Q E s:=
 Calls.Name_function_global I.ok.kind hg (Calls.loadGlobal_global (by rw [I.ok.glob]; exact I.mod.glob.keeps I.bk) hm h) hd
theorem eE {E:Value→Shared→Prop} {pins:List (Addr × Obj)} {s:Shared} {σ:St} {H:Hp} {x:Str} {u:Value} {pos:Pos} {Q:Value→Shared→Prop} (I:Inv X pins σ H s) (hg:Gl X x) (hm:X.mg x=none) (hv:bootBuiltins x=some u) (h:Q u s)
  (hn:x≠"__name__":=by decide) (hd:(x==("__debug__":Str))=false:=by decide):wpAny (model X.prog X.w) X.A (eval (.Name x pos) X.env) Q E s:=by
 obtain ⟨mb,h1,h2⟩:=I.mod.blt
 exact Calls.Name_function_global I.ok.kind hg (Calls.loadGlobal_builtin (by rw [I.ok.glob]; exact I.mod.glob.keeps I.bk) hm (by rw [I.ok.blt]; exact h1.keeps I.bk) ((h2 x hn).trans hv) h) hd
theorem cI {x:Str} {v:V} {u:Value} {pos:Pos} (hg:Gl X x) (hm:X.mg x=some u) (r:RelV v u) (hd:(x==("__debug__":Str))=false:=by decide):PE X (.Name x pos) (tC v):=
 fun _ _ _ H _ I h=>oR I hg hm ⟨v,H,I,r,h⟩ hd
theorem gy {x:Str} {v:V} {u:Value} {pos:Pos} (hg:Gl X x) (hm:X.mg x=none) (hv:bootBuiltins x=some u) (r:RelV v u) (hn:x≠"__name__":=by decide) (hd:(x==("__debug__":Str))=false:=by decide):PE X (.Name x pos) (tC v):=
 fun _ _ _ H _ I h=>eE I hg hm hv ⟨v,H,I,r,h⟩ hn hd
variable {a b:Expr} {ta tb:TE} {pos:Pos}
def tB (t:TE):TT:=fun σ H Q=>t σ H fun x H1=>∃ c,x=.bl c∧Q c H1
theorem a9 {e:Expr} {t:TE} (h:PE X e t) (he:∀ whole,isTrue e X.env whole=(do let v ← whole; standAt e.pos; holding [v] (truthy v)):=by intro _; rfl):PT X e (tB t):=by
 intro pins s σ H Q I hw
 refine isTrue_plain (thn (h pins s σ H _ I hw) fun v s1 ⟨x,H1,I1,r1,q1⟩=>?_) (he _)
 obtain ⟨d,rfl,q⟩:=q1
 cases r1
 exact wpAny_truthy_bool ⟨H1,I1,q⟩
variable {tA tB':TT} {rest:List Expr}
def tAnd (t u:TT):TT:=fun σ H Q=>t σ H fun c H1=>if c=true then u σ H1 Q else Q false H1
def tOr (t u:TT):TT:=fun σ H Q=>t σ H fun c H1=>if c=true then Q true H1 else u σ H1 Q
def tNot (t:TT):TT:=fun σ H Q=>t σ H fun c H1=>Q (!c) H1
theorem gz (ha:PT X a tA):PW X (.BoolOp .And [a] pos) tA:=by
 intro wh pins s σ H Q I h
 refine isTrue_and (thn (ha pins s σ H Q I h) fun c s1 e=>?_)
 cases c with
 | true=>exact isTrue_and_nil e
 | false=>exact e
theorem cJ (ha:PT X a tA):PW X (.BoolOp .Or [a] pos) tA:=by
 intro wh pins s σ H Q I h
 refine isTrue_or (thn (ha pins s σ H Q I h) fun c s1 e=>?_)
 cases c with
 | false=>exact isTrue_or_nil e
 | true=>exact e
theorem jf (ha:PT X a tA) (hb:PW X (.BoolOp .And (b::rest) pos) tB'):PW X (.BoolOp .And (a::b::rest) pos) (tAnd tA tB'):=by
 intro wh pins s σ H Q I h
 refine isTrue_and (thn (ha pins s σ H _ I h) fun c s1 ⟨H1,I1,q1⟩=>?_)
 cases c with
 | true=>exact hb wh pins s1 σ H1 Q I1 q1
 | false=>exact ⟨H1,I1,q1⟩
theorem cq (ha:PT X a tA) (hb:PW X (.BoolOp .Or (b::rest) pos) tB'):PW X (.BoolOp .Or (a::b::rest) pos) (tOr tA tB'):=by
 intro wh pins s σ H Q I h
 refine isTrue_or (thn (ha pins s σ H _ I h) fun c s1 ⟨H1,I1,q1⟩=>?_)
 cases c with
 | true=>exact ⟨H1,I1,q1⟩
 | false=>exact hb wh pins s1 σ H1 Q I1 q1
theorem bU (ha:PT X a tA):PT X (.UnaryOp .Not a pos) (tNot tA):=by
 intro pins s σ H Q I h
 exact isTrue_not (ha pins s σ H (fun c H1=>Q (!c) H1) I h)
def tAndV (ta tb:TE):TE:=fun σ H Q=>ta σ H fun x H1=>∃ c,x=.bl c∧if c=true then tb σ H1 Q else Q (.bl false) H1
def tOrV (ta tb:TE):TE:=fun σ H Q=>ta σ H fun x H1=>∃ c,x=.bl c∧if c=true then Q (.bl true) H1 else tb σ H1 Q
def tNotV (ta:TE):TE:=fun σ H Q=>ta σ H fun x H1=>∃ c,x=.bl c∧Q (.bl (!c)) H1
theorem bV {op} {t:TE} (h:PE X a t):PE X (.BoolOp op [a] pos) t:=fun pins s σ H Q I hw=>BoolOp_one (h pins s σ H Q I hw)
theorem bx (ha:PE X a ta) (hb:PE X (.BoolOp .And (b::rest) pos) tb):PE X (.BoolOp .And (a::b::rest) pos) (tAndV ta tb):=by
 intro pins s σ H Q I h
 refine BoolOp_and (thn (ha pins s σ H _ I h) fun v s1 ⟨x,H1,I1,r1,q1⟩=>?_)
 obtain ⟨c,rfl,q1⟩:=q1
 cases r1
 refine wpAny_truthy_bool ?_
 cases c with
 | true=>exact hb pins s1 σ H1 Q I1 q1
 | false=>exact ⟨.bl false,H1,I1,rfl,q1⟩
theorem sJ (ha:PE X a ta) (hb:PE X (.BoolOp .Or (b::rest) pos) tb):PE X (.BoolOp .Or (a::b::rest) pos) (tOrV ta tb):=by
 intro pins s σ H Q I h
 refine BoolOp_or (thn (ha pins s σ H _ I h) fun v s1 ⟨x,H1,I1,r1,q1⟩=>?_)
 obtain ⟨c,rfl,q1⟩:=q1
 cases r1
 refine wpAny_truthy_bool ?_
 cases c with
 | false=>exact hb pins s1 σ H1 Q I1 q1
 | true=>exact ⟨.bl true,H1,I1,rfl,q1⟩
theorem uk (ha:PE X a ta):PE X (.UnaryOp .Not a pos) (tNotV ta):=by
 intro pins s σ H Q I h
 refine UnaryOp_ (thn (ha pins s σ H _ I h) fun v s1 ⟨x,H1,I1,r1,q1⟩=>?_)
 obtain ⟨c,rfl,q1⟩:=q1
 cases r1
 exact not_of (wpAny_truthy_bool ⟨.bl (!c),H1,I1,rfl,q1⟩)
def tIf (t:TT) (ta tb:TE):TE:=fun σ H Q=>t σ H fun c H1=>if c=true then ta σ H1 Q else tb σ H1 Q
theorem vK {c:Expr} (hc:PT X c tA) (ha:PE X a ta) (hb:PE X b tb):PE X (.IfExp c a b pos) (tIf tA ta tb):=by
 intro pins s σ H Q I h
 refine wpAny_IfExp (thn (hc pins s σ H _ I h) fun d s1 ⟨H1,I1,q1⟩=>?_)
 cases d with
 | true=>exact ha pins s1 σ H1 Q I1 q1
 | false=>exact hb pins s1 σ H1 Q I1 q1
end
end L2
namespace L2
open PySem PySem.Spec PyProof.Rows
def SqL (K:PySem.W.Frag) (H:Hp) (a:Addr) (xs:List V):Prop:=
 Rd H a (.lst xs)∨
  ∃ (o:Obj) (its:Array Value) (n:Nat),K.lookup a=some o∧o.cls=.type "list"∧o.dict=none∧o.data=.seq its n∧its.size≤sizeLine∧Vals xs its.toList
def SqT (K:PySem.W.Frag) (H:Hp) (a:Addr) (xs:List V):Prop:=
 Rd H a (.tup xs)∨
  ∃ (o:Obj) (its:Array Value) (n:Nat),K.lookup a=some o∧o.cls=.type "tuple"∧o.data=.seq its n∧its.size≤sizeLine∧Vals xs its.toList
def absV:Value→Option V
 | .none=>some .non
 | .bool b=>some (.bl b)
 | .int i _=>some (.int i)
 | .str x _=>some (.str x)
 | .bytes b _=>some (.byt b)
 | .float b _=>some (.flt b)
 | .ref a=>some (.ref a)
 | .type n=>some (.ty n)
 | _=>none
theorem RelV.abs {x:V} {u:Value} (r:RelV x u):absV u=some x:=by
 cases x with
 | non=>cases r; rfl
 | bl _=>cases r; rfl
 | int _=>obtain ⟨t,rfl⟩:=r; rfl
 | str _=>obtain ⟨t,rfl⟩:=r; rfl
 | byt _=>obtain ⟨t,rfl⟩:=r; rfl
 | flt _=>obtain ⟨t,rfl⟩:=r; rfl
 | ref _=>cases r; rfl
 | ty _=>cases r; rfl
theorem RelV.inj {x y:V} {u:Value} (r:RelV x u) (q:RelV y u):x=y:=Option.some.inj (r.abs.symm.trans q.abs)
theorem Vals.inj:∀ {xs ys:List V} {us:List Value},Vals xs us→Vals ys us→xs=ys
 | _,_,_,.nil,.nil=>rfl
 | _,_,_,.cons r t,.cons r' t'=>by rw [r.inj r',Vals.inj t t']
section
variable {X:Cx} {pins:List (Addr × Obj)} {σ:St} {H:Hp} {s:Shared} {a:Addr} {xs ys:List V}
theorem SqL.of {K:PySem.W.Frag} (h:H a=some (.lst xs)):SqL K H a xs:=.inl (.inl h)
theorem SqT.of {K:PySem.W.Frag} (h:H a=some (.tup xs)):SqT K H a xs:=.inl (.inl h)
theorem Inv.list (I:Inv X pins σ H s) (h:SqL X.K H a xs):∃ its:List Value,Vals xs its∧PlainL s.heap a its.toArray∧xs.length≤sizeLine:=by
 rcases h with h | ⟨o,its,n,hk,hc,hd,hs,hz,r⟩
 · obtain ⟨z,its,n,r,e⟩:=h.ok I.hok
   exact ⟨its,r,⟨_,n,e,rfl,rfl,rfl⟩,z⟩
 · refine ⟨its.toList,r,⟨o,n,I.kIn a o hk,hc,hd,by simpa using hs⟩,?_⟩
   have e:=r.length
   simp only [Array.length_toList] at e
   omega
theorem Inv.tuple (I:Inv X pins σ H s) (h:SqT X.K H a xs):∃ its:List Value,Vals xs its∧IsTup s.heap a its.toArray∧xs.length≤sizeLine:=by
 rcases h with h | ⟨o,its,n,hk,hc,hs,hz,r⟩
 · obtain ⟨z,its,r,p⟩:=h.ok I.hok
   exact ⟨its,r,p,z⟩
 · refine ⟨its.toList,r,⟨o,I.kIn a o hk,hc,n,by simpa using hs⟩,?_⟩
   have e:=r.length
   simp only [Array.length_toList] at e
   omega
theorem Inv.list_inj (I:Inv X pins σ H s) (h:SqL X.K H a xs) (h':SqL X.K H a ys):xs=ys:=by
 obtain ⟨its,r,⟨o,n,e,_,_,d⟩,_⟩:=I.list h
 obtain ⟨its',r',⟨o',n',e',_,_,d'⟩,_⟩:=I.list h'
 rw [e] at e'; cases e'
 rw [d] at d'
 injection d' with d1 _
 have:its=its':=by simpa using congrArg Array.toList d1
 subst this
 exact r.inj r'
end
abbrev Cx.wish (X:Cx) (E:Value→Shared→Prop):Cx:={ X with xe:=E }
abbrev Cx.nox (X:Cx):Cx:=X.wish fun _ _=>False
theorem Cx.Ok.wish {X:Cx} (ok:X.Ok) (E:Value→Shared→Prop):(X.wish E).Ok:=
 ⟨ok.mod,ok.kind,ok.glob,ok.blt,ok.above,ok.inj,ok.has,ok.cab,ok.hd,ok.frames,ok.stk,ok.exf,ok.bs,ok.bsz,ok.noex,ok.exfs,ok.funs,ok.frf⟩
theorem Cx.Ok.unwish {X:Cx} {E:Value→Shared→Prop} (ok:(X.wish E).Ok):X.Ok:=
 ⟨ok.mod,ok.kind,ok.glob,ok.blt,ok.above,ok.inj,ok.has,ok.cab,ok.hd,ok.frames,ok.stk,ok.exf,ok.bs,ok.bsz,ok.noex,ok.exfs,ok.funs,ok.frf⟩
section
variable {X:Cx} {pins:List (Addr × Obj)} {σ:St} {H:Hp} {s:Shared} {E:Value→Shared→Prop}
theorem Inv.wish (I:Inv X pins σ H s) (E:Value→Shared→Prop):Inv (X.wish E) pins σ H s:=⟨I.ok.wish E,I.os,I.bare,I.base,I.loc,I.cell,I.free,I.freeC,I.pin,I.hok,I.len⟩
theorem Inv.unwish (I:Inv (X.wish E) pins σ H s):Inv X pins σ H s:=⟨I.ok.unwish,I.os,I.bare,I.base,I.loc,I.cell,I.free,I.freeC,I.pin,I.hok,I.len⟩
theorem SP.unwish {D:Ends} {f:Flow} {s':Shared} (h:SP (X.wish E) pins D f s'):SP X pins D f s':=by
 cases f with
 | next=>obtain ⟨σ',H',I,q⟩:=h; exact ⟨σ',H',I.unwish,q⟩
 | brk=>obtain ⟨σ',H',I,q⟩:=h; exact ⟨σ',H',I.unwish,q⟩
 | cont=>obtain ⟨σ',H',I,q⟩:=h; exact ⟨σ',H',I.unwish,q⟩
 | ret u=>obtain ⟨v,σ',H',I,r,q⟩:=h; exact ⟨v,σ',H',I.unwish,r,q⟩
theorem PSs.nox {st:List Stmt} {t:TS} (h:PSs X.nox st t):PSs X st t:=fun pins s σ H D I hw=>
 wpAny_mono (h pins s σ H D (I.wish _) hw) (fun _ _ q=>q.unwish) fun _ _ z=>False.elim z
end
section
variable {X:Cx} {st:Stmt} {rest:List Stmt} {t u:TS} {e:Expr} {te:TE} {pos:Pos}
def tNext:TS:=fun D σ H=>D.nx σ H
def tSeq (t u:TS):TS:=fun D σ H=>t { D with nx:=u D } σ H
theorem au:PSs X [] tNext:=fun _ _ σ H _ I h=>wpAny_execs_nil ⟨σ,H,I,h⟩
theorem ae (h1:PS X st t) (h2:PSs X rest u):PSs X (st::rest) (tSeq t u):=by
 intro pins s σ H D I h
 refine wpAny_execs_cons (thn (h1 pins s σ H { D with nx:=u D } I h) fun f s1 q=>?_)
 cases f with
 | next=>
  obtain ⟨σ',H',I',q⟩:=q
  exact h2 pins s1 σ' H' D I' q
 | ret v=>exact q
 | brk=>exact q
 | cont=>exact q
theorem af (h1:PS X st t):PSs X [st] t:=by
 intro pins s σ H D I h
 refine wpAny_execs_cons (thn (h1 pins s σ H D I h) fun f s1 q=>?_)
 cases f with
 | next=>exact wpAny_execs_nil q
 | ret v=>exact q
 | brk=>exact q
 | cont=>exact q
theorem Inv.quiet {pins:List (Addr × Obj)} {σ:St} {H:Hp} {s:Shared} (I:Inv X pins σ H s):interactive X.env=false:=by simp [interactive,I.ok.kind]
def tDrop (te:TE):TS:=fun D σ H=>te σ H fun _ H1=>D.nx σ H1
theorem d5 (he:PE X e te) (hs:swapsWith e none pos.line X.env=pure false:=by rfl):PS X (.Expr e pos) (tDrop te):=by
 intro pins s σ H D I h
 exact wpAny_Expr_any (thn (he pins s σ H _ I h) fun v s1 ⟨x,H1,I1,r1,q1⟩=>⟨σ,H1,I1,q1⟩) I.quiet hs
def tRet (te:TE):TS:=fun D σ H=>te σ H D.rt
theorem am (he:PE X e te):PS X (.Return (some e) pos) (tRet te):=by
 intro pins s σ H D I h
 exact wpAny_Return_some (thn (he pins s σ H _ I h) fun v s1 ⟨x,H1,I1,r1,q1⟩=>⟨x,σ,H1,I1,r1,q1⟩)
def tRetN:TS:=fun D _ H=>D.rt .non H
def tIfS (c:TT) (t u:TS):TS:=fun D σ H=>c σ H fun b H1=>if b=true then t D σ H1 else u D σ H1
theorem aB {c:Expr} {a b:List Stmt} {tc:TT} (hc:PT X c tc) (ha:PSs X a t) (hb:PSs X b u):PS X (.If c a b pos) (tIfS tc t u):=by
 intro pins s σ H D I h
 refine wpAny_If (thn (hc pins s σ H _ I h) fun d s1 ⟨H1,I1,q1⟩=>?_)
 cases d with
 | true=>exact ha pins s1 σ H1 D I1 q1
 | false=>exact hb pins s1 σ H1 D I1 q1
def ce:TS:=fun _ _ _=>False
theorem bo:PS X st ce:=fun _ _ _ _ _ _ h=>h.elim
end
abbrev TG:=V→St→Hp→(St→Hp→Prop)→Prop
abbrev TGs:=List V→St→Hp→(St→Hp→Prop)→Prop
def PG (X:Cx) (target:Expr) (t:TG):Prop:=
 ∀ (pins:List (Addr × Obj)) (s:Shared) (σ:St) (H:Hp) (v:V) (u:Value) (Q:St→Hp→Prop),Inv X pins σ H s→RelV v u→t v σ H Q→
  wpAny (model X.prog X.w) X.A (assign target X.env u) (fun _ s'=>∃ σ' H',Inv X pins σ' H' s'∧Q σ' H') X.xe s
def PGs (X:Cx) (ts:List Expr) (t:TGs):Prop:=
 ∀ (pins:List (Addr × Obj)) (s:Shared) (σ:St) (H:Hp) (vs:List V) (us:List Value) (Q:St→Hp→Prop),Inv X pins σ H s→Vals vs us→t vs σ H Q→
  wpAny (model X.prog X.w) X.A (assignInOrder ((assignEach ts X.env).map (·.2)) us) (fun _ s'=>∃ σ' H',Inv X pins σ' H' s'∧Q σ' H') X.xe s
abbrev TSet:=V→V→V→Hp→(Hp→Prop)→Prop
def PSet (X:Cx) (t:TSet):Prop:=
 ∀ (pins:List (Addr × Obj)) (s:Shared) (σ:St) (H:Hp) (o i v:V) (ov iv u:Value) (Q:Hp→Prop),Inv X pins σ H s→RelV o ov→RelV i iv→RelV v u→t o i v H Q→
  wpAny (model X.prog X.w) X.A (setItem ov iv u) (fun _ s'=>∃ H',Inv X pins σ H' s'∧Q H') X.xe s
section
variable {X:Cx} {pos:Pos}
def gName (i:Nat):TG:=fun v σ H Q=>Q (σ.set i (some v)) H
theorem aE {i:Nat} {x:Str} (hN:X.N.Nodup) (hi:X.N[i]? =some x) (hx:Loc X.env.scope x) (hf:X.fn x=true∨X.env.scope.names.lookup x=some .local:=by first | exact .inl rfl | exact .inr rfl | assumption):PG X (.Name x pos) (gName i):=by
 intro pins s σ H v u Q I r h
 exact wpAny_assign_Name (qd I hN hi hx r (fun s' I'=>⟨_,H,I',h⟩) hf)
def gNil:TGs:=fun vs σ H Q=>vs=[]∧Q σ H
def gCons (t:TG) (u:TGs):TGs:=fun vs σ H Q=>∃ v r,vs=v::r∧t v σ H fun σ' H'=>u r σ' H' Q
theorem jZ:PGs X [] gNil:=by
 intro pins s σ H vs us Q I r h
 obtain ⟨e,h⟩:=h
 subst e
 cases r
 exact assignInOrder_nil ⟨σ,H,I,h⟩
theorem cy {e:Expr} {es:List Expr} {t:TG} {u:TGs} (h1:PG X e t) (h2:PGs X es u)
  (hs:(assignEach (e::es) X.env).map (·.2)=assign e X.env::(assignEach es X.env).map (·.2):=by rfl):PGs X (e::es) (gCons t u):=by
 intro pins s σ H vs us Q I r h
 obtain ⟨v,vr,e1,h⟩:=h
 subst e1
 cases r with
 | cons r rr=>
  rw [hs]
  refine assignInOrder_cons (thn (h1 pins s σ H _ _ _ I r h) fun _ s1 ⟨σ1,H1,I1,q1⟩=>?_)
  exact h2 pins s1 σ1 H1 _ _ Q I1 rr q1
def gTup (K:PySem.W.Frag) (n:Nat) (t:TGs):TG:=fun v σ H Q=>∃ a xs,v=.ref a∧SqT K H a xs∧xs.length=n∧t xs σ H Q
theorem kT {es:List Expr} {k:Nat} {t:TGs} {n:Nat} (hc:X.calm=true) (h:PGs X es t)
  (hn:(assignEach es X.env).length=n:=by rfl) (hst:(assignEach es X.env).findIdx? (·.1)=none:=by rfl):PG X (.Tuple es k pos) (gTup X.K n t):=by
 intro pins s σ H v u Q I r hw
 obtain ⟨a,xs,e1,hq,hl,hw⟩:=hw
 subst e1
 cases r
 obtain ⟨its,rv,ht,hz⟩:=I.tuple hq
 refine assign_Tuple_tuple (I.ok.hd hc) ht (by simp [hn,← hl,rv.length]) hst fun h' hx=>?_
 have I1:Inv X pins σ H { s with heap:=h' }:=I.kept (t':=s.toks) fun b o e=>hx b o (Nat.ne_of_lt (Heap.lt_size e)) e
 exact h pins _ σ H xs _ Q I1 (by simpa using rv) hw
def gSub (to ti:TE) (t:TSet):TG:=fun v σ H Q=>to σ H fun o H1=>ti σ H1 fun i H2=>t o i v H2 fun H3=>Q σ H3
theorem j2 {o i:Expr} {to ti:TE} {t:TSet} (ho:PE X o to) (hi:PE X i ti) (hs:PSet X t)
  (ha:∀ v,assign (.Subscript o i pos) X.env v=(do
   let ov ← holding [v] (eval o X.env)
   let iv ← holding [v,ov] (eval i X.env)
   standAt pos
   holding [v,ov,iv] (setItem ov iv v)
   release [v,ov,iv] []):=by intro _; rfl):PG X (.Subscript o i pos) (gSub to ti t):=by
 intro pins s σ H v u Q I r h
 rw [ha]
 refine wpAny_bind (wpAny_holding (thn (ho pins s σ H _ I h) fun ov s1 ⟨x,H1,I1,r1,q1⟩=>?_))
 refine wpAny_bind (wpAny_holding (thn (hi pins s1 σ H1 _ I1 q1) fun iv s2 ⟨y,H2,I2,r2,q2⟩=>?_))
 refine wpAny_bind (wpAny_standAt (wpAny_bind (wpAny_holding (thn (hs pins s2 σ H2 x y v ov iv u _ I2 r1 r2 r q2) fun _ s3 ⟨H3,I3,q3⟩=>?_))))
 exact wpAny_release ⟨σ,H3,I3,q3⟩
def tAsg (te:TE) (g:TG):TS:=fun D σ H=>te σ H fun x H1=>g x σ H1 D.nx
theorem fE {tg e:Expr} {te:TE} {g:TG} (he:PE X e te) (hg:PG X tg g) (hs:swapsWithSole [tg] e pos.line X.env=pure false:=by rfl) (hw:swappedStores [tg] e X.env=pure none:=by rfl)
  (h1:(assignEach [tg] X.env).map (·.2)=[assign tg X.env]:=by rfl):PS X (.Assign [tg] e pos) (tAsg te g):=by
 intro pins s σ H D I h
 refine wpAny_Assign_stores (thn (he pins s σ H _ I h) fun v s1 ⟨x,H1,I1,r1,q1⟩=>?_) hs hw
 rw [h1]
 exact thn (hg pins s1 σ H1 x v _ I1 r1 q1) fun _ s2 q=>q
theorem ax {i:Nat} {x:Str} {e:Expr} {te:TE} {pos':Pos} (hN:X.N.Nodup) (hi:X.N[i]? =some x) (hx:Loc X.env.scope x) (he:PE X e te) (hs:swapsWith e (some (.Name x pos')) pos.line X.env=pure false:=by rfl) (hf:X.fn x=true∨X.env.scope.names.lookup x=some .local:=by first | exact .inl rfl | exact .inr rfl | assumption):
  PS X (.Assign [.Name x pos'] e pos) (tAsg te (gName i)):=by
 intro pins s σ H D I h
 refine wpAny_Assign_Name (thn (he pins s σ H _ I h) fun v s1 ⟨y,H1,I1,r1,q1⟩=>?_) hs
 exact qd I1 hN hi hx r1 (fun s2 I2=>⟨_,H1,I2,q1⟩) hf
end
section
variable {X:Cx} {pos:Pos}
def ul (c:TT) (tb:TS):TS:=fun D σ H=>∃ W:Nat→St→Hp→Prop,(∃ m,W m σ H)∧∀ m σ H,W m σ H→
 c σ H fun b H1=>if b=true then ∃ N:St→Hp→Prop,(∀ σ' H',N σ' H'→∃ m',m' < m∧W m' σ' H')∧tb { D with nx:=N,ct:=N,bk:=D.nx } σ H1 else D.nx σ H1
theorem vL {c:Expr} {body:List Stmt} {tc:TT} {tb:TS} (hp:PassesOwn (model X.prog X.w) X.A X.env X.xe) (hc:PT X c tc) (hb:PSs X body tb):PS X (.While c body [] pos) (ul tc tb):=by
 intro pins s σ H D I h
 obtain ⟨W,⟨m0,w0⟩,turn⟩:=h
 refine wpAny_While (codeAny_whileLoop (fun n s'=>∃ σ' H',Inv X pins σ' H' s'∧W n σ' H') ?_ m0 ⟨σ,H,I,w0⟩)
 rintro n s1 ⟨σ1,H1,I1,w1⟩
 refine wpAny_passesOwn hp (thn (hc pins s1 σ1 H1 _ I1 (turn n σ1 H1 w1)) fun b s2 ⟨H2,I2,q2⟩=>?_)
 cases b with
 | true=>
  obtain ⟨N,hN,q2⟩:=q2
  rw [if_pos rfl]
  refine wpAny_passesOwn hp (thn (hb pins s2 σ1 H2 _ I2 q2) fun f s3 q3=>?_)
  cases f with
  | next=>
   obtain ⟨σ3,H3,I3,n3⟩:=q3
   obtain ⟨m',hm,w3⟩:=hN σ3 H3 n3
   exact ⟨m',hm,σ3,H3,I3,w3⟩
  | cont=>
   obtain ⟨σ3,H3,I3,n3⟩:=q3
   obtain ⟨m',hm,w3⟩:=hN σ3 H3 n3
   exact ⟨m',hm,σ3,H3,I3,w3⟩
  | brk=>exact q3
  | ret v=>exact q3
 | false=>
  rw [if_neg Bool.false_ne_true]
  exact wpAny_execs_nil ⟨σ1,H2,I2,q2⟩
end
structure It where
 go:Nat→Hp→Prop
 yld:Nat→Hp→V→Hp→Prop
 stop:Nat→Hp→Prop
def FpOk (X:Cx) (pins:List (Addr × Obj)) (H:Hp) (b:Addr):Prop:=
 H b=none∧b≠X.env.locals∧b∉X.fs∧(b∈X.ex∨X.s₀.heap.objs.size≤b)∧(∀ x c,X.env.cells.lookup x=some c→c≠b)∧∀ p∈X.pn++pins,p.1≠b
theorem Inv.fpOk {X:Cx} {pins:List (Addr × Obj)} {σ:St} {H H':Hp} {s:Shared} {b:Addr} (I:Inv X pins σ H s) (hb:s.heap.objs.size≤b) (hn:H' b=none):FpOk X pins H' b:=by
 refine ⟨hn,Nat.ne_of_gt (Nat.lt_of_lt_of_le I.lt hb),I.nofs hb,.inr (Nat.le_trans I.sz hb),fun x c e z=>?_,fun p hp z=>?_⟩
 · obtain ⟨v,q⟩:=I.cell x c e
   exact absurd (Nat.lt_of_lt_of_le q.lt (by rw [z]; exact hb)) (Nat.lt_irrefl _)
 · exact absurd (Nat.lt_of_lt_of_le (Heap.lt_size (I.pin p hp).1) (by rw [z]; exact hb)) (Nat.lt_irrefl _)
structure Turn (P:Program) (w:World) (K:PySem.W.Frag) (tg:Expr) (J:It) (fp:List Addr) (it:Addr) (tn:Nat→Heap→Prop):Prop where
 mem:it∈fp
 obj:∀ i h,tn i h→∀ b∈fp,∃ o,h.get? b=some o∧∀ v,o.data≠.cell v
 keep:∀ i h h',tn i h→(∀ b∈fp,∀ o,h.get? b=some o→h'.get? b=some o)→tn i h'
 item:∀ (X:Cx),X.prog=P→X.w=w→X.K=K→X.calm=true→∀ (i:Nat) (pins:List (Addr × Obj)) (s:Shared) (σ:St) (H:Hp) (E:Value→Shared→Prop),Inv X pins σ H s→(∀ b∈fp,FpOk X pins H b)→tn i s.heap→J.go i H→
  wpAny (model P w) X.A (pyNext (.ref it)) (fun r s1=>∃ u,r=some u∧
   wpAny (model P w) X.A (letOwnedTupleGo tg (.ref it) u) (fun _ s2=>∃ x H',Inv X pins σ H' s2∧RelV x u∧J.yld i H x H'∧tn (i+1) s2.heap∧∀ b∈fp,H' b=none) E s1) E s
 done:∀ (X:Cx),X.prog=P→X.w=w→X.K=K→X.calm=true→∀ (i:Nat) (pins:List (Addr × Obj)) (s:Shared) (σ:St) (H:Hp) (E:Value→Shared→Prop),Inv X pins σ H s→(∀ b∈fp,FpOk X pins H b)→tn i s.heap→J.stop i H→
  wpAny (model P w) X.A (pyNext (.ref it)) (fun r s1=>r=none∧Inv X pins σ H s1) E s
 self:∀ (A:Around) (i:Nat) (s:Shared) (Q:Value→Shared→Prop) (E:Value→Shared→Prop),tn i s.heap→Q (.ref it) s→wpAny (model P w) A (pyIter (.ref it)) Q E s
abbrev TI:=St→Hp→(It→Hp→Prop)→Prop
def PIE (X:Cx) (pins:List (Addr × Obj)) (σ:St) (tg:Expr) (R:It→Hp→Prop) (itv:Value) (s2:Shared):Prop:=
 ∃ (it:Addr) (fp:List Addr) (tn:Nat→Heap→Prop) (J:It) (H':Hp),itv=.ref it∧Inv X pins σ H' s2∧Turn X.prog X.w X.K tg J fp it tn∧tn 0 s2.heap∧(∀ b∈fp,FpOk X pins H' b)∧R J H'
def PI (X:Cx) (tg iter:Expr) (wi:TI):Prop:=
 ∀ (pins:List (Addr × Obj)) (s:Shared) (σ:St) (H:Hp) (R:It→Hp→Prop),Inv X pins σ H s→wi σ H R→
  wpAny (model X.prog X.w) X.A (eval iter X.env) (fun v s1=>wpAny (model X.prog X.w) X.A (pyIter v) (PIE X pins σ tg R) X.xe s1) X.xe s
theorem sK {M:Model} {A:Around} {E:Value→Shared→Prop} {s:Shared} {tg:Expr} {it:Addr} {u:Value} {o:Obj} {n:String} {vs:Array Value} {Q:Unit→Shared→Prop} (ho:s.heap.get? it=some o) (hc:o.cls=.type n) (hd:o.data=.fields vs)
  (hn:["enumerate","zip","dict_itemiterator","dict_reverseitemiterator","odict_iterator","itertools.zip_longest","itertools.pairwise"].contains n=false) (hQ:Q () s):wpAny M A (letOwnedTupleGo tg (.ref it) u) Q E s:=by
 unfold letOwnedTupleGo
 cases tg <;> first
  | exact wpAny_pure hQ
  | (cases u <;> first
    | exact wpAny_pure hQ
    | (refine wpAny_bind (wpAny_load ho ?_)
       rw [hc,hd]
       show wpAny M A (if (["enumerate","zip","dict_itemiterator","dict_reverseitemiterator","odict_iterator","itertools.zip_longest","itertools.pairwise"].contains n&&vs[0]? ==some (rawInt _))=true then _ else _) Q E s
       rw [if_neg (by intro h; rw [hn,Bool.false_and] at h; cases h)]
       exact wpAny_pure hQ))
def Itl (K:PySem.W.Frag) (a:Addr):It:=
 ⟨fun i H=>∃ xs x,SqL K H a xs∧xs[i]? =some x,fun i H x H'=>H'=H∧∀ xs,SqL K H a xs→xs[i]? =some x,fun i H=>∃ xs,SqL K H a xs∧xs.length≤i⟩
def Itr (lo:Int) (n:Nat):It:=⟨fun i _=>i < n,fun i H x H'=>H'=H∧x=.int (lo+i),fun i _=>n≤i⟩
theorem um {P:Program} {w:World} {K:PySem.W.Frag} {tg:Expr} (a it:Addr):Turn P w K tg (Itl K a) [it] it (fun i h=>h.IsListIter it a i) where
 mem:=by simp
 obj:=fun i h st b hb=>by
  have e:b=it:=by simpa using hb
  subst e
  obtain ⟨o,e,c,d⟩:=st
  exact ⟨o,e,fun v z=>by rw [d] at z; cases z⟩
 keep:=fun i h h' st k=>st.at fun o e=>k it (by simp) o e
 item:=by
  intro X hP hw hK hc i pins s σ H E I hf st hg
  subst hP hw hK
  obtain ⟨xs,x,hq,hx⟩:=hg
  obtain ⟨its,rv,p,hz⟩:=I.list hq
  obtain ⟨u,hu,ru⟩:=rv.get hx
  obtain ⟨f0,f1,f2,f3,f4,f5⟩:=hf it (by simp)
  refine wpAny_pyNext_list_item st p.isList (x:=u) (by simpa using hu) fun h' st' sb=>?_
  have I1:Inv X pins σ H { s with heap:=h' }:=I.turned (t':=s.toks) (fun b o hb e=>(sb.2 b hb).trans e) f0 f1 f3 f4 f5
  obtain ⟨o,e,c,d⟩:=id st'
  exact ⟨u,rfl,sK (s:={ s with heap:=h' }) e c d (by decide) ⟨x,H,I1,ru,⟨rfl,fun ys hy=>by rw [I.list_inj hy hq]; exact hx⟩,st',fun b hb=>(hf b hb).1⟩⟩
 done:=by
  intro X hP hw hK hc i pins s σ H E I hf st hg
  subst hP hw hK
  obtain ⟨xs,hq,hx⟩:=hg
  obtain ⟨its,rv,p,hz⟩:=I.list hq
  obtain ⟨f0,f1,f2,f3,f4,f5⟩:=hf it (by simp)
  have hl:=rv.length
  exact wpAny_pyNext_list_end (I.ok.hd hc) st p.isList (by simp; omega) fun h' eb=>⟨rfl,I.turned (t':=s.toks) (fun b o hb e=>eb b o hb e) f0 f1 f3 f4 f5⟩
 self:=fun _ _ _ _ _ st h=>wpAny_pyIter_listiter st h
theorem sM {P:Program} {w:World} {K:PySem.W.Frag} {tg:Expr} (it:Addr) (lo:Int) (n:Nat):Turn P w K tg (Itr lo n) [it] it (fun i h=>IsRangeIter h it (lo+(i:Nat)*1) ((n:Int) - (i:Nat)) 1) where
 mem:=by simp
 obj:=fun i h st b hb=>by
  have e:b=it:=by simpa using hb
  subst e
  exact ⟨_,st,fun v z=>by
   have z':Data.fields _=Data.cell v:=z
   cases z'⟩
 keep:=fun i h h' st k=>k it (by simp) _ st
 item:=by
  intro X hP hw hK hc i pins s σ H E I hf st hg
  subst hP hw hK
  obtain ⟨f0,f1,f2,f3,f4,f5⟩:=hf it (by simp)
  have W:=Walks.range (prog:=X.prog) (w:=X.w) (I.ok.hd hc) it lo 1 n
  refine W.item i s _ _ hg st fun v h' tk hv st' kk=>?_
  obtain ⟨t,rfl⟩:=hv
  have I1:Inv X pins σ H { s with heap:=h',toks:=tk }:=I.turned (fun b o hb e=>kk b o (by simpa using hb) e) f0 f1 f3 f4 f5
  refine ⟨_,rfl,sK (s:={ s with heap:=h',toks:=tk }) (n:="range_iterator") st' rfl rfl (by decide) ⟨.int (lo+i),H,I1,⟨t,?_⟩,⟨rfl,rfl⟩,st',fun b hb=>(hf b hb).1⟩⟩
  rw [Int.mul_one]
 done:=by
  intro X hP hw hK hc i pins s σ H E I hf st hg
  subst hP hw hK
  obtain ⟨f0,f1,f2,f3,f4,f5⟩:=hf it (by simp)
  exact wpAny_pyNext_range_end (I.ok.hd hc) st (by have:n≤i:=hg; omega) fun h' eb=>⟨rfl,I.turned (t':=s.toks) (fun b o hb e=>eb b o hb e) f0 f1 f3 f4 f5⟩
 self:=fun _ _ _ _ _ st h=>wpAny_pyIter_rangeiter st h
end L2
namespace L2
open PySem PySem.Spec PyProof.Rows
section
variable {X:Cx} {tg:Expr}
def iList (K:PySem.W.Frag) (tl:TE):TI:=fun σ H R=>tl σ H fun x H1=>∃ a,x=.ref a∧(∃ xs,SqL K H1 a xs)∧R (Itl K a) H1
theorem aY {l:Expr} {tl:TE} (hl:PE X l tl):PI X tg l (iList X.K tl):=by
 intro pins s σ H R I h
 refine thn (hl pins s σ H _ I h) fun v s1 ⟨x,H1,I1,r1,q1⟩=>?_
 obtain ⟨a,e,⟨xs,hq⟩,q⟩:=q1
 subst e
 cases r1
 obtain ⟨its,rv,p,hz⟩:=I1.list hq
 refine wpAny_pyIter_list p.isList ?_
 refine ⟨s1.heap.objs.size,[s1.heap.objs.size],_,_,H1,rfl,I1.kept (t':=s1.toks) fun b o e=>Heap.get?_push_of_some _ e,um a _,⟨_,Heap.get?_push_size _ rfl,rfl,rfl⟩,fun b hb=>?_,q⟩
 have e:b=s1.heap.objs.size:=by simpa using hb
 subst e
 exact I1.fpOk (Nat.le_refl _) (I1.hok.fresh (Nat.le_refl _))
theorem qf {pins:List (Addr × Obj)} {σ:St} {H:Hp} {s:Shared} {R:It→Hp→Prop} {E:Value→Shared→Prop} {lo hi:Int} {t u v:Tok} {tk:Nat} (I:Inv X pins σ H s) (h1: -(2^62)≤lo) (h2:lo < 2^62) (h3: -(2^62)≤hi) (h4:hi < 2^62)
  (q:R (Itr lo (hi - lo).toNat) H):wpAny (model X.prog X.w) X.A (pyIter (.ref s.heap.objs.size)) (PIE X pins σ tg R) E { s with heap:=s.heap.push { cls:=.type "range",data:=.fields #[.int lo t,.int hi u,.int 1 v] },toks:=tk }:=by
 refine wpAny_pyIter_range (IsRange.new ..) (small_one h1 h2 h3 h4) ?_
 have I1:Inv X pins σ H { s with heap:=s.heap.push { cls:=.type "range",data:=.fields #[.int lo t,.int hi u,.int 1 v] },toks:=tk }:=I.kept fun b o e=>Heap.get?_push_of_some _ e
 refine ⟨(s.heap.push { cls:=.type "range",data:=.fields #[.int lo t,.int hi u,.int 1 v] }).objs.size,[(s.heap.push { cls:=.type "range",data:=.fields #[.int lo t,.int hi u,.int 1 v] }).objs.size],_,_,H,rfl,
  I1.kept (t':=tk) fun b o e=>Heap.get?_push_of_some _ e,sM _ lo (hi - lo).toNat,?_,fun b hb=>?_,q⟩
 · have e1:lo+((0:Nat):Int)*1=lo:=by simp
   have e2:(((hi - lo).toNat:Nat):Int) - ((0:Nat):Int)=Builtin.Range.rangeSize lo hi 1:=by rw [rangeSize_one]; split <;> omega
   show IsRangeIter _ _ (lo+((0:Nat):Int)*1) ((((hi - lo).toNat:Nat):Int) - ((0:Nat):Int)) 1
   rw [e1,e2]
   exact Heap.get?_push_size _ rfl
 · have e:b=(s.heap.push { cls:=.type "range",data:=.fields #[.int lo t,.int hi u,.int 1 v] }).objs.size:=by simpa using hb
   subst e
   exact I1.fpOk (Nat.le_refl _) (I1.hok.fresh (Nat.le_refl _))
def cD (ta:TA):TI:=fun σ H R=>ta σ H fun vs H1=>∃ j:Int,vs=[.int j]∧ -(2^62)≤j∧j < 2^62∧R (Itr 0 j.toNat) H1
def np (ta:TA):TI:=fun σ H R=>ta σ H fun vs H1=>∃ i j:Int,vs=[.int i,.int j]∧(-(2^62)≤i∧i < 2^62∧ -(2^62)≤j∧j < 2^62)∧R (Itr i (j - i).toNat) H1
theorem bv {a:Expr} {ta:TA} {p pos:Pos} (hg:Gl X "range") (hm:X.mg "range"=none) (ha:PA X [a] ta) (hs:starEach [a] X.env=[(false,eval a X.env)]:=by rfl):PI X tg (.Call (.Name "range" p) [a] [] pos) (cD ta):=by
 intro pins s σ H R I h
 refine Call_ (eE I hg hm boot_range (PyProof.Rows.callWith_type1 (thn (ha pos pins s σ H _ I h) fun us s1 ⟨vs,H1,I1,r1,q1⟩=>?_) hs rfl))
 obtain ⟨j,e,q1,q2,q⟩:=q1
 subst e
 cases r1 with
 | cons r rr=>
  cases rr
  obtain ⟨t,rfl⟩:=r
  exact call_range_1 (qf I1 (by omega) (by omega) q1 q2 (by simpa using q))
theorem uo {a b:Expr} {ta:TA} {p pos:Pos} (hg:Gl X "range") (hm:X.mg "range"=none) (ha:PA X [a,b] ta) (hs:starEach [a,b] X.env=[(false,eval a X.env),(false,eval b X.env)]:=by rfl) (hs2:starEach [b] X.env=[(false,eval b X.env)]:=by rfl):
  PI X tg (.Call (.Name "range" p) [a,b] [] pos) (np ta):=by
 intro pins s σ H R I h
 refine Call_ (eE I hg hm boot_range (PyProof.Rows.callWith_type1 (thn (ha pos pins s σ H _ I h) fun us s1 ⟨vs,H1,I1,r1,q1⟩=>?_) (by rw [hs,hs2]) (by rw [hs2]; rfl)))
 obtain ⟨i,j,e,⟨q1,q2,q3,q4⟩,q⟩:=q1
 subst e
 cases r1 with
 | cons r rr=>
  cases rr with
  | cons r' rr=>
   cases rr
   obtain ⟨t,rfl⟩:=r
   obtain ⟨t',rfl⟩:=r'
   exact call_range_2 (qf I1 q1 q2 q3 q4 q)
def tFor (wi:TI) (g:TG) (tb:TS):TS:=fun D σ H=>wi σ H fun J H1=>∃ W:Nat→Nat→St→Hp→Prop,(∃ m,W 0 m σ H1)∧∀ i m σ H,W i m σ H→
 (J.stop i H∧D.nx σ H)∨(J.go i H∧∃ N:St→Hp→Prop,(∀ σ' H',N σ' H'→∃ m',m' < m∧W (i+1) m' σ' H')∧∀ x H',J.yld i H x H'→g x σ H' fun σ2 H2=>tb { D with nx:=N,ct:=N,bk:=D.nx } σ2 H2)
def kU (fp:List Addr) (h:Heap):List (Addr × Obj):=fp.filterMap fun b=>(h.get? b).map fun o=>(b,o)
theorem im {fp:List Addr} {h:Heap} {b:Addr} {o:Obj} (hb:b∈fp) (e:h.get? b=some o):(b,o)∈kU fp h:=List.mem_filterMap.mpr ⟨b,hb,by rw [e]; rfl⟩
theorem up {fp:List Addr} {h:Heap} {p:Addr × Obj} (hp:p∈kU fp h):p.1∈fp∧h.get? p.1=some p.2:=by
 obtain ⟨b,hb,e⟩:=List.mem_filterMap.mp hp
 cases q:h.get? b with
 | none=>rw [q] at e; cases e
 | some o=>
  rw [q] at e
  have e':(b,o)=p:=Option.some.inj e
  subst e'
  exact ⟨hb,q⟩
theorem Inv.pinned {pins:List (Addr × Obj)} {σ:St} {H:Hp} {s:Shared} {fp:List Addr} (I:Inv X pins σ H s) (hf:∀ b∈fp,FpOk X pins H b) (ho:∀ b∈fp,∃ o,s.heap.get? b=some o∧∀ v,o.data≠.cell v):Inv X (pins++kU fp s.heap) σ H s:=
 I.pins_of fun p hp=>(List.mem_append.mp hp).elim (fun z=>I.pin p (List.mem_append_right _ z)) fun z=>by
  obtain ⟨hb,e⟩:=up z
  obtain ⟨f0,f1,f2,_⟩:=hf p.1 hb
  obtain ⟨o,e',d⟩:=ho p.1 hb
  rw [e] at e'; cases e'
  exact ⟨e,f0,f1,f2,d⟩
theorem Inv.unpinned {pins pl:List (Addr × Obj)} {σ:St} {H:Hp} {s:Shared} (I:Inv X (pins++pl) σ H s):Inv X pins σ H s:=I.pins_of fun p hp=>I.pin p (List.mem_append_right _ (List.mem_append_left _ hp))
theorem cf {iter:Expr} {body:List Stmt} {wi:TI} {g:TG} {tb:TS} {pos:Pos} (hp:PassesOwn (model X.prog X.w) X.A X.env X.xe) (hc:X.calm=true) (hi:PI X tg iter wi) (hg:PG X tg g) (hb:PSs X body tb)
  (hs:∀ x,foldedSetIterable iter X.env x=pure x:=by intro _; rfl):PS X (.For tg iter body [] pos) (tFor wi g tb):=by
 intro pins s σ H D I h
 refine wpAny_For (thn (hi pins s σ H _ I h) fun v s1 h1=>thn h1 fun itv s2 h2=>?_) hs
 obtain ⟨it,fp,tn,J,H2,e,I2,T,st2,f2,W,⟨m0,w0⟩,turn⟩:=h2
 subst e
 have stat:∀ {H':Hp},(∀ b∈fp,H' b=none)→∀ b∈fp,FpOk X pins H' b:=fun hn b hb=>⟨hn b hb,(f2 b hb).2⟩
 refine codeAny_forLoop_any (fun n s'=>∃ i σ' H',Inv X pins σ' H' s'∧tn i s'.heap∧(∀ b∈fp,H' b=none)∧W i n σ' H') ?_ m0 ⟨0,σ,H2,I2,st2,fun b hb=>(f2 b hb).1,w0⟩
 rintro n s3 ⟨i,σ3,H3,I3,st3,fr3,w3⟩
 rcases turn i n σ3 H3 w3 with ⟨stop,qn⟩ | ⟨go,N,hN,step⟩
 · refine wpAny_passesOwn hp (thn (T.done X rfl rfl rfl hc i pins s3 σ3 H3 X.xe I3 (stat fr3) st3 stop) fun r s4 ⟨hr,I4⟩=>?_)
   subst hr
   exact wpAny_execs_nil ⟨σ3,H3,I4,qn⟩
 · refine wpAny_passesOwn hp (thn (T.item X rfl rfl rfl hc i pins s3 σ3 H3 X.xe I3 (stat fr3) st3 go) fun r s4 ⟨u,hr,h4⟩=>?_)
   subst hr
   refine wpAny_passesOwn hp (thn h4 fun _ s5 ⟨x,H5,I5,r5,y5,st5,fr5⟩=>?_)
   have I5':=I5.pinned (stat fr5) (T.obj _ _ st5)
   refine wpAny_passesOwn hp (thn (hg _ s5 σ3 H5 x u _ I5' r5 (step x H5 y5)) fun _ s6 ⟨σ6,H6,I6,q6⟩=>?_)
   refine wpAny_passesOwn hp (thn (hb _ s6 σ6 H6 _ I6 q6) fun f s7 q7=>?_)
   have again:∀ {σ7:St} {H7:Hp},Inv X (pins++kU fp s5.heap) σ7 H7 s7→N σ7 H7→∃ m,m < n∧∃ i σ' H',Inv X pins σ' H' s7∧tn i s7.heap∧(∀ b∈fp,H' b=none)∧W i m σ' H':=fun {σ7 H7} I7 n7=>by
    obtain ⟨m',hm,w7⟩:=hN σ7 H7 n7
    refine ⟨m',hm,i+1,σ7,H7,I7.unpinned,T.keep _ _ _ st5 fun b hb o e=>(I7.pin (b,o) (List.mem_append_right _ (List.mem_append_right _ (im hb e)))).1,fun b hb=>?_,w7⟩
    obtain ⟨o,e,d⟩:=T.obj _ _ st5 b hb
    exact (I7.pin (b,o) (List.mem_append_right _ (List.mem_append_right _ (im hb e)))).2.1
   cases f with
   | next=>obtain ⟨σ7,H7,I7,n7⟩:=q7; exact again I7 n7
   | cont=>obtain ⟨σ7,H7,I7,n7⟩:=q7; exact again I7 n7
   | brk=>obtain ⟨σ7,H7,I7,q7⟩:=q7; exact ⟨σ7,H7,I7.unpinned,q7⟩
   | ret v=>obtain ⟨x7,σ7,H7,I7,r7,q7⟩:=q7; exact ⟨x7,σ7,H7,I7.unpinned,r7,q7⟩
end
theorem gA {K:PySem.W.Frag} {a:Addr} {xs:List V} {g:TG} {tb:TS} {D:Ends} {σ:St} {H:Hp} (Pv:Nat→St→Hp→Prop) (h0:Pv 0 σ H) (hl:∀ i σ H,i≤xs.length→Pv i σ H→SqL K H a xs)
  (hs:∀ i x σ H,xs[i]? =some x→Pv i σ H→g x σ H fun σ2 H2=>tb { D with nx:=Pv (i+1),ct:=Pv (i+1),bk:=D.nx } σ2 H2) (hd:∀ σ H,Pv xs.length σ H→D.nx σ H):
  ∃ W:Nat→Nat→St→Hp→Prop,(∃ m,W 0 m σ H)∧∀ i m σ H,W i m σ H→
   ((Itl K a).stop i H∧D.nx σ H)∨((Itl K a).go i H∧∃ N:St→Hp→Prop,(∀ σ' H',N σ' H'→∃ m',m' < m∧W (i+1) m' σ' H')∧∀ x H',(Itl K a).yld i H x H'→g x σ H' fun σ2 H2=>tb { D with nx:=N,ct:=N,bk:=D.nx } σ2 H2):=by
 refine ⟨fun i m σ H=>m=xs.length - i∧i≤xs.length∧Pv i σ H,⟨xs.length,by simp,Nat.zero_le _,h0⟩,?_⟩
 rintro i m σ H ⟨rfl,hi,p⟩
 have q:=hl i σ H hi p
 by_cases hlt:i < xs.length
 · refine .inr ⟨⟨xs,xs[i],q,by simp [hlt]⟩,Pv (i+1),fun σ' H' p'=>⟨xs.length - (i+1),by omega,rfl,hlt,p'⟩,fun x H' y=>?_⟩
   obtain ⟨e,y⟩:=y
   subst e
   exact hs i x σ _ (y xs q) p
 · have e:i=xs.length:=by omega
   subst e
   exact .inl ⟨⟨xs,q,Nat.le_refl _⟩,hd σ H p⟩
theorem cV {lo:Int} {n:Nat} {g:TG} {tb:TS} {D:Ends} {σ:St} {H:Hp} (Pv:Nat→St→Hp→Prop) (h0:Pv 0 σ H)
  (hs:∀ i σ H,i < n→Pv i σ H→g (.int (lo+i)) σ H fun σ2 H2=>tb { D with nx:=Pv (i+1),ct:=Pv (i+1),bk:=D.nx } σ2 H2) (hd:∀ σ H,Pv n σ H→D.nx σ H):
  ∃ W:Nat→Nat→St→Hp→Prop,(∃ m,W 0 m σ H)∧∀ i m σ H,W i m σ H→
   ((Itr lo n).stop i H∧D.nx σ H)∨((Itr lo n).go i H∧∃ N:St→Hp→Prop,(∀ σ' H',N σ' H'→∃ m',m' < m∧W (i+1) m' σ' H')∧∀ x H',(Itr lo n).yld i H x H'→g x σ H' fun σ2 H2=>tb { D with nx:=N,ct:=N,bk:=D.nx } σ2 H2):=by
 refine ⟨fun i m σ H=>m=n - i∧i≤n∧Pv i σ H,⟨n,by simp,Nat.zero_le _,h0⟩,?_⟩
 rintro i m σ H ⟨rfl,hi,p⟩
 by_cases hlt:i < n
 · refine .inr ⟨hlt,Pv (i+1),fun σ' H' p'=>⟨n - (i+1),by omega,rfl,hlt,p'⟩,fun x H' y=>?_⟩
   obtain ⟨e,y⟩:=y
   subst e y
   exact hs i σ _ hlt p
 · have e:i=n:=by omega
   subst e
   exact .inl ⟨Nat.le_refl _,hd σ H p⟩
end L2
namespace L2
open PySem PySem.Spec PyProof.Rows
abbrev R2:=V→V→Hp→VK→Prop
def OpR (X:Cx) (f:Value→Value→Sem Value) (r:R2):Prop:=
 ∀ (pins:List (Addr × Obj)) (s:Shared) (σ:St) (H:Hp) (x y:V) (v u:Value) (Q:VK),Inv X pins σ H s→RelV x v→RelV y u→r x y H Q→
  wpAny (model X.prog X.w) X.A (f v u) (EP X pins σ Q) X.xe s
def CallR (X:Cx) (f:Value) (r:List V→Hp→VK→Prop):Prop:=
 ∀ (pins:List (Addr × Obj)) (s:Shared) (σ:St) (H:Hp) (xs:List V) (us:List Value) (Q:VK),Inv X pins σ H s→Vals xs us→r xs H Q→
  wpAny (model X.prog X.w) X.A (call f us) (EP X pins σ Q) X.xe s
def tOp (r:R2) (ta tb:TE):TE:=fun σ H Q=>ta σ H fun x H1=>tb σ H1 fun y H2=>r x y H2 Q
def tUn (r:V→Hp→VK→Prop) (ta:TE):TE:=fun σ H Q=>ta σ H fun x H1=>r x H1 Q
def rI (C:Int→Int→Prop) (g:Int→Int→V):R2:=fun x y H Q=>∃ i j,x=.int i∧y=.int j∧C i j∧Q (g i j) H
def rI0 (g:Int→Int→V):R2:=fun x y H Q=>∃ i j,x=.int i∧y=.int j∧Q (g i j) H
def rU (g:Int→V):V→Hp→VK→Prop:=fun x H Q=>∃ i,x=.int i∧Q (g i) H
section
variable {X:Cx} {a b c:Expr} {ta tb tc:TE} {pos:Pos}
theorem binT (ha:PE X a ta) (hb:PE X b tb) {pins:List (Addr × Obj)} {s:Shared} {σ:St} {H:Hp} {R:V→V→Hp→Prop} (I:Inv X pins σ H s)
  (h:ta σ H fun x H1=>tb σ H1 fun y H2=>R x y H2) {Q:Value→Shared→Prop} {f:Value→Value→Sem Value}
  (hf:∀ v u s2 x y H2,Inv X pins σ H2 s2→RelV x v→RelV y u→R x y H2→wpAny (model X.prog X.w) X.A (f v u) Q X.xe s2):
  wpAny (model X.prog X.w) X.A (eval a X.env) (fun v s₁=>wpAny (model X.prog X.w) X.A (eval b X.env) (fun u s₂=>wpAny (model X.prog X.w) X.A (f v u) Q X.xe s₂) X.xe s₁) X.xe s:=by
 refine thn (ha pins s σ H _ I h) fun v s1 ⟨x,H1,I1,r1,q1⟩=>?_
 refine thn (hb pins s1 σ H1 _ I1 q1) fun u s2 ⟨y,H2,I2,r2,q2⟩=>?_
 exact hf v u s2 x y H2 I2 r1 r2 q2
theorem ah {op:Operator} {r:R2} (ho:OpR X (binaryOp op) r) (ha:PE X a ta) (hb:PE X b tb):PE X (.BinOp a op b pos) (tOp r ta tb):=by
 intro pins s σ H Q I h
 exact wpAny_BinOp (binT ha hb I h fun v u s2 x y H2 I2 rx ry q=>ho pins s2 σ H2 x y v u Q I2 rx ry q)
theorem opI {f:Value→Value→Sem Value} {C:Int→Int→Prop} {g:Int→Int→Int}
  (rule:∀ (i j:Int) (t u:Tok) (s:Shared) (Q:Value→Shared→Prop) (E:Value→Shared→Prop),C i j→Q (.int (g i j) s.toks) { s with toks:=s.toks+1 }→wpAny (model X.prog X.w) X.A (f (.int i t) (.int j u)) Q E s):
  OpR X f (rI C fun i j=>.int (g i j)):=by
 intro pins s σ H x y v u Q I rx ry h
 obtain ⟨i,j,rfl,rfl,hc,q⟩:=h
 obtain ⟨t,rfl⟩:=rx
 obtain ⟨t',rfl⟩:=ry
 exact rule i j t t' s _ _ hc ⟨.int (g i j),H,I.tok _,⟨_,rfl⟩,q⟩
theorem sN {f:Value→Value→Sem Value} {g:Int→Int→Int}
  (rule:∀ (i j:Int) (t u:Tok) (s:Shared) (Q:Value→Shared→Prop) (E:Value→Shared→Prop),Q (.int (g i j) s.toks) { s with toks:=s.toks+1 }→wpAny (model X.prog X.w) X.A (f (.int i t) (.int j u)) Q E s):
  OpR X f (rI0 fun i j=>.int (g i j)):=by
 intro pins s σ H x y v u Q I rx ry h
 obtain ⟨i,j,rfl,rfl,q⟩:=h
 obtain ⟨t,rfl⟩:=rx
 obtain ⟨t',rfl⟩:=ry
 exact rule i j t t' s _ _ ⟨.int (g i j),H,I.tok _,⟨_,rfl⟩,q⟩
theorem sO {f:Value→Value→Sem Value} {g:Int→Int→Bool}
  (rule:∀ (i j:Int) (t u:Tok) (s:Shared) (Q:Value→Shared→Prop) (E:Value→Shared→Prop),Q (.bool (g i j)) s→wpAny (model X.prog X.w) X.A (f (.int i t) (.int j u)) Q E s):
  OpR X f (rI0 fun i j=>.bl (g i j)):=by
 intro pins s σ H x y v u Q I rx ry h
 obtain ⟨i,j,rfl,rfl,q⟩:=h
 obtain ⟨t,rfl⟩:=rx
 obtain ⟨t',rfl⟩:=ry
 exact rule i j t t' s _ _ ⟨.bl (g i j),H,I,rfl,q⟩
def CDiv (i j:Int):Prop:=0 < j∧j < 1073741824
def CPow (i j:Int):Prop:=0≤j∧j≤1000000∧i.natAbs < 2^64
def CMul (i j:Int):Prop:=(-(2^64) < i∧i < 2^64)∨(-(2^64) < j∧j < 2^64)
theorem CMul.ok {i j:Int} (h:CMul i j):IntMulOk i j:=by
 rcases h with ⟨h1,h2⟩ | ⟨h1,h2⟩
 · exact .of_left (intBits_le_64 h1 h2)
 · exact .of_right (intBits_le_64 h1 h2)
theorem sP (k:Nat):(0:Int)≤2^k:=by
 rw [two_pow_cast]
 exact Int.natCast_nonneg _
theorem xw:OpR X (binaryOp .Add) (rI0 fun i j=>.int (i+j)):=sN fun _ _ _ _ _ _ _ q=>add_int q
theorem xx:OpR X (binaryOp .Sub) (rI0 fun i j=>.int (i - j)):=sN fun _ _ _ _ _ _ _ q=>sub_int q
theorem xy:OpR X (binaryOp .Mult) (rI CMul fun i j=>.int (i*j)):=opI fun _ _ _ _ _ _ _ hc q=>mul_int q hc.ok
theorem wx:OpR X (binaryOp .FloorDiv) (rI CDiv fun i j=>.int (i / j)):=opI fun i j _ _ _ _ _ hc q=>by
 have h1:(0:Int) < j:=hc.1
 have h2:j < 1073741824:=hc.2
 exact floordiv_int (by omega) (by rw [Int.fdiv_eq_ediv_of_nonneg i (by omega)]; exact q) (.inl (PyProof.noPylong_small (by omega)))
theorem xA:OpR X (binaryOp .Mod) (rI (fun _ j=>0 < j) fun i j=>.int (i % j)):=opI fun i j _ _ _ _ _ hc q=>by
 have h1:(0:Int) < j:=hc
 exact mod_int' (by omega) (by rw [Int.fmod_eq_emod_of_nonneg i (by omega)]; exact q)
theorem xB:OpR X (binaryOp .LShift) (rI CPow fun i j=>.int (i*2^j.toNat)):=opI fun _ _ _ _ _ _ _ hc q=>lshift_int_small hc.1 hc.2.1 hc.2.2 q
theorem xC:OpR X (binaryOp .RShift) (rI (fun _ j=>0≤j) fun i j=>.int (i / 2^j.toNat)):=opI fun i j _ _ _ _ _ hc q=>
 rshift_int hc (by rw [Int.fdiv_eq_ediv_of_nonneg i (sP _)]; exact q)
theorem xD:OpR X (binaryOp .BitAnd) (rI0 fun i j=>.int (Builtin.bitAnd i j)):=sN fun _ _ _ _ _ _ _ q=>and_int q
theorem yy:OpR X (binaryOp .BitOr) (rI0 fun i j=>.int (Builtin.bitOr i j)):=sN fun _ _ _ _ _ _ _ q=>or_int q
end
def scal:V→V→Bool
 | .non,.non=>true | .non,.int _=>true | .int _,.non=>true | .non,.bl _=>true | .bl _,.non=>true | .non,.str _=>true | .str _,.non=>true
 | .int _,.int _=>true | .bl _,.bl _=>true | .str _,.str _=>true | .byt _,.byt _=>true
 | .int _,.str _=>true | .str _,.int _=>true | .bl _,.str _=>true | .str _,.bl _=>true
 | _,_=>false
def rEq:R2:=fun x y H Q=>scal x y=true∧Q (.bl (decide (x=y))) H
def rNe:R2:=fun x y H Q=>scal x y=true∧Q (.bl (!decide (x=y))) H
theorem sr {i j:Int}:decide (V.int i=V.int j)=(i==j):=by
 rw [Bool.eq_iff_iff]
 simp
theorem uq {i j:Bool}:decide (V.bl i=V.bl j)=(i==j):=by
 rw [Bool.eq_iff_iff]
 simp
theorem ss {i j:Str}:decide (V.str i=V.str j)=(i==j):=by
 rw [Bool.eq_iff_iff]
 simp
theorem su {i j:Array UInt8}:decide (V.byt i=V.byt j)=(i.toList==j.toList):=by
 rw [Bool.eq_iff_iff]
 cases i
 cases j
 simp
section
variable {X:Cx} {a b c:Expr} {ta tb tc:TE} {pos:Pos}
theorem aM {pins:List (Addr × Obj)} {σ:St} {H:Hp} {s:Shared} {Q:VK} {k k':Bool} (I:Inv X pins σ H s) (q:Q (.bl k) H) (e:k=k'):EP X pins σ Q (.bool k') s:=by
 subst e
 exact ⟨.bl k,H,I,rfl,q⟩
theorem sQ:OpR X (compareOp .Eq) rEq:=by
 intro pins s σ H x y v u Q I rx ry h
 obtain ⟨hs,q⟩:=h
 cases x with
 | non=>
  cases rx
  cases y with
  | non=>cases ry; exact PySem.EqNone.eq_none_none (aM I q (by simp))
  | bl j=>cases ry; exact PySem.EqNone.eq_none_bool (aM I q (by simp))
  | int j=>obtain ⟨t',rfl⟩:=ry; exact PySem.EqNone.eq_none_int (aM I q (by simp))
  | str j=>obtain ⟨t',rfl⟩:=ry; exact PySem.EqNone.eq_none_str (aM I q (by simp))
  | _=>exact absurd (show false=true from hs) Bool.false_ne_true
 | bl i=>
  cases rx
  cases y with
  | non=>cases ry; exact PySem.EqNone.eq_bool_none (aM I q (by simp))
  | bl j=>cases ry; exact eq_bool (aM I q uq)
  | str j=>obtain ⟨t',rfl⟩:=ry; exact PySem.EqMixed.eq_bool_str (aM I q (by simp))
  | _=>exact absurd (show false=true from hs) Bool.false_ne_true
 | int i=>
  obtain ⟨t,rfl⟩:=rx
  cases y with
  | non=>cases ry; exact PySem.EqNone.eq_int_none (aM I q (by simp))
  | int j=>obtain ⟨t',rfl⟩:=ry; exact eq_int (aM I q sr)
  | str j=>obtain ⟨t',rfl⟩:=ry; exact PySem.EqMixed.eq_int_str (aM I q (by simp))
  | _=>exact absurd (show false=true from hs) Bool.false_ne_true
 | str i=>
  obtain ⟨t,rfl⟩:=rx
  cases y with
  | non=>cases ry; exact PySem.EqNone.eq_str_none (aM I q (by simp))
  | bl j=>cases ry; exact PySem.EqMixed.eq_str_bool (aM I q (by simp))
  | int j=>obtain ⟨t',rfl⟩:=ry; exact PySem.EqMixed.eq_str_int (aM I q (by simp))
  | str j=>obtain ⟨t',rfl⟩:=ry; exact eq_str (aM I q ss)
  | _=>exact absurd (show false=true from hs) Bool.false_ne_true
 | byt i=>
  obtain ⟨t,rfl⟩:=rx
  cases y with
  | byt j=>obtain ⟨t',rfl⟩:=ry; exact PySem.W.eq_bytes (aM I q su)
  | _=>exact absurd (show false=true from hs) Bool.false_ne_true
 | _=>cases y <;> exact absurd (show false=true from hs) Bool.false_ne_true
theorem sR:OpR X (compareOp .NotEq) rNe:=by
 intro pins s σ H x y v u Q I rx ry h
 obtain ⟨hs,q⟩:=h
 cases x with
 | non=>
  cases rx
  cases y with
  | non=>cases ry; exact PySem.EqNone.ne_none_none (aM I q (by simp))
  | bl j=>cases ry; exact PySem.EqNone.ne_none_bool (aM I q (by simp))
  | int j=>obtain ⟨t',rfl⟩:=ry; exact PySem.EqNone.ne_none_int (aM I q (by simp))
  | str j=>obtain ⟨t',rfl⟩:=ry; exact PySem.EqNone.ne_none_str (aM I q (by simp))
  | _=>exact absurd (show false=true from hs) Bool.false_ne_true
 | bl i=>
  cases rx
  cases y with
  | non=>cases ry; exact PySem.EqNone.ne_bool_none (aM I q (by simp))
  | bl j=>cases ry; exact ne_bool (aM I q (congrArg not uq))
  | str j=>obtain ⟨t',rfl⟩:=ry; exact PySem.EqMixed.ne_bool_str (aM I q (by simp))
  | _=>exact absurd (show false=true from hs) Bool.false_ne_true
 | int i=>
  obtain ⟨t,rfl⟩:=rx
  cases y with
  | non=>cases ry; exact PySem.EqNone.ne_int_none (aM I q (by simp))
  | int j=>obtain ⟨t',rfl⟩:=ry; exact ne_int (aM I q (congrArg not sr))
  | str j=>obtain ⟨t',rfl⟩:=ry; exact PySem.EqMixed.ne_int_str (aM I q (by simp))
  | _=>exact absurd (show false=true from hs) Bool.false_ne_true
 | str i=>
  obtain ⟨t,rfl⟩:=rx
  cases y with
  | non=>cases ry; exact PySem.EqNone.ne_str_none (aM I q (by simp))
  | bl j=>cases ry; exact PySem.EqMixed.ne_str_bool (aM I q (by simp))
  | int j=>obtain ⟨t',rfl⟩:=ry; exact PySem.EqMixed.ne_str_int (aM I q (by simp))
  | str j=>obtain ⟨t',rfl⟩:=ry; exact ne_str (aM I q (congrArg not ss))
  | _=>exact absurd (show false=true from hs) Bool.false_ne_true
 | byt i=>
  obtain ⟨t,rfl⟩:=rx
  cases y with
  | byt j=>obtain ⟨t',rfl⟩:=ry; exact PySem.W.ne_bytes (aM I q (congrArg not su))
  | _=>exact absurd (show false=true from hs) Bool.false_ne_true
 | _=>cases y <;> exact absurd (show false=true from hs) Bool.false_ne_true
theorem yz:OpR X (compareOp .Lt) (rI0 fun i j=>.bl (decide (i < j))):=sO fun _ _ _ _ _ _ _ q=>lt_int q
theorem yA:OpR X (compareOp .LtE) (rI0 fun i j=>.bl (decide (i≤j))):=sO fun _ _ _ _ _ _ _ q=>le_int q
theorem yB:OpR X (compareOp .Gt) (rI0 fun i j=>.bl (decide (j < i))):=sO fun _ _ _ _ _ _ _ q=>gt_int q
theorem yC:OpR X (compareOp .GtE) (rI0 fun i j=>.bl (decide (j≤i))):=sO fun _ _ _ _ _ _ _ q=>ge_int q
theorem ur:OpR X (compareOp .In) (fun x y H Q=>∃ i j,x=.str i∧y=.str j∧Q (.bl (!(Builtin.Str.occurrences j i 0 j.length 1).isEmpty)) H):=by
 intro pins s σ H x y v u Q I rx ry h
 obtain ⟨i,j,rfl,rfl,q⟩:=h
 obtain ⟨t,rfl⟩:=rx
 obtain ⟨t',rfl⟩:=ry
 exact in_str (aM I q rfl)
theorem xE:OpR X (compareOp .Is) (fun x y H Q=>y=.non∧Q (.bl (decide (x=.non))) H):=by
 intro pins s σ H x y v u Q I rx ry h
 obtain ⟨rfl,q⟩:=h
 cases ry
 refine is_none_gen (aM I q ?_)
 cases x <;> first
  | (cases rx; rfl)
  | (obtain ⟨t,rfl⟩:=rx; rfl)
theorem ap (b:Expr) {op:CmpOp} (h:op≠.In:=by decide) (h2:op≠.NotIn:=by decide):behindInMarks op b=false:=by
 have e1:(op==CmpOp.In)=false:=by cases op <;> first | rfl | exact absurd rfl h
 have e2:(op==CmpOp.NotIn)=false:=by cases op <;> first | rfl | exact absurd rfl h2
 cases b <;> simp [behindInMarks,e1,e2]
theorem aJ {op:CmpOp} {r:R2} (ho:OpR X (compareOp op) r) (ha:PE X a ta) (hb:PE X b tb) (hm:behindInMarks op b=false):PE X (.Compare a [op] [b] pos) (tOp r ta tb):=by
 intro pins s σ H Q I h
 exact wpAny_Compare1 (binT ha hb I h fun v u s2 x y H2 I2 rx ry q=>ho pins s2 σ H2 x y v u Q I2 rx ry q) hm
def tTest (t:TE):TT:=fun σ H Q=>t σ H fun x H'=>∃ k,x=.bl k∧Q k H'
theorem aq {op:CmpOp} {r:R2} (ho:OpR X (compareOp op) r) (ha:PE X a ta) (hb:PE X b tb) (hm:behindInMarks op b=false):PT X (.Compare a [op] [b] pos) (tTest (tOp r ta tb)):=by
 intro pins s σ H Q I h
 refine wpAny_isTrue_Compare1 (thn (ha pins s σ H _ I h) fun v s1 ⟨x,H1,I1,r1,q1⟩=>thn (hb pins s1 σ H1 _ I1 q1) fun u s2 ⟨y,H2,I2,r2,q2⟩=>
  thn (ho pins s2 σ H2 x y v u _ I2 r1 r2 q2) fun c s3 ⟨z,H3,I3,r3,k,e,q3⟩=>?_) hm
 subst e
 cases r3
 exact wpAny_truthy_bool ⟨H3,I3,q3⟩
def jg (r r':R2) (ta tb tc:TE):TE:=fun σ H Q=>ta σ H fun x H1=>tb σ H1 fun y H2=>r x y H2 fun z H3=>∃ k,z=.bl k∧
 (if k=true then tc σ H3 fun w' H4=>r' y w' H4 Q else Q (.bl false) H3)
theorem kf {op op':CmpOp} {r r':R2} (ho:OpR X (compareOp op) r) (ho':OpR X (compareOp op') r') (ha:PE X a ta) (hb:PE X b tb) (hc:PE X c tc)
  (hm:lastMarks [op,op'] [b,c]=false:=by with_unfolding_all rfl):PT X (.Compare a [op,op'] [b,c] pos) (tTest (jg r r' ta tb tc)):=by
 intro pins s σ H Q I h
 refine isTrue_chain (thn (ha pins s σ H _ I h) fun v s1 ⟨x,H1,I1,r1,q1⟩=>test_link (thn (hb pins s1 σ H1 _ I1 q1) fun u s2 ⟨y,H2,I2,r2,q2⟩=>
  thn (ho pins s2 σ H2 x y v u _ I2 r1 r2 q2) fun d s3 ⟨z,H3,I3,r3,k,e,q3⟩=>?_)) hm
 subst e
 cases r3
 refine wpAny_truthy_bool ?_
 cases k with
 | false=>
  obtain ⟨k',e',q'⟩:=q3
  cases e'
  exact ite_ff ⟨H3,I3,q'⟩
 | true=>
  refine ite_tt (test_last (thn (hc pins s3 σ H3 _ I3 q3) fun w' s4 ⟨z',H4,I4,r4,q4⟩=>thn (ho' pins s4 σ H4 y z' u w' _ I4 r2 r4 q4) fun d' s5 ⟨z2,H5,I5,r5,k2,e2,q5⟩=>?_))
  subst e2
  cases r5
  exact wpAny_truthy_bool ⟨H5,I5,q5⟩
theorem kW:(sizeLine:Nat) < 2^63:=by rw [sizeLine_eq]; decide
theorem sS:OpR X (binaryOp .Add) (fun x y H Q=>∃ i j,x=.str i∧y=.str j∧i.length+j.length≤sizeLine∧Q (.str (i++j)) H):=by
 intro pins s σ H x y v u Q I rx ry h
 obtain ⟨i,j,rfl,rfl,hz,q⟩:=h
 obtain ⟨t,rfl⟩:=rx
 obtain ⟨t',rfl⟩:=ry
 exact add_str (fun t' tk=>⟨.str (i++j),H,I.tok _,⟨_,rfl⟩,q⟩) hz
theorem fF {x:V} {us:List Value} (r:Vals [x] us):∃ u,us=[u]∧RelV x u:=by
 cases r with
 | cons r1 r2=>cases r2; exact ⟨_,rfl,r1⟩
theorem nq {x y:V} {us:List Value} (r:Vals [x,y] us):∃ u w',us=[u,w']∧RelV x u∧RelV y w':=by
 cases r with
 | cons r1 r2=>
  cases r2 with
  | cons r3 r4=>cases r4; exact ⟨_,_,rfl,r1,r3⟩
theorem ut (hc:X.calm=true):CallR X (.builtin "max") (fun xs H Q=>∃ i j,xs=[.int i,.int j]∧Q (.int (if j > i then j else i)) H):=by
 intro pins s σ H xs us Q I r h
 obtain ⟨i,j,rfl,q⟩:=h
 obtain ⟨u,w',rfl,⟨t,rfl⟩,⟨t',rfl⟩⟩:=nq r
 refine max_two_ints (I.ok.hd hc) fun h' tk k=>⟨_,H,I.kept k,?_,q⟩
 by_cases hj:j > i
 · rw [if_pos hj,if_pos hj]; exact ⟨_,rfl⟩
 · rw [if_neg hj,if_neg hj]; exact ⟨_,rfl⟩
theorem uu (hc:X.calm=true):CallR X (.builtin "min") (fun xs H Q=>∃ i j,xs=[.int i,.int j]∧Q (.int (if j < i then j else i)) H):=by
 intro pins s σ H xs us Q I r h
 obtain ⟨i,j,rfl,q⟩:=h
 obtain ⟨u,w',rfl,⟨t,rfl⟩,⟨t',rfl⟩⟩:=nq r
 refine min_two_ints (I.ok.hd hc) fun h' tk k=>⟨_,H,I.kept k,?_,q⟩
 by_cases hj:j < i
 · rw [if_pos hj,if_pos hj]; exact ⟨_,rfl⟩
 · rw [if_neg hj,if_neg hj]; exact ⟨_,rfl⟩
theorem ph:CallR X (.type "int") (fun xs H Q=>(∃ i,xs=[.int i]∧Q (.int i) H)∨∃ k,xs=[.bl k]∧Q (.int (if k then 1 else 0)) H):=by
 intro pins s σ H xs us Q I r h
 rcases h with ⟨i,rfl,q⟩ | ⟨k,rfl,q⟩
 · obtain ⟨u,rfl,t,rfl⟩:=fF r
   exact call_int_int ⟨.int i,H,I,⟨_,rfl⟩,q⟩
 · obtain ⟨u,rfl,r1⟩:=fF r
   cases r1
   exact call_int_bool ⟨.int (if k then 1 else 0),H,I.tok _,⟨_,rfl⟩,q⟩
theorem rH:CallR X (.builtin "divmod") (fun xs H Q=>∃ i j,xs=[.int i,.int j]∧CDiv i j∧∀ p,H p=none→Q (.ref p) (upd H p (.tup [.int (i / j),.int (i % j)]))):=by
 intro pins s σ H xs us Q I r h
 obtain ⟨i,j,rfl,⟨h1,h2⟩,q⟩:=h
 obtain ⟨u,w',rfl,⟨t,rfl⟩,⟨t',rfl⟩⟩:=nq r
 refine divmod_int (by omega) ?_ (.inl (PyProof.noPylong_small (by omega)))
 rw [Int.fdiv_eq_ediv_of_nonneg i (by omega),Int.fmod_eq_emod_of_nonneg i (by omega)]
 have hn:H s.heap.objs.size=none:=I.hok.fresh (Nat.le_refl _)
 refine ⟨.ref s.heap.objs.size,_,?_,rfl,q _ hn⟩
 refine I.laid (fun b o e=>Heap.get?_push_of_some _ e) (Nat.le_refl _) ⟨by simp only [List.length_cons,List.length_nil]; rw [sizeLine_eq]; decide,[.int (i / j) s.toks,.int (i % j) (s.toks+1)],.cons ⟨_,rfl⟩ (.cons ⟨_,rfl⟩ .nil),?_⟩
 exact ⟨_,Heap.get?_push_size s.heap rfl,rfl,0,rfl⟩
end
end L2
namespace L2
open PySem PySem.Spec PyProof.Rows
structure ObjM (h:Heap) (x dx C:Addr) (mA:Str→Option Value):Prop where
 obj:h.get? x=some (PySem.W.instObj C dx)
 ns:h.Ns1 dx mA
 ne:dx≠x
theorem uv {h:Heap} {dx:Addr} {mA:Str→Option Value} (n:h.Ns1 dx mA):∃ od,h.get? dx=some od∧∀ name,PySem.W.lookIn name od=some (mA name):=by
 obtain ⟨o,es,ep,ho,hd,hk,_,hm⟩:=n
 refine ⟨o,ho,fun name=>?_⟩
 have e:=hm name
 unfold nsFind findBy at e
 rw [← Array.find?_toList] at e
 unfold PySem.W.lookIn
 rw [hd]
 dsimp only
 split
 · rename_i y q
   rw [q] at e
   exact congrArg some e
 · rename_i q
   rw [q] at e
   have a:es.toList.any (·.refKey)=false:=by
    rw [List.any_eq_false]
    intro y hy
    obtain ⟨z,t,hkey⟩:=hk y (Array.mem_toList_iff.mp hy)
    simp [DictEntry.refKey,hkey]
   have a':¬ es.toList.any (·.refKey)=true:=by rw [a]; exact Bool.false_ne_true
   rw [if_neg a']
   exact congrArg some e
theorem ObjM.look {h:Heap} {x dx C:Addr} {mA:Str→Option Value} (I:ObjM h x dx C mA):∃ od,PySem.W.InstAt h x (PySem.W.instObj C dx) C (some od)∧∀ name,PySem.W.lookIn name od=some (mA name):=
 let ⟨od,ho,hl⟩:=uv I.ns
 ⟨od,⟨I.obj,rfl,rfl,ho⟩,hl⟩
section
variable {prog:Program} {w:World} {A:Around} {E:Value→Shared→Prop} {s:Shared} {K:PySem.W.Frag} {x dx C f:Addr} {mA:Str→Option Value} {name:Str} {v:Value}
theorem wy {expr:Bool} {Q:Value→Shared→Prop} (X:K.In s.heap) (I:ObjM s.heap x dx C mA) (hg:PySem.W.plainGet K C name=true) (hh:PySem.W.hasDictIn K C=true)
  (ha:PySem.W.findIn K (.ref C) name=some none) (hv:mA name=some v) (hv':PySem.W.handedIn v=true) (h:Q v { s with toks:=s.toks+1 }):
  wpAny (model prog w) A (getAttr (.ref x) name expr) Q E s:=by
 obtain ⟨od,J,hl⟩:=I.look
 exact PySem.W.get_value X J (PySem.W.plainGet_of hg).1 (PySem.W.findObj_own hh ha rfl (by rw [hl,hv])) hv' h
theorem vM {pl:Sem Bool} {Q:Value × List Value→Shared→Prop} (X:K.In s.heap) (I:ObjM s.heap x dx C mA) (hg:PySem.W.plainGet K C name=true)
  (hf:PySem.W.findIn K (.ref C) name=some (some (.ref f))) (ht:PySem.W.isFn K (.ref f)=true) (hv:mA name=none) (h:Q (.ref f,[.ref x]) s):
  wpAny (model prog w) A (getMethod (.ref x) name pl) Q E s:=by
 obtain ⟨od,J,hl⟩:=I.look
 exact PySem.W.method_fn X J (PySem.W.plainGet_of hg).1 (PySem.W.plainGet_of hg).2 hf (beq_iff_eq.mp ht) (by show (PySem.W.lookIn name od).map (·.isSome)=some false; rw [hl,hv]; rfl) h
theorem wz {ns:List Str} {Q:Unit→Shared→Prop} (X:K.In s.heap) (I:ObjM s.heap x dx C mA)
  (hs:PySem.W.findIn K (.ref C) "__setattr__"=some (some (.builtin "object.__setattr__"))) (hp:PySem.W.plainOver K C=true) (ht:PySem.W.takerIn K C name=some none) (hh:PySem.W.hasDictIn K C=true)
  (hw:PySem.Within mA ns) (hsz:ns.length≤sizeLine)
  (h:∀ h',ObjM h' x dx C (fun y=>if y=name then some v else mA y)→Heap.SameBut dx s.heap h'→Q () { s with heap:=h',toks:=s.toks+2 }):
  wpAny (model prog w) A (setAttr (.ref x) name v) Q E s:=by
 obtain ⟨od,J,hl⟩:=I.look
 refine PySem.W.set_plain X J hs (PySem.W.osa_open (s:={ s with toks:=s.toks+1 }) (r:=none) X J hp ht fun b=>?_)
 obtain ⟨cd,hc,hd'⟩:=PySem.W.any_some hh
 have hx:s.heap.get? x=some ⟨.ref C,some dx,.plain,#[]⟩:=I.obj
 refine wpAny_bind (wpAny_pure (wpAny_bind (wpAny_bind (wpAny_loadPart hx (wpAny_bind (PySem.W.Looks.here (s:={ s with toks:=s.toks+1 }) (PySem.W.looks_clsIn X hc) ?_))))))
 rw [hd']
 refine wpAny_pure (a:=some dx) (wpAny_bind (wpAny_pure (wpAny_bind ?_)))
 refine wpAny_nsSet1 (s:={ s with toks:=s.toks+1 }) I.ns fun h' hn2 hs2=>?_
 obtain ⟨oD,esD,epD,hoD,hdD,hcD⟩:=hn2.count (PySem.Within.cons name v hw)
 refine wpAny_bind (wpAny_lookBehind hoD (by rw [hdD]; exact pastItsLine_dict (Nat.le_trans hcD (by rw [List.length_cons]; omega))) ?_)
 exact wpAny_pure (h _ ⟨(hs2.2 _ (Ne.symm I.ne)).trans I.obj,hn2,I.ne⟩ hs2)
theorem vN {R:Result→Shared→Prop} {vs:List Value} {kw:List (Str × Value)} (X:K.In s.heap) (hm:PySem.W.makesIn K C=true)
  (hi:PySem.W.findIn K (.ref C) "__init__"=some (some (.ref f))) (hf:PySem.W.typeIn K (.ref f)=some (.type "function"))
  (h:codeAny (model prog w) (A.under (.builtin "type.__call__" ⟨.ref C::vs,kw⟩)) (.call (.ref f) ⟨.ref (s.heap.objs.size+1)::vs,kw⟩) (PySem.W.InitBack (s.heap.objs.size+1) R)
   { s with heap:=(s.heap.push PySem.W.emptyDict).push (PySem.W.instObj C s.heap.objs.size) }):
  codeAny (model prog w) A (.call (.ref C) ⟨vs,kw⟩) R s:=by
 obtain ⟨hh,g,d,t,os⟩:=s
 exact PySem.W.make_core (PySem.W.makes_of X hm) (PySem.W.looks_findIn X hi) (fun self=>PySem.W.bind_fn X self hf) (.inl rfl) h
end
def putF (f:Str) (v:V):List (Str × V)→List (Str × V)
 | []=>[(f,v)]
 | (g,x)::r=>if g=f then (g,v)::r else (g,x)::putF f v r
theorem mB (f g:Str) (v:V):∀ fs:List (Str × V),(putF f v fs).lookup g=if g=f then some v else fs.lookup g
 | []=>by
  show List.lookup g [(f,v)]=_
  by_cases h:g=f
  · have hb:(g==f)=true:=beq_iff_eq.mpr h
    simp only [List.lookup,hb,if_pos h]
  · have hb:(g==f)=false:=beq_eq_false_iff_ne.mpr h
    simp only [List.lookup,hb,if_neg h]
 | (k,x)::r=>by
  have ih:=mB f g v r
  rw [show putF f v ((k,x)::r)=(if k=f then (k,v)::r else (k,x)::putF f v r) from rfl]
  by_cases hk:k=f
  · rw [if_pos hk]
    by_cases h:g=k
    · have hb:(g==k)=true:=beq_iff_eq.mpr h
      simp only [List.lookup,hb,if_pos (h.trans hk)]
    · have hb:(g==k)=false:=beq_eq_false_iff_ne.mpr h
      simp only [List.lookup,hb,if_neg (fun e:g=f=>h (e.trans hk.symm))]
  · rw [if_neg hk]
    by_cases h:g=k
    · have hb:(g==k)=true:=beq_iff_eq.mpr h
      simp only [List.lookup,hb,if_neg (fun e:g=f=>hk (h.symm.trans e))]
    · have hb:(g==k)=false:=beq_eq_false_iff_ne.mpr h
      simp only [List.lookup,hb]
      exact ih
theorem kX (f:Str) (v:V):∀ fs:List (Str × V),f∈(putF f v fs).map (·.1)∧∀ g,g∈fs.map (·.1)→g∈(putF f v fs).map (·.1)
 | []=>⟨by simp [putF],fun g h=>by simp at h⟩
 | (k,x)::r=>by
  obtain ⟨i1,i2⟩:=kX f v r
  rw [show putF f v ((k,x)::r)=(if k=f then (k,v)::r else (k,x)::putF f v r) from rfl]
  by_cases hk:k=f
  · rw [if_pos hk]
    subst hk
    exact ⟨by simp,fun g h=>by simpa using h⟩
  · rw [if_neg hk]
    refine ⟨?_,fun g h=>?_⟩
    · rw [List.map_cons]
      exact List.mem_cons_of_mem _ i1
    · rw [List.map_cons] at h ⊢
      rcases List.mem_cons.mp h with e | e
      · exact List.mem_cons.mpr (.inl e)
      · exact List.mem_cons_of_mem _ (i2 g e)
theorem mC (f:Str) (v:V):∀ fs:List (Str × V),(putF f v fs).length≤fs.length+1
 | []=>by simp [putF]
 | (k,x)::r=>by
  have ih:=mC f v r
  rw [show putF f v ((k,x)::r)=(if k=f then (k,v)::r else (k,x)::putF f v r) from rfl]
  by_cases hk:k=f
  · rw [if_pos hk,List.length_cons,List.length_cons]; omega
  · rw [if_neg hk,List.length_cons,List.length_cons]; omega
theorem RelO.some_of {v:V} {o:Option Value} (r:RelO (some v) o):∃ u,o=some u∧RelV v u:=by
 cases o with
 | none=>exact (show False from r).elim
 | some u=>exact ⟨u,rfl,r⟩
theorem RelO.none_of {o:Option Value} (r:RelO none o):o=none:=by
 cases o with
 | none=>rfl
 | some u=>exact (show False from r).elim
theorem uw {v:V} {u:Value} (r:RelV v u):PySem.W.handedIn u=true:=by
 cases v with
 | non=>cases (show u=Value.none from r); rfl
 | bl b=>cases (show u=Value.bool b from r); rfl
 | int i=>obtain ⟨t,e⟩:=(show ∃ t,u=Value.int i t from r); cases e; rfl
 | str x=>obtain ⟨t,e⟩:=(show ∃ t,u=Value.str x t from r); cases e; rfl
 | byt b=>obtain ⟨t,e⟩:=(show ∃ t,u=Value.bytes b t from r); cases e; rfl
 | flt b=>obtain ⟨t,e⟩:=(show ∃ t,u=Value.float b t from r); cases e; rfl
 | ref a=>cases (show u=Value.ref a from r); rfl
 | ty n=>cases (show u=Value.type n from r); rfl
section
variable {P:Program} {w:World} {H H':Hp} {h h':Heap} {a C dx:Addr} {fs fs':List (Str × V)}
theorem lQ (hok:HOk P w H h) (e:H a=some (.ins C dx fs)):∃ mA,ObjM h a dx C mA∧(∀ f,RelO (fs.lookup f) (mA f))∧PySem.Within mA (fs.map (·.1))∧fs.length≤1000∧H dx=some (.own a):=by
 obtain ⟨d,z,ne,ob,mA,n,r,q⟩:=(show ObjOk P w H h a (.ins C dx fs) from hok a _ e)
 exact ⟨mA,⟨ob,n,ne⟩,r,q,z,d⟩
end
structure Cls (K:PySem.W.Frag) (C:Addr):Prop where
 pg:PySem.W.plainGet K C Str.empty=true
 hd:PySem.W.hasDictIn K C=true
 po:PySem.W.plainOver K C=true
 sa:PySem.W.findIn K (.ref C) "__setattr__"=some (some (.builtin "object.__setattr__"))
theorem Cls.get {K:PySem.W.Frag} {C:Addr} (c:Cls K C) (f:Str):PySem.W.plainGet K C f=true:=c.pg
def NoAttr (K:PySem.W.Frag) (C:Addr) (f:Str):Prop:=PySem.W.findIn K (.ref C) f=some none
theorem NoAttr.taker {K:PySem.W.Frag} {C:Addr} {f:Str} (n:NoAttr K C f):PySem.W.takerIn K C f=some none:=by
 unfold PySem.W.takerIn
 rw [show PySem.W.findIn K (.ref C) f=some none from n]
 rfl
structure Meth (K:PySem.W.Frag) (C:Addr) (m:Str) (f:Addr):Prop where
 at_:PySem.W.findIn K (.ref C) m=some (some (.ref f))
 fn:PySem.W.isFn K (.ref f)=true
 kp:PySem.W.keepIn K (.ref f)=true
section
variable {X:Cx} {pins:List (Addr × Obj)} {σ:St} {H:Hp} {s:Shared} {a C dx:Addr} {fs:List (Str × V)} {f:Str} {v:V} {A:Around} {E:Value→Shared→Prop}
theorem sT {b:Bool} {Q:Value→Shared→Prop} (I:Inv X pins σ H s) (e:H a=some (.ins C dx fs)) (c:Cls X.K C) (n:NoAttr X.K C f) (l:fs.lookup f=some v)
  (h:∀ u s',Inv X pins σ H s'→RelV v u→Q u s'):wpAny (model X.prog X.w) A (getAttr (.ref a) f b) Q E s:=by
 obtain ⟨mA,O,r,_,_,_⟩:=lQ I.hok e
 obtain ⟨u,hu,ru⟩:=RelO.some_of (v:=v) (o:=mA f) (by rw [← l]; exact r f)
 exact wy I.kIn O (c.get f) c.hd n hu (uw ru) (h u _ (I.tok _) ru)
theorem sU {m:Str} {g:Addr} {pl:Sem Bool} {Q:Value × List Value→Shared→Prop} (I:Inv X pins σ H s) (e:H a=some (.ins C dx fs)) (c:Cls X.K C) (k:Meth X.K C m g) (l:fs.lookup m=none)
  (h:Q (.ref g,[.ref a]) s):wpAny (model X.prog X.w) A (getMethod (.ref a) m pl) Q E s:=by
 obtain ⟨mA,O,r,_,_,_⟩:=lQ I.hok e
 have hn:mA m=none:=RelO.none_of (by rw [← l]; exact r m)
 exact vM I.kIn O (c.get m) k.at_ k.fn hn h
theorem sV {y:V} {u:Value} {Q:Unit→Shared→Prop} (I:Inv X pins σ H s) (e:H a=some (.ins C dx fs)) (c:Cls X.K C) (n:NoAttr X.K C f) (hl:fs.length < 1000) (ry:RelV y u)
  (h:∀ s',Inv X pins σ (upd H a (.ins C dx (putF f y fs))) s'→Q () s'):wpAny (model X.prog X.w) A (setAttr (.ref a) f u) Q E s:=by
 obtain ⟨mA,O,r,wi,_,ho⟩:=lQ I.hok e
 have hz:(fs.map (·.1)).length≤sizeLine:=by rw [List.length_map,sizeLine_eq]; omega
 refine wz I.kIn O c.sa c.po n.taker c.hd wi hz fun h' O' sb=>h _ ?_
 have hd:∃ o,h'.get? dx=some o:=let ⟨o,_,_,e',_⟩:=O'.ns; ⟨o,e'⟩
 refine I.write (x:=a) (e:=dx) (by rw [e]; exact True.intro) (.inr ho) (fun b q hb z=>(sb.2 b hb).trans z) hd ?_
 refine ⟨by rw [aj O.ne]; exact ho,?_,O.ne,O'.obj,_,O'.ns,fun g=>?_,fun g hg=>?_⟩
 · have:=mC f y fs; omega
 · show RelO ((putF f y fs).lookup g) (if g=f then some u else mA g)
   rw [mB]
   by_cases q:g=f
   · rw [if_pos q,if_pos q]; exact ry
   · rw [if_neg q,if_neg q]; exact r g
 · by_cases q:g=f
   · rw [q]; exact (kX f y fs).1
   · refine (kX f y fs).2 g (wi g fun z=>hg ?_)
     show (if g=f then some u else mA g)=none
     rw [if_neg q]; exact z
theorem Inv.made (I:Inv X pins σ H s):Inv X pins σ (upd (upd H s.heap.objs.size (.own (s.heap.objs.size+1))) (s.heap.objs.size+1) (.ins C s.heap.objs.size []))
  { s with heap:=(s.heap.push PySem.W.emptyDict).push (PySem.W.instObj C s.heap.objs.size) }:=by
 have e1:(s.heap.push PySem.W.emptyDict).get? s.heap.objs.size=some PySem.W.emptyDict:=Heap.get?_push_size s.heap rfl
 have e2:((s.heap.push PySem.W.emptyDict).push (PySem.W.instObj C s.heap.objs.size)).get? (s.heap.objs.size+1)=some (PySem.W.instObj C s.heap.objs.size):=by
  have:=Heap.get?_push_size (s.heap.push PySem.W.emptyDict) (o:=PySem.W.instObj C s.heap.objs.size) rfl
  rwa [Heap.size_push] at this
 have e3:(s.heap.push PySem.W.emptyDict).Ns s.heap.objs.size (fun _=>none):=⟨PySem.W.emptyDict,#[],_,e1,rfl,(fun e he=>absurd he (by simp)),fun _=>rfl⟩
 have I1:=I.laid (a:=s.heap.objs.size) (o:=.own (s.heap.objs.size+1)) (h':=s.heap.push PySem.W.emptyDict) (t':=s.toks) (fun b u q=>Heap.get?_push_of_some _ q) (Nat.le_refl _) ⟨_,e1⟩
 refine I1.laid (a:=s.heap.objs.size+1) (o:=.ins C s.heap.objs.size []) (t':=s.toks) (fun b u q=>Heap.get?_push_of_some _ q) (Nat.le_of_eq (Heap.size_push _ _)) ?_
 have ne:s.heap.objs.size≠s.heap.objs.size+1:=Nat.ne_of_lt (Nat.lt_succ_self _)
 refine ⟨by rw [aj ne,ag],Nat.zero_le _,ne,e2,fun _=>none,(Heap.Ns1.of_empty e3).at fun o q=>Heap.get?_push_of_some _ q,fun _=>True.intro,fun y hy=>absurd rfl hy⟩
theorem wA {prog:Program} {w:World} {env:Env} {e:Expr} {f:Str} {pos:Pos} {s:Shared} {Q:Value→Shared→Prop} (hb:attributeBase e f env (eval e env)=eval e env)
  (h:wpAny (model prog w) A (eval e env) (fun o s₁=>wpAny (model prog w) A (getAttr o f true) Q E s₁) E s):wpAny (model prog w) A (eval (.Attribute e f pos) env) Q E s:=
 Attribute_any_ h (by rw [arm_eval_Attribute,hb])
end
section
variable {X:Cx} {o e value:Expr} {f:Str} {pos pos' tpos:Pos} {ta tv:TE}
end
section
variable {X:Cx} {pins:List (Addr × Obj)} {σ:St} {H:Hp} {s:Shared} {A:Around} {E:Value→Shared→Prop} {Q:Value→Shared→Prop} {c:Value} {b:Bool}
inductive TyOf (K:PySem.W.Frag) (H:Hp):V→Value→Prop where
 | non:TyOf K H .non (.type "NoneType")
 | bl (x:Bool):TyOf K H (.bl x) (.type "bool")
 | int (i:Int):TyOf K H (.int i) (.type "int")
 | str (x:Str):TyOf K H (.str x) (.type "str")
 | flt (x:UInt64):TyOf K H (.flt x) (.type "float")
 | lst {a:Addr} {xs:List V} (e:H a=some (.lst xs)):TyOf K H (.ref a) (.type "list")
 | frz {a:Addr} {o:Obj} {xs:List V} (e:H a=some (.frz o (.lst xs))):TyOf K H (.ref a) (.type "list")
 | tup {a:Addr} {xs:List V} (e:H a=some (.tup xs)):TyOf K H (.ref a) (.type "tuple")
 | dK {a:Addr} {kvs:List (Key × V)} (e:H a=some (.dK kvs)):TyOf K H (.ref a) (.type "dict")
 | dT {a:Addr} {kvs:List (List Key × V)} (e:H a=some (.dT kvs)):TyOf K H (.ref a) (.type "dict")
 | ins {a C dx:Addr} {fs:List (Str × V)} (e:H a=some (.ins C dx fs)) (cl:Cls K C) (ha:PySem.W.findIn K (.ref C) "__class__"=some (some (.builtin "object.__class__")))
   (hn:PySem.W.specialIn K (.builtin "object.__class__") "__get__"=some (some (.builtin "getset_descriptor.__get__"))) (htk:PySem.W.takesIn K (.builtin "object.__class__")=some true)
   (hm:PySem.W.mroIn K C (.type "object")=some true):TyOf K H (.ref a) (.ref C)
theorem ux {x:V} {u t:Value} (I:Inv X pins σ H s) (rx:RelV x u) (ty:TyOf X.K H x t) (e:PySem.W.kitOne X.K t c=some b) (h:∀ tk,Q (.bool b) { s with toks:=tk }):
  wpAny (model X.prog X.w) A (call (.builtin "isinstance") [u,c]) Q E s:=by
 cases ty with
 | non=>cases (show u=Value.none from rx); exact PySem.W.kia_one PySem.W.kitx_none I.kIn True.intro e (fun z=>nomatch z) h
 | bl y=>cases (show u=Value.bool y from rx); exact PySem.W.kia_one PySem.W.kitx_bool I.kIn True.intro e (fun z=>nomatch z) h
 | int i=>obtain ⟨t,q⟩:=(show ∃ t,u=Value.int i t from rx); cases q; exact PySem.W.kia_one PySem.W.kitx_int I.kIn True.intro e (fun z=>nomatch z) h
 | str y=>obtain ⟨t,q⟩:=(show ∃ t,u=Value.str y t from rx); cases q; exact PySem.W.kia_one PySem.W.kitx_str I.kIn True.intro e (fun z=>nomatch z) h
 | flt y=>obtain ⟨t,q⟩:=(show ∃ t,u=Value.float y t from rx); cases q; exact PySem.W.kia_one PySem.W.kitx_float I.kIn True.intro e (fun z=>nomatch z) h
 | @lst a xs ea=>
  cases (show u=Value.ref a from rx)
  obtain ⟨_,_,n,_,h1⟩:=(show ObjOk X.prog X.w H s.heap a (.lst xs) from I.hok a _ ea)
  exact PySem.W.kia_one PySem.W.kitx_list I.kIn ⟨_,h1,rfl⟩ e (fun z=>nomatch z) h
 | @frz a ob xs ea=>
  cases (show u=Value.ref a from rx)
  obtain ⟨_,_,_,n,_,h1⟩:=(show ObjOk X.prog X.w H s.heap a (.frz ob (.lst xs)) from I.hok a _ ea)
  exact PySem.W.kia_one PySem.W.kitx_list I.kIn ⟨_,h1,rfl⟩ e (fun z=>nomatch z) h
 | @tup a xs ea=>
  cases (show u=Value.ref a from rx)
  obtain ⟨_,_,_,p⟩:=(show ObjOk X.prog X.w H s.heap a (.tup xs) from I.hok a _ ea)
  obtain ⟨o,h1,h2,_⟩:=p
  exact PySem.W.kia_one PySem.W.kitx_tuple I.kIn ⟨o,h1,h2⟩ e (fun z=>nomatch z) h
 | @dK a kvs ea=>
  cases (show u=Value.ref a from rx)
  obtain ⟨_,_,vs,_,p⟩:=(show ObjOk X.prog X.w H s.heap a (.dK kvs) from I.hok a _ ea)
  obtain ⟨o,es,ep,h1,h2,_⟩:=p
  exact PySem.W.kia_one PySem.W.kitx_dict I.kIn ⟨o,h1,h2.1⟩ e (fun z=>nomatch z) h
 | @dT a kvs ea=>
  cases (show u=Value.ref a from rx)
  obtain ⟨_,_,xs,_,o,es,ep,h1,h2,_⟩:=(show ObjOk X.prog X.w H s.heap a (.dT kvs) from I.hok a _ ea)
  exact PySem.W.kia_one PySem.W.kitx_dict I.kIn ⟨o,h1,h2.1⟩ e (fun z=>nomatch z) h
 | @ins a C dx fs ea cl ha hn htk hm=>
  cases (show u=Value.ref a from rx)
  obtain ⟨mA,O,_⟩:=lQ I.hok ea
  obtain ⟨od,J,_⟩:=O.look
  exact PySem.W.kia_one (PySem.W.kitx_own (cl.get _) cl.hd ha hn htk hm) I.kIn J e (fun z=>nomatch z) h
end
end L2
namespace L2
open PySem PySem.Spec PyProof.Rows
structure Room (k:Nat) (A:Around):Prop where
 hd:A.handled=none
 dp:A.depth+3*k+5 < recursionLimit
 un:A.units+16*k+200 < cLine
theorem Room.mono {j k:Nat} {A:Around} (r:Room k A) (h:j≤k):Room j A:=⟨r.hd,by have:=r.dp; omega,by have:=r.un; omega⟩
theorem Room.deeper {k:Nat} {A:Around} (r:Room (k+1) A) (env:Env):Room k (A.deeper env):=
 ⟨r.hd,by have:=r.dp; show A.depth+1+3*k+5 < _; omega,by have:=r.un; show A.units+3+16*k+200 < _; omega⟩
theorem sW {A:Around} {C:Addr} {us:List Value} {kw:List (Str × Value)}:(A.under (.builtin "type.__call__" ⟨.ref C::us,kw⟩)).depth=A.depth+1:=by
 first | rfl | simp [Around.under,Code.weight,Code.isCreation,Code.isGuard,Code.isCaller,Code.frames,Code.isFrame,guardIds]
theorem sX {A:Around} {C:Addr} {us:List Value} {kw:List (Str × Value)}:(A.under (.builtin "type.__call__" ⟨.ref C::us,kw⟩)).units=A.units+1:=by
 first | rfl | simp [Around.under,Code.cUnits,Code.frames,Code.isFrame]
theorem Room.make {k:Nat} {A:Around} (r:Room (k+1) A) (C:Addr) (us:List Value) (kw:List (Str × Value)):Room k (A.under (.builtin "type.__call__" ⟨.ref C::us,kw⟩)):=
 ⟨r.hd,by have:=r.dp; rw [sW]; omega,by have:=r.un; rw [sX]; omega⟩
theorem Room.depth {k:Nat} {A:Around} (r:Room k A):A.depth < recursionLimit:=by have:=r.dp; omega
theorem Room.units {k:Nat} {A:Around} (r:Room k A):A.units+64 < cLine:=by have:=r.un; omega
def tNil:TA:=fun _ H Q=>Q [] H
def tCons (ta:TE) (tr:TA):TA:=fun σ H Q=>ta σ H fun x H1=>tr σ H1 fun xs H2=>Q (x::xs) H2
section
variable {X:Cx} {e:Expr} {es:List Expr} {te:TE} {t:TA} {pos:Pos}
theorem ad:PA X [] tNil:=fun _ _ _ _ H Q I h=>Calls.spliced_nil ⟨[],H,I,.nil,h⟩
theorem ab (ha:PE X e te) (hr:PA X es t) (hs:starEach (e::es) X.env=(false,eval e X.env)::starEach es X.env:=by rfl):PA X (e::es) (tCons te t):=by
 intro pos pins s σ H Q I h
 rw [hs]
 show wpAny _ _ (spliced ((false,eval e X.env)::backTo pos (starEach es X.env))) _ _ s
 refine Calls.spliced_cons (thn (ha pins s σ H _ I h) fun u s1 ⟨x,H1,I1,r1,q1⟩=>?_)
 exact thn (hr pos pins s1 σ H1 _ I1 q1) fun us s2 ⟨xs,H2,I2,r2,q2⟩=>⟨x::xs,H2,I2,.cons r1 r2,q2⟩
def tTup (t:TA):TE:=fun σ H Q=>t σ H fun xs H1=>xs.length≤sizeLine∧∀ p,H1 p=none→Q (.ref p) (upd H1 p (.tup xs))
def tLst (t:TA):TE:=fun σ H Q=>t σ H fun xs H1=>xs.length≤sizeLine∧∀ p,H1 p=none→Q (.ref p) (upd H1 p (.lst xs))
theorem dO {x1} (h:PA X es t):PE X (.Tuple es x1 pos) (tTup t):=by
 intro pins s σ H Q I hq
 refine wpAny_Tuple_spliced (thn (h pos pins s σ H _ I hq) fun us s1 ⟨xs,H1,I1,r,z,q⟩=>⟨by rw [← r.length]; exact z,?_⟩)
 have hf:H1 s1.heap.objs.size=none:=I1.hok.fresh (Nat.le_refl _)
 refine ⟨.ref s1.heap.objs.size,upd H1 s1.heap.objs.size (.tup xs),I1.laid (t':=s1.toks) (fun b u e=>Heap.get?_push_of_some _ e) (Nat.le_refl _) ?_,rfl,q _ hf⟩
 exact ⟨z,us,r,⟨_,Heap.get?_push_size _ rfl,rfl,_,rfl⟩⟩
theorem aK (h:PA X es t):PE X (.List es pos) (tLst t):=by
 intro pins s σ H Q I hq
 refine wpAny_List_spliced (thn (h pos pins s σ H _ I hq) fun us s1 ⟨xs,H1,I1,r,z,q⟩=>⟨by rw [← r.length]; exact z,?_⟩)
 have hf:H1 s1.heap.objs.size=none:=I1.hok.fresh (Nat.le_refl _)
 refine ⟨.ref s1.heap.objs.size,upd H1 s1.heap.objs.size (.lst xs),I1.laid (t':=s1.toks) (fun b u e=>Heap.get?_push_of_some _ e) (Nat.le_refl _) ?_,rfl,q _ hf⟩
 exact ⟨z,us,0,r,Heap.get?_push_size _ rfl⟩
end
abbrev Sp:=List V→Hp→VK→XK→Prop
abbrev CXT:=List Env→Hp→Shared→XK→Value→Shared→Prop
structure Env0 (P:Program) (w:World) (K:PySem.W.Frag) (mg:Str→Option Value) (base:Heap) (A:Around) (outer:List Env) (s:Shared) (H:Hp):Prop where
 frames:A.frames=some outer
 mod:Mod K mg base
 bs:∀ b o,base.get? b=some o→s.heap.get? b=some o∧H b=none
 bsz:base.objs.size≤s.heap.objs.size
 funs:s.heap.FunFrames base outer
 frf:∀ b∈frs outer,H b=none
 hok:HOk P w H s.heap
 bare:AllBare s.gens
def CE (outer:List Env) (P:Program) (w:World) (H:Hp) (s:Shared) (Q:VK) (u:Value) (s':Shared):Prop:=
 ∃ v H',s'.os=s.os∧AllBare s'.gens∧Un (frs outer) [] H H' s.heap s'.heap∧HOk P w H' s'.heap∧RelV v u∧Q v H'
def CR (CX:CXT) (outer:List Env) (P:Program) (w:World) (H:Hp) (s:Shared) (Q:VK) (E:XK) (r:Result) (s':Shared):Prop:=
 match r with
 | .ok (.ret u)=>CE outer P w H s Q u s'
 | .ok _=>False
 | .error e=>CX outer H s E e s'
structure FnOk (P:Program) (w:World) (K:PySem.W.Frag) (mg:Str→Option Value) (base:Heap) (CX:CXT) (k:Nat) (f:Addr) (fd:FuncData) (ps:List Str) (sp:Sp):Prop where
 len:∀ vs H Q E,sp vs H Q E→vs.length=ps.length
 run:∀ (A:Around) (outer:List Env) (s:Shared) (H:Hp) (args:Args) (us:List Value) (vs:List V) (Q:VK) (E:XK),Room k A→Env0 P w K mg base A outer s H→BindsTo s fd args (ps.zip us)→Vals vs us→sp vs H Q E→
  codeAny (model P w) A (.call (.ref f) args) (CR CX outer P w H s Q E) s
theorem FnOk.mono {P:Program} {w:World} {K:PySem.W.Frag} {mg:Str→Option Value} {base:Heap} {CX:CXT} {j k:Nat} {f:Addr} {fd:FuncData} {ps:List Str} {sp:Sp} (F:FnOk P w K mg base CX j f fd ps sp) (h:j≤k):
  FnOk P w K mg base CX k f fd ps sp:=⟨F.len,fun A outer s H args us vs Q E hr=>F.run A outer s H args us vs Q E (hr.mono h)⟩
theorem FnOk.imp {P:Program} {w:World} {K:PySem.W.Frag} {mg:Str→Option Value} {base:Heap} {CX:CXT} {k:Nat} {f:Addr} {fd:FuncData} {ps:List Str} {sp sp':Sp} (F:FnOk P w K mg base CX k f fd ps sp)
  (h:∀ vs H Q E,sp' vs H Q E→sp vs H Q E):FnOk P w K mg base CX k f fd ps sp':=
 ⟨fun vs H Q E q=>F.len vs H Q E (h _ _ _ _ q),fun A outer s H args us vs Q E hr he hb hv hs=>F.run A outer s H args us vs Q E hr he hb hv (h _ _ _ _ hs)⟩
theorem Env0.make {P:Program} {w:World} {K:PySem.W.Frag} {mg:Str→Option Value} {base:Heap} {A:Around} {outer:List Env} {s:Shared} {H:Hp} (e:Env0 P w K mg base A outer s H) (C:Addr) (us:List Value) (kw:List (Str × Value)):
  Env0 P w K mg base (A.under (.builtin "type.__call__" ⟨.ref C::us,kw⟩)) outer s H:=⟨by first | exact e.frames | (simpa [Around.under,Code.envs,Code.isFrame,pushEnvs] using e.frames),e.mod,e.bs,e.bsz,e.funs,e.frf,e.hok,e.bare⟩
section
variable {X:Cx} {pins:List (Addr × Obj)} {σ:St} {H:Hp} {s s':Shared}
theorem Inv.env0 (I:Inv X pins σ H s):Env0 X.prog X.w X.K X.mg X.base X.A X.stack s H:=
 ⟨I.ok.frames,I.ok.mod,I.bs,Nat.le_trans I.ok.bsz I.sz,I.stack,I.stkFree,I.hok,I.bare⟩
theorem Inv.after {Q:VK} {u:Value} (I:Inv X pins σ H s) (h:CE X.stack X.prog X.w H s Q u s'):EP X pins σ Q u s':=by
 obtain ⟨v,H',os,bare,un,hok,r,q⟩:=h
 obtain ⟨hh,g,d,t,os'⟩:=s'
 obtain rfl:os'=s.os:=os
 exact ⟨v,H',I.call (h':=hh) (g':=g) (d':=d) (t':=t) (ch:=[]) un hok bare (fun b z=>absurd z (by simp)),r,q⟩
end
def tCall (sp:Sp) (dvs:List V) (E:XK) (t:TA):TE:=fun σ H Q=>t σ H fun vs H1=>sp (vs++dvs) H1 Q E
def tMake (C:Addr) (sp:Sp) (dvs:List V) (E:XK) (t:TA):TE:=fun σ H Q=>t σ H fun vs H1=>∀ x dx,H1 x=none→H1 dx=none→dx≠x→
 sp (.ref x::(vs++dvs)) (upd (upd H1 dx (.own x)) x (.ins C dx [])) (fun v H2=>v=.non∧Q (.ref x) H2) E
def Binds (K:PySem.W.Frag) (fd:FuncData) (ps:List Str) (ds:List Value):Prop:=
 ∀ (s:Shared) (us:List Value),K.In s.heap→(us++ds).length=ps.length→BindsTo s fd ⟨us,[]⟩ (ps.zip (us++ds))
theorem Binds.all {K:PySem.W.Frag} {fd:FuncData} {ps:List Str} (h:∀ us:List Value,us.length=ps.length→bindArgs fd ⟨us,[]⟩=pure (ps.zip us)):Binds K fd ps []:=fun s us _ hl=>by
 rw [List.append_nil] at hl ⊢
 exact .of_eq (h us hl)
def kY (CX:CXT) (X:Cx) (E:XK):Prop:=∀ (pins:List (Addr × Obj)) (σ:St) (H:Hp) (s:Shared) (e:Value) (s':Shared),Inv X pins σ H s→CX X.stack H s E e s'→X.xe e s'
section
variable {X:Cx} {CX:CXT} {k:Nat} {f C:Addr} {fd:FuncData} {ps:List Str} {sp:Sp} {dvs:List V} {ds:List Value} {E:XK} {x m:Str} {p pos apos:Pos} {e o:Expr} {es:List Expr} {ta:TE} {t:TA}
theorem uy {pins:List (Addr × Obj)} {σ:St} {H:Hp} {s:Shared} {Q:VK} {us:List Value} {vs:List V} (F:FnOk X.prog X.w X.K X.mg X.base CX k f fd ps sp) (hr:Room k X.A) (hb:Binds X.K fd ps ds) (hd:Vals dvs ds) (hx:kY CX X E)
  (I:Inv X pins σ H s) (r:Vals vs us) (h:sp (vs++dvs) H Q E):wpAny (model X.prog X.w) X.A (call (.ref f) us) (EP X pins σ Q) X.xe s:=by
 have r2:Vals (vs++dvs) (us++ds):=r.append hd
 have hl:(us++ds).length=ps.length:=by rw [← r2.length]; exact F.len _ _ _ _ h
 refine wpAny_call (codeAny_mono (F.run X.A X.stack s H ⟨us,[]⟩ (us++ds) (vs++dvs) Q E hr I.env0 (hb s us I.kIn hl) r2 h) fun r s' hq=>?_)
 cases r with
 | error e=>exact hx pins σ H s e s' I hq
 | ok fl=>
  cases fl with
  | ret u=>exact I.after hq
  | next=>exact False.elim hq
  | brk=>exact False.elim hq
  | cont=>exact False.elim hq
theorem wB (F:FnOk X.prog X.w X.K X.mg X.base CX k f fd ps sp) (hr:Room k X.A) (hg:Gl X x) (hm:X.mg x=some (.ref f)) (hk:PySem.W.keepIn X.K (.ref f)=true) (hb:Binds X.K fd ps ds) (hd:Vals dvs ds) (hx:kY CX X E)
  (ha:PA X (e::es) t) (hdb:(x==("__debug__":Str))=false:=by decide) (he:starEach (e::es) X.env=(false,eval e X.env)::starEach es X.env:=by rfl) (hpl:(backTo pos (starEach es X.env)).any (·.1)=false:=by rfl):
  PE X (.Call (.Name x p) (e::es) [] pos) (tCall sp dvs E t):=by
 intro pins s σ H Q I h
 refine wpAny_Call_Name_kw (oR I hg hm ?_ hdb)
 refine PySem.W.callWith_K (h₀:=X.base) I.ok.mod.kin hk (thn (ha pos pins s σ H _ I h) fun us s1 ⟨vs,H1,I1,r,q⟩=>⟨I1.kIn,?_⟩) he hpl
 exact uy F hr hb hd hx I1 r q
structure Mk (K:PySem.W.Frag) (C f:Addr):Prop where
 makes:PySem.W.makesIn K C=true
 init:PySem.W.findIn K (.ref C) "__init__"=some (some (.ref f))
 fn:PySem.W.isFn K (.ref f)=true
 kp:PySem.W.keepIn K (.ref C)=true
theorem vO {pins:List (Addr × Obj)} {σ:St} {H:Hp} {s:Shared} {Q:VK} {us:List Value} {vs:List V} (M:Mk X.K C f) (F:FnOk X.prog X.w X.K X.mg X.base CX k f fd ps sp) (hr:Room (k+1) X.A) (hb:Binds X.K fd ps ds) (hd:Vals dvs ds)
  (hx:kY CX X E) (I:Inv X pins σ H s) (r:Vals vs us)
  (h:∀ x dx,H x=none→H dx=none→dx≠x→sp (.ref x::(vs++dvs)) (upd (upd H dx (.own x)) x (.ins C dx [])) (fun v H2=>v=.non∧Q (.ref x) H2) E):
  wpAny (model X.prog X.w) X.A (call (.ref C) us) (EP X pins σ Q) X.xe s:=by
 have hq:=h (s.heap.objs.size+1) s.heap.objs.size (I.hok.fresh (Nat.le_succ _)) (I.hok.fresh (Nat.le_refl _)) (Nat.ne_of_lt (Nat.lt_succ_self _))
 have I2:=Inv.made (C:=C) I
 have r2:Vals (V.ref (s.heap.objs.size+1)::(vs++dvs)) (Value.ref (s.heap.objs.size+1)::(us++ds)):=.cons rfl (r.append hd)
 have hl:(Value.ref (s.heap.objs.size+1)::us++ds).length=ps.length:=by
  have e:=r2.length
  rw [F.len _ _ _ _ hq] at e
  exact e.symm
 refine wpAny_call (vN (f:=f) I.kIn M.makes M.init (beq_iff_eq.mp M.fn) (codeAny_mono (F.run _ X.stack _ _ ⟨Value.ref (s.heap.objs.size+1)::us,[]⟩ (Value.ref (s.heap.objs.size+1)::(us++ds)) _ _ E (hr.make C us [])
  (I2.env0.make C us []) (hb _ (Value.ref (s.heap.objs.size+1)::us) I2.kIn hl) r2 hq) fun r s' hq'=>?_))
 cases r with
 | error e=>exact hx pins σ _ _ e s' I2 hq'
 | ok fl=>
  cases fl with
  | ret u=>
   obtain ⟨v,H',I3,rv,ev,q3⟩:=I2.after hq'
   subst ev
   exact ⟨rv,⟨V.ref (s.heap.objs.size+1),H',I3,rfl,q3⟩⟩
  | next=>exact False.elim hq'
  | brk=>exact False.elim hq'
  | cont=>exact False.elim hq'
theorem wC (M:Mk X.K C f) (F:FnOk X.prog X.w X.K X.mg X.base CX k f fd ps sp) (hr:Room (k+1) X.A) (hg:Gl X x) (hm:X.mg x=some (.ref C)) (hb:Binds X.K fd ps ds) (hd:Vals dvs ds) (hx:kY CX X E)
  (ha:PA X (e::es) t) (hdb:(x==("__debug__":Str))=false:=by decide) (he:starEach (e::es) X.env=(false,eval e X.env)::starEach es X.env:=by rfl) (hpl:(backTo pos (starEach es X.env)).any (·.1)=false:=by rfl):
  PE X (.Call (.Name x p) (e::es) [] pos) (tMake C sp dvs E t):=by
 intro pins s σ H Q I h
 refine wpAny_Call_Name_kw (oR I hg hm ?_ hdb)
 refine PySem.W.callWith_K (h₀:=X.base) I.ok.mod.kin M.kp (thn (ha pos pins s σ H _ I h) fun us s1 ⟨vs,H1,I1,r,q⟩=>⟨I1.kIn,?_⟩) he hpl
 exact vO M F hr hb hd hx I1 r q
end
section
variable {X:Cx} {CX:CXT} {k:Nat} {f C:Addr} {fd:FuncData} {ps ks:List Str} {sp:Sp} {E:XK} {x m:Str} {p pos apos kpos:Pos} {e o:Expr} {es:List Expr} {kws:List Keyword} {te ta:TE} {t tk:TA} {nm:Option Str}
variable {g:List Value→List Value→List Value} {gV:List V→List V→List V}
end
structure aw (N P:List Str) (sc:Scope):Prop where
 kind:sc.kind=.function
 co:sc.isCoroutine=false
 gen:sc.isGenerator=false
 nd:N.Nodup
 pre:N.take P.length=P
 par:∀ x∈P,sc.names.lookup x=some .local∨sc.names.lookup x=some .cell
 nofree:∀ y∈sc.names,y.2≠.free
theorem pi {kindOf:Str→Option NameKind} {x:Str}:∀ {binds:List (Str × Value)} {m:Str→Option Value},(∀ v,(x,v)∉binds)→bindL kindOf binds m x=m x
 | [],_,_=>rfl
 | (n,v)::r,m,h=>by
  unfold bindL
  rw [pi fun w hw=>h w (List.mem_cons_of_mem _ hw)]
  split
  · have:x≠n:=by rintro rfl; exact h v List.mem_cons_self
    simp [this]
  · rfl
theorem pj {kindOf:Str→Option NameKind} {x:Str}:∀ {binds:List (Str × Value)} {m:Str→Option Value},(∀ v,(x,v)∉binds)→bindC kindOf binds m x=m x
 | [],_,_=>rfl
 | (n,v)::r,m,h=>by
  unfold bindC
  rw [pj fun w hw=>h w (List.mem_cons_of_mem _ hw)]
  split
  · rfl
  · have:x≠n:=by rintro rfl; exact h v List.mem_cons_self
    simp [this]
theorem pk {kindOf:Str→Option NameKind} {x:Str} {v:Value}:∀ {P:List Str} {vs:List Value} {i:Nat} {m:Str→Option Value},P.Nodup→P[i]? =some x→vs[i]? =some v→kindOf x=some .local→
  bindL kindOf (P.zip vs) m x=some v
 | [],_,_,_,_,h,_,_=>by simp at h
 | _::_,[],_,_,_,_,h,_=>by simp at h
 | p::P,w::vs,0,m,nd,h1,h2,hk=>by
  simp at h1 h2; subst h1; subst h2
  show bindL kindOf ((p,w)::P.zip vs) m p=_
  unfold bindL
  rw [pi fun v hv=>(List.nodup_cons.mp nd).1 (List.of_mem_zip hv).1,if_pos hk]
  simp
 | p::P,w::vs,i+1,m,nd,h1,h2,hk=>by
  show bindL kindOf ((p,w)::P.zip vs) m x=_
  unfold bindL
  exact pk (i:=i) (List.nodup_cons.mp nd).2 (by simpa using h1) (by simpa using h2) hk
theorem pp {kindOf:Str→Option NameKind} {x:Str} {v:Value}:∀ {P:List Str} {vs:List Value} {i:Nat} {m:Str→Option Value},P.Nodup→P[i]? =some x→vs[i]? =some v→kindOf x≠some .local→
  bindC kindOf (P.zip vs) m x=some v
 | [],_,_,_,_,h,_,_=>by simp at h
 | _::_,[],_,_,_,_,h,_=>by simp at h
 | p::P,w::vs,0,m,nd,h1,h2,hk=>by
  simp at h1 h2; subst h1; subst h2
  show bindC kindOf ((p,w)::P.zip vs) m p=_
  unfold bindC
  rw [pj fun v hv=>(List.nodup_cons.mp nd).1 (List.of_mem_zip hv).1,if_neg hk]
  simp
 | p::P,w::vs,i+1,m,nd,h1,h2,hk=>by
  show bindC kindOf ((p,w)::P.zip vs) m x=_
  unfold bindC
  exact pp (i:=i) (List.nodup_cons.mp nd).2 (by simpa using h1) (by simpa using h2) hk
def start (N:List Str) (vs:List V):St:=vs.map some++List.replicate (N.length - vs.length) none
def cxOf (CX:CXT) (P:Program) (w:World) (K:PySem.W.Frag) (mg:Str→Option Value) (base:Heap) (N:List Str) (qual:Str) (scope:Scope) (f:Addr) (cd:Value) (A:Around) (outer:List Env) (s:Shared) (H:Hp) (E:XK):Cx where
 prog:=P
 w:=w
 K:=K
 mg:=mg
 base:=base
 A:=A.deeper (envOfC qual scope s.heap.objs.size f cd)
 N:=N
 s₀:=s
 H₀:=H
 env:=envOfC qual scope s.heap.objs.size f cd
 outer:=outer
 stack:=envOfC qual scope s.heap.objs.size f cd::outer
 ex:=[]
 calm:=true
 fn:=fun _=>true
 pn:=[]
 xe:=fun e s'=>wpAny (model P w) (A.deeper (envOfC qual scope s.heap.objs.size f cd)) (leaving (envOfC qual scope s.heap.objs.size f cd) e) (fun _ s''=>CX outer H s E e s'') (fun e' s''=>CX outer H s E e' s'') s'
theorem kg {sc:Scope} {n:Nat} {x:Str} (h:sc.names.lookup x=some .cell):∃ c,(cellsFrom n sc.names []).lookup x=some c:=by
 have q:=PySem.W.cellsFrom_some sc.names n [] (.inl h)
 exact Option.isSome_iff_exists.mp q
theorem uz {CX:CXT} {P:Program} {w:World} {K:PySem.W.Frag} {mg:Str→Option Value} {base:Heap} {N ps:List Str} {qual:Str} {scope:Scope} {f:Addr} {cd:Value} {A:Around} {outer:List Env} {s s1:Shared} {H:Hp} {E:XK} {us:List Value} {vs:List V}
  (S:aw N ps scope) (hd:A.handled=none) (e0:Env0 P w K mg base A outer s H) (hl:vs.length=ps.length) (r:Vals vs us)
  (x:InCallC s s.heap.objs.size (bindL (envOfC qual scope s.heap.objs.size f cd).kindOf (ps.zip us) fun _=>none) (cellsFrom (s.heap.objs.size+1) scope.names []) (bindC (envOfC qual scope s.heap.objs.size f cd).kindOf (ps.zip us) fun _=>none) s1):
  Inv (cxOf CX P w K mg base N qual scope f cd A outer s H E) [] (start N vs) H s1:=by
 have hpl:ps.length≤N.length:=by have:=congrArg List.length S.pre; rw [List.length_take] at this; omega
 obtain ⟨h1,tk,rfl,hk⟩:=x.done
 have noA:∀ b:Addr,b∉(cxOf CX P w K mg base N qual scope f cd A outer s H E).ex:=fun b z=>absurd (show b∈([]:List Addr) from z) (by simp)
 refine ⟨⟨e0.mod,S.kind,rfl,rfl,Nat.le_refl _,fun y z c h1 h2=>?_,fun y hy=>?_,fun y c _ h=>?_,fun _=>hd,Around.frames_deeper e0.frames,.inr ⟨rfl,rfl⟩,fun b z=>absurd z (noA b),e0.bs,e0.bsz,fun b _ _=>noA b,fun b z=>absurd z (noA b),e0.funs,e0.frf⟩,
  rfl,e0.bare,Un.kept hk,⟨_,x.toInCall.ns,fun i y v h1 h2 h3=>?_⟩,fun y c h=>⟨_,x.cell y c h⟩,e0.hok.fresh (Nat.le_refl _),fun y c h=>?_,fun p hp=>absurd (show p∈([]:List (Addr × Obj)) from hp) (by simp),e0.hok.kept hk,?_⟩
 · exact name_of_addr x.apart (PySem.mem_of_lookup h1) (PySem.mem_of_lookup h2)
 · have hy:scope.names.lookup y=some .cell∨scope.names.lookup y=some .free:=hy
   rcases hy with hy | hy
   · exact kg hy
   · exact absurd rfl (S.nofree _ (PySem.mem_of_lookup hy))
 · exact Nat.le_of_lt (x.above y c (PySem.mem_of_lookup h))
 · have hi:i < vs.length:=by
    unfold start at h2
    by_cases hi:i < vs.length
    · exact hi
    · rw [List.getElem?_append_right (by simpa using hi)] at h2
      rw [List.getElem?_replicate] at h2
      split at h2 <;> cases h2
   have ha:vs[i]? =some v:=by
    unfold start at h2
    rw [List.getElem?_append_left (by simpa using hi),List.getElem?_map] at h2
    cases e:vs[i]? with
    | none=>rw [e] at h2; cases h2
    | some a=>rw [e] at h2; cases h2; rfl
   obtain ⟨u,hu,rv⟩:=r.get ha
   have hp:ps[i]? =some y:=by
    rw [← S.pre,List.getElem?_take_of_lt (by omega)]; exact h1
   have ndP:ps.Nodup:=by rw [← S.pre]; exact S.nd.sublist (List.take_sublist _ _)
   refine ⟨u,rv,?_⟩
   rcases S.par y (List.mem_of_getElem? hp) with k | k
   · exact .inl ⟨k,pk ndP hp hu k⟩
   · obtain ⟨c,e⟩:=kg (n:=s.heap.objs.size+1) k
     refine .inr ⟨.inl k,c,e,?_⟩
     have q:=x.cell y c e
     rw [pp ndP hp hu (by show scope.names.lookup y≠_; rw [k]; decide)] at q
     exact q
 · exact e0.hok.fresh (Nat.le_of_lt (x.above y c (PySem.mem_of_lookup h)))
 · unfold start
   show _=N.length
   rw [List.length_append,List.length_map,List.length_replicate]
   omega
theorem yD {CX:CXT} {P:Program} {w:World} {K:PySem.W.Frag} {mg:Str→Option Value} {base:Heap} {k:Nat} {f:Addr} {name qual:Str} {params:Arguments} {body:List Stmt} {scope:Scope} {dV kV doc pm cdv ct oc:Value} {an od:Option Addr}
  {osl:Array (Option Value)} {N ps:List Str} {sp:Sp} (lk:K.lookup f=some ⟨oc,od,.func (PySem.W.fnOf name qual params body scope dV kV doc pm an cdv ct),osl⟩) (hcd:PySem.W.codeIn K cdv qual=true) (S:aw N ps scope)
  (len:∀ vs H Q E,sp vs H Q E→vs.length=ps.length)
  (hbody:∀ (A:Around) (outer:List Env) (s:Shared) (H:Hp) (vs:List V) (Q:VK) (E:XK),Room k (A.deeper (envOfC qual scope s.heap.objs.size f cdv))→sp vs H Q E→
   ∃ t,PSs (cxOf CX P w K mg base N qual scope f cdv A outer s H E) body t∧t { nx:=fun _ H'=>Q .non H',rt:=Q } (start N vs) H):
  FnOk P w K mg base CX (k+1) f (PySem.W.fnOf name qual params body scope dV kV doc pm an cdv ct) ps sp:=by
 refine ⟨len,fun A outer s H args us vs Q E hr e0 hb r hsp=>?_⟩
 have hl:=len _ _ _ _ hsp
 have KX:K.In s.heap:=e0.mod.kin.keeps fun b o e=>(e0.bs b o e).1
 have lim:s.heap.NoLimit:=e0.mod.nolimit.keeps fun b o e=>(e0.bs b o e).1
 have hkind:∀ y∈ps.zip us,scope.names.lookup y.1=some .local∨(scope.names.lookup y.1=some .cell∧((cellsFrom (s.heap.objs.size+1) scope.names []).lookup y.1).isSome=true):=fun ⟨n,v⟩ hy=>by
  rcases S.par n (List.of_mem_zip hy).1 with q | q
  · exact .inl q
  · exact .inr ⟨q,PySem.W.cellsFrom_some _ _ _ (.inl q)⟩
 refine codeAny_call_function hr.depth (KX _ _ lk) rfl S.co S.gen rfl (PySem.W.codeRec_of KX hcd) (hb _ _ _ _ ?_)
 refine wpAny_newFunctionEnv_cells S.kind hkind fun env he s1 x=>?_
 subst he
 refine ⟨lim.keeps x.toInCall.keep,codeAny_func ?_⟩
 obtain ⟨t,ht,hq⟩:=hbody A outer s H vs Q E (hr.deeper _) hsp
 have I:Inv (cxOf CX P w K mg base N qual scope f cdv A outer s H E) [] (start N vs) H s1:=uz S hr.hd e0 hl r x
 refine wpAny_mono (ht [] s1 (start N vs) H _ I hq) (fun fl s' hs=>?_) fun e s' hs=>hs
 have fin:∀ {σ':St} {H':Hp} {v:V} {u:Value},Inv (cxOf CX P w K mg base N qual scope f cdv A outer s H E) [] σ' H' s'→RelV v u→Q v H'→CE outer P w H s Q u s':=
  fun {σ' H' v u} J rv q=>⟨v,H',J.os,J.bare,J.base,J.hok,rv,q⟩
 cases fl with
 | ret u=>
  obtain ⟨v,σ',H',J,rv,q⟩:=hs
  exact fin J rv q
 | next=>
  obtain ⟨σ',H',J,q⟩:=hs
  exact fin (v:=V.non) (u:=Value.none) J rfl q
 | brk=>
  obtain ⟨_,_,_,q⟩:=hs
  exact False.elim q
 | cont=>
  obtain ⟨_,_,_,q⟩:=hs
  exact False.elim q
end L2
namespace L2
open PySem PySem.Spec PyProof.Rows
section
variable {X:Cx} {x:Str} {p pos:Pos} {e:Expr} {es:List Expr} {t:TA} {id T:String} {r:List V→Hp→VK→Prop}
def tCB (r:List V→Hp→VK→Prop) (t:TA):TE:=fun σ H Q=>t σ H fun vs H1=>r vs H1 Q
theorem aC (hc:CallR X (.builtin id) r) (hg:Gl X x) (hm:X.mg x=none) (hv:bootBuiltins x=some (.builtin id)) (ha:PA X (e::es) t) (hn:x≠"__name__":=by decide) (hdb:(x==("__debug__":Str))=false:=by decide)
  (he:starEach (e::es) X.env=(false,eval e X.env)::starEach es X.env:=by rfl) (hpl:(backTo pos (starEach es X.env)).any (·.1)=false:=by rfl):PE X (.Call (.Name x p) (e::es) [] pos) (tCB r t):=by
 intro pins s σ H Q I h
 refine wpAny_Call_Name_kw (eE I hg hm hv ?_ hn hdb)
 exact PyProof.Rows.callWith_builtin1 (thn (ha pos pins s σ H _ I h) fun us s1 ⟨vs,H1,I1,r1,q1⟩=>hc pins s1 σ H1 vs us Q I1 r1 q1) he hpl
theorem dP (hc:CallR X (.type T) r) (hg:Gl X x) (hm:X.mg x=none) (hv:bootBuiltins x=some (.type T)) (ha:PA X (e::es) t) (hn:x≠"__name__":=by decide) (hdb:(x==("__debug__":Str))=false:=by decide)
  (he:starEach (e::es) X.env=(false,eval e X.env)::starEach es X.env:=by rfl) (hpl:(backTo pos (starEach es X.env)).any (·.1)=false:=by rfl):PE X (.Call (.Name x p) (e::es) [] pos) (tCB r t):=by
 intro pins s σ H Q I h
 refine wpAny_Call_Name_kw (eE I hg hm hv ?_ hn hdb)
 exact PyProof.Rows.callWith_type1 (thn (ha pos pins s σ H _ I h) fun us s1 ⟨vs,H1,I1,r1,q1⟩=>hc pins s1 σ H1 vs us Q I1 r1 q1) he hpl
end
end L2
namespace HT
open PySem PyProof.Rows
section
open PySem.SeqAt
open PySem.AutoSeq1 (wpAny_loadPart')
open PySem.MeetsSeq PySem.MeetsSeq2 PySem.MeetsSeq3
end
section
variable {prog:Program} {w:World} {A:Around} {E:Value→Shared→Prop} {s:Shared}
def sIx (n d:Nat):Option Int→Nat
 | none=>d
 | some v=>if v < 0 then (v+(n:Int)).toNat else min v.toNat n
theorem sIx_nat (n d k:Nat):sIx n d (some (k:Int))=min k n:=by
 show (if (k:Int) < 0 then ((k:Int)+(n:Int)).toNat else min (k:Int).toNat n)=min k n
 rw [if_neg (by omega),Int.toNat_natCast]
end
end HT
namespace L2
open PySem PySem.Spec PyProof.Rows
abbrev TO:=St→Hp→(Option Int→Hp→Prop)→Prop
def PO (X:Cx) (e:Option Expr) (t:TO):Prop:=
 ∀ (pins:List (Addr × Obj)) (s:Shared) (σ:St) (H:Hp) (Q:Option Int→Hp→Prop),Inv X pins σ H s→t σ H Q→
  wpAny (model X.prog X.w) X.A (evalPart e X.env) (fun u s'=>∃ o H',Inv X pins σ H' s'∧IsPart u o∧Q o H') X.xe s
def i8:TO:=fun _ H Q=>Q none H
def tPart (t:TE):TO:=fun σ H Q=>t σ H fun x H1=>∃ i,x=.int i∧Q (some i) H1
theorem nr {ns:List Int}:∀ {us:List Value},Vals (ns.map V.int) us→IntsAre us ns:=by
 induction ns with
 | nil=>intro us r; rw [List.map_nil] at r; cases r; exact .nil
 | cons n ns ih=>
  intro us r
  rw [List.map_cons] at r
  cases r with
  | cons r1 r2=>
   obtain ⟨t,e⟩:=r1
   subst e
   exact .cons n t (ih r2)
section
variable {X:Cx} {e:Expr} {te:TE} {lo hi:Option Expr} {tl th:TO} {pos p2:Pos}
theorem oS:PO X none i8:=by
 intro pins s σ H Q I h
 rw [evalPart_none]
 exact wpAny_pure ⟨none,H,I,.none,h⟩
theorem oT (h:PE X e te):PO X (some e) (tPart te):=by
 intro pins s σ H Q I hw
 rw [evalPart_some]
 refine thn (h pins s σ H _ I hw) fun u s1 ⟨x,H1,I1,r1,q1⟩=>?_
 obtain ⟨i,rfl,q⟩:=q1
 obtain ⟨t,rfl⟩:=r1
 exact ⟨some i,H1,I1,.int i t,q⟩
def SlR (X:Cx) (r:V→Option Int→Option Int→Hp→VK→Prop):Prop:=
 ∀ (pins:List (Addr × Obj)) (s:Shared) (σ:St) (H:Hp) (x:V) (v vl vu:Value) (lo hi:Option Int) (sl:Addr) (Q:VK),Inv X pins σ H s→RelV x v→s.heap.IsSliceOf sl vl vu .none→IsPart vl lo→IsPart vu hi→r x lo hi H Q→
  ∃ T id,typeLookup (.type T) "__getitem__"=pure (some (.builtin id))∧s.TypeIs v T∧wpAny (model X.prog X.w) X.A (getItem v (.ref sl)) (EP X pins σ Q) X.xe s
def tSl (r:V→Option Int→Option Int→Hp→VK→Prop) (te:TE) (tl th:TO):TE:=fun σ H Q=>te σ H fun x H1=>tl σ H1 fun l H2=>th σ H2 fun u H3=>r x l u H3 Q
theorem mI {r:V→Option Int→Option Int→Hp→VK→Prop} (hr:SlR X r) (he:PE X e te) (hl:PO X lo tl) (hu:PO X hi th):PE X (.Subscript e (.Slice lo hi none p2) pos) (tSl r te tl th):=by
 intro pins s σ H Q I h
 refine Subscript_ (thn (he pins s σ H _ I h) fun v s1 ⟨x,H1,I1,r1,q1⟩=>?_)
 refine wpAny_Slice (thn (hl pins s1 σ H1 _ I1 q1) fun vl s2 ⟨l,H2,I2,pl,q2⟩=>thn (hu pins s2 σ H2 _ I2 q2) fun vu s3 ⟨u,H3,I3,pu,q3⟩=>?_)
 rw [evalPart_none]
 refine wpAny_pure ?_
 have I4:Inv X pins σ H3 { s3 with heap:=s3.heap.push { cls:=.type "slice",data:=.fields #[vl,vu,.none] } }:=I3.kept (t':=s3.toks) fun b ob q=>Heap.get?_push_of_some _ q
 obtain ⟨T,id,hT,ht,hg⟩:=hr pins { s3 with heap:=s3.heap.push { cls:=.type "slice",data:=.fields #[vl,vu,.none] } } σ H3 x v vl vu l u s3.heap.objs.size Q I4 r1 (Heap.IsSliceOf.new ..) pl pu q3
 show wpAny (model X.prog X.w) X.A (subscriptTail e (.Slice lo hi none p2) v (.ref s3.heap.objs.size)) (EP X pins σ Q) X.xe { s3 with heap:=s3.heap.push { cls:=.type "slice",data:=.fields #[vl,vu,.none] } }
 exact tail_any (ops:=[.ref s3.heap.objs.size,v]) ht hT hg (by with_unfolding_all rfl)
def cutV (xs:List V) (lo hi:Option Int):List V:=(xs.drop (HT.sIx xs.length 0 lo)).take (HT.sIx xs.length xs.length hi - HT.sIx xs.length 0 lo)
theorem rJ (xs:List V) (lo hi:Option Int):(cutV xs lo hi).length≤xs.length:=by
 unfold cutV
 rw [List.length_take,List.length_drop]
 omega
end
end L2
namespace L2
open PySem PySem.Spec PyProof.Rows
def ixN (n:Nat) (i:Int):Option Nat:=if 0≤i then (if i < n then some i.toNat else none) else if -(n:Int)≤i then some (i+n).toNat else none
def atI {α:Type} (xs:List α) (i:Int):Option α:=(ixN xs.length i).bind fun j=>xs[j]?
theorem wD {n:Nat} {i:Int} {j:Nat} (h:ixN n i=some j):seqIndex? i n=some j∧j < n∧ -(n:Int)≤i∧i < n:=by
 unfold ixN at h
 by_cases h0:0≤i
 · rw [if_pos h0] at h
   by_cases h1:i < n
   · rw [if_pos h1] at h
     have e:i.toNat=j:=Option.some.inj h
     exact ⟨by rw [seqIndex_of h0 h1,e],by omega,by omega,h1⟩
   · rw [if_neg h1] at h; cases h
 · rw [if_neg h0] at h
   by_cases h1: -(n:Int)≤i
   · rw [if_pos h1] at h
     have e:(i+n).toNat=j:=Option.some.inj h
     exact ⟨by rw [seqIndex_neg (by omega) h1,e],by omega,h1,by omega⟩
   · rw [if_neg h1] at h; cases h
theorem oU {α:Type} {xs:List α} {i:Int} {v:α} (h:atI xs i=some v):∃ j,seqIndex? i xs.length=some j∧xs[j]? =some v∧j < xs.length∧ -(xs.length:Int)≤i∧i < xs.length:=by
 unfold atI at h
 cases e:ixN xs.length i with
 | none=>rw [e] at h; cases h
 | some j=>
  rw [e] at h
  obtain ⟨h1,h2,h3,h4⟩:=wD e
  exact ⟨j,h1,h,h2,h3,h4⟩
theorem gB {α:Type} {xs:List α} {j:Nat} {v:α} (h:xs[j]? =some v):atI xs (j:Int)=some v:=by
 have hj:j < xs.length:=(List.getElem?_eq_some_iff.mp h).1
 have e:ixN xs.length (j:Int)=some j:=by
  unfold ixN
  rw [if_pos (by omega),if_pos (by omega)]; simp
 unfold atI; rw [e]; exact h
def sw (b:Expr):Prop:=∀ o i,subscripted b false o i=operate [o,i] (getItem o i)
def IxR (X:Cx) (r:R2):Prop:=
 ∀ (value slice:Expr) (pins:List (Addr × Obj)) (s:Shared) (σ:St) (H:Hp) (x y:V) (v u:Value) (Q:VK),Inv X pins σ H s→RelV x v→RelV y u→r x y H Q→
  subscripted slice false v u=operate [v,u] (getItem v u)→wpAny (model X.prog X.w) X.A (subscriptTail value slice v u) (EP X pins σ Q) X.xe s
def MtR (X:Cx) (id:String) (r:V→List V→Hp→VK→Prop):Prop:=
 ∀ (pins:List (Addr × Obj)) (s:Shared) (σ:St) (H:Hp) (x:V) (xs:List V) (v:Value) (us:List Value) (Q:VK),Inv X pins σ H s→RelV x v→Vals xs us→r x xs H Q→
  wpAny (model X.prog X.w) X.A (call (.builtin id) (v::us)) (EP X pins σ Q) X.xe s
section
variable {X:Cx} {a b:Expr} {ta tb:TE} {pos:Pos}
theorem ak {r:R2} (hr:IxR X r) (ha:PE X a ta) (hb:PE X b tb) (hs:sw b):PE X (.Subscript a b pos) (tOp r ta tb):=by
 intro pins s σ H Q I h
 exact Subscript_ (binT ha hb I h fun v u s2 x y H2 I2 rx ry q=>hr a b pins s2 σ H2 x y v u Q I2 rx ry q (hs _ _))
def rIxL (K:PySem.W.Frag):R2:=fun x y H Q=>∃ p xs i v,x=.ref p∧y=.int i∧SqL K H p xs∧atI xs i=some v∧Q v H
def rIxT (K:PySem.W.Frag):R2:=fun x y H Q=>∃ p xs i v,x=.ref p∧y=.int i∧SqT K H p xs∧atI xs i=some v∧Q v H
def rIxS:R2:=fun x y H Q=>∃ z i c,x=.str z∧y=.int i∧z.length≤sizeLine∧atI z.cps.toList i=some c∧Q (.str ⟨#[c]⟩) H
theorem sx:IxR X (rIxL X.K):=by
 intro value slice pins s σ H x y v u Q I rx ry h hs
 obtain ⟨p,xs,i,z,rfl,rfl,hq,he,q⟩:=h
 cases rx
 obtain ⟨t,rfl⟩:=ry
 obtain ⟨its,r,pl,hz⟩:=I.list hq
 obtain ⟨j,h1,h2,h3,h4,h5⟩:=oU he
 obtain ⟨w,ew,rw'⟩:=r.get h2
 have hl:=r.length
 have hn:=kW
 have fin:EP X pins σ Q w s:=⟨z,H,I,rw',q⟩
 by_cases h0:0≤i
 · have hj:i.toNat=j:=by
    rw [seqIndex_of h0 h5] at h1
    exact Option.some.inj h1
   exact item_listR pl.isList h0 (by omega) (by rw [hj]; simpa using ew) fin hs
 · have hj:(i+(its.toArray.size:Int)).toNat=j:=by
    rw [seqIndex_neg (by omega) h4] at h1
    rw [List.size_toArray,← hl]
    exact Option.some.inj h1
   exact subscriptTail_builtinR (x:=w) pl.isList.typeIs slot_list_getitem.lookup
    (wpAny_getItem_list_neg (Q:=fun r s'=>r=w∧EP X pins σ Q r s') pl.isList (by omega) (by rw [List.size_toArray] <;> omega) (by omega) (by rw [hj]; simpa using ew) ⟨rfl,fin⟩) hs
theorem xF:IxR X (rIxT X.K):=by
 intro value slice pins s σ H x y v u Q I rx ry h hs
 obtain ⟨p,xs,i,z,rfl,rfl,hq,he,q⟩:=h
 cases rx
 obtain ⟨t,rfl⟩:=ry
 obtain ⟨its,r,pl,hz⟩:=I.tuple hq
 obtain ⟨j,h1,h2,h3,h4,h5⟩:=oU he
 obtain ⟨w,ew,rw'⟩:=r.get h2
 have hl:=r.length
 have hn:=kW
 have fin:EP X pins σ Q w s:=⟨z,H,I,rw',q⟩
 exact subscriptTail_builtinR (x:=w) pl.typeIs slot_tuple_getitem.lookup
  (getItem_tuple (j:=j) (Q:=fun r s'=>r=w∧EP X pins σ Q r s') pl (by omega) (by omega) (by rw [List.size_toArray,← hl]; exact h1) (by simpa using ew) ⟨rfl,fin⟩) hs
theorem xG:IxR X rIxS:=by
 intro value slice pins s σ H x y v u Q I rx ry h hs
 obtain ⟨z,i,c,rfl,rfl,hz,he,q⟩:=h
 obtain ⟨t,rfl⟩:=rx
 obtain ⟨t',rfl⟩:=ry
 obtain ⟨j,h1,h2,h3,h4,h5⟩:=oU he
 have hl:z.cps.toList.length=z.length:=by simp [Str.length]
 rw [hl] at h1 h4 h5
 have hn:=kW
 exact tail_any (typeIs_str s z t) slot_str_getitem.lookup (getItem_str (c:=c) (by
  have e1:decide (i < -(2^63:Int))=false:=decide_eq_false (by omega)
  have e2:decide (i ≥ 2^63)=false:=decide_eq_false (by omega)
  rw [e1,e2,Bool.or_false]) (by rw [h1]; simpa using h2) ⟨.str ⟨#[c]⟩,H,I.tok _,⟨_,rfl⟩,q⟩) hs
theorem Inv.lst {pins:List (Addr × Obj)} {σ:St} {H:Hp} {s:Shared} {p:Addr} {xs:List V} (I:Inv X pins σ H s) (h:H p=some (.lst xs)):
  ∃ (its:List Value) (n:Nat),Vals xs its∧s.heap.get? p=some { cls:=.type "list",data:=.seq its.toArray n }∧xs.length≤sizeLine:=by
 obtain ⟨z,its,n,r,e⟩:=I.hok p _ h
 exact ⟨its,n,r,e,z⟩
theorem qg (lo hi:Option Int) (n:Nat):(sliceBounds lo hi none n).1=((HT.sIx n 0 lo:Nat):Int)∧(sliceBounds lo hi none n).2.1=((HT.sIx n n hi:Nat):Int)∧(sliceBounds lo hi none n).2.2=1:=by
 refine ⟨?_,?_,rfl⟩
 · cases lo with
   | none=>simp [sliceBounds,HT.sIx]
   | some i=>
    simp only [sliceBounds,HT.sIx,Option.getD_none,show (1:Int) > 0 by decide,if_true]
    by_cases h:i < 0
    · simp only [h,if_true] <;> omega
    · simp only [h,if_false] <;> omega
 · cases hi with
   | none=>simp [sliceBounds,HT.sIx]
   | some i=>
    simp only [sliceBounds,HT.sIx,Option.getD_none,show (1:Int) > 0 by decide,if_true]
    by_cases h:i < 0
    · simp only [h,if_true] <;> omega
    · simp only [h,if_false] <;> omega
theorem pI (its:List Value) (lo hi:Option Int):slicePick its.toArray lo hi none=((its.drop (HT.sIx its.length 0 lo)).take (HT.sIx its.length its.length hi - HT.sIx its.length 0 lo)).toArray:=by
 obtain ⟨h1,h2,h3⟩:=qg lo hi its.toArray.size
 unfold slicePick
 rw [h1,h2,h3]
 simp only [sliceRange_one,pick_run,List.size_toArray] <;> rfl
def rSlL (K:PySem.W.Frag):V→Option Int→Option Int→Hp→VK→Prop:=fun x lo hi H Q=>∃ a xs,x=.ref a∧SqL K H a xs∧∀ p,H p=none→Q (.ref p) (upd H p (.lst (cutV xs lo hi)))
theorem wE:SlR X (rSlL X.K):=by
 intro pins s σ H x v vl vu lo hi sl Q I rx hs pl pu h
 obtain ⟨a,xs,rfl,hx,q⟩:=h
 cases rx
 obtain ⟨its,r,ht,hz⟩:=I.list hx
 have hlen:=r.length
 refine ⟨"list",_,slot_list_getitem.lookup,ht.isList.typeIs,?_⟩
 refine wpAny_getItem_list_slice ht.isList hs pl pu .none (by simp) ?_ (by rw [List.size_toArray] <;> omega)
 rw [pI,← hlen]
 refine ⟨.ref s.heap.objs.size,_,I.laid (t':=s.toks) (o:=.lst (cutV xs lo hi)) (fun b ob q=>Heap.get?_push_of_some _ q) (Nat.le_refl _) ?_,rfl,q _ (I.hok.fresh (Nat.le_refl _))⟩
 exact ⟨Nat.le_trans (rJ xs lo hi) hz,_,0,(r.drop (HT.sIx xs.length 0 lo)).take (HT.sIx xs.length xs.length hi - HT.sIx xs.length 0 lo),Heap.get?_push_size _ rfl⟩
def flatV:V→Bool
 | .non=>true
 | .bl _=>true
 | .int _=>true
 | .str _=>true
 | _=>false
def eqV:V→V→Bool
 | .non,.non=>true
 | .bl a,.bl b=>a==b
 | .bl a,.int b=>(if a then 1 else 0)==b
 | .int a,.bl b=>a==(if b then 1 else 0)
 | .int a,.int b=>a==b
 | .str a,.str b=>a==b
 | _,_=>false
theorem xH {A:Around} {s:Shared} {y x:V} {u v:Value} (ry:RelV y u) (rx:RelV x v) (fy:flatV y=true) (fx:flatV x=true):SeqAt.EqAt A s u v (eqV y x):=by
 cases y with
 | non=>
  cases ry
  cases x with
  | non=>cases rx; exact SeqAt.EqAt.same _
  | bl b=>cases rx; exact SeqAt.EqAt.none_bool b
  | int b=>obtain ⟨t,rfl⟩:=rx; exact SeqAt.EqAt.none_int b t
  | str b=>obtain ⟨t,rfl⟩:=rx; exact SeqAt.EqAt.none_str b t
  | _=>exact absurd (show false=true from fx) Bool.false_ne_true
 | bl a=>
  cases ry
  cases x with
  | non=>cases rx; exact SeqAt.EqAt.bool_none a
  | bl b=>cases rx; exact SeqAt.EqAt.bool_bool a b
  | int b=>obtain ⟨t,rfl⟩:=rx; exact SeqAt.EqAt.bool_int a b t
  | str b=>obtain ⟨t,rfl⟩:=rx; exact SeqAt.EqAt.bool_str a b t
  | _=>exact absurd (show false=true from fx) Bool.false_ne_true
 | int a=>
  obtain ⟨t',rfl⟩:=ry
  cases x with
  | non=>cases rx; exact SeqAt.EqAt.int_none a t'
  | bl b=>cases rx; exact SeqAt.EqAt.int_bool a t' b
  | int b=>obtain ⟨t,rfl⟩:=rx; exact SeqAt.EqAt.int_int a t' b t
  | str b=>obtain ⟨t,rfl⟩:=rx; exact SeqAt.EqAt.int_str a t' b t
  | _=>exact absurd (show false=true from fx) Bool.false_ne_true
 | str a=>
  obtain ⟨t',rfl⟩:=ry
  cases x with
  | non=>cases rx; exact SeqAt.EqAt.str_none a t'
  | bl b=>cases rx; exact SeqAt.EqAt.str_bool a t' b
  | int b=>obtain ⟨t,rfl⟩:=rx; exact SeqAt.EqAt.str_int a t' b t
  | str b=>obtain ⟨t,rfl⟩:=rx; exact SeqAt.EqAt.str_str a t' b t
  | _=>exact absurd (show false=true from fx) Bool.false_ne_true
 | _=>exact absurd (show false=true from fy) Bool.false_ne_true
def eqU (x:V) (u:Value):Bool:=match u with
 | .none=>eqV .non x
 | .bool b=>eqV (.bl b) x
 | .int i _=>eqV (.int i) x
 | .str z _=>eqV (.str z) x
 | _=>false
theorem uA {x y:V} {u:Value} (r:RelV y u) (f:flatV y=true):eqU x u=eqV y x:=by
 cases y with
 | non=>cases r; rfl
 | bl b=>cases r; rfl
 | int i=>obtain ⟨t,rfl⟩:=r; rfl
 | str z=>obtain ⟨t,rfl⟩:=r; rfl
 | _=>exact absurd (show false=true from f) Bool.false_ne_true
theorem j3 {x:V}:∀ {xs:List V} {us:List Value},Vals xs us→xs.all flatV=true→us.any (eqU x)=xs.any fun y=>eqV y x
 | _,_,.nil,_=>rfl
 | y::xs,u::us,.cons r t,f=>by
  rw [List.all_cons,Bool.and_eq_true] at f
  rw [List.any_cons,List.any_cons,uA r f.1,j3 t f.2]
theorem jh {A:Around} {s:Shared} {x:V} {v:Value} (rx:RelV x v) (fx:flatV x=true):∀ {xs:List V} {us:List Value},Vals xs us→xs.all flatV=true→∀ u∈us,SeqAt.EqAt A s u v (eqU x u)
 | _,_,.nil,_=>fun u hu=>by cases hu
 | y::xs,u::us,.cons r t,f=>fun u' hu=>by
  rw [List.all_cons,Bool.and_eq_true] at f
  rcases List.mem_cons.mp hu with rfl | hu
  · rw [uA r f.1]; exact xH r rx f.1 fx
  · exact jh rx fx t f.2 u' hu
def inV (x:V) (xs:List V):Bool:=xs.any fun y=>eqV y x
def rIn (K:PySem.W.Frag) (neg:Bool):R2:=fun x y H Q=>∃ p xs,y=.ref p∧(SqL K H p xs∨SqT K H p xs)∧flatV x=true∧xs.all flatV=true∧Q (.bl (if neg then !inV x xs else inV x xs)) H
theorem kZ:OpR X (compareOp .In) (rIn X.K false):=by
 intro pins s σ H x y v u Q I rx ry h
 obtain ⟨p,xs,rfl,hq,fx,fs,q⟩:=h
 cases ry
 rcases hq with hq | hq
 · obtain ⟨its,r,pl,hz⟩:=I.list hq
   refine SeqAt.in_listAt (eqU x) pl.isList (fun w hw=>jh rx fx r fs w (by simpa using hw)) ⟨.bl _,H,I,rfl,?_⟩
   rw [show its.toArray.any (eqU x)=its.any (eqU x) by simp,j3 r fs]
   exact q
 · obtain ⟨its,r,pl,hz⟩:=I.tuple hq
   refine SeqAt.in_tupleAt (eqU x) pl (fun w hw=>jh rx fx r fs w (by simpa using hw)) ⟨.bl _,H,I,rfl,?_⟩
   rw [show its.toArray.any (eqU x)=its.any (eqU x) by simp,j3 r fs]
   exact q
theorem k7:OpR X (compareOp .NotIn) (rIn X.K true):=by
 intro pins s σ H x y v u Q I rx ry h
 obtain ⟨p,xs,rfl,hq,fx,fs,q⟩:=h
 cases ry
 rcases hq with hq | hq
 · obtain ⟨its,r,pl,hz⟩:=I.list hq
   refine SeqAt.notIn_listAt (eqU x) pl.isList (fun w hw=>jh rx fx r fs w (by simpa using hw)) ⟨.bl _,H,I,rfl,?_⟩
   rw [show its.toArray.any (eqU x)=its.any (eqU x) by simp,j3 r fs]
   exact q
 · obtain ⟨its,r,pl,hz⟩:=I.tuple hq
   refine SeqAt.notIn_tupleAt (eqU x) pl (fun w hw=>jh rx fx r fs w (by simpa using hw)) ⟨.bl _,H,I,rfl,?_⟩
   rw [show its.toArray.any (eqU x)=its.any (eqU x) by simp,j3 r fs]
   exact q
theorem qh:OpR X (compareOp .NotIn) (fun x y H Q=>∃ i j,x=.str i∧y=.str j∧Q (.bl (!(!(Builtin.Str.occurrences j i 0 j.length 1).isEmpty))) H):=by
 intro pins s σ H x y v u Q I rx ry h
 obtain ⟨i,j,rfl,rfl,q⟩:=h
 obtain ⟨t,rfl⟩:=rx
 obtain ⟨t',rfl⟩:=ry
 exact notIn_str ⟨.bl _,H,I,rfl,q⟩
theorem fG:CallR X (.builtin "len") (fun xs H Q=>∃ p ys,xs=[.ref p]∧(SqL X.K H p ys∨SqT X.K H p ys)∧Q (.int ys.length) H):=by
 intro pins s σ H xs us Q I r h
 obtain ⟨p,ys,rfl,hq,q⟩:=h
 obtain ⟨u,rfl,rx⟩:=fF r
 cases rx
 have hn:=kW
 rcases hq with hq | hq
 · obtain ⟨its,r',pl,hz⟩:=I.list hq
   have hlen:=r'.length
   exact Calls.call_len_list pl.isList (by simp only [List.size_toArray] <;> omega) ⟨.int ys.length,H,I.tok _,⟨s.toks+1,by rw [List.size_toArray,hlen]⟩,q⟩
 · obtain ⟨its,r',pl,hz⟩:=I.tuple hq
   have hlen:=r'.length
   exact len_tuple pl (by simp only [List.size_toArray] <;> omega) ⟨.int ys.length,H,I.tok _,⟨s.toks+1,by rw [List.size_toArray,hlen]⟩,q⟩
theorem qi:CallR X (.builtin "len") (fun xs H Q=>∃ z,xs=[.str z]∧z.length≤sizeLine∧Q (.int z.length) H):=by
 intro pins s σ H xs us Q I r h
 obtain ⟨z,rfl,hz,q⟩:=h
 obtain ⟨u,rfl,t,rfl⟩:=fF r
 have hn:=kW
 exact len_str (by omega) ⟨.int z.length,H,I.tok _,⟨_,rfl⟩,q⟩
theorem qj:CallR X (.type "list") (fun xs H Q=>∃ p ys,xs=[.ref p]∧(SqL X.K H p ys∨SqT X.K H p ys)∧∀ l,H l=none→Q (.ref l) (upd H l (.lst ys))):=by
 intro pins s σ H xs us Q I r h
 obtain ⟨p,ys,rfl,hq,q⟩:=h
 obtain ⟨u,rfl,rx⟩:=fF r
 cases rx
 have fin:∀ (its:List Value),Vals ys its→ys.length≤sizeLine→∀ (h':Heap) (c':Nat),(∀ b o',s.heap.get? b=some o'→h'.get? b=some o')→
   h'.get? s.heap.objs.size=some { cls:=.type "list",dict:=none,data:=.seq its.toArray c',slots:=#[] }→EP X pins σ Q (.ref s.heap.objs.size) { s with heap:=h' }:=fun its r' hz h' c' kp e=>
  ⟨.ref s.heap.objs.size,_,I.laid (t':=s.toks) kp (Nat.le_refl _) (show ObjOk X.prog X.w _ h' _ (.lst ys) from ⟨hz,its,c',r',e⟩),rfl,q _ (I.hok.fresh (Nat.le_refl _))⟩
 rcases hq with hq | hq
 · obtain ⟨its,r',pl,hz⟩:=I.list hq
   have hlen:=r'.length
   obtain ⟨o,ho,hc,n,hd⟩:=pl.isList
   exact call_list_seq p (.inl rfl) ho hc hd (fun h' c' kp e=>fin its r' hz h' c' kp e) (by simp only [List.size_toArray] <;> omega)
 · obtain ⟨its,r',pl,hz⟩:=I.tuple hq
   have hlen:=r'.length
   obtain ⟨o,ho,hc,n,hd⟩:=pl
   exact call_list_seq p (.inr rfl) ho hc hd (fun h' c' kp e=>fin its r' hz h' c' kp e) (by simp only [List.size_toArray] <;> omega)
theorem pJ:CallR X (.type "tuple") (fun xs H Q=>∃ p ys,xs=[.ref p]∧((SqL X.K H p ys∧∀ l,H l=none→Q (.ref l) (upd H l (.tup ys)))∨(SqT X.K H p ys∧Q (.ref p) H))):=by
 intro pins s σ H xs us Q I r h
 obtain ⟨p,ys,rfl,h⟩:=h
 obtain ⟨u,rfl,rx⟩:=fF r
 cases rx
 rcases h with ⟨hq,q⟩ | ⟨hq,q⟩
 · obtain ⟨its,r',pl,hz⟩:=I.list hq
   have hlen:=r'.length
   refine call_tuple_list pl.isList (fun h' kp=>?_) (by simp only [List.size_toArray] <;> omega)
   have I1:Inv X pins σ H { s with heap:=h' }:=I.kept (t':=s.toks) kp
   have I2:Inv X pins σ (upd H h'.objs.size (.tup ys)) { s with heap:=h'.push { cls:=.type "tuple",data:=.seq its.toArray } }:=
    I1.laid (t':=s.toks) (fun b o e=>Heap.get?_push_of_some _ e) (Nat.le_refl _) (show ObjOk X.prog X.w _ _ _ (.tup ys) from ⟨hz,its,r',IsTup.new _ _⟩)
   exact ⟨.ref h'.objs.size,_,I2,rfl,q _ (I1.hok.fresh (Nat.le_refl _))⟩
 · obtain ⟨its,r',pl,hz⟩:=I.tuple hq
   exact call_tuple_same pl ⟨.ref p,H,I,rfl,q⟩
def tyV (K:PySem.W.Frag) (T:String) (x:V) (H:Hp):Prop:=match x with
 | .str _=>T="str"
 | .int _=>T="int"
 | .ref p=>(T="list"∧∃ xs,SqL K H p xs)∨(T="tuple"∧∃ o,K.lookup p=some o∧o.cls=.type "tuple"∧o.dict=none)∨
   (T="dict"∧((∃ kvs,H p=some (.dK kvs))∨∃ kvs,H p=some (.dT kvs)))∨(T="set"∧∃ S n,H p=some (.set S n))
 | _=>False
theorem uB {pins:List (Addr × Obj)} {σ:St} {H:Hp} {s:Shared} {T:String} {x:V} {v:Value} (I:Inv X pins σ H s) (r:RelV x v) (ty:tyV X.K T x H):
  s.TypeIs v T∧∀ a,v=.ref a→∃ ob,s.heap.get? a=some ob∧ob.dict=none:=by
 cases x with
 | str z=>
  obtain ⟨t,rfl⟩:=r
  cases (show T="str" from ty)
  exact ⟨typeIs_str s z t,fun _ e=>nomatch e⟩
 | int i=>
  obtain ⟨t,rfl⟩:=r
  cases (show T="int" from ty)
  exact ⟨typeIs_int s i t,fun _ e=>nomatch e⟩
 | ref p=>
  cases r
  rcases ty with ⟨rfl,xs,hq⟩ | ⟨rfl,o,hk,hc,hd⟩ | ⟨rfl,hk⟩ | ⟨rfl,S,n,hk⟩
  · obtain ⟨its,_,pl,_⟩:=I.list hq
    refine ⟨pl.isList.typeIs,fun a e=>?_⟩
    cases e
    obtain ⟨o,n,e,c,hd,_⟩:=pl
    exact ⟨o,e,hd⟩
  · refine ⟨⟨o,I.kIn p o hk,hc⟩,fun a e=>?_⟩
    cases e
    exact ⟨o,I.kIn _ o hk,hd⟩
  · have z:∃ o,s.heap.get? p=some o∧o.ExactDict:=by
     rcases hk with ⟨kvs,hk⟩ | ⟨kvs,hk⟩
     · obtain ⟨_,_,_,_,o,_,_,e,ex,_⟩:=I.hok p _ hk
       exact ⟨o,e,ex⟩
     · obtain ⟨_,_,_,_,o,_,_,e,ex,_⟩:=I.hok p _ hk
       exact ⟨o,e,ex⟩
    obtain ⟨o,e,ex⟩:=z
    refine ⟨⟨o,e,ex.1⟩,fun a e2=>?_⟩
    cases e2
    exact ⟨o,e,ex.2.1⟩
  · obtain ⟨o,_,_,_,e,ex,_⟩:=I.hok p _ hk
    refine ⟨⟨o,e,ex.1⟩,fun a e2=>?_⟩
    cases e2
    exact ⟨o,e,ex.2.1⟩
 | _=>exact False.elim ty
def vP (K:PySem.W.Frag) (T:String) (r:V→List V→Hp→VK→Prop) (to:TE):TE:=fun σ H Q=>to σ H fun x H1=>tyV K T x H1∧r x [] H1 Q
def tBM (K:PySem.W.Frag) (T:String) (r:V→List V→Hp→VK→Prop) (to:TE) (t:TA):TE:=fun σ H Q=>to σ H fun x H1=>tyV K T x H1∧t σ H1 fun xs H2=>r x xs H2 Q
variable {o e:Expr} {es:List Expr} {to:TE} {t:TA} {name:Str} {apos cpos:Pos} {T id:String} {r:V→List V→Hp→VK→Prop}
theorem xI (pa:PlainAttrs T) (slot:Slot T name id) (hty:typeOf (.builtin id)=pure (.type "method_descriptor")) (hm:MtR X id r) (ho:PE X o to)
  (hbase:attributeBase o name X.env (eval o X.env)=eval o X.env:=by rfl) (hline:(apos.endLine==cpos.line)=true:=by rfl):PE X (.Call (.Attribute o name apos) [] [] cpos) (vP X.K T r to):=by
 intro pins s σ H Q I h
 refine wpAny_Call_method0_late hbase hline (thn (ho pins s σ H _ I h) fun v s1 ⟨x,H1,I1,r1,ty,q1⟩=>?_)
 obtain ⟨h1,h2⟩:=uB I1 r1 ty
 exact ⟨T,id,pa,slot,hty,h1,h2,Calls.callWith_builtin rfl (PySem.evalArgs_none (hm pins s1 σ H1 x [] v [] Q I1 r1 .nil q1))⟩
theorem g8 (pa:PlainAttrs T) (slot:Slot T name id) (hty:typeOf (.builtin id)=pure (.type "method_descriptor")) (hm:MtR X id r) (ho:PE X o to) (ha:PA X (e::es) t)
  (hbase:attributeBase o name X.env (eval o X.env)=eval o X.env:=by rfl)
  (hfew:((backTo cpos (starEach (e::es) X.env)).all (fun x=>!x.1)&&(backToKw cpos (keywordEach [] X.env)).all (fun x=>x.1.isSome)
   &&decide ((e::es).length+([]:List Keyword).length+(if ([]:List Keyword).isEmpty then 0 else 1) < 30))=true:=by rfl)
  (hline:(apos.endLine==cpos.line)=true:=by rfl) (hs:starEach (e::es) X.env=(false,eval e X.env)::starEach es X.env:=by rfl) (hplain:(backTo cpos (starEach es X.env)).any (·.1)=false:=by rfl):
  PE X (.Call (.Attribute o name apos) (e::es) [] cpos) (tBM X.K T r to t):=by
 intro pins s σ H Q I h
 refine wpAny_Call_method_late hbase hfew hline rfl (thn (ho pins s σ H _ I h) fun v s1 ⟨x,H1,I1,r1,ty,q1⟩=>?_)
 obtain ⟨h1,h2⟩:=uB I1 r1 ty
 refine ⟨T,id,pa,slot,hty,h1,h2,?_⟩
 have hA:=ha cpos pins s1 σ H1 _ I1 q1
 rw [hs] at hA ⊢
 refine Calls.callWith_builtin (by show (false||(backTo cpos (starEach es X.env)).any (·.1))=false; rw [hplain] <;> rfl) (Calls.evalArgs_plain ?_)
 exact thn hA fun us s2 ⟨vs,H2,I2,r2,q2⟩=>hm pins s2 σ H2 x vs v us Q I2 r1 r2 q2
end
end L2
namespace L2
open PySem PySem.Spec PyProof.Rows
def MtM (X:Cx) (id:String) (r:V→List V→Hp→VK→Prop):Prop:=
 ∀ (pins:List (Addr × Obj)) (s:Shared) (σ:St) (H:Hp) (x:V) (xs:List V) (v:Value) (us:List Value) (Q:VK),Inv X pins σ H s→RelV x v→Vals xs us→r x xs H Q→
  wpAny (model X.prog X.w) X.A (call (.builtin id) (v::us)) (EP X pins σ Q) X.xe s
theorem Vals.one:∀ {x:V} {us:List Value},Vals [x] us→∃ u,us=[u]∧RelV x u
 | _,_,.cons r .nil=>⟨_,rfl,r⟩
section
variable {X:Cx} {pins:List (Addr × Obj)} {σ:St} {H:Hp} {s:Shared} {l b:Addr} {xs ys zs:List V}
theorem Inv.lset {its its':List Value} {n:Nat} {f:Array Value→Array Value} {t':Nat} (I:Inv X pins σ H s) (hH:H l=some (.lst xs))
  (e:s.heap.get? l=some { cls:=.type "list",data:=.seq its.toArray n }) (hf:f its.toArray=its'.toArray) (hv:Vals ys its') (hz:ys.length≤sizeLine):
  Inv X pins σ (upd H l (.lst ys)) { s with heap:=s.heap.update l (Obj.mapSeq f),toks:=t' }:=by
 have q:=PySem.IsL.update e f
 rw [hf] at q
 refine I.write (x:=l) (e:=l) (by rw [hH]; exact trivial) (.inl rfl) (fun b' u hb hu=>(Heap.get?_update_other s.heap (Obj.mapSeq f) (Ne.symm hb)).trans hu) ⟨_,q⟩ ?_
 exact ⟨hz,its',_,hv,q⟩
theorem Inv.lnew {its:List Value} {t':Nat} (I:Inv X pins σ H s) (hv:Vals ys its) (hz:ys.length≤sizeLine):
  Inv X pins σ (upd H s.heap.objs.size (.lst ys)) { s with heap:=s.heap.push { cls:=.type "list",data:=.seq its.toArray },toks:=t' }:=
 I.laid (fun _ _ q=>Heap.get?_push_of_some _ q) (Nat.le_refl _) ⟨hz,its,0,hv,Heap.get?_push_size _ rfl⟩
theorem Inv.fresh (I:Inv X pins σ H s):H s.heap.objs.size=none:=I.hok.fresh (Nat.le_refl _)
theorem Inv.lstM (I:Inv X pins σ H s) (hH:H l=some (.lst xs)):xs.length≤sizeLine∧∃ (its:List Value) (n:Nat),Vals xs its∧xs.length=its.length∧s.heap.get? l=some { cls:=.type "list",data:=.seq its.toArray n }:=by
 obtain ⟨z,its,n,r,e⟩:=I.hok l _ hH
 exact ⟨z,its,n,r,r.length,e⟩
end
section
variable {X:Cx}
def wF:V→List V→Hp→VK→Prop:=fun x vs H Q=>∃ l xs y,x=.ref l∧vs=[y]∧H l=some (.lst xs)∧xs.length < sizeLine∧Q .non (upd H l (.lst (xs++[y])))
theorem pq:MtM X "list.append" wF:=by
 intro pins s σ H x vs v us Q I rx rv h
 obtain ⟨l,xs,y,rfl,rfl,hH,hz,q⟩:=h
 cases rx
 obtain ⟨u,rfl,ru⟩:=rv.one
 obtain ⟨z,its,n,r,hl,e⟩:=I.lstM hH
 refine call_meets F.slot_list_append ⟨_,e,rfl⟩ F.entry_list_append (F.args_list_append_2 _ _) (PySem.list_append l its.toArray n u (by rw [List.size_toArray]; omega)) ⟨e,?_⟩
 refine ⟨.non,_,I.lset (its':=its++[u]) hH e (by simp) (r.append (.cons ru .nil)) ?_,rfl,q⟩
 rw [List.length_append,List.length_singleton]
 omega
def rCat:R2:=fun x y H Q=>∃ l b xs zs,x=.ref l∧y=.ref b∧H l=some (.lst xs)∧H b=some (.lst zs)∧xs.length+zs.length≤sizeLine∧∀ p,H p=none→Q (.ref p) (upd H p (.lst (xs++zs)))
theorem xJ:OpR X (binaryOp .Add) rCat:=by
 intro pins s σ H x y v u Q I rx ry h
 obtain ⟨l,b,xs,zs,rfl,rfl,hH,hB,hz,q⟩:=h
 cases rx
 cases ry
 obtain ⟨z,its,n,r,hl,e⟩:=I.lstM hH
 obtain ⟨z2,its2,n2,r2,hl2,e2⟩:=I.lstM hB
 refine PySem.P.add_list e e2 ?_ (by rw [List.size_toArray,List.size_toArray]; omega)
 have ea:its.toArray++its2.toArray=(its++its2).toArray:=by simp
 rw [ea]
 exact ⟨.ref _,_,I.lnew (t':=s.toks) (r.append r2) (by rw [List.length_append]; omega),rfl,q _ I.fresh⟩
end
end L2
namespace Att
open PySem PySem.W PySem.Calls PyProof.Rows
theorem ints_of_wellAll {P:Params} {h:Heap}:∀ (ns:List Int) (vs:List Value),WellAll P h vs (ns.map WData.int)→IntsAre vs ns:=by
 intro ns
 induction ns with
 | nil=>
  intro vs w
  rw [List.map_nil] at w
  cases w
  exact .nil
 | cons n ns ih=>
  intro vs w
  rw [List.map_cons] at w
  cases w with
  | cons a b=>
   cases a
   exact .cons _ _ (ih _ b)
theorem script_of {l:OpenLaw} {n:Nat} (hn:l.most=some n) {P:Params} {h:Heap} {args:List WData} {vals:List Value}
  (hpre:l.row.toRowW.claim.pre args=true) (hwl:WellAll P h vals args):
  ∃ a vs ns,vals=[Value.ref a]∧args=[WData.list (ns.map WData.int)]∧h.get? a=some { cls:=.type "list",data:=.seq vs.toArray }∧IntsAre vs ns∧ns.length≤n:=by
 have hsh:WShape.hasAll [] args [.list .int]=true:=(pre_splitW hpre).1
 have hc:l.pre.holds [] { args:=args }=true:=(pre_splitW hpre).2
 obtain ⟨d,r,rfl,h1,h2⟩:=hasAllW_cons hsh
 obtain rfl:=hasAllW_nil h2
 obtain ⟨xs,rfl,h3⟩:=hasW_list h1
 obtain ⟨ns,rfl⟩:=items_int h3
 have hlen:ns.length≤n:=by
  unfold OpenLaw.pre at hc
  have h4:(WTm.not (.lt (.lit (.int (n:Int))) (.len (.arg 0)))).holds [] { args:=[.list (ns.map .int)] }=true:=by
   have h4:=(holds_andW hc).1
   rw [hn] at h4
   exact h4
  have h5:=condW_of h4 (w_not (w_lt w_lit (w_len_list (w_arg rfl))))
  rw [List.length_map] at h5
  refine Nat.le_of_not_lt fun q=>?_
  have q':(n:Int) < ((ns.length:Nat):Int):=by omega
  first
   | (rw [decide_eq_true q'] at h5; exact absurd h5 (by decide))
   | (simp at h5; omega)
 cases hwl with
 | cons w1 w2=>
  cases w2
  cases w1 with
  | list ho hall=>exact ⟨_,_,ns,rfl,rfl,ho,ints_of_wellAll ns _ hall,hlen⟩
theorem post_true (l:OpenLaw) (args:List WData):l.row.toRowW.claim.post args (.bool true) args=true:=
 postW_of (r:=l.row.toRowW) (X:=(true==true))
  (show WShape.has [] (.bool true) .bool=true by first | rfl | decide | simp [WShape.has,WShape.arms,WShape.armsAll])
  (show (WTm.eq .res (.lit (.bool true))).value [] { args:=args,res:=some (.bool true),after:=args }=some (.bool (true==true)) from w_eq_bool (w_res rfl) w_lit) rfl
theorem attach_call {l:OpenLaw} {n:Nat} {q:Program} {loose:List Str} {XP:(Str→Option Value)→Heap→Prop} {YP:World→Heap→Prop} {d:DefRec}
  (hn:l.most=some n) (hdf:d.params.defaults=[])
  (call:∀ (w:World) (s₀ s₁:Shared) (mg mb:Str→Option Value) (fa:Addr) (o:Obj) (pm cd doc:Value) (a:Addr) (vs:List Value) (ns:List Int),
   Ground q loose [] XP w s₀ mg mb s₁.heap→YP w s₁.heap→
   s₁.heap.get? fa=some o→o.data=.func (docDef d.name d.params d.body d.scope pm cd doc)→s₁.heap.CodeRec cd d.name→mg d.name=some (.ref fa)→
   s₁.heap.get? a=some { cls:=.type "list",data:=.seq vs.toArray }→IntsAre vs ns→ns.length≤n→s₁.gens=#[]→
   codeAny (model l.prog w) callerA (.call (.ref fa) ⟨[.ref a],[]⟩) (fun r s'=>r=.ok (.ret (.bool true))∧OldK s₁.heap s'.heap∧s'.os=s₁.os∧AllBare s'.gens) s₁):
  WalkO q loose XP YP l.row.toRowW d [] (fun f vs=>PySem.call f vs):=by
 intro w s₀ s₁ mg mb G Y fa o pm cd doc dV kV ho hd hcd hD hmg hg args vals as hpre hlay hrd hwl hlo
 obtain rfl:dV=.none:=Dflts.none hD hdf
 obtain rfl:kV=.none:=Dflts.noKw hD
 obtain ⟨a,vs,ns,rfl,rfl,hobj,hints,hlen⟩:=script_of hn hpre hwl
 refine enter_call (codeAny_mono (call w s₀ s₁ mg mb fa o pm cd doc a vs ns G Y ho (fd_plain hd) hcd hmg hobj hints hlen hg) fun r s' hq=>?_)
 obtain ⟨rfl,h2,h3,h4⟩:=hq
 exact ⟨.inl ⟨.bool true,.bool true,[],rfl,fun _=>rfl,.bool true,post_true l _,fun _=>⟨List.Pairwise.nil,fun _ hm=>(nomatch hm)⟩⟩,h2,h3,h4⟩
section
variable {prog:Program} {w:World} {A:Around} {E:Value→Shared→Prop} {s:Shared} {K:Frag}
end
end Att
namespace L2
open PySem PySem.Spec PyProof.Rows
theorem k8:∀ {vs:List Value} {ns:List Int},IntsAre vs ns→Vals (ns.map V.int) vs
 | _,_,.nil=>.nil
 | _,_,.cons n t h=>.cons ⟨t,rfl⟩ (k8 h)
def Only (H:Hp):Prop:=∀ b,H b=none∨∃ o xs,H b=some (.frz o (.lst xs))
theorem vQ {P:Program} {w:World} {K:PySem.W.Frag} {mg mb:Str→Option Value} {CX:CXT} {k:Nat} {fa a:Addr} {fd:FuncData} {x:Str} {sp:Sp} {s₁:Shared} {vs:List Value} {ns:List Int}
  (KX:K.In s₁.heap) (hns:s₁.heap.Ns mainGlobals mg) (hb:s₁.heap.Ns builtinsNs mb) (hbb:∀ x:Str,x≠"__name__"→mb x=bootBuiltins x) (hlim:s₁.heap.NoLimit) (hg:s₁.gens=#[])
  (ha:s₁.heap.get? a=some { cls:=.type "list",data:=.seq vs.toArray }) (hi:IntsAre vs ns) (hl:ns.length≤sizeLine) (hr:Room k callerA)
  (F:∀ base:Heap,K.In base→base.Ns mainGlobals mg→FnOk P w K mg base CX k fa fd [x] sp) (hbind:∀ (s:Shared) (u:Value),BindsTo s fd ⟨[u],[]⟩ [(x,u)])
  (hsp:∀ H:Hp,Only H→SqL K H a (ns.map V.int)→sp [.ref a] H (fun v _=>v=.bl true) fun _ _ _=>False)
  (hCX:∀ H e s',CX [] H s₁ (fun _ _ _=>False) e s'→False):
  codeAny (model P w) callerA (.call (.ref fa) ⟨[.ref a],[]⟩) (fun r s'=>r=.ok (.ret (.bool true))∧OldK s₁.heap s'.heap∧s'.os=s₁.os∧AllBare s'.gens) s₁:=by
 have rv:=k8 hi
 have lenV:=hi.length
 have core:∀ H:Hp,Only H→SqL K H a (ns.map V.int)→HOk P w H s₁.heap→(∀ b,H b≠none→b=a)→(H a≠none→K.lookup a=none)→
   codeAny (model P w) callerA (.call (.ref fa) ⟨[.ref a],[]⟩) (fun r s'=>r=.ok (.ret (.bool true))∧OldK s₁.heap s'.heap∧s'.os=s₁.os∧AllBare s'.gens) s₁:=by
  intro H hO hS hok hA hK
  have base_of:∀ {b:Addr} {o:Obj},s₁.heap.get? b=some o→H b=none→(hidT s₁.heap H).get? b=some o:=fun e n=>vJ e n
  have noA:∀ {b:Addr} {o:Obj} {es:Array DictEntry} {ep:Nat},s₁.heap.get? b=some o→o.data=.dict es ep→H b=none:=fun {b o es ep} e d=>by
   cases q:H b with
   | none=>rfl
   | some u=>
    have e':b=a:=hA b (by rw [q]; simp)
    subst e'
    rw [ha] at e; cases e
    have d':Data.seq vs.toArray _=Data.dict es ep:=d
    cases d'
  have nsK:∀ {b:Addr} {m:Str→Option Value},s₁.heap.Ns b m→(hidT s₁.heap H).Ns b m:=fun {b m} ⟨o,es,ep,e,d,r⟩=>⟨o,es,ep,base_of e (noA e d),d,r⟩
  have hKb:K.In (hidT s₁.heap H):=fun b o e=>base_of (KX b o e) (by
   cases q:H b with
   | none=>rfl
   | some u=>
    have e':b=a:=hA b (by rw [q]; simp)
    subst e'
    rw [hK (by rw [q]; simp)] at e; cases e)
  have hM:Mod K mg (hidT s₁.heap H):=⟨hKb,nsK hns,⟨mb,nsK hb,hbb⟩,let ⟨mc,h1,h2⟩:=hlim; ⟨mc,nsK h1,h2⟩⟩
  have e0:Env0 P w K mg (hidT s₁.heap H) callerA [] s₁ H:=⟨rfl,hM,fun b o e=>ww e,Nat.le_of_eq (uj _ _),trivial,fun b hb=>absurd (show b∈([]:List Addr) from hb) (by simp),hok,.of_eq hg⟩
  refine codeAny_mono ((F _ hKb (nsK hns)).run callerA [] s₁ H ⟨[.ref a],[]⟩ [.ref a] [.ref a] _ _ hr e0 (hbind s₁ (.ref a)) (.cons rfl .nil) (hsp H hO hS)) fun r s' h=>?_
  cases r with
  | error e=>exact (hCX H e s' h).elim
  | ok fl=>
   cases fl with
   | next=>exact False.elim h
   | brk=>exact False.elim h
   | cont=>exact False.elim h
   | ret u=>
    obtain ⟨v,H',os,bare,un,hok',r',q⟩:=h
    have q':v=.bl true:=q
    subst q'
    obtain rfl:u=Value.bool true:=r'
    refine ⟨rfl,OldK.of_keep fun b o e=>?_,os,bare⟩
    cases q:H b with
    | none=>exact un.keep b o e q (by intro z; exact absurd (show b∈([]:List Addr) from z) (by simp)) (by simp)
    | some u=>
     rcases hO b with z | ⟨ob,xs,z⟩
     · rw [q] at z; cases z
     · have z2:=un.frzs b ob _ z
       obtain ⟨e1,_⟩:=hok b _ z
       obtain ⟨e2,_⟩:=hok' b _ z2
       rw [e] at e1; cases e1
       exact e2
 cases hk:K.lookup a with
 | some o=>
  have e:=KX a o hk
  rw [ha] at e
  cases e
  refine core (fun _=>none) (fun _=>.inl rfl) (.inr ⟨_,vs.toArray,_,hk,rfl,rfl,rfl,by rw [List.size_toArray,lenV]; exact hl,by simpa using rv⟩) (fun b u z=>by have z':(none:Option HO)=some u:=z; cases z') (fun b z=>absurd rfl z) fun z=>absurd rfl z
 | none=>
  refine core (fun b=>if b=a then some (.frz { cls:=.type "list",data:=.seq vs.toArray } (.lst (ns.map V.int))) else none) (fun b=>?_) (.inl (.inr ⟨{ cls:=.type "list",data:=.seq vs.toArray },if_pos rfl⟩)) (fun b u z=>?_) (fun b z=>?_) fun _=>hk
  · by_cases hb:b=a
    · exact .inr ⟨_,_,if_pos hb⟩
    · exact .inl (if_neg hb)
  · by_cases hb:b=a
    · have z':=(if_pos hb).symm.trans z
      cases z'
      subst hb
      exact ⟨ha,by rw [List.length_map]; exact hl,vs,_,rv,ha⟩
    · have z':=(if_neg hb).symm.trans z
      cases z'
  · by_cases hb:b=a
    · exact hb
    · exact absurd (if_neg hb) z
end L2
namespace L2
open PySem PySem.Spec PyProof.Rows
theorem wG {l:PySem.W.OpenLaw} {n k:Nat} {q:Program} {loose:List Str} {XP:(Str→Option Value)→Heap→Prop} {YP:World→Heap→Prop} {d:DefRec} {K:Params→PySem.W.Frag} {CX:World→CXT} {sp:World→Sp} {x:Str}
  (hn:l.most=some n) (hn2:n≤sizeLine) (hdf:d.params.defaults=[]) (hr:Room k callerA)
  (hY:∀ (w:World) (h:Heap),YP w h→(K w.params).In h)
  (F:∀ (w:World) (mg:Str→Option Value) (fa:Addr) (h:Heap),(K w.params).In h→h.Ns mainGlobals mg→mg d.name=some (.ref fa)→
   ∃ fd:FuncData,(∀ (s:Shared) (u:Value),BindsTo s fd ⟨[u],[]⟩ [(x,u)])∧
    ∀ base:Heap,(K w.params).In base→base.Ns mainGlobals mg→FnOk l.prog w (K w.params) mg base (CX w) k fa fd [x] (sp w))
  (hsp:∀ (w:World) (H:Hp) (a:Addr) (ns:List Int),ns.length≤n→Only H→SqL (K w.params) H a (ns.map V.int)→sp w [.ref a] H (fun v _=>v=.bl true) fun _ _ _=>False)
  (hCX:∀ (w:World) (H:Hp) (s:Shared) (e:Value) (s':Shared),CX w [] H s (fun _ _ _=>False) e s'→False):
  PySem.W.WalkO q loose XP YP l.row.toRowW d [] (fun f vs=>PySem.call f vs):=by
 refine Att.attach_call hn hdf fun w s₀ s₁ mg mb fa o pm cd doc a vs ns G Y ho hd hcd hmg hobj hints hlen hg=>?_
 have KX:=hY w _ Y
 obtain ⟨fd,hb,hF⟩:=F w mg fa _ KX G.T.g hmg
 exact vQ KX G.T.g G.T.b G.T.builtins G.T.nolimit hg hobj hints (Nat.le_trans hlen hn2) hr hF hb (fun H hO hS=>hsp w H a ns hlen hO hS) fun H e s'=>hCX w H s₁ e s'
end L2
namespace L2
open PySem PySem.Spec PyProof.Rows
def bg (s:Stmt):Arguments:=match s with
 | .FunctionDef _ a _ _ _ _ _ _ _ _=>a
 | _=>{ posonlyargs:=[],args:=[],vararg:=none,kwonlyargs:=[],kw_defaults:=[],kwarg:=none,defaults:=[] }
def bc (s:Stmt):List Stmt:=match s with
 | .FunctionDef _ _ b _ _ _ _ _ _ _=>b
 | _=>[]
def ai (s:Stmt):Scope:=match s with
 | .FunctionDef _ _ _ _ _ _ sc _ _ _=>sc
 | _=>{ kind:=.function,names:=[],isGenerator:=false,isCoroutine:=false }
abbrev CX0:CXT:=fun _ _ _ _ _ _=>False
abbrev E0:XK:=fun _ _ _=>False
theorem sY {X:Cx}:kY CX0 X E0:=fun _ _ _ _ _ _ _ h=>h.elim
structure Fun (K:PySem.W.Frag) (x qual:Str) (st:Stmt) (f:Addr) (fd:FuncData):Prop where
 ex:∃ (oc:Value) (od:Option Addr) (kV doc pm:Value) (an:Option Addr) (cdv ct:Value) (osl:Array (Option Value)),
  fd=PySem.W.fnOf x qual (bg st) (bc st) (ai st) .none kV doc pm an cdv ct∧K.lookup f=some ⟨oc,od,.func fd,osl⟩∧PySem.W.codeIn K cdv qual=true
 kp:PySem.W.keepIn K (.ref f)=true
section
variable {P:Program} {w:World} {K:PySem.W.Frag} {mg:Str→Option Value} {base:Heap}
theorem Fun.ok {x qual:Str} {st:Stmt} {f:Addr} {fd:FuncData} {N ps:List Str} {k:Nat} {sp:Sp} (F:Fun K x qual st f fd) (S:aw N ps (ai st)) (len:∀ vs H Q E,sp vs H Q E→vs.length=ps.length)
  (hbody:∀ (cdv:Value) (A:Around) (outer:List Env) (s:Shared) (H:Hp) (vs:List V) (Q:VK) (E:XK),Room k (A.deeper (envOfC qual (ai st) s.heap.objs.size f cdv))→sp vs H Q E→
   ∃ t,PSs (cxOf CX0 P w K mg base N qual (ai st) f cdv A outer s H E).nox (bc st) t∧t { nx:=fun _ H'=>Q .non H',rt:=Q } (start N vs) H):FnOk P w K mg base CX0 (k+1) f fd ps sp:=by
 obtain ⟨oc,od,kV,doc,pm,an,cdv,ct,osl,rfl,lk,hcd⟩:=F.ex
 refine yD lk hcd S len fun A outer s H vs Q E hr hsp=>?_
 obtain ⟨t,h,q⟩:=hbody cdv A outer s H vs Q E hr hsp
 exact ⟨t,h.nox,q⟩
theorem Fun.binds {x qual:Str} {st:Stmt} {f:Addr} {fd:FuncData} {ps:List Str} (F:Fun K x qual st f fd)
  (h:∀ (kV doc pm:Value) (an:Option Addr) (cdv ct:Value) (us:List Value),us.length=ps.length→bindArgs (PySem.W.fnOf x qual (bg st) (bc st) (ai st) .none kV doc pm an cdv ct) ⟨us,[]⟩=pure (ps.zip us)):Binds K fd ps []:=by
 obtain ⟨oc,od,kV,doc,pm,an,cdv,ct,osl,rfl,lk,hcd⟩:=F.ex
 exact .all (h kV doc pm an cdv ct)
theorem ay {x qual:Str} {st:Stmt} {f:Addr} {oc:Value} {od an:Option Addr} {osl:Array (Option Value)} {kV doc pm cdv ct:Value} (l:K.lookup f=some ⟨oc,od,.func (PySem.W.fnOf x qual (bg st) (bc st) (ai st) .none kV doc pm an cdv ct),osl⟩)
  (c:PySem.W.codeIn K cdv qual=true) (k:PySem.W.keepIn K (.ref f)=true):Fun K x qual st f (PySem.W.fnOf x qual (bg st) (bc st) (ai st) .none kV doc pm an cdv ct):=⟨⟨oc,od,kV,doc,pm,an,cdv,ct,osl,rfl,l,c⟩,k⟩
end
theorem aG {n:Nat} (h:n≤1000):n < sizeLine:=Nat.lt_of_le_of_lt h (by decide)
section
variable {X:Cx}
theorem pv (i:Nat) {x:Str} {pos:Pos} (hN:X.N[i]? =some x:=by rfl) (hv:Vis X.env.scope x:=by first | exact Or.inl rfl | exact Or.inr (Or.inl rfl) | exact Or.inr (Or.inr rfl)) (hd:(x==("__debug__":Str))=false:=by decide)
  (hcd:(x==("__classdict__":Str))=false:=by decide):PE X (.Name x pos) (tVar i):=xv hN hv hd hcd
end
theorem iteF {A B:Prop} (h:B):if false=true then A else B:=by
 rw [if_neg Bool.false_ne_true]
 exact h
theorem iteT {A B:Prop} (h:A):if true=true then A else B:=by
 rw [if_pos rfl]
 exact h
def Same (H H':Hp):Prop:=∀ b o,H b=some o→H' b=some o
theorem Same.refl (H:Hp):Same H H:=fun _ _ h=>h
theorem Same.trans {H H1 H2:Hp} (a:Same H H1) (b:Same H1 H2):Same H H2:=fun c o h=>b c o (a c o h)
theorem Same.free {H H':Hp} (e:Same H H') {l:Addr} (h:H' l=Option.none):H l=Option.none:=by
 cases q:H l with
 | none=>rfl
 | some o=>
  rw [e l o q] at h
  cases h
theorem Same.seq {K:PySem.W.Frag} {H H':Hp} {a:Addr} {xs:List V} (e:Same H H') (h:SqL K H a xs):SqL K H' a xs:=by
 rcases h with (h | ⟨o,h⟩) | h
 · exact .inl (.inl (e _ _ h))
 · exact .inl (.inr ⟨o,e _ _ h⟩)
 · exact .inr h
end L2
namespace L2
open PySem PySem.Spec PyProof.Rows
section
variable {κ:Type} [DecidableEq κ]
def valV (kvs:List (κ × V)) (k:κ):Option V:=(kvs.find? fun kv=>decide (kv.1=k)).map (·.2)
def putK (kvs:List (κ × V)) (k:κ) (v:V):List (κ × V):=
 if (kvs.any fun kv=>decide (kv.1=k))=true then kvs.map (fun kv=>if kv.1=k then (kv.1,v) else kv) else kvs++[(k,v)]
theorem mJ {p:κ × V} {r:List (κ × V)} {k:κ} (e:p.1=k):valV (p::r) k=some p.2:=by simp [valV,List.find?_cons,e]
theorem mK {p:κ × V} {r:List (κ × V)} {k:κ} (e:¬ p.1=k):valV (p::r) k=valV r k:=by simp [valV,List.find?_cons,e]
theorem qk (k:κ):∀ kvs:List (κ × V),(kvs.any fun kv=>decide (kv.1=k))=(valV kvs k).isSome
 | []=>rfl
 | p::r=>by
  rw [List.any_cons]
  by_cases e:p.1=k
  · simp only [mJ e,decide_eq_true e,Bool.true_or,Option.isSome_some]
  · rw [mK e,decide_eq_false e,Bool.false_or]; exact qk k r
theorem mD (kvs:List (κ × V)) (k:κ) (v:V):(putK kvs k v).length≤kvs.length+1:=by
 unfold putK
 split
 · rw [List.length_map]; omega
 · rw [List.length_append,List.length_cons,List.length_nil]; omega
theorem RelO.isSome_eq {o:Option V} {u:Option Value} (r:RelO o u):o.isSome=u.isSome:=by
 cases o with
 | none=>cases u with
  | none=>rfl
  | some _=>exact (show False from r).elim
 | some _=>cases u with
  | none=>exact (show False from r).elim
  | some _=>rfl
theorem KV.val {kvs:List (κ × V)} {vs:List (κ × Value)} (r:KV kvs vs) (k:κ):RelO (valV kvs k) (valueAt vs k):=by
 unfold KV at r
 induction r with
 | nil=>exact True.intro
 | @cons p q ps qs h t ih=>
  obtain ⟨h1,h2⟩:=h
  by_cases e:p.1=k
  · have e':q.1=k:=h1.symm.trans e
    have b:valueAt (q::qs) k=some q.2:=by simp [valueAt,List.find?_cons,e']
    rw [mJ e,b]; exact h2
  · have e':¬ q.1=k:=fun z=>e (h1.trans z)
    have b:valueAt (q::qs) k=valueAt qs k:=by simp [valueAt,List.find?_cons,e']
    rw [mK e,b]; exact ih
theorem KV.any {kvs:List (κ × V)} {vs:List (κ × Value)} (r:KV kvs vs) (k:κ):(kvs.any fun kv=>decide (kv.1=k))=vs.any fun kv=>decide (kv.1=k):=by
 unfold KV at r
 induction r with
 | nil=>rfl
 | cons h t ih=>rw [List.any_cons,List.any_cons,ih,h.1]
theorem KV.repl {kvs:List (κ × V)} {vs:List (κ × Value)} (r:KV kvs vs) (k:κ) {y:V} {u:Value} (ry:RelV y u):
  KV (kvs.map fun kv=>if kv.1=k then (kv.1,y) else kv) (vs.map fun kv=>if kv.1=k then (kv.1,u) else kv):=by
 unfold KV at r ⊢
 induction r with
 | nil=>exact .nil
 | @cons p q ps qs h t ih=>
  rw [List.map_cons,List.map_cons]
  refine .cons ?_ ih
  obtain ⟨h1,h2⟩:=h
  by_cases e:p.1=k
  · rw [if_pos e,if_pos (h1.symm.trans e)]; exact ⟨h1,ry⟩
  · rw [if_neg e,if_neg (fun z=>e (h1.trans z))]; exact ⟨h1,h2⟩
theorem KV.put {kvs:List (κ × V)} {vs:List (κ × Value)} (r:KV kvs vs) (k:κ) {y:V} {u:Value} (ry:RelV y u):KV (putK kvs k y) (stored vs k u):=by
 unfold putK stored
 rw [r.any k]
 by_cases e:(vs.any fun kv=>decide (kv.1=k))=true
 · rw [if_pos e,if_pos e]; exact r.repl k ry
 · rw [if_neg e,if_neg e]; exact Paired.snoc r ⟨rfl,ry⟩
theorem KV.length {kvs:List (κ × V)} {vs:List (κ × Value)} (r:KV kvs vs):kvs.length=vs.length:=Paired.length r
end
theorem nt {P:Program} {w:World} {k:Key} {u:Value} (r:RelV (kV k) u):(b8 P w).is k u=true:=by
 cases k with
 | inl i=>obtain ⟨t,e⟩:=(show ∃ t,u=Value.int i t from r); subst e; exact rF P w i t
 | inr x=>obtain ⟨t,e⟩:=(show ∃ t,u=Value.str x t from r); subst e; exact rG P w x t
theorem pr {P:Program} {w:World}:∀ {ks:List Key} {us:List Value},Vals (ks.map kV) us→ItemsAre (b8 P w) ks us
 | [],_,r=>by rw [List.map_nil] at r; cases r; exact .nil
 | k::ks,_,r=>by
  rw [List.map_cons] at r
  cases r with
  | cons h t=>exact .cons (nt h) (pr t)
abbrev KT (H:Hp):List (List Key × V)→List (List Key × Addr × Value)→Prop:=Paired fun p q=>p.1=q.1∧H q.2.1=some (.tup (p.1.map kV))∧RelV p.2 q.2.2
theorem KT.val {H:Hp} {kvs:List (List Key × V)} {xs:List (List Key × Addr × Value)} (r:KT H kvs xs) (k:List Key):RelO (valV kvs k) ((atKey xs k).map (·.2)):=by
 induction r with
 | nil=>exact True.intro
 | @cons p q ps qs h t ih=>
  obtain ⟨h1,_,h2⟩:=h
  by_cases e:p.1=k
  · have e':q.1=k:=h1.symm.trans e
    have b:atKey (q::qs) k=some q.2:=by simp [atKey,List.find?_cons,e']
    rw [mJ e,b]; exact h2
  · have e':¬ q.1=k:=fun z=>e (h1.trans z)
    have b:atKey (q::qs) k=atKey qs k:=by simp [atKey,List.find?_cons,e']
    rw [mK e,b]; exact ih
theorem KT.repl {H:Hp} {kvs:List (List Key × V)} {xs:List (List Key × Addr × Value)} (r:KT H kvs xs) (k:List Key) {y:V} {u:Value} (ry:RelV y u):
  KT H (kvs.map fun kv=>if kv.1=k then (kv.1,y) else kv) (xs.map (putAt k u)):=by
 induction r with
 | nil=>exact .nil
 | @cons p q ps qs h t ih=>
  rw [List.map_cons,List.map_cons]
  refine .cons ?_ ih
  obtain ⟨h1,h2,h3⟩:=h
  unfold putAt
  by_cases e:p.1=k
  · rw [if_pos e,if_pos (h1.symm.trans e)]; exact ⟨h1,h2,ry⟩
  · rw [if_neg e,if_neg (fun z=>e (h1.trans z))]; exact ⟨h1,h2,h3⟩
theorem KT.put {H:Hp} {kvs:List (List Key × V)} {xs:List (List Key × Addr × Value)} (r:KT H kvs xs) (k:List Key) {b:Addr} {y:V} {u:Value} (hb:H b=some (.tup (k.map kV))) (ry:RelV y u):
  KT H (putK kvs k y) (storedH xs k b u):=by
 have e:(kvs.any fun kv=>decide (kv.1=k))=(atKey xs k).isSome:=by
  rw [qk,(r.val k).isSome_eq,Option.isSome_map]
 unfold putK storedH
 rw [e]
 by_cases q:(atKey xs k).isSome=true
 · rw [if_pos q,if_pos q]; exact r.repl k ry
 · rw [if_neg q,if_neg q]; exact Paired.snoc r ⟨rfl,hb,ry⟩
theorem KT.keeps {H H':Hp} {kvs:List (List Key × V)} {xs:List (List Key × Addr × Value)} (r:KT H kvs xs) (ht:∀ b ys,H b=some (.tup ys)→H' b=some (.tup ys)):KT H' kvs xs:=
 Paired.mapP r fun _ _ z=>⟨z.1,ht _ _ z.2.1,z.2.2⟩
section
variable {P:Program} {w:World} {H:Hp} {h:Heap} {a:Addr}
theorem wn {u:HO} (ok:HOk P w H h) (e:Rd H a u):ObjOk P w H h a u:=e.ok ok
theorem lR {kvs:List (Key × V)} (ok:HOk P w H h) (e:Rd H a (.dK kvs)):kvs.length≤sizeLine∧(a==sysModules)=false∧∃ vs,KV kvs vs∧h.DictOf (b8 P w) a vs:=
 show ObjOk P w H h a (.dK kvs) from wn ok e
theorem yE {kvs:List (Key × V)} (ok:HOk P w H h) (e:H a=some (.dK kvs)):kvs.length≤sizeLine∧(a==sysModules)=false∧∃ vs,KV kvs vs∧h.DictOf (b8 P w) a vs:=lR ok (.inl e)
theorem k9 {ks:List Key} (ok:HOk P w H h) (e:H a=some (.tup (ks.map kV))):(tupleKind (b8 P w)).is h ks a:=by
 obtain ⟨_,its,r,o,h1,h2,n,h3⟩:=(show ObjOk P w H h a (.tup (ks.map kV)) from ok a _ e)
 exact ⟨o,its.toArray,n,h1,h2,h3,by simpa using pr r⟩
theorem nu {kvs:List (List Key × V)} (ok:HOk P w H h) (e:Rd H a (.dT kvs)):kvs.length≤sizeLine∧(a==sysModules)=false∧
  ∃ xs,KT H kvs xs∧h.DictOfH (tupleKind (b8 P w)) a xs:=by
 obtain ⟨z,y,xs,r,o,es,ep,h1,h2,h3,h4,h5⟩:=(show ObjOk P w H h a (.dT kvs) from wn ok e)
 refine ⟨z,y,xs,r,o,es,ep,h1,h2,h3,h4,fun x hx=>?_,h5⟩
 have all:∀ {l:List (List Key × V)} {m:List (List Key × Addr × Value)},KT H l m→∀ x∈m,(tupleKind (b8 P w)).is h x.1 x.2.1:=by
  intro l m q
  induction q with
  | nil=>intro x hx; exact nomatch hx
  | @cons p q ps qs hq t ih=>
   intro x hx
   rcases List.mem_cons.mp hx with e | hx
   · subst e
     exact k9 ok (by rw [← hq.1]; exact hq.2.1)
   · exact ih x hx
 exact all r x hx
theorem yF {kvs:List (List Key × V)} (ok:HOk P w H h) (e:H a=some (.dT kvs)):kvs.length≤sizeLine∧(a==sysModules)=false∧
  ∃ xs,KT H kvs xs∧h.DictOfH (tupleKind (b8 P w)) a xs:=nu ok (.inl e)
end
def DGet (H:Hp) (a:Addr) (y:V) (r:Option V):Prop:=
 (∃ kvs k,Rd H a (.dK kvs)∧y=kV k∧r=valV kvs k)∨∃ kvs k b,Rd H a (.dT kvs)∧y=.ref b∧H b=some (.tup (k.map kV))∧r=valV kvs k
def DPut (H:Hp) (a:Addr) (y v:V) (H':Hp):Prop:=
 (∃ kvs k,H a=some (.dK kvs)∧y=kV k∧kvs.length < sizeLine∧H'=upd H a (.dK (putK kvs k v)))∨
 ∃ kvs k b,H a=some (.dT kvs)∧y=.ref b∧H b=some (.tup (k.map kV))∧kvs.length < sizeLine∧H'=upd H a (.dT (putK kvs k v))
theorem DGet.k {H:Hp} {a:Addr} {kvs:List (Key × V)} {k:Key} (e:H a=some (.dK kvs)):DGet H a (kV k) (valV kvs k):=.inl ⟨kvs,k,.inl e,rfl,rfl⟩
section
variable {X:Cx} {pins:List (Addr × Obj)} {σ:St} {H:Hp} {s:Shared} {a:Addr} {y v:V} {u r:Value} {o:Option V} {A:Around} {E:Value→Shared→Prop}
theorem uC {Q:Value→Shared→Prop} (hu:A.units+1 < cLine) (I:Inv X pins σ H s) (g:DGet H a y (some v)) (ry:RelV y u) (h:∀ w' s',Inv X pins σ H s'→RelV v w'→Q w' s'):
  wpAny (model X.prog X.w) A (getItem (.ref a) u) Q E s:=by
 rcases g with ⟨kvs,k,e,ey,l⟩ | ⟨kvs,k,b,e,ey,eb,l⟩
 · subst ey
   obtain ⟨z,hd,vs,rel,dd⟩:=lR I.hok e
   obtain ⟨w',hw,rw'⟩:=RelO.some_of (v:=v) (o:=valueAt vs k) (by rw [l]; exact rel.val k)
   exact wpAny_getItem_of (nt ry) dd.mapOf hw (h w' _ (I.tok _) rw')
 · subst ey
   cases (show u=Value.ref b from ry)
   obtain ⟨z,hd,xs,rel,dd⟩:=nu I.hok e
   obtain ⟨w',hw,rw'⟩:=RelO.some_of (v:=v) (o:=(atKey xs k).map (·.2)) (by rw [l]; exact rel.val k)
   obtain ⟨p,hp,hp2⟩:=Option.map_eq_some_iff.mp hw
   refine wpAny_getItem_heap (tupleKind_room_in1 hu) (k9 I.hok eb) dd hp ?_
   rw [hp2]
   exact h w' _ (I.tok _) rw'
theorem yT {Q:Value→Shared→Prop} (hu:A.units+1 < cLine) (I:Inv X pins σ H s) (g:DGet H a y o) (ry:RelV y u) (h:∀ s',Inv X pins σ H s'→Q (.bool o.isSome) s'):
  wpAny (model X.prog X.w) A (compareOp .In u (.ref a)) Q E s:=by
 rcases g with ⟨kvs,k,e,ey,l⟩ | ⟨kvs,k,b,e,ey,eb,l⟩
 · subst ey
   obtain ⟨z,hd,vs,rel,dd⟩:=lR I.hok e
   refine wpAny_in_of (nt ry) hd dd.mapOf ?_
   rw [← (rel.val k).isSome_eq,← l]
   exact h _ (I.tok _)
 · subst ey
   cases (show u=Value.ref b from ry)
   obtain ⟨z,hd,xs,rel,dd⟩:=nu I.hok e
   refine wpAny_in_heap (tupleKind_room_in1 hu) (k9 I.hok eb) hd dd ?_
   have q:=(rel.val k).isSome_eq
   rw [Option.isSome_map] at q
   rw [← q,← l]
   exact h _ (I.tok _)
theorem wH {Q:Value→Shared→Prop} (hu:A.units+1 < cLine) (I:Inv X pins σ H s) (g:DGet H a y o) (ry:RelV y u) (h:∀ s',Inv X pins σ H s'→Q (.bool (!o.isSome)) s'):
  wpAny (model X.prog X.w) A (compareOp .NotIn u (.ref a)) Q E s:=by
 rcases g with ⟨kvs,k,e,ey,l⟩ | ⟨kvs,k,b,e,ey,eb,l⟩
 · subst ey
   obtain ⟨z,hd,vs,rel,dd⟩:=lR I.hok e
   refine wpAny_notIn_of (nt ry) hd dd.mapOf ?_
   rw [← (rel.val k).isSome_eq,← l]
   exact h _ (I.tok _)
 · subst ey
   cases (show u=Value.ref b from ry)
   obtain ⟨z,hd,xs,rel,dd⟩:=nu I.hok e
   refine wpAny_notIn_heap (tupleKind_room_in1 hu) (k9 I.hok eb) hd dd ?_
   have q:=(rel.val k).isSome_eq
   rw [Option.isSome_map] at q
   rw [← q,← l]
   exact h _ (I.tok _)
theorem sy {h':Heap} {t':Nat} {ob:HO} (I:Inv X pins σ H s) (mu:Mut (H a)) (hs:Heap.SameBut a s.heap h') (he:∃ q,h'.get? a=some q) (new:ObjOk X.prog X.w (upd H a ob) h' a ob):
  Inv X pins σ (upd H a ob) { s with heap:=h',toks:=t' }:=
 I.write (x:=a) (e:=a) mu (.inl rfl) (fun b q hb z=>(hs.2 b hb).trans z) he new
theorem xK {P:Program} {w:World} {H':Hp} {h':Heap} {kvs:List (Key × V)} {vs:List (Key × Value)} (z:kvs.length≤sizeLine) (hd:(a==sysModules)=false) (rel:KV kvs vs) (dd:h'.DictOf (b8 P w) a vs):
  ObjOk P w H' h' a (.dK kvs):=⟨z,hd,vs,rel,dd⟩
theorem uD {H':Hp} {Q:Unit→Shared→Prop} (hu:A.units+1 < cLine) (I:Inv X pins σ H s) (g:DPut H a y v H') (ry:RelV y u) (rv:RelV v r) (h:∀ s',Inv X pins σ H' s'→Q () s'):
  wpAny (model X.prog X.w) A (setItem (.ref a) u r) Q E s:=by
 rcases g with ⟨kvs,k,e,ey,l,eH⟩ | ⟨kvs,k,b,e,ey,eb,l,eH⟩
 · subst ey eH
   obtain ⟨z,hd,vs,rel,dd⟩:=yE I.hok e
   have hz:vs.length≤sizeLine:=by rw [← rel.length]; exact z
   have hl:(putK kvs k v).length≤sizeLine:=by have:=mD kvs k v; omega
   refine wpAny_setItem_pairs (hsz:=hz) (nt ry) dd fun h' dd' hs=>h _ ?_
   have he:∃ q,h'.get? a=some q:=let ⟨q,_,_,hq,_⟩:=dd'; ⟨q,hq⟩
   exact sy I (by rw [e]; exact True.intro) hs he (xK hl hd (rel.put k rv) dd')
 · subst ey eH
   cases (show u=Value.ref b from ry)
   obtain ⟨z,hd,xs,rel,dd⟩:=yF I.hok e
   have hz:xs.length≤sizeLine:=by rw [← Paired.length rel]; exact z
   have hl:(putK kvs k v).length≤sizeLine:=by have:=mD kvs k v; omega
   refine wpAny_setItem_heap (hsz:=hz) (tupleKind_room_in1 hu) (k9 I.hok eb) dd fun h' dd' hs=>h _ ?_
   obtain ⟨q,es,ep,hq,h2,h3,h4,_,h5⟩:=dd'
   refine sy I (by rw [e]; exact True.intro) hs ⟨q,hq⟩ ⟨hl,hd,_,(rel.put k eb rv).keeps fun c ys ec=>?_,q,es,ep,hq,h2,h3,h4,h5⟩
   rw [aj (yx ec e (fun z=>nomatch z))]
   exact ec
end
section
variable {X:Cx} {pins:List (Addr × Obj)} {σ:St} {H:Hp} {s:Shared} {a:Addr} {kvs:List (Key × V)} {k:Key} {u:Value} {A:Around} {E:Value→Shared→Prop}
theorem yG {Q:Value→Shared→Prop} (I:Inv X pins σ H s) (e:Rd H a (.dK kvs)) (h:∀ t s',Inv X pins σ H s'→Q (.int kvs.length t) s'):wpAny (model X.prog X.w) A (call (.builtin "len") [.ref a]) Q E s:=by
 obtain ⟨z,hd,vs,rel,dd⟩:=lR I.hok e
 refine call_len_dict hd dd (by rw [← rel.length]; rw [sizeLine_eq] at z; omega) ?_
 rw [← rel.length]
 exact h _ _ (I.tok _)
end
theorem rK {X:Cx} {pins:List (Addr × Obj)} {σ:St} {H:Hp} {s:Shared} {a:Addr} {y:V} {o:Option V} (I:Inv X pins σ H s) (g:DGet H a y o):s.TypeIs (.ref a) "dict":=by
 rcases g with ⟨kvs,k,e,_,_⟩ | ⟨kvs,k,b,e,_,_,_⟩
 · obtain ⟨_,_,vs,_,dd⟩:=lR I.hok e
   exact dd.typeIs
 · obtain ⟨_,_,xs,_,dd⟩:=nu I.hok e
   exact dd.typeIs
def sDPut (td ty tv:TE):TS:=fun D σ H=>tv σ H fun v H1=>td σ H1 fun x H2=>ty σ H2 fun y H3=>∃ a H4,x=.ref a∧DPut H3 a y v H4∧D.nx σ H4
def xL:TE:=fun _ H Q=>∀ p,H p=none→Q (.ref p) (upd H p (.dK []))
end L2
namespace L2
open PySem PySem.Spec PyProof.Rows
section
variable {X:Cx}
theorem uE:CallR X (.builtin "len") (fun xs H Q=>∃ a kvs,xs=[V.ref a]∧H a=some (.dK kvs)∧Q (.int kvs.length) H):=by
 intro pins s σ H xs us Q I r h
 obtain ⟨a,kvs,rfl,ha,q⟩:=h
 obtain ⟨u,rfl,ru⟩:=fF r
 cases ru
 exact yG I (.inl ha) fun t s' I'=>⟨.int kvs.length,H,I',⟨t,rfl⟩,q⟩
end
end L2
namespace L2
open PySem PySem.Spec PyProof.Rows
theorem b9 {α:Type} (x:Str):∀ (a b:List (Str × α)),(a++b).lookup x=match a.lookup x with | some c=>some c | none=>b.lookup x
 | [],b=>rfl
 | (k,v)::r,b=>by
  rw [List.cons_append,List.lookup_cons,List.lookup_cons]
  cases x==k with
  | true=>rfl
  | false=>exact b9 x r b
theorem ij:∀ (names:List (Str × NameKind)) (n:Nat) (acc cl:List (Str × Addr)),cellsFrom n names (acc++cl)=cellsFrom n names acc++cl
 | [],_,_,_=>rfl
 | (y,k)::r,n,acc,cl=>by
  unfold cellsFrom
  split
  · rw [← List.cons_append]; exact ij r _ _ cl
  · exact ij r _ _ cl
theorem eQ {x:Str} {c:Addr}:∀ (names:List (Str × NameKind)) (n:Nat) (acc:List (Str × Addr)),(x,c)∈cellsFrom n names acc→(x,NameKind.cell)∈names∨(x,c)∈acc
 | [],_,_,h=>.inr h
 | (y,k)::r,n,acc,h=>by
  unfold cellsFrom at h
  split at h
  · rename_i hk
    have hk:k=.cell:=by simpa using hk
    subst hk
    rcases eQ r _ _ h with z | z
    · exact .inl (List.mem_cons_of_mem _ z)
    · rcases List.mem_cons.mp z with z | z
      · cases z; exact .inl List.mem_cons_self
      · exact .inr z
  · rcases eQ r _ _ h with z | z
    · exact .inl (List.mem_cons_of_mem _ z)
    · exact .inr z
theorem kh {env:Env} (f:Str × NameKind→List (Str × Addr)→Sem (ForInStep (List (Str × Addr))))
  (hf:∀ name kind cs,f (name,kind) cs=if kind==.free then (do let a ← cellOf env name; pure (.yield ((name,a)::cs))) else pure (.yield cs)):
  ∀ (names:List (Str × NameKind)) (acc:List (Str × Addr)),(∀ x,(x,NameKind.free)∈names→∃ c,env.cells.lookup x=some c)→(∀ x c,acc.lookup x=some c→env.cells.lookup x=some c)→
   ∃ cl,forIn names acc f=(pure cl:Sem _)∧(∀ x c,cl.lookup x=some c→env.cells.lookup x=some c)∧(∀ x,((x,NameKind.free)∈names∨∃ c,acc.lookup x=some c)→∃ c,cl.lookup x=some c)
 | [],acc,_,h2=>⟨acc,rfl,h2,fun x h=>h.elim (fun z=>nomatch z) id⟩
 | (y,k)::r,acc,h1,h2=>by
  rw [List.forIn_cons,hf]
  by_cases hk:(k==NameKind.free)=true
  · rw [if_pos hk]
    have hk':k=.free:=by simpa using hk
    subst hk'
    obtain ⟨c,hc⟩:=h1 y List.mem_cons_self
    have e:(cellOf env y:Sem Addr)=pure c:=by unfold cellOf; rw [hc]
    rw [e]
    obtain ⟨cl,e1,e2,e3⟩:=kh f hf r ((y,c)::acc) (fun x hx=>h1 x (List.mem_cons_of_mem _ hx)) (fun x c' hx=>by
     rw [List.lookup_cons] at hx
     cases hb:x==y with
     | true=>rw [hb] at hx; cases hx; rw [beq_iff_eq.mp hb]; exact hc
     | false=>rw [hb] at hx; exact h2 x c' hx)
    refine ⟨cl,?_,e2,fun x hx=>e3 x ?_⟩
    · exact e1
    · rcases hx with hx | ⟨c',hx⟩
      · rcases List.mem_cons.mp hx with z | z
        · cases z; exact .inr ⟨c,by rw [List.lookup_cons]; simp⟩
        · exact .inl z
      · cases hb:x==y with
        | true=>exact .inr ⟨c,by rw [List.lookup_cons,hb]⟩
        | false=>exact .inr ⟨c',by rw [List.lookup_cons,hb]; exact hx⟩
  · rw [if_neg hk]
    obtain ⟨cl,e1,e2,e3⟩:=kh f hf r acc (fun x hx=>h1 x (List.mem_cons_of_mem _ hx)) h2
    refine ⟨cl,e1,e2,fun x hx=>e3 x ?_⟩
    rcases hx with hx | hx
    · rcases List.mem_cons.mp hx with z | z
      · cases z; exact absurd rfl hk
      · exact .inl z
    · exact .inr hx
theorem sZ {scope:Scope} {env:Env} (h:∀ x,(x,NameKind.free)∈scope.names→∃ c,env.cells.lookup x=some c):
  ∃ cl,closureFor scope env=pure cl∧(∀ x c,cl.lookup x=some c→env.cells.lookup x=some c)∧∀ x,(x,NameKind.free)∈scope.names→∃ c,cl.lookup x=some c:=by
 obtain ⟨cl,e1,e2,e3⟩:=kh (env:=env) (fun x cs=>match x with | (name,kind)=>if kind==.free then (do let a ← cellOf env name; pure (.yield ((name,a)::cs))) else pure (.yield cs)) (fun _ _ _=>rfl) scope.names [] h (fun x c hx=>nomatch hx)
 refine ⟨cl,?_,e2,fun x hx=>e3 x (.inl hx)⟩
 have:closureFor scope env=(forIn scope.names [] (fun x cs=>match x with | (name,kind)=>if kind==.free then (do let a ← cellOf env name; pure (.yield ((name,a)::cs))) else pure (.yield cs)) >>= fun cs=>pure cs):=by
  simp only [closureFor]
 rw [this,e1]
 rfl
def uF (scope:Scope) (cl:List (Str × Addr)) (C:Addr) (env:Env):Env:=
 { newEnv scope C env.globals (cellsFrom (C+1) scope.names cl) env.qual none .none (some env) builtinsNs with scope:=relabel scope env }
theorem vR {M:Model} {A:Around} {E:Value→Shared→Prop} {s:Shared} {scope:Scope} {cl:List (Str × Addr)} {env:Env} {Q:Env→Shared→Prop}
  (hQ:Q (newEnv scope s.heap.objs.size env.globals (cellsFrom (s.heap.objs.size+1) scope.names cl) env.qual none .none (some env) builtinsNs) { s with heap:=pushCells (s.heap.push { cls:=.type "dict",data:=.dict #[] }) scope.names }):
  wpAny M A (newFunctionEnv scope env.globals cl [] env.qual none .none (some env)) Q E s:=by
 simp only [newFunctionEnv,Option.isSome_some,if_true]
 refine wpAny_bind (wpAny_alloc ?_)
 refine wpAny_bind (wpAny_layCells _ (fun name kind cells=>by cases hkc:kind==NameKind.cell <;> simp [hkc]) _ _ _ _ ?_)
 rw [show ({ s with heap:=s.heap.push { cls:=.type "dict",data:=.dict #[] } }:Shared).heap.objs.size=s.heap.objs.size+1 from Heap.size_push ..]
 refine wpAny_bind ?_
 rw [List.forIn_nil]
 exact wpAny_pure (wpAny_pure hQ)
section
variable {prog:Program} {w:World} {A:Around} {E:Value→Shared→Prop} {R:Result→Shared→Prop} {s:Shared}
theorem uG {elt target iter:Expr} {ifs:List Expr} {scope:Scope} {pos:Pos} {it acc:Value} {env:Env} (I:Nat→Shared→Prop)
  (turn:∀ n s,I n s→wpAny (model prog w) A (pyNext it) (fun r s₁=>match r with
   | none=>R (.ok .next) s₁
   | some v=>wpAny (model prog w) A (letOwnedTupleGo target it v) (fun _ s₁'=>wpAny (model prog w) A (assign target env v) (fun _ s₂=>
     wpAny (model prog w) A (forIn ifs true fun c r=>if r=true then do let ok ← isTrue c env (eval c env); pure (ForInStep.yield ok) else pure (ForInStep.yield r)) (fun ok s₃=>
      if ok=true then wpAny (model prog w) A (eval elt env) (fun x s₄=>
       wpAny (model prog w) A (call (.builtin "list.append") [acc,x]) (fun _ s₅=>∃ m,m < n∧I m s₅) (notedBy (model prog w) A env fun e s'=>R (.error e) s') s₄) (notedBy (model prog w) A env fun e s'=>R (.error e) s') s₃
      else ∃ m,m < n∧I m s₃) (notedBy (model prog w) A env fun e s'=>R (.error e) s') s₂) (notedBy (model prog w) A env fun e s'=>R (.error e) s') s₁') (notedBy (model prog w) A env fun e s'=>R (.error e) s') s₁) (notedBy (model prog w) A env fun e s'=>R (.error e) s') s)
  (n:Nat) (h:I n s):
  codeAny (model prog w) A (.compLoop (.ListComp elt [⟨target,iter,ifs,0⟩] scope pos) 0 it acc env) R s:=by
 refine codeAny_loop rfl I (fun n s hI=>?_) n h
 show wpAny _ A ((compTurn (.ListComp elt [⟨target,iter,ifs,0⟩] scope pos) 0 it acc env).onRaise (fun x=>do noteFrame x env; theTreesLotGoes x)) _ _ s
 refine wpAny_noted ?_
 rw [compTurn_list]
 refine wpAny_bind (wpAny_standAt (wpAny_bind (wpAny_mono (turn n s hI) (fun r s₁ h₁=>?_) fun _ _ h'=>h')))
 cases r with
 | none=>exact wpAny_pure h₁
 | some v=>
  refine wpAny_bind (wpAny_mono h₁ (fun _ s₁' h₁'=>?_) fun _ _ h'=>h')
  refine wpAny_bind (wpAny_mono h₁' (fun _ s₂ h₂=>wpAny_bind (wpAny_mono h₂ (fun ok s₃ h₃=>?_) fun _ _ h'=>h')) fun _ _ h'=>h')
  cases ok with
  | false=>exact wpAny_pure ⟨rfl,h₃⟩
  | true=>
   exact wpAny_bind (wpAny_bind (wpAny_mono h₃ (fun x s₄ h₄=>wpAny_bind (wpAny_mono h₄ (fun _ s₅ h₅=>wpAny_pure (wpAny_pure ⟨rfl,h₅⟩)) fun _ _ h'=>h')) fun _ _ h'=>h'))
end
end L2
namespace L2
open PySem PySem.Spec PyProof.Rows
theorem ji {scope:Scope} {env:Env} {x:Str} {k:NameKind} (h:(relabel scope env).names.lookup x=some k):∃ k',scope.names.lookup x=some k'∧(k=k'∨(k'=.free∧k=.cell)):=by
 unfold relabel at h
 dsimp only at h
 generalize scope.names=names at h ⊢
 induction names with
 | nil=>cases h
 | cons p r ih=>
  obtain ⟨n,k0⟩:=p
  rw [List.map_cons] at h
  rw [List.lookup_cons]
  cases hb:x==n with
  | true=>
   refine ⟨k0,rfl,?_⟩
   dsimp only at h
   split at h
   · rename_i hc
     rw [List.lookup_cons,hb] at h
     cases h
     simp only [Bool.and_eq_true,beq_iff_eq] at hc
     exact .inr ⟨hc.1.1,rfl⟩
   · rw [List.lookup_cons,hb] at h
     cases h
     exact .inl rfl
  | false=>
   dsimp only at h
   refine ih ?_
   split at h
   · rw [List.lookup_cons,hb] at h; exact h
   · rw [List.lookup_cons,hb] at h; exact h
def blkCx (X:Cx) (N:List Str) (scope:Scope) (cl:List (Str × Addr)) (s:Shared) (H:Hp) (fp:List Addr):Cx where
 prog:=X.prog
 w:=X.w
 K:=X.K
 mg:=X.mg
 base:=X.base
 A:=X.A
 N:=N
 s₀:=s
 H₀:=H
 env:=uF scope cl (s.heap.objs.size+1) X.env
 outer:=X.stack
 stack:=X.stack
 ex:=fp
 fn:=fun x=>scope.names.lookup x==some .cell
 calm:=X.calm
 pn:=[]
 xe:=fun e₀ s₁=>(∃ (pins:List (Addr × Obj)) (σ:St),Inv X pins σ H s∧∀ b∈fp,FpOk X pins H b)→notedBy (model X.prog X.w) X.A (uF scope cl (s.heap.objs.size+1) X.env) (fun x s'=>∃ m,s'.heap.Ns (s.heap.objs.size+1) m∧∀ h',Heap.SameBut (s.heap.objs.size+1) s'.heap h'→∀ cenv:Env,cenv.locals=s.heap.objs.size+1→
  wpAny (model X.prog X.w) X.A (passOn "comprehension.variables-let-go" x cenv:Sem Value) (fun _ _=>False) X.xe { s' with heap:=h' }) e₀ s₁
def subσ (ix:List (Option Nat)) (σ:St):St:=ix.map fun o=>match o with | none=>none | some i=>match σ[i]? with | some v=>v | none=>none
structure BlkOk (X:Cx) (N:List Str) (ix:List (Option Nat)) (scope:Scope):Prop where
 kind:scope.kind=.function
 nd:N.Nodup
 len:ix.length=N.length
 names:(scope.names.map (·.1)).Nodup
 free:∀ x,(x,NameKind.free)∈scope.names→X.env.kindOf x=some .cell∨X.env.kindOf x=some .free
 at_:∀ (j i:Nat) (x:Str),N[j]? =some x→ix[j]? =some (some i)→X.N[i]? =some x∧(x,NameKind.free)∈scope.names
theorem dh {α:Type}:∀ {l:List (Str × α)} {x:Str} {k:α},(l.map (·.1)).Nodup→(x,k)∈l→l.lookup x=some k
 | (y,k0)::r,x,k,nd,h=>by
  rw [List.map_cons,List.nodup_cons] at nd
  rw [List.lookup_cons]
  rcases List.mem_cons.mp h with e | e
  · cases e; simp
  · have:x≠y:=by
     rintro rfl
     exact nd.1 (List.mem_map.mpr ⟨(x,k),e,rfl⟩)
    have hb:(x==y)=false:=by simpa using this
    rw [hb]
    exact dh nd.2 e
theorem uH {X:Cx} {pins:List (Addr × Obj)} {σ:St} {H:Hp} {s:Shared} {N:List Str} {ix:List (Option Nat)} {scope:Scope} {cl:List (Str × Addr)} {fp:List Addr} (B:BlkOk X N ix scope)
  (I:Inv X pins σ H s) (hcl:∀ x c,cl.lookup x=some c→X.env.cells.lookup x=some c) (hcf:∀ x,(x,NameKind.free)∈scope.names→∃ c,cl.lookup x=some c)
  (hfp:∀ b∈fp,FpOk X pins H b) (hob:∀ b∈fp,∃ o,s.heap.get? b=some o∧∀ v,o.data≠.cell v):
  Inv (blkCx X N scope cl s H fp) [] (subσ ix σ) (upd H s.heap.objs.size (.lst []))
   { s with heap:=pushCells ((s.heap.push { cls:=.type "list",data:=.seq #[] }).push { cls:=.type "dict",data:=.dict #[] }) scope.names }:=by
 have hs2:(s.heap.push { cls:=.type "list",data:=.seq #[] }).objs.size=s.heap.objs.size+1:=Heap.size_push ..
 have hs3:((s.heap.push { cls:=.type "list",data:=.seq #[] }).push { cls:=.type "dict",data:=.dict #[] }).objs.size=s.heap.objs.size+2:=by rw [Heap.size_push,hs2]
 have hk:∀ b o,s.heap.get? b=some o→(pushCells ((s.heap.push { cls:=.type "list",data:=.seq #[] }).push { cls:=.type "dict",data:=.dict #[] }) scope.names).get? b=some o:=
  fun b o e=>pushCells_keeps _ _ b o (Heap.get?_push_of_some _ (Heap.get?_push_of_some _ e))
 have hl:(pushCells ((s.heap.push { cls:=.type "list",data:=.seq #[] }).push { cls:=.type "dict",data:=.dict #[] }) scope.names).get? s.heap.objs.size=some { cls:=.type "list",data:=.seq #[] }:=
  pushCells_keeps _ _ _ _ (Heap.get?_push_of_some _ (Heap.get?_push_size _ rfl))
 have ok0:=cellsFrom_ok scope.names ((s.heap.push { cls:=.type "list",data:=.seq #[] }).push { cls:=.type "dict",data:=.dict #[] }) (s.heap.objs.size+2) [] ⟨fun _ _ hm=>(nomatch hm),List.Pairwise.nil⟩ (by rw [hs3]; exact Nat.le_refl _)
 rw [hs3] at ok0
 have hcells:(blkCx X N scope cl s H fp).env.cells=cellsFrom (s.heap.objs.size+2) scope.names []++cl:=by
  show cellsFrom (s.heap.objs.size+1+1) scope.names cl=_
  rw [← List.nil_append cl,ij]
  simp
 have cases_:∀ x c,(blkCx X N scope cl s H fp).env.cells.lookup x=some c→((x,c)∈cellsFrom (s.heap.objs.size+2) scope.names []∧(x,NameKind.cell)∈scope.names)∨((cellsFrom (s.heap.objs.size+2) scope.names []).lookup x=none∧cl.lookup x=some c):=fun x c e=>by
  rw [hcells,b9] at e
  cases q:(cellsFrom (s.heap.objs.size+2) scope.names []).lookup x with
  | none=>rw [q] at e; exact .inr ⟨rfl,e⟩
  | some c'=>
   rw [q] at e
   cases e
   have m:=PySem.mem_of_lookup q
   refine .inl ⟨m,?_⟩
   rcases eQ _ _ _ m with z | z
   · exact z
   · exact nomatch z
 have oldc:∀ x c,cl.lookup x=some c→c < s.heap.objs.size:=fun x c e=>by
  obtain ⟨v,q⟩:=I.cell x c (hcl x c e)
  exact q.lt
 have hfree:H s.heap.objs.size=none:=I.hok.fresh (Nat.le_refl _)
 have hfix:∀ b,s.heap.objs.size < b→(upd H s.heap.objs.size (.lst [])) b=none:=fun b hb=>by
  rw [aj (Nat.ne_of_gt hb)]
  exact I.hok.fresh (Nat.le_of_lt hb)
 have hlt:∀ b∈fp,b < s.heap.objs.size:=fun b hb=>by
  obtain ⟨o,e,_⟩:=hob b hb
  exact Heap.lt_size e
 have e0:=I.env0
 have isnew:∀ x c,(x,c)∈cellsFrom (s.heap.objs.size+2) scope.names []→s.heap.objs.size+2≤c:=fun x c m=>(ok0.empty x c m).2
 refine ⟨⟨I.ok.mod,B.kind,I.ok.glob,I.ok.blt,Nat.le_succ _,fun x y c e1 e2=>?_,fun x hx=>?_,fun x c hx e=>?_,I.ok.hd,I.ok.frames,.inl rfl,fun b hb=>⟨?_,fun x c e=>?_⟩,e0.bs,e0.bsz,fun b o e hb=>?_,fun b hb hb2=>?_,e0.funs,e0.frf⟩,
  rfl,I.bare,Un.laid hk (Nat.le_refl _) hfree,⟨fun _=>none,?_,fun j x v e1 e2 e3=>?_⟩,fun x c e=>?_,hfix _ (Nat.lt_succ_self _),fun x c e=>?_,fun p hp=>absurd (show p∈([]:List (Addr × Obj)) from hp) (by simp),?_,?_⟩
 · rcases cases_ x c e1 with ⟨m1,k1⟩ | ⟨n1,q1⟩ <;> rcases cases_ y c e2 with ⟨m2,k2⟩ | ⟨n2,q2⟩
   · exact name_of_addr ok0.apart m1 m2
   · exact absurd (Nat.lt_of_lt_of_le (oldc _ _ q2) (Nat.le_trans (Nat.le_add_right _ _) (isnew _ _ m1))) (Nat.lt_irrefl _)
   · exact absurd (Nat.lt_of_lt_of_le (oldc _ _ q1) (Nat.le_trans (Nat.le_add_right _ _) (isnew _ _ m2))) (Nat.lt_irrefl _)
   · exact I.ok.inj x y c (hcl _ _ q1) (hcl _ _ q2)
 · have hx':(relabel scope X.env).names.lookup x=some .cell∨(relabel scope X.env).names.lookup x=some .free:=hx
   have key:scope.names.lookup x=some .cell∨scope.names.lookup x=some .free:=by
    rcases hx' with z | z
    · obtain ⟨k',e,r | r⟩:=ji z
      · rw [← r] at e; exact .inl e
      · rw [r.1] at e; exact .inr e
    · obtain ⟨k',e,r | r⟩:=ji z
      · rw [← r] at e; exact .inr e
      · cases r.2
   rw [hcells]
   rcases key with z | z
   · obtain ⟨c,q⟩:=kg (n:=s.heap.objs.size+2) z
     exact ⟨c,by rw [b9,q]⟩
   · obtain ⟨c,q⟩:=hcf x (PySem.mem_of_lookup z)
     cases q2:(cellsFrom (s.heap.objs.size+2) scope.names []).lookup x with
     | none=>exact ⟨c,by rw [b9,q2]; exact q⟩
     | some c'=>exact ⟨c',by rw [b9,q2]⟩
 · have hx':scope.names.lookup x=some .cell:=by simpa [blkCx] using hx
   rcases cases_ x c e with ⟨m1,k1⟩ | ⟨n1,q1⟩
   · exact Nat.le_trans (Nat.le_add_right _ _) (isnew _ _ m1)
   · obtain ⟨c',q⟩:=kg (n:=s.heap.objs.size+2) hx'
     rw [q] at n1; cases n1
 · exact Nat.ne_of_lt (Nat.lt_succ_of_lt (hlt b hb))
 · rcases cases_ x c e with ⟨m1,k1⟩ | ⟨n1,q1⟩
   · exact Nat.ne_of_gt (Nat.lt_of_lt_of_le (hlt b hb) (Nat.le_trans (Nat.le_add_right _ _) (isnew _ _ m1)))
   · exact (hfp b hb).2.2.2.2.1 x c (hcl _ _ q1)
 · rcases (hfp b hb).2.2.2.1 with z | z
   · exact I.ok.noex b o e z
   · exact absurd (Nat.lt_of_lt_of_le (Heap.lt_size e) (Nat.le_trans I.ok.bsz z)) (Nat.lt_irrefl _)
 · rcases List.mem_cons.mp (I.stkSub b hb2) with z | z
   · exact (hfp b hb).2.1 z
   · exact (hfp b hb).2.2.1 z
 · show Heap.Ns _ (s.heap.objs.size+1) _
   rw [← hs2]
   exact (Heap.Ns.new _ (.type "dict")).keeps (pushCells_keeps _ _)
 ·
   unfold subσ at e2
   rw [List.getElem?_map] at e2
   cases q:ix[j]? with
   | none=>rw [q] at e2; cases e2
   | some o=>
    rw [q] at e2
    cases o with
    | none=>cases e2
    | some i=>
     simp only [Option.map_some,Option.some.injEq] at e2
     obtain ⟨hN,hm⟩:=B.at_ j i x e1 q
     have hσ:σ[i]? =some (some v):=by
      cases q2:σ[i]? with
      | none=>rw [q2] at e2; cases e2
      | some z=>rw [q2] at e2; exact congrArg some e2
     obtain ⟨m,hn,hl'⟩:=I.loc
     have hkind:=B.free x hm
     have hvis:Vis X.env.scope x:=hkind.elim (fun z=>.inr (.inl z)) fun z=>.inr (.inr z)
     obtain ⟨u,ru,lk⟩:=hl' i x v hN hσ hvis
     refine ⟨u,ru,?_⟩
     obtain ⟨c,hc⟩:=hcf x hm
     have hnone:(cellsFrom (s.heap.objs.size+2) scope.names []).lookup x=none:=by
      cases q2:(cellsFrom (s.heap.objs.size+2) scope.names []).lookup x with
      | none=>rfl
      | some c'=>
       rcases eQ _ _ _ (PySem.mem_of_lookup q2) with z | z
       · have a1:=dh B.names z
         have a2:=dh B.names hm
         rw [a1] at a2; cases a2
       · exact nomatch z
     have hcell:(blkCx X N scope cl s H fp).env.cells.lookup x=some c:=by rw [hcells,b9,hnone]; exact hc
     have hkk:(blkCx X N scope cl s H fp).env.kindOf x=some .cell∨(blkCx X N scope cl s H fp).env.kindOf x=some .free:=by
      rcases e3 with z | z | z
      · obtain ⟨k',e,r | r⟩:=ji (show (relabel scope X.env).names.lookup x=some .local from z)
        · rw [dh B.names hm] at e; cases e; cases r
        · cases r.2
      · exact .inl z
      · exact .inr z
     refine .inr ⟨hkk,c,hcell,?_⟩
     rcases lk with ⟨k1,_⟩ | ⟨_,c2,e4,z⟩
     · rcases hkind with z | z <;> rw [k1] at z <;> cases z
     · rw [hcl x c hc] at e4; cases e4
       exact z.keeps hk
 · rcases cases_ x c e with ⟨m1,k1⟩ | ⟨n1,q1⟩
   · exact ⟨none,(ok0.empty x c m1).1⟩
   · obtain ⟨v,z⟩:=I.cell x c (hcl _ _ q1)
     exact ⟨v,z.keeps hk⟩
 · rcases cases_ x c e with ⟨m1,k1⟩ | ⟨n1,q1⟩
   · exact hfix c (Nat.lt_of_lt_of_le (Nat.lt_add_of_pos_right (by decide)) (isnew _ _ m1))
   · rw [aj (Nat.ne_of_lt (oldc _ _ q1))]
     exact I.freeC x c (hcl _ _ q1)
 · exact I.hok.laid hk (Nat.le_refl _) ⟨Nat.zero_le _,[],0,.nil,hl⟩
 · show (subσ ix σ).length=N.length
   unfold subσ
   rw [List.length_map]
   exact B.len
end L2
namespace L2
open PySem PySem.Spec PyProof.Rows
def PTs (X:Cx) (ifs:List Expr) (t:TT):Prop:=
 ∀ (pins:List (Addr × Obj)) (s:Shared) (σ:St) (H:Hp) (Q:Bool→Hp→Prop),Inv X pins σ H s→t σ H Q→
  wpAny (model X.prog X.w) X.A (forIn ifs true fun c r=>if r=true then do let ok ← isTrue c X.env (eval c X.env); pure (ForInStep.yield ok) else pure (ForInStep.yield r)) (TP X pins σ Q) X.xe s
def tTrue:TT:=fun _ H Q=>Q true H
theorem d6 {X:Cx}:PTs X [] tTrue:=fun _ _ _ H _ I h=>wpAny_tests_nil ⟨H,I,h⟩
theorem cK {X:Cx} {c:Expr} {t:TT} (h:PT X c t):PTs X [c] t:=fun pins s σ H Q I q=>wpAny_tests_one (h pins s σ H Q I q)
def ql (ix:List (Option Nat)) (wi:TI) (g:TG) (tt:TT) (te:TE) (fin:Addr→Hp→Prop):St→Hp→Prop:=fun σ H=>wi σ H fun J H1=>∀ l,H1 l=none→
 ∃ W:Nat→Nat→St→Hp→Prop,(∃ m,W 0 m (subσ ix σ) (upd H1 l (.lst [])))∧∀ i m σ' H',W i m σ' H'→
  (J.stop i H'∧fin l H')∨(J.go i H'∧∃ N:St→Hp→Prop,(∀ σ'' H'',N σ'' H''→∃ m',m' < m∧W (i+1) m' σ'' H'')∧∀ x H2,J.yld i H' x H2→g x σ' H2 fun σ2 H3=>tt σ2 H3 fun b H4=>
   if b=true then te σ2 H4 fun y H5=>∃ ys,H5 l=some (.lst ys)∧ys.length < sizeLine∧N σ2 (upd H5 l (.lst (ys++[y]))) else N σ2 H4)
section
variable {X:Cx} {pins:List (Addr × Obj)} {σ σ':St} {H H':Hp} {s s':Shared} {N:List Str} {scope:Scope} {cl:List (Str × Addr)} {fp:List Addr}
theorem sA {h':Heap} (I:Inv X pins σ H s) (J:Inv (blkCx X N scope cl s H fp) [] σ' H' s') (hfp:∀ b∈fp,FpOk X pins H b) (sb:Heap.SameBut (s.heap.objs.size+1) s'.heap h'):Inv X pins σ H' { s' with heap:=h' }:=by
 have u:Un (frs X.stack) fp H H' s.heap s'.heap:=J.base
 have hC:H' (s.heap.objs.size+1)=none:=J.free
 have ne:∀ b o,s.heap.get? b=some o→b≠s.heap.objs.size+1:=fun b o e=>Nat.ne_of_lt (Nat.lt_succ_of_lt (Heap.lt_size e))
 refine I.call' (s':={ s' with heap:=h' }) (ch:=fp) J.os ⟨fun b o e n hb hx=>?_,fun b o e n hb hx=>?_,u.free,fun b o e hx=>?_,u.tups,u.frzs,u.tbls⟩ (fun b ob e=>?_) J.bare fun b hb=>?_
 · exact (sb.2 b (ne b o e)).trans (u.keep b o e n hb hx)
 · obtain ⟨sl,q⟩:=u.slot b o e n hb hx
   exact ⟨sl,(sb.2 b (ne b o e)).trans q⟩
 · obtain ⟨o',q⟩:=u.there b o e hx
   exact ⟨o',(sb.2 b (ne b o e)).trans q⟩
 · refine (J.hok b ob e).stay (fun c w' hc q=>(sb.2 c ?_).trans q) (fun _ q=>q) fun _ _ q=>q
   rintro rfl
   rcases hc with rfl | hc
   · rw [hC] at e; cases e
   · rw [hC] at hc; cases hc
 · obtain ⟨f0,f1,f2,f3,f4,f5⟩:=hfp b hb
   exact ⟨f3,f1,f4,f5⟩
theorem qm {tg iter elt:Expr} {ifs:List Expr} {pos:Pos} {ix:List (Option Nat)} {wi:TI} {g:TG} {tt:TT} {te:TE} {fin:Addr→Hp→Prop} {RR:Value→Addr→Result→Shared→Prop} (B:BlkOk X N ix scope) (hc:X.calm=true)
  (hi:PI X tg iter wi) (hg:∀ cl s H fp,PG (blkCx X N scope cl s H fp) tg g) (ht:∀ cl s H fp,PTs (blkCx X N scope cl s H fp) ifs tt) (he:∀ cl s H fp,PE (blkCx X N scope cl s H fp) elt te)
  (hcl:∀ x c,cl.lookup x=some c→X.env.cells.lookup x=some c) (hcf:∀ x,(x,NameKind.free)∈scope.names→∃ c,cl.lookup x=some c)
  (I:Inv X pins σ H s) (h:ql ix wi g tt te fin σ H)
  (ok:∀ (s2:Shared) (H2:Hp) (fp:List Addr) (σ3:St) (H3:Hp) (s3:Shared),Inv X pins σ H2 s2→(∀ b∈fp,FpOk X pins H2 b)→Inv (blkCx X N scope cl s2 H2 fp) [] σ3 H3 s3→fin s2.heap.objs.size H3→RR (.ref s2.heap.objs.size) (s2.heap.objs.size+1) (.ok .next) s3)
  (bad:∀ (a C:Addr) (x:Value) (s':Shared),(∃ m,s'.heap.Ns C m∧∀ h',Heap.SameBut C s'.heap h'→∀ cenv:Env,cenv.locals=C→wpAny (model X.prog X.w) X.A (passOn "comprehension.variables-let-go" x cenv:Sem Value) (fun _ _=>False) X.xe { s' with heap:=h' })→RR (.ref a) C (.error x) s'):
  wpAny (model X.prog X.w) X.A (eval iter X.env) (fun x s₁=>wpAny (model X.prog X.w) X.A (pyIter x) (fun it s₂=>wpAny (model X.prog X.w) X.A (newList []) (fun acc s₃=>
   wpAny (model X.prog X.w) X.A (newFunctionEnv scope X.env.globals cl [] X.env.qual none .none (some X.env)) (fun cenv s₄=>
    codeAny (model X.prog X.w) X.A (.compStart (.ListComp elt [⟨tg,iter,ifs,0⟩] scope pos) 0 it acc { cenv with scope:=relabel scope X.env }) (RR acc cenv.locals) s₄) X.xe s₃) X.xe s₂) X.xe s₁) X.xe s:=by
 refine thn (hi pins s σ H _ I h) fun v s1 h1=>thn h1 fun itv s2 h2=>?_
 obtain ⟨it,fp,tn,J,H2,e,I2,T,st2,f2,h2⟩:=h2
 subst e
 refine wpAny_newList (vR ?_) (Nat.zero_le _)
 have hs2:(s2.heap.push { cls:=.type "list",data:=.seq (([]:List Value)).toArray }).objs.size=s2.heap.objs.size+1:=Heap.size_push ..
 dsimp only
 rw [hs2]
 have I3:=uH (fp:=fp) B I2 hcl hcf f2 (T.obj _ _ st2)
 obtain ⟨W,⟨m0,w0⟩,turn⟩:=h2 s2.heap.objs.size I2.fresh
 have hk:∀ b o,s2.heap.get? b=some o→(pushCells ((s2.heap.push { cls:=.type "list",data:=.seq #[] }).push { cls:=.type "dict",data:=.dict #[] }) scope.names).get? b=some o:=
  fun b o e=>pushCells_keeps _ _ b o (Heap.get?_push_of_some _ (Heap.get?_push_of_some _ e))
 have st3:=T.keep _ _ _ st2 fun b _ o e=>hk b o e
 have fr3:∀ b∈fp,(upd H2 s2.heap.objs.size (.lst [])) b=none:=fun b hb=>by
  obtain ⟨o,e,_⟩:=T.obj _ _ st2 b hb
  rw [aj (Nat.ne_of_lt (Heap.lt_size e))]
  exact (f2 b hb).1
 have stat:∀ {σ5:St} {H5:Hp} {s5:Shared},Inv (blkCx X N scope cl s2 H2 fp) [] σ5 H5 s5→(∀ b∈fp,H5 b=none)→∀ b∈fp,FpOk (blkCx X N scope cl s2 H2 fp) [] H5 b:=fun I5 hn b hb=>
  ⟨hn b hb,(I5.ok.exf b hb).1,I5.ok.exfs b hb,.inl hb,(I5.ok.exf b hb).2,fun p hp=>absurd (show p∈([]:List (Addr × Obj)) from hp) (by simp)⟩
 have loop:∀ s₃:Shared,s₃={ s2 with heap:=pushCells ((s2.heap.push { cls:=.type "list",data:=.seq #[] }).push { cls:=.type "dict",data:=.dict #[] }) scope.names }→
   codeAny (model X.prog X.w) X.A (.compLoop (.ListComp elt [⟨tg,iter,ifs,0⟩] scope pos) 0 (.ref it) (.ref s2.heap.objs.size) (blkCx X N scope cl s2 H2 fp).env) (RR (.ref s2.heap.objs.size) (s2.heap.objs.size+1)) s₃:=by
  rintro s₃ rfl
  refine uG (fun n s'=>∃ i σ' H',Inv (blkCx X N scope cl s2 H2 fp) [] σ' H' s'∧tn i s'.heap∧(∀ b∈fp,H' b=none)∧W i n σ' H') ?_ m0 ⟨0,_,_,I3,st3,fr3,w0⟩
  rintro n s4 ⟨i,σ4,H4,I4,st4,fr4,w4⟩
  have xe_:∀ x s',(blkCx X N scope cl s2 H2 fp).xe x s'→notedBy (model X.prog X.w) X.A (blkCx X N scope cl s2 H2 fp).env (fun e s'=>RR (.ref s2.heap.objs.size) (s2.heap.objs.size+1) (.error e) s') x s':=fun x s' hx=>
   wpAny_mono (hx ⟨pins,σ,I2,f2⟩) (fun _ s'' q=>bad _ _ _ _ q) fun e s'' q=>bad _ _ _ _ q
  rcases turn i n σ4 H4 w4 with ⟨stop,qn⟩ | ⟨go,Nx,hN,step⟩
  · refine wpAny_mono (T.done (blkCx X N scope cl s2 H2 fp) rfl rfl rfl hc i [] s4 σ4 H4 _ I4 (stat I4 fr4) st4 stop) (fun r s5 ⟨hr,I5⟩=>?_) xe_
    subst hr
    exact ok s2 H2 fp σ4 H4 s5 I2 f2 I5 qn
  · refine wpAny_mono (T.item (blkCx X N scope cl s2 H2 fp) rfl rfl rfl hc i [] s4 σ4 H4 _ I4 (stat I4 fr4) st4 go) (fun r s5 ⟨u,hr,h5⟩=>?_) xe_
    subst hr
    refine wpAny_mono h5 (fun _ s6 ⟨x,H6,I6,r6,y6,st6,fr6⟩=>?_) xe_
    have I6':=I6.pinned (stat I6 fr6) (T.obj _ _ st6)
    refine wpAny_mono (hg cl s2 H2 fp _ s6 σ4 H6 x u _ I6' r6 (step x H6 y6)) (fun _ s7 ⟨σ7,H7,I7,q7⟩=>?_) xe_
    have again:∀ {σ8:St} {H8:Hp} {s8:Shared},Inv (blkCx X N scope cl s2 H2 fp) ([]++kU fp s6.heap) σ8 H8 s8→Nx σ8 H8→∃ m,m < n∧∃ i σ' H',Inv (blkCx X N scope cl s2 H2 fp) [] σ' H' s8∧tn i s8.heap∧(∀ b∈fp,H' b=none)∧W i m σ' H':=fun {σ8 H8 s8} I8 n8=>by
     obtain ⟨m',hm,w8⟩:=hN σ8 H8 n8
     refine ⟨m',hm,i+1,σ8,H8,I8.unpinned,T.keep _ _ _ st6 fun b hb o e=>(I8.pin (b,o) (List.mem_append_right _ (List.mem_append_right _ (im hb e)))).1,fun b hb=>?_,w8⟩
     obtain ⟨o,e,d⟩:=T.obj _ _ st6 b hb
     exact (I8.pin (b,o) (List.mem_append_right _ (List.mem_append_right _ (im hb e)))).2.1
    refine wpAny_mono (ht cl s2 H2 fp _ s7 σ7 H7 _ I7 q7) (fun okb s8 ⟨H8,I8,q8⟩=>?_) xe_
    cases okb with
    | false=>exact again I8 q8
    | true=>
     refine wpAny_mono (he cl s2 H2 fp _ s8 σ7 H8 _ I8 q8) (fun y s9 ⟨yv,H9,I9,r9,ys,hl,hz,q9⟩=>?_) xe_
     refine wpAny_mono (pq (X:=blkCx X N scope cl s2 H2 fp) _ s9 σ7 H9 (.ref s2.heap.objs.size) [yv] (.ref s2.heap.objs.size) [y] (fun _ H10=>Nx σ7 H10) I9 rfl (.cons r9 .nil) ⟨_,ys,yv,rfl,rfl,hl,hz,q9⟩) (fun _ s10 ⟨_,H10,I10,_,q10⟩=>?_) xe_
     exact again I10 q10
 exact codeAny_compStart_list (loop _ rfl) (T.self _ 0 _ _ _ st3 (loop _ rfl))
def tComp (ix:List (Option Nat)) (wi:TI) (g:TG) (tt:TT) (te:TE):TE:=fun σ H Q=>ql ix wi g tt te (fun l H'=>Q (.ref l) H') σ H
def sComp (k:Nat) (ix:List (Option Nat)) (wi:TI) (g:TG) (tt:TT) (te:TE):TS:=fun D σ H=>ql ix wi g tt te (fun l H'=>D.nx (σ.set k (some (.ref l))) H') σ H
theorem sB (I:Inv X pins σ H s) {ix:List (Option Nat)} (B:BlkOk X N ix scope):∃ cl,closureFor scope X.env=pure cl∧(∀ x c,cl.lookup x=some c→X.env.cells.lookup x=some c)∧∀ x,(x,NameKind.free)∈scope.names→∃ c,cl.lookup x=some c:=
 sZ fun x hx=>I.ok.has x (B.free x hx)
theorem mE {ix:List (Option Nat)} (B:BlkOk X N ix scope):∀ x∈scope.names,x.2=NameKind.local→scope.names.lookup x.1=some .local:=fun x hx e=>by
 obtain ⟨n,k⟩:=x
 cases e
 exact dh B.names hx
theorem bh {tg iter elt:Expr} {ifs:List Expr} {pos:Pos} {ix:List (Option Nat)} {wi:TI} {g:TG} {tt:TT} {te:TE} (N:List Str) (B:BlkOk X N ix scope) (hc:X.calm=true)
  (hi:PI X tg iter wi) (hg:∀ cl s H fp,PG (blkCx X N scope cl s H fp) tg g) (ht:∀ cl s H fp,PTs (blkCx X N scope cl s H fp) ifs tt) (he:∀ cl s H fp,PE (blkCx X N scope cl s H fp) elt te)
  (hs:∀ x,foldedSetIterable iter X.env x=pure x:=by intro _; rfl):PE X (.ListComp elt [⟨tg,iter,ifs,0⟩] scope pos) (tComp ix wi g tt te):=by
 intro pins s σ H Q I h
 obtain ⟨cl,e1,e2,e3⟩:=sB I B
 rw [eval_ListComp]
 refine wpAny_comprehension_free (use:=none) rfl hs e1 B.kind (mE B) ?_
 refine qm (RR:=fun acc C=>compPost (model X.prog X.w) X.A X.xe none (EP X pins σ Q) acc C) B hc hi hg ht he e2 e3 I h (fun s2 H2 fp σ3 H3 s3 I2 f2 J q=>?_) (fun a C x s' q=>q)
 obtain ⟨m,hn,_⟩:=J.loc
 exact ⟨m,hn,fun h' sb=>⟨.ref _,H3,sA I2 J f2 sb,rfl,q⟩⟩
theorem oV {y:Str} {py spos:Pos} {k:Nat} {tg iter elt:Expr} {ifs:List Expr} {pos:Pos} {ix:List (Option Nat)} {wi:TI} {g:TG} {tt:TT} {te:TE} (hN:X.N.Nodup) (hy:X.N[k]? =some y) (hx:Loc X.env.scope y)
  (hsw:swapsWith (.ListComp elt [⟨tg,iter,ifs,0⟩] scope pos) (some (.Name y py)) spos.line X.env=pure true) (N:List Str) (B:BlkOk X N ix scope) (hc:X.calm=true)
  (hi:PI X tg iter wi) (hg:∀ cl s H fp,PG (blkCx X N scope cl s H fp) tg g) (ht:∀ cl s H fp,PTs (blkCx X N scope cl s H fp) ifs tt) (he:∀ cl s H fp,PE (blkCx X N scope cl s H fp) elt te)
  (hs:∀ x,foldedSetIterable iter X.env x=pure x:=by intro _; rfl) (hf:X.fn y=true∨X.env.scope.names.lookup y=some .local:=by first | exact .inl rfl | exact .inr rfl | assumption):
  PS X (.Assign [.Name y py] (.ListComp elt [⟨tg,iter,ifs,0⟩] scope pos) spos) (sComp k ix wi g tt te):=by
 intro pins s σ H D I h
 obtain ⟨cl,e1,e2,e3⟩:=sB I B
 rw [exec_Assign_Name_used _ _ _ _ hsw]
 refine wpAny_bind (wpAny_standAt (wpAny_bind ?_))
 show wpAny _ X.A (do let _ ← comprehension (.ListComp elt [⟨tg,iter,ifs,0⟩] scope pos) scope X.env _ (newList []) false (eval iter X.env) (some (assign (.Name y py) X.env))) _ _ s
 refine wpAny_bind (wpAny_mono (wpAny_comprehension_free (use:=some (assign (.Name y py) X.env)) (Q:=fun _ s'=>SP X pins D .next s') rfl hs e1 B.kind (mE B) ?_) (fun _ s' hq=>wpAny_pure (wpAny_pure hq)) fun _ _ e=>e)
 refine qm (RR:=fun acc C=>compPost (model X.prog X.w) X.A X.xe (some (assign (.Name y py) X.env)) (fun _ s'=>SP X pins D .next s') acc C) B hc hi hg ht he e2 e3 I h (fun s2 H2 fp σ3 H3 s3 I2 f2 J q=>?_) (fun a C x s' q=>q)
 obtain ⟨m,hn,_⟩:=J.loc
 have I3:Inv X pins σ H3 { s3 with heap:=s3.heap }:=sA I2 J f2 (Heap.SameBut.refl _ _)
 show wpAny _ X.A (assign (.Name y py) X.env (.ref _)) _ _ _
 refine wpAny_assign_Name (pf (v:=.ref _) I3 hN hy hx rfl (fun s4 I4 ⟨a,sb4,ha⟩=>?_) hf)
 have hlt:a < s2.heap.objs.size:=by
  rcases ha with rfl | ha
  · exact I2.lt
  · obtain ⟨v,z⟩:=I2.cell _ _ ha
    exact z.lt
 have hCa:s2.heap.objs.size+1≠a:=Nat.ne_of_gt (Nat.lt_succ_of_lt hlt)
 refine ⟨m,hn.sameBut sb4 hCa,fun h' sb=>?_⟩
 refine ⟨_,H3,I4.turned (t':=s4.toks) (it:=s2.heap.objs.size+1) (fun b o hb e=>(sb.2 b hb).trans e) J.free (Nat.ne_of_gt (Nat.lt_succ_of_lt I2.lt)) (.inr (Nat.le_trans I2.sz (Nat.le_succ _))) (fun x c e=>?_) (fun p hp=>?_),q⟩
 · obtain ⟨v,z⟩:=I2.cell x c e
   exact Nat.ne_of_lt (Nat.lt_succ_of_lt z.lt)
 · exact Nat.ne_of_lt (Nat.lt_succ_of_lt (Heap.lt_size (I2.pin p hp).1))
end
end L2
namespace L2
open PySem PySem.Spec PyProof.Rows
def bnd {α:Type}:Option α→(α→Prop)→Prop
 | some a,k=>k a
 | none,_=>False
theorem a7 {α:Type} {o:Option α} {a:α} {k:α→Prop} (h:o=some a) (q:k a):bnd o k:=by subst h; exact q
theorem bi {α:Type} {o:Option α} {k:α→Prop} (h:bnd o k):∃ a,o=some a∧k a:=by
 cases o with
 | none=>exact h.elim
 | some a=>exact ⟨a,rfl,h⟩
theorem cA {α:Type} {a:α} {k:α→Prop}:bnd (some a) k=k a:=rfl
def unM:Option HO→Option (List V)
 | some (.lst xs)=>some xs
 | _=>none
def unL:Option HO→Option (List V)
 | some (.lst xs)=>some xs
 | some (.frz _ (.lst xs))=>some xs
 | _=>none
def unS:Option HO→Option (List V)
 | some (.lst xs)=>some xs
 | some (.frz _ (.lst xs))=>some xs
 | some (.tup xs)=>some xs
 | _=>none
theorem la {o:Option HO} {xs:List V} (h:unM o=some xs):o=some (.lst xs):=by
 unfold unM at h; split at h
 · cases h; rfl
 · cases h
theorem qo {K:PySem.W.Frag} {H:Hp} {p:Addr} {xs:List V} (h:unL (H p)=some xs):SqL K H p xs:=by
 unfold unL at h; split at h
 · rename_i e; cases h; exact .inl (.inl e)
 · rename_i o _ e; cases h; exact .inl (.inr ⟨_,e⟩)
 · cases h
theorem lb {K:PySem.W.Frag} {H:Hp} {p:Addr} {xs:List V} (h:unS (H p)=some xs):SqL K H p xs∨SqT K H p xs:=by
 unfold unS at h; split at h
 · rename_i e; cases h; exact .inl (.inl (.inl e))
 · rename_i o _ e; cases h; exact .inl (.inl (.inr ⟨_,e⟩))
 · rename_i e; cases h; exact .inr (.inl (.inl e))
 · cases h
mutual
inductive DV (K:PySem.W.Frag) (H:Hp):V→PyData→Prop
 | non:DV K H .non .none
 | bl (b:Bool):DV K H (.bl b) (.bool b)
 | int (i:Int):DV K H (.int i) (.int i)
 | str (x:Str):DV K H (.str x) (.str x)
 | lst {a:Addr} {xs:List V} {ds:List PyData}:SqL K H a xs→DVs K H xs ds→DV K H (.ref a) (.list ds)
 | tup {a:Addr} {xs:List V} {ds:List PyData}:SqT K H a xs→DVs K H xs ds→DV K H (.ref a) (.tuple ds)
inductive DVs (K:PySem.W.Frag) (H:Hp):List V→List PyData→Prop
 | nil:DVs K H [] []
 | cons {x:V} {d:PyData} {xs:List V} {ds:List PyData}:DV K H x d→DVs K H xs ds→DVs K H (x::xs) (d::ds)
end
section
variable {X:Cx} {pins:List (Addr × Obj)} {σ:St} {H:Hp} {s:Shared}
mutual
theorem DV.reads (I:Inv X pins σ H s):∀ {x:V} {d:PyData} {v:Value},DV X.K H x d→RelV x v→∃ as,Reads s.heap v d as
 | _,_,_,.non,r=>by cases r; exact ⟨_,.none⟩
 | _,_,_,.bl b,r=>by cases r; exact ⟨_,.bool b⟩
 | _,_,_,.int i,r=>by obtain ⟨t,rfl⟩:=r; exact ⟨_,.int i t⟩
 | _,_,_,.str x,r=>by obtain ⟨t,rfl⟩:=r; exact ⟨_,.str x t⟩
 | _,_,_,.lst (a:=a) h hs,r=>by
  cases r
  obtain ⟨its,rv,p,_⟩:=I.list h
  obtain ⟨as,q⟩:=DVs.reads I hs rv
  obtain ⟨o,h1,h2,n,h3⟩:=p.isList
  exact ⟨_,.list h1 h2 h3 q⟩
 | _,_,_,.tup (a:=a) h hs,r=>by
  cases r
  obtain ⟨its,rv,p,_⟩:=I.tuple h
  obtain ⟨as,q⟩:=DVs.reads I hs rv
  obtain ⟨o,h1,h2,n,h3⟩:=p
  exact ⟨_,.tuple h1 h2 h3 q⟩
theorem DVs.reads (I:Inv X pins σ H s):∀ {xs:List V} {ds:List PyData} {us:List Value},DVs X.K H xs ds→Vals xs us→∃ as,ReadsAll s.heap us ds as
 | _,_,_,.nil,.nil=>⟨_,.nil⟩
 | _,_,_,.cons h hs,.cons r rs=>by
  obtain ⟨as,q⟩:=DV.reads I h r
  obtain ⟨bs,q2⟩:=DVs.reads I hs rs
  exact ⟨_,.cons q q2⟩
end
end
theorem DVs.ints {K:PySem.W.Frag} {H:Hp}:∀ ns:List Int,DVs K H (ns.map V.int) (ns.map PyData.int)
 | []=>.nil
 | n::r=>.cons (.int n) (DVs.ints r)
theorem qp:∀ ns ms:List Int,PyData.eqvAll (ns.map PyData.int) (ms.map PyData.int)=decide (ns=ms):=PySem.W.ked_eqvAll
theorem qq:∀ ns:List Int,PyData.canLayAll0 (ns.map PyData.int)=true
 | []=>rfl
 | n::r=>by rw [List.map_cons,PyData.canLayAll0,qq r]; rfl
theorem nv:∀ ns:List Int,PyData.depthAll (ns.map PyData.int)=0
 | []=>rfl
 | n::r=>by rw [List.map_cons,PyData.depthAll,nv r]; rfl
theorem g9 (ns:List Int):SeqAt.shaped (.list (ns.map PyData.int))=true:=by
 simp [SeqAt.shaped,PyData.canLay0,qq,PyData.depth,nv]
def cAdd:R2
 | .int i,.int j,H,Q=>Q (.int (i+j)) H
 | .str i,.str j,H,Q=>i.length+j.length≤sizeLine∧Q (.str (i++j)) H
 | .ref l,.ref b,H,Q=>bnd (unM (H l)) fun xs=>bnd (unM (H b)) fun zs=>xs.length+zs.length≤sizeLine∧∀ p,H p=none→Q (.ref p) (upd H p (.lst (xs++zs)))
 | _,_,_,_=>False
def cSub:R2
 | .int i,.int j,H,Q=>Q (.int (i - j)) H
 | _,_,_,_=>False
def cMul:R2
 | .int i,.int j,H,Q=>CMul i j∧Q (.int (i*j)) H
 | _,_,_,_=>False
def cDiv:R2
 | .int i,.int j,H,Q=>CDiv i j∧Q (.int (i / j)) H
 | _,_,_,_=>False
def cMod:R2
 | .int i,.int j,H,Q=>0 < j∧Q (.int (i % j)) H
 | _,_,_,_=>False
def cPow:R2
 | .int i,.int j,H,Q=>CPow i j∧Q (.int (i^j.toNat)) H
 | _,_,_,_=>False
def cCmp (g:Int→Int→Bool):R2
 | .int i,.int j,H,Q=>Q (.bl (g i j)) H
 | _,_,_,_=>False
def rEqD (K:PySem.W.Frag):R2:=fun x y H Q=>∃ d e,DV K H x d∧DV K H y e∧SeqAt.shaped d=true∧SeqAt.shaped e=true∧Q (.bl (PyData.eqv d e)) H
def rNeD (K:PySem.W.Frag):R2:=fun x y H Q=>∃ d e,DV K H x d∧DV K H y e∧SeqAt.shaped d=true∧SeqAt.shaped e=true∧Q (.bl (!PyData.eqv d e)) H
def cEq (K:PySem.W.Frag):R2
 | .int i,.int j,H,Q=>Q (.bl (decide (i=j))) H
 | .bl i,.bl j,H,Q=>Q (.bl (decide (i=j))) H
 | .str i,.str j,H,Q=>Q (.bl (decide (i=j))) H
 | x,y,H,Q=>rEqD K x y H Q
def cNe (K:PySem.W.Frag):R2
 | .int i,.int j,H,Q=>Q (.bl (!decide (i=j))) H
 | .bl i,.bl j,H,Q=>Q (.bl (!decide (i=j))) H
 | .str i,.str j,H,Q=>Q (.bl (!decide (i=j))) H
 | x,y,H,Q=>rNeD K x y H Q
def rInD (K:PySem.W.Frag) (neg:Bool):R2:=fun x y H Q=>∃ d ds,DV K H x d∧(DV K H y (.list ds)∨DV K H y (.tuple ds))∧PyData.canLayAll0 ds=true∧PyData.canLay0 d=true∧min (PyData.depthAll ds) d.depth≤62∧
 Q (.bl (if neg then !ds.any (fun y=>PyData.eqv y d) else ds.any fun y=>PyData.eqv y d)) H
def keyOf:V→Option Key
 | .int i=>some (.inl i)
 | .str x=>some (.inr x)
 | _=>none
def unD:Option HO→Option (List (Key × V))
 | some (.dK kvs)=>some kvs
 | _=>none
def cIn (K:PySem.W.Frag) (neg:Bool):R2
 | .ref a,y,H,Q=>rInD K neg (.ref a) y H Q
 | x,.ref p,H,Q=>(match unD (H p) with
  | some kvs=>bnd (keyOf x) fun k=>Q (.bl (if neg then !(valV kvs k).isSome else (valV kvs k).isSome)) H
  | none=>bnd (unS (H p)) fun xs=>flatV x=true∧xs.all flatV=true∧Q (.bl (if neg then !inV x xs else inV x xs)) H)
 | .str i,.str j,H,Q=>Q (.bl (if neg then !(!(Builtin.Str.occurrences j i 0 j.length 1).isEmpty) else !(Builtin.Str.occurrences j i 0 j.length 1).isEmpty)) H
 | _,_,_,_=>False
def cIx:R2
 | .ref p,y,H,Q=>(match unD (H p) with
  | some kvs=>bnd (keyOf y) fun k=>bnd (valV kvs k) fun v=>Q v H
  | none=>match y with
   | .int i=>bnd (unS (H p)) fun xs=>bnd (atI xs i) fun v=>Q v H
   | _=>False)
 | .str z,.int i,H,Q=>z.length≤sizeLine∧bnd (atI z.cps.toList i) fun c=>Q (.str ⟨#[c]⟩) H
 | _,_,_,_=>False
theorem nw {o:Option HO} {kvs:List (Key × V)} (h:unD o=some kvs):o=some (.dK kvs):=by
 unfold unD at h; split at h
 · cases h; rfl
 · cases h
theorem mL {x:V} {k:Key} (h:keyOf x=some k):x=kV k:=by
 unfold keyOf at h; split at h
 · cases h; rfl
 · cases h; rfl
 · cases h
section
variable {X:Cx} {a b c:Expr} {ta tb tc:TE} {pos:Pos}
theorem aD:OpR X (binaryOp .Add) cAdd:=by
 intro pins s σ H x y v u Q I rx ry h
 unfold cAdd at h
 split at h
 · exact xw pins s σ H _ _ v u Q I rx ry ⟨_,_,rfl,rfl,h⟩
 · exact sS pins s σ H _ _ v u Q I rx ry ⟨_,_,rfl,rfl,h.1,h.2⟩
 · obtain ⟨xs,e1,h⟩:=bi h
   obtain ⟨zs,e2,h⟩:=bi h
   exact xJ pins s σ H _ _ v u Q I rx ry ⟨_,_,xs,zs,rfl,rfl,la e1,la e2,h.1,h.2⟩
 · exact h.elim
theorem bd:OpR X (binaryOp .Sub) cSub:=by
 intro pins s σ H x y v u Q I rx ry h
 unfold cSub at h
 split at h
 · exact xx pins s σ H _ _ v u Q I rx ry ⟨_,_,rfl,rfl,h⟩
 · exact h.elim
theorem be:OpR X (binaryOp .Mult) cMul:=by
 intro pins s σ H x y v u Q I rx ry h
 unfold cMul at h
 split at h
 · exact xy pins s σ H _ _ v u Q I rx ry ⟨_,_,rfl,rfl,h.1,h.2⟩
 · exact h.elim
theorem bj:OpR X (binaryOp .FloorDiv) cDiv:=by
 intro pins s σ H x y v u Q I rx ry h
 unfold cDiv at h
 split at h
 · exact wx pins s σ H _ _ v u Q I rx ry ⟨_,_,rfl,rfl,h.1,h.2⟩
 · exact h.elim
theorem aI:OpR X (binaryOp .Mod) cMod:=by
 intro pins s σ H x y v u Q I rx ry h
 unfold cMod at h
 split at h
 · exact xA pins s σ H _ _ v u Q I rx ry ⟨_,_,rfl,rfl,h.1,h.2⟩
 · exact h.elim
theorem lS {op:CmpOp} {g:Int→Int→Bool} (o:OpR X (compareOp op) (rI0 fun i j=>.bl (g i j))):OpR X (compareOp op) (cCmp g):=by
 intro pins s σ H x y v u Q I rx ry h
 unfold cCmp at h
 split at h
 · exact o pins s σ H _ _ v u Q I rx ry ⟨_,_,rfl,rfl,h⟩
 · exact h.elim
theorem bG:OpR X (compareOp .Lt) (cCmp fun i j=>decide (i < j)):=lS yz
theorem dQ:OpR X (compareOp .LtE) (cCmp fun i j=>decide (i≤j)):=lS yA
theorem di:OpR X (compareOp .Gt) (cCmp fun i j=>decide (j < i)):=lS yB
theorem uI:OpR X (compareOp .GtE) (cCmp fun i j=>decide (j≤i)):=lS yC
theorem xM (hu:X.A.units+64 < cLine):OpR X (compareOp .Eq) (rEqD X.K):=by
 intro pins s σ H x y v u Q I rx ry h
 obtain ⟨d,e,h1,h2,h3,h4,q⟩:=h
 obtain ⟨as,r1⟩:=h1.reads I rx
 obtain ⟨bs,r2⟩:=h2.reads I ry
 exact eq_dataH r1 r2 h3 h4 hu ⟨.bl _,H,I,rfl,q⟩
theorem xN (hu:X.A.units+64 < cLine):OpR X (compareOp .NotEq) (rNeD X.K):=by
 intro pins s σ H x y v u Q I rx ry h
 obtain ⟨d,e,h1,h2,h3,h4,q⟩:=h
 obtain ⟨as,r1⟩:=h1.reads I rx
 obtain ⟨bs,r2⟩:=h2.reads I ry
 exact ne_dataH r1 r2 h3 h4 hu ⟨.bl _,H,I,rfl,q⟩
theorem aL (hu:X.A.units+64 < cLine):OpR X (compareOp .Eq) (cEq X.K):=by
 intro pins s σ H x y v u Q I rx ry h
 unfold cEq at h
 split at h
 · refine sQ pins s σ H _ _ v u Q I rx ry ⟨rfl,?_⟩
   simpa using h
 · refine sQ pins s σ H _ _ v u Q I rx ry ⟨rfl,?_⟩
   simpa using h
 · refine sQ pins s σ H _ _ v u Q I rx ry ⟨rfl,?_⟩
   simpa using h
 · exact xM hu pins s σ H _ _ v u Q I rx ry h
theorem bm (hu:X.A.units+64 < cLine):OpR X (compareOp .NotEq) (cNe X.K):=by
 intro pins s σ H x y v u Q I rx ry h
 unfold cNe at h
 split at h
 · refine sR pins s σ H _ _ v u Q I rx ry ⟨rfl,?_⟩
   simpa using h
 · refine sR pins s σ H _ _ v u Q I rx ry ⟨rfl,?_⟩
   simpa using h
 · refine sR pins s σ H _ _ v u Q I rx ry ⟨rfl,?_⟩
   simpa using h
 · exact xN hu pins s σ H _ _ v u Q I rx ry h
theorem xO (hu:X.A.units+64 < cLine):OpR X (compareOp .In) (rInD X.K false):=by
 intro pins s σ H x y v u Q I rx ry h
 obtain ⟨d,ds,h1,h2,h3,h4,h5,q⟩:=h
 obtain ⟨as,r1⟩:=h1.reads I rx
 rcases h2 with h2 | h2
 · obtain ⟨bs,r2⟩:=h2.reads I ry
   exact SeqAt.in_list_reads r2 r1 h3 h4 (by omega) ⟨.bl _,H,I,rfl,q⟩
 · obtain ⟨bs,r2⟩:=h2.reads I ry
   exact SeqAt.in_tuple_reads r2 r1 h3 h4 (by omega) ⟨.bl _,H,I,rfl,q⟩
theorem uJ (hu:X.A.units+64 < cLine):OpR X (compareOp .NotIn) (rInD X.K true):=by
 intro pins s σ H x y v u Q I rx ry h
 obtain ⟨d,ds,h1,h2,h3,h4,h5,q⟩:=h
 obtain ⟨as,r1⟩:=h1.reads I rx
 rcases h2 with h2 | h2
 · obtain ⟨bs,r2⟩:=h2.reads I ry
   exact SeqAt.notIn_list_reads r2 r1 h3 h4 (by omega) ⟨.bl _,H,I,rfl,q⟩
 · obtain ⟨bs,r2⟩:=h2.reads I ry
   exact SeqAt.notIn_tuple_reads r2 r1 h3 h4 (by omega) ⟨.bl _,H,I,rfl,q⟩
theorem j4 (hu:X.A.units+64 < cLine):OpR X (compareOp .In) (cIn X.K false):=by
 intro pins s σ H x y v u Q I rx ry h
 unfold cIn at h
 split at h
 · exact xO hu pins s σ H _ _ v u Q I rx ry h
 · rename_i p hx
   split at h
   · rename_i kvs e
     obtain ⟨k,ek,q⟩:=bi h
     cases (show u=Value.ref p from ry)
     have g:DGet H p x (valV kvs k):=by rw [mL ek]; exact DGet.k (nw e)
     exact yT (Nat.lt_of_le_of_lt (Nat.add_le_add_left (by decide:1≤64) _) hu) I g rx fun s' I'=>⟨.bl _,H,I',rfl,q⟩
   · obtain ⟨xs,e,f1,f2,q⟩:=bi h
     exact kZ pins s σ H _ _ v u Q I rx ry ⟨p,xs,rfl,lb e,f1,f2,q⟩
 · exact ur pins s σ H _ _ v u Q I rx ry ⟨_,_,rfl,rfl,h⟩
 · exact h.elim
theorem ft (hu:X.A.units+64 < cLine):OpR X (compareOp .NotIn) (cIn X.K true):=by
 intro pins s σ H x y v u Q I rx ry h
 unfold cIn at h
 split at h
 · exact uJ hu pins s σ H _ _ v u Q I rx ry h
 · rename_i p hx
   split at h
   · rename_i kvs e
     obtain ⟨k,ek,q⟩:=bi h
     cases (show u=Value.ref p from ry)
     have g:DGet H p x (valV kvs k):=by rw [mL ek]; exact DGet.k (nw e)
     exact wH (Nat.lt_of_le_of_lt (Nat.add_le_add_left (by decide:1≤64) _) hu) I g rx fun s' I'=>⟨.bl _,H,I',rfl,q⟩
   · obtain ⟨xs,e,f1,f2,q⟩:=bi h
     exact k7 pins s σ H _ _ v u Q I rx ry ⟨p,xs,rfl,lb e,f1,f2,q⟩
 · exact qh pins s σ H _ _ v u Q I rx ry ⟨_,_,rfl,rfl,h⟩
 · exact h.elim
end
end L2
namespace L2
open PySem PySem.Spec PyProof.Rows
section
variable {X:Cx} {a b c:Expr} {ta tb tc:TE} {pos:Pos}
theorem av (hu:X.A.units+64 < cLine):IxR X cIx:=by
 intro value slice pins s σ H x y v u Q I rx ry h hs
 cases x with
 | ref p=>
  unfold cIx at h
  dsimp only at h
  split at h
  · rename_i kvs e
    obtain ⟨k,ek,h⟩:=bi h
    obtain ⟨z,ez,q⟩:=bi h
    cases (show v=Value.ref p from rx)
    have g:DGet H p y (some z):=by rw [mL ek,← ez]; exact DGet.k (nw e)
    exact tail_any (rK I g) PySem.F.slot_dict_getitem.lookup (uC (Nat.lt_of_le_of_lt (Nat.add_le_add_left (by decide:1≤64) _) hu) I g ry fun w' s3 I3 rw'=>⟨z,H,I3,rw',q⟩) hs
  · split at h
    · obtain ⟨xs,e,h⟩:=bi h
      obtain ⟨z,ez,q⟩:=bi h
      rcases lb (K:=X.K) e with r | r
      · exact sx value slice pins s σ H _ _ v u Q I rx ry ⟨p,xs,_,z,rfl,rfl,r,ez,q⟩ hs
      · exact xF value slice pins s σ H _ _ v u Q I rx ry ⟨p,xs,_,z,rfl,rfl,r,ez,q⟩ hs
    · exact h.elim
 | str zz=>
  cases y with
  | int i=>
   obtain ⟨hz,h⟩:=(show zz.length≤sizeLine∧bnd (atI zz.cps.toList i) fun c=>Q (.str ⟨#[c]⟩) H from h)
   obtain ⟨z,ez,q⟩:=bi h
   exact xG value slice pins s σ H _ _ v u Q I rx ry ⟨_,_,z,rfl,rfl,hz,ez,q⟩ hs
  | _=>exact False.elim h
 | _=>exact False.elim h
def kLen:List V→Hp→VK→Prop
 | [.ref p],H,Q=>(match unD (H p) with
  | some kvs=>Q (.int kvs.length) H
  | none=>bnd (unS (H p)) fun xs=>Q (.int xs.length) H)
 | [.str z],H,Q=>z.length≤sizeLine∧Q (.int z.length) H
 | _,_,_=>False
theorem aN:CallR X (.builtin "len") kLen:=by
 intro pins s σ H xs us Q I r h
 unfold kLen at h
 split at h
 · split at h
   · rename_i kvs e
     exact uE pins s σ H _ us Q I r ⟨_,kvs,rfl,nw e,h⟩
   · obtain ⟨ys,e,q⟩:=bi h
     exact fG pins s σ H _ us Q I r ⟨_,ys,rfl,lb e,q⟩
 · exact qi pins s σ H _ us Q I r ⟨_,rfl,h.1,h.2⟩
 · exact h.elim
def kAbs:List V→Hp→VK→Prop
 | [.int i],H,Q=>Q (.int (if i < 0 then -i else i)) H
 | _,_,_=>False
def kMin:List V→Hp→VK→Prop
 | [.int i,.int j],H,Q=>Q (.int (if j < i then j else i)) H
 | _,_,_=>False
theorem uK (hc:X.calm=true):CallR X (.builtin "min") kMin:=by
 intro pins s σ H xs us Q I r h
 unfold kMin at h
 split at h
 · exact uu hc pins s σ H _ us Q I r ⟨_,_,rfl,h⟩
 · exact h.elim
def kMax:List V→Hp→VK→Prop
 | [.int i,.int j],H,Q=>Q (.int (if j > i then j else i)) H
 | _,_,_=>False
theorem uL (hc:X.calm=true):CallR X (.builtin "max") kMax:=by
 intro pins s σ H xs us Q I r h
 unfold kMax at h
 split at h
 · exact ut hc pins s σ H _ us Q I r ⟨_,_,rfl,h⟩
 · exact h.elim
def kList:List V→Hp→VK→Prop
 | [.ref p],H,Q=>bnd (unS (H p)) fun ys=>∀ l,H l=none→Q (.ref l) (upd H l (.lst ys))
 | _,_,_=>False
theorem ki:CallR X (.type "list") kList:=by
 intro pins s σ H xs us Q I r h
 unfold kList at h
 split at h
 · obtain ⟨ys,e,q⟩:=bi h
   exact qj pins s σ H _ us Q I r ⟨_,ys,rfl,lb e,q⟩
 · exact h.elim
def lT:List V→Hp→VK→Prop
 | [.ref p],H,Q=>bnd (unL (H p)) fun ys=>∃ ns:List Int,ys=ns.map V.int∧ns.length < 64∧∀ (ns':List Int) l,H l=none→ns'.Perm ns→ns'.Pairwise (· ≤·)→Q (.ref l) (upd H l (.lst (ns'.map V.int)))
 | _,_,_=>False
theorem qr:CallR X (.builtin "sorted") lT:=by
 intro pins s σ H xs us Q I r h
 unfold lT at h
 split at h
 · rename_i p
   obtain ⟨ys,e,ns,rfl,hlen,q⟩:=bi h
   obtain ⟨u,rfl,ru⟩:=fF r
   cases ru
   obtain ⟨its,rv,pl,hz⟩:=I.list (qo e)
   have hI:IntsAre its ns:=nr rv
   have hl:=rv.length
   rw [List.length_map] at hl
   refine sorted_ints pl.isList hI (by omega) fun out ns' hI' hp hs=>?_
   have old:∀ b o,s.heap.get? b=some o→(sortedAll s.heap its out).get? b=some o:=fun b o e=>sortedAll_old e
   obtain ⟨n,at_⟩:=sortedAll_at s.heap its out
   have hfresh:H (s.heap.objs.size+1)=none:=I.hok.fresh (Nat.le_succ _)
   have hlen':(ns'.map V.int).length≤sizeLine:=by
    rw [List.length_map,hp.length_eq]
    exact Nat.le_of_lt (Nat.lt_trans hlen (by decide))
   refine ⟨.ref (s.heap.objs.size+1),_,I.laid (t':=s.toks) (a:=s.heap.objs.size+1) (o:=.lst (ns'.map V.int)) old (Nat.le_succ _) ⟨hlen',out.toList,n,k8 hI',?_⟩,rfl,q ns' _ hfresh hp hs⟩
   rw [at_]
 · exact h.elim
def jj (H:Hp):V→Option String
 | .non=>some "NoneType"
 | .bl _=>some "bool"
 | .int _=>some "int"
 | .str _=>some "str"
 | .ref p=>match H p with
  | some (.lst _)=>some "list"
  | some (.frz _ (.lst _))=>some "list"
  | some (.tup _)=>some "tuple"
  | some (.dK _)=>some "dict"
  | _=>none
 | _=>none
def isTy (t n:String):Bool:=t==n||(t=="bool"&&n=="int")
def lU (n:String):Bool:=["int","bool","str","list","tuple","dict"].contains n
theorem uM {K:PySem.W.Frag} {H:Hp} {x:V} {t:String} (h:jj H x=some t):TyOf K H x (.type t)∧["NoneType","int","bool","str","list","tuple","dict"].contains t=true:=by
 cases x with
 | non=>cases h; exact ⟨.non,by decide⟩
 | bl b=>cases h; exact ⟨.bl b,by decide⟩
 | int i=>cases h; exact ⟨.int i,by decide⟩
 | str i=>cases h; exact ⟨.str i,by decide⟩
 | byt _=>cases h
 | flt _=>cases h
 | ty _=>cases h
 | ref p=>
  unfold jj at h
  dsimp only at h
  split at h
  · rename_i e; cases h; exact ⟨.lst e,by decide⟩
  · rename_i e; cases h; exact ⟨.frz e,by decide⟩
  · rename_i e; cases h; exact ⟨.tup e,by decide⟩
  · rename_i e; cases h; exact ⟨.dK e,by decide⟩
  · cases h
theorem xP (K:PySem.W.Frag):∀ t∈["NoneType","int","bool","str","list","tuple","dict"],∀ n∈["int","bool","str","list","tuple","dict"],PySem.W.kitOne K (.type t) (.type n)=some (isTy t n):=by
 intro t ht n hn
 simp only [List.mem_cons,List.not_mem_nil,or_false] at ht hn
 rcases ht with rfl | rfl | rfl | rfl | rfl | rfl | rfl <;> rcases hn with rfl | rfl | rfl | rfl | rfl | rfl <;> rfl
def kIsi:List V→Hp→VK→Prop
 | [x,.ty n],H,Q=>lU n=true∧bnd (jj H x) fun t=>Q (.bl (isTy t n)) H
 | _,_,_=>False
theorem dR:CallR X (.builtin "isinstance") kIsi:=by
 intro pins s σ H xs us Q I r h
 unfold kIsi at h
 split at h
 · obtain ⟨hn,h⟩:=h
   obtain ⟨t,et,q⟩:=bi h
   obtain ⟨u,w,rfl,ru,rw'⟩:=nq r
   cases rw'
   obtain ⟨ty,ht⟩:=uM (K:=X.K) et
   exact ux I ru ty (xP X.K t (by simpa using ht) _ (by simpa [lU] using hn)) fun tk=>⟨.bl _,H,I.tok tk,rfl,q⟩
 · exact h.elim
def bJ:V→List V→Hp→VK→Prop
 | .ref l,[y],H,Q=>bnd (unM (H l)) fun xs=>xs.length < sizeLine∧Q .non (upd H l (.lst (xs++[y])))
 | _,_,_,_=>False
theorem bW:MtR X "list.append" bJ:=by
 intro pins s σ H x vs v us Q I rx rv h
 unfold bJ at h
 split at h
 · obtain ⟨xs,e,h1,q⟩:=bi h
   exact pq pins s σ H _ _ v us Q I rx rv ⟨_,xs,_,rfl,rfl,la e,h1,q⟩
 · exact h.elim
theorem gC {K:PySem.W.Frag} {H:Hp} {p:Addr} {xs:List V} (h:H p=some (.lst xs)):tyV K "list" (.ref p) H:=.inl ⟨rfl,_,SqL.of h⟩
def cSl:V→Option Int→Option Int→Hp→VK→Prop
 | .ref p,lo,hi,H,Q=>bnd (unL (H p)) fun xs=>∀ l,H l=none→Q (.ref l) (upd H l (.lst (cutV xs lo hi)))
 | _,_,_,_,_=>False
theorem yU:SlR X cSl:=by
 intro pins s σ H x v vl vu lo hi sl Q I rx hs pl pu h
 unfold cSl at h
 split at h
 · obtain ⟨xs,e,q⟩:=bi h
   exact wE pins s σ H _ v vl vu lo hi sl Q I rx hs pl pu ⟨_,xs,rfl,qo e,q⟩
 · exact h.elim
end
structure Cal (P:Program) (w:World) (K:PySem.W.Frag) (mg:Str→Option Value) (base:Heap) (k:Nat) (x:Str) (ps:List Str) (sp:Sp):Prop where
 ex:∃ (f:Addr) (fd:FuncData),FnOk P w K mg base CX0 k f fd ps sp∧mg x=some (.ref f)∧PySem.W.keepIn K (.ref f)=true∧Binds K fd ps []
theorem ao {X:Cx} {k n:Nat} {x:Str} {ps:List Str} {sp:Sp} {p pos:Pos} {e:Expr} {es:List Expr} {t:TA} (C:Cal X.prog X.w X.K X.mg X.base k x ps sp) (hr:Room n X.A) (hk:k≤n) (hg:Gl X x) (ha:PA X (e::es) t)
  (hdb:(x==("__debug__":Str))=false:=by decide) (he:starEach (e::es) X.env=(false,eval e X.env)::starEach es X.env:=by rfl) (hpl:(backTo pos (starEach es X.env)).any (·.1)=false:=by rfl):
  PE X (.Call (.Name x p) (e::es) [] pos) (tCall sp [] E0 t):=by
 obtain ⟨f,fd,F,hm,hkp,hb⟩:=C.ex
 exact wB F (hr.mono hk) hg hm hkp hb .nil sY ha hdb he hpl
end L2
namespace L2
open PySem PySem.Spec PyProof.Rows
theorem aX:bootBuiltins "len"=some (.builtin "len"):=by decide+kernel
theorem xQ:bootBuiltins "min"=some (.builtin "min"):=by decide+kernel
theorem xR:bootBuiltins "max"=some (.builtin "max"):=by decide+kernel
theorem uN:bootBuiltins "sorted"=some (.builtin "sorted"):=by decide+kernel
theorem bS:bootBuiltins "isinstance"=some (.builtin "isinstance"):=by decide+kernel
theorem i9:bootBuiltins "list"=some (.type "list"):=by decide+kernel
theorem uO:bootBuiltins "int"=some (.type "int"):=by decide+kernel
theorem wI:bootBuiltins "bool"=some (.type "bool"):=by decide+kernel
theorem uP:bootBuiltins "str"=some (.type "str"):=by decide+kernel
theorem kj:bootBuiltins "tuple"=some (.type "tuple"):=by decide+kernel
def compN (scope:Scope):List Str:=(scope.names.filter fun p=>p.2==.local||p.2==.cell||p.2==.free).map (·.1)
def nA (N:List Str) (scope:Scope):List (Option Nat):=(compN scope).map fun x=>if scope.names.lookup x==some .free then N.findIdx? (· ==x) else none
def isCF:Option NameKind→Bool
 | some .cell=>true
 | some .free=>true
 | _=>false
theorem xS {X:Cx} {scope:Scope} (h1:scope.kind=.function) (h2:(scope.names.map (·.1)).Nodup) (h3:(scope.names.all fun p=>p.2 != .free||isCF (X.env.kindOf p.1))=true):BlkOk X (compN scope) (nA X.N scope) scope where
 kind:=h1
 nd:=h2.sublist (List.Sublist.map _ (List.filter_sublist ..))
 len:=by unfold nA; rw [List.length_map]
 names:=h2
 free:=fun x hx=>by
  have:=List.all_eq_true.mp h3 (x,.free) hx
  simp only [bne_self_eq_false,Bool.false_or] at this
  unfold isCF at this
  split at this
  · rename_i e; exact .inl e
  · rename_i e; exact .inr e
  · cases this
 at_:=fun j i x e1 e2=>by
  unfold nA at e2
  rw [List.getElem?_map,e1] at e2
  simp only [Option.map_some,Option.some.injEq] at e2
  split at e2
  · rename_i hf
    obtain ⟨hlt,hp,_⟩:=List.findIdx?_eq_some_iff_getElem.mp e2
    have hx:X.N[i]? =some x:=by
     rw [List.getElem?_eq_getElem hlt]
     have:X.N[i]=x:=by simpa using hp
     rw [this]
    refine ⟨hx,PySem.mem_of_lookup (by simpa using hf)⟩
  · cases e2
end L2
namespace L2
open PySem PySem.Spec PyProof.Rows
section
variable {t u:TS} {D:Ends} {σ:St} {H:Hp} {Q:VK} {ta tb:TE} {R:Bool→Hp→Prop} {c d:TT}
theorem aR:tSeq t u D σ H=t { D with nx:=u D } σ H:=rfl
theorem eF:tNext D σ H=D.nx σ H:=rfl
theorem eV {g:TG}:tAsg ta g D σ H=ta σ H fun x H1=>g x σ H1 D.nx:=rfl
theorem bK {i:Nat} {v:V} {k:St→Hp→Prop}:gName i v σ H k=k (σ.set i (some v)) H:=rfl
theorem hE {i:Nat}:tVar i σ H Q=∃ v,σ[i]? =some (some v)∧Q v H:=rfl
theorem w_c {v:V}:tC v σ H Q=Q v H:=rfl
theorem kl {r:R2}:tOp r ta tb σ H Q=ta σ H fun x H1=>tb σ H1 fun y H2=>r x y H2 Q:=rfl
theorem fH:tRet ta D σ H=ta σ H D.rt:=rfl
theorem fI:tRetN D σ H=D.rt .non H:=rfl
theorem eI:tDrop ta D σ H=ta σ H fun _ H1=>D.nx σ H1:=rfl
theorem aH:tIfS c t u D σ H=c σ H fun b H1=>if b=true then t D σ H1 else u D σ H1:=rfl
theorem fJ:tTest ta σ H R=ta σ H fun x H'=>∃ k,x=.bl k∧R k H':=rfl
theorem w_b:tB ta σ H R=ta σ H fun x H'=>∃ k,x=.bl k∧R k H':=rfl
theorem w_not:tNot c σ H R=c σ H fun k H1=>R (!k) H1:=rfl
theorem io:tAnd c d σ H R=c σ H fun k H1=>if k=true then d σ H1 R else R false H1:=rfl
theorem km:tOr c d σ H R=c σ H fun k H1=>if k=true then R true H1 else d σ H1 R:=rfl
theorem fK:tNotV ta σ H Q=ta σ H fun x H1=>∃ c,x=.bl c∧Q (.bl (!c)) H1:=rfl
theorem fM:tAndV ta tb σ H Q=ta σ H fun x H1=>∃ c,x=.bl c∧if c=true then tb σ H1 Q else Q (.bl false) H1:=rfl
theorem ip:tOrV ta tb σ H Q=ta σ H fun x H1=>∃ c,x=.bl c∧if c=true then Q (.bl true) H1 else tb σ H1 Q:=rfl
theorem hJ {k:List V→Hp→Prop}:tNil σ H k=k [] H:=rfl
theorem eJ {tr:TA} {k:List V→Hp→Prop}:tCons ta tr σ H k=ta σ H fun x H1=>tr σ H1 fun xs H2=>k (x::xs) H2:=rfl
theorem kn {r:List V→Hp→VK→Prop} {tr:TA}:tCB r tr σ H Q=tr σ H fun vs H1=>r vs H1 Q:=rfl
theorem fN {sp:Sp} {dvs:List V} {E:XK} {tr:TA}:tCall sp dvs E tr σ H Q=tr σ H fun vs H1=>sp (vs++dvs) H1 Q E:=rfl
theorem iq {tr:TA}:tTup tr σ H Q=tr σ H fun xs H1=>xs.length≤sizeLine∧∀ p,H1 p=none→Q (.ref p) (upd H1 p (.tup xs)):=rfl
theorem iu {tr:TA}:tLst tr σ H Q=tr σ H fun xs H1=>xs.length≤sizeLine∧∀ p,H1 p=none→Q (.ref p) (upd H1 p (.lst xs)):=rfl
theorem jN {K:PySem.W.Frag} {T:String} {r:V→List V→Hp→VK→Prop} {tr:TA}:tBM K T r ta tr σ H Q=ta σ H fun x H1=>tyV K T x H1∧tr σ H1 fun xs H2=>r x xs H2 Q:=rfl
theorem iw {K:PySem.W.Frag} {T:String} {r:V→List V→Hp→VK→Prop}:vP K T r ta σ H Q=ta σ H fun x H1=>tyV K T x H1∧r x [] H1 Q:=rfl
theorem fO:tTrue σ H R=R true H:=rfl
theorem fP:xL σ H Q=∀ p,H p=none→Q (.ref p) (upd H p (.dK [])):=rfl
theorem fQ {td ty tv:TE}:sDPut td ty tv D σ H=tv σ H fun v H1=>td σ H1 fun x H2=>ty σ H2 fun y H3=>∃ a H4,x=.ref a∧DPut H3 a y v H4∧D.nx σ H4:=rfl
theorem iy {i j:Int}:cAdd (.int i) (.int j) H Q=Q (.int (i+j)) H:=rfl
theorem iz {i j:Int}:cSub (.int i) (.int j) H Q=Q (.int (i - j)) H:=rfl
theorem iA {i j:Int}:cMul (.int i) (.int j) H Q=(CMul i j∧Q (.int (i*j)) H):=rfl
theorem iC {i j:Int}:cDiv (.int i) (.int j) H Q=(CDiv i j∧Q (.int (i / j)) H):=rfl
theorem iD {i j:Int}:cMod (.int i) (.int j) H Q=(0 < j∧Q (.int (i % j)) H):=rfl
theorem iE {g:Int→Int→Bool} {i j:Int}:cCmp g (.int i) (.int j) H Q=Q (.bl (g i j)) H:=rfl
theorem iF {K:PySem.W.Frag} {i j:Int}:cEq K (.int i) (.int j) H Q=Q (.bl (decide (i=j))) H:=rfl
theorem iG {K:PySem.W.Frag} {i j:Int}:cNe K (.int i) (.int j) H Q=Q (.bl (!decide (i=j))) H:=rfl
theorem iH {K:PySem.W.Frag} {i j:Bool}:cEq K (.bl i) (.bl j) H Q=Q (.bl (decide (i=j))) H:=rfl
theorem iI {K:PySem.W.Frag} {i j:Bool}:cNe K (.bl i) (.bl j) H Q=Q (.bl (!decide (i=j))) H:=rfl
theorem fg {p:Addr} {i:Int} {xs:List V} (h:H p=some (.tup xs)):cIx (.ref p) (.int i) H Q=bnd (atI xs i) fun v=>Q v H:=by
 unfold cIx; dsimp only; rw [h]; rfl
theorem wo {p:Addr} {i:Int} {xs:List V} (h:H p=some (.lst xs)):cIx (.ref p) (.int i) H Q=bnd (atI xs i) fun v=>Q v H:=by
 unfold cIx; dsimp only; rw [h]; rfl
theorem iJ {i:Int}:kAbs [.int i] H Q=Q (.int (if i < 0 then -i else i)) H:=rfl
theorem iK {i j:Int}:kMin [.int i,.int j] H Q=Q (.int (if j < i then j else i)) H:=rfl
theorem cg {p:Addr} {xs:List V} (h:H p=some (.lst xs)):kLen [.ref p] H Q=Q (.int xs.length) H:=by
 unfold kLen; dsimp only; rw [h]; rfl
theorem uQ {p:Addr} {xs:List V} (h:H p=some (.tup xs)):kLen [.ref p] H Q=Q (.int xs.length) H:=by
 unfold kLen; dsimp only; rw [h]; rfl
theorem gD {p:Addr} {xs:List V} {y:V} (h:H p=some (.lst xs)):bJ (.ref p) [y] H Q=(xs.length < sizeLine∧Q .non (upd H p (.lst (xs++[y])))):=by
 unfold bJ; dsimp only; rw [h]; rfl
theorem jD:∀ ns:List Int,(ns.map V.int).all flatV=true
 | []=>rfl
 | n::r=>by rw [List.map_cons,List.all_cons,jD r]; rfl
theorem ko (i:Int):∀ ns:List Int,inV (.int i) (ns.map V.int)=decide (i∈ns)
 | []=>by simp [inV]
 | n::r=>by
  have ih:=ko i r
  unfold inV at ih ⊢
  rw [List.map_cons,List.any_cons,ih]
  show ((n==i)||decide (i∈r))=decide (i∈n::r)
  rw [Bool.eq_iff_iff,Bool.or_eq_true,beq_iff_eq,decide_eq_true_eq,decide_eq_true_eq,List.mem_cons]
  exact ⟨fun h=>h.elim (fun e=>.inl e.symm) .inr,fun h=>h.elim (fun e=>.inl e.symm) .inr⟩
theorem vS {K:PySem.W.Frag} {p:Addr} {i:Int} {ns:List Int} (h:H p=some (.lst (ns.map V.int))):cIn K false (.int i) (.ref p) H Q=Q (.bl (decide (i∈ns))) H:=by
 unfold cIn; dsimp only; rw [h]; dsimp only [unD,unS,bnd]
 rw [ko,jD]
 simp [flatV]
theorem lV {K:PySem.W.Frag} {p:Addr} {i:Int} {ns:List Int} (h:H p=some (.lst (ns.map V.int))):cIn K true (.int i) (.ref p) H Q=Q (.bl (!decide (i∈ns))) H:=by
 unfold cIn; dsimp only; rw [h]; dsimp only [unD,unS,bnd]
 rw [ko,jD]
 simp [flatV]
end
def LoopR (J:It) (g:TG) (tb:TS) (D:Ends) (σ:St) (H1:Hp):Prop:=∃ W:Nat→Nat→St→Hp→Prop,(∃ m,W 0 m σ H1)∧∀ i m σ H,W i m σ H→
 (J.stop i H∧D.nx σ H)∨(J.go i H∧∃ N:St→Hp→Prop,(∀ σ' H',N σ' H'→∃ m',m' < m∧W (i+1) m' σ' H')∧∀ x H',J.yld i H x H'→g x σ H' fun σ2 H2=>tb { D with nx:=N,ct:=N,bk:=D.nx } σ2 H2)
def CompR (J:It) (g:TG) (tt:TT) (te:TE) (fin:Addr→Hp→Prop) (σ0:St) (H1:Hp):Prop:=∀ l,H1 l=none→
 ∃ W:Nat→Nat→St→Hp→Prop,(∃ m,W 0 m σ0 (upd H1 l (.lst [])))∧∀ i m σ' H',W i m σ' H'→
  (J.stop i H'∧fin l H')∨(J.go i H'∧∃ N:St→Hp→Prop,(∀ σ'' H'',N σ'' H''→∃ m',m' < m∧W (i+1) m' σ'' H'')∧∀ x H2,J.yld i H' x H2→g x σ' H2 fun σ2 H3=>tt σ2 H3 fun b H4=>
   if b=true then te σ2 H4 fun y H5=>∃ ys,H5 l=some (.lst ys)∧ys.length < sizeLine∧N σ2 (upd H5 l (.lst (ys++[y]))) else N σ2 H4)
section
variable {K:PySem.W.Frag} {g:TG} {tb:TS} {D:Ends} {σ:St} {H:Hp} {tl:TE} {ta:TA} {ix:List (Option Nat)} {tt:TT} {te:TE} {k:Nat} {Q:VK}
theorem fR:tFor (iList K tl) g tb D σ H=tl σ H fun x H1=>∃ a,x=.ref a∧(∃ xs,SqL K H1 a xs)∧LoopR (Itl K a) g tb D σ H1:=rfl
theorem d7:tFor (cD ta) g tb D σ H=ta σ H fun vs H1=>∃ j:Int,vs=[.int j]∧ -(2^62)≤j∧j < 2^62∧LoopR (Itr 0 j.toNat) g tb D σ H1:=rfl
theorem d8:tFor (np ta) g tb D σ H=ta σ H fun vs H1=>∃ i j:Int,vs=[.int i,.int j]∧(-(2^62)≤i∧i < 2^62∧ -(2^62)≤j∧j < 2^62)∧LoopR (Itr i (j - i).toNat) g tb D σ H1:=rfl
theorem cL:tComp ix (iList K tl) g tt te σ H Q=tl σ H fun x H1=>∃ a,x=.ref a∧(∃ xs,SqL K H1 a xs)∧CompR (Itl K a) g tt te (fun l H'=>Q (.ref l) H') (subσ ix σ) H1:=rfl
theorem cW:tComp ix (cD ta) g tt te σ H Q=ta σ H fun vs H1=>∃ j:Int,vs=[.int j]∧ -(2^62)≤j∧j < 2^62∧CompR (Itr 0 j.toNat) g tt te (fun l H'=>Q (.ref l) H') (subσ ix σ) H1:=rfl
theorem cX:sComp k ix (iList K tl) g tt te D σ H=tl σ H fun x H1=>∃ a,x=.ref a∧(∃ xs,SqL K H1 a xs)∧CompR (Itl K a) g tt te (fun l H'=>D.nx (σ.set k (some (.ref l))) H') (subσ ix σ) H1:=rfl
theorem cr:sComp k ix (cD ta) g tt te D σ H=ta σ H fun vs H1=>∃ j:Int,vs=[.int j]∧ -(2^62)≤j∧j < 2^62∧CompR (Itr 0 j.toNat) g tt te (fun l H'=>D.nx (σ.set k (some (.ref l))) H') (subσ ix σ) H1:=rfl
theorem nB {lo:Int} {n:Nat} {fin:Addr→Hp→Prop} {σ0:St} {H1:Hp} (Pv:Addr→Nat→St→Hp→Prop) (h0:∀ l,H1 l=none→Pv l 0 σ0 (upd H1 l (.lst [])))
  (hs:∀ l i σ H,H1 l=none→i < n→Pv l i σ H→g (.int (lo+i)) σ H fun σ2 H3=>tt σ2 H3 fun b H4=>if b=true then te σ2 H4 fun y H5=>∃ ys,H5 l=some (.lst ys)∧ys.length < sizeLine∧Pv l (i+1) σ2 (upd H5 l (.lst (ys++[y]))) else Pv l (i+1) σ2 H4)
  (hd:∀ l σ H,H1 l=none→Pv l n σ H→fin l H):CompR (Itr lo n) g tt te fin σ0 H1:=by
 intro l hl0
 refine ⟨fun i m σ H=>m=n - i∧i≤n∧Pv l i σ H,⟨n,by simp,Nat.zero_le _,h0 l hl0⟩,?_⟩
 rintro i m σ H ⟨rfl,hi,p⟩
 by_cases hlt:i < n
 · refine .inr ⟨hlt,Pv l (i+1),fun σ' H' p'=>⟨n - (i+1),by omega,rfl,hlt,p'⟩,fun x H' y=>?_⟩
   obtain ⟨e,y⟩:=y
   subst e y
   exact hs l i σ _ hl0 hlt p
 · have e:i=n:=by omega
   subst e
   exact .inl ⟨Nat.le_refl _,hd l σ H hl0 p⟩
theorem pw {a:Addr} {xs:List V} {fin:Addr→Hp→Prop} {σ0:St} {H1:Hp} (Pv:Addr→Nat→St→Hp→Prop) (h0:∀ l,H1 l=none→Pv l 0 σ0 (upd H1 l (.lst []))) (hq:∀ l i σ H,H1 l=none→i≤xs.length→Pv l i σ H→SqL K H a xs)
  (hs:∀ l i x σ H,H1 l=none→xs[i]? =some x→Pv l i σ H→g x σ H fun σ2 H3=>tt σ2 H3 fun b H4=>if b=true then te σ2 H4 fun y H5=>∃ ys,H5 l=some (.lst ys)∧ys.length < sizeLine∧Pv l (i+1) σ2 (upd H5 l (.lst (ys++[y]))) else Pv l (i+1) σ2 H4)
  (hd:∀ l σ H,H1 l=none→Pv l xs.length σ H→fin l H):CompR (Itl K a) g tt te fin σ0 H1:=by
 intro l hl0
 refine ⟨fun i m σ H=>m=xs.length - i∧i≤xs.length∧Pv l i σ H,⟨xs.length,by simp,Nat.zero_le _,h0 l hl0⟩,?_⟩
 rintro i m σ H ⟨rfl,hi,p⟩
 have q:=hq l i σ H hl0 hi p
 by_cases hlt:i < xs.length
 · refine .inr ⟨⟨xs,xs[i],q,by simp [hlt]⟩,Pv l (i+1),fun σ' H' p'=>⟨xs.length - (i+1),by omega,rfl,hlt,p'⟩,fun x H' y=>?_⟩
   obtain ⟨e,y⟩:=y
   subst e
   exact hs l i x σ _ hl0 (y xs q) p
 · have e:i=xs.length:=by omega
   subst e
   exact .inl ⟨⟨xs,q,Nat.le_refl _⟩,hd l σ H hl0 p⟩
theorem tm {p q:Addr} {xs ys:List Int} (hp:H p=some (.lst (xs.map V.int))) (hq:H q=some (.lst (ys.map V.int))) (h:Q (.bl (decide (xs=ys))) H):cEq K (.ref p) (.ref q) H Q:=by
 show rEqD K (.ref p) (.ref q) H Q
 refine ⟨.list (xs.map PyData.int),.list (ys.map PyData.int),.lst (SqL.of hp) (.ints xs),.lst (SqL.of hq) (.ints ys),g9 xs,g9 ys,?_⟩
 rw [PyData.eqv,qp]
 exact h
theorem wp {p q:Addr} {xs ys:List Int} (hp:H p=some (.lst (xs.map V.int))) (hq:H q=some (.lst (ys.map V.int))) (h:Q (.bl (!decide (xs=ys))) H):cNe K (.ref p) (.ref q) H Q:=by
 show rNeD K (.ref p) (.ref q) H Q
 refine ⟨.list (xs.map PyData.int),.list (ys.map PyData.int),.lst (SqL.of hp) (.ints xs),.lst (SqL.of hq) (.ints ys),g9 xs,g9 ys,?_⟩
 rw [PyData.eqv,qp]
 exact h
theorem uR {p:Addr} {xs:List V} (hp:H p=some (.lst xs)) (h:∀ l,H l=none→Q (.ref l) (upd H l (.lst xs))):kList [.ref p] H Q:=by
 unfold kList
 dsimp only
 rw [hp]
 exact h
end
theorem aZ {X:Cx} {N:List Str} {ix:List (Option Nat)} {scope:Scope} (h1:scope.kind=.function) (h2:(scope.names.map (·.1)).Nodup) (h3:(scope.names.all fun p=>p.2 != .free||isCF (X.env.kindOf p.1))=true) (h4:N=compN scope) (h5:ix=nA X.N scope):BlkOk X N ix scope:=by
 subst h4 h5
 exact xS h1 h2 h3
def kLenS (K:PySem.W.Frag):List V→Hp→VK→Prop:=fun xs H Q=>∃ p ys,xs=[.ref p]∧(SqL K H p ys∨SqT K H p ys)∧Q (.int ys.length) H
structure Bt (mg:Str→Option Value):Prop where
 len_:mg "len"=none
 abs_:mg "abs"=none
 min_:mg "min"=none
 max_:mg "max"=none
 sorted_:mg "sorted"=none
 any_:mg "any"=none
 isinstance_:mg "isinstance"=none
 list_:mg "list"=none
 int_:mg "int"=none
 bool_:mg "bool"=none
 str_:mg "str"=none
 tuple_:mg "tuple"=none
 reversed_:mg "reversed"=none
 set_:mg "set"=none
 range_:mg "range"=none
 zip_:mg "zip"=none
end L2
namespace L2
open PySem PySem.Spec PyProof.Rows
theorem Vals.get':∀ {xs:List V} {us:List Value} {i:Nat} {u:Value},Vals xs us→us[i]? =some u→∃ x,xs[i]? =some x∧RelV x u
 | _,_,_,_,.nil,h=>by simp at h
 | _,_,0,_,.cons r _,h=>by simp at h; subst h; exact ⟨_,rfl,r⟩
 | _,_,i+1,_,.cons _ t,h=>by
  obtain ⟨x,hx,r⟩:=Vals.get' (i:=i) t (by simpa using h)
  exact ⟨x,by simpa using hx,r⟩
section
variable {X:Cx} {pins:List (Addr × Obj)} {σ:St} {H:Hp} {s s':Shared}
theorem Inv.kept' (I:Inv X pins σ H s) (k:∀ b u,s.heap.get? b=some u→s'.heap.get? b=some u) (ho:s'.os=s.os) (hg:AllBare s'.gens):Inv X pins σ H s':=
 I.call' (ch:=[]) ho (Un.kept k) (I.hok.kept k) hg fun b z=>absurd z (by simp)
theorem Inv.walked {l:Addr} {o:Obj} (I:Inv X pins σ H s) (hm:Moved [s.heap.objs.size] (fun a b=>b=a) { s with heap:=s.heap.push o } s'):Inv X pins σ H s':=by
 refine I.kept' (fun b u e=>hm.heap b u (fun z=>?_) (Heap.get?_push_of_some _ e)) hm.os (by rw [show s'.gens=s.gens from hm.gens]; exact I.bare)
 have:b=s.heap.objs.size:=by simpa using z
 exact absurd (Heap.lt_size e) (by rw [this]; exact Nat.lt_irrefl _)
def Itz (K:PySem.W.Frag) (a b:Addr):It:=
 ⟨fun i H=>∃ xs ys x y,SqL K H a xs∧SqL K H b ys∧xs[i]? =some x∧ys[i]? =some y,
  fun i H v H'=>∃ T x y,v=.ref T∧H T=none∧H'=upd H T (.tup [x,y])∧(∀ xs,SqL K H a xs→xs[i]? =some x)∧∀ ys,SqL K H b ys→ys[i]? =some y,
  fun i H=>∃ xs ys,SqL K H a xs∧SqL K H b ys∧(xs.length≤i∨ys.length≤i)⟩
theorem aO {h:Heap} {a b:Addr} {o u:Obj} {c d:String} (ha:h.get? a=some o) (hb:h.get? b=some u) (hc:o.cls=.type c) (hd:u.cls=.type d) (ne:c≠d):a≠b:=by
 rintro rfl; rw [ha] at hb; cases hb; rw [hc] at hd; cases hd; exact ne rfl
def ZSt (a b z TI TO i1 i2:Addr) (i:Nat) (h:Heap):Prop:=IsZip h z TI TO .none∧IsPair h TI (.ref i1) (.ref i2)∧(∃ u v,IsPair h TO u v)∧h.IsListIter i1 a i∧h.IsListIter i2 b i
theorem vT {P:Program} {w:World} {K:PySem.W.Frag} {es:List Expr} {x1:Nat} {pos:Pos} (a b z TI TO i1 i2:Addr) (dT:TI≠TO) (d1:i1≠i2):
  Turn P w K (.Tuple es x1 pos) (Itz K a b) [z,TI,TO,i1,i2] z (ZSt a b z TI TO i1 i2) where
 mem:=by simp
 obj:=fun i h st c hc=>by
  obtain ⟨hz,hTI,⟨u,v,hTO⟩,⟨o1,e1,c1,f1⟩,⟨o2,e2,c2,f2⟩⟩:=st
  simp only [List.mem_cons,List.not_mem_nil,or_false] at hc
  rcases hc with rfl | rfl | rfl | rfl | rfl
  · exact ⟨_,hz,fun v z=>by have z':Data.fields _=Data.cell v:=z; cases z'⟩
  · exact ⟨_,hTI,fun v z=>by have z':Data.seq _ _=Data.cell v:=z; cases z'⟩
  · exact ⟨_,hTO,fun v z=>by have z':Data.seq _ _=Data.cell v:=z; cases z'⟩
  · exact ⟨_,e1,fun v z=>by rw [f1] at z; cases z⟩
  · exact ⟨_,e2,fun v z=>by rw [f2] at z; cases z⟩
 keep:=fun i h h' st k=>by
  obtain ⟨hz,hTI,⟨u,v,hTO⟩,h1,h2⟩:=st
  exact ⟨k z (by simp) _ hz,k TI (by simp) _ hTI,⟨u,v,k TO (by simp) _ hTO⟩,h1.at fun o e=>k i1 (by simp) o e,h2.at fun o e=>k i2 (by simp) o e⟩
 item:=by
  intro X hP hw hK hc i pins s σ H E I hf st hg
  subst hP hw hK
  obtain ⟨xs,ys,x,y,hq1,hq2,hx,hy⟩:=hg
  obtain ⟨its1,rv1,p1,hz1⟩:=I.list hq1
  obtain ⟨its2,rv2,p2,hz2⟩:=I.list hq2
  obtain ⟨u1,hu1,ru1⟩:=rv1.get hx
  obtain ⟨u2,hu2,ru2⟩:=rv2.get hy
  obtain ⟨hz,hTI,⟨u,v,hTO⟩,⟨o1,e1,c1,f1⟩,⟨o2,e2,c2,f2⟩⟩:=id st
  obtain ⟨oa,ea,ca,_⟩:=p1.isList
  obtain ⟨ob,eb,cb,_⟩:=p2.isList
  have D:ZipApart z TI TO i1 i2 a b:=⟨aO hTI hz rfl rfl (by decide),aO hTO hz rfl rfl (by decide),aO e1 hz c1 rfl (by decide),aO e2 hz c2 rfl (by decide),dT,aO hTI e1 rfl c1 (by decide),aO hTI e2 rfl c2 (by decide),aO hTO e1 rfl c1 (by decide),aO hTO e2 rfl c2 (by decide),d1,
   aO ea hz ca rfl (by decide),aO ea hTO ca rfl (by decide),aO ea e1 ca c1 (by decide),aO ea e2 ca c2 (by decide),aO eb hz cb rfl (by decide),aO eb hTO cb rfl (by decide),aO eb e1 cb c1 (by decide),aO eb e2 cb c2 (by decide)⟩
  refine wpAny_pyNext_zip_item D hz hTI hTO ⟨o1,e1,c1,f1⟩ ⟨o2,e2,c2,f2⟩ p1.isList p2.isList (x:=u1) (y:=u2) (by simpa using hu1) (by simpa using hu2) fun h' a1 a2 a3 a4 a5 a6 hk=>?_
  refine ⟨_,rfl,wpAny_letOwnedTupleGo_zip a1 fun h2 hz2 sb=>?_⟩
  have hT:H s.heap.objs.size=none:=I.fresh
  have lt:∀ {c o},s.heap.get? c=some o→c≠s.heap.objs.size:=fun e=>Nat.ne_of_lt (Heap.lt_size e)
  have kp:∀ c o,c∉[z,TO,i1,i2]→s.heap.get? c=some o→h2.get? c=some o:=fun c o hc e=>by
   simp only [List.mem_cons,List.not_mem_nil,or_false,not_or] at hc
   exact sb.extBut _ _ hc.1 (hk c o hc.1 hc.2.1 hc.2.2.1 hc.2.2.2 e)
  have hTz:s.heap.objs.size≠z:=(lt hz).symm
  have gT:h2.get? s.heap.objs.size=some { cls:=.type "tuple",data:=.seq #[u1,u2] }:=sb.extBut _ _ hTz a5
  have nH:∀ c∈[z,TO,i1,i2],H c=none:=fun c hc=>(hf c (by simp only [List.mem_cons,List.not_mem_nil,or_false] at hc ⊢; rcases hc with h | h | h | h <;> simp [h])).1
  refine ⟨.ref s.heap.objs.size,upd H s.heap.objs.size (.tup [x,y]),I.call' (s':={ s with heap:=h2 }) (ch:=[z,TO,i1,i2]) rfl ⟨fun c o e n _ hx=>kp c o hx e,fun c o e n _ hx=>⟨o.slots,kp c o hx e⟩,fun c o e n _=>by rw [aj (lt e)]; exact n,fun c o e hx=>⟨o,kp c o hx e⟩,fun c xs e=>by rw [aj (aA e hT)]; exact e,fun c o u e=>by rw [aj (aA e hT)]; exact e,fun c ps e=>⟨#[],by rw [aj (aA e hT),e]; simp⟩⟩ ?_ I.bare ?_,rfl,⟨_,x,y,rfl,hT,rfl,fun zs hz'=>by rw [I.list_inj hz' hq1]; exact hx,fun zs hz'=>by rw [I.list_inj hz' hq2]; exact hy⟩,?_,?_⟩
  · intro c ob e
    by_cases hb:c=s.heap.objs.size
    · subst hb
      rw [ag] at e
      cases e
      exact ⟨by show (2:Nat)≤sizeLine; exact Nat.le_of_lt (aG (by decide)),[u1,u2],.cons ru1 (.cons ru2 .nil),⟨_,gT,rfl,_,rfl⟩⟩
    · rw [aj hb] at e
      refine (I.hok c ob e).stay (fun d w' hd g=>kp d w' ?_ g) (fun d g=>by rw [aj (aA g hT)]; exact g) fun d xs g=>by rw [aj (aA g hT)]; exact g
      intro hm
      rcases hd with rfl | hd
      · rw [nH _ hm] at e; cases e
      · rw [nH _ hm] at hd; cases hd
  · intro c hc
    obtain ⟨f0,f1,f2,f3,f4,f5⟩:=hf c (by simp only [List.mem_cons,List.not_mem_nil,or_false] at hc ⊢; rcases hc with h | h | h | h <;> simp [h])
    exact ⟨f3,f1,f4,f5⟩
  · exact ⟨hz2,sb.extBut _ _ D.TIz (hk _ _ D.TIz D.TITO D.TIi1 D.TIi2 hTI),⟨_,_,sb.extBut _ _ D.TOz a2⟩,a3.extBut sb.extBut D.i1z,a4.extBut sb.extBut D.i2z⟩
  · intro c hc
    obtain ⟨o,e,_⟩:∃ o,s.heap.get? c=some o∧True:=by
     simp only [List.mem_cons,List.not_mem_nil,or_false] at hc
     rcases hc with rfl | rfl | rfl | rfl | rfl
     · exact ⟨_,hz,trivial⟩
     · exact ⟨_,hTI,trivial⟩
     · exact ⟨_,hTO,trivial⟩
     · exact ⟨_,e1,trivial⟩
     · exact ⟨_,e2,trivial⟩
    rw [aj (lt e)]
    exact (hf c hc).1
 done:=by
  intro X hP hw hK hc i pins s σ H E I hf st hg
  subst hP hw hK
  obtain ⟨xs,ys,hq1,hq2,hx⟩:=hg
  obtain ⟨its1,rv1,p1,hz1⟩:=I.list hq1
  obtain ⟨its2,rv2,p2,hz2⟩:=I.list hq2
  have hl1:=rv1.length
  have hl2:=rv2.length
  obtain ⟨hz,hTI,⟨u,v,hTO⟩,⟨o1,e1,c1,f1⟩,⟨o2,e2,c2,f2⟩⟩:=id st
  obtain ⟨oa,ea,ca,_⟩:=p1.isList
  obtain ⟨ob,eb,cb,_⟩:=p2.isList
  have D:ZipApart z TI TO i1 i2 a b:=⟨aO hTI hz rfl rfl (by decide),aO hTO hz rfl rfl (by decide),aO e1 hz c1 rfl (by decide),aO e2 hz c2 rfl (by decide),dT,aO hTI e1 rfl c1 (by decide),aO hTI e2 rfl c2 (by decide),aO hTO e1 rfl c1 (by decide),aO hTO e2 rfl c2 (by decide),d1,
   aO ea hz ca rfl (by decide),aO ea hTO ca rfl (by decide),aO ea e1 ca c1 (by decide),aO ea e2 ca c2 (by decide),aO eb hz cb rfl (by decide),aO eb hTO cb rfl (by decide),aO eb e1 cb c1 (by decide),aO eb e2 cb c2 (by decide)⟩
  have hend:its1.toArray[i]? =none∨its2.toArray[i]? =none:=by
   rcases hx with h | h
   · exact .inl (by simp; omega)
   · exact .inr (by simp; omega)
  refine wpAny_pyNext_zip_end (I.ok.hd hc) D hz hTI hTO ⟨o1,e1,c1,f1⟩ ⟨o2,e2,c2,f2⟩ p1.isList p2.isList hend fun h' hk=>⟨rfl,?_⟩
  have kp:∀ c o,c∉[z,TO,i1,i2]→s.heap.get? c=some o→h'.get? c=some o:=fun c o hc e=>by
   simp only [List.mem_cons,List.not_mem_nil,or_false,not_or] at hc
   exact hk c o hc.1 hc.2.1 hc.2.2.1 hc.2.2.2 e
  have nH:∀ c∈[z,TO,i1,i2],H c=none:=fun c hc=>(hf c (by simp only [List.mem_cons,List.not_mem_nil,or_false] at hc ⊢; rcases hc with h | h | h | h <;> simp [h])).1
  refine I.call' (s':={ s with heap:=h' }) (ch:=[z,TO,i1,i2]) rfl ⟨fun c o e n _ hx=>kp c o hx e,fun c o e n _ hx=>⟨o.slots,kp c o hx e⟩,fun c o e n _=>n,fun c o e hx=>⟨o,kp c o hx e⟩,fun c xs e=>e,fun c o u e=>e,fun c ps e=>⟨#[],by rw [e]; simp⟩⟩ ?_ I.bare ?_
  · intro c ob e
    refine (I.hok c ob e).stay (fun d w' hd g=>kp d w' ?_ g) (fun d g=>g) fun d xs g=>g
    intro hm
    rcases hd with rfl | hd
    · rw [nH _ hm] at e; cases e
    · rw [nH _ hm] at hd; cases hd
  · intro c hc
    obtain ⟨f0,f1,f2,f3,f4,f5⟩:=hf c (by simp only [List.mem_cons,List.not_mem_nil,or_false] at hc ⊢; rcases hc with h | h | h | h <;> simp [h])
    exact ⟨f3,f1,f4,f5⟩
 self:=fun _ _ _ _ _ st h=>wpAny_pyIter_zip st.1 h
def iZip (K:PySem.W.Frag) (ta:TA):TI:=fun σ H R=>ta σ H fun vs H1=>∃ a b,vs=[.ref a,.ref b]∧(∃ xs,SqL K H1 a xs)∧(∃ ys,SqL K H1 b ys)∧R (Itz K a b) H1
theorem xT:bootBuiltins "zip"=some (.type "zip"):=by decide+kernel
theorem xU {es:List Expr} {x1:Nat} {tpos:Pos} {e1 e2:Expr} {ta:TA} {p pos:Pos} (hg:Gl X "zip") (hm:X.mg "zip"=none) (ha:PA X [e1,e2] ta) (hs:starEach [e1,e2] X.env=[(false,eval e1 X.env),(false,eval e2 X.env)]:=by rfl) (hs2:starEach [e2] X.env=[(false,eval e2 X.env)]:=by rfl):
  PI X (.Tuple es x1 tpos) (.Call (.Name "zip" p) [e1,e2] [] pos) (iZip X.K ta):=by
 intro pins s σ H R I h
 refine Call_ (eE I hg hm xT (PyProof.Rows.callWith_type1 (thn (ha pos pins s σ H _ I h) fun us s1 ⟨vs,H1,I1,r1,q1⟩=>?_) (by rw [hs,hs2]) (by rw [hs2]; rfl)))
 obtain ⟨a,b,rfl,⟨xs,hq1⟩,⟨ys,hq2⟩,q⟩:=q1
 obtain ⟨u1,u2,rfl,ru1,ru2⟩:=nq r1
 cases ru1
 cases ru2
 obtain ⟨its1,rv1,p1,hz1⟩:=I1.list hq1
 obtain ⟨its2,rv2,p2,hz2⟩:=I1.list hq2
 refine call_zip_2 p1.isList p2.isList fun h' a1 a2 a3 a4 a5 a6 hk=>?_
 refine wpAny_pyIter_zip a1 ?_
 have I2:Inv X pins σ H1 { s1 with heap:=h',toks:=s1.toks }:=I1.kept hk
 refine ⟨s1.heap.objs.size+4,[s1.heap.objs.size+4,s1.heap.objs.size+2,s1.heap.objs.size+3,s1.heap.objs.size,s1.heap.objs.size+1],ZSt a b (s1.heap.objs.size+4) (s1.heap.objs.size+2) (s1.heap.objs.size+3) s1.heap.objs.size (s1.heap.objs.size+1),Itz X.K a b,H1,rfl,I2,vT a b (s1.heap.objs.size+4) (s1.heap.objs.size+2) (s1.heap.objs.size+3) s1.heap.objs.size (s1.heap.objs.size+1) (fun z=>by have:s1.heap.objs.size+2=s1.heap.objs.size+3:=z; omega) (fun z=>by have:s1.heap.objs.size=s1.heap.objs.size+1:=z; omega),⟨a1,a2,⟨_,_,a3⟩,a4,a5⟩,fun c hc=>?_,q⟩
 have hge:s1.heap.objs.size≤c:=by
  simp only [List.mem_cons,List.not_mem_nil,or_false] at hc
  rcases hc with rfl | rfl | rfl | rfl | rfl <;> omega
 exact I1.fpOk hge (I1.hok.fresh hge)
end
end L2
namespace L2
open PySem PySem.Spec PyProof.Rows
open Builtin Builtin.Str
theorem pA:∀ (l:List (Str × Tok)),Vals ((l.map (·.1)).map V.str) (strValues l)
 | []=>.nil
 | (t,u)::l=>.cons ⟨u,rfl⟩ (pA l)
section
variable {X:Cx}
def kFind:V→List V→Hp→VK→Prop
 | .str x,[.str y],H,Q=>Q (.int (Txt.find x y)) H
 | _,_,_,_=>False
def nD:V→List V→Hp→VK→Prop
 | .str x,[.str y],H,Q=>(y.length==0)=false∧x.length≤sizeLine∧(Txt.split x y).length≤sizeLine∧∀ l,H l=none→Q (.ref l) (upd H l (.lst ((Txt.split x y).map V.str)))
 | _,_,_,_=>False
theorem uS:MtR X "str.split" nD:=by
 intro pins s σ H x vs v us Q I rx rv h
 unfold nD at h
 split at h
 · rename_i x y
   obtain ⟨t,rfl⟩:=rx
   obtain ⟨u,rfl,ru⟩:=fF rv
   obtain ⟨t2,rfl⟩:=ru
   obtain ⟨hy,hx,hn,q⟩:=h
   have fin:∀ (l:List (Str × Tok)) (k:Nat),l.map (·.1)=Txt.split x y→EP X pins σ Q (.ref s.heap.objs.size) { s with heap:=s.heap.push { cls:=.type "list",data:=.seq (strValues l).toArray },toks:=k }:=fun l k e=>by
    refine ⟨.ref s.heap.objs.size,_,I.lnew (t':=k) (ys:=(Txt.split x y).map V.str) (its:=strValues l) ?_ (by rw [List.length_map]; exact hn),rfl,q _ I.fresh⟩
    rw [← e]
    exact pA l
   cases h1:(decide (x.length < y.length)||decide (strKind x < strKind y))
   · cases hf:(occurrences x y 0 x.length (x.length+1)).isEmpty
     · have e3:Txt.split x y=partsBetween x (occurrences x y 0 x.length (x.length+1)) y.length:=(if_neg (ne_true_of_eq_false h1)).trans (if_neg (ne_true_of_eq_false hf))
       refine call_meets F.slot_str_split (typeIs_str _ _ _) F.entry_str_split (F.args_str_split_2 _ _) (meets_str_split_sep x y t t2 h1 hy hf hx (by rw [← e3]; exact hn)) ?_
       show wants _ _ _ { s with toks:=_,heap:=s.heap.push { cls:=.type "list",data:=.seq (strsFrom s.toks (partsBetween x (occurrences x y 0 x.length (x.length+1)) y.length)).toArray } }
       rw [strsFrom_eq]
       exact fin (numbered s.toks _) _ ((numbered_texts _ _).trans e3.symm)
     · exact call_meets F.slot_str_split (typeIs_str _ _ _) F.entry_str_split (F.args_str_split_2 _ _) (meets_str_split_not_found x y t t2 h1 hy hf)
        (fin [(x,t)] s.toks ((if_neg (ne_true_of_eq_false h1)).trans (if_pos hf)).symm)
   · exact call_meets F.slot_str_split (typeIs_str _ _ _) F.entry_str_split (F.args_str_split_2 _ _) (meets_str_split_cannot_occur x y t t2 h1)
      (fin [(x,t)] s.toks (if_pos h1).symm)
 · exact h.elim
def mM:V→Option Int→Option Int→Hp→VK→Prop
 | .ref p,lo,hi,H,Q=>cSl (.ref p) lo hi H Q
 | .str z,lo,hi,H,Q=>z.length≤sizeLine∧Q (.str (Txt.slice z lo hi)) H
 | _,_,_,_,_=>False
theorem tp:SlR X mM:=by
 intro pins s σ H x v vl vu lo hi sl Q I rx hs pl pu h
 cases x with
 | ref p=>exact yU pins s σ H _ v vl vu lo hi sl Q I rx hs pl pu h
 | str z=>
  obtain ⟨hz,q⟩:=(show z.length≤sizeLine∧Q (.str (Txt.slice z lo hi)) H from h)
  obtain ⟨t,rfl⟩:=rx
  have fin:∀ t' k,EP X pins σ Q (.str (Txt.slice z lo hi) t') { s with toks:=k }:=fun t' k=>⟨.str _,H,I.tok k,⟨t',rfl⟩,q⟩
  refine ⟨"str",_,F.slot_str_getitem.lookup,typeIs_str _ _ _,?_⟩
  cases pl with
  | none=>
   cases pu with
   | none=>exact wpAny_getItem_str_slice (l:=none) (u:=none) (st:=none) hs rfl (post_val_or_str ⟨Nat.le_trans (Txt.slice_le z _ _) hz,fin⟩)
   | int j tj=>exact wpAny_getItem_str_slice (l:=none) (u:=some (j,tj)) (st:=none) hs rfl (post_val_or_str ⟨Nat.le_trans (Txt.slice_le z _ _) hz,fin⟩)
  | int i ti=>
   cases pu with
   | none=>exact wpAny_getItem_str_slice (l:=some (i,ti)) (u:=none) (st:=none) hs rfl (post_val_or_str ⟨Nat.le_trans (Txt.slice_le z _ _) hz,fin⟩)
   | int j tj=>exact wpAny_getItem_str_slice (l:=some (i,ti)) (u:=some (j,tj)) (st:=none) hs rfl (post_val_or_str ⟨Nat.le_trans (Txt.slice_le z _ _) hz,fin⟩)
 | _=>exact False.elim h
def Its (x:Str):It:=⟨fun i _=>i < x.cps.size,fun i H v H'=>H'=H∧∃ c,x.cps[i]? =some c∧v=.str ⟨#[c]⟩,fun i _=>x.cps.size≤i⟩
theorem qt {P:Program} {w:World} {K:PySem.W.Frag} {tg:Expr} {x:Str} {t:Tok} (it:Addr) (ty:String) (hty:["enumerate","zip","dict_itemiterator","dict_reverseitemiterator","odict_iterator","itertools.zip_longest","itertools.pairwise"].contains ty=false)
  (W:∀ A:Around,A.handled=none→Walks P w A it [it] [it] x.cps.size (SignAt x) (fun i h=>h.IsStrIter it ty x t i))
  (slf:∀ (A:Around) (i:Nat) (s:Shared) (Q:Value→Shared→Prop) (E:Value→Shared→Prop),s.heap.IsStrIter it ty x t i→Q (.ref it) s→wpAny (model P w) A (pyIter (.ref it)) Q E s):
  Turn P w K tg (Its x) [it] it (fun i h=>i≤x.cps.size∧h.IsStrIter it ty x t i) where
 mem:=by simp
 obj:=fun i h st b hb=>by
  have e:b=it:=by simpa using hb
  subst e
  obtain ⟨_,o,e,c,d⟩:=st
  exact ⟨o,e,fun v z=>by rw [d] at z; cases z⟩
 keep:=fun i h h' st k=>by
  obtain ⟨hi,o,e,c,d⟩:=st
  exact ⟨hi,o,k it (by simp) o e,c,d⟩
 item:=by
  intro X hP hw hK hc i pins s σ H E I hf st hg
  subst hP hw hK
  obtain ⟨f0,f1,f2,f3,f4,f5⟩:=hf it (by simp)
  have hlt:i < x.cps.size:=hg
  refine (W X.A (I.ok.hd hc)).item i s _ _ hlt st.2 fun v h' tk hv st' kk=>?_
  obtain ⟨c,u,hcu,rfl⟩:=hv
  have I1:Inv X pins σ H { s with heap:=h',toks:=tk }:=I.turned (fun b o hb e=>kk b o (by simpa using hb) e) f0 f1 f3 f4 f5
  obtain ⟨o,e,c',d⟩:=id st'
  exact ⟨_,rfl,sK (s:={ s with heap:=h',toks:=tk }) e c' d hty ⟨.str ⟨#[c]⟩,H,I1,⟨u,rfl⟩,⟨rfl,c,hcu,rfl⟩,⟨hlt,st'⟩,fun b hb=>(hf b hb).1⟩⟩
 done:=by
  intro X hP hw hK hc i pins s σ H E I hf st hg
  subst hP hw hK
  obtain ⟨f0,f1,f2,f3,f4,f5⟩:=hf it (by simp)
  have hle:x.cps.size≤i:=hg
  have e:i=x.cps.size:=Nat.le_antisymm st.1 hle
  subst e
  exact (W X.A (I.ok.hd hc)).done s _ _ st.2 fun h' tk kk=>⟨rfl,I.turned (fun b o hb e=>kk b o (by simpa using hb) e) f0 f1 f3 f4 f5⟩
 self:=fun A i s Q E st h=>slf A i s Q E st.2 h
def iStr (tl:TE):TI:=fun σ H R=>tl σ H fun x H1=>∃ z,x=.str z∧R (Its z) H1
theorem xV {tg l:Expr} {tl:TE} (hl:PE X l tl):PI X tg l (iStr tl):=by
 intro pins s σ H R I h
 refine thn (hl pins s σ H _ I h) fun v s1 ⟨x,H1,I1,r1,q1⟩=>?_
 obtain ⟨z,rfl,q⟩:=q1
 obtain ⟨t,rfl⟩:=r1
 have fin:∀ b∈[s1.heap.objs.size],FpOk X pins H1 b:=fun b hb=>by
  have e:b=s1.heap.objs.size:=by simpa using hb
  subst e
  exact I1.fpOk (Nat.le_refl _) (I1.hok.fresh (Nat.le_refl _))
 cases ha:z.cps.all (· < 128)
 · refine wpAny_pyIter_wide ha ⟨s1.heap.objs.size,[s1.heap.objs.size],_,Its z,H1,rfl,I1.kept (t':=s1.toks) fun b o e=>Heap.get?_push_of_some _ e,qt (t:=t) _ "str_iterator" (by decide) (fun A' hA=>Walks.strWide hA _ z t) (fun A i s Q E st hq=>wpAny_pyIter_striter_wide st hq),⟨Nat.zero_le _,_,Heap.get?_push_size _ rfl,rfl,rfl⟩,fin,q⟩
 · refine wpAny_pyIter_ascii ha ⟨s1.heap.objs.size,[s1.heap.objs.size],_,Its z,H1,rfl,I1.kept (t':=s1.toks) fun b o e=>Heap.get?_push_of_some _ e,qt (t:=t) _ "str_ascii_iterator" (by decide) (fun A' hA=>Walks.strAscii hA _ z t) (fun A i s Q E st hq=>wpAny_pyIter_striter_ascii st hq),⟨Nat.zero_le _,_,Heap.get?_push_size _ rfl,rfl,rfl⟩,fin,q⟩
theorem rL {prog:Program} {w:World} {A:Around} {E:Value→Shared→Prop} {s:Shared} {l:Addr} {items:Array Value} {k:Int} {t:Tok} {v:Value} {Q:Unit→Shared→Prop} (hl:s.heap.IsList l items)
  (h0:0≤k) (hfit:k < 2^63) (hn:k < items.size)
  (hQ:Q () { s with heap:=s.heap.update l (Obj.mapSeq (·.setIfInBounds k.toNat v)) }):
  wpAny (model prog w) A (setItem (.ref l) (.int k t) v) Q E s:=by
 obtain ⟨o,ho,hc,ne,hd⟩:=id hl
 unfold setItem
 try with_reducible refine wpAny_holding ?_
 first | refine wpAny_bind (wpAny_pure ?_) | skip
 refine wpAny_bind (wpAny_sequenceKey hl.typeIs (by decide) ?_)
 refine wpAny_bind (wpAny_callSpecial?_slot (name:=Str.ofString "__setitem__") hl.typeIs slot_list_setitem
  (wpAny_call_entry slot_list_setitem hl.typeIs entry_list_setitem ?_ (args_list_setitem _ _ _)))
 show wpAny _ _ (Builtin.List.listSubscript? (.int k t) >>= _) _ _ s
 refine wpAny_bind (wpAny_listSubscript_int (fitsIndex_of h0 hfit) ?_)
 clear hfit
 obtain ⟨j,rfl⟩:=Int.eq_ofNat_of_zero_le h0
 have hj:j < items.size:=by omega
 have hx':items[j]? =some items[j]:=Array.getElem?_eq_getElem hj
 show wpAny _ _ ((seqItemAt l j >>= fun r=>pure (r.map (j,·))) >>= _) _ _ s
 refine wpAny_bind (wpAny_bind (wpAny_seqItemAt ho hd (wpAny_pure ?_)))
 rw [hx']
 show wpAny _ _ (setSeqItemAt l j v >>= _) _ _ s
 refine wpAny_bind (wpAny_setSeqItemAt ho hd ?_)
 first
  | exact wpAny_bind (wpAny_pure (wpAny_pure ⟨.none,rfl,wpAny_pure hQ⟩))
  | exact wpAny_pure ⟨.none,rfl,wpAny_pure hQ⟩
theorem qu:∀ {xs:List V} {us:List Value} {x:V} {u:Value} (i:Nat),Vals xs us→RelV x u→Vals (xs.set i x) (us.set i u)
 | _,_,_,_,_,.nil,_=>.nil
 | _,_,_,_,0,.cons _ t,r=>.cons r t
 | _,_,_,_,i+1,.cons q t,r=>.cons q (qu i t r)
def cPut:TSet
 | .ref p,y,v,H,Q=>(match unD (H p) with
  | some _=>∃ H',DPut H p y v H'∧Q H'
  | none=>match y with
   | .int i=>bnd (unM (H p)) fun xs=>0≤i∧i < xs.length∧Q (upd H p (.lst (xs.set i.toNat v)))
   | _=>False)
 | _,_,_,_,_=>False
theorem lW (hu:X.A.units+64 < cLine):PSet X cPut:=by
 intro pins s σ H o i v ov iv u Q I ro ri rv h
 cases o with
 | ref p=>
  cases ro
  unfold cPut at h
  dsimp only at h
  split at h
  · obtain ⟨H',g,q⟩:=h
    exact uD (Nat.lt_of_le_of_lt (Nat.add_le_add_left (by decide:1≤64) _) hu) I g ri rv fun s' I'=>⟨H',I',q⟩
  · split at h
    · rename_i i
      obtain ⟨xs,e,h0,h1,q⟩:=bi h
      obtain ⟨t,rfl⟩:=ri
      have hH:=la e
      obtain ⟨z,its,n,r,hl,eo⟩:=I.lstM hH
      have hs:s.heap.IsList p its.toArray:=⟨_,eo,rfl,n,rfl⟩
      have hz:its.length≤sizeLine:=by rw [← hl]; exact z
      refine rL hs h0 ?_ (by rw [List.size_toArray,← hl]; exact h1) ⟨_,I.lset (t':=s.toks) (ys:=xs.set i.toNat v) (its':=its.set i.toNat u) hH eo (by simp) (qu _ r rv) (by rw [List.length_set]; exact z),q⟩
      have:(sizeLine:Int) < 2^63:=by decide
      omega
    · exact h.elim
 | _=>exact False.elim h
end
section
variable {K:PySem.W.Frag} {g:TG} {tb:TS} {D:Ends} {σ:St} {H:Hp} {tl:TE} {ix:List (Option Nat)} {tt:TT} {te ta:TE} {k:Nat} {Q:VK}
theorem kq {r:V→Option Int→Option Int→Hp→VK→Prop} {a b:TO}:tSl r te a b σ H Q=te σ H fun x H1=>a σ H1 fun l H2=>b σ H2 fun u H3=>r x l u H3 Q:=rfl
theorem fS {R:Option Int→Hp→Prop}:tPart te σ H R=te σ H fun x H1=>∃ i,x=.int i∧R (some i) H1:=rfl
theorem cY {R:Option Int→Hp→Prop}:i8 σ H R=R none H:=rfl
theorem fT {to ti:TE} {t:TSet} {v:V} {R:St→Hp→Prop}:gSub to ti t v σ H R=to σ H fun o H1=>ti σ H1 fun i H2=>t o i v H2 fun H3=>R σ H3:=rfl
theorem kr {r:V→Hp→VK→Prop}:tUn r te σ H Q=te σ H fun x H1=>r x H1 Q:=rfl
theorem fU:tFor (iStr tl) g tb D σ H=tl σ H fun x H1=>∃ z,x=.str z∧LoopR (Its z) g tb D σ H1:=rfl
theorem d9:tComp ix (iStr tl) g tt te σ H Q=tl σ H fun x H1=>∃ z,x=.str z∧CompR (Its z) g tt te (fun l H'=>Q (.ref l) H') (subσ ix σ) H1:=rfl
theorem cZ:sComp k ix (iStr tl) g tt te D σ H=tl σ H fun x H1=>∃ z,x=.str z∧CompR (Its z) g tt te (fun l H'=>D.nx (σ.set k (some (.ref l))) H') (subσ ix σ) H1:=rfl
theorem yH {x:Str}:tyV K "str" (.str x) H:=rfl
theorem iL {i j:Str}:cEq K (.str i) (.str j) H Q=Q (.bl (decide (i=j))) H:=rfl
theorem iO {i j:Str}:cNe K (.str i) (.str j) H Q=Q (.bl (!decide (i=j))) H:=rfl
theorem fV {z:Str}:kLen [.str z] H Q=(z.length≤sizeLine∧Q (.int z.length) H):=rfl
theorem fW {i j:Str}:cAdd (.str i) (.str j) H Q=(i.length+j.length≤sizeLine∧Q (.str (i++j)) H):=rfl
theorem yI {z:Str} {i:Int}:cIx (.str z) (.int i) H Q=(z.length≤sizeLine∧bnd (atI z.cps.toList i) fun c=>Q (.str ⟨#[c]⟩) H):=rfl
theorem fX {x y:Str}:kFind (.str x) [.str y] H Q=Q (.int (Txt.find x y)) H:=rfl
theorem wJ {x y:Str}:nD (.str x) [.str y] H Q=((y.length==0)=false∧x.length≤sizeLine∧(Txt.split x y).length≤sizeLine∧∀ l,H l=none→Q (.ref l) (upd H l (.lst ((Txt.split x y).map V.str)))):=rfl
theorem lX {p:Addr} {i:Int} {v:V} {xs:List V} {R:Hp→Prop} (hp:H p=some (.lst xs)) (h0:0≤i) (h1:i < xs.length) (h:R (upd H p (.lst (xs.set i.toNat v)))):cPut (.ref p) (.int i) v H R:=by
 unfold cPut
 dsimp only
 rw [hp]
 exact ⟨h0,h1,h⟩
theorem yJ {p:Addr} {lo hi:Option Int} {xs:List V} (hp:H p=some (.lst xs)) (h:∀ l,H l=none→Q (.ref l) (upd H l (.lst (cutV xs lo hi)))):mM (.ref p) lo hi H Q:=by
 show bnd (unL (H p)) _
 rw [hp]
 exact h
end
end L2
namespace L2
open PySem PySem.Spec PyProof.Rows
def cBitI (g:Int→Int→Int):R2
 | .int i,.int j,H,Q=>Q (.int (g i j)) H
 | _,_,_,_=>False
def cShl:R2
 | .int i,.int j,H,Q=>CPow i j∧Q (.int (i*2^j.toNat)) H
 | _,_,_,_=>False
def cShr:R2
 | .int i,.int j,H,Q=>0≤j∧Q (.int (i / 2^j.toNat)) H
 | _,_,_,_=>False
abbrev cAnd:R2:=cBitI Builtin.bitAnd
abbrev cOr:R2:=cBitI Builtin.bitOr
section
variable {X:Cx}
theorem qv {o:Operator} {g:Int→Int→Int} (h0:OpR X (binaryOp o) (rI0 fun i j=>.int (g i j))):OpR X (binaryOp o) (cBitI g):=by
 intro pins s σ H x y v u Q I rx ry h
 unfold cBitI at h
 split at h
 · exact h0 pins s σ H _ _ v u Q I rx ry ⟨_,_,rfl,rfl,h⟩
 · exact h.elim
theorem wK:OpR X (binaryOp .BitAnd) cAnd:=qv xD
theorem uT:OpR X (binaryOp .BitOr) cOr:=qv yy
theorem j5:OpR X (binaryOp .LShift) cShl:=by
 intro pins s σ H x y v u Q I rx ry h
 unfold cShl at h
 split at h
 · exact xB pins s σ H _ _ v u Q I rx ry ⟨_,_,rfl,rfl,h.1,h.2⟩
 · exact h.elim
theorem wL:OpR X (binaryOp .RShift) cShr:=by
 intro pins s σ H x y v u Q I rx ry h
 unfold cShr at h
 split at h
 · exact xC pins s σ H _ _ v u Q I rx ry ⟨_,_,rfl,rfl,h.1,h.2⟩
 · exact h.elim
end
section
variable {H:Hp} {Q:VK} {i j:Int}
theorem j6 {g:Int→Int→Int}:cBitI g (.int i) (.int j) H Q=Q (.int (g i j)) H:=rfl
theorem lY:cShr (.int i) (.int j) H Q=(0≤j∧Q (.int (i / 2^j.toNat)) H):=rfl
end
end L2
namespace L2
open PySem PySem.Spec PyProof.Rows
section
variable {X:Cx}
def kInt:List V→Hp→VK→Prop
 | [.int i],H,Q=>Q (.int i) H
 | [.bl k],H,Q=>Q (.int (if k then 1 else 0)) H
 | _,_,_=>False
def lZ:V→List V→Hp→VK→Prop
 | .int i,[],H,Q=>Q (.int (Builtin.Int.intBits i:Nat)) H
 | _,_,_,_=>False
theorem tq:MtR X "int.bit_length" lZ:=by
 intro pins s σ H x vs v us Q I rx rv h
 unfold lZ at h
 split at h
 · obtain ⟨t,rfl⟩:=rx
   cases rv
   exact call_int_bit_length ⟨.int _,H,I.tok _,⟨_,rfl⟩,h⟩
 · exact h.elim
def kAll:List V→Hp→VK→Prop
 | [.ref p],H,Q=>bnd (unL (H p)) fun ys=>∃ bs:List Bool,ys=bs.map V.bl∧Q (.bl (bs.all id)) H
 | _,_,_=>False
theorem uU (bs:List Bool):(List.range bs.length).all (fun i=>bs.getD i false)=bs.all id:=by
 rw [Bool.eq_iff_iff,List.all_eq_true,List.all_eq_true]
 constructor
 · intro h b hb
   obtain ⟨i,hi,e⟩:=List.mem_iff_getElem.mp hb
   have:=h i (List.mem_range.mpr hi)
   rw [List.getD,List.getElem?_eq_getElem hi,e] at this
   exact this
 · intro h i hi
   have hi':i < bs.length:=List.mem_range.mp hi
   have:=h bs[i] (List.getElem_mem hi')
   simpa [List.getD,hi'] using this
theorem nE:bootBuiltins "all"=some (.builtin "all"):=by decide+kernel
theorem jE (hc:X.calm=true):CallR X (.builtin "all") kAll:=by
 intro pins s σ H xs us Q I r h
 unfold kAll at h
 split at h
 · rename_i p
   obtain ⟨ys,e,bs,rfl,q⟩:=bi h
   obtain ⟨u,rfl,ru⟩:=fF r
   cases ru
   obtain ⟨its,rv,pl,hz⟩:=I.list (qo e)
   have hl:=rv.length
   rw [List.length_map] at hl
   have hlt:p < s.heap.objs.size:=by
    obtain ⟨o,h1,_⟩:=pl.isList
    exact Heap.lt_size h1
   refine call_all_walkS (wpAny_pyIter_list pl.isList ?_)
   refine ⟨s.heap.objs.size,_,_,_,its.toArray.size,_,_,fun i=>bs.getD i false,rfl,(Walks.list (A:=X.A.in1) (I.ok.hd hc) s.heap.objs.size p (Nat.ne_of_lt hlt) its.toArray).toS,⟨⟨_,Heap.get?_push_size _ rfl,rfl,rfl⟩,pl.isList.push _⟩,?_,fun s' hm=>?_⟩
   · intro i v s1 Q1 E1 hP hQ
     have hv:its[i]? =some v:=by simpa using hP
     obtain ⟨x,hx,rx⟩:=rv.get' hv
     obtain ⟨b,hb,rfl⟩:∃ b,bs[i]? =some b∧V.bl b=x:=by simpa using hx
     cases rx
     refine wpAny_truthy_bool ?_
     have e3:bs.getD i false=b:=by simp [List.getD,hb]
     rw [← e3]
     exact hQ
   · refine ⟨.bl _,H,I.walked (l:=p) hm,?_,q⟩
     have e2:its.toArray.size=bs.length:=by rw [List.size_toArray]; exact hl.symm
     rw [e2,uU]
     rfl
 · exact h.elim
def Itd (hi:Int) (n:Nat):It:=⟨fun i _=>i < n,fun i H x H'=>H'=H∧x=.int (hi - i),fun i _=>n≤i⟩
def iRngD (ta:TA):TI:=fun σ H R=>ta σ H fun vs H1=>∃ i j:Int,vs=[.int i,.int j,.int (-1)]∧(-(2^60)≤i∧i < 2^60∧ -(2^60)≤j∧j < 2^60)∧R (Itd i (i - j).toNat) H1
end
section
variable {K:PySem.W.Frag} {g:TG} {tb:TS} {D:Ends} {σ:St} {H:Hp} {ta:TA} {Q:VK}
theorem j7 {k:Bool}:kInt [.bl k] H Q=Q (.int (if k then 1 else 0)) H:=rfl
theorem j8 {i:Int}:kInt [.int i] H Q=Q (.int i) H:=rfl
theorem gE {i:Int}:lZ (.int i) [] H Q=Q (.int (Builtin.Int.intBits i:Nat)) H:=rfl
theorem qb {p:Addr} {bs:List Bool} (hp:H p=some (.lst (bs.map V.bl))) (h:Q (.bl (bs.all id)) H):kAll [.ref p] H Q:=by
 show bnd (unL (H p)) _
 rw [hp]
 exact a7 (a:=bs.map V.bl) rfl ⟨bs,rfl,h⟩
theorem ja:tFor (iRngD ta) g tb D σ H=ta σ H fun vs H1=>∃ i j:Int,vs=[.int i,.int j,.int (-1)]∧(-(2^60)≤i∧i < 2^60∧ -(2^60)≤j∧j < 2^60)∧LoopR (Itd i (i - j).toNat) g tb D σ H1:=rfl
end
end L2
namespace L2
open PySem PySem.Spec PyProof.Rows
section
variable {X:Cx}
def Ite (K:PySem.W.Frag) (a:Addr):It:=
 ⟨fun i H=>∃ xs x,SqL K H a xs∧xs[i]? =some x,
  fun i H v H'=>∃ T x,v=.ref T∧H T=none∧H'=upd H T (.tup [.int i,x])∧∀ xs,SqL K H a xs→xs[i]? =some x,
  fun i H=>∃ xs,SqL K H a xs∧xs.length≤i⟩
def iEnum (K:PySem.W.Frag) (ta:TA):TI:=fun σ H R=>ta σ H fun vs H1=>∃ a,vs=[.ref a]∧(∃ xs,SqL K H1 a xs)∧R (Ite K a) H1
end
section
variable {K:PySem.W.Frag} {g:TG} {tb:TS} {D:Ends} {σ:St} {H:Hp} {ta:TA} {Q:VK} {ix:List (Option Nat)} {tt:TT} {te:TE} {k:Nat}
theorem j9:tFor (iEnum K ta) g tb D σ H=ta σ H fun vs H1=>∃ a,vs=[.ref a]∧(∃ xs,SqL K H1 a xs)∧LoopR (Ite K a) g tb D σ H1:=rfl
theorem jb:tComp ix (iEnum K ta) g tt te σ H Q=ta σ H fun vs H1=>∃ a,vs=[.ref a]∧(∃ xs,SqL K H1 a xs)∧CompR (Ite K a) g tt te (fun l H'=>Q (.ref l) H') (subσ ix σ) H1:=rfl
theorem gF:sComp k ix (iEnum K ta) g tt te D σ H=ta σ H fun vs H1=>∃ a,vs=[.ref a]∧(∃ xs,SqL K H1 a xs)∧CompR (Ite K a) g tt te (fun l H'=>D.nx (σ.set k (some (.ref l))) H') (subσ ix σ) H1:=rfl
end
end L2
namespace L2
open PySem PySem.Spec PyProof.Rows
end L2
namespace L2
open PySem PySem.Spec PyProof.Rows
end L2
namespace L2
open PySem PySem.Spec PyProof.Rows
def rngL (i j:Int):List Int:=(List.range (j - i).toNat).map fun (k:Nat)=>i+(k:Int)
theorem kt (i j:Int):(rngL i j).length=(j - i).toNat:=by unfold rngL; simp
theorem mF:∀ {xs:List V} {us:List Value},xs.length=us.length→(∀ (i:Nat) x u,xs[i]? =some x→us[i]? =some u→RelV x u)→Vals xs us
 | [],[],_,_=>.nil
 | [],_::_,h,_=>by simp at h
 | _::_,[],h,_=>by simp at h
 | x::xs,u::us,h,f=>.cons (f 0 x u rfl rfl) (mF (by simpa using h) fun i y e h1 h2=>f (i+1) y e (by simpa using h1) (by simpa using h2))
theorem vU {i j:Int} {acc:Array Value} (h:ItemsOf (fun k v=>∃ t,v=.int (i+k*1) t) acc (j - i).toNat):Vals ((rngL i j).map V.int) acc.toList:=by
 refine mF (by rw [List.length_map,kt,Array.length_toList]; exact h.1.symm) fun k x u hx hu=>?_
 obtain ⟨t,rfl⟩:=h.2 k u (by simpa using hu)
 unfold rngL at hx
 rw [List.map_map,List.getElem?_map] at hx
 by_cases hk:k < (j - i).toNat
 · rw [List.getElem?_range hk] at hx
   cases hx
   exact ⟨t,by rw [Int.mul_one]⟩
 · rw [List.getElem?_eq_none (by simpa using hk)] at hx
   cases hx
section
variable {X:Cx}
def lc (ta:TA):TE:=fun σ H Q=>ta σ H fun vs H1=>∃ j:Int,vs=[.int j]∧ -(2^60)≤j∧j≤1000∧∀ l,H1 l=none→Q (.ref l) (upd H1 l (.lst ((rngL 0 j).map V.int)))
def uV (ta:TA):TE:=fun σ H Q=>ta σ H fun vs H1=>∃ i j:Int,vs=[.int i,.int j]∧(0≤i∧i≤1000∧ -(2^60)≤j∧j≤1000)∧∀ l,H1 l=none→Q (.ref l) (upd H1 l (.lst ((rngL i j).map V.int)))
theorem vV {pins:List (Addr × Obj)} {σ:St} {H1:Hp} {s1:Shared} {Q:VK} {i j:Int} {t u v:Tok} {tk:Nat} {A:Around} {E:Value→Shared→Prop} (hh:A.handled=none) (I1:Inv X pins σ H1 s1) (h1:0≤i) (h2:i≤1000) (h3: -(2^60)≤j) (h4:j≤1000)
  (q:∀ l,H1 l=none→Q (.ref l) (upd H1 l (.lst ((rngL i j).map V.int)))):
  wpAny (model X.prog X.w) A (call (.type "list") [.ref s1.heap.objs.size]) (EP X pins σ Q) E { s1 with heap:=s1.heap.push { cls:=.type "range",data:=.fields #[.int i t,.int j u,.int 1 v] },toks:=tk }:=by
 have I2:Inv X pins σ H1 { s1 with heap:=s1.heap.push { cls:=.type "range",data:=.fields #[.int i t,.int j u,.int 1 v] },toks:=tk }:=I1.kept fun b o e=>Heap.get?_push_of_some _ e
 refine call_list_range (n:=(j - i).toNat) hh (IsRange.new ..) (small_one (by omega) (by omega) (by omega) (by omega)) (by rw [rangeSize_one]; split <;> omega) (by omega) fun h' tk' acc' c' old hS' hacc=>?_
 have hlen:((rngL i j).map V.int).length≤sizeLine:=by rw [List.length_map,kt]; exact Nat.le_of_lt (aG (by omega))
 exact ⟨.ref _,_,I2.laid (t':=tk') (o:=.lst ((rngL i j).map V.int)) old (Nat.le_refl _) ⟨hlen,acc'.toList,c',vU hacc,hS'⟩,rfl,q _ (I2.hok.fresh (Nat.le_refl _))⟩
theorem rM {a:Expr} {ta:TA} {p p2 pos pos2:Pos} (hc:X.calm=true) (hgl:Gl X "list") (hgr:Gl X "range") (hl:X.mg "list"=none) (hr:X.mg "range"=none) (ha:PA X [a] ta)
  (hs1:starEach [.Call (.Name "range" p2) [a] [] pos2] X.env=[(false,eval (.Call (.Name "range" p2) [a] [] pos2) X.env)]:=by rfl) (hs:starEach [a] X.env=[(false,eval a X.env)]:=by rfl):
  PE X (.Call (.Name "list" p) [.Call (.Name "range" p2) [a] [] pos2] [] pos) (lc ta):=by
 intro pins s σ H Q I h
 refine wpAny_Call_Name_kw (eE I hgl hl i9 ?_ (by decide) (by decide))
 refine PyProof.Rows.callWith_type1 ?_ hs1 rfl
 rw [hs1]
 show wpAny _ _ (spliced [(false,eval (.Call (.Name "range" p2) [a] [] pos2) X.env)]) _ _ s
 refine Calls.spliced_cons ?_
 refine Call_ (eE I hgr hr boot_range (PyProof.Rows.callWith_type1 (thn (ha pos2 pins s σ H _ I h) fun us s1 ⟨vs,H1,I1,r1,q1⟩=>?_) hs rfl))
 obtain ⟨j,e,q1,q2,q⟩:=q1
 subst e
 cases r1 with
 | cons r rr=>
  cases rr
  obtain ⟨t,rfl⟩:=r
  refine call_range_1 ?_
  refine Calls.spliced_nil ?_
  exact vV (I.ok.hd hc) I1 (by omega) (by omega) q1 q2 q
end
section
variable {σ:St} {H:Hp} {Q:VK} {ta:TA}
theorem jc:lc ta σ H Q=ta σ H fun vs H1=>∃ j:Int,vs=[.int j]∧ -(2^60)≤j∧j≤1000∧∀ l,H1 l=none→Q (.ref l) (upd H1 l (.lst ((rngL 0 j).map V.int))):=rfl
theorem jd:uV ta σ H Q=ta σ H fun vs H1=>∃ i j:Int,vs=[.int i,.int j]∧(0≤i∧i≤1000∧ -(2^60)≤j∧j≤1000)∧∀ l,H1 l=none→Q (.ref l) (upd H1 l (.lst ((rngL i j).map V.int))):=rfl
end
end L2
namespace L2
def besL (h w c:Int):List Int:=(if 0 < c / w then [c - w] else [])++(if 0 < c % w then [c - 1] else [])++(if c % w < w - 1 then [c+1] else [])++(if c / w < h - 1 then [c+w] else [])
inductive RC (h w:Int) (cs:List Int) (st:Int):Int→Prop
 | start:st∈cs→RC h w cs st st
 | step {x y:Int}:RC h w cs st x→y∈besL h w x→y∈cs→RC h w cs st y
theorem RC.mem {h w:Int} {cs:List Int} {st x:Int} (r:RC h w cs st x):x∈cs:=by cases r <;> assumption
theorem RC.st {h w:Int} {cs:List Int} {st x:Int} (r:RC h w cs st x):st∈cs:=by
 induction r with
 | start h=>exact h
 | step _ _ _ ih=>exact ih
theorem ku:∀ {xs ys:List Int},xs.Nodup→(∀ x∈xs,x∈ys)→xs.length≤ys.length
 | [],_,_,_=>Nat.zero_le _
 | x::xs,ys,nd,h=>by
  have hx:=h x List.mem_cons_self
  have nd':=List.nodup_cons.mp nd
  have ih:=ku (xs:=xs) (ys:=ys.erase x) nd'.2 fun y hy=>by
   have ne:y≠x:=fun e=>nd'.1 (e ▸ hy)
   exact (List.mem_erase_of_ne ne).mpr (h y (List.mem_cons_of_mem _ hy))
  rw [List.length_erase_of_mem hx] at ih
  have:0 < ys.length:=List.length_pos_of_mem hx
  simp only [List.length_cons]
  omega
structure BI (h w:Int) (cs:List Int) (st:Int) (fs:List Int) (pl:Nat):Prop where
 nd:fs.Nodup
 rc:∀ x∈fs,RC h w cs st x
 hst:st∈fs
 le:pl≤fs.length
 cl:∀ (i:Nat) (x y:Int),i < pl→fs[i]? =some x→y∈besL h w x→y∈cs→y∈fs
theorem BI.len {h w:Int} {cs:List Int} {st:Int} {fs:List Int} {pl:Nat} (b:BI h w cs st fs pl):fs.length≤cs.length:=ku b.nd fun x hx=>(b.rc x hx).mem
theorem BI.start {h w:Int} {cs:List Int} {st:Int} (hs:st∈cs):BI h w cs st [st] 0:=
 ⟨by simp,fun x hx=>by rw [List.mem_singleton.mp hx]; exact .start hs,by simp,Nat.zero_le _,fun i x y hi=>absurd hi (Nat.not_lt_zero _)⟩
theorem BI.done {h w:Int} {cs:List Int} {st:Int} {fs:List Int} {pl:Nat} (b:BI h w cs st fs pl) (e:¬ pl < fs.length) (x:Int):x∈fs↔RC h w cs st x:=by
 refine ⟨b.rc x,fun r=>?_⟩
 induction r with
 | start _=>exact b.hst
 | step r hy hc ih=>
  obtain ⟨i,hi⟩:=List.getElem?_of_mem ih
  have hlt:i < fs.length:=(List.getElem?_eq_some_iff.mp hi).1
  exact b.cl i _ _ (by omega) hi hy hc
def addC (cs fs:List Int) (y:Int):List Int:=if y∈cs∧¬ y∈fs then fs++[y] else fs
structure BJ (h w:Int) (cs:List Int) (st:Int) (f0:List Int) (pl:Nat) (bs:List Int) (fs:List Int):Prop where
 nd:fs.Nodup
 rc:∀ x∈fs,RC h w cs st x
 pre:f0 <+:fs
 al:∀ y∈bs,y∈cs→y∈fs
theorem BJ.zero {h w:Int} {cs:List Int} {st:Int} {fs:List Int} {pl:Nat} (b:BI h w cs st fs pl):BJ h w cs st fs pl [] fs:=⟨b.nd,b.rc,List.prefix_refl _,fun y hy=>nomatch hy⟩
theorem BJ.more {h w:Int} {cs:List Int} {st:Int} {f0 fs bs:List Int} {pl:Nat} {x y:Int} (j:BJ h w cs st f0 pl bs fs) (hx:RC h w cs st x) (hy:y∈besL h w x):BJ h w cs st f0 pl (bs++[y]) (addC cs fs y):=by
 unfold addC
 split
 · rename_i hc
   refine ⟨?_,fun z hz=>?_,j.pre.trans (List.prefix_append _ _),fun z hz hzc=>?_⟩
   · refine List.nodup_append.mpr ⟨j.nd,by simp,fun a ha b hb=>?_⟩
     rw [List.mem_singleton.mp hb]
     intro e
     exact hc.2 (e ▸ ha)
   · rcases List.mem_append.mp hz with hz | hz
     · exact j.rc z hz
     · rw [List.mem_singleton.mp hz]
       exact .step hx hy hc.1
   · rcases List.mem_append.mp hz with hz | hz
     · exact List.mem_append_left _ (j.al z hz hzc)
     · rw [List.mem_singleton.mp hz]
       simp
 · rename_i hc
   refine ⟨j.nd,j.rc,j.pre,fun z hz hzc=>?_⟩
   rcases List.mem_append.mp hz with hz | hz
   · exact j.al z hz hzc
   · rw [List.mem_singleton.mp hz] at hzc ⊢
     exact Decidable.byContradiction fun n=>hc ⟨hzc,n⟩
theorem BJ.done {h w:Int} {cs:List Int} {st:Int} {f0 fs:List Int} {pl:Nat} {x:Int} (b:BI h w cs st f0 pl) (hx:f0[pl]? =some x) (j:BJ h w cs st f0 pl (besL h w x) fs):BI h w cs st fs (pl+1):=by
 have hlt:pl < f0.length:=(List.getElem?_eq_some_iff.mp hx).1
 have hle:=j.pre.length_le
 have get:∀ i,i < f0.length→fs[i]? =f0[i]? :=fun i hi=>by
  obtain ⟨t,e⟩:=j.pre
  rw [← e,List.getElem?_append_left hi]
 refine ⟨j.nd,j.rc,j.pre.subset b.hst,by omega,fun i z y hi hz hy hc=>?_⟩
 rw [get i (by omega)] at hz
 by_cases e:i < pl
 · exact j.pre.subset (b.cl i z y e hz hy hc)
 · have:i=pl:=by omega
   subst this
   rw [hx] at hz
   cases hz
   exact j.al y hy hc
theorem uW {rs fs:List Int} (p:rs.Perm fs) (s:rs.Pairwise (· ≤·)) (nd:fs.Nodup):rs.Pairwise (· < ·):=by
 have nd':rs.Nodup:=p.nodup_iff.mpr nd
 refine (s.and nd').imp ?_
 intro a b h
 have:=h.1
 have:=h.2
 omega
theorem RC.trans {h w:Int} {cs:List Int} {a b c:Int} (r:RC h w cs a b) (q:RC h w cs b c):RC h w cs a c:=by
 induction q with
 | start _=>exact r
 | step _ hy hc ih=>exact .step ih hy hc
theorem wM {h w x y:Int}:y∈besL h w x↔(0 < x / w∧y=x - w)∨(0 < x % w∧y=x - 1)∨(x % w < w - 1∧y=x+1)∨(x / w < h - 1∧y=x+w):=by
 unfold besL
 simp only [List.mem_append]
 constructor
 · rintro (((q | q) | q) | q)
   · split at q
     · simp at q; exact .inl ⟨by assumption,q⟩
     · cases q
   · split at q
     · simp at q; exact .inr (.inl ⟨by assumption,q⟩)
     · cases q
   · split at q
     · simp at q; exact .inr (.inr (.inl ⟨by assumption,q⟩))
     · cases q
   · split at q
     · simp at q; exact .inr (.inr (.inr ⟨by assumption,q⟩))
     · cases q
 · rintro (⟨q,rfl⟩ | ⟨q,rfl⟩ | ⟨q,rfl⟩ | ⟨q,rfl⟩)
   · rw [if_pos q]; simp
   · rw [if_pos q]; simp
   · rw [if_pos q]; simp
   · rw [if_pos q]; simp
theorem qw {h w x y:Int} (w0:0 < w) (x0:0≤x) (x1:x < h*w) (m:y∈besL h w x):x∈besL h w y:=by
 have m0:=Int.emod_nonneg x (Int.ne_of_gt w0)
 have m1:=Int.emod_lt_of_pos x w0
 have e:=Int.mul_ediv_add_emod x w
 have q0:0≤x / w:=Int.ediv_nonneg x0 (Int.le_of_lt w0)
 have q1:x / w < h:=by
  refine Int.ediv_lt_of_lt_mul w0 ?_
  exact x1
 rw [wM] at m ⊢
 generalize x / w=q at*
 generalize x % w=r at*
 rcases m with ⟨c,rfl⟩ | ⟨c,rfl⟩ | ⟨c,rfl⟩ | ⟨c,rfl⟩
 · have u:=(Int.ediv_emod_unique (a:=x - w) (q:=q - 1) (r:=r) w0).mpr ⟨by rw [Int.mul_sub]; omega,m0,m1⟩
   exact .inr (.inr (.inr ⟨by rw [u.1]; omega,by omega⟩))
 · have u:=(Int.ediv_emod_unique (a:=x - 1) (q:=q) (r:=r - 1) w0).mpr ⟨by omega,by omega,by omega⟩
   exact .inr (.inr (.inl ⟨by rw [u.2]; omega,by omega⟩))
 · have u:=(Int.ediv_emod_unique (a:=x+1) (q:=q) (r:=r+1) w0).mpr ⟨by omega,by omega,by omega⟩
   exact .inr (.inl ⟨by rw [u.2]; omega,by omega⟩)
 · have u:=(Int.ediv_emod_unique (a:=x+w) (q:=q+1) (r:=r) w0).mpr ⟨by rw [Int.mul_add]; omega,m0,m1⟩
   exact .inl ⟨by rw [u.1]; omega,by omega⟩
theorem RC.symm {h w:Int} {cs:List Int} {a b:Int} (w0:0 < w) (hcs:∀ x∈cs,0≤x∧x < h*w) (r:RC h w cs a b):RC h w cs b a:=by
 induction r with
 | start m=>exact .start m
 | step r hy hc ih=>
  have hx:=r.mem
  exact RC.trans (.step (.start hc) (qw w0 (hcs _ hx).1 (hcs _ hx).2 hy) hx) ih
end L2
namespace L2
open PySem PySem.Spec PyProof.Rows
local macro_rules | `(tactic| walk_at "w")=>`(tactic| (first | simp only [aR,eF,eV,bK,hE,w_c,kl,fH,fI,eI,fJ,w_b,w_not,io,km,fK,fM,ip,hJ,eJ,kn,fN,iq,iu,jN,iw,fO,fP,fQ,fR,d7,d8,cL,cW,cX,cr,iy,iz,iA,iC,iD,iE,iF,iG,iH,iI,iJ,iK,kq,fS,cY,fT,kr,fU,d9,cZ,iL,iO,fV,fW,fX,
 List.getElem?_cons_zero,List.getElem?_cons_succ,Option.some.injEq,exists_eq_left',exists_eq_left,List.set_cons_zero,List.set_cons_succ,cA,V.int.injEq,V.bl.injEq,V.ref.injEq,V.str.injEq,List.append_nil,List.nil_append,List.cons_append] | dsimp only | skip))
theorem aF {n:Nat} (h:n≤1000):n≤sizeLine:=Nat.le_of_lt (aG h)
def IsFl (H:Hp) (a:Addr) (h w g:Int):Prop:=H a=some (.tup [.int h,.int w,.int g])
theorem Same.laid {H H':Hp} {p:Addr} {o:HO} (s:Same H H') (h:H' p=none):Same H (upd H' p o):=fun b u e=>by
 rw [aj (aA (s b u e) h)]
 exact s b u e
theorem Same.own {H H':Hp} {p:Addr} {o:HO} (s:Same H H') (h:H p=none):Same H (upd H' p o):=fun b u e=>by
 rw [aj (aA e h)]
 exact s b u e
theorem l3 {l:List Int} {i:Nat} {x:Int} (h:l[i]? =some x):l.getD i 0=x:=by
 rw [List.getD,h]; rfl
theorem mN {ns:List Int} {k:Int} (h0:0≤k) (h1:k < ns.length):atI (ns.map V.int) k=some (.int (ns.getD k.toNat 0)):=by
 have e:((k.toNat:Nat):Int)=k:=Int.toNat_of_nonneg h0
 have hlt:k.toNat < ns.length:=by omega
 have:(ns.map V.int)[k.toNat]? =some (.int (ns.getD k.toNat 0)):=by
  rw [List.getElem?_map,List.getElem?_eq_getElem hlt]
  simp [List.getD,hlt]
 have q:=gB this
 rw [e] at q
 exact q
theorem fu {α:Type} (l:List α):l.filter (fun _=>true)=l:=List.filter_eq_self.mpr fun _ _=>rfl
theorem bY {l:List Int} {i:Nat} {y:V} (h:(l.map V.int)[i]? =some y):∃ z,l[i]? =some z∧y=.int z:=by
 rw [List.getElem?_map] at h
 cases e:l[i]? with
 | none=>rw [e] at h; cases h
 | some z=>rw [e] at h; cases h; exact ⟨z,rfl,rfl⟩
theorem rN {l:List Addr} {i:Nat} {y:V} (h:(l.map V.ref)[i]? =some y):∃ z,l[i]? =some z∧y=.ref z:=by
 rw [List.getElem?_map] at h
 cases e:l[i]? with
 | none=>rw [e] at h; cases h
 | some z=>rw [e] at h; cases h; exact ⟨z,rfl,rfl⟩
theorem dS {h w:Int} (h0:1≤h) (h1:h≤6):CMul h w:=.inl ⟨by omega,by omega⟩
theorem qx {ps:List Addr} {k:Int} {p:Addr} (h0:0≤k) (h:ps[k.toNat]? =some p):atI (ps.map V.ref) k=some (.ref p):=by
 have e:((k.toNat:Nat):Int)=k:=Int.toNat_of_nonneg h0
 have q0:(ps.map V.ref)[k.toNat]? =some (.ref p):=by rw [List.getElem?_map,h]; rfl
 have q:=gB q0
 rw [e] at q
 exact q
section
variable {k:Nat} {lo:Int} {n:Nat} {tt:TT} {te:TE} {fin:Addr→Hp→Prop} {σ0:St} {H1:Hp} {K:PySem.W.Frag} {a:Addr}
theorem kx {n i:Nat} (b:Nat→Bool) (h:i < n) (hn:n≤900):((List.range i).filter b).length≤900:=by
 have:=List.length_filter_le b (List.range i)
 rw [List.length_range] at this
 omega
theorem rO (b:Nat→Bool) (f:Nat→V) (hn:n≤900)
  (ht:∀ i H R,i < n→Same H1 H→(∀ H',Same H H'→R (b i) H')→tt (σ0.set k (some (.int (lo+i)))) H R)
  (he:∀ i H Q,i < n→b i=true→Same H1 H→(∀ H',Same H H'→Q (f i) H')→te (σ0.set k (some (.int (lo+i)))) H Q)
  (hd:∀ l H,H1 l=none→Same H1 H→H l=some (.lst (((List.range n).filter b).map f))→fin l H):
  CompR (Itr lo n) (gName k) tt te fin σ0 H1:=by
 refine nB (fun l i σ H=>(σ=σ0∨∃ cv,σ=σ0.set k cv)∧Same H1 H∧H l=some (.lst (((List.range i).filter b).map f))) (fun l hl=>⟨.inl rfl,(Same.refl H1).laid hl,by rw [ag]; rfl⟩) ?_ (fun l σ H hl p=>hd l H hl p.2.1 p.2.2)
 rintro l i σ H hl hi ⟨hσ,s1,el⟩
 rw [bK]
 have e:σ.set k (some (.int (lo+i)))=σ0.set k (some (.int (lo+i))):=by
  rcases hσ with rfl | ⟨cv,rfl⟩
  · rfl
  · exact List.set_set ..
 rw [e]
 refine ht i H _ hi s1 fun H2 s2=>?_
 have el2:=s2 _ _ el
 cases hb:b i with
 | false=>
  rw [if_neg Bool.false_ne_true]
  refine ⟨.inr ⟨_,rfl⟩,s1.trans s2,?_⟩
  rw [List.range_succ,List.filter_append,List.filter_cons,hb]
  simpa using el2
 | true=>
  rw [if_pos rfl]
  refine he i H2 _ hi hb (s1.trans s2) fun H3 s3=>⟨_,s3 _ _ el2,by rw [List.length_map]; exact aG (Nat.le_trans (kx b hi hn) (by decide)),.inr ⟨_,rfl⟩,((s1.trans s2).trans s3).own hl,?_⟩
  rw [ag,List.range_succ,List.filter_append,List.filter_cons,hb]
  simp
theorem fY {xs:List V} (b:Nat→Bool) (f:Nat→V) (hn:xs.length≤900) (hq:SqL K H1 a xs)
  (ht:∀ i x H R,xs[i]? =some x→Same H1 H→(∀ H',Same H H'→R (b i) H')→tt (σ0.set k (some x)) H R)
  (he:∀ i x H Q,xs[i]? =some x→b i=true→Same H1 H→(∀ H',Same H H'→Q (f i) H')→te (σ0.set k (some x)) H Q)
  (hd:∀ l H,H1 l=none→Same H1 H→H l=some (.lst (((List.range xs.length).filter b).map f))→fin l H):
  CompR (Itl K a) (gName k) tt te fin σ0 H1:=by
 refine pw (xs:=xs) (fun l i σ H=>(σ=σ0∨∃ cv,σ=σ0.set k cv)∧Same H1 H∧H l=some (.lst (((List.range i).filter b).map f))) (fun l hl=>⟨.inl rfl,(Same.refl H1).laid hl,by rw [ag]; rfl⟩) (fun l i σ H _ _ p=>p.2.1.seq hq) ?_ (fun l σ H hl p=>hd l H hl p.2.1 p.2.2)
 rintro l i x σ H hl hx ⟨hσ,s1,el⟩
 have hi:i < xs.length:=(List.getElem?_eq_some_iff.mp hx).1
 rw [bK]
 have e:σ.set k (some x)=σ0.set k (some x):=by
  rcases hσ with rfl | ⟨cv,rfl⟩
  · rfl
  · exact List.set_set ..
 rw [e]
 refine ht i x H _ hx s1 fun H2 s2=>?_
 have el2:=s2 _ _ el
 cases hb:b i with
 | false=>
  rw [if_neg Bool.false_ne_true]
  refine ⟨.inr ⟨_,rfl⟩,s1.trans s2,?_⟩
  rw [List.range_succ,List.filter_append,List.filter_cons,hb]
  simpa using el2
 | true=>
  rw [if_pos rfl]
  refine he i x H2 _ hx hb (s1.trans s2) fun H3 s3=>⟨_,s3 _ _ el2,by rw [List.length_map]; exact aG (Nat.le_trans (kx b hi hn) (by decide)),.inr ⟨_,rfl⟩,((s1.trans s2).trans s3).own hl,?_⟩
  rw [ag,List.range_succ,List.filter_append,List.filter_cons,hb]
  simp
theorem hV (b:Nat→Bool) (f:Nat→Int) (hn:n≤900)
  (ht:∀ i H R,i < n→Same H1 H→(∀ H',Same H H'→R (b i) H')→tt (σ0.set k (some (.int (lo+i)))) H R)
  (he:∀ i H Q,i < n→b i=true→Same H1 H→(∀ H',Same H H'→Q (.int (f i)) H')→te (σ0.set k (some (.int (lo+i)))) H Q)
  (hd:∀ l H,H1 l=none→Same H1 H→H l=some (.lst ((((List.range n).filter b).map f).map V.int))→fin l H):
  CompR (Itr lo n) (gName k) tt te fin σ0 H1:=
 rO b (fun i=>.int (f i)) hn ht he fun l H hl s1 el=>hd l H hl s1 (by rw [List.map_map]; exact el)
theorem uX (b:Int→Bool) (f:Int→Int) (xs:List Int):((List.range xs.length).filter fun i=>b (xs.getD i 0)).map (fun i=>V.int (f (xs.getD i 0)))=((xs.filter b).map f).map V.int:=by
 have e:xs=(List.range xs.length).map fun i=>xs.getD i 0:=by
  refine List.ext_getElem? fun i=>?_
  rw [List.getElem?_map]
  by_cases h:i < xs.length
  · rw [List.getElem?_range h,List.getElem?_eq_getElem h]
    simp [List.getD,h]
  · rw [List.getElem?_eq_none (by omega),List.getElem?_eq_none (by simpa using h)]; rfl
 conv=>rhs; rw [e]
 rw [List.filter_map,List.map_map,List.map_map]
 rfl
theorem bX {xs:List Int} (b:Int→Bool) (f:Int→Int) (hn:xs.length≤900) (hq:SqL K H1 a (xs.map V.int))
  (ht:∀ x H R,x∈xs→Same H1 H→(∀ H',Same H H'→R (b x) H')→tt (σ0.set k (some (.int x))) H R)
  (he:∀ x H Q,x∈xs→b x=true→Same H1 H→(∀ H',Same H H'→Q (.int (f x)) H')→te (σ0.set k (some (.int x))) H Q)
  (hd:∀ l H,H1 l=none→Same H1 H→H l=some (.lst (((xs.filter b).map f).map V.int))→fin l H):
  CompR (Itl K a) (gName k) tt te fin σ0 H1:=by
 refine fY (xs:=xs.map V.int) (fun i=>b (xs.getD i 0)) (fun i=>.int (f (xs.getD i 0))) (by rw [List.length_map]; exact hn) hq ?_ ?_ ?_
 · intro i x H R hx s1 h
   obtain ⟨z,hz,rfl⟩:=bY hx
   rw [l3 hz] at h
   exact ht z H R (List.mem_of_getElem? hz) s1 h
 · intro i x H Q hx hb s1 h
   obtain ⟨z,hz,rfl⟩:=bY hx
   rw [l3 hz] at h hb
   exact he z H Q (List.mem_of_getElem? hz) hb s1 h
 · intro l H hl s1 el
   refine hd l H hl s1 ?_
   rw [List.length_map] at el
   rw [el,uX]
structure NewAt (H1 H:Hp) (l:Addr) (as:List Addr) (os:List HO):Prop where
 len:as.length=os.length
 nd:as.Nodup
 nl:l∉as
 fr:∀ a∈as,H1 a=none
 at_:∀ (j:Nat) (a:Addr) (o:HO),as[j]? =some a→os[j]? =some o→H a=some o
theorem NewAt.nil {H1 H:Hp} {l:Addr}:NewAt H1 H l [] [] where
 len:=rfl
 nd:=List.nodup_nil
 nl:=by simp
 fr:=fun a h=>nomatch h
 at_:=fun j a o h=>by simp at h
theorem NewAt.same {H1 H H':Hp} {l:Addr} {as:List Addr} {os:List HO} (x:NewAt H1 H l as os) (s:Same H H'):NewAt H1 H' l as os:=
 ⟨x.len,x.nd,x.nl,x.fr,fun j a o h1 h2=>s _ _ (x.at_ j a o h1 h2)⟩
theorem NewAt.mem {H1 H:Hp} {l:Addr} {as:List Addr} {os:List HO} (x:NewAt H1 H l as os) {a:Addr} (h:a∈as):∃ o,H a=some o:=by
 obtain ⟨j,hj,e⟩:=List.mem_iff_getElem.mp h
 have hj2:j < os.length:=by rw [← x.len]; exact hj
 exact ⟨os[j],x.at_ j a os[j] (by rw [List.getElem?_eq_getElem hj,e]) (List.getElem?_eq_getElem hj2)⟩
theorem NewAt.more {H1 H H2:Hp} {l p:Addr} {as:List Addr} {os:List HO} {o u:HO} (x:NewAt H1 H l as os) (s1:Same H1 H) (s:Same H H2) (hp:H p=none) (e:H2 p=some o) (hl:H l=some u) (o':HO):NewAt H1 (upd H2 l o') l (as++[p]) (os++[o]):=by
 have npl:p≠l:=fun z=>by rw [z,hl] at hp; cases hp
 refine ⟨by simp [x.len],?_,?_,?_,?_⟩
 · refine List.nodup_append.mpr ⟨x.nd,by simp,fun a ha b hb z=>?_⟩
   rw [List.mem_singleton.mp hb] at z
   obtain ⟨o2,e2⟩:=x.mem ha
   rw [z,hp] at e2; cases e2
 · intro hm
   rcases List.mem_append.mp hm with hm | hm
   · exact x.nl hm
   · exact npl (List.mem_singleton.mp hm).symm
 · intro a ha
   rcases List.mem_append.mp ha with ha | ha
   · exact x.fr a ha
   · rw [List.mem_singleton.mp ha]
     cases q:H1 p with
     | none=>rfl
     | some v=>rw [s1 _ _ q] at hp; cases hp
 · intro j a o2 h1 h2
   have hlen:=x.len
   by_cases hj:j < as.length
   · rw [List.getElem?_append_left hj] at h1
     rw [List.getElem?_append_left (by omega)] at h2
     have nal:a≠l:=fun z=>x.nl (z ▸ List.mem_of_getElem? h1)
     rw [aj nal]
     exact s _ _ (x.at_ j a o2 h1 h2)
   · rw [List.getElem?_append_right (by omega)] at h1
     rw [List.getElem?_append_right (by omega)] at h2
     have e0:j - as.length=0:=by
      have:=(List.getElem?_eq_some_iff.mp h1).1
      simp at this
      omega
     rw [e0] at h1
     rw [show j - os.length=0 by omega] at h2
     simp at h1 h2
     subst h1 h2
     rw [aj npl]
     exact e
theorem rP (b:Nat→Bool) (o:Nat→HO) (hn:n≤900)
  (ht:∀ i H R,i < n→Same H1 H→(∀ H',Same H H'→R (b i) H')→tt (σ0.set k (some (.int (lo+i)))) H R)
  (he:∀ i H Q,i < n→b i=true→Same H1 H→(∀ a H',Same H H'→H a=none→H' a=some (o i)→Q (.ref a) H')→te (σ0.set k (some (.int (lo+i)))) H Q)
  (hd:∀ l as H,H1 l=none→Same H1 H→H l=some (.lst (as.map V.ref))→NewAt H1 H l as (((List.range n).filter b).map o)→fin l H):
  CompR (Itr lo n) (gName k) tt te fin σ0 H1:=by
 refine nB (fun l i σ H=>(σ=σ0∨∃ cv,σ=σ0.set k cv)∧Same H1 H∧∃ as:List Addr,H l=some (.lst (as.map V.ref))∧NewAt H1 H l as (((List.range i).filter b).map o)) (fun l hl=>⟨.inl rfl,(Same.refl H1).laid hl,[],by rw [ag]; rfl,NewAt.nil⟩) ?_ (fun l σ H hl ⟨_,s1,as,el,x⟩=>hd l as H hl s1 el x)
 rintro l i σ H hl hi ⟨hσ,s1,as,el,x⟩
 rw [bK]
 have e:σ.set k (some (.int (lo+i)))=σ0.set k (some (.int (lo+i))):=by
  rcases hσ with rfl | ⟨cv,rfl⟩
  · rfl
  · exact List.set_set ..
 rw [e]
 refine ht i H _ hi s1 fun H2 s2=>?_
 have el2:=s2 _ _ el
 have x2:=x.same s2
 have s12:=s1.trans s2
 cases hb:b i with
 | false=>
  rw [if_neg Bool.false_ne_true]
  refine ⟨.inr ⟨_,rfl⟩,s12,as,el2,?_⟩
  rw [List.range_succ,List.filter_append,List.filter_cons,hb]
  simpa using x2
 | true=>
  rw [if_pos rfl]
  refine he i H2 _ hi hb s12 fun p H3 s3 hp ep=>⟨_,s3 _ _ el2,?_,.inr ⟨_,rfl⟩,(s12.trans s3).own hl,as++[p],?_,?_⟩
  · rw [List.length_map,x2.len,List.length_map]; exact aG (Nat.le_trans (kx b hi hn) (by decide))
  · rw [ag]; simp
  · have y:=x2.more s12 s3 hp ep el2 (.lst (as.map V.ref++[V.ref p]))
    rw [List.range_succ,List.filter_append,List.filter_cons,hb]
    simpa using y
end
theorem sC:∀ {ds:List PyData},(∀ d∈ds,PyData.canLay0 d=true)→PyData.canLayAll0 ds=true
 | [],_=>rfl
 | d::r,h=>by rw [PyData.canLayAll0,h d List.mem_cons_self,sC fun e he=>h e (List.mem_cons_of_mem _ he)]; rfl
theorem pB {n:Nat}:∀ {ds:List PyData},(∀ d∈ds,PyData.depth d≤n)→PyData.depthAll ds≤n
 | [],_=>Nat.zero_le _
 | d::r,h=>by rw [PyData.depthAll]; exact Nat.max_le.mpr ⟨h d List.mem_cons_self,pB fun e he=>h e (List.mem_cons_of_mem _ he)⟩
theorem oW {α:Type} [DecidableEq α] (g:α→PyData) (hg:∀ a b,PyData.eqv (g a) (g b)=decide (a=b)):∀ xs ys:List α,PyData.eqvAll (xs.map g) (ys.map g)=decide (xs=ys)
 | [],[]=>rfl
 | [],_::_=>rfl
 | _::_,[]=>rfl
 | x::xs,y::ys=>by
  rw [List.map_cons,List.map_cons,PyData.eqvAll,hg,oW g hg xs ys,Bool.eq_iff_iff]
  simp
structure IsLL (H:Hp) (l:Addr) (as:List Addr) (xss:List (List Int)):Prop where
 top:H l=some (.lst (as.map V.ref))
 len:as.length=xss.length
 at_:∀ (j:Nat) (a:Addr) (xs:List Int),as[j]? =some a→xss[j]? =some xs→H a=some (.lst (xs.map V.int))
theorem IsLL.same {H H':Hp} {l:Addr} {as:List Addr} {xss:List (List Int)} (x:IsLL H l as xss) (s:Same H H'):IsLL H' l as xss:=
 ⟨s _ _ x.top,x.len,fun j a xs h1 h2=>s _ _ (x.at_ j a xs h1 h2)⟩
def cu (K:PySem.W.Frag):Sp:=fun vs H Q _=>∃ (a:Addr) (h w g c:Int),vs=[.ref a,.int c]∧IsFl H a h w g∧0 < w∧w < 100∧∀ p,H p=none→Q (.ref p) (upd H p (.tup [.int (c / w),.int (c % w)]))
theorem tu {K:PySem.W.Frag} {vs:List V} {H:Hp} {Q:VK} {E:XK} (h:cu K vs H Q E):vs.length=2:=by
 obtain ⟨_,_,_,_,_,rfl,_⟩:=h; rfl
def iP (K:PySem.W.Frag):TS:=
 (tSeq (tAsg (tOp cIx (tVar 0) (tC (.int 1))) (gName 2))
  (tRet (tTup (tCons (tOp cDiv (tVar 1) (tVar 2)) (tCons (tOp cMod (tVar 1) (tVar 2)) tNil)))))
theorem tw {K:PySem.W.Frag} {vs:List V} {H:Hp} {Q:VK} {E:XK} (h:cu K vs H Q E):iP K { nx:=fun _ H'=>Q .non H',rt:=Q } (start ["floor","cell","wide"] vs) H:=by
 obtain ⟨a,h,w,g,c,rfl,ha,w0,w1,k⟩:=h
 show iP K _ [some (.ref a),some (.int c),none] H
 unfold iP
 walk_at "w"
 rw [fg ha]
 refine a7 (a:=V.int w) rfl ?_
 walk_at "w"
 refine ⟨⟨w0,by omega⟩,w0,aF (by show (2:Nat)≤1000; decide),k⟩
theorem ky (h w c:Int):(besL h w c).length≤4:=by
 unfold besL
 simp only [List.length_append]
 split <;> split <;> split <;> split <;> simp
def bH (K:PySem.W.Frag):Sp:=fun vs H Q _=>∃ (a:Addr) (h w g c:Int),vs=[.ref a,.int c]∧IsFl H a h w g∧0 < w∧w < 100∧∀ l H',Same H H'→H l=none→H' l=some (.lst ((besL h w c).map V.int))→Q (.ref l) H'
theorem uY {K:PySem.W.Frag} {vs:List V} {H:Hp} {Q:VK} {E:XK} (h:bH K vs H Q E):vs.length=2:=by
 obtain ⟨_,_,_,_,_,rfl,_⟩:=h; rfl
def jF (K:PySem.W.Frag):TS:=
 (tSeq (tAsg (tOp cIx (tVar 0) (tC (.int 0))) (gName 2))
  (tSeq (tAsg (tOp cIx (tVar 0) (tC (.int 1))) (gName 3))
  (tSeq (tAsg (tCall (cu K) [] E0 (tCons (tVar 0) (tCons (tVar 1) tNil))) (gName 4))
  (tSeq (tAsg (tLst tNil) (gName 5))
  (tSeq (tIfS (tTest (tOp (cCmp fun i j=>decide (j < i)) (tOp cIx (tVar 4) (tC (.int 0))) (tC (.int 0)))) (tDrop (tBM K "list" bJ (tVar 5) (tCons (tOp cSub (tVar 1) (tVar 3)) tNil))) tNext)
  (tSeq (tIfS (tTest (tOp (cCmp fun i j=>decide (j < i)) (tOp cIx (tVar 4) (tC (.int 1))) (tC (.int 0)))) (tDrop (tBM K "list" bJ (tVar 5) (tCons (tOp cSub (tVar 1) (tC (.int 1))) tNil))) tNext)
  (tSeq (tIfS (tTest (tOp (cCmp fun i j=>decide (i < j)) (tOp cIx (tVar 4) (tC (.int 1))) (tOp cSub (tVar 3) (tC (.int 1))))) (tDrop (tBM K "list" bJ (tVar 5) (tCons (tOp cAdd (tVar 1) (tC (.int 1))) tNil))) tNext)
  (tSeq (tIfS (tTest (tOp (cCmp fun i j=>decide (i < j)) (tOp cIx (tVar 4) (tC (.int 0))) (tOp cSub (tVar 2) (tC (.int 1))))) (tDrop (tBM K "list" bJ (tVar 5) (tCons (tOp cAdd (tVar 1) (tVar 3)) tNil))) tNext)
  (tRet (tVar 5))))))))))
theorem ld {K:PySem.W.Frag} {D:Ends} {σ:St} {H:Hp} {t:TT} {e:TE} {b:Bool} {v:Int} {l:Addr} {i:Nat} {ns:List Int} (hσ:σ[i]? =some (some (.ref l))) (ht:∀ R,R b H→t σ H R) (hl:H l=some (.lst (ns.map V.int))) (hn:ns.length≤900)
  (he:∀ Q,Q (.int v) H→e σ H Q) (k:∀ H',(H' l=some (.lst ((ns++if b=true then [v] else []).map V.int)))→(∀ c,c≠l→H' c=H c)→D.nx σ H'):
  tIfS t (tDrop (tBM K "list" bJ (tVar i) (tCons e tNil))) tNext D σ H:=by
 rw [aH]
 refine ht _ ?_
 cases b with
 | false=>
  refine iteF ?_
  rw [eF]
  exact k H (by simpa using hl) fun _ _=>rfl
 | true=>
  refine iteT ?_
  rw [eI,jN,hE]
  refine ⟨_,hσ,gC hl,?_⟩
  rw [eJ]
  refine he _ ?_
  rw [hJ,gD hl]
  refine ⟨by rw [List.length_map]; exact aG (by omega),k _ ?_ fun c hc=>aj hc⟩
  rw [ag]
  simp
theorem uZ {K:PySem.W.Frag} {vs:List V} {H:Hp} {Q:VK} {E:XK} (h:bH K vs H Q E):jF K { nx:=fun _ H'=>Q .non H',rt:=Q } (start ["floor","cell","high","wide","spot","found"] vs) H:=by
 obtain ⟨a,h,w,g,c,rfl,ha,w0,w1,k⟩:=h
 show jF K _ [some (.ref a),some (.int c),none,none,none,none] H
 unfold jF
 walk_at "w"
 rw [fg ha]
 refine a7 (a:=V.int h) rfl ?_
 walk_at "w"
 rw [fg ha]
 refine a7 (a:=V.int w) rfl ?_
 walk_at "w"
 refine ⟨a,h,w,g,c,rfl,ha,w0,w1,fun p hp=>?_⟩
 walk_at "w"
 refine ⟨aF (by decide),fun l hl=>?_⟩
 have npl:p≠l:=fun e=>by rw [e,ag] at hl; cases hl
 have hl0:H l=none:=by rw [aj npl.symm] at hl; exact hl
 have hpS:∀ H':Hp,(∀ d,d≠l→H' d=upd H p (.tup [.int (c / w),.int (c % w)]) d)→H' p=some (.tup [.int (c / w),.int (c % w)]):=fun H' e=>by rw [e p npl,ag]
 refine ld (ns:=[]) (l:=l) (i:=5) (b:=decide (0 < c / w)) (v:=c - w) rfl (fun R q=>?_) ag (by decide) (fun Q q=>?_) fun H1 e1 f1=>?_
 · walk_at "w"
   rw [fg (hpS _ fun d hd=>aj hd)]
   refine a7 rfl ?_
   walk_at "w"
   exact q
 · walk_at "w"
   exact q
 walk_at "w"
 refine ld (l:=l) (i:=5) (b:=decide (0 < c % w)) (v:=c - 1) rfl (fun R q=>?_) e1 (by simp; split <;> simp) (fun Q q=>?_) fun H2 e2 f2=>?_
 · walk_at "w"
   rw [fg (hpS _ fun d hd=>by rw [f1 d hd,aj hd])]
   refine a7 rfl ?_
   walk_at "w"
   exact q
 · walk_at "w"
   exact q
 walk_at "w"
 refine ld (l:=l) (i:=5) (b:=decide (c % w < w - 1)) (v:=c+1) rfl (fun R q=>?_) e2 (by simp; split <;> split <;> simp) (fun Q q=>?_) fun H3 e3 f3=>?_
 · walk_at "w"
   rw [fg (hpS _ fun d hd=>by rw [f2 d hd,f1 d hd,aj hd])]
   refine a7 rfl ?_
   walk_at "w"
   exact q
 · walk_at "w"
   exact q
 walk_at "w"
 refine ld (l:=l) (i:=5) (b:=decide (c / w < h - 1)) (v:=c+w) rfl (fun R q=>?_) e3 (by simp; split <;> split <;> split <;> simp) (fun Q q=>?_) fun H4 e4 f4=>?_
 · walk_at "w"
   rw [fg (hpS _ fun d hd=>by rw [f3 d hd,f2 d hd,f1 d hd,aj hd])]
   refine a7 rfl ?_
   walk_at "w"
   exact q
 · walk_at "w"
   exact q
 walk_at "w"
 refine k l H4 (fun b o e=>?_) hl0 ?_
 · have nb:b≠l:=aA e hl0
   have nbp:b≠p:=aA e hp
   rw [f4 b nb,f3 b nb,f2 b nb,f1 b nb,aj nb,aj nbp]
   exact e
 · rw [e4]
   unfold besL
   simp [decide_eq_true_eq]
structure FlOk (h w g:Int):Prop where
 h0:1≤h
 h1:h≤6
 w0:1≤w
 w1:w≤6
 m:h*w≤16
 g0:1≤g
 g1:g≤6
section
variable {K:PySem.W.Frag} {H:Hp} {Q:VK}
theorem u6 {p:Addr} {xs:List V} (hp:H p=some (.lst xs)) (h:Q (.bl true) H):kIsi [.ref p,.ty "list"] H Q:=by
 refine ⟨by decide,a7 (a:="list") (by unfold jj; dsimp only; rw [hp]) ?_⟩
 rw [show isTy "list" "list"=true by decide]
 exact h
theorem u7 {p:Addr} {xs:List V} (hp:H p=some (.tup xs)) (h:Q (.bl true) H):kIsi [.ref p,.ty "tuple"] H Q:=by
 refine ⟨by decide,a7 (a:="tuple") (by unfold jj; dsimp only; rw [hp]) ?_⟩
 rw [show isTy "tuple" "tuple"=true by decide]
 exact h
theorem xW {g:TG} {tb:TS} {D:Ends} {σ:St} {ta:TA}:tFor (iZip K ta) g tb D σ H=ta σ H fun vs H1=>∃ a b,vs=[.ref a,.ref b]∧(∃ xs,SqL K H1 a xs)∧(∃ ys,SqL K H1 b ys)∧LoopR (Itz K a b) g tb D σ H1:=rfl
theorem lf {n:Nat} {t:TGs} {σ:St} {k:St→Hp→Prop} {p:Addr} {xs:List V} (hp:H p=some (.tup xs)) (hn:xs.length=n) (h:t xs σ H k):gTup K n t (.ref p) σ H k:=⟨p,xs,rfl,SqT.of hp,hn,h⟩
theorem jk {i j:Nat} {x y:V} {σ:St} {k:St→Hp→Prop}:gCons (gName i) (gCons (gName j) gNil) [x,y] σ H k=k ((σ.set i (some x)).set j (some y)) H:=by
 refine propext ⟨?_,fun h=>⟨x,[y],rfl,y,[],rfl,rfl,h⟩⟩
 rintro ⟨v,r,e,v2,r2,e2,e3,h⟩
 cases e
 cases e2
 exact h
theorem wN {a b:Addr} {xs ys:List V} {g:TG} {tb:TS} {D:Ends} {σ:St} (Pv:Nat→St→Hp→Prop) (hlen:xs.length=ys.length) (h0:Pv 0 σ H) (hl:∀ i σ H,i≤xs.length→Pv i σ H→SqL K H a xs∧SqL K H b ys)
  (hs:∀ i x y T σ H,xs[i]? =some x→ys[i]? =some y→Pv i σ H→H T=none→g (.ref T) σ (upd H T (.tup [x,y])) fun σ2 H2=>tb { D with nx:=Pv (i+1),ct:=Pv (i+1),bk:=D.nx } σ2 H2) (hd:∀ σ H,Pv xs.length σ H→D.nx σ H):
  LoopR (Itz K a b) g tb D σ H:=by
 refine ⟨fun i m σ H=>m=xs.length - i∧i≤xs.length∧Pv i σ H,⟨xs.length,by simp,Nat.zero_le _,h0⟩,?_⟩
 rintro i m σ H ⟨rfl,hi,p⟩
 obtain ⟨q1,q2⟩:=hl i σ H hi p
 by_cases hlt:i < xs.length
 · have hlt2:i < ys.length:=by omega
   refine .inr ⟨⟨xs,ys,xs[i],ys[i],q1,q2,by simp [hlt],by simp [hlt2]⟩,Pv (i+1),fun σ' H' p'=>⟨xs.length - (i+1),by omega,rfl,hlt,p'⟩,fun v H' y=>?_⟩
   obtain ⟨T,x,y,rfl,hT,rfl,e1,e2⟩:=y
   exact hs i x y T σ H (e1 xs q1) (e2 ys q2) p hT
 · have e:i=xs.length:=by omega
   subst e
   exact .inl ⟨⟨xs,ys,q1,q2,.inl (Nat.le_refl _)⟩,hd σ H p⟩
end
end L2
namespace L2
open PySem PySem.Builtin PySem.Builtin.Str
def tx (l:List Nat):Str:=⟨l.toArray⟩
theorem nF (l:List Nat):(tx l).cps.toList=l:=by simp [tx]
theorem yK (x:Str):tx x.cps.toList=x:=by cases x; simp [tx]
theorem u8 {a b:List Nat} (h:tx a=tx b):a=b:=by rw [← nF a,h,nF]
theorem fZ (l:List Nat):(tx l).length=l.length:=by simp [tx,Str.length]
theorem nG (a b:List Nat):tx a++tx b=tx (a++b):=by
 refine Str.ext' ?_
 rw [Str.cps_append]
 simp [tx]
theorem dU (a b:List Nat):decide (tx a=tx b)=decide (a=b):=by
 by_cases h:a=b
 · subst h; simp
 · have:¬ tx a=tx b:=fun e=>h (u8 e)
   rw [decide_eq_false h,decide_eq_false this]
def catL (c:Nat):List (List Nat)→List Nat
 | []=>[]
 | [x]=>x
 | x::y::r=>x++c::catL c (y::r)
theorem sD (c:Nat):∀ ts:List (List Nat),Str.join (tx [c]) (ts.map tx)=tx (catL c ts)
 | []=>rfl
 | [x]=>rfl
 | x::y::r=>by
  show tx x++tx [c]++Str.join (tx [c]) ((y::r).map tx)=_
  rw [sD c (y::r),nG,nG]
  show tx _=tx (x++c::catL c (y::r))
  rw [List.append_assoc]; rfl
theorem sE {c:Nat}:∀ {a b x y:List Nat},c∉a→c∉b→a++c::x=b++c::y→a=b∧x=y
 | [],[],_,_,_,_,h=>⟨rfl,by simpa using h⟩
 | [],b::bs,_,_,_,hb,h=>by
  simp at h
  exact absurd (List.mem_cons.mpr (.inl h.1)) hb
 | a::as,[],_,_,ha,_,h=>by
  simp at h
  exact absurd (List.mem_cons.mpr (.inl h.1.symm)) ha
 | a::as,b::bs,x,y,ha,hb,h=>by
  simp at h
  have:=sE (fun z=>ha (List.mem_cons_of_mem _ z)) (fun z=>hb (List.mem_cons_of_mem _ z)) h.2
  exact ⟨by rw [h.1,this.1],this.2⟩
theorem qy {c:Nat}:∀ {x:List Nat} {r:List (List Nat)} {y:List Nat},c∈catL c (x::y::r):=by
 intro x r y
 show c∈x++c::_
 simp
theorem qz {c:Nat}:∀ {xs ys:List (List Nat)},xs≠[]→ys≠[]→(∀ x∈xs,c∉x)→(∀ y∈ys,c∉y)→catL c xs=catL c ys→xs=ys
 | [],_,h,_,_,_,_=>absurd rfl h
 | _,[],_,h,_,_,_=>absurd rfl h
 | [x],[y],_,_,_,_,h=>by
  have h':x=y:=h
  rw [h']
 | [x],y::z::r,_,_,hx,_,h=>by
  have h':x=catL c (y::z::r):=h
  exact absurd (h' ▸ qy) (hx x List.mem_cons_self)
 | x::z::r,[y],_,_,_,hy,h=>by
  have h':catL c (x::z::r)=y:=h
  exact absurd (h' ▸ qy) (hy y List.mem_cons_self)
 | x::z::r,y::u::s,_,_,hx,hy,h=>by
  obtain ⟨e1,e2⟩:=sE (hx x List.mem_cons_self) (hy y List.mem_cons_self) (show x++c::catL c (z::r)=y++c::catL c (u::s) from h)
  rw [e1,qz (by simp) (by simp) (fun w hw=>hx w (List.mem_cons_of_mem _ hw)) (fun w hw=>hy w (List.mem_cons_of_mem _ hw)) e2]
theorem vW (x y:Str):Txt.split x y≠[]:=by
 intro h
 unfold Txt.split at h
 split at h
 · cases h
 · split at h
   · cases h
   · rw [StrLaws.partsBetween_eq] at h
     obtain ⟨p,r,e⟩:=StrLaws.partsFrom_ne x y.length 0 (occurrences x y 0 x.length (x.length+1))
     rw [e] at h; cases h
theorem vX {c:Nat} {rows:List (List Nat)} (hne:rows≠[]) (hf:∀ r∈rows,c∉r):Txt.split (tx (catL c rows)) (tx [c])=rows.map tx:=by
 have h1:=StrLaws.join_split (tx (catL c rows)) (tx [c])
 have h2:∀ p∈Txt.split (tx (catL c rows)) (tx [c]),c∉p.cps.toList:=StrLaws.split_free _ c
 have h3:=vW (tx (catL c rows)) (tx [c])
 generalize Txt.split (tx (catL c rows)) (tx [c])=S at*
 have e:S=(S.map (·.cps.toList)).map tx:=by
  rw [List.map_map]
  conv=>lhs; rw [← List.map_id S]
  exact List.map_congr_left fun x _=>(yK x).symm
 rw [e,sD] at h1
 have h4:=u8 h1
 have h5:=qz (c:=c) (xs:=S.map (·.cps.toList)) (ys:=rows) (by simpa using h3) hne (fun x hx=>by obtain ⟨p,hp,rfl⟩:=List.mem_map.mp hx; exact h2 p hp) hf h4
 rw [e,h5]
end L2
namespace L2
end L2
namespace L2
open PySem PySem.Spec PyProof.Rows
local macro_rules | `(tactic| walk_at "w")=>`(tactic| (first | simp only [aR,eF,eV,bK,hE,w_c,kl,fH,fI,eI,fJ,w_b,w_not,io,km,fK,fM,ip,hJ,eJ,kn,fN,iq,iu,jN,iw,fO,fP,fQ,fR,d7,d8,cL,cW,cX,cr,iy,iz,iA,iC,iD,iE,iF,iG,iH,iI,iJ,iK,kq,fS,cY,fT,kr,fU,d9,cZ,iL,iO,fV,fW,fX,
 List.getElem?_cons_zero,List.getElem?_cons_succ,Option.some.injEq,exists_eq_left',exists_eq_left,List.set_cons_zero,List.set_cons_succ,cA,V.int.injEq,V.bl.injEq,V.ref.injEq,V.str.injEq,List.append_nil,List.nil_append,List.cons_append] | dsimp only | skip))
section
variable {k:Nat} {tt:TT} {te:TE} {fin:Addr→Hp→Prop} {σ0:St} {H1:Hp}
theorem u9 {cs:List Nat} (b:Nat→Bool) (f:Nat→V) (hn:cs.length≤900)
  (ht:∀ i c H R,cs[i]? =some c→Same H1 H→(∀ H',Same H H'→R (b i) H')→tt (σ0.set k (some (.str (tx [c])))) H R)
  (he:∀ i c H Q,cs[i]? =some c→b i=true→Same H1 H→(∀ H',Same H H'→Q (f i) H')→te (σ0.set k (some (.str (tx [c])))) H Q)
  (hd:∀ l H,H1 l=none→Same H1 H→H l=some (.lst (((List.range cs.length).filter b).map f))→fin l H):
  CompR (Its (tx cs)) (gName k) tt te fin σ0 H1:=by
 intro l hl
 have hsz:(tx cs).cps.size=cs.length:=by simp [tx]
 refine ⟨fun i m σ H=>m=cs.length - i∧i≤cs.length∧(σ=σ0∨∃ cv,σ=σ0.set k cv)∧Same H1 H∧H l=some (.lst (((List.range i).filter b).map f)),⟨cs.length,by simp,Nat.zero_le _,.inl rfl,(Same.refl H1).laid hl,by rw [ag]; rfl⟩,?_⟩
 rintro i m σ H ⟨rfl,hi,hσ,s1,el⟩
 by_cases hlt:i < cs.length
 · refine .inr ⟨by show i < (tx cs).cps.size; rw [hsz]; exact hlt,fun σ H=>(σ=σ0∨∃ cv,σ=σ0.set k cv)∧Same H1 H∧H l=some (.lst (((List.range (i+1)).filter b).map f)),fun σ' H' p'=>⟨cs.length - (i+1),by omega,rfl,hlt,p'⟩,?_⟩
   rintro x H' ⟨rfl,c,hc,rfl⟩
   have hc':cs[i]? =some c:=by simpa [tx] using hc
   show gName k (.str (tx [c])) σ H' _
   rw [bK]
   have e:σ.set k (some (.str (tx [c])))=σ0.set k (some (.str (tx [c]))):=by
    rcases hσ with rfl | ⟨cv,rfl⟩
    · rfl
    · exact List.set_set ..
   rw [e]
   refine ht i c H' _ hc' s1 fun H2 s2=>?_
   have el2:=s2 _ _ el
   cases hb:b i with
   | false=>
    rw [if_neg Bool.false_ne_true]
    refine ⟨.inr ⟨_,rfl⟩,s1.trans s2,?_⟩
    rw [List.range_succ,List.filter_append,List.filter_cons,hb]
    simpa using el2
   | true=>
    rw [if_pos rfl]
    refine he i c H2 _ hc' hb (s1.trans s2) fun H3 s3=>⟨_,s3 _ _ el2,by rw [List.length_map]; exact aG (Nat.le_trans (kx b hlt hn) (by decide)),.inr ⟨_,rfl⟩,((s1.trans s2).trans s3).own hl,?_⟩
    rw [ag,List.range_succ,List.filter_append,List.filter_cons,hb]
    simp
 · have e:i=cs.length:=by omega
   subst e
   exact .inl ⟨by show (tx cs).cps.size≤_; rw [hsz]; exact Nat.le_refl _,hd l H hl s1 el⟩
end
theorem pK {α:Type} (xs:List Int) (g:Int→α):(List.range xs.length).map (fun i=>g (xs.getD i 0))=xs.map g:=by
 have e:xs=(List.range xs.length).map fun i=>xs.getD i 0:=by
  refine List.ext_getElem? fun i=>?_
  rw [List.getElem?_map]
  by_cases h:i < xs.length
  · rw [List.getElem?_range h,List.getElem?_eq_getElem h]
    simp [List.getD,h]
  · rw [List.getElem?_eq_none (by omega),List.getElem?_eq_none (by simpa using h)]; rfl
 conv=>rhs; rw [e]
 rw [List.map_map]
 rfl
end L2
namespace L2
open PySem PySem.Spec PyProof.Rows
abbrev rIsN:R2:=fun x y H Q=>y=.non∧Q (.bl (decide (x=.non))) H
abbrev rNotN:R2:=fun x y H Q=>y=.non∧Q (.bl (!decide (x=.non))) H
def kStr:List V→Hp→VK→Prop
 | [.int i],H,Q=>i.natAbs.log2 < 1920∧Q (.str (Str.ofString (toString i))) H
 | _,_,_=>False
section
variable {X:Cx}
theorem va:CallR X (.type "str") kStr:=by
 intro pins s σ H xs us Q I r h
 unfold kStr at h
 split at h
 · obtain ⟨hi,q⟩:=h
   cases r with
   | cons r0 rr=>
    cases rr
    obtain ⟨t,rfl⟩:=r0
    exact PySem.P.str_of_int hi ⟨.str _,H,I.tok _,⟨_,rfl⟩,q⟩
 · exact h.elim
end
section
variable {K:PySem.W.Frag} {H:Hp} {Q:VK}
theorem nI {x:V}:rIsN x .non H Q=Q (.bl (decide (x=.non))) H:=by simp [rIsN]
theorem lh {x:V}:rNotN x .non H Q=Q (.bl (!decide (x=.non))) H:=by simp [rNotN]
theorem l4 {i:Int}:kStr [.int i] H Q=(i.natAbs.log2 < 1920∧Q (.str (Str.ofString (toString i))) H):=rfl
end
end L2
namespace L2
open PySem PySem.Spec PyProof.Rows
structure Bt2 (mg:Str→Option Value):Prop extends Bt mg where
 all_:mg "all"=none
 sum_:mg "sum"=none
 enumerate_:mg "enumerate"=none
section
variable {K:PySem.W.Frag} {H:Hp} {Q:VK} {D:Ends} {σ:St} {g:TG} {tb:TS} {ta:TA} {ix:List (Option Nat)} {tt:TT} {te tf:TE} {k:Nat}
theorem l5:tIf tt te tf σ H Q=tt σ H fun c H1=>if c=true then te σ H1 Q else tf σ H1 Q:=rfl
theorem gG:tComp ix (np ta) g tt te σ H Q=ta σ H fun vs H1=>∃ i j:Int,vs=[.int i,.int j]∧(-(2^62)≤i∧i < 2^62∧ -(2^62)≤j∧j < 2^62)∧CompR (Itr i (j - i).toNat) g tt te (fun l H'=>Q (.ref l) H') (subσ ix σ) H1:=rfl
theorem fv:sComp k ix (np ta) g tt te D σ H=ta σ H fun vs H1=>∃ i j:Int,vs=[.int i,.int j]∧(-(2^62)≤i∧i < 2^62∧ -(2^62)≤j∧j < 2^62)∧CompR (Itr i (j - i).toNat) g tt te (fun l H'=>D.nx (σ.set k (some (.ref l))) H') (subσ ix σ) H1:=rfl
theorem isiE {x:V} {n t:String} {b:Bool} (hx:jj H x=some t) (hn:lU n=true) (hb:isTy t n=b):kIsi [x,.ty n] H Q=Q (.bl b) H:=by
 subst hb
 show (lU n=true∧bnd (jj H x) fun t=>Q (.bl (isTy t n)) H)=_
 rw [hx]
 simp only [hn,true_and,cA]
theorem gH {i:Int}:kIsi [.int i,.ty "int"] H Q=Q (.bl true) H:=isiE (t:="int") rfl (by decide) (by decide)
theorem gI {i:Int}:kIsi [.int i,.ty "bool"] H Q=Q (.bl false) H:=isiE (t:="int") rfl (by decide) (by decide)
theorem gJ {i:Int}:kIsi [.int i,.ty "str"] H Q=Q (.bl false) H:=isiE (t:="int") rfl (by decide) (by decide)
theorem gK {i:Bool}:kIsi [.bl i,.ty "bool"] H Q=Q (.bl true) H:=isiE (t:="bool") rfl (by decide) (by decide)
theorem gL {i:Bool}:kIsi [.bl i,.ty "int"] H Q=Q (.bl true) H:=isiE (t:="bool") rfl (by decide) (by decide)
theorem gM {i:Str}:kIsi [.str i,.ty "str"] H Q=Q (.bl true) H:=isiE (t:="str") rfl (by decide) (by decide)
theorem gN {i:Bool}:kIsi [.bl i,.ty "str"] H Q=Q (.bl false) H:=isiE (t:="bool") rfl (by decide) (by decide)
theorem ka {A B:Prop}:(if true=true then A else B)=A:=if_pos rfl
theorem kb {A B:Prop}:(if false=true then A else B)=B:=if_neg Bool.false_ne_true
theorem kc {i:Int}:rU (fun i=>.int (-i)) (.int i) H Q=Q (.int (-i)) H:=by
 refine propext ⟨?_,fun h=>⟨i,rfl,h⟩⟩
 rintro ⟨j,e,h⟩
 cases e
 exact h
theorem ixT {p:Addr} {i:Int} {xs:List V} {v:V} (h:H p=some (.tup xs)) (e:atI xs i=some v) (q:Q v H):cIx (.ref p) (.int i) H Q:=by
 rw [fg h]; exact a7 e q
theorem ixL {p:Addr} {i:Int} {xs:List V} {v:V} (h:H p=some (.lst xs)) (e:atI xs i=some v) (q:Q v H):cIx (.ref p) (.int i) H Q:=by
 rw [wo h]; exact a7 e q
theorem ixI {p:Addr} {i:Int} {ns:List Int} (h:H p=some (.lst (ns.map V.int))) (h0:0≤i) (h1:i < ns.length) (q:Q (.int (ns.getD i.toNat 0)) H):cIx (.ref p) (.int i) H Q:=ixL h (mN h0 h1) q
end
end L2
namespace L2
open PySem PySem.Spec PyProof.Rows
end L2
namespace L2
open PySem PySem.Spec PyProof.Rows
end L2
namespace L2
open PySem PySem.Spec PyProof.Rows
end L2
namespace L2
open PySem PySem.Spec PyProof.Rows
end L2
namespace L2
open PySem PySem.Spec PyProof.Rows
end L2
namespace L2
open PySem PySem.Spec PyProof.Rows
def cMulB:R2
 | .int i,.int j,H,Q=>IntMulOk i j∧Q (.int (i*j)) H
 | _,_,_,_=>False
end L2
namespace Att
open PySem PySem.W PySem.Calls PyProof.Rows
end Att
namespace L2
open PySem PySem.Spec PyProof.Rows
section
variable {K:PySem.W.Frag} {H:Hp} {Q:VK} {D:Ends} {σ:St}
theorem yV {i j:Int}:cMulB (.int i) (.int j) H Q=(IntMulOk i j∧Q (.int (i*j)) H):=rfl
theorem nJ {i j:Int}:cPow (.int i) (.int j) H Q=(CPow i j∧Q (.int (i^j.toNat)) H):=rfl
theorem nK {p q:Addr} {xs ys:List V} (hp:H p=some (.lst xs)) (hq:H q=some (.lst ys)) (hn:xs.length+ys.length≤1000) (h:∀ r,H r=none→Q (.ref r) (upd H r (.lst (xs++ys)))):cAdd (.ref p) (.ref q) H Q:=by
 show bnd (unM (H p)) _
 rw [hp]
 refine a7 (a:=xs) rfl ?_
 rw [hq]
 exact a7 (a:=ys) rfl ⟨Nat.le_of_lt (aG hn),h⟩
end
end L2
namespace L2
open PySem PySem.Spec PyProof.Rows
inductive RK where
 | Rule | Unlike | Sum | Rising | Seen | Count | Joined | NoSquare | Ring
 deriving DecidableEq
structure RCl (ι:Type) where
 A:ι→Addr
 ok:ι→Bool
section
variable {ι:Type}
def tFldK (c:RCl ι) (ta:TE) (f:Str):TE:=fun σ H Q=>ta σ H fun x H1=>∃ a k dx fs v,x=.ref a∧c.ok k=true∧H1 a=some (.ins (c.A k) dx fs)∧fs.lookup f=some v∧Q v H1
def sFldK (c:RCl ι) (ta tv:TE) (f:Str):TS:=fun D σ H=>tv σ H fun y H1=>ta σ H1 fun x H2=>∃ a k dx fs,x=.ref a∧c.ok k=true∧H2 a=some (.ins (c.A k) dx fs)∧fs.length < 1000∧
 D.nx σ (upd H2 a (.ins (c.A k) dx (putF f y fs)))
def cM (c:RCl ι) (okm:ι→Bool) (m:Str) (sp:ι→Sp) (ta:TE) (t:TA):TE:=fun σ H Q=>ta σ H fun x H1=>∃ a k dx fs,x=.ref a∧okm k=true∧H1 a=some (.ins (c.A k) dx fs)∧fs.lookup m=none∧
 t σ H1 fun vs H2=>sp k (x::vs) H2 Q E0
structure FldK (K:PySem.W.Frag) (c:RCl ι) (f:Str):Prop where
 ex:∀ k,c.ok k=true→Cls K (c.A k)∧NoAttr K (c.A k) f
structure MCal (P:Program) (w:World) (K:PySem.W.Frag) (mg:Str→Option Value) (base:Heap) (c:RCl ι) (okm:ι→Bool) (k:Nat) (m:Str) (ps:List Str) (sp:ι→Sp):Prop where
 ex:∀ i,okm i=true→∃ (f:Addr) (fd:FuncData),Cls K (c.A i)∧Meth K (c.A i) m f∧FnOk P w K mg base CX0 k f fd ps (sp i)∧Binds K fd ps []
structure KCal (P:Program) (w:World) (K:PySem.W.Frag) (mg:Str→Option Value) (base:Heap) (k:Nat) (x:Str) (C:Addr) (ps:List Str) (sp:Sp):Prop where
 ex:∃ (f:Addr) (fd:FuncData),Mk K C f∧FnOk P w K mg base CX0 k f fd ps sp∧mg x=some (.ref C)∧Binds K fd ps []
end
section
variable {ι:Type} {X:Cx} {c:RCl ι} {o e value:Expr} {es:List Expr} {f x m:Str} {p pos pos' apos:Pos} {ta tv:TE} {t:TA} {okm:ι→Bool} {k n:Nat} {ps:List Str} {sp:ι→Sp} {sp1:Sp} {C:Addr}
theorem gO (he:PE X e ta) (F:FldK X.K c f) (hb:attributeBase e f X.env (eval e X.env)=eval e X.env:=by rfl):PE X (.Attribute e f pos) (tFldK c ta f):=by
 intro pins s σ H Q I h
 refine wA hb (thn (he pins s σ H _ I h) fun u s1 ⟨x,H1,I1,rx,a,k,dx,fs,v,ex,hk,ea,l,q⟩=>?_)
 subst ex
 obtain rfl:u=Value.ref a:=rx
 obtain ⟨cl,na⟩:=F.ex k hk
 exact sT I1 ea cl na l fun u' s2 I2 ru=>⟨v,H1,I2,ru,q⟩
theorem fw (ha:PE X o ta) (hv:PE X value tv) (F:FldK X.K c f) (hs:swapsWith value (some (.Attribute o f pos')) pos.line X.env=pure false:=by rfl):PS X (.Assign [.Attribute o f pos'] value pos) (sFldK c ta tv f):=by
 intro pins s σ H D I h
 refine plainObj_wpAny_Assign_Attribute (thn (hv pins s σ H _ I h) fun u s1 ⟨y,H1,I1,ry,q⟩=>thn (ha pins s1 σ H1 _ I1 q) fun ov s2 ⟨x,H2,I2,rx,a,k,dx,fs,ex,hk,ea,l,q2⟩=>?_) hs
 subst ex
 obtain rfl:ov=Value.ref a:=rx
 obtain ⟨cl,na⟩:=F.ex k hk
 exact sV I2 ea cl na l ry fun s3 I3=>⟨σ,_,I3,q2⟩
theorem bZ {pl:Sem Bool} (M:MCal X.prog X.w X.K X.mg X.base c okm k m ps sp) (hr:Room n X.A) (hk:k≤n) (he:PE X o ta)
  (ht:eval (.Call (.Attribute o m apos) [] [] pos) X.env=(do
   let ov ← eval o X.env
   standAt apos.atName
   let (f,first) ← holding [ov] (getMethod ov m pl)
   callWith pos f first (backTo pos (starEach [] X.env)) (backToKw pos (keywordEach [] X.env))):=by rfl):
  PE X (.Call (.Attribute o m apos) [] [] pos) (cM c okm m sp ta tNil):=by
 intro pins s σ H Q I h
 refine PySem.W.methodCall_KW (pl:=pl) (thn (he pins s σ H _ I h) fun u s1 ⟨x,H1,I1,rx,a,i,dx,fs,ex,hi,ea,l,q⟩=>?_) ht
 subst ex
 obtain rfl:u=Value.ref a:=rx
 obtain ⟨f,fd,cl,hm,F,hb⟩:=M.ex i hi
 refine sU I1 ea cl hm l ?_
 exact PySem.W.callWith_K0 (first:=[.ref a]) I1.kIn hm.kp (uy (us:=[.ref a]) (vs:=[.ref a]) F (hr.mono hk) hb .nil sY I1 (.cons rfl .nil) q)
theorem iQ (M:KCal X.prog X.w X.K X.mg X.base k x C ps sp1) (hr:Room n X.A) (hk:k+1≤n) (hg:Gl X x) (ha:PA X (e::es) t)
  (hdb:(x==("__debug__":Str))=false:=by decide) (he:starEach (e::es) X.env=(false,eval e X.env)::starEach es X.env:=by rfl) (hpl:(backTo pos (starEach es X.env)).any (·.1)=false:=by rfl):
  PE X (.Call (.Name x p) (e::es) [] pos) (tMake C sp1 [] E0 t):=by
 obtain ⟨f,fd,mk,F,hm,hb⟩:=M.ex
 exact wC mk F (hr.mono hk) hg hm hb .nil sY ha hdb he hpl
end
def jl (K:PySem.W.Frag):List V→Hp→VK→Prop
 | [.ref p],H,Q=>bnd (unM (H p)) fun ys=>∀ l,H l=none→Q (.ref l) (upd H l (.tup ys))
 | _,_,_=>False
def tInG (ws:List Str) (neg:Bool) (te:TE):TE:=fun σ H Q=>te σ H fun x H1=>∃ z,x=.str z∧Q (.bl (if neg then !decide (z∈ws) else decide (z∈ws))) H1
structure GTup (K:PySem.W.Frag) (mg:Str→Option Value) (x:Str) (ws:List Str):Prop where
 ex:∃ (p:Addr) (o:Obj) (its:Array Value) (n:Nat),mg x=some (.ref p)∧K.lookup p=some o∧o.cls=.type "tuple"∧o.data=.seq its n∧its.size≤sizeLine∧Vals (ws.map V.str) its.toList
theorem jG:∀ ns:List Str,(ns.map V.str).all flatV=true
 | []=>rfl
 | n::r=>by rw [List.map_cons,List.all_cons,jG r]; rfl
theorem kz (i:Str):∀ ns:List Str,inV (.str i) (ns.map V.str)=decide (i∈ns)
 | []=>by simp [inV]
 | n::r=>by
  have ih:=kz i r
  unfold inV at ih ⊢
  rw [List.map_cons,List.any_cons,ih]
  show ((n==i)||decide (i∈r))=decide (i∈n::r)
  rw [Bool.eq_iff_iff,Bool.or_eq_true,beq_iff_eq,decide_eq_true_eq,decide_eq_true_eq,List.mem_cons]
  exact ⟨fun h=>h.elim (fun e=>.inl e.symm) .inr,fun h=>h.elim (fun e=>.inl e.symm) .inr⟩
section
variable {X:Cx} {a:Expr} {ta:TE} {pos p:Pos} {x:Str} {ws:List Str}
theorem mG:CallR X (.type "tuple") (jl X.K):=by
 intro pins s σ H xs us Q I r h
 unfold jl at h
 split at h
 · obtain ⟨ys,e,q⟩:=bi h
   exact pJ pins s σ H _ us Q I r ⟨_,ys,rfl,.inl ⟨SqL.of (la e),q⟩⟩
 · exact h.elim
theorem xX {ws:List Str} {q:Addr} (hq:∃ (o:Obj) (its:Array Value) (n:Nat),X.K.lookup q=some o∧o.cls=.type "tuple"∧o.data=.seq its n∧its.size≤sizeLine∧Vals (ws.map V.str) its.toList):
  OpR X (compareOp .In) (fun x y H Q=>∃ z,x=.str z∧y=.ref q∧Q (.bl (decide (z∈ws))) H):=by
 intro pins s σ H x y v u Q I rx ry h
 obtain ⟨z,rfl,rfl,h⟩:=h
 refine kZ pins s σ H _ _ v u Q I rx ry ⟨q,ws.map V.str,rfl,.inr (.inr hq),rfl,jG ws,?_⟩
 rw [kz]
 exact h
theorem wO {ws:List Str} {q:Addr} (hq:∃ (o:Obj) (its:Array Value) (n:Nat),X.K.lookup q=some o∧o.cls=.type "tuple"∧o.data=.seq its n∧its.size≤sizeLine∧Vals (ws.map V.str) its.toList):
  OpR X (compareOp .NotIn) (fun x y H Q=>∃ z,x=.str z∧y=.ref q∧Q (.bl (!decide (z∈ws))) H):=by
 intro pins s σ H x y v u Q I rx ry h
 obtain ⟨z,rfl,rfl,h⟩:=h
 refine k7 pins s σ H _ _ v u Q I rx ry ⟨q,ws.map V.str,rfl,.inr (.inr hq),rfl,jG ws,?_⟩
 rw [kz]
 exact h
end
section
variable {ι:Type} {c:RCl ι} {ta tv:TE} {t:TA} {f m:Str} {σ:St} {H:Hp} {Q:VK} {D:Ends} {okm:ι→Bool} {sp:ι→Sp} {sp1:Sp} {C:Addr} {K:PySem.W.Frag}
theorem li:tMake C sp1 [] E0 t σ H Q=t σ H fun vs H1=>∀ x dx,H1 x=none→H1 dx=none→dx≠x→sp1 (.ref x::(vs++[])) (upd (upd H1 dx (.own x)) x (.ins C dx [])) (fun v H2=>v=.non∧Q (.ref x) H2) E0:=rfl
theorem nL {ws:List Str} {neg:Bool} {te:TE}:tInG ws neg te σ H Q=te σ H fun x H1=>∃ z,x=.str z∧Q (.bl (if neg then !decide (z∈ws) else decide (z∈ws))) H1:=rfl
theorem wP {p:Addr} {xs:List V} (hp:H p=some (.lst xs)) (h:∀ l,H l=none→Q (.ref l) (upd H l (.tup xs))):jl K [.ref p] H Q:=by
 unfold jl
 dsimp only
 rw [hp]
 exact h
end
end L2
namespace L2
open PySem PySem.Spec PyProof.Rows
def cntD (ns:List Int):Nat:=(firstMet (fun i=>ns.getD i 0) ns.length).length
def oX (te:TE):TE:=fun σ H Q=>te σ H fun x H1=>∃ p ns,x=.ref p∧H1 p=some (.lst (ns.map V.int))∧ns.length≤900∧Q (.int (cntD ns:Nat)) H1
theorem jm {te:TE} {σ:St} {H:Hp} {Q:VK}:oX te σ H Q=te σ H fun x H1=>∃ p ns,x=.ref p∧H1 p=some (.lst (ns.map V.int))∧ns.length≤900∧Q (.int (cntD ns:Nat)) H1:=rfl
theorem wQ:bootBuiltins "set"=some (.type "set"):=by decide+kernel
theorem vb {X:Cx} {e:Expr} {te:TE} {p p2 pos pos2:Pos} (hc:X.calm=true) (hgl:Gl X "len") (hgs:Gl X "set") (hl:X.mg "len"=none) (hs:X.mg "set"=none) (he:PE X e te)
  (hs1:starEach [.Call (.Name "set" p2) [e] [] pos2] X.env=[(false,eval (.Call (.Name "set" p2) [e] [] pos2) X.env)]:=by rfl) (hs2:starEach [e] X.env=[(false,eval e X.env)]:=by rfl):
  PE X (.Call (.Name "len" p) [.Call (.Name "set" p2) [e] [] pos2] [] pos) (oX te):=by
 intro pins s σ H Q I h
 refine wpAny_Call_Name_kw (eE I hgl hl aX ?_ (by decide) (by decide))
 refine PyProof.Rows.callWith_builtin1 ?_ hs1 rfl
 rw [hs1]
 show wpAny _ _ (spliced [(false,eval (.Call (.Name "set" p2) [e] [] pos2) X.env)]) _ _ s
 refine Calls.spliced_cons ?_
 refine wpAny_Call_Name_kw (eE I hgs hs wQ ?_ (by decide) (by decide))
 refine PyProof.Rows.callWith_type1 ?_ hs2 rfl
 rw [hs2]
 show wpAny _ _ (spliced [(false,eval e X.env)]) _ _ s
 refine Calls.spliced_cons (thn (he pins s σ H _ I h) fun u s1 ⟨x,H1,I1,r1,q1⟩=>?_)
 refine Calls.spliced_nil ?_
 obtain ⟨l,ns,rfl,hys,hn,q⟩:=q1
 cases r1
 obtain ⟨its,n,rv,ho,hz⟩:=I1.lst hys
 have hL:s1.heap.IsList l its.toArray:=⟨_,ho,rfl,n,rfl⟩
 have hI:IntsAre its ns:=nr rv
 have hlen:=rv.length
 rw [List.length_map] at hlen
 refine call_set_list (ns:=ns) (I.ok.hd hc) hL (by simpa using hI) (by rw [List.size_toArray,← hlen]; exact Nat.lt_of_le_of_lt (Nat.succ_le_succ hn) (by decide)) fun h' tk hS old=>?_
 refine Calls.spliced_nil ?_
 obtain ⟨o,es,ep,t,h1,h2,h3,h4,h5,h6,h7,h8⟩:=hS
 have hb:(firstMet (fun i=>ns.getD i 0) its.toArray.size).length≤900:=Nat.le_trans (firstMet_length_le _ _) (by rw [List.size_toArray,← hlen]; exact hn)
 refine call_len_set h1 h2 h3 h7 (by omega) ?_
 have I2:Inv X pins σ H1 { s1 with heap:=h',toks:=tk }:=I1.kept fun b o' e=>old b o' (Heap.lt_size e) e
 refine ⟨.int _,H1,I2.tok _,⟨_,rfl⟩,?_⟩
 rw [h8,List.size_toArray,← hlen]
 exact q
end L2
namespace L2
open PySem PySem.Spec PyProof.Rows
section
variable {X:Cx} {e:Expr} {te:TE} {p2 p3 p4 pos:Pos} {z0:Nat}
def tRevL (te:TE):TE:=fun σ H Q=>te σ H fun x H1=>∃ p xs,x=.ref p∧H1 p=some (.lst xs)∧∀ l,H1 l=none→Q (.ref l) (upd H1 l (.lst xs.reverse))
end
section
variable {σ:St} {H:Hp} {Q:VK} {te:TE}
theorem nM {i j:Int} {H:Hp} {Q:VK}:kMax [.int i,.int j] H Q=Q (.int (if j > i then j else i)) H:=rfl
theorem lj:tRevL te σ H Q=te σ H fun x H1=>∃ p xs,x=.ref p∧H1 p=some (.lst xs)∧∀ l,H1 l=none→Q (.ref l) (upd H1 l (.lst xs.reverse)):=rfl
end
end L2
namespace L2
open PySem PySem.Spec PyProof.Rows
theorem tz:typeLookup (.type "str") (Str.ofString "__int__")=pure none:=by rw [typeLookup_type,builtinLookup_eq_fast]; kernel_rfl
theorem qA:typeLookup (.type "str") (Str.ofString "__index__")=pure none:=by rw [typeLookup_type,builtinLookup_eq_fast]; kernel_rfl
theorem qB:typeLookup (.type "str") (Str.ofString "__trunc__")=pure none:=by rw [typeLookup_type,builtinLookup_eq_fast]; kernel_rfl
def numC (n:Nat):List Nat:=if n < 10 then [48+n] else [48+n / 10,48+n % 10]
theorem vc {n:Nat} (h:n < 100):((tx (numC n)).cps.all fun x=>decide (x < 128))=true:=by
 have t:((List.range 100).all fun n=>(tx (numC n)).cps.all fun x=>decide (x < 128))=true:=by decide+kernel
 exact List.all_eq_true.mp t n (List.mem_range.mpr h)
theorem vd {α:Type} {M:Model} {A:Around} {E:Value→Shared→Prop} {s:Shared} {Q:α→Shared→Prop} {m m':Sem α} (e:m=m') (h:wpAny M A m' Q E s):wpAny M A m Q E s:=e ▸ h
set_option maxHeartbeats 4000000 in
theorem gis (n:Nat) (hn:n < 100) (u:Tok):Gives (Builtin.«int.__new__» ⟨[.type "int",.str (tx (numC n)) u],[]⟩) (.int n):=
 .of_wp fun M A E s Q h=>by
  obtain ⟨hp,g,d,tk,os⟩:=s
  have f1:=PySem.F.conv_sub_int
  have f2:=PySem.F.madeHere_int
  have f3:=tz
  have f4:=qA
  have f5:=qB
  iterate 44 (any_goals (first | assumption | wp_step))
  refine wpAny_bind (wpAny_of_eq (a:=some (tx (numC n))) rfl ?_)
  refine wpAny_of_eq (a:=some (numC n)) ?e1 ?_
  case e1=>
   show (pure (some (if ((tx (numC n)).cps.all fun x=>decide (x < 128))=true then (tx (numC n)).cps.toList else _)):Sem _)=_
   rw [if_pos (vc hn),nF]
  refine vd (m':=mkInt (n:Int)) ?e2 ?_
  case e2=>
   clear h f1 f2 f3 f4 f5
   match n,hn with | 0,_=>kernel_rfl | 1,_=>kernel_rfl | 2,_=>kernel_rfl | 3,_=>kernel_rfl | 4,_=>kernel_rfl | 5,_=>kernel_rfl | 6,_=>kernel_rfl | 7,_=>kernel_rfl | 8,_=>kernel_rfl | 9,_=>kernel_rfl | 10,_=>kernel_rfl | 11,_=>kernel_rfl | 12,_=>kernel_rfl | 13,_=>kernel_rfl | 14,_=>kernel_rfl | 15,_=>kernel_rfl | 16,_=>kernel_rfl | 17,_=>kernel_rfl | 18,_=>kernel_rfl | 19,_=>kernel_rfl | 20,_=>kernel_rfl | 21,_=>kernel_rfl | 22,_=>kernel_rfl | 23,_=>kernel_rfl | 24,_=>kernel_rfl | 25,_=>kernel_rfl | 26,_=>kernel_rfl | 27,_=>kernel_rfl | 28,_=>kernel_rfl | 29,_=>kernel_rfl | 30,_=>kernel_rfl | 31,_=>kernel_rfl | 32,_=>kernel_rfl | 33,_=>kernel_rfl | 34,_=>kernel_rfl | 35,_=>kernel_rfl | 36,_=>kernel_rfl | 37,_=>kernel_rfl | 38,_=>kernel_rfl | 39,_=>kernel_rfl | 40,_=>kernel_rfl | 41,_=>kernel_rfl | 42,_=>kernel_rfl | 43,_=>kernel_rfl | 44,_=>kernel_rfl | 45,_=>kernel_rfl | 46,_=>kernel_rfl | 47,_=>kernel_rfl | 48,_=>kernel_rfl | 49,_=>kernel_rfl | 50,_=>kernel_rfl | 51,_=>kernel_rfl | 52,_=>kernel_rfl | 53,_=>kernel_rfl | 54,_=>kernel_rfl | 55,_=>kernel_rfl | 56,_=>kernel_rfl | 57,_=>kernel_rfl | 58,_=>kernel_rfl | 59,_=>kernel_rfl | 60,_=>kernel_rfl | 61,_=>kernel_rfl | 62,_=>kernel_rfl | 63,_=>kernel_rfl | 64,_=>kernel_rfl | 65,_=>kernel_rfl | 66,_=>kernel_rfl | 67,_=>kernel_rfl | 68,_=>kernel_rfl | 69,_=>kernel_rfl | 70,_=>kernel_rfl | 71,_=>kernel_rfl | 72,_=>kernel_rfl | 73,_=>kernel_rfl | 74,_=>kernel_rfl | 75,_=>kernel_rfl | 76,_=>kernel_rfl | 77,_=>kernel_rfl | 78,_=>kernel_rfl | 79,_=>kernel_rfl | 80,_=>kernel_rfl | 81,_=>kernel_rfl | 82,_=>kernel_rfl | 83,_=>kernel_rfl | 84,_=>kernel_rfl | 85,_=>kernel_rfl | 86,_=>kernel_rfl | 87,_=>kernel_rfl | 88,_=>kernel_rfl | 89,_=>kernel_rfl | 90,_=>kernel_rfl | 91,_=>kernel_rfl | 92,_=>kernel_rfl | 93,_=>kernel_rfl | 94,_=>kernel_rfl | 95,_=>kernel_rfl | 96,_=>kernel_rfl | 97,_=>kernel_rfl | 98,_=>kernel_rfl | 99,_=>kernel_rfl | (m+100),hm=>exact absurd hm (by omega)
  repeat (any_goals (first | assumption | wp_step))
  all_goals first | exact ⟨_,rfl,h⟩ | skip
def l6:List V→Hp→VK→Prop
 | [.int i],H,Q=>Q (.int i) H
 | [.bl k],H,Q=>Q (.int (if k then 1 else 0)) H
 | [.str z],H,Q=>∃ n:Nat,n < 100∧z=tx (numC n)∧Q (.int n) H
 | _,_,_=>False
theorem tD {X:Cx}:CallR X (.type "int") l6:=by
 intro pins s σ H xs us Q I r h
 unfold l6 at h
 split at h
 · exact ph pins s σ H _ us Q I r (.inl ⟨_,rfl,h⟩)
 · exact ph pins s σ H _ us Q I r (.inr ⟨_,rfl,h⟩)
 · obtain ⟨n,hn,rfl,q⟩:=h
   obtain ⟨u,rfl,ru⟩:=fF r
   obtain ⟨t,rfl⟩:=ru
   exact call_int_1 (gis n hn t).meets (show (Made.int (n:Int)).post _ s from ⟨rfl,⟨.int n,H,I.tok _,⟨_,rfl⟩,q⟩⟩)
 · exact h.elim
theorem kd {k:Bool} {H:Hp} {Q:VK}:l6 [.bl k] H Q=Q (.int (if k then 1 else 0)) H:=rfl
theorem ke {i:Int} {H:Hp} {Q:VK}:l6 [.int i] H Q=Q (.int i) H:=rfl
theorem wR {n:Nat} (h:n < 100):Str.ofString (toString (n:Int))=tx (numC n):=by
 have t:((List.range 100).all fun (n:Nat)=>decide (Str.ofString (toString (n:Int))=tx (numC n)))=true:=by decide+kernel
 simpa using List.all_eq_true.mp t n (List.mem_range.mpr h)
theorem mO {n:Nat} (h:n < 100):32∉numC n:=by
 have t:((List.range 100).all fun (n:Nat)=>decide (32∉numC n))=true:=by decide+kernel
 simpa using List.all_eq_true.mp t n (List.mem_range.mpr h)
theorem xY {n:Nat} (h:n < 100):numC n≠[]:=by unfold numC; split <;> simp
theorem oY {n:Nat}:(numC n).length≤2:=by unfold numC; split <;> simp
theorem vY {n:Nat} (h:n < 100):((numC n).head? =some 48→n=0)∧numC 0=[48]:=by
 have t:((List.range 100).all fun (n:Nat)=>decide ((numC n).head? =some 48→n=0))=true:=by decide+kernel
 exact ⟨of_decide_eq_true (List.all_eq_true.mp t n (List.mem_range.mpr h)),rfl⟩
theorem sF {n:Nat} (h:n < 100):∀ c∈numC n,48≤c∧c≤57:=by
 have t:((List.range 100).all fun (n:Nat)=>(numC n).all fun c=>decide (48≤c∧c≤57))=true:=by decide+kernel
 intro c hc
 simpa using List.all_eq_true.mp (List.all_eq_true.mp t n (List.mem_range.mpr h)) c hc
end L2
namespace L2
open PySem PySem.Spec PyProof.Rows
local macro_rules | `(tactic| walk_at "w")=>`(tactic| (first | simp only [aR,eF,eV,bK,hE,w_c,kl,fH,fI,eI,fJ,w_b,w_not,io,km,fK,fM,ip,hJ,eJ,kn,fN,iq,iu,jN,iw,fO,fP,fQ,fR,d7,d8,cL,cW,cX,cr,iy,iz,iA,iC,iD,iE,iF,iG,iH,iI,iJ,iK,kq,fS,cY,fT,kr,fU,d9,cZ,iL,iO,fV,fW,fX,
 List.getElem?_cons_zero,List.getElem?_cons_succ,Option.some.injEq,exists_eq_left',exists_eq_left,List.set_cons_zero,List.set_cons_succ,cA,V.int.injEq,V.bl.injEq,V.ref.injEq,V.str.injEq,List.append_nil,List.nil_append,List.cons_append] | dsimp only | skip))
def aP (K:PySem.W.Frag):Sp:=fun vs H Q _=>∃ (a:Addr) (h w g:Int),vs=[.ref a]∧IsFl H a h w g∧1≤h∧h≤6∧Q (.int (h*w)) H
theorem pL {K:PySem.W.Frag} {vs:List V} {H:Hp} {Q:VK} {E:XK} (h:aP K vs H Q E):vs.length=1:=by
 obtain ⟨_,_,_,_,rfl,_⟩:=h; rfl
def eW (K:PySem.W.Frag):TS:=
 (tRet (tOp cMul (tOp cIx (tVar 0) (tC (.int 0))) (tOp cIx (tVar 0) (tC (.int 1)))))
theorem pM {K:PySem.W.Frag} {vs:List V} {H:Hp} {Q:VK} {E:XK} (h:aP K vs H Q E):eW K { nx:=fun _ H'=>Q .non H',rt:=Q } (start ["floor"] vs) H:=by
 obtain ⟨a,h,w,g,rfl,ha,h0,h1,q⟩:=h
 show eW K _ [some (.ref a)] H
 unfold eW
 walk_at "w"
 rw [fg ha]
 refine a7 (a:=V.int h) rfl ?_
 walk_at "w"
 rw [fg ha]
 refine a7 (a:=V.int w) rfl ?_
 walk_at "w"
 exact ⟨dS h0 h1,q⟩
def cornB (h w c:Int):Bool:=decide (c / w < h - 1)&&decide (c % w < w - 1)
def cN (K:PySem.W.Frag):Sp:=fun vs H Q _=>∃ (a:Addr) (h w g c:Int),vs=[.ref a,.int c]∧IsFl H a h w g∧0 < w∧w < 100∧∀ H',Same H H'→Q (.bl (cornB h w c)) H'
theorem qC {K:PySem.W.Frag} {vs:List V} {H:Hp} {Q:VK} {E:XK} (h:cN K vs H Q E):vs.length=2:=by
 obtain ⟨_,_,_,_,_,rfl,_⟩:=h; rfl
def ga (K:PySem.W.Frag):TS:=
 (tSeq (tAsg (tCall (cu K) [] E0 (tCons (tVar 0) (tCons (tVar 1) tNil))) (gName 2))
  (tRet (tAndV (tOp (cCmp fun i j=>decide (i < j)) (tOp cIx (tVar 2) (tC (.int 0))) (tOp cSub (tOp cIx (tVar 0) (tC (.int 0))) (tC (.int 1)))) (tOp (cCmp fun i j=>decide (i < j)) (tOp cIx (tVar 2) (tC (.int 1))) (tOp cSub (tOp cIx (tVar 0) (tC (.int 1))) (tC (.int 1)))))))
theorem qD {K:PySem.W.Frag} {vs:List V} {H:Hp} {Q:VK} {E:XK} (h:cN K vs H Q E):ga K { nx:=fun _ H'=>Q .non H',rt:=Q } (start ["floor","cell","spot"] vs) H:=by
 obtain ⟨a,h,w,g,c,rfl,ha,w0,w1,k⟩:=h
 show ga K _ [some (.ref a),some (.int c),none] H
 unfold ga
 walk_at "w"
 refine ⟨a,h,w,g,c,rfl,ha,w0,w1,fun p hp=>?_⟩
 have s1:Same H (upd H p (.tup [.int (c / w),.int (c % w)])):=(Same.refl H).laid hp
 have k1:=k _ s1
 have ha1:=s1 _ _ ha
 have hp1:(upd H p (.tup [.int (c / w),.int (c % w)])) p=some (.tup [.int (c / w),.int (c % w)]):=ag
 generalize upd H p (.tup [.int (c / w),.int (c % w)])=H1 at*
 walk_at "w"
 rw [fg hp1]
 refine a7 (a:=V.int (c / w)) rfl ?_
 walk_at "w"
 rw [fg ha1]
 refine a7 (a:=V.int h) rfl ?_
 walk_at "w"
 unfold cornB at k1
 cases hb:decide (c / w < h - 1) with
 | false=>
  rw [hb,Bool.false_and] at k1
  exact iteF k1
 | true=>
  rw [hb,Bool.true_and] at k1
  refine iteT ?_
  rw [fg hp1]
  refine a7 (a:=V.int (c % w)) rfl ?_
  walk_at "w"
  rw [fg ha1]
  refine a7 (a:=V.int w) rfl ?_
  walk_at "w"
  exact k1
def sqL (w c:Int):List Int:=[c,c+1,c+w,c+w+1]
def cO (K:PySem.W.Frag):Sp:=fun vs H Q _=>∃ (a:Addr) (h w g c:Int),vs=[.ref a,.int c]∧IsFl H a h w g∧∀ p,H p=none→Q (.ref p) (upd H p (.lst ((sqL w c).map V.int)))
theorem qE {K:PySem.W.Frag} {vs:List V} {H:Hp} {Q:VK} {E:XK} (h:cO K vs H Q E):vs.length=2:=by
 obtain ⟨_,_,_,_,_,rfl,_⟩:=h; rfl
def gb (K:PySem.W.Frag):TS:=
 (tSeq (tAsg (tOp cAdd (tVar 1) (tOp cIx (tVar 0) (tC (.int 1)))) (gName 2))
  (tRet (tLst (tCons (tVar 1) (tCons (tOp cAdd (tVar 1) (tC (.int 1))) (tCons (tVar 2) (tCons (tOp cAdd (tVar 2) (tC (.int 1))) tNil)))))))
theorem qF {K:PySem.W.Frag} {vs:List V} {H:Hp} {Q:VK} {E:XK} (h:cO K vs H Q E):gb K { nx:=fun _ H'=>Q .non H',rt:=Q } (start ["floor","corner","below"] vs) H:=by
 obtain ⟨a,h,w,g,c,rfl,ha,k⟩:=h
 show gb K _ [some (.ref a),some (.int c),none] H
 unfold gb
 walk_at "w"
 rw [fg ha]
 refine a7 (a:=V.int w) rfl ?_
 walk_at "w"
 exact ⟨aF (by show (4:Nat)≤1000; decide),k⟩
def squL (h w:Int):List (List Int):=((List.range (h*w).toNat).filter fun (i:Nat)=>cornB h w i).map fun (i:Nat)=>sqL w i
def ed (K:PySem.W.Frag):Sp:=fun vs H Q _=>∃ (a:Addr) (h w g:Int),vs=[.ref a]∧IsFl H a h w g∧FlOk h w g∧
 ∀ l as H',Same H H'→H l=none→IsLL H' l as (squL h w)→as.Nodup→l∉as→(∀ a∈as,H a=none)→Q (.ref l) H'
theorem tE {K:PySem.W.Frag} {vs:List V} {H:Hp} {Q:VK} {E:XK} (h:ed K vs H Q E):vs.length=1:=by
 obtain ⟨_,_,_,_,rfl,_⟩:=h; rfl
def iR (K:PySem.W.Frag):TS:=
 (tRet (tComp [none,none,some 0] (cD (tCons (tCall (aP K) [] E0 (tCons (tVar 0) tNil)) tNil)) (gName 1) (tB (tCall (cN K) [] E0 (tCons (tVar 2) (tCons (tVar 1) tNil)))) (tCall (cO K) [] E0 (tCons (tVar 2) (tCons (tVar 1) tNil)))))
theorem NewAt.ll {H1 H:Hp} {l:Addr} {as:List Addr} {xss:List (List Int)} (x:NewAt H1 H l as (xss.map fun xs=>.lst (xs.map V.int))) (e:H l=some (.lst (as.map V.ref))):IsLL H l as xss:=
 ⟨e,by rw [x.len,List.length_map],fun j a xs h1 h2=>x.at_ j a _ h1 (by rw [List.getElem?_map,h2]; rfl)⟩
theorem tF {K:PySem.W.Frag} {vs:List V} {H:Hp} {Q:VK} {E:XK} (h:ed K vs H Q E):iR K { nx:=fun _ H'=>Q .non H',rt:=Q } (start ["floor"] vs) H:=by
 obtain ⟨a,h,w,g,rfl,ha,F,k⟩:=h
 obtain ⟨h0,h1,w0,w1,m16,g0,g1⟩:=F
 have mpos:0≤h*w:=Int.mul_nonneg (by omega) (by omega)
 show iR K _ [some (.ref a)] H
 unfold iR
 walk_at "w"
 refine ⟨a,h,w,g,rfl,ha,h0,h1,?_⟩
 walk_at "w"
 refine ⟨h*w,rfl,by omega,by omega,?_⟩
 refine rP (fun (i:Nat)=>cornB h w i) (fun (i:Nat)=>.lst ((sqL w i).map V.int)) (by omega) ?_ ?_ ?_
 · intro i H1 R hi s1 k1
   show tB _ [none,some (.int (0+(i:Int))),some (.ref a)] H1 R
   walk_at "w"
   rw [Int.zero_add]
   exact ⟨a,h,w,g,_,rfl,s1 _ _ ha,by omega,by omega,fun H2 s2=>⟨_,rfl,k1 H2 s2⟩⟩
 · intro i H1 Q1 hi hb s1 k1
   show tCall _ _ _ _ [none,some (.int (0+(i:Int))),some (.ref a)] H1 Q1
   walk_at "w"
   rw [Int.zero_add]
   exact ⟨a,h,w,g,_,rfl,s1 _ _ ha,fun p hp=>k1 p _ ((Same.refl H1).laid hp) hp ag⟩
 · intro l as H2 hl s2 el x
   have x':NewAt H H2 l as ((squL h w).map fun xs=>.lst (xs.map V.int)):=by
    unfold squL
    rw [List.map_map]
    exact x
   exact k l as H2 s2 hl (x'.ll el) x.nd x.nl x.fr
end L2
namespace L2
open PySem PySem.Spec PyProof.Rows
local macro_rules | `(tactic| walk_at "w")=>`(tactic| (first | simp only [aR,li,nL,jm,lj,kd,ke,nM,nI,lh,nJ,if_true,if_false,Bool.false_eq_true,decide_true,decide_false,jc,jd,l5,gG,fv,ja,j9,jb,gF,j7,j8,gE,lY,gH,gI,gK,gL,gM,gN,gJ,ka,kb,kc,j6,l4,Bool.not_true,Bool.not_false,eF,eV,bK,hE,w_c,kl,fH,fI,eI,fJ,w_b,w_not,io,km,fK,fM,ip,hJ,eJ,kn,fN,iq,iu,jN,iw,fO,fP,fQ,fR,d7,d8,cL,cW,cX,cr,iy,iz,iA,iC,iD,iE,iF,iG,iH,iI,iJ,iK,kq,fS,cY,fT,kr,fU,d9,cZ,iL,iO,fV,fW,fX,
 List.getElem?_cons_zero,List.getElem?_cons_succ,Option.some.injEq,exists_eq_left',exists_eq_left,List.set_cons_zero,List.set_cons_succ,cA,V.int.injEq,V.bl.injEq,V.ref.injEq,V.str.injEq,List.append_nil,List.nil_append,List.cons_append] | dsimp only | skip))
def nmC:RK→List Nat
 | .Rule=>[]
 | .Unlike=>[117,110,108,105,107,101]
 | .Sum=>[115,117,109]
 | .Rising=>[114,105,115,105,110,103]
 | .Seen=>[115,101,101,110]
 | .Count=>[99,111,117,110,116]
 | .Joined=>[106,111,105,110,101,100]
 | .NoSquare=>[110,111,115,113,117,97,114,101]
 | .Ring=>[114,105,110,103]
def ee:List Str:=[tx [115,117,109],tx [115,101,101,110],tx [99,111,117,110,116]]
def dW:List Str:=[tx [99,111,117,110,116],tx [106,111,105,110,101,100],tx [110,111,115,113,117,97,114,101],tx [114,105,110,103]]
def dw:List Str:=[tx [106,111,105,110,101,100],tx [110,111,115,113,117,97,114,101],tx [114,105,110,103]]
def rFs (p W C:Addr) (n m:Int):List (Str × V):=[("floor",.ref p),("words",.ref W),("cells",.ref C),("amount",.int n),("mark",.int m)]
structure IsRule (H:Hp) (c:RCl RK) (k:RK) (r p:Addr) (ws:List (List Nat)) (cs:List Int) (n m:Int):Prop where
 ok:c.ok k=true
 ex:∃ dx W C,H r=some (.ins (c.A k) dx (rFs p W C n m))∧H W=some (.tup ((ws.map tx).map V.str))∧H C=some (.tup (cs.map V.int))
theorem IsRule.same {H H':Hp} {c:RCl RK} {k:RK} {r p:Addr} {ws:List (List Nat)} {cs:List Int} {n m:Int} (x:IsRule H c k r p ws cs n m) (s:Same H H'):IsRule H' c k r p ws cs n m:=by
 obtain ⟨dx,W,C,h1,h2,h3⟩:=x.ex
 exact ⟨x.ok,dx,W,C,s _ _ h1,s _ _ h2,s _ _ h3⟩
section
variable {ι:Type} {c:RCl ι} {σ:St} {H:Hp} {Q:VK} {i:Nat} {r dx:Addr} {k:ι} {fs:List (Str × V)} {f m:Str} {v:V} {okm:ι→Bool} {sp:ι→Sp} {t:TA} {D:Ends} {tv:TE} {y:V} {H1:Hp}
theorem fldE (hσ:σ[i]? =some (some (.ref r))) (ok:c.ok k=true) (hr:H r=some (.ins (c.A k) dx fs)) (hl:fs.lookup f=some v) (q:Q v H):tFldK c (tVar i) f σ H Q:=⟨_,hσ,r,k,dx,fs,v,rfl,ok,hr,hl,q⟩
theorem methE (hσ:σ[i]? =some (some (.ref r))) (ok:okm k=true) (hr:H r=some (.ins (c.A k) dx fs)) (hl:fs.lookup m=none) (q:t σ H fun vs H2=>sp k (.ref r::vs) H2 Q E0):cM c okm m sp (tVar i) t σ H Q:=⟨_,hσ,r,k,dx,fs,rfl,ok,hr,hl,q⟩
theorem sfldV {j:Nat} {x:V} (hj:σ[j]? =some (some x)) (hσ:σ[i]? =some (some (.ref r))) (ok:c.ok k=true) (hr:H r=some (.ins (c.A k) dx fs)) (hn:fs.length < 1000) (q:D.nx σ (upd H r (.ins (c.A k) dx (putF f x fs)))):sFldK c (tVar i) (tVar j) f D σ H:=
 ⟨x,hj,_,hσ,r,k,dx,fs,rfl,ok,hr,hn,q⟩
theorem sfldT {K:PySem.W.Frag} {j:Nat} {p:Addr} {xs:List V} (hj:σ[j]? =some (some (.ref p))) (hp:H p=some (.lst xs)) (hσ:σ[i]? =some (some (.ref r))) (ok:c.ok k=true) (hr:H r=some (.ins (c.A k) dx fs)) (hn:fs.length < 1000)
  (q:∀ l,H l=none→D.nx σ (upd (upd H l (.tup xs)) r (.ins (c.A k) dx (putF f (.ref l) fs)))):sFldK c (tVar i) (tCB (jl K) (tCons (tVar j) tNil)) f D σ H:=by
 unfold sFldK
 walk_at "w"
 refine ⟨_,hj,wP hp fun l hl=>?_⟩
 exact ⟨_,hσ,r,k,dx,fs,rfl,ok,by rw [aj (aA hr hl)]; exact hr,hn,q l hl⟩
end
theorem wS {H:Hp} {Q:VK} {p:Addr} {xs:List V} (hp:H p=some (.tup xs)) (h:∀ l,H l=none→Q (.ref l) (upd H l (.lst xs))):kList [.ref p] H Q:=by
 unfold kList
 dsimp only
 rw [hp]
 exact h
def l7 (K:PySem.W.Frag) (c:RCl RK) (k:RK):Sp:=fun vs H Q _=>∃ (r p:Addr) (w:List Nat) (ws:List (List Nat)) (cs:List Int) (n m:Int),vs=[.ref r]∧IsRule H c k r p (w::ws) cs n m∧Q (.str (tx w)) H
def gP (K:PySem.W.Frag) (c:RCl RK) (k:RK):Sp:=fun vs H Q _=>∃ (r p:Addr) (ws:List (List Nat)) (cs:List Int) (n m:Int),vs=[.ref r]∧IsRule H c k r p ws cs n m∧∀ l,H l=none→Q (.ref l) (upd H l (.lst (cs.map V.int)))
def fz (K:PySem.W.Frag) (c:RCl RK) (k:RK):Sp:=fun vs H Q _=>∃ (r p:Addr) (ws:List (List Nat)) (cs:List Int) (n m:Int),vs=[.ref r]∧IsRule H c k r p ws cs n m∧Q (.int m) H
def sgAt (xs cs:List Int):List Int:=cs.map fun c=>xs.getD c.toNat 0
def fA (cs:List Int) (n:Nat):Prop:=cs.length≤63∧∀ c∈cs,0≤c∧c < n
def ar (K:PySem.W.Frag) (c:RCl RK):Sp:=fun vs H Q _=>∃ (k:RK) (x dx p W C:Addr) (ws:List (List Nat)) (cs:List Int) (n m:Int),vs=[.ref x,.ref p,.ref W,.ref C,.int n,.int m]∧c.ok k=true∧H x=some (.ins (c.A k) dx [])∧W≠x∧C≠x∧
 H W=some (.lst ((ws.map tx).map V.str))∧H C=some (.lst (cs.map V.int))∧∀ H',(∀ b o,b≠x→H b=some o→H' b=some o)→IsRule H' c k x p ws cs n m→Q .non H'
theorem mP {K:PySem.W.Frag} {c:RCl RK} {vs:List V} {H:Hp} {Q:VK} {E:XK} (h:ar K c vs H Q E):vs.length=6:=by
 obtain ⟨_,_,_,_,_,_,_,_,_,_,rfl,_⟩:=h; rfl
def c5 (K:PySem.W.Frag) (c:RCl RK):TS:=
 (tSeq (sFldK c (tVar 0) (tVar 1) "floor")
  (tSeq (sFldK c (tVar 0) (tCB (jl K) (tCons (tVar 2) tNil)) "words")
  (tSeq (sFldK c (tVar 0) (tCB (jl K) (tCons (tVar 3) tNil)) "cells")
  (tSeq (sFldK c (tVar 0) (tVar 4) "amount")
  (sFldK c (tVar 0) (tVar 5) "mark")))))
theorem mQ {K:PySem.W.Frag} {c:RCl RK} {vs:List V} {H:Hp} {Q:VK} {E:XK} (h:ar K c vs H Q E):c5 K c { nx:=fun _ H'=>Q .non H',rt:=Q } (start ["self","floor","words","cells","amount","mark"] vs) H:=by
 obtain ⟨k,x,dx,p,W,C,ws,cs,n,m,rfl,ok,hx,nW,nC,hW,hC,q⟩:=h
 show c5 K c _ [some (.ref x),some (.ref p),some (.ref W),some (.ref C),some (.int n),some (.int m)] H
 unfold c5
 walk_at "w"
 refine sfldV (k:=k) (j:=1) rfl rfl ok hx (by decide) ?_
 walk_at "w"
 refine sfldT (k:=k) (j:=2) (p:=W) rfl (by rw [aj nW]; exact hW) rfl ok ag (by show (1:Nat) < 1000; decide) fun l1 h1=>?_
 have n1:l1≠x:=fun e=>by rw [e,ag] at h1; cases h1
 have g1:H l1=none:=by rw [aj n1] at h1; exact h1
 walk_at "w"
 refine sfldT (k:=k) (j:=3) (p:=C) rfl (by rw [aj nC,aj (aA hC g1),aj nC]; exact hC) rfl ok ag (by show (2:Nat) < 1000; decide) fun l2 h2=>?_
 have n2:l2≠x:=fun e=>by rw [e,ag] at h2; cases h2
 have n21:l2≠l1:=fun e=>by rw [e,aj n1,ag] at h2; cases h2
 have g2:H l2=none:=by rw [aj n2,aj n21,aj n2] at h2; exact h2
 walk_at "w"
 refine sfldV (k:=k) (j:=4) rfl rfl ok ag (by show (3:Nat) < 1000; decide) ?_
 refine sfldV (k:=k) (j:=5) rfl rfl ok ag (by show (4:Nat) < 1000; decide) ?_
 refine q _ (fun b o hb e=>?_) ⟨ok,dx,l1,l2,by rw [ag]; rfl,?_,?_⟩
 · rw [aj hb,aj hb,aj hb,aj (aA e g2),aj hb,aj (aA e g1),aj hb]
   exact e
 · rw [aj n1,aj n1,aj n1,aj n21.symm,aj n1,ag]
 · rw [aj n2,aj n2,aj n2,ag]
def gc (K:PySem.W.Frag) (c:RCl RK):Sp:=fun vs H Q E=>∃ k,l7 K c k vs H Q E
theorem qG {K:PySem.W.Frag} {c:RCl RK} {vs:List V} {H:Hp} {Q:VK} {E:XK} (h:gc K c vs H Q E):vs.length=1:=by
 obtain ⟨_,_,_,_,_,_,_,_,rfl,_⟩:=h; rfl
def gd (K:PySem.W.Frag) (c:RCl RK):TS:=
 (tRet (tOp cIx (tFldK c (tVar 0) "words") (tC (.int 0))))
theorem qH {K:PySem.W.Frag} {c:RCl RK} {vs:List V} {H:Hp} {Q:VK} {E:XK} (h:gc K c vs H Q E):gd K c { nx:=fun _ H'=>Q .non H',rt:=Q } (start ["self"] vs) H:=by
 obtain ⟨k,r,p,w,ws,cs,n,m,rfl,x,q⟩:=h
 obtain ⟨dx,W,C,h1,h2,h3⟩:=x.ex
 show gd K c _ [some (.ref r)] H
 unfold gd
 walk_at "w"
 refine fldE rfl x.ok h1 (v:=.ref W) (by rfl) ?_
 walk_at "w"
 have e0:atI (((w::ws).map tx).map V.str) 0=some (V.str (tx w)):=gB (j:=0) rfl
 exact ixT h2 e0 q
def eX (K:PySem.W.Frag) (c:RCl RK):Sp:=fun vs H Q E=>∃ k,gP K c k vs H Q E
theorem pN {K:PySem.W.Frag} {c:RCl RK} {vs:List V} {H:Hp} {Q:VK} {E:XK} (h:eX K c vs H Q E):vs.length=1:=by
 obtain ⟨_,_,_,_,_,_,_,rfl,_⟩:=h; rfl
def e7 (K:PySem.W.Frag) (c:RCl RK):TS:=
 (tRet (tCB kList (tCons (tFldK c (tVar 0) "cells") tNil)))
theorem pO {K:PySem.W.Frag} {c:RCl RK} {vs:List V} {H:Hp} {Q:VK} {E:XK} (h:eX K c vs H Q E):e7 K c { nx:=fun _ H'=>Q .non H',rt:=Q } (start ["self"] vs) H:=by
 obtain ⟨k,r,p,ws,cs,n,m,rfl,x,q⟩:=h
 obtain ⟨dx,W,C,h1,h2,h3⟩:=x.ex
 show e7 K c _ [some (.ref r)] H
 unfold e7
 walk_at "w"
 refine fldE rfl x.ok h1 (v:=.ref C) (by rfl) ?_
 walk_at "w"
 exact wS h3 q
def ge (K:PySem.W.Frag) (c:RCl RK):Sp:=fun vs H Q E=>∃ k,fz K c k vs H Q E
theorem qI {K:PySem.W.Frag} {c:RCl RK} {vs:List V} {H:Hp} {Q:VK} {E:XK} (h:ge K c vs H Q E):vs.length=1:=by
 obtain ⟨_,_,_,_,_,_,_,rfl,_⟩:=h; rfl
def gf (K:PySem.W.Frag) (c:RCl RK):TS:=
 (tRet (tFldK c (tVar 0) "mark"))
theorem qJ {K:PySem.W.Frag} {c:RCl RK} {vs:List V} {H:Hp} {Q:VK} {E:XK} (h:ge K c vs H Q E):gf K c { nx:=fun _ H'=>Q .non H',rt:=Q } (start ["self"] vs) H:=by
 obtain ⟨k,r,p,ws,cs,n,m,rfl,x,q⟩:=h
 obtain ⟨dx,W,C,h1,h2,h3⟩:=x.ex
 show gf K c _ [some (.ref r)] H
 unfold gf
 walk_at "w"
 exact fldE rfl x.ok h1 (v:=.int m) (by rfl) q
def cP (K:PySem.W.Frag):Sp:=fun vs H Q _=>∃ n:Nat,vs=[.str (tx (numC n))]∧n < 100∧∀ H',Same H H'→Q (.int n) H'
theorem qK {K:PySem.W.Frag} {vs:List V} {H:Hp} {Q:VK} {E:XK} (h:cP K vs H Q E):vs.length=1:=by
 obtain ⟨_,rfl,_⟩:=h; rfl
def gg (K:PySem.W.Frag):TS:=
 (tSeq (tIfS (tOr (tTest (tOp (cEq K) (tVar 0) (tC (.str (tx []))))) (tOr (tTest (tOp (cCmp fun i j=>decide (j < i)) (tCB kLen (tCons (tVar 0) tNil)) (tC (.int 9)))) (tAnd (tTest (tOp (cEq K) (tOp cIx (tVar 0) (tC (.int 0))) (tC (.str (tx [48]))))) (tTest (tOp (cNe K) (tVar 0) (tC (.str (tx [48])))))))) (tRet (tC .non)) tNext)
  (tSeq (tIfS (tNot (tB (tCB kAll (tCons (tComp [none,none] (iStr (tVar 0)) (gName 1) tTrue (tOp (cIn K false) (tVar 1) (tC (.str (tx [48,49,50,51,52,53,54,55,56,57]))))) tNil)))) (tRet (tC .non)) tNext)
  (tRet (tCB l6 (tCons (tVar 0) tNil)))))
theorem xZ {c:Nat} (h0:48≤c) (h1:c≤57):(!(Builtin.Str.occurrences (tx [48,49,50,51,52,53,54,55,56,57]) ⟨#[c]⟩ 0 (tx [48,49,50,51,52,53,54,55,56,57]).length 1).isEmpty)=true:=by
 have t:((List.range 58).all fun c=>!decide (48≤c)||!(Builtin.Str.occurrences (tx [48,49,50,51,52,53,54,55,56,57]) ⟨#[c]⟩ 0 (tx [48,49,50,51,52,53,54,55,56,57]).length 1).isEmpty)=true:=by decide+kernel
 have:=List.all_eq_true.mp t c (List.mem_range.mpr (by omega))
 simpa [h0] using this
theorem qL {K:PySem.W.Frag} {vs:List V} {H:Hp} {Q:VK} {E:XK} (h:cP K vs H Q E):gg K { nx:=fun _ H'=>Q .non H',rt:=Q } (start ["word"] vs) H:=by
 obtain ⟨n,rfl,hn,q⟩:=h
 have hne:=xY hn
 have hl:=oY (n:=n)
 show gg K _ [some (.str (tx (numC n)))] H
 unfold gg
 rw [aR,aH]
 walk_at "w"
 rw [dU,decide_eq_false hne]
 refine iteF ⟨by rw [fZ]; exact aF (by omega),?_⟩
 walk_at "w"
 rw [fZ,decide_eq_false (show ¬ (9:Int) < ((numC n).length:Nat) by omega)]
 refine iteF ?_
 rw [yI,fZ,nF]
 obtain ⟨c,r,ec⟩:∃ c r,numC n=c::r:=by
  cases e:numC n with
  | nil=>exact absurd e hne
  | cons c r=>exact ⟨c,r,rfl⟩
 refine ⟨aF (by omega),a7 (a:=c) (by rw [ec]; exact gB (j:=0) rfl) ?_⟩
 walk_at "w"
 have e1:decide ((⟨#[c]⟩:Str)=tx [48])=decide (c=48):=by
  have:(⟨#[c]⟩:Str)=tx [c]:=rfl
  rw [this,dU]
  simp
 rw [e1,dU]
 have e2:(decide (c=48)=true→decide (numC n=[48])=true):=by
  intro h
  rw [decide_eq_true_eq] at h
  have:=(vY hn).1 (by rw [ec,h]; rfl)
  subst this
  decide
 have goal2:tSeq (tIfS (tNot (tB (tCB kAll (tCons (tComp [none,none] (iStr (tVar 0)) (gName 1) tTrue (tOp (cIn K false) (tVar 1) (tC (.str (tx [48,49,50,51,52,53,54,55,56,57]))))) tNil)))) (tRet (tC .non)) tNext) (tRet (tCB l6 (tCons (tVar 0) tNil)))
   { nx:=fun _ H'=>Q .non H',rt:=Q } [some (.str (tx (numC n)))] H:=by
  rw [aR,aH]
  walk_at "w"
  refine u9 (cs:=numC n) (fun _=>true) (fun _=>.bl true) (by omega) ?_ ?_ ?_
  · intro i c H1 R hc s1 k1
    exact k1 _ (Same.refl _)
  · intro i c H1 Q1 hc hb s1 k1
    have hd:=sF hn c (List.mem_of_getElem? hc)
    show tOp (cIn K false) _ _ [none,some (.str (tx [c]))] H1 Q1
    walk_at "w"
    have q1:=k1 _ (Same.refl H1)
    show Q1 (.bl (if false=true then _ else !(Builtin.Str.occurrences (tx [48,49,50,51,52,53,54,55,56,57]) (tx [c]) 0 (tx [48,49,50,51,52,53,54,55,56,57]).length 1).isEmpty)) H1
    rw [if_neg Bool.false_ne_true,show tx [c]=⟨#[c]⟩ from rfl,xZ hd.1 hd.2]
    exact q1
  · intro l H1 hl1 s1 el
    have eb:((List.range (numC n).length).filter fun _=>true).map (fun _=>V.bl true)=(List.replicate (numC n).length true).map V.bl:=by
     rw [fu,List.map_const',List.length_range,List.map_replicate]
    rw [eb] at el
    refine qb el ?_
    have ea:(List.replicate (numC n).length true).all id=true:=by
     rw [List.all_eq_true]
     intro b hb
     exact (List.mem_replicate.mp hb).2
    rw [ea]
    walk_at "w"
    exact ⟨n,hn,rfl,q _ s1⟩
 cases hc:decide (c=48) with
 | false=>
  refine iteF ?_
  exact goal2
 | true=>
  refine iteT ?_
  rw [e2 hc]
  exact goal2
def a8 (K:PySem.W.Frag):Sp:=fun vs H Q _=>∃ (n:Nat) (lo hi:Int),vs=[.str (tx (numC n)),.int lo,.int hi]∧n < 100∧lo≤n∧n≤hi∧∀ H',Same H H'→Q (.int n) H'
theorem mR {K:PySem.W.Frag} {vs:List V} {H:Hp} {Q:VK} {E:XK} (h:a8 K vs H Q E):vs.length=3:=by
 obtain ⟨_,_,_,rfl,_⟩:=h; rfl
def c6 (K:PySem.W.Frag):TS:=
 (tSeq (tAsg (tCall (cP K) [] E0 (tCons (tVar 0) tNil)) (gName 3))
  (tSeq (tIfS (tOr (tTest (tOp rIsN (tVar 3) (tC .non))) (tOr (tTest (tOp (cCmp fun i j=>decide (i < j)) (tVar 3) (tVar 1))) (tTest (tOp (cCmp fun i j=>decide (j < i)) (tVar 3) (tVar 2))))) ce tNext)
  (tRet (tVar 3))))
theorem mS {K:PySem.W.Frag} {vs:List V} {H:Hp} {Q:VK} {E:XK} (h:a8 K vs H Q E):c6 K { nx:=fun _ H'=>Q .non H',rt:=Q } (start ["word","least","most","number"] vs) H:=by
 obtain ⟨n,lo,hi,rfl,hn,h0,h1,q⟩:=h
 show c6 K _ [some (.str (tx (numC n))),some (.int lo),some (.int hi),none] H
 unfold c6
 walk_at "w"
 refine ⟨n,rfl,hn,fun H1 s1=>?_⟩
 walk_at "w"
 rw [aH]
 walk_at "w"
 rw [decide_eq_false (show ¬ V.int n=V.non from fun e=>nomatch e)]
 refine iteF ?_
 rw [decide_eq_false (show ¬ (n:Int) < lo by omega)]
 refine iteF ?_
 rw [decide_eq_false (show ¬ hi < (n:Int) by omega)]
 refine iteF ?_
 walk_at "w"
 exact q _ s1
def WOk (ws:List (List Nat)):Prop:=∀ w∈ws,∀ c∈w,c < 128
theorem WOk.cons {w:List Nat} {ws:List (List Nat)} (h:∀ c∈w,c < 128) (hs:WOk ws):WOk (w::ws):=fun v hv=>by
 rcases List.mem_cons.mp hv with rfl | hv
 · exact h
 · exact hs v hv
theorem oZ {n:Nat} (h:n < 100):∀ c∈numC n,c < 128:=fun c hc=>by have:=sF h c hc; omega
theorem yL {w:List Nat} (h:∀ c∈w,c < 128):PyData.strOk (tx w)=true:=by
 unfold PyData.strOk
 simp [tx]
 intro c hc
 have:=h c hc
 omega
theorem WOk.strs {ws:List (List Nat)} (h:WOk ws):∀ x∈ws.map tx,PyData.strOk x=true:=fun x hx=>by
 obtain ⟨w,hw,rfl⟩:=List.mem_map.mp hx
 exact yL (h w hw)
def ba (K:PySem.W.Frag):Sp:=fun vs H Q _=>∃ (p:Addr) (n:Nat) (ws:List (List Nat)) (lo hi:Int),vs=[.ref p,.int lo,.int hi]∧H p=some (.lst (((numC n::ws).map tx).map V.str))∧n < 100∧WOk ws∧lo≤n∧n≤hi∧∀ H',Same H H'→Q (.int n) H'
theorem nN {K:PySem.W.Frag} {vs:List V} {H:Hp} {Q:VK} {E:XK} (h:ba K vs H Q E):vs.length=3:=by
 obtain ⟨_,_,_,_,_,rfl,_⟩:=h; rfl
def dy (K:PySem.W.Frag):TS:=
 (tSeq (tIfS (tTest (tOp (cEq K) (tVar 0) (tLst tNil))) ce tNext)
  (tRet (tCall (a8 K) [] E0 (tCons (tOp cIx (tVar 0) (tC (.int 0))) (tCons (tVar 1) (tCons (tVar 2) tNil))))))
theorem DVs.strs {K:PySem.W.Frag} {H:Hp}:∀ ns:List Str,DVs K H (ns.map V.str) (ns.map PyData.str)
 | []=>.nil
 | n::r=>.cons (.str n) (DVs.strs r)
theorem pC (a b:Str):PyData.eqv (.str a) (.str b)=decide (a=b):=by
 rw [PyData.eqv]
 by_cases h:a=b
 · subst h; simp
 · simp [h]
theorem hX (ns:List Str) (hs:∀ x∈ns,PyData.strOk x=true):SeqAt.shaped (.list (ns.map PyData.str))=true:=by
 have h1:PyData.canLayAll0 (ns.map PyData.str)=true:=sC fun d hd=>by obtain ⟨x,hx,rfl⟩:=List.mem_map.mp hd; rw [PyData.canLay0]; exact hs x hx
 have h2:PyData.depthAll (ns.map PyData.str)≤0:=pB fun d hd=>by obtain ⟨x,_,rfl⟩:=List.mem_map.mp hd; exact Nat.le_refl _
 simp [SeqAt.shaped,PyData.canLay0,h1,PyData.depth]
 omega
theorem x3 {K:PySem.W.Frag} {H:Hp} {Q:VK} {p q:Addr} {xs ys:List Str} (hp:H p=some (.lst (xs.map V.str))) (hq:H q=some (.lst (ys.map V.str))) (h1:∀ x∈xs,PyData.strOk x=true) (h2:∀ x∈ys,PyData.strOk x=true) (h:Q (.bl (decide (xs=ys))) H):cEq K (.ref p) (.ref q) H Q:=by
 show rEqD K (.ref p) (.ref q) H Q
 refine ⟨.list (xs.map PyData.str),.list (ys.map PyData.str),.lst (SqL.of hp) (.strs xs),.lst (SqL.of hq) (.strs ys),hX xs h1,hX ys h2,?_⟩
 rw [PyData.eqv,oW PyData.str pC]
 exact h
theorem x4 {K:PySem.W.Frag} {H:Hp} {Q:VK} {p q:Addr} {xs ys:List Str} (hp:H p=some (.lst (xs.map V.str))) (hq:H q=some (.lst (ys.map V.str))) (h1:∀ x∈xs,PyData.strOk x=true) (h2:∀ x∈ys,PyData.strOk x=true) (h:Q (.bl (!decide (xs=ys))) H):cNe K (.ref p) (.ref q) H Q:=by
 show rNeD K (.ref p) (.ref q) H Q
 refine ⟨.list (xs.map PyData.str),.list (ys.map PyData.str),.lst (SqL.of hp) (.strs xs),.lst (SqL.of hq) (.strs ys),hX xs h1,hX ys h2,?_⟩
 rw [PyData.eqv,oW PyData.str pC]
 exact h
theorem nP {K:PySem.W.Frag} {vs:List V} {H:Hp} {Q:VK} {E:XK} (h:ba K vs H Q E):dy K { nx:=fun _ H'=>Q .non H',rt:=Q } (start ["words","least","most"] vs) H:=by
 obtain ⟨p,n,ws,lo,hi,rfl,hp,hn,hw,h0,h1,q⟩:=h
 show dy K _ [some (.ref p),some (.int lo),some (.int hi)] H
 unfold dy
 rw [aR,aH]
 walk_at "w"
 refine ⟨aF (by decide),fun l hl=>?_⟩
 have s1:Same H (upd H l (.lst [])):=(Same.refl H).laid hl
 refine x3 (s1 _ _ hp) (ys:=[]) ag (WOk.strs (WOk.cons (oZ hn) hw)) (fun x hx=>nomatch hx) ?_
 generalize upd H l (.lst [])=H1 at*
 walk_at "w"
 rw [decide_eq_false (by simp)]
 refine iteF ?_
 walk_at "w"
 have e0:atI (((numC n::ws).map tx).map V.str) 0=some (V.str (tx (numC n))):=gB (j:=0) rfl
 refine ixL (s1 _ _ hp) e0 ?_
 walk_at "w"
 exact ⟨n,lo,hi,rfl,hn,h0,h1,fun H2 s2=>q _ (s1.trans s2)⟩
theorem vZ (acc:List Int) (v:Int):(step_dedup acc v).length≤acc.length+1:=by
 unfold step_dedup
 split <;> simp
theorem qM:∀ (l acc:List Int),(l.foldl step_dedup acc).length≤acc.length+l.length
 | [],acc=>by simp
 | x::r,acc=>by
  have h1:=qM r (step_dedup acc x)
  have h2:=vZ acc x
  rw [List.foldl_cons,List.length_cons]
  omega
theorem mH:∀ (l acc:List Int),acc.Nodup→((l.foldl step_dedup acc).length=acc.length+l.length↔(acc++l).Nodup)
 | [],acc,h=>by simpa using h
 | x::r,acc,h=>by
  rw [List.foldl_cons]
  by_cases hx:x∈acc
  · have e:step_dedup acc x=acc:=by
     unfold step_dedup
     rw [if_pos (by simpa using hx)]
    rw [e]
    have:=qM r acc
    constructor
    · intro z
      rw [List.length_cons] at z
      omega
    · intro z
      have:=(List.nodup_append.mp z).2.2 x hx x List.mem_cons_self
      exact absurd rfl this
  · have e:step_dedup acc x=acc++[x]:=by
     unfold step_dedup
     rw [if_neg (by simpa using hx)]
    rw [e]
    have hn:(acc++[x]).Nodup:=List.nodup_append.mpr ⟨h,by simp,fun a ha b hb z=>hx (by rw [List.mem_singleton.mp hb] at z; exact z ▸ ha)⟩
    have ih:=mH r (acc++[x]) hn
    rw [List.length_append,List.length_singleton] at ih
    rw [List.length_cons,show acc.length+(r.length+1)=acc.length+1+r.length by omega,show acc++x::r=acc++[x]++r by simp]
    exact ih
theorem o4 (ns:List Int):(List.range ns.length).map (fun i=>ns.getD i 0)=ns:=by
 have:=pK ns (fun x=>x)
 simpa using this
theorem wa (ns:List Int):cntD ns=ns.length↔ns.Nodup:=by
 unfold cntD firstMet
 rw [o4]
 have:=mH ns [] List.nodup_nil
 simpa using this
def ck (K:PySem.W.Frag):Sp:=fun vs H Q _=>∃ (a p:Addr) (h w g:Int) (ns:List Nat),vs=[.ref a,.ref p]∧IsFl H a h w g∧FlOk h w g∧H p=some (.lst (((ns.map numC).map tx).map V.str))∧ns≠[]∧ns.length≤16∧(∀ n∈ns,(n:Int) < h*w)∧ns.Nodup∧
 ∀ l H',Same H H'→H l=none→H' l=some (.lst ((ns.map fun (n:Nat)=>(n:Int)).map V.int))→Q (.ref l) H'
theorem pP {K:PySem.W.Frag} {vs:List V} {H:Hp} {Q:VK} {E:XK} (h:ck K vs H Q E):vs.length=2:=by
 obtain ⟨_,_,_,_,_,_,rfl,_⟩:=h; rfl
def e9 (K:PySem.W.Frag):TS:=
 (tSeq (sComp 2 [none,none,some 0] (iList K (tVar 1)) (gName 1) tTrue (tCall (a8 K) [] E0 (tCons (tVar 1) (tCons (tC (.int 0)) (tCons (tOp cSub (tCall (aP K) [] E0 (tCons (tVar 2) tNil)) (tC (.int 1))) tNil)))))
  (tSeq (tIfS (tTest (tOp (cEq K) (tVar 2) (tLst tNil))) ce tNext)
  (tSeq (tIfS (tTest (tOp (cNe K) (oX (tVar 2)) (tCB kLen (tCons (tVar 2) tNil)))) ce tNext)
  (tRet (tVar 2)))))
theorem tG {ns:List Nat} (h:ns.Nodup):(ns.map fun (n:Nat)=>(n:Int)).Nodup:=by
 induction ns with
 | nil=>exact List.nodup_nil
 | cons a r ih=>
  rw [List.nodup_cons] at h
  rw [List.map_cons,List.nodup_cons]
  refine ⟨fun z=>?_,ih h.2⟩
  obtain ⟨b,hb,e⟩:=List.mem_map.mp z
  exact h.1 (by have:b=a:=by omega
                exact this ▸ hb)
theorem pQ {K:PySem.W.Frag} {vs:List V} {H:Hp} {Q:VK} {E:XK} (h:ck K vs H Q E):e9 K { nx:=fun _ H'=>Q .non H',rt:=Q } (start ["floor","words","cells"] vs) H:=by
 obtain ⟨a,p,h,w,g,ns,rfl,ha,F,hp,hne,hn16,hlt,hnd,q⟩:=h
 obtain ⟨h0,h1,w0,w1,m16,g0,g1⟩:=F
 show e9 K _ [some (.ref a),some (.ref p),none] H
 unfold e9
 walk_at "w"
 refine ⟨⟨_,SqL.of hp⟩,?_⟩
 refine fY (xs:=((ns.map numC).map tx).map V.str) (fun _=>true) (fun i=>.int (ns.getD i 0:Nat)) (by simp; omega) (SqL.of hp) ?_ ?_ ?_
 · intro i x H1 R hx s1 k1
   exact k1 _ (Same.refl _)
 · intro i x H1 Q1 hx hb s1 k1
   rw [List.getElem?_map,List.getElem?_map,List.getElem?_map] at hx
   cases e:ns[i]? with
   | none=>rw [e] at hx; cases hx
   | some n=>
    rw [e] at hx
    cases hx
    have hm:=hlt n (List.mem_of_getElem? e)
    show tCall _ _ _ _ [none,some (.str (tx (numC n))),some (.ref a)] H1 Q1
    walk_at "w"
    refine ⟨a,h,w,g,rfl,s1 _ _ ha,h0,h1,?_⟩
    walk_at "w"
    refine ⟨n,0,_,rfl,by omega,by omega,by omega,fun H2 s2=>?_⟩
    have q1:=k1 _ s2
    have eg:ns.getD i 0=n:=by rw [List.getD,e]; rfl
    rw [eg] at q1
    exact q1
 · intro l H1 hl s1 el
   have ec:((List.range (((ns.map numC).map tx).map V.str).length).filter fun _=>true).map (fun i=>V.int (ns.getD i 0:Nat))=(ns.map fun (n:Nat)=>(n:Int)).map V.int:=by
    rw [fu,List.length_map,List.length_map,List.length_map,List.map_map]
    refine List.ext_getElem? fun i=>?_
    rw [List.getElem?_map,List.getElem?_map]
    by_cases h:i < ns.length
    · rw [List.getElem?_range h,List.getElem?_eq_getElem h]
      simp [List.getD,h]
    · rw [List.getElem?_eq_none (by simpa using h),List.getElem?_eq_none (by omega)]; rfl
   rw [ec] at el
   walk_at "w"
   rw [aH]
   walk_at "w"
   refine ⟨aF (by decide),fun z hz=>?_⟩
   have s2:Same H1 (upd H1 z (.lst [])):=(Same.refl H1).laid hz
   refine tm (s2 _ _ el) (ys:=[]) ag ?_
   generalize upd H1 z (.lst [])=H2 at*
   walk_at "w"
   rw [decide_eq_false (by simpa using hne)]
   refine iteF ?_
   walk_at "w"
   rw [aH]
   walk_at "w"
   refine ⟨l,_,rfl,s2 _ _ el,by rw [List.length_map]; omega,?_⟩
   rw [cg (s2 _ _ el),List.length_map]
   walk_at "w"
   rw [decide_eq_true (by rw [(wa _).mpr (tG hnd)])]
   refine iteF ?_
   walk_at "w"
   exact q l _ (s1.trans s2) hl (s2 _ _ el)
def allK:RK→Bool
 | .Joined=>true
 | .NoSquare=>true
 | .Ring=>true
 | _=>false
def numK:RK→Bool
 | .Sum=>true
 | .Seen=>true
 | .Count=>true
 | _=>false
def sgnK:RK→Bool
 | .Count=>true
 | .Joined=>true
 | .NoSquare=>true
 | .Ring=>true
 | _=>false
theorem x5 (k:RK):decide (tx (nmC k)∈dw)=allK k:=by cases k <;> decide+kernel
theorem x8 (k:RK):decide (tx (nmC k)∈ee)=numK k:=by cases k <;> decide+kernel
theorem x9 (k:RK):decide (tx (nmC k)∈dW)=sgnK k:=by cases k <;> decide+kernel
structure o5 (k:RK) (h w:Int) (ns:List Nat) (cs:List Int):Prop where
 told:allK k=false→ns≠[]∧ns.length≤16∧(∀ n∈ns,(n:Int) < h*w)∧ns.Nodup∧cs=ns.map fun (n:Nat)=>(n:Int)
 all:allK k=true→ns=[]∧cs=rngL 0 (h*w)
def dj (K:PySem.W.Frag):Sp:=fun vs H Q _=>∃ (k:RK) (a p:Addr) (h w g:Int) (ns:List Nat) (cs:List Int),vs=[.ref a,.str (tx (nmC k)),.ref p]∧IsFl H a h w g∧FlOk h w g∧H p=some (.lst (((ns.map numC).map tx).map V.str))∧o5 k h w ns cs∧(∀ n∈ns,n < 100)∧
 ∀ l H',Same H H'→H l=none→H' l=some (.lst (cs.map V.int))→Q (.ref l) H'
theorem rQ {K:PySem.W.Frag} {vs:List V} {H:Hp} {Q:VK} {E:XK} (h:dj K vs H Q E):vs.length=3:=by
 obtain ⟨_,_,_,_,_,_,_,_,rfl,_⟩:=h; rfl
def h9 (K:PySem.W.Frag):TS:=
 (tSeq (tIfS (tB (tInG dw true (tVar 1))) (tRet (tCall (ck K) [] E0 (tCons (tVar 0) (tCons (tVar 2) tNil)))) tNext)
  (tSeq (tIfS (tTest (tOp (cNe K) (tVar 2) (tLst tNil))) ce tNext)
  (tRet (lc (tCons (tCall (aP K) [] E0 (tCons (tVar 0) tNil)) tNil)))))
theorem rR {K:PySem.W.Frag} {vs:List V} {H:Hp} {Q:VK} {E:XK} (h:dj K vs H Q E):h9 K { nx:=fun _ H'=>Q .non H',rt:=Q } (start ["floor","name","words"] vs) H:=by
 obtain ⟨k,a,p,h,w,g,ns,cs,rfl,ha,F,hp,hc,hn,q⟩:=h
 obtain ⟨h0,h1,w0,w1,m16,g0,g1⟩:=id F
 have mpos:0≤h*w:=Int.mul_nonneg (by omega) (by omega)
 show h9 K _ [some (.ref a),some (.str (tx (nmC k))),some (.ref p)] H
 unfold h9
 rw [aR,aH]
 walk_at "w"
 rw [x5]
 cases hk:allK k with
 | false=>
  obtain ⟨c1,c2,c3,c4,rfl⟩:=hc.told hk
  walk_at "w"
  exact ⟨a,p,h,w,g,ns,rfl,ha,F,hp,c1,c2,c3,c4,q⟩
 | true=>
  obtain ⟨rfl,rfl⟩:=hc.all hk
  walk_at "w"
  rw [aH]
  walk_at "w"
  refine ⟨aF (by decide),fun z hz=>?_⟩
  have s1:Same H (upd H z (.lst [])):=(Same.refl H).laid hz
  refine x4 (xs:=[]) (ys:=[]) (s1 _ _ hp) ag (fun x hx=>nomatch hx) (fun x hx=>nomatch hx) ?_
  generalize upd H z (.lst [])=H1 at*
  walk_at "w"
  refine ⟨a,h,w,g,rfl,s1 _ _ ha,h0,h1,?_⟩
  walk_at "w"
  refine ⟨h*w,rfl,by omega,by omega,fun l hl=>?_⟩
  exact q l _ (s1.laid hl) (s1.free hl) ag
def eh (K:PySem.W.Frag) (c:RCl RK):Sp:=fun vs H Q _=>∃ (k:RK) (p W C:Addr) (ws:List (List Nat)) (cs:List Int) (n m:Int),vs=[.ref p,.ref W,.ref C,.int n,.int m]∧k≠.Rule∧c.ok k=true∧H W=some (.lst (((nmC k::ws).map tx).map V.str))∧H C=some (.lst (cs.map V.int))∧
 ∀ r H',Same H H'→H r=none→IsRule H' c k r p (nmC k::ws) cs n m→Q (.ref r) H'
theorem tH {K:PySem.W.Frag} {c:RCl RK} {vs:List V} {H:Hp} {Q:VK} {E:XK} (h:eh K c vs H Q E):vs.length=5:=by
 obtain ⟨_,_,_,_,_,_,_,_,rfl,_⟩:=h; rfl
def iS (K:PySem.W.Frag) (c:RCl RK):TS:=
 (tSeq (tAsg (tOp cIx (tVar 1) (tC (.int 0))) (gName 5))
  (tSeq (tIfS (tTest (tOp (cEq K) (tVar 5) (tC (.str (tx [117,110,108,105,107,101]))))) (tRet (tMake (c.A .Unlike) (ar K c) [] E0 (tCons (tVar 0) (tCons (tVar 1) (tCons (tVar 2) (tCons (tVar 3) (tCons (tVar 4) tNil))))))) tNext)
  (tSeq (tIfS (tTest (tOp (cEq K) (tVar 5) (tC (.str (tx [115,117,109]))))) (tRet (tMake (c.A .Sum) (ar K c) [] E0 (tCons (tVar 0) (tCons (tVar 1) (tCons (tVar 2) (tCons (tVar 3) (tCons (tVar 4) tNil))))))) tNext)
  (tSeq (tIfS (tTest (tOp (cEq K) (tVar 5) (tC (.str (tx [114,105,115,105,110,103]))))) (tRet (tMake (c.A .Rising) (ar K c) [] E0 (tCons (tVar 0) (tCons (tVar 1) (tCons (tVar 2) (tCons (tVar 3) (tCons (tVar 4) tNil))))))) tNext)
  (tSeq (tIfS (tTest (tOp (cEq K) (tVar 5) (tC (.str (tx [115,101,101,110]))))) (tRet (tMake (c.A .Seen) (ar K c) [] E0 (tCons (tVar 0) (tCons (tVar 1) (tCons (tVar 2) (tCons (tVar 3) (tCons (tVar 4) tNil))))))) tNext)
  (tSeq (tIfS (tTest (tOp (cEq K) (tVar 5) (tC (.str (tx [99,111,117,110,116]))))) (tRet (tMake (c.A .Count) (ar K c) [] E0 (tCons (tVar 0) (tCons (tVar 1) (tCons (tVar 2) (tCons (tVar 3) (tCons (tVar 4) tNil))))))) tNext)
  (tSeq (tIfS (tTest (tOp (cEq K) (tVar 5) (tC (.str (tx [106,111,105,110,101,100]))))) (tRet (tMake (c.A .Joined) (ar K c) [] E0 (tCons (tVar 0) (tCons (tVar 1) (tCons (tVar 2) (tCons (tVar 3) (tCons (tVar 4) tNil))))))) tNext)
  (tSeq (tIfS (tTest (tOp (cEq K) (tVar 5) (tC (.str (tx [110,111,115,113,117,97,114,101]))))) (tRet (tMake (c.A .NoSquare) (ar K c) [] E0 (tCons (tVar 0) (tCons (tVar 1) (tCons (tVar 2) (tCons (tVar 3) (tCons (tVar 4) tNil))))))) tNext)
  (tSeq (tIfS (tTest (tOp (cEq K) (tVar 5) (tC (.str (tx [114,105,110,103]))))) (tRet (tMake (c.A .Ring) (ar K c) [] E0 (tCons (tVar 0) (tCons (tVar 1) (tCons (tVar 2) (tCons (tVar 3) (tCons (tVar 4) tNil))))))) tNext)
  ce)))))))))
theorem wT {K:PySem.W.Frag} {c:RCl RK} {H:Hp} {Q:VK} {k:RK} {p W C:Addr} {ws:List (List Nat)} {cs:List Int} {n m:Int} (ok:c.ok k=true) (hW:H W=some (.lst ((ws.map tx).map V.str))) (hC:H C=some (.lst (cs.map V.int))) (q:∀ r H',Same H H'→H r=none→IsRule H' c k r p ws cs n m→Q (.ref r) H'):
  ∀ x dx,H x=none→H dx=none→dx≠x→ar K c (.ref x::([.ref p,.ref W,.ref C,.int n,.int m]++[])) (upd (upd H dx (.own x)) x (.ins (c.A k) dx [])) (fun v H2=>v=.non∧Q (.ref x) H2) E0:=by
 intro x dx hx hd ne
 refine ⟨k,x,dx,p,W,C,ws,cs,n,m,rfl,ok,ag,aA hW hx,aA hC hx,?_,?_,fun H' hs hr=>⟨rfl,q x H' (fun b o e=>hs b o (aA e hx) ?_) hx hr⟩⟩
 · rw [aj (aA hW hx),aj (aA hW hd)]; exact hW
 · rw [aj (aA hC hx),aj (aA hC hd)]; exact hC
 · rw [aj (aA e hx),aj (aA e hd)]; exact e
theorem tI {K:PySem.W.Frag} {c:RCl RK} {vs:List V} {H:Hp} {Q:VK} {E:XK} (h:eh K c vs H Q E):iS K c { nx:=fun _ H'=>Q .non H',rt:=Q } (start ["floor","words","cells","amount","mark","name"] vs) H:=by
 obtain ⟨k,p,W,C,ws,cs,n,m,rfl,hk,ok,hW,hC,q⟩:=h
 have mk:=wT (K:=K) ok hW hC q
 have e0:atI (((nmC k::ws).map tx).map V.str) 0=some (V.str (tx (nmC k))):=gB (j:=0) rfl
 show iS K c _ [some (.ref p),some (.ref W),some (.ref C),some (.int n),some (.int m),none] H
 unfold iS
 walk_at "w"
 refine ixL hW e0 ?_
 have D:∀ (l:List Nat) (t:TS) (u:TS) (D:Ends) (b:Bool),decide (nmC k=l)=b→(if b=true then t D [some (.ref p),some (.ref W),some (.ref C),some (.int n),some (.int m),some (.str (tx (nmC k)))] H else u D [some (.ref p),some (.ref W),some (.ref C),some (.int n),some (.int m),some (.str (tx (nmC k)))] H)→
   tIfS (tTest (tOp (cEq K) (tVar 5) (tC (.str (tx l))))) t u D [some (.ref p),some (.ref W),some (.ref C),some (.int n),some (.int m),some (.str (tx (nmC k)))] H:=fun l t u D b hb hq=>by
  rw [aH]
  walk_at "w"
  rw [dU,hb]
  exact hq
 have R:∀ (D:Ends),D.rt=Q→tRet (tMake (c.A k) (ar K c) [] E0 (tCons (tVar 0) (tCons (tVar 1) (tCons (tVar 2) (tCons (tVar 3) (tCons (tVar 4) tNil)))))) D [some (.ref p),some (.ref W),some (.ref C),some (.int n),some (.int m),some (.str (tx (nmC k)))] H:=fun D hD=>by
  walk_at "w"
  rw [hD]
  exact mk
 cases k with
 | Rule=>exact absurd rfl hk
 | Unlike=>exact D _ _ _ _ true (by decide) (iteT (R _ rfl))
 | Sum=>exact D _ _ _ _ false (by decide) (iteF (D _ _ _ _ true (by decide) (iteT (R _ rfl))))
 | Rising=>exact D _ _ _ _ false (by decide) (iteF (D _ _ _ _ false (by decide) (iteF (D _ _ _ _ true (by decide) (iteT (R _ rfl))))))
 | Seen=>exact D _ _ _ _ false (by decide) (iteF (D _ _ _ _ false (by decide) (iteF (D _ _ _ _ false (by decide) (iteF (D _ _ _ _ true (by decide) (iteT (R _ rfl))))))))
 | Count=>exact D _ _ _ _ false (by decide) (iteF (D _ _ _ _ false (by decide) (iteF (D _ _ _ _ false (by decide) (iteF (D _ _ _ _ false (by decide) (iteF (D _ _ _ _ true (by decide) (iteT (R _ rfl))))))))))
 | Joined=>exact D _ _ _ _ false (by decide) (iteF (D _ _ _ _ false (by decide) (iteF (D _ _ _ _ false (by decide) (iteF (D _ _ _ _ false (by decide) (iteF (D _ _ _ _ false (by decide) (iteF (D _ _ _ _ true (by decide) (iteT (R _ rfl))))))))))))
 | NoSquare=>exact D _ _ _ _ false (by decide) (iteF (D _ _ _ _ false (by decide) (iteF (D _ _ _ _ false (by decide) (iteF (D _ _ _ _ false (by decide) (iteF (D _ _ _ _ false (by decide) (iteF (D _ _ _ _ false (by decide) (iteF (D _ _ _ _ true (by decide) (iteT (R _ rfl))))))))))))))
 | Ring=>exact D _ _ _ _ false (by decide) (iteF (D _ _ _ _ false (by decide) (iteF (D _ _ _ _ false (by decide) (iteF (D _ _ _ _ false (by decide) (iteF (D _ _ _ _ false (by decide) (iteF (D _ _ _ _ false (by decide) (iteF (D _ _ _ _ false (by decide) (iteF (D _ _ _ _ true (by decide) (iteT (R _ rfl))))))))))))))))
def rowW (k:RK) (n m:Nat) (ns:List Nat):List (List Nat):=nmC k::((if numK k then [numC n] else [])++(if sgnK k then [numC m] else [])++ns.map numC)
structure qN (k:RK) (h w g:Int) (n m:Nat) (ns:List Nat) (cs:List Int):Prop where
 k0:k≠.Rule
 n0:n≤99
 nz:numK k=false→n=0
 m0:sgnK k=true→1≤(m:Int)∧(m:Int)≤g
 mz:sgnK k=false→m=0
 cl:o5 k h w ns cs
 ns0:∀ x∈ns,x < 100
 len:ns.length≤16
def cQ (K:PySem.W.Frag) (c:RCl RK):Sp:=fun vs H Q _=>∃ (k:RK) (p:Addr) (h w g:Int) (n m:Nat) (ns:List Nat) (cs:List Int),vs=[.ref p,.str (tx (catL 32 (rowW k n m ns)))]∧IsFl H p h w g∧FlOk h w g∧qN k h w g n m ns cs∧c.ok k=true∧
 ∀ r H',Same H H'→H r=none→IsRule H' c k r p (rowW k n m ns) cs n m→Q (.ref r) H'
theorem qO {K:PySem.W.Frag} {c:RCl RK} {vs:List V} {H:Hp} {Q:VK} {E:XK} (h:cQ K c vs H Q E):vs.length=2:=by
 obtain ⟨_,_,_,_,_,_,_,_,_,rfl,_⟩:=h; rfl
def dz (K:PySem.W.Frag) (c:RCl RK):TS:=
 (tRet (tCall (eh K c) [] E0 (tCons (tVar 0) (tCons (tVar 2) (tCons (tCall (dj K) [] E0 (tCons (tVar 0) (tCons (tVar 3) (tCons (tVar 4) tNil)))) (tCons (tVar 5) (tCons (tVar 6) tNil)))))))
def gh (K:PySem.W.Frag) (c:RCl RK):TS:=
 (tSeq (tAsg (tOp cIx (tVar 2) (tC (.int 0))) (gName 3))
  (tSeq (tAsg (tSl mM (tVar 2) (tPart (tC (.int 1))) i8) (gName 4))
  (tSeq (tAsg (tC (.int 0)) (gName 5))
  (tSeq (tAsg (tC (.int 0)) (gName 6))
  (tSeq (tIfS (tB (tInG ee false (tVar 3))) (tSeq (tAsg (tCall (ba K) [] E0 (tCons (tVar 4) (tCons (tC (.int 0)) (tCons (tC (.int 99)) tNil)))) (gName 5))
  (tAsg (tSl mM (tVar 4) (tPart (tC (.int 1))) i8) (gName 4))) tNext)
  (tSeq (tIfS (tB (tInG dW false (tVar 3))) (tSeq (tAsg (tCall (ba K) [] E0 (tCons (tVar 4) (tCons (tC (.int 1)) (tCons (tOp cIx (tVar 0) (tC (.int 2))) tNil)))) (gName 6))
  (tAsg (tSl mM (tVar 4) (tPart (tC (.int 1))) i8) (gName 4))) tNext)
  (dz K c)))))))
def gi (K:PySem.W.Frag) (c:RCl RK):TS:=
 (tSeq (tIfS (tNot (tB (tCB kIsi (tCons (tVar 1) (tCons (tC (.ty "str")) tNil))))) ce tNext)
  (tSeq (tAsg (tBM K "str" nD (tVar 1) (tCons (tC (.str (tx [32]))) tNil)) (gName 2))
  (gh K c)))
theorem wU (k:RK):32∉nmC k:=by cases k <;> decide
theorem ve {k:RK} {n m:Nat} {ns:List Nat} (hn:n < 100) (hm:m < 100) (hs:∀ x∈ns,x < 100):∀ r∈rowW k n m ns,32∉r:=by
 intro r hr
 unfold rowW at hr
 rcases List.mem_cons.mp hr with rfl | hr
 · exact wU k
 rcases List.mem_append.mp hr with hr | hr
 · rcases List.mem_append.mp hr with hr | hr
   · split at hr
     · rw [List.mem_singleton.mp hr]; exact mO hn
     · cases hr
   · split at hr
     · rw [List.mem_singleton.mp hr]; exact mO hm
     · cases hr
 · obtain ⟨x,hx,rfl⟩:=List.mem_map.mp hr
   exact mO (hs x hx)
theorem wb (xs:List V):cutV xs (some 1) none=xs.drop 1:=by
 unfold cutV
 have h1:HT.sIx xs.length 0 (some 1)=min 1 xs.length:=HT.sIx_nat ..
 have h2:HT.sIx xs.length xs.length none=xs.length:=rfl
 rw [h1,h2]
 cases xs with
 | nil=>rfl
 | cons x r=>
  have:min 1 (x::r).length=1:=by simp
  rw [this]
  show (r).take _=r
  rw [List.take_of_length_le (by simp)]
theorem jH {K:PySem.W.Frag} {c:RCl RK} {H:Hp} {Q:VK} {k:RK} {p W R:Addr} {h w g:Int} {n m:Nat} {ws:List (List Nat)} {ns:List Nat} {cs:List Int} {lv:V} (F:FlOk h w g) (ha:IsFl H p h w g) (hW:H W=some (.lst (((nmC k::ws).map tx).map V.str))) (hR:H R=some (.lst (((ns.map numC).map tx).map V.str))) (hc:o5 k h w ns cs) (hn:∀ x∈ns,x < 100) (k0:k≠.Rule) (ok:c.ok k=true)
  (q:∀ r H',Same H H'→H r=none→IsRule H' c k r p (nmC k::ws) cs n m→Q (.ref r) H'):
  dz K c { nx:=fun _ H'=>Q .non H',rt:=Q } [some (.ref p),some lv,some (.ref W),some (.str (tx (nmC k))),some (.ref R),some (.int n),some (.int m)] H:=by
 unfold dz
 walk_at "w"
 refine ⟨k,p,R,h,w,g,ns,cs,rfl,ha,F,hR,hc,hn,fun l H1 s1 hl el=>?_⟩
 walk_at "w"
 exact ⟨k,p,W,l,ws,cs,n,m,rfl,k0,ok,s1 _ _ hW,el,fun r H2 s2 hr x=>q r H2 (s1.trans s2) (s1.free hr) x⟩
theorem rS {k:RK} {n m:Nat} {ns:List Nat} (h:ns.length≤16):(rowW k n m ns).length≤100∧∀ w∈rowW k n m ns,w.length≤100:=by
 unfold rowW
 refine ⟨?_,fun w hw=>?_⟩
 · simp only [List.length_cons,List.length_append,List.length_map]
   split <;> split <;> simp <;> omega
 · rcases List.mem_cons.mp hw with rfl | hw
   · cases k <;> decide
   have h2:∀ x,(numC x).length≤100:=fun x=>Nat.le_trans oY (by decide)
   rcases List.mem_append.mp hw with hw | hw
   · rcases List.mem_append.mp hw with hw | hw
     · split at hw
       · rw [List.mem_singleton.mp hw]; exact h2 _
       · cases hw
     · split at hw
       · rw [List.mem_singleton.mp hw]; exact h2 _
       · cases hw
   · obtain ⟨x,hx,rfl⟩:=List.mem_map.mp hw
     exact h2 _
theorem nQ:∀ (rows:List (List Nat)),(∀ r∈rows,r.length≤100)→(catL 32 rows).length≤101*rows.length
 | [],_=>Nat.zero_le _
 | [x],h=>by
  have:=h x List.mem_cons_self
  show x.length≤101*1
  omega
 | x::y::r,h=>by
  have h1:=h x List.mem_cons_self
  have ih:=nQ (y::r) fun z hz=>h z (List.mem_cons_of_mem _ hz)
  have e:catL 32 (x::y::r)=x++32::catL 32 (y::r):=by first | rfl | simp [catL]
  rw [e,List.length_append,List.length_cons,List.length_cons]
  omega
theorem o7 {H:Hp} {Q:VK} {p:Addr} {x:Str} {xs:List Str} (hp:H p=some (.lst ((x::xs).map V.str))) (q:∀ l,H l=none→Q (.ref l) (upd H l (.lst (xs.map V.str)))):mM (.ref p) (some 1) none H Q:=by
 refine yJ hp fun l hl=>?_
 rw [wb]
 exact q l hl
theorem nR {K:PySem.W.Frag} {c:RCl RK} {H:Hp} {Q:VK} {k:RK} {p W:Addr} {h w g:Int} {n m:Nat} {ns:List Nat} {cs:List Int} {lv:V} (F:FlOk h w g) (ha:IsFl H p h w g) (hW:H W=some (.lst (((rowW k n m ns).map tx).map V.str))) (O:qN k h w g n m ns cs) (ok:c.ok k=true)
  (q:∀ r H',Same H H'→H r=none→IsRule H' c k r p (rowW k n m ns) cs n m→Q (.ref r) H'):
  gh K c { nx:=fun _ H'=>Q .non H',rt:=Q } [some (.ref p),some lv,some (.ref W),none,none,none,none] H:=by
 obtain ⟨k0,n0,nz,m0,mz,cl,ns0,len⟩:=O
 obtain ⟨h0,h1,w0,w1,m16,g0,g1⟩:=id F
 have e0:atI (((rowW k n m ns).map tx).map V.str) 0=some (V.str (tx (nmC k))):=gB (j:=0) rfl
 have hns:WOk (ns.map numC):=fun v hv=>by obtain ⟨x,hx,rfl⟩:=List.mem_map.mp hv; exact oZ (ns0 x hx)
 unfold gh
 walk_at "w"
 refine ixL hW e0 ?_
 walk_at "w"
 refine o7 hW fun R hR=>?_
 have s1:Same H (upd H R (.lst ((((if numK k then [numC n] else [])++(if sgnK k then [numC m] else [])++ns.map numC).map tx).map V.str))):=(Same.refl H).laid hR
 have eR:(upd H R (.lst ((((if numK k then [numC n] else [])++(if sgnK k then [numC m] else [])++ns.map numC).map tx).map V.str))) R=some (.lst ((((if numK k then [numC n] else [])++(if sgnK k then [numC m] else [])++ns.map numC).map tx).map V.str)):=ag
 generalize upd H R (.lst ((((if numK k then [numC n] else [])++(if sgnK k then [numC m] else [])++ns.map numC).map tx).map V.str))=H1 at*
 walk_at "w"
 have two:∀ {H2:Hp} {R2:Addr},Same H H2→H2 R2=some (.lst ((((if sgnK k then [numC m] else [])++ns.map numC).map tx).map V.str))→
   tSeq (tIfS (tB (tInG dW false (tVar 3))) (tSeq (tAsg (tCall (ba K) [] E0 (tCons (tVar 4) (tCons (tC (.int 1)) (tCons (tOp cIx (tVar 0) (tC (.int 2))) tNil)))) (gName 6)) (tAsg (tSl mM (tVar 4) (tPart (tC (.int 1))) i8) (gName 4))) tNext) (dz K c) { nx:=fun _ H'=>Q .non H',rt:=Q }
    [some (.ref p),some lv,some (.ref W),some (.str (tx (nmC k))),some (.ref R2),some (.int n),some (.int 0)] H2:=by
  intro H2 R2 s2 eR2
  rw [aR,aH]
  walk_at "w"
  rw [x9]
  cases hs:sgnK k with
  | false=>
   rw [hs] at eR2
   have:=mz hs
   subst this
   walk_at "w"
   exact jH F (s2 _ _ ha) (s2 _ _ hW) eR2 cl ns0 k0 ok fun r H3 s3 hr x=>q r H3 (s2.trans s3) (s2.free hr) x
  | true=>
   rw [hs] at eR2
   have hm:=m0 hs
   walk_at "w"
   refine ixT (s2 _ _ ha) (v:=V.int g) rfl ?_
   walk_at "w"
   refine ⟨R2,m,ns.map numC,1,g,rfl,eR2,by omega,hns,hm.1,hm.2,fun H3 s3=>?_⟩
   walk_at "w"
   refine o7 (s3 _ _ eR2) fun R3 hR3=>?_
   have s4:Same H3 (upd H3 R3 (.lst (((ns.map numC).map tx).map V.str))):=(Same.refl H3).laid hR3
   have s24:=(s2.trans s3).trans s4
   exact jH F (s24 _ _ ha) (s24 _ _ hW) ag cl ns0 k0 ok fun r H5 s5 hr x=>q r H5 (s24.trans s5) (s24.free hr) x
 rw [aH]
 walk_at "w"
 rw [x8]
 cases hn:numK k with
 | false=>
  rw [hn] at eR
  have:=nz hn
  subst this
  walk_at "w"
  exact two s1 eR
 | true=>
  rw [hn] at eR
  walk_at "w"
  refine ⟨R,n,(if sgnK k then [numC m] else [])++ns.map numC,0,99,rfl,eR,by omega,?_,by omega,by omega,fun H3 s3=>?_⟩
  · intro v hv
    rcases List.mem_append.mp hv with hv | hv
    · split at hv
      · rename_i hs
        have:=m0 hs
        rw [List.mem_singleton.mp hv]; exact oZ (by omega)
      · cases hv
    · exact hns v hv
  walk_at "w"
  refine o7 (s3 _ _ eR) fun R3 hR3=>?_
  have s4:Same H3 (upd H3 R3 (.lst ((((if sgnK k then [numC m] else [])++ns.map numC).map tx).map V.str))):=(Same.refl H3).laid hR3
  walk_at "w"
  exact two ((s1.trans s3).trans s4) ag
theorem qP {K:PySem.W.Frag} {c:RCl RK} {vs:List V} {H:Hp} {Q:VK} {E:XK} (h:cQ K c vs H Q E):gi K c { nx:=fun _ H'=>Q .non H',rt:=Q } (start ["floor","line","words","name","rest","amount","mark"] vs) H:=by
 obtain ⟨k,p,h,w,g,n,m,ns,cs,rfl,ha,F,O,ok,q⟩:=h
 have hm:m < 100:=by
  by_cases hs:sgnK k=true
  · have:=(O.m0 hs).2
    have:=F.g1
    omega
  · have:=O.mz (by simpa using hs)
    omega
 have hsp:Txt.split (tx (catL 32 (rowW k n m ns))) (tx [32])=(rowW k n m ns).map tx:=vX (by simp [rowW]) (ve (by have:=O.n0; omega) hm O.ns0)
 have hl:=rS (k:=k) (n:=n) (m:=m) O.len
 have hl2:=nQ _ hl.2
 show gi K c _ [some (.ref p),some (.str (tx (catL 32 (rowW k n m ns)))),none,none,none,none,none] H
 unfold gi
 rw [aR,aH]
 walk_at "w"
 refine ⟨yH,?_⟩
 rw [wJ,hsp]
 refine ⟨by rw [fZ]; decide,by rw [fZ]; exact Nat.le_of_lt (Nat.lt_of_le_of_lt hl2 (Nat.lt_of_le_of_lt (Nat.mul_le_mul_left 101 hl.1) (by decide))),by rw [List.length_map]; exact aF (by omega),fun W hW=>?_⟩
 have s1:Same H (upd H W (.lst (((rowW k n m ns).map tx).map V.str))):=(Same.refl H).laid hW
 exact nR F (s1 _ _ ha) ag O ok fun r H2 s2 hr x=>q r H2 (s1.trans s2) (s1.free hr) x
theorem wV {n x:Int} (h:x∈rngL 0 n):0≤x∧x < n:=by
 unfold rngL at h
 obtain ⟨k,hk,rfl⟩:=List.mem_map.mp h
 have:=List.mem_range.mp hk
 omega
theorem dk (xs:List Int) (i:Nat) (y:Int):(xs.map V.int).set i (.int y)=(xs.set i y).map V.int:=by rw [List.map_set]
theorem wW {n:Nat} (h:n < 100):((n:Int)).natAbs.log2 < 1920:=by
 have t:((List.range 100).all fun n=>decide (n.log2 < 1920))=true:=by decide+kernel
 have:=List.all_eq_true.mp t n (List.mem_range.mpr h)
 simpa using this
end L2
namespace L2
open PySem PySem.Spec PyProof.Rows
section
variable {X:Cx} {a:Expr} {ta:TE} {pos p:Pos} {x:Str} {ws:List Str}
theorem nT (G:GTup X.K X.mg x ws) (ha:PE X a ta) (hg:Gl X x) (hdb:(x==("__debug__":Str))=false:=by decide) (hm:behindInMarks .In (.Name x p)=false:=by with_unfolding_all rfl):PT X (.Compare a [.In] [.Name x p] pos) (tB (tInG ws false ta)):=by
 obtain ⟨q,o,its,n,h1,h2⟩:=G.ex
 have h0:=aq (pos:=pos) (xX ⟨o,its,n,h2⟩) ha (cI (v:=V.ref q) hg h1 rfl hdb) hm
 intro pins s σ H Q I h
 refine h0 pins s σ H Q I ?_
 have e:(fun (x:V) (H1:Hp)=>∃ z,x=.str z∧∃ k,V.bl (if false=true then !decide (z∈ws) else decide (z∈ws))=.bl k∧Q k H1)=fun x H1=>∃ z,x=.str z∧(V.ref q=V.ref q)∧∃ k,V.bl (decide (z∈ws))=.bl k∧Q k H1:=by
  funext x H1; simp
 have h':ta σ H (fun (x:V) (H1:Hp)=>∃ z,x=.str z∧∃ k,V.bl (if false=true then !decide (z∈ws) else decide (z∈ws))=.bl k∧Q k H1):=h
 rw [e] at h'
 exact h'
theorem sG (G:GTup X.K X.mg x ws) (ha:PE X a ta) (hg:Gl X x) (hdb:(x==("__debug__":Str))=false:=by decide) (hm:behindInMarks .NotIn (.Name x p)=false:=by with_unfolding_all rfl):PT X (.Compare a [.NotIn] [.Name x p] pos) (tB (tInG ws true ta)):=by
 obtain ⟨q,o,its,n,h1,h2⟩:=G.ex
 have h0:=aq (pos:=pos) (wO ⟨o,its,n,h2⟩) ha (cI (v:=V.ref q) hg h1 rfl hdb) hm
 intro pins s σ H Q I h
 refine h0 pins s σ H Q I ?_
 have e:(fun (x:V) (H1:Hp)=>∃ z,x=.str z∧∃ k,V.bl (if true=true then !decide (z∈ws) else decide (z∈ws))=.bl k∧Q k H1)=fun x H1=>∃ z,x=.str z∧(V.ref q=V.ref q)∧∃ k,V.bl (!decide (z∈ws))=.bl k∧Q k H1:=by
  funext x H1; simp
 have h':ta σ H (fun (x:V) (H1:Hp)=>∃ z,x=.str z∧∃ k,V.bl (if true=true then !decide (z∈ws) else decide (z∈ws))=.bl k∧Q k H1):=h
 rw [e] at h'
 exact h'
end
end L2
namespace L2
open PySem PySem.Spec PyProof.Rows
local macro_rules | `(tactic| walk_at "w")=>`(tactic| (first | simp only [aR,li,nL,jm,lj,kd,ke,nM,nI,lh,nJ,if_true,if_false,Bool.false_eq_true,decide_true,decide_false,jc,jd,l5,gG,fv,ja,j9,jb,gF,j7,j8,gE,lY,gH,gI,gK,gL,gM,gN,gJ,ka,kb,kc,j6,l4,Bool.not_true,Bool.not_false,eF,eV,bK,hE,w_c,kl,fH,fI,eI,fJ,w_b,w_not,io,km,fK,fM,ip,hJ,eJ,kn,fN,iq,iu,jN,iw,fO,fP,fQ,fR,d7,d8,cL,cW,cX,cr,iy,iz,iA,iC,iD,iE,iF,iG,iH,iI,iJ,iK,kq,fS,cY,fT,kr,fU,d9,cZ,iL,iO,fV,fW,fX,
 List.getElem?_cons_zero,List.getElem?_cons_succ,Option.some.injEq,exists_eq_left',exists_eq_left,List.set_cons_zero,List.set_cons_succ,cA,V.int.injEq,V.bl.injEq,V.ref.injEq,V.str.injEq,List.append_nil,List.nil_append,List.cons_append] | dsimp only | skip))
inductive PzK where
 | Puzzle
 deriving DecidableEq
structure RR where
 k:RK
 n:Nat
 m:Nat
 ns:List Nat
 cs:List Int
def RR.ws (r:RR):List (List Nat):=rowW r.k r.n r.m r.ns
def RR.txt (r:RR):Str:=tx (catL 32 r.ws)
def RR.Ok (r:RR) (h w g:Int):Prop:=qN r.k h w g r.n r.m r.ns r.cs
structure IsRules (H:Hp) (c:RCl RK) (p L:Addr) (rs:List Addr) (rows:List RR):Prop where
 top:H L=some (.lst (rs.map V.ref))
 len:rs.length=rows.length
 at_:∀ (i:Nat) (r:Addr) (x:RR),rs[i]? =some r→rows[i]? =some x→IsRule H c x.k r p x.ws x.cs x.n x.m
theorem IsRules.same {H H':Hp} {c:RCl RK} {p L:Addr} {rs:List Addr} {rows:List RR} (x:IsRules H c p L rs rows) (s:Same H H'):IsRules H' c p L rs rows:=
 ⟨s _ _ x.top,x.len,fun i r y h1 h2=>(x.at_ i r y h1 h2).same s⟩
theorem IsRule.lst {H:Hp} {c:RCl RK} {k:RK} {r p a:Addr} {ws:List (List Nat)} {cs:List Int} {n m:Int} {xs:List V} {o:HO} (x:IsRule H c k r p ws cs n m) (ha:H a=some (.lst xs)):IsRule (upd H a o) c k r p ws cs n m:=by
 obtain ⟨dx,W,C,h1,h2,h3⟩:=x.ex
 refine ⟨x.ok,dx,W,C,?_,?_,?_⟩
 · rw [aj (fun e=>by rw [e,ha] at h1; cases h1)]; exact h1
 · rw [aj (fun e=>by rw [e,ha] at h2; cases h2)]; exact h2
 · rw [aj (fun e=>by rw [e,ha] at h3; cases h3)]; exact h3
def pFs (p L G:Addr):List (Str × V):=[("floor",.ref p),("laws",.ref L),("given",.ref G)]
structure lm (c:RCl RK) (h w g:Int) (rows:List RR):Prop where
 F:FlOk h w g
 n:rows.length≤12
 ok:∀ r∈rows,r.Ok h w g
 c:∀ r∈rows,c.ok r.k=true
structure CluesOk (h w g:Int) (cl:List Int):Prop where
 len:cl.length=(h*w).toNat
 ok:∀ x∈cl,0≤x∧x≤g
structure IsPz (H:Hp) (c:RCl RK) (d:RCl PzK) (P L G:Addr) (h w g:Int) (rows:List RR) (cl:List Int):Prop where
 ok:d.ok .Puzzle=true
 R:lm c h w g rows
 C:CluesOk h w g cl
 gv:H G=some (.lst (cl.map V.int))
 ex:∃ dx p rs,H P=some (.ins (d.A .Puzzle) dx (pFs p L G))∧IsFl H p h w g∧IsRules H c p L rs rows
theorem IsPz.same {H H':Hp} {c:RCl RK} {d:RCl PzK} {P L G:Addr} {h w g:Int} {rows:List RR} {cl:List Int} (x:IsPz H c d P L G h w g rows cl) (s:Same H H'):IsPz H' c d P L G h w g rows cl:=by
 obtain ⟨dx,p,rs,h1,h2,h3⟩:=x.ex
 exact ⟨x.ok,x.R,x.C,s _ _ x.gv,dx,p,rs,s _ _ h1,s _ _ h2,h3.same s⟩
def aU (K:PySem.W.Frag):Sp:=fun vs H Q _=>∃ i:Int,vs=[.int i]∧Q (.bl true) H
theorem rT {K:PySem.W.Frag} {vs:List V} {H:Hp} {Q:VK} {E:XK} (h:aU K vs H Q E):vs.length=1:=by
 obtain ⟨_,rfl,_⟩:=h; rfl
def ia (K:PySem.W.Frag):TS:=
 (tRet (tAndV (tCB kIsi (tCons (tVar 0) (tCons (tC (.ty "int")) tNil))) (tNotV (tCB kIsi (tCons (tVar 0) (tCons (tC (.ty "bool")) tNil))))))
theorem rV {K:PySem.W.Frag} {vs:List V} {H:Hp} {Q:VK} {E:XK} (h:aU K vs H Q E):ia K { nx:=fun _ H'=>Q .non H',rt:=Q } (start ["value"] vs) H:=by
 obtain ⟨i,rfl,q⟩:=h
 show ia K _ [some (.int i)] H
 unfold ia
 walk_at "w"
 exact q
def aQ (K:PySem.W.Frag):Sp:=fun vs H Q _=>∃ i m:Int,vs=[.int i,.int m]∧Q (.bl (decide (1≤i)&&decide (i≤m))) H
theorem me {K:PySem.W.Frag} {vs:List V} {H:Hp} {Q:VK} {E:XK} (h:aQ K vs H Q E):vs.length=2:=by
 obtain ⟨_,_,rfl,_⟩:=h; rfl
def cE (K:PySem.W.Frag):TS:=
 (tRet (tAndV (tCall (aU K) [] E0 (tCons (tVar 0) tNil)) (tAndV (tOp (cCmp fun i j=>decide (i≤j)) (tC (.int 1)) (tVar 0)) (tOp (cCmp fun i j=>decide (i≤j)) (tVar 0) (tVar 1)))))
theorem mf {K:PySem.W.Frag} {vs:List V} {H:Hp} {Q:VK} {E:XK} (h:aQ K vs H Q E):cE K { nx:=fun _ H'=>Q .non H',rt:=Q } (start ["value","most"] vs) H:=by
 obtain ⟨i,m,rfl,q⟩:=h
 show cE K _ [some (.int i),some (.int m)] H
 unfold cE
 walk_at "w"
 refine ⟨i,rfl,⟨true,rfl,iteT ?_⟩⟩
 walk_at "w"
 cases hb:decide (1≤i) with
 | false=>
  rw [hb,Bool.false_and] at q
  exact iteF q
 | true=>
  rw [hb,Bool.true_and] at q
  exact iteT q
def dl (K:PySem.W.Frag):Sp:=fun vs H Q _=>∃ h w g:Int,vs=[.int h,.int w,.int g]∧FlOk h w g∧∀ p,H p=none→Q (.ref p) (upd H p (.tup [.int h,.int w,.int g]))
theorem rW {K:PySem.W.Frag} {vs:List V} {H:Hp} {Q:VK} {E:XK} (h:dl K vs H Q E):vs.length=3:=by
 obtain ⟨_,_,_,rfl,_⟩:=h; rfl
def ib (K:PySem.W.Frag):TS:=
 (tSeq (tIfS (tNot (tB (tCall (aQ K) [] E0 (tCons (tVar 0) (tCons (tC (.int 6)) tNil))))) ce tNext)
  (tSeq (tIfS (tNot (tB (tCall (aQ K) [] E0 (tCons (tVar 1) (tCons (tC (.int 6)) tNil))))) ce tNext)
  (tSeq (tIfS (tTest (tOp (cCmp fun i j=>decide (j < i)) (tOp cMul (tVar 0) (tVar 1)) (tC (.int 16)))) ce tNext)
  (tSeq (tIfS (tNot (tB (tCall (aQ K) [] E0 (tCons (tVar 2) (tCons (tC (.int 6)) tNil))))) ce tNext)
  (tRet (tTup (tCons (tVar 0) (tCons (tVar 1) (tCons (tVar 2) tNil)))))))))
theorem rX {K:PySem.W.Frag} {vs:List V} {H:Hp} {Q:VK} {E:XK} (h:dl K vs H Q E):ib K { nx:=fun _ H'=>Q .non H',rt:=Q } (start ["high","wide","signs"] vs) H:=by
 obtain ⟨h,w,g,rfl,F,q⟩:=h
 obtain ⟨h0,h1,w0,w1,m16,g0,g1⟩:=id F
 show ib K _ [some (.int h),some (.int w),some (.int g)] H
 unfold ib
 rw [aR,aH]
 walk_at "w"
 refine ⟨h,6,rfl,⟨_,rfl,?_⟩⟩
 rw [decide_eq_true h0,decide_eq_true h1,Bool.and_self]
 refine iteF ?_
 rw [aH]
 walk_at "w"
 refine ⟨w,6,rfl,⟨_,rfl,?_⟩⟩
 rw [decide_eq_true w0,decide_eq_true w1,Bool.and_self]
 refine iteF ?_
 rw [aH]
 walk_at "w"
 refine ⟨dS h0 h1,?_⟩
 rw [decide_eq_false (show ¬ (16:Int) < h*w by omega)]
 refine iteF ?_
 rw [aH]
 walk_at "w"
 refine ⟨g,6,rfl,⟨_,rfl,?_⟩⟩
 rw [decide_eq_true g0,decide_eq_true g1,Bool.and_self]
 refine iteF ?_
 walk_at "w"
 exact ⟨aF (by show (3:Nat)≤1000; decide),q⟩
def bz (K:PySem.W.Frag):Sp:=fun vs H Q _=>∃ (p:Addr) (h w g:Int),vs=[.ref p]∧IsFl H p h w g∧FlOk h w g∧∀ p,H p=none→Q (.ref p) (upd H p (.tup [.int h,.int w,.int g]))
theorem mT {K:PySem.W.Frag} {vs:List V} {H:Hp} {Q:VK} {E:XK} (h:bz K vs H Q E):vs.length=1:=by
 obtain ⟨_,_,_,_,rfl,_⟩:=h; rfl
def c7 (K:PySem.W.Frag):TS:=
 (tSeq (tIfS (tOr (tNot (tB (tCB kIsi (tCons (tVar 0) (tCons (tC (.ty "tuple")) tNil))))) (tTest (tOp (cNe K) (tCB kLen (tCons (tVar 0) tNil)) (tC (.int 3))))) ce tNext)
  (tRet (tCall (dl K) [] E0 (tCons (tOp cIx (tVar 0) (tC (.int 0))) (tCons (tOp cIx (tVar 0) (tC (.int 1))) (tCons (tOp cIx (tVar 0) (tC (.int 2))) tNil))))))
theorem mU {K:PySem.W.Frag} {vs:List V} {H:Hp} {Q:VK} {E:XK} (h:bz K vs H Q E):c7 K { nx:=fun _ H'=>Q .non H',rt:=Q } (start ["floor"] vs) H:=by
 obtain ⟨p,h,w,g,rfl,hp,F,q⟩:=h
 show c7 K _ [some (.ref p)] H
 unfold c7
 rw [aR,aH]
 walk_at "w"
 refine u7 hp ?_
 walk_at "w"
 rw [uQ hp,show (([V.int h,V.int w,V.int g]:List V).length:Int)=3 from rfl]
 walk_at "w"
 refine ixT hp (v:=V.int h) rfl ?_
 walk_at "w"
 refine ixT hp (v:=V.int w) rfl ?_
 walk_at "w"
 refine ixT hp (v:=V.int g) rfl ?_
 walk_at "w"
 exact ⟨h,w,g,rfl,F,q⟩
def cn (K:PySem.W.Frag) (c:RCl RK):Sp:=fun vs H Q _=>∃ (p a:Addr) (h w g:Int) (rows:List RR),vs=[.ref p,.ref a]∧IsFl H p h w g∧H a=some (.lst ((rows.map RR.txt).map V.str))∧lm c h w g rows∧
 ∀ l rs H',Same H H'→H l=none→IsRules H' c p l rs rows→Q (.ref l) H'
theorem pR {K:PySem.W.Frag} {c:RCl RK} {vs:List V} {H:Hp} {Q:VK} {E:XK} (h:cn K c vs H Q E):vs.length=2:=by
 obtain ⟨_,_,_,_,_,_,rfl,_⟩:=h; rfl
def fb (K:PySem.W.Frag) (c:RCl RK):TS:=
 (tSeq (tIfS (tTest (tOp (cCmp fun i j=>decide (j < i)) (tCB kLen (tCons (tVar 1) tNil)) (tC (.int 12)))) ce tNext)
  (tRet (tComp [none,none,some 0] (iList K (tVar 1)) (gName 1) tTrue (tCall (cQ K c) [] E0 (tCons (tVar 2) (tCons (tVar 1) tNil))))))
theorem pS {K:PySem.W.Frag} {c:RCl RK} {vs:List V} {H:Hp} {Q:VK} {E:XK} (h:cn K c vs H Q E):fb K c { nx:=fun _ H'=>Q .non H',rt:=Q } (start ["floor","lines"] vs) H:=by
 obtain ⟨p,a,h,w,g,rows,rfl,hp,ha,O,q⟩:=h
 have hn:=O.n
 show fb K c _ [some (.ref p),some (.ref a)] H
 unfold fb
 rw [aR,aH]
 walk_at "w"
 rw [cg ha,List.length_map,List.length_map]
 walk_at "w"
 rw [decide_eq_false (show ¬ (12:Int) < (rows.length:Nat) by omega)]
 refine iteF ?_
 walk_at "w"
 refine ⟨⟨_,SqL.of ha⟩,?_⟩
 refine pw (xs:=(rows.map RR.txt).map V.str) (fun l i σ H'=>(∃ cv,σ=[none,cv,some (.ref p)])∧Same H H'∧∃ rs:List Addr,H' l=some (.lst (rs.map V.ref))∧rs.length=i∧∀ (j:Nat) (r:Addr) (x:RR),rs[j]? =some r→rows[j]? =some x→IsRule H' c x.k r p x.ws x.cs x.n x.m)
  (fun l hl=>⟨⟨none,rfl⟩,(Same.refl H).laid hl,[],by rw [ag]; rfl,rfl,fun j r x e=>by simp at e⟩) (fun l i σ H' _ _ x=>x.2.1.seq (SqL.of ha)) ?_ ?_
 · rintro l i x σ H1 hl hx ⟨⟨cv,rfl⟩,s1,rs,el,hlen,hat⟩
   rw [List.getElem?_map,List.getElem?_map] at hx
   cases e:rows[i]? with
   | none=>rw [e] at hx; cases hx
   | some y=>
    rw [e] at hx
    cases hx
    have hi:=(List.getElem?_eq_some_iff.mp e).1
    have hm:=List.mem_of_getElem? e
    rw [bK]
    show tTrue [none,some (.str y.txt),some (.ref p)] H1 _
    walk_at "w"
    refine ⟨y.k,p,h,w,g,y.n,y.m,y.ns,y.cs,rfl,s1 _ _ hp,O.F,O.ok y hm,O.c y hm,fun r H2 s2 hr xr=>?_⟩
    have nrl:r≠l:=fun z=>by rw [z,el] at hr; cases hr
    refine ⟨_,s2 _ _ el,by rw [List.length_map]; exact aG (by omega),⟨_,rfl⟩,(s1.trans s2).own hl,rs++[r],by rw [ag]; simp,by simp [hlen],fun j r' x' h1 h2=>?_⟩
    by_cases hj:j < rs.length
    · rw [List.getElem?_append_left hj] at h1
      exact ((hat j r' x' h1 h2).same s2).lst (s2 _ _ el)
    · rw [List.getElem?_append_right (by omega)] at h1
      have hj0:j - rs.length=0:=by
       have:=(List.getElem?_eq_some_iff.mp h1).1
       simp at this
       omega
      rw [hj0] at h1
      have:j=i:=by omega
      subst this
      rw [e] at h2
      simp at h1
      cases h2
      subst h1
      exact xr.lst (s2 _ _ el)
 · rintro l σ H1 hl ⟨_,s1,rs,el,hlen,hat⟩
   exact q l rs H1 s1 hl ⟨el,by rw [hlen]; simp,hat⟩
def filB (least g:Int) (n:Nat) (xs:List Int):Bool:=decide (xs.length=n)&&xs.all fun x=>decide (least≤x)&&decide (x≤g)
def cp (K:PySem.W.Frag):Sp:=fun vs H Q _=>∃ (p a:Addr) (h w g least:Int) (xs:List Int),vs=[.ref p,.ref a,.int least]∧IsFl H p h w g∧FlOk h w g∧H a=some (.lst (xs.map V.int))∧xs.length≤100∧∀ H',Same H H'→Q (.bl (filB least g (h*w).toNat xs)) H'
theorem pT {K:PySem.W.Frag} {vs:List V} {H:Hp} {Q:VK} {E:XK} (h:cp K vs H Q E):vs.length=3:=by
 obtain ⟨_,_,_,_,_,_,_,rfl,_⟩:=h; rfl
def fc (K:PySem.W.Frag):TS:=
 (tSeq (tIfS (tOr (tNot (tB (tCB kIsi (tCons (tVar 1) (tCons (tC (.ty "list")) tNil))))) (tTest (tOp (cNe K) (tCB kLen (tCons (tVar 1) tNil)) (tCall (aP K) [] E0 (tCons (tVar 0) tNil))))) (tRet (tC (.bl false))) tNext)
  (tRet (tCB kAll (tCons (tComp [none,none,some 0,some 2] (iList K (tVar 1)) (gName 1) tTrue (tAndV (tCall (aU K) [] E0 (tCons (tVar 1) tNil)) (tAndV (tOp (cCmp fun i j=>decide (i≤j)) (tVar 3) (tVar 1)) (tOp (cCmp fun i j=>decide (i≤j)) (tVar 1) (tOp cIx (tVar 2) (tC (.int 2))))))) tNil))))
theorem pU {K:PySem.W.Frag} {vs:List V} {H:Hp} {Q:VK} {E:XK} (h:cp K vs H Q E):fc K { nx:=fun _ H'=>Q .non H',rt:=Q } (start ["floor","filling","least"] vs) H:=by
 obtain ⟨p,a,h,w,g,least,xs,rfl,hp,F,ha,hn,q⟩:=h
 obtain ⟨h0,h1,w0,w1,m16,g0,g1⟩:=id F
 have mpos:0≤h*w:=Int.mul_nonneg (by omega) (by omega)
 show fc K _ [some (.ref p),some (.ref a),some (.int least)] H
 unfold fc
 rw [aR,aH]
 walk_at "w"
 refine u6 ha ?_
 walk_at "w"
 rw [cg ha,List.length_map]
 walk_at "w"
 refine ⟨p,h,w,g,rfl,hp,h0,h1,?_⟩
 walk_at "w"
 unfold filB at q
 by_cases hl:xs.length=(h*w).toNat
 · rw [decide_eq_true (show (xs.length:Int)=h*w by omega)]
   rw [decide_eq_true hl] at q
   walk_at "w"
   refine ⟨⟨_,SqL.of ha⟩,?_⟩
   refine fY (xs:=xs.map V.int) (fun _=>true) (fun i=>.bl (decide (least≤xs.getD i 0)&&decide (xs.getD i 0≤g))) (by rw [List.length_map]; omega) (SqL.of ha) ?_ ?_ ?_
   · intro i x H1 R hx s1 k1
     exact k1 _ (Same.refl _)
   · intro i x H1 Q1 hx hb s1 k1
     obtain ⟨z,hz,rfl⟩:=bY hx
     have q1:=k1 _ (Same.refl H1)
     rw [l3 hz] at q1
     show tAndV _ _ [none,some (.int z),some (.ref p),some (.int least)] H1 Q1
     walk_at "w"
     refine ⟨z,rfl,⟨true,rfl,iteT ?_⟩⟩
     walk_at "w"
     cases hb:decide (least≤z) with
     | false=>
      rw [hb,Bool.false_and] at q1
      exact iteF q1
     | true=>
      rw [hb,Bool.true_and] at q1
      refine iteT ?_
      walk_at "w"
      refine ixT (s1 _ _ hp) (v:=V.int g) rfl ?_
      walk_at "w"
      exact q1
   · intro l H1 hl1 s1 el
     have eb:((List.range (xs.map V.int).length).filter fun _=>true).map (fun i=>V.bl (decide (least≤xs.getD i 0)&&decide (xs.getD i 0≤g)))=(xs.map fun x=>decide (least≤x)&&decide (x≤g)).map V.bl:=by
      rw [fu,List.length_map]
      refine List.ext_getElem? fun i=>?_
      rw [List.getElem?_map,List.getElem?_map,List.getElem?_map]
      by_cases h:i < xs.length
      · rw [List.getElem?_range h,List.getElem?_eq_getElem h]
        simp [List.getD,h]
      · rw [List.getElem?_eq_none (by simpa using h),List.getElem?_eq_none (by omega)]; rfl
     rw [eb] at el
     refine qb el ?_
     have ea:(xs.map fun x=>decide (least≤x)&&decide (x≤g)).all id=xs.all fun x=>decide (least≤x)&&decide (x≤g):=by rw [List.all_map]; rfl
     rw [ea]
     exact q _ s1
 · rw [decide_eq_false (show ¬ (xs.length:Int)=h*w by omega)]
   rw [decide_eq_false hl] at q
   walk_at "w"
   exact q _ (Same.refl _)
def bA (K:PySem.W.Frag):Sp:=fun vs H Q _=>∃ (p a:Addr) (h w g:Int) (xs:List Int),vs=[.ref p,.ref a]∧IsFl H p h w g∧FlOk h w g∧H a=some (.lst (xs.map V.int))∧CluesOk h w g xs∧∀ l H',Same H H'→H l=none→H' l=some (.lst (xs.map V.int))→Q (.ref l) H'
theorem mV {K:PySem.W.Frag} {vs:List V} {H:Hp} {Q:VK} {E:XK} (h:bA K vs H Q E):vs.length=2:=by
 obtain ⟨_,_,_,_,_,_,rfl,_⟩:=h; rfl
def c8 (K:PySem.W.Frag):TS:=
 (tSeq (tIfS (tNot (tB (tCall (cp K) [] E0 (tCons (tVar 0) (tCons (tVar 1) (tCons (tC (.int 0)) tNil)))))) ce tNext)
  (tRet (tCB kList (tCons (tVar 1) tNil))))
theorem CluesOk.fil {h w g:Int} {xs:List Int} (C:CluesOk h w g xs):filB 0 g (h*w).toNat xs=true:=by
 unfold filB
 rw [decide_eq_true C.len,Bool.true_and,List.all_eq_true]
 intro x hx
 have:=C.ok x hx
 simp [this.1,this.2]
theorem mW {K:PySem.W.Frag} {vs:List V} {H:Hp} {Q:VK} {E:XK} (h:bA K vs H Q E):c8 K { nx:=fun _ H'=>Q .non H',rt:=Q } (start ["floor","clues"] vs) H:=by
 obtain ⟨p,a,h,w,g,xs,rfl,hp,F,ha,C,q⟩:=h
 obtain ⟨h0,h1,w0,w1,m16,g0,g1⟩:=id F
 show c8 K _ [some (.ref p),some (.ref a)] H
 unfold c8
 rw [aR,aH]
 walk_at "w"
 refine ⟨p,a,h,w,g,0,xs,rfl,hp,F,ha,by have:=C.len; omega,fun H1 s1=>?_⟩
 rw [C.fil]
 refine ⟨true,rfl,iteF ?_⟩
 walk_at "w"
 refine uR (s1 _ _ ha) fun l hl=>?_
 exact q l _ (s1.laid hl) (s1.free hl) ag
theorem IsRule.ins {H:Hp} {c:RCl RK} {k:RK} {r p a:Addr} {ws:List (List Nat)} {cs:List Int} {n m:Int} {C dx:Addr} {fs:List (Str × V)} {o:HO} (x:IsRule H c k r p ws cs n m) (ha:H a=some (.ins C dx fs)) (hf:fs.length≠5):IsRule (upd H a o) c k r p ws cs n m:=by
 obtain ⟨dx',W,C',h1,h2,h3⟩:=x.ex
 refine ⟨x.ok,dx',W,C',?_,?_,?_⟩
 · rw [aj (fun e=>by rw [e,ha] at h1; cases h1; exact hf rfl)]; exact h1
 · rw [aj (fun e=>by rw [e,ha] at h2; cases h2)]; exact h2
 · rw [aj (fun e=>by rw [e,ha] at h3; cases h3)]; exact h3
theorem IsRules.ins {H:Hp} {c:RCl RK} {p L a:Addr} {rs:List Addr} {rows:List RR} {C dx:Addr} {fs:List (Str × V)} {o:HO} (x:IsRules H c p L rs rows) (ha:H a=some (.ins C dx fs)) (hf:fs.length≠5):IsRules (upd H a o) c p L rs rows:=
 ⟨by rw [aj (fun e=>by have:=x.top; rw [e,ha] at this; cases this)]; exact x.top,x.len,fun i r y h1 h2=>(x.at_ i r y h1 h2).ins ha hf⟩
def aV (K:PySem.W.Frag) (c:RCl RK) (d:RCl PzK):Sp:=fun vs H Q _=>∃ (x dx p a b:Addr) (h w g:Int) (rows:List RR) (cl:List Int),vs=[.ref x,.ref p,.ref a,.ref b]∧d.ok .Puzzle=true∧H x=some (.ins (d.A .Puzzle) dx [])∧IsFl H p h w g∧H a=some (.lst ((rows.map RR.txt).map V.str))∧H b=some (.lst (cl.map V.int))∧lm c h w g rows∧CluesOk h w g cl∧
 ∀ L G H',(∀ y o,y≠x→H y=some o→H' y=some o)→H L=none→H G=none→IsPz H' c d x L G h w g rows cl→Q .non H'
theorem lp {K:PySem.W.Frag} {c:RCl RK} {d:RCl PzK} {vs:List V} {H:Hp} {Q:VK} {E:XK} (h:aV K c d vs H Q E):vs.length=4:=by
 obtain ⟨_,_,_,_,_,_,_,_,_,_,rfl,_⟩:=h; rfl
def cw (K:PySem.W.Frag) (c:RCl RK) (d:RCl PzK):TS:=
 (tSeq (sFldK d (tVar 0) (tCall (bz K) [] E0 (tCons (tVar 1) tNil)) "floor")
  (tSeq (sFldK d (tVar 0) (tCall (cn K c) [] E0 (tCons (tFldK d (tVar 0) "floor") (tCons (tVar 2) tNil))) "laws")
  (sFldK d (tVar 0) (tCall (bA K) [] E0 (tCons (tFldK d (tVar 0) "floor") (tCons (tVar 3) tNil))) "given")))
theorem lq {K:PySem.W.Frag} {c:RCl RK} {d:RCl PzK} {vs:List V} {H:Hp} {Q:VK} {E:XK} (h:aV K c d vs H Q E):cw K c d { nx:=fun _ H'=>Q .non H',rt:=Q } (start ["self","floor","lines","clues"] vs) H:=by
 obtain ⟨x,dx,p,a,b,h,w,g,rows,cl,rfl,ok,hx,hp,ha,hb,R,C,q⟩:=h
 show cw K c d _ [some (.ref x),some (.ref p),some (.ref a),some (.ref b)] H
 unfold cw sFldK
 walk_at "w"
 refine ⟨p,h,w,g,rfl,hp,R.F,fun p1 hp1=>?_⟩
 have nxp:x≠p1:=aA hx hp1
 refine ⟨x,.Puzzle,dx,[],rfl,ok,by rw [aj nxp]; exact hx,by show (0:Nat) < 1000; decide,?_⟩
 have f1:∀ y o,y≠x→H y=some o→(upd (upd H p1 (.tup [.int h,.int w,.int g])) x (.ins (d.A .Puzzle) dx (putF "floor" (.ref p1) []))) y=some o:=fun y o ny e=>by
  rw [aj ny,aj (aA e hp1)]; exact e
 have hx1:(upd (upd H p1 (.tup [.int h,.int w,.int g])) x (.ins (d.A .Puzzle) dx (putF "floor" (.ref p1) []))) x=some (.ins (d.A .Puzzle) dx [("floor",.ref p1)]):=ag
 have hp1':IsFl (upd (upd H p1 (.tup [.int h,.int w,.int g])) x (.ins (d.A .Puzzle) dx (putF "floor" (.ref p1) []))) p1 h w g:=by
  show (upd (upd H p1 (.tup [.int h,.int w,.int g])) x _) p1=_
  rw [aj nxp.symm,ag]
 have fr1:∀ l,(upd (upd H p1 (.tup [.int h,.int w,.int g])) x (.ins (d.A .Puzzle) dx (putF "floor" (.ref p1) []))) l=none→H l=none:=fun l e=>by
  have n1:l≠x:=fun z=>by rw [z,ag] at e; cases e
  rw [aj n1] at e
  have n2:l≠p1:=fun z=>by rw [z,ag] at e; cases e
  rw [aj n2] at e
  exact e
 have nax:a≠x:=fun z=>by rw [z,hx] at ha; cases ha
 have nbx:b≠x:=fun z=>by rw [z,hx] at hb; cases hb
 generalize upd (upd H p1 (.tup [.int h,.int w,.int g])) x (.ins (d.A .Puzzle) dx (putF "floor" (.ref p1) []))=H1 at*
 refine fldE (c:=d) (k:=.Puzzle) rfl ok hx1 (v:=.ref p1) (by rfl) ?_
 walk_at "w"
 refine ⟨p1,a,h,w,g,rows,rfl,hp1',f1 a _ nax ha,R,fun L rs H2 s2 hL X=>?_⟩
 refine ⟨x,.Puzzle,dx,_,rfl,ok,s2 _ _ hx1,by show (1:Nat) < 1000; decide,?_⟩
 have nxL:L≠x:=fun z=>by rw [z,hx1] at hL; cases hL
 have X3:=X.ins (o:=.ins (d.A .Puzzle) dx (putF "laws" (.ref L) [("floor",.ref p1)])) (s2 _ _ hx1) (by show (1:Nat)≠5; decide)
 have f2:∀ y o,y≠x→H y=some o→(upd H2 x (.ins (d.A .Puzzle) dx (putF "laws" (.ref L) [("floor",.ref p1)]))) y=some o:=fun y o ny e=>by
  rw [aj ny]; exact s2 _ _ (f1 y o ny e)
 have hx3:(upd H2 x (.ins (d.A .Puzzle) dx (putF "laws" (.ref L) [("floor",.ref p1)]))) x=some (.ins (d.A .Puzzle) dx [("floor",.ref p1),("laws",.ref L)]):=ag
 have hp3:IsFl (upd H2 x (.ins (d.A .Puzzle) dx (putF "laws" (.ref L) [("floor",.ref p1)]))) p1 h w g:=by
  show (upd H2 x _) p1=_
  rw [aj nxp.symm]; exact s2 _ _ hp1'
 have fr3:∀ l,(upd H2 x (.ins (d.A .Puzzle) dx (putF "laws" (.ref L) [("floor",.ref p1)]))) l=none→H1 l=none:=fun l e=>by
  have n1:l≠x:=fun z=>by rw [z,ag] at e; cases e
  rw [aj n1] at e
  exact s2.free e
 generalize upd H2 x (.ins (d.A .Puzzle) dx (putF "laws" (.ref L) [("floor",.ref p1)]))=H3 at*
 refine fldE (c:=d) (k:=.Puzzle) rfl ok hx3 (v:=.ref p1) (by rfl) ?_
 walk_at "w"
 refine ⟨p1,b,h,w,g,cl,rfl,hp3,R.F,f2 b _ nbx hb,C,fun G H4 s4 hG eG=>?_⟩
 refine ⟨x,.Puzzle,dx,_,rfl,ok,s4 _ _ hx3,by show (2:Nat) < 1000; decide,?_⟩
 have nxG:G≠x:=fun z=>by rw [z,hx3] at hG; cases hG
 refine q L G _ (fun y o ny e=>?_) (fr1 L hL) (fr1 G (fr3 G hG)) ⟨ok,R,C,?_,dx,p1,rs,?_,?_,?_⟩
 · rw [aj ny]; exact s4 _ _ (f2 y o ny e)
 · rw [aj nxG]; exact eG
 · rw [ag]; rfl
 · show (upd H4 x _) p1=_
   rw [aj nxp.symm]; exact s4 _ _ hp3
 · exact (X3.same s4).ins (s4 _ _ hx3) (by show (2:Nat)≠5; decide)
theorem ya {K:PySem.W.Frag} {c:RCl RK} {d:RCl PzK} {H:Hp} {Z:Addr→Hp→Prop} {p a b:Addr} {h w g:Int} {rows:List RR} {cl:List Int} (ok:d.ok .Puzzle=true) (hp:IsFl H p h w g) (ha:H a=some (.lst ((rows.map RR.txt).map V.str))) (hb:H b=some (.lst (cl.map V.int))) (R:lm c h w g rows) (C:CluesOk h w g cl)
  (q:∀ P L G H',Same H H'→H P=none→H L=none→H G=none→IsPz H' c d P L G h w g rows cl→Z P H'):
  ∀ x dx,H x=none→H dx=none→dx≠x→aV K c d (.ref x::([.ref p,.ref a,.ref b]++[])) (upd (upd H dx (.own x)) x (.ins (d.A .Puzzle) dx [])) (fun v H2=>v=.non∧Z x H2) E0:=by
 intro x dx hx hd ne
 have k:∀ y o,H y=some o→(upd (upd H dx (.own x)) x (.ins (d.A .Puzzle) dx [])) y=some o:=fun y o e=>by rw [aj (aA e hx),aj (aA e hd)]; exact e
 have fr:∀ y,(upd (upd H dx (.own x)) x (.ins (d.A .Puzzle) dx [])) y=none→H y=none:=fun y e=>by
  have n1:y≠x:=fun z=>by rw [z,ag] at e; cases e
  rw [aj n1] at e
  have n2:y≠dx:=fun z=>by rw [z,ag] at e; cases e
  rw [aj n2] at e
  exact e
 exact ⟨x,dx,p,a,b,h,w,g,rows,cl,rfl,ok,ag,k _ _ hp,k _ _ ha,k _ _ hb,R,C,fun L G H' hs hL hG X=>⟨rfl,q x L G H' (fun y o e=>hs y o (aA e hx) (k _ _ e)) hx (fr L hL) (fr G hG) X⟩⟩
def gQ (K:PySem.W.Frag) (c:RCl RK) (d:RCl PzK) (_:PzK):Sp:=fun vs H Q _=>∃ (P L G:Addr) (h w g:Int) (rows:List RR) (cl:List Int),vs=[.ref P]∧IsPz H c d P L G h w g rows cl∧∀ p,IsFl H p h w g→Q (.ref p) H
def dA (K:PySem.W.Frag) (c:RCl RK) (d:RCl PzK):Sp:=gQ K c d .Puzzle
theorem nV {K:PySem.W.Frag} {c:RCl RK} {d:RCl PzK} {vs:List V} {H:Hp} {Q:VK} {E:XK} (h:dA K c d vs H Q E):vs.length=1:=by
 obtain ⟨_,_,_,_,_,_,_,_,rfl,_⟩:=h; rfl
def dB (K:PySem.W.Frag) (c:RCl RK) (d:RCl PzK):TS:=
 (tRet (tFldK d (tVar 0) "floor"))
theorem nX {K:PySem.W.Frag} {c:RCl RK} {d:RCl PzK} {vs:List V} {H:Hp} {Q:VK} {E:XK} (h:dA K c d vs H Q E):dB K c d { nx:=fun _ H'=>Q .non H',rt:=Q } (start ["self"] vs) H:=by
 obtain ⟨P,L,G,h,w,g,rows,cl,rfl,x,q⟩:=h
 obtain ⟨dx,p,rs,h1,h2,h3⟩:=x.ex
 show dB K c d _ [some (.ref P)] H
 unfold dB
 walk_at "w"
 exact fldE (k:=.Puzzle) rfl x.ok h1 (v:=.ref p) (by rfl) (q p h2)
def gR (K:PySem.W.Frag) (c:RCl RK) (d:RCl PzK) (_:PzK):Sp:=fun vs H Q _=>∃ (P L G:Addr) (h w g:Int) (rows:List RR) (cl:List Int),vs=[.ref P]∧IsPz H c d P L G h w g rows cl∧∀ l p rs,H l=none→IsFl (upd H l (.lst (rs.map V.ref))) p h w g→IsRules (upd H l (.lst (rs.map V.ref))) c p l rs rows→Q (.ref l) (upd H l (.lst (rs.map V.ref)))
def dC (K:PySem.W.Frag) (c:RCl RK) (d:RCl PzK):Sp:=gR K c d .Puzzle
theorem nY {K:PySem.W.Frag} {c:RCl RK} {d:RCl PzK} {vs:List V} {H:Hp} {Q:VK} {E:XK} (h:dC K c d vs H Q E):vs.length=1:=by
 obtain ⟨_,_,_,_,_,_,_,_,rfl,_⟩:=h; rfl
def dD (K:PySem.W.Frag) (c:RCl RK) (d:RCl PzK):TS:=
 (tRet (tCB kList (tCons (tFldK d (tVar 0) "laws") tNil)))
theorem nZ {K:PySem.W.Frag} {c:RCl RK} {d:RCl PzK} {vs:List V} {H:Hp} {Q:VK} {E:XK} (h:dC K c d vs H Q E):dD K c d { nx:=fun _ H'=>Q .non H',rt:=Q } (start ["self"] vs) H:=by
 obtain ⟨P,L,G,h,w,g,rows,cl,rfl,x,q⟩:=h
 obtain ⟨dx,p,rs,h1,h2,h3⟩:=x.ex
 show dD K c d _ [some (.ref P)] H
 unfold dD
 walk_at "w"
 refine fldE (k:=.Puzzle) rfl x.ok h1 (v:=.ref L) (by rfl) ?_
 walk_at "w"
 refine uR h3.top fun l hl=>?_
 have s1:Same H (upd H l (.lst (rs.map V.ref))):=(Same.refl H).laid hl
 exact q l p rs hl (s1 _ _ h2) ⟨ag,h3.len,fun i r y e1 e2=>(h3.at_ i r y e1 e2).same s1⟩
end L2
namespace L2
open PySem PySem.Spec PyProof.Rows
inductive DRows (w:World) (K:PySem.W.Frag):List DictEntry→List (Str × List Str)→Prop
 | nil:DRows w K [] []
 | cons {hsh:Int} {k:Str} {t:Tok} {q:Addr} {o:Obj} {its:Array Value} {n:Nat} {ws:List Str} {es:List DictEntry} {D:List (Str × List Str)}:hsh=hashStr w k→K.lookup q=some o→o.cls=.type "tuple"→o.data=.seq its n→its.size≤sizeLine→Vals (ws.map V.str) its.toList→DRows w K es D→DRows w K (⟨hsh,.str k t,.ref q⟩::es) ((k,ws)::D)
structure GDict (w:World) (K:PySem.W.Frag) (mg:Str→Option Value) (x:Str) (D:List (Str × List Str)):Prop where
 ex:∃ (p:Addr) (o:Obj) (es:Array DictEntry) (ep:Nat),mg x=some (.ref p)∧K.lookup p=some o∧o.ExactDict∧o.data=.dict es ep∧DRows w K es.toList D∧(D.map fun x=>x.1).Nodup
theorem DRows.of {P:Program} {w:World} {K:PySem.W.Frag} {es:List DictEntry} {D:List (Str × List Str)} (h:DRows w K es D):
  ∃ kvs:List (Str × Value),Pairs (strKind P w) es kvs∧kvs.map (fun x=>x.1)=D.map (fun x=>x.1)∧(∀ e∈es,∃ k,(strKind P w).is k e.key=true∧e.hash=(strKind P w).hash k)∧
   ∀ k ws,D.lookup k=some ws→∃ q,valueAt kvs k=some (.ref q)∧∃ (o:Obj) (its:Array Value) (n:Nat),K.lookup q=some o∧o.cls=.type "tuple"∧o.data=.seq its n∧its.size≤sizeLine∧Vals (ws.map V.str) its.toList:=by
 induction h with
 | nil=>exact ⟨[],.nil,rfl,fun e he=>(by cases he),fun k ws e=>(by cases e)⟩
 | @cons hsh k t q o its n ws es D h1 h2 h3 h4 h5 h6 _ ih=>
  obtain ⟨kvs,p1,p2,p3,p4⟩:=ih
  have hk:(strKind P w).is k (.str k t)=true:=by show (k==k)=true; simp
  refine ⟨(k,.ref q)::kvs,.cons hk rfl p1,by rw [List.map_cons,List.map_cons,p2],fun e he=>?_,fun k' ws' e=>?_⟩
  · rcases List.mem_cons.mp he with rfl | he
    · exact ⟨k,hk,h1⟩
    · exact p3 e he
  · rw [List.lookup_cons] at e
    unfold valueAt
    rw [List.find?_cons]
    by_cases hkk:k'=k
    · subst hkk
      simp at e
      subst e
      refine ⟨q,by simp,o,its,n,h2,h3,h4,h5,h6⟩
    · have hb:(k'==k)=false:=by simpa using hkk
      rw [hb] at e
      have hd:decide (k=k')=false:=decide_eq_false (fun z=>hkk z.symm)
      dsimp only
      rw [hd]
      exact p4 k' ws' e
def tIxG (K:PySem.W.Frag) (D:List (Str × List Str)) (te:TE):TE:=fun σ H Q=>te σ H fun y H1=>∃ k ws,y=.str k∧D.lookup k=some ws∧∀ q,SqT K H1 q (ws.map V.str)→Q (.ref q) H1
def rInS (K:PySem.W.Frag):R2:=fun x y H Q=>∃ (z:Str) (q:Addr) (ws:List Str),x=.str z∧y=.ref q∧SqT K H q (ws.map V.str)∧Q (.bl (decide (z∈ws))) H
section
variable {X:Cx} {a b:Expr} {ta tb:TE} {pos p:Pos} {x:Str} {D:List (Str × List Str)}
theorem yc (G:GDict X.w X.K X.mg x D) (hb:PE X b tb) (hg:Gl X x) (hpi:sw b) (hdb:(x==("__debug__":Str))=false:=by decide):PE X (.Subscript (.Name x p) b pos) (tIxG X.K D tb):=by
 obtain ⟨pd,o,es,ep,h1,h2,h3,h4,h5,h6⟩:=G.ex
 obtain ⟨kvs,p1,p2,p3,p4⟩:=h5.of (P:=X.prog)
 have ir:IxR X (fun x y H Q=>x=.ref pd∧∃ k ws,y=.str k∧D.lookup k=some ws∧∀ q,SqT X.K H q (ws.map V.str)→Q (.ref q) H):=by
  intro value slice pins s σ H x y v u Q I rx ry h hs
  obtain ⟨rfl,k,ws,rfl,hl,q⟩:=h
  cases (show v=Value.ref pd from rx)
  have hget:s.heap.get? pd=some o:=I.kIn pd o h2
  have dd:Heap.DictOf (strKind X.prog X.w) s.heap pd kvs:=⟨o,es,ep,hget,h3,h4,fun e he=>p3 e (Array.mem_toList_iff.mpr he),p1,by rw [p2]; exact h6⟩
  obtain ⟨qa,hv,o2,its,n,g1,g2,g3,g4,g5⟩:=p4 k ws hl
  obtain ⟨t,rfl⟩:∃ t,u=Value.str k t:=ry
  have hk:(strKind X.prog X.w).is k (.str k t)=true:=by show (k==k)=true; simp
  refine tail_any dd.typeIs PySem.F.slot_dict_getitem.lookup (wpAny_getItem_of hk dd.mapOf hv ?_) hs
  exact ⟨.ref qa,H,I.tok _,rfl,q qa (.inr ⟨o2,its,n,g1,g2,g3,g4,g5⟩)⟩
 have h0:=ak (pos:=pos) ir (cI (pos:=p) (v:=V.ref pd) hg h1 rfl hdb) hb hpi
 intro pins s σ H Q I h
 refine h0 pins s σ H Q I ?_
 have e:(fun (y:V) (H1:Hp)=>∃ k ws,y=.str k∧D.lookup k=some ws∧∀ q,SqT X.K H1 q (ws.map V.str)→Q (.ref q) H1)=fun y H1=>(V.ref pd=V.ref pd)∧∃ k ws,y=.str k∧D.lookup k=some ws∧∀ q,SqT X.K H1 q (ws.map V.str)→Q (.ref q) H1:=by
  funext y H1; simp
 have h':tb σ H (fun (y:V) (H1:Hp)=>∃ k ws,y=.str k∧D.lookup k=some ws∧∀ q,SqT X.K H1 q (ws.map V.str)→Q (.ref q) H1):=h
 rw [e] at h'
 exact h'
theorem yd:OpR X (compareOp .In) (rInS X.K):=by
 intro pins s σ H x y v u Q I rx ry h
 obtain ⟨z,q,ws,rfl,rfl,hq,h⟩:=h
 refine kZ pins s σ H _ _ v u Q I rx ry ⟨q,ws.map V.str,rfl,.inr hq,rfl,jG ws,?_⟩
 rw [kz]
 exact h
end
section
variable {K:PySem.W.Frag} {σ:St} {H:Hp} {Q:VK} {te:TE} {D:List (Str × List Str)}
theorem yM:tIxG K D te σ H Q=te σ H fun y H1=>∃ k ws,y=.str k∧D.lookup k=some ws∧∀ q,SqT K H1 q (ws.map V.str)→Q (.ref q) H1:=rfl
end
end L2
namespace L2
open PySem PySem.Spec PyProof.Rows
local macro_rules | `(tactic| walk_at "w")=>`(tactic| (first | simp only [aR,if_true,if_false,Bool.false_eq_true,decide_true,decide_false,jc,jd,l5,gG,fv,ja,j9,jb,gF,j7,j8,gE,lY,gH,gI,gK,gL,gM,gN,gJ,ka,kb,kc,j6,l4,Bool.not_true,Bool.not_false,eF,eV,bK,hE,w_c,kl,fH,fI,eI,fJ,w_b,w_not,io,km,fK,fM,ip,hJ,eJ,kn,fN,iq,iu,jN,iw,fO,fP,fQ,fR,d7,d8,cL,cW,cX,cr,iy,iz,iA,iC,iD,iE,iF,iG,iH,iI,iJ,iK,kq,fS,cY,fT,kr,fU,d9,cZ,iL,iO,fV,fW,fX,
 List.getElem?_cons_zero,List.getElem?_cons_succ,Option.some.injEq,exists_eq_left',exists_eq_left,List.set_cons_zero,List.set_cons_succ,cA,V.int.injEq,V.bl.injEq,V.ref.injEq,V.str.injEq,List.append_nil,List.nil_append,List.cons_append] | dsimp only | skip))
def stB (m s:Int):Bool:=decide (1≤s)&&(decide (s≤((Builtin.Int.intBits m:Nat):Int))&&decide (m / 2^(s - 1).toNat % 2=1))
def b7 (K:PySem.W.Frag):Sp:=fun vs H Q _=>∃ m s:Int,vs=[.int m,.int s]∧Q (.bl (stB m s)) H
theorem vf {K:PySem.W.Frag} {vs:List V} {H:Hp} {Q:VK} {E:XK} (h:b7 K vs H Q E):vs.length=2:=by
 obtain ⟨_,_,rfl,_⟩:=h; rfl
def jI (K:PySem.W.Frag):TS:=
 (tRet (tAndV (tOp (cCmp fun i j=>decide (i≤j)) (tC (.int 1)) (tVar 1)) (tAndV (tOp (cCmp fun i j=>decide (i≤j)) (tVar 1) (vP K "int" lZ (tVar 0))) (tOp (cEq K) (tOp cMod (tOp cShr (tVar 0) (tOp cSub (tVar 1) (tC (.int 1)))) (tC (.int 2))) (tC (.int 1))))))
theorem vg {K:PySem.W.Frag} {vs:List V} {H:Hp} {Q:VK} {E:XK} (h:b7 K vs H Q E):jI K { nx:=fun _ H'=>Q .non H',rt:=Q } (start ["mask","sign"] vs) H:=by
 obtain ⟨m,s,rfl,q⟩:=h
 show jI K _ [some (.int m),some (.int s)] H
 unfold jI
 walk_at "w"
 unfold stB at q
 cases h1:decide (1≤s) with
 | false=>rw [h1,Bool.false_and] at q; exact iteF q
 | true=>
  refine iteT ⟨rfl,?_⟩
  walk_at "w"
  rw [h1,Bool.true_and] at q
  cases h2:decide (s≤((Builtin.Int.intBits m:Nat):Int)) with
  | false=>rw [h2,Bool.false_and] at q; exact iteF q
  | true=>
   rw [h2,Bool.true_and] at q
   exact iteT ⟨by have:=of_decide_eq_true h1; omega,by decide,q⟩
def fB (K:PySem.W.Frag):Sp:=fun vs H Q _=>∃ s:Int,vs=[.int s]∧1≤s∧s≤100000∧Q (.int (2^(s - 1).toNat)) H
theorem vh {K:PySem.W.Frag} {vs:List V} {H:Hp} {Q:VK} {E:XK} (h:fB K vs H Q E):vs.length=1:=by
 obtain ⟨_,rfl,_⟩:=h; rfl
def jJ (K:PySem.W.Frag):TS:=
 (tSeq (tAsg (tC (.int 1)) (gName 1))
  (tSeq (tFor (cD (tCons (tOp cSub (tVar 0) (tC (.int 1))) tNil)) (gName 2)
  (tAsg (tOp cMul (tVar 1) (tC (.int 2))) (gName 1)))
  (tRet (tVar 1))))
theorem vi {K:PySem.W.Frag} {vs:List V} {H:Hp} {Q:VK} {E:XK} (h:fB K vs H Q E):jJ K { nx:=fun _ H'=>Q .non H',rt:=Q } (start ["sign","bit","step"] vs) H:=by
 obtain ⟨s,rfl,h1,h2,q⟩:=h
 show jJ K _ [some (.int s),none,none] H
 unfold jJ
 walk_at "w"
 refine ⟨s - 1,rfl,by omega,by omega,?_⟩
 refine cV (fun i σ H'=>∃ sv:Option V,σ=[some (.int s),some (.int (2^i)),sv]∧H'=H) ⟨none,rfl,rfl⟩ ?_ ?_
 · rintro i σ H' hi ⟨sv,rfl,rfl⟩
   walk_at "w"
   refine ⟨.inr ⟨by decide,by decide⟩,?_⟩
   simp [Int.pow_succ]
 · rintro σ H' ⟨sv,rfl,rfl⟩
   walk_at "w"
   exact q
def woI (m s:Int):Int:=if stB m s=true then m - 2^(s - 1).toNat else m
def ei (K:PySem.W.Frag):Sp:=fun vs H Q _=>∃ m s:Int,vs=[.int m,.int s]∧s≤100000∧Q (.int (woI m s)) H
theorem tJ {K:PySem.W.Frag} {vs:List V} {H:Hp} {Q:VK} {E:XK} (h:ei K vs H Q E):vs.length=2:=by
 obtain ⟨_,_,rfl,_⟩:=h; rfl
def iV (K:PySem.W.Frag):TS:=
 (tRet (tIf (tB (tCall (b7 K) [] E0 (tCons (tVar 0) (tCons (tVar 1) tNil)))) (tOp cSub (tVar 0) (tCall (fB K) [] E0 (tCons (tVar 1) tNil))) (tVar 0)))
theorem tK {K:PySem.W.Frag} {vs:List V} {H:Hp} {Q:VK} {E:XK} (h:ei K vs H Q E):iV K { nx:=fun _ H'=>Q .non H',rt:=Q } (start ["mask","sign"] vs) H:=by
 obtain ⟨m,s,rfl,h2,q⟩:=h
 show iV K _ [some (.int m),some (.int s)] H
 unfold iV
 walk_at "w"
 refine ⟨m,s,rfl,_,rfl,?_⟩
 unfold woI at q
 cases hb:stB m s with
 | false=>
  rw [hb,if_neg Bool.false_ne_true] at q
  exact iteF q
 | true=>
  rw [hb,if_pos rfl] at q
  refine iteT ⟨s,rfl,?_,h2,?_⟩
  · unfold stB at hb
    rw [Bool.and_eq_true,decide_eq_true_eq] at hb
    exact hb.1
  · walk_at "w"
    exact q
def bn (K:PySem.W.Frag):Sp:=fun vs H Q _=>∃ m s:Int,vs=[.int m,.int s]∧s≤100000∧Q (.bl (decide (woI m s=0))) H
theorem rY {K:PySem.W.Frag} {vs:List V} {H:Hp} {Q:VK} {E:XK} (h:bn K vs H Q E):vs.length=2:=by
 obtain ⟨_,_,rfl,_⟩:=h; rfl
def ic (K:PySem.W.Frag):TS:=
 (tRet (tOp (cEq K) (tCall (ei K) [] E0 (tCons (tVar 0) (tCons (tVar 1) tNil))) (tC (.int 0))))
theorem rZ {K:PySem.W.Frag} {vs:List V} {H:Hp} {Q:VK} {E:XK} (h:bn K vs H Q E):ic K { nx:=fun _ H'=>Q .non H',rt:=Q } (start ["mask","sign"] vs) H:=by
 obtain ⟨m,s,rfl,h2,q⟩:=h
 show ic K _ [some (.int m),some (.int s)] H
 unfold ic
 walk_at "w"
 refine ⟨m,s,rfl,h2,?_⟩
 walk_at "w"
 exact q
end L2
namespace L2
open PySem PySem.Spec PyProof.Rows
local macro_rules | `(tactic| walk_at "w")=>`(tactic| (first | simp only [aR,li,nL,jm,lj,kd,ke,nM,nI,lh,nJ,if_true,if_false,Bool.false_eq_true,decide_true,decide_false,jc,jd,l5,gG,fv,ja,j9,jb,gF,j7,j8,gE,lY,gH,gI,gK,gL,gM,gN,gJ,ka,kb,kc,j6,l4,Bool.not_true,Bool.not_false,eF,eV,bK,hE,w_c,kl,fH,fI,eI,fJ,w_b,w_not,io,km,fK,fM,ip,hJ,eJ,kn,fN,iq,iu,jN,iw,fO,fP,fQ,fR,d7,d8,cL,cW,cX,cr,iy,iz,iA,iC,iD,iE,iF,iG,iH,iI,iJ,iK,kq,fS,cY,fT,kr,fU,d9,cZ,iL,iO,fV,fW,fX,
 List.getElem?_cons_zero,List.getElem?_cons_succ,Option.some.injEq,exists_eq_left',exists_eq_left,List.set_cons_zero,List.set_cons_succ,cA,V.int.injEq,V.bl.injEq,V.ref.injEq,V.str.injEq,List.append_nil,List.nil_append,List.cons_append] | dsimp only | skip))
inductive TK where
 | clue | only | place | count | step | sum | square | reach | turn | pair | ways
 deriving DecidableEq
def tkC:TK→List Nat
 | .clue=>[99,108,117,101]
 | .only=>[111,110,108,121]
 | .place=>[112,108,97,99,101]
 | .count=>[99,111,117,110,116]
 | .step=>[115,116,101,112]
 | .sum=>[115,117,109]
 | .square=>[115,113,117,97,114,101]
 | .reach=>[114,101,97,99,104]
 | .turn=>[116,117,114,110]
 | .pair=>[112,97,105,114]
 | .ways=>[119,97,121,115]
def kA:List Str:=[tx [99,108,117,101],tx [111,110,108,121],tx [112,108,97,99,101],tx [99,111,117,110,116],tx [115,116,101,112],tx [115,117,109],tx [115,113,117,97,114,101],tx [114,101,97,99,104],tx [116,117,114,110],tx [112,97,105,114],tx [119,97,121,115]]
def fe:List Str:=[tx [99,108,117,101],tx [111,110,108,121],tx [112,108,97,99,101],tx [115,116,101,112],tx [112,97,105,114]]
def dE:List Str:=[tx [99,111,117,110,116],tx [115,117,109],tx [119,97,121,115]]
def gd_RULES_OF_KIND:List (Str × List Str):=[(tx [111,110,108,121],[tx [117,110,108,105,107,101]]),(tx [112,108,97,99,101],[tx [117,110,108,105,107,101]]),(tx [99,111,117,110,116],[tx [99,111,117,110,116]]),(tx [115,116,101,112],[tx [114,105,115,105,110,103]]),(tx [115,117,109],[tx [115,117,109]]),(tx [115,113,117,97,114,101],[tx [110,111,115,113,117,97,114,101]]),(tx [114,101,97,99,104],[tx [106,111,105,110,101,100],tx [114,105,110,103]]),(tx [116,117,114,110],[tx [114,105,110,103]]),(tx [112,97,105,114],[tx [117,110,108,105,107,101]])]
def wsOf:TK→List Str
 | .only=>[tx [117,110,108,105,107,101]]
 | .place=>[tx [117,110,108,105,107,101]]
 | .count=>[tx [99,111,117,110,116]]
 | .step=>[tx [114,105,115,105,110,103]]
 | .sum=>[tx [115,117,109]]
 | .square=>[tx [110,111,115,113,117,97,114,101]]
 | .reach=>[tx [106,111,105,110,101,100],tx [114,105,110,103]]
 | .turn=>[tx [114,105,110,103]]
 | .pair=>[tx [117,110,108,105,107,101]]
 | _=>[]
def goesB:TK→RK→Bool
 | .ways,_=>true
 | .only,.Unlike=>true
 | .place,.Unlike=>true
 | .count,.Count=>true
 | .step,.Rising=>true
 | .sum,.Sum=>true
 | .square,.NoSquare=>true
 | .reach,.Joined=>true
 | .reach,.Ring=>true
 | .turn,.Ring=>true
 | .pair,.Unlike=>true
 | _,_=>false
def lineK:TK→Bool
 | .clue=>true
 | .only=>true
 | .place=>true
 | .step=>true
 | .pair=>true
 | _=>false
def nbrK:TK→Bool
 | .count=>true
 | .sum=>true
 | .ways=>true
 | _=>false
theorem wc (t:TK):decide (tx (tkC t)∈kA)=true:=by cases t <;> decide+kernel
theorem wX (t:TK):decide (tx (tkC t)∈fe)=lineK t:=by cases t <;> decide+kernel
theorem ye (t:TK):decide (tx (tkC t)∈dE)=nbrK t:=by cases t <;> decide+kernel
theorem yN {t:TK} (h1:t≠.clue) (h2:t≠.ways):gd_RULES_OF_KIND.lookup (tx (tkC t))=some (wsOf t):=by
 cases t <;> first | exact absurd rfl h1 | exact absurd rfl h2 | decide+kernel
theorem wY {t:TK} (h2:t≠.ways) (k:RK):decide (tx (nmC k)∈wsOf t)=goesB t k:=by
 cases t <;> first | exact absurd rfl h2 | (cases k <;> decide+kernel)
theorem wZ (t:TK):decide (tkC t=[119,97,121,115])=decide (t=.ways):=by cases t <;> decide
theorem w5 (t:TK):decide (tkC t=[99,108,117,101])=decide (t=.clue):=by cases t <;> decide
def cx (K:PySem.W.Frag):Sp:=fun vs H Q _=>∃ (p:Addr) (h w g i:Int),vs=[.ref p,.int i]∧IsFl H p h w g∧FlOk h w g∧Q (.bl (decide (0≤i)&&decide (i < h*w))) H
theorem tL {K:PySem.W.Frag} {vs:List V} {H:Hp} {Q:VK} {E:XK} (h:cx K vs H Q E):vs.length=2:=by
 obtain ⟨_,_,_,_,_,rfl,_⟩:=h; rfl
def iW (K:PySem.W.Frag):TS:=
 (tRet (tAndV (tCall (aU K) [] E0 (tCons (tVar 1) tNil)) (tAndV (tOp (cCmp fun i j=>decide (i≤j)) (tC (.int 0)) (tVar 1)) (tOp (cCmp fun i j=>decide (i < j)) (tVar 1) (tCall (aP K) [] E0 (tCons (tVar 0) tNil))))))
theorem tM {K:PySem.W.Frag} {vs:List V} {H:Hp} {Q:VK} {E:XK} (h:cx K vs H Q E):iW K { nx:=fun _ H'=>Q .non H',rt:=Q } (start ["floor","value"] vs) H:=by
 obtain ⟨p,h,w,g,i,rfl,hp,F,q⟩:=h
 show iW K _ [some (.ref p),some (.int i)] H
 unfold iW
 walk_at "w"
 refine ⟨i,rfl,⟨true,rfl,iteT ?_⟩⟩
 walk_at "w"
 cases hb:decide (0≤i) with
 | false=>
  rw [hb,Bool.false_and] at q
  exact iteF q
 | true=>
  rw [hb,Bool.true_and] at q
  refine iteT ?_
  walk_at "w"
  refine ⟨p,h,w,g,rfl,hp,F.h0,F.h1,?_⟩
  walk_at "w"
  exact q
def ej (K:PySem.W.Frag):Sp:=fun vs H Q _=>∃ (p:Addr) (h w g i:Int),vs=[.ref p,.int i]∧IsFl H p h w g∧Q (.bl (decide (1≤i)&&decide (i≤g))) H
theorem tN {K:PySem.W.Frag} {vs:List V} {H:Hp} {Q:VK} {E:XK} (h:ej K vs H Q E):vs.length=2:=by
 obtain ⟨_,_,_,_,_,rfl,_⟩:=h; rfl
def iX (K:PySem.W.Frag):TS:=
 (tRet (tCall (aQ K) [] E0 (tCons (tVar 1) (tCons (tOp cIx (tVar 0) (tC (.int 2))) tNil))))
theorem tO {K:PySem.W.Frag} {vs:List V} {H:Hp} {Q:VK} {E:XK} (h:ej K vs H Q E):iX K { nx:=fun _ H'=>Q .non H',rt:=Q } (start ["floor","value"] vs) H:=by
 obtain ⟨p,h,w,g,i,rfl,hp,q⟩:=h
 show iX K _ [some (.ref p),some (.int i)] H
 unfold iX
 walk_at "w"
 refine ixT hp (v:=V.int g) rfl ?_
 walk_at "w"
 exact ⟨i,g,rfl,q⟩
def en (K:PySem.W.Frag) (c:RCl RK):Sp:=fun vs H Q _=>∃ (t:TK) (k:RK) (r p:Addr) (ws:List (List Nat)) (cs:List Int) (n m:Int),vs=[.str (tx (tkC t)),.ref r]∧t≠.clue∧IsRule H c k r p (nmC k::ws) cs n m∧Q (.bl (goesB t k)) H
theorem tP {K:PySem.W.Frag} {c:RCl RK} {vs:List V} {H:Hp} {Q:VK} {E:XK} (h:en K c vs H Q E):vs.length=2:=by
 obtain ⟨_,_,_,_,_,_,_,_,rfl,_⟩:=h; rfl
def iY (K:PySem.W.Frag) (c:RCl RK):TS:=
 (tRet (tOrV (tOp (cEq K) (tVar 0) (tC (.str (tx [119,97,121,115])))) (tOp (rInS K) (cM c c.ok "name" (l7 K c) (tVar 1) tNil) (tIxG K gd_RULES_OF_KIND (tVar 0)))))
theorem tQ {K:PySem.W.Frag} {c:RCl RK} {vs:List V} {H:Hp} {Q:VK} {E:XK} (h:en K c vs H Q E):iY K c { nx:=fun _ H'=>Q .non H',rt:=Q } (start ["kind","rule"] vs) H:=by
 obtain ⟨t,k,r,p,ws,cs,n,m,rfl,t0,x,q⟩:=h
 obtain ⟨dx,W,C,h1,h2,h3⟩:=x.ex
 show iY K c _ [some (.str (tx (tkC t))),some (.ref r)] H
 unfold iY
 walk_at "w"
 rw [dU,wZ]
 by_cases hw:t=.ways
 · subst hw
   rw [decide_eq_true rfl]
   exact iteT q
 · rw [decide_eq_false hw]
   refine iteF ?_
   refine methE (k:=k) rfl x.ok h1 (by rfl) ?_
   walk_at "w"
   refine ⟨r,p,nmC k,ws,cs,n,m,rfl,x,?_⟩
   dsimp only
   rw [yM]
   walk_at "w"
   refine ⟨_,_,rfl,yN t0 hw,fun qa hq=>?_⟩
   refine ⟨_,qa,_,rfl,rfl,hq,?_⟩
   rw [wY hw]
   exact q
def fC (K:PySem.W.Frag) (c:RCl RK):Sp:=fun vs H Q _=>∃ (k:RK) (r p:Addr) (ws:List (List Nat)) (cs:List Int) (n m z:Int),vs=[.ref r,.int z]∧IsRule H c k r p ws cs n m∧cs.length≤63∧∀ l H',Same H H'→H l=none→H' l=some (.lst ((cs.filter fun x=>!decide (x=z)).map V.int))→Q (.ref l) H'
theorem vj {K:PySem.W.Frag} {c:RCl RK} {vs:List V} {H:Hp} {Q:VK} {E:XK} (h:fC K c vs H Q E):vs.length=2:=by
 obtain ⟨_,_,_,_,_,_,_,_,rfl,_⟩:=h; rfl
def jK (K:PySem.W.Frag) (c:RCl RK):TS:=
 (tRet (tComp [none,none,some 1] (iList K (cM c c.ok "spots" (gP K c) (tVar 0) tNil)) (gName 1) (tTest (tOp (cNe K) (tVar 1) (tVar 2))) (tVar 1)))
theorem vk {K:PySem.W.Frag} {c:RCl RK} {vs:List V} {H:Hp} {Q:VK} {E:XK} (h:fC K c vs H Q E):jK K c { nx:=fun _ H'=>Q .non H',rt:=Q } (start ["rule","cell"] vs) H:=by
 obtain ⟨k,r,p,ws,cs,n,m,z,rfl,x,hn,q⟩:=h
 obtain ⟨dx,W,C,h1,h2,h3⟩:=x.ex
 show jK K c _ [some (.ref r),some (.int z)] H
 unfold jK
 rw [fH,cL]
 refine methE (k:=k) rfl x.ok h1 (by rfl) ?_
 walk_at "w"
 refine ⟨r,p,ws,cs,n,m,rfl,x,fun l hl=>?_⟩
 have s1:Same H (upd H l (.lst (cs.map V.int))):=(Same.refl H).laid hl
 have el:(upd H l (.lst (cs.map V.int))) l=some (.lst (cs.map V.int)):=ag
 generalize upd H l (.lst (cs.map V.int))=H1 at*
 refine ⟨l,rfl,⟨_,SqL.of el⟩,?_⟩
 refine bX (xs:=cs) (fun x=>!decide (x=z)) (fun x=>x) (by omega) (SqL.of el) ?_ ?_ ?_
 · intro y H2 R hy s2 k2
   show tTest _ [none,some (.int y),some (.int z)] H2 R
   walk_at "w"
   exact k2 _ (Same.refl _)
 · intro y H2 Q2 hy hb s2 k2
   show tVar 1 [none,some (.int y),some (.int z)] H2 Q2
   walk_at "w"
   exact k2 _ (Same.refl _)
 · intro T H2 hT s2 eT
   rw [List.map_id'] at eT
   exact q T H2 (s1.trans s2) (s1.free hT) eT
def hitB (t:TK) (rows:List RR) (r z:Int):Bool:=if r < 0 then false else if t=.clue then decide (r=0) else match rows[r.toNat]? with
 | none=>false
 | some x=>goesB t x.k&&decide (z∈x.cs)
def bL (K:PySem.W.Frag) (c:RCl RK) (d:RCl PzK):Sp:=fun vs H Q _=>∃ (t:TK) (P L G:Addr) (h w g r z:Int) (rows:List RR) (cl:List Int),vs=[.ref P,.str (tx (tkC t)),.int r,.int z]∧IsPz H c d P L G h w g rows cl∧∀ H',Same H H'→Q (.bl (hitB t rows r z)) H'
theorem n6 {K:PySem.W.Frag} {c:RCl RK} {d:RCl PzK} {vs:List V} {H:Hp} {Q:VK} {E:XK} (h:bL K c d vs H Q E):vs.length=4:=by
 obtain ⟨_,_,_,_,_,_,_,_,_,_,_,rfl,_⟩:=h; rfl
def dF (K:PySem.W.Frag) (c:RCl RK) (d:RCl PzK):TS:=
 (tSeq (tIfS (tOr (tNot (tB (tCall (aU K) [] E0 (tCons (tVar 2) tNil)))) (tTest (tOp (cCmp fun i j=>decide (i < j)) (tVar 2) (tC (.int 0))))) (tRet (tC (.bl false))) tNext)
  (tSeq (tIfS (tTest (tOp (cEq K) (tVar 1) (tC (.str (tx [99,108,117,101]))))) (tRet (tOp (cEq K) (tVar 2) (tC (.int 0)))) tNext)
  (tSeq (tAsg (cM d d.ok "rules" (gR K c d) (tVar 0) tNil) (gName 4))
  (tSeq (tIfS (tTest (tOp (cCmp fun i j=>decide (j≤i)) (tVar 2) (tCB kLen (tCons (tVar 4) tNil)))) (tRet (tC (.bl false))) tNext)
  (tRet (tAndV (tCall (en K c) [] E0 (tCons (tVar 1) (tCons (tOp cIx (tVar 4) (tVar 2)) tNil))) (tOp (cIn K false) (tVar 3) (cM c c.ok "spots" (gP K c) (tOp cIx (tVar 4) (tVar 2)) tNil))))))))
theorem RR.ws_cons (r:RR):∃ t,r.ws=nmC r.k::t:=⟨_,rfl⟩
theorem n9 {K:PySem.W.Frag} {c:RCl RK} {d:RCl PzK} {vs:List V} {H:Hp} {Q:VK} {E:XK} (h:bL K c d vs H Q E):dF K c d { nx:=fun _ H'=>Q .non H',rt:=Q } (start ["puzzle","kind","number","cell","rules"] vs) H:=by
 obtain ⟨t,P,L,G,h,w,g,r,z,rows,cl,rfl,x,q⟩:=h
 obtain ⟨dx,p,rs,h1,h2,h3⟩:=x.ex
 have hN:=x.R.F.m
 show dF K c d _ [some (.ref P),some (.str (tx (tkC t))),some (.int r),some (.int z),none] H
 unfold dF
 rw [aR,aH]
 walk_at "w"
 refine ⟨r,rfl,⟨true,rfl,iteF ?_⟩⟩
 walk_at "w"
 unfold hitB at q
 by_cases hr:r < 0
 · rw [if_pos hr] at q
   rw [decide_eq_true hr]
   exact iteT (q _ (Same.refl _))
 rw [if_neg hr] at q
 rw [decide_eq_false hr]
 refine iteF ?_
 rw [aH]
 walk_at "w"
 rw [dU,w5]
 by_cases ht:t=.clue
 · rw [if_pos ht] at q
   rw [decide_eq_true ht]
   exact iteT (q _ (Same.refl _))
 rw [if_neg ht] at q
 rw [decide_eq_false ht]
 refine iteF ?_
 refine methE (k:=.Puzzle) rfl x.ok h1 (by rfl) ?_
 walk_at "w"
 refine ⟨P,L,G,h,w,g,rows,cl,rfl,x,fun l p2 rs2 hl hp2 X=>?_⟩
 have s1:Same H (upd H l (.lst (rs2.map V.ref))):=(Same.refl H).laid hl
 generalize upd H l (.lst (rs2.map V.ref))=H1 at*
 have hlen:=X.len
 walk_at "w"
 rw [aH]
 walk_at "w"
 rw [cg X.top,List.length_map,hlen]
 walk_at "w"
 by_cases hge:(rows.length:Int)≤r
 · rw [decide_eq_true hge]
   have e:rows[r.toNat]? =none:=List.getElem?_eq_none (by omega)
   rw [e] at q
   exact iteT (q _ s1)
 rw [decide_eq_false hge]
 have hlt:r.toNat < rows.length:=by omega
 have er:rows[r.toNat]? =some rows[r.toNat]:=List.getElem?_eq_getElem hlt
 rw [er] at q
 have ea:rs2[r.toNat]? =some rs2[r.toNat]:=List.getElem?_eq_getElem (by omega)
 have X1:=X.at_ _ _ _ ea er
 obtain ⟨ws,ews⟩:=RR.ws_cons rows[r.toNat]
 rw [ews] at X1
 have eix:atI (rs2.map V.ref) r=some (V.ref rs2[r.toNat]):=qx (by omega) ea
 refine iteF ?_
 refine ixL X.top eix ?_
 walk_at "w"
 refine ⟨t,_,_,p2,ws,_,_,_,rfl,ht,X1,?_⟩
 dsimp only at q
 cases hg:goesB t rows[r.toNat].k with
 | false=>
  rw [hg,Bool.false_and] at q
  exact ⟨false,rfl,iteF (q _ s1)⟩
 | true=>
  rw [hg,Bool.true_and] at q
  refine ⟨true,rfl,iteT ?_⟩
  unfold cM
  walk_at "w"
  obtain ⟨dx1,W1,C1,g1,g2,g3⟩:=X1.ex
  refine ixL X.top eix ?_
  refine ⟨_,rows[r.toNat].k,dx1,_,rfl,X1.ok,g1,by rfl,?_⟩
  refine ⟨_,p2,_,_,_,_,rfl,X1,fun S hS=>?_⟩
  have s2:Same H1 (upd H1 S (.lst (rows[r.toNat].cs.map V.int))):=(Same.refl H1).laid hS
  have eS:(upd H1 S (.lst (rows[r.toNat].cs.map V.int))) S=some (.lst (rows[r.toNat].cs.map V.int)):=ag
  dsimp only
  rw [vS eS]
  exact q _ (s1.trans s2)
structure IsTh (H:Hp) (T M:Addr) (t:TK) (r z s:Int) (ms:List Int):Prop where
 T:H T=some (.tup [.str (tx (tkC t)),.int r,.int z,.int s,.ref M])
 M:H M=some (.lst (ms.map V.int))
 n:ms.length≤100
theorem IsTh.same {H H':Hp} {T M:Addr} {t:TK} {r z s:Int} {ms:List Int} (x:IsTh H T M t r z s ms) (s':Same H H'):IsTh H' T M t r z s ms:=⟨s' _ _ x.T,s' _ _ x.M,x.n⟩
def formB (h w g:Int) (rows:List RR) (t:TK) (r z s:Int):Bool:=(decide (0≤z)&&decide (z < h*w))&&((decide (1≤s)&&decide (s≤g))&&hitB t rows r z)
def cR (K:PySem.W.Frag) (c:RCl RK) (d:RCl PzK):Sp:=fun vs H Q _=>∃ (t:TK) (P L G T M:Addr) (h w g r z s:Int) (rows:List RR) (cl ms:List Int),vs=[.ref P,.ref T]∧IsPz H c d P L G h w g rows cl∧IsTh H T M t r z s ms∧∀ H',Same H H'→Q (.bl (formB h w g rows t r z s)) H'
theorem qQ {K:PySem.W.Frag} {c:RCl RK} {d:RCl PzK} {vs:List V} {H:Hp} {Q:VK} {E:XK} (h:cR K c d vs H Q E):vs.length=2:=by
 obtain ⟨_,_,_,_,_,_,_,_,_,_,_,_,_,_,_,rfl,_⟩:=h; rfl
def gj (K:PySem.W.Frag) (c:RCl RK) (d:RCl PzK):TS:=
 (tRet (tAndV (tCB kIsi (tCons (tOp cIx (tVar 1) (tC (.int 4))) (tCons (tC (.ty "list")) tNil))) (tCB kAll (tCons (tComp [none,none] (iList K (tOp cIx (tVar 1) (tC (.int 4)))) (gName 1) tTrue (tCall (aU K) [] E0 (tCons (tVar 1) tNil))) tNil))))
def gk (K:PySem.W.Frag) (c:RCl RK) (d:RCl PzK):TS:=
 (tSeq (tIfS (tOr (tNot (tB (tCB kIsi (tCons (tVar 1) (tCons (tC (.ty "tuple")) tNil))))) (tOr (tTest (tOp (cNe K) (tCB kLen (tCons (tVar 1) tNil)) (tC (.int 5)))) (tB (tInG kA true (tOp cIx (tVar 1) (tC (.int 0))))))) (tRet (tC (.bl false))) tNext)
  (tSeq (tAsg (cM d d.ok "place" (gQ K c d) (tVar 0) tNil) (gName 2))
  (tSeq (tIfS (tOr (tNot (tB (tCall (cx K) [] E0 (tCons (tVar 2) (tCons (tOp cIx (tVar 1) (tC (.int 2))) tNil))))) (tNot (tB (tCall (ej K) [] E0 (tCons (tVar 2) (tCons (tOp cIx (tVar 1) (tC (.int 3))) tNil)))))) (tRet (tC (.bl false))) tNext)
  (tSeq (tIfS (tNot (tB (tCall (bL K c d) [] E0 (tCons (tVar 0) (tCons (tOp cIx (tVar 1) (tC (.int 0))) (tCons (tOp cIx (tVar 1) (tC (.int 1))) (tCons (tOp cIx (tVar 1) (tC (.int 2))) tNil))))))) (tRet (tC (.bl false))) tNext)
  (gj K c d)))))
theorem oe {K:PySem.W.Frag} {c:RCl RK} {d:RCl PzK} {H:Hp} {Q:VK} {P T M:Addr} {t:TK} {r z s:Int} {ms:List Int} {v2:Option V} (x:IsTh H T M t r z s ms) (q:∀ H',Same H H'→Q (.bl true) H'):
  gj K c d { nx:=fun _ H'=>Q .non H',rt:=Q } [some (.ref P),some (.ref T),v2] H:=by
 have hn:=x.n
 unfold gj
 walk_at "w"
 refine ixT x.T (v:=V.ref M) rfl ?_
 walk_at "w"
 refine u6 x.M ?_
 walk_at "w"
 refine ixT x.T (v:=V.ref M) rfl ?_
 walk_at "w"
 refine ⟨⟨_,SqL.of x.M⟩,?_⟩
 refine fY (xs:=ms.map V.int) (fun _=>true) (fun _=>.bl true) (by rw [List.length_map]; omega) (SqL.of x.M) ?_ ?_ ?_
 · intro i y H1 R hy s1 k1
   exact k1 _ (Same.refl _)
 · intro i y H1 Q1 hy hb s1 k1
   obtain ⟨v,hv,rfl⟩:=bY hy
   show tCall _ _ _ _ [none,some (.int v)] H1 Q1
   walk_at "w"
   exact ⟨v,rfl,k1 _ (Same.refl _)⟩
 · intro l H1 hl s1 el
   have eb:((List.range (ms.map V.int).length).filter fun _=>true).map (fun _=>V.bl true)=(List.replicate (ms.map V.int).length true).map V.bl:=by
    rw [fu,List.map_const',List.length_range,List.map_replicate]
   rw [eb] at el
   refine qb el ?_
   have ea:(List.replicate (ms.map V.int).length true).all id=true:=by
    rw [List.all_eq_true]
    intro b hb
    exact (List.mem_replicate.mp hb).2
   rw [ea]
   exact q _ s1
theorem qR {K:PySem.W.Frag} {c:RCl RK} {d:RCl PzK} {vs:List V} {H:Hp} {Q:VK} {E:XK} (h:cR K c d vs H Q E):gk K c d { nx:=fun _ H'=>Q .non H',rt:=Q } (start ["puzzle","thought","floor"] vs) H:=by
 obtain ⟨t,P,L,G,T,M,h,w,g,r,z,s,rows,cl,ms,rfl,x,y,q⟩:=h
 obtain ⟨dx,p,rs,h1,h2,h3⟩:=x.ex
 show gk K c d _ [some (.ref P),some (.ref T),none] H
 unfold gk
 rw [aR,aH]
 walk_at "w"
 refine u7 y.T ?_
 walk_at "w"
 rw [uQ y.T,show (([.str (tx (tkC t)),.int r,.int z,.int s,.ref M]:List V).length:Int)=5 from rfl]
 walk_at "w"
 refine ixT y.T (v:=V.str (tx (tkC t))) rfl ?_
 walk_at "w"
 rw [wc]
 walk_at "w"
 refine methE (k:=.Puzzle) rfl x.ok h1 (by rfl) ?_
 walk_at "w"
 refine ⟨P,L,G,h,w,g,rows,cl,rfl,x,fun p1 hp1=>?_⟩
 walk_at "w"
 rw [aH]
 walk_at "w"
 refine ixT y.T (v:=V.int z) rfl ?_
 walk_at "w"
 refine ⟨p1,h,w,g,z,rfl,hp1,x.R.F,?_⟩
 unfold formB at q
 cases hb:(decide (0≤z)&&decide (z < h*w)) with
 | false=>
  rw [hb,Bool.false_and] at q
  exact ⟨false,rfl,iteT (q _ (Same.refl _))⟩
 | true=>
  rw [hb,Bool.true_and] at q
  refine ⟨true,rfl,iteF ?_⟩
  refine ixT y.T (v:=V.int s) rfl ?_
  walk_at "w"
  refine ⟨p1,h,w,g,s,rfl,hp1,?_⟩
  cases hb2:(decide (1≤s)&&decide (s≤g)) with
  | false=>
   rw [hb2,Bool.false_and] at q
   exact ⟨false,rfl,iteT (q _ (Same.refl _))⟩
  | true=>
   rw [hb2,Bool.true_and] at q
   refine ⟨true,rfl,iteF ?_⟩
   rw [aH]
   walk_at "w"
   refine ixT y.T (v:=V.str (tx (tkC t))) rfl ?_
   walk_at "w"
   refine ixT y.T (v:=V.int r) rfl ?_
   walk_at "w"
   refine ixT y.T (v:=V.int z) rfl ?_
   walk_at "w"
   refine ⟨t,P,L,G,h,w,g,r,z,rows,cl,rfl,x,fun H1 s1=>?_⟩
   cases hb3:hitB t rows r z with
   | false=>
    rw [hb3] at q
    exact ⟨false,rfl,iteT (q _ s1)⟩
   | true=>
    rw [hb3] at q
    refine ⟨true,rfl,iteF ?_⟩
    exact oe (y.same s1) fun H' s2=>q H' (s1.trans s2)
theorem lr {k:RK} {h w g:Int} {m:Nat} (hk:allK k=true) (k0:k≠.Rule) (hn:numK k=false) (hs:sgnK k=true) (m0:1≤(m:Int)) (m1:(m:Int)≤g):RR.Ok ⟨k,0,m,[],rngL 0 (h*w)⟩ h w g:=by
 refine ⟨k0,Nat.zero_le _,fun _=>rfl,fun _=>⟨m0,m1⟩,fun e=>?_,⟨fun e=>?_,fun _=>⟨rfl,rfl⟩⟩,fun x hx=>(by cases hx),Nat.zero_le _⟩
 · rw [show sgnK k=false from e] at hs; cases hs
 · rw [show allK k=false from e] at hk; cases hk
theorem vm {K:PySem.W.Frag} {H:Hp} {Q:VK} {p:Addr} {i:Int} {ns:List Int} (h:H p=some (.tup (ns.map V.int))):cIn K false (.int i) (.ref p) H Q=Q (.bl (decide (i∈ns))) H:=by
 unfold cIn; dsimp only; rw [h]; dsimp only [unD,unS,bnd]
 rw [ko,jD]
 simp [flatV]
def o8:TE:=fun _ _ _=>False
theorem pD {X:Cx} {e:Expr}:PE X e o8:=fun _ _ _ _ _ _ h=>h.elim
theorem RR.cin22 {r:RR} {h w g:Int} (O:r.Ok h w g) (F:FlOk h w g):fA r.cs (h*w).toNat:=by
 obtain ⟨h0,h1,w0,w1,m16,g0,g1⟩:=id F
 have mpos:0≤h*w:=Int.mul_nonneg (by omega) (by omega)
 cases hk:allK r.k with
 | false=>
  obtain ⟨c1,c2,c3,c4,e⟩:=O.cl.told hk
  rw [e]
  refine ⟨by rw [List.length_map]; omega,fun c hc=>?_⟩
  obtain ⟨n,hn,rfl⟩:=List.mem_map.mp hc
  have:=c3 n hn
  omega
 | true=>
  obtain ⟨_,e⟩:=O.cl.all hk
  rw [e]
  refine ⟨by rw [kt]; omega,fun c hc=>?_⟩
  have:=wV hc
  omega
structure Asks (H:Hp) (c:RCl RK) (d:RCl PzK) (P L G A T M:Addr) (h w g:Int) (rows:List RR) (cl masks:List Int) (t:TK) (r z s:Int) (ms:List Int):Prop where
 P:IsPz H c d P L G h w g rows cl
 T:IsTh H T M t r z s ms
 A:H A=some (.lst (masks.map V.int))
 n:masks.length=(h*w).toNat
theorem Asks.same {H H':Hp} {c:RCl RK} {d:RCl PzK} {P L G A T M:Addr} {h w g:Int} {rows:List RR} {cl masks:List Int} {t:TK} {r z s:Int} {ms:List Int} (x:Asks H c d P L G A T M h w g rows cl masks t r z s ms) (s':Same H H'):Asks H' c d P L G A T M h w g rows cl masks t r z s ms:=⟨x.P.same s',x.T.same s',s' _ _ x.A,x.n⟩
theorem pE {h w g:Int} {rows:List RR} {t:TK} {r z s:Int} (f:formB h w g rows t r z s=true):0≤z∧z < h*w∧1≤s∧s≤g∧hitB t rows r z=true:=by
 unfold formB at f
 simp only [Bool.and_eq_true,decide_eq_true_eq] at f
 exact ⟨f.1.1,f.1.2,f.2.1.1,f.2.1.2,f.2.2⟩
theorem sH {t:TK} {rows:List RR} {r z:Int} (ht:t≠.clue) (f:hitB t rows r z=true):0≤r∧∃ x,rows[r.toNat]? =some x∧goesB t x.k=true∧z∈x.cs:=by
 unfold hitB at f
 by_cases hr:r < 0
 · rw [if_pos hr] at f; cases f
 rw [if_neg hr,if_neg ht] at f
 cases e:rows[r.toNat]? with
 | none=>rw [e] at f; cases f
 | some x=>
  rw [e] at f
  simp only [Bool.and_eq_true,decide_eq_true_eq] at f
  exact ⟨by omega,x,rfl,f.1,f.2⟩
def lawCA (ns:List Int) (k:Int):Int:=if (ns.length:Int)=0 then (k*k*40692+7*k) % 2147483647 else
 if k < (ns.length:Int) then ns.getD (k % ns.length).toNat 0 % 2305843009213693951 else (ns.getD (k % ns.length).toNat 0 % 2305843009213693951*48271+k*k*40692) % 2305843009213693951
def az (K:PySem.W.Frag):Sp:=fun vs H Q _=>∃ (a:Addr) (ns:List Int) (k:Int),vs=[.ref a,.int k]∧SqL K H a (ns.map V.int)∧ns.length≤63∧0≤k∧k≤10000∧Q (.int (lawCA ns k)) H
theorem og {K:PySem.W.Frag} {vs:List V} {H:Hp} {Q:VK} {E:XK} (h:az K vs H Q E):vs.length=2:=by
 obtain ⟨_,_,_,rfl,_⟩:=h; rfl
def dG (K:PySem.W.Frag):TS:=
 (tSeq (tIfS (tTest (tOp (cEq K) (tCB (kLenS K) (tCons (tVar 0) tNil)) (tC (.int 0)))) (tRet (tOp cMod (tOp cAdd (tOp cMul (tOp cMul (tVar 1) (tVar 1)) (tC (.int 40692))) (tOp cMul (tC (.int 7)) (tVar 1))) (tC (.int 2147483647)))) tNext)
  (tSeq (tAsg (tOp cMod (tOp (rIxL K) (tVar 0) (tOp cMod (tVar 1) (tCB (kLenS K) (tCons (tVar 0) tNil)))) (tC (.int 2305843009213693951))) (gName 2))
  (tSeq (tIfS (tTest (tOp (cCmp fun i j=>decide (i < j)) (tVar 1) (tCB (kLenS K) (tCons (tVar 0) tNil)))) (tRet (tVar 2)) tNext)
  (tRet (tOp cMod (tOp cAdd (tOp cMul (tVar 2) (tC (.int 48271))) (tOp cMul (tOp cMul (tVar 1) (tVar 1)) (tC (.int 40692)))) (tC (.int 2305843009213693951)))))))
theorem oh {K:PySem.W.Frag} {vs:List V} {H:Hp} {Q:VK} {E:XK} (h:az K vs H Q E):dG K { nx:=fun _ H'=>Q .non H',rt:=Q } (start ["_law_script","_law_k","_law_number_here"] vs) H:=by
 obtain ⟨a,ns,k,rfl,hS,hn,k0,k1,q⟩:=h
 have kk:k*k≤10000*10000:=Int.mul_le_mul k1 k1 k0 (by decide)
 have kk0:0≤k*k:=Int.mul_nonneg k0 k0
 show dG K _ [some (.ref a),some (.int k),none] H
 unfold dG
 rw [aR,aH]
 walk_at "w"
 refine ⟨a,_,rfl,.inl hS,?_⟩
 walk_at "w"
 rw [List.length_map]
 unfold lawCA at q
 by_cases hl:(ns.length:Int)=0
 · rw [if_pos hl] at q
   rw [decide_eq_true hl]
   refine iteT ⟨.inl ⟨by omega,by omega⟩,.inr ⟨by decide,by decide⟩,.inl ⟨by decide,by decide⟩,?_⟩
   walk_at "w"
   exact ⟨by decide,q⟩
 · rw [if_neg hl] at q
   rw [decide_eq_false hl]
   have hpos:0 < (ns.length:Int):=by omega
   refine iteF ⟨a,_,rfl,.inl hS,?_⟩
   walk_at "w"
   rw [List.length_map]
   have m0:=Int.emod_nonneg k (Int.ne_of_gt hpos)
   have m1:=Int.emod_lt_of_pos k hpos
   refine ⟨hpos,a,_,_,_,rfl,rfl,hS,mN m0 m1,?_⟩
   walk_at "w"
   refine ⟨by decide,?_⟩
   rw [aH]
   walk_at "w"
   refine ⟨a,_,rfl,.inl hS,?_⟩
   walk_at "w"
   rw [List.length_map]
   by_cases hk:k < (ns.length:Int)
   · rw [if_pos hk] at q
     rw [decide_eq_true hk]
     exact iteT q
   · rw [if_neg hk] at q
     rw [decide_eq_false hk]
     refine iteF ⟨.inr ⟨by decide,by decide⟩,.inl ⟨by omega,by omega⟩,.inr ⟨by decide,by decide⟩,?_⟩
     walk_at "w"
     exact ⟨by decide,q⟩
theorem flZ (a b c:Int):FlOk (1+a % 6) (1+b % (if 16 / (1+a % 6) < 6 then 16 / (1+a % 6) else 6)) (1+c % 6)∧0 < (if 16 / (1+a % 6) < 6 then 16 / (1+a % 6) else (6:Int)):=by
 have a0:=Int.emod_nonneg a (by decide:(6:Int)≠0)
 have a1:=Int.emod_lt_of_pos a (by decide:(0:Int) < 6)
 have c0:=Int.emod_nonneg c (by decide:(6:Int)≠0)
 have c1:=Int.emod_lt_of_pos c (by decide:(0:Int) < 6)
 have hh:1+a % 6=1∨1+a % 6=2∨1+a % 6=3∨1+a % 6=4∨1+a % 6=5∨1+a % 6=6:=by omega
 generalize 1+a % 6=h at*
 have key:∀ m:Int,1≤m→m≤6→h*m≤16→(if 16 / h < 6 then 16 / h else 6)=m→FlOk h (1+b % (if 16 / h < 6 then 16 / h else 6)) (1+c % 6)∧0 < (if 16 / h < 6 then 16 / h else (6:Int)):=fun m m0 m1 m2 e=>by
  have b0:=Int.emod_nonneg b (by omega:m≠0)
  have b1:=Int.emod_lt_of_pos b (by omega:0 < m)
  rw [e]
  refine ⟨⟨by omega,by omega,by omega,by omega,?_,by omega,by omega⟩,by omega⟩
  exact Int.le_trans (Int.mul_le_mul_of_nonneg_left (show 1+b % m≤m by omega) (by omega)) m2
 rcases hh with e | e | e | e | e | e <;> subst e
 · exact key 6 (by decide) (by decide) (by decide) rfl
 · exact key 6 (by decide) (by decide) (by decide) rfl
 · exact key 5 (by decide) (by decide) (by decide) rfl
 · exact key 4 (by decide) (by decide) (by decide) rfl
 · exact key 3 (by decide) (by decide) (by decide) rfl
 · exact key 2 (by decide) (by decide) (by decide) rfl
def bM (K:PySem.W.Frag):Sp:=fun vs H Q _=>∃ z:Int,vs=[.int z]∧∀ (p:Addr) (H':Hp) (h w g:Int),Same H H'→H p=none→IsFl H' p h w g→FlOk h w g→Q (.ref p) H'
theorem oi {K:PySem.W.Frag} {vs:List V} {H:Hp} {Q:VK} {E:XK} (h:bM K vs H Q E):vs.length=1:=by
 obtain ⟨_,rfl,_⟩:=h; rfl
def dH (K:PySem.W.Frag):TS:=
 (tSeq (tAsg (tOp cAdd (tC (.int 1)) (tOp cMod (tVar 0) (tC (.int 6)))) (gName 1))
  (tSeq (tAsg (tOp cAdd (tC (.int 1)) (tOp cMod (tOp cDiv (tVar 0) (tC (.int 6))) (tCB kMin (tCons (tC (.int 6)) (tCons (tOp cDiv (tC (.int 16)) (tVar 1)) tNil))))) (gName 2))
  (tRet (tTup (tCons (tVar 1) (tCons (tVar 2) (tCons (tOp cAdd (tC (.int 1)) (tOp cMod (tOp cDiv (tVar 0) (tC (.int 36))) (tC (.int 6)))) tNil)))))))
theorem oj {K:PySem.W.Frag} {vs:List V} {H:Hp} {Q:VK} {E:XK} (h:bM K vs H Q E):dH K { nx:=fun _ H'=>Q .non H',rt:=Q } (start ["_law_cell","_law_high","_law_wide"] vs) H:=by
 obtain ⟨z,rfl,q⟩:=h
 obtain ⟨F,hm⟩:=flZ z (z / 6) (z / 36)
 have:=F.h0
 have:=F.h1
 show dH K _ [some (.int z),none,none] H
 unfold dH
 walk_at "w"
 refine ⟨by decide,⟨by decide,by decide⟩,?_⟩
 walk_at "w"
 refine ⟨⟨by omega,by omega⟩,hm,?_⟩
 walk_at "w"
 refine ⟨⟨by decide,by decide⟩,by decide,aF (by show (3:Nat)≤1000; decide),fun p hp=>?_⟩
 exact q p _ _ _ _ ((Same.refl H).laid hp) hp ag F
theorem yO {g:Int} (g0:1≤g) (g1:g≤6):0 < 1*(2:Int)^g.toNat∧1*(2:Int)^g.toNat≤64:=by
 have:g=1∨g=2∨g=3∨g=4∨g=5∨g=6:=by omega
 rcases this with rfl | rfl | rfl | rfl | rfl | rfl <;> decide
def bN (K:PySem.W.Frag):Sp:=fun vs H Q _=>∃ (a:Addr) (ns:List Int) (at_ many g:Int),vs=[.ref a,.int at_,.int many,.int g]∧SqL K H a (ns.map V.int)∧ns.length≤63∧0≤at_∧at_≤1000∧0≤many∧many≤16∧1≤g∧g≤6∧
 ∀ (l:Addr) (H':Hp) (ms:List Int),Same H H'→H l=none→H' l=some (.lst (ms.map V.int))→ms.length=many.toNat→(∀ m∈ms,0≤m∧m < 1*2^g.toNat)→Q (.ref l) H'
theorem oq {K:PySem.W.Frag} {vs:List V} {H:Hp} {Q:VK} {E:XK} (h:bN K vs H Q E):vs.length=4:=by
 obtain ⟨_,_,_,_,_,rfl,_⟩:=h; rfl
def dI (K:PySem.W.Frag):TS:=
 (tSeq (tAsg (tLst tNil) (gName 4))
  (tSeq (tFor (cD (tCons (tVar 2) tNil)) (gName 5)
  (tSeq (tAsg (tCall (az K) [] E0 (tCons (tVar 0) (tCons (tOp cAdd (tVar 1) (tVar 5)) tNil))) (gName 6))
  (tSeq (tDrop (tBM K "list" bJ (tVar 4) (tCons (tOp cMod (tOp cOr (tOp cDiv (tVar 6) (tC (.int 7))) (tOp cMul (tOp cMod (tOp cDiv (tVar 6) (tC (.int 5))) (tC (.int 2))) (tOp cDiv (tVar 6) (tC (.int 448))))) (tOp cShl (tC (.int 1)) (tVar 3))) tNil)))
  (tIfS (tTest (tOp (cCmp fun i j=>decide (j < i)) (tOp cMod (tVar 6) (tC (.int 5))) (tC (.int 1)))) (tAsg (tOp cShl (tC (.int 1)) (tOp cMod (tOp cDiv (tVar 6) (tC (.int 5))) (tVar 3))) (gSub (tVar 4) (tVar 5) cPut)) tNext))))
  (tRet (tVar 4))))
theorem yf {j g:Int} (j0:0≤j) (h:j < g):0≤1*(2:Int)^j.toNat∧1*(2:Int)^j.toNat < 1*2^g.toNat:=by
 rw [Int.one_mul,Int.one_mul]
 have e:((2:Int)^j.toNat)=((2^j.toNat:Nat):Int):=by simp
 have e2:((2:Int)^g.toNat)=((2^g.toNat:Nat):Int):=by simp
 rw [e,e2]
 have h1:=Nat.pow_lt_pow_right (a:=2) (by decide) (show j.toNat < g.toNat by omega)
 exact ⟨Int.natCast_nonneg _,Int.ofNat_lt.mpr h1⟩
theorem or {K:PySem.W.Frag} {vs:List V} {H:Hp} {Q:VK} {E:XK} (h:bN K vs H Q E):dI K { nx:=fun _ H'=>Q .non H',rt:=Q } (start ["_law_script","_law_at","_law_many","_law_signs","_law_masks_here","_law_k","_law_one"] vs) H:=by
 obtain ⟨a,ns,at_,many,g,rfl,hS,hn,a0,a1,m0,m1,g0,g1,q⟩:=h
 have pg:=yO g0 g1
 show dI K _ [some (.ref a),some (.int at_),some (.int many),some (.int g),none,none,none] H
 unfold dI
 walk_at "w"
 refine ⟨aF (by decide),fun L hL=>?_⟩
 refine ⟨many,rfl,by omega,by omega,?_⟩
 refine cV (fun i σ H'=>∃ (kv ov:Option V) (ms:List Int),σ=[some (.ref a),some (.int at_),some (.int many),some (.int g),some (.ref L),kv,ov]∧Same H H'∧H' L=some (.lst (ms.map V.int))∧ms.length=i∧∀ m∈ms,0≤m∧m < 1*2^g.toNat)
  ⟨none,none,[],rfl,(Same.refl H).laid hL,by rw [ag]; rfl,rfl,fun m hm=>by cases hm⟩ ?_ ?_
 · rintro i σ H1 hi ⟨kv,ov,ms,rfl,s1,el,hl,hm⟩
   walk_at "w"
   refine ⟨a,ns,_,rfl,s1.seq hS,hn,by omega,by omega,?_⟩
   generalize lawCA ns (at_+(0+(i:Int)))=y at*
   walk_at "w"
   refine ⟨gC el,⟨by decide,by decide⟩,⟨by decide,by decide⟩,by decide,⟨by decide,by decide⟩,.inl ⟨by omega,by omega⟩,⟨by omega,by omega,by decide⟩,pg.1,?_⟩
   generalize hx:Builtin.bitOr (y / 7) (y / 5 % 2*(y / 448)) % (1*2^g.toNat)=x at*
   have x0:0≤x:=by rw [← hx]; exact Int.emod_nonneg _ (by omega)
   have x1:x < 1*2^g.toNat:=by rw [← hx]; exact Int.emod_lt_of_pos _ pg.1
   rw [gD el]
   refine ⟨by rw [List.length_map]; exact aG (by omega),?_⟩
   have s2:=s1.own (o:=.lst (ms.map V.int++[V.int x])) hL
   have e2:(upd H1 L (.lst (ms.map V.int++[V.int x]))) L=some (.lst ((ms++[x]).map V.int)):=by rw [ag]; simp
   generalize upd H1 L (.lst (ms.map V.int++[V.int x]))=H2 at*
   have hm2:∀ m∈ms++[x],0≤m∧m < 1*2^g.toNat:=fun m hm'=>by
    rcases List.mem_append.mp hm' with hm' | hm'
    · exact hm m hm'
    · rw [List.mem_singleton.mp hm']; exact ⟨x0,x1⟩
   walk_at "w"
   rw [aH]
   walk_at "w"
   refine ⟨by decide,?_⟩
   cases decide ((1:Int) < y % 5) with
   | false=>exact iteF ⟨_,_,ms++[x],rfl,s2,e2,by simp [hl],hm2⟩
   | true=>
    have j0:=Int.emod_nonneg (y / 5) (show g≠0 by omega)
    have j1:=Int.emod_lt_of_pos (y / 5) (show 0 < g by omega)
    refine iteT ⟨⟨by decide,by decide⟩,by omega,⟨j0,by omega,by decide⟩,?_⟩
    refine lX e2 (by omega) (by simp; omega) ?_
    rw [dk]
    refine ⟨_,_,_,rfl,s2.own hL,ag,by simp [hl],fun m hm'=>?_⟩
    rcases List.mem_or_eq_of_mem_set hm' with hm' | rfl
    · exact hm2 m hm'
    · exact yf j0 j1
 · rintro σ H1 ⟨kv,ov,ms,rfl,s1,el,hl,hm⟩
   walk_at "w"
   exact q L H1 ms s1 hL el hl hm
def cS (K:PySem.W.Frag):Sp:=fun vs H Q _=>∃ m s:Int,vs=[.int m,.int s]∧0≤m∧m < 64∧1≤s∧s≤6∧Q (.bl (decide (woI m s=0))) H
theorem qS {K:PySem.W.Frag} {vs:List V} {H:Hp} {Q:VK} {E:XK} (h:cS K vs H Q E):vs.length=2:=by
 obtain ⟨_,_,rfl,_⟩:=h; rfl
def gl (K:PySem.W.Frag):TS:=
 (tRet (tOp (cEq K) (tOp cAnd (tVar 0) (tOp cShl (tC (.int 1)) (tOp cSub (tVar 1) (tC (.int 1))))) (tVar 0)))
theorem wd:((List.range 64).all fun m=>(List.range 6).all fun s=>decide (decide (Builtin.bitAnd (m:Int) (1*2^((1+(s:Int)) - 1).toNat)=(m:Int))=decide (woI (m:Int) (1+(s:Int))=0)))=true:=by decide+kernel
theorem w6 {m s:Int} (m0:0≤m) (m1:m < 64) (s0:1≤s) (s1:s≤6):decide (Builtin.bitAnd m (1*2^(s - 1).toNat)=m)=decide (woI m s=0):=by
 have t:=List.all_eq_true.mp (List.all_eq_true.mp wd m.toNat (List.mem_range.mpr (by omega))) (s - 1).toNat (List.mem_range.mpr (by omega))
 have e1:((m.toNat:Nat):Int)=m:=by omega
 have e2:1+(((s - 1).toNat:Nat):Int)=s:=by omega
 rw [e1,e2] at t
 exact of_decide_eq_true t
theorem qT {K:PySem.W.Frag} {vs:List V} {H:Hp} {Q:VK} {E:XK} (h:cS K vs H Q E):gl K { nx:=fun _ H'=>Q .non H',rt:=Q } (start ["_law_mask","_law_sign"] vs) H:=by
 obtain ⟨m,s,rfl,m0,m1,s0,s1,q⟩:=h
 show gl K _ [some (.int m),some (.int s)] H
 unfold gl
 walk_at "w"
 refine ⟨⟨by omega,by omega,by decide⟩,?_⟩
 walk_at "w"
 rw [w6 m0 m1 s0 s1]
 exact q
def bE (K:PySem.W.Frag):Sp:=fun vs H Q _=>∃ (A C:Addr) (masks cs:List Int),vs=[.ref A,.ref C]∧H A=some (.lst (masks.map V.int))∧H C=some (.lst (cs.map V.int))∧fA cs masks.length∧∀ l H',Same H H'→H l=none→H' l=some (.lst ((sgAt masks cs).map V.int))→Q (.ref l) H'
theorem r8 {K:PySem.W.Frag} {vs:List V} {H:Hp} {Q:VK} {E:XK} (h:bE K vs H Q E):vs.length=2:=by
 obtain ⟨_,_,_,_,rfl,_⟩:=h; rfl
def ie (K:PySem.W.Frag):TS:=
 (tRet (tComp [none,none,some 0] (iList K (tVar 1)) (gName 1) tTrue (tOp cIx (tVar 2) (tVar 1))))
theorem sd {K:PySem.W.Frag} {vs:List V} {H:Hp} {Q:VK} {E:XK} (h:bE K vs H Q E):ie K { nx:=fun _ H'=>Q .non H',rt:=Q } (start ["masks","cells"] vs) H:=by
 obtain ⟨A,C,masks,cs,rfl,hA,hC,⟨hn,hc⟩,q⟩:=h
 show ie K _ [some (.ref A),some (.ref C)] H
 unfold ie
 walk_at "w"
 refine ⟨⟨_,SqL.of hC⟩,?_⟩
 refine bX (xs:=cs) (fun _=>true) (fun c=>masks.getD c.toNat 0) (by omega) (SqL.of hC) ?_ ?_ ?_
 · intro x H1 R hx s1 k1
   exact k1 _ (Same.refl _)
 · intro z H1 Q1 hz hb s1 k1
   show tOp cIx _ _ [none,some (.int z),some (.ref A)] H1 Q1
   walk_at "w"
   have:=hc z hz
   exact ixI (s1 _ _ hA) this.1 (by omega) (k1 _ (Same.refl _))
 · intro l H1 hl s1 el
   rw [fu] at el
   exact q l H1 s1 hl el
def cB (K:PySem.W.Frag):Sp:=fun vs H Q _=>∃ (C:Addr) (ms:List Int) (s:Int),vs=[.ref C,.int s]∧H C=some (.lst (ms.map V.int))∧ms.length≤63∧∀ H',Same H H'→Q (.int ((ms.filter fun m=>stB m s).length:Nat)) H'
theorem se {K:PySem.W.Frag} {vs:List V} {H:Hp} {Q:VK} {E:XK} (h:cB K vs H Q E):vs.length=2:=by
 obtain ⟨_,_,_,rfl,_⟩:=h; rfl
def ig (K:PySem.W.Frag):TS:=
 (tRet (tCB kLen (tCons (tComp [none,none,some 1] (iList K (tVar 0)) (gName 1) (tB (tCall (b7 K) [] E0 (tCons (tVar 1) (tCons (tVar 2) tNil)))) (tVar 1)) tNil)))
theorem sf {K:PySem.W.Frag} {vs:List V} {H:Hp} {Q:VK} {E:XK} (h:cB K vs H Q E):ig K { nx:=fun _ H'=>Q .non H',rt:=Q } (start ["some","sign"] vs) H:=by
 obtain ⟨C,ms,s,rfl,hC,hn,q⟩:=h
 show ig K _ [some (.ref C),some (.int s)] H
 unfold ig
 walk_at "w"
 refine ⟨⟨_,SqL.of hC⟩,?_⟩
 refine bX (xs:=ms) (fun m=>stB m s) (fun m=>m) (by omega) (SqL.of hC) ?_ ?_ ?_
 · intro x H1 R hx s1 k1
   show tB _ [none,some (.int x),some (.int s)] H1 R
   walk_at "w"
   exact ⟨x,s,rfl,_,rfl,k1 _ (Same.refl _)⟩
 · intro z H1 Q1 hz hb s1 k1
   show tVar 1 [none,some (.int z),some (.int s)] H1 Q1
   walk_at "w"
   exact k1 _ (Same.refl _)
 · intro l H1 hl s1 el
   rw [List.map_id'] at el
   rw [cg el,List.length_map]
   exact q _ s1
theorem w9:((List.range 64).all fun m=>(List.range 6).all fun j=>(List.range 6).all fun i=>!(decide (woI (m:Int) (1+(j:Int))=0)&&stB (m:Int) (1+(i:Int)))||decide (i=j))=true:=by decide+kernel
theorem yg {m s x:Int} (m0:0≤m) (m1:m < 64) (s0:1≤s) (s6:s≤6) (x0:1≤x) (x6:x≤6) (h1:woI m s=0) (h2:stB m x=true):x=s:=by
 have t:=List.all_eq_true.mp (List.all_eq_true.mp (List.all_eq_true.mp w9 m.toNat (List.mem_range.mpr (by omega))) (s - 1).toNat (List.mem_range.mpr (by omega))) (x - 1).toNat (List.mem_range.mpr (by omega))
 have e1:((m.toNat:Nat):Int)=m:=by omega
 have e2:1+(((s - 1).toNat:Nat):Int)=s:=by omega
 have e3:1+(((x - 1).toNat:Nat):Int)=x:=by omega
 rw [e1,e2,e3,decide_eq_true h1,h2] at t
 simp at t
 omega
end L2
namespace L2
open PySem PySem.Spec PyProof.Rows
def je:List V→Hp→VK→Prop
 | [.int i,.int j],H,Q=>CDiv i j∧∀ p,H p=none→Q (.ref p) (upd H p (.tup [.int (i / j),.int (i % j)]))
 | _,_,_=>False
theorem jn {X:Cx}:CallR X (.builtin "divmod") je:=by
 intro pins s σ H xs us Q I r h
 unfold je at h
 split at h
 · exact rH pins s σ H _ us Q I r ⟨_,_,rfl,h.1,h.2⟩
 · exact h.elim
theorem ls:bootBuiltins "divmod"=some (.builtin "divmod"):=by decide+kernel
theorem mX {i j:Int} {H:Hp} {Q:VK}:je [.int i,.int j] H Q=(CDiv i j∧∀ p,H p=none→Q (.ref p) (upd H p (.tup [.int (i / j),.int (i % j)]))):=rfl
end L2
namespace L2
open PySem PySem.Spec PyProof.Rows
local macro_rules | `(tactic| walk_at "w")=>`(tactic| (first | simp only [aR,li,nL,jm,lj,kd,ke,nM,nI,lh,nJ,if_true,if_false,Bool.false_eq_true,decide_true,decide_false,jc,jd,l5,gG,fv,ja,j9,jb,gF,j7,j8,gE,lY,gH,gI,gK,gL,gM,gN,gJ,ka,kb,kc,j6,l4,Bool.not_true,Bool.not_false,eF,eV,bK,hE,w_c,kl,fH,fI,eI,fJ,w_b,w_not,io,km,fK,fM,ip,hJ,eJ,kn,fN,iq,iu,jN,iw,fO,fP,fQ,fR,d7,d8,cL,cW,cX,cr,iy,iz,iA,iC,iD,iE,iF,iG,iH,iI,iJ,iK,kq,fS,cY,fT,kr,fU,d9,cZ,iL,iO,fV,fW,fX,
 List.getElem?_cons_zero,List.getElem?_cons_succ,Option.some.injEq,exists_eq_left',exists_eq_left,List.set_cons_zero,List.set_cons_succ,cA,V.int.injEq,V.bl.injEq,V.ref.injEq,V.str.injEq,List.append_nil,List.nil_append,List.cons_append] | dsimp only | skip))
def bp (K:PySem.W.Frag):Sp:=fun vs H Q _=>∃ (C:Addr) (ms:List Int) (s:Int),vs=[.ref C,.int s]∧H C=some (.lst (ms.map V.int))∧ms.length≤63∧s≤100000∧∀ H',Same H H'→Q (.int ((ms.filter fun m=>decide (woI m s=0)).length:Nat)) H'
theorem qU {K:PySem.W.Frag} {vs:List V} {H:Hp} {Q:VK} {E:XK} (h:bp K vs H Q E):vs.length=2:=by
 obtain ⟨_,_,_,rfl,_⟩:=h; rfl
def gm (K:PySem.W.Frag):TS:=
 (tRet (tCB kLen (tCons (tComp [none,none,some 1] (iList K (tVar 0)) (gName 1) (tB (tCall (bn K) [] E0 (tCons (tVar 1) (tCons (tVar 2) tNil)))) (tVar 1)) tNil)))
theorem qV {K:PySem.W.Frag} {vs:List V} {H:Hp} {Q:VK} {E:XK} (h:bp K vs H Q E):gm K { nx:=fun _ H'=>Q .non H',rt:=Q } (start ["some","sign"] vs) H:=by
 obtain ⟨C,ms,s,rfl,hC,hn,hs,q⟩:=h
 show gm K _ [some (.ref C),some (.int s)] H
 unfold gm
 walk_at "w"
 refine ⟨⟨_,SqL.of hC⟩,?_⟩
 refine bX (xs:=ms) (fun m=>decide (woI m s=0)) (fun m=>m) (by omega) (SqL.of hC) ?_ ?_ ?_
 · intro x H1 R hx s1 k1
   show tB _ [none,some (.int x),some (.int s)] H1 R
   walk_at "w"
   exact ⟨x,s,rfl,hs,_,rfl,k1 _ (Same.refl _)⟩
 · intro z H1 Q1 hz hb s1 k1
   show tVar 1 [none,some (.int z),some (.int s)] H1 Q1
   walk_at "w"
   exact k1 _ (Same.refl _)
 · intro l H1 hl s1 el
   rw [List.map_id'] at el
   rw [cg el,List.length_map]
   exact q _ s1
def rosP (c z:Int) (q:List Int):Bool:=decide (q.getD 0 0=c)&&decide (z∈q)
def rosL (h w c z:Int):List Int:=match (squL h w).find? (rosP c z) with
 | none=>[]
 | some q=>q.filter fun x=>!decide (x=z)
theorem o9 {h w:Int} {q:List Int} (hq:q∈squL h w):∃ i:Nat,i < (h*w).toNat∧cornB h w i=true∧q=sqL w i:=by
 unfold squL at hq
 obtain ⟨i,hi,rfl⟩:=List.mem_map.mp hq
 obtain ⟨hi,hc⟩:=List.mem_filter.mp hi
 exact ⟨i,List.mem_range.mp hi,hc,rfl⟩
theorem xa {h w c:Int} (w0:1≤w) (c0:0≤c) (hc:cornB h w c=true):c+w+1 < h*w:=by
 unfold cornB at hc
 rw [Bool.and_eq_true,decide_eq_true_eq,decide_eq_true_eq] at hc
 have e:=Int.mul_ediv_add_emod c w
 have m:=Int.mul_le_mul_of_nonneg_left (show c / w+2≤h by omega) (show 0≤w by omega)
 rw [Int.mul_add] at m
 rw [Int.mul_comm h w]
 omega
theorem wq {h w c x:Int} (w0:1≤w) (c0:0≤c) (hc:cornB h w c=true) (hx:x∈sqL w c):0≤x∧x < h*w:=by
 have:=xa w0 c0 hc
 simp [sqL] at hx
 omega
theorem vn {h w g c z:Int} {n:Nat} (F:FlOk h w g) (hn:n=(h*w).toNat):fA (rosL h w c z) n:=by
 have w0:=F.w0
 unfold rosL
 cases e:(squL h w).find? (rosP c z) with
 | none=>exact ⟨by show (0:Nat)≤63; omega,fun x hx=>by cases hx⟩
 | some q=>
  obtain ⟨i,hi,hc,rfl⟩:=o9 (List.mem_of_find?_eq_some e)
  refine ⟨Nat.le_trans (List.length_filter_le _ _) (by show (4:Nat)≤63; omega),fun x hx=>?_⟩
  have:=wq w0 (by omega) hc (List.mem_filter.mp hx).1
  omega
def bq (K:PySem.W.Frag):Sp:=fun vs H Q _=>∃ (f:Addr) (h w g c z:Int),vs=[.ref f,.int c,.int z]∧IsFl H f h w g∧FlOk h w g∧∀ l H',Same H H'→H l=none→H' l=some (.lst ((rosL h w c z).map V.int))→Q (.ref l) H'
theorem mh {K:PySem.W.Frag} {vs:List V} {H:Hp} {Q:VK} {E:XK} (h:bq K vs H Q E):vs.length=3:=by
 obtain ⟨_,_,_,_,_,_,rfl,_⟩:=h; rfl
def cF (K:PySem.W.Frag):TS:=
 (tSeq (tFor (iList K (tCall (ed K) [] E0 (tCons (tVar 0) tNil))) (gName 3)
  (tIfS (tAnd (tTest (tOp (cEq K) (tOp cIx (tVar 3) (tC (.int 0))) (tVar 1))) (tTest (tOp (cIn K false) (tVar 2) (tVar 3)))) (tRet (tComp [none,none,some 2] (iList K (tVar 3)) (gName 1) (tTest (tOp (cNe K) (tVar 1) (tVar 2))) (tVar 1))) tNext))
  (tRet (tLst tNil)))
theorem mj {K:PySem.W.Frag} {vs:List V} {H:Hp} {Q:VK} {E:XK} (h:bq K vs H Q E):cF K { nx:=fun _ H'=>Q .non H',rt:=Q } (start ["floor","corner","cell","square"] vs) H:=by
 obtain ⟨f,h,w,g,c,z,rfl,hf,F,q⟩:=h
 show cF K _ [some (.ref f),some (.int c),some (.int z),none] H
 unfold cF
 rw [aR]
 walk_at "w"
 refine ⟨f,h,w,g,rfl,hf,F,fun l as H1 s1 hl x nd nl hn=>?_⟩
 refine ⟨l,rfl,⟨_,SqL.of x.top⟩,?_⟩
 refine gA (K:=K) (xs:=as.map V.ref) (fun i σ H'=>∃ sv:Option V,σ=[some (.ref f),some (.int c),some (.int z),sv]∧Same H1 H'∧∀ (j:Nat) (q:List Int),j < i→(squL h w)[j]? =some q→rosP c z q=false) ⟨none,rfl,Same.refl _,fun j q hj=>by omega⟩ (fun i σ H' _ ⟨_,_,s,_⟩=>s.seq (SqL.of x.top)) ?_ ?_
 · rintro i v σ H2 hv ⟨sv,rfl,s2,hno⟩
   rw [List.getElem?_map] at hv
   cases ha:as[i]? with
   | none=>rw [ha] at hv; cases hv
   | some a=>
   rw [ha] at hv
   cases hv
   have hlt:i < (squL h w).length:=by rw [← x.len]; exact (List.getElem?_eq_some_iff.mp ha).1
   have eq:(squL h w)[i]? =some (squL h w)[i]:=List.getElem?_eq_getElem hlt
   have ea:=(x.same s2).at_ i a _ ha eq
   have q4:((squL h w)[i]).length=4:=by
    obtain ⟨k,_,_,e⟩:=o9 (List.getElem_mem hlt)
    rw [e]; rfl
   have nx:rosP c z (squL h w)[i]=false→∀ (j:Nat) (q:List Int),j < i+1→(squL h w)[j]? =some q→rosP c z q=false:=fun hf j q hj hq=>by
    by_cases hji:j=i
    · subst hji
      rw [eq] at hq
      cases hq
      exact hf
    · exact hno j q (by omega) hq
   have fo:rosP c z (squL h w)[i]=true→rosL h w c z=(squL h w)[i].filter fun x=>!decide (x=z):=fun ht=>by
    have e:(squL h w).find? (rosP c z)=some (squL h w)[i]:=by
     rw [List.find?_eq_some_iff_getElem]
     refine ⟨ht,i,hlt,rfl,fun j hj=>?_⟩
     rw [hno j _ hj (List.getElem?_eq_getElem (by omega))]
     rfl
    unfold rosL
    rw [e]
   generalize (squL h w)[i]=sq at*
   unfold rosP at nx fo
   walk_at "w"
   rw [aH]
   walk_at "w"
   refine ixI ea (by decide) (by omega) ?_
   rw [show (0:Int).toNat=0 from rfl]
   walk_at "w"
   cases hb:decide (sq.getD 0 0=c) with
   | false=>
    rw [hb,Bool.false_and] at nx
    refine iteF ?_
    walk_at "w"
    exact ⟨_,rfl,s2,nx rfl⟩
   | true=>
    rw [hb,Bool.true_and] at nx fo
    refine iteT ?_
    rw [vS ea]
    cases hb2:decide (z∈sq) with
    | false=>
     rw [hb2] at nx
     refine ⟨false,rfl,?_⟩
     walk_at "w"
     exact ⟨_,rfl,s2,nx rfl⟩
    | true=>
     rw [hb2] at fo
     refine ⟨true,rfl,?_⟩
     walk_at "w"
     refine ⟨⟨_,SqL.of ea⟩,?_⟩
     refine bX (xs:=sq) (fun x=>!decide (x=z)) (fun x=>x) (by omega) (SqL.of ea) ?_ ?_ ?_
     · intro y H3 R hy s3 k3
       show tTest _ [none,some (.int y),some (.int z)] H3 R
       walk_at "w"
       exact k3 _ (Same.refl _)
     · intro y H3 Q3 hy hb s3 k3
       show tVar 1 [none,some (.int y),some (.int z)] H3 Q3
       walk_at "w"
       exact k3 _ (Same.refl _)
     · intro T H3 hT s3 eT
       rw [List.map_id',← fo rfl] at eT
       exact q T H3 ((s1.trans s2).trans s3) ((s1.trans s2).free hT) eT
 · rintro σ H2 ⟨sv,rfl,s2,hno⟩
   have e:rosL h w c z=[]:=by
    have e:(squL h w).find? (rosP c z)=none:=by
     rw [List.find?_eq_none]
     intro q hq
     obtain ⟨i,hi⟩:=List.getElem?_of_mem hq
     rw [hno i q (by rw [List.length_map,x.len]; exact (List.getElem?_eq_some_iff.mp hi).1) hi]
     decide
    unfold rosL
    rw [e]
   walk_at "w"
   refine ⟨aF (by decide),fun T hT=>?_⟩
   exact q T _ ((s1.trans s2).trans ((Same.refl H2).laid hT)) ((s1.trans s2).free hT) (by rw [ag,e]; rfl)
def squB (h w m:Int) (masks:List Int) (z s:Int) (ms:List Int):Bool:=decide (s=m)&&(decide (ms.length=1)&&(!decide (rosL h w (ms.getD 0 0) z=[])&&decide (((sgAt masks (rosL h w (ms.getD 0 0) z)).filter fun k=>decide (woI k s=0)).length=(rosL h w (ms.getD 0 0) z).length)))
def bt (K:PySem.W.Frag) (c:RCl RK):Sp:=fun vs H Q _=>∃ (k:RK) (f r p A M:Addr) (ws:List (List Nat)) (cs masks ms:List Int) (n m z s h w g:Int),vs=[.ref f,.ref r,.ref A,.int z,.int s,.ref M]∧IsFl H f h w g∧FlOk h w g∧IsRule H c k r p ws cs n m∧masks.length=(h*w).toNat∧H A=some (.lst (masks.map V.int))∧H M=some (.lst (ms.map V.int))∧s≤1000∧∀ H',Same H H'→Q (.bl (squB h w m masks z s ms)) H'
theorem mo {K:PySem.W.Frag} {c:RCl RK} {vs:List V} {H:Hp} {Q:VK} {E:XK} (h:bt K c vs H Q E):vs.length=6:=by
 obtain ⟨_,_,_,_,_,_,_,_,_,_,_,_,_,_,_,_,_,rfl,_⟩:=h; rfl
def c9 (K:PySem.W.Frag) (c:RCl RK):TS:=
 (tSeq (tAsg (tCall (bq K) [] E0 (tCons (tVar 0) (tCons (tOp cIx (tVar 5) (tC (.int 0))) (tCons (tVar 3) tNil)))) (gName 6))
  (tRet (tAndV (tOp (cNe K) (tVar 6) (tLst tNil)) (tOp (cEq K) (tCall (bp K) [] E0 (tCons (tCall (bE K) [] E0 (tCons (tVar 2) (tCons (tVar 6) tNil))) (tCons (tVar 4) tNil))) (tCB kLen (tCons (tVar 6) tNil))))))
def cG (K:PySem.W.Frag) (c:RCl RK):TS:=
 (tSeq (tIfS (tOr (tTest (tOp (cNe K) (tVar 4) (cM c c.ok "sign" (fz K c) (tVar 1) tNil))) (tTest (tOp (cNe K) (tCB kLen (tCons (tVar 5) tNil)) (tC (.int 1))))) (tRet (tC (.bl false))) tNext)
  (c9 K c))
theorem kB {K:PySem.W.Frag} {c:RCl RK} {H:Hp} {Q:VK} {f A M:Addr} {v1:V} {masks ms:List Int} {z s h w g:Int} (hf:IsFl H f h w g) (F:FlOk h w g) (hml:masks.length=(h*w).toNat) (hA:H A=some (.lst (masks.map V.int))) (hM:H M=some (.lst (ms.map V.int))) (hl:ms.length=1) (hs:s≤1000)
  (q:∀ H',Same H H'→Q (.bl (!decide (rosL h w (ms.getD 0 0) z=[])&&decide (((sgAt masks (rosL h w (ms.getD 0 0) z)).filter fun k=>decide (woI k s=0)).length=(rosL h w (ms.getD 0 0) z).length))) H'):
  c9 K c { nx:=fun _ H'=>Q .non H',rt:=Q } [some (.ref f),some v1,some (.ref A),some (.int z),some (.int s),some (.ref M),none] H:=by
 have hin:=vn (c:=ms.getD 0 0) (z:=z) F hml
 unfold c9
 walk_at "w"
 refine ixI hM (by decide) (by omega) ?_
 rw [show (0:Int).toNat=0 from rfl]
 walk_at "w"
 refine ⟨f,h,w,g,_,z,rfl,hf,F,fun R H1 s1 hR eR=>?_⟩
 walk_at "w"
 refine ⟨aF (by decide),fun Z hZ=>?_⟩
 have s2:Same H1 (upd H1 Z (.lst [])):=(Same.refl H1).laid hZ
 have eZ:(upd H1 Z (.lst [])) Z=some (.lst (([]:List Int).map V.int)):=ag
 generalize upd H1 Z (.lst [])=H2 at*
 have s12:=s1.trans s2
 refine wp (s2 _ _ eR) eZ ?_
 generalize hros:rosL h w (ms.getD 0 0) z=ros at*
 cases hb:decide (ros=[]) with
 | true=>
  rw [hb,Bool.not_true] at q
  refine ⟨false,rfl,iteF ?_⟩
  exact q _ s12
 | false=>
  rw [hb,Bool.not_false] at q
  refine ⟨true,rfl,iteT ?_⟩
  walk_at "w"
  refine ⟨A,R,masks,ros,rfl,s12 _ _ hA,s2 _ _ eR,hin,fun B H3 s3 hB eB=>?_⟩
  dsimp only
  refine ⟨B,_,s,rfl,eB,by unfold sgAt; rw [List.length_map]; exact hin.1,by omega,fun H4 s4=>?_⟩
  walk_at "w"
  rw [cg (((s2.trans s3).trans s4) _ _ eR),List.length_map]
  walk_at "w"
  have q1:=q H4 ((s12.trans s3).trans s4)
  have e:decide ((((sgAt masks ros).filter fun k=>decide (woI k s=0)).length:Int)=(ros.length:Int))=decide (((sgAt masks ros).filter fun k=>decide (woI k s=0)).length=ros.length):=by
   rw [Bool.eq_iff_iff,decide_eq_true_eq,decide_eq_true_eq]; omega
  rw [e]
  exact q1
theorem mq {K:PySem.W.Frag} {c:RCl RK} {vs:List V} {H:Hp} {Q:VK} {E:XK} (h:bt K c vs H Q E):cG K c { nx:=fun _ H'=>Q .non H',rt:=Q } (start ["floor","rule","masks","cell","sign","more","rest"] vs) H:=by
 obtain ⟨k,f,r,p,A,M,ws,cs,masks,ms,n,m,z,s,h,w,g,rfl,hf,F,x,hml,hA,hM,hs,q⟩:=h
 obtain ⟨dx,W,C,h1,h2,h3⟩:=x.ex
 show cG K c _ [some (.ref f),some (.ref r),some (.ref A),some (.int z),some (.int s),some (.ref M),none] H
 unfold cG
 rw [aR,aH]
 walk_at "w"
 refine methE (k:=k) rfl x.ok h1 (by rfl) ?_
 walk_at "w"
 refine ⟨r,p,ws,cs,n,m,rfl,x,?_⟩
 walk_at "w"
 unfold squB at q
 cases hb:decide (s=m) with
 | false=>
  rw [hb,Bool.false_and] at q
  walk_at "w"
  exact q _ (Same.refl _)
 | true=>
  rw [hb,Bool.true_and] at q
  walk_at "w"
  rw [cg hM,List.length_map]
  walk_at "w"
  have e1:decide ((ms.length:Int)=1)=decide (ms.length=1):=by
   rw [Bool.eq_iff_iff,decide_eq_true_eq,decide_eq_true_eq]; omega
  rw [e1]
  cases hb2:decide (ms.length=1) with
  | false=>
   rw [hb2,Bool.false_and] at q
   walk_at "w"
   exact q _ (Same.refl _)
  | true=>
   rw [hb2,Bool.true_and] at q
   walk_at "w"
   exact kB hf F hml hA hM (of_decide_eq_true hb2) hs q
theorem vo (t:TK):decide (tkC t=[115,113,117,97,114,101])=decide (t=.square):=by cases t <;> decide
end L2
namespace L2
open PySem PySem.Spec PyProof.Rows
end L2
namespace L2
open PySem PySem.Spec PyProof.Rows
local macro_rules | `(tactic| walk_at "w")=>`(tactic| (first | simp only [aR,li,nL,jm,lj,kd,ke,nM,nI,lh,nJ,if_true,if_false,Bool.false_eq_true,decide_true,decide_false,jc,jd,l5,gG,fv,ja,j9,jb,gF,j7,j8,gE,lY,gH,gI,gK,gL,gM,gN,gJ,ka,kb,kc,j6,l4,Bool.not_true,Bool.not_false,eF,eV,bK,hE,w_c,kl,fH,fI,eI,fJ,w_b,w_not,io,km,fK,fM,ip,hJ,eJ,kn,fN,iq,iu,jN,iw,fO,fP,fQ,fR,d7,d8,cL,cW,cX,cr,iy,iz,iA,iC,iD,iE,iF,iG,iH,iI,iJ,iK,kq,fS,cY,fT,kr,fU,d9,cZ,iL,iO,fV,fW,fX,
 List.getElem?_cons_zero,List.getElem?_cons_succ,Option.some.injEq,exists_eq_left',exists_eq_left,List.set_cons_zero,List.set_cons_succ,cA,V.int.injEq,V.bl.injEq,V.ref.injEq,V.str.injEq,List.append_nil,List.nil_append,List.cons_append] | dsimp only | skip))
def da (K:PySem.W.Frag):Sp:=fun vs H Q _=>∃ (a l:Addr) (h w g st:Int) (cs:List Int),vs=[.ref a,.ref l,.int st]∧IsFl H a h w g∧0 < w∧w < 100∧H l=some (.lst (cs.map V.int))∧cs.length≤63∧
 ∀ (p:Addr) (H':Hp) (rs:List Int),Same H H'→H p=none→H' p=some (.lst (rs.map V.int))→rs.Pairwise (· < ·)→(∀ x,x∈rs↔RC h w cs st x)→Q (.ref p) H'
theorem tR {K:PySem.W.Frag} {vs:List V} {H:Hp} {Q:VK} {E:XK} (h:da K vs H Q E):vs.length=3:=by
 obtain ⟨_,_,_,_,_,_,_,rfl,_⟩:=h; rfl
def i0 (K:PySem.W.Frag):TS:=
 (tSeq (tIfS (tTest (tOp (cIn K true) (tVar 2) (tVar 1))) (tRet (tLst tNil)) tNext)
  (tSeq (tAsg (tLst (tCons (tVar 2) tNil)) (gName 3))
  (tSeq (tAsg (tC (.int 0)) (gName 4))
  (tSeq (ul (tTest (tOp (cCmp fun i j=>decide (i < j)) (tVar 4) (tCB kLen (tCons (tVar 3) tNil))))
  (tSeq (tFor (iList K (tCall (bH K) [] E0 (tCons (tVar 0) (tCons (tOp cIx (tVar 3) (tVar 4)) tNil)))) (gName 5)
  (tIfS (tAnd (tTest (tOp (cIn K false) (tVar 5) (tVar 1))) (tTest (tOp (cIn K true) (tVar 5) (tVar 3)))) (tDrop (tBM K "list" bJ (tVar 3) (tCons (tVar 5) tNil))) tNext))
  (tAsg (tOp cAdd (tVar 4) (tC (.int 1))) (gName 4))))
  (tRet (tCB lT (tCons (tVar 3) tNil)))))))
theorem tS {K:PySem.W.Frag} {vs:List V} {H:Hp} {Q:VK} {E:XK} (h:da K vs H Q E):i0 K { nx:=fun _ H'=>Q .non H',rt:=Q } (start ["floor","cells","start","found","place","cell"] vs) H:=by
 obtain ⟨a,l,h,w,g,st,cs,rfl,ha,w0,w1,hl,hn,k⟩:=h
 show i0 K _ [some (.ref a),some (.ref l),some (.int st),none,none,none] H
 unfold i0
 rw [aR,aH]
 walk_at "w"
 rw [lV hl]
 walk_at "w"
 by_cases hs:st∈cs
 · rw [if_neg (by simpa using hs)]
   walk_at "w"
   refine ⟨aF (by show (1:Nat)≤1000; decide),fun f hf=>?_⟩
   refine ⟨fun m σ H'=>∃ (fs:List Int) (pl:Nat) (cv:Option V),σ=[some (.ref a),some (.ref l),some (.int st),some (.ref f),some (.int pl),cv]∧Same H H'∧H' f=some (.lst (fs.map V.int))∧BI h w cs st fs pl∧m=cs.length - pl,
    ⟨_,[st],0,none,rfl,(Same.refl H).laid hf,ag,BI.start hs,rfl⟩,?_⟩
   rintro m σ H1 ⟨fs,pl,cv,rfl,s1,e1,B,rfl⟩
   have hfl:=B.len
   walk_at "w"
   rw [cg e1,List.length_map]
   walk_at "w"
   by_cases hp:pl < fs.length
   · rw [if_pos (by simpa using hp)]
     obtain ⟨x,hx⟩:∃ x,fs[pl]? =some x:=⟨fs[pl],by simp [hp]⟩
     have rx:RC h w cs st x:=B.rc x (List.mem_of_getElem? hx)
     refine ⟨fun σ H'=>∃ (fs:List Int) (cv:Option V),σ=[some (.ref a),some (.ref l),some (.int st),some (.ref f),some (.int ((pl:Int)+1)),cv]∧Same H H'∧H' f=some (.lst (fs.map V.int))∧BI h w cs st fs (pl+1),
      fun σ' H' ⟨fs',cv',e,s',e',B'⟩=>⟨_,by omega,fs',pl+1,cv',by rw [e]; rfl,s',e',B',rfl⟩,?_⟩
     walk_at "w"
     rw [wo e1]
     refine a7 (mN (by omega) (by omega)) ?_
     walk_at "w"
     rw [show ((pl:Int)).toNat=pl from Int.toNat_natCast _,l3 hx]
     refine ⟨a,h,w,g,x,rfl,s1 _ _ ha,w0,w1,fun b H2 s2 hb e2=>?_⟩
     have s12:=s1.trans s2
     refine ⟨b,rfl,⟨_,SqL.of e2⟩,gA (K:=K) (xs:=(besL h w x).map V.int) (fun i σ H'=>∃ (f2:List Int) (cv:Option V),σ=[some (.ref a),some (.ref l),some (.int st),some (.ref f),some (.int pl),cv]∧Same H H'∧H' b=some (.lst ((besL h w x).map V.int))∧H' f=some (.lst (f2.map V.int))∧BJ h w cs st fs pl ((besL h w x).take i) f2)
      ⟨fs,cv,rfl,s12,e2,s2 _ _ e1,BJ.zero B⟩ (fun i σ H' _ ⟨_,_,_,_,q,_⟩=>SqL.of q) ?_ ?_⟩
     · rintro i y σ H3 hy ⟨f2,cv2,rfl,s3,eb,ef,J⟩
       rw [List.getElem?_map] at hy
       cases hz:(besL h w x)[i]? with
       | none=>rw [hz] at hy; cases hy
       | some z=>
        rw [hz] at hy
        cases hy
        have hlen2:f2.length≤63:=Nat.le_trans (ku J.nd fun x hx=>(J.rc x hx).mem) hn
        have hmem:z∈besL h w x:=List.mem_of_getElem? hz
        have htake:(besL h w x).take (i+1)=(besL h w x).take i++[z]:=by rw [List.take_add_one,hz]; rfl
        have J2:=J.more rx hmem
        rw [← htake] at J2
        walk_at "w"
        rw [aH]
        walk_at "w"
        rw [vS (s3 _ _ hl)]
        walk_at "w"
        have fin:∀ H4:Hp,H4 f=some (.lst ((addC cs f2 z).map V.int))→(∀ c,c≠f→H4 c=H3 c)→∃ (f2:List Int) (cv:Option V),[some (V.ref a),some (.ref l),some (.int st),some (.ref f),some (.int pl),some (.int z)]=[some (.ref a),some (.ref l),some (.int st),some (.ref f),some (.int pl),cv]∧Same H H4∧H4 b=some (.lst ((besL h w x).map V.int))∧H4 f=some (.lst (f2.map V.int))∧BJ h w cs st fs pl ((besL h w x).take (i+1)) f2:=fun H4 q1 q2=>
         ⟨_,_,rfl,fun c o e=>by rw [q2 c (aA e hf)]; exact s3 c o e,by rw [q2 b (fun e=>by rw [e] at hb; rw [e1] at hb; cases hb)]; exact eb,q1,J2⟩
        by_cases c1:z∈cs
        · rw [if_pos (by simpa using c1)]
          rw [lV ef]
          by_cases c2:z∈f2
          · simp only [c2,decide_true,Bool.not_true,if_neg Bool.false_ne_true,V.bl.injEq,exists_eq_left']
            refine fin H3 ?_ fun _ _=>rfl
            rw [ef,addC,if_neg (fun q=>q.2 c2)]
          · simp only [c2,decide_false,Bool.not_false,if_true,V.bl.injEq,exists_eq_left']
            walk_at "w"
            refine ⟨gC ef,?_⟩
            rw [gD ef]
            refine ⟨by rw [List.length_map]; exact aG (by omega),fin _ ?_ fun c hc=>aj hc⟩
            rw [ag,addC,if_pos ⟨c1,c2⟩]
            simp
        · rw [if_neg (by simpa using c1)]
          try simp only [if_neg Bool.false_ne_true]
          refine fin H3 ?_ fun _ _=>rfl
          rw [ef,addC,if_neg (fun q=>c1 q.1)]
     · rintro σ H3 ⟨f2,cv2,rfl,s3,eb,ef,J⟩
       rw [List.length_map,List.take_length] at J
       walk_at "w"
       exact ⟨f2,cv2,rfl,s3,ef,J.done B hx⟩
   · rw [if_neg (by simpa using hp)]
     walk_at "w"
     unfold lT
     dsimp only
     rw [e1]
     refine ⟨fs,rfl,by omega,fun rs p hpn pm ps=>?_⟩
     refine k p _ rs (s1.laid hpn) (s1.free hpn) ag (uW pm ps B.nd) fun x=>?_
     rw [pm.mem_iff]
     exact B.done hp x
 · rw [if_pos (by simpa using hs)]
   walk_at "w"
   refine ⟨Nat.zero_le _,fun p hp=>k p _ [] ((Same.refl H).laid hp) hp ag .nil fun x=>⟨(fun q=>nomatch q),fun r=>absurd (RC.st r) hs⟩⟩
noncomputable def rcB (h w:Int) (cs:List Int) (st x:Int):Bool:=@decide (RC h w cs st x) (Classical.propDecidable _)
theorem vp {h w:Int} {cs rs:List Int} {st x:Int} (hm:x∈rs↔RC h w cs st x):decide (x∈rs)=rcB h w cs st x:=by
 unfold rcB
 rw [Bool.eq_iff_iff,decide_eq_true_eq]
 exact hm.trans (@decide_eq_true_iff _ (Classical.propDecidable _)).symm
def anoB (h w:Int) (masks:List Int) (z m o:Int):Bool:=(decide (0≤o)&&decide (o < h*w))&&(!decide (o=z)&&decide (woI (masks.getD o.toNat 0) m=0))
def aW (K:PySem.W.Frag):Sp:=fun vs H Q _=>∃ (f A:Addr) (h w g z o m:Int) (masks:List Int),vs=[.ref f,.ref A,.int z,.int o,.int m]∧IsFl H f h w g∧FlOk h w g∧H A=some (.lst (masks.map V.int))∧masks.length=(h*w).toNat∧m≤1000∧Q (.bl (anoB h w masks z m o)) H
theorem jA {K:PySem.W.Frag} {vs:List V} {H:Hp} {Q:VK} {E:XK} (h:aW K vs H Q E):vs.length=5:=by
 obtain ⟨_,_,_,_,_,_,_,_,_,rfl,_⟩:=h; rfl
def bw (K:PySem.W.Frag):TS:=
 (tRet (tAndV (tCall (cx K) [] E0 (tCons (tVar 0) (tCons (tVar 3) tNil))) (tAndV (tOp (cNe K) (tVar 3) (tVar 2)) (tCall (bn K) [] E0 (tCons (tOp cIx (tVar 1) (tVar 3)) (tCons (tVar 4) tNil))))))
theorem jB {K:PySem.W.Frag} {vs:List V} {H:Hp} {Q:VK} {E:XK} (h:aW K vs H Q E):bw K { nx:=fun _ H'=>Q .non H',rt:=Q } (start ["floor","masks","cell","other","mark"] vs) H:=by
 obtain ⟨f,A,h,w,g,z,o,m,masks,rfl,hf,F,hA,hml,hm,q⟩:=h
 show bw K _ [some (.ref f),some (.ref A),some (.int z),some (.int o),some (.int m)] H
 unfold bw
 walk_at "w"
 refine ⟨f,h,w,g,o,rfl,hf,F,?_⟩
 unfold anoB at q
 cases hb:(decide (0≤o)&&decide (o < h*w)) with
 | false=>
  rw [hb,Bool.false_and] at q
  exact ⟨false,rfl,iteF q⟩
 | true=>
  rw [hb,Bool.true_and] at q
  rw [Bool.and_eq_true,decide_eq_true_eq,decide_eq_true_eq] at hb
  refine ⟨true,rfl,iteT ?_⟩
  walk_at "w"
  cases hb2:decide (o=z) with
  | true=>
   rw [hb2,Bool.not_true,Bool.false_and] at q
   walk_at "w"
   exact q
  | false=>
   rw [hb2,Bool.not_false,Bool.true_and] at q
   walk_at "w"
   refine ixI hA hb.1 (by omega) ?_
   walk_at "w"
   exact ⟨_,m,rfl,by omega,q⟩
def thrL (cs masks:List Int) (m z:Int):List Int:=(cs.filter fun x=>!decide (x=z)).filter fun x=>stB (masks.getD x.toNat 0) m
noncomputable def reaB (h w:Int) (cs:List Int) (m:Int) (masks:List Int) (z s:Int) (ms:List Int):Bool:=
 (ms.all fun o=>anoB h w masks z m o)&&(if s=m then decide (ms.length=1)&&!rcB h w (thrL cs masks m z++[z]) z (ms.getD 0 0)
  else decide (ms.length=2)&&(!decide (ms.getD 0 0=ms.getD 1 0)&&!rcB h w (thrL cs masks m z) (ms.getD 0 0) (ms.getD 1 0)))
def bB (K:PySem.W.Frag) (c:RCl RK):Sp:=fun vs H Q _=>∃ (k:RK) (f r p A M:Addr) (ws:List (List Nat)) (cs masks ms:List Int) (n m z s h w g:Int),vs=[.ref f,.ref r,.ref A,.int z,.int s,.ref M]∧IsFl H f h w g∧FlOk h w g∧IsRule H c k r p ws cs n m∧fA cs masks.length∧cs.length≤60∧masks.length=(h*w).toNat∧H A=some (.lst (masks.map V.int))∧H M=some (.lst (ms.map V.int))∧ms.length≤100∧m≤1000∧∀ H',Same H H'→Q (.bl (reaB h w cs m masks z s ms)) H'
theorem mY {K:PySem.W.Frag} {c:RCl RK} {vs:List V} {H:Hp} {Q:VK} {E:XK} (h:bB K c vs H Q E):vs.length=6:=by
 obtain ⟨_,_,_,_,_,_,_,_,_,_,_,_,_,_,_,_,_,rfl,_⟩:=h; rfl
def dm (K:PySem.W.Frag) (c:RCl RK):TS:=
 (tSeq (tIfS (tTest (tOp (cEq K) (tVar 4) (tVar 6))) (tRet (tAndV (tOp (cEq K) (tCB kLen (tCons (tVar 5) tNil)) (tC (.int 1))) (tOp (cIn K true) (tOp cIx (tVar 5) (tC (.int 0))) (tCall (da K) [] E0 (tCons (tVar 0) (tCons (tOp cAdd (tVar 7) (tLst (tCons (tVar 3) tNil))) (tCons (tVar 3) tNil))))))) tNext)
  (tSeq (tIfS (tOr (tTest (tOp (cNe K) (tCB kLen (tCons (tVar 5) tNil)) (tC (.int 2)))) (tTest (tOp (cEq K) (tOp cIx (tVar 5) (tC (.int 0))) (tOp cIx (tVar 5) (tC (.int 1)))))) (tRet (tC (.bl false))) tNext)
  (tRet (tOp (cIn K true) (tOp cIx (tVar 5) (tC (.int 1))) (tCall (da K) [] E0 (tCons (tVar 0) (tCons (tVar 7) (tCons (tOp cIx (tVar 5) (tC (.int 0))) tNil))))))))
def dn (K:PySem.W.Frag) (c:RCl RK):TS:=
 (tSeq (sComp 7 [none,none,some 6,some 2] (iList K (tCall (fC K c) [] E0 (tCons (tVar 1) (tCons (tVar 3) tNil)))) (gName 1) (tB (tCall (b7 K) [] E0 (tCons (tOp cIx (tVar 3) (tVar 1)) (tCons (tVar 2) tNil)))) (tVar 1))
  (dm K c))
def db (K:PySem.W.Frag) (c:RCl RK):TS:=
 (tSeq (tAsg (cM c c.ok "sign" (fz K c) (tVar 1) tNil) (gName 6))
  (tSeq (tIfS (tNot (tB (tCB kAll (tCons (tComp [none,none,some 3,some 0,some 6,some 2] (iList K (tVar 5)) (gName 1) tTrue (tCall (aW K) [] E0 (tCons (tVar 3) (tCons (tVar 5) (tCons (tVar 2) (tCons (tVar 1) (tCons (tVar 4) tNil))))))) tNil)))) (tRet (tC (.bl false))) tNext)
  (dn K c)))
theorem kN {K:PySem.W.Frag} {c:RCl RK} {H:Hp} {Q:VK} {f A M N:Addr} {v1:V} {T ms:List Int} {m z s h w g:Int} (hf:IsFl H f h w g) (F:FlOk h w g) (hM:H M=some (.lst (ms.map V.int))) (hN:H N=some (.lst (T.map V.int))) (hT:T.length≤60)
  (q:∀ H',Same H H'→Q (.bl (if s=m then decide (ms.length=1)&&!rcB h w (T++[z]) z (ms.getD 0 0) else decide (ms.length=2)&&(!decide (ms.getD 0 0=ms.getD 1 0)&&!rcB h w T (ms.getD 0 0) (ms.getD 1 0)))) H'):
  dm K c { nx:=fun _ H'=>Q .non H',rt:=Q } [some (.ref f),some v1,some (.ref A),some (.int z),some (.int s),some (.ref M),some (.int m),some (.ref N)] H:=by
 have w0:=F.w0
 have w1:=F.w1
 unfold dm
 rw [aR,aH]
 walk_at "w"
 by_cases hs:s=m
 · rw [if_pos hs] at q
   rw [decide_eq_true hs]
   walk_at "w"
   rw [cg hM,List.length_map]
   walk_at "w"
   have e1:decide ((ms.length:Int)=1)=decide (ms.length=1):=by
    rw [Bool.eq_iff_iff,decide_eq_true_eq,decide_eq_true_eq]; omega
   rw [e1]
   cases hb:decide (ms.length=1) with
   | false=>
    rw [hb,Bool.false_and] at q
    walk_at "w"
    exact q _ (Same.refl _)
   | true=>
    rw [hb,Bool.true_and] at q
    have hl:=of_decide_eq_true hb
    walk_at "w"
    refine ixI hM (by decide) (by omega) ?_
    rw [show (0:Int).toNat=0 from rfl]
    walk_at "w"
    refine ⟨aF (by show (1:Nat)≤1000; decide),fun l hl2=>?_⟩
    have s1:Same H (upd H l (.lst [V.int z])):=(Same.refl H).laid hl2
    have el:(upd H l (.lst [V.int z])) l=some (.lst [V.int z]):=ag
    generalize upd H l (.lst [V.int z])=H1 at*
    refine nK (s1 _ _ hN) el (by simp; omega) fun Y hY=>?_
    have s2:Same H1 (upd H1 Y (.lst (T.map V.int++[V.int z]))):=(Same.refl H1).laid hY
    have eY:(upd H1 Y (.lst (T.map V.int++[V.int z]))) Y=some (.lst ((T++[z]).map V.int)):=by rw [ag]; simp
    generalize upd H1 Y (.lst (T.map V.int++[V.int z]))=H2 at*
    have s12:=s1.trans s2
    walk_at "w"
    refine ⟨f,Y,h,w,g,z,_,rfl,s12 _ _ hf,by omega,by omega,eY,by simp; omega,fun p H3 rs s3 hp ep _ hx=>?_⟩
    dsimp only
    rw [lV ep,vp (hx _)]
    exact q _ (s12.trans s3)
 · rw [if_neg hs] at q
   rw [decide_eq_false hs]
   walk_at "w"
   rw [aH]
   walk_at "w"
   rw [cg hM,List.length_map]
   walk_at "w"
   have e1:decide ((ms.length:Int)=2)=decide (ms.length=2):=by
    rw [Bool.eq_iff_iff,decide_eq_true_eq,decide_eq_true_eq]; omega
   rw [e1]
   cases hb:decide (ms.length=2) with
   | false=>
    rw [hb,Bool.false_and] at q
    walk_at "w"
    exact q _ (Same.refl _)
   | true=>
    rw [hb,Bool.true_and] at q
    have hl:=of_decide_eq_true hb
    walk_at "w"
    refine ixI hM (by decide) (by omega) ?_
    rw [show (0:Int).toNat=0 from rfl]
    walk_at "w"
    refine ixI hM (by decide) (by omega) ?_
    rw [show (1:Int).toNat=1 from rfl]
    walk_at "w"
    cases hb2:decide (ms.getD 0 0=ms.getD 1 0) with
    | true=>
     rw [hb2,Bool.not_true,Bool.false_and] at q
     walk_at "w"
     exact q _ (Same.refl _)
    | false=>
     rw [hb2,Bool.not_false,Bool.true_and] at q
     walk_at "w"
     refine ixI hM (by decide) (by omega) ?_
     rw [show (1:Int).toNat=1 from rfl]
     walk_at "w"
     refine ixI hM (by decide) (by omega) ?_
     rw [show (0:Int).toNat=0 from rfl]
     walk_at "w"
     refine ⟨f,N,h,w,g,_,_,rfl,hf,by omega,by omega,hN,by omega,fun p H3 rs s3 hp ep _ hx=>?_⟩
     dsimp only
     rw [lV ep,vp (hx _)]
     exact q _ s3
theorem kO {K:PySem.W.Frag} {c:RCl RK} {H:Hp} {Q:VK} {k:RK} {f r p A M:Addr} {ws:List (List Nat)} {cs masks ms:List Int} {n m z s h w g:Int} (hf:IsFl H f h w g) (F:FlOk h w g) (x:IsRule H c k r p ws cs n m) (hC:fA cs masks.length) (hml:masks.length=(h*w).toNat) (hA:H A=some (.lst (masks.map V.int))) (hM:H M=some (.lst (ms.map V.int)))
  (q:∀ H',Same H H'→Q (.bl (if s=m then decide (ms.length=1)&&!rcB h w (thrL cs masks m z++[z]) z (ms.getD 0 0) else decide (ms.length=2)&&(!decide (ms.getD 0 0=ms.getD 1 0)&&!rcB h w (thrL cs masks m z) (ms.getD 0 0) (ms.getD 1 0)))) H') (hcs:cs.length≤60):
  dn K c { nx:=fun _ H'=>Q .non H',rt:=Q } [some (.ref f),some (.ref r),some (.ref A),some (.int z),some (.int s),some (.ref M),some (.int m),none] H:=by
 unfold dn
 walk_at "w"
 refine ⟨k,r,p,ws,cs,n,m,z,rfl,x,hC.1,fun O H1 s1 hO eO=>?_⟩
 have hfl:=List.length_filter_le (fun x=>!decide (x=z)) cs
 refine ⟨O,rfl,⟨_,SqL.of eO⟩,?_⟩
 refine bX (xs:=cs.filter fun x=>!decide (x=z)) (fun x=>stB (masks.getD x.toNat 0) m) (fun x=>x) (by omega) (SqL.of eO) ?_ ?_ ?_
 · intro y H2 R hy s2 k2
   have hyc:=hC.2 y (List.mem_filter.mp hy).1
   show tB _ [none,some (.int y),some (.int m),some (.ref A)] H2 R
   walk_at "w"
   refine ixI ((s1.trans s2) _ _ hA) hyc.1 hyc.2 ?_
   walk_at "w"
   exact ⟨_,m,rfl,_,rfl,k2 _ (Same.refl _)⟩
 · intro y H2 Q2 hy hb s2 k2
   show tVar 1 [none,some (.int y),some (.int m),some (.ref A)] H2 Q2
   walk_at "w"
   exact k2 _ (Same.refl _)
 · intro N H2 hN s2 eN
   rw [List.map_id'] at eN
   have s12:=s1.trans s2
   walk_at "w"
   refine kN (s12 _ _ hf) F (s12 _ _ hM) (T:=thrL cs masks m z) eN ?_ fun H' s3=>q H' (s12.trans s3)
   unfold thrL
   have:=List.length_filter_le (fun x=>stB (masks.getD x.toNat 0) m) (cs.filter fun x=>!decide (x=z))
   omega
theorem mZ {K:PySem.W.Frag} {c:RCl RK} {vs:List V} {H:Hp} {Q:VK} {E:XK} (h:bB K c vs H Q E):db K c { nx:=fun _ H'=>Q .non H',rt:=Q } (start ["floor","rule","masks","cell","sign","more","mark","through"] vs) H:=by
 obtain ⟨k,f,r,p,A,M,ws,cs,masks,ms,n,m,z,s,h,w,g,rfl,hf,F,x,hC,hcs,hml,hA,hM,hmn,hm,q⟩:=h
 obtain ⟨dx,W,C,h1,h2,h3⟩:=x.ex
 show db K c _ [some (.ref f),some (.ref r),some (.ref A),some (.int z),some (.int s),some (.ref M),none,none] H
 unfold db
 rw [aR,eV]
 refine methE (k:=k) rfl x.ok h1 (by rfl) ?_
 walk_at "w"
 refine ⟨r,p,ws,cs,n,m,rfl,x,?_⟩
 walk_at "w"
 rw [aH]
 walk_at "w"
 refine ⟨⟨_,SqL.of hM⟩,?_⟩
 refine fY (xs:=ms.map V.int) (fun _=>true) (fun i=>.bl (anoB h w masks z m (ms.getD i 0))) (by rw [List.length_map]; omega) (SqL.of hM) ?_ ?_ ?_
 · intro i y H1 R hy s1 k1
   exact k1 _ (Same.refl _)
 · intro i y H1 Q1 hy hb s1 k1
   obtain ⟨v,hv,rfl⟩:=bY hy
   have eg:ms.getD i 0=v:=by rw [List.getD,hv]; rfl
   rw [eg] at k1
   show tCall _ _ _ _ [none,some (.int v),some (.int z),some (.ref f),some (.int m),some (.ref A)] H1 Q1
   walk_at "w"
   exact ⟨f,A,h,w,g,z,v,m,masks,rfl,s1 _ _ hf,F,s1 _ _ hA,hml,hm,k1 _ (Same.refl _)⟩
 · intro l H1 hl s1 el
   have eb:((List.range (ms.map V.int).length).filter fun _=>true).map (fun i=>V.bl (anoB h w masks z m (ms.getD i 0)))=(ms.map fun o=>anoB h w masks z m o).map V.bl:=by
    rw [fu,List.length_map,List.map_map]
    refine List.ext_getElem (by simp) fun i h1 h2=>?_
    have hi:i < ms.length:=by simpa using h2
    simp [List.getD,List.getElem?_eq_getElem hi]
   rw [eb] at el
   refine qb el ?_
   have ea:(ms.map fun o=>anoB h w masks z m o).all id=ms.all fun o=>anoB h w masks z m o:=by rw [List.all_map]; rfl
   rw [ea]
   unfold reaB at q
   cases hb:(ms.all fun o=>anoB h w masks z m o) with
   | false=>
    rw [hb,Bool.false_and] at q
    refine ⟨false,rfl,?_⟩
    walk_at "w"
    exact q _ s1
   | true=>
    rw [hb,Bool.true_and] at q
    refine ⟨true,rfl,?_⟩
    walk_at "w"
    exact kO (s1 _ _ hf) F (x.same s1) hC hml (s1 _ _ hA) (s1 _ _ hM) (fun H' s2=>q H' (s1.trans s2)) hcs
theorem vq {k:RK} (h:goesB .reach k=true):sgnK k=true:=by cases k <;> first | rfl | cases h
theorem RR.len26 {r:RR} {h w g:Int} (O:r.Ok h w g) (F:FlOk h w g):r.cs.length≤60:=by
 have m16:=F.m
 cases hk:allK r.k with
 | false=>
  obtain ⟨c1,c2,c3,c4,e⟩:=O.cl.told hk
  rw [e,List.length_map]; omega
 | true=>
  obtain ⟨_,e⟩:=O.cl.all hk
  rw [e,kt]; omega
def qW (p:Int→Int→Bool):Bool:=(List.range 7).all fun (h:Nat)=>(List.range 7).all fun (w:Nat)=>!(decide (1≤h)&&decide (1≤w)&&decide (h*w≤16))||p h w
theorem pF {p:Int→Int→Bool} (a:qW p=true) {h w g:Int} (F:FlOk h w g):p h w=true:=by
 obtain ⟨h0,h1,w0,w1,m16,g0,g1⟩:=F
 obtain ⟨n,rfl⟩:=Int.eq_ofNat_of_zero_le (show 0≤h by omega)
 obtain ⟨m,rfl⟩:=Int.eq_ofNat_of_zero_le (show 0≤w by omega)
 have a1:=List.all_eq_true.mp a n (List.mem_range.mpr (by omega))
 have a2:=List.all_eq_true.mp a1 m (List.mem_range.mpr (by omega))
 have e1:1≤n:=by omega
 have e2:1≤m:=by omega
 have e3:n*m≤16:=by have:((n*m:Nat):Int)≤16:=by rw [Int.natCast_mul]; exact m16
                    omega
 simpa [e1,e2,e3] using a2
def nearS (h w d r:Int):List Int:=if (decide (0≤d)&&decide (d < h))&&(decide (0≤r)&&decide (r < w)) then [d*w+r] else []
def nearP (w c:Int):List (Int × Int):=[(c / w - 1,c % w),(c / w,c % w - 1),(c / w,c % w+1),(c / w+1,c % w)]
def nearL (h w c:Int):List Int:=(nearP w c).flatMap fun p=>nearS h w p.1 p.2
theorem tT:qW (fun h w=>(List.range (h*w).toNat).all fun (c:Nat)=>decide (nearL h w c=besL h w c)&&(besL h w c).all fun x=>decide (0≤x)&&decide (x < h*w))=true:=by decide+kernel
theorem ii {h w g c:Int} (F:FlOk h w g) (c0:0≤c) (c1:c < h*w):nearL h w c=besL h w c∧∀ x∈besL h w c,0≤x∧x < h*w:=by
 have t:=List.all_eq_true.mp (pF tT F) c.toNat (List.mem_range.mpr (by omega))
 have e1:((c.toNat:Nat):Int)=c:=by omega
 rw [e1,Bool.and_eq_true,decide_eq_true_eq,List.all_eq_true] at t
 refine ⟨t.1,fun x hx=>?_⟩
 have:=t.2 x hx
 simpa using this
theorem qX {h w g c:Int} {n:Nat} (F:FlOk h w g) (c0:0≤c) (c1:c < h*w) (hn:n=(h*w).toNat):fA (besL h w c) n:=by
 refine ⟨Nat.le_trans (ky ..) (by decide),fun x hx=>?_⟩
 have:=(ii F c0 c1).2 x hx
 omega
def arL (h w o z:Int):List Int:=(besL h w o).filter fun x=>!decide (x=z)
def fD (K:PySem.W.Frag):Sp:=fun vs H Q _=>∃ (a:Addr) (h w g o z:Int),vs=[.ref a,.int o,.int z]∧IsFl H a h w g∧FlOk h w g∧∀ l H',Same H H'→H l=none→H' l=some (.lst ((arL h w o z).map V.int))→Q (.ref l) H'
theorem vt {K:PySem.W.Frag} {vs:List V} {H:Hp} {Q:VK} {E:XK} (h:fD K vs H Q E):vs.length=3:=by
 obtain ⟨_,_,_,_,_,_,rfl,_⟩:=h; rfl
def jL (K:PySem.W.Frag):TS:=
 (tRet (tComp [none,none,some 2] (iList K (tCall (bH K) [] E0 (tCons (tVar 0) (tCons (tVar 1) tNil)))) (gName 1) (tTest (tOp (cNe K) (tVar 1) (tVar 2))) (tVar 1)))
theorem vv {K:PySem.W.Frag} {vs:List V} {H:Hp} {Q:VK} {E:XK} (h:fD K vs H Q E):jL K { nx:=fun _ H'=>Q .non H',rt:=Q } (start ["floor","middle","cell"] vs) H:=by
 obtain ⟨a,h,w,g,o,z,rfl,ha,F,q⟩:=h
 have w0:=F.w0
 have w1:=F.w1
 show jL K _ [some (.ref a),some (.int o),some (.int z)] H
 unfold jL
 rw [fH,cL]
 walk_at "w"
 refine ⟨a,h,w,g,o,rfl,ha,by omega,by omega,fun l H1 s1 hl el=>?_⟩
 have hb:=ky h w o
 refine ⟨l,rfl,⟨_,SqL.of el⟩,?_⟩
 refine bX (xs:=besL h w o) (fun x=>!decide (x=z)) (fun x=>x) (by omega) (SqL.of el) ?_ ?_ ?_
 · intro y H2 R hy s2 k2
   show tTest _ [none,some (.int y),some (.int z)] H2 R
   walk_at "w"
   exact k2 _ (Same.refl _)
 · intro y H2 Q2 hy hb s2 k2
   show tVar 1 [none,some (.int y),some (.int z)] H2 Q2
   walk_at "w"
   exact k2 _ (Same.refl _)
 · intro T H2 hT s2 eT
   rw [List.map_id'] at eT
   exact q T H2 (s1.trans s2) (s1.free hT) eT
def mayN (masks:List Int) (m:Int) (cs:List Int):Nat:=((sgAt masks cs).filter fun k=>stB k m).length
def onlN (masks:List Int) (m:Int) (cs:List Int):Nat:=((sgAt masks cs).filter fun k=>decide (woI k m=0)).length
def turnB (h w m:Int) (masks:List Int) (z s:Int) (ms:List Int):Bool:=
 if ms=[] then decide (s=m)&&(decide ((mayN masks m (besL h w z):Int) < 2)||decide ((2:Int) < (onlN masks m (besL h w z):Int)))
 else decide (ms.length=1)&&(decide (ms.getD 0 0∈besL h w z)&&(decide (woI (masks.getD (ms.getD 0 0).toNat 0) m=0)&&
  (if s=m then decide ((2:Int)≤(onlN masks m (arL h w (ms.getD 0 0) z):Int)) else decide ((mayN masks m (arL h w (ms.getD 0 0) z):Int) < 2))))
def bO (K:PySem.W.Frag) (c:RCl RK):Sp:=fun vs H Q _=>∃ (k:RK) (f r p A M:Addr) (ws:List (List Nat)) (cs masks ms:List Int) (n m z s h w g:Int),vs=[.ref f,.ref r,.ref A,.int z,.int s,.ref M]∧IsFl H f h w g∧FlOk h w g∧IsRule H c k r p ws cs n m∧masks.length=(h*w).toNat∧H A=some (.lst (masks.map V.int))∧H M=some (.lst (ms.map V.int))∧m≤1000∧0≤z∧z < h*w∧∀ H',Same H H'→Q (.bl (turnB h w m masks z s ms)) H'
theorem ot {K:PySem.W.Frag} {c:RCl RK} {vs:List V} {H:Hp} {Q:VK} {E:XK} (h:bO K c vs H Q E):vs.length=6:=by
 obtain ⟨_,_,_,_,_,_,_,_,_,_,_,_,_,_,_,_,_,rfl,_⟩:=h; rfl
def dX (K:PySem.W.Frag) (c:RCl RK):TS:=
 (tSeq (tAsg (tCall (bE K) [] E0 (tCons (tVar 2) (tCons (tCall (fD K) [] E0 (tCons (tVar 0) (tCons (tOp cIx (tVar 5) (tC (.int 0))) (tCons (tVar 3) tNil)))) tNil))) (gName 7))
  (tSeq (tIfS (tTest (tOp (cEq K) (tVar 4) (tVar 6))) (tRet (tOp (cCmp fun i j=>decide (j≤i)) (tCall (bp K) [] E0 (tCons (tVar 7) (tCons (tVar 6) tNil))) (tC (.int 2)))) tNext)
  (tRet (tOp (cCmp fun i j=>decide (i < j)) (tCall (cB K) [] E0 (tCons (tVar 7) (tCons (tVar 6) tNil))) (tC (.int 2))))))
def dY (K:PySem.W.Frag) (c:RCl RK):TS:=
 (tSeq (tIfS (tOr (tTest (tOp (cNe K) (tCB kLen (tCons (tVar 5) tNil)) (tC (.int 1)))) (tOr (tTest (tOp (cIn K true) (tOp cIx (tVar 5) (tC (.int 0))) (tCall (bH K) [] E0 (tCons (tVar 0) (tCons (tVar 3) tNil))))) (tNot (tB (tCall (bn K) [] E0 (tCons (tOp cIx (tVar 2) (tOp cIx (tVar 5) (tC (.int 0)))) (tCons (tVar 6) tNil))))))) (tRet (tC (.bl false))) tNext)
  (dX K c))
def dJ (K:PySem.W.Frag) (c:RCl RK):TS:=
 (tSeq (tAsg (cM c c.ok "sign" (fz K c) (tVar 1) tNil) (gName 6))
  (tSeq (tIfS (tTest (tOp (cEq K) (tVar 5) (tLst tNil))) (tSeq (tAsg (tCall (bE K) [] E0 (tCons (tVar 2) (tCons (tCall (bH K) [] E0 (tCons (tVar 0) (tCons (tVar 3) tNil))) tNil))) (gName 7))
  (tRet (tAndV (tOp (cEq K) (tVar 4) (tVar 6)) (tOrV (tOp (cCmp fun i j=>decide (i < j)) (tCall (cB K) [] E0 (tCons (tVar 7) (tCons (tVar 6) tNil))) (tC (.int 2))) (tOp (cCmp fun i j=>decide (j < i)) (tCall (bp K) [] E0 (tCons (tVar 7) (tCons (tVar 6) tNil))) (tC (.int 2))))))) tNext)
  (dY K c)))
theorem lu {K:PySem.W.Frag} {c:RCl RK} {H:Hp} {Q:VK} {f A M:Addr} {v1:V} {masks ms:List Int} {m z s h w g:Int} (hf:IsFl H f h w g) (F:FlOk h w g) (hml:masks.length=(h*w).toNat) (hA:H A=some (.lst (masks.map V.int))) (hM:H M=some (.lst (ms.map V.int))) (hl:ms.length=1) (hm:m≤1000) (z0:0≤z) (z1:z < h*w) (ho:ms.getD 0 0∈besL h w z)
  (q:∀ H',Same H H'→Q (.bl (if s=m then decide ((2:Int)≤(onlN masks m (arL h w (ms.getD 0 0) z):Int)) else decide ((mayN masks m (arL h w (ms.getD 0 0) z):Int) < 2))) H'):
  dX K c { nx:=fun _ H'=>Q .non H',rt:=Q } [some (.ref f),some v1,some (.ref A),some (.int z),some (.int s),some (.ref M),some (.int m),none] H:=by
 have oin:=(ii F z0 z1).2 _ ho
 have bin:=qX (n:=masks.length) F oin.1 oin.2 hml
 have hin:fA (arL h w (ms.getD 0 0) z) masks.length:=⟨Nat.le_trans (List.length_filter_le _ _) bin.1,fun x hx=>bin.2 x (List.mem_filter.mp hx).1⟩
 unfold dX
 walk_at "w"
 refine ixI hM (by decide) (by omega) ?_
 rw [show (0:Int).toNat=0 from rfl]
 walk_at "w"
 refine ⟨f,h,w,g,_,z,rfl,hf,F,fun R H1 s1 hR eR=>?_⟩
 walk_at "w"
 refine ⟨A,R,masks,_,rfl,s1 _ _ hA,eR,hin,fun B H3 s3 hB eB=>?_⟩
 have hlen:(sgAt masks (arL h w (ms.getD 0 0) z)).length≤63:=by unfold sgAt; rw [List.length_map]; exact hin.1
 walk_at "w"
 rw [aH]
 walk_at "w"
 by_cases hs:s=m
 · rw [decide_eq_true hs]
   rw [if_pos hs] at q
   walk_at "w"
   refine ⟨B,_,_,rfl,eB,hlen,by omega,fun H4 s4=>?_⟩
   walk_at "w"
   exact q _ ((s1.trans s3).trans s4)
 · rw [decide_eq_false hs]
   rw [if_neg hs] at q
   walk_at "w"
   refine ⟨B,_,_,rfl,eB,hlen,fun H4 s4=>?_⟩
   walk_at "w"
   exact q _ ((s1.trans s3).trans s4)
theorem lx {K:PySem.W.Frag} {c:RCl RK} {H:Hp} {Q:VK} {f A M:Addr} {v1:V} {masks ms:List Int} {m z s h w g:Int} (hf:IsFl H f h w g) (F:FlOk h w g) (hml:masks.length=(h*w).toNat) (hA:H A=some (.lst (masks.map V.int))) (hM:H M=some (.lst (ms.map V.int))) (hm:m≤1000) (z0:0≤z) (z1:z < h*w)
  (q:∀ H',Same H H'→Q (.bl (decide (ms.length=1)&&(decide (ms.getD 0 0∈besL h w z)&&(decide (woI (masks.getD (ms.getD 0 0).toNat 0) m=0)&&(if s=m then decide ((2:Int)≤(onlN masks m (arL h w (ms.getD 0 0) z):Int)) else decide ((mayN masks m (arL h w (ms.getD 0 0) z):Int) < 2)))))) H'):
  dY K c { nx:=fun _ H'=>Q .non H',rt:=Q } [some (.ref f),some v1,some (.ref A),some (.int z),some (.int s),some (.ref M),some (.int m),none] H:=by
 have w0:=F.w0
 have w1:=F.w1
 unfold dY
 rw [aR,aH]
 walk_at "w"
 rw [cg hM,List.length_map]
 walk_at "w"
 have e1:decide ((ms.length:Int)=1)=decide (ms.length=1):=by
  rw [Bool.eq_iff_iff,decide_eq_true_eq,decide_eq_true_eq]; omega
 rw [e1]
 cases hb:decide (ms.length=1) with
 | false=>
  rw [hb,Bool.false_and] at q
  walk_at "w"
  exact q _ (Same.refl _)
 | true=>
  rw [hb,Bool.true_and] at q
  have hl:=of_decide_eq_true hb
  walk_at "w"
  refine ixI hM (by decide) (by omega) ?_
  rw [show (0:Int).toNat=0 from rfl]
  walk_at "w"
  refine ⟨f,h,w,g,z,rfl,hf,by omega,by omega,fun R H1 s1 hR eR=>?_⟩
  dsimp only
  rw [lV eR]
  cases hb2:decide (ms.getD 0 0∈besL h w z) with
  | false=>
   rw [hb2,Bool.false_and] at q
   refine ⟨true,rfl,iteT ?_⟩
   walk_at "w"
   exact q _ s1
  | true=>
   rw [hb2,Bool.true_and] at q
   have ho:=of_decide_eq_true hb2
   have oin:=(ii F z0 z1).2 _ ho
   refine ⟨false,rfl,iteF ?_⟩
   walk_at "w"
   refine ixI (s1 _ _ hM) (by decide) (by omega) ?_
   rw [show (0:Int).toNat=0 from rfl]
   walk_at "w"
   refine ixI (s1 _ _ hA) (by omega) (by omega) ?_
   walk_at "w"
   refine ⟨_,m,rfl,by omega,?_⟩
   cases hb3:decide (woI (masks.getD (ms.getD 0 0).toNat 0) m=0) with
   | false=>
    rw [hb3,Bool.false_and] at q
    refine ⟨false,rfl,iteT ?_⟩
    walk_at "w"
    exact q _ s1
   | true=>
    rw [hb3,Bool.true_and] at q
    refine ⟨true,rfl,iteF ?_⟩
    exact lu (s1 _ _ hf) F hml (s1 _ _ hA) (s1 _ _ hM) hl hm z0 z1 ho fun H' s2=>q H' (s1.trans s2)
theorem ou {K:PySem.W.Frag} {c:RCl RK} {vs:List V} {H:Hp} {Q:VK} {E:XK} (h:bO K c vs H Q E):dJ K c { nx:=fun _ H'=>Q .non H',rt:=Q } (start ["floor","rule","masks","cell","sign","more","mark","some"] vs) H:=by
 obtain ⟨k,f,r,p,A,M,ws,cs,masks,ms,n,m,z,s,h,w,g,rfl,hf,F,x,hml,hA,hM,hm,z0,z1,q⟩:=h
 obtain ⟨dx,W,C,h1,h2,h3⟩:=x.ex
 have w0:=F.w0
 have w1:=F.w1
 show dJ K c _ [some (.ref f),some (.ref r),some (.ref A),some (.int z),some (.int s),some (.ref M),none,none] H
 unfold dJ
 rw [aR,eV]
 refine methE (k:=k) rfl x.ok h1 (by rfl) ?_
 walk_at "w"
 refine ⟨r,p,ws,cs,n,m,rfl,x,?_⟩
 walk_at "w"
 rw [aH]
 walk_at "w"
 refine ⟨aF (by decide),fun Z hZ=>?_⟩
 have s1:Same H (upd H Z (.lst [])):=(Same.refl H).laid hZ
 have eZ:(upd H Z (.lst [])) Z=some (.lst (([]:List Int).map V.int)):=ag
 generalize upd H Z (.lst [])=H1 at*
 refine tm (s1 _ _ hM) eZ ?_
 unfold turnB at q
 by_cases hms:ms=[]
 · rw [if_pos hms] at q
   rw [decide_eq_true hms]
   refine ⟨true,rfl,?_⟩
   walk_at "w"
   refine ⟨f,h,w,g,z,rfl,s1 _ _ hf,by omega,by omega,fun R H2 s2 hR eR=>?_⟩
   have bin:=qX (n:=masks.length) F z0 z1 hml
   walk_at "w"
   refine ⟨A,R,masks,_,rfl,(s1.trans s2) _ _ hA,eR,bin,fun B H3 s3 hB eB=>?_⟩
   have hlen:(sgAt masks (besL h w z)).length≤63:=by unfold sgAt; rw [List.length_map]; exact bin.1
   have s13:=(s1.trans s2).trans s3
   walk_at "w"
   cases hb:decide (s=m) with
   | false=>
    rw [hb,Bool.false_and] at q
    walk_at "w"
    exact q _ s13
   | true=>
    rw [hb,Bool.true_and] at q
    walk_at "w"
    refine ⟨B,_,_,rfl,eB,hlen,fun H4 s4=>?_⟩
    walk_at "w"
    have e1:decide ((((sgAt masks (besL h w z)).filter fun k=>stB k m).length:Int) < 2)=decide ((mayN masks m (besL h w z):Int) < 2):=rfl
    rw [e1]
    cases hb2:decide ((mayN masks m (besL h w z):Int) < 2) with
    | true=>
     rw [hb2,Bool.true_or] at q
     walk_at "w"
     exact q _ (s13.trans s4)
    | false=>
     rw [hb2,Bool.false_or] at q
     walk_at "w"
     refine ⟨B,_,_,rfl,s4 _ _ eB,hlen,by omega,fun H5 s5=>?_⟩
     walk_at "w"
     exact q _ ((s13.trans s4).trans s5)
 · rw [if_neg hms] at q
   rw [decide_eq_false hms]
   refine ⟨false,rfl,?_⟩
   walk_at "w"
   exact lx (s1 _ _ hf) F hml (s1 _ _ hA) (s1 _ _ hM) hm z0 z1 fun H' s2=>q H' (s1.trans s2)
theorem qY (t:TK):decide (tkC t=[114,101,97,99,104])=decide (t=.reach):=by cases t <;> decide
theorem vw {k:RK} (h:goesB .turn k=true):sgnK k=true:=by cases k <;> first | rfl | cases h
noncomputable def qZ (h w:Int) (t:TK) (x:RR) (masks:List Int) (z s:Int) (ms:List Int):Bool:=match t with
 | .square=>squB h w x.m masks z s ms
 | .reach=>reaB h w x.cs x.m masks z s ms
 | _=>turnB h w x.m masks z s ms
noncomputable def ow (h w:Int) (rows:List RR) (masks:List Int) (t:TK) (r z s:Int) (ms:List Int):Bool:=match rows[r.toNat]? with
 | none=>false
 | some x=>qZ h w t x masks z s ms
abbrev pb (t:TK):Prop:=t=.square∨t=.reach∨t=.turn
def aS (K:PySem.W.Frag) (c:RCl RK) (d:RCl PzK):Sp:=fun vs H Q _=>∃ (P L G A T M:Addr) (h w g:Int) (rows:List RR) (cl masks:List Int) (t:TK) (r z s:Int) (ms:List Int),vs=[.ref P,.ref A,.ref T]∧Asks H c d P L G A T M h w g rows cl masks t r z s ms∧pb t∧formB h w g rows t r z s=true∧∀ H',Same H H'→Q (.bl (ow h w rows masks t r z s ms)) H'
theorem eK {K:PySem.W.Frag} {c:RCl RK} {d:RCl PzK} {vs:List V} {H:Hp} {Q:VK} {E:XK} (h:aS K c d vs H Q E):vs.length=3:=by
 obtain ⟨_,_,_,_,_,_,_,_,_,_,_,_,_,_,_,_,_,rfl,_⟩:=h; rfl
def bF (K:PySem.W.Frag) (c:RCl RK) (d:RCl PzK):TS:=
 (tSeq (tAsg (cM d d.ok "place" (gQ K c d) (tVar 0) tNil) (gName 3))
  (tSeq (tAsg (tOp cIx (cM d d.ok "rules" (gR K c d) (tVar 0) tNil) (tOp cIx (tVar 2) (tC (.int 1)))) (gName 4))
  (tSeq (tIfS (tTest (tOp (cEq K) (tOp cIx (tVar 2) (tC (.int 0))) (tC (.str (tx [115,113,117,97,114,101]))))) (tRet (tCall (bt K c) [] E0 (tCons (tVar 3) (tCons (tVar 4) (tCons (tVar 1) (tCons (tOp cIx (tVar 2) (tC (.int 2))) (tCons (tOp cIx (tVar 2) (tC (.int 3))) (tCons (tOp cIx (tVar 2) (tC (.int 4))) tNil)))))))) tNext)
  (tSeq (tIfS (tTest (tOp (cEq K) (tOp cIx (tVar 2) (tC (.int 0))) (tC (.str (tx [114,101,97,99,104]))))) (tRet (tCall (bB K c) [] E0 (tCons (tVar 3) (tCons (tVar 4) (tCons (tVar 1) (tCons (tOp cIx (tVar 2) (tC (.int 2))) (tCons (tOp cIx (tVar 2) (tC (.int 3))) (tCons (tOp cIx (tVar 2) (tC (.int 4))) tNil)))))))) tNext)
  (tRet (tCall (bO K c) [] E0 (tCons (tVar 3) (tCons (tVar 4) (tCons (tVar 1) (tCons (tOp cIx (tVar 2) (tC (.int 2))) (tCons (tOp cIx (tVar 2) (tC (.int 3))) (tCons (tOp cIx (tVar 2) (tC (.int 4))) tNil))))))))))))
theorem jO {K:PySem.W.Frag} {c:RCl RK} {d:RCl PzK} {vs:List V} {H:Hp} {Q:VK} {E:XK} (h:aS K c d vs H Q E):bF K c d { nx:=fun _ H'=>Q .non H',rt:=Q } (start ["puzzle","masks","thought","floor","rule"] vs) H:=by
 obtain ⟨P,L,G,A,T,M,h,w,g,rows,cl,masks,t,r,z,s,ms,rfl,X,ht,f,q⟩:=h
 obtain ⟨dx,p,rs,h1,h2,h3⟩:=X.P.ex
 obtain ⟨z0,z1,s0,s1',hit⟩:=pE f
 have hg:=X.P.R.F.g1
 have hnc:t≠.clue:=by rcases ht with rfl | rfl | rfl <;> decide
 obtain ⟨r0,y,ey,hgo,hz⟩:=sH hnc hit
 have O:=X.P.R.ok y (List.mem_of_getElem? ey)
 have q2:∀ H',Same H H'→Q (.bl (qZ h w t y masks z s ms)) H':=fun H' s'=>by
  have q1:=q H' s'
  unfold ow at q1
  rw [ey] at q1
  exact q1
 show bF K c d _ [some (.ref P),some (.ref A),some (.ref T),none,none] H
 unfold bF
 rw [aR,eV]
 refine methE (k:=.Puzzle) rfl X.P.ok h1 (by rfl) ?_
 walk_at "w"
 refine ⟨P,L,G,h,w,g,rows,cl,rfl,X.P,fun p3 hp3=>?_⟩
 walk_at "w"
 refine methE (k:=.Puzzle) rfl X.P.ok h1 (by rfl) ?_
 walk_at "w"
 refine ⟨P,L,G,h,w,g,rows,cl,rfl,X.P,fun l p2 rs2 hl hp2 Y=>?_⟩
 have s2:Same H (upd H l (.lst (rs2.map V.ref))):=(Same.refl H).laid hl
 generalize upd H l (.lst (rs2.map V.ref))=H1 at*
 have hlt:=(List.getElem?_eq_some_iff.mp ey).1
 have hlen:=Y.len
 have ea:rs2[r.toNat]? =some rs2[r.toNat]:=List.getElem?_eq_getElem (by omega)
 dsimp only
 refine ixT (s2 _ _ X.T.T) (v:=V.int r) rfl ?_
 refine ixL Y.top (qx r0 ea) ?_
 walk_at "w"
 rw [aH]
 walk_at "w"
 refine ixT (s2 _ _ X.T.T) (v:=V.str (tx (tkC t))) rfl ?_
 walk_at "w"
 rw [dU,vo]
 rcases ht with rfl | rfl | rfl
 · rw [decide_eq_true rfl]
   refine iteT ?_
   walk_at "w"
   refine ixT (s2 _ _ X.T.T) (v:=V.int z) rfl ?_
   walk_at "w"
   refine ixT (s2 _ _ X.T.T) (v:=V.int s) rfl ?_
   walk_at "w"
   refine ixT (s2 _ _ X.T.T) (v:=V.ref M) rfl ?_
   walk_at "w"
   exact ⟨_,p3,_,p2,A,M,_,y.cs,masks,ms,_,_,z,s,h,w,g,rfl,s2 _ _ hp3,X.P.R.F,Y.at_ _ _ _ ea ey,X.n,s2 _ _ X.A,s2 _ _ X.T.M,by omega,fun H' s3=>q2 H' (s2.trans s3)⟩
 · have ym:=(O.m0 (vq hgo)).2
   rw [decide_eq_false (show ¬ TK.reach=TK.square by decide)]
   refine iteF ?_
   rw [aH]
   walk_at "w"
   refine ixT (s2 _ _ X.T.T) (v:=V.str (tx (tkC .reach))) rfl ?_
   walk_at "w"
   rw [dU,qY,decide_eq_true rfl]
   refine iteT ?_
   walk_at "w"
   refine ixT (s2 _ _ X.T.T) (v:=V.int z) rfl ?_
   walk_at "w"
   refine ixT (s2 _ _ X.T.T) (v:=V.int s) rfl ?_
   walk_at "w"
   refine ixT (s2 _ _ X.T.T) (v:=V.ref M) rfl ?_
   walk_at "w"
   have hin:fA y.cs masks.length:=by rw [X.n]; exact RR.cin22 O X.P.R.F
   exact ⟨_,p3,_,p2,A,M,_,y.cs,masks,ms,_,_,z,s,h,w,g,rfl,s2 _ _ hp3,X.P.R.F,Y.at_ _ _ _ ea ey,hin,RR.len26 O X.P.R.F,X.n,s2 _ _ X.A,s2 _ _ X.T.M,X.T.n,by omega,fun H' s3=>q2 H' (s2.trans s3)⟩
 · have ym:=(O.m0 (vw hgo)).2
   rw [decide_eq_false (show ¬ TK.turn=TK.square by decide)]
   refine iteF ?_
   rw [aH]
   walk_at "w"
   refine ixT (s2 _ _ X.T.T) (v:=V.str (tx (tkC .turn))) rfl ?_
   walk_at "w"
   rw [dU,qY,decide_eq_false (show ¬ TK.turn=TK.reach by decide)]
   refine iteF ?_
   walk_at "w"
   refine ixT (s2 _ _ X.T.T) (v:=V.int z) rfl ?_
   walk_at "w"
   refine ixT (s2 _ _ X.T.T) (v:=V.int s) rfl ?_
   walk_at "w"
   refine ixT (s2 _ _ X.T.T) (v:=V.ref M) rfl ?_
   walk_at "w"
   exact ⟨_,p3,_,p2,A,M,_,y.cs,masks,ms,_,_,z,s,h,w,g,rfl,s2 _ _ hp3,X.P.R.F,Y.at_ _ _ _ ea ey,X.n,s2 _ _ X.A,s2 _ _ X.T.M,by omega,z0,z1,fun H' s3=>q2 H' (s2.trans s3)⟩
theorem RC.less {h w:Int} {cs ds:List Int} {st x:Int} (sub:∀ c∈cs,c∈ds) (r:RC h w cs st x):RC h w ds st x:=by
 induction r with
 | start h=>exact .start (sub _ h)
 | step _ hb hc ih=>exact .step ih hb (sub _ hc)
def cT (K:PySem.W.Frag) (c:RCl RK) (d:RCl PzK):Sp:=aS K c d
theorem ra {K:PySem.W.Frag} {c:RCl RK} {d:RCl PzK} {vs:List V} {H:Hp} {Q:VK} {E:XK} (h:cT K c d vs H Q E):vs.length=3:=eK h
def gn (K:PySem.W.Frag) (c:RCl RK) (d:RCl PzK):TS:=
 (tSeq (tIfS (tB (tInG fe false (tOp cIx (tVar 2) (tC (.int 0))))) (tRet o8) tNext)
  (tSeq (tIfS (tB (tInG dE false (tOp cIx (tVar 2) (tC (.int 0))))) (tRet o8) tNext)
  (tRet (tCall (aS K c d) [] E0 (tCons (tVar 0) (tCons (tVar 1) (tCons (tVar 2) tNil)))))))
theorem rb {K:PySem.W.Frag} {c:RCl RK} {d:RCl PzK} {vs:List V} {H:Hp} {Q:VK} {E:XK} (h:cT K c d vs H Q E):gn K c d { nx:=fun _ H'=>Q .non H',rt:=Q } (start ["puzzle","masks","thought"] vs) H:=by
 obtain ⟨P,L,G,A,T,M,h,w,g,rows,cl,masks,t,r,z,s,ms,rfl,X,ht,f,q⟩:=h
 show gn K c d _ [some (.ref P),some (.ref A),some (.ref T)] H
 unfold gn
 rw [aR,aH]
 walk_at "w"
 refine ixT X.T.T (v:=V.str (tx (tkC t))) rfl ?_
 walk_at "w"
 rw [wX]
 have hl:lineK t=false:=by rcases ht with rfl | rfl | rfl <;> rfl
 have hb:nbrK t=false:=by rcases ht with rfl | rfl | rfl <;> rfl
 rw [hl]
 walk_at "w"
 rw [aH]
 walk_at "w"
 refine ixT X.T.T (v:=V.str (tx (tkC t))) rfl ?_
 walk_at "w"
 rw [ye,hb]
 walk_at "w"
 exact ⟨P,L,G,A,T,M,h,w,g,rows,cl,masks,t,r,z,s,ms,rfl,X,ht,f,q⟩
noncomputable def ly (h w g:Int) (rows:List RR) (masks:List Int) (t:TK) (r z s:Int) (ms:List Int):Bool:=formB h w g rows t r z s&&ow h w rows masks t r z s ms
def cU (K:PySem.W.Frag) (c:RCl RK) (d:RCl PzK):Sp:=fun vs H Q _=>∃ (P L G A T M:Addr) (h w g:Int) (rows:List RR) (cl masks:List Int) (t:TK) (r z s:Int) (ms:List Int),vs=[.ref P,.ref A,.ref T]∧Asks H c d P L G A T M h w g rows cl masks t r z s ms∧pb t∧∀ H',Same H H'→Q (.bl (ly h w g rows masks t r z s ms)) H'
theorem rd {K:PySem.W.Frag} {c:RCl RK} {d:RCl PzK} {vs:List V} {H:Hp} {Q:VK} {E:XK} (h:cU K c d vs H Q E):vs.length=3:=by
 obtain ⟨_,_,_,_,_,_,_,_,_,_,_,_,_,_,_,_,_,rfl,_⟩:=h; rfl
def gp (K:PySem.W.Frag) (c:RCl RK) (d:RCl PzK):TS:=
 (tRet (tAndV (tCall (cR K c d) [] E0 (tCons (tVar 0) (tCons (tVar 2) tNil))) (tCall (cT K c d) [] E0 (tCons (tVar 0) (tCons (tVar 1) (tCons (tVar 2) tNil))))))
theorem re {K:PySem.W.Frag} {c:RCl RK} {d:RCl PzK} {vs:List V} {H:Hp} {Q:VK} {E:XK} (h:cU K c d vs H Q E):gp K c d { nx:=fun _ H'=>Q .non H',rt:=Q } (start ["puzzle","masks","thought"] vs) H:=by
 obtain ⟨P,L,G,A,T,M,h,w,g,rows,cl,masks,t,r,z,s,ms,rfl,X,ht,q⟩:=h
 show gp K c d _ [some (.ref P),some (.ref A),some (.ref T)] H
 unfold gp
 walk_at "w"
 refine ⟨t,P,L,G,T,M,h,w,g,r,z,s,rows,cl,ms,rfl,X.P,X.T,fun H1 s1=>?_⟩
 unfold ly at q
 cases hb:formB h w g rows t r z s with
 | false=>
  rw [hb,Bool.false_and] at q
  exact ⟨false,rfl,iteF (q _ s1)⟩
 | true=>
  rw [hb,Bool.true_and] at q
  refine ⟨true,rfl,iteT ?_⟩
  walk_at "w"
  exact ⟨P,L,G,A,T,M,h,w,g,rows,cl,masks,t,r,z,s,ms,rfl,X.same s1,ht,hb,fun H' s2=>q H' (s1.trans s2)⟩
def l8 (h w m:Int) (fl:List Int):List Int:=(rngL 0 (h*w)).filter fun c=>decide (fl.getD c.toNat 0=m)
theorem rng29 {n x:Int}:x∈rngL 0 n↔0≤x∧x < n:=by
 unfold rngL
 rw [List.mem_map]
 constructor
 · rintro ⟨k,hk,rfl⟩
   have:=List.mem_range.mp hk
   omega
 · rintro ⟨a,b⟩
   exact ⟨x.toNat,List.mem_range.mpr (by omega),by omega⟩
theorem sgC29_mem {h w m c:Int} {fl:List Int}:c∈l8 h w m fl↔(0≤c∧c < h*w)∧fl.getD c.toNat 0=m:=by
 unfold l8
 rw [List.mem_filter,rng29,decide_eq_true_eq]
abbrev ox (h w m:Int) (fl:List Int):Prop:=∀ a∈l8 h w m fl,∀ b∈l8 h w m fl,RC h w (l8 h w m fl) a b
abbrev tU (h w m:Int) (fl:List Int):Prop:=∀ a∈l8 h w m fl,((besL h w a).filter fun c=>decide (fl.getD c.toNat 0=m)).length=2
abbrev rf (h w m:Int) (fl:List Int):Prop:=∀ i:Nat,i < (h*w).toNat→cornB h w i=true→∃ c∈sqL w i,fl.getD c.toNat 0≠m
def oy (h w m:Int) (k:RK) (fl:List Int):Prop:=match k with
 | .Joined=>ox h w m fl
 | .Ring=>ox h w m fl∧tU h w m fl
 | .NoSquare=>rf h w m fl
 | _=>False
structure Ans29 (h w g m:Int) (k:RK) (masks fl:List Int):Prop where
 F:FlOk h w g
 fll:fl.length=(h*w).toNat
 ml:masks.length=(h*w).toNat
 mm:∀ x∈masks,0≤x∧x < 64
 sg:∀ x∈fl,1≤x∧x≤g
 st:∀ k,k < fl.length→stB (masks.getD k 0) (fl.getD k 0)=true
 m0:1≤m
 m1:m≤g
 R:oy h w m k fl
theorem Ans29.at_ {h w g m:Int} {k:RK} {masks fl:List Int} (A:Ans29 h w g m k masks fl) {c:Int} (c0:0≤c) (c1:c < h*w):(0≤masks.getD c.toNat 0∧masks.getD c.toNat 0 < 64)∧(1≤fl.getD c.toNat 0∧fl.getD c.toNat 0≤g)∧stB (masks.getD c.toNat 0) (fl.getD c.toNat 0)=true:=by
 have hf:=A.fll
 have hm:=A.ml
 have h1:c.toNat < fl.length:=by omega
 have h2:c.toNat < masks.length:=by omega
 refine ⟨?_,?_,A.st _ h1⟩
 · rw [List.getD,List.getElem?_eq_getElem h2]; exact A.mm _ (List.getElem_mem h2)
 · rw [List.getD,List.getElem?_eq_getElem h1]; exact A.sg _ (List.getElem_mem h1)
theorem Ans29.one {h w g m:Int} {k:RK} {masks fl:List Int} (A:Ans29 h w g m k masks fl) {c:Int} (c0:0≤c) (c1:c < h*w) (hw:woI (masks.getD c.toNat 0) m=0):fl.getD c.toNat 0=m:=by
 have a:=A.at_ c0 c1
 have g6:=A.F.g1
 have m1:=A.m1
 exact yg a.1.1 a.1.2 A.m0 (by omega) a.2.1.1 (by omega) hw a.2.2
theorem sI {h w:Int} {cs ds:List Int} {a b:Int} (sub:∀ c∈cs,c∈ds) (r:RC h w cs a b) (hb:(!rcB h w ds a b)=true):False:=by
 unfold rcB at hb
 rw [Bool.not_eq_true'] at hb
 exact (@of_decide_eq_false _ (Classical.propDecidable _) hb) (r.less sub)
theorem wr {h w g m:Int} {k:RK} {masks fl:List Int} {z s:Int} {ms:List Int} (A:Ans29 h w g m k masks fl) (J:ox h w m fl) (z0:0≤z) (z1:z < h*w) (hb:reaB h w (rngL 0 (h*w)) m masks z s ms=true):fl.getD z.toNat 0≠s:=by
 intro e
 unfold reaB at hb
 rw [Bool.and_eq_true] at hb
 have an:∀ o∈ms,(0≤o∧o < h*w)∧o≠z∧fl.getD o.toNat 0=m:=fun o ho=>by
  have:=List.all_eq_true.mp hb.1 o ho
  unfold anoB at this
  simp only [Bool.and_eq_true,decide_eq_true_eq,Bool.not_eq_true',decide_eq_false_iff_not] at this
  exact ⟨this.1,this.2.1,A.one this.1.1 this.1.2 this.2.2⟩
 have h2:=hb.2
 by_cases es:s=m
 · rw [if_pos es] at h2
   rw [Bool.and_eq_true] at h2
   have hl:=of_decide_eq_true h2.1
   match ms,hl with
   | [o],_=>
    have a:=an o List.mem_cons_self
    refine sI (fun c hc=>?_) (J z (sgC29_mem.mpr ⟨⟨z0,z1⟩,e.trans es⟩) o (sgC29_mem.mpr ⟨a.1,a.2.2⟩)) h2.2
    obtain ⟨c1,c2⟩:=sgC29_mem.mp hc
    by_cases cz:c=z
    · rw [cz]; exact List.mem_append.mpr (.inr List.mem_cons_self)
    · refine List.mem_append.mpr (.inl ?_)
      unfold thrL
      refine List.mem_filter.mpr ⟨List.mem_filter.mpr ⟨rng29.mpr c1,by simp [cz]⟩,?_⟩
      have:=(A.at_ c1.1 c1.2).2.2
      rw [c2] at this
      exact this
 · rw [if_neg es] at h2
   rw [Bool.and_eq_true,Bool.and_eq_true] at h2
   have hl:=of_decide_eq_true h2.1
   match ms,hl with
   | [o,o2],_=>
    have a:=an o List.mem_cons_self
    have b:=an o2 (List.mem_cons_of_mem _ List.mem_cons_self)
    refine sI (fun c hc=>?_) (J o (sgC29_mem.mpr ⟨a.1,a.2.2⟩) o2 (sgC29_mem.mpr ⟨b.1,b.2.2⟩)) h2.2.2
    obtain ⟨c1,c2⟩:=sgC29_mem.mp hc
    have cz:c≠z:=fun cz=>es (by rw [cz] at c2; exact e.symm.trans c2)
    unfold thrL
    refine List.mem_filter.mpr ⟨List.mem_filter.mpr ⟨rng29.mpr c1,by simp [cz]⟩,?_⟩
    have:=(A.at_ c1.1 c1.2).2.2
    rw [c2] at this
    exact this
theorem yP {h w g m:Int} {k:RK} {masks fl:List Int} {z s:Int} {ms:List Int} (A:Ans29 h w g m k masks fl) (J:rf h w m fl) (hb:squB h w m masks z s ms=true):fl.getD z.toNat 0≠s:=by
 intro e
 unfold squB at hb
 simp only [Bool.and_eq_true,decide_eq_true_eq,Bool.not_eq_true',decide_eq_false_iff_not] at hb
 obtain ⟨es,_,hne,hl⟩:=hb
 generalize ms.getD 0 0=c at*
 have w0:=A.F.w0
 have rin:∀ x∈rosL h w c z,0≤x∧x < h*w:=fun x hx=>by
  have:=(vn (n:=(h*w).toNat) (c:=c) (z:=z) A.F rfl).2 x hx
  omega
 have all:∀ x∈rosL h w c z,woI (masks.getD x.toNat 0) s=0:=fun x hx=>by
  have hl2:((sgAt masks (rosL h w c z)).filter fun k=>decide (woI k s=0)).length=(sgAt masks (rosL h w c z)).length:=by rw [hl]; unfold sgAt; rw [List.length_map]
  have:=List.length_filter_eq_length_iff.mp hl2 (masks.getD x.toNat 0) (by unfold sgAt; exact List.mem_map.mpr ⟨x,hx,rfl⟩)
  exact of_decide_eq_true this
 unfold rosL at hne all rin
 cases hf:(squL h w).find? (rosP c z) with
 | none=>rw [hf] at hne; exact hne rfl
 | some q=>
  rw [hf] at all rin
  dsimp only at all rin
  obtain ⟨i,hi,hc,rfl⟩:=o9 (List.mem_of_find?_eq_some hf)
  obtain ⟨x,hx,nx⟩:=J i hi hc
  by_cases xz:x=z
  · rw [xz] at nx
    exact nx (e.trans es)
  · have hx2:x∈(sqL w i).filter fun x=>!decide (x=z):=List.mem_filter.mpr ⟨hx,by simp [xz]⟩
    have r:=rin x hx2
    have a:=all x hx2
    rw [es] at a
    exact nx (A.one r.1 r.2 a)
theorem wt {p:Int→Bool} {z:Int}:∀ {l:List Int},z∈l→p z=true→((l.filter fun x=>!decide (x=z)).filter p).length+1≤(l.filter p).length
 | [],h,_=>by cases h
 | x::r,h,hp=>by
  have le:((r.filter fun x=>!decide (x=z)).filter p).length≤(r.filter p).length:=by
   rw [List.filter_filter,← List.countP_eq_length_filter,← List.countP_eq_length_filter]
   exact List.countP_mono_left fun a _ ha=>(by rw [Bool.and_eq_true] at ha; exact ha.1)
  by_cases e:x=z
  · subst e
    rw [List.filter_cons_of_neg (by simp),List.filter_cons_of_pos (p:=p) hp,List.length_cons]
    omega
  · have ih:=wt (l:=r) (p:=p) ((List.mem_cons.mp h).resolve_left (Ne.symm e)) hp
    rw [List.filter_cons_of_pos (by simp [e])]
    by_cases px:p x=true
    · rw [List.filter_cons_of_pos px,List.filter_cons_of_pos px,List.length_cons,List.length_cons]; omega
    · rw [List.filter_cons_of_neg px,List.filter_cons_of_neg px]; exact ih
theorem rg {f g:Int→Bool} {l:List Int} (h:∀ x∈l,f x=true→g x=true):(l.filter f).length≤(l.filter g).length:=by
 rw [← List.countP_eq_length_filter,← List.countP_eq_length_filter]
 exact List.countP_mono_left h
theorem yh {masks:List Int} {m:Int} (cs:List Int):mayN masks m cs=(cs.filter fun c=>stB (masks.getD c.toNat 0) m).length:=by
 unfold mayN sgAt
 rw [List.filter_map,List.length_map]; rfl
theorem yi {masks:List Int} {m:Int} (cs:List Int):onlN masks m cs=(cs.filter fun c=>decide (woI (masks.getD c.toNat 0) m=0)).length:=by
 unfold onlN sgAt
 rw [List.filter_map,List.length_map]; rfl
theorem yj {h w g m:Int} {k:RK} {masks fl:List Int} {z s:Int} {ms:List Int} (A:Ans29 h w g m k masks fl) (J:tU h w m fl) (z0:0≤z) (z1:z < h*w) (hb:turnB h w m masks z s ms=true):fl.getD z.toNat 0≠s:=by
 intro e
 have bin:∀ a,0≤a→a < h*w→∀ x∈besL h w a,0≤x∧x < h*w:=fun a a0 a1=>(ii A.F a0 a1).2
 have may:∀ cs:List Int,(∀ x∈cs,0≤x∧x < h*w)→(cs.filter fun c=>decide (fl.getD c.toNat 0=m)).length≤mayN masks m cs:=fun cs hc=>by
  rw [yh]
  refine rg fun x hx ex=>?_
  have:=(A.at_ (hc x hx).1 (hc x hx).2).2.2
  rw [of_decide_eq_true ex] at this
  exact this
 have onl:∀ cs:List Int,(∀ x∈cs,0≤x∧x < h*w)→onlN masks m cs≤(cs.filter fun c=>decide (fl.getD c.toNat 0=m)).length:=fun cs hc=>by
  rw [yi]
  refine rg fun x hx ex=>decide_eq_true ?_
  exact A.one (hc x hx).1 (hc x hx).2 (of_decide_eq_true ex)
 unfold turnB at hb
 by_cases e0:ms=[]
 · rw [if_pos e0] at hb
   simp only [Bool.and_eq_true,Bool.or_eq_true,decide_eq_true_eq] at hb
   obtain ⟨es,hb⟩:=hb
   have t:=J z (sgC29_mem.mpr ⟨⟨z0,z1⟩,e.trans es⟩)
   have a:=may _ (bin z z0 z1)
   have b:=onl _ (bin z z0 z1)
   omega
 · rw [if_neg e0] at hb
   simp only [Bool.and_eq_true,decide_eq_true_eq] at hb
   obtain ⟨_,ho,hw,hb⟩:=hb
   generalize ms.getD 0 0=o at*
   have o1:=bin z z0 z1 o ho
   have fo:=A.one o1.1 o1.2 hw
   have zo:z∈besL h w o:=qw (by have:=A.F.w0; omega) z0 z1 ho
   have t:=J o (sgC29_mem.mpr ⟨o1,fo⟩)
   have ain:∀ x∈arL h w o z,0≤x∧x < h*w:=fun x hx=>bin o o1.1 o1.2 x (List.mem_filter.mp hx).1
   by_cases es:s=m
   · rw [if_pos es,decide_eq_true_eq] at hb
     have b:=onl _ ain
     have c:=wt (p:=fun c=>decide (fl.getD c.toNat 0=m)) zo (decide_eq_true (e.trans es))
     unfold arL at b hb
     omega
   · rw [if_neg es,decide_eq_true_eq] at hb
     have a:=may _ ain
     have c:((besL h w o).filter fun c=>decide (fl.getD c.toNat 0=m)).length≤((arL h w o z).filter fun c=>decide (fl.getD c.toNat 0=m)).length:=by
      unfold arL
      rw [List.filter_filter]
      refine rg fun x _ ex=>?_
      have:x≠z:=fun xz=>es (by rw [xz] at ex; exact e.symm.trans (of_decide_eq_true ex))
      simp only [ex,this,decide_false,Bool.not_false,Bool.and_self]
     omega
abbrev eu (k:RK) (h w m:Int):RR:=⟨k,0,m.toNat,[],rngL 0 (h*w)⟩
theorem yk {t:TK} {k:RK} (ht:pb t) (hg:goesB t k=true):(t=.square∧k=.NoSquare)∨(t=.reach∧(k=.Joined∨k=.Ring))∨(t=.turn∧k=.Ring):=by
 rcases ht with rfl | rfl | rfl <;> cases k <;> first | (cases hg; done) | simp
theorem xf {h w g m:Int} {k:RK} {masks fl:List Int} {t:TK} {z s:Int} {ms:List Int} (A:Ans29 h w g m k masks fl) (ht:pb t) (hb:ly h w g [eu k h w m] masks t 0 z s ms=true):(0≤z∧z < h*w)∧fl.getD z.toNat 0≠s:=by
 unfold ly at hb
 rw [Bool.and_eq_true] at hb
 obtain ⟨f,q⟩:=hb
 obtain ⟨z0,z1,s0,s1,hit⟩:=pE f
 have hnc:t≠.clue:=by rcases ht with rfl | rfl | rfl <;> decide
 obtain ⟨r0,y,ey,hgo,hz⟩:=sH hnc hit
 cases ey
 have m0:=A.m0
 refine ⟨⟨z0,z1⟩,?_⟩
 have em:((m.toNat:Nat):Int)=m:=by omega
 unfold ow at q
 change qZ h w t (eu k h w m) masks z s ms=true at q
 have R:=A.R
 rcases yk ht hgo with ⟨rfl,hk⟩ | ⟨rfl,hk⟩ | ⟨rfl,hk⟩
 · have hk:k=.NoSquare:=hk
   subst hk
   change squB h w ((m.toNat:Nat):Int) masks z s ms=true at q
   rw [em] at q
   exact yP A R q
 · have hk:k=.Joined∨k=.Ring:=hk
   change reaB h w (rngL 0 (h*w)) ((m.toNat:Nat):Int) masks z s ms=true at q
   rw [em] at q
   rcases hk with rfl | rfl
   · exact wr A R z0 z1 q
   · exact wr A R.1 z0 z1 q
 · have hk:k=.Ring:=hk
   subst hk
   change turnB h w ((m.toNat:Nat):Int) masks z s ms=true at q
   rw [em] at q
   exact yj A R.2 z0 z1 q
def bI (K:PySem.W.Frag):Sp:=fun vs H Q _=>∃ (p:Addr) (h w g c:Int),vs=[.ref p,.int c]∧IsFl H p h w g∧FlOk h w g∧∀ l H',Same H H'→H l=none→H' l=some (.lst ((nearL h w c).map V.int))→Q (.ref l) H'
theorem rh {K:PySem.W.Frag} {vs:List V} {H:Hp} {Q:VK} {E:XK} (h:bI K vs H Q E):vs.length=2:=by
 obtain ⟨_,_,_,_,_,rfl,_⟩:=h; rfl
def tnear (K:PySem.W.Frag):TS:=
 (tIfS (tAnd (tTest (jg (cCmp fun i j=>decide (i≤j)) (cCmp fun i j=>decide (i < j)) (tC (.int 0)) (tVar 5) (tOp cIx (tVar 0) (tC (.int 0))))) (tTest (jg (cCmp fun i j=>decide (i≤j)) (cCmp fun i j=>decide (i < j)) (tC (.int 0)) (tVar 6) (tOp cIx (tVar 0) (tC (.int 1)))))) (tDrop (tBM K "list" bJ (tVar 4) (tCons (tOp cAdd (tOp cMul (tVar 5) (tOp cIx (tVar 0) (tC (.int 1)))) (tVar 6)) tNil))) tNext)
def gq (K:PySem.W.Frag):TS:=
 (tSeq (tAsg (tCB je (tCons (tVar 1) (tCons (tOp cIx (tVar 0) (tC (.int 1))) tNil))) (gTup K 2 (gCons (gName 2) (gCons (gName 3) gNil))))
  (tSeq (tAsg (tLst tNil) (gName 4))
  (tSeq (tFor (iList K (tLst (tCons (tTup (tCons (tOp cSub (tVar 2) (tC (.int 1))) (tCons (tVar 3) tNil))) (tCons (tTup (tCons (tVar 2) (tCons (tOp cSub (tVar 3) (tC (.int 1))) tNil))) (tCons (tTup (tCons (tVar 2) (tCons (tOp cAdd (tVar 3) (tC (.int 1))) tNil))) (tCons (tTup (tCons (tOp cAdd (tVar 2) (tC (.int 1))) (tCons (tVar 3) tNil))) tNil)))))) (gTup K 2 (gCons (gName 5) (gCons (gName 6) gNil)))
  (tnear K))
  (tRet (tVar 4)))))
theorem jM {K:PySem.W.Frag} {D:Ends} {H:Hp} {p L t:Addr} {h w g d r:Int} {found:List Int} {v1 v2 v3 v5 v6:Option V} (hp:IsFl H p h w g) (w1:w≤6) (w0:1≤w) (et:H t=some (.tup [.int d,.int r])) (eL:H L=some (.lst (found.map V.int))) (hn:found.length≤100)
  (k:∀ H',H' L=some (.lst ((found++nearS h w d r).map V.int))→(∀ b,b≠L→H' b=H b)→D.nx [some (.ref p),v1,v2,v3,some (.ref L),some (.int d),some (.int r)] H'):
  gTup K 2 (gCons (gName 5) (gCons (gName 6) gNil)) (V.ref t) [some (.ref p),v1,v2,v3,some (.ref L),v5,v6] H fun σ2 H2=>tnear K D σ2 H2:=by
 refine lf et rfl ?_
 rw [jk]
 show tnear K D [some (.ref p),v1,v2,v3,some (.ref L),some (.int d),some (.int r)] H
 unfold tnear
 refine ld (b:=(decide (0≤d)&&decide (d < h))&&(decide (0≤r)&&decide (r < w))) (v:=d*w+r) (l:=L) (i:=4) rfl ?_ eL (by omega) ?_ ?_
 · intro R hR
   unfold jg
   walk_at "w"
   cases hb:decide (0≤d) with
   | false=>
    rw [hb,Bool.false_and,Bool.false_and] at hR
    walk_at "w"
    exact hR
   | true=>
    rw [hb,Bool.true_and] at hR
    walk_at "w"
    refine ixT hp (v:=V.int h) rfl ?_
    walk_at "w"
    cases hb2:decide (d < h) with
    | false=>
     rw [hb2,Bool.false_and] at hR
     walk_at "w"
     exact hR
    | true=>
     rw [hb2,Bool.true_and] at hR
     walk_at "w"
     cases hb3:decide (0≤r) with
     | false=>
      rw [hb3,Bool.false_and] at hR
      walk_at "w"
      exact hR
     | true=>
      rw [hb3,Bool.true_and] at hR
      walk_at "w"
      refine ixT hp (v:=V.int w) rfl ?_
      walk_at "w"
      exact hR
 · intro Q hQ
   walk_at "w"
   refine ixT hp (v:=V.int w) rfl ?_
   walk_at "w"
   exact ⟨.inr ⟨by omega,by omega⟩,hQ⟩
 · intro H' e1 e2
   refine k H' ?_ e2
   rw [e1]
   rfl
theorem kC (h w c:Int) {i:Nat} {d r:Int} (hi:(nearP w c)[i]? =some (d,r)):((nearP w c).take (i+1)).flatMap (fun p=>nearS h w p.1 p.2)=((nearP w c).take i).flatMap (fun p=>nearS h w p.1 p.2)++nearS h w d r:=by
 rw [List.take_add_one,hi,List.flatMap_append]
 simp
theorem rj {K:PySem.W.Frag} {vs:List V} {H:Hp} {Q:VK} {E:XK} (h:bI K vs H Q E):gq K { nx:=fun _ H'=>Q .non H',rt:=Q } (start ["_law_floor_here","_law_cell","_law_row","_law_column","_law_found","_law_down","_law_right"] vs) H:=by
 obtain ⟨p,h,w,g,c,rfl,hp,F,q⟩:=h
 obtain ⟨h0,h1,w0,w1,m16,g0,g1⟩:=id F
 show gq K _ [some (.ref p),some (.int c),none,none,none,none,none] H
 unfold gq
 walk_at "w"
 refine ixT hp (v:=V.int w) rfl ?_
 walk_at "w"
 rw [mX]
 refine ⟨⟨by omega,by omega⟩,fun T hT=>?_⟩
 have s1:Same H (upd H T (.tup [.int (c / w),.int (c % w)])):=(Same.refl H).laid hT
 have eT:(upd H T (.tup [.int (c / w),.int (c % w)])) T=some (.tup [.int (c / w),.int (c % w)]):=ag
 generalize upd H T (.tup [.int (c / w),.int (c % w)])=H1 at*
 refine lf eT rfl ?_
 rw [jk]
 walk_at "w"
 refine ⟨aF (by decide),fun L hL=>?_⟩
 have eL:(upd H1 L (.lst [])) L=some (.lst (([]:List Int).map V.int)):=ag
 have sL:Same H1 (upd H1 L (.lst [])):=(Same.refl H1).laid hL
 generalize upd H1 L (.lst [])=H2 at*
 refine ⟨aF (by show (2:Nat)≤1000; decide),fun t1 i1=>?_⟩
 have k1:Same H2 (upd H2 t1 (.tup [V.int (c / w - 1),V.int (c % w)])):=(Same.refl H2).laid i1
 have e1:(upd H2 t1 (.tup [V.int (c / w - 1),V.int (c % w)])) t1=some (.tup [V.int (c / w - 1),V.int (c % w)]):=ag
 generalize upd H2 t1 (.tup [V.int (c / w - 1),V.int (c % w)])=H3 at*
 refine ⟨aF (by show (2:Nat)≤1000; decide),fun t2 i2=>?_⟩
 have k2:Same H3 (upd H3 t2 (.tup [V.int (c / w),V.int (c % w - 1)])):=(Same.refl H3).laid i2
 have e2:(upd H3 t2 (.tup [V.int (c / w),V.int (c % w - 1)])) t2=some (.tup [V.int (c / w),V.int (c % w - 1)]):=ag
 generalize upd H3 t2 (.tup [V.int (c / w),V.int (c % w - 1)])=H4 at*
 refine ⟨aF (by show (2:Nat)≤1000; decide),fun t3 i3=>?_⟩
 have k3:Same H4 (upd H4 t3 (.tup [V.int (c / w),V.int (c % w+1)])):=(Same.refl H4).laid i3
 have e3:(upd H4 t3 (.tup [V.int (c / w),V.int (c % w+1)])) t3=some (.tup [V.int (c / w),V.int (c % w+1)]):=ag
 generalize upd H4 t3 (.tup [V.int (c / w),V.int (c % w+1)])=H5 at*
 refine ⟨aF (by show (2:Nat)≤1000; decide),fun t4 i4=>?_⟩
 have k4:Same H5 (upd H5 t4 (.tup [V.int (c / w+1),V.int (c % w)])):=(Same.refl H5).laid i4
 have e4:(upd H5 t4 (.tup [V.int (c / w+1),V.int (c % w)])) t4=some (.tup [V.int (c / w+1),V.int (c % w)]):=ag
 generalize upd H5 t4 (.tup [V.int (c / w+1),V.int (c % w)])=H6 at*
 refine ⟨aF (by show (4:Nat)≤1000; decide),fun U iU=>?_⟩
 have k5:Same H6 (upd H6 U (.lst [V.ref t1,V.ref t2,V.ref t3,V.ref t4])):=(Same.refl H6).laid iU
 have eU:(upd H6 U (.lst [V.ref t1,V.ref t2,V.ref t3,V.ref t4])) U=some (.lst [V.ref t1,V.ref t2,V.ref t3,V.ref t4]):=ag
 generalize upd H6 U (.lst [V.ref t1,V.ref t2,V.ref t3,V.ref t4])=H7 at*
 have f1:=k5 _ _ (k4 _ _ (k3 _ _ (k2 _ _ e1)))
 have f2:=k5 _ _ (k4 _ _ (k3 _ _ e2))
 have f3:=k5 _ _ (k4 _ _ e3)
 have f4:=k5 _ _ e4
 have k26:=((k1.trans k2).trans k3).trans k4
 have fL:=(k26.trans k5) _ _ eL
 have hpL:p≠L:=fun e=>by have:=s1 _ _ hp; rw [e,hL] at this; cases this
 have n1:t1≠L:=fun e=>by rw [e,eL] at i1; cases i1
 have n2:t2≠L:=fun e=>by rw [e,k1 _ _ eL] at i2; cases i2
 have n3:t3≠L:=fun e=>by rw [e,(k1.trans k2) _ _ eL] at i3; cases i3
 have n4:t4≠L:=fun e=>by rw [e,((k1.trans k2).trans k3) _ _ eL] at i4; cases i4
 have nU:U≠L:=fun e=>by rw [e,k26 _ _ eL] at iU; cases iU
 have fp:=(k26.trans k5) _ _ (sL _ _ (s1 _ _ hp))
 have s17:=(sL.trans k26).trans k5
 refine ⟨⟨_,SqL.of eU⟩,?_⟩
 refine gA (K:=K) (xs:=[V.ref t1,V.ref t2,V.ref t3,V.ref t4]) (fun i σ H'=>∃ (v5 v6:Option V),σ=[some (.ref p),some (.int c),some (.int (c / w)),some (.int (c % w)),some (.ref L),v5,v6]∧(∀ b,b≠L→H' b=H7 b)∧H' L=some (.lst ((((nearP w c).take i).flatMap fun p=>nearS h w p.1 p.2).map V.int))) ⟨none,none,rfl,fun _ _=>rfl,fL⟩ (fun i σ H' _ ⟨_,_,_,hk,_⟩=>SqL.of (by rw [hk U nU]; exact eU)) ?_ ?_
 · rintro i v σ H8 hv ⟨v5,v6,rfl,hk,e8⟩
   have hnl:((((nearP w c).take i).flatMap fun p=>nearS h w p.1 p.2)).length≤100:=by
    have:∀ (ps:List (Int × Int)),(ps.flatMap fun p=>nearS h w p.1 p.2).length≤ps.length:=fun ps=>by
     induction ps with
     | nil=>exact Nat.le_refl _
     | cons a r ih=>
      rw [List.flatMap_cons,List.length_append,List.length_cons]
      have:(nearS h w a.1 a.2).length≤1:=by unfold nearS; split <;> simp
      omega
    have:=this ((nearP w c).take i)
    rw [List.length_take] at this
    have:(nearP w c).length=4:=rfl
    omega
   have fp8:IsFl H8 p h w g:=by unfold IsFl; rw [hk p hpL]; exact fp
   match i,hv,e8,hnl with
   | 0,hv,e8,hnl=>
    cases hv
    exact jM fp8 w1 w0 (by rw [hk _ n1]; exact f1) e8 hnl fun H' a1 a2=>⟨_,_,rfl,fun b hb=>(a2 b hb).trans (hk b hb),by rw [a1,kC h w c (i:=0) rfl]⟩
   | 1,hv,e8,hnl=>
    cases hv
    exact jM fp8 w1 w0 (by rw [hk _ n2]; exact f2) e8 hnl fun H' a1 a2=>⟨_,_,rfl,fun b hb=>(a2 b hb).trans (hk b hb),by rw [a1,kC h w c (i:=1) rfl]⟩
   | 2,hv,e8,hnl=>
    cases hv
    exact jM fp8 w1 w0 (by rw [hk _ n3]; exact f3) e8 hnl fun H' a1 a2=>⟨_,_,rfl,fun b hb=>(a2 b hb).trans (hk b hb),by rw [a1,kC h w c (i:=2) rfl]⟩
   | 3,hv,e8,hnl=>
    cases hv
    exact jM fp8 w1 w0 (by rw [hk _ n4]; exact f4) e8 hnl fun H' a1 a2=>⟨_,_,rfl,fun b hb=>(a2 b hb).trans (hk b hb),by rw [a1,kC h w c (i:=3) rfl]⟩
   | n+4,hv,_,_=>cases hv
 · rintro σ H8 ⟨v5,v6,rfl,hk,e8⟩
   walk_at "w"
   refine q L H8 (fun b o e=>?_) (s1.free hL) e8
   have hb:b≠L:=fun e'=>by rw [e'] at e; rw [s1 _ _ e] at hL; cases hL
   rw [hk b hb]
   exact s17 _ _ (s1 _ _ e)
structure tV (h w:Int) (xs:List Int):Prop where
 n:xs.length≤16
 i:∀ x∈xs,0≤x∧x < h*w
 c:∀ a∈xs,∀ b∈xs,RC h w xs a b
theorem oz {h w r:Int} {xs:List Int} (w0:0 < w) (i:∀ x∈xs,0≤x∧x < h*w) (c:∀ x∈xs,RC h w xs r x):∀ a∈xs,∀ b∈xs,RC h w xs a b:=
 fun a ha b hb=>RC.trans (RC.symm w0 i (c a ha)) (c b hb)
def bP (K:PySem.W.Frag):Sp:=fun vs H Q _=>∃ (a p:Addr) (ns:List Int) (h w g:Int),vs=[.ref a,.ref p]∧SqL K H a (ns.map V.int)∧ns.length≤63∧IsFl H p h w g∧FlOk h w g∧
 ∀ (l:Addr) (xs:List Int) (H':Hp),Same H H'→H l=none→H' l=some (.lst (xs.map V.int))→tV h w xs→Q (.ref l) H'
theorem oA {K:PySem.W.Frag} {vs:List V} {H:Hp} {Q:VK} {E:XK} (h:bP K vs H Q E):vs.length=2:=by
 obtain ⟨_,_,_,_,_,_,rfl,_⟩:=h; rfl
def tW (K:PySem.W.Frag):TS:=
 (tFor (iList K (tVar 3)) (gName 6)
  (tAsg (tOp cAdd (tVar 5) (tComp [none,none,some 3] (iList K (tCall (bI K) [] E0 (tCons (tVar 1) (tCons (tVar 6) tNil)))) (gName 1) (tTest (tOp (cIn K true) (tVar 1) (tVar 2))) (tVar 1))) (gName 5)))
def dL (K:PySem.W.Frag):TS:=
 (tSeq (tAsg (tOp cMul (tOp cIx (tVar 1) (tC (.int 0))) (tOp cIx (tVar 1) (tC (.int 1)))) (gName 2))
  (tSeq (tAsg (tLst (tCons (tOp cMod (tCall (az K) [] E0 (tCons (tVar 0) (tCons (tC (.int 30)) tNil))) (tVar 2)) tNil)) (gName 3))
  (tSeq (tFor (cD (tCons (tOp cMod (tCall (az K) [] E0 (tCons (tVar 0) (tCons (tC (.int 31)) tNil))) (tVar 2)) tNil)) (gName 4)
  (tSeq (tAsg (tLst tNil) (gName 5))
  (tSeq (tW K)
  (tIfS (tTest (tOp (cNe K) (tVar 5) (tLst tNil))) (tDrop (tBM K "list" bJ (tVar 3) (tCons (tOp cIx (tVar 5) (tOp cMod (tCall (az K) [] E0 (tCons (tVar 0) (tCons (tOp cAdd (tC (.int 32)) (tVar 4)) tNil))) (tCB kLen (tCons (tVar 5) tNil)))) tNil))) tNext))))
  (tRet (tVar 3)))))
theorem we {K:PySem.W.Frag} {D:Ends} {H:Hp} {p S Y:Addr} {xs:List Int} {h w g:Int} {v0 v2 v4 v6:Option V} (hp:IsFl H p h w g) (F:FlOk h w g) (eS:H S=some (.lst (xs.map V.int))) (xn:xs.length≤16) (xi:∀ x∈xs,0≤x∧x < h*w) (eY:H Y=some (.lst (([]:List Int).map V.int)))
  (k:∀ (Z:Addr) (ys:List Int) (v6:Option V) (H':Hp),Same H H'→H' Z=some (.lst (ys.map V.int))→ys.length≤64→(∀ y∈ys,∃ x∈xs,y∈besL h w x)→D.nx [v0,some (.ref p),v2,some (.ref S),v4,some (.ref Z),v6] H'):
  tW K D [v0,some (.ref p),v2,some (.ref S),v4,some (.ref Y),v6] H:=by
 unfold tW
 walk_at "w"
 refine ⟨⟨_,SqL.of eS⟩,?_⟩
 refine gA (K:=K) (xs:=xs.map V.int) (fun i σ H'=>∃ (Z:Addr) (ys:List Int) (v6:Option V),σ=[v0,some (.ref p),v2,some (.ref S),v4,some (.ref Z),v6]∧Same H H'∧H' Z=some (.lst (ys.map V.int))∧ys.length≤4*i∧(∀ y∈ys,∃ x∈xs,y∈besL h w x)) ⟨Y,[],_,rfl,Same.refl H,eY,Nat.zero_le _,fun y hy=>by cases hy⟩ (fun i σ H' _ ⟨_,_,_,_,s,_⟩=>SqL.of (s _ _ eS)) ?_ ?_
 · rintro i v σ H1 hv ⟨Z,ys,v6,rfl,s1,eZ,yn,yb⟩
   obtain ⟨x,hx,rfl⟩:=bY hv
   have hi:i < xs.length:=(List.getElem?_eq_some_iff.mp hx).1
   have xm:=List.mem_of_getElem? hx
   have xb:=xi x xm
   walk_at "w"
   refine ⟨p,h,w,g,x,rfl,s1 _ _ hp,F,fun l H2 s2 hl el=>?_⟩
   rw [(ii F xb.1 xb.2).1] at el
   have bl:=ky h w x
   refine ⟨l,rfl,⟨_,SqL.of el⟩,?_⟩
   refine bX (xs:=besL h w x) (fun y=>!decide (y∈xs)) (fun y=>y) (by omega) (SqL.of el) ?_ ?_ ?_
   · intro y H3 R hy s3 k3
     show tTest _ [none,some (.int y),some (.ref S)] H3 R
     walk_at "w"
     rw [lV (((s1.trans s2).trans s3) _ _ eS)]
     exact ⟨_,rfl,k3 _ (Same.refl _)⟩
   · intro y H3 Q3 hy hb s3 k3
     show tVar 1 [none,some (.int y),some (.ref S)] H3 Q3
     walk_at "w"
     exact k3 _ (Same.refl _)
   · intro T H3 hT s3 eT
     rw [List.map_id'] at eT
     have s23:=s2.trans s3
     have fl:=List.length_filter_le (fun y=>!decide (y∈xs)) (besL h w x)
     refine nK (s23 _ _ eZ) eT (by rw [List.length_map,List.length_map]; omega) fun Z2 hZ2=>?_
     walk_at "w"
     refine ⟨Z2,ys++(besL h w x).filter fun y=>!decide (y∈xs),_,rfl,(s1.trans s23).laid hZ2,by rw [ag,List.map_append],by rw [List.length_append]; omega,fun y hy=>?_⟩
     rcases List.mem_append.mp hy with hy | hy
     · exact yb y hy
     · exact ⟨x,xm,(List.mem_filter.mp hy).1⟩
 · rintro σ H1 ⟨Z,ys,v6,rfl,s1,eZ,yn,yb⟩
   rw [List.length_map] at yn
   exact k Z ys v6 H1 s1 eZ (by omega) yb
theorem oB {K:PySem.W.Frag} {vs:List V} {H:Hp} {Q:VK} {E:XK} (h:bP K vs H Q E):dL K { nx:=fun _ H'=>Q .non H',rt:=Q } (start ["_law_script","_law_floor_here","_law_many","_law_some","_law_k","_law_near_here","_law_cell"] vs) H:=by
 obtain ⟨a,p,ns,h,w,g,rfl,hS,hn,hp,F,q⟩:=h
 obtain ⟨h0,h1,w0,w1,m16,g0,g1⟩:=id F
 have mpos:1≤h*w:=Int.le_trans (by omega) (Int.mul_le_mul h0 w0 (by omega) (by omega))
 show dL K _ [some (.ref a),some (.ref p),none,none,none,none,none] H
 unfold dL
 walk_at "w"
 refine ixT hp (v:=V.int h) rfl ?_
 walk_at "w"
 refine ixT hp (v:=V.int w) rfl ?_
 walk_at "w"
 refine ⟨dS h0 h1,?_⟩
 refine ⟨a,ns,30,rfl,hS,hn,by decide,by decide,?_⟩
 walk_at "w"
 have b0:=Int.emod_nonneg (lawCA ns 30) (show h*w≠0 by omega)
 have b1:=Int.emod_lt_of_pos (lawCA ns 30) (show 0 < h*w by omega)
 generalize lawCA ns 30 % (h*w)=x0 at*
 refine ⟨by omega,aF (by show (1:Nat)≤1000; decide),fun S hS2=>?_⟩
 have t1:Same H (upd H S (.lst [V.int x0])):=(Same.refl H).laid hS2
 have eS:(upd H S (.lst [V.int x0])) S=some (.lst (([x0]:List Int).map V.int)):=ag
 generalize upd H S (.lst [V.int x0])=H1 at*
 refine ⟨a,ns,31,rfl,t1.seq hS,hn,by decide,by decide,?_⟩
 walk_at "w"
 have c0:=Int.emod_nonneg (lawCA ns 31) (show h*w≠0 by omega)
 have c1:=Int.emod_lt_of_pos (lawCA ns 31) (show 0 < h*w by omega)
 generalize lawCA ns 31 % (h*w)=n0 at*
 refine ⟨by omega,n0,rfl,by omega,by omega,?_⟩
 refine cV (fun i σ H'=>∃ (v4 v5 v6:Option V) (xs:List Int),σ=[some (.ref a),some (.ref p),some (.int (h*w)),some (.ref S),v4,v5,v6]∧Same H H'∧H' S=some (.lst (xs.map V.int))∧xs.length≤i+1∧(∀ x∈xs,0≤x∧x < h*w)∧∀ x∈xs,RC h w xs x0 x) ⟨none,none,none,[x0],rfl,t1,eS,by simp,fun x hx=>by rw [List.mem_singleton.mp hx]; exact ⟨b0,b1⟩,fun x hx=>by rw [List.mem_singleton.mp hx]; exact .start List.mem_cons_self⟩ ?_ ?_
 · rintro i σ H2 hi ⟨v4,v5,v6,xs,rfl,s2,e2,xn,xi,xc⟩
   have hi16:i < 16:=by omega
   walk_at "w"
   refine ⟨aF (by decide),fun Y hY=>?_⟩
   have s3:Same H2 (upd H2 Y (.lst [])):=(Same.refl H2).laid hY
   have eY:(upd H2 Y (.lst [])) Y=some (.lst (([]:List Int).map V.int)):=ag
   generalize upd H2 Y (.lst [])=H3 at*
   refine we (s3 _ _ (s2 _ _ hp)) F (s3 _ _ e2) (by omega) xi eY fun Z ys v6 H4 s4 eZ yn yb=>?_
   have s34:=s3.trans s4
   have s24:=s2.trans s34
   walk_at "w"
   rw [aH]
   walk_at "w"
   refine ⟨aF (by decide),fun O hO=>?_⟩
   have s5:Same H4 (upd H4 O (.lst [])):=(Same.refl H4).laid hO
   have eO:(upd H4 O (.lst [])) O=some (.lst (([]:List Int).map V.int)):=ag
   generalize upd H4 O (.lst [])=H5 at*
   have s25:=s24.trans s5
   refine wp (s5 _ _ eZ) eO ?_
   by_cases c1:ys=[]
   · rw [decide_eq_true c1]
     refine ⟨_,rfl,iteF ?_⟩
     exact ⟨_,_,_,xs,rfl,s25,(s34.trans s5) _ _ e2,by omega,xi,xc⟩
   · rw [decide_eq_false c1]
     refine ⟨_,rfl,iteT ?_⟩
     have yl:0 < ys.length:=List.length_pos_iff.mpr c1
     walk_at "w"
     have eS5:=(s34.trans s5) _ _ e2
     refine ⟨gC eS5,?_⟩
     refine ⟨a,ns,_,rfl,s25.seq hS,hn,by omega,by omega,?_⟩
     walk_at "w"
     rw [cg (s5 _ _ eZ),List.length_map]
     walk_at "w"
     generalize lawCA ns (32+(0+(i:Int)))=y0 at*
     have d0:=Int.emod_nonneg y0 (show (ys.length:Int)≠0 by omega)
     have d1:=Int.emod_lt_of_pos y0 (show (0:Int) < ys.length by omega)
     refine ⟨by omega,?_⟩
     refine ixI (s5 _ _ eZ) d0 (by omega) ?_
     walk_at "w"
     rw [gD eS5]
     have ym:ys.getD (y0 % (ys.length:Int)).toNat 0∈ys:=by
      rw [List.getD,List.getElem?_eq_getElem (by omega)]; exact List.getElem_mem _
     generalize ys.getD (y0 % (ys.length:Int)).toNat 0=y at*
     obtain ⟨x,xm,hy⟩:=yb y ym
     have yin:=(ii F (xi x xm).1 (xi x xm).2).2 y hy
     have sub:∀ c∈xs,c∈xs++[y]:=fun c hc=>List.mem_append.mpr (.inl hc)
     have ymem:y∈xs++[y]:=List.mem_append.mpr (.inr List.mem_cons_self)
     refine ⟨by rw [List.length_map]; exact aG (by omega),_,_,_,xs++[y],rfl,s25.own hS2,by rw [ag,List.map_append]; rfl,by rw [List.length_append]; simp; omega,fun c hc=>?_,fun c hc=>?_⟩
     · rcases List.mem_append.mp hc with hc | hc
       · exact xi c hc
       · rw [List.mem_singleton.mp hc]; exact yin
     · rcases List.mem_append.mp hc with hc | hc
       · exact (xc c hc).less sub
       · rw [List.mem_singleton.mp hc]; exact .step ((xc x xm).less sub) hy ymem
 · rintro σ H2 ⟨v4,v5,v6,xs,rfl,s2,e2,xn,xi,xc⟩
   walk_at "w"
   exact q S xs H2 s2 hS2 e2 ⟨by omega,xi,oz (by omega) xi xc⟩
def brdB (w t l hi wi k:Int):Bool:=((decide (t≤k / w)&&decide (k / w < t+hi))&&(decide (l≤k % w)&&decide (k % w < l+wi)))&&(decide (k / w∈[t,t+hi - 1])||decide (k % w∈[l,l+wi - 1]))
def brdL (h w t l hi wi:Int):List Int:=((List.range (h*w).toNat).filter fun (k:Nat)=>brdB w t l hi wi k).map fun (k:Nat)=>(k:Int)
def i6 (h w:Int) (bs xs:List Int):List Int:=xs++bs.filter fun b=>xs.any fun x=>decide (b∈besL h w x)
def tX (h w:Int) (bs:List Int):Bool:=(bs.all fun b=>decide (b∈i6 h w bs (i6 h w bs (i6 h w bs (i6 h w bs (i6 h w bs (i6 h w bs (i6 h w bs [bs.headD 0]))))))))&&(decide (bs.headD 0∈bs)&&bs.all fun a=>decide (((besL h w a).filter fun c=>decide (c∈bs)).length=2))
theorem xg:qW (fun h w=>(List.range 6).all fun (t:Nat)=>(List.range 6).all fun (l:Nat)=>(List.range 5).all fun (hi:Nat)=>(List.range 5).all fun (wi:Nat)=>!(decide ((t:Int)+(2+(hi:Int))≤h)&&(decide ((l:Int)+(2+(wi:Int))≤w)&&(decide (hi=0∧wi=0)||decide (1≤hi∧1≤wi))))||tX h w (brdL h w t l (2+hi) (2+wi)))=true:=by decide+kernel
theorem jo {h w r:Int} {bs xs:List Int} (hx:∀ x∈xs,RC h w bs r x):∀ x∈i6 h w bs xs,RC h w bs r x:=fun x hx2=>by
 unfold i6 at hx2
 rcases List.mem_append.mp hx2 with hx2 | hx2
 · exact hx x hx2
 · obtain ⟨hb,ha⟩:=List.mem_filter.mp hx2
   obtain ⟨y,hy,e⟩:=List.any_eq_true.mp ha
   exact .step (hx y hy) (of_decide_eq_true e) hb
structure l9 (h w:Int) (xs:List Int):Prop where
 C:tV h w xs
 t:∀ a∈xs,((besL h w a).filter fun c=>decide (c∈xs)).length=2
theorem xh {h w:Int}:l9 h w []:=⟨⟨Nat.zero_le _,(fun x hx=>by cases hx),(fun x hx=>by cases hx)⟩,(fun x hx=>by cases hx)⟩
theorem yo {h w g t l hi wi:Int} (F:FlOk h w g) (t0:0≤t) (l0:0≤l) (h2:2≤hi) (w2:2≤wi) (th:t+hi≤h) (lw:l+wi≤w) (hw:(hi=2∧wi=2)∨(3≤hi∧3≤wi)):l9 h w (brdL h w t l hi wi):=by
 obtain ⟨h0,h1,w0,w1,m16,g0,g1⟩:=id F
 have a:=List.all_eq_true.mp (List.all_eq_true.mp (List.all_eq_true.mp (List.all_eq_true.mp (pF xg F) t.toNat (List.mem_range.mpr (by omega))) l.toNat (List.mem_range.mpr (by omega))) (hi - 2).toNat (List.mem_range.mpr (by omega))) (wi - 2).toNat (List.mem_range.mpr (by omega))
 rw [show ((t.toNat:Nat):Int)=t by omega,show ((l.toNat:Nat):Int)=l by omega,show 2+(((hi - 2).toNat:Nat):Int)=hi by omega,show 2+(((wi - 2).toNat:Nat):Int)=wi by omega,decide_eq_true th,decide_eq_true lw] at a
 have hc:(decide ((hi - 2).toNat=0∧(wi - 2).toNat=0)||decide (1≤(hi - 2).toNat∧1≤(wi - 2).toNat))=true:=by
  rw [Bool.or_eq_true,decide_eq_true_eq,decide_eq_true_eq]; omega
 rw [hc] at a
 have a:tX h w (brdL h w t l hi wi)=true:=by simpa using a
 have len:(brdL h w t l hi wi).length≤16:=by
  unfold brdL
  rw [List.length_map]
  have:=List.length_filter_le (fun (k:Nat)=>brdB w t l hi wi k) (List.range (h*w).toNat)
  rw [List.length_range] at this
  omega
 have inn:∀ x∈brdL h w t l hi wi,0≤x∧x < h*w:=fun x hx=>by
  unfold brdL at hx
  obtain ⟨k,hk,rfl⟩:=List.mem_map.mp hx
  have:=List.mem_range.mp (List.mem_filter.mp hk).1
  omega
 generalize brdL h w t l hi wi=bs at*
 unfold tX at a
 rw [Bool.and_eq_true,Bool.and_eq_true] at a
 obtain ⟨a1,a2,a3⟩:=a
 have hd:=of_decide_eq_true a2
 refine ⟨⟨len,inn,oz (r:=bs.headD 0) (by omega) inn fun x hx=>?_⟩,fun x hx=>of_decide_eq_true (List.all_eq_true.mp a3 x hx)⟩
 have:=of_decide_eq_true (List.all_eq_true.mp a1 x hx)
 exact jo (jo (jo (jo (jo (jo (jo (fun y hy=>by rw [List.mem_singleton.mp hy]; exact .start hd))))))) x this
def bC (K:PySem.W.Frag):Sp:=fun vs H Q _=>∃ (a p:Addr) (ns:List Int) (h w g:Int),vs=[.ref a,.ref p]∧SqL K H a (ns.map V.int)∧ns.length≤63∧IsFl H p h w g∧FlOk h w g∧
 ∀ (l:Addr) (xs:List Int) (H':Hp),Same H H'→H l=none→H' l=some (.lst (xs.map V.int))→l9 h w xs→Q (.ref l) H'
theorem m3 {K:PySem.W.Frag} {vs:List V} {H:Hp} {Q:VK} {E:XK} (h:bC K vs H Q E):vs.length=2:=by
 obtain ⟨_,_,_,_,_,_,rfl,_⟩:=h; rfl
def dq (K:PySem.W.Frag):TS:=
 (tSeq (tAsg (tLst tNil) (gName 7))
  (tSeq (tFor (cD (tCons (tOp cMul (tOp cIx (tVar 1) (tC (.int 0))) (tOp cIx (tVar 1) (tC (.int 1)))) tNil)) (gName 8)
  (tSeq (tAsg (tCB je (tCons (tVar 8) (tCons (tOp cIx (tVar 1) (tC (.int 1))) tNil))) (gTup K 2 (gCons (gName 9) (gCons (gName 10) gNil))))
  (tIfS (tAnd (tTest (jg (cCmp fun i j=>decide (i≤j)) (cCmp fun i j=>decide (i < j)) (tVar 3) (tVar 9) (tOp cAdd (tVar 3) (tVar 5)))) (tTest (jg (cCmp fun i j=>decide (i≤j)) (cCmp fun i j=>decide (i < j)) (tVar 4) (tVar 10) (tOp cAdd (tVar 4) (tVar 6))))) (tIfS (tOr (tTest (tOp (cIn K false) (tVar 9) (tTup (tCons (tVar 3) (tCons (tOp cSub (tOp cAdd (tVar 3) (tVar 5)) (tC (.int 1))) tNil))))) (tTest (tOp (cIn K false) (tVar 10) (tTup (tCons (tVar 4) (tCons (tOp cSub (tOp cAdd (tVar 4) (tVar 6)) (tC (.int 1))) tNil)))))) (tDrop (tBM K "list" bJ (tVar 7) (tCons (tVar 8) tNil))) tNext) tNext)))
  (tRet (tVar 7))))
def dr (K:PySem.W.Frag):TS:=
 (tSeq (tIfS (tOr (tTest (tOp (cCmp fun i j=>decide (j < i)) (tOp cAdd (tVar 3) (tVar 5)) (tOp cIx (tVar 1) (tC (.int 0))))) (tTest (tOp (cCmp fun i j=>decide (j < i)) (tOp cAdd (tVar 4) (tVar 6)) (tOp cIx (tVar 1) (tC (.int 1)))))) (tRet (tLst tNil)) tNext)
  (dq K))
def dt (K:PySem.W.Frag):TS:=
 (tSeq (tIfS (tOr (tTest (tOp (cEq K) (tVar 5) (tC (.int 2)))) (tTest (tOp (cEq K) (tVar 6) (tC (.int 2))))) (tSeq (tAsg (tC (.int 2)) (gName 5))
  (tAsg (tC (.int 2)) (gName 6))) tNext)
  (dr K))
def dc (K:PySem.W.Frag):TS:=
 (tSeq (tAsg (tCall (az K) [] E0 (tCons (tVar 0) (tCons (tC (.int 30)) tNil))) (gName 2))
  (tSeq (tAsg (tOp cMod (tVar 2) (tOp cIx (tVar 1) (tC (.int 0)))) (gName 3))
  (tSeq (tAsg (tOp cMod (tOp cDiv (tVar 2) (tC (.int 6))) (tOp cIx (tVar 1) (tC (.int 1)))) (gName 4))
  (tSeq (tAsg (tOp cAdd (tC (.int 2)) (tOp cMod (tOp cDiv (tVar 2) (tC (.int 36))) (tC (.int 5)))) (gName 5))
  (tSeq (tAsg (tOp cAdd (tC (.int 2)) (tOp cMod (tOp cDiv (tVar 2) (tC (.int 180))) (tC (.int 5)))) (gName 6))
  (dt K))))))
theorem kP {K:PySem.W.Frag} {H:Hp} {Q:VK} {p:Addr} {h w g t l hi wi:Int} {v0 v2:Option V} (hp:IsFl H p h w g) (F:FlOk h w g)
  (q:∀ (R:Addr) (H':Hp),Same H H'→H R=none→H' R=some (.lst ((brdL h w t l hi wi).map V.int))→Q (.ref R) H'):
  dq K { nx:=fun _ H'=>Q .non H',rt:=Q } [v0,some (.ref p),v2,some (.int t),some (.int l),some (.int hi),some (.int wi),none,none,none,none] H:=by
 obtain ⟨h0,h1,w0,w1,m16,g0,g1⟩:=id F
 have mpos:1≤h*w:=Int.le_trans (by omega) (Int.mul_le_mul h0 w0 (by omega) (by omega))
 unfold dq
 walk_at "w"
 refine ⟨aF (by decide),fun R hR=>?_⟩
 have t1:Same H (upd H R (.lst [])):=(Same.refl H).laid hR
 have eR:(upd H R (.lst [])) R=some (.lst (([]:List Int).map V.int)):=ag
 generalize upd H R (.lst [])=H1 at*
 refine ixT (t1 _ _ hp) (v:=V.int h) rfl ?_
 walk_at "w"
 refine ixT (t1 _ _ hp) (v:=V.int w) rfl ?_
 walk_at "w"
 refine ⟨dS h0 h1,h*w,rfl,by omega,by omega,?_⟩
 refine cV (fun i σ H'=>∃ (v8 v9 v10:Option V),σ=[v0,some (.ref p),v2,some (.int t),some (.int l),some (.int hi),some (.int wi),some (.ref R),v8,v9,v10]∧Same H H'∧H' R=some (.lst ((((List.range i).filter fun (k:Nat)=>brdB w t l hi wi k).map fun (k:Nat)=>(k:Int)).map V.int))) ⟨none,none,none,rfl,t1,eR⟩ ?_ ?_
 · rintro i σ H2 hi2 ⟨v8,v9,v10,rfl,s2,e2⟩
   have hil:i < (h*w).toNat:=hi2
   rw [Int.zero_add]
   walk_at "w"
   refine ixT (s2 _ _ hp) (v:=V.int w) rfl ?_
   walk_at "w"
   rw [mX]
   refine ⟨⟨by omega,by omega⟩,fun T hT=>?_⟩
   have s3:Same H2 (upd H2 T (.tup [.int ((i:Int) / w),.int ((i:Int) % w)])):=(Same.refl H2).laid hT
   have eT:(upd H2 T (.tup [.int ((i:Int) / w),.int ((i:Int) % w)])) T=some (.tup [.int ((i:Int) / w),.int ((i:Int) % w)]):=ag
   generalize upd H2 T (.tup [.int ((i:Int) / w),.int ((i:Int) % w)])=H3 at*
   refine lf eT rfl ?_
   rw [jk]
   have s23:=s2.trans s3
   have e3:=s3 _ _ e2
   have stp:∀ b,brdB w t l hi wi i=b→((List.range (i+1)).filter fun (k:Nat)=>brdB w t l hi wi k)=((List.range i).filter fun (k:Nat)=>brdB w t l hi wi k)++(if b then [i] else []):=fun b hb=>by
    rw [List.range_succ,List.filter_append,List.filter_cons,hb]
    cases b <;> rfl
   have no:brdB w t l hi wi i=false→∀ H',Same H3 H'→∃ (v8 v9 v10:Option V),[v0,some (.ref p),v2,some (.int t),some (.int l),some (.int hi),some (.int wi),some (.ref R),some (.int (i:Int)),some (.int ((i:Int) / w)),some (.int ((i:Int) % w))]=[v0,some (.ref p),v2,some (.int t),some (.int l),some (.int hi),some (.int wi),some (.ref R),v8,v9,v10]∧Same H H'∧H' R=some (.lst ((((List.range (i+1)).filter fun (k:Nat)=>brdB w t l hi wi k).map fun (k:Nat)=>(k:Int)).map V.int)):=fun hb H' s'=>
    ⟨_,_,_,rfl,s23.trans s',by rw [stp false hb,s' _ _ e3]; simp⟩
   show tIfS _ _ _ _ [v0,some (.ref p),v2,some (.int t),some (.int l),some (.int hi),some (.int wi),some (.ref R),some (.int (i:Int)),some (.int ((i:Int) / w)),some (.int ((i:Int) % w))] H3
   rw [aH]
   unfold jg
   walk_at "w"
   have bb:brdB w t l hi wi i=(((decide (t≤(i:Int) / w)&&decide ((i:Int) / w < t+hi))&&(decide (l≤(i:Int) % w)&&decide ((i:Int) % w < l+wi)))&&(decide ((i:Int) / w∈[t,t+hi - 1])||decide ((i:Int) % w∈[l,l+wi - 1]))):=rfl
   generalize (i:Int) / w=r at*
   generalize (i:Int) % w=cc at*
   cases b1:decide (t≤r) with
   | false=>walk_at "w"; exact no (by rw [bb,b1]; rfl) _ (Same.refl _)
   | true=>
    walk_at "w"
    cases b2:decide (r < t+hi) with
    | false=>walk_at "w"; exact no (by rw [bb,b2]; simp) _ (Same.refl _)
    | true=>
     walk_at "w"
     cases b3:decide (l≤cc) with
     | false=>walk_at "w"; exact no (by rw [bb,b3]; simp) _ (Same.refl _)
     | true=>
      walk_at "w"
      cases b4:decide (cc < l+wi) with
      | false=>walk_at "w"; exact no (by rw [bb,b4]; simp) _ (Same.refl _)
      | true=>
       walk_at "w"
       rw [aH]
       walk_at "w"
       refine ⟨aF (by show (2:Nat)≤1000; decide),fun T1 hT1=>?_⟩
       have s4:Same H3 (upd H3 T1 (.tup [V.int t,V.int (t+hi - 1)])):=(Same.refl H3).laid hT1
       have e4:(upd H3 T1 (.tup [V.int t,V.int (t+hi - 1)])) T1=some (.tup ([t,t+hi - 1].map V.int)):=ag
       generalize upd H3 T1 (.tup [V.int t,V.int (t+hi - 1)])=H4 at*
       rw [vm e4]
       cases b5:decide (r∈[t,t+hi - 1]) with
       | true=>
        refine ⟨true,rfl,?_⟩
        walk_at "w"
        refine ⟨gC (s4 _ _ e3),?_⟩
        rw [gD (s4 _ _ e3)]
        refine ⟨by rw [List.length_map,List.length_map]; exact aG (Nat.le_trans (List.length_filter_le _ _) (by rw [List.length_range]; omega)),_,_,_,rfl,(s23.trans s4).own hR,?_⟩
        rw [ag,stp true (by rw [bb,b1,b2,b3,b4,b5]; rfl)]
        simp
       | false=>
        refine ⟨false,rfl,?_⟩
        walk_at "w"
        refine ⟨aF (by show (2:Nat)≤1000; decide),fun T2 hT2=>?_⟩
        have s5:Same H4 (upd H4 T2 (.tup [V.int l,V.int (l+wi - 1)])):=(Same.refl H4).laid hT2
        have e5:(upd H4 T2 (.tup [V.int l,V.int (l+wi - 1)])) T2=some (.tup ([l,l+wi - 1].map V.int)):=ag
        generalize upd H4 T2 (.tup [V.int l,V.int (l+wi - 1)])=H5 at*
        rw [vm e5]
        have s45:=s4.trans s5
        cases b6:decide (cc∈[l,l+wi - 1]) with
        | true=>
         refine ⟨true,rfl,?_⟩
         walk_at "w"
         refine ⟨gC (s45 _ _ e3),?_⟩
         rw [gD (s45 _ _ e3)]
         refine ⟨by rw [List.length_map,List.length_map]; exact aG (Nat.le_trans (List.length_filter_le _ _) (by rw [List.length_range]; omega)),_,_,_,rfl,(s23.trans s45).own hR,?_⟩
         rw [ag,stp true (by rw [bb,b1,b2,b3,b4,b5,b6]; rfl)]
         simp
        | false=>
         refine ⟨false,rfl,?_⟩
         walk_at "w"
         exact no (by rw [bb,b5,b6]; simp) _ s45
 · rintro σ H2 ⟨v8,v9,v10,rfl,s2,e2⟩
   walk_at "w"
   exact q R H2 s2 hR e2
theorem du {K:PySem.W.Frag} {H:Hp} {Q:VK} {p:Addr} {h w g t l hi wi:Int} {v0 v2:Option V} (hp:IsFl H p h w g) (F:FlOk h w g) (t0:0≤t) (l0:0≤l) (h2:2≤hi) (w2:2≤wi) (hw:(hi=2∧wi=2)∨(3≤hi∧3≤wi))
  (q:∀ (l:Addr) (xs:List Int) (H':Hp),Same H H'→H l=none→H' l=some (.lst (xs.map V.int))→l9 h w xs→Q (.ref l) H'):
  dr K { nx:=fun _ H'=>Q .non H',rt:=Q } [v0,some (.ref p),v2,some (.int t),some (.int l),some (.int hi),some (.int wi),none,none,none,none] H:=by
 have emp:∀ R,H R=none→Q (.ref R) (upd H R (.lst [])):=fun R hR=>q R [] _ ((Same.refl H).laid hR) hR ag xh
 unfold dr
 rw [aR,aH]
 walk_at "w"
 refine ixT hp (v:=V.int h) rfl ?_
 walk_at "w"
 cases b1:decide (h < t+hi) with
 | true=>
  walk_at "w"
  exact ⟨aF (by decide),emp⟩
 | false=>
  walk_at "w"
  refine ixT hp (v:=V.int w) rfl ?_
  walk_at "w"
  cases b2:decide (w < l+wi) with
  | true=>
   walk_at "w"
   exact ⟨aF (by decide),emp⟩
  | false=>
   walk_at "w"
   have c1:=of_decide_eq_false b1
   have c2:=of_decide_eq_false b2
   exact kP hp F fun R H' s hR eR=>q R _ H' s hR eR (yo F t0 l0 h2 w2 (by omega) (by omega) hw)
theorem kQ {K:PySem.W.Frag} {H:Hp} {Q:VK} {p:Addr} {h w g t l hi wi:Int} {v0 v2:Option V} (hp:IsFl H p h w g) (F:FlOk h w g) (t0:0≤t) (l0:0≤l) (h2:2≤hi) (w2:2≤wi)
  (q:∀ (l:Addr) (xs:List Int) (H':Hp),Same H H'→H l=none→H' l=some (.lst (xs.map V.int))→l9 h w xs→Q (.ref l) H'):
  dt K { nx:=fun _ H'=>Q .non H',rt:=Q } [v0,some (.ref p),v2,some (.int t),some (.int l),some (.int hi),some (.int wi),none,none,none,none] H:=by
 unfold dt
 rw [aR,aH]
 walk_at "w"
 cases b1:decide (hi=2) with
 | true=>
  walk_at "w"
  exact du hp F t0 l0 (by decide) (by decide) (.inl ⟨rfl,rfl⟩) q
 | false=>
  walk_at "w"
  cases b2:decide (wi=2) with
  | true=>
   walk_at "w"
   exact du hp F t0 l0 (by decide) (by decide) (.inl ⟨rfl,rfl⟩) q
  | false=>
   walk_at "w"
   have c1:=of_decide_eq_false b1
   have c2:=of_decide_eq_false b2
   exact du hp F t0 l0 h2 w2 (.inr ⟨by omega,by omega⟩) q
theorem m4 {K:PySem.W.Frag} {vs:List V} {H:Hp} {Q:VK} {E:XK} (h:bC K vs H Q E):dc K { nx:=fun _ H'=>Q .non H',rt:=Q } (start ["_law_script","_law_floor_here","_law_cell","_law_top","_law_left","_law_high","_law_wide","_law_found","_law_k","_law_row","_law_column"] vs) H:=by
 obtain ⟨a,p,ns,h,w,g,rfl,hS,hn,hp,F,q⟩:=h
 obtain ⟨h0,h1,w0,w1,m16,g0,g1⟩:=id F
 show dc K _ [some (.ref a),some (.ref p),none,none,none,none,none,none,none,none,none] H
 unfold dc
 walk_at "w"
 refine ⟨a,ns,30,rfl,hS,hn,by decide,by decide,?_⟩
 generalize lawCA ns 30=y at*
 walk_at "w"
 refine ixT hp (v:=V.int h) rfl ?_
 walk_at "w"
 refine ⟨by omega,⟨by decide,by decide⟩,?_⟩
 refine ixT hp (v:=V.int w) rfl ?_
 walk_at "w"
 refine ⟨by omega,⟨by decide,by decide⟩,by decide,⟨by decide,by decide⟩,by decide,?_⟩
 have a0:=Int.emod_nonneg y (show h≠0 by omega)
 have a1:=Int.emod_nonneg (y / 6) (show w≠0 by omega)
 have a2:=Int.emod_nonneg (y / 36) (show (5:Int)≠0 by decide)
 have a3:=Int.emod_nonneg (y / 180) (show (5:Int)≠0 by decide)
 exact kQ hp F a0 a1 (by omega) (by omega) q
def bf (K:PySem.W.Frag):Sp:=fun vs H Q _=>∃ (p f:Addr) (h w g m o:Int) (fl:List Int),vs=[.ref p,.ref f,.int m,.int o]∧IsFl H p h w g∧FlOk h w g∧H f=some (.lst (fl.map V.int))∧fl.length=(h*w).toNat∧o≠m∧0≤o∧o≤6∧
 ∀ (H':Hp) (fs:List Int),(∀ b u,b≠f→H b=some u→H' b=some u)→H' f=some (.lst (fs.map V.int))→fs.length=(h*w).toNat→(∀ x∈fs,x∈fl∨x=o)→rf h w m fs→Q (.ref f) H'
theorem kR {K:PySem.W.Frag} {vs:List V} {H:Hp} {Q:VK} {E:XK} (h:bf K vs H Q E):vs.length=4:=by
 obtain ⟨_,_,_,_,_,_,_,_,rfl,_⟩:=h; rfl
def cj (K:PySem.W.Frag):TS:=
 (tSeq (tFor (cD (tCons (tCB kLen (tCons (tVar 1) tNil)) tNil)) (gName 4)
  (tSeq (tAsg (tCB je (tCons (tVar 4) (tCons (tOp cIx (tVar 0) (tC (.int 1))) tNil))) (gTup K 2 (gCons (gName 5) (gCons (gName 6) gNil))))
  (tIfS (tAnd (tTest (tOp (cCmp fun i j=>decide (i < j)) (tOp cAdd (tVar 5) (tC (.int 1))) (tOp cIx (tVar 0) (tC (.int 0))))) (tTest (tOp (cCmp fun i j=>decide (i < j)) (tOp cAdd (tVar 6) (tC (.int 1))) (tOp cIx (tVar 0) (tC (.int 1)))))) (tSeq (tAsg (tLst (tCons (tVar 4) (tCons (tOp cAdd (tVar 4) (tC (.int 1))) (tCons (tOp cAdd (tVar 4) (tOp cIx (tVar 0) (tC (.int 1)))) (tCons (tOp cAdd (tOp cAdd (tVar 4) (tOp cIx (tVar 0) (tC (.int 1)))) (tC (.int 1))) tNil))))) (gName 7))
  (tIfS (tTest (tOp (cEq K) (tComp [none,none,some 1,some 2] (iList K (tVar 7)) (gName 1) (tTest (tOp (cNe K) (tOp cIx (tVar 2) (tVar 1)) (tVar 3))) (tVar 1)) (tLst tNil))) (tAsg (tVar 3) (gSub (tVar 1) (tOp cIx (tVar 7) (tOp cMod (tOp cAdd (tVar 4) (tVar 3)) (tC (.int 4)))) cPut)) tNext)) tNext)))
  (tRet (tVar 1)))
theorem oC {ms:List Int} {i k:Nat} {x:Int} (hi:i < ms.length):(ms.set i x).getD k 0=if k=i then x else ms.getD k 0:=by
 rw [List.getD,List.getElem?_set]
 by_cases e:i=k
 · subst e
   rw [if_pos rfl,if_pos hi,if_pos rfl]; rfl
 · rw [if_neg e,if_neg (Ne.symm e)]; rfl
theorem kS {K:PySem.W.Frag} {vs:List V} {H:Hp} {Q:VK} {E:XK} (h:bf K vs H Q E):cj K { nx:=fun _ H'=>Q .non H',rt:=Q } (start ["_law_floor_here","_law_filling_here","_law_sign","_law_other","_law_k","_law_row","_law_column","_law_square"] vs) H:=by
 obtain ⟨p,f,h,w,g,m,o,fl,rfl,hp,F,hf,fll,om,o0,o6,q⟩:=h
 obtain ⟨h0,h1,w0,w1,m16,g0,g1⟩:=id F
 have npf:p≠f:=fun e=>by rw [e] at hp; unfold IsFl at hp; rw [hf] at hp; cases hp
 show cj K _ [some (.ref p),some (.ref f),some (.int m),some (.int o),none,none,none,none] H
 unfold cj
 walk_at "w"
 rw [cg hf,List.length_map]
 walk_at "w"
 refine ⟨(fl.length:Int),rfl,by omega,by omega,?_⟩
 refine cV (fun i σ H'=>∃ (v4 v5 v6 v7:Option V) (fs:List Int),σ=[some (.ref p),some (.ref f),some (.int m),some (.int o),v4,v5,v6,v7]∧(∀ b u,b≠f→H b=some u→H' b=some u)∧H' f=some (.lst (fs.map V.int))∧fs.length=(h*w).toNat∧(∀ x∈fs,x∈fl∨x=o)∧∀ j:Nat,j < i→cornB h w j=true→∃ c∈sqL w j,fs.getD c.toNat 0≠m)
  ⟨none,none,none,none,fl,rfl,fun _ _ _ e=>e,hf,fll,fun x hx=>.inl hx,fun j hj=>absurd hj (Nat.not_lt_zero _)⟩ ?_ ?_
 · rintro i σ H1 hi ⟨v4,v5,v6,v7,fs,rfl,s1,e1,fsl,fsm,br⟩
   have hil:i < (h*w).toNat:=by rw [Int.toNat_natCast] at hi; omega
   have hp1:IsFl H1 p h w g:=s1 _ _ npf hp
   rw [Int.zero_add]
   walk_at "w"
   refine ixT hp1 (v:=V.int w) rfl ?_
   walk_at "w"
   rw [mX]
   refine ⟨⟨by omega,by omega⟩,fun T hT=>?_⟩
   have s3:Same H1 (upd H1 T (.tup [.int ((i:Int) / w),.int ((i:Int) % w)])):=(Same.refl H1).laid hT
   have eT:(upd H1 T (.tup [.int ((i:Int) / w),.int ((i:Int) % w)])) T=some (.tup [.int ((i:Int) / w),.int ((i:Int) % w)]):=ag
   generalize upd H1 T (.tup [.int ((i:Int) / w),.int ((i:Int) % w)])=H3 at*
   refine lf eT rfl ?_
   rw [jk]
   have k3:∀ b u,b≠f→H b=some u→H3 b=some u:=fun b u nb e=>s3 _ _ (s1 b u nb e)
   have e3:=s3 _ _ e1
   show tIfS _ _ _ _ [some (.ref p),some (.ref f),some (.int m),some (.int o),some (.int (i:Int)),some (.int ((i:Int) / w)),some (.int ((i:Int) % w)),v7] H3
   have nxt:∀ (v7:Option V) (H':Hp) (fs2:List Int),(∀ b u,b≠f→H b=some u→H' b=some u)→H' f=some (.lst (fs2.map V.int))→fs2.length=(h*w).toNat→(∀ x∈fs2,x∈fl∨x=o)→(∀ j:Nat,j < i→cornB h w j=true→∃ c∈sqL w j,fs2.getD c.toNat 0≠m)→(cornB h w i=true→∃ c∈sqL w i,fs2.getD c.toNat 0≠m)→
     ∃ (v4 v5 v6 v7':Option V) (fs:List Int),[some (.ref p),some (.ref f),some (.int m),some (.int o),some (.int (i:Int)),some (.int ((i:Int) / w)),some (.int ((i:Int) % w)),v7]=[some (.ref p),some (.ref f),some (.int m),some (.int o),v4,v5,v6,v7']∧(∀ b u,b≠f→H b=some u→H' b=some u)∧H' f=some (.lst (fs.map V.int))∧fs.length=(h*w).toNat∧(∀ x∈fs,x∈fl∨x=o)∧∀ j:Nat,j < i+1→cornB h w j=true→∃ c∈sqL w j,fs.getD c.toNat 0≠m:=fun v7 H' fs2 a1 a2 a3 a4 a5 a6=>
    ⟨_,_,_,_,fs2,rfl,a1,a2,a3,a4,fun j hj hc=>by
     rcases Nat.lt_or_ge j i with hj2 | hj2
     · exact a5 j hj2 hc
     · have:j=i:=by omega
       subst this; exact a6 hc⟩
   rw [aH]
   walk_at "w"
   refine ixT (s3 _ _ hp1) (v:=V.int h) rfl ?_
   walk_at "w"
   have cb:cornB h w i=(decide ((i:Int) / w+1 < h)&&decide ((i:Int) % w+1 < w)):=by
    unfold cornB
    congr 1 <;> (rw [Bool.eq_iff_iff,decide_eq_true_eq,decide_eq_true_eq]; omega)
   cases b1:decide ((i:Int) / w+1 < h) with
   | false=>
    rw [b1,Bool.false_and] at cb
    walk_at "w"
    exact nxt _ _ fs k3 e3 fsl fsm br (fun hc=>by rw [cb] at hc; cases hc)
   | true=>
    rw [b1,Bool.true_and] at cb
    walk_at "w"
    refine ixT (s3 _ _ hp1) (v:=V.int w) rfl ?_
    walk_at "w"
    cases b2:decide ((i:Int) % w+1 < w) with
    | false=>
     rw [b2] at cb
     walk_at "w"
     exact nxt _ _ fs k3 e3 fsl fsm br (fun hc=>by rw [cb] at hc; cases hc)
    | true=>
     rw [b2] at cb
     walk_at "w"
     refine ixT (s3 _ _ hp1) (v:=V.int w) rfl ?_
     walk_at "w"
     refine ixT (s3 _ _ hp1) (v:=V.int w) rfl ?_
     walk_at "w"
     refine ⟨aF (by show (4:Nat)≤1000; decide),fun U hU=>?_⟩
     have s4:Same H3 (upd H3 U (.lst [V.int (i:Int),V.int ((i:Int)+1),V.int ((i:Int)+w),V.int ((i:Int)+w+1)])):=(Same.refl H3).laid hU
     have eU:(upd H3 U (.lst [V.int (i:Int),V.int ((i:Int)+1),V.int ((i:Int)+w),V.int ((i:Int)+w+1)])) U=some (.lst ((sqL w i).map V.int)):=ag
     generalize upd H3 U (.lst [V.int (i:Int),V.int ((i:Int)+1),V.int ((i:Int)+w),V.int ((i:Int)+w+1)])=H4 at*
     have k4:∀ b u,b≠f→H b=some u→H4 b=some u:=fun b u nb e=>s4 _ _ (k3 b u nb e)
     have e4:=s4 _ _ e3
     have sin:∀ x∈sqL w i,0≤x∧x < h*w:=fun x hx=>wq w0 (by omega) cb hx
     rw [aH]
     walk_at "w"
     refine ⟨⟨_,SqL.of eU⟩,?_⟩
     refine bX (xs:=sqL w i) (fun c=>!decide (fs.getD c.toNat 0=m)) (fun c=>c) (by show (4:Nat)≤900; decide) (SqL.of eU) ?_ ?_ ?_
     · intro y H5 R hy s5 k5
       show tTest _ [none,some (.int y),some (.ref f),some (.int m)] H5 R
       walk_at "w"
       refine ixI (s5 _ _ e4) (sin y hy).1 (by have:=(sin y hy).2; omega) ?_
       walk_at "w"
       exact k5 _ (Same.refl _)
     · intro y H5 Q5 hy hb s5 k5
       show tVar 1 [none,some (.int y),some (.ref f),some (.int m)] H5 Q5
       walk_at "w"
       exact k5 _ (Same.refl _)
     · intro C H5 hC s5 eC
       rw [List.map_id'] at eC
       walk_at "w"
       refine ⟨aF (by decide),fun O hO=>?_⟩
       have s6:Same H5 (upd H5 O (.lst [])):=(Same.refl H5).laid hO
       have eO:(upd H5 O (.lst [])) O=some (.lst (([]:List Int).map V.int)):=ag
       generalize upd H5 O (.lst [])=H6 at*
       have s56:=s5.trans s6
       have e6:=s56 _ _ e4
       have k6:∀ b u,b≠f→H b=some u→H6 b=some u:=fun b u nb e=>s56 _ _ (k4 b u nb e)
       refine tm (s6 _ _ eC) eO ?_
       by_cases c1:((sqL w i).filter fun c=>!decide (fs.getD c.toNat 0=m))=[]
       · rw [decide_eq_true c1]
         refine ⟨_,rfl,iteT ?_⟩
         walk_at "w"
         refine ⟨by decide,?_⟩
         have d0:=Int.emod_nonneg ((i:Int)+o) (show (4:Int)≠0 by decide)
         have d1:=Int.emod_lt_of_pos ((i:Int)+o) (show (0:Int) < 4 by decide)
         refine ixI (s56 _ _ eU) d0 (by show _ < (4:Int); omega) ?_
         have cm:(sqL w i).getD (((i:Int)+o) % 4).toNat 0∈sqL w i:=by
          rw [List.getD,List.getElem?_eq_getElem (by show _ < 4; omega)]; exact List.getElem_mem _
         generalize (sqL w i).getD (((i:Int)+o) % 4).toNat 0=c at*
         have cin:=sin c cm
         refine lX e6 cin.1 (by rw [List.length_map]; omega) ?_
         rw [dk]
         have ci:c.toNat < fs.length:=by omega
         refine nxt _ _ (fs.set c.toNat o) (fun b u nb e=>by rw [aj nb]; exact k6 b u nb e) ag (by rw [List.length_set]; exact fsl) (fun x hx=>?_) (fun j hj hc=>?_) (fun _=>⟨c,cm,by rw [oC ci,if_pos rfl]; exact om⟩)
         · rcases List.mem_or_eq_of_mem_set hx with hx | rfl
           · exact fsm x hx
           · exact .inr rfl
         · obtain ⟨e,he,ne⟩:=br j hj hc
           refine ⟨e,he,?_⟩
           rw [oC ci]
           split
           · exact om
           · exact ne
       · rw [decide_eq_false c1]
         refine ⟨_,rfl,iteF ?_⟩
         refine nxt _ _ fs k6 e6 fsl fsm br (fun _=>?_)
         obtain ⟨e,he⟩:=List.exists_mem_of_ne_nil _ c1
         obtain ⟨he,ne⟩:=List.mem_filter.mp he
         exact ⟨e,he,by simpa using ne⟩
 · rintro σ H1 ⟨v4,v5,v6,v7,fs,rfl,s1,e1,fsl,fsm,br⟩
   walk_at "w"
   rw [Int.toNat_natCast,fll] at br
   exact q H1 fs s1 e1 fsl fsm br
theorem pG {h w m:Int} {fs xs:List Int} (C:tV h w xs) (e:∀ c,0≤c→c < h*w→(fs.getD c.toNat 0=m↔c∈xs)):ox h w m fs:=fun a ha b hb=>by
 obtain ⟨a1,a2⟩:=sgC29_mem.mp ha
 obtain ⟨b1,b2⟩:=sgC29_mem.mp hb
 exact (C.c a ((e a a1.1 a1.2).mp a2) b ((e b b1.1 b1.2).mp b2)).less fun c hc=>sgC29_mem.mpr ⟨C.i c hc,(e c (C.i c hc).1 (C.i c hc).2).mpr hc⟩
theorem wf {h w g m:Int} {fs xs:List Int} (F:FlOk h w g) (B:l9 h w xs) (e:∀ c,0≤c→c < h*w→(fs.getD c.toNat 0=m↔c∈xs)):tU h w m fs:=fun a ha=>by
 obtain ⟨a1,a2⟩:=sgC29_mem.mp ha
 have t:=B.t a ((e a a1.1 a1.2).mp a2)
 have bin:=(ii F a1.1 a1.2).2
 rw [← t]
 refine congrArg List.length (List.filter_congr fun c hc=>?_)
 have ci:=bin c hc
 rw [Bool.eq_iff_iff,decide_eq_true_eq,decide_eq_true_eq]
 exact e c ci.1 ci.2
def bu (K:PySem.W.Frag):Sp:=fun vs H Q _=>∃ (a p:Addr) (ns:List Int) (h w g m:Int) (k:RK),vs=[.ref a,.ref p,.str (tx (nmC k)),.int m]∧SqL K H a (ns.map V.int)∧ns.length≤63∧IsFl H p h w g∧FlOk h w g∧2≤g∧1≤m∧m≤g∧(k=.Joined∨k=.NoSquare∨k=.Ring)∧
 ∀ (f:Addr) (H':Hp) (fl:List Int),Same H H'→H f=none→H' f=some (.lst (fl.map V.int))→fl.length=(h*w).toNat→(∀ x∈fl,1≤x∧x≤g)→oy h w m k fl→Q (.ref f) H'
theorem mr {K:PySem.W.Frag} {vs:List V} {H:Hp} {Q:VK} {E:XK} (h:bu K vs H Q E):vs.length=4:=by
 obtain ⟨_,_,_,_,_,_,_,_,rfl,_⟩:=h; rfl
def de (K:PySem.W.Frag):TS:=
 (tSeq (tFor (iList K (tVar 8)) (gName 9)
  (tAsg (tVar 3) (gSub (tVar 7) (tVar 9) cPut)))
  (tRet (tVar 7)))
def df (K:PySem.W.Frag):TS:=
 (tSeq (tAsg (tCall (bP K) [] E0 (tCons (tVar 0) (tCons (tVar 1) tNil))) (gName 8))
  (tSeq (tIfS (tTest (tOp (cEq K) (tVar 2) (tC (.str (tx [114,105,110,103]))))) (tAsg (tCall (bC K) [] E0 (tCons (tVar 0) (tCons (tVar 1) tNil))) (gName 8)) tNext)
  (de K)))
def dg (K:PySem.W.Frag):TS:=
 (tSeq (tIfS (tTest (tOp (cEq K) (tVar 2) (tC (.str (tx [110,111,115,113,117,97,114,101]))))) (tSeq (tFor (cD (tCons (tVar 4) tNil)) (gName 6)
  (tIfS (tTest (tOp (cCmp fun i j=>decide (j < i)) (tOp cMod (tOp cDiv (tCall (az K) [] E0 (tCons (tVar 0) (tCons (tOp cAdd (tC (.int 1)) (tVar 6)) tNil))) (tC (.int 6))) (tC (.int 4))) (tC (.int 0)))) (tAsg (tVar 3) (gSub (tVar 7) (tVar 6) cPut)) tNext))
  (tRet (tCall (bf K) [] E0 (tCons (tVar 1) (tCons (tVar 7) (tCons (tVar 3) (tCons (tOp cIx (tVar 5) (tC (.int 0))) tNil))))))) tNext)
  (df K))
def cH (K:PySem.W.Frag):TS:=
 (tSeq (tAsg (tOp cMul (tOp cIx (tVar 1) (tC (.int 0))) (tOp cIx (tVar 1) (tC (.int 1)))) (gName 4))
  (tSeq (tAsg (tComp [none,none,some 3] (np (tCons (tC (.int 1)) (tCons (tOp cAdd (tOp cIx (tVar 1) (tC (.int 2))) (tC (.int 1))) tNil))) (gName 1) (tTest (tOp (cNe K) (tVar 1) (tVar 2))) (tVar 1)) (gName 5))
  (tSeq (sComp 7 [none,none,some 5,some 0] (cD (tCons (tVar 4) tNil)) (gName 1) tTrue (tOp cIx (tVar 2) (tOp cMod (tCall (az K) [] E0 (tCons (tVar 3) (tCons (tOp cAdd (tC (.int 1)) (tVar 1)) tNil))) (tCB kLen (tCons (tVar 2) tNil)))))
  (dg K))))
theorem gr {K:PySem.W.Frag} {H:Hp} {Q:VK} {f S:Addr} {xs fl:List Int} {h w g m:Int} {v0 v1 v2 v4 v5 v6 v9:Option V} (eS:H S=some (.lst (xs.map V.int))) (ef:H f=some (.lst (fl.map V.int))) (nS:S≠f) (fll:fl.length=(h*w).toNat) (fm:∀ x∈fl,(1≤x∧x≤g)∧x≠m) (m0:1≤m) (m1:m≤g) (xi:∀ x∈xs,0≤x∧x < h*w)
  (q:∀ (H':Hp) (fs:List Int),(∀ b u,b≠f→H b=some u→H' b=some u)→H' f=some (.lst (fs.map V.int))→fs.length=(h*w).toNat→(∀ x∈fs,1≤x∧x≤g)→(∀ c,0≤c→c < h*w→(fs.getD c.toNat 0=m↔c∈xs))→Q (.ref f) H'):
  de K { nx:=fun _ H'=>Q .non H',rt:=Q } [v0,v1,v2,some (.int m),v4,v5,v6,some (.ref f),some (.ref S),v9] H:=by
 unfold de
 walk_at "w"
 refine ⟨⟨_,SqL.of eS⟩,?_⟩
 refine gA (K:=K) (xs:=xs.map V.int) (fun i σ H'=>∃ (v9:Option V) (fs:List Int),σ=[v0,v1,v2,some (.int m),v4,v5,v6,some (.ref f),some (.ref S),v9]∧(∀ b u,b≠f→H b=some u→H' b=some u)∧H' f=some (.lst (fs.map V.int))∧fs.length=(h*w).toNat∧(∀ x∈fs,1≤x∧x≤g)∧(∀ c,0≤c→c < h*w→(fs.getD c.toNat 0=m↔c∈xs.take i))) ⟨_,fl,rfl,fun _ _ _ e=>e,ef,fll,fun x hx=>(fm x hx).1,fun c c0 c1=>⟨fun e=>?_,fun e=>by cases e⟩⟩ (fun i σ H' _ ⟨_,_,_,s,_⟩=>SqL.of (s _ _ nS eS)) ?_ ?_
 · rw [List.getD,List.getElem?_eq_getElem (by omega)] at e
   exact absurd e (fm _ (List.getElem_mem _)).2
 · rintro i v σ H1 hv ⟨v9,fs,rfl,s1,e1,fsl,fsm,fsc⟩
   obtain ⟨x,hx,rfl⟩:=bY hv
   have xb:=xi x (List.mem_of_getElem? hx)
   walk_at "w"
   refine lX e1 xb.1 (by rw [List.length_map]; omega) ?_
   rw [dk]
   have ci:x.toNat < fs.length:=by omega
   refine ⟨_,fs.set x.toNat m,rfl,fun b u nb e=>by rw [aj nb]; exact s1 b u nb e,ag,by rw [List.length_set]; exact fsl,fun y hy=>?_,fun c c0 c1=>?_⟩
   · rcases List.mem_or_eq_of_mem_set hy with hy | rfl
     · exact fsm y hy
     · exact ⟨m0,m1⟩
   · rw [oC ci,List.take_add_one,hx,List.mem_append]
     by_cases ec:c.toNat=x.toNat
     · rw [if_pos ec]
       have:c=x:=by omega
       simp [this]
     · rw [if_neg ec,fsc c c0 c1]
       have:c≠x:=fun e=>ec (by rw [e])
       simp [this]
 · rintro σ H1 ⟨v9,fs,rfl,s1,e1,fsl,fsm,fsc⟩
   rw [List.length_map,List.take_length] at fsc
   walk_at "w"
   exact q H1 fs s1 e1 fsl fsm fsc
theorem vx (k:RK):decide (nmC k=[110,111,115,113,117,97,114,101])=decide (k=.NoSquare):=by cases k <;> decide
theorem vy (k:RK):decide (nmC k=[114,105,110,103])=decide (k=.Ring):=by cases k <;> decide
theorem i7 {H H1 H2:Hp} {f:Addr} (s:Same H H1) (hf:H f=none) (k:∀ b u,b≠f→H1 b=some u→H2 b=some u):Same H H2:=fun b u e=>k b u (fun e'=>by rw [e',hf] at e; cases e) (s b u e)
structure yp (H:Hp) (f Os:Addr) (h w g m:Int) (fl os:List Int):Prop where
 ff:H f=some (.lst (fl.map V.int))
 fll:fl.length=(h*w).toNat
 fm:∀ x∈fl,(1≤x∧x≤g)∧x≠m
 oo:H Os=some (.lst (os.map V.int))
 on:os≠[]
 om:∀ x∈os,(1≤x∧x≤g)∧x≠m
theorem kD {K:PySem.W.Frag} {H0 H:Hp} {Q:VK} {a p f Os:Addr} {ns fl os:List Int} {h w g m:Int} {k:RK} {v4 v6:Option V} (s0:Same H0 H) (hf0:H0 f=none) (hS:SqL K H a (ns.map V.int)) (hn:ns.length≤63) (hp:IsFl H p h w g) (F:FlOk h w g) (m0:1≤m) (m1:m≤g) (hk:k=.Joined∨k=.Ring) (X:yp H f Os h w g m fl os)
  (q:∀ (f:Addr) (H':Hp) (fl:List Int),Same H0 H'→H0 f=none→H' f=some (.lst (fl.map V.int))→fl.length=(h*w).toNat→(∀ x∈fl,1≤x∧x≤g)→oy h w m k fl→Q (.ref f) H'):
  df K { nx:=fun _ H'=>Q .non H',rt:=Q } [some (.ref a),some (.ref p),some (.str (tx (nmC k))),some (.int m),v4,some (.ref Os),v6,some (.ref f),none,none] H:=by
 unfold df
 walk_at "w"
 refine ⟨a,p,ns,h,w,g,rfl,hS,hn,hp,F,fun S xs H1 s1 hS1 eS C=>?_⟩
 have nS:S≠f:=fun e=>by rw [e,X.ff] at hS1; cases hS1
 walk_at "w"
 rw [aH]
 walk_at "w"
 rw [dU,vy]
 rcases hk with rfl | rfl
 · rw [decide_eq_false (show ¬ RK.Joined=RK.Ring by decide)]
   walk_at "w"
   exact gr eS (s1 _ _ X.ff) nS X.fll X.fm m0 m1 C.i fun H' fs k1 e1 l1 r1 c1=>q f H' fs (i7 (s0.trans s1) hf0 k1) hf0 e1 l1 r1 (pG C c1)
 · rw [decide_eq_true rfl]
   walk_at "w"
   refine ⟨a,p,ns,h,w,g,rfl,s1.seq hS,hn,s1 _ _ hp,F,fun S2 xs2 H2 s2 hS2 eS2 B=>?_⟩
   have nS2:S2≠f:=fun e=>by rw [e,s1 _ _ X.ff] at hS2; cases hS2
   have s12:=s1.trans s2
   walk_at "w"
   exact gr eS2 (s12 _ _ X.ff) nS2 X.fll X.fm m0 m1 B.C.i fun H' fs k1 e1 l1 r1 c1=>q f H' fs (i7 (s0.trans s12) hf0 k1) hf0 e1 l1 r1 ⟨pG B.C c1,wf F B c1⟩
theorem kE {K:PySem.W.Frag} {H0 H:Hp} {Q:VK} {a p f Os:Addr} {ns fl os:List Int} {h w g m:Int} {k:RK} {v6:Option V} (s0:Same H0 H) (hf0:H0 f=none) (hS:SqL K H0 a (ns.map V.int)) (hn:ns.length≤63) (hp:IsFl H p h w g) (F:FlOk h w g) (m0:1≤m) (m1:m≤g) (hk:k=.Joined∨k=.NoSquare∨k=.Ring) (X:yp H f Os h w g m fl os) (nO:Os≠f)
  (q:∀ (f:Addr) (H':Hp) (fl:List Int),Same H0 H'→H0 f=none→H' f=some (.lst (fl.map V.int))→fl.length=(h*w).toNat→(∀ x∈fl,1≤x∧x≤g)→oy h w m k fl→Q (.ref f) H'):
  dg K { nx:=fun _ H'=>Q .non H',rt:=Q } [some (.ref a),some (.ref p),some (.str (tx (nmC k))),some (.int m),some (.int (h*w)),some (.ref Os),v6,some (.ref f),none,none] H:=by
 obtain ⟨h0,h1,w0,w1,m16,g0,g1⟩:=id F
 have mpos:1≤h*w:=Int.le_trans (by omega) (Int.mul_le_mul h0 w0 (by omega) (by omega))
 have npf:p≠f:=fun e=>by have:=hp; rw [e] at this; unfold IsFl at this; rw [X.ff] at this; cases this
 unfold dg
 rw [aR,aH]
 walk_at "w"
 rw [dU,vx]
 by_cases hq:k=.NoSquare
 · subst hq
   rw [decide_eq_true rfl]
   walk_at "w"
   refine ⟨h*w,rfl,by omega,by omega,?_⟩
   refine cV (fun i σ H'=>∃ (v6:Option V) (fs:List Int),σ=[some (.ref a),some (.ref p),some (.str (tx (nmC .NoSquare))),some (.int m),some (.int (h*w)),some (.ref Os),v6,some (.ref f),none,none]∧(∀ b u,b≠f→H b=some u→H' b=some u)∧H' f=some (.lst (fs.map V.int))∧fs.length=(h*w).toNat∧(∀ x∈fs,1≤x∧x≤g)) ⟨_,fl,rfl,fun _ _ _ e=>e,X.ff,X.fll,fun x hx=>(X.fm x hx).1⟩ ?_ ?_
   · rintro i σ H1 hi ⟨v6,fs,rfl,s1,e1,fsl,fsm⟩
     have hil:i < (h*w).toNat:=hi
     rw [Int.zero_add]
     walk_at "w"
     rw [aH]
     walk_at "w"
     refine ⟨a,ns,_,rfl,(i7 s0 hf0 s1).seq hS,hn,by omega,by omega,?_⟩
     walk_at "w"
     refine ⟨⟨by decide,by decide⟩,by decide,?_⟩
     cases decide ((0:Int) < lawCA ns (1+(i:Int)) / 6 % 4) with
     | false=>
      refine iteF ?_
      exact ⟨_,fs,rfl,s1,e1,fsl,fsm⟩
     | true=>
      refine iteT ?_
      walk_at "w"
      refine lX e1 (by omega) (by rw [List.length_map]; omega) ?_
      rw [dk]
      refine ⟨_,fs.set _ m,rfl,fun b u nb e=>by rw [aj nb]; exact s1 b u nb e,ag,by rw [List.length_set]; exact fsl,fun y hy=>?_⟩
      rcases List.mem_or_eq_of_mem_set hy with hy | rfl
      · exact fsm y hy
      · exact ⟨m0,m1⟩
   · rintro σ H1 ⟨v6,fs,rfl,s1,e1,fsl,fsm⟩
     walk_at "w"
     have ol:0 < os.length:=List.length_pos_iff.mpr X.on
     have o1:os.getD 0 0∈os:=by rw [List.getD,List.getElem?_eq_getElem ol]; exact List.getElem_mem _
     refine ixI (s1 _ _ nO X.oo) (by decide) (by omega) ?_
     rw [show (0:Int).toNat=0 from rfl]
     generalize os.getD 0 0=o at*
     have ob:=X.om o o1
     walk_at "w"
     exact ⟨p,f,h,w,g,m,o,fs,rfl,s1 _ _ npf hp,F,e1,fsl,ob.2,by omega,by omega,fun H' fs2 k2 e2 l2 r2 c2=>q f H' fs2 (i7 s0 hf0 fun b u nb e=>k2 b u nb (s1 b u nb e)) hf0 e2 l2 (fun x hx=>by
      rcases r2 x hx with hx | rfl
      · exact fsm x hx
      · exact ob.1) c2⟩
 · rw [decide_eq_false hq]
   walk_at "w"
   exact kD s0 hf0 (s0.seq hS) hn hp F m0 m1 (by rcases hk with e | e | e; exact .inl e; exact absurd e hq; exact .inr e) X q
theorem mt {K:PySem.W.Frag} {vs:List V} {H:Hp} {Q:VK} {E:XK} (h:bu K vs H Q E):cH K { nx:=fun _ H'=>Q .non H',rt:=Q } (start ["_law_script","_law_floor_here","_law_word","_law_sign","_law_many","_law_others","_law_k","_law_filling_here","_law_some","_law_cell"] vs) H:=by
 obtain ⟨a,p,ns,h,w,g,m,k,rfl,hS,hn,hp,F,g2,m0,m1,hk,q⟩:=h
 obtain ⟨h0,h1,w0,w1,m16,g0,g1⟩:=id F
 have mpos:1≤h*w:=Int.le_trans (by omega) (Int.mul_le_mul h0 w0 (by omega) (by omega))
 show cH K _ [some (.ref a),some (.ref p),some (.str (tx (nmC k))),some (.int m),none,none,none,none,none,none] H
 unfold cH
 walk_at "w"
 refine ixT hp (v:=V.int h) rfl ?_
 walk_at "w"
 refine ixT hp (v:=V.int w) rfl ?_
 walk_at "w"
 refine ⟨dS h0 h1,?_⟩
 refine ixT hp (v:=V.int g) rfl ?_
 walk_at "w"
 refine ⟨1,g+1,rfl,⟨by omega,by omega,by omega,by omega⟩,?_⟩
 refine hV (fun i=>!decide (1+(i:Int)=m)) (fun i=>1+(i:Int)) (by omega) ?_ ?_ ?_
 · intro i H1 R hi s1 k1
   show tTest _ [none,some (.int (1+(i:Int))),some (.int m)] H1 R
   walk_at "w"
   exact k1 _ (Same.refl _)
 · intro i H1 Q1 hi _ s1 k1
   show tVar 1 [none,some (.int (1+(i:Int))),some (.int m)] H1 Q1
   walk_at "w"
   exact k1 _ (Same.refl _)
 · intro Os H1 hO s1 eO
   obtain ⟨os,eos⟩:∃ os:List Int,os=((List.range (g+1 - 1).toNat).filter fun (i:Nat)=>!decide (1+(i:Int)=m)).map fun (i:Nat)=>1+(i:Int):=⟨_,rfl⟩
   rw [← eos] at eO
   have om:∀ x∈os,(1≤x∧x≤g)∧x≠m:=fun x hx=>by
    rw [eos] at hx
    obtain ⟨i,hi,rfl⟩:=List.mem_map.mp hx
    obtain ⟨hi,hb⟩:=List.mem_filter.mp hi
    have:=List.mem_range.mp hi
    exact ⟨⟨by omega,by omega⟩,by simpa using hb⟩
   have on:os≠[]:=fun e=>by
    by_cases em:m=1
    · have:(2:Int)∈os:=by rw [eos]; exact List.mem_map.mpr ⟨1,List.mem_filter.mpr ⟨List.mem_range.mpr (by omega),by simp; omega⟩,rfl⟩
      rw [e] at this; cases this
    · have:(1:Int)∈os:=by rw [eos]; exact List.mem_map.mpr ⟨0,List.mem_filter.mpr ⟨List.mem_range.mpr (by omega),by simp; omega⟩,rfl⟩
      rw [e] at this; cases this
   have ol:0 < os.length:=List.length_pos_iff.mpr on
   have ol6:os.length≤6:=by
    rw [eos,List.length_map]
    refine Nat.le_trans (List.length_filter_le _ _) ?_
    rw [List.length_range]; omega
   clear eos
   walk_at "w"
   refine ⟨h*w,rfl,by omega,by omega,?_⟩
   refine hV (fun _=>true) (fun i=>os.getD (lawCA ns (1+(i:Int)) % (os.length:Int)).toNat 0) (by omega) ?_ ?_ ?_
   · intro i H2 R hi s2 k2
     exact k2 _ (Same.refl _)
   · intro i H2 Q2 hi _ s2 k2
     have hil:i < (h*w).toNat:=hi
     rw [Int.zero_add]
     show tOp cIx _ _ [none,some (.int (i:Int)),some (.ref Os),some (.ref a)] H2 Q2
     walk_at "w"
     refine ⟨a,ns,_,rfl,(s1.trans s2).seq hS,hn,by omega,by omega,?_⟩
     walk_at "w"
     rw [cg (s2 _ _ eO),List.length_map]
     walk_at "w"
     refine ⟨by omega,?_⟩
     have d0:=Int.emod_nonneg (lawCA ns (1+(i:Int))) (show (os.length:Int)≠0 by omega)
     have d1:=Int.emod_lt_of_pos (lawCA ns (1+(i:Int))) (show (0:Int) < os.length by omega)
     refine ixI (s2 _ _ eO) d0 d1 ?_
     exact k2 _ (Same.refl _)
   · intro f H2 hf s2 ef
     rw [List.filter_eq_self.mpr fun _ _=>rfl] at ef
     have fll:((List.range (h*w).toNat).map fun (i:Nat)=>os.getD (lawCA ns (1+(i:Int)) % (os.length:Int)).toNat 0).length=(h*w).toNat:=by rw [List.length_map,List.length_range]
     have fm:∀ x∈(List.range (h*w).toNat).map fun (i:Nat)=>os.getD (lawCA ns (1+(i:Int)) % (os.length:Int)).toNat 0,(1≤x∧x≤g)∧x≠m:=fun x hx=>by
      obtain ⟨i,hi,rfl⟩:=List.mem_map.mp hx
      have d0:=Int.emod_nonneg (lawCA ns (1+(i:Int))) (show (os.length:Int)≠0 by omega)
      have d1:=Int.emod_lt_of_pos (lawCA ns (1+(i:Int))) (show (0:Int) < os.length by omega)
      refine om _ ?_
      rw [List.getD,List.getElem?_eq_getElem (by omega)]; exact List.getElem_mem _
     have nO:Os≠f:=fun e=>by rw [e] at eO; rw [eO] at hf; cases hf
     exact kE (s1.trans s2) (s1.free hf) hS hn ((s1.trans s2) _ _ hp) F m0 m1 hk ⟨ef,fll,fm,s2 _ _ eO,on,om⟩ nO q
def bQ (K:PySem.W.Frag):Sp:=fun vs H Q _=>∃ (a p A:Addr) (ns masks:List Int) (h w g z m k:Int),vs=[.ref a,.ref p,.ref A,.int z,.int m,.int k]∧SqL K H a (ns.map V.int)∧ns.length≤63∧IsFl H p h w g∧FlOk h w g∧H A=some (.lst (masks.map V.int))∧masks.length=(h*w).toNat∧(∀ x∈masks,0≤x∧x < 64)∧0≤z∧z < h*w∧1≤m∧m≤g∧0≤k∧k≤1000∧
 ∀ (l:Addr) (as:List Addr) (xss:List (List Int)) (H':Hp),Same H H'→IsLL H' l as xss→xss.length=5→(∀ xs∈xss,xs.length≤2)→Q (.ref l) H'
theorem oE {K:PySem.W.Frag} {vs:List V} {H:Hp} {Q:VK} {E:XK} (h:bQ K vs H Q E):vs.length=6:=by
 obtain ⟨_,_,_,_,_,_,_,_,_,_,_,rfl,_⟩:=h; rfl
def dZ (K:PySem.W.Frag):TS:=
 (tRet (tLst (tCons (tLst (tCons (tVar 7) tNil)) (tCons (tLst (tCons (tVar 7) (tCons (tVar 11) tNil))) (tCons (tLst (tCons (tVar 12) tNil)) (tCons (tLst tNil) (tCons (tLst (tCons (tOp cIx (tVar 9) (tOp cMod (tOp cDiv (tVar 10) (tC (.int 1024))) (tCB kLen (tCons (tVar 9) tNil)))) tNil)) tNil)))))))
def d3 (K:PySem.W.Frag):TS:=
 (tSeq (tAsg (tOp cSub (tVar 3) (tOp cIx (tLst (tCons (tC (.int 0)) (tCons (tC (.int 1)) (tCons (tOp cIx (tVar 1) (tC (.int 1))) (tCons (tOp cAdd (tOp cIx (tVar 1) (tC (.int 1))) (tC (.int 1))) tNil))))) (tOp cMod (tOp cDiv (tVar 10) (tC (.int 256))) (tC (.int 4))))) (gName 12))
  (dZ K))
def d4 (K:PySem.W.Frag):TS:=
 (tSeq (tAsg (tOp cIx (tVar 8) (tOp cMod (tVar 10) (tCB kLen (tCons (tVar 8) tNil)))) (gName 7))
  (tSeq (tAsg (tOp cIx (tVar 8) (tOp cMod (tOp cDiv (tVar 10) (tC (.int 16))) (tCB kLen (tCons (tVar 8) tNil)))) (gName 11))
  (d3 K)))
def dM (K:PySem.W.Frag):TS:=
 (tSeq (tAsg (tOp cMul (tOp cIx (tVar 1) (tC (.int 0))) (tOp cIx (tVar 1) (tC (.int 1)))) (gName 6))
  (tSeq (tAsg (tOp cAdd (tComp [none,none,some 3,some 2,some 4] (cD (tCons (tVar 6) tNil)) (gName 1) (tAnd (tTest (tOp (cNe K) (tVar 1) (tVar 2))) (tB (tCall (cS K) [] E0 (tCons (tOp cIx (tVar 3) (tVar 1)) (tCons (tVar 4) tNil))))) (tVar 1)) (tLst (tCons (tC (.int 0)) tNil))) (gName 8))
  (tSeq (tAsg (tOp cAdd (tCall (bI K) [] E0 (tCons (tVar 1) (tCons (tVar 3) tNil))) (tLst (tCons (tC (.int 0)) tNil))) (gName 9))
  (tSeq (tAsg (tCall (az K) [] E0 (tCons (tVar 0) (tCons (tVar 5) tNil))) (gName 10))
  (d4 K)))))
theorem tY {y:Int} {xs:List Int} (h:0 < xs.length):0≤y % (xs.length:Int)∧y % (xs.length:Int) < xs.length:=⟨Int.emod_nonneg _ (by omega),Int.emod_lt_of_pos _ (by omega)⟩
theorem lz {K:PySem.W.Frag} {H:Hp} {Q:VK} {N:Addr} {nb:List Int} {o1 o2 co y:Int} {v0 v1 v2 v3 v4 v5 v6 v8:Option V} (eN:H N=some (.lst (nb.map V.int))) (nn:0 < nb.length)
  (q:∀ (l:Addr) (as:List Addr) (xss:List (List Int)) (H':Hp),Same H H'→IsLL H' l as xss→xss.length=5→(∀ xs∈xss,xs.length≤2)→Q (.ref l) H'):
  dZ K { nx:=fun _ H'=>Q .non H',rt:=Q } [v0,v1,v2,v3,v4,v5,v6,some (.int o1),v8,some (.ref N),some (.int y),some (.int o2),some (.int co)] H:=by
 unfold dZ
 walk_at "w"
 refine ⟨aF (by show (1:Nat)≤1000; decide),fun a1 i1=>?_⟩
 have s1:Same H (upd H a1 (.lst [V.int o1])):=(Same.refl H).laid i1
 have e1:(upd H a1 (.lst [V.int o1])) a1=some (.lst (([o1]:List Int).map V.int)):=ag
 generalize upd H a1 (.lst [V.int o1])=H1 at*
 refine ⟨aF (by show (2:Nat)≤1000; decide),fun a2 i2=>?_⟩
 have s2:Same H1 (upd H1 a2 (.lst [V.int o1,V.int o2])):=(Same.refl H1).laid i2
 have e2:(upd H1 a2 (.lst [V.int o1,V.int o2])) a2=some (.lst (([o1,o2]:List Int).map V.int)):=ag
 generalize upd H1 a2 (.lst [V.int o1,V.int o2])=H2 at*
 refine ⟨aF (by show (1:Nat)≤1000; decide),fun a3 i3=>?_⟩
 have s3:Same H2 (upd H2 a3 (.lst [V.int co])):=(Same.refl H2).laid i3
 have e3:(upd H2 a3 (.lst [V.int co])) a3=some (.lst (([co]:List Int).map V.int)):=ag
 generalize upd H2 a3 (.lst [V.int co])=H3 at*
 refine ⟨aF (by decide),fun a4 i4=>?_⟩
 have s4:Same H3 (upd H3 a4 (.lst [])):=(Same.refl H3).laid i4
 have e4:(upd H3 a4 (.lst [])) a4=some (.lst (([]:List Int).map V.int)):=ag
 generalize upd H3 a4 (.lst [])=H4 at*
 have s14:=((s1.trans s2).trans s3).trans s4
 refine ⟨⟨by decide,by decide⟩,?_⟩
 rw [cg (s14 _ _ eN),List.length_map]
 walk_at "w"
 have d:=tY (y:=y / 1024) nn
 refine ⟨by omega,?_⟩
 refine ixI (s14 _ _ eN) d.1 d.2 ?_
 generalize nb.getD (y / 1024 % (nb.length:Int)).toNat 0=o3 at*
 walk_at "w"
 refine ⟨aF (by show (1:Nat)≤1000; decide),fun a5 i5=>?_⟩
 have s5:Same H4 (upd H4 a5 (.lst [V.int o3])):=(Same.refl H4).laid i5
 have e5:(upd H4 a5 (.lst [V.int o3])) a5=some (.lst (([o3]:List Int).map V.int)):=ag
 generalize upd H4 a5 (.lst [V.int o3])=H5 at*
 refine ⟨aF (by show (5:Nat)≤1000; decide),fun l il=>?_⟩
 have s6:Same H5 (upd H5 l (.lst [V.ref a1,V.ref a2,V.ref a3,V.ref a4,V.ref a5])):=(Same.refl H5).laid il
 refine q l [a1,a2,a3,a4,a5] [[o1],[o1,o2],[co],[],[o3]] _ ((s14.trans s5).trans s6) ⟨ag,rfl,fun j b xs hb hx=>?_⟩ rfl (fun xs hx=>?_)
 · match j,hb,hx with
   | 0,hb,hx=>cases hb; cases hx; exact s6 _ _ (s5 _ _ (s4 _ _ (s3 _ _ (s2 _ _ e1))))
   | 1,hb,hx=>cases hb; cases hx; exact s6 _ _ (s5 _ _ (s4 _ _ (s3 _ _ e2)))
   | 2,hb,hx=>cases hb; cases hx; exact s6 _ _ (s5 _ _ (s4 _ _ e3))
   | 3,hb,hx=>cases hb; cases hx; exact s6 _ _ (s5 _ _ e4)
   | 4,hb,hx=>cases hb; cases hx; exact s6 _ _ e5
   | n+5,hb,_=>cases hb
 · simp only [List.mem_cons,List.not_mem_nil,or_false] at hx
   rcases hx with rfl | rfl | rfl | rfl | rfl <;> simp
theorem lA {K:PySem.W.Frag} {H:Hp} {Q:VK} {p N:Addr} {nb:List Int} {h w g o1 o2 z y:Int} {v0 v2 v4 v5 v6 v8:Option V} (hp:IsFl H p h w g) (F:FlOk h w g) (eN:H N=some (.lst (nb.map V.int))) (nn:0 < nb.length)
  (q:∀ (l:Addr) (as:List Addr) (xss:List (List Int)) (H':Hp),Same H H'→IsLL H' l as xss→xss.length=5→(∀ xs∈xss,xs.length≤2)→Q (.ref l) H'):
  d3 K { nx:=fun _ H'=>Q .non H',rt:=Q } [v0,some (.ref p),v2,some (.int z),v4,v5,v6,some (.int o1),v8,some (.ref N),some (.int y),some (.int o2),none] H:=by
 unfold d3
 walk_at "w"
 refine ixT hp (v:=V.int w) rfl ?_
 walk_at "w"
 refine ixT hp (v:=V.int w) rfl ?_
 walk_at "w"
 refine ⟨aF (by show (4:Nat)≤1000; decide),fun B iB=>?_⟩
 have s1:Same H (upd H B (.lst [V.int 0,V.int 1,V.int w,V.int (w+1)])):=(Same.refl H).laid iB
 have eB:(upd H B (.lst [V.int 0,V.int 1,V.int w,V.int (w+1)])) B=some (.lst (([0,1,w,w+1]:List Int).map V.int)):=ag
 generalize upd H B (.lst [V.int 0,V.int 1,V.int w,V.int (w+1)])=H1 at*
 refine ⟨⟨by decide,by decide⟩,by decide,?_⟩
 have d0:=Int.emod_nonneg (y / 256) (show (4:Int)≠0 by decide)
 have d1:=Int.emod_lt_of_pos (y / 256) (show (0:Int) < 4 by decide)
 refine ixI eB d0 (by show _ < (4:Int); omega) ?_
 walk_at "w"
 exact lz (s1 _ _ eN) nn fun l as xss H' s=>q l as xss H' (s1.trans s)
theorem lB {K:PySem.W.Frag} {H:Hp} {Q:VK} {p M N:Addr} {mu nb:List Int} {h w g z y:Int} {v0 v2 v4 v5 v6 v7:Option V} (hp:IsFl H p h w g) (F:FlOk h w g) (eM:H M=some (.lst (mu.map V.int))) (mn:0 < mu.length) (eN:H N=some (.lst (nb.map V.int))) (nn:0 < nb.length)
  (q:∀ (l:Addr) (as:List Addr) (xss:List (List Int)) (H':Hp),Same H H'→IsLL H' l as xss→xss.length=5→(∀ xs∈xss,xs.length≤2)→Q (.ref l) H'):
  d4 K { nx:=fun _ H'=>Q .non H',rt:=Q } [v0,some (.ref p),v2,some (.int z),v4,v5,v6,v7,some (.ref M),some (.ref N),some (.int y),none,none] H:=by
 unfold d4
 walk_at "w"
 rw [cg eM,List.length_map]
 walk_at "w"
 have d:=tY (y:=y) mn
 refine ⟨by omega,?_⟩
 refine ixI eM d.1 d.2 ?_
 walk_at "w"
 refine ⟨⟨by decide,by decide⟩,?_⟩
 rw [cg eM,List.length_map]
 walk_at "w"
 have d2:=tY (y:=y / 16) mn
 refine ⟨by omega,?_⟩
 refine ixI eM d2.1 d2.2 ?_
 walk_at "w"
 exact lA hp F eN nn q
theorem oF {K:PySem.W.Frag} {vs:List V} {H:Hp} {Q:VK} {E:XK} (h:bQ K vs H Q E):dM K { nx:=fun _ H'=>Q .non H',rt:=Q } (start ["_law_script","_law_floor_here","_law_masks_here","_law_cell","_law_sign","_law_at","_law_many","_law_one","_law_must","_law_near_here","_law_number","_law_other","_law_corner"] vs) H:=by
 obtain ⟨a,p,A,ns,masks,h,w,g,z,m,k,rfl,hS,hn,hp,F,hA,ml,mm,z0,z1,m0,m1,k0,k1,q⟩:=h
 obtain ⟨h0,h1,w0,w1,m16,g0,g1⟩:=id F
 have mpos:1≤h*w:=Int.le_trans (by omega) (Int.mul_le_mul h0 w0 (by omega) (by omega))
 show dM K _ [some (.ref a),some (.ref p),some (.ref A),some (.int z),some (.int m),some (.int k),none,none,none,none,none,none,none] H
 unfold dM
 walk_at "w"
 refine ixT hp (v:=V.int h) rfl ?_
 walk_at "w"
 refine ixT hp (v:=V.int w) rfl ?_
 walk_at "w"
 refine ⟨dS h0 h1,h*w,rfl,by omega,by omega,?_⟩
 refine hV (fun i=>!decide ((i:Int)=z)&&decide (woI (masks.getD i 0) m=0)) (fun i=>(i:Int)) (by omega) ?_ ?_ ?_
 · intro i H1 R hi s1 k1
   have hil:i < (h*w).toNat:=hi
   rw [Int.zero_add]
   show tAnd _ _ [none,some (.int (i:Int)),some (.int z),some (.ref A),some (.int m)] H1 R
   walk_at "w"
   cases b1:decide ((i:Int)=z) with
   | true=>
    rw [b1] at k1
    walk_at "w"
    exact k1 _ (Same.refl _)
   | false=>
    rw [b1,Bool.not_false,Bool.true_and] at k1
    walk_at "w"
    refine ixI (s1 _ _ hA) (by omega) (by omega) ?_
    rw [Int.toNat_natCast]
    have mi:0≤masks.getD i 0∧masks.getD i 0 < 64:=by
     rw [List.getD,List.getElem?_eq_getElem (by omega)]; exact mm _ (List.getElem_mem _)
    walk_at "w"
    exact ⟨_,m,rfl,mi.1,mi.2,m0,by omega,_,rfl,k1 _ (Same.refl _)⟩
 · intro i H1 Q1 hi _ s1 k1
   rw [Int.zero_add]
   show tVar 1 [none,some (.int (i:Int)),some (.int z),some (.ref A),some (.int m)] H1 Q1
   walk_at "w"
   exact k1 _ (Same.refl _)
 · intro C H1 hC s1 eC
   have cl:(((List.range (h*w).toNat).filter fun (i:Nat)=>!decide ((i:Int)=z)&&decide (woI (masks.getD i 0) m=0)).map fun (i:Nat)=>(i:Int)).length≤16:=by
    rw [List.length_map]
    refine Nat.le_trans (List.length_filter_le _ _) ?_
    rw [List.length_range]; omega
   generalize (((List.range (h*w).toNat).filter fun (i:Nat)=>!decide ((i:Int)=z)&&decide (woI (masks.getD i 0) m=0)).map fun (i:Nat)=>(i:Int))=mu at*
   walk_at "w"
   refine ⟨aF (by show (1:Nat)≤1000; decide),fun Z iZ=>?_⟩
   have s2:Same H1 (upd H1 Z (.lst [V.int 0])):=(Same.refl H1).laid iZ
   have eZ:(upd H1 Z (.lst [V.int 0])) Z=some (.lst [V.int 0]):=ag
   generalize upd H1 Z (.lst [V.int 0])=H2 at*
   refine nK (s2 _ _ eC) eZ (by rw [List.length_map]; simp; omega) fun M iM=>?_
   have s3:Same H2 (upd H2 M (.lst (mu.map V.int++[V.int 0]))):=(Same.refl H2).laid iM
   have eM:(upd H2 M (.lst (mu.map V.int++[V.int 0]))) M=some (.lst ((mu++[0]).map V.int)):=by rw [ag,List.map_append]; rfl
   generalize upd H2 M (.lst (mu.map V.int++[V.int 0]))=H3 at*
   have s13:=(s1.trans s2).trans s3
   walk_at "w"
   refine ⟨p,h,w,g,z,rfl,s13 _ _ hp,F,fun l H4 s4 hl el=>?_⟩
   rw [(ii F z0 z1).1] at el
   have bl:=ky h w z
   walk_at "w"
   refine ⟨aF (by show (1:Nat)≤1000; decide),fun Z2 iZ2=>?_⟩
   have s5:Same H4 (upd H4 Z2 (.lst [V.int 0])):=(Same.refl H4).laid iZ2
   have eZ2:(upd H4 Z2 (.lst [V.int 0])) Z2=some (.lst [V.int 0]):=ag
   generalize upd H4 Z2 (.lst [V.int 0])=H5 at*
   refine nK (s5 _ _ el) eZ2 (by rw [List.length_map]; simp; omega) fun N iN=>?_
   have s6:Same H5 (upd H5 N (.lst ((besL h w z).map V.int++[V.int 0]))):=(Same.refl H5).laid iN
   have eN:(upd H5 N (.lst ((besL h w z).map V.int++[V.int 0]))) N=some (.lst ((besL h w z++[0]).map V.int)):=by rw [ag,List.map_append]; rfl
   generalize upd H5 N (.lst ((besL h w z).map V.int++[V.int 0]))=H6 at*
   have s46:=(s4.trans s5).trans s6
   have s16:=s13.trans s46
   walk_at "w"
   refine ⟨a,ns,k,rfl,s16.seq hS,hn,k0,by omega,?_⟩
   exact lB (s16 _ _ hp) F (s46 _ _ eM) (by simp) eN (by simp) fun l as xss H' s=>q l as xss H' (s16.trans s)
def bR (K:PySem.W.Frag) (c:RCl RK) (d:RCl PzK):Sp:=fun vs H Q _=>∃ (P L G A f T M:Addr) (h w g m:Int) (k:RK) (cl masks fl:List Int) (t:TK) (z s:Int) (ms:List Int),vs=[.ref P,.ref A,.ref f,.ref T]∧Asks H c d P L G A T M h w g [eu k h w m] cl masks t 0 z s ms∧pb t∧H f=some (.lst (fl.map V.int))∧Ans29 h w g m k masks fl∧∀ H',Same H H'→Q (.bl true) H'
theorem oG {K:PySem.W.Frag} {c:RCl RK} {d:RCl PzK} {vs:List V} {H:Hp} {Q:VK} {E:XK} (h:bR K c d vs H Q E):vs.length=4:=by
 obtain ⟨_,_,_,_,_,_,_,_,_,_,_,_,_,_,_,_,_,_,_,rfl,_⟩:=h; rfl
def dN (K:PySem.W.Frag) (c:RCl RK) (d:RCl PzK):TS:=
 (tRet (tOrV (tNotV (tCall (cU K c d) [] E0 (tCons (tVar 0) (tCons (tVar 1) (tCons (tVar 3) tNil))))) (tOp (cNe K) (tOp cIx (tVar 2) (tOp cIx (tVar 3) (tC (.int 2)))) (tOp cIx (tVar 3) (tC (.int 3))))))
theorem oH {K:PySem.W.Frag} {c:RCl RK} {d:RCl PzK} {vs:List V} {H:Hp} {Q:VK} {E:XK} (h:bR K c d vs H Q E):dN K c d { nx:=fun _ H'=>Q .non H',rt:=Q } (start ["_law_puzzle","_law_masks_here","_law_filling_here","_law_thought"] vs) H:=by
 obtain ⟨P,L,G,A,f,T,M,h,w,g,m,k,cl,masks,fl,t,z,s,ms,rfl,X,ht,hf,N,q⟩:=h
 show dN K c d _ [some (.ref P),some (.ref A),some (.ref f),some (.ref T)] H
 unfold dN
 walk_at "w"
 refine ⟨P,L,G,A,T,M,h,w,g,_,cl,masks,t,0,z,s,ms,rfl,X,ht,fun H1 s1=>?_⟩
 cases hb:ly h w g [eu k h w m] masks t 0 z s ms with
 | false=>
  refine ⟨false,rfl,?_⟩
  walk_at "w"
  exact q _ s1
 | true=>
  have so:=xf N ht hb
  have fll:=N.fll
  refine ⟨true,rfl,?_⟩
  walk_at "w"
  refine ixT (s1 _ _ X.T.T) (v:=V.int z) rfl ?_
  walk_at "w"
  refine ixI (s1 _ _ hf) so.1.1 (by omega) ?_
  walk_at "w"
  refine ixT (s1 _ _ X.T.T) (v:=V.int s) rfl ?_
  walk_at "w"
  rw [decide_eq_false so.2]
  exact q _ s1
theorem xj {H:Hp} {l:Addr} {t:TK} {r z s:Int} {ms:List Int} {T:Addr} (hl:H l=some (.lst (ms.map V.int))) (hn:ms.length≤100) (hT:H T=none):IsTh (upd H T (.tup [.str (tx (tkC t)),.int r,.int z,.int s,.ref l])) T l t r z s ms:=⟨ag,by rw [aj (aA hl hT)]; exact hl,hn⟩
def rk (K:PySem.W.Frag) (c:RCl RK) (d:RCl PzK):Sp:=fun vs H Q _=>∃ (a:Addr) (ns:List Int),vs=[.ref a]∧SqL K H a (ns.map V.int)∧ns.length≤63∧(∀ k,k≠.Rule→c.ok k=true)∧d.ok .Puzzle=true∧∀ H',Q (.bl true) H'
def pc (K:PySem.W.Frag):Sp:=fun vs H Q _=>∃ (a:Addr) (ns:List Int),vs=[.ref a]∧SqL K H a (ns.map V.int)∧ns.length≤63∧∀ H',Q (.bl true) H'
theorem yq {K:PySem.W.Frag} {c:RCl RK} {d:RCl PzK} {vs:List V} {H:Hp} {Q:VK} {E:XK} (h:rk K c d vs H Q E):vs.length=1:=by
 obtain ⟨_,_,rfl,_⟩:=h; rfl
def wg (K:PySem.W.Frag) (c:RCl RK) (d:RCl PzK):TS:=
 (tFor (iZip K (tCons (tLst (tCons (tC (.str (tx [114,101,97,99,104]))) (tCons (tC (.str (tx [114,101,97,99,104]))) (tCons (tC (.str (tx [115,113,117,97,114,101]))) (tCons (tC (.str (tx [116,117,114,110]))) (tCons (tC (.str (tx [116,117,114,110]))) tNil)))))) (tCons (tVar 12) tNil))) (gTup K 2 (gCons (gName 13) (gCons (gName 14) gNil)))
  (tIfS (tNot (tB (tCall (bR K c d) [] E0 (tCons (tVar 9) (tCons (tVar 7) (tCons (tVar 6) (tCons (tTup (tCons (tVar 13) (tCons (tC (.int 0)) (tCons (tVar 10) (tCons (tVar 11) (tCons (tVar 14) tNil)))))) tNil))))))) (tRet (tC (.bl false))) tNext))
def tZ (K:PySem.W.Frag) (c:RCl RK) (d:RCl PzK):TS:=
 (tFor (iList K (tLst (tCons (tVar 5) (tCons (tOp cAdd (tC (.int 1)) (tOp cMod (tCall (az K) [] E0 (tCons (tVar 0) (tCons (tOp cAdd (tC (.int 131)) (tOp cMul (tC (.int 2)) (tVar 8))) tNil))) (tOp cIx (tVar 1) (tC (.int 2))))) tNil)))) (gName 11)
  (tSeq (tAsg (tCall (bQ K) [] E0 (tCons (tVar 0) (tCons (tVar 1) (tCons (tVar 7) (tCons (tVar 10) (tCons (tVar 5) (tCons (tOp cAdd (tC (.int 150)) (tVar 8)) tNil))))))) (gName 12))
  (wg K c d)))
def kF (K:PySem.W.Frag) (c:RCl RK) (d:RCl PzK):TS:=
 (tSeq (tFor (cD (tCons (tC (.int 8)) tNil)) (gName 8)
  (tSeq (tAsg (tOp cMod (tCall (az K) [] E0 (tCons (tVar 0) (tCons (tOp cAdd (tC (.int 130)) (tOp cMul (tC (.int 2)) (tVar 8))) tNil))) (tVar 2)) (gName 10))
  (tZ K c d)))
  (tRet (tC (.bl true))))
def lC (K:PySem.W.Frag) (c:RCl RK) (d:RCl PzK):TS:=
 (tSeq (tAsg (tMake (d.A .Puzzle) (aV K c d) [] E0 (tCons (tVar 1) (tCons (tLst (tCons (tOp cAdd (tOp cAdd (tVar 4) (tC (.str (tx [32])))) (tCB kStr (tCons (tVar 5) tNil))) tNil)) (tCons (tComp [none,none] (cD (tCons (tVar 2) tNil)) (gName 1) tTrue (tC (.int 0))) tNil)))) (gName 9))
  (kF K c d))
def lD (K:PySem.W.Frag) (c:RCl RK) (d:RCl PzK):TS:=
 (tSeq (tAsg (tCall (bN K) [] E0 (tCons (tVar 0) (tCons (tC (.int 90)) (tCons (tVar 2) (tCons (tOp cIx (tVar 1) (tC (.int 2))) tNil))))) (gName 7))
  (tSeq (tFor (cD (tCons (tVar 2) tNil)) (gName 8)
  (tSeq (tAsg (tOp cOr (tOp cIx (tVar 7) (tVar 8)) (tOp cShl (tC (.int 1)) (tOp cSub (tOp cIx (tVar 6) (tVar 8)) (tC (.int 1))))) (gSub (tVar 7) (tVar 8) cPut))
  (tIfS (tTest (tOp (cCmp fun i j=>decide (j < i)) (tOp cMod (tCall (az K) [] E0 (tCons (tVar 0) (tCons (tOp cAdd (tC (.int 110)) (tVar 8)) tNil))) (tC (.int 5))) (tC (.int 1)))) (tAsg (tOp cShl (tC (.int 1)) (tOp cSub (tOp cIx (tVar 6) (tVar 8)) (tC (.int 1)))) (gSub (tVar 7) (tVar 8) cPut)) tNext)))
  (lC K c d)))
def pH (K:PySem.W.Frag) (c:RCl RK) (d:RCl PzK):TS:=
 (tSeq (tAsg (tCall (bu K) [] E0 (tCons (tVar 0) (tCons (tVar 1) (tCons (tVar 4) (tCons (tVar 5) tNil))))) (gName 6))
  (lD K c d))
def lE (K:PySem.W.Frag) (c:RCl RK) (d:RCl PzK):TS:=
 (tSeq (tAsg (tOp cDiv (tCall (az K) [] E0 (tCons (tVar 0) (tCons (tC (.int 0)) tNil))) (tC (.int 300))) (gName 3))
  (tSeq (tAsg (tOp cIx (tLst (tCons (tC (.str (tx [106,111,105,110,101,100]))) (tCons (tC (.str (tx [110,111,115,113,117,97,114,101]))) (tCons (tC (.str (tx [114,105,110,103]))) tNil)))) (tOp cMod (tVar 3) (tC (.int 3)))) (gName 4))
  (tSeq (tAsg (tOp cAdd (tC (.int 1)) (tOp cMod (tOp cDiv (tVar 3) (tC (.int 3))) (tOp cIx (tVar 1) (tC (.int 2))))) (gName 5))
  (pH K c d))))
def oI (K:PySem.W.Frag) (c:RCl RK) (d:RCl PzK):TS:=
 (tSeq (tAsg (tCall (bM K) [] E0 (tCons (tCall (az K) [] E0 (tCons (tVar 0) (tCons (tC (.int 0)) tNil))) tNil)) (gName 1))
  (tSeq (tAsg (tTup (tCons (tOp cIx (tVar 1) (tC (.int 0))) (tCons (tOp cIx (tVar 1) (tC (.int 1))) (tCons (tCB kMax (tCons (tC (.int 2)) (tCons (tOp cIx (tVar 1) (tC (.int 2))) tNil))) tNil)))) (gName 1))
  (tSeq (tAsg (tOp cMul (tOp cIx (tVar 1) (tC (.int 0))) (tOp cIx (tVar 1) (tC (.int 1)))) (gName 2))
  (lE K c d))))
structure A29 (K:PySem.W.Frag) (H:Hp) (c:RCl RK) (d:RCl PzK) (a p f A P L G:Addr) (ns cl masks fl:List Int) (h w g m:Int) (k:RK):Prop where
 hS:SqL K H a (ns.map V.int)
 hn:ns.length≤63
 hp:IsFl H p h w g
 ff:H f=some (.lst (fl.map V.int))
 aa:H A=some (.lst (masks.map V.int))
 pz:IsPz H c d P L G h w g [eu k h w m] cl
 N:Ans29 h w g m k masks fl
theorem A29.same {K:PySem.W.Frag} {H H':Hp} {c:RCl RK} {d:RCl PzK} {a p f A P L G:Addr} {ns cl masks fl:List Int} {h w g m:Int} {k:RK} (X:A29 K H c d a p f A P L G ns cl masks fl h w g m k) (t:Same H H'):A29 K H' c d a p f A P L G ns cl masks fl h w g m k:=
 ⟨t.seq X.hS,X.hn,t _ _ X.hp,t _ _ X.ff,t _ _ X.aa,X.pz.same t,X.N⟩
def kds29:List TK:=[.reach,.reach,.square,.turn,.turn]
theorem wj {i:Nat} {t:TK} (h:kds29[i]? =some t):pb t:=by
 have:=List.mem_of_getElem? h
 unfold kds29 at this
 simp only [List.mem_cons,List.not_mem_nil,or_false] at this
 rcases this with rfl | rfl | rfl | rfl | rfl
 · exact .inr (.inl rfl)
 · exact .inr (.inl rfl)
 · exact .inl rfl
 · exact .inr (.inr rfl)
 · exact .inr (.inr rfl)
theorem xk {K:PySem.W.Frag} {c:RCl RK} {d:RCl PzK} {D:Ends} {H:Hp} {a p f A P L G M:Addr} {as:List Addr} {xss:List (List Int)} {ns cl masks fl:List Int} {h w g m z s:Int} {k:RK} {v2 v3 v4 v5 v8 v13 v14:Option V} (X:A29 K H c d a p f A P L G ns cl masks fl h w g m k) (hM:IsLL H M as xss) (n5:xss.length=5) (xl:∀ xs∈xss,xs.length≤2)
  (q:∀ (v13 v14:Option V) (H':Hp),Same H H'→D.nx [some (.ref a),some (.ref p),v2,v3,v4,v5,some (.ref f),some (.ref A),v8,some (.ref P),some (.int z),some (.int s),some (.ref M),v13,v14] H'):
  wg K c d D [some (.ref a),some (.ref p),v2,v3,v4,v5,some (.ref f),some (.ref A),v8,some (.ref P),some (.int z),some (.int s),some (.ref M),v13,v14] H:=by
 have al:=hM.len
 unfold wg
 rw [xW]
 walk_at "w"
 refine ⟨aF (by show (5:Nat)≤1000; decide),fun Z iZ=>?_⟩
 have s1:Same H (upd H Z (.lst (kds29.map fun t=>V.str (tx (tkC t))))):=(Same.refl H).laid iZ
 have eZ:(upd H Z (.lst (kds29.map fun t=>V.str (tx (tkC t))))) Z=some (.lst (kds29.map fun t=>V.str (tx (tkC t)))):=ag
 generalize hHz:upd H Z (.lst (kds29.map fun t=>V.str (tx (tkC t))))=H1 at*
 have hHz':upd H Z (.lst [V.str (tx [114,101,97,99,104]),V.str (tx [114,101,97,99,104]),V.str (tx [115,113,117,97,114,101]),V.str (tx [116,117,114,110]),V.str (tx [116,117,114,110])])=H1:=hHz
 rw [hHz']
 have hM1:=hM.same s1
 refine ⟨Z,M,rfl,⟨_,SqL.of eZ⟩,⟨_,SqL.of hM1.top⟩,?_⟩
 refine wN (xs:=kds29.map fun t=>V.str (tx (tkC t))) (ys:=as.map V.ref) (fun i σ H'=>∃ (v13 v14:Option V),σ=[some (.ref a),some (.ref p),v2,v3,v4,v5,some (.ref f),some (.ref A),v8,some (.ref P),some (.int z),some (.int s),some (.ref M),v13,v14]∧Same H1 H') (by rw [List.length_map,List.length_map,al,n5]; rfl) ⟨_,_,rfl,Same.refl H1⟩ (fun i σ H' _ ⟨_,_,_,s⟩=>⟨SqL.of (s _ _ eZ),SqL.of (s _ _ hM1.top)⟩) ?_ ?_
 · rintro i u v T σ H2 hu hv ⟨v13,v14,rfl,s2⟩ hT
   rw [List.getElem?_map] at hu
   obtain ⟨t,et,rfl⟩:=Option.map_eq_some_iff.mp hu
   obtain ⟨b,hb,rfl⟩:=rN hv
   have hi:i < as.length:=(List.getElem?_eq_some_iff.mp hb).1
   have ex:xss[i]? =some xss[i]:=List.getElem?_eq_getElem (by omega)
   have xm:xss[i]∈xss:=List.getElem_mem _
   have xl2:=xl _ xm
   generalize xss[i]=ms at*
   have s3:Same H2 (upd H2 T (.tup [V.str (tx (tkC t)),V.ref b])):=(Same.refl H2).laid hT
   have s23:=s2.trans s3
   refine lf ag rfl ?_
   rw [jk]
   generalize upd H2 T (.tup [V.str (tx (tkC t)),V.ref b])=H3 at*
   have X3:=X.same (s1.trans s23)
   have eb:=s23 _ _ (hM1.at_ i b ms hb ex)
   show tIfS _ _ _ _ [some (.ref a),some (.ref p),v2,v3,v4,v5,some (.ref f),some (.ref A),v8,some (.ref P),some (.int z),some (.int s),some (.ref M),some (.str (tx (tkC t))),some (.ref b)] H3
   rw [aH]
   walk_at "w"
   refine ⟨aF (by show (5:Nat)≤1000; decide),fun U hU=>?_⟩
   have s4:Same H3 (upd H3 U (.tup [V.str (tx (tkC t)),V.int 0,V.int z,V.int s,V.ref b])):=(Same.refl H3).laid hU
   have Th:IsTh (upd H3 U (.tup [V.str (tx (tkC t)),V.int 0,V.int z,V.int s,V.ref b])) U b t 0 z s ms:=xj eb (by omega) hU
   generalize upd H3 U (.tup [V.str (tx (tkC t)),V.int 0,V.int z,V.int s,V.ref b])=H4 at*
   have X4:=X3.same s4
   refine ⟨P,L,G,A,f,U,b,h,w,g,m,k,cl,masks,fl,t,z,s,ms,rfl,⟨X4.pz,Th,X4.aa,X.N.ml⟩,wj et,X4.ff,X.N,fun H5 s5=>?_⟩
   walk_at "w"
   exact ⟨_,_,rfl,(s23.trans s4).trans s5⟩
 · rintro σ H2 ⟨v13,v14,rfl,s2⟩
   exact q _ _ H2 (s1.trans s2)
theorem wk {K:PySem.W.Frag} {c:RCl RK} {d:RCl PzK} {D:Ends} {H:Hp} {a p f A P L G:Addr} {ns cl masks fl:List Int} {h w g m z:Int} {i:Nat} {k:RK} {v2 v3 v4 v11 v12 v13 v14:Option V} (X:A29 K H c d a p f A P L G ns cl masks fl h w g m k) (z0:0≤z) (z1:z < h*w) (hi:i < 8)
  (q:∀ (v11 v12 v13 v14:Option V) (H':Hp),Same H H'→D.nx [some (.ref a),some (.ref p),v2,v3,v4,some (.int m),some (.ref f),some (.ref A),some (.int (i:Int)),some (.ref P),some (.int z),v11,v12,v13,v14] H'):
  tZ K c d D [some (.ref a),some (.ref p),v2,v3,v4,some (.int m),some (.ref f),some (.ref A),some (.int (i:Int)),some (.ref P),some (.int z),v11,v12,v13,v14] H:=by
 have g0:=X.N.F.g0
 unfold tZ
 walk_at "w"
 refine ⟨.inl ⟨by decide,by decide⟩,?_⟩
 refine ⟨a,ns,_,rfl,X.hS,X.hn,by omega,by omega,?_⟩
 generalize lawCA ns (131+2*(i:Int))=y at*
 walk_at "w"
 refine ixT X.hp (v:=V.int g) rfl ?_
 walk_at "w"
 refine ⟨by omega,aF (by show (2:Nat)≤1000; decide),fun U iU=>?_⟩
 have s1:Same H (upd H U (.lst [V.int m,V.int (1+y % g)])):=(Same.refl H).laid iU
 have eU:(upd H U (.lst [V.int m,V.int (1+y % g)])) U=some (.lst (([m,1+y % g]:List Int).map V.int)):=ag
 generalize upd H U (.lst [V.int m,V.int (1+y % g)])=H1 at*
 refine ⟨⟨_,SqL.of eU⟩,?_⟩
 refine gA (K:=K) (xs:=([m,1+y % g]:List Int).map V.int) (fun j σ H'=>∃ (v11 v12 v13 v14:Option V),σ=[some (.ref a),some (.ref p),v2,v3,v4,some (.int m),some (.ref f),some (.ref A),some (.int (i:Int)),some (.ref P),some (.int z),v11,v12,v13,v14]∧Same H1 H') ⟨_,_,_,_,rfl,Same.refl H1⟩ (fun j σ H' _ ⟨_,_,_,_,_,s⟩=>SqL.of (s _ _ eU)) ?_ ?_
 · rintro j v σ H2 hv ⟨v11,v12,v13,v14,rfl,s2⟩
   obtain ⟨s,hs,rfl⟩:=bY hv
   have X2:=X.same (s1.trans s2)
   walk_at "w"
   refine ⟨a,p,A,ns,masks,h,w,g,z,m,_,rfl,X2.hS,X.hn,X2.hp,X.N.F,X2.aa,X.N.ml,X.N.mm,z0,z1,X.N.m0,X.N.m1,by omega,by omega,fun M as xss H3 s3 hM n5 xl=>?_⟩
   walk_at "w"
   exact xk (X2.same s3) hM n5 xl fun v13 v14 H' s4=>⟨_,_,_,_,rfl,(s2.trans s3).trans s4⟩
 · rintro σ H2 ⟨v11,v12,v13,v14,rfl,s2⟩
   exact q _ _ _ _ H2 (s1.trans s2)
theorem t5 {K:PySem.W.Frag} {c:RCl RK} {d:RCl PzK} {H:Hp} {Q:VK} {a p f A P L G:Addr} {ns cl masks fl:List Int} {h w g m:Int} {k:RK} {v3 v4 v8:Option V} (X:A29 K H c d a p f A P L G ns cl masks fl h w g m k) (q:∀ H',Q (.bl true) H'):
  kF K c d { nx:=fun _ H'=>Q .non H',rt:=Q } [some (.ref a),some (.ref p),some (.int (h*w)),v3,v4,some (.int m),some (.ref f),some (.ref A),v8,some (.ref P),none,none,none,none,none] H:=by
 obtain ⟨h0,h1,w0,w1,m16,g0,g1⟩:=id X.N.F
 have mpos:1≤h*w:=Int.le_trans (by omega) (Int.mul_le_mul h0 w0 (by omega) (by omega))
 unfold kF
 walk_at "w"
 refine ⟨8,rfl,by decide,by decide,?_⟩
 refine cV (fun i σ H'=>∃ (v8 v10 v11 v12 v13 v14:Option V),σ=[some (.ref a),some (.ref p),some (.int (h*w)),v3,v4,some (.int m),some (.ref f),some (.ref A),v8,some (.ref P),v10,v11,v12,v13,v14]∧Same H H') ⟨_,_,_,_,_,_,rfl,Same.refl H⟩ ?_ ?_
 · rintro i σ H1 hi ⟨v8,v10,v11,v12,v13,v14,rfl,s1⟩
   have hi8:i < 8:=hi
   have X1:=X.same s1
   rw [Int.zero_add]
   walk_at "w"
   refine ⟨.inl ⟨by decide,by decide⟩,?_⟩
   refine ⟨a,ns,_,rfl,X1.hS,X.hn,by omega,by omega,?_⟩
   generalize lawCA ns (130+2*(i:Int))=y at*
   walk_at "w"
   have b0:=Int.emod_nonneg y (show h*w≠0 by omega)
   have b1:=Int.emod_lt_of_pos y (show 0 < h*w by omega)
   refine ⟨by omega,?_⟩
   exact wk X1 b0 b1 hi8 fun v11 v12 v13 v14 H' s2=>⟨_,_,_,_,_,_,rfl,s1.trans s2⟩
 · rintro σ H1 ⟨v8,v10,v11,v12,v13,v14,rfl,s1⟩
   walk_at "w"
   exact q _
structure B29 (K:PySem.W.Frag) (H:Hp) (a p f:Addr) (ns fl:List Int) (h w g m:Int) (k:RK):Prop where
 hS:SqL K H a (ns.map V.int)
 hn:ns.length≤63
 hp:IsFl H p h w g
 F:FlOk h w g
 ff:H f=some (.lst (fl.map V.int))
 fll:fl.length=(h*w).toNat
 sg:∀ x∈fl,1≤x∧x≤g
 m0:1≤m
 m1:m≤g
 R:oy h w m k fl
 kk:k=.Joined∨k=.NoSquare∨k=.Ring
theorem B29.same {K:PySem.W.Frag} {H H':Hp} {a p f:Addr} {ns fl:List Int} {h w g m:Int} {k:RK} (X:B29 K H a p f ns fl h w g m k) (t:Same H H'):B29 K H' a p f ns fl h w g m k:=
 ⟨t.seq X.hS,X.hn,t _ _ X.hp,X.F,t _ _ X.ff,X.fll,X.sg,X.m0,X.m1,X.R,X.kk⟩
theorem vz:((List.range 64).all fun m=>(List.range 6).all fun j=>decide (0≤Builtin.bitOr (m:Int) (1*2^j)∧Builtin.bitOr (m:Int) (1*2^j) < 64)&&(stB (Builtin.bitOr (m:Int) (1*2^j)) (1+(j:Int))&&(decide ((1:Int)*2^j < 64)&&stB (1*2^j:Int) (1+(j:Int)))))=true:=by decide+kernel
theorem wl {m s:Int} (m0:0≤m) (m1:m < 64) (s0:1≤s) (s6:s≤6):(0≤Builtin.bitOr m (1*2^(s - 1).toNat)∧Builtin.bitOr m (1*2^(s - 1).toNat) < 64)∧stB (Builtin.bitOr m (1*2^(s - 1).toNat)) s=true∧(1:Int)*2^(s - 1).toNat < 64∧stB (1*2^(s - 1).toNat) s=true:=by
 have t:=List.all_eq_true.mp (List.all_eq_true.mp vz m.toNat (List.mem_range.mpr (by omega))) (s - 1).toNat (List.mem_range.mpr (by omega))
 rw [show ((m.toNat:Nat):Int)=m by omega,show 1+(((s - 1).toNat:Nat):Int)=s by omega,Bool.and_eq_true,Bool.and_eq_true,Bool.and_eq_true,decide_eq_true_eq,decide_eq_true_eq] at t
 exact t
theorem xo {g m:Int} (g0:1≤g) (g6:g≤6) (h:m < 1*2^g.toNat):m < 64:=by
 have e:g=1∨g=2∨g=3∨g=4∨g=5∨g=6:=by omega
 rcases e with rfl | rfl | rfl | rfl | rfl | rfl
 · exact Int.lt_of_lt_of_le h (by decide)
 · exact Int.lt_of_lt_of_le h (by decide)
 · exact Int.lt_of_lt_of_le h (by decide)
 · exact Int.lt_of_lt_of_le h (by decide)
 · exact Int.lt_of_lt_of_le h (by decide)
 · exact Int.lt_of_lt_of_le h (by decide)
structure M29 (fl ms:List Int) (n:Nat) (i:Nat):Prop where
 ln:ms.length=n
 mm:∀ m∈ms,0≤m∧m < 64
 st:∀ k,k < i→stB (ms.getD k 0) (fl.getD k 0)=true
theorem M29.put {fl ms:List Int} {n i j:Nat} {x:Int} (X:M29 fl ms n j) (hj:j=i∨j=i+1) (hi:i < n) (x0:0≤x) (x1:x < 64) (hx:stB x (fl.getD i 0)=true):M29 fl (ms.set i x) n (i+1):=by
 have hl:=X.ln
 refine ⟨by rw [List.length_set]; exact hl,fun m hm=>?_,fun k hk=>?_⟩
 · rcases List.mem_or_eq_of_mem_set hm with hm | rfl
   · exact X.mm m hm
   · exact ⟨x0,x1⟩
 · rw [oC (by omega)]
   split
   · rename_i e; rw [e]; exact hx
   · exact X.st k (by omega)
theorem vA {h w m:Int} {k:RK} (kk:k=.Joined∨k=.NoSquare∨k=.Ring):(eu k h w m).txt=tx (nmC k++[32]++numC m.toNat):=by
 have fin:∀ k:RK,numK k=false→sgnK k=true→(eu k h w m).txt=tx (nmC k++[32]++numC m.toNat):=fun k a3 a4=>by
  have e:nmC k++[32]++numC m.toNat=catL 32 (rowW k 0 m.toNat []):=by
   unfold rowW
   rw [a3,a4]
   show nmC k++[32]++numC m.toNat=nmC k++32::numC m.toNat
   simp
  rw [e]; rfl
 rcases kk with rfl | rfl | rfl
 · exact fin .Joined rfl rfl
 · exact fin .NoSquare rfl rfl
 · exact fin .Ring rfl rfl
theorem wm {c:RCl RK} {h w g m:Int} {k:RK} (kk:k=.Joined∨k=.NoSquare∨k=.Ring) (F:FlOk h w g) (hk:∀ k,k≠.Rule→c.ok k=true) (m0:1≤m) (m1:m≤g):lm c h w g [eu k h w m]:=by
 have em:((m.toNat:Nat):Int)=m:=by omega
 have ok:(eu k h w m).Ok h w g∧k≠.Rule:=by
  rcases kk with rfl | rfl | rfl
  · exact ⟨lr rfl (by decide) rfl rfl (by omega) (by omega),fun e=>by cases e⟩
  · exact ⟨lr rfl (by decide) rfl rfl (by omega) (by omega),fun e=>by cases e⟩
  · exact ⟨lr rfl (by decide) rfl rfl (by omega) (by omega),fun e=>by cases e⟩
 exact ⟨F,by simp,fun r hr=>by rw [List.mem_singleton.mp hr]; exact ok.1,fun r hr=>by rw [List.mem_singleton.mp hr]; exact hk _ ok.2⟩
theorem vB {K:PySem.W.Frag} {c:RCl RK} {d:RCl PzK} {H:Hp} {Q:VK} {a p f A:Addr} {ns masks fl:List Int} {h w g m:Int} {k:RK} {v3 v8:Option V} (X:B29 K H a p f ns fl h w g m k) (eA:H A=some (.lst (masks.map V.int))) (M:M29 fl masks (h*w).toNat (h*w).toNat) (hk:∀ k,k≠.Rule→c.ok k=true) (ok:d.ok .Puzzle=true) (q:∀ H',Q (.bl true) H'):
  lC K c d { nx:=fun _ H'=>Q .non H',rt:=Q } [some (.ref a),some (.ref p),some (.int (h*w)),v3,some (.str (tx (nmC k))),some (.int m),some (.ref f),some (.ref A),v8,none,none,none,none,none,none] H:=by
 obtain ⟨h0,h1,w0,w1,m16,g0,g1⟩:=id X.F
 have mpos:1≤h*w:=Int.le_trans (by omega) (Int.mul_le_mul h0 w0 (by omega) (by omega))
 have m0:=X.m0
 have m1:=X.m1
 have fll:=X.fll
 have N:Ans29 h w g m k masks fl:=⟨X.F,fll,M.ln,M.mm,X.sg,fun k hk=>M.st k (by omega),m0,m1,X.R⟩
 have hkl:(nmC k).length≤20:=by rcases X.kk with rfl | rfl | rfl <;> decide
 have em:m=((m.toNat:Nat):Int):=by omega
 unfold lC
 walk_at "w"
 have ts:Str.ofString (toString m)=tx (numC m.toNat):=by
  have:=wR (n:=m.toNat) (by omega)
  rw [← em] at this; exact this
 have lg:m.natAbs.log2 < 1920:=by
  have:=wW (n:=m.toNat) (by omega)
  rw [← em] at this; exact this
 have nl:=oY (n:=m.toNat)
 rw [ts,nG,nG,← vA (h:=h) (w:=w) X.kk]
 refine ⟨by rw [fZ,fZ]; exact aF (by simp; omega),lg,by rw [fZ,fZ]; exact aF (by simp; omega),aF (by show (1:Nat)≤1000; decide),fun T iT=>?_⟩
 have s1:Same H (upd H T (.lst [V.str (eu k h w m).txt])):=(Same.refl H).laid iT
 have eT:(upd H T (.lst [V.str (eu k h w m).txt])) T=some (.lst ((([eu k h w m]:List RR).map RR.txt).map V.str)):=ag
 generalize upd H T (.lst [V.str (eu k h w m).txt])=H1 at*
 refine ⟨h*w,rfl,by omega,by omega,?_⟩
 refine hV (fun _=>true) (fun _=>0) (by omega) ?_ ?_ ?_
 · intro i H2 R hi s2 k2
   exact k2 _ (Same.refl _)
 · intro i H2 Q2 hi _ s2 k2
   exact k2 _ (Same.refl _)
 · intro C H2 hC s2 eC
   rw [List.filter_eq_self.mpr fun _ _=>rfl] at eC
   have s12:=s1.trans s2
   walk_at "w"
   refine ya ok (s12 _ _ X.hp) (s2 _ _ eT) eC (wm X.kk X.F hk m0 m1) ⟨by rw [List.length_map,List.length_range],fun x hx=>?_⟩ fun P L G H3 s3 hP hL2 hG pz=>?_
   · obtain ⟨i,_,rfl⟩:=List.mem_map.mp hx
     exact ⟨by decide,by omega⟩
   · have X3:=X.same (s12.trans s3)
     walk_at "w"
     exact t5 ⟨X3.hS,X.hn,X3.hp,X3.ff,(s12.trans s3) _ _ eA,pz,N⟩ q
theorem vC {K:PySem.W.Frag} {c:RCl RK} {d:RCl PzK} {H:Hp} {Q:VK} {a p f:Addr} {ns fl:List Int} {h w g m:Int} {k:RK} {v3:Option V} (X:B29 K H a p f ns fl h w g m k) (hk:∀ k,k≠.Rule→c.ok k=true) (ok:d.ok .Puzzle=true) (q:∀ H',Q (.bl true) H'):
  lD K c d { nx:=fun _ H'=>Q .non H',rt:=Q } [some (.ref a),some (.ref p),some (.int (h*w)),v3,some (.str (tx (nmC k))),some (.int m),some (.ref f),none,none,none,none,none,none,none,none] H:=by
 obtain ⟨h0,h1,w0,w1,m16,g0,g1⟩:=id X.F
 have fll:=X.fll
 have mpos:1≤h*w:=Int.le_trans (by omega) (Int.mul_le_mul h0 w0 (by omega) (by omega))
 unfold lD
 walk_at "w"
 refine ixT X.hp (v:=V.int g) rfl ?_
 walk_at "w"
 refine ⟨a,ns,90,h*w,g,rfl,X.hS,X.hn,by decide,by decide,by omega,m16,g0,g1,fun A H1 ms s1 hA eA ml mb=>?_⟩
 walk_at "w"
 refine ⟨h*w,rfl,by omega,by omega,?_⟩
 have M0:M29 fl ms (h*w).toNat 0:=⟨ml,fun m hm=>⟨(mb m hm).1,xo g0 g1 (mb m hm).2⟩,fun k hk=>absurd hk (Nat.not_lt_zero _)⟩
 refine cV (fun i σ H'=>∃ (v8:Option V) (ms:List Int),σ=[some (.ref a),some (.ref p),some (.int (h*w)),v3,some (.str (tx (nmC k))),some (.int m),some (.ref f),some (.ref A),v8,none,none,none,none,none,none]∧Same H H'∧H' A=some (.lst (ms.map V.int))∧M29 fl ms (h*w).toNat i) ⟨_,ms,rfl,s1,eA,M0⟩ ?_ ?_
 · rintro i σ H2 hi ⟨v8,ms,rfl,s2,e2,M⟩
   have hil:i < (h*w).toNat:=hi
   have ml:=M.ln
   have X2:=X.same s2
   have fi:1≤fl.getD i 0∧fl.getD i 0≤g:=by
    rw [List.getD,List.getElem?_eq_getElem (by omega)]; exact X.sg _ (List.getElem_mem _)
   have mi:0≤ms.getD i 0∧ms.getD i 0 < 64:=by
    rw [List.getD,List.getElem?_eq_getElem (by omega)]; exact M.mm _ (List.getElem_mem _)
   have ob:=wl mi.1 mi.2 fi.1 (by omega)
   rw [Int.zero_add]
   walk_at "w"
   refine ixI e2 (by omega) (by omega) ?_
   walk_at "w"
   refine ixI X2.ff (by omega) (by omega) ?_
   rw [Int.toNat_natCast]
   walk_at "w"
   refine ⟨⟨by omega,by omega,by decide⟩,?_⟩
   refine lX e2 (by omega) (by simp; omega) ?_
   rw [dk,Int.toNat_natCast]
   have M1:=M.put (.inl rfl) hil ob.1.1 ob.1.2 ob.2.1
   have s3:=s2.own (o:=.lst ((ms.set i (Builtin.bitOr (ms.getD i 0) (1*2^(fl.getD i 0 - 1).toNat))).map V.int)) hA
   have e3:(upd H2 A (.lst ((ms.set i (Builtin.bitOr (ms.getD i 0) (1*2^(fl.getD i 0 - 1).toNat))).map V.int))) A=some (.lst ((ms.set i (Builtin.bitOr (ms.getD i 0) (1*2^(fl.getD i 0 - 1).toNat))).map V.int)):=ag
   generalize upd H2 A (.lst ((ms.set i (Builtin.bitOr (ms.getD i 0) (1*2^(fl.getD i 0 - 1).toNat))).map V.int))=H3 at*
   generalize ms.set i (Builtin.bitOr (ms.getD i 0) (1*2^(fl.getD i 0 - 1).toNat))=ms1 at*
   have X3:=X.same s3
   walk_at "w"
   rw [aH]
   walk_at "w"
   refine ⟨a,ns,_,rfl,X3.hS,X3.hn,by omega,by omega,?_⟩
   walk_at "w"
   refine ⟨by decide,?_⟩
   cases decide ((1:Int) < lawCA ns (110+(i:Int)) % 5) with
   | false=>
    refine iteF ?_
    exact ⟨_,ms1,rfl,s3,e3,M1⟩
   | true=>
    refine iteT ?_
    walk_at "w"
    refine ixI X3.ff (by omega) (by omega) ?_
    rw [Int.toNat_natCast]
    walk_at "w"
    have ml1:=M1.ln
    refine ⟨⟨by omega,by omega,by decide⟩,?_⟩
    refine lX e3 (by omega) (by simp; omega) ?_
    rw [dk,Int.toNat_natCast]
    have p0:(0:Int)≤1*2^(fl.getD i 0 - 1).toNat:=Int.mul_nonneg (by decide) (Int.pow_nonneg (by decide))
    exact ⟨_,_,rfl,s3.own hA,ag,M1.put (.inr rfl) hil p0 ob.2.2.1 ob.2.2.2⟩
 · rintro σ H2 ⟨v8,ms,rfl,s2,e2,M⟩
   exact vB (X.same s2) e2 M hk ok q
theorem vD {K:PySem.W.Frag} {c:RCl RK} {d:RCl PzK} {H:Hp} {Q:VK} {a p:Addr} {ns:List Int} {h w g:Int} (hS:SqL K H a (ns.map V.int)) (hn:ns.length≤63) (hp:IsFl H p h w g) (F:FlOk h w g) (g2:2≤g) (hk:∀ k,k≠.Rule→c.ok k=true) (ok:d.ok .Puzzle=true) (q:∀ H',Q (.bl true) H'):
  lE K c d { nx:=fun _ H'=>Q .non H',rt:=Q } [some (.ref a),some (.ref p),some (.int (h*w)),none,none,none,none,none,none,none,none,none,none,none,none] H:=by
 unfold lE
 walk_at "w"
 refine ⟨a,ns,0,rfl,hS,hn,by decide,by decide,?_⟩
 walk_at "w"
 generalize lawCA ns 0 / 300=y at*
 refine ⟨⟨by decide,by decide⟩,aF (by show (3:Nat)≤1000; decide),fun U hU=>?_⟩
 have s1:Same H (upd H U (.lst [V.str (tx (nmC .Joined)),V.str (tx (nmC .NoSquare)),V.str (tx (nmC .Ring))])):=(Same.refl H).laid hU
 have eU:(upd H U (.lst [V.str (tx (nmC .Joined)),V.str (tx (nmC .NoSquare)),V.str (tx (nmC .Ring))])) U=some (.lst [V.str (tx (nmC .Joined)),V.str (tx (nmC .NoSquare)),V.str (tx (nmC .Ring))]):=ag
 generalize hHz:upd H U (.lst [V.str (tx (nmC .Joined)),V.str (tx (nmC .NoSquare)),V.str (tx (nmC .Ring))])=H1 at*
 have hHz':upd H U (.lst [V.str (tx [106,111,105,110,101,100]),V.str (tx [110,111,115,113,117,97,114,101]),V.str (tx [114,105,110,103])])=H1:=hHz
 rw [hHz']
 refine ⟨by decide,?_⟩
 obtain ⟨k,hk3,eix⟩:∃ k:RK,(k=.Joined∨k=.NoSquare∨k=.Ring)∧atI [V.str (tx (nmC .Joined)),V.str (tx (nmC .NoSquare)),V.str (tx (nmC .Ring))] (y % 3)=some (V.str (tx (nmC k))):=by
  have:y % 3=0∨y % 3=1∨y % 3=2:=by omega
  rcases this with e | e | e <;> rw [e]
  · exact ⟨.Joined,.inl rfl,rfl⟩
  · exact ⟨.NoSquare,.inr (.inl rfl),rfl⟩
  · exact ⟨.Ring,.inr (.inr rfl),rfl⟩
 refine ixL eU eix ?_
 walk_at "w"
 refine ⟨⟨by decide,by decide⟩,?_⟩
 refine ixT (s1 _ _ hp) (v:=V.int g) rfl ?_
 walk_at "w"
 refine ⟨by omega,?_⟩
 have b0:=Int.emod_nonneg (y / 3) (show g≠0 by omega)
 have b1:=Int.emod_lt_of_pos (y / 3) (show 0 < g by omega)
 generalize y / 3 % g=x at*
 unfold pH
 walk_at "w"
 refine ⟨a,p,ns,h,w,g,1+x,k,rfl,s1.seq hS,hn,s1 _ _ hp,F,g2,by omega,by omega,hk3,fun f H2 fl s2 hf ef fll sg R=>?_⟩
 have s12:=s1.trans s2
 exact vC ⟨s12.seq hS,hn,s12 _ _ hp,F,ef,fll,sg,by omega,by omega,R,hk3⟩ hk ok q
theorem yr {K:PySem.W.Frag} {c:RCl RK} {d:RCl PzK} {vs:List V} {H:Hp} {Q:VK} {E:XK} (h:rk K c d vs H Q E):oI K c d { nx:=fun _ H'=>Q .non H',rt:=Q } (start ["_law_script","_law_floor_here","_law_many","_law_cell","_law_word","_law_sign","_law_filling_here","_law_masks_here","_law_k","_law_puzzle","_law_at","_law_struck_one","_law_mores_here","_law_kind","_law_more"] vs) H:=by
 obtain ⟨a,ns,rfl,hS,hn,hk,ok,q⟩:=h
 show oI K c d _ [some (.ref a),none,none,none,none,none,none,none,none,none,none,none,none,none,none] H
 unfold oI
 walk_at "w"
 refine ⟨a,ns,0,rfl,hS,hn,by decide,by decide,?_⟩
 refine ⟨_,rfl,fun p0 H1 h w g0 s1 hp0 hp1 F0=>?_⟩
 walk_at "w"
 refine ixT hp1 (v:=V.int h) rfl ?_
 walk_at "w"
 refine ixT hp1 (v:=V.int w) rfl ?_
 walk_at "w"
 refine ixT hp1 (v:=V.int g0) rfl ?_
 walk_at "w"
 obtain ⟨g,eg⟩:∃ g:Int,g=if g0 > 2 then g0 else 2:=⟨_,rfl⟩
 rw [← eg]
 have g2:2≤g:=by rw [eg]; split <;> omega
 have F:FlOk h w g:=⟨F0.h0,F0.h1,F0.w0,F0.w1,F0.m,by omega,by rw [eg]; have:=F0.g1; split <;> omega⟩
 refine ⟨aF (by show (3:Nat)≤1000; decide),fun p hp=>?_⟩
 have s2:Same H1 (upd H1 p (.tup [V.int h,V.int w,V.int g])):=(Same.refl H1).laid hp
 have ep:IsFl (upd H1 p (.tup [V.int h,V.int w,V.int g])) p h w g:=ag
 generalize upd H1 p (.tup [V.int h,V.int w,V.int g])=H2 at*
 refine ixT ep (v:=V.int h) rfl ?_
 walk_at "w"
 refine ixT ep (v:=V.int w) rfl ?_
 walk_at "w"
 refine ⟨dS F.h0 F.h1,?_⟩
 exact vD ((s1.trans s2).seq hS) hn ep F g2 hk ok q
end L2
namespace L2
open PySem PySem.Spec PyProof.Rows
end L2
namespace L2
open PySem PySem.Spec PyProof.Rows
end L2
namespace L2
open PySem PySem.Spec PyProof.Rows
end L2
namespace L2
open PySem PySem.Spec PyProof.Rows
section
variable {P:Program} {w:World} {K:PySem.W.Frag} {mg:Str→Option Value} {base:Heap} {k:Nat} {x qual y:Str} {st:Stmt} {f:Addr} {fd:FuncData} {sp:Sp}
theorem ma {a0:Str} (F:Fun K x qual st f fd) (h:∀ (kV doc pm:Value) (an:Option Addr) (cdv ct u0:Value),bindArgs (PySem.W.fnOf x qual (bg st) (bc st) (ai st) .none kV doc pm an cdv ct) ⟨[u0],[]⟩=pure (([a0]:List Str).zip [u0]):=by intros; rfl):Binds K fd [a0] []:=F.binds fun _ _ _ _ _ _ us hl=>match us,hl with | [u0],_=>h _ _ _ _ _ _ _
theorem m5 {a0:Str} (T:FnOk P w K mg base CX0 k f fd [a0] sp) (F:Fun K x qual st f fd) (hm:mg y=some (.ref f)) (h:∀ (kV doc pm:Value) (an:Option Addr) (cdv ct u0:Value),bindArgs (PySem.W.fnOf x qual (bg st) (bc st) (ai st) .none kV doc pm an cdv ct) ⟨[u0],[]⟩=pure (([a0]:List Str).zip [u0]):=by intros; rfl):Cal P w K mg base k y [a0] sp:=⟨f,fd,T,hm,F.kp,ma F h⟩
theorem yQ {a0 a1:Str} (F:Fun K x qual st f fd) (h:∀ (kV doc pm:Value) (an:Option Addr) (cdv ct u0 u1:Value),bindArgs (PySem.W.fnOf x qual (bg st) (bc st) (ai st) .none kV doc pm an cdv ct) ⟨[u0,u1],[]⟩=pure (([a0,a1]:List Str).zip [u0,u1]):=by intros; rfl):Binds K fd [a0,a1] []:=F.binds fun _ _ _ _ _ _ us hl=>match us,hl with | [u0,u1],_=>h _ _ _ _ _ _ _ _
theorem bT {a0 a1:Str} (T:FnOk P w K mg base CX0 k f fd [a0,a1] sp) (F:Fun K x qual st f fd) (hm:mg y=some (.ref f)) (h:∀ (kV doc pm:Value) (an:Option Addr) (cdv ct u0 u1:Value),bindArgs (PySem.W.fnOf x qual (bg st) (bc st) (ai st) .none kV doc pm an cdv ct) ⟨[u0,u1],[]⟩=pure (([a0,a1]:List Str).zip [u0,u1]):=by intros; rfl):Cal P w K mg base k y [a0,a1] sp:=⟨f,fd,T,hm,F.kp,yQ F h⟩
theorem yR {a0 a1 a2:Str} (F:Fun K x qual st f fd) (h:∀ (kV doc pm:Value) (an:Option Addr) (cdv ct u0 u1 u2:Value),bindArgs (PySem.W.fnOf x qual (bg st) (bc st) (ai st) .none kV doc pm an cdv ct) ⟨[u0,u1,u2],[]⟩=pure (([a0,a1,a2]:List Str).zip [u0,u1,u2]):=by intros; rfl):Binds K fd [a0,a1,a2] []:=F.binds fun _ _ _ _ _ _ us hl=>match us,hl with | [u0,u1,u2],_=>h _ _ _ _ _ _ _ _ _
theorem jp {a0 a1 a2:Str} (T:FnOk P w K mg base CX0 k f fd [a0,a1,a2] sp) (F:Fun K x qual st f fd) (hm:mg y=some (.ref f)) (h:∀ (kV doc pm:Value) (an:Option Addr) (cdv ct u0 u1 u2:Value),bindArgs (PySem.W.fnOf x qual (bg st) (bc st) (ai st) .none kV doc pm an cdv ct) ⟨[u0,u1,u2],[]⟩=pure (([a0,a1,a2]:List Str).zip [u0,u1,u2]):=by intros; rfl):Cal P w K mg base k y [a0,a1,a2] sp:=⟨f,fd,T,hm,F.kp,yR F h⟩
theorem wu {a0 a1 a2 a3:Str} (F:Fun K x qual st f fd) (h:∀ (kV doc pm:Value) (an:Option Addr) (cdv ct u0 u1 u2 u3:Value),bindArgs (PySem.W.fnOf x qual (bg st) (bc st) (ai st) .none kV doc pm an cdv ct) ⟨[u0,u1,u2,u3],[]⟩=pure (([a0,a1,a2,a3]:List Str).zip [u0,u1,u2,u3]):=by intros; rfl):Binds K fd [a0,a1,a2,a3] []:=F.binds fun _ _ _ _ _ _ us hl=>match us,hl with | [u0,u1,u2,u3],_=>h _ _ _ _ _ _ _ _ _ _
theorem rl {a0 a1 a2 a3:Str} (T:FnOk P w K mg base CX0 k f fd [a0,a1,a2,a3] sp) (F:Fun K x qual st f fd) (hm:mg y=some (.ref f)) (h:∀ (kV doc pm:Value) (an:Option Addr) (cdv ct u0 u1 u2 u3:Value),bindArgs (PySem.W.fnOf x qual (bg st) (bc st) (ai st) .none kV doc pm an cdv ct) ⟨[u0,u1,u2,u3],[]⟩=pure (([a0,a1,a2,a3]:List Str).zip [u0,u1,u2,u3]):=by intros; rfl):Cal P w K mg base k y [a0,a1,a2,a3] sp:=⟨f,fd,T,hm,F.kp,wu F h⟩
theorem yS {a0 a1 a2 a3 a4:Str} (F:Fun K x qual st f fd) (h:∀ (kV doc pm:Value) (an:Option Addr) (cdv ct u0 u1 u2 u3 u4:Value),bindArgs (PySem.W.fnOf x qual (bg st) (bc st) (ai st) .none kV doc pm an cdv ct) ⟨[u0,u1,u2,u3,u4],[]⟩=pure (([a0,a1,a2,a3,a4]:List Str).zip [u0,u1,u2,u3,u4]):=by intros; rfl):Binds K fd [a0,a1,a2,a3,a4] []:=F.binds fun _ _ _ _ _ _ us hl=>match us,hl with | [u0,u1,u2,u3,u4],_=>h _ _ _ _ _ _ _ _ _ _ _
theorem yt {a0 a1 a2 a3 a4:Str} (T:FnOk P w K mg base CX0 k f fd [a0,a1,a2,a3,a4] sp) (F:Fun K x qual st f fd) (hm:mg y=some (.ref f)) (h:∀ (kV doc pm:Value) (an:Option Addr) (cdv ct u0 u1 u2 u3 u4:Value),bindArgs (PySem.W.fnOf x qual (bg st) (bc st) (ai st) .none kV doc pm an cdv ct) ⟨[u0,u1,u2,u3,u4],[]⟩=pure (([a0,a1,a2,a3,a4]:List Str).zip [u0,u1,u2,u3,u4]):=by intros; rfl):Cal P w K mg base k y [a0,a1,a2,a3,a4] sp:=⟨f,fd,T,hm,F.kp,yS F h⟩
theorem wv {a0 a1 a2 a3 a4 a5:Str} (F:Fun K x qual st f fd) (h:∀ (kV doc pm:Value) (an:Option Addr) (cdv ct u0 u1 u2 u3 u4 u5:Value),bindArgs (PySem.W.fnOf x qual (bg st) (bc st) (ai st) .none kV doc pm an cdv ct) ⟨[u0,u1,u2,u3,u4,u5],[]⟩=pure (([a0,a1,a2,a3,a4,a5]:List Str).zip [u0,u1,u2,u3,u4,u5]):=by intros; rfl):Binds K fd [a0,a1,a2,a3,a4,a5] []:=F.binds fun _ _ _ _ _ _ us hl=>match us,hl with | [u0,u1,u2,u3,u4,u5],_=>h _ _ _ _ _ _ _ _ _ _ _ _
theorem t6 {a0 a1 a2 a3 a4 a5:Str} (T:FnOk P w K mg base CX0 k f fd [a0,a1,a2,a3,a4,a5] sp) (F:Fun K x qual st f fd) (hm:mg y=some (.ref f)) (h:∀ (kV doc pm:Value) (an:Option Addr) (cdv ct u0 u1 u2 u3 u4 u5:Value),bindArgs (PySem.W.fnOf x qual (bg st) (bc st) (ai st) .none kV doc pm an cdv ct) ⟨[u0,u1,u2,u3,u4,u5],[]⟩=pure (([a0,a1,a2,a3,a4,a5]:List Str).zip [u0,u1,u2,u3,u4,u5]):=by intros; rfl):Cal P w K mg base k y [a0,a1,a2,a3,a4,a5] sp:=⟨f,fd,T,hm,F.kp,wv F h⟩
end
end L2
namespace L2
open PySem PySem.Spec PyProof.Rows
def top (i:Nat):Stmt:=PySem.Challenge.pw_cluemaker_k29_regions_strike_no_answer.main.body.getD i (.Pass ⟨0,0,0,0⟩)
def mtop (i j:Nat):Stmt:=match top i with
 | .ClassDef _ _ _ body _ _ _ _ _ _ _=>body.getD j (.Pass ⟨0,0,0,0⟩)
 | s=>s
abbrev kG:Stmt:=top 10
theorem sc_is_whole:aw ["value"] ["value"] (ai kG):=⟨rfl,rfl,rfl,by decide+kernel,rfl,by decide+kernel,by decide+kernel⟩
set_option maxHeartbeats 4000000 in
theorem sh {P:Program} {w:World} {K:PySem.W.Frag} {mg:Str→Option Value} {base:Heap} (B:Bt2 mg) {f:Addr} {fd:FuncData} (F:Fun K "is_whole" "is_whole" kG f fd):FnOk P w K mg base CX0 1 f fd ["value"] (aU K):=by
 refine F.ok sc_is_whole (fun vs H Q E h=>rT h) (fun cdv A outer s H vs Q E hr h=>?_)
 have hu:=hr.units
 have nd:=sc_is_whole.nd
 refine ⟨ia K,?_,rV h⟩
 exact (af (am (bx (aC dR rfl B.isinstance_ bS (ab (pv 0) (ab (gy (v:=.ty "int") rfl B.int_ uO rfl) ad))) (bV (uk (aC dR rfl B.isinstance_ bS (ab (pv 0) (ab (gy (v:=.ty "bool") rfl B.bool_ wI rfl) ad))))))))
abbrev jq:Stmt:=top 13
theorem sc_many_cells:aw ["floor"] ["floor"] (ai jq):=⟨rfl,rfl,rfl,by decide+kernel,rfl,by decide+kernel,by decide+kernel⟩
set_option maxHeartbeats 4000000 in
theorem pV {P:Program} {w:World} {K:PySem.W.Frag} {mg:Str→Option Value} {base:Heap} (B:Bt2 mg) {f:Addr} {fd:FuncData} (F:Fun K "many_cells" "many_cells" jq f fd):FnOk P w K mg base CX0 1 f fd ["floor"] (aP K):=by
 refine F.ok sc_many_cells (fun vs H Q E h=>pL h) (fun cdv A outer s H vs Q E hr h=>?_)
 have hu:=hr.units
 have nd:=sc_many_cells.nd
 refine ⟨eW K,?_,pM h⟩
 exact (af (am (ah be (ak (av hu) (pv 0) ac (fun _ _=>rfl)) (ak (av hu) (pv 0) ac (fun _ _=>rfl)))))
abbrev lF:Stmt:=top 14
theorem sc_spot_of:aw ["floor","cell","wide"] ["floor","cell"] (ai lF):=⟨rfl,rfl,rfl,by decide+kernel,rfl,by decide+kernel,by decide+kernel⟩
set_option maxHeartbeats 4000000 in
theorem t7 {P:Program} {w:World} {K:PySem.W.Frag} {mg:Str→Option Value} {base:Heap} (B:Bt2 mg) {f:Addr} {fd:FuncData} (F:Fun K "spot_of" "spot_of" lF f fd):FnOk P w K mg base CX0 1 f fd ["floor","cell"] (cu K):=by
 refine F.ok sc_spot_of (fun vs H Q E h=>tu h) (fun cdv A outer s H vs Q E hr h=>?_)
 have hu:=hr.units
 have nd:=sc_spot_of.nd
 refine ⟨iP K,?_,tw h⟩
 exact (ae (ax (i:=2) nd rfl (Or.inl rfl) (ak (av hu) (pv 0) ac (fun _ _=>rfl)))
   (af (am (dO (ab (ah bj (pv 1) (pv 2)) (ab (ah aI (pv 1) (pv 2)) ad))))))
abbrev jP:Stmt:=top 17
theorem sc_square_at:aw ["floor","corner","below"] ["floor","corner"] (ai jP):=⟨rfl,rfl,rfl,by decide+kernel,rfl,by decide+kernel,by decide+kernel⟩
set_option maxHeartbeats 4000000 in
theorem rm {P:Program} {w:World} {K:PySem.W.Frag} {mg:Str→Option Value} {base:Heap} (B:Bt2 mg) {f:Addr} {fd:FuncData} (F:Fun K "square_at" "square_at" jP f fd):FnOk P w K mg base CX0 1 f fd ["floor","corner"] (cO K):=by
 refine F.ok sc_square_at (fun vs H Q E h=>qE h) (fun cdv A outer s H vs Q E hr h=>?_)
 have hu:=hr.units
 have nd:=sc_square_at.nd
 refine ⟨gb K,?_,qF h⟩
 exact (ae (ax (i:=2) nd rfl (Or.inl rfl) (ah aD (pv 1) (ak (av hu) (pv 0) ac (fun _ _=>rfl))))
   (af (am (aK (ab (pv 1) (ab (ah aD (pv 1) ac) (ab (pv 2) (ab (ah aD (pv 2) ac) ad))))))))
abbrev m6:Stmt:=top 21
theorem sc_bit_of:aw ["sign","bit","step"] ["sign"] (ai m6):=⟨rfl,rfl,rfl,by decide+kernel,rfl,by decide+kernel,by decide+kernel⟩
set_option maxHeartbeats 4000000 in
theorem vE {P:Program} {w:World} {K:PySem.W.Frag} {mg:Str→Option Value} {base:Heap} (B:Bt2 mg) {f:Addr} {fd:FuncData} (F:Fun K "bit_of" "bit_of" m6 f fd):FnOk P w K mg base CX0 1 f fd ["sign"] (fB K):=by
 refine F.ok sc_bit_of (fun vs H Q E h=>vh h) (fun cdv A outer s H vs Q E hr h=>?_)
 have hu:=hr.units
 have nd:=sc_bit_of.nd
 refine ⟨jJ K,?_,vi h⟩
 exact (ae (ax (i:=1) nd rfl (Or.inl rfl) ac)
   (ae (cf PassesOwn.never rfl (bv rfl B.range_ (ab (ah bd (pv 0) ac) ad)) (aE (i:=2) nd rfl (Or.inl rfl))
   (af (ax (i:=1) nd rfl (Or.inl rfl) (ah be (pv 1) ac))))
   (af (am (pv 1)))))
abbrev m7:Stmt:=top 22
theorem sc_stands:aw ["mask","sign"] ["mask","sign"] (ai m7):=⟨rfl,rfl,rfl,by decide+kernel,rfl,by decide+kernel,by decide+kernel⟩
set_option maxHeartbeats 4000000 in
theorem vF {P:Program} {w:World} {K:PySem.W.Frag} {mg:Str→Option Value} {base:Heap} (B:Bt2 mg) {f:Addr} {fd:FuncData} (F:Fun K "stands" "stands" m7 f fd):FnOk P w K mg base CX0 1 f fd ["mask","sign"] (b7 K):=by
 refine F.ok sc_stands (fun vs H Q E h=>vf h) (fun cdv A outer s H vs Q E hr h=>?_)
 have hu:=hr.units
 have nd:=sc_stands.nd
 refine ⟨jI K,?_,vg h⟩
 exact (af (am (bx (aJ dQ ac (pv 1) (ap _)) (bx (aJ dQ (pv 1) (xI PySem.F.plainAttrs_int PySem.F.slot_int_bit_length PySem.F.type_int_bit_length tq (pv 0)) (ap _)) (bV (aJ (aL hu) (ah aI (ah wL (pv 0) (ah bd (pv 1) ac)) ac) ac (ap _)))))))
abbrev kH:Stmt:=top 37
theorem sc_masks_at:aw ["masks","cells"] ["masks","cells"] (ai kH):=⟨rfl,rfl,rfl,by decide+kernel,rfl,by decide+kernel,by decide+kernel⟩
set_option maxHeartbeats 4000000 in
theorem si {P:Program} {w:World} {K:PySem.W.Frag} {mg:Str→Option Value} {base:Heap} (B:Bt2 mg) {f:Addr} {fd:FuncData} (F:Fun K "masks_at" "masks_at" kH f fd):FnOk P w K mg base CX0 1 f fd ["masks","cells"] (bE K):=by
 refine F.ok sc_masks_at (fun vs H Q E h=>r8 h) (fun cdv A outer s H vs Q E hr h=>?_)
 have hu:=hr.units
 have nd:=sc_masks_at.nd
 refine ⟨ie K,?_,sd h⟩
 exact (af (am (bh (ix:=[none,none,some 0]) [".0","cell","masks"] (aZ rfl (by decide+kernel) rfl rfl rfl) rfl (aY (pv 1)) (fun cl s H fp=>(aE (i:=1) (show ([".0","cell","masks"]:List Str).Nodup by decide+kernel) rfl (Or.inl rfl))) (fun cl s H fp=>d6) (fun cl s H fp=>(ak (av hu) (pv 2) (pv 1) (fun _ _=>rfl))))))
abbrev gs:Stmt:=mtop 75 0
theorem sc_Rule___init__:aw ["self","floor","words","cells","amount","mark"] ["self","floor","words","cells","amount","mark"] (ai gs):=⟨rfl,rfl,rfl,by decide+kernel,rfl,by decide+kernel,by decide+kernel⟩
set_option maxHeartbeats 4000000 in
theorem m8 {P:Program} {w:World} {K:PySem.W.Frag} {mg:Str→Option Value} {base:Heap} (B:Bt2 mg) {c:RCl RK} (FK_c_amount:FldK K c "amount") (FK_c_cells:FldK K c "cells") (FK_c_floor:FldK K c "floor") (FK_c_mark:FldK K c "mark") (FK_c_words:FldK K c "words") {f:Addr} {fd:FuncData} (F:Fun K "__init__" "Rule.__init__" gs f fd):FnOk P w K mg base CX0 1 f fd ["self","floor","words","cells","amount","mark"] (ar K c):=by
 refine F.ok sc_Rule___init__ (fun vs H Q E h=>mP h) (fun cdv A outer s H vs Q E hr h=>?_)
 have hu:=hr.units
 have nd:=sc_Rule___init__.nd
 refine ⟨c5 K c,?_,mQ h⟩
 exact (ae (fw (pv 0) (pv 1) FK_c_floor)
   (ae (fw (pv 0) (dP mG rfl B.tuple_ kj (ab (pv 2) ad)) FK_c_words)
   (ae (fw (pv 0) (dP mG rfl B.tuple_ kj (ab (pv 3) ad)) FK_c_cells)
   (ae (fw (pv 0) (pv 4) FK_c_amount)
   (af (fw (pv 0) (pv 5) FK_c_mark))))))
abbrev jQ:Stmt:=mtop 75 1
theorem sc_Rule_name:aw ["self"] ["self"] (ai jQ):=⟨rfl,rfl,rfl,by decide+kernel,rfl,by decide+kernel,by decide+kernel⟩
set_option maxHeartbeats 4000000 in
theorem rn {P:Program} {w:World} {K:PySem.W.Frag} {mg:Str→Option Value} {base:Heap} (B:Bt2 mg) {c:RCl RK} (FK_c_words:FldK K c "words") {f:Addr} {fd:FuncData} (F:Fun K "name" "Rule.name" jQ f fd):FnOk P w K mg base CX0 1 f fd ["self"] (gc K c):=by
 refine F.ok sc_Rule_name (fun vs H Q E h=>qG h) (fun cdv A outer s H vs Q E hr h=>?_)
 have hu:=hr.units
 have nd:=sc_Rule_name.nd
 refine ⟨gd K c,?_,qH h⟩
 exact (af (am (ak (av hu) (gO (pv 0) FK_c_words) ac (fun _ _=>rfl))))
abbrev jr:Stmt:=mtop 75 2
theorem sc_Rule_spots:aw ["self"] ["self"] (ai jr):=⟨rfl,rfl,rfl,by decide+kernel,rfl,by decide+kernel,by decide+kernel⟩
set_option maxHeartbeats 4000000 in
theorem pW {P:Program} {w:World} {K:PySem.W.Frag} {mg:Str→Option Value} {base:Heap} (B:Bt2 mg) {c:RCl RK} (FK_c_cells:FldK K c "cells") {f:Addr} {fd:FuncData} (F:Fun K "spots" "Rule.spots" jr f fd):FnOk P w K mg base CX0 1 f fd ["self"] (eX K c):=by
 refine F.ok sc_Rule_spots (fun vs H Q E h=>pN h) (fun cdv A outer s H vs Q E hr h=>?_)
 have hu:=hr.units
 have nd:=sc_Rule_spots.nd
 refine ⟨e7 K c,?_,pO h⟩
 exact (af (am (dP ki rfl B.list_ i9 (ab (gO (pv 0) FK_c_cells) ad))))
abbrev jR:Stmt:=mtop 75 4
theorem sc_Rule_sign:aw ["self"] ["self"] (ai jR):=⟨rfl,rfl,rfl,by decide+kernel,rfl,by decide+kernel,by decide+kernel⟩
set_option maxHeartbeats 4000000 in
theorem rp {P:Program} {w:World} {K:PySem.W.Frag} {mg:Str→Option Value} {base:Heap} (B:Bt2 mg) {c:RCl RK} (FK_c_mark:FldK K c "mark") {f:Addr} {fd:FuncData} (F:Fun K "sign" "Rule.sign" jR f fd):FnOk P w K mg base CX0 1 f fd ["self"] (ge K c):=by
 refine F.ok sc_Rule_sign (fun vs H Q E h=>qI h) (fun cdv A outer s H vs Q E hr h=>?_)
 have hu:=hr.units
 have nd:=sc_Rule_sign.nd
 refine ⟨gf K c,?_,qJ h⟩
 exact (af (am (gO (pv 0) FK_c_mark)))
abbrev jS:Stmt:=top 91
theorem sc_number_in:aw ["word"] ["word"] (ai jS):=⟨rfl,rfl,rfl,by decide+kernel,rfl,by decide+kernel,by decide+kernel⟩
set_option maxHeartbeats 4000000 in
theorem rq {P:Program} {w:World} {K:PySem.W.Frag} {mg:Str→Option Value} {base:Heap} (B:Bt2 mg) {t_FIGURES:Tok} (CD:mg "FIGURES"=some (.str (tx [48,49,50,51,52,53,54,55,56,57]) t_FIGURES)) {t_MOST_FIGURES:Tok} (AH:mg "MOST_FIGURES"=some (.int 9 t_MOST_FIGURES)) {f:Addr} {fd:FuncData} (F:Fun K "number_in" "number_in" jS f fd):FnOk P w K mg base CX0 1 f fd ["word"] (cP K):=by
 refine F.ok sc_number_in (fun vs H Q E h=>qK h) (fun cdv A outer s H vs Q E hr h=>?_)
 have hu:=hr.units
 have nd:=sc_number_in.nd
 refine ⟨gg K,?_,qL h⟩
 exact (ae (aB (PW.pt (cq (aq (aL hu) (pv 0) aT (ap _)) (cq (aq di (aC aN rfl B.len_ aX (ab (pv 0) ad)) (cI rfl AH ⟨t_MOST_FIGURES,rfl⟩) (ap _)) (cJ (PW.pt (jf (aq (aL hu) (ak (av hu) (pv 0) ac (fun _ _=>rfl)) aT (ap _)) (gz (aq (bm hu) (pv 0) aT (ap _))))))))) (af (am qe)) au)
   (ae (aB (bU (a9 (aC (jE rfl) rfl B.all_ nE (ab (bh (ix:=[none,none]) [".0","figure"] (aZ rfl (by decide+kernel) rfl rfl rfl) rfl (xV (pv 0)) (fun cl s H fp=>(aE (i:=1) (show ([".0","figure"]:List Str).Nodup by decide+kernel) rfl (Or.inl rfl))) (fun cl s H fp=>d6) (fun cl s H fp=>(aJ (j4 hu) (pv 1) (cI rfl CD ⟨t_FIGURES,rfl⟩) (by with_unfolding_all rfl)))) ad)))) (af (am qe)) au)
   (af (am (dP tD rfl B.int_ uO (ab (pv 0) ad))))))
abbrev gS:Stmt:=mtop 104 1
theorem sc_Puzzle_place:aw ["self"] ["self"] (ai gS):=⟨rfl,rfl,rfl,by decide+kernel,rfl,by decide+kernel,by decide+kernel⟩
set_option maxHeartbeats 4000000 in
theorem oJ {P:Program} {w:World} {K:PySem.W.Frag} {mg:Str→Option Value} {base:Heap} (B:Bt2 mg) {c:RCl RK} {d:RCl PzK} (FK_d_floor:FldK K d "floor") {f:Addr} {fd:FuncData} (F:Fun K "place" "Puzzle.place" gS f fd):FnOk P w K mg base CX0 1 f fd ["self"] (dA K c d):=by
 refine F.ok sc_Puzzle_place (fun vs H Q E h=>nV h) (fun cdv A outer s H vs Q E hr h=>?_)
 have hu:=hr.units
 have nd:=sc_Puzzle_place.nd
 refine ⟨dB K c d,?_,nX h⟩
 exact (af (am (gO (pv 0) FK_d_floor)))
abbrev gU:Stmt:=mtop 104 4
theorem sc_Puzzle_rules:aw ["self"] ["self"] (ai gU):=⟨rfl,rfl,rfl,by decide+kernel,rfl,by decide+kernel,by decide+kernel⟩
set_option maxHeartbeats 4000000 in
theorem oK {P:Program} {w:World} {K:PySem.W.Frag} {mg:Str→Option Value} {base:Heap} (B:Bt2 mg) {c:RCl RK} {d:RCl PzK} (FK_d_laws:FldK K d "laws") {f:Addr} {fd:FuncData} (F:Fun K "rules" "Puzzle.rules" gU f fd):FnOk P w K mg base CX0 1 f fd ["self"] (dC K c d):=by
 refine F.ok sc_Puzzle_rules (fun vs H Q E h=>nY h) (fun cdv A outer s H vs Q E hr h=>?_)
 have hu:=hr.units
 have nd:=sc_Puzzle_rules.nd
 refine ⟨dD K c d,?_,nZ h⟩
 exact (af (am (dP ki rfl B.list_ i9 (ab (gO (pv 0) FK_d_laws) ad))))
abbrev gW:Stmt:=top 106
theorem sc__law_cell_at:aw ["_law_script","_law_k","_law_number"] ["_law_script","_law_k"] (ai gW):=⟨rfl,rfl,rfl,by decide+kernel,rfl,by decide+kernel,by decide+kernel⟩
set_option maxHeartbeats 4000000 in
theorem oM {P:Program} {w:World} {K:PySem.W.Frag} {mg:Str→Option Value} {base:Heap} (B:Bt2 mg) {f:Addr} {fd:FuncData} (F:Fun K "_law_cell_at" "_law_cell_at" gW f fd):FnOk P w K mg base CX0 1 f fd ["_law_script","_law_k"] (az K):=by
 refine F.ok sc__law_cell_at (fun vs H Q E h=>og h) (fun cdv A outer s H vs Q E hr h=>?_)
 have hu:=hr.units
 have nd:=sc__law_cell_at.nd
 refine ⟨dG K,?_,oh h⟩
 exact (ae (aB (aq (aL hu) (aC fG rfl B.len_ aX (ab (pv 0) ad)) ac (ap _)) (af (am (ah aI (ah aD (ah be (ah be (pv 1) (pv 1)) ac) (ah be ac (pv 1))) ac))) au)
   (ae (ax (i:=2) nd rfl (Or.inl rfl) (ah aI (ak sx (pv 0) (ah aI (pv 1) (aC fG rfl B.len_ aX (ab (pv 0) ad))) (fun _ _=>rfl)) ac))
   (ae (aB (aq bG (pv 1) (aC fG rfl B.len_ aX (ab (pv 0) ad)) (ap _)) (af (am (pv 2))) au)
   (af (am (ah aI (ah aD (ah be (pv 2) ac) (ah be (ah be (pv 1) (pv 1)) ac)) ac))))))
abbrev js:Stmt:=top 107
theorem sc__law_floor:aw ["_law_cell","_law_high","_law_wide"] ["_law_cell"] (ai js):=⟨rfl,rfl,rfl,by decide+kernel,rfl,by decide+kernel,by decide+kernel⟩
set_option maxHeartbeats 4000000 in
theorem pX {P:Program} {w:World} {K:PySem.W.Frag} {mg:Str→Option Value} {base:Heap} (B:Bt2 mg) {f:Addr} {fd:FuncData} (F:Fun K "_law_floor" "_law_floor" js f fd):FnOk P w K mg base CX0 1 f fd ["_law_cell"] (bM K):=by
 refine F.ok sc__law_floor (fun vs H Q E h=>oi h) (fun cdv A outer s H vs Q E hr h=>?_)
 have hu:=hr.units
 have nd:=sc__law_floor.nd
 refine ⟨dH K,?_,oj h⟩
 exact (ae (ax (i:=1) nd rfl (Or.inl rfl) (ah aD ac (ah aI (pv 0) ac)))
   (ae (ax (i:=2) nd rfl (Or.inl rfl) (ah aD ac (ah aI (ah bj (pv 0) ac) (aC (uK rfl) rfl B.min_ xQ (ab ac (ab (ah bj ac (pv 1)) ad))))))
   (af (am (dO (ab (pv 1) (ab (pv 2) (ab (ah aD ac (ah aI (ah bj (pv 0) ac) ac)) ad))))))))
abbrev jT:Stmt:=top 110
theorem sc__law_only:aw ["_law_mask","_law_sign"] ["_law_mask","_law_sign"] (ai jT):=⟨rfl,rfl,rfl,by decide+kernel,rfl,by decide+kernel,by decide+kernel⟩
set_option maxHeartbeats 4000000 in
theorem rz {P:Program} {w:World} {K:PySem.W.Frag} {mg:Str→Option Value} {base:Heap} (B:Bt2 mg) {f:Addr} {fd:FuncData} (F:Fun K "_law_only" "_law_only" jT f fd):FnOk P w K mg base CX0 1 f fd ["_law_mask","_law_sign"] (cS K):=by
 refine F.ok sc__law_only (fun vs H Q E h=>qS h) (fun cdv A outer s H vs Q E hr h=>?_)
 have hu:=hr.units
 have nd:=sc__law_only.nd
 refine ⟨gl K,?_,qT h⟩
 exact (af (am (aJ (aL hu) (ah wK (pv 0) (ah j5 ac (ah bd (pv 1) ac))) (pv 0) (ap _))))
abbrev jU:Stmt:=top 111
theorem sc__law_near:aw ["_law_floor_here","_law_cell","_law_row","_law_column","_law_found","_law_down","_law_right"] ["_law_floor_here","_law_cell"] (ai jU):=⟨rfl,rfl,rfl,by decide+kernel,rfl,by decide+kernel,by decide+kernel⟩
set_option maxHeartbeats 4000000 in
theorem rA {P:Program} {w:World} {K:PySem.W.Frag} {mg:Str→Option Value} {base:Heap} (B:Bt2 mg) (BX_divmod:mg "divmod"=none) {f:Addr} {fd:FuncData} (F:Fun K "_law_near" "_law_near" jU f fd):FnOk P w K mg base CX0 1 f fd ["_law_floor_here","_law_cell"] (bI K):=by
 refine F.ok sc__law_near (fun vs H Q E h=>rh h) (fun cdv A outer s H vs Q E hr h=>?_)
 have hu:=hr.units
 have nd:=sc__law_near.nd
 refine ⟨gq K,?_,rj h⟩
 exact (ae (fE (aC jn rfl BX_divmod ls (ab (pv 1) (ab (ak (av hu) (pv 0) ac (fun _ _=>rfl)) ad))) (kT rfl (cy (aE (i:=2) nd rfl (Or.inl rfl)) (cy (aE (i:=3) nd rfl (Or.inl rfl)) jZ))))
   (ae (ax (i:=4) nd rfl (Or.inl rfl) (aK ad))
   (ae (cf PassesOwn.never rfl (aY (aK (ab (dO (ab (ah bd (pv 2) ac) (ab (pv 3) ad))) (ab (dO (ab (pv 2) (ab (ah bd (pv 3) ac) ad))) (ab (dO (ab (pv 2) (ab (ah aD (pv 3) ac) ad))) (ab (dO (ab (ah aD (pv 2) ac) (ab (pv 3) ad))) ad)))))) (kT rfl (cy (aE (i:=5) nd rfl (Or.inl rfl)) (cy (aE (i:=6) nd rfl (Or.inl rfl)) jZ)))
   (af (aB (PW.pt (jf (kf dQ bG ac (pv 5) (ak (av hu) (pv 0) ac (fun _ _=>rfl))) (gz (kf dQ bG ac (pv 6) (ak (av hu) (pv 0) ac (fun _ _=>rfl)))))) (af (d5 (g8 PySem.F.plainAttrs_list PySem.F.slot_list_append PySem.F.type_list_append bW (pv 4) (ab (ah aD (ah be (pv 5) (ak (av hu) (pv 0) ac (fun _ _=>rfl))) (pv 6)) ad)))) au)))
   (af (am (pv 4))))))
abbrev fh:Stmt:=top 114
theorem sc__law_unsquared:aw ["_law_floor_here","_law_filling_here","_law_sign","_law_other","_law_k","_law_row","_law_column","_law_square"] ["_law_floor_here","_law_filling_here","_law_sign","_law_other"] (ai fh):=⟨rfl,rfl,rfl,by decide+kernel,rfl,by decide+kernel,by decide+kernel⟩
set_option maxHeartbeats 4000000 in
theorem mv {P:Program} {w:World} {K:PySem.W.Frag} {mg:Str→Option Value} {base:Heap} (B:Bt2 mg) (BX_divmod:mg "divmod"=none) {f:Addr} {fd:FuncData} (F:Fun K "_law_unsquared" "_law_unsquared" fh f fd):FnOk P w K mg base CX0 1 f fd ["_law_floor_here","_law_filling_here","_law_sign","_law_other"] (bf K):=by
 refine F.ok sc__law_unsquared (fun vs H Q E h=>kR h) (fun cdv A outer s H vs Q E hr h=>?_)
 have hu:=hr.units
 have nd:=sc__law_unsquared.nd
 refine ⟨cj K,?_,kS h⟩
 exact (ae (cf PassesOwn.never rfl (bv rfl B.range_ (ab (aC aN rfl B.len_ aX (ab (pv 1) ad)) ad)) (aE (i:=4) nd rfl (Or.inl rfl))
   (ae (fE (aC jn rfl BX_divmod ls (ab (pv 4) (ab (ak (av hu) (pv 0) ac (fun _ _=>rfl)) ad))) (kT rfl (cy (aE (i:=5) nd rfl (Or.inl rfl)) (cy (aE (i:=6) nd rfl (Or.inl rfl)) jZ))))
   (af (aB (PW.pt (jf (aq bG (ah aD (pv 5) ac) (ak (av hu) (pv 0) ac (fun _ _=>rfl)) (ap _)) (gz (aq bG (ah aD (pv 6) ac) (ak (av hu) (pv 0) ac (fun _ _=>rfl)) (ap _))))) (ae (ax (i:=7) nd rfl (Or.inl rfl) (aK (ab (pv 4) (ab (ah aD (pv 4) ac) (ab (ah aD (pv 4) (ak (av hu) (pv 0) ac (fun _ _=>rfl))) (ab (ah aD (ah aD (pv 4) (ak (av hu) (pv 0) ac (fun _ _=>rfl))) ac) ad))))))
   (af (aB (aq (aL hu) (bh (ix:=[none,none,some 1,some 2]) [".0","_law_cell","_law_filling_here","_law_sign"] (aZ rfl (by decide+kernel) rfl rfl rfl) rfl (aY (pv 7)) (fun cl s H fp=>(aE (i:=1) (show ([".0","_law_cell","_law_filling_here","_law_sign"]:List Str).Nodup by decide+kernel) rfl (Or.inl rfl))) (fun cl s H fp=>(cK (aq (bm hu) (ak (av hu) (pv 2) (pv 1) (fun _ _=>rfl)) (pv 3) (ap _)))) (fun cl s H fp=>(pv 1))) (aK ad) (ap _)) (af (fE (pv 3) (j2 (pv 1) (ak (av hu) (pv 7) (ah aI (ah aD (pv 4) (pv 3)) ac) (fun _ _=>rfl)) (lW hu)))) au))) au))))
   (af (am (pv 1))))
abbrev fj:Stmt:=top 11
theorem sc_is_from_one_to:aw ["value","most"] ["value","most"] (ai fj):=⟨rfl,rfl,rfl,by decide+kernel,rfl,by decide+kernel,by decide+kernel⟩
set_option maxHeartbeats 4000000 in
theorem mw {P:Program} {w:World} {K:PySem.W.Frag} {mg:Str→Option Value} {base:Heap} (B:Bt2 mg) (y7:Cal P w K mg base 1 "is_whole" ["value"] (aU K)) {f:Addr} {fd:FuncData} (F:Fun K "is_from_one_to" "is_from_one_to" fj f fd):FnOk P w K mg base CX0 2 f fd ["value","most"] (aQ K):=by
 refine F.ok sc_is_from_one_to (fun vs H Q E h=>me h) (fun cdv A outer s H vs Q E hr h=>?_)
 have hu:=hr.units
 have nd:=sc_is_from_one_to.nd
 refine ⟨cE K,?_,mf h⟩
 exact (af (am (bx (ao y7 hr (by decide) rfl (ab (pv 0) ad)) (bx (aJ dQ ac (pv 0) (ap _)) (bV (aJ dQ (pv 0) (pv 1) (ap _)))))))
abbrev m9:Stmt:=top 15
theorem sc_beside:aw ["floor","cell","high","wide","spot","found"] ["floor","cell"] (ai m9):=⟨rfl,rfl,rfl,by decide+kernel,rfl,by decide+kernel,by decide+kernel⟩
set_option maxHeartbeats 4000000 in
theorem vG {P:Program} {w:World} {K:PySem.W.Frag} {mg:Str→Option Value} {base:Heap} (B:Bt2 mg) (An:Cal P w K mg base 1 "spot_of" ["floor","cell"] (cu K)) {f:Addr} {fd:FuncData} (F:Fun K "beside" "beside" m9 f fd):FnOk P w K mg base CX0 2 f fd ["floor","cell"] (bH K):=by
 refine F.ok sc_beside (fun vs H Q E h=>uY h) (fun cdv A outer s H vs Q E hr h=>?_)
 have hu:=hr.units
 have nd:=sc_beside.nd
 refine ⟨jF K,?_,uZ h⟩
 exact (ae (ax (i:=2) nd rfl (Or.inl rfl) (ak (av hu) (pv 0) ac (fun _ _=>rfl)))
   (ae (ax (i:=3) nd rfl (Or.inl rfl) (ak (av hu) (pv 0) ac (fun _ _=>rfl)))
   (ae (ax (i:=4) nd rfl (Or.inl rfl) (ao An hr (by decide) rfl (ab (pv 0) (ab (pv 1) ad))))
   (ae (ax (i:=5) nd rfl (Or.inl rfl) (aK ad))
   (ae (aB (aq di (ak (av hu) (pv 4) ac (fun _ _=>rfl)) ac (ap _)) (af (d5 (g8 PySem.F.plainAttrs_list PySem.F.slot_list_append PySem.F.type_list_append bW (pv 5) (ab (ah bd (pv 1) (pv 3)) ad)))) au)
   (ae (aB (aq di (ak (av hu) (pv 4) ac (fun _ _=>rfl)) ac (ap _)) (af (d5 (g8 PySem.F.plainAttrs_list PySem.F.slot_list_append PySem.F.type_list_append bW (pv 5) (ab (ah bd (pv 1) ac) ad)))) au)
   (ae (aB (aq bG (ak (av hu) (pv 4) ac (fun _ _=>rfl)) (ah bd (pv 3) ac) (ap _)) (af (d5 (g8 PySem.F.plainAttrs_list PySem.F.slot_list_append PySem.F.type_list_append bW (pv 5) (ab (ah aD (pv 1) ac) ad)))) au)
   (ae (aB (aq bG (ak (av hu) (pv 4) ac (fun _ _=>rfl)) (ah bd (pv 2) ac) (ap _)) (af (d5 (g8 PySem.F.plainAttrs_list PySem.F.slot_list_append PySem.F.type_list_append bW (pv 5) (ab (ah aD (pv 1) (pv 3)) ad)))) au)
   (af (am (pv 5)))))))))))
abbrev jV:Stmt:=top 16
theorem sc_is_corner:aw ["floor","cell","spot"] ["floor","cell"] (ai jV):=⟨rfl,rfl,rfl,by decide+kernel,rfl,by decide+kernel,by decide+kernel⟩
set_option maxHeartbeats 4000000 in
theorem rB {P:Program} {w:World} {K:PySem.W.Frag} {mg:Str→Option Value} {base:Heap} (B:Bt2 mg) (An:Cal P w K mg base 1 "spot_of" ["floor","cell"] (cu K)) {f:Addr} {fd:FuncData} (F:Fun K "is_corner" "is_corner" jV f fd):FnOk P w K mg base CX0 2 f fd ["floor","cell"] (cN K):=by
 refine F.ok sc_is_corner (fun vs H Q E h=>qC h) (fun cdv A outer s H vs Q E hr h=>?_)
 have hu:=hr.units
 have nd:=sc_is_corner.nd
 refine ⟨ga K,?_,qD h⟩
 exact (ae (ax (i:=2) nd rfl (Or.inl rfl) (ao An hr (by decide) rfl (ab (pv 0) (ab (pv 1) ad))))
   (af (am (bx (aJ bG (ak (av hu) (pv 2) ac (fun _ _=>rfl)) (ah bd (ak (av hu) (pv 0) ac (fun _ _=>rfl)) ac) (ap _)) (bV (aJ bG (ak (av hu) (pv 2) ac (fun _ _=>rfl)) (ah bd (ak (av hu) (pv 0) ac (fun _ _=>rfl)) ac) (ap _)))))))
abbrev lG:Stmt:=top 23
theorem sc_without:aw ["mask","sign"] ["mask","sign"] (ai lG):=⟨rfl,rfl,rfl,by decide+kernel,rfl,by decide+kernel,by decide+kernel⟩
set_option maxHeartbeats 4000000 in
theorem t8 {P:Program} {w:World} {K:PySem.W.Frag} {mg:Str→Option Value} {base:Heap} (B:Bt2 mg) (Dy:Cal P w K mg base 1 "bit_of" ["sign"] (fB K)) (zh:Cal P w K mg base 1 "stands" ["mask","sign"] (b7 K)) {f:Addr} {fd:FuncData} (F:Fun K "without" "without" lG f fd):FnOk P w K mg base CX0 2 f fd ["mask","sign"] (ei K):=by
 refine F.ok sc_without (fun vs H Q E h=>tJ h) (fun cdv A outer s H vs Q E hr h=>?_)
 have hu:=hr.units
 have nd:=sc_without.nd
 refine ⟨iV K,?_,tK h⟩
 exact (af (am (vK (a9 (ao zh hr (by decide) rfl (ab (pv 0) (ab (pv 1) ad)))) (ah bd (pv 0) (ao Dy hr (by decide) rfl (ab (pv 1) ad))) (pv 0))))
abbrev lH:Stmt:=top 31
theorem sc_is_cell:aw ["floor","value"] ["floor","value"] (ai lH):=⟨rfl,rfl,rfl,by decide+kernel,rfl,by decide+kernel,by decide+kernel⟩
set_option maxHeartbeats 4000000 in
theorem t9 {P:Program} {w:World} {K:PySem.W.Frag} {mg:Str→Option Value} {base:Heap} (B:Bt2 mg) (y7:Cal P w K mg base 1 "is_whole" ["value"] (aU K)) (yZ:Cal P w K mg base 1 "many_cells" ["floor"] (aP K)) {f:Addr} {fd:FuncData} (F:Fun K "is_cell" "is_cell" lH f fd):FnOk P w K mg base CX0 2 f fd ["floor","value"] (cx K):=by
 refine F.ok sc_is_cell (fun vs H Q E h=>tL h) (fun cdv A outer s H vs Q E hr h=>?_)
 have hu:=hr.units
 have nd:=sc_is_cell.nd
 refine ⟨iW K,?_,tM h⟩
 exact (af (am (bx (ao y7 hr (by decide) rfl (ab (pv 1) ad)) (bx (aJ dQ ac (pv 1) (ap _)) (bV (aJ bG (pv 1) (ao yZ hr (by decide) rfl (ab (pv 0) ad)) (ap _)))))))
abbrev lI:Stmt:=top 33
theorem sc_goes_by:aw ["kind","rule"] ["kind","rule"] (ai lI):=⟨rfl,rfl,rfl,by decide+kernel,rfl,by decide+kernel,by decide+kernel⟩
set_option maxHeartbeats 4000000 in
theorem ua {P:Program} {w:World} {K:PySem.W.Frag} {mg:Str→Option Value} {base:Heap} (B:Bt2 mg) {c:RCl RK} (EA:MCal P w K mg base c c.ok 1 "name" ["self"] (l7 K c)) (Ap:GDict w K mg "RULES_OF_KIND" gd_RULES_OF_KIND) {f:Addr} {fd:FuncData} (F:Fun K "goes_by" "goes_by" lI f fd):FnOk P w K mg base CX0 2 f fd ["kind","rule"] (en K c):=by
 refine F.ok sc_goes_by (fun vs H Q E h=>tP h) (fun cdv A outer s H vs Q E hr h=>?_)
 have hu:=hr.units
 have nd:=sc_goes_by.nd
 refine ⟨iY K c,?_,tQ h⟩
 exact (af (am (sJ (aJ (aL hu) (pv 0) aT (ap _)) (bV (aJ yd (bZ EA hr (by decide) (pv 1)) (yc Ap (pv 0) rfl (fun _ _=>rfl)) (by with_unfolding_all rfl))))))
abbrev nc:Stmt:=top 36
theorem sc_others:aw ["rule","cell"] ["rule","cell"] (ai nc):=⟨rfl,rfl,rfl,by decide+kernel,rfl,by decide+kernel,by decide+kernel⟩
set_option maxHeartbeats 4000000 in
theorem vH {P:Program} {w:World} {K:PySem.W.Frag} {mg:Str→Option Value} {base:Heap} (B:Bt2 mg) {c:RCl RK} (Bo:MCal P w K mg base c c.ok 1 "spots" ["self"] (gP K c)) {f:Addr} {fd:FuncData} (F:Fun K "others" "others" nc f fd):FnOk P w K mg base CX0 2 f fd ["rule","cell"] (fC K c):=by
 refine F.ok sc_others (fun vs H Q E h=>vj h) (fun cdv A outer s H vs Q E hr h=>?_)
 have hu:=hr.units
 have nd:=sc_others.nd
 refine ⟨jK K c,?_,vk h⟩
 exact (af (am (bh (ix:=[none,none,some 1]) [".0","spot","cell"] (aZ rfl (by decide+kernel) rfl rfl rfl) rfl (aY (bZ Bo hr (by decide) (pv 0))) (fun cl s H fp=>(aE (i:=1) (show ([".0","spot","cell"]:List Str).Nodup by decide+kernel) rfl (Or.inl rfl))) (fun cl s H fp=>(cK (aq (bm hu) (pv 1) (pv 2) (ap _)))) (fun cl s H fp=>(pv 1)))))
abbrev kI:Stmt:=top 39
theorem sc_many_may:aw ["some","sign"] ["some","sign"] (ai kI):=⟨rfl,rfl,rfl,by decide+kernel,rfl,by decide+kernel,by decide+kernel⟩
set_option maxHeartbeats 4000000 in
theorem sj {P:Program} {w:World} {K:PySem.W.Frag} {mg:Str→Option Value} {base:Heap} (B:Bt2 mg) (zh:Cal P w K mg base 1 "stands" ["mask","sign"] (b7 K)) {f:Addr} {fd:FuncData} (F:Fun K "many_may" "many_may" kI f fd):FnOk P w K mg base CX0 2 f fd ["some","sign"] (cB K):=by
 refine F.ok sc_many_may (fun vs H Q E h=>se h) (fun cdv A outer s H vs Q E hr h=>?_)
 have hu:=hr.units
 have nd:=sc_many_may.nd
 refine ⟨ig K,?_,sf h⟩
 exact (af (am (aC aN rfl B.len_ aX (ab (bh (ix:=[none,none,some 1]) [".0","mask","sign"] (aZ rfl (by decide+kernel) rfl rfl rfl) rfl (aY (pv 0)) (fun cl s H fp=>(aE (i:=1) (show ([".0","mask","sign"]:List Str).Nodup by decide+kernel) rfl (Or.inl rfl))) (fun cl s H fp=>(cK (a9 (ao zh hr (by decide) rfl (ab (pv 1) (ab (pv 2) ad)))))) (fun cl s H fp=>(pv 1))) ad))))
abbrev gt:Stmt:=top 92
theorem sc_number_within:aw ["word","least","most","number"] ["word","least","most"] (ai gt):=⟨rfl,rfl,rfl,by decide+kernel,rfl,by decide+kernel,by decide+kernel⟩
set_option maxHeartbeats 4000000 in
theorem ng {P:Program} {w:World} {K:PySem.W.Frag} {mg:Str→Option Value} {base:Heap} (B:Bt2 mg) (BP:Cal P w K mg base 1 "number_in" ["word"] (cP K)) {f:Addr} {fd:FuncData} (F:Fun K "number_within" "number_within" gt f fd):FnOk P w K mg base CX0 2 f fd ["word","least","most"] (a8 K):=by
 refine F.ok sc_number_within (fun vs H Q E h=>mR h) (fun cdv A outer s H vs Q E hr h=>?_)
 have hu:=hr.units
 have nd:=sc_number_within.nd
 refine ⟨c6 K,?_,mS h⟩
 exact (ae (ax (i:=3) nd rfl (Or.inl rfl) (ao BP hr (by decide) rfl (ab (pv 0) ad)))
   (ae (aB (PW.pt (cq (aq xE (pv 3) qe (ap _)) (cq (aq bG (pv 3) (pv 1) (ap _)) (cJ (aq di (pv 3) (pv 2) (ap _)))))) (af bo) au)
   (af (am (pv 3)))))
abbrev jt:Stmt:=top 102
theorem sc_is_filling:aw ["floor","filling","least"] ["floor","filling","least"] (ai jt):=⟨rfl,rfl,rfl,by decide+kernel,rfl,by decide+kernel,by decide+kernel⟩
set_option maxHeartbeats 4000000 in
theorem pY {P:Program} {w:World} {K:PySem.W.Frag} {mg:Str→Option Value} {base:Heap} (B:Bt2 mg) (y7:Cal P w K mg base 1 "is_whole" ["value"] (aU K)) (yZ:Cal P w K mg base 1 "many_cells" ["floor"] (aP K)) {f:Addr} {fd:FuncData} (F:Fun K "is_filling" "is_filling" jt f fd):FnOk P w K mg base CX0 2 f fd ["floor","filling","least"] (cp K):=by
 refine F.ok sc_is_filling (fun vs H Q E h=>pT h) (fun cdv A outer s H vs Q E hr h=>?_)
 have hu:=hr.units
 have nd:=sc_is_filling.nd
 refine ⟨fc K,?_,pU h⟩
 exact (ae (aB (PW.pt (cq (bU (a9 (aC dR rfl B.isinstance_ bS (ab (pv 1) (ab (gy (v:=.ty "list") rfl B.list_ i9 rfl) ad))))) (cJ (aq (bm hu) (aC aN rfl B.len_ aX (ab (pv 1) ad)) (ao yZ hr (by decide) rfl (ab (pv 0) ad)) (ap _))))) (af (am eP)) au)
   (af (am (aC (jE rfl) rfl B.all_ nE (ab (bh (ix:=[none,none,some 0,some 2]) [".0","sign","floor","least"] (aZ rfl (by decide+kernel) rfl rfl rfl) rfl (aY (pv 1)) (fun cl s H fp=>(aE (i:=1) (show ([".0","sign","floor","least"]:List Str).Nodup by decide+kernel) rfl (Or.inl rfl))) (fun cl s H fp=>d6) (fun cl s H fp=>(bx (ao y7 hr (by decide) rfl (ab (pv 1) ad)) (bx (aJ dQ (pv 3) (pv 1) (ap _)) (bV (aJ dQ (pv 1) (ak (av hu) (pv 2) ac (fun _ _=>rfl)) (ap _))))))) ad)))))
abbrev ju:Stmt:=top 109
theorem sc__law_masks:aw ["_law_script","_law_at","_law_many","_law_signs","_law_masks_here","_law_k","_law_one"] ["_law_script","_law_at","_law_many","_law_signs"] (ai ju):=⟨rfl,rfl,rfl,by decide+kernel,rfl,by decide+kernel,by decide+kernel⟩
set_option maxHeartbeats 4000000 in
theorem pZ {P:Program} {w:World} {K:PySem.W.Frag} {mg:Str→Option Value} {base:Heap} (B:Bt2 mg) (yW:Cal P w K mg base 1 "_law_cell_at" ["_law_script","_law_k"] (az K)) {f:Addr} {fd:FuncData} (F:Fun K "_law_masks" "_law_masks" ju f fd):FnOk P w K mg base CX0 2 f fd ["_law_script","_law_at","_law_many","_law_signs"] (bN K):=by
 refine F.ok sc__law_masks (fun vs H Q E h=>oq h) (fun cdv A outer s H vs Q E hr h=>?_)
 have hu:=hr.units
 have nd:=sc__law_masks.nd
 refine ⟨dI K,?_,or h⟩
 exact (ae (ax (i:=4) nd rfl (Or.inl rfl) (aK ad))
   (ae (cf PassesOwn.never rfl (bv rfl B.range_ (ab (pv 2) ad)) (aE (i:=5) nd rfl (Or.inl rfl))
   (ae (ax (i:=6) nd rfl (Or.inl rfl) (ao yW hr (by decide) rfl (ab (pv 0) (ab (ah aD (pv 1) (pv 5)) ad))))
   (ae (d5 (g8 PySem.F.plainAttrs_list PySem.F.slot_list_append PySem.F.type_list_append bW (pv 4) (ab (ah aI (ah uT (ah bj (pv 6) ac) (ah be (ah aI (ah bj (pv 6) ac) ac) (ah bj (pv 6) ac))) (ah j5 ac (pv 3))) ad)))
   (af (aB (aq di (ah aI (pv 6) ac) ac (ap _)) (af (fE (ah j5 ac (ah aI (ah bj (pv 6) ac) (pv 3))) (j2 (pv 4) (pv 5) (lW hu)))) au)))))
   (af (am (pv 4)))))
abbrev jv:Stmt:=top 112
theorem sc__law_grown:aw ["_law_script","_law_floor_here","_law_many","_law_some","_law_k","_law_near_here","_law_cell"] ["_law_script","_law_floor_here"] (ai jv):=⟨rfl,rfl,rfl,by decide+kernel,rfl,by decide+kernel,by decide+kernel⟩
set_option maxHeartbeats 4000000 in
theorem p5 {P:Program} {w:World} {K:PySem.W.Frag} {mg:Str→Option Value} {base:Heap} (B:Bt2 mg) (yW:Cal P w K mg base 1 "_law_cell_at" ["_law_script","_law_k"] (az K)) (zk:Cal P w K mg base 1 "_law_near" ["_law_floor_here","_law_cell"] (bI K)) {f:Addr} {fd:FuncData} (F:Fun K "_law_grown" "_law_grown" jv f fd):FnOk P w K mg base CX0 2 f fd ["_law_script","_law_floor_here"] (bP K):=by
 refine F.ok sc__law_grown (fun vs H Q E h=>oA h) (fun cdv A outer s H vs Q E hr h=>?_)
 have hu:=hr.units
 have nd:=sc__law_grown.nd
 refine ⟨dL K,?_,oB h⟩
 exact (ae (ax (i:=2) nd rfl (Or.inl rfl) (ah be (ak (av hu) (pv 1) ac (fun _ _=>rfl)) (ak (av hu) (pv 1) ac (fun _ _=>rfl))))
   (ae (ax (i:=3) nd rfl (Or.inr rfl) (aK (ab (ah aI (ao yW hr (by decide) rfl (ab (pv 0) (ab ac ad))) (pv 2)) ad)))
   (ae (cf PassesOwn.never rfl (bv rfl B.range_ (ab (ah aI (ao yW hr (by decide) rfl (ab (pv 0) (ab ac ad))) (pv 2)) ad)) (aE (i:=4) nd rfl (Or.inl rfl))
   (ae (ax (i:=5) nd rfl (Or.inl rfl) (aK ad))
   (ae (cf PassesOwn.never rfl (aY (pv 3)) (aE (i:=6) nd rfl (Or.inl rfl))
   (af (ax (i:=5) nd rfl (Or.inl rfl) (ah aD (pv 5) (bh (ix:=[none,none,some 3]) [".0","_law_other","_law_some"] (aZ rfl (by decide+kernel) rfl rfl rfl) rfl (aY (ao zk hr (by decide) rfl (ab (pv 1) (ab (pv 6) ad)))) (fun cl s H fp=>(aE (i:=1) (show ([".0","_law_other","_law_some"]:List Str).Nodup by decide+kernel) rfl (Or.inl rfl))) (fun cl s H fp=>(cK (aq (ft hu) (pv 1) (pv 2) (by with_unfolding_all rfl)))) (fun cl s H fp=>(pv 1)))))))
   (af (aB (aq (bm hu) (pv 5) (aK ad) (ap _)) (af (d5 (g8 PySem.F.plainAttrs_list PySem.F.slot_list_append PySem.F.type_list_append bW (pv 3) (ab (ak (av hu) (pv 5) (ah aI (ao yW hr (by decide) rfl (ab (pv 0) (ab (ah aD ac (pv 4)) ad))) (aC aN rfl B.len_ aX (ab (pv 5) ad))) (fun _ _=>rfl)) ad)))) au)))))
   (af (am (pv 3))))))
abbrev ik:Stmt:=top 113
theorem sc__law_border:aw ["_law_script","_law_floor_here","_law_cell","_law_top","_law_left","_law_high","_law_wide","_law_found","_law_k","_law_row","_law_column"] ["_law_script","_law_floor_here"] (ai ik):=⟨rfl,rfl,rfl,by decide+kernel,rfl,by decide+kernel,by decide+kernel⟩
set_option maxHeartbeats 4000000 in
theorem pe {P:Program} {w:World} {K:PySem.W.Frag} {mg:Str→Option Value} {base:Heap} (B:Bt2 mg) (yW:Cal P w K mg base 1 "_law_cell_at" ["_law_script","_law_k"] (az K)) (BX_divmod:mg "divmod"=none) {f:Addr} {fd:FuncData} (F:Fun K "_law_border" "_law_border" ik f fd):FnOk P w K mg base CX0 2 f fd ["_law_script","_law_floor_here"] (bC K):=by
 refine F.ok sc__law_border (fun vs H Q E h=>m3 h) (fun cdv A outer s H vs Q E hr h=>?_)
 have hu:=hr.units
 have nd:=sc__law_border.nd
 refine ⟨dc K,?_,m4 h⟩
 exact (ae (ax (i:=2) nd rfl (Or.inl rfl) (ao yW hr (by decide) rfl (ab (pv 0) (ab ac ad))))
   (ae (ax (i:=3) nd rfl (Or.inl rfl) (ah aI (pv 2) (ak (av hu) (pv 1) ac (fun _ _=>rfl))))
   (ae (ax (i:=4) nd rfl (Or.inl rfl) (ah aI (ah bj (pv 2) ac) (ak (av hu) (pv 1) ac (fun _ _=>rfl))))
   (ae (ax (i:=5) nd rfl (Or.inl rfl) (ah aD ac (ah aI (ah bj (pv 2) ac) ac)))
   (ae (ax (i:=6) nd rfl (Or.inl rfl) (ah aD ac (ah aI (ah bj (pv 2) ac) ac)))
   (ae (aB (PW.pt (cq (aq (aL hu) (pv 5) ac (ap _)) (cJ (aq (aL hu) (pv 6) ac (ap _))))) (ae (ax (i:=5) nd rfl (Or.inl rfl) ac)
   (af (ax (i:=6) nd rfl (Or.inl rfl) ac))) au)
   (ae (aB (PW.pt (cq (aq di (ah aD (pv 3) (pv 5)) (ak (av hu) (pv 1) ac (fun _ _=>rfl)) (ap _)) (cJ (aq di (ah aD (pv 4) (pv 6)) (ak (av hu) (pv 1) ac (fun _ _=>rfl)) (ap _))))) (af (am (aK ad))) au)
   (ae (ax (i:=7) nd rfl (Or.inl rfl) (aK ad))
   (ae (cf PassesOwn.never rfl (bv rfl B.range_ (ab (ah be (ak (av hu) (pv 1) ac (fun _ _=>rfl)) (ak (av hu) (pv 1) ac (fun _ _=>rfl))) ad)) (aE (i:=8) nd rfl (Or.inl rfl))
   (ae (fE (aC jn rfl BX_divmod ls (ab (pv 8) (ab (ak (av hu) (pv 1) ac (fun _ _=>rfl)) ad))) (kT rfl (cy (aE (i:=9) nd rfl (Or.inl rfl)) (cy (aE (i:=10) nd rfl (Or.inl rfl)) jZ))))
   (af (aB (PW.pt (jf (kf dQ bG (pv 3) (pv 9) (ah aD (pv 3) (pv 5))) (gz (kf dQ bG (pv 4) (pv 10) (ah aD (pv 4) (pv 6)))))) (af (aB (PW.pt (cq (aq (j4 hu) (pv 9) (dO (ab (pv 3) (ab (ah bd (ah aD (pv 3) (pv 5)) ac) ad))) (by with_unfolding_all rfl)) (cJ (aq (j4 hu) (pv 10) (dO (ab (pv 4) (ab (ah bd (ah aD (pv 4) (pv 6)) ac) ad))) (by with_unfolding_all rfl))))) (af (d5 (g8 PySem.F.plainAttrs_list PySem.F.slot_list_append PySem.F.type_list_append bW (pv 7) (ab (pv 8) ad)))) au)) au))))
   (af (am (pv 7))))))))))))
abbrev jw:Stmt:=top 116
theorem sc__law_mores:aw ["_law_script","_law_floor_here","_law_masks_here","_law_cell","_law_sign","_law_at","_law_many","_law_one","_law_must","_law_near_here","_law_number","_law_other","_law_corner"] ["_law_script","_law_floor_here","_law_masks_here","_law_cell","_law_sign","_law_at"] (ai jw):=⟨rfl,rfl,rfl,by decide+kernel,rfl,by decide+kernel,by decide+kernel⟩
set_option maxHeartbeats 4000000 in
theorem p6 {P:Program} {w:World} {K:PySem.W.Frag} {mg:Str→Option Value} {base:Heap} (B:Bt2 mg) (yW:Cal P w K mg base 1 "_law_cell_at" ["_law_script","_law_k"] (az K)) (zk:Cal P w K mg base 1 "_law_near" ["_law_floor_here","_law_cell"] (bI K)) (BQ:Cal P w K mg base 1 "_law_only" ["_law_mask","_law_sign"] (cS K)) {f:Addr} {fd:FuncData} (F:Fun K "_law_mores" "_law_mores" jw f fd):FnOk P w K mg base CX0 2 f fd ["_law_script","_law_floor_here","_law_masks_here","_law_cell","_law_sign","_law_at"] (bQ K):=by
 refine F.ok sc__law_mores (fun vs H Q E h=>oE h) (fun cdv A outer s H vs Q E hr h=>?_)
 have hu:=hr.units
 have nd:=sc__law_mores.nd
 refine ⟨dM K,?_,oF h⟩
 exact (ae (ax (i:=6) nd rfl (Or.inl rfl) (ah be (ak (av hu) (pv 1) ac (fun _ _=>rfl)) (ak (av hu) (pv 1) ac (fun _ _=>rfl))))
   (ae (ax (i:=8) nd rfl (Or.inl rfl) (ah aD (bh (ix:=[none,none,some 3,some 2,some 4]) [".0","_law_one","_law_cell","_law_masks_here","_law_sign"] (aZ rfl (by decide+kernel) rfl rfl rfl) rfl (bv rfl B.range_ (ab (pv 6) ad)) (fun cl s H fp=>(aE (i:=1) (show ([".0","_law_one","_law_cell","_law_masks_here","_law_sign"]:List Str).Nodup by decide+kernel) rfl (Or.inl rfl))) (fun cl s H fp=>(cK (PW.pt (jf (aq (bm hu) (pv 1) (pv 2) (ap _)) (gz (a9 (ao BQ hr (by decide) rfl (ab (ak (av hu) (pv 3) (pv 1) (fun _ _=>rfl)) (ab (pv 4) ad))))))))) (fun cl s H fp=>(pv 1))) (aK (ab ac ad))))
   (ae (ax (i:=9) nd rfl (Or.inl rfl) (ah aD (ao zk hr (by decide) rfl (ab (pv 1) (ab (pv 3) ad))) (aK (ab ac ad))))
   (ae (ax (i:=10) nd rfl (Or.inl rfl) (ao yW hr (by decide) rfl (ab (pv 0) (ab (pv 5) ad))))
   (ae (ax (i:=7) nd rfl (Or.inl rfl) (ak (av hu) (pv 8) (ah aI (pv 10) (aC aN rfl B.len_ aX (ab (pv 8) ad))) (fun _ _=>rfl)))
   (ae (ax (i:=11) nd rfl (Or.inl rfl) (ak (av hu) (pv 8) (ah aI (ah bj (pv 10) ac) (aC aN rfl B.len_ aX (ab (pv 8) ad))) (fun _ _=>rfl)))
   (ae (ax (i:=12) nd rfl (Or.inl rfl) (ah bd (pv 3) (ak (av hu) (aK (ab ac (ab ac (ab (ak (av hu) (pv 1) ac (fun _ _=>rfl)) (ab (ah aD (ak (av hu) (pv 1) ac (fun _ _=>rfl)) ac) ad))))) (ah aI (ah bj (pv 10) ac) ac) (fun _ _=>rfl))))
   (af (am (aK (ab (aK (ab (pv 7) ad)) (ab (aK (ab (pv 7) (ab (pv 11) ad))) (ab (aK (ab (pv 12) ad)) (ab (aK ad) (ab (aK (ab (ak (av hu) (pv 9) (ah aI (ah bj (pv 10) ac) (aC aN rfl B.len_ aX (ab (pv 9) ad))) (fun _ _=>rfl)) ad)) ad)))))))))))))))
abbrev kJ:Stmt:=top 12
theorem sc_floor_of:aw ["high","wide","signs"] ["high","wide","signs"] (ai kJ):=⟨rfl,rfl,rfl,by decide+kernel,rfl,by decide+kernel,by decide+kernel⟩
set_option maxHeartbeats 4000000 in
theorem sk {P:Program} {w:World} {K:PySem.W.Frag} {mg:Str→Option Value} {base:Heap} (B:Bt2 mg) (za:Cal P w K mg base 2 "is_from_one_to" ["value","most"] (aQ K)) {t_MOST_CELLS:Tok} (Br:mg "MOST_CELLS"=some (.int 16 t_MOST_CELLS)) {t_MOST_SIDE:Tok} (AV:mg "MOST_SIDE"=some (.int 6 t_MOST_SIDE)) {t_MOST_SIGNS:Tok} (Bs:mg "MOST_SIGNS"=some (.int 6 t_MOST_SIGNS)) {f:Addr} {fd:FuncData} (F:Fun K "floor_of" "floor_of" kJ f fd):FnOk P w K mg base CX0 3 f fd ["high","wide","signs"] (dl K):=by
 refine F.ok sc_floor_of (fun vs H Q E h=>rW h) (fun cdv A outer s H vs Q E hr h=>?_)
 have hu:=hr.units
 have nd:=sc_floor_of.nd
 refine ⟨ib K,?_,rX h⟩
 exact (ae (aB (bU (a9 (ao za hr (by decide) rfl (ab (pv 0) (ab (cI rfl AV ⟨t_MOST_SIDE,rfl⟩) ad))))) (af bo) au)
   (ae (aB (bU (a9 (ao za hr (by decide) rfl (ab (pv 1) (ab (cI rfl AV ⟨t_MOST_SIDE,rfl⟩) ad))))) (af bo) au)
   (ae (aB (aq di (ah be (pv 0) (pv 1)) (cI rfl Br ⟨t_MOST_CELLS,rfl⟩) (ap _)) (af bo) au)
   (ae (aB (bU (a9 (ao za hr (by decide) rfl (ab (pv 2) (ab (cI rfl Bs ⟨t_MOST_SIGNS,rfl⟩) ad))))) (af bo) au)
   (af (am (dO (ab (pv 0) (ab (pv 1) (ab (pv 2) ad))))))))))
abbrev lJ:Stmt:=top 18
theorem sc_squares:aw ["floor"] ["floor"] (ai lJ):=⟨rfl,rfl,rfl,by decide+kernel,rfl,by decide+kernel,by decide+kernel⟩
set_option maxHeartbeats 4000000 in
theorem ub {P:Program} {w:World} {K:PySem.W.Frag} {mg:Str→Option Value} {base:Heap} (B:Bt2 mg) (BR:Cal P w K mg base 2 "is_corner" ["floor","cell"] (cN K)) (yZ:Cal P w K mg base 1 "many_cells" ["floor"] (aP K)) (BS:Cal P w K mg base 1 "square_at" ["floor","corner"] (cO K)) {f:Addr} {fd:FuncData} (F:Fun K "squares" "squares" lJ f fd):FnOk P w K mg base CX0 3 f fd ["floor"] (ed K):=by
 refine F.ok sc_squares (fun vs H Q E h=>tE h) (fun cdv A outer s H vs Q E hr h=>?_)
 have hu:=hr.units
 have nd:=sc_squares.nd
 refine ⟨iR K,?_,tF h⟩
 exact (af (am (bh (ix:=[none,none,some 0]) [".0","cell","floor"] (aZ rfl (by decide+kernel) rfl rfl rfl) rfl (bv rfl B.range_ (ab (ao yZ hr (by decide) rfl (ab (pv 0) ad)) ad)) (fun cl s H fp=>(aE (i:=1) (show ([".0","cell","floor"]:List Str).Nodup by decide+kernel) rfl (Or.inl rfl))) (fun cl s H fp=>(cK (a9 (ao BR hr (by decide) rfl (ab (pv 2) (ab (pv 1) ad)))))) (fun cl s H fp=>(ao BS hr (by decide) rfl (ab (pv 2) (ab (pv 1) ad)))))))
abbrev lK:Stmt:=top 19
theorem sc_reached:aw ["floor","cells","start","found","place","cell"] ["floor","cells","start"] (ai lK):=⟨rfl,rfl,rfl,by decide+kernel,rfl,by decide+kernel,by decide+kernel⟩
set_option maxHeartbeats 4000000 in
theorem uc {P:Program} {w:World} {K:PySem.W.Frag} {mg:Str→Option Value} {base:Heap} (B:Bt2 mg) (ze:Cal P w K mg base 2 "beside" ["floor","cell"] (bH K)) {f:Addr} {fd:FuncData} (F:Fun K "reached" "reached" lK f fd):FnOk P w K mg base CX0 3 f fd ["floor","cells","start"] (da K):=by
 refine F.ok sc_reached (fun vs H Q E h=>tR h) (fun cdv A outer s H vs Q E hr h=>?_)
 have hu:=hr.units
 have nd:=sc_reached.nd
 refine ⟨i0 K,?_,tS h⟩
 exact (ae (aB (aq (ft hu) (pv 2) (pv 1) (by with_unfolding_all rfl)) (af (am (aK ad))) au)
   (ae (ax (i:=3) nd rfl (Or.inl rfl) (aK (ab (pv 2) ad)))
   (ae (ax (i:=4) nd rfl (Or.inl rfl) ac)
   (ae (vL PassesOwn.never (aq bG (pv 4) (aC aN rfl B.len_ aX (ab (pv 3) ad)) (ap _))
   (ae (cf PassesOwn.never rfl (aY (ao ze hr (by decide) rfl (ab (pv 0) (ab (ak (av hu) (pv 3) (pv 4) (fun _ _=>rfl)) ad)))) (aE (i:=5) nd rfl (Or.inl rfl))
   (af (aB (PW.pt (jf (aq (j4 hu) (pv 5) (pv 1) (by with_unfolding_all rfl)) (gz (aq (ft hu) (pv 5) (pv 3) (by with_unfolding_all rfl))))) (af (d5 (g8 PySem.F.plainAttrs_list PySem.F.slot_list_append PySem.F.type_list_append bW (pv 3) (ab (pv 5) ad)))) au)))
   (af (ax (i:=4) nd rfl (Or.inl rfl) (ah aD (pv 4) ac)))))
   (af (am (aC qr rfl B.sorted_ uN (ab (pv 3) ad))))))))
abbrev kK:Stmt:=top 24
theorem sc_has_only:aw ["mask","sign"] ["mask","sign"] (ai kK):=⟨rfl,rfl,rfl,by decide+kernel,rfl,by decide+kernel,by decide+kernel⟩
set_option maxHeartbeats 4000000 in
theorem sm {P:Program} {w:World} {K:PySem.W.Frag} {mg:Str→Option Value} {base:Heap} (B:Bt2 mg) (CF:Cal P w K mg base 2 "without" ["mask","sign"] (ei K)) {f:Addr} {fd:FuncData} (F:Fun K "has_only" "has_only" kK f fd):FnOk P w K mg base CX0 3 f fd ["mask","sign"] (bn K):=by
 refine F.ok sc_has_only (fun vs H Q E h=>rY h) (fun cdv A outer s H vs Q E hr h=>?_)
 have hu:=hr.units
 have nd:=sc_has_only.nd
 refine ⟨ic K,?_,rZ h⟩
 exact (af (am (aJ (aL hu) (ao CF hr (by decide) rfl (ab (pv 0) (ab (pv 1) ad))) ac (ap _))))
abbrev lL:Stmt:=top 32
theorem sc_is_sign:aw ["floor","value"] ["floor","value"] (ai lL):=⟨rfl,rfl,rfl,by decide+kernel,rfl,by decide+kernel,by decide+kernel⟩
set_option maxHeartbeats 4000000 in
theorem ud {P:Program} {w:World} {K:PySem.W.Frag} {mg:Str→Option Value} {base:Heap} (B:Bt2 mg) (za:Cal P w K mg base 2 "is_from_one_to" ["value","most"] (aQ K)) {f:Addr} {fd:FuncData} (F:Fun K "is_sign" "is_sign" lL f fd):FnOk P w K mg base CX0 3 f fd ["floor","value"] (ej K):=by
 refine F.ok sc_is_sign (fun vs H Q E h=>tN h) (fun cdv A outer s H vs Q E hr h=>?_)
 have hu:=hr.units
 have nd:=sc_is_sign.nd
 refine ⟨iX K,?_,tO h⟩
 exact (af (am (ao za hr (by decide) rfl (ab (pv 1) (ab (ak (av hu) (pv 0) ac (fun _ _=>rfl)) ad)))))
abbrev gX:Stmt:=top 34
theorem sc_has_its_rule:aw ["puzzle","kind","number","cell","rules"] ["puzzle","kind","number","cell"] (ai gX):=⟨rfl,rfl,rfl,by decide+kernel,rfl,by decide+kernel,by decide+kernel⟩
set_option maxHeartbeats 4000000 in
theorem oN {P:Program} {w:World} {K:PySem.W.Frag} {mg:Str→Option Value} {base:Heap} (B:Bt2 mg) {c:RCl RK} {d:RCl PzK} (CG:Cal P w K mg base 2 "goes_by" ["kind","rule"] (en K c)) (y7:Cal P w K mg base 1 "is_whole" ["value"] (aU K)) (Bp:MCal P w K mg base d d.ok 1 "rules" ["self"] (gR K c d)) (Bo:MCal P w K mg base c c.ok 1 "spots" ["self"] (gP K c)) {f:Addr} {fd:FuncData} (F:Fun K "has_its_rule" "has_its_rule" gX f fd):FnOk P w K mg base CX0 3 f fd ["puzzle","kind","number","cell"] (bL K c d):=by
 refine F.ok sc_has_its_rule (fun vs H Q E h=>n6 h) (fun cdv A outer s H vs Q E hr h=>?_)
 have hu:=hr.units
 have nd:=sc_has_its_rule.nd
 refine ⟨dF K c d,?_,n9 h⟩
 exact (ae (aB (PW.pt (cq (bU (a9 (ao y7 hr (by decide) rfl (ab (pv 2) ad)))) (cJ (aq bG (pv 2) ac (ap _))))) (af (am eP)) au)
   (ae (aB (aq (aL hu) (pv 1) aT (ap _)) (af (am (aJ (aL hu) (pv 2) ac (ap _)))) au)
   (ae (ax (i:=4) nd rfl (Or.inl rfl) (bZ Bp hr (by decide) (pv 0)))
   (ae (aB (aq uI (pv 2) (aC aN rfl B.len_ aX (ab (pv 4) ad)) (ap _)) (af (am eP)) au)
   (af (am (bx (ao CG hr (by decide) rfl (ab (pv 1) (ab (ak (av hu) (pv 4) (pv 2) (fun _ _=>rfl)) ad))) (bV (aJ (j4 hu) (pv 3) (bZ Bo hr (by decide) (ak (av hu) (pv 4) (pv 2) (fun _ _=>rfl))) (by with_unfolding_all rfl))))))))))
abbrev nh:Stmt:=top 67
theorem sc_around:aw ["floor","middle","cell"] ["floor","middle","cell"] (ai nh):=⟨rfl,rfl,rfl,by decide+kernel,rfl,by decide+kernel,by decide+kernel⟩
set_option maxHeartbeats 4000000 in
theorem vI {P:Program} {w:World} {K:PySem.W.Frag} {mg:Str→Option Value} {base:Heap} (B:Bt2 mg) (ze:Cal P w K mg base 2 "beside" ["floor","cell"] (bH K)) {f:Addr} {fd:FuncData} (F:Fun K "around" "around" nh f fd):FnOk P w K mg base CX0 3 f fd ["floor","middle","cell"] (fD K):=by
 refine F.ok sc_around (fun vs H Q E h=>vt h) (fun cdv A outer s H vs Q E hr h=>?_)
 have hu:=hr.units
 have nd:=sc_around.nd
 refine ⟨jL K,?_,vv h⟩
 exact (af (am (bh (ix:=[none,none,some 2]) [".0","other","cell"] (aZ rfl (by decide+kernel) rfl rfl rfl) rfl (aY (ao ze hr (by decide) rfl (ab (pv 0) (ab (pv 1) ad)))) (fun cl s H fp=>(aE (i:=1) (show ([".0","other","cell"]:List Str).Nodup by decide+kernel) rfl (Or.inl rfl))) (fun cl s H fp=>(cK (aq (bm hu) (pv 1) (pv 2) (ap _)))) (fun cl s H fp=>(pv 1)))))
abbrev gY:Stmt:=top 93
theorem sc_first_within:aw ["words","least","most"] ["words","least","most"] (ai gY):=⟨rfl,rfl,rfl,by decide+kernel,rfl,by decide+kernel,by decide+kernel⟩
set_option maxHeartbeats 4000000 in
theorem oO {P:Program} {w:World} {K:PySem.W.Frag} {mg:Str→Option Value} {base:Heap} (B:Bt2 mg) (zc:Cal P w K mg base 2 "number_within" ["word","least","most"] (a8 K)) {f:Addr} {fd:FuncData} (F:Fun K "first_within" "first_within" gY f fd):FnOk P w K mg base CX0 3 f fd ["words","least","most"] (ba K):=by
 refine F.ok sc_first_within (fun vs H Q E h=>nN h) (fun cdv A outer s H vs Q E hr h=>?_)
 have hu:=hr.units
 have nd:=sc_first_within.nd
 refine ⟨dy K,?_,nP h⟩
 exact (ae (aB (aq (aL hu) (pv 0) (aK ad) (ap _)) (af bo) au)
   (af (am (ao zc hr (by decide) rfl (ab (ak (av hu) (pv 0) ac (fun _ _=>rfl)) (ab (pv 1) (ab (pv 2) ad)))))))
abbrev jx:Stmt:=top 94
theorem sc_told_cells:aw ["floor","words","cells"] ["floor","words"] (ai jx):=⟨rfl,rfl,rfl,by decide+kernel,rfl,by decide+kernel,by decide+kernel⟩
set_option maxHeartbeats 4000000 in
theorem p7 {P:Program} {w:World} {K:PySem.W.Frag} {mg:Str→Option Value} {base:Heap} (B:Bt2 mg) (yZ:Cal P w K mg base 1 "many_cells" ["floor"] (aP K)) (zc:Cal P w K mg base 2 "number_within" ["word","least","most"] (a8 K)) {f:Addr} {fd:FuncData} (F:Fun K "told_cells" "told_cells" jx f fd):FnOk P w K mg base CX0 3 f fd ["floor","words"] (ck K):=by
 refine F.ok sc_told_cells (fun vs H Q E h=>pP h) (fun cdv A outer s H vs Q E hr h=>?_)
 have hu:=hr.units
 have nd:=sc_told_cells.nd
 refine ⟨e9 K,?_,pQ h⟩
 exact (ae (oV (k:=2) nd rfl (Or.inl rfl) rfl (ix:=[none,none,some 0]) [".0","word","floor"] (aZ rfl (by decide+kernel) rfl rfl rfl) rfl (aY (pv 1)) (fun cl s H fp=>(aE (i:=1) (show ([".0","word","floor"]:List Str).Nodup by decide+kernel) rfl (Or.inl rfl))) (fun cl s H fp=>d6) (fun cl s H fp=>(ao zc hr (by decide) rfl (ab (pv 1) (ab ac (ab (ah bd (ao yZ hr (by decide) rfl (ab (pv 2) ad)) ac) ad))))))
   (ae (aB (aq (aL hu) (pv 2) (aK ad) (ap _)) (af bo) au)
   (ae (aB (aq (bm hu) (vb rfl rfl rfl B.len_ B.set_ (pv 2)) (aC aN rfl B.len_ aX (ab (pv 2) ad)) (ap _)) (af bo) au)
   (af (am (pv 2))))))
abbrev lM:Stmt:=top 96
theorem sc_rule_by:aw ["floor","words","cells","amount","mark","name"] ["floor","words","cells","amount","mark"] (ai lM):=⟨rfl,rfl,rfl,by decide+kernel,rfl,by decide+kernel,by decide+kernel⟩
set_option maxHeartbeats 4000000 in
theorem ue {P:Program} {w:World} {K:PySem.W.Frag} {mg:Str→Option Value} {base:Heap} (B:Bt2 mg) {c:RCl RK} (Ec:KCal P w K mg base 1 "Count" (c.A .Count) ["self","floor","words","cells","amount","mark"] (ar K c)) (Dz:KCal P w K mg base 1 "Joined" (c.A .Joined) ["self","floor","words","cells","amount","mark"] (ar K c)) (BV:KCal P w K mg base 1 "NoSquare" (c.A .NoSquare) ["self","floor","words","cells","amount","mark"] (ar K c)) (EB:KCal P w K mg base 1 "Ring" (c.A .Ring) ["self","floor","words","cells","amount","mark"] (ar K c)) (DA:KCal P w K mg base 1 "Rising" (c.A .Rising) ["self","floor","words","cells","amount","mark"] (ar K c)) (EC:KCal P w K mg base 1 "Seen" (c.A .Seen) ["self","floor","words","cells","amount","mark"] (ar K c)) (K_Sum:KCal P w K mg base 1 "Sum" (c.A .Sum) ["self","floor","words","cells","amount","mark"] (ar K c)) (DB:KCal P w K mg base 1 "Unlike" (c.A .Unlike) ["self","floor","words","cells","amount","mark"] (ar K c)) {f:Addr} {fd:FuncData} (F:Fun K "rule_by" "rule_by" lM f fd):FnOk P w K mg base CX0 3 f fd ["floor","words","cells","amount","mark"] (eh K c):=by
 refine F.ok sc_rule_by (fun vs H Q E h=>tH h) (fun cdv A outer s H vs Q E hr h=>?_)
 have hu:=hr.units
 have nd:=sc_rule_by.nd
 refine ⟨iS K c,?_,tI h⟩
 exact (ae (ax (i:=5) nd rfl (Or.inl rfl) (ak (av hu) (pv 1) ac (fun _ _=>rfl)))
   (ae (aB (aq (aL hu) (pv 5) aT (ap _)) (af (am (iQ DB hr (by decide) rfl (ab (pv 0) (ab (pv 1) (ab (pv 2) (ab (pv 3) (ab (pv 4) ad)))))))) au)
   (ae (aB (aq (aL hu) (pv 5) aT (ap _)) (af (am (iQ K_Sum hr (by decide) rfl (ab (pv 0) (ab (pv 1) (ab (pv 2) (ab (pv 3) (ab (pv 4) ad)))))))) au)
   (ae (aB (aq (aL hu) (pv 5) aT (ap _)) (af (am (iQ DA hr (by decide) rfl (ab (pv 0) (ab (pv 1) (ab (pv 2) (ab (pv 3) (ab (pv 4) ad)))))))) au)
   (ae (aB (aq (aL hu) (pv 5) aT (ap _)) (af (am (iQ EC hr (by decide) rfl (ab (pv 0) (ab (pv 1) (ab (pv 2) (ab (pv 3) (ab (pv 4) ad)))))))) au)
   (ae (aB (aq (aL hu) (pv 5) aT (ap _)) (af (am (iQ Ec hr (by decide) rfl (ab (pv 0) (ab (pv 1) (ab (pv 2) (ab (pv 3) (ab (pv 4) ad)))))))) au)
   (ae (aB (aq (aL hu) (pv 5) aT (ap _)) (af (am (iQ Dz hr (by decide) rfl (ab (pv 0) (ab (pv 1) (ab (pv 2) (ab (pv 3) (ab (pv 4) ad)))))))) au)
   (ae (aB (aq (aL hu) (pv 5) aT (ap _)) (af (am (iQ BV hr (by decide) rfl (ab (pv 0) (ab (pv 1) (ab (pv 2) (ab (pv 3) (ab (pv 4) ad)))))))) au)
   (ae (aB (aq (aL hu) (pv 5) aT (ap _)) (af (am (iQ EB hr (by decide) rfl (ab (pv 0) (ab (pv 1) (ab (pv 2) (ab (pv 3) (ab (pv 4) ad)))))))) au)
   (af bo))))))))))
abbrev gu:Stmt:=top 103
theorem sc_checked_clues:aw ["floor","clues"] ["floor","clues"] (ai gu):=⟨rfl,rfl,rfl,by decide+kernel,rfl,by decide+kernel,by decide+kernel⟩
set_option maxHeartbeats 4000000 in
theorem ni {P:Program} {w:World} {K:PySem.W.Frag} {mg:Str→Option Value} {base:Heap} (B:Bt2 mg) (Bu:Cal P w K mg base 2 "is_filling" ["floor","filling","least"] (cp K)) {f:Addr} {fd:FuncData} (F:Fun K "checked_clues" "checked_clues" gu f fd):FnOk P w K mg base CX0 3 f fd ["floor","clues"] (bA K):=by
 refine F.ok sc_checked_clues (fun vs H Q E h=>mV h) (fun cdv A outer s H vs Q E hr h=>?_)
 have hu:=hr.units
 have nd:=sc_checked_clues.nd
 refine ⟨c8 K,?_,mW h⟩
 exact (ae (aB (bU (a9 (ao Bu hr (by decide) rfl (ab (pv 0) (ab (pv 1) (ab ac ad)))))) (af bo) au)
   (af (am (dP ki rfl B.list_ i9 (ab (pv 1) ad)))))
abbrev gZ:Stmt:=top 115
theorem sc__law_filling:aw ["_law_script","_law_floor_here","_law_word","_law_sign","_law_many","_law_others","_law_k","_law_filling_here","_law_some","_law_cell"] ["_law_script","_law_floor_here","_law_word","_law_sign"] (ai gZ):=⟨rfl,rfl,rfl,by decide+kernel,rfl,by decide+kernel,by decide+kernel⟩
set_option maxHeartbeats 4000000 in
theorem oP {P:Program} {w:World} {K:PySem.W.Frag} {mg:Str→Option Value} {base:Heap} (B:Bt2 mg) (AW:Cal P w K mg base 2 "_law_border" ["_law_script","_law_floor_here"] (bC K)) (yW:Cal P w K mg base 1 "_law_cell_at" ["_law_script","_law_k"] (az K)) (Bv:Cal P w K mg base 2 "_law_grown" ["_law_script","_law_floor_here"] (bP K)) (z6:Cal P w K mg base 1 "_law_unsquared" ["_law_floor_here","_law_filling_here","_law_sign","_law_other"] (bf K)) {f:Addr} {fd:FuncData} (F:Fun K "_law_filling" "_law_filling" gZ f fd):FnOk P w K mg base CX0 3 f fd ["_law_script","_law_floor_here","_law_word","_law_sign"] (bu K):=by
 refine F.ok sc__law_filling (fun vs H Q E h=>mr h) (fun cdv A outer s H vs Q E hr h=>?_)
 have hu:=hr.units
 have nd:=sc__law_filling.nd
 refine ⟨cH K,?_,mt h⟩
 exact (ae (ax (i:=4) nd rfl (Or.inl rfl) (ah be (ak (av hu) (pv 1) ac (fun _ _=>rfl)) (ak (av hu) (pv 1) ac (fun _ _=>rfl))))
   (ae (ax (i:=5) nd rfl (Or.inr rfl) (bh (ix:=[none,none,some 3]) [".0","_law_one","_law_sign"] (aZ rfl (by decide+kernel) rfl rfl rfl) rfl (uo rfl B.range_ (ab ac (ab (ah aD (ak (av hu) (pv 1) ac (fun _ _=>rfl)) ac) ad))) (fun cl s H fp=>(aE (i:=1) (show ([".0","_law_one","_law_sign"]:List Str).Nodup by decide+kernel) rfl (Or.inl rfl))) (fun cl s H fp=>(cK (aq (bm hu) (pv 1) (pv 2) (ap _)))) (fun cl s H fp=>(pv 1))))
   (ae (oV (k:=7) nd rfl (Or.inl rfl) rfl (ix:=[none,none,some 5,some 0]) [".0","_law_k","_law_others","_law_script"] (aZ rfl (by decide+kernel) rfl rfl rfl) rfl (bv rfl B.range_ (ab (pv 4) ad)) (fun cl s H fp=>(aE (i:=1) (show ([".0","_law_k","_law_others","_law_script"]:List Str).Nodup by decide+kernel) rfl (Or.inl rfl))) (fun cl s H fp=>d6) (fun cl s H fp=>(ak (av hu) (pv 2) (ah aI (ao yW hr (by decide) rfl (ab (pv 3) (ab (ah aD ac (pv 1)) ad))) (aC aN rfl B.len_ aX (ab (pv 2) ad))) (fun _ _=>rfl))))
   (ae (aB (aq (aL hu) (pv 2) aT (ap _)) (ae (cf PassesOwn.never rfl (bv rfl B.range_ (ab (pv 4) ad)) (aE (i:=6) nd rfl (Or.inl rfl))
   (af (aB (aq di (ah aI (ah bj (ao yW hr (by decide) rfl (ab (pv 0) (ab (ah aD ac (pv 6)) ad))) ac) ac) ac (ap _)) (af (fE (pv 3) (j2 (pv 7) (pv 6) (lW hu)))) au)))
   (af (am (ao z6 hr (by decide) rfl (ab (pv 1) (ab (pv 7) (ab (pv 3) (ab (ak (av hu) (pv 5) ac (fun _ _=>rfl)) ad)))))))) au)
   (ae (ax (i:=8) nd rfl (Or.inl rfl) (ao Bv hr (by decide) rfl (ab (pv 0) (ab (pv 1) ad))))
   (ae (aB (aq (aL hu) (pv 2) aT (ap _)) (af (ax (i:=8) nd rfl (Or.inl rfl) (ao AW hr (by decide) rfl (ab (pv 0) (ab (pv 1) ad))))) au)
   (ae (cf PassesOwn.never rfl (aY (pv 8)) (aE (i:=9) nd rfl (Or.inl rfl))
   (af (fE (pv 3) (j2 (pv 7) (pv 9) (lW hu)))))
   (af (am (pv 7))))))))))
abbrev jW:Stmt:=top 35
theorem sc_is_formed:aw ["puzzle","thought","floor"] ["puzzle","thought"] (ai jW):=⟨rfl,rfl,rfl,by decide+kernel,rfl,by decide+kernel,by decide+kernel⟩
set_option maxHeartbeats 4000000 in
theorem rC {P:Program} {w:World} {K:PySem.W.Frag} {mg:Str→Option Value} {base:Heap} (B:Bt2 mg) {c:RCl RK} {d:RCl PzK} (AI:Cal P w K mg base 3 "has_its_rule" ["puzzle","kind","number","cell"] (bL K c d)) (Ao:Cal P w K mg base 2 "is_cell" ["floor","value"] (cx K)) (CH:Cal P w K mg base 3 "is_sign" ["floor","value"] (ej K)) (y7:Cal P w K mg base 1 "is_whole" ["value"] (aU K)) (Bq:MCal P w K mg base d d.ok 1 "place" ["self"] (gQ K c d)) (G_KINDS:GTup K mg "KINDS" kA) {f:Addr} {fd:FuncData} (F:Fun K "is_formed" "is_formed" jW f fd):FnOk P w K mg base CX0 4 f fd ["puzzle","thought"] (cR K c d):=by
 refine F.ok sc_is_formed (fun vs H Q E h=>qQ h) (fun cdv A outer s H vs Q E hr h=>?_)
 have hu:=hr.units
 have nd:=sc_is_formed.nd
 refine ⟨gk K c d,?_,qR h⟩
 exact (ae (aB (PW.pt (cq (bU (a9 (aC dR rfl B.isinstance_ bS (ab (pv 1) (ab (gy (v:=.ty "tuple") rfl B.tuple_ kj rfl) ad))))) (cq (aq (bm hu) (aC aN rfl B.len_ aX (ab (pv 1) ad)) ac (ap _)) (cJ (sG G_KINDS (ak (av hu) (pv 1) ac (fun _ _=>rfl)) rfl))))) (af (am eP)) au)
   (ae (ax (i:=2) nd rfl (Or.inl rfl) (bZ Bq hr (by decide) (pv 0)))
   (ae (aB (PW.pt (cq (bU (a9 (ao Ao hr (by decide) rfl (ab (pv 2) (ab (ak (av hu) (pv 1) ac (fun _ _=>rfl)) ad))))) (cJ (bU (a9 (ao CH hr (by decide) rfl (ab (pv 2) (ab (ak (av hu) (pv 1) ac (fun _ _=>rfl)) ad)))))))) (af (am eP)) au)
   (ae (aB (bU (a9 (ao AI hr (by decide) rfl (ab (pv 0) (ab (ak (av hu) (pv 1) ac (fun _ _=>rfl)) (ab (ak (av hu) (pv 1) ac (fun _ _=>rfl)) (ab (ak (av hu) (pv 1) ac (fun _ _=>rfl)) ad))))))) (af (am eP)) au)
   (af (am (bx (aC dR rfl B.isinstance_ bS (ab (ak (av hu) (pv 1) ac (fun _ _=>rfl)) (ab (gy (v:=.ty "list") rfl B.list_ i9 rfl) ad))) (bV (aC (jE rfl) rfl B.all_ nE (ab (bh (ix:=[none,none]) [".0","part"] (aZ rfl (by decide+kernel) rfl rfl rfl) rfl (aY (ak (av hu) (pv 1) ac (fun _ _=>rfl))) (fun cl s H fp=>(aE (i:=1) (show ([".0","part"]:List Str).Nodup by decide+kernel) rfl (Or.inl rfl))) (fun cl s H fp=>d6) (fun cl s H fp=>(ao y7 hr (by decide) rfl (ab (pv 1) ad)))) ad))))))))))
abbrev jX:Stmt:=top 38
theorem sc_many_only:aw ["some","sign"] ["some","sign"] (ai jX):=⟨rfl,rfl,rfl,by decide+kernel,rfl,by decide+kernel,by decide+kernel⟩
set_option maxHeartbeats 4000000 in
theorem rD {P:Program} {w:World} {K:PySem.W.Frag} {mg:Str→Option Value} {base:Heap} (B:Bt2 mg) (zd:Cal P w K mg base 3 "has_only" ["mask","sign"] (bn K)) {f:Addr} {fd:FuncData} (F:Fun K "many_only" "many_only" jX f fd):FnOk P w K mg base CX0 4 f fd ["some","sign"] (bp K):=by
 refine F.ok sc_many_only (fun vs H Q E h=>qU h) (fun cdv A outer s H vs Q E hr h=>?_)
 have hu:=hr.units
 have nd:=sc_many_only.nd
 refine ⟨gm K,?_,qV h⟩
 exact (af (am (aC aN rfl B.len_ aX (ab (bh (ix:=[none,none,some 1]) [".0","mask","sign"] (aZ rfl (by decide+kernel) rfl rfl rfl) rfl (aY (pv 0)) (fun cl s H fp=>(aE (i:=1) (show ([".0","mask","sign"]:List Str).Nodup by decide+kernel) rfl (Or.inl rfl))) (fun cl s H fp=>(cK (a9 (ao zd hr (by decide) rfl (ab (pv 1) (ab (pv 2) ad)))))) (fun cl s H fp=>(pv 1))) ad))))
abbrev fk:Stmt:=top 63
theorem sc_rest_of_square:aw ["floor","corner","cell","square"] ["floor","corner","cell"] (ai fk):=⟨rfl,rfl,rfl,by decide+kernel,rfl,by decide+kernel,by decide+kernel⟩
set_option maxHeartbeats 4000000 in
theorem mx {P:Program} {w:World} {K:PySem.W.Frag} {mg:Str→Option Value} {base:Heap} (B:Bt2 mg) (CI:Cal P w K mg base 3 "squares" ["floor"] (ed K)) {f:Addr} {fd:FuncData} (F:Fun K "rest_of_square" "rest_of_square" fk f fd):FnOk P w K mg base CX0 4 f fd ["floor","corner","cell"] (bq K):=by
 refine F.ok sc_rest_of_square (fun vs H Q E h=>mh h) (fun cdv A outer s H vs Q E hr h=>?_)
 have hu:=hr.units
 have nd:=sc_rest_of_square.nd
 refine ⟨cF K,?_,mj h⟩
 exact (ae (cf PassesOwn.never rfl (aY (ao CI hr (by decide) rfl (ab (pv 0) ad))) (aE (i:=3) nd rfl (Or.inl rfl))
   (af (aB (PW.pt (jf (aq (aL hu) (ak (av hu) (pv 3) ac (fun _ _=>rfl)) (pv 1) (ap _)) (gz (aq (j4 hu) (pv 2) (pv 3) (by with_unfolding_all rfl))))) (af (am (bh (ix:=[none,none,some 2]) [".0","other","cell"] (aZ rfl (by decide+kernel) rfl rfl rfl) rfl (aY (pv 3)) (fun cl s H fp=>(aE (i:=1) (show ([".0","other","cell"]:List Str).Nodup by decide+kernel) rfl (Or.inl rfl))) (fun cl s H fp=>(cK (aq (bm hu) (pv 1) (pv 2) (ap _)))) (fun cl s H fp=>(pv 1))))) au)))
   (af (am (aK ad))))
abbrev cC:Stmt:=top 65
theorem sc_is_another_with_only:aw ["floor","masks","cell","other","mark"] ["floor","masks","cell","other","mark"] (ai cC):=⟨rfl,rfl,rfl,by decide+kernel,rfl,by decide+kernel,by decide+kernel⟩
set_option maxHeartbeats 4000000 in
theorem jC {P:Program} {w:World} {K:PySem.W.Frag} {mg:Str→Option Value} {base:Heap} (B:Bt2 mg) (zd:Cal P w K mg base 3 "has_only" ["mask","sign"] (bn K)) (Ao:Cal P w K mg base 2 "is_cell" ["floor","value"] (cx K)) {f:Addr} {fd:FuncData} (F:Fun K "is_another_with_only" "is_another_with_only" cC f fd):FnOk P w K mg base CX0 4 f fd ["floor","masks","cell","other","mark"] (aW K):=by
 refine F.ok sc_is_another_with_only (fun vs H Q E h=>jA h) (fun cdv A outer s H vs Q E hr h=>?_)
 have hu:=hr.units
 have nd:=sc_is_another_with_only.nd
 refine ⟨bw K,?_,jB h⟩
 exact (af (am (bx (ao Ao hr (by decide) rfl (ab (pv 0) (ab (pv 3) ad))) (bx (aJ (bm hu) (pv 3) (pv 2) (ap _)) (bV (ao zd hr (by decide) rfl (ab (ak (av hu) (pv 1) (pv 3) (fun _ _=>rfl)) (ab (pv 4) ad))))))))
abbrev kL:Stmt:=top 95
theorem sc_cells_of:aw ["floor","name","words"] ["floor","name","words"] (ai kL):=⟨rfl,rfl,rfl,by decide+kernel,rfl,by decide+kernel,by decide+kernel⟩
set_option maxHeartbeats 4000000 in
theorem sn {P:Program} {w:World} {K:PySem.W.Frag} {mg:Str→Option Value} {base:Heap} (B:Bt2 mg) (yZ:Cal P w K mg base 1 "many_cells" ["floor"] (aP K)) (Bw:Cal P w K mg base 3 "told_cells" ["floor","words"] (ck K)) (G_OF_ALL_CELLS:GTup K mg "OF_ALL_CELLS" dw) {f:Addr} {fd:FuncData} (F:Fun K "cells_of" "cells_of" kL f fd):FnOk P w K mg base CX0 4 f fd ["floor","name","words"] (dj K):=by
 refine F.ok sc_cells_of (fun vs H Q E h=>rQ h) (fun cdv A outer s H vs Q E hr h=>?_)
 have hu:=hr.units
 have nd:=sc_cells_of.nd
 refine ⟨h9 K,?_,rR h⟩
 exact (ae (aB (sG G_OF_ALL_CELLS (pv 1) rfl) (af (am (ao Bw hr (by decide) rfl (ab (pv 0) (ab (pv 2) ad))))) au)
   (ae (aB (aq (bm hu) (pv 2) (aK ad) (ap _)) (af bo) au)
   (af (am (rM rfl rfl rfl B.list_ B.range_ (ab (ao yZ hr (by decide) rfl (ab (pv 0) ad)) ad))))))
abbrev gw:Stmt:=top 100
theorem sc_checked_floor:aw ["floor"] ["floor"] (ai gw):=⟨rfl,rfl,rfl,by decide+kernel,rfl,by decide+kernel,by decide+kernel⟩
set_option maxHeartbeats 4000000 in
theorem nj {P:Program} {w:World} {K:PySem.W.Frag} {mg:Str→Option Value} {base:Heap} (B:Bt2 mg) (BW:Cal P w K mg base 3 "floor_of" ["high","wide","signs"] (dl K)) {f:Addr} {fd:FuncData} (F:Fun K "checked_floor" "checked_floor" gw f fd):FnOk P w K mg base CX0 4 f fd ["floor"] (bz K):=by
 refine F.ok sc_checked_floor (fun vs H Q E h=>mT h) (fun cdv A outer s H vs Q E hr h=>?_)
 have hu:=hr.units
 have nd:=sc_checked_floor.nd
 refine ⟨c7 K,?_,mU h⟩
 exact (ae (aB (PW.pt (cq (bU (a9 (aC dR rfl B.isinstance_ bS (ab (pv 0) (ab (gy (v:=.ty "tuple") rfl B.tuple_ kj rfl) ad))))) (cJ (aq (bm hu) (aC aN rfl B.len_ aX (ab (pv 0) ad)) ac (ap _))))) (af bo) au)
   (af (am (ao BW hr (by decide) rfl (ab (ak (av hu) (pv 0) ac (fun _ _=>rfl)) (ab (ak (av hu) (pv 0) ac (fun _ _=>rfl)) (ab (ak (av hu) (pv 0) ac (fun _ _=>rfl)) ad)))))))
abbrev fq:Stmt:=top 64
theorem sc_square_strikes:aw ["floor","rule","masks","cell","sign","more","rest"] ["floor","rule","masks","cell","sign","more"] (ai fq):=⟨rfl,rfl,rfl,by decide+kernel,rfl,by decide+kernel,by decide+kernel⟩
set_option maxHeartbeats 4000000 in
theorem my {P:Program} {w:World} {K:PySem.W.Frag} {mg:Str→Option Value} {base:Heap} (B:Bt2 mg) {c:RCl RK} (zf:Cal P w K mg base 4 "many_only" ["some","sign"] (bp K)) (zi:Cal P w K mg base 1 "masks_at" ["masks","cells"] (bE K)) (z7:Cal P w K mg base 4 "rest_of_square" ["floor","corner","cell"] (bq K)) (Aq:MCal P w K mg base c c.ok 1 "sign" ["self"] (fz K c)) {f:Addr} {fd:FuncData} (F:Fun K "square_strikes" "square_strikes" fq f fd):FnOk P w K mg base CX0 5 f fd ["floor","rule","masks","cell","sign","more"] (bt K c):=by
 refine F.ok sc_square_strikes (fun vs H Q E h=>mo h) (fun cdv A outer s H vs Q E hr h=>?_)
 have hu:=hr.units
 have nd:=sc_square_strikes.nd
 refine ⟨cG K c,?_,mq h⟩
 exact (ae (aB (PW.pt (cq (aq (bm hu) (pv 4) (bZ Aq hr (by decide) (pv 1)) (ap _)) (cJ (aq (bm hu) (aC aN rfl B.len_ aX (ab (pv 5) ad)) ac (ap _))))) (af (am eP)) au)
   (ae (ax (i:=6) nd rfl (Or.inl rfl) (ao z7 hr (by decide) rfl (ab (pv 0) (ab (ak (av hu) (pv 5) ac (fun _ _=>rfl)) (ab (pv 3) ad)))))
   (af (am (bx (aJ (bm hu) (pv 6) (aK ad) (ap _)) (bV (aJ (aL hu) (ao zf hr (by decide) rfl (ab (ao zi hr (by decide) rfl (ab (pv 2) (ab (pv 6) ad))) (ab (pv 4) ad))) (aC aN rfl B.len_ aX (ab (pv 6) ad)) (ap _))))))))
abbrev gx:Stmt:=top 66
theorem sc_reach_strikes:aw ["floor","rule","masks","cell","sign","more","mark","through"] ["floor","rule","masks","cell","sign","more"] (ai gx):=⟨rfl,rfl,rfl,by decide+kernel,rfl,by decide+kernel,by decide+kernel⟩
set_option maxHeartbeats 4000000 in
theorem nk {P:Program} {w:World} {K:PySem.W.Frag} {mg:Str→Option Value} {base:Heap} (B:Bt2 mg) {c:RCl RK} (zg:Cal P w K mg base 4 "is_another_with_only" ["floor","masks","cell","other","mark"] (aW K)) (DC:Cal P w K mg base 2 "others" ["rule","cell"] (fC K c)) (BO:Cal P w K mg base 3 "reached" ["floor","cells","start"] (da K)) (zh:Cal P w K mg base 1 "stands" ["mask","sign"] (b7 K)) (Aq:MCal P w K mg base c c.ok 1 "sign" ["self"] (fz K c)) {f:Addr} {fd:FuncData} (F:Fun K "reach_strikes" "reach_strikes" gx f fd):FnOk P w K mg base CX0 5 f fd ["floor","rule","masks","cell","sign","more"] (bB K c):=by
 refine F.ok sc_reach_strikes (fun vs H Q E h=>mY h) (fun cdv A outer s H vs Q E hr h=>?_)
 have hu:=hr.units
 have nd:=sc_reach_strikes.nd
 refine ⟨db K c,?_,mZ h⟩
 exact (ae (ax (i:=6) nd rfl (Or.inr rfl) (bZ Aq hr (by decide) (pv 1)))
   (ae (aB (bU (a9 (aC (jE rfl) rfl B.all_ nE (ab (bh (ix:=[none,none,some 3,some 0,some 6,some 2]) [".0","other","cell","floor","mark","masks"] (aZ rfl (by decide+kernel) rfl rfl rfl) rfl (aY (pv 5)) (fun cl s H fp=>(aE (i:=1) (show ([".0","other","cell","floor","mark","masks"]:List Str).Nodup by decide+kernel) rfl (Or.inl rfl))) (fun cl s H fp=>d6) (fun cl s H fp=>(ao zg hr (by decide) rfl (ab (pv 3) (ab (pv 5) (ab (pv 2) (ab (pv 1) (ab (pv 4) ad)))))))) ad)))) (af (am eP)) au)
   (ae (oV (k:=7) nd rfl (Or.inl rfl) rfl (ix:=[none,none,some 6,some 2]) [".0","other","mark","masks"] (aZ rfl (by decide+kernel) rfl rfl rfl) rfl (aY (ao DC hr (by decide) rfl (ab (pv 1) (ab (pv 3) ad)))) (fun cl s H fp=>(aE (i:=1) (show ([".0","other","mark","masks"]:List Str).Nodup by decide+kernel) rfl (Or.inl rfl))) (fun cl s H fp=>(cK (a9 (ao zh hr (by decide) rfl (ab (ak (av hu) (pv 3) (pv 1) (fun _ _=>rfl)) (ab (pv 2) ad)))))) (fun cl s H fp=>(pv 1)))
   (ae (aB (aq (aL hu) (pv 4) (pv 6) (ap _)) (af (am (bx (aJ (aL hu) (aC aN rfl B.len_ aX (ab (pv 5) ad)) ac (ap _)) (bV (aJ (ft hu) (ak (av hu) (pv 5) ac (fun _ _=>rfl)) (ao BO hr (by decide) rfl (ab (pv 0) (ab (ah aD (pv 7) (aK (ab (pv 3) ad))) (ab (pv 3) ad)))) (by with_unfolding_all rfl)))))) au)
   (ae (aB (PW.pt (cq (aq (bm hu) (aC aN rfl B.len_ aX (ab (pv 5) ad)) ac (ap _)) (cJ (aq (aL hu) (ak (av hu) (pv 5) ac (fun _ _=>rfl)) (ak (av hu) (pv 5) ac (fun _ _=>rfl)) (ap _))))) (af (am eP)) au)
   (af (am (aJ (ft hu) (ak (av hu) (pv 5) ac (fun _ _=>rfl)) (ao BO hr (by decide) rfl (ab (pv 0) (ab (pv 7) (ab (ak (av hu) (pv 5) ac (fun _ _=>rfl)) ad)))) (by with_unfolding_all rfl)))))))))
abbrev g7:Stmt:=top 68
theorem sc_turn_strikes:aw ["floor","rule","masks","cell","sign","more","mark","some"] ["floor","rule","masks","cell","sign","more"] (ai g7):=⟨rfl,rfl,rfl,by decide+kernel,rfl,by decide+kernel,by decide+kernel⟩
set_option maxHeartbeats 4000000 in
theorem oQ {P:Program} {w:World} {K:PySem.W.Frag} {mg:Str→Option Value} {base:Heap} (B:Bt2 mg) {c:RCl RK} (DD:Cal P w K mg base 3 "around" ["floor","middle","cell"] (fD K)) (ze:Cal P w K mg base 2 "beside" ["floor","cell"] (bH K)) (zd:Cal P w K mg base 3 "has_only" ["mask","sign"] (bn K)) (Bn:Cal P w K mg base 2 "many_may" ["some","sign"] (cB K)) (zf:Cal P w K mg base 4 "many_only" ["some","sign"] (bp K)) (zi:Cal P w K mg base 1 "masks_at" ["masks","cells"] (bE K)) (Aq:MCal P w K mg base c c.ok 1 "sign" ["self"] (fz K c)) {f:Addr} {fd:FuncData} (F:Fun K "turn_strikes" "turn_strikes" g7 f fd):FnOk P w K mg base CX0 5 f fd ["floor","rule","masks","cell","sign","more"] (bO K c):=by
 refine F.ok sc_turn_strikes (fun vs H Q E h=>ot h) (fun cdv A outer s H vs Q E hr h=>?_)
 have hu:=hr.units
 have nd:=sc_turn_strikes.nd
 refine ⟨dJ K c,?_,ou h⟩
 exact (ae (ax (i:=6) nd rfl (Or.inl rfl) (bZ Aq hr (by decide) (pv 1)))
   (ae (aB (aq (aL hu) (pv 5) (aK ad) (ap _)) (ae (ax (i:=7) nd rfl (Or.inl rfl) (ao zi hr (by decide) rfl (ab (pv 2) (ab (ao ze hr (by decide) rfl (ab (pv 0) (ab (pv 3) ad))) ad))))
   (af (am (bx (aJ (aL hu) (pv 4) (pv 6) (ap _)) (bV (sJ (aJ bG (ao Bn hr (by decide) rfl (ab (pv 7) (ab (pv 6) ad))) ac (ap _)) (bV (aJ di (ao zf hr (by decide) rfl (ab (pv 7) (ab (pv 6) ad))) ac (ap _))))))))) au)
   (ae (aB (PW.pt (cq (aq (bm hu) (aC aN rfl B.len_ aX (ab (pv 5) ad)) ac (ap _)) (cq (aq (ft hu) (ak (av hu) (pv 5) ac (fun _ _=>rfl)) (ao ze hr (by decide) rfl (ab (pv 0) (ab (pv 3) ad))) (by with_unfolding_all rfl)) (cJ (bU (a9 (ao zd hr (by decide) rfl (ab (ak (av hu) (pv 2) (ak (av hu) (pv 5) ac (fun _ _=>rfl)) (fun _ _=>rfl)) (ab (pv 6) ad))))))))) (af (am eP)) au)
   (ae (ax (i:=7) nd rfl (Or.inl rfl) (ao zi hr (by decide) rfl (ab (pv 2) (ab (ao DD hr (by decide) rfl (ab (pv 0) (ab (ak (av hu) (pv 5) ac (fun _ _=>rfl)) (ab (pv 3) ad)))) ad))))
   (ae (aB (aq (aL hu) (pv 4) (pv 6) (ap _)) (af (am (aJ uI (ao zf hr (by decide) rfl (ab (pv 7) (ab (pv 6) ad))) ac (ap _)))) au)
   (af (am (aJ bG (ao Bn hr (by decide) rfl (ab (pv 7) (ab (pv 6) ad))) ac (ap _)))))))))
abbrev jY:Stmt:=top 97
theorem sc_read_rule:aw ["floor","line","words","name","rest","amount","mark"] ["floor","line"] (ai jY):=⟨rfl,rfl,rfl,by decide+kernel,rfl,by decide+kernel,by decide+kernel⟩
set_option maxHeartbeats 4000000 in
theorem rE {P:Program} {w:World} {K:PySem.W.Frag} {mg:Str→Option Value} {base:Heap} (B:Bt2 mg) {c:RCl RK} (BX:Cal P w K mg base 4 "cells_of" ["floor","name","words"] (dj K)) (zO:Cal P w K mg base 3 "first_within" ["words","least","most"] (ba K)) (CJ:Cal P w K mg base 3 "rule_by" ["floor","words","cells","amount","mark"] (eh K c)) {t_MOST_NUMBER:Tok} (AX:mg "MOST_NUMBER"=some (.int 99 t_MOST_NUMBER)) (G_WITH_NUMBER:GTup K mg "WITH_NUMBER" ee) (G_WITH_SIGN:GTup K mg "WITH_SIGN" dW) {f:Addr} {fd:FuncData} (F:Fun K "read_rule" "read_rule" jY f fd):FnOk P w K mg base CX0 5 f fd ["floor","line"] (cQ K c):=by
 refine F.ok sc_read_rule (fun vs H Q E h=>qO h) (fun cdv A outer s H vs Q E hr h=>?_)
 have hu:=hr.units
 have nd:=sc_read_rule.nd
 refine ⟨gi K c,?_,qP h⟩
 exact (ae (aB (bU (a9 (aC dR rfl B.isinstance_ bS (ab (pv 1) (ab (gy (v:=.ty "str") rfl B.str_ uP rfl) ad))))) (af bo) au)
   (ae (ax (i:=2) nd rfl (Or.inl rfl) (g8 PySem.F.plainAttrs_str PySem.F.slot_str_split PySem.F.type_str_split uS (pv 1) (ab aT ad)))
   (ae (ax (i:=3) nd rfl (Or.inl rfl) (ak (av hu) (pv 2) ac (fun _ _=>rfl)))
   (ae (ax (i:=4) nd rfl (Or.inl rfl) (mI tp (pv 2) (oT ac) oS))
   (ae (ax (i:=5) nd rfl (Or.inl rfl) ac)
   (ae (ax (i:=6) nd rfl (Or.inl rfl) ac)
   (ae (aB (nT G_WITH_NUMBER (pv 3) rfl) (ae (ax (i:=5) nd rfl (Or.inl rfl) (ao zO hr (by decide) rfl (ab (pv 4) (ab ac (ab (cI rfl AX ⟨t_MOST_NUMBER,rfl⟩) ad)))))
   (af (ax (i:=4) nd rfl (Or.inl rfl) (mI tp (pv 4) (oT ac) oS)))) au)
   (ae (aB (nT G_WITH_SIGN (pv 3) rfl) (ae (ax (i:=6) nd rfl (Or.inl rfl) (ao zO hr (by decide) rfl (ab (pv 4) (ab ac (ab (ak (av hu) (pv 0) ac (fun _ _=>rfl)) ad)))))
   (af (ax (i:=4) nd rfl (Or.inl rfl) (mI tp (pv 4) (oT ac) oS)))) au)
   (af (am (ao CJ hr (by decide) rfl (ab (pv 0) (ab (pv 2) (ab (ao BX hr (by decide) rfl (ab (pv 0) (ab (pv 3) (ab (pv 4) ad)))) (ab (pv 5) (ab (pv 6) ad))))))))))))))))
abbrev dv:Stmt:=top 69
theorem sc_strikes_by_region:aw ["puzzle","masks","thought","floor","rule"] ["puzzle","masks","thought"] (ai dv):=⟨rfl,rfl,rfl,by decide+kernel,rfl,by decide+kernel,by decide+kernel⟩
set_option maxHeartbeats 4000000 in
theorem kM {P:Program} {w:World} {K:PySem.W.Frag} {mg:Str→Option Value} {base:Heap} (B:Bt2 mg) {c:RCl RK} {d:RCl PzK} (Ar:Cal P w K mg base 5 "reach_strikes" ["floor","rule","masks","cell","sign","more"] (bB K c)) (z8:Cal P w K mg base 5 "square_strikes" ["floor","rule","masks","cell","sign","more"] (bt K c)) (AJ:Cal P w K mg base 5 "turn_strikes" ["floor","rule","masks","cell","sign","more"] (bO K c)) (Bq:MCal P w K mg base d d.ok 1 "place" ["self"] (gQ K c d)) (Bp:MCal P w K mg base d d.ok 1 "rules" ["self"] (gR K c d)) {f:Addr} {fd:FuncData} (F:Fun K "strikes_by_region" "strikes_by_region" dv f fd):FnOk P w K mg base CX0 6 f fd ["puzzle","masks","thought"] (aS K c d):=by
 refine F.ok sc_strikes_by_region (fun vs H Q E h=>eK h) (fun cdv A outer s H vs Q E hr h=>?_)
 have hu:=hr.units
 have nd:=sc_strikes_by_region.nd
 refine ⟨bF K c d,?_,jO h⟩
 exact (ae (ax (i:=3) nd rfl (Or.inl rfl) (bZ Bq hr (by decide) (pv 0)))
   (ae (ax (i:=4) nd rfl (Or.inl rfl) (ak (av hu) (bZ Bp hr (by decide) (pv 0)) (ak (av hu) (pv 2) ac (fun _ _=>rfl)) (fun _ _=>rfl)))
   (ae (aB (aq (aL hu) (ak (av hu) (pv 2) ac (fun _ _=>rfl)) aT (ap _)) (af (am (ao z8 hr (by decide) rfl (ab (pv 3) (ab (pv 4) (ab (pv 1) (ab (ak (av hu) (pv 2) ac (fun _ _=>rfl)) (ab (ak (av hu) (pv 2) ac (fun _ _=>rfl)) (ab (ak (av hu) (pv 2) ac (fun _ _=>rfl)) ad))))))))) au)
   (ae (aB (aq (aL hu) (ak (av hu) (pv 2) ac (fun _ _=>rfl)) aT (ap _)) (af (am (ao Ar hr (by decide) rfl (ab (pv 3) (ab (pv 4) (ab (pv 1) (ab (ak (av hu) (pv 2) ac (fun _ _=>rfl)) (ab (ak (av hu) (pv 2) ac (fun _ _=>rfl)) (ab (ak (av hu) (pv 2) ac (fun _ _=>rfl)) ad))))))))) au)
   (af (am (ao AJ hr (by decide) rfl (ab (pv 3) (ab (pv 4) (ab (pv 1) (ab (ak (av hu) (pv 2) ac (fun _ _=>rfl)) (ab (ak (av hu) (pv 2) ac (fun _ _=>rfl)) (ab (ak (av hu) (pv 2) ac (fun _ _=>rfl)) ad)))))))))))))
abbrev jy:Stmt:=top 101
theorem sc_read_rules:aw ["floor","lines"] ["floor","lines"] (ai jy):=⟨rfl,rfl,rfl,by decide+kernel,rfl,by decide+kernel,by decide+kernel⟩
set_option maxHeartbeats 4000000 in
theorem p8 {P:Program} {w:World} {K:PySem.W.Frag} {mg:Str→Option Value} {base:Heap} (B:Bt2 mg) {c:RCl RK} (BT:Cal P w K mg base 5 "read_rule" ["floor","line"] (cQ K c)) {t_MOST_RULES:Tok} (Bx:mg "MOST_RULES"=some (.int 12 t_MOST_RULES)) {f:Addr} {fd:FuncData} (F:Fun K "read_rules" "read_rules" jy f fd):FnOk P w K mg base CX0 6 f fd ["floor","lines"] (cn K c):=by
 refine F.ok sc_read_rules (fun vs H Q E h=>pR h) (fun cdv A outer s H vs Q E hr h=>?_)
 have hu:=hr.units
 have nd:=sc_read_rules.nd
 refine ⟨fb K c,?_,pS h⟩
 exact (ae (aB (aq di (aC aN rfl B.len_ aX (ab (pv 1) ad)) (cI rfl Bx ⟨t_MOST_RULES,rfl⟩) (ap _)) (af bo) au)
   (af (am (bh (ix:=[none,none,some 0]) [".0","line","floor"] (aZ rfl (by decide+kernel) rfl rfl rfl) rfl (aY (pv 1)) (fun cl s H fp=>(aE (i:=1) (show ([".0","line","floor"]:List Str).Nodup by decide+kernel) rfl (Or.inl rfl))) (fun cl s H fp=>d6) (fun cl s H fp=>(ao BT hr (by decide) rfl (ab (pv 2) (ab (pv 1) ad))))))))
abbrev lN:Stmt:=top 71
theorem sc_strikes:aw ["puzzle","masks","thought"] ["puzzle","masks","thought"] (ai lN):=⟨rfl,rfl,rfl,by decide+kernel,rfl,by decide+kernel,by decide+kernel⟩
set_option maxHeartbeats 4000000 in
theorem uf {P:Program} {w:World} {K:PySem.W.Frag} {mg:Str→Option Value} {base:Heap} (B:Bt2 mg) {c:RCl RK} {d:RCl PzK} (zl:Cal P w K mg base 6 "strikes_by_region" ["puzzle","masks","thought"] (aS K c d)) (G_LINE_KINDS:GTup K mg "LINE_KINDS" fe) (G_NUMBER_KINDS:GTup K mg "NUMBER_KINDS" dE) {f:Addr} {fd:FuncData} (F:Fun K "strikes" "strikes" lN f fd):FnOk P w K mg base CX0 7 f fd ["puzzle","masks","thought"] (cT K c d):=by
 refine F.ok sc_strikes (fun vs H Q E h=>ra h) (fun cdv A outer s H vs Q E hr h=>?_)
 have hu:=hr.units
 have nd:=sc_strikes.nd
 refine ⟨gn K c d,?_,rb h⟩
 exact (ae (aB (nT G_LINE_KINDS (ak (av hu) (pv 2) ac (fun _ _=>rfl)) rfl) (af (am pD)) au)
   (ae (aB (nT G_NUMBER_KINDS (ak (av hu) (pv 2) ac (fun _ _=>rfl)) rfl) (af (am pD)) au)
   (af (am (ao zl hr (by decide) rfl (ab (pv 0) (ab (pv 1) (ab (pv 2) ad))))))))
abbrev eD:Stmt:=mtop 104 0
theorem sc_Puzzle___init__:aw ["self","floor","lines","clues"] ["self","floor","lines","clues"] (ai eD):=⟨rfl,rfl,rfl,by decide+kernel,rfl,by decide+kernel,by decide+kernel⟩
set_option maxHeartbeats 4000000 in
theorem lO {P:Program} {w:World} {K:PySem.W.Frag} {mg:Str→Option Value} {base:Heap} (B:Bt2 mg) {c:RCl RK} {d:RCl PzK} (As:Cal P w K mg base 3 "checked_clues" ["floor","clues"] (bA K)) (At:Cal P w K mg base 4 "checked_floor" ["floor"] (bz K)) (By:Cal P w K mg base 6 "read_rules" ["floor","lines"] (cn K c)) (FK_d_floor:FldK K d "floor") (FK_d_given:FldK K d "given") (FK_d_laws:FldK K d "laws") {f:Addr} {fd:FuncData} (F:Fun K "__init__" "Puzzle.__init__" eD f fd):FnOk P w K mg base CX0 7 f fd ["self","floor","lines","clues"] (aV K c d):=by
 refine F.ok sc_Puzzle___init__ (fun vs H Q E h=>lp h) (fun cdv A outer s H vs Q E hr h=>?_)
 have hu:=hr.units
 have nd:=sc_Puzzle___init__.nd
 refine ⟨cw K c d,?_,lq h⟩
 exact (ae (fw (pv 0) (ao At hr (by decide) rfl (ab (pv 1) ad)) FK_d_floor)
   (ae (fw (pv 0) (ao By hr (by decide) rfl (ab (gO (pv 0) FK_d_floor) (ab (pv 2) ad))) FK_d_laws)
   (af (fw (pv 0) (ao As hr (by decide) rfl (ab (gO (pv 0) FK_d_floor) (ab (pv 3) ad))) FK_d_given))))
abbrev lP:Stmt:=top 72
theorem sc_allowed:aw ["puzzle","masks","thought"] ["puzzle","masks","thought"] (ai lP):=⟨rfl,rfl,rfl,by decide+kernel,rfl,by decide+kernel,by decide+kernel⟩
set_option maxHeartbeats 4000000 in
theorem ug {P:Program} {w:World} {K:PySem.W.Frag} {mg:Str→Option Value} {base:Heap} (B:Bt2 mg) {c:RCl RK} {d:RCl PzK} (BU:Cal P w K mg base 4 "is_formed" ["puzzle","thought"] (cR K c d)) (CK:Cal P w K mg base 7 "strikes" ["puzzle","masks","thought"] (cT K c d)) {f:Addr} {fd:FuncData} (F:Fun K "allowed" "allowed" lP f fd):FnOk P w K mg base CX0 8 f fd ["puzzle","masks","thought"] (cU K c d):=by
 refine F.ok sc_allowed (fun vs H Q E h=>rd h) (fun cdv A outer s H vs Q E hr h=>?_)
 have hu:=hr.units
 have nd:=sc_allowed.nd
 refine ⟨gp K c d,?_,re h⟩
 exact (af (am (bx (ao BU hr (by decide) rfl (ab (pv 0) (ab (pv 2) ad))) (bV (ao CK hr (by decide) rfl (ab (pv 0) (ab (pv 1) (ab (pv 2) ad))))))))
abbrev jz:Stmt:=top 117
theorem sc__law_sound:aw ["_law_puzzle","_law_masks_here","_law_filling_here","_law_thought"] ["_law_puzzle","_law_masks_here","_law_filling_here","_law_thought"] (ai jz):=⟨rfl,rfl,rfl,by decide+kernel,rfl,by decide+kernel,by decide+kernel⟩
set_option maxHeartbeats 4000000 in
theorem p9 {P:Program} {w:World} {K:PySem.W.Frag} {mg:Str→Option Value} {base:Heap} (B:Bt2 mg) {c:RCl RK} {d:RCl PzK} (CL:Cal P w K mg base 8 "allowed" ["puzzle","masks","thought"] (cU K c d)) {f:Addr} {fd:FuncData} (F:Fun K "_law_sound" "_law_sound" jz f fd):FnOk P w K mg base CX0 9 f fd ["_law_puzzle","_law_masks_here","_law_filling_here","_law_thought"] (bR K c d):=by
 refine F.ok sc__law_sound (fun vs H Q E h=>oG h) (fun cdv A outer s H vs Q E hr h=>?_)
 have hu:=hr.units
 have nd:=sc__law_sound.nd
 refine ⟨dN K c d,?_,oH h⟩
 exact (af (am (sJ (uk (ao CL hr (by decide) rfl (ab (pv 0) (ab (pv 1) (ab (pv 3) ad))))) (bV (aJ (bm hu) (ak (av hu) (pv 2) (ak (av hu) (pv 3) ac (fun _ _=>rfl)) (fun _ _=>rfl)) (ak (av hu) (pv 3) ac (fun _ _=>rfl)) (ap _))))))
abbrev md:Stmt:=top 118
theorem sc_law:aw ["_law_script","_law_floor_here","_law_many","_law_cell","_law_word","_law_sign","_law_filling_here","_law_masks_here","_law_k","_law_puzzle","_law_at","_law_struck_one","_law_mores_here","_law_kind","_law_more"] ["_law_script"] (ai md):=⟨rfl,rfl,rfl,by decide+kernel,rfl,by decide+kernel,by decide+kernel⟩
set_option maxHeartbeats 4000000 in
theorem yu {P:Program} {w:World} {K:PySem.W.Frag} {mg:Str→Option Value} {base:Heap} (B:Bt2 mg) {c:RCl RK} {d:RCl PzK} (yW:Cal P w K mg base 1 "_law_cell_at" ["_law_script","_law_k"] (az K)) (AK:Cal P w K mg base 3 "_law_filling" ["_law_script","_law_floor_here","_law_word","_law_sign"] (bu K)) (Bz:Cal P w K mg base 1 "_law_floor" ["_law_cell"] (bM K)) (BA:Cal P w K mg base 2 "_law_masks" ["_law_script","_law_at","_law_many","_law_signs"] (bN K)) (BB:Cal P w K mg base 2 "_law_mores" ["_law_script","_law_floor_here","_law_masks_here","_law_cell","_law_sign","_law_at"] (bQ K)) (BC:Cal P w K mg base 9 "_law_sound" ["_law_puzzle","_law_masks_here","_law_filling_here","_law_thought"] (bR K c d)) (DE:KCal P w K mg base 7 "Puzzle" (d.A .Puzzle) ["self","floor","lines","clues"] (aV K c d)) {f:Addr} {fd:FuncData} (F:Fun K "law" "law" md f fd):FnOk P w K mg base CX0 10 f fd ["_law_script"] (rk K c d):=by
 refine F.ok sc_law (fun vs H Q E h=>yq h) (fun cdv A outer s H vs Q E hr h=>?_)
 have hu:=hr.units
 have nd:=sc_law.nd
 refine ⟨oI K c d,?_,yr h⟩
 exact (ae (ax (i:=1) nd rfl (Or.inl rfl) (ao Bz hr (by decide) rfl (ab (ao yW hr (by decide) rfl (ab (pv 0) (ab ac ad))) ad)))
   (ae (ax (i:=1) nd rfl (Or.inl rfl) (dO (ab (ak (av hu) (pv 1) ac (fun _ _=>rfl)) (ab (ak (av hu) (pv 1) ac (fun _ _=>rfl)) (ab (aC (uL rfl) rfl B.max_ xR (ab ac (ab (ak (av hu) (pv 1) ac (fun _ _=>rfl)) ad))) ad)))))
   (ae (ax (i:=2) nd rfl (Or.inl rfl) (ah be (ak (av hu) (pv 1) ac (fun _ _=>rfl)) (ak (av hu) (pv 1) ac (fun _ _=>rfl))))
   (ae (ax (i:=3) nd rfl (Or.inl rfl) (ah bj (ao yW hr (by decide) rfl (ab (pv 0) (ab ac ad))) ac))
   (ae (ax (i:=4) nd rfl (Or.inl rfl) (ak (av hu) (aK (ab aT (ab aT (ab aT ad)))) (ah aI (pv 3) ac) (fun _ _=>rfl)))
   (ae (ax (i:=5) nd rfl (Or.inl rfl) (ah aD ac (ah aI (ah bj (pv 3) ac) (ak (av hu) (pv 1) ac (fun _ _=>rfl)))))
   (ae (ax (i:=6) nd rfl (Or.inl rfl) (ao AK hr (by decide) rfl (ab (pv 0) (ab (pv 1) (ab (pv 4) (ab (pv 5) ad))))))
   (ae (ax (i:=7) nd rfl (Or.inl rfl) (ao BA hr (by decide) rfl (ab (pv 0) (ab ac (ab (pv 2) (ab (ak (av hu) (pv 1) ac (fun _ _=>rfl)) ad))))))
   (ae (cf PassesOwn.never rfl (bv rfl B.range_ (ab (pv 2) ad)) (aE (i:=8) nd rfl (Or.inl rfl))
   (ae (fE (ah uT (ak (av hu) (pv 7) (pv 8) (fun _ _=>rfl)) (ah j5 ac (ah bd (ak (av hu) (pv 6) (pv 8) (fun _ _=>rfl)) ac))) (j2 (pv 7) (pv 8) (lW hu)))
   (af (aB (aq di (ah aI (ao yW hr (by decide) rfl (ab (pv 0) (ab (ah aD ac (pv 8)) ad))) ac) ac (ap _)) (af (fE (ah j5 ac (ah bd (ak (av hu) (pv 6) (pv 8) (fun _ _=>rfl)) ac)) (j2 (pv 7) (pv 8) (lW hu)))) au))))
   (ae (ax (i:=9) nd rfl (Or.inl rfl) (iQ DE hr (by decide) rfl (ab (pv 1) (ab (aK (ab (ah aD (ah aD (pv 4) aT) (dP va rfl B.str_ uP (ab (pv 5) ad))) ad)) (ab (bh (ix:=[none,none]) [".0","_law_k"] (aZ rfl (by decide+kernel) rfl rfl rfl) rfl (bv rfl B.range_ (ab (pv 2) ad)) (fun cl s H fp=>(aE (i:=1) (show ([".0","_law_k"]:List Str).Nodup by decide+kernel) rfl (Or.inl rfl))) (fun cl s H fp=>d6) (fun cl s H fp=>ac)) ad)))))
   (ae (cf PassesOwn.never rfl (bv rfl B.range_ (ab ac ad)) (aE (i:=8) nd rfl (Or.inl rfl))
   (ae (ax (i:=10) nd rfl (Or.inl rfl) (ah aI (ao yW hr (by decide) rfl (ab (pv 0) (ab (ah aD ac (ah be ac (pv 8))) ad))) (pv 2)))
   (af (cf PassesOwn.never rfl (aY (aK (ab (pv 5) (ab (ah aD ac (ah aI (ao yW hr (by decide) rfl (ab (pv 0) (ab (ah aD ac (ah be ac (pv 8))) ad))) (ak (av hu) (pv 1) ac (fun _ _=>rfl)))) ad)))) (aE (i:=11) nd rfl (Or.inl rfl))
   (ae (ax (i:=12) nd rfl (Or.inl rfl) (ao BB hr (by decide) rfl (ab (pv 0) (ab (pv 1) (ab (pv 7) (ab (pv 10) (ab (pv 5) (ab (ah aD ac (pv 8)) ad))))))))
   (af (cf PassesOwn.never rfl (xU rfl B.zip_ (ab (aK (ab aT (ab aT (ab aT (ab aT (ab aT ad)))))) (ab (pv 12) ad))) (kT rfl (cy (aE (i:=13) nd rfl (Or.inl rfl)) (cy (aE (i:=14) nd rfl (Or.inl rfl)) jZ)))
   (af (aB (bU (a9 (ao BC hr (by decide) rfl (ab (pv 9) (ab (pv 7) (ab (pv 6) (ab (dO (ab (pv 13) (ab ac (ab (pv 10) (ab (pv 11) (ab (pv 14) ad)))))) ad))))))) (af (am eP)) au)))))))))
   (af (am eP)))))))))))))
def mkC (yY zb y1 y8 y3 y2 yX y9:Addr):RCl RK:=⟨fun k=>match k with | .Rule=>yY | .Unlike=>yY | .Sum=>zb | .Rising=>y1 | .Seen=>y8 | .Count=>y3 | .Joined=>y2 | .NoSquare=>yX | .Ring=>y9,fun k=>match k with | .Rule=>false | _=>true⟩
def mkD (y4:Addr):RCl PzK:=⟨fun _=>y4,fun _=>true⟩
set_option maxHeartbeats 40000000 in
theorem yw {l:PySem.W.OpenLaw} {w:World} {K:PySem.W.Frag} {h:Heap} {mg:Str→Option Value} {fa:Addr} (X:K.In h) (G:h.Ns mainGlobals mg) (hfa:mg "law"=some (.ref fa))
  {f0 f1 f2 f3 f4 f5 f6 f7 f8 f9 f10 f11 f12 f13 f14 f15 f16 f17 f18 f19 f20 f21 f22 f23 f24 f25 f26 f27 f28 f29 f30 f31 f32 f33 f34 f35 f36 f37 f38 f39 f40 f41 f42 f43 f44 f45 f46 f47 f48 f49 f50 f51 f52 f53 f54 f55 f56 f57 f58 f59 f60 f61:Addr} {fd0 fd1 fd2 fd3 fd4 fd5 fd6 fd7 fd8 fd9 fd10 fd11 fd12 fd13 fd14 fd15 fd16 fd17 fd18 fd19 fd20 fd21 fd22 fd23 fd24 fd25 fd26 fd27 fd28 fd29 fd30 fd31 fd32 fd33 fd34 fd35 fd36 fd37 fd38 fd39 fd40 fd41 fd42 fd43 fd44 fd45 fd46 fd47 fd48 fd49 fd50 fd51 fd52 fd53 fd54 fd55 fd56 fd57 fd58 fd59 fd60 fd61:FuncData} {yY zb y1 y8 y3 y2 yX y9 y4:Addr} {DF:Addr} {EM:Option Addr} {EN:Nat} {EO:Array (Option Value)} {EQ ER ES ET EU EV t6_KINDS t7_KINDS t8_KINDS t9_KINDS t10_KINDS:Tok} {AY:Addr} {Es:Option Addr} {Et:Nat} {Eu:Array (Option Value)} {Ev Ew Ex Ey Ez:Tok} {Au:Addr} {D0:Option Addr} {D1:Nat} {D2:Array (Option Value)} {D3 D4 D5:Tok} {Av:Addr} {D6:Option Addr} {D7:Nat} {D8:Array (Option Value)} {D9 Ea Eb:Tok} {AL:Addr} {Ed:Option Addr} {Ee:Nat} {Ef:Array (Option Value)} {Eg Eh Ei:Tok} {BD:Addr} {ED:Option Addr} {EE:Nat} {EF:Array (Option Value)} {EG EH EI EJ:Tok} {z9:Addr} {DG:Nat} {A5:Int} {Dg:Tok} {A6:Addr} {CM:Option Addr} {Dh:Nat} {CN:Array (Option Value)} {Cs:Tok} {A7:Int} {Di:Tok} {A8:Addr} {CO:Option Addr} {Dj:Nat} {CP:Array (Option Value)} {Ct:Tok} {A9:Int} {Dk:Tok} {Ba:Addr} {CQ:Option Addr} {Dl:Nat} {CS:Array (Option Value)} {Cu:Tok} {Bb:Int} {Dm:Tok} {Bc:Addr} {CT:Option Addr} {Dn:Nat} {CU:Array (Option Value)} {Cv:Tok} {Bd:Int} {Do:Tok} {Be:Addr} {CV:Option Addr} {Dp:Nat} {CW:Array (Option Value)} {Cw:Tok} {Bf:Int} {Dq:Tok} {Bg:Addr} {CY:Option Addr} {Dr:Nat} {CZ:Array (Option Value)} {Cy:Tok} {Bh:Int} {Ds:Tok} {Bi:Addr} {C0:Option Addr} {Dt:Nat} {C2:Array (Option Value)} {Cz CA:Tok} {Bj:Int} {Du:Tok} {Bk:Addr} {C3:Option Addr} {Dv:Nat} {C4:Array (Option Value)} {CB:Tok} {Bl:Int} {Dw:Tok} {Bm:Addr} {C5:Option Addr} {Dx:Nat} {C6:Array (Option Value)} {CC:Tok} {tk_FIGURES:Tok} {tk_MOST_CELLS:Tok} {tk_MOST_FIGURES:Tok} {tk_MOST_NUMBER:Tok} {tk_MOST_RULES:Tok} {tk_MOST_SIDE:Tok} {tk_MOST_SIGNS:Tok}
  (DH:PySem.W.nsIn K mainGlobals "Unlike"=some (some (.ref yY))) (q_Sum:PySem.W.nsIn K mainGlobals "Sum"=some (some (.ref zb))) (DI:PySem.W.nsIn K mainGlobals "Rising"=some (some (.ref y1))) (EK:PySem.W.nsIn K mainGlobals "Seen"=some (some (.ref y8))) (Ej:PySem.W.nsIn K mainGlobals "Count"=some (some (.ref y3))) (DJ:PySem.W.nsIn K mainGlobals "Joined"=some (some (.ref y2))) (BY:PySem.W.nsIn K mainGlobals "NoSquare"=some (some (.ref yX))) (EL:PySem.W.nsIn K mainGlobals "Ring"=some (some (.ref y9))) (DK:PySem.W.nsIn K mainGlobals "Puzzle"=some (some (.ref y4))) (a0:PySem.W.nsIn K mainGlobals "is_whole"=some (some (.ref f0))) (a1:PySem.W.nsIn K mainGlobals "many_cells"=some (some (.ref f1))) (a2:PySem.W.nsIn K mainGlobals "spot_of"=some (some (.ref f2))) (a3:PySem.W.nsIn K mainGlobals "square_at"=some (some (.ref f3))) (a4:PySem.W.nsIn K mainGlobals "bit_of"=some (some (.ref f4))) (a5:PySem.W.nsIn K mainGlobals "stands"=some (some (.ref f5))) (a6:PySem.W.nsIn K mainGlobals "masks_at"=some (some (.ref f6))) (BZ:PySem.W.findIn K (.ref yY) "__init__"=some (some (.ref f7))) (Ek:PySem.W.findIn K (.ref zb) "__init__"=some (some (.ref f7))) (B0:PySem.W.findIn K (.ref y1) "__init__"=some (some (.ref f7))) (DL:PySem.W.findIn K (.ref y8) "__init__"=some (some (.ref f7))) (C7:PySem.W.findIn K (.ref y3) "__init__"=some (some (.ref f7))) (B1:PySem.W.findIn K (.ref y2) "__init__"=some (some (.ref f7))) (BE:PySem.W.findIn K (.ref yX) "__init__"=some (some (.ref f7))) (DM:PySem.W.findIn K (.ref y9) "__init__"=some (some (.ref f7))) (a8_Unlike:PySem.W.findIn K (.ref yY) "name"=some (some (.ref f8))) (a8_Sum:PySem.W.findIn K (.ref zb) "name"=some (some (.ref f8))) (a8_Rising:PySem.W.findIn K (.ref y1) "name"=some (some (.ref f8))) (a8_Seen:PySem.W.findIn K (.ref y8) "name"=some (some (.ref f8))) (a8_Count:PySem.W.findIn K (.ref y3) "name"=some (some (.ref f8))) (a8_Joined:PySem.W.findIn K (.ref y2) "name"=some (some (.ref f8))) (a8_NoSquare:PySem.W.findIn K (.ref yX) "name"=some (some (.ref f8))) (a8_Ring:PySem.W.findIn K (.ref y9) "name"=some (some (.ref f8))) (a9_Unlike:PySem.W.findIn K (.ref yY) "spots"=some (some (.ref f9))) (a9_Sum:PySem.W.findIn K (.ref zb) "spots"=some (some (.ref f9))) (a9_Rising:PySem.W.findIn K (.ref y1) "spots"=some (some (.ref f9))) (a9_Seen:PySem.W.findIn K (.ref y8) "spots"=some (some (.ref f9))) (a9_Count:PySem.W.findIn K (.ref y3) "spots"=some (some (.ref f9))) (a9_Joined:PySem.W.findIn K (.ref y2) "spots"=some (some (.ref f9))) (a9_NoSquare:PySem.W.findIn K (.ref yX) "spots"=some (some (.ref f9))) (a9_Ring:PySem.W.findIn K (.ref y9) "spots"=some (some (.ref f9))) (a10_Unlike:PySem.W.findIn K (.ref yY) "sign"=some (some (.ref f10))) (a10_Sum:PySem.W.findIn K (.ref zb) "sign"=some (some (.ref f10))) (a10_Rising:PySem.W.findIn K (.ref y1) "sign"=some (some (.ref f10))) (a10_Seen:PySem.W.findIn K (.ref y8) "sign"=some (some (.ref f10))) (a10_Count:PySem.W.findIn K (.ref y3) "sign"=some (some (.ref f10))) (a10_Joined:PySem.W.findIn K (.ref y2) "sign"=some (some (.ref f10))) (a10_NoSquare:PySem.W.findIn K (.ref yX) "sign"=some (some (.ref f10))) (a10_Ring:PySem.W.findIn K (.ref y9) "sign"=some (some (.ref f10))) (a11:PySem.W.nsIn K mainGlobals "number_in"=some (some (.ref f11))) (a12_Puzzle:PySem.W.findIn K (.ref y4) "place"=some (some (.ref f12))) (a13_Puzzle:PySem.W.findIn K (.ref y4) "rules"=some (some (.ref f13))) (a14:PySem.W.nsIn K mainGlobals "_law_cell_at"=some (some (.ref f14))) (a15:PySem.W.nsIn K mainGlobals "_law_floor"=some (some (.ref f15))) (a16:PySem.W.nsIn K mainGlobals "_law_only"=some (some (.ref f16))) (a17:PySem.W.nsIn K mainGlobals "_law_near"=some (some (.ref f17))) (a18:PySem.W.nsIn K mainGlobals "_law_unsquared"=some (some (.ref f18))) (a19:PySem.W.nsIn K mainGlobals "is_from_one_to"=some (some (.ref f19))) (a20:PySem.W.nsIn K mainGlobals "beside"=some (some (.ref f20))) (a21:PySem.W.nsIn K mainGlobals "is_corner"=some (some (.ref f21))) (a22:PySem.W.nsIn K mainGlobals "without"=some (some (.ref f22))) (a23:PySem.W.nsIn K mainGlobals "is_cell"=some (some (.ref f23))) (a24:PySem.W.nsIn K mainGlobals "goes_by"=some (some (.ref f24))) (a25:PySem.W.nsIn K mainGlobals "others"=some (some (.ref f25))) (a26:PySem.W.nsIn K mainGlobals "many_may"=some (some (.ref f26))) (a27:PySem.W.nsIn K mainGlobals "number_within"=some (some (.ref f27))) (a28:PySem.W.nsIn K mainGlobals "is_filling"=some (some (.ref f28))) (a29:PySem.W.nsIn K mainGlobals "_law_masks"=some (some (.ref f29))) (a30:PySem.W.nsIn K mainGlobals "_law_grown"=some (some (.ref f30))) (a31:PySem.W.nsIn K mainGlobals "_law_border"=some (some (.ref f31))) (a32:PySem.W.nsIn K mainGlobals "_law_mores"=some (some (.ref f32))) (a33:PySem.W.nsIn K mainGlobals "floor_of"=some (some (.ref f33))) (a34:PySem.W.nsIn K mainGlobals "squares"=some (some (.ref f34))) (a35:PySem.W.nsIn K mainGlobals "reached"=some (some (.ref f35))) (a36:PySem.W.nsIn K mainGlobals "has_only"=some (some (.ref f36))) (a37:PySem.W.nsIn K mainGlobals "is_sign"=some (some (.ref f37))) (a38:PySem.W.nsIn K mainGlobals "has_its_rule"=some (some (.ref f38))) (a39:PySem.W.nsIn K mainGlobals "around"=some (some (.ref f39))) (a40:PySem.W.nsIn K mainGlobals "first_within"=some (some (.ref f40))) (a41:PySem.W.nsIn K mainGlobals "told_cells"=some (some (.ref f41))) (a42:PySem.W.nsIn K mainGlobals "rule_by"=some (some (.ref f42))) (a43:PySem.W.nsIn K mainGlobals "checked_clues"=some (some (.ref f43))) (a44:PySem.W.nsIn K mainGlobals "_law_filling"=some (some (.ref f44))) (a45:PySem.W.nsIn K mainGlobals "is_formed"=some (some (.ref f45))) (a46:PySem.W.nsIn K mainGlobals "many_only"=some (some (.ref f46))) (a47:PySem.W.nsIn K mainGlobals "rest_of_square"=some (some (.ref f47))) (a48:PySem.W.nsIn K mainGlobals "is_another_with_only"=some (some (.ref f48))) (a49:PySem.W.nsIn K mainGlobals "cells_of"=some (some (.ref f49))) (a50:PySem.W.nsIn K mainGlobals "checked_floor"=some (some (.ref f50))) (a51:PySem.W.nsIn K mainGlobals "square_strikes"=some (some (.ref f51))) (a52:PySem.W.nsIn K mainGlobals "reach_strikes"=some (some (.ref f52))) (a53:PySem.W.nsIn K mainGlobals "turn_strikes"=some (some (.ref f53))) (a54:PySem.W.nsIn K mainGlobals "read_rule"=some (some (.ref f54))) (a55:PySem.W.nsIn K mainGlobals "strikes_by_region"=some (some (.ref f55))) (a56:PySem.W.nsIn K mainGlobals "read_rules"=some (some (.ref f56))) (a57:PySem.W.nsIn K mainGlobals "strikes"=some (some (.ref f57))) (B2:PySem.W.findIn K (.ref y4) "__init__"=some (some (.ref f58))) (a59:PySem.W.nsIn K mainGlobals "allowed"=some (some (.ref f59))) (a60:PySem.W.nsIn K mainGlobals "_law_sound"=some (some (.ref f60))) (a61:PySem.W.nsIn K mainGlobals "law"=some (some (.ref f61))) (F0:Fun K "is_whole" "is_whole" kG f0 fd0) (F1:Fun K "many_cells" "many_cells" jq f1 fd1) (F2:Fun K "spot_of" "spot_of" lF f2 fd2) (F3:Fun K "square_at" "square_at" jP f3 fd3) (F4:Fun K "bit_of" "bit_of" m6 f4 fd4) (F5:Fun K "stands" "stands" m7 f5 fd5) (F6:Fun K "masks_at" "masks_at" kH f6 fd6) (F7:Fun K "__init__" "Rule.__init__" gs f7 fd7) (fn7:PySem.W.isFn K (.ref f7)=true) (F8:Fun K "name" "Rule.name" jQ f8 fd8) (fn8:PySem.W.isFn K (.ref f8)=true) (F9:Fun K "spots" "Rule.spots" jr f9 fd9) (fn9:PySem.W.isFn K (.ref f9)=true) (F10:Fun K "sign" "Rule.sign" jR f10 fd10) (fn10:PySem.W.isFn K (.ref f10)=true) (F11:Fun K "number_in" "number_in" jS f11 fd11) (F12:Fun K "place" "Puzzle.place" gS f12 fd12) (fn12:PySem.W.isFn K (.ref f12)=true) (F13:Fun K "rules" "Puzzle.rules" gU f13 fd13) (fn13:PySem.W.isFn K (.ref f13)=true) (F14:Fun K "_law_cell_at" "_law_cell_at" gW f14 fd14) (F15:Fun K "_law_floor" "_law_floor" js f15 fd15) (F16:Fun K "_law_only" "_law_only" jT f16 fd16) (F17:Fun K "_law_near" "_law_near" jU f17 fd17) (F18:Fun K "_law_unsquared" "_law_unsquared" fh f18 fd18) (F19:Fun K "is_from_one_to" "is_from_one_to" fj f19 fd19) (F20:Fun K "beside" "beside" m9 f20 fd20) (F21:Fun K "is_corner" "is_corner" jV f21 fd21) (F22:Fun K "without" "without" lG f22 fd22) (F23:Fun K "is_cell" "is_cell" lH f23 fd23) (F24:Fun K "goes_by" "goes_by" lI f24 fd24) (F25:Fun K "others" "others" nc f25 fd25) (F26:Fun K "many_may" "many_may" kI f26 fd26) (F27:Fun K "number_within" "number_within" gt f27 fd27) (F28:Fun K "is_filling" "is_filling" jt f28 fd28) (F29:Fun K "_law_masks" "_law_masks" ju f29 fd29) (F30:Fun K "_law_grown" "_law_grown" jv f30 fd30) (F31:Fun K "_law_border" "_law_border" ik f31 fd31) (F32:Fun K "_law_mores" "_law_mores" jw f32 fd32) (F33:Fun K "floor_of" "floor_of" kJ f33 fd33) (F34:Fun K "squares" "squares" lJ f34 fd34) (F35:Fun K "reached" "reached" lK f35 fd35) (F36:Fun K "has_only" "has_only" kK f36 fd36) (F37:Fun K "is_sign" "is_sign" lL f37 fd37) (F38:Fun K "has_its_rule" "has_its_rule" gX f38 fd38) (F39:Fun K "around" "around" nh f39 fd39) (F40:Fun K "first_within" "first_within" gY f40 fd40) (F41:Fun K "told_cells" "told_cells" jx f41 fd41) (F42:Fun K "rule_by" "rule_by" lM f42 fd42) (F43:Fun K "checked_clues" "checked_clues" gu f43 fd43) (F44:Fun K "_law_filling" "_law_filling" gZ f44 fd44) (F45:Fun K "is_formed" "is_formed" jW f45 fd45) (F46:Fun K "many_only" "many_only" jX f46 fd46) (F47:Fun K "rest_of_square" "rest_of_square" fk f47 fd47) (F48:Fun K "is_another_with_only" "is_another_with_only" cC f48 fd48) (F49:Fun K "cells_of" "cells_of" kL f49 fd49) (F50:Fun K "checked_floor" "checked_floor" gw f50 fd50) (F51:Fun K "square_strikes" "square_strikes" fq f51 fd51) (F52:Fun K "reach_strikes" "reach_strikes" gx f52 fd52) (F53:Fun K "turn_strikes" "turn_strikes" g7 f53 fd53) (F54:Fun K "read_rule" "read_rule" jY f54 fd54) (F55:Fun K "strikes_by_region" "strikes_by_region" dv f55 fd55) (F56:Fun K "read_rules" "read_rules" jy f56 fd56) (F57:Fun K "strikes" "strikes" lN f57 fd57) (F58:Fun K "__init__" "Puzzle.__init__" eD f58 fd58) (fn58:PySem.W.isFn K (.ref f58)=true) (F59:Fun K "allowed" "allowed" lP f59 fd59) (F60:Fun K "_law_sound" "_law_sound" jz f60 fd60) (F61:Fun K "law" "law" md f61 fd61) (B3:PySem.W.makesIn K yY=true) (B4:PySem.W.keepIn K (.ref yY)=true) (B5:PySem.W.plainGet K yY Str.empty=true) (B6:PySem.W.hasDictIn K yY=true) (B7:PySem.W.plainOver K yY=true) (B8:PySem.W.findIn K (.ref yY) "__setattr__"=some (some (.builtin "object.__setattr__"))) (El:PySem.W.makesIn K zb=true) (Em:PySem.W.keepIn K (.ref zb)=true) (En:PySem.W.plainGet K zb Str.empty=true) (Eo:PySem.W.hasDictIn K zb=true) (Ep:PySem.W.plainOver K zb=true) (Er:PySem.W.findIn K (.ref zb) "__setattr__"=some (some (.builtin "object.__setattr__"))) (B9:PySem.W.makesIn K y1=true) (Ca:PySem.W.keepIn K (.ref y1)=true) (Cb:PySem.W.plainGet K y1 Str.empty=true) (Cc:PySem.W.hasDictIn K y1=true) (Cd:PySem.W.plainOver K y1=true) (Ce:PySem.W.findIn K (.ref y1) "__setattr__"=some (some (.builtin "object.__setattr__"))) (DN:PySem.W.makesIn K y8=true) (DO:PySem.W.keepIn K (.ref y8)=true) (DP:PySem.W.plainGet K y8 Str.empty=true) (DQ:PySem.W.hasDictIn K y8=true) (DR:PySem.W.plainOver K y8=true) (DS:PySem.W.findIn K (.ref y8) "__setattr__"=some (some (.builtin "object.__setattr__"))) (C8:PySem.W.makesIn K y3=true) (C9:PySem.W.keepIn K (.ref y3)=true) (Da:PySem.W.plainGet K y3 Str.empty=true) (Db:PySem.W.hasDictIn K y3=true) (Dc:PySem.W.plainOver K y3=true) (Dd:PySem.W.findIn K (.ref y3) "__setattr__"=some (some (.builtin "object.__setattr__"))) (Cf:PySem.W.makesIn K y2=true) (Cg:PySem.W.keepIn K (.ref y2)=true) (Ch:PySem.W.plainGet K y2 Str.empty=true) (Ci:PySem.W.hasDictIn K y2=true) (Cj:PySem.W.plainOver K y2=true) (Ck:PySem.W.findIn K (.ref y2) "__setattr__"=some (some (.builtin "object.__setattr__"))) (BF:PySem.W.makesIn K yX=true) (BG:PySem.W.keepIn K (.ref yX)=true) (BH:PySem.W.plainGet K yX Str.empty=true) (BK:PySem.W.hasDictIn K yX=true) (BL:PySem.W.plainOver K yX=true) (BM:PySem.W.findIn K (.ref yX) "__setattr__"=some (some (.builtin "object.__setattr__"))) (DT:PySem.W.makesIn K y9=true) (DU:PySem.W.keepIn K (.ref y9)=true) (DW:PySem.W.plainGet K y9 Str.empty=true) (DX:PySem.W.hasDictIn K y9=true) (DY:PySem.W.plainOver K y9=true) (DZ:PySem.W.findIn K (.ref y9) "__setattr__"=some (some (.builtin "object.__setattr__"))) (Cl:PySem.W.makesIn K y4=true) (Cm:PySem.W.keepIn K (.ref y4)=true) (Cn:PySem.W.plainGet K y4 Str.empty=true) (Co:PySem.W.hasDictIn K y4=true) (Cp:PySem.W.plainOver K y4=true) (Cq:PySem.W.findIn K (.ref y4) "__setattr__"=some (some (.builtin "object.__setattr__"))) (zK:PySem.W.findIn K (.ref yY) "amount"=some none) (Aw:PySem.W.findIn K (.ref zb) "amount"=some none) (zL:PySem.W.findIn K (.ref y1) "amount"=some none) (Aa:PySem.W.findIn K (.ref y8) "amount"=some none) (zP:PySem.W.findIn K (.ref y3) "amount"=some none) (zM:PySem.W.findIn K (.ref y2) "amount"=some none) (zj:PySem.W.findIn K (.ref yX) "amount"=some none) (Ab:PySem.W.findIn K (.ref y9) "amount"=some none) (zQ:PySem.W.findIn K (.ref yY) "cells"=some none) (AM:PySem.W.findIn K (.ref zb) "cells"=some none) (zR:PySem.W.findIn K (.ref y1) "cells"=some none) (Ax:PySem.W.findIn K (.ref y8) "cells"=some none) (Ac:PySem.W.findIn K (.ref y3) "cells"=some none) (zS:PySem.W.findIn K (.ref y2) "cells"=some none) (zm:PySem.W.findIn K (.ref yX) "cells"=some none) (Ay:PySem.W.findIn K (.ref y9) "cells"=some none) (zT:PySem.W.findIn K (.ref yY) "floor"=some none) (AN:PySem.W.findIn K (.ref zb) "floor"=some none) (zU:PySem.W.findIn K (.ref y1) "floor"=some none) (Az:PySem.W.findIn K (.ref y8) "floor"=some none) (Ad:PySem.W.findIn K (.ref y3) "floor"=some none) (zV:PySem.W.findIn K (.ref y2) "floor"=some none) (zn:PySem.W.findIn K (.ref yX) "floor"=some none) (AA:PySem.W.findIn K (.ref y9) "floor"=some none) (Ae:PySem.W.findIn K (.ref yY) "mark"=some none) (AZ:PySem.W.findIn K (.ref zb) "mark"=some none) (Af:PySem.W.findIn K (.ref y1) "mark"=some none) (AO:PySem.W.findIn K (.ref y8) "mark"=some none) (AB:PySem.W.findIn K (.ref y3) "mark"=some none) (Ag:PySem.W.findIn K (.ref y2) "mark"=some none) (zN:PySem.W.findIn K (.ref yX) "mark"=some none) (AQ:PySem.W.findIn K (.ref y9) "mark"=some none) (zW:PySem.W.findIn K (.ref yY) "words"=some none) (AR:PySem.W.findIn K (.ref zb) "words"=some none) (zX:PySem.W.findIn K (.ref y1) "words"=some none) (AC:PySem.W.findIn K (.ref y8) "words"=some none) (Ah:PySem.W.findIn K (.ref y3) "words"=some none) (zY:PySem.W.findIn K (.ref y2) "words"=some none) (zp:PySem.W.findIn K (.ref yX) "words"=some none) (AD:PySem.W.findIn K (.ref y9) "words"=some none) (zZ:PySem.W.findIn K (.ref y4) "floor"=some none) (z3:PySem.W.findIn K (.ref y4) "given"=some none) (Ai:PySem.W.findIn K (.ref y4) "laws"=some none) (De:PySem.W.nsIn K mainGlobals "KINDS"=some (some (.ref DF))) (Df:K.lookup DF=some ⟨.type "tuple",EM,.seq #[.str (tx [99,108,117,101]) EQ,.str (tx [111,110,108,121]) ER,.str (tx [112,108,97,99,101]) ES,.str (tx [99,111,117,110,116]) ET,.str (tx [115,116,101,112]) EU,.str (tx [115,117,109]) EV,.str (tx [115,113,117,97,114,101]) t6_KINDS,.str (tx [114,101,97,99,104]) t7_KINDS,.str (tx [116,117,114,110]) t8_KINDS,.str (tx [112,97,105,114]) t9_KINDS,.str (tx [119,97,121,115]) t10_KINDS] EN,EO⟩) (AS:PySem.W.nsIn K mainGlobals "LINE_KINDS"=some (some (.ref AY))) (AT:K.lookup AY=some ⟨.type "tuple",Es,.seq #[.str (tx [99,108,117,101]) Ev,.str (tx [111,110,108,121]) Ew,.str (tx [112,108,97,99,101]) Ex,.str (tx [115,116,101,112]) Ey,.str (tx [112,97,105,114]) Ez] Et,Eu⟩) (Aj:PySem.W.nsIn K mainGlobals "NUMBER_KINDS"=some (some (.ref Au))) (Ak:K.lookup Au=some ⟨.type "tuple",D0,.seq #[.str (tx [99,111,117,110,116]) D3,.str (tx [115,117,109]) D4,.str (tx [119,97,121,115]) D5] D1,D2⟩) (Al:PySem.W.nsIn K mainGlobals "OF_ALL_CELLS"=some (some (.ref Av))) (Am:K.lookup Av=some ⟨.type "tuple",D6,.seq #[.str (tx [106,111,105,110,101,100]) D9,.str (tx [110,111,115,113,117,97,114,101]) Ea,.str (tx [114,105,110,103]) Eb] D7,D8⟩) (AE:PySem.W.nsIn K mainGlobals "WITH_NUMBER"=some (some (.ref AL))) (AF:K.lookup AL=some ⟨.type "tuple",Ed,.seq #[.str (tx [115,117,109]) Eg,.str (tx [115,101,101,110]) Eh,.str (tx [99,111,117,110,116]) Ei] Ee,Ef⟩) (A0:PySem.W.nsIn K mainGlobals "WITH_SIGN"=some (some (.ref BD))) (A1:K.lookup BD=some ⟨.type "tuple",ED,.seq #[.str (tx [99,111,117,110,116]) EG,.str (tx [106,111,105,110,101,100]) EH,.str (tx [110,111,115,113,117,97,114,101]) EI,.str (tx [114,105,110,103]) EJ] EE,EF⟩) (z4:PySem.W.nsIn K mainGlobals "RULES_OF_KIND"=some (some (.ref z9))) (z5:K.lookup z9=some ⟨.type "dict",none,.dict #[⟨A5,.str (tx [111,110,108,121]) Dg,.ref A6⟩,⟨A7,.str (tx [112,108,97,99,101]) Di,.ref A8⟩,⟨A9,.str (tx [99,111,117,110,116]) Dk,.ref Ba⟩,⟨Bb,.str (tx [115,116,101,112]) Dm,.ref Bc⟩,⟨Bd,.str (tx [115,117,109]) Do,.ref Be⟩,⟨Bf,.str (tx [115,113,117,97,114,101]) Dq,.ref Bg⟩,⟨Bh,.str (tx [114,101,97,99,104]) Ds,.ref Bi⟩,⟨Bj,.str (tx [116,117,114,110]) Du,.ref Bk⟩,⟨Bl,.str (tx [112,97,105,114]) Dw,.ref Bm⟩] DG,#[]⟩) (zq:K.lookup A6=some ⟨.type "tuple",CM,.seq #[.str (tx [117,110,108,105,107,101]) Cs] Dh,CN⟩) (zr:A5=hashStr w (tx [111,110,108,121])) (zt:K.lookup A8=some ⟨.type "tuple",CO,.seq #[.str (tx [117,110,108,105,107,101]) Ct] Dj,CP⟩) (zu:A7=hashStr w (tx [112,108,97,99,101])) (zv:K.lookup Ba=some ⟨.type "tuple",CQ,.seq #[.str (tx [99,111,117,110,116]) Cu] Dl,CS⟩) (zw:A9=hashStr w (tx [99,111,117,110,116])) (zx:K.lookup Bc=some ⟨.type "tuple",CT,.seq #[.str (tx [114,105,115,105,110,103]) Cv] Dn,CU⟩) (zy:Bb=hashStr w (tx [115,116,101,112])) (zA:K.lookup Be=some ⟨.type "tuple",CV,.seq #[.str (tx [115,117,109]) Cw] Dp,CW⟩) (zB:Bd=hashStr w (tx [115,117,109])) (zC:K.lookup Bg=some ⟨.type "tuple",CY,.seq #[.str (tx [110,111,115,113,117,97,114,101]) Cy] Dr,CZ⟩) (zD:Bf=hashStr w (tx [115,113,117,97,114,101])) (zE:K.lookup Bi=some ⟨.type "tuple",C0,.seq #[.str (tx [106,111,105,110,101,100]) Cz,.str (tx [114,105,110,103]) CA] Dt,C2⟩) (zF:Bh=hashStr w (tx [114,101,97,99,104])) (zG:K.lookup Bk=some ⟨.type "tuple",C3,.seq #[.str (tx [114,105,110,103]) CB] Dv,C4⟩) (zH:Bj=hashStr w (tx [116,117,114,110])) (zI:K.lookup Bm=some ⟨.type "tuple",C5,.seq #[.str (tx [117,110,108,105,107,101]) CC] Dx,C6⟩) (zJ:Bl=hashStr w (tx [112,97,105,114])) (Cr:PySem.W.nsIn K mainGlobals "FIGURES"=some (some (.str (tx [48,49,50,51,52,53,54,55,56,57]) tk_FIGURES))) (A2:PySem.W.nsIn K mainGlobals "MOST_CELLS"=some (some (.int 16 tk_MOST_CELLS))) (AG:PySem.W.nsIn K mainGlobals "MOST_FIGURES"=some (some (.int 9 tk_MOST_FIGURES))) (AU:PySem.W.nsIn K mainGlobals "MOST_NUMBER"=some (some (.int 99 tk_MOST_NUMBER))) (A3:PySem.W.nsIn K mainGlobals "MOST_RULES"=some (some (.int 12 tk_MOST_RULES))) (BN:PySem.W.nsIn K mainGlobals "MOST_SIDE"=some (some (.int 6 tk_MOST_SIDE))) (A4:PySem.W.nsIn K mainGlobals "MOST_SIGNS"=some (some (.int 6 tk_MOST_SIGNS))) (z_len:PySem.W.nsIn K mainGlobals "len"=some none) (z_abs:PySem.W.nsIn K mainGlobals "abs"=some none) (z_min:PySem.W.nsIn K mainGlobals "min"=some none) (z_max:PySem.W.nsIn K mainGlobals "max"=some none) (z_sorted:PySem.W.nsIn K mainGlobals "sorted"=some none) (z_any:PySem.W.nsIn K mainGlobals "any"=some none) (z_isinstance:PySem.W.nsIn K mainGlobals "isinstance"=some none) (z_list:PySem.W.nsIn K mainGlobals "list"=some none) (z_int:PySem.W.nsIn K mainGlobals "int"=some none) (z_bool:PySem.W.nsIn K mainGlobals "bool"=some none) (z_str:PySem.W.nsIn K mainGlobals "str"=some none) (z_tuple:PySem.W.nsIn K mainGlobals "tuple"=some none) (z_reversed:PySem.W.nsIn K mainGlobals "reversed"=some none) (z_set:PySem.W.nsIn K mainGlobals "set"=some none) (z_range:PySem.W.nsIn K mainGlobals "range"=some none) (z_zip:PySem.W.nsIn K mainGlobals "zip"=some none) (z_all:PySem.W.nsIn K mainGlobals "all"=some none) (z_sum:PySem.W.nsIn K mainGlobals "sum"=some none) (z_enumerate:PySem.W.nsIn K mainGlobals "enumerate"=some none) (z_divmod:PySem.W.nsIn K mainGlobals "divmod"=some none):
  ∃ fd:FuncData,(∀ (s:Shared) (v:Value),BindsTo s fd ⟨[v],[]⟩ [("_law_script",v)])∧∀ base:Heap,K.In base→base.Ns mainGlobals mg→FnOk l.prog w K mg base CX0 10 fa fd ["_law_script"] (pc K):=by
 have e:=hfa.symm.trans (PySem.W.mg_of X G a61)
 cases e
 have B:Bt2 mg:=⟨⟨PySem.W.mg_none_of X G z_len,PySem.W.mg_none_of X G z_abs,PySem.W.mg_none_of X G z_min,PySem.W.mg_none_of X G z_max,PySem.W.mg_none_of X G z_sorted,PySem.W.mg_none_of X G z_any,PySem.W.mg_none_of X G z_isinstance,PySem.W.mg_none_of X G z_list,PySem.W.mg_none_of X G z_int,PySem.W.mg_none_of X G z_bool,PySem.W.mg_none_of X G z_str,PySem.W.mg_none_of X G z_tuple,PySem.W.mg_none_of X G z_reversed,PySem.W.mg_none_of X G z_set,PySem.W.mg_none_of X G z_range,PySem.W.mg_none_of X G z_zip⟩,PySem.W.mg_none_of X G z_all,PySem.W.mg_none_of X G z_sum,PySem.W.mg_none_of X G z_enumerate⟩
 obtain ⟨oc,od,kV,doc,pm,an,cdv,ct,osl,rfl,lk,hcd⟩:=F61.ex
 refine ⟨PySem.W.fnOf "law" "law" (bg md) (bc md) (ai md) .none kV doc pm an cdv ct,fun s v=>.of_eq rfl,fun base _ _=>?_⟩
 let c:RCl RK:=mkC yY zb y1 y8 y3 y2 yX y9
 let d:RCl PzK:=mkD y4
 have CD:=PySem.W.mg_of X G Cr
 have Br:=PySem.W.mg_of X G A2
 have AH:=PySem.W.mg_of X G AG
 have AX:=PySem.W.mg_of X G AU
 have Bx:=PySem.W.mg_of X G A3
 have AV:=PySem.W.mg_of X G BN
 have Bs:=PySem.W.mg_of X G A4
 have BX_divmod:=PySem.W.mg_none_of X G z_divmod
 have cls_Unlike:Cls K yY:=⟨B5,B6,B7,B8⟩
 have cls_Sum:Cls K zb:=⟨En,Eo,Ep,Er⟩
 have cls_Rising:Cls K y1:=⟨Cb,Cc,Cd,Ce⟩
 have cls_Seen:Cls K y8:=⟨DP,DQ,DR,DS⟩
 have cls_Count:Cls K y3:=⟨Da,Db,Dc,Dd⟩
 have cls_Joined:Cls K y2:=⟨Ch,Ci,Cj,Ck⟩
 have cls_NoSquare:Cls K yX:=⟨BH,BK,BL,BM⟩
 have cls_Ring:Cls K y9:=⟨DW,DX,DY,DZ⟩
 have cls_Puzzle:Cls K y4:=⟨Cn,Co,Cp,Cq⟩
 have FK_c_amount:FldK K c "amount":=⟨fun i hi=>by cases i with | Rule=>exact (Bool.false_ne_true hi).elim | Unlike=>exact ⟨cls_Unlike,zK⟩ | Sum=>exact ⟨cls_Sum,Aw⟩ | Rising=>exact ⟨cls_Rising,zL⟩ | Seen=>exact ⟨cls_Seen,Aa⟩ | Count=>exact ⟨cls_Count,zP⟩ | Joined=>exact ⟨cls_Joined,zM⟩ | NoSquare=>exact ⟨cls_NoSquare,zj⟩ | Ring=>exact ⟨cls_Ring,Ab⟩⟩
 have FK_c_cells:FldK K c "cells":=⟨fun i hi=>by cases i with | Rule=>exact (Bool.false_ne_true hi).elim | Unlike=>exact ⟨cls_Unlike,zQ⟩ | Sum=>exact ⟨cls_Sum,AM⟩ | Rising=>exact ⟨cls_Rising,zR⟩ | Seen=>exact ⟨cls_Seen,Ax⟩ | Count=>exact ⟨cls_Count,Ac⟩ | Joined=>exact ⟨cls_Joined,zS⟩ | NoSquare=>exact ⟨cls_NoSquare,zm⟩ | Ring=>exact ⟨cls_Ring,Ay⟩⟩
 have FK_c_floor:FldK K c "floor":=⟨fun i hi=>by cases i with | Rule=>exact (Bool.false_ne_true hi).elim | Unlike=>exact ⟨cls_Unlike,zT⟩ | Sum=>exact ⟨cls_Sum,AN⟩ | Rising=>exact ⟨cls_Rising,zU⟩ | Seen=>exact ⟨cls_Seen,Az⟩ | Count=>exact ⟨cls_Count,Ad⟩ | Joined=>exact ⟨cls_Joined,zV⟩ | NoSquare=>exact ⟨cls_NoSquare,zn⟩ | Ring=>exact ⟨cls_Ring,AA⟩⟩
 have FK_c_mark:FldK K c "mark":=⟨fun i hi=>by cases i with | Rule=>exact (Bool.false_ne_true hi).elim | Unlike=>exact ⟨cls_Unlike,Ae⟩ | Sum=>exact ⟨cls_Sum,AZ⟩ | Rising=>exact ⟨cls_Rising,Af⟩ | Seen=>exact ⟨cls_Seen,AO⟩ | Count=>exact ⟨cls_Count,AB⟩ | Joined=>exact ⟨cls_Joined,Ag⟩ | NoSquare=>exact ⟨cls_NoSquare,zN⟩ | Ring=>exact ⟨cls_Ring,AQ⟩⟩
 have FK_c_words:FldK K c "words":=⟨fun i hi=>by cases i with | Rule=>exact (Bool.false_ne_true hi).elim | Unlike=>exact ⟨cls_Unlike,zW⟩ | Sum=>exact ⟨cls_Sum,AR⟩ | Rising=>exact ⟨cls_Rising,zX⟩ | Seen=>exact ⟨cls_Seen,AC⟩ | Count=>exact ⟨cls_Count,Ah⟩ | Joined=>exact ⟨cls_Joined,zY⟩ | NoSquare=>exact ⟨cls_NoSquare,zp⟩ | Ring=>exact ⟨cls_Ring,AD⟩⟩
 have FK_d_floor:FldK K d "floor":=⟨fun i hi=>by cases i; exact ⟨cls_Puzzle,zZ⟩⟩
 have FK_d_given:FldK K d "given":=⟨fun i hi=>by cases i; exact ⟨cls_Puzzle,z3⟩⟩
 have FK_d_laws:FldK K d "laws":=⟨fun i hi=>by cases i; exact ⟨cls_Puzzle,Ai⟩⟩
 have G_KINDS:GTup K mg "KINDS" kA:=⟨DF,_,_,_,PySem.W.mg_of X G De,Df,rfl,rfl,Nat.le_of_lt (aG (by show (11:Nat)≤1000; decide)),(.cons ⟨_,rfl⟩ (.cons ⟨_,rfl⟩ (.cons ⟨_,rfl⟩ (.cons ⟨_,rfl⟩ (.cons ⟨_,rfl⟩ (.cons ⟨_,rfl⟩ (.cons ⟨_,rfl⟩ (.cons ⟨_,rfl⟩ (.cons ⟨_,rfl⟩ (.cons ⟨_,rfl⟩ (.cons ⟨_,rfl⟩ .nil)))))))))))⟩
 have G_LINE_KINDS:GTup K mg "LINE_KINDS" fe:=⟨AY,_,_,_,PySem.W.mg_of X G AS,AT,rfl,rfl,Nat.le_of_lt (aG (by show (5:Nat)≤1000; decide)),(.cons ⟨_,rfl⟩ (.cons ⟨_,rfl⟩ (.cons ⟨_,rfl⟩ (.cons ⟨_,rfl⟩ (.cons ⟨_,rfl⟩ .nil)))))⟩
 have G_NUMBER_KINDS:GTup K mg "NUMBER_KINDS" dE:=⟨Au,_,_,_,PySem.W.mg_of X G Aj,Ak,rfl,rfl,Nat.le_of_lt (aG (by show (3:Nat)≤1000; decide)),(.cons ⟨_,rfl⟩ (.cons ⟨_,rfl⟩ (.cons ⟨_,rfl⟩ .nil)))⟩
 have G_OF_ALL_CELLS:GTup K mg "OF_ALL_CELLS" dw:=⟨Av,_,_,_,PySem.W.mg_of X G Al,Am,rfl,rfl,Nat.le_of_lt (aG (by show (3:Nat)≤1000; decide)),(.cons ⟨_,rfl⟩ (.cons ⟨_,rfl⟩ (.cons ⟨_,rfl⟩ .nil)))⟩
 have G_WITH_NUMBER:GTup K mg "WITH_NUMBER" ee:=⟨AL,_,_,_,PySem.W.mg_of X G AE,AF,rfl,rfl,Nat.le_of_lt (aG (by show (3:Nat)≤1000; decide)),(.cons ⟨_,rfl⟩ (.cons ⟨_,rfl⟩ (.cons ⟨_,rfl⟩ .nil)))⟩
 have G_WITH_SIGN:GTup K mg "WITH_SIGN" dW:=⟨BD,_,_,_,PySem.W.mg_of X G A0,A1,rfl,rfl,Nat.le_of_lt (aG (by show (4:Nat)≤1000; decide)),(.cons ⟨_,rfl⟩ (.cons ⟨_,rfl⟩ (.cons ⟨_,rfl⟩ (.cons ⟨_,rfl⟩ .nil))))⟩
 have Ap:GDict w K mg "RULES_OF_KIND" gd_RULES_OF_KIND:=⟨z9,_,_,_,PySem.W.mg_of X G z4,z5,⟨rfl,rfl,rfl⟩,rfl,(.cons zr zq rfl rfl (Nat.le_of_lt (aG (by show (1:Nat)≤1000; decide))) (.cons ⟨_,rfl⟩ .nil) (.cons zu zt rfl rfl (Nat.le_of_lt (aG (by show (1:Nat)≤1000; decide))) (.cons ⟨_,rfl⟩ .nil) (.cons zw zv rfl rfl (Nat.le_of_lt (aG (by show (1:Nat)≤1000; decide))) (.cons ⟨_,rfl⟩ .nil) (.cons zy zx rfl rfl (Nat.le_of_lt (aG (by show (1:Nat)≤1000; decide))) (.cons ⟨_,rfl⟩ .nil) (.cons zB zA rfl rfl (Nat.le_of_lt (aG (by show (1:Nat)≤1000; decide))) (.cons ⟨_,rfl⟩ .nil) (.cons zD zC rfl rfl (Nat.le_of_lt (aG (by show (1:Nat)≤1000; decide))) (.cons ⟨_,rfl⟩ .nil) (.cons zF zE rfl rfl (Nat.le_of_lt (aG (by show (2:Nat)≤1000; decide))) (.cons ⟨_,rfl⟩ (.cons ⟨_,rfl⟩ .nil)) (.cons zH zG rfl rfl (Nat.le_of_lt (aG (by show (1:Nat)≤1000; decide))) (.cons ⟨_,rfl⟩ .nil) (.cons zJ zI rfl rfl (Nat.le_of_lt (aG (by show (1:Nat)≤1000; decide))) (.cons ⟨_,rfl⟩ .nil) .nil))))))))),by decide+kernel⟩
 have y7:Cal l.prog w K mg base _ _ _ (aU K):=m5 (sh B F0) F0 (PySem.W.mg_of X G a0)
 have yZ:Cal l.prog w K mg base _ _ _ (aP K):=m5 (pV B F1) F1 (PySem.W.mg_of X G a1)
 have An:Cal l.prog w K mg base _ _ _ (cu K):=bT (t7 B F2) F2 (PySem.W.mg_of X G a2)
 have BS:Cal l.prog w K mg base _ _ _ (cO K):=bT (rm B F3) F3 (PySem.W.mg_of X G a3)
 have Dy:Cal l.prog w K mg base _ _ _ (fB K):=m5 (vE B F4) F4 (PySem.W.mg_of X G a4)
 have zh:Cal l.prog w K mg base _ _ _ (b7 K):=bT (vF B F5) F5 (PySem.W.mg_of X G a5)
 have zi:Cal l.prog w K mg base _ _ _ (bE K):=bT (si B F6) F6 (PySem.W.mg_of X G a6)
 have bd7:Binds K fd7 ["self","floor","words","cells","amount","mark"] []:=wv F7
 have T7:FnOk l.prog w K mg base CX0 1 f7 fd7 _ (ar K c):=m8 (c:=c) B FK_c_amount FK_c_cells FK_c_floor FK_c_mark FK_c_words F7
 have DB:KCal l.prog w K mg base _ "Unlike" (c.A .Unlike) _ (ar K c):=⟨f7,_,⟨B3,BZ,fn7,B4⟩,T7,PySem.W.mg_of X G DH,bd7⟩
 have K_Sum:KCal l.prog w K mg base _ "Sum" (c.A .Sum) _ (ar K c):=⟨f7,_,⟨El,Ek,fn7,Em⟩,T7,PySem.W.mg_of X G q_Sum,bd7⟩
 have DA:KCal l.prog w K mg base _ "Rising" (c.A .Rising) _ (ar K c):=⟨f7,_,⟨B9,B0,fn7,Ca⟩,T7,PySem.W.mg_of X G DI,bd7⟩
 have EC:KCal l.prog w K mg base _ "Seen" (c.A .Seen) _ (ar K c):=⟨f7,_,⟨DN,DL,fn7,DO⟩,T7,PySem.W.mg_of X G EK,bd7⟩
 have Ec:KCal l.prog w K mg base _ "Count" (c.A .Count) _ (ar K c):=⟨f7,_,⟨C8,C7,fn7,C9⟩,T7,PySem.W.mg_of X G Ej,bd7⟩
 have Dz:KCal l.prog w K mg base _ "Joined" (c.A .Joined) _ (ar K c):=⟨f7,_,⟨Cf,B1,fn7,Cg⟩,T7,PySem.W.mg_of X G DJ,bd7⟩
 have BV:KCal l.prog w K mg base _ "NoSquare" (c.A .NoSquare) _ (ar K c):=⟨f7,_,⟨BF,BE,fn7,BG⟩,T7,PySem.W.mg_of X G BY,bd7⟩
 have EB:KCal l.prog w K mg base _ "Ring" (c.A .Ring) _ (ar K c):=⟨f7,_,⟨DT,DM,fn7,DU⟩,T7,PySem.W.mg_of X G EL,bd7⟩
 have bd8:Binds K fd8 ["self"] []:=ma F8
 have T8:FnOk l.prog w K mg base CX0 1 f8 fd8 _ (gc K c):=rn (c:=c) B FK_c_words F8
 have EA:MCal l.prog w K mg base c c.ok 1 "name" ["self"] (l7 K c):=⟨fun i hi=>by cases i with | Rule=>exact (Bool.false_ne_true hi).elim | Unlike=>exact ⟨f8,_,cls_Unlike,⟨a8_Unlike,fn8,F8.kp⟩,(T8.mono (by decide)).imp (fun vs H Q E h=>⟨.Unlike,h⟩),bd8⟩ | Sum=>exact ⟨f8,_,cls_Sum,⟨a8_Sum,fn8,F8.kp⟩,(T8.mono (by decide)).imp (fun vs H Q E h=>⟨.Sum,h⟩),bd8⟩ | Rising=>exact ⟨f8,_,cls_Rising,⟨a8_Rising,fn8,F8.kp⟩,(T8.mono (by decide)).imp (fun vs H Q E h=>⟨.Rising,h⟩),bd8⟩ | Seen=>exact ⟨f8,_,cls_Seen,⟨a8_Seen,fn8,F8.kp⟩,(T8.mono (by decide)).imp (fun vs H Q E h=>⟨.Seen,h⟩),bd8⟩ | Count=>exact ⟨f8,_,cls_Count,⟨a8_Count,fn8,F8.kp⟩,(T8.mono (by decide)).imp (fun vs H Q E h=>⟨.Count,h⟩),bd8⟩ | Joined=>exact ⟨f8,_,cls_Joined,⟨a8_Joined,fn8,F8.kp⟩,(T8.mono (by decide)).imp (fun vs H Q E h=>⟨.Joined,h⟩),bd8⟩ | NoSquare=>exact ⟨f8,_,cls_NoSquare,⟨a8_NoSquare,fn8,F8.kp⟩,(T8.mono (by decide)).imp (fun vs H Q E h=>⟨.NoSquare,h⟩),bd8⟩ | Ring=>exact ⟨f8,_,cls_Ring,⟨a8_Ring,fn8,F8.kp⟩,(T8.mono (by decide)).imp (fun vs H Q E h=>⟨.Ring,h⟩),bd8⟩⟩
 have bd9:Binds K fd9 ["self"] []:=ma F9
 have T9:FnOk l.prog w K mg base CX0 1 f9 fd9 _ (eX K c):=pW (c:=c) B FK_c_cells F9
 have Bo:MCal l.prog w K mg base c c.ok 1 "spots" ["self"] (gP K c):=⟨fun i hi=>by cases i with | Rule=>exact (Bool.false_ne_true hi).elim | Unlike=>exact ⟨f9,_,cls_Unlike,⟨a9_Unlike,fn9,F9.kp⟩,(T9.mono (by decide)).imp (fun vs H Q E h=>⟨.Unlike,h⟩),bd9⟩ | Sum=>exact ⟨f9,_,cls_Sum,⟨a9_Sum,fn9,F9.kp⟩,(T9.mono (by decide)).imp (fun vs H Q E h=>⟨.Sum,h⟩),bd9⟩ | Rising=>exact ⟨f9,_,cls_Rising,⟨a9_Rising,fn9,F9.kp⟩,(T9.mono (by decide)).imp (fun vs H Q E h=>⟨.Rising,h⟩),bd9⟩ | Seen=>exact ⟨f9,_,cls_Seen,⟨a9_Seen,fn9,F9.kp⟩,(T9.mono (by decide)).imp (fun vs H Q E h=>⟨.Seen,h⟩),bd9⟩ | Count=>exact ⟨f9,_,cls_Count,⟨a9_Count,fn9,F9.kp⟩,(T9.mono (by decide)).imp (fun vs H Q E h=>⟨.Count,h⟩),bd9⟩ | Joined=>exact ⟨f9,_,cls_Joined,⟨a9_Joined,fn9,F9.kp⟩,(T9.mono (by decide)).imp (fun vs H Q E h=>⟨.Joined,h⟩),bd9⟩ | NoSquare=>exact ⟨f9,_,cls_NoSquare,⟨a9_NoSquare,fn9,F9.kp⟩,(T9.mono (by decide)).imp (fun vs H Q E h=>⟨.NoSquare,h⟩),bd9⟩ | Ring=>exact ⟨f9,_,cls_Ring,⟨a9_Ring,fn9,F9.kp⟩,(T9.mono (by decide)).imp (fun vs H Q E h=>⟨.Ring,h⟩),bd9⟩⟩
 have bd10:Binds K fd10 ["self"] []:=ma F10
 have T10:FnOk l.prog w K mg base CX0 1 f10 fd10 _ (ge K c):=rp (c:=c) B FK_c_mark F10
 have Aq:MCal l.prog w K mg base c c.ok 1 "sign" ["self"] (fz K c):=⟨fun i hi=>by cases i with | Rule=>exact (Bool.false_ne_true hi).elim | Unlike=>exact ⟨f10,_,cls_Unlike,⟨a10_Unlike,fn10,F10.kp⟩,(T10.mono (by decide)).imp (fun vs H Q E h=>⟨.Unlike,h⟩),bd10⟩ | Sum=>exact ⟨f10,_,cls_Sum,⟨a10_Sum,fn10,F10.kp⟩,(T10.mono (by decide)).imp (fun vs H Q E h=>⟨.Sum,h⟩),bd10⟩ | Rising=>exact ⟨f10,_,cls_Rising,⟨a10_Rising,fn10,F10.kp⟩,(T10.mono (by decide)).imp (fun vs H Q E h=>⟨.Rising,h⟩),bd10⟩ | Seen=>exact ⟨f10,_,cls_Seen,⟨a10_Seen,fn10,F10.kp⟩,(T10.mono (by decide)).imp (fun vs H Q E h=>⟨.Seen,h⟩),bd10⟩ | Count=>exact ⟨f10,_,cls_Count,⟨a10_Count,fn10,F10.kp⟩,(T10.mono (by decide)).imp (fun vs H Q E h=>⟨.Count,h⟩),bd10⟩ | Joined=>exact ⟨f10,_,cls_Joined,⟨a10_Joined,fn10,F10.kp⟩,(T10.mono (by decide)).imp (fun vs H Q E h=>⟨.Joined,h⟩),bd10⟩ | NoSquare=>exact ⟨f10,_,cls_NoSquare,⟨a10_NoSquare,fn10,F10.kp⟩,(T10.mono (by decide)).imp (fun vs H Q E h=>⟨.NoSquare,h⟩),bd10⟩ | Ring=>exact ⟨f10,_,cls_Ring,⟨a10_Ring,fn10,F10.kp⟩,(T10.mono (by decide)).imp (fun vs H Q E h=>⟨.Ring,h⟩),bd10⟩⟩
 have BP:Cal l.prog w K mg base _ _ _ (cP K):=m5 (rq B CD AH F11) F11 (PySem.W.mg_of X G a11)
 have bd12:Binds K fd12 ["self"] []:=ma F12
 have T12:FnOk l.prog w K mg base CX0 1 f12 fd12 _ (dA K c d):=oJ (c:=c) (d:=d) B FK_d_floor F12
 have Bq:MCal l.prog w K mg base d d.ok 1 "place" ["self"] (gQ K c d):=⟨fun i hi=>by cases i; exact ⟨f12,_,cls_Puzzle,⟨a12_Puzzle,fn12,F12.kp⟩,(T12.mono (by decide)).imp (fun vs H Q E h=>h),bd12⟩⟩
 have bd13:Binds K fd13 ["self"] []:=ma F13
 have T13:FnOk l.prog w K mg base CX0 1 f13 fd13 _ (dC K c d):=oK (c:=c) (d:=d) B FK_d_laws F13
 have Bp:MCal l.prog w K mg base d d.ok 1 "rules" ["self"] (gR K c d):=⟨fun i hi=>by cases i; exact ⟨f13,_,cls_Puzzle,⟨a13_Puzzle,fn13,F13.kp⟩,(T13.mono (by decide)).imp (fun vs H Q E h=>h),bd13⟩⟩
 have yW:Cal l.prog w K mg base _ _ _ (az K):=bT (oM B F14) F14 (PySem.W.mg_of X G a14)
 have Bz:Cal l.prog w K mg base _ _ _ (bM K):=m5 (pX B F15) F15 (PySem.W.mg_of X G a15)
 have BQ:Cal l.prog w K mg base _ _ _ (cS K):=bT (rz B F16) F16 (PySem.W.mg_of X G a16)
 have zk:Cal l.prog w K mg base _ _ _ (bI K):=bT (rA B BX_divmod F17) F17 (PySem.W.mg_of X G a17)
 have z6:Cal l.prog w K mg base _ _ _ (bf K):=rl (mv B BX_divmod F18) F18 (PySem.W.mg_of X G a18)
 have za:Cal l.prog w K mg base _ _ _ (aQ K):=bT (mw B y7 F19) F19 (PySem.W.mg_of X G a19)
 have ze:Cal l.prog w K mg base _ _ _ (bH K):=bT (vG B An F20) F20 (PySem.W.mg_of X G a20)
 have BR:Cal l.prog w K mg base _ _ _ (cN K):=bT (rB B An F21) F21 (PySem.W.mg_of X G a21)
 have CF:Cal l.prog w K mg base _ _ _ (ei K):=bT (t8 B Dy zh F22) F22 (PySem.W.mg_of X G a22)
 have Ao:Cal l.prog w K mg base _ _ _ (cx K):=bT (t9 B y7 yZ F23) F23 (PySem.W.mg_of X G a23)
 have CG:Cal l.prog w K mg base _ _ _ (en K c):=bT (ua (c:=c) B EA Ap F24) F24 (PySem.W.mg_of X G a24)
 have DC:Cal l.prog w K mg base _ _ _ (fC K c):=bT (vH (c:=c) B Bo F25) F25 (PySem.W.mg_of X G a25)
 have Bn:Cal l.prog w K mg base _ _ _ (cB K):=bT (sj B zh F26) F26 (PySem.W.mg_of X G a26)
 have zc:Cal l.prog w K mg base _ _ _ (a8 K):=jp (ng B BP F27) F27 (PySem.W.mg_of X G a27)
 have Bu:Cal l.prog w K mg base _ _ _ (cp K):=jp (pY B y7 yZ F28) F28 (PySem.W.mg_of X G a28)
 have BA:Cal l.prog w K mg base _ _ _ (bN K):=rl (pZ B yW F29) F29 (PySem.W.mg_of X G a29)
 have Bv:Cal l.prog w K mg base _ _ _ (bP K):=bT (p5 B yW zk F30) F30 (PySem.W.mg_of X G a30)
 have AW:Cal l.prog w K mg base _ _ _ (bC K):=bT (pe B yW BX_divmod F31) F31 (PySem.W.mg_of X G a31)
 have BB:Cal l.prog w K mg base _ _ _ (bQ K):=t6 (p6 B yW zk BQ F32) F32 (PySem.W.mg_of X G a32)
 have BW:Cal l.prog w K mg base _ _ _ (dl K):=jp (sk B za Br AV Bs F33) F33 (PySem.W.mg_of X G a33)
 have CI:Cal l.prog w K mg base _ _ _ (ed K):=m5 (ub B BR yZ BS F34) F34 (PySem.W.mg_of X G a34)
 have BO:Cal l.prog w K mg base _ _ _ (da K):=jp (uc B ze F35) F35 (PySem.W.mg_of X G a35)
 have zd:Cal l.prog w K mg base _ _ _ (bn K):=bT (sm B CF F36) F36 (PySem.W.mg_of X G a36)
 have CH:Cal l.prog w K mg base _ _ _ (ej K):=bT (ud B za F37) F37 (PySem.W.mg_of X G a37)
 have AI:Cal l.prog w K mg base _ _ _ (bL K c d):=rl (oN (c:=c) (d:=d) B CG y7 Bp Bo F38) F38 (PySem.W.mg_of X G a38)
 have DD:Cal l.prog w K mg base _ _ _ (fD K):=jp (vI B ze F39) F39 (PySem.W.mg_of X G a39)
 have zO:Cal l.prog w K mg base _ _ _ (ba K):=jp (oO B zc F40) F40 (PySem.W.mg_of X G a40)
 have Bw:Cal l.prog w K mg base _ _ _ (ck K):=bT (p7 B yZ zc F41) F41 (PySem.W.mg_of X G a41)
 have CJ:Cal l.prog w K mg base _ _ _ (eh K c):=yt (ue (c:=c) B Ec Dz BV EB DA EC K_Sum DB F42) F42 (PySem.W.mg_of X G a42)
 have As:Cal l.prog w K mg base _ _ _ (bA K):=bT (ni B Bu F43) F43 (PySem.W.mg_of X G a43)
 have AK:Cal l.prog w K mg base _ _ _ (bu K):=rl (oP B AW yW Bv z6 F44) F44 (PySem.W.mg_of X G a44)
 have BU:Cal l.prog w K mg base _ _ _ (cR K c d):=bT (rC (c:=c) (d:=d) B AI Ao CH y7 Bq G_KINDS F45) F45 (PySem.W.mg_of X G a45)
 have zf:Cal l.prog w K mg base _ _ _ (bp K):=bT (rD B zd F46) F46 (PySem.W.mg_of X G a46)
 have z7:Cal l.prog w K mg base _ _ _ (bq K):=jp (mx B CI F47) F47 (PySem.W.mg_of X G a47)
 have zg:Cal l.prog w K mg base _ _ _ (aW K):=yt (jC B zd Ao F48) F48 (PySem.W.mg_of X G a48)
 have BX:Cal l.prog w K mg base _ _ _ (dj K):=jp (sn B yZ Bw G_OF_ALL_CELLS F49) F49 (PySem.W.mg_of X G a49)
 have At:Cal l.prog w K mg base _ _ _ (bz K):=m5 (nj B BW F50) F50 (PySem.W.mg_of X G a50)
 have z8:Cal l.prog w K mg base _ _ _ (bt K c):=t6 (my (c:=c) B zf zi z7 Aq F51) F51 (PySem.W.mg_of X G a51)
 have Ar:Cal l.prog w K mg base _ _ _ (bB K c):=t6 (nk (c:=c) B zg DC BO zh Aq F52) F52 (PySem.W.mg_of X G a52)
 have AJ:Cal l.prog w K mg base _ _ _ (bO K c):=t6 (oQ (c:=c) B DD ze zd Bn zf zi Aq F53) F53 (PySem.W.mg_of X G a53)
 have BT:Cal l.prog w K mg base _ _ _ (cQ K c):=bT (rE (c:=c) B BX zO CJ AX G_WITH_NUMBER G_WITH_SIGN F54) F54 (PySem.W.mg_of X G a54)
 have zl:Cal l.prog w K mg base _ _ _ (aS K c d):=jp (kM (c:=c) (d:=d) B Ar z8 AJ Bq Bp F55) F55 (PySem.W.mg_of X G a55)
 have By:Cal l.prog w K mg base _ _ _ (cn K c):=bT (p8 (c:=c) B BT Bx F56) F56 (PySem.W.mg_of X G a56)
 have CK:Cal l.prog w K mg base _ _ _ (cT K c d):=jp (uf (c:=c) (d:=d) B zl G_LINE_KINDS G_NUMBER_KINDS F57) F57 (PySem.W.mg_of X G a57)
 have bd58:Binds K fd58 ["self","floor","lines","clues"] []:=wu F58
 have T58:FnOk l.prog w K mg base CX0 7 f58 fd58 _ (aV K c d):=lO (c:=c) (d:=d) B As At By FK_d_floor FK_d_given FK_d_laws F58
 have DE:KCal l.prog w K mg base _ "Puzzle" (d.A .Puzzle) _ (aV K c d):=⟨f58,_,⟨Cl,B2,fn58,Cm⟩,T58,PySem.W.mg_of X G DK,bd58⟩
 have CL:Cal l.prog w K mg base _ _ _ (cU K c d):=jp (ug (c:=c) (d:=d) B BU CK F59) F59 (PySem.W.mg_of X G a59)
 have BC:Cal l.prog w K mg base _ _ _ (bR K c d):=rl (p9 (c:=c) (d:=d) B CL F60) F60 (PySem.W.mg_of X G a60)
 exact (yu (c:=c) (d:=d) B yW AK Bz BA BB BC DE F61).imp fun vs H Q E h=>by obtain ⟨a,ns,e,hS,hn,k⟩:=h; exact ⟨a,ns,e,hS,hn,fun k hk=>by cases k <;> first | rfl | exact absurd rfl hk,rfl,k⟩
theorem walk {l:PySem.W.OpenLaw} {q:Program} {loose:List Str} {XP:(Str→Option Value)→Heap→Prop} {YP:World→Heap→Prop} {d:DefRec} {K:Params→PySem.W.Frag} (hn:l.most=some 63) (hdf:d.params.defaults=[])
  (hY:∀ (w:World) (h:Heap),YP w h→(K w.params).In h)
  (F:∀ (w:World) (mg:Str→Option Value) (fa:Addr) (h:Heap),(K w.params).In h→h.Ns mainGlobals mg→mg d.name=some (.ref fa)→
   ∃ fd:FuncData,(∀ (s:Shared) (u:Value),BindsTo s fd ⟨[u],[]⟩ [("_law_script",u)])∧∀ base:Heap,(K w.params).In base→base.Ns mainGlobals mg→FnOk l.prog w (K w.params) mg base CX0 10 fa fd ["_law_script"] (pc (K w.params))):
  PySem.W.WalkO q loose XP YP l.row.toRowW d [] (fun f vs=>PySem.call f vs):=
 L2.wG (n:=63) (k:=10) (x:="_law_script") (CX:=fun _=>CX0) (sp:=fun w=>pc (K w.params)) hn (by decide) hdf ⟨rfl,by decide,by decide⟩ hY F (fun _ _ a ns hl _ hS=>⟨a,ns,rfl,hS,hl,fun _=>rfl⟩) fun _ _ _ _ _ z=>z
end L2
open PySem PySem.W PyProof.Rows
set_option maxRecDepth 100000 in
def PySem.W.Fast.tw5826828930825807545:Unit:=()
def PySem.W.Fast.tw9065989662771372916:Unit:=()
def PySem.W.Fast.tw11896836104476955820:Unit:=()
def PySem.W.Fast.tw4980615550200783550:Unit:=()
def PySem.W.Fast.tw17163218164316728192:Unit:=()
def PySem.W.Fast.tw252537405840643829:Unit:=()
def PySem.W.Fast.tw11907924328944898862:Unit:=()
def PySem.W.Fast.tw9725983676302831476:Unit:=()
def PySem.W.Fast.tw4200229332617256774:Unit:=()
def PySem.W.Fast.tw8381221572039520753:Unit:=()
def PySem.W.Fast.tw15385346116357050843:Unit:=()
def PySem.W.Fast.tw14977393017284490179:Unit:=()
def PySem.W.Fast.tw15439735412273226381:Unit:=()
def PySem.W.Fast.tw7102539335346726395:Unit:=()
def PySem.W.Fast.tw2873906471023924671:Unit:=()
def PySem.W.Fast.tw13376272584848984288:Unit:=()
def PySem.W.Fast.tw4311890653806954364:Unit:=()
def PySem.W.Fast.tw1655786201855541087:Unit:=()
def PySem.W.Fast.tw12220255514141137924:Unit:=()
def PySem.W.Fast.tw11606251036588829387:Unit:=()
def PySem.W.Fast.tw5098806699405496255:Unit:=()
def PySem.W.Fast.tw13989533418700946004:Unit:=()
def PySem.W.Fast.tw798464616609277337:Unit:=()
def PySem.W.Fast.tw1642968619735523104:Unit:=()
def PySem.W.Fast.tw8315102897058485963:Unit:=()
def PySem.W.Fast.tw1298286609902886338:Unit:=()
def PySem.W.Fast.tw3931750950484215261:Unit:=()
def PySem.W.Fast.tw268152600051801806:Unit:=()
def PySem.W.Fast.tw16906827414803104981:Unit:=()
def PySem.W.Fast.tw11502235929064336943:Unit:=()
def PySem.W.Fast.tw12036796184903569028:Unit:=()
def PySem.W.Fast.tw12004583737290322068:Unit:=()
def PySem.W.Fast.tw9372785930001398998:Unit:=()
def PySem.W.Fast.tw16626918530008401946:Unit:=()
def PySem.W.Fast.tw5922334782375491147:Unit:=()
def PySem.W.Fast.tw14220333813690283568:Unit:=()
def PySem.W.Fast.tw3887606127709418619:Unit:=()
def PySem.W.Fast.tw7242031489149210649:Unit:=()
def PySem.W.Fast.tw6417175058589763203:Unit:=()
def PySem.W.Fast.tw18172885462793419924:Unit:=()
def PySem.W.Fast.tw3442781513046323291:Unit:=()
def PySem.W.Fast.tw16775781379213897375:Unit:=()
def PySem.W.Fast.tw291989320136965528:Unit:=()
def PySem.W.Fast.tw9085171389692752179:Unit:=()
def PySem.W.Fast.tw13510926623005248265:Unit:=()
def PySem.W.Fast.tw15592979117180005539:Unit:=()
def PySem.W.Fast.tw687550027105869279:Unit:=()
def PySem.W.Fast.tw2127715592570533352:Unit:=()
def PySem.W.Fast.tw8980380096775234362:Unit:=()
def PySem.W.Fast.tw8821295847362483948:Unit:=()
def PySem.W.Fast.tw14138915486156192439:Unit:=()
def PySem.W.Fast.tw6364932262962023277:Unit:=()
def PySem.W.Fast.tw17202183920443675514:Unit:=()
def PySem.W.Fast.tw10501626365544244752:Unit:=()
def PySem.W.Fast.tw1740008764784342472:Unit:=()
def PySem.W.Fast.tw8888898438646658371:Unit:=()
def PySem.W.Fast.tw13768775989633722414:Unit:=()
def PySem.W.Fast.tw7123692071419181120:Unit:=()
def PySem.W.Fast.tw5832132757266333885:Unit:=()
def PySem.W.Fast.tw18186348005576981098:Unit:=()
def PySem.W.Fast.tw14600455881516888405:Unit:=()
def PySem.W.Fast.tw2590721181087617881:Unit:=()
def PySem.W.Fast.tw16510156201180459361:Unit:=()
def PySem.W.Fast.tw3835876873805893459:Unit:=()
def PySem.W.Fast.tw12791178306433213113:Unit:=()
def PySem.W.Fast.tw9186760722410964783:Unit:=()
def PySem.W.Fast.tw15038274565976501740:Unit:=()
def PySem.W.Fast.tw7552425008419446285:Unit:=()
def PySem.W.Fast.tw15480168227111728800:Unit:=()
def PySem.W.Fast.tw14997915962471702918:Unit:=()
def PySem.W.Fast.tw8695879464089624116:Unit:=()
def PySem.W.Fast.tw9636343243283093633:Unit:=()
def PySem.W.Fast.tw9094838243404050680:Unit:=()
def PySem.W.Fast.tw15547475305779489439:Unit:=()
def PySem.W.Fast.tw1741665320045863280:Unit:=()
def PySem.W.Fast.tw16890607358025888806:Unit:=()
def PySem.W.Fast.tw5512970705047824496:Unit:=()
def PySem.W.Fast.tw11580515542281632442:Unit:=()
def PySem.W.Fast.tw15817401657126345905:Unit:=()
def PySem.W.Fast.tw7510377786548229067:Unit:=()
def PySem.W.Fast.tw16948795650564636301:Unit:=()
def PySem.W.Fast.tw11848014626001979347:Unit:=()
def PySem.W.Fast.tw3129306723925983399:Unit:=()
def PySem.W.Fast.tw1984284860611340478:Unit:=()
def PySem.W.Fast.tw15176727406341179833:Unit:=()
def PySem.W.Fast.tw6791317460399212667:Unit:=()
def PySem.W.Fast.tw13131848888502109283:Unit:=()
def PySem.W.Fast.tw3137166906661964783:Unit:=()
def PySem.W.Fast.tw6497106753651483348:Unit:=()
def PySem.W.Fast.tw3403013024387136562:Unit:=()
def PySem.W.Fast.tw1124356488793445039:Unit:=()
def PySem.W.Fast.tw10595443505506349410:Unit:=()
def PySem.W.Fast.tw101304514697040728:Unit:=()
def PySem.W.Fast.tw11822354057337026217:Unit:=()
def PySem.W.Fast.tw2619207392274156650:Unit:=()
def PySem.W.Fast.tw1639960701301552312:Unit:=()
def PySem.W.Fast.tw2398390943338171300:Unit:=()
def PySem.W.Fast.tw12087616921832667712:Unit:=()
def PySem.W.Fast.tw6379952149029468783:Unit:=()
def PySem.W.Fast.tw15817911379352770253:Unit:=()
def PySem.W.Fast.tw7794836929535030033:Unit:=()
def PySem.W.Fast.tw349463751722894736:Unit:=()
def PySem.W.Fast.tw13206227310358983729:Unit:=()
def PySem.W.Fast.tw11739145666307397911:Unit:=()
def PySem.W.Fast.tw6506899189485625802:Unit:=()
def PySem.W.Fast.tw11856821322848582250:Unit:=()
def PySem.W.Fast.tw6726588705076511839:Unit:=()
def PySem.W.Fast.tw17103918156158390806:Unit:=()
def PySem.W.Fast.tw6980349077182471201:Unit:=()
def PySem.W.Fast.tw3384294691604832888:Unit:=()
def PySem.W.Fast.tw11646247187052560715:Unit:=()
def PySem.W.Fast.tw9515637542383635932:Unit:=()
def PySem.W.Fast.tw5034902670305939944:Unit:=()
def PySem.W.Fast.tw5045357748511909001:Unit:=()
def PySem.W.Fast.tw8385490958332874856:Unit:=()
def PySem.W.Fast.tw6546622887056008333:Unit:=()
def PySem.W.Fast.tw12277298402134982857:Unit:=()
def PySem.W.Fast.tw15367755461945367967:Unit:=()
def PySem.W.Fast.tw4479303226836252873:Unit:=()
def PySem.W.Fast.tw7811735811944551269:Unit:=()
def PySem.W.Fast.tw14530182676821720240:Unit:=()
def PySem.W.Fast.tw6849703557037370964:Unit:=()
def PySem.W.Fast.tw9565438697916678237:Unit:=()
def PySem.W.Fast.tw16215337048087281164:Unit:=()
def PySem.W.Fast.tw14583948290127250479:Unit:=()
def PySem.W.Fast.tw11109051444820501486:Unit:=()
def PySem.W.Fast.tw11128499458919781831:Unit:=()
def PySem.W.Fast.tw3988042570577394578:Unit:=()
def PySem.W.Fast.tw14610022130269745011:Unit:=()
def PySem.W.Fast.tw10868763814373430553:Unit:=()
def PySem.W.Fast.tw11860423747425815827:Unit:=()
def PySem.W.Fast.tw2904297271993944503:Unit:=()
def PySem.W.Fast.tw5279049353278495219:Unit:=()
def PySem.W.Fast.tw7506891593044595180:Unit:=()
def PySem.W.Fast.tw7929596047194013813:Unit:=()
def PySem.W.Fast.tw8763107057380677497:Unit:=()
def PySem.W.Fast.tw14524479407681007700:Unit:=()
def PySem.W.Fast.tw14872139689260666057:Unit:=()
def PySem.W.Fast.tw16756349960998747700:Unit:=()
def PySem.W.Fast.tw16885151826642916761:Unit:=()
def PySem.W.Fast.tw18396515632334680471:Unit:=()
def PySem.W.Fast.tw141124162306055859:Unit:=()
def PySem.W.Fast.tw7122960285477243836:Unit:=()
def PySem.W.Fast.tw4939776721884915075:Unit:=()
def PySem.W.Fast.tw15446390531858568340:Unit:=()
def PySem.W.Fast.tw6735028897838578749:Unit:=()
def PySem.W.Fast.tw11744779065047929385:Unit:=()
def PySem.W.Fast.tw9325298164691777025:Unit:=()
def PySem.W.Fast.tw14770287425755171636:Unit:=()
def PySem.W.Fast.tw12600224021897209975:Unit:=()
def PySem.W.Fast.tw13299737092915836626:Unit:=()
def PySem.W.Fast.tw18089143551366550599:Unit:=()
def PySem.W.Fast.tw6473046751984155378:Unit:=()
def PySem.W.Fast.tw4395033493198792877:Unit:=()
def PySem.W.Fast.tw15621102646271361661:Unit:=()
def PySem.W.Fast.tw1766535929636382903:Unit:=()
def PySem.W.Fast.tw3022280393470527476:Unit:=()
def PySem.W.Fast.tw18360390362115816928:Unit:=()
def PySem.W.Fast.tw11269609662232355394:Unit:=()
def PySem.W.Fast.tw13379675532164835121:Unit:=()
def PySem.W.Fast.tw5772864083960553967:Unit:=()
def PySem.W.Fast.tw5924665892767907476:Unit:=()
def PySem.W.Fast.tw2316137904714996410:Unit:=()
def PySem.W.Fast.tw16890792343504229731:Unit:=()
def PySem.W.Fast.tw11158439256446432777:Unit:=()
def PySem.W.Fast.tw2402474787890038680:Unit:=()
def PySem.W.Fast.tw10794620889912958853:Unit:=()
def PySem.W.Fast.tw11131312838219951173:Unit:=()
def PySem.W.Fast.tw16523566010943885177:Unit:=()
def PySem.W.Fast.tw11839193033130786557:Unit:=()
def PySem.W.Fast.tw6418713724039257572:Unit:=()
def PySem.W.Fast.tw11097172544126138038:Unit:=()
def PySem.W.Fast.tw4873924802170415430:Unit:=()
def PySem.W.Fast.tw11193178699291882970:Unit:=()
def PySem.W.Fast.tw18323066008920399211:Unit:=()
def PySem.W.Fast.tw1831370639944404615:Unit:=()
def PySem.W.Fast.tw1452113253570621342:Unit:=()
def PySem.W.Fast.tw12847596683199931983:Unit:=()
def PySem.W.Fast.tw82772967609650684:Unit:=()
def PySem.W.Fast.tw9634061762448261865:Unit:=()
def PySem.W.Fast.tw1884483021670483184:Unit:=()
def PySem.W.Fast.tw17580841504861421621:Unit:=()
def PySem.W.Fast.tw980279766931732848:Unit:=()
def PySem.W.Fast.tw17390358726943442966:Unit:=()
def PySem.W.Fast.tw3549249424501972817:Unit:=()
def PySem.W.Fast.tw5680551398994520317:Unit:=()
def PySem.W.Fast.tw12796640235649644382:Unit:=()
def PySem.W.Fast.tw4567894337864573198:Unit:=()
def PySem.W.Fast.tw3195498897958093688:Unit:=()
def PySem.W.Fast.tw15952032273501034416:Unit:=()
def PySem.W.Fast.tw7379090362202743421:Unit:=()
def PySem.W.Fast.tw11546706602027205299:Unit:=()
def PySem.W.Fast.tw17964406827858332718:Unit:=()
def PySem.W.Fast.tw2833920421538483064:Unit:=()
def PySem.W.Fast.tw18030813671980756725:Unit:=()
def PySem.W.Fast.tw4567969213652697647:Unit:=()
def PySem.W.Fast.tw1985471818713481924:Unit:=()
def PySem.W.Fast.tw12058618425620401801:Unit:=()
def PySem.W.Fast.tw17154192379511793273:Unit:=()
def PySem.W.Fast.tw3497948279170297780:Unit:=()
def PySem.W.Fast.tw8705363597636457154:Unit:=()
def PySem.W.Fast.tw10905636905510277872:Unit:=()
def PySem.W.Fast.tw11847033846735546352:Unit:=()
def PySem.W.Fast.tw8489935908141343389:Unit:=()
def PySem.W.Fast.tw4578504514103821801:Unit:=()
def PySem.W.Fast.tw12277271582296997622:Unit:=()
def PySem.W.Fast.tw6954495190386442034:Unit:=()
def PySem.W.Fast.tw10633203993502073245:Unit:=()
def PySem.W.Fast.tw15020805940009925690:Unit:=()
def PySem.W.Fast.tw13423508260660024073:Unit:=()
def PySem.W.Fast.tw11575613223423414050:Unit:=()
def PySem.W.Fast.tw1951064651605302387:Unit:=()
def PySem.W.Fast.tw6143786994448805045:Unit:=()
def PySem.W.Fast.tw9972970999206264076:Unit:=()
def PySem.W.Fast.tw4325767374483687618:Unit:=()
def PySem.W.Fast.tw2114510109165489730:Unit:=()
def PySem.W.Fast.tw16185946426647094121:Unit:=()
def PySem.W.Fast.tw6201019361254416672:Unit:=()
def PySem.W.Fast.tw4144345458375140932:Unit:=()
def PySem.W.Fast.tw2730396349842036475:Unit:=()
def PySem.W.Fast.tw12635093335361563314:Unit:=()
def PySem.W.Fast.tw424356123860925884:Unit:=()
def PySem.W.Fast.tw16082957606667575562:Unit:=()
def PySem.W.Fast.tw4801985897787440371:Unit:=()
def PySem.W.Fast.tw13250110636233137185:Unit:=()
def PySem.W.Fast.tw11447438787609678877:Unit:=()
def PySem.W.Fast.tw15779129512653940631:Unit:=()
def PySem.W.Fast.tw11792712094361802832:Unit:=()
def PySem.W.Fast.tw11547328264408135117:Unit:=()
def PySem.W.Fast.tw2612151708087343012:Unit:=()
def PySem.W.Fast.tw12699342022402032959:Unit:=()
def PySem.W.Fast.tw15543636400220311383:Unit:=()
def PySem.W.Fast.tw11210178657462325651:Unit:=()
def PySem.W.Fast.tw17481658580584715054:Unit:=()
def PySem.W.Fast.tw12939595262871722967:Unit:=()
def PySem.W.Fast.tw7683582190194890225:Unit:=()
def PySem.W.Fast.tw9116534594050482954:Unit:=()
def PySem.W.Fast.tw9708618820509199835:Unit:=()
def PySem.W.Fast.tw14849646547544731049:Unit:=()
def PySem.W.Fast.tw14002763575087898786:Unit:=()
def PySem.W.Fast.tw15339419249511507758:Unit:=()
def PySem.W.Fast.tw13857896673378746531:Unit:=()
def PySem.W.Fast.tw17429811851203085292:Unit:=()
def PySem.W.Fast.tw16056539508434355302:Unit:=()
def PySem.W.Fast.tw18109480799916770619:Unit:=()
def PySem.W.Fast.tw12492886451589005898:Unit:=()
def PySem.W.Fast.tw4715875670366897371:Unit:=()
def PySem.W.Fast.tw18300892314690272040:Unit:=()
def PySem.W.Fast.tw14380425329522358323:Unit:=()
def PySem.W.Fast.tw6744875975468260286:Unit:=()
def PySem.W.Fast.tw16459675910466692936:Unit:=()
def PySem.W.Fast.tw107147459759943031:Unit:=()
def PySem.W.Fast.tw4511430732114114076:Unit:=()
def PySem.W.Fast.tw2594366609794367152:Unit:=()
def PySem.W.Fast.tw9182503917432445064:Unit:=()
def PySem.W.Fast.tw16432959132395552924:Unit:=()
def PySem.W.Fast.tw17483533779043007414:Unit:=()
def PySem.W.Fast.tw13461646619796074492:Unit:=()
def PySem.W.Fast.tw10069181958832254653:Unit:=()
def PySem.W.Fast.tw14331562307743007412:Unit:=()
def PySem.W.Fast.tw421840832328295339:Unit:=()
def PySem.W.Fast.tw893793531804341957:Unit:=()
def PySem.W.Fast.tw13854028152466432697:Unit:=()
def PySem.W.Fast.tw2908565629055331167:Unit:=()
def PySem.W.Fast.tw8956204986305559153:Unit:=()
def PySem.W.Fast.tw3631109116811444209:Unit:=()
def PySem.W.Fast.tw17338122825145968772:Unit:=()
def PySem.W.Fast.tw1416928874224923997:Unit:=()
def PySem.W.Fast.tw3059226406026835679:Unit:=()
def PySem.W.Fast.tw1637003349524704498:Unit:=()
def PySem.W.Fast.tw2649012356500707354:Unit:=()
def PySem.W.Fast.tw3281980653456959111:Unit:=()
def PySem.W.Fast.tw17098600696306941219:Unit:=()
def PySem.W.Fast.tw11837064944146968055:Unit:=()
def PySem.W.Fast.tw15897976864321973528:Unit:=()
def PySem.W.Fast.tw18336695412852891638:Unit:=()
def PySem.W.Fast.tw2466487998424206038:Unit:=()
def PySem.W.Fast.tw720342898280308646:Unit:=()
def PySem.W.Fast.tw17250399764724392725:Unit:=()
def PySem.W.Fast.tw13916458549776262061:Unit:=()
def PySem.W.Fast.tw13487335062025097553:Unit:=()
def PySem.W.Fast.tw1088681381543318855:Unit:=()
def PySem.W.Fast.tw6664208018846520532:Unit:=()
def PySem.W.Fast.tw18008796668291545013:Unit:=()
set_option maxHeartbeats 0 in
theorem PySem.Challenge.cw_cluemaker_k29_regions_strike_no_answer_holds : PySem.Challenge.rw_cluemaker_k29_regions_strike_no_answer.Holds := by
  w_on; o_law; k_head; (case hw => w_witness2)
  k_fill
  refine L2.walk (l := PySem.Challenge.rw_cluemaker_k29_regions_strike_no_answer) rfl rfl (fun w h Y => PySem.W.kIn_of Y) ?F
  case F =>
    intro w mg fa h KX G hmg
    refine' L2.yw KX G hmg ?DH ?q_Sum ?DI ?EK ?Ej ?DJ ?BY ?EL ?DK ?a0 ?a1 ?a2 ?a3 ?a4 ?a5 ?a6 ?BZ ?Ek ?B0 ?DL ?C7 ?B1 ?BE ?DM ?a8_Unlike ?a8_Sum ?a8_Rising ?a8_Seen ?a8_Count ?a8_Joined ?a8_NoSquare ?a8_Ring ?a9_Unlike ?a9_Sum ?a9_Rising ?a9_Seen ?a9_Count ?a9_Joined ?a9_NoSquare ?a9_Ring ?a10_Unlike ?a10_Sum ?a10_Rising ?a10_Seen ?a10_Count ?a10_Joined ?a10_NoSquare ?a10_Ring ?a11 ?a12_Puzzle ?a13_Puzzle ?a14 ?a15 ?a16 ?a17 ?a18 ?a19 ?a20 ?a21 ?a22 ?a23 ?a24 ?a25 ?a26 ?a27 ?a28 ?a29 ?a30 ?a31 ?a32 ?a33 ?a34 ?a35 ?a36 ?a37 ?a38 ?a39 ?a40 ?a41 ?a42 ?a43 ?a44 ?a45 ?a46 ?a47 ?a48 ?a49 ?a50 ?a51 ?a52 ?a53 ?a54 ?a55 ?a56 ?a57 ?B2 ?a59 ?a60 ?a61 ?F0 ?F1 ?F2 ?F3 ?F4 ?F5 ?F6 ?F7 ?fn7 ?F8 ?fn8 ?F9 ?fn9 ?F10 ?fn10 ?F11 ?F12 ?fn12 ?F13 ?fn13 ?F14 ?F15 ?F16 ?F17 ?F18 ?F19 ?F20 ?F21 ?F22 ?F23 ?F24 ?F25 ?F26 ?F27 ?F28 ?F29 ?F30 ?F31 ?F32 ?F33 ?F34 ?F35 ?F36 ?F37 ?F38 ?F39 ?F40 ?F41 ?F42 ?F43 ?F44 ?F45 ?F46 ?F47 ?F48 ?F49 ?F50 ?F51 ?F52 ?F53 ?F54 ?F55 ?F56 ?F57 ?F58 ?fn58 ?F59 ?F60 ?F61 ?B3 ?B4 ?B5 ?B6 ?B7 ?B8 ?El ?Em ?En ?Eo ?Ep ?Er ?B9 ?Ca ?Cb ?Cc ?Cd ?Ce ?DN ?DO ?DP ?DQ ?DR ?DS ?C8 ?C9 ?Da ?Db ?Dc ?Dd ?Cf ?Cg ?Ch ?Ci ?Cj ?Ck ?BF ?BG ?BH ?BK ?BL ?BM ?DT ?DU ?DW ?DX ?DY ?DZ ?Cl ?Cm ?Cn ?Co ?Cp ?Cq ?zK ?Aw ?zL ?Aa ?zP ?zM ?zj ?Ab ?zQ ?AM ?zR ?Ax ?Ac ?zS ?zm ?Ay ?zT ?AN ?zU ?Az ?Ad ?zV ?zn ?AA ?Ae ?AZ ?Af ?AO ?AB ?Ag ?zN ?AQ ?zW ?AR ?zX ?AC ?Ah ?zY ?zp ?AD ?zZ ?z3 ?Ai ?De ?Df ?AS ?AT ?Aj ?Ak ?Al ?Am ?AE ?AF ?A0 ?A1 ?z4 ?z5 ?zq ?zr ?zt ?zu ?zv ?zw ?zx ?zy ?zA ?zB ?zC ?zD ?zE ?zF ?zG ?zH ?zI ?zJ ?Cr ?A2 ?AG ?AU ?A3 ?BN ?A4 ?z_len ?z_abs ?z_min ?z_max ?z_sorted ?z_any ?z_isinstance ?z_list ?z_int ?z_bool ?z_str ?z_tuple ?z_reversed ?z_set ?z_range ?z_zip ?z_all ?z_sum ?z_enumerate ?z_divmod
    (case DH => k_is)
    (case q_Sum => k_is)
    (case DI => k_is)
    (case EK => k_is)
    (case Ej => k_is)
    (case DJ => k_is)
    (case BY => k_is)
    (case EL => k_is)
    (case DK => k_is)
    (case a0 => k_is)
    (case a1 => k_is)
    (case a2 => k_is)
    (case a3 => k_is)
    (case a4 => k_is)
    (case a5 => k_is)
    (case a6 => k_is)
    (case BZ => k_is)
    (case Ek => k_is)
    (case B0 => k_is)
    (case DL => k_is)
    (case C7 => k_is)
    (case B1 => k_is)
    (case BE => k_is)
    (case DM => k_is)
    (case a8_Unlike => k_is)
    (case a8_Sum => k_is)
    (case a8_Rising => k_is)
    (case a8_Seen => k_is)
    (case a8_Count => k_is)
    (case a8_Joined => k_is)
    (case a8_NoSquare => k_is)
    (case a8_Ring => k_is)
    (case a9_Unlike => k_is)
    (case a9_Sum => k_is)
    (case a9_Rising => k_is)
    (case a9_Seen => k_is)
    (case a9_Count => k_is)
    (case a9_Joined => k_is)
    (case a9_NoSquare => k_is)
    (case a9_Ring => k_is)
    (case a10_Unlike => k_is)
    (case a10_Sum => k_is)
    (case a10_Rising => k_is)
    (case a10_Seen => k_is)
    (case a10_Count => k_is)
    (case a10_Joined => k_is)
    (case a10_NoSquare => k_is)
    (case a10_Ring => k_is)
    (case a11 => k_is)
    (case a12_Puzzle => k_is)
    (case a13_Puzzle => k_is)
    (case a14 => k_is)
    (case a15 => k_is)
    (case a16 => k_is)
    (case a17 => k_is)
    (case a18 => k_is)
    (case a19 => k_is)
    (case a20 => k_is)
    (case a21 => k_is)
    (case a22 => k_is)
    (case a23 => k_is)
    (case a24 => k_is)
    (case a25 => k_is)
    (case a26 => k_is)
    (case a27 => k_is)
    (case a28 => k_is)
    (case a29 => k_is)
    (case a30 => k_is)
    (case a31 => k_is)
    (case a32 => k_is)
    (case a33 => k_is)
    (case a34 => k_is)
    (case a35 => k_is)
    (case a36 => k_is)
    (case a37 => k_is)
    (case a38 => k_is)
    (case a39 => k_is)
    (case a40 => k_is)
    (case a41 => k_is)
    (case a42 => k_is)
    (case a43 => k_is)
    (case a44 => k_is)
    (case a45 => k_is)
    (case a46 => k_is)
    (case a47 => k_is)
    (case a48 => k_is)
    (case a49 => k_is)
    (case a50 => k_is)
    (case a51 => k_is)
    (case a52 => k_is)
    (case a53 => k_is)
    (case a54 => k_is)
    (case a55 => k_is)
    (case a56 => k_is)
    (case a57 => k_is)
    (case B2 => k_is)
    (case a59 => k_is)
    (case a60 => k_is)
    (case a61 => k_is)
    (case F0 => (refine' L2.ay ?l ?c ?k; (case l => k_is); (case c => k_is); case k => k_is))
    (case F1 => (refine' L2.ay ?l ?c ?k; (case l => k_is); (case c => k_is); case k => k_is))
    (case F2 => (refine' L2.ay ?l ?c ?k; (case l => k_is); (case c => k_is); case k => k_is))
    (case F3 => (refine' L2.ay ?l ?c ?k; (case l => k_is); (case c => k_is); case k => k_is))
    (case F4 => (refine' L2.ay ?l ?c ?k; (case l => k_is); (case c => k_is); case k => k_is))
    (case F5 => (refine' L2.ay ?l ?c ?k; (case l => k_is); (case c => k_is); case k => k_is))
    (case F6 => (refine' L2.ay ?l ?c ?k; (case l => k_is); (case c => k_is); case k => k_is))
    (case F7 => (refine' L2.ay ?l ?c ?k; (case l => k_is); (case c => k_is); case k => k_is))
    (case fn7 => k_is)
    (case F8 => (refine' L2.ay ?l ?c ?k; (case l => k_is); (case c => k_is); case k => k_is))
    (case fn8 => k_is)
    (case F9 => (refine' L2.ay ?l ?c ?k; (case l => k_is); (case c => k_is); case k => k_is))
    (case fn9 => k_is)
    (case F10 => (refine' L2.ay ?l ?c ?k; (case l => k_is); (case c => k_is); case k => k_is))
    (case fn10 => k_is)
    (case F11 => (refine' L2.ay ?l ?c ?k; (case l => k_is); (case c => k_is); case k => k_is))
    (case F12 => (refine' L2.ay ?l ?c ?k; (case l => k_is); (case c => k_is); case k => k_is))
    (case fn12 => k_is)
    (case F13 => (refine' L2.ay ?l ?c ?k; (case l => k_is); (case c => k_is); case k => k_is))
    (case fn13 => k_is)
    (case F14 => (refine' L2.ay ?l ?c ?k; (case l => k_is); (case c => k_is); case k => k_is))
    (case F15 => (refine' L2.ay ?l ?c ?k; (case l => k_is); (case c => k_is); case k => k_is))
    (case F16 => (refine' L2.ay ?l ?c ?k; (case l => k_is); (case c => k_is); case k => k_is))
    (case F17 => (refine' L2.ay ?l ?c ?k; (case l => k_is); (case c => k_is); case k => k_is))
    (case F18 => (refine' L2.ay ?l ?c ?k; (case l => k_is); (case c => k_is); case k => k_is))
    (case F19 => (refine' L2.ay ?l ?c ?k; (case l => k_is); (case c => k_is); case k => k_is))
    (case F20 => (refine' L2.ay ?l ?c ?k; (case l => k_is); (case c => k_is); case k => k_is))
    (case F21 => (refine' L2.ay ?l ?c ?k; (case l => k_is); (case c => k_is); case k => k_is))
    (case F22 => (refine' L2.ay ?l ?c ?k; (case l => k_is); (case c => k_is); case k => k_is))
    (case F23 => (refine' L2.ay ?l ?c ?k; (case l => k_is); (case c => k_is); case k => k_is))
    (case F24 => (refine' L2.ay ?l ?c ?k; (case l => k_is); (case c => k_is); case k => k_is))
    (case F25 => (refine' L2.ay ?l ?c ?k; (case l => k_is); (case c => k_is); case k => k_is))
    (case F26 => (refine' L2.ay ?l ?c ?k; (case l => k_is); (case c => k_is); case k => k_is))
    (case F27 => (refine' L2.ay ?l ?c ?k; (case l => k_is); (case c => k_is); case k => k_is))
    (case F28 => (refine' L2.ay ?l ?c ?k; (case l => k_is); (case c => k_is); case k => k_is))
    (case F29 => (refine' L2.ay ?l ?c ?k; (case l => k_is); (case c => k_is); case k => k_is))
    (case F30 => (refine' L2.ay ?l ?c ?k; (case l => k_is); (case c => k_is); case k => k_is))
    (case F31 => (refine' L2.ay ?l ?c ?k; (case l => k_is); (case c => k_is); case k => k_is))
    (case F32 => (refine' L2.ay ?l ?c ?k; (case l => k_is); (case c => k_is); case k => k_is))
    (case F33 => (refine' L2.ay ?l ?c ?k; (case l => k_is); (case c => k_is); case k => k_is))
    (case F34 => (refine' L2.ay ?l ?c ?k; (case l => k_is); (case c => k_is); case k => k_is))
    (case F35 => (refine' L2.ay ?l ?c ?k; (case l => k_is); (case c => k_is); case k => k_is))
    (case F36 => (refine' L2.ay ?l ?c ?k; (case l => k_is); (case c => k_is); case k => k_is))
    (case F37 => (refine' L2.ay ?l ?c ?k; (case l => k_is); (case c => k_is); case k => k_is))
    (case F38 => (refine' L2.ay ?l ?c ?k; (case l => k_is); (case c => k_is); case k => k_is))
    (case F39 => (refine' L2.ay ?l ?c ?k; (case l => k_is); (case c => k_is); case k => k_is))
    (case F40 => (refine' L2.ay ?l ?c ?k; (case l => k_is); (case c => k_is); case k => k_is))
    (case F41 => (refine' L2.ay ?l ?c ?k; (case l => k_is); (case c => k_is); case k => k_is))
    (case F42 => (refine' L2.ay ?l ?c ?k; (case l => k_is); (case c => k_is); case k => k_is))
    (case F43 => (refine' L2.ay ?l ?c ?k; (case l => k_is); (case c => k_is); case k => k_is))
    (case F44 => (refine' L2.ay ?l ?c ?k; (case l => k_is); (case c => k_is); case k => k_is))
    (case F45 => (refine' L2.ay ?l ?c ?k; (case l => k_is); (case c => k_is); case k => k_is))
    (case F46 => (refine' L2.ay ?l ?c ?k; (case l => k_is); (case c => k_is); case k => k_is))
    (case F47 => (refine' L2.ay ?l ?c ?k; (case l => k_is); (case c => k_is); case k => k_is))
    (case F48 => (refine' L2.ay ?l ?c ?k; (case l => k_is); (case c => k_is); case k => k_is))
    (case F49 => (refine' L2.ay ?l ?c ?k; (case l => k_is); (case c => k_is); case k => k_is))
    (case F50 => (refine' L2.ay ?l ?c ?k; (case l => k_is); (case c => k_is); case k => k_is))
    (case F51 => (refine' L2.ay ?l ?c ?k; (case l => k_is); (case c => k_is); case k => k_is))
    (case F52 => (refine' L2.ay ?l ?c ?k; (case l => k_is); (case c => k_is); case k => k_is))
    (case F53 => (refine' L2.ay ?l ?c ?k; (case l => k_is); (case c => k_is); case k => k_is))
    (case F54 => (refine' L2.ay ?l ?c ?k; (case l => k_is); (case c => k_is); case k => k_is))
    (case F55 => (refine' L2.ay ?l ?c ?k; (case l => k_is); (case c => k_is); case k => k_is))
    (case F56 => (refine' L2.ay ?l ?c ?k; (case l => k_is); (case c => k_is); case k => k_is))
    (case F57 => (refine' L2.ay ?l ?c ?k; (case l => k_is); (case c => k_is); case k => k_is))
    (case F58 => (refine' L2.ay ?l ?c ?k; (case l => k_is); (case c => k_is); case k => k_is))
    (case fn58 => k_is)
    (case F59 => (refine' L2.ay ?l ?c ?k; (case l => k_is); (case c => k_is); case k => k_is))
    (case F60 => (refine' L2.ay ?l ?c ?k; (case l => k_is); (case c => k_is); case k => k_is))
    (case F61 => (refine' L2.ay ?l ?c ?k; (case l => k_is); (case c => k_is); case k => k_is))
    (case B3 => k_is)
    (case B4 => k_is)
    (case B5 => k_is)
    (case B6 => k_is)
    (case B7 => k_is)
    (case B8 => k_is)
    (case El => k_is)
    (case Em => k_is)
    (case En => k_is)
    (case Eo => k_is)
    (case Ep => k_is)
    (case Er => k_is)
    (case B9 => k_is)
    (case Ca => k_is)
    (case Cb => k_is)
    (case Cc => k_is)
    (case Cd => k_is)
    (case Ce => k_is)
    (case DN => k_is)
    (case DO => k_is)
    (case DP => k_is)
    (case DQ => k_is)
    (case DR => k_is)
    (case DS => k_is)
    (case C8 => k_is)
    (case C9 => k_is)
    (case Da => k_is)
    (case Db => k_is)
    (case Dc => k_is)
    (case Dd => k_is)
    (case Cf => k_is)
    (case Cg => k_is)
    (case Ch => k_is)
    (case Ci => k_is)
    (case Cj => k_is)
    (case Ck => k_is)
    (case BF => k_is)
    (case BG => k_is)
    (case BH => k_is)
    (case BK => k_is)
    (case BL => k_is)
    (case BM => k_is)
    (case DT => k_is)
    (case DU => k_is)
    (case DW => k_is)
    (case DX => k_is)
    (case DY => k_is)
    (case DZ => k_is)
    (case Cl => k_is)
    (case Cm => k_is)
    (case Cn => k_is)
    (case Co => k_is)
    (case Cp => k_is)
    (case Cq => k_is)
    (case zK => k_is)
    (case Aw => k_is)
    (case zL => k_is)
    (case Aa => k_is)
    (case zP => k_is)
    (case zM => k_is)
    (case zj => k_is)
    (case Ab => k_is)
    (case zQ => k_is)
    (case AM => k_is)
    (case zR => k_is)
    (case Ax => k_is)
    (case Ac => k_is)
    (case zS => k_is)
    (case zm => k_is)
    (case Ay => k_is)
    (case zT => k_is)
    (case AN => k_is)
    (case zU => k_is)
    (case Az => k_is)
    (case Ad => k_is)
    (case zV => k_is)
    (case zn => k_is)
    (case AA => k_is)
    (case Ae => k_is)
    (case AZ => k_is)
    (case Af => k_is)
    (case AO => k_is)
    (case AB => k_is)
    (case Ag => k_is)
    (case zN => k_is)
    (case AQ => k_is)
    (case zW => k_is)
    (case AR => k_is)
    (case zX => k_is)
    (case AC => k_is)
    (case Ah => k_is)
    (case zY => k_is)
    (case zp => k_is)
    (case AD => k_is)
    (case zZ => k_is)
    (case z3 => k_is)
    (case Ai => k_is)
    (case De => k_is)
    (case Df => k_is)
    (case AS => k_is)
    (case AT => k_is)
    (case Aj => k_is)
    (case Ak => k_is)
    (case Al => k_is)
    (case Am => k_is)
    (case AE => k_is)
    (case AF => k_is)
    (case A0 => k_is)
    (case A1 => k_is)
    (case z4 => k_is)
    (case z5 => k_is)
    (case zq => k_is)
    (case zr => first | exact rfl | with_unfolding_all rfl)
    (case zt => k_is)
    (case zu => first | exact rfl | with_unfolding_all rfl)
    (case zv => k_is)
    (case zw => first | exact rfl | with_unfolding_all rfl)
    (case zx => k_is)
    (case zy => first | exact rfl | with_unfolding_all rfl)
    (case zA => k_is)
    (case zB => first | exact rfl | with_unfolding_all rfl)
    (case zC => k_is)
    (case zD => first | exact rfl | with_unfolding_all rfl)
    (case zE => k_is)
    (case zF => first | exact rfl | with_unfolding_all rfl)
    (case zG => k_is)
    (case zH => first | exact rfl | with_unfolding_all rfl)
    (case zI => k_is)
    (case zJ => first | exact rfl | with_unfolding_all rfl)
    (case Cr => k_is)
    (case A2 => k_is)
    (case AG => k_is)
    (case AU => k_is)
    (case A3 => k_is)
    (case BN => k_is)
    (case A4 => k_is)
    (case z_len => k_is)
    (case z_abs => k_is)
    (case z_min => k_is)
    (case z_max => k_is)
    (case z_sorted => k_is)
    (case z_any => k_is)
    (case z_isinstance => k_is)
    (case z_list => k_is)
    (case z_int => k_is)
    (case z_bool => k_is)
    (case z_str => k_is)
    (case z_tuple => k_is)
    (case z_reversed => k_is)
    (case z_set => k_is)
    (case z_range => k_is)
    (case z_zip => k_is)
    (case z_all => k_is)
    (case z_sum => k_is)
    (case z_enumerate => k_is)
    (case z_divmod => k_is)
