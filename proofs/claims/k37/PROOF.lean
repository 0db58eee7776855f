import PyProof.Rows.All
import Wide.All
import OpenK.AllK
import Wide.FinOn
import Lean
import PyProof.EqAt
import PyProof.EqKinds
import PyProof.TupleCall
import PyProof.ZipIter
import PyProof.ConsumeS
import PyProof.StrCalls2
import PyProof.StrWalks
import PyProof.SliceStr2
import PyProof.StrBlock
import PyProof.StrBlockL
import PyProof.ListIndex
import PyProof.StrLawsTight
import PyProof.StrLawsChain
import PyProof.StrLaws
import PyProof.StrLawsFirst
import PyProof.StationsW
import PyProof.ExcClass3
import PyProof.NsDelKeeps
import PyProof.RulesAs
import PyProof.ExcBaseAll.ValueError
import PyProof.ExcArgsOwn
import PyProof.ExcAttrAll.ValueError
import KE.KTryMore
import KE.RegKTryMore
import KE.RegKIsAll
import PyProof.Rows.Range3
import PyProof.Rows.SumGenD
import PyProof.Rows.RuleM_int
import PyProof.EnumMake
import PyProof.EnumFor
import PyProof.EnumStmt
import PyProof.Rows.EnumRows
import KE.KRevIter
import PyProof.ListNew
import PyProof.CollectIter
import PyProof.ListRange
import PyProof.CallStr
import PyProof.StrBlock2
import PyProof.Rows.StrMadeLen
import PyProof.Rows.SetFrom
import PyProof.SetRoads
import PyProof.MeetsStr2
import KE.KRevSl
import PyProof.Conv_int
import PyProof.WalkInts
import PyProof.Rows.SeqMore
import PySem.Challenge.RW_cluemaker_k37_thoughts_of_ways
set_option Elab.async false
set_option linter.all false
set_option maxRecDepth 100000
open PySem.W (Frag)
set_option maxHeartbeats 40000000
namespace L2
open PySem PySem.Spec PyProof.Rows
abbrev Key:=Sum Int Str
def keyIs:Key->Value->Bool
 | .inl k,v=>Value.isInt k v
 | .inr x,v=>Value.isStrOf x v
def keyH (w:World):Key->Int
 | .inl k=>hashInt k
 | .inr x=>hashStr w x
theorem bQ:∀ {k:Key} {v:Value},keyIs k v=true->(∃ i t,k=Sum.inl i/\v=Value.int i t)\/(∃ x t,k=Sum.inr x/\v=Value.str x t)
 | .inl i,v,h=>by
  obtain ⟨t,e⟩:=Value.isInt_shape (k:=i) (v:=v) h
  exact .inl ⟨i,t,rfl,e⟩
 | .inr x,v,h=>by
  obtain ⟨t,e⟩:=Value.isStrOf_shape (x:=x) (v:=v) h
  exact .inr ⟨x,t,rfl,e⟩
theorem w9 (i:Int) (t:Tok):keyIs (.inl i) (.int i t)=true:=by simp [keyIs,Value.isInt]
theorem xa (x:Str) (t:Tok):keyIs (.inr x) (.str x t)=true:=by simp [keyIs,Value.isStrOf]
theorem Ar (a b:Int):decide ((Sum.inl a:Key)=Sum.inl b)=(a==b):=by
 by_cases e:a=b
 . subst e; simp
 . have h:¬ (Sum.inl a:Key)=Sum.inl b:=fun q=>e (Sum.inl.inj q)
   rw [decide_eq_false h]
   exact (beq_eq_false_iff_ne.mpr e).symm
theorem As (a b:Str):decide ((Sum.inr a:Key)=Sum.inr b)=decide (a=b):=by
 by_cases e:a=b
 . subst e; simp
 . have h:¬ (Sum.inr a:Key)=Sum.inr b:=fun q=>e (Sum.inr.inj q)
   rw [decide_eq_false h,decide_eq_false e]
theorem At (a:Int) (b:Str):decide ((Sum.inl a:Key)=Sum.inr b)=false:=decide_eq_false (fun q=>nomatch q)
theorem Au (a:Str) (b:Int):decide ((Sum.inr a:Key)=Sum.inl b)=false:=decide_eq_false (fun q=>nomatch q)
def cu (prog:Program) (w:World):PySem.KeyKind prog w Key where
 is:=keyIs
 hash:=keyH w
 inj:=fun v a b ha hb=>by
  rcases bQ ha with ⟨i,t,rfl,rfl⟩ | ⟨x,t,rfl,rfl⟩
  . rcases bQ hb with ⟨j,u,rfl,e⟩ | ⟨y,u,rfl,e⟩
    . injection e with e1 _; rw [e1]
    . exact nomatch e
  . rcases bQ hb with ⟨j,u,rfl,e⟩ | ⟨y,u,rfl,e⟩
    . exact nomatch e
    . injection e with e1 _; rw [e1]
 byValue:=fun k v h=>by
  rcases bQ h with ⟨i,t,rfl,rfl⟩ | ⟨x,t,rfl,rfl⟩ <;> rfl
 pyHash:=fun hv h=>by
  rcases bQ hv with ⟨i,t,rfl,rfl⟩ | ⟨x,t,rfl,rfl⟩
  . exact wpAny_pyHash_int h
  . exact wpAny_pyHash_str h
 eqBool:=fun hu hv h=>by
  rcases bQ hu with ⟨i,t,rfl,rfl⟩ | ⟨x,t,rfl,rfl⟩
  . rcases bQ hv with ⟨j,u,rfl,rfl⟩ | ⟨y,u,rfl,rfl⟩
    . rw [Ar] at h; exact wpAny_eqBool_int h
    . rw [At] at h; exact SeqAt.EqAt.int_str i t y u _ _ _ _ h
  . rcases bQ hv with ⟨j,u,rfl,rfl⟩ | ⟨y,u,rfl,rfl⟩
    . rw [Au] at h; exact SeqAt.EqAt.str_int x t j u _ _ _ _ h
    . rw [As] at h; exact wpAny_eqBool_str h
 «strs»:=fun k x t v h=>by
  rcases bQ h with ⟨i,u,rfl,e⟩ | ⟨y,u,rfl,e⟩
  . exact nomatch e
  . injection e with e1 _
    subst e1
    cases v <;> rfl
theorem uY (prog:Program) (w:World) (i:Int) (t:Tok):(cu prog w).is (.inl i) (.int i t)=true:=w9 i t
theorem uZ (prog:Program) (w:World) (x:Str) (t:Tok):(cu prog w).is (.inr x) (.str x t)=true:=xa x t
end L2
namespace L2
open PySem PySem.Spec PyProof.Rows
inductive V where
 | non | bl (b:Bool) | int (i:Int) | str (x:Str) | byt (b:Array UInt8) | flt (b:UInt64) | ref (a:Addr) | ty (n:String)
 deriving DecidableEq
def RelV:V->Value->Prop
 | .non,u=>u=Value.none
 | .bl b,u=>u=Value.bool b
 | .int i,u=>∃ t,u=Value.int i t
 | .str x,u=>∃ t,u=Value.str x t
 | .byt b,u=>∃ t,u=Value.bytes b t
 | .flt b,u=>∃ t,u=Value.float b t
 | .ref a,u=>u=Value.ref a
 | .ty n,u=>u=Value.type n
abbrev Vals:List V->List Value->Prop:=Paired RelV
theorem Vals.length {xs:List V} {us:List Value} (r:Vals xs us):xs.length=us.length:=Paired.length r
theorem Vals.get:∀ {xs:List V} {us:List Value} {i:Nat} {x:V},Vals xs us->xs[i]? =some x->∃ u,us[i]? =some u/\RelV x u
 | _,_,_,_,.nil,e=>by simp at e
 | _,_,0,_,.cons r _,e=>by simp at e; subst e; exact ⟨_,rfl,r⟩
 | _,_,i+1,x,.cons _ t,e=>by
  obtain ⟨u,h1,h2⟩:=Vals.get (i:=i) (x:=x) t (by simpa using e)
  exact ⟨u,by simpa using h1,h2⟩
theorem Vals.append:∀ {xs ys:List V} {us ws:List Value},Vals xs us->Vals ys ws->Vals (xs++ys) (us++ws)
 | _,_,_,_,.nil,s=>s
 | _,_,_,_,.cons r t,s=>.cons r (Vals.append t s)
theorem Vals.take:∀ {xs:List V} {us:List Value} (n:Nat),Vals xs us->Vals (xs.take n) (us.take n)
 | _,_,0,_=>.nil
 | _,_,_+1,.nil=>.nil
 | _,_,n+1,.cons r t=>.cons r (Vals.take n t)
theorem Vals.drop:∀ {xs:List V} {us:List Value} (n:Nat),Vals xs us->Vals (xs.drop n) (us.drop n)
 | _,_,0,r=>r
 | _,_,_+1,.nil=>.nil
 | _,_,n+1,.cons _ t=>Vals.drop n t
def RelO:Option V->Option Value->Prop
 | some v,some u=>RelV v u
 | none,none=>True
 | _,_=>False
def KV {κ:Type}:List (κ × V)->List (κ × Value)->Prop:=Paired fun (p:κ × V) (q:κ × Value)=>p.1=q.1/\RelV p.2 q.2
def kV:Key->V
 | .inl i=>.int i
 | .inr x=>.str x
inductive HO where
  | lst (xs:List V)
  | tup (xs:List V)
  | dK (kvs:List (Key × V)) | dT (kvs:List (List Key × V))
  | set (S:Int->Bool) (n:Nat)
  | ins (C dx:Addr) (fs:List (Str × V))
  | own (x:Addr)
  | xd (fs:List (Str × V))
  | met (f x:Addr)
  | rng (lo hi:Int)
  | frz (o:Obj) (u:HO)
  | tbl (ps:Array Value)
  | ext (φ:Heap->Prop)
abbrev Hp:=Addr->Option HO
def upd (H:Hp) (a:Addr) (o:HO):Hp:=fun b=>if b=a then some o else H b
theorem ae {H:Hp} {a:Addr} {o:HO}:upd H a o a=some o:=by unfold upd; rw [if_pos rfl]
theorem ai {H:Hp} {a b:Addr} {o:HO} (h:b≠a):upd H a o b=H b:=by unfold upd; rw [if_neg h]
theorem Bl {H:Hp} {a b:Addr} {o u:HO} (h:H a=some o) (h':H b=some u) (d:o≠u):a≠b:=by
 intro e; subst e; rw [h] at h'; exact d (Option.some.inj h')
theorem aC {H:Hp} {a b:Addr} {o:HO} (h:H a=some o) (h':H b=none):a≠b:=by
 intro e; subst e; rw [h] at h'; cases h'
section
variable (P:Program) (w:World)
def ObjOk (H:Hp) (h:Heap) (a:Addr):HO->Prop
 | .lst xs=>xs.length<=sizeLine/\∃ (its:List Value) (n:Nat),Vals xs its/\h.get? a=some { cls:=.type "list",data:=.seq its.toArray n }
 | .tup xs=>xs.length<=sizeLine/\∃ its:List Value,Vals xs its/\IsTup h a its.toArray
 | .dK kvs=>kvs.length<=sizeLine/\(a==sysModules)=false/\∃ vs,KV kvs vs/\h.DictOf (cu P w) a vs
 | .dT kvs=>kvs.length<=sizeLine/\(a==sysModules)=false/\∃ xs:List (List Key × Addr × Value),
   Paired (fun (p:List Key × V) (q:List Key × Addr × Value)=>p.1=q.1/\H q.2.1=some (.tup (p.1.map kV))/\RelV p.2 q.2.2) kvs xs/\
   ∃ o es ep,h.get? a=some o/\o.ExactDict/\o.data=.dict es ep/\es.toList=xs.map (entryOfKey (tupleKind (cu P w)))/\(xs.map (·.1)).Nodup
 | .set S n=>h.SetOf (intKind P w) a S n
 | .ins C dx fs=>H dx=some (.own a)/\fs.length<=1000/\dx≠a/\h.get? a=some (PySem.W.instObj C dx)/\
   ∃ mA,h.Ns1 dx mA/\(∀ f,RelO (fs.lookup f) (mA f))/\PySem.Within mA (fs.map (·.1))
 | .own _=>∃ o,h.get? a=some o
 | .xd fs=>∃ mA,h.Ns1 a mA/\∀ f,RelO (fs.lookup f) (mA f)
 | .rng lo hi=>∃ t u v,h.get? a=some { cls:=.type "range",data:=.fields #[.int lo t,.int hi u,.int 1 v] }
 | .frz o u=>h.get? a=some o/\ObjOk H h a u
 | .tbl ps=>h.get? a=some { cls:=.none,data:=.fields ps }
 | .met f x=>h.get? a=some (PySem.W.methodObj (.ref f) (.ref x))
 | .ext φ=>φ h/\(∃ o,h.get? a=some o)/\∀ h1 h2:Heap,φ h1->(∀ o,h1.get? a=some o->h2.get? a=some o)->φ h2
def HOk (H:Hp) (h:Heap):Prop:=∀ a o,H a=some o->ObjOk P w H h a o
end
section
variable {P:Program} {w:World} {H H':Hp} {h h':Heap} {a:Addr} {o:HO}
theorem ObjOk.lt (x:ObjOk P w H h a o):a<h.objs.size:=by
 cases o with
 | lst xs=>obtain ⟨_,_,_,_,e⟩:=x; exact Heap.lt_size e
 | tup xs=>obtain ⟨_,_,_,p⟩:=x; exact p.lt
 | dK kvs=>obtain ⟨_,_,_,_,o,_,_,e,_⟩:=x; exact Heap.lt_size e
 | dT kvs=>obtain ⟨_,_,_,_,o,_,_,e,_⟩:=x; exact Heap.lt_size e
 | set S n=>obtain ⟨o,_,_,_,e,_⟩:=x; exact Heap.lt_size e
 | ins C dx fs=>obtain ⟨_,_,_,e,_⟩:=x; exact Heap.lt_size e
 | own y=>obtain ⟨_,e⟩:=x; exact Heap.lt_size e
 | xd fs=>obtain ⟨_,⟨_,_,_,e,_⟩,_⟩:=x; exact Heap.lt_size e
 | rng lo hi=>obtain ⟨_,_,_,e⟩:=x; exact Heap.lt_size e
 | frz ob u=>obtain ⟨e,_⟩:=x; exact Heap.lt_size e
 | tbl ps=>exact Heap.lt_size (show h.get? a=some _ from x)
 | met f y=>exact Heap.lt_size (show h.get? a=some _ from x)
 | ext φ=>obtain ⟨_,⟨_,e⟩,_⟩:=x; exact Heap.lt_size e
theorem Paired.mapP {α β:Type} {F G:α->β->Prop}:∀ {l₁:List α} {l₂:List β},Paired F l₁ l₂->(∀ a b,F a b->G a b)->Paired G l₁ l₂
 | _,_,.nil,_=>.nil
 | _,_,.cons r t,f=>.cons (f _ _ r) (Paired.mapP t f)
theorem ObjOk.stay (x:ObjOk P w H h a o) (k:∀ b u,(b=a\/H b=some (.own a))->h.get? b=some u->h'.get? b=some u)
  (ho:∀ b,H b=some (.own a)->H' b=some (.own a)) (ht:∀ b xs,H b=some (.tup xs)->H' b=some (.tup xs)):ObjOk P w H' h' a o:=by
 induction o with
 | lst xs=>obtain ⟨z,its,n,r,e⟩:=x; exact ⟨z,its,n,r,k _ _ (.inl rfl) e⟩
 | tup xs=>obtain ⟨z,its,r,ob,e,c⟩:=x; exact ⟨z,its,r,ob,k _ _ (.inl rfl) e,c⟩
 | dK kvs=>obtain ⟨z,y,vs,r,ob,es,ep,e,c⟩:=x; exact ⟨z,y,vs,r,ob,es,ep,k _ _ (.inl rfl) e,c⟩
 | dT kvs=>
  obtain ⟨z,y,xs,r,ob,es,ep,e,c⟩:=x
  exact ⟨z,y,xs,Paired.mapP r fun p q z=>⟨z.1,ht _ _ z.2.1,z.2.2⟩,ob,es,ep,k _ _ (.inl rfl) e,c⟩
 | set S n=>obtain ⟨ob,es,ep,t,e,c⟩:=x; exact ⟨ob,es,ep,t,k _ _ (.inl rfl) e,c⟩
 | ins C dx fs=>
  obtain ⟨d,z,ne,e,mA,⟨od,es,ep,e2,c⟩,r⟩:=x
  exact ⟨ho _ d,z,ne,k _ _ (.inl rfl) e,mA,⟨od,es,ep,k _ _ (.inr d) e2,c⟩,r⟩
 | own y=>obtain ⟨ob,e⟩:=x; exact ⟨ob,k _ _ (.inl rfl) e⟩
 | xd fs=>obtain ⟨mA,⟨od,es,ep,e,c⟩,r⟩:=x; exact ⟨mA,⟨od,es,ep,k _ _ (.inl rfl) e,c⟩,r⟩
 | rng lo hi=>obtain ⟨t,u,v,e⟩:=x; exact ⟨t,u,v,k _ _ (.inl rfl) e⟩
 | frz ob u ih=>obtain ⟨e,q⟩:=x; exact ⟨k _ _ (.inl rfl) e,ih q⟩
 | tbl ps=>
  have e:h.get? a=some { cls:=.none,data:=.fields ps }:=x
  show h'.get? a=some { cls:=.none,data:=.fields ps }
  exact k a _ (.inl rfl) e
 | met f y=>
  have e:h.get? a=some (PySem.W.methodObj (.ref f) (.ref y)):=x
  show h'.get? a=some (PySem.W.methodObj (.ref f) (.ref y))
  exact k a _ (.inl rfl) e
 | ext φ=>obtain ⟨p,⟨o,e⟩,st⟩:=x; exact ⟨st _ _ p fun o q=>k _ _ (.inl rfl) q,⟨o,k _ _ (.inl rfl) e⟩,st⟩
theorem HOk.lt (x:HOk P w H h) (e:H a=some o):a<h.objs.size:=(x a o e).lt
theorem HOk.fresh (x:HOk P w H h) (e:h.objs.size<=a):H a=none:=by
 cases q:H a with
 | none=>rfl
 | some u=>exact absurd (Nat.lt_of_lt_of_le (x.lt q) e) (Nat.lt_irrefl _)
theorem HOk.kept (x:HOk P w H h) (k:∀ b u,h.get? b=some u->h'.get? b=some u):HOk P w H h':=fun a o e=>
 (x a o e).stay (fun b u _ q=>k b u q) (fun _ q=>q) fun _ _ q=>q
theorem HOk.laid (x:HOk P w H h) (k:∀ b u,h.get? b=some u->h'.get? b=some u) (hp:h.objs.size<=a) (new:ObjOk P w (upd H a o) h' a o):HOk P w (upd H a o) h':=fun b u e=>by
 have hn:=x.fresh hp
 by_cases hb:b=a
 . subst hb; rw [ae] at e; cases e; exact new
 . rw [ai hb] at e
   exact (x b u e).stay (fun c v _ q=>k c v q) (fun c q=>by rw [ai (aC q hn)]; exact q) fun c xs q=>by rw [ai (aC q hn)]; exact q
end
def Rd (H:Hp) (a:Addr) (u:HO):Prop:=H a=some u\/∃ o,H a=some (.frz o u)
theorem Rd.ok {P:Program} {w:World} {H:Hp} {h:Heap} {a:Addr} {u:HO} (r:Rd H a u) (x:HOk P w H h):ObjOk P w H h a u:=by
 rcases r with r | ⟨o,r⟩
 . exact x a u r
 . obtain ⟨_,q⟩:=x a _ r
   exact q
def Mut:Option HO->Prop
 | some (.lst _)=>True
 | some (.dK _)=>True
 | some (.dT _)=>True
 | some (.set _ _)=>True
 | some (.ins _ _ _)=>True
 | some (.ext _)=>True
 | _=>False
section
variable {P:Program} {w:World} {H:Hp} {h h':Heap} {x e:Addr} {o':HO}
theorem HOk.write (ok:HOk P w H h) (mu:Mut (H x)) (he:e=x\/H e=some (.own x)) (k:∀ b u,b≠e->h.get? b=some u->h'.get? b=some u) (heo:∃ u,h'.get? e=some u)
  (new:ObjOk P w (upd H x o') h' x o'):HOk P w (upd H x o') h':=fun b u q=>by
 have nown:∀ c y,H c=some (.own y)->c≠x:=fun c y r z=>by subst z; rw [r] at mu; exact mu
 have ntup:∀ c xs,H c=some (.tup xs)->c≠x:=fun c xs r z=>by subst z; rw [r] at mu; exact mu
 by_cases hb:b=x
 . subst hb; rw [ae] at q; cases q; exact new
 . rw [ai hb] at q
   by_cases hbe:b=e
   . have q':H b=some (.own x):=by
      rcases he with z | z
      . exact absurd (hbe.trans z) hb
      . rw [hbe]; exact z
     rw [q] at q'; cases q'
     obtain ⟨v,hv⟩:=heo
     exact ⟨v,by rw [hbe]; exact hv⟩
   . refine (ok b u q).stay (fun c v hc r=>k c v ?_ r) (fun c r=>by rw [ai (nown c b r)]; exact r) fun c xs r=>by rw [ai (ntup c xs r)]; exact r
     rcases hc with rfl | hc
     . exact hbe
     . rintro rfl
       rcases he with z | z
       . exact nown c b hc z
       . rw [hc] at z; cases z; exact hb rfl
end
structure Un (fs ex:List Addr) (H H':Hp) (h h':Heap):Prop where
 keep:∀ b o,h.get? b=some o->H b=none->b∉fs->b∉ex->h'.get? b=some o
 slot:∀ b o,h.get? b=some o->H b=none->b∈fs->b∉ex->∃ sl,h'.get? b=some { o with slots:=sl }
 free:∀ b o,h.get? b=some o->H b=none->b∉ex->H' b=none
 there:∀ b o,h.get? b=some o->b∉ex->∃ o',h'.get? b=some o'
 tups:∀ b xs,H b=some (.tup xs)->H' b=some (.tup xs)
 frzs:∀ b o u,H b=some (.frz o u)->H' b=some (.frz o u)
 tbls:∀ b ps,H b=some (.tbl ps)->∃ more,H' b=some (.tbl (ps++more))
section
variable {fs fs' ex ex':List Addr} {H H1 H2:Hp} {h h1 h2 h':Heap} {a x e:Addr} {o:HO}
theorem Un.any (u:Un fs ex H H1 h h1) {b:Addr} {ob:Obj} (q:h.get? b=some ob) (n:H b=none) (hx:b∉ex):∃ sl,h1.get? b=some { ob with slots:=sl }:=by
 by_cases hb:b∈fs
 . exact u.slot b ob q n hb hx
 . exact ⟨ob.slots,u.keep b ob q n hb hx⟩
theorem Un.kept (k:∀ b u,h.get? b=some u->h'.get? b=some u):Un fs ex H H h h':=
 ⟨fun b ob q _ _ _=>k b ob q,fun b ob q _ _ _=>⟨ob.slots,k b ob q⟩,fun _ _ _ n _=>n,fun b ob q _=>⟨ob,k b ob q⟩,fun _ _ q=>q,fun _ _ _ q=>q,fun _ ps q=>⟨#[],by rw [q]; simp⟩⟩
theorem Un.refl:Un fs ex H H h h:=Un.kept fun _ _ q=>q
theorem Un.laid (k:∀ b u,h.get? b=some u->h'.get? b=some u) (hp:h.objs.size<=a) (hn:H a=none):Un fs ex H (upd H a o) h h' where
 keep:=fun b u q _ _ _=>k b u q
 slot:=fun b u q _ _ _=>⟨u.slots,k b u q⟩
 free:=fun b u q n _=>by rw [ai (Nat.ne_of_lt (Nat.lt_of_lt_of_le (Heap.lt_size q) hp))]; exact n
 there:=fun b u q _=>⟨u,k b u q⟩
 tups:=fun b xs q=>by rw [ai (aC q hn)]; exact q
 frzs:=fun b u xs q=>by rw [ai (aC q hn)]; exact q
 tbls:=fun b ps q=>⟨#[],by rw [ai (aC q hn),q]; simp⟩
theorem Un.write (mu:Mut (H x)) (he:e=x\/H e=some (.own x)) (k:∀ b u,b≠e->h.get? b=some u->h'.get? b=some u) (heo:∃ u,h'.get? e=some u):Un fs ex H (upd H x o) h h':=by
 have hx:∀ b,H b=none->b≠x:=fun b n z=>by subst z; rw [n] at mu; exact mu
 have hb:∀ b,H b=none->b≠e:=fun b n z=>by
  subst z
  rcases he with r | r
  . exact hx b n r
  . rw [n] at r; cases r
 have hm:∀ b u,H b=some u->¬ Mut (some u)->b≠x:=fun b u q nm z=>by subst z; rw [q] at mu; exact nm mu
 refine ⟨fun b u q n _ _=>k b u (hb b n) q,fun b u q n _ _=>⟨u.slots,k b u (hb b n) q⟩,fun b u q n _=>by rw [ai (hx b n)]; exact n,fun b u q _=>?_,
  fun b xs q=>by rw [ai (hm b _ q fun z=>z)]; exact q,fun b u xs q=>by rw [ai (hm b _ q fun z=>z)]; exact q,fun b ps q=>⟨#[],by rw [ai (hm b _ q fun z=>z),q]; simp⟩⟩
 by_cases hbe:b=e
 . subst hbe; exact heo
 . exact ⟨u,k b u hbe q⟩
end
def trk (h:Heap) (H:Hp):List Addr:=(List.range h.objs.size).filter fun a=>(H a).isSome
def hidT (h:Heap) (H:Hp):Heap:=PySem.W.hideAll h (trk h H)
theorem xb (h:Heap) (H:Hp):(hidT h H).objs.size=h.objs.size:=PySem.W.hideAll_size _ _
theorem yL {h:Heap} {H:Hp} {b:Addr} {o:Obj} (e:h.get? b=some o) (n:H b=none):(hidT h H).get? b=some o:=
 PySem.W.hideAll_get _ e fun hm=>by
  have q:(H b).isSome=true:=(List.mem_filter.mp hm).2
  rw [n] at q; simp at q
theorem zG {h:Heap} {H:Hp} {b:Addr} {o:Obj} (e:(hidT h H).get? b=some o):h.get? b=some o/\H b=none:=by
 have e':h.get? b=some o:=PySem.W.of_hideAll (trk h H) e
 refine ⟨e',?_⟩
 cases q:H b with
 | none=>rfl
 | some x=>
  have hm:b∈trk h H:=List.mem_filter.mpr ⟨List.mem_range.mpr (Heap.lt_size e'),by simp [q]⟩
  have z:(hidT h H).get? b=none:=PySem.W.hideAll_none (trk h H) hm
  rw [z] at e; cases e
end L2
namespace L2
open PySem PySem.Spec PyProof.Rows
structure Mod (K:Frag) (mg:Str->Option Value) (base:Heap):Prop where
 kin:K.In base
 glob:base.Ns mainGlobals mg
 blt:∃ mb,base.Ns builtinsNs mb/\∀ x:Str,x≠"__name__"->mb x=bootBuiltins x
 nolimit:base.NoLimit
structure Cx where
 prog:Program
 w:World
 K:Frag
 mg:Str->Option Value
 base:Heap
 A:Around
 N:List Str
 s₀:Shared
 H₀:Hp
 env:Env
 outer:List Env
 stack:List Env
 ex:List Addr
 fn:Str->Bool
 calm:Bool
 pn:List (Addr × Obj)
 xe:Value->Shared->Prop
def frs (l:List Env):List Addr:=l.filterMap (·.frame)
abbrev Cx.fs (X:Cx):List Addr:=frs X.outer
def Vis (sc:Scope) (x:Str):Prop:=sc.names.lookup x=some .local\/sc.names.lookup x=some .cell\/sc.names.lookup x=some .free
def Loc (sc:Scope) (x:Str):Prop:=sc.names.lookup x=some .local\/sc.names.lookup x=some .cell
def Look (env:Env) (h:Heap) (m:Str->Option Value) (x:Str) (u:Value):Prop:=
 (env.kindOf x=some .local/\m x=some u)\/((env.kindOf x=some .cell\/env.kindOf x=some .free)/\∃ c,env.cells.lookup x=some c/\h.IsCell c (some u))
structure Cx.Ok (X:Cx):Prop where
 mod:Mod X.K X.mg X.base
 kind:X.env.scope.kind=.function
 glob:X.env.globals=mainGlobals
 blt:X.env.builtins=builtinsNs
 above:X.s₀.heap.objs.size<=X.env.locals
 inj:∀ x y c,X.env.cells.lookup x=some c->X.env.cells.lookup y=some c->x=y
 has:∀ x,(X.env.kindOf x=some .cell\/X.env.kindOf x=some .free)->∃ c,X.env.cells.lookup x=some c
 cab:∀ x c,X.fn x=true->X.env.cells.lookup x=some c->X.s₀.heap.objs.size<=c
 hd:X.calm=true->X.A.handled=none
 frames:X.A.frames=some X.stack
 stk:X.stack=X.outer\/(X.stack=X.env::X.outer/\X.env.frame=some X.env.locals)
 exf:∀ b∈X.ex,b≠X.env.locals/\∀ x c,X.env.cells.lookup x=some c->c≠b
 bs:∀ b o,X.base.get? b=some o->X.s₀.heap.get? b=some o/\X.H₀ b=none
 bsz:X.base.objs.size<=X.s₀.heap.objs.size
 noex:∀ b o,X.base.get? b=some o->b∉X.ex
 exfs:∀ b∈X.ex,b∉X.fs
 funs:X.s₀.heap.FunFrames X.base X.outer
 frf:∀ b∈X.fs,X.H₀ b=none
structure Inv (X:Cx) (pins:List (Addr × Obj)) (σ:List (Option V)) (H:Hp) (s:Shared):Prop where
 ok:X.Ok
 os:s.os=X.s₀.os
 bare:AllBare s.gens
 base:Un X.fs X.ex X.H₀ H X.s₀.heap s.heap
 loc:∃ m,s.heap.Ns X.env.locals m/\∀ (i:Nat) (x:Str) (v:V),X.N[i]? =some x->σ[i]? =some (some v)->Vis X.env.scope x->∃ u,RelV v u/\Look X.env s.heap m x u
 cell:∀ x c,X.env.cells.lookup x=some c->∃ v,s.heap.IsCell c v
 free:H X.env.locals=none
 freeC:∀ x c,X.env.cells.lookup x=some c->H c=none
 pin:∀ p∈X.pn++pins,s.heap.get? p.1=some p.2/\H p.1=none/\p.1≠X.env.locals/\p.1∉X.fs/\∀ v,p.2.data≠.cell v
 hok:HOk X.prog X.w H s.heap
 len:σ.length=X.N.length
section
variable {X:Cx} {pins:List (Addr × Obj)} {σ:List (Option V)} {H H':Hp} {s:Shared} {h':Heap}
theorem Cx.Ok.nofr (ok:X.Ok) {b:Addr} {o:Obj} (e:X.base.get? b=some o):b∉X.fs:=fun hb=>by
 have:=(ok.funs.mem hb).1
 rw [e] at this; cases this
theorem Inv.bs (I:Inv X pins σ H s):∀ b o,X.base.get? b=some o->s.heap.get? b=some o/\H b=none:=fun b o e=>
 ⟨I.base.keep b o (I.ok.bs b o e).1 (I.ok.bs b o e).2 (I.ok.nofr e) (I.ok.noex b o e),I.base.free b o (I.ok.bs b o e).1 (I.ok.bs b o e).2 (I.ok.noex b o e)⟩
theorem Inv.bk (I:Inv X pins σ H s):∀ b o,X.base.get? b=some o->s.heap.get? b=some o:=fun b o e=>(I.bs b o e).1
theorem Inv.mod (I:Inv X pins σ H s):Mod X.K X.mg X.base:=I.ok.mod
theorem Inv.kIn (I:Inv X pins σ H s):X.K.In s.heap:=I.ok.mod.kin.keeps I.bk
theorem Inv.lt (I:Inv X pins σ H s):X.env.locals<s.heap.objs.size:=let ⟨_,hn,_⟩:=I.loc; hn.lt
theorem Inv.sz (I:Inv X pins σ H s):X.s₀.heap.objs.size<=s.heap.objs.size:=Nat.le_trans I.ok.above (Nat.le_of_lt I.lt)
theorem Inv.nofs (I:Inv X pins σ H s) {a:Addr} (h:s.heap.objs.size<=a):a∉X.fs:=fun hb=>by
 obtain ⟨_,o,ho,_⟩:=I.ok.funs.mem hb
 exact absurd (Nat.lt_of_lt_of_le (Heap.lt_size ho) (Nat.le_trans I.sz h)) (Nat.lt_irrefl _)
theorem Inv.cne (I:Inv X pins σ H s):∀ x c,X.env.cells.lookup x=some c->c≠X.env.locals:=fun x c e z=>by
 obtain ⟨v,o,ho,hd⟩:=I.cell x c e
 obtain ⟨m,⟨o',es,ep,ho',hd',_⟩,_⟩:=I.loc
 rw [z,ho'] at ho; cases ho; rw [hd'] at hd; cases hd
theorem Inv.funs (I:Inv X pins σ H s):s.heap.FunFrames X.base X.outer:=by
 have all:∀ (l:List Env),(∀ b∈frs l,b∈X.fs)->X.s₀.heap.FunFrames X.base l->s.heap.FunFrames X.base l:=by
  intro l
  induction l with
  | nil=>intro _ _; trivial
  | cons env r ih=>
   intro hs hl
   obtain ⟨hk,⟨L,o,hf,hn,ho,hd⟩,hr⟩:=hl
   have hL:L∈X.fs:=hs L (by unfold frs; rw [List.filterMap_cons,hf]; exact List.mem_cons_self)
   obtain ⟨sl,e⟩:=I.base.slot L o ho (I.ok.frf L hL) hL fun z=>I.ok.exfs L z hL
   exact ⟨hk,⟨L,_,hf,hn,e,hd⟩,ih (fun b hb=>hs b (by unfold frs; rw [List.filterMap_cons,hf]; exact List.mem_cons_of_mem _ hb)) hr⟩
 exact all X.outer (fun _ hb=>hb) I.ok.funs
theorem Inv.stack (I:Inv X pins σ H s):s.heap.FunFrames X.base X.stack:=by
 rcases I.ok.stk with e | ⟨e,hf⟩
 . rw [e]; exact I.funs
 . rw [e]
   obtain ⟨m,hn,_⟩:=I.loc
   refine .cons (by rw [I.ok.kind]; decide) hf hn ?_ I.funs
   exact Heap.get?_none_of_le (Nat.le_trans I.ok.bsz I.ok.above)
theorem Inv.stkSub (I:Inv X pins σ H s):∀ b∈frs X.stack,b∈X.env.locals::X.fs:=fun b hb=>by
 rcases I.ok.stk with e | ⟨e,hf⟩
 . rw [e] at hb; exact List.mem_cons_of_mem _ hb
 . rw [e] at hb
   unfold frs at hb
   rw [List.filterMap_cons,hf] at hb
   exact hb
theorem Inv.stkFree (I:Inv X pins σ H s):∀ b∈frs X.stack,H b=none:=fun b hb=>by
 rcases List.mem_cons.mp (I.stkSub b hb) with e | hb
 . rw [e]; exact I.free
 . obtain ⟨_,o,ho,_⟩:=I.ok.funs.mem hb
   exact I.base.free b o ho (I.ok.frf b hb) fun z=>I.ok.exfs b z hb
theorem Inv.step {g':Array GenState} {t':Nat} {d':Drawn} {ch:List Addr} (I:Inv X pins σ H s)
  (hch:∀ b∈ch,(b∈X.ex\/X.s₀.heap.objs.size<=b)/\b≠X.env.locals/\(∀ x c,X.env.cells.lookup x=some c->c≠b)/\∀ p∈X.pn++pins,p.1≠b)
  (keep:∀ b o,b≠X.env.locals->b∉X.fs->b∉ch->s.heap.get? b=some o->H b=none->h'.get? b=some o)
  (slot:∀ b o,b≠X.env.locals->b∈X.fs->b∉ch->s.heap.get? b=some o->H b=none->∃ sl,h'.get? b=some { o with slots:=sl }) (free:∀ b o,b∉ch->s.heap.get? b=some o->H b=none->H' b=none)
  (there:∀ b o,b∉ch->s.heap.get? b=some o->∃ o',h'.get? b=some o')
  (tups:∀ b xs,H b=some (.tup xs)->H' b=some (.tup xs)) (frzs:∀ b o u,H b=some (.frz o u)->H' b=some (.frz o u)) (tbls:∀ b ps,H b=some (.tbl ps)->∃ more,H' b=some (.tbl (ps++more)))
  (ns:∀ m,s.heap.Ns X.env.locals m->h'.Ns X.env.locals m) (hok:HOk X.prog X.w H' h') (hg:AllBare g'):
  Inv X pins σ H' { s with heap:=h',gens:=g',drawn:=d',toks:=t' }:=by
 have neL:∀ b o,X.s₀.heap.get? b=some o->b≠X.env.locals:=fun b o e=>Nat.ne_of_lt (Nat.lt_of_lt_of_le (Heap.lt_size e) I.ok.above)
 have neC:∀ b o,X.s₀.heap.get? b=some o->b∉X.ex->b∉ch:=fun b o e hx hb=>by
  rcases (hch b hb).1 with z | z
  . exact hx z
  . exact absurd (Nat.lt_of_lt_of_le (Heap.lt_size e) z) (Nat.lt_irrefl _)
 have cellK:∀ x c,X.env.cells.lookup x=some c->∀ v,s.heap.IsCell c v->h'.IsCell c v:=fun x c e v ⟨o,ho,hd⟩=>by
  have nch:c∉ch:=fun z=>(hch c z).2.2.1 x c e rfl
  by_cases hc:c∈X.fs
  . obtain ⟨sl,q⟩:=slot c o (I.cne x c e) hc nch ho (I.freeC x c e)
    exact ⟨_,q,hd⟩
  . exact ⟨o,keep c o (I.cne x c e) hc nch ho (I.freeC x c e),hd⟩
 refine ⟨I.ok,I.os,hg,⟨fun b o e n hb hx=>?_,fun b o e n hb hx=>?_,fun b o e n hx=>?_,fun b o e hx=>?_,fun b xs e=>tups b xs (I.base.tups b xs e),fun b o xs e=>frzs b o xs (I.base.frzs b o xs e),fun b ps e=>?_⟩,?_,fun x c e=>?_,?_,fun x c e=>?_,fun p hp=>?_,hok,I.len⟩
 . exact keep b o (neL b o e) hb (neC b o e hx) (I.base.keep b o e n hb hx) (I.base.free b o e n hx)
 . obtain ⟨sl,e1⟩:=I.base.slot b o e n hb hx
   obtain ⟨sl',e2⟩:=slot b _ (neL b o e) hb (neC b o e hx) e1 (I.base.free b o e n hx)
   exact ⟨sl',e2⟩
 . obtain ⟨o',e1⟩:=I.base.there b o e hx
   exact free b o' (neC b o e hx) e1 (I.base.free b o e n hx)
 . obtain ⟨o',e1⟩:=I.base.there b o e hx
   exact there b o' (neC b o e hx) e1
 . obtain ⟨m1,e1⟩:=I.base.tbls b ps e
   obtain ⟨m2,e2⟩:=tbls b _ e1
   exact ⟨m1++m2,by rw [e2,Array.append_assoc]⟩
 . obtain ⟨m,hn,hl⟩:=I.loc
   refine ⟨m,ns m hn,fun i x v e1 e2 e3=>?_⟩
   obtain ⟨u,r,l⟩:=hl i x v e1 e2 e3
   refine ⟨u,r,?_⟩
   rcases l with l | ⟨k,c,e,z⟩
   . exact .inl l
   . exact .inr ⟨k,c,e,cellK x c e _ z⟩
 . obtain ⟨v,z⟩:=I.cell x c e
   exact ⟨v,cellK x c e v z⟩
 . obtain ⟨m,⟨o,_,_,ho,_⟩,_⟩:=I.loc
   exact free _ o (fun z=>(hch _ z).2.1 rfl) ho I.free
 . obtain ⟨v,o,ho,hd⟩:=I.cell x c e
   exact free c o (fun z=>(hch c z).2.2.1 x c e rfl) ho (I.freeC x c e)
 . obtain ⟨e,n,ne,nf,d⟩:=I.pin p hp
   have nch:p.1∉ch:=fun z=>(hch p.1 z).2.2.2 p hp rfl
   exact ⟨keep p.1 p.2 ne nf nch e n,free p.1 p.2 nch e n,ne,nf,d⟩
theorem Inv.un {t':Nat} (I:Inv X pins σ H s) (u:Un X.fs [] H H' s.heap h') (hok:HOk X.prog X.w H' h'):Inv X pins σ H' { s with heap:=h',toks:=t' }:=by
 obtain ⟨m,⟨o,es,ep,ho,r⟩,_⟩:=id I.loc
 obtain ⟨sl,hL⟩:=u.any ho I.free (by simp)
 exact I.step (g':=s.gens) (d':=s.drawn) (ch:=[]) (fun _ z=>nomatch z) (fun b o _ hb _ e n=>u.keep b o e n hb (by simp)) (fun b o _ hb _ e n=>u.slot b o e n hb (by simp)) (fun b o _ e n=>u.free b o e n (by simp)) (fun b o _ e=>u.there b o e (by simp)) u.tups u.frzs u.tbls (fun m' hm=>by
  obtain ⟨o',es',ep',ho',r'⟩:=hm
  rw [ho] at ho'; cases ho'
  exact ⟨_,es',ep',hL,r'⟩) hok I.bare
theorem Inv.call {g':Array GenState} {t':Nat} {d':Drawn} {ch:List Addr} (I:Inv X pins σ H s) (u:Un (frs X.stack) ch H H' s.heap h') (hok:HOk X.prog X.w H' h') (hg:AllBare g')
  (hch:∀ b∈ch,(b∈X.ex\/X.s₀.heap.objs.size<=b)/\b≠X.env.locals/\(∀ x c,X.env.cells.lookup x=some c->c≠b)/\∀ p∈X.pn++pins,p.1≠b):
  Inv X pins σ H' { s with heap:=h',gens:=g',drawn:=d',toks:=t' }:=by
 obtain ⟨m,⟨o,es,ep,ho,r⟩,_⟩:=id I.loc
 obtain ⟨sl,hL⟩:=u.any ho I.free fun z=>(hch _ z).2.1 rfl
 exact I.step (ch:=ch) hch (fun b o hL hb hc e n=>u.keep b o e n (fun z=>(List.mem_cons.mp (I.stkSub b z)).elim hL hb) hc) (fun b o _ _ hc e n=>u.any e n hc) (fun b o hc e n=>u.free b o e n hc) (fun b o hc e=>u.there b o e hc) u.tups u.frzs u.tbls (fun m' hm=>by
  obtain ⟨o',es',ep',ho',r'⟩:=hm
  rw [ho] at ho'; cases ho'
  exact ⟨_,es',ep',hL,r'⟩) hok hg
theorem Inv.turned {t':Nat} {it:Addr} (I:Inv X pins σ H s) (k:∀ b o,b≠it->s.heap.get? b=some o->h'.get? b=some o) (hn:H it=none) (hL:it≠X.env.locals)
  (h1:it∈X.ex\/X.s₀.heap.objs.size<=it) (h2:∀ x c,X.env.cells.lookup x=some c->c≠it) (h3:∀ p∈X.pn++pins,p.1≠it):Inv X pins σ H { s with heap:=h',toks:=t' }:=by
 have nit:∀ b u,H b=some u->b≠it:=fun b u e z=>by rw [z,hn] at e; cases e
 refine I.step (g':=s.gens) (d':=s.drawn) (ch:=[it]) (fun b hb=>?_) (fun b o _ _ hc e _=>k b o (fun z=>hc (by simp [z])) e) (fun b o _ _ hc e _=>⟨o.slots,k b o (fun z=>hc (by simp [z])) e⟩) (fun _ _ _ _ n=>n)
  (fun b o hc e=>⟨o,k b o (fun z=>hc (by simp [z])) e⟩) (fun _ _ e=>e) (fun _ _ _ e=>e) (fun b ps e=>⟨#[],by rw [e]; simp⟩) (fun m hm=>?_) (fun b u e=>?_) I.bare
 . have e:b=it:=by simpa using hb
   subst e
   exact ⟨h1,hL,h2,h3⟩
 . obtain ⟨o,es,ep,ho,r⟩:=hm
   exact ⟨o,es,ep,k _ o (Ne.symm hL) ho,r⟩
 . refine (I.hok b u e).stay (fun c v hc q=>k c v ?_ q) (fun _ q=>q) fun _ _ q=>q
   rcases hc with z | z
   . rw [z]; exact nit b u e
   . exact nit c _ z
theorem Inv.tok (I:Inv X pins σ H s) (t:Nat):Inv X pins σ H { s with toks:=t }:=I.un (h':=s.heap) (t':=t) Un.refl I.hok
theorem Inv.kept {t':Nat} (I:Inv X pins σ H s) (k:∀ b u,s.heap.get? b=some u->h'.get? b=some u):Inv X pins σ H { s with heap:=h',toks:=t' }:=I.un (Un.kept k) (I.hok.kept k)
theorem Inv.laid {a:Addr} {o:HO} {t':Nat} (I:Inv X pins σ H s) (k:∀ b u,s.heap.get? b=some u->h'.get? b=some u) (hp:s.heap.objs.size<=a) (new:ObjOk X.prog X.w (upd H a o) h' a o):
  Inv X pins σ (upd H a o) { s with heap:=h',toks:=t' }:=I.un (Un.laid k hp (I.hok.fresh hp)) (I.hok.laid k hp new)
theorem Inv.write {x e:Addr} {o:HO} {t':Nat} (I:Inv X pins σ H s) (mu:Mut (H x)) (he:e=x\/H e=some (.own x)) (k:∀ b u,b≠e->s.heap.get? b=some u->h'.get? b=some u) (heo:∃ u,h'.get? e=some u)
  (new:ObjOk X.prog X.w (upd H x o) h' x o):Inv X pins σ (upd H x o) { s with heap:=h',toks:=t' }:=I.un (Un.write mu he k heo) (I.hok.write mu he k heo new)
theorem Inv.pins_of {pins':List (Addr × Obj)} (I:Inv X pins σ H s) (h:∀ p∈pins',s.heap.get? p.1=some p.2/\H p.1=none/\p.1≠X.env.locals/\p.1∉X.fs/\∀ v,p.2.data≠.cell v):Inv X pins' σ H s:=
 ⟨I.ok,I.os,I.bare,I.base,I.loc,I.cell,I.free,I.freeC,fun p hp=>(List.mem_append.mp hp).elim (fun z=>I.pin p (List.mem_append_left _ z)) (h p),I.hok,I.len⟩
theorem tq {N:List Str} (hN:N.Nodup) {i j:Nat} {x:Str} (a:N[i]? =some x) (b:N[j]? =some x):i=j:=by
 obtain ⟨h1,e1⟩:=List.getElem?_eq_some_iff.mp a
 obtain ⟨h2,e2⟩:=List.getElem?_eq_some_iff.mp b
 exact (List.getElem_inj hN).mp (e1.trans e2.symm)
theorem rF {M:Model} {A:Around} {E:Value->Shared->Prop} {i:Nat} {x:Str} {v:V} {u:Value} {Q:Unit->Shared->Prop} (I:Inv X pins σ H s) (hN:X.N.Nodup) (hi:X.N[i]? =some x) (hx:Loc X.env.scope x) (r:RelV v u)
  (h:∀ s',Inv X pins (σ.set i (some v)) H s'->(∃ a,Heap.SameBut a s.heap s'.heap/\(a=X.env.locals\/X.env.cells.lookup x=some a))->Q () s') (hf:X.fn x=true\/X.env.scope.names.lookup x=some .local:=by first | exact .inl rfl | exact .inr rfl | assumption):wpAny M A (storeName X.env x u) Q E s:=by
 obtain ⟨m,hn,hl⟩:=id I.loc
 have hcls:(X.env.scope.kind==.class||(X.env.scope.kind==.module&&X.env.locals != X.env.globals))=false:=by rw [I.ok.kind]; rfl
 have hiσ:i<σ.length:=by rw [I.len]; exact (List.getElem?_eq_some_iff.mp hi).1
 have cne:=I.cne
 have tracked:∀ {a:Addr} {h':Heap},(∃ o,s.heap.get? a=some o/\H a=none)->Heap.SameBut a s.heap h'->HOk X.prog X.w H h':=fun {a h'} ha hs b ob e=>by
  obtain ⟨_,_,hfree⟩:=ha
  refine (I.hok b ob e).stay (fun c w' hc q=>(hs.2 c ?_).trans q) (fun _ q=>q) fun _ _ q=>q
  rintro rfl
  rcases hc with rfl | hc
  . rw [hfree] at e; cases e
  . rw [hfree] at hc; cases hc
 rcases hx with hk | hk
 . refine wpAny_storeName_local hk hn (fun h' hn' hs=>?_) hcls
   obtain ⟨oL,_,_,hoL,_⟩:=id hn
   refine h _ ⟨I.ok,I.os,I.bare,⟨fun b o e n hb hx=>?_,fun b o e n hb hx=>?_,I.base.free,fun b o e hx=>?_,I.base.tups,I.base.frzs,I.base.tbls⟩,⟨_,hn',fun j y v' e1 e2 e3=>?_⟩,fun y c e=>?_,I.free,I.freeC,fun p hp=>?_,tracked ⟨oL,hoL,I.free⟩ hs,by simpa using I.len⟩ ⟨_,hs,.inl rfl⟩
   . exact (hs.2 b (Nat.ne_of_lt (Nat.lt_of_lt_of_le (Heap.lt_size e) I.ok.above))).trans (I.base.keep b o e n hb hx)
   . obtain ⟨sl,e1⟩:=I.base.slot b o e n hb hx
     exact ⟨sl,(hs.2 b (Nat.ne_of_lt (Nat.lt_of_lt_of_le (Heap.lt_size e) I.ok.above))).trans e1⟩
   . obtain ⟨o',e1⟩:=I.base.there b o e hx
     exact ⟨o',(hs.2 b (Nat.ne_of_lt (Nat.lt_of_lt_of_le (Heap.lt_size e) I.ok.above))).trans e1⟩
   . by_cases hj:j=i
     . subst hj
       rw [hi] at e1; cases e1
       rw [List.getElem?_set_self hiσ] at e2
       cases e2
       exact ⟨u,r,.inl ⟨hk,by simp⟩⟩
     . rw [List.getElem?_set_ne (Ne.symm hj)] at e2
       obtain ⟨u',r',q⟩:=hl j y v' e1 e2 e3
       refine ⟨u',r',?_⟩
       rcases q with ⟨k,e⟩ | ⟨k,c,e,z⟩
       . refine .inl ⟨k,?_⟩
         have:y≠x:=fun e=>hj (tq hN e1 (e ▸ hi))
         simp [this,e]
       . exact .inr ⟨k,c,e,z.sameBut hs (cne y c e)⟩
   . obtain ⟨w',z⟩:=I.cell y c e
     exact ⟨w',z.sameBut hs (cne y c e)⟩
   . obtain ⟨e,n,ne,nf,d⟩:=I.pin p hp
     exact ⟨(hs.2 p.1 ne).trans e,n,ne,nf,d⟩
 . have hfn:X.fn x=true:=by
    rcases hf with z | z
    . exact z
    . rw [z] at hk; cases hk
   obtain ⟨c,hc⟩:=I.ok.has x (.inl hk)
   obtain ⟨w',z⟩:=I.cell x c hc
   refine wpAny_storeName_cell I.ok.kind hk hc z (fun h' hc' hs=>?_)
   obtain ⟨oc,hoc,hocd⟩:=id z
   refine h { s with heap:=h' } ⟨I.ok,I.os,I.bare,⟨fun b o e n hb hx=>?_,fun b o e n hb hx=>?_,I.base.free,fun b o e hx=>?_,I.base.tups,I.base.frzs,I.base.tbls⟩,⟨m,hn.sameBut hs (Ne.symm (cne x c hc)),fun j y v' e1 e2 e3=>?_⟩,fun y c' e=>?_,I.free,I.freeC,fun p hp=>?_,tracked ⟨oc,hoc,I.freeC x c hc⟩ hs,by simpa using I.len⟩ ⟨c,hs,.inr hc⟩
   . exact (hs.2 b (Nat.ne_of_lt (Nat.lt_of_lt_of_le (Heap.lt_size e) (I.ok.cab x c hfn hc)))).trans (I.base.keep b o e n hb hx)
   . obtain ⟨sl,e1⟩:=I.base.slot b o e n hb hx
     exact ⟨sl,(hs.2 b (Nat.ne_of_lt (Nat.lt_of_lt_of_le (Heap.lt_size e) (I.ok.cab x c hfn hc)))).trans e1⟩
   . obtain ⟨o',e1⟩:=I.base.there b o e hx
     exact ⟨o',(hs.2 b (Nat.ne_of_lt (Nat.lt_of_lt_of_le (Heap.lt_size e) (I.ok.cab x c hfn hc)))).trans e1⟩
   . by_cases hj:j=i
     . subst hj
       rw [hi] at e1; cases e1
       rw [List.getElem?_set_self hiσ] at e2
       cases e2
       exact ⟨u,r,.inr ⟨.inl hk,c,hc,hc'⟩⟩
     . rw [List.getElem?_set_ne (Ne.symm hj)] at e2
       obtain ⟨u',r',q⟩:=hl j y v' e1 e2 e3
       refine ⟨u',r',?_⟩
       rcases q with q | ⟨k,c',e,z'⟩
       . exact .inl q
       . refine .inr ⟨k,c',e,z'.sameBut hs ?_⟩
         rintro rfl
         exact hj (tq hN e1 (I.ok.inj _ _ _ e hc ▸ hi))
   . by_cases hcc:c'=c
     . subst hcc; exact ⟨_,hc'⟩
     . obtain ⟨w2,z2⟩:=I.cell y c' e
       exact ⟨w2,z2.sameBut hs hcc⟩
   . obtain ⟨e,n,ne,nf,d⟩:=I.pin p hp
     refine ⟨(hs.2 p.1 ?_).trans e,n,ne,nf,d⟩
     intro q
     rw [q,hoc] at e
     have q':oc=p.2:=Option.some.inj e
     exact d w' (by rw [← q']; exact hocd)
theorem tu {M:Model} {A:Around} {E:Value->Shared->Prop} {i:Nat} {x:Str} {v:V} {u:Value} {Q:Unit->Shared->Prop} (I:Inv X pins σ H s) (hN:X.N.Nodup) (hi:X.N[i]? =some x) (hx:Loc X.env.scope x) (r:RelV v u)
  (h:∀ s',Inv X pins (σ.set i (some v)) H s'->Q () s') (hf:X.fn x=true\/X.env.scope.names.lookup x=some .local:=by first | exact .inl rfl | exact .inr rfl | assumption):wpAny M A (storeName X.env x u) Q E s:=
 rF I hN hi hx r (fun s' I' _=>h s' I') hf
theorem Inv.call' {s':Shared} {ch:List Addr} (I:Inv X pins σ H s) (ho:s'.os=s.os) (u:Un (frs X.stack) ch H H' s.heap s'.heap) (hok:HOk X.prog X.w H' s'.heap) (hg:AllBare s'.gens)
  (hch:∀ b∈ch,(b∈X.ex\/X.s₀.heap.objs.size<=b)/\b≠X.env.locals/\(∀ x c,X.env.cells.lookup x=some c->c≠b)/\∀ p∈X.pn++pins,p.1≠b):Inv X pins σ H' s':=by
 obtain ⟨h',g',d',t',o'⟩:=s'
 have e:o'=s.os:=ho
 subst e
 exact I.call (g':=g') (t':=t') (d':=d') u hok hg hch
end
abbrev XK:=Value->Option Addr->Hp->Prop
abbrev St:=List (Option V)
abbrev VK:=V->Hp->Prop
abbrev TE:=St->Hp->VK->Prop
abbrev TT:=St->Hp->(Bool->Hp->Prop)->Prop
abbrev TA:=St->Hp->(List V->Hp->Prop)->Prop
structure Ends where
 nx:St->Hp->Prop
 rt:VK
 bk:St->Hp->Prop:=fun _ _=>False
 ct:St->Hp->Prop:=fun _ _=>False
abbrev TS:=Ends->St->Hp->Prop
def EP (X:Cx) (pins:List (Addr × Obj)) (σ:St) (Q:VK) (u:Value) (s':Shared):Prop:=∃ v H',Inv X pins σ H' s'/\RelV v u/\Q v H'
def TP (X:Cx) (pins:List (Addr × Obj)) (σ:St) (Q:Bool->Hp->Prop) (b:Bool) (s':Shared):Prop:=∃ H',Inv X pins σ H' s'/\Q b H'
def AP (X:Cx) (pins:List (Addr × Obj)) (σ:St) (Q:List V->Hp->Prop) (us:List Value) (s':Shared):Prop:=∃ vs H',Inv X pins σ H' s'/\Vals vs us/\Q vs H'
def SP (X:Cx) (pins:List (Addr × Obj)) (D:Ends) (f:Flow) (s':Shared):Prop:=
 match f with
 | .next=>∃ σ' H',Inv X pins σ' H' s'/\D.nx σ' H'
 | .brk=>∃ σ' H',Inv X pins σ' H' s'/\D.bk σ' H'
 | .cont=>∃ σ' H',Inv X pins σ' H' s'/\D.ct σ' H'
 | .ret u=>∃ v σ' H',Inv X pins σ' H' s'/\RelV v u/\D.rt v H'
def PE (X:Cx) (e:Expr) (t:TE):Prop:=
 ∀ (pins:List (Addr × Obj)) (s:Shared) (σ:St) (H:Hp) (Q:VK),Inv X pins σ H s->t σ H Q->wpAny (model X.prog X.w) X.A (eval e X.env) (EP X pins σ Q) X.xe s
def PT (X:Cx) (e:Expr) (t:TT):Prop:=
 ∀ (pins:List (Addr × Obj)) (s:Shared) (σ:St) (H:Hp) (Q:Bool->Hp->Prop),Inv X pins σ H s->t σ H Q->wpAny (model X.prog X.w) X.A (isTrue e X.env (eval e X.env)) (TP X pins σ Q) X.xe s
def PW (X:Cx) (e:Expr) (t:TT):Prop:=
 ∀ (whole:Sem Value) (pins:List (Addr × Obj)) (s:Shared) (σ:St) (H:Hp) (Q:Bool->Hp->Prop),Inv X pins σ H s->t σ H Q->wpAny (model X.prog X.w) X.A (isTrue e X.env whole) (TP X pins σ Q) X.xe s
theorem PW.pt {X:Cx} {e:Expr} {t:TT} (h:PW X e t):PT X e t:=h _
def PA (X:Cx) (es:List Expr) (t:TA):Prop:=
 ∀ (pos:Pos) (pins:List (Addr × Obj)) (s:Shared) (σ:St) (H:Hp) (Q:List V->Hp->Prop),Inv X pins σ H s->t σ H Q->wpAny (model X.prog X.w) X.A (spliced (backTo pos (starEach es X.env))) (AP X pins σ Q) X.xe s
def PS (X:Cx) (st:Stmt) (t:TS):Prop:=
 ∀ (pins:List (Addr × Obj)) (s:Shared) (σ:St) (H:Hp) (D:Ends),Inv X pins σ H s->t D σ H->wpAny (model X.prog X.w) X.A (exec st X.env) (SP X pins D) X.xe s
def PSs (X:Cx) (st:List Stmt) (t:TS):Prop:=
 ∀ (pins:List (Addr × Obj)) (s:Shared) (σ:St) (H:Hp) (D:Ends),Inv X pins σ H s->t D σ H->wpAny (model X.prog X.w) X.A (execs st X.env) (SP X pins D) X.xe s
theorem thn {α:Type} {t:Sem α} {Q Q':α->Shared->Prop} {M:Model} {A:Around} {E:Value->Shared->Prop} {s:Shared} (h:wpAny M A t Q E s) (hQ:∀ a s,Q a s->Q' a s):wpAny M A t Q' E s:=wpAny_mono h hQ fun _ _ x=>x
end L2
namespace L2
open PySem PySem.Spec PyProof.Rows
section
variable {X:Cx}
def tVar (i:Nat):TE:=fun σ H Q=>∃ v,σ[i]? =some (some v)/\Q v H
def tC (v:V):TE:=fun _ H Q=>Q v H
theorem Av {i:Nat} {x:Str} {pos:Pos} (hN:X.N[i]? =some x) (hv:Vis X.env.scope x) (hd:(x==("__debug__":Str))=false:=by decide) (hcd:(x==("__classdict__":Str))=false:=by decide):PE X (.Name x pos) (tVar i):=by
 intro pins s σ H Q I h
 obtain ⟨v,e,h⟩:=h
 obtain ⟨m,hn,hl⟩:=I.loc
 obtain ⟨u,r,l⟩:=hl i x v hN e hv
 have fin:EP X pins σ Q u s:=⟨v,H,I,r,h⟩
 rcases l with ⟨hk,hm⟩ | ⟨hk,c,hc,hcell⟩
 . exact wpAny_Name (wpAny_loadName_local I.ok.kind hk hn hm fin) hd
 . rcases hk with hk | hk
   . exact wpAny_Name (wpAny_loadName_cell I.ok.kind hk hc hcell fin) hd
   . exact wpAny_Name (wpAny_loadName_free I.ok.kind hk hc hcell fin hcd) hd
theorem ab {i j pos}:PE X (.Constant (.int i) j pos) (tC (.int i)):=fun _ _ _ H _ I h=>wpAny_Constant_int ⟨.int i,H,I.tok _,⟨_,rfl⟩,h⟩
theorem cI {b j pos}:PE X (.Constant (.bool b) j pos) (tC (.bl b)):=fun _ _ _ H _ I h=>Constant_bool ⟨.bl b,H,I,rfl,h⟩
theorem tw {j pos}:PE X (.Constant .none j pos) (tC .non):=fun _ _ _ H _ I h=>Constant_none ⟨.non,H,I,rfl,h⟩
theorem aJ {x j pos}:PE X (.Constant (.str x) j pos) (tC (.str x)):=fun _ _ _ H _ I h=>Calls.Constant_str ⟨.str x,H,I.tok _,⟨_,rfl⟩,h⟩
def Gl (X:Cx) (x:Str):Prop:=X.env.kindOf x=some .globalImplicit
theorem qO {E:Value->Shared->Prop} {pins:List (Addr × Obj)} {s:Shared} {σ:St} {H:Hp} {x:Str} {u:Value} {pos:Pos} {Q:Value->Shared->Prop} (I:Inv X pins σ H s) (hg:Gl X x) (hm:X.mg x=some u) (h:Q u s)
  (hd:(x==("__debug__":Str))=false:=by decide):wpAny (model X.prog X.w) X.A (eval (.Name x pos) X.env) Q E s:=
 Calls.Name_function_global I.ok.kind hg (Calls.loadGlobal_global (by rw [I.ok.glob]; exact I.mod.glob.keeps I.bk) hm h) hd
theorem gH {E:Value->Shared->Prop} {pins:List (Addr × Obj)} {s:Shared} {σ:St} {H:Hp} {x:Str} {u:Value} {pos:Pos} {Q:Value->Shared->Prop} (I:Inv X pins σ H s) (hg:Gl X x) (hm:X.mg x=none) (hv:bootBuiltins x=some u) (h:Q u s)
  (hn:x≠"__name__":=by decide) (hd:(x==("__debug__":Str))=false:=by decide):wpAny (model X.prog X.w) X.A (eval (.Name x pos) X.env) Q E s:=by
 obtain ⟨mb,h1,h2⟩:=I.mod.blt
 exact Calls.Name_function_global I.ok.kind hg (Calls.loadGlobal_builtin (by rw [I.ok.glob]; exact I.mod.glob.keeps I.bk) hm (by rw [I.ok.blt]; exact h1.keeps I.bk) ((h2 x hn).trans hv) h) hd
theorem cK {x:Str} {v:V} {u:Value} {pos:Pos} (hg:Gl X x) (hm:X.mg x=some u) (r:RelV v u) (hd:(x==("__debug__":Str))=false:=by decide):PE X (.Name x pos) (tC v):=
 fun _ _ _ H _ I h=>qO I hg hm ⟨v,H,I,r,h⟩ hd
theorem iO {x:Str} {v:V} {u:Value} {pos:Pos} (hg:Gl X x) (hm:X.mg x=none) (hv:bootBuiltins x=some u) (r:RelV v u) (hn:x≠"__name__":=by decide) (hd:(x==("__debug__":Str))=false:=by decide):PE X (.Name x pos) (tC v):=
 fun _ _ _ H _ I h=>gH I hg hm hv ⟨v,H,I,r,h⟩ hn hd
variable {a b:Expr} {ta tb:TE} {pos:Pos}
def tB (t:TE):TT:=fun σ H Q=>t σ H fun x H1=>∃ c,x=.bl c/\Q c H1
theorem bw {e:Expr} {t:TE} (h:PE X e t) (he:∀ whole,isTrue e X.env whole=(do let v ← whole; standAt e.pos; holding [v] (truthy v)):=by intro _; rfl):PT X e (tB t):=by
 intro pins s σ H Q I hw
 refine isTrue_plain (thn (h pins s σ H _ I hw) fun v s1 ⟨x,H1,I1,r1,q1⟩=>?_) (he _)
 obtain ⟨d,rfl,q⟩:=q1
 cases r1
 exact wpAny_truthy_bool ⟨H1,I1,q⟩
variable {tA tB':TT} {rest:List Expr}
def tAnd (t u:TT):TT:=fun σ H Q=>t σ H fun c H1=>if c=true then u σ H1 Q else Q false H1
def tOr (t u:TT):TT:=fun σ H Q=>t σ H fun c H1=>if c=true then Q true H1 else u σ H1 Q
def tNot (t:TT):TT:=fun σ H Q=>t σ H fun c H1=>Q (!c) H1
theorem nL (ha:PT X a tA):PW X (.BoolOp .And [a] pos) tA:=by
 intro wh pins s σ H Q I h
 refine isTrue_and (thn (ha pins s σ H Q I h) fun c s1 e=>?_)
 cases c with
 | true=>exact isTrue_and_nil e
 | false=>exact e
theorem d8 (ha:PT X a tA):PW X (.BoolOp .Or [a] pos) tA:=by
 intro wh pins s σ H Q I h
 refine isTrue_or (thn (ha pins s σ H Q I h) fun c s1 e=>?_)
 cases c with
 | false=>exact isTrue_or_nil e
 | true=>exact e
theorem pD (ha:PT X a tA) (hb:PW X (.BoolOp .And (b::rest) pos) tB'):PW X (.BoolOp .And (a::b::rest) pos) (tAnd tA tB'):=by
 intro wh pins s σ H Q I h
 refine isTrue_and (thn (ha pins s σ H _ I h) fun c s1 ⟨H1,I1,q1⟩=>?_)
 cases c with
 | true=>exact hb wh pins s1 σ H1 Q I1 q1
 | false=>exact ⟨H1,I1,q1⟩
theorem cT (ha:PT X a tA) (hb:PW X (.BoolOp .Or (b::rest) pos) tB'):PW X (.BoolOp .Or (a::b::rest) pos) (tOr tA tB'):=by
 intro wh pins s σ H Q I h
 refine isTrue_or (thn (ha pins s σ H _ I h) fun c s1 ⟨H1,I1,q1⟩=>?_)
 cases c with
 | true=>exact ⟨H1,I1,q1⟩
 | false=>exact hb wh pins s1 σ H1 Q I1 q1
theorem cB (ha:PT X a tA):PT X (.UnaryOp .Not a pos) (tNot tA):=by
 intro pins s σ H Q I h
 exact isTrue_not (ha pins s σ H (fun c H1=>Q (!c) H1) I h)
def tAndV (ta tb:TE):TE:=fun σ H Q=>ta σ H fun x H1=>∃ c,x=.bl c/\if c=true then tb σ H1 Q else Q (.bl false) H1
def tOrV (ta tb:TE):TE:=fun σ H Q=>ta σ H fun x H1=>∃ c,x=.bl c/\if c=true then Q (.bl true) H1 else tb σ H1 Q
def tNotV (ta:TE):TE:=fun σ H Q=>ta σ H fun x H1=>∃ c,x=.bl c/\Q (.bl (!c)) H1
theorem di {op} {t:TE} (h:PE X a t):PE X (.BoolOp op [a] pos) t:=fun pins s σ H Q I hw=>BoolOp_one (h pins s σ H Q I hw)
theorem cU (ha:PE X a ta) (hb:PE X (.BoolOp .And (b::rest) pos) tb):PE X (.BoolOp .And (a::b::rest) pos) (tAndV ta tb):=by
 intro pins s σ H Q I h
 refine BoolOp_and (thn (ha pins s σ H _ I h) fun v s1 ⟨x,H1,I1,r1,q1⟩=>?_)
 obtain ⟨c,rfl,q1⟩:=q1
 cases r1
 refine wpAny_truthy_bool ?_
 cases c with
 | true=>exact hb pins s1 σ H1 Q I1 q1
 | false=>exact ⟨.bl false,H1,I1,rfl,q1⟩
theorem vQ (ha:PE X a ta) (hb:PE X (.BoolOp .Or (b::rest) pos) tb):PE X (.BoolOp .Or (a::b::rest) pos) (tOrV ta tb):=by
 intro pins s σ H Q I h
 refine BoolOp_or (thn (ha pins s σ H _ I h) fun v s1 ⟨x,H1,I1,r1,q1⟩=>?_)
 obtain ⟨c,rfl,q1⟩:=q1
 cases r1
 refine wpAny_truthy_bool ?_
 cases c with
 | false=>exact hb pins s1 σ H1 Q I1 q1
 | true=>exact ⟨.bl true,H1,I1,rfl,q1⟩
theorem xc (ha:PE X a ta):PE X (.UnaryOp .Not a pos) (tNotV ta):=by
 intro pins s σ H Q I h
 refine UnaryOp_ (thn (ha pins s σ H _ I h) fun v s1 ⟨x,H1,I1,r1,q1⟩=>?_)
 obtain ⟨c,rfl,q1⟩:=q1
 cases r1
 exact not_of (wpAny_truthy_bool ⟨.bl (!c),H1,I1,rfl,q1⟩)
def tIf (t:TT) (ta tb:TE):TE:=fun σ H Q=>t σ H fun c H1=>if c=true then ta σ H1 Q else tb σ H1 Q
theorem yM {c:Expr} (hc:PT X c tA) (ha:PE X a ta) (hb:PE X b tb):PE X (.IfExp c a b pos) (tIf tA ta tb):=by
 intro pins s σ H Q I h
 refine wpAny_IfExp (thn (hc pins s σ H _ I h) fun d s1 ⟨H1,I1,q1⟩=>?_)
 cases d with
 | true=>exact ha pins s1 σ H1 Q I1 q1
 | false=>exact hb pins s1 σ H1 Q I1 q1
end
end L2
namespace L2
open PySem PySem.Spec PyProof.Rows
def SqL (K:Frag) (H:Hp) (a:Addr) (xs:List V):Prop:=
 Rd H a (.lst xs)\/
  ∃ (o:Obj) (its:Array Value) (n:Nat),K.lookup a=some o/\o.cls=.type "list"/\o.dict=none/\o.data=.seq its n/\its.size<=sizeLine/\Vals xs its.toList
def SqT (K:Frag) (H:Hp) (a:Addr) (xs:List V):Prop:=
 Rd H a (.tup xs)\/
  ∃ (o:Obj) (its:Array Value) (n:Nat),K.lookup a=some o/\o.cls=.type "tuple"/\o.data=.seq its n/\its.size<=sizeLine/\Vals xs its.toList
def absV:Value->Option V
 | .none=>some .non
 | .bool b=>some (.bl b)
 | .int i _=>some (.int i)
 | .str x _=>some (.str x)
 | .bytes b _=>some (.byt b)
 | .float b _=>some (.flt b)
 | .ref a=>some (.ref a)
 | .type n=>some (.ty n)
 | _=>none
theorem RelV.abs {x:V} {u:Value} (r:RelV x u):absV u=some x:=by
 cases x with
 | non=>cases r; rfl
 | bl _=>cases r; rfl
 | int _=>obtain ⟨t,rfl⟩:=r; rfl
 | str _=>obtain ⟨t,rfl⟩:=r; rfl
 | byt _=>obtain ⟨t,rfl⟩:=r; rfl
 | flt _=>obtain ⟨t,rfl⟩:=r; rfl
 | ref _=>cases r; rfl
 | ty _=>cases r; rfl
theorem RelV.inj {x y:V} {u:Value} (r:RelV x u) (q:RelV y u):x=y:=Option.some.inj (r.abs.symm.trans q.abs)
theorem Vals.inj:∀ {xs ys:List V} {us:List Value},Vals xs us->Vals ys us->xs=ys
 | _,_,_,.nil,.nil=>rfl
 | _,_,_,.cons r t,.cons r' t'=>by rw [r.inj r',Vals.inj t t']
section
variable {X:Cx} {pins:List (Addr × Obj)} {σ:St} {H:Hp} {s:Shared} {a:Addr} {xs ys:List V}
theorem SqL.of {K:Frag} (h:H a=some (.lst xs)):SqL K H a xs:=.inl (.inl h)
theorem SqT.of {K:Frag} (h:H a=some (.tup xs)):SqT K H a xs:=.inl (.inl h)
theorem Inv.list (I:Inv X pins σ H s) (h:SqL X.K H a xs):∃ its:List Value,Vals xs its/\PlainL s.heap a its.toArray/\xs.length<=sizeLine:=by
 rcases h with h | ⟨o,its,n,hk,hc,hd,hs,hz,r⟩
 . obtain ⟨z,its,n,r,e⟩:=h.ok I.hok
   exact ⟨its,r,⟨_,n,e,rfl,rfl,rfl⟩,z⟩
 . refine ⟨its.toList,r,⟨o,n,I.kIn a o hk,hc,hd,by simpa using hs⟩,?_⟩
   have e:=r.length
   simp only [Array.length_toList] at e
   omega
theorem Inv.tuple (I:Inv X pins σ H s) (h:SqT X.K H a xs):∃ its:List Value,Vals xs its/\IsTup s.heap a its.toArray/\xs.length<=sizeLine:=by
 rcases h with h | ⟨o,its,n,hk,hc,hs,hz,r⟩
 . obtain ⟨z,its,r,p⟩:=h.ok I.hok
   exact ⟨its,r,p,z⟩
 . refine ⟨its.toList,r,⟨o,I.kIn a o hk,hc,n,by simpa using hs⟩,?_⟩
   have e:=r.length
   simp only [Array.length_toList] at e
   omega
theorem Inv.list_inj (I:Inv X pins σ H s) (h:SqL X.K H a xs) (h':SqL X.K H a ys):xs=ys:=by
 obtain ⟨its,r,⟨o,n,e,_,_,d⟩,_⟩:=I.list h
 obtain ⟨its',r',⟨o',n',e',_,_,d'⟩,_⟩:=I.list h'
 rw [e] at e'; cases e'
 rw [d] at d'
 injection d' with d1 _
 have:its=its':=by simpa using congrArg Array.toList d1
 subst this
 exact r.inj r'
theorem Inv.tuple_inj (I:Inv X pins σ H s) (h:SqT X.K H a xs) (h':SqT X.K H a ys):xs=ys:=by
 obtain ⟨its,r,⟨o,e,_,n,d⟩,_⟩:=I.tuple h
 obtain ⟨its',r',⟨o',e',_,n',d'⟩,_⟩:=I.tuple h'
 rw [e] at e'; cases e'
 rw [d] at d'
 injection d' with d1 _
 have:its=its':=by simpa using congrArg Array.toList d1
 subst this
 exact r.inj r'
end
abbrev Cx.wish (X:Cx) (E:Value->Shared->Prop):Cx:={ X with xe:=E }
abbrev Cx.nox (X:Cx):Cx:=X.wish fun _ _=>False
theorem Cx.Ok.wish {X:Cx} (ok:X.Ok) (E:Value->Shared->Prop):(X.wish E).Ok:=
 ⟨ok.mod,ok.kind,ok.glob,ok.blt,ok.above,ok.inj,ok.has,ok.cab,ok.hd,ok.frames,ok.stk,ok.exf,ok.bs,ok.bsz,ok.noex,ok.exfs,ok.funs,ok.frf⟩
theorem Cx.Ok.unwish {X:Cx} {E:Value->Shared->Prop} (ok:(X.wish E).Ok):X.Ok:=
 ⟨ok.mod,ok.kind,ok.glob,ok.blt,ok.above,ok.inj,ok.has,ok.cab,ok.hd,ok.frames,ok.stk,ok.exf,ok.bs,ok.bsz,ok.noex,ok.exfs,ok.funs,ok.frf⟩
section
variable {X:Cx} {pins:List (Addr × Obj)} {σ:St} {H:Hp} {s:Shared} {E:Value->Shared->Prop}
theorem Inv.wish (I:Inv X pins σ H s) (E:Value->Shared->Prop):Inv (X.wish E) pins σ H s:=⟨I.ok.wish E,I.os,I.bare,I.base,I.loc,I.cell,I.free,I.freeC,I.pin,I.hok,I.len⟩
theorem Inv.unwish (I:Inv (X.wish E) pins σ H s):Inv X pins σ H s:=⟨I.ok.unwish,I.os,I.bare,I.base,I.loc,I.cell,I.free,I.freeC,I.pin,I.hok,I.len⟩
theorem SP.unwish {D:Ends} {f:Flow} {s':Shared} (h:SP (X.wish E) pins D f s'):SP X pins D f s':=by
 cases f with
 | next=>obtain ⟨σ',H',I,q⟩:=h; exact ⟨σ',H',I.unwish,q⟩
 | brk=>obtain ⟨σ',H',I,q⟩:=h; exact ⟨σ',H',I.unwish,q⟩
 | cont=>obtain ⟨σ',H',I,q⟩:=h; exact ⟨σ',H',I.unwish,q⟩
 | ret u=>obtain ⟨v,σ',H',I,r,q⟩:=h; exact ⟨v,σ',H',I.unwish,r,q⟩
theorem PSs.nox {st:List Stmt} {t:TS} (h:PSs X.nox st t):PSs X st t:=fun pins s σ H D I hw=>
 wpAny_mono (h pins s σ H D (I.wish _) hw) (fun _ _ q=>q.unwish) fun _ _ z=>False.elim z
end
section
variable {X:Cx} {st:Stmt} {rest:List Stmt} {t u:TS} {e:Expr} {te:TE} {pos:Pos}
def tNext:TS:=fun D σ H=>D.nx σ H
def tSeq (t u:TS):TS:=fun D σ H=>t { D with nx:=u D } σ H
theorem aq:PSs X [] tNext:=fun _ _ σ H _ I h=>wpAny_execs_nil ⟨σ,H,I,h⟩
theorem ad (h1:PS X st t) (h2:PSs X rest u):PSs X (st::rest) (tSeq t u):=by
 intro pins s σ H D I h
 refine wpAny_execs_cons (thn (h1 pins s σ H { D with nx:=u D } I h) fun f s1 q=>?_)
 cases f with
 | next=>
  obtain ⟨σ',H',I',q⟩:=q
  exact h2 pins s1 σ' H' D I' q
 | ret v=>exact q
 | brk=>exact q
 | cont=>exact q
theorem af (h1:PS X st t):PSs X [st] t:=by
 intro pins s σ H D I h
 refine wpAny_execs_cons (thn (h1 pins s σ H D I h) fun f s1 q=>?_)
 cases f with
 | next=>exact wpAny_execs_nil q
 | ret v=>exact q
 | brk=>exact q
 | cont=>exact q
theorem Inv.quiet {pins:List (Addr × Obj)} {σ:St} {H:Hp} {s:Shared} (I:Inv X pins σ H s):interactive X.env=false:=by simp [interactive,I.ok.kind]
def tDrop (te:TE):TS:=fun D σ H=>te σ H fun _ H1=>D.nx σ H1
theorem bz (he:PE X e te) (hs:swapsWith e none pos.line X.env=pure false:=by rfl):PS X (.Expr e pos) (tDrop te):=by
 intro pins s σ H D I h
 exact wpAny_Expr_any (thn (he pins s σ H _ I h) fun v s1 ⟨x,H1,I1,r1,q1⟩=>⟨σ,H1,I1,q1⟩) I.quiet hs
def tRet (te:TE):TS:=fun D σ H=>te σ H D.rt
theorem aj (he:PE X e te):PS X (.Return (some e) pos) (tRet te):=by
 intro pins s σ H D I h
 exact wpAny_Return_some (thn (he pins s σ H _ I h) fun v s1 ⟨x,H1,I1,r1,q1⟩=>⟨x,σ,H1,I1,r1,q1⟩)
def tRetN:TS:=fun D _ H=>D.rt .non H
def tIfS (c:TT) (t u:TS):TS:=fun D σ H=>c σ H fun b H1=>if b=true then t D σ H1 else u D σ H1
theorem az {c:Expr} {a b:List Stmt} {tc:TT} (hc:PT X c tc) (ha:PSs X a t) (hb:PSs X b u):PS X (.If c a b pos) (tIfS tc t u):=by
 intro pins s σ H D I h
 refine wpAny_If (thn (hc pins s σ H _ I h) fun d s1 ⟨H1,I1,q1⟩=>?_)
 cases d with
 | true=>exact ha pins s1 σ H1 D I1 q1
 | false=>exact hb pins s1 σ H1 D I1 q1
def cC:TS:=fun _ _ _=>False
theorem bx:PS X st cC:=fun _ _ _ _ _ _ h=>h.elim
end
abbrev TG:=V->St->Hp->(St->Hp->Prop)->Prop
abbrev TGs:=List V->St->Hp->(St->Hp->Prop)->Prop
def PG (X:Cx) (target:Expr) (t:TG):Prop:=
 ∀ (pins:List (Addr × Obj)) (s:Shared) (σ:St) (H:Hp) (v:V) (u:Value) (Q:St->Hp->Prop),Inv X pins σ H s->RelV v u->t v σ H Q->
  wpAny (model X.prog X.w) X.A (assign target X.env u) (fun _ s'=>∃ σ' H',Inv X pins σ' H' s'/\Q σ' H') X.xe s
def PGs (X:Cx) (ts:List Expr) (t:TGs):Prop:=
 ∀ (pins:List (Addr × Obj)) (s:Shared) (σ:St) (H:Hp) (vs:List V) (us:List Value) (Q:St->Hp->Prop),Inv X pins σ H s->Vals vs us->t vs σ H Q->
  wpAny (model X.prog X.w) X.A (assignInOrder ((assignEach ts X.env).map (·.2)) us) (fun _ s'=>∃ σ' H',Inv X pins σ' H' s'/\Q σ' H') X.xe s
abbrev TSet:=V->V->V->Hp->(Hp->Prop)->Prop
def PSet (X:Cx) (t:TSet):Prop:=
 ∀ (pins:List (Addr × Obj)) (s:Shared) (σ:St) (H:Hp) (o i v:V) (ov iv u:Value) (Q:Hp->Prop),Inv X pins σ H s->RelV o ov->RelV i iv->RelV v u->t o i v H Q->
  wpAny (model X.prog X.w) X.A (setItem ov iv u) (fun _ s'=>∃ H',Inv X pins σ H' s'/\Q H') X.xe s
section
variable {X:Cx} {pos:Pos}
def gName (i:Nat):TG:=fun v σ H Q=>Q (σ.set i (some v)) H
theorem aA {i:Nat} {x:Str} (hN:X.N.Nodup) (hi:X.N[i]? =some x) (hx:Loc X.env.scope x) (hf:X.fn x=true\/X.env.scope.names.lookup x=some .local:=by first | exact .inl rfl | exact .inr rfl | assumption):PG X (.Name x pos) (gName i):=by
 intro pins s σ H v u Q I r h
 exact wpAny_assign_Name (tu I hN hi hx r (fun s' I'=>⟨_,H,I',h⟩) hf)
def gNil:TGs:=fun vs σ H Q=>vs=[]/\Q σ H
def gCons (t:TG) (u:TGs):TGs:=fun vs σ H Q=>∃ v r,vs=v::r/\t v σ H fun σ' H'=>u r σ' H' Q
theorem lP:PGs X [] gNil:=by
 intro pins s σ H vs us Q I r h
 obtain ⟨e,h⟩:=h
 subst e
 cases r
 exact assignInOrder_nil ⟨σ,H,I,h⟩
theorem b8 {e:Expr} {es:List Expr} {t:TG} {u:TGs} (h1:PG X e t) (h2:PGs X es u)
  (hs:(assignEach (e::es) X.env).map (·.2)=assign e X.env::(assignEach es X.env).map (·.2):=by rfl):PGs X (e::es) (gCons t u):=by
 intro pins s σ H vs us Q I r h
 obtain ⟨v,vr,e1,h⟩:=h
 subst e1
 cases r with
 | cons r rr=>
  rw [hs]
  refine assignInOrder_cons (thn (h1 pins s σ H _ _ _ I r h) fun _ s1 ⟨σ1,H1,I1,q1⟩=>?_)
  exact h2 pins s1 σ1 H1 _ _ Q I1 rr q1
def gTup (K:Frag) (n:Nat) (t:TGs):TG:=fun v σ H Q=>∃ a xs,v=.ref a/\SqT K H a xs/\xs.length=n/\t xs σ H Q
theorem mM {es:List Expr} {k:Nat} {t:TGs} {n:Nat} (hc:X.calm=true) (h:PGs X es t)
  (hn:(assignEach es X.env).length=n:=by rfl) (hst:(assignEach es X.env).findIdx? (·.1)=none:=by rfl):PG X (.Tuple es k pos) (gTup X.K n t):=by
 intro pins s σ H v u Q I r hw
 obtain ⟨a,xs,e1,hq,hl,hw⟩:=hw
 subst e1
 cases r
 obtain ⟨its,rv,ht,hz⟩:=I.tuple hq
 refine assign_Tuple_tuple (I.ok.hd hc) ht (by simp [hn,← hl,rv.length]) hst fun h' hx=>?_
 have I1:Inv X pins σ H { s with heap:=h' }:=I.kept (t':=s.toks) fun b o e=>hx b o (Nat.ne_of_lt (Heap.lt_size e)) e
 exact h pins _ σ H xs _ Q I1 (by simpa using rv) hw
def gSub (to ti:TE) (t:TSet):TG:=fun v σ H Q=>to σ H fun o H1=>ti σ H1 fun i H2=>t o i v H2 fun H3=>Q σ H3
theorem Aw {o i:Expr} {to ti:TE} {t:TSet} (ho:PE X o to) (hi:PE X i ti) (hs:PSet X t)
  (ha:∀ v,assign (.Subscript o i pos) X.env v=(do
   let ov ← holding [v] (eval o X.env)
   let iv ← holding [v,ov] (eval i X.env)
   standAt pos
   holding [v,ov,iv] (setItem ov iv v)
   release [v,ov,iv] []):=by intro _; rfl):PG X (.Subscript o i pos) (gSub to ti t):=by
 intro pins s σ H v u Q I r h
 rw [ha]
 refine wpAny_bind (wpAny_holding (thn (ho pins s σ H _ I h) fun ov s1 ⟨x,H1,I1,r1,q1⟩=>?_))
 refine wpAny_bind (wpAny_holding (thn (hi pins s1 σ H1 _ I1 q1) fun iv s2 ⟨y,H2,I2,r2,q2⟩=>?_))
 refine wpAny_bind (wpAny_standAt (wpAny_bind (wpAny_holding (thn (hs pins s2 σ H2 x y v ov iv u _ I2 r1 r2 r q2) fun _ s3 ⟨H3,I3,q3⟩=>?_))))
 exact wpAny_release ⟨σ,H3,I3,q3⟩
def tAsg (te:TE) (g:TG):TS:=fun D σ H=>te σ H fun x H1=>g x σ H1 D.nx
theorem lQ {tg e:Expr} {te:TE} {g:TG} (he:PE X e te) (hg:PG X tg g) (hs:swapsWithSole [tg] e pos.line X.env=pure false:=by rfl) (hw:swappedStores [tg] e X.env=pure none:=by rfl)
  (h1:(assignEach [tg] X.env).map (·.2)=[assign tg X.env]:=by rfl):PS X (.Assign [tg] e pos) (tAsg te g):=by
 intro pins s σ H D I h
 refine wpAny_Assign_stores (thn (he pins s σ H _ I h) fun v s1 ⟨x,H1,I1,r1,q1⟩=>?_) hs hw
 rw [h1]
 exact thn (hg pins s1 σ H1 x v _ I1 r1 q1) fun _ s2 q=>q
theorem ap {i:Nat} {x:Str} {e:Expr} {te:TE} {pos':Pos} (hN:X.N.Nodup) (hi:X.N[i]? =some x) (hx:Loc X.env.scope x) (he:PE X e te) (hs:swapsWith e (some (.Name x pos')) pos.line X.env=pure false:=by rfl) (hf:X.fn x=true\/X.env.scope.names.lookup x=some .local:=by first | exact .inl rfl | exact .inr rfl | assumption):
  PS X (.Assign [.Name x pos'] e pos) (tAsg te (gName i)):=by
 intro pins s σ H D I h
 refine wpAny_Assign_Name (thn (he pins s σ H _ I h) fun v s1 ⟨y,H1,I1,r1,q1⟩=>?_) hs
 exact tu I1 hN hi hx r1 (fun s2 I2=>⟨_,H1,I2,q1⟩) hf
end
section
variable {X:Cx} {pos:Pos}
def tz (c:TT) (tb:TS):TS:=fun D σ H=>∃ W:Nat->St->Hp->Prop,(∃ m,W m σ H)/\∀ m σ H,W m σ H->
 c σ H fun b H1=>if b=true then ∃ N:St->Hp->Prop,(∀ σ' H',N σ' H'->∃ m',m'<m/\W m' σ' H')/\tb { D with nx:=N,ct:=N,bk:=D.nx } σ H1 else D.nx σ H1
theorem tD {c:Expr} {body:List Stmt} {tc:TT} {tb:TS} (hp:PassesOwn (model X.prog X.w) X.A X.env X.xe) (hc:PT X c tc) (hb:PSs X body tb):PS X (.While c body [] pos) (tz tc tb):=by
 intro pins s σ H D I h
 obtain ⟨W,⟨m0,w0⟩,turn⟩:=h
 refine wpAny_While (codeAny_whileLoop (fun n s'=>∃ σ' H',Inv X pins σ' H' s'/\W n σ' H') ?_ m0 ⟨σ,H,I,w0⟩)
 rintro n s1 ⟨σ1,H1,I1,w1⟩
 refine wpAny_passesOwn hp (thn (hc pins s1 σ1 H1 _ I1 (turn n σ1 H1 w1)) fun b s2 ⟨H2,I2,q2⟩=>?_)
 cases b with
 | true=>
  obtain ⟨N,hN,q2⟩:=q2
  rw [if_pos rfl]
  refine wpAny_passesOwn hp (thn (hb pins s2 σ1 H2 _ I2 q2) fun f s3 q3=>?_)
  cases f with
  | next=>
   obtain ⟨σ3,H3,I3,n3⟩:=q3
   obtain ⟨m',hm,w3⟩:=hN σ3 H3 n3
   exact ⟨m',hm,σ3,H3,I3,w3⟩
  | cont=>
   obtain ⟨σ3,H3,I3,n3⟩:=q3
   obtain ⟨m',hm,w3⟩:=hN σ3 H3 n3
   exact ⟨m',hm,σ3,H3,I3,w3⟩
  | brk=>exact q3
  | ret v=>exact q3
 | false=>
  rw [if_neg Bool.false_ne_true]
  exact wpAny_execs_nil ⟨σ1,H2,I2,q2⟩
end
structure It where
 go:Nat->Hp->Prop
 yld:Nat->Hp->V->Hp->Prop
 stop:Nat->Hp->Prop
def FpOk (X:Cx) (pins:List (Addr × Obj)) (H:Hp) (b:Addr):Prop:=
 H b=none/\b≠X.env.locals/\b∉X.fs/\(b∈X.ex\/X.s₀.heap.objs.size<=b)/\(∀ x c,X.env.cells.lookup x=some c->c≠b)/\∀ p∈X.pn++pins,p.1≠b
theorem Inv.fpOk {X:Cx} {pins:List (Addr × Obj)} {σ:St} {H H':Hp} {s:Shared} {b:Addr} (I:Inv X pins σ H s) (hb:s.heap.objs.size<=b) (hn:H' b=none):FpOk X pins H' b:=by
 refine ⟨hn,Nat.ne_of_gt (Nat.lt_of_lt_of_le I.lt hb),I.nofs hb,.inr (Nat.le_trans I.sz hb),fun x c e z=>?_,fun p hp z=>?_⟩
 . obtain ⟨v,q⟩:=I.cell x c e
   exact absurd (Nat.lt_of_lt_of_le q.lt (by rw [z]; exact hb)) (Nat.lt_irrefl _)
 . exact absurd (Nat.lt_of_lt_of_le (Heap.lt_size (I.pin p hp).1) (by rw [z]; exact hb)) (Nat.lt_irrefl _)
structure Turn (P:Program) (w:World) (K:Frag) (tg:Expr) (J:It) (fp:List Addr) (it:Addr) (tn:Nat->Heap->Prop):Prop where
 mem:it∈fp
 obj:∀ i h,tn i h->∀ b∈fp,∃ o,h.get? b=some o/\∀ v,o.data≠.cell v
 keep:∀ i h h',tn i h->(∀ b∈fp,∀ o,h.get? b=some o->h'.get? b=some o)->tn i h'
 item:∀ (X:Cx),X.prog=P->X.w=w->X.K=K->X.calm=true->∀ (i:Nat) (pins:List (Addr × Obj)) (s:Shared) (σ:St) (H:Hp) (E:Value->Shared->Prop),Inv X pins σ H s->(∀ b∈fp,FpOk X pins H b)->tn i s.heap->J.go i H->
  wpAny (model P w) X.A (pyNext (.ref it)) (fun r s1=>∃ u,r=some u/\
   wpAny (model P w) X.A (letOwnedTupleGo tg (.ref it) u) (fun _ s2=>∃ x H',Inv X pins σ H' s2/\RelV x u/\J.yld i H x H'/\tn (i+1) s2.heap/\∀ b∈fp,H' b=none) E s1) E s
 done:∀ (X:Cx),X.prog=P->X.w=w->X.K=K->X.calm=true->∀ (i:Nat) (pins:List (Addr × Obj)) (s:Shared) (σ:St) (H:Hp) (E:Value->Shared->Prop),Inv X pins σ H s->(∀ b∈fp,FpOk X pins H b)->tn i s.heap->J.stop i H->
  wpAny (model P w) X.A (pyNext (.ref it)) (fun r s1=>r=none/\Inv X pins σ H s1) E s
 self:∀ (A:Around) (i:Nat) (s:Shared) (Q:Value->Shared->Prop) (E:Value->Shared->Prop),tn i s.heap->Q (.ref it) s->wpAny (model P w) A (pyIter (.ref it)) Q E s
abbrev TI:=St->Hp->(It->Hp->Prop)->Prop
def PIE (X:Cx) (pins:List (Addr × Obj)) (σ:St) (tg:Expr) (R:It->Hp->Prop) (itv:Value) (s2:Shared):Prop:=
 ∃ (it:Addr) (fp:List Addr) (tn:Nat->Heap->Prop) (J:It) (H':Hp),itv=.ref it/\Inv X pins σ H' s2/\Turn X.prog X.w X.K tg J fp it tn/\tn 0 s2.heap/\(∀ b∈fp,FpOk X pins H' b)/\R J H'
def PI (X:Cx) (tg iter:Expr) (wi:TI):Prop:=
 ∀ (pins:List (Addr × Obj)) (s:Shared) (σ:St) (H:Hp) (R:It->Hp->Prop),Inv X pins σ H s->wi σ H R->
  wpAny (model X.prog X.w) X.A (eval iter X.env) (fun v s1=>wpAny (model X.prog X.w) X.A (pyIter v) (PIE X pins σ tg R) X.xe s1) X.xe s
theorem sX {M:Model} {A:Around} {E:Value->Shared->Prop} {s:Shared} {tg:Expr} {it:Addr} {u:Value} {o:Obj} {n:String} {vs:Array Value} {Q:Unit->Shared->Prop} (ho:s.heap.get? it=some o) (hc:o.cls=.type n) (hd:o.data=.fields vs)
  (hn:["enumerate","zip","dict_itemiterator","dict_reverseitemiterator","odict_iterator","itertools.zip_longest","itertools.pairwise"].contains n=false) (hQ:Q () s):wpAny M A (letOwnedTupleGo tg (.ref it) u) Q E s:=by
 unfold letOwnedTupleGo
 cases tg <;> first
  | exact wpAny_pure hQ
  | (cases u <;> first
    | exact wpAny_pure hQ
    | (refine wpAny_bind (wpAny_load ho ?_)
       rw [hc,hd]
       show wpAny M A (if (["enumerate","zip","dict_itemiterator","dict_reverseitemiterator","odict_iterator","itertools.zip_longest","itertools.pairwise"].contains n&&vs[0]? ==some (rawInt _))=true then _ else _) Q E s
       rw [if_neg (by intro h; rw [hn,Bool.false_and] at h; cases h)]
       exact wpAny_pure hQ))
def Itl (K:Frag) (a:Addr):It:=
 ⟨fun i H=>∃ xs x,SqL K H a xs/\xs[i]? =some x,fun i H x H'=>H'=H/\∀ xs,SqL K H a xs->xs[i]? =some x,fun i H=>∃ xs,SqL K H a xs/\xs.length<=i⟩
def Itt (K:Frag) (a:Addr):It:=
 ⟨fun i H=>∃ xs x,SqT K H a xs/\xs[i]? =some x,fun i H x H'=>H'=H/\∀ xs,SqT K H a xs->xs[i]? =some x,fun i H=>∃ xs,SqT K H a xs/\xs.length<=i⟩
def Itr (lo:Int) (n:Nat):It:=⟨fun i _=>i<n,fun i H x H'=>H'=H/\x=.int (lo+i),fun i _=>n<=i⟩
theorem xf {P:Program} {w:World} {K:Frag} {tg:Expr} (a it:Addr):Turn P w K tg (Itl K a) [it] it (fun i h=>h.IsListIter it a i) where
 mem:=by simp
 obj:=fun i h st b hb=>by
  have e:b=it:=by simpa using hb
  subst e
  obtain ⟨o,e,c,d⟩:=st
  exact ⟨o,e,fun v z=>by rw [d] at z; cases z⟩
 keep:=fun i h h' st k=>st.at fun o e=>k it (by simp) o e
 item:=by
  intro X hP hw hK hc i pins s σ H E I hf st hg
  subst hP hw hK
  obtain ⟨xs,x,hq,hx⟩:=hg
  obtain ⟨its,rv,p,hz⟩:=I.list hq
  obtain ⟨u,hu,ru⟩:=rv.get hx
  obtain ⟨f0,f1,f2,f3,f4,f5⟩:=hf it (by simp)
  refine wpAny_pyNext_list_item st p.isList (x:=u) (by simpa using hu) fun h' st' sb=>?_
  have I1:Inv X pins σ H { s with heap:=h' }:=I.turned (t':=s.toks) (fun b o hb e=>(sb.2 b hb).trans e) f0 f1 f3 f4 f5
  obtain ⟨o,e,c,d⟩:=id st'
  exact ⟨u,rfl,sX (s:={ s with heap:=h' }) e c d (by decide) ⟨x,H,I1,ru,⟨rfl,fun ys hy=>by rw [I.list_inj hy hq]; exact hx⟩,st',fun b hb=>(hf b hb).1⟩⟩
 done:=by
  intro X hP hw hK hc i pins s σ H E I hf st hg
  subst hP hw hK
  obtain ⟨xs,hq,hx⟩:=hg
  obtain ⟨its,rv,p,hz⟩:=I.list hq
  obtain ⟨f0,f1,f2,f3,f4,f5⟩:=hf it (by simp)
  have hl:=rv.length
  exact wpAny_pyNext_list_end (I.ok.hd hc) st p.isList (by simp; omega) fun h' eb=>⟨rfl,I.turned (t':=s.toks) (fun b o hb e=>eb b o hb e) f0 f1 f3 f4 f5⟩
 self:=fun _ _ _ _ _ st h=>wpAny_pyIter_listiter st h
theorem vR {P:Program} {w:World} {K:Frag} {tg:Expr} (a it:Addr):Turn P w K tg (Itt K a) [it] it (fun i h=>h.IsTupleIter it a i) where
 mem:=by simp
 obj:=fun i h st b hb=>by
  have e:b=it:=by simpa using hb
  subst e
  obtain ⟨o,e,c,d⟩:=st
  exact ⟨o,e,fun v z=>by rw [d] at z; cases z⟩
 keep:=fun i h h' st k=>st.at fun o e=>k it (by simp) o e
 item:=by
  intro X hP hw hK hc i pins s σ H E I hf st hg
  subst hP hw hK
  obtain ⟨xs,x,hq,hx⟩:=hg
  obtain ⟨its,rv,p,hz⟩:=I.tuple hq
  obtain ⟨u,hu,ru⟩:=rv.get hx
  obtain ⟨f0,f1,f2,f3,f4,f5⟩:=hf it (by simp)
  refine wpAny_pyNext_tuple_item st (show s.heap.IsTuple a its.toArray from p) (x:=u) (by simpa using hu) fun h' st' sb=>?_
  have I1:Inv X pins σ H { s with heap:=h' }:=I.turned (t':=s.toks) (fun b o hb e=>(sb.2 b hb).trans e) f0 f1 f3 f4 f5
  obtain ⟨o,e,c,d⟩:=id st'
  exact ⟨u,rfl,sX (s:={ s with heap:=h' }) e c d (by decide) ⟨x,H,I1,ru,⟨rfl,fun ys hy=>by rw [I.tuple_inj hy hq]; exact hx⟩,st',fun b hb=>(hf b hb).1⟩⟩
 done:=by
  intro X hP hw hK hc i pins s σ H E I hf st hg
  subst hP hw hK
  obtain ⟨xs,hq,hx⟩:=hg
  obtain ⟨its,rv,p,hz⟩:=I.tuple hq
  obtain ⟨f0,f1,f2,f3,f4,f5⟩:=hf it (by simp)
  have hl:=rv.length
  exact wpAny_pyNext_tuple_end (I.ok.hd hc) st (show s.heap.IsTuple a its.toArray from p) (by simp; omega) fun h' eb=>⟨rfl,I.turned (t':=s.toks) (fun b o hb e=>eb b o hb e) f0 f1 f3 f4 f5⟩
 self:=fun _ _ _ _ _ st h=>wpAny_pyIter_tupleiter st h
theorem vS {P:Program} {w:World} {K:Frag} {tg:Expr} (it:Addr) (lo:Int) (n:Nat):Turn P w K tg (Itr lo n) [it] it (fun i h=>IsRangeIter h it (lo+(i:Nat)*1) ((n:Int) - (i:Nat)) 1) where
 mem:=by simp
 obj:=fun i h st b hb=>by
  have e:b=it:=by simpa using hb
  subst e
  exact ⟨_,st,fun v z=>by
   have z':Data.fields _=Data.cell v:=z
   cases z'⟩
 keep:=fun i h h' st k=>k it (by simp) _ st
 item:=by
  intro X hP hw hK hc i pins s σ H E I hf st hg
  subst hP hw hK
  obtain ⟨f0,f1,f2,f3,f4,f5⟩:=hf it (by simp)
  have W:=Walks.range (prog:=X.prog) (w:=X.w) (I.ok.hd hc) it lo 1 n
  refine W.item i s _ _ hg st fun v h' tk hv st' kk=>?_
  obtain ⟨t,rfl⟩:=hv
  have I1:Inv X pins σ H { s with heap:=h',toks:=tk }:=I.turned (fun b o hb e=>kk b o (by simpa using hb) e) f0 f1 f3 f4 f5
  refine ⟨_,rfl,sX (s:={ s with heap:=h',toks:=tk }) (n:="range_iterator") st' rfl rfl (by decide) ⟨.int (lo+i),H,I1,⟨t,?_⟩,⟨rfl,rfl⟩,st',fun b hb=>(hf b hb).1⟩⟩
  rw [Int.mul_one]
 done:=by
  intro X hP hw hK hc i pins s σ H E I hf st hg
  subst hP hw hK
  obtain ⟨f0,f1,f2,f3,f4,f5⟩:=hf it (by simp)
  exact wpAny_pyNext_range_end (I.ok.hd hc) st (by have:n<=i:=hg; omega) fun h' eb=>⟨rfl,I.turned (t':=s.toks) (fun b o hb e=>eb b o hb e) f0 f1 f3 f4 f5⟩
 self:=fun _ _ _ _ _ st h=>wpAny_pyIter_rangeiter st h
end L2
namespace L2
open PySem PySem.Spec PyProof.Rows
section
variable {X:Cx} {tg:Expr}
def iList (K:Frag) (tl:TE):TI:=fun σ H R=>tl σ H fun x H1=>∃ a,x=.ref a/\(∃ xs,SqL K H1 a xs)/\R (Itl K a) H1
def iTup (K:Frag) (tl:TE):TI:=fun σ H R=>tl σ H fun x H1=>∃ a,x=.ref a/\(∃ xs,SqT K H1 a xs)/\R (Itt K a) H1
theorem aP {l:Expr} {tl:TE} (hl:PE X l tl):PI X tg l (iList X.K tl):=by
 intro pins s σ H R I h
 refine thn (hl pins s σ H _ I h) fun v s1 ⟨x,H1,I1,r1,q1⟩=>?_
 obtain ⟨a,e,⟨xs,hq⟩,q⟩:=q1
 subst e
 cases r1
 obtain ⟨its,rv,p,hz⟩:=I1.list hq
 refine wpAny_pyIter_list p.isList ?_
 refine ⟨s1.heap.objs.size,[s1.heap.objs.size],_,_,H1,rfl,I1.kept (t':=s1.toks) fun b o e=>Heap.get?_push_of_some _ e,xf a _,⟨_,Heap.get?_push_size _ rfl,rfl,rfl⟩,fun b hb=>?_,q⟩
 have e:b=s1.heap.objs.size:=by simpa using hb
 subst e
 exact I1.fpOk (Nat.le_refl _) (I1.hok.fresh (Nat.le_refl _))
theorem xg {l:Expr} {tl:TE} (hl:PE X l tl):PI X tg l (iTup X.K tl):=by
 intro pins s σ H R I h
 refine thn (hl pins s σ H _ I h) fun v s1 ⟨x,H1,I1,r1,q1⟩=>?_
 obtain ⟨a,e,⟨xs,hq⟩,q⟩:=q1
 subst e
 cases r1
 obtain ⟨its,rv,p,hz⟩:=I1.tuple hq
 refine wpAny_pyIter_tuple (show s1.heap.IsTuple a its.toArray from p) ?_
 refine ⟨s1.heap.objs.size,[s1.heap.objs.size],_,_,H1,rfl,I1.kept (t':=s1.toks) fun b o e=>Heap.get?_push_of_some _ e,vR a _,⟨_,Heap.get?_push_size _ rfl,rfl,rfl⟩,fun b hb=>?_,q⟩
 have e:b=s1.heap.objs.size:=by simpa using hb
 subst e
 exact I1.fpOk (Nat.le_refl _) (I1.hok.fresh (Nat.le_refl _))
theorem tE {pins:List (Addr × Obj)} {σ:St} {H:Hp} {s:Shared} {R:It->Hp->Prop} {E:Value->Shared->Prop} {lo hi:Int} {t u v:Tok} {tk:Nat} (I:Inv X pins σ H s) (h1: -(2^62)<=lo) (h2:lo<2^62) (h3: -(2^62)<=hi) (h4:hi<2^62)
  (q:R (Itr lo (hi-lo).toNat) H):wpAny (model X.prog X.w) X.A (pyIter (.ref s.heap.objs.size)) (PIE X pins σ tg R) E { s with heap:=s.heap.push { cls:=.type "range",data:=.fields #[.int lo t,.int hi u,.int 1 v] },toks:=tk }:=by
 refine wpAny_pyIter_range (IsRange.new ..) (small_one h1 h2 h3 h4) ?_
 have I1:Inv X pins σ H { s with heap:=s.heap.push { cls:=.type "range",data:=.fields #[.int lo t,.int hi u,.int 1 v] },toks:=tk }:=I.kept fun b o e=>Heap.get?_push_of_some _ e
 refine ⟨(s.heap.push { cls:=.type "range",data:=.fields #[.int lo t,.int hi u,.int 1 v] }).objs.size,[(s.heap.push { cls:=.type "range",data:=.fields #[.int lo t,.int hi u,.int 1 v] }).objs.size],_,_,H,rfl,
  I1.kept (t':=tk) fun b o e=>Heap.get?_push_of_some _ e,vS _ lo (hi-lo).toNat,?_,fun b hb=>?_,q⟩
 . have e1:lo+((0:Nat):Int)*1=lo:=by simp
   have e2:(((hi-lo).toNat:Nat):Int) - ((0:Nat):Int)=Builtin.Range.rangeSize lo hi 1:=by rw [rangeSize_one]; split <;> omega
   show IsRangeIter _ _ (lo+((0:Nat):Int)*1) ((((hi-lo).toNat:Nat):Int) - ((0:Nat):Int)) 1
   rw [e1,e2]
   exact Heap.get?_push_size _ rfl
 . have e:b=(s.heap.push { cls:=.type "range",data:=.fields #[.int lo t,.int hi u,.int 1 v] }).objs.size:=by simpa using hb
   subst e
   exact I1.fpOk (Nat.le_refl _) (I1.hok.fresh (Nat.le_refl _))
def gK (ta:TA):TI:=fun σ H R=>ta σ H fun vs H1=>∃ j:Int,vs=[.int j]/\ -(2^62)<=j/\j<2^62/\R (Itr 0 j.toNat) H1
def l0 (ta:TA):TI:=fun σ H R=>ta σ H fun vs H1=>∃ i j:Int,vs=[.int i,.int j]/\(-(2^62)<=i/\i<2^62/\ -(2^62)<=j/\j<2^62)/\R (Itr i (j-i).toNat) H1
theorem dz {a:Expr} {ta:TA} {p pos:Pos} (hg:Gl X "range") (hm:X.mg "range"=none) (ha:PA X [a] ta) (hs:starEach [a] X.env=[(false,eval a X.env)]:=by rfl):PI X tg (.Call (.Name "range" p) [a] [] pos) (gK ta):=by
 intro pins s σ H R I h
 refine Call_ (gH I hg hm boot_range (PyProof.Rows.callWith_type1 (thn (ha pos pins s σ H _ I h) fun us s1 ⟨vs,H1,I1,r1,q1⟩=>?_) hs rfl))
 obtain ⟨j,e,q1,q2,q⟩:=q1
 subst e
 cases r1 with
 | cons r rr=>
  cases rr
  obtain ⟨t,rfl⟩:=r
  exact call_range_1 (tE I1 (by omega) (by omega) q1 q2 (by simpa using q))
theorem mN {a b:Expr} {ta:TA} {p pos:Pos} (hg:Gl X "range") (hm:X.mg "range"=none) (ha:PA X [a,b] ta) (hs:starEach [a,b] X.env=[(false,eval a X.env),(false,eval b X.env)]:=by rfl) (hs2:starEach [b] X.env=[(false,eval b X.env)]:=by rfl):
  PI X tg (.Call (.Name "range" p) [a,b] [] pos) (l0 ta):=by
 intro pins s σ H R I h
 refine Call_ (gH I hg hm boot_range (PyProof.Rows.callWith_type1 (thn (ha pos pins s σ H _ I h) fun us s1 ⟨vs,H1,I1,r1,q1⟩=>?_) (by rw [hs,hs2]) (by rw [hs2]; rfl)))
 obtain ⟨i,j,e,⟨q1,q2,q3,q4⟩,q⟩:=q1
 subst e
 cases r1 with
 | cons r rr=>
  cases rr with
  | cons r' rr=>
   cases rr
   obtain ⟨t,rfl⟩:=r
   obtain ⟨t',rfl⟩:=r'
   exact call_range_2 (tE I1 q1 q2 q3 q4 q)
def tFor (wi:TI) (g:TG) (tb:TS):TS:=fun D σ H=>wi σ H fun J H1=>∃ W:Nat->Nat->St->Hp->Prop,(∃ m,W 0 m σ H1)/\∀ i m σ H,W i m σ H->
 (J.stop i H/\D.nx σ H)\/(J.go i H/\∃ N:St->Hp->Prop,(∀ σ' H',N σ' H'->∃ m',m'<m/\W (i+1) m' σ' H')/\∀ x H',J.yld i H x H'->g x σ H' fun σ2 H2=>tb { D with nx:=N,ct:=N,bk:=D.nx } σ2 H2)
def mO (fp:List Addr) (h:Heap):List (Addr × Obj):=fp.filterMap fun b=>(h.get? b).map fun o=>(b,o)
theorem kz {fp:List Addr} {h:Heap} {b:Addr} {o:Obj} (hb:b∈fp) (e:h.get? b=some o):(b,o)∈mO fp h:=List.mem_filterMap.mpr ⟨b,hb,by rw [e]; rfl⟩
theorem xh {fp:List Addr} {h:Heap} {p:Addr × Obj} (hp:p∈mO fp h):p.1∈fp/\h.get? p.1=some p.2:=by
 obtain ⟨b,hb,e⟩:=List.mem_filterMap.mp hp
 cases q:h.get? b with
 | none=>rw [q] at e; cases e
 | some o=>
  rw [q] at e
  have e':(b,o)=p:=Option.some.inj e
  subst e'
  exact ⟨hb,q⟩
theorem Inv.pinned {pins:List (Addr × Obj)} {σ:St} {H:Hp} {s:Shared} {fp:List Addr} (I:Inv X pins σ H s) (hf:∀ b∈fp,FpOk X pins H b) (ho:∀ b∈fp,∃ o,s.heap.get? b=some o/\∀ v,o.data≠.cell v):Inv X (pins++mO fp s.heap) σ H s:=
 I.pins_of fun p hp=>(List.mem_append.mp hp).elim (fun z=>I.pin p (List.mem_append_right _ z)) fun z=>by
  obtain ⟨hb,e⟩:=xh z
  obtain ⟨f0,f1,f2,_⟩:=hf p.1 hb
  obtain ⟨o,e',d⟩:=ho p.1 hb
  rw [e] at e'; cases e'
  exact ⟨e,f0,f1,f2,d⟩
theorem Inv.unpinned {pins pl:List (Addr × Obj)} {σ:St} {H:Hp} {s:Shared} (I:Inv X (pins++pl) σ H s):Inv X pins σ H s:=I.pins_of fun p hp=>I.pin p (List.mem_append_right _ (List.mem_append_left _ hp))
theorem cD {iter:Expr} {body:List Stmt} {wi:TI} {g:TG} {tb:TS} {pos:Pos} (hp:PassesOwn (model X.prog X.w) X.A X.env X.xe) (hc:X.calm=true) (hi:PI X tg iter wi) (hg:PG X tg g) (hb:PSs X body tb)
  (hs:∀ x,foldedSetIterable iter X.env x=pure x:=by intro _; rfl):PS X (.For tg iter body [] pos) (tFor wi g tb):=by
 intro pins s σ H D I h
 refine wpAny_For (thn (hi pins s σ H _ I h) fun v s1 h1=>thn h1 fun itv s2 h2=>?_) hs
 obtain ⟨it,fp,tn,J,H2,e,I2,T,st2,f2,W,⟨m0,w0⟩,turn⟩:=h2
 subst e
 have stat:∀ {H':Hp},(∀ b∈fp,H' b=none)->∀ b∈fp,FpOk X pins H' b:=fun hn b hb=>⟨hn b hb,(f2 b hb).2⟩
 refine codeAny_forLoop_any (fun n s'=>∃ i σ' H',Inv X pins σ' H' s'/\tn i s'.heap/\(∀ b∈fp,H' b=none)/\W i n σ' H') ?_ m0 ⟨0,σ,H2,I2,st2,fun b hb=>(f2 b hb).1,w0⟩
 rintro n s3 ⟨i,σ3,H3,I3,st3,fr3,w3⟩
 rcases turn i n σ3 H3 w3 with ⟨stop,qn⟩ | ⟨go,N,hN,step⟩
 . refine wpAny_passesOwn hp (thn (T.done X rfl rfl rfl hc i pins s3 σ3 H3 X.xe I3 (stat fr3) st3 stop) fun r s4 ⟨hr,I4⟩=>?_)
   subst hr
   exact wpAny_execs_nil ⟨σ3,H3,I4,qn⟩
 . refine wpAny_passesOwn hp (thn (T.item X rfl rfl rfl hc i pins s3 σ3 H3 X.xe I3 (stat fr3) st3 go) fun r s4 ⟨u,hr,h4⟩=>?_)
   subst hr
   refine wpAny_passesOwn hp (thn h4 fun _ s5 ⟨x,H5,I5,r5,y5,st5,fr5⟩=>?_)
   have I5':=I5.pinned (stat fr5) (T.obj _ _ st5)
   refine wpAny_passesOwn hp (thn (hg _ s5 σ3 H5 x u _ I5' r5 (step x H5 y5)) fun _ s6 ⟨σ6,H6,I6,q6⟩=>?_)
   refine wpAny_passesOwn hp (thn (hb _ s6 σ6 H6 _ I6 q6) fun f s7 q7=>?_)
   have again:∀ {σ7:St} {H7:Hp},Inv X (pins++mO fp s5.heap) σ7 H7 s7->N σ7 H7->∃ m,m<n/\∃ i σ' H',Inv X pins σ' H' s7/\tn i s7.heap/\(∀ b∈fp,H' b=none)/\W i m σ' H':=fun {σ7 H7} I7 n7=>by
    obtain ⟨m',hm,w7⟩:=hN σ7 H7 n7
    refine ⟨m',hm,i+1,σ7,H7,I7.unpinned,T.keep _ _ _ st5 fun b hb o e=>(I7.pin (b,o) (List.mem_append_right _ (List.mem_append_right _ (kz hb e)))).1,fun b hb=>?_,w7⟩
    obtain ⟨o,e,d⟩:=T.obj _ _ st5 b hb
    exact (I7.pin (b,o) (List.mem_append_right _ (List.mem_append_right _ (kz hb e)))).2.1
   cases f with
   | next=>obtain ⟨σ7,H7,I7,n7⟩:=q7; exact again I7 n7
   | cont=>obtain ⟨σ7,H7,I7,n7⟩:=q7; exact again I7 n7
   | brk=>obtain ⟨σ7,H7,I7,q7⟩:=q7; exact ⟨σ7,H7,I7.unpinned,q7⟩
   | ret v=>obtain ⟨x7,σ7,H7,I7,r7,q7⟩:=q7; exact ⟨x7,σ7,H7,I7.unpinned,r7,q7⟩
end
theorem c8 {K:Frag} {a:Addr} {xs:List V} {g:TG} {tb:TS} {D:Ends} {σ:St} {H:Hp} (Pv:Nat->St->Hp->Prop) (h0:Pv 0 σ H) (hl:∀ i σ H,i<=xs.length->Pv i σ H->SqL K H a xs)
  (hs:∀ i x σ H,xs[i]? =some x->Pv i σ H->g x σ H fun σ2 H2=>tb { D with nx:=Pv (i+1),ct:=Pv (i+1),bk:=D.nx } σ2 H2) (hd:∀ σ H,Pv xs.length σ H->D.nx σ H):
  ∃ W:Nat->Nat->St->Hp->Prop,(∃ m,W 0 m σ H)/\∀ i m σ H,W i m σ H->
   ((Itl K a).stop i H/\D.nx σ H)\/((Itl K a).go i H/\∃ N:St->Hp->Prop,(∀ σ' H',N σ' H'->∃ m',m'<m/\W (i+1) m' σ' H')/\∀ x H',(Itl K a).yld i H x H'->g x σ H' fun σ2 H2=>tb { D with nx:=N,ct:=N,bk:=D.nx } σ2 H2):=by
 refine ⟨fun i m σ H=>m=xs.length-i/\i<=xs.length/\Pv i σ H,⟨xs.length,by simp,Nat.zero_le _,h0⟩,?_⟩
 rintro i m σ H ⟨rfl,hi,p⟩
 have q:=hl i σ H hi p
 by_cases hlt:i<xs.length
 . refine .inr ⟨⟨xs,xs[i],q,by simp [hlt]⟩,Pv (i+1),fun σ' H' p'=>⟨xs.length - (i+1),by omega,rfl,hlt,p'⟩,fun x H' y=>?_⟩
   obtain ⟨e,y⟩:=y
   subst e
   exact hs i x σ _ (y xs q) p
 . have e:i=xs.length:=by omega
   subst e
   exact .inl ⟨⟨xs,q,Nat.le_refl _⟩,hd σ H p⟩
theorem kd {lo:Int} {n:Nat} {g:TG} {tb:TS} {D:Ends} {σ:St} {H:Hp} (Pv:Nat->St->Hp->Prop) (h0:Pv 0 σ H)
  (hs:∀ i σ H,i<n->Pv i σ H->g (.int (lo+i)) σ H fun σ2 H2=>tb { D with nx:=Pv (i+1),ct:=Pv (i+1),bk:=D.nx } σ2 H2) (hd:∀ σ H,Pv n σ H->D.nx σ H):
  ∃ W:Nat->Nat->St->Hp->Prop,(∃ m,W 0 m σ H)/\∀ i m σ H,W i m σ H->
   ((Itr lo n).stop i H/\D.nx σ H)\/((Itr lo n).go i H/\∃ N:St->Hp->Prop,(∀ σ' H',N σ' H'->∃ m',m'<m/\W (i+1) m' σ' H')/\∀ x H',(Itr lo n).yld i H x H'->g x σ H' fun σ2 H2=>tb { D with nx:=N,ct:=N,bk:=D.nx } σ2 H2):=by
 refine ⟨fun i m σ H=>m=n-i/\i<=n/\Pv i σ H,⟨n,by simp,Nat.zero_le _,h0⟩,?_⟩
 rintro i m σ H ⟨rfl,hi,p⟩
 by_cases hlt:i<n
 . refine .inr ⟨hlt,Pv (i+1),fun σ' H' p'=>⟨n - (i+1),by omega,rfl,hlt,p'⟩,fun x H' y=>?_⟩
   obtain ⟨e,y⟩:=y
   subst e y
   exact hs i σ _ hlt p
 . have e:i=n:=by omega
   subst e
   exact .inl ⟨Nat.le_refl _,hd σ H p⟩
end L2
namespace L2
open PySem PySem.Spec PyProof.Rows
abbrev R2:=V->V->Hp->VK->Prop
def OpR (X:Cx) (f:Value->Value->Sem Value) (r:R2):Prop:=
 ∀ (pins:List (Addr × Obj)) (s:Shared) (σ:St) (H:Hp) (x y:V) (v u:Value) (Q:VK),Inv X pins σ H s->RelV x v->RelV y u->r x y H Q->
  wpAny (model X.prog X.w) X.A (f v u) (EP X pins σ Q) X.xe s
def UnR (X:Cx) (f:Value->Sem Value) (r:V->Hp->VK->Prop):Prop:=
 ∀ (pins:List (Addr × Obj)) (s:Shared) (σ:St) (H:Hp) (x:V) (v:Value) (Q:VK),Inv X pins σ H s->RelV x v->r x H Q->
  wpAny (model X.prog X.w) X.A (f v) (EP X pins σ Q) X.xe s
def CallR (X:Cx) (f:Value) (r:List V->Hp->VK->Prop):Prop:=
 ∀ (pins:List (Addr × Obj)) (s:Shared) (σ:St) (H:Hp) (xs:List V) (us:List Value) (Q:VK),Inv X pins σ H s->Vals xs us->r xs H Q->
  wpAny (model X.prog X.w) X.A (call f us) (EP X pins σ Q) X.xe s
def tOp (r:R2) (ta tb:TE):TE:=fun σ H Q=>ta σ H fun x H1=>tb σ H1 fun y H2=>r x y H2 Q
def tUn (r:V->Hp->VK->Prop) (ta:TE):TE:=fun σ H Q=>ta σ H fun x H1=>r x H1 Q
def rI (C:Int->Int->Prop) (g:Int->Int->V):R2:=fun x y H Q=>∃ i j,x=.int i/\y=.int j/\C i j/\Q (g i j) H
def rI0 (g:Int->Int->V):R2:=fun x y H Q=>∃ i j,x=.int i/\y=.int j/\Q (g i j) H
def rU (g:Int->V):V->Hp->VK->Prop:=fun x H Q=>∃ i,x=.int i/\Q (g i) H
section
variable {X:Cx} {a b c:Expr} {ta tb tc:TE} {pos:Pos}
theorem binT (ha:PE X a ta) (hb:PE X b tb) {pins:List (Addr × Obj)} {s:Shared} {σ:St} {H:Hp} {R:V->V->Hp->Prop} (I:Inv X pins σ H s)
  (h:ta σ H fun x H1=>tb σ H1 fun y H2=>R x y H2) {Q:Value->Shared->Prop} {f:Value->Value->Sem Value}
  (hf:∀ v u s2 x y H2,Inv X pins σ H2 s2->RelV x v->RelV y u->R x y H2->wpAny (model X.prog X.w) X.A (f v u) Q X.xe s2):
  wpAny (model X.prog X.w) X.A (eval a X.env) (fun v s₁=>wpAny (model X.prog X.w) X.A (eval b X.env) (fun u s₂=>wpAny (model X.prog X.w) X.A (f v u) Q X.xe s₂) X.xe s₁) X.xe s:=by
 refine thn (ha pins s σ H _ I h) fun v s1 ⟨x,H1,I1,r1,q1⟩=>?_
 refine thn (hb pins s1 σ H1 _ I1 q1) fun u s2 ⟨y,H2,I2,r2,q2⟩=>?_
 exact hf v u s2 x y H2 I2 r1 r2 q2
theorem ag {op:Operator} {r:R2} (ho:OpR X (binaryOp op) r) (ha:PE X a ta) (hb:PE X b tb):PE X (.BinOp a op b pos) (tOp r ta tb):=by
 intro pins s σ H Q I h
 exact wpAny_BinOp (binT ha hb I h fun v u s2 x y H2 I2 rx ry q=>ho pins s2 σ H2 x y v u Q I2 rx ry q)
theorem zv {op:UnaryOp} {r:V->Hp->VK->Prop} (ho:UnR X (unaryOp op) r) (ha:PE X a ta):PE X (.UnaryOp op a pos) (tUn r ta):=by
 intro pins s σ H Q I h
 exact UnaryOp_ (thn (ha pins s σ H _ I h) fun v s1 ⟨x,H1,I1,r1,q1⟩=>ho pins s1 σ H1 x v Q I1 r1 q1)
theorem opI {f:Value->Value->Sem Value} {C:Int->Int->Prop} {g:Int->Int->Int}
  (rule:∀ (i j:Int) (t u:Tok) (s:Shared) (Q:Value->Shared->Prop) (E:Value->Shared->Prop),C i j->Q (.int (g i j) s.toks) { s with toks:=s.toks+1 }->wpAny (model X.prog X.w) X.A (f (.int i t) (.int j u)) Q E s):
  OpR X f (rI C fun i j=>.int (g i j)):=by
 intro pins s σ H x y v u Q I rx ry h
 obtain ⟨i,j,rfl,rfl,hc,q⟩:=h
 obtain ⟨t,rfl⟩:=rx
 obtain ⟨t',rfl⟩:=ry
 exact rule i j t t' s _ _ hc ⟨.int (g i j),H,I.tok _,⟨_,rfl⟩,q⟩
theorem yN {f:Value->Value->Sem Value} {g:Int->Int->Int}
  (rule:∀ (i j:Int) (t u:Tok) (s:Shared) (Q:Value->Shared->Prop) (E:Value->Shared->Prop),Q (.int (g i j) s.toks) { s with toks:=s.toks+1 }->wpAny (model X.prog X.w) X.A (f (.int i t) (.int j u)) Q E s):
  OpR X f (rI0 fun i j=>.int (g i j)):=by
 intro pins s σ H x y v u Q I rx ry h
 obtain ⟨i,j,rfl,rfl,q⟩:=h
 obtain ⟨t,rfl⟩:=rx
 obtain ⟨t',rfl⟩:=ry
 exact rule i j t t' s _ _ ⟨.int (g i j),H,I.tok _,⟨_,rfl⟩,q⟩
theorem vT {f:Value->Value->Sem Value} {g:Int->Int->Bool}
  (rule:∀ (i j:Int) (t u:Tok) (s:Shared) (Q:Value->Shared->Prop) (E:Value->Shared->Prop),Q (.bool (g i j)) s->wpAny (model X.prog X.w) X.A (f (.int i t) (.int j u)) Q E s):
  OpR X f (rI0 fun i j=>.bl (g i j)):=by
 intro pins s σ H x y v u Q I rx ry h
 obtain ⟨i,j,rfl,rfl,q⟩:=h
 obtain ⟨t,rfl⟩:=rx
 obtain ⟨t',rfl⟩:=ry
 exact rule i j t t' s _ _ ⟨.bl (g i j),H,I,rfl,q⟩
def CDiv (i j:Int):Prop:=0<j/\j<1073741824
def CPow (i j:Int):Prop:=0<=j/\j<=1000000/\i.natAbs<2^64
def CMul (i j:Int):Prop:=(-(2^64)<i/\i<2^64)\/(-(2^64)<j/\j<2^64)
theorem CMul.ok {i j:Int} (h:CMul i j):IntMulOk i j:=by
 rcases h with ⟨h1,h2⟩ | ⟨h1,h2⟩
 . exact .of_left (intBits_le_64 h1 h2)
 . exact .of_right (intBits_le_64 h1 h2)
theorem vU (k:Nat):(0:Int)<=2^k:=by
 rw [two_pow_cast]
 exact Int.natCast_nonneg _
theorem Ax:OpR X (binaryOp .Add) (rI0 fun i j=>.int (i+j)):=yN fun _ _ _ _ _ _ _ q=>add_int q
theorem Ay:OpR X (binaryOp .Sub) (rI0 fun i j=>.int (i-j)):=yN fun _ _ _ _ _ _ _ q=>sub_int q
theorem Az:OpR X (binaryOp .Mult) (rI CMul fun i j=>.int (i*j)):=opI fun _ _ _ _ _ _ _ hc q=>mul_int q hc.ok
theorem zH:OpR X (binaryOp .FloorDiv) (rI CDiv fun i j=>.int (i/j)):=opI fun i j _ _ _ _ _ hc q=>by
 have h1:(0:Int)<j:=hc.1
 have h2:j<1073741824:=hc.2
 exact floordiv_int (by omega) (by rw [Int.fdiv_eq_ediv_of_nonneg i (by omega)]; exact q) (.inl (PyProof.noPylong_small (by omega)))
theorem AA:OpR X (binaryOp .Mod) (rI (fun _ j=>0<j) fun i j=>.int (i%j)):=opI fun i j _ _ _ _ _ hc q=>by
 have h1:(0:Int)<j:=hc
 exact mod_int' (by omega) (by rw [Int.fmod_eq_emod_of_nonneg i (by omega)]; exact q)
theorem AB:OpR X (binaryOp .RShift) (rI (fun _ j=>0<=j) fun i j=>.int (i/2^j.toNat)):=opI fun i j _ _ _ _ _ hc q=>
 rshift_int hc (by rw [Int.fdiv_eq_ediv_of_nonneg i (vU _)]; exact q)
theorem Bm:OpR X (binaryOp .BitOr) (rI0 fun i j=>.int (Builtin.bitOr i j)):=yN fun _ _ _ _ _ _ _ q=>or_int q
theorem unI {f:Value->Sem Value} {g:Int->Int}
  (rule:∀ (i:Int) (t:Tok) (s:Shared) (Q:Value->Shared->Prop) (E:Value->Shared->Prop),Q (.int (g i) s.toks) { s with toks:=s.toks+1 }->wpAny (model X.prog X.w) X.A (f (.int i t)) Q E s):
  UnR X f (rU fun i=>.int (g i)):=by
 intro pins s σ H x v Q I rx h
 obtain ⟨i,rfl,q⟩:=h
 obtain ⟨t,rfl⟩:=rx
 exact rule i t s _ _ ⟨.int (g i),H,I.tok _,⟨_,rfl⟩,q⟩
theorem xi:UnR X (unaryOp .USub) (rU fun i=>.int (-i)):=unI fun _ _ _ _ _ q=>neg_int q
end
def scal:V->V->Bool
 | .non,.non=>true | .non,.int _=>true | .int _,.non=>true | .non,.bl _=>true | .bl _,.non=>true | .non,.str _=>true | .str _,.non=>true
 | .int _,.int _=>true | .bl _,.bl _=>true | .str _,.str _=>true | .byt _,.byt _=>true
 | .int _,.str _=>true | .str _,.int _=>true | .bl _,.str _=>true | .str _,.bl _=>true
 | _,_=>false
def rEq:R2:=fun x y H Q=>scal x y=true/\Q (.bl (decide (x=y))) H
def rNe:R2:=fun x y H Q=>scal x y=true/\Q (.bl (!decide (x=y))) H
theorem vx {i j:Int}:decide (V.int i=V.int j)=(i==j):=by
 rw [Bool.eq_iff_iff]
 simp
theorem xj {i j:Bool}:decide (V.bl i=V.bl j)=(i==j):=by
 rw [Bool.eq_iff_iff]
 simp
theorem vy {i j:Str}:decide (V.str i=V.str j)=(i==j):=by
 rw [Bool.eq_iff_iff]
 simp
theorem vz {i j:Array UInt8}:decide (V.byt i=V.byt j)=(i.toList==j.toList):=by
 rw [Bool.eq_iff_iff]
 cases i
 cases j
 simp
section
variable {X:Cx} {a b c:Expr} {ta tb tc:TE} {pos:Pos}
theorem aR {pins:List (Addr × Obj)} {σ:St} {H:Hp} {s:Shared} {Q:VK} {k k':Bool} (I:Inv X pins σ H s) (q:Q (.bl k) H) (e:k=k'):EP X pins σ Q (.bool k') s:=by
 subst e
 exact ⟨.bl k,H,I,rfl,q⟩
theorem vV:OpR X (compareOp .Eq) rEq:=by
 intro pins s σ H x y v u Q I rx ry h
 obtain ⟨hs,q⟩:=h
 cases x with
 | non=>
  cases rx
  cases y with
  | non=>cases ry; exact PySem.EqNone.eq_none_none (aR I q (by simp))
  | bl j=>cases ry; exact PySem.EqNone.eq_none_bool (aR I q (by simp))
  | int j=>obtain ⟨t',rfl⟩:=ry; exact PySem.EqNone.eq_none_int (aR I q (by simp))
  | str j=>obtain ⟨t',rfl⟩:=ry; exact PySem.EqNone.eq_none_str (aR I q (by simp))
  | _=>exact absurd (show false=true from hs) Bool.false_ne_true
 | bl i=>
  cases rx
  cases y with
  | non=>cases ry; exact PySem.EqNone.eq_bool_none (aR I q (by simp))
  | bl j=>cases ry; exact eq_bool (aR I q xj)
  | str j=>obtain ⟨t',rfl⟩:=ry; exact PySem.EqMixed.eq_bool_str (aR I q (by simp))
  | _=>exact absurd (show false=true from hs) Bool.false_ne_true
 | int i=>
  obtain ⟨t,rfl⟩:=rx
  cases y with
  | non=>cases ry; exact PySem.EqNone.eq_int_none (aR I q (by simp))
  | int j=>obtain ⟨t',rfl⟩:=ry; exact eq_int (aR I q vx)
  | str j=>obtain ⟨t',rfl⟩:=ry; exact PySem.EqMixed.eq_int_str (aR I q (by simp))
  | _=>exact absurd (show false=true from hs) Bool.false_ne_true
 | str i=>
  obtain ⟨t,rfl⟩:=rx
  cases y with
  | non=>cases ry; exact PySem.EqNone.eq_str_none (aR I q (by simp))
  | bl j=>cases ry; exact PySem.EqMixed.eq_str_bool (aR I q (by simp))
  | int j=>obtain ⟨t',rfl⟩:=ry; exact PySem.EqMixed.eq_str_int (aR I q (by simp))
  | str j=>obtain ⟨t',rfl⟩:=ry; exact eq_str (aR I q vy)
  | _=>exact absurd (show false=true from hs) Bool.false_ne_true
 | byt i=>
  obtain ⟨t,rfl⟩:=rx
  cases y with
  | byt j=>obtain ⟨t',rfl⟩:=ry; exact PySem.W.eq_bytes (aR I q vz)
  | _=>exact absurd (show false=true from hs) Bool.false_ne_true
 | _=>cases y <;> exact absurd (show false=true from hs) Bool.false_ne_true
theorem vW:OpR X (compareOp .NotEq) rNe:=by
 intro pins s σ H x y v u Q I rx ry h
 obtain ⟨hs,q⟩:=h
 cases x with
 | non=>
  cases rx
  cases y with
  | non=>cases ry; exact PySem.EqNone.ne_none_none (aR I q (by simp))
  | bl j=>cases ry; exact PySem.EqNone.ne_none_bool (aR I q (by simp))
  | int j=>obtain ⟨t',rfl⟩:=ry; exact PySem.EqNone.ne_none_int (aR I q (by simp))
  | str j=>obtain ⟨t',rfl⟩:=ry; exact PySem.EqNone.ne_none_str (aR I q (by simp))
  | _=>exact absurd (show false=true from hs) Bool.false_ne_true
 | bl i=>
  cases rx
  cases y with
  | non=>cases ry; exact PySem.EqNone.ne_bool_none (aR I q (by simp))
  | bl j=>cases ry; exact ne_bool (aR I q (congrArg not xj))
  | str j=>obtain ⟨t',rfl⟩:=ry; exact PySem.EqMixed.ne_bool_str (aR I q (by simp))
  | _=>exact absurd (show false=true from hs) Bool.false_ne_true
 | int i=>
  obtain ⟨t,rfl⟩:=rx
  cases y with
  | non=>cases ry; exact PySem.EqNone.ne_int_none (aR I q (by simp))
  | int j=>obtain ⟨t',rfl⟩:=ry; exact ne_int (aR I q (congrArg not vx))
  | str j=>obtain ⟨t',rfl⟩:=ry; exact PySem.EqMixed.ne_int_str (aR I q (by simp))
  | _=>exact absurd (show false=true from hs) Bool.false_ne_true
 | str i=>
  obtain ⟨t,rfl⟩:=rx
  cases y with
  | non=>cases ry; exact PySem.EqNone.ne_str_none (aR I q (by simp))
  | bl j=>cases ry; exact PySem.EqMixed.ne_str_bool (aR I q (by simp))
  | int j=>obtain ⟨t',rfl⟩:=ry; exact PySem.EqMixed.ne_str_int (aR I q (by simp))
  | str j=>obtain ⟨t',rfl⟩:=ry; exact ne_str (aR I q (congrArg not vy))
  | _=>exact absurd (show false=true from hs) Bool.false_ne_true
 | byt i=>
  obtain ⟨t,rfl⟩:=rx
  cases y with
  | byt j=>obtain ⟨t',rfl⟩:=ry; exact PySem.W.ne_bytes (aR I q (congrArg not vz))
  | _=>exact absurd (show false=true from hs) Bool.false_ne_true
 | _=>cases y <;> exact absurd (show false=true from hs) Bool.false_ne_true
theorem Bn:OpR X (compareOp .Lt) (rI0 fun i j=>.bl (decide (i<j))):=vT fun _ _ _ _ _ _ _ q=>lt_int q
theorem Bo:OpR X (compareOp .LtE) (rI0 fun i j=>.bl (decide (i<=j))):=vT fun _ _ _ _ _ _ _ q=>le_int q
theorem Bp:OpR X (compareOp .Gt) (rI0 fun i j=>.bl (decide (j<i))):=vT fun _ _ _ _ _ _ _ q=>gt_int q
theorem Bq:OpR X (compareOp .GtE) (rI0 fun i j=>.bl (decide (j<=i))):=vT fun _ _ _ _ _ _ _ q=>ge_int q
theorem xk:OpR X (compareOp .In) (fun x y H Q=>∃ i j,x=.str i/\y=.str j/\Q (.bl (!(Builtin.Str.occurrences j i 0 j.length 1).isEmpty)) H):=by
 intro pins s σ H x y v u Q I rx ry h
 obtain ⟨i,j,rfl,rfl,q⟩:=h
 obtain ⟨t,rfl⟩:=rx
 obtain ⟨t',rfl⟩:=ry
 exact in_str (aR I q rfl)
theorem AC:OpR X (compareOp .Is) (fun x y H Q=>y=.non/\Q (.bl (decide (x=.non))) H):=by
 intro pins s σ H x y v u Q I rx ry h
 obtain ⟨rfl,q⟩:=h
 cases ry
 refine is_none_gen (aR I q ?_)
 cases x <;> first
  | (cases rx; rfl)
  | (obtain ⟨t,rfl⟩:=rx; rfl)
theorem ak (b:Expr) {op:CmpOp} (h:op≠.In:=by decide) (h2:op≠.NotIn:=by decide):behindInMarks op b=false:=by
 have e1:(op==CmpOp.In)=false:=by cases op <;> first | rfl | exact absurd rfl h
 have e2:(op==CmpOp.NotIn)=false:=by cases op <;> first | rfl | exact absurd rfl h2
 cases b <;> simp [behindInMarks,e1,e2]
theorem aM {op:CmpOp} {r:R2} (ho:OpR X (compareOp op) r) (ha:PE X a ta) (hb:PE X b tb) (hm:behindInMarks op b=false):PE X (.Compare a [op] [b] pos) (tOp r ta tb):=by
 intro pins s σ H Q I h
 exact wpAny_Compare1 (binT ha hb I h fun v u s2 x y H2 I2 rx ry q=>ho pins s2 σ H2 x y v u Q I2 rx ry q) hm
def tTest (t:TE):TT:=fun σ H Q=>t σ H fun x H'=>∃ k,x=.bl k/\Q k H'
theorem am {op:CmpOp} {r:R2} (ho:OpR X (compareOp op) r) (ha:PE X a ta) (hb:PE X b tb) (hm:behindInMarks op b=false):PT X (.Compare a [op] [b] pos) (tTest (tOp r ta tb)):=by
 intro pins s σ H Q I h
 refine wpAny_isTrue_Compare1 (thn (ha pins s σ H _ I h) fun v s1 ⟨x,H1,I1,r1,q1⟩=>thn (hb pins s1 σ H1 _ I1 q1) fun u s2 ⟨y,H2,I2,r2,q2⟩=>
  thn (ho pins s2 σ H2 x y v u _ I2 r1 r2 q2) fun c s3 ⟨z,H3,I3,r3,k,e,q3⟩=>?_) hm
 subst e
 cases r3
 exact wpAny_truthy_bool ⟨H3,I3,q3⟩
def tF (r r':R2) (ta tb tc:TE):TE:=fun σ H Q=>ta σ H fun x H1=>tb σ H1 fun y H2=>r x y H2 fun z H3=>∃ k,z=.bl k/\
 (if k=true then tc σ H3 fun w' H4=>r' y w' H4 Q else Q (.bl false) H3)
theorem yO {op op':CmpOp} {r r':R2} (ho:OpR X (compareOp op) r) (ho':OpR X (compareOp op') r') (ha:PE X a ta) (hb:PE X b tb) (hc:PE X c tc)
  (hm:lastMarks [op,op'] [b,c]=false:=by with_unfolding_all rfl):PT X (.Compare a [op,op'] [b,c] pos) (tTest (tF r r' ta tb tc)):=by
 intro pins s σ H Q I h
 refine isTrue_chain (thn (ha pins s σ H _ I h) fun v s1 ⟨x,H1,I1,r1,q1⟩=>test_link (thn (hb pins s1 σ H1 _ I1 q1) fun u s2 ⟨y,H2,I2,r2,q2⟩=>
  thn (ho pins s2 σ H2 x y v u _ I2 r1 r2 q2) fun d s3 ⟨z,H3,I3,r3,k,e,q3⟩=>?_)) hm
 subst e
 cases r3
 refine wpAny_truthy_bool ?_
 cases k with
 | false=>
  obtain ⟨k',e',q'⟩:=q3
  cases e'
  exact ite_ff ⟨H3,I3,q'⟩
 | true=>
  refine ite_tt (test_last (thn (hc pins s3 σ H3 _ I3 q3) fun w' s4 ⟨z',H4,I4,r4,q4⟩=>thn (ho' pins s4 σ H4 y z' u w' _ I4 r2 r4 q4) fun d' s5 ⟨z2,H5,I5,r5,k2,e2,q5⟩=>?_))
  subst e2
  cases r5
  exact wpAny_truthy_bool ⟨H5,I5,q5⟩
theorem mP:(sizeLine:Nat)<2^63:=by rw [sizeLine_eq]; decide
theorem vX:OpR X (binaryOp .Add) (fun x y H Q=>∃ i j,x=.str i/\y=.str j/\i.length+j.length<=sizeLine/\Q (.str (i++j)) H):=by
 intro pins s σ H x y v u Q I rx ry h
 obtain ⟨i,j,rfl,rfl,hz,q⟩:=h
 obtain ⟨t,rfl⟩:=rx
 obtain ⟨t',rfl⟩:=ry
 exact add_str (fun t' tk=>⟨.str (i++j),H,I.tok _,⟨_,rfl⟩,q⟩) hz
theorem cV {x:V} {us:List Value} (r:Vals [x] us):∃ u,us=[u]/\RelV x u:=by
 cases r with
 | cons r1 r2=>cases r2; exact ⟨_,rfl,r1⟩
theorem Br {x y:V} {us:List Value} (r:Vals [x,y] us):∃ u w',us=[u,w']/\RelV x u/\RelV y w':=by
 cases r with
 | cons r1 r2=>
  cases r2 with
  | cons r3 r4=>cases r4; exact ⟨_,_,rfl,r1,r3⟩
theorem rG:CallR X (.type "int") (fun xs H Q=>(∃ i,xs=[.int i]/\Q (.int i) H)\/∃ k,xs=[.bl k]/\Q (.int (if k then 1 else 0)) H):=by
 intro pins s σ H xs us Q I r h
 rcases h with ⟨i,rfl,q⟩ | ⟨k,rfl,q⟩
 . obtain ⟨u,rfl,t,rfl⟩:=cV r
   exact call_int_int ⟨.int i,H,I,⟨_,rfl⟩,q⟩
 . obtain ⟨u,rfl,r1⟩:=cV r
   cases r1
   exact call_int_bool ⟨.int (if k then 1 else 0),H,I.tok _,⟨_,rfl⟩,q⟩
end
end L2
namespace L2
open PySem PySem.Spec PyProof.Rows
structure ObjM (h:Heap) (x dx C:Addr) (mA:Str->Option Value):Prop where
 obj:h.get? x=some (PySem.W.instObj C dx)
 ns:h.Ns1 dx mA
 ne:dx≠x
theorem xm {h:Heap} {dx:Addr} {mA:Str->Option Value} (n:h.Ns1 dx mA):∃ od,h.get? dx=some od/\∀ name,PySem.W.lookIn name od=some (mA name):=by
 obtain ⟨o,es,ep,ho,hd,hk,_,hm⟩:=n
 refine ⟨o,ho,fun name=>?_⟩
 have e:=hm name
 unfold nsFind findBy at e
 rw [← Array.find?_toList] at e
 unfold PySem.W.lookIn
 rw [hd]
 dsimp only
 split
 . rename_i y q
   rw [q] at e
   exact congrArg some e
 . rename_i q
   rw [q] at e
   have a:es.toList.any (·.refKey)=false:=by
    rw [List.any_eq_false]
    intro y hy
    obtain ⟨z,t,hkey⟩:=hk y (Array.mem_toList_iff.mp hy)
    simp [DictEntry.refKey,hkey]
   have a':¬ es.toList.any (·.refKey)=true:=by rw [a]; exact Bool.false_ne_true
   rw [if_neg a']
   exact congrArg some e
theorem ObjM.look {h:Heap} {x dx C:Addr} {mA:Str->Option Value} (I:ObjM h x dx C mA):∃ od,PySem.W.InstAt h x (PySem.W.instObj C dx) C (some od)/\∀ name,PySem.W.lookIn name od=some (mA name):=
 let ⟨od,ho,hl⟩:=xm I.ns
 ⟨od,⟨I.obj,rfl,rfl,ho⟩,hl⟩
section
variable {prog:Program} {w:World} {A:Around} {E:Value->Shared->Prop} {s:Shared} {K:Frag} {x dx C f:Addr} {mA:Str->Option Value} {name:Str} {v:Value}
theorem zI {expr:Bool} {Q:Value->Shared->Prop} (X:K.In s.heap) (I:ObjM s.heap x dx C mA) (hg:PySem.W.plainGet K C name=true) (hh:PySem.W.hasDictIn K C=true)
  (ha:PySem.W.findIn K (.ref C) name=some none) (hv:mA name=some v) (hv':PySem.W.handedIn v=true) (h:Q v { s with toks:=s.toks+1 }):
  wpAny (model prog w) A (getAttr (.ref x) name expr) Q E s:=by
 obtain ⟨od,J,hl⟩:=I.look
 exact PySem.W.get_value X J (PySem.W.plainGet_of hg).1 (PySem.W.findObj_own hh ha rfl (by rw [hl,hv])) hv' h
theorem yP {pl:Sem Bool} {Q:Value × List Value->Shared->Prop} (X:K.In s.heap) (I:ObjM s.heap x dx C mA) (hg:PySem.W.plainGet K C name=true)
  (hf:PySem.W.findIn K (.ref C) name=some (some (.ref f))) (ht:PySem.W.isFn K (.ref f)=true) (hv:mA name=none) (h:Q (.ref f,[.ref x]) s):
  wpAny (model prog w) A (getMethod (.ref x) name pl) Q E s:=by
 obtain ⟨od,J,hl⟩:=I.look
 exact PySem.W.method_fn X J (PySem.W.plainGet_of hg).1 (PySem.W.plainGet_of hg).2 hf (beq_iff_eq.mp ht) (by show (PySem.W.lookIn name od).map (·.isSome)=some false; rw [hl,hv]; rfl) h
theorem zJ {ns:List Str} {Q:Unit->Shared->Prop} (X:K.In s.heap) (I:ObjM s.heap x dx C mA)
  (hs:PySem.W.findIn K (.ref C) "__setattr__"=some (some (.builtin "object.__setattr__"))) (hp:PySem.W.plainOver K C=true) (ht:PySem.W.takerIn K C name=some none) (hh:PySem.W.hasDictIn K C=true)
  (hw:PySem.Within mA ns) (hsz:ns.length<=sizeLine)
  (h:∀ h',ObjM h' x dx C (fun y=>if y=name then some v else mA y)->Heap.SameBut dx s.heap h'->Q () { s with heap:=h',toks:=s.toks+2 }):
  wpAny (model prog w) A (setAttr (.ref x) name v) Q E s:=by
 obtain ⟨od,J,hl⟩:=I.look
 refine PySem.W.set_plain X J hs (PySem.W.osa_open (s:={ s with toks:=s.toks+1 }) (r:=none) X J hp ht fun b=>?_)
 obtain ⟨cd,hc,hd'⟩:=PySem.W.any_some hh
 have hx:s.heap.get? x=some ⟨.ref C,some dx,.plain,#[]⟩:=I.obj
 refine wpAny_bind (wpAny_pure (wpAny_bind (wpAny_bind (wpAny_loadPart hx (wpAny_bind (PySem.W.Looks.here (s:={ s with toks:=s.toks+1 }) (PySem.W.looks_clsIn X hc) ?_))))))
 rw [hd']
 refine wpAny_pure (a:=some dx) (wpAny_bind (wpAny_pure (wpAny_bind ?_)))
 refine wpAny_nsSet1 (s:={ s with toks:=s.toks+1 }) I.ns fun h' hn2 hs2=>?_
 obtain ⟨oD,esD,epD,hoD,hdD,hcD⟩:=hn2.count (PySem.Within.cons name v hw)
 refine wpAny_bind (wpAny_lookBehind hoD (by rw [hdD]; exact pastItsLine_dict (Nat.le_trans hcD (by rw [List.length_cons]; omega))) ?_)
 exact wpAny_pure (h _ ⟨(hs2.2 _ (Ne.symm I.ne)).trans I.obj,hn2,I.ne⟩ hs2)
theorem yQ {R:Result->Shared->Prop} {vs:List Value} {kw:List (Str × Value)} (X:K.In s.heap) (hm:PySem.W.makesIn K C=true)
  (hi:PySem.W.findIn K (.ref C) "__init__"=some (some (.ref f))) (hf:PySem.W.typeIn K (.ref f)=some (.type "function"))
  (h:codeAny (model prog w) (A.under (.builtin "type.__call__" ⟨.ref C::vs,kw⟩)) (.call (.ref f) ⟨.ref (s.heap.objs.size+1)::vs,kw⟩) (PySem.W.InitBack (s.heap.objs.size+1) R)
   { s with heap:=(s.heap.push PySem.W.emptyDict).push (PySem.W.instObj C s.heap.objs.size) }):
  codeAny (model prog w) A (.call (.ref C) ⟨vs,kw⟩) R s:=by
 obtain ⟨hh,g,d,t,os⟩:=s
 exact PySem.W.make_core (PySem.W.makes_of X hm) (PySem.W.looks_findIn X hi) (fun self=>PySem.W.bind_fn X self hf) (.inl rfl) h
end
def putF (f:Str) (v:V):List (Str × V)->List (Str × V)
 | []=>[(f,v)]
 | (g,x)::r=>if g=f then (g,v)::r else (g,x)::putF f v r
theorem oq (f g:Str) (v:V):∀ fs:List (Str × V),(putF f v fs).lookup g=if g=f then some v else fs.lookup g
 | []=>by
  show List.lookup g [(f,v)]=_
  by_cases h:g=f
  . have hb:(g==f)=true:=beq_iff_eq.mpr h
    simp only [List.lookup,hb,if_pos h]
  . have hb:(g==f)=false:=beq_eq_false_iff_ne.mpr h
    simp only [List.lookup,hb,if_neg h]
 | (k,x)::r=>by
  have ih:=oq f g v r
  rw [show putF f v ((k,x)::r)=(if k=f then (k,v)::r else (k,x)::putF f v r) from rfl]
  by_cases hk:k=f
  . rw [if_pos hk]
    by_cases h:g=k
    . have hb:(g==k)=true:=beq_iff_eq.mpr h
      simp only [List.lookup,hb,if_pos (h.trans hk)]
    . have hb:(g==k)=false:=beq_eq_false_iff_ne.mpr h
      simp only [List.lookup,hb,if_neg (fun e:g=f=>h (e.trans hk.symm))]
  . rw [if_neg hk]
    by_cases h:g=k
    . have hb:(g==k)=true:=beq_iff_eq.mpr h
      simp only [List.lookup,hb,if_neg (fun e:g=f=>hk (h.symm.trans e))]
    . have hb:(g==k)=false:=beq_eq_false_iff_ne.mpr h
      simp only [List.lookup,hb]
      exact ih
theorem mQ (f:Str) (v:V):∀ fs:List (Str × V),f∈(putF f v fs).map (·.1)/\∀ g,g∈fs.map (·.1)->g∈(putF f v fs).map (·.1)
 | []=>⟨by simp [putF],fun g h=>by simp at h⟩
 | (k,x)::r=>by
  obtain ⟨i1,i2⟩:=mQ f v r
  rw [show putF f v ((k,x)::r)=(if k=f then (k,v)::r else (k,x)::putF f v r) from rfl]
  by_cases hk:k=f
  . rw [if_pos hk]
    subst hk
    exact ⟨by simp,fun g h=>by simpa using h⟩
  . rw [if_neg hk]
    refine ⟨?_,fun g h=>?_⟩
    . rw [List.map_cons]
      exact List.mem_cons_of_mem _ i1
    . rw [List.map_cons] at h ⊢
      rcases List.mem_cons.mp h with e | e
      . exact List.mem_cons.mpr (.inl e)
      . exact List.mem_cons_of_mem _ (i2 g e)
theorem or (f:Str) (v:V):∀ fs:List (Str × V),(putF f v fs).length<=fs.length+1
 | []=>by simp [putF]
 | (k,x)::r=>by
  have ih:=or f v r
  rw [show putF f v ((k,x)::r)=(if k=f then (k,v)::r else (k,x)::putF f v r) from rfl]
  by_cases hk:k=f
  . rw [if_pos hk,List.length_cons,List.length_cons]; omega
  . rw [if_neg hk,List.length_cons,List.length_cons]; omega
theorem RelO.some_of {v:V} {o:Option Value} (r:RelO (some v) o):∃ u,o=some u/\RelV v u:=by
 cases o with
 | none=>exact (show False from r).elim
 | some u=>exact ⟨u,rfl,r⟩
theorem RelO.none_of {o:Option Value} (r:RelO none o):o=none:=by
 cases o with
 | none=>rfl
 | some u=>exact (show False from r).elim
theorem xo {v:V} {u:Value} (r:RelV v u):PySem.W.handedIn u=true:=by
 cases v with
 | non=>cases (show u=Value.none from r); rfl
 | bl b=>cases (show u=Value.bool b from r); rfl
 | int i=>obtain ⟨t,e⟩:=(show ∃ t,u=Value.int i t from r); cases e; rfl
 | str x=>obtain ⟨t,e⟩:=(show ∃ t,u=Value.str x t from r); cases e; rfl
 | byt b=>obtain ⟨t,e⟩:=(show ∃ t,u=Value.bytes b t from r); cases e; rfl
 | flt b=>obtain ⟨t,e⟩:=(show ∃ t,u=Value.float b t from r); cases e; rfl
 | ref a=>cases (show u=Value.ref a from r); rfl
 | ty n=>cases (show u=Value.type n from r); rfl
section
variable {P:Program} {w:World} {H H':Hp} {h h':Heap} {a C dx:Addr} {fs fs':List (Str × V)}
theorem nM (hok:HOk P w H h) (e:H a=some (.ins C dx fs)):∃ mA,ObjM h a dx C mA/\(∀ f,RelO (fs.lookup f) (mA f))/\PySem.Within mA (fs.map (·.1))/\fs.length<=1000/\H dx=some (.own a):=by
 obtain ⟨d,z,ne,ob,mA,n,r,q⟩:=(show ObjOk P w H h a (.ins C dx fs) from hok a _ e)
 exact ⟨mA,⟨ob,n,ne⟩,r,q,z,d⟩
end
structure Cls (K:Frag) (C:Addr):Prop where
 pg:PySem.W.plainGet K C Str.empty=true
 hd:PySem.W.hasDictIn K C=true
 po:PySem.W.plainOver K C=true
 sa:PySem.W.findIn K (.ref C) "__setattr__"=some (some (.builtin "object.__setattr__"))
theorem Cls.get {K:Frag} {C:Addr} (c:Cls K C) (f:Str):PySem.W.plainGet K C f=true:=c.pg
def NoAttr (K:Frag) (C:Addr) (f:Str):Prop:=PySem.W.findIn K (.ref C) f=some none
theorem NoAttr.taker {K:Frag} {C:Addr} {f:Str} (n:NoAttr K C f):PySem.W.takerIn K C f=some none:=by
 unfold PySem.W.takerIn
 rw [show PySem.W.findIn K (.ref C) f=some none from n]
 rfl
structure Meth (K:Frag) (C:Addr) (m:Str) (f:Addr):Prop where
 at_:PySem.W.findIn K (.ref C) m=some (some (.ref f))
 fn:PySem.W.isFn K (.ref f)=true
 kp:PySem.W.keepIn K (.ref f)=true
section
variable {X:Cx} {pins:List (Addr × Obj)} {σ:St} {H:Hp} {s:Shared} {a C dx:Addr} {fs:List (Str × V)} {f:Str} {v:V} {A:Around} {E:Value->Shared->Prop}
theorem vY {b:Bool} {Q:Value->Shared->Prop} (I:Inv X pins σ H s) (e:H a=some (.ins C dx fs)) (c:Cls X.K C) (n:NoAttr X.K C f) (l:fs.lookup f=some v)
  (h:∀ u s',Inv X pins σ H s'->RelV v u->Q u s'):wpAny (model X.prog X.w) A (getAttr (.ref a) f b) Q E s:=by
 obtain ⟨mA,O,r,_,_,_⟩:=nM I.hok e
 obtain ⟨u,hu,ru⟩:=RelO.some_of (v:=v) (o:=mA f) (by rw [← l]; exact r f)
 exact zI I.kIn O (c.get f) c.hd n hu (xo ru) (h u _ (I.tok _) ru)
theorem pE {m:Str} {g:Addr} {pl:Sem Bool} {Q:Value × List Value->Shared->Prop} (I:Inv X pins σ H s) (e:H a=some (.ins C dx fs)) (c:Cls X.K C) (k:Meth X.K C m g) (l:fs.lookup m=none)
  (h:Q (.ref g,[.ref a]) s):wpAny (model X.prog X.w) A (getMethod (.ref a) m pl) Q E s:=by
 obtain ⟨mA,O,r,_,_,_⟩:=nM I.hok e
 have hn:mA m=none:=RelO.none_of (by rw [← l]; exact r m)
 exact yP I.kIn O (c.get m) k.at_ k.fn hn h
theorem vZ {y:V} {u:Value} {Q:Unit->Shared->Prop} (I:Inv X pins σ H s) (e:H a=some (.ins C dx fs)) (c:Cls X.K C) (n:NoAttr X.K C f) (hl:fs.length<1000) (ry:RelV y u)
  (h:∀ s',Inv X pins σ (upd H a (.ins C dx (putF f y fs))) s'->Q () s'):wpAny (model X.prog X.w) A (setAttr (.ref a) f u) Q E s:=by
 obtain ⟨mA,O,r,wi,_,ho⟩:=nM I.hok e
 have hz:(fs.map (·.1)).length<=sizeLine:=by rw [List.length_map,sizeLine_eq]; omega
 refine zJ I.kIn O c.sa c.po n.taker c.hd wi hz fun h' O' sb=>h _ ?_
 have hd:∃ o,h'.get? dx=some o:=let ⟨o,_,_,e',_⟩:=O'.ns; ⟨o,e'⟩
 refine I.write (x:=a) (e:=dx) (by rw [e]; exact True.intro) (.inr ho) (fun b q hb z=>(sb.2 b hb).trans z) hd ?_
 refine ⟨by rw [ai O.ne]; exact ho,?_,O.ne,O'.obj,_,O'.ns,fun g=>?_,fun g hg=>?_⟩
 . have:=or f y fs; omega
 . show RelO ((putF f y fs).lookup g) (if g=f then some u else mA g)
   rw [oq]
   by_cases q:g=f
   . rw [if_pos q,if_pos q]; exact ry
   . rw [if_neg q,if_neg q]; exact r g
 . by_cases q:g=f
   . rw [q]; exact (mQ f y fs).1
   . refine (mQ f y fs).2 g (wi g fun z=>hg ?_)
     show (if g=f then some u else mA g)=none
     rw [if_neg q]; exact z
theorem Inv.made (I:Inv X pins σ H s):Inv X pins σ (upd (upd H s.heap.objs.size (.own (s.heap.objs.size+1))) (s.heap.objs.size+1) (.ins C s.heap.objs.size []))
  { s with heap:=(s.heap.push PySem.W.emptyDict).push (PySem.W.instObj C s.heap.objs.size) }:=by
 have e1:(s.heap.push PySem.W.emptyDict).get? s.heap.objs.size=some PySem.W.emptyDict:=Heap.get?_push_size s.heap rfl
 have e2:((s.heap.push PySem.W.emptyDict).push (PySem.W.instObj C s.heap.objs.size)).get? (s.heap.objs.size+1)=some (PySem.W.instObj C s.heap.objs.size):=by
  have:=Heap.get?_push_size (s.heap.push PySem.W.emptyDict) (o:=PySem.W.instObj C s.heap.objs.size) rfl
  rwa [Heap.size_push] at this
 have e3:(s.heap.push PySem.W.emptyDict).Ns s.heap.objs.size (fun _=>none):=⟨PySem.W.emptyDict,#[],_,e1,rfl,(fun e he=>absurd he (by simp)),fun _=>rfl⟩
 have I1:=I.laid (a:=s.heap.objs.size) (o:=.own (s.heap.objs.size+1)) (h':=s.heap.push PySem.W.emptyDict) (t':=s.toks) (fun b u q=>Heap.get?_push_of_some _ q) (Nat.le_refl _) ⟨_,e1⟩
 refine I1.laid (a:=s.heap.objs.size+1) (o:=.ins C s.heap.objs.size []) (t':=s.toks) (fun b u q=>Heap.get?_push_of_some _ q) (Nat.le_of_eq (Heap.size_push _ _)) ?_
 have ne:s.heap.objs.size≠s.heap.objs.size+1:=Nat.ne_of_lt (Nat.lt_succ_self _)
 refine ⟨by rw [ai ne,ae],Nat.zero_le _,ne,e2,fun _=>none,(Heap.Ns1.of_empty e3).at fun o q=>Heap.get?_push_of_some _ q,fun _=>True.intro,fun y hy=>absurd rfl hy⟩
theorem zK {prog:Program} {w:World} {env:Env} {e:Expr} {f:Str} {pos:Pos} {s:Shared} {Q:Value->Shared->Prop} (hb:attributeBase e f env (eval e env)=eval e env)
  (h:wpAny (model prog w) A (eval e env) (fun o s₁=>wpAny (model prog w) A (getAttr o f true) Q E s₁) E s):wpAny (model prog w) A (eval (.Attribute e f pos) env) Q E s:=
 Attribute_any_ h (by rw [arm_eval_Attribute,hb])
end
section
variable {X:Cx} {o e value:Expr} {f:Str} {pos pos' tpos:Pos} {ta tv:TE}
end
section
variable {X:Cx} {pins:List (Addr × Obj)} {σ:St} {H:Hp} {s:Shared} {A:Around} {E:Value->Shared->Prop} {Q:Value->Shared->Prop} {c:Value} {b:Bool}
inductive TyOf (K:Frag) (H:Hp):V->Value->Prop where
 | non:TyOf K H .non (.type "NoneType")
 | bl (x:Bool):TyOf K H (.bl x) (.type "bool")
 | int (i:Int):TyOf K H (.int i) (.type "int")
 | str (x:Str):TyOf K H (.str x) (.type "str")
 | flt (x:UInt64):TyOf K H (.flt x) (.type "float")
 | lst {a:Addr} {xs:List V} (e:H a=some (.lst xs)):TyOf K H (.ref a) (.type "list")
 | frz {a:Addr} {o:Obj} {xs:List V} (e:H a=some (.frz o (.lst xs))):TyOf K H (.ref a) (.type "list")
 | tup {a:Addr} {xs:List V} (e:H a=some (.tup xs)):TyOf K H (.ref a) (.type "tuple")
 | dK {a:Addr} {kvs:List (Key × V)} (e:H a=some (.dK kvs)):TyOf K H (.ref a) (.type "dict")
 | dT {a:Addr} {kvs:List (List Key × V)} (e:H a=some (.dT kvs)):TyOf K H (.ref a) (.type "dict")
 | ins {a C dx:Addr} {fs:List (Str × V)} (e:H a=some (.ins C dx fs)) (cl:Cls K C) (ha:PySem.W.findIn K (.ref C) "__class__"=some (some (.builtin "object.__class__")))
   (hn:PySem.W.specialIn K (.builtin "object.__class__") "__get__"=some (some (.builtin "getset_descriptor.__get__"))) (htk:PySem.W.takesIn K (.builtin "object.__class__")=some true)
   (hm:PySem.W.mroIn K C (.type "object")=some true):TyOf K H (.ref a) (.ref C)
theorem xp {x:V} {u t:Value} (I:Inv X pins σ H s) (rx:RelV x u) (ty:TyOf X.K H x t) (e:PySem.W.kitOne X.K t c=some b) (h:∀ tk,Q (.bool b) { s with toks:=tk }):
  wpAny (model X.prog X.w) A (call (.builtin "isinstance") [u,c]) Q E s:=by
 cases ty with
 | non=>cases (show u=Value.none from rx); exact PySem.W.kia_one PySem.W.kitx_none I.kIn True.intro e (fun z=>nomatch z) h
 | bl y=>cases (show u=Value.bool y from rx); exact PySem.W.kia_one PySem.W.kitx_bool I.kIn True.intro e (fun z=>nomatch z) h
 | int i=>obtain ⟨t,q⟩:=(show ∃ t,u=Value.int i t from rx); cases q; exact PySem.W.kia_one PySem.W.kitx_int I.kIn True.intro e (fun z=>nomatch z) h
 | str y=>obtain ⟨t,q⟩:=(show ∃ t,u=Value.str y t from rx); cases q; exact PySem.W.kia_one PySem.W.kitx_str I.kIn True.intro e (fun z=>nomatch z) h
 | flt y=>obtain ⟨t,q⟩:=(show ∃ t,u=Value.float y t from rx); cases q; exact PySem.W.kia_one PySem.W.kitx_float I.kIn True.intro e (fun z=>nomatch z) h
 | @lst a xs ea=>
  cases (show u=Value.ref a from rx)
  obtain ⟨_,_,n,_,h1⟩:=(show ObjOk X.prog X.w H s.heap a (.lst xs) from I.hok a _ ea)
  exact PySem.W.kia_one PySem.W.kitx_list I.kIn ⟨_,h1,rfl⟩ e (fun z=>nomatch z) h
 | @frz a ob xs ea=>
  cases (show u=Value.ref a from rx)
  obtain ⟨_,_,_,n,_,h1⟩:=(show ObjOk X.prog X.w H s.heap a (.frz ob (.lst xs)) from I.hok a _ ea)
  exact PySem.W.kia_one PySem.W.kitx_list I.kIn ⟨_,h1,rfl⟩ e (fun z=>nomatch z) h
 | @tup a xs ea=>
  cases (show u=Value.ref a from rx)
  obtain ⟨_,_,_,p⟩:=(show ObjOk X.prog X.w H s.heap a (.tup xs) from I.hok a _ ea)
  obtain ⟨o,h1,h2,_⟩:=p
  exact PySem.W.kia_one PySem.W.kitx_tuple I.kIn ⟨o,h1,h2⟩ e (fun z=>nomatch z) h
 | @dK a kvs ea=>
  cases (show u=Value.ref a from rx)
  obtain ⟨_,_,vs,_,p⟩:=(show ObjOk X.prog X.w H s.heap a (.dK kvs) from I.hok a _ ea)
  obtain ⟨o,es,ep,h1,h2,_⟩:=p
  exact PySem.W.kia_one PySem.W.kitx_dict I.kIn ⟨o,h1,h2.1⟩ e (fun z=>nomatch z) h
 | @dT a kvs ea=>
  cases (show u=Value.ref a from rx)
  obtain ⟨_,_,xs,_,o,es,ep,h1,h2,_⟩:=(show ObjOk X.prog X.w H s.heap a (.dT kvs) from I.hok a _ ea)
  exact PySem.W.kia_one PySem.W.kitx_dict I.kIn ⟨o,h1,h2.1⟩ e (fun z=>nomatch z) h
 | @ins a C dx fs ea cl ha hn htk hm=>
  cases (show u=Value.ref a from rx)
  obtain ⟨mA,O,_⟩:=nM I.hok ea
  obtain ⟨od,J,_⟩:=O.look
  exact PySem.W.kia_one (PySem.W.kitx_own (cl.get _) cl.hd ha hn htk hm) I.kIn J e (fun z=>nomatch z) h
end
end L2
namespace L2
open PySem PySem.Spec PyProof.Rows
structure Room (k:Nat) (A:Around):Prop where
 hd:A.handled=none
 dp:A.depth+3*k+5<recursionLimit
 un:A.units+16*k+200<cLine
theorem Room.mono {j k:Nat} {A:Around} (r:Room k A) (h:j<=k):Room j A:=⟨r.hd,by have:=r.dp; omega,by have:=r.un; omega⟩
theorem Room.deeper {k:Nat} {A:Around} (r:Room (k+1) A) (env:Env):Room k (A.deeper env):=
 ⟨r.hd,by have:=r.dp; show A.depth+1+3*k+5<_; omega,by have:=r.un; show A.units+3+16*k+200<_; omega⟩
theorem wa {A:Around} {C:Addr} {us:List Value} {kw:List (Str × Value)}:(A.under (.builtin "type.__call__" ⟨.ref C::us,kw⟩)).depth=A.depth+1:=by
 first | rfl | simp [Around.under,Code.weight,Code.isCreation,Code.isGuard,Code.isCaller,Code.frames,Code.isFrame,guardIds]
theorem wb {A:Around} {C:Addr} {us:List Value} {kw:List (Str × Value)}:(A.under (.builtin "type.__call__" ⟨.ref C::us,kw⟩)).units=A.units+1:=by
 first | rfl | simp [Around.under,Code.cUnits,Code.frames,Code.isFrame]
theorem Room.make {k:Nat} {A:Around} (r:Room (k+1) A) (C:Addr) (us:List Value) (kw:List (Str × Value)):Room k (A.under (.builtin "type.__call__" ⟨.ref C::us,kw⟩)):=
 ⟨r.hd,by have:=r.dp; rw [wa]; omega,by have:=r.un; rw [wb]; omega⟩
theorem Room.depth {k:Nat} {A:Around} (r:Room k A):A.depth<recursionLimit:=by have:=r.dp; omega
theorem Room.units {k:Nat} {A:Around} (r:Room k A):A.units+64<cLine:=by have:=r.un; omega
def tNil:TA:=fun _ H Q=>Q [] H
def tCons (ta:TE) (tr:TA):TA:=fun σ H Q=>ta σ H fun x H1=>tr σ H1 fun xs H2=>Q (x::xs) H2
section
variable {X:Cx} {e:Expr} {es:List Expr} {te:TE} {t:TA} {pos:Pos}
theorem ac:PA X [] tNil:=fun _ _ _ _ H Q I h=>Calls.spliced_nil ⟨[],H,I,.nil,h⟩
theorem aa (ha:PE X e te) (hr:PA X es t) (hs:starEach (e::es) X.env=(false,eval e X.env)::starEach es X.env:=by rfl):PA X (e::es) (tCons te t):=by
 intro pos pins s σ H Q I h
 rw [hs]
 show wpAny _ _ (spliced ((false,eval e X.env)::backTo pos (starEach es X.env))) _ _ s
 refine Calls.spliced_cons (thn (ha pins s σ H _ I h) fun u s1 ⟨x,H1,I1,r1,q1⟩=>?_)
 exact thn (hr pos pins s1 σ H1 _ I1 q1) fun us s2 ⟨xs,H2,I2,r2,q2⟩=>⟨x::xs,H2,I2,.cons r1 r2,q2⟩
def tTup (t:TA):TE:=fun σ H Q=>t σ H fun xs H1=>xs.length<=sizeLine/\∀ p,H1 p=none->Q (.ref p) (upd H1 p (.tup xs))
def tLst (t:TA):TE:=fun σ H Q=>t σ H fun xs H1=>xs.length<=sizeLine/\∀ p,H1 p=none->Q (.ref p) (upd H1 p (.lst xs))
theorem bb {x1} (h:PA X es t):PE X (.Tuple es x1 pos) (tTup t):=by
 intro pins s σ H Q I hq
 refine wpAny_Tuple_spliced (thn (h pos pins s σ H _ I hq) fun us s1 ⟨xs,H1,I1,r,z,q⟩=>⟨by rw [← r.length]; exact z,?_⟩)
 have hf:H1 s1.heap.objs.size=none:=I1.hok.fresh (Nat.le_refl _)
 refine ⟨.ref s1.heap.objs.size,upd H1 s1.heap.objs.size (.tup xs),I1.laid (t':=s1.toks) (fun b u e=>Heap.get?_push_of_some _ e) (Nat.le_refl _) ?_,rfl,q _ hf⟩
 exact ⟨z,us,r,⟨_,Heap.get?_push_size _ rfl,rfl,_,rfl⟩⟩
theorem aK (h:PA X es t):PE X (.List es pos) (tLst t):=by
 intro pins s σ H Q I hq
 refine wpAny_List_spliced (thn (h pos pins s σ H _ I hq) fun us s1 ⟨xs,H1,I1,r,z,q⟩=>⟨by rw [← r.length]; exact z,?_⟩)
 have hf:H1 s1.heap.objs.size=none:=I1.hok.fresh (Nat.le_refl _)
 refine ⟨.ref s1.heap.objs.size,upd H1 s1.heap.objs.size (.lst xs),I1.laid (t':=s1.toks) (fun b u e=>Heap.get?_push_of_some _ e) (Nat.le_refl _) ?_,rfl,q _ hf⟩
 exact ⟨z,us,0,r,Heap.get?_push_size _ rfl⟩
end
abbrev Sp:=List V->Hp->VK->XK->Prop
abbrev CXT:=List Env->Hp->Shared->XK->Value->Shared->Prop
structure Env0 (P:Program) (w:World) (K:Frag) (mg:Str->Option Value) (base:Heap) (A:Around) (outer:List Env) (s:Shared) (H:Hp):Prop where
 frames:A.frames=some outer
 mod:Mod K mg base
 bs:∀ b o,base.get? b=some o->s.heap.get? b=some o/\H b=none
 bsz:base.objs.size<=s.heap.objs.size
 funs:s.heap.FunFrames base outer
 frf:∀ b∈frs outer,H b=none
 hok:HOk P w H s.heap
 bare:AllBare s.gens
def CE (outer:List Env) (P:Program) (w:World) (H:Hp) (s:Shared) (Q:VK) (u:Value) (s':Shared):Prop:=
 ∃ v H',s'.os=s.os/\AllBare s'.gens/\Un (frs outer) [] H H' s.heap s'.heap/\HOk P w H' s'.heap/\RelV v u/\Q v H'
def CR (CX:CXT) (outer:List Env) (P:Program) (w:World) (H:Hp) (s:Shared) (Q:VK) (E:XK) (r:Result) (s':Shared):Prop:=
 match r with
 | .ok (.ret u)=>CE outer P w H s Q u s'
 | .ok _=>False
 | .error e=>CX outer H s E e s'
structure FnOk (P:Program) (w:World) (K:Frag) (mg:Str->Option Value) (base:Heap) (CX:CXT) (k:Nat) (f:Addr) (fd:FuncData) (ps:List Str) (sp:Sp):Prop where
 len:∀ vs H Q E,sp vs H Q E->vs.length=ps.length
 run:∀ (A:Around) (outer:List Env) (s:Shared) (H:Hp) (args:Args) (us:List Value) (vs:List V) (Q:VK) (E:XK),Room k A->Env0 P w K mg base A outer s H->BindsTo s fd args (ps.zip us)->Vals vs us->sp vs H Q E->
  codeAny (model P w) A (.call (.ref f) args) (CR CX outer P w H s Q E) s
theorem FnOk.mono {P:Program} {w:World} {K:Frag} {mg:Str->Option Value} {base:Heap} {CX:CXT} {j k:Nat} {f:Addr} {fd:FuncData} {ps:List Str} {sp:Sp} (F:FnOk P w K mg base CX j f fd ps sp) (h:j<=k):
  FnOk P w K mg base CX k f fd ps sp:=⟨F.len,fun A outer s H args us vs Q E hr=>F.run A outer s H args us vs Q E (hr.mono h)⟩
theorem FnOk.imp {P:Program} {w:World} {K:Frag} {mg:Str->Option Value} {base:Heap} {CX:CXT} {k:Nat} {f:Addr} {fd:FuncData} {ps:List Str} {sp sp':Sp} (F:FnOk P w K mg base CX k f fd ps sp)
  (h:∀ vs H Q E,sp' vs H Q E->sp vs H Q E):FnOk P w K mg base CX k f fd ps sp':=
 ⟨fun vs H Q E q=>F.len vs H Q E (h _ _ _ _ q),fun A outer s H args us vs Q E hr he hb hv hs=>F.run A outer s H args us vs Q E hr he hb hv (h _ _ _ _ hs)⟩
theorem Env0.make {P:Program} {w:World} {K:Frag} {mg:Str->Option Value} {base:Heap} {A:Around} {outer:List Env} {s:Shared} {H:Hp} (e:Env0 P w K mg base A outer s H) (C:Addr) (us:List Value) (kw:List (Str × Value)):
  Env0 P w K mg base (A.under (.builtin "type.__call__" ⟨.ref C::us,kw⟩)) outer s H:=⟨by first | exact e.frames | (simpa [Around.under,Code.envs,Code.isFrame,pushEnvs] using e.frames),e.mod,e.bs,e.bsz,e.funs,e.frf,e.hok,e.bare⟩
section
variable {X:Cx} {pins:List (Addr × Obj)} {σ:St} {H:Hp} {s s':Shared}
theorem Inv.env0 (I:Inv X pins σ H s):Env0 X.prog X.w X.K X.mg X.base X.A X.stack s H:=
 ⟨I.ok.frames,I.ok.mod,I.bs,Nat.le_trans I.ok.bsz I.sz,I.stack,I.stkFree,I.hok,I.bare⟩
theorem Inv.after {Q:VK} {u:Value} (I:Inv X pins σ H s) (h:CE X.stack X.prog X.w H s Q u s'):EP X pins σ Q u s':=by
 obtain ⟨v,H',os,bare,un,hok,r,q⟩:=h
 obtain ⟨hh,g,d,t,os'⟩:=s'
 obtain rfl:os'=s.os:=os
 exact ⟨v,H',I.call (h':=hh) (g':=g) (d':=d) (t':=t) (ch:=[]) un hok bare (fun b z=>absurd z (by simp)),r,q⟩
end
def tCall (sp:Sp) (dvs:List V) (E:XK) (t:TA):TE:=fun σ H Q=>t σ H fun vs H1=>sp (vs++dvs) H1 Q E
def tMake (C:Addr) (sp:Sp) (dvs:List V) (E:XK) (t:TA):TE:=fun σ H Q=>t σ H fun vs H1=>∀ x dx,H1 x=none->H1 dx=none->dx≠x->
 sp (.ref x::(vs++dvs)) (upd (upd H1 dx (.own x)) x (.ins C dx [])) (fun v H2=>v=.non/\Q (.ref x) H2) E
def Binds (K:Frag) (fd:FuncData) (ps:List Str) (ds:List Value):Prop:=
 ∀ (s:Shared) (us:List Value),K.In s.heap->(us++ds).length=ps.length->BindsTo s fd ⟨us,[]⟩ (ps.zip (us++ds))
theorem Binds.all {K:Frag} {fd:FuncData} {ps:List Str} (h:∀ us:List Value,us.length=ps.length->bindArgs fd ⟨us,[]⟩=pure (ps.zip us)):Binds K fd ps []:=fun s us _ hl=>by
 rw [List.append_nil] at hl ⊢
 exact .of_eq (h us hl)
def mR (CX:CXT) (X:Cx) (E:XK):Prop:=∀ (pins:List (Addr × Obj)) (σ:St) (H:Hp) (s:Shared) (e:Value) (s':Shared),Inv X pins σ H s->CX X.stack H s E e s'->X.xe e s'
section
variable {X:Cx} {CX:CXT} {k:Nat} {f C:Addr} {fd:FuncData} {ps:List Str} {sp:Sp} {dvs:List V} {ds:List Value} {E:XK} {x m:Str} {p pos apos:Pos} {e o:Expr} {es:List Expr} {ta:TE} {t:TA}
theorem tG {pins:List (Addr × Obj)} {σ:St} {H:Hp} {s:Shared} {Q:VK} {us:List Value} {vs:List V} (F:FnOk X.prog X.w X.K X.mg X.base CX k f fd ps sp) (hr:Room k X.A) (hb:Binds X.K fd ps ds) (hd:Vals dvs ds) (hx:mR CX X E)
  (I:Inv X pins σ H s) (r:Vals vs us) (h:sp (vs++dvs) H Q E):wpAny (model X.prog X.w) X.A (call (.ref f) us) (EP X pins σ Q) X.xe s:=by
 have r2:Vals (vs++dvs) (us++ds):=r.append hd
 have hl:(us++ds).length=ps.length:=by rw [← r2.length]; exact F.len _ _ _ _ h
 refine wpAny_call (codeAny_mono (F.run X.A X.stack s H ⟨us,[]⟩ (us++ds) (vs++dvs) Q E hr I.env0 (hb s us I.kIn hl) r2 h) fun r s' hq=>?_)
 cases r with
 | error e=>exact hx pins σ H s e s' I hq
 | ok fl=>
  cases fl with
  | ret u=>exact I.after hq
  | next=>exact False.elim hq
  | brk=>exact False.elim hq
  | cont=>exact False.elim hq
theorem zL (F:FnOk X.prog X.w X.K X.mg X.base CX k f fd ps sp) (hr:Room k X.A) (hg:Gl X x) (hm:X.mg x=some (.ref f)) (hk:PySem.W.keepIn X.K (.ref f)=true) (hb:Binds X.K fd ps ds) (hd:Vals dvs ds) (hx:mR CX X E)
  (ha:PA X (e::es) t) (hdb:(x==("__debug__":Str))=false:=by decide) (he:starEach (e::es) X.env=(false,eval e X.env)::starEach es X.env:=by rfl) (hpl:(backTo pos (starEach es X.env)).any (·.1)=false:=by rfl):
  PE X (.Call (.Name x p) (e::es) [] pos) (tCall sp dvs E t):=by
 intro pins s σ H Q I h
 refine wpAny_Call_Name_kw (qO I hg hm ?_ hdb)
 refine PySem.W.callWith_K (h₀:=X.base) I.ok.mod.kin hk (thn (ha pos pins s σ H _ I h) fun us s1 ⟨vs,H1,I1,r,q⟩=>⟨I1.kIn,?_⟩) he hpl
 exact tG F hr hb hd hx I1 r q
structure Mk (K:Frag) (C f:Addr):Prop where
 makes:PySem.W.makesIn K C=true
 init:PySem.W.findIn K (.ref C) "__init__"=some (some (.ref f))
 fn:PySem.W.isFn K (.ref f)=true
 kp:PySem.W.keepIn K (.ref C)=true
theorem yR {pins:List (Addr × Obj)} {σ:St} {H:Hp} {s:Shared} {Q:VK} {us:List Value} {vs:List V} (M:Mk X.K C f) (F:FnOk X.prog X.w X.K X.mg X.base CX k f fd ps sp) (hr:Room (k+1) X.A) (hb:Binds X.K fd ps ds) (hd:Vals dvs ds)
  (hx:mR CX X E) (I:Inv X pins σ H s) (r:Vals vs us)
  (h:∀ x dx,H x=none->H dx=none->dx≠x->sp (.ref x::(vs++dvs)) (upd (upd H dx (.own x)) x (.ins C dx [])) (fun v H2=>v=.non/\Q (.ref x) H2) E):
  wpAny (model X.prog X.w) X.A (call (.ref C) us) (EP X pins σ Q) X.xe s:=by
 have hq:=h (s.heap.objs.size+1) s.heap.objs.size (I.hok.fresh (Nat.le_succ _)) (I.hok.fresh (Nat.le_refl _)) (Nat.ne_of_lt (Nat.lt_succ_self _))
 have I2:=Inv.made (C:=C) I
 have r2:Vals (V.ref (s.heap.objs.size+1)::(vs++dvs)) (Value.ref (s.heap.objs.size+1)::(us++ds)):=.cons rfl (r.append hd)
 have hl:(Value.ref (s.heap.objs.size+1)::us++ds).length=ps.length:=by
  have e:=r2.length
  rw [F.len _ _ _ _ hq] at e
  exact e.symm
 refine wpAny_call (yQ (f:=f) I.kIn M.makes M.init (beq_iff_eq.mp M.fn) (codeAny_mono (F.run _ X.stack _ _ ⟨Value.ref (s.heap.objs.size+1)::us,[]⟩ (Value.ref (s.heap.objs.size+1)::(us++ds)) _ _ E (hr.make C us [])
  (I2.env0.make C us []) (hb _ (Value.ref (s.heap.objs.size+1)::us) I2.kIn hl) r2 hq) fun r s' hq'=>?_))
 cases r with
 | error e=>exact hx pins σ _ _ e s' I2 hq'
 | ok fl=>
  cases fl with
  | ret u=>
   obtain ⟨v,H',I3,rv,ev,q3⟩:=I2.after hq'
   subst ev
   exact ⟨rv,⟨V.ref (s.heap.objs.size+1),H',I3,rfl,q3⟩⟩
  | next=>exact False.elim hq'
  | brk=>exact False.elim hq'
  | cont=>exact False.elim hq'
theorem zM (M:Mk X.K C f) (F:FnOk X.prog X.w X.K X.mg X.base CX k f fd ps sp) (hr:Room (k+1) X.A) (hg:Gl X x) (hm:X.mg x=some (.ref C)) (hb:Binds X.K fd ps ds) (hd:Vals dvs ds) (hx:mR CX X E)
  (ha:PA X (e::es) t) (hdb:(x==("__debug__":Str))=false:=by decide) (he:starEach (e::es) X.env=(false,eval e X.env)::starEach es X.env:=by rfl) (hpl:(backTo pos (starEach es X.env)).any (·.1)=false:=by rfl):
  PE X (.Call (.Name x p) (e::es) [] pos) (tMake C sp dvs E t):=by
 intro pins s σ H Q I h
 refine wpAny_Call_Name_kw (qO I hg hm ?_ hdb)
 refine PySem.W.callWith_K (h₀:=X.base) I.ok.mod.kin M.kp (thn (ha pos pins s σ H _ I h) fun us s1 ⟨vs,H1,I1,r,q⟩=>⟨I1.kIn,?_⟩) he hpl
 exact yR M F hr hb hd hx I1 r q
end
section
variable {X:Cx} {CX:CXT} {k:Nat} {f C:Addr} {fd:FuncData} {ps ks:List Str} {sp:Sp} {E:XK} {x m:Str} {p pos apos kpos:Pos} {e o:Expr} {es:List Expr} {kws:List Keyword} {te ta:TE} {t tk:TA} {nm:Option Str}
variable {g:List Value->List Value->List Value} {gV:List V->List V->List V}
end
structure ar (N P:List Str) (sc:Scope):Prop where
 kind:sc.kind=.function
 co:sc.isCoroutine=false
 gen:sc.isGenerator=false
 nd:N.Nodup
 pre:N.take P.length=P
 par:∀ x∈P,sc.names.lookup x=some .local\/sc.names.lookup x=some .cell
 nofree:∀ y∈sc.names,y.2≠.free
theorem rH {kindOf:Str->Option NameKind} {x:Str}:∀ {binds:List (Str × Value)} {m:Str->Option Value},(∀ v,(x,v)∉binds)->bindL kindOf binds m x=m x
 | [],_,_=>rfl
 | (n,v)::r,m,h=>by
  unfold bindL
  rw [rH fun w hw=>h w (List.mem_cons_of_mem _ hw)]
  split
  . have:x≠n:=by rintro rfl; exact h v List.mem_cons_self
    simp [this]
  . rfl
theorem rJ {kindOf:Str->Option NameKind} {x:Str}:∀ {binds:List (Str × Value)} {m:Str->Option Value},(∀ v,(x,v)∉binds)->bindC kindOf binds m x=m x
 | [],_,_=>rfl
 | (n,v)::r,m,h=>by
  unfold bindC
  rw [rJ fun w hw=>h w (List.mem_cons_of_mem _ hw)]
  split
  . rfl
  . have:x≠n:=by rintro rfl; exact h v List.mem_cons_self
    simp [this]
theorem rK {kindOf:Str->Option NameKind} {x:Str} {v:Value}:∀ {P:List Str} {vs:List Value} {i:Nat} {m:Str->Option Value},P.Nodup->P[i]? =some x->vs[i]? =some v->kindOf x=some .local->
  bindL kindOf (P.zip vs) m x=some v
 | [],_,_,_,_,h,_,_=>by simp at h
 | _::_,[],_,_,_,_,h,_=>by simp at h
 | p::P,w::vs,0,m,nd,h1,h2,hk=>by
  simp at h1 h2; subst h1; subst h2
  show bindL kindOf ((p,w)::P.zip vs) m p=_
  unfold bindL
  rw [rH fun v hv=>(List.nodup_cons.mp nd).1 (List.of_mem_zip hv).1,if_pos hk]
  simp
 | p::P,w::vs,i+1,m,nd,h1,h2,hk=>by
  show bindL kindOf ((p,w)::P.zip vs) m x=_
  unfold bindL
  exact rK (i:=i) (List.nodup_cons.mp nd).2 (by simpa using h1) (by simpa using h2) hk
theorem rL {kindOf:Str->Option NameKind} {x:Str} {v:Value}:∀ {P:List Str} {vs:List Value} {i:Nat} {m:Str->Option Value},P.Nodup->P[i]? =some x->vs[i]? =some v->kindOf x≠some .local->
  bindC kindOf (P.zip vs) m x=some v
 | [],_,_,_,_,h,_,_=>by simp at h
 | _::_,[],_,_,_,_,h,_=>by simp at h
 | p::P,w::vs,0,m,nd,h1,h2,hk=>by
  simp at h1 h2; subst h1; subst h2
  show bindC kindOf ((p,w)::P.zip vs) m p=_
  unfold bindC
  rw [rJ fun v hv=>(List.nodup_cons.mp nd).1 (List.of_mem_zip hv).1,if_neg hk]
  simp
 | p::P,w::vs,i+1,m,nd,h1,h2,hk=>by
  show bindC kindOf ((p,w)::P.zip vs) m x=_
  unfold bindC
  exact rL (i:=i) (List.nodup_cons.mp nd).2 (by simpa using h1) (by simpa using h2) hk
def start (N:List Str) (vs:List V):St:=vs.map some++List.replicate (N.length-vs.length) none
def cxOf (CX:CXT) (P:Program) (w:World) (K:Frag) (mg:Str->Option Value) (base:Heap) (N:List Str) (qual:Str) (scope:Scope) (f:Addr) (cd:Value) (A:Around) (outer:List Env) (s:Shared) (H:Hp) (E:XK):Cx where
 prog:=P
 w:=w
 K:=K
 mg:=mg
 base:=base
 A:=A.deeper (envOfC qual scope s.heap.objs.size f cd)
 N:=N
 s₀:=s
 H₀:=H
 env:=envOfC qual scope s.heap.objs.size f cd
 outer:=outer
 stack:=envOfC qual scope s.heap.objs.size f cd::outer
 ex:=[]
 calm:=true
 fn:=fun _=>true
 pn:=[]
 xe:=fun e s'=>wpAny (model P w) (A.deeper (envOfC qual scope s.heap.objs.size f cd)) (leaving (envOfC qual scope s.heap.objs.size f cd) e) (fun _ s''=>CX outer H s E e s'') (fun e' s''=>CX outer H s E e' s'') s'
theorem l3 {sc:Scope} {n:Nat} {x:Str} (h:sc.names.lookup x=some .cell):∃ c,(cellsFrom n sc.names []).lookup x=some c:=by
 have q:=PySem.W.cellsFrom_some sc.names n [] (.inl h)
 exact Option.isSome_iff_exists.mp q
theorem xq {CX:CXT} {P:Program} {w:World} {K:Frag} {mg:Str->Option Value} {base:Heap} {N ps:List Str} {qual:Str} {scope:Scope} {f:Addr} {cd:Value} {A:Around} {outer:List Env} {s s1:Shared} {H:Hp} {E:XK} {us:List Value} {vs:List V}
  (S:ar N ps scope) (hd:A.handled=none) (e0:Env0 P w K mg base A outer s H) (hl:vs.length=ps.length) (r:Vals vs us)
  (x:InCallC s s.heap.objs.size (bindL (envOfC qual scope s.heap.objs.size f cd).kindOf (ps.zip us) fun _=>none) (cellsFrom (s.heap.objs.size+1) scope.names []) (bindC (envOfC qual scope s.heap.objs.size f cd).kindOf (ps.zip us) fun _=>none) s1):
  Inv (cxOf CX P w K mg base N qual scope f cd A outer s H E) [] (start N vs) H s1:=by
 have hpl:ps.length<=N.length:=by have:=congrArg List.length S.pre; rw [List.length_take] at this; omega
 obtain ⟨h1,tk,rfl,hk⟩:=x.done
 have noA:∀ b:Addr,b∉(cxOf CX P w K mg base N qual scope f cd A outer s H E).ex:=fun b z=>absurd (show b∈([]:List Addr) from z) (by simp)
 refine ⟨⟨e0.mod,S.kind,rfl,rfl,Nat.le_refl _,fun y z c h1 h2=>?_,fun y hy=>?_,fun y c _ h=>?_,fun _=>hd,Around.frames_deeper e0.frames,.inr ⟨rfl,rfl⟩,fun b z=>absurd z (noA b),e0.bs,e0.bsz,fun b _ _=>noA b,fun b z=>absurd z (noA b),e0.funs,e0.frf⟩,
  rfl,e0.bare,Un.kept hk,⟨_,x.toInCall.ns,fun i y v h1 h2 h3=>?_⟩,fun y c h=>⟨_,x.cell y c h⟩,e0.hok.fresh (Nat.le_refl _),fun y c h=>?_,fun p hp=>absurd (show p∈([]:List (Addr × Obj)) from hp) (by simp),e0.hok.kept hk,?_⟩
 . exact name_of_addr x.apart (PySem.mem_of_lookup h1) (PySem.mem_of_lookup h2)
 . have hy:scope.names.lookup y=some .cell\/scope.names.lookup y=some .free:=hy
   rcases hy with hy | hy
   . exact l3 hy
   . exact absurd rfl (S.nofree _ (PySem.mem_of_lookup hy))
 . exact Nat.le_of_lt (x.above y c (PySem.mem_of_lookup h))
 . have hi:i<vs.length:=by
    unfold start at h2
    by_cases hi:i<vs.length
    . exact hi
    . rw [List.getElem?_append_right (by simpa using hi)] at h2
      rw [List.getElem?_replicate] at h2
      split at h2 <;> cases h2
   have ha:vs[i]? =some v:=by
    unfold start at h2
    rw [List.getElem?_append_left (by simpa using hi),List.getElem?_map] at h2
    cases e:vs[i]? with
    | none=>rw [e] at h2; cases h2
    | some a=>rw [e] at h2; cases h2; rfl
   obtain ⟨u,hu,rv⟩:=r.get ha
   have hp:ps[i]? =some y:=by
    rw [← S.pre,List.getElem?_take_of_lt (by omega)]; exact h1
   have ndP:ps.Nodup:=by rw [← S.pre]; exact S.nd.sublist (List.take_sublist _ _)
   refine ⟨u,rv,?_⟩
   rcases S.par y (List.mem_of_getElem? hp) with k | k
   . exact .inl ⟨k,rK ndP hp hu k⟩
   . obtain ⟨c,e⟩:=l3 (n:=s.heap.objs.size+1) k
     refine .inr ⟨.inl k,c,e,?_⟩
     have q:=x.cell y c e
     rw [rL ndP hp hu (by show scope.names.lookup y≠_; rw [k]; decide)] at q
     exact q
 . exact e0.hok.fresh (Nat.le_of_lt (x.above y c (PySem.mem_of_lookup h)))
 . unfold start
   show _=N.length
   rw [List.length_append,List.length_map,List.length_replicate]
   omega
theorem Bs {CX:CXT} {P:Program} {w:World} {K:Frag} {mg:Str->Option Value} {base:Heap} {k:Nat} {f:Addr} {name qual:Str} {params:Arguments} {body:List Stmt} {scope:Scope} {dV kV doc pm cdv ct oc:Value} {an od:Option Addr}
  {osl:Array (Option Value)} {N ps:List Str} {sp:Sp} (lk:K.lookup f=some ⟨oc,od,.func (PySem.W.fnOf name qual params body scope dV kV doc pm an cdv ct),osl⟩) (hcd:PySem.W.codeIn K cdv qual=true) (S:ar N ps scope)
  (len:∀ vs H Q E,sp vs H Q E->vs.length=ps.length)
  (hbody:∀ (A:Around) (outer:List Env) (s:Shared) (H:Hp) (vs:List V) (Q:VK) (E:XK),Room k (A.deeper (envOfC qual scope s.heap.objs.size f cdv))->sp vs H Q E->
   ∃ t,PSs (cxOf CX P w K mg base N qual scope f cdv A outer s H E) body t/\t { nx:=fun _ H'=>Q .non H',rt:=Q } (start N vs) H):
  FnOk P w K mg base CX (k+1) f (PySem.W.fnOf name qual params body scope dV kV doc pm an cdv ct) ps sp:=by
 refine ⟨len,fun A outer s H args us vs Q E hr e0 hb r hsp=>?_⟩
 have hl:=len _ _ _ _ hsp
 have KX:K.In s.heap:=e0.mod.kin.keeps fun b o e=>(e0.bs b o e).1
 have lim:s.heap.NoLimit:=e0.mod.nolimit.keeps fun b o e=>(e0.bs b o e).1
 have hkind:∀ y∈ps.zip us,scope.names.lookup y.1=some .local\/(scope.names.lookup y.1=some .cell/\((cellsFrom (s.heap.objs.size+1) scope.names []).lookup y.1).isSome=true):=fun ⟨n,v⟩ hy=>by
  rcases S.par n (List.of_mem_zip hy).1 with q | q
  . exact .inl q
  . exact .inr ⟨q,PySem.W.cellsFrom_some _ _ _ (.inl q)⟩
 refine codeAny_call_function hr.depth (KX _ _ lk) rfl S.co S.gen rfl (PySem.W.codeRec_of KX hcd) (hb _ _ _ _ ?_)
 refine wpAny_newFunctionEnv_cells S.kind hkind fun env he s1 x=>?_
 subst he
 refine ⟨lim.keeps x.toInCall.keep,codeAny_func ?_⟩
 obtain ⟨t,ht,hq⟩:=hbody A outer s H vs Q E (hr.deeper _) hsp
 have I:Inv (cxOf CX P w K mg base N qual scope f cdv A outer s H E) [] (start N vs) H s1:=xq S hr.hd e0 hl r x
 refine wpAny_mono (ht [] s1 (start N vs) H _ I hq) (fun fl s' hs=>?_) fun e s' hs=>hs
 have fin:∀ {σ':St} {H':Hp} {v:V} {u:Value},Inv (cxOf CX P w K mg base N qual scope f cdv A outer s H E) [] σ' H' s'->RelV v u->Q v H'->CE outer P w H s Q u s':=
  fun {σ' H' v u} J rv q=>⟨v,H',J.os,J.bare,J.base,J.hok,rv,q⟩
 cases fl with
 | ret u=>
  obtain ⟨v,σ',H',J,rv,q⟩:=hs
  exact fin J rv q
 | next=>
  obtain ⟨σ',H',J,q⟩:=hs
  exact fin (v:=V.non) (u:=Value.none) J rfl q
 | brk=>
  obtain ⟨_,_,_,q⟩:=hs
  exact False.elim q
 | cont=>
  obtain ⟨_,_,_,q⟩:=hs
  exact False.elim q
end L2
namespace L2
open PySem PySem.Spec PyProof.Rows
section
variable {X:Cx} {x:Str} {p pos:Pos} {e:Expr} {es:List Expr} {t:TA} {id T:String} {r:List V->Hp->VK->Prop}
def tCB (r:List V->Hp->VK->Prop) (t:TA):TE:=fun σ H Q=>t σ H fun vs H1=>r vs H1 Q
theorem ay (hc:CallR X (.builtin id) r) (hg:Gl X x) (hm:X.mg x=none) (hv:bootBuiltins x=some (.builtin id)) (ha:PA X (e::es) t) (hn:x≠"__name__":=by decide) (hdb:(x==("__debug__":Str))=false:=by decide)
  (he:starEach (e::es) X.env=(false,eval e X.env)::starEach es X.env:=by rfl) (hpl:(backTo pos (starEach es X.env)).any (·.1)=false:=by rfl):PE X (.Call (.Name x p) (e::es) [] pos) (tCB r t):=by
 intro pins s σ H Q I h
 refine wpAny_Call_Name_kw (gH I hg hm hv ?_ hn hdb)
 exact PyProof.Rows.callWith_builtin1 (thn (ha pos pins s σ H _ I h) fun us s1 ⟨vs,H1,I1,r1,q1⟩=>hc pins s1 σ H1 vs us Q I1 r1 q1) he hpl
theorem bD (hc:CallR X (.type T) r) (hg:Gl X x) (hm:X.mg x=none) (hv:bootBuiltins x=some (.type T)) (ha:PA X (e::es) t) (hn:x≠"__name__":=by decide) (hdb:(x==("__debug__":Str))=false:=by decide)
  (he:starEach (e::es) X.env=(false,eval e X.env)::starEach es X.env:=by rfl) (hpl:(backTo pos (starEach es X.env)).any (·.1)=false:=by rfl):PE X (.Call (.Name x p) (e::es) [] pos) (tCB r t):=by
 intro pins s σ H Q I h
 refine wpAny_Call_Name_kw (gH I hg hm hv ?_ hn hdb)
 exact PyProof.Rows.callWith_type1 (thn (ha pos pins s σ H _ I h) fun us s1 ⟨vs,H1,I1,r1,q1⟩=>hc pins s1 σ H1 vs us Q I1 r1 q1) he hpl
end
end L2
namespace HT
open PySem PyProof.Rows
section
open PySem.SeqAt
open PySem.AutoSeq1 (wpAny_loadPart')
open PySem.MeetsSeq PySem.MeetsSeq2 PySem.MeetsSeq3
end
section
variable {prog:Program} {w:World} {A:Around} {E:Value->Shared->Prop} {s:Shared}
def sIx (n d:Nat):Option Int->Nat
 | none=>d
 | some v=>if v<0 then (v+(n:Int)).toNat else min v.toNat n
theorem sIx_none (n d:Nat):sIx n d none=d:=rfl
theorem sIx_nat (n d k:Nat):sIx n d (some (k:Int))=min k n:=by
 show (if (k:Int)<0 then ((k:Int)+(n:Int)).toNat else min (k:Int).toNat n)=min k n
 rw [if_neg (by omega),Int.toNat_natCast]
end
end HT
namespace L2
open PySem PySem.Spec PyProof.Rows
abbrev TO:=St->Hp->(Option Int->Hp->Prop)->Prop
def PO (X:Cx) (e:Option Expr) (t:TO):Prop:=
 ∀ (pins:List (Addr × Obj)) (s:Shared) (σ:St) (H:Hp) (Q:Option Int->Hp->Prop),Inv X pins σ H s->t σ H Q->
  wpAny (model X.prog X.w) X.A (evalPart e X.env) (fun u s'=>∃ o H',Inv X pins σ H' s'/\IsPart u o/\Q o H') X.xe s
def cL:TO:=fun _ H Q=>Q none H
def tPart (t:TE):TO:=fun σ H Q=>t σ H fun x H1=>∃ i,x=.int i/\Q (some i) H1
theorem pF {ns:List Int}:∀ {us:List Value},Vals (ns.map V.int) us->IntsAre us ns:=by
 induction ns with
 | nil=>intro us r; rw [List.map_nil] at r; cases r; exact .nil
 | cons n ns ih=>
  intro us r
  rw [List.map_cons] at r
  cases r with
  | cons r1 r2=>
   obtain ⟨t,e⟩:=r1
   subst e
   exact .cons n t (ih r2)
section
variable {X:Cx} {e:Expr} {te:TE} {lo hi:Option Expr} {tl th:TO} {pos p2:Pos}
theorem fY:PO X none cL:=by
 intro pins s σ H Q I h
 rw [evalPart_none]
 exact wpAny_pure ⟨none,H,I,.none,h⟩
theorem fZ (h:PE X e te):PO X (some e) (tPart te):=by
 intro pins s σ H Q I hw
 rw [evalPart_some]
 refine thn (h pins s σ H _ I hw) fun u s1 ⟨x,H1,I1,r1,q1⟩=>?_
 obtain ⟨i,rfl,q⟩:=q1
 obtain ⟨t,rfl⟩:=r1
 exact ⟨some i,H1,I1,.int i t,q⟩
def SlR (X:Cx) (r:V->Option Int->Option Int->Hp->VK->Prop):Prop:=
 ∀ (pins:List (Addr × Obj)) (s:Shared) (σ:St) (H:Hp) (x:V) (v vl vu:Value) (lo hi:Option Int) (sl:Addr) (Q:VK),Inv X pins σ H s->RelV x v->s.heap.IsSliceOf sl vl vu .none->IsPart vl lo->IsPart vu hi->r x lo hi H Q->
  ∃ T id,typeLookup (.type T) "__getitem__"=pure (some (.builtin id))/\s.TypeIs v T/\wpAny (model X.prog X.w) X.A (getItem v (.ref sl)) (EP X pins σ Q) X.xe s
def tSl (r:V->Option Int->Option Int->Hp->VK->Prop) (te:TE) (tl th:TO):TE:=fun σ H Q=>te σ H fun x H1=>tl σ H1 fun l H2=>th σ H2 fun u H3=>r x l u H3 Q
theorem dC {r:V->Option Int->Option Int->Hp->VK->Prop} (hr:SlR X r) (he:PE X e te) (hl:PO X lo tl) (hu:PO X hi th):PE X (.Subscript e (.Slice lo hi none p2) pos) (tSl r te tl th):=by
 intro pins s σ H Q I h
 refine Subscript_ (thn (he pins s σ H _ I h) fun v s1 ⟨x,H1,I1,r1,q1⟩=>?_)
 refine wpAny_Slice (thn (hl pins s1 σ H1 _ I1 q1) fun vl s2 ⟨l,H2,I2,pl,q2⟩=>thn (hu pins s2 σ H2 _ I2 q2) fun vu s3 ⟨u,H3,I3,pu,q3⟩=>?_)
 rw [evalPart_none]
 refine wpAny_pure ?_
 have I4:Inv X pins σ H3 { s3 with heap:=s3.heap.push { cls:=.type "slice",data:=.fields #[vl,vu,.none] } }:=I3.kept (t':=s3.toks) fun b ob q=>Heap.get?_push_of_some _ q
 obtain ⟨T,id,hT,ht,hg⟩:=hr pins { s3 with heap:=s3.heap.push { cls:=.type "slice",data:=.fields #[vl,vu,.none] } } σ H3 x v vl vu l u s3.heap.objs.size Q I4 r1 (Heap.IsSliceOf.new ..) pl pu q3
 show wpAny (model X.prog X.w) X.A (subscriptTail e (.Slice lo hi none p2) v (.ref s3.heap.objs.size)) (EP X pins σ Q) X.xe { s3 with heap:=s3.heap.push { cls:=.type "slice",data:=.fields #[vl,vu,.none] } }
 exact tail_any (ops:=[.ref s3.heap.objs.size,v]) ht hT hg (by with_unfolding_all rfl)
def cutV (xs:List V) (lo hi:Option Int):List V:=(xs.drop (HT.sIx xs.length 0 lo)).take (HT.sIx xs.length xs.length hi-HT.sIx xs.length 0 lo)
theorem u6 (xs:List V) (lo hi:Option Int):(cutV xs lo hi).length<=xs.length:=by
 unfold cutV
 rw [List.length_take,List.length_drop]
 omega
end
end L2
namespace L2
open PySem PySem.Spec PyProof.Rows
def ixN (n:Nat) (i:Int):Option Nat:=if 0<=i then (if i<n then some i.toNat else none) else if -(n:Int)<=i then some (i+n).toNat else none
def atI {α:Type} (xs:List α) (i:Int):Option α:=(ixN xs.length i).bind fun j=>xs[j]?
theorem zN {n:Nat} {i:Int} {j:Nat} (h:ixN n i=some j):seqIndex? i n=some j/\j<n/\ -(n:Int)<=i/\i<n:=by
 unfold ixN at h
 by_cases h0:0<=i
 . rw [if_pos h0] at h
   by_cases h1:i<n
   . rw [if_pos h1] at h
     have e:i.toNat=j:=Option.some.inj h
     exact ⟨by rw [seqIndex_of h0 h1,e],by omega,by omega,h1⟩
   . rw [if_neg h1] at h; cases h
 . rw [if_neg h0] at h
   by_cases h1: -(n:Int)<=i
   . rw [if_pos h1] at h
     have e:(i+n).toNat=j:=Option.some.inj h
     exact ⟨by rw [seqIndex_neg (by omega) h1,e],by omega,h1,by omega⟩
   . rw [if_neg h1] at h; cases h
theorem qP {α:Type} {xs:List α} {i:Int} {v:α} (h:atI xs i=some v):∃ j,seqIndex? i xs.length=some j/\xs[j]? =some v/\j<xs.length/\ -(xs.length:Int)<=i/\i<xs.length:=by
 unfold atI at h
 cases e:ixN xs.length i with
 | none=>rw [e] at h; cases h
 | some j=>
  rw [e] at h
  obtain ⟨h1,h2,h3,h4⟩:=zN e
  exact ⟨j,h1,h,h2,h3,h4⟩
theorem ga {α:Type} {xs:List α} {j:Nat} {v:α} (h:xs[j]? =some v):atI xs (j:Int)=some v:=by
 have hj:j<xs.length:=(List.getElem?_eq_some_iff.mp h).1
 have e:ixN xs.length (j:Int)=some j:=by
  unfold ixN
  rw [if_pos (by omega),if_pos (by omega)]; simp
 unfold atI; rw [e]; exact h
def vA (b:Expr):Prop:=∀ o i,subscripted b false o i=operate [o,i] (getItem o i)
def IxR (X:Cx) (r:R2):Prop:=
 ∀ (value slice:Expr) (pins:List (Addr × Obj)) (s:Shared) (σ:St) (H:Hp) (x y:V) (v u:Value) (Q:VK),Inv X pins σ H s->RelV x v->RelV y u->r x y H Q->
  subscripted slice false v u=operate [v,u] (getItem v u)->wpAny (model X.prog X.w) X.A (subscriptTail value slice v u) (EP X pins σ Q) X.xe s
def MtR (X:Cx) (id:String) (r:V->List V->Hp->VK->Prop):Prop:=
 ∀ (pins:List (Addr × Obj)) (s:Shared) (σ:St) (H:Hp) (x:V) (xs:List V) (v:Value) (us:List Value) (Q:VK),Inv X pins σ H s->RelV x v->Vals xs us->r x xs H Q->
  wpAny (model X.prog X.w) X.A (call (.builtin id) (v::us)) (EP X pins σ Q) X.xe s
section
variable {X:Cx} {a b:Expr} {ta tb:TE} {pos:Pos}
theorem ao {r:R2} (hr:IxR X r) (ha:PE X a ta) (hb:PE X b tb) (hs:vA b):PE X (.Subscript a b pos) (tOp r ta tb):=by
 intro pins s σ H Q I h
 exact Subscript_ (binT ha hb I h fun v u s2 x y H2 I2 rx ry q=>hr a b pins s2 σ H2 x y v u Q I2 rx ry q (hs _ _))
def rIxL (K:Frag):R2:=fun x y H Q=>∃ p xs i v,x=.ref p/\y=.int i/\SqL K H p xs/\atI xs i=some v/\Q v H
def rIxT (K:Frag):R2:=fun x y H Q=>∃ p xs i v,x=.ref p/\y=.int i/\SqT K H p xs/\atI xs i=some v/\Q v H
def rIxS:R2:=fun x y H Q=>∃ z i c,x=.str z/\y=.int i/\z.length<=sizeLine/\atI z.cps.toList i=some c/\Q (.str ⟨#[c]⟩) H
theorem vB:IxR X (rIxL X.K):=by
 intro value slice pins s σ H x y v u Q I rx ry h hs
 obtain ⟨p,xs,i,z,rfl,rfl,hq,he,q⟩:=h
 cases rx
 obtain ⟨t,rfl⟩:=ry
 obtain ⟨its,r,pl,hz⟩:=I.list hq
 obtain ⟨j,h1,h2,h3,h4,h5⟩:=qP he
 obtain ⟨w,ew,rw'⟩:=r.get h2
 have hl:=r.length
 have hn:=mP
 have fin:EP X pins σ Q w s:=⟨z,H,I,rw',q⟩
 by_cases h0:0<=i
 . have hj:i.toNat=j:=by
    rw [seqIndex_of h0 h5] at h1
    exact Option.some.inj h1
   exact item_listR pl.isList h0 (by omega) (by rw [hj]; simpa using ew) fin hs
 . have hj:(i+(its.toArray.size:Int)).toNat=j:=by
    rw [seqIndex_neg (by omega) h4] at h1
    rw [List.size_toArray,← hl]
    exact Option.some.inj h1
   exact subscriptTail_builtinR (x:=w) pl.isList.typeIs slot_list_getitem.lookup
    (wpAny_getItem_list_neg (Q:=fun r s'=>r=w/\EP X pins σ Q r s') pl.isList (by omega) (by rw [List.size_toArray] <;> omega) (by omega) (by rw [hj]; simpa using ew) ⟨rfl,fin⟩) hs
theorem AD:IxR X (rIxT X.K):=by
 intro value slice pins s σ H x y v u Q I rx ry h hs
 obtain ⟨p,xs,i,z,rfl,rfl,hq,he,q⟩:=h
 cases rx
 obtain ⟨t,rfl⟩:=ry
 obtain ⟨its,r,pl,hz⟩:=I.tuple hq
 obtain ⟨j,h1,h2,h3,h4,h5⟩:=qP he
 obtain ⟨w,ew,rw'⟩:=r.get h2
 have hl:=r.length
 have hn:=mP
 have fin:EP X pins σ Q w s:=⟨z,H,I,rw',q⟩
 exact subscriptTail_builtinR (x:=w) pl.typeIs slot_tuple_getitem.lookup
  (getItem_tuple (j:=j) (Q:=fun r s'=>r=w/\EP X pins σ Q r s') pl (by omega) (by omega) (by rw [List.size_toArray,← hl]; exact h1) (by simpa using ew) ⟨rfl,fin⟩) hs
theorem AE:IxR X rIxS:=by
 intro value slice pins s σ H x y v u Q I rx ry h hs
 obtain ⟨z,i,c,rfl,rfl,hz,he,q⟩:=h
 obtain ⟨t,rfl⟩:=rx
 obtain ⟨t',rfl⟩:=ry
 obtain ⟨j,h1,h2,h3,h4,h5⟩:=qP he
 have hl:z.cps.toList.length=z.length:=by simp [Str.length]
 rw [hl] at h1 h4 h5
 have hn:=mP
 exact tail_any (typeIs_str s z t) slot_str_getitem.lookup (getItem_str (c:=c) (by
  have e1:decide (i < -(2^63:Int))=false:=decide_eq_false (by omega)
  have e2:decide (i ≥ 2^63)=false:=decide_eq_false (by omega)
  rw [e1,e2,Bool.or_false]) (by rw [h1]; simpa using h2) ⟨.str ⟨#[c]⟩,H,I.tok _,⟨_,rfl⟩,q⟩) hs
theorem Inv.lst {pins:List (Addr × Obj)} {σ:St} {H:Hp} {s:Shared} {p:Addr} {xs:List V} (I:Inv X pins σ H s) (h:H p=some (.lst xs)):
  ∃ (its:List Value) (n:Nat),Vals xs its/\s.heap.get? p=some { cls:=.type "list",data:=.seq its.toArray n }/\xs.length<=sizeLine:=by
 obtain ⟨z,its,n,r,e⟩:=I.hok p _ h
 exact ⟨its,n,r,e,z⟩
theorem tH (lo hi:Option Int) (n:Nat):(sliceBounds lo hi none n).1=((HT.sIx n 0 lo:Nat):Int)/\(sliceBounds lo hi none n).2.1=((HT.sIx n n hi:Nat):Int)/\(sliceBounds lo hi none n).2.2=1:=by
 refine ⟨?_,?_,rfl⟩
 . cases lo with
   | none=>simp [sliceBounds,HT.sIx]
   | some i=>
    simp only [sliceBounds,HT.sIx,Option.getD_none,show (1:Int)>0 by decide,if_true]
    by_cases h:i<0
    . simp only [h,if_true] <;> omega
    . simp only [h,if_false] <;> omega
 . cases hi with
   | none=>simp [sliceBounds,HT.sIx]
   | some i=>
    simp only [sliceBounds,HT.sIx,Option.getD_none,show (1:Int)>0 by decide,if_true]
    by_cases h:i<0
    . simp only [h,if_true] <;> omega
    . simp only [h,if_false] <;> omega
theorem sf (its:List Value) (lo hi:Option Int):slicePick its.toArray lo hi none=((its.drop (HT.sIx its.length 0 lo)).take (HT.sIx its.length its.length hi-HT.sIx its.length 0 lo)).toArray:=by
 obtain ⟨h1,h2,h3⟩:=tH lo hi its.toArray.size
 unfold slicePick
 rw [h1,h2,h3]
 simp only [sliceRange_one,pick_run,List.size_toArray] <;> rfl
def rSlL (K:Frag):V->Option Int->Option Int->Hp->VK->Prop:=fun x lo hi H Q=>∃ a xs,x=.ref a/\SqL K H a xs/\∀ p,H p=none->Q (.ref p) (upd H p (.lst (cutV xs lo hi)))
theorem zO:SlR X (rSlL X.K):=by
 intro pins s σ H x v vl vu lo hi sl Q I rx hs pl pu h
 obtain ⟨a,xs,rfl,hx,q⟩:=h
 cases rx
 obtain ⟨its,r,ht,hz⟩:=I.list hx
 have hlen:=r.length
 refine ⟨"list",_,slot_list_getitem.lookup,ht.isList.typeIs,?_⟩
 refine wpAny_getItem_list_slice ht.isList hs pl pu .none (by simp) ?_ (by rw [List.size_toArray] <;> omega)
 rw [sf,← hlen]
 refine ⟨.ref s.heap.objs.size,_,I.laid (t':=s.toks) (o:=.lst (cutV xs lo hi)) (fun b ob q=>Heap.get?_push_of_some _ q) (Nat.le_refl _) ?_,rfl,q _ (I.hok.fresh (Nat.le_refl _))⟩
 exact ⟨Nat.le_trans (u6 xs lo hi) hz,_,0,(r.drop (HT.sIx xs.length 0 lo)).take (HT.sIx xs.length xs.length hi-HT.sIx xs.length 0 lo),Heap.get?_push_size _ rfl⟩
def flatV:V->Bool
 | .non=>true
 | .bl _=>true
 | .int _=>true
 | .str _=>true
 | _=>false
def eqV:V->V->Bool
 | .non,.non=>true
 | .bl a,.bl b=>a==b
 | .bl a,.int b=>(if a then 1 else 0)==b
 | .int a,.bl b=>a==(if b then 1 else 0)
 | .int a,.int b=>a==b
 | .str a,.str b=>a==b
 | _,_=>false
theorem AF {A:Around} {s:Shared} {y x:V} {u v:Value} (ry:RelV y u) (rx:RelV x v) (fy:flatV y=true) (fx:flatV x=true):SeqAt.EqAt A s u v (eqV y x):=by
 cases y with
 | non=>
  cases ry
  cases x with
  | non=>cases rx; exact SeqAt.EqAt.same _
  | bl b=>cases rx; exact SeqAt.EqAt.none_bool b
  | int b=>obtain ⟨t,rfl⟩:=rx; exact SeqAt.EqAt.none_int b t
  | str b=>obtain ⟨t,rfl⟩:=rx; exact SeqAt.EqAt.none_str b t
  | _=>exact absurd (show false=true from fx) Bool.false_ne_true
 | bl a=>
  cases ry
  cases x with
  | non=>cases rx; exact SeqAt.EqAt.bool_none a
  | bl b=>cases rx; exact SeqAt.EqAt.bool_bool a b
  | int b=>obtain ⟨t,rfl⟩:=rx; exact SeqAt.EqAt.bool_int a b t
  | str b=>obtain ⟨t,rfl⟩:=rx; exact SeqAt.EqAt.bool_str a b t
  | _=>exact absurd (show false=true from fx) Bool.false_ne_true
 | int a=>
  obtain ⟨t',rfl⟩:=ry
  cases x with
  | non=>cases rx; exact SeqAt.EqAt.int_none a t'
  | bl b=>cases rx; exact SeqAt.EqAt.int_bool a t' b
  | int b=>obtain ⟨t,rfl⟩:=rx; exact SeqAt.EqAt.int_int a t' b t
  | str b=>obtain ⟨t,rfl⟩:=rx; exact SeqAt.EqAt.int_str a t' b t
  | _=>exact absurd (show false=true from fx) Bool.false_ne_true
 | str a=>
  obtain ⟨t',rfl⟩:=ry
  cases x with
  | non=>cases rx; exact SeqAt.EqAt.str_none a t'
  | bl b=>cases rx; exact SeqAt.EqAt.str_bool a t' b
  | int b=>obtain ⟨t,rfl⟩:=rx; exact SeqAt.EqAt.str_int a t' b t
  | str b=>obtain ⟨t,rfl⟩:=rx; exact SeqAt.EqAt.str_str a t' b t
  | _=>exact absurd (show false=true from fx) Bool.false_ne_true
 | _=>exact absurd (show false=true from fy) Bool.false_ne_true
def eqU (x:V) (u:Value):Bool:=match u with
 | .none=>eqV .non x
 | .bool b=>eqV (.bl b) x
 | .int i _=>eqV (.int i) x
 | .str z _=>eqV (.str z) x
 | _=>false
theorem xt {x y:V} {u:Value} (r:RelV y u) (f:flatV y=true):eqU x u=eqV y x:=by
 cases y with
 | non=>cases r; rfl
 | bl b=>cases r; rfl
 | int i=>obtain ⟨t,rfl⟩:=r; rfl
 | str z=>obtain ⟨t,rfl⟩:=r; rfl
 | _=>exact absurd (show false=true from f) Bool.false_ne_true
theorem lR {x:V}:∀ {xs:List V} {us:List Value},Vals xs us->xs.all flatV=true->us.any (eqU x)=xs.any fun y=>eqV y x
 | _,_,.nil,_=>rfl
 | y::xs,u::us,.cons r t,f=>by
  rw [List.all_cons,Bool.and_eq_true] at f
  rw [List.any_cons,List.any_cons,xt r f.1,lR t f.2]
theorem kR {A:Around} {s:Shared} {x:V} {v:Value} (rx:RelV x v) (fx:flatV x=true):∀ {xs:List V} {us:List Value},Vals xs us->xs.all flatV=true->∀ u∈us,SeqAt.EqAt A s u v (eqU x u)
 | _,_,.nil,_=>fun u hu=>by cases hu
 | y::xs,u::us,.cons r t,f=>fun u' hu=>by
  rw [List.all_cons,Bool.and_eq_true] at f
  rcases List.mem_cons.mp hu with rfl | hu
  . rw [xt r f.1]; exact AF r rx f.1 fx
  . exact kR rx fx t f.2 u' hu
def inV (x:V) (xs:List V):Bool:=xs.any fun y=>eqV y x
def rIn (K:Frag) (neg:Bool):R2:=fun x y H Q=>∃ p xs,y=.ref p/\(SqL K H p xs\/SqT K H p xs)/\flatV x=true/\xs.all flatV=true/\Q (.bl (if neg then !inV x xs else inV x xs)) H
theorem mS:OpR X (compareOp .In) (rIn X.K false):=by
 intro pins s σ H x y v u Q I rx ry h
 obtain ⟨p,xs,rfl,hq,fx,fs,q⟩:=h
 cases ry
 rcases hq with hq | hq
 . obtain ⟨its,r,pl,hz⟩:=I.list hq
   refine SeqAt.in_listAt (eqU x) pl.isList (fun w hw=>kR rx fx r fs w (by simpa using hw)) ⟨.bl _,H,I,rfl,?_⟩
   rw [show its.toArray.any (eqU x)=its.any (eqU x) by simp,lR r fs]
   exact q
 . obtain ⟨its,r,pl,hz⟩:=I.tuple hq
   refine SeqAt.in_tupleAt (eqU x) pl (fun w hw=>kR rx fx r fs w (by simpa using hw)) ⟨.bl _,H,I,rfl,?_⟩
   rw [show its.toArray.any (eqU x)=its.any (eqU x) by simp,lR r fs]
   exact q
theorem mT:OpR X (compareOp .NotIn) (rIn X.K true):=by
 intro pins s σ H x y v u Q I rx ry h
 obtain ⟨p,xs,rfl,hq,fx,fs,q⟩:=h
 cases ry
 rcases hq with hq | hq
 . obtain ⟨its,r,pl,hz⟩:=I.list hq
   refine SeqAt.notIn_listAt (eqU x) pl.isList (fun w hw=>kR rx fx r fs w (by simpa using hw)) ⟨.bl _,H,I,rfl,?_⟩
   rw [show its.toArray.any (eqU x)=its.any (eqU x) by simp,lR r fs]
   exact q
 . obtain ⟨its,r,pl,hz⟩:=I.tuple hq
   refine SeqAt.notIn_tupleAt (eqU x) pl (fun w hw=>kR rx fx r fs w (by simpa using hw)) ⟨.bl _,H,I,rfl,?_⟩
   rw [show its.toArray.any (eqU x)=its.any (eqU x) by simp,lR r fs]
   exact q
theorem tI:OpR X (compareOp .NotIn) (fun x y H Q=>∃ i j,x=.str i/\y=.str j/\Q (.bl (!(!(Builtin.Str.occurrences j i 0 j.length 1).isEmpty))) H):=by
 intro pins s σ H x y v u Q I rx ry h
 obtain ⟨i,j,rfl,rfl,q⟩:=h
 obtain ⟨t,rfl⟩:=rx
 obtain ⟨t',rfl⟩:=ry
 exact notIn_str ⟨.bl _,H,I,rfl,q⟩
theorem mU:CallR X (.builtin "len") (fun xs H Q=>∃ p ys,xs=[.ref p]/\(SqL X.K H p ys\/SqT X.K H p ys)/\Q (.int ys.length) H):=by
 intro pins s σ H xs us Q I r h
 obtain ⟨p,ys,rfl,hq,q⟩:=h
 obtain ⟨u,rfl,rx⟩:=cV r
 cases rx
 have hn:=mP
 rcases hq with hq | hq
 . obtain ⟨its,r',pl,hz⟩:=I.list hq
   have hlen:=r'.length
   exact Calls.call_len_list pl.isList (by simp only [List.size_toArray] <;> omega) ⟨.int ys.length,H,I.tok _,⟨s.toks+1,by rw [List.size_toArray,hlen]⟩,q⟩
 . obtain ⟨its,r',pl,hz⟩:=I.tuple hq
   have hlen:=r'.length
   exact len_tuple pl (by simp only [List.size_toArray] <;> omega) ⟨.int ys.length,H,I.tok _,⟨s.toks+1,by rw [List.size_toArray,hlen]⟩,q⟩
theorem tJ:CallR X (.builtin "len") (fun xs H Q=>∃ z,xs=[.str z]/\z.length<=sizeLine/\Q (.int z.length) H):=by
 intro pins s σ H xs us Q I r h
 obtain ⟨z,rfl,hz,q⟩:=h
 obtain ⟨u,rfl,t,rfl⟩:=cV r
 have hn:=mP
 exact len_str (by omega) ⟨.int z.length,H,I.tok _,⟨_,rfl⟩,q⟩
theorem tK:CallR X (.type "list") (fun xs H Q=>∃ p ys,xs=[.ref p]/\(SqL X.K H p ys\/SqT X.K H p ys)/\∀ l,H l=none->Q (.ref l) (upd H l (.lst ys))):=by
 intro pins s σ H xs us Q I r h
 obtain ⟨p,ys,rfl,hq,q⟩:=h
 obtain ⟨u,rfl,rx⟩:=cV r
 cases rx
 have fin:∀ (its:List Value),Vals ys its->ys.length<=sizeLine->∀ (h':Heap) (c':Nat),(∀ b o',s.heap.get? b=some o'->h'.get? b=some o')->
   h'.get? s.heap.objs.size=some { cls:=.type "list",dict:=none,data:=.seq its.toArray c',slots:=#[] }->EP X pins σ Q (.ref s.heap.objs.size) { s with heap:=h' }:=fun its r' hz h' c' kp e=>
  ⟨.ref s.heap.objs.size,_,I.laid (t':=s.toks) kp (Nat.le_refl _) (show ObjOk X.prog X.w _ h' _ (.lst ys) from ⟨hz,its,c',r',e⟩),rfl,q _ (I.hok.fresh (Nat.le_refl _))⟩
 rcases hq with hq | hq
 . obtain ⟨its,r',pl,hz⟩:=I.list hq
   have hlen:=r'.length
   obtain ⟨o,ho,hc,n,hd⟩:=pl.isList
   exact call_list_seq p (.inl rfl) ho hc hd (fun h' c' kp e=>fin its r' hz h' c' kp e) (by simp only [List.size_toArray] <;> omega)
 . obtain ⟨its,r',pl,hz⟩:=I.tuple hq
   have hlen:=r'.length
   obtain ⟨o,ho,hc,n,hd⟩:=pl
   exact call_list_seq p (.inr rfl) ho hc hd (fun h' c' kp e=>fin its r' hz h' c' kp e) (by simp only [List.size_toArray] <;> omega)
theorem sh:CallR X (.type "tuple") (fun xs H Q=>∃ p ys,xs=[.ref p]/\((SqL X.K H p ys/\∀ l,H l=none->Q (.ref l) (upd H l (.tup ys)))\/(SqT X.K H p ys/\Q (.ref p) H))):=by
 intro pins s σ H xs us Q I r h
 obtain ⟨p,ys,rfl,h⟩:=h
 obtain ⟨u,rfl,rx⟩:=cV r
 cases rx
 rcases h with ⟨hq,q⟩ | ⟨hq,q⟩
 . obtain ⟨its,r',pl,hz⟩:=I.list hq
   have hlen:=r'.length
   refine call_tuple_list pl.isList (fun h' kp=>?_) (by simp only [List.size_toArray] <;> omega)
   have I1:Inv X pins σ H { s with heap:=h' }:=I.kept (t':=s.toks) kp
   have I2:Inv X pins σ (upd H h'.objs.size (.tup ys)) { s with heap:=h'.push { cls:=.type "tuple",data:=.seq its.toArray } }:=
    I1.laid (t':=s.toks) (fun b o e=>Heap.get?_push_of_some _ e) (Nat.le_refl _) (show ObjOk X.prog X.w _ _ _ (.tup ys) from ⟨hz,its,r',IsTup.new _ _⟩)
   exact ⟨.ref h'.objs.size,_,I2,rfl,q _ (I1.hok.fresh (Nat.le_refl _))⟩
 . obtain ⟨its,r',pl,hz⟩:=I.tuple hq
   exact call_tuple_same pl ⟨.ref p,H,I,rfl,q⟩
def tyV (K:Frag) (T:String) (x:V) (H:Hp):Prop:=match x with
 | .str _=>T="str"
 | .int _=>T="int"
 | .ref p=>(T="list"/\∃ xs,SqL K H p xs)\/(T="tuple"/\∃ o,K.lookup p=some o/\o.cls=.type "tuple"/\o.dict=none)\/
   (T="dict"/\((∃ kvs,H p=some (.dK kvs))\/∃ kvs,H p=some (.dT kvs)))\/(T="set"/\∃ S n,H p=some (.set S n))
 | _=>False
theorem xu {pins:List (Addr × Obj)} {σ:St} {H:Hp} {s:Shared} {T:String} {x:V} {v:Value} (I:Inv X pins σ H s) (r:RelV x v) (ty:tyV X.K T x H):
  s.TypeIs v T/\∀ a,v=.ref a->∃ ob,s.heap.get? a=some ob/\ob.dict=none:=by
 cases x with
 | str z=>
  obtain ⟨t,rfl⟩:=r
  cases (show T="str" from ty)
  exact ⟨typeIs_str s z t,fun _ e=>nomatch e⟩
 | int i=>
  obtain ⟨t,rfl⟩:=r
  cases (show T="int" from ty)
  exact ⟨typeIs_int s i t,fun _ e=>nomatch e⟩
 | ref p=>
  cases r
  rcases ty with ⟨rfl,xs,hq⟩ | ⟨rfl,o,hk,hc,hd⟩ | ⟨rfl,hk⟩ | ⟨rfl,S,n,hk⟩
  . obtain ⟨its,_,pl,_⟩:=I.list hq
    refine ⟨pl.isList.typeIs,fun a e=>?_⟩
    cases e
    obtain ⟨o,n,e,c,hd,_⟩:=pl
    exact ⟨o,e,hd⟩
  . refine ⟨⟨o,I.kIn p o hk,hc⟩,fun a e=>?_⟩
    cases e
    exact ⟨o,I.kIn _ o hk,hd⟩
  . have z:∃ o,s.heap.get? p=some o/\o.ExactDict:=by
     rcases hk with ⟨kvs,hk⟩ | ⟨kvs,hk⟩
     . obtain ⟨_,_,_,_,o,_,_,e,ex,_⟩:=I.hok p _ hk
       exact ⟨o,e,ex⟩
     . obtain ⟨_,_,_,_,o,_,_,e,ex,_⟩:=I.hok p _ hk
       exact ⟨o,e,ex⟩
    obtain ⟨o,e,ex⟩:=z
    refine ⟨⟨o,e,ex.1⟩,fun a e2=>?_⟩
    cases e2
    exact ⟨o,e,ex.2.1⟩
  . obtain ⟨o,_,_,_,e,ex,_⟩:=I.hok p _ hk
    refine ⟨⟨o,e,ex.1⟩,fun a e2=>?_⟩
    cases e2
    exact ⟨o,e,ex.2.1⟩
 | _=>exact False.elim ty
def tL (K:Frag) (T:String) (r:V->List V->Hp->VK->Prop) (to:TE):TE:=fun σ H Q=>to σ H fun x H1=>tyV K T x H1/\r x [] H1 Q
def tBM (K:Frag) (T:String) (r:V->List V->Hp->VK->Prop) (to:TE) (t:TA):TE:=fun σ H Q=>to σ H fun x H1=>tyV K T x H1/\t σ H1 fun xs H2=>r x xs H2 Q
variable {o e:Expr} {es:List Expr} {to:TE} {t:TA} {name:Str} {apos cpos:Pos} {T id:String} {r:V->List V->Hp->VK->Prop}
theorem tM (pa:PlainAttrs T) (slot:Slot T name id) (hty:typeOf (.builtin id)=pure (.type "method_descriptor")) (hm:MtR X id r) (ho:PE X o to)
  (hbase:attributeBase o name X.env (eval o X.env)=eval o X.env:=by rfl) (hline:(apos.endLine==cpos.line)=true:=by rfl):PE X (.Call (.Attribute o name apos) [] [] cpos) (tL X.K T r to):=by
 intro pins s σ H Q I h
 refine wpAny_Call_method0_late hbase hline (thn (ho pins s σ H _ I h) fun v s1 ⟨x,H1,I1,r1,ty,q1⟩=>?_)
 obtain ⟨h1,h2⟩:=xu I1 r1 ty
 exact ⟨T,id,pa,slot,hty,h1,h2,Calls.callWith_builtin rfl (PySem.evalArgs_none (hm pins s1 σ H1 x [] v [] Q I1 r1 .nil q1))⟩
theorem cm (pa:PlainAttrs T) (slot:Slot T name id) (hty:typeOf (.builtin id)=pure (.type "method_descriptor")) (hm:MtR X id r) (ho:PE X o to) (ha:PA X (e::es) t)
  (hbase:attributeBase o name X.env (eval o X.env)=eval o X.env:=by rfl)
  (hfew:((backTo cpos (starEach (e::es) X.env)).all (fun x=>!x.1)&&(backToKw cpos (keywordEach [] X.env)).all (fun x=>x.1.isSome)
   &&decide ((e::es).length+([]:List Keyword).length+(if ([]:List Keyword).isEmpty then 0 else 1)<30))=true:=by rfl)
  (hline:(apos.endLine==cpos.line)=true:=by rfl) (hs:starEach (e::es) X.env=(false,eval e X.env)::starEach es X.env:=by rfl) (hplain:(backTo cpos (starEach es X.env)).any (·.1)=false:=by rfl):
  PE X (.Call (.Attribute o name apos) (e::es) [] cpos) (tBM X.K T r to t):=by
 intro pins s σ H Q I h
 refine wpAny_Call_method_late hbase hfew hline rfl (thn (ho pins s σ H _ I h) fun v s1 ⟨x,H1,I1,r1,ty,q1⟩=>?_)
 obtain ⟨h1,h2⟩:=xu I1 r1 ty
 refine ⟨T,id,pa,slot,hty,h1,h2,?_⟩
 have hA:=ha cpos pins s1 σ H1 _ I1 q1
 rw [hs] at hA ⊢
 refine Calls.callWith_builtin (by show (false||(backTo cpos (starEach es X.env)).any (·.1))=false; rw [hplain] <;> rfl) (Calls.evalArgs_plain ?_)
 exact thn hA fun us s2 ⟨vs,H2,I2,r2,q2⟩=>hm pins s2 σ H2 x vs v us Q I2 r1 r2 q2
end
end L2
namespace L2
open PySem PySem.Spec PyProof.Rows
def MtM (X:Cx) (id:String) (r:V->List V->Hp->VK->Prop):Prop:=
 ∀ (pins:List (Addr × Obj)) (s:Shared) (σ:St) (H:Hp) (x:V) (xs:List V) (v:Value) (us:List Value) (Q:VK),Inv X pins σ H s->RelV x v->Vals xs us->r x xs H Q->
  wpAny (model X.prog X.w) X.A (call (.builtin id) (v::us)) (EP X pins σ Q) X.xe s
theorem Vals.one:∀ {x:V} {us:List Value},Vals [x] us->∃ u,us=[u]/\RelV x u
 | _,_,.cons r .nil=>⟨_,rfl,r⟩
theorem Vals.zero:∀ {us:List Value},Vals [] us->us=[]
 | _,.nil=>rfl
theorem Vals.dropLast {xs:List V} {us:List Value} (h:Vals xs us):Vals xs.dropLast us.dropLast:=by
 induction h with
 | nil=>exact .nil
 | cons r t ih=>
  cases t with
  | nil=>exact .nil
  | cons q t'=>exact .cons r ih
theorem Vals.eraseIdx:∀ {xs:List V} {us:List Value} (i:Nat),Vals xs us->Vals (xs.eraseIdx i) (us.eraseIdx i)
 | _,_,_,.nil=>.nil
 | _,_,0,.cons _ t=>t
 | _,_,i+1,.cons r t=>.cons r (Vals.eraseIdx i t)
theorem Vals.rep {xs:List V} {us:List Value} (h:Vals xs us):∀ k:Nat,Vals (List.replicate k xs).flatten (List.replicate k us).flatten
 | 0=>.nil
 | k+1=>by
  rw [List.replicate_succ,List.replicate_succ,List.flatten_cons,List.flatten_cons]
  exact Vals.append h (Vals.rep h k)
theorem wc {α:Type} (l:List α):l.eraseIdx (l.length-1)=l.dropLast:=by
 induction l with
 | nil=>rfl
 | cons a r ih=>
  cases r with
  | nil=>rfl
  | cons b r=>
   have e:(a::b::r).length-1=((b::r).length-1)+1:=by
    have h1:(a::b::r).length=r.length+2:=rfl
    have h2:(b::r).length=r.length+1:=rfl
    omega
   rw [e,List.eraseIdx_cons_succ,ih]
   all_goals rfl
theorem rM {α:Type}:∀ (l:List α) (i:Nat),(l.eraseIdx i).length<=l.length
 | [],_=>Nat.le_refl _
 | _::_,0=>Nat.le_succ _
 | _::r,i+1=>Nat.succ_le_succ (rM r i)
theorem rN (its:List Value):∀ (k:Nat) (acc:List Value),
  List.foldl (fun x1 x2=>x1++x2) acc.toArray (List.replicate k its.toArray)=(acc++(List.replicate k its).flatten).toArray
 | 0,acc=>by simp
 | k+1,acc=>by
  have e:acc.toArray++its.toArray=(acc++its).toArray:=by simp
  have e2:(acc++its)++(List.replicate k its).flatten=acc++(List.replicate (k+1) its).flatten:=by
   rw [List.replicate_succ,List.flatten_cons,List.append_assoc]
  rw [← e2,← rN its k (acc++its),← e,List.replicate_succ,List.foldl_cons]
section
variable {X:Cx} {pins:List (Addr × Obj)} {σ:St} {H:Hp} {s:Shared} {l b:Addr} {xs ys zs:List V}
theorem Inv.lset {its its':List Value} {n:Nat} {f:Array Value->Array Value} {t':Nat} (I:Inv X pins σ H s) (hH:H l=some (.lst xs))
  (e:s.heap.get? l=some { cls:=.type "list",data:=.seq its.toArray n }) (hf:f its.toArray=its'.toArray) (hv:Vals ys its') (hz:ys.length<=sizeLine):
  Inv X pins σ (upd H l (.lst ys)) { s with heap:=s.heap.update l (Obj.mapSeq f),toks:=t' }:=by
 have q:=PySem.IsL.update e f
 rw [hf] at q
 refine I.write (x:=l) (e:=l) (by rw [hH]; exact trivial) (.inl rfl) (fun b' u hb hu=>(Heap.get?_update_other s.heap (Obj.mapSeq f) (Ne.symm hb)).trans hu) ⟨_,q⟩ ?_
 exact ⟨hz,its',_,hv,q⟩
theorem Inv.lnew {its:List Value} {t':Nat} (I:Inv X pins σ H s) (hv:Vals ys its) (hz:ys.length<=sizeLine):
  Inv X pins σ (upd H s.heap.objs.size (.lst ys)) { s with heap:=s.heap.push { cls:=.type "list",data:=.seq its.toArray },toks:=t' }:=
 I.laid (fun _ _ q=>Heap.get?_push_of_some _ q) (Nat.le_refl _) ⟨hz,its,0,hv,Heap.get?_push_size _ rfl⟩
theorem Inv.fresh (I:Inv X pins σ H s):H s.heap.objs.size=none:=I.hok.fresh (Nat.le_refl _)
theorem Inv.lstM (I:Inv X pins σ H s) (hH:H l=some (.lst xs)):xs.length<=sizeLine/\∃ (its:List Value) (n:Nat),Vals xs its/\xs.length=its.length/\s.heap.get? l=some { cls:=.type "list",data:=.seq its.toArray n }:=by
 obtain ⟨z,its,n,r,e⟩:=I.hok l _ hH
 exact ⟨z,its,n,r,r.length,e⟩
theorem tN {n:Nat} (h:n<=sizeLine):Builtin.List.listTooLong n=false:=by
 unfold Builtin.List.listTooLong
 exact decide_eq_false (by omega)
end
section
variable {X:Cx}
def zP:V->List V->Hp->VK->Prop:=fun x vs H Q=>∃ l xs y,x=.ref l/\vs=[y]/\H l=some (.lst xs)/\xs.length<sizeLine/\Q .non (upd H l (.lst (xs++[y])))
theorem rO:MtM X "list.append" zP:=by
 intro pins s σ H x vs v us Q I rx rv h
 obtain ⟨l,xs,y,rfl,rfl,hH,hz,q⟩:=h
 cases rx
 obtain ⟨u,rfl,ru⟩:=rv.one
 obtain ⟨z,its,n,r,hl,e⟩:=I.lstM hH
 refine call_meets F.slot_list_append ⟨_,e,rfl⟩ F.entry_list_append (F.args_list_append_2 _ _) (PySem.list_append l its.toArray n u (by rw [List.size_toArray]; omega)) ⟨e,?_⟩
 refine ⟨.non,_,I.lset (its':=its++[u]) hH e (by simp) (r.append (.cons ru .nil)) ?_,rfl,q⟩
 rw [List.length_append,List.length_singleton]
 omega
def zQ:V->List V->Hp->VK->Prop:=fun x vs H Q=>∃ l b xs zs,x=.ref l/\vs=[.ref b]/\H l=some (.lst xs)/\H b=some (.lst zs)/\xs.length+zs.length<=sizeLine/\Q .non (upd H l (.lst (xs++zs)))
theorem xv:MtM X "list.extend" zQ:=by
 intro pins s σ H x vs v us Q I rx rv h
 obtain ⟨l,b,xs,zs,rfl,rfl,hH,hB,hz,q⟩:=h
 cases rx
 obtain ⟨u,rfl,ru⟩:=rv.one
 cases ru
 obtain ⟨z,its,n,r,hl,e⟩:=I.lstM hH
 obtain ⟨z2,its2,n2,r2,hl2,e2⟩:=I.lstM hB
 have hsz:its.toArray.size+its2.toArray.size<=sizeLine:=by rw [List.size_toArray,List.size_toArray]; omega
 have hlong:¬ (!its.toArray.isEmpty&&Builtin.List.listTooLong (its.toArray.size+its2.toArray.size))=true:=by
  rw [tN hsz,Bool.and_false]
  exact Bool.false_ne_true
 refine call_meets F.slot_list_extend ⟨_,e,rfl⟩ F.entry_list_extend (F.args_list_extend_2 _ _)
  (AutoSeq1.list_extend_list_list_0 l its.toArray n b its2.toArray n2 hlong (by rw [List.size_toArray]; omega) (by omega)) ⟨e,e2,?_⟩
 refine ⟨.non,_,I.lset (its':=its++its2) hH e (by simp) (r.append r2) ?_,rfl,q⟩
 rw [List.length_append]
 omega
def rPop:V->List V->Hp->VK->Prop:=fun x vs H Q=>∃ l xs y,x=.ref l/\vs=[]/\H l=some (.lst xs)/\xs[xs.length-1]? =some y/\Q y (upd H l (.lst xs.dropLast))
theorem AG:MtM X "list.pop" rPop:=by
 intro pins s σ H x vs v us Q I rx rv h
 obtain ⟨l,xs,y,rfl,rfl,hH,hy,q⟩:=h
 cases rx
 have hus:=rv.zero
 subst hus
 obtain ⟨z,its,n,r,hl,e⟩:=I.lstM hH
 obtain ⟨u,hu,ru⟩:=r.get hy
 have hy':its.toArray[its.toArray.size-1]? =some u:=by
  show its.toArray[its.length-1]? =some u
  rw [← Array.getElem?_toList,← hl]
  exact hu
 refine call_meets F.slot_list_pop ⟨_,e,rfl⟩ F.entry_list_pop (F.args_list_pop_1 _) (MeetsSeq.list_pop_last l its.toArray n u hy' (by rw [List.size_toArray]; omega)) ⟨e,?_⟩
 refine ⟨y,_,I.lset (its':=its.dropLast) hH e ?_ r.dropLast ?_,ru,q⟩
 . show its.toArray.eraseIdxIfInBounds (its.toArray.size-1)=its.dropLast.toArray
   rw [List.size_toArray,List.eraseIdxIfInBounds_toArray,wc]
 . rw [List.length_dropLast]
   omega
def AH:V->List V->Hp->VK->Prop:=fun x vs H Q=>∃ l xs i k y,x=.ref l/\vs=[.int i]/\H l=some (.lst xs)/\ -(2^63)<=i/\i<2^63/\seqIndex? i xs.length=some k/\xs[k]? =some y/\Q y (upd H l (.lst (xs.eraseIdx k)))
theorem yS:MtM X "list.pop" AH:=by
 intro pins s σ H x vs v us Q I rx rv h
 obtain ⟨l,xs,i,k,y,rfl,rfl,hH,h1,h2,hk,hy,q⟩:=h
 cases rx
 obtain ⟨u,rfl,ru⟩:=rv.one
 obtain ⟨t,rfl⟩:=ru
 obtain ⟨z,its,n,r,hl,e⟩:=I.lstM hH
 obtain ⟨w,hw,rw'⟩:=r.get hy
 refine call_meets F.slot_list_pop ⟨_,e,rfl⟩ F.entry_list_pop (F.args_list_pop_2 _ _)
  (MeetsSeq.list_pop_at l its.toArray n i t k w (fitsIndex_both h1 h2) (by rw [List.size_toArray,← hl]; exact hk) (by rw [← Array.getElem?_toList]; exact hw) (by rw [List.size_toArray]; omega)) ⟨e,?_⟩
 refine ⟨y,_,I.lset (its':=its.eraseIdx k) hH e ?_ (r.eraseIdx k) ?_,rw',q⟩
 . show its.toArray.eraseIdxIfInBounds k=(its.eraseIdx k).toArray
   rw [List.eraseIdxIfInBounds_toArray]
 . have:=rM xs k
   omega
def rCat:R2:=fun x y H Q=>∃ l b xs zs,x=.ref l/\y=.ref b/\H l=some (.lst xs)/\H b=some (.lst zs)/\xs.length+zs.length<=sizeLine/\∀ p,H p=none->Q (.ref p) (upd H p (.lst (xs++zs)))
theorem AI:OpR X (binaryOp .Add) rCat:=by
 intro pins s σ H x y v u Q I rx ry h
 obtain ⟨l,b,xs,zs,rfl,rfl,hH,hB,hz,q⟩:=h
 cases rx
 cases ry
 obtain ⟨z,its,n,r,hl,e⟩:=I.lstM hH
 obtain ⟨z2,its2,n2,r2,hl2,e2⟩:=I.lstM hB
 refine PySem.P.add_list e e2 ?_ (by rw [List.size_toArray,List.size_toArray]; omega)
 have ea:its.toArray++its2.toArray=(its++its2).toArray:=by simp
 rw [ea]
 exact ⟨.ref _,_,I.lnew (t':=s.toks) (r.append r2) (by rw [List.length_append]; omega),rfl,q _ I.fresh⟩
def rRep:R2:=fun x y H Q=>∃ l k xs,x=.ref l/\y=.int k/\H l=some (.lst xs)/\ -(2^63)<=k/\k<2^63/\xs.length*k.toNat<=sizeLine/\
 ∀ p,H p=none->Q (.ref p) (upd H p (.lst (List.replicate k.toNat xs).flatten))
theorem zR {α:Type} (xs:List α) (k:Nat):(List.replicate k xs).flatten.length=k*xs.length:=by
 induction k with
 | zero=>simp
 | succ k ih=>rw [List.replicate_succ,List.flatten_cons,List.length_append,ih,Nat.succ_mul,Nat.add_comm]
theorem AJ:OpR X (binaryOp .Mult) rRep:=by
 intro pins s σ H x y v u Q I rx ry h
 obtain ⟨l,k,xs,rfl,rfl,hH,h1,h2,hz,q⟩:=h
 cases rx
 obtain ⟨t,rfl⟩:=ry
 obtain ⟨z,its,n,r,hl,e⟩:=I.lstM hH
 have hlen:its.toArray.size*k.toNat<=sizeLine:=by rw [List.size_toArray,← hl]; exact hz
 have hcap:¬ its.toArray.size*k.toNat > (2^63-1)/8:=by
  have:(sizeLine:Nat)<=(2^63-1)/8:=by decide
  omega
 have hfit:¬ (!Builtin.List.listFitsIndex k)=true:=by
  rw [fitsIndex_both h1 h2]
  exact Bool.false_ne_true
 have hlong:¬ Builtin.List.listTooLong (its.toArray.size*k.toNat)=true:=by
  rw [tN hlen]
  exact Bool.false_ne_true
 have hnew:List.foldl (fun x1 x2=>x1++x2) #[] (List.replicate (if its.toArray.isEmpty=true then 0 else k.toNat) its.toArray)=(List.replicate k.toNat its).flatten.toArray:=by
  have f0:∀ m:Nat,List.foldl (fun x1 x2=>x1++x2) #[] (List.replicate m its.toArray)=(List.replicate m its).flatten.toArray:=fun m=>by
   have:=rN its m []
   rw [List.nil_append] at this
   exact this
  rw [f0]
  cases its with
  | nil=>simp
  | cons a r'=>rw [if_neg (by simp)]
 refine wpAny_binaryOp_repeat_ref (T:="list") (U:="int") (by decide) ⟨_,e,rfl⟩ (fun s'=>typeIs_int s' k t) noFill_list_mul F.fills_int_mul F.slot_int_rmul repeat_list F.slot_int_index.lookup
  (call_meets F.slot_int_rmul (typeIs_int s k t) F.entry_int_rmul (F.args_int_rmul_2 _ _) (int___rmul___int_list k t l its.toArray n)
   ⟨e,rfl,⟨_,e,rfl⟩,call_meets F.slot_list_mul ⟨_,e,rfl⟩ F.entry_list_mul (F.args_list_mul_2 _ _) (AutoListH.list___mul___list_int_3 l its.toArray n k t hfit hcap hlong) ⟨e,?_⟩⟩)
 rw [hnew]
 exact ⟨.ref _,_,I.lnew (t':=s.toks) (r.rep k.toNat) (by rw [zR,Nat.mul_comm]; exact hz),rfl,q _ I.fresh⟩
end
end L2
namespace Att
open PySem PySem.W PySem.Calls PyProof.Rows
theorem ints_of_wellAll {P:Params} {h:Heap}:∀ (ns:List Int) (vs:List Value),WellAll P h vs (ns.map WData.int)->IntsAre vs ns:=by
 intro ns
 induction ns with
 | nil=>
  intro vs w
  rw [List.map_nil] at w
  cases w
  exact .nil
 | cons n ns ih=>
  intro vs w
  rw [List.map_cons] at w
  cases w with
  | cons a b=>
   cases a
   exact .cons _ _ (ih _ b)
theorem script_of {l:OpenLaw} {n:Nat} (hn:l.most=some n) {P:Params} {h:Heap} {args:List WData} {vals:List Value}
  (hpre:l.row.toRowW.claim.pre args=true) (hwl:WellAll P h vals args):
  ∃ a vs ns,vals=[Value.ref a]/\args=[WData.list (ns.map WData.int)]/\h.get? a=some { cls:=.type "list",data:=.seq vs.toArray }/\IntsAre vs ns/\ns.length<=n:=by
 have hsh:WShape.hasAll [] args [.list .int]=true:=(pre_splitW hpre).1
 have hc:l.pre.holds [] { args:=args }=true:=(pre_splitW hpre).2
 obtain ⟨d,r,rfl,h1,h2⟩:=hasAllW_cons hsh
 obtain rfl:=hasAllW_nil h2
 obtain ⟨xs,rfl,h3⟩:=hasW_list h1
 obtain ⟨ns,rfl⟩:=items_int h3
 have hlen:ns.length<=n:=by
  unfold OpenLaw.pre at hc
  have h4:(WTm.not (.lt (.lit (.int (n:Int))) (.len (.arg 0)))).holds [] { args:=[.list (ns.map .int)] }=true:=by
   have h4:=(holds_andW hc).1
   rw [hn] at h4
   exact h4
  have h5:=condW_of h4 (w_not (w_lt w_lit (w_len_list (w_arg rfl))))
  rw [List.length_map] at h5
  refine Nat.le_of_not_lt fun q=>?_
  have q':(n:Int) < ((ns.length:Nat):Int):=by omega
  first
   | (rw [decide_eq_true q'] at h5; exact absurd h5 (by decide))
   | (simp at h5; omega)
 cases hwl with
 | cons w1 w2=>
  cases w2
  cases w1 with
  | list ho hall=>exact ⟨_,_,ns,rfl,rfl,ho,ints_of_wellAll ns _ hall,hlen⟩
theorem post_true (l:OpenLaw) (args:List WData):l.row.toRowW.claim.post args (.bool true) args=true:=
 postW_of (r:=l.row.toRowW) (X:=(true==true))
  (show WShape.has [] (.bool true) .bool=true by first | rfl | decide | simp [WShape.has,WShape.arms,WShape.armsAll])
  (show (WTm.eq .res (.lit (.bool true))).value [] { args:=args,res:=some (.bool true),after:=args }=some (.bool (true==true)) from w_eq_bool (w_res rfl) w_lit) rfl
theorem attach_call {l:OpenLaw} {n:Nat} {q:Program} {loose:List Str} {XP:(Str->Option Value)->Heap->Prop} {YP:World->Heap->Prop} {d:DefRec}
  (hn:l.most=some n) (hdf:d.params.defaults=[])
  (call:∀ (w:World) (s₀ s₁:Shared) (mg mb:Str->Option Value) (fa:Addr) (o:Obj) (pm cd doc:Value) (a:Addr) (vs:List Value) (ns:List Int),
   Ground q loose [] XP w s₀ mg mb s₁.heap->YP w s₁.heap->
   s₁.heap.get? fa=some o->o.data=.func (docDef d.name d.params d.body d.scope pm cd doc)->s₁.heap.CodeRec cd d.name->mg d.name=some (.ref fa)->
   s₁.heap.get? a=some { cls:=.type "list",data:=.seq vs.toArray }->IntsAre vs ns->ns.length<=n->s₁.gens=#[]->
   codeAny (model l.prog w) callerA (.call (.ref fa) ⟨[.ref a],[]⟩) (fun r s'=>r=.ok (.ret (.bool true))/\OldK s₁.heap s'.heap/\s'.os=s₁.os/\AllBare s'.gens) s₁):
  WalkO q loose XP YP l.row.toRowW d [] (fun f vs=>PySem.call f vs):=by
 intro w s₀ s₁ mg mb G Y fa o pm cd doc dV kV ho hd hcd hD hmg hg args vals as hpre hlay hrd hwl hlo
 obtain rfl:dV=.none:=Dflts.none hD hdf
 obtain rfl:kV=.none:=Dflts.noKw hD
 obtain ⟨a,vs,ns,rfl,rfl,hobj,hints,hlen⟩:=script_of hn hpre hwl
 refine enter_call (codeAny_mono (call w s₀ s₁ mg mb fa o pm cd doc a vs ns G Y ho (fd_plain hd) hcd hmg hobj hints hlen hg) fun r s' hq=>?_)
 obtain ⟨rfl,h2,h3,h4⟩:=hq
 exact ⟨.inl ⟨.bool true,.bool true,[],rfl,fun _=>rfl,.bool true,post_true l _,fun _=>⟨List.Pairwise.nil,fun _ hm=>(nomatch hm)⟩⟩,h2,h3,h4⟩
section
variable {prog:Program} {w:World} {A:Around} {E:Value->Shared->Prop} {s:Shared} {K:Frag}
end
end Att
namespace L2
open PySem PySem.Spec PyProof.Rows
theorem mV:∀ {vs:List Value} {ns:List Int},IntsAre vs ns->Vals (ns.map V.int) vs
 | _,_,.nil=>.nil
 | _,_,.cons n t h=>.cons ⟨t,rfl⟩ (mV h)
def Only (H:Hp):Prop:=∀ b,H b=none\/∃ o xs,H b=some (.frz o (.lst xs))
theorem yT {P:Program} {w:World} {K:Frag} {mg mb:Str->Option Value} {CX:CXT} {k:Nat} {fa a:Addr} {fd:FuncData} {x:Str} {sp:Sp} {s₁:Shared} {vs:List Value} {ns:List Int}
  (KX:K.In s₁.heap) (hns:s₁.heap.Ns mainGlobals mg) (hb:s₁.heap.Ns builtinsNs mb) (hbb:∀ x:Str,x≠"__name__"->mb x=bootBuiltins x) (hlim:s₁.heap.NoLimit) (hg:s₁.gens=#[])
  (ha:s₁.heap.get? a=some { cls:=.type "list",data:=.seq vs.toArray }) (hi:IntsAre vs ns) (hl:ns.length<=sizeLine) (hr:Room k callerA)
  (F:∀ base:Heap,K.In base->base.Ns mainGlobals mg->FnOk P w K mg base CX k fa fd [x] sp) (hbind:∀ (s:Shared) (u:Value),BindsTo s fd ⟨[u],[]⟩ [(x,u)])
  (hsp:∀ H:Hp,Only H->SqL K H a (ns.map V.int)->sp [.ref a] H (fun v _=>v=.bl true) fun _ _ _=>False)
  (hCX:∀ H e s',CX [] H s₁ (fun _ _ _=>False) e s'->False):
  codeAny (model P w) callerA (.call (.ref fa) ⟨[.ref a],[]⟩) (fun r s'=>r=.ok (.ret (.bool true))/\OldK s₁.heap s'.heap/\s'.os=s₁.os/\AllBare s'.gens) s₁:=by
 have rv:=mV hi
 have lenV:=hi.length
 have core:∀ H:Hp,Only H->SqL K H a (ns.map V.int)->HOk P w H s₁.heap->(∀ b,H b≠none->b=a)->(H a≠none->K.lookup a=none)->
   codeAny (model P w) callerA (.call (.ref fa) ⟨[.ref a],[]⟩) (fun r s'=>r=.ok (.ret (.bool true))/\OldK s₁.heap s'.heap/\s'.os=s₁.os/\AllBare s'.gens) s₁:=by
  intro H hO hS hok hA hK
  have base_of:∀ {b:Addr} {o:Obj},s₁.heap.get? b=some o->H b=none->(hidT s₁.heap H).get? b=some o:=fun e n=>yL e n
  have noA:∀ {b:Addr} {o:Obj} {es:Array DictEntry} {ep:Nat},s₁.heap.get? b=some o->o.data=.dict es ep->H b=none:=fun {b o es ep} e d=>by
   cases q:H b with
   | none=>rfl
   | some u=>
    have e':b=a:=hA b (by rw [q]; simp)
    subst e'
    rw [ha] at e; cases e
    have d':Data.seq vs.toArray _=Data.dict es ep:=d
    cases d'
  have nsK:∀ {b:Addr} {m:Str->Option Value},s₁.heap.Ns b m->(hidT s₁.heap H).Ns b m:=fun {b m} ⟨o,es,ep,e,d,r⟩=>⟨o,es,ep,base_of e (noA e d),d,r⟩
  have hKb:K.In (hidT s₁.heap H):=fun b o e=>base_of (KX b o e) (by
   cases q:H b with
   | none=>rfl
   | some u=>
    have e':b=a:=hA b (by rw [q]; simp)
    subst e'
    rw [hK (by rw [q]; simp)] at e; cases e)
  have hM:Mod K mg (hidT s₁.heap H):=⟨hKb,nsK hns,⟨mb,nsK hb,hbb⟩,let ⟨mc,h1,h2⟩:=hlim; ⟨mc,nsK h1,h2⟩⟩
  have e0:Env0 P w K mg (hidT s₁.heap H) callerA [] s₁ H:=⟨rfl,hM,fun b o e=>zG e,Nat.le_of_eq (xb _ _),trivial,fun b hb=>absurd (show b∈([]:List Addr) from hb) (by simp),hok,.of_eq hg⟩
  refine codeAny_mono ((F _ hKb (nsK hns)).run callerA [] s₁ H ⟨[.ref a],[]⟩ [.ref a] [.ref a] _ _ hr e0 (hbind s₁ (.ref a)) (.cons rfl .nil) (hsp H hO hS)) fun r s' h=>?_
  cases r with
  | error e=>exact (hCX H e s' h).elim
  | ok fl=>
   cases fl with
   | next=>exact False.elim h
   | brk=>exact False.elim h
   | cont=>exact False.elim h
   | ret u=>
    obtain ⟨v,H',os,bare,un,hok',r',q⟩:=h
    have q':v=.bl true:=q
    subst q'
    obtain rfl:u=Value.bool true:=r'
    refine ⟨rfl,OldK.of_keep fun b o e=>?_,os,bare⟩
    cases q:H b with
    | none=>exact un.keep b o e q (by intro z; exact absurd (show b∈([]:List Addr) from z) (by simp)) (by simp)
    | some u=>
     rcases hO b with z | ⟨ob,xs,z⟩
     . rw [q] at z; cases z
     . have z2:=un.frzs b ob _ z
       obtain ⟨e1,_⟩:=hok b _ z
       obtain ⟨e2,_⟩:=hok' b _ z2
       rw [e] at e1; cases e1
       exact e2
 cases hk:K.lookup a with
 | some o=>
  have e:=KX a o hk
  rw [ha] at e
  cases e
  refine core (fun _=>none) (fun _=>.inl rfl) (.inr ⟨_,vs.toArray,_,hk,rfl,rfl,rfl,by rw [List.size_toArray,lenV]; exact hl,by simpa using rv⟩) (fun b u z=>by have z':(none:Option HO)=some u:=z; cases z') (fun b z=>absurd rfl z) fun z=>absurd rfl z
 | none=>
  refine core (fun b=>if b=a then some (.frz { cls:=.type "list",data:=.seq vs.toArray } (.lst (ns.map V.int))) else none) (fun b=>?_) (.inl (.inr ⟨{ cls:=.type "list",data:=.seq vs.toArray },if_pos rfl⟩)) (fun b u z=>?_) (fun b z=>?_) fun _=>hk
  . by_cases hb:b=a
    . exact .inr ⟨_,_,if_pos hb⟩
    . exact .inl (if_neg hb)
  . by_cases hb:b=a
    . have z':=(if_pos hb).symm.trans z
      cases z'
      subst hb
      exact ⟨ha,by rw [List.length_map]; exact hl,vs,_,rv,ha⟩
    . have z':=(if_neg hb).symm.trans z
      cases z'
  . by_cases hb:b=a
    . exact hb
    . exact absurd (if_neg hb) z
end L2
namespace L2
open PySem PySem.Spec PyProof.Rows
theorem zS {l:PySem.W.OpenLaw} {n k:Nat} {q:Program} {loose:List Str} {XP:(Str->Option Value)->Heap->Prop} {YP:World->Heap->Prop} {d:DefRec} {K:Params->Frag} {CX:World->CXT} {sp:World->Sp} {x:Str}
  (hn:l.most=some n) (hn2:n<=sizeLine) (hdf:d.params.defaults=[]) (hr:Room k callerA)
  (hY:∀ (w:World) (h:Heap),YP w h->(K w.params).In h)
  (F:∀ (w:World) (mg:Str->Option Value) (fa:Addr) (h:Heap),(K w.params).In h->h.Ns mainGlobals mg->mg d.name=some (.ref fa)->
   ∃ fd:FuncData,(∀ (s:Shared) (u:Value),BindsTo s fd ⟨[u],[]⟩ [(x,u)])/\
    ∀ base:Heap,(K w.params).In base->base.Ns mainGlobals mg->FnOk l.prog w (K w.params) mg base (CX w) k fa fd [x] (sp w))
  (hsp:∀ (w:World) (H:Hp) (a:Addr) (ns:List Int),ns.length<=n->Only H->SqL (K w.params) H a (ns.map V.int)->sp w [.ref a] H (fun v _=>v=.bl true) fun _ _ _=>False)
  (hCX:∀ (w:World) (H:Hp) (s:Shared) (e:Value) (s':Shared),CX w [] H s (fun _ _ _=>False) e s'->False):
  PySem.W.WalkO q loose XP YP l.row.toRowW d [] (fun f vs=>PySem.call f vs):=by
 refine Att.attach_call hn hdf fun w s₀ s₁ mg mb fa o pm cd doc a vs ns G Y ho hd hcd hmg hobj hints hlen hg=>?_
 have KX:=hY w _ Y
 obtain ⟨fd,hb,hF⟩:=F w mg fa _ KX G.T.g hmg
 exact yT KX G.T.g G.T.b G.T.builtins G.T.nolimit hg hobj hints (Nat.le_trans hlen hn2) hr hF hb (fun H hO hS=>hsp w H a ns hlen hO hS) fun H e s'=>hCX w H s₁ e s'
end L2
namespace L2
open PySem PySem.Spec PyProof.Rows
def bA (s:Stmt):Arguments:=match s with
 | .FunctionDef _ a _ _ _ _ _ _ _ _=>a
 | _=>{ posonlyargs:=[],args:=[],vararg:=none,kwonlyargs:=[],kw_defaults:=[],kwarg:=none,defaults:=[] }
def bt (s:Stmt):List Stmt:=match s with
 | .FunctionDef _ _ b _ _ _ _ _ _ _=>b
 | _=>[]
def ah (s:Stmt):Scope:=match s with
 | .FunctionDef _ _ _ _ _ _ sc _ _ _=>sc
 | _=>{ kind:=.function,names:=[],isGenerator:=false,isCoroutine:=false }
abbrev CX0:CXT:=fun _ _ _ _ _ _=>False
abbrev E0:XK:=fun _ _ _=>False
theorem sY {X:Cx}:mR CX0 X E0:=fun _ _ _ _ _ _ _ h=>h.elim
structure Fun (K:Frag) (x qual:Str) (st:Stmt) (f:Addr) (fd:FuncData):Prop where
 ex:∃ (oc:Value) (od:Option Addr) (kV doc pm:Value) (an:Option Addr) (cdv ct:Value) (osl:Array (Option Value)),
  fd=PySem.W.fnOf x qual (bA st) (bt st) (ah st) .none kV doc pm an cdv ct/\K.lookup f=some ⟨oc,od,.func fd,osl⟩/\PySem.W.codeIn K cdv qual=true
 kp:PySem.W.keepIn K (.ref f)=true
section
variable {P:Program} {w:World} {K:Frag} {mg:Str->Option Value} {base:Heap}
theorem Fun.ok {x qual:Str} {st:Stmt} {f:Addr} {fd:FuncData} {N ps:List Str} {k:Nat} {sp:Sp} (F:Fun K x qual st f fd) (S:ar N ps (ah st)) (len:∀ vs H Q E,sp vs H Q E->vs.length=ps.length)
  (hbody:∀ (cdv:Value) (A:Around) (outer:List Env) (s:Shared) (H:Hp) (vs:List V) (Q:VK) (E:XK),Room k (A.deeper (envOfC qual (ah st) s.heap.objs.size f cdv))->sp vs H Q E->
   ∃ t,PSs (cxOf CX0 P w K mg base N qual (ah st) f cdv A outer s H E).nox (bt st) t/\t { nx:=fun _ H'=>Q .non H',rt:=Q } (start N vs) H):FnOk P w K mg base CX0 (k+1) f fd ps sp:=by
 obtain ⟨oc,od,kV,doc,pm,an,cdv,ct,osl,rfl,lk,hcd⟩:=F.ex
 refine Bs lk hcd S len fun A outer s H vs Q E hr hsp=>?_
 obtain ⟨t,h,q⟩:=hbody cdv A outer s H vs Q E hr hsp
 exact ⟨t,h.nox,q⟩
theorem Fun.binds {x qual:Str} {st:Stmt} {f:Addr} {fd:FuncData} {ps:List Str} (F:Fun K x qual st f fd)
  (h:∀ (kV doc pm:Value) (an:Option Addr) (cdv ct:Value) (us:List Value),us.length=ps.length->bindArgs (PySem.W.fnOf x qual (bA st) (bt st) (ah st) .none kV doc pm an cdv ct) ⟨us,[]⟩=pure (ps.zip us)):Binds K fd ps []:=by
 obtain ⟨oc,od,kV,doc,pm,an,cdv,ct,osl,rfl,lk,hcd⟩:=F.ex
 exact .all (h kV doc pm an cdv ct)
theorem ax {x qual:Str} {st:Stmt} {f:Addr} {oc:Value} {od an:Option Addr} {osl:Array (Option Value)} {kV doc pm cdv ct:Value} (l:K.lookup f=some ⟨oc,od,.func (PySem.W.fnOf x qual (bA st) (bt st) (ah st) .none kV doc pm an cdv ct),osl⟩)
  (c:PySem.W.codeIn K cdv qual=true) (k:PySem.W.keepIn K (.ref f)=true):Fun K x qual st f (PySem.W.fnOf x qual (bA st) (bt st) (ah st) .none kV doc pm an cdv ct):=⟨⟨oc,od,kV,doc,pm,an,cdv,ct,osl,rfl,l,c⟩,k⟩
end
theorem aD {n:Nat} (h:n<=1000):n<sizeLine:=Nat.lt_of_le_of_lt h (by decide)
section
variable {X:Cx}
theorem pv (i:Nat) {x:Str} {pos:Pos} (hN:X.N[i]? =some x:=by rfl) (hv:Vis X.env.scope x:=by first | exact Or.inl rfl | exact Or.inr (Or.inl rfl) | exact Or.inr (Or.inr rfl)) (hd:(x==("__debug__":Str))=false:=by decide)
  (hcd:(x==("__classdict__":Str))=false:=by decide):PE X (.Name x pos) (tVar i):=Av hN hv hd hcd
end
theorem iteF {A B:Prop} (h:B):if false=true then A else B:=by
 rw [if_neg Bool.false_ne_true]
 exact h
theorem iteT {A B:Prop} (h:A):if true=true then A else B:=by
 rw [if_pos rfl]
 exact h
def Same (H H':Hp):Prop:=∀ b o,H b=some o->H' b=some o
theorem Same.refl (H:Hp):Same H H:=fun _ _ h=>h
theorem Same.trans {H H1 H2:Hp} (a:Same H H1) (b:Same H1 H2):Same H H2:=fun c o h=>b c o (a c o h)
theorem Same.free {H H':Hp} (e:Same H H') {l:Addr} (h:H' l=Option.none):H l=Option.none:=by
 cases q:H l with
 | none=>rfl
 | some o=>
  rw [e l o q] at h
  cases h
theorem Same.seq {K:Frag} {H H':Hp} {a:Addr} {xs:List V} (e:Same H H') (h:SqL K H a xs):SqL K H' a xs:=by
 rcases h with (h | ⟨o,h⟩) | h
 . exact .inl (.inl (e _ _ h))
 . exact .inl (.inr ⟨o,e _ _ h⟩)
 . exact .inr h
end L2
namespace L2
open PySem PySem.Spec PyProof.Rows
section
variable {κ:Type} [DecidableEq κ]
def valV (kvs:List (κ × V)) (k:κ):Option V:=(kvs.find? fun kv=>decide (kv.1=k)).map (·.2)
def putK (kvs:List (κ × V)) (k:κ) (v:V):List (κ × V):=
 if (kvs.any fun kv=>decide (kv.1=k))=true then kvs.map (fun kv=>if kv.1=k then (kv.1,v) else kv) else kvs++[(k,v)]
theorem oA {p:κ × V} {r:List (κ × V)} {k:κ} (e:p.1=k):valV (p::r) k=some p.2:=by simp [valV,List.find?_cons,e]
theorem oB {p:κ × V} {r:List (κ × V)} {k:κ} (e:¬ p.1=k):valV (p::r) k=valV r k:=by simp [valV,List.find?_cons,e]
theorem tO (k:κ):∀ kvs:List (κ × V),(kvs.any fun kv=>decide (kv.1=k))=(valV kvs k).isSome
 | []=>rfl
 | p::r=>by
  rw [List.any_cons]
  by_cases e:p.1=k
  . simp only [oA e,decide_eq_true e,Bool.true_or,Option.isSome_some]
  . rw [oB e,decide_eq_false e,Bool.false_or]; exact tO k r
theorem ot (kvs:List (κ × V)) (k:κ) (v:V):(putK kvs k v).length<=kvs.length+1:=by
 unfold putK
 split
 . rw [List.length_map]; omega
 . rw [List.length_append,List.length_cons,List.length_nil]; omega
theorem RelO.isSome_eq {o:Option V} {u:Option Value} (r:RelO o u):o.isSome=u.isSome:=by
 cases o with
 | none=>cases u with
  | none=>rfl
  | some _=>exact (show False from r).elim
 | some _=>cases u with
  | none=>exact (show False from r).elim
  | some _=>rfl
theorem KV.val {kvs:List (κ × V)} {vs:List (κ × Value)} (r:KV kvs vs) (k:κ):RelO (valV kvs k) (valueAt vs k):=by
 unfold KV at r
 induction r with
 | nil=>exact True.intro
 | @cons p q ps qs h t ih=>
  obtain ⟨h1,h2⟩:=h
  by_cases e:p.1=k
  . have e':q.1=k:=h1.symm.trans e
    have b:valueAt (q::qs) k=some q.2:=by simp [valueAt,List.find?_cons,e']
    rw [oA e,b]; exact h2
  . have e':¬ q.1=k:=fun z=>e (h1.trans z)
    have b:valueAt (q::qs) k=valueAt qs k:=by simp [valueAt,List.find?_cons,e']
    rw [oB e,b]; exact ih
theorem KV.any {kvs:List (κ × V)} {vs:List (κ × Value)} (r:KV kvs vs) (k:κ):(kvs.any fun kv=>decide (kv.1=k))=vs.any fun kv=>decide (kv.1=k):=by
 unfold KV at r
 induction r with
 | nil=>rfl
 | cons h t ih=>rw [List.any_cons,List.any_cons,ih,h.1]
theorem KV.repl {kvs:List (κ × V)} {vs:List (κ × Value)} (r:KV kvs vs) (k:κ) {y:V} {u:Value} (ry:RelV y u):
  KV (kvs.map fun kv=>if kv.1=k then (kv.1,y) else kv) (vs.map fun kv=>if kv.1=k then (kv.1,u) else kv):=by
 unfold KV at r ⊢
 induction r with
 | nil=>exact .nil
 | @cons p q ps qs h t ih=>
  rw [List.map_cons,List.map_cons]
  refine .cons ?_ ih
  obtain ⟨h1,h2⟩:=h
  by_cases e:p.1=k
  . rw [if_pos e,if_pos (h1.symm.trans e)]; exact ⟨h1,ry⟩
  . rw [if_neg e,if_neg (fun z=>e (h1.trans z))]; exact ⟨h1,h2⟩
theorem KV.put {kvs:List (κ × V)} {vs:List (κ × Value)} (r:KV kvs vs) (k:κ) {y:V} {u:Value} (ry:RelV y u):KV (putK kvs k y) (stored vs k u):=by
 unfold putK stored
 rw [r.any k]
 by_cases e:(vs.any fun kv=>decide (kv.1=k))=true
 . rw [if_pos e,if_pos e]; exact r.repl k ry
 . rw [if_neg e,if_neg e]; exact Paired.snoc r ⟨rfl,ry⟩
theorem KV.length {kvs:List (κ × V)} {vs:List (κ × Value)} (r:KV kvs vs):kvs.length=vs.length:=Paired.length r
end
theorem pG {P:Program} {w:World} {k:Key} {u:Value} (r:RelV (kV k) u):(cu P w).is k u=true:=by
 cases k with
 | inl i=>obtain ⟨t,e⟩:=(show ∃ t,u=Value.int i t from r); subst e; exact uY P w i t
 | inr x=>obtain ⟨t,e⟩:=(show ∃ t,u=Value.str x t from r); subst e; exact uZ P w x t
theorem rP {P:Program} {w:World}:∀ {ks:List Key} {us:List Value},Vals (ks.map kV) us->ItemsAre (cu P w) ks us
 | [],_,r=>by rw [List.map_nil] at r; cases r; exact .nil
 | k::ks,_,r=>by
  rw [List.map_cons] at r
  cases r with
  | cons h t=>exact .cons (pG h) (rP t)
abbrev KT (H:Hp):List (List Key × V)->List (List Key × Addr × Value)->Prop:=Paired fun p q=>p.1=q.1/\H q.2.1=some (.tup (p.1.map kV))/\RelV p.2 q.2.2
theorem KT.val {H:Hp} {kvs:List (List Key × V)} {xs:List (List Key × Addr × Value)} (r:KT H kvs xs) (k:List Key):RelO (valV kvs k) ((atKey xs k).map (·.2)):=by
 induction r with
 | nil=>exact True.intro
 | @cons p q ps qs h t ih=>
  obtain ⟨h1,_,h2⟩:=h
  by_cases e:p.1=k
  . have e':q.1=k:=h1.symm.trans e
    have b:atKey (q::qs) k=some q.2:=by simp [atKey,List.find?_cons,e']
    rw [oA e,b]; exact h2
  . have e':¬ q.1=k:=fun z=>e (h1.trans z)
    have b:atKey (q::qs) k=atKey qs k:=by simp [atKey,List.find?_cons,e']
    rw [oB e,b]; exact ih
theorem KT.repl {H:Hp} {kvs:List (List Key × V)} {xs:List (List Key × Addr × Value)} (r:KT H kvs xs) (k:List Key) {y:V} {u:Value} (ry:RelV y u):
  KT H (kvs.map fun kv=>if kv.1=k then (kv.1,y) else kv) (xs.map (putAt k u)):=by
 induction r with
 | nil=>exact .nil
 | @cons p q ps qs h t ih=>
  rw [List.map_cons,List.map_cons]
  refine .cons ?_ ih
  obtain ⟨h1,h2,h3⟩:=h
  unfold putAt
  by_cases e:p.1=k
  . rw [if_pos e,if_pos (h1.symm.trans e)]; exact ⟨h1,h2,ry⟩
  . rw [if_neg e,if_neg (fun z=>e (h1.trans z))]; exact ⟨h1,h2,h3⟩
theorem KT.put {H:Hp} {kvs:List (List Key × V)} {xs:List (List Key × Addr × Value)} (r:KT H kvs xs) (k:List Key) {b:Addr} {y:V} {u:Value} (hb:H b=some (.tup (k.map kV))) (ry:RelV y u):
  KT H (putK kvs k y) (storedH xs k b u):=by
 have e:(kvs.any fun kv=>decide (kv.1=k))=(atKey xs k).isSome:=by
  rw [tO,(r.val k).isSome_eq,Option.isSome_map]
 unfold putK storedH
 rw [e]
 by_cases q:(atKey xs k).isSome=true
 . rw [if_pos q,if_pos q]; exact r.repl k ry
 . rw [if_neg q,if_neg q]; exact Paired.snoc r ⟨rfl,hb,ry⟩
theorem KT.keeps {H H':Hp} {kvs:List (List Key × V)} {xs:List (List Key × Addr × Value)} (r:KT H kvs xs) (ht:∀ b ys,H b=some (.tup ys)->H' b=some (.tup ys)):KT H' kvs xs:=
 Paired.mapP r fun _ _ z=>⟨z.1,ht _ _ z.2.1,z.2.2⟩
section
variable {P:Program} {w:World} {H:Hp} {h:Heap} {a:Addr}
theorem zw {u:HO} (ok:HOk P w H h) (e:Rd H a u):ObjOk P w H h a u:=e.ok ok
theorem nN {kvs:List (Key × V)} (ok:HOk P w H h) (e:Rd H a (.dK kvs)):kvs.length<=sizeLine/\(a==sysModules)=false/\∃ vs,KV kvs vs/\h.DictOf (cu P w) a vs:=
 show ObjOk P w H h a (.dK kvs) from zw ok e
theorem Bu {kvs:List (Key × V)} (ok:HOk P w H h) (e:H a=some (.dK kvs)):kvs.length<=sizeLine/\(a==sysModules)=false/\∃ vs,KV kvs vs/\h.DictOf (cu P w) a vs:=nN ok (.inl e)
theorem mW {ks:List Key} (ok:HOk P w H h) (e:H a=some (.tup (ks.map kV))):(tupleKind (cu P w)).is h ks a:=by
 obtain ⟨_,its,r,o,h1,h2,n,h3⟩:=(show ObjOk P w H h a (.tup (ks.map kV)) from ok a _ e)
 exact ⟨o,its.toArray,n,h1,h2,h3,by simpa using rP r⟩
theorem pH {kvs:List (List Key × V)} (ok:HOk P w H h) (e:Rd H a (.dT kvs)):kvs.length<=sizeLine/\(a==sysModules)=false/\
  ∃ xs,KT H kvs xs/\h.DictOfH (tupleKind (cu P w)) a xs:=by
 obtain ⟨z,y,xs,r,o,es,ep,h1,h2,h3,h4,h5⟩:=(show ObjOk P w H h a (.dT kvs) from zw ok e)
 refine ⟨z,y,xs,r,o,es,ep,h1,h2,h3,h4,fun x hx=>?_,h5⟩
 have all:∀ {l:List (List Key × V)} {m:List (List Key × Addr × Value)},KT H l m->∀ x∈m,(tupleKind (cu P w)).is h x.1 x.2.1:=by
  intro l m q
  induction q with
  | nil=>intro x hx; exact nomatch hx
  | @cons p q ps qs hq t ih=>
   intro x hx
   rcases List.mem_cons.mp hx with e | hx
   . subst e
     exact mW ok (by rw [← hq.1]; exact hq.2.1)
   . exact ih x hx
 exact all r x hx
theorem Bv {kvs:List (List Key × V)} (ok:HOk P w H h) (e:H a=some (.dT kvs)):kvs.length<=sizeLine/\(a==sysModules)=false/\
  ∃ xs,KT H kvs xs/\h.DictOfH (tupleKind (cu P w)) a xs:=pH ok (.inl e)
end
def DGet (H:Hp) (a:Addr) (y:V) (r:Option V):Prop:=
 (∃ kvs k,Rd H a (.dK kvs)/\y=kV k/\r=valV kvs k)\/∃ kvs k b,Rd H a (.dT kvs)/\y=.ref b/\H b=some (.tup (k.map kV))/\r=valV kvs k
def DPut (H:Hp) (a:Addr) (y v:V) (H':Hp):Prop:=
 (∃ kvs k,H a=some (.dK kvs)/\y=kV k/\kvs.length<sizeLine/\H'=upd H a (.dK (putK kvs k v)))\/
 ∃ kvs k b,H a=some (.dT kvs)/\y=.ref b/\H b=some (.tup (k.map kV))/\kvs.length<sizeLine/\H'=upd H a (.dT (putK kvs k v))
theorem DGet.k {H:Hp} {a:Addr} {kvs:List (Key × V)} {k:Key} (e:H a=some (.dK kvs)):DGet H a (kV k) (valV kvs k):=.inl ⟨kvs,k,.inl e,rfl,rfl⟩
section
variable {X:Cx} {pins:List (Addr × Obj)} {σ:St} {H:Hp} {s:Shared} {a:Addr} {y v:V} {u r:Value} {o:Option V} {A:Around} {E:Value->Shared->Prop}
theorem xw {Q:Value->Shared->Prop} (hu:A.units+1<cLine) (I:Inv X pins σ H s) (g:DGet H a y (some v)) (ry:RelV y u) (h:∀ w' s',Inv X pins σ H s'->RelV v w'->Q w' s'):
  wpAny (model X.prog X.w) A (getItem (.ref a) u) Q E s:=by
 rcases g with ⟨kvs,k,e,ey,l⟩ | ⟨kvs,k,b,e,ey,eb,l⟩
 . subst ey
   obtain ⟨z,hd,vs,rel,dd⟩:=nN I.hok e
   obtain ⟨w',hw,rw'⟩:=RelO.some_of (v:=v) (o:=valueAt vs k) (by rw [l]; exact rel.val k)
   exact wpAny_getItem_of (pG ry) dd.mapOf hw (h w' _ (I.tok _) rw')
 . subst ey
   cases (show u=Value.ref b from ry)
   obtain ⟨z,hd,xs,rel,dd⟩:=pH I.hok e
   obtain ⟨w',hw,rw'⟩:=RelO.some_of (v:=v) (o:=(atKey xs k).map (·.2)) (by rw [l]; exact rel.val k)
   obtain ⟨p,hp,hp2⟩:=Option.map_eq_some_iff.mp hw
   refine wpAny_getItem_heap (tupleKind_room_in1 hu) (mW I.hok eb) dd hp ?_
   rw [hp2]
   exact h w' _ (I.tok _) rw'
theorem BL {Q:Value->Shared->Prop} (hu:A.units+1<cLine) (I:Inv X pins σ H s) (g:DGet H a y o) (ry:RelV y u) (h:∀ s',Inv X pins σ H s'->Q (.bool o.isSome) s'):
  wpAny (model X.prog X.w) A (compareOp .In u (.ref a)) Q E s:=by
 rcases g with ⟨kvs,k,e,ey,l⟩ | ⟨kvs,k,b,e,ey,eb,l⟩
 . subst ey
   obtain ⟨z,hd,vs,rel,dd⟩:=nN I.hok e
   refine wpAny_in_of (pG ry) hd dd.mapOf ?_
   rw [← (rel.val k).isSome_eq,← l]
   exact h _ (I.tok _)
 . subst ey
   cases (show u=Value.ref b from ry)
   obtain ⟨z,hd,xs,rel,dd⟩:=pH I.hok e
   refine wpAny_in_heap (tupleKind_room_in1 hu) (mW I.hok eb) hd dd ?_
   have q:=(rel.val k).isSome_eq
   rw [Option.isSome_map] at q
   rw [← q,← l]
   exact h _ (I.tok _)
theorem zT {Q:Value->Shared->Prop} (hu:A.units+1<cLine) (I:Inv X pins σ H s) (g:DGet H a y o) (ry:RelV y u) (h:∀ s',Inv X pins σ H s'->Q (.bool (!o.isSome)) s'):
  wpAny (model X.prog X.w) A (compareOp .NotIn u (.ref a)) Q E s:=by
 rcases g with ⟨kvs,k,e,ey,l⟩ | ⟨kvs,k,b,e,ey,eb,l⟩
 . subst ey
   obtain ⟨z,hd,vs,rel,dd⟩:=nN I.hok e
   refine wpAny_notIn_of (pG ry) hd dd.mapOf ?_
   rw [← (rel.val k).isSome_eq,← l]
   exact h _ (I.tok _)
 . subst ey
   cases (show u=Value.ref b from ry)
   obtain ⟨z,hd,xs,rel,dd⟩:=pH I.hok e
   refine wpAny_notIn_heap (tupleKind_room_in1 hu) (mW I.hok eb) hd dd ?_
   have q:=(rel.val k).isSome_eq
   rw [Option.isSome_map] at q
   rw [← q,← l]
   exact h _ (I.tok _)
theorem vC {h':Heap} {t':Nat} {ob:HO} (I:Inv X pins σ H s) (mu:Mut (H a)) (hs:Heap.SameBut a s.heap h') (he:∃ q,h'.get? a=some q) (new:ObjOk X.prog X.w (upd H a ob) h' a ob):
  Inv X pins σ (upd H a ob) { s with heap:=h',toks:=t' }:=
 I.write (x:=a) (e:=a) mu (.inl rfl) (fun b q hb z=>(hs.2 b hb).trans z) he new
theorem AK {P:Program} {w:World} {H':Hp} {h':Heap} {kvs:List (Key × V)} {vs:List (Key × Value)} (z:kvs.length<=sizeLine) (hd:(a==sysModules)=false) (rel:KV kvs vs) (dd:h'.DictOf (cu P w) a vs):
  ObjOk P w H' h' a (.dK kvs):=⟨z,hd,vs,rel,dd⟩
theorem xx {H':Hp} {Q:Unit->Shared->Prop} (hu:A.units+1<cLine) (I:Inv X pins σ H s) (g:DPut H a y v H') (ry:RelV y u) (rv:RelV v r) (h:∀ s',Inv X pins σ H' s'->Q () s'):
  wpAny (model X.prog X.w) A (setItem (.ref a) u r) Q E s:=by
 rcases g with ⟨kvs,k,e,ey,l,eH⟩ | ⟨kvs,k,b,e,ey,eb,l,eH⟩
 . subst ey eH
   obtain ⟨z,hd,vs,rel,dd⟩:=Bu I.hok e
   have hz:vs.length<=sizeLine:=by rw [← rel.length]; exact z
   have hl:(putK kvs k v).length<=sizeLine:=by have:=ot kvs k v; omega
   refine wpAny_setItem_pairs (hsz:=hz) (pG ry) dd fun h' dd' hs=>h _ ?_
   have he:∃ q,h'.get? a=some q:=let ⟨q,_,_,hq,_⟩:=dd'; ⟨q,hq⟩
   exact vC I (by rw [e]; exact True.intro) hs he (AK hl hd (rel.put k rv) dd')
 . subst ey eH
   cases (show u=Value.ref b from ry)
   obtain ⟨z,hd,xs,rel,dd⟩:=Bv I.hok e
   have hz:xs.length<=sizeLine:=by rw [← Paired.length rel]; exact z
   have hl:(putK kvs k v).length<=sizeLine:=by have:=ot kvs k v; omega
   refine wpAny_setItem_heap (hsz:=hz) (tupleKind_room_in1 hu) (mW I.hok eb) dd fun h' dd' hs=>h _ ?_
   obtain ⟨q,es,ep,hq,h2,h3,h4,_,h5⟩:=dd'
   refine vC I (by rw [e]; exact True.intro) hs ⟨q,hq⟩ ⟨hl,hd,_,(rel.put k eb rv).keeps fun c ys ec=>?_,q,es,ep,hq,h2,h3,h4,h5⟩
   rw [ai (Bl ec e (fun z=>nomatch z))]
   exact ec
end
section
variable {X:Cx} {pins:List (Addr × Obj)} {σ:St} {H:Hp} {s:Shared} {a:Addr} {kvs:List (Key × V)} {k:Key} {u:Value} {A:Around} {E:Value->Shared->Prop}
theorem Bw {Q:Value->Shared->Prop} (I:Inv X pins σ H s) (e:Rd H a (.dK kvs)) (h:∀ t s',Inv X pins σ H s'->Q (.int kvs.length t) s'):wpAny (model X.prog X.w) A (call (.builtin "len") [.ref a]) Q E s:=by
 obtain ⟨z,hd,vs,rel,dd⟩:=nN I.hok e
 refine call_len_dict hd dd (by rw [← rel.length]; rw [sizeLine_eq] at z; omega) ?_
 rw [← rel.length]
 exact h _ _ (I.tok _)
end
theorem u7 {X:Cx} {pins:List (Addr × Obj)} {σ:St} {H:Hp} {s:Shared} {a:Addr} {y:V} {o:Option V} (I:Inv X pins σ H s) (g:DGet H a y o):s.TypeIs (.ref a) "dict":=by
 rcases g with ⟨kvs,k,e,_,_⟩ | ⟨kvs,k,b,e,_,_,_⟩
 . obtain ⟨_,_,vs,_,dd⟩:=nN I.hok e
   exact dd.typeIs
 . obtain ⟨_,_,xs,_,dd⟩:=pH I.hok e
   exact dd.typeIs
def sDPut (td ty tv:TE):TS:=fun D σ H=>tv σ H fun v H1=>td σ H1 fun x H2=>ty σ H2 fun y H3=>∃ a H4,x=.ref a/\DPut H3 a y v H4/\D.nx σ H4
def AL:TE:=fun _ H Q=>∀ p,H p=none->Q (.ref p) (upd H p (.dK []))
end L2
namespace L2
open PySem PySem.Spec PyProof.Rows
section
variable {X:Cx}
theorem xy:CallR X (.builtin "len") (fun xs H Q=>∃ a kvs,xs=[V.ref a]/\H a=some (.dK kvs)/\Q (.int kvs.length) H):=by
 intro pins s σ H xs us Q I r h
 obtain ⟨a,kvs,rfl,ha,q⟩:=h
 obtain ⟨u,rfl,ru⟩:=cV r
 cases ru
 exact Bw I (.inl ha) fun t s' I'=>⟨.int kvs.length,H,I',⟨t,rfl⟩,q⟩
end
end L2
namespace L2
open PySem PySem.Spec PyProof.Rows
theorem cw {α:Type} (x:Str):∀ (a b:List (Str × α)),(a++b).lookup x=match a.lookup x with | some c=>some c | none=>b.lookup x
 | [],b=>rfl
 | (k,v)::r,b=>by
  rw [List.cons_append,List.lookup_cons,List.lookup_cons]
  cases x==k with
  | true=>rfl
  | false=>exact cw x r b
theorem kj:∀ (names:List (Str × NameKind)) (n:Nat) (acc cl:List (Str × Addr)),cellsFrom n names (acc++cl)=cellsFrom n names acc++cl
 | [],_,_,_=>rfl
 | (y,k)::r,n,acc,cl=>by
  unfold cellsFrom
  split
  . rw [← List.cons_append]; exact kj r _ _ cl
  . exact kj r _ _ cl
theorem gL {x:Str} {c:Addr}:∀ (names:List (Str × NameKind)) (n:Nat) (acc:List (Str × Addr)),(x,c)∈cellsFrom n names acc->(x,NameKind.cell)∈names\/(x,c)∈acc
 | [],_,_,h=>.inr h
 | (y,k)::r,n,acc,h=>by
  unfold cellsFrom at h
  split at h
  . rename_i hk
    have hk:k=.cell:=by simpa using hk
    subst hk
    rcases gL r _ _ h with z | z
    . exact .inl (List.mem_cons_of_mem _ z)
    . rcases List.mem_cons.mp z with z | z
      . cases z; exact .inl List.mem_cons_self
      . exact .inr z
  . rcases gL r _ _ h with z | z
    . exact .inl (List.mem_cons_of_mem _ z)
    . exact .inr z
theorem l4 {env:Env} (f:Str × NameKind->List (Str × Addr)->Sem (ForInStep (List (Str × Addr))))
  (hf:∀ name kind cs,f (name,kind) cs=if kind==.free then (do let a ← cellOf env name; pure (.yield ((name,a)::cs))) else pure (.yield cs)):
  ∀ (names:List (Str × NameKind)) (acc:List (Str × Addr)),(∀ x,(x,NameKind.free)∈names->∃ c,env.cells.lookup x=some c)->(∀ x c,acc.lookup x=some c->env.cells.lookup x=some c)->
   ∃ cl,forIn names acc f=(pure cl:Sem _)/\(∀ x c,cl.lookup x=some c->env.cells.lookup x=some c)/\(∀ x,((x,NameKind.free)∈names\/∃ c,acc.lookup x=some c)->∃ c,cl.lookup x=some c)
 | [],acc,_,h2=>⟨acc,rfl,h2,fun x h=>h.elim (fun z=>nomatch z) id⟩
 | (y,k)::r,acc,h1,h2=>by
  rw [List.forIn_cons,hf]
  by_cases hk:(k==NameKind.free)=true
  . rw [if_pos hk]
    have hk':k=.free:=by simpa using hk
    subst hk'
    obtain ⟨c,hc⟩:=h1 y List.mem_cons_self
    have e:(cellOf env y:Sem Addr)=pure c:=by unfold cellOf; rw [hc]
    rw [e]
    obtain ⟨cl,e1,e2,e3⟩:=l4 f hf r ((y,c)::acc) (fun x hx=>h1 x (List.mem_cons_of_mem _ hx)) (fun x c' hx=>by
     rw [List.lookup_cons] at hx
     cases hb:x==y with
     | true=>rw [hb] at hx; cases hx; rw [beq_iff_eq.mp hb]; exact hc
     | false=>rw [hb] at hx; exact h2 x c' hx)
    refine ⟨cl,?_,e2,fun x hx=>e3 x ?_⟩
    . exact e1
    . rcases hx with hx | ⟨c',hx⟩
      . rcases List.mem_cons.mp hx with z | z
        . cases z; exact .inr ⟨c,by rw [List.lookup_cons]; simp⟩
        . exact .inl z
      . cases hb:x==y with
        | true=>exact .inr ⟨c,by rw [List.lookup_cons,hb]⟩
        | false=>exact .inr ⟨c',by rw [List.lookup_cons,hb]; exact hx⟩
  . rw [if_neg hk]
    obtain ⟨cl,e1,e2,e3⟩:=l4 f hf r acc (fun x hx=>h1 x (List.mem_cons_of_mem _ hx)) h2
    refine ⟨cl,e1,e2,fun x hx=>e3 x ?_⟩
    rcases hx with hx | hx
    . rcases List.mem_cons.mp hx with z | z
      . cases z; exact absurd rfl hk
      . exact .inl z
    . exact .inr hx
theorem wd {scope:Scope} {env:Env} (h:∀ x,(x,NameKind.free)∈scope.names->∃ c,env.cells.lookup x=some c):
  ∃ cl,closureFor scope env=pure cl/\(∀ x c,cl.lookup x=some c->env.cells.lookup x=some c)/\∀ x,(x,NameKind.free)∈scope.names->∃ c,cl.lookup x=some c:=by
 obtain ⟨cl,e1,e2,e3⟩:=l4 (env:=env) (fun x cs=>match x with | (name,kind)=>if kind==.free then (do let a ← cellOf env name; pure (.yield ((name,a)::cs))) else pure (.yield cs)) (fun _ _ _=>rfl) scope.names [] h (fun x c hx=>nomatch hx)
 refine ⟨cl,?_,e2,fun x hx=>e3 x (.inl hx)⟩
 have:closureFor scope env=(forIn scope.names [] (fun x cs=>match x with | (name,kind)=>if kind==.free then (do let a ← cellOf env name; pure (.yield ((name,a)::cs))) else pure (.yield cs)) >>= fun cs=>pure cs):=by
  simp only [closureFor]
 rw [this,e1]
 rfl
def xz (scope:Scope) (cl:List (Str × Addr)) (C:Addr) (env:Env):Env:=
 { newEnv scope C env.globals (cellsFrom (C+1) scope.names cl) env.qual none .none (some env) builtinsNs with scope:=relabel scope env }
theorem yU {M:Model} {A:Around} {E:Value->Shared->Prop} {s:Shared} {scope:Scope} {cl:List (Str × Addr)} {env:Env} {Q:Env->Shared->Prop}
  (hQ:Q (newEnv scope s.heap.objs.size env.globals (cellsFrom (s.heap.objs.size+1) scope.names cl) env.qual none .none (some env) builtinsNs) { s with heap:=pushCells (s.heap.push { cls:=.type "dict",data:=.dict #[] }) scope.names }):
  wpAny M A (newFunctionEnv scope env.globals cl [] env.qual none .none (some env)) Q E s:=by
 simp only [newFunctionEnv,Option.isSome_some,if_true]
 refine wpAny_bind (wpAny_alloc ?_)
 refine wpAny_bind (wpAny_layCells _ (fun name kind cells=>by cases hkc:kind==NameKind.cell <;> simp [hkc]) _ _ _ _ ?_)
 rw [show ({ s with heap:=s.heap.push { cls:=.type "dict",data:=.dict #[] } }:Shared).heap.objs.size=s.heap.objs.size+1 from Heap.size_push ..]
 refine wpAny_bind ?_
 rw [List.forIn_nil]
 exact wpAny_pure (wpAny_pure hQ)
section
variable {prog:Program} {w:World} {A:Around} {E:Value->Shared->Prop} {R:Result->Shared->Prop} {s:Shared}
theorem xA {elt target iter:Expr} {ifs:List Expr} {scope:Scope} {pos:Pos} {it acc:Value} {env:Env} (I:Nat->Shared->Prop)
  (turn:∀ n s,I n s->wpAny (model prog w) A (pyNext it) (fun r s₁=>match r with
   | none=>R (.ok .next) s₁
   | some v=>wpAny (model prog w) A (letOwnedTupleGo target it v) (fun _ s₁'=>wpAny (model prog w) A (assign target env v) (fun _ s₂=>
     wpAny (model prog w) A (forIn ifs true fun c r=>if r=true then do let ok ← isTrue c env (eval c env); pure (ForInStep.yield ok) else pure (ForInStep.yield r)) (fun ok s₃=>
      if ok=true then wpAny (model prog w) A (eval elt env) (fun x s₄=>
       wpAny (model prog w) A (call (.builtin "list.append") [acc,x]) (fun _ s₅=>∃ m,m<n/\I m s₅) (notedBy (model prog w) A env fun e s'=>R (.error e) s') s₄) (notedBy (model prog w) A env fun e s'=>R (.error e) s') s₃
      else ∃ m,m<n/\I m s₃) (notedBy (model prog w) A env fun e s'=>R (.error e) s') s₂) (notedBy (model prog w) A env fun e s'=>R (.error e) s') s₁') (notedBy (model prog w) A env fun e s'=>R (.error e) s') s₁) (notedBy (model prog w) A env fun e s'=>R (.error e) s') s)
  (n:Nat) (h:I n s):
  codeAny (model prog w) A (.compLoop (.ListComp elt [⟨target,iter,ifs,0⟩] scope pos) 0 it acc env) R s:=by
 refine codeAny_loop rfl I (fun n s hI=>?_) n h
 show wpAny _ A ((compTurn (.ListComp elt [⟨target,iter,ifs,0⟩] scope pos) 0 it acc env).onRaise (fun x=>do noteFrame x env; theTreesLotGoes x)) _ _ s
 refine wpAny_noted ?_
 rw [compTurn_list]
 refine wpAny_bind (wpAny_standAt (wpAny_bind (wpAny_mono (turn n s hI) (fun r s₁ h₁=>?_) fun _ _ h'=>h')))
 cases r with
 | none=>exact wpAny_pure h₁
 | some v=>
  refine wpAny_bind (wpAny_mono h₁ (fun _ s₁' h₁'=>?_) fun _ _ h'=>h')
  refine wpAny_bind (wpAny_mono h₁' (fun _ s₂ h₂=>wpAny_bind (wpAny_mono h₂ (fun ok s₃ h₃=>?_) fun _ _ h'=>h')) fun _ _ h'=>h')
  cases ok with
  | false=>exact wpAny_pure ⟨rfl,h₃⟩
  | true=>
   exact wpAny_bind (wpAny_bind (wpAny_mono h₃ (fun x s₄ h₄=>wpAny_bind (wpAny_mono h₄ (fun _ s₅ h₅=>wpAny_pure (wpAny_pure ⟨rfl,h₅⟩)) fun _ _ h'=>h')) fun _ _ h'=>h'))
end
end L2
namespace L2
open PySem PySem.Spec PyProof.Rows
theorem kS {scope:Scope} {env:Env} {x:Str} {k:NameKind} (h:(relabel scope env).names.lookup x=some k):∃ k',scope.names.lookup x=some k'/\(k=k'\/(k'=.free/\k=.cell)):=by
 unfold relabel at h
 dsimp only at h
 generalize scope.names=names at h ⊢
 induction names with
 | nil=>cases h
 | cons p r ih=>
  obtain ⟨n,k0⟩:=p
  rw [List.map_cons] at h
  rw [List.lookup_cons]
  cases hb:x==n with
  | true=>
   refine ⟨k0,rfl,?_⟩
   dsimp only at h
   split at h
   . rename_i hc
     rw [List.lookup_cons,hb] at h
     cases h
     simp only [Bool.and_eq_true,beq_iff_eq] at hc
     exact .inr ⟨hc.1.1,rfl⟩
   . rw [List.lookup_cons,hb] at h
     cases h
     exact .inl rfl
  | false=>
   dsimp only at h
   refine ih ?_
   split at h
   . rw [List.lookup_cons,hb] at h; exact h
   . rw [List.lookup_cons,hb] at h; exact h
def blkCx (X:Cx) (N:List Str) (scope:Scope) (cl:List (Str × Addr)) (s:Shared) (H:Hp) (fp:List Addr):Cx where
 prog:=X.prog
 w:=X.w
 K:=X.K
 mg:=X.mg
 base:=X.base
 A:=X.A
 N:=N
 s₀:=s
 H₀:=H
 env:=xz scope cl (s.heap.objs.size+1) X.env
 outer:=X.stack
 stack:=X.stack
 ex:=fp
 fn:=fun x=>scope.names.lookup x==some .cell
 calm:=X.calm
 pn:=[]
 xe:=fun e₀ s₁=>(∃ (pins:List (Addr × Obj)) (σ:St),Inv X pins σ H s/\∀ b∈fp,FpOk X pins H b)->notedBy (model X.prog X.w) X.A (xz scope cl (s.heap.objs.size+1) X.env) (fun x s'=>∃ m,s'.heap.Ns (s.heap.objs.size+1) m/\∀ h',Heap.SameBut (s.heap.objs.size+1) s'.heap h'->∀ cenv:Env,cenv.locals=s.heap.objs.size+1->
  wpAny (model X.prog X.w) X.A (passOn "comprehension.variables-let-go" x cenv:Sem Value) (fun _ _=>False) X.xe { s' with heap:=h' }) e₀ s₁
def subσ (ix:List (Option Nat)) (σ:St):St:=ix.map fun o=>match o with | none=>none | some i=>match σ[i]? with | some v=>v | none=>none
structure BlkOk (X:Cx) (N:List Str) (ix:List (Option Nat)) (scope:Scope):Prop where
 kind:scope.kind=.function
 nd:N.Nodup
 len:ix.length=N.length
 names:(scope.names.map (·.1)).Nodup
 free:∀ x,(x,NameKind.free)∈scope.names->X.env.kindOf x=some .cell\/X.env.kindOf x=some .free
 at_:∀ (j i:Nat) (x:Str),N[j]? =some x->ix[j]? =some (some i)->X.N[i]? =some x/\(x,NameKind.free)∈scope.names
theorem d9 {α:Type}:∀ {l:List (Str × α)} {x:Str} {k:α},(l.map (·.1)).Nodup->(x,k)∈l->l.lookup x=some k
 | (y,k0)::r,x,k,nd,h=>by
  rw [List.map_cons,List.nodup_cons] at nd
  rw [List.lookup_cons]
  rcases List.mem_cons.mp h with e | e
  . cases e; simp
  . have:x≠y:=by
     rintro rfl
     exact nd.1 (List.mem_map.mpr ⟨(x,k),e,rfl⟩)
    have hb:(x==y)=false:=by simpa using this
    rw [hb]
    exact d9 nd.2 e
theorem xB {X:Cx} {pins:List (Addr × Obj)} {σ:St} {H:Hp} {s:Shared} {N:List Str} {ix:List (Option Nat)} {scope:Scope} {cl:List (Str × Addr)} {fp:List Addr} (B:BlkOk X N ix scope)
  (I:Inv X pins σ H s) (hcl:∀ x c,cl.lookup x=some c->X.env.cells.lookup x=some c) (hcf:∀ x,(x,NameKind.free)∈scope.names->∃ c,cl.lookup x=some c)
  (hfp:∀ b∈fp,FpOk X pins H b) (hob:∀ b∈fp,∃ o,s.heap.get? b=some o/\∀ v,o.data≠.cell v):
  Inv (blkCx X N scope cl s H fp) [] (subσ ix σ) (upd H s.heap.objs.size (.lst []))
   { s with heap:=pushCells ((s.heap.push { cls:=.type "list",data:=.seq #[] }).push { cls:=.type "dict",data:=.dict #[] }) scope.names }:=by
 have hs2:(s.heap.push { cls:=.type "list",data:=.seq #[] }).objs.size=s.heap.objs.size+1:=Heap.size_push ..
 have hs3:((s.heap.push { cls:=.type "list",data:=.seq #[] }).push { cls:=.type "dict",data:=.dict #[] }).objs.size=s.heap.objs.size+2:=by rw [Heap.size_push,hs2]
 have hk:∀ b o,s.heap.get? b=some o->(pushCells ((s.heap.push { cls:=.type "list",data:=.seq #[] }).push { cls:=.type "dict",data:=.dict #[] }) scope.names).get? b=some o:=
  fun b o e=>pushCells_keeps _ _ b o (Heap.get?_push_of_some _ (Heap.get?_push_of_some _ e))
 have hl:(pushCells ((s.heap.push { cls:=.type "list",data:=.seq #[] }).push { cls:=.type "dict",data:=.dict #[] }) scope.names).get? s.heap.objs.size=some { cls:=.type "list",data:=.seq #[] }:=
  pushCells_keeps _ _ _ _ (Heap.get?_push_of_some _ (Heap.get?_push_size _ rfl))
 have ok0:=cellsFrom_ok scope.names ((s.heap.push { cls:=.type "list",data:=.seq #[] }).push { cls:=.type "dict",data:=.dict #[] }) (s.heap.objs.size+2) [] ⟨fun _ _ hm=>(nomatch hm),List.Pairwise.nil⟩ (by rw [hs3]; exact Nat.le_refl _)
 rw [hs3] at ok0
 have hcells:(blkCx X N scope cl s H fp).env.cells=cellsFrom (s.heap.objs.size+2) scope.names []++cl:=by
  show cellsFrom (s.heap.objs.size+1+1) scope.names cl=_
  rw [← List.nil_append cl,kj]
  simp
 have cases_:∀ x c,(blkCx X N scope cl s H fp).env.cells.lookup x=some c->((x,c)∈cellsFrom (s.heap.objs.size+2) scope.names []/\(x,NameKind.cell)∈scope.names)\/((cellsFrom (s.heap.objs.size+2) scope.names []).lookup x=none/\cl.lookup x=some c):=fun x c e=>by
  rw [hcells,cw] at e
  cases q:(cellsFrom (s.heap.objs.size+2) scope.names []).lookup x with
  | none=>rw [q] at e; exact .inr ⟨rfl,e⟩
  | some c'=>
   rw [q] at e
   cases e
   have m:=PySem.mem_of_lookup q
   refine .inl ⟨m,?_⟩
   rcases gL _ _ _ m with z | z
   . exact z
   . exact nomatch z
 have oldc:∀ x c,cl.lookup x=some c->c<s.heap.objs.size:=fun x c e=>by
  obtain ⟨v,q⟩:=I.cell x c (hcl x c e)
  exact q.lt
 have hfree:H s.heap.objs.size=none:=I.hok.fresh (Nat.le_refl _)
 have hfix:∀ b,s.heap.objs.size<b->(upd H s.heap.objs.size (.lst [])) b=none:=fun b hb=>by
  rw [ai (Nat.ne_of_gt hb)]
  exact I.hok.fresh (Nat.le_of_lt hb)
 have hlt:∀ b∈fp,b<s.heap.objs.size:=fun b hb=>by
  obtain ⟨o,e,_⟩:=hob b hb
  exact Heap.lt_size e
 have e0:=I.env0
 have isnew:∀ x c,(x,c)∈cellsFrom (s.heap.objs.size+2) scope.names []->s.heap.objs.size+2<=c:=fun x c m=>(ok0.empty x c m).2
 refine ⟨⟨I.ok.mod,B.kind,I.ok.glob,I.ok.blt,Nat.le_succ _,fun x y c e1 e2=>?_,fun x hx=>?_,fun x c hx e=>?_,I.ok.hd,I.ok.frames,.inl rfl,fun b hb=>⟨?_,fun x c e=>?_⟩,e0.bs,e0.bsz,fun b o e hb=>?_,fun b hb hb2=>?_,e0.funs,e0.frf⟩,
  rfl,I.bare,Un.laid hk (Nat.le_refl _) hfree,⟨fun _=>none,?_,fun j x v e1 e2 e3=>?_⟩,fun x c e=>?_,hfix _ (Nat.lt_succ_self _),fun x c e=>?_,fun p hp=>absurd (show p∈([]:List (Addr × Obj)) from hp) (by simp),?_,?_⟩
 . rcases cases_ x c e1 with ⟨m1,k1⟩ | ⟨n1,q1⟩ <;> rcases cases_ y c e2 with ⟨m2,k2⟩ | ⟨n2,q2⟩
   . exact name_of_addr ok0.apart m1 m2
   . exact absurd (Nat.lt_of_lt_of_le (oldc _ _ q2) (Nat.le_trans (Nat.le_add_right _ _) (isnew _ _ m1))) (Nat.lt_irrefl _)
   . exact absurd (Nat.lt_of_lt_of_le (oldc _ _ q1) (Nat.le_trans (Nat.le_add_right _ _) (isnew _ _ m2))) (Nat.lt_irrefl _)
   . exact I.ok.inj x y c (hcl _ _ q1) (hcl _ _ q2)
 . have hx':(relabel scope X.env).names.lookup x=some .cell\/(relabel scope X.env).names.lookup x=some .free:=hx
   have key:scope.names.lookup x=some .cell\/scope.names.lookup x=some .free:=by
    rcases hx' with z | z
    . obtain ⟨k',e,r | r⟩:=kS z
      . rw [← r] at e; exact .inl e
      . rw [r.1] at e; exact .inr e
    . obtain ⟨k',e,r | r⟩:=kS z
      . rw [← r] at e; exact .inr e
      . cases r.2
   rw [hcells]
   rcases key with z | z
   . obtain ⟨c,q⟩:=l3 (n:=s.heap.objs.size+2) z
     exact ⟨c,by rw [cw,q]⟩
   . obtain ⟨c,q⟩:=hcf x (PySem.mem_of_lookup z)
     cases q2:(cellsFrom (s.heap.objs.size+2) scope.names []).lookup x with
     | none=>exact ⟨c,by rw [cw,q2]; exact q⟩
     | some c'=>exact ⟨c',by rw [cw,q2]⟩
 . have hx':scope.names.lookup x=some .cell:=by simpa [blkCx] using hx
   rcases cases_ x c e with ⟨m1,k1⟩ | ⟨n1,q1⟩
   . exact Nat.le_trans (Nat.le_add_right _ _) (isnew _ _ m1)
   . obtain ⟨c',q⟩:=l3 (n:=s.heap.objs.size+2) hx'
     rw [q] at n1; cases n1
 . exact Nat.ne_of_lt (Nat.lt_succ_of_lt (hlt b hb))
 . rcases cases_ x c e with ⟨m1,k1⟩ | ⟨n1,q1⟩
   . exact Nat.ne_of_gt (Nat.lt_of_lt_of_le (hlt b hb) (Nat.le_trans (Nat.le_add_right _ _) (isnew _ _ m1)))
   . exact (hfp b hb).2.2.2.2.1 x c (hcl _ _ q1)
 . rcases (hfp b hb).2.2.2.1 with z | z
   . exact I.ok.noex b o e z
   . exact absurd (Nat.lt_of_lt_of_le (Heap.lt_size e) (Nat.le_trans I.ok.bsz z)) (Nat.lt_irrefl _)
 . rcases List.mem_cons.mp (I.stkSub b hb2) with z | z
   . exact (hfp b hb).2.1 z
   . exact (hfp b hb).2.2.1 z
 . show Heap.Ns _ (s.heap.objs.size+1) _
   rw [← hs2]
   exact (Heap.Ns.new _ (.type "dict")).keeps (pushCells_keeps _ _)
 .
   unfold subσ at e2
   rw [List.getElem?_map] at e2
   cases q:ix[j]? with
   | none=>rw [q] at e2; cases e2
   | some o=>
    rw [q] at e2
    cases o with
    | none=>cases e2
    | some i=>
     simp only [Option.map_some,Option.some.injEq] at e2
     obtain ⟨hN,hm⟩:=B.at_ j i x e1 q
     have hσ:σ[i]? =some (some v):=by
      cases q2:σ[i]? with
      | none=>rw [q2] at e2; cases e2
      | some z=>rw [q2] at e2; exact congrArg some e2
     obtain ⟨m,hn,hl'⟩:=I.loc
     have hkind:=B.free x hm
     have hvis:Vis X.env.scope x:=hkind.elim (fun z=>.inr (.inl z)) fun z=>.inr (.inr z)
     obtain ⟨u,ru,lk⟩:=hl' i x v hN hσ hvis
     refine ⟨u,ru,?_⟩
     obtain ⟨c,hc⟩:=hcf x hm
     have hnone:(cellsFrom (s.heap.objs.size+2) scope.names []).lookup x=none:=by
      cases q2:(cellsFrom (s.heap.objs.size+2) scope.names []).lookup x with
      | none=>rfl
      | some c'=>
       rcases gL _ _ _ (PySem.mem_of_lookup q2) with z | z
       . have a1:=d9 B.names z
         have a2:=d9 B.names hm
         rw [a1] at a2; cases a2
       . exact nomatch z
     have hcell:(blkCx X N scope cl s H fp).env.cells.lookup x=some c:=by rw [hcells,cw,hnone]; exact hc
     have hkk:(blkCx X N scope cl s H fp).env.kindOf x=some .cell\/(blkCx X N scope cl s H fp).env.kindOf x=some .free:=by
      rcases e3 with z | z | z
      . obtain ⟨k',e,r | r⟩:=kS (show (relabel scope X.env).names.lookup x=some .local from z)
        . rw [d9 B.names hm] at e; cases e; cases r
        . cases r.2
      . exact .inl z
      . exact .inr z
     refine .inr ⟨hkk,c,hcell,?_⟩
     rcases lk with ⟨k1,_⟩ | ⟨_,c2,e4,z⟩
     . rcases hkind with z | z <;> rw [k1] at z <;> cases z
     . rw [hcl x c hc] at e4; cases e4
       exact z.keeps hk
 . rcases cases_ x c e with ⟨m1,k1⟩ | ⟨n1,q1⟩
   . exact ⟨none,(ok0.empty x c m1).1⟩
   . obtain ⟨v,z⟩:=I.cell x c (hcl _ _ q1)
     exact ⟨v,z.keeps hk⟩
 . rcases cases_ x c e with ⟨m1,k1⟩ | ⟨n1,q1⟩
   . exact hfix c (Nat.lt_of_lt_of_le (Nat.lt_add_of_pos_right (by decide)) (isnew _ _ m1))
   . rw [ai (Nat.ne_of_lt (oldc _ _ q1))]
     exact I.freeC x c (hcl _ _ q1)
 . exact I.hok.laid hk (Nat.le_refl _) ⟨Nat.zero_le _,[],0,.nil,hl⟩
 . show (subσ ix σ).length=N.length
   unfold subσ
   rw [List.length_map]
   exact B.len
end L2
namespace L2
open PySem PySem.Spec PyProof.Rows
def PTs (X:Cx) (ifs:List Expr) (t:TT):Prop:=
 ∀ (pins:List (Addr × Obj)) (s:Shared) (σ:St) (H:Hp) (Q:Bool->Hp->Prop),Inv X pins σ H s->t σ H Q->
  wpAny (model X.prog X.w) X.A (forIn ifs true fun c r=>if r=true then do let ok ← isTrue c X.env (eval c X.env); pure (ForInStep.yield ok) else pure (ForInStep.yield r)) (TP X pins σ Q) X.xe s
def tTrue:TT:=fun _ H Q=>Q true H
theorem bJ {X:Cx}:PTs X [] tTrue:=fun _ _ _ H _ I h=>wpAny_tests_nil ⟨H,I,h⟩
theorem cx {X:Cx} {c:Expr} {t:TT} (h:PT X c t):PTs X [c] t:=fun pins s σ H Q I q=>wpAny_tests_one (h pins s σ H Q I q)
def tP (ix:List (Option Nat)) (wi:TI) (g:TG) (tt:TT) (te:TE) (fin:Addr->Hp->Prop):St->Hp->Prop:=fun σ H=>wi σ H fun J H1=>∀ l,H1 l=none->
 ∃ W:Nat->Nat->St->Hp->Prop,(∃ m,W 0 m (subσ ix σ) (upd H1 l (.lst [])))/\∀ i m σ' H',W i m σ' H'->
  (J.stop i H'/\fin l H')\/(J.go i H'/\∃ N:St->Hp->Prop,(∀ σ'' H'',N σ'' H''->∃ m',m'<m/\W (i+1) m' σ'' H'')/\∀ x H2,J.yld i H' x H2->g x σ' H2 fun σ2 H3=>tt σ2 H3 fun b H4=>
   if b=true then te σ2 H4 fun y H5=>∃ ys,H5 l=some (.lst ys)/\ys.length<sizeLine/\N σ2 (upd H5 l (.lst (ys++[y]))) else N σ2 H4)
section
variable {X:Cx} {pins:List (Addr × Obj)} {σ σ':St} {H H':Hp} {s s':Shared} {N:List Str} {scope:Scope} {cl:List (Str × Addr)} {fp:List Addr}
theorem vD {h':Heap} (I:Inv X pins σ H s) (J:Inv (blkCx X N scope cl s H fp) [] σ' H' s') (hfp:∀ b∈fp,FpOk X pins H b) (sb:Heap.SameBut (s.heap.objs.size+1) s'.heap h'):Inv X pins σ H' { s' with heap:=h' }:=by
 have u:Un (frs X.stack) fp H H' s.heap s'.heap:=J.base
 have hC:H' (s.heap.objs.size+1)=none:=J.free
 have ne:∀ b o,s.heap.get? b=some o->b≠s.heap.objs.size+1:=fun b o e=>Nat.ne_of_lt (Nat.lt_succ_of_lt (Heap.lt_size e))
 refine I.call' (s':={ s' with heap:=h' }) (ch:=fp) J.os ⟨fun b o e n hb hx=>?_,fun b o e n hb hx=>?_,u.free,fun b o e hx=>?_,u.tups,u.frzs,u.tbls⟩ (fun b ob e=>?_) J.bare fun b hb=>?_
 . exact (sb.2 b (ne b o e)).trans (u.keep b o e n hb hx)
 . obtain ⟨sl,q⟩:=u.slot b o e n hb hx
   exact ⟨sl,(sb.2 b (ne b o e)).trans q⟩
 . obtain ⟨o',q⟩:=u.there b o e hx
   exact ⟨o',(sb.2 b (ne b o e)).trans q⟩
 . refine (J.hok b ob e).stay (fun c w' hc q=>(sb.2 c ?_).trans q) (fun _ q=>q) fun _ _ q=>q
   rintro rfl
   rcases hc with rfl | hc
   . rw [hC] at e; cases e
   . rw [hC] at hc; cases hc
 . obtain ⟨f0,f1,f2,f3,f4,f5⟩:=hfp b hb
   exact ⟨f3,f1,f4,f5⟩
theorem tQ {tg iter elt:Expr} {ifs:List Expr} {pos:Pos} {ix:List (Option Nat)} {wi:TI} {g:TG} {tt:TT} {te:TE} {fin:Addr->Hp->Prop} {RR:Value->Addr->Result->Shared->Prop} (B:BlkOk X N ix scope) (hc:X.calm=true)
  (hi:PI X tg iter wi) (hg:∀ cl s H fp,PG (blkCx X N scope cl s H fp) tg g) (ht:∀ cl s H fp,PTs (blkCx X N scope cl s H fp) ifs tt) (he:∀ cl s H fp,PE (blkCx X N scope cl s H fp) elt te)
  (hcl:∀ x c,cl.lookup x=some c->X.env.cells.lookup x=some c) (hcf:∀ x,(x,NameKind.free)∈scope.names->∃ c,cl.lookup x=some c)
  (I:Inv X pins σ H s) (h:tP ix wi g tt te fin σ H)
  (ok:∀ (s2:Shared) (H2:Hp) (fp:List Addr) (σ3:St) (H3:Hp) (s3:Shared),Inv X pins σ H2 s2->(∀ b∈fp,FpOk X pins H2 b)->Inv (blkCx X N scope cl s2 H2 fp) [] σ3 H3 s3->fin s2.heap.objs.size H3->RR (.ref s2.heap.objs.size) (s2.heap.objs.size+1) (.ok .next) s3)
  (bad:∀ (a C:Addr) (x:Value) (s':Shared),(∃ m,s'.heap.Ns C m/\∀ h',Heap.SameBut C s'.heap h'->∀ cenv:Env,cenv.locals=C->wpAny (model X.prog X.w) X.A (passOn "comprehension.variables-let-go" x cenv:Sem Value) (fun _ _=>False) X.xe { s' with heap:=h' })->RR (.ref a) C (.error x) s'):
  wpAny (model X.prog X.w) X.A (eval iter X.env) (fun x s₁=>wpAny (model X.prog X.w) X.A (pyIter x) (fun it s₂=>wpAny (model X.prog X.w) X.A (newList []) (fun acc s₃=>
   wpAny (model X.prog X.w) X.A (newFunctionEnv scope X.env.globals cl [] X.env.qual none .none (some X.env)) (fun cenv s₄=>
    codeAny (model X.prog X.w) X.A (.compStart (.ListComp elt [⟨tg,iter,ifs,0⟩] scope pos) 0 it acc { cenv with scope:=relabel scope X.env }) (RR acc cenv.locals) s₄) X.xe s₃) X.xe s₂) X.xe s₁) X.xe s:=by
 refine thn (hi pins s σ H _ I h) fun v s1 h1=>thn h1 fun itv s2 h2=>?_
 obtain ⟨it,fp,tn,J,H2,e,I2,T,st2,f2,h2⟩:=h2
 subst e
 refine wpAny_newList (yU ?_) (Nat.zero_le _)
 have hs2:(s2.heap.push { cls:=.type "list",data:=.seq (([]:List Value)).toArray }).objs.size=s2.heap.objs.size+1:=Heap.size_push ..
 dsimp only
 rw [hs2]
 have I3:=xB (fp:=fp) B I2 hcl hcf f2 (T.obj _ _ st2)
 obtain ⟨W,⟨m0,w0⟩,turn⟩:=h2 s2.heap.objs.size I2.fresh
 have hk:∀ b o,s2.heap.get? b=some o->(pushCells ((s2.heap.push { cls:=.type "list",data:=.seq #[] }).push { cls:=.type "dict",data:=.dict #[] }) scope.names).get? b=some o:=
  fun b o e=>pushCells_keeps _ _ b o (Heap.get?_push_of_some _ (Heap.get?_push_of_some _ e))
 have st3:=T.keep _ _ _ st2 fun b _ o e=>hk b o e
 have fr3:∀ b∈fp,(upd H2 s2.heap.objs.size (.lst [])) b=none:=fun b hb=>by
  obtain ⟨o,e,_⟩:=T.obj _ _ st2 b hb
  rw [ai (Nat.ne_of_lt (Heap.lt_size e))]
  exact (f2 b hb).1
 have stat:∀ {σ5:St} {H5:Hp} {s5:Shared},Inv (blkCx X N scope cl s2 H2 fp) [] σ5 H5 s5->(∀ b∈fp,H5 b=none)->∀ b∈fp,FpOk (blkCx X N scope cl s2 H2 fp) [] H5 b:=fun I5 hn b hb=>
  ⟨hn b hb,(I5.ok.exf b hb).1,I5.ok.exfs b hb,.inl hb,(I5.ok.exf b hb).2,fun p hp=>absurd (show p∈([]:List (Addr × Obj)) from hp) (by simp)⟩
 have loop:∀ s₃:Shared,s₃={ s2 with heap:=pushCells ((s2.heap.push { cls:=.type "list",data:=.seq #[] }).push { cls:=.type "dict",data:=.dict #[] }) scope.names }->
   codeAny (model X.prog X.w) X.A (.compLoop (.ListComp elt [⟨tg,iter,ifs,0⟩] scope pos) 0 (.ref it) (.ref s2.heap.objs.size) (blkCx X N scope cl s2 H2 fp).env) (RR (.ref s2.heap.objs.size) (s2.heap.objs.size+1)) s₃:=by
  rintro s₃ rfl
  refine xA (fun n s'=>∃ i σ' H',Inv (blkCx X N scope cl s2 H2 fp) [] σ' H' s'/\tn i s'.heap/\(∀ b∈fp,H' b=none)/\W i n σ' H') ?_ m0 ⟨0,_,_,I3,st3,fr3,w0⟩
  rintro n s4 ⟨i,σ4,H4,I4,st4,fr4,w4⟩
  have xe_:∀ x s',(blkCx X N scope cl s2 H2 fp).xe x s'->notedBy (model X.prog X.w) X.A (blkCx X N scope cl s2 H2 fp).env (fun e s'=>RR (.ref s2.heap.objs.size) (s2.heap.objs.size+1) (.error e) s') x s':=fun x s' hx=>
   wpAny_mono (hx ⟨pins,σ,I2,f2⟩) (fun _ s'' q=>bad _ _ _ _ q) fun e s'' q=>bad _ _ _ _ q
  rcases turn i n σ4 H4 w4 with ⟨stop,qn⟩ | ⟨go,Nx,hN,step⟩
  . refine wpAny_mono (T.done (blkCx X N scope cl s2 H2 fp) rfl rfl rfl hc i [] s4 σ4 H4 _ I4 (stat I4 fr4) st4 stop) (fun r s5 ⟨hr,I5⟩=>?_) xe_
    subst hr
    exact ok s2 H2 fp σ4 H4 s5 I2 f2 I5 qn
  . refine wpAny_mono (T.item (blkCx X N scope cl s2 H2 fp) rfl rfl rfl hc i [] s4 σ4 H4 _ I4 (stat I4 fr4) st4 go) (fun r s5 ⟨u,hr,h5⟩=>?_) xe_
    subst hr
    refine wpAny_mono h5 (fun _ s6 ⟨x,H6,I6,r6,y6,st6,fr6⟩=>?_) xe_
    have I6':=I6.pinned (stat I6 fr6) (T.obj _ _ st6)
    refine wpAny_mono (hg cl s2 H2 fp _ s6 σ4 H6 x u _ I6' r6 (step x H6 y6)) (fun _ s7 ⟨σ7,H7,I7,q7⟩=>?_) xe_
    have again:∀ {σ8:St} {H8:Hp} {s8:Shared},Inv (blkCx X N scope cl s2 H2 fp) ([]++mO fp s6.heap) σ8 H8 s8->Nx σ8 H8->∃ m,m<n/\∃ i σ' H',Inv (blkCx X N scope cl s2 H2 fp) [] σ' H' s8/\tn i s8.heap/\(∀ b∈fp,H' b=none)/\W i m σ' H':=fun {σ8 H8 s8} I8 n8=>by
     obtain ⟨m',hm,w8⟩:=hN σ8 H8 n8
     refine ⟨m',hm,i+1,σ8,H8,I8.unpinned,T.keep _ _ _ st6 fun b hb o e=>(I8.pin (b,o) (List.mem_append_right _ (List.mem_append_right _ (kz hb e)))).1,fun b hb=>?_,w8⟩
     obtain ⟨o,e,d⟩:=T.obj _ _ st6 b hb
     exact (I8.pin (b,o) (List.mem_append_right _ (List.mem_append_right _ (kz hb e)))).2.1
    refine wpAny_mono (ht cl s2 H2 fp _ s7 σ7 H7 _ I7 q7) (fun okb s8 ⟨H8,I8,q8⟩=>?_) xe_
    cases okb with
    | false=>exact again I8 q8
    | true=>
     refine wpAny_mono (he cl s2 H2 fp _ s8 σ7 H8 _ I8 q8) (fun y s9 ⟨yv,H9,I9,r9,ys,hl,hz,q9⟩=>?_) xe_
     refine wpAny_mono (rO (X:=blkCx X N scope cl s2 H2 fp) _ s9 σ7 H9 (.ref s2.heap.objs.size) [yv] (.ref s2.heap.objs.size) [y] (fun _ H10=>Nx σ7 H10) I9 rfl (.cons r9 .nil) ⟨_,ys,yv,rfl,rfl,hl,hz,q9⟩) (fun _ s10 ⟨_,H10,I10,_,q10⟩=>?_) xe_
     exact again I10 q10
 exact codeAny_compStart_list (loop _ rfl) (T.self _ 0 _ _ _ st3 (loop _ rfl))
def tComp (ix:List (Option Nat)) (wi:TI) (g:TG) (tt:TT) (te:TE):TE:=fun σ H Q=>tP ix wi g tt te (fun l H'=>Q (.ref l) H') σ H
def sComp (k:Nat) (ix:List (Option Nat)) (wi:TI) (g:TG) (tt:TT) (te:TE):TS:=fun D σ H=>tP ix wi g tt te (fun l H'=>D.nx (σ.set k (some (.ref l))) H') σ H
theorem vE (I:Inv X pins σ H s) {ix:List (Option Nat)} (B:BlkOk X N ix scope):∃ cl,closureFor scope X.env=pure cl/\(∀ x c,cl.lookup x=some c->X.env.cells.lookup x=some c)/\∀ x,(x,NameKind.free)∈scope.names->∃ c,cl.lookup x=some c:=
 wd fun x hx=>I.ok.has x (B.free x hx)
theorem ou {ix:List (Option Nat)} (B:BlkOk X N ix scope):∀ x∈scope.names,x.2=NameKind.local->scope.names.lookup x.1=some .local:=fun x hx e=>by
 obtain ⟨n,k⟩:=x
 cases e
 exact d9 B.names hx
theorem aT {tg iter elt:Expr} {ifs:List Expr} {pos:Pos} {ix:List (Option Nat)} {wi:TI} {g:TG} {tt:TT} {te:TE} (N:List Str) (B:BlkOk X N ix scope) (hc:X.calm=true)
  (hi:PI X tg iter wi) (hg:∀ cl s H fp,PG (blkCx X N scope cl s H fp) tg g) (ht:∀ cl s H fp,PTs (blkCx X N scope cl s H fp) ifs tt) (he:∀ cl s H fp,PE (blkCx X N scope cl s H fp) elt te)
  (hs:∀ x,foldedSetIterable iter X.env x=pure x:=by intro _; rfl):PE X (.ListComp elt [⟨tg,iter,ifs,0⟩] scope pos) (tComp ix wi g tt te):=by
 intro pins s σ H Q I h
 obtain ⟨cl,e1,e2,e3⟩:=vE I B
 rw [eval_ListComp]
 refine wpAny_comprehension_free (use:=none) rfl hs e1 B.kind (ou B) ?_
 refine tQ (RR:=fun acc C=>compPost (model X.prog X.w) X.A X.xe none (EP X pins σ Q) acc C) B hc hi hg ht he e2 e3 I h (fun s2 H2 fp σ3 H3 s3 I2 f2 J q=>?_) (fun a C x s' q=>q)
 obtain ⟨m,hn,_⟩:=J.loc
 exact ⟨m,hn,fun h' sb=>⟨.ref _,H3,vD I2 J f2 sb,rfl,q⟩⟩
theorem vF {y:Str} {py spos:Pos} {k:Nat} {tg iter elt:Expr} {ifs:List Expr} {pos:Pos} {ix:List (Option Nat)} {wi:TI} {g:TG} {tt:TT} {te:TE} (hN:X.N.Nodup) (hy:X.N[k]? =some y) (hx:Loc X.env.scope y)
  (hsw:swapsWith (.ListComp elt [⟨tg,iter,ifs,0⟩] scope pos) (some (.Name y py)) spos.line X.env=pure true) (N:List Str) (B:BlkOk X N ix scope) (hc:X.calm=true)
  (hi:PI X tg iter wi) (hg:∀ cl s H fp,PG (blkCx X N scope cl s H fp) tg g) (ht:∀ cl s H fp,PTs (blkCx X N scope cl s H fp) ifs tt) (he:∀ cl s H fp,PE (blkCx X N scope cl s H fp) elt te)
  (hs:∀ x,foldedSetIterable iter X.env x=pure x:=by intro _; rfl) (hf:X.fn y=true\/X.env.scope.names.lookup y=some .local:=by first | exact .inl rfl | exact .inr rfl | assumption):
  PS X (.Assign [.Name y py] (.ListComp elt [⟨tg,iter,ifs,0⟩] scope pos) spos) (sComp k ix wi g tt te):=by
 intro pins s σ H D I h
 obtain ⟨cl,e1,e2,e3⟩:=vE I B
 rw [exec_Assign_Name_used _ _ _ _ hsw]
 refine wpAny_bind (wpAny_standAt (wpAny_bind ?_))
 show wpAny _ X.A (do let _ ← comprehension (.ListComp elt [⟨tg,iter,ifs,0⟩] scope pos) scope X.env _ (newList []) false (eval iter X.env) (some (assign (.Name y py) X.env))) _ _ s
 refine wpAny_bind (wpAny_mono (wpAny_comprehension_free (use:=some (assign (.Name y py) X.env)) (Q:=fun _ s'=>SP X pins D .next s') rfl hs e1 B.kind (ou B) ?_) (fun _ s' hq=>wpAny_pure (wpAny_pure hq)) fun _ _ e=>e)
 refine tQ (RR:=fun acc C=>compPost (model X.prog X.w) X.A X.xe (some (assign (.Name y py) X.env)) (fun _ s'=>SP X pins D .next s') acc C) B hc hi hg ht he e2 e3 I h (fun s2 H2 fp σ3 H3 s3 I2 f2 J q=>?_) (fun a C x s' q=>q)
 obtain ⟨m,hn,_⟩:=J.loc
 have I3:Inv X pins σ H3 { s3 with heap:=s3.heap }:=vD I2 J f2 (Heap.SameBut.refl _ _)
 show wpAny _ X.A (assign (.Name y py) X.env (.ref _)) _ _ _
 refine wpAny_assign_Name (rF (v:=.ref _) I3 hN hy hx rfl (fun s4 I4 ⟨a,sb4,ha⟩=>?_) hf)
 have hlt:a<s2.heap.objs.size:=by
  rcases ha with rfl | ha
  . exact I2.lt
  . obtain ⟨v,z⟩:=I2.cell _ _ ha
    exact z.lt
 have hCa:s2.heap.objs.size+1≠a:=Nat.ne_of_gt (Nat.lt_succ_of_lt hlt)
 refine ⟨m,hn.sameBut sb4 hCa,fun h' sb=>?_⟩
 refine ⟨_,H3,I4.turned (t':=s4.toks) (it:=s2.heap.objs.size+1) (fun b o hb e=>(sb.2 b hb).trans e) J.free (Nat.ne_of_gt (Nat.lt_succ_of_lt I2.lt)) (.inr (Nat.le_trans I2.sz (Nat.le_succ _))) (fun x c e=>?_) (fun p hp=>?_),q⟩
 . obtain ⟨v,z⟩:=I2.cell x c e
   exact Nat.ne_of_lt (Nat.lt_succ_of_lt z.lt)
 . exact Nat.ne_of_lt (Nat.lt_succ_of_lt (Heap.lt_size (I2.pin p hp).1))
end
end L2
namespace L2
open PySem PySem.Spec PyProof.Rows
def bnd {α:Type}:Option α->(α->Prop)->Prop
 | some a,k=>k a
 | none,_=>False
theorem aV {α:Type} {o:Option α} {a:α} {k:α->Prop} (h:o=some a) (q:k a):bnd o k:=by subst h; exact q
theorem aW {α:Type} {o:Option α} {k:α->Prop} (h:bnd o k):∃ a,o=some a/\k a:=by
 cases o with
 | none=>exact h.elim
 | some a=>exact ⟨a,rfl,h⟩
theorem bK {α:Type} {a:α} {k:α->Prop}:bnd (some a) k=k a:=rfl
def unM:Option HO->Option (List V)
 | some (.lst xs)=>some xs
 | _=>none
def unL:Option HO->Option (List V)
 | some (.lst xs)=>some xs
 | some (.frz _ (.lst xs))=>some xs
 | _=>none
def unS:Option HO->Option (List V)
 | some (.lst xs)=>some xs
 | some (.frz _ (.lst xs))=>some xs
 | some (.tup xs)=>some xs
 | _=>none
theorem gI {o:Option HO} {xs:List V} (h:unM o=some xs):o=some (.lst xs):=by
 unfold unM at h; split at h
 . cases h; rfl
 . cases h
theorem lS {K:Frag} {H:Hp} {p:Addr} {xs:List V} (h:unL (H p)=some xs):SqL K H p xs:=by
 unfold unL at h; split at h
 . rename_i e; cases h; exact .inl (.inl e)
 . rename_i o _ e; cases h; exact .inl (.inr ⟨_,e⟩)
 . cases h
theorem lT {K:Frag} {H:Hp} {p:Addr} {xs:List V} (h:unS (H p)=some xs):SqL K H p xs\/SqT K H p xs:=by
 unfold unS at h; split at h
 . rename_i e; cases h; exact .inl (.inl (.inl e))
 . rename_i o _ e; cases h; exact .inl (.inl (.inr ⟨_,e⟩))
 . rename_i e; cases h; exact .inr (.inl (.inl e))
 . cases h
mutual
inductive DV (K:Frag) (H:Hp):V->PyData->Prop
 | non:DV K H .non .none
 | bl (b:Bool):DV K H (.bl b) (.bool b)
 | int (i:Int):DV K H (.int i) (.int i)
 | str (x:Str):DV K H (.str x) (.str x)
 | lst {a:Addr} {xs:List V} {ds:List PyData}:SqL K H a xs->DVs K H xs ds->DV K H (.ref a) (.list ds)
 | tup {a:Addr} {xs:List V} {ds:List PyData}:SqT K H a xs->DVs K H xs ds->DV K H (.ref a) (.tuple ds)
inductive DVs (K:Frag) (H:Hp):List V->List PyData->Prop
 | nil:DVs K H [] []
 | cons {x:V} {d:PyData} {xs:List V} {ds:List PyData}:DV K H x d->DVs K H xs ds->DVs K H (x::xs) (d::ds)
end
section
variable {X:Cx} {pins:List (Addr × Obj)} {σ:St} {H:Hp} {s:Shared}
mutual
theorem DV.reads (I:Inv X pins σ H s):∀ {x:V} {d:PyData} {v:Value},DV X.K H x d->RelV x v->∃ as,Reads s.heap v d as
 | _,_,_,.non,r=>by cases r; exact ⟨_,.none⟩
 | _,_,_,.bl b,r=>by cases r; exact ⟨_,.bool b⟩
 | _,_,_,.int i,r=>by obtain ⟨t,rfl⟩:=r; exact ⟨_,.int i t⟩
 | _,_,_,.str x,r=>by obtain ⟨t,rfl⟩:=r; exact ⟨_,.str x t⟩
 | _,_,_,.lst (a:=a) h hs,r=>by
  cases r
  obtain ⟨its,rv,p,_⟩:=I.list h
  obtain ⟨as,q⟩:=DVs.reads I hs rv
  obtain ⟨o,h1,h2,n,h3⟩:=p.isList
  exact ⟨_,.list h1 h2 h3 q⟩
 | _,_,_,.tup (a:=a) h hs,r=>by
  cases r
  obtain ⟨its,rv,p,_⟩:=I.tuple h
  obtain ⟨as,q⟩:=DVs.reads I hs rv
  obtain ⟨o,h1,h2,n,h3⟩:=p
  exact ⟨_,.tuple h1 h2 h3 q⟩
theorem DVs.reads (I:Inv X pins σ H s):∀ {xs:List V} {ds:List PyData} {us:List Value},DVs X.K H xs ds->Vals xs us->∃ as,ReadsAll s.heap us ds as
 | _,_,_,.nil,.nil=>⟨_,.nil⟩
 | _,_,_,.cons h hs,.cons r rs=>by
  obtain ⟨as,q⟩:=DV.reads I h r
  obtain ⟨bs,q2⟩:=DVs.reads I hs rs
  exact ⟨_,.cons q q2⟩
end
end
theorem DVs.ints {K:Frag} {H:Hp}:∀ ns:List Int,DVs K H (ns.map V.int) (ns.map PyData.int)
 | []=>.nil
 | n::r=>.cons (.int n) (DVs.ints r)
theorem oC:∀ ns ms:List Int,PyData.eqvAll (ns.map PyData.int) (ms.map PyData.int)=decide (ns=ms):=PySem.W.ked_eqvAll
theorem oE:∀ ns:List Int,PyData.canLayAll0 (ns.map PyData.int)=true
 | []=>rfl
 | n::r=>by rw [List.map_cons,PyData.canLayAll0,oE r]; rfl
theorem l5:∀ ns:List Int,PyData.depthAll (ns.map PyData.int)=0
 | []=>rfl
 | n::r=>by rw [List.map_cons,PyData.depthAll,l5 r]; rfl
theorem j4 (ns:List Int):SeqAt.shaped (.list (ns.map PyData.int))=true:=by
 simp [SeqAt.shaped,PyData.canLay0,oE,PyData.depth,l5]
def cAdd:R2
 | .int i,.int j,H,Q=>Q (.int (i+j)) H
 | .str i,.str j,H,Q=>i.length+j.length<=sizeLine/\Q (.str (i++j)) H
 | .ref l,.ref b,H,Q=>bnd (unM (H l)) fun xs=>bnd (unM (H b)) fun zs=>xs.length+zs.length<=sizeLine/\∀ p,H p=none->Q (.ref p) (upd H p (.lst (xs++zs)))
 | _,_,_,_=>False
def cSub:R2
 | .int i,.int j,H,Q=>Q (.int (i-j)) H
 | _,_,_,_=>False
def cMul:R2
 | .int i,.int j,H,Q=>CMul i j/\Q (.int (i*j)) H
 | _,_,_,_=>False
def cDiv:R2
 | .int i,.int j,H,Q=>CDiv i j/\Q (.int (i/j)) H
 | _,_,_,_=>False
def cMod:R2
 | .int i,.int j,H,Q=>0<j/\Q (.int (i%j)) H
 | _,_,_,_=>False
def cPow:R2
 | .int i,.int j,H,Q=>CPow i j/\Q (.int (i^j.toNat)) H
 | _,_,_,_=>False
def cCmp (g:Int->Int->Bool):R2
 | .int i,.int j,H,Q=>Q (.bl (g i j)) H
 | _,_,_,_=>False
def rEqD (K:Frag):R2:=fun x y H Q=>∃ d e,DV K H x d/\DV K H y e/\SeqAt.shaped d=true/\SeqAt.shaped e=true/\Q (.bl (PyData.eqv d e)) H
def rNeD (K:Frag):R2:=fun x y H Q=>∃ d e,DV K H x d/\DV K H y e/\SeqAt.shaped d=true/\SeqAt.shaped e=true/\Q (.bl (!PyData.eqv d e)) H
def cEq (K:Frag):R2
 | .int i,.int j,H,Q=>Q (.bl (decide (i=j))) H
 | .bl i,.bl j,H,Q=>Q (.bl (decide (i=j))) H
 | .str i,.str j,H,Q=>Q (.bl (decide (i=j))) H
 | x,y,H,Q=>rEqD K x y H Q
def cNe (K:Frag):R2
 | .int i,.int j,H,Q=>Q (.bl (!decide (i=j))) H
 | .bl i,.bl j,H,Q=>Q (.bl (!decide (i=j))) H
 | .str i,.str j,H,Q=>Q (.bl (!decide (i=j))) H
 | x,y,H,Q=>rNeD K x y H Q
def rInD (K:Frag) (neg:Bool):R2:=fun x y H Q=>∃ d ds,DV K H x d/\(DV K H y (.list ds)\/DV K H y (.tuple ds))/\PyData.canLayAll0 ds=true/\PyData.canLay0 d=true/\min (PyData.depthAll ds) d.depth<=62/\
 Q (.bl (if neg then !ds.any (fun y=>PyData.eqv y d) else ds.any fun y=>PyData.eqv y d)) H
def keyOf:V->Option Key
 | .int i=>some (.inl i)
 | .str x=>some (.inr x)
 | _=>none
def unD:Option HO->Option (List (Key × V))
 | some (.dK kvs)=>some kvs
 | _=>none
def cIn (K:Frag) (neg:Bool):R2
 | .ref a,y,H,Q=>rInD K neg (.ref a) y H Q
 | x,.ref p,H,Q=>(match unD (H p) with
  | some kvs=>bnd (keyOf x) fun k=>Q (.bl (if neg then !(valV kvs k).isSome else (valV kvs k).isSome)) H
  | none=>bnd (unS (H p)) fun xs=>flatV x=true/\xs.all flatV=true/\Q (.bl (if neg then !inV x xs else inV x xs)) H)
 | .str i,.str j,H,Q=>Q (.bl (if neg then !(!(Builtin.Str.occurrences j i 0 j.length 1).isEmpty) else !(Builtin.Str.occurrences j i 0 j.length 1).isEmpty)) H
 | _,_,_,_=>False
def cIx:R2
 | .ref p,y,H,Q=>(match unD (H p) with
  | some kvs=>bnd (keyOf y) fun k=>bnd (valV kvs k) fun v=>Q v H
  | none=>match y with
   | .int i=>bnd (unS (H p)) fun xs=>bnd (atI xs i) fun v=>Q v H
   | _=>False)
 | .str z,.int i,H,Q=>z.length<=sizeLine/\bnd (atI z.cps.toList i) fun c=>Q (.str ⟨#[c]⟩) H
 | _,_,_,_=>False
theorem pI {o:Option HO} {kvs:List (Key × V)} (h:unD o=some kvs):o=some (.dK kvs):=by
 unfold unD at h; split at h
 . cases h; rfl
 . cases h
theorem oF {x:V} {k:Key} (h:keyOf x=some k):x=kV k:=by
 unfold keyOf at h; split at h
 . cases h; rfl
 . cases h; rfl
 . cases h
section
variable {X:Cx} {a b c:Expr} {ta tb tc:TE} {pos:Pos}
theorem aG:OpR X (binaryOp .Add) cAdd:=by
 intro pins s σ H x y v u Q I rx ry h
 unfold cAdd at h
 split at h
 . exact Ax pins s σ H _ _ v u Q I rx ry ⟨_,_,rfl,rfl,h⟩
 . exact vX pins s σ H _ _ v u Q I rx ry ⟨_,_,rfl,rfl,h.1,h.2⟩
 . obtain ⟨xs,e1,h⟩:=aW h
   obtain ⟨zs,e2,h⟩:=aW h
   exact AI pins s σ H _ _ v u Q I rx ry ⟨_,_,xs,zs,rfl,rfl,gI e1,gI e2,h.1,h.2⟩
 . exact h.elim
theorem bu:OpR X (binaryOp .Sub) cSub:=by
 intro pins s σ H x y v u Q I rx ry h
 unfold cSub at h
 split at h
 . exact Ay pins s σ H _ _ v u Q I rx ry ⟨_,_,rfl,rfl,h⟩
 . exact h.elim
theorem aY:OpR X (binaryOp .Mult) cMul:=by
 intro pins s σ H x y v u Q I rx ry h
 unfold cMul at h
 split at h
 . exact Az pins s σ H _ _ v u Q I rx ry ⟨_,_,rfl,rfl,h.1,h.2⟩
 . exact h.elim
theorem bj:OpR X (binaryOp .FloorDiv) cDiv:=by
 intro pins s σ H x y v u Q I rx ry h
 unfold cDiv at h
 split at h
 . exact zH pins s σ H _ _ v u Q I rx ry ⟨_,_,rfl,rfl,h.1,h.2⟩
 . exact h.elim
theorem aE:OpR X (binaryOp .Mod) cMod:=by
 intro pins s σ H x y v u Q I rx ry h
 unfold cMod at h
 split at h
 . exact AA pins s σ H _ _ v u Q I rx ry ⟨_,_,rfl,rfl,h.1,h.2⟩
 . exact h.elim
theorem nO {op:CmpOp} {g:Int->Int->Bool} (o:OpR X (compareOp op) (rI0 fun i j=>.bl (g i j))):OpR X (compareOp op) (cCmp g):=by
 intro pins s σ H x y v u Q I rx ry h
 unfold cCmp at h
 split at h
 . exact o pins s σ H _ _ v u Q I rx ry ⟨_,_,rfl,rfl,h⟩
 . exact h.elim
theorem cW:OpR X (compareOp .Lt) (cCmp fun i j=>decide (i<j)):=nO Bn
theorem iX:OpR X (compareOp .LtE) (cCmp fun i j=>decide (i<=j)):=nO Bo
theorem cE:OpR X (compareOp .Gt) (cCmp fun i j=>decide (j<i)):=nO Bp
theorem tR:OpR X (compareOp .GtE) (cCmp fun i j=>decide (j<=i)):=nO Bq
theorem AM (hu:X.A.units+64<cLine):OpR X (compareOp .Eq) (rEqD X.K):=by
 intro pins s σ H x y v u Q I rx ry h
 obtain ⟨d,e,h1,h2,h3,h4,q⟩:=h
 obtain ⟨as,r1⟩:=h1.reads I rx
 obtain ⟨bs,r2⟩:=h2.reads I ry
 exact eq_dataH r1 r2 h3 h4 hu ⟨.bl _,H,I,rfl,q⟩
theorem AN (hu:X.A.units+64<cLine):OpR X (compareOp .NotEq) (rNeD X.K):=by
 intro pins s σ H x y v u Q I rx ry h
 obtain ⟨d,e,h1,h2,h3,h4,q⟩:=h
 obtain ⟨as,r1⟩:=h1.reads I rx
 obtain ⟨bs,r2⟩:=h2.reads I ry
 exact ne_dataH r1 r2 h3 h4 hu ⟨.bl _,H,I,rfl,q⟩
theorem aF (hu:X.A.units+64<cLine):OpR X (compareOp .Eq) (cEq X.K):=by
 intro pins s σ H x y v u Q I rx ry h
 unfold cEq at h
 split at h
 . refine vV pins s σ H _ _ v u Q I rx ry ⟨rfl,?_⟩
   simpa using h
 . refine vV pins s σ H _ _ v u Q I rx ry ⟨rfl,?_⟩
   simpa using h
 . refine vV pins s σ H _ _ v u Q I rx ry ⟨rfl,?_⟩
   simpa using h
 . exact AM hu pins s σ H _ _ v u Q I rx ry h
theorem ck (hu:X.A.units+64<cLine):OpR X (compareOp .NotEq) (cNe X.K):=by
 intro pins s σ H x y v u Q I rx ry h
 unfold cNe at h
 split at h
 . refine vW pins s σ H _ _ v u Q I rx ry ⟨rfl,?_⟩
   simpa using h
 . refine vW pins s σ H _ _ v u Q I rx ry ⟨rfl,?_⟩
   simpa using h
 . refine vW pins s σ H _ _ v u Q I rx ry ⟨rfl,?_⟩
   simpa using h
 . exact AN hu pins s σ H _ _ v u Q I rx ry h
theorem AO (hu:X.A.units+64<cLine):OpR X (compareOp .In) (rInD X.K false):=by
 intro pins s σ H x y v u Q I rx ry h
 obtain ⟨d,ds,h1,h2,h3,h4,h5,q⟩:=h
 obtain ⟨as,r1⟩:=h1.reads I rx
 rcases h2 with h2 | h2
 . obtain ⟨bs,r2⟩:=h2.reads I ry
   exact SeqAt.in_list_reads r2 r1 h3 h4 (by omega) ⟨.bl _,H,I,rfl,q⟩
 . obtain ⟨bs,r2⟩:=h2.reads I ry
   exact SeqAt.in_tuple_reads r2 r1 h3 h4 (by omega) ⟨.bl _,H,I,rfl,q⟩
theorem xC (hu:X.A.units+64<cLine):OpR X (compareOp .NotIn) (rInD X.K true):=by
 intro pins s σ H x y v u Q I rx ry h
 obtain ⟨d,ds,h1,h2,h3,h4,h5,q⟩:=h
 obtain ⟨as,r1⟩:=h1.reads I rx
 rcases h2 with h2 | h2
 . obtain ⟨bs,r2⟩:=h2.reads I ry
   exact SeqAt.notIn_list_reads r2 r1 h3 h4 (by omega) ⟨.bl _,H,I,rfl,q⟩
 . obtain ⟨bs,r2⟩:=h2.reads I ry
   exact SeqAt.notIn_tuple_reads r2 r1 h3 h4 (by omega) ⟨.bl _,H,I,rfl,q⟩
theorem eh (hu:X.A.units+64<cLine):OpR X (compareOp .In) (cIn X.K false):=by
 intro pins s σ H x y v u Q I rx ry h
 unfold cIn at h
 split at h
 . exact AO hu pins s σ H _ _ v u Q I rx ry h
 . rename_i p hx
   split at h
   . rename_i kvs e
     obtain ⟨k,ek,q⟩:=aW h
     cases (show u=Value.ref p from ry)
     have g:DGet H p x (valV kvs k):=by rw [oF ek]; exact DGet.k (pI e)
     exact BL (Nat.lt_of_le_of_lt (Nat.add_le_add_left (by decide:1<=64) _) hu) I g rx fun s' I'=>⟨.bl _,H,I',rfl,q⟩
   . obtain ⟨xs,e,f1,f2,q⟩:=aW h
     exact mS pins s σ H _ _ v u Q I rx ry ⟨p,xs,rfl,lT e,f1,f2,q⟩
 . exact xk pins s σ H _ _ v u Q I rx ry ⟨_,_,rfl,rfl,h⟩
 . exact h.elim
theorem mX (hu:X.A.units+64<cLine):OpR X (compareOp .NotIn) (cIn X.K true):=by
 intro pins s σ H x y v u Q I rx ry h
 unfold cIn at h
 split at h
 . exact xC hu pins s σ H _ _ v u Q I rx ry h
 . rename_i p hx
   split at h
   . rename_i kvs e
     obtain ⟨k,ek,q⟩:=aW h
     cases (show u=Value.ref p from ry)
     have g:DGet H p x (valV kvs k):=by rw [oF ek]; exact DGet.k (pI e)
     exact zT (Nat.lt_of_le_of_lt (Nat.add_le_add_left (by decide:1<=64) _) hu) I g rx fun s' I'=>⟨.bl _,H,I',rfl,q⟩
   . obtain ⟨xs,e,f1,f2,q⟩:=aW h
     exact mT pins s σ H _ _ v u Q I rx ry ⟨p,xs,rfl,lT e,f1,f2,q⟩
 . exact tI pins s σ H _ _ v u Q I rx ry ⟨_,_,rfl,rfl,h⟩
 . exact h.elim
end
end L2
namespace L2
open PySem PySem.Spec PyProof.Rows
section
variable {X:Cx} {a b c:Expr} {ta tb tc:TE} {pos:Pos}
theorem aw (hu:X.A.units+64<cLine):IxR X cIx:=by
 intro value slice pins s σ H x y v u Q I rx ry h hs
 cases x with
 | ref p=>
  unfold cIx at h
  dsimp only at h
  split at h
  . rename_i kvs e
    obtain ⟨k,ek,h⟩:=aW h
    obtain ⟨z,ez,q⟩:=aW h
    cases (show v=Value.ref p from rx)
    have g:DGet H p y (some z):=by rw [oF ek,← ez]; exact DGet.k (pI e)
    exact tail_any (u7 I g) PySem.F.slot_dict_getitem.lookup (xw (Nat.lt_of_le_of_lt (Nat.add_le_add_left (by decide:1<=64) _) hu) I g ry fun w' s3 I3 rw'=>⟨z,H,I3,rw',q⟩) hs
  . split at h
    . obtain ⟨xs,e,h⟩:=aW h
      obtain ⟨z,ez,q⟩:=aW h
      rcases lT (K:=X.K) e with r | r
      . exact vB value slice pins s σ H _ _ v u Q I rx ry ⟨p,xs,_,z,rfl,rfl,r,ez,q⟩ hs
      . exact AD value slice pins s σ H _ _ v u Q I rx ry ⟨p,xs,_,z,rfl,rfl,r,ez,q⟩ hs
    . exact h.elim
 | str zz=>
  cases y with
  | int i=>
   obtain ⟨hz,h⟩:=(show zz.length<=sizeLine/\bnd (atI zz.cps.toList i) fun c=>Q (.str ⟨#[c]⟩) H from h)
   obtain ⟨z,ez,q⟩:=aW h
   exact AE value slice pins s σ H _ _ v u Q I rx ry ⟨_,_,z,rfl,rfl,hz,ez,q⟩ hs
  | _=>exact False.elim h
 | _=>exact False.elim h
def kLen:List V->Hp->VK->Prop
 | [.ref p],H,Q=>(match unD (H p) with
  | some kvs=>Q (.int kvs.length) H
  | none=>bnd (unS (H p)) fun xs=>Q (.int xs.length) H)
 | [.str z],H,Q=>z.length<=sizeLine/\Q (.int z.length) H
 | _,_,_=>False
theorem aH:CallR X (.builtin "len") kLen:=by
 intro pins s σ H xs us Q I r h
 unfold kLen at h
 split at h
 . split at h
   . rename_i kvs e
     exact xy pins s σ H _ us Q I r ⟨_,kvs,rfl,pI e,h⟩
   . obtain ⟨ys,e,q⟩:=aW h
     exact mU pins s σ H _ us Q I r ⟨_,ys,rfl,lT e,q⟩
 . exact tJ pins s σ H _ us Q I r ⟨_,rfl,h.1,h.2⟩
 . exact h.elim
def kAbs:List V->Hp->VK->Prop
 | [.int i],H,Q=>Q (.int (if i<0 then -i else i)) H
 | _,_,_=>False
def kMin:List V->Hp->VK->Prop
 | [.int i,.int j],H,Q=>Q (.int (if j<i then j else i)) H
 | _,_,_=>False
def kMax:List V->Hp->VK->Prop
 | [.int i,.int j],H,Q=>Q (.int (if j>i then j else i)) H
 | _,_,_=>False
def kList:List V->Hp->VK->Prop
 | [.ref p],H,Q=>bnd (unS (H p)) fun ys=>∀ l,H l=none->Q (.ref l) (upd H l (.lst ys))
 | _,_,_=>False
theorem gb:CallR X (.type "list") kList:=by
 intro pins s σ H xs us Q I r h
 unfold kList at h
 split at h
 . obtain ⟨ys,e,q⟩:=aW h
   exact tK pins s σ H _ us Q I r ⟨_,ys,rfl,lT e,q⟩
 . exact h.elim
def nP:List V->Hp->VK->Prop
 | [.ref p],H,Q=>bnd (unL (H p)) fun ys=>∃ ns:List Int,ys=ns.map V.int/\ns.length<64/\∀ (ns':List Int) l,H l=none->ns'.Perm ns->ns'.Pairwise (· <=·)->Q (.ref l) (upd H l (.lst (ns'.map V.int)))
 | _,_,_=>False
theorem tS:CallR X (.builtin "sorted") nP:=by
 intro pins s σ H xs us Q I r h
 unfold nP at h
 split at h
 . rename_i p
   obtain ⟨ys,e,ns,rfl,hlen,q⟩:=aW h
   obtain ⟨u,rfl,ru⟩:=cV r
   cases ru
   obtain ⟨its,rv,pl,hz⟩:=I.list (lS e)
   have hI:IntsAre its ns:=pF rv
   have hl:=rv.length
   rw [List.length_map] at hl
   refine sorted_ints pl.isList hI (by omega) fun out ns' hI' hp hs=>?_
   have old:∀ b o,s.heap.get? b=some o->(sortedAll s.heap its out).get? b=some o:=fun b o e=>sortedAll_old e
   obtain ⟨n,at_⟩:=sortedAll_at s.heap its out
   have hfresh:H (s.heap.objs.size+1)=none:=I.hok.fresh (Nat.le_succ _)
   have hlen':(ns'.map V.int).length<=sizeLine:=by
    rw [List.length_map,hp.length_eq]
    exact Nat.le_of_lt (Nat.lt_trans hlen (by decide))
   refine ⟨.ref (s.heap.objs.size+1),_,I.laid (t':=s.toks) (a:=s.heap.objs.size+1) (o:=.lst (ns'.map V.int)) old (Nat.le_succ _) ⟨hlen',out.toList,n,mV hI',?_⟩,rfl,q ns' _ hfresh hp hs⟩
   rw [at_]
 . exact h.elim
def kT (H:Hp):V->Option String
 | .non=>some "NoneType"
 | .bl _=>some "bool"
 | .int _=>some "int"
 | .str _=>some "str"
 | .ref p=>match H p with
  | some (.lst _)=>some "list"
  | some (.frz _ (.lst _))=>some "list"
  | some (.tup _)=>some "tuple"
  | some (.dK _)=>some "dict"
  | _=>none
 | _=>none
def isTy (t n:String):Bool:=t==n||(t=="bool"&&n=="int")
def nQ (n:String):Bool:=["int","bool","str","list","tuple","dict"].contains n
theorem xD {K:Frag} {H:Hp} {x:V} {t:String} (h:kT H x=some t):TyOf K H x (.type t)/\["NoneType","int","bool","str","list","tuple","dict"].contains t=true:=by
 cases x with
 | non=>cases h; exact ⟨.non,by decide⟩
 | bl b=>cases h; exact ⟨.bl b,by decide⟩
 | int i=>cases h; exact ⟨.int i,by decide⟩
 | str i=>cases h; exact ⟨.str i,by decide⟩
 | byt _=>cases h
 | flt _=>cases h
 | ty _=>cases h
 | ref p=>
  unfold kT at h
  dsimp only at h
  split at h
  . rename_i e; cases h; exact ⟨.lst e,by decide⟩
  . rename_i e; cases h; exact ⟨.frz e,by decide⟩
  . rename_i e; cases h; exact ⟨.tup e,by decide⟩
  . rename_i e; cases h; exact ⟨.dK e,by decide⟩
  . cases h
theorem AQ (K:Frag):∀ t∈["NoneType","int","bool","str","list","tuple","dict"],∀ n∈["int","bool","str","list","tuple","dict"],PySem.W.kitOne K (.type t) (.type n)=some (isTy t n):=by
 intro t ht n hn
 simp only [List.mem_cons,List.not_mem_nil,or_false] at ht hn
 rcases ht with rfl | rfl | rfl | rfl | rfl | rfl | rfl <;> rcases hn with rfl | rfl | rfl | rfl | rfl | rfl <;> rfl
def kIsi:List V->Hp->VK->Prop
 | [x,.ty n],H,Q=>nQ n=true/\bnd (kT H x) fun t=>Q (.bl (isTy t n)) H
 | _,_,_=>False
theorem dA:CallR X (.builtin "isinstance") kIsi:=by
 intro pins s σ H xs us Q I r h
 unfold kIsi at h
 split at h
 . obtain ⟨hn,h⟩:=h
   obtain ⟨t,et,q⟩:=aW h
   obtain ⟨u,w,rfl,ru,rw'⟩:=Br r
   cases rw'
   obtain ⟨ty,ht⟩:=xD (K:=X.K) et
   exact xp I ru ty (AQ X.K t (by simpa using ht) _ (by simpa [nQ] using hn)) fun tk=>⟨.bl _,H,I.tok tk,rfl,q⟩
 . exact h.elim
def bm:V->List V->Hp->VK->Prop
 | .ref l,[y],H,Q=>bnd (unM (H l)) fun xs=>xs.length<sizeLine/\Q .non (upd H l (.lst (xs++[y])))
 | _,_,_,_=>False
theorem bn:MtR X "list.append" bm:=by
 intro pins s σ H x vs v us Q I rx rv h
 unfold bm at h
 split at h
 . obtain ⟨xs,e,h1,q⟩:=aW h
   exact rO pins s σ H _ _ v us Q I rx rv ⟨_,xs,_,rfl,rfl,gI e,h1,q⟩
 . exact h.elim
def kO:V->List V->Hp->VK->Prop
 | .ref l,[.ref b],H,Q=>bnd (unM (H l)) fun xs=>bnd (unM (H b)) fun zs=>xs.length+zs.length<=sizeLine/\Q .non (upd H l (.lst (xs++zs)))
 | _,_,_,_=>False
theorem pJ:MtR X "list.extend" kO:=by
 intro pins s σ H x vs v us Q I rx rv h
 unfold kO at h
 split at h
 . obtain ⟨xs,e,h⟩:=aW h
   obtain ⟨zs,e2,h1,q⟩:=aW h
   exact xv pins s σ H _ _ v us Q I rx rv ⟨_,_,xs,zs,rfl,rfl,gI e,gI e2,h1,q⟩
 . exact h.elim
theorem br {K:Frag} {H:Hp} {p:Addr} {xs:List V} (h:H p=some (.lst xs)):tyV K "list" (.ref p) H:=.inl ⟨rfl,_,SqL.of h⟩
def cSl:V->Option Int->Option Int->Hp->VK->Prop
 | .ref p,lo,hi,H,Q=>bnd (unL (H p)) fun xs=>∀ l,H l=none->Q (.ref l) (upd H l (.lst (cutV xs lo hi)))
 | _,_,_,_,_=>False
theorem BM:SlR X cSl:=by
 intro pins s σ H x v vl vu lo hi sl Q I rx hs pl pu h
 unfold cSl at h
 split at h
 . obtain ⟨xs,e,q⟩:=aW h
   exact zO pins s σ H _ v vl vu lo hi sl Q I rx hs pl pu ⟨_,xs,rfl,lS e,q⟩
 . exact h.elim
end
structure Cal (P:Program) (w:World) (K:Frag) (mg:Str->Option Value) (base:Heap) (k:Nat) (x:Str) (ps:List Str) (sp:Sp):Prop where
 ex:∃ (f:Addr) (fd:FuncData),FnOk P w K mg base CX0 k f fd ps sp/\mg x=some (.ref f)/\PySem.W.keepIn K (.ref f)=true/\Binds K fd ps []
theorem au {X:Cx} {k n:Nat} {x:Str} {ps:List Str} {sp:Sp} {p pos:Pos} {e:Expr} {es:List Expr} {t:TA} (C:Cal X.prog X.w X.K X.mg X.base k x ps sp) (hr:Room n X.A) (hk:k<=n) (hg:Gl X x) (ha:PA X (e::es) t)
  (hdb:(x==("__debug__":Str))=false:=by decide) (he:starEach (e::es) X.env=(false,eval e X.env)::starEach es X.env:=by rfl) (hpl:(backTo pos (starEach es X.env)).any (·.1)=false:=by rfl):
  PE X (.Call (.Name x p) (e::es) [] pos) (tCall sp [] E0 t):=by
 obtain ⟨f,fd,F,hm,hkp,hb⟩:=C.ex
 exact zL F (hr.mono hk) hg hm hkp hb .nil sY ha hdb he hpl
end L2
namespace L2
open PySem PySem.Spec PyProof.Rows
theorem aO:bootBuiltins "len"=some (.builtin "len"):=by decide+kernel
theorem AR:bootBuiltins "max"=some (.builtin "max"):=by decide+kernel
theorem xE:bootBuiltins "sorted"=some (.builtin "sorted"):=by decide+kernel
theorem AS:bootBuiltins "any"=some (.builtin "any"):=by decide+kernel
theorem bE:bootBuiltins "isinstance"=some (.builtin "isinstance"):=by decide+kernel
theorem gc:bootBuiltins "list"=some (.type "list"):=by decide+kernel
theorem tT:bootBuiltins "int"=some (.type "int"):=by decide+kernel
theorem vG:bootBuiltins "bool"=some (.type "bool"):=by decide+kernel
theorem tU:bootBuiltins "str"=some (.type "str"):=by decide+kernel
theorem l6:bootBuiltins "tuple"=some (.type "tuple"):=by decide+kernel
def compN (scope:Scope):List Str:=(scope.names.filter fun p=>p.2==.local||p.2==.cell||p.2==.free).map (·.1)
def pK (N:List Str) (scope:Scope):List (Option Nat):=(compN scope).map fun x=>if scope.names.lookup x==some .free then N.findIdx? (· ==x) else none
def isCF:Option NameKind->Bool
 | some .cell=>true
 | some .free=>true
 | _=>false
theorem AT {X:Cx} {scope:Scope} (h1:scope.kind=.function) (h2:(scope.names.map (·.1)).Nodup) (h3:(scope.names.all fun p=>p.2 != .free||isCF (X.env.kindOf p.1))=true):BlkOk X (compN scope) (pK X.N scope) scope where
 kind:=h1
 nd:=h2.sublist (List.Sublist.map _ (List.filter_sublist ..))
 len:=by unfold pK; rw [List.length_map]
 names:=h2
 free:=fun x hx=>by
  have:=List.all_eq_true.mp h3 (x,.free) hx
  simp only [bne_self_eq_false,Bool.false_or] at this
  unfold isCF at this
  split at this
  . rename_i e; exact .inl e
  . rename_i e; exact .inr e
  . cases this
 at_:=fun j i x e1 e2=>by
  unfold pK at e2
  rw [List.getElem?_map,e1] at e2
  simp only [Option.map_some,Option.some.injEq] at e2
  split at e2
  . rename_i hf
    obtain ⟨hlt,hp,_⟩:=List.findIdx?_eq_some_iff_getElem.mp e2
    have hx:X.N[i]? =some x:=by
     rw [List.getElem?_eq_getElem hlt]
     have:X.N[i]=x:=by simpa using hp
     rw [this]
    refine ⟨hx,PySem.mem_of_lookup (by simpa using hf)⟩
  . cases e2
end L2
namespace L2
open PySem PySem.Spec PyProof.Rows
section
variable {t u:TS} {D:Ends} {σ:St} {H:Hp} {Q:VK} {ta tb:TE} {R:Bool->Hp->Prop} {c d:TT}
theorem aL:tSeq t u D σ H=t { D with nx:=u D } σ H:=rfl
theorem dj:tNext D σ H=D.nx σ H:=rfl
theorem fu {g:TG}:tAsg ta g D σ H=ta σ H fun x H1=>g x σ H1 D.nx:=rfl
theorem bo {i:Nat} {v:V} {k:St->Hp->Prop}:gName i v σ H k=k (σ.set i (some v)) H:=rfl
theorem gd {i:Nat}:tVar i σ H Q=∃ v,σ[i]? =some (some v)/\Q v H:=rfl
theorem w_c {v:V}:tC v σ H Q=Q v H:=rfl
theorem jK {r:R2}:tOp r ta tb σ H Q=ta σ H fun x H1=>tb σ H1 fun y H2=>r x y H2 Q:=rfl
theorem dD:tRet ta D σ H=ta σ H D.rt:=rfl
theorem ei:tRetN D σ H=D.rt .non H:=rfl
theorem dk:tDrop ta D σ H=ta σ H fun _ H1=>D.nx σ H1:=rfl
theorem aI:tIfS c t u D σ H=c σ H fun b H1=>if b=true then t D σ H1 else u D σ H1:=rfl
theorem eE:tTest ta σ H R=ta σ H fun x H'=>∃ k,x=.bl k/\R k H':=rfl
theorem w_b:tB ta σ H R=ta σ H fun x H'=>∃ k,x=.bl k/\R k H':=rfl
theorem w_not:tNot c σ H R=c σ H fun k H1=>R (!k) H1:=rfl
theorem gM:tAnd c d σ H R=c σ H fun k H1=>if k=true then d σ H1 R else R false H1:=rfl
theorem kl:tOr c d σ H R=c σ H fun k H1=>if k=true then R true H1 else d σ H1 R:=rfl
theorem eF:tNotV ta σ H Q=ta σ H fun x H1=>∃ c,x=.bl c/\Q (.bl (!c)) H1:=rfl
theorem eI:tAndV ta tb σ H Q=ta σ H fun x H1=>∃ c,x=.bl c/\if c=true then tb σ H1 Q else Q (.bl false) H1:=rfl
theorem gN:tOrV ta tb σ H Q=ta σ H fun x H1=>∃ c,x=.bl c/\if c=true then Q (.bl true) H1 else tb σ H1 Q:=rfl
theorem gf {k:List V->Hp->Prop}:tNil σ H k=k [] H:=rfl
theorem dl {tr:TA} {k:List V->Hp->Prop}:tCons ta tr σ H k=ta σ H fun x H1=>tr σ H1 fun xs H2=>k (x::xs) H2:=rfl
theorem km {r:List V->Hp->VK->Prop} {tr:TA}:tCB r tr σ H Q=tr σ H fun vs H1=>r vs H1 Q:=rfl
theorem eJ {sp:Sp} {dvs:List V} {E:XK} {tr:TA}:tCall sp dvs E tr σ H Q=tr σ H fun vs H1=>sp (vs++dvs) H1 Q E:=rfl
theorem gO {tr:TA}:tTup tr σ H Q=tr σ H fun xs H1=>xs.length<=sizeLine/\∀ p,H1 p=none->Q (.ref p) (upd H1 p (.tup xs)):=rfl
theorem gg {tr:TA}:tLst tr σ H Q=tr σ H fun xs H1=>xs.length<=sizeLine/\∀ p,H1 p=none->Q (.ref p) (upd H1 p (.lst xs)):=rfl
theorem jL {K:Frag} {T:String} {r:V->List V->Hp->VK->Prop} {tr:TA}:tBM K T r ta tr σ H Q=ta σ H fun x H1=>tyV K T x H1/\tr σ H1 fun xs H2=>r x xs H2 Q:=rfl
theorem gP {K:Frag} {T:String} {r:V->List V->Hp->VK->Prop}:tL K T r ta σ H Q=ta σ H fun x H1=>tyV K T x H1/\r x [] H1 Q:=rfl
theorem eK:tTrue σ H R=R true H:=rfl
theorem eM:AL σ H Q=∀ p,H p=none->Q (.ref p) (upd H p (.dK [])):=rfl
theorem eP {td ty tv:TE}:sDPut td ty tv D σ H=tv σ H fun v H1=>td σ H1 fun x H2=>ty σ H2 fun y H3=>∃ a H4,x=.ref a/\DPut H3 a y v H4/\D.nx σ H4:=rfl
theorem gQ {i j:Int}:cAdd (.int i) (.int j) H Q=Q (.int (i+j)) H:=rfl
theorem gR {i j:Int}:cSub (.int i) (.int j) H Q=Q (.int (i-j)) H:=rfl
theorem gS {i j:Int}:cMul (.int i) (.int j) H Q=(CMul i j/\Q (.int (i*j)) H):=rfl
theorem gU {i j:Int}:cDiv (.int i) (.int j) H Q=(CDiv i j/\Q (.int (i/j)) H):=rfl
theorem gW {i j:Int}:cMod (.int i) (.int j) H Q=(0<j/\Q (.int (i%j)) H):=rfl
theorem gX {g:Int->Int->Bool} {i j:Int}:cCmp g (.int i) (.int j) H Q=Q (.bl (g i j)) H:=rfl
theorem gY {K:Frag} {i j:Int}:cEq K (.int i) (.int j) H Q=Q (.bl (decide (i=j))) H:=rfl
theorem gZ {K:Frag} {i j:Int}:cNe K (.int i) (.int j) H Q=Q (.bl (!decide (i=j))) H:=rfl
theorem g7 {K:Frag} {i j:Bool}:cEq K (.bl i) (.bl j) H Q=Q (.bl (decide (i=j))) H:=rfl
theorem g8 {K:Frag} {i j:Bool}:cNe K (.bl i) (.bl j) H Q=Q (.bl (!decide (i=j))) H:=rfl
theorem iz {p:Addr} {i:Int} {xs:List V} (h:H p=some (.tup xs)):cIx (.ref p) (.int i) H Q=bnd (atI xs i) fun v=>Q v H:=by
 unfold cIx; dsimp only; rw [h]; rfl
theorem zx {p:Addr} {i:Int} {xs:List V} (h:H p=some (.lst xs)):cIx (.ref p) (.int i) H Q=bnd (atI xs i) fun v=>Q v H:=by
 unfold cIx; dsimp only; rw [h]; rfl
theorem g9 {i:Int}:kAbs [.int i] H Q=Q (.int (if i<0 then -i else i)) H:=rfl
theorem hV {i j:Int}:kMin [.int i,.int j] H Q=Q (.int (if j<i then j else i)) H:=rfl
theorem bc {p:Addr} {xs:List V} (h:H p=some (.lst xs)):kLen [.ref p] H Q=Q (.int xs.length) H:=by
 unfold kLen; dsimp only; rw [h]; rfl
theorem xG {p:Addr} {xs:List V} (h:H p=some (.tup xs)):kLen [.ref p] H Q=Q (.int xs.length) H:=by
 unfold kLen; dsimp only; rw [h]; rfl
theorem c9 {p:Addr} {xs:List V} {y:V} (h:H p=some (.lst xs)):bm (.ref p) [y] H Q=(xs.length<sizeLine/\Q .non (upd H p (.lst (xs++[y])))):=by
 unfold bm; dsimp only; rw [h]; rfl
theorem mY:∀ ns:List Int,(ns.map V.int).all flatV=true
 | []=>rfl
 | n::r=>by rw [List.map_cons,List.all_cons,mY r]; rfl
theorem oG (i:Int):∀ ns:List Int,inV (.int i) (ns.map V.int)=decide (i∈ns)
 | []=>by simp [inV]
 | n::r=>by
  have ih:=oG i r
  unfold inV at ih ⊢
  rw [List.map_cons,List.any_cons,ih]
  show ((n==i)||decide (i∈r))=decide (i∈n::r)
  rw [Bool.eq_iff_iff,Bool.or_eq_true,beq_iff_eq,decide_eq_true_eq,decide_eq_true_eq,List.mem_cons]
  exact ⟨fun h=>h.elim (fun e=>.inl e.symm) .inr,fun h=>h.elim (fun e=>.inl e.symm) .inr⟩
theorem l7 {K:Frag} {p:Addr} {i:Int} {ns:List Int} (h:H p=some (.lst (ns.map V.int))):cIn K false (.int i) (.ref p) H Q=Q (.bl (decide (i∈ns))) H:=by
 unfold cIn; dsimp only; rw [h]; dsimp only [unD,unS,bnd]
 rw [oG,mY]
 simp [flatV]
theorem we {K:Frag} {p:Addr} {i:Int} {ns:List Int} (h:H p=some (.lst (ns.map V.int))):cIn K true (.int i) (.ref p) H Q=Q (.bl (!decide (i∈ns))) H:=by
 unfold cIn; dsimp only; rw [h]; dsimp only [unD,unS,bnd]
 rw [oG,mY]
 simp [flatV]
end
def LoopR (J:It) (g:TG) (tb:TS) (D:Ends) (σ:St) (H1:Hp):Prop:=∃ W:Nat->Nat->St->Hp->Prop,(∃ m,W 0 m σ H1)/\∀ i m σ H,W i m σ H->
 (J.stop i H/\D.nx σ H)\/(J.go i H/\∃ N:St->Hp->Prop,(∀ σ' H',N σ' H'->∃ m',m'<m/\W (i+1) m' σ' H')/\∀ x H',J.yld i H x H'->g x σ H' fun σ2 H2=>tb { D with nx:=N,ct:=N,bk:=D.nx } σ2 H2)
def CompR (J:It) (g:TG) (tt:TT) (te:TE) (fin:Addr->Hp->Prop) (σ0:St) (H1:Hp):Prop:=∀ l,H1 l=none->
 ∃ W:Nat->Nat->St->Hp->Prop,(∃ m,W 0 m σ0 (upd H1 l (.lst [])))/\∀ i m σ' H',W i m σ' H'->
  (J.stop i H'/\fin l H')\/(J.go i H'/\∃ N:St->Hp->Prop,(∀ σ'' H'',N σ'' H''->∃ m',m'<m/\W (i+1) m' σ'' H'')/\∀ x H2,J.yld i H' x H2->g x σ' H2 fun σ2 H3=>tt σ2 H3 fun b H4=>
   if b=true then te σ2 H4 fun y H5=>∃ ys,H5 l=some (.lst ys)/\ys.length<sizeLine/\N σ2 (upd H5 l (.lst (ys++[y]))) else N σ2 H4)
section
variable {K:Frag} {g:TG} {tb:TS} {D:Ends} {σ:St} {H:Hp} {tl:TE} {ta:TA} {ix:List (Option Nat)} {tt:TT} {te:TE} {k:Nat} {Q:VK}
theorem eQ:tFor (iList K tl) g tb D σ H=tl σ H fun x H1=>∃ a,x=.ref a/\(∃ xs,SqL K H1 a xs)/\LoopR (Itl K a) g tb D σ H1:=rfl
theorem cM:tFor (gK ta) g tb D σ H=ta σ H fun vs H1=>∃ j:Int,vs=[.int j]/\ -(2^62)<=j/\j<2^62/\LoopR (Itr 0 j.toNat) g tb D σ H1:=rfl
theorem cN:tFor (l0 ta) g tb D σ H=ta σ H fun vs H1=>∃ i j:Int,vs=[.int i,.int j]/\(-(2^62)<=i/\i<2^62/\ -(2^62)<=j/\j<2^62)/\LoopR (Itr i (j-i).toNat) g tb D σ H1:=rfl
theorem cy:tComp ix (iList K tl) g tt te σ H Q=tl σ H fun x H1=>∃ a,x=.ref a/\(∃ xs,SqL K H1 a xs)/\CompR (Itl K a) g tt te (fun l H'=>Q (.ref l) H') (subσ ix σ) H1:=rfl
theorem b9:tComp ix (gK ta) g tt te σ H Q=ta σ H fun vs H1=>∃ j:Int,vs=[.int j]/\ -(2^62)<=j/\j<2^62/\CompR (Itr 0 j.toNat) g tt te (fun l H'=>Q (.ref l) H') (subσ ix σ) H1:=rfl
theorem cb:sComp k ix (iList K tl) g tt te D σ H=tl σ H fun x H1=>∃ a,x=.ref a/\(∃ xs,SqL K H1 a xs)/\CompR (Itl K a) g tt te (fun l H'=>D.nx (σ.set k (some (.ref l))) H') (subσ ix σ) H1:=rfl
theorem bF:sComp k ix (gK ta) g tt te D σ H=ta σ H fun vs H1=>∃ j:Int,vs=[.int j]/\ -(2^62)<=j/\j<2^62/\CompR (Itr 0 j.toNat) g tt te (fun l H'=>D.nx (σ.set k (some (.ref l))) H') (subσ ix σ) H1:=rfl
theorem pL {lo:Int} {n:Nat} {fin:Addr->Hp->Prop} {σ0:St} {H1:Hp} (Pv:Addr->Nat->St->Hp->Prop) (h0:∀ l,H1 l=none->Pv l 0 σ0 (upd H1 l (.lst [])))
  (hs:∀ l i σ H,H1 l=none->i<n->Pv l i σ H->g (.int (lo+i)) σ H fun σ2 H3=>tt σ2 H3 fun b H4=>if b=true then te σ2 H4 fun y H5=>∃ ys,H5 l=some (.lst ys)/\ys.length<sizeLine/\Pv l (i+1) σ2 (upd H5 l (.lst (ys++[y]))) else Pv l (i+1) σ2 H4)
  (hd:∀ l σ H,H1 l=none->Pv l n σ H->fin l H):CompR (Itr lo n) g tt te fin σ0 H1:=by
 intro l hl0
 refine ⟨fun i m σ H=>m=n-i/\i<=n/\Pv l i σ H,⟨n,by simp,Nat.zero_le _,h0 l hl0⟩,?_⟩
 rintro i m σ H ⟨rfl,hi,p⟩
 by_cases hlt:i<n
 . refine .inr ⟨hlt,Pv l (i+1),fun σ' H' p'=>⟨n - (i+1),by omega,rfl,hlt,p'⟩,fun x H' y=>?_⟩
   obtain ⟨e,y⟩:=y
   subst e y
   exact hs l i σ _ hl0 hlt p
 . have e:i=n:=by omega
   subst e
   exact .inl ⟨Nat.le_refl _,hd l σ H hl0 p⟩
theorem mZ {a:Addr} {xs:List V} {fin:Addr->Hp->Prop} {σ0:St} {H1:Hp} (Pv:Addr->Nat->St->Hp->Prop) (h0:∀ l,H1 l=none->Pv l 0 σ0 (upd H1 l (.lst []))) (hq:∀ l i σ H,H1 l=none->i<=xs.length->Pv l i σ H->SqL K H a xs)
  (hs:∀ l i x σ H,H1 l=none->xs[i]? =some x->Pv l i σ H->g x σ H fun σ2 H3=>tt σ2 H3 fun b H4=>if b=true then te σ2 H4 fun y H5=>∃ ys,H5 l=some (.lst ys)/\ys.length<sizeLine/\Pv l (i+1) σ2 (upd H5 l (.lst (ys++[y]))) else Pv l (i+1) σ2 H4)
  (hd:∀ l σ H,H1 l=none->Pv l xs.length σ H->fin l H):CompR (Itl K a) g tt te fin σ0 H1:=by
 intro l hl0
 refine ⟨fun i m σ H=>m=xs.length-i/\i<=xs.length/\Pv l i σ H,⟨xs.length,by simp,Nat.zero_le _,h0 l hl0⟩,?_⟩
 rintro i m σ H ⟨rfl,hi,p⟩
 have q:=hq l i σ H hl0 hi p
 by_cases hlt:i<xs.length
 . refine .inr ⟨⟨xs,xs[i],q,by simp [hlt]⟩,Pv l (i+1),fun σ' H' p'=>⟨xs.length - (i+1),by omega,rfl,hlt,p'⟩,fun x H' y=>?_⟩
   obtain ⟨e,y⟩:=y
   subst e
   exact hs l i x σ _ hl0 (y xs q) p
 . have e:i=xs.length:=by omega
   subst e
   exact .inl ⟨⟨xs,q,Nat.le_refl _⟩,hd l σ H hl0 p⟩
theorem sZ {p q:Addr} {xs ys:List Int} (hp:H p=some (.lst (xs.map V.int))) (hq:H q=some (.lst (ys.map V.int))) (h:Q (.bl (decide (xs=ys))) H):cEq K (.ref p) (.ref q) H Q:=by
 show rEqD K (.ref p) (.ref q) H Q
 refine ⟨.list (xs.map PyData.int),.list (ys.map PyData.int),.lst (SqL.of hp) (.ints xs),.lst (SqL.of hq) (.ints ys),j4 xs,j4 ys,?_⟩
 rw [PyData.eqv,oC]
 exact h
theorem tm {p q:Addr} {xs ys:List Int} (hp:H p=some (.lst (xs.map V.int))) (hq:H q=some (.lst (ys.map V.int))) (h:Q (.bl (!decide (xs=ys))) H):cNe K (.ref p) (.ref q) H Q:=by
 show rNeD K (.ref p) (.ref q) H Q
 refine ⟨.list (xs.map PyData.int),.list (ys.map PyData.int),.lst (SqL.of hp) (.ints xs),.lst (SqL.of hq) (.ints ys),j4 xs,j4 ys,?_⟩
 rw [PyData.eqv,oC]
 exact h
theorem m3 {p:Addr} {xs:List V} (hp:H p=some (.lst xs)) (h:∀ l,H l=none->Q (.ref l) (upd H l (.lst xs))):kList [.ref p] H Q:=by
 unfold kList
 dsimp only
 rw [hp]
 exact h
end
theorem aQ {X:Cx} {N:List Str} {ix:List (Option Nat)} {scope:Scope} (h1:scope.kind=.function) (h2:(scope.names.map (·.1)).Nodup) (h3:(scope.names.all fun p=>p.2 != .free||isCF (X.env.kindOf p.1))=true) (h4:N=compN scope) (h5:ix=pK X.N scope):BlkOk X N ix scope:=by
 subst h4 h5
 exact AT h1 h2 h3
def kLenS (K:Frag):List V->Hp->VK->Prop:=fun xs H Q=>∃ p ys,xs=[.ref p]/\(SqL K H p ys\/SqT K H p ys)/\Q (.int ys.length) H
structure Bt (mg:Str->Option Value):Prop where
 len_:mg "len"=none
 abs_:mg "abs"=none
 min_:mg "min"=none
 max_:mg "max"=none
 sorted_:mg "sorted"=none
 any_:mg "any"=none
 isinstance_:mg "isinstance"=none
 list_:mg "list"=none
 int_:mg "int"=none
 bool_:mg "bool"=none
 str_:mg "str"=none
 tuple_:mg "tuple"=none
 reversed_:mg "reversed"=none
 set_:mg "set"=none
 range_:mg "range"=none
 zip_:mg "zip"=none
end L2
namespace L2
open PySem PySem.Spec PyProof.Rows
theorem Vals.get':∀ {xs:List V} {us:List Value} {i:Nat} {u:Value},Vals xs us->us[i]? =some u->∃ x,xs[i]? =some x/\RelV x u
 | _,_,_,_,.nil,h=>by simp at h
 | _,_,0,_,.cons r _,h=>by simp at h; subst h; exact ⟨_,rfl,r⟩
 | _,_,i+1,_,.cons _ t,h=>by
  obtain ⟨x,hx,r⟩:=Vals.get' (i:=i) t (by simpa using h)
  exact ⟨x,by simpa using hx,r⟩
section
variable {X:Cx} {pins:List (Addr × Obj)} {σ:St} {H:Hp} {s s':Shared}
theorem Inv.kept' (I:Inv X pins σ H s) (k:∀ b u,s.heap.get? b=some u->s'.heap.get? b=some u) (ho:s'.os=s.os) (hg:AllBare s'.gens):Inv X pins σ H s':=
 I.call' (ch:=[]) ho (Un.kept k) (I.hok.kept k) hg fun b z=>absurd z (by simp)
theorem Inv.walked {l:Addr} {o:Obj} (I:Inv X pins σ H s) (hm:Moved [s.heap.objs.size] (fun a b=>b=a) { s with heap:=s.heap.push o } s'):Inv X pins σ H s':=by
 refine I.kept' (fun b u e=>hm.heap b u (fun z=>?_) (Heap.get?_push_of_some _ e)) hm.os (by rw [show s'.gens=s.gens from hm.gens]; exact I.bare)
 have:b=s.heap.objs.size:=by simpa using z
 exact absurd (Heap.lt_size e) (by rw [this]; exact Nat.lt_irrefl _)
def kAny:List V->Hp->VK->Prop
 | [.ref p],H,Q=>bnd (unL (H p)) fun ys=>∃ bs:List Bool,ys=bs.map V.bl/\Q (.bl (bs.any id)) H
 | _,_,_=>False
theorem xH (bs:List Bool):(List.range bs.length).any (fun i=>bs.getD i false)=bs.any id:=by
 rw [Bool.eq_iff_iff,List.any_eq_true,List.any_eq_true]
 constructor
 . rintro ⟨i,hi,h⟩
   have hi':i<bs.length:=List.mem_range.mp hi
   exact ⟨bs[i],List.getElem_mem hi',by simpa [List.getD,hi'] using h⟩
 . rintro ⟨b,hb,h⟩
   obtain ⟨i,hi,e⟩:=List.mem_iff_getElem.mp hb
   refine ⟨i,List.mem_range.mpr hi,?_⟩
   have h':b=true:=h
   rw [List.getD,List.getElem?_eq_getElem hi,e]
   exact h'
theorem xI (hc:X.calm=true):CallR X (.builtin "any") kAny:=by
 intro pins s σ H xs us Q I r h
 unfold kAny at h
 split at h
 . rename_i p
   obtain ⟨ys,e,bs,rfl,q⟩:=aW h
   obtain ⟨u,rfl,ru⟩:=cV r
   cases ru
   obtain ⟨its,rv,pl,hz⟩:=I.list (lS e)
   have hl:=rv.length
   rw [List.length_map] at hl
   have hlt:p<s.heap.objs.size:=by
    obtain ⟨o,h1,_⟩:=pl.isList
    exact Heap.lt_size h1
   refine call_any_walkS (wpAny_pyIter_list pl.isList ?_)
   refine ⟨s.heap.objs.size,_,_,_,its.toArray.size,_,_,fun i=>bs.getD i false,rfl,(Walks.list (A:=X.A.in1) (I.ok.hd hc) s.heap.objs.size p (Nat.ne_of_lt hlt) its.toArray).toS,⟨⟨_,Heap.get?_push_size _ rfl,rfl,rfl⟩,pl.isList.push _⟩,?_,fun s' hm=>?_⟩
   . intro i v s1 Q1 E1 hP hQ
     have hv:its[i]? =some v:=by simpa using hP
     obtain ⟨x,hx,rx⟩:=rv.get' hv
     obtain ⟨b,hb,rfl⟩:∃ b,bs[i]? =some b/\V.bl b=x:=by simpa using hx
     cases rx
     refine wpAny_truthy_bool ?_
     have e3:bs.getD i false=b:=by simp [List.getD,hb]
     rw [← e3]
     exact hQ
   . refine ⟨.bl _,H,I.walked (l:=p) hm,?_,q⟩
     have e2:its.toArray.size=bs.length:=by rw [List.size_toArray]; exact hl.symm
     rw [e2,xH]
     rfl
 . exact h.elim
theorem AU {h:Heap} {a b:Addr} {o u:Obj} {c d:String} (ha:h.get? a=some o) (hb:h.get? b=some u) (hc:o.cls=.type c) (hd:u.cls=.type d) (ne:c≠d):a≠b:=by
 rintro rfl; rw [ha] at hb; cases hb; rw [hc] at hd; cases hd; exact ne rfl
end
end L2
namespace L2
open PySem PySem.Spec PyProof.Rows
open Builtin Builtin.Str
theorem qQ:∀ {ts:List Str} {us:List Value},Vals (ts.map V.str) us->∃ l:List (Str × Tok),us=strValues l/\l.map (·.1)=ts
 | [],_,.nil=>⟨[],rfl,rfl⟩
 | t::ts,_,.cons r rs=>by
  obtain ⟨l,rfl,e⟩:=qQ (ts:=ts) rs
  obtain ⟨u,rfl⟩:=r
  exact ⟨(t,u)::l,rfl,by rw [List.map_cons,e]⟩
theorem rQ:∀ (l:List (Str × Tok)),Vals ((l.map (·.1)).map V.str) (strValues l)
 | []=>.nil
 | (t,u)::l=>.cons ⟨u,rfl⟩ (rQ l)
section
variable {X:Cx}
def kFind:V->List V->Hp->VK->Prop
 | .str x,[.str y],H,Q=>Q (.int (Txt.find x y)) H
 | _,_,_,_=>False
def pM:V->List V->Hp->VK->Prop
 | .str x,[.str y],H,Q=>(y.length==0)=false/\x.length<=sizeLine/\(Txt.split x y).length<=sizeLine/\∀ l,H l=none->Q (.ref l) (upd H l (.lst ((Txt.split x y).map V.str)))
 | _,_,_,_=>False
theorem xJ:MtR X "str.split" pM:=by
 intro pins s σ H x vs v us Q I rx rv h
 unfold pM at h
 split at h
 . rename_i x y
   obtain ⟨t,rfl⟩:=rx
   obtain ⟨u,rfl,ru⟩:=cV rv
   obtain ⟨t2,rfl⟩:=ru
   obtain ⟨hy,hx,hn,q⟩:=h
   have fin:∀ (l:List (Str × Tok)) (k:Nat),l.map (·.1)=Txt.split x y->EP X pins σ Q (.ref s.heap.objs.size) { s with heap:=s.heap.push { cls:=.type "list",data:=.seq (strValues l).toArray },toks:=k }:=fun l k e=>by
    refine ⟨.ref s.heap.objs.size,_,I.lnew (t':=k) (ys:=(Txt.split x y).map V.str) (its:=strValues l) ?_ (by rw [List.length_map]; exact hn),rfl,q _ I.fresh⟩
    rw [← e]
    exact rQ l
   cases h1:(decide (x.length<y.length)||decide (strKind x<strKind y))
   . cases hf:(occurrences x y 0 x.length (x.length+1)).isEmpty
     . have e3:Txt.split x y=partsBetween x (occurrences x y 0 x.length (x.length+1)) y.length:=(if_neg (ne_true_of_eq_false h1)).trans (if_neg (ne_true_of_eq_false hf))
       refine call_meets F.slot_str_split (typeIs_str _ _ _) F.entry_str_split (F.args_str_split_2 _ _) (meets_str_split_sep x y t t2 h1 hy hf hx (by rw [← e3]; exact hn)) ?_
       show wants _ _ _ { s with toks:=_,heap:=s.heap.push { cls:=.type "list",data:=.seq (strsFrom s.toks (partsBetween x (occurrences x y 0 x.length (x.length+1)) y.length)).toArray } }
       rw [strsFrom_eq]
       exact fin (numbered s.toks _) _ ((numbered_texts _ _).trans e3.symm)
     . exact call_meets F.slot_str_split (typeIs_str _ _ _) F.entry_str_split (F.args_str_split_2 _ _) (meets_str_split_not_found x y t t2 h1 hy hf)
        (fin [(x,t)] s.toks ((if_neg (ne_true_of_eq_false h1)).trans (if_pos hf)).symm)
   . exact call_meets F.slot_str_split (typeIs_str _ _ _) F.entry_str_split (F.args_str_split_2 _ _) (meets_str_split_cannot_occur x y t t2 h1)
      (fin [(x,t)] s.toks (if_pos h1).symm)
 . exact h.elim
def jM:V->Option Int->Option Int->Hp->VK->Prop
 | .ref p,lo,hi,H,Q=>cSl (.ref p) lo hi H Q
 | .str z,lo,hi,H,Q=>z.length<=sizeLine/\Q (.str (Txt.slice z lo hi)) H
 | _,_,_,_,_=>False
theorem kA:SlR X jM:=by
 intro pins s σ H x v vl vu lo hi sl Q I rx hs pl pu h
 cases x with
 | ref p=>exact BM pins s σ H _ v vl vu lo hi sl Q I rx hs pl pu h
 | str z=>
  obtain ⟨hz,q⟩:=(show z.length<=sizeLine/\Q (.str (Txt.slice z lo hi)) H from h)
  obtain ⟨t,rfl⟩:=rx
  have fin:∀ t' k,EP X pins σ Q (.str (Txt.slice z lo hi) t') { s with toks:=k }:=fun t' k=>⟨.str _,H,I.tok k,⟨t',rfl⟩,q⟩
  refine ⟨"str",_,F.slot_str_getitem.lookup,typeIs_str _ _ _,?_⟩
  cases pl with
  | none=>
   cases pu with
   | none=>exact wpAny_getItem_str_slice (l:=none) (u:=none) (st:=none) hs rfl (post_val_or_str ⟨Nat.le_trans (Txt.slice_le z _ _) hz,fin⟩)
   | int j tj=>exact wpAny_getItem_str_slice (l:=none) (u:=some (j,tj)) (st:=none) hs rfl (post_val_or_str ⟨Nat.le_trans (Txt.slice_le z _ _) hz,fin⟩)
  | int i ti=>
   cases pu with
   | none=>exact wpAny_getItem_str_slice (l:=some (i,ti)) (u:=none) (st:=none) hs rfl (post_val_or_str ⟨Nat.le_trans (Txt.slice_le z _ _) hz,fin⟩)
   | int j tj=>exact wpAny_getItem_str_slice (l:=some (i,ti)) (u:=some (j,tj)) (st:=none) hs rfl (post_val_or_str ⟨Nat.le_trans (Txt.slice_le z _ _) hz,fin⟩)
 | _=>exact False.elim h
def Its (x:Str):It:=⟨fun i _=>i<x.cps.size,fun i H v H'=>H'=H/\∃ c,x.cps[i]? =some c/\v=.str ⟨#[c]⟩,fun i _=>x.cps.size<=i⟩
theorem tV {P:Program} {w:World} {K:Frag} {tg:Expr} {x:Str} {t:Tok} (it:Addr) (ty:String) (hty:["enumerate","zip","dict_itemiterator","dict_reverseitemiterator","odict_iterator","itertools.zip_longest","itertools.pairwise"].contains ty=false)
  (W:∀ A:Around,A.handled=none->Walks P w A it [it] [it] x.cps.size (SignAt x) (fun i h=>h.IsStrIter it ty x t i))
  (slf:∀ (A:Around) (i:Nat) (s:Shared) (Q:Value->Shared->Prop) (E:Value->Shared->Prop),s.heap.IsStrIter it ty x t i->Q (.ref it) s->wpAny (model P w) A (pyIter (.ref it)) Q E s):
  Turn P w K tg (Its x) [it] it (fun i h=>i<=x.cps.size/\h.IsStrIter it ty x t i) where
 mem:=by simp
 obj:=fun i h st b hb=>by
  have e:b=it:=by simpa using hb
  subst e
  obtain ⟨_,o,e,c,d⟩:=st
  exact ⟨o,e,fun v z=>by rw [d] at z; cases z⟩
 keep:=fun i h h' st k=>by
  obtain ⟨hi,o,e,c,d⟩:=st
  exact ⟨hi,o,k it (by simp) o e,c,d⟩
 item:=by
  intro X hP hw hK hc i pins s σ H E I hf st hg
  subst hP hw hK
  obtain ⟨f0,f1,f2,f3,f4,f5⟩:=hf it (by simp)
  have hlt:i<x.cps.size:=hg
  refine (W X.A (I.ok.hd hc)).item i s _ _ hlt st.2 fun v h' tk hv st' kk=>?_
  obtain ⟨c,u,hcu,rfl⟩:=hv
  have I1:Inv X pins σ H { s with heap:=h',toks:=tk }:=I.turned (fun b o hb e=>kk b o (by simpa using hb) e) f0 f1 f3 f4 f5
  obtain ⟨o,e,c',d⟩:=id st'
  exact ⟨_,rfl,sX (s:={ s with heap:=h',toks:=tk }) e c' d hty ⟨.str ⟨#[c]⟩,H,I1,⟨u,rfl⟩,⟨rfl,c,hcu,rfl⟩,⟨hlt,st'⟩,fun b hb=>(hf b hb).1⟩⟩
 done:=by
  intro X hP hw hK hc i pins s σ H E I hf st hg
  subst hP hw hK
  obtain ⟨f0,f1,f2,f3,f4,f5⟩:=hf it (by simp)
  have hle:x.cps.size<=i:=hg
  have e:i=x.cps.size:=Nat.le_antisymm st.1 hle
  subst e
  exact (W X.A (I.ok.hd hc)).done s _ _ st.2 fun h' tk kk=>⟨rfl,I.turned (fun b o hb e=>kk b o (by simpa using hb) e) f0 f1 f3 f4 f5⟩
 self:=fun A i s Q E st h=>slf A i s Q E st.2 h
def iStr (tl:TE):TI:=fun σ H R=>tl σ H fun x H1=>∃ z,x=.str z/\R (Its z) H1
theorem AV {tg l:Expr} {tl:TE} (hl:PE X l tl):PI X tg l (iStr tl):=by
 intro pins s σ H R I h
 refine thn (hl pins s σ H _ I h) fun v s1 ⟨x,H1,I1,r1,q1⟩=>?_
 obtain ⟨z,rfl,q⟩:=q1
 obtain ⟨t,rfl⟩:=r1
 have fin:∀ b∈[s1.heap.objs.size],FpOk X pins H1 b:=fun b hb=>by
  have e:b=s1.heap.objs.size:=by simpa using hb
  subst e
  exact I1.fpOk (Nat.le_refl _) (I1.hok.fresh (Nat.le_refl _))
 cases ha:z.cps.all (· < 128)
 . refine wpAny_pyIter_wide ha ⟨s1.heap.objs.size,[s1.heap.objs.size],_,Its z,H1,rfl,I1.kept (t':=s1.toks) fun b o e=>Heap.get?_push_of_some _ e,tV (t:=t) _ "str_iterator" (by decide) (fun A' hA=>Walks.strWide hA _ z t) (fun A i s Q E st hq=>wpAny_pyIter_striter_wide st hq),⟨Nat.zero_le _,_,Heap.get?_push_size _ rfl,rfl,rfl⟩,fin,q⟩
 . refine wpAny_pyIter_ascii ha ⟨s1.heap.objs.size,[s1.heap.objs.size],_,Its z,H1,rfl,I1.kept (t':=s1.toks) fun b o e=>Heap.get?_push_of_some _ e,tV (t:=t) _ "str_ascii_iterator" (by decide) (fun A' hA=>Walks.strAscii hA _ z t) (fun A i s Q E st hq=>wpAny_pyIter_striter_ascii st hq),⟨Nat.zero_le _,_,Heap.get?_push_size _ rfl,rfl,rfl⟩,fin,q⟩
theorem u8 {prog:Program} {w:World} {A:Around} {E:Value->Shared->Prop} {s:Shared} {l:Addr} {items:Array Value} {k:Int} {t:Tok} {v:Value} {Q:Unit->Shared->Prop} (hl:s.heap.IsList l items)
  (h0:0<=k) (hfit:k<2^63) (hn:k<items.size)
  (hQ:Q () { s with heap:=s.heap.update l (Obj.mapSeq (·.setIfInBounds k.toNat v)) }):
  wpAny (model prog w) A (setItem (.ref l) (.int k t) v) Q E s:=by
 obtain ⟨o,ho,hc,ne,hd⟩:=id hl
 unfold setItem
 try with_reducible refine wpAny_holding ?_
 first | refine wpAny_bind (wpAny_pure ?_) | skip
 refine wpAny_bind (wpAny_sequenceKey hl.typeIs (by decide) ?_)
 refine wpAny_bind (wpAny_callSpecial?_slot (name:=Str.ofString "__setitem__") hl.typeIs slot_list_setitem
  (wpAny_call_entry slot_list_setitem hl.typeIs entry_list_setitem ?_ (args_list_setitem _ _ _)))
 show wpAny _ _ (Builtin.List.listSubscript? (.int k t) >>= _) _ _ s
 refine wpAny_bind (wpAny_listSubscript_int (fitsIndex_of h0 hfit) ?_)
 clear hfit
 obtain ⟨j,rfl⟩:=Int.eq_ofNat_of_zero_le h0
 have hj:j<items.size:=by omega
 have hx':items[j]? =some items[j]:=Array.getElem?_eq_getElem hj
 show wpAny _ _ ((seqItemAt l j >>= fun r=>pure (r.map (j,·))) >>= _) _ _ s
 refine wpAny_bind (wpAny_bind (wpAny_seqItemAt ho hd (wpAny_pure ?_)))
 rw [hx']
 show wpAny _ _ (setSeqItemAt l j v >>= _) _ _ s
 refine wpAny_bind (wpAny_setSeqItemAt ho hd ?_)
 first
  | exact wpAny_bind (wpAny_pure (wpAny_pure ⟨.none,rfl,wpAny_pure hQ⟩))
  | exact wpAny_pure ⟨.none,rfl,wpAny_pure hQ⟩
theorem tW:∀ {xs:List V} {us:List Value} {x:V} {u:Value} (i:Nat),Vals xs us->RelV x u->Vals (xs.set i x) (us.set i u)
 | _,_,_,_,_,.nil,_=>.nil
 | _,_,_,_,0,.cons _ t,r=>.cons r t
 | _,_,_,_,i+1,.cons q t,r=>.cons q (tW i t r)
def cPut:TSet
 | .ref p,y,v,H,Q=>(match unD (H p) with
  | some _=>∃ H',DPut H p y v H'/\Q H'
  | none=>match y with
   | .int i=>bnd (unM (H p)) fun xs=>0<=i/\i<xs.length/\Q (upd H p (.lst (xs.set i.toNat v)))
   | _=>False)
 | _,_,_,_,_=>False
theorem Bx (hu:X.A.units+64<cLine):PSet X cPut:=by
 intro pins s σ H o i v ov iv u Q I ro ri rv h
 cases o with
 | ref p=>
  cases ro
  unfold cPut at h
  dsimp only at h
  split at h
  . obtain ⟨H',g,q⟩:=h
    exact xx (Nat.lt_of_le_of_lt (Nat.add_le_add_left (by decide:1<=64) _) hu) I g ri rv fun s' I'=>⟨H',I',q⟩
  . split at h
    . rename_i i
      obtain ⟨xs,e,h0,h1,q⟩:=aW h
      obtain ⟨t,rfl⟩:=ri
      have hH:=gI e
      obtain ⟨z,its,n,r,hl,eo⟩:=I.lstM hH
      have hs:s.heap.IsList p its.toArray:=⟨_,eo,rfl,n,rfl⟩
      have hz:its.length<=sizeLine:=by rw [← hl]; exact z
      refine u8 hs h0 ?_ (by rw [List.size_toArray,← hl]; exact h1) ⟨_,I.lset (t':=s.toks) (ys:=xs.set i.toNat v) (its':=its.set i.toNat u) hH eo (by simp) (tW _ r rv) (by rw [List.length_set]; exact z),q⟩
      have:(sizeLine:Int)<2^63:=by decide
      omega
    . exact h.elim
 | _=>exact False.elim h
end
section
variable {K:Frag} {g:TG} {tb:TS} {D:Ends} {σ:St} {H:Hp} {tl:TE} {ix:List (Option Nat)} {tt:TT} {te ta:TE} {k:Nat} {Q:VK}
theorem kn {r:V->Option Int->Option Int->Hp->VK->Prop} {a b:TO}:tSl r te a b σ H Q=te σ H fun x H1=>a σ H1 fun l H2=>b σ H2 fun u H3=>r x l u H3 Q:=rfl
theorem eV {R:Option Int->Hp->Prop}:tPart te σ H R=te σ H fun x H1=>∃ i,x=.int i/\R (some i) H1:=rfl
theorem ce {R:Option Int->Hp->Prop}:cL σ H R=R none H:=rfl
theorem eW {to ti:TE} {t:TSet} {v:V} {R:St->Hp->Prop}:gSub to ti t v σ H R=to σ H fun o H1=>ti σ H1 fun i H2=>t o i v H2 fun H3=>R σ H3:=rfl
theorem ko {r:V->Hp->VK->Prop}:tUn r te σ H Q=te σ H fun x H1=>r x H1 Q:=rfl
theorem eX:tFor (iStr tl) g tb D σ H=tl σ H fun x H1=>∃ z,x=.str z/\LoopR (Its z) g tb D σ H1:=rfl
theorem cO:tComp ix (iStr tl) g tt te σ H Q=tl σ H fun x H1=>∃ z,x=.str z/\CompR (Its z) g tt te (fun l H'=>Q (.ref l) H') (subσ ix σ) H1:=rfl
theorem cf:sComp k ix (iStr tl) g tt te D σ H=tl σ H fun x H1=>∃ z,x=.str z/\CompR (Its z) g tt te (fun l H'=>D.nx (σ.set k (some (.ref l))) H') (subσ ix σ) H1:=rfl
theorem zy {x:Str}:tyV K "str" (.str x) H:=rfl
theorem hX {i j:Str}:cEq K (.str i) (.str j) H Q=Q (.bl (decide (i=j))) H:=rfl
theorem h9 {i j:Str}:cNe K (.str i) (.str j) H Q=Q (.bl (!decide (i=j))) H:=rfl
theorem e7 {z:Str}:kLen [.str z] H Q=(z.length<=sizeLine/\Q (.int z.length) H):=rfl
theorem e8 {i j:Str}:cAdd (.str i) (.str j) H Q=(i.length+j.length<=sizeLine/\Q (.str (i++j)) H):=rfl
theorem By {z:Str} {i:Int}:cIx (.str z) (.int i) H Q=(z.length<=sizeLine/\bnd (atI z.cps.toList i) fun c=>Q (.str ⟨#[c]⟩) H):=rfl
theorem e9 {x y:Str}:kFind (.str x) [.str y] H Q=Q (.int (Txt.find x y)) H:=rfl
theorem zU {x y:Str}:pM (.str x) [.str y] H Q=((y.length==0)=false/\x.length<=sizeLine/\(Txt.split x y).length<=sizeLine/\∀ l,H l=none->Q (.ref l) (upd H l (.lst ((Txt.split x y).map V.str)))):=rfl
theorem Bz {p:Addr} {i:Int} {v:V} {xs:List V} {R:Hp->Prop} (hp:H p=some (.lst xs)) (h0:0<=i) (h1:i<xs.length) (h:R (upd H p (.lst (xs.set i.toNat v)))):cPut (.ref p) (.int i) v H R:=by
 unfold cPut
 dsimp only
 rw [hp]
 exact ⟨h0,h1,h⟩
theorem l8 {p:Addr} {lo hi:Option Int} {xs:List V} (hp:H p=some (.lst xs)) (h:∀ l,H l=none->Q (.ref l) (upd H l (.lst (cutV xs lo hi)))):jM (.ref p) lo hi H Q:=by
 show bnd (unL (H p)) _
 rw [hp]
 exact h
end
end L2
namespace L2
open PySem PySem.Spec PyProof.Rows
def cBitI (g:Int->Int->Int):R2
 | .int i,.int j,H,Q=>Q (.int (g i j)) H
 | _,_,_,_=>False
def cShr:R2
 | .int i,.int j,H,Q=>0<=j/\Q (.int (i/2^j.toNat)) H
 | _,_,_,_=>False
abbrev cOr:R2:=cBitI Builtin.bitOr
section
variable {X:Cx}
theorem yV {o:Operator} {g:Int->Int->Int} (h0:OpR X (binaryOp o) (rI0 fun i j=>.int (g i j))):OpR X (binaryOp o) (cBitI g):=by
 intro pins s σ H x y v u Q I rx ry h
 unfold cBitI at h
 split at h
 . exact h0 pins s σ H _ _ v u Q I rx ry ⟨_,_,rfl,rfl,h⟩
 . exact h.elim
theorem xK:OpR X (binaryOp .BitOr) cOr:=yV Bm
theorem zV:OpR X (binaryOp .RShift) cShr:=by
 intro pins s σ H x y v u Q I rx ry h
 unfold cShr at h
 split at h
 . exact AB pins s σ H _ _ v u Q I rx ry ⟨_,_,rfl,rfl,h.1,h.2⟩
 . exact h.elim
end
section
variable {H:Hp} {Q:VK} {i j:Int}
theorem iY {g:Int->Int->Int}:cBitI g (.int i) (.int j) H Q=Q (.int (g i j)) H:=rfl
theorem kB:cShr (.int i) (.int j) H Q=(0<=j/\Q (.int (i/2^j.toNat)) H):=rfl
end
end L2
namespace L2
open PySem PySem.Spec PyProof.Rows
section
variable {X:Cx}
def kInt:List V->Hp->VK->Prop
 | [.int i],H,Q=>Q (.int i) H
 | [.bl k],H,Q=>Q (.int (if k then 1 else 0)) H
 | _,_,_=>False
def lU:V->List V->Hp->VK->Prop
 | .int i,[],H,Q=>Q (.int (Builtin.Int.intBits i:Nat)) H
 | _,_,_,_=>False
theorem pN:MtR X "int.bit_length" lU:=by
 intro pins s σ H x vs v us Q I rx rv h
 unfold lU at h
 split at h
 . obtain ⟨t,rfl⟩:=rx
   cases rv
   exact call_int_bit_length ⟨.int _,H,I.tok _,⟨_,rfl⟩,h⟩
 . exact h.elim
def cRepL:R2
 | .ref l,.int k,H,Q=>bnd (unM (H l)) fun xs=> -(2^63)<=k/\k<2^63/\xs.length*k.toNat<=sizeLine/\∀ p,H p=none->Q (.ref p) (upd H p (.lst (List.replicate k.toNat xs).flatten))
 | _,_,_,_=>False
theorem tX:OpR X (binaryOp .Mult) cRepL:=by
 intro pins s σ H x y v u Q I rx ry h
 unfold cRepL at h
 split at h
 . obtain ⟨xs,e,h1,h2,h3,q⟩:=aW h
   exact AJ pins s σ H _ _ v u Q I rx ry ⟨_,_,xs,rfl,rfl,gI e,h1,h2,h3,q⟩
 . exact h.elim
def kAll:List V->Hp->VK->Prop
 | [.ref p],H,Q=>bnd (unL (H p)) fun ys=>∃ bs:List Bool,ys=bs.map V.bl/\Q (.bl (bs.all id)) H
 | _,_,_=>False
theorem xM (bs:List Bool):(List.range bs.length).all (fun i=>bs.getD i false)=bs.all id:=by
 rw [Bool.eq_iff_iff,List.all_eq_true,List.all_eq_true]
 constructor
 . intro h b hb
   obtain ⟨i,hi,e⟩:=List.mem_iff_getElem.mp hb
   have:=h i (List.mem_range.mpr hi)
   rw [List.getD,List.getElem?_eq_getElem hi,e] at this
   exact this
 . intro h i hi
   have hi':i<bs.length:=List.mem_range.mp hi
   have:=h bs[i] (List.getElem_mem hi')
   simpa [List.getD,hi'] using this
theorem lV:bootBuiltins "all"=some (.builtin "all"):=by decide+kernel
theorem xN:bootBuiltins "sum"=some (.builtin "sum"):=by decide+kernel
theorem iP (hc:X.calm=true):CallR X (.builtin "all") kAll:=by
 intro pins s σ H xs us Q I r h
 unfold kAll at h
 split at h
 . rename_i p
   obtain ⟨ys,e,bs,rfl,q⟩:=aW h
   obtain ⟨u,rfl,ru⟩:=cV r
   cases ru
   obtain ⟨its,rv,pl,hz⟩:=I.list (lS e)
   have hl:=rv.length
   rw [List.length_map] at hl
   have hlt:p<s.heap.objs.size:=by
    obtain ⟨o,h1,_⟩:=pl.isList
    exact Heap.lt_size h1
   refine call_all_walkS (wpAny_pyIter_list pl.isList ?_)
   refine ⟨s.heap.objs.size,_,_,_,its.toArray.size,_,_,fun i=>bs.getD i false,rfl,(Walks.list (A:=X.A.in1) (I.ok.hd hc) s.heap.objs.size p (Nat.ne_of_lt hlt) its.toArray).toS,⟨⟨_,Heap.get?_push_size _ rfl,rfl,rfl⟩,pl.isList.push _⟩,?_,fun s' hm=>?_⟩
   . intro i v s1 Q1 E1 hP hQ
     have hv:its[i]? =some v:=by simpa using hP
     obtain ⟨x,hx,rx⟩:=rv.get' hv
     obtain ⟨b,hb,rfl⟩:∃ b,bs[i]? =some b/\V.bl b=x:=by simpa using hx
     cases rx
     refine wpAny_truthy_bool ?_
     have e3:bs.getD i false=b:=by simp [List.getD,hb]
     rw [← e3]
     exact hQ
   . refine ⟨.bl _,H,I.walked (l:=p) hm,?_,q⟩
     have e2:its.toArray.size=bs.length:=by rw [List.size_toArray]; exact hl.symm
     rw [e2,xM]
     rfl
 . exact h.elim
def kSum:List V->Hp->VK->Prop
 | [.ref p],H,Q=>bnd (unL (H p)) fun ys=>∃ ns:List Int,ys=ns.map V.int/\(∀ x∈ns,0<=x/\x<=1000000)/\ns.length<=1000000/\Q (.int ns.sum) H
 | _,_,_=>False
theorem xO:∀ (ns:List Int),(∀ x∈ns,0<=x/\x<=1000000)->0<=ns.sum/\ns.sum<=1000000*ns.length
 | [],_=>by simp
 | n::r,h=>by
  have ih:=xO r fun x hx=>h x (List.mem_cons_of_mem _ hx)
  have h1:=h n List.mem_cons_self
  rw [List.sum_cons,List.length_cons]
  omega
theorem rR (hc:X.calm=true):CallR X (.builtin "sum") kSum:=by
 intro pins s σ H xs us Q I r h
 unfold kSum at h
 split at h
 . rename_i p
   obtain ⟨ys,e,ns,rfl,hb,hn,q⟩:=aW h
   obtain ⟨u,rfl,ru⟩:=cV r
   cases ru
   obtain ⟨its,rv,pl,hz⟩:=I.list (lS e)
   have hl:=rv.length
   rw [List.length_map] at hl
   have hlt:p<s.heap.objs.size:=by
    obtain ⟨o,h1,_⟩:=pl.isList
    exact Heap.lt_size h1
   have e2:its.toArray.size=ns.length:=by rw [List.size_toArray]; exact hl.symm
   refine call_sum_walkS (wpAny_pyIter_list pl.isList ?_)
   refine ⟨s.heap.objs.size,_,_,_,its.toArray.size,_,_,fun i=>ns.getD i 0,rfl,(Walks.list (A:=X.A.in1) (I.ok.hd hc) s.heap.objs.size p (Nat.ne_of_lt hlt) its.toArray).toS,⟨⟨_,Heap.get?_push_size _ rfl,rfl,rfl⟩,pl.isList.push _⟩,?_,?_,?_,fun s' t' hm=>?_⟩
   . intro b hb'
     show b < (s.heap.push _).objs.size
     rw [Heap.size_push]
     simp only [List.mem_cons,List.not_mem_nil,or_false] at hb'
     rcases hb' with rfl | rfl
     . exact Nat.lt_succ_self _
     . exact Nat.lt_succ_of_lt hlt
   . intro i v hP
     have hv:its[i]? =some v:=by simpa using hP
     obtain ⟨x,hx,rx⟩:=rv.get' hv
     obtain ⟨b,hb',rfl⟩:∃ b,ns[i]? =some b/\V.int b=x:=by simpa using hx
     obtain ⟨t,rfl⟩:=rx
     exact ⟨t,by simp [List.getD,hb']⟩
   . intro j hj
     rw [e2] at hj
     refine ⟨?_,?_⟩
     . have:=hb ns[j] (List.getElem_mem hj)
       have e3:ns.getD j 0=ns[j]:=by simp [List.getD,hj]
       show InLong (ns.getD j 0)
       rw [e3]
       exact ⟨by omega,by omega⟩
     . rw [preSum_getD]
       have h1:=xO (ns.take (j+1)) fun x hx=>hb x (List.mem_of_mem_take hx)
       have h2:(ns.take (j+1)).length<=ns.length:=by rw [List.length_take]; omega
       exact ⟨by omega,by omega⟩
   . refine ⟨.int ns.sum,H,I.walked (l:=p) hm,⟨t',?_⟩,q⟩
     rw [e2,preSum_getD,List.take_length]
 . exact h.elim
def Itd (hi:Int) (n:Nat):It:=⟨fun i _=>i<n,fun i H x H'=>H'=H/\x=.int (hi-i),fun i _=>n<=i⟩
def iRngD (ta:TA):TI:=fun σ H R=>ta σ H fun vs H1=>∃ i j:Int,vs=[.int i,.int j,.int (-1)]/\(-(2^60)<=i/\i<2^60/\ -(2^60)<=j/\j<2^60)/\R (Itd i (i-j).toNat) H1
end
section
variable {K:Frag} {g:TG} {tb:TS} {D:Ends} {σ:St} {H:Hp} {ta:TA} {Q:VK}
theorem iZ {k:Bool}:kInt [.bl k] H Q=Q (.int (if k then 1 else 0)) H:=rfl
theorem i6 {i:Int}:kInt [.int i] H Q=Q (.int i) H:=rfl
theorem dE {i:Int}:lU (.int i) [] H Q=Q (.int (Builtin.Int.intBits i:Nat)) H:=rfl
theorem nR {p:Addr} {bs:List Bool} (hp:H p=some (.lst (bs.map V.bl))) (h:Q (.bl (bs.all id)) H):kAll [.ref p] H Q:=by
 show bnd (unL (H p)) _
 rw [hp]
 exact aV (a:=bs.map V.bl) rfl ⟨bs,rfl,h⟩
theorem zA {p:Addr} {ns:List Int} (hp:H p=some (.lst (ns.map V.int))) (hb:∀ x∈ns,0<=x/\x<=1000000) (hn:ns.length<=1000000) (h:Q (.int ns.sum) H):kSum [.ref p] H Q:=by
 show bnd (unL (H p)) _
 rw [hp]
 exact aV (a:=ns.map V.int) rfl ⟨ns,rfl,hb,hn,h⟩
theorem xP {p:Addr} {xs:List V} {k:Int} (hp:H p=some (.lst xs)) (h0:0<=k) (h1:k<=1000) (hn:xs.length<=1) (h:∀ l,H l=none->Q (.ref l) (upd H l (.lst (List.replicate k.toNat xs).flatten))):cRepL (.ref p) (.int k) H Q:=by
 show bnd (unM (H p)) _
 rw [hp]
 refine aV (a:=xs) rfl ⟨by omega,by omega,?_,h⟩
 refine Nat.le_of_lt (aD (Nat.le_trans (Nat.mul_le_mul_right _ hn) ?_))
 omega
theorem gh:tFor (iRngD ta) g tb D σ H=ta σ H fun vs H1=>∃ i j:Int,vs=[.int i,.int j,.int (-1)]/\(-(2^60)<=i/\i<2^60/\ -(2^60)<=j/\j<2^60)/\LoopR (Itd i (i-j).toNat) g tb D σ H1:=rfl
end
end L2
namespace L2
open PySem PySem.Spec PyProof.Rows
section
variable {X:Cx}
def Ite (K:Frag) (a:Addr):It:=
 ⟨fun i H=>∃ xs x,SqL K H a xs/\xs[i]? =some x,
  fun i H v H'=>∃ T x,v=.ref T/\H T=none/\H'=upd H T (.tup [.int i,x])/\∀ xs,SqL K H a xs->xs[i]? =some x,
  fun i H=>∃ xs,SqL K H a xs/\xs.length<=i⟩
def ESt (a e it:Addr) (i:Nat) (h:Heap):Prop:=(∃ old,IsEnum h e it i old)/\h.IsListIter it a i
theorem xQ {P:Program} {w:World} {K:Frag} {es:List Expr} {x1:Nat} {pos:Pos} (a e it:Addr):
  Turn P w K (.Tuple es x1 pos) (Ite K a) [e,it] e (ESt a e it) where
 mem:=by simp
 obj:=fun i h st c hc=>by
  obtain ⟨⟨old,he⟩,⟨o1,e1,c1,f1⟩⟩:=st
  simp only [List.mem_cons,List.not_mem_nil,or_false] at hc
  rcases hc with rfl | rfl
  . exact ⟨_,he,fun v z=>by have z':Data.fields _=Data.cell v:=z; cases z'⟩
  . exact ⟨_,e1,fun v z=>by rw [f1] at z; cases z⟩
 keep:=fun i h h' st k=>by
  obtain ⟨⟨old,he⟩,h1⟩:=st
  exact ⟨⟨old,k e (by simp) _ he⟩,h1.at fun o q=>k it (by simp) o q⟩
 item:=by
  intro X hP hw hK hc i pins s σ H E I hf st hg
  subst hP hw hK
  obtain ⟨xs,x,hq1,hx⟩:=hg
  obtain ⟨its1,rv1,p1,hz1⟩:=I.list hq1
  obtain ⟨u1,hu1,ru1⟩:=rv1.get hx
  obtain ⟨⟨old,he⟩,⟨o1,e1,c1,f1⟩⟩:=id st
  have hne:e≠it:=AU he e1 rfl c1 (by decide)
  refine wpAny_pyNext_enum_item he ⟨o1,e1,c1,f1⟩ p1.isList (x:=u1) (by simpa using hu1) hne fun h' a1 a2 a3 a4 hk=>?_
  refine ⟨_,rfl,wpAny_letOwnedTupleGo_enum a1 fun h2 hz2 sb=>?_⟩
  have hT:H s.heap.objs.size=none:=I.fresh
  have lt:∀ {c o},s.heap.get? c=some o->c≠s.heap.objs.size:=fun e=>Nat.ne_of_lt (Heap.lt_size e)
  have kp:∀ c o,c∉[e,it]->s.heap.get? c=some o->h2.get? c=some o:=fun c o hc q=>by
   simp only [List.mem_cons,List.not_mem_nil,or_false,not_or] at hc
   exact sb.extBut _ _ hc.1 (hk c o hc.1 hc.2 q)
  have hTe:s.heap.objs.size≠e:=(lt he).symm
  have gT:h2.get? s.heap.objs.size=some { cls:=.type "tuple",data:=.seq #[.int i s.toks,u1] }:=sb.extBut _ _ hTe a3
  have nH:∀ c∈[e,it],H c=none:=fun c hc=>(hf c hc).1
  refine ⟨.ref s.heap.objs.size,upd H s.heap.objs.size (.tup [.int i,x]),I.call' (s':={ s with heap:=h2,toks:=s.toks+1 }) (ch:=[e,it]) rfl ⟨fun c o e n _ hx=>kp c o hx e,fun c o e n _ hx=>⟨o.slots,kp c o hx e⟩,fun c o e n _=>by rw [ai (lt e)]; exact n,fun c o e hx=>⟨o,kp c o hx e⟩,fun c xs e=>by rw [ai (aC e hT)]; exact e,fun c o u e=>by rw [ai (aC e hT)]; exact e,fun c ps e=>⟨#[],by rw [ai (aC e hT),e]; simp⟩⟩ ?_ I.bare ?_,rfl,⟨_,x,rfl,hT,rfl,fun zs hz'=>by rw [I.list_inj hz' hq1]; exact hx⟩,?_,?_⟩
  . intro c ob e
    by_cases hb:c=s.heap.objs.size
    . subst hb
      rw [ae] at e
      cases e
      exact ⟨by show (2:Nat)<=sizeLine; exact Nat.le_of_lt (aD (by decide)),[.int i s.toks,u1],.cons ⟨_,rfl⟩ (.cons ru1 .nil),⟨_,gT,rfl,_,rfl⟩⟩
    . rw [ai hb] at e
      refine (I.hok c ob e).stay (fun d w' hd g=>kp d w' ?_ g) (fun d g=>by rw [ai (aC g hT)]; exact g) fun d xs g=>by rw [ai (aC g hT)]; exact g
      intro hm
      rcases hd with rfl | hd
      . rw [nH _ hm] at e; cases e
      . rw [nH _ hm] at hd; cases hd
  . intro c hc
    obtain ⟨f0,f1,f2,f3,f4,f5⟩:=hf c hc
    exact ⟨f3,f1,f4,f5⟩
  . exact ⟨⟨_,hz2⟩,a2.extBut sb.extBut hne.symm⟩
  . intro c hc
    obtain ⟨o,q⟩:∃ o,s.heap.get? c=some o:=by
     simp only [List.mem_cons,List.not_mem_nil,or_false] at hc
     rcases hc with rfl | rfl
     . exact ⟨_,he⟩
     . exact ⟨_,e1⟩
    rw [ai (lt q)]
    exact (hf c hc).1
 done:=by
  intro X hP hw hK hc i pins s σ H E I hf st hg
  subst hP hw hK
  obtain ⟨xs,hq1,hx⟩:=hg
  obtain ⟨its1,rv1,p1,hz1⟩:=I.list hq1
  have hl1:=rv1.length
  obtain ⟨⟨old,he⟩,⟨o1,e1,c1,f1⟩⟩:=id st
  have hend:its1.toArray[i]? =none:=by simp; omega
  obtain ⟨f0,f1',f2,f3,f4,f5⟩:=hf it (by simp)
  exact wpAny_pyNext_enum_end (I.ok.hd hc) he ⟨o1,e1,c1,f1⟩ p1.isList hend fun h' eb=>⟨rfl,I.turned (t':=s.toks) (fun b o hb e=>eb b o hb e) f0 f1' f3 f4 f5⟩
 self:=fun _ _ _ _ _ st h=>by
  obtain ⟨⟨old,he⟩,_⟩:=st
  exact wpAny_pyIter_enum he h
def iEnum (K:Frag) (ta:TA):TI:=fun σ H R=>ta σ H fun vs H1=>∃ a,vs=[.ref a]/\(∃ xs,SqL K H1 a xs)/\R (Ite K a) H1
theorem tY:bootBuiltins "enumerate"=some (.type "enumerate"):=by decide+kernel
theorem zW {es:List Expr} {x1:Nat} {tpos:Pos} {e1:Expr} {ta:TA} {p pos:Pos} (hg:Gl X "enumerate") (hm:X.mg "enumerate"=none) (ha:PA X [e1] ta) (hs:starEach [e1] X.env=[(false,eval e1 X.env)]:=by rfl):
  PI X (.Tuple es x1 tpos) (.Call (.Name "enumerate" p) [e1] [] pos) (iEnum X.K ta):=by
 intro pins s σ H R I h
 refine Call_ (gH I hg hm tY (PyProof.Rows.callWith_type1 (thn (ha pos pins s σ H _ I h) fun us s1 ⟨vs,H1,I1,r1,q1⟩=>?_) hs rfl))
 obtain ⟨a,rfl,⟨xs,hq1⟩,q⟩:=q1
 obtain ⟨u1,rfl,ru1⟩:=cV r1
 cases ru1
 obtain ⟨its1,rv1,p1,hz1⟩:=I1.list hq1
 refine call_enumerate_list p1.isList fun h' a1 a2 a3 hk=>?_
 refine wpAny_pyIter_enum a1 ?_
 have I2:Inv X pins σ H1 { s1 with heap:=h',toks:=s1.toks }:=I1.kept hk
 refine ⟨s1.heap.objs.size+1,[s1.heap.objs.size+1,s1.heap.objs.size],ESt a (s1.heap.objs.size+1) s1.heap.objs.size,Ite X.K a,H1,rfl,I2,xQ a (s1.heap.objs.size+1) s1.heap.objs.size,⟨⟨_,a1⟩,a2⟩,fun c hc=>?_,q⟩
 have hge:s1.heap.objs.size<=c:=by
  simp only [List.mem_cons,List.not_mem_nil,or_false] at hc
  rcases hc with rfl | rfl <;> omega
 exact I1.fpOk hge (I1.hok.fresh hge)
end
section
variable {K:Frag} {g:TG} {tb:TS} {D:Ends} {σ:St} {H:Hp} {ta:TA} {Q:VK} {ix:List (Option Nat)} {tt:TT} {te:TE} {k:Nat}
theorem i7:tFor (iEnum K ta) g tb D σ H=ta σ H fun vs H1=>∃ a,vs=[.ref a]/\(∃ xs,SqL K H1 a xs)/\LoopR (Ite K a) g tb D σ H1:=rfl
theorem gi:tComp ix (iEnum K ta) g tt te σ H Q=ta σ H fun vs H1=>∃ a,vs=[.ref a]/\(∃ xs,SqL K H1 a xs)/\CompR (Ite K a) g tt te (fun l H'=>Q (.ref l) H') (subσ ix σ) H1:=rfl
theorem dF:sComp k ix (iEnum K ta) g tt te D σ H=ta σ H fun vs H1=>∃ a,vs=[.ref a]/\(∃ xs,SqL K H1 a xs)/\CompR (Ite K a) g tt te (fun l H'=>D.nx (σ.set k (some (.ref l))) H') (subσ ix σ) H1:=rfl
theorem xR {a:Addr} {xs:List V} {fin:Addr->Hp->Prop} {σ0:St} {H1:Hp} (Pv:Addr->Nat->St->Hp->Prop) (h0:∀ l,H1 l=none->Pv l 0 σ0 (upd H1 l (.lst []))) (hq:∀ l i σ H,H1 l=none->i<=xs.length->Pv l i σ H->SqL K H a xs)
  (hs:∀ l i x T σ H,H1 l=none->xs[i]? =some x->Pv l i σ H->H T=none->g (.ref T) σ (upd H T (.tup [.int i,x])) fun σ2 H3=>tt σ2 H3 fun b H4=>if b=true then te σ2 H4 fun y H5=>∃ ys,H5 l=some (.lst ys)/\ys.length<sizeLine/\Pv l (i+1) σ2 (upd H5 l (.lst (ys++[y]))) else Pv l (i+1) σ2 H4)
  (hd:∀ l σ H,H1 l=none->Pv l xs.length σ H->fin l H):CompR (Ite K a) g tt te fin σ0 H1:=by
 intro l hl0
 refine ⟨fun i m σ H=>m=xs.length-i/\i<=xs.length/\Pv l i σ H,⟨xs.length,by simp,Nat.zero_le _,h0 l hl0⟩,?_⟩
 rintro i m σ H ⟨rfl,hi,p⟩
 have q:=hq l i σ H hl0 hi p
 by_cases hlt:i<xs.length
 . refine .inr ⟨⟨xs,xs[i],q,by simp [hlt]⟩,Pv l (i+1),fun σ' H' p'=>⟨xs.length - (i+1),by omega,rfl,hlt,p'⟩,fun v H' y=>?_⟩
   obtain ⟨T,x,rfl,hT,rfl,e⟩:=y
   exact hs l i x T σ _ hl0 (e xs q) p hT
 . have e:i=xs.length:=by omega
   subst e
   exact .inl ⟨⟨xs,q,Nat.le_refl _⟩,hd l σ H hl0 p⟩
theorem wf {a:Addr} {xs:List V} {fin:Addr->Hp->Prop} {σ0:St} {H1:Hp} {k1 k2:Nat} (b:Nat->Bool) (f:Nat->V) (hn:xs.length<=900) (hne:k1≠k2) (hq:SqL K H1 a xs)
  (ht:∀ (i:Nat) x H R,xs[i]? =some x->Same H1 H->(∀ H',Same H H'->R (b i) H')->tt ((σ0.set k1 (some (.int (i:Int)))).set k2 (some x)) H R)
  (he:∀ (i:Nat) x H Q,xs[i]? =some x->b i=true->Same H1 H->(∀ H',Same H H'->Q (f i) H')->te ((σ0.set k1 (some (.int (i:Int)))).set k2 (some x)) H Q)
  (hd:∀ l H,H1 l=none->Same H1 H->H l=some (.lst (((List.range xs.length).filter b).map f))->fin l H):
  CompR (Ite K a) (gTup K 2 (gCons (gName k1) (gCons (gName k2) gNil))) tt te fin σ0 H1:=by
 refine xR (xs:=xs) (fun l i σ H=>(σ=σ0\/∃ c1 c2,σ=(σ0.set k1 c1).set k2 c2)/\Same H1 H/\H l=some (.lst (((List.range i).filter b).map f))) (fun l hl=>⟨.inl rfl,fun b u e=>by rw [ai (aC e hl)]; exact e,by rw [ae]; rfl⟩) (fun l i σ H _ _ p=>p.2.1.seq hq) ?_ (fun l σ H hl p=>hd l H hl p.2.1 p.2.2)
 rintro l i x T σ H hl hx ⟨hσ,s1,el⟩ hT
 have hi:i<xs.length:=(List.getElem?_eq_some_iff.mp hx).1
 have sT:Same H (upd H T (.tup [.int i,x])):=fun b u e=>by rw [ai (aC e hT)]; exact e
 refine ⟨T,_,rfl,SqT.of ae,rfl,_,_,rfl,_,_,rfl,rfl,?_⟩
 have e:(σ.set k1 (some (.int i))).set k2 (some x)=(σ0.set k1 (some (.int i))).set k2 (some x):=by
  rcases hσ with rfl | ⟨c1,c2,rfl⟩
  . rfl
  . rw [List.set_comm _ _ (Ne.symm hne),List.set_set,List.set_set,List.set_comm _ _ hne]
 show tt ((σ.set k1 (some (.int i))).set k2 (some x)) _ _
 rw [e]
 refine ht i x _ _ hx (s1.trans sT) fun H2 s2=>?_
 have el2:=s2 _ _ (sT _ _ el)
 have s12:=(s1.trans sT).trans s2
 have own:∀ {H3:Hp} {o:HO},Same H1 H3->Same H1 (upd H3 l o):=fun s b u e=>by rw [ai (aC e hl)]; exact s b u e
 have hlen:∀ i,i<=900->(((List.range i).filter b).map f).length<sizeLine:=fun i hi=>by
  rw [List.length_map]
  refine aD (Nat.le_trans (List.length_filter_le b _) ?_)
  rw [List.length_range]
  omega
 cases hb:b i with
 | false=>
  rw [if_neg Bool.false_ne_true]
  refine ⟨.inr ⟨_,_,rfl⟩,s12,?_⟩
  rw [List.range_succ,List.filter_append,List.filter_cons,hb]
  simpa using el2
 | true=>
  rw [if_pos rfl]
  refine he i x H2 _ hx hb s12 fun H3 s3=>⟨_,s3 _ _ el2,hlen i (by omega),.inr ⟨_,_,rfl⟩,own (s12.trans s3),?_⟩
  rw [ae,List.range_succ,List.filter_append,List.filter_cons,hb]
  simp
end
end L2
namespace L2
open PySem PySem.Spec PyProof.Rows
end L2
namespace L2
open PySem PySem.Spec PyProof.Rows
end L2
namespace L2
open PySem PySem.Spec PyProof.Rows
def rngL (i j:Int):List Int:=(List.range (j-i).toNat).map fun (k:Nat)=>i+(k:Int)
theorem iA (i j:Int):(rngL i j).length=(j-i).toNat:=by unfold rngL; simp
theorem ow:∀ {xs:List V} {us:List Value},xs.length=us.length->(∀ (i:Nat) x u,xs[i]? =some x->us[i]? =some u->RelV x u)->Vals xs us
 | [],[],_,_=>.nil
 | [],_::_,h,_=>by simp at h
 | _::_,[],h,_=>by simp at h
 | x::xs,u::us,h,f=>.cons (f 0 x u rfl rfl) (ow (by simpa using h) fun i y e h1 h2=>f (i+1) y e (by simpa using h1) (by simpa using h2))
theorem yW {i j:Int} {acc:Array Value} (h:ItemsOf (fun k v=>∃ t,v=.int (i+k*1) t) acc (j-i).toNat):Vals ((rngL i j).map V.int) acc.toList:=by
 refine ow (by rw [List.length_map,iA,Array.length_toList]; exact h.1.symm) fun k x u hx hu=>?_
 obtain ⟨t,rfl⟩:=h.2 k u (by simpa using hu)
 unfold rngL at hx
 rw [List.map_map,List.getElem?_map] at hx
 by_cases hk:k < (j-i).toNat
 . rw [List.getElem?_range hk] at hx
   cases hx
   exact ⟨t,by rw [Int.mul_one]⟩
 . rw [List.getElem?_eq_none (by simpa using hk)] at hx
   cases hx
section
variable {X:Cx}
def ke (ta:TA):TE:=fun σ H Q=>ta σ H fun vs H1=>∃ j:Int,vs=[.int j]/\ -(2^60)<=j/\j<=1000/\∀ l,H1 l=none->Q (.ref l) (upd H1 l (.lst ((rngL 0 j).map V.int)))
def xS (ta:TA):TE:=fun σ H Q=>ta σ H fun vs H1=>∃ i j:Int,vs=[.int i,.int j]/\(0<=i/\i<=1000/\ -(2^60)<=j/\j<=1000)/\∀ l,H1 l=none->Q (.ref l) (upd H1 l (.lst ((rngL i j).map V.int)))
theorem yX {pins:List (Addr × Obj)} {σ:St} {H1:Hp} {s1:Shared} {Q:VK} {i j:Int} {t u v:Tok} {tk:Nat} {A:Around} {E:Value->Shared->Prop} (hh:A.handled=none) (I1:Inv X pins σ H1 s1) (h1:0<=i) (h2:i<=1000) (h3: -(2^60)<=j) (h4:j<=1000)
  (q:∀ l,H1 l=none->Q (.ref l) (upd H1 l (.lst ((rngL i j).map V.int)))):
  wpAny (model X.prog X.w) A (call (.type "list") [.ref s1.heap.objs.size]) (EP X pins σ Q) E { s1 with heap:=s1.heap.push { cls:=.type "range",data:=.fields #[.int i t,.int j u,.int 1 v] },toks:=tk }:=by
 have I2:Inv X pins σ H1 { s1 with heap:=s1.heap.push { cls:=.type "range",data:=.fields #[.int i t,.int j u,.int 1 v] },toks:=tk }:=I1.kept fun b o e=>Heap.get?_push_of_some _ e
 refine call_list_range (n:=(j-i).toNat) hh (IsRange.new ..) (small_one (by omega) (by omega) (by omega) (by omega)) (by rw [rangeSize_one]; split <;> omega) (by omega) fun h' tk' acc' c' old hS' hacc=>?_
 have hlen:((rngL i j).map V.int).length<=sizeLine:=by rw [List.length_map,iA]; exact Nat.le_of_lt (aD (by omega))
 exact ⟨.ref _,_,I2.laid (t':=tk') (o:=.lst ((rngL i j).map V.int)) old (Nat.le_refl _) ⟨hlen,acc'.toList,c',yW hacc,hS'⟩,rfl,q _ (I2.hok.fresh (Nat.le_refl _))⟩
theorem lz {a:Expr} {ta:TA} {p p2 pos pos2:Pos} (hc:X.calm=true) (hgl:Gl X "list") (hgr:Gl X "range") (hl:X.mg "list"=none) (hr:X.mg "range"=none) (ha:PA X [a] ta)
  (hs1:starEach [.Call (.Name "range" p2) [a] [] pos2] X.env=[(false,eval (.Call (.Name "range" p2) [a] [] pos2) X.env)]:=by rfl) (hs:starEach [a] X.env=[(false,eval a X.env)]:=by rfl):
  PE X (.Call (.Name "list" p) [.Call (.Name "range" p2) [a] [] pos2] [] pos) (ke ta):=by
 intro pins s σ H Q I h
 refine wpAny_Call_Name_kw (gH I hgl hl gc ?_ (by decide) (by decide))
 refine PyProof.Rows.callWith_type1 ?_ hs1 rfl
 rw [hs1]
 show wpAny _ _ (spliced [(false,eval (.Call (.Name "range" p2) [a] [] pos2) X.env)]) _ _ s
 refine Calls.spliced_cons ?_
 refine Call_ (gH I hgr hr boot_range (PyProof.Rows.callWith_type1 (thn (ha pos2 pins s σ H _ I h) fun us s1 ⟨vs,H1,I1,r1,q1⟩=>?_) hs rfl))
 obtain ⟨j,e,q1,q2,q⟩:=q1
 subst e
 cases r1 with
 | cons r rr=>
  cases rr
  obtain ⟨t,rfl⟩:=r
  refine call_range_1 ?_
  refine Calls.spliced_nil ?_
  exact yX (I.ok.hd hc) I1 (by omega) (by omega) q1 q2 q
end
section
variable {σ:St} {H:Hp} {Q:VK} {ta:TA}
theorem gj:ke ta σ H Q=ta σ H fun vs H1=>∃ j:Int,vs=[.int j]/\ -(2^60)<=j/\j<=1000/\∀ l,H1 l=none->Q (.ref l) (upd H1 l (.lst ((rngL 0 j).map V.int))):=rfl
theorem gk:xS ta σ H Q=ta σ H fun vs H1=>∃ i j:Int,vs=[.int i,.int j]/\(0<=i/\i<=1000/\ -(2^60)<=j/\j<=1000)/\∀ l,H1 l=none->Q (.ref l) (upd H1 l (.lst ((rngL i j).map V.int))):=rfl
end
end L2
namespace L2
def besL (h w c:Int):List Int:=(if 0<c/w then [c-w] else [])++(if 0<c%w then [c-1] else [])++(if c%w<w-1 then [c+1] else [])++(if c/w<h-1 then [c+w] else [])
inductive RC (h w:Int) (cs:List Int) (st:Int):Int->Prop
 | start:st∈cs->RC h w cs st st
 | step {x y:Int}:RC h w cs st x->y∈besL h w x->y∈cs->RC h w cs st y
theorem RC.mem {h w:Int} {cs:List Int} {st x:Int} (r:RC h w cs st x):x∈cs:=by cases r <;> assumption
theorem RC.st {h w:Int} {cs:List Int} {st x:Int} (r:RC h w cs st x):st∈cs:=by
 induction r with
 | start h=>exact h
 | step _ _ _ ih=>exact ih
theorem l9:∀ {xs ys:List Int},xs.Nodup->(∀ x∈xs,x∈ys)->xs.length<=ys.length
 | [],_,_,_=>Nat.zero_le _
 | x::xs,ys,nd,h=>by
  have hx:=h x List.mem_cons_self
  have nd':=List.nodup_cons.mp nd
  have ih:=l9 (xs:=xs) (ys:=ys.erase x) nd'.2 fun y hy=>by
   have ne:y≠x:=fun e=>nd'.1 (e ▸ hy)
   exact (List.mem_erase_of_ne ne).mpr (h y (List.mem_cons_of_mem _ hy))
  rw [List.length_erase_of_mem hx] at ih
  have:0<ys.length:=List.length_pos_of_mem hx
  simp only [List.length_cons]
  omega
structure BI (h w:Int) (cs:List Int) (st:Int) (fs:List Int) (pl:Nat):Prop where
 nd:fs.Nodup
 rc:∀ x∈fs,RC h w cs st x
 hst:st∈fs
 le:pl<=fs.length
 cl:∀ (i:Nat) (x y:Int),i<pl->fs[i]? =some x->y∈besL h w x->y∈cs->y∈fs
theorem BI.len {h w:Int} {cs:List Int} {st:Int} {fs:List Int} {pl:Nat} (b:BI h w cs st fs pl):fs.length<=cs.length:=l9 b.nd fun x hx=>(b.rc x hx).mem
theorem BI.start {h w:Int} {cs:List Int} {st:Int} (hs:st∈cs):BI h w cs st [st] 0:=
 ⟨by simp,fun x hx=>by rw [List.mem_singleton.mp hx]; exact .start hs,by simp,Nat.zero_le _,fun i x y hi=>absurd hi (Nat.not_lt_zero _)⟩
theorem BI.done {h w:Int} {cs:List Int} {st:Int} {fs:List Int} {pl:Nat} (b:BI h w cs st fs pl) (e:¬ pl<fs.length) (x:Int):x∈fs↔RC h w cs st x:=by
 refine ⟨b.rc x,fun r=>?_⟩
 induction r with
 | start _=>exact b.hst
 | step r hy hc ih=>
  obtain ⟨i,hi⟩:=List.getElem?_of_mem ih
  have hlt:i<fs.length:=(List.getElem?_eq_some_iff.mp hi).1
  exact b.cl i _ _ (by omega) hi hy hc
def addC (cs fs:List Int) (y:Int):List Int:=if y∈cs/\¬ y∈fs then fs++[y] else fs
structure BJ (h w:Int) (cs:List Int) (st:Int) (f0:List Int) (pl:Nat) (bs:List Int) (fs:List Int):Prop where
 nd:fs.Nodup
 rc:∀ x∈fs,RC h w cs st x
 pre:f0 <+:fs
 al:∀ y∈bs,y∈cs->y∈fs
theorem BJ.zero {h w:Int} {cs:List Int} {st:Int} {fs:List Int} {pl:Nat} (b:BI h w cs st fs pl):BJ h w cs st fs pl [] fs:=⟨b.nd,b.rc,List.prefix_refl _,fun y hy=>nomatch hy⟩
theorem BJ.more {h w:Int} {cs:List Int} {st:Int} {f0 fs bs:List Int} {pl:Nat} {x y:Int} (j:BJ h w cs st f0 pl bs fs) (hx:RC h w cs st x) (hy:y∈besL h w x):BJ h w cs st f0 pl (bs++[y]) (addC cs fs y):=by
 unfold addC
 split
 . rename_i hc
   refine ⟨?_,fun z hz=>?_,j.pre.trans (List.prefix_append _ _),fun z hz hzc=>?_⟩
   . refine List.nodup_append.mpr ⟨j.nd,by simp,fun a ha b hb=>?_⟩
     rw [List.mem_singleton.mp hb]
     intro e
     exact hc.2 (e ▸ ha)
   . rcases List.mem_append.mp hz with hz | hz
     . exact j.rc z hz
     . rw [List.mem_singleton.mp hz]
       exact .step hx hy hc.1
   . rcases List.mem_append.mp hz with hz | hz
     . exact List.mem_append_left _ (j.al z hz hzc)
     . rw [List.mem_singleton.mp hz]
       simp
 . rename_i hc
   refine ⟨j.nd,j.rc,j.pre,fun z hz hzc=>?_⟩
   rcases List.mem_append.mp hz with hz | hz
   . exact j.al z hz hzc
   . rw [List.mem_singleton.mp hz] at hzc ⊢
     exact Decidable.byContradiction fun n=>hc ⟨hzc,n⟩
theorem BJ.done {h w:Int} {cs:List Int} {st:Int} {f0 fs:List Int} {pl:Nat} {x:Int} (b:BI h w cs st f0 pl) (hx:f0[pl]? =some x) (j:BJ h w cs st f0 pl (besL h w x) fs):BI h w cs st fs (pl+1):=by
 have hlt:pl<f0.length:=(List.getElem?_eq_some_iff.mp hx).1
 have hle:=j.pre.length_le
 have get:∀ i,i<f0.length->fs[i]? =f0[i]? :=fun i hi=>by
  obtain ⟨t,e⟩:=j.pre
  rw [← e,List.getElem?_append_left hi]
 refine ⟨j.nd,j.rc,j.pre.subset b.hst,by omega,fun i z y hi hz hy hc=>?_⟩
 rw [get i (by omega)] at hz
 by_cases e:i<pl
 . exact j.pre.subset (b.cl i z y e hz hy hc)
 . have:i=pl:=by omega
   subst this
   rw [hx] at hz
   cases hz
   exact j.al y hy hc
theorem xT {rs fs:List Int} (p:rs.Perm fs) (s:rs.Pairwise (· <=·)) (nd:fs.Nodup):rs.Pairwise (· < ·):=by
 have nd':rs.Nodup:=p.nodup_iff.mpr nd
 refine (s.and nd').imp ?_
 intro a b h
 have:=h.1
 have:=h.2
 omega
theorem pO:∀ {xs ys:List Int},xs.Pairwise (· < ·)->ys.Pairwise (· < ·)->(∀ z,z∈xs↔z∈ys)->xs=ys
 | [],[],_,_,_=>rfl
 | [],y::ys,_,_,h=>absurd ((h y).mpr List.mem_cons_self) (fun q=>nomatch q)
 | x::xs,[],_,_,h=>absurd ((h x).mp List.mem_cons_self) (fun q=>nomatch q)
 | x::xs,y::ys,hx,hy,h=>by
  have hx':=List.pairwise_cons.mp hx
  have hy':=List.pairwise_cons.mp hy
  have e:x=y:=by
   rcases List.mem_cons.mp ((h x).mp List.mem_cons_self) with e | m1
   . exact e
   . rcases List.mem_cons.mp ((h y).mpr List.mem_cons_self) with e | m2
     . exact e.symm
     . have:=hy'.1 x m1
       have:=hx'.1 y m2
       omega
  subst e
  refine congrArg (x::·) (pO hx'.2 hy'.2 fun z=>⟨fun m=>?_,fun m=>?_⟩)
  . rcases List.mem_cons.mp ((h z).mp (List.mem_cons_of_mem _ m)) with e | q
    . have:=hx'.1 z m; omega
    . exact q
  . rcases List.mem_cons.mp ((h z).mpr (List.mem_cons_of_mem _ m)) with e | q
    . have:=hy'.1 z m; omega
    . exact q
end L2
namespace L2
open PySem PySem.Spec PyProof.Rows
local macro_rules | `(tactic| walk_at "w")=>`(tactic| (first | simp only [aL,dj,fu,bo,gd,w_c,jK,dD,ei,dk,eE,w_b,w_not,gM,kl,eF,eI,gN,gf,dl,km,eJ,gO,gg,jL,gP,eK,eM,eP,eQ,cM,cN,cy,b9,cb,bF,gQ,gR,gS,gU,gW,gX,gY,gZ,g7,g8,g9,hV,kn,eV,ce,eW,ko,eX,cO,cf,hX,h9,e7,e8,e9,
 List.getElem?_cons_zero,List.getElem?_cons_succ,Option.some.injEq,exists_eq_left',exists_eq_left,List.set_cons_zero,List.set_cons_succ,bK,V.int.injEq,V.bl.injEq,V.ref.injEq,V.str.injEq,List.append_nil,List.nil_append,List.cons_append] | dsimp only | skip))
theorem aB {n:Nat} (h:n<=1000):n<=sizeLine:=Nat.le_of_lt (aD h)
def IsFl (H:Hp) (a:Addr) (h w g:Int):Prop:=H a=some (.tup [.int h,.int w,.int g])
theorem Same.laid {H H':Hp} {p:Addr} {o:HO} (s:Same H H') (h:H' p=none):Same H (upd H' p o):=fun b u e=>by
 rw [ai (aC (s b u e) h)]
 exact s b u e
theorem Same.own {H H':Hp} {p:Addr} {o:HO} (s:Same H H') (h:H p=none):Same H (upd H' p o):=fun b u e=>by
 rw [ai (aC e h)]
 exact s b u e
theorem kP {l:List Int} {i:Nat} {x:Int} (h:l[i]? =some x):l.getD i 0=x:=by
 rw [List.getD,h]; rfl
theorem oH {ns:List Int} {k:Int} (h0:0<=k) (h1:k<ns.length):atI (ns.map V.int) k=some (.int (ns.getD k.toNat 0)):=by
 have e:((k.toNat:Nat):Int)=k:=Int.toNat_of_nonneg h0
 have hlt:k.toNat<ns.length:=by omega
 have:(ns.map V.int)[k.toNat]? =some (.int (ns.getD k.toNat 0)):=by
  rw [List.getElem?_map,List.getElem?_eq_getElem hlt]
  simp [List.getD,hlt]
 have q:=ga this
 rw [e] at q
 exact q
theorem bp {α:Type} (l:List α):l.filter (fun _=>true)=l:=List.filter_eq_self.mpr fun _ _=>rfl
theorem bh {l:List Int} {i:Nat} {y:V} (h:(l.map V.int)[i]? =some y):∃ z,l[i]? =some z/\y=.int z:=by
 rw [List.getElem?_map] at h
 cases e:l[i]? with
 | none=>rw [e] at h; cases h
 | some z=>rw [e] at h; cases h; exact ⟨z,rfl,rfl⟩
theorem fb {l:List Addr} {i:Nat} {y:V} (h:(l.map V.ref)[i]? =some y):∃ z,l[i]? =some z/\y=.ref z:=by
 rw [List.getElem?_map] at h
 cases e:l[i]? with
 | none=>rw [e] at h; cases h
 | some z=>rw [e] at h; cases h; exact ⟨z,rfl,rfl⟩
theorem fR {h w:Int} (h0:1<=h) (h1:h<=6):CMul h w:=.inl ⟨by omega,by omega⟩
theorem tZ {ps:List Addr} {k:Int} {p:Addr} (h0:0<=k) (h:ps[k.toNat]? =some p):atI (ps.map V.ref) k=some (.ref p):=by
 have e:((k.toNat:Nat):Int)=k:=Int.toNat_of_nonneg h0
 have q0:(ps.map V.ref)[k.toNat]? =some (.ref p):=by rw [List.getElem?_map,h]; rfl
 have q:=ga q0
 rw [e] at q
 exact q
section
variable {k:Nat} {lo:Int} {n:Nat} {tt:TT} {te:TE} {fin:Addr->Hp->Prop} {σ0:St} {H1:Hp} {K:Frag} {a:Addr}
theorem kU {n i:Nat} (b:Nat->Bool) (h:i<n) (hn:n<=900):((List.range i).filter b).length<=900:=by
 have:=List.length_filter_le b (List.range i)
 rw [List.length_range] at this
 omega
theorem ox (b:Nat->Bool) (f:Nat->V) (hn:n<=900)
  (ht:∀ i H R,i<n->Same H1 H->(∀ H',Same H H'->R (b i) H')->tt (σ0.set k (some (.int (lo+i)))) H R)
  (he:∀ i H Q,i<n->b i=true->Same H1 H->(∀ H',Same H H'->Q (f i) H')->te (σ0.set k (some (.int (lo+i)))) H Q)
  (hd:∀ l H,H1 l=none->Same H1 H->H l=some (.lst (((List.range n).filter b).map f))->fin l H):
  CompR (Itr lo n) (gName k) tt te fin σ0 H1:=by
 refine pL (fun l i σ H=>(σ=σ0\/∃ cv,σ=σ0.set k cv)/\Same H1 H/\H l=some (.lst (((List.range i).filter b).map f))) (fun l hl=>⟨.inl rfl,(Same.refl H1).laid hl,by rw [ae]; rfl⟩) ?_ (fun l σ H hl p=>hd l H hl p.2.1 p.2.2)
 rintro l i σ H hl hi ⟨hσ,s1,el⟩
 rw [bo]
 have e:σ.set k (some (.int (lo+i)))=σ0.set k (some (.int (lo+i))):=by
  rcases hσ with rfl | ⟨cv,rfl⟩
  . rfl
  . exact List.set_set ..
 rw [e]
 refine ht i H _ hi s1 fun H2 s2=>?_
 have el2:=s2 _ _ el
 cases hb:b i with
 | false=>
  rw [if_neg Bool.false_ne_true]
  refine ⟨.inr ⟨_,rfl⟩,s1.trans s2,?_⟩
  rw [List.range_succ,List.filter_append,List.filter_cons,hb]
  simpa using el2
 | true=>
  rw [if_pos rfl]
  refine he i H2 _ hi hb (s1.trans s2) fun H3 s3=>⟨_,s3 _ _ el2,by rw [List.length_map]; exact aD (Nat.le_trans (kU b hi hn) (by decide)),.inr ⟨_,rfl⟩,((s1.trans s2).trans s3).own hl,?_⟩
  rw [ae,List.range_succ,List.filter_append,List.filter_cons,hb]
  simp
theorem cp {xs:List V} (b:Nat->Bool) (f:Nat->V) (hn:xs.length<=900) (hq:SqL K H1 a xs)
  (ht:∀ i x H R,xs[i]? =some x->Same H1 H->(∀ H',Same H H'->R (b i) H')->tt (σ0.set k (some x)) H R)
  (he:∀ i x H Q,xs[i]? =some x->b i=true->Same H1 H->(∀ H',Same H H'->Q (f i) H')->te (σ0.set k (some x)) H Q)
  (hd:∀ l H,H1 l=none->Same H1 H->H l=some (.lst (((List.range xs.length).filter b).map f))->fin l H):
  CompR (Itl K a) (gName k) tt te fin σ0 H1:=by
 refine mZ (xs:=xs) (fun l i σ H=>(σ=σ0\/∃ cv,σ=σ0.set k cv)/\Same H1 H/\H l=some (.lst (((List.range i).filter b).map f))) (fun l hl=>⟨.inl rfl,(Same.refl H1).laid hl,by rw [ae]; rfl⟩) (fun l i σ H _ _ p=>p.2.1.seq hq) ?_ (fun l σ H hl p=>hd l H hl p.2.1 p.2.2)
 rintro l i x σ H hl hx ⟨hσ,s1,el⟩
 have hi:i<xs.length:=(List.getElem?_eq_some_iff.mp hx).1
 rw [bo]
 have e:σ.set k (some x)=σ0.set k (some x):=by
  rcases hσ with rfl | ⟨cv,rfl⟩
  . rfl
  . exact List.set_set ..
 rw [e]
 refine ht i x H _ hx s1 fun H2 s2=>?_
 have el2:=s2 _ _ el
 cases hb:b i with
 | false=>
  rw [if_neg Bool.false_ne_true]
  refine ⟨.inr ⟨_,rfl⟩,s1.trans s2,?_⟩
  rw [List.range_succ,List.filter_append,List.filter_cons,hb]
  simpa using el2
 | true=>
  rw [if_pos rfl]
  refine he i x H2 _ hx hb (s1.trans s2) fun H3 s3=>⟨_,s3 _ _ el2,by rw [List.length_map]; exact aD (Nat.le_trans (kU b hi hn) (by decide)),.inr ⟨_,rfl⟩,((s1.trans s2).trans s3).own hl,?_⟩
  rw [ae,List.range_succ,List.filter_append,List.filter_cons,hb]
  simp
theorem j5 (b:Nat->Bool) (f:Nat->Int) (hn:n<=900)
  (ht:∀ i H R,i<n->Same H1 H->(∀ H',Same H H'->R (b i) H')->tt (σ0.set k (some (.int (lo+i)))) H R)
  (he:∀ i H Q,i<n->b i=true->Same H1 H->(∀ H',Same H H'->Q (.int (f i)) H')->te (σ0.set k (some (.int (lo+i)))) H Q)
  (hd:∀ l H,H1 l=none->Same H1 H->H l=some (.lst ((((List.range n).filter b).map f).map V.int))->fin l H):
  CompR (Itr lo n) (gName k) tt te fin σ0 H1:=
 ox b (fun i=>.int (f i)) hn ht he fun l H hl s1 el=>hd l H hl s1 (by rw [List.map_map]; exact el)
theorem xU (b:Int->Bool) (f:Int->Int) (xs:List Int):((List.range xs.length).filter fun i=>b (xs.getD i 0)).map (fun i=>V.int (f (xs.getD i 0)))=((xs.filter b).map f).map V.int:=by
 have e:xs=(List.range xs.length).map fun i=>xs.getD i 0:=by
  refine List.ext_getElem? fun i=>?_
  rw [List.getElem?_map]
  by_cases h:i<xs.length
  . rw [List.getElem?_range h,List.getElem?_eq_getElem h]
    simp [List.getD,h]
  . rw [List.getElem?_eq_none (by omega),List.getElem?_eq_none (by simpa using h)]; rfl
 conv=>rhs; rw [e]
 rw [List.filter_map,List.map_map,List.map_map]
 rfl
theorem cX {xs:List Int} (b:Int->Bool) (f:Int->Int) (hn:xs.length<=900) (hq:SqL K H1 a (xs.map V.int))
  (ht:∀ x H R,x∈xs->Same H1 H->(∀ H',Same H H'->R (b x) H')->tt (σ0.set k (some (.int x))) H R)
  (he:∀ x H Q,x∈xs->b x=true->Same H1 H->(∀ H',Same H H'->Q (.int (f x)) H')->te (σ0.set k (some (.int x))) H Q)
  (hd:∀ l H,H1 l=none->Same H1 H->H l=some (.lst (((xs.filter b).map f).map V.int))->fin l H):
  CompR (Itl K a) (gName k) tt te fin σ0 H1:=by
 refine cp (xs:=xs.map V.int) (fun i=>b (xs.getD i 0)) (fun i=>.int (f (xs.getD i 0))) (by rw [List.length_map]; exact hn) hq ?_ ?_ ?_
 . intro i x H R hx s1 h
   obtain ⟨z,hz,rfl⟩:=bh hx
   rw [kP hz] at h
   exact ht z H R (List.mem_of_getElem? hz) s1 h
 . intro i x H Q hx hb s1 h
   obtain ⟨z,hz,rfl⟩:=bh hx
   rw [kP hz] at h hb
   exact he z H Q (List.mem_of_getElem? hz) hb s1 h
 . intro l H hl s1 el
   refine hd l H hl s1 ?_
   rw [List.length_map] at el
   rw [el,xU]
structure NewAt (H1 H:Hp) (l:Addr) (as:List Addr) (os:List HO):Prop where
 len:as.length=os.length
 nd:as.Nodup
 nl:l∉as
 fr:∀ a∈as,H1 a=none
 at_:∀ (j:Nat) (a:Addr) (o:HO),as[j]? =some a->os[j]? =some o->H a=some o
theorem NewAt.nil {H1 H:Hp} {l:Addr}:NewAt H1 H l [] [] where
 len:=rfl
 nd:=List.nodup_nil
 nl:=by simp
 fr:=fun a h=>nomatch h
 at_:=fun j a o h=>by simp at h
theorem NewAt.same {H1 H H':Hp} {l:Addr} {as:List Addr} {os:List HO} (x:NewAt H1 H l as os) (s:Same H H'):NewAt H1 H' l as os:=
 ⟨x.len,x.nd,x.nl,x.fr,fun j a o h1 h2=>s _ _ (x.at_ j a o h1 h2)⟩
theorem NewAt.mem {H1 H:Hp} {l:Addr} {as:List Addr} {os:List HO} (x:NewAt H1 H l as os) {a:Addr} (h:a∈as):∃ o,H a=some o:=by
 obtain ⟨j,hj,e⟩:=List.mem_iff_getElem.mp h
 have hj2:j<os.length:=by rw [← x.len]; exact hj
 exact ⟨os[j],x.at_ j a os[j] (by rw [List.getElem?_eq_getElem hj,e]) (List.getElem?_eq_getElem hj2)⟩
theorem NewAt.more {H1 H H2:Hp} {l p:Addr} {as:List Addr} {os:List HO} {o u:HO} (x:NewAt H1 H l as os) (s1:Same H1 H) (s:Same H H2) (hp:H p=none) (e:H2 p=some o) (hl:H l=some u) (o':HO):NewAt H1 (upd H2 l o') l (as++[p]) (os++[o]):=by
 have npl:p≠l:=fun z=>by rw [z,hl] at hp; cases hp
 refine ⟨by simp [x.len],?_,?_,?_,?_⟩
 . refine List.nodup_append.mpr ⟨x.nd,by simp,fun a ha b hb z=>?_⟩
   rw [List.mem_singleton.mp hb] at z
   obtain ⟨o2,e2⟩:=x.mem ha
   rw [z,hp] at e2; cases e2
 . intro hm
   rcases List.mem_append.mp hm with hm | hm
   . exact x.nl hm
   . exact npl (List.mem_singleton.mp hm).symm
 . intro a ha
   rcases List.mem_append.mp ha with ha | ha
   . exact x.fr a ha
   . rw [List.mem_singleton.mp ha]
     cases q:H1 p with
     | none=>rfl
     | some v=>rw [s1 _ _ q] at hp; cases hp
 . intro j a o2 h1 h2
   have hlen:=x.len
   by_cases hj:j<as.length
   . rw [List.getElem?_append_left hj] at h1
     rw [List.getElem?_append_left (by omega)] at h2
     have nal:a≠l:=fun z=>x.nl (z ▸ List.mem_of_getElem? h1)
     rw [ai nal]
     exact s _ _ (x.at_ j a o2 h1 h2)
   . rw [List.getElem?_append_right (by omega)] at h1
     rw [List.getElem?_append_right (by omega)] at h2
     have e0:j-as.length=0:=by
      have:=(List.getElem?_eq_some_iff.mp h1).1
      simp at this
      omega
     rw [e0] at h1
     rw [show j-os.length=0 by omega] at h2
     simp at h1 h2
     subst h1 h2
     rw [ai npl]
     exact e
theorem u9 (b:Nat->Bool) (o:Nat->HO) (hn:n<=900)
  (ht:∀ i H R,i<n->Same H1 H->(∀ H',Same H H'->R (b i) H')->tt (σ0.set k (some (.int (lo+i)))) H R)
  (he:∀ i H Q,i<n->b i=true->Same H1 H->(∀ a H',Same H H'->H a=none->H' a=some (o i)->Q (.ref a) H')->te (σ0.set k (some (.int (lo+i)))) H Q)
  (hd:∀ l as H,H1 l=none->Same H1 H->H l=some (.lst (as.map V.ref))->NewAt H1 H l as (((List.range n).filter b).map o)->fin l H):
  CompR (Itr lo n) (gName k) tt te fin σ0 H1:=by
 refine pL (fun l i σ H=>(σ=σ0\/∃ cv,σ=σ0.set k cv)/\Same H1 H/\∃ as:List Addr,H l=some (.lst (as.map V.ref))/\NewAt H1 H l as (((List.range i).filter b).map o)) (fun l hl=>⟨.inl rfl,(Same.refl H1).laid hl,[],by rw [ae]; rfl,NewAt.nil⟩) ?_ (fun l σ H hl ⟨_,s1,as,el,x⟩=>hd l as H hl s1 el x)
 rintro l i σ H hl hi ⟨hσ,s1,as,el,x⟩
 rw [bo]
 have e:σ.set k (some (.int (lo+i)))=σ0.set k (some (.int (lo+i))):=by
  rcases hσ with rfl | ⟨cv,rfl⟩
  . rfl
  . exact List.set_set ..
 rw [e]
 refine ht i H _ hi s1 fun H2 s2=>?_
 have el2:=s2 _ _ el
 have x2:=x.same s2
 have s12:=s1.trans s2
 cases hb:b i with
 | false=>
  rw [if_neg Bool.false_ne_true]
  refine ⟨.inr ⟨_,rfl⟩,s12,as,el2,?_⟩
  rw [List.range_succ,List.filter_append,List.filter_cons,hb]
  simpa using x2
 | true=>
  rw [if_pos rfl]
  refine he i H2 _ hi hb s12 fun p H3 s3 hp ep=>⟨_,s3 _ _ el2,?_,.inr ⟨_,rfl⟩,(s12.trans s3).own hl,as++[p],?_,?_⟩
  . rw [List.length_map,x2.len,List.length_map]; exact aD (Nat.le_trans (kU b hi hn) (by decide))
  . rw [ae]; simp
  . have y:=x2.more s12 s3 hp ep el2 (.lst (as.map V.ref++[V.ref p]))
    rw [List.range_succ,List.filter_append,List.filter_cons,hb]
    simpa using y
theorem wg {xs:List V} (b:Nat->Bool) (o:Nat->HO) (hn:xs.length<=900) (hq:SqL K H1 a xs)
  (ht:∀ i x H R,xs[i]? =some x->Same H1 H->(∀ H',Same H H'->R (b i) H')->tt (σ0.set k (some x)) H R)
  (he:∀ i x H Q,xs[i]? =some x->b i=true->Same H1 H->(∀ a H',Same H H'->H a=none->H' a=some (o i)->Q (.ref a) H')->te (σ0.set k (some x)) H Q)
  (hd:∀ l as H,H1 l=none->Same H1 H->H l=some (.lst (as.map V.ref))->NewAt H1 H l as (((List.range xs.length).filter b).map o)->fin l H):
  CompR (Itl K a) (gName k) tt te fin σ0 H1:=by
 refine mZ (xs:=xs) (fun l i σ H=>(σ=σ0\/∃ cv,σ=σ0.set k cv)/\Same H1 H/\∃ as:List Addr,H l=some (.lst (as.map V.ref))/\NewAt H1 H l as (((List.range i).filter b).map o)) (fun l hl=>⟨.inl rfl,(Same.refl H1).laid hl,[],by rw [ae]; rfl,NewAt.nil⟩) (fun l i σ H _ _ p=>p.2.1.seq hq) ?_ (fun l σ H hl ⟨_,s1,as,el,x⟩=>hd l as H hl s1 el x)
 rintro l i y σ H hl hy ⟨hσ,s1,as,el,x⟩
 have hi:i<xs.length:=(List.getElem?_eq_some_iff.mp hy).1
 rw [bo]
 have e:σ.set k (some y)=σ0.set k (some y):=by
  rcases hσ with rfl | ⟨cv,rfl⟩
  . rfl
  . exact List.set_set ..
 rw [e]
 refine ht i y H _ hy s1 fun H2 s2=>?_
 have el2:=s2 _ _ el
 have x2:=x.same s2
 have s12:=s1.trans s2
 cases hb:b i with
 | false=>
  rw [if_neg Bool.false_ne_true]
  refine ⟨.inr ⟨_,rfl⟩,s12,as,el2,?_⟩
  rw [List.range_succ,List.filter_append,List.filter_cons,hb]
  simpa using x2
 | true=>
  rw [if_pos rfl]
  refine he i y H2 _ hy hb s12 fun p H3 s3 hp ep=>⟨_,s3 _ _ el2,?_,.inr ⟨_,rfl⟩,(s12.trans s3).own hl,as++[p],?_,?_⟩
  . rw [List.length_map,x2.len,List.length_map]; exact aD (Nat.le_trans (kU b hi hn) (by decide))
  . rw [ae]; simp
  . have z:=x2.more s12 s3 hp ep el2 (.lst (as.map V.ref++[V.ref p]))
    rw [List.range_succ,List.filter_append,List.filter_cons,hb]
    simpa using z
end
theorem vH:∀ {ds:List PyData},(∀ d∈ds,PyData.canLay0 d=true)->PyData.canLayAll0 ds=true
 | [],_=>rfl
 | d::r,h=>by rw [PyData.canLayAll0,h d List.mem_cons_self,vH fun e he=>h e (List.mem_cons_of_mem _ he)]; rfl
theorem rS {n:Nat}:∀ {ds:List PyData},(∀ d∈ds,PyData.depth d<=n)->PyData.depthAll ds<=n
 | [],_=>Nat.zero_le _
 | d::r,h=>by rw [PyData.depthAll]; exact Nat.max_le.mpr ⟨h d List.mem_cons_self,rS fun e he=>h e (List.mem_cons_of_mem _ he)⟩
theorem qR {α:Type} [DecidableEq α] (g:α->PyData) (hg:∀ a b,PyData.eqv (g a) (g b)=decide (a=b)):∀ xs ys:List α,PyData.eqvAll (xs.map g) (ys.map g)=decide (xs=ys)
 | [],[]=>rfl
 | [],_::_=>rfl
 | _::_,[]=>rfl
 | x::xs,y::ys=>by
  rw [List.map_cons,List.map_cons,PyData.eqvAll,hg,qR g hg xs ys,Bool.eq_iff_iff]
  simp
structure IsLL (H:Hp) (l:Addr) (as:List Addr) (xss:List (List Int)):Prop where
 top:H l=some (.lst (as.map V.ref))
 len:as.length=xss.length
 at_:∀ (j:Nat) (a:Addr) (xs:List Int),as[j]? =some a->xss[j]? =some xs->H a=some (.lst (xs.map V.int))
theorem IsLL.same {H H':Hp} {l:Addr} {as:List Addr} {xss:List (List Int)} (x:IsLL H l as xss) (s:Same H H'):IsLL H' l as xss:=
 ⟨s _ _ x.top,x.len,fun j a xs h1 h2=>s _ _ (x.at_ j a xs h1 h2)⟩
def cY (K:Frag):Sp:=fun vs H Q _=>∃ (a:Addr) (h w g c:Int),vs=[.ref a,.int c]/\IsFl H a h w g/\0<w/\w<100/\∀ p,H p=none->Q (.ref p) (upd H p (.tup [.int (c/w),.int (c%w)]))
theorem wj {K:Frag} {vs:List V} {H:Hp} {Q:VK} {E:XK} (h:cY K vs H Q E):vs.length=2:=by
 obtain ⟨_,_,_,_,_,rfl,_⟩:=h; rfl
def kC (K:Frag):TS:=
 (tSeq (tAsg (tOp cIx (tVar 0) (tC (.int 1))) (gName 2))
  (tRet (tTup (tCons (tOp cDiv (tVar 1) (tVar 2)) (tCons (tOp cMod (tVar 1) (tVar 2)) tNil)))))
theorem wk {K:Frag} {vs:List V} {H:Hp} {Q:VK} {E:XK} (h:cY K vs H Q E):kC K { nx:=fun _ H'=>Q .non H',rt:=Q } (start ["floor","cell","wide"] vs) H:=by
 obtain ⟨a,h,w,g,c,rfl,ha,w0,w1,k⟩:=h
 show kC K _ [some (.ref a),some (.int c),none] H
 unfold kC
 walk_at "w"
 rw [iz ha]
 refine aV (a:=V.int w) rfl ?_
 walk_at "w"
 refine ⟨⟨w0,by omega⟩,w0,aB (by show (2:Nat)<=1000; decide),k⟩
def dB (K:Frag):Sp:=fun vs H Q _=>∃ (a:Addr) (h w g c:Int),vs=[.ref a,.int c]/\IsFl H a h w g/\0<w/\w<100/\∀ l H',Same H H'->H l=none->H' l=some (.lst ((besL h w c).map V.int))->Q (.ref l) H'
theorem xV {K:Frag} {vs:List V} {H:Hp} {Q:VK} {E:XK} (h:dB K vs H Q E):vs.length=2:=by
 obtain ⟨_,_,_,_,_,rfl,_⟩:=h; rfl
def lh (K:Frag):TS:=
 (tSeq (tAsg (tOp cIx (tVar 0) (tC (.int 0))) (gName 2))
  (tSeq (tAsg (tOp cIx (tVar 0) (tC (.int 1))) (gName 3))
  (tSeq (tAsg (tCall (cY K) [] E0 (tCons (tVar 0) (tCons (tVar 1) tNil))) (gName 4))
  (tSeq (tAsg (tLst tNil) (gName 5))
  (tSeq (tIfS (tTest (tOp (cCmp fun i j=>decide (j<i)) (tOp cIx (tVar 4) (tC (.int 0))) (tC (.int 0)))) (tDrop (tBM K "list" bm (tVar 5) (tCons (tOp cSub (tVar 1) (tVar 3)) tNil))) tNext)
  (tSeq (tIfS (tTest (tOp (cCmp fun i j=>decide (j<i)) (tOp cIx (tVar 4) (tC (.int 1))) (tC (.int 0)))) (tDrop (tBM K "list" bm (tVar 5) (tCons (tOp cSub (tVar 1) (tC (.int 1))) tNil))) tNext)
  (tSeq (tIfS (tTest (tOp (cCmp fun i j=>decide (i<j)) (tOp cIx (tVar 4) (tC (.int 1))) (tOp cSub (tVar 3) (tC (.int 1))))) (tDrop (tBM K "list" bm (tVar 5) (tCons (tOp cAdd (tVar 1) (tC (.int 1))) tNil))) tNext)
  (tSeq (tIfS (tTest (tOp (cCmp fun i j=>decide (i<j)) (tOp cIx (tVar 4) (tC (.int 0))) (tOp cSub (tVar 2) (tC (.int 1))))) (tDrop (tBM K "list" bm (tVar 5) (tCons (tOp cAdd (tVar 1) (tVar 3)) tNil))) tNext)
  (tRet (tVar 5))))))))))
theorem pP {K:Frag} {D:Ends} {σ:St} {H:Hp} {t:TT} {e:TE} {b:Bool} {v:Int} {l:Addr} {i:Nat} {ns:List Int} (hσ:σ[i]? =some (some (.ref l))) (ht:∀ R,R b H->t σ H R) (hl:H l=some (.lst (ns.map V.int))) (hn:ns.length<=900)
  (he:∀ Q,Q (.int v) H->e σ H Q) (k:∀ H',(H' l=some (.lst ((ns++if b=true then [v] else []).map V.int)))->(∀ c,c≠l->H' c=H c)->D.nx σ H'):
  tIfS t (tDrop (tBM K "list" bm (tVar i) (tCons e tNil))) tNext D σ H:=by
 rw [aI]
 refine ht _ ?_
 cases b with
 | false=>
  refine iteF ?_
  rw [dj]
  exact k H (by simpa using hl) fun _ _=>rfl
 | true=>
  refine iteT ?_
  rw [dk,jL,gd]
  refine ⟨_,hσ,br hl,?_⟩
  rw [dl]
  refine he _ ?_
  rw [gf,c9 hl]
  refine ⟨by rw [List.length_map]; exact aD (by omega),k _ ?_ fun c hc=>ai hc⟩
  rw [ae]
  simp
theorem xW {K:Frag} {vs:List V} {H:Hp} {Q:VK} {E:XK} (h:dB K vs H Q E):lh K { nx:=fun _ H'=>Q .non H',rt:=Q } (start ["floor","cell","high","wide","spot","found"] vs) H:=by
 obtain ⟨a,h,w,g,c,rfl,ha,w0,w1,k⟩:=h
 show lh K _ [some (.ref a),some (.int c),none,none,none,none] H
 unfold lh
 walk_at "w"
 rw [iz ha]
 refine aV (a:=V.int h) rfl ?_
 walk_at "w"
 rw [iz ha]
 refine aV (a:=V.int w) rfl ?_
 walk_at "w"
 refine ⟨a,h,w,g,c,rfl,ha,w0,w1,fun p hp=>?_⟩
 walk_at "w"
 refine ⟨aB (by decide),fun l hl=>?_⟩
 have npl:p≠l:=fun e=>by rw [e,ae] at hl; cases hl
 have hl0:H l=none:=by rw [ai npl.symm] at hl; exact hl
 have hpS:∀ H':Hp,(∀ d,d≠l->H' d=upd H p (.tup [.int (c/w),.int (c%w)]) d)->H' p=some (.tup [.int (c/w),.int (c%w)]):=fun H' e=>by rw [e p npl,ae]
 refine pP (ns:=[]) (l:=l) (i:=5) (b:=decide (0<c/w)) (v:=c-w) rfl (fun R q=>?_) ae (by decide) (fun Q q=>?_) fun H1 e1 f1=>?_
 . walk_at "w"
   rw [iz (hpS _ fun d hd=>ai hd)]
   refine aV rfl ?_
   walk_at "w"
   exact q
 . walk_at "w"
   exact q
 walk_at "w"
 refine pP (l:=l) (i:=5) (b:=decide (0<c%w)) (v:=c-1) rfl (fun R q=>?_) e1 (by simp; split <;> simp) (fun Q q=>?_) fun H2 e2 f2=>?_
 . walk_at "w"
   rw [iz (hpS _ fun d hd=>by rw [f1 d hd,ai hd])]
   refine aV rfl ?_
   walk_at "w"
   exact q
 . walk_at "w"
   exact q
 walk_at "w"
 refine pP (l:=l) (i:=5) (b:=decide (c%w<w-1)) (v:=c+1) rfl (fun R q=>?_) e2 (by simp; split <;> split <;> simp) (fun Q q=>?_) fun H3 e3 f3=>?_
 . walk_at "w"
   rw [iz (hpS _ fun d hd=>by rw [f2 d hd,f1 d hd,ai hd])]
   refine aV rfl ?_
   walk_at "w"
   exact q
 . walk_at "w"
   exact q
 walk_at "w"
 refine pP (l:=l) (i:=5) (b:=decide (c/w<h-1)) (v:=c+w) rfl (fun R q=>?_) e3 (by simp; split <;> split <;> split <;> simp) (fun Q q=>?_) fun H4 e4 f4=>?_
 . walk_at "w"
   rw [iz (hpS _ fun d hd=>by rw [f3 d hd,f2 d hd,f1 d hd,ai hd])]
   refine aV rfl ?_
   walk_at "w"
   exact q
 . walk_at "w"
   exact q
 walk_at "w"
 refine k l H4 (fun b o e=>?_) hl0 ?_
 . have nb:b≠l:=aC e hl0
   have nbp:b≠p:=aC e hp
   rw [f4 b nb,f3 b nb,f2 b nb,f1 b nb,ai nb,ai nbp]
   exact e
 . rw [e4]
   unfold besL
   simp [decide_eq_true_eq]
structure FlOk (h w g:Int):Prop where
 h0:1<=h
 h1:h<=6
 w0:1<=w
 w1:w<=6
 m:h*w<=16
 g0:1<=g
 g1:g<=6
section
variable {K:Frag} {H:Hp} {Q:VK}
theorem xX {p:Addr} {xs:List V} (hp:H p=some (.lst xs)) (h:Q (.bl true) H):kIsi [.ref p,.ty "list"] H Q:=by
 refine ⟨by decide,aV (a:="list") (by unfold kT; dsimp only; rw [hp]) ?_⟩
 rw [show isTy "list" "list"=true by decide]
 exact h
theorem xY {p:Addr} {xs:List V} (hp:H p=some (.tup xs)) (h:Q (.bl true) H):kIsi [.ref p,.ty "tuple"] H Q:=by
 refine ⟨by decide,aV (a:="tuple") (by unfold kT; dsimp only; rw [hp]) ?_⟩
 rw [show isTy "tuple" "tuple"=true by decide]
 exact h
theorem yY {p q:Addr} {xs ys:List V} (hp:H p=some (.lst xs)) (hq:H q=some (.lst ys)) (hn:xs.length+ys.length<=1000) (h:Q .non (upd H p (.lst (xs++ys)))):kO (.ref p) [.ref q] H Q:=by
 show bnd (unM (H p)) _
 rw [hp]
 show bnd (unM (H q)) _
 rw [hq]
 exact ⟨Nat.le_of_lt (aD hn),h⟩
theorem m4 {n:Nat} {t:TGs} {σ:St} {k:St->Hp->Prop} {p:Addr} {xs:List V} (hp:H p=some (.tup xs)) (hn:xs.length=n) (h:t xs σ H k):gTup K n t (.ref p) σ H k:=⟨p,xs,rfl,SqT.of hp,hn,h⟩
theorem ma {i j:Nat} {x y:V} {σ:St} {k:St->Hp->Prop}:gCons (gName i) (gCons (gName j) gNil) [x,y] σ H k=k ((σ.set i (some x)).set j (some y)) H:=by
 refine propext ⟨?_,fun h=>⟨x,[y],rfl,y,[],rfl,rfl,h⟩⟩
 rintro ⟨v,r,e,v2,r2,e2,e3,h⟩
 cases e
 cases e2
 exact h
end
end L2
namespace L2
open PySem PySem.Builtin PySem.Builtin.Str
def tx (l:List Nat):Str:=⟨l.toArray⟩
theorem pQ (l:List Nat):(tx l).cps.toList=l:=by simp [tx]
theorem BA (x:Str):tx x.cps.toList=x:=by cases x; simp [tx]
theorem xZ {a b:List Nat} (h:tx a=tx b):a=b:=by rw [← pQ a,h,pQ]
theorem i8 (l:List Nat):(tx l).length=l.length:=by simp [tx,Str.length]
theorem t4 (a b:List Nat):tx a++tx b=tx (a++b):=by
 refine Str.ext' ?_
 rw [Str.cps_append]
 simp [tx]
theorem bd (a b:List Nat):decide (tx a=tx b)=decide (a=b):=by
 by_cases h:a=b
 . subst h; simp
 . have:¬ tx a=tx b:=fun e=>h (xZ e)
   rw [decide_eq_false h,decide_eq_false this]
def catL (c:Nat):List (List Nat)->List Nat
 | []=>[]
 | [x]=>x
 | x::y::r=>x++c::catL c (y::r)
theorem qS (c:Nat):∀ ts:List (List Nat),Str.join (tx [c]) (ts.map tx)=tx (catL c ts)
 | []=>rfl
 | [x]=>rfl
 | x::y::r=>by
  show tx x++tx [c]++Str.join (tx [c]) ((y::r).map tx)=_
  rw [qS c (y::r),t4,t4]
  show tx _=tx (x++c::catL c (y::r))
  rw [List.append_assoc]; rfl
theorem yZ (sep:Str) (ts:List Str):Txt.join sep ts=Str.join sep ts:=StrLaws.glued_eq_join sep ts
theorem vI {c:Nat}:∀ {a b x y:List Nat},c∉a->c∉b->a++c::x=b++c::y->a=b/\x=y
 | [],[],_,_,_,_,h=>⟨rfl,by simpa using h⟩
 | [],b::bs,_,_,_,hb,h=>by
  simp at h
  exact absurd (List.mem_cons.mpr (.inl h.1)) hb
 | a::as,[],_,_,ha,_,h=>by
  simp at h
  exact absurd (List.mem_cons.mpr (.inl h.1.symm)) ha
 | a::as,b::bs,x,y,ha,hb,h=>by
  simp at h
  have:=vI (fun z=>ha (List.mem_cons_of_mem _ z)) (fun z=>hb (List.mem_cons_of_mem _ z)) h.2
  exact ⟨by rw [h.1,this.1],this.2⟩
theorem t5 {c:Nat}:∀ {x:List Nat} {r:List (List Nat)} {y:List Nat},c∈catL c (x::y::r):=by
 intro x r y
 show c∈x++c::_
 simp
theorem t6 {c:Nat}:∀ {xs ys:List (List Nat)},xs≠[]->ys≠[]->(∀ x∈xs,c∉x)->(∀ y∈ys,c∉y)->catL c xs=catL c ys->xs=ys
 | [],_,h,_,_,_,_=>absurd rfl h
 | _,[],_,h,_,_,_=>absurd rfl h
 | [x],[y],_,_,_,_,h=>by
  have h':x=y:=h
  rw [h']
 | [x],y::z::r,_,_,hx,_,h=>by
  have h':x=catL c (y::z::r):=h
  exact absurd (h' ▸ t5) (hx x List.mem_cons_self)
 | x::z::r,[y],_,_,_,hy,h=>by
  have h':catL c (x::z::r)=y:=h
  exact absurd (h' ▸ t5) (hy y List.mem_cons_self)
 | x::z::r,y::u::s,_,_,hx,hy,h=>by
  obtain ⟨e1,e2⟩:=vI (hx x List.mem_cons_self) (hy y List.mem_cons_self) (show x++c::catL c (z::r)=y++c::catL c (u::s) from h)
  rw [e1,t6 (by simp) (by simp) (fun w hw=>hx w (List.mem_cons_of_mem _ hw)) (fun w hw=>hy w (List.mem_cons_of_mem _ hw)) e2]
theorem y0 (x y:Str):Txt.split x y≠[]:=by
 intro h
 unfold Txt.split at h
 split at h
 . cases h
 . split at h
   . cases h
   . rw [StrLaws.partsBetween_eq] at h
     obtain ⟨p,r,e⟩:=StrLaws.partsFrom_ne x y.length 0 (occurrences x y 0 x.length (x.length+1))
     rw [e] at h; cases h
theorem y1 {c:Nat} {rows:List (List Nat)} (hne:rows≠[]) (hf:∀ r∈rows,c∉r):Txt.split (tx (catL c rows)) (tx [c])=rows.map tx:=by
 have h1:=StrLaws.join_split (tx (catL c rows)) (tx [c])
 have h2:∀ p∈Txt.split (tx (catL c rows)) (tx [c]),c∉p.cps.toList:=StrLaws.split_free _ c
 have h3:=y0 (tx (catL c rows)) (tx [c])
 generalize Txt.split (tx (catL c rows)) (tx [c])=S at*
 have e:S=(S.map (·.cps.toList)).map tx:=by
  rw [List.map_map]
  conv=>lhs; rw [← List.map_id S]
  exact List.map_congr_left fun x _=>(BA x).symm
 rw [e,qS] at h1
 have h4:=xZ h1
 have h5:=t6 (c:=c) (xs:=S.map (·.cps.toList)) (ys:=rows) (by simpa using h3) hne (fun x hx=>by obtain ⟨p,hp,rfl⟩:=List.mem_map.mp hx; exact h2 p hp) hf h4
 rw [e,h5]
end L2
namespace L2
end L2
namespace L2
open PySem PySem.Spec PyProof.Rows
local macro_rules | `(tactic| walk_at "w")=>`(tactic| (first | simp only [aL,dj,fu,bo,gd,w_c,jK,dD,ei,dk,eE,w_b,w_not,gM,kl,eF,eI,gN,gf,dl,km,eJ,gO,gg,jL,gP,eK,eM,eP,eQ,cM,cN,cy,b9,cb,bF,gQ,gR,gS,gU,gW,gX,gY,gZ,g7,g8,g9,hV,kn,eV,ce,eW,ko,eX,cO,cf,hX,h9,e7,e8,e9,
 List.getElem?_cons_zero,List.getElem?_cons_succ,Option.some.injEq,exists_eq_left',exists_eq_left,List.set_cons_zero,List.set_cons_succ,bK,V.int.injEq,V.bl.injEq,V.ref.injEq,V.str.injEq,List.append_nil,List.nil_append,List.cons_append] | dsimp only | skip))
section
variable {k:Nat} {tt:TT} {te:TE} {fin:Addr->Hp->Prop} {σ0:St} {H1:Hp}
theorem x4 {cs:List Nat} (b:Nat->Bool) (f:Nat->V) (hn:cs.length<=900)
  (ht:∀ i c H R,cs[i]? =some c->Same H1 H->(∀ H',Same H H'->R (b i) H')->tt (σ0.set k (some (.str (tx [c])))) H R)
  (he:∀ i c H Q,cs[i]? =some c->b i=true->Same H1 H->(∀ H',Same H H'->Q (f i) H')->te (σ0.set k (some (.str (tx [c])))) H Q)
  (hd:∀ l H,H1 l=none->Same H1 H->H l=some (.lst (((List.range cs.length).filter b).map f))->fin l H):
  CompR (Its (tx cs)) (gName k) tt te fin σ0 H1:=by
 intro l hl
 have hsz:(tx cs).cps.size=cs.length:=by simp [tx]
 refine ⟨fun i m σ H=>m=cs.length-i/\i<=cs.length/\(σ=σ0\/∃ cv,σ=σ0.set k cv)/\Same H1 H/\H l=some (.lst (((List.range i).filter b).map f)),⟨cs.length,by simp,Nat.zero_le _,.inl rfl,(Same.refl H1).laid hl,by rw [ae]; rfl⟩,?_⟩
 rintro i m σ H ⟨rfl,hi,hσ,s1,el⟩
 by_cases hlt:i<cs.length
 . refine .inr ⟨by show i < (tx cs).cps.size; rw [hsz]; exact hlt,fun σ H=>(σ=σ0\/∃ cv,σ=σ0.set k cv)/\Same H1 H/\H l=some (.lst (((List.range (i+1)).filter b).map f)),fun σ' H' p'=>⟨cs.length - (i+1),by omega,rfl,hlt,p'⟩,?_⟩
   rintro x H' ⟨rfl,c,hc,rfl⟩
   have hc':cs[i]? =some c:=by simpa [tx] using hc
   show gName k (.str (tx [c])) σ H' _
   rw [bo]
   have e:σ.set k (some (.str (tx [c])))=σ0.set k (some (.str (tx [c]))):=by
    rcases hσ with rfl | ⟨cv,rfl⟩
    . rfl
    . exact List.set_set ..
   rw [e]
   refine ht i c H' _ hc' s1 fun H2 s2=>?_
   have el2:=s2 _ _ el
   cases hb:b i with
   | false=>
    rw [if_neg Bool.false_ne_true]
    refine ⟨.inr ⟨_,rfl⟩,s1.trans s2,?_⟩
    rw [List.range_succ,List.filter_append,List.filter_cons,hb]
    simpa using el2
   | true=>
    rw [if_pos rfl]
    refine he i c H2 _ hc' hb (s1.trans s2) fun H3 s3=>⟨_,s3 _ _ el2,by rw [List.length_map]; exact aD (Nat.le_trans (kU b hlt hn) (by decide)),.inr ⟨_,rfl⟩,((s1.trans s2).trans s3).own hl,?_⟩
    rw [ae,List.range_succ,List.filter_append,List.filter_cons,hb]
    simp
 . have e:i=cs.length:=by omega
   subst e
   exact .inl ⟨by show (tx cs).cps.size<=_; rw [hsz]; exact Nat.le_refl _,hd l H hl s1 el⟩
end
theorem si {α:Type} (xs:List Int) (g:Int->α):(List.range xs.length).map (fun i=>g (xs.getD i 0))=xs.map g:=by
 have e:xs=(List.range xs.length).map fun i=>xs.getD i 0:=by
  refine List.ext_getElem? fun i=>?_
  rw [List.getElem?_map]
  by_cases h:i<xs.length
  . rw [List.getElem?_range h,List.getElem?_eq_getElem h]
    simp [List.getD,h]
  . rw [List.getElem?_eq_none (by omega),List.getElem?_eq_none (by simpa using h)]; rfl
 conv=>rhs; rw [e]
 rw [List.map_map]
 rfl
theorem t7 {sep:Str} {ts:List Str} (h1:ts.length<=1000) (h2:∀ t∈ts,t.length<=1000) (h3:sep.length<=10):JoinOk sep ts=true:=by
 unfold JoinOk
 rw [Bool.not_eq_true']
 refine StrLaws.joinFits (B:=1000) h2 ?_
 have a1:ts.length*1000<=1000*1000:=Nat.mul_le_mul_right _ h1
 have a2:ts.length*sep.length<=1000*10:=Nat.mul_le_mul h1 h3
 omega
end L2
namespace L2
open PySem PySem.Spec PyProof.Rows
abbrev rIsN:R2:=fun x y H Q=>y=.non/\Q (.bl (decide (x=.non))) H
abbrev rNotN:R2:=fun x y H Q=>y=.non/\Q (.bl (!decide (x=.non))) H
def kStr:List V->Hp->VK->Prop
 | [.int i],H,Q=>i.natAbs.log2<1920/\Q (.str (Str.ofString (toString i))) H
 | _,_,_=>False
section
variable {X:Cx}
theorem rT:CallR X (.type "str") kStr:=by
 intro pins s σ H xs us Q I r h
 unfold kStr at h
 split at h
 . obtain ⟨hi,q⟩:=h
   cases r with
   | cons r0 rr=>
    cases rr
    obtain ⟨t,rfl⟩:=r0
    exact PySem.P.str_of_int hi ⟨.str _,H,I.tok _,⟨_,rfl⟩,q⟩
 . exact h.elim
end
section
variable {K:Frag} {H:Hp} {Q:VK}
theorem li {x:V}:rIsN x .non H Q=Q (.bl (decide (x=.non))) H:=by simp [rIsN]
theorem kf {x:V}:rNotN x .non H Q=Q (.bl (!decide (x=.non))) H:=by simp [rNotN]
theorem kD {i:Int}:kStr [.int i] H Q=(i.natAbs.log2<1920/\Q (.str (Str.ofString (toString i))) H):=rfl
end
end L2
namespace L2
open PySem PySem.Spec PyProof.Rows
structure Bt2 (mg:Str->Option Value):Prop extends Bt mg where
 all_:mg "all"=none
 sum_:mg "sum"=none
 enumerate_:mg "enumerate"=none
section
variable {K:Frag} {H:Hp} {Q:VK} {D:Ends} {σ:St} {g:TG} {tb:TS} {ta:TA} {ix:List (Option Nat)} {tt:TT} {te tf:TE} {k:Nat}
theorem kE:tIf tt te tf σ H Q=tt σ H fun c H1=>if c=true then te σ H1 Q else tf σ H1 Q:=rfl
theorem dG:tComp ix (l0 ta) g tt te σ H Q=ta σ H fun vs H1=>∃ i j:Int,vs=[.int i,.int j]/\(-(2^62)<=i/\i<2^62/\ -(2^62)<=j/\j<2^62)/\CompR (Itr i (j-i).toNat) g tt te (fun l H'=>Q (.ref l) H') (subσ ix σ) H1:=rfl
theorem cZ:sComp k ix (l0 ta) g tt te D σ H=ta σ H fun vs H1=>∃ i j:Int,vs=[.int i,.int j]/\(-(2^62)<=i/\i<2^62/\ -(2^62)<=j/\j<2^62)/\CompR (Itr i (j-i).toNat) g tt te (fun l H'=>D.nx (σ.set k (some (.ref l))) H') (subσ ix σ) H1:=rfl
theorem isiE {x:V} {n t:String} {b:Bool} (hx:kT H x=some t) (hn:nQ n=true) (hb:isTy t n=b):kIsi [x,.ty n] H Q=Q (.bl b) H:=by
 subst hb
 show (nQ n=true/\bnd (kT H x) fun t=>Q (.bl (isTy t n)) H)=_
 rw [hx]
 simp only [hn,true_and,bK]
theorem dH {i:Int}:kIsi [.int i,.ty "int"] H Q=Q (.bl true) H:=isiE (t:="int") rfl (by decide) (by decide)
theorem dI {i:Int}:kIsi [.int i,.ty "bool"] H Q=Q (.bl false) H:=isiE (t:="int") rfl (by decide) (by decide)
theorem dJ {i:Int}:kIsi [.int i,.ty "str"] H Q=Q (.bl false) H:=isiE (t:="int") rfl (by decide) (by decide)
theorem dL {i:Bool}:kIsi [.bl i,.ty "bool"] H Q=Q (.bl true) H:=isiE (t:="bool") rfl (by decide) (by decide)
theorem dM {i:Bool}:kIsi [.bl i,.ty "int"] H Q=Q (.bl true) H:=isiE (t:="bool") rfl (by decide) (by decide)
theorem dN {i:Str}:kIsi [.str i,.ty "str"] H Q=Q (.bl true) H:=isiE (t:="str") rfl (by decide) (by decide)
theorem dO {i:Bool}:kIsi [.bl i,.ty "str"] H Q=Q (.bl false) H:=isiE (t:="bool") rfl (by decide) (by decide)
theorem i9 {A B:Prop}:(if true=true then A else B)=A:=if_pos rfl
theorem ja {A B:Prop}:(if false=true then A else B)=B:=if_neg Bool.false_ne_true
theorem jb {i:Int}:rU (fun i=>.int (-i)) (.int i) H Q=Q (.int (-i)) H:=by
 refine propext ⟨?_,fun h=>⟨i,rfl,h⟩⟩
 rintro ⟨j,e,h⟩
 cases e
 exact h
theorem ixT {p:Addr} {i:Int} {xs:List V} {v:V} (h:H p=some (.tup xs)) (e:atI xs i=some v) (q:Q v H):cIx (.ref p) (.int i) H Q:=by
 rw [iz h]; exact aV e q
theorem ixL {p:Addr} {i:Int} {xs:List V} {v:V} (h:H p=some (.lst xs)) (e:atI xs i=some v) (q:Q v H):cIx (.ref p) (.int i) H Q:=by
 rw [zx h]; exact aV e q
theorem ixI {p:Addr} {i:Int} {ns:List Int} (h:H p=some (.lst (ns.map V.int))) (h0:0<=i) (h1:i<ns.length) (q:Q (.int (ns.getD i.toNat 0)) H):cIx (.ref p) (.int i) H Q:=ixL h (oH h0 h1) q
end
end L2
namespace L2
open PySem PySem.Spec PyProof.Rows
end L2
namespace L2
open PySem PySem.Spec PyProof.Rows
end L2
namespace L2
open PySem PySem.Spec PyProof.Rows
end L2
namespace L2
open PySem PySem.Spec PyProof.Rows
end L2
namespace L2
open PySem PySem.Spec PyProof.Rows
end L2
namespace L2
open PySem PySem.Spec PyProof.Rows
def cMulB:R2
 | .int i,.int j,H,Q=>IntMulOk i j/\Q (.int (i*j)) H
 | _,_,_,_=>False
end L2
namespace Att
open PySem PySem.W PySem.Calls PyProof.Rows
end Att
namespace L2
open PySem PySem.Spec PyProof.Rows
section
variable {K:Frag} {H:Hp} {Q:VK} {D:Ends} {σ:St}
theorem BP {i j:Int}:cMulB (.int i) (.int j) H Q=(IntMulOk i j/\Q (.int (i*j)) H):=rfl
theorem lj {i j:Int}:cPow (.int i) (.int j) H Q=(CPow i j/\Q (.int (i^j.toNat)) H):=rfl
theorem vJ {ix:List (Option Nat)} {tl:TE} {g:TG} {tt:TT} {te:TE}:tComp ix (iTup K tl) g tt te σ H Q=tl σ H fun x H1=>∃ a,x=.ref a/\(∃ xs,SqT K H1 a xs)/\CompR (Itt K a) g tt te (fun l H'=>Q (.ref l) H') (subσ ix σ) H1:=rfl
theorem BB {p:Addr} {bs:List Bool} (hp:H p=some (.lst (bs.map V.bl))) (h:Q (.bl (bs.any id)) H):kAny [.ref p] H Q:=by
 show bnd (unL (H p)) _
 rw [hp]
 exact aV (a:=bs.map V.bl) rfl ⟨bs,rfl,h⟩
theorem pR {p q:Addr} {xs ys:List V} (hp:H p=some (.lst xs)) (hq:H q=some (.lst ys)) (hn:xs.length+ys.length<=1000) (h:∀ r,H r=none->Q (.ref r) (upd H r (.lst (xs++ys)))):cAdd (.ref p) (.ref q) H Q:=by
 show bnd (unM (H p)) _
 rw [hp]
 refine aV (a:=xs) rfl ?_
 rw [hq]
 exact aV (a:=ys) rfl ⟨Nat.le_of_lt (aD hn),h⟩
theorem y2 {g:TG} {tt:TT} {te:TE} {a:Addr} {xs:List V} {fin:Addr->Hp->Prop} {σ0:St} {H1:Hp} (Pv:Addr->Nat->St->Hp->Prop) (h0:∀ l,H1 l=none->Pv l 0 σ0 (upd H1 l (.lst []))) (hq:∀ l i σ H,H1 l=none->i<=xs.length->Pv l i σ H->SqT K H a xs)
  (hs:∀ l i x σ H,H1 l=none->xs[i]? =some x->Pv l i σ H->g x σ H fun σ2 H3=>tt σ2 H3 fun b H4=>if b=true then te σ2 H4 fun y H5=>∃ ys,H5 l=some (.lst ys)/\ys.length<sizeLine/\Pv l (i+1) σ2 (upd H5 l (.lst (ys++[y]))) else Pv l (i+1) σ2 H4)
  (hd:∀ l σ H,H1 l=none->Pv l xs.length σ H->fin l H):CompR (Itt K a) g tt te fin σ0 H1:=by
 intro l hl0
 refine ⟨fun i m σ H=>m=xs.length-i/\i<=xs.length/\Pv l i σ H,⟨xs.length,by simp,Nat.zero_le _,h0 l hl0⟩,?_⟩
 rintro i m σ H ⟨rfl,hi,p⟩
 have q:=hq l i σ H hl0 hi p
 by_cases hlt:i<xs.length
 . refine .inr ⟨⟨xs,xs[i],q,by simp [hlt]⟩,Pv l (i+1),fun σ' H' p'=>⟨xs.length - (i+1),by omega,rfl,hlt,p'⟩,fun x H' y=>?_⟩
   obtain ⟨e,y⟩:=y
   subst e
   exact hs l i x σ _ hl0 (y xs q) p
 . have e:i=xs.length:=by omega
   subst e
   exact .inl ⟨⟨xs,q,Nat.le_refl _⟩,hd l σ H hl0 p⟩
end
end L2
namespace L2
open PySem PySem.Spec PyProof.Rows
inductive RK where
 | Rule | Unlike | Sum | Rising | Seen | Count | Joined | NoSquare | Ring
 deriving DecidableEq
structure RCl (ι:Type) where
 A:ι->Addr
 ok:ι->Bool
section
variable {ι:Type}
def tFldK (c:RCl ι) (ta:TE) (f:Str):TE:=fun σ H Q=>ta σ H fun x H1=>∃ a k dx fs v,x=.ref a/\c.ok k=true/\H1 a=some (.ins (c.A k) dx fs)/\fs.lookup f=some v/\Q v H1
def sFldK (c:RCl ι) (ta tv:TE) (f:Str):TS:=fun D σ H=>tv σ H fun y H1=>ta σ H1 fun x H2=>∃ a k dx fs,x=.ref a/\c.ok k=true/\H2 a=some (.ins (c.A k) dx fs)/\fs.length<1000/\
 D.nx σ (upd H2 a (.ins (c.A k) dx (putF f y fs)))
def be (c:RCl ι) (okm:ι->Bool) (m:Str) (sp:ι->Sp) (ta:TE) (t:TA):TE:=fun σ H Q=>ta σ H fun x H1=>∃ a k dx fs,x=.ref a/\okm k=true/\H1 a=some (.ins (c.A k) dx fs)/\fs.lookup m=none/\
 t σ H1 fun vs H2=>sp k (x::vs) H2 Q E0
structure FldK (K:Frag) (c:RCl ι) (f:Str):Prop where
 ex:∀ k,c.ok k=true->Cls K (c.A k)/\NoAttr K (c.A k) f
structure MCal (P:Program) (w:World) (K:Frag) (mg:Str->Option Value) (base:Heap) (c:RCl ι) (okm:ι->Bool) (k:Nat) (m:Str) (ps:List Str) (sp:ι->Sp):Prop where
 ex:∀ i,okm i=true->∃ (f:Addr) (fd:FuncData),Cls K (c.A i)/\Meth K (c.A i) m f/\FnOk P w K mg base CX0 k f fd ps (sp i)/\Binds K fd ps []
structure KCal (P:Program) (w:World) (K:Frag) (mg:Str->Option Value) (base:Heap) (k:Nat) (x:Str) (C:Addr) (ps:List Str) (sp:Sp):Prop where
 ex:∃ (f:Addr) (fd:FuncData),Mk K C f/\FnOk P w K mg base CX0 k f fd ps sp/\mg x=some (.ref C)/\Binds K fd ps []
end
section
variable {ι:Type} {X:Cx} {c:RCl ι} {o e value:Expr} {es:List Expr} {f x m:Str} {p pos pos' apos:Pos} {ta tv:TE} {t:TA} {okm:ι->Bool} {k n:Nat} {ps:List Str} {sp:ι->Sp} {sp1:Sp} {C:Addr}
theorem bL (he:PE X e ta) (F:FldK X.K c f) (hb:attributeBase e f X.env (eval e X.env)=eval e X.env:=by rfl):PE X (.Attribute e f pos) (tFldK c ta f):=by
 intro pins s σ H Q I h
 refine zK hb (thn (he pins s σ H _ I h) fun u s1 ⟨x,H1,I1,rx,a,k,dx,fs,v,ex,hk,ea,l,q⟩=>?_)
 subst ex
 obtain rfl:u=Value.ref a:=rx
 obtain ⟨cl,na⟩:=F.ex k hk
 exact vY I1 ea cl na l fun u' s2 I2 ru=>⟨v,H1,I2,ru,q⟩
theorem iQ (ha:PE X o ta) (hv:PE X value tv) (F:FldK X.K c f) (hs:swapsWith value (some (.Attribute o f pos')) pos.line X.env=pure false:=by rfl):PS X (.Assign [.Attribute o f pos'] value pos) (sFldK c ta tv f):=by
 intro pins s σ H D I h
 refine plainObj_wpAny_Assign_Attribute (thn (hv pins s σ H _ I h) fun u s1 ⟨y,H1,I1,ry,q⟩=>thn (ha pins s1 σ H1 _ I1 q) fun ov s2 ⟨x,H2,I2,rx,a,k,dx,fs,ex,hk,ea,l,q2⟩=>?_) hs
 subst ex
 obtain rfl:ov=Value.ref a:=rx
 obtain ⟨cl,na⟩:=F.ex k hk
 exact vZ I2 ea cl na l ry fun s3 I3=>⟨σ,_,I3,q2⟩
theorem cg {pl:Sem Bool} (M:MCal X.prog X.w X.K X.mg X.base c okm k m ps sp) (hr:Room n X.A) (hk:k<=n) (he:PE X o ta) (ha:PA X (e::es) t)
  (hst:starEach (e::es) X.env=(false,eval e X.env)::starEach es X.env:=by rfl) (hpl:(backTo pos (starEach es X.env)).any (·.1)=false:=by rfl)
  (ht:eval (.Call (.Attribute o m apos) (e::es) [] pos) X.env=(do
   let ov ← eval o X.env
   standAt apos.atName
   let (f,first) ← holding [ov] (getMethod ov m pl)
   callWith pos f first (backTo pos (starEach (e::es) X.env)) (backToKw pos (keywordEach [] X.env))):=by rfl):
  PE X (.Call (.Attribute o m apos) (e::es) [] pos) (be c okm m sp ta t):=by
 intro pins s σ H Q I h
 refine PySem.W.methodCall_KW (pl:=pl) (thn (he pins s σ H _ I h) fun u s1 ⟨x,H1,I1,rx,a,i,dx,fs,ex,hi,ea,l,q⟩=>?_) ht
 subst ex
 obtain rfl:u=Value.ref a:=rx
 obtain ⟨f,fd,cl,hm,F,hb⟩:=M.ex i hi
 refine pE I1 ea cl hm l ?_
 refine PySem.W.callWith_K (first:=[.ref a]) (h₀:=X.base) I.ok.mod.kin hm.kp (thn (ha pos pins s1 σ H1 _ I1 q) fun us s2 ⟨vs,H2,I2,r,q2⟩=>⟨I2.kIn,?_⟩) hst hpl
 exact tG (us:=.ref a::us) (vs:=.ref a::vs) F (hr.mono hk) hb .nil sY I2 (.cons rfl r) (by rw [List.append_nil]; exact q2)
theorem iR {pl:Sem Bool} (M:MCal X.prog X.w X.K X.mg X.base c okm k m ps sp) (hr:Room n X.A) (hk:k<=n) (he:PE X o ta)
  (ht:eval (.Call (.Attribute o m apos) [] [] pos) X.env=(do
   let ov ← eval o X.env
   standAt apos.atName
   let (f,first) ← holding [ov] (getMethod ov m pl)
   callWith pos f first (backTo pos (starEach [] X.env)) (backToKw pos (keywordEach [] X.env))):=by rfl):
  PE X (.Call (.Attribute o m apos) [] [] pos) (be c okm m sp ta tNil):=by
 intro pins s σ H Q I h
 refine PySem.W.methodCall_KW (pl:=pl) (thn (he pins s σ H _ I h) fun u s1 ⟨x,H1,I1,rx,a,i,dx,fs,ex,hi,ea,l,q⟩=>?_) ht
 subst ex
 obtain rfl:u=Value.ref a:=rx
 obtain ⟨f,fd,cl,hm,F,hb⟩:=M.ex i hi
 refine pE I1 ea cl hm l ?_
 exact PySem.W.callWith_K0 (first:=[.ref a]) I1.kIn hm.kp (tG (us:=[.ref a]) (vs:=[.ref a]) F (hr.mono hk) hb .nil sY I1 (.cons rfl .nil) q)
theorem kF (M:KCal X.prog X.w X.K X.mg X.base k x C ps sp1) (hr:Room n X.A) (hk:k+1<=n) (hg:Gl X x) (ha:PA X (e::es) t)
  (hdb:(x==("__debug__":Str))=false:=by decide) (he:starEach (e::es) X.env=(false,eval e X.env)::starEach es X.env:=by rfl) (hpl:(backTo pos (starEach es X.env)).any (·.1)=false:=by rfl):
  PE X (.Call (.Name x p) (e::es) [] pos) (tMake C sp1 [] E0 t):=by
 obtain ⟨f,fd,mk,F,hm,hb⟩:=M.ex
 exact zM mk F (hr.mono hk) hg hm hb .nil sY ha hdb he hpl
end
def kW (K:Frag):List V->Hp->VK->Prop
 | [.ref p],H,Q=>bnd (unM (H p)) fun ys=>∀ l,H l=none->Q (.ref l) (upd H l (.tup ys))
 | _,_,_=>False
def tInG (ws:List Str) (neg:Bool) (te:TE):TE:=fun σ H Q=>te σ H fun x H1=>∃ z,x=.str z/\Q (.bl (if neg then !decide (z∈ws) else decide (z∈ws))) H1
structure GTup (K:Frag) (mg:Str->Option Value) (x:Str) (ws:List Str):Prop where
 ex:∃ (p:Addr) (o:Obj) (its:Array Value) (n:Nat),mg x=some (.ref p)/\K.lookup p=some o/\o.cls=.type "tuple"/\o.data=.seq its n/\its.size<=sizeLine/\Vals (ws.map V.str) its.toList
theorem kg:∀ ns:List Str,(ns.map V.str).all flatV=true
 | []=>rfl
 | n::r=>by rw [List.map_cons,List.all_cons,kg r]; rfl
theorem md (i:Str):∀ ns:List Str,inV (.str i) (ns.map V.str)=decide (i∈ns)
 | []=>by simp [inV]
 | n::r=>by
  have ih:=md i r
  unfold inV at ih ⊢
  rw [List.map_cons,List.any_cons,ih]
  show ((n==i)||decide (i∈r))=decide (i∈n::r)
  rw [Bool.eq_iff_iff,Bool.or_eq_true,beq_iff_eq,decide_eq_true_eq,decide_eq_true_eq,List.mem_cons]
  exact ⟨fun h=>h.elim (fun e=>.inl e.symm) .inr,fun h=>h.elim (fun e=>.inl e.symm) .inr⟩
section
variable {X:Cx} {a:Expr} {ta:TE} {pos p:Pos} {x:Str} {ws:List Str}
theorem oy:CallR X (.type "tuple") (kW X.K):=by
 intro pins s σ H xs us Q I r h
 unfold kW at h
 split at h
 . obtain ⟨ys,e,q⟩:=aW h
   exact sh pins s σ H _ us Q I r ⟨_,ys,rfl,.inl ⟨SqL.of (gI e),q⟩⟩
 . exact h.elim
theorem AW {ws:List Str} {q:Addr} (hq:∃ (o:Obj) (its:Array Value) (n:Nat),X.K.lookup q=some o/\o.cls=.type "tuple"/\o.data=.seq its n/\its.size<=sizeLine/\Vals (ws.map V.str) its.toList):
  OpR X (compareOp .In) (fun x y H Q=>∃ z,x=.str z/\y=.ref q/\Q (.bl (decide (z∈ws))) H):=by
 intro pins s σ H x y v u Q I rx ry h
 obtain ⟨z,rfl,rfl,h⟩:=h
 refine mS pins s σ H _ _ v u Q I rx ry ⟨q,ws.map V.str,rfl,.inr (.inr hq),rfl,kg ws,?_⟩
 rw [md]
 exact h
theorem zX {ws:List Str} {q:Addr} (hq:∃ (o:Obj) (its:Array Value) (n:Nat),X.K.lookup q=some o/\o.cls=.type "tuple"/\o.data=.seq its n/\its.size<=sizeLine/\Vals (ws.map V.str) its.toList):
  OpR X (compareOp .NotIn) (fun x y H Q=>∃ z,x=.str z/\y=.ref q/\Q (.bl (!decide (z∈ws))) H):=by
 intro pins s σ H x y v u Q I rx ry h
 obtain ⟨z,rfl,rfl,h⟩:=h
 refine mT pins s σ H _ _ v u Q I rx ry ⟨q,ws.map V.str,rfl,.inr (.inr hq),rfl,kg ws,?_⟩
 rw [md]
 exact h
end
section
variable {ι:Type} {c:RCl ι} {ta tv:TE} {t:TA} {f m:Str} {σ:St} {H:Hp} {Q:VK} {D:Ends} {okm:ι->Bool} {sp:ι->Sp} {sp1:Sp} {C:Addr} {K:Frag}
theorem kh:tMake C sp1 [] E0 t σ H Q=t σ H fun vs H1=>∀ x dx,H1 x=none->H1 dx=none->dx≠x->sp1 (.ref x::(vs++[])) (upd (upd H1 dx (.own x)) x (.ins C dx [])) (fun v H2=>v=.non/\Q (.ref x) H2) E0:=rfl
theorem lp {ws:List Str} {neg:Bool} {te:TE}:tInG ws neg te σ H Q=te σ H fun x H1=>∃ z,x=.str z/\Q (.bl (if neg then !decide (z∈ws) else decide (z∈ws))) H1:=rfl
theorem zY {p:Addr} {xs:List V} (hp:H p=some (.lst xs)) (h:∀ l,H l=none->Q (.ref l) (upd H l (.tup xs))):kW K [.ref p] H Q:=by
 unfold kW
 dsimp only
 rw [hp]
 exact h
end
end L2
namespace L2
open PySem PySem.Spec PyProof.Rows
def cntD (ns:List Int):Nat:=(firstMet (fun i=>ns.getD i 0) ns.length).length
def lW (te:TE):TE:=fun σ H Q=>te σ H fun x H1=>∃ p ns,x=.ref p/\H1 p=some (.lst (ns.map V.int))/\ns.length<=900/\Q (.int (cntD ns:Nat)) H1
theorem fS {te:TE} {σ:St} {H:Hp} {Q:VK}:lW te σ H Q=te σ H fun x H1=>∃ p ns,x=.ref p/\H1 p=some (.lst (ns.map V.int))/\ns.length<=900/\Q (.int (cntD ns:Nat)) H1:=rfl
theorem zZ:bootBuiltins "set"=some (.type "set"):=by decide+kernel
theorem m5 {X:Cx} {e:Expr} {te:TE} {p p2 pos pos2:Pos} (hc:X.calm=true) (hgl:Gl X "len") (hgs:Gl X "set") (hl:X.mg "len"=none) (hs:X.mg "set"=none) (he:PE X e te)
  (hs1:starEach [.Call (.Name "set" p2) [e] [] pos2] X.env=[(false,eval (.Call (.Name "set" p2) [e] [] pos2) X.env)]:=by rfl) (hs2:starEach [e] X.env=[(false,eval e X.env)]:=by rfl):
  PE X (.Call (.Name "len" p) [.Call (.Name "set" p2) [e] [] pos2] [] pos) (lW te):=by
 intro pins s σ H Q I h
 refine wpAny_Call_Name_kw (gH I hgl hl aO ?_ (by decide) (by decide))
 refine PyProof.Rows.callWith_builtin1 ?_ hs1 rfl
 rw [hs1]
 show wpAny _ _ (spliced [(false,eval (.Call (.Name "set" p2) [e] [] pos2) X.env)]) _ _ s
 refine Calls.spliced_cons ?_
 refine wpAny_Call_Name_kw (gH I hgs hs zZ ?_ (by decide) (by decide))
 refine PyProof.Rows.callWith_type1 ?_ hs2 rfl
 rw [hs2]
 show wpAny _ _ (spliced [(false,eval e X.env)]) _ _ s
 refine Calls.spliced_cons (thn (he pins s σ H _ I h) fun u s1 ⟨x,H1,I1,r1,q1⟩=>?_)
 refine Calls.spliced_nil ?_
 obtain ⟨l,ns,rfl,hys,hn,q⟩:=q1
 cases r1
 obtain ⟨its,n,rv,ho,hz⟩:=I1.lst hys
 have hL:s1.heap.IsList l its.toArray:=⟨_,ho,rfl,n,rfl⟩
 have hI:IntsAre its ns:=pF rv
 have hlen:=rv.length
 rw [List.length_map] at hlen
 refine call_set_list (ns:=ns) (I.ok.hd hc) hL (by simpa using hI) (by rw [List.size_toArray,← hlen]; exact Nat.lt_of_le_of_lt (Nat.succ_le_succ hn) (by decide)) fun h' tk hS old=>?_
 refine Calls.spliced_nil ?_
 obtain ⟨o,es,ep,t,h1,h2,h3,h4,h5,h6,h7,h8⟩:=hS
 have hb:(firstMet (fun i=>ns.getD i 0) its.toArray.size).length<=900:=Nat.le_trans (firstMet_length_le _ _) (by rw [List.size_toArray,← hlen]; exact hn)
 refine call_len_set h1 h2 h3 h7 (by omega) ?_
 have I2:Inv X pins σ H1 { s1 with heap:=h',toks:=tk }:=I1.kept fun b o' e=>old b o' (Heap.lt_size e) e
 refine ⟨.int _,H1,I2.tok _,⟨_,rfl⟩,?_⟩
 rw [h8,List.size_toArray,← hlen]
 exact q
def m6:V->List V->Hp->VK->Prop
 | .str sep,[.ref p],H,Q=>bnd (unS (H p)) fun ys=>∃ ts:List Str,ys=ts.map V.str/\JoinOk sep ts=true/\Q (.str (Txt.join sep ts)) H
 | _,_,_,_=>False
theorem x8 {X:Cx}:MtR X "str.join" m6:=by
 intro pins s σ H x vs v us Q I rx rv h
 unfold m6 at h
 split at h
 . rename_i sep p
   obtain ⟨ys,e,ts,rfl,hok,q⟩:=aW h
   rcases lT (K:=X.K) e with hq | hq
   . obtain ⟨t,rfl⟩:=rx
     obtain ⟨u,rfl,ru⟩:=cV rv
     cases ru
     obtain ⟨its,rvv,pl,hz⟩:=I.list hq
     obtain ⟨l,rfl,hl⟩:=qQ rvv
     exact SC.join pl.isList hl hok fun t' k=>⟨.str _,H,I.tok k,⟨t',rfl⟩,q⟩
   . obtain ⟨t,rfl⟩:=rx
     obtain ⟨u,rfl,ru⟩:=cV rv
     cases ru
     obtain ⟨its,rvv,pl,hz⟩:=I.tuple hq
     obtain ⟨l,rfl,hl⟩:=qQ rvv
     subst hl
     obtain ⟨o,h1,h2,n,h3⟩:=pl
     have hok':=hok
     unfold JoinOk at hok'
     rw [Bool.not_eq_true'] at hok'
     exact call_meets F.slot_str_join (typeIs_str _ _ _) F.entry_str_join (F.args_str_join_2 _ _) (meets_str_join_tuple sep t p l hok') ⟨⟨o,n,h1,h2,h3⟩,post_join l ⟨joinFit_length hok',fun t' k=>⟨.str _,H,I.tok k,⟨t',rfl⟩,q⟩⟩⟩
 . exact h.elim
end L2
namespace L2
open PySem PySem.Spec PyProof.Rows
section
variable {X:Cx} {e:Expr} {te:TE} {p2 p3 p4 pos:Pos} {z0:Nat}
def pS:V->List V->Hp->VK->Prop
 | .ref l,[.int i],H,Q=>bnd (unM (H l)) fun xs=>0<=i/\i<xs.length/\bnd (xs[i.toNat]?) fun y=>Q y (upd H l (.lst (xs.eraseIdx i.toNat)))
 | _,_,_,_=>False
theorem seqIx {i:Int} {n:Nat} (h0:0<=i) (h1:i<n):seqIndex? i n=some i.toNat:=by
 obtain ⟨k,rfl⟩:=Int.eq_ofNat_of_zero_le h0
 have hk:k<n:=by omega
 unfold seqIndex?
 have hn:¬ ((k:Int)<0):=by omega
 simp [hk,hn]
theorem x9:MtR X "list.pop" pS:=by
 intro pins s σ H x vs v us Q I rx rv h
 unfold pS at h
 split at h
 . obtain ⟨xs,e,h0,h1,h⟩:=aW h
   obtain ⟨y,ey,q⟩:=aW h
   have hz:xs.length<=sizeLine:=(I.lstM (gI e)).1
   have hs:(sizeLine:Int)<2^63:=by decide
   exact yS pins s σ H _ _ v us Q I rx rv ⟨_,xs,_,_,y,rfl,rfl,gI e,by omega,by omega,seqIx h0 h1,ey,q⟩
 . exact h.elim
def tRevL (te:TE):TE:=fun σ H Q=>te σ H fun x H1=>∃ p xs,x=.ref p/\H1 p=some (.lst xs)/\∀ l,H1 l=none->Q (.ref l) (upd H1 l (.lst xs.reverse))
end
section
variable {σ:St} {H:Hp} {Q:VK} {te:TE}
theorem lq {i j:Int} {H:Hp} {Q:VK}:kMax [.int i,.int j] H Q=Q (.int (if j>i then j else i)) H:=rfl
theorem ki:tRevL te σ H Q=te σ H fun x H1=>∃ p xs,x=.ref p/\H1 p=some (.lst xs)/\∀ l,H1 l=none->Q (.ref l) (upd H1 l (.lst xs.reverse)):=rfl
theorem z4 {l:Addr} {i:Int} {xs:List V} {y:V} (hl:H l=some (.lst xs)) (h0:0<=i) (h1:i<xs.length) (ey:xs[i.toNat]? =some y) (q:Q y (upd H l (.lst (xs.eraseIdx i.toNat)))):pS (.ref l) [.int i] H Q:=by
 show bnd (unM (H l)) _
 rw [hl]
 exact aV (a:=xs) rfl ⟨h0,h1,aV ey q⟩
end
end L2
namespace L2
open PySem PySem.Spec PyProof.Rows
theorem wm:typeLookup (.type "str") (Str.ofString "__int__")=pure none:=by rw [typeLookup_type,builtinLookup_eq_fast]; kernel_rfl
theorem t8:typeLookup (.type "str") (Str.ofString "__index__")=pure none:=by rw [typeLookup_type,builtinLookup_eq_fast]; kernel_rfl
theorem t9:typeLookup (.type "str") (Str.ofString "__trunc__")=pure none:=by rw [typeLookup_type,builtinLookup_eq_fast]; kernel_rfl
def numC (n:Nat):List Nat:=if n<10 then [48+n] else [48+n/10,48+n%10]
theorem ya {n:Nat} (h:n<100):((tx (numC n)).cps.all fun x=>decide (x<128))=true:=by
 have t:((List.range 100).all fun n=>(tx (numC n)).cps.all fun x=>decide (x<128))=true:=by decide+kernel
 exact List.all_eq_true.mp t n (List.mem_range.mpr h)
theorem yb {α:Type} {M:Model} {A:Around} {E:Value->Shared->Prop} {s:Shared} {Q:α->Shared->Prop} {m m':Sem α} (e:m=m') (h:wpAny M A m' Q E s):wpAny M A m Q E s:=e ▸ h
theorem gis (n:Nat) (hn:n<100) (u:Tok):Gives (Builtin.«int.__new__» ⟨[.type "int",.str (tx (numC n)) u],[]⟩) (.int n):=
 .of_wp fun M A E s Q h=>by
  obtain ⟨hp,g,d,tk,os⟩:=s
  have f1:=PySem.F.conv_sub_int
  have f2:=PySem.F.madeHere_int
  have f3:=wm
  have f4:=t8
  have f5:=t9
  iterate 44 (any_goals (first | assumption | wp_step))
  refine wpAny_bind (wpAny_of_eq (a:=some (tx (numC n))) rfl ?_)
  refine wpAny_of_eq (a:=some (numC n)) ?e1 ?_
  case e1=>
   show (pure (some (if ((tx (numC n)).cps.all fun x=>decide (x<128))=true then (tx (numC n)).cps.toList else _)):Sem _)=_
   rw [if_pos (ya hn),pQ]
  refine yb (m':=mkInt (n:Int)) ?e2 ?_
  case e2=>
   clear h f1 f2 f3 f4 f5
   match n,hn with | 0,_=>kernel_rfl | 1,_=>kernel_rfl | 2,_=>kernel_rfl | 3,_=>kernel_rfl | 4,_=>kernel_rfl | 5,_=>kernel_rfl | 6,_=>kernel_rfl | 7,_=>kernel_rfl | 8,_=>kernel_rfl | 9,_=>kernel_rfl | 10,_=>kernel_rfl | 11,_=>kernel_rfl | 12,_=>kernel_rfl | 13,_=>kernel_rfl | 14,_=>kernel_rfl | 15,_=>kernel_rfl | 16,_=>kernel_rfl | 17,_=>kernel_rfl | 18,_=>kernel_rfl | 19,_=>kernel_rfl | 20,_=>kernel_rfl | 21,_=>kernel_rfl | 22,_=>kernel_rfl | 23,_=>kernel_rfl | 24,_=>kernel_rfl | 25,_=>kernel_rfl | 26,_=>kernel_rfl | 27,_=>kernel_rfl | 28,_=>kernel_rfl | 29,_=>kernel_rfl | 30,_=>kernel_rfl | 31,_=>kernel_rfl | 32,_=>kernel_rfl | 33,_=>kernel_rfl | 34,_=>kernel_rfl | 35,_=>kernel_rfl | 36,_=>kernel_rfl | 37,_=>kernel_rfl | 38,_=>kernel_rfl | 39,_=>kernel_rfl | 40,_=>kernel_rfl | 41,_=>kernel_rfl | 42,_=>kernel_rfl | 43,_=>kernel_rfl | 44,_=>kernel_rfl | 45,_=>kernel_rfl | 46,_=>kernel_rfl | 47,_=>kernel_rfl | 48,_=>kernel_rfl | 49,_=>kernel_rfl | 50,_=>kernel_rfl | 51,_=>kernel_rfl | 52,_=>kernel_rfl | 53,_=>kernel_rfl | 54,_=>kernel_rfl | 55,_=>kernel_rfl | 56,_=>kernel_rfl | 57,_=>kernel_rfl | 58,_=>kernel_rfl | 59,_=>kernel_rfl | 60,_=>kernel_rfl | 61,_=>kernel_rfl | 62,_=>kernel_rfl | 63,_=>kernel_rfl | 64,_=>kernel_rfl | 65,_=>kernel_rfl | 66,_=>kernel_rfl | 67,_=>kernel_rfl | 68,_=>kernel_rfl | 69,_=>kernel_rfl | 70,_=>kernel_rfl | 71,_=>kernel_rfl | 72,_=>kernel_rfl | 73,_=>kernel_rfl | 74,_=>kernel_rfl | 75,_=>kernel_rfl | 76,_=>kernel_rfl | 77,_=>kernel_rfl | 78,_=>kernel_rfl | 79,_=>kernel_rfl | 80,_=>kernel_rfl | 81,_=>kernel_rfl | 82,_=>kernel_rfl | 83,_=>kernel_rfl | 84,_=>kernel_rfl | 85,_=>kernel_rfl | 86,_=>kernel_rfl | 87,_=>kernel_rfl | 88,_=>kernel_rfl | 89,_=>kernel_rfl | 90,_=>kernel_rfl | 91,_=>kernel_rfl | 92,_=>kernel_rfl | 93,_=>kernel_rfl | 94,_=>kernel_rfl | 95,_=>kernel_rfl | 96,_=>kernel_rfl | 97,_=>kernel_rfl | 98,_=>kernel_rfl | 99,_=>kernel_rfl | (m+100),hm=>exact absurd hm (by omega)
  repeat (any_goals (first | assumption | wp_step))
  all_goals first | exact ⟨_,rfl,h⟩ | skip
def mf:List V->Hp->VK->Prop
 | [.int i],H,Q=>Q (.int i) H
 | [.bl k],H,Q=>Q (.int (if k then 1 else 0)) H
 | [.str z],H,Q=>∃ n:Nat,n<100/\z=tx (numC n)/\Q (.int n) H
 | _,_,_=>False
theorem pT {X:Cx}:CallR X (.type "int") mf:=by
 intro pins s σ H xs us Q I r h
 unfold mf at h
 split at h
 . exact rG pins s σ H _ us Q I r (.inl ⟨_,rfl,h⟩)
 . exact rG pins s σ H _ us Q I r (.inr ⟨_,rfl,h⟩)
 . obtain ⟨n,hn,rfl,q⟩:=h
   obtain ⟨u,rfl,ru⟩:=cV r
   obtain ⟨t,rfl⟩:=ru
   exact call_int_1 (gis n hn t).meets (show (Made.int (n:Int)).post _ s from ⟨rfl,⟨.int n,H,I.tok _,⟨_,rfl⟩,q⟩⟩)
 . exact h.elim
theorem iS {k:Bool} {H:Hp} {Q:VK}:mf [.bl k] H Q=Q (.int (if k then 1 else 0)) H:=rfl
theorem iT {i:Int} {H:Hp} {Q:VK}:mf [.int i] H Q=Q (.int i) H:=rfl
theorem vK {n:Nat} (h:n<100):Str.ofString (toString (n:Int))=tx (numC n):=by
 have t:((List.range 100).all fun (n:Nat)=>decide (Str.ofString (toString (n:Int))=tx (numC n)))=true:=by decide+kernel
 simpa using List.all_eq_true.mp t n (List.mem_range.mpr h)
theorem oI {n:Nat} (h:n<100):32∉numC n:=by
 have t:((List.range 100).all fun (n:Nat)=>decide (32∉numC n))=true:=by decide+kernel
 simpa using List.all_eq_true.mp t n (List.mem_range.mpr h)
theorem AX {n:Nat} (h:n<100):numC n≠[]:=by unfold numC; split <;> simp
theorem nS {n:Nat}:(numC n).length<=2:=by unfold numC; split <;> simp
theorem y3 {n:Nat} (h:n<100):((numC n).head? =some 48->n=0)/\numC 0=[48]:=by
 have t:((List.range 100).all fun (n:Nat)=>decide ((numC n).head? =some 48->n=0))=true:=by decide+kernel
 exact ⟨of_decide_eq_true (List.all_eq_true.mp t n (List.mem_range.mpr h)),rfl⟩
theorem vL {n:Nat} (h:n<100):∀ c∈numC n,48<=c/\c<=57:=by
 have t:((List.range 100).all fun (n:Nat)=>(numC n).all fun c=>decide (48<=c/\c<=57))=true:=by decide+kernel
 intro c hc
 simpa using List.all_eq_true.mp (List.all_eq_true.mp t n (List.mem_range.mpr h)) c hc
end L2
namespace L2
open PySem PySem.Spec PyProof.Rows
local macro_rules | `(tactic| walk_at "w")=>`(tactic| (first | simp only [aL,dj,fu,bo,gd,w_c,jK,dD,ei,dk,eE,w_b,w_not,gM,kl,eF,eI,gN,gf,dl,km,eJ,gO,gg,jL,gP,eK,eM,eP,eQ,cM,cN,cy,b9,cb,bF,gQ,gR,gS,gU,gW,gX,gY,gZ,g7,g8,g9,hV,kn,eV,ce,eW,ko,eX,cO,cf,hX,h9,e7,e8,e9,
 List.getElem?_cons_zero,List.getElem?_cons_succ,Option.some.injEq,exists_eq_left',exists_eq_left,List.set_cons_zero,List.set_cons_succ,bK,V.int.injEq,V.bl.injEq,V.ref.injEq,V.str.injEq,List.append_nil,List.nil_append,List.cons_append] | dsimp only | skip))
def aS (K:Frag):Sp:=fun vs H Q _=>∃ (a:Addr) (h w g:Int),vs=[.ref a]/\IsFl H a h w g/\1<=h/\h<=6/\Q (.int (h*w)) H
theorem sj {K:Frag} {vs:List V} {H:Hp} {Q:VK} {E:XK} (h:aS K vs H Q E):vs.length=1:=by
 obtain ⟨_,_,_,_,rfl,_⟩:=h; rfl
def ia (K:Frag):TS:=
 (tRet (tOp cMul (tOp cIx (tVar 0) (tC (.int 0))) (tOp cIx (tVar 0) (tC (.int 1)))))
theorem sk {K:Frag} {vs:List V} {H:Hp} {Q:VK} {E:XK} (h:aS K vs H Q E):ia K { nx:=fun _ H'=>Q .non H',rt:=Q } (start ["floor"] vs) H:=by
 obtain ⟨a,h,w,g,rfl,ha,h0,h1,q⟩:=h
 show ia K _ [some (.ref a)] H
 unfold ia
 walk_at "w"
 rw [iz ha]
 refine aV (a:=V.int h) rfl ?_
 walk_at "w"
 rw [iz ha]
 refine aV (a:=V.int w) rfl ?_
 walk_at "w"
 exact ⟨fR h0 h1,q⟩
def cornB (h w c:Int):Bool:=decide (c/w<h-1)&&decide (c%w<w-1)
def dm (K:Frag):Sp:=fun vs H Q _=>∃ (a:Addr) (h w g c:Int),vs=[.ref a,.int c]/\IsFl H a h w g/\0<w/\w<100/\∀ H',Same H H'->Q (.bl (cornB h w c)) H'
theorem ua {K:Frag} {vs:List V} {H:Hp} {Q:VK} {E:XK} (h:dm K vs H Q E):vs.length=2:=by
 obtain ⟨_,_,_,_,_,rfl,_⟩:=h; rfl
def jc (K:Frag):TS:=
 (tSeq (tAsg (tCall (cY K) [] E0 (tCons (tVar 0) (tCons (tVar 1) tNil))) (gName 2))
  (tRet (tAndV (tOp (cCmp fun i j=>decide (i<j)) (tOp cIx (tVar 2) (tC (.int 0))) (tOp cSub (tOp cIx (tVar 0) (tC (.int 0))) (tC (.int 1)))) (tOp (cCmp fun i j=>decide (i<j)) (tOp cIx (tVar 2) (tC (.int 1))) (tOp cSub (tOp cIx (tVar 0) (tC (.int 1))) (tC (.int 1)))))))
theorem ub {K:Frag} {vs:List V} {H:Hp} {Q:VK} {E:XK} (h:dm K vs H Q E):jc K { nx:=fun _ H'=>Q .non H',rt:=Q } (start ["floor","cell","spot"] vs) H:=by
 obtain ⟨a,h,w,g,c,rfl,ha,w0,w1,k⟩:=h
 show jc K _ [some (.ref a),some (.int c),none] H
 unfold jc
 walk_at "w"
 refine ⟨a,h,w,g,c,rfl,ha,w0,w1,fun p hp=>?_⟩
 have s1:Same H (upd H p (.tup [.int (c/w),.int (c%w)])):=(Same.refl H).laid hp
 have k1:=k _ s1
 have ha1:=s1 _ _ ha
 have hp1:(upd H p (.tup [.int (c/w),.int (c%w)])) p=some (.tup [.int (c/w),.int (c%w)]):=ae
 generalize upd H p (.tup [.int (c/w),.int (c%w)])=H1 at*
 walk_at "w"
 rw [iz hp1]
 refine aV (a:=V.int (c/w)) rfl ?_
 walk_at "w"
 rw [iz ha1]
 refine aV (a:=V.int h) rfl ?_
 walk_at "w"
 unfold cornB at k1
 cases hb:decide (c/w<h-1) with
 | false=>
  rw [hb,Bool.false_and] at k1
  exact iteF k1
 | true=>
  rw [hb,Bool.true_and] at k1
  refine iteT ?_
  rw [iz hp1]
  refine aV (a:=V.int (c%w)) rfl ?_
  walk_at "w"
  rw [iz ha1]
  refine aV (a:=V.int w) rfl ?_
  walk_at "w"
  exact k1
def sqL (w c:Int):List Int:=[c,c+1,c+w,c+w+1]
def dn (K:Frag):Sp:=fun vs H Q _=>∃ (a:Addr) (h w g c:Int),vs=[.ref a,.int c]/\IsFl H a h w g/\∀ p,H p=none->Q (.ref p) (upd H p (.lst ((sqL w c).map V.int)))
theorem uc {K:Frag} {vs:List V} {H:Hp} {Q:VK} {E:XK} (h:dn K vs H Q E):vs.length=2:=by
 obtain ⟨_,_,_,_,_,rfl,_⟩:=h; rfl
def jd (K:Frag):TS:=
 (tSeq (tAsg (tOp cAdd (tVar 1) (tOp cIx (tVar 0) (tC (.int 1)))) (gName 2))
  (tRet (tLst (tCons (tVar 1) (tCons (tOp cAdd (tVar 1) (tC (.int 1))) (tCons (tVar 2) (tCons (tOp cAdd (tVar 2) (tC (.int 1))) tNil)))))))
theorem ud {K:Frag} {vs:List V} {H:Hp} {Q:VK} {E:XK} (h:dn K vs H Q E):jd K { nx:=fun _ H'=>Q .non H',rt:=Q } (start ["floor","corner","below"] vs) H:=by
 obtain ⟨a,h,w,g,c,rfl,ha,k⟩:=h
 show jd K _ [some (.ref a),some (.int c),none] H
 unfold jd
 walk_at "w"
 rw [iz ha]
 refine aV (a:=V.int w) rfl ?_
 walk_at "w"
 exact ⟨aB (by show (4:Nat)<=1000; decide),k⟩
def squL (h w:Int):List (List Int):=((List.range (h*w).toNat).filter fun (i:Nat)=>cornB h w i).map fun (i:Nat)=>sqL w i
def gl (K:Frag):Sp:=fun vs H Q _=>∃ (a:Addr) (h w g:Int),vs=[.ref a]/\IsFl H a h w g/\FlOk h w g/\
 ∀ l as H',Same H H'->H l=none->IsLL H' l as (squL h w)->as.Nodup->l∉as->(∀ a∈as,H a=none)->Q (.ref l) H'
theorem wn {K:Frag} {vs:List V} {H:Hp} {Q:VK} {E:XK} (h:gl K vs H Q E):vs.length=1:=by
 obtain ⟨_,_,_,_,rfl,_⟩:=h; rfl
def kG (K:Frag):TS:=
 (tRet (tComp [none,none,some 0] (gK (tCons (tCall (aS K) [] E0 (tCons (tVar 0) tNil)) tNil)) (gName 1) (tB (tCall (dm K) [] E0 (tCons (tVar 2) (tCons (tVar 1) tNil)))) (tCall (dn K) [] E0 (tCons (tVar 2) (tCons (tVar 1) tNil)))))
theorem NewAt.ll {H1 H:Hp} {l:Addr} {as:List Addr} {xss:List (List Int)} (x:NewAt H1 H l as (xss.map fun xs=>.lst (xs.map V.int))) (e:H l=some (.lst (as.map V.ref))):IsLL H l as xss:=
 ⟨e,by rw [x.len,List.length_map],fun j a xs h1 h2=>x.at_ j a _ h1 (by rw [List.getElem?_map,h2]; rfl)⟩
theorem wo {K:Frag} {vs:List V} {H:Hp} {Q:VK} {E:XK} (h:gl K vs H Q E):kG K { nx:=fun _ H'=>Q .non H',rt:=Q } (start ["floor"] vs) H:=by
 obtain ⟨a,h,w,g,rfl,ha,F,k⟩:=h
 obtain ⟨h0,h1,w0,w1,m16,g0,g1⟩:=F
 have mpos:0<=h*w:=Int.mul_nonneg (by omega) (by omega)
 show kG K _ [some (.ref a)] H
 unfold kG
 walk_at "w"
 refine ⟨a,h,w,g,rfl,ha,h0,h1,?_⟩
 walk_at "w"
 refine ⟨h*w,rfl,by omega,by omega,?_⟩
 refine u9 (fun (i:Nat)=>cornB h w i) (fun (i:Nat)=>.lst ((sqL w i).map V.int)) (by omega) ?_ ?_ ?_
 . intro i H1 R hi s1 k1
   show tB _ [none,some (.int (0+(i:Int))),some (.ref a)] H1 R
   walk_at "w"
   rw [Int.zero_add]
   exact ⟨a,h,w,g,_,rfl,s1 _ _ ha,by omega,by omega,fun H2 s2=>⟨_,rfl,k1 H2 s2⟩⟩
 . intro i H1 Q1 hi hb s1 k1
   show tCall _ _ _ _ [none,some (.int (0+(i:Int))),some (.ref a)] H1 Q1
   walk_at "w"
   rw [Int.zero_add]
   exact ⟨a,h,w,g,_,rfl,s1 _ _ ha,fun p hp=>k1 p _ ((Same.refl H1).laid hp) hp ae⟩
 . intro l as H2 hl s2 el x
   have x':NewAt H H2 l as ((squL h w).map fun xs=>.lst (xs.map V.int)):=by
    unfold squL
    rw [List.map_map]
    exact x
   exact k l as H2 s2 hl (x'.ll el) x.nd x.nl x.fr
end L2
namespace L2
open PySem PySem.Spec PyProof.Rows
local macro_rules | `(tactic| walk_at "w")=>`(tactic| (first | simp only [aL,kh,lp,fS,ki,iS,iT,lq,li,kf,lj,if_true,if_false,Bool.false_eq_true,decide_true,decide_false,gj,gk,kE,dG,cZ,gh,i7,gi,dF,iZ,i6,dE,kB,dH,dI,dL,dM,dN,dO,dJ,i9,ja,jb,iY,kD,Bool.not_true,Bool.not_false,dj,fu,bo,gd,w_c,jK,dD,ei,dk,eE,w_b,w_not,gM,kl,eF,eI,gN,gf,dl,km,eJ,gO,gg,jL,gP,eK,eM,eP,eQ,cM,cN,cy,b9,cb,bF,gQ,gR,gS,gU,gW,gX,gY,gZ,g7,g8,g9,hV,kn,eV,ce,eW,ko,eX,cO,cf,hX,h9,e7,e8,e9,
 List.getElem?_cons_zero,List.getElem?_cons_succ,Option.some.injEq,exists_eq_left',exists_eq_left,List.set_cons_zero,List.set_cons_succ,bK,V.int.injEq,V.bl.injEq,V.ref.injEq,V.str.injEq,List.append_nil,List.nil_append,List.cons_append] | dsimp only | skip))
def nmC:RK->List Nat
 | .Rule=>[]
 | .Unlike=>[117,110,108,105,107,101]
 | .Sum=>[115,117,109]
 | .Rising=>[114,105,115,105,110,103]
 | .Seen=>[115,101,101,110]
 | .Count=>[99,111,117,110,116]
 | .Joined=>[106,111,105,110,101,100]
 | .NoSquare=>[110,111,115,113,117,97,114,101]
 | .Ring=>[114,105,110,103]
def gm:List Str:=[tx [115,117,109],tx [115,101,101,110],tx [99,111,117,110,116]]
def fT:List Str:=[tx [99,111,117,110,116],tx [106,111,105,110,101,100],tx [110,111,115,113,117,97,114,101],tx [114,105,110,103]]
def fv:List Str:=[tx [106,111,105,110,101,100],tx [110,111,115,113,117,97,114,101],tx [114,105,110,103]]
def rFs (p W C:Addr) (n m:Int):List (Str × V):=[("floor",.ref p),("words",.ref W),("cells",.ref C),("amount",.int n),("mark",.int m)]
structure IsRule (H:Hp) (c:RCl RK) (k:RK) (r p:Addr) (ws:List (List Nat)) (cs:List Int) (n m:Int):Prop where
 ok:c.ok k=true
 ex:∃ dx W C,H r=some (.ins (c.A k) dx (rFs p W C n m))/\H W=some (.tup ((ws.map tx).map V.str))/\H C=some (.tup (cs.map V.int))
theorem IsRule.same {H H':Hp} {c:RCl RK} {k:RK} {r p:Addr} {ws:List (List Nat)} {cs:List Int} {n m:Int} (x:IsRule H c k r p ws cs n m) (s:Same H H'):IsRule H' c k r p ws cs n m:=by
 obtain ⟨dx,W,C,h1,h2,h3⟩:=x.ex
 exact ⟨x.ok,dx,W,C,s _ _ h1,s _ _ h2,s _ _ h3⟩
section
variable {ι:Type} {c:RCl ι} {σ:St} {H:Hp} {Q:VK} {i:Nat} {r dx:Addr} {k:ι} {fs:List (Str × V)} {f m:Str} {v:V} {okm:ι->Bool} {sp:ι->Sp} {t:TA} {D:Ends} {tv:TE} {y:V} {H1:Hp}
theorem fldE (hσ:σ[i]? =some (some (.ref r))) (ok:c.ok k=true) (hr:H r=some (.ins (c.A k) dx fs)) (hl:fs.lookup f=some v) (q:Q v H):tFldK c (tVar i) f σ H Q:=⟨_,hσ,r,k,dx,fs,v,rfl,ok,hr,hl,q⟩
theorem methE (hσ:σ[i]? =some (some (.ref r))) (ok:okm k=true) (hr:H r=some (.ins (c.A k) dx fs)) (hl:fs.lookup m=none) (q:t σ H fun vs H2=>sp k (.ref r::vs) H2 Q E0):be c okm m sp (tVar i) t σ H Q:=⟨_,hσ,r,k,dx,fs,rfl,ok,hr,hl,q⟩
theorem sfldV {j:Nat} {x:V} (hj:σ[j]? =some (some x)) (hσ:σ[i]? =some (some (.ref r))) (ok:c.ok k=true) (hr:H r=some (.ins (c.A k) dx fs)) (hn:fs.length<1000) (q:D.nx σ (upd H r (.ins (c.A k) dx (putF f x fs)))):sFldK c (tVar i) (tVar j) f D σ H:=
 ⟨x,hj,_,hσ,r,k,dx,fs,rfl,ok,hr,hn,q⟩
theorem sfldT {K:Frag} {j:Nat} {p:Addr} {xs:List V} (hj:σ[j]? =some (some (.ref p))) (hp:H p=some (.lst xs)) (hσ:σ[i]? =some (some (.ref r))) (ok:c.ok k=true) (hr:H r=some (.ins (c.A k) dx fs)) (hn:fs.length<1000)
  (q:∀ l,H l=none->D.nx σ (upd (upd H l (.tup xs)) r (.ins (c.A k) dx (putF f (.ref l) fs)))):sFldK c (tVar i) (tCB (kW K) (tCons (tVar j) tNil)) f D σ H:=by
 unfold sFldK
 walk_at "w"
 refine ⟨_,hj,zY hp fun l hl=>?_⟩
 exact ⟨_,hσ,r,k,dx,fs,rfl,ok,by rw [ai (aC hr hl)]; exact hr,hn,q l hl⟩
end
theorem z5 {H:Hp} {Q:VK} {p:Addr} {xs:List V} (hp:H p=some (.tup xs)) (h:∀ l,H l=none->Q (.ref l) (upd H l (.lst xs))):kList [.ref p] H Q:=by
 unfold kList
 dsimp only
 rw [hp]
 exact h
theorem z6 {H:Hp} {Q:VK} {sep:Str} {p:Addr} {ts:List Str} (hp:H p=some (.lst (ts.map V.str))) (hok:JoinOk sep ts=true) (h:Q (.str (Txt.join sep ts)) H):m6 (.str sep) [.ref p] H Q:=by
 unfold m6
 dsimp only
 rw [hp]
 exact ⟨ts,rfl,hok,h⟩
theorem rV {K:Frag} {a:Addr} {k:Nat} {tt:TT} {te:TE} {fin:Addr->Hp->Prop} {σ0:St} {H1:Hp} {xs:List Int} (b:Int->Bool) (f:Int->Int) (hn:xs.length<=900) (hq:H1 a=some (.tup (xs.map V.int)))
  (ht:∀ x H R,x∈xs->Same H1 H->(∀ H',Same H H'->R (b x) H')->tt (σ0.set k (some (.int x))) H R)
  (he:∀ x H Q,x∈xs->b x=true->Same H1 H->(∀ H',Same H H'->Q (.int (f x)) H')->te (σ0.set k (some (.int x))) H Q)
  (hd:∀ l H,H1 l=none->Same H1 H->H l=some (.lst (((xs.filter b).map f).map V.int))->fin l H):CompR (Itt K a) (gName k) tt te fin σ0 H1:=by
 refine y2 (xs:=xs.map V.int) (fun l i σ H=>(σ=σ0\/∃ cv,σ=σ0.set k cv)/\Same H1 H/\H l=some (.lst ((((xs.take i).filter b).map f).map V.int))) (fun l hl=>⟨.inl rfl,(Same.refl H1).laid hl,by rw [ae]; rfl⟩) (fun l i σ H _ _ p=>SqT.of (p.2.1 _ _ hq)) ?_ (fun l σ H hl p=>hd l H hl p.2.1 (by have:=p.2.2; rw [List.length_map,List.take_length] at this; exact this))
 rintro l i x σ H hl hx ⟨hσ,s1,el⟩
 obtain ⟨z,hz,rfl⟩:=bh hx
 have hi:i<xs.length:=(List.getElem?_eq_some_iff.mp hz).1
 have et:xs.take (i+1)=xs.take i++[z]:=by rw [List.take_succ,hz]; rfl
 rw [bo]
 have e:σ.set k (some (.int z))=σ0.set k (some (.int z)):=by
  rcases hσ with rfl | ⟨cv,rfl⟩
  . rfl
  . exact List.set_set ..
 rw [e]
 refine ht z H _ (List.mem_of_getElem? hz) s1 fun H2 s2=>?_
 have el2:=s2 _ _ el
 have hlen:((((xs.take i).filter b).map f).map V.int).length<sizeLine:=by
  rw [List.length_map,List.length_map]
  refine aD (Nat.le_trans (List.length_filter_le b _) ?_)
  rw [List.length_take]
  omega
 cases hb:b z with
 | false=>
  rw [if_neg Bool.false_ne_true]
  refine ⟨.inr ⟨_,rfl⟩,s1.trans s2,?_⟩
  rw [et,List.filter_append,List.filter_cons,hb]
  simpa using el2
 | true=>
  rw [if_pos rfl]
  refine he z H2 _ (List.mem_of_getElem? hz) hb (s1.trans s2) fun H3 s3=>⟨_,s3 _ _ el2,hlen,.inr ⟨_,rfl⟩,((s1.trans s2).trans s3).own hl,?_⟩
  rw [ae,et,List.filter_append,List.filter_cons,hb]
  simp
def nT (K:Frag) (c:RCl RK) (k:RK):Sp:=fun vs H Q _=>∃ (r p:Addr) (w:List Nat) (ws:List (List Nat)) (cs:List Int) (n m:Int),vs=[.ref r]/\IsRule H c k r p (w::ws) cs n m/\Q (.str (tx w)) H
def jN (K:Frag) (c:RCl RK) (k:RK):Sp:=fun vs H Q _=>∃ (r p:Addr) (ws:List (List Nat)) (cs:List Int) (n m:Int),vs=[.ref r]/\IsRule H c k r p ws cs n m/\∀ l,H l=none->Q (.ref l) (upd H l (.lst (cs.map V.int)))
def sgAt (xs cs:List Int):List Int:=cs.map fun c=>xs.getD c.toNat 0
def mkAt (xs cs:List Int) (m:Int):List Int:=cs.filter fun c=>decide (xs.getD c.toNat 0=m)
def gn (cs:List Int) (n:Nat):Prop:=cs.length<=63/\∀ c∈cs,0<=c/\c<n
def bv (K:Frag) (c:RCl RK) (k:RK):Sp:=fun vs H Q _=>∃ (r p f:Addr) (ws:List (List Nat)) (cs xs:List Int) (n m:Int),vs=[.ref r,.ref f]/\IsRule H c k r p ws cs n m/\H f=some (.lst (xs.map V.int))/\gn cs xs.length/\
 ∀ l H',Same H H'->H l=none->H' l=some (.lst ((sgAt xs cs).map V.int))->Q (.ref l) H'
def bG (K:Frag) (c:RCl RK) (k:RK):Sp:=fun vs H Q _=>∃ (r p f:Addr) (ws:List (List Nat)) (cs xs:List Int) (n m:Int),vs=[.ref r,.ref f]/\IsRule H c k r p ws cs n m/\H f=some (.lst (xs.map V.int))/\gn cs xs.length/\
 ∀ l H',Same H H'->H l=none->H' l=some (.lst ((mkAt xs cs m).map V.int))->Q (.ref l) H'
def risB:List Int->Bool
 | x::y::r=>decide (x<y)&&risB (y::r)
 | _=>true
def seenN (xs:List Int):Int × Int:=xs.foldl (fun a x=>if a.1<x then (x,a.2+1) else a) (0,0)
noncomputable def joinB (h w:Int) (ms:List Int):Bool:=@decide (ms=[]\/(ms.Pairwise (· < ·)/\∀ x∈ms,RC h w ms (ms.headD 0) x)) (Classical.propDecidable _)
def twoB (h w:Int) (ms:List Int) (c:Int):Bool:=decide (((besL h w c).filter fun y=>decide (y∈ms)).length=2)
noncomputable def hoB (k:RK) (h w:Int) (cs:List Int) (n m:Int) (xs:List Int):Bool:=match k with
 | .Unlike=>decide (cntD (sgAt xs cs)=(sgAt xs cs).length)
 | .Sum=>decide ((sgAt xs cs).sum=n)
 | .Rising=>risB (sgAt xs cs)
 | .Seen=>decide ((seenN (sgAt xs cs)).2=n)
 | .Count=>decide (((mkAt xs cs m).length:Int)=n)
 | .NoSquare=>!((squL h w).any fun sq=>sq.all fun c=>decide (c∈mkAt xs cs m))
 | .Joined=>joinB h w (mkAt xs cs m)
 | .Ring=>joinB h w (mkAt xs cs m)&&(mkAt xs cs m).all (twoB h w (mkAt xs cs m))
 | _=>true
def cF (K:Frag) (c:RCl RK) (k:RK):Sp:=fun vs H Q _=>∃ (r p f:Addr) (ws:List (List Nat)) (cs xs:List Int) (n m h w g:Int),vs=[.ref r,.ref f]/\IsRule H c k r p ws cs n m/\IsFl H p h w g/\FlOk h w g/\H f=some (.lst (xs.map V.int))/\gn cs xs.length/\(∀ x∈xs,0<=x/\x<=1000)/\
 ∀ H',Same H H'->Q (.bl (hoB k h w cs n m xs)) H'
def cG (K:Frag) (c:RCl RK) (k:RK):Sp:=fun vs H Q _=>∃ (r p C:Addr) (ws:List (List Nat)) (cs ms:List Int) (n m h w g:Int),vs=[.ref r,.ref C]/\IsRule H c k r p ws cs n m/\IsFl H p h w g/\FlOk h w g/\H C=some (.lst (ms.map V.int))/\ms.length<=63/\
 ∀ H',Same H H'->Q (.bl (joinB h w ms)) H'
def db (K:Frag) (c:RCl RK) (k:RK):Sp:=fun vs H Q _=>∃ (r p C:Addr) (ws:List (List Nat)) (cs ms:List Int) (n m h w g z:Int),vs=[.ref r,.ref C,.int z]/\IsRule H c k r p ws cs n m/\IsFl H p h w g/\FlOk h w g/\H C=some (.lst (ms.map V.int))/\ms.length<=63/\
 ∀ H',Same H H'->Q (.bl (twoB h w ms z)) H'
def av (K:Frag) (c:RCl RK):Sp:=fun vs H Q _=>∃ (k:RK) (x dx p W C:Addr) (ws:List (List Nat)) (cs:List Int) (n m:Int),vs=[.ref x,.ref p,.ref W,.ref C,.int n,.int m]/\c.ok k=true/\H x=some (.ins (c.A k) dx [])/\W≠x/\C≠x/\
 H W=some (.lst ((ws.map tx).map V.str))/\H C=some (.lst (cs.map V.int))/\∀ H',(∀ b o,b≠x->H b=some o->H' b=some o)->IsRule H' c k x p ws cs n m->Q .non H'
theorem oJ {K:Frag} {c:RCl RK} {vs:List V} {H:Hp} {Q:VK} {E:XK} (h:av K c vs H Q E):vs.length=6:=by
 obtain ⟨_,_,_,_,_,_,_,_,_,_,rfl,_⟩:=h; rfl
def dP (K:Frag) (c:RCl RK):TS:=
 (tSeq (sFldK c (tVar 0) (tVar 1) "floor")
  (tSeq (sFldK c (tVar 0) (tCB (kW K) (tCons (tVar 2) tNil)) "words")
  (tSeq (sFldK c (tVar 0) (tCB (kW K) (tCons (tVar 3) tNil)) "cells")
  (tSeq (sFldK c (tVar 0) (tVar 4) "amount")
  (sFldK c (tVar 0) (tVar 5) "mark")))))
theorem oK {K:Frag} {c:RCl RK} {vs:List V} {H:Hp} {Q:VK} {E:XK} (h:av K c vs H Q E):dP K c { nx:=fun _ H'=>Q .non H',rt:=Q } (start ["self","floor","words","cells","amount","mark"] vs) H:=by
 obtain ⟨k,x,dx,p,W,C,ws,cs,n,m,rfl,ok,hx,nW,nC,hW,hC,q⟩:=h
 show dP K c _ [some (.ref x),some (.ref p),some (.ref W),some (.ref C),some (.int n),some (.int m)] H
 unfold dP
 walk_at "w"
 refine sfldV (k:=k) (j:=1) rfl rfl ok hx (by decide) ?_
 walk_at "w"
 refine sfldT (k:=k) (j:=2) (p:=W) rfl (by rw [ai nW]; exact hW) rfl ok ae (by show (1:Nat)<1000; decide) fun l1 h1=>?_
 have n1:l1≠x:=fun e=>by rw [e,ae] at h1; cases h1
 have g1:H l1=none:=by rw [ai n1] at h1; exact h1
 walk_at "w"
 refine sfldT (k:=k) (j:=3) (p:=C) rfl (by rw [ai nC,ai (aC hC g1),ai nC]; exact hC) rfl ok ae (by show (2:Nat)<1000; decide) fun l2 h2=>?_
 have n2:l2≠x:=fun e=>by rw [e,ae] at h2; cases h2
 have n21:l2≠l1:=fun e=>by rw [e,ai n1,ae] at h2; cases h2
 have g2:H l2=none:=by rw [ai n2,ai n21,ai n2] at h2; exact h2
 walk_at "w"
 refine sfldV (k:=k) (j:=4) rfl rfl ok ae (by show (3:Nat)<1000; decide) ?_
 refine sfldV (k:=k) (j:=5) rfl rfl ok ae (by show (4:Nat)<1000; decide) ?_
 refine q _ (fun b o hb e=>?_) ⟨ok,dx,l1,l2,by rw [ae]; rfl,?_,?_⟩
 . rw [ai hb,ai hb,ai hb,ai (aC e g2),ai hb,ai (aC e g1),ai hb]
   exact e
 . rw [ai n1,ai n1,ai n1,ai n21.symm,ai n1,ae]
 . rw [ai n2,ai n2,ai n2,ae]
def je (K:Frag) (c:RCl RK):Sp:=fun vs H Q E=>∃ k,nT K c k vs H Q E
theorem ue {K:Frag} {c:RCl RK} {vs:List V} {H:Hp} {Q:VK} {E:XK} (h:je K c vs H Q E):vs.length=1:=by
 obtain ⟨_,_,_,_,_,_,_,_,rfl,_⟩:=h; rfl
def jf (K:Frag) (c:RCl RK):TS:=
 (tRet (tOp cIx (tFldK c (tVar 0) "words") (tC (.int 0))))
theorem uf {K:Frag} {c:RCl RK} {vs:List V} {H:Hp} {Q:VK} {E:XK} (h:je K c vs H Q E):jf K c { nx:=fun _ H'=>Q .non H',rt:=Q } (start ["self"] vs) H:=by
 obtain ⟨k,r,p,w,ws,cs,n,m,rfl,x,q⟩:=h
 obtain ⟨dx,W,C,h1,h2,h3⟩:=x.ex
 show jf K c _ [some (.ref r)] H
 unfold jf
 walk_at "w"
 refine fldE rfl x.ok h1 (v:=.ref W) (by rfl) ?_
 walk_at "w"
 have e0:atI (((w::ws).map tx).map V.str) 0=some (V.str (tx w)):=ga (j:=0) rfl
 exact ixT h2 e0 q
def ib (K:Frag) (c:RCl RK):Sp:=fun vs H Q E=>∃ k,jN K c k vs H Q E
theorem sm {K:Frag} {c:RCl RK} {vs:List V} {H:Hp} {Q:VK} {E:XK} (h:ib K c vs H Q E):vs.length=1:=by
 obtain ⟨_,_,_,_,_,_,_,rfl,_⟩:=h; rfl
def ic (K:Frag) (c:RCl RK):TS:=
 (tRet (tCB kList (tCons (tFldK c (tVar 0) "cells") tNil)))
theorem sn {K:Frag} {c:RCl RK} {vs:List V} {H:Hp} {Q:VK} {E:XK} (h:ib K c vs H Q E):ic K c { nx:=fun _ H'=>Q .non H',rt:=Q } (start ["self"] vs) H:=by
 obtain ⟨k,r,p,ws,cs,n,m,rfl,x,q⟩:=h
 obtain ⟨dx,W,C,h1,h2,h3⟩:=x.ex
 show ic K c _ [some (.ref r)] H
 unfold ic
 walk_at "w"
 refine fldE rfl x.ok h1 (v:=.ref C) (by rfl) ?_
 walk_at "w"
 exact z5 h3 q
def dQ (K:Frag) (c:RCl RK):Sp:=fun vs H Q E=>∃ k,bv K c k vs H Q E
theorem oM {K:Frag} {c:RCl RK} {vs:List V} {H:Hp} {Q:VK} {E:XK} (h:dQ K c vs H Q E):vs.length=2:=by
 obtain ⟨_,_,_,_,_,_,_,_,_,rfl,_⟩:=h; rfl
def dR (K:Frag) (c:RCl RK):TS:=
 (tRet (tComp [none,none,some 1] (iTup K (tFldK c (tVar 0) "cells")) (gName 1) tTrue (tOp cIx (tVar 2) (tVar 1))))
theorem oN {K:Frag} {c:RCl RK} {vs:List V} {H:Hp} {Q:VK} {E:XK} (h:dQ K c vs H Q E):dR K c { nx:=fun _ H'=>Q .non H',rt:=Q } (start ["self","filling"] vs) H:=by
 obtain ⟨k,r,p,f,ws,cs,xs,n,m,rfl,x,hf,⟨hn,hc⟩,q⟩:=h
 obtain ⟨dx,W,C,h1,h2,h3⟩:=x.ex
 show dR K c _ [some (.ref r),some (.ref f)] H
 unfold dR
 rw [dD,vJ]
 refine fldE rfl x.ok h1 (v:=.ref C) (by rfl) ?_
 refine ⟨C,rfl,⟨_,SqT.of h3⟩,?_⟩
 refine rV (xs:=cs) (fun _=>true) (fun c=>xs.getD c.toNat 0) (by omega) h3 ?_ ?_ ?_
 . intro x H1 R hx s1 k1
   exact k1 _ (Same.refl _)
 . intro z H1 Q1 hz hb s1 k1
   show tOp cIx _ _ [none,some (.int z),some (.ref f)] H1 Q1
   walk_at "w"
   have:=hc z hz
   exact ixI (s1 _ _ hf) this.1 (by omega) (k1 _ (Same.refl _))
 . intro l H1 hl s1 el
   rw [bp] at el
   exact q l H1 s1 hl el
def dq (K:Frag):Sp:=fun vs H Q _=>∃ n:Nat,vs=[.str (tx (numC n))]/\n<100/\∀ H',Same H H'->Q (.int n) H'
theorem ug {K:Frag} {vs:List V} {H:Hp} {Q:VK} {E:XK} (h:dq K vs H Q E):vs.length=1:=by
 obtain ⟨_,rfl,_⟩:=h; rfl
def jh (K:Frag):TS:=
 (tSeq (tIfS (tOr (tTest (tOp (cEq K) (tVar 0) (tC (.str (tx []))))) (tOr (tTest (tOp (cCmp fun i j=>decide (j<i)) (tCB kLen (tCons (tVar 0) tNil)) (tC (.int 9)))) (tAnd (tTest (tOp (cEq K) (tOp cIx (tVar 0) (tC (.int 0))) (tC (.str (tx [48]))))) (tTest (tOp (cNe K) (tVar 0) (tC (.str (tx [48])))))))) (tRet (tC .non)) tNext)
  (tSeq (tIfS (tNot (tB (tCB kAll (tCons (tComp [none,none] (iStr (tVar 0)) (gName 1) tTrue (tOp (cIn K false) (tVar 1) (tC (.str (tx [48,49,50,51,52,53,54,55,56,57]))))) tNil)))) (tRet (tC .non)) tNext)
  (tRet (tCB mf (tCons (tVar 0) tNil)))))
theorem AY {c:Nat} (h0:48<=c) (h1:c<=57):(!(Builtin.Str.occurrences (tx [48,49,50,51,52,53,54,55,56,57]) ⟨#[c]⟩ 0 (tx [48,49,50,51,52,53,54,55,56,57]).length 1).isEmpty)=true:=by
 have t:((List.range 58).all fun c=>!decide (48<=c)||!(Builtin.Str.occurrences (tx [48,49,50,51,52,53,54,55,56,57]) ⟨#[c]⟩ 0 (tx [48,49,50,51,52,53,54,55,56,57]).length 1).isEmpty)=true:=by decide+kernel
 have:=List.all_eq_true.mp t c (List.mem_range.mpr (by omega))
 simpa [h0] using this
theorem uh {K:Frag} {vs:List V} {H:Hp} {Q:VK} {E:XK} (h:dq K vs H Q E):jh K { nx:=fun _ H'=>Q .non H',rt:=Q } (start ["word"] vs) H:=by
 obtain ⟨n,rfl,hn,q⟩:=h
 have hne:=AX hn
 have hl:=nS (n:=n)
 show jh K _ [some (.str (tx (numC n)))] H
 unfold jh
 rw [aL,aI]
 walk_at "w"
 rw [bd,decide_eq_false hne]
 refine iteF ⟨by rw [i8]; exact aB (by omega),?_⟩
 walk_at "w"
 rw [i8,decide_eq_false (show ¬ (9:Int) < ((numC n).length:Nat) by omega)]
 refine iteF ?_
 rw [By,i8,pQ]
 obtain ⟨c,r,ec⟩:∃ c r,numC n=c::r:=by
  cases e:numC n with
  | nil=>exact absurd e hne
  | cons c r=>exact ⟨c,r,rfl⟩
 refine ⟨aB (by omega),aV (a:=c) (by rw [ec]; exact ga (j:=0) rfl) ?_⟩
 walk_at "w"
 have e1:decide ((⟨#[c]⟩:Str)=tx [48])=decide (c=48):=by
  have:(⟨#[c]⟩:Str)=tx [c]:=rfl
  rw [this,bd]
  simp
 rw [e1,bd]
 have e2:(decide (c=48)=true->decide (numC n=[48])=true):=by
  intro h
  rw [decide_eq_true_eq] at h
  have:=(y3 hn).1 (by rw [ec,h]; rfl)
  subst this
  decide
 have goal2:tSeq (tIfS (tNot (tB (tCB kAll (tCons (tComp [none,none] (iStr (tVar 0)) (gName 1) tTrue (tOp (cIn K false) (tVar 1) (tC (.str (tx [48,49,50,51,52,53,54,55,56,57]))))) tNil)))) (tRet (tC .non)) tNext) (tRet (tCB mf (tCons (tVar 0) tNil)))
   { nx:=fun _ H'=>Q .non H',rt:=Q } [some (.str (tx (numC n)))] H:=by
  rw [aL,aI]
  walk_at "w"
  refine x4 (cs:=numC n) (fun _=>true) (fun _=>.bl true) (by omega) ?_ ?_ ?_
  . intro i c H1 R hc s1 k1
    exact k1 _ (Same.refl _)
  . intro i c H1 Q1 hc hb s1 k1
    have hd:=vL hn c (List.mem_of_getElem? hc)
    show tOp (cIn K false) _ _ [none,some (.str (tx [c]))] H1 Q1
    walk_at "w"
    have q1:=k1 _ (Same.refl H1)
    show Q1 (.bl (if false=true then _ else !(Builtin.Str.occurrences (tx [48,49,50,51,52,53,54,55,56,57]) (tx [c]) 0 (tx [48,49,50,51,52,53,54,55,56,57]).length 1).isEmpty)) H1
    rw [if_neg Bool.false_ne_true,show tx [c]=⟨#[c]⟩ from rfl,AY hd.1 hd.2]
    exact q1
  . intro l H1 hl1 s1 el
    have eb:((List.range (numC n).length).filter fun _=>true).map (fun _=>V.bl true)=(List.replicate (numC n).length true).map V.bl:=by
     rw [bp,List.map_const',List.length_range,List.map_replicate]
    rw [eb] at el
    refine nR el ?_
    have ea:(List.replicate (numC n).length true).all id=true:=by
     rw [List.all_eq_true]
     intro b hb
     exact (List.mem_replicate.mp hb).2
    rw [ea]
    walk_at "w"
    exact ⟨n,hn,rfl,q _ s1⟩
 cases hc:decide (c=48) with
 | false=>
  refine iteF ?_
  exact goal2
 | true=>
  refine iteT ?_
  rw [e2 hc]
  exact goal2
def bf (K:Frag):Sp:=fun vs H Q _=>∃ (n:Nat) (lo hi:Int),vs=[.str (tx (numC n)),.int lo,.int hi]/\n<100/\lo<=n/\n<=hi/\∀ H',Same H H'->Q (.int n) H'
theorem oO {K:Frag} {vs:List V} {H:Hp} {Q:VK} {E:XK} (h:bf K vs H Q E):vs.length=3:=by
 obtain ⟨_,_,_,rfl,_⟩:=h; rfl
def dS (K:Frag):TS:=
 (tSeq (tAsg (tCall (dq K) [] E0 (tCons (tVar 0) tNil)) (gName 3))
  (tSeq (tIfS (tOr (tTest (tOp rIsN (tVar 3) (tC .non))) (tOr (tTest (tOp (cCmp fun i j=>decide (i<j)) (tVar 3) (tVar 1))) (tTest (tOp (cCmp fun i j=>decide (j<i)) (tVar 3) (tVar 2))))) cC tNext)
  (tRet (tVar 3))))
theorem oP {K:Frag} {vs:List V} {H:Hp} {Q:VK} {E:XK} (h:bf K vs H Q E):dS K { nx:=fun _ H'=>Q .non H',rt:=Q } (start ["word","least","most","number"] vs) H:=by
 obtain ⟨n,lo,hi,rfl,hn,h0,h1,q⟩:=h
 show dS K _ [some (.str (tx (numC n))),some (.int lo),some (.int hi),none] H
 unfold dS
 walk_at "w"
 refine ⟨n,rfl,hn,fun H1 s1=>?_⟩
 walk_at "w"
 rw [aI]
 walk_at "w"
 rw [decide_eq_false (show ¬ V.int n=V.non from fun e=>nomatch e)]
 refine iteF ?_
 rw [decide_eq_false (show ¬ (n:Int)<lo by omega)]
 refine iteF ?_
 rw [decide_eq_false (show ¬ hi < (n:Int) by omega)]
 refine iteF ?_
 walk_at "w"
 exact q _ s1
def WOk (ws:List (List Nat)):Prop:=∀ w∈ws,∀ c∈w,c<128
theorem WOk.cons {w:List Nat} {ws:List (List Nat)} (h:∀ c∈w,c<128) (hs:WOk ws):WOk (w::ws):=fun v hv=>by
 rcases List.mem_cons.mp hv with rfl | hv
 . exact h
 . exact hs v hv
theorem qT {n:Nat} (h:n<100):∀ c∈numC n,c<128:=fun c hc=>by have:=vL h c hc; omega
theorem zB {w:List Nat} (h:∀ c∈w,c<128):PyData.strOk (tx w)=true:=by
 unfold PyData.strOk
 simp [tx]
 intro c hc
 have:=h c hc
 omega
theorem WOk.strs {ws:List (List Nat)} (h:WOk ws):∀ x∈ws.map tx,PyData.strOk x=true:=fun x hx=>by
 obtain ⟨w,hw,rfl⟩:=List.mem_map.mp hx
 exact zB (h w hw)
def bq (K:Frag):Sp:=fun vs H Q _=>∃ (p:Addr) (n:Nat) (ws:List (List Nat)) (lo hi:Int),vs=[.ref p,.int lo,.int hi]/\H p=some (.lst (((numC n::ws).map tx).map V.str))/\n<100/\WOk ws/\lo<=n/\n<=hi/\∀ H',Same H H'->Q (.int n) H'
theorem pU {K:Frag} {vs:List V} {H:Hp} {Q:VK} {E:XK} (h:bq K vs H Q E):vs.length=3:=by
 obtain ⟨_,_,_,_,_,rfl,_⟩:=h; rfl
def fw (K:Frag):TS:=
 (tSeq (tIfS (tTest (tOp (cEq K) (tVar 0) (tLst tNil))) cC tNext)
  (tRet (tCall (bf K) [] E0 (tCons (tOp cIx (tVar 0) (tC (.int 0))) (tCons (tVar 1) (tCons (tVar 2) tNil))))))
theorem DVs.strs {K:Frag} {H:Hp}:∀ ns:List Str,DVs K H (ns.map V.str) (ns.map PyData.str)
 | []=>.nil
 | n::r=>.cons (.str n) (DVs.strs r)
theorem rW (a b:Str):PyData.eqv (.str a) (.str b)=decide (a=b):=by
 rw [PyData.eqv]
 by_cases h:a=b
 . subst h; simp
 . simp [h]
theorem j6 (ns:List Str) (hs:∀ x∈ns,PyData.strOk x=true):SeqAt.shaped (.list (ns.map PyData.str))=true:=by
 have h1:PyData.canLayAll0 (ns.map PyData.str)=true:=vH fun d hd=>by obtain ⟨x,hx,rfl⟩:=List.mem_map.mp hd; rw [PyData.canLay0]; exact hs x hx
 have h2:PyData.depthAll (ns.map PyData.str)<=0:=rS fun d hd=>by obtain ⟨x,_,rfl⟩:=List.mem_map.mp hd; exact Nat.le_refl _
 simp [SeqAt.shaped,PyData.canLay0,h1,PyData.depth]
 omega
theorem AZ {K:Frag} {H:Hp} {Q:VK} {p q:Addr} {xs ys:List Str} (hp:H p=some (.lst (xs.map V.str))) (hq:H q=some (.lst (ys.map V.str))) (h1:∀ x∈xs,PyData.strOk x=true) (h2:∀ x∈ys,PyData.strOk x=true) (h:Q (.bl (decide (xs=ys))) H):cEq K (.ref p) (.ref q) H Q:=by
 show rEqD K (.ref p) (.ref q) H Q
 refine ⟨.list (xs.map PyData.str),.list (ys.map PyData.str),.lst (SqL.of hp) (.strs xs),.lst (SqL.of hq) (.strs ys),j6 xs h1,j6 ys h2,?_⟩
 rw [PyData.eqv,qR PyData.str rW]
 exact h
theorem A0 {K:Frag} {H:Hp} {Q:VK} {p q:Addr} {xs ys:List Str} (hp:H p=some (.lst (xs.map V.str))) (hq:H q=some (.lst (ys.map V.str))) (h1:∀ x∈xs,PyData.strOk x=true) (h2:∀ x∈ys,PyData.strOk x=true) (h:Q (.bl (!decide (xs=ys))) H):cNe K (.ref p) (.ref q) H Q:=by
 show rNeD K (.ref p) (.ref q) H Q
 refine ⟨.list (xs.map PyData.str),.list (ys.map PyData.str),.lst (SqL.of hp) (.strs xs),.lst (SqL.of hq) (.strs ys),j6 xs h1,j6 ys h2,?_⟩
 rw [PyData.eqv,qR PyData.str rW]
 exact h
theorem pV {K:Frag} {vs:List V} {H:Hp} {Q:VK} {E:XK} (h:bq K vs H Q E):fw K { nx:=fun _ H'=>Q .non H',rt:=Q } (start ["words","least","most"] vs) H:=by
 obtain ⟨p,n,ws,lo,hi,rfl,hp,hn,hw,h0,h1,q⟩:=h
 show fw K _ [some (.ref p),some (.int lo),some (.int hi)] H
 unfold fw
 rw [aL,aI]
 walk_at "w"
 refine ⟨aB (by decide),fun l hl=>?_⟩
 have s1:Same H (upd H l (.lst [])):=(Same.refl H).laid hl
 refine AZ (s1 _ _ hp) (ys:=[]) ae (WOk.strs (WOk.cons (qT hn) hw)) (fun x hx=>nomatch hx) ?_
 generalize upd H l (.lst [])=H1 at*
 walk_at "w"
 rw [decide_eq_false (by simp)]
 refine iteF ?_
 walk_at "w"
 have e0:atI (((numC n::ws).map tx).map V.str) 0=some (V.str (tx (numC n))):=ga (j:=0) rfl
 refine ixL (s1 _ _ hp) e0 ?_
 walk_at "w"
 exact ⟨n,lo,hi,rfl,hn,h0,h1,fun H2 s2=>q _ (s1.trans s2)⟩
theorem y4 (acc:List Int) (v:Int):(step_dedup acc v).length<=acc.length+1:=by
 unfold step_dedup
 split <;> simp
theorem ui:∀ (l acc:List Int),(l.foldl step_dedup acc).length<=acc.length+l.length
 | [],acc=>by simp
 | x::r,acc=>by
  have h1:=ui r (step_dedup acc x)
  have h2:=y4 acc x
  rw [List.foldl_cons,List.length_cons]
  omega
theorem oz:∀ (l acc:List Int),acc.Nodup->((l.foldl step_dedup acc).length=acc.length+l.length↔(acc++l).Nodup)
 | [],acc,h=>by simpa using h
 | x::r,acc,h=>by
  rw [List.foldl_cons]
  by_cases hx:x∈acc
  . have e:step_dedup acc x=acc:=by
     unfold step_dedup
     rw [if_pos (by simpa using hx)]
    rw [e]
    have:=ui r acc
    constructor
    . intro z
      rw [List.length_cons] at z
      omega
    . intro z
      have:=(List.nodup_append.mp z).2.2 x hx x List.mem_cons_self
      exact absurd rfl this
  . have e:step_dedup acc x=acc++[x]:=by
     unfold step_dedup
     rw [if_neg (by simpa using hx)]
    rw [e]
    have hn:(acc++[x]).Nodup:=List.nodup_append.mpr ⟨h,by simp,fun a ha b hb z=>hx (by rw [List.mem_singleton.mp hb] at z; exact z ▸ ha)⟩
    have ih:=oz r (acc++[x]) hn
    rw [List.length_append,List.length_singleton] at ih
    rw [List.length_cons,show acc.length+(r.length+1)=acc.length+1+r.length by omega,show acc++x::r=acc++[x]++r by simp]
    exact ih
theorem qU (ns:List Int):(List.range ns.length).map (fun i=>ns.getD i 0)=ns:=by
 have:=si ns (fun x=>x)
 simpa using this
theorem y7 (ns:List Int):cntD ns=ns.length↔ns.Nodup:=by
 unfold cntD firstMet
 rw [qU]
 have:=oz ns [] List.nodup_nil
 simpa using this
def cP (K:Frag):Sp:=fun vs H Q _=>∃ (a p:Addr) (h w g:Int) (ns:List Nat),vs=[.ref a,.ref p]/\IsFl H a h w g/\FlOk h w g/\H p=some (.lst (((ns.map numC).map tx).map V.str))/\ns≠[]/\ns.length<=16/\(∀ n∈ns,(n:Int)<h*w)/\ns.Nodup/\
 ∀ l H',Same H H'->H l=none->H' l=some (.lst ((ns.map fun (n:Nat)=>(n:Int)).map V.int))->Q (.ref l) H'
theorem so {K:Frag} {vs:List V} {H:Hp} {Q:VK} {E:XK} (h:cP K vs H Q E):vs.length=2:=by
 obtain ⟨_,_,_,_,_,_,rfl,_⟩:=h; rfl
def ie (K:Frag):TS:=
 (tSeq (sComp 2 [none,none,some 0] (iList K (tVar 1)) (gName 1) tTrue (tCall (bf K) [] E0 (tCons (tVar 1) (tCons (tC (.int 0)) (tCons (tOp cSub (tCall (aS K) [] E0 (tCons (tVar 2) tNil)) (tC (.int 1))) tNil)))))
  (tSeq (tIfS (tTest (tOp (cEq K) (tVar 2) (tLst tNil))) cC tNext)
  (tSeq (tIfS (tTest (tOp (cNe K) (lW (tVar 2)) (tCB kLen (tCons (tVar 2) tNil)))) cC tNext)
  (tRet (tVar 2)))))
theorem pW {ns:List Nat} (h:ns.Nodup):(ns.map fun (n:Nat)=>(n:Int)).Nodup:=by
 induction ns with
 | nil=>exact List.nodup_nil
 | cons a r ih=>
  rw [List.nodup_cons] at h
  rw [List.map_cons,List.nodup_cons]
  refine ⟨fun z=>?_,ih h.2⟩
  obtain ⟨b,hb,e⟩:=List.mem_map.mp z
  exact h.1 (by have:b=a:=by omega
                exact this ▸ hb)
theorem sr {K:Frag} {vs:List V} {H:Hp} {Q:VK} {E:XK} (h:cP K vs H Q E):ie K { nx:=fun _ H'=>Q .non H',rt:=Q } (start ["floor","words","cells"] vs) H:=by
 obtain ⟨a,p,h,w,g,ns,rfl,ha,F,hp,hne,hn16,hlt,hnd,q⟩:=h
 obtain ⟨h0,h1,w0,w1,m16,g0,g1⟩:=F
 show ie K _ [some (.ref a),some (.ref p),none] H
 unfold ie
 walk_at "w"
 refine ⟨⟨_,SqL.of hp⟩,?_⟩
 refine cp (xs:=((ns.map numC).map tx).map V.str) (fun _=>true) (fun i=>.int (ns.getD i 0:Nat)) (by simp; omega) (SqL.of hp) ?_ ?_ ?_
 . intro i x H1 R hx s1 k1
   exact k1 _ (Same.refl _)
 . intro i x H1 Q1 hx hb s1 k1
   rw [List.getElem?_map,List.getElem?_map,List.getElem?_map] at hx
   cases e:ns[i]? with
   | none=>rw [e] at hx; cases hx
   | some n=>
    rw [e] at hx
    cases hx
    have hm:=hlt n (List.mem_of_getElem? e)
    show tCall _ _ _ _ [none,some (.str (tx (numC n))),some (.ref a)] H1 Q1
    walk_at "w"
    refine ⟨a,h,w,g,rfl,s1 _ _ ha,h0,h1,?_⟩
    walk_at "w"
    refine ⟨n,0,_,rfl,by omega,by omega,by omega,fun H2 s2=>?_⟩
    have q1:=k1 _ s2
    have eg:ns.getD i 0=n:=by rw [List.getD,e]; rfl
    rw [eg] at q1
    exact q1
 . intro l H1 hl s1 el
   have ec:((List.range (((ns.map numC).map tx).map V.str).length).filter fun _=>true).map (fun i=>V.int (ns.getD i 0:Nat))=(ns.map fun (n:Nat)=>(n:Int)).map V.int:=by
    rw [bp,List.length_map,List.length_map,List.length_map,List.map_map]
    refine List.ext_getElem? fun i=>?_
    rw [List.getElem?_map,List.getElem?_map]
    by_cases h:i<ns.length
    . rw [List.getElem?_range h,List.getElem?_eq_getElem h]
      simp [List.getD,h]
    . rw [List.getElem?_eq_none (by simpa using h),List.getElem?_eq_none (by omega)]; rfl
   rw [ec] at el
   walk_at "w"
   rw [aI]
   walk_at "w"
   refine ⟨aB (by decide),fun z hz=>?_⟩
   have s2:Same H1 (upd H1 z (.lst [])):=(Same.refl H1).laid hz
   refine sZ (s2 _ _ el) (ys:=[]) ae ?_
   generalize upd H1 z (.lst [])=H2 at*
   walk_at "w"
   rw [decide_eq_false (by simpa using hne)]
   refine iteF ?_
   walk_at "w"
   rw [aI]
   walk_at "w"
   refine ⟨l,_,rfl,s2 _ _ el,by rw [List.length_map]; omega,?_⟩
   rw [bc (s2 _ _ el),List.length_map]
   walk_at "w"
   rw [decide_eq_true (by rw [(y7 _).mpr (pW hnd)])]
   refine iteF ?_
   walk_at "w"
   exact q l _ (s1.trans s2) hl (s2 _ _ el)
def allK:RK->Bool
 | .Joined=>true
 | .NoSquare=>true
 | .Ring=>true
 | _=>false
def numK:RK->Bool
 | .Sum=>true
 | .Seen=>true
 | .Count=>true
 | _=>false
def sgnK:RK->Bool
 | .Count=>true
 | .Joined=>true
 | .NoSquare=>true
 | .Ring=>true
 | _=>false
theorem A1 (k:RK):decide (tx (nmC k)∈fv)=allK k:=by cases k <;> decide+kernel
theorem A2 (k:RK):decide (tx (nmC k)∈gm)=numK k:=by cases k <;> decide+kernel
theorem A3 (k:RK):decide (tx (nmC k)∈fT)=sgnK k:=by cases k <;> decide+kernel
structure qV (k:RK) (h w:Int) (ns:List Nat) (cs:List Int):Prop where
 told:allK k=false->ns≠[]/\ns.length<=16/\(∀ n∈ns,(n:Int)<h*w)/\ns.Nodup/\cs=ns.map fun (n:Nat)=>(n:Int)
 all:allK k=true->ns=[]/\cs=rngL 0 (h*w)
def fc (K:Frag):Sp:=fun vs H Q _=>∃ (k:RK) (a p:Addr) (h w g:Int) (ns:List Nat) (cs:List Int),vs=[.ref a,.str (tx (nmC k)),.ref p]/\IsFl H a h w g/\FlOk h w g/\H p=some (.lst (((ns.map numC).map tx).map V.str))/\qV k h w ns cs/\(∀ n∈ns,n<100)/\
 ∀ l H',Same H H'->H l=none->H' l=some (.lst (cs.map V.int))->Q (.ref l) H'
theorem va {K:Frag} {vs:List V} {H:Hp} {Q:VK} {E:XK} (h:fc K vs H Q E):vs.length=3:=by
 obtain ⟨_,_,_,_,_,_,_,_,rfl,_⟩:=h; rfl
def j7 (K:Frag):TS:=
 (tSeq (tIfS (tB (tInG fv true (tVar 1))) (tRet (tCall (cP K) [] E0 (tCons (tVar 0) (tCons (tVar 2) tNil)))) tNext)
  (tSeq (tIfS (tTest (tOp (cNe K) (tVar 2) (tLst tNil))) cC tNext)
  (tRet (ke (tCons (tCall (aS K) [] E0 (tCons (tVar 0) tNil)) tNil)))))
theorem vb {K:Frag} {vs:List V} {H:Hp} {Q:VK} {E:XK} (h:fc K vs H Q E):j7 K { nx:=fun _ H'=>Q .non H',rt:=Q } (start ["floor","name","words"] vs) H:=by
 obtain ⟨k,a,p,h,w,g,ns,cs,rfl,ha,F,hp,hc,hn,q⟩:=h
 obtain ⟨h0,h1,w0,w1,m16,g0,g1⟩:=id F
 have mpos:0<=h*w:=Int.mul_nonneg (by omega) (by omega)
 show j7 K _ [some (.ref a),some (.str (tx (nmC k))),some (.ref p)] H
 unfold j7
 rw [aL,aI]
 walk_at "w"
 rw [A1]
 cases hk:allK k with
 | false=>
  obtain ⟨c1,c2,c3,c4,rfl⟩:=hc.told hk
  walk_at "w"
  exact ⟨a,p,h,w,g,ns,rfl,ha,F,hp,c1,c2,c3,c4,q⟩
 | true=>
  obtain ⟨rfl,rfl⟩:=hc.all hk
  walk_at "w"
  rw [aI]
  walk_at "w"
  refine ⟨aB (by decide),fun z hz=>?_⟩
  have s1:Same H (upd H z (.lst [])):=(Same.refl H).laid hz
  refine A0 (xs:=[]) (ys:=[]) (s1 _ _ hp) ae (fun x hx=>nomatch hx) (fun x hx=>nomatch hx) ?_
  generalize upd H z (.lst [])=H1 at*
  walk_at "w"
  refine ⟨a,h,w,g,rfl,s1 _ _ ha,h0,h1,?_⟩
  walk_at "w"
  refine ⟨h*w,rfl,by omega,by omega,fun l hl=>?_⟩
  exact q l _ (s1.laid hl) (s1.free hl) ae
def gp (K:Frag) (c:RCl RK):Sp:=fun vs H Q _=>∃ (k:RK) (p W C:Addr) (ws:List (List Nat)) (cs:List Int) (n m:Int),vs=[.ref p,.ref W,.ref C,.int n,.int m]/\k≠.Rule/\c.ok k=true/\H W=some (.lst (((nmC k::ws).map tx).map V.str))/\H C=some (.lst (cs.map V.int))/\
 ∀ r H',Same H H'->H r=none->IsRule H' c k r p (nmC k::ws) cs n m->Q (.ref r) H'
theorem wp {K:Frag} {c:RCl RK} {vs:List V} {H:Hp} {Q:VK} {E:XK} (h:gp K c vs H Q E):vs.length=5:=by
 obtain ⟨_,_,_,_,_,_,_,_,rfl,_⟩:=h; rfl
def kH (K:Frag) (c:RCl RK):TS:=
 (tSeq (tAsg (tOp cIx (tVar 1) (tC (.int 0))) (gName 5))
  (tSeq (tIfS (tTest (tOp (cEq K) (tVar 5) (tC (.str (tx [117,110,108,105,107,101]))))) (tRet (tMake (c.A .Unlike) (av K c) [] E0 (tCons (tVar 0) (tCons (tVar 1) (tCons (tVar 2) (tCons (tVar 3) (tCons (tVar 4) tNil))))))) tNext)
  (tSeq (tIfS (tTest (tOp (cEq K) (tVar 5) (tC (.str (tx [115,117,109]))))) (tRet (tMake (c.A .Sum) (av K c) [] E0 (tCons (tVar 0) (tCons (tVar 1) (tCons (tVar 2) (tCons (tVar 3) (tCons (tVar 4) tNil))))))) tNext)
  (tSeq (tIfS (tTest (tOp (cEq K) (tVar 5) (tC (.str (tx [114,105,115,105,110,103]))))) (tRet (tMake (c.A .Rising) (av K c) [] E0 (tCons (tVar 0) (tCons (tVar 1) (tCons (tVar 2) (tCons (tVar 3) (tCons (tVar 4) tNil))))))) tNext)
  (tSeq (tIfS (tTest (tOp (cEq K) (tVar 5) (tC (.str (tx [115,101,101,110]))))) (tRet (tMake (c.A .Seen) (av K c) [] E0 (tCons (tVar 0) (tCons (tVar 1) (tCons (tVar 2) (tCons (tVar 3) (tCons (tVar 4) tNil))))))) tNext)
  (tSeq (tIfS (tTest (tOp (cEq K) (tVar 5) (tC (.str (tx [99,111,117,110,116]))))) (tRet (tMake (c.A .Count) (av K c) [] E0 (tCons (tVar 0) (tCons (tVar 1) (tCons (tVar 2) (tCons (tVar 3) (tCons (tVar 4) tNil))))))) tNext)
  (tSeq (tIfS (tTest (tOp (cEq K) (tVar 5) (tC (.str (tx [106,111,105,110,101,100]))))) (tRet (tMake (c.A .Joined) (av K c) [] E0 (tCons (tVar 0) (tCons (tVar 1) (tCons (tVar 2) (tCons (tVar 3) (tCons (tVar 4) tNil))))))) tNext)
  (tSeq (tIfS (tTest (tOp (cEq K) (tVar 5) (tC (.str (tx [110,111,115,113,117,97,114,101]))))) (tRet (tMake (c.A .NoSquare) (av K c) [] E0 (tCons (tVar 0) (tCons (tVar 1) (tCons (tVar 2) (tCons (tVar 3) (tCons (tVar 4) tNil))))))) tNext)
  (tSeq (tIfS (tTest (tOp (cEq K) (tVar 5) (tC (.str (tx [114,105,110,103]))))) (tRet (tMake (c.A .Ring) (av K c) [] E0 (tCons (tVar 0) (tCons (tVar 1) (tCons (tVar 2) (tCons (tVar 3) (tCons (tVar 4) tNil))))))) tNext)
  cC)))))))))
theorem z7 {K:Frag} {c:RCl RK} {H:Hp} {Q:VK} {k:RK} {p W C:Addr} {ws:List (List Nat)} {cs:List Int} {n m:Int} (ok:c.ok k=true) (hW:H W=some (.lst ((ws.map tx).map V.str))) (hC:H C=some (.lst (cs.map V.int))) (q:∀ r H',Same H H'->H r=none->IsRule H' c k r p ws cs n m->Q (.ref r) H'):
  ∀ x dx,H x=none->H dx=none->dx≠x->av K c (.ref x::([.ref p,.ref W,.ref C,.int n,.int m]++[])) (upd (upd H dx (.own x)) x (.ins (c.A k) dx [])) (fun v H2=>v=.non/\Q (.ref x) H2) E0:=by
 intro x dx hx hd ne
 refine ⟨k,x,dx,p,W,C,ws,cs,n,m,rfl,ok,ae,aC hW hx,aC hC hx,?_,?_,fun H' hs hr=>⟨rfl,q x H' (fun b o e=>hs b o (aC e hx) ?_) hx hr⟩⟩
 . rw [ai (aC hW hx),ai (aC hW hd)]; exact hW
 . rw [ai (aC hC hx),ai (aC hC hd)]; exact hC
 . rw [ai (aC e hx),ai (aC e hd)]; exact e
theorem wq {K:Frag} {c:RCl RK} {vs:List V} {H:Hp} {Q:VK} {E:XK} (h:gp K c vs H Q E):kH K c { nx:=fun _ H'=>Q .non H',rt:=Q } (start ["floor","words","cells","amount","mark","name"] vs) H:=by
 obtain ⟨k,p,W,C,ws,cs,n,m,rfl,hk,ok,hW,hC,q⟩:=h
 have mk:=z7 (K:=K) ok hW hC q
 have e0:atI (((nmC k::ws).map tx).map V.str) 0=some (V.str (tx (nmC k))):=ga (j:=0) rfl
 show kH K c _ [some (.ref p),some (.ref W),some (.ref C),some (.int n),some (.int m),none] H
 unfold kH
 walk_at "w"
 refine ixL hW e0 ?_
 have D:∀ (l:List Nat) (t:TS) (u:TS) (D:Ends) (b:Bool),decide (nmC k=l)=b->(if b=true then t D [some (.ref p),some (.ref W),some (.ref C),some (.int n),some (.int m),some (.str (tx (nmC k)))] H else u D [some (.ref p),some (.ref W),some (.ref C),some (.int n),some (.int m),some (.str (tx (nmC k)))] H)->
   tIfS (tTest (tOp (cEq K) (tVar 5) (tC (.str (tx l))))) t u D [some (.ref p),some (.ref W),some (.ref C),some (.int n),some (.int m),some (.str (tx (nmC k)))] H:=fun l t u D b hb hq=>by
  rw [aI]
  walk_at "w"
  rw [bd,hb]
  exact hq
 have R:∀ (D:Ends),D.rt=Q->tRet (tMake (c.A k) (av K c) [] E0 (tCons (tVar 0) (tCons (tVar 1) (tCons (tVar 2) (tCons (tVar 3) (tCons (tVar 4) tNil)))))) D [some (.ref p),some (.ref W),some (.ref C),some (.int n),some (.int m),some (.str (tx (nmC k)))] H:=fun D hD=>by
  walk_at "w"
  rw [hD]
  exact mk
 cases k with
 | Rule=>exact absurd rfl hk
 | Unlike=>exact D _ _ _ _ true (by decide) (iteT (R _ rfl))
 | Sum=>exact D _ _ _ _ false (by decide) (iteF (D _ _ _ _ true (by decide) (iteT (R _ rfl))))
 | Rising=>exact D _ _ _ _ false (by decide) (iteF (D _ _ _ _ false (by decide) (iteF (D _ _ _ _ true (by decide) (iteT (R _ rfl))))))
 | Seen=>exact D _ _ _ _ false (by decide) (iteF (D _ _ _ _ false (by decide) (iteF (D _ _ _ _ false (by decide) (iteF (D _ _ _ _ true (by decide) (iteT (R _ rfl))))))))
 | Count=>exact D _ _ _ _ false (by decide) (iteF (D _ _ _ _ false (by decide) (iteF (D _ _ _ _ false (by decide) (iteF (D _ _ _ _ false (by decide) (iteF (D _ _ _ _ true (by decide) (iteT (R _ rfl))))))))))
 | Joined=>exact D _ _ _ _ false (by decide) (iteF (D _ _ _ _ false (by decide) (iteF (D _ _ _ _ false (by decide) (iteF (D _ _ _ _ false (by decide) (iteF (D _ _ _ _ false (by decide) (iteF (D _ _ _ _ true (by decide) (iteT (R _ rfl))))))))))))
 | NoSquare=>exact D _ _ _ _ false (by decide) (iteF (D _ _ _ _ false (by decide) (iteF (D _ _ _ _ false (by decide) (iteF (D _ _ _ _ false (by decide) (iteF (D _ _ _ _ false (by decide) (iteF (D _ _ _ _ false (by decide) (iteF (D _ _ _ _ true (by decide) (iteT (R _ rfl))))))))))))))
 | Ring=>exact D _ _ _ _ false (by decide) (iteF (D _ _ _ _ false (by decide) (iteF (D _ _ _ _ false (by decide) (iteF (D _ _ _ _ false (by decide) (iteF (D _ _ _ _ false (by decide) (iteF (D _ _ _ _ false (by decide) (iteF (D _ _ _ _ false (by decide) (iteF (D _ _ _ _ true (by decide) (iteT (R _ rfl))))))))))))))))
def rowW (k:RK) (n m:Nat) (ns:List Nat):List (List Nat):=nmC k::((if numK k then [numC n] else [])++(if sgnK k then [numC m] else [])++ns.map numC)
structure uj (k:RK) (h w g:Int) (n m:Nat) (ns:List Nat) (cs:List Int):Prop where
 k0:k≠.Rule
 n0:n<=99
 nz:numK k=false->n=0
 m0:sgnK k=true->1<=(m:Int)/\(m:Int)<=g
 mz:sgnK k=false->m=0
 cl:qV k h w ns cs
 ns0:∀ x∈ns,x<100
 len:ns.length<=16
def dr (K:Frag) (c:RCl RK):Sp:=fun vs H Q _=>∃ (k:RK) (p:Addr) (h w g:Int) (n m:Nat) (ns:List Nat) (cs:List Int),vs=[.ref p,.str (tx (catL 32 (rowW k n m ns)))]/\IsFl H p h w g/\FlOk h w g/\uj k h w g n m ns cs/\c.ok k=true/\
 ∀ r H',Same H H'->H r=none->IsRule H' c k r p (rowW k n m ns) cs n m->Q (.ref r) H'
theorem uk {K:Frag} {c:RCl RK} {vs:List V} {H:Hp} {Q:VK} {E:XK} (h:dr K c vs H Q E):vs.length=2:=by
 obtain ⟨_,_,_,_,_,_,_,_,_,rfl,_⟩:=h; rfl
def fz (K:Frag) (c:RCl RK):TS:=
 (tRet (tCall (gp K c) [] E0 (tCons (tVar 0) (tCons (tVar 2) (tCons (tCall (fc K) [] E0 (tCons (tVar 0) (tCons (tVar 3) (tCons (tVar 4) tNil)))) (tCons (tVar 5) (tCons (tVar 6) tNil)))))))
def ji (K:Frag) (c:RCl RK):TS:=
 (tSeq (tAsg (tOp cIx (tVar 2) (tC (.int 0))) (gName 3))
  (tSeq (tAsg (tSl jM (tVar 2) (tPart (tC (.int 1))) cL) (gName 4))
  (tSeq (tAsg (tC (.int 0)) (gName 5))
  (tSeq (tAsg (tC (.int 0)) (gName 6))
  (tSeq (tIfS (tB (tInG gm false (tVar 3))) (tSeq (tAsg (tCall (bq K) [] E0 (tCons (tVar 4) (tCons (tC (.int 0)) (tCons (tC (.int 99)) tNil)))) (gName 5))
  (tAsg (tSl jM (tVar 4) (tPart (tC (.int 1))) cL) (gName 4))) tNext)
  (tSeq (tIfS (tB (tInG fT false (tVar 3))) (tSeq (tAsg (tCall (bq K) [] E0 (tCons (tVar 4) (tCons (tC (.int 1)) (tCons (tOp cIx (tVar 0) (tC (.int 2))) tNil)))) (gName 6))
  (tAsg (tSl jM (tVar 4) (tPart (tC (.int 1))) cL) (gName 4))) tNext)
  (fz K c)))))))
def jj (K:Frag) (c:RCl RK):TS:=
 (tSeq (tIfS (tNot (tB (tCB kIsi (tCons (tVar 1) (tCons (tC (.ty "str")) tNil))))) cC tNext)
  (tSeq (tAsg (tBM K "str" pM (tVar 1) (tCons (tC (.str (tx [32]))) tNil)) (gName 2))
  (ji K c)))
theorem z8 (k:RK):32∉nmC k:=by cases k <;> decide
theorem yc {k:RK} {n m:Nat} {ns:List Nat} (hn:n<100) (hm:m<100) (hs:∀ x∈ns,x<100):∀ r∈rowW k n m ns,32∉r:=by
 intro r hr
 unfold rowW at hr
 rcases List.mem_cons.mp hr with rfl | hr
 . exact z8 k
 rcases List.mem_append.mp hr with hr | hr
 . rcases List.mem_append.mp hr with hr | hr
   . split at hr
     . rw [List.mem_singleton.mp hr]; exact oI hn
     . cases hr
   . split at hr
     . rw [List.mem_singleton.mp hr]; exact oI hm
     . cases hr
 . obtain ⟨x,hx,rfl⟩:=List.mem_map.mp hr
   exact oI (hs x hx)
theorem y8 (xs:List V):cutV xs (some 1) none=xs.drop 1:=by
 unfold cutV
 have h1:HT.sIx xs.length 0 (some 1)=min 1 xs.length:=HT.sIx_nat ..
 have h2:HT.sIx xs.length xs.length none=xs.length:=rfl
 rw [h1,h2]
 cases xs with
 | nil=>rfl
 | cons x r=>
  have:min 1 (x::r).length=1:=by simp
  rw [this]
  show (r).take _=r
  rw [List.take_of_length_le (by simp)]
theorem lr {K:Frag} {c:RCl RK} {H:Hp} {Q:VK} {k:RK} {p W R:Addr} {h w g:Int} {n m:Nat} {ws:List (List Nat)} {ns:List Nat} {cs:List Int} {lv:V} (F:FlOk h w g) (ha:IsFl H p h w g) (hW:H W=some (.lst (((nmC k::ws).map tx).map V.str))) (hR:H R=some (.lst (((ns.map numC).map tx).map V.str))) (hc:qV k h w ns cs) (hn:∀ x∈ns,x<100) (k0:k≠.Rule) (ok:c.ok k=true)
  (q:∀ r H',Same H H'->H r=none->IsRule H' c k r p (nmC k::ws) cs n m->Q (.ref r) H'):
  fz K c { nx:=fun _ H'=>Q .non H',rt:=Q } [some (.ref p),some lv,some (.ref W),some (.str (tx (nmC k))),some (.ref R),some (.int n),some (.int m)] H:=by
 unfold fz
 walk_at "w"
 refine ⟨k,p,R,h,w,g,ns,cs,rfl,ha,F,hR,hc,hn,fun l H1 s1 hl el=>?_⟩
 walk_at "w"
 exact ⟨k,p,W,l,ws,cs,n,m,rfl,k0,ok,s1 _ _ hW,el,fun r H2 s2 hr x=>q r H2 (s1.trans s2) (s1.free hr) x⟩
theorem vc {k:RK} {n m:Nat} {ns:List Nat} (h:ns.length<=16):(rowW k n m ns).length<=100/\∀ w∈rowW k n m ns,w.length<=100:=by
 unfold rowW
 refine ⟨?_,fun w hw=>?_⟩
 . simp only [List.length_cons,List.length_append,List.length_map]
   split <;> split <;> simp <;> omega
 . rcases List.mem_cons.mp hw with rfl | hw
   . cases k <;> decide
   have h2:∀ x,(numC x).length<=100:=fun x=>Nat.le_trans nS (by decide)
   rcases List.mem_append.mp hw with hw | hw
   . rcases List.mem_append.mp hw with hw | hw
     . split at hw
       . rw [List.mem_singleton.mp hw]; exact h2 _
       . cases hw
     . split at hw
       . rw [List.mem_singleton.mp hw]; exact h2 _
       . cases hw
   . obtain ⟨x,hx,rfl⟩:=List.mem_map.mp hw
     exact h2 _
theorem pX:∀ (rows:List (List Nat)),(∀ r∈rows,r.length<=100)->(catL 32 rows).length<=101*rows.length
 | [],_=>Nat.zero_le _
 | [x],h=>by
  have:=h x List.mem_cons_self
  show x.length<=101*1
  omega
 | x::y::r,h=>by
  have h1:=h x List.mem_cons_self
  have ih:=pX (y::r) fun z hz=>h z (List.mem_cons_of_mem _ hz)
  have e:catL 32 (x::y::r)=x++32::catL 32 (y::r):=by first | rfl | simp [catL]
  rw [e,List.length_append,List.length_cons,List.length_cons]
  omega
theorem qW {H:Hp} {Q:VK} {p:Addr} {x:Str} {xs:List Str} (hp:H p=some (.lst ((x::xs).map V.str))) (q:∀ l,H l=none->Q (.ref l) (upd H l (.lst (xs.map V.str)))):jM (.ref p) (some 1) none H Q:=by
 refine l8 hp fun l hl=>?_
 rw [y8]
 exact q l hl
theorem pY {K:Frag} {c:RCl RK} {H:Hp} {Q:VK} {k:RK} {p W:Addr} {h w g:Int} {n m:Nat} {ns:List Nat} {cs:List Int} {lv:V} (F:FlOk h w g) (ha:IsFl H p h w g) (hW:H W=some (.lst (((rowW k n m ns).map tx).map V.str))) (O:uj k h w g n m ns cs) (ok:c.ok k=true)
  (q:∀ r H',Same H H'->H r=none->IsRule H' c k r p (rowW k n m ns) cs n m->Q (.ref r) H'):
  ji K c { nx:=fun _ H'=>Q .non H',rt:=Q } [some (.ref p),some lv,some (.ref W),none,none,none,none] H:=by
 obtain ⟨k0,n0,nz,m0,mz,cl,ns0,len⟩:=O
 obtain ⟨h0,h1,w0,w1,m16,g0,g1⟩:=id F
 have e0:atI (((rowW k n m ns).map tx).map V.str) 0=some (V.str (tx (nmC k))):=ga (j:=0) rfl
 have hns:WOk (ns.map numC):=fun v hv=>by obtain ⟨x,hx,rfl⟩:=List.mem_map.mp hv; exact qT (ns0 x hx)
 unfold ji
 walk_at "w"
 refine ixL hW e0 ?_
 walk_at "w"
 refine qW hW fun R hR=>?_
 have s1:Same H (upd H R (.lst ((((if numK k then [numC n] else [])++(if sgnK k then [numC m] else [])++ns.map numC).map tx).map V.str))):=(Same.refl H).laid hR
 have eR:(upd H R (.lst ((((if numK k then [numC n] else [])++(if sgnK k then [numC m] else [])++ns.map numC).map tx).map V.str))) R=some (.lst ((((if numK k then [numC n] else [])++(if sgnK k then [numC m] else [])++ns.map numC).map tx).map V.str)):=ae
 generalize upd H R (.lst ((((if numK k then [numC n] else [])++(if sgnK k then [numC m] else [])++ns.map numC).map tx).map V.str))=H1 at*
 walk_at "w"
 have two:∀ {H2:Hp} {R2:Addr},Same H H2->H2 R2=some (.lst ((((if sgnK k then [numC m] else [])++ns.map numC).map tx).map V.str))->
   tSeq (tIfS (tB (tInG fT false (tVar 3))) (tSeq (tAsg (tCall (bq K) [] E0 (tCons (tVar 4) (tCons (tC (.int 1)) (tCons (tOp cIx (tVar 0) (tC (.int 2))) tNil)))) (gName 6)) (tAsg (tSl jM (tVar 4) (tPart (tC (.int 1))) cL) (gName 4))) tNext) (fz K c) { nx:=fun _ H'=>Q .non H',rt:=Q }
    [some (.ref p),some lv,some (.ref W),some (.str (tx (nmC k))),some (.ref R2),some (.int n),some (.int 0)] H2:=by
  intro H2 R2 s2 eR2
  rw [aL,aI]
  walk_at "w"
  rw [A3]
  cases hs:sgnK k with
  | false=>
   rw [hs] at eR2
   have:=mz hs
   subst this
   walk_at "w"
   exact lr F (s2 _ _ ha) (s2 _ _ hW) eR2 cl ns0 k0 ok fun r H3 s3 hr x=>q r H3 (s2.trans s3) (s2.free hr) x
  | true=>
   rw [hs] at eR2
   have hm:=m0 hs
   walk_at "w"
   refine ixT (s2 _ _ ha) (v:=V.int g) rfl ?_
   walk_at "w"
   refine ⟨R2,m,ns.map numC,1,g,rfl,eR2,by omega,hns,hm.1,hm.2,fun H3 s3=>?_⟩
   walk_at "w"
   refine qW (s3 _ _ eR2) fun R3 hR3=>?_
   have s4:Same H3 (upd H3 R3 (.lst (((ns.map numC).map tx).map V.str))):=(Same.refl H3).laid hR3
   have s24:=(s2.trans s3).trans s4
   exact lr F (s24 _ _ ha) (s24 _ _ hW) ae cl ns0 k0 ok fun r H5 s5 hr x=>q r H5 (s24.trans s5) (s24.free hr) x
 rw [aI]
 walk_at "w"
 rw [A2]
 cases hn:numK k with
 | false=>
  rw [hn] at eR
  have:=nz hn
  subst this
  walk_at "w"
  exact two s1 eR
 | true=>
  rw [hn] at eR
  walk_at "w"
  refine ⟨R,n,(if sgnK k then [numC m] else [])++ns.map numC,0,99,rfl,eR,by omega,?_,by omega,by omega,fun H3 s3=>?_⟩
  . intro v hv
    rcases List.mem_append.mp hv with hv | hv
    . split at hv
      . rename_i hs
        have:=m0 hs
        rw [List.mem_singleton.mp hv]; exact qT (by omega)
      . cases hv
    . exact hns v hv
  walk_at "w"
  refine qW (s3 _ _ eR) fun R3 hR3=>?_
  have s4:Same H3 (upd H3 R3 (.lst ((((if sgnK k then [numC m] else [])++ns.map numC).map tx).map V.str))):=(Same.refl H3).laid hR3
  walk_at "w"
  exact two ((s1.trans s3).trans s4) ae
theorem ul {K:Frag} {c:RCl RK} {vs:List V} {H:Hp} {Q:VK} {E:XK} (h:dr K c vs H Q E):jj K c { nx:=fun _ H'=>Q .non H',rt:=Q } (start ["floor","line","words","name","rest","amount","mark"] vs) H:=by
 obtain ⟨k,p,h,w,g,n,m,ns,cs,rfl,ha,F,O,ok,q⟩:=h
 have hm:m<100:=by
  by_cases hs:sgnK k=true
  . have:=(O.m0 hs).2
    have:=F.g1
    omega
  . have:=O.mz (by simpa using hs)
    omega
 have hsp:Txt.split (tx (catL 32 (rowW k n m ns))) (tx [32])=(rowW k n m ns).map tx:=y1 (by simp [rowW]) (yc (by have:=O.n0; omega) hm O.ns0)
 have hl:=vc (k:=k) (n:=n) (m:=m) O.len
 have hl2:=pX _ hl.2
 show jj K c _ [some (.ref p),some (.str (tx (catL 32 (rowW k n m ns)))),none,none,none,none,none] H
 unfold jj
 rw [aL,aI]
 walk_at "w"
 refine ⟨zy,?_⟩
 rw [zU,hsp]
 refine ⟨by rw [i8]; decide,by rw [i8]; exact Nat.le_of_lt (Nat.lt_of_le_of_lt hl2 (Nat.lt_of_le_of_lt (Nat.mul_le_mul_left 101 hl.1) (by decide))),by rw [List.length_map]; exact aB (by omega),fun W hW=>?_⟩
 have s1:Same H (upd H W (.lst (((rowW k n m ns).map tx).map V.str))):=(Same.refl H).laid hW
 exact pY F (s1 _ _ ha) ae O ok fun r H2 s2 hr x=>q r H2 (s1.trans s2) (s1.free hr) x
theorem rX {α β:Type} (f:α->β):∀ (l:List α) (j:Nat),(l.map f).eraseIdx j=(l.eraseIdx j).map f
 | [],_=>rfl
 | _::_,0=>rfl
 | x::r,j+1=>by
  show f x::(r.map f).eraseIdx j=f x::(r.eraseIdx j).map f
  rw [rX f r j]
theorem pZ {α:Type}:∀ (l:List α) (j:Nat) (h:j<l.length),(l[j]::l.eraseIdx j).Perm l
 | [],_,h=>absurd h (by simp)
 | x::r,0,_=>List.Perm.refl _
 | x::r,j+1,h=>by
  have hj:j<r.length:=by simpa using h
  have ih:=pZ r j hj
  show (r[j]::x::r.eraseIdx j).Perm (x::r)
  exact (List.Perm.swap x r[j] (r.eraseIdx j)).trans (List.Perm.cons x ih)
theorem m7 {α β:Type} (f:α->β):∀ {l:List α},(l.map f).Nodup->l.Nodup
 | [],_=>List.nodup_nil
 | a::r,h=>by
  rw [List.map_cons,List.nodup_cons] at h
  rw [List.nodup_cons]
  exact ⟨fun z=>h.1 (List.mem_map.mpr ⟨a,z,rfl⟩),m7 f h.2⟩
theorem yd (n:Int):(rngL 0 n).Nodup:=by
 unfold rngL
 have e:(List.range (n-0).toNat).map (fun (k:Nat)=>0+(k:Int))=(List.range (n-0).toNat).map fun (k:Nat)=>(k:Int):=List.map_congr_left fun k _=>by omega
 rw [e]
 exact pW List.nodup_range
theorem qX {n x:Int} (h:x∈rngL 0 n):0<=x/\x<n:=by
 unfold rngL at h
 obtain ⟨k,hk,rfl⟩:=List.mem_map.mp h
 have:=List.mem_range.mp hk
 omega
def fA (K:Frag) (c:RCl RK):Sp:=cF K c .Unlike
theorem p5 {K:Frag} {c:RCl RK} {vs:List V} {H:Hp} {Q:VK} {E:XK} (h:fA K c vs H Q E):vs.length=2:=by
 obtain ⟨_,_,_,_,_,_,_,_,_,_,_,rfl,_⟩:=h; rfl
def fB (K:Frag) (c:RCl RK):TS:=
 (tSeq (tAsg (be c c.ok "signs_at" (bv K c) (tVar 0) (tCons (tVar 1) tNil)) (gName 2))
  (tRet (tOp (cEq K) (lW (tVar 2)) (tCB kLen (tCons (tVar 2) tNil)))))
theorem p6 {K:Frag} {c:RCl RK} {vs:List V} {H:Hp} {Q:VK} {E:XK} (h:fA K c vs H Q E):fB K c { nx:=fun _ H'=>Q .non H',rt:=Q } (start ["self","filling","signs"] vs) H:=by
 obtain ⟨r,p,f,ws,cs,xs,n,m,h,w,g,rfl,x,ha,F,hf,hC,hx,q⟩:=h
 obtain ⟨dx,W,C,h1,h2,h3⟩:=x.ex
 show fB K c _ [some (.ref r),some (.ref f),none] H
 unfold fB
 walk_at "w"
 refine methE rfl x.ok h1 (by rfl) ?_
 walk_at "w"
 refine ⟨r,p,f,ws,cs,xs,n,m,rfl,x,hf,hC,fun l H1 s1 hl el=>?_⟩
 have hlen:(sgAt xs cs).length<=100:=by unfold sgAt; rw [List.length_map]; exact Nat.le_trans hC.1 (by decide)
 walk_at "w"
 refine ⟨l,_,rfl,el,by omega,?_⟩
 walk_at "w"
 rw [bc el,List.length_map]
 walk_at "w"
 have q1:=q _ s1
 unfold hoB at q1
 dsimp only at q1
 have e:decide (((cntD (sgAt xs cs):Nat):Int)=((sgAt xs cs).length:Nat))=decide (cntD (sgAt xs cs)=(sgAt xs cs).length):=by
  rw [Bool.eq_iff_iff,decide_eq_true_eq,decide_eq_true_eq]
  omega
 rw [e]
 exact q1
theorem vM {n:Nat} (h:n<100):((n:Int)).natAbs.log2<1920:=by
 have t:((List.range 100).all fun n=>decide (n.log2<1920))=true:=by decide+kernel
 have:=List.all_eq_true.mp t n (List.mem_range.mpr h)
 simpa using this
theorem z9 {H:Hp} {Q:VK} {n:Nat} (h:n<100) (q:Q (.str (tx (numC n))) H):kStr [.int (n:Int)] H Q:=by
 refine ⟨vM h,?_⟩
 rw [vK h]
 exact q
theorem ye {K:Frag} {H:Hp} {C:Addr} {cs:List Nat} {fin:Addr->Hp->Prop} (hC:H C=some (.lst ((cs.map fun (n:Nat)=>(n:Int)).map V.int))) (hl:cs.length<=100) (hc:∀ c∈cs,c<100)
  (hd:∀ l H',H l=none->Same H H'->H' l=some (.lst (((cs.map numC).map tx).map V.str))->fin l H'):CompR (Itl K C) (gName 1) tTrue (tCB kStr (tCons (tVar 1) tNil)) fin [none,none] H:=by
 refine cp (xs:=(cs.map fun (n:Nat)=>(n:Int)).map V.int) (fun _=>true) (fun i=>.str (tx (numC (cs.getD i 0)))) (by simp; omega) (SqL.of hC) ?_ ?_ ?_
 . intro i x H1 R hx s1 k1
   exact k1 _ (Same.refl _)
 . intro i x H1 Q1 hx hb s1 k1
   rw [List.getElem?_map,List.getElem?_map] at hx
   cases e:cs[i]? with
   | none=>rw [e] at hx; cases hx
   | some n=>
    rw [e] at hx
    cases hx
    show tCB kStr _ [none,some (.int (n:Int))] H1 Q1
    walk_at "w"
    have q1:=k1 _ (Same.refl H1)
    have eg:cs.getD i 0=n:=by rw [List.getD,e]; rfl
    rw [eg] at q1
    have:=z9 (H:=H1) (Q:=Q1) (hc n (List.mem_of_getElem? e)) q1
    exact this
 . intro l H1 hl1 s1 el
   refine hd l H1 hl1 s1 ?_
   rw [el,bp,List.length_map,List.length_map,List.map_map,List.map_map]
   congr 2
   refine List.ext_getElem? fun i=>?_
   rw [List.getElem?_map,List.getElem?_map]
   by_cases h:i<cs.length
   . rw [List.getElem?_range h,List.getElem?_eq_getElem h]
     simp [List.getD,h]
   . rw [List.getElem?_eq_none (by simpa using h),List.getElem?_eq_none (by omega)]; rfl
end L2
namespace L2
open PySem PySem.Spec PyProof.Rows
section
variable {X:Cx} {a:Expr} {ta:TE} {pos p:Pos} {x:Str} {ws:List Str}
theorem p7 (G:GTup X.K X.mg x ws) (ha:PE X a ta) (hg:Gl X x) (hdb:(x==("__debug__":Str))=false:=by decide) (hm:behindInMarks .In (.Name x p)=false:=by with_unfolding_all rfl):PT X (.Compare a [.In] [.Name x p] pos) (tB (tInG ws false ta)):=by
 obtain ⟨q,o,its,n,h1,h2⟩:=G.ex
 have h0:=am (pos:=pos) (AW ⟨o,its,n,h2⟩) ha (cK (v:=V.ref q) hg h1 rfl hdb) hm
 intro pins s σ H Q I h
 refine h0 pins s σ H Q I ?_
 have e:(fun (x:V) (H1:Hp)=>∃ z,x=.str z/\∃ k,V.bl (if false=true then !decide (z∈ws) else decide (z∈ws))=.bl k/\Q k H1)=fun x H1=>∃ z,x=.str z/\(V.ref q=V.ref q)/\∃ k,V.bl (decide (z∈ws))=.bl k/\Q k H1:=by
  funext x H1; simp
 have h':ta σ H (fun (x:V) (H1:Hp)=>∃ z,x=.str z/\∃ k,V.bl (if false=true then !decide (z∈ws) else decide (z∈ws))=.bl k/\Q k H1):=h
 rw [e] at h'
 exact h'
theorem vN (G:GTup X.K X.mg x ws) (ha:PE X a ta) (hg:Gl X x) (hdb:(x==("__debug__":Str))=false:=by decide) (hm:behindInMarks .NotIn (.Name x p)=false:=by with_unfolding_all rfl):PT X (.Compare a [.NotIn] [.Name x p] pos) (tB (tInG ws true ta)):=by
 obtain ⟨q,o,its,n,h1,h2⟩:=G.ex
 have h0:=am (pos:=pos) (zX ⟨o,its,n,h2⟩) ha (cK (v:=V.ref q) hg h1 rfl hdb) hm
 intro pins s σ H Q I h
 refine h0 pins s σ H Q I ?_
 have e:(fun (x:V) (H1:Hp)=>∃ z,x=.str z/\∃ k,V.bl (if true=true then !decide (z∈ws) else decide (z∈ws))=.bl k/\Q k H1)=fun x H1=>∃ z,x=.str z/\(V.ref q=V.ref q)/\∃ k,V.bl (!decide (z∈ws))=.bl k/\Q k H1:=by
  funext x H1; simp
 have h':ta σ H (fun (x:V) (H1:Hp)=>∃ z,x=.str z/\∃ k,V.bl (if true=true then !decide (z∈ws) else decide (z∈ws))=.bl k/\Q k H1):=h
 rw [e] at h'
 exact h'
end
end L2
namespace L2
open PySem PySem.Spec PyProof.Rows
local macro_rules | `(tactic| walk_at "w")=>`(tactic| (first | simp only [aL,kh,lp,fS,ki,iS,iT,lq,li,kf,lj,if_true,if_false,Bool.false_eq_true,decide_true,decide_false,gj,gk,kE,dG,cZ,gh,i7,gi,dF,iZ,i6,dE,kB,dH,dI,dL,dM,dN,dO,dJ,i9,ja,jb,iY,kD,Bool.not_true,Bool.not_false,dj,fu,bo,gd,w_c,jK,dD,ei,dk,eE,w_b,w_not,gM,kl,eF,eI,gN,gf,dl,km,eJ,gO,gg,jL,gP,eK,eM,eP,eQ,cM,cN,cy,b9,cb,bF,gQ,gR,gS,gU,gW,gX,gY,gZ,g7,g8,g9,hV,kn,eV,ce,eW,ko,eX,cO,cf,hX,h9,e7,e8,e9,
 List.getElem?_cons_zero,List.getElem?_cons_succ,Option.some.injEq,exists_eq_left',exists_eq_left,List.set_cons_zero,List.set_cons_succ,bK,V.int.injEq,V.bl.injEq,V.ref.injEq,V.str.injEq,List.append_nil,List.nil_append,List.cons_append] | dsimp only | skip))
inductive PzK where
 | Puzzle
 deriving DecidableEq
structure RR where
 k:RK
 n:Nat
 m:Nat
 ns:List Nat
 cs:List Int
def RR.ws (r:RR):List (List Nat):=rowW r.k r.n r.m r.ns
def RR.txt (r:RR):Str:=tx (catL 32 r.ws)
def RR.Ok (r:RR) (h w g:Int):Prop:=uj r.k h w g r.n r.m r.ns r.cs
structure IsRules (H:Hp) (c:RCl RK) (p L:Addr) (rs:List Addr) (rows:List RR):Prop where
 top:H L=some (.lst (rs.map V.ref))
 len:rs.length=rows.length
 at_:∀ (i:Nat) (r:Addr) (x:RR),rs[i]? =some r->rows[i]? =some x->IsRule H c x.k r p x.ws x.cs x.n x.m
theorem IsRules.same {H H':Hp} {c:RCl RK} {p L:Addr} {rs:List Addr} {rows:List RR} (x:IsRules H c p L rs rows) (s:Same H H'):IsRules H' c p L rs rows:=
 ⟨s _ _ x.top,x.len,fun i r y h1 h2=>(x.at_ i r y h1 h2).same s⟩
theorem IsRule.lst {H:Hp} {c:RCl RK} {k:RK} {r p a:Addr} {ws:List (List Nat)} {cs:List Int} {n m:Int} {xs:List V} {o:HO} (x:IsRule H c k r p ws cs n m) (ha:H a=some (.lst xs)):IsRule (upd H a o) c k r p ws cs n m:=by
 obtain ⟨dx,W,C,h1,h2,h3⟩:=x.ex
 refine ⟨x.ok,dx,W,C,?_,?_,?_⟩
 . rw [ai (fun e=>by rw [e,ha] at h1; cases h1)]; exact h1
 . rw [ai (fun e=>by rw [e,ha] at h2; cases h2)]; exact h2
 . rw [ai (fun e=>by rw [e,ha] at h3; cases h3)]; exact h3
def pFs (p L G:Addr):List (Str × V):=[("floor",.ref p),("laws",.ref L),("given",.ref G)]
structure m8 (c:RCl RK) (h w g:Int) (rows:List RR):Prop where
 F:FlOk h w g
 n:rows.length<=12
 ok:∀ r∈rows,r.Ok h w g
 c:∀ r∈rows,c.ok r.k=true
structure CluesOk (h w g:Int) (cl:List Int):Prop where
 len:cl.length=(h*w).toNat
 ok:∀ x∈cl,0<=x/\x<=g
structure IsPz (H:Hp) (c:RCl RK) (d:RCl PzK) (P L G:Addr) (h w g:Int) (rows:List RR) (cl:List Int):Prop where
 ok:d.ok .Puzzle=true
 R:m8 c h w g rows
 C:CluesOk h w g cl
 gv:H G=some (.lst (cl.map V.int))
 ex:∃ dx p rs,H P=some (.ins (d.A .Puzzle) dx (pFs p L G))/\IsFl H p h w g/\IsRules H c p L rs rows
theorem IsPz.same {H H':Hp} {c:RCl RK} {d:RCl PzK} {P L G:Addr} {h w g:Int} {rows:List RR} {cl:List Int} (x:IsPz H c d P L G h w g rows cl) (s:Same H H'):IsPz H' c d P L G h w g rows cl:=by
 obtain ⟨dx,p,rs,h1,h2,h3⟩:=x.ex
 exact ⟨x.ok,x.R,x.C,s _ _ x.gv,dx,p,rs,s _ _ h1,s _ _ h2,h3.same s⟩
def a9 (K:Frag):Sp:=fun vs H Q _=>∃ i:Int,vs=[.int i]/\Q (.bl true) H
theorem vd {K:Frag} {vs:List V} {H:Hp} {Q:VK} {E:XK} (h:a9 K vs H Q E):vs.length=1:=by
 obtain ⟨_,rfl,_⟩:=h; rfl
def j9 (K:Frag):TS:=
 (tRet (tAndV (tCB kIsi (tCons (tVar 0) (tCons (tC (.ty "int")) tNil))) (tNotV (tCB kIsi (tCons (tVar 0) (tCons (tC (.ty "bool")) tNil))))))
theorem ve {K:Frag} {vs:List V} {H:Hp} {Q:VK} {E:XK} (h:a9 K vs H Q E):j9 K { nx:=fun _ H'=>Q .non H',rt:=Q } (start ["value"] vs) H:=by
 obtain ⟨i,rfl,q⟩:=h
 show j9 K _ [some (.int i)] H
 unfold j9
 walk_at "w"
 exact q
def aU (K:Frag):Sp:=fun vs H Q _=>∃ i m:Int,vs=[.int i,.int m]/\Q (.bl (decide (1<=i)&&decide (i<=m))) H
theorem nY {K:Frag} {vs:List V} {H:Hp} {Q:VK} {E:XK} (h:aU K vs H Q E):vs.length=2:=by
 obtain ⟨_,_,rfl,_⟩:=h; rfl
def dc (K:Frag):TS:=
 (tRet (tAndV (tCall (a9 K) [] E0 (tCons (tVar 0) tNil)) (tAndV (tOp (cCmp fun i j=>decide (i<=j)) (tC (.int 1)) (tVar 0)) (tOp (cCmp fun i j=>decide (i<=j)) (tVar 0) (tVar 1)))))
theorem n4 {K:Frag} {vs:List V} {H:Hp} {Q:VK} {E:XK} (h:aU K vs H Q E):dc K { nx:=fun _ H'=>Q .non H',rt:=Q } (start ["value","most"] vs) H:=by
 obtain ⟨i,m,rfl,q⟩:=h
 show dc K _ [some (.int i),some (.int m)] H
 unfold dc
 walk_at "w"
 refine ⟨i,rfl,⟨true,rfl,iteT ?_⟩⟩
 walk_at "w"
 cases hb:decide (1<=i) with
 | false=>
  rw [hb,Bool.false_and] at q
  exact iteF q
 | true=>
  rw [hb,Bool.true_and] at q
  exact iteT q
def fe (K:Frag):Sp:=fun vs H Q _=>∃ h w g:Int,vs=[.int h,.int w,.int g]/\FlOk h w g/\∀ p,H p=none->Q (.ref p) (upd H p (.tup [.int h,.int w,.int g]))
theorem vf {K:Frag} {vs:List V} {H:Hp} {Q:VK} {E:XK} (h:fe K vs H Q E):vs.length=3:=by
 obtain ⟨_,_,_,rfl,_⟩:=h; rfl
def ka (K:Frag):TS:=
 (tSeq (tIfS (tNot (tB (tCall (aU K) [] E0 (tCons (tVar 0) (tCons (tC (.int 6)) tNil))))) cC tNext)
  (tSeq (tIfS (tNot (tB (tCall (aU K) [] E0 (tCons (tVar 1) (tCons (tC (.int 6)) tNil))))) cC tNext)
  (tSeq (tIfS (tTest (tOp (cCmp fun i j=>decide (j<i)) (tOp cMul (tVar 0) (tVar 1)) (tC (.int 16)))) cC tNext)
  (tSeq (tIfS (tNot (tB (tCall (aU K) [] E0 (tCons (tVar 2) (tCons (tC (.int 6)) tNil))))) cC tNext)
  (tRet (tTup (tCons (tVar 0) (tCons (tVar 1) (tCons (tVar 2) tNil)))))))))
theorem vg {K:Frag} {vs:List V} {H:Hp} {Q:VK} {E:XK} (h:fe K vs H Q E):ka K { nx:=fun _ H'=>Q .non H',rt:=Q } (start ["high","wide","signs"] vs) H:=by
 obtain ⟨h,w,g,rfl,F,q⟩:=h
 obtain ⟨h0,h1,w0,w1,m16,g0,g1⟩:=id F
 show ka K _ [some (.int h),some (.int w),some (.int g)] H
 unfold ka
 rw [aL,aI]
 walk_at "w"
 refine ⟨h,6,rfl,⟨_,rfl,?_⟩⟩
 rw [decide_eq_true h0,decide_eq_true h1,Bool.and_self]
 refine iteF ?_
 rw [aI]
 walk_at "w"
 refine ⟨w,6,rfl,⟨_,rfl,?_⟩⟩
 rw [decide_eq_true w0,decide_eq_true w1,Bool.and_self]
 refine iteF ?_
 rw [aI]
 walk_at "w"
 refine ⟨fR h0 h1,?_⟩
 rw [decide_eq_false (show ¬ (16:Int)<h*w by omega)]
 refine iteF ?_
 rw [aI]
 walk_at "w"
 refine ⟨g,6,rfl,⟨_,rfl,?_⟩⟩
 rw [decide_eq_true g0,decide_eq_true g1,Bool.and_self]
 refine iteF ?_
 walk_at "w"
 exact ⟨aB (by show (3:Nat)<=1000; decide),q⟩
def bM (K:Frag):Sp:=fun vs H Q _=>∃ (p:Addr) (h w g:Int),vs=[.ref p]/\IsFl H p h w g/\FlOk h w g/\∀ p,H p=none->Q (.ref p) (upd H p (.tup [.int h,.int w,.int g]))
theorem oQ {K:Frag} {vs:List V} {H:Hp} {Q:VK} {E:XK} (h:bM K vs H Q E):vs.length=1:=by
 obtain ⟨_,_,_,_,rfl,_⟩:=h; rfl
def dU (K:Frag):TS:=
 (tSeq (tIfS (tOr (tNot (tB (tCB kIsi (tCons (tVar 0) (tCons (tC (.ty "tuple")) tNil))))) (tTest (tOp (cNe K) (tCB kLen (tCons (tVar 0) tNil)) (tC (.int 3))))) cC tNext)
  (tRet (tCall (fe K) [] E0 (tCons (tOp cIx (tVar 0) (tC (.int 0))) (tCons (tOp cIx (tVar 0) (tC (.int 1))) (tCons (tOp cIx (tVar 0) (tC (.int 2))) tNil))))))
theorem oR {K:Frag} {vs:List V} {H:Hp} {Q:VK} {E:XK} (h:bM K vs H Q E):dU K { nx:=fun _ H'=>Q .non H',rt:=Q } (start ["floor"] vs) H:=by
 obtain ⟨p,h,w,g,rfl,hp,F,q⟩:=h
 show dU K _ [some (.ref p)] H
 unfold dU
 rw [aL,aI]
 walk_at "w"
 refine xY hp ?_
 walk_at "w"
 rw [xG hp,show (([V.int h,V.int w,V.int g]:List V).length:Int)=3 from rfl]
 walk_at "w"
 refine ixT hp (v:=V.int h) rfl ?_
 walk_at "w"
 refine ixT hp (v:=V.int w) rfl ?_
 walk_at "w"
 refine ixT hp (v:=V.int g) rfl ?_
 walk_at "w"
 exact ⟨h,w,g,rfl,F,q⟩
def cQ (K:Frag) (c:RCl RK):Sp:=fun vs H Q _=>∃ (p a:Addr) (h w g:Int) (rows:List RR),vs=[.ref p,.ref a]/\IsFl H p h w g/\H a=some (.lst ((rows.map RR.txt).map V.str))/\m8 c h w g rows/\
 ∀ l rs H',Same H H'->H l=none->IsRules H' c p l rs rows->Q (.ref l) H'
theorem su {K:Frag} {c:RCl RK} {vs:List V} {H:Hp} {Q:VK} {E:XK} (h:cQ K c vs H Q E):vs.length=2:=by
 obtain ⟨_,_,_,_,_,_,rfl,_⟩:=h; rfl
def ig (K:Frag) (c:RCl RK):TS:=
 (tSeq (tIfS (tTest (tOp (cCmp fun i j=>decide (j<i)) (tCB kLen (tCons (tVar 1) tNil)) (tC (.int 12)))) cC tNext)
  (tRet (tComp [none,none,some 0] (iList K (tVar 1)) (gName 1) tTrue (tCall (dr K c) [] E0 (tCons (tVar 2) (tCons (tVar 1) tNil))))))
theorem sv {K:Frag} {c:RCl RK} {vs:List V} {H:Hp} {Q:VK} {E:XK} (h:cQ K c vs H Q E):ig K c { nx:=fun _ H'=>Q .non H',rt:=Q } (start ["floor","lines"] vs) H:=by
 obtain ⟨p,a,h,w,g,rows,rfl,hp,ha,O,q⟩:=h
 have hn:=O.n
 show ig K c _ [some (.ref p),some (.ref a)] H
 unfold ig
 rw [aL,aI]
 walk_at "w"
 rw [bc ha,List.length_map,List.length_map]
 walk_at "w"
 rw [decide_eq_false (show ¬ (12:Int) < (rows.length:Nat) by omega)]
 refine iteF ?_
 walk_at "w"
 refine ⟨⟨_,SqL.of ha⟩,?_⟩
 refine mZ (xs:=(rows.map RR.txt).map V.str) (fun l i σ H'=>(∃ cv,σ=[none,cv,some (.ref p)])/\Same H H'/\∃ rs:List Addr,H' l=some (.lst (rs.map V.ref))/\rs.length=i/\∀ (j:Nat) (r:Addr) (x:RR),rs[j]? =some r->rows[j]? =some x->IsRule H' c x.k r p x.ws x.cs x.n x.m)
  (fun l hl=>⟨⟨none,rfl⟩,(Same.refl H).laid hl,[],by rw [ae]; rfl,rfl,fun j r x e=>by simp at e⟩) (fun l i σ H' _ _ x=>x.2.1.seq (SqL.of ha)) ?_ ?_
 . rintro l i x σ H1 hl hx ⟨⟨cv,rfl⟩,s1,rs,el,hlen,hat⟩
   rw [List.getElem?_map,List.getElem?_map] at hx
   cases e:rows[i]? with
   | none=>rw [e] at hx; cases hx
   | some y=>
    rw [e] at hx
    cases hx
    have hi:=(List.getElem?_eq_some_iff.mp e).1
    have hm:=List.mem_of_getElem? e
    rw [bo]
    show tTrue [none,some (.str y.txt),some (.ref p)] H1 _
    walk_at "w"
    refine ⟨y.k,p,h,w,g,y.n,y.m,y.ns,y.cs,rfl,s1 _ _ hp,O.F,O.ok y hm,O.c y hm,fun r H2 s2 hr xr=>?_⟩
    have nrl:r≠l:=fun z=>by rw [z,el] at hr; cases hr
    refine ⟨_,s2 _ _ el,by rw [List.length_map]; exact aD (by omega),⟨_,rfl⟩,(s1.trans s2).own hl,rs++[r],by rw [ae]; simp,by simp [hlen],fun j r' x' h1 h2=>?_⟩
    by_cases hj:j<rs.length
    . rw [List.getElem?_append_left hj] at h1
      exact ((hat j r' x' h1 h2).same s2).lst (s2 _ _ el)
    . rw [List.getElem?_append_right (by omega)] at h1
      have hj0:j-rs.length=0:=by
       have:=(List.getElem?_eq_some_iff.mp h1).1
       simp at this
       omega
      rw [hj0] at h1
      have:j=i:=by omega
      subst this
      rw [e] at h2
      simp at h1
      cases h2
      subst h1
      exact xr.lst (s2 _ _ el)
 . rintro l σ H1 hl ⟨_,s1,rs,el,hlen,hat⟩
   exact q l rs H1 s1 hl ⟨el,by rw [hlen]; simp,hat⟩
def filB (least g:Int) (n:Nat) (xs:List Int):Bool:=decide (xs.length=n)&&xs.all fun x=>decide (least<=x)&&decide (x<=g)
def cR (K:Frag):Sp:=fun vs H Q _=>∃ (p a:Addr) (h w g least:Int) (xs:List Int),vs=[.ref p,.ref a,.int least]/\IsFl H p h w g/\FlOk h w g/\H a=some (.lst (xs.map V.int))/\xs.length<=100/\∀ H',Same H H'->Q (.bl (filB least g (h*w).toNat xs)) H'
theorem sw {K:Frag} {vs:List V} {H:Hp} {Q:VK} {E:XK} (h:cR K vs H Q E):vs.length=3:=by
 obtain ⟨_,_,_,_,_,_,_,rfl,_⟩:=h; rfl
def ii (K:Frag):TS:=
 (tSeq (tIfS (tOr (tNot (tB (tCB kIsi (tCons (tVar 1) (tCons (tC (.ty "list")) tNil))))) (tTest (tOp (cNe K) (tCB kLen (tCons (tVar 1) tNil)) (tCall (aS K) [] E0 (tCons (tVar 0) tNil))))) (tRet (tC (.bl false))) tNext)
  (tRet (tCB kAll (tCons (tComp [none,none,some 0,some 2] (iList K (tVar 1)) (gName 1) tTrue (tAndV (tCall (a9 K) [] E0 (tCons (tVar 1) tNil)) (tAndV (tOp (cCmp fun i j=>decide (i<=j)) (tVar 3) (tVar 1)) (tOp (cCmp fun i j=>decide (i<=j)) (tVar 1) (tOp cIx (tVar 2) (tC (.int 2))))))) tNil))))
theorem sx {K:Frag} {vs:List V} {H:Hp} {Q:VK} {E:XK} (h:cR K vs H Q E):ii K { nx:=fun _ H'=>Q .non H',rt:=Q } (start ["floor","filling","least"] vs) H:=by
 obtain ⟨p,a,h,w,g,least,xs,rfl,hp,F,ha,hn,q⟩:=h
 obtain ⟨h0,h1,w0,w1,m16,g0,g1⟩:=id F
 have mpos:0<=h*w:=Int.mul_nonneg (by omega) (by omega)
 show ii K _ [some (.ref p),some (.ref a),some (.int least)] H
 unfold ii
 rw [aL,aI]
 walk_at "w"
 refine xX ha ?_
 walk_at "w"
 rw [bc ha,List.length_map]
 walk_at "w"
 refine ⟨p,h,w,g,rfl,hp,h0,h1,?_⟩
 walk_at "w"
 unfold filB at q
 by_cases hl:xs.length=(h*w).toNat
 . rw [decide_eq_true (show (xs.length:Int)=h*w by omega)]
   rw [decide_eq_true hl] at q
   walk_at "w"
   refine ⟨⟨_,SqL.of ha⟩,?_⟩
   refine cp (xs:=xs.map V.int) (fun _=>true) (fun i=>.bl (decide (least<=xs.getD i 0)&&decide (xs.getD i 0<=g))) (by rw [List.length_map]; omega) (SqL.of ha) ?_ ?_ ?_
   . intro i x H1 R hx s1 k1
     exact k1 _ (Same.refl _)
   . intro i x H1 Q1 hx hb s1 k1
     obtain ⟨z,hz,rfl⟩:=bh hx
     have q1:=k1 _ (Same.refl H1)
     rw [kP hz] at q1
     show tAndV _ _ [none,some (.int z),some (.ref p),some (.int least)] H1 Q1
     walk_at "w"
     refine ⟨z,rfl,⟨true,rfl,iteT ?_⟩⟩
     walk_at "w"
     cases hb:decide (least<=z) with
     | false=>
      rw [hb,Bool.false_and] at q1
      exact iteF q1
     | true=>
      rw [hb,Bool.true_and] at q1
      refine iteT ?_
      walk_at "w"
      refine ixT (s1 _ _ hp) (v:=V.int g) rfl ?_
      walk_at "w"
      exact q1
   . intro l H1 hl1 s1 el
     have eb:((List.range (xs.map V.int).length).filter fun _=>true).map (fun i=>V.bl (decide (least<=xs.getD i 0)&&decide (xs.getD i 0<=g)))=(xs.map fun x=>decide (least<=x)&&decide (x<=g)).map V.bl:=by
      rw [bp,List.length_map]
      refine List.ext_getElem? fun i=>?_
      rw [List.getElem?_map,List.getElem?_map,List.getElem?_map]
      by_cases h:i<xs.length
      . rw [List.getElem?_range h,List.getElem?_eq_getElem h]
        simp [List.getD,h]
      . rw [List.getElem?_eq_none (by simpa using h),List.getElem?_eq_none (by omega)]; rfl
     rw [eb] at el
     refine nR el ?_
     have ea:(xs.map fun x=>decide (least<=x)&&decide (x<=g)).all id=xs.all fun x=>decide (least<=x)&&decide (x<=g):=by rw [List.all_map]; rfl
     rw [ea]
     exact q _ s1
 . rw [decide_eq_false (show ¬ (xs.length:Int)=h*w by omega)]
   rw [decide_eq_false hl] at q
   walk_at "w"
   exact q _ (Same.refl _)
def bN (K:Frag):Sp:=fun vs H Q _=>∃ (p a:Addr) (h w g:Int) (xs:List Int),vs=[.ref p,.ref a]/\IsFl H p h w g/\FlOk h w g/\H a=some (.lst (xs.map V.int))/\CluesOk h w g xs/\∀ l H',Same H H'->H l=none->H' l=some (.lst (xs.map V.int))->Q (.ref l) H'
theorem oS {K:Frag} {vs:List V} {H:Hp} {Q:VK} {E:XK} (h:bN K vs H Q E):vs.length=2:=by
 obtain ⟨_,_,_,_,_,_,rfl,_⟩:=h; rfl
def dW (K:Frag):TS:=
 (tSeq (tIfS (tNot (tB (tCall (cR K) [] E0 (tCons (tVar 0) (tCons (tVar 1) (tCons (tC (.int 0)) tNil)))))) cC tNext)
  (tRet (tCB kList (tCons (tVar 1) tNil))))
theorem CluesOk.fil {h w g:Int} {xs:List Int} (C:CluesOk h w g xs):filB 0 g (h*w).toNat xs=true:=by
 unfold filB
 rw [decide_eq_true C.len,Bool.true_and,List.all_eq_true]
 intro x hx
 have:=C.ok x hx
 simp [this.1,this.2]
theorem oT {K:Frag} {vs:List V} {H:Hp} {Q:VK} {E:XK} (h:bN K vs H Q E):dW K { nx:=fun _ H'=>Q .non H',rt:=Q } (start ["floor","clues"] vs) H:=by
 obtain ⟨p,a,h,w,g,xs,rfl,hp,F,ha,C,q⟩:=h
 obtain ⟨h0,h1,w0,w1,m16,g0,g1⟩:=id F
 show dW K _ [some (.ref p),some (.ref a)] H
 unfold dW
 rw [aL,aI]
 walk_at "w"
 refine ⟨p,a,h,w,g,0,xs,rfl,hp,F,ha,by have:=C.len; omega,fun H1 s1=>?_⟩
 rw [C.fil]
 refine ⟨true,rfl,iteF ?_⟩
 walk_at "w"
 refine m3 (s1 _ _ ha) fun l hl=>?_
 exact q l _ (s1.laid hl) (s1.free hl) ae
theorem IsRule.ins {H:Hp} {c:RCl RK} {k:RK} {r p a:Addr} {ws:List (List Nat)} {cs:List Int} {n m:Int} {C dx:Addr} {fs:List (Str × V)} {o:HO} (x:IsRule H c k r p ws cs n m) (ha:H a=some (.ins C dx fs)) (hf:fs.length≠5):IsRule (upd H a o) c k r p ws cs n m:=by
 obtain ⟨dx',W,C',h1,h2,h3⟩:=x.ex
 refine ⟨x.ok,dx',W,C',?_,?_,?_⟩
 . rw [ai (fun e=>by rw [e,ha] at h1; cases h1; exact hf rfl)]; exact h1
 . rw [ai (fun e=>by rw [e,ha] at h2; cases h2)]; exact h2
 . rw [ai (fun e=>by rw [e,ha] at h3; cases h3)]; exact h3
theorem IsRules.ins {H:Hp} {c:RCl RK} {p L a:Addr} {rs:List Addr} {rows:List RR} {C dx:Addr} {fs:List (Str × V)} {o:HO} (x:IsRules H c p L rs rows) (ha:H a=some (.ins C dx fs)) (hf:fs.length≠5):IsRules (upd H a o) c p L rs rows:=
 ⟨by rw [ai (fun e=>by have:=x.top; rw [e,ha] at this; cases this)]; exact x.top,x.len,fun i r y h1 h2=>(x.at_ i r y h1 h2).ins ha hf⟩
def ba (K:Frag) (c:RCl RK) (d:RCl PzK):Sp:=fun vs H Q _=>∃ (x dx p a b:Addr) (h w g:Int) (rows:List RR) (cl:List Int),vs=[.ref x,.ref p,.ref a,.ref b]/\d.ok .Puzzle=true/\H x=some (.ins (d.A .Puzzle) dx [])/\IsFl H p h w g/\H a=some (.lst ((rows.map RR.txt).map V.str))/\H b=some (.lst (cl.map V.int))/\m8 c h w g rows/\CluesOk h w g cl/\
 ∀ L G H',(∀ y o,y≠x->H y=some o->H' y=some o)->H L=none->H G=none->IsPz H' c d x L G h w g rows cl->Q .non H'
theorem m9 {K:Frag} {c:RCl RK} {d:RCl PzK} {vs:List V} {H:Hp} {Q:VK} {E:XK} (h:ba K c d vs H Q E):vs.length=4:=by
 obtain ⟨_,_,_,_,_,_,_,_,_,_,rfl,_⟩:=h; rfl
def c6 (K:Frag) (c:RCl RK) (d:RCl PzK):TS:=
 (tSeq (sFldK d (tVar 0) (tCall (bM K) [] E0 (tCons (tVar 1) tNil)) "floor")
  (tSeq (sFldK d (tVar 0) (tCall (cQ K c) [] E0 (tCons (tFldK d (tVar 0) "floor") (tCons (tVar 2) tNil))) "laws")
  (sFldK d (tVar 0) (tCall (bN K) [] E0 (tCons (tFldK d (tVar 0) "floor") (tCons (tVar 3) tNil))) "given")))
theorem nc {K:Frag} {c:RCl RK} {d:RCl PzK} {vs:List V} {H:Hp} {Q:VK} {E:XK} (h:ba K c d vs H Q E):c6 K c d { nx:=fun _ H'=>Q .non H',rt:=Q } (start ["self","floor","lines","clues"] vs) H:=by
 obtain ⟨x,dx,p,a,b,h,w,g,rows,cl,rfl,ok,hx,hp,ha,hb,R,C,q⟩:=h
 show c6 K c d _ [some (.ref x),some (.ref p),some (.ref a),some (.ref b)] H
 unfold c6 sFldK
 walk_at "w"
 refine ⟨p,h,w,g,rfl,hp,R.F,fun p1 hp1=>?_⟩
 have nxp:x≠p1:=aC hx hp1
 refine ⟨x,.Puzzle,dx,[],rfl,ok,by rw [ai nxp]; exact hx,by show (0:Nat)<1000; decide,?_⟩
 have f1:∀ y o,y≠x->H y=some o->(upd (upd H p1 (.tup [.int h,.int w,.int g])) x (.ins (d.A .Puzzle) dx (putF "floor" (.ref p1) []))) y=some o:=fun y o ny e=>by
  rw [ai ny,ai (aC e hp1)]; exact e
 have hx1:(upd (upd H p1 (.tup [.int h,.int w,.int g])) x (.ins (d.A .Puzzle) dx (putF "floor" (.ref p1) []))) x=some (.ins (d.A .Puzzle) dx [("floor",.ref p1)]):=ae
 have hp1':IsFl (upd (upd H p1 (.tup [.int h,.int w,.int g])) x (.ins (d.A .Puzzle) dx (putF "floor" (.ref p1) []))) p1 h w g:=by
  show (upd (upd H p1 (.tup [.int h,.int w,.int g])) x _) p1=_
  rw [ai nxp.symm,ae]
 have fr1:∀ l,(upd (upd H p1 (.tup [.int h,.int w,.int g])) x (.ins (d.A .Puzzle) dx (putF "floor" (.ref p1) []))) l=none->H l=none:=fun l e=>by
  have n1:l≠x:=fun z=>by rw [z,ae] at e; cases e
  rw [ai n1] at e
  have n2:l≠p1:=fun z=>by rw [z,ae] at e; cases e
  rw [ai n2] at e
  exact e
 have nax:a≠x:=fun z=>by rw [z,hx] at ha; cases ha
 have nbx:b≠x:=fun z=>by rw [z,hx] at hb; cases hb
 generalize upd (upd H p1 (.tup [.int h,.int w,.int g])) x (.ins (d.A .Puzzle) dx (putF "floor" (.ref p1) []))=H1 at*
 refine fldE (c:=d) (k:=.Puzzle) rfl ok hx1 (v:=.ref p1) (by rfl) ?_
 walk_at "w"
 refine ⟨p1,a,h,w,g,rows,rfl,hp1',f1 a _ nax ha,R,fun L rs H2 s2 hL X=>?_⟩
 refine ⟨x,.Puzzle,dx,_,rfl,ok,s2 _ _ hx1,by show (1:Nat)<1000; decide,?_⟩
 have nxL:L≠x:=fun z=>by rw [z,hx1] at hL; cases hL
 have X3:=X.ins (o:=.ins (d.A .Puzzle) dx (putF "laws" (.ref L) [("floor",.ref p1)])) (s2 _ _ hx1) (by show (1:Nat)≠5; decide)
 have f2:∀ y o,y≠x->H y=some o->(upd H2 x (.ins (d.A .Puzzle) dx (putF "laws" (.ref L) [("floor",.ref p1)]))) y=some o:=fun y o ny e=>by
  rw [ai ny]; exact s2 _ _ (f1 y o ny e)
 have hx3:(upd H2 x (.ins (d.A .Puzzle) dx (putF "laws" (.ref L) [("floor",.ref p1)]))) x=some (.ins (d.A .Puzzle) dx [("floor",.ref p1),("laws",.ref L)]):=ae
 have hp3:IsFl (upd H2 x (.ins (d.A .Puzzle) dx (putF "laws" (.ref L) [("floor",.ref p1)]))) p1 h w g:=by
  show (upd H2 x _) p1=_
  rw [ai nxp.symm]; exact s2 _ _ hp1'
 have fr3:∀ l,(upd H2 x (.ins (d.A .Puzzle) dx (putF "laws" (.ref L) [("floor",.ref p1)]))) l=none->H1 l=none:=fun l e=>by
  have n1:l≠x:=fun z=>by rw [z,ae] at e; cases e
  rw [ai n1] at e
  exact s2.free e
 generalize upd H2 x (.ins (d.A .Puzzle) dx (putF "laws" (.ref L) [("floor",.ref p1)]))=H3 at*
 refine fldE (c:=d) (k:=.Puzzle) rfl ok hx3 (v:=.ref p1) (by rfl) ?_
 walk_at "w"
 refine ⟨p1,b,h,w,g,cl,rfl,hp3,R.F,f2 b _ nbx hb,C,fun G H4 s4 hG eG=>?_⟩
 refine ⟨x,.Puzzle,dx,_,rfl,ok,s4 _ _ hx3,by show (2:Nat)<1000; decide,?_⟩
 have nxG:G≠x:=fun z=>by rw [z,hx3] at hG; cases hG
 refine q L G _ (fun y o ny e=>?_) (fr1 L hL) (fr1 G (fr3 G hG)) ⟨ok,R,C,?_,dx,p1,rs,?_,?_,?_⟩
 . rw [ai ny]; exact s4 _ _ (f2 y o ny e)
 . rw [ai nxG]; exact eG
 . rw [ae]; rfl
 . show (upd H4 x _) p1=_
   rw [ai nxp.symm]; exact s4 _ _ hp3
 . exact (X3.same s4).ins (s4 _ _ hx3) (by show (2:Nat)≠5; decide)
theorem A4 {K:Frag} {c:RCl RK} {d:RCl PzK} {H:Hp} {Z:Addr->Hp->Prop} {p a b:Addr} {h w g:Int} {rows:List RR} {cl:List Int} (ok:d.ok .Puzzle=true) (hp:IsFl H p h w g) (ha:H a=some (.lst ((rows.map RR.txt).map V.str))) (hb:H b=some (.lst (cl.map V.int))) (R:m8 c h w g rows) (C:CluesOk h w g cl)
  (q:∀ P L G H',Same H H'->H P=none->H L=none->H G=none->IsPz H' c d P L G h w g rows cl->Z P H'):
  ∀ x dx,H x=none->H dx=none->dx≠x->ba K c d (.ref x::([.ref p,.ref a,.ref b]++[])) (upd (upd H dx (.own x)) x (.ins (d.A .Puzzle) dx [])) (fun v H2=>v=.non/\Z x H2) E0:=by
 intro x dx hx hd ne
 have k:∀ y o,H y=some o->(upd (upd H dx (.own x)) x (.ins (d.A .Puzzle) dx [])) y=some o:=fun y o e=>by rw [ai (aC e hx),ai (aC e hd)]; exact e
 have fr:∀ y,(upd (upd H dx (.own x)) x (.ins (d.A .Puzzle) dx [])) y=none->H y=none:=fun y e=>by
  have n1:y≠x:=fun z=>by rw [z,ae] at e; cases e
  rw [ai n1] at e
  have n2:y≠dx:=fun z=>by rw [z,ae] at e; cases e
  rw [ai n2] at e
  exact e
 exact ⟨x,dx,p,a,b,h,w,g,rows,cl,rfl,ok,ae,k _ _ hp,k _ _ ha,k _ _ hb,R,C,fun L G H' hs hL hG X=>⟨rfl,q x L G H' (fun y o e=>hs y o (aC e hx) (k _ _ e)) hx (fr L hL) (fr G hG) X⟩⟩
def mh (K:Frag) (c:RCl RK) (d:RCl PzK) (_:PzK):Sp:=fun vs H Q _=>∃ (P L G:Addr) (h w g:Int) (rows:List RR) (cl:List Int),vs=[.ref P]/\IsPz H c d P L G h w g rows cl/\∀ p,IsFl H p h w g->Q (.ref p) H
def fC (K:Frag) (c:RCl RK) (d:RCl PzK):Sp:=mh K c d .Puzzle
theorem p8 {K:Frag} {c:RCl RK} {d:RCl PzK} {vs:List V} {H:Hp} {Q:VK} {E:XK} (h:fC K c d vs H Q E):vs.length=1:=by
 obtain ⟨_,_,_,_,_,_,_,_,rfl,_⟩:=h; rfl
def fD (K:Frag) (c:RCl RK) (d:RCl PzK):TS:=
 (tRet (tFldK d (tVar 0) "floor"))
theorem p9 {K:Frag} {c:RCl RK} {d:RCl PzK} {vs:List V} {H:Hp} {Q:VK} {E:XK} (h:fC K c d vs H Q E):fD K c d { nx:=fun _ H'=>Q .non H',rt:=Q } (start ["self"] vs) H:=by
 obtain ⟨P,L,G,h,w,g,rows,cl,rfl,x,q⟩:=h
 obtain ⟨dx,p,rs,h1,h2,h3⟩:=x.ex
 show fD K c d _ [some (.ref P)] H
 unfold fD
 walk_at "w"
 exact fldE (k:=.Puzzle) rfl x.ok h1 (v:=.ref p) (by rfl) (q p h2)
def jO (K:Frag) (c:RCl RK) (d:RCl PzK) (_:PzK):Sp:=fun vs H Q _=>∃ (P L G:Addr) (h w g:Int) (rows:List RR) (cl:List Int),vs=[.ref P]/\IsPz H c d P L G h w g rows cl/\∀ l p rs,H l=none->IsFl (upd H l (.lst (rs.map V.ref))) p h w g->IsRules (upd H l (.lst (rs.map V.ref))) c p l rs rows->Q (.ref l) (upd H l (.lst (rs.map V.ref)))
def fE (K:Frag) (c:RCl RK) (d:RCl PzK):Sp:=jO K c d .Puzzle
theorem qb {K:Frag} {c:RCl RK} {d:RCl PzK} {vs:List V} {H:Hp} {Q:VK} {E:XK} (h:fE K c d vs H Q E):vs.length=1:=by
 obtain ⟨_,_,_,_,_,_,_,_,rfl,_⟩:=h; rfl
def fF (K:Frag) (c:RCl RK) (d:RCl PzK):TS:=
 (tRet (tCB kList (tCons (tFldK d (tVar 0) "laws") tNil)))
theorem qc {K:Frag} {c:RCl RK} {d:RCl PzK} {vs:List V} {H:Hp} {Q:VK} {E:XK} (h:fE K c d vs H Q E):fF K c d { nx:=fun _ H'=>Q .non H',rt:=Q } (start ["self"] vs) H:=by
 obtain ⟨P,L,G,h,w,g,rows,cl,rfl,x,q⟩:=h
 obtain ⟨dx,p,rs,h1,h2,h3⟩:=x.ex
 show fF K c d _ [some (.ref P)] H
 unfold fF
 walk_at "w"
 refine fldE (k:=.Puzzle) rfl x.ok h1 (v:=.ref L) (by rfl) ?_
 walk_at "w"
 refine m3 h3.top fun l hl=>?_
 have s1:Same H (upd H l (.lst (rs.map V.ref))):=(Same.refl H).laid hl
 exact q l p rs hl (s1 _ _ h2) ⟨ae,h3.len,fun i r y e1 e2=>(h3.at_ i r y e1 e2).same s1⟩
end L2
namespace L2
open PySem PySem.Spec PyProof.Rows
inductive DRows (w:World) (K:Frag):List DictEntry->List (Str × List Str)->Prop
 | nil:DRows w K [] []
 | cons {hsh:Int} {k:Str} {t:Tok} {q:Addr} {o:Obj} {its:Array Value} {n:Nat} {ws:List Str} {es:List DictEntry} {D:List (Str × List Str)}:hsh=hashStr w k->K.lookup q=some o->o.cls=.type "tuple"->o.data=.seq its n->its.size<=sizeLine->Vals (ws.map V.str) its.toList->DRows w K es D->DRows w K (⟨hsh,.str k t,.ref q⟩::es) ((k,ws)::D)
structure GDict (w:World) (K:Frag) (mg:Str->Option Value) (x:Str) (D:List (Str × List Str)):Prop where
 ex:∃ (p:Addr) (o:Obj) (es:Array DictEntry) (ep:Nat),mg x=some (.ref p)/\K.lookup p=some o/\o.ExactDict/\o.data=.dict es ep/\DRows w K es.toList D/\(D.map fun x=>x.1).Nodup
theorem DRows.of {P:Program} {w:World} {K:Frag} {es:List DictEntry} {D:List (Str × List Str)} (h:DRows w K es D):
  ∃ kvs:List (Str × Value),Pairs (strKind P w) es kvs/\kvs.map (fun x=>x.1)=D.map (fun x=>x.1)/\(∀ e∈es,∃ k,(strKind P w).is k e.key=true/\e.hash=(strKind P w).hash k)/\
   ∀ k ws,D.lookup k=some ws->∃ q,valueAt kvs k=some (.ref q)/\∃ (o:Obj) (its:Array Value) (n:Nat),K.lookup q=some o/\o.cls=.type "tuple"/\o.data=.seq its n/\its.size<=sizeLine/\Vals (ws.map V.str) its.toList:=by
 induction h with
 | nil=>exact ⟨[],.nil,rfl,fun e he=>(by cases he),fun k ws e=>(by cases e)⟩
 | @cons hsh k t q o its n ws es D h1 h2 h3 h4 h5 h6 _ ih=>
  obtain ⟨kvs,p1,p2,p3,p4⟩:=ih
  have hk:(strKind P w).is k (.str k t)=true:=by show (k==k)=true; simp
  refine ⟨(k,.ref q)::kvs,.cons hk rfl p1,by rw [List.map_cons,List.map_cons,p2],fun e he=>?_,fun k' ws' e=>?_⟩
  . rcases List.mem_cons.mp he with rfl | he
    . exact ⟨k,hk,h1⟩
    . exact p3 e he
  . rw [List.lookup_cons] at e
    unfold valueAt
    rw [List.find?_cons]
    by_cases hkk:k'=k
    . subst hkk
      simp at e
      subst e
      refine ⟨q,by simp,o,its,n,h2,h3,h4,h5,h6⟩
    . have hb:(k'==k)=false:=by simpa using hkk
      rw [hb] at e
      have hd:decide (k=k')=false:=decide_eq_false (fun z=>hkk z.symm)
      dsimp only
      rw [hd]
      exact p4 k' ws' e
def tIxG (K:Frag) (D:List (Str × List Str)) (te:TE):TE:=fun σ H Q=>te σ H fun y H1=>∃ k ws,y=.str k/\D.lookup k=some ws/\∀ q,SqT K H1 q (ws.map V.str)->Q (.ref q) H1
def rInS (K:Frag):R2:=fun x y H Q=>∃ (z:Str) (q:Addr) (ws:List Str),x=.str z/\y=.ref q/\SqT K H q (ws.map V.str)/\Q (.bl (decide (z∈ws))) H
section
variable {X:Cx} {a b:Expr} {ta tb:TE} {pos p:Pos} {x:Str} {D:List (Str × List Str)}
theorem A5 (G:GDict X.w X.K X.mg x D) (hb:PE X b tb) (hg:Gl X x) (hpi:vA b) (hdb:(x==("__debug__":Str))=false:=by decide):PE X (.Subscript (.Name x p) b pos) (tIxG X.K D tb):=by
 obtain ⟨pd,o,es,ep,h1,h2,h3,h4,h5,h6⟩:=G.ex
 obtain ⟨kvs,p1,p2,p3,p4⟩:=h5.of (P:=X.prog)
 have ir:IxR X (fun x y H Q=>x=.ref pd/\∃ k ws,y=.str k/\D.lookup k=some ws/\∀ q,SqT X.K H q (ws.map V.str)->Q (.ref q) H):=by
  intro value slice pins s σ H x y v u Q I rx ry h hs
  obtain ⟨rfl,k,ws,rfl,hl,q⟩:=h
  cases (show v=Value.ref pd from rx)
  have hget:s.heap.get? pd=some o:=I.kIn pd o h2
  have dd:Heap.DictOf (strKind X.prog X.w) s.heap pd kvs:=⟨o,es,ep,hget,h3,h4,fun e he=>p3 e (Array.mem_toList_iff.mpr he),p1,by rw [p2]; exact h6⟩
  obtain ⟨qa,hv,o2,its,n,g1,g2,g3,g4,g5⟩:=p4 k ws hl
  obtain ⟨t,rfl⟩:∃ t,u=Value.str k t:=ry
  have hk:(strKind X.prog X.w).is k (.str k t)=true:=by show (k==k)=true; simp
  refine tail_any dd.typeIs PySem.F.slot_dict_getitem.lookup (wpAny_getItem_of hk dd.mapOf hv ?_) hs
  exact ⟨.ref qa,H,I.tok _,rfl,q qa (.inr ⟨o2,its,n,g1,g2,g3,g4,g5⟩)⟩
 have h0:=ao (pos:=pos) ir (cK (pos:=p) (v:=V.ref pd) hg h1 rfl hdb) hb hpi
 intro pins s σ H Q I h
 refine h0 pins s σ H Q I ?_
 have e:(fun (y:V) (H1:Hp)=>∃ k ws,y=.str k/\D.lookup k=some ws/\∀ q,SqT X.K H1 q (ws.map V.str)->Q (.ref q) H1)=fun y H1=>(V.ref pd=V.ref pd)/\∃ k ws,y=.str k/\D.lookup k=some ws/\∀ q,SqT X.K H1 q (ws.map V.str)->Q (.ref q) H1:=by
  funext y H1; simp
 have h':tb σ H (fun (y:V) (H1:Hp)=>∃ k ws,y=.str k/\D.lookup k=some ws/\∀ q,SqT X.K H1 q (ws.map V.str)->Q (.ref q) H1):=h
 rw [e] at h'
 exact h'
theorem A6:OpR X (compareOp .In) (rInS X.K):=by
 intro pins s σ H x y v u Q I rx ry h
 obtain ⟨z,q,ws,rfl,rfl,hq,h⟩:=h
 refine mS pins s σ H _ _ v u Q I rx ry ⟨q,ws.map V.str,rfl,.inr hq,rfl,kg ws,?_⟩
 rw [md]
 exact h
end
section
variable {K:Frag} {σ:St} {H:Hp} {Q:VK} {te:TE} {D:List (Str × List Str)}
theorem BC:tIxG K D te σ H Q=te σ H fun y H1=>∃ k ws,y=.str k/\D.lookup k=some ws/\∀ q,SqT K H1 q (ws.map V.str)->Q (.ref q) H1:=rfl
end
end L2
namespace L2
open PySem PySem.Spec PyProof.Rows
local macro_rules | `(tactic| walk_at "w")=>`(tactic| (first | simp only [aL,if_true,if_false,Bool.false_eq_true,decide_true,decide_false,gj,gk,kE,dG,cZ,gh,i7,gi,dF,iZ,i6,dE,kB,dH,dI,dL,dM,dN,dO,dJ,i9,ja,jb,iY,kD,Bool.not_true,Bool.not_false,dj,fu,bo,gd,w_c,jK,dD,ei,dk,eE,w_b,w_not,gM,kl,eF,eI,gN,gf,dl,km,eJ,gO,gg,jL,gP,eK,eM,eP,eQ,cM,cN,cy,b9,cb,bF,gQ,gR,gS,gU,gW,gX,gY,gZ,g7,g8,g9,hV,kn,eV,ce,eW,ko,eX,cO,cf,hX,h9,e7,e8,e9,
 List.getElem?_cons_zero,List.getElem?_cons_succ,Option.some.injEq,exists_eq_left',exists_eq_left,List.set_cons_zero,List.set_cons_succ,bK,V.int.injEq,V.bl.injEq,V.ref.injEq,V.str.injEq,List.append_nil,List.nil_append,List.cons_append] | dsimp only | skip))
def stB (m s:Int):Bool:=decide (1<=s)&&(decide (s<=((Builtin.Int.intBits m:Nat):Int))&&decide (m/2^(s-1).toNat%2=1))
def iU (K:Frag):Sp:=fun vs H Q _=>∃ m s:Int,vs=[.int m,.int s]/\Q (.bl (stB m s)) H
theorem yf {K:Frag} {vs:List V} {H:Hp} {Q:VK} {E:XK} (h:iU K vs H Q E):vs.length=2:=by
 obtain ⟨_,_,rfl,_⟩:=h; rfl
def lu (K:Frag):TS:=
 (tRet (tAndV (tOp (cCmp fun i j=>decide (i<=j)) (tC (.int 1)) (tVar 1)) (tAndV (tOp (cCmp fun i j=>decide (i<=j)) (tVar 1) (tL K "int" lU (tVar 0))) (tOp (cEq K) (tOp cMod (tOp cShr (tVar 0) (tOp cSub (tVar 1) (tC (.int 1)))) (tC (.int 2))) (tC (.int 1))))))
theorem yg {K:Frag} {vs:List V} {H:Hp} {Q:VK} {E:XK} (h:iU K vs H Q E):lu K { nx:=fun _ H'=>Q .non H',rt:=Q } (start ["mask","sign"] vs) H:=by
 obtain ⟨m,s,rfl,q⟩:=h
 show lu K _ [some (.int m),some (.int s)] H
 unfold lu
 walk_at "w"
 unfold stB at q
 cases h1:decide (1<=s) with
 | false=>rw [h1,Bool.false_and] at q; exact iteF q
 | true=>
  refine iteT ⟨rfl,?_⟩
  walk_at "w"
  rw [h1,Bool.true_and] at q
  cases h2:decide (s<=((Builtin.Int.intBits m:Nat):Int)) with
  | false=>rw [h2,Bool.false_and] at q; exact iteF q
  | true=>
   rw [h2,Bool.true_and] at q
   exact iteT ⟨by have:=of_decide_eq_true h1; omega,by decide,q⟩
def woI (m s:Int):Int:=if stB m s=true then m-2^(s-1).toNat else m
def sgL (m:Int):List Int:=((List.range (Builtin.Int.intBits m)).filter fun (i:Nat)=>stB m (1+(i:Int))).map fun (i:Nat)=>1+(i:Int)
def cr (K:Frag):Sp:=fun vs H Q _=>∃ m:Int,vs=[.int m]/\Builtin.Int.intBits m<=900/\∀ l H',Same H H'->H l=none->H' l=some (.lst ((sgL m).map V.int))->Q (.ref l) H'
theorem vh {K:Frag} {vs:List V} {H:Hp} {Q:VK} {E:XK} (h:cr K vs H Q E):vs.length=1:=by
 obtain ⟨_,rfl,_⟩:=h; rfl
def kb (K:Frag):TS:=
 (tRet (tComp [none,none,some 0] (l0 (tCons (tC (.int 1)) (tCons (tOp cAdd (tL K "int" lU (tVar 0)) (tC (.int 1))) tNil))) (gName 1) (tB (tCall (iU K) [] E0 (tCons (tVar 2) (tCons (tVar 1) tNil)))) (tVar 1)))
theorem vi {K:Frag} {vs:List V} {H:Hp} {Q:VK} {E:XK} (h:cr K vs H Q E):kb K { nx:=fun _ H'=>Q .non H',rt:=Q } (start ["mask"] vs) H:=by
 obtain ⟨m,rfl,hb,k⟩:=h
 show kb K _ [some (.int m)] H
 unfold kb
 walk_at "w"
 refine ⟨rfl,1,_,rfl,by omega,?_⟩
 have en:(((Builtin.Int.intBits m:Nat):Int)+1-1).toNat=Builtin.Int.intBits m:=by omega
 rw [en]
 refine j5 (fun (i:Nat)=>stB m (1+(i:Int))) (fun (i:Nat)=>1+(i:Int)) hb ?_ ?_ ?_
 . intro i H1 R hi s1 k1
   show tB _ [none,some (.int (1+(i:Int))),some (.int m)] H1 R
   walk_at "w"
   exact ⟨m,_,rfl,_,rfl,k1 _ (Same.refl _)⟩
 . intro i H1 Q1 hi hb s1 k1
   show tVar 1 [none,some (.int (1+(i:Int))),some (.int m)] H1 Q1
   exact ⟨_,rfl,k1 _ (Same.refl _)⟩
 . intro l H1 hl s1 el
   exact k l H1 s1 hl el
end L2
namespace L2
open PySem PySem.Spec PyProof.Rows
local macro_rules | `(tactic| walk_at "w")=>`(tactic| (first | simp only [aL,kh,lp,fS,ki,iS,iT,lq,li,kf,lj,if_true,if_false,Bool.false_eq_true,decide_true,decide_false,gj,gk,kE,dG,cZ,gh,i7,gi,dF,iZ,i6,dE,kB,dH,dI,dL,dM,dN,dO,dJ,i9,ja,jb,iY,kD,Bool.not_true,Bool.not_false,dj,fu,bo,gd,w_c,jK,dD,ei,dk,eE,w_b,w_not,gM,kl,eF,eI,gN,gf,dl,km,eJ,gO,gg,jL,gP,eK,eM,eP,eQ,cM,cN,cy,b9,cb,bF,gQ,gR,gS,gU,gW,gX,gY,gZ,g7,g8,g9,hV,kn,eV,ce,eW,ko,eX,cO,cf,hX,h9,e7,e8,e9,
 List.getElem?_cons_zero,List.getElem?_cons_succ,Option.some.injEq,exists_eq_left',exists_eq_left,List.set_cons_zero,List.set_cons_succ,bK,V.int.injEq,V.bl.injEq,V.ref.injEq,V.str.injEq,List.append_nil,List.nil_append,List.cons_append] | dsimp only | skip))
inductive TK where
 | clue | only | place | count | step | sum | square | reach | turn | pair | ways
 deriving DecidableEq
def tkC:TK->List Nat
 | .clue=>[99,108,117,101]
 | .only=>[111,110,108,121]
 | .place=>[112,108,97,99,101]
 | .count=>[99,111,117,110,116]
 | .step=>[115,116,101,112]
 | .sum=>[115,117,109]
 | .square=>[115,113,117,97,114,101]
 | .reach=>[114,101,97,99,104]
 | .turn=>[116,117,114,110]
 | .pair=>[112,97,105,114]
 | .ways=>[119,97,121,115]
def mj:List Str:=[tx [99,108,117,101],tx [111,110,108,121],tx [112,108,97,99,101],tx [99,111,117,110,116],tx [115,116,101,112],tx [115,117,109],tx [115,113,117,97,114,101],tx [114,101,97,99,104],tx [116,117,114,110],tx [112,97,105,114],tx [119,97,121,115]]
def ij:List Str:=[tx [99,108,117,101],tx [111,110,108,121],tx [112,108,97,99,101],tx [115,116,101,112],tx [112,97,105,114]]
def fG:List Str:=[tx [99,111,117,110,116],tx [115,117,109],tx [119,97,121,115]]
def gd_RULES_OF_KIND:List (Str × List Str):=[(tx [111,110,108,121],[tx [117,110,108,105,107,101]]),(tx [112,108,97,99,101],[tx [117,110,108,105,107,101]]),(tx [99,111,117,110,116],[tx [99,111,117,110,116]]),(tx [115,116,101,112],[tx [114,105,115,105,110,103]]),(tx [115,117,109],[tx [115,117,109]]),(tx [115,113,117,97,114,101],[tx [110,111,115,113,117,97,114,101]]),(tx [114,101,97,99,104],[tx [106,111,105,110,101,100],tx [114,105,110,103]]),(tx [116,117,114,110],[tx [114,105,110,103]]),(tx [112,97,105,114],[tx [117,110,108,105,107,101]])]
def wsOf:TK->List Str
 | .only=>[tx [117,110,108,105,107,101]]
 | .place=>[tx [117,110,108,105,107,101]]
 | .count=>[tx [99,111,117,110,116]]
 | .step=>[tx [114,105,115,105,110,103]]
 | .sum=>[tx [115,117,109]]
 | .square=>[tx [110,111,115,113,117,97,114,101]]
 | .reach=>[tx [106,111,105,110,101,100],tx [114,105,110,103]]
 | .turn=>[tx [114,105,110,103]]
 | .pair=>[tx [117,110,108,105,107,101]]
 | _=>[]
def goesB:TK->RK->Bool
 | .ways,_=>true
 | .only,.Unlike=>true
 | .place,.Unlike=>true
 | .count,.Count=>true
 | .step,.Rising=>true
 | .sum,.Sum=>true
 | .square,.NoSquare=>true
 | .reach,.Joined=>true
 | .reach,.Ring=>true
 | .turn,.Ring=>true
 | .pair,.Unlike=>true
 | _,_=>false
def lineK:TK->Bool
 | .clue=>true
 | .only=>true
 | .place=>true
 | .step=>true
 | .pair=>true
 | _=>false
def nbrK:TK->Bool
 | .count=>true
 | .sum=>true
 | .ways=>true
 | _=>false
theorem y9 (t:TK):decide (tx (tkC t)∈mj)=true:=by cases t <;> decide+kernel
theorem Aa (t:TK):decide (tx (tkC t)∈ij)=lineK t:=by cases t <;> decide+kernel
theorem A7 (t:TK):decide (tx (tkC t)∈fG)=nbrK t:=by cases t <;> decide+kernel
theorem BD {t:TK} (h1:t≠.clue) (h2:t≠.ways):gd_RULES_OF_KIND.lookup (tx (tkC t))=some (wsOf t):=by
 cases t <;> first | exact absurd rfl h1 | exact absurd rfl h2 | decide+kernel
theorem Ab {t:TK} (h2:t≠.ways) (k:RK):decide (tx (nmC k)∈wsOf t)=goesB t k:=by
 cases t <;> first | exact absurd rfl h2 | (cases k <;> decide+kernel)
theorem Ac (t:TK):decide (tkC t=[119,97,121,115])=decide (t=.ways):=by cases t <;> decide
theorem Ad (t:TK):decide (tkC t=[99,108,117,101])=decide (t=.clue):=by cases t <;> decide
def gq (K:Frag):Sp:=fun vs H Q _=>∃ (p:Addr) (h w g i:Int),vs=[.ref p,.int i]/\IsFl H p h w g/\FlOk h w g/\Q (.bl (decide (0<=i)&&decide (i<h*w))) H
theorem wr {K:Frag} {vs:List V} {H:Hp} {Q:VK} {E:XK} (h:gq K vs H Q E):vs.length=2:=by
 obtain ⟨_,_,_,_,_,rfl,_⟩:=h; rfl
def kI (K:Frag):TS:=
 (tRet (tAndV (tCall (a9 K) [] E0 (tCons (tVar 1) tNil)) (tAndV (tOp (cCmp fun i j=>decide (i<=j)) (tC (.int 0)) (tVar 1)) (tOp (cCmp fun i j=>decide (i<j)) (tVar 1) (tCall (aS K) [] E0 (tCons (tVar 0) tNil))))))
theorem wt {K:Frag} {vs:List V} {H:Hp} {Q:VK} {E:XK} (h:gq K vs H Q E):kI K { nx:=fun _ H'=>Q .non H',rt:=Q } (start ["floor","value"] vs) H:=by
 obtain ⟨p,h,w,g,i,rfl,hp,F,q⟩:=h
 show kI K _ [some (.ref p),some (.int i)] H
 unfold kI
 walk_at "w"
 refine ⟨i,rfl,⟨true,rfl,iteT ?_⟩⟩
 walk_at "w"
 cases hb:decide (0<=i) with
 | false=>
  rw [hb,Bool.false_and] at q
  exact iteF q
 | true=>
  rw [hb,Bool.true_and] at q
  refine iteT ?_
  walk_at "w"
  refine ⟨p,h,w,g,rfl,hp,F.h0,F.h1,?_⟩
  walk_at "w"
  exact q
def gr (K:Frag):Sp:=fun vs H Q _=>∃ (p:Addr) (h w g i:Int),vs=[.ref p,.int i]/\IsFl H p h w g/\Q (.bl (decide (1<=i)&&decide (i<=g))) H
theorem wu {K:Frag} {vs:List V} {H:Hp} {Q:VK} {E:XK} (h:gr K vs H Q E):vs.length=2:=by
 obtain ⟨_,_,_,_,_,rfl,_⟩:=h; rfl
def kJ (K:Frag):TS:=
 (tRet (tCall (aU K) [] E0 (tCons (tVar 1) (tCons (tOp cIx (tVar 0) (tC (.int 2))) tNil))))
theorem wv {K:Frag} {vs:List V} {H:Hp} {Q:VK} {E:XK} (h:gr K vs H Q E):kJ K { nx:=fun _ H'=>Q .non H',rt:=Q } (start ["floor","value"] vs) H:=by
 obtain ⟨p,h,w,g,i,rfl,hp,q⟩:=h
 show kJ K _ [some (.ref p),some (.int i)] H
 unfold kJ
 walk_at "w"
 refine ixT hp (v:=V.int g) rfl ?_
 walk_at "w"
 exact ⟨i,g,rfl,q⟩
def gt (K:Frag) (c:RCl RK):Sp:=fun vs H Q _=>∃ (t:TK) (k:RK) (r p:Addr) (ws:List (List Nat)) (cs:List Int) (n m:Int),vs=[.str (tx (tkC t)),.ref r]/\t≠.clue/\IsRule H c k r p (nmC k::ws) cs n m/\Q (.bl (goesB t k)) H
theorem ww {K:Frag} {c:RCl RK} {vs:List V} {H:Hp} {Q:VK} {E:XK} (h:gt K c vs H Q E):vs.length=2:=by
 obtain ⟨_,_,_,_,_,_,_,_,rfl,_⟩:=h; rfl
def kK (K:Frag) (c:RCl RK):TS:=
 (tRet (tOrV (tOp (cEq K) (tVar 0) (tC (.str (tx [119,97,121,115])))) (tOp (rInS K) (be c c.ok "name" (nT K c) (tVar 1) tNil) (tIxG K gd_RULES_OF_KIND (tVar 0)))))
theorem wx {K:Frag} {c:RCl RK} {vs:List V} {H:Hp} {Q:VK} {E:XK} (h:gt K c vs H Q E):kK K c { nx:=fun _ H'=>Q .non H',rt:=Q } (start ["kind","rule"] vs) H:=by
 obtain ⟨t,k,r,p,ws,cs,n,m,rfl,t0,x,q⟩:=h
 obtain ⟨dx,W,C,h1,h2,h3⟩:=x.ex
 show kK K c _ [some (.str (tx (tkC t))),some (.ref r)] H
 unfold kK
 walk_at "w"
 rw [bd,Ac]
 by_cases hw:t=.ways
 . subst hw
   rw [decide_eq_true rfl]
   exact iteT q
 . rw [decide_eq_false hw]
   refine iteF ?_
   refine methE (k:=k) rfl x.ok h1 (by rfl) ?_
   walk_at "w"
   refine ⟨r,p,nmC k,ws,cs,n,m,rfl,x,?_⟩
   dsimp only
   rw [BC]
   walk_at "w"
   refine ⟨_,_,rfl,BD t0 hw,fun qa hq=>?_⟩
   refine ⟨_,qa,_,rfl,rfl,hq,?_⟩
   rw [Ab hw]
   exact q
def iV (K:Frag) (c:RCl RK):Sp:=fun vs H Q _=>∃ (k:RK) (r p:Addr) (ws:List (List Nat)) (cs:List Int) (n m z:Int),vs=[.ref r,.int z]/\IsRule H c k r p ws cs n m/\cs.length<=63/\∀ l H',Same H H'->H l=none->H' l=some (.lst ((cs.filter fun x=>!decide (x=z)).map V.int))->Q (.ref l) H'
theorem yh {K:Frag} {c:RCl RK} {vs:List V} {H:Hp} {Q:VK} {E:XK} (h:iV K c vs H Q E):vs.length=2:=by
 obtain ⟨_,_,_,_,_,_,_,_,rfl,_⟩:=h; rfl
def lw (K:Frag) (c:RCl RK):TS:=
 (tRet (tComp [none,none,some 1] (iList K (be c c.ok "spots" (jN K c) (tVar 0) tNil)) (gName 1) (tTest (tOp (cNe K) (tVar 1) (tVar 2))) (tVar 1)))
theorem yi {K:Frag} {c:RCl RK} {vs:List V} {H:Hp} {Q:VK} {E:XK} (h:iV K c vs H Q E):lw K c { nx:=fun _ H'=>Q .non H',rt:=Q } (start ["rule","cell"] vs) H:=by
 obtain ⟨k,r,p,ws,cs,n,m,z,rfl,x,hn,q⟩:=h
 obtain ⟨dx,W,C,h1,h2,h3⟩:=x.ex
 show lw K c _ [some (.ref r),some (.int z)] H
 unfold lw
 rw [dD,cy]
 refine methE (k:=k) rfl x.ok h1 (by rfl) ?_
 walk_at "w"
 refine ⟨r,p,ws,cs,n,m,rfl,x,fun l hl=>?_⟩
 have s1:Same H (upd H l (.lst (cs.map V.int))):=(Same.refl H).laid hl
 have el:(upd H l (.lst (cs.map V.int))) l=some (.lst (cs.map V.int)):=ae
 generalize upd H l (.lst (cs.map V.int))=H1 at*
 refine ⟨l,rfl,⟨_,SqL.of el⟩,?_⟩
 refine cX (xs:=cs) (fun x=>!decide (x=z)) (fun x=>x) (by omega) (SqL.of el) ?_ ?_ ?_
 . intro y H2 R hy s2 k2
   show tTest _ [none,some (.int y),some (.int z)] H2 R
   walk_at "w"
   exact k2 _ (Same.refl _)
 . intro y H2 Q2 hy hb s2 k2
   show tVar 1 [none,some (.int y),some (.int z)] H2 Q2
   walk_at "w"
   exact k2 _ (Same.refl _)
 . intro T H2 hT s2 eT
   rw [List.map_id'] at eT
   exact q T H2 (s1.trans s2) (s1.free hT) eT
def hitB (t:TK) (rows:List RR) (r z:Int):Bool:=if r<0 then false else if t=.clue then decide (r=0) else match rows[r.toNat]? with
 | none=>false
 | some x=>goesB t x.k&&decide (z∈x.cs)
def bV (K:Frag) (c:RCl RK) (d:RCl PzK):Sp:=fun vs H Q _=>∃ (t:TK) (P L G:Addr) (h w g r z:Int) (rows:List RR) (cl:List Int),vs=[.ref P,.str (tx (tkC t)),.int r,.int z]/\IsPz H c d P L G h w g rows cl/\∀ H',Same H H'->Q (.bl (hitB t rows r z)) H'
theorem qd {K:Frag} {c:RCl RK} {d:RCl PzK} {vs:List V} {H:Hp} {Q:VK} {E:XK} (h:bV K c d vs H Q E):vs.length=4:=by
 obtain ⟨_,_,_,_,_,_,_,_,_,_,_,rfl,_⟩:=h; rfl
def fH (K:Frag) (c:RCl RK) (d:RCl PzK):TS:=
 (tSeq (tIfS (tOr (tNot (tB (tCall (a9 K) [] E0 (tCons (tVar 2) tNil)))) (tTest (tOp (cCmp fun i j=>decide (i<j)) (tVar 2) (tC (.int 0))))) (tRet (tC (.bl false))) tNext)
  (tSeq (tIfS (tTest (tOp (cEq K) (tVar 1) (tC (.str (tx [99,108,117,101]))))) (tRet (tOp (cEq K) (tVar 2) (tC (.int 0)))) tNext)
  (tSeq (tAsg (be d d.ok "rules" (jO K c d) (tVar 0) tNil) (gName 4))
  (tSeq (tIfS (tTest (tOp (cCmp fun i j=>decide (j<=i)) (tVar 2) (tCB kLen (tCons (tVar 4) tNil)))) (tRet (tC (.bl false))) tNext)
  (tRet (tAndV (tCall (gt K c) [] E0 (tCons (tVar 1) (tCons (tOp cIx (tVar 4) (tVar 2)) tNil))) (tOp (cIn K false) (tVar 3) (be c c.ok "spots" (jN K c) (tOp cIx (tVar 4) (tVar 2)) tNil))))))))
theorem RR.ws_cons (r:RR):∃ t,r.ws=nmC r.k::t:=⟨_,rfl⟩
theorem qe {K:Frag} {c:RCl RK} {d:RCl PzK} {vs:List V} {H:Hp} {Q:VK} {E:XK} (h:bV K c d vs H Q E):fH K c d { nx:=fun _ H'=>Q .non H',rt:=Q } (start ["puzzle","kind","number","cell","rules"] vs) H:=by
 obtain ⟨t,P,L,G,h,w,g,r,z,rows,cl,rfl,x,q⟩:=h
 obtain ⟨dx,p,rs,h1,h2,h3⟩:=x.ex
 have hN:=x.R.F.m
 show fH K c d _ [some (.ref P),some (.str (tx (tkC t))),some (.int r),some (.int z),none] H
 unfold fH
 rw [aL,aI]
 walk_at "w"
 refine ⟨r,rfl,⟨true,rfl,iteF ?_⟩⟩
 walk_at "w"
 unfold hitB at q
 by_cases hr:r<0
 . rw [if_pos hr] at q
   rw [decide_eq_true hr]
   exact iteT (q _ (Same.refl _))
 rw [if_neg hr] at q
 rw [decide_eq_false hr]
 refine iteF ?_
 rw [aI]
 walk_at "w"
 rw [bd,Ad]
 by_cases ht:t=.clue
 . rw [if_pos ht] at q
   rw [decide_eq_true ht]
   exact iteT (q _ (Same.refl _))
 rw [if_neg ht] at q
 rw [decide_eq_false ht]
 refine iteF ?_
 refine methE (k:=.Puzzle) rfl x.ok h1 (by rfl) ?_
 walk_at "w"
 refine ⟨P,L,G,h,w,g,rows,cl,rfl,x,fun l p2 rs2 hl hp2 X=>?_⟩
 have s1:Same H (upd H l (.lst (rs2.map V.ref))):=(Same.refl H).laid hl
 generalize upd H l (.lst (rs2.map V.ref))=H1 at*
 have hlen:=X.len
 walk_at "w"
 rw [aI]
 walk_at "w"
 rw [bc X.top,List.length_map,hlen]
 walk_at "w"
 by_cases hge:(rows.length:Int)<=r
 . rw [decide_eq_true hge]
   have e:rows[r.toNat]? =none:=List.getElem?_eq_none (by omega)
   rw [e] at q
   exact iteT (q _ s1)
 rw [decide_eq_false hge]
 have hlt:r.toNat<rows.length:=by omega
 have er:rows[r.toNat]? =some rows[r.toNat]:=List.getElem?_eq_getElem hlt
 rw [er] at q
 have ea:rs2[r.toNat]? =some rs2[r.toNat]:=List.getElem?_eq_getElem (by omega)
 have X1:=X.at_ _ _ _ ea er
 obtain ⟨ws,ews⟩:=RR.ws_cons rows[r.toNat]
 rw [ews] at X1
 have eix:atI (rs2.map V.ref) r=some (V.ref rs2[r.toNat]):=tZ (by omega) ea
 refine iteF ?_
 refine ixL X.top eix ?_
 walk_at "w"
 refine ⟨t,_,_,p2,ws,_,_,_,rfl,ht,X1,?_⟩
 dsimp only at q
 cases hg:goesB t rows[r.toNat].k with
 | false=>
  rw [hg,Bool.false_and] at q
  exact ⟨false,rfl,iteF (q _ s1)⟩
 | true=>
  rw [hg,Bool.true_and] at q
  refine ⟨true,rfl,iteT ?_⟩
  unfold be
  walk_at "w"
  obtain ⟨dx1,W1,C1,g1,g2,g3⟩:=X1.ex
  refine ixL X.top eix ?_
  refine ⟨_,rows[r.toNat].k,dx1,_,rfl,X1.ok,g1,by rfl,?_⟩
  refine ⟨_,p2,_,_,_,_,rfl,X1,fun S hS=>?_⟩
  have s2:Same H1 (upd H1 S (.lst (rows[r.toNat].cs.map V.int))):=(Same.refl H1).laid hS
  have eS:(upd H1 S (.lst (rows[r.toNat].cs.map V.int))) S=some (.lst (rows[r.toNat].cs.map V.int)):=ae
  dsimp only
  rw [l7 eS]
  exact q _ (s1.trans s2)
structure IsTh (H:Hp) (T M:Addr) (t:TK) (r z s:Int) (ms:List Int):Prop where
 T:H T=some (.tup [.str (tx (tkC t)),.int r,.int z,.int s,.ref M])
 M:H M=some (.lst (ms.map V.int))
 n:ms.length<=100
theorem IsTh.same {H H':Hp} {T M:Addr} {t:TK} {r z s:Int} {ms:List Int} (x:IsTh H T M t r z s ms) (s':Same H H'):IsTh H' T M t r z s ms:=⟨s' _ _ x.T,s' _ _ x.M,x.n⟩
def formB (h w g:Int) (rows:List RR) (t:TK) (r z s:Int):Bool:=(decide (0<=z)&&decide (z<h*w))&&((decide (1<=s)&&decide (s<=g))&&hitB t rows r z)
def dt (K:Frag) (c:RCl RK) (d:RCl PzK):Sp:=fun vs H Q _=>∃ (t:TK) (P L G T M:Addr) (h w g r z s:Int) (rows:List RR) (cl ms:List Int),vs=[.ref P,.ref T]/\IsPz H c d P L G h w g rows cl/\IsTh H T M t r z s ms/\∀ H',Same H H'->Q (.bl (formB h w g rows t r z s)) H'
theorem um {K:Frag} {c:RCl RK} {d:RCl PzK} {vs:List V} {H:Hp} {Q:VK} {E:XK} (h:dt K c d vs H Q E):vs.length=2:=by
 obtain ⟨_,_,_,_,_,_,_,_,_,_,_,_,_,_,_,rfl,_⟩:=h; rfl
def jk (K:Frag) (c:RCl RK) (d:RCl PzK):TS:=
 (tRet (tAndV (tCB kIsi (tCons (tOp cIx (tVar 1) (tC (.int 4))) (tCons (tC (.ty "list")) tNil))) (tCB kAll (tCons (tComp [none,none] (iList K (tOp cIx (tVar 1) (tC (.int 4)))) (gName 1) tTrue (tCall (a9 K) [] E0 (tCons (tVar 1) tNil))) tNil))))
def jl (K:Frag) (c:RCl RK) (d:RCl PzK):TS:=
 (tSeq (tIfS (tOr (tNot (tB (tCB kIsi (tCons (tVar 1) (tCons (tC (.ty "tuple")) tNil))))) (tOr (tTest (tOp (cNe K) (tCB kLen (tCons (tVar 1) tNil)) (tC (.int 5)))) (tB (tInG mj true (tOp cIx (tVar 1) (tC (.int 0))))))) (tRet (tC (.bl false))) tNext)
  (tSeq (tAsg (be d d.ok "place" (mh K c d) (tVar 0) tNil) (gName 2))
  (tSeq (tIfS (tOr (tNot (tB (tCall (gq K) [] E0 (tCons (tVar 2) (tCons (tOp cIx (tVar 1) (tC (.int 2))) tNil))))) (tNot (tB (tCall (gr K) [] E0 (tCons (tVar 2) (tCons (tOp cIx (tVar 1) (tC (.int 3))) tNil)))))) (tRet (tC (.bl false))) tNext)
  (tSeq (tIfS (tNot (tB (tCall (bV K c d) [] E0 (tCons (tVar 0) (tCons (tOp cIx (tVar 1) (tC (.int 0))) (tCons (tOp cIx (tVar 1) (tC (.int 1))) (tCons (tOp cIx (tVar 1) (tC (.int 2))) tNil))))))) (tRet (tC (.bl false))) tNext)
  (jk K c d)))))
theorem qf {K:Frag} {c:RCl RK} {d:RCl PzK} {H:Hp} {Q:VK} {P T M:Addr} {t:TK} {r z s:Int} {ms:List Int} {v2:Option V} (x:IsTh H T M t r z s ms) (q:∀ H',Same H H'->Q (.bl true) H'):
  jk K c d { nx:=fun _ H'=>Q .non H',rt:=Q } [some (.ref P),some (.ref T),v2] H:=by
 have hn:=x.n
 unfold jk
 walk_at "w"
 refine ixT x.T (v:=V.ref M) rfl ?_
 walk_at "w"
 refine xX x.M ?_
 walk_at "w"
 refine ixT x.T (v:=V.ref M) rfl ?_
 walk_at "w"
 refine ⟨⟨_,SqL.of x.M⟩,?_⟩
 refine cp (xs:=ms.map V.int) (fun _=>true) (fun _=>.bl true) (by rw [List.length_map]; omega) (SqL.of x.M) ?_ ?_ ?_
 . intro i y H1 R hy s1 k1
   exact k1 _ (Same.refl _)
 . intro i y H1 Q1 hy hb s1 k1
   obtain ⟨v,hv,rfl⟩:=bh hy
   show tCall _ _ _ _ [none,some (.int v)] H1 Q1
   walk_at "w"
   exact ⟨v,rfl,k1 _ (Same.refl _)⟩
 . intro l H1 hl s1 el
   have eb:((List.range (ms.map V.int).length).filter fun _=>true).map (fun _=>V.bl true)=(List.replicate (ms.map V.int).length true).map V.bl:=by
    rw [bp,List.map_const',List.length_range,List.map_replicate]
   rw [eb] at el
   refine nR el ?_
   have ea:(List.replicate (ms.map V.int).length true).all id=true:=by
    rw [List.all_eq_true]
    intro b hb
    exact (List.mem_replicate.mp hb).2
   rw [ea]
   exact q _ s1
theorem uo {K:Frag} {c:RCl RK} {d:RCl PzK} {vs:List V} {H:Hp} {Q:VK} {E:XK} (h:dt K c d vs H Q E):jl K c d { nx:=fun _ H'=>Q .non H',rt:=Q } (start ["puzzle","thought","floor"] vs) H:=by
 obtain ⟨t,P,L,G,T,M,h,w,g,r,z,s,rows,cl,ms,rfl,x,y,q⟩:=h
 obtain ⟨dx,p,rs,h1,h2,h3⟩:=x.ex
 show jl K c d _ [some (.ref P),some (.ref T),none] H
 unfold jl
 rw [aL,aI]
 walk_at "w"
 refine xY y.T ?_
 walk_at "w"
 rw [xG y.T,show (([.str (tx (tkC t)),.int r,.int z,.int s,.ref M]:List V).length:Int)=5 from rfl]
 walk_at "w"
 refine ixT y.T (v:=V.str (tx (tkC t))) rfl ?_
 walk_at "w"
 rw [y9]
 walk_at "w"
 refine methE (k:=.Puzzle) rfl x.ok h1 (by rfl) ?_
 walk_at "w"
 refine ⟨P,L,G,h,w,g,rows,cl,rfl,x,fun p1 hp1=>?_⟩
 walk_at "w"
 rw [aI]
 walk_at "w"
 refine ixT y.T (v:=V.int z) rfl ?_
 walk_at "w"
 refine ⟨p1,h,w,g,z,rfl,hp1,x.R.F,?_⟩
 unfold formB at q
 cases hb:(decide (0<=z)&&decide (z<h*w)) with
 | false=>
  rw [hb,Bool.false_and] at q
  exact ⟨false,rfl,iteT (q _ (Same.refl _))⟩
 | true=>
  rw [hb,Bool.true_and] at q
  refine ⟨true,rfl,iteF ?_⟩
  refine ixT y.T (v:=V.int s) rfl ?_
  walk_at "w"
  refine ⟨p1,h,w,g,s,rfl,hp1,?_⟩
  cases hb2:(decide (1<=s)&&decide (s<=g)) with
  | false=>
   rw [hb2,Bool.false_and] at q
   exact ⟨false,rfl,iteT (q _ (Same.refl _))⟩
  | true=>
   rw [hb2,Bool.true_and] at q
   refine ⟨true,rfl,iteF ?_⟩
   rw [aI]
   walk_at "w"
   refine ixT y.T (v:=V.str (tx (tkC t))) rfl ?_
   walk_at "w"
   refine ixT y.T (v:=V.int r) rfl ?_
   walk_at "w"
   refine ixT y.T (v:=V.int z) rfl ?_
   walk_at "w"
   refine ⟨t,P,L,G,h,w,g,r,z,rows,cl,rfl,x,fun H1 s1=>?_⟩
   cases hb3:hitB t rows r z with
   | false=>
    rw [hb3] at q
    exact ⟨false,rfl,iteT (q _ s1)⟩
   | true=>
    rw [hb3] at q
    refine ⟨true,rfl,iteF ?_⟩
    exact qf (y.same s1) fun H' s2=>q H' (s1.trans s2)
abbrev nsV (cs:List Nat):List V:=(cs.map fun (n:Nat)=>(n:Int)).map V.int
theorem oU (xs:List V) {k:Int} (h:0<=k):cutV xs none (some k)=xs.take k.toNat:=by
 unfold cutV
 have e:k=((k.toNat:Nat):Int):=by omega
 have h1:HT.sIx xs.length 0 none=0:=rfl
 have h2:HT.sIx xs.length xs.length (some k)=min k.toNat xs.length:=by
  conv=>lhs; rw [e]
  exact HT.sIx_nat ..
 rw [h1,h2]
 show (xs.drop 0).take _=_
 rw [List.drop_zero]
 by_cases hk:k.toNat<=xs.length
 . rw [Nat.min_eq_left hk]; rfl
 . rw [Nat.min_eq_right (by omega),List.take_of_length_le (by omega),List.take_of_length_le (by omega)]
theorem Ae (cs:List Nat) (k:Nat):(nsV cs).take k=nsV (cs.take k):=by
 unfold nsV
 rw [List.map_take,List.map_take]
theorem ng {k:RK} {h w g:Int} {m:Nat} (hk:allK k=true) (k0:k≠.Rule) (hn:numK k=false) (hs:sgnK k=true) (m0:1<=(m:Int)) (m1:(m:Int)<=g):RR.Ok ⟨k,0,m,[],rngL 0 (h*w)⟩ h w g:=by
 refine ⟨k0,Nat.zero_le _,fun _=>rfl,fun _=>⟨m0,m1⟩,fun e=>?_,⟨fun e=>?_,fun _=>⟨rfl,rfl⟩⟩,fun x hx=>(by cases hx),Nat.zero_le _⟩
 . rw [show sgnK k=false from e] at hs; cases hs
 . rw [show allK k=false from e] at hk; cases hk
def lX:TE:=fun _ _ _=>False
theorem lx {X:Cx} {e:Expr}:PE X e lX:=fun _ _ _ _ _ _ h=>h.elim
theorem RR.cin22 {r:RR} {h w g:Int} (O:r.Ok h w g) (F:FlOk h w g):gn r.cs (h*w).toNat:=by
 obtain ⟨h0,h1,w0,w1,m16,g0,g1⟩:=id F
 have mpos:0<=h*w:=Int.mul_nonneg (by omega) (by omega)
 cases hk:allK r.k with
 | false=>
  obtain ⟨c1,c2,c3,c4,e⟩:=O.cl.told hk
  rw [e]
  refine ⟨by rw [List.length_map]; omega,fun c hc=>?_⟩
  obtain ⟨n,hn,rfl⟩:=List.mem_map.mp hc
  have:=c3 n hn
  omega
 | true=>
  obtain ⟨_,e⟩:=O.cl.all hk
  rw [e]
  refine ⟨by rw [iA]; omega,fun c hc=>?_⟩
  have:=qX hc
  omega
structure Asks (H:Hp) (c:RCl RK) (d:RCl PzK) (P L G A T M:Addr) (h w g:Int) (rows:List RR) (cl masks:List Int) (t:TK) (r z s:Int) (ms:List Int):Prop where
 P:IsPz H c d P L G h w g rows cl
 T:IsTh H T M t r z s ms
 A:H A=some (.lst (masks.map V.int))
 n:masks.length=(h*w).toNat
theorem Asks.same {H H':Hp} {c:RCl RK} {d:RCl PzK} {P L G A T M:Addr} {h w g:Int} {rows:List RR} {cl masks:List Int} {t:TK} {r z s:Int} {ms:List Int} (x:Asks H c d P L G A T M h w g rows cl masks t r z s ms) (s':Same H H'):Asks H' c d P L G A T M h w g rows cl masks t r z s ms:=⟨x.P.same s',x.T.same s',s' _ _ x.A,x.n⟩
theorem yj {h w g:Int} {rows:List RR} {t:TK} {r z s:Int} (f:formB h w g rows t r z s=true):0<=z/\z<h*w/\1<=s/\s<=g/\hitB t rows r z=true:=by
 unfold formB at f
 simp only [Bool.and_eq_true,decide_eq_true_eq] at f
 exact ⟨f.1.1,f.1.2,f.2.1.1,f.2.1.2,f.2.2⟩
theorem Af {t:TK} {rows:List RR} {r z:Int} (ht:t≠.clue) (f:hitB t rows r z=true):0<=r/\∃ x,rows[r.toNat]? =some x/\goesB t x.k=true/\z∈x.cs:=by
 unfold hitB at f
 by_cases hr:r<0
 . rw [if_pos hr] at f; cases f
 rw [if_neg hr,if_neg ht] at f
 cases e:rows[r.toNat]? with
 | none=>rw [e] at f; cases f
 | some x=>
  rw [e] at f
  simp only [Bool.and_eq_true,decide_eq_true_eq] at f
  exact ⟨by omega,x,rfl,f.1,f.2⟩
def ff (K:Frag):Sp:=fun vs H Q _=>∃ (A C:Addr) (masks cs:List Int),vs=[.ref A,.ref C]/\H A=some (.lst (masks.map V.int))/\H C=some (.lst (cs.map V.int))/\gn cs masks.length/\∀ l H',Same H H'->H l=none->H' l=some (.lst ((sgAt masks cs).map V.int))->Q (.ref l) H'
theorem vj {K:Frag} {vs:List V} {H:Hp} {Q:VK} {E:XK} (h:ff K vs H Q E):vs.length=2:=by
 obtain ⟨_,_,_,_,rfl,_⟩:=h; rfl
def kc (K:Frag):TS:=
 (tRet (tComp [none,none,some 0] (iList K (tVar 1)) (gName 1) tTrue (tOp cIx (tVar 2) (tVar 1))))
theorem vk {K:Frag} {vs:List V} {H:Hp} {Q:VK} {E:XK} (h:ff K vs H Q E):kc K { nx:=fun _ H'=>Q .non H',rt:=Q } (start ["masks","cells"] vs) H:=by
 obtain ⟨A,C,masks,cs,rfl,hA,hC,⟨hn,hc⟩,q⟩:=h
 show kc K _ [some (.ref A),some (.ref C)] H
 unfold kc
 walk_at "w"
 refine ⟨⟨_,SqL.of hC⟩,?_⟩
 refine cX (xs:=cs) (fun _=>true) (fun c=>masks.getD c.toNat 0) (by omega) (SqL.of hC) ?_ ?_ ?_
 . intro x H1 R hx s1 k1
   exact k1 _ (Same.refl _)
 . intro z H1 Q1 hz hb s1 k1
   show tOp cIx _ _ [none,some (.int z),some (.ref A)] H1 Q1
   walk_at "w"
   have:=hc z hz
   exact ixI (s1 _ _ hA) this.1 (by omega) (k1 _ (Same.refl _))
 . intro l H1 hl s1 el
   rw [bp] at el
   exact q l H1 s1 hl el
end L2
namespace L2
open PySem PySem.Spec PyProof.Rows
end L2
namespace L2
open PySem PySem.Spec PyProof.Rows
local macro_rules | `(tactic| walk_at "w")=>`(tactic| (first | simp only [aL,kh,lp,fS,ki,iS,iT,lq,li,kf,lj,if_true,if_false,Bool.false_eq_true,decide_true,decide_false,gj,gk,kE,dG,cZ,gh,i7,gi,dF,iZ,i6,dE,kB,dH,dI,dL,dM,dN,dO,dJ,i9,ja,jb,iY,kD,Bool.not_true,Bool.not_false,dj,fu,bo,gd,w_c,jK,dD,ei,dk,eE,w_b,w_not,gM,kl,eF,eI,gN,gf,dl,km,eJ,gO,gg,jL,gP,eK,eM,eP,eQ,cM,cN,cy,b9,cb,bF,gQ,gR,gS,gU,gW,gX,gY,gZ,g7,g8,g9,hV,kn,eV,ce,eW,ko,eX,cO,cf,hX,h9,e7,e8,e9,
 List.getElem?_cons_zero,List.getElem?_cons_succ,Option.some.injEq,exists_eq_left',exists_eq_left,List.set_cons_zero,List.set_cons_succ,bK,V.int.injEq,V.bl.injEq,V.ref.injEq,V.str.injEq,List.append_nil,List.nil_append,List.cons_append] | dsimp only | skip))
def othL (cs:List Int) (z:Int):List Int:=cs.filter fun x=>!decide (x=z)
def cntB (cs:List Int) (n m:Int) (masks:List Int) (z s:Int) (ms:List Int):Bool:=
 decide (ms=[])&&(if s=m then decide (n<=(((sgAt masks (othL cs z)).filter fun k=>decide (woI k s=0)).length:Int)) else decide ((((sgAt masks (othL cs z)).filter fun k=>stB k m).length:Int)<n))
theorem za (t:TK):decide (tkC t=[99,111,117,110,116])=decide (t=.count):=by cases t <;> decide
def wy (xs:List Int) (x:Int):Nat:=xs.findIdx (· ==x)
theorem A8:((List.range 64).all fun m=>decide (Builtin.Int.intBits (m:Int)<=6)&&decide (sgL (m:Int)=(([0,1,2,3,4,5]:List Nat).filter fun (i:Nat)=>stB (m:Int) (1+(i:Int))).map fun (i:Nat)=>1+(i:Int)))=true:=by decide+kernel
theorem lY {m:Int} (m0:0<=m) (m1:m<64):Builtin.Int.intBits m<=6/\sgL m=(([0,1,2,3,4,5]:List Nat).filter fun (i:Nat)=>stB m (1+(i:Int))).map fun (i:Nat)=>1+(i:Int):=by
 have t:=List.all_eq_true.mp A8 m.toNat (List.mem_range.mpr (by omega))
 have e1:((m.toNat:Nat):Int)=m:=by omega
 rw [e1,Bool.and_eq_true,decide_eq_true_eq,decide_eq_true_eq] at t
 exact t
def ahdL (cs:List Int) (z:Int):List Int:=if 0<wy cs z then [cs.getD (wy cs z-1) 0] else []
def behL (cs:List Int) (z:Int):List Int:=if wy cs z+1<cs.length then [cs.getD (wy cs z+1) 0] else []
def nogB (s m:Int):Bool:=(sgL m).all fun x=>decide (s<=x)
def nolB (s m:Int):Bool:=(sgL m).all fun x=>decide (x<=s)
def stpB (cs masks:List Int) (z s:Int):Bool:=((ahdL cs z).any fun o=>nogB s (masks.getD o.toNat 0))||((behL cs z).any fun o=>nolB s (masks.getD o.toNat 0))
def stepB (cs masks:List Int) (z s:Int) (ms:List Int):Bool:=decide (ms=[])&&stpB cs masks z s
end L2
namespace L2
open PySem PySem.Spec PyProof.Rows
section
variable {X:Cx}
def minI (ns:List Int):Int:=ns.getD (argBest (fun i j=>decide (ns.getD i 0<ns.getD j 0)) (ns.length-1)) 0
def maxI (ns:List Int):Int:=ns.getD (argBest (fun i j=>decide (ns.getD i 0>ns.getD j 0)) (ns.length-1)) 0
def tp:List V->Hp->VK->Prop
 | [.ref p],H,Q=>bnd (unL (H p)) fun ys=>∃ ns:List Int,ys=ns.map V.int/\0<ns.length/\Q (.int (maxI ns)) H
 | _,_,_=>False
theorem wz (hc:X.calm=true):CallR X (.builtin "max") tp:=by
 intro pins s σ H xs us Q I r h
 unfold tp at h
 split at h
 . rename_i p
   obtain ⟨ys,e,ns,rfl,hne,q⟩:=aW h
   obtain ⟨u,rfl,ru⟩:=cV r
   cases ru
   obtain ⟨its,rv,pl,hz⟩:=I.list (lS e)
   have hl:=rv.length
   rw [List.length_map] at hl
   have hlt:p<s.heap.objs.size:=by
    obtain ⟨o,h1,_⟩:=pl.isList
    exact Heap.lt_size h1
   have hval:∀ (i:Nat) (v:Value),its.toArray[i]? =some v->∃ t,v=.int (ns.getD i 0) t:=fun i v hP=>by
    have hv:its[i]? =some v:=by simpa using hP
    obtain ⟨x,hx,rx⟩:=rv.get' hv
    obtain ⟨b,hb,rfl⟩:∃ b,ns[i]? =some b/\V.int b=x:=by simpa using hx
    obtain ⟨t,rfl⟩:=rx
    exact ⟨t,by simp [List.getD,hb]⟩
   have e2:its.toArray.size=ns.length:=by rw [List.size_toArray]; exact hl.symm
   refine call_max_walkS (wpAny_pyIter_list pl.isList ?_)
   refine ⟨s.heap.objs.size,_,_,_,its.toArray.size,_,_,fun i j=>decide (ns.getD i 0>ns.getD j 0),rfl,(Walks.list (A:=X.A.in1) (I.ok.hd hc) s.heap.objs.size p (Nat.ne_of_lt hlt) its.toArray).toS,⟨⟨_,Heap.get?_push_size _ rfl,rfl,rfl⟩,pl.isList.push _⟩,?_,by omega,CmpOf.ints_gt (fun i=>ns.getD i 0) hval,fun v s' hP hm=>?_⟩
   . intro b hb
     show b < (s.heap.push _).objs.size
     rw [Heap.size_push]
     rcases List.mem_cons.mp hb with rfl | hb
     . exact Nat.lt_succ_self _
     . rcases List.mem_cons.mp hb with rfl | hb
       . exact Nat.lt_succ_of_lt hlt
       . cases hb
   . obtain ⟨t,rfl⟩:=hval _ v hP
     refine ⟨.int _,H,I.walked (l:=p) hm,⟨t,rfl⟩,?_⟩
     rw [e2]
     exact q
 . exact h.elim
end
section
variable {H:Hp} {Q:VK}
theorem A9 {p:Addr} {ns:List Int} (hp:H p=some (.lst (ns.map V.int))) (hn:0<ns.length) (h:Q (.int (maxI ns)) H):tp [.ref p] H Q:=by
 show bnd (unL (H p)) _
 rw [hp]
 exact aV (a:=ns.map V.int) rfl ⟨ns,rfl,hn,h⟩
end
end L2
namespace L2
open PySem PySem.Spec PyProof.Rows
local macro_rules | `(tactic| walk_at "w")=>`(tactic| (first | simp only [aL,kh,lp,fS,ki,iS,iT,lq,li,kf,lj,if_true,if_false,Bool.false_eq_true,decide_true,decide_false,gj,gk,kE,dG,cZ,gh,i7,gi,dF,iZ,i6,dE,kB,dH,dI,dL,dM,dN,dO,dJ,i9,ja,jb,iY,kD,Bool.not_true,Bool.not_false,dj,fu,bo,gd,w_c,jK,dD,ei,dk,eE,w_b,w_not,gM,kl,eF,eI,gN,gf,dl,km,eJ,gO,gg,jL,gP,eK,eM,eP,eQ,cM,cN,cy,b9,cb,bF,gQ,gR,gS,gU,gW,gX,gY,gZ,g7,g8,g9,hV,kn,eV,ce,eW,ko,eX,cO,cf,hX,h9,e7,e8,e9,
 List.getElem?_cons_zero,List.getElem?_cons_succ,Option.some.injEq,exists_eq_left',exists_eq_left,List.set_cons_zero,List.set_cons_succ,bK,V.int.injEq,V.bl.injEq,V.ref.injEq,V.str.injEq,List.append_nil,List.nil_append,List.cons_append] | dsimp only | skip))
def loM (m:Int):Int:=(sgL m).getD 0 0
def hiM (m:Int):Int:=(sgL m).getD ((sgL m).length-1) 0
theorem Ba:((List.range 64).all fun m=>decide (m=0)||(decide (0 < (sgL (m:Int)).length/\(sgL (m:Int)).length<=6)&&(decide (minI (sgL (m:Int))=loM (m:Int)/\maxI (sgL (m:Int))=hiM (m:Int))&&decide ((1<=loM (m:Int)/\loM (m:Int)<=6)/\1<=hiM (m:Int)/\hiM (m:Int)<=6))))=true:=by decide+kernel
theorem zC {m:Int} (m0:0<=m) (m1:m<64) (hm:m≠0):(0 < (sgL m).length/\(sgL m).length<=6)/\(minI (sgL m)=loM m/\maxI (sgL m)=hiM m)/\(1<=loM m/\loM m<=6)/\1<=hiM m/\hiM m<=6:=by
 have t:=List.all_eq_true.mp Ba m.toNat (List.mem_range.mpr (by omega))
 have e1:((m.toNat:Nat):Int)=m:=by omega
 rw [e1,Bool.or_eq_true,decide_eq_true_eq,Bool.and_eq_true,Bool.and_eq_true,decide_eq_true_eq,decide_eq_true_eq,decide_eq_true_eq] at t
 rcases t with t | t
 . omega
 . exact t
theorem yk:sgL 0=[]:=by decide+kernel
def smB (os:List Int) (n s:Int):Bool:=decide (0∈os)||(decide (n<s+(os.map loM).sum)||decide (s+(os.map hiM).sum<n))
def sumB (cs:List Int) (n:Int) (masks:List Int) (z s:Int) (ms:List Int):Bool:=decide (ms=[])&&smB (sgAt masks (othL cs z)) n s
def gu (K:Frag):Sp:=fun vs H Q _=>∃ (A:Addr) (ms:List Int),vs=[.ref A]/\H A=some (.lst (ms.map V.int))/\Q (.bl (decide (0∈ms))) H
theorem wA {K:Frag} {vs:List V} {H:Hp} {Q:VK} {E:XK} (h:gu K vs H Q E):vs.length=1:=by
 obtain ⟨_,_,rfl,_⟩:=h; rfl
def kL (K:Frag):TS:=
 (tRet (tOp (cIn K false) (tC (.int 0)) (tVar 0)))
theorem wB {K:Frag} {vs:List V} {H:Hp} {Q:VK} {E:XK} (h:gu K vs H Q E):kL K { nx:=fun _ H'=>Q .non H',rt:=Q } (start ["masks"] vs) H:=by
 obtain ⟨A,ms,rfl,hA,q⟩:=h
 show kL K _ [some (.ref A)] H
 unfold kL
 walk_at "w"
 rw [l7 hA]
 exact q
theorem Bb (t:TK):decide (tkC t=[115,117,109])=decide (t=.sum):=by cases t <;> decide
theorem zb {K:Frag} {H:Hp} {Q:VK} {p q:Addr} {D:PyData} (hp:DV K H (.ref p) D) (hq:DV K H (.ref q) D) (hs:SeqAt.shaped D=true) (he:PyData.eqv D D=true) (h:Q (.bl false) H):cNe K (.ref p) (.ref q) H Q:=by
 show rNeD K (.ref p) (.ref q) H Q
 refine ⟨D,D,hp,hq,hs,hs,?_⟩
 rw [he]
 exact h
theorem sy (xs:List Int):PyData.eqv (.list (xs.map PyData.int)) (.list (xs.map PyData.int))=true:=by
 rw [PyData.eqv,oC]
 simp
theorem qY (n:Int):PyData.eqv (.int n) (.int n)=true:=by
 rw [PyData.eqv]
 simp
def jm (K:Frag) (c:RCl RK):Sp:=cF K c .Sum
theorem up {K:Frag} {c:RCl RK} {vs:List V} {H:Hp} {Q:VK} {E:XK} (h:jm K c vs H Q E):vs.length=2:=by
 obtain ⟨_,_,_,_,_,_,_,_,_,_,_,rfl,_⟩:=h; rfl
def jn (K:Frag) (c:RCl RK):TS:=
 (tRet (tOp (cEq K) (tCB kSum (tCons (be c c.ok "signs_at" (bv K c) (tVar 0) (tCons (tVar 1) tNil)) tNil)) (tFldK c (tVar 0) "amount")))
theorem Bc {xs cs:List Int} {n:Nat} (hC:gn cs n) (hn:n=xs.length) (hx:∀ x∈xs,0<=x/\x<=1000):∀ x∈sgAt xs cs,0<=x/\x<=1000:=fun x hm=>by
 unfold sgAt at hm
 obtain ⟨c,hc,rfl⟩:=List.mem_map.mp hm
 have:=hC.2 c hc
 have hl:c.toNat<xs.length:=by omega
 rw [List.getD,List.getElem?_eq_getElem hl]
 exact hx _ (List.getElem_mem hl)
theorem uq {K:Frag} {c:RCl RK} {vs:List V} {H:Hp} {Q:VK} {E:XK} (h:jm K c vs H Q E):jn K c { nx:=fun _ H'=>Q .non H',rt:=Q } (start ["self","filling"] vs) H:=by
 obtain ⟨r,p,f,ws,cs,xs,n,m,h,w,g,rfl,x,ha,F,hf,hC,hx,q⟩:=h
 obtain ⟨dx,W,C,h1,h2,h3⟩:=x.ex
 show jn K c _ [some (.ref r),some (.ref f)] H
 unfold jn
 walk_at "w"
 refine methE rfl x.ok h1 (by rfl) ?_
 walk_at "w"
 refine ⟨r,p,f,ws,cs,xs,n,m,rfl,x,hf,hC,fun l H1 s1 hl el=>?_⟩
 have hlen:(sgAt xs cs).length<=100:=by unfold sgAt; rw [List.length_map]; exact Nat.le_trans hC.1 (by decide)
 walk_at "w"
 refine zA el (fun y hy=>by have:=Bc hC rfl hx y hy; omega) (by omega) ?_
 refine fldE rfl x.ok (s1 _ _ h1) (v:=.int n) (by rfl) ?_
 walk_at "w"
 exact q _ s1
theorem qZ:∀ l:List Int,risB l=(List.range (l.length-1)).all fun i=>decide (l.getD i 0<l.getD (i+1) 0)
 | []=>rfl
 | [x]=>rfl
 | x::y::r=>by
  have ih:=qZ (y::r)
  show (decide (x<y)&&risB (y::r))=(List.range (r.length+1)).all fun i=>decide ((x::y::r).getD i 0 < (x::y::r).getD (i+1) 0)
  rw [ih,List.range_succ_eq_map,List.all_cons,List.all_map]
  rfl
def fI (K:Frag) (c:RCl RK):Sp:=cF K c .Rising
theorem qg {K:Frag} {c:RCl RK} {vs:List V} {H:Hp} {Q:VK} {E:XK} (h:fI K c vs H Q E):vs.length=2:=by
 obtain ⟨_,_,_,_,_,_,_,_,_,_,_,rfl,_⟩:=h; rfl
def fJ (K:Frag) (c:RCl RK):TS:=
 (tSeq (tAsg (be c c.ok "signs_at" (bv K c) (tVar 0) (tCons (tVar 1) tNil)) (gName 2))
  (tRet (tCB kAll (tCons (tComp [none,none,some 2] (gK (tCons (tOp cSub (tCB kLen (tCons (tVar 2) tNil)) (tC (.int 1))) tNil)) (gName 1) tTrue (tOp (cCmp fun i j=>decide (i<j)) (tOp cIx (tVar 2) (tVar 1)) (tOp cIx (tVar 2) (tOp cAdd (tVar 1) (tC (.int 1)))))) tNil))))
theorem qh {K:Frag} {c:RCl RK} {vs:List V} {H:Hp} {Q:VK} {E:XK} (h:fI K c vs H Q E):fJ K c { nx:=fun _ H'=>Q .non H',rt:=Q } (start ["self","filling","signs"] vs) H:=by
 obtain ⟨r,p,f,ws,cs,xs,n,m,h,w,g,rfl,x,ha,F,hf,hC,hx,q⟩:=h
 obtain ⟨dx,W,C,h1,h2,h3⟩:=x.ex
 show fJ K c _ [some (.ref r),some (.ref f),none] H
 unfold fJ
 walk_at "w"
 refine methE rfl x.ok h1 (by rfl) ?_
 walk_at "w"
 refine ⟨r,p,f,ws,cs,xs,n,m,rfl,x,hf,hC,fun l H1 s1 hl el=>?_⟩
 have hlen:(sgAt xs cs).length<=100:=by unfold sgAt; rw [List.length_map]; exact Nat.le_trans hC.1 (by decide)
 have q1:∀ H',Same H H'->Q (.bl (risB (sgAt xs cs))) H':=q
 generalize sgAt xs cs=sg at*
 walk_at "w"
 rw [bc el,List.length_map]
 walk_at "w"
 refine ⟨_,rfl,by omega,by omega,?_⟩
 have en:((sg.length:Int)-1).toNat=sg.length-1:=by omega
 rw [en]
 refine ox (fun _=>true) (fun i=>.bl (decide (sg.getD i 0<sg.getD (i+1) 0))) (by omega) ?_ ?_ ?_
 . intro i H2 R hi s2 k2
   exact k2 _ (Same.refl _)
 . intro i H2 Q2 hi hb s2 k2
   show tOp _ _ _ [none,some (.int (0+(i:Int))),some (.ref l)] H2 Q2
   rw [Int.zero_add]
   walk_at "w"
   refine ixI (s2 _ _ el) (by omega) (by omega) ?_
   refine ixI (s2 _ _ el) (by omega) (by omega) ?_
   walk_at "w"
   have e1:(i:Int).toNat=i:=by omega
   have e2:((i:Int)+1).toNat=i+1:=by omega
   rw [e1,e2]
   exact k2 _ (Same.refl _)
 . intro l2 H2 hl2 s2 el2
   rw [bp] at el2
   refine nR (bs:=(List.range (sg.length-1)).map fun i=>decide (sg.getD i 0<sg.getD (i+1) 0)) (by rw [el2,List.map_map]; rfl) ?_
   have e:((List.range (sg.length-1)).map fun i=>decide (sg.getD i 0<sg.getD (i+1) 0)).all id=risB sg:=by
    rw [qZ,List.all_map]
    rfl
   rw [e]
   exact q1 _ (s1.trans s2)
theorem oV (l:List Int) (x:Int):seenN (l++[x])=if (seenN l).1<x then (x,(seenN l).2+1) else seenN l:=by
 unfold seenN
 rw [List.foldl_append]
 rfl
theorem qi:∀ (n:Nat) (l:List Int),l.length=n->0<=(seenN l).1/\(∀ y∈l,y<=(seenN l).1)/\((seenN l).1=0\/(seenN l).1∈l)/\0<=(seenN l).2/\(seenN l).2<=n
 | 0,l,hl=>by
  have:l=[]:=List.length_eq_zero_iff.mp hl
  subst this
  exact ⟨by decide,fun y hy=>(List.not_mem_nil hy).elim,.inl rfl,by decide,by decide⟩
 | n+1,l,hl=>by
  have hne:l≠[]:=fun e=>by rw [e] at hl; simp at hl
  have e:=List.dropLast_concat_getLast hne
  generalize l.getLast hne=x at e
  generalize ed:l.dropLast=d at e
  have hd:d.length=n:=by rw [← ed,List.length_dropLast,hl]; rfl
  obtain ⟨i1,i2,i3,i4,i5⟩:=qi n d hd
  rw [← e,oV]
  by_cases hx:(seenN d).1<x
  . rw [if_pos hx]
    refine ⟨by show 0<=x; omega,fun y hy=>?_,.inr (by simp),by show 0<=(seenN d).2+1; omega,by show (seenN d).2+1<=_; omega⟩
    rcases List.mem_append.mp hy with hy | hy
    . have:=i2 y hy
      show y<=x
      omega
    . have:y=x:=by simpa using hy
      show y<=x
      omega
  . rw [if_neg hx]
    refine ⟨i1,fun y hy=>?_,?_,i4,by omega⟩
    . rcases List.mem_append.mp hy with hy | hy
      . exact i2 y hy
      . have:y=x:=by simpa using hy
        omega
    . rcases i3 with h | h
      . exact .inl h
      . exact .inr (List.mem_append_left _ h)
theorem ym {l:List Int} {x:Int} (hx:1<=x):(seenN (l++[x])).2=(seenN l).2+if (∀ y∈l,y<x) then 1 else 0:=by
 obtain ⟨i1,i2,i3,_,_⟩:=qi _ l rfl
 rw [oV]
 by_cases h:∀ y∈l,y<x
 . rw [if_pos h]
   have:(seenN l).1<x:=by
    rcases i3 with e | e
    . omega
    . exact h _ e
   rw [if_pos this]
 . rw [if_neg h]
   have:¬ (seenN l).1<x:=fun hlt=>h fun y hy=>by have:=i2 y hy; omega
   rw [if_neg this]
   simp
def ik (K:Frag) (c:RCl RK):Sp:=cF K c .Seen
theorem sA {K:Frag} {c:RCl RK} {vs:List V} {H:Hp} {Q:VK} {E:XK} (h:ik K c vs H Q E):vs.length=2:=by
 obtain ⟨_,_,_,_,_,_,_,_,_,_,_,rfl,_⟩:=h; rfl
def il (K:Frag) (c:RCl RK):TS:=
 (tSeq (tAsg (tC (.int 0)) (gName 2))
  (tSeq (tAsg (tC (.int 0)) (gName 3))
  (tSeq (tFor (iList K (be c c.ok "signs_at" (bv K c) (tVar 0) (tCons (tVar 1) tNil))) (gName 4)
  (tIfS (tTest (tOp (cCmp fun i j=>decide (j<i)) (tVar 4) (tVar 2))) (tSeq (tAsg (tVar 4) (gName 2))
  (tAsg (tOp cAdd (tVar 3) (tC (.int 1))) (gName 3))) tNext))
  (tRet (tOp (cEq K) (tVar 3) (tFldK c (tVar 0) "amount"))))))
theorem sB {K:Frag} {c:RCl RK} {vs:List V} {H:Hp} {Q:VK} {E:XK} (h:ik K c vs H Q E):il K c { nx:=fun _ H'=>Q .non H',rt:=Q } (start ["self","filling","greatest","seen","sign"] vs) H:=by
 obtain ⟨r,p,f,ws,cs,xs,n,m,h,w,g,rfl,x,ha,F,hf,hC,hx,q⟩:=h
 obtain ⟨dx,W,C,h1,h2,h3⟩:=x.ex
 show il K c _ [some (.ref r),some (.ref f),none,none,none] H
 unfold il
 walk_at "w"
 refine methE rfl x.ok h1 (by rfl) ?_
 walk_at "w"
 refine ⟨r,p,f,ws,cs,xs,n,m,rfl,x,hf,hC,fun l H1 s1 hl el=>?_⟩
 have q1:∀ H',Same H H'->Q (.bl (decide ((seenN (sgAt xs cs)).2=n))) H':=q
 generalize sgAt xs cs=sg at*
 walk_at "w"
 refine ⟨⟨_,SqL.of el⟩,c8 (K:=K) (xs:=sg.map V.int) (fun i σ H'=>∃ cv:Option V,σ=[some (.ref r),some (.ref f),some (.int (seenN (sg.take i)).1),some (.int (seenN (sg.take i)).2),cv]/\H'=H1) ⟨none,rfl,rfl⟩ (fun i σ H' _ ⟨_,_,e⟩=>by rw [e]; exact SqL.of el) ?_ ?_⟩
 . rintro i y σ H2 hy ⟨cv,rfl,rfl⟩
   rw [List.getElem?_map] at hy
   cases e:sg[i]? with
   | none=>rw [e] at hy; cases hy
   | some z=>
    rw [e] at hy
    cases hy
    have et:sg.take (i+1)=sg.take i++[z]:=by rw [List.take_succ,e]; rfl
    have ea:=oV (sg.take i) z
    rw [← et] at ea
    walk_at "w"
    rw [aI]
    walk_at "w"
    by_cases hz:(seenN (sg.take i)).1<z
    . rw [decide_eq_true hz]
      rw [if_pos hz] at ea
      refine iteT ?_
      rw [ea]
      exact ⟨_,rfl,by first | trivial | rfl⟩
    . rw [decide_eq_false hz]
      rw [if_neg hz] at ea
      refine iteF ?_
      rw [ea]
      exact ⟨_,rfl,by first | trivial | rfl⟩
 . rintro σ H2 ⟨cv,rfl,rfl⟩
   rw [List.length_map,List.take_length]
   walk_at "w"
   refine fldE rfl x.ok (s1 _ _ h1) (v:=.int n) (by rfl) ?_
   walk_at "w"
   exact q1 _ s1
def cz (K:Frag) (c:RCl RK):Sp:=fun vs H Q E=>∃ k,bG K c k vs H Q E
theorem ra {K:Frag} {c:RCl RK} {vs:List V} {H:Hp} {Q:VK} {E:XK} (h:cz K c vs H Q E):vs.length=2:=by
 obtain ⟨_,_,_,_,_,_,_,_,_,rfl,_⟩:=h; rfl
def gw (K:Frag) (c:RCl RK):TS:=
 (tRet (tComp [none,none,some 1,some 0] (iTup K (tFldK c (tVar 0) "cells")) (gName 1) (tTest (tOp (cEq K) (tOp cIx (tVar 2) (tVar 1)) (tFldK c (tVar 3) "mark"))) (tVar 1)))
theorem rb {K:Frag} {c:RCl RK} {vs:List V} {H:Hp} {Q:VK} {E:XK} (h:cz K c vs H Q E):gw K c { nx:=fun _ H'=>Q .non H',rt:=Q } (start ["self","filling"] vs) H:=by
 obtain ⟨k,r,p,f,ws,cs,xs,n,m,rfl,x,hf,⟨hn,hc⟩,q⟩:=h
 obtain ⟨dx,W,C,h1,h2,h3⟩:=x.ex
 show gw K c _ [some (.ref r),some (.ref f)] H
 unfold gw
 rw [dD,vJ]
 refine fldE rfl x.ok h1 (v:=.ref C) (by rfl) ?_
 refine ⟨C,rfl,⟨_,SqT.of h3⟩,?_⟩
 refine rV (xs:=cs) (fun c=>decide (xs.getD c.toNat 0=m)) (fun c=>c) (by omega) h3 ?_ ?_ ?_
 . intro z H1 R hz s1 k1
   show tTest _ [none,some (.int z),some (.ref f),some (.ref r)] H1 R
   walk_at "w"
   have:=hc z hz
   refine ixI (s1 _ _ hf) this.1 (by omega) ?_
   refine fldE rfl x.ok (s1 _ _ h1) (v:=.int m) (by rfl) ?_
   walk_at "w"
   exact k1 _ (Same.refl _)
 . intro z H1 Q1 hz hb s1 k1
   show tVar 1 [none,some (.int z),some (.ref f),some (.ref r)] H1 Q1
   exact ⟨_,rfl,k1 _ (Same.refl _)⟩
 . intro l H1 hl s1 el
   rw [List.map_id'] at el
   exact q l H1 s1 hl el
def gx (K:Frag) (c:RCl RK):Sp:=cF K c .Count
theorem rd {K:Frag} {c:RCl RK} {vs:List V} {H:Hp} {Q:VK} {E:XK} (h:gx K c vs H Q E):vs.length=2:=by
 obtain ⟨_,_,_,_,_,_,_,_,_,_,_,rfl,_⟩:=h; rfl
def gy (K:Frag) (c:RCl RK):TS:=
 (tRet (tOp (cEq K) (tCB kLen (tCons (be c c.ok "marked" (bG K c) (tVar 0) (tCons (tVar 1) tNil)) tNil)) (tFldK c (tVar 0) "amount")))
theorem re {K:Frag} {c:RCl RK} {vs:List V} {H:Hp} {Q:VK} {E:XK} (h:gx K c vs H Q E):gy K c { nx:=fun _ H'=>Q .non H',rt:=Q } (start ["self","filling"] vs) H:=by
 obtain ⟨r,p,f,ws,cs,xs,n,m,h,w,g,rfl,x,ha,F,hf,hC,hx,q⟩:=h
 obtain ⟨dx,W,C,h1,h2,h3⟩:=x.ex
 show gy K c _ [some (.ref r),some (.ref f)] H
 unfold gy
 walk_at "w"
 refine methE rfl x.ok h1 (by rfl) ?_
 walk_at "w"
 refine ⟨r,p,f,ws,cs,xs,n,m,rfl,x,hf,hC,fun l H1 s1 hl el=>?_⟩
 walk_at "w"
 rw [bc el,List.length_map]
 refine fldE rfl x.ok (s1 _ _ h1) (v:=.int n) (by rfl) ?_
 walk_at "w"
 exact q _ s1
end L2
namespace L2
open PySem PySem.Spec PyProof.Rows
end L2
namespace L2
open PySem PySem.Spec PyProof.Rows
local macro_rules | `(tactic| walk_at "w")=>`(tactic| (first | simp only [aL,kh,lp,fS,ki,iS,iT,lq,li,kf,lj,if_true,if_false,Bool.false_eq_true,decide_true,decide_false,gj,gk,kE,dG,cZ,gh,i7,gi,dF,iZ,i6,dE,kB,dH,dI,dL,dM,dN,dO,dJ,i9,ja,jb,iY,kD,Bool.not_true,Bool.not_false,dj,fu,bo,gd,w_c,jK,dD,ei,dk,eE,w_b,w_not,gM,kl,eF,eI,gN,gf,dl,km,eJ,gO,gg,jL,gP,eK,eM,eP,eQ,cM,cN,cy,b9,cb,bF,gQ,gR,gS,gU,gW,gX,gY,gZ,g7,g8,g9,hV,kn,eV,ce,eW,ko,eX,cO,cf,hX,h9,e7,e8,e9,
 List.getElem?_cons_zero,List.getElem?_cons_succ,Option.some.injEq,exists_eq_left',exists_eq_left,List.set_cons_zero,List.set_cons_succ,bK,V.int.injEq,V.bl.injEq,V.ref.injEq,V.str.injEq,List.append_nil,List.nil_append,List.cons_append] | dsimp only | skip))
def du (K:Frag):Sp:=fun vs H Q _=>∃ (S M:Addr) (sq ms:List Int),vs=[.ref S,.ref M]/\H S=some (.lst (sq.map V.int))/\H M=some (.lst (ms.map V.int))/\sq.length<=100/\∀ H',Same H H'->Q (.bl (sq.all fun c=>decide (c∈ms))) H'
theorem ur {K:Frag} {vs:List V} {H:Hp} {Q:VK} {E:XK} (h:du K vs H Q E):vs.length=2:=by
 obtain ⟨_,_,_,_,rfl,_⟩:=h; rfl
def jo (K:Frag):TS:=
 (tRet (tCB kAll (tCons (tComp [none,none,some 1] (iList K (tVar 0)) (gName 1) tTrue (tOp (cIn K false) (tVar 1) (tVar 2))) tNil)))
theorem ut {K:Frag} {vs:List V} {H:Hp} {Q:VK} {E:XK} (h:du K vs H Q E):jo K { nx:=fun _ H'=>Q .non H',rt:=Q } (start ["some","cells"] vs) H:=by
 obtain ⟨S,M,sq,ms,rfl,hS,hM,hn,q⟩:=h
 show jo K _ [some (.ref S),some (.ref M)] H
 unfold jo
 walk_at "w"
 refine ⟨⟨_,SqL.of hS⟩,?_⟩
 refine cp (xs:=sq.map V.int) (fun _=>true) (fun i=>.bl (decide (sq.getD i 0∈ms))) (by rw [List.length_map]; omega) (SqL.of hS) ?_ ?_ ?_
 . intro i x H1 R hx s1 k1
   exact k1 _ (Same.refl _)
 . intro i x H1 Q1 hx hb s1 k1
   rw [List.getElem?_map] at hx
   cases e:sq[i]? with
   | none=>rw [e] at hx; cases hx
   | some z=>
    rw [e] at hx
    cases hx
    have k2:=k1 _ (Same.refl H1)
    rw [List.getD,e] at k2
    show tOp (cIn K false) _ _ [none,some (.int z),some (.ref M)] H1 Q1
    walk_at "w"
    rw [l7 (s1 _ _ hM)]
    exact k2
 . intro l H1 hl s1 el
   rw [bp,List.length_map] at el
   refine nR (bs:=(List.range sq.length).map fun i=>decide (sq.getD i 0∈ms)) (by rw [el,List.map_map]; rfl) ?_
   have e:((List.range sq.length).map fun i=>decide (sq.getD i 0∈ms)).all id=sq.all fun c=>decide (c∈ms):=by
    rw [List.all_map,Bool.eq_iff_iff,List.all_eq_true,List.all_eq_true]
    constructor
    . intro h c hc
      obtain ⟨i,hi,rfl⟩:=List.mem_iff_getElem.mp hc
      have:=h i (List.mem_range.mpr hi)
      dsimp only [Function.comp,id] at this
      rw [List.getD,List.getElem?_eq_getElem hi] at this
      exact this
    . intro h i hi
      have hi:=List.mem_range.mp hi
      have:=h _ (List.getElem_mem hi)
      dsimp only [Function.comp,id]
      rw [List.getD,List.getElem?_eq_getElem hi]
      exact this
   rw [e]
   exact q _ s1
def de (K:Frag) (c:RCl RK):Sp:=cF K c .NoSquare
theorem n5 {K:Frag} {c:RCl RK} {vs:List V} {H:Hp} {Q:VK} {E:XK} (h:de K c vs H Q E):vs.length=2:=by
 obtain ⟨_,_,_,_,_,_,_,_,_,_,_,rfl,_⟩:=h; rfl
theorem Ag {h w g:Int} (F:FlOk h w g):(squL h w).length<=16:=by
 obtain ⟨h0,h1,w0,w1,m16,g0,g1⟩:=F
 unfold squL
 rw [List.length_map]
 refine Nat.le_trans (List.length_filter_le _ _) ?_
 rw [List.length_range]
 omega
def df (K:Frag) (c:RCl RK):TS:=
 (tSeq (tAsg (be c c.ok "marked" (bG K c) (tVar 0) (tCons (tVar 1) tNil)) (gName 2))
  (tRet (tNotV (tCB kAny (tCons (tComp [none,none,some 2] (iList K (tCall (gl K) [] E0 (tCons (tFldK c (tVar 0) "floor") tNil))) (gName 1) tTrue (tCall (du K) [] E0 (tCons (tVar 1) (tCons (tVar 2) tNil)))) tNil)))))
theorem n6 {K:Frag} {c:RCl RK} {vs:List V} {H:Hp} {Q:VK} {E:XK} (h:de K c vs H Q E):df K c { nx:=fun _ H'=>Q .non H',rt:=Q } (start ["self","filling","cells"] vs) H:=by
 obtain ⟨r,p,f,ws,cs,xs,n,m,h,w,g,rfl,x,ha,F,hf,hC,hx,q⟩:=h
 obtain ⟨dx,W,C,h1,h2,h3⟩:=x.ex
 show df K c _ [some (.ref r),some (.ref f),none] H
 unfold df
 walk_at "w"
 refine methE rfl x.ok h1 (by rfl) ?_
 walk_at "w"
 refine ⟨r,p,f,ws,cs,xs,n,m,rfl,x,hf,hC,fun l H1 s1 hl el=>?_⟩
 walk_at "w"
 refine fldE rfl x.ok (s1 _ _ h1) (v:=.ref p) (by rfl) ?_
 walk_at "w"
 refine ⟨p,h,w,g,rfl,s1 _ _ ha,F,fun L as H2 s2 hL xL _ _ _=>?_⟩
 have sl:=Ag F
 refine ⟨L,rfl,⟨_,SqL.of xL.top⟩,?_⟩
 refine cp (xs:=as.map V.ref) (fun _=>true) (fun i=>.bl (((squL h w).getD i []).all fun c=>decide (c∈mkAt xs cs m))) (by rw [List.length_map,xL.len]; omega) (SqL.of xL.top) ?_ ?_ ?_
 . intro i x H3 R hx s3 k3
   exact k3 _ (Same.refl _)
 . intro i y H3 Q3 hi hb s3 k3
   obtain ⟨b,hb,rfl⟩:=fb hi
   have hlt:i < (squL h w).length:=by rw [← xL.len]; exact (List.getElem?_eq_some_iff.mp hb).1
   have e:=List.getElem?_eq_getElem hlt
   have eg:(squL h w).getD i []=(squL h w)[i]:=by rw [List.getD,e]; rfl
   have hq4:((squL h w)[i]).length<=100:=by
    have hm:=List.getElem_mem hlt
    generalize (squL h w)[i]=z at hm
    unfold squL at hm
    obtain ⟨j,_,rfl⟩:=List.mem_map.mp hm
    show 4<=100
    decide
   show tCall _ _ _ _ [none,some (.ref b),some (.ref l)] H3 Q3
   walk_at "w"
   refine ⟨b,l,_,_,rfl,s3 _ _ (xL.at_ i b _ hb e),s3 _ _ (s2 _ _ el),hq4,fun H4 s4=>?_⟩
   have:=k3 H4 s4
   rw [eg] at this
   exact this
 . intro D H3 hD s3 eD
   rw [bp,List.length_map,xL.len] at eD
   refine BB (bs:=(List.range (squL h w).length).map fun i=>((squL h w).getD i []).all fun c=>decide (c∈mkAt xs cs m)) (by rw [eD,List.map_map]; rfl) ?_
   have e:((List.range (squL h w).length).map fun i=>((squL h w).getD i []).all fun c=>decide (c∈mkAt xs cs m)).any id=(squL h w).any fun sq=>sq.all fun c=>decide (c∈mkAt xs cs m):=by
    rw [List.any_map,Bool.eq_iff_iff,List.any_eq_true,List.any_eq_true]
    constructor
    . rintro ⟨i,hi,hh⟩
      have hi:=List.mem_range.mp hi
      dsimp only [Function.comp,id] at hh
      have eg:(squL h w).getD i []=(squL h w)[i]:=by rw [List.getD,List.getElem?_eq_getElem hi]; rfl
      rw [eg] at hh
      exact ⟨_,List.getElem_mem hi,hh⟩
    . rintro ⟨sq,hs,hh⟩
      obtain ⟨i,hi,rfl⟩:=List.mem_iff_getElem.mp hs
      refine ⟨i,List.mem_range.mpr hi,?_⟩
      dsimp only [Function.comp,id]
      have eg:(squL h w).getD i []=(squL h w)[i]:=by rw [List.getD,List.getElem?_eq_getElem hi]; rfl
      rw [eg]
      exact hh
   rw [e]
   walk_at "w"
   exact q _ ((s1.trans s2).trans s3)
end L2
namespace L2
open PySem PySem.Spec PyProof.Rows
end L2
namespace L2
open PySem PySem.Spec PyProof.Rows
local macro_rules | `(tactic| walk_at "w")=>`(tactic| (first | simp only [aL,kh,lp,fS,ki,iS,iT,lq,li,kf,lj,if_true,if_false,Bool.false_eq_true,decide_true,decide_false,gj,gk,kE,dG,cZ,gh,i7,gi,dF,iZ,i6,dE,kB,dH,dI,dL,dM,dN,dO,dJ,i9,ja,jb,iY,kD,Bool.not_true,Bool.not_false,dj,fu,bo,gd,w_c,jK,dD,ei,dk,eE,w_b,w_not,gM,kl,eF,eI,gN,gf,dl,km,eJ,gO,gg,jL,gP,eK,eM,eP,eQ,cM,cN,cy,b9,cb,bF,gQ,gR,gS,gU,gW,gX,gY,gZ,g7,g8,g9,hV,kn,eV,ce,eW,ko,eX,cO,cf,hX,h9,e7,e8,e9,
 List.getElem?_cons_zero,List.getElem?_cons_succ,Option.some.injEq,exists_eq_left',exists_eq_left,List.set_cons_zero,List.set_cons_succ,bK,V.int.injEq,V.bl.injEq,V.ref.injEq,V.str.injEq,List.append_nil,List.nil_append,List.cons_append] | dsimp only | skip))
def gz (K:Frag):Sp:=fun vs H Q _=>∃ (a l:Addr) (h w g st:Int) (cs:List Int),vs=[.ref a,.ref l,.int st]/\IsFl H a h w g/\0<w/\w<100/\H l=some (.lst (cs.map V.int))/\cs.length<=63/\
 ∀ (p:Addr) (H':Hp) (rs:List Int),Same H H'->H p=none->H' p=some (.lst (rs.map V.int))->rs.Pairwise (· < ·)->(∀ x,x∈rs↔RC h w cs st x)->Q (.ref p) H'
theorem wC {K:Frag} {vs:List V} {H:Hp} {Q:VK} {E:XK} (h:gz K vs H Q E):vs.length=3:=by
 obtain ⟨_,_,_,_,_,_,_,rfl,_⟩:=h; rfl
def kM (K:Frag):TS:=
 (tSeq (tIfS (tTest (tOp (cIn K true) (tVar 2) (tVar 1))) (tRet (tLst tNil)) tNext)
  (tSeq (tAsg (tLst (tCons (tVar 2) tNil)) (gName 3))
  (tSeq (tAsg (tC (.int 0)) (gName 4))
  (tSeq (tz (tTest (tOp (cCmp fun i j=>decide (i<j)) (tVar 4) (tCB kLen (tCons (tVar 3) tNil))))
  (tSeq (tFor (iList K (tCall (dB K) [] E0 (tCons (tVar 0) (tCons (tOp cIx (tVar 3) (tVar 4)) tNil)))) (gName 5)
  (tIfS (tAnd (tTest (tOp (cIn K false) (tVar 5) (tVar 1))) (tTest (tOp (cIn K true) (tVar 5) (tVar 3)))) (tDrop (tBM K "list" bm (tVar 3) (tCons (tVar 5) tNil))) tNext))
  (tAsg (tOp cAdd (tVar 4) (tC (.int 1))) (gName 4))))
  (tRet (tCB nP (tCons (tVar 3) tNil)))))))
theorem wD {K:Frag} {vs:List V} {H:Hp} {Q:VK} {E:XK} (h:gz K vs H Q E):kM K { nx:=fun _ H'=>Q .non H',rt:=Q } (start ["floor","cells","start","found","place","cell"] vs) H:=by
 obtain ⟨a,l,h,w,g,st,cs,rfl,ha,w0,w1,hl,hn,k⟩:=h
 show kM K _ [some (.ref a),some (.ref l),some (.int st),none,none,none] H
 unfold kM
 rw [aL,aI]
 walk_at "w"
 rw [we hl]
 walk_at "w"
 by_cases hs:st∈cs
 . rw [if_neg (by simpa using hs)]
   walk_at "w"
   refine ⟨aB (by show (1:Nat)<=1000; decide),fun f hf=>?_⟩
   refine ⟨fun m σ H'=>∃ (fs:List Int) (pl:Nat) (cv:Option V),σ=[some (.ref a),some (.ref l),some (.int st),some (.ref f),some (.int pl),cv]/\Same H H'/\H' f=some (.lst (fs.map V.int))/\BI h w cs st fs pl/\m=cs.length-pl,
    ⟨_,[st],0,none,rfl,(Same.refl H).laid hf,ae,BI.start hs,rfl⟩,?_⟩
   rintro m σ H1 ⟨fs,pl,cv,rfl,s1,e1,B,rfl⟩
   have hfl:=B.len
   walk_at "w"
   rw [bc e1,List.length_map]
   walk_at "w"
   by_cases hp:pl<fs.length
   . rw [if_pos (by simpa using hp)]
     obtain ⟨x,hx⟩:∃ x,fs[pl]? =some x:=⟨fs[pl],by simp [hp]⟩
     have rx:RC h w cs st x:=B.rc x (List.mem_of_getElem? hx)
     refine ⟨fun σ H'=>∃ (fs:List Int) (cv:Option V),σ=[some (.ref a),some (.ref l),some (.int st),some (.ref f),some (.int ((pl:Int)+1)),cv]/\Same H H'/\H' f=some (.lst (fs.map V.int))/\BI h w cs st fs (pl+1),
      fun σ' H' ⟨fs',cv',e,s',e',B'⟩=>⟨_,by omega,fs',pl+1,cv',by rw [e]; rfl,s',e',B',rfl⟩,?_⟩
     walk_at "w"
     rw [zx e1]
     refine aV (oH (by omega) (by omega)) ?_
     walk_at "w"
     rw [show ((pl:Int)).toNat=pl from Int.toNat_natCast _,kP hx]
     refine ⟨a,h,w,g,x,rfl,s1 _ _ ha,w0,w1,fun b H2 s2 hb e2=>?_⟩
     have s12:=s1.trans s2
     refine ⟨b,rfl,⟨_,SqL.of e2⟩,c8 (K:=K) (xs:=(besL h w x).map V.int) (fun i σ H'=>∃ (f2:List Int) (cv:Option V),σ=[some (.ref a),some (.ref l),some (.int st),some (.ref f),some (.int pl),cv]/\Same H H'/\H' b=some (.lst ((besL h w x).map V.int))/\H' f=some (.lst (f2.map V.int))/\BJ h w cs st fs pl ((besL h w x).take i) f2)
      ⟨fs,cv,rfl,s12,e2,s2 _ _ e1,BJ.zero B⟩ (fun i σ H' _ ⟨_,_,_,_,q,_⟩=>SqL.of q) ?_ ?_⟩
     . rintro i y σ H3 hy ⟨f2,cv2,rfl,s3,eb,ef,J⟩
       rw [List.getElem?_map] at hy
       cases hz:(besL h w x)[i]? with
       | none=>rw [hz] at hy; cases hy
       | some z=>
        rw [hz] at hy
        cases hy
        have hlen2:f2.length<=63:=Nat.le_trans (l9 J.nd fun x hx=>(J.rc x hx).mem) hn
        have hmem:z∈besL h w x:=List.mem_of_getElem? hz
        have htake:(besL h w x).take (i+1)=(besL h w x).take i++[z]:=by rw [List.take_add_one,hz]; rfl
        have J2:=J.more rx hmem
        rw [← htake] at J2
        walk_at "w"
        rw [aI]
        walk_at "w"
        rw [l7 (s3 _ _ hl)]
        walk_at "w"
        have fin:∀ H4:Hp,H4 f=some (.lst ((addC cs f2 z).map V.int))->(∀ c,c≠f->H4 c=H3 c)->∃ (f2:List Int) (cv:Option V),[some (V.ref a),some (.ref l),some (.int st),some (.ref f),some (.int pl),some (.int z)]=[some (.ref a),some (.ref l),some (.int st),some (.ref f),some (.int pl),cv]/\Same H H4/\H4 b=some (.lst ((besL h w x).map V.int))/\H4 f=some (.lst (f2.map V.int))/\BJ h w cs st fs pl ((besL h w x).take (i+1)) f2:=fun H4 q1 q2=>
         ⟨_,_,rfl,fun c o e=>by rw [q2 c (aC e hf)]; exact s3 c o e,by rw [q2 b (fun e=>by rw [e] at hb; rw [e1] at hb; cases hb)]; exact eb,q1,J2⟩
        by_cases c1:z∈cs
        . rw [if_pos (by simpa using c1)]
          rw [we ef]
          by_cases c2:z∈f2
          . simp only [c2,decide_true,Bool.not_true,if_neg Bool.false_ne_true,V.bl.injEq,exists_eq_left']
            refine fin H3 ?_ fun _ _=>rfl
            rw [ef,addC,if_neg (fun q=>q.2 c2)]
          . simp only [c2,decide_false,Bool.not_false,if_true,V.bl.injEq,exists_eq_left']
            walk_at "w"
            refine ⟨br ef,?_⟩
            rw [c9 ef]
            refine ⟨by rw [List.length_map]; exact aD (by omega),fin _ ?_ fun c hc=>ai hc⟩
            rw [ae,addC,if_pos ⟨c1,c2⟩]
            simp
        . rw [if_neg (by simpa using c1)]
          try simp only [if_neg Bool.false_ne_true]
          refine fin H3 ?_ fun _ _=>rfl
          rw [ef,addC,if_neg (fun q=>c1 q.1)]
     . rintro σ H3 ⟨f2,cv2,rfl,s3,eb,ef,J⟩
       rw [List.length_map,List.take_length] at J
       walk_at "w"
       exact ⟨f2,cv2,rfl,s3,ef,J.done B hx⟩
   . rw [if_neg (by simpa using hp)]
     walk_at "w"
     unfold nP
     dsimp only
     rw [e1]
     refine ⟨fs,rfl,by omega,fun rs p hpn pm ps=>?_⟩
     refine k p _ rs (s1.laid hpn) (s1.free hpn) ae (xT pm ps B.nd) fun x=>?_
     rw [pm.mem_iff]
     exact B.done hp x
 . rw [if_pos (by simpa using hs)]
   walk_at "w"
   refine ⟨Nat.zero_le _,fun p hp=>k p _ [] ((Same.refl H).laid hp) hp ae .nil fun x=>⟨(fun q=>nomatch q),fun r=>absurd (RC.st r) hs⟩⟩
theorem joinB_iff {h w:Int} {ms:List Int}:joinB h w ms=true↔(ms=[]\/(ms.Pairwise (· < ·)/\∀ x∈ms,RC h w ms (ms.headD 0) x)):=by
 unfold joinB
 exact @decide_eq_true_iff _ (Classical.propDecidable _)
def bH (K:Frag) (c:RCl RK):Sp:=fun vs H Q E=>∃ k,cG K c k vs H Q E
theorem mJ {K:Frag} {c:RCl RK} {vs:List V} {H:Hp} {Q:VK} {E:XK} (h:bH K c vs H Q E):vs.length=2:=by
 obtain ⟨_,_,_,_,_,_,_,_,_,_,_,_,rfl,_⟩:=h; rfl
def cJ (K:Frag) (c:RCl RK):TS:=
 (tRet (tOrV (tOp (cEq K) (tVar 1) (tLst tNil)) (tOp (cEq K) (tCall (gz K) [] E0 (tCons (tFldK c (tVar 0) "floor") (tCons (tVar 1) (tCons (tOp cIx (tVar 1) (tC (.int 0))) tNil)))) (tVar 1))))
theorem mK {K:Frag} {c:RCl RK} {vs:List V} {H:Hp} {Q:VK} {E:XK} (h:bH K c vs H Q E):cJ K c { nx:=fun _ H'=>Q .non H',rt:=Q } (start ["self","cells"] vs) H:=by
 obtain ⟨k,r,p,C,ws,cs,ms,n,m,h,w,g,rfl,x,ha,F,hC,hn,q⟩:=h
 obtain ⟨h0,h1',w0,w1,m16,g0,g1⟩:=id F
 obtain ⟨dx,W,C',h1,h2,h3⟩:=x.ex
 show cJ K c _ [some (.ref r),some (.ref C)] H
 unfold cJ
 walk_at "w"
 refine ⟨aB (by show (0:Nat)<=1000; decide),fun l hl=>?_⟩
 have s1:Same H (upd H l (.lst [])):=(Same.refl H).laid hl
 have el:(upd H l (.lst [])) l=some (.lst (([]:List Int).map V.int)):=ae
 generalize upd H l (.lst [])=H1 at*
 refine sZ (s1 _ _ hC) el ?_
 walk_at "w"
 cases ms with
 | nil=>
  have e:joinB h w []=true:=joinB_iff.mpr (.inl rfl)
  have:=q _ s1
  rw [e] at this
  rw [decide_eq_true rfl,if_pos rfl]
  exact this
 | cons z zs=>
  rw [decide_eq_false (by simp),if_neg (by decide)]
  refine fldE rfl x.ok (s1 _ _ h1) (v:=.ref p) (by rfl) ?_
  walk_at "w"
  refine ixL (s1 _ _ hC) (v:=V.int z) (ga (j:=0) rfl) ?_
  walk_at "w"
  refine ⟨p,C,h,w,g,z,z::zs,rfl,s1 _ _ ha,by omega,by omega,s1 _ _ hC,hn,fun u H2 rs s2 hu eu rise mem=>?_⟩
  refine sZ eu (s2 _ _ (s1 _ _ hC)) ?_
  have e:decide (rs=z::zs)=joinB h w (z::zs):=by
   rw [Bool.eq_iff_iff,decide_eq_true_eq,joinB_iff]
   constructor
   . intro e
     subst e
     exact .inr ⟨rise,fun x hx=>(mem x).mp hx⟩
   . rintro (e | ⟨rise2,all⟩)
     . cases e
     . exact pO rise rise2 fun y=>⟨fun hy=>((mem y).mp hy).mem,fun hy=>(mem y).mpr (all y hy)⟩
  rw [e]
  exact q _ (s1.trans s2)
def fK (K:Frag) (c:RCl RK):Sp:=cF K c .Joined
theorem qj {K:Frag} {c:RCl RK} {vs:List V} {H:Hp} {Q:VK} {E:XK} (h:fK K c vs H Q E):vs.length=2:=by
 obtain ⟨_,_,_,_,_,_,_,_,_,_,_,rfl,_⟩:=h; rfl
def fL (K:Frag) (c:RCl RK):TS:=
 (tRet (be c c.ok "is_joined" (cG K c) (tVar 0) (tCons (be c c.ok "marked" (bG K c) (tVar 0) (tCons (tVar 1) tNil)) tNil)))
theorem yn {xs cs:List Int} {m:Int} (hn:cs.length<=63):(mkAt xs cs m).length<=63:=by
 unfold mkAt
 exact Nat.le_trans (List.length_filter_le _ _) hn
theorem qk {K:Frag} {c:RCl RK} {vs:List V} {H:Hp} {Q:VK} {E:XK} (h:fK K c vs H Q E):fL K c { nx:=fun _ H'=>Q .non H',rt:=Q } (start ["self","filling"] vs) H:=by
 obtain ⟨r,p,f,ws,cs,xs,n,m,h,w,g,rfl,x,ha,F,hf,hC,hx,q⟩:=h
 obtain ⟨dx,W,C,h1,h2,h3⟩:=x.ex
 show fL K c _ [some (.ref r),some (.ref f)] H
 unfold fL
 walk_at "w"
 refine methE rfl x.ok h1 (by rfl) ?_
 walk_at "w"
 refine methE rfl x.ok h1 (by rfl) ?_
 walk_at "w"
 refine ⟨r,p,f,ws,cs,xs,n,m,rfl,x,hf,hC,fun l H1 s1 hl el=>?_⟩
 exact ⟨r,p,l,ws,cs,_,n,m,h,w,g,rfl,x.same s1,s1 _ _ ha,F,el,yn hC.1,fun H2 s2=>q _ (s1.trans s2)⟩
def bR (K:Frag) (c:RCl RK):Sp:=db K c .Ring
theorem lA {K:Frag} {c:RCl RK} {vs:List V} {H:Hp} {Q:VK} {E:XK} (h:bR K c vs H Q E):vs.length=3:=by
 obtain ⟨_,_,_,_,_,_,_,_,_,_,_,_,rfl,_⟩:=h; rfl
def bS (K:Frag) (c:RCl RK):TS:=
 (tRet (tOp (cEq K) (tCB kLen (tCons (tComp [none,none,some 1] (iList K (tCall (dB K) [] E0 (tCons (tFldK c (tVar 0) "floor") (tCons (tVar 2) tNil)))) (gName 1) (tTest (tOp (cIn K false) (tVar 1) (tVar 2))) (tVar 1)) tNil)) (tC (.int 2))))
theorem Ah (h w c:Int):(besL h w c).length<=4:=by
 unfold besL
 repeat rw [List.length_append]
 split <;> split <;> split <;> split <;> simp
theorem lB {K:Frag} {c:RCl RK} {vs:List V} {H:Hp} {Q:VK} {E:XK} (h:bR K c vs H Q E):bS K c { nx:=fun _ H'=>Q .non H',rt:=Q } (start ["self","cells","cell"] vs) H:=by
 obtain ⟨r,p,C,ws,cs,ms,n,m,h,w,g,z,rfl,x,ha,F,hC,hn,q⟩:=h
 obtain ⟨h0,h1',w0,w1,m16,g0,g1⟩:=id F
 obtain ⟨dx,W,C',h1,h2,h3⟩:=x.ex
 show bS K c _ [some (.ref r),some (.ref C),some (.int z)] H
 unfold bS
 walk_at "w"
 refine fldE rfl x.ok h1 (v:=.ref p) (by rfl) ?_
 walk_at "w"
 refine ⟨p,h,w,g,z,rfl,ha,by omega,by omega,fun b H2 s2 hb e2=>?_⟩
 have bl:=Ah h w z
 refine ⟨b,rfl,⟨_,SqL.of e2⟩,?_⟩
 refine cX (xs:=besL h w z) (fun y=>decide (y∈ms)) (fun y=>y) (by omega) (SqL.of e2) ?_ ?_ ?_
 . intro y H3 R hy s3 k3
   show tTest _ [none,some (.int y),some (.ref C)] H3 R
   walk_at "w"
   rw [l7 (s3 _ _ (s2 _ _ hC))]
   exact ⟨_,rfl,k3 _ (Same.refl _)⟩
 . intro y H3 Q3 hy hb s3 k3
   exact ⟨_,rfl,k3 _ (Same.refl _)⟩
 . intro l H3 hl s3 el
   rw [List.map_id'] at el
   walk_at "w"
   rw [bc el,List.length_map]
   walk_at "w"
   have:=q _ (s2.trans s3)
   unfold twoB at this
   have e:decide ((((besL h w z).filter fun y=>decide (y∈ms)).length:Int)=2)=decide (((besL h w z).filter fun y=>decide (y∈ms)).length=2):=by
    rw [Bool.eq_iff_iff,decide_eq_true_eq,decide_eq_true_eq]
    omega
   rw [e]
   exact this
def im (K:Frag) (c:RCl RK):Sp:=cF K c .Ring
theorem sC {K:Frag} {c:RCl RK} {vs:List V} {H:Hp} {Q:VK} {E:XK} (h:im K c vs H Q E):vs.length=2:=by
 obtain ⟨_,_,_,_,_,_,_,_,_,_,_,rfl,_⟩:=h; rfl
def io (K:Frag) (c:RCl RK):TS:=
 (tSeq (tAsg (be c c.ok "marked" (bG K c) (tVar 0) (tCons (tVar 1) tNil)) (gName 2))
  (tRet (tAndV (be c c.ok "is_joined" (cG K c) (tVar 0) (tCons (tVar 2) tNil)) (tCB kAll (tCons (tComp [none,none,some 2,some 0] (iList K (tVar 2)) (gName 1) tTrue (be c c.ok "has_two_beside" (db K c) (tVar 3) (tCons (tVar 2) (tCons (tVar 1) tNil)))) tNil)))))
theorem sD {K:Frag} {c:RCl RK} {vs:List V} {H:Hp} {Q:VK} {E:XK} (h:im K c vs H Q E):io K c { nx:=fun _ H'=>Q .non H',rt:=Q } (start ["self","filling","cells"] vs) H:=by
 obtain ⟨r,p,f,ws,cs,xs,n,m,h,w,g,rfl,x,ha,F,hf,hC,hx,q⟩:=h
 obtain ⟨dx,W,C,h1,h2,h3⟩:=x.ex
 show io K c _ [some (.ref r),some (.ref f),none] H
 unfold io
 walk_at "w"
 refine methE rfl x.ok h1 (by rfl) ?_
 walk_at "w"
 refine ⟨r,p,f,ws,cs,xs,n,m,rfl,x,hf,hC,fun l H1 s1 hl el=>?_⟩
 have hml:=yn (xs:=xs) (m:=m) hC.1
 have q1:∀ H',Same H H'->Q (.bl (joinB h w (mkAt xs cs m)&&(mkAt xs cs m).all (twoB h w (mkAt xs cs m)))) H':=q
 generalize mkAt xs cs m=ms at*
 walk_at "w"
 refine methE rfl x.ok (s1 _ _ h1) (by rfl) ?_
 walk_at "w"
 refine ⟨r,p,l,ws,cs,ms,n,m,h,w,g,rfl,x.same s1,s1 _ _ ha,F,el,hml,fun H2 s2=>?_⟩
 have s12:=s1.trans s2
 walk_at "w"
 cases hj:joinB h w ms with
 | false=>
  rw [hj] at q1
  first | exact iteF (q1 _ s12) | exact q1 _ s12
 | true=>
  rw [hj] at q1
  refine iteT ?_
  refine ⟨⟨_,SqL.of (s2 _ _ el)⟩,?_⟩
  refine cp (xs:=ms.map V.int) (fun _=>true) (fun i=>.bl (twoB h w ms (ms.getD i 0))) (by rw [List.length_map]; omega) (SqL.of (s2 _ _ el)) ?_ ?_ ?_
  . intro i y H3 R hy s3 k3
    exact k3 _ (Same.refl _)
  . intro i y H3 Q3 hy hb s3 k3
    rw [List.getElem?_map] at hy
    cases e:ms[i]? with
    | none=>rw [e] at hy; cases hy
    | some z=>
     rw [e] at hy
     cases hy
     have s13:=s12.trans s3
     have eg:ms.getD i 0=z:=by rw [List.getD,e]; rfl
     show be _ _ _ _ _ _ [none,some (.int z),some (.ref l),some (.ref r)] H3 Q3
     refine methE rfl x.ok (s13 _ _ h1) (by rfl) ?_
     walk_at "w"
     refine ⟨r,p,l,ws,cs,ms,n,m,h,w,g,z,rfl,x.same s13,s13 _ _ ha,F,s3 _ _ (s2 _ _ el),hml,fun H4 s4=>?_⟩
     have:=k3 H4 s4
     rw [eg] at this
     exact this
  . intro l2 H3 hl2 s3 el2
    rw [bp,List.length_map] at el2
    refine nR (bs:=(List.range ms.length).map fun i=>twoB h w ms (ms.getD i 0)) (by rw [el2,List.map_map]; rfl) ?_
    have e:((List.range ms.length).map fun i=>twoB h w ms (ms.getD i 0)).all id=ms.all (twoB h w ms):=by
     have em:(List.range ms.length).map (fun i=>ms.getD i 0)=ms:=by
      refine List.ext_getElem (by simp) fun i h1 h2=>?_
      simp at h1
      simp [List.getD,List.getElem?_eq_getElem h1]
     have e2:(List.range ms.length).map (fun i=>twoB h w ms (ms.getD i 0))=ms.map (twoB h w ms):=by
      rw [← em,List.map_map,em]
      rfl
     rw [e2,List.all_map]
     rfl
    rw [e]
    exact q1 _ (s12.trans s3)
theorem zd {α:Type} (F:Int->α) (ss:List Int):(List.range ss.length).map (fun i=>F (ss.getD i 0))=ss.map F:=by
 refine List.ext_getElem? fun i=>?_
 rw [List.getElem?_map,List.getElem?_map]
 by_cases h:i<ss.length
 . rw [List.getElem?_range h,List.getElem?_eq_getElem h]
   simp [List.getD,h]
 . rw [List.getElem?_eq_none (by simpa using h),List.getElem?_eq_none (by omega)]; rfl
theorem nh {α:Type} {l:List α} {i:Nat} {x:α} (h:l[i]? =some x):l.take (i+1)=l.take i++[x]:=by
 rw [List.take_succ,h]; rfl
theorem IsLL.app {H:Hp} {l:Addr} {as bs:List Addr} {xss yss:List (List Int)} (x:IsLL H l as xss) (nl:l∉as) (nb:l∉bs) (len:bs.length=yss.length) (at2:∀ (j:Nat) (a:Addr) (ys:List Int),bs[j]? =some a->yss[j]? =some ys->H a=some (.lst (ys.map V.int))):
  IsLL (upd H l (.lst (as.map V.ref++bs.map V.ref))) l (as++bs) (xss++yss):=by
 have hx:=x.len
 refine ⟨by rw [ae,List.map_append],by rw [List.length_append,List.length_append,x.len,len],fun j a ys h1 h2=>?_⟩
 by_cases hj:j<as.length
 . rw [List.getElem?_append_left hj] at h1
   rw [List.getElem?_append_left (by omega)] at h2
   have ne:a≠l:=fun z=>nl (z ▸ List.mem_of_getElem? h1)
   rw [ai ne]
   exact x.at_ j a ys h1 h2
 . rw [List.getElem?_append_right (by omega)] at h1
   rw [List.getElem?_append_right (by omega)] at h2
   have ne:a≠l:=fun z=>nb (z ▸ List.mem_of_getElem? h1)
   rw [ai ne]
   exact at2 _ a ys h1 (by rw [hx]; exact h2)
theorem IsLL.get {H:Hp} {l:Addr} {as:List Addr} {xss:List (List Int)} {i:Nat} {a:Addr} (x:IsLL H l as xss) (h:as[i]? =some a):∃ xs,xss[i]? =some xs/\H a=some (.lst (xs.map V.int)):=by
 have hi:=(List.getElem?_eq_some_iff.mp h).1
 have e:xss[i]? =some (xss[i]'(by have:=x.len; omega)):=List.getElem?_eq_getElem _
 exact ⟨_,e,x.at_ i a _ h e⟩
theorem yo {n:Nat} (h:n<=1100):n<sizeLine:=Nat.lt_of_le_of_lt h (by decide)
theorem yp {p q:Addr} {xs ys:List V} {H:Hp} {Q:VK} (hp:H p=some (.lst xs)) (hq:H q=some (.lst ys)) (hn:xs.length+ys.length<=1100) (h:Q .non (upd H p (.lst (xs++ys)))):kO (.ref p) [.ref q] H Q:=by
 show bnd (unM (H p)) _
 rw [hp]
 show bnd (unM (H q)) _
 rw [hq]
 exact ⟨Nat.le_of_lt (yo hn),h⟩
theorem yq {α:Type} (f:α->V) (xs:List α) (k:Nat):cutV (xs.map f) none (some (k:Int))=(xs.take k).map f:=by
 unfold cutV
 rw [HT.sIx_nat,HT.sIx_none,List.length_map,List.drop_zero,Nat.sub_zero,List.map_take]
 by_cases h:k<=xs.length
 . rw [Nat.min_eq_left h]
 . rw [Nat.min_eq_right (by omega),List.take_of_length_le (by rw [List.length_map]; exact Nat.le_refl _),List.take_of_length_le (by rw [List.length_map]; omega)]
theorem Bd {α:Type} (f:α->V) (xs:List α) {k:Nat} (h:k<=xs.length):cutV (xs.map f) (some (k:Int)) none=(xs.drop k).map f:=by
 unfold cutV
 rw [HT.sIx_nat,HT.sIx_none,List.length_map,Nat.min_eq_left h,List.map_drop,List.take_of_length_le (by rw [List.length_drop,List.length_map]; exact Nat.le_refl _)]
theorem IsLL.none {H:Hp} {l:Addr} (h:H l=some (.lst [])):IsLL H l [] []:=⟨h,rfl,fun j a xs h1=>by simp at h1⟩
theorem vO (m:Int):(sgL m).length<=Builtin.Int.intBits m:=by
 unfold sgL
 rw [List.length_map]
 refine Nat.le_trans (List.length_filter_le _ _) ?_
 rw [List.length_range]
 exact Nat.le_refl _
def prodW (ms:List Int):Nat:=ms.foldl (fun p m=>p*(sgL m).length) 1
theorem ql {α:Type} {xs:List Int} {i:Nat} {x:Int} (f:α->Int->α) (a:α) (h:xs[i]? =some x):(xs.take (i+1)).foldl f a=f ((xs.take i).foldl f a) x:=by
 rw [List.take_succ,h,List.foldl_append]
 rfl
def kQ (K:Frag):Sp:=fun vs H Q _=>∃ (p:Addr) (ms:List Int),vs=[.ref p]/\H p=some (.lst (ms.map V.int))/\(∀ m∈ms,Builtin.Int.intBits m<=900)/\∀ H',Same H H'->Q (.int ((prodW ms:Nat):Int)) H'
theorem Ai {K:Frag} {vs:List V} {H:Hp} {Q:VK} {E:XK} (h:kQ K vs H Q E):vs.length=1:=by
 obtain ⟨_,_,rfl,_⟩:=h; rfl
def nU (K:Frag):TS:=
 (tSeq (tAsg (tC (.int 1)) (gName 1))
  (tSeq (tFor (iList K (tVar 0)) (gName 2)
  (tAsg (tOp cMul (tVar 1) (tCB kLen (tCons (tCall (cr K) [] E0 (tCons (tVar 2) tNil)) tNil))) (gName 1)))
  (tRet (tVar 1))))
theorem Aj {K:Frag} {vs:List V} {H:Hp} {Q:VK} {E:XK} (h:kQ K vs H Q E):nU K { nx:=fun _ H'=>Q .non H',rt:=Q } (start ["masks","product","mask"] vs) H:=by
 obtain ⟨p,ms,rfl,hp,hb,k⟩:=h
 show nU K _ [some (.ref p),none,none] H
 unfold nU
 walk_at "w"
 refine ⟨⟨_,SqL.of hp⟩,c8 (K:=K) (xs:=ms.map V.int) (fun i σ H'=>∃ mv:Option V,σ=[some (.ref p),some (.int ((prodW (ms.take i):Nat):Int)),mv]/\Same H H') ⟨none,rfl,Same.refl H⟩ (fun i σ H' _ ⟨_,_,s⟩=>SqL.of (s _ _ hp)) ?_ ?_⟩
 . rintro i x σ H1 hx ⟨mv,rfl,s1⟩
   obtain ⟨m,hm,rfl⟩:=bh hx
   have hbm:=hb m (List.mem_of_getElem? hm)
   walk_at "w"
   refine ⟨m,rfl,hbm,fun l H2 s2 hl el=>?_⟩
   walk_at "w"
   rw [bc el]
   walk_at "w"
   have h1:=vO m
   rw [List.length_map]
   refine ⟨.inr ⟨by omega,by omega⟩,some (.int m),?_,s1.trans s2⟩
   unfold prodW
   rw [ql _ _ hm,Int.natCast_mul]
 . rintro σ H1 ⟨mv,rfl,s1⟩
   walk_at "w"
   rw [List.take_of_length_le (by rw [List.length_map]; exact Nat.le_refl _)] at*
   exact k _ s1
def setL (xs:List Int) (z s:Int):List Int:=(List.range xs.length).map fun (i:Nat)=>if (i:Int)=z then s else xs.getD i 0
theorem oW {xs:List Int} {z s:Int}:(setL xs z s).length=xs.length:=by unfold setL; simp
theorem rf {xs:List Int} {z s:Int} (s0:0<=s) (s6:s<=6) (hx:∀ x∈xs,0<=x/\x<=6):∀ x∈setL xs z s,0<=x/\x<=6:=fun x h=>by
 unfold setL at h
 obtain ⟨i,hi,rfl⟩:=List.mem_map.mp h
 have hlt:=List.mem_range.mp hi
 have hb:=hx _ (List.getElem_mem hlt)
 have eg:xs.getD i 0=xs[i]:=by rw [List.getD,List.getElem?_eq_getElem hlt]; rfl
 rw [eg]
 split
 . exact ⟨s0,s6⟩
 . exact hb
def bU (K:Frag):Sp:=fun vs H Q _=>∃ (F:Addr) (xs:List Int) (z s:Int),vs=[.ref F,.int z,.int s]/\H F=some (.lst (xs.map V.int))/\xs.length<=100/\∀ l H',Same H H'->H l=none->H' l=some (.lst ((setL xs z s).map V.int))->Q (.ref l) H'
theorem uu {K:Frag} {vs:List V} {H:Hp} {Q:VK} {E:XK} (h:bU K vs H Q E):vs.length=3:=by
 obtain ⟨_,_,_,_,rfl,_⟩:=h; rfl
def jp (K:Frag):TS:=
 (tRet (tComp [none,none,none,some 1,some 2] (iEnum K (tCons (tVar 0) tNil)) (gTup K 2 (gCons (gName 1) (gCons (gName 2) gNil))) tTrue (tIf (tTest (tOp (cEq K) (tVar 1) (tVar 3))) (tVar 4) (tVar 2))))
theorem uv {K:Frag} {vs:List V} {H:Hp} {Q:VK} {E:XK} (h:bU K vs H Q E):jp K { nx:=fun _ H'=>Q .non H',rt:=Q } (start ["filling","cell","sign"] vs) H:=by
 obtain ⟨F,xs,z,s,rfl,hF,hl,q⟩:=h
 show jp K _ [some (.ref F),some (.int z),some (.int s)] H
 unfold jp
 walk_at "w"
 refine ⟨F,rfl,⟨_,SqL.of hF⟩,?_⟩
 refine wf (xs:=xs.map V.int) (fun _=>true) (fun i=>.int (if (i:Int)=z then s else xs.getD i 0)) (by rw [List.length_map]; omega) (by decide) (SqL.of hF) ?_ ?_ ?_
 . intro i x H1 R hx s1 k1
   exact k1 _ (Same.refl _)
 . intro i x H1 Q1 hx hb s1 k1
   obtain ⟨y,hy,rfl⟩:=bh hx
   have q1:=k1 _ (Same.refl H1)
   rw [kP hy] at q1
   show tIf _ _ _ [none,some (.int (i:Int)),some (.int y),some (.int z),some (.int s)] H1 Q1
   unfold tIf
   walk_at "w"
   by_cases h0:(i:Int)=z
   . rw [decide_eq_true h0]
     rw [if_pos h0] at q1
     exact iteT q1
   . rw [decide_eq_false h0]
     rw [if_neg h0] at q1
     exact iteF q1
 . intro l H1 hl1 s1 el
   rw [bp,List.length_map] at el
   refine q l H1 s1 hl1 ?_
   rw [el]
   unfold setL
   rw [List.map_map]
   rfl
def extS (fss:List (List Int)) (z:Int) (ss:List Int):List (List Int):=fss.flatMap fun f=>ss.map fun s=>setL f z s
theorem jP (z:Int) (ss:List Int):∀ fss:List (List Int),(extS fss z ss).length=fss.length*ss.length
 | []=>by simp [extS]
 | f::r=>by
  have ih:=jP z ss r
  unfold extS at ih ⊢
  rw [List.flatMap_cons,List.length_append,ih,List.length_map,List.length_cons,Nat.succ_mul,Nat.add_comm]
theorem uw (fs gs:List (List Int)) (z:Int) (ss:List Int):extS (fs++gs) z ss=extS fs z ss++extS gs z ss:=by
 unfold extS; rw [List.flatMap_append]
theorem ux (f:List Int) (z:Int) (ss:List Int):extS [f] z ss=ss.map fun s=>setL f z s:=by
 unfold extS; simp
theorem mem_extS {f:List Int} {fs:List (List Int)} {z:Int} {ss:List Int}:f∈extS fs z ss↔∃ a∈fs,∃ s∈ss,f=setL a z s:=by
 unfold extS
 rw [List.mem_flatMap]
 constructor
 . rintro ⟨a,ha,h⟩
   obtain ⟨s,hs,rfl⟩:=List.mem_map.mp h
   exact ⟨a,ha,s,hs,rfl⟩
 . rintro ⟨a,ha,s,hs,rfl⟩
   exact ⟨a,ha,List.mem_map.mpr ⟨s,hs,rfl⟩⟩
theorem yr {H0 H1 H2:Hp} {l m:Addr} {as bs:List Addr} {xss yss:List (List Int)} (x:IsLL H1 l as xss) (nl:l∉as) (s0:Same H0 H1) (fr:∀ b∈as,H0 b=none) (s1:Same H1 H2) (nw:NewAt H1 H2 m bs (yss.map fun ys=>.lst (ys.map V.int))):
  IsLL (upd H2 l (.lst (as.map V.ref++bs.map V.ref))) l (as++bs) (xss++yss)/\l∉as++bs/\(∀ b∈as++bs,H0 b=none):=by
 have nb:l∉bs:=fun h=>by have:=nw.fr l h; rw [x.top] at this; cases this
 refine ⟨?_,?_,?_⟩
 . refine (x.same s1).app nl nb (by rw [nw.len,List.length_map]) fun j a ys h1 h2=>?_
   exact nw.at_ j a _ h1 (by rw [List.getElem?_map,h2]; rfl)
 . intro h
   rcases List.mem_append.mp h with h | h
   . exact nl h
   . exact nb h
 . intro b h
   rcases List.mem_append.mp h with h | h
   . exact fr b h
   . exact s0.free (nw.fr b h)
def bB (K:Frag):Sp:=fun vs H Q _=>∃ (F S:Addr) (as:List Addr) (fss:List (List Int)) (z:Int) (ss:List Int),vs=[.ref F,.int z,.ref S]/\IsLL H F as fss/\H S=some (.lst (ss.map V.int))/\fss.length*ss.length<=1100/\ss.length<=100/\(∀ f∈fss,f.length<=16)/\
 ∀ (l:Addr) (bs:List Addr) (H':Hp),Same H H'->H l=none->IsLL H' l bs (extS fss z ss)->Q (.ref l) H'
theorem oa {K:Frag} {vs:List V} {H:Hp} {Q:VK} {E:XK} (h:bB K vs H Q E):vs.length=3:=by
 obtain ⟨_,_,_,_,_,_,rfl,_⟩:=h; rfl
def dg (K:Frag):TS:=
 (tSeq (tAsg (tLst tNil) (gName 3))
  (tSeq (tFor (iList K (tVar 0)) (gName 4)
  (tDrop (tBM K "list" kO (tVar 3) (tCons (tComp [none,none,some 1,some 4] (iList K (tVar 2)) (gName 1) tTrue (tCall (bU K) [] E0 (tCons (tVar 3) (tCons (tVar 2) (tCons (tVar 1) tNil))))) tNil))))
  (tRet (tVar 3))))
theorem oe {K:Frag} {vs:List V} {H:Hp} {Q:VK} {E:XK} (h:bB K vs H Q E):dg K { nx:=fun _ H'=>Q .non H',rt:=Q } (start ["fillings","cell","signs","found","filling"] vs) H:=by
 obtain ⟨F,S,as,fss,z,ss,rfl,x,hS,hn,hs,hf,q⟩:=h
 show dg K _ [some (.ref F),some (.int z),some (.ref S),none,none] H
 unfold dg
 walk_at "w"
 refine ⟨aB (by show (0:Nat)<=1000; decide),fun l hl=>?_⟩
 have s1:Same H (upd H l (.lst [])):=(Same.refl H).laid hl
 have el:(upd H l (.lst [])) l=some (.lst []):=ae
 generalize upd H l (.lst [])=H1 at*
 refine ⟨⟨_,SqL.of (s1 _ _ x.top)⟩,?_⟩
 refine c8 (K:=K) (xs:=as.map V.ref) (fun i σ H'=>∃ (v:Option V) (bs:List Addr),σ=[some (.ref F),some (.int z),some (.ref S),some (.ref l),v]/\Same H H'/\IsLL H' l bs (extS (fss.take i) z ss)/\l∉bs/\∀ b∈bs,H b=none)
  ⟨none,[],rfl,s1,⟨el,rfl,fun j a xs h1=>by simp at h1⟩,by simp,fun b hb=>nomatch hb⟩ (fun i σ H' _ ⟨_,_,_,s,_⟩=>s.seq (SqL.of x.top)) ?_ ?_
 . rintro i y σ H2 hy ⟨v,bs,rfl,s2,x2,nl,fr⟩
   obtain ⟨f,hfa,rfl⟩:=fb hy
   obtain ⟨xs,ex,ef⟩:=x.get hfa
   have hxl:=hf xs (List.mem_of_getElem? ex)
   walk_at "w"
   refine ⟨br x2.top,⟨_,SqL.of (s2 _ _ hS)⟩,?_⟩
   refine wg (xs:=ss.map V.int) (fun _=>true) (fun i=>.lst ((setL xs z (ss.getD i 0)).map V.int)) (by rw [List.length_map]; omega) (SqL.of (s2 _ _ hS)) ?_ ?_ ?_
   . intro i x H R hx s1 k1
     exact k1 _ (Same.refl _)
   . intro i x H3 Q3 hi hb s3 k3
     obtain ⟨t,ht,rfl⟩:=bh hi
     rw [kP ht] at k3
     show tCall _ _ _ _ [none,some (.int t),some (.int z),some (.ref f)] H3 Q3
     walk_at "w"
     exact ⟨f,xs,z,t,rfl,(s2.trans s3) _ _ ef,by omega,fun l H' s' hl el=>k3 l H' s' hl el⟩
   . intro m cs H3 hm s3 em nw
     rw [bp,List.length_map,zd (fun s=>HO.lst ((setL xs z s).map V.int))] at nw
     have nw2:NewAt H2 H3 m cs ((extS [xs] z ss).map fun ys=>.lst (ys.map V.int)):=by
      rw [ux,List.map_map]
      exact nw
     have hb:bs.length+cs.length<=1100:=by
      have l1:=x2.len
      rw [jP,List.length_take] at l1
      have l2:=nw.len
      rw [List.length_map] at l2
      have hi:=(List.getElem?_eq_some_iff.mp ex).1
      have e1:min i fss.length=i:=by omega
      rw [e1] at l1
      have:=Nat.mul_le_mul_right ss.length (show i+1<=fss.length by omega)
      rw [Nat.succ_mul] at this
      omega
     refine yp (s3 _ _ x2.top) em (by rw [List.length_map,List.length_map]; exact hb) ?_
     obtain ⟨z1,z2,z3⟩:=yr x2 nl s2 fr s3 nw2
     refine ⟨_,bs++cs,rfl,(s2.trans s3).own hl,?_,z2,z3⟩
     rw [nh ex,uw]
     exact z1
 . rintro σ H2 ⟨v,bs,rfl,s2,x2,nl,fr⟩
   walk_at "w"
   have e:fss.take (as.map V.ref).length=fss:=List.take_of_length_le (by rw [List.length_map,x.len]; exact Nat.le_refl _)
   rw [e] at x2
   exact q l bs H2 s2 hl x2
def wfold (masks:List Int) (rest:List Int) (fs:List (List Int)):List (List Int):=rest.foldl (fun fs o=>extS fs o (sgL (masks.getD o.toNat 0))) fs
def wfill (masks rest:List Int) (z s:Int):List (List Int):=wfold masks rest [setL (List.replicate masks.length 0) z s]
noncomputable def waysB (k:RK) (h w:Int) (cs:List Int) (n m:Int) (masks:List Int) (z s:Int) (ms:List Int):Bool:=
 decide (ms=[])&&(decide (prodW (sgAt masks (othL cs z))<=32)&&(decide (0∈sgAt masks (othL cs z))||!((wfill masks (othL cs z) z s).any fun f=>hoB k h w cs n m f)))
theorem ly (masks:List Int):∀ (rest:List Int) (fs:List (List Int)),(wfold masks rest fs).length=(sgAt masks rest).foldl (fun p m=>p*(sgL m).length) fs.length
 | [],_=>rfl
 | o::r,fs=>by
  unfold wfold sgAt
  rw [List.foldl_cons,List.map_cons,List.foldl_cons]
  have:=ly masks r (extS fs o (sgL (masks.getD o.toNat 0)))
  unfold wfold sgAt at this
  rw [this,jP]
theorem uy:∀ (ms:List Int) (n:Nat),(∀ m∈ms,1<=(sgL m).length)->n<=ms.foldl (fun p m=>p*(sgL m).length) n
 | [],_,_=>Nat.le_refl _
 | m::r,n,h=>by
  rw [List.foldl_cons]
  exact Nat.le_trans (Nat.le_mul_of_pos_right n (h m List.mem_cons_self)) (uy r _ fun x hx=>h x (List.mem_cons_of_mem _ hx))
theorem wE {ms:List Int} (i:Nat) (h:∀ m∈ms,1<=(sgL m).length):prodW (ms.take i)<=prodW ms:=by
 have e:prodW ms=(ms.drop i).foldl (fun p m=>p*(sgL m).length) (prodW (ms.take i)):=by
  unfold prodW
  rw [← List.foldl_append,List.take_append_drop]
 rw [e]
 exact uy _ _ fun x hx=>h x (List.mem_of_mem_drop hx)
theorem mn {n:Nat} {masks:List Int} (hm:∀ m∈masks,0<=m/\m<64):∀ (rest:List Int) (fs:List (List Int)),(∀ f∈fs,f.length=n/\∀ x∈f,0<=x/\x<=6)->∀ f∈wfold masks rest fs,f.length=n/\∀ x∈f,0<=x/\x<=6
 | [],_,h,f,hf=>h f hf
 | o::r,fs,h,f,hf=>by
  refine mn hm r (extS fs o (sgL (masks.getD o.toNat 0))) (fun g hg=>?_) f hf
  obtain ⟨a,ha,s,hs,rfl⟩:=mem_extS.mp hg
  have h1:=h a ha
  have hs6:1<=s/\s<=6:=by
   by_cases hlt:o.toNat<masks.length
   . have e:masks.getD o.toNat 0=masks[o.toNat]:=by rw [List.getD,List.getElem?_eq_getElem hlt]; rfl
     rw [e] at hs
     have hb:=hm _ (List.getElem_mem hlt)
     rw [(lY hb.1 hb.2).2] at hs
     obtain ⟨j,hj,rfl⟩:=List.mem_map.mp hs
     have:=(List.mem_filter.mp hj).1
     simp at this
     omega
   . have e:masks.getD o.toNat 0=0:=by rw [List.getD,List.getElem?_eq_none (by omega)]; rfl
     rw [e,yk] at hs
     cases hs
  exact ⟨by rw [oW]; exact h1.1,rf (by omega) hs6.2 h1.2⟩
def bW (K:Frag) (c:RCl RK):Sp:=fun vs H Q _=>∃ (k:RK) (r p A M:Addr) (ws:List (List Nat)) (cs masks ms:List Int) (n m z s h w g:Int),vs=[.ref r,.ref A,.int z,.int s,.ref M]/\IsRule H c k r p ws cs n m/\IsFl H p h w g/\FlOk h w g/\gn cs masks.length/\masks.length<=16/\(∀ m∈masks,0<=m/\m<64)/\1<=s/\s<=6/\H A=some (.lst (masks.map V.int))/\H M=some (.lst (ms.map V.int))/\∀ H',Same H H'->Q (.bl (waysB k h w cs n m masks z s ms)) H'
theorem qm {K:Frag} {c:RCl RK} {vs:List V} {H:Hp} {Q:VK} {E:XK} (h:bW K c vs H Q E):vs.length=5:=by
 obtain ⟨_,_,_,_,_,_,_,_,_,_,_,_,_,_,_,_,rfl,_⟩:=h; rfl
def fU (K:Frag) (c:RCl RK):TS:=
 (tSeq (tFor (iList K (tVar 7)) (gName 9)
  (tIfS (tB (be c c.ok "holds" (cF K c) (tVar 0) (tCons (tVar 9) tNil))) (tRet (tC (.bl false))) tNext))
  (tRet (tC (.bl true))))
def fV (K:Frag) (c:RCl RK):TS:=
 (tSeq (tAsg (tLst (tCons (tCall (bU K) [] E0 (tCons (tOp cRepL (tLst (tCons (tC (.int 0)) tNil)) (tCB kLen (tCons (tVar 1) tNil))) (tCons (tVar 2) (tCons (tVar 3) tNil)))) tNil)) (gName 7))
  (tSeq (tFor (iList K (tVar 5)) (gName 8)
  (tAsg (tCall (bB K) [] E0 (tCons (tVar 7) (tCons (tVar 8) (tCons (tCall (cr K) [] E0 (tCons (tOp cIx (tVar 1) (tVar 8)) tNil)) tNil)))) (gName 7)))
  (fU K c)))
def fM (K:Frag) (c:RCl RK):TS:=
 (tSeq (tAsg (tCall (iV K c) [] E0 (tCons (tVar 0) (tCons (tVar 2) tNil))) (gName 5))
  (tSeq (tAsg (tCall (ff K) [] E0 (tCons (tVar 1) (tCons (tVar 5) tNil))) (gName 6))
  (tSeq (tIfS (tOr (tTest (tOp (cNe K) (tVar 4) (tLst tNil))) (tTest (tOp (cCmp fun i j=>decide (j<i)) (tCall (kQ K) [] E0 (tCons (tVar 6) tNil)) (tC (.int 32))))) (tRet (tC (.bl false))) tNext)
  (tSeq (tIfS (tB (tCall (gu K) [] E0 (tCons (tVar 6) tNil))) (tRet (tC (.bl true))) tNext)
  (fV K c)))))
structure Wys (H:Hp) (c:RCl RK) (k:RK) (r p A:Addr) (ws:List (List Nat)) (cs masks:List Int) (n m h w g:Int):Prop where
 R:IsRule H c k r p ws cs n m
 fl:IsFl H p h w g
 F:FlOk h w g
 ci:gn cs masks.length
 ml:masks.length<=16
 mo:∀ m∈masks,0<=m/\m<64
 hA:H A=some (.lst (masks.map V.int))
theorem Wys.same {H H':Hp} {c:RCl RK} {k:RK} {r p A:Addr} {ws:List (List Nat)} {cs masks:List Int} {n m h w g:Int} (x:Wys H c k r p A ws cs masks n m h w g) (s:Same H H'):Wys H' c k r p A ws cs masks n m h w g:=⟨x.R.same s,s _ _ x.fl,x.F,x.ci,x.ml,x.mo,s _ _ x.hA⟩
theorem wF {K:Frag} {c:RCl RK} {H:Hp} {Q:VK} {k:RK} {r p A F:Addr} {ws:List (List Nat)} {cs masks:List Int} {n m h w g:Int} {v2 v3 v4 v5 v6 v8:Option V} {bs:List Addr} {fss:List (List Int)} (X:Wys H c k r p A ws cs masks n m h w g) (x:IsLL H F bs fss) (hf:∀ f∈fss,f.length=masks.length/\∀ x∈f,0<=x/\x<=6)
  (q:∀ H',Same H H'->Q (.bl (!(fss.any fun f=>hoB k h w cs n m f))) H'):
  fU K c { nx:=fun _ H'=>Q .non H',rt:=Q } [some (.ref r),some (.ref A),v2,v3,v4,v5,v6,some (.ref F),v8,none] H:=by
 obtain ⟨dx,W,C,h1,h2,h3⟩:=X.R.ex
 have hxl:=x.len
 unfold fU
 walk_at "w"
 refine ⟨⟨_,SqL.of x.top⟩,?_⟩
 refine c8 (K:=K) (xs:=bs.map V.ref) (fun i σ H'=>∃ v9:Option V,σ=[some (.ref r),some (.ref A),v2,v3,v4,v5,v6,some (.ref F),v8,v9]/\Same H H'/\((fss.take i).any fun f=>hoB k h w cs n m f)=false) ⟨none,rfl,Same.refl _,rfl⟩ (fun i σ H' _ ⟨_,_,s,_⟩=>s.seq (SqL.of x.top)) ?_ ?_
 . rintro i y σ H1 hy ⟨v9,rfl,s1,hno⟩
   obtain ⟨b,hb,rfl⟩:=fb hy
   obtain ⟨f,ef,eb⟩:=x.get hb
   have hfm:=List.mem_of_getElem? ef
   obtain ⟨hfl,hfx⟩:=hf f hfm
   have X1:=X.same s1
   walk_at "w"
   rw [aI]
   walk_at "w"
   refine methE (k:=k) rfl X.R.ok (s1 _ _ h1) (by rfl) ?_
   walk_at "w"
   refine ⟨r,p,b,ws,cs,f,n,m,h,w,g,rfl,X1.R,X1.fl,X1.F,s1 _ _ eb,by rw [hfl]; exact X1.ci,fun y hy=>by have:=hfx y hy; omega,fun H2 s2=>?_⟩
   refine ⟨_,rfl,?_⟩
   cases hh:hoB k h w cs n m f with
   | true=>
    refine iteT ?_
    have e:(fss.any fun f=>hoB k h w cs n m f)=true:=List.any_eq_true.mpr ⟨f,hfm,hh⟩
    have q1:=q _ (s1.trans s2)
    rw [e] at q1
    exact q1
   | false=>
    refine iteF ⟨_,rfl,s1.trans s2,?_⟩
    rw [nh ef,List.any_append,hno,Bool.false_or]
    simpa using hh
 . rintro σ H1 ⟨v9,rfl,s1,hno⟩
   rw [List.take_of_length_le (by rw [List.length_map,hxl]; exact Nat.le_refl _)] at hno
   walk_at "w"
   rw [hno] at q
   exact q _ s1
theorem wG {K:Frag} {c:RCl RK} {H:Hp} {Q:VK} {k:RK} {r p A R:Addr} {ws:List (List Nat)} {cs masks:List Int} {n m z s h w g:Int} {v4 v6:Option V} (X:Wys H c k r p A ws cs masks n m h w g) (hR:H R=some (.lst ((othL cs z).map V.int))) (s0:1<=s) (s6:s<=6) (hw:prodW (sgAt masks (othL cs z))<=32) (h0:0∉sgAt masks (othL cs z))
  (q:∀ H',Same H H'->Q (.bl (!((wfill masks (othL cs z) z s).any fun f=>hoB k h w cs n m f))) H'):
  fV K c { nx:=fun _ H'=>Q .non H',rt:=Q } [some (.ref r),some (.ref A),some (.int z),some (.int s),v4,some (.ref R),v6,none,none,none] H:=by
 have hml:=X.ml
 unfold fV
 walk_at "w"
 refine ⟨aB (by show (1:Nat)<=1000; decide),fun Z hZ=>?_⟩
 have s1:Same H (upd H Z (.lst [V.int 0])):=(Same.refl H).laid hZ
 have eZ:(upd H Z (.lst [V.int 0])) Z=some (.lst [V.int 0]):=ae
 generalize upd H Z (.lst [V.int 0])=H1 at*
 rw [bc (s1 _ _ X.hA),List.length_map]
 refine xP eZ (by omega) (by omega) (by show (1:Nat)<=1; decide) fun N hN=>?_
 have s2:Same H1 (upd H1 N (.lst (List.replicate ((masks.length:Nat):Int).toNat [V.int 0]).flatten)):=(Same.refl H1).laid hN
 have eN:(upd H1 N (.lst (List.replicate ((masks.length:Nat):Int).toNat [V.int 0]).flatten)) N=some (.lst ((List.replicate masks.length (0:Int)).map V.int)):=by
  rw [ae,List.map_replicate]
  simp
 generalize upd H1 N (.lst (List.replicate ((masks.length:Nat):Int).toNat [V.int 0]).flatten)=H2 at*
 have s12:=s1.trans s2
 refine ⟨N,_,z,s,rfl,eN,by simp; omega,fun b H3 s3 hb eb=>?_⟩
 have s13:=s12.trans s3
 walk_at "w"
 refine ⟨aB (by show (1:Nat)<=1000; decide),fun F hF=>?_⟩
 have s4:Same H3 (upd H3 F (.lst [V.ref b])):=(Same.refl H3).laid hF
 have xF:IsLL (upd H3 F (.lst [V.ref b])) F [b] [setL (List.replicate masks.length 0) z s]:=by
  refine ⟨ae,rfl,fun j a xs e1 e2=>?_⟩
  have hj:j=0:=by have:=(List.getElem?_eq_some_iff.mp e1).1; simp at this; omega
  subst hj
  cases e1
  cases e2
  exact s4 _ _ eb
 generalize upd H3 F (.lst [V.ref b])=H4 at*
 have s14:=s13.trans s4
 have base:∀ f∈([setL (List.replicate masks.length 0) z s]:List (List Int)),f.length=masks.length/\∀ x∈f,0<=x/\x<=6:=fun f hf=>by
  rw [List.mem_singleton.mp hf]
  exact ⟨by rw [oW]; simp,rf (by omega) s6 fun x hx=>by rw [(List.mem_replicate.mp hx).2]; omega⟩
 have pos:∀ mm∈sgAt masks (othL cs z),1<=(sgL mm).length:=fun mm hm=>by
  have hne:mm≠0:=fun e=>h0 (e ▸ hm)
  unfold sgAt at hm
  obtain ⟨o,ho,rfl⟩:=List.mem_map.mp hm
  have hoc:o∈cs:=(List.mem_filter.mp ho).1
  have hi:=X.ci.2 o hoc
  have hlt:o.toNat<masks.length:=by omega
  have e:masks.getD o.toNat 0=masks[o.toNat]:=by rw [List.getD,List.getElem?_eq_getElem hlt]; rfl
  rw [e] at hne ⊢
  have hb:=X.mo _ (List.getElem_mem hlt)
  exact (zC hb.1 hb.2 hne).1.1
 refine ⟨⟨_,SqL.of (s14 _ _ hR)⟩,?_⟩
 refine c8 (K:=K) (xs:=(othL cs z).map V.int) (fun i σ H'=>∃ (F:Addr) (bs:List Addr) (v8:Option V),σ=[some (.ref r),some (.ref A),some (.int z),some (.int s),v4,some (.ref R),v6,some (.ref F),v8,none]/\Same H H'/\IsLL H' F bs (wfold masks ((othL cs z).take i) [setL (List.replicate masks.length 0) z s])) ⟨F,[b],none,rfl,s14,xF⟩ (fun i σ H' _ ⟨_,_,_,_,s,_⟩=>s.seq (SqL.of hR)) ?_ ?_
 . rintro i y σ H5 hy ⟨F,bs,v8,rfl,s5,x5⟩
   obtain ⟨o,ho,rfl⟩:=bh hy
   have hom:=List.mem_of_getElem? ho
   have hoc:o∈cs:=(List.mem_filter.mp hom).1
   have hi:=X.ci.2 o hoc
   have hlt:o.toNat<masks.length:=by omega
   have e:masks.getD o.toNat 0=masks[o.toNat]:=by rw [List.getD,List.getElem?_eq_getElem hlt]; rfl
   have hb:=X.mo _ (List.getElem_mem hlt)
   have sb:=lY hb.1 hb.2
   walk_at "w"
   refine ixI (s5 _ _ X.hA) (by omega) (by omega) ?_
   walk_at "w"
   rw [e]
   refine ⟨_,rfl,by omega,fun S H6 s6' hS eS=>?_⟩
   walk_at "w"
   have hsl:(sgL masks[o.toNat]).length<=6:=Nat.le_trans (vO _) sb.1
   refine ⟨F,S,bs,_,o,_,rfl,x5.same s6',eS,?_,by omega,fun f hf=>by have:=(mn X.mo _ _ base f hf).1; omega,fun l cs2 H7 s7 hl x7=>?_⟩
   . rw [ly]
     have h1:=wE i pos
     have e2:(sgAt masks ((othL cs z).take i)).foldl (fun p m=>p*(sgL m).length) ([setL (List.replicate masks.length 0) z s]:List (List Int)).length=prodW ((sgAt masks (othL cs z)).take i):=by
      unfold prodW sgAt
      rw [List.map_take]; rfl
     rw [e2]
     have h3:prodW ((sgAt masks (othL cs z)).take i)*(sgL masks[o.toNat]).length<=32*6:=Nat.mul_le_mul (by omega) hsl
     omega
   . refine ⟨l,cs2,_,rfl,(s5.trans s6').trans s7,?_⟩
     have e3:wfold masks ((othL cs z).take (i+1)) [setL (List.replicate masks.length 0) z s]=extS (wfold masks ((othL cs z).take i) [setL (List.replicate masks.length 0) z s]) o (sgL masks[o.toNat]):=by
      unfold wfold
      rw [ql _ _ ho,e]
     rw [e3]
     exact x7
 . rintro σ H5 ⟨F,bs,v8,rfl,s5,x5⟩
   rw [List.take_of_length_le (by rw [List.length_map]; exact Nat.le_refl _)] at x5
   exact wF (X.same s5) x5 (mn X.mo _ _ base) fun H' s'=>q H' (s5.trans s')
theorem qo {K:Frag} {c:RCl RK} {vs:List V} {H:Hp} {Q:VK} {E:XK} (h:bW K c vs H Q E):fM K c { nx:=fun _ H'=>Q .non H',rt:=Q } (start ["rule","masks","cell","sign","more","rest","some","fillings","other","filling"] vs) H:=by
 obtain ⟨k,r,p,A,M,ws,cs,masks,ms,n,m,z,s,h,w,g,rfl,hR,hp,F,ci,ml,mk,s0,s6,hA,hM,q⟩:=h
 have X:Wys H c k r p A ws cs masks n m h w g:=⟨hR,hp,F,ci,ml,mk,hA⟩
 have hcl:cs.length<=63:=by have:=ci.1; omega
 show fM K c _ [some (.ref r),some (.ref A),some (.int z),some (.int s),some (.ref M),none,none,none,none,none] H
 unfold fM
 walk_at "w"
 refine ⟨k,r,p,ws,cs,n,m,z,rfl,hR,hcl,fun R H1 s1 hR1 eR=>?_⟩
 have eR2:H1 R=some (.lst ((othL cs z).map V.int)):=eR
 walk_at "w"
 refine ⟨A,R,masks,othL cs z,rfl,s1 _ _ hA,eR2,⟨Nat.le_trans (List.length_filter_le _ _) ci.1,fun x hx=>ci.2 x (List.mem_filter.mp hx).1⟩,fun S H2 s2 hS eS=>?_⟩
 have s12:=s1.trans s2
 dsimp only
 rw [aI]
 walk_at "w"
 refine ⟨aB (by show (0:Nat)<=1000; decide),fun e he=>?_⟩
 have s3:Same H2 (upd H2 e (.lst [])):=(Same.refl H2).laid he
 have ee:(upd H2 e (.lst [])) e=some (.lst (([]:List Int).map V.int)):=ae
 generalize upd H2 e (.lst [])=H3 at*
 have s13:=s12.trans s3
 refine tm (s13 _ _ hM) ee ?_
 refine ⟨_,rfl,?_⟩
 unfold waysB at q
 by_cases hm:ms=[]
 . rw [decide_eq_true hm] at q ⊢
   rw [Bool.true_and] at q
   refine iteF ?_
   walk_at "w"
   refine ⟨S,_,rfl,s3 _ _ eS,fun x hx=>?_,fun H4 s4=>?_⟩
   . unfold sgAt at hx
     obtain ⟨o,ho,rfl⟩:=List.mem_map.mp hx
     have hi:=ci.2 o (List.mem_filter.mp ho).1
     have hlt:o.toNat<masks.length:=by omega
     have e:masks.getD o.toNat 0=masks[o.toNat]:=by rw [List.getD,List.getElem?_eq_getElem hlt]; rfl
     rw [e]
     have hb:=mk _ (List.getElem_mem hlt)
     have:=(lY hb.1 hb.2).1
     omega
   . have s14:=s13.trans s4
     walk_at "w"
     by_cases hw:prodW (sgAt masks (othL cs z))<=32
     . rw [decide_eq_true hw,Bool.true_and] at q
       rw [decide_eq_false (by omega)]
       refine iteF ?_
       rw [aI]
       walk_at "w"
       refine ⟨S,_,rfl,(s3.trans s4) _ _ eS,?_⟩
       refine ⟨_,rfl,?_⟩
       by_cases h0:0∈sgAt masks (othL cs z)
       . rw [decide_eq_true h0] at q ⊢
         rw [Bool.true_or] at q
         exact iteT (q _ s14)
       . rw [decide_eq_false h0] at q ⊢
         rw [Bool.false_or] at q
         refine iteF ?_
         exact wG (X.same s14) (((s2.trans s3).trans s4) _ _ eR2) s0 s6 hw h0 fun H' s'=>q H' (s14.trans s')
     . rw [decide_eq_false hw,Bool.false_and] at q
       rw [decide_eq_true (by omega)]
       exact iteT (q _ s14)
 . rw [decide_eq_false hm,Bool.false_and] at q
   rw [decide_eq_false hm]
   exact iteT (q _ s13)
def ip (at_:Int) (x o:RR):List RR:=if at_=0 then [x,o] else [o,x]
theorem dX {k:RK} {h w g:Int} {n m:Nat} {ns:List Nat} (F:FlOk h w g) (ne:ns≠[]) (lt:∀ c∈ns,(c:Int)<h*w) (nd:ns.Nodup) (len:ns.length<=16) (hk:allK k=false) (k0:k≠.Rule) (n0:n<=99) (nz:numK k=false->n=0) (m0:sgnK k=true->1<=(m:Int)/\(m:Int)<=g) (mz:sgnK k=false->m=0):
  RR.Ok ⟨k,n,m,ns,ns.map fun (n:Nat)=>(n:Int)⟩ h w g:=by
 have m16:=F.m
 refine ⟨k0,n0,nz,m0,mz,⟨fun _=>⟨ne,len,lt,nd,rfl⟩,fun e=>?_⟩,fun x hx=>?_,len⟩
 . rw [show allK k=false from hk] at e; cases e
 . have:=lt x hx
   omega
theorem BN {h w g:Int} (F:FlOk h w g):∀ c∈[0],((c:Nat):Int)<h*w:=fun c hc=>by
 obtain ⟨h0,h1,w0,w1,m16,g0,g1⟩:=F
 have mpos:1<=h*w:=Int.le_trans (by omega) (Int.mul_le_mul h0 w0 (by omega) (by omega))
 rw [List.mem_singleton.mp hc]; show (0:Int)<h*w; omega
def dTh (t:TK) (r z s:Int) (ms:List Int):PyData:=.tuple [.str (tx (tkC t)),.int r,.int z,.int s,.list (ms.map PyData.int)]
theorem Be (t:TK) (r z s:Int) (ms:List Int):PyData.eqv (dTh t r z s ms) (dTh t r z s ms)=true:=by
 unfold dTh
 rw [PyData.eqv,PyData.eqvAll,PyData.eqvAll,PyData.eqvAll,PyData.eqvAll,PyData.eqvAll,PyData.eqvAll,sy,qY,qY,qY,PyData.eqv]
 simp
theorem yt (t:TK) (r z s:Int) (ms:List Int):SeqAt.shaped (dTh t r z s ms)=true:=by
 have a1:PyData.strOk (tx (tkC t))=true:=zB (by cases t <;> decide)
 unfold dTh
 simp [SeqAt.shaped,PyData.canLay0,PyData.canLayAll0,a1,oE,PyData.depth,PyData.depthAll,l5]
theorem zD {K:Frag} {H:Hp} {T M:Addr} {t:TK} {r z s:Int} {ms:List Int} (x:IsTh H T M t r z s ms):DV K H (.ref T) (dTh t r z s ms):=
 .tup (SqT.of x.T) (.cons (.str _) (.cons (.int _) (.cons (.int _) (.cons (.int _) (.cons (.lst (SqL.of x.M) (.ints ms)) .nil)))))
theorem Bf {K:Frag} {H:Hp} {Q:VK} {T M T2 M2:Addr} {t:TK} {r z s:Int} {ms:List Int} (x:IsTh H T M t r z s ms) (y:IsTh H T2 M2 t r z s ms) (q:Q (.bl false) H):cNe K (.ref T) (.ref T2) H Q:=
 zb (zD x) (zD y) (yt t r z s ms) (Be t r z s ms) q
noncomputable def yu (h w:Int) (x:RR) (masks:List Int) (t:TK) (z s:Int) (ms:List Int):Bool:=match t with
 | .count=>cntB x.cs x.n x.m masks z s ms
 | .sum=>sumB x.cs x.n masks z s ms
 | .step=>stepB x.cs masks z s ms
 | _=>waysB x.k h w x.cs x.n x.m masks z s ms
noncomputable def qp (h w:Int) (rows:List RR) (masks:List Int) (t:TK) (r z s:Int) (ms:List Int):Bool:=match rows[r.toNat]? with
  | none=>false
  | some x=>yu h w x masks t z s ms
noncomputable def lZ (h w g:Int) (rows:List RR) (masks:List Int) (t:TK) (r z s:Int) (ms:List Int):Bool:=formB h w g rows t r z s&&qp h w rows masks t r z s ms
def iB (ns:List Int) (k:Int):Int:=if k < (ns.length:Int) then ns.getD k.toNat 0 else 0
def aN (K:Frag):Sp:=fun vs H Q _=>∃ (a:Addr) (ns:List Int) (k:Int),vs=[.ref a,.int k]/\SqL K H a (ns.map V.int)/\ns.length<=63/\0<=k/\k<=1000/\Q (.int (iB ns k)) H
theorem uz {K:Frag} {vs:List V} {H:Hp} {Q:VK} {E:XK} (h:aN K vs H Q E):vs.length=2:=by
 obtain ⟨_,_,_,rfl,_⟩:=h; rfl
def jq (K:Frag):TS:=
 (tSeq (tIfS (tTest (tOp (cCmp fun i j=>decide (i<j)) (tVar 1) (tCB (kLenS K) (tCons (tVar 0) tNil)))) (tRet (tOp (rIxL K) (tVar 0) (tVar 1))) tNext)
  (tRet (tC (.int 0))))
theorem uA {K:Frag} {vs:List V} {H:Hp} {Q:VK} {E:XK} (h:aN K vs H Q E):jq K { nx:=fun _ H'=>Q .non H',rt:=Q } (start ["_law_script","_law_k"] vs) H:=by
 obtain ⟨a,ns,k,rfl,hS,hn,k0,k1,q⟩:=h
 show jq K _ [some (.ref a),some (.int k)] H
 unfold jq
 rw [aL,aI]
 walk_at "w"
 refine ⟨a,_,rfl,.inl hS,?_⟩
 walk_at "w"
 rw [List.length_map]
 unfold iB at q
 by_cases hk:k < (ns.length:Int)
 . rw [if_pos hk] at q
   rw [if_pos (decide_eq_true hk)]
   exact ⟨a,_,k,_,rfl,rfl,hS,oH k0 hk,q⟩
 . rw [if_neg hk] at q
   rw [if_neg (by simpa using hk)]
   walk_at "w"
   exact q
def wH:List (Int × Int)->(St->Hp->(List V->Hp->Prop)->Prop)
 | []=>tNil
 | p::r=>tCons (tTup (tCons (tC (.int p.1)) (tCons (tC (.int p.2)) tNil))) (wH r)
theorem uB {σ:St}:∀ (ps:List (Int × Int)) (H:Hp) (Q:List V->Hp->Prop),(∀ (as:List Addr) (H':Hp),Same H H'->as.length=ps.length->(∀ (j:Nat) (a:Addr) (p:Int × Int),as[j]? =some a->ps[j]? =some p->H' a=some (.tup [.int p.1,.int p.2]))->Q (as.map V.ref) H')->wH ps σ H Q
 | [],H,Q,h=>h [] H (Same.refl H) rfl fun j a p e _=>by simp at e
 | p::r,H,Q,h=>by
  unfold wH
  walk_at "w"
  refine ⟨aB (by show (2:Nat)<=1000; decide),fun t ht=>?_⟩
  have s1:Same H (upd H t (.tup [V.int p.1,V.int p.2])):=(Same.refl H).laid ht
  have et:(upd H t (.tup [V.int p.1,V.int p.2])) t=some (.tup [V.int p.1,V.int p.2]):=ae
  generalize upd H t (.tup [V.int p.1,V.int p.2])=H1 at*
  refine uB r H1 _ fun as H2 s2 hl ha=>?_
  refine h (t::as) H2 (s1.trans s2) (by simp [hl]) fun j a q e1 e2=>?_
  match j,e1,e2 with
  | 0,e1,e2=>
   simp at e1 e2
   subst e1 e2
   exact s2 _ _ et
  | j+1,e1,e2=>exact ha j a q (by simpa using e1) (by simpa using e2)
end L2
namespace L2
open PySem PySem.Spec PyProof.Rows
section
variable {P:Program} {w:World} {K:Frag} {mg:Str->Option Value} {base:Heap} {k:Nat} {x qual y:Str} {st:Stmt} {f:Addr} {fd:FuncData} {sp:Sp}
theorem qq {a0:Str} (F:Fun K x qual st f fd) (h:∀ (kV doc pm:Value) (an:Option Addr) (cdv ct u0:Value),bindArgs (PySem.W.fnOf x qual (bA st) (bt st) (ah st) .none kV doc pm an cdv ct) ⟨[u0],[]⟩=pure (([a0]:List Str).zip [u0]):=by intros; rfl):Binds K fd [a0] []:=F.binds fun _ _ _ _ _ _ us hl=>match us,hl with | [u0],_=>h _ _ _ _ _ _ _
theorem lC {a0:Str} (T:FnOk P w K mg base CX0 k f fd [a0] sp) (F:Fun K x qual st f fd) (hm:mg y=some (.ref f)) (h:∀ (kV doc pm:Value) (an:Option Addr) (cdv ct u0:Value),bindArgs (PySem.W.fnOf x qual (bA st) (bt st) (ah st) .none kV doc pm an cdv ct) ⟨[u0],[]⟩=pure (([a0]:List Str).zip [u0]):=by intros; rfl):Cal P w K mg base k y [a0] sp:=⟨f,fd,T,hm,F.kp,qq F h⟩
theorem iq {a0 a1:Str} (F:Fun K x qual st f fd) (h:∀ (kV doc pm:Value) (an:Option Addr) (cdv ct u0 u1:Value),bindArgs (PySem.W.fnOf x qual (bA st) (bt st) (ah st) .none kV doc pm an cdv ct) ⟨[u0,u1],[]⟩=pure (([a0,a1]:List Str).zip [u0,u1]):=by intros; rfl):Binds K fd [a0,a1] []:=F.binds fun _ _ _ _ _ _ us hl=>match us,hl with | [u0,u1],_=>h _ _ _ _ _ _ _ _
theorem cH {a0 a1:Str} (T:FnOk P w K mg base CX0 k f fd [a0,a1] sp) (F:Fun K x qual st f fd) (hm:mg y=some (.ref f)) (h:∀ (kV doc pm:Value) (an:Option Addr) (cdv ct u0 u1:Value),bindArgs (PySem.W.fnOf x qual (bA st) (bt st) (ah st) .none kV doc pm an cdv ct) ⟨[u0,u1],[]⟩=pure (([a0,a1]:List Str).zip [u0,u1]):=by intros; rfl):Cal P w K mg base k y [a0,a1] sp:=⟨f,fd,T,hm,F.kp,iq F h⟩
theorem zE {a0 a1 a2:Str} (F:Fun K x qual st f fd) (h:∀ (kV doc pm:Value) (an:Option Addr) (cdv ct u0 u1 u2:Value),bindArgs (PySem.W.fnOf x qual (bA st) (bt st) (ah st) .none kV doc pm an cdv ct) ⟨[u0,u1,u2],[]⟩=pure (([a0,a1,a2]:List Str).zip [u0,u1,u2]):=by intros; rfl):Binds K fd [a0,a1,a2] []:=F.binds fun _ _ _ _ _ _ us hl=>match us,hl with | [u0,u1,u2],_=>h _ _ _ _ _ _ _ _ _
theorem jQ {a0 a1 a2:Str} (T:FnOk P w K mg base CX0 k f fd [a0,a1,a2] sp) (F:Fun K x qual st f fd) (hm:mg y=some (.ref f)) (h:∀ (kV doc pm:Value) (an:Option Addr) (cdv ct u0 u1 u2:Value),bindArgs (PySem.W.fnOf x qual (bA st) (bt st) (ah st) .none kV doc pm an cdv ct) ⟨[u0,u1,u2],[]⟩=pure (([a0,a1,a2]:List Str).zip [u0,u1,u2]):=by intros; rfl):Cal P w K mg base k y [a0,a1,a2] sp:=⟨f,fd,T,hm,F.kp,zE F h⟩
theorem zF {a0 a1 a2 a3:Str} (F:Fun K x qual st f fd) (h:∀ (kV doc pm:Value) (an:Option Addr) (cdv ct u0 u1 u2 u3:Value),bindArgs (PySem.W.fnOf x qual (bA st) (bt st) (ah st) .none kV doc pm an cdv ct) ⟨[u0,u1,u2,u3],[]⟩=pure (([a0,a1,a2,a3]:List Str).zip [u0,u1,u2,u3]):=by intros; rfl):Binds K fd [a0,a1,a2,a3] []:=F.binds fun _ _ _ _ _ _ us hl=>match us,hl with | [u0,u1,u2,u3],_=>h _ _ _ _ _ _ _ _ _ _
theorem ze {a0 a1 a2 a3:Str} (T:FnOk P w K mg base CX0 k f fd [a0,a1,a2,a3] sp) (F:Fun K x qual st f fd) (hm:mg y=some (.ref f)) (h:∀ (kV doc pm:Value) (an:Option Addr) (cdv ct u0 u1 u2 u3:Value),bindArgs (PySem.W.fnOf x qual (bA st) (bt st) (ah st) .none kV doc pm an cdv ct) ⟨[u0,u1,u2,u3],[]⟩=pure (([a0,a1,a2,a3]:List Str).zip [u0,u1,u2,u3]):=by intros; rfl):Cal P w K mg base k y [a0,a1,a2,a3] sp:=⟨f,fd,T,hm,F.kp,zF F h⟩
theorem BE {a0 a1 a2 a3 a4:Str} (F:Fun K x qual st f fd) (h:∀ (kV doc pm:Value) (an:Option Addr) (cdv ct u0 u1 u2 u3 u4:Value),bindArgs (PySem.W.fnOf x qual (bA st) (bt st) (ah st) .none kV doc pm an cdv ct) ⟨[u0,u1,u2,u3,u4],[]⟩=pure (([a0,a1,a2,a3,a4]:List Str).zip [u0,u1,u2,u3,u4]):=by intros; rfl):Binds K fd [a0,a1,a2,a3,a4] []:=F.binds fun _ _ _ _ _ _ us hl=>match us,hl with | [u0,u1,u2,u3,u4],_=>h _ _ _ _ _ _ _ _ _ _ _
theorem zf {a0 a1 a2 a3 a4:Str} (T:FnOk P w K mg base CX0 k f fd [a0,a1,a2,a3,a4] sp) (F:Fun K x qual st f fd) (hm:mg y=some (.ref f)) (h:∀ (kV doc pm:Value) (an:Option Addr) (cdv ct u0 u1 u2 u3 u4:Value),bindArgs (PySem.W.fnOf x qual (bA st) (bt st) (ah st) .none kV doc pm an cdv ct) ⟨[u0,u1,u2,u3,u4],[]⟩=pure (([a0,a1,a2,a3,a4]:List Str).zip [u0,u1,u2,u3,u4]):=by intros; rfl):Cal P w K mg base k y [a0,a1,a2,a3,a4] sp:=⟨f,fd,T,hm,F.kp,BE F h⟩
theorem BF {a0 a1 a2 a3 a4 a5:Str} (F:Fun K x qual st f fd) (h:∀ (kV doc pm:Value) (an:Option Addr) (cdv ct u0 u1 u2 u3 u4 u5:Value),bindArgs (PySem.W.fnOf x qual (bA st) (bt st) (ah st) .none kV doc pm an cdv ct) ⟨[u0,u1,u2,u3,u4,u5],[]⟩=pure (([a0,a1,a2,a3,a4,a5]:List Str).zip [u0,u1,u2,u3,u4,u5]):=by intros; rfl):Binds K fd [a0,a1,a2,a3,a4,a5] []:=F.binds fun _ _ _ _ _ _ us hl=>match us,hl with | [u0,u1,u2,u3,u4,u5],_=>h _ _ _ _ _ _ _ _ _ _ _ _
end
end L2
namespace L2
open PySem PySem.Spec PyProof.Rows
section
variable {X:Cx}
def rg:V->List V->Hp->VK->Prop:=fun x vs H Q=>∃ (l:Addr) (i:Int) (xs:List Int),x=.ref l/\vs=[.int i]/\H l=some (.lst (xs.map V.int))/\i∈xs/\Q .non (upd H l (.lst ((xs.erase i).map V.int)))
def eqI (i:Int):Value->Bool
 | .int a _=>a==i
 | _=>false
theorem wI:MtR X "list.remove" rg:=by
 intro pins s σ H x vs v us Q I rx rv h
 obtain ⟨l,i,xs,rfl,rfl,hH,hi,q⟩:=h
 cases rx
 obtain ⟨u,rfl,ru⟩:=rv.one
 obtain ⟨t,rfl⟩:=ru
 obtain ⟨z,its,n,r,hl,e⟩:=I.lstM hH
 have at_:∀ (m:Nat) (a:Int),xs[m]? =some a->∃ tk,its[m]? =some (Value.int a tk):=fun m a ha=>by
  obtain ⟨w,hw,rw'⟩:=r.get (i:=m) (x:=V.int a) (by rw [List.getElem?_map,ha]; rfl)
  obtain ⟨tk,rfl⟩:=rw'
  exact ⟨tk,hw⟩
 have len:its.length=xs.length:=by rw [← hl,List.length_map]
 have hj:xs.idxOf i<xs.length:=List.idxOf_lt_length_iff.mpr hi
 have get_:∀ (m:Nat) (hm:m<its.toArray.size),∃ tk,its.toArray[m]=Value.int (xs[m]'(by rw [List.size_toArray] at hm; omega)) tk:=fun m hm=>by
  have hm':m<xs.length:=by rw [List.size_toArray] at hm; omega
  obtain ⟨tk,h2⟩:=at_ m xs[m] (List.getElem?_eq_getElem hm')
  refine ⟨tk,?_⟩
  rw [List.getElem?_eq_getElem (by omega)] at h2
  simpa using h2
 refine call_meets F.slot_list_remove ⟨_,e,rfl⟩ F.entry_list_remove (F.args_list_remove_2 _ _)
  (MeetsSeq.list_remove l its.toArray n (.int i t) (eqI i) (fun y hy=>?_) (xs.idxOf i) (by rw [List.size_toArray]; omega) ?_ ?_ (by rw [List.size_toArray]; omega)) ⟨e,?_⟩
 . obtain ⟨m,hm,rfl⟩:=Array.mem_iff_getElem.mp hy
   obtain ⟨tk,h2⟩:=get_ m hm
   rw [h2]
   exact MeetsSeq.EqGives.int _ _ _ _
 . obtain ⟨tk,h2⟩:=get_ (xs.idxOf i) (by rw [List.size_toArray]; omega)
   rw [h2]
   show (xs[xs.idxOf i]==i)=true
   rw [List.getElem_idxOf]
   exact beq_self_eq_true i
 . intro m hm hlt
   obtain ⟨tk,h2⟩:=get_ m hm
   rw [h2]
   show (xs[m]'_==i)=false
   exact List.not_of_lt_findIdx (p:=(· ==i)) hlt |> fun h=>by simpa using h
 . refine ⟨.non,_,I.lset (its':=its.eraseIdx (xs.idxOf i)) hH e ?_ ?_ ?_,rfl,q⟩
   . show its.toArray.eraseIdxIfInBounds _=_
     rw [List.eraseIdxIfInBounds_toArray]
   . have em:∀ (ls:List Int) (j:Nat),(ls.eraseIdx j).map V.int=(ls.map V.int).eraseIdx j:=fun ls=>by
      induction ls with
      | nil=>intro j; rfl
      | cons a r ih=>intro j; cases j with
       | zero=>rfl
       | succ j=>simp [List.eraseIdx,ih]
     rw [List.erase_eq_eraseIdx_of_idxOf (i:=xs.idxOf i) rfl,em]
     exact r.eraseIdx _
   . rw [List.length_map]
     have:=List.length_erase_le (l:=xs) (a:=i)
     rw [List.length_map] at z
     omega
theorem zg {l:Addr} {i:Int} {xs:List Int} {H:Hp} {Q:VK} (hl:H l=some (.lst (xs.map V.int))) (hi:i∈xs) (q:Q .non (upd H l (.lst ((xs.erase i).map V.int)))):rg (.ref l) [.int i] H Q:=⟨l,i,xs,rfl,rfl,hl,hi,q⟩
end
end L2
namespace L2
open PySem PySem.Spec PyProof.Rows
local macro_rules | `(tactic| walk_at "w")=>`(tactic| (first | simp only [aL,kh,lp,fS,ki,iS,iT,lq,li,kf,lj,if_true,if_false,Bool.false_eq_true,decide_true,decide_false,gj,gk,kE,dG,cZ,gh,i7,gi,dF,iZ,i6,dE,kB,dH,dI,dL,dM,dN,dO,dJ,i9,ja,jb,iY,kD,Bool.not_true,Bool.not_false,dj,fu,bo,gd,w_c,jK,dD,ei,dk,eE,w_b,w_not,gM,kl,eF,eI,gN,gf,dl,km,eJ,gO,gg,jL,gP,eK,eM,eP,eQ,cM,cN,cy,b9,cb,bF,gQ,gR,gS,gU,gW,gX,gY,gZ,g7,g8,g9,hV,kn,eV,ce,eW,ko,eX,cO,cf,hX,h9,e7,e8,e9,
 List.getElem?_cons_zero,List.getElem?_cons_succ,Option.some.injEq,exists_eq_left',exists_eq_left,List.set_cons_zero,List.set_cons_succ,bK,V.int.injEq,V.bl.injEq,V.ref.injEq,V.str.injEq,List.append_nil,List.nil_append,List.cons_append] | dsimp only | skip))
def aX (K:Frag) (c:RCl RK) (d:RCl PzK):Sp:=fun vs H Q _=>∃ (P L G A T M:Addr) (h w g:Int) (rows:List RR) (cl masks:List Int) (r z s:Int) (ms:List Int),vs=[.ref P,.ref A,.ref T]/\Asks H c d P L G A T M h w g rows cl masks .ways r z s ms/\(∀ m∈masks,0<=m/\m<64)/\formB h w g rows .ways r z s=true/\∀ H',Same H H'->Q (.bl (qp h w rows masks .ways r z s ms)) H'
theorem gJ {K:Frag} {c:RCl RK} {d:RCl PzK} {vs:List V} {H:Hp} {Q:VK} {E:XK} (h:aX K c d vs H Q E):vs.length=3:=by
 obtain ⟨_,_,_,_,_,_,_,_,_,_,_,_,_,_,_,_,rfl,_⟩:=h; rfl
def bT (K:Frag) (c:RCl RK) (d:RCl PzK):TS:=
 (tSeq (tAsg (tOp cIx (be d d.ok "rules" (jO K c d) (tVar 0) tNil) (tOp cIx (tVar 2) (tC (.int 1)))) (gName 3))
  (tSeq (tIfS (tTest (tOp (cEq K) (tOp cIx (tVar 2) (tC (.int 0))) (tC (.str (tx [99,111,117,110,116]))))) (tRet lX) tNext)
  (tSeq (tIfS (tTest (tOp (cEq K) (tOp cIx (tVar 2) (tC (.int 0))) (tC (.str (tx [115,117,109]))))) (tRet lX) tNext)
  (tRet (tCall (bW K c) [] E0 (tCons (tVar 3) (tCons (tVar 1) (tCons (tOp cIx (tVar 2) (tC (.int 2))) (tCons (tOp cIx (tVar 2) (tC (.int 3))) (tCons (tOp cIx (tVar 2) (tC (.int 4))) tNil))))))))))
theorem lD {K:Frag} {c:RCl RK} {d:RCl PzK} {vs:List V} {H:Hp} {Q:VK} {E:XK} (h:aX K c d vs H Q E):bT K c d { nx:=fun _ H'=>Q .non H',rt:=Q } (start ["puzzle","masks","thought","rule"] vs) H:=by
 obtain ⟨P,L,G,A,T,M,h,w,g,rows,cl,masks,r,z,s,ms,rfl,X,mo,f,q⟩:=h
 obtain ⟨dx,p,rs,h1,h2,h3⟩:=X.P.ex
 obtain ⟨z0,z1,s0,s1',hit⟩:=yj f
 have hg:=X.P.R.F.g1
 have hmm:=X.P.R.F.m
 obtain ⟨r0,y,ey,hgo,hz⟩:=Af (by decide) hit
 have O:=X.P.R.ok y (List.mem_of_getElem? ey)
 have hin:gn y.cs masks.length:=by rw [X.n]; exact RR.cin22 O X.P.R.F
 show bT K c d _ [some (.ref P),some (.ref A),some (.ref T),none] H
 unfold bT
 rw [aL,fu,jK]
 refine methE (k:=.Puzzle) rfl X.P.ok h1 (by rfl) ?_
 walk_at "w"
 refine ⟨P,L,G,h,w,g,rows,cl,rfl,X.P,fun l p2 rs2 hl hp2 Y=>?_⟩
 have s2:Same H (upd H l (.lst (rs2.map V.ref))):=(Same.refl H).laid hl
 generalize upd H l (.lst (rs2.map V.ref))=H1 at*
 have hlt:=(List.getElem?_eq_some_iff.mp ey).1
 have hlen:=Y.len
 have ea:rs2[r.toNat]? =some rs2[r.toNat]:=List.getElem?_eq_getElem (by omega)
 have fin:∀ H',Same H1 H'->Q (.bl (yu h w y masks .ways z s ms)) H':=fun H' s3=>by
  have q1:=q H' (s2.trans s3)
  unfold qp at q1
  rw [ey] at q1
  exact q1
 dsimp only
 refine ixT (s2 _ _ X.T.T) (v:=V.int r) rfl ?_
 refine ixL Y.top (tZ r0 ea) ?_
 walk_at "w"
 rw [aI]
 walk_at "w"
 refine ixT (s2 _ _ X.T.T) (v:=V.str (tx (tkC .ways))) rfl ?_
 walk_at "w"
 rw [bd,za,decide_eq_false (by decide)]
 refine iteF ?_
 rw [aI]
 walk_at "w"
 refine ixT (s2 _ _ X.T.T) (v:=V.str (tx (tkC .ways))) rfl ?_
 walk_at "w"
 rw [bd,Bb,decide_eq_false (by decide)]
 refine iteF ?_
 walk_at "w"
 refine ixT (s2 _ _ X.T.T) (v:=V.int z) rfl ?_
 walk_at "w"
 refine ixT (s2 _ _ X.T.T) (v:=V.int s) rfl ?_
 walk_at "w"
 refine ixT (s2 _ _ X.T.T) (v:=V.ref M) rfl ?_
 walk_at "w"
 exact ⟨_,_,p2,A,M,_,y.cs,masks,ms,_,_,z,s,h,w,g,rfl,Y.at_ _ _ _ ea ey,hp2,X.P.R.F,hin,by rw [X.n]; omega,mo,by omega,by omega,s2 _ _ X.A,s2 _ _ X.T.M,fin⟩
def dv (K:Frag) (c:RCl RK) (d:RCl PzK):Sp:=aX K c d
theorem uC {K:Frag} {c:RCl RK} {d:RCl PzK} {vs:List V} {H:Hp} {Q:VK} {E:XK} (h:dv K c d vs H Q E):vs.length=3:=gJ h
def jr (K:Frag) (c:RCl RK) (d:RCl PzK):TS:=
 (tSeq (tIfS (tB (tInG ij false (tOp cIx (tVar 2) (tC (.int 0))))) (tRet lX) tNext)
  (tSeq (tIfS (tB (tInG fG false (tOp cIx (tVar 2) (tC (.int 0))))) (tRet (tCall (aX K c d) [] E0 (tCons (tVar 0) (tCons (tVar 1) (tCons (tVar 2) tNil))))) tNext)
  (tRet lX)))
theorem uD {K:Frag} {c:RCl RK} {d:RCl PzK} {vs:List V} {H:Hp} {Q:VK} {E:XK} (h:dv K c d vs H Q E):jr K c d { nx:=fun _ H'=>Q .non H',rt:=Q } (start ["puzzle","masks","thought"] vs) H:=by
 obtain ⟨P,L,G,A,T,M,h,w,g,rows,cl,masks,r,z,s,ms,rfl,X,mo,f,q⟩:=h
 show jr K c d _ [some (.ref P),some (.ref A),some (.ref T)] H
 unfold jr
 rw [aL,aI]
 walk_at "w"
 refine ixT X.T.T (v:=V.str (tx (tkC .ways))) rfl ?_
 walk_at "w"
 rw [Aa,show lineK .ways=false from rfl]
 refine iteF ?_
 rw [aI]
 walk_at "w"
 refine ixT X.T.T (v:=V.str (tx (tkC .ways))) rfl ?_
 walk_at "w"
 rw [A7,show nbrK .ways=true from rfl]
 refine iteT ?_
 exact ⟨P,L,G,A,T,M,h,w,g,rows,cl,masks,r,z,s,ms,rfl,X,mo,f,q⟩
def dw (K:Frag) (c:RCl RK) (d:RCl PzK):Sp:=fun vs H Q _=>∃ (P L G A T M:Addr) (h w g:Int) (rows:List RR) (cl masks:List Int) (r z s:Int) (ms:List Int),vs=[.ref P,.ref A,.ref T]/\Asks H c d P L G A T M h w g rows cl masks .ways r z s ms/\(∀ m∈masks,0<=m/\m<64)/\∀ H',Same H H'->Q (.bl (lZ h w g rows masks .ways r z s ms)) H'
theorem uE {K:Frag} {c:RCl RK} {d:RCl PzK} {vs:List V} {H:Hp} {Q:VK} {E:XK} (h:dw K c d vs H Q E):vs.length=3:=by
 obtain ⟨_,_,_,_,_,_,_,_,_,_,_,_,_,_,_,_,rfl,_⟩:=h; rfl
def js (K:Frag) (c:RCl RK) (d:RCl PzK):TS:=
 (tRet (tAndV (tCall (dt K c d) [] E0 (tCons (tVar 0) (tCons (tVar 2) tNil))) (tCall (dv K c d) [] E0 (tCons (tVar 0) (tCons (tVar 1) (tCons (tVar 2) tNil))))))
theorem uF {K:Frag} {c:RCl RK} {d:RCl PzK} {vs:List V} {H:Hp} {Q:VK} {E:XK} (h:dw K c d vs H Q E):js K c d { nx:=fun _ H'=>Q .non H',rt:=Q } (start ["puzzle","masks","thought"] vs) H:=by
 obtain ⟨P,L,G,A,T,M,h,w,g,rows,cl,masks,r,z,s,ms,rfl,X,mo,q⟩:=h
 show js K c d _ [some (.ref P),some (.ref A),some (.ref T)] H
 unfold js
 walk_at "w"
 refine ⟨.ways,P,L,G,T,M,h,w,g,r,z,s,rows,cl,ms,rfl,X.P,X.T,fun H1 s1=>?_⟩
 unfold lZ at q
 cases hb:formB h w g rows .ways r z s with
 | false=>
  rw [hb,Bool.false_and] at q
  exact ⟨false,rfl,iteF (q _ s1)⟩
 | true=>
  rw [hb,Bool.true_and] at q
  refine ⟨true,rfl,iteT ?_⟩
  walk_at "w"
  exact ⟨P,L,G,A,T,M,h,w,g,rows,cl,masks,r,z,s,ms,rfl,X.same s1,mo,hb,fun H' s2=>q H' (s1.trans s2)⟩
def bX (K:Frag):Sp:=fun vs H Q _=>∃ (num many:Int),vs=[.int num,.int many]/\0<=many/\many<=16/\
 ∀ (l:Addr) (H':Hp) (cs:List Nat),Same H H'->H l=none->H' l=some (.lst (nsV cs))->cs.Nodup->(∀ c∈cs,(c:Int)<many)->(cs.length:Int)=many->Q (.ref l) H'
theorem qr {K:Frag} {vs:List V} {H:Hp} {Q:VK} {E:XK} (h:bX K vs H Q E):vs.length=2:=by
 obtain ⟨_,_,rfl,_⟩:=h; rfl
def fN (K:Frag):TS:=
 (tSeq (tAsg (ke (tCons (tVar 1) tNil)) (gName 2))
  (tSeq (tAsg (tLst tNil) (gName 3))
  (tSeq (tFor (gK (tCons (tVar 1) tNil)) (gName 4)
  (tDrop (tBM K "list" bm (tVar 3) (tCons (tBM K "list" pS (tVar 2) (tCons (tOp cMod (tOp cDiv (tVar 0) (tOp cAdd (tOp cMul (tC (.int 3)) (tVar 4)) (tC (.int 1)))) (tCB kLen (tCons (tVar 2) tNil))) tNil)) tNil))))
  (tRet (tVar 3)))))
theorem qt {K:Frag} {vs:List V} {H:Hp} {Q:VK} {E:XK} (h:bX K vs H Q E):fN K { nx:=fun _ H'=>Q .non H',rt:=Q } (start ["_law_number","_law_many","_law_left","_law_found","_law_k"] vs) H:=by
 obtain ⟨num,many,rfl,c0,m1,q⟩:=h
 show fN K _ [some (.int num),some (.int many),none,none,none] H
 unfold fN
 walk_at "w"
 refine ⟨many,rfl,by omega,by omega,fun L hL=>?_⟩
 have s1:Same H (upd H L (.lst ((rngL 0 many).map V.int))):=(Same.refl H).laid hL
 have eL:(upd H L (.lst ((rngL 0 many).map V.int))) L=some (.lst ((rngL 0 many).map V.int)):=ae
 generalize upd H L (.lst ((rngL 0 many).map V.int))=H1 at*
 walk_at "w"
 refine ⟨aB (by decide),fun R hR=>?_⟩
 have nRL:R≠L:=fun e=>by rw [e,eL] at hR; cases hR
 refine ⟨many,rfl,by omega,by omega,?_⟩
 refine kd (fun i σ H'=>∃ (kv:Option V) (fs ls:List Int),σ=[some (.int num),some (.int many),some (.ref L),some (.ref R),kv]/\Same H H'/\H' L=some (.lst (ls.map V.int))/\H' R=some (.lst (fs.map V.int))/\(fs++ls).Perm (rngL 0 many)/\fs.length=i)
  ⟨none,[],rngL 0 many,rfl,s1.laid hR,by rw [ai nRL.symm]; exact eL,by rw [ae]; rfl,List.Perm.refl _,rfl⟩ ?_ ?_
 . rintro i σ H2 hi ⟨kv,fs,ls,rfl,s2,e1,e2,hp,hl⟩
   have hlen:=hp.length_eq
   rw [List.length_append,iA] at hlen
   walk_at "w"
   refine ⟨br e2,br e1,.inl ⟨by decide,by decide⟩,⟨by omega,by omega⟩,?_⟩
   rw [bc e1,List.length_map]
   have hpos:0 < (ls.length:Int):=by omega
   generalize num / (3*(0+(i:Int))+1)=y at*
   have j0:=Int.emod_nonneg y (Int.ne_of_gt hpos)
   have j1:=Int.emod_lt_of_pos y hpos
   refine ⟨hpos,?_⟩
   generalize y % (ls.length:Int)=j at*
   have hj:j.toNat<ls.length:=by omega
   refine z4 e1 j0 (by rw [List.length_map]; omega) (y:=V.int ls[j.toNat]) (by rw [List.getElem?_map,List.getElem?_eq_getElem hj]; rfl) ?_
   have e2':(upd H2 L (.lst ((ls.map V.int).eraseIdx j.toNat))) R=some (.lst (fs.map V.int)):=by rw [ai nRL]; exact e2
   walk_at "w"
   rw [c9 e2']
   refine ⟨by rw [List.length_map]; exact aD (by omega),_,fs++[ls[j.toNat]],ls.eraseIdx j.toNat,rfl,(s2.own hL).own (s1.free hR),?_,?_,?_,by simp [hl]⟩
   . rw [ai nRL.symm,ae,rX]
   . rw [ae]; simp
   . have p1:=pZ ls j.toNat hj
     have p2:=List.Perm.append_left fs p1
     refine List.Perm.trans ?_ hp
     rw [List.append_assoc]
     exact p2
 . rintro σ H2 ⟨kv,fs,ls,rfl,s2,e1,e2,hp,hl⟩
   walk_at "w"
   have hnd:(fs++ls).Nodup:=hp.nodup_iff.mpr (yd many)
   have hm:∀ x∈fs,0<=x/\x<many:=fun x hx=>qX (hp.mem_iff.mp (List.mem_append.mpr (.inl hx)))
   have ef:(fs.map Int.toNat).map (fun (n:Nat)=>(n:Int))=fs:=by
    rw [List.map_map]
    conv=>rhs; rw [← List.map_id fs]
    exact List.map_congr_left fun x hx=>by have:=hm x hx; show ((x.toNat:Nat):Int)=x; omega
   refine q R H2 (fs.map Int.toNat) s2 (s1.free hR) (by unfold nsV; rw [ef]; exact e2) ?_ ?_ ?_
   . have h1:=(List.nodup_append.mp hnd).1
     rw [← ef] at h1
     exact m7 _ h1
   . intro c hc
     obtain ⟨x,hx,rfl⟩:=List.mem_map.mp hc
     have:=hm x hx
     omega
   . rw [List.length_map,hl]; omega
def fl37:List (Int × Int):=[(1,2),(2,2),(1,5),(2,3),(3,3),(3,2),(4,1),(2,4),(3,4),(4,4)]
theorem Ak:∀ p∈fl37,1<=p.1/\p.1<=6/\1<=p.2/\p.2<=6/\p.1*p.2<=16/\2<=p.1*p.2:=by decide
def bY (K:Frag):Sp:=fun vs H Q _=>∃ (n:Int),vs=[.int n]/\∀ (p:Addr) (H':Hp) (h w g:Int),Same H H'->IsFl H' p h w g->FlOk h w g->2<=h*w->Q (.ref p) H'
theorem qu {K:Frag} {vs:List V} {H:Hp} {Q:VK} {E:XK} (h:bY K vs H Q E):vs.length=1:=by
 obtain ⟨_,rfl,_⟩:=h; rfl
def fO (K:Frag):TS:=
 (tSeq (tAsg (tLst (tCons (tTup (tCons (tC (.int 1)) (tCons (tC (.int 2)) tNil))) (tCons (tTup (tCons (tC (.int 2)) (tCons (tC (.int 2)) tNil))) (tCons (tTup (tCons (tC (.int 1)) (tCons (tC (.int 5)) tNil))) (tCons (tTup (tCons (tC (.int 2)) (tCons (tC (.int 3)) tNil))) (tCons (tTup (tCons (tC (.int 3)) (tCons (tC (.int 3)) tNil))) (tCons (tTup (tCons (tC (.int 3)) (tCons (tC (.int 2)) tNil))) (tCons (tTup (tCons (tC (.int 4)) (tCons (tC (.int 1)) tNil))) (tCons (tTup (tCons (tC (.int 2)) (tCons (tC (.int 4)) tNil))) (tCons (tTup (tCons (tC (.int 3)) (tCons (tC (.int 4)) tNil))) (tCons (tTup (tCons (tC (.int 4)) (tCons (tC (.int 4)) tNil))) tNil))))))))))) (gName 1))
  (tSeq (tAsg (tOp cIx (tVar 1) (tOp cMod (tVar 0) (tC (.int 10)))) (gTup K 2 (gCons (gName 2) (gCons (gName 3) gNil))))
  (tRet (tTup (tCons (tVar 2) (tCons (tVar 3) (tCons (tOp cAdd (tC (.int 1)) (tOp cMod (tOp cDiv (tVar 0) (tC (.int 10))) (tC (.int 6)))) tNil)))))))
theorem qv {K:Frag} {vs:List V} {H:Hp} {Q:VK} {E:XK} (h:bY K vs H Q E):fO K { nx:=fun _ H'=>Q .non H',rt:=Q } (start ["_law_cell","_law_some","_law_high","_law_wide"] vs) H:=by
 obtain ⟨n,rfl,q⟩:=h
 show fO K _ [some (.int n),none,none,none] H
 unfold fO
 rw [aL,fu,gg]
 refine uB fl37 H _ fun as H1 s1 hl ha=>?_
 have hl10:as.length=10:=hl
 refine ⟨by rw [List.length_map]; exact aB (by omega),fun U hU=>?_⟩
 have s2:Same H1 (upd H1 U (.lst (as.map V.ref))):=(Same.refl H1).laid hU
 have eU:(upd H1 U (.lst (as.map V.ref))) U=some (.lst (as.map V.ref)):=ae
 generalize upd H1 U (.lst (as.map V.ref))=H2 at*
 walk_at "w"
 refine ⟨by decide,?_⟩
 have j0:=Int.emod_nonneg n (show (10:Int)≠0 by decide)
 have j1:=Int.emod_lt_of_pos n (show (0:Int)<10 by decide)
 have ej:n%10=(((n%10).toNat:Nat):Int):=by omega
 have hj:(n%10).toNat<fl37.length:=by show _<10; omega
 rw [ej]
 generalize (n%10).toNat=j at*
 have ea:as[j]? =some (as[j]'(by omega)):=List.getElem?_eq_getElem (by omega)
 have ep:fl37[j]? =some fl37[j]:=List.getElem?_eq_getElem hj
 have et:=ha j _ _ ea ep
 have ok:=Ak _ (List.getElem_mem hj)
 generalize fl37[j]=pr at*
 refine ixL eU (v:=V.ref (as[j]'(by omega))) (ga (by rw [List.getElem?_map,ea]; rfl)) ?_
 refine m4 (s2 _ _ et) rfl ?_
 rw [ma]
 walk_at "w"
 refine ⟨⟨by decide,by decide⟩,by decide,aB (by show (3:Nat)<=1000; decide),fun p hp=>?_⟩
 have g0:=Int.emod_nonneg (n/10) (show (6:Int)≠0 by decide)
 have g1:=Int.emod_lt_of_pos (n/10) (show (0:Int)<6 by decide)
 exact q p _ pr.1 pr.2 _ ((s1.trans s2).trans ((Same.refl H2).laid hp)) ae ⟨ok.1,ok.2.1,ok.2.2.1,ok.2.2.2.1,ok.2.2.2.2.1,by omega,by omega⟩ ok.2.2.2.2.2
theorem yw:((List.range 64).all fun m=>(List.range 6).all fun j=>decide (decide ((m:Int) / (1*2^j)%2=1)=stB (m:Int) (1+(j:Int))))=true:=by decide+kernel
theorem zh {m s:Int} (m0:0<=m) (m1:m<64) (s0:1<=s) (s6:s<=6):decide (m / (1*2^(s-1).toNat)%2=1)=stB m s:=by
 have t:=List.all_eq_true.mp (List.all_eq_true.mp yw m.toNat (List.mem_range.mpr (by omega))) (s-1).toNat (List.mem_range.mpr (by omega))
 rw [show ((m.toNat:Nat):Int)=m by omega,show 1+(((s-1).toNat:Nat):Int)=s by omega] at t
 exact of_decide_eq_true t
def bi (K:Frag):Sp:=fun vs H Q _=>∃ s:Int,vs=[.int s]/\1<=s/\s<=6/\∀ H',Same H H'->Q (.int (1*2^(s-1).toNat)) H'
theorem sE {K:Frag} {vs:List V} {H:Hp} {Q:VK} {E:XK} (h:bi K vs H Q E):vs.length=1:=by
 obtain ⟨_,rfl,_⟩:=h; rfl
def iu (K:Frag):TS:=
 (tRet (tOp cIx (tLst (tCons (tC (.int 1)) (tCons (tC (.int 2)) (tCons (tC (.int 4)) (tCons (tC (.int 8)) (tCons (tC (.int 16)) (tCons (tC (.int 32)) tNil))))))) (tOp cSub (tVar 0) (tC (.int 1)))))
theorem sF {K:Frag} {vs:List V} {H:Hp} {Q:VK} {E:XK} (h:bi K vs H Q E):iu K { nx:=fun _ H'=>Q .non H',rt:=Q } (start ["_law_sign"] vs) H:=by
 obtain ⟨s,rfl,s0,s6,q⟩:=h
 show iu K _ [some (.int s)] H
 unfold iu
 walk_at "w"
 refine ⟨aB (by show (6:Nat)<=1000; decide),fun U hU=>?_⟩
 have e:atI [V.int 1,V.int 2,V.int 4,V.int 8,V.int 16,V.int 32] (s-1)=some (V.int (1*2^(s-1).toNat)):=by
  have:s=1\/s=2\/s=3\/s=4\/s=5\/s=6:=by omega
  rcases this with rfl | rfl | rfl | rfl | rfl | rfl <;> rfl
 exact ixL ae e (q _ ((Same.refl H).laid hU))
theorem Al:((List.range 64).all fun a=>(List.range 6).all fun j=>decide (0<=Builtin.bitOr (a:Int) (1*2^j)/\Builtin.bitOr (a:Int) (1*2^j)<64))=true:=by decide+kernel
theorem rj {a j:Int} (a0:0<=a) (a1:a<64) (j0:0<=j) (j1:j<6):0<=Builtin.bitOr a (1*2^j.toNat)/\Builtin.bitOr a (1*2^j.toNat)<64:=by
 have t:=List.all_eq_true.mp (List.all_eq_true.mp Al a.toNat (List.mem_range.mpr (by omega))) j.toNat (List.mem_range.mpr (by omega))
 rw [show ((a.toNat:Nat):Int)=a by omega] at t
 exact of_decide_eq_true t
def bZ (K:Frag):Sp:=fun vs H Q _=>∃ (a p:Addr) (ns:List Int) (h w g:Int),vs=[.ref a,.ref p]/\SqL K H a (ns.map V.int)/\ns.length<=63/\IsFl H p h w g/\FlOk h w g/\
 ∀ (l:Addr) (H':Hp) (cl:List Int),Same H H'->H' l=some (.lst (cl.map V.int))->CluesOk h w g cl->Q (.ref l) H'
theorem qw {K:Frag} {vs:List V} {H:Hp} {Q:VK} {E:XK} (h:bZ K vs H Q E):vs.length=2:=by
 obtain ⟨_,_,_,_,_,_,rfl,_⟩:=h; rfl
def fP (K:Frag):TS:=
 (tSeq (tAsg (tLst tNil) (gName 2))
  (tSeq (tFor (gK (tCons (tOp cMul (tOp cIx (tVar 1) (tC (.int 0))) (tOp cIx (tVar 1) (tC (.int 1)))) tNil)) (gName 3)
  (tSeq (tAsg (tOp cMod (tOp cMul (tOp cAdd (tCall (aN K) [] E0 (tCons (tVar 0) (tCons (tOp cAdd (tC (.int 6)) (tVar 3)) tNil))) (tOp cMul (tC (.int 227)) (tVar 3))) (tC (.int 69621))) (tC (.int 50021))) (gName 4))
  (tDrop (tBM K "list" bm (tVar 2) (tCons (tOp cIx (tLst (tCons (tC (.int 0)) (tCons (tC (.int 0)) (tCons (tOp cAdd (tC (.int 1)) (tOp cMod (tOp cDiv (tVar 4) (tC (.int 3))) (tOp cIx (tVar 1) (tC (.int 2))))) tNil)))) (tOp cMod (tVar 4) (tC (.int 3)))) tNil)))))
  (tRet (tVar 2))))
theorem qx {K:Frag} {vs:List V} {H:Hp} {Q:VK} {E:XK} (h:bZ K vs H Q E):fP K { nx:=fun _ H'=>Q .non H',rt:=Q } (start ["_law_script","_law_floor_here","_law_clues_here","_law_k","_law_cell"] vs) H:=by
 obtain ⟨a,p,ns,h,w,g,rfl,hS,hn,hp,F,q⟩:=h
 obtain ⟨h0,h1,w0,w1,m16,g0,g1⟩:=id F
 have mpos:0<=h*w:=Int.mul_nonneg (by omega) (by omega)
 show fP K _ [some (.ref a),some (.ref p),none,none,none] H
 unfold fP
 walk_at "w"
 refine ⟨aB (by decide),fun Cl hCl=>?_⟩
 have s0:Same H (upd H Cl (.lst [])):=(Same.refl H).laid hCl
 refine ixT (s0 _ _ hp) (v:=V.int h) rfl ?_
 walk_at "w"
 refine ixT (s0 _ _ hp) (v:=V.int w) rfl ?_
 walk_at "w"
 refine ⟨fR h0 h1,_,rfl,by omega,by omega,?_⟩
 refine kd (fun i σ H'=>∃ (v3 v4:Option V) (cl:List Int),σ=[some (.ref a),some (.ref p),some (.ref Cl),v3,v4]/\Same H H'/\H' Cl=some (.lst (cl.map V.int))/\cl.length=i/\∀ x∈cl,0<=x/\x<=g)
  ⟨none,none,[],rfl,s0,by rw [ae]; rfl,rfl,fun m hm=>by cases hm⟩ ?_ ?_
 . rintro i σ H1 hi ⟨v3,v4,cl,rfl,s1,eL,hl,hm⟩
   have hi':i < (h*w).toNat:=hi
   rw [Int.zero_add]
   walk_at "w"
   refine ⟨a,ns,_,rfl,s1.seq hS,hn,by omega,by omega,?_⟩
   walk_at "w"
   refine ⟨.inl ⟨by decide,by decide⟩,.inr ⟨by decide,by decide⟩,by decide,?_⟩
   generalize (iB ns (6+(i:Int))+227*(i:Int))*69621%50021=e at*
   have d0:=Int.emod_nonneg (e/3) (show g≠0 by omega)
   have d1:=Int.emod_lt_of_pos (e/3) (show 0<g by omega)
   refine ⟨br eL,⟨by decide,by decide⟩,?_⟩
   refine ixT (s1 _ _ hp) (v:=V.int g) rfl ?_
   walk_at "w"
   refine ⟨by omega,?_⟩
   generalize e/3%g=u at*
   refine ⟨aB (by show (3:Nat)<=1000; decide),fun U hU=>?_⟩
   have s2:Same H1 (upd H1 U (.lst [V.int 0,V.int 0,V.int (1+u)])):=(Same.refl H1).laid hU
   have e2:(upd H1 U (.lst [V.int 0,V.int 0,V.int (1+u)])) U=some (.lst [V.int 0,V.int 0,V.int (1+u)]):=ae
   generalize upd H1 U (.lst [V.int 0,V.int 0,V.int (1+u)])=H2 at*
   refine ⟨by decide,?_⟩
   obtain ⟨x,x0,x1,ex⟩:∃ x:Int,0<=x/\x<=g/\atI [V.int 0,V.int 0,V.int (1+u)] (e%3)=some (V.int x):=by
    have:e%3=0\/e%3=1\/e%3=2:=by omega
    rcases this with e | e | e
    . rw [e]; exact ⟨0,by decide,by omega,rfl⟩
    . rw [e]; exact ⟨0,by decide,by omega,rfl⟩
    . rw [e]; exact ⟨1+u,by omega,by omega,rfl⟩
   refine ixL e2 ex ?_
   walk_at "w"
   rw [c9 (s2 _ _ eL)]
   refine ⟨by rw [List.length_map]; exact aD (by omega),_,_,cl++[x],rfl,(s1.trans s2).own hCl,by rw [ae]; simp,by simp [hl],fun m hm'=>?_⟩
   rcases List.mem_append.mp hm' with hm' | hm'
   . exact hm m hm'
   . rw [List.mem_singleton.mp hm']; exact ⟨x0,x1⟩
 . rintro σ H1 ⟨v3,v4,cl,rfl,s1,eL,hl,hm⟩
   walk_at "w"
   exact q Cl H1 cl s1 eL ⟨hl,hm⟩
def fW (g x:Int):Prop:=∀ s,stB x s=true->s<=g
theorem zi:((List.range 64).all fun a=>(List.range 6).all fun j=>(List.range 6).all fun i=>decide (stB (Builtin.bitOr (a:Int) (1*2^j)) (1+(i:Int))=(stB (a:Int) (1+(i:Int))||decide (i=j))))=true:=by decide+kernel
theorem uG {m x:Int} (m0:0<=m) (m1:m<64) (h:stB m x=true):1<=x/\x<=6:=by
 have t:((List.range 64).all fun m=>decide (stB (m:Int) 0=false))=true:=by decide+kernel
 unfold stB at h
 have h':=h
 simp only [Bool.and_eq_true,decide_eq_true_eq] at h'
 refine ⟨h'.1,?_⟩
 have t:((List.range 64).all fun m=>decide (Builtin.Int.intBits (m:Int)<=6))=true:=by decide+kernel
 have t2:=of_decide_eq_true (List.all_eq_true.mp t m.toNat (List.mem_range.mpr (by omega)))
 rw [show ((m.toNat:Nat):Int)=m by omega] at t2
 omega
theorem rY (g:Int):fW g 0:=fun s h=>by
 have b:=uG (by decide) (by decide) h
 have:s=1\/s=2\/s=3\/s=4\/s=5\/s=6:=by omega
 rcases this with rfl | rfl | rfl | rfl | rfl | rfl <;> exact absurd h (by decide)
theorem rl {g x j:Int} (x0:0<=x) (x1:x<64) (x2:fW g x) (j0:0<=j) (j1:j<6) (jg:j<g):fW g (Builtin.bitOr x (1*2^j.toNat)):=fun s h=>by
 have o:=rj x0 x1 j0 j1
 have b:=uG o.1 o.2 h
 have t:=of_decide_eq_true (List.all_eq_true.mp (List.all_eq_true.mp (List.all_eq_true.mp zi x.toNat (List.mem_range.mpr (by omega))) j.toNat (List.mem_range.mpr (by omega))) (s-1).toNat (List.mem_range.mpr (by omega)))
 rw [show ((x.toNat:Nat):Int)=x by omega,show 1+(((s-1).toNat:Nat):Int)=s by omega,h] at t
 have t:=t.symm
 rw [Bool.or_eq_true,decide_eq_true_eq] at t
 rcases t with t | t
 . exact x2 s t
 . omega
theorem yx:((List.range 6).all fun j=>decide (Builtin.bitOr 0 (1*2^j)=(1:Int)*2^j))=true:=by decide+kernel
theorem zj {g j:Int} (j0:0<=j) (j1:j<6) (jg:j<g):fW g (1*2^j.toNat):=by
 have t:=of_decide_eq_true (List.all_eq_true.mp yx j.toNat (List.mem_range.mpr (by omega)))
 rw [← t]
 exact rl (by decide) (by decide) (rY g) j0 j1 jg
def b7 (K:Frag):Sp:=fun vs H Q _=>∃ (a p:Addr) (ns:List Int) (h w g:Int),vs=[.ref a,.ref p]/\SqL K H a (ns.map V.int)/\ns.length<=63/\IsFl H p h w g/\FlOk h w g/\
 ∀ (l:Addr) (H':Hp) (ms:List Int),Same H H'->H' l=some (.lst (ms.map V.int))->ms.length=(h*w).toNat->(∀ m∈ms,0<=m/\m<64)->(∀ m∈ms,fW g m)->Q (.ref l) H'
theorem qy {K:Frag} {vs:List V} {H:Hp} {Q:VK} {E:XK} (h:b7 K vs H Q E):vs.length=2:=by
 obtain ⟨_,_,_,_,_,_,rfl,_⟩:=h; rfl
def wJ (K:Frag):TS:=
 (tSeq (tIfS (tAnd (tTest (tOp (cEq K) (tOp cMod (tVar 6) (tC (.int 12))) (tC (.int 4)))) (tTest (tOp (cCmp fun i j=>decide (j<=i)) (tOp cMod (tOp cDiv (tVar 6) (tC (.int 12))) (tC (.int 8))) (tOp cMul (tC (.int 7)) (tVar 4))))) (tAsg (tC (.int 0)) (gName 7)) tNext)
  (tDrop (tBM K "list" bm (tVar 2) (tCons (tVar 7) tNil))))
def wK (K:Frag):TS:=
 (tSeq (tIfS (tTest (tOp (cCmp fun i j=>decide (j<i)) (tOp cMod (tVar 6) (tC (.int 12))) (tOp cIx (tLst (tCons (tC (.int 9)) (tCons (tC (.int 10)) tNil))) (tVar 4)))) (tAsg (tOp cOr (tVar 7) (tCall (bi K) [] E0 (tCons (tOp cAdd (tC (.int 1)) (tOp cMod (tOp cDiv (tVar 6) (tC (.int 300))) (tOp cIx (tVar 1) (tC (.int 2))))) tNil))) (gName 7)) tNext)
  (wJ K))
def wL (K:Frag):TS:=
 (tSeq (tIfS (tTest (tOp (cCmp fun i j=>decide (j<i)) (tOp cMod (tVar 6) (tC (.int 12))) (tOp cIx (tLst (tCons (tC (.int 4)) (tCons (tC (.int 8)) tNil))) (tVar 4)))) (tAsg (tOp cOr (tVar 7) (tCall (bi K) [] E0 (tCons (tOp cAdd (tC (.int 1)) (tOp cMod (tOp cDiv (tVar 6) (tC (.int 60))) (tOp cIx (tVar 1) (tC (.int 2))))) tNil))) (gName 7)) tNext)
  (wK K))
def fQ (K:Frag):TS:=
 (tSeq (tAsg (tLst tNil) (gName 2))
  (tSeq (tAsg (tOp cMul (tOp cIx (tVar 1) (tC (.int 0))) (tOp cIx (tVar 1) (tC (.int 1)))) (gName 3))
  (tSeq (tAsg (tCB mf (tCons (tOp (cCmp fun i j=>decide (j<i)) (tVar 3) (tC (.int 9))) tNil)) (gName 4))
  (tSeq (tFor (gK (tCons (tVar 3) tNil)) (gName 5)
  (tSeq (tAsg (tOp cMod (tOp cMul (tOp cAdd (tCall (aN K) [] E0 (tCons (tVar 0) (tCons (tOp cAdd (tC (.int 6)) (tVar 5)) tNil))) (tOp cMul (tOp cMul (tC (.int 41)) (tVar 5)) (tVar 5))) (tC (.int 48271))) (tC (.int 65521))) (gName 6))
  (tSeq (tAsg (tCall (bi K) [] E0 (tCons (tOp cAdd (tC (.int 1)) (tOp cMod (tOp cDiv (tVar 6) (tC (.int 12))) (tOp cIx (tVar 1) (tC (.int 2))))) tNil)) (gName 7))
  (wL K))))
  (tRet (tVar 2))))))
structure M37 (H:Hp) (p L:Addr) (h w g:Int) (ms:List Int):Prop where
 fl:IsFl H p h w g
 F:FlOk h w g
 eL:H L=some (.lst (ms.map V.int))
 ml:ms.length<=100
theorem M37.same {H H':Hp} {p L:Addr} {h w g:Int} {ms:List Int} (X:M37 H p L h w g ms) (s:Same H H'):M37 H' p L h w g ms:=⟨s _ _ X.fl,X.F,s _ _ X.eL,X.ml⟩
theorem uH {K:Frag} {D:Ends} {H:Hp} {p L:Addr} {h w g k y x t:Int} {ms:List Int} {v0 v3:Option V} (X:M37 H p L h w g ms) (x0:0<=x) (x1:x<64) (x2:fW g x) (ht:t=0\/t=1)
  (q:∀ (x:Int) (v:Option V) (H':Hp),Same H H'->H' L=some (.lst (ms.map V.int))->0<=x->x<64->fW g x->D.nx [v0,some (.ref p),some (.ref L),v3,some (.int t),some (.int k),some (.int y),v] (upd H' L (.lst (ms.map V.int++[V.int x])))):
  wJ K D [v0,some (.ref p),some (.ref L),v3,some (.int t),some (.int k),some (.int y),some (.int x)] H:=by
 have hlen:(ms.map V.int).length<sizeLine:=by rw [List.length_map]; have:=X.ml; exact aD (by omega)
 have fin:∀ x:Int,0<=x->x<64->fW g x->tyV K "list" (.ref L) H/\bm (.ref L) [.int x] H fun _ H'=>D.nx [v0,some (.ref p),some (.ref L),v3,some (.int t),some (.int k),some (.int y),some (.int x)] H':=fun x x0 x1 x2=>by
  refine ⟨br X.eL,?_⟩
  rw [c9 X.eL]
  exact ⟨hlen,q x _ H (Same.refl H) X.eL x0 x1 x2⟩
 unfold wJ
 rw [aL,aI]
 walk_at "w"
 refine ⟨by decide,?_⟩
 cases decide (y%12=4) with
 | false=>
  refine iteF ?_
  walk_at "w"
  exact fin x x0 x1 x2
 | true=>
  refine iteT ?_
  refine ⟨⟨by decide,by decide⟩,by decide,.inl ⟨by decide,by decide⟩,?_⟩
  cases decide (7*t<=y/12%8) with
  | false=>
   walk_at "w"
   exact fin x x0 x1 x2
  | true=>
   walk_at "w"
   exact fin 0 (by decide) (by decide) (rY g)
theorem uI {K:Frag} {D:Ends} {H:Hp} {p L:Addr} {h w g k y x t:Int} {ms:List Int} {v0 v3:Option V} (X:M37 H p L h w g ms) (x0:0<=x) (x1:x<64) (x2:fW g x) (ht:t=0\/t=1)
  (q:∀ (x:Int) (v:Option V) (H':Hp),Same H H'->H' L=some (.lst (ms.map V.int))->0<=x->x<64->fW g x->D.nx [v0,some (.ref p),some (.ref L),v3,some (.int t),some (.int k),some (.int y),v] (upd H' L (.lst (ms.map V.int++[V.int x])))):
  wK K D [v0,some (.ref p),some (.ref L),v3,some (.int t),some (.int k),some (.int y),some (.int x)] H:=by
 obtain ⟨h0,h1,w0,w1,m16,g0,g1⟩:=id X.F
 unfold wK
 rw [aL,aI]
 walk_at "w"
 refine ⟨by decide,aB (by show (2:Nat)<=1000; decide),fun U hU=>?_⟩
 have s1:Same H (upd H U (.lst [V.int 9,V.int 10])):=(Same.refl H).laid hU
 have eU:(upd H U (.lst [V.int 9,V.int 10])) U=some (.lst [V.int 9,V.int 10]):=ae
 generalize upd H U (.lst [V.int 9,V.int 10])=H1 at*
 have X1:=X.same s1
 obtain ⟨b,eb⟩:∃ b:Int,atI [V.int 9,V.int 10] t=some (V.int b):=by rcases ht with rfl | rfl <;> exact ⟨_,rfl⟩
 refine ixL eU eb ?_
 walk_at "w"
 cases decide (b<y%12) with
 | false=>
  refine iteF ?_
  exact uH X1 x0 x1 x2 ht fun x v H' s e a b c=>q x v H' (s1.trans s) e a b c
 | true=>
  refine iteT ?_
  walk_at "w"
  refine ⟨⟨by decide,by decide⟩,?_⟩
  refine ixT X1.fl (v:=V.int g) rfl ?_
  walk_at "w"
  refine ⟨by omega,?_⟩
  have d0:=Int.emod_nonneg (y/300) (show g≠0 by omega)
  have d1:=Int.emod_lt_of_pos (y/300) (show 0<g by omega)
  refine ⟨_,rfl,by omega,by omega,fun H2 s2=>?_⟩
  have o:=rj x0 x1 (show 0<=1+y/300%g-1 by omega) (show 1+y/300%g-1<6 by omega)
  walk_at "w"
  exact uH (X1.same s2) o.1 o.2 (rl x0 x1 x2 (by omega) (by omega) (by omega)) ht fun x v H' s e a b c=>q x v H' ((s1.trans s2).trans s) e a b c
theorem zk {K:Frag} {D:Ends} {H:Hp} {p L:Addr} {h w g k y x t:Int} {ms:List Int} {v0 v3:Option V} (X:M37 H p L h w g ms) (x0:0<=x) (x1:x<64) (x2:fW g x) (ht:t=0\/t=1)
  (q:∀ (x:Int) (v:Option V) (H':Hp),Same H H'->H' L=some (.lst (ms.map V.int))->0<=x->x<64->fW g x->D.nx [v0,some (.ref p),some (.ref L),v3,some (.int t),some (.int k),some (.int y),v] (upd H' L (.lst (ms.map V.int++[V.int x])))):
  wL K D [v0,some (.ref p),some (.ref L),v3,some (.int t),some (.int k),some (.int y),some (.int x)] H:=by
 obtain ⟨h0,h1,w0,w1,m16,g0,g1⟩:=id X.F
 unfold wL
 rw [aL,aI]
 walk_at "w"
 refine ⟨by decide,aB (by show (2:Nat)<=1000; decide),fun U hU=>?_⟩
 have s1:Same H (upd H U (.lst [V.int 4,V.int 8])):=(Same.refl H).laid hU
 have eU:(upd H U (.lst [V.int 4,V.int 8])) U=some (.lst [V.int 4,V.int 8]):=ae
 generalize upd H U (.lst [V.int 4,V.int 8])=H1 at*
 have X1:=X.same s1
 obtain ⟨b,eb⟩:∃ b:Int,atI [V.int 4,V.int 8] t=some (V.int b):=by rcases ht with rfl | rfl <;> exact ⟨_,rfl⟩
 refine ixL eU eb ?_
 walk_at "w"
 cases decide (b<y%12) with
 | false=>
  refine iteF ?_
  exact uI X1 x0 x1 x2 ht fun x v H' s e a b c=>q x v H' (s1.trans s) e a b c
 | true=>
  refine iteT ?_
  walk_at "w"
  refine ⟨⟨by decide,by decide⟩,?_⟩
  refine ixT X1.fl (v:=V.int g) rfl ?_
  walk_at "w"
  refine ⟨by omega,?_⟩
  have d0:=Int.emod_nonneg (y/60) (show g≠0 by omega)
  have d1:=Int.emod_lt_of_pos (y/60) (show 0<g by omega)
  refine ⟨_,rfl,by omega,by omega,fun H2 s2=>?_⟩
  have o:=rj x0 x1 (show 0<=1+y/60%g-1 by omega) (show 1+y/60%g-1<6 by omega)
  walk_at "w"
  exact uI (X1.same s2) o.1 o.2 (rl x0 x1 x2 (by omega) (by omega) (by omega)) ht fun x v H' s e a b c=>q x v H' ((s1.trans s2).trans s) e a b c
theorem zl {j:Int} (j0:0<=j) (j1:j<6):0<=(1:Int)*2^j.toNat/\(1:Int)*2^j.toNat<64:=by
 have:j=0\/j=1\/j=2\/j=3\/j=4\/j=5:=by omega
 rcases this with rfl | rfl | rfl | rfl | rfl | rfl <;> decide
theorem qz {K:Frag} {vs:List V} {H:Hp} {Q:VK} {E:XK} (h:b7 K vs H Q E):fQ K { nx:=fun _ H'=>Q .non H',rt:=Q } (start ["_law_script","_law_floor_here","_law_masks_here","_law_many","_law_great","_law_k","_law_cell","_law_mask"] vs) H:=by
 obtain ⟨a,p,ns,h,w,g,rfl,hS,hn,hp,F,q⟩:=h
 obtain ⟨h0,h1,w0,w1,m16,g0,g1⟩:=id F
 have mpos:0<=h*w:=Int.mul_nonneg (by omega) (by omega)
 show fQ K _ [some (.ref a),some (.ref p),none,none,none,none,none,none] H
 unfold fQ
 walk_at "w"
 refine ⟨aB (by decide),fun L hL=>?_⟩
 have s0:Same H (upd H L (.lst [])):=(Same.refl H).laid hL
 refine ixT (s0 _ _ hp) (v:=V.int h) rfl ?_
 walk_at "w"
 refine ixT (s0 _ _ hp) (v:=V.int w) rfl ?_
 walk_at "w"
 refine ⟨fR h0 h1,?_⟩
 obtain ⟨t,ht,ht2⟩:∃ t:Int,(if decide (9<h*w)=true then (1:Int) else 0)=t/\(t=0\/t=1):=⟨_,rfl,by split <;> simp⟩
 rw [ht]
 refine ⟨_,rfl,by omega,by omega,?_⟩
 refine kd (fun i σ H'=>∃ (v5 v6 v7:Option V) (ms:List Int),σ=[some (.ref a),some (.ref p),some (.ref L),some (.int (h*w)),some (.int t),v5,v6,v7]/\Same H H'/\H' L=some (.lst (ms.map V.int))/\ms.length=i/\∀ x∈ms,(0<=x/\x<64)/\fW g x)
  ⟨none,none,none,[],rfl,s0,by rw [ae]; rfl,rfl,fun m hm=>by cases hm⟩ ?_ ?_
 . rintro i σ H1 hi ⟨v5,v6,v7,ms,rfl,s1,eL,hl,hm⟩
   have hi':i < (h*w).toNat:=hi
   rw [Int.zero_add]
   walk_at "w"
   refine ⟨a,ns,_,rfl,s1.seq hS,hn,by omega,by omega,?_⟩
   walk_at "w"
   refine ⟨.inl ⟨by decide,by decide⟩,.inr ⟨by omega,by omega⟩,.inr ⟨by decide,by decide⟩,by decide,?_⟩
   generalize (iB ns (6+(i:Int))+41*(i:Int)*(i:Int))*48271%65521=y at*
   refine ⟨⟨by decide,by decide⟩,?_⟩
   refine ixT (s1 _ _ hp) (v:=V.int g) rfl ?_
   walk_at "w"
   refine ⟨by omega,?_⟩
   have d0:=Int.emod_nonneg (y/12) (show g≠0 by omega)
   have d1:=Int.emod_lt_of_pos (y/12) (show 0<g by omega)
   refine ⟨_,rfl,by omega,by omega,fun H2 s2=>?_⟩
   have o:=zl (show 0<=1+y/12%g-1 by omega) (show 1+y/12%g-1<6 by omega)
   walk_at "w"
   refine zk ⟨s2 _ _ (s1 _ _ hp),F,s2 _ _ eL,by omega⟩ o.1 o.2 (zj (by omega) (by omega) (by omega)) ht2 fun x v H3 s3 e3 x0 x1 x2=>⟨_,_,_,ms++[x],rfl,((s1.trans s2).trans s3).own hL,by rw [ae]; simp,by simp [hl],fun m hm'=>?_⟩
   rcases List.mem_append.mp hm' with hm' | hm'
   . exact hm m hm'
   . rw [List.mem_singleton.mp hm']; exact ⟨⟨x0,x1⟩,x2⟩
 . rintro σ H1 ⟨v5,v6,v7,ms,rfl,s1,eL,hl,hm⟩
   walk_at "w"
   exact q L H1 ms s1 eL hl (fun m h=>(hm m h).1) fun m h=>(hm m h).2
def gA (h w c:Int):List Int:=(if 0<c%w then [c-1] else [])++(if c%w<w-1 then [c+1] else [])++(if 0<c/w then [c-w] else [])++(if c/w<h-1 then [c+w] else [])
theorem qA (h w c:Int):(gA h w c).Perm (besL h w c):=by
 unfold gA besL
 generalize (if 0<c%w then [c-1] else [])=b
 generalize (if c%w<w-1 then [c+1] else [])=d
 generalize (if 0<c/w then [c-w] else [])=a
 generalize (if c/w<h-1 then [c+w] else [])=e
 refine List.Perm.append_right e ?_
 rw [List.append_assoc a b d]
 exact List.perm_append_comm
theorem ni (h w c:Int):(gA h w c).length<=4:=by
 unfold gA
 simp only [List.length_append]
 split <;> split <;> split <;> split <;> simp
def bg (K:Frag):Sp:=fun vs H Q _=>∃ (p:Addr) (h w g c:Int),vs=[.ref p,.int c]/\IsFl H p h w g/\0<w/\w<100/\∀ (l:Addr) (H':Hp),Same H H'->H l=none->H' l=some (.lst ((gA h w c).map V.int))->Q (.ref l) H'
theorem oX {K:Frag} {vs:List V} {H:Hp} {Q:VK} {E:XK} (h:bg K vs H Q E):vs.length=2:=by
 obtain ⟨_,_,_,_,_,rfl,_⟩:=h; rfl
def fg (K:Frag):TS:=
 (tRet (tVar 3))
def fh (K:Frag):TS:=
 (tSeq (tIfS (tTest (tOp (cCmp fun i j=>decide (i<j)) (tVar 2) (tOp cSub (tOp cIx (tVar 0) (tC (.int 0))) (tC (.int 1))))) (tDrop (tBM K "list" bm (tVar 3) (tCons (tOp cAdd (tVar 1) (tOp cIx (tVar 0) (tC (.int 1)))) tNil))) tNext)
  (fg K))
def fi (K:Frag):TS:=
 (tSeq (tIfS (tTest (tOp (cCmp fun i j=>decide (j<i)) (tVar 2) (tC (.int 0)))) (tDrop (tBM K "list" bm (tVar 3) (tCons (tOp cSub (tVar 1) (tOp cIx (tVar 0) (tC (.int 1)))) tNil))) tNext)
  (fh K))
def fj (K:Frag):TS:=
 (tSeq (tIfS (tTest (tOp (cCmp fun i j=>decide (i<j)) (tOp cMod (tVar 1) (tOp cIx (tVar 0) (tC (.int 1)))) (tOp cSub (tOp cIx (tVar 0) (tC (.int 1))) (tC (.int 1))))) (tDrop (tBM K "list" bm (tVar 3) (tCons (tOp cAdd (tVar 1) (tC (.int 1))) tNil))) tNext)
  (fi K))
def jC (K:Frag):TS:=
 (tSeq (tIfS (tTest (tOp (cCmp fun i j=>decide (j<i)) (tOp cMod (tVar 1) (tOp cIx (tVar 0) (tC (.int 1)))) (tC (.int 0)))) (tDrop (tBM K "list" bm (tVar 3) (tCons (tOp cSub (tVar 1) (tC (.int 1))) tNil))) tNext)
  (fj K))
def dY (K:Frag):TS:=
 (tSeq (tAsg (tOp cDiv (tVar 1) (tOp cIx (tVar 0) (tC (.int 1)))) (gName 2))
  (tSeq (tAsg (tLst tNil) (gName 3))
  (jC K)))
theorem jD {K:Frag} {H:Hp} {Q:VK} {F:Addr} {v0 v1 v2:Option V} (q:Q (.ref F) H):fg K { nx:=fun _ H'=>Q .non H',rt:=Q } [v0,v1,v2,some (.ref F)] H:=by
 unfold fg
 walk_at "w"
 exact q
theorem jE {K:Frag} {H0 H:Hp} {Q:VK} {p F:Addr} {h w g c:Int} {xs:List Int} (w0:0<w) (s:Same H0 H) (hF:H0 F=none) (hp:IsFl H0 p h w g) (e:H F=some (.lst (xs.map V.int))) (hl:xs.length<=3) (q:∀ H',Same H0 H'->H' F=some (.lst ((xs++(if c/w<h-1 then [c+w] else [])).map V.int))->Q (.ref F) H'):
  fh K { nx:=fun _ H'=>Q .non H',rt:=Q } [some (.ref p),some (.int c),some (.int (c/w)),some (.ref F)] H:=by
 unfold fh
 rw [aL,aI]
 walk_at "w"
 refine ixT (s _ _ hp) (v:=V.int h) rfl ?_
 walk_at "w"
 by_cases hc:c/w<h-1
 . rw [decide_eq_true hc]
   refine iteT ?_
   walk_at "w"
   refine ⟨br e,?_⟩
   refine ixT (s _ _ hp) (v:=V.int w) rfl ?_
   walk_at "w"
   rw [c9 e]
   refine ⟨by rw [List.length_map]; exact aD (by omega),?_⟩
   exact jD (q _ (s.own hF) (by rw [ae,if_pos hc]; simp))
 . rw [decide_eq_false hc]
   refine iteF ?_
   walk_at "w"
   exact jD (q _ s (by rw [e,if_neg hc,List.append_nil]))
theorem jF {K:Frag} {H0 H:Hp} {Q:VK} {p F:Addr} {h w g c:Int} {xs:List Int} (w0:0<w) (s:Same H0 H) (hF:H0 F=none) (hp:IsFl H0 p h w g) (e:H F=some (.lst (xs.map V.int))) (hl:xs.length<=2) (q:∀ H',Same H0 H'->H' F=some (.lst ((xs++(if 0<c/w then [c-w] else [])++(if c/w<h-1 then [c+w] else [])).map V.int))->Q (.ref F) H'):
  fi K { nx:=fun _ H'=>Q .non H',rt:=Q } [some (.ref p),some (.int c),some (.int (c/w)),some (.ref F)] H:=by
 unfold fi
 rw [aL,aI]
 walk_at "w"
 by_cases hc:0<c/w
 . rw [decide_eq_true hc]
   refine iteT ?_
   walk_at "w"
   refine ⟨br e,?_⟩
   refine ixT (s _ _ hp) (v:=V.int w) rfl ?_
   walk_at "w"
   rw [c9 e]
   refine ⟨by rw [List.length_map]; exact aD (by omega),?_⟩
   refine jE (xs:=xs++[c-w]) w0 (s.own hF) hF hp (by rw [ae]; simp) (by simp; omega) fun H' s' e'=>q H' s' ?_
   rw [if_pos hc]; exact e'
 . rw [decide_eq_false hc]
   refine iteF ?_
   refine jE w0 s hF hp e (by omega) fun H' s' e'=>q H' s' ?_
   rw [if_neg hc,List.append_nil]; exact e'
theorem jG {K:Frag} {H0 H:Hp} {Q:VK} {p F:Addr} {h w g c:Int} {xs:List Int} (w0:0<w) (s:Same H0 H) (hF:H0 F=none) (hp:IsFl H0 p h w g) (e:H F=some (.lst (xs.map V.int))) (hl:xs.length<=1) (q:∀ H',Same H0 H'->H' F=some (.lst ((xs++(if c%w<w-1 then [c+1] else [])++(if 0<c/w then [c-w] else [])++(if c/w<h-1 then [c+w] else [])).map V.int))->Q (.ref F) H'):
  fj K { nx:=fun _ H'=>Q .non H',rt:=Q } [some (.ref p),some (.int c),some (.int (c/w)),some (.ref F)] H:=by
 unfold fj
 rw [aL,aI]
 walk_at "w"
 refine ixT (s _ _ hp) (v:=V.int w) rfl ?_
 walk_at "w"
 refine ⟨w0,?_⟩
 refine ixT (s _ _ hp) (v:=V.int w) rfl ?_
 walk_at "w"
 by_cases hc:c%w<w-1
 . rw [decide_eq_true hc]
   refine iteT ?_
   walk_at "w"
   refine ⟨br e,?_⟩
   rw [c9 e]
   refine ⟨by rw [List.length_map]; exact aD (by omega),?_⟩
   refine jF (xs:=xs++[c+1]) w0 (s.own hF) hF hp (by rw [ae]; simp) (by simp; omega) fun H' s' e'=>q H' s' ?_
   rw [if_pos hc]; exact e'
 . rw [decide_eq_false hc]
   refine iteF ?_
   refine jF w0 s hF hp e (by omega) fun H' s' e'=>q H' s' ?_
   rw [if_neg hc,List.append_nil]; exact e'
theorem oY {K:Frag} {vs:List V} {H:Hp} {Q:VK} {E:XK} (h:bg K vs H Q E):dY K { nx:=fun _ H'=>Q .non H',rt:=Q } (start ["_law_floor_here","_law_cell","_law_row","_law_found"] vs) H:=by
 obtain ⟨p,h,w,g,c,rfl,hp,w0,w1,q⟩:=h
 show dY K _ [some (.ref p),some (.int c),none,none] H
 unfold dY
 walk_at "w"
 refine ixT hp (v:=V.int w) rfl ?_
 walk_at "w"
 refine ⟨⟨by omega,by omega⟩,aB (by decide),fun F hF=>?_⟩
 have s:Same H (upd H F (.lst [])):=(Same.refl H).laid hF
 have e:(upd H F (.lst [])) F=some (.lst (([]:List Int).map V.int)):=ae
 generalize upd H F (.lst [])=H1 at*
 unfold jC
 rw [aL,aI]
 walk_at "w"
 refine ixT (s _ _ hp) (v:=V.int w) rfl ?_
 walk_at "w"
 refine ⟨w0,?_⟩
 by_cases hc:0<c%w
 . rw [decide_eq_true hc]
   refine iteT ?_
   walk_at "w"
   refine ⟨br e,?_⟩
   rw [c9 e]
   refine ⟨by rw [List.length_map]; exact aD (by decide),?_⟩
   refine jG (xs:=[c-1]) w0 (s.own hF) hF hp (by rw [ae]; simp) (by simp) fun H' s' e'=>q F H' s' hF ?_
   unfold gA
   rw [if_pos hc]; exact e'
 . rw [decide_eq_false hc]
   refine iteF ?_
   refine jG (xs:=[]) w0 s hF hp e (by simp) fun H' s' e'=>q F H' s' hF ?_
   unfold gA
   rw [if_neg hc]; exact e'
structure JI (h w:Int) (ms left edge:List Int):Prop where
 nd:left.Nodup
 sub:∀ x∈left,x∈ms
 rc:∀ x∈ms,x∉left->RC h w ms (ms.headD 0) x
 ed:∀ x∈edge,RC h w ms (ms.headD 0) x
 cl:∀ x∈ms,x∉left->∀ y∈besL h w x,y∈left->y∈edge
 hd:ms≠[]->ms.headD 0∈left->ms.headD 0∈edge
theorem JI.start {h w:Int} {ms:List Int} (nd:ms.Nodup):JI h w ms ms (ms.take 1):=by
 match ms,nd with
 | [],_=>exact ⟨List.nodup_nil,fun x h=>h,(fun x h=>nomatch h),(fun x h=>nomatch h),(fun x h=>nomatch h),fun h=>absurd rfl h⟩
 | a::r,nd=>
  refine ⟨nd,fun x h=>h,fun x h1 h2=>absurd h1 h2,fun x hx=>?_,fun x h1 h2=>absurd h1 h2,fun _ _=>List.mem_cons_self⟩
  have:x=a:=by simpa using hx
  subst this
  exact RC.start List.mem_cons_self
theorem JI.skip {h w:Int} {ms left edge:List Int} {c:Int} (J:JI h w ms left (edge++[c])) (hc:c∉left):JI h w ms left edge:=by
 have off:∀ y,y∈left->y∈edge++[c]->y∈edge:=fun y hy he=>by
  rcases List.mem_append.mp he with h | h
  . exact h
  . rw [List.mem_singleton.mp h] at hy; exact absurd hy hc
 exact ⟨J.nd,J.sub,J.rc,fun x hx=>J.ed x (List.mem_append.mpr (.inl hx)),fun x h1 h2 y h3 h4=>off y h4 (J.cl x h1 h2 y h3 h4),fun a b=>off _ b (J.hd a b)⟩
theorem JI.take {h w:Int} {ms left edge:List Int} {c:Int} (J:JI h w ms left (edge++[c])) (hc:c∈left):JI h w ms (left.erase c) (edge++(gA h w c).filter fun y=>decide (y∈left.erase c)):=by
 have me:∀ y,y∈left.erase c↔y≠c/\y∈left:=fun y=>J.nd.mem_erase_iff
 have rcc:RC h w ms (ms.headD 0) c:=J.ed c (List.mem_append.mpr (.inr List.mem_cons_self))
 have pb:=qA h w c
 refine ⟨J.nd.erase c,fun x hx=>J.sub x ((me x).mp hx).2,fun x h1 h2=>?_,fun x hx=>?_,fun x h1 h2 y h3 h4=>?_,fun a b=>?_⟩
 . by_cases e:x=c
   . rw [e]; exact rcc
   . exact J.rc x h1 fun hl=>h2 ((me x).mpr ⟨e,hl⟩)
 . rcases List.mem_append.mp hx with hx | hx
   . exact J.ed x (List.mem_append.mpr (.inl hx))
   . obtain ⟨b1,b2⟩:=List.mem_filter.mp hx
     have b2:=of_decide_eq_true b2
     exact RC.step rcc (pb.mem_iff.mp b1) (J.sub x ((me x).mp b2).2)
 . have h4':=(me y).mp h4
   by_cases e:x=c
   . subst e
     exact List.mem_append.mpr (.inr (List.mem_filter.mpr ⟨pb.mem_iff.mpr h3,decide_eq_true h4⟩))
   . have:=J.cl x h1 (fun hl=>h2 ((me x).mpr ⟨e,hl⟩)) y h3 h4'.2
     rcases List.mem_append.mp this with z | z
     . exact List.mem_append.mpr (.inl z)
     . exact absurd (List.mem_singleton.mp z) h4'.1
 . have b':=(me _).mp b
   rcases List.mem_append.mp (J.hd a b'.2) with z | z
   . exact List.mem_append.mpr (.inl z)
   . exact absurd (List.mem_singleton.mp z) b'.1
theorem JI.done {h w:Int} {ms left:List Int} (J:JI h w ms left []) (rise:ms.Pairwise (· < ·)):decide (left=[])=joinB h w ms:=by
 rw [Bool.eq_iff_iff,decide_eq_true_iff,joinB_iff]
 constructor
 . rintro rfl
   by_cases e:ms=[]
   . exact .inl e
   . exact .inr ⟨rise,fun x hx=>J.rc x hx (fun h=>nomatch h)⟩
 . intro hj
   have key:∀ x,RC h w ms (ms.headD 0) x->x∉left:=fun x r=>by
    induction r with
    | start hm=>
     intro hl
     exact nomatch J.hd (fun e=>by rw [e] at hm; cases hm) hl
    | @step x y r hy hm ih=>exact fun hl=>nomatch J.cl x r.mem ih y hy hl
   refine List.eq_nil_iff_forall_not_mem.mpr fun x hx=>?_
   rcases hj with e | ⟨_,all⟩
   . have:=J.sub x hx
     rw [e] at this
     cases this
   . exact key x (all x (J.sub x hx)) hx
def bO (K:Frag):Sp:=fun vs H Q _=>∃ (p C:Addr) (h w g:Int) (ms:List Int),vs=[.ref p,.ref C]/\IsFl H p h w g/\FlOk h w g/\H C=some (.lst (ms.map V.int))/\ms.length<=63/\ms.Pairwise (· < ·)/\∀ H',Same H H'->Q (.bl (joinB h w ms)) H'
theorem oZ {K:Frag} {vs:List V} {H:Hp} {Q:VK} {E:XK} (h:bO K vs H Q E):vs.length=2:=by
 obtain ⟨_,_,_,_,_,_,rfl,_⟩:=h; rfl
def dZ (K:Frag):TS:=
 (tSeq (tAsg (tCB kList (tCons (tVar 1) tNil)) (gName 2))
  (tSeq (tAsg (tSl jM (tVar 2) cL (tPart (tC (.int 1)))) (gName 3))
  (tSeq (tz (tTest (tOp (cNe K) (tVar 3) (tLst tNil)))
  (tSeq (tAsg (tL K "list" rPop (tVar 3)) (gName 4))
  (tIfS (tTest (tOp (cIn K false) (tVar 4) (tVar 2))) (tSeq (tDrop (tBM K "list" rg (tVar 2) (tCons (tVar 4) tNil)))
  (tDrop (tBM K "list" kO (tVar 3) (tCons (tComp [none,none,some 2] (iList K (tCall (bg K) [] E0 (tCons (tVar 0) (tCons (tVar 4) tNil)))) (gName 1) (tTest (tOp (cIn K false) (tVar 1) (tVar 2))) (tVar 1)) tNil)))) tNext)))
  (tRet (tOp (cEq K) (tVar 2) (tLst tNil))))))
theorem o0 {K:Frag} {vs:List V} {H:Hp} {Q:VK} {E:XK} (h:bO K vs H Q E):dZ K { nx:=fun _ H'=>Q .non H',rt:=Q } (start ["_law_floor_here","_law_cells","_law_left","_law_edge","_law_cell"] vs) H:=by
 obtain ⟨p,C,h,w,g,ms,rfl,hp,F,hC,hn,rise,q⟩:=h
 obtain ⟨h0,h1,w0,w1,m16,g0,g1⟩:=id F
 have ndm:ms.Nodup:=rise.imp fun h=>Int.ne_of_lt h
 show dZ K _ [some (.ref p),some (.ref C),none,none,none] H
 unfold dZ
 walk_at "w"
 refine m3 hC fun L hL=>?_
 have s1:Same H (upd H L (.lst (ms.map V.int))):=(Same.refl H).laid hL
 have e1:(upd H L (.lst (ms.map V.int))) L=some (.lst (ms.map V.int)):=ae
 generalize upd H L (.lst (ms.map V.int))=H1 at*
 walk_at "w"
 refine l8 e1 fun G hG=>?_
 rw [oU _ (by decide)]
 have e0:(ms.map V.int).take (1:Int).toNat=(ms.take 1).map V.int:=by rw [← List.map_take]; rfl
 rw [e0]
 have nLG:L≠G:=fun e=>by rw [← e,e1] at hG; cases hG
 have hG0:H G=none:=s1.free hG
 walk_at "w"
 refine ⟨fun m σ H'=>∃ (left edge:List Int) (cv:Option V),σ=[some (.ref p),some (.ref C),some (.ref L),some (.ref G),cv]/\Same H H'/\H' L=some (.lst (left.map V.int))/\H' G=some (.lst (edge.map V.int))/\JI h w ms left edge/\m=5*left.length+edge.length/\m<=400,
  ⟨_,ms,ms.take 1,none,rfl,s1.laid hG,by rw [ai nLG]; exact e1,ae,JI.start ndm,rfl,by rw [List.length_take]; omega⟩,?_⟩
 rintro m σ H2 ⟨left,edge,cv,rfl,s2,eL,eG,J,rfl,hm⟩
 walk_at "w"
 refine ⟨aB (by decide),fun Z hZ=>?_⟩
 have s3:Same H2 (upd H2 Z (.lst [])):=(Same.refl H2).laid hZ
 have eZ:(upd H2 Z (.lst [])) Z=some (.lst (([]:List Int).map V.int)):=ae
 generalize upd H2 Z (.lst [])=H3 at*
 refine tm (s3 _ _ eG) eZ ?_
 have s23:=s2.trans s3
 have eL3:=s3 _ _ eL
 have eG3:=s3 _ _ eG
 rcases List.eq_nil_or_concat edge with rfl | ⟨es,c,rfl⟩
 . rw [decide_eq_true rfl]
   refine ⟨false,rfl,?_⟩
   rw [if_neg Bool.false_ne_true]
   walk_at "w"
   refine ⟨aB (by decide),fun Y hY=>?_⟩
   have s4:Same H3 (upd H3 Y (.lst [])):=(Same.refl H3).laid hY
   have eY:(upd H3 Y (.lst [])) Y=some (.lst (([]:List Int).map V.int)):=ae
   generalize upd H3 Y (.lst [])=H4 at*
   refine sZ (s4 _ _ eL3) eY ?_
   rw [J.done rise]
   exact q _ (s23.trans s4)
 . rw [List.concat_eq_append] at*
   rw [decide_eq_false (by simp)]
   refine ⟨true,rfl,?_⟩
   rw [if_pos rfl]
   refine ⟨fun σ H'=>∃ (left2 edge2:List Int) (cv:Option V),σ=[some (.ref p),some (.ref C),some (.ref L),some (.ref G),cv]/\Same H H'/\H' L=some (.lst (left2.map V.int))/\H' G=some (.lst (edge2.map V.int))/\JI h w ms left2 edge2/\5*left2.length+edge2.length<5*left.length+(es++[c]).length,
    fun σ' H' ⟨l2,g2,cv',e,s',a,b,J',lt⟩=>⟨_,lt,l2,g2,cv',e,s',a,b,J',rfl,by omega⟩,?_⟩
   walk_at "w"
   refine ⟨br eG3,⟨G,_,V.int c,rfl,rfl,eG3,by simp,?_⟩⟩
   have ed:((es++[c]).map V.int).dropLast=es.map V.int:=by rw [List.map_append,List.map_singleton,List.dropLast_concat]
   rw [ed]
   have s5:Same H (upd H3 G (.lst (es.map V.int))):=s23.own hG0
   have eG5:(upd H3 G (.lst (es.map V.int))) G=some (.lst (es.map V.int)):=ae
   have eL5:(upd H3 G (.lst (es.map V.int))) L=some (.lst (left.map V.int)):=by rw [ai nLG]; exact eL3
   generalize upd H3 G (.lst (es.map V.int))=H5 at*
   walk_at "w"
   rw [aI]
   walk_at "w"
   rw [l7 eL5]
   by_cases hc:c∈left
   . rw [decide_eq_true hc]
     refine ⟨true,rfl,iteT ?_⟩
     walk_at "w"
     refine ⟨br eL5,?_⟩
     refine zg eL5 hc ?_
     have s6:Same H (upd H5 L (.lst ((left.erase c).map V.int))):=s5.own hL
     have eL6:(upd H5 L (.lst ((left.erase c).map V.int))) L=some (.lst ((left.erase c).map V.int)):=ae
     have eG6:(upd H5 L (.lst ((left.erase c).map V.int))) G=some (.lst (es.map V.int)):=by rw [ai nLG.symm]; exact eG5
     generalize upd H5 L (.lst ((left.erase c).map V.int))=H6 at*
     walk_at "w"
     refine ⟨br eG6,?_⟩
     refine ⟨p,h,w,g,c,rfl,s6 _ _ hp,by omega,by omega,fun B H7 s7 hB eB=>?_⟩
     have s67:=s6.trans s7
     walk_at "w"
     refine ⟨⟨_,SqL.of eB⟩,?_⟩
     refine cX (xs:=gA h w c) (fun y=>decide (y∈left.erase c)) (fun y=>y) (by have:=ni h w c; omega) (SqL.of eB) ?_ ?_ ?_
     . intro y H8 R8 hy s8 k8
       show tTest _ [none,some (.int y),some (.ref L)] H8 R8
       walk_at "w"
       rw [l7 ((s7.trans s8) _ _ eL6)]
       exact ⟨_,rfl,k8 _ (Same.refl _)⟩
     . intro y H8 Q8 hy hb s8 k8
       show tVar 1 [none,some (.int y),some (.ref L)] H8 Q8
       walk_at "w"
       exact k8 _ (Same.refl _)
     . intro N H8 hN s8 eN
       rw [List.map_id'] at eN
       have s78:=s7.trans s8
       have hl1:=List.length_filter_le (fun y=>decide (y∈left.erase c)) (gA h w c)
       have hl2:=ni h w c
       have hle:(left.erase c).length=left.length-1:=List.length_erase_of_mem hc
       have hpos:0<left.length:=List.length_pos_of_mem hc
       rw [List.length_append,List.length_singleton] at hm
       walk_at "w"
       refine yY (s78 _ _ eG6) eN (by rw [List.length_map,List.length_map]; omega) ?_
       refine ⟨left.erase c,es++(gA h w c).filter (fun y=>decide (y∈left.erase c)),_,rfl,(s6.trans s78).own hG0,by rw [ai nLG]; exact s78 _ _ eL6,by rw [ae,List.map_append],J.take hc,?_⟩
       rw [List.length_append,List.length_append,List.length_singleton]
       omega
   . rw [decide_eq_false hc]
     refine ⟨false,rfl,iteF ?_⟩
     walk_at "w"
     exact ⟨left,es,_,rfl,s5,eL5,eG5,J.skip hc,by rw [List.length_append,List.length_singleton]; omega⟩
theorem wM (n:Int):(rngL 0 n).Pairwise (· < ·):=by
 unfold rngL
 rw [List.pairwise_map]
 exact (List.pairwise_lt_range).imp fun h=>by omega
theorem Am {xs:List Int} {m N:Int}:((List.range (N-0).toNat).filter fun (i:Nat)=>decide (xs.getD (0+(i:Int)).toNat 0=m)).map (fun (i:Nat)=>0+(i:Int))=mkAt xs (rngL 0 N) m:=by
 unfold mkAt rngL
 rw [List.filter_map]
 rfl
theorem zm {xs:List Int} {m N x:Int} (h:x∈mkAt xs (rngL 0 N) m):0<=x/\x<N:=qX (List.mem_filter.mp h).1
theorem BO (w c:Int) (cs:List Int):decide ((((sqL w c).filter fun x=>decide (x∈cs)).length:Int)=4)=(sqL w c).all fun x=>decide (x∈cs):=by
 rw [Bool.eq_iff_iff,decide_eq_true_iff,List.all_eq_true]
 have hl:(sqL w c).length=4:=rfl
 constructor
 . intro h x hx
   have e:((sqL w c).filter fun x=>decide (x∈cs)).length=(sqL w c).length:=by omega
   exact (List.length_filter_eq_length_iff.mp e) x hx
 . intro h
   rw [List.length_filter_eq_length_iff.mpr h]
   rfl
def badS (w:Int) (cs:List Int) (c:Int):Bool:=decide (c%w<w-1)&&(sqL w c).all fun x=>decide (x∈cs)
theorem zn {h w g:Int} (F:FlOk h w g) {cs:List Int} (inn:∀ x∈cs,0<=x/\x<h*w):((squL h w).any fun sq=>sq.all fun c=>decide (c∈cs))=cs.any (badS w cs):=by
 obtain ⟨h0,h1,w0,w1,m16,g0,g1⟩:=F
 rw [Bool.eq_iff_iff,List.any_eq_true,List.any_eq_true]
 constructor
 . rintro ⟨sq,hs,ha⟩
   unfold squL at hs
   obtain ⟨i,hi,rfl⟩:=List.mem_map.mp hs
   obtain ⟨_,hc⟩:=List.mem_filter.mp hi
   unfold cornB at hc
   rw [Bool.and_eq_true,decide_eq_true_eq,decide_eq_true_eq] at hc
   have hm:(i:Int)∈cs:=of_decide_eq_true (List.all_eq_true.mp ha _ (by simp [sqL]))
   exact ⟨i,hm,by unfold badS; rw [decide_eq_true hc.2,Bool.true_and]; exact ha⟩
 . rintro ⟨c,hc,hb⟩
   unfold badS at hb
   rw [Bool.and_eq_true,decide_eq_true_eq] at hb
   have ci:=inn c hc
   have hw:c+w∈cs:=of_decide_eq_true (List.all_eq_true.mp hb.2 _ (by simp [sqL]))
   have wi:=inn _ hw
   refine ⟨sqL w c,?_,hb.2⟩
   unfold squL
   have e:((c.toNat:Nat):Int)=c:=by omega
   refine List.mem_map.mpr ⟨c.toNat,List.mem_filter.mpr ⟨List.mem_range.mpr (by omega),?_⟩,by rw [e]⟩
   rw [e]
   unfold cornB
   rw [decide_eq_true hb.1,Bool.and_true]
   refine decide_eq_true ?_
   have h2:(c+w)/w<h:=Int.ediv_lt_of_lt_mul (by omega) wi.2
   rw [Int.add_ediv_of_dvd_right (Int.dvd_refl w),Int.ediv_self (by omega)] at h2
   omega
def bP (K:Frag):Sp:=fun vs H Q _=>∃ (p f:Addr) (k:RK) (h w g n m:Int) (xs:List Int),vs=[.ref p,.str (tx (nmC k)),.int m,.ref f]/\(k=.Joined\/k=.NoSquare\/k=.Ring)/\IsFl H p h w g/\FlOk h w g/\H f=some (.lst (xs.map V.int))/\(xs.length:Int)=h*w/\∀ H',Same H H'->Q (.bl (hoB k h w (rngL 0 (h*w)) n m xs)) H'
theorem o3 {K:Frag} {vs:List V} {H:Hp} {Q:VK} {E:XK} (h:bP K vs H Q E):vs.length=4:=by
 obtain ⟨_,_,_,_,_,_,_,_,_,rfl,_⟩:=h; rfl
def fk (K:Frag):TS:=
 (tRet (tCall (bO K) [] E0 (tCons (tVar 0) (tCons (tVar 5) tNil))))
def fo (K:Frag):TS:=
 (tSeq (tIfS (tTest (tOp (cEq K) (tVar 1) (tC (.str (tx [114,105,110,103]))))) (tFor (iList K (tVar 5)) (gName 4)
  (tIfS (tTest (tOp (cNe K) (tCB kLen (tCons (tComp [none,none,some 5] (iList K (tCall (bg K) [] E0 (tCons (tVar 0) (tCons (tVar 4) tNil)))) (gName 1) (tTest (tOp (cIn K false) (tVar 1) (tVar 2))) (tVar 1)) tNil)) (tC (.int 2)))) (tRet (tC (.bl false))) tNext)) tNext)
  (fk K))
def fq (K:Frag):TS:=
 (tSeq (tIfS (tTest (tOp (cEq K) (tVar 1) (tC (.str (tx [110,111,115,113,117,97,114,101]))))) (tSeq (tFor (iList K (tVar 5)) (gName 4)
  (tSeq (tAsg (tLst (tCons (tVar 4) (tCons (tOp cAdd (tVar 4) (tC (.int 1))) (tCons (tOp cAdd (tVar 4) (tOp cIx (tVar 0) (tC (.int 1)))) (tCons (tOp cAdd (tOp cAdd (tVar 4) (tOp cIx (tVar 0) (tC (.int 1)))) (tC (.int 1))) tNil))))) (gName 6))
  (tIfS (tAnd (tTest (tOp (cCmp fun i j=>decide (i<j)) (tOp cMod (tVar 4) (tOp cIx (tVar 0) (tC (.int 1)))) (tOp cSub (tOp cIx (tVar 0) (tC (.int 1))) (tC (.int 1))))) (tTest (tOp (cEq K) (tCB kLen (tCons (tComp [none,none,some 5] (iList K (tVar 6)) (gName 1) (tTest (tOp (cIn K false) (tVar 1) (tVar 2))) (tVar 1)) tNil)) (tC (.int 4))))) (tRet (tC (.bl false))) tNext)))
  (tRet (tC (.bl true)))) tNext)
  (fo K))
def d2 (K:Frag):TS:=
 (tSeq (tAsg (tComp [none,none,some 3,some 2] (gK (tCons (tCB kLen (tCons (tVar 3) tNil)) tNil)) (gName 1) (tTest (tOp (cEq K) (tOp cIx (tVar 2) (tVar 1)) (tVar 3))) (tVar 1)) (gName 5))
  (fq K))
structure RG37 (H:Hp) (p C:Addr) (h w g:Int) (cs:List Int):Prop where
 fl:IsFl H p h w g
 F:FlOk h w g
 C:H C=some (.lst (cs.map V.int))
 n:cs.length<=63
 rise:cs.Pairwise (· < ·)
 inn:∀ x∈cs,0<=x/\x<h*w
theorem RG37.same {H H':Hp} {p C:Addr} {h w g:Int} {cs:List Int} (X:RG37 H p C h w g cs) (s:Same H H'):RG37 H' p C h w g cs:=⟨s _ _ X.fl,X.F,s _ _ X.C,X.n,X.rise,X.inn⟩
theorem jH {K:Frag} {H:Hp} {Q:VK} {p C:Addr} {h w g:Int} {cs:List Int} {v1 v2 v3 v4 v6:Option V} (X:RG37 H p C h w g cs) (q:∀ H',Same H H'->Q (.bl (joinB h w cs)) H'):
  fk K { nx:=fun _ H'=>Q .non H',rt:=Q } [some (.ref p),v1,v2,v3,v4,some (.ref C),v6] H:=by
 unfold fk
 walk_at "w"
 exact ⟨p,C,h,w,g,cs,rfl,X.fl,X.F,X.C,X.n,X.rise,q⟩
theorem zo (h w:Int) (cs:List Int) (c:Int):decide ((((gA h w c).filter fun x=>decide (x∈cs)).length:Int)=2)=twoB h w cs c:=by
 unfold twoB
 rw [((qA h w c).filter _).length_eq]
 rw [Bool.eq_iff_iff,decide_eq_true_iff,decide_eq_true_iff]
 omega
theorem jI {K:Frag} {H:Hp} {Q:VK} {p C:Addr} {k:RK} {h w g:Int} {cs:List Int} {v2 v3 v4 v6:Option V} (hk:k=.Joined\/k=.Ring) (X:RG37 H p C h w g cs) (q:∀ H',Same H H'->Q (.bl (match k with | .Ring=>joinB h w cs&&cs.all (twoB h w cs) | _=>joinB h w cs)) H'):
  fo K { nx:=fun _ H'=>Q .non H',rt:=Q } [some (.ref p),some (.str (tx (nmC k))),v2,v3,v4,some (.ref C),v6] H:=by
 obtain ⟨h0,h1,w0,w1,m16,g0,g1⟩:=id X.F
 have xn:=X.n
 unfold fo
 rw [aL,aI]
 walk_at "w"
 rw [bd]
 rcases hk with rfl | rfl
 . rw [decide_eq_false (by decide)]
   refine iteF ?_
   walk_at "w"
   exact jH X q
 . rw [decide_eq_true (by decide)]
   refine iteT ?_
   walk_at "w"
   refine ⟨⟨_,SqL.of X.C⟩,?_⟩
   refine c8 (K:=K) (xs:=cs.map V.int) (fun i σ H'=>∃ v4:Option V,σ=[some (.ref p),some (.str (tx (nmC .Ring))),v2,v3,v4,some (.ref C),v6]/\Same H H'/\((cs.take i).all (twoB h w cs))=true) ⟨_,rfl,Same.refl H,by simp⟩ (fun i σ' H' _ ⟨_,_,s,_⟩=>SqL.of (s _ _ X.C)) ?_ ?_
   . rintro i x σ' H1 hx ⟨v4',rfl,s1,ha⟩
     obtain ⟨z,hz,rfl⟩:=bh hx
     have X1:=X.same s1
     walk_at "w"
     rw [aI]
     walk_at "w"
     refine ⟨p,h,w,g,z,rfl,X1.fl,by omega,by omega,fun B H2 s2 hB eB=>?_⟩
     have X2:=X1.same s2
     walk_at "w"
     refine ⟨⟨_,SqL.of eB⟩,?_⟩
     refine cX (xs:=gA h w z) (fun y=>decide (y∈cs)) (fun y=>y) (by have:=ni h w z; omega) (SqL.of eB) ?_ ?_ ?_
     . intro y H8 R8 hy s8 k8
       show tTest _ [none,some (.int y),some (.ref C)] H8 R8
       walk_at "w"
       rw [l7 (s8 _ _ X2.C)]
       exact ⟨_,rfl,k8 _ (Same.refl _)⟩
     . intro y H8 Q8 hy hb s8 k8
       show tVar 1 [none,some (.int y),some (.ref C)] H8 Q8
       walk_at "w"
       exact k8 _ (Same.refl _)
     . intro N H3 hN s3 eN
       rw [List.map_id'] at eN
       have s13:=(s1.trans s2).trans s3
       walk_at "w"
       rw [bc eN,List.length_map]
       walk_at "w"
       rw [zo]
       have et:cs.take (i+1)=cs.take i++[z]:=by rw [List.take_succ,hz]; rfl
       cases hb:twoB h w cs z with
       | false=>
        refine iteT ?_
        have q1:=q H3 s13
        have e0:(joinB h w cs&&cs.all (twoB h w cs))=false:=by
         rw [Bool.and_eq_false_iff]
         refine .inr ?_
         rw [List.all_eq_false]
         exact ⟨z,List.mem_of_getElem? hz,by rw [hb]; decide⟩
        dsimp only at q1
        rw [e0] at q1
        exact q1
       | true=>
        refine iteF ?_
        refine ⟨_,rfl,s13,?_⟩
        rw [et,List.all_append,ha]
        simp [hb]
   . rintro σ' H1 ⟨v4',rfl,s1,ha⟩
     rw [List.length_map,List.take_length] at ha
     dsimp only at q
     rw [ha,Bool.and_true] at q
     exact jH (X.same s1) fun H' s2=>q H' (s1.trans s2)
theorem mL {K:Frag} {H:Hp} {Q:VK} {p C:Addr} {k:RK} {h w g:Int} {cs:List Int} {v2 v3 v4 v6:Option V} (hk:k=.Joined\/k=.NoSquare\/k=.Ring) (X:RG37 H p C h w g cs) (q:∀ H',Same H H'->Q (.bl (match k with | .Ring=>joinB h w cs&&cs.all (twoB h w cs) | .Joined=>joinB h w cs | _=>!((squL h w).any fun sq=>sq.all fun c=>decide (c∈cs)))) H'):
  fq K { nx:=fun _ H'=>Q .non H',rt:=Q } [some (.ref p),some (.str (tx (nmC k))),v2,v3,v4,some (.ref C),v6] H:=by
 obtain ⟨h0,h1,w0,w1,m16,g0,g1⟩:=id X.F
 have xn:=X.n
 unfold fq
 rw [aL,aI]
 walk_at "w"
 rw [bd]
 rcases hk with rfl | rfl | rfl
 . rw [decide_eq_false (by decide)]
   refine iteF ?_
   exact jI (.inl rfl) X q
 . rw [decide_eq_true (by decide)]
   refine iteT ?_
   dsimp only at q
   rw [zn X.F X.inn] at q
   walk_at "w"
   refine ⟨⟨_,SqL.of X.C⟩,?_⟩
   refine c8 (K:=K) (xs:=cs.map V.int) (fun i σ H'=>∃ v4 v6:Option V,σ=[some (.ref p),some (.str (tx (nmC .NoSquare))),v2,v3,v4,some (.ref C),v6]/\Same H H'/\((cs.take i).any (badS w cs))=false) ⟨_,_,rfl,Same.refl H,by simp⟩ (fun i σ' H' _ ⟨_,_,_,s,_⟩=>SqL.of (s _ _ X.C)) ?_ ?_
   . rintro i x σ' H1 hx ⟨v4',v6',rfl,s1,ha⟩
     obtain ⟨z,hz,rfl⟩:=bh hx
     have X1:=X.same s1
     have et:cs.take (i+1)=cs.take i++[z]:=by rw [List.take_succ,hz]; rfl
     walk_at "w"
     refine ixT X1.fl (v:=V.int w) rfl ?_
     walk_at "w"
     refine ixT X1.fl (v:=V.int w) rfl ?_
     walk_at "w"
     refine ⟨aB (by show (4:Nat)<=1000; decide),fun S hS=>?_⟩
     have s2:Same H1 (upd H1 S (.lst ((sqL w z).map V.int))):=(Same.refl H1).laid hS
     have eS:(upd H1 S (.lst ((sqL w z).map V.int))) S=some (.lst ((sqL w z).map V.int)):=ae
     have hz2:upd H1 S (.lst [V.int z,V.int (z+1),V.int (z+w),V.int (z+w+1)])=upd H1 S (.lst ((sqL w z).map V.int)):=rfl
     rw [hz2]
     generalize upd H1 S (.lst ((sqL w z).map V.int))=H2 at*
     have X2:=X1.same s2
     have s12:=s1.trans s2
     rw [aI]
     walk_at "w"
     refine ixT X2.fl (v:=V.int w) rfl ?_
     walk_at "w"
     refine ⟨by omega,?_⟩
     refine ixT X2.fl (v:=V.int w) rfl ?_
     walk_at "w"
     have eb:badS w cs z=(decide (z%w<w-1)&&(sqL w z).all fun x=>decide (x∈cs)):=rfl
     cases hc:decide (z%w<w-1) with
     | false=>
      rw [hc,Bool.false_and] at eb
      refine iteF ?_
      walk_at "w"
      refine ⟨_,_,rfl,s12,?_⟩
      rw [et,List.any_append,ha]
      simp [eb]
     | true=>
      rw [hc,Bool.true_and] at eb
      refine iteT ?_
      refine ⟨⟨_,SqL.of eS⟩,?_⟩
      refine cX (xs:=sqL w z) (fun y=>decide (y∈cs)) (fun y=>y) (by show (4:Nat)<=900; decide) (SqL.of eS) ?_ ?_ ?_
      . intro y H8 R8 hy s8 k8
        show tTest _ [none,some (.int y),some (.ref C)] H8 R8
        walk_at "w"
        rw [l7 (s8 _ _ X2.C)]
        exact ⟨_,rfl,k8 _ (Same.refl _)⟩
      . intro y H8 Q8 hy hb s8 k8
        show tVar 1 [none,some (.int y),some (.ref C)] H8 Q8
        walk_at "w"
        exact k8 _ (Same.refl _)
      . intro N H3 hN s3 eN
        rw [List.map_id'] at eN
        have s13:=s12.trans s3
        walk_at "w"
        rw [bc eN,List.length_map]
        walk_at "w"
        rw [BO,← eb]
        cases hb:badS w cs z with
        | true=>
         walk_at "w"
         have q1:=q H3 s13
         rw [List.any_eq_true.mpr ⟨z,List.mem_of_getElem? hz,hb⟩] at q1
         exact q1
        | false=>
         walk_at "w"
         refine ⟨_,_,rfl,s13,?_⟩
         rw [et,List.any_append,ha]
         simp [hb]
   . rintro σ' H1 ⟨v4',v6',rfl,s1,ha⟩
     rw [List.length_map,List.take_length] at ha
     rw [ha] at q
     walk_at "w"
     exact q _ s1
 . rw [decide_eq_false (by decide)]
   refine iteF ?_
   exact jI (.inr rfl) X q
theorem o4 {K:Frag} {vs:List V} {H:Hp} {Q:VK} {E:XK} (h:bP K vs H Q E):d2 K { nx:=fun _ H'=>Q .non H',rt:=Q } (start ["_law_floor_here","_law_word","_law_sign","_law_filling","_law_cell","_law_cells","_law_square"] vs) H:=by
 obtain ⟨p,f,k,h,w,g,n,m,xs,rfl,hk,hp,F,hf,hl,q⟩:=h
 obtain ⟨h0,h1,w0,w1,m16,g0,g1⟩:=id F
 show d2 K _ [some (.ref p),some (.str (tx (nmC k))),some (.int m),some (.ref f),none,none,none] H
 unfold d2
 walk_at "w"
 rw [bc hf,List.length_map]
 walk_at "w"
 refine ⟨_,rfl,by omega,by omega,?_⟩
 refine j5 (lo:=0) (fun (i:Nat)=>decide (xs.getD (0+(i:Int)).toNat 0=m)) (fun (i:Nat)=>0+(i:Int)) (by omega) ?_ ?_ ?_
 . intro i H8 R8 hi s8 k8
   have hi':i<xs.length:=by have:i < ((xs.length:Int)).toNat:=hi; omega
   show tTest _ [none,some (.int (0+(i:Int))),some (.ref f),some (.int m)] H8 R8
   walk_at "w"
   refine ixI (s8 _ _ hf) (by omega) (by omega) ?_
   walk_at "w"
   exact k8 _ (Same.refl _)
 . intro i H8 Q8 hi hb s8 k8
   show tVar 1 [none,some (.int (0+(i:Int))),some (.ref f),some (.int m)] H8 Q8
   walk_at "w"
   exact k8 _ (Same.refl _)
 . intro C H1 hC s1 eC
   have e2:=Am (xs:=xs) (m:=m) (N:=h*w)
   rw [show (h*w-0).toNat=((xs.length:Int)).toNat by omega] at e2
   rw [e2] at eC
   have ln:(mkAt xs (rngL 0 (h*w)) m).length<=63:=by
    have:=List.length_filter_le (fun c=>decide (xs.getD c.toNat 0=m)) (rngL 0 (h*w))
    rw [iA] at this
    unfold mkAt
    omega
   refine mL hk ⟨s1 _ _ hp,F,eC,ln,(wM _).filter _,fun x hx=>zm hx⟩ fun H' s2=>?_
   have q1:=q H' (s1.trans s2)
   rcases hk with rfl | rfl | rfl <;> exact q1
theorem iW {l:List Int} {k:Nat} (h:k<l.length):l.getD k 0∈l:=by
 rw [List.getD,List.getElem?_eq_getElem h]; exact List.getElem_mem h
theorem yy (xs cs:List Int) (m:Int):(((sgAt xs cs).filter fun y=>decide (y=m)).length:Int)=((mkAt xs cs m).length:Int):=by
 unfold sgAt mkAt
 rw [List.filter_map,List.length_map]
 rfl
theorem BG (l:List Int):decide (((((List.range (l.length-1)).filter fun (i:Nat)=>decide (l.getD (i+1) 0<=l.getD i 0)).length:Nat):Int)=0)=risB l:=by
 rw [qZ,Bool.eq_iff_iff,decide_eq_true_iff,List.all_eq_true]
 constructor
 . intro h i hi
   have h0:((List.range (l.length-1)).filter fun (i:Nat)=>decide (l.getD (i+1) 0<=l.getD i 0))=[]:=List.eq_nil_of_length_eq_zero (by omega)
   have:=List.filter_eq_nil_iff.mp h0 i hi
   simp only [decide_eq_true_eq] at this
   exact decide_eq_true (by omega)
 . intro h
   have h0:((List.range (l.length-1)).filter fun (i:Nat)=>decide (l.getD (i+1) 0<=l.getD i 0))=[]:=List.filter_eq_nil_iff.mpr fun i hi=>by
    have:=of_decide_eq_true (h i hi)
    simp only [decide_eq_true_eq]
    omega
   rw [h0]; rfl
def mq (l:List Int) (i:Nat):Bool:=decide ((i:Int)=0)||decide (maxI (l.take i)<l.getD i 0)
theorem uJ (num:Nat->Int):∀ k,argBest (fun i j=>decide (num i>num j)) k<=k/\∀ j,j<=k->num j<=num (argBest (fun i j=>decide (num i>num j)) k)
 | 0=>⟨Nat.le_refl _,fun j hj=>by rw [show j=0 by omega]; exact Int.le_refl _⟩
 | k+1=>by
  obtain ⟨a,b⟩:=uJ num k
  rw [argBest]
  by_cases h:num (k+1)>num (argBest (fun i j=>decide (num i>num j)) k)
  . rw [if_pos (decide_eq_true h)]
    refine ⟨Nat.le_refl _,fun j hj=>?_⟩
    by_cases e:j=k+1
    . rw [e]; exact Int.le_refl _
    . have:=b j (by omega); omega
  . rw [if_neg (by simpa using h)]
    refine ⟨by omega,fun j hj=>?_⟩
    by_cases e:j=k+1
    . rw [e]; omega
    . exact b j (by omega)
theorem BH {l:List Int} (h:l≠[]) (x:Int):maxI l<x↔∀ y∈l,y<x:=by
 have hl:0<l.length:=List.length_pos_iff.mpr h
 obtain ⟨a,b⟩:=uJ (fun i=>l.getD i 0) (l.length-1)
 unfold maxI
 generalize argBest (fun i j=>decide (l.getD i 0>l.getD j 0)) (l.length-1)=k at*
 constructor
 . intro hx y hy
   obtain ⟨j,hj,rfl⟩:=List.mem_iff_getElem.mp hy
   have:=b j (by omega)
   have e:l.getD j 0=l[j]:=by rw [List.getD,List.getElem?_eq_getElem hj]; rfl
   simp only [e] at this
   omega
 . intro hx
   exact hx _ (iW (by omega))
theorem zp {l:List Int} {i:Nat} {x:Int} (hx:l[i]? =some x):mq l i=decide (∀ y∈l.take i,y<x):=by
 have e:l.getD i 0=x:=by rw [List.getD,hx]; rfl
 unfold mq
 rw [e]
 by_cases h:i=0
 . subst h; simp
 . have hl:=(List.getElem?_eq_some_iff.mp hx).1
   rw [decide_eq_false (by omega),Bool.false_or,Bool.eq_iff_iff,decide_eq_true_iff,decide_eq_true_iff]
   exact BH (by intro e; have:=congrArg List.length e; rw [List.length_take,List.length_nil] at this; omega) x
theorem yz {l:List Int} (h1:∀ y∈l,1<=y):∀ i,i<=l.length->(((List.range i).filter (mq l)).length:Int)=(seenN (l.take i)).2
 | 0,_=>rfl
 | i+1,hi=>by
  have ih:=yz h1 i (by omega)
  have hx:l[i]? =some l[i]:=List.getElem?_eq_getElem (by omega)
  have et:l.take (i+1)=l.take i++[l[i]]:=by rw [List.take_succ,hx]; rfl
  rw [et,ym (h1 _ (List.getElem_mem _)),List.range_succ,List.filter_append,List.length_append,Int.natCast_add,ih,List.filter_cons,zp hx]
  by_cases h:∀ y∈l.take i,y<l[i]
  . rw [if_pos h,decide_eq_true h]; rfl
  . rw [if_neg h,decide_eq_false h]; rfl
theorem wN {i j k o:Nat} {x y z u:V} {H:Hp} {σ:St} {q:St->Hp->Prop} (h:q ((((σ.set i (some x)).set j (some y)).set k (some z)).set o (some u)) H):gCons (gName i) (gCons (gName j) (gCons (gName k) (gCons (gName o) gNil))) [x,y,z,u] σ H q:=⟨x,_,rfl,y,_,rfl,z,_,rfl,u,_,rfl,rfl,h⟩
structure ME37 (H:Hp) (p R C f:Addr) (k:RK) (h w g n m:Int) (cs xs:List Int):Prop where
 fl:IsFl H p h w g
 F:FlOk h w g
 R:H R=some (.tup [.str (tx (nmC k)),.int n,.int m,.ref C])
 C:H C=some (.lst (cs.map V.int))
 f:H f=some (.lst (xs.map V.int))
 l:(xs.length:Int)=h*w
 x6:∀ x∈xs,0<=x/\x<=6
 cn:cs.length<=16
 ci:∀ c∈cs,0<=c/\c<h*w
 k0:k≠.Rule
 ca:(k=.Joined\/k=.NoSquare\/k=.Ring)->cs=rngL 0 (h*w)
 s1:∀ y∈sgAt xs cs,1<=y
theorem ME37.same {H H':Hp} {p R C f:Addr} {k:RK} {h w g n m:Int} {cs xs:List Int} (X:ME37 H p R C f k h w g n m cs xs) (s:Same H H'):ME37 H' p R C f k h w g n m cs xs:=⟨s _ _ X.fl,X.F,s _ _ X.R,s _ _ X.C,s _ _ X.f,X.l,X.x6,X.cn,X.ci,X.k0,X.ca,X.s1⟩
def cS (K:Frag):Sp:=fun vs H Q _=>∃ (p R C f:Addr) (k:RK) (h w g n m:Int) (cs xs:List Int),vs=[.ref p,.ref R,.ref f]/\ME37 H p R C f k h w g n m cs xs/\∀ H',Same H H'->Q (.bl (hoB k h w cs n m xs)) H'
theorem sG {K:Frag} {vs:List V} {H:Hp} {Q:VK} {E:XK} (h:cS K vs H Q E):vs.length=3:=by
 obtain ⟨_,_,_,_,_,_,_,_,_,_,_,_,rfl,_⟩:=h; rfl
def iC (K:Frag):TS:=
 (tRet (tCall (bP K) [] E0 (tCons (tVar 0) (tCons (tVar 3) (tCons (tVar 5) (tCons (tVar 2) tNil))))))
def iD (K:Frag):TS:=
 (tSeq (tIfS (tTest (tOp (cEq K) (tVar 3) (tC (.str (tx [115,101,101,110]))))) (tSeq (sComp 8 [none,none,some 7] (gK (tCons (tCB kLen (tCons (tVar 7) tNil)) tNil)) (gName 1) (tOr (tTest (tOp (cEq K) (tVar 1) (tC (.int 0)))) (tTest (tOp (cCmp fun i j=>decide (j<i)) (tOp cIx (tVar 2) (tVar 1)) (tCB tp (tCons (tSl jM (tVar 2) cL (tPart (tVar 1))) tNil))))) (tVar 1))
  (tRet (tOp (cEq K) (tCB kLen (tCons (tVar 8) tNil)) (tVar 4)))) tNext)
  (iC K))
def iE (K:Frag):TS:=
 (tSeq (tIfS (tTest (tOp (cEq K) (tVar 3) (tC (.str (tx [114,105,115,105,110,103]))))) (tRet (tOp (cEq K) (tCB kLen (tCons (tComp [none,none,some 7] (l0 (tCons (tC (.int 1)) (tCons (tCB kLen (tCons (tVar 7) tNil)) tNil))) (gName 1) (tTest (tOp (cCmp fun i j=>decide (j<=i)) (tOp cIx (tVar 2) (tOp cSub (tVar 1) (tC (.int 1)))) (tOp cIx (tVar 2) (tVar 1)))) (tVar 1)) tNil)) (tC (.int 0)))) tNext)
  (iD K))
def iF (K:Frag):TS:=
 (tSeq (tIfS (tTest (tOp (cEq K) (tVar 3) (tC (.str (tx [99,111,117,110,116]))))) (tRet (tOp (cEq K) (tCB kLen (tCons (tComp [none,none,some 5] (iList K (tVar 7)) (gName 1) (tTest (tOp (cEq K) (tVar 1) (tVar 2))) (tVar 1)) tNil)) (tVar 4))) tNext)
  (iE K))
def iG (K:Frag):TS:=
 (tSeq (tIfS (tTest (tOp (cEq K) (tVar 3) (tC (.str (tx [115,117,109]))))) (tRet (tOp (cEq K) (tCB kSum (tCons (tVar 7) tNil)) (tVar 4))) tNext)
  (iF K))
def iH (K:Frag):TS:=
 (tSeq (tIfS (tTest (tOp (cEq K) (tVar 3) (tC (.str (tx [117,110,108,105,107,101]))))) (tRet (tOp (cEq K) (lW (tVar 7)) (tCB kLen (tCons (tVar 7) tNil)))) tNext)
  (iG K))
def iw (K:Frag):TS:=
 (tSeq (tAsg (tVar 1) (gTup K 4 (gCons (gName 3) (gCons (gName 4) (gCons (gName 5) (gCons (gName 6) gNil))))))
  (tSeq (tAsg (tComp [none,none,some 2] (iList K (tVar 6)) (gName 1) tTrue (tOp cIx (tVar 2) (tVar 1))) (gName 7))
  (iH K)))
theorem o5 {K:Frag} {H:Hp} {Q:VK} {p R C f S:Addr} {k:RK} {h w g n m:Int} {cs xs:List Int} (hk:k=.Joined\/k=.NoSquare\/k=.Ring) (X:ME37 H p R C f k h w g n m cs xs) (eS:H S=some (.lst ((sgAt xs cs).map V.int))) (q:∀ H',Same H H'->Q (.bl (hoB k h w cs n m xs)) H'):
  iC K { nx:=fun _ H'=>Q .non H',rt:=Q } [some (.ref p),some (.ref R),some (.ref f),some (.str (tx (nmC k))),some (.int n),some (.int m),some (.ref C),some (.ref S),none] H:=by
 unfold iC
 walk_at "w"
 rw [X.ca hk] at q
 exact ⟨p,f,k,h,w,g,n,m,xs,rfl,hk,X.fl,X.F,X.f,X.l,q⟩
theorem o6 {K:Frag} {H:Hp} {Q:VK} {p R C f S:Addr} {k:RK} {h w g n m:Int} {cs xs:List Int} (hk:k=.Seen\/k=.Joined\/k=.NoSquare\/k=.Ring) (X:ME37 H p R C f k h w g n m cs xs) (eS:H S=some (.lst ((sgAt xs cs).map V.int))) (q:∀ H',Same H H'->Q (.bl (hoB k h w cs n m xs)) H'):
  iD K { nx:=fun _ H'=>Q .non H',rt:=Q } [some (.ref p),some (.ref R),some (.ref f),some (.str (tx (nmC k))),some (.int n),some (.int m),some (.ref C),some (.ref S),none] H:=by
 have hlen:(sgAt xs cs).length<=16:=by unfold sgAt; rw [List.length_map]; exact X.cn
 unfold iD
 rw [aL,aI]
 walk_at "w"
 rw [bd]
 rcases hk with rfl | hk
 . rw [decide_eq_true (by decide)]
   refine iteT ?_
   walk_at "w"
   rw [bc eS,List.length_map]
   walk_at "w"
   refine ⟨_,rfl,by omega,by omega,?_⟩
   have s1:=X.s1
   generalize hl:sgAt xs cs=l at*
   refine j5 (lo:=0) (mq l) (fun (i:Nat)=>0+(i:Int)) (by omega) ?_ ?_ ?_
   . intro i H8 R8 hi s8 k8
     have hi':i < ((l.length:Int)).toNat:=hi
     show tOr _ _ [none,some (.int (0+(i:Int))),some (.ref S)] H8 R8
     rw [Int.zero_add]
     walk_at "w"
     by_cases h0:(i:Int)=0
     . rw [decide_eq_true h0,if_pos rfl]
       have:mq l i=true:=by unfold mq; rw [decide_eq_true h0]; rfl
       rw [this] at k8
       exact k8 _ (Same.refl _)
     . rw [decide_eq_false h0,if_neg Bool.false_ne_true]
       refine ixI (s8 _ _ eS) (by omega) (by omega) ?_
       walk_at "w"
       refine l8 (s8 _ _ eS) fun Z hZ=>?_
       rw [oU _ (by omega),← List.map_take,Int.toNat_natCast]
       have s9:Same H8 (upd H8 Z (.lst ((l.take i).map V.int))):=(Same.refl H8).laid hZ
       have eZ:(upd H8 Z (.lst ((l.take i).map V.int))) Z=some (.lst ((l.take i).map V.int)):=ae
       generalize upd H8 Z (.lst ((l.take i).map V.int))=H9 at*
       walk_at "w"
       refine A9 eZ (by rw [List.length_take]; omega) ?_
       walk_at "w"
       have k9:=k8 _ s9
       unfold mq at k9
       rw [decide_eq_false h0,Bool.false_or] at k9
       exact k9
   . intro i H8 Q8 hi hb s8 k8
     show tVar 1 [none,some (.int (0+(i:Int))),some (.ref S)] H8 Q8
     walk_at "w"
     exact k8 _ (Same.refl _)
   . intro N H3 hN s3 eN
     walk_at "w"
     rw [bc eN,List.length_map,List.length_map,Int.toNat_natCast]
     walk_at "w"
     rw [yz s1 l.length (Nat.le_refl _),List.take_length]
     have q1:=q H3 s3
     unfold hoB at q1
     dsimp only at q1
     rw [hl] at q1
     exact q1
 . have ne:¬ nmC k=[115,101,101,110]:=by
    rcases hk with rfl | rfl | rfl <;> decide
   rw [decide_eq_false ne]
   refine iteF ?_
   exact o5 hk X eS q
theorem o7 {K:Frag} {H:Hp} {Q:VK} {p R C f S:Addr} {k:RK} {h w g n m:Int} {cs xs:List Int} (hk:k=.Rising\/k=.Seen\/k=.Joined\/k=.NoSquare\/k=.Ring) (X:ME37 H p R C f k h w g n m cs xs) (eS:H S=some (.lst ((sgAt xs cs).map V.int))) (q:∀ H',Same H H'->Q (.bl (hoB k h w cs n m xs)) H'):
  iE K { nx:=fun _ H'=>Q .non H',rt:=Q } [some (.ref p),some (.ref R),some (.ref f),some (.str (tx (nmC k))),some (.int n),some (.int m),some (.ref C),some (.ref S),none] H:=by
 have hlen:(sgAt xs cs).length<=16:=by unfold sgAt; rw [List.length_map]; exact X.cn
 unfold iE
 rw [aL,aI]
 walk_at "w"
 rw [bd]
 rcases hk with rfl | hk
 . rw [decide_eq_true (by decide)]
   refine iteT ?_
   walk_at "w"
   rw [bc eS,List.length_map]
   walk_at "w"
   refine ⟨_,_,rfl,⟨by decide,by decide,by omega,by omega⟩,?_⟩
   generalize hl:sgAt xs cs=l at*
   refine j5 (fun (i:Nat)=>decide (l.getD (i+1) 0<=l.getD i 0)) (fun (i:Nat)=>1+(i:Int)) (by omega) ?_ ?_ ?_
   . intro i H8 R8 hi s8 k8
     have hi':i < ((l.length:Int)-1).toNat:=hi
     show tTest _ [none,some (.int (1+(i:Int))),some (.ref S)] H8 R8
     walk_at "w"
     refine ixI (s8 _ _ eS) (by omega) (by omega) ?_
     walk_at "w"
     refine ixI (s8 _ _ eS) (by omega) (by omega) ?_
     walk_at "w"
     rw [show (1+(i:Int)-1).toNat=i by omega,show (1+(i:Int)).toNat=i+1 by omega]
     exact k8 _ (Same.refl _)
   . intro i H8 Q8 hi hb s8 k8
     show tVar 1 [none,some (.int (1+(i:Int))),some (.ref S)] H8 Q8
     walk_at "w"
     exact k8 _ (Same.refl _)
   . intro N H3 hN s3 eN
     walk_at "w"
     rw [bc eN,List.length_map,List.length_map,show ((l.length:Int)-1).toNat=l.length-1 by omega]
     walk_at "w"
     rw [BG]
     have q1:=q H3 s3
     unfold hoB at q1
     dsimp only at q1
     rw [hl] at q1
     exact q1
 . have ne:¬ nmC k=[114,105,115,105,110,103]:=by
    rcases hk with rfl | rfl | rfl | rfl <;> decide
   rw [decide_eq_false ne]
   refine iteF ?_
   exact o6 hk X eS q
theorem o8 {K:Frag} {H:Hp} {Q:VK} {p R C f S:Addr} {k:RK} {h w g n m:Int} {cs xs:List Int} (hk:k=.Count\/k=.Rising\/k=.Seen\/k=.Joined\/k=.NoSquare\/k=.Ring) (X:ME37 H p R C f k h w g n m cs xs) (eS:H S=some (.lst ((sgAt xs cs).map V.int))) (q:∀ H',Same H H'->Q (.bl (hoB k h w cs n m xs)) H'):
  iF K { nx:=fun _ H'=>Q .non H',rt:=Q } [some (.ref p),some (.ref R),some (.ref f),some (.str (tx (nmC k))),some (.int n),some (.int m),some (.ref C),some (.ref S),none] H:=by
 have hlen:(sgAt xs cs).length<=16:=by unfold sgAt; rw [List.length_map]; exact X.cn
 unfold iF
 rw [aL,aI]
 walk_at "w"
 rw [bd]
 rcases hk with rfl | hk
 . rw [decide_eq_true (by decide)]
   refine iteT ?_
   walk_at "w"
   refine ⟨⟨_,SqL.of eS⟩,?_⟩
   refine cX (xs:=sgAt xs cs) (fun y=>decide (y=m)) (fun y=>y) (by omega) (SqL.of eS) ?_ ?_ ?_
   . intro y H8 R8 hy s8 k8
     show tTest _ [none,some (.int y),some (.int m)] H8 R8
     walk_at "w"
     exact k8 _ (Same.refl _)
   . intro y H8 Q8 hy hb s8 k8
     show tVar 1 [none,some (.int y),some (.int m)] H8 Q8
     walk_at "w"
     exact k8 _ (Same.refl _)
   . intro N H3 hN s3 eN
     rw [List.map_id'] at eN
     walk_at "w"
     rw [bc eN,List.length_map]
     walk_at "w"
     rw [yy]
     exact q _ s3
 . have ne:¬ nmC k=[99,111,117,110,116]:=by
    rcases hk with rfl | rfl | rfl | rfl | rfl <;> decide
   rw [decide_eq_false ne]
   refine iteF ?_
   exact o7 hk X eS q
theorem o9 {K:Frag} {H:Hp} {Q:VK} {p R C f S:Addr} {k:RK} {h w g n m:Int} {cs xs:List Int} (hk:k=.Sum\/k=.Count\/k=.Rising\/k=.Seen\/k=.Joined\/k=.NoSquare\/k=.Ring) (X:ME37 H p R C f k h w g n m cs xs) (eS:H S=some (.lst ((sgAt xs cs).map V.int))) (q:∀ H',Same H H'->Q (.bl (hoB k h w cs n m xs)) H'):
  iG K { nx:=fun _ H'=>Q .non H',rt:=Q } [some (.ref p),some (.ref R),some (.ref f),some (.str (tx (nmC k))),some (.int n),some (.int m),some (.ref C),some (.ref S),none] H:=by
 have hlen:(sgAt xs cs).length<=16:=by unfold sgAt; rw [List.length_map]; exact X.cn
 unfold iG
 rw [aL,aI]
 walk_at "w"
 rw [bd]
 rcases hk with rfl | hk
 . rw [decide_eq_true (by decide)]
   refine iteT ?_
   walk_at "w"
   refine zA eS (fun y hy=>?_) (by omega) ?_
   . have:=X.s1 y hy
     unfold sgAt at hy
     obtain ⟨c,hc,rfl⟩:=List.mem_map.mp hy
     have b:=X.ci c hc
     have l:=X.l
     have:=X.x6 _ (iW (l:=xs) (k:=c.toNat) (by omega))
     omega
   . walk_at "w"
     exact q H (Same.refl H)
 . have ne:¬ nmC k=[115,117,109]:=by
    rcases hk with rfl | rfl | rfl | rfl | rfl | rfl <;> decide
   rw [decide_eq_false ne]
   refine iteF ?_
   exact o8 hk X eS q
theorem pc {K:Frag} {H:Hp} {Q:VK} {p R C f S:Addr} {k:RK} {h w g n m:Int} {cs xs:List Int} (hk:k=.Unlike\/k=.Sum\/k=.Count\/k=.Rising\/k=.Seen\/k=.Joined\/k=.NoSquare\/k=.Ring) (X:ME37 H p R C f k h w g n m cs xs) (eS:H S=some (.lst ((sgAt xs cs).map V.int))) (q:∀ H',Same H H'->Q (.bl (hoB k h w cs n m xs)) H'):
  iH K { nx:=fun _ H'=>Q .non H',rt:=Q } [some (.ref p),some (.ref R),some (.ref f),some (.str (tx (nmC k))),some (.int n),some (.int m),some (.ref C),some (.ref S),none] H:=by
 have hlen:(sgAt xs cs).length<=16:=by unfold sgAt; rw [List.length_map]; exact X.cn
 unfold iH
 rw [aL,aI]
 walk_at "w"
 rw [bd]
 rcases hk with rfl | hk
 . rw [decide_eq_true (by decide)]
   refine iteT ?_
   walk_at "w"
   refine ⟨S,_,rfl,eS,by omega,?_⟩
   walk_at "w"
   rw [bc eS,List.length_map]
   walk_at "w"
   have q1:=q H (Same.refl H)
   unfold hoB at q1
   dsimp only at q1
   have e:decide (((cntD (sgAt xs cs):Nat):Int)=((sgAt xs cs).length:Nat))=decide (cntD (sgAt xs cs)=(sgAt xs cs).length):=by
    rw [Bool.eq_iff_iff,decide_eq_true_eq,decide_eq_true_eq]
    omega
   rw [e]
   exact q1
 . have ne:¬ nmC k=[117,110,108,105,107,101]:=by
    rcases hk with rfl | rfl | rfl | rfl | rfl | rfl | rfl <;> decide
   rw [decide_eq_false ne]
   refine iteF ?_
   exact o9 hk X eS q
theorem sH {K:Frag} {vs:List V} {H:Hp} {Q:VK} {E:XK} (h:cS K vs H Q E):iw K { nx:=fun _ H'=>Q .non H',rt:=Q } (start ["_law_floor_here","_law_rule_here","_law_filling","_law_word","_law_number","_law_sign","_law_cells","_law_signs","_law_seen"] vs) H:=by
 obtain ⟨p,R,C,f,k,h,w,g,n,m,cs,xs,rfl,X,q⟩:=h
 have cn:=X.cn
 have xl:=X.l
 show iw K _ [some (.ref p),some (.ref R),some (.ref f),none,none,none,none,none,none] H
 unfold iw
 walk_at "w"
 refine m4 X.R rfl (wN ?_)
 walk_at "w"
 refine ⟨⟨_,SqL.of X.C⟩,?_⟩
 refine cX (xs:=cs) (fun _=>true) (fun c=>xs.getD c.toNat 0) (by omega) (SqL.of X.C) ?_ ?_ ?_
 . intro y H8 R8 hy s8 k8
   exact k8 _ (Same.refl _)
 . intro y H8 Q8 hy hb s8 k8
   have b:=X.ci y hy
   show tOp cIx _ _ [none,some (.int y),some (.ref f)] H8 Q8
   walk_at "w"
   refine ixI (s8 _ _ X.f) (by omega) (by omega) ?_
   exact k8 _ (Same.refl _)
 . intro S H1 hS s1 eS
   rw [bp] at eS
   have hk:k=.Unlike\/k=.Sum\/k=.Count\/k=.Rising\/k=.Seen\/k=.Joined\/k=.NoSquare\/k=.Ring:=by
    have:=X.k0
    cases k <;> first | exact absurd rfl this | simp
   exact pc hk (X.same s1) eS fun H' s2=>q H' (s1.trans s2)
def kX (masks:List Int) (fs:List (List Int)) (o:Int):List (List Int):=(extS fs o (sgL (masks.getD o.toNat 0))).take 40
def bI (masks rest:List Int) (fs:List (List Int)):List (List Int):=rest.foldl (kX masks) fs
def prodN (masks rest:List Int) (a:Nat):Nat:=(sgAt masks rest).foldl (fun p m=>p*(sgL m).length) a
theorem jt (masks:List Int) (o:Int) (r:List Int) (a:Nat):prodN masks (o::r) a=prodN masks r (a*(sgL (masks.getD o.toNat 0)).length):=rfl
theorem pe {masks:List Int}:∀ {rest:List Int} {a:Nat},(∀ o∈rest,1<=(sgL (masks.getD o.toNat 0)).length)->a<=prodN masks rest a
 | [],a,_=>Nat.le_refl _
 | o::r,a,h=>by
  rw [jt]
  have h1:=h o List.mem_cons_self
  have h2:=pe (masks:=masks) (rest:=r) (a:=a*(sgL (masks.getD o.toNat 0)).length) fun c hc=>h c (List.mem_cons_of_mem _ hc)
  have h3:a*1<=a*(sgL (masks.getD o.toNat 0)).length:=Nat.mul_le_mul_left a h1
  omega
theorem rm {masks:List Int}:∀ {rest:List Int} {fs:List (List Int)},(∀ o∈rest,1<=(sgL (masks.getD o.toNat 0)).length)->fs.length<=40->(prodN masks rest fs.length<=40->bI masks rest fs=wfold masks rest fs)/\(40<prodN masks rest fs.length->(bI masks rest fs).length=40)
 | [],fs,_,hf=>⟨fun _=>rfl,fun h=>by have:prodN masks [] fs.length=fs.length:=rfl; omega⟩
 | o::r,fs,h,hf=>by
  have hr:∀ c∈r,1<=(sgL (masks.getD c.toNat 0)).length:=fun c hc=>h c (List.mem_cons_of_mem _ hc)
  have el:=jP o (sgL (masks.getD o.toNat 0)) fs
  rw [jt,← el]
  have e1:bI masks (o::r) fs=bI masks r ((extS fs o (sgL (masks.getD o.toNat 0))).take 40):=rfl
  have e2:wfold masks (o::r) fs=wfold masks r (extS fs o (sgL (masks.getD o.toNat 0))):=rfl
  rw [e1,e2]
  generalize extS fs o (sgL (masks.getD o.toNat 0))=E at*
  by_cases hE:E.length<=40
  . rw [List.take_of_length_le hE]
    exact rm hr hE
  . have hl:(E.take 40).length=40:=by rw [List.length_take]; omega
    have ge:=pe (masks:=masks) (rest:=r) (a:=E.length) hr
    have ge40:=pe (masks:=masks) (rest:=r) (a:=40) hr
    have ih:=rm (masks:=masks) (rest:=r) (fs:=E.take 40) hr (by omega)
    rw [hl] at ih
    refine ⟨fun h=>by omega,fun _=>?_⟩
    by_cases h4:prodN masks r 40<=40
    . rw [ih.1 h4,ly,hl]
      have:prodN masks r 40=(sgAt masks r).foldl (fun p m=>p*(sgL m).length) 40:=rfl
      omega
    . exact ih.2 (by omega)
theorem uK (masks:List Int):∀ rest:List Int,bI masks rest []=[]
 | []=>rfl
 | o::r=>by
  show bI masks r ((extS [] o _).take 40)=[]
  exact uK masks r
theorem rZ {masks:List Int}:∀ {rest:List Int} {fs:List (List Int)},(∃ o∈rest,sgL (masks.getD o.toNat 0)=[])->bI masks rest fs=[]/\∀ a,prodN masks rest a=0
 | [],_,h=>by obtain ⟨_,h,_⟩:=h; cases h
 | o::r,fs,h=>by
  have pz:∀ r:List Int,prodN masks r 0=0:=fun r=>by
   induction r with
   | nil=>rfl
   | cons c t ih=>rw [jt,Nat.zero_mul]; exact ih
  by_cases ho:sgL (masks.getD o.toNat 0)=[]
  . refine ⟨?_,fun a=>by rw [jt,ho]; exact pz r⟩
    show bI masks r ((extS fs o (sgL (masks.getD o.toNat 0))).take 40)=[]
    have e:extS fs o []=[]:=List.eq_nil_of_length_eq_zero (by rw [jP]; simp)
    rw [ho,e]
    exact uK masks r
  . obtain ⟨c,hc,h0⟩:=h
    rcases List.mem_cons.mp hc with rfl | hc
    . exact absurd h0 ho
    . obtain ⟨a,b⟩:=rZ (masks:=masks) (rest:=r) (fs:=(extS fs o (sgL (masks.getD o.toNat 0))).take 40) ⟨c,hc,h0⟩
      exact ⟨a,fun a=>by rw [jt]; exact b _⟩
theorem wO {k:RK} {h w:Int} {cs masks:List Int} {n m z s:Int} (mm:∀ o∈othL cs z,0<=masks.getD o.toNat 0/\masks.getD o.toNat 0<64):
  (decide ((bI masks (othL cs z) [setL (List.replicate masks.length 0) z s]).length<=32)&&!((bI masks (othL cs z) [setL (List.replicate masks.length 0) z s]).any fun f=>hoB k h w cs n m f))=waysB k h w cs n m masks z s []:=by
 unfold waysB
 rw [decide_eq_true rfl,Bool.true_and]
 have sg0:∀ o∈othL cs z,(sgL (masks.getD o.toNat 0)=[]↔masks.getD o.toNat 0=0):=fun o ho=>by
  have b:=mm o ho
  constructor
  . intro e
    by_cases h0:masks.getD o.toNat 0=0
    . exact h0
    . have:=(zC b.1 b.2 h0).1.1
      rw [e] at this
      simp at this
  . intro e; rw [e]; exact yk
 by_cases hz:∃ o∈othL cs z,sgL (masks.getD o.toNat 0)=[]
 . obtain ⟨e1,e2⟩:=rZ (fs:=[setL (List.replicate masks.length 0) z s]) hz
   have h0:0∈sgAt masks (othL cs z):=by
    obtain ⟨o,ho,e⟩:=hz
    exact List.mem_map.mpr ⟨o,ho,(sg0 o ho).mp e⟩
   have p0:prodW (sgAt masks (othL cs z))=0:=e2 1
   rw [e1,p0,decide_eq_true h0]
   rfl
 . have nz:∀ o∈othL cs z,1<=(sgL (masks.getD o.toNat 0)).length:=fun o ho=>by
    have:sgL (masks.getD o.toNat 0)≠[]:=fun e=>hz ⟨o,ho,e⟩
    exact List.length_pos_iff.mpr this
   have h0:¬ 0∈sgAt masks (othL cs z):=fun hm=>by
    obtain ⟨o,ho,e⟩:=List.mem_map.mp hm
    exact hz ⟨o,ho,(sg0 o ho).mpr e⟩
   rw [decide_eq_false h0,Bool.false_or]
   have f:=rm (masks:=masks) (rest:=othL cs z) (fs:=[setL (List.replicate masks.length 0) z s]) nz (by simp)
   have ep:prodN masks (othL cs z) 1=prodW (sgAt masks (othL cs z)):=rfl
   have f1:prodN masks (othL cs z) [setL (List.replicate masks.length 0) z s].length=prodW (sgAt masks (othL cs z)):=rfl
   rw [f1] at f
   by_cases h4:prodW (sgAt masks (othL cs z))<=40
   . rw [f.1 h4]
     have wl:=ly masks (othL cs z) [setL (List.replicate masks.length 0) z s]
     have wl:(wfold masks (othL cs z) [setL (List.replicate masks.length 0) z s]).length=prodW (sgAt masks (othL cs z)):=wl
     rw [wl]
     rfl
   . have:=f.2 (by omega)
     rw [this,decide_eq_false (show ¬ prodW (sgAt masks (othL cs z))<=32 by omega)]
     rfl
theorem r8 {f:List Int} {c:Nat} {s:Int} (hc:c<f.length):f.take c++[s]++f.drop (c+1)=setL f (c:Int) s:=by
 refine List.ext_getElem? fun i=>?_
 unfold setL
 rw [List.getElem?_map]
 by_cases hi:i<f.length
 . rw [List.getElem?_range hi]
   simp only [Option.map_some]
   by_cases h1:i<c
   . rw [if_neg (by omega),List.append_assoc,List.getElem?_append_left (by rw [List.length_take]; omega),List.getElem?_take_of_lt h1,List.getElem?_eq_getElem hi,List.getD,List.getElem?_eq_getElem hi]; rfl
   . by_cases h2:i=c
     . subst h2
       rw [if_pos rfl,List.append_assoc,List.getElem?_append_right (by rw [List.length_take]; omega),List.length_take,show i-min i f.length=0 by omega]; rfl
     . rw [if_neg (by omega),List.getElem?_append_right (by rw [List.length_append,List.length_take,List.length_singleton]; omega),List.length_append,List.length_take,List.length_singleton,List.getElem?_drop,show c+1+(i - (min c f.length+1))=i by omega,List.getElem?_eq_getElem hi,List.getD,List.getElem?_eq_getElem hi]; rfl
 . rw [List.getElem?_eq_none (by rw [List.length_append,List.length_append,List.length_take,List.length_drop,List.length_singleton]; omega),List.getElem?_eq_none (by simpa using hi)]; rfl
theorem yA {p:Nat->Bool} {g:Nat} (hg:g<=6) (hp:∀ j,g<=j->p j=false):(List.range 6).filter p=(List.range g).filter p:=by
 have e:List.range 6=List.range g++(List.range (6-g)).map (g+·):=by rw [← List.range_add,show g+(6-g)=6 by omega]
 rw [e,List.filter_append]
 have e2:((List.range (6-g)).map (g+·)).filter p=[]:=List.filter_eq_nil_iff.mpr fun x hx=>by
  obtain ⟨j,_,rfl⟩:=List.mem_map.mp hx
  rw [hp _ (by omega)]; decide
 rw [e2,List.append_nil]
theorem Bg {g m:Int} (m0:0<=m) (m1:m<64) (g0:1<=g) (g6:g<=6) (wi:fW g m):sgL m=((List.range g.toNat).filter fun (j:Nat)=>stB m (1+(j:Int))).map fun (j:Nat)=>1+(j:Int):=by
 rw [(lY m0 m1).2]
 have e:=yA (p:=fun (j:Nat)=>stB m (1+(j:Int))) (g:=g.toNat) (by omega) fun j hj=>by
  cases h:stB m (1+(j:Int)) with
  | false=>rfl
  | true=>have:=wi _ h; omega
 have e6:List.range 6=[0,1,2,3,4,5]:=rfl
 rw [← e]
 rfl
theorem yB {j:Int} (j0:0<=j) (j1:j<6):0 < (1:Int)*2^j.toNat/\(1:Int)*2^j.toNat<1073741824:=by
 have:j=0\/j=1\/j=2\/j=3\/j=4\/j=5:=by omega
 rcases this with rfl | rfl | rfl | rfl | rfl | rfl <;> decide
structure D37 (H:Hp) (p R C A T M:Addr) (k:RK) (h w g n m:Int) (cs masks:List Int) (r z s:Int) (ms:List Int):Prop where
 fl:IsFl H p h w g
 F:FlOk h w g
 R:H R=some (.tup [.str (tx (nmC k)),.int n,.int m,.ref C])
 C:H C=some (.lst (cs.map V.int))
 cn:cs.length<=16
 ci:∀ c∈cs,0<=c/\c<h*w
 k0:k≠.Rule
 ca:(k=.Joined\/k=.NoSquare\/k=.Ring)->cs=rngL 0 (h*w)
 A:H A=some (.lst (masks.map V.int))
 ml:(masks.length:Int)=h*w
 mm:∀ m∈masks,0<=m/\m<64
 mw:∀ m∈masks,fW g m
 T:IsTh H T M .ways r z s ms
theorem D37.same {H H':Hp} {p R C A T M:Addr} {k:RK} {h w g n m:Int} {cs masks:List Int} {r z s:Int} {ms:List Int} (X:D37 H p R C A T M k h w g n m cs masks r z s ms) (e:Same H H'):D37 H' p R C A T M k h w g n m cs masks r z s ms:=
 ⟨e _ _ X.fl,X.F,e _ _ X.R,e _ _ X.C,X.cn,X.ci,X.k0,X.ca,e _ _ X.A,X.ml,X.mm,X.mw,X.T.same e⟩
noncomputable def qB (k:RK) (h w g:Int) (cs masks:List Int) (n m at_ r z s:Int) (ms:List Int):Bool:=decide (r=at_)&&(decide (ms=[])&&(decide (z∈cs)&&((decide (1<=s)&&decide (s<=g))&&waysB k h w cs n m masks z s [])))
def cj (K:Frag):Sp:=fun vs H Q _=>∃ (p R C A T M:Addr) (k:RK) (h w g n m:Int) (cs masks:List Int) (at_ r z s:Int) (ms:List Int),vs=[.ref p,.ref R,.ref A,.ref T,.int at_]/\D37 H p R C A T M k h w g n m cs masks r z s ms/\∀ H',Same H H'->Q (.bl (qB k h w g cs masks n m at_ r z s ms)) H'
theorem sI {K:Frag} {vs:List V} {H:Hp} {Q:VK} {E:XK} (h:cj K vs H Q E):vs.length=5:=by
 obtain ⟨_,_,_,_,_,_,_,_,_,_,_,_,_,_,_,_,_,_,_,rfl,_⟩:=h; rfl
def wP (K:Frag):TS:=
 (tFor (l0 (tCons (tC (.int 1)) (tCons (tOp cAdd (tOp cIx (tVar 0) (tC (.int 2))) (tC (.int 1))) tNil))) (gName 9)
  (tIfS (tTest (tOp (cEq K) (tOp cMod (tOp cDiv (tOp cIx (tVar 2) (tVar 6)) (tCall (bi K) [] E0 (tCons (tVar 9) tNil))) (tC (.int 2))) (tC (.int 1)))) (tDrop (tBM K "list" bm (tVar 7) (tCons (tOp cAdd (tOp cAdd (tSl jM (tVar 8) cL (tPart (tVar 6))) (tLst (tCons (tVar 9) tNil))) (tSl jM (tVar 8) (tPart (tOp cAdd (tVar 6) (tC (.int 1)))) cL)) tNil))) tNext))
def wQ (K:Frag):TS:=
 (tSeq (tAsg (tLst tNil) (gName 7))
  (tSeq (tFor (iList K (tVar 5)) (gName 8)
  (wP K))
  (tAsg (tSl jM (tVar 7) cL (tPart (tC (.int 40)))) (gName 5))))
def iI (K:Frag):TS:=
 (tSeq (tIfS (tTest (tOp (cCmp fun i j=>decide (j<i)) (tCB kLen (tCons (tVar 5) tNil)) (tC (.int 32)))) (tRet (tC (.bl false))) tNext)
  (tRet (tOp (cEq K) (tCB kLen (tCons (tComp [none,none,some 0,some 1] (iList K (tVar 5)) (gName 1) (tB (tCall (cS K) [] E0 (tCons (tVar 2) (tCons (tVar 3) (tCons (tVar 1) tNil))))) (tVar 1)) tNil)) (tC (.int 0)))))
def iJ (K:Frag):TS:=
 (tSeq (tFor (iList K (tOp cIx (tVar 1) (tC (.int 3)))) (gName 6)
  (tIfS (tTest (tOp (cNe K) (tVar 6) (tOp cIx (tVar 3) (tC (.int 2))))) (wQ K) tNext))
  (iI K))
def iK (K:Frag):TS:=
 (tSeq (tAsg (tLst (tCons (tOp cRepL (tLst (tCons (tC (.int 0)) tNil)) (tCB kLen (tCons (tVar 2) tNil))) tNil)) (gName 5))
  (tSeq (tAsg (tOp cIx (tVar 3) (tC (.int 3))) (gSub (tOp cIx (tVar 5) (tC (.int 0))) (tOp cIx (tVar 3) (tC (.int 2))) cPut))
  (iJ K)))
def iy (K:Frag):TS:=
 (tSeq (tIfS (tOr (tTest (tOp (cNe K) (tOp cIx (tVar 3) (tC (.int 1))) (tVar 4))) (tOr (tTest (tOp (cNe K) (tOp cIx (tVar 3) (tC (.int 4))) (tLst tNil))) (tOr (tTest (tOp (cIn K true) (tOp cIx (tVar 3) (tC (.int 2))) (tOp cIx (tVar 1) (tC (.int 3))))) (tNot (tTest (tF (cCmp fun i j=>decide (i<=j)) (cCmp fun i j=>decide (i<=j)) (tC (.int 1)) (tOp cIx (tVar 3) (tC (.int 3))) (tOp cIx (tVar 0) (tC (.int 2))))))))) (tRet (tC (.bl false))) tNext)
  (iK K))
structure FI37 (n:Nat) (done:List Int) (f:List Int):Prop where
 l:f.length=n
 x6:∀ x∈f,0<=x/\x<=6
 d:∀ c∈done,0<=c->c.toNat<n->1<=f.getD c.toNat 0
theorem yC {f:List Int} {z s:Int} {c:Nat} (hc:c<f.length):(setL f z s).getD c 0=if (c:Int)=z then s else f.getD c 0:=by
 unfold setL
 rw [List.getD,List.getElem?_map,List.getElem?_range hc]
 rfl
theorem FI37.set {n:Nat} {done f:List Int} {z s:Int} (X:FI37 n done f) (s0:1<=s) (s6:s<=6) (D:List Int) (hD:∀ c∈D,c=z\/c∈done):FI37 n D (setL f z s):=by
 refine ⟨by rw [oW]; exact X.l,rf (by omega) s6 X.x6,fun c hc c0 c1=>?_⟩
 rw [yC (by rw [X.l]; exact c1)]
 by_cases e:((c.toNat:Nat):Int)=z
 . rw [if_pos e]; exact s0
 . rw [if_neg e]
   rcases hD c hc with e2 | e2
   . omega
   . exact X.d c e2 c0 c1
theorem zq {K:Frag} {D:Ends} {H1 H:Hp} {p R C A T M B f:Addr} {bs:List Addr} {k:RK} {h w g n m c:Int} {cs masks:List Int} {r z s:Int} {ms:List Int} {xs:List Int} {yss:List (List Int)} {v4 v5 v9:Option V} (X:D37 H1 p R C A T M k h w g n m cs masks r z s ms) (s1:Same H1 H) (hB:H1 B=none) (x:IsLL H B bs yss) (nB:B∉bs) (yl:yss.length+6<=900) (ef:H1 f=some (.lst (xs.map V.int))) (xl:(xs.length:Int)=h*w) (c0:0<=c) (c1:c<h*w)
  (q:∀ (v9:Option V) (bs:List Addr) (H':Hp),Same H1 H'->IsLL H' B bs (yss++(sgL (masks.getD c.toNat 0)).map fun t=>setL xs c t)->B∉bs->D.nx [some (.ref p),some (.ref R),some (.ref A),some (.ref T),v4,v5,some (.int c),some (.ref B),some (.ref f),v9] H'):
  wP K D [some (.ref p),some (.ref R),some (.ref A),some (.ref T),v4,v5,some (.int c),some (.ref B),some (.ref f),v9] H:=by
 obtain ⟨h0,h1,w0,w1,m16,g0,g1⟩:=id X.F
 have ml:=X.ml
 have mi:masks.getD c.toNat 0∈masks:=iW (by omega)
 have mb:=X.mm _ mi
 have mw:=X.mw _ mi
 generalize hmk:masks.getD c.toNat 0=mk at*
 have eg:=Bg mb.1 mb.2 g0 g1 mw
 unfold wP
 walk_at "w"
 refine ixT (s1 _ _ X.fl) (v:=V.int g) rfl ?_
 walk_at "w"
 refine ⟨1,g+1,rfl,⟨by decide,by decide,by omega,by omega⟩,?_⟩
 refine kd (fun i σ H'=>∃ (v9:Option V) (bs:List Addr),σ=[some (.ref p),some (.ref R),some (.ref A),some (.ref T),v4,v5,some (.int c),some (.ref B),some (.ref f),v9]/\Same H1 H'/\IsLL H' B bs (yss++(((List.range i).filter fun (j:Nat)=>stB mk (1+(j:Int))).map fun (j:Nat)=>1+(j:Int)).map fun t=>setL xs c t)/\B∉bs)
  ⟨_,bs,rfl,s1,by simpa using x,nB⟩ ?_ ?_
 . rintro i σ H2 hi ⟨v9,bs2,rfl,s2,x2,nB2⟩
   have hi':i < (g+1-1).toNat:=hi
   have X2:=X.same s2
   walk_at "w"
   rw [aI]
   walk_at "w"
   refine ixI X2.A c0 (by omega) ?_
   rw [hmk]
   walk_at "w"
   refine ⟨_,rfl,by omega,by omega,fun H3 s3=>?_⟩
   have s23:=s2.trans s3
   walk_at "w"
   have pw:=yB (j:=1+(i:Int)-1) (by omega) (by omega)
   refine ⟨⟨pw.1,pw.2⟩,by decide,?_⟩
   rw [zh mb.1 mb.2 (by omega) (by omega)]
   cases hb:stB mk (1+(i:Int)) with
   | false=>
    refine iteF ?_
    walk_at "w"
    refine ⟨_,bs2,rfl,s23,?_,nB2⟩
    rw [List.range_succ,List.filter_append,List.filter_cons,hb]
    simpa using x2.same s3
   | true=>
    refine iteT ?_
    walk_at "w"
    have x3:=x2.same s3
    refine ⟨br x3.top,?_⟩
    have ec:c=((c.toNat:Nat):Int):=by omega
    have hc:c.toNat<xs.length:=by omega
    refine l8 (s23 _ _ ef) fun Z1 hZ1=>?_
    rw [ec,yq,← ec]
    have a1:Same H3 (upd H3 Z1 (.lst ((xs.take c.toNat).map V.int))):=(Same.refl H3).laid hZ1
    have e1:(upd H3 Z1 (.lst ((xs.take c.toNat).map V.int))) Z1=some (.lst ((xs.take c.toNat).map V.int)):=ae
    generalize upd H3 Z1 (.lst ((xs.take c.toNat).map V.int))=K1 at*
    walk_at "w"
    refine ⟨aB (by show (1:Nat)<=1000; decide),fun Z2 hZ2=>?_⟩
    have a2:Same K1 (upd K1 Z2 (.lst [V.int (1+(i:Int))])):=(Same.refl K1).laid hZ2
    have e2:(upd K1 Z2 (.lst [V.int (1+(i:Int))])) Z2=some (.lst [V.int (1+(i:Int))]):=ae
    generalize upd K1 Z2 (.lst [V.int (1+(i:Int))])=K2 at*
    refine pR (a2 _ _ e1) e2 (by rw [List.length_map,List.length_take,List.length_singleton]; omega) fun Z3 hZ3=>?_
    have a3:Same K2 (upd K2 Z3 (.lst ((xs.take c.toNat).map V.int++[V.int (1+(i:Int))]))):=(Same.refl K2).laid hZ3
    have e3:(upd K2 Z3 (.lst ((xs.take c.toNat).map V.int++[V.int (1+(i:Int))]))) Z3=some (.lst ((xs.take c.toNat).map V.int++[V.int (1+(i:Int))])):=ae
    generalize upd K2 Z3 (.lst ((xs.take c.toNat).map V.int++[V.int (1+(i:Int))]))=K3 at*
    have a13:=(a1.trans a2).trans a3
    walk_at "w"
    refine l8 ((s23.trans a13) _ _ ef) fun Z4 hZ4=>?_
    have ec1:c+1=((c.toNat+1:Nat):Int):=by omega
    rw [ec1,Bd _ _ (by omega)]
    have a4:Same K3 (upd K3 Z4 (.lst ((xs.drop (c.toNat+1)).map V.int))):=(Same.refl K3).laid hZ4
    have e4:(upd K3 Z4 (.lst ((xs.drop (c.toNat+1)).map V.int))) Z4=some (.lst ((xs.drop (c.toNat+1)).map V.int)):=ae
    generalize upd K3 Z4 (.lst ((xs.drop (c.toNat+1)).map V.int))=K4 at*
    refine pR (a4 _ _ e3) e4 (by simp; omega) fun Z5 hZ5=>?_
    have es:((xs.take c.toNat).map V.int++[V.int (1+(i:Int))]++(xs.drop (c.toNat+1)).map V.int)=(setL xs c (1+(i:Int))).map V.int:=by
     have:=r8 (f:=xs) (c:=c.toNat) (s:=1+(i:Int)) hc
     rw [← ec] at this
     rw [← this]
     simp
    rw [es]
    have a5:Same K4 (upd K4 Z5 (.lst ((setL xs c (1+(i:Int))).map V.int))):=(Same.refl K4).laid hZ5
    have e5:(upd K4 Z5 (.lst ((setL xs c (1+(i:Int))).map V.int))) Z5=some (.lst ((setL xs c (1+(i:Int))).map V.int)):=ae
    have a15:=(a13.trans a4).trans a5
    have nZ:Z5≠B:=fun e=>by
     rw [e] at hZ5
     rw [(a13.trans a4) _ _ x3.top] at hZ5
     cases hZ5
    generalize upd K4 Z5 (.lst ((setL xs c (1+(i:Int))).map V.int))=K5 at*
    have x5:=x3.same a15
    walk_at "w"
    rw [c9 x5.top]
    have hll:=x2.len
    have fl:=List.length_filter_le (fun (j:Nat)=>stB mk (1+(j:Int))) (List.range i)
    rw [List.length_range] at fl
    refine ⟨by
     rw [List.length_map,hll,List.length_append,List.length_map,List.length_map]
     exact aD (by omega),_,bs2++[Z5],rfl,(s23.trans a15).own hB,?_,?_⟩
    . have z:=x5.app (bs:=[Z5]) (yss:=[setL xs c (1+(i:Int))]) nB2 (by simpa using nZ.symm) rfl fun j a ys h1 h2=>by
       match j,h1,h2 with
       | 0,h1,h2=>
        simp at h1 h2
        subst h1 h2
        exact e5
       | j+1,h1,_=>simp at h1
      rw [List.range_succ,List.filter_append,List.filter_cons,hb]
      simpa using z
    . intro hm
      rcases List.mem_append.mp hm with hm | hm
      . exact nB2 hm
      . exact nZ (List.mem_singleton.mp hm).symm
 . rintro σ H2 ⟨v9,bs2,rfl,s2,x2,nB2⟩
   rw [show (g+1-1).toNat=g.toNat by omega,← eg] at x2
   exact q _ bs2 H2 s2 x2 nB2
theorem zr {K:Frag} {D:Ends} {H:Hp} {p R C A T M L:Addr} {as:List Addr} {k:RK} {h w g n m c:Int} {cs masks:List Int} {r z s:Int} {ms:List Int} {fss:List (List Int)} {v4 v7 v8 v9:Option V} (X:D37 H p R C A T M k h w g n m cs masks r z s ms) (x:IsLL H L as fss) (fl:fss.length<=40) (hf:∀ f∈fss,(f.length:Int)=h*w) (c0:0<=c) (c1:c<h*w)
  (q:∀ (L2:Addr) (as2:List Addr) (v7 v8 v9:Option V) (H':Hp),Same H H'->IsLL H' L2 as2 (kX masks fss c)->D.nx [some (.ref p),some (.ref R),some (.ref A),some (.ref T),v4,some (.ref L2),some (.int c),v7,v8,v9] H'):
  wQ K D [some (.ref p),some (.ref R),some (.ref A),some (.ref T),v4,some (.ref L),some (.int c),v7,v8,v9] H:=by
 obtain ⟨h0,h1,w0,w1,m16,g0,g1⟩:=id X.F
 have ml:=X.ml
 have mi:masks.getD c.toNat 0∈masks:=iW (by omega)
 have mb:=X.mm _ mi
 have sl:(sgL (masks.getD c.toNat 0)).length<=6:=by
  rw [(lY mb.1 mb.2).2,List.length_map]
  exact Nat.le_trans (List.length_filter_le _ _) (by decide)
 unfold wQ
 walk_at "w"
 refine ⟨aB (by decide),fun B hB=>?_⟩
 have s1:Same H (upd H B (.lst [])):=(Same.refl H).laid hB
 have eB:(upd H B (.lst [])) B=some (.lst []):=ae
 generalize upd H B (.lst [])=H1 at*
 refine ⟨⟨_,SqL.of (s1 _ _ x.top)⟩,?_⟩
 refine c8 (K:=K) (xs:=as.map V.ref) (fun i σ H'=>∃ (v8 v9:Option V) (bs:List Addr),σ=[some (.ref p),some (.ref R),some (.ref A),some (.ref T),v4,some (.ref L),some (.int c),some (.ref B),v8,v9]/\Same H H'/\IsLL H' B bs (extS (fss.take i) c (sgL (masks.getD c.toNat 0)))/\B∉bs)
  ⟨_,_,[],rfl,s1,IsLL.none eB,by simp⟩ (fun i σ H' _ ⟨_,_,_,_,s,_⟩=>s.seq (SqL.of x.top)) ?_ ?_
 . rintro i y σ H2 hy ⟨v8,v9,bs,rfl,s2,x2,nB⟩
   obtain ⟨f,hfa,rfl⟩:=fb hy
   obtain ⟨xs,ex,ef⟩:=x.get hfa
   have hi:=(List.getElem?_eq_some_iff.mp ex).1
   walk_at "w"
   have lb:(extS (fss.take i) c (sgL (masks.getD c.toNat 0))).length+6<=900:=by
    rw [jP,List.length_take]
    have:min i fss.length*(sgL (masks.getD c.toNat 0)).length<=40*6:=Nat.mul_le_mul (by omega) sl
    omega
   refine zq X s2 hB x2 nB lb ef (hf xs (List.mem_of_getElem? ex)) c0 c1 fun v9' bs' H3 s3 x3 nB3=>⟨_,_,bs',rfl,s3,?_,nB3⟩
   rw [nh ex,uw,ux]
   exact x3
 . rintro σ H2 ⟨v8,v9,bs,rfl,s2,x2,nB⟩
   have e:fss.take (as.map V.ref).length=fss:=List.take_of_length_le (by rw [List.length_map,x.len]; exact Nat.le_refl _)
   rw [e] at x2
   walk_at "w"
   refine l8 x2.top fun L2 hL2=>?_
   have e40:cutV (bs.map V.ref) none (some (40:Int))=(bs.take 40).map V.ref:=yq V.ref bs 40
   rw [e40]
   have s3:Same H2 (upd H2 L2 (.lst ((bs.take 40).map V.ref))):=(Same.refl H2).laid hL2
   refine q L2 (bs.take 40) _ _ _ _ (s2.trans s3) ?_
   refine ⟨ae,by rw [List.length_take]; unfold kX; rw [List.length_take,x2.len],fun j a ys h1 h2=>?_⟩
   unfold kX at h2
   have hj:j<40:=by
    have:=(List.getElem?_eq_some_iff.mp h1).1
    rw [List.length_take] at this
    omega
   rw [List.getElem?_take_of_lt hj] at h1 h2
   exact s3 _ _ (x2.at_ j a ys h1 h2)
theorem wR (P:List Int->Bool) (fss:List (List Int)):decide (((((List.range fss.length).filter fun (i:Nat)=>P (fss.getD i [])).length:Nat):Int)=0)=!(fss.any P):=by
 rw [Bool.eq_iff_iff,decide_eq_true_iff,Bool.not_eq_true',List.any_eq_false]
 constructor
 . intro h f hf
   have h0:((List.range fss.length).filter fun (i:Nat)=>P (fss.getD i []))=[]:=List.eq_nil_of_length_eq_zero (by omega)
   obtain ⟨i,hi,rfl⟩:=List.mem_iff_getElem.mp hf
   have:=List.filter_eq_nil_iff.mp h0 i (List.mem_range.mpr hi)
   have e:fss.getD i []=fss[i]:=by rw [List.getD,List.getElem?_eq_getElem hi]; rfl
   rw [e] at this
   exact this
 . intro h
   have h0:((List.range fss.length).filter fun (i:Nat)=>P (fss.getD i []))=[]:=List.filter_eq_nil_iff.mpr fun i hi=>by
    have hi:=List.mem_range.mp hi
    have e:fss.getD i []=fss[i]:=by rw [List.getD,List.getElem?_eq_getElem hi]; rfl
    rw [e]
    exact h _ (List.getElem_mem hi)
   rw [h0]; rfl
theorem pf {K:Frag} {H:Hp} {Q:VK} {p R C A T M L:Addr} {as:List Addr} {k:RK} {h w g n m:Int} {cs masks:List Int} {r z s:Int} {ms:List Int} {fss:List (List Int)} {v4 v6 v7 v8 v9:Option V} (X:D37 H p R C A T M k h w g n m cs masks r z s ms) (x:IsLL H L as fss) (fl:fss.length<=40) (hf:∀ f∈fss,FI37 (h*w).toNat cs f) (q:∀ H',Same H H'->Q (.bl (decide (fss.length<=32)&&!(fss.any fun f=>hoB k h w cs n m f))) H'):
  iI K { nx:=fun _ H'=>Q .non H',rt:=Q } [some (.ref p),some (.ref R),some (.ref A),some (.ref T),v4,some (.ref L),v6,v7,v8,v9] H:=by
 obtain ⟨h0,h1,w0,w1,m16,g0,g1⟩:=id X.F
 have mpos:0<=h*w:=Int.mul_nonneg (by omega) (by omega)
 have xl:=x.len
 unfold iI
 rw [aL,aI]
 walk_at "w"
 rw [bc x.top,List.length_map]
 walk_at "w"
 by_cases h3:fss.length<=32
 . rw [decide_eq_true h3,Bool.true_and] at q
   rw [decide_eq_false (show ¬ (32:Int) < (as.length:Int) by omega)]
   refine iteF ?_
   walk_at "w"
   refine ⟨⟨_,SqL.of x.top⟩,?_⟩
   refine cp (xs:=as.map V.ref) (fun i=>hoB k h w cs n m (fss.getD i [])) (fun i=>.ref (as.getD i 0)) (by rw [List.length_map]; omega) (SqL.of x.top) ?_ ?_ ?_
   . intro i y H8 R8 hy s8 k8
     obtain ⟨f,hfa,rfl⟩:=fb hy
     obtain ⟨xs,ex,ef⟩:=x.get hfa
     have eg:fss.getD i []=xs:=by rw [List.getD,ex]; rfl
     rw [eg] at k8
     have FI:=hf xs (List.mem_of_getElem? ex)
     have X8:=X.same s8
     show tB _ [none,some (.ref f),some (.ref p),some (.ref R)] H8 R8
     walk_at "w"
     refine ⟨p,R,C,f,k,h,w,g,n,m,cs,xs,rfl,⟨X8.fl,X.F,X8.R,X8.C,s8 _ _ ef,by rw [FI.l]; omega,FI.x6,X.cn,X.ci,X.k0,X.ca,fun y hy=>?_⟩,fun H9 s9=>⟨_,rfl,k8 _ s9⟩⟩
     unfold sgAt at hy
     obtain ⟨c,hc,rfl⟩:=List.mem_map.mp hy
     have b:=X.ci c hc
     exact FI.d c hc b.1 (by omega)
   . intro i y H8 Q8 hy hb s8 k8
     obtain ⟨f,hfa,rfl⟩:=fb hy
     have eg:as.getD i 0=f:=by rw [List.getD,hfa]; rfl
     rw [eg] at k8
     show tVar 1 [none,some (.ref f),some (.ref p),some (.ref R)] H8 Q8
     walk_at "w"
     exact k8 _ (Same.refl _)
   . intro N H3 hN s3 eN
     walk_at "w"
     rw [bc eN,List.length_map,List.length_map,xl]
     walk_at "w"
     rw [wR fun f=>hoB k h w cs n m f]
     exact q _ s3
 . rw [decide_eq_false h3,Bool.false_and] at q
   rw [decide_eq_true (show (32:Int) < (as.length:Int) by omega)]
   refine iteT ?_
   exact q _ (Same.refl H)
theorem yD (cs:List Int) (c z:Int):othL (cs++[c]) z=if c=z then othL cs z else othL cs z++[c]:=by
 unfold othL
 rw [List.filter_append,List.filter_cons]
 by_cases h:c=z
 . rw [if_pos h,decide_eq_true h]; simp
 . rw [if_neg h,decide_eq_false h]; simp
theorem ph {K:Frag} {H:Hp} {Q:VK} {p R C A T M L:Addr} {as:List Addr} {k:RK} {h w g n m:Int} {cs masks:List Int} {r z s:Int} {ms f0:List Int} {v4 v6 v7 v8 v9:Option V} (X:D37 H p R C A T M k h w g n m cs masks r z s ms) (x:IsLL H L as [f0]) (hf:FI37 (h*w).toNat [z] f0) (q:∀ H',Same H H'->Q (.bl (decide ((bI masks (othL cs z) [f0]).length<=32)&&!((bI masks (othL cs z) [f0]).any fun f=>hoB k h w cs n m f))) H'):
  iJ K { nx:=fun _ H'=>Q .non H',rt:=Q } [some (.ref p),some (.ref R),some (.ref A),some (.ref T),v4,some (.ref L),v6,v7,v8,v9] H:=by
 obtain ⟨h0,h1,w0,w1,m16,g0,g1⟩:=id X.F
 have mpos:0<=h*w:=Int.mul_nonneg (by omega) (by omega)
 unfold iJ
 walk_at "w"
 refine ixT X.R (v:=V.ref C) rfl ?_
 walk_at "w"
 refine ⟨⟨_,SqL.of X.C⟩,?_⟩
 refine c8 (K:=K) (xs:=cs.map V.int) (fun i σ H'=>∃ (L2:Addr) (as2:List Addr) (v6 v7 v8 v9:Option V),σ=[some (.ref p),some (.ref R),some (.ref A),some (.ref T),v4,some (.ref L2),v6,v7,v8,v9]/\Same H H'/\IsLL H' L2 as2 (bI masks (othL (cs.take i) z) [f0])/\(bI masks (othL (cs.take i) z) [f0]).length<=40/\∀ f∈bI masks (othL (cs.take i) z) [f0],FI37 (h*w).toNat (z::cs.take i) f)
  ⟨L,as,_,_,_,_,rfl,Same.refl H,x,by show (1:Nat)<=40; decide,fun f hm=>by
   have:f=f0:=List.mem_singleton.mp hm
   rw [this]
   exact ⟨hf.l,hf.x6,fun c hc=>hf.d c (by simpa using hc)⟩⟩ (fun i σ' H' _ ⟨_,_,_,_,_,_,_,s,_⟩=>SqL.of (s _ _ X.C)) ?_ ?_
 . rintro i y σ' H1 hy ⟨L2,as2,v6,v7,v8,v9,rfl,s1,x1,l1,f1⟩
   obtain ⟨c,hc,rfl⟩:=bh hy
   have X1:=X.same s1
   have cc:=X.ci c (List.mem_of_getElem? hc)
   have et:cs.take (i+1)=cs.take i++[c]:=by rw [List.take_succ,hc]; rfl
   walk_at "w"
   rw [aI]
   walk_at "w"
   refine ixT X1.T.T (v:=V.int z) rfl ?_
   walk_at "w"
   rw [et,yD]
   by_cases hz:c=z
   . rw [decide_eq_true hz,if_pos hz]
     refine iteF ?_
     walk_at "w"
     refine ⟨L2,as2,_,_,_,_,rfl,s1,x1,l1,fun f hm=>?_⟩
     have F:=f1 f hm
     refine ⟨F.l,F.x6,fun d hd=>F.d d ?_⟩
     rcases List.mem_cons.mp hd with e | e
     . rw [e]; exact List.mem_cons_self
     . rcases List.mem_append.mp e with e | e
       . exact List.mem_cons_of_mem _ e
       . rw [List.mem_singleton.mp e,hz]; exact List.mem_cons_self
   . rw [decide_eq_false hz,if_neg hz]
     refine iteT ?_
     have ef:bI masks (othL (cs.take i) z++[c]) [f0]=kX masks (bI masks (othL (cs.take i) z) [f0]) c:=by unfold bI; rw [List.foldl_append]; rfl
     refine zr X1 x1 l1 (fun f hm=>by rw [(f1 f hm).l]; omega) cc.1 cc.2 fun L3 as3 v7 v8 v9 H2 s2 x2=>⟨L3,as3,_,_,_,_,rfl,s1.trans s2,by rw [ef]; exact x2,by rw [ef]; unfold kX; rw [List.length_take]; omega,fun f hm=>?_⟩
     rw [ef] at hm
     unfold kX at hm
     obtain ⟨a,ha,t,ht,rfl⟩:=mem_extS.mp (List.mem_of_mem_take hm)
     have mi:masks.getD c.toNat 0∈masks:=iW (by have:=X.ml; omega)
     have mb:=X.mm _ mi
     have tb:1<=t/\t<=6:=by
      rw [(lY mb.1 mb.2).2] at ht
      obtain ⟨j,hj,rfl⟩:=List.mem_map.mp ht
      have:=(List.mem_filter.mp hj).1
      simp at this
      omega
     refine (f1 a ha).set tb.1 tb.2 _ fun d hd=>?_
     rcases List.mem_cons.mp hd with e | e
     . exact .inr (by rw [e]; exact List.mem_cons_self)
     . rcases List.mem_append.mp e with e | e
       . exact .inr (List.mem_cons_of_mem _ e)
       . exact .inl (List.mem_singleton.mp e)
 . rintro σ' H1 ⟨L2,as2,v6,v7,v8,v9,rfl,s1,x1,l1,f1⟩
   rw [List.length_map,List.take_length] at x1 l1 f1
   refine pf (X.same s1) x1 l1 (fun f hm=>?_) fun H' s2=>q H' (s1.trans s2)
   have F:=f1 f hm
   exact ⟨F.l,F.x6,fun d hd=>F.d d (List.mem_cons_of_mem _ hd)⟩
theorem BK (k:Nat):(List.replicate k [V.int 0]).flatten=(List.replicate k (0:Int)).map V.int:=by
 rw [List.map_replicate]
 induction k with
 | zero=>rfl
 | succ n ih=>rw [List.replicate_succ,List.flatten_cons,ih,List.replicate_succ]; rfl
theorem zt {f:List Int} {c:Nat} {s:Int} (hc:c<f.length):(f.map V.int).set c (V.int s)=(setL f (c:Int) s).map V.int:=by
 rw [← r8 hc,List.set_eq_take_append_cons_drop,if_pos (by rw [List.length_map]; exact hc)]
 simp
theorem pi {K:Frag} {H:Hp} {Q:VK} {p R C A T M:Addr} {k:RK} {h w g n m:Int} {cs masks:List Int} {r z s:Int} {ms:List Int} {v4 v6 v7 v8 v9:Option V} (X:D37 H p R C A T M k h w g n m cs masks r z s ms) (hz:z∈cs) (s0:1<=s) (s1:s<=g) (q:∀ H',Same H H'->Q (.bl (waysB k h w cs n m masks z s [])) H'):
  iK K { nx:=fun _ H'=>Q .non H',rt:=Q } [some (.ref p),some (.ref R),some (.ref A),some (.ref T),v4,none,v6,v7,v8,v9] H:=by
 obtain ⟨h0,h1,w0,w1,m16,g0,g1⟩:=id X.F
 have ml:=X.ml
 have zc:=X.ci z hz
 unfold iK
 walk_at "w"
 refine ⟨aB (by show (1:Nat)<=1000; decide),fun Z hZ=>?_⟩
 have a1:Same H (upd H Z (.lst [V.int 0])):=(Same.refl H).laid hZ
 have e1:(upd H Z (.lst [V.int 0])) Z=some (.lst [V.int 0]):=ae
 generalize upd H Z (.lst [V.int 0])=H1 at*
 have X1:=X.same a1
 rw [bc X1.A,List.length_map]
 walk_at "w"
 refine xP e1 (by omega) (by omega) (by simp) fun B hB=>?_
 rw [BK,Int.toNat_natCast]
 have a2:Same H1 (upd H1 B (.lst ((List.replicate masks.length (0:Int)).map V.int))):=(Same.refl H1).laid hB
 have e2:(upd H1 B (.lst ((List.replicate masks.length (0:Int)).map V.int))) B=some (.lst ((List.replicate masks.length (0:Int)).map V.int)):=ae
 generalize upd H1 B (.lst ((List.replicate masks.length (0:Int)).map V.int))=H2 at*
 have hB0:H B=none:=a1.free hB
 have a12:=a1.trans a2
 walk_at "w"
 refine ⟨aB (by show (1:Nat)<=1000; decide),fun L hL=>?_⟩
 have a3:Same H2 (upd H2 L (.lst [V.ref B])):=(Same.refl H2).laid hL
 have e3:(upd H2 L (.lst [V.ref B])) L=some (.lst [V.ref B]):=ae
 have nLB:L≠B:=fun e=>by rw [e,e2] at hL; cases hL
 generalize upd H2 L (.lst [V.ref B])=H3 at*
 have a13:=a12.trans a3
 have X3:=X.same a13
 refine ixT X3.T.T (v:=V.int s) rfl ?_
 walk_at "w"
 refine ixL e3 (v:=V.ref B) rfl ?_
 walk_at "w"
 refine ixT X3.T.T (v:=V.int z) rfl ?_
 walk_at "w"
 refine Bz (a3 _ _ e2) zc.1 (by rw [List.length_map,List.length_replicate]; omega) ?_
 have ez:z=((z.toNat:Nat):Int):=by omega
 rw [zt (by rw [List.length_replicate]; omega),← ez]
 have a4:Same H (upd H3 B (.lst ((setL (List.replicate masks.length 0) z s).map V.int))):=a13.own hB0
 have x:IsLL (upd H3 B (.lst ((setL (List.replicate masks.length 0) z s).map V.int))) L [B] [setL (List.replicate masks.length 0) z s]:=⟨by rw [ai nLB]; exact e3,rfl,fun j a xs i1 i2=>by
  match j,i1,i2 with
  | 0,i1,i2=>
   simp at i1 i2
   subst i1 i2
   exact ae
  | j+1,i1,_=>simp at i1⟩
 generalize upd H3 B (.lst ((setL (List.replicate masks.length 0) z s).map V.int))=H4 at*
 have F0:FI37 (h*w).toNat [] (List.replicate masks.length 0):=⟨by rw [List.length_replicate]; omega,fun x hx=>by rw [List.eq_of_mem_replicate hx]; omega,(fun c hc=>nomatch hc)⟩
 refine ph (X.same a4) x (F0.set s0 (by omega) _ fun c hc=>.inl (List.mem_singleton.mp hc)) fun H' a5=>?_
 rw [wO fun o ho=>by
  have oc:=X.ci o (List.mem_filter.mp ho).1
  exact X.mm _ (iW (by omega))]
 exact q H' (a4.trans a5)
theorem sJ {K:Frag} {vs:List V} {H:Hp} {Q:VK} {E:XK} (h:cj K vs H Q E):iy K { nx:=fun _ H'=>Q .non H',rt:=Q } (start ["_law_floor_here","_law_rule_here","_law_masks_here","_law_thought_here","_law_at","_law_fillings","_law_cell","_law_more","_law_filling","_law_sign"] vs) H:=by
 obtain ⟨p,R,C,A,T,M,k,h,w,g,n,m,cs,masks,at_,r,z,s,ms,rfl,X,q⟩:=h
 show iy K _ [some (.ref p),some (.ref R),some (.ref A),some (.ref T),some (.int at_),none,none,none,none,none] H
 unfold iy
 rw [aL,aI]
 walk_at "w"
 refine ixT X.T.T (v:=V.int r) rfl ?_
 walk_at "w"
 unfold qB at q
 by_cases c1:r=at_
 . rw [decide_eq_true c1,Bool.true_and] at q
   rw [decide_eq_true c1]
   walk_at "w"
   refine ixT X.T.T (v:=V.ref M) rfl ?_
   walk_at "w"
   refine ⟨aB (by decide),fun Z hZ=>?_⟩
   have s1:Same H (upd H Z (.lst [])):=(Same.refl H).laid hZ
   have eZ:(upd H Z (.lst [])) Z=some (.lst (([]:List Int).map V.int)):=ae
   generalize upd H Z (.lst [])=H1 at*
   have X1:=X.same s1
   refine tm X1.T.M eZ ?_
   by_cases c2:ms=[]
   . rw [decide_eq_true c2,Bool.true_and] at q
     rw [decide_eq_true c2]
     refine ⟨false,rfl,?_⟩
     walk_at "w"
     refine ixT X1.T.T (v:=V.int z) rfl ?_
     walk_at "w"
     refine ixT X1.R (v:=V.ref C) rfl ?_
     walk_at "w"
     rw [we X1.C]
     by_cases c3:z∈cs
     . rw [decide_eq_true c3,Bool.true_and] at q
       rw [decide_eq_true c3]
       refine ⟨false,rfl,?_⟩
       unfold tF
       walk_at "w"
       refine ixT X1.T.T (v:=V.int s) rfl ?_
       walk_at "w"
       by_cases c4:1<=s
       . rw [decide_eq_true c4,Bool.true_and] at q
         rw [decide_eq_true c4]
         walk_at "w"
         refine ixT X1.fl (v:=V.int g) rfl ?_
         walk_at "w"
         by_cases c5:s<=g
         . rw [decide_eq_true c5,Bool.true_and] at q
           rw [decide_eq_true c5]
           walk_at "w"
           exact pi X1 c3 c4 c5 fun H' s2=>q H' (s1.trans s2)
         . rw [decide_eq_false c5,Bool.false_and] at q
           rw [decide_eq_false c5]
           walk_at "w"
           exact q _ s1
       . rw [decide_eq_false c4,Bool.false_and,Bool.false_and] at q
         rw [decide_eq_false c4]
         walk_at "w"
         exact q _ s1
     . rw [decide_eq_false c3,Bool.false_and] at q
       rw [decide_eq_false c3]
       refine ⟨true,rfl,?_⟩
       walk_at "w"
       exact q _ s1
   . rw [decide_eq_false c2,Bool.false_and] at q
     rw [decide_eq_false c2]
     refine ⟨true,rfl,?_⟩
     walk_at "w"
     exact q _ s1
 . rw [decide_eq_false c1,Bool.false_and] at q
   rw [decide_eq_false c1]
   walk_at "w"
   exact q _ (Same.refl _)
def bC (K:Frag):Sp:=fun vs H Q _=>∃ (a p C:Addr) (ns:List Int) (i h w g:Int) (cs:List Int),vs=[.ref a,.ref p,.ref C,.int i]/\SqL K H a (ns.map V.int)/\ns.length<=63/\IsFl H p h w g/\FlOk h w g/\H C=some (.lst (cs.map V.int))/\cs≠[]/\0<=i/\i<=10/\
 ∀ (T M:Addr) (H':Hp) (r z s:Int) (ms:List Int),Same H H'->IsTh H' T M .ways r z s ms->Q (.ref T) H'
theorem og {K:Frag} {vs:List V} {H:Hp} {Q:VK} {E:XK} (h:bC K vs H Q E):vs.length=4:=by
 obtain ⟨_,_,_,_,_,_,_,_,_,rfl,_⟩:=h; rfl
def d3 (K:Frag):TS:=
 (tRet (tTup (tCons (tC (.str (tx [119,97,121,115]))) (tCons (tOp cIx (tLst (tCons (tC (.int 0)) (tCons (tC (.int 1)) (tCons (tC (.int 0)) (tCons (tC (.int 1)) (tCons (tC (.int 0)) (tCons (tC (.int 1)) (tCons (tC (.int 2)) (tCons (tUn (rU fun i=>.int (-i)) (tC (.int 1))) tNil))))))))) (tOp cMod (tOp cDiv (tVar 4) (tC (.int 1056))) (tC (.int 8)))) (tCons (tVar 7) (tCons (tVar 6) (tCons (tVar 5) tNil)))))))
def d4 (K:Frag):TS:=
 (tSeq (tIfS (tTest (tOp (cCmp fun i j=>decide (i<j)) (tOp cMod (tVar 4) (tC (.int 17))) (tC (.int 3)))) (tAsg (tOp cIx (tLst (tCons (tUn (rU fun i=>.int (-i)) (tC (.int 1))) (tCons (tOp cMul (tOp cIx (tVar 1) (tC (.int 0))) (tOp cIx (tVar 1) (tC (.int 1)))) (tCons (tOp cMod (tOp cDiv (tVar 4) (tC (.int 17))) (tOp cMul (tOp cIx (tVar 1) (tC (.int 0))) (tOp cIx (tVar 1) (tC (.int 1))))) tNil)))) (tOp cMod (tVar 4) (tC (.int 17)))) (gName 7)) tNext)
  (d3 K))
def d5 (K:Frag):TS:=
 (tSeq (tAsg (tOp cIx (tVar 2) (tOp cMod (tOp cDiv (tVar 4) (tC (.int 66))) (tCB kLen (tCons (tVar 2) tNil)))) (gName 7))
  (d4 K))
def d6 (K:Frag):TS:=
 (tSeq (tIfS (tTest (tOp (cEq K) (tOp cMod (tVar 4) (tC (.int 12))) (tC (.int 9)))) (tAsg (tOp cIx (tLst (tCons (tC (.int 0)) (tCons (tOp cAdd (tOp cAdd (tOp cIx (tVar 1) (tC (.int 2))) (tC (.int 1))) (tOp cMod (tOp cDiv (tVar 4) (tC (.int 12))) (tC (.int 3)))) tNil))) (tOp cMod (tOp cDiv (tVar 4) (tC (.int 48))) (tC (.int 2)))) (gName 6)) tNext)
  (d5 K))
def d7 (K:Frag):TS:=
 (tSeq (tAsg (tOp cAdd (tC (.int 1)) (tOp cMod (tOp cDiv (tVar 4) (tC (.int 13))) (tOp cIx (tVar 1) (tC (.int 2))))) (gName 6))
  (d6 K))
def dh (K:Frag):TS:=
 (tSeq (tAsg (tOp cMod (tOp cMul (tOp cAdd (tCall (aN K) [] E0 (tCons (tVar 0) (tCons (tOp cAdd (tC (.int 22)) (tVar 3)) tNil))) (tOp cMul (tOp cMul (tC (.int 43)) (tVar 3)) (tVar 3))) (tC (.int 30011))) (tC (.int 1000003))) (gName 4))
  (tSeq (tAsg (tLst tNil) (gName 5))
  (tSeq (tIfS (tTest (tOp (cEq K) (tOp cMod (tVar 4) (tC (.int 11))) (tC (.int 5)))) (tAsg (tLst (tCons (tOp cMod (tOp cDiv (tVar 4) (tC (.int 11))) (tC (.int 9))) tNil)) (gName 5)) tNext)
  (d7 K))))
structure TH37 (H:Hp) (p C M:Addr) (h w g:Int) (cs ms:List Int):Prop where
 fl:IsFl H p h w g
 F:FlOk h w g
 C:H C=some (.lst (cs.map V.int))
 c0:cs≠[]
 M:H M=some (.lst (ms.map V.int))
 ml:ms.length<=1
theorem TH37.same {H H':Hp} {p C M:Addr} {h w g:Int} {cs ms:List Int} (X:TH37 H p C M h w g cs ms) (s:Same H H'):TH37 H' p C M h w g cs ms:=⟨s _ _ X.fl,X.F,s _ _ X.C,X.c0,s _ _ X.M,X.ml⟩
def rn:List V:=[V.int 0,V.int 1,V.int 0,V.int 1,V.int 0,V.int 1,V.int 2,V.int (-1)]
theorem An {j:Int} (j0:0<=j) (j8:j<8):∃ r:Int,atI rn j=some (V.int r):=by
 have:j=0\/j=1\/j=2\/j=3\/j=4\/j=5\/j=6\/j=7:=by omega
 rcases this with rfl | rfl | rfl | rfl | rfl | rfl | rfl | rfl <;> exact ⟨_,rfl⟩
theorem ju {K:Frag} {H:Hp} {Q:VK} {p C M:Addr} {h w g y s z:Int} {cs ms:List Int} {v0 v1 v2 v3:Option V} (X:TH37 H p C M h w g cs ms) (q:∀ (T M:Addr) (H':Hp) (r z s:Int) (ms:List Int),Same H H'->IsTh H' T M .ways r z s ms->Q (.ref T) H'):
  d3 K { nx:=fun _ H'=>Q .non H',rt:=Q } [v0,v1,v2,v3,some (.int y),some (.ref M),some (.int s),some (.int z)] H:=by
 unfold d3
 walk_at "w"
 refine ⟨aB (by show (8:Nat)<=1000; decide),fun U hU=>?_⟩
 have s1:Same H (upd H U (.lst rn)):=(Same.refl H).laid hU
 have e1:(upd H U (.lst rn)) U=some (.lst rn):=ae
 have hz2:upd H U (.lst [V.int 0,V.int 1,V.int 0,V.int 1,V.int 0,V.int 1,V.int 2,V.int (-1)])=upd H U (.lst rn):=rfl
 rw [hz2]
 generalize upd H U (.lst rn)=H1 at*
 refine ⟨⟨by decide,by decide⟩,by decide,?_⟩
 obtain ⟨r,er⟩:=An (Int.emod_nonneg (y/1056) (show (8:Int)≠0 by decide)) (Int.emod_lt_of_pos (y/1056) (show (0:Int)<8 by decide))
 refine ixL e1 er ?_
 walk_at "w"
 refine ⟨aB (by show (5:Nat)<=1000; decide),fun T hT=>?_⟩
 have s2:Same H1 (upd H1 T (.tup [V.str (tx (tkC .ways)),V.int r,V.int z,V.int s,V.ref M])):=(Same.refl H1).laid hT
 exact q T M _ r z s ms (s1.trans s2) ⟨ae,s2 _ _ (s1 _ _ X.M),by have:=X.ml; omega⟩
theorem mr {K:Frag} {H:Hp} {Q:VK} {p C M:Addr} {h w g y s z:Int} {cs ms:List Int} {v0 v3:Option V} (X:TH37 H p C M h w g cs ms) (q:∀ (T M:Addr) (H':Hp) (r z s:Int) (ms:List Int),Same H H'->IsTh H' T M .ways r z s ms->Q (.ref T) H'):
  d4 K { nx:=fun _ H'=>Q .non H',rt:=Q } [v0,some (.ref p),some (.ref C),v3,some (.int y),some (.ref M),some (.int s),some (.int z)] H:=by
 obtain ⟨h0,h1,w0,w1,m16,g0,g1⟩:=id X.F
 have mpos:1<=h*w:=Int.le_trans (by omega) (Int.mul_le_mul h0 w0 (by omega) (by omega))
 unfold d4
 rw [aL,aI]
 walk_at "w"
 refine ⟨by decide,?_⟩
 by_cases hc:y%17<3
 . rw [decide_eq_true hc]
   refine iteT ?_
   walk_at "w"
   refine ixT X.fl (v:=V.int h) rfl ?_
   walk_at "w"
   refine ixT X.fl (v:=V.int w) rfl ?_
   walk_at "w"
   refine ⟨fR h0 h1,⟨by decide,by decide⟩,?_⟩
   refine ixT X.fl (v:=V.int h) rfl ?_
   walk_at "w"
   refine ixT X.fl (v:=V.int w) rfl ?_
   walk_at "w"
   refine ⟨fR h0 h1,by omega,aB (by show (3:Nat)<=1000; decide),fun U hU=>?_⟩
   generalize y/17 % (h*w)=u at*
   have s1:Same H (upd H U (.lst [V.int (-1),V.int (h*w),V.int u])):=(Same.refl H).laid hU
   have e1:(upd H U (.lst [V.int (-1),V.int (h*w),V.int u])) U=some (.lst [V.int (-1),V.int (h*w),V.int u]):=ae
   generalize upd H U (.lst [V.int (-1),V.int (h*w),V.int u])=H1 at*
   refine ⟨by decide,?_⟩
   obtain ⟨x,ex⟩:∃ x:Int,atI [V.int (-1),V.int (h*w),V.int u] (y%17)=some (V.int x):=by
    have:y%17=0\/y%17=1\/y%17=2:=by omega
    rcases this with e | e | e <;> rw [e] <;> exact ⟨_,rfl⟩
   refine ixL e1 ex ?_
   walk_at "w"
   exact ju (X.same s1) fun T M H' r z s ms a b=>q T M H' r z s ms (s1.trans a) b
 . rw [decide_eq_false hc]
   refine iteF ?_
   walk_at "w"
   exact ju X q
theorem jv {K:Frag} {H:Hp} {Q:VK} {p C M:Addr} {h w g y s:Int} {cs ms:List Int} {v0 v3:Option V} (X:TH37 H p C M h w g cs ms) (q:∀ (T M:Addr) (H':Hp) (r z s:Int) (ms:List Int),Same H H'->IsTh H' T M .ways r z s ms->Q (.ref T) H'):
  d5 K { nx:=fun _ H'=>Q .non H',rt:=Q } [v0,some (.ref p),some (.ref C),v3,some (.int y),some (.ref M),some (.int s),none] H:=by
 have cl:0<cs.length:=List.length_pos_iff.mpr X.c0
 unfold d5
 walk_at "w"
 refine ⟨⟨by decide,by decide⟩,?_⟩
 rw [bc X.C,List.length_map]
 walk_at "w"
 refine ⟨by omega,?_⟩
 have b0:=Int.emod_nonneg (y/66) (show (cs.length:Int)≠0 by omega)
 have b1:=Int.emod_lt_of_pos (y/66) (show 0 < (cs.length:Int) by omega)
 refine ixI X.C b0 b1 ?_
 exact mr X q
theorem mt {K:Frag} {H:Hp} {Q:VK} {p C M:Addr} {h w g y s:Int} {cs ms:List Int} {v0 v3:Option V} (X:TH37 H p C M h w g cs ms) (q:∀ (T M:Addr) (H':Hp) (r z s:Int) (ms:List Int),Same H H'->IsTh H' T M .ways r z s ms->Q (.ref T) H'):
  d6 K { nx:=fun _ H'=>Q .non H',rt:=Q } [v0,some (.ref p),some (.ref C),v3,some (.int y),some (.ref M),some (.int s),none] H:=by
 unfold d6
 rw [aL,aI]
 walk_at "w"
 refine ⟨by decide,?_⟩
 cases decide (y%12=9) with
 | true=>
  refine iteT ?_
  walk_at "w"
  refine ixT X.fl (v:=V.int g) rfl ?_
  walk_at "w"
  refine ⟨⟨by decide,by decide⟩,by decide,aB (by show (2:Nat)<=1000; decide),fun U hU=>?_⟩
  generalize g+1+y/12%3=u at*
  have s1:Same H (upd H U (.lst [V.int 0,V.int u])):=(Same.refl H).laid hU
  have e1:(upd H U (.lst [V.int 0,V.int u])) U=some (.lst [V.int 0,V.int u]):=ae
  generalize upd H U (.lst [V.int 0,V.int u])=H1 at*
  refine ⟨⟨by decide,by decide⟩,by decide,?_⟩
  obtain ⟨x,ex⟩:∃ x:Int,atI [V.int 0,V.int u] (y/48%2)=some (V.int x):=by
   have:y/48%2=0\/y/48%2=1:=by omega
   rcases this with e | e <;> rw [e] <;> exact ⟨_,rfl⟩
  refine ixL e1 ex ?_
  walk_at "w"
  exact jv (X.same s1) fun T M H' r z s ms a b=>q T M H' r z s ms (s1.trans a) b
 | false=>
  refine iteF ?_
  walk_at "w"
  exact jv X q
theorem jw {K:Frag} {H:Hp} {Q:VK} {p C M:Addr} {h w g y:Int} {cs ms:List Int} {v0 v3:Option V} (X:TH37 H p C M h w g cs ms) (q:∀ (T M:Addr) (H':Hp) (r z s:Int) (ms:List Int),Same H H'->IsTh H' T M .ways r z s ms->Q (.ref T) H'):
  d7 K { nx:=fun _ H'=>Q .non H',rt:=Q } [v0,some (.ref p),some (.ref C),v3,some (.int y),some (.ref M),none,none] H:=by
 have g0:=X.F.g0
 unfold d7
 walk_at "w"
 refine ⟨⟨by decide,by decide⟩,?_⟩
 refine ixT X.fl (v:=V.int g) rfl ?_
 walk_at "w"
 refine ⟨by omega,?_⟩
 exact mt X q
theorem oh {K:Frag} {vs:List V} {H:Hp} {Q:VK} {E:XK} (h:bC K vs H Q E):dh K { nx:=fun _ H'=>Q .non H',rt:=Q } (start ["_law_script","_law_floor_here","_law_cells","_law_k","_law_cell","_law_more","_law_sign","_law_spot"] vs) H:=by
 obtain ⟨a,p,C,ns,i,h,w,g,cs,rfl,hS,hn,hp,F,hC,c0,i0,i1,q⟩:=h
 show dh K _ [some (.ref a),some (.ref p),some (.ref C),some (.int i),none,none,none,none] H
 unfold dh
 walk_at "w"
 refine ⟨a,ns,_,rfl,hS,hn,by omega,by omega,?_⟩
 walk_at "w"
 refine ⟨.inl ⟨by decide,by decide⟩,.inr ⟨by omega,by omega⟩,.inr ⟨by decide,by decide⟩,by decide,?_⟩
 generalize (iB ns (22+i)+43*i*i)*30011%1000003=y at*
 refine ⟨aB (by decide),fun M hM=>?_⟩
 have s1:Same H (upd H M (.lst [])):=(Same.refl H).laid hM
 have e1:(upd H M (.lst [])) M=some (.lst (([]:List Int).map V.int)):=ae
 generalize upd H M (.lst [])=H1 at*
 rw [aI]
 walk_at "w"
 refine ⟨by decide,?_⟩
 cases decide (y%11=5) with
 | true=>
  refine iteT ?_
  walk_at "w"
  refine ⟨⟨by decide,by decide⟩,by decide,aB (by show (1:Nat)<=1000; decide),fun U hU=>?_⟩
  have s2:Same H1 (upd H1 U (.lst [V.int (y/11%9)])):=(Same.refl H1).laid hU
  have s12:=s1.trans s2
  exact jw (ms:=[y/11%9]) ⟨s12 _ _ hp,F,s12 _ _ hC,c0,ae,by simp⟩ fun T M H' r z s ms a b=>q T M H' r z s ms (s12.trans a) b
 | false=>
  refine iteF ?_
  walk_at "w"
  exact jw (ms:=[]) ⟨s1 _ _ hp,F,s1 _ _ hC,c0,e1,by simp⟩ fun T M H' r z s ms a b=>q T M H' r z s ms (s1.trans a) b
theorem qC (s:Str):∀ ws:List Str,inV (.str s) (ws.map V.str)=decide (s∈ws)
 | []=>rfl
 | n::r=>by
  have ih:=qC s r
  unfold inV at ih ⊢
  rw [List.map_cons,List.any_cons,ih]
  show ((n==s)||decide (s∈r))=decide (s∈n::r)
  rw [Bool.eq_iff_iff,Bool.or_eq_true,beq_iff_eq,decide_eq_true_eq,decide_eq_true_eq,List.mem_cons]
  exact ⟨fun h=>h.elim (fun e=>.inl e.symm) .inr,fun h=>h.elim (fun e=>.inl e.symm) .inr⟩
theorem vP {K:Frag} {H:Hp} {Q:VK} {p:Addr} {s:Str} {ws:List Str} (h:H p=some (.tup (ws.map V.str))):cIn K false (.str s) (.ref p) H Q=Q (.bl (decide (s∈ws))) H:=by
 unfold cIn; dsimp only; rw [h]; dsimp only [unD,unS,bnd]
 rw [qC,kg]
 simp [flatV]
structure Ru37 (H:Hp) (R C:Addr) (h w g:Int) (r:RR) (n m:Int):Prop where
 R:H R=some (.tup [.str (tx (nmC r.k)),.int n,.int m,.ref C])
 C:H C=some (.lst (r.cs.map V.int))
 ok:r.Ok h w g
 ca:(r.k=.Joined\/r.k=.NoSquare\/r.k=.Ring)->r.cs=rngL 0 (h*w)
 ho:∀ xs,hoB r.k h w r.cs n m xs=hoB r.k h w r.cs (r.n:Int) (r.m:Int) xs
 c0:r.cs≠[]
theorem Ru37.same {H H':Hp} {R C:Addr} {h w g:Int} {r:RR} {n m:Int} (X:Ru37 H R C h w g r n m) (s:Same H H'):Ru37 H' R C h w g r n m:=⟨s _ _ X.R,s _ _ X.C,X.ok,X.ca,X.ho,X.c0⟩
def kN (Q:VK) (H:Hp) (h w g:Int):Prop:=∀ (O R C:Addr) (H':Hp) (r:RR) (n m:Int),Same H H'->H' O=some (.tup [.ref R,.str r.txt])->Ru37 H' R C h w g r n m->Q (.ref O) H'
def cA (K:Frag):Sp:=fun vs H Q _=>∃ (a p:Addr) (ns:List Int) (h w g:Int),vs=[.ref a,.ref p,.int (h*w)]/\SqL K H a (ns.map V.int)/\ns.length<=63/\IsFl H p h w g/\FlOk h w g/\kN Q H h w g
theorem rp {K:Frag} {vs:List V} {H:Hp} {Q:VK} {E:XK} (h:cA K vs H Q E):vs.length=3:=by
 obtain ⟨_,_,_,_,_,_,rfl,_⟩:=h; rfl
def c7 (K:Frag):TS:=
 (tSeq (tAsg (tBM K "str" m6 (tC (.str (tx [32]))) (tCons (tOp cAdd (tLst (tCons (tVar 5) tNil)) (tComp [none,none] (iList K (tOp cAdd (tVar 11) (tVar 8))) (gName 1) tTrue (tCB kStr (tCons (tVar 1) tNil)))) tNil)) (gName 12))
  (tRet (tTup (tCons (tTup (tCons (tVar 5) (tCons (tVar 9) (tCons (tVar 6) (tCons (tVar 8) tNil))))) (tCons (tVar 12) tNil)))))
def gC (K:Frag):TS:=
 (tSeq (tAsg (tLst tNil) (gName 11))
  (tSeq (tIfS (tTest (tOp (cIn K false) (tVar 5) (tTup (tCons (tC (.str (tx [115,117,109]))) (tCons (tC (.str (tx [115,101,101,110]))) tNil))))) (tAsg (tLst (tCons (tVar 9) tNil)) (gName 11)) tNext)
  (tSeq (tIfS (tTest (tOp (cEq K) (tVar 5) (tC (.str (tx [99,111,117,110,116]))))) (tAsg (tLst (tCons (tVar 9) (tCons (tVar 6) tNil))) (gName 11)) tNext)
  (c7 K))))
def gD (K:Frag):TS:=
 (tSeq (tIfS (tTest (tOp (cEq K) (tVar 5) (tC (.str (tx [115,117,109]))))) (tSeq (tAsg (tOp cMod (tOp cMul (tCall (aN K) [] E0 (tCons (tVar 0) (tCons (tC (.int 3)) tNil))) (tC (.int 48271))) (tC (.int 20011))) (gName 10))
  (tAsg (tOp cAdd (tOp cAdd (tVar 9) (tCB kLen (tCons (tVar 8) tNil))) (tOp cMod (tVar 10) (tOp cMul (tC (.int 2)) (tCB kLen (tCons (tVar 8) tNil))))) (gName 9))) tNext)
  (gC K))
def gE (K:Frag):TS:=
 (tSeq (tAsg (tCall (bX K) [] E0 (tCons (tOp cMod (tOp cMul (tCall (aN K) [] E0 (tCons (tVar 0) (tCons (tC (.int 2)) tNil))) (tC (.int 30011))) (tC (.int 1000003))) (tCons (tVar 2) tNil))) (gName 7))
  (tSeq (tAsg (tSl jM (tVar 7) cL (tPart (tOp cAdd (tC (.int 1)) (tOp cMod (tOp cDiv (tVar 3) (tC (.int 50))) (tVar 2))))) (gName 8))
  (tSeq (tAsg (tOp cMod (tOp cMod (tOp cMul (tCall (aN K) [] E0 (tCons (tVar 0) (tCons (tC (.int 3)) tNil))) (tC (.int 69621))) (tC (.int 10007))) (tOp cAdd (tCB kLen (tCons (tVar 8) tNil)) (tC (.int 2)))) (gName 9))
  (gD K))))
def gF (K:Frag):TS:=
 (tSeq (tIfS (tTest (tOp (cIn K false) (tVar 5) (tTup (tCons (tC (.str (tx [106,111,105,110,101,100]))) (tCons (tC (.str (tx [110,111,115,113,117,97,114,101]))) (tCons (tC (.str (tx [114,105,110,103]))) tNil)))))) (tRet (tTup (tCons (tTup (tCons (tVar 5) (tCons (tC (.int 0)) (tCons (tVar 6) (tCons (ke (tCons (tVar 2) tNil)) tNil))))) (tCons (tOp cAdd (tOp cAdd (tVar 5) (tC (.str (tx [32])))) (tCB kStr (tCons (tVar 6) tNil))) tNil)))) tNext)
  (gE K))
def gB (K:Frag):TS:=
 (tSeq (tAsg (tOp cMod (tOp cMul (tCall (aN K) [] E0 (tCons (tVar 0) (tCons (tC (.int 1)) tNil))) (tC (.int 16807))) (tC (.int 1000003))) (gName 3))
  (tSeq (tAsg (tLst (tCons (tC (.str (tx [117,110,108,105,107,101]))) (tCons (tC (.str (tx [115,117,109]))) (tCons (tC (.str (tx [114,105,115,105,110,103]))) (tCons (tC (.str (tx [115,101,101,110]))) (tCons (tC (.str (tx [99,111,117,110,116]))) (tCons (tC (.str (tx [106,111,105,110,101,100]))) (tCons (tC (.str (tx [110,111,115,113,117,97,114,101]))) (tCons (tC (.str (tx [114,105,110,103]))) tNil))))))))) (gName 4))
  (tSeq (tAsg (tOp cIx (tVar 4) (tOp cMod (tVar 3) (tC (.int 8)))) (gName 5))
  (tSeq (tAsg (tOp cAdd (tC (.int 1)) (tOp cMod (tOp cDiv (tVar 3) (tC (.int 8))) (tOp cIx (tVar 1) (tC (.int 2))))) (gName 6))
  (gF K)))))
def K5 (k:RK):Prop:=k=.Unlike\/k=.Sum\/k=.Rising\/k=.Seen\/k=.Count
def cq (k:RK) (n m:Nat):List Nat:=(if numK k then [n] else [])++(if sgnK k then [m] else [])
theorem nj {K:Frag} {H:Hp} {Q:VK} {C T:Addr} {k:RK} {h w g:Int} {n m:Nat} {cs:List Nat} {v0 v1 v2 v3 v4 v7 v10:Option V} (hk:K5 k) (F:FlOk h w g) (eC:H C=some (.lst ((cs.map fun (n:Nat)=>(n:Int)).map V.int))) (c0:cs≠[]) (cn:cs.length<=16) (nd:cs.Nodup) (ci:∀ c∈cs,(c:Int)<h*w) (n9:n<=99) (m0:1<=(m:Int)) (m1:(m:Int)<=g) (eT:H T=some (.lst (((cq k n m).map fun (n:Nat)=>(n:Int)).map V.int))) (q:kN Q H h w g):
  c7 K { nx:=fun _ H'=>Q .non H',rt:=Q } [v0,v1,v2,v3,v4,some (.str (tx (nmC k))),some (.int (m:Int)),v7,some (.ref C),some (.int (n:Int)),v10,some (.ref T),none] H:=by
 obtain ⟨h0,h1,w0,w1,m16,g0,g1⟩:=id F
 have tl:(cq k n m).length<=2:=by unfold cq; split <;> split <;> simp
 have t100:∀ x∈cq k n m++cs,x<100:=fun x hx=>by
  rcases List.mem_append.mp hx with hx | hx
  . unfold cq at hx
    rcases List.mem_append.mp hx with hx | hx
    . split at hx
      . rw [List.mem_singleton.mp hx]; omega
      . cases hx
    . split at hx
      . rw [List.mem_singleton.mp hx]; omega
      . cases hx
  . have:=ci x hx; omega
 unfold c7
 walk_at "w"
 refine ⟨zy,aB (by show (1:Nat)<=1000; decide),fun W hW=>?_⟩
 have s1:Same H (upd H W (.lst [V.str (tx (nmC k))])):=(Same.refl H).laid hW
 have e1:(upd H W (.lst [V.str (tx (nmC k))])) W=some (.lst [V.str (tx (nmC k))]):=ae
 generalize upd H W (.lst [V.str (tx (nmC k))])=H1 at*
 refine pR (s1 _ _ eT) (s1 _ _ eC) (by simp; omega) fun S hS=>?_
 have es:((cq k n m).map fun (n:Nat)=>(n:Int)).map V.int++(cs.map fun (n:Nat)=>(n:Int)).map V.int=((cq k n m++cs).map fun (n:Nat)=>(n:Int)).map V.int:=by simp
 rw [es]
 have s2:Same H1 (upd H1 S (.lst (((cq k n m++cs).map fun (n:Nat)=>(n:Int)).map V.int))):=(Same.refl H1).laid hS
 have e2:(upd H1 S (.lst (((cq k n m++cs).map fun (n:Nat)=>(n:Int)).map V.int))) S=some (.lst (((cq k n m++cs).map fun (n:Nat)=>(n:Int)).map V.int)):=ae
 generalize upd H1 S (.lst (((cq k n m++cs).map fun (n:Nat)=>(n:Int)).map V.int))=H2 at*
 walk_at "w"
 refine ⟨⟨_,SqL.of e2⟩,?_⟩
 refine ye e2 (by simp; omega) t100 fun N H3 hN s3 e3=>?_
 have s13:=(s1.trans s2).trans s3
 walk_at "w"
 refine pR ((s2.trans s3) _ _ e1) e3 (by simp; omega) fun J hJ=>?_
 have ej:[V.str (tx (nmC k))]++(((cq k n m++cs).map numC).map tx).map V.str=((nmC k::(cq k n m++cs).map numC).map tx).map V.str:=by simp
 rw [ej]
 have s4:Same H3 (upd H3 J (.lst (((nmC k::(cq k n m++cs).map numC).map tx).map V.str))):=(Same.refl H3).laid hJ
 have e4:(upd H3 J (.lst (((nmC k::(cq k n m++cs).map numC).map tx).map V.str))) J=some (.lst (((nmC k::(cq k n m++cs).map numC).map tx).map V.str)):=ae
 generalize upd H3 J (.lst (((nmC k::(cq k n m++cs).map numC).map tx).map V.str))=H4 at*
 have s14:=s13.trans s4
 have nk:(nmC k).length<=8:=by cases k <;> decide
 walk_at "w"
 refine z6 e4 (t7 (by simp; omega) (fun t ht=>by
  obtain ⟨z,hz,rfl⟩:=List.mem_map.mp ht
  rw [i8]
  rcases List.mem_cons.mp hz with rfl | hz
  . omega
  . obtain ⟨x,_,rfl⟩:=List.mem_map.mp hz
    exact Nat.le_trans nS (by decide)) (by rw [i8]; decide)) ?_
 rw [yZ,qS]
 refine ⟨aB (by show (4:Nat)<=1000; decide),fun R hR=>?_⟩
 have s5:Same H4 (upd H4 R (.tup [V.str (tx (nmC k)),V.int (n:Int),V.int (m:Int),V.ref C])):=(Same.refl H4).laid hR
 have e5:(upd H4 R (.tup [V.str (tx (nmC k)),V.int (n:Int),V.int (m:Int),V.ref C])) R=some (.tup [V.str (tx (nmC k)),V.int (n:Int),V.int (m:Int),V.ref C]):=ae
 generalize upd H4 R (.tup [V.str (tx (nmC k)),V.int (n:Int),V.int (m:Int),V.ref C])=H5 at*
 refine ⟨aB (by show (2:Nat)<=1000; decide),fun O hO=>?_⟩
 have sO:∀ t:Str,Same H5 (upd H5 O (.tup [V.ref R,V.str t])):=fun t=>(Same.refl H5).laid hO
 have s15:=s14.trans s5
 have fin:∀ r:RR,r.k=k->catL 32 (nmC k::(cq k n m++cs).map numC)=catL 32 r.ws->r.cs=cs.map (fun (n:Nat)=>(n:Int))->r.Ok h w g->(∀ xs,hoB r.k h w r.cs (n:Int) (m:Int) xs=hoB r.k h w r.cs (r.n:Int) (r.m:Int) xs)->Q (.ref O) (upd H5 O (.tup [V.ref R,V.str (tx (catL 32 (nmC k::(cq k n m++cs).map numC)))])):=fun r rk rt rc ro rh=>by
  rw [rt]
  have s6:=sO (tx (catL 32 r.ws))
  refine q O R C _ r n m (s15.trans s6) ae ⟨by rw [rk]; exact s6 _ _ e5,by rw [rc]; exact s6 _ _ (s5 _ _ (s14 _ _ eC)),ro,fun z=>?_,rh,by rw [rc]; simpa using c0⟩
  rw [rk] at z
  rcases hk with rfl | rfl | rfl | rfl | rfl <;> rcases z with z | z | z <;> cases z
 rcases hk with rfl | rfl | rfl | rfl | rfl
 . exact fin ⟨.Unlike,0,0,cs,cs.map fun (n:Nat)=>(n:Int)⟩ rfl rfl rfl (dX F c0 ci nd cn rfl (by decide) (by decide) (fun _=>rfl) (fun e=>by cases e) (fun _=>rfl)) fun _=>rfl
 . exact fin ⟨.Sum,n,0,cs,cs.map fun (n:Nat)=>(n:Int)⟩ rfl rfl rfl (dX F c0 ci nd cn rfl (by decide) n9 (fun e=>by cases e) (fun e=>by cases e) (fun _=>rfl)) fun _=>rfl
 . exact fin ⟨.Rising,0,0,cs,cs.map fun (n:Nat)=>(n:Int)⟩ rfl rfl rfl (dX F c0 ci nd cn rfl (by decide) (by decide) (fun _=>rfl) (fun e=>by cases e) (fun _=>rfl)) fun _=>rfl
 . exact fin ⟨.Seen,n,0,cs,cs.map fun (n:Nat)=>(n:Int)⟩ rfl rfl rfl (dX F c0 ci nd cn rfl (by decide) n9 (fun e=>by cases e) (fun e=>by cases e) (fun _=>rfl)) fun _=>rfl
 . exact fin ⟨.Count,n,m,cs,cs.map fun (n:Nat)=>(n:Int)⟩ rfl rfl rfl (dX F c0 ci nd cn rfl (by decide) n9 (fun e=>by cases e) (fun _=>⟨m0,m1⟩) (fun e=>by cases e)) fun _=>rfl
theorem ky {K:Frag} {H:Hp} {Q:VK} {C:Addr} {k:RK} {h w g:Int} {n m:Nat} {cs:List Nat} {v0 v1 v2 v3 v4 v7 v10:Option V} (hk:K5 k) (F:FlOk h w g) (eC:H C=some (.lst ((cs.map fun (n:Nat)=>(n:Int)).map V.int))) (c0:cs≠[]) (cn:cs.length<=16) (nd:cs.Nodup) (ci:∀ c∈cs,(c:Int)<h*w) (n9:n<=99) (m0:1<=(m:Int)) (m1:(m:Int)<=g) (q:kN Q H h w g):
  gC K { nx:=fun _ H'=>Q .non H',rt:=Q } [v0,v1,v2,v3,v4,some (.str (tx (nmC k))),some (.int (m:Int)),v7,some (.ref C),some (.int (n:Int)),v10,none,none] H:=by
 have qs:∀ {H':Hp},Same H H'->kN Q H' h w g:=fun s O R C H2 r n m s2=>q O R C H2 r n m (s.trans s2)
 unfold gC
 walk_at "w"
 refine ⟨aB (by decide),fun T0 hT0=>?_⟩
 have s1:Same H (upd H T0 (.lst [])):=(Same.refl H).laid hT0
 have e1:(upd H T0 (.lst [])) T0=some (.lst ((([]:List Nat).map fun (n:Nat)=>(n:Int)).map V.int)):=ae
 generalize upd H T0 (.lst [])=H1 at*
 rw [aI]
 walk_at "w"
 refine ⟨aB (by show (2:Nat)<=1000; decide),fun P hP=>?_⟩
 have s2:Same H1 (upd H1 P (.tup [V.str (tx [115,117,109]),V.str (tx [115,101,101,110])])):=(Same.refl H1).laid hP
 have e2:(upd H1 P (.tup [V.str (tx [115,117,109]),V.str (tx [115,101,101,110])])) P=some (.tup (([tx [115,117,109],tx [115,101,101,110]]:List Str).map V.str)):=ae
 generalize upd H1 P (.tup [V.str (tx [115,117,109]),V.str (tx [115,101,101,110])])=H2 at*
 have s12:=s1.trans s2
 rw [vP e2]
 have din:∀ b:Bool,decide (tx (nmC k)∈([tx [115,117,109],tx [115,101,101,110]]:List Str))=(decide (nmC k=[115,117,109])||decide (nmC k=[115,101,101,110])):=fun _=>by
  rw [← bd,← bd,Bool.eq_iff_iff,Bool.or_eq_true,decide_eq_true_eq,decide_eq_true_eq,decide_eq_true_eq]
  simp
 rw [din true]
 have fin0:∀ (H3:Hp) (T:Addr),Same H H3->H3 T=some (.lst (((cq k n m).map fun (n:Nat)=>(n:Int)).map V.int))->c7 K { nx:=fun _ H'=>Q .non H',rt:=Q } [v0,v1,v2,v3,v4,some (.str (tx (nmC k))),some (.int (m:Int)),v7,some (.ref C),some (.int (n:Int)),v10,some (.ref T),none] H3:=fun H3 T s e=>nj hk F (s _ _ eC) c0 cn nd ci n9 m0 m1 e (qs s)
 have two:∀ (b:Bool),b=(decide (nmC k=[115,117,109])||decide (nmC k=[115,101,101,110]))->b=true->cq k n m=[n]/\decide (nmC k=[99,111,117,110,116])=false:=fun b hb ht=>by
  rw [ht] at hb
  rcases hk with rfl | rfl | rfl | rfl | rfl
  . exact absurd hb (by decide)
  . exact ⟨rfl,by decide⟩
  . exact absurd hb (by decide)
  . exact ⟨rfl,by decide⟩
  . exact absurd hb (by decide)
 cases hb:(decide (nmC k=[115,117,109])||decide (nmC k=[115,101,101,110])) with
 | true=>
  obtain ⟨t1,t2⟩:=two true hb.symm rfl
  refine ⟨true,rfl,iteT ?_⟩
  walk_at "w"
  refine ⟨aB (by show (1:Nat)<=1000; decide),fun T hT=>?_⟩
  have s3:Same H2 (upd H2 T (.lst [V.int (n:Int)])):=(Same.refl H2).laid hT
  have e3:(upd H2 T (.lst [V.int (n:Int)])) T=some (.lst (((cq k n m).map fun (n:Nat)=>(n:Int)).map V.int)):=by rw [t1]; exact ae
  generalize upd H2 T (.lst [V.int (n:Int)])=H3 at*
  rw [aI]
  walk_at "w"
  rw [bd,t2]
  refine iteF ?_
  walk_at "w"
  exact fin0 H3 T (s12.trans s3) e3
 | false=>
  refine ⟨false,rfl,iteF ?_⟩
  rw [aI]
  walk_at "w"
  rw [bd]
  have three:(decide (nmC k=[99,111,117,110,116])=true->cq k n m=[n,m])/\(decide (nmC k=[99,111,117,110,116])=false->cq k n m=[]):=by
   rcases hk with rfl | rfl | rfl | rfl | rfl
   . exact ⟨fun e=>absurd e (by decide),fun _=>rfl⟩
   . exact absurd hb (by decide)
   . exact ⟨fun e=>absurd e (by decide),fun _=>rfl⟩
   . exact absurd hb (by decide)
   . exact ⟨fun _=>rfl,fun e=>absurd e (by decide)⟩
  cases hc:decide (nmC k=[99,111,117,110,116]) with
  | true=>
   refine iteT ?_
   walk_at "w"
   refine ⟨aB (by show (2:Nat)<=1000; decide),fun T hT=>?_⟩
   have s3:Same H2 (upd H2 T (.lst [V.int (n:Int),V.int (m:Int)])):=(Same.refl H2).laid hT
   exact fin0 _ T (s12.trans s3) (by rw [three.1 hc]; exact ae)
  | false=>
   refine iteF ?_
   walk_at "w"
   exact fin0 H2 T0 s12 (by rw [three.2 hc]; exact s2 _ _ e1)
theorem oi {K:Frag} {H:Hp} {Q:VK} {a C:Addr} {ns:List Int} {k:RK} {h w g:Int} {n m:Nat} {cs:List Nat} {v1 v2 v3 v4 v7:Option V} (hS:SqL K H a (ns.map V.int)) (hn:ns.length<=63) (hk:K5 k) (F:FlOk h w g) (eC:H C=some (.lst ((cs.map fun (n:Nat)=>(n:Int)).map V.int))) (c0:cs≠[]) (cn:cs.length<=16) (nd:cs.Nodup) (ci:∀ c∈cs,(c:Int)<h*w) (n9:(n:Int)<=cs.length+1) (m0:1<=(m:Int)) (m1:(m:Int)<=g) (q:kN Q H h w g):
  gD K { nx:=fun _ H'=>Q .non H',rt:=Q } [some (.ref a),v1,v2,v3,v4,some (.str (tx (nmC k))),some (.int (m:Int)),v7,some (.ref C),some (.int (n:Int)),none,none,none] H:=by
 have cl:1<=cs.length:=List.length_pos_iff.mpr c0
 unfold gD
 rw [aL,aI]
 walk_at "w"
 rw [bd]
 cases hc:decide (nmC k=[115,117,109]) with
 | true=>
  refine iteT ?_
  walk_at "w"
  refine ⟨a,ns,3,rfl,hS,hn,by decide,by decide,?_⟩
  walk_at "w"
  refine ⟨.inr ⟨by decide,by decide⟩,by decide,?_⟩
  generalize iB ns 3*48271%20011=y at*
  rw [bc eC,List.length_map,List.length_map]
  walk_at "w"
  rw [bc eC,List.length_map,List.length_map]
  walk_at "w"
  refine ⟨.inl ⟨by decide,by decide⟩,by omega,?_⟩
  have b0:=Int.emod_nonneg y (show 2*(cs.length:Int)≠0 by omega)
  have b1:=Int.emod_lt_of_pos y (show 0<2*(cs.length:Int) by omega)
  obtain ⟨n',hn'⟩:=Int.eq_ofNat_of_zero_le (show 0<=(n:Int)+(cs.length:Int)+y % (2*(cs.length:Int)) by omega)
  have n9':n'<=99:=by omega
  rw [hn']
  exact ky hk F eC c0 cn nd ci n9' m0 m1 q
 | false=>
  refine iteF ?_
  walk_at "w"
  exact ky hk F eC c0 cn nd ci (by omega) m0 m1 q
theorem oj {K:Frag} {H:Hp} {Q:VK} {a p:Addr} {ns:List Int} {k:RK} {h w g y:Int} {m:Nat} {v4:Option V} (hS:SqL K H a (ns.map V.int)) (hn:ns.length<=63) (hk:K5 k) (F:FlOk h w g) (m0:1<=(m:Int)) (m1:(m:Int)<=g) (q:kN Q H h w g):
  gE K { nx:=fun _ H'=>Q .non H',rt:=Q } [some (.ref a),some (.ref p),some (.int (h*w)),some (.int y),v4,some (.str (tx (nmC k))),some (.int (m:Int)),none,none,none,none,none,none] H:=by
 obtain ⟨h0,h1,w0,w1,m16,g0,g1⟩:=id F
 have mpos:1<=h*w:=Int.le_trans (by omega) (Int.mul_le_mul h0 w0 (by omega) (by omega))
 have qs:∀ {H':Hp},Same H H'->kN Q H' h w g:=fun s O R C H2 r n m s2=>q O R C H2 r n m (s.trans s2)
 unfold gE
 walk_at "w"
 refine ⟨a,ns,2,rfl,hS,hn,by decide,by decide,?_⟩
 walk_at "w"
 refine ⟨.inr ⟨by decide,by decide⟩,by decide,?_⟩
 refine ⟨_,_,rfl,by omega,m16,fun O H2 cs s2 hO eO nd ci cl=>?_⟩
 walk_at "w"
 refine ⟨⟨by decide,by decide⟩,by omega,?_⟩
 have b0:=Int.emod_nonneg (y/50) (show h*w≠0 by omega)
 have b1:=Int.emod_lt_of_pos (y/50) (show 0<h*w by omega)
 generalize y/50 % (h*w)=b at*
 refine l8 eO fun C hC=>?_
 rw [oU _ (by omega),Ae]
 have s3:Same H2 (upd H2 C (.lst (nsV (cs.take (1+b).toNat)))):=(Same.refl H2).laid hC
 have eC:(upd H2 C (.lst (nsV (cs.take (1+b).toNat)))) C=some (.lst ((cs.take (1+b).toNat).map (fun (n:Nat)=>(n:Int)) |>.map V.int)):=ae
 generalize upd H2 C (.lst (nsV (cs.take (1+b).toNat)))=H3 at*
 have t0:cs.take (1+b).toNat≠[]:=fun e=>by
  have:=congrArg List.length e
  rw [List.length_take,List.length_nil] at this
  omega
 have t1:(cs.take (1+b).toNat).length<=16:=by rw [List.length_take]; omega
 have t2:(cs.take (1+b).toNat).Nodup:=nd.sublist (List.take_sublist _ _)
 have t3:∀ c∈cs.take (1+b).toNat,(c:Int)<h*w:=fun c hc=>ci c (List.mem_of_mem_take hc)
 generalize cs.take (1+b).toNat=ts at*
 have s23:=s2.trans s3
 walk_at "w"
 refine ⟨a,ns,3,rfl,s23.seq hS,hn,by decide,by decide,?_⟩
 walk_at "w"
 refine ⟨.inr ⟨by decide,by decide⟩,by decide,?_⟩
 rw [bc eC,List.length_map,List.length_map]
 walk_at "w"
 refine ⟨by omega,?_⟩
 have d0:=Int.emod_nonneg (iB ns 3*69621%10007) (show (ts.length:Int)+2≠0 by omega)
 have d1:=Int.emod_lt_of_pos (iB ns 3*69621%10007) (show 0 < (ts.length:Int)+2 by omega)
 obtain ⟨n,hn'⟩:=Int.eq_ofNat_of_zero_le d0
 rw [hn'] at d1 ⊢
 exact oi (s23.seq hS) hn hk F eC t0 t1 t2 t3 (by omega) m0 m1 (qs s23)
def rq:List V:=[V.str (tx [117,110,108,105,107,101]),V.str (tx [115,117,109]),V.str (tx [114,105,115,105,110,103]),V.str (tx [115,101,101,110]),V.str (tx [99,111,117,110,116]),V.str (tx [106,111,105,110,101,100]),V.str (tx [110,111,115,113,117,97,114,101]),V.str (tx [114,105,110,103])]
theorem Ao {j:Int} (j0:0<=j) (j8:j<8):∃ k:RK,(K5 k\/(k=.Joined\/k=.NoSquare\/k=.Ring))/\atI rq j=some (V.str (tx (nmC k))):=by
 have:j=0\/j=1\/j=2\/j=3\/j=4\/j=5\/j=6\/j=7:=by omega
 rcases this with rfl | rfl | rfl | rfl | rfl | rfl | rfl | rfl
 . exact ⟨.Unlike,.inl (.inl rfl),rfl⟩
 . exact ⟨.Sum,.inl (.inr (.inl rfl)),rfl⟩
 . exact ⟨.Rising,.inl (.inr (.inr (.inl rfl))),rfl⟩
 . exact ⟨.Seen,.inl (.inr (.inr (.inr (.inl rfl)))),rfl⟩
 . exact ⟨.Count,.inl (.inr (.inr (.inr (.inr rfl)))),rfl⟩
 . exact ⟨.Joined,.inr (.inl rfl),rfl⟩
 . exact ⟨.NoSquare,.inr (.inr (.inl rfl)),rfl⟩
 . exact ⟨.Ring,.inr (.inr (.inr rfl)),rfl⟩
theorem ol {K:Frag} {H:Hp} {Q:VK} {a p:Addr} {ns:List Int} {k:RK} {h w g y:Int} {m:Nat} {v4:Option V} (hS:SqL K H a (ns.map V.int)) (hn:ns.length<=63) (hk:K5 k\/(k=.Joined\/k=.NoSquare\/k=.Ring)) (F:FlOk h w g) (m0:1<=(m:Int)) (m1:(m:Int)<=g) (q:kN Q H h w g):
  gF K { nx:=fun _ H'=>Q .non H',rt:=Q } [some (.ref a),some (.ref p),some (.int (h*w)),some (.int y),v4,some (.str (tx (nmC k))),some (.int (m:Int)),none,none,none,none,none,none] H:=by
 obtain ⟨h0,h1,w0,w1,m16,g0,g1⟩:=id F
 have mpos:1<=h*w:=Int.le_trans (by omega) (Int.mul_le_mul h0 w0 (by omega) (by omega))
 have qs:∀ {H':Hp},Same H H'->kN Q H' h w g:=fun s O R C H2 r n m s2=>q O R C H2 r n m (s.trans s2)
 have sz:∀ x y:List Nat,x.length+y.length<=1000->(tx x).length+(tx y).length<=sizeLine:=fun x y h=>by rw [i8,i8]; exact aB h
 have nk:(nmC k).length<=8:=by cases k <;> decide
 have lm:(numC m).length<=2:=nS
 unfold gF
 rw [aL,aI]
 walk_at "w"
 refine ⟨aB (by show (3:Nat)<=1000; decide),fun P hP=>?_⟩
 have s1:Same H (upd H P (.tup [V.str (tx [106,111,105,110,101,100]),V.str (tx [110,111,115,113,117,97,114,101]),V.str (tx [114,105,110,103])])):=(Same.refl H).laid hP
 have e1:(upd H P (.tup [V.str (tx [106,111,105,110,101,100]),V.str (tx [110,111,115,113,117,97,114,101]),V.str (tx [114,105,110,103])])) P=some (.tup (([tx [106,111,105,110,101,100],tx [110,111,115,113,117,97,114,101],tx [114,105,110,103]]:List Str).map V.str)):=ae
 generalize upd H P (.tup [V.str (tx [106,111,105,110,101,100]),V.str (tx [110,111,115,113,117,97,114,101]),V.str (tx [114,105,110,103])])=H1 at*
 rw [vP e1]
 have din:decide (tx (nmC k)∈([tx [106,111,105,110,101,100],tx [110,111,115,113,117,97,114,101],tx [114,105,110,103]]:List Str))=(decide (nmC k=[106,111,105,110,101,100])||(decide (nmC k=[110,111,115,113,117,97,114,101])||decide (nmC k=[114,105,110,103]))):=by
  rw [← bd,← bd,← bd,Bool.eq_iff_iff,Bool.or_eq_true,Bool.or_eq_true,decide_eq_true_eq,decide_eq_true_eq,decide_eq_true_eq,decide_eq_true_eq]
  simp
 rw [din]
 rcases hk with hk | hk
 . have e:(decide (nmC k=[106,111,105,110,101,100])||(decide (nmC k=[110,111,115,113,117,97,114,101])||decide (nmC k=[114,105,110,103])))=false:=by
    rcases hk with rfl | rfl | rfl | rfl | rfl <;> decide
   rw [e]
   refine ⟨false,rfl,iteF ?_⟩
   exact oj (s1.seq hS) hn hk F m0 m1 (qs s1)
 . have e:(decide (nmC k=[106,111,105,110,101,100])||(decide (nmC k=[110,111,115,113,117,97,114,101])||decide (nmC k=[114,105,110,103])))=true:=by
    rcases hk with rfl | rfl | rfl <;> decide
   rw [e]
   refine ⟨true,rfl,iteT ?_⟩
   walk_at "w"
   refine ⟨_,rfl,by omega,by omega,fun C hC=>?_⟩
   have s2:Same H1 (upd H1 C (.lst ((rngL 0 (h*w)).map V.int))):=(Same.refl H1).laid hC
   have e2:(upd H1 C (.lst ((rngL 0 (h*w)).map V.int))) C=some (.lst ((rngL 0 (h*w)).map V.int)):=ae
   generalize upd H1 C (.lst ((rngL 0 (h*w)).map V.int))=H2 at*
   walk_at "w"
   refine ⟨aB (by show (4:Nat)<=1000; decide),fun R hR=>?_⟩
   have s3:Same H2 (upd H2 R (.tup [V.str (tx (nmC k)),V.int 0,V.int (m:Int),V.ref C])):=(Same.refl H2).laid hR
   have e3:(upd H2 R (.tup [V.str (tx (nmC k)),V.int 0,V.int (m:Int),V.ref C])) R=some (.tup [V.str (tx (nmC k)),V.int 0,V.int (m:Int),V.ref C]):=ae
   generalize upd H2 R (.tup [V.str (tx (nmC k)),V.int 0,V.int (m:Int),V.ref C])=H3 at*
   rw [vK (show m<100 by omega)]
   simp only [t4]
   refine ⟨sz _ _ (by simp; omega),vM (by omega),sz _ _ (by simp; omega),aB (by show (2:Nat)<=1000; decide),fun O hO=>?_⟩
   have et:nmC k++[32]++numC m=catL 32 [nmC k,numC m]:=by
    show _=nmC k++32::numC m
    simp
   rw [et]
   have s4:Same H3 (upd H3 O (.tup [V.ref R,V.str (tx (catL 32 [nmC k,numC m]))])):=(Same.refl H3).laid hO
   have s14:=(s1.trans s2).trans (s3.trans s4)
   have ro:RR.Ok ⟨k,0,m,[],rngL 0 (h*w)⟩ h w g:=by
    rcases hk with rfl | rfl | rfl
    . exact ng rfl (by decide) rfl rfl m0 m1
    . exact ng rfl (by decide) rfl rfl m0 m1
    . exact ng rfl (by decide) rfl rfl m0 m1
   have ew:catL 32 [nmC k,numC m]=catL 32 (RR.ws ⟨k,0,m,[],rngL 0 (h*w)⟩):=by
    rcases hk with rfl | rfl | rfl <;> rfl
   refine q O R C _ ⟨k,0,m,[],rngL 0 (h*w)⟩ 0 m s14 (by rw [ae,ew]; rfl) ⟨s4 _ _ e3,s4 _ _ (s3 _ _ e2),ro,fun _=>rfl,fun _=>rfl,fun e=>?_⟩
   have:=congrArg List.length e
   rw [iA,List.length_nil] at this
   omega
theorem rz {K:Frag} {vs:List V} {H:Hp} {Q:VK} {E:XK} (h:cA K vs H Q E):gB K { nx:=fun _ H'=>Q .non H',rt:=Q } (start ["_law_script","_law_floor_here","_law_many","_law_cell","_law_some","_law_word","_law_sign","_law_order_here","_law_cells","_law_number","_law_more","_law_told","_law_row"] vs) H:=by
 obtain ⟨a,p,ns,h,w,g,rfl,hS,hn,hp,F,q⟩:=h
 obtain ⟨h0,h1,w0,w1,m16,g0,g1⟩:=id F
 show gB K _ [some (.ref a),some (.ref p),some (.int (h*w)),none,none,none,none,none,none,none,none,none,none] H
 unfold gB
 walk_at "w"
 refine ⟨a,ns,1,rfl,hS,hn,by decide,by decide,?_⟩
 walk_at "w"
 refine ⟨.inr ⟨by decide,by decide⟩,by decide,?_⟩
 generalize iB ns 1*16807%1000003=y at*
 refine ⟨aB (by show (8:Nat)<=1000; decide),fun U hU=>?_⟩
 have s1:Same H (upd H U (.lst rq)):=(Same.refl H).laid hU
 have e1:(upd H U (.lst rq)) U=some (.lst rq):=ae
 generalize hHz:upd H U (.lst rq)=H1 at*
 have hHz':=hHz
 unfold rq at hHz'
 rw [hHz']
 refine ⟨by decide,?_⟩
 obtain ⟨k,hk,ek⟩:=Ao (Int.emod_nonneg y (show (8:Int)≠0 by decide)) (Int.emod_lt_of_pos y (show (0:Int)<8 by decide))
 refine ixL e1 ek ?_
 walk_at "w"
 refine ⟨⟨by decide,by decide⟩,?_⟩
 refine ixT (s1 _ _ hp) (v:=V.int g) rfl ?_
 walk_at "w"
 refine ⟨by omega,?_⟩
 have b0:=Int.emod_nonneg (y/8) (show g≠0 by omega)
 have b1:=Int.emod_lt_of_pos (y/8) (show 0<g by omega)
 obtain ⟨m,hm⟩:=Int.eq_ofNat_of_zero_le (show 0<=1+y/8%g by omega)
 have m0:1<=(m:Int):=by rw [← hm]; omega
 have m1:(m:Int)<=g:=by rw [← hm]; omega
 rw [hm]
 exact ol (s1.seq hS) hn hk F m0 m1 fun O R C H' r n m s e x=>q O R C H' r n m (s1.trans s) e x
noncomputable def nV (x:RR) (h w g:Int) (masks:List Int) (at_ r z s:Int) (ms:List Int):Bool:=decide (r=at_)&&(decide (z∈x.cs)&&((decide (1<=s)&&decide (s<=g))&&waysB x.k h w x.cs (x.n:Int) (x.m:Int) masks z s ms))
theorem uL {H:Hp} {R C:Addr} {h w g n m at_ r z s:Int} {x:RR} {masks ms:List Int} (X:Ru37 H R C h w g x n m):qB x.k h w g x.cs masks n m at_ r z s ms=nV x h w g masks at_ r z s ms:=by
 have e:waysB x.k h w x.cs n m masks z s []=waysB x.k h w x.cs (x.n:Int) (x.m:Int) masks z s []:=by
  unfold waysB
  rw [show (fun f=>hoB x.k h w x.cs n m f)=fun f=>hoB x.k h w x.cs (x.n:Int) (x.m:Int) f from funext X.ho]
 unfold qB nV
 rw [e]
 by_cases hm:ms=[]
 . subst hm
   rw [decide_eq_true rfl,Bool.true_and]
 . have w0:waysB x.k h w x.cs (x.n:Int) (x.m:Int) masks z s ms=false:=by
    unfold waysB
    rw [decide_eq_false hm,Bool.false_and]
   rw [decide_eq_false hm,w0]
   simp
theorem sd {h w g:Int} {x:RR} {masks:List Int} {r z s:Int} {ms:List Int} (F:FlOk h w g) (O:x.Ok h w g):(((decide (0<=z)&&decide (z<h*w))&&((decide (1<=s)&&decide (s<=g))&&(goesB .ways x.k&&decide (z∈x.cs))))&&waysB x.k h w x.cs (x.n:Int) (x.m:Int) masks z s ms)=(decide (z∈x.cs)&&((decide (1<=s)&&decide (s<=g))&&waysB x.k h w x.cs (x.n:Int) (x.m:Int) masks z s ms)):=by
 have hg:goesB .ways x.k=true:=by
  have:=O.k0
  revert this
  cases x.k <;> first | decide | (intro _; rfl)
 rw [hg,Bool.true_and]
 by_cases hz:z∈x.cs
 . have b:=(RR.cin22 O F).2 z hz
   rw [decide_eq_true hz,decide_eq_true b.1,decide_eq_true (show z<h*w by omega)]
   cases decide (1<=s) <;> cases decide (s<=g) <;> simp
 . rw [decide_eq_false hz]
   simp
theorem yE {h w g at_:Int} {x o:RR} {masks:List Int} {r z s:Int} {ms:List Int} (F:FlOk h w g) (Ox:x.Ok h w g) (Oo:o.Ok h w g) (a:at_=0\/at_=1):lZ h w g (ip at_ x o) masks .ways r z s ms=(nV x h w g masks at_ r z s ms||nV o h w g masks (1-at_) r z s ms):=by
 unfold lZ formB hitB qp nV
 by_cases hr:r<0
 . rw [if_pos hr,decide_eq_false (show ¬ r=at_ by omega),decide_eq_false (show ¬ r=1-at_ by omega)]
   simp
 rw [if_neg hr,if_neg (show ¬ TK.ways=TK.clue by decide)]
 obtain ⟨j,rfl⟩:=Int.eq_ofNat_of_zero_le (show 0<=r by omega)
 rw [Int.toNat_natCast]
 have rx:=sd (masks:=masks) (r:=(j:Int)) (z:=z) (s:=s) (ms:=ms) F Ox
 have ro:=sd (masks:=masks) (r:=(j:Int)) (z:=z) (s:=s) (ms:=ms) F Oo
 rcases a with rfl | rfl
 . match j with
   | 0=>
    rw [decide_eq_true (show ((0:Nat):Int)=0 from rfl),decide_eq_false (show ¬ ((0:Nat):Int)=1-0 by decide),Bool.true_and,Bool.false_and,Bool.or_false]
    exact rx
   | 1=>
    rw [decide_eq_false (show ¬ ((1:Nat):Int)=0 by decide),decide_eq_true (show ((1:Nat):Int)=1-0 from rfl),Bool.true_and,Bool.false_and,Bool.false_or]
    exact ro
   | j+2=>
    rw [decide_eq_false (show ¬ ((j+2:Nat):Int)=0 by omega),decide_eq_false (show ¬ ((j+2:Nat):Int)=1-0 by omega),Bool.false_and,Bool.false_and]
    simp [ip]
 . match j with
   | 0=>
    rw [decide_eq_false (show ¬ ((0:Nat):Int)=1 by decide),decide_eq_true (show ((0:Nat):Int)=1-1 from rfl),Bool.true_and,Bool.false_and,Bool.false_or]
    exact ro
   | 1=>
    rw [decide_eq_true (show ((1:Nat):Int)=1 from rfl),decide_eq_false (show ¬ ((1:Nat):Int)=1-1 by decide),Bool.true_and,Bool.false_and,Bool.or_false]
    exact rx
   | j+2=>
    rw [decide_eq_false (show ¬ ((j+2:Nat):Int)=1 by omega),decide_eq_false (show ¬ ((j+2:Nat):Int)=1-1 by omega),Bool.false_and,Bool.false_and]
    simp [ip]
def uM (K:Frag) (c:RCl RK) (d:RCl PzK):Sp:=fun vs H Q _=>∃ (a:Addr) (ns:List Int),vs=[.ref a]/\SqL K H a (ns.map V.int)/\ns.length<=63/\(∀ k,k≠.Rule->c.ok k=true)/\d.ok .Puzzle=true/\∀ H',Q (.bl true) H'
def rA (K:Frag):Sp:=fun vs H Q _=>∃ (a:Addr) (ns:List Int),vs=[.ref a]/\SqL K H a (ns.map V.int)/\ns.length<=63/\∀ H',Q (.bl true) H'
theorem Bh {K:Frag} {c:RCl RK} {d:RCl PzK} {vs:List V} {H:Hp} {Q:VK} {E:XK} (h:uM K c d vs H Q E):vs.length=1:=by
 obtain ⟨_,_,rfl,_⟩:=h; rfl
def zu (K:Frag) (c:RCl RK) (d:RCl PzK):TS:=
 (tSeq (tAsg (tCall (bC K) [] E0 (tCons (tVar 0) (tCons (tVar 2) (tCons (tOp cIx (tVar 4) (tC (.int 3))) (tCons (tVar 14) tNil))))) (gName 15))
  (tSeq (tAsg (tTup (tCons (tOp cIx (tVar 15) (tC (.int 0))) (tCons (tOp cIx (tVar 15) (tC (.int 1))) (tCons (tOp cIx (tVar 15) (tC (.int 2))) (tCons (tOp cIx (tVar 15) (tC (.int 3))) (tCons (tCB kList (tCons (tOp cIx (tVar 15) (tC (.int 4))) tNil)) tNil)))))) (gName 16))
  (tSeq (tAsg (tCall (dw K c d) [] E0 (tCons (tVar 11) (tCons (tVar 13) (tCons (tVar 16) tNil)))) (gName 17))
  (tSeq (tAsg (tCall (cj K) [] E0 (tCons (tVar 2) (tCons (tVar 4) (tCons (tVar 12) (tCons (tVar 15) (tCons (tVar 10) tNil)))))) (gName 18))
  (tSeq (tAsg (tOrV (tVar 18) (tCall (cj K) [] E0 (tCons (tVar 2) (tCons (tVar 8) (tCons (tVar 12) (tCons (tVar 15) (tCons (tOp cSub (tC (.int 1)) (tVar 10)) tNil))))))) (gName 18))
  (tSeq (tIfS (tOr (tNot (tB (tCB kIsi (tCons (tVar 17) (tCons (tC (.ty "bool")) tNil))))) (tTest (tOp (cNe K) (tVar 17) (tVar 18)))) (tRet (tC (.bl false))) tNext)
  (tIfS (tOr (tTest (tOp (cNe K) (tVar 13) (tVar 12))) (tTest (tOp (cNe K) (tVar 16) (tVar 15)))) (tRet (tC (.bl false))) tNext)))))))
def nn (K:Frag) (c:RCl RK) (d:RCl PzK):TS:=
 (tSeq (tAsg (tMake (d.A .Puzzle) (ba K c d) [] E0 (tCons (tVar 2) (tCons (tOp cIx (tLst (tCons (tLst (tCons (tVar 5) (tCons (tVar 9) tNil))) (tCons (tLst (tCons (tVar 9) (tCons (tVar 5) tNil))) tNil))) (tVar 10)) (tCons (tCall (bZ K) [] E0 (tCons (tVar 0) (tCons (tVar 2) tNil))) tNil)))) (gName 11))
  (tSeq (tAsg (tCall (b7 K) [] E0 (tCons (tVar 0) (tCons (tVar 2) tNil))) (gName 12))
  (tSeq (tAsg (tCB kList (tCons (tVar 12) tNil)) (gName 13))
  (tSeq (tFor (gK (tCons (tC (.int 5)) tNil)) (gName 14)
  (zu K c d))
  (tRet (tC (.bl true)))))))
def np (K:Frag) (c:RCl RK) (d:RCl PzK):TS:=
 (tSeq (tAsg (tOp cMod (tCall (aN K) [] E0 (tCons (tVar 0) (tCons (tC (.int 5)) tNil))) (tC (.int 2))) (gName 10))
  (nn K c d))
def nq (K:Frag) (c:RCl RK) (d:RCl PzK):TS:=
 (tSeq (tAsg (tOp cIx (tLst (tCons (tVar 6) (tCons (tVar 7) tNil))) (tOp cMod (tCall (aN K) [] E0 (tCons (tVar 0) (tCons (tC (.int 4)) tNil))) (tC (.int 2)))) (gTup K 2 (gCons (gName 8) (gCons (gName 9) gNil))))
  (np K c d))
def nr (K:Frag) (c:RCl RK) (d:RCl PzK):TS:=
 (tSeq (tAsg (tTup (tCons (tTup (tCons (tC (.str (tx [117,110,108,105,107,101]))) (tCons (tC (.int 0)) (tCons (tC (.int 0)) (tCons (tLst (tCons (tC (.int 0)) tNil)) tNil))))) (tCons (tC (.str (tx [117,110,108,105,107,101,32,48]))) tNil))) (gName 6))
  (tSeq (tAsg (tTup (tCons (tTup (tCons (tC (.str (tx [99,111,117,110,116]))) (tCons (tC (.int 1)) (tCons (tC (.int 1)) (tCons (tLst (tCons (tC (.int 1)) (tCons (tC (.int 0)) tNil))) tNil))))) (tCons (tC (.str (tx [99,111,117,110,116,32,49,32,49,32,49,32,48]))) tNil))) (gName 7))
  (nq K c d)))
def qD (K:Frag) (c:RCl RK) (d:RCl PzK):TS:=
 (tSeq (tAsg (tOp cMod (tOp cMul (tCall (aN K) [] E0 (tCons (tVar 0) (tCons (tC (.int 0)) tNil))) (tC (.int 48271))) (tC (.int 65537))) (gName 1))
  (tSeq (tAsg (tCall (bY K) [] E0 (tCons (tVar 1) tNil)) (gName 2))
  (tSeq (tAsg (tOp cMul (tOp cIx (tVar 2) (tC (.int 0))) (tOp cIx (tVar 2) (tC (.int 1)))) (gName 3))
  (tSeq (tAsg (tCall (cA K) [] E0 (tCons (tVar 0) (tCons (tVar 2) (tCons (tVar 3) tNil)))) (gTup K 2 (gCons (gName 4) (gCons (gName 5) gNil))))
  (nr K c d)))))
structure L37 (K:Frag) (H:Hp) (c:RCl RK) (d:RCl PzK) (a p P L G A B Rx Cx Ro Co:Addr) (ns:List Int) (h w g at_ nx mx no mo:Int) (x o:RR) (cl masks:List Int):Prop where
 S:SqL K H a (ns.map V.int)
 n:ns.length<=63
 fl:IsFl H p h w g
 P:IsPz H c d P L G h w g (ip at_ x o) cl
 a2:at_=0\/at_=1
 X:Ru37 H Rx Cx h w g x nx mx
 O:Ru37 H Ro Co h w g o no mo
 A:H A=some (.lst (masks.map V.int))
 B:H B=some (.lst (masks.map V.int))
 ml:masks.length=(h*w).toNat
 mm:∀ m∈masks,0<=m/\m<64
 mw:∀ m∈masks,fW g m
theorem L37.same {K:Frag} {H H':Hp} {c:RCl RK} {d:RCl PzK} {a p P L G A B Rx Cx Ro Co:Addr} {ns:List Int} {h w g at_ nx mx no mo:Int} {x o:RR} {cl masks:List Int} (X:L37 K H c d a p P L G A B Rx Cx Ro Co ns h w g at_ nx mx no mo x o cl masks) (s:Same H H'):L37 K H' c d a p P L G A B Rx Cx Ro Co ns h w g at_ nx mx no mo x o cl masks:=
 ⟨s.seq X.S,X.n,s _ _ X.fl,X.P.same s,X.a2,X.X.same s,X.O.same s,s _ _ X.A,s _ _ X.B,X.ml,X.mm,X.mw⟩
theorem Ru37.d {H:Hp} {p R C A T M:Addr} {h w g n m r z s:Int} {x:RR} {masks ms:List Int} (X:Ru37 H R C h w g x n m) (fl:IsFl H p h w g) (F:FlOk h w g) (A':H A=some (.lst (masks.map V.int))) (ml:masks.length=(h*w).toNat) (mm:∀ m∈masks,0<=m/\m<64) (mw:∀ m∈masks,fW g m) (T':IsTh H T M .ways r z s ms):D37 H p R C A T M x.k h w g n m x.cs masks r z s ms:=by
 have mpos:0<=h*w:=Int.mul_nonneg (by have:=F.h0; omega) (by have:=F.w0; omega)
 have ci:=RR.cin22 X.ok F
 have fm:=F.m
 have cl:x.cs.length<=16:=by
  have:=X.ok.cl
  by_cases ha:allK x.k=true
  . have hc:x.cs=rngL 0 (h*w):=X.ca (by revert ha; cases x.k <;> decide)
    rw [hc,iA]; omega
  . obtain ⟨_,h2,_,_,h5⟩:=this.1 (by simpa using ha)
    rw [h5,List.length_map]; exact h2
 exact ⟨fl,F,X.R,X.C,cl,fun c hc=>by have:=ci.2 c hc; omega,X.ok.k0,X.ca,A',by omega,mm,mw,T'⟩
theorem Ap {K:Frag} {c:RCl RK} {d:RCl PzK} {H:Hp} {D:Ends} {a p P L G A B Rx Cx Ro Co:Addr} {ns:List Int} {h w g at_ nx mx no mo:Int} {x o:RR} {cl masks:List Int} {i:Nat} {v1 v3 v5 v6 v7 v9 v15 v16 v17 v18:Option V} (X:L37 K H c d a p P L G A B Rx Cx Ro Co ns h w g at_ nx mx no mo x o cl masks) (hi:i<5)
  (q:∀ (v15 v16 v17 v18:Option V) (H':Hp),Same H H'->D.nx [some (.ref a),v1,some (.ref p),v3,some (.ref Rx),v5,v6,v7,some (.ref Ro),v9,some (.int at_),some (.ref P),some (.ref A),some (.ref B),some (.int (i:Int)),v15,v16,v17,v18] H'):
  zu K c d D [some (.ref a),v1,some (.ref p),v3,some (.ref Rx),v5,v6,v7,some (.ref Ro),v9,some (.int at_),some (.ref P),some (.ref A),some (.ref B),some (.int (i:Int)),v15,v16,v17,v18] H:=by
 have F:=X.P.R.F
 unfold zu
 walk_at "w"
 refine ixT X.X.R (v:=V.ref Cx) rfl ?_
 walk_at "w"
 refine ⟨a,p,Cx,ns,(i:Int),h,w,g,x.cs,rfl,X.S,X.n,X.fl,F,X.X.C,X.X.c0,by omega,by omega,fun T M H1 r z s ms s1 Th=>?_⟩
 walk_at "w"
 refine ixT Th.T (v:=V.str (tx (tkC .ways))) rfl ?_
 walk_at "w"
 refine ixT Th.T (v:=V.int r) rfl ?_
 walk_at "w"
 refine ixT Th.T (v:=V.int z) rfl ?_
 walk_at "w"
 refine ixT Th.T (v:=V.int s) rfl ?_
 walk_at "w"
 refine ixT Th.T (v:=V.ref M) rfl ?_
 refine m3 Th.M fun N hN=>?_
 have s2:Same H1 (upd H1 N (.lst (ms.map V.int))):=(Same.refl H1).laid hN
 have eN:(upd H1 N (.lst (ms.map V.int))) N=some (.lst (ms.map V.int)):=ae
 generalize upd H1 N (.lst (ms.map V.int))=H2 at*
 walk_at "w"
 refine ⟨aB (by show (5:Nat)<=1000; decide),fun T2 hT2=>?_⟩
 have s3:Same H2 (upd H2 T2 (.tup [V.str (tx (tkC .ways)),V.int r,V.int z,V.int s,V.ref N])):=(Same.refl H2).laid hT2
 have Th2:IsTh (upd H2 T2 (.tup [V.str (tx (tkC .ways)),V.int r,V.int z,V.int s,V.ref N])) T2 N .ways r z s ms:=⟨ae,s3 _ _ eN,Th.n⟩
 generalize upd H2 T2 (.tup [V.str (tx (tkC .ways)),V.int r,V.int z,V.int s,V.ref N])=H3 at*
 have s13:=(s1.trans s2).trans s3
 have X3:=X.same s13
 have Th3:=Th.same (s2.trans s3)
 walk_at "w"
 refine ⟨P,L,G,B,T2,N,h,w,g,_,cl,masks,r,z,s,ms,rfl,⟨X3.P,Th2,X3.B,X3.ml⟩,X.mm,fun H4 s4=>?_⟩
 have X4:=X3.same s4
 walk_at "w"
 refine ⟨p,Rx,Cx,A,T,M,x.k,h,w,g,nx,mx,x.cs,masks,at_,r,z,s,ms,rfl,X4.X.d X4.fl F X4.A X.ml X.mm X.mw (Th3.same s4),fun H5 s5=>?_⟩
 rw [uL X.X]
 have X5:=X4.same s5
 have s45:=s4.trans s5
 have ea:=yE (masks:=masks) (r:=r) (z:=z) (s:=s) (ms:=ms) F X.X.ok X.O.ok X.a2
 have fin:∀ (H6:Hp) (b:Bool),Same H5 H6->b=lZ h w g (ip at_ x o) masks .ways r z s ms->(tSeq (tIfS (tOr (tNot (tB (tCB kIsi (tCons (tVar 17) (tCons (tC (.ty "bool")) tNil))))) (tTest (tOp (cNe K) (tVar 17) (tVar 18)))) (tRet (tC (.bl false))) tNext) (tIfS (tOr (tTest (tOp (cNe K) (tVar 13) (tVar 12))) (tTest (tOp (cNe K) (tVar 16) (tVar 15)))) (tRet (tC (.bl false))) tNext)) D [some (.ref a),v1,some (.ref p),v3,some (.ref Rx),v5,v6,v7,some (.ref Ro),v9,some (.int at_),some (.ref P),some (.ref A),some (.ref B),some (.int (i:Int)),some (.ref T),some (.ref T2),some (.bl (lZ h w g (ip at_ x o) masks .ways r z s ms)),some (.bl b)] H6:=fun H6 b s6 hb=>by
  have X6:=X5.same s6
  have s46:=s45.trans s6
  rw [hb,aL,aI]
  walk_at "w"
  rw [aI]
  walk_at "w"
  refine tm X6.B X6.A ?_
  walk_at "w"
  refine Bf (Th2.same s46) (Th3.same s46) ?_
  walk_at "w"
  exact q _ _ _ _ H6 (s13.trans s46)
 refine ⟨_,rfl,?_⟩
 cases hb:nV x h w g masks at_ r z s ms with
 | true=>
  rw [if_pos rfl]
  refine fin H5 true (Same.refl _) ?_
  rw [ea,hb]; rfl
 | false=>
  rw [if_neg Bool.false_ne_true]
  refine ⟨p,Ro,Co,A,T,M,o.k,h,w,g,no,mo,o.cs,masks,1-at_,r,z,s,ms,rfl,X5.O.d X5.fl F X5.A X.ml X.mm X.mw (Th3.same s45),fun H6 s6=>?_⟩
  rw [uL X.O]
  refine fin H6 _ s6 ?_
  rw [ea,hb]; rfl
theorem yF {K:Frag} {c:RCl RK} {d:RCl PzK} {H:Hp} {Q:VK} {a p Rx Cx Ro Co:Addr} {y:Int} {ns:List Int} {h w g at_ nx mx no mo:Int} {x o:RR} {v6 v7:Option V} (hS:SqL K H a (ns.map V.int)) (hn:ns.length<=63) (hp:IsFl H p h w g) (F:FlOk h w g) (a2:at_=0\/at_=1) (X:Ru37 H Rx Cx h w g x nx mx) (O:Ru37 H Ro Co h w g o no mo) (hk:∀ k,k≠.Rule->c.ok k=true) (ok:d.ok .Puzzle=true) (k:∀ H',Q (.bl true) H'):
  nn K c d { nx:=fun _ H'=>Q .non H',rt:=Q } [some (.ref a),some (.int y),some (.ref p),some (.int (h*w)),some (.ref Rx),some (.str x.txt),v6,v7,some (.ref Ro),some (.str o.txt),some (.int at_),none,none,none,none,none,none,none,none] H:=by
 have RO:m8 c h w g (ip at_ x o):=by
  have mem:∀ r∈ip at_ x o,r=x\/r=o:=fun r hr=>by
   unfold ip at hr
   split at hr <;> simp at hr <;> rcases hr with rfl | rfl <;> simp
  have okk:∀ r∈ip at_ x o,r.Ok h w g:=fun r hr=>by rcases mem r hr with rfl | rfl; exact X.ok; exact O.ok
  exact ⟨F,by unfold ip; split <;> simp,okk,fun r hr=>hk _ (okk r hr).k0⟩
 unfold nn
 walk_at "w"
 refine ⟨aB (by show (2:Nat)<=1000; decide),fun U1 h1=>?_⟩
 have s1:Same H (upd H U1 (.lst [V.str x.txt,V.str o.txt])):=(Same.refl H).laid h1
 have e1:(upd H U1 (.lst [V.str x.txt,V.str o.txt])) U1=some (.lst [V.str x.txt,V.str o.txt]):=ae
 generalize upd H U1 (.lst [V.str x.txt,V.str o.txt])=H1 at*
 refine ⟨aB (by show (2:Nat)<=1000; decide),fun U2 h2=>?_⟩
 have s2:Same H1 (upd H1 U2 (.lst [V.str o.txt,V.str x.txt])):=(Same.refl H1).laid h2
 have e2:(upd H1 U2 (.lst [V.str o.txt,V.str x.txt])) U2=some (.lst [V.str o.txt,V.str x.txt]):=ae
 generalize upd H1 U2 (.lst [V.str o.txt,V.str x.txt])=H2 at*
 refine ⟨aB (by show (2:Nat)<=1000; decide),fun U3 h3=>?_⟩
 have s3:Same H2 (upd H2 U3 (.lst [V.ref U1,V.ref U2])):=(Same.refl H2).laid h3
 have e3:(upd H2 U3 (.lst [V.ref U1,V.ref U2])) U3=some (.lst [V.ref U1,V.ref U2]):=ae
 generalize upd H2 U3 (.lst [V.ref U1,V.ref U2])=H3 at*
 have s13:=(s1.trans s2).trans s3
 obtain ⟨U,eU,eT⟩:∃ U:Addr,atI [V.ref U1,V.ref U2] at_=some (V.ref U)/\H3 U=some (.lst (((ip at_ x o).map RR.txt).map V.str)):=by
  rcases a2 with rfl | rfl
  . exact ⟨U1,rfl,s3 _ _ (s2 _ _ e1)⟩
  . exact ⟨U2,rfl,s3 _ _ e2⟩
 refine ixL e3 eU ?_
 walk_at "w"
 refine ⟨a,p,ns,h,w,g,rfl,s13.seq hS,hn,s13 _ _ hp,F,fun Cl H4 cl s4 eC hcl=>?_⟩
 have s14:=s13.trans s4
 walk_at "w"
 refine A4 ok (s14 _ _ hp) (s4 _ _ eT) eC RO hcl fun P L G H5 s5 hP hL2 hG Y=>?_
 have s15:=s14.trans s5
 walk_at "w"
 refine ⟨a,p,ns,h,w,g,rfl,s15.seq hS,hn,s15 _ _ hp,F,fun A H6 masks s6 eA hml hmm hmw=>?_⟩
 walk_at "w"
 refine m3 eA fun B hB=>?_
 have s7:Same H6 (upd H6 B (.lst (masks.map V.int))):=(Same.refl H6).laid hB
 have eB:(upd H6 B (.lst (masks.map V.int))) B=some (.lst (masks.map V.int)):=ae
 generalize upd H6 B (.lst (masks.map V.int))=H7 at*
 have s67:=s6.trans s7
 have s17:=s15.trans s67
 have W:L37 K H7 c d a p P L G A B Rx Cx Ro Co ns h w g at_ nx mx no mo x o cl masks:=⟨s17.seq hS,hn,s17 _ _ hp,Y.same s67,a2,X.same s17,O.same s17,s7 _ _ eA,eB,hml,hmm,hmw⟩
 walk_at "w"
 refine ⟨5,rfl,by decide,by decide,?_⟩
 refine kd (fun i σ H'=>∃ v14 v15 v16 v17 v18:Option V,σ=[some (.ref a),some (.int y),some (.ref p),some (.int (h*w)),some (.ref Rx),some (.str x.txt),v6,v7,some (.ref Ro),some (.str o.txt),some (.int at_),some (.ref P),some (.ref A),some (.ref B),v14,v15,v16,v17,v18]/\Same H7 H') ⟨_,_,_,_,_,rfl,Same.refl H7⟩ ?_ ?_
 . rintro i σ H8 hi ⟨v14,v15,v16,v17,v18,rfl,s8⟩
   rw [Int.zero_add]
   walk_at "w"
   exact Ap (W.same s8) hi fun u15 u16 u17 u18 H' s9=>⟨_,_,_,_,_,rfl,s8.trans s9⟩
 . rintro σ H8 ⟨v14,v15,v16,v17,v18,rfl,s8⟩
   walk_at "w"
   exact k _
theorem se {K:Frag} {c:RCl RK} {d:RCl PzK} {H:Hp} {Q:VK} {a p Rx Cx Ro Co:Addr} {y:Int} {ns:List Int} {h w g nx mx no mo:Int} {x o:RR} {v6 v7:Option V} (hS:SqL K H a (ns.map V.int)) (hn:ns.length<=63) (hp:IsFl H p h w g) (F:FlOk h w g) (X:Ru37 H Rx Cx h w g x nx mx) (O:Ru37 H Ro Co h w g o no mo) (hk:∀ k,k≠.Rule->c.ok k=true) (ok:d.ok .Puzzle=true) (k:∀ H',Q (.bl true) H'):
  np K c d { nx:=fun _ H'=>Q .non H',rt:=Q } [some (.ref a),some (.int y),some (.ref p),some (.int (h*w)),some (.ref Rx),some (.str x.txt),v6,v7,some (.ref Ro),some (.str o.txt),none,none,none,none,none,none,none,none,none] H:=by
 unfold np
 walk_at "w"
 refine ⟨a,ns,5,rfl,hS,hn,by decide,by decide,?_⟩
 walk_at "w"
 refine ⟨by decide,?_⟩
 have a2:iB ns 5%2=0\/iB ns 5%2=1:=by omega
 generalize iB ns 5%2=at_ at*
 exact yF hS hn hp F a2 X O hk ok k
theorem yG {K:Frag} {c:RCl RK} {d:RCl PzK} {H:Hp} {Q:VK} {a p Rx Cx O1 R1 C1 O2 R2 C2:Addr} {y:Int} {ns:List Int} {h w g nx mx n1 m1 n2 m2:Int} {x o1 o2:RR} (hS:SqL K H a (ns.map V.int)) (hn:ns.length<=63) (hp:IsFl H p h w g) (F:FlOk h w g) (X:Ru37 H Rx Cx h w g x nx mx) (e1:H O1=some (.tup [.ref R1,.str o1.txt])) (Y1:Ru37 H R1 C1 h w g o1 n1 m1) (e2:H O2=some (.tup [.ref R2,.str o2.txt])) (Y2:Ru37 H R2 C2 h w g o2 n2 m2) (hk:∀ k,k≠.Rule->c.ok k=true) (ok:d.ok .Puzzle=true) (k:∀ H',Q (.bl true) H'):
  nq K c d { nx:=fun _ H'=>Q .non H',rt:=Q } [some (.ref a),some (.int y),some (.ref p),some (.int (h*w)),some (.ref Rx),some (.str x.txt),some (.ref O1),some (.ref O2),none,none,none,none,none,none,none,none,none,none,none] H:=by
 unfold nq
 walk_at "w"
 refine ⟨aB (by show (2:Nat)<=1000; decide),fun U hU=>?_⟩
 have s1:Same H (upd H U (.lst [V.ref O1,V.ref O2])):=(Same.refl H).laid hU
 have eU:(upd H U (.lst [V.ref O1,V.ref O2])) U=some (.lst [V.ref O1,V.ref O2]):=ae
 generalize upd H U (.lst [V.ref O1,V.ref O2])=H1 at*
 refine ⟨a,ns,4,rfl,s1.seq hS,hn,by decide,by decide,?_⟩
 walk_at "w"
 refine ⟨by decide,?_⟩
 have a2:iB ns 4%2=0\/iB ns 4%2=1:=by omega
 rcases a2 with e | e
 . rw [e]
   refine ixL eU (v:=V.ref O1) rfl ?_
   refine m4 (s1 _ _ e1) rfl ?_
   rw [ma]
   walk_at "w"
   exact se (s1.seq hS) hn (s1 _ _ hp) F (X.same s1) (Y1.same s1) hk ok k
 . rw [e]
   refine ixL eU (v:=V.ref O2) rfl ?_
   refine m4 (s1 _ _ e2) rfl ?_
   rw [ma]
   walk_at "w"
   exact se (s1.seq hS) hn (s1 _ _ hp) F (X.same s1) (Y2.same s1) hk ok k
theorem yH {K:Frag} {c:RCl RK} {d:RCl PzK} {H:Hp} {Q:VK} {a p Rx Cx:Addr} {y:Int} {ns:List Int} {h w g nx mx:Int} {x:RR} (hS:SqL K H a (ns.map V.int)) (hn:ns.length<=63) (hp:IsFl H p h w g) (F:FlOk h w g) (m2:2<=h*w) (X:Ru37 H Rx Cx h w g x nx mx) (hk:∀ k,k≠.Rule->c.ok k=true) (ok:d.ok .Puzzle=true) (k:∀ H',Q (.bl true) H'):
  nr K c d { nx:=fun _ H'=>Q .non H',rt:=Q } [some (.ref a),some (.int y),some (.ref p),some (.int (h*w)),some (.ref Rx),some (.str x.txt),none,none,none,none,none,none,none,none,none,none,none,none,none] H:=by
 have g0:=F.g0
 unfold nr
 walk_at "w"
 refine ⟨aB (by show (1:Nat)<=1000; decide),fun C1 hC1=>?_⟩
 have b1:Same H (upd H C1 (.lst [V.int 0])):=(Same.refl H).laid hC1
 have f1:(upd H C1 (.lst [V.int 0])) C1=some (.lst [V.int 0]):=ae
 generalize upd H C1 (.lst [V.int 0])=H1 at*
 refine ⟨aB (by show (4:Nat)<=1000; decide),fun R1 hR1=>?_⟩
 have b2:Same H1 (upd H1 R1 (.tup [V.str (tx (nmC .Unlike)),V.int 0,V.int 0,V.ref C1])):=(Same.refl H1).laid hR1
 have f2:(upd H1 R1 (.tup [V.str (tx (nmC .Unlike)),V.int 0,V.int 0,V.ref C1])) R1=some (.tup [V.str (tx (nmC .Unlike)),V.int 0,V.int 0,V.ref C1]):=ae
 have hz2:upd H1 R1 (.tup [V.str (tx [117,110,108,105,107,101]),V.int 0,V.int 0,V.ref C1])=upd H1 R1 (.tup [V.str (tx (nmC .Unlike)),V.int 0,V.int 0,V.ref C1]):=rfl
 rw [hz2]
 generalize upd H1 R1 (.tup [V.str (tx (nmC .Unlike)),V.int 0,V.int 0,V.ref C1])=H2 at*
 refine ⟨aB (by show (2:Nat)<=1000; decide),fun O1 hO1=>?_⟩
 have b3:Same H2 (upd H2 O1 (.tup [V.ref R1,V.str (tx [117,110,108,105,107,101,32,48])])):=(Same.refl H2).laid hO1
 have f3:(upd H2 O1 (.tup [V.ref R1,V.str (tx [117,110,108,105,107,101,32,48])])) O1=some (.tup [V.ref R1,V.str (tx [117,110,108,105,107,101,32,48])]):=ae
 generalize upd H2 O1 (.tup [V.ref R1,V.str (tx [117,110,108,105,107,101,32,48])])=H3 at*
 walk_at "w"
 refine ⟨aB (by show (2:Nat)<=1000; decide),fun C2 hC2=>?_⟩
 have b4:Same H3 (upd H3 C2 (.lst [V.int 1,V.int 0])):=(Same.refl H3).laid hC2
 have f4:(upd H3 C2 (.lst [V.int 1,V.int 0])) C2=some (.lst [V.int 1,V.int 0]):=ae
 generalize upd H3 C2 (.lst [V.int 1,V.int 0])=H4 at*
 refine ⟨aB (by show (4:Nat)<=1000; decide),fun R2 hR2=>?_⟩
 have b5:Same H4 (upd H4 R2 (.tup [V.str (tx (nmC .Count)),V.int 1,V.int 1,V.ref C2])):=(Same.refl H4).laid hR2
 have f5:(upd H4 R2 (.tup [V.str (tx (nmC .Count)),V.int 1,V.int 1,V.ref C2])) R2=some (.tup [V.str (tx (nmC .Count)),V.int 1,V.int 1,V.ref C2]):=ae
 have hz5:upd H4 R2 (.tup [V.str (tx [99,111,117,110,116]),V.int 1,V.int 1,V.ref C2])=upd H4 R2 (.tup [V.str (tx (nmC .Count)),V.int 1,V.int 1,V.ref C2]):=rfl
 rw [hz5]
 generalize upd H4 R2 (.tup [V.str (tx (nmC .Count)),V.int 1,V.int 1,V.ref C2])=H5 at*
 refine ⟨aB (by show (2:Nat)<=1000; decide),fun O2 hO2=>?_⟩
 have b6:Same H5 (upd H5 O2 (.tup [V.ref R2,V.str (tx [99,111,117,110,116,32,49,32,49,32,49,32,48])])):=(Same.refl H5).laid hO2
 have f6:(upd H5 O2 (.tup [V.ref R2,V.str (tx [99,111,117,110,116,32,49,32,49,32,49,32,48])])) O2=some (.tup [V.ref R2,V.str (tx [99,111,117,110,116,32,49,32,49,32,49,32,48])]):=ae
 generalize upd H5 O2 (.tup [V.ref R2,V.str (tx [99,111,117,110,116,32,49,32,49,32,49,32,48])])=H6 at*
 have b56:=b5.trans b6
 have b46:=b4.trans b56
 have b36:=b3.trans b46
 have b26:=b2.trans b36
 have b16:=b1.trans b26
 have ok1:RR.Ok ⟨.Unlike,0,0,[0],[0].map fun (n:Nat)=>(n:Int)⟩ h w g:=dX F (by simp) (BN F) (by simp) (by simp) rfl (by decide) (by decide) (fun _=>rfl) (fun e=>by cases e) (fun _=>rfl)
 have ok2:RR.Ok ⟨.Count,1,1,[1,0],[1,0].map fun (n:Nat)=>(n:Int)⟩ h w g:=dX F (by simp) (fun c hc=>by simp at hc; rcases hc with rfl | rfl <;> omega) (by simp) (by simp) rfl (by decide) (by decide) (fun e=>by cases e) (fun _=>⟨by decide,g0⟩) (fun e=>by cases e)
 have Y1:Ru37 H6 R1 C1 h w g ⟨.Unlike,0,0,[0],[0].map fun (n:Nat)=>(n:Int)⟩ 0 0:=⟨b36 _ _ f2,b26 _ _ f1,ok1,(fun z=>by rcases z with z | z | z <;> cases z),fun _=>rfl,by simp⟩
 have Y2:Ru37 H6 R2 C2 h w g ⟨.Count,1,1,[1,0],[1,0].map fun (n:Nat)=>(n:Int)⟩ 1 1:=⟨b6 _ _ f5,b56 _ _ f4,ok2,(fun z=>by rcases z with z | z | z <;> cases z),fun _=>rfl,by simp⟩
 exact yG (b16.seq hS) hn (b16 _ _ hp) F (X.same b16) (o1:=⟨.Unlike,0,0,[0],[0].map fun (n:Nat)=>(n:Int)⟩) (b46 _ _ f3) Y1 (o2:=⟨.Count,1,1,[1,0],[1,0].map fun (n:Nat)=>(n:Int)⟩) f6 Y2 hk ok k
theorem Bi {K:Frag} {c:RCl RK} {d:RCl PzK} {vs:List V} {H:Hp} {Q:VK} {E:XK} (h:uM K c d vs H Q E):qD K c d { nx:=fun _ H'=>Q .non H',rt:=Q } (start ["_law_script","_law_cell","_law_floor_here","_law_many","_law_rule_here","_law_row","_law_first","_law_second","_law_other","_law_line","_law_at","_law_puzzle","_law_masks_here","_law_heard","_law_k","_law_thought_here","_law_handed","_law_found","_law_due_here"] vs) H:=by
 obtain ⟨a,ns,rfl,hS,hn,hk,ok,k⟩:=h
 show qD K c d _ [some (.ref a),none,none,none,none,none,none,none,none,none,none,none,none,none,none,none,none,none,none] H
 unfold qD
 walk_at "w"
 refine ⟨a,ns,0,rfl,hS,hn,by decide,by decide,?_⟩
 walk_at "w"
 refine ⟨.inr ⟨by decide,by decide⟩,by decide,?_⟩
 generalize iB ns 0*48271%65537=y at*
 refine ⟨_,rfl,fun p H1 h w g s1 hp F m2=>?_⟩
 walk_at "w"
 refine ixT hp (v:=V.int h) rfl ?_
 walk_at "w"
 refine ixT hp (v:=V.int w) rfl ?_
 walk_at "w"
 refine ⟨fR F.h0 F.h1,?_⟩
 refine ⟨a,p,ns,h,w,g,rfl,s1.seq hS,hn,hp,F,fun O R C H2 r n m s2 eO X=>?_⟩
 refine m4 eO rfl ?_
 rw [ma]
 walk_at "w"
 exact yH ((s1.trans s2).seq hS) hn (s2 _ _ hp) F m2 X hk ok k
end L2
namespace L2
open PySem PySem.Spec PyProof.Rows
end L2
namespace L2
open PySem PySem.Spec PyProof.Rows
end L2
namespace L2
open PySem PySem.Spec PyProof.Rows
section
variable {X:Cx} {e:Expr} {es rs:List Expr} {te:TE} {t:TA}
theorem da {k} {p:Pos} (ha:PE X (.Tuple rs k p) te) (hr:PA X es t):PA X (.Tuple rs k p::es) (tCons te t):=aa ha hr
theorem aZ {c:Const} {k} {p:Pos} (ha:PE X (.Constant c k p) te) (hr:PA X es t):PA X (.Constant c k p::es) (tCons te t):=aa ha hr
end
end L2
namespace L2
open PySem PySem.Spec PyProof.Rows
variable {P:Program} {w:World} {K:Frag} {mg:Str->Option Value} {base:Heap}
def top (i:Nat):Stmt:=PySem.Challenge.pw_cluemaker_k37_thoughts_of_ways.main.body.getD i (.Pass ⟨0,0,0,0⟩)
def mtop (i j:Nat):Stmt:=match top i with
 | .ClassDef _ _ _ body _ _ _ _ _ _ _=>body.getD j (.Pass ⟨0,0,0,0⟩)
 | s=>s
abbrev my:Stmt:=top 10
theorem sc_is_whole:ar ["value"] ["value"] (ah my):=⟨rfl,rfl,rfl,by decide+kernel,rfl,by decide+kernel,by decide+kernel⟩
theorem vm (B:Bt2 mg) {f:Addr} {fd:FuncData} (F:Fun K "is_whole" "is_whole" my f fd):FnOk P w K mg base CX0 1 f fd ["value"] (a9 K):=by
 refine F.ok sc_is_whole (fun vs H Q E h=>vd h) (fun cdv A outer s H vs Q E hr h=>?_)
 have hu:=hr.units
 have nd:=sc_is_whole.nd
 refine ⟨j9 K,?_,ve h⟩
 exact (af (aj (cU (ay dA rfl B.isinstance_ bE (aa (pv 0) (aa (iO (v:=.ty "int") rfl B.int_ tT rfl) ac))) (di (xc (ay dA rfl B.isinstance_ bE (aa (pv 0) (aa (iO (v:=.ty "bool") rfl B.bool_ vG rfl) ac))))))))
abbrev kY:Stmt:=top 13
theorem sc_many_cells:ar ["floor"] ["floor"] (ah kY):=⟨rfl,rfl,rfl,by decide+kernel,rfl,by decide+kernel,by decide+kernel⟩
theorem sK (B:Bt2 mg) {f:Addr} {fd:FuncData} (F:Fun K "many_cells" "many_cells" kY f fd):FnOk P w K mg base CX0 1 f fd ["floor"] (aS K):=by
 refine F.ok sc_many_cells (fun vs H Q E h=>sj h) (fun cdv A outer s H vs Q E hr h=>?_)
 have hu:=hr.units
 have nd:=sc_many_cells.nd
 refine ⟨ia K,?_,sk h⟩
 exact (af (aj (ag aY (ao (aw hu) (pv 0) ab (fun _ _=>rfl)) (ao (aw hu) (pv 0) ab (fun _ _=>rfl)))))
abbrev nt:Stmt:=top 14
theorem sc_spot_of:ar ["floor","cell","wide"] ["floor","cell"] (ah nt):=⟨rfl,rfl,rfl,by decide+kernel,rfl,by decide+kernel,by decide+kernel⟩
theorem wS (B:Bt2 mg) {f:Addr} {fd:FuncData} (F:Fun K "spot_of" "spot_of" nt f fd):FnOk P w K mg base CX0 1 f fd ["floor","cell"] (cY K):=by
 refine F.ok sc_spot_of (fun vs H Q E h=>wj h) (fun cdv A outer s H vs Q E hr h=>?_)
 have hu:=hr.units
 have nd:=sc_spot_of.nd
 refine ⟨kC K,?_,wk h⟩
 exact (ad (ap (i:=2) nd rfl (Or.inl rfl) (ao (aw hu) (pv 0) ab (fun _ _=>rfl)))
   (af (aj (bb (aa (ag bj (pv 1) (pv 2)) (aa (ag aE (pv 1) (pv 2)) ac))))))
abbrev lE:Stmt:=top 17
theorem sc_square_at:ar ["floor","corner","below"] ["floor","corner"] (ah lE):=⟨rfl,rfl,rfl,by decide+kernel,rfl,by decide+kernel,by decide+kernel⟩
theorem uN (B:Bt2 mg) {f:Addr} {fd:FuncData} (F:Fun K "square_at" "square_at" lE f fd):FnOk P w K mg base CX0 1 f fd ["floor","corner"] (dn K):=by
 refine F.ok sc_square_at (fun vs H Q E h=>uc h) (fun cdv A outer s H vs Q E hr h=>?_)
 have hu:=hr.units
 have nd:=sc_square_at.nd
 refine ⟨jd K,?_,ud h⟩
 exact (ad (ap (i:=2) nd rfl (Or.inl rfl) (ag aG (pv 1) (ao (aw hu) (pv 0) ab (fun _ _=>rfl))))
   (af (aj (aK (aa (pv 1) (aa (ag aG (pv 1) ab) (aa (pv 2) (aa (ag aG (pv 2) ab) ac))))))))
abbrev pj:Stmt:=top 22
theorem sc_stands:ar ["mask","sign"] ["mask","sign"] (ah pj):=⟨rfl,rfl,rfl,by decide+kernel,rfl,by decide+kernel,by decide+kernel⟩
theorem yI (B:Bt2 mg) {f:Addr} {fd:FuncData} (F:Fun K "stands" "stands" pj f fd):FnOk P w K mg base CX0 1 f fd ["mask","sign"] (iU K):=by
 refine F.ok sc_stands (fun vs H Q E h=>yf h) (fun cdv A outer s H vs Q E hr h=>?_)
 have hu:=hr.units
 have nd:=sc_stands.nd
 refine ⟨lu K,?_,yg h⟩
 exact (af (aj (cU (aM iX ab (pv 1) (ak _)) (cU (aM iX (pv 1) (tM PySem.F.plainAttrs_int PySem.F.slot_int_bit_length PySem.F.type_int_bit_length pN (pv 0)) (ak _)) (di (aM (aF hu) (ag aE (ag zV (pv 0) (ag bu (pv 1) ab)) ab) ab (ak _)))))))
abbrev nu:Stmt:=top 26
theorem sc_clashes:ar ["masks"] ["masks"] (ah nu):=⟨rfl,rfl,rfl,by decide+kernel,rfl,by decide+kernel,by decide+kernel⟩
theorem wT (B:Bt2 mg) {f:Addr} {fd:FuncData} (F:Fun K "clashes" "clashes" nu f fd):FnOk P w K mg base CX0 1 f fd ["masks"] (gu K):=by
 refine F.ok sc_clashes (fun vs H Q E h=>wA h) (fun cdv A outer s H vs Q E hr h=>?_)
 have hu:=hr.units
 have nd:=sc_clashes.nd
 refine ⟨kL K,?_,wB h⟩
 exact (af (aj (aM (eh hu) ab (pv 0) (by with_unfolding_all rfl))))
abbrev mB:Stmt:=top 37
theorem sc_masks_at:ar ["masks","cells"] ["masks","cells"] (ah mB):=⟨rfl,rfl,rfl,by decide+kernel,rfl,by decide+kernel,by decide+kernel⟩
theorem vn (B:Bt2 mg) {f:Addr} {fd:FuncData} (F:Fun K "masks_at" "masks_at" mB f fd):FnOk P w K mg base CX0 1 f fd ["masks","cells"] (ff K):=by
 refine F.ok sc_masks_at (fun vs H Q E h=>vj h) (fun cdv A outer s H vs Q E hr h=>?_)
 have hu:=hr.units
 have nd:=sc_masks_at.nd
 refine ⟨kc K,?_,vk h⟩
 exact (af (aj (aT (ix:=[none,none,some 0]) [".0","cell","masks"] (aQ rfl (by decide+kernel) rfl rfl rfl) rfl (aP (pv 1)) (fun cl s H fp=>(aA (i:=1) (show ([".0","cell","masks"]:List Str).Nodup by decide+kernel) rfl (Or.inl rfl))) (fun cl s H fp=>bJ) (fun cl s H fp=>(ao (aw hu) (pv 2) (pv 1) (fun _ _=>rfl))))))
abbrev lF:Stmt:=top 58
theorem sc_with_sign:ar ["filling","cell","sign"] ["filling","cell","sign"] (ah lF):=⟨rfl,rfl,rfl,by decide+kernel,rfl,by decide+kernel,by decide+kernel⟩
theorem uO (B:Bt2 mg) {f:Addr} {fd:FuncData} (F:Fun K "with_sign" "with_sign" lF f fd):FnOk P w K mg base CX0 1 f fd ["filling","cell","sign"] (bU K):=by
 refine F.ok sc_with_sign (fun vs H Q E h=>uu h) (fun cdv A outer s H vs Q E hr h=>?_)
 have hu:=hr.units
 have nd:=sc_with_sign.nd
 refine ⟨jp K,?_,uv h⟩
 exact (af (aj (aT (ix:=[none,none,none,some 1,some 2]) [".0","place","other","cell","sign"] (aQ rfl (by decide+kernel) rfl rfl rfl) rfl (zW rfl B.enumerate_ (aa (pv 0) ac)) (fun cl s H fp=>(mM rfl (b8 (aA (i:=1) (show ([".0","place","other","cell","sign"]:List Str).Nodup by decide+kernel) rfl (Or.inl rfl)) (b8 (aA (i:=2) (show ([".0","place","other","cell","sign"]:List Str).Nodup by decide+kernel) rfl (Or.inl rfl)) lP)))) (fun cl s H fp=>bJ) (fun cl s H fp=>(yM (am (aF hu) (pv 1) (pv 3) (ak _)) (pv 4) (pv 2))))))
abbrev lG:Stmt:=top 74
theorem sc_is_within:ar ["some","cells"] ["some","cells"] (ah lG):=⟨rfl,rfl,rfl,by decide+kernel,rfl,by decide+kernel,by decide+kernel⟩
theorem uP (B:Bt2 mg) {f:Addr} {fd:FuncData} (F:Fun K "is_within" "is_within" lG f fd):FnOk P w K mg base CX0 1 f fd ["some","cells"] (du K):=by
 refine F.ok sc_is_within (fun vs H Q E h=>ur h) (fun cdv A outer s H vs Q E hr h=>?_)
 have hu:=hr.units
 have nd:=sc_is_within.nd
 refine ⟨jo K,?_,ut h⟩
 exact (af (aj (ay (iP rfl) rfl B.all_ lV (aa (aT (ix:=[none,none,some 1]) [".0","cell","cells"] (aQ rfl (by decide+kernel) rfl rfl rfl) rfl (aP (pv 0)) (fun cl s H fp=>(aA (i:=1) (show ([".0","cell","cells"]:List Str).Nodup by decide+kernel) rfl (Or.inl rfl))) (fun cl s H fp=>bJ) (fun cl s H fp=>(aM (eh hu) (pv 1) (pv 2) (by with_unfolding_all rfl)))) ac))))
abbrev jx:Stmt:=mtop 75 0
theorem sc_Rule___init__:ar ["self","floor","words","cells","amount","mark"] ["self","floor","words","cells","amount","mark"] (ah jx):=⟨rfl,rfl,rfl,by decide+kernel,rfl,by decide+kernel,by decide+kernel⟩
theorem pk (B:Bt2 mg) {c:RCl RK} (FK_c_amount:FldK K c "amount") (FK_c_cells:FldK K c "cells") (FK_c_floor:FldK K c "floor") (FK_c_mark:FldK K c "mark") (FK_c_words:FldK K c "words") {f:Addr} {fd:FuncData} (F:Fun K "__init__" "Rule.__init__" jx f fd):FnOk P w K mg base CX0 1 f fd ["self","floor","words","cells","amount","mark"] (av K c):=by
 refine F.ok sc_Rule___init__ (fun vs H Q E h=>oJ h) (fun cdv A outer s H vs Q E hr h=>?_)
 have hu:=hr.units
 have nd:=sc_Rule___init__.nd
 refine ⟨dP K c,?_,oK h⟩
 exact (ad (iQ (pv 0) (pv 1) FK_c_floor)
   (ad (iQ (pv 0) (bD oy rfl B.tuple_ l6 (aa (pv 2) ac)) FK_c_words)
   (ad (iQ (pv 0) (bD oy rfl B.tuple_ l6 (aa (pv 3) ac)) FK_c_cells)
   (ad (iQ (pv 0) (pv 4) FK_c_amount)
   (af (iQ (pv 0) (pv 5) FK_c_mark))))))
abbrev lH:Stmt:=mtop 75 1
theorem sc_Rule_name:ar ["self"] ["self"] (ah lH):=⟨rfl,rfl,rfl,by decide+kernel,rfl,by decide+kernel,by decide+kernel⟩
theorem uQ (B:Bt2 mg) {c:RCl RK} (FK_c_words:FldK K c "words") {f:Addr} {fd:FuncData} (F:Fun K "name" "Rule.name" lH f fd):FnOk P w K mg base CX0 1 f fd ["self"] (je K c):=by
 refine F.ok sc_Rule_name (fun vs H Q E h=>ue h) (fun cdv A outer s H vs Q E hr h=>?_)
 have hu:=hr.units
 have nd:=sc_Rule_name.nd
 refine ⟨jf K c,?_,uf h⟩
 exact (af (aj (ao (aw hu) (bL (pv 0) FK_c_words) ab (fun _ _=>rfl))))
abbrev kZ:Stmt:=mtop 75 2
theorem sc_Rule_spots:ar ["self"] ["self"] (ah kZ):=⟨rfl,rfl,rfl,by decide+kernel,rfl,by decide+kernel,by decide+kernel⟩
theorem sL (B:Bt2 mg) {c:RCl RK} (FK_c_cells:FldK K c "cells") {f:Addr} {fd:FuncData} (F:Fun K "spots" "Rule.spots" kZ f fd):FnOk P w K mg base CX0 1 f fd ["self"] (ib K c):=by
 refine F.ok sc_Rule_spots (fun vs H Q E h=>sm h) (fun cdv A outer s H vs Q E hr h=>?_)
 have hu:=hr.units
 have nd:=sc_Rule_spots.nd
 refine ⟨ic K c,?_,sn h⟩
 exact (af (aj (bD gb rfl B.list_ gc (aa (bL (pv 0) FK_c_cells) ac))))
abbrev jy:Stmt:=mtop 75 8
theorem sc_Rule_signs_at:ar ["self","filling"] ["self","filling"] (ah jy):=⟨rfl,rfl,rfl,by decide+kernel,rfl,by decide+kernel,by decide+kernel⟩
theorem pp (B:Bt2 mg) {c:RCl RK} (FK_c_cells:FldK K c "cells") {f:Addr} {fd:FuncData} (F:Fun K "signs_at" "Rule.signs_at" jy f fd):FnOk P w K mg base CX0 1 f fd ["self","filling"] (dQ K c):=by
 refine F.ok sc_Rule_signs_at (fun vs H Q E h=>oM h) (fun cdv A outer s H vs Q E hr h=>?_)
 have hu:=hr.units
 have nd:=sc_Rule_signs_at.nd
 refine ⟨dR K c,?_,oN h⟩
 exact (af (aj (aT (ix:=[none,none,some 1]) [".0","cell","filling"] (aQ rfl (by decide+kernel) rfl rfl rfl) rfl (xg (bL (pv 0) FK_c_cells)) (fun cl s H fp=>(aA (i:=1) (show ([".0","cell","filling"]:List Str).Nodup by decide+kernel) rfl (Or.inl rfl))) (fun cl s H fp=>bJ) (fun cl s H fp=>(ao (aw hu) (pv 2) (pv 1) (fun _ _=>rfl))))))
abbrev kq:Stmt:=mtop 75 9
theorem sc_Rule_marked:ar ["self","filling"] ["self","filling"] (ah kq):=⟨rfl,rfl,rfl,by decide+kernel,rfl,by decide+kernel,by decide+kernel⟩
theorem jR (B:Bt2 mg) {c:RCl RK} (FK_c_cells:FldK K c "cells") (FK_c_mark:FldK K c "mark") {f:Addr} {fd:FuncData} (F:Fun K "marked" "Rule.marked" kq f fd):FnOk P w K mg base CX0 1 f fd ["self","filling"] (cz K c):=by
 refine F.ok sc_Rule_marked (fun vs H Q E h=>ra h) (fun cdv A outer s H vs Q E hr h=>?_)
 have hu:=hr.units
 have nd:=sc_Rule_marked.nd
 refine ⟨gw K c,?_,rb h⟩
 exact (af (aj (aT (ix:=[none,none,some 1,some 0]) [".0","cell","filling","self"] (aQ rfl (by decide+kernel) rfl rfl rfl) rfl (xg (bL (pv 0) FK_c_cells)) (fun cl s H fp=>(aA (i:=1) (show ([".0","cell","filling","self"]:List Str).Nodup by decide+kernel) rfl (Or.inl rfl))) (fun cl s H fp=>(cx (am (aF hu) (ao (aw hu) (pv 2) (pv 1) (fun _ _=>rfl)) (bL (pv 3) FK_c_mark) (ak _)))) (fun cl s H fp=>(pv 1)))))
abbrev lI:Stmt:=top 91
theorem sc_number_in:ar ["word"] ["word"] (ah lI):=⟨rfl,rfl,rfl,by decide+kernel,rfl,by decide+kernel,by decide+kernel⟩
theorem uR (B:Bt2 mg) {t_FIGURES:Tok} (Fx:mg "FIGURES"=some (.str (tx [48,49,50,51,52,53,54,55,56,57]) t_FIGURES)) {t_MOST_FIGURES:Tok} (Dv:mg "MOST_FIGURES"=some (.int 9 t_MOST_FIGURES)) {f:Addr} {fd:FuncData} (F:Fun K "number_in" "number_in" lI f fd):FnOk P w K mg base CX0 1 f fd ["word"] (dq K):=by
 refine F.ok sc_number_in (fun vs H Q E h=>ug h) (fun cdv A outer s H vs Q E hr h=>?_)
 have hu:=hr.units
 have nd:=sc_number_in.nd
 refine ⟨jh K,?_,uh h⟩
 exact (ad (az (PW.pt (cT (am (aF hu) (pv 0) aJ (ak _)) (cT (am cE (ay aH rfl B.len_ aO (aa (pv 0) ac)) (cK rfl Dv ⟨t_MOST_FIGURES,rfl⟩) (ak _)) (d8 (PW.pt (pD (am (aF hu) (ao (aw hu) (pv 0) ab (fun _ _=>rfl)) aJ (ak _)) (nL (am (ck hu) (pv 0) aJ (ak _))))))))) (af (aj tw)) aq)
   (ad (az (cB (bw (ay (iP rfl) rfl B.all_ lV (aa (aT (ix:=[none,none]) [".0","figure"] (aQ rfl (by decide+kernel) rfl rfl rfl) rfl (AV (pv 0)) (fun cl s H fp=>(aA (i:=1) (show ([".0","figure"]:List Str).Nodup by decide+kernel) rfl (Or.inl rfl))) (fun cl s H fp=>bJ) (fun cl s H fp=>(aM (eh hu) (pv 1) (cK rfl Fx ⟨t_FIGURES,rfl⟩) (by with_unfolding_all rfl)))) ac)))) (af (aj tw)) aq)
   (af (aj (bD pT rfl B.int_ tT (aa (pv 0) ac))))))
abbrev jS:Stmt:=mtop 104 1
theorem sc_Puzzle_place:ar ["self"] ["self"] (ah jS):=⟨rfl,rfl,rfl,by decide+kernel,rfl,by decide+kernel,by decide+kernel⟩
theorem qE (B:Bt2 mg) {c:RCl RK} {d:RCl PzK} (FK_d_floor:FldK K d "floor") {f:Addr} {fd:FuncData} (F:Fun K "place" "Puzzle.place" jS f fd):FnOk P w K mg base CX0 1 f fd ["self"] (fC K c d):=by
 refine F.ok sc_Puzzle_place (fun vs H Q E h=>p8 h) (fun cdv A outer s H vs Q E hr h=>?_)
 have hu:=hr.units
 have nd:=sc_Puzzle_place.nd
 refine ⟨fD K c d,?_,p9 h⟩
 exact (af (aj (bL (pv 0) FK_d_floor)))
abbrev jT:Stmt:=mtop 104 4
theorem sc_Puzzle_rules:ar ["self"] ["self"] (ah jT):=⟨rfl,rfl,rfl,by decide+kernel,rfl,by decide+kernel,by decide+kernel⟩
theorem qF (B:Bt2 mg) {c:RCl RK} {d:RCl PzK} (FK_d_laws:FldK K d "laws") {f:Addr} {fd:FuncData} (F:Fun K "rules" "Puzzle.rules" jT f fd):FnOk P w K mg base CX0 1 f fd ["self"] (fE K c d):=by
 refine F.ok sc_Puzzle_rules (fun vs H Q E h=>qb h) (fun cdv A outer s H vs Q E hr h=>?_)
 have hu:=hr.units
 have nd:=sc_Puzzle_rules.nd
 refine ⟨fF K c d,?_,qc h⟩
 exact (af (aj (bD gb rfl B.list_ gc (aa (bL (pv 0) FK_d_laws) ac))))
abbrev jU:Stmt:=top 106
theorem sc__law_cell_at:ar ["_law_script","_law_k"] ["_law_script","_law_k"] (ah jU):=⟨rfl,rfl,rfl,by decide+kernel,rfl,by decide+kernel,by decide+kernel⟩
theorem qG (B:Bt2 mg) {f:Addr} {fd:FuncData} (F:Fun K "_law_cell_at" "_law_cell_at" jU f fd):FnOk P w K mg base CX0 1 f fd ["_law_script","_law_k"] (aN K):=by
 refine F.ok sc__law_cell_at (fun vs H Q E h=>uz h) (fun cdv A outer s H vs Q E hr h=>?_)
 have hu:=hr.units
 have nd:=sc__law_cell_at.nd
 refine ⟨jq K,?_,uA h⟩
 exact (ad (az (am cW (pv 1) (ay mU rfl B.len_ aO (aa (pv 0) ac)) (ak _)) (af (aj (ao vB (pv 0) (pv 1) (fun _ _=>rfl)))) aq)
   (af (aj ab)))
abbrev k4:Stmt:=top 107
theorem sc__law_order:ar ["_law_number","_law_many","_law_left","_law_found","_law_k"] ["_law_number","_law_many"] (ah k4):=⟨rfl,rfl,rfl,by decide+kernel,rfl,by decide+kernel,by decide+kernel⟩
theorem sM (B:Bt2 mg) {f:Addr} {fd:FuncData} (F:Fun K "_law_order" "_law_order" k4 f fd):FnOk P w K mg base CX0 1 f fd ["_law_number","_law_many"] (bX K):=by
 refine F.ok sc__law_order (fun vs H Q E h=>qr h) (fun cdv A outer s H vs Q E hr h=>?_)
 have hu:=hr.units
 have nd:=sc__law_order.nd
 refine ⟨fN K,?_,qt h⟩
 exact (ad (ap (i:=2) nd rfl (Or.inl rfl) (lz rfl rfl rfl B.list_ B.range_ (aa (pv 1) ac)))
   (ad (ap (i:=3) nd rfl (Or.inl rfl) (aK ac))
   (ad (cD PassesOwn.never rfl (dz rfl B.range_ (aa (pv 1) ac)) (aA (i:=4) nd rfl (Or.inl rfl))
   (af (bz (cm PySem.F.plainAttrs_list PySem.F.slot_list_append PySem.F.type_list_append bn (pv 3) (aa (cm PySem.F.plainAttrs_list PySem.F.slot_list_pop PySem.F.type_list_pop x9 (pv 2) (aa (ag aE (ag bj (pv 0) (ag aG (ag aY ab (pv 4)) ab)) (ay aH rfl B.len_ aO (aa (pv 2) ac))) ac)) ac)))))
   (af (aj (pv 3))))))
abbrev k5:Stmt:=top 108
theorem sc__law_floor:ar ["_law_cell","_law_some","_law_high","_law_wide"] ["_law_cell"] (ah k5):=⟨rfl,rfl,rfl,by decide+kernel,rfl,by decide+kernel,by decide+kernel⟩
theorem sN (B:Bt2 mg) {f:Addr} {fd:FuncData} (F:Fun K "_law_floor" "_law_floor" k5 f fd):FnOk P w K mg base CX0 1 f fd ["_law_cell"] (bY K):=by
 refine F.ok sc__law_floor (fun vs H Q E h=>qu h) (fun cdv A outer s H vs Q E hr h=>?_)
 have hu:=hr.units
 have nd:=sc__law_floor.nd
 refine ⟨fO K,?_,qv h⟩
 refine ad ?s0 ?r0
 case s0=>
  refine lQ (te:=?te) (g:=gName 1) ?h1 ?h2 ?h4 ?h5 ?h6
  case h2=>exact aA (i:=1) nd rfl (Or.inl rfl)
  case h4=>rfl
  case h5=>rfl
  case h6=>rfl
  case h1=>
   refine aK ?_
   refine da ?_ ?_
   . exact bb (aZ ab (aZ ab ac))
   refine da ?_ ?_
   . exact bb (aZ ab (aZ ab ac))
   refine da ?_ ?_
   . exact bb (aZ ab (aZ ab ac))
   refine da ?_ ?_
   . exact bb (aZ ab (aZ ab ac))
   refine da ?_ ?_
   . exact bb (aZ ab (aZ ab ac))
   refine da ?_ ?_
   . exact bb (aZ ab (aZ ab ac))
   refine da ?_ ?_
   . exact bb (aZ ab (aZ ab ac))
   refine da ?_ ?_
   . exact bb (aZ ab (aZ ab ac))
   refine da ?_ ?_
   . exact bb (aZ ab (aZ ab ac))
   refine da ?_ ?_
   . exact bb (aZ ab (aZ ab ac))
   exact ac
 case r0=>
  exact (ad (lQ (ao (aw hu) (pv 1) (ag aE (pv 0) ab) (fun _ _=>rfl)) (mM rfl (b8 (aA (i:=2) nd rfl (Or.inl rfl)) (b8 (aA (i:=3) nd rfl (Or.inl rfl)) lP))))
   (af (aj (bb (aa (pv 2) (aa (pv 3) (aa (ag aG ab (ag aE (ag bj (pv 0) ab) ab)) ac)))))))
abbrev mC:Stmt:=top 109
theorem sc__law_bit:ar ["_law_sign"] ["_law_sign"] (ah mC):=⟨rfl,rfl,rfl,by decide+kernel,rfl,by decide+kernel,by decide+kernel⟩
theorem vo (B:Bt2 mg) {f:Addr} {fd:FuncData} (F:Fun K "_law_bit" "_law_bit" mC f fd):FnOk P w K mg base CX0 1 f fd ["_law_sign"] (bi K):=by
 refine F.ok sc__law_bit (fun vs H Q E h=>sE h) (fun cdv A outer s H vs Q E hr h=>?_)
 have hu:=hr.units
 have nd:=sc__law_bit.nd
 refine ⟨iu K,?_,sF h⟩
 exact (af (aj (ao (aw hu) (aK (aa ab (aa ab (aa ab (aa ab (aa ab (aa ab ac))))))) (ag bu (pv 0) ab) (fun _ _=>rfl))))
abbrev kr:Stmt:=top 111
theorem sc__law_beside:ar ["_law_floor_here","_law_cell","_law_row","_law_found"] ["_law_floor_here","_law_cell"] (ah kr):=⟨rfl,rfl,rfl,by decide+kernel,rfl,by decide+kernel,by decide+kernel⟩
theorem rB (B:Bt2 mg) {f:Addr} {fd:FuncData} (F:Fun K "_law_beside" "_law_beside" kr f fd):FnOk P w K mg base CX0 1 f fd ["_law_floor_here","_law_cell"] (bg K):=by
 refine F.ok sc__law_beside (fun vs H Q E h=>oX h) (fun cdv A outer s H vs Q E hr h=>?_)
 have hu:=hr.units
 have nd:=sc__law_beside.nd
 refine ⟨dY K,?_,oY h⟩
 exact (ad (ap (i:=2) nd rfl (Or.inl rfl) (ag bj (pv 1) (ao (aw hu) (pv 0) ab (fun _ _=>rfl))))
   (ad (ap (i:=3) nd rfl (Or.inl rfl) (aK ac))
   (ad (az (am cE (ag aE (pv 1) (ao (aw hu) (pv 0) ab (fun _ _=>rfl))) ab (ak _)) (af (bz (cm PySem.F.plainAttrs_list PySem.F.slot_list_append PySem.F.type_list_append bn (pv 3) (aa (ag bu (pv 1) ab) ac)))) aq)
   (ad (az (am cW (ag aE (pv 1) (ao (aw hu) (pv 0) ab (fun _ _=>rfl))) (ag bu (ao (aw hu) (pv 0) ab (fun _ _=>rfl)) ab) (ak _)) (af (bz (cm PySem.F.plainAttrs_list PySem.F.slot_list_append PySem.F.type_list_append bn (pv 3) (aa (ag aG (pv 1) ab) ac)))) aq)
   (ad (az (am cE (pv 2) ab (ak _)) (af (bz (cm PySem.F.plainAttrs_list PySem.F.slot_list_append PySem.F.type_list_append bn (pv 3) (aa (ag bu (pv 1) (ao (aw hu) (pv 0) ab (fun _ _=>rfl))) ac)))) aq)
   (ad (az (am cW (pv 2) (ag bu (ao (aw hu) (pv 0) ab (fun _ _=>rfl)) ab) (ak _)) (af (bz (cm PySem.F.plainAttrs_list PySem.F.slot_list_append PySem.F.type_list_append bn (pv 3) (aa (ag aG (pv 1) (ao (aw hu) (pv 0) ab (fun _ _=>rfl))) ac)))) aq)
   (af (aj (pv 3)))))))))
abbrev iL:Stmt:=top 11
theorem sc_is_from_one_to:ar ["value","most"] ["value","most"] (ah iL):=⟨rfl,rfl,rfl,by decide+kernel,rfl,by decide+kernel,by decide+kernel⟩
theorem om (B:Bt2 mg) (B0:Cal P w K mg base 1 "is_whole" ["value"] (a9 K)) {f:Addr} {fd:FuncData} (F:Fun K "is_from_one_to" "is_from_one_to" iL f fd):FnOk P w K mg base CX0 2 f fd ["value","most"] (aU K):=by
 refine F.ok sc_is_from_one_to (fun vs H Q E h=>nY h) (fun cdv A outer s H vs Q E hr h=>?_)
 have hu:=hr.units
 have nd:=sc_is_from_one_to.nd
 refine ⟨dc K,?_,n4 h⟩
 exact (af (aj (cU (au B0 hr (by decide) rfl (aa (pv 0) ac)) (cU (aM iX ab (pv 0) (ak _)) (di (aM iX (pv 0) (pv 1) (ak _)))))))
abbrev pq:Stmt:=top 15
theorem sc_beside:ar ["floor","cell","high","wide","spot","found"] ["floor","cell"] (ah pq):=⟨rfl,rfl,rfl,by decide+kernel,rfl,by decide+kernel,by decide+kernel⟩
theorem yJ (B:Bt2 mg) (Dg:Cal P w K mg base 1 "spot_of" ["floor","cell"] (cY K)) {f:Addr} {fd:FuncData} (F:Fun K "beside" "beside" pq f fd):FnOk P w K mg base CX0 2 f fd ["floor","cell"] (dB K):=by
 refine F.ok sc_beside (fun vs H Q E h=>xV h) (fun cdv A outer s H vs Q E hr h=>?_)
 have hu:=hr.units
 have nd:=sc_beside.nd
 refine ⟨lh K,?_,xW h⟩
 exact (ad (ap (i:=2) nd rfl (Or.inl rfl) (ao (aw hu) (pv 0) ab (fun _ _=>rfl)))
   (ad (ap (i:=3) nd rfl (Or.inl rfl) (ao (aw hu) (pv 0) ab (fun _ _=>rfl)))
   (ad (ap (i:=4) nd rfl (Or.inl rfl) (au Dg hr (by decide) rfl (aa (pv 0) (aa (pv 1) ac))))
   (ad (ap (i:=5) nd rfl (Or.inl rfl) (aK ac))
   (ad (az (am cE (ao (aw hu) (pv 4) ab (fun _ _=>rfl)) ab (ak _)) (af (bz (cm PySem.F.plainAttrs_list PySem.F.slot_list_append PySem.F.type_list_append bn (pv 5) (aa (ag bu (pv 1) (pv 3)) ac)))) aq)
   (ad (az (am cE (ao (aw hu) (pv 4) ab (fun _ _=>rfl)) ab (ak _)) (af (bz (cm PySem.F.plainAttrs_list PySem.F.slot_list_append PySem.F.type_list_append bn (pv 5) (aa (ag bu (pv 1) ab) ac)))) aq)
   (ad (az (am cW (ao (aw hu) (pv 4) ab (fun _ _=>rfl)) (ag bu (pv 3) ab) (ak _)) (af (bz (cm PySem.F.plainAttrs_list PySem.F.slot_list_append PySem.F.type_list_append bn (pv 5) (aa (ag aG (pv 1) ab) ac)))) aq)
   (ad (az (am cW (ao (aw hu) (pv 4) ab (fun _ _=>rfl)) (ag bu (pv 2) ab) (ak _)) (af (bz (cm PySem.F.plainAttrs_list PySem.F.slot_list_append PySem.F.type_list_append bn (pv 5) (aa (ag aG (pv 1) (pv 3)) ac)))) aq)
   (af (aj (pv 5)))))))))))
abbrev lJ:Stmt:=top 16
theorem sc_is_corner:ar ["floor","cell","spot"] ["floor","cell"] (ah lJ):=⟨rfl,rfl,rfl,by decide+kernel,rfl,by decide+kernel,by decide+kernel⟩
theorem uS (B:Bt2 mg) (Dg:Cal P w K mg base 1 "spot_of" ["floor","cell"] (cY K)) {f:Addr} {fd:FuncData} (F:Fun K "is_corner" "is_corner" lJ f fd):FnOk P w K mg base CX0 2 f fd ["floor","cell"] (dm K):=by
 refine F.ok sc_is_corner (fun vs H Q E h=>ua h) (fun cdv A outer s H vs Q E hr h=>?_)
 have hu:=hr.units
 have nd:=sc_is_corner.nd
 refine ⟨jc K,?_,ub h⟩
 exact (ad (ap (i:=2) nd rfl (Or.inl rfl) (au Dg hr (by decide) rfl (aa (pv 0) (aa (pv 1) ac))))
   (af (aj (cU (aM cW (ao (aw hu) (pv 2) ab (fun _ _=>rfl)) (ag bu (ao (aw hu) (pv 0) ab (fun _ _=>rfl)) ab) (ak _)) (di (aM cW (ao (aw hu) (pv 2) ab (fun _ _=>rfl)) (ag bu (ao (aw hu) (pv 0) ab (fun _ _=>rfl)) ab) (ak _)))))))
abbrev mD:Stmt:=top 25
theorem sc_signs_in:ar ["mask"] ["mask"] (ah mD):=⟨rfl,rfl,rfl,by decide+kernel,rfl,by decide+kernel,by decide+kernel⟩
theorem vp (B:Bt2 mg) (GD:Cal P w K mg base 1 "stands" ["mask","sign"] (iU K)) {f:Addr} {fd:FuncData} (F:Fun K "signs_in" "signs_in" mD f fd):FnOk P w K mg base CX0 2 f fd ["mask"] (cr K):=by
 refine F.ok sc_signs_in (fun vs H Q E h=>vh h) (fun cdv A outer s H vs Q E hr h=>?_)
 have hu:=hr.units
 have nd:=sc_signs_in.nd
 refine ⟨kb K,?_,vi h⟩
 exact (af (aj (aT (ix:=[none,none,some 0]) [".0","sign","mask"] (aQ rfl (by decide+kernel) rfl rfl rfl) rfl (mN rfl B.range_ (aa ab (aa (ag aG (tM PySem.F.plainAttrs_int PySem.F.slot_int_bit_length PySem.F.type_int_bit_length pN (pv 0)) ab) ac))) (fun cl s H fp=>(aA (i:=1) (show ([".0","sign","mask"]:List Str).Nodup by decide+kernel) rfl (Or.inl rfl))) (fun cl s H fp=>(cx (bw (au GD hr (by decide) rfl (aa (pv 2) (aa (pv 1) ac)))))) (fun cl s H fp=>(pv 1)))))
abbrev nv:Stmt:=top 31
theorem sc_is_cell:ar ["floor","value"] ["floor","value"] (ah nv):=⟨rfl,rfl,rfl,by decide+kernel,rfl,by decide+kernel,by decide+kernel⟩
theorem wU (B:Bt2 mg) (B0:Cal P w K mg base 1 "is_whole" ["value"] (a9 K)) (BV:Cal P w K mg base 1 "many_cells" ["floor"] (aS K)) {f:Addr} {fd:FuncData} (F:Fun K "is_cell" "is_cell" nv f fd):FnOk P w K mg base CX0 2 f fd ["floor","value"] (gq K):=by
 refine F.ok sc_is_cell (fun vs H Q E h=>wr h) (fun cdv A outer s H vs Q E hr h=>?_)
 have hu:=hr.units
 have nd:=sc_is_cell.nd
 refine ⟨kI K,?_,wt h⟩
 exact (af (aj (cU (au B0 hr (by decide) rfl (aa (pv 1) ac)) (cU (aM iX ab (pv 1) (ak _)) (di (aM cW (pv 1) (au BV hr (by decide) rfl (aa (pv 0) ac)) (ak _)))))))
abbrev nA:Stmt:=top 33
theorem sc_goes_by:ar ["kind","rule"] ["kind","rule"] (ah nA):=⟨rfl,rfl,rfl,by decide+kernel,rfl,by decide+kernel,by decide+kernel⟩
theorem wV (B:Bt2 mg) {c:RCl RK} (HJ:MCal P w K mg base c c.ok 1 "name" ["self"] (nT K c)) (Dh:GDict w K mg "RULES_OF_KIND" gd_RULES_OF_KIND) {f:Addr} {fd:FuncData} (F:Fun K "goes_by" "goes_by" nA f fd):FnOk P w K mg base CX0 2 f fd ["kind","rule"] (gt K c):=by
 refine F.ok sc_goes_by (fun vs H Q E h=>ww h) (fun cdv A outer s H vs Q E hr h=>?_)
 have hu:=hr.units
 have nd:=sc_goes_by.nd
 refine ⟨kK K c,?_,wx h⟩
 exact (af (aj (vQ (aM (aF hu) (pv 0) aJ (ak _)) (di (aM A6 (iR HJ hr (by decide) (pv 1)) (A5 Dh (pv 0) rfl (fun _ _=>rfl)) (by with_unfolding_all rfl))))))
abbrev px:Stmt:=top 36
theorem sc_others:ar ["rule","cell"] ["rule","cell"] (ah px):=⟨rfl,rfl,rfl,by decide+kernel,rfl,by decide+kernel,by decide+kernel⟩
theorem yK (B:Bt2 mg) {c:RCl RK} (Ed:MCal P w K mg base c c.ok 1 "spots" ["self"] (jN K c)) {f:Addr} {fd:FuncData} (F:Fun K "others" "others" px f fd):FnOk P w K mg base CX0 2 f fd ["rule","cell"] (iV K c):=by
 refine F.ok sc_others (fun vs H Q E h=>yh h) (fun cdv A outer s H vs Q E hr h=>?_)
 have hu:=hr.units
 have nd:=sc_others.nd
 refine ⟨lw K c,?_,yi h⟩
 exact (af (aj (aT (ix:=[none,none,some 1]) [".0","spot","cell"] (aQ rfl (by decide+kernel) rfl rfl rfl) rfl (aP (iR Ed hr (by decide) (pv 0))) (fun cl s H fp=>(aA (i:=1) (show ([".0","spot","cell"]:List Str).Nodup by decide+kernel) rfl (Or.inl rfl))) (fun cl s H fp=>(cx (am (ck hu) (pv 1) (pv 2) (ak _)))) (fun cl s H fp=>(pv 1)))))
abbrev iM:Stmt:=top 59
theorem sc_with_each_sign:ar ["fillings","cell","signs","found","filling"] ["fillings","cell","signs"] (ah iM):=⟨rfl,rfl,rfl,by decide+kernel,rfl,by decide+kernel,by decide+kernel⟩
theorem on (B:Bt2 mg) (Cc:Cal P w K mg base 1 "with_sign" ["filling","cell","sign"] (bU K)) {f:Addr} {fd:FuncData} (F:Fun K "with_each_sign" "with_each_sign" iM f fd):FnOk P w K mg base CX0 2 f fd ["fillings","cell","signs"] (bB K):=by
 refine F.ok sc_with_each_sign (fun vs H Q E h=>oa h) (fun cdv A outer s H vs Q E hr h=>?_)
 have hu:=hr.units
 have nd:=sc_with_each_sign.nd
 refine ⟨dg K,?_,oe h⟩
 exact (ad (ap (i:=3) nd rfl (Or.inl rfl) (aK ac))
   (ad (cD PassesOwn.never rfl (aP (pv 0)) (aA (i:=4) nd rfl (Or.inr rfl))
   (af (bz (cm PySem.F.plainAttrs_list PySem.F.slot_list_extend PySem.F.type_list_extend pJ (pv 3) (aa (aT (ix:=[none,none,some 1,some 4]) [".0","sign","cell","filling"] (aQ rfl (by decide+kernel) rfl rfl rfl) rfl (aP (pv 2)) (fun cl s H fp=>(aA (i:=1) (show ([".0","sign","cell","filling"]:List Str).Nodup by decide+kernel) rfl (Or.inl rfl))) (fun cl s H fp=>bJ) (fun cl s H fp=>(au Cc hr (by decide) rfl (aa (pv 3) (aa (pv 2) (aa (pv 1) ac)))))) ac)))))
   (af (aj (pv 3)))))
abbrev jV:Stmt:=mtop 76 0
theorem sc_Unlike_holds:ar ["self","filling","signs"] ["self","filling"] (ah jV):=⟨rfl,rfl,rfl,by decide+kernel,rfl,by decide+kernel,by decide+kernel⟩
theorem qH (B:Bt2 mg) {c:RCl RK} (B3:MCal P w K mg base c c.ok 1 "signs_at" ["self","filling"] (bv K c)) {f:Addr} {fd:FuncData} (F:Fun K "holds" "Unlike.holds" jV f fd):FnOk P w K mg base CX0 2 f fd ["self","filling"] (fA K c):=by
 refine F.ok sc_Unlike_holds (fun vs H Q E h=>p5 h) (fun cdv A outer s H vs Q E hr h=>?_)
 have hu:=hr.units
 have nd:=sc_Unlike_holds.nd
 refine ⟨fB K c,?_,p6 h⟩
 exact (ad (ap (i:=2) nd rfl (Or.inl rfl) (cg B3 hr (by decide) (pv 0) (aa (pv 1) ac)))
   (af (aj (aM (aF hu) (m5 rfl rfl rfl B.len_ B.set_ (pv 2)) (ay aH rfl B.len_ aO (aa (pv 2) ac)) (ak _)))))
abbrev lK:Stmt:=mtop 77 1
theorem sc_Sum_holds:ar ["self","filling"] ["self","filling"] (ah lK):=⟨rfl,rfl,rfl,by decide+kernel,rfl,by decide+kernel,by decide+kernel⟩
theorem uT (B:Bt2 mg) {c:RCl RK} (FK_c_amount:FldK K c "amount") (B3:MCal P w K mg base c c.ok 1 "signs_at" ["self","filling"] (bv K c)) {f:Addr} {fd:FuncData} (F:Fun K "holds" "Sum.holds" lK f fd):FnOk P w K mg base CX0 2 f fd ["self","filling"] (jm K c):=by
 refine F.ok sc_Sum_holds (fun vs H Q E h=>up h) (fun cdv A outer s H vs Q E hr h=>?_)
 have hu:=hr.units
 have nd:=sc_Sum_holds.nd
 refine ⟨jn K c,?_,uq h⟩
 exact (af (aj (aM (aF hu) (ay (rR rfl) rfl B.sum_ xN (aa (cg B3 hr (by decide) (pv 0) (aa (pv 1) ac)) ac)) (bL (pv 0) FK_c_amount) (ak _))))
abbrev jW:Stmt:=mtop 78 1
theorem sc_Rising_holds:ar ["self","filling","signs"] ["self","filling"] (ah jW):=⟨rfl,rfl,rfl,by decide+kernel,rfl,by decide+kernel,by decide+kernel⟩
theorem qI (B:Bt2 mg) {c:RCl RK} (B3:MCal P w K mg base c c.ok 1 "signs_at" ["self","filling"] (bv K c)) {f:Addr} {fd:FuncData} (F:Fun K "holds" "Rising.holds" jW f fd):FnOk P w K mg base CX0 2 f fd ["self","filling"] (fI K c):=by
 refine F.ok sc_Rising_holds (fun vs H Q E h=>qg h) (fun cdv A outer s H vs Q E hr h=>?_)
 have hu:=hr.units
 have nd:=sc_Rising_holds.nd
 refine ⟨fJ K c,?_,qh h⟩
 exact (ad (ap (i:=2) nd rfl (Or.inr rfl) (cg B3 hr (by decide) (pv 0) (aa (pv 1) ac)))
   (af (aj (ay (iP rfl) rfl B.all_ lV (aa (aT (ix:=[none,none,some 2]) [".0","place","signs"] (aQ rfl (by decide+kernel) rfl rfl rfl) rfl (dz rfl B.range_ (aa (ag bu (ay aH rfl B.len_ aO (aa (pv 2) ac)) ab) ac)) (fun cl s H fp=>(aA (i:=1) (show ([".0","place","signs"]:List Str).Nodup by decide+kernel) rfl (Or.inl rfl))) (fun cl s H fp=>bJ) (fun cl s H fp=>(aM cW (ao (aw hu) (pv 2) (pv 1) (fun _ _=>rfl)) (ao (aw hu) (pv 2) (ag aG (pv 1) ab) (fun _ _=>rfl)) (ak _)))) ac)))))
abbrev k6:Stmt:=mtop 79 1
theorem sc_Seen_holds:ar ["self","filling","greatest","seen","sign"] ["self","filling"] (ah k6):=⟨rfl,rfl,rfl,by decide+kernel,rfl,by decide+kernel,by decide+kernel⟩
theorem sP (B:Bt2 mg) {c:RCl RK} (FK_c_amount:FldK K c "amount") (B3:MCal P w K mg base c c.ok 1 "signs_at" ["self","filling"] (bv K c)) {f:Addr} {fd:FuncData} (F:Fun K "holds" "Seen.holds" k6 f fd):FnOk P w K mg base CX0 2 f fd ["self","filling"] (ik K c):=by
 refine F.ok sc_Seen_holds (fun vs H Q E h=>sA h) (fun cdv A outer s H vs Q E hr h=>?_)
 have hu:=hr.units
 have nd:=sc_Seen_holds.nd
 refine ⟨il K c,?_,sB h⟩
 exact (ad (ap (i:=2) nd rfl (Or.inl rfl) ab)
   (ad (ap (i:=3) nd rfl (Or.inl rfl) ab)
   (ad (cD PassesOwn.never rfl (aP (cg B3 hr (by decide) (pv 0) (aa (pv 1) ac))) (aA (i:=4) nd rfl (Or.inl rfl))
   (af (az (am cE (pv 4) (pv 2) (ak _)) (ad (ap (i:=2) nd rfl (Or.inl rfl) (pv 4))
   (af (ap (i:=3) nd rfl (Or.inl rfl) (ag aG (pv 3) ab)))) aq)))
   (af (aj (aM (aF hu) (pv 3) (bL (pv 0) FK_c_amount) (ak _)))))))
abbrev kt:Stmt:=mtop 80 0
theorem sc_Count_holds:ar ["self","filling"] ["self","filling"] (ah kt):=⟨rfl,rfl,rfl,by decide+kernel,rfl,by decide+kernel,by decide+kernel⟩
theorem rC (B:Bt2 mg) {c:RCl RK} (FK_c_amount:FldK K c "amount") (B7:MCal P w K mg base c c.ok 1 "marked" ["self","filling"] (bG K c)) {f:Addr} {fd:FuncData} (F:Fun K "holds" "Count.holds" kt f fd):FnOk P w K mg base CX0 2 f fd ["self","filling"] (gx K c):=by
 refine F.ok sc_Count_holds (fun vs H Q E h=>rd h) (fun cdv A outer s H vs Q E hr h=>?_)
 have hu:=hr.units
 have nd:=sc_Count_holds.nd
 refine ⟨gy K c,?_,re h⟩
 exact (af (aj (aM (aF hu) (ay aH rfl B.len_ aO (aa (cg B7 hr (by decide) (pv 0) (aa (pv 1) ac)) ac)) (bL (pv 0) FK_c_amount) (ak _))))
abbrev jz:Stmt:=top 92
theorem sc_number_within:ar ["word","least","most","number"] ["word","least","most"] (ah jz):=⟨rfl,rfl,rfl,by decide+kernel,rfl,by decide+kernel,by decide+kernel⟩
theorem pA (B:Bt2 mg) (EB:Cal P w K mg base 1 "number_in" ["word"] (dq K)) {f:Addr} {fd:FuncData} (F:Fun K "number_within" "number_within" jz f fd):FnOk P w K mg base CX0 2 f fd ["word","least","most"] (bf K):=by
 refine F.ok sc_number_within (fun vs H Q E h=>oO h) (fun cdv A outer s H vs Q E hr h=>?_)
 have hu:=hr.units
 have nd:=sc_number_within.nd
 refine ⟨dS K,?_,oP h⟩
 exact (ad (ap (i:=3) nd rfl (Or.inl rfl) (au EB hr (by decide) rfl (aa (pv 0) ac)))
   (ad (az (PW.pt (cT (am AC (pv 3) tw (ak _)) (cT (am cW (pv 3) (pv 1) (ak _)) (d8 (am cE (pv 3) (pv 2) (ak _)))))) (af bx) aq)
   (af (aj (pv 3)))))
abbrev k7:Stmt:=top 102
theorem sc_is_filling:ar ["floor","filling","least"] ["floor","filling","least"] (ah k7):=⟨rfl,rfl,rfl,by decide+kernel,rfl,by decide+kernel,by decide+kernel⟩
theorem sQ (B:Bt2 mg) (B0:Cal P w K mg base 1 "is_whole" ["value"] (a9 K)) (BV:Cal P w K mg base 1 "many_cells" ["floor"] (aS K)) {f:Addr} {fd:FuncData} (F:Fun K "is_filling" "is_filling" k7 f fd):FnOk P w K mg base CX0 2 f fd ["floor","filling","least"] (cR K):=by
 refine F.ok sc_is_filling (fun vs H Q E h=>sw h) (fun cdv A outer s H vs Q E hr h=>?_)
 have hu:=hr.units
 have nd:=sc_is_filling.nd
 refine ⟨ii K,?_,sx h⟩
 exact (ad (az (PW.pt (cT (cB (bw (ay dA rfl B.isinstance_ bE (aa (pv 1) (aa (iO (v:=.ty "list") rfl B.list_ gc rfl) ac))))) (d8 (am (ck hu) (ay aH rfl B.len_ aO (aa (pv 1) ac)) (au BV hr (by decide) rfl (aa (pv 0) ac)) (ak _))))) (af (aj cI)) aq)
   (af (aj (ay (iP rfl) rfl B.all_ lV (aa (aT (ix:=[none,none,some 0,some 2]) [".0","sign","floor","least"] (aQ rfl (by decide+kernel) rfl rfl rfl) rfl (aP (pv 1)) (fun cl s H fp=>(aA (i:=1) (show ([".0","sign","floor","least"]:List Str).Nodup by decide+kernel) rfl (Or.inl rfl))) (fun cl s H fp=>bJ) (fun cl s H fp=>(cU (au B0 hr (by decide) rfl (aa (pv 1) ac)) (cU (aM iX (pv 3) (pv 1) (ak _)) (di (aM iX (pv 1) (ao (aw hu) (pv 2) ab (fun _ _=>rfl)) (ak _))))))) ac)))))
abbrev la:Stmt:=top 110
theorem sc__law_masks:ar ["_law_script","_law_floor_here","_law_masks_here","_law_many","_law_great","_law_k","_law_cell","_law_mask"] ["_law_script","_law_floor_here"] (ah la):=⟨rfl,rfl,rfl,by decide+kernel,rfl,by decide+kernel,by decide+kernel⟩
theorem sR (B:Bt2 mg) (B6:Cal P w K mg base 1 "_law_bit" ["_law_sign"] (bi K)) (BQ:Cal P w K mg base 1 "_law_cell_at" ["_law_script","_law_k"] (aN K)) {f:Addr} {fd:FuncData} (F:Fun K "_law_masks" "_law_masks" la f fd):FnOk P w K mg base CX0 2 f fd ["_law_script","_law_floor_here"] (b7 K):=by
 refine F.ok sc__law_masks (fun vs H Q E h=>qy h) (fun cdv A outer s H vs Q E hr h=>?_)
 have hu:=hr.units
 have nd:=sc__law_masks.nd
 refine ⟨fQ K,?_,qz h⟩
 exact (ad (ap (i:=2) nd rfl (Or.inl rfl) (aK ac))
   (ad (ap (i:=3) nd rfl (Or.inl rfl) (ag aY (ao (aw hu) (pv 1) ab (fun _ _=>rfl)) (ao (aw hu) (pv 1) ab (fun _ _=>rfl))))
   (ad (ap (i:=4) nd rfl (Or.inl rfl) (bD pT rfl B.int_ tT (aa (aM cE (pv 3) ab (ak _)) ac)))
   (ad (cD PassesOwn.never rfl (dz rfl B.range_ (aa (pv 3) ac)) (aA (i:=5) nd rfl (Or.inl rfl))
   (ad (ap (i:=6) nd rfl (Or.inl rfl) (ag aE (ag aY (ag aG (au BQ hr (by decide) rfl (aa (pv 0) (aa (ag aG ab (pv 5)) ac))) (ag aY (ag aY ab (pv 5)) (pv 5))) ab) ab))
   (ad (ap (i:=7) nd rfl (Or.inl rfl) (au B6 hr (by decide) rfl (aa (ag aG ab (ag aE (ag bj (pv 6) ab) (ao (aw hu) (pv 1) ab (fun _ _=>rfl)))) ac)))
   (ad (az (am cE (ag aE (pv 6) ab) (ao (aw hu) (aK (aa ab (aa ab ac))) (pv 4) (fun _ _=>rfl)) (ak _)) (af (ap (i:=7) nd rfl (Or.inl rfl) (ag xK (pv 7) (au B6 hr (by decide) rfl (aa (ag aG ab (ag aE (ag bj (pv 6) ab) (ao (aw hu) (pv 1) ab (fun _ _=>rfl)))) ac))))) aq)
   (ad (az (am cE (ag aE (pv 6) ab) (ao (aw hu) (aK (aa ab (aa ab ac))) (pv 4) (fun _ _=>rfl)) (ak _)) (af (ap (i:=7) nd rfl (Or.inl rfl) (ag xK (pv 7) (au B6 hr (by decide) rfl (aa (ag aG ab (ag aE (ag bj (pv 6) ab) (ao (aw hu) (pv 1) ab (fun _ _=>rfl)))) ac))))) aq)
   (ad (az (PW.pt (pD (am (aF hu) (ag aE (pv 6) ab) ab (ak _)) (nL (am tR (ag aE (ag bj (pv 6) ab) ab) (ag aY ab (pv 4)) (ak _))))) (af (ap (i:=7) nd rfl (Or.inl rfl) ab)) aq)
   (af (bz (cm PySem.F.plainAttrs_list PySem.F.slot_list_append PySem.F.type_list_append bn (pv 2) (aa (pv 7) ac))))))))))
   (af (aj (pv 2)))))))
abbrev ku:Stmt:=top 112
theorem sc__law_joined:ar ["_law_floor_here","_law_cells","_law_left","_law_edge","_law_cell"] ["_law_floor_here","_law_cells"] (ah ku):=⟨rfl,rfl,rfl,by decide+kernel,rfl,by decide+kernel,by decide+kernel⟩
theorem rD (B:Bt2 mg) (B5:Cal P w K mg base 1 "_law_beside" ["_law_floor_here","_law_cell"] (bg K)) {f:Addr} {fd:FuncData} (F:Fun K "_law_joined" "_law_joined" ku f fd):FnOk P w K mg base CX0 2 f fd ["_law_floor_here","_law_cells"] (bO K):=by
 refine F.ok sc__law_joined (fun vs H Q E h=>oZ h) (fun cdv A outer s H vs Q E hr h=>?_)
 have hu:=hr.units
 have nd:=sc__law_joined.nd
 refine ⟨dZ K,?_,o0 h⟩
 exact (ad (ap (i:=2) nd rfl (Or.inr rfl) (bD gb rfl B.list_ gc (aa (pv 1) ac)))
   (ad (ap (i:=3) nd rfl (Or.inl rfl) (dC kA (pv 2) fY (fZ ab)))
   (ad (tD PassesOwn.never (am (ck hu) (pv 3) (aK ac) (ak _))
   (ad (ap (i:=4) nd rfl (Or.inl rfl) (tM PySem.F.plainAttrs_list PySem.F.slot_list_pop PySem.F.type_list_pop AG (pv 3)))
   (af (az (am (eh hu) (pv 4) (pv 2) (by with_unfolding_all rfl)) (ad (bz (cm PySem.F.plainAttrs_list PySem.F.slot_list_remove PySem.F.type_list_remove wI (pv 2) (aa (pv 4) ac)))
   (af (bz (cm PySem.F.plainAttrs_list PySem.F.slot_list_extend PySem.F.type_list_extend pJ (pv 3) (aa (aT (ix:=[none,none,some 2]) [".0","_law_other","_law_left"] (aQ rfl (by decide+kernel) rfl rfl rfl) rfl (aP (au B5 hr (by decide) rfl (aa (pv 0) (aa (pv 4) ac)))) (fun cl s H fp=>(aA (i:=1) (show ([".0","_law_other","_law_left"]:List Str).Nodup by decide+kernel) rfl (Or.inl rfl))) (fun cl s H fp=>(cx (am (eh hu) (pv 1) (pv 2) (by with_unfolding_all rfl)))) (fun cl s H fp=>(pv 1))) ac))))) aq))))
   (af (aj (aM (aF hu) (pv 2) (aK ac) (ak _)))))))
abbrev lL:Stmt:=top 116
theorem sc__law_rule:ar ["_law_script","_law_floor_here","_law_many","_law_cell","_law_some","_law_word","_law_sign","_law_order_here","_law_cells","_law_number","_law_more","_law_told","_law_row"] ["_law_script","_law_floor_here","_law_many"] (ah lL):=⟨rfl,rfl,rfl,by decide+kernel,rfl,by decide+kernel,by decide+kernel⟩
theorem uU (B:Bt2 mg) (BQ:Cal P w K mg base 1 "_law_cell_at" ["_law_script","_law_k"] (aN K)) (Ef:Cal P w K mg base 1 "_law_order" ["_law_number","_law_many"] (bX K)) {f:Addr} {fd:FuncData} (F:Fun K "_law_rule" "_law_rule" lL f fd):FnOk P w K mg base CX0 2 f fd ["_law_script","_law_floor_here","_law_many"] (cA K):=by
 refine F.ok sc__law_rule (fun vs H Q E h=>rp h) (fun cdv A outer s H vs Q E hr h=>?_)
 have hu:=hr.units
 have nd:=sc__law_rule.nd
 refine ⟨gB K,?_,rz h⟩
 exact (ad (ap (i:=3) nd rfl (Or.inl rfl) (ag aE (ag aY (au BQ hr (by decide) rfl (aa (pv 0) (aa ab ac))) ab) ab))
   (ad (ap (i:=4) nd rfl (Or.inl rfl) (aK (aa aJ (aa aJ (aa aJ (aa aJ (aa aJ (aa aJ (aa aJ (aa aJ ac))))))))))
   (ad (ap (i:=5) nd rfl (Or.inl rfl) (ao (aw hu) (pv 4) (ag aE (pv 3) ab) (fun _ _=>rfl)))
   (ad (ap (i:=6) nd rfl (Or.inl rfl) (ag aG ab (ag aE (ag bj (pv 3) ab) (ao (aw hu) (pv 1) ab (fun _ _=>rfl)))))
   (ad (az (am (eh hu) (pv 5) (bb (aa aJ (aa aJ (aa aJ ac)))) (by with_unfolding_all rfl)) (af (aj (bb (aa (bb (aa (pv 5) (aa ab (aa (pv 6) (aa (lz rfl rfl rfl B.list_ B.range_ (aa (pv 2) ac)) ac))))) (aa (ag aG (ag aG (pv 5) aJ) (bD rT rfl B.str_ tU (aa (pv 6) ac))) ac))))) aq)
   (ad (ap (i:=7) nd rfl (Or.inl rfl) (au Ef hr (by decide) rfl (aa (ag aE (ag aY (au BQ hr (by decide) rfl (aa (pv 0) (aa ab ac))) ab) ab) (aa (pv 2) ac))))
   (ad (ap (i:=8) nd rfl (Or.inl rfl) (dC kA (pv 7) fY (fZ (ag aG ab (ag aE (ag bj (pv 3) ab) (pv 2))))))
   (ad (ap (i:=9) nd rfl (Or.inl rfl) (ag aE (ag aE (ag aY (au BQ hr (by decide) rfl (aa (pv 0) (aa ab ac))) ab) ab) (ag aG (ay aH rfl B.len_ aO (aa (pv 8) ac)) ab)))
   (ad (az (am (aF hu) (pv 5) aJ (ak _)) (ad (ap (i:=10) nd rfl (Or.inl rfl) (ag aE (ag aY (au BQ hr (by decide) rfl (aa (pv 0) (aa ab ac))) ab) ab))
   (af (ap (i:=9) nd rfl (Or.inl rfl) (ag aG (ag aG (pv 9) (ay aH rfl B.len_ aO (aa (pv 8) ac))) (ag aE (pv 10) (ag aY ab (ay aH rfl B.len_ aO (aa (pv 8) ac)))))))) aq)
   (ad (ap (i:=11) nd rfl (Or.inl rfl) (aK ac))
   (ad (az (am (eh hu) (pv 5) (bb (aa aJ (aa aJ ac))) (by with_unfolding_all rfl)) (af (ap (i:=11) nd rfl (Or.inl rfl) (aK (aa (pv 9) ac)))) aq)
   (ad (az (am (aF hu) (pv 5) aJ (ak _)) (af (ap (i:=11) nd rfl (Or.inl rfl) (aK (aa (pv 9) (aa (pv 6) ac))))) aq)
   (ad (ap (i:=12) nd rfl (Or.inl rfl) (cm PySem.F.plainAttrs_str PySem.F.slot_str_join PySem.F.type_str_join x8 aJ (aa (ag aG (aK (aa (pv 5) ac)) (aT (ix:=[none,none]) [".0","_law_one"] (aQ rfl (by decide+kernel) rfl rfl rfl) rfl (aP (ag aG (pv 11) (pv 8))) (fun cl s H fp=>(aA (i:=1) (show ([".0","_law_one"]:List Str).Nodup by decide+kernel) rfl (Or.inl rfl))) (fun cl s H fp=>bJ) (fun cl s H fp=>(bD rT rfl B.str_ tU (aa (pv 1) ac))))) ac)))
   (af (aj (bb (aa (bb (aa (pv 5) (aa (pv 9) (aa (pv 6) (aa (pv 8) ac))))) (aa (pv 12) ac))))))))))))))))))
abbrev lc:Stmt:=top 117
theorem sc__law_clues:ar ["_law_script","_law_floor_here","_law_clues_here","_law_k","_law_cell"] ["_law_script","_law_floor_here"] (ah lc):=⟨rfl,rfl,rfl,by decide+kernel,rfl,by decide+kernel,by decide+kernel⟩
theorem sS (B:Bt2 mg) (BQ:Cal P w K mg base 1 "_law_cell_at" ["_law_script","_law_k"] (aN K)) {f:Addr} {fd:FuncData} (F:Fun K "_law_clues" "_law_clues" lc f fd):FnOk P w K mg base CX0 2 f fd ["_law_script","_law_floor_here"] (bZ K):=by
 refine F.ok sc__law_clues (fun vs H Q E h=>qw h) (fun cdv A outer s H vs Q E hr h=>?_)
 have hu:=hr.units
 have nd:=sc__law_clues.nd
 refine ⟨fP K,?_,qx h⟩
 exact (ad (ap (i:=2) nd rfl (Or.inl rfl) (aK ac))
   (ad (cD PassesOwn.never rfl (dz rfl B.range_ (aa (ag aY (ao (aw hu) (pv 1) ab (fun _ _=>rfl)) (ao (aw hu) (pv 1) ab (fun _ _=>rfl))) ac)) (aA (i:=3) nd rfl (Or.inl rfl))
   (ad (ap (i:=4) nd rfl (Or.inl rfl) (ag aE (ag aY (ag aG (au BQ hr (by decide) rfl (aa (pv 0) (aa (ag aG ab (pv 3)) ac))) (ag aY ab (pv 3))) ab) ab))
   (af (bz (cm PySem.F.plainAttrs_list PySem.F.slot_list_append PySem.F.type_list_append bn (pv 2) (aa (ao (aw hu) (aK (aa ab (aa ab (aa (ag aG ab (ag aE (ag bj (pv 4) ab) (ao (aw hu) (pv 1) ab (fun _ _=>rfl)))) ac)))) (ag aE (pv 4) ab) (fun _ _=>rfl)) ac))))))
   (af (aj (pv 2)))))
abbrev jX:Stmt:=top 118
theorem sc__law_thought:ar ["_law_script","_law_floor_here","_law_cells","_law_k","_law_cell","_law_more","_law_sign","_law_spot"] ["_law_script","_law_floor_here","_law_cells","_law_k"] (ah jX):=⟨rfl,rfl,rfl,by decide+kernel,rfl,by decide+kernel,by decide+kernel⟩
theorem qJ (B:Bt2 mg) (BQ:Cal P w K mg base 1 "_law_cell_at" ["_law_script","_law_k"] (aN K)) {f:Addr} {fd:FuncData} (F:Fun K "_law_thought" "_law_thought" jX f fd):FnOk P w K mg base CX0 2 f fd ["_law_script","_law_floor_here","_law_cells","_law_k"] (bC K):=by
 refine F.ok sc__law_thought (fun vs H Q E h=>og h) (fun cdv A outer s H vs Q E hr h=>?_)
 have hu:=hr.units
 have nd:=sc__law_thought.nd
 refine ⟨dh K,?_,oh h⟩
 refine ad ?_ ?_
 . exact (ap (i:=4) nd rfl (Or.inl rfl) (ag aE (ag aY (ag aG (au BQ hr (by decide) rfl (aa (pv 0) (aa (ag aG ab (pv 3)) ac))) (ag aY (ag aY ab (pv 3)) (pv 3))) ab) ab))
 . refine ad ?_ ?_
   . exact (ap (i:=5) nd rfl (Or.inl rfl) (aK ac))
   . refine ad ?_ ?_
     . exact (az (am (aF hu) (ag aE (pv 4) ab) ab (ak _)) (af (ap (i:=5) nd rfl (Or.inl rfl) (aK (aa (ag aE (ag bj (pv 4) ab) ab) ac)))) aq)
     . refine ad ?_ ?_
       . exact (ap (i:=6) nd rfl (Or.inl rfl) (ag aG ab (ag aE (ag bj (pv 4) ab) (ao (aw hu) (pv 1) ab (fun _ _=>rfl)))))
       . refine ad ?_ ?_
         . exact (az (am (aF hu) (ag aE (pv 4) ab) ab (ak _)) (af (ap (i:=6) nd rfl (Or.inl rfl) (ao (aw hu) (aK (aa ab (aa (ag aG (ag aG (ao (aw hu) (pv 1) ab (fun _ _=>rfl)) ab) (ag aE (ag bj (pv 4) ab) ab)) ac))) (ag aE (ag bj (pv 4) ab) ab) (fun _ _=>rfl)))) aq)
         . refine ad ?_ ?_
           . exact (ap (i:=7) nd rfl (Or.inl rfl) (ao (aw hu) (pv 2) (ag aE (ag bj (pv 4) ab) (ay aH rfl B.len_ aO (aa (pv 2) ac))) (fun _ _=>rfl)))
           . refine ad ?_ ?_
             . exact (az (am cW (ag aE (pv 4) ab) ab (ak _)) (af (ap (i:=7) nd rfl (Or.inl rfl) (ao (aw hu) (aK (aa (zv xi ab) (aa (ag aY (ao (aw hu) (pv 1) ab (fun _ _=>rfl)) (ao (aw hu) (pv 1) ab (fun _ _=>rfl))) (aa (ag aE (ag bj (pv 4) ab) (ag aY (ao (aw hu) (pv 1) ab (fun _ _=>rfl)) (ao (aw hu) (pv 1) ab (fun _ _=>rfl)))) ac)))) (ag aE (pv 4) ab) (fun _ _=>rfl)))) aq)
             . refine af ?_
               . refine aj ?_
                 . refine bb ?_
                   . refine aa ?_ ?_
                     . exact aJ
                     . refine aa ?_ ?_
                       . refine ao ?x ?l ?j ?p
                         case x=>exact (aw hu)
                         case p=>exact (fun _ _=>rfl)
                         case j=>exact (ag aE (ag bj (pv 4) ab) ab)
                         case l=>
                          exact (aK (aa ab (aa ab (aa ab (aa ab (aa ab (aa ab (aa ab (aa (zv xi ab) ac)))))))))
                       . exact (aa (pv 7) (aa (pv 6) (aa (pv 5) ac)))
abbrev mE:Stmt:=top 12
theorem sc_floor_of:ar ["high","wide","signs"] ["high","wide","signs"] (ah mE):=⟨rfl,rfl,rfl,by decide+kernel,rfl,by decide+kernel,by decide+kernel⟩
theorem vq (B:Bt2 mg) (B1:Cal P w K mg base 2 "is_from_one_to" ["value","most"] (aU K)) {t_MOST_CELLS:Tok} (Eg:mg "MOST_CELLS"=some (.int 16 t_MOST_CELLS)) {t_MOST_SIDE:Tok} (DI:mg "MOST_SIDE"=some (.int 6 t_MOST_SIDE)) {t_MOST_SIGNS:Tok} (Eh:mg "MOST_SIGNS"=some (.int 6 t_MOST_SIGNS)) {f:Addr} {fd:FuncData} (F:Fun K "floor_of" "floor_of" mE f fd):FnOk P w K mg base CX0 3 f fd ["high","wide","signs"] (fe K):=by
 refine F.ok sc_floor_of (fun vs H Q E h=>vf h) (fun cdv A outer s H vs Q E hr h=>?_)
 have hu:=hr.units
 have nd:=sc_floor_of.nd
 refine ⟨ka K,?_,vg h⟩
 exact (ad (az (cB (bw (au B1 hr (by decide) rfl (aa (pv 0) (aa (cK rfl DI ⟨t_MOST_SIDE,rfl⟩) ac))))) (af bx) aq)
   (ad (az (cB (bw (au B1 hr (by decide) rfl (aa (pv 1) (aa (cK rfl DI ⟨t_MOST_SIDE,rfl⟩) ac))))) (af bx) aq)
   (ad (az (am cE (ag aY (pv 0) (pv 1)) (cK rfl Eg ⟨t_MOST_CELLS,rfl⟩) (ak _)) (af bx) aq)
   (ad (az (cB (bw (au B1 hr (by decide) rfl (aa (pv 2) (aa (cK rfl Eh ⟨t_MOST_SIGNS,rfl⟩) ac))))) (af bx) aq)
   (af (aj (bb (aa (pv 0) (aa (pv 1) (aa (pv 2) ac))))))))))
abbrev nD:Stmt:=top 18
theorem sc_squares:ar ["floor"] ["floor"] (ah nD):=⟨rfl,rfl,rfl,by decide+kernel,rfl,by decide+kernel,by decide+kernel⟩
theorem wW (B:Bt2 mg) (EC:Cal P w K mg base 2 "is_corner" ["floor","cell"] (dm K)) (BV:Cal P w K mg base 1 "many_cells" ["floor"] (aS K)) (ED:Cal P w K mg base 1 "square_at" ["floor","corner"] (dn K)) {f:Addr} {fd:FuncData} (F:Fun K "squares" "squares" nD f fd):FnOk P w K mg base CX0 3 f fd ["floor"] (gl K):=by
 refine F.ok sc_squares (fun vs H Q E h=>wn h) (fun cdv A outer s H vs Q E hr h=>?_)
 have hu:=hr.units
 have nd:=sc_squares.nd
 refine ⟨kG K,?_,wo h⟩
 exact (af (aj (aT (ix:=[none,none,some 0]) [".0","cell","floor"] (aQ rfl (by decide+kernel) rfl rfl rfl) rfl (dz rfl B.range_ (aa (au BV hr (by decide) rfl (aa (pv 0) ac)) ac)) (fun cl s H fp=>(aA (i:=1) (show ([".0","cell","floor"]:List Str).Nodup by decide+kernel) rfl (Or.inl rfl))) (fun cl s H fp=>(cx (bw (au EC hr (by decide) rfl (aa (pv 2) (aa (pv 1) ac)))))) (fun cl s H fp=>(au ED hr (by decide) rfl (aa (pv 2) (aa (pv 1) ac)))))))
abbrev nE:Stmt:=top 19
theorem sc_reached:ar ["floor","cells","start","found","place","cell"] ["floor","cells","start"] (ah nE):=⟨rfl,rfl,rfl,by decide+kernel,rfl,by decide+kernel,by decide+kernel⟩
theorem wX (B:Bt2 mg) (Dw:Cal P w K mg base 2 "beside" ["floor","cell"] (dB K)) {f:Addr} {fd:FuncData} (F:Fun K "reached" "reached" nE f fd):FnOk P w K mg base CX0 3 f fd ["floor","cells","start"] (gz K):=by
 refine F.ok sc_reached (fun vs H Q E h=>wC h) (fun cdv A outer s H vs Q E hr h=>?_)
 have hu:=hr.units
 have nd:=sc_reached.nd
 refine ⟨kM K,?_,wD h⟩
 exact (ad (az (am (mX hu) (pv 2) (pv 1) (by with_unfolding_all rfl)) (af (aj (aK ac))) aq)
   (ad (ap (i:=3) nd rfl (Or.inl rfl) (aK (aa (pv 2) ac)))
   (ad (ap (i:=4) nd rfl (Or.inl rfl) ab)
   (ad (tD PassesOwn.never (am cW (pv 4) (ay aH rfl B.len_ aO (aa (pv 3) ac)) (ak _))
   (ad (cD PassesOwn.never rfl (aP (au Dw hr (by decide) rfl (aa (pv 0) (aa (ao (aw hu) (pv 3) (pv 4) (fun _ _=>rfl)) ac)))) (aA (i:=5) nd rfl (Or.inl rfl))
   (af (az (PW.pt (pD (am (eh hu) (pv 5) (pv 1) (by with_unfolding_all rfl)) (nL (am (mX hu) (pv 5) (pv 3) (by with_unfolding_all rfl))))) (af (bz (cm PySem.F.plainAttrs_list PySem.F.slot_list_append PySem.F.type_list_append bn (pv 3) (aa (pv 5) ac)))) aq)))
   (af (ap (i:=4) nd rfl (Or.inl rfl) (ag aG (pv 4) ab)))))
   (af (aj (ay tS rfl B.sorted_ xE (aa (pv 3) ac))))))))
abbrev uV:Stmt:=top 27
theorem sc_ways:ar ["masks","product","mask"] ["masks"] (ah uV):=⟨rfl,rfl,rfl,by decide+kernel,rfl,by decide+kernel,by decide+kernel⟩
theorem Aq (B:Bt2 mg) (CJ:Cal P w K mg base 2 "signs_in" ["mask"] (cr K)) {f:Addr} {fd:FuncData} (F:Fun K "ways" "ways" uV f fd):FnOk P w K mg base CX0 3 f fd ["masks"] (kQ K):=by
 refine F.ok sc_ways (fun vs H Q E h=>Ai h) (fun cdv A outer s H vs Q E hr h=>?_)
 have hu:=hr.units
 have nd:=sc_ways.nd
 refine ⟨nU K,?_,Aj h⟩
 exact (ad (ap (i:=1) nd rfl (Or.inl rfl) ab)
   (ad (cD PassesOwn.never rfl (aP (pv 0)) (aA (i:=2) nd rfl (Or.inl rfl))
   (af (ap (i:=1) nd rfl (Or.inl rfl) (ag aY (pv 1) (ay aH rfl B.len_ aO (aa (au CJ hr (by decide) rfl (aa (pv 2) ac)) ac))))))
   (af (aj (pv 1)))))
abbrev nF:Stmt:=top 32
theorem sc_is_sign:ar ["floor","value"] ["floor","value"] (ah nF):=⟨rfl,rfl,rfl,by decide+kernel,rfl,by decide+kernel,by decide+kernel⟩
theorem wY (B:Bt2 mg) (B1:Cal P w K mg base 2 "is_from_one_to" ["value","most"] (aU K)) {f:Addr} {fd:FuncData} (F:Fun K "is_sign" "is_sign" nF f fd):FnOk P w K mg base CX0 3 f fd ["floor","value"] (gr K):=by
 refine F.ok sc_is_sign (fun vs H Q E h=>wu h) (fun cdv A outer s H vs Q E hr h=>?_)
 have hu:=hr.units
 have nd:=sc_is_sign.nd
 refine ⟨kJ K,?_,wv h⟩
 exact (af (aj (au B1 hr (by decide) rfl (aa (pv 1) (aa (ao (aw hu) (pv 0) ab (fun _ _=>rfl)) ac)))))
abbrev jY:Stmt:=top 34
theorem sc_has_its_rule:ar ["puzzle","kind","number","cell","rules"] ["puzzle","kind","number","cell"] (ah jY):=⟨rfl,rfl,rfl,by decide+kernel,rfl,by decide+kernel,by decide+kernel⟩
theorem qK (B:Bt2 mg) {c:RCl RK} {d:RCl PzK} (Fy:Cal P w K mg base 2 "goes_by" ["kind","rule"] (gt K c)) (B0:Cal P w K mg base 1 "is_whole" ["value"] (a9 K)) (Ee:MCal P w K mg base d d.ok 1 "rules" ["self"] (jO K c d)) (Ed:MCal P w K mg base c c.ok 1 "spots" ["self"] (jN K c)) {f:Addr} {fd:FuncData} (F:Fun K "has_its_rule" "has_its_rule" jY f fd):FnOk P w K mg base CX0 3 f fd ["puzzle","kind","number","cell"] (bV K c d):=by
 refine F.ok sc_has_its_rule (fun vs H Q E h=>qd h) (fun cdv A outer s H vs Q E hr h=>?_)
 have hu:=hr.units
 have nd:=sc_has_its_rule.nd
 refine ⟨fH K c d,?_,qe h⟩
 exact (ad (az (PW.pt (cT (cB (bw (au B0 hr (by decide) rfl (aa (pv 2) ac)))) (d8 (am cW (pv 2) ab (ak _))))) (af (aj cI)) aq)
   (ad (az (am (aF hu) (pv 1) aJ (ak _)) (af (aj (aM (aF hu) (pv 2) ab (ak _)))) aq)
   (ad (ap (i:=4) nd rfl (Or.inl rfl) (iR Ee hr (by decide) (pv 0)))
   (ad (az (am tR (pv 2) (ay aH rfl B.len_ aO (aa (pv 4) ac)) (ak _)) (af (aj cI)) aq)
   (af (aj (cU (au Fy hr (by decide) rfl (aa (pv 1) (aa (ao (aw hu) (pv 4) (pv 2) (fun _ _=>rfl)) ac))) (di (aM (eh hu) (pv 3) (iR Ed hr (by decide) (ao (aw hu) (pv 4) (pv 2) (fun _ _=>rfl))) (by with_unfolding_all rfl))))))))))
abbrev dy:Stmt:=mtop 83 1
theorem sc_Ring_has_two_beside:ar ["self","cells","cell"] ["self","cells","cell"] (ah dy):=⟨rfl,rfl,rfl,by decide+kernel,rfl,by decide+kernel,by decide+kernel⟩
theorem lM (B:Bt2 mg) {c:RCl RK} (Dw:Cal P w K mg base 2 "beside" ["floor","cell"] (dB K)) (FK_c_floor:FldK K c "floor") {f:Addr} {fd:FuncData} (F:Fun K "has_two_beside" "Ring.has_two_beside" dy f fd):FnOk P w K mg base CX0 3 f fd ["self","cells","cell"] (bR K c):=by
 refine F.ok sc_Ring_has_two_beside (fun vs H Q E h=>lA h) (fun cdv A outer s H vs Q E hr h=>?_)
 have hu:=hr.units
 have nd:=sc_Ring_has_two_beside.nd
 refine ⟨bS K c,?_,lB h⟩
 exact (af (aj (aM (aF hu) (ay aH rfl B.len_ aO (aa (aT (ix:=[none,none,some 1]) [".0","other","cells"] (aQ rfl (by decide+kernel) rfl rfl rfl) rfl (aP (au Dw hr (by decide) rfl (aa (bL (pv 0) FK_c_floor) (aa (pv 2) ac)))) (fun cl s H fp=>(aA (i:=1) (show ([".0","other","cells"]:List Str).Nodup by decide+kernel) rfl (Or.inl rfl))) (fun cl s H fp=>(cx (am (eh hu) (pv 1) (pv 2) (by with_unfolding_all rfl)))) (fun cl s H fp=>(pv 1))) ac)) ab (ak _))))
abbrev jZ:Stmt:=top 93
theorem sc_first_within:ar ["words","least","most"] ["words","least","most"] (ah jZ):=⟨rfl,rfl,rfl,by decide+kernel,rfl,by decide+kernel,by decide+kernel⟩
theorem qL (B:Bt2 mg) (B4:Cal P w K mg base 2 "number_within" ["word","least","most"] (bf K)) {f:Addr} {fd:FuncData} (F:Fun K "first_within" "first_within" jZ f fd):FnOk P w K mg base CX0 3 f fd ["words","least","most"] (bq K):=by
 refine F.ok sc_first_within (fun vs H Q E h=>pU h) (fun cdv A outer s H vs Q E hr h=>?_)
 have hu:=hr.units
 have nd:=sc_first_within.nd
 refine ⟨fw K,?_,pV h⟩
 exact (ad (az (am (aF hu) (pv 0) (aK ac) (ak _)) (af bx) aq)
   (af (aj (au B4 hr (by decide) rfl (aa (ao (aw hu) (pv 0) ab (fun _ _=>rfl)) (aa (pv 1) (aa (pv 2) ac)))))))
abbrev ld:Stmt:=top 94
theorem sc_told_cells:ar ["floor","words","cells"] ["floor","words"] (ah ld):=⟨rfl,rfl,rfl,by decide+kernel,rfl,by decide+kernel,by decide+kernel⟩
theorem sU (B:Bt2 mg) (BV:Cal P w K mg base 1 "many_cells" ["floor"] (aS K)) (B4:Cal P w K mg base 2 "number_within" ["word","least","most"] (bf K)) {f:Addr} {fd:FuncData} (F:Fun K "told_cells" "told_cells" ld f fd):FnOk P w K mg base CX0 3 f fd ["floor","words"] (cP K):=by
 refine F.ok sc_told_cells (fun vs H Q E h=>so h) (fun cdv A outer s H vs Q E hr h=>?_)
 have hu:=hr.units
 have nd:=sc_told_cells.nd
 refine ⟨ie K,?_,sr h⟩
 exact (ad (vF (k:=2) nd rfl (Or.inl rfl) rfl (ix:=[none,none,some 0]) [".0","word","floor"] (aQ rfl (by decide+kernel) rfl rfl rfl) rfl (aP (pv 1)) (fun cl s H fp=>(aA (i:=1) (show ([".0","word","floor"]:List Str).Nodup by decide+kernel) rfl (Or.inl rfl))) (fun cl s H fp=>bJ) (fun cl s H fp=>(au B4 hr (by decide) rfl (aa (pv 1) (aa ab (aa (ag bu (au BV hr (by decide) rfl (aa (pv 2) ac)) ab) ac))))))
   (ad (az (am (aF hu) (pv 2) (aK ac) (ak _)) (af bx) aq)
   (ad (az (am (ck hu) (m5 rfl rfl rfl B.len_ B.set_ (pv 2)) (ay aH rfl B.len_ aO (aa (pv 2) ac)) (ak _)) (af bx) aq)
   (af (aj (pv 2))))))
abbrev nG:Stmt:=top 96
theorem sc_rule_by:ar ["floor","words","cells","amount","mark","name"] ["floor","words","cells","amount","mark"] (ah nG):=⟨rfl,rfl,rfl,by decide+kernel,rfl,by decide+kernel,by decide+kernel⟩
theorem wZ (B:Bt2 mg) {c:RCl RK} (Hi:KCal P w K mg base 1 "Count" (c.A .Count) ["self","floor","words","cells","amount","mark"] (av K c)) (GE:KCal P w K mg base 1 "Joined" (c.A .Joined) ["self","floor","words","cells","amount","mark"] (av K c)) (EL:KCal P w K mg base 1 "NoSquare" (c.A .NoSquare) ["self","floor","words","cells","amount","mark"] (av K c)) (HK:KCal P w K mg base 1 "Ring" (c.A .Ring) ["self","floor","words","cells","amount","mark"] (av K c)) (GF:KCal P w K mg base 1 "Rising" (c.A .Rising) ["self","floor","words","cells","amount","mark"] (av K c)) (HL:KCal P w K mg base 1 "Seen" (c.A .Seen) ["self","floor","words","cells","amount","mark"] (av K c)) (K_Sum:KCal P w K mg base 1 "Sum" (c.A .Sum) ["self","floor","words","cells","amount","mark"] (av K c)) (GG:KCal P w K mg base 1 "Unlike" (c.A .Unlike) ["self","floor","words","cells","amount","mark"] (av K c)) {f:Addr} {fd:FuncData} (F:Fun K "rule_by" "rule_by" nG f fd):FnOk P w K mg base CX0 3 f fd ["floor","words","cells","amount","mark"] (gp K c):=by
 refine F.ok sc_rule_by (fun vs H Q E h=>wp h) (fun cdv A outer s H vs Q E hr h=>?_)
 have hu:=hr.units
 have nd:=sc_rule_by.nd
 refine ⟨kH K c,?_,wq h⟩
 exact (ad (ap (i:=5) nd rfl (Or.inl rfl) (ao (aw hu) (pv 1) ab (fun _ _=>rfl)))
   (ad (az (am (aF hu) (pv 5) aJ (ak _)) (af (aj (kF GG hr (by decide) rfl (aa (pv 0) (aa (pv 1) (aa (pv 2) (aa (pv 3) (aa (pv 4) ac)))))))) aq)
   (ad (az (am (aF hu) (pv 5) aJ (ak _)) (af (aj (kF K_Sum hr (by decide) rfl (aa (pv 0) (aa (pv 1) (aa (pv 2) (aa (pv 3) (aa (pv 4) ac)))))))) aq)
   (ad (az (am (aF hu) (pv 5) aJ (ak _)) (af (aj (kF GF hr (by decide) rfl (aa (pv 0) (aa (pv 1) (aa (pv 2) (aa (pv 3) (aa (pv 4) ac)))))))) aq)
   (ad (az (am (aF hu) (pv 5) aJ (ak _)) (af (aj (kF HL hr (by decide) rfl (aa (pv 0) (aa (pv 1) (aa (pv 2) (aa (pv 3) (aa (pv 4) ac)))))))) aq)
   (ad (az (am (aF hu) (pv 5) aJ (ak _)) (af (aj (kF Hi hr (by decide) rfl (aa (pv 0) (aa (pv 1) (aa (pv 2) (aa (pv 3) (aa (pv 4) ac)))))))) aq)
   (ad (az (am (aF hu) (pv 5) aJ (ak _)) (af (aj (kF GE hr (by decide) rfl (aa (pv 0) (aa (pv 1) (aa (pv 2) (aa (pv 3) (aa (pv 4) ac)))))))) aq)
   (ad (az (am (aF hu) (pv 5) aJ (ak _)) (af (aj (kF EL hr (by decide) rfl (aa (pv 0) (aa (pv 1) (aa (pv 2) (aa (pv 3) (aa (pv 4) ac)))))))) aq)
   (ad (az (am (aF hu) (pv 5) aJ (ak _)) (af (aj (kF HK hr (by decide) rfl (aa (pv 0) (aa (pv 1) (aa (pv 2) (aa (pv 3) (aa (pv 4) ac)))))))) aq)
   (af bx))))))))))
abbrev jA:Stmt:=top 103
theorem sc_checked_clues:ar ["floor","clues"] ["floor","clues"] (ah jA):=⟨rfl,rfl,rfl,by decide+kernel,rfl,by decide+kernel,by decide+kernel⟩
theorem pB (B:Bt2 mg) (Ei:Cal P w K mg base 2 "is_filling" ["floor","filling","least"] (cR K)) {f:Addr} {fd:FuncData} (F:Fun K "checked_clues" "checked_clues" jA f fd):FnOk P w K mg base CX0 3 f fd ["floor","clues"] (bN K):=by
 refine F.ok sc_checked_clues (fun vs H Q E h=>oS h) (fun cdv A outer s H vs Q E hr h=>?_)
 have hu:=hr.units
 have nd:=sc_checked_clues.nd
 refine ⟨dW K,?_,oT h⟩
 exact (ad (az (cB (bw (au Ei hr (by decide) rfl (aa (pv 0) (aa (pv 1) (aa ab ac)))))) (af bx) aq)
   (af (aj (bD gb rfl B.list_ gc (aa (pv 1) ac)))))
abbrev kx:Stmt:=top 113
theorem sc__law_region:ar ["_law_floor_here","_law_word","_law_sign","_law_filling","_law_cell","_law_cells","_law_square"] ["_law_floor_here","_law_word","_law_sign","_law_filling"] (ah kx):=⟨rfl,rfl,rfl,by decide+kernel,rfl,by decide+kernel,by decide+kernel⟩
theorem rE (B:Bt2 mg) (B5:Cal P w K mg base 1 "_law_beside" ["_law_floor_here","_law_cell"] (bg K)) (DJ:Cal P w K mg base 2 "_law_joined" ["_law_floor_here","_law_cells"] (bO K)) {f:Addr} {fd:FuncData} (F:Fun K "_law_region" "_law_region" kx f fd):FnOk P w K mg base CX0 3 f fd ["_law_floor_here","_law_word","_law_sign","_law_filling"] (bP K):=by
 refine F.ok sc__law_region (fun vs H Q E h=>o3 h) (fun cdv A outer s H vs Q E hr h=>?_)
 have hu:=hr.units
 have nd:=sc__law_region.nd
 refine ⟨d2 K,?_,o4 h⟩
 exact (ad (ap (i:=5) nd rfl (Or.inr rfl) (aT (ix:=[none,none,some 3,some 2]) [".0","_law_cell","_law_filling","_law_sign"] (aQ rfl (by decide+kernel) rfl rfl rfl) rfl (dz rfl B.range_ (aa (ay aH rfl B.len_ aO (aa (pv 3) ac)) ac)) (fun cl s H fp=>(aA (i:=1) (show ([".0","_law_cell","_law_filling","_law_sign"]:List Str).Nodup by decide+kernel) rfl (Or.inl rfl))) (fun cl s H fp=>(cx (am (aF hu) (ao (aw hu) (pv 2) (pv 1) (fun _ _=>rfl)) (pv 3) (ak _)))) (fun cl s H fp=>(pv 1))))
   (ad (az (am (aF hu) (pv 1) aJ (ak _)) (ad (cD PassesOwn.never rfl (aP (pv 5)) (aA (i:=4) nd rfl (Or.inl rfl))
   (ad (ap (i:=6) nd rfl (Or.inl rfl) (aK (aa (pv 4) (aa (ag aG (pv 4) ab) (aa (ag aG (pv 4) (ao (aw hu) (pv 0) ab (fun _ _=>rfl))) (aa (ag aG (ag aG (pv 4) (ao (aw hu) (pv 0) ab (fun _ _=>rfl))) ab) ac))))))
   (af (az (PW.pt (pD (am cW (ag aE (pv 4) (ao (aw hu) (pv 0) ab (fun _ _=>rfl))) (ag bu (ao (aw hu) (pv 0) ab (fun _ _=>rfl)) ab) (ak _)) (nL (am (aF hu) (ay aH rfl B.len_ aO (aa (aT (ix:=[none,none,some 5]) [".0","_law_one","_law_cells"] (aQ rfl (by decide+kernel) rfl rfl rfl) rfl (aP (pv 6)) (fun cl s H fp=>(aA (i:=1) (show ([".0","_law_one","_law_cells"]:List Str).Nodup by decide+kernel) rfl (Or.inl rfl))) (fun cl s H fp=>(cx (am (eh hu) (pv 1) (pv 2) (by with_unfolding_all rfl)))) (fun cl s H fp=>(pv 1))) ac)) ab (ak _))))) (af (aj cI)) aq))))
   (af (aj cI))) aq)
   (ad (az (am (aF hu) (pv 1) aJ (ak _)) (af (cD PassesOwn.never rfl (aP (pv 5)) (aA (i:=4) nd rfl (Or.inl rfl))
   (af (az (am (ck hu) (ay aH rfl B.len_ aO (aa (aT (ix:=[none,none,some 5]) [".0","_law_other","_law_cells"] (aQ rfl (by decide+kernel) rfl rfl rfl) rfl (aP (au B5 hr (by decide) rfl (aa (pv 0) (aa (pv 4) ac)))) (fun cl s H fp=>(aA (i:=1) (show ([".0","_law_other","_law_cells"]:List Str).Nodup by decide+kernel) rfl (Or.inl rfl))) (fun cl s H fp=>(cx (am (eh hu) (pv 1) (pv 2) (by with_unfolding_all rfl)))) (fun cl s H fp=>(pv 1))) ac)) ab (ak _)) (af (aj cI)) aq)))) aq)
   (af (aj (au DJ hr (by decide) rfl (aa (pv 0) (aa (pv 5) ac))))))))
abbrev lN:Stmt:=top 35
theorem sc_is_formed:ar ["puzzle","thought","floor"] ["puzzle","thought"] (ah lN):=⟨rfl,rfl,rfl,by decide+kernel,rfl,by decide+kernel,by decide+kernel⟩
theorem uW (B:Bt2 mg) {c:RCl RK} {d:RCl PzK} (Dx:Cal P w K mg base 3 "has_its_rule" ["puzzle","kind","number","cell"] (bV K c d)) (Fz:Cal P w K mg base 2 "is_cell" ["floor","value"] (gq K)) (FA:Cal P w K mg base 3 "is_sign" ["floor","value"] (gr K)) (B0:Cal P w K mg base 1 "is_whole" ["value"] (a9 K)) (Hj:MCal P w K mg base d d.ok 1 "place" ["self"] (mh K c d)) (G_KINDS:GTup K mg "KINDS" mj) {f:Addr} {fd:FuncData} (F:Fun K "is_formed" "is_formed" lN f fd):FnOk P w K mg base CX0 4 f fd ["puzzle","thought"] (dt K c d):=by
 refine F.ok sc_is_formed (fun vs H Q E h=>um h) (fun cdv A outer s H vs Q E hr h=>?_)
 have hu:=hr.units
 have nd:=sc_is_formed.nd
 refine ⟨jl K c d,?_,uo h⟩
 exact (ad (az (PW.pt (cT (cB (bw (ay dA rfl B.isinstance_ bE (aa (pv 1) (aa (iO (v:=.ty "tuple") rfl B.tuple_ l6 rfl) ac))))) (cT (am (ck hu) (ay aH rfl B.len_ aO (aa (pv 1) ac)) ab (ak _)) (d8 (vN G_KINDS (ao (aw hu) (pv 1) ab (fun _ _=>rfl)) rfl))))) (af (aj cI)) aq)
   (ad (ap (i:=2) nd rfl (Or.inl rfl) (iR Hj hr (by decide) (pv 0)))
   (ad (az (PW.pt (cT (cB (bw (au Fz hr (by decide) rfl (aa (pv 2) (aa (ao (aw hu) (pv 1) ab (fun _ _=>rfl)) ac))))) (d8 (cB (bw (au FA hr (by decide) rfl (aa (pv 2) (aa (ao (aw hu) (pv 1) ab (fun _ _=>rfl)) ac)))))))) (af (aj cI)) aq)
   (ad (az (cB (bw (au Dx hr (by decide) rfl (aa (pv 0) (aa (ao (aw hu) (pv 1) ab (fun _ _=>rfl)) (aa (ao (aw hu) (pv 1) ab (fun _ _=>rfl)) (aa (ao (aw hu) (pv 1) ab (fun _ _=>rfl)) ac))))))) (af (aj cI)) aq)
   (af (aj (cU (ay dA rfl B.isinstance_ bE (aa (ao (aw hu) (pv 1) ab (fun _ _=>rfl)) (aa (iO (v:=.ty "list") rfl B.list_ gc rfl) ac))) (di (ay (iP rfl) rfl B.all_ lV (aa (aT (ix:=[none,none]) [".0","part"] (aQ rfl (by decide+kernel) rfl rfl rfl) rfl (aP (ao (aw hu) (pv 1) ab (fun _ _=>rfl))) (fun cl s H fp=>(aA (i:=1) (show ([".0","part"]:List Str).Nodup by decide+kernel) rfl (Or.inl rfl))) (fun cl s H fp=>bJ) (fun cl s H fp=>(au B0 hr (by decide) rfl (aa (pv 1) ac)))) ac))))))))))
abbrev fX:Stmt:=mtop 81 1
theorem sc_Joined_is_joined:ar ["self","cells"] ["self","cells"] (ah fX):=⟨rfl,rfl,rfl,by decide+kernel,rfl,by decide+kernel,by decide+kernel⟩
theorem jJ (B:Bt2 mg) {c:RCl RK} (EA:Cal P w K mg base 3 "reached" ["floor","cells","start"] (gz K)) (FK_c_floor:FldK K c "floor") {f:Addr} {fd:FuncData} (F:Fun K "is_joined" "Joined.is_joined" fX f fd):FnOk P w K mg base CX0 4 f fd ["self","cells"] (bH K c):=by
 refine F.ok sc_Joined_is_joined (fun vs H Q E h=>mJ h) (fun cdv A outer s H vs Q E hr h=>?_)
 have hu:=hr.units
 have nd:=sc_Joined_is_joined.nd
 refine ⟨cJ K c,?_,mK h⟩
 exact (af (aj (vQ (aM (aF hu) (pv 1) (aK ac) (ak _)) (di (aM (aF hu) (au EA hr (by decide) rfl (aa (bL (pv 0) FK_c_floor) (aa (pv 1) (aa (ao (aw hu) (pv 1) ab (fun _ _=>rfl)) ac)))) (pv 1) (ak _))))))
abbrev iN:Stmt:=mtop 82 0
theorem sc_NoSquare_holds:ar ["self","filling","cells"] ["self","filling"] (ah iN):=⟨rfl,rfl,rfl,by decide+kernel,rfl,by decide+kernel,by decide+kernel⟩
theorem oo (B:Bt2 mg) {c:RCl RK} (EE:Cal P w K mg base 1 "is_within" ["some","cells"] (du K)) (FB:Cal P w K mg base 3 "squares" ["floor"] (gl K)) (FK_c_floor:FldK K c "floor") (B7:MCal P w K mg base c c.ok 1 "marked" ["self","filling"] (bG K c)) {f:Addr} {fd:FuncData} (F:Fun K "holds" "NoSquare.holds" iN f fd):FnOk P w K mg base CX0 4 f fd ["self","filling"] (de K c):=by
 refine F.ok sc_NoSquare_holds (fun vs H Q E h=>n5 h) (fun cdv A outer s H vs Q E hr h=>?_)
 have hu:=hr.units
 have nd:=sc_NoSquare_holds.nd
 refine ⟨df K c,?_,n6 h⟩
 exact (ad (ap (i:=2) nd rfl (Or.inr rfl) (cg B7 hr (by decide) (pv 0) (aa (pv 1) ac)))
   (af (aj (xc (ay (xI rfl) rfl B.any_ AS (aa (aT (ix:=[none,none,some 2]) [".0","square","cells"] (aQ rfl (by decide+kernel) rfl rfl rfl) rfl (aP (au FB hr (by decide) rfl (aa (bL (pv 0) FK_c_floor) ac))) (fun cl s H fp=>(aA (i:=1) (show ([".0","square","cells"]:List Str).Nodup by decide+kernel) rfl (Or.inl rfl))) (fun cl s H fp=>bJ) (fun cl s H fp=>(au EE hr (by decide) rfl (aa (pv 1) (aa (pv 2) ac))))) ac))))))
abbrev mF:Stmt:=top 95
theorem sc_cells_of:ar ["floor","name","words"] ["floor","name","words"] (ah mF):=⟨rfl,rfl,rfl,by decide+kernel,rfl,by decide+kernel,by decide+kernel⟩
theorem vt (B:Bt2 mg) (BV:Cal P w K mg base 1 "many_cells" ["floor"] (aS K)) (Ej:Cal P w K mg base 3 "told_cells" ["floor","words"] (cP K)) (G_OF_ALL_CELLS:GTup K mg "OF_ALL_CELLS" fv) {f:Addr} {fd:FuncData} (F:Fun K "cells_of" "cells_of" mF f fd):FnOk P w K mg base CX0 4 f fd ["floor","name","words"] (fc K):=by
 refine F.ok sc_cells_of (fun vs H Q E h=>va h) (fun cdv A outer s H vs Q E hr h=>?_)
 have hu:=hr.units
 have nd:=sc_cells_of.nd
 refine ⟨j7 K,?_,vb h⟩
 exact (ad (az (vN G_OF_ALL_CELLS (pv 1) rfl) (af (aj (au Ej hr (by decide) rfl (aa (pv 0) (aa (pv 2) ac))))) aq)
   (ad (az (am (ck hu) (pv 2) (aK ac) (ak _)) (af bx) aq)
   (af (aj (lz rfl rfl rfl B.list_ B.range_ (aa (au BV hr (by decide) rfl (aa (pv 0) ac)) ac))))))
abbrev jB:Stmt:=top 100
theorem sc_checked_floor:ar ["floor"] ["floor"] (ah jB):=⟨rfl,rfl,rfl,by decide+kernel,rfl,by decide+kernel,by decide+kernel⟩
theorem pC (B:Bt2 mg) (EM:Cal P w K mg base 3 "floor_of" ["high","wide","signs"] (fe K)) {f:Addr} {fd:FuncData} (F:Fun K "checked_floor" "checked_floor" jB f fd):FnOk P w K mg base CX0 4 f fd ["floor"] (bM K):=by
 refine F.ok sc_checked_floor (fun vs H Q E h=>oQ h) (fun cdv A outer s H vs Q E hr h=>?_)
 have hu:=hr.units
 have nd:=sc_checked_floor.nd
 refine ⟨dU K,?_,oR h⟩
 exact (ad (az (PW.pt (cT (cB (bw (ay dA rfl B.isinstance_ bE (aa (pv 0) (aa (iO (v:=.ty "tuple") rfl B.tuple_ l6 rfl) ac))))) (d8 (am (ck hu) (ay aH rfl B.len_ aO (aa (pv 0) ac)) ab (ak _))))) (af bx) aq)
   (af (aj (au EM hr (by decide) rfl (aa (ao (aw hu) (pv 0) ab (fun _ _=>rfl)) (aa (ao (aw hu) (pv 0) ab (fun _ _=>rfl)) (aa (ao (aw hu) (pv 0) ab (fun _ _=>rfl)) ac)))))))
abbrev mG:Stmt:=top 114
theorem sc__law_met:ar ["_law_floor_here","_law_rule_here","_law_filling","_law_word","_law_number","_law_sign","_law_cells","_law_signs","_law_seen"] ["_law_floor_here","_law_rule_here","_law_filling"] (ah mG):=⟨rfl,rfl,rfl,by decide+kernel,rfl,by decide+kernel,by decide+kernel⟩
theorem vv (B:Bt2 mg) (DK:Cal P w K mg base 3 "_law_region" ["_law_floor_here","_law_word","_law_sign","_law_filling"] (bP K)) {f:Addr} {fd:FuncData} (F:Fun K "_law_met" "_law_met" mG f fd):FnOk P w K mg base CX0 4 f fd ["_law_floor_here","_law_rule_here","_law_filling"] (cS K):=by
 refine F.ok sc__law_met (fun vs H Q E h=>sG h) (fun cdv A outer s H vs Q E hr h=>?_)
 have hu:=hr.units
 have nd:=sc__law_met.nd
 refine ⟨iw K,?_,sH h⟩
 exact (ad (lQ (pv 1) (mM rfl (b8 (aA (i:=3) nd rfl (Or.inl rfl)) (b8 (aA (i:=4) nd rfl (Or.inl rfl)) (b8 (aA (i:=5) nd rfl (Or.inr rfl)) (b8 (aA (i:=6) nd rfl (Or.inl rfl)) lP))))))
   (ad (ap (i:=7) nd rfl (Or.inr rfl) (aT (ix:=[none,none,some 2]) [".0","_law_cell","_law_filling"] (aQ rfl (by decide+kernel) rfl rfl rfl) rfl (aP (pv 6)) (fun cl s H fp=>(aA (i:=1) (show ([".0","_law_cell","_law_filling"]:List Str).Nodup by decide+kernel) rfl (Or.inl rfl))) (fun cl s H fp=>bJ) (fun cl s H fp=>(ao (aw hu) (pv 2) (pv 1) (fun _ _=>rfl)))))
   (ad (az (am (aF hu) (pv 3) aJ (ak _)) (af (aj (aM (aF hu) (m5 rfl rfl rfl B.len_ B.set_ (pv 7)) (ay aH rfl B.len_ aO (aa (pv 7) ac)) (ak _)))) aq)
   (ad (az (am (aF hu) (pv 3) aJ (ak _)) (af (aj (aM (aF hu) (ay (rR rfl) rfl B.sum_ xN (aa (pv 7) ac)) (pv 4) (ak _)))) aq)
   (ad (az (am (aF hu) (pv 3) aJ (ak _)) (af (aj (aM (aF hu) (ay aH rfl B.len_ aO (aa (aT (ix:=[none,none,some 5]) [".0","_law_one","_law_sign"] (aQ rfl (by decide+kernel) rfl rfl rfl) rfl (aP (pv 7)) (fun cl s H fp=>(aA (i:=1) (show ([".0","_law_one","_law_sign"]:List Str).Nodup by decide+kernel) rfl (Or.inl rfl))) (fun cl s H fp=>(cx (am (aF hu) (pv 1) (pv 2) (ak _)))) (fun cl s H fp=>(pv 1))) ac)) (pv 4) (ak _)))) aq)
   (ad (az (am (aF hu) (pv 3) aJ (ak _)) (af (aj (aM (aF hu) (ay aH rfl B.len_ aO (aa (aT (ix:=[none,none,some 7]) [".0","_law_k","_law_signs"] (aQ rfl (by decide+kernel) rfl rfl rfl) rfl (mN rfl B.range_ (aa ab (aa (ay aH rfl B.len_ aO (aa (pv 7) ac)) ac))) (fun cl s H fp=>(aA (i:=1) (show ([".0","_law_k","_law_signs"]:List Str).Nodup by decide+kernel) rfl (Or.inl rfl))) (fun cl s H fp=>(cx (am tR (ao (aw hu) (pv 2) (ag bu (pv 1) ab) (fun _ _=>rfl)) (ao (aw hu) (pv 2) (pv 1) (fun _ _=>rfl)) (ak _)))) (fun cl s H fp=>(pv 1))) ac)) ab (ak _)))) aq)
   (ad (az (am (aF hu) (pv 3) aJ (ak _)) (ad (vF (k:=8) nd rfl (Or.inl rfl) rfl (ix:=[none,none,some 7]) [".0","_law_k","_law_signs"] (aQ rfl (by decide+kernel) rfl rfl rfl) rfl (dz rfl B.range_ (aa (ay aH rfl B.len_ aO (aa (pv 7) ac)) ac)) (fun cl s H fp=>(aA (i:=1) (show ([".0","_law_k","_law_signs"]:List Str).Nodup by decide+kernel) rfl (Or.inl rfl))) (fun cl s H fp=>(cx (PW.pt (cT (am (aF hu) (pv 1) ab (ak _)) (d8 (am cE (ao (aw hu) (pv 2) (pv 1) (fun _ _=>rfl)) (ay (wz rfl) rfl B.max_ AR (aa (dC kA (pv 2) fY (fZ (pv 1))) ac)) (ak _))))))) (fun cl s H fp=>(pv 1)))
   (af (aj (aM (aF hu) (ay aH rfl B.len_ aO (aa (pv 8) ac)) (pv 4) (ak _))))) aq)
   (af (aj (au DK hr (by decide) rfl (aa (pv 0) (aa (pv 3) (aa (pv 5) (aa (pv 2) ac))))))))))))))
abbrev j2:Stmt:=mtop 81 0
theorem sc_Joined_holds:ar ["self","filling"] ["self","filling"] (ah j2):=⟨rfl,rfl,rfl,by decide+kernel,rfl,by decide+kernel,by decide+kernel⟩
theorem qM (B:Bt2 mg) {c:RCl RK} (EF:MCal P w K mg base c c.ok 4 "is_joined" ["self","cells"] (cG K c)) (B7:MCal P w K mg base c c.ok 1 "marked" ["self","filling"] (bG K c)) {f:Addr} {fd:FuncData} (F:Fun K "holds" "Joined.holds" j2 f fd):FnOk P w K mg base CX0 5 f fd ["self","filling"] (fK K c):=by
 refine F.ok sc_Joined_holds (fun vs H Q E h=>qj h) (fun cdv A outer s H vs Q E hr h=>?_)
 have hu:=hr.units
 have nd:=sc_Joined_holds.nd
 refine ⟨fL K c,?_,qk h⟩
 exact (af (aj (cg EF hr (by decide) (pv 0) (aa (cg B7 hr (by decide) (pv 0) (aa (pv 1) ac)) ac))))
abbrev lf:Stmt:=mtop 83 0
theorem sc_Ring_holds:ar ["self","filling","cells"] ["self","filling"] (ah lf):=⟨rfl,rfl,rfl,by decide+kernel,rfl,by decide+kernel,by decide+kernel⟩
theorem sV (B:Bt2 mg) {c:RCl RK} (GH:MCal P w K mg base c c.ok 3 "has_two_beside" ["self","cells","cell"] (db K c)) (EF:MCal P w K mg base c c.ok 4 "is_joined" ["self","cells"] (cG K c)) (B7:MCal P w K mg base c c.ok 1 "marked" ["self","filling"] (bG K c)) {f:Addr} {fd:FuncData} (F:Fun K "holds" "Ring.holds" lf f fd):FnOk P w K mg base CX0 5 f fd ["self","filling"] (im K c):=by
 refine F.ok sc_Ring_holds (fun vs H Q E h=>sC h) (fun cdv A outer s H vs Q E hr h=>?_)
 have hu:=hr.units
 have nd:=sc_Ring_holds.nd
 refine ⟨io K c,?_,sD h⟩
 exact (ad (ap (i:=2) nd rfl (Or.inr rfl) (cg B7 hr (by decide) (pv 0) (aa (pv 1) ac)))
   (af (aj (cU (cg EF hr (by decide) (pv 0) (aa (pv 2) ac)) (di (ay (iP rfl) rfl B.all_ lV (aa (aT (ix:=[none,none,some 2,some 0]) [".0","cell","cells","self"] (aQ rfl (by decide+kernel) rfl rfl rfl) rfl (aP (pv 2)) (fun cl s H fp=>(aA (i:=1) (show ([".0","cell","cells","self"]:List Str).Nodup by decide+kernel) rfl (Or.inl rfl))) (fun cl s H fp=>bJ) (fun cl s H fp=>(cg GH hr (by decide) (pv 3) (aa (pv 2) (aa (pv 1) ac))))) ac)))))))
abbrev lO:Stmt:=top 97
theorem sc_read_rule:ar ["floor","line","words","name","rest","amount","mark"] ["floor","line"] (ah lO):=⟨rfl,rfl,rfl,by decide+kernel,rfl,by decide+kernel,by decide+kernel⟩
theorem uX (B:Bt2 mg) {c:RCl RK} (EN:Cal P w K mg base 4 "cells_of" ["floor","name","words"] (fc K)) (CK:Cal P w K mg base 3 "first_within" ["words","least","most"] (bq K)) (FC:Cal P w K mg base 3 "rule_by" ["floor","words","cells","amount","mark"] (gp K c)) {t_MOST_NUMBER:Tok} (DL:mg "MOST_NUMBER"=some (.int 99 t_MOST_NUMBER)) (G_WITH_NUMBER:GTup K mg "WITH_NUMBER" gm) (G_WITH_SIGN:GTup K mg "WITH_SIGN" fT) {f:Addr} {fd:FuncData} (F:Fun K "read_rule" "read_rule" lO f fd):FnOk P w K mg base CX0 5 f fd ["floor","line"] (dr K c):=by
 refine F.ok sc_read_rule (fun vs H Q E h=>uk h) (fun cdv A outer s H vs Q E hr h=>?_)
 have hu:=hr.units
 have nd:=sc_read_rule.nd
 refine ⟨jj K c,?_,ul h⟩
 exact (ad (az (cB (bw (ay dA rfl B.isinstance_ bE (aa (pv 1) (aa (iO (v:=.ty "str") rfl B.str_ tU rfl) ac))))) (af bx) aq)
   (ad (ap (i:=2) nd rfl (Or.inl rfl) (cm PySem.F.plainAttrs_str PySem.F.slot_str_split PySem.F.type_str_split xJ (pv 1) (aa aJ ac)))
   (ad (ap (i:=3) nd rfl (Or.inl rfl) (ao (aw hu) (pv 2) ab (fun _ _=>rfl)))
   (ad (ap (i:=4) nd rfl (Or.inl rfl) (dC kA (pv 2) (fZ ab) fY))
   (ad (ap (i:=5) nd rfl (Or.inl rfl) ab)
   (ad (ap (i:=6) nd rfl (Or.inl rfl) ab)
   (ad (az (p7 G_WITH_NUMBER (pv 3) rfl) (ad (ap (i:=5) nd rfl (Or.inl rfl) (au CK hr (by decide) rfl (aa (pv 4) (aa ab (aa (cK rfl DL ⟨t_MOST_NUMBER,rfl⟩) ac)))))
   (af (ap (i:=4) nd rfl (Or.inl rfl) (dC kA (pv 4) (fZ ab) fY)))) aq)
   (ad (az (p7 G_WITH_SIGN (pv 3) rfl) (ad (ap (i:=6) nd rfl (Or.inl rfl) (au CK hr (by decide) rfl (aa (pv 4) (aa ab (aa (ao (aw hu) (pv 0) ab (fun _ _=>rfl)) ac)))))
   (af (ap (i:=4) nd rfl (Or.inl rfl) (dC kA (pv 4) (fZ ab) fY)))) aq)
   (af (aj (au FC hr (by decide) rfl (aa (pv 0) (aa (pv 2) (aa (au EN hr (by decide) rfl (aa (pv 0) (aa (pv 3) (aa (pv 4) ac)))) (aa (pv 5) (aa (pv 6) ac))))))))))))))))
abbrev mH:Stmt:=top 115
theorem sc__law_due:ar ["_law_floor_here","_law_rule_here","_law_masks_here","_law_thought_here","_law_at","_law_fillings","_law_cell","_law_more","_law_filling","_law_sign"] ["_law_floor_here","_law_rule_here","_law_masks_here","_law_thought_here","_law_at"] (ah mH):=⟨rfl,rfl,rfl,by decide+kernel,rfl,by decide+kernel,by decide+kernel⟩
theorem vw (B:Bt2 mg) (B6:Cal P w K mg base 1 "_law_bit" ["_law_sign"] (bi K)) (EO:Cal P w K mg base 4 "_law_met" ["_law_floor_here","_law_rule_here","_law_filling"] (cS K)) {f:Addr} {fd:FuncData} (F:Fun K "_law_due" "_law_due" mH f fd):FnOk P w K mg base CX0 5 f fd ["_law_floor_here","_law_rule_here","_law_masks_here","_law_thought_here","_law_at"] (cj K):=by
 refine F.ok sc__law_due (fun vs H Q E h=>sI h) (fun cdv A outer s H vs Q E hr h=>?_)
 have hu:=hr.units
 have nd:=sc__law_due.nd
 refine ⟨iy K,?_,sJ h⟩
 exact (ad (az (PW.pt (cT (am (ck hu) (ao (aw hu) (pv 3) ab (fun _ _=>rfl)) (pv 4) (ak _)) (cT (am (ck hu) (ao (aw hu) (pv 3) ab (fun _ _=>rfl)) (aK ac) (ak _)) (cT (am (mX hu) (ao (aw hu) (pv 3) ab (fun _ _=>rfl)) (ao (aw hu) (pv 1) ab (fun _ _=>rfl)) (by with_unfolding_all rfl)) (d8 (cB (yO iX iX ab (ao (aw hu) (pv 3) ab (fun _ _=>rfl)) (ao (aw hu) (pv 0) ab (fun _ _=>rfl))))))))) (af (aj cI)) aq)
   (ad (ap (i:=5) nd rfl (Or.inl rfl) (aK (aa (ag tX (aK (aa ab ac)) (ay aH rfl B.len_ aO (aa (pv 2) ac))) ac)))
   (ad (lQ (ao (aw hu) (pv 3) ab (fun _ _=>rfl)) (Aw (ao (aw hu) (pv 5) ab (fun _ _=>rfl)) (ao (aw hu) (pv 3) ab (fun _ _=>rfl)) (Bx hu)))
   (ad (cD PassesOwn.never rfl (aP (ao (aw hu) (pv 1) ab (fun _ _=>rfl))) (aA (i:=6) nd rfl (Or.inl rfl))
   (af (az (am (ck hu) (pv 6) (ao (aw hu) (pv 3) ab (fun _ _=>rfl)) (ak _)) (ad (ap (i:=7) nd rfl (Or.inl rfl) (aK ac))
   (ad (cD PassesOwn.never rfl (aP (pv 5)) (aA (i:=8) nd rfl (Or.inl rfl))
   (af (cD PassesOwn.never rfl (mN rfl B.range_ (aa ab (aa (ag aG (ao (aw hu) (pv 0) ab (fun _ _=>rfl)) ab) ac))) (aA (i:=9) nd rfl (Or.inl rfl))
   (af (az (am (aF hu) (ag aE (ag bj (ao (aw hu) (pv 2) (pv 6) (fun _ _=>rfl)) (au B6 hr (by decide) rfl (aa (pv 9) ac))) ab) ab (ak _)) (af (bz (cm PySem.F.plainAttrs_list PySem.F.slot_list_append PySem.F.type_list_append bn (pv 7) (aa (ag aG (ag aG (dC kA (pv 8) fY (fZ (pv 6))) (aK (aa (pv 9) ac))) (dC kA (pv 8) (fZ (ag aG (pv 6) ab)) fY)) ac)))) aq)))))
   (af (ap (i:=5) nd rfl (Or.inl rfl) (dC kA (pv 7) fY (fZ ab)))))) aq)))
   (ad (az (am cE (ay aH rfl B.len_ aO (aa (pv 5) ac)) ab (ak _)) (af (aj cI)) aq)
   (af (aj (aM (aF hu) (ay aH rfl B.len_ aO (aa (aT (ix:=[none,none,some 0,some 1]) [".0","_law_one","_law_floor_here","_law_rule_here"] (aQ rfl (by decide+kernel) rfl rfl rfl) rfl (aP (pv 5)) (fun cl s H fp=>(aA (i:=1) (show ([".0","_law_one","_law_floor_here","_law_rule_here"]:List Str).Nodup by decide+kernel) rfl (Or.inl rfl))) (fun cl s H fp=>(cx (bw (au EO hr (by decide) rfl (aa (pv 2) (aa (pv 3) (aa (pv 1) ac))))))) (fun cl s H fp=>(pv 1))) ac)) ab (ak _)))))))))
abbrev j3:Stmt:=top 60
theorem sc_ways_strikes:ar ["rule","masks","cell","sign","more","rest","some","fillings","other","filling"] ["rule","masks","cell","sign","more"] (ah j3):=⟨rfl,rfl,rfl,by decide+kernel,rfl,by decide+kernel,by decide+kernel⟩
theorem qN (B:Bt2 mg) {c:RCl RK} (FD:Cal P w K mg base 1 "clashes" ["masks"] (gu K)) (EQ:Cal P w K mg base 1 "masks_at" ["masks","cells"] (ff K)) (GI:Cal P w K mg base 2 "others" ["rule","cell"] (iV K c)) (CJ:Cal P w K mg base 2 "signs_in" ["mask"] (cr K)) (HM:Cal P w K mg base 3 "ways" ["masks"] (kQ K)) (C0:Cal P w K mg base 2 "with_each_sign" ["fillings","cell","signs"] (bB K)) (Cc:Cal P w K mg base 1 "with_sign" ["filling","cell","sign"] (bU K)) {t_MOST_WAYS:Tok} (EG:mg "MOST_WAYS"=some (.int 32 t_MOST_WAYS)) (Hk:MCal P w K mg base c c.ok 5 "holds" ["self","filling"] (cF K c)) {f:Addr} {fd:FuncData} (F:Fun K "ways_strikes" "ways_strikes" j3 f fd):FnOk P w K mg base CX0 6 f fd ["rule","masks","cell","sign","more"] (bW K c):=by
 refine F.ok sc_ways_strikes (fun vs H Q E h=>qm h) (fun cdv A outer s H vs Q E hr h=>?_)
 have hu:=hr.units
 have nd:=sc_ways_strikes.nd
 refine ⟨fM K c,?_,qo h⟩
 exact (ad (ap (i:=5) nd rfl (Or.inl rfl) (au GI hr (by decide) rfl (aa (pv 0) (aa (pv 2) ac))))
   (ad (ap (i:=6) nd rfl (Or.inl rfl) (au EQ hr (by decide) rfl (aa (pv 1) (aa (pv 5) ac))))
   (ad (az (PW.pt (cT (am (ck hu) (pv 4) (aK ac) (ak _)) (d8 (am cE (au HM hr (by decide) rfl (aa (pv 6) ac)) (cK rfl EG ⟨t_MOST_WAYS,rfl⟩) (ak _))))) (af (aj cI)) aq)
   (ad (az (bw (au FD hr (by decide) rfl (aa (pv 6) ac))) (af (aj cI)) aq)
   (ad (ap (i:=7) nd rfl (Or.inl rfl) (aK (aa (au Cc hr (by decide) rfl (aa (ag tX (aK (aa ab ac)) (ay aH rfl B.len_ aO (aa (pv 1) ac))) (aa (pv 2) (aa (pv 3) ac)))) ac)))
   (ad (cD PassesOwn.never rfl (aP (pv 5)) (aA (i:=8) nd rfl (Or.inl rfl))
   (af (ap (i:=7) nd rfl (Or.inl rfl) (au C0 hr (by decide) rfl (aa (pv 7) (aa (pv 8) (aa (au CJ hr (by decide) rfl (aa (ao (aw hu) (pv 1) (pv 8) (fun _ _=>rfl)) ac)) ac)))))))
   (ad (cD PassesOwn.never rfl (aP (pv 7)) (aA (i:=9) nd rfl (Or.inl rfl))
   (af (az (bw (cg Hk hr (by decide) (pv 0) (aa (pv 9) ac))) (af (aj cI)) aq)))
   (af (aj cI)))))))))
abbrev lg:Stmt:=top 101
theorem sc_read_rules:ar ["floor","lines"] ["floor","lines"] (ah lg):=⟨rfl,rfl,rfl,by decide+kernel,rfl,by decide+kernel,by decide+kernel⟩
theorem sW (B:Bt2 mg) {c:RCl RK} (EH:Cal P w K mg base 5 "read_rule" ["floor","line"] (dr K c)) {t_MOST_RULES:Tok} (Ek:mg "MOST_RULES"=some (.int 12 t_MOST_RULES)) {f:Addr} {fd:FuncData} (F:Fun K "read_rules" "read_rules" lg f fd):FnOk P w K mg base CX0 6 f fd ["floor","lines"] (cQ K c):=by
 refine F.ok sc_read_rules (fun vs H Q E h=>su h) (fun cdv A outer s H vs Q E hr h=>?_)
 have hu:=hr.units
 have nd:=sc_read_rules.nd
 refine ⟨ig K c,?_,sv h⟩
 exact (ad (az (am cE (ay aH rfl B.len_ aO (aa (pv 1) ac)) (cK rfl Ek ⟨t_MOST_RULES,rfl⟩) (ak _)) (af bx) aq)
   (af (aj (aT (ix:=[none,none,some 0]) [".0","line","floor"] (aQ rfl (by decide+kernel) rfl rfl rfl) rfl (aP (pv 1)) (fun cl s H fp=>(aA (i:=1) (show ([".0","line","floor"]:List Str).Nodup by decide+kernel) rfl (Or.inl rfl))) (fun cl s H fp=>bJ) (fun cl s H fp=>(au EH hr (by decide) rfl (aa (pv 2) (aa (pv 1) ac))))))))
abbrev ft:Stmt:=top 61
theorem sc_strikes_by_number:ar ["puzzle","masks","thought","rule"] ["puzzle","masks","thought"] (ah ft):=⟨rfl,rfl,rfl,by decide+kernel,rfl,by decide+kernel,by decide+kernel⟩
theorem mI (B:Bt2 mg) {c:RCl RK} {d:RCl PzK} (Dy:Cal P w K mg base 6 "ways_strikes" ["rule","masks","cell","sign","more"] (bW K c)) (Ee:MCal P w K mg base d d.ok 1 "rules" ["self"] (jO K c d)) {f:Addr} {fd:FuncData} (F:Fun K "strikes_by_number" "strikes_by_number" ft f fd):FnOk P w K mg base CX0 7 f fd ["puzzle","masks","thought"] (aX K c d):=by
 refine F.ok sc_strikes_by_number (fun vs H Q E h=>gJ h) (fun cdv A outer s H vs Q E hr h=>?_)
 have hu:=hr.units
 have nd:=sc_strikes_by_number.nd
 refine ⟨bT K c d,?_,lD h⟩
 exact (ad (ap (i:=3) nd rfl (Or.inl rfl) (ao (aw hu) (iR Ee hr (by decide) (pv 0)) (ao (aw hu) (pv 2) ab (fun _ _=>rfl)) (fun _ _=>rfl)))
   (ad (az (am (aF hu) (ao (aw hu) (pv 2) ab (fun _ _=>rfl)) aJ (ak _)) (af (aj lx)) aq)
   (ad (az (am (aF hu) (ao (aw hu) (pv 2) ab (fun _ _=>rfl)) aJ (ak _)) (af (aj lx)) aq)
   (af (aj (au Dy hr (by decide) rfl (aa (pv 3) (aa (pv 1) (aa (ao (aw hu) (pv 2) ab (fun _ _=>rfl)) (aa (ao (aw hu) (pv 2) ab (fun _ _=>rfl)) (aa (ao (aw hu) (pv 2) ab (fun _ _=>rfl)) ac)))))))))))
abbrev gG:Stmt:=mtop 104 0
theorem sc_Puzzle___init__:ar ["self","floor","lines","clues"] ["self","floor","lines","clues"] (ah gG):=⟨rfl,rfl,rfl,by decide+kernel,rfl,by decide+kernel,by decide+kernel⟩
theorem nI (B:Bt2 mg) {c:RCl RK} {d:RCl PzK} (Di:Cal P w K mg base 3 "checked_clues" ["floor","clues"] (bN K)) (Dj:Cal P w K mg base 4 "checked_floor" ["floor"] (bM K)) (El:Cal P w K mg base 6 "read_rules" ["floor","lines"] (cQ K c)) (FK_d_floor:FldK K d "floor") (FK_d_given:FldK K d "given") (FK_d_laws:FldK K d "laws") {f:Addr} {fd:FuncData} (F:Fun K "__init__" "Puzzle.__init__" gG f fd):FnOk P w K mg base CX0 7 f fd ["self","floor","lines","clues"] (ba K c d):=by
 refine F.ok sc_Puzzle___init__ (fun vs H Q E h=>m9 h) (fun cdv A outer s H vs Q E hr h=>?_)
 have hu:=hr.units
 have nd:=sc_Puzzle___init__.nd
 refine ⟨c6 K c d,?_,nc h⟩
 exact (ad (iQ (pv 0) (au Dj hr (by decide) rfl (aa (pv 1) ac)) FK_d_floor)
   (ad (iQ (pv 0) (au El hr (by decide) rfl (aa (bL (pv 0) FK_d_floor) (aa (pv 2) ac))) FK_d_laws)
   (af (iQ (pv 0) (au Di hr (by decide) rfl (aa (bL (pv 0) FK_d_floor) (aa (pv 3) ac))) FK_d_given))))
abbrev nJ:Stmt:=top 71
theorem sc_strikes:ar ["puzzle","masks","thought"] ["puzzle","masks","thought"] (ah nJ):=⟨rfl,rfl,rfl,by decide+kernel,rfl,by decide+kernel,by decide+kernel⟩
theorem w5 (B:Bt2 mg) {c:RCl RK} {d:RCl PzK} (Cd:Cal P w K mg base 7 "strikes_by_number" ["puzzle","masks","thought"] (aX K c d)) (G_LINE_KINDS:GTup K mg "LINE_KINDS" ij) (G_NUMBER_KINDS:GTup K mg "NUMBER_KINDS" fG) {f:Addr} {fd:FuncData} (F:Fun K "strikes" "strikes" nJ f fd):FnOk P w K mg base CX0 8 f fd ["puzzle","masks","thought"] (dv K c d):=by
 refine F.ok sc_strikes (fun vs H Q E h=>uC h) (fun cdv A outer s H vs Q E hr h=>?_)
 have hu:=hr.units
 have nd:=sc_strikes.nd
 refine ⟨jr K c d,?_,uD h⟩
 exact (ad (az (p7 G_LINE_KINDS (ao (aw hu) (pv 2) ab (fun _ _=>rfl)) rfl) (af (aj lx)) aq)
   (ad (az (p7 G_NUMBER_KINDS (ao (aw hu) (pv 2) ab (fun _ _=>rfl)) rfl) (af (aj (au Cd hr (by decide) rfl (aa (pv 0) (aa (pv 1) (aa (pv 2) ac)))))) aq)
   (af (aj lx))))
abbrev nK:Stmt:=top 72
theorem sc_allowed:ar ["puzzle","masks","thought"] ["puzzle","masks","thought"] (ah nK):=⟨rfl,rfl,rfl,by decide+kernel,rfl,by decide+kernel,by decide+kernel⟩
theorem w6 (B:Bt2 mg) {c:RCl RK} {d:RCl PzK} (EI:Cal P w K mg base 4 "is_formed" ["puzzle","thought"] (dt K c d)) (FE:Cal P w K mg base 8 "strikes" ["puzzle","masks","thought"] (dv K c d)) {f:Addr} {fd:FuncData} (F:Fun K "allowed" "allowed" nK f fd):FnOk P w K mg base CX0 9 f fd ["puzzle","masks","thought"] (dw K c d):=by
 refine F.ok sc_allowed (fun vs H Q E h=>uE h) (fun cdv A outer s H vs Q E hr h=>?_)
 have hu:=hr.units
 have nd:=sc_allowed.nd
 refine ⟨js K c d,?_,uF h⟩
 exact (af (aj (cU (au EI hr (by decide) rfl (aa (pv 0) (aa (pv 2) ac))) (di (au FE hr (by decide) rfl (aa (pv 0) (aa (pv 1) (aa (pv 2) ac))))))))
abbrev nX:Stmt:=top 119
theorem sc_law:ar ["_law_script","_law_cell","_law_floor_here","_law_many","_law_rule_here","_law_row","_law_first","_law_second","_law_other","_law_line","_law_at","_law_puzzle","_law_masks_here","_law_heard","_law_k","_law_thought_here","_law_handed","_law_found","_law_due_here"] ["_law_script"] (ah nX):=⟨rfl,rfl,rfl,by decide+kernel,rfl,by decide+kernel,by decide+kernel⟩
theorem Bj (B:Bt2 mg) {c:RCl RK} {d:RCl PzK} (BQ:Cal P w K mg base 1 "_law_cell_at" ["_law_script","_law_k"] (aN K)) (Em:Cal P w K mg base 2 "_law_clues" ["_law_script","_law_floor_here"] (bZ K)) (Ec:Cal P w K mg base 5 "_law_due" ["_law_floor_here","_law_rule_here","_law_masks_here","_law_thought_here","_law_at"] (cj K)) (En:Cal P w K mg base 1 "_law_floor" ["_law_cell"] (bY K)) (Eo:Cal P w K mg base 2 "_law_masks" ["_law_script","_law_floor_here"] (b7 K)) (EJ:Cal P w K mg base 2 "_law_rule" ["_law_script","_law_floor_here","_law_many"] (cA K)) (Dz:Cal P w K mg base 2 "_law_thought" ["_law_script","_law_floor_here","_law_cells","_law_k"] (bC K)) (FF:Cal P w K mg base 9 "allowed" ["puzzle","masks","thought"] (dw K c d)) (GJ:KCal P w K mg base 7 "Puzzle" (d.A .Puzzle) ["self","floor","lines","clues"] (ba K c d)) {f:Addr} {fd:FuncData} (F:Fun K "law" "law" nX f fd):FnOk P w K mg base CX0 10 f fd ["_law_script"] (uM K c d):=by
 refine F.ok sc_law (fun vs H Q E h=>Bh h) (fun cdv A outer s H vs Q E hr h=>?_)
 have hu:=hr.units
 have nd:=sc_law.nd
 refine ⟨qD K c d,?_,Bi h⟩
 exact (ad (ap (i:=1) nd rfl (Or.inl rfl) (ag aE (ag aY (au BQ hr (by decide) rfl (aa (pv 0) (aa ab ac))) ab) ab))
   (ad (ap (i:=2) nd rfl (Or.inl rfl) (au En hr (by decide) rfl (aa (pv 1) ac)))
   (ad (ap (i:=3) nd rfl (Or.inl rfl) (ag aY (ao (aw hu) (pv 2) ab (fun _ _=>rfl)) (ao (aw hu) (pv 2) ab (fun _ _=>rfl))))
   (ad (lQ (au EJ hr (by decide) rfl (aa (pv 0) (aa (pv 2) (aa (pv 3) ac)))) (mM rfl (b8 (aA (i:=4) nd rfl (Or.inl rfl)) (b8 (aA (i:=5) nd rfl (Or.inl rfl)) lP))))
   (ad (ap (i:=6) nd rfl (Or.inl rfl) (bb (aa (bb (aa aJ (aa ab (aa ab (aa (aK (aa ab ac)) ac))))) (aa aJ ac))))
   (ad (ap (i:=7) nd rfl (Or.inl rfl) (bb (aa (bb (aa aJ (aa ab (aa ab (aa (aK (aa ab (aa ab ac))) ac))))) (aa aJ ac))))
   (ad (lQ (ao (aw hu) (aK (aa (pv 6) (aa (pv 7) ac))) (ag aE (au BQ hr (by decide) rfl (aa (pv 0) (aa ab ac))) ab) (fun _ _=>rfl)) (mM rfl (b8 (aA (i:=8) nd rfl (Or.inl rfl)) (b8 (aA (i:=9) nd rfl (Or.inl rfl)) lP))))
   (ad (ap (i:=10) nd rfl (Or.inl rfl) (ag aE (au BQ hr (by decide) rfl (aa (pv 0) (aa ab ac))) ab))
   (ad (ap (i:=11) nd rfl (Or.inl rfl) (kF GJ hr (by decide) rfl (aa (pv 2) (aa (ao (aw hu) (aK (aa (aK (aa (pv 5) (aa (pv 9) ac))) (aa (aK (aa (pv 9) (aa (pv 5) ac))) ac))) (pv 10) (fun _ _=>rfl)) (aa (au Em hr (by decide) rfl (aa (pv 0) (aa (pv 2) ac))) ac)))))
   (ad (ap (i:=12) nd rfl (Or.inl rfl) (au Eo hr (by decide) rfl (aa (pv 0) (aa (pv 2) ac))))
   (ad (ap (i:=13) nd rfl (Or.inl rfl) (bD gb rfl B.list_ gc (aa (pv 12) ac)))
   (ad (cD PassesOwn.never rfl (dz rfl B.range_ (aa ab ac)) (aA (i:=14) nd rfl (Or.inl rfl))
   (ad (ap (i:=15) nd rfl (Or.inl rfl) (au Dz hr (by decide) rfl (aa (pv 0) (aa (pv 2) (aa (ao (aw hu) (pv 4) ab (fun _ _=>rfl)) (aa (pv 14) ac))))))
   (ad (ap (i:=16) nd rfl (Or.inl rfl) (bb (aa (ao (aw hu) (pv 15) ab (fun _ _=>rfl)) (aa (ao (aw hu) (pv 15) ab (fun _ _=>rfl)) (aa (ao (aw hu) (pv 15) ab (fun _ _=>rfl)) (aa (ao (aw hu) (pv 15) ab (fun _ _=>rfl)) (aa (bD gb rfl B.list_ gc (aa (ao (aw hu) (pv 15) ab (fun _ _=>rfl)) ac)) ac)))))))
   (ad (ap (i:=17) nd rfl (Or.inl rfl) (au FF hr (by decide) rfl (aa (pv 11) (aa (pv 13) (aa (pv 16) ac)))))
   (ad (ap (i:=18) nd rfl (Or.inl rfl) (au Ec hr (by decide) rfl (aa (pv 2) (aa (pv 4) (aa (pv 12) (aa (pv 15) (aa (pv 10) ac)))))))
   (ad (ap (i:=18) nd rfl (Or.inl rfl) (vQ (pv 18) (di (au Ec hr (by decide) rfl (aa (pv 2) (aa (pv 8) (aa (pv 12) (aa (pv 15) (aa (ag bu ab (pv 10)) ac)))))))))
   (ad (az (PW.pt (cT (cB (bw (ay dA rfl B.isinstance_ bE (aa (pv 17) (aa (iO (v:=.ty "bool") rfl B.bool_ vG rfl) ac))))) (d8 (am (ck hu) (pv 17) (pv 18) (ak _))))) (af (aj cI)) aq)
   (af (az (PW.pt (cT (am (ck hu) (pv 13) (pv 12) (ak _)) (d8 (am (ck hu) (pv 16) (pv 15) (ak _))))) (af (aj cI)) aq)))))))))
   (af (aj cI))))))))))))))
def mkC (BS B2 BU BZ BW BT BR BX:Addr):RCl RK:=⟨fun k=>match k with | .Rule=>BS | .Unlike=>BS | .Sum=>B2 | .Rising=>BU | .Seen=>BZ | .Count=>BW | .Joined=>BT | .NoSquare=>BR | .Ring=>BX,fun k=>match k with | .Rule=>false | _=>true⟩
def mk1 (c:RCl RK) (k:RK):RCl RK:=⟨c.A,match k with | .Joined=>(fun i=>match i with | .Joined=>true | _=>false) | .Ring=>(fun i=>match i with | .Ring=>true | _=>false) | _=>fun _=>false⟩
def mkD (BY:Addr):RCl PzK:=⟨fun _=>BY,fun _=>true⟩
theorem Bk {l:PySem.W.OpenLaw} {w:World} {K:Frag} {h:Heap} {mg:Str->Option Value} {fa:Addr} (X:K.In h) (G:h.Ns mainGlobals mg) (hfa:mg "law"=some (.ref fa))
  {f0 f1 f2 f3 f4 f5 f6 f7 f8 f9 f10 f11 f12 f13 f14 f15 f16 f17 f18 f19 f20 f21 f22 f23 f24 f25 f26 f27 f28 f29 f30 f31 f32 f33 f34 f35 f36 f37 f38 f39 f40 f41 f42 f43 f44 f45 f46 f47 f48 f49 f50 f51 f52 f53 f54 f55 f56 f57 f58 f59 f60 f61 f62 f63 f64 f65 f66 f67 f68 f69 f70:Addr} {fd0 fd1 fd2 fd3 fd4 fd5 fd6 fd7 fd8 fd9 fd10 fd11 fd12 fd13 fd14 fd15 fd16 fd17 fd18 fd19 fd20 fd21 fd22 fd23 fd24 fd25 fd26 fd27 fd28 fd29 fd30 fd31 fd32 fd33 fd34 fd35 fd36 fd37 fd38 fd39 fd40 fd41 fd42 fd43 fd44 fd45 fd46 fd47 fd48 fd49 fd50 fd51 fd52 fd53 fd54 fd55 fd56 fd57 fd58 fd59 fd60 fd61 fd62 fd63 fd64 fd65 fd66 fd67 fd68 fd69 fd70:FuncData} {BS B2 BU BZ BW BT BR BX BY:Addr} {GK:Addr} {HY:Option Addr} {HZ:Nat} {Ia:Array (Option Value)} {Ib Ic Id Ie Ig Ih t6_KINDS t7_KINDS t8_KINDS t9_KINDS t10_KINDS:Tok} {DM:Addr} {HA:Option Addr} {HB:Nat} {HC:Array (Option Value)} {HD HE HF HG HH:Tok} {Dk:Addr} {G5:Option Addr} {G6:Nat} {G7:Array (Option Value)} {G8 G9 Ha:Tok} {Dl:Addr} {Hb:Option Addr} {Hc:Nat} {Hd:Array (Option Value)} {He Hf Hg:Tok} {DA:Addr} {Hl:Option Addr} {Hm:Nat} {Hn:Array (Option Value)} {Ho Hq Hr:Tok} {Ep:Addr} {HN:Option Addr} {HP:Nat} {HQ:Array (Option Value)} {HR HS HU HV:Tok} {C3:Addr} {GL:Nat} {DT:Int} {Gj:Tok} {DU:Addr} {FG:Option Addr} {Gk:Nat} {FH:Array (Option Value)} {Fn:Tok} {DW:Int} {Gm:Tok} {DX:Addr} {FJ:Option Addr} {Gn:Nat} {FK:Array (Option Value)} {Fo:Tok} {DY:Int} {Go:Tok} {DZ:Addr} {FL:Option Addr} {Gp:Nat} {FM:Array (Option Value)} {Fp:Tok} {D0:Int} {Gq:Tok} {D1:Addr} {FN:Option Addr} {Gr:Nat} {FO:Array (Option Value)} {Fq:Tok} {D2:Int} {Gs:Tok} {D3:Addr} {FP:Option Addr} {Gu:Nat} {FQ:Array (Option Value)} {Fr:Tok} {D4:Int} {Gv:Tok} {D5:Addr} {FR:Option Addr} {Gw:Nat} {FS:Array (Option Value)} {Fs:Tok} {D6:Int} {Gx:Tok} {D7:Addr} {FT:Option Addr} {Gy:Nat} {FU:Array (Option Value)} {Ft Fu:Tok} {D8:Int} {Gz:Tok} {D9:Addr} {FV:Option Addr} {GA:Nat} {FW:Array (Option Value)} {Fv:Tok} {Ea:Int} {GB:Tok} {Eb:Addr} {FX:Option Addr} {GC:Nat} {FY:Array (Option Value)} {Fw:Tok} {tk_FIGURES:Tok} {tk_MOST_CELLS:Tok} {tk_MOST_FIGURES:Tok} {tk_MOST_NUMBER:Tok} {tk_MOST_RULES:Tok} {tk_MOST_SIDE:Tok} {tk_MOST_SIGNS:Tok} {tk_MOST_WAYS:Tok}
  (GM:PySem.W.nsIn K mainGlobals "Unlike"=some (some (.ref BS))) (q_Sum:PySem.W.nsIn K mainGlobals "Sum"=some (some (.ref B2))) (GN:PySem.W.nsIn K mainGlobals "Rising"=some (some (.ref BU))) (HW:PySem.W.nsIn K mainGlobals "Seen"=some (some (.ref BZ))) (Hs:PySem.W.nsIn K mainGlobals "Count"=some (some (.ref BW))) (GO:PySem.W.nsIn K mainGlobals "Joined"=some (some (.ref BT))) (ER:PySem.W.nsIn K mainGlobals "NoSquare"=some (some (.ref BR))) (HX:PySem.W.nsIn K mainGlobals "Ring"=some (some (.ref BX))) (GP:PySem.W.nsIn K mainGlobals "Puzzle"=some (some (.ref BY))) (a0:PySem.W.nsIn K mainGlobals "is_whole"=some (some (.ref f0))) (a1:PySem.W.nsIn K mainGlobals "many_cells"=some (some (.ref f1))) (a2:PySem.W.nsIn K mainGlobals "spot_of"=some (some (.ref f2))) (a3:PySem.W.nsIn K mainGlobals "square_at"=some (some (.ref f3))) (a4:PySem.W.nsIn K mainGlobals "stands"=some (some (.ref f4))) (a5:PySem.W.nsIn K mainGlobals "clashes"=some (some (.ref f5))) (a6:PySem.W.nsIn K mainGlobals "masks_at"=some (some (.ref f6))) (a7:PySem.W.nsIn K mainGlobals "with_sign"=some (some (.ref f7))) (a8:PySem.W.nsIn K mainGlobals "is_within"=some (some (.ref f8))) (ES:PySem.W.findIn K (.ref BS) "__init__"=some (some (.ref f9))) (Ht:PySem.W.findIn K (.ref B2) "__init__"=some (some (.ref f9))) (ET:PySem.W.findIn K (.ref BU) "__init__"=some (some (.ref f9))) (GQ:PySem.W.findIn K (.ref BZ) "__init__"=some (some (.ref f9))) (FZ:PySem.W.findIn K (.ref BW) "__init__"=some (some (.ref f9))) (EU:PySem.W.findIn K (.ref BT) "__init__"=some (some (.ref f9))) (Er:PySem.W.findIn K (.ref BR) "__init__"=some (some (.ref f9))) (GR:PySem.W.findIn K (.ref BX) "__init__"=some (some (.ref f9))) (a10_Unlike:PySem.W.findIn K (.ref BS) "name"=some (some (.ref f10))) (a10_Sum:PySem.W.findIn K (.ref B2) "name"=some (some (.ref f10))) (a10_Rising:PySem.W.findIn K (.ref BU) "name"=some (some (.ref f10))) (a10_Seen:PySem.W.findIn K (.ref BZ) "name"=some (some (.ref f10))) (a10_Count:PySem.W.findIn K (.ref BW) "name"=some (some (.ref f10))) (a10_Joined:PySem.W.findIn K (.ref BT) "name"=some (some (.ref f10))) (a10_NoSquare:PySem.W.findIn K (.ref BR) "name"=some (some (.ref f10))) (a10_Ring:PySem.W.findIn K (.ref BX) "name"=some (some (.ref f10))) (a11_Unlike:PySem.W.findIn K (.ref BS) "spots"=some (some (.ref f11))) (a11_Sum:PySem.W.findIn K (.ref B2) "spots"=some (some (.ref f11))) (a11_Rising:PySem.W.findIn K (.ref BU) "spots"=some (some (.ref f11))) (a11_Seen:PySem.W.findIn K (.ref BZ) "spots"=some (some (.ref f11))) (a11_Count:PySem.W.findIn K (.ref BW) "spots"=some (some (.ref f11))) (a11_Joined:PySem.W.findIn K (.ref BT) "spots"=some (some (.ref f11))) (a11_NoSquare:PySem.W.findIn K (.ref BR) "spots"=some (some (.ref f11))) (a11_Ring:PySem.W.findIn K (.ref BX) "spots"=some (some (.ref f11))) (a12_Unlike:PySem.W.findIn K (.ref BS) "signs_at"=some (some (.ref f12))) (a12_Sum:PySem.W.findIn K (.ref B2) "signs_at"=some (some (.ref f12))) (a12_Rising:PySem.W.findIn K (.ref BU) "signs_at"=some (some (.ref f12))) (a12_Seen:PySem.W.findIn K (.ref BZ) "signs_at"=some (some (.ref f12))) (a12_Count:PySem.W.findIn K (.ref BW) "signs_at"=some (some (.ref f12))) (a12_Joined:PySem.W.findIn K (.ref BT) "signs_at"=some (some (.ref f12))) (a12_NoSquare:PySem.W.findIn K (.ref BR) "signs_at"=some (some (.ref f12))) (a12_Ring:PySem.W.findIn K (.ref BX) "signs_at"=some (some (.ref f12))) (a13_Unlike:PySem.W.findIn K (.ref BS) "marked"=some (some (.ref f13))) (a13_Sum:PySem.W.findIn K (.ref B2) "marked"=some (some (.ref f13))) (a13_Rising:PySem.W.findIn K (.ref BU) "marked"=some (some (.ref f13))) (a13_Seen:PySem.W.findIn K (.ref BZ) "marked"=some (some (.ref f13))) (a13_Count:PySem.W.findIn K (.ref BW) "marked"=some (some (.ref f13))) (a13_Joined:PySem.W.findIn K (.ref BT) "marked"=some (some (.ref f13))) (a13_NoSquare:PySem.W.findIn K (.ref BR) "marked"=some (some (.ref f13))) (a13_Ring:PySem.W.findIn K (.ref BX) "marked"=some (some (.ref f13))) (a14:PySem.W.nsIn K mainGlobals "number_in"=some (some (.ref f14))) (a15_Puzzle:PySem.W.findIn K (.ref BY) "place"=some (some (.ref f15))) (a16_Puzzle:PySem.W.findIn K (.ref BY) "rules"=some (some (.ref f16))) (a17:PySem.W.nsIn K mainGlobals "_law_cell_at"=some (some (.ref f17))) (a18:PySem.W.nsIn K mainGlobals "_law_order"=some (some (.ref f18))) (a19:PySem.W.nsIn K mainGlobals "_law_floor"=some (some (.ref f19))) (a20:PySem.W.nsIn K mainGlobals "_law_bit"=some (some (.ref f20))) (a21:PySem.W.nsIn K mainGlobals "_law_beside"=some (some (.ref f21))) (a22:PySem.W.nsIn K mainGlobals "is_from_one_to"=some (some (.ref f22))) (a23:PySem.W.nsIn K mainGlobals "beside"=some (some (.ref f23))) (a24:PySem.W.nsIn K mainGlobals "is_corner"=some (some (.ref f24))) (a25:PySem.W.nsIn K mainGlobals "signs_in"=some (some (.ref f25))) (a26:PySem.W.nsIn K mainGlobals "is_cell"=some (some (.ref f26))) (a27:PySem.W.nsIn K mainGlobals "goes_by"=some (some (.ref f27))) (a28:PySem.W.nsIn K mainGlobals "others"=some (some (.ref f28))) (a29:PySem.W.nsIn K mainGlobals "with_each_sign"=some (some (.ref f29))) (a30_Unlike:PySem.W.findIn K (.ref BS) "holds"=some (some (.ref f30))) (a31_Sum:PySem.W.findIn K (.ref B2) "holds"=some (some (.ref f31))) (a32_Rising:PySem.W.findIn K (.ref BU) "holds"=some (some (.ref f32))) (a33_Seen:PySem.W.findIn K (.ref BZ) "holds"=some (some (.ref f33))) (a34_Count:PySem.W.findIn K (.ref BW) "holds"=some (some (.ref f34))) (a35:PySem.W.nsIn K mainGlobals "number_within"=some (some (.ref f35))) (a36:PySem.W.nsIn K mainGlobals "is_filling"=some (some (.ref f36))) (a37:PySem.W.nsIn K mainGlobals "_law_masks"=some (some (.ref f37))) (a38:PySem.W.nsIn K mainGlobals "_law_joined"=some (some (.ref f38))) (a39:PySem.W.nsIn K mainGlobals "_law_rule"=some (some (.ref f39))) (a40:PySem.W.nsIn K mainGlobals "_law_clues"=some (some (.ref f40))) (a41:PySem.W.nsIn K mainGlobals "_law_thought"=some (some (.ref f41))) (a42:PySem.W.nsIn K mainGlobals "floor_of"=some (some (.ref f42))) (a43:PySem.W.nsIn K mainGlobals "squares"=some (some (.ref f43))) (a44:PySem.W.nsIn K mainGlobals "reached"=some (some (.ref f44))) (a45:PySem.W.nsIn K mainGlobals "ways"=some (some (.ref f45))) (a46:PySem.W.nsIn K mainGlobals "is_sign"=some (some (.ref f46))) (a47:PySem.W.nsIn K mainGlobals "has_its_rule"=some (some (.ref f47))) (a48_Ring:PySem.W.findIn K (.ref BX) "has_two_beside"=some (some (.ref f48))) (a49:PySem.W.nsIn K mainGlobals "first_within"=some (some (.ref f49))) (a50:PySem.W.nsIn K mainGlobals "told_cells"=some (some (.ref f50))) (a51:PySem.W.nsIn K mainGlobals "rule_by"=some (some (.ref f51))) (a52:PySem.W.nsIn K mainGlobals "checked_clues"=some (some (.ref f52))) (a53:PySem.W.nsIn K mainGlobals "_law_region"=some (some (.ref f53))) (a54:PySem.W.nsIn K mainGlobals "is_formed"=some (some (.ref f54))) (a55_Joined:PySem.W.findIn K (.ref BT) "is_joined"=some (some (.ref f55))) (a55_Ring:PySem.W.findIn K (.ref BX) "is_joined"=some (some (.ref f55))) (a56_NoSquare:PySem.W.findIn K (.ref BR) "holds"=some (some (.ref f56))) (a57:PySem.W.nsIn K mainGlobals "cells_of"=some (some (.ref f57))) (a58:PySem.W.nsIn K mainGlobals "checked_floor"=some (some (.ref f58))) (a59:PySem.W.nsIn K mainGlobals "_law_met"=some (some (.ref f59))) (a60_Joined:PySem.W.findIn K (.ref BT) "holds"=some (some (.ref f60))) (a61_Ring:PySem.W.findIn K (.ref BX) "holds"=some (some (.ref f61))) (a62:PySem.W.nsIn K mainGlobals "read_rule"=some (some (.ref f62))) (a63:PySem.W.nsIn K mainGlobals "_law_due"=some (some (.ref f63))) (a64:PySem.W.nsIn K mainGlobals "ways_strikes"=some (some (.ref f64))) (a65:PySem.W.nsIn K mainGlobals "read_rules"=some (some (.ref f65))) (a66:PySem.W.nsIn K mainGlobals "strikes_by_number"=some (some (.ref f66))) (EV:PySem.W.findIn K (.ref BY) "__init__"=some (some (.ref f67))) (a68:PySem.W.nsIn K mainGlobals "strikes"=some (some (.ref f68))) (a69:PySem.W.nsIn K mainGlobals "allowed"=some (some (.ref f69))) (a70:PySem.W.nsIn K mainGlobals "law"=some (some (.ref f70))) (F0:Fun K "is_whole" "is_whole" my f0 fd0) (F1:Fun K "many_cells" "many_cells" kY f1 fd1) (F2:Fun K "spot_of" "spot_of" nt f2 fd2) (F3:Fun K "square_at" "square_at" lE f3 fd3) (F4:Fun K "stands" "stands" pj f4 fd4) (F5:Fun K "clashes" "clashes" nu f5 fd5) (F6:Fun K "masks_at" "masks_at" mB f6 fd6) (F7:Fun K "with_sign" "with_sign" lF f7 fd7) (F8:Fun K "is_within" "is_within" lG f8 fd8) (F9:Fun K "__init__" "Rule.__init__" jx f9 fd9) (fn9:PySem.W.isFn K (.ref f9)=true) (F10:Fun K "name" "Rule.name" lH f10 fd10) (fn10:PySem.W.isFn K (.ref f10)=true) (F11:Fun K "spots" "Rule.spots" kZ f11 fd11) (fn11:PySem.W.isFn K (.ref f11)=true) (F12:Fun K "signs_at" "Rule.signs_at" jy f12 fd12) (fn12:PySem.W.isFn K (.ref f12)=true) (F13:Fun K "marked" "Rule.marked" kq f13 fd13) (fn13:PySem.W.isFn K (.ref f13)=true) (F14:Fun K "number_in" "number_in" lI f14 fd14) (F15:Fun K "place" "Puzzle.place" jS f15 fd15) (fn15:PySem.W.isFn K (.ref f15)=true) (F16:Fun K "rules" "Puzzle.rules" jT f16 fd16) (fn16:PySem.W.isFn K (.ref f16)=true) (F17:Fun K "_law_cell_at" "_law_cell_at" jU f17 fd17) (F18:Fun K "_law_order" "_law_order" k4 f18 fd18) (F19:Fun K "_law_floor" "_law_floor" k5 f19 fd19) (F20:Fun K "_law_bit" "_law_bit" mC f20 fd20) (F21:Fun K "_law_beside" "_law_beside" kr f21 fd21) (F22:Fun K "is_from_one_to" "is_from_one_to" iL f22 fd22) (F23:Fun K "beside" "beside" pq f23 fd23) (F24:Fun K "is_corner" "is_corner" lJ f24 fd24) (F25:Fun K "signs_in" "signs_in" mD f25 fd25) (F26:Fun K "is_cell" "is_cell" nv f26 fd26) (F27:Fun K "goes_by" "goes_by" nA f27 fd27) (F28:Fun K "others" "others" px f28 fd28) (F29:Fun K "with_each_sign" "with_each_sign" iM f29 fd29) (F30:Fun K "holds" "Unlike.holds" jV f30 fd30) (fn30:PySem.W.isFn K (.ref f30)=true) (F31:Fun K "holds" "Sum.holds" lK f31 fd31) (fn31:PySem.W.isFn K (.ref f31)=true) (F32:Fun K "holds" "Rising.holds" jW f32 fd32) (fn32:PySem.W.isFn K (.ref f32)=true) (F33:Fun K "holds" "Seen.holds" k6 f33 fd33) (fn33:PySem.W.isFn K (.ref f33)=true) (F34:Fun K "holds" "Count.holds" kt f34 fd34) (fn34:PySem.W.isFn K (.ref f34)=true) (F35:Fun K "number_within" "number_within" jz f35 fd35) (F36:Fun K "is_filling" "is_filling" k7 f36 fd36) (F37:Fun K "_law_masks" "_law_masks" la f37 fd37) (F38:Fun K "_law_joined" "_law_joined" ku f38 fd38) (F39:Fun K "_law_rule" "_law_rule" lL f39 fd39) (F40:Fun K "_law_clues" "_law_clues" lc f40 fd40) (F41:Fun K "_law_thought" "_law_thought" jX f41 fd41) (F42:Fun K "floor_of" "floor_of" mE f42 fd42) (F43:Fun K "squares" "squares" nD f43 fd43) (F44:Fun K "reached" "reached" nE f44 fd44) (F45:Fun K "ways" "ways" uV f45 fd45) (F46:Fun K "is_sign" "is_sign" nF f46 fd46) (F47:Fun K "has_its_rule" "has_its_rule" jY f47 fd47) (F48:Fun K "has_two_beside" "Ring.has_two_beside" dy f48 fd48) (fn48:PySem.W.isFn K (.ref f48)=true) (F49:Fun K "first_within" "first_within" jZ f49 fd49) (F50:Fun K "told_cells" "told_cells" ld f50 fd50) (F51:Fun K "rule_by" "rule_by" nG f51 fd51) (F52:Fun K "checked_clues" "checked_clues" jA f52 fd52) (F53:Fun K "_law_region" "_law_region" kx f53 fd53) (F54:Fun K "is_formed" "is_formed" lN f54 fd54) (F55:Fun K "is_joined" "Joined.is_joined" fX f55 fd55) (fn55:PySem.W.isFn K (.ref f55)=true) (F56:Fun K "holds" "NoSquare.holds" iN f56 fd56) (fn56:PySem.W.isFn K (.ref f56)=true) (F57:Fun K "cells_of" "cells_of" mF f57 fd57) (F58:Fun K "checked_floor" "checked_floor" jB f58 fd58) (F59:Fun K "_law_met" "_law_met" mG f59 fd59) (F60:Fun K "holds" "Joined.holds" j2 f60 fd60) (fn60:PySem.W.isFn K (.ref f60)=true) (F61:Fun K "holds" "Ring.holds" lf f61 fd61) (fn61:PySem.W.isFn K (.ref f61)=true) (F62:Fun K "read_rule" "read_rule" lO f62 fd62) (F63:Fun K "_law_due" "_law_due" mH f63 fd63) (F64:Fun K "ways_strikes" "ways_strikes" j3 f64 fd64) (F65:Fun K "read_rules" "read_rules" lg f65 fd65) (F66:Fun K "strikes_by_number" "strikes_by_number" ft f66 fd66) (F67:Fun K "__init__" "Puzzle.__init__" gG f67 fd67) (fn67:PySem.W.isFn K (.ref f67)=true) (F68:Fun K "strikes" "strikes" nJ f68 fd68) (F69:Fun K "allowed" "allowed" nK f69 fd69) (F70:Fun K "law" "law" nX f70 fd70) (EW:PySem.W.makesIn K BS=true) (EX:PySem.W.keepIn K (.ref BS)=true) (EY:PySem.W.plainGet K BS Str.empty=true) (EZ:PySem.W.hasDictIn K BS=true) (E2:PySem.W.plainOver K BS=true) (E3:PySem.W.findIn K (.ref BS) "__setattr__"=some (some (.builtin "object.__setattr__"))) (Hu:PySem.W.makesIn K B2=true) (Hv:PySem.W.keepIn K (.ref B2)=true) (Hw:PySem.W.plainGet K B2 Str.empty=true) (Hx:PySem.W.hasDictIn K B2=true) (Hy:PySem.W.plainOver K B2=true) (Hz:PySem.W.findIn K (.ref B2) "__setattr__"=some (some (.builtin "object.__setattr__"))) (E4:PySem.W.makesIn K BU=true) (E5:PySem.W.keepIn K (.ref BU)=true) (E6:PySem.W.plainGet K BU Str.empty=true) (E7:PySem.W.hasDictIn K BU=true) (E8:PySem.W.plainOver K BU=true) (E9:PySem.W.findIn K (.ref BU) "__setattr__"=some (some (.builtin "object.__setattr__"))) (GS:PySem.W.makesIn K BZ=true) (GT:PySem.W.keepIn K (.ref BZ)=true) (GU:PySem.W.plainGet K BZ Str.empty=true) (GV:PySem.W.hasDictIn K BZ=true) (GW:PySem.W.plainOver K BZ=true) (GX:PySem.W.findIn K (.ref BZ) "__setattr__"=some (some (.builtin "object.__setattr__"))) (Ga:PySem.W.makesIn K BW=true) (Gb:PySem.W.keepIn K (.ref BW)=true) (Gc:PySem.W.plainGet K BW Str.empty=true) (Gd:PySem.W.hasDictIn K BW=true) (Ge:PySem.W.plainOver K BW=true) (Gf:PySem.W.findIn K (.ref BW) "__setattr__"=some (some (.builtin "object.__setattr__"))) (Fa:PySem.W.makesIn K BT=true) (Fb:PySem.W.keepIn K (.ref BT)=true) (Fc:PySem.W.plainGet K BT Str.empty=true) (Fd:PySem.W.hasDictIn K BT=true) (Fe:PySem.W.plainOver K BT=true) (Ff:PySem.W.findIn K (.ref BT) "__setattr__"=some (some (.builtin "object.__setattr__"))) (Es:PySem.W.makesIn K BR=true) (Et:PySem.W.keepIn K (.ref BR)=true) (Eu:PySem.W.plainGet K BR Str.empty=true) (Ev:PySem.W.hasDictIn K BR=true) (Ew:PySem.W.plainOver K BR=true) (Ex:PySem.W.findIn K (.ref BR) "__setattr__"=some (some (.builtin "object.__setattr__"))) (GY:PySem.W.makesIn K BX=true) (GZ:PySem.W.keepIn K (.ref BX)=true) (G0:PySem.W.plainGet K BX Str.empty=true) (G1:PySem.W.hasDictIn K BX=true) (G2:PySem.W.plainOver K BX=true) (G3:PySem.W.findIn K (.ref BX) "__setattr__"=some (some (.builtin "object.__setattr__"))) (Fg:PySem.W.makesIn K BY=true) (Fh:PySem.W.keepIn K (.ref BY)=true) (Fi:PySem.W.plainGet K BY Str.empty=true) (Fj:PySem.W.hasDictIn K BY=true) (Fk:PySem.W.plainOver K BY=true) (Fl:PySem.W.findIn K (.ref BY) "__setattr__"=some (some (.builtin "object.__setattr__"))) (CF:PySem.W.findIn K (.ref BS) "amount"=some none) (Dm:PySem.W.findIn K (.ref B2) "amount"=some none) (CG:PySem.W.findIn K (.ref BU) "amount"=some none) (C4:PySem.W.findIn K (.ref BZ) "amount"=some none) (CM:PySem.W.findIn K (.ref BW) "amount"=some none) (CH:PySem.W.findIn K (.ref BT) "amount"=some none) (Ca:PySem.W.findIn K (.ref BR) "amount"=some none) (C5:PySem.W.findIn K (.ref BX) "amount"=some none) (CN:PySem.W.findIn K (.ref BS) "cells"=some none) (DB:PySem.W.findIn K (.ref B2) "cells"=some none) (CO:PySem.W.findIn K (.ref BU) "cells"=some none) (Dn:PySem.W.findIn K (.ref BZ) "cells"=some none) (C6:PySem.W.findIn K (.ref BW) "cells"=some none) (B8:PySem.W.findIn K (.ref BT) "cells"=some none) (Ce:PySem.W.findIn K (.ref BR) "cells"=some none) (CC:PySem.W.findIn K (.ref BX) "cells"=some none) (CP:PySem.W.findIn K (.ref BS) "floor"=some none) (DC:PySem.W.findIn K (.ref B2) "floor"=some none) (CQ:PySem.W.findIn K (.ref BU) "floor"=some none) (Do:PySem.W.findIn K (.ref BZ) "floor"=some none) (C7:PySem.W.findIn K (.ref BW) "floor"=some none) (B9:PySem.W.findIn K (.ref BT) "floor"=some none) (Cf:PySem.W.findIn K (.ref BR) "floor"=some none) (CD:PySem.W.findIn K (.ref BX) "floor"=some none) (C8:PySem.W.findIn K (.ref BS) "mark"=some none) (DN:PySem.W.findIn K (.ref B2) "mark"=some none) (C9:PySem.W.findIn K (.ref BU) "mark"=some none) (DD:PySem.W.findIn K (.ref BZ) "mark"=some none) (Dp:PySem.W.findIn K (.ref BW) "mark"=some none) (Cb:PySem.W.findIn K (.ref BT) "mark"=some none) (CI:PySem.W.findIn K (.ref BR) "mark"=some none) (CL:PySem.W.findIn K (.ref BX) "mark"=some none) (CS:PySem.W.findIn K (.ref BS) "words"=some none) (DE:PySem.W.findIn K (.ref B2) "words"=some none) (CT:PySem.W.findIn K (.ref BU) "words"=some none) (Dq:PySem.W.findIn K (.ref BZ) "words"=some none) (Da:PySem.W.findIn K (.ref BW) "words"=some none) (CU:PySem.W.findIn K (.ref BT) "words"=some none) (Cg:PySem.W.findIn K (.ref BR) "words"=some none) (Dr:PySem.W.findIn K (.ref BX) "words"=some none) (CV:PySem.W.findIn K (.ref BY) "floor"=some none) (CW:PySem.W.findIn K (.ref BY) "given"=some none) (Db:PySem.W.findIn K (.ref BY) "laws"=some none) (Gg:PySem.W.nsIn K mainGlobals "KINDS"=some (some (.ref GK))) (Gh:K.lookup GK=some ⟨.type "tuple",HY,.seq #[.str (tx [99,108,117,101]) Ib,.str (tx [111,110,108,121]) Ic,.str (tx [112,108,97,99,101]) Id,.str (tx [99,111,117,110,116]) Ie,.str (tx [115,116,101,112]) Ig,.str (tx [115,117,109]) Ih,.str (tx [115,113,117,97,114,101]) t6_KINDS,.str (tx [114,101,97,99,104]) t7_KINDS,.str (tx [116,117,114,110]) t8_KINDS,.str (tx [112,97,105,114]) t9_KINDS,.str (tx [119,97,121,115]) t10_KINDS] HZ,Ia⟩) (DF:PySem.W.nsIn K mainGlobals "LINE_KINDS"=some (some (.ref DM))) (DG:K.lookup DM=some ⟨.type "tuple",HA,.seq #[.str (tx [99,108,117,101]) HD,.str (tx [111,110,108,121]) HE,.str (tx [112,108,97,99,101]) HF,.str (tx [115,116,101,112]) HG,.str (tx [112,97,105,114]) HH] HB,HC⟩) (Dc:PySem.W.nsIn K mainGlobals "NUMBER_KINDS"=some (some (.ref Dk))) (Dd:K.lookup Dk=some ⟨.type "tuple",G5,.seq #[.str (tx [99,111,117,110,116]) G8,.str (tx [115,117,109]) G9,.str (tx [119,97,121,115]) Ha] G6,G7⟩) (De:PySem.W.nsIn K mainGlobals "OF_ALL_CELLS"=some (some (.ref Dl))) (Df:K.lookup Dl=some ⟨.type "tuple",Hb,.seq #[.str (tx [106,111,105,110,101,100]) He,.str (tx [110,111,115,113,117,97,114,101]) Hf,.str (tx [114,105,110,103]) Hg] Hc,Hd⟩) (Ds:PySem.W.nsIn K mainGlobals "WITH_NUMBER"=some (some (.ref DA))) (Dt:K.lookup DA=some ⟨.type "tuple",Hl,.seq #[.str (tx [115,117,109]) Ho,.str (tx [115,101,101,110]) Hq,.str (tx [99,111,117,110,116]) Hr] Hm,Hn⟩) (DO:PySem.W.nsIn K mainGlobals "WITH_SIGN"=some (some (.ref Ep))) (DP:K.lookup Ep=some ⟨.type "tuple",HN,.seq #[.str (tx [99,111,117,110,116]) HR,.str (tx [106,111,105,110,101,100]) HS,.str (tx [110,111,115,113,117,97,114,101]) HU,.str (tx [114,105,110,103]) HV] HP,HQ⟩) (CY:PySem.W.nsIn K mainGlobals "RULES_OF_KIND"=some (some (.ref C3))) (CZ:K.lookup C3=some ⟨.type "dict",none,.dict #[⟨DT,.str (tx [111,110,108,121]) Gj,.ref DU⟩,⟨DW,.str (tx [112,108,97,99,101]) Gm,.ref DX⟩,⟨DY,.str (tx [99,111,117,110,116]) Go,.ref DZ⟩,⟨D0,.str (tx [115,116,101,112]) Gq,.ref D1⟩,⟨D2,.str (tx [115,117,109]) Gs,.ref D3⟩,⟨D4,.str (tx [115,113,117,97,114,101]) Gv,.ref D5⟩,⟨D6,.str (tx [114,101,97,99,104]) Gx,.ref D7⟩,⟨D8,.str (tx [116,117,114,110]) Gz,.ref D9⟩,⟨Ea,.str (tx [112,97,105,114]) GB,.ref Eb⟩] GL,#[]⟩) (Ch:K.lookup DU=some ⟨.type "tuple",FG,.seq #[.str (tx [117,110,108,105,107,101]) Fn] Gk,FH⟩) (Ci:DT=hashStr w (tx [111,110,108,121])) (Cj:K.lookup DX=some ⟨.type "tuple",FJ,.seq #[.str (tx [117,110,108,105,107,101]) Fo] Gn,FK⟩) (Ck:DW=hashStr w (tx [112,108,97,99,101])) (Cm:K.lookup DZ=some ⟨.type "tuple",FL,.seq #[.str (tx [99,111,117,110,116]) Fp] Gp,FM⟩) (Cn:DY=hashStr w (tx [99,111,117,110,116])) (Cp:K.lookup D1=some ⟨.type "tuple",FN,.seq #[.str (tx [114,105,115,105,110,103]) Fq] Gr,FO⟩) (Cq:D0=hashStr w (tx [115,116,101,112])) (Cr:K.lookup D3=some ⟨.type "tuple",FP,.seq #[.str (tx [115,117,109]) Fr] Gu,FQ⟩) (Cs:D2=hashStr w (tx [115,117,109])) (Ct:K.lookup D5=some ⟨.type "tuple",FR,.seq #[.str (tx [110,111,115,113,117,97,114,101]) Fs] Gw,FS⟩) (Cu:D4=hashStr w (tx [115,113,117,97,114,101])) (Cv:K.lookup D7=some ⟨.type "tuple",FT,.seq #[.str (tx [106,111,105,110,101,100]) Ft,.str (tx [114,105,110,103]) Fu] Gy,FU⟩) (Cw:D6=hashStr w (tx [114,101,97,99,104])) (Cy:K.lookup D9=some ⟨.type "tuple",FV,.seq #[.str (tx [114,105,110,103]) Fv] GA,FW⟩) (Cz:D8=hashStr w (tx [116,117,114,110])) (CA:K.lookup Eb=some ⟨.type "tuple",FX,.seq #[.str (tx [117,110,108,105,107,101]) Fw] GC,FY⟩) (CB:Ea=hashStr w (tx [112,97,105,114])) (Fm:PySem.W.nsIn K mainGlobals "FIGURES"=some (some (.str (tx [48,49,50,51,52,53,54,55,56,57]) tk_FIGURES))) (DQ:PySem.W.nsIn K mainGlobals "MOST_CELLS"=some (some (.int 16 tk_MOST_CELLS))) (Du:PySem.W.nsIn K mainGlobals "MOST_FIGURES"=some (some (.int 9 tk_MOST_FIGURES))) (DH:PySem.W.nsIn K mainGlobals "MOST_NUMBER"=some (some (.int 99 tk_MOST_NUMBER))) (DR:PySem.W.nsIn K mainGlobals "MOST_RULES"=some (some (.int 12 tk_MOST_RULES))) (Ey:PySem.W.nsIn K mainGlobals "MOST_SIDE"=some (some (.int 6 tk_MOST_SIDE))) (DS:PySem.W.nsIn K mainGlobals "MOST_SIGNS"=some (some (.int 6 tk_MOST_SIGNS))) (Ez:PySem.W.nsIn K mainGlobals "MOST_WAYS"=some (some (.int 32 tk_MOST_WAYS))) (z_len:PySem.W.nsIn K mainGlobals "len"=some none) (z_abs:PySem.W.nsIn K mainGlobals "abs"=some none) (z_min:PySem.W.nsIn K mainGlobals "min"=some none) (z_max:PySem.W.nsIn K mainGlobals "max"=some none) (z_sorted:PySem.W.nsIn K mainGlobals "sorted"=some none) (z_any:PySem.W.nsIn K mainGlobals "any"=some none) (z_isinstance:PySem.W.nsIn K mainGlobals "isinstance"=some none) (z_list:PySem.W.nsIn K mainGlobals "list"=some none) (z_int:PySem.W.nsIn K mainGlobals "int"=some none) (z_bool:PySem.W.nsIn K mainGlobals "bool"=some none) (z_str:PySem.W.nsIn K mainGlobals "str"=some none) (z_tuple:PySem.W.nsIn K mainGlobals "tuple"=some none) (z_reversed:PySem.W.nsIn K mainGlobals "reversed"=some none) (z_set:PySem.W.nsIn K mainGlobals "set"=some none) (z_range:PySem.W.nsIn K mainGlobals "range"=some none) (z_zip:PySem.W.nsIn K mainGlobals "zip"=some none) (z_all:PySem.W.nsIn K mainGlobals "all"=some none) (z_sum:PySem.W.nsIn K mainGlobals "sum"=some none) (z_enumerate:PySem.W.nsIn K mainGlobals "enumerate"=some none):
  ∃ fd:FuncData,(∀ (s:Shared) (v:Value),BindsTo s fd ⟨[v],[]⟩ [("_law_script",v)])/\∀ base:Heap,K.In base->base.Ns mainGlobals mg->FnOk l.prog w K mg base CX0 10 fa fd ["_law_script"] (rA K):=by
 have e:=hfa.symm.trans (PySem.W.mg_of X G a70)
 cases e
 have B:Bt2 mg:=⟨⟨PySem.W.mg_none_of X G z_len,PySem.W.mg_none_of X G z_abs,PySem.W.mg_none_of X G z_min,PySem.W.mg_none_of X G z_max,PySem.W.mg_none_of X G z_sorted,PySem.W.mg_none_of X G z_any,PySem.W.mg_none_of X G z_isinstance,PySem.W.mg_none_of X G z_list,PySem.W.mg_none_of X G z_int,PySem.W.mg_none_of X G z_bool,PySem.W.mg_none_of X G z_str,PySem.W.mg_none_of X G z_tuple,PySem.W.mg_none_of X G z_reversed,PySem.W.mg_none_of X G z_set,PySem.W.mg_none_of X G z_range,PySem.W.mg_none_of X G z_zip⟩,PySem.W.mg_none_of X G z_all,PySem.W.mg_none_of X G z_sum,PySem.W.mg_none_of X G z_enumerate⟩
 obtain ⟨oc,od,kV,doc,pm,an,cdv,ct,osl,rfl,lk,hcd⟩:=F70.ex
 refine ⟨PySem.W.fnOf "law" "law" (bA nX) (bt nX) (ah nX) .none kV doc pm an cdv ct,fun s v=>.of_eq rfl,fun base _ _=>?_⟩
 let c:RCl RK:=mkC BS B2 BU BZ BW BT BR BX
 let d:RCl PzK:=mkD BY
 have Fx:=PySem.W.mg_of X G Fm
 have Eg:=PySem.W.mg_of X G DQ
 have Dv:=PySem.W.mg_of X G Du
 have DL:=PySem.W.mg_of X G DH
 have Ek:=PySem.W.mg_of X G DR
 have DI:=PySem.W.mg_of X G Ey
 have Eh:=PySem.W.mg_of X G DS
 have EG:=PySem.W.mg_of X G Ez
 have cls_Unlike:Cls K BS:=⟨EY,EZ,E2,E3⟩
 have cls_Sum:Cls K B2:=⟨Hw,Hx,Hy,Hz⟩
 have cls_Rising:Cls K BU:=⟨E6,E7,E8,E9⟩
 have cls_Seen:Cls K BZ:=⟨GU,GV,GW,GX⟩
 have cls_Count:Cls K BW:=⟨Gc,Gd,Ge,Gf⟩
 have cls_Joined:Cls K BT:=⟨Fc,Fd,Fe,Ff⟩
 have cls_NoSquare:Cls K BR:=⟨Eu,Ev,Ew,Ex⟩
 have cls_Ring:Cls K BX:=⟨G0,G1,G2,G3⟩
 have cls_Puzzle:Cls K BY:=⟨Fi,Fj,Fk,Fl⟩
 have FK_c_amount:FldK K c "amount":=⟨fun i hi=>by cases i with | Rule=>exact (Bool.false_ne_true hi).elim | Unlike=>exact ⟨cls_Unlike,CF⟩ | Sum=>exact ⟨cls_Sum,Dm⟩ | Rising=>exact ⟨cls_Rising,CG⟩ | Seen=>exact ⟨cls_Seen,C4⟩ | Count=>exact ⟨cls_Count,CM⟩ | Joined=>exact ⟨cls_Joined,CH⟩ | NoSquare=>exact ⟨cls_NoSquare,Ca⟩ | Ring=>exact ⟨cls_Ring,C5⟩⟩
 have FK_c_cells:FldK K c "cells":=⟨fun i hi=>by cases i with | Rule=>exact (Bool.false_ne_true hi).elim | Unlike=>exact ⟨cls_Unlike,CN⟩ | Sum=>exact ⟨cls_Sum,DB⟩ | Rising=>exact ⟨cls_Rising,CO⟩ | Seen=>exact ⟨cls_Seen,Dn⟩ | Count=>exact ⟨cls_Count,C6⟩ | Joined=>exact ⟨cls_Joined,B8⟩ | NoSquare=>exact ⟨cls_NoSquare,Ce⟩ | Ring=>exact ⟨cls_Ring,CC⟩⟩
 have FK_c_floor:FldK K c "floor":=⟨fun i hi=>by cases i with | Rule=>exact (Bool.false_ne_true hi).elim | Unlike=>exact ⟨cls_Unlike,CP⟩ | Sum=>exact ⟨cls_Sum,DC⟩ | Rising=>exact ⟨cls_Rising,CQ⟩ | Seen=>exact ⟨cls_Seen,Do⟩ | Count=>exact ⟨cls_Count,C7⟩ | Joined=>exact ⟨cls_Joined,B9⟩ | NoSquare=>exact ⟨cls_NoSquare,Cf⟩ | Ring=>exact ⟨cls_Ring,CD⟩⟩
 have FK_c_mark:FldK K c "mark":=⟨fun i hi=>by cases i with | Rule=>exact (Bool.false_ne_true hi).elim | Unlike=>exact ⟨cls_Unlike,C8⟩ | Sum=>exact ⟨cls_Sum,DN⟩ | Rising=>exact ⟨cls_Rising,C9⟩ | Seen=>exact ⟨cls_Seen,DD⟩ | Count=>exact ⟨cls_Count,Dp⟩ | Joined=>exact ⟨cls_Joined,Cb⟩ | NoSquare=>exact ⟨cls_NoSquare,CI⟩ | Ring=>exact ⟨cls_Ring,CL⟩⟩
 have FK_c_words:FldK K c "words":=⟨fun i hi=>by cases i with | Rule=>exact (Bool.false_ne_true hi).elim | Unlike=>exact ⟨cls_Unlike,CS⟩ | Sum=>exact ⟨cls_Sum,DE⟩ | Rising=>exact ⟨cls_Rising,CT⟩ | Seen=>exact ⟨cls_Seen,Dq⟩ | Count=>exact ⟨cls_Count,Da⟩ | Joined=>exact ⟨cls_Joined,CU⟩ | NoSquare=>exact ⟨cls_NoSquare,Cg⟩ | Ring=>exact ⟨cls_Ring,Dr⟩⟩
 have FK_d_floor:FldK K d "floor":=⟨fun i hi=>by cases i; exact ⟨cls_Puzzle,CV⟩⟩
 have FK_d_given:FldK K d "given":=⟨fun i hi=>by cases i; exact ⟨cls_Puzzle,CW⟩⟩
 have FK_d_laws:FldK K d "laws":=⟨fun i hi=>by cases i; exact ⟨cls_Puzzle,Db⟩⟩
 have G_KINDS:GTup K mg "KINDS" mj:=⟨GK,_,_,_,PySem.W.mg_of X G Gg,Gh,rfl,rfl,Nat.le_of_lt (aD (by show (11:Nat)<=1000; decide)),(.cons ⟨_,rfl⟩ (.cons ⟨_,rfl⟩ (.cons ⟨_,rfl⟩ (.cons ⟨_,rfl⟩ (.cons ⟨_,rfl⟩ (.cons ⟨_,rfl⟩ (.cons ⟨_,rfl⟩ (.cons ⟨_,rfl⟩ (.cons ⟨_,rfl⟩ (.cons ⟨_,rfl⟩ (.cons ⟨_,rfl⟩ .nil)))))))))))⟩
 have G_LINE_KINDS:GTup K mg "LINE_KINDS" ij:=⟨DM,_,_,_,PySem.W.mg_of X G DF,DG,rfl,rfl,Nat.le_of_lt (aD (by show (5:Nat)<=1000; decide)),(.cons ⟨_,rfl⟩ (.cons ⟨_,rfl⟩ (.cons ⟨_,rfl⟩ (.cons ⟨_,rfl⟩ (.cons ⟨_,rfl⟩ .nil)))))⟩
 have G_NUMBER_KINDS:GTup K mg "NUMBER_KINDS" fG:=⟨Dk,_,_,_,PySem.W.mg_of X G Dc,Dd,rfl,rfl,Nat.le_of_lt (aD (by show (3:Nat)<=1000; decide)),(.cons ⟨_,rfl⟩ (.cons ⟨_,rfl⟩ (.cons ⟨_,rfl⟩ .nil)))⟩
 have G_OF_ALL_CELLS:GTup K mg "OF_ALL_CELLS" fv:=⟨Dl,_,_,_,PySem.W.mg_of X G De,Df,rfl,rfl,Nat.le_of_lt (aD (by show (3:Nat)<=1000; decide)),(.cons ⟨_,rfl⟩ (.cons ⟨_,rfl⟩ (.cons ⟨_,rfl⟩ .nil)))⟩
 have G_WITH_NUMBER:GTup K mg "WITH_NUMBER" gm:=⟨DA,_,_,_,PySem.W.mg_of X G Ds,Dt,rfl,rfl,Nat.le_of_lt (aD (by show (3:Nat)<=1000; decide)),(.cons ⟨_,rfl⟩ (.cons ⟨_,rfl⟩ (.cons ⟨_,rfl⟩ .nil)))⟩
 have G_WITH_SIGN:GTup K mg "WITH_SIGN" fT:=⟨Ep,_,_,_,PySem.W.mg_of X G DO,DP,rfl,rfl,Nat.le_of_lt (aD (by show (4:Nat)<=1000; decide)),(.cons ⟨_,rfl⟩ (.cons ⟨_,rfl⟩ (.cons ⟨_,rfl⟩ (.cons ⟨_,rfl⟩ .nil))))⟩
 have Dh:GDict w K mg "RULES_OF_KIND" gd_RULES_OF_KIND:=⟨C3,_,_,_,PySem.W.mg_of X G CY,CZ,⟨rfl,rfl,rfl⟩,rfl,(.cons Ci Ch rfl rfl (Nat.le_of_lt (aD (by show (1:Nat)<=1000; decide))) (.cons ⟨_,rfl⟩ .nil) (.cons Ck Cj rfl rfl (Nat.le_of_lt (aD (by show (1:Nat)<=1000; decide))) (.cons ⟨_,rfl⟩ .nil) (.cons Cn Cm rfl rfl (Nat.le_of_lt (aD (by show (1:Nat)<=1000; decide))) (.cons ⟨_,rfl⟩ .nil) (.cons Cq Cp rfl rfl (Nat.le_of_lt (aD (by show (1:Nat)<=1000; decide))) (.cons ⟨_,rfl⟩ .nil) (.cons Cs Cr rfl rfl (Nat.le_of_lt (aD (by show (1:Nat)<=1000; decide))) (.cons ⟨_,rfl⟩ .nil) (.cons Cu Ct rfl rfl (Nat.le_of_lt (aD (by show (1:Nat)<=1000; decide))) (.cons ⟨_,rfl⟩ .nil) (.cons Cw Cv rfl rfl (Nat.le_of_lt (aD (by show (2:Nat)<=1000; decide))) (.cons ⟨_,rfl⟩ (.cons ⟨_,rfl⟩ .nil)) (.cons Cz Cy rfl rfl (Nat.le_of_lt (aD (by show (1:Nat)<=1000; decide))) (.cons ⟨_,rfl⟩ .nil) (.cons CB CA rfl rfl (Nat.le_of_lt (aD (by show (1:Nat)<=1000; decide))) (.cons ⟨_,rfl⟩ .nil) .nil))))))))),by decide+kernel⟩
 have B0:Cal l.prog w K mg base _ _ _ (a9 K):=lC (vm B F0) F0 (PySem.W.mg_of X G a0)
 have BV:Cal l.prog w K mg base _ _ _ (aS K):=lC (sK B F1) F1 (PySem.W.mg_of X G a1)
 have Dg:Cal l.prog w K mg base _ _ _ (cY K):=cH (wS B F2) F2 (PySem.W.mg_of X G a2)
 have ED:Cal l.prog w K mg base _ _ _ (dn K):=cH (uN B F3) F3 (PySem.W.mg_of X G a3)
 have GD:Cal l.prog w K mg base _ _ _ (iU K):=cH (yI B F4) F4 (PySem.W.mg_of X G a4)
 have FD:Cal l.prog w K mg base _ _ _ (gu K):=lC (wT B F5) F5 (PySem.W.mg_of X G a5)
 have EQ:Cal l.prog w K mg base _ _ _ (ff K):=cH (vn B F6) F6 (PySem.W.mg_of X G a6)
 have Cc:Cal l.prog w K mg base _ _ _ (bU K):=jQ (uO B F7) F7 (PySem.W.mg_of X G a7)
 have EE:Cal l.prog w K mg base _ _ _ (du K):=cH (uP B F8) F8 (PySem.W.mg_of X G a8)
 have bd9:Binds K fd9 ["self","floor","words","cells","amount","mark"] []:=BF F9
 have T9:FnOk l.prog w K mg base CX0 1 f9 fd9 _ (av K c):=pk (c:=c) B FK_c_amount FK_c_cells FK_c_floor FK_c_mark FK_c_words F9
 have GG:KCal l.prog w K mg base _ "Unlike" (c.A .Unlike) _ (av K c):=⟨f9,_,⟨EW,ES,fn9,EX⟩,T9,PySem.W.mg_of X G GM,bd9⟩
 have K_Sum:KCal l.prog w K mg base _ "Sum" (c.A .Sum) _ (av K c):=⟨f9,_,⟨Hu,Ht,fn9,Hv⟩,T9,PySem.W.mg_of X G q_Sum,bd9⟩
 have GF:KCal l.prog w K mg base _ "Rising" (c.A .Rising) _ (av K c):=⟨f9,_,⟨E4,ET,fn9,E5⟩,T9,PySem.W.mg_of X G GN,bd9⟩
 have HL:KCal l.prog w K mg base _ "Seen" (c.A .Seen) _ (av K c):=⟨f9,_,⟨GS,GQ,fn9,GT⟩,T9,PySem.W.mg_of X G HW,bd9⟩
 have Hi:KCal l.prog w K mg base _ "Count" (c.A .Count) _ (av K c):=⟨f9,_,⟨Ga,FZ,fn9,Gb⟩,T9,PySem.W.mg_of X G Hs,bd9⟩
 have GE:KCal l.prog w K mg base _ "Joined" (c.A .Joined) _ (av K c):=⟨f9,_,⟨Fa,EU,fn9,Fb⟩,T9,PySem.W.mg_of X G GO,bd9⟩
 have EL:KCal l.prog w K mg base _ "NoSquare" (c.A .NoSquare) _ (av K c):=⟨f9,_,⟨Es,Er,fn9,Et⟩,T9,PySem.W.mg_of X G ER,bd9⟩
 have HK:KCal l.prog w K mg base _ "Ring" (c.A .Ring) _ (av K c):=⟨f9,_,⟨GY,GR,fn9,GZ⟩,T9,PySem.W.mg_of X G HX,bd9⟩
 have bd10:Binds K fd10 ["self"] []:=qq F10
 have T10:FnOk l.prog w K mg base CX0 1 f10 fd10 _ (je K c):=uQ (c:=c) B FK_c_words F10
 have HJ:MCal l.prog w K mg base c c.ok 1 "name" ["self"] (nT K c):=⟨fun i hi=>by cases i with | Rule=>exact (Bool.false_ne_true hi).elim | Unlike=>exact ⟨f10,_,cls_Unlike,⟨a10_Unlike,fn10,F10.kp⟩,(T10.mono (by decide)).imp (fun vs H Q E h=>⟨.Unlike,h⟩),bd10⟩ | Sum=>exact ⟨f10,_,cls_Sum,⟨a10_Sum,fn10,F10.kp⟩,(T10.mono (by decide)).imp (fun vs H Q E h=>⟨.Sum,h⟩),bd10⟩ | Rising=>exact ⟨f10,_,cls_Rising,⟨a10_Rising,fn10,F10.kp⟩,(T10.mono (by decide)).imp (fun vs H Q E h=>⟨.Rising,h⟩),bd10⟩ | Seen=>exact ⟨f10,_,cls_Seen,⟨a10_Seen,fn10,F10.kp⟩,(T10.mono (by decide)).imp (fun vs H Q E h=>⟨.Seen,h⟩),bd10⟩ | Count=>exact ⟨f10,_,cls_Count,⟨a10_Count,fn10,F10.kp⟩,(T10.mono (by decide)).imp (fun vs H Q E h=>⟨.Count,h⟩),bd10⟩ | Joined=>exact ⟨f10,_,cls_Joined,⟨a10_Joined,fn10,F10.kp⟩,(T10.mono (by decide)).imp (fun vs H Q E h=>⟨.Joined,h⟩),bd10⟩ | NoSquare=>exact ⟨f10,_,cls_NoSquare,⟨a10_NoSquare,fn10,F10.kp⟩,(T10.mono (by decide)).imp (fun vs H Q E h=>⟨.NoSquare,h⟩),bd10⟩ | Ring=>exact ⟨f10,_,cls_Ring,⟨a10_Ring,fn10,F10.kp⟩,(T10.mono (by decide)).imp (fun vs H Q E h=>⟨.Ring,h⟩),bd10⟩⟩
 have bd11:Binds K fd11 ["self"] []:=qq F11
 have T11:FnOk l.prog w K mg base CX0 1 f11 fd11 _ (ib K c):=sL (c:=c) B FK_c_cells F11
 have Ed:MCal l.prog w K mg base c c.ok 1 "spots" ["self"] (jN K c):=⟨fun i hi=>by cases i with | Rule=>exact (Bool.false_ne_true hi).elim | Unlike=>exact ⟨f11,_,cls_Unlike,⟨a11_Unlike,fn11,F11.kp⟩,(T11.mono (by decide)).imp (fun vs H Q E h=>⟨.Unlike,h⟩),bd11⟩ | Sum=>exact ⟨f11,_,cls_Sum,⟨a11_Sum,fn11,F11.kp⟩,(T11.mono (by decide)).imp (fun vs H Q E h=>⟨.Sum,h⟩),bd11⟩ | Rising=>exact ⟨f11,_,cls_Rising,⟨a11_Rising,fn11,F11.kp⟩,(T11.mono (by decide)).imp (fun vs H Q E h=>⟨.Rising,h⟩),bd11⟩ | Seen=>exact ⟨f11,_,cls_Seen,⟨a11_Seen,fn11,F11.kp⟩,(T11.mono (by decide)).imp (fun vs H Q E h=>⟨.Seen,h⟩),bd11⟩ | Count=>exact ⟨f11,_,cls_Count,⟨a11_Count,fn11,F11.kp⟩,(T11.mono (by decide)).imp (fun vs H Q E h=>⟨.Count,h⟩),bd11⟩ | Joined=>exact ⟨f11,_,cls_Joined,⟨a11_Joined,fn11,F11.kp⟩,(T11.mono (by decide)).imp (fun vs H Q E h=>⟨.Joined,h⟩),bd11⟩ | NoSquare=>exact ⟨f11,_,cls_NoSquare,⟨a11_NoSquare,fn11,F11.kp⟩,(T11.mono (by decide)).imp (fun vs H Q E h=>⟨.NoSquare,h⟩),bd11⟩ | Ring=>exact ⟨f11,_,cls_Ring,⟨a11_Ring,fn11,F11.kp⟩,(T11.mono (by decide)).imp (fun vs H Q E h=>⟨.Ring,h⟩),bd11⟩⟩
 have bd12:Binds K fd12 ["self","filling"] []:=iq F12
 have T12:FnOk l.prog w K mg base CX0 1 f12 fd12 _ (dQ K c):=pp (c:=c) B FK_c_cells F12
 have B3:MCal l.prog w K mg base c c.ok 1 "signs_at" ["self","filling"] (bv K c):=⟨fun i hi=>by cases i with | Rule=>exact (Bool.false_ne_true hi).elim | Unlike=>exact ⟨f12,_,cls_Unlike,⟨a12_Unlike,fn12,F12.kp⟩,(T12.mono (by decide)).imp (fun vs H Q E h=>⟨.Unlike,h⟩),bd12⟩ | Sum=>exact ⟨f12,_,cls_Sum,⟨a12_Sum,fn12,F12.kp⟩,(T12.mono (by decide)).imp (fun vs H Q E h=>⟨.Sum,h⟩),bd12⟩ | Rising=>exact ⟨f12,_,cls_Rising,⟨a12_Rising,fn12,F12.kp⟩,(T12.mono (by decide)).imp (fun vs H Q E h=>⟨.Rising,h⟩),bd12⟩ | Seen=>exact ⟨f12,_,cls_Seen,⟨a12_Seen,fn12,F12.kp⟩,(T12.mono (by decide)).imp (fun vs H Q E h=>⟨.Seen,h⟩),bd12⟩ | Count=>exact ⟨f12,_,cls_Count,⟨a12_Count,fn12,F12.kp⟩,(T12.mono (by decide)).imp (fun vs H Q E h=>⟨.Count,h⟩),bd12⟩ | Joined=>exact ⟨f12,_,cls_Joined,⟨a12_Joined,fn12,F12.kp⟩,(T12.mono (by decide)).imp (fun vs H Q E h=>⟨.Joined,h⟩),bd12⟩ | NoSquare=>exact ⟨f12,_,cls_NoSquare,⟨a12_NoSquare,fn12,F12.kp⟩,(T12.mono (by decide)).imp (fun vs H Q E h=>⟨.NoSquare,h⟩),bd12⟩ | Ring=>exact ⟨f12,_,cls_Ring,⟨a12_Ring,fn12,F12.kp⟩,(T12.mono (by decide)).imp (fun vs H Q E h=>⟨.Ring,h⟩),bd12⟩⟩
 have bd13:Binds K fd13 ["self","filling"] []:=iq F13
 have FK_c_cells_Joined:FldK K (mk1 c .Joined) "cells":=⟨fun i hi=>by cases i with | Rule=>exact (Bool.false_ne_true hi).elim | Unlike=>exact (Bool.false_ne_true hi).elim | Sum=>exact (Bool.false_ne_true hi).elim | Rising=>exact (Bool.false_ne_true hi).elim | Seen=>exact (Bool.false_ne_true hi).elim | Count=>exact (Bool.false_ne_true hi).elim | Joined=>exact ⟨cls_Joined,B8⟩ | NoSquare=>exact (Bool.false_ne_true hi).elim | Ring=>exact (Bool.false_ne_true hi).elim⟩
 have FK_c_mark_Joined:FldK K (mk1 c .Joined) "mark":=⟨fun i hi=>by cases i with | Rule=>exact (Bool.false_ne_true hi).elim | Unlike=>exact (Bool.false_ne_true hi).elim | Sum=>exact (Bool.false_ne_true hi).elim | Rising=>exact (Bool.false_ne_true hi).elim | Seen=>exact (Bool.false_ne_true hi).elim | Count=>exact (Bool.false_ne_true hi).elim | Joined=>exact ⟨cls_Joined,Cb⟩ | NoSquare=>exact (Bool.false_ne_true hi).elim | Ring=>exact (Bool.false_ne_true hi).elim⟩
 have T13_Joined:FnOk l.prog w K mg base CX0 1 f13 _ ["self","filling"] (cz K (mk1 c .Joined)):=jR (c:=(mk1 c .Joined)) B FK_c_cells_Joined FK_c_mark_Joined F13
 have Hh:MCal l.prog w K mg base (mk1 c .Joined) (mk1 c .Joined).ok 1 "marked" ["self","filling"] (bG K (mk1 c .Joined)):=⟨fun i hi=>by cases i with | Rule=>exact (Bool.false_ne_true hi).elim | Unlike=>exact (Bool.false_ne_true hi).elim | Sum=>exact (Bool.false_ne_true hi).elim | Rising=>exact (Bool.false_ne_true hi).elim | Seen=>exact (Bool.false_ne_true hi).elim | Count=>exact (Bool.false_ne_true hi).elim | Joined=>exact ⟨f13,_,cls_Joined,⟨a13_Joined,fn13,F13.kp⟩,(T13_Joined.mono (by decide)).imp (fun vs H Q E h=>⟨.Joined,h⟩),bd13⟩ | NoSquare=>exact (Bool.false_ne_true hi).elim | Ring=>exact (Bool.false_ne_true hi).elim⟩
 have FK_c_cells_Ring:FldK K (mk1 c .Ring) "cells":=⟨fun i hi=>by cases i with | Rule=>exact (Bool.false_ne_true hi).elim | Unlike=>exact (Bool.false_ne_true hi).elim | Sum=>exact (Bool.false_ne_true hi).elim | Rising=>exact (Bool.false_ne_true hi).elim | Seen=>exact (Bool.false_ne_true hi).elim | Count=>exact (Bool.false_ne_true hi).elim | Joined=>exact (Bool.false_ne_true hi).elim | NoSquare=>exact (Bool.false_ne_true hi).elim | Ring=>exact ⟨cls_Ring,CC⟩⟩
 have FK_c_mark_Ring:FldK K (mk1 c .Ring) "mark":=⟨fun i hi=>by cases i with | Rule=>exact (Bool.false_ne_true hi).elim | Unlike=>exact (Bool.false_ne_true hi).elim | Sum=>exact (Bool.false_ne_true hi).elim | Rising=>exact (Bool.false_ne_true hi).elim | Seen=>exact (Bool.false_ne_true hi).elim | Count=>exact (Bool.false_ne_true hi).elim | Joined=>exact (Bool.false_ne_true hi).elim | NoSquare=>exact (Bool.false_ne_true hi).elim | Ring=>exact ⟨cls_Ring,CL⟩⟩
 have T13_Ring:FnOk l.prog w K mg base CX0 1 f13 _ ["self","filling"] (cz K (mk1 c .Ring)):=jR (c:=(mk1 c .Ring)) B FK_c_cells_Ring FK_c_mark_Ring F13
 have HI:MCal l.prog w K mg base (mk1 c .Ring) (mk1 c .Ring).ok 1 "marked" ["self","filling"] (bG K (mk1 c .Ring)):=⟨fun i hi=>by cases i with | Rule=>exact (Bool.false_ne_true hi).elim | Unlike=>exact (Bool.false_ne_true hi).elim | Sum=>exact (Bool.false_ne_true hi).elim | Rising=>exact (Bool.false_ne_true hi).elim | Seen=>exact (Bool.false_ne_true hi).elim | Count=>exact (Bool.false_ne_true hi).elim | Joined=>exact (Bool.false_ne_true hi).elim | NoSquare=>exact (Bool.false_ne_true hi).elim | Ring=>exact ⟨f13,_,cls_Ring,⟨a13_Ring,fn13,F13.kp⟩,(T13_Ring.mono (by decide)).imp (fun vs H Q E h=>⟨.Ring,h⟩),bd13⟩⟩
 have T13:FnOk l.prog w K mg base CX0 1 f13 fd13 _ (cz K c):=jR (c:=c) B FK_c_cells FK_c_mark F13
 have B7:MCal l.prog w K mg base c c.ok 1 "marked" ["self","filling"] (bG K c):=⟨fun i hi=>by cases i with | Rule=>exact (Bool.false_ne_true hi).elim | Unlike=>exact ⟨f13,_,cls_Unlike,⟨a13_Unlike,fn13,F13.kp⟩,(T13.mono (by decide)).imp (fun vs H Q E h=>⟨.Unlike,h⟩),bd13⟩ | Sum=>exact ⟨f13,_,cls_Sum,⟨a13_Sum,fn13,F13.kp⟩,(T13.mono (by decide)).imp (fun vs H Q E h=>⟨.Sum,h⟩),bd13⟩ | Rising=>exact ⟨f13,_,cls_Rising,⟨a13_Rising,fn13,F13.kp⟩,(T13.mono (by decide)).imp (fun vs H Q E h=>⟨.Rising,h⟩),bd13⟩ | Seen=>exact ⟨f13,_,cls_Seen,⟨a13_Seen,fn13,F13.kp⟩,(T13.mono (by decide)).imp (fun vs H Q E h=>⟨.Seen,h⟩),bd13⟩ | Count=>exact ⟨f13,_,cls_Count,⟨a13_Count,fn13,F13.kp⟩,(T13.mono (by decide)).imp (fun vs H Q E h=>⟨.Count,h⟩),bd13⟩ | Joined=>exact ⟨f13,_,cls_Joined,⟨a13_Joined,fn13,F13.kp⟩,(T13.mono (by decide)).imp (fun vs H Q E h=>⟨.Joined,h⟩),bd13⟩ | NoSquare=>exact ⟨f13,_,cls_NoSquare,⟨a13_NoSquare,fn13,F13.kp⟩,(T13.mono (by decide)).imp (fun vs H Q E h=>⟨.NoSquare,h⟩),bd13⟩ | Ring=>exact ⟨f13,_,cls_Ring,⟨a13_Ring,fn13,F13.kp⟩,(T13.mono (by decide)).imp (fun vs H Q E h=>⟨.Ring,h⟩),bd13⟩⟩
 have EB:Cal l.prog w K mg base _ _ _ (dq K):=lC (uR B Fx Dv F14) F14 (PySem.W.mg_of X G a14)
 have bd15:Binds K fd15 ["self"] []:=qq F15
 have T15:FnOk l.prog w K mg base CX0 1 f15 fd15 _ (fC K c d):=qE (c:=c) (d:=d) B FK_d_floor F15
 have Hj:MCal l.prog w K mg base d d.ok 1 "place" ["self"] (mh K c d):=⟨fun i hi=>by cases i; exact ⟨f15,_,cls_Puzzle,⟨a15_Puzzle,fn15,F15.kp⟩,(T15.mono (by decide)).imp (fun vs H Q E h=>h),bd15⟩⟩
 have bd16:Binds K fd16 ["self"] []:=qq F16
 have T16:FnOk l.prog w K mg base CX0 1 f16 fd16 _ (fE K c d):=qF (c:=c) (d:=d) B FK_d_laws F16
 have Ee:MCal l.prog w K mg base d d.ok 1 "rules" ["self"] (jO K c d):=⟨fun i hi=>by cases i; exact ⟨f16,_,cls_Puzzle,⟨a16_Puzzle,fn16,F16.kp⟩,(T16.mono (by decide)).imp (fun vs H Q E h=>h),bd16⟩⟩
 have BQ:Cal l.prog w K mg base _ _ _ (aN K):=cH (qG B F17) F17 (PySem.W.mg_of X G a17)
 have Ef:Cal l.prog w K mg base _ _ _ (bX K):=cH (sM B F18) F18 (PySem.W.mg_of X G a18)
 have En:Cal l.prog w K mg base _ _ _ (bY K):=lC (sN B F19) F19 (PySem.W.mg_of X G a19)
 have B6:Cal l.prog w K mg base _ _ _ (bi K):=lC (vo B F20) F20 (PySem.W.mg_of X G a20)
 have B5:Cal l.prog w K mg base _ _ _ (bg K):=cH (rB B F21) F21 (PySem.W.mg_of X G a21)
 have B1:Cal l.prog w K mg base _ _ _ (aU K):=cH (om B B0 F22) F22 (PySem.W.mg_of X G a22)
 have Dw:Cal l.prog w K mg base _ _ _ (dB K):=cH (yJ B Dg F23) F23 (PySem.W.mg_of X G a23)
 have EC:Cal l.prog w K mg base _ _ _ (dm K):=cH (uS B Dg F24) F24 (PySem.W.mg_of X G a24)
 have CJ:Cal l.prog w K mg base _ _ _ (cr K):=lC (vp B GD F25) F25 (PySem.W.mg_of X G a25)
 have Fz:Cal l.prog w K mg base _ _ _ (gq K):=cH (wU B B0 BV F26) F26 (PySem.W.mg_of X G a26)
 have Fy:Cal l.prog w K mg base _ _ _ (gt K c):=cH (wV (c:=c) B HJ Dh F27) F27 (PySem.W.mg_of X G a27)
 have GI:Cal l.prog w K mg base _ _ _ (iV K c):=cH (yK (c:=c) B Ed F28) F28 (PySem.W.mg_of X G a28)
 have C0:Cal l.prog w K mg base _ _ _ (bB K):=jQ (on B Cc F29) F29 (PySem.W.mg_of X G a29)
 have bd30:Binds K fd30 ["self","filling"] []:=iq F30
 have T30:FnOk l.prog w K mg base CX0 2 f30 fd30 _ (fA K c):=qH (c:=c) B B3 F30
 have bd31:Binds K fd31 ["self","filling"] []:=iq F31
 have T31:FnOk l.prog w K mg base CX0 2 f31 fd31 _ (jm K c):=uT (c:=c) B FK_c_amount B3 F31
 have bd32:Binds K fd32 ["self","filling"] []:=iq F32
 have T32:FnOk l.prog w K mg base CX0 2 f32 fd32 _ (fI K c):=qI (c:=c) B B3 F32
 have bd33:Binds K fd33 ["self","filling"] []:=iq F33
 have T33:FnOk l.prog w K mg base CX0 2 f33 fd33 _ (ik K c):=sP (c:=c) B FK_c_amount B3 F33
 have bd34:Binds K fd34 ["self","filling"] []:=iq F34
 have T34:FnOk l.prog w K mg base CX0 2 f34 fd34 _ (gx K c):=rC (c:=c) B FK_c_amount B7 F34
 have B4:Cal l.prog w K mg base _ _ _ (bf K):=jQ (pA B EB F35) F35 (PySem.W.mg_of X G a35)
 have Ei:Cal l.prog w K mg base _ _ _ (cR K):=jQ (sQ B B0 BV F36) F36 (PySem.W.mg_of X G a36)
 have Eo:Cal l.prog w K mg base _ _ _ (b7 K):=cH (sR B B6 BQ F37) F37 (PySem.W.mg_of X G a37)
 have DJ:Cal l.prog w K mg base _ _ _ (bO K):=cH (rD B B5 F38) F38 (PySem.W.mg_of X G a38)
 have EJ:Cal l.prog w K mg base _ _ _ (cA K):=jQ (uU B BQ Ef F39) F39 (PySem.W.mg_of X G a39)
 have Em:Cal l.prog w K mg base _ _ _ (bZ K):=cH (sS B BQ F40) F40 (PySem.W.mg_of X G a40)
 have Dz:Cal l.prog w K mg base _ _ _ (bC K):=ze (qJ B BQ F41) F41 (PySem.W.mg_of X G a41)
 have EM:Cal l.prog w K mg base _ _ _ (fe K):=jQ (vq B B1 Eg DI Eh F42) F42 (PySem.W.mg_of X G a42)
 have FB:Cal l.prog w K mg base _ _ _ (gl K):=lC (wW B EC BV ED F43) F43 (PySem.W.mg_of X G a43)
 have EA:Cal l.prog w K mg base _ _ _ (gz K):=jQ (wX B Dw F44) F44 (PySem.W.mg_of X G a44)
 have HM:Cal l.prog w K mg base _ _ _ (kQ K):=lC (Aq B CJ F45) F45 (PySem.W.mg_of X G a45)
 have FA:Cal l.prog w K mg base _ _ _ (gr K):=cH (wY B B1 F46) F46 (PySem.W.mg_of X G a46)
 have Dx:Cal l.prog w K mg base _ _ _ (bV K c d):=ze (qK (c:=c) (d:=d) B Fy B0 Ee Ed F47) F47 (PySem.W.mg_of X G a47)
 have bd48:Binds K fd48 ["self","cells","cell"] []:=zE F48
 have FK_c_floor_Ring:FldK K (mk1 c .Ring) "floor":=⟨fun i hi=>by cases i with | Rule=>exact (Bool.false_ne_true hi).elim | Unlike=>exact (Bool.false_ne_true hi).elim | Sum=>exact (Bool.false_ne_true hi).elim | Rising=>exact (Bool.false_ne_true hi).elim | Seen=>exact (Bool.false_ne_true hi).elim | Count=>exact (Bool.false_ne_true hi).elim | Joined=>exact (Bool.false_ne_true hi).elim | NoSquare=>exact (Bool.false_ne_true hi).elim | Ring=>exact ⟨cls_Ring,CD⟩⟩
 have T48_Ring:FnOk l.prog w K mg base CX0 3 f48 _ ["self","cells","cell"] (bR K (mk1 c .Ring)):=lM (c:=(mk1 c .Ring)) B Dw FK_c_floor_Ring F48
 have EK:MCal l.prog w K mg base (mk1 c .Ring) (mk1 c .Ring).ok 3 "has_two_beside" ["self","cells","cell"] (db K (mk1 c .Ring)):=⟨fun i hi=>by cases i with | Rule=>exact (Bool.false_ne_true hi).elim | Unlike=>exact (Bool.false_ne_true hi).elim | Sum=>exact (Bool.false_ne_true hi).elim | Rising=>exact (Bool.false_ne_true hi).elim | Seen=>exact (Bool.false_ne_true hi).elim | Count=>exact (Bool.false_ne_true hi).elim | Joined=>exact (Bool.false_ne_true hi).elim | NoSquare=>exact (Bool.false_ne_true hi).elim | Ring=>exact ⟨f48,_,cls_Ring,⟨a48_Ring,fn48,F48.kp⟩,(T48_Ring.mono (by decide)).imp (fun vs H Q E h=>h),bd48⟩⟩
 have CK:Cal l.prog w K mg base _ _ _ (bq K):=jQ (qL B B4 F49) F49 (PySem.W.mg_of X G a49)
 have Ej:Cal l.prog w K mg base _ _ _ (cP K):=cH (sU B BV B4 F50) F50 (PySem.W.mg_of X G a50)
 have FC:Cal l.prog w K mg base _ _ _ (gp K c):=zf (wZ (c:=c) B Hi GE EL HK GF HL K_Sum GG F51) F51 (PySem.W.mg_of X G a51)
 have Di:Cal l.prog w K mg base _ _ _ (bN K):=cH (pB B Ei F52) F52 (PySem.W.mg_of X G a52)
 have DK:Cal l.prog w K mg base _ _ _ (bP K):=ze (rE B B5 DJ F53) F53 (PySem.W.mg_of X G a53)
 have EI:Cal l.prog w K mg base _ _ _ (dt K c d):=cH (uW (c:=c) (d:=d) B Dx Fz FA B0 Hj G_KINDS F54) F54 (PySem.W.mg_of X G a54)
 have bd55:Binds K fd55 ["self","cells"] []:=iq F55
 have FK_c_floor_Joined:FldK K (mk1 c .Joined) "floor":=⟨fun i hi=>by cases i with | Rule=>exact (Bool.false_ne_true hi).elim | Unlike=>exact (Bool.false_ne_true hi).elim | Sum=>exact (Bool.false_ne_true hi).elim | Rising=>exact (Bool.false_ne_true hi).elim | Seen=>exact (Bool.false_ne_true hi).elim | Count=>exact (Bool.false_ne_true hi).elim | Joined=>exact ⟨cls_Joined,B9⟩ | NoSquare=>exact (Bool.false_ne_true hi).elim | Ring=>exact (Bool.false_ne_true hi).elim⟩
 have T55_Joined:FnOk l.prog w K mg base CX0 4 f55 _ ["self","cells"] (bH K (mk1 c .Joined)):=jJ (c:=(mk1 c .Joined)) B EA FK_c_floor_Joined F55
 have Gi:MCal l.prog w K mg base (mk1 c .Joined) (mk1 c .Joined).ok 4 "is_joined" ["self","cells"] (cG K (mk1 c .Joined)):=⟨fun i hi=>by cases i with | Rule=>exact (Bool.false_ne_true hi).elim | Unlike=>exact (Bool.false_ne_true hi).elim | Sum=>exact (Bool.false_ne_true hi).elim | Rising=>exact (Bool.false_ne_true hi).elim | Seen=>exact (Bool.false_ne_true hi).elim | Count=>exact (Bool.false_ne_true hi).elim | Joined=>exact ⟨f55,_,cls_Joined,⟨a55_Joined,fn55,F55.kp⟩,(T55_Joined.mono (by decide)).imp (fun vs H Q E h=>⟨.Joined,h⟩),bd55⟩ | NoSquare=>exact (Bool.false_ne_true hi).elim | Ring=>exact (Bool.false_ne_true hi).elim⟩
 have T55_Ring:FnOk l.prog w K mg base CX0 4 f55 _ ["self","cells"] (bH K (mk1 c .Ring)):=jJ (c:=(mk1 c .Ring)) B EA FK_c_floor_Ring F55
 have G4:MCal l.prog w K mg base (mk1 c .Ring) (mk1 c .Ring).ok 4 "is_joined" ["self","cells"] (cG K (mk1 c .Ring)):=⟨fun i hi=>by cases i with | Rule=>exact (Bool.false_ne_true hi).elim | Unlike=>exact (Bool.false_ne_true hi).elim | Sum=>exact (Bool.false_ne_true hi).elim | Rising=>exact (Bool.false_ne_true hi).elim | Seen=>exact (Bool.false_ne_true hi).elim | Count=>exact (Bool.false_ne_true hi).elim | Joined=>exact (Bool.false_ne_true hi).elim | NoSquare=>exact (Bool.false_ne_true hi).elim | Ring=>exact ⟨f55,_,cls_Ring,⟨a55_Ring,fn55,F55.kp⟩,(T55_Ring.mono (by decide)).imp (fun vs H Q E h=>⟨.Ring,h⟩),bd55⟩⟩
 have bd56:Binds K fd56 ["self","filling"] []:=iq F56
 have T56:FnOk l.prog w K mg base CX0 4 f56 fd56 _ (de K c):=oo (c:=c) B EE FB FK_c_floor B7 F56
 have EN:Cal l.prog w K mg base _ _ _ (fc K):=jQ (vt B BV Ej G_OF_ALL_CELLS F57) F57 (PySem.W.mg_of X G a57)
 have Dj:Cal l.prog w K mg base _ _ _ (bM K):=lC (pC B EM F58) F58 (PySem.W.mg_of X G a58)
 have EO:Cal l.prog w K mg base _ _ _ (cS K):=jQ (vv B DK F59) F59 (PySem.W.mg_of X G a59)
 have bd60:Binds K fd60 ["self","filling"] []:=iq F60
 have T60_Joined:FnOk l.prog w K mg base CX0 5 f60 _ ["self","filling"] (fK K (mk1 c .Joined)):=qM (c:=(mk1 c .Joined)) B Gi Hh F60
 have bd61:Binds K fd61 ["self","filling"] []:=iq F61
 have T61_Ring:FnOk l.prog w K mg base CX0 5 f61 _ ["self","filling"] (im K (mk1 c .Ring)):=sV (c:=(mk1 c .Ring)) B EK G4 HI F61
 have Hk:MCal l.prog w K mg base c c.ok 5 "holds" ["self","filling"] (cF K c):=⟨fun i hi=>by cases i with | Rule=>exact (Bool.false_ne_true hi).elim | Unlike=>exact ⟨f30,_,cls_Unlike,⟨a30_Unlike,fn30,F30.kp⟩,(T30.mono (by decide)).imp (fun vs H Q E h=>h),bd30⟩ | Sum=>exact ⟨f31,_,cls_Sum,⟨a31_Sum,fn31,F31.kp⟩,(T31.mono (by decide)).imp (fun vs H Q E h=>h),bd31⟩ | Rising=>exact ⟨f32,_,cls_Rising,⟨a32_Rising,fn32,F32.kp⟩,(T32.mono (by decide)).imp (fun vs H Q E h=>h),bd32⟩ | Seen=>exact ⟨f33,_,cls_Seen,⟨a33_Seen,fn33,F33.kp⟩,(T33.mono (by decide)).imp (fun vs H Q E h=>h),bd33⟩ | Count=>exact ⟨f34,_,cls_Count,⟨a34_Count,fn34,F34.kp⟩,(T34.mono (by decide)).imp (fun vs H Q E h=>h),bd34⟩ | Joined=>exact ⟨f60,_,cls_Joined,⟨a60_Joined,fn60,F60.kp⟩,(T60_Joined.mono (by decide)).imp (fun vs H Q E h=>by obtain ⟨r,p,f,ws,cs,xs,n,m,h,w,g,e,x,y⟩:=h; exact ⟨r,p,f,ws,cs,xs,n,m,h,w,g,e,⟨rfl,x.ex⟩,y⟩),bd60⟩ | NoSquare=>exact ⟨f56,_,cls_NoSquare,⟨a56_NoSquare,fn56,F56.kp⟩,(T56.mono (by decide)).imp (fun vs H Q E h=>h),bd56⟩ | Ring=>exact ⟨f61,_,cls_Ring,⟨a61_Ring,fn61,F61.kp⟩,(T61_Ring.mono (by decide)).imp (fun vs H Q E h=>by obtain ⟨r,p,f,ws,cs,xs,n,m,h,w,g,e,x,y⟩:=h; exact ⟨r,p,f,ws,cs,xs,n,m,h,w,g,e,⟨rfl,x.ex⟩,y⟩),bd61⟩⟩
 have EH:Cal l.prog w K mg base _ _ _ (dr K c):=cH (uX (c:=c) B EN CK FC DL G_WITH_NUMBER G_WITH_SIGN F62) F62 (PySem.W.mg_of X G a62)
 have Ec:Cal l.prog w K mg base _ _ _ (cj K):=zf (vw B B6 EO F63) F63 (PySem.W.mg_of X G a63)
 have Dy:Cal l.prog w K mg base _ _ _ (bW K c):=zf (qN (c:=c) B FD EQ GI CJ HM C0 Cc EG Hk F64) F64 (PySem.W.mg_of X G a64)
 have El:Cal l.prog w K mg base _ _ _ (cQ K c):=cH (sW (c:=c) B EH Ek F65) F65 (PySem.W.mg_of X G a65)
 have Cd:Cal l.prog w K mg base _ _ _ (aX K c d):=jQ (mI (c:=c) (d:=d) B Dy Ee F66) F66 (PySem.W.mg_of X G a66)
 have bd67:Binds K fd67 ["self","floor","lines","clues"] []:=zF F67
 have T67:FnOk l.prog w K mg base CX0 7 f67 fd67 _ (ba K c d):=nI (c:=c) (d:=d) B Di Dj El FK_d_floor FK_d_given FK_d_laws F67
 have GJ:KCal l.prog w K mg base _ "Puzzle" (d.A .Puzzle) _ (ba K c d):=⟨f67,_,⟨Fg,EV,fn67,Fh⟩,T67,PySem.W.mg_of X G GP,bd67⟩
 have FE:Cal l.prog w K mg base _ _ _ (dv K c d):=jQ (w5 (c:=c) (d:=d) B Cd G_LINE_KINDS G_NUMBER_KINDS F68) F68 (PySem.W.mg_of X G a68)
 have FF:Cal l.prog w K mg base _ _ _ (dw K c d):=jQ (w6 (c:=c) (d:=d) B EI FE F69) F69 (PySem.W.mg_of X G a69)
 exact (Bj (c:=c) (d:=d) B BQ Em Ec En Eo EJ Dz FF GJ F70).imp fun vs H Q E h=>by obtain ⟨a,ns,e,hS,hn,k⟩:=h; exact ⟨a,ns,e,hS,hn,fun k hk=>by cases k <;> first | rfl | exact absurd rfl hk,rfl,k⟩
theorem walk {l:PySem.W.OpenLaw} {q:Program} {loose:List Str} {XP:(Str->Option Value)->Heap->Prop} {YP:World->Heap->Prop} {d:DefRec} {K:Params->Frag} (hn:l.most=some 63) (hdf:d.params.defaults=[])
  (hY:∀ (w:World) (h:Heap),YP w h->(K w.params).In h)
  (F:∀ (w:World) (mg:Str->Option Value) (fa:Addr) (h:Heap),(K w.params).In h->h.Ns mainGlobals mg->mg d.name=some (.ref fa)->
   ∃ fd:FuncData,(∀ (s:Shared) (u:Value),BindsTo s fd ⟨[u],[]⟩ [("_law_script",u)])/\∀ base:Heap,(K w.params).In base->base.Ns mainGlobals mg->FnOk l.prog w (K w.params) mg base CX0 10 fa fd ["_law_script"] (rA (K w.params))):
  PySem.W.WalkO q loose XP YP l.row.toRowW d [] (fun f vs=>PySem.call f vs):=
 L2.zS (n:=63) (k:=10) (x:="_law_script") (CX:=fun _=>CX0) (sp:=fun w=>rA (K w.params)) hn (by decide) hdf ⟨rfl,by decide,by decide⟩ hY F (fun _ _ a ns hl _ hS=>⟨a,ns,rfl,hS,hl,fun _=>rfl⟩) fun _ _ _ _ _ z=>z
end L2
open PySem PySem.W PyProof.Rows
namespace PySem.W.Fast
def tw13097433072313609401:=()
def tw5902812146973719924:=()
def tw15626683127539374764:=()
def tw8408403369899891902:=()
def tw17805018269048350080:=()
def tw15965918617789644021:=()
def tw14503145537410029870:=()
def tw2103032450926995828:=()
def tw11840137133566327110:=()
def tw3818860491543869425:=()
def tw17889582180028124123:=()
def tw5255662853630578115:=()
def tw16877403814564800653:=()
def tw14718030350127202299:=()
def tw9627054491581075391:=()
def tw10905481879417676512:=()
def tw1673184060453113212:=()
def tw7769895228863969631:=()
def tw4970169849733874180:=()
def tw8738532395676643531:=()
def tw10190826766235293119:=()
def tw16604226087278941268:=()
def tw12443311043674082201:=()
def tw13478828177117119776:=()
def tw12902249186150721423:=()
def tw17751249339078819278:=()
def tw6471557643089446377:=()
def tw11736487775554170172:=()
def tw10372821860605340308:=()
def tw2699025651345336534:=()
def tw1833973788987536431:=()
def tw18406361679333307524:=()
def tw9187045956265689814:=()
def tw14877288612691288602:=()
def tw4438613167150239819:=()
def tw10849825395482144816:=()
def tw12813150370828897915:=()
def tw431176479311033881:=()
def tw11696071529612542083:=()
def tw10808426525219952276:=()
def tw16677536939755853403:=()
def tw14581586232004105375:=()
def tw15499044707285530520:=()
def tw13128377769687812915:=()
def tw11250804147741364489:=()
def tw669984024012460707:=()
def tw6410360591616366559:=()
def tw11897807864342212584:=()
def tw341321574936635706:=()
def tw10490331372048142572:=()
def tw2818302899552421229:=()
def tw9734540903577541337:=()
def tw17152854588583302622:=()
def tw12695047785451443374:=()
def tw16508907698609411411:=()
def tw9726317197946110523:=()
def tw12045886717477810120:=()
def tw9586564358881128259:=()
def tw18011266264825884350:=()
def tw6219137190559286291:=()
def tw10389325960155721262:=()
def tw2853754705094508096:=()
def tw15204602449787280061:=()
def tw13527432300812586329:=()
def tw9667120098910887729:=()
def tw13519985801823325025:=()
def tw8789646500250695732:=()
def tw9648888452605610169:=()
def tw8085374828759042879:=()
def tw9323443397442052399:=()
def tw9890071163633735693:=()
def tw8859281848824230048:=()
def tw2576790465028430726:=()
def tw10881036590406881921:=()
def tw9500342533823059704:=()
def tw529886616472391839:=()
def tw13737109598812063600:=()
def tw1772490177888393766:=()
def tw16777265909428727408:=()
def tw17673346490207008190:=()
def tw9346690632781501626:=()
def tw11190761510976742541:=()
def tw2987332045488693715:=()
def tw4696790695030131471:=()
def tw6119240363841968506:=()
def tw10903921659643391929:=()
def tw17429080045557916283:=()
def tw16116697575268849567:=()
def tw1942363796390338147:=()
def tw671960918435168945:=()
def tw13297178425593975279:=()
def tw8247136227286804692:=()
def tw7832936928989274674:=()
def tw71897677858609327:=()
def tw18319610471909521250:=()
def tw17050653252761945767:=()
def tw13622472872383650985:=()
def tw5618595750352479850:=()
def tw9262758357705800376:=()
def tw17603633749797311552:=()
def tw2431261517603725423:=()
def tw457658911542000845:=()
def tw10872121394004913425:=()
def tw17828764374463098417:=()
def tw15872356310356620055:=()
def tw14369923357880417226:=()
def tw6395660887373962847:=()
def tw1378366475232717846:=()
def tw3474340255673570849:=()
def tw7054594639165679736:=()
def tw7386364624358311755:=()
def tw13182819774189562856:=()
def tw15189479675220134537:=()
def tw15690201068316507789:=()
def tw10891195941895109321:=()
def tw13576288214503536543:=()
def tw2278439471694245398:=()
def tw15963877485542036169:=()
def tw3262205573243066562:=()
def tw5196937371467569509:=()
def tw1937056591291823792:=()
def tw9388877853861660756:=()
def tw15560678686457873828:=()
def tw7952839705771113053:=()
def tw2208569046523962380:=()
def tw2324826692976696879:=()
def tw2727834437525323246:=()
def tw9161697215244065735:=()
def tw8322883997629298066:=()
def tw1552211370532009331:=()
def tw7928247825243336473:=()
def tw12040635289038803731:=()
def tw1454481025737601972:=()
def tw1511518994097524663:=()
def tw1493155664031309811:=()
def tw12987065190163716076:=()
def tw6737859859683818857:=()
def tw3384167310693254773:=()
def tw14640894248479781241:=()
def tw15783816943642069097:=()
def tw17305181212901324372:=()
def tw520022696886339273:=()
def tw8050965491019707356:=()
def tw11789778090945599540:=()
def tw12986826407033740185:=()
def tw2779482341277079447:=()
def tw5722248591392127155:=()
def tw10888944750947427772:=()
def tw15762410063159009155:=()
def tw14450871994525363860:=()
def tw9085487009080148541:=()
def tw8580272710029306921:=()
def tw531625996818504705:=()
def tw2005366474955228468:=()
def tw5319117990787701970:=()
def tw4386225588133304903:=()
def tw10038967838704287986:=()
def tw7784028371953713837:=()
def tw2656221983549016189:=()
def tw3180300662124752567:=()
def tw7646021842801716724:=()
def tw7453289181562815456:=()
def tw4474969631089162584:=()
def tw9311942499512900674:=()
def tw18428603418123116849:=()
def tw7319842976247741423:=()
def tw3468522316298159252:=()
def tw536844108914816186:=()
def tw2688120213654736739:=()
def tw3344697782488322057:=()
def tw14089070758572010904:=()
def tw10870634620883494277:=()
def tw1052909874618315333:=()
def tw10021072001390102905:=()
def tw9505885936639523069:=()
def tw15474263294481111012:=()
def tw4530387839306890422:=()
def tw5902159032306465754:=()
def tw15953246038449316715:=()
def tw2195498910734968967:=()
def tw1581200045413600335:=()
def tw14374551649847383036:=()
def tw9097837391188478185:=()
def tw758802816189677296:=()
def tw2428263088956095029:=()
def tw5740627178486914928:=()
def tw7411679831002013802:=()
def tw10739463631107925329:=()
def tw6777081367415443197:=()
def tw1725882161485790558:=()
def tw15773170438632012558:=()
def tw6889455163132660088:=()
def tw14494913208213615024:=()
def tw6623946293778557053:=()
def tw931329268512373939:=()
def tw8187998371245306414:=()
def tw4674188871069471096:=()
def tw10521005316031862005:=()
def tw9513097210970351663:=()
def tw11871963071665440964:=()
def tw5621729761842710665:=()
def tw12383165419887550585:=()
def tw14138285439176373684:=()
def tw13503104646812653808:=()
def tw1894499832877761008:=()
def tw12689437083781589149:=()
def tw11380259371363085289:=()
def tw10311521773673404662:=()
def tw1009852491784280370:=()
def tw3971522882498435997:=()
def tw10050817870151161402:=()
def tw1761499478597097737:=()
def tw3668090208372667682:=()
def tw16425185375079367283:=()
def tw1376075263029998261:=()
def tw15884438420861859596:=()
def tw5457224057526723266:=()
def tw7416397644647041090:=()
def tw10250584471504837408:=()
def tw12466401004994281540:=()
def tw10105062197041183995:=()
def tw10562456888738377906:=()
def tw855203799386407868:=()
def tw7844099269390288650:=()
def tw2489852325101527795:=()
def tw624112017239053857:=()
def tw13641287062160826775:=()
def tw16462442569103055389:=()
def tw16770947463174053456:=()
def tw12886584374994538103:=()
def tw15251515610326822861:=()
def tw5574996825813635492:=()
def tw14311586832319018327:=()
def tw10430676154062818195:=()
def tw7248240383753623854:=()
def tw16288280606961743319:=()
def tw2899522027128011761:=()
def tw17828253451838102794:=()
def tw6807524353805674459:=()
def tw931802592498750377:=()
def tw1496991077219056290:=()
def tw12627494796171898158:=()
def tw13049818778797246115:=()
def tw7893964843851152876:=()
def tw5112844006441238118:=()
def tw4655116667083139899:=()
def tw6850771024039544906:=()
def tw15517739858019991259:=()
def tw11944411189979444520:=()
def tw11780085386207343155:=()
def tw3083089049128059208:=()
def tw6104996717933720439:=()
def tw11402971061329394716:=()
def tw13298987825461109936:=()
def tw2468036537785201288:=()
def tw14008719766367241884:=()
def tw4292301890169774518:=()
def tw10122130086811617788:=()
def tw18089791691383313597:=()
def tw3821699710901037236:=()
def tw6814234268326280619:=()
def tw14436053716564324549:=()
def tw1879924657109895353:=()
def tw7856859278032857502:=()
def tw15842018342063588703:=()
def tw5957905900493930609:=()
def tw15245628578223323633:=()
def tw7704855014426034820:=()
def tw5512103219362582751:=()
def tw16690741921336154973:=()
def tw14358355431818596890:=()
def tw3006020445709018866:=()
def tw6435093960605475274:=()
def tw16238142426982236295:=()
def tw6085525878951024419:=()
def tw8613609518284360592:=()
def tw626104460550023893:=()
def tw6702088392037397495:=()
def tw9371374210214785816:=()
def tw17362465500564424182:=()
def tw16115407494110962902:=()
def tw9056345049189287334:=()
def tw16541273402643958037:=()
def tw9844595210806905681:=()
def tw3507136936079378861:=()
def tw8417068541196283719:=()
def tw8755159626513305300:=()
def tw15039826369604014517:=()
end PySem.W.Fast
set_option maxRecDepth 100000 in
set_option maxHeartbeats 0 in
theorem PySem.Challenge.cw_cluemaker_k37_thoughts_of_ways_holds : PySem.Challenge.rw_cluemaker_k37_thoughts_of_ways.Holds := by
  w_on; o_law; k_head; (case hw => w_witness2)
  k_fill
  refine L2.walk (l := PySem.Challenge.rw_cluemaker_k37_thoughts_of_ways) rfl rfl (fun w h Y => PySem.W.kIn_of Y) ?F
  case F =>
    intro w mg fa h KX G hmg
    refine' L2.Bk KX G hmg ?GM ?q_Sum ?GN ?HW ?Hs ?GO ?ER ?HX ?GP ?a0 ?a1 ?a2 ?a3 ?a4 ?a5 ?a6 ?a7 ?a8 ?ES ?Ht ?ET ?GQ ?FZ ?EU ?Er ?GR ?a10_Unlike ?a10_Sum ?a10_Rising ?a10_Seen ?a10_Count ?a10_Joined ?a10_NoSquare ?a10_Ring ?a11_Unlike ?a11_Sum ?a11_Rising ?a11_Seen ?a11_Count ?a11_Joined ?a11_NoSquare ?a11_Ring ?a12_Unlike ?a12_Sum ?a12_Rising ?a12_Seen ?a12_Count ?a12_Joined ?a12_NoSquare ?a12_Ring ?a13_Unlike ?a13_Sum ?a13_Rising ?a13_Seen ?a13_Count ?a13_Joined ?a13_NoSquare ?a13_Ring ?a14 ?a15_Puzzle ?a16_Puzzle ?a17 ?a18 ?a19 ?a20 ?a21 ?a22 ?a23 ?a24 ?a25 ?a26 ?a27 ?a28 ?a29 ?a30_Unlike ?a31_Sum ?a32_Rising ?a33_Seen ?a34_Count ?a35 ?a36 ?a37 ?a38 ?a39 ?a40 ?a41 ?a42 ?a43 ?a44 ?a45 ?a46 ?a47 ?a48_Ring ?a49 ?a50 ?a51 ?a52 ?a53 ?a54 ?a55_Joined ?a55_Ring ?a56_NoSquare ?a57 ?a58 ?a59 ?a60_Joined ?a61_Ring ?a62 ?a63 ?a64 ?a65 ?a66 ?EV ?a68 ?a69 ?a70 ?F0 ?F1 ?F2 ?F3 ?F4 ?F5 ?F6 ?F7 ?F8 ?F9 ?fn9 ?F10 ?fn10 ?F11 ?fn11 ?F12 ?fn12 ?F13 ?fn13 ?F14 ?F15 ?fn15 ?F16 ?fn16 ?F17 ?F18 ?F19 ?F20 ?F21 ?F22 ?F23 ?F24 ?F25 ?F26 ?F27 ?F28 ?F29 ?F30 ?fn30 ?F31 ?fn31 ?F32 ?fn32 ?F33 ?fn33 ?F34 ?fn34 ?F35 ?F36 ?F37 ?F38 ?F39 ?F40 ?F41 ?F42 ?F43 ?F44 ?F45 ?F46 ?F47 ?F48 ?fn48 ?F49 ?F50 ?F51 ?F52 ?F53 ?F54 ?F55 ?fn55 ?F56 ?fn56 ?F57 ?F58 ?F59 ?F60 ?fn60 ?F61 ?fn61 ?F62 ?F63 ?F64 ?F65 ?F66 ?F67 ?fn67 ?F68 ?F69 ?F70 ?EW ?EX ?EY ?EZ ?E2 ?E3 ?Hu ?Hv ?Hw ?Hx ?Hy ?Hz ?E4 ?E5 ?E6 ?E7 ?E8 ?E9 ?GS ?GT ?GU ?GV ?GW ?GX ?Ga ?Gb ?Gc ?Gd ?Ge ?Gf ?Fa ?Fb ?Fc ?Fd ?Fe ?Ff ?Es ?Et ?Eu ?Ev ?Ew ?Ex ?GY ?GZ ?G0 ?G1 ?G2 ?G3 ?Fg ?Fh ?Fi ?Fj ?Fk ?Fl ?CF ?Dm ?CG ?C4 ?CM ?CH ?Ca ?C5 ?CN ?DB ?CO ?Dn ?C6 ?B8 ?Ce ?CC ?CP ?DC ?CQ ?Do ?C7 ?B9 ?Cf ?CD ?C8 ?DN ?C9 ?DD ?Dp ?Cb ?CI ?CL ?CS ?DE ?CT ?Dq ?Da ?CU ?Cg ?Dr ?CV ?CW ?Db ?Gg ?Gh ?DF ?DG ?Dc ?Dd ?De ?Df ?Ds ?Dt ?DO ?DP ?CY ?CZ ?Ch ?Ci ?Cj ?Ck ?Cm ?Cn ?Cp ?Cq ?Cr ?Cs ?Ct ?Cu ?Cv ?Cw ?Cy ?Cz ?CA ?CB ?Fm ?DQ ?Du ?DH ?DR ?Ey ?DS ?Ez ?z_len ?z_abs ?z_min ?z_max ?z_sorted ?z_any ?z_isinstance ?z_list ?z_int ?z_bool ?z_str ?z_tuple ?z_reversed ?z_set ?z_range ?z_zip ?z_all ?z_sum ?z_enumerate
    (case GM=>k_is);(case q_Sum=>k_is);(case GN=>k_is);(case HW=>k_is);(case Hs=>k_is);(case GO=>k_is);(case ER=>k_is);(case HX=>k_is);(case GP=>k_is);(case a0=>k_is);(case a1=>k_is);(case a2=>k_is);(case a3=>k_is);(case a4=>k_is);(case a5=>k_is);(case a6=>k_is);(case a7=>k_is);(case a8=>k_is);(case ES=>k_is);(case Ht=>k_is);(case ET=>k_is);(case GQ=>k_is);(case FZ=>k_is);(case EU=>k_is);(case Er=>k_is);(case GR=>k_is);(case a10_Unlike=>k_is);(case a10_Sum=>k_is);(case a10_Rising=>k_is);(case a10_Seen=>k_is);(case a10_Count=>k_is);(case a10_Joined=>k_is);(case a10_NoSquare=>k_is);(case a10_Ring=>k_is);(case a11_Unlike=>k_is);(case a11_Sum=>k_is);(case a11_Rising=>k_is);(case a11_Seen=>k_is);(case a11_Count=>k_is);(case a11_Joined=>k_is);(case a11_NoSquare=>k_is);(case a11_Ring=>k_is);(case a12_Unlike=>k_is);(case a12_Sum=>k_is);(case a12_Rising=>k_is);(case a12_Seen=>k_is);(case a12_Count=>k_is);(case a12_Joined=>k_is);(case a12_NoSquare=>k_is);(case a12_Ring=>k_is);(case a13_Unlike=>k_is);(case a13_Sum=>k_is);(case a13_Rising=>k_is);(case a13_Seen=>k_is);(case a13_Count=>k_is);(case a13_Joined=>k_is);(case a13_NoSquare=>k_is);(case a13_Ring=>k_is);(case a14=>k_is);(case a15_Puzzle=>k_is);(case a16_Puzzle=>k_is);(case a17=>k_is);(case a18=>k_is);(case a19=>k_is);(case a20=>k_is);(case a21=>k_is);(case a22=>k_is);(case a23=>k_is);(case a24=>k_is);(case a25=>k_is);(case a26=>k_is);(case a27=>k_is);(case a28=>k_is);(case a29=>k_is);(case a30_Unlike=>k_is);(case a31_Sum=>k_is);(case a32_Rising=>k_is);(case a33_Seen=>k_is);(case a34_Count=>k_is);(case a35=>k_is);(case a36=>k_is);(case a37=>k_is);(case a38=>k_is);(case a39=>k_is);(case a40=>k_is);(case a41=>k_is);(case a42=>k_is);(case a43=>k_is);(case a44=>k_is);(case a45=>k_is);(case a46=>k_is);(case a47=>k_is);(case a48_Ring=>k_is);(case a49=>k_is);(case a50=>k_is);(case a51=>k_is);(case a52=>k_is);(case a53=>k_is);(case a54=>k_is);(case a55_Joined=>k_is);(case a55_Ring=>k_is);(case a56_NoSquare=>k_is);(case a57=>k_is);(case a58=>k_is);(case a59=>k_is);(case a60_Joined=>k_is);(case a61_Ring=>k_is);(case a62=>k_is);(case a63=>k_is);(case a64=>k_is);(case a65=>k_is);(case a66=>k_is);(case EV=>k_is);(case a68=>k_is);(case a69=>k_is);(case a70=>k_is)
    (case F0 => (refine' L2.ax ?l ?c ?k; (case l => k_is); (case c => k_is); case k => k_is))
    (case F1 => (refine' L2.ax ?l ?c ?k; (case l => k_is); (case c => k_is); case k => k_is))
    (case F2 => (refine' L2.ax ?l ?c ?k; (case l => k_is); (case c => k_is); case k => k_is))
    (case F3 => (refine' L2.ax ?l ?c ?k; (case l => k_is); (case c => k_is); case k => k_is))
    (case F4 => (refine' L2.ax ?l ?c ?k; (case l => k_is); (case c => k_is); case k => k_is))
    (case F5 => (refine' L2.ax ?l ?c ?k; (case l => k_is); (case c => k_is); case k => k_is))
    (case F6 => (refine' L2.ax ?l ?c ?k; (case l => k_is); (case c => k_is); case k => k_is))
    (case F7 => (refine' L2.ax ?l ?c ?k; (case l => k_is); (case c => k_is); case k => k_is))
    (case F8 => (refine' L2.ax ?l ?c ?k; (case l => k_is); (case c => k_is); case k => k_is))
    (case F9 => (refine' L2.ax ?l ?c ?k; (case l => k_is); (case c => k_is); case k => k_is))
    (case fn9=>k_is)
    (case F10 => (refine' L2.ax ?l ?c ?k; (case l => k_is); (case c => k_is); case k => k_is))
    (case fn10=>k_is)
    (case F11 => (refine' L2.ax ?l ?c ?k; (case l => k_is); (case c => k_is); case k => k_is))
    (case fn11=>k_is)
    (case F12 => (refine' L2.ax ?l ?c ?k; (case l => k_is); (case c => k_is); case k => k_is))
    (case fn12=>k_is)
    (case F13 => (refine' L2.ax ?l ?c ?k; (case l => k_is); (case c => k_is); case k => k_is))
    (case fn13=>k_is)
    (case F14 => (refine' L2.ax ?l ?c ?k; (case l => k_is); (case c => k_is); case k => k_is))
    (case F15 => (refine' L2.ax ?l ?c ?k; (case l => k_is); (case c => k_is); case k => k_is))
    (case fn15=>k_is)
    (case F16 => (refine' L2.ax ?l ?c ?k; (case l => k_is); (case c => k_is); case k => k_is))
    (case fn16=>k_is)
    (case F17 => (refine' L2.ax ?l ?c ?k; (case l => k_is); (case c => k_is); case k => k_is))
    (case F18 => (refine' L2.ax ?l ?c ?k; (case l => k_is); (case c => k_is); case k => k_is))
    (case F19 => (refine' L2.ax ?l ?c ?k; (case l => k_is); (case c => k_is); case k => k_is))
    (case F20 => (refine' L2.ax ?l ?c ?k; (case l => k_is); (case c => k_is); case k => k_is))
    (case F21 => (refine' L2.ax ?l ?c ?k; (case l => k_is); (case c => k_is); case k => k_is))
    (case F22 => (refine' L2.ax ?l ?c ?k; (case l => k_is); (case c => k_is); case k => k_is))
    (case F23 => (refine' L2.ax ?l ?c ?k; (case l => k_is); (case c => k_is); case k => k_is))
    (case F24 => (refine' L2.ax ?l ?c ?k; (case l => k_is); (case c => k_is); case k => k_is))
    (case F25 => (refine' L2.ax ?l ?c ?k; (case l => k_is); (case c => k_is); case k => k_is))
    (case F26 => (refine' L2.ax ?l ?c ?k; (case l => k_is); (case c => k_is); case k => k_is))
    (case F27 => (refine' L2.ax ?l ?c ?k; (case l => k_is); (case c => k_is); case k => k_is))
    (case F28 => (refine' L2.ax ?l ?c ?k; (case l => k_is); (case c => k_is); case k => k_is))
    (case F29 => (refine' L2.ax ?l ?c ?k; (case l => k_is); (case c => k_is); case k => k_is))
    (case F30 => (refine' L2.ax ?l ?c ?k; (case l => k_is); (case c => k_is); case k => k_is))
    (case fn30=>k_is)
    (case F31 => (refine' L2.ax ?l ?c ?k; (case l => k_is); (case c => k_is); case k => k_is))
    (case fn31=>k_is)
    (case F32 => (refine' L2.ax ?l ?c ?k; (case l => k_is); (case c => k_is); case k => k_is))
    (case fn32=>k_is)
    (case F33 => (refine' L2.ax ?l ?c ?k; (case l => k_is); (case c => k_is); case k => k_is))
    (case fn33=>k_is)
    (case F34 => (refine' L2.ax ?l ?c ?k; (case l => k_is); (case c => k_is); case k => k_is))
    (case fn34=>k_is)
    (case F35 => (refine' L2.ax ?l ?c ?k; (case l => k_is); (case c => k_is); case k => k_is))
    (case F36 => (refine' L2.ax ?l ?c ?k; (case l => k_is); (case c => k_is); case k => k_is))
    (case F37 => (refine' L2.ax ?l ?c ?k; (case l => k_is); (case c => k_is); case k => k_is))
    (case F38 => (refine' L2.ax ?l ?c ?k; (case l => k_is); (case c => k_is); case k => k_is))
    (case F39 => (refine' L2.ax ?l ?c ?k; (case l => k_is); (case c => k_is); case k => k_is))
    (case F40 => (refine' L2.ax ?l ?c ?k; (case l => k_is); (case c => k_is); case k => k_is))
    (case F41 => (refine' L2.ax ?l ?c ?k; (case l => k_is); (case c => k_is); case k => k_is))
    (case F42 => (refine' L2.ax ?l ?c ?k; (case l => k_is); (case c => k_is); case k => k_is))
    (case F43 => (refine' L2.ax ?l ?c ?k; (case l => k_is); (case c => k_is); case k => k_is))
    (case F44 => (refine' L2.ax ?l ?c ?k; (case l => k_is); (case c => k_is); case k => k_is))
    (case F45 => (refine' L2.ax ?l ?c ?k; (case l => k_is); (case c => k_is); case k => k_is))
    (case F46 => (refine' L2.ax ?l ?c ?k; (case l => k_is); (case c => k_is); case k => k_is))
    (case F47 => (refine' L2.ax ?l ?c ?k; (case l => k_is); (case c => k_is); case k => k_is))
    (case F48 => (refine' L2.ax ?l ?c ?k; (case l => k_is); (case c => k_is); case k => k_is))
    (case fn48=>k_is)
    (case F49 => (refine' L2.ax ?l ?c ?k; (case l => k_is); (case c => k_is); case k => k_is))
    (case F50 => (refine' L2.ax ?l ?c ?k; (case l => k_is); (case c => k_is); case k => k_is))
    (case F51 => (refine' L2.ax ?l ?c ?k; (case l => k_is); (case c => k_is); case k => k_is))
    (case F52 => (refine' L2.ax ?l ?c ?k; (case l => k_is); (case c => k_is); case k => k_is))
    (case F53 => (refine' L2.ax ?l ?c ?k; (case l => k_is); (case c => k_is); case k => k_is))
    (case F54 => (refine' L2.ax ?l ?c ?k; (case l => k_is); (case c => k_is); case k => k_is))
    (case F55 => (refine' L2.ax ?l ?c ?k; (case l => k_is); (case c => k_is); case k => k_is))
    (case fn55=>k_is)
    (case F56 => (refine' L2.ax ?l ?c ?k; (case l => k_is); (case c => k_is); case k => k_is))
    (case fn56=>k_is)
    (case F57 => (refine' L2.ax ?l ?c ?k; (case l => k_is); (case c => k_is); case k => k_is))
    (case F58 => (refine' L2.ax ?l ?c ?k; (case l => k_is); (case c => k_is); case k => k_is))
    (case F59 => (refine' L2.ax ?l ?c ?k; (case l => k_is); (case c => k_is); case k => k_is))
    (case F60 => (refine' L2.ax ?l ?c ?k; (case l => k_is); (case c => k_is); case k => k_is))
    (case fn60=>k_is)
    (case F61 => (refine' L2.ax ?l ?c ?k; (case l => k_is); (case c => k_is); case k => k_is))
    (case fn61=>k_is)
    (case F62 => (refine' L2.ax ?l ?c ?k; (case l => k_is); (case c => k_is); case k => k_is))
    (case F63 => (refine' L2.ax ?l ?c ?k; (case l => k_is); (case c => k_is); case k => k_is))
    (case F64 => (refine' L2.ax ?l ?c ?k; (case l => k_is); (case c => k_is); case k => k_is))
    (case F65 => (refine' L2.ax ?l ?c ?k; (case l => k_is); (case c => k_is); case k => k_is))
    (case F66 => (refine' L2.ax ?l ?c ?k; (case l => k_is); (case c => k_is); case k => k_is))
    (case F67 => (refine' L2.ax ?l ?c ?k; (case l => k_is); (case c => k_is); case k => k_is))
    (case fn67=>k_is)
    (case F68 => (refine' L2.ax ?l ?c ?k; (case l => k_is); (case c => k_is); case k => k_is))
    (case F69 => (refine' L2.ax ?l ?c ?k; (case l => k_is); (case c => k_is); case k => k_is))
    (case F70 => (refine' L2.ax ?l ?c ?k; (case l => k_is); (case c => k_is); case k => k_is))
    (case EW=>k_is);(case EX=>k_is);(case EY=>k_is);(case EZ=>k_is);(case E2=>k_is);(case E3=>k_is);(case Hu=>k_is);(case Hv=>k_is);(case Hw=>k_is);(case Hx=>k_is);(case Hy=>k_is);(case Hz=>k_is);(case E4=>k_is);(case E5=>k_is);(case E6=>k_is);(case E7=>k_is);(case E8=>k_is);(case E9=>k_is);(case GS=>k_is);(case GT=>k_is);(case GU=>k_is);(case GV=>k_is);(case GW=>k_is);(case GX=>k_is);(case Ga=>k_is);(case Gb=>k_is);(case Gc=>k_is);(case Gd=>k_is);(case Ge=>k_is);(case Gf=>k_is);(case Fa=>k_is);(case Fb=>k_is);(case Fc=>k_is);(case Fd=>k_is);(case Fe=>k_is);(case Ff=>k_is);(case Es=>k_is);(case Et=>k_is);(case Eu=>k_is);(case Ev=>k_is);(case Ew=>k_is);(case Ex=>k_is);(case GY=>k_is);(case GZ=>k_is);(case G0=>k_is);(case G1=>k_is);(case G2=>k_is);(case G3=>k_is);(case Fg=>k_is);(case Fh=>k_is);(case Fi=>k_is);(case Fj=>k_is);(case Fk=>k_is);(case Fl=>k_is);(case CF=>k_is);(case Dm=>k_is);(case CG=>k_is);(case C4=>k_is);(case CM=>k_is);(case CH=>k_is);(case Ca=>k_is);(case C5=>k_is);(case CN=>k_is);(case DB=>k_is);(case CO=>k_is);(case Dn=>k_is);(case C6=>k_is);(case B8=>k_is);(case Ce=>k_is);(case CC=>k_is);(case CP=>k_is);(case DC=>k_is);(case CQ=>k_is);(case Do=>k_is);(case C7=>k_is);(case B9=>k_is);(case Cf=>k_is);(case CD=>k_is);(case C8=>k_is);(case DN=>k_is);(case C9=>k_is);(case DD=>k_is);(case Dp=>k_is);(case Cb=>k_is);(case CI=>k_is);(case CL=>k_is);(case CS=>k_is);(case DE=>k_is);(case CT=>k_is);(case Dq=>k_is);(case Da=>k_is);(case CU=>k_is);(case Cg=>k_is);(case Dr=>k_is);(case CV=>k_is);(case CW=>k_is);(case Db=>k_is);(case Gg=>k_is);(case Gh=>k_is);(case DF=>k_is);(case DG=>k_is);(case Dc=>k_is);(case Dd=>k_is);(case De=>k_is);(case Df=>k_is);(case Ds=>k_is);(case Dt=>k_is);(case DO=>k_is);(case DP=>k_is);(case CY=>k_is);(case CZ=>k_is);(case Ch=>k_is)
    (case Ci => first | exact rfl | with_unfolding_all rfl)
    (case Cj=>k_is)
    (case Ck => first | exact rfl | with_unfolding_all rfl)
    (case Cm=>k_is)
    (case Cn => first | exact rfl | with_unfolding_all rfl)
    (case Cp=>k_is)
    (case Cq => first | exact rfl | with_unfolding_all rfl)
    (case Cr=>k_is)
    (case Cs => first | exact rfl | with_unfolding_all rfl)
    (case Ct=>k_is)
    (case Cu => first | exact rfl | with_unfolding_all rfl)
    (case Cv=>k_is)
    (case Cw => first | exact rfl | with_unfolding_all rfl)
    (case Cy=>k_is)
    (case Cz => first | exact rfl | with_unfolding_all rfl)
    (case CA=>k_is)
    (case CB => first | exact rfl | with_unfolding_all rfl)
    (case Fm=>k_is);(case DQ=>k_is);(case Du=>k_is);(case DH=>k_is);(case DR=>k_is);(case Ey=>k_is);(case DS=>k_is);(case Ez=>k_is);(case z_len=>k_is);(case z_abs=>k_is);(case z_min=>k_is);(case z_max=>k_is);(case z_sorted=>k_is);(case z_any=>k_is);(case z_isinstance=>k_is);(case z_list=>k_is);(case z_int=>k_is);(case z_bool=>k_is);(case z_str=>k_is);(case z_tuple=>k_is);(case z_reversed=>k_is);(case z_set=>k_is);(case z_range=>k_is);(case z_zip=>k_is);(case z_all=>k_is);(case z_sum=>k_is);(case z_enumerate=>k_is)
